import PyProof.Rows.All
import Wide.All
import OpenK.AllK
import Wide.FinOn
import Lean
import PyProof.EqAt
import PyProof.EqKinds
import PyProof.TupleCall
import KE.KRevIter
import PyProof.NeKinds
import PyProof.Draws
import PyProof.EnumMake
import KE.KSortTup
import PyProof.ZipIter
import KE.KDictList
import PyProof.AttrMissHeap
import KE.KDictOf
import PySem.Challenge.RW_wordwishes_k30_whole_counts_come_to_all
set_option Elab.async false
set_option linter.all false
set_option maxRecDepth 100000
set_option maxHeartbeats 4000000
set_option bootstrap.genMatcherCode false
set_option compiler.extract_closed false
noncomputable section
open PySem.W renaming Frag->o0,emptyDict->O9,instObj->R3,findIn->S3,keepIn->V4,fnOf->X7
open PySem renaming Value->u8,wpAny_bind->I0,Shared->J0,sizeLine->J3,wpAny_pure->J5,Addr->J8,starEach->K2,wpAny->K4,Expr->K5,model->K7,Program->L1,compareOp->L3,Builtin->L4,Heap->L6,wpAny_mono->L8,Around->N1,wpAny_newObj_type->N2,NameKind->O0,mem_of_lookup->O1,wpAny_truthy_bool->O4,World->O6,foldedSetIterable->O8,binaryOp->P7,assignEach->P9,wpAny_callSpecial?_slot->Q7,bootBuiltins->Q8,Paired->R1,wpAny_holding->S2,FuncData->S6,sysModules->S7,wpAny_passesOwn->S8,mainGlobals->T3,behindInMarks->T4,wpAny_field->T9,wpAny_getItem_str_slice->U0,Spec->U2,tupleKind_room_in1->U3,letOwnedTupleGo->U5,wpAny_standAt->U7,attributeBase->U9,codeAny->V2,eval->V3,wpAny_call_entry->V5,Scope->V6,backTo->V8,wpAny_Call_Name_kw->W3,wpAny_loadPart'->W5,sliceBounds->X1,codeAny_mono->X6,Comprehension->Z3,wpAny_execs_nil->Z4,swapsWith->Z5,assign->Z6,getItem->Z8,post_val_or_str->aa0,cLine->aa1,call_meets->aa5,sizeLine_eq->aa7,Stmt->ab0,tupleKind->ab1,Within->ab2,holding->ab3,Keyword->ab5,wpAny_typeOf->ab6,typeIs_int->ac0,standAt->ac3,subscripted->ac4,keywordEach->ac5,callerA->ac6,CmpOp->ac7,IsPart->ac9,valueAt->ad2,pyIter->ad3,Operator->ad4,inplaceOp->ad8,PassesOwn->ad9,lastMarks->ae0,DictEntry->ae1,Result->ae2,BindsTo->ae3,cellsFrom->ae4
open PySem.Heap renaming get?_push_of_some->J1,lt_size->J7,get?_push_size->J9,SameBut->S1,size_push->X5
open List renaming size_toArray->J4,mem_append_right->K0,replicate->K1,map_cons->L7,mem_cons_of_mem->L9,getElem?_eq_some_iff->M9,length_cons->N5,getElem?_append_left->N7,lookup_cons->O2,length_append->O5,mem_cons->O7,mem_cons_self->P4,mem_singleton->P6,replicate_succ->Q0,any_cons->Q5,getElem?_map->Q9,filterMap_cons->R4,find?_cons->R5,getElem?_set_self->R6,getElem?_append_right->R7,flatten_cons->T0,lookup->T7,getElem?_replicate->T8,length_map->U6,getElem?_set_ne->V1,range->V7,mem_append->V9,mem_filterMap->W0,length_nil->W1,nodup_cons->W4,all_cons->W6,reverse_cons->X4,all_eq_true->Z0,append_nil->Z7,length->aa8,foldl->ad1
open Nat renaming le_refl->J6,ne_of_lt->K3,lt_of_lt_of_le->K6,le_trans->L5,lt_succ_of_lt->R0,zero_le->S4,lt_irrefl->T1,lt_succ_self->U1,le_of_lt->U4,ne_of_gt->ab4
open PyProof.Rows renaming slot_tuple_getitem->K8,slicePart_none->aa3,kindOf->aa4,AllBare->aa6,tupleItemsOf_->aa9,envOfC->ac8,Subscript_->ad0,IsTup->ad7
open PySem.Builtin.Tuple renaming tupleExact->K9,tupleItemsOf->R9
open Bool renaming false_ne_true->M7,and_eq_true->N6,false_eq_true->N9
open PySem.Value renaming ref->N3,none->W9,type->ab8,int->ad5,str->ad6
open Option.some renaming inj->N4
open PySem.Builtin.Slice renaming slicePlaces->N8,sliceApplied->R8
open PySem.SeqAt renaming EqAt->O3
open Option renaming some->P3,isSome_iff_exists->S9,map_some->W8
open ForInStep renaming yield->P5
open False renaming elim->P8
open PySem.NameKind renaming free->Q6,cell->W7
open PySem.F renaming slot_tuple_iterator_next->S0,slot_int_rmul->Z9
open PySem.Builtin.SmallTypes renaming nextOf->S5
open Array renaming length_toList->T5
open PySem.Builtin.Str renaming occurrences->T6
open True renaming intro->U8
open PySem.Code renaming compLoop->V0
open Ne renaming symm->X0
open PySem.Str renaming ofString->X8
open Pure renaming pure->X9
open PySem.Paired renaming length->Z1
open Int renaming le_of_lt->aa2
open PySem.Txt renaming slice_le->ab7,slice->ae5
open PySem.Obj renaming mapSeq->ab9
open Sum renaming inl->ac1,inr->ac2
open LawfulMonad renaming pure_bind->ae6
set_option compiler.extract_closed false
namespace L2
open PySem PySem.Spec PyProof.Rows
abbrev Key:=Sum Int Str
noncomputable def ni:Key->u8->Bool
 |.inl k,v=>u8.isInt k v
 |.inr x,v=>u8.isStrOf x v
noncomputable def Iz(w:O6):Key->Int
 |.inl k=>hashInt k
 |.inr x=>hashStr w x
theorem bI:∀{k:Key}{v:u8},ni k v=true->(∃i t,k=ac1 i/\v=ad5 i t)∨(∃x t,k=ac2 x/\v=ad6 x t)
 |.inl i,v,h=>by
  obtain⟨t,e⟩:=u8.isInt_shape (k:=i) (v:=v) h;exact .inl ⟨i,t,rfl,e⟩
 |.inr x,v,h=>by
  obtain⟨t,e⟩:=u8.isStrOf_shape (x:=x) (v:=v) h;exact .inr ⟨x,t,rfl,e⟩
theorem xF(i:Int) (t:Tok):ni (.inl i) (.int i t)=true:=by simp[ni,u8.isInt]
theorem xh(x:Str) (t:Tok):ni (.inr x) (.str x t)=true:=by simp[ni,u8.isStrOf]
theorem Fh(a b:Int):decide ((ac1 a:Key)=ac1 b)=(a==b):=by
 by_cases e:a=b
 ·subst e;simp
 ·have h:¬ (ac1 a:Key)=ac1 b:=fun q=>e (ac1.inj q);rw[decide_eq_false h];exact(beq_eq_false_iff_ne.mpr e).symm
theorem FB(a b:Str):decide ((ac2 a:Key)=ac2 b)=decide (a=b):=by
 by_cases e:a=b
 ·subst e;simp
 ·have h:¬ (ac2 a:Key)=ac2 b:=fun q=>e (ac2.inj q);rw[decide_eq_false h,decide_eq_false e]
theorem EH(a:Int) (b:Str):decide ((ac1 a:Key)=ac2 b)=false:=decide_eq_false (fun q=>nomatch q)
theorem Fi(a:Str) (b:Int):decide ((ac2 a:Key)=ac1 b)=false:=decide_eq_false (fun q=>nomatch q)
def aP(prog:L1) (w:O6):PySem.KeyKind prog w Key where
 is:=ni
 hash:=Iz w
 inj:=fun v a b ha hb=>by
  rcases bI ha with⟨i,t,rfl,rfl⟩|⟨x,t,rfl,rfl⟩
  ·rcases bI hb with⟨j,u,rfl,e⟩|⟨y,u,rfl,e⟩
   ·injection e with e1 _;rw[e1]
   ·exact nomatch e
  ·rcases bI hb with⟨j,u,rfl,e⟩|⟨y,u,rfl,e⟩
   ·exact nomatch e
   ·injection e with e1 _;rw[e1]
 byValue:=fun k v h=>by
  rcases bI h with⟨i,t,rfl,rfl⟩|⟨x,t,rfl,rfl⟩<;>rfl
 pyHash:=fun hv h=>by
  rcases bI hv with⟨i,t,rfl,rfl⟩|⟨x,t,rfl,rfl⟩
  ·exact wpAny_pyHash_int h
  ·exact wpAny_pyHash_str h
 eqBool:=fun hu hv h=>by
  rcases bI hu with⟨i,t,rfl,rfl⟩|⟨x,t,rfl,rfl⟩
  ·rcases bI hv with⟨j,u,rfl,rfl⟩|⟨y,u,rfl,rfl⟩
   ·rw[Fh]at h;exact wpAny_eqBool_int h
   ·rw[EH]at h;exact O3.int_str i t y u _ _ _ _ h
  ·rcases bI hv with⟨j,u,rfl,rfl⟩|⟨y,u,rfl,rfl⟩
   ·rw[Fi]at h;exact O3.str_int x t j u _ _ _ _ h
   ·rw[FB]at h;exact wpAny_eqBool_str h
 «strs»:=fun k x t v h=>by
  rcases bI h with⟨i,u,rfl,e⟩|⟨y,u,rfl,e⟩
  ·exact nomatch e
  ·injection e with e1 _
   subst e1;cases v<;>rfl
theorem t5(prog:L1) (w:O6) (i:Int) (t:Tok):(aP prog w).is (.inl i) (.int i t)=true:=xF i t
theorem tU(prog:L1) (w:O6) (x:Str) (t:Tok):(aP prog w).is (.inr x) (.str x t)=true:=xh x t
inductive V where
 |non|bl (b:Bool)|int (i:Int)|str (x:Str)|byt (b:Array UInt8)|flt (b:UInt64)|ref (a:J8)|ty (n:String)
 deriving DecidableEq
def aI:V->u8->Prop
 |.non,u=>u=W9
 |.bl b,u=>u=u8.bool b
 |.int i,u=>∃t,u=ad5 i t
 |.str x,u=>∃t,u=ad6 x t
 |.byt b,u=>∃t,u=u8.bytes b t
 |.flt b,u=>∃t,u=u8.float b t
 |.ref a,u=>u=N3 a
 |.ty n,u=>u=ab8 n
abbrev az:List V->List u8->Prop:=R1 aI
theorem az.length{xs:List V}{us:List u8}(r:az xs us):xs.length=us.length:=Z1 r
theorem az.get:∀{xs:List V}{us:List u8}{i:Nat}{x:V},az xs us->xs[i]?=some x->∃u,us[i]?=some u/\aI x u
 |_,_,_,_,.nil,e=>by simp at e
 |_,_,0,_,.cons r _,e=>by simp at e;subst e;exact⟨_,rfl,r⟩
 |_,_,i+1,x,.cons _ t,e=>by
  obtain⟨u,h1,h2⟩:=az.get (i:=i) (x:=x) t (by simpa using e);exact⟨u,by simpa using h1,h2⟩
theorem az.set{x:V}{u:u8}(r:aI x u):∀{xs:List V}{us:List u8}(i:Nat),az xs us->az (xs.set i x) (us.set i u)
 |_,_,_,.nil=>.nil
 |_,_,0,.cons _ t=>.cons r t
 |_,_,i+1,.cons q t=>.cons q (az.set r i t)
theorem az.append:∀{xs ys:List V}{us ws:List u8},az xs us->az ys ws->az (xs++ys) (us++ws)
 |_,_,_,_,.nil,s=>s
 |_,_,_,_,.cons r t,s=>.cons r (az.append t s)
theorem az.take:∀{xs:List V}{us:List u8}(n:Nat),az xs us->az (xs.take n) (us.take n)
 |_,_,0,_=>.nil
 |_,_,_+1,.nil=>.nil
 |_,_,n+1,.cons r t=>.cons r (az.take n t)
theorem az.drop:∀{xs:List V}{us:List u8}(n:Nat),az xs us->az (xs.drop n) (us.drop n)
 |_,_,0,r=>r
 |_,_,_+1,.nil=>.nil
 |_,_,n+1,.cons _ t=>az.drop n t
def jt:Option V->Option u8->Prop
 |some v,some u=>aI v u
 |none,none=>True
 |_,_=>False
def KV{κ:Type}:List (κ×V)->List (κ×u8)->Prop:=R1 fun(p:κ×V) (q:κ×u8)=>p.1=q.1/\aI p.2 q.2
noncomputable def kV:Key->V
 |.inl i=>.int i
 |.inr x=>.str x
inductive HO where
 |lst (xs:List V)
 |tup (xs:List V)
 |dK (kvs:List (Key×V))|dT (kvs:List (List Key×V))
 |set (S:Int->Bool) (n:Nat)
 |ins (C dx:J8) (fs:List (Str×V))
 |own (x:J8)
 |xd (fs:List (Str×V))
 |met (f x:J8)
 |rng (lo hi:Int)
 |frz (o:Obj) (u:HO)
 |tbl (ps:Array u8)
 |ext (φ:L6->Prop)
abbrev Hp:=J8->Option HO
noncomputable def upd(H:Hp) (a:J8) (o:HO):Hp:=fun b=>if b=a then some o else H b
theorem aB{H:Hp}{a:J8}{o:HO}:upd H a o a=some o:=by unfold upd;rw[if_pos rfl]
theorem aL{H:Hp}{a b:J8}{o:HO}(h:b≠a):upd H a o b=H b:=by unfold upd;rw[if_neg h]
theorem A5{H:Hp}{a b:J8}{o u:HO}(h:H a=some o) (h':H b=some u) (d:o≠u):a≠b:=by
 intro e;subst e;rw[h]at h';exact d (N4 h')
theorem cE{H:Hp}{a b:J8}{o:HO}(h:H a=some o) (h':H b=none):a≠b:=by
 intro e;subst e;rw[h]at h';cases h'
def jY(h:L6) (a:J8) (xs:Array u8):Prop:=∃o,h.get? a=some o/\o.cls=.type "tuple"/\(∃n,o.data=.seq xs n)/\o.dict=none
theorem jY.tup{h:L6}{a:J8}{xs:Array u8}(x:jY h a xs):ad7 h a xs:=let⟨o,e,c,d,_⟩:=x;⟨o,e,c,d⟩
theorem jY.lt{h:L6}{a:J8}{xs:Array u8}(x:jY h a xs):a<h.objs.size:=let⟨_,e,_⟩:=x;J7 e
theorem jY.new(h:L6) (xs:Array u8):jY (h.push { cls:=.type "tuple",data:=.seq xs }) h.objs.size xs:=⟨_,J9 h rfl,rfl,⟨_,rfl⟩,rfl⟩
section
variable(P:L1) (w:O6)
def cm(H:Hp) (h:L6) (a:J8):HO->Prop
 |.lst xs=>xs.length<=J3/\∃(its:List u8) (n:Nat),az xs its/\h.get? a=some { cls:=.type "list",data:=.seq its.toArray n }
 |.tup xs=>xs.length<=J3/\∃its:List u8,az xs its/\jY h a its.toArray
 |.dK kvs=>kvs.length<=J3/\(a==S7)=false/\∃vs,KV kvs vs/\h.DictOf (aP P w) a vs
 | .dT kvs => kvs.length ≤ J3 ∧ (a == S7) = false ∧ ∃ xs:List (List Key × J8 × u8),
   R1 (fun(p:List Key×V) (q:List Key×J8×u8)=>p.1=q.1/\H q.2.1=some (.tup (p.1.map kV))/\aI p.2 q.2.2) kvs xs /\
   ∃o es ep,h.get? a=some o/\o.ExactDict/\o.data=.dict es ep/\es.toList=xs.map (entryOfKey (ab1 (aP P w)))/\(xs.map (·.1)).Nodup
 |.set S n=>h.SetOf (intKind P w) a S n
 | .ins C dx fs => H dx = some (.own a) ∧ fs.length ≤ 1000 ∧ dx ≠ a ∧ h.get? a = some (R3 C dx) ∧
   ∃mA,h.Ns1 dx mA/\(∀f,jt (fs.lookup f) (mA f))/\ab2 mA (fs.map (·.1))
 |.own _=>∃o,h.get? a=some o
 |.xd fs=>∃mA,h.Ns1 a mA/\∀f,jt (fs.lookup f) (mA f)
 |.rng lo hi=>∃t u v,h.get? a=some { cls:=.type "range",data:=.fields #[.int lo t,.int hi u,.int 1 v] }
 |.frz o u=>h.get? a=some o/\cm H h a u
 |.tbl ps=>h.get? a=some { cls:=.none,data:=.fields ps }
 |.met f x=>h.get? a=some (PySem.W.methodObj (.ref f) (.ref x))
 |.ext φ=>φ h/\(∃o,h.get? a=some o)/\∀h1 h2:L6,φ h1->(∀o,h1.get? a=some o->h2.get? a=some o)->φ h2
def HOk(H:Hp) (h:L6):Prop:=∀a o,H a=some o->cm P w H h a o
end
section
variable{P:L1}{w:O6}{H H':Hp}{h h':L6}{a:J8}{o:HO}
theorem cm.lt(x:cm P w H h a o):a<h.objs.size:=by
 cases o with
 |lst xs=>obtain⟨_,_,_,_,e⟩:=x;exact J7 e
 |tup xs=>obtain⟨_,_,_,p⟩:=x;exact p.lt
 |dK kvs=>obtain⟨_,_,_,_,o,_,_,e,_⟩:=x;exact J7 e
 |dT kvs=>obtain⟨_,_,_,_,o,_,_,e,_⟩:=x;exact J7 e
 |set S n=>obtain⟨o,_,_,_,e,_⟩:=x;exact J7 e
 |ins C dx fs=>obtain⟨_,_,_,e,_⟩:=x;exact J7 e
 |own y=>obtain⟨_,e⟩:=x;exact J7 e
 |xd fs=>obtain⟨_,⟨_,_,_,e,_⟩,_⟩:=x;exact J7 e
 |rng lo hi=>obtain⟨_,_,_,e⟩:=x;exact J7 e
 |frz ob u=>obtain⟨e,_⟩:=x;exact J7 e
 |tbl ps=>exact J7 (show h.get? a=some _ from x)
 |met f y=>exact J7 (show h.get? a=some _ from x)
 |ext φ=>obtain⟨_,⟨_,e⟩,_⟩:=x;exact J7 e
theorem R1.mapP{α β:Type}{F G:α->β->Prop}:∀{l₁:List α}{l₂:List β},R1 F l₁ l₂->(∀a b,F a b->G a b)->R1 G l₁ l₂
 |_,_,.nil,_=>.nil
 |_,_,.cons r t,f=>.cons (f _ _ r) (R1.mapP t f)
theorem R1.imp'{α β:Type}{F G:α->β->Prop}(f:∀a b,F a b->G a b) {l₁:List α}{l₂:List β}(r:R1 F l₁ l₂):R1 G l₁ l₂:=R1.mapP r f
theorem cm.stay(x:cm P w H h a o) (k:∀b u,(b=a∨H b=some (.own a))->h.get? b=some u->h'.get? b=some u)
  (ho:∀b,H b=some (.own a)->H' b=some (.own a)) (ht:∀b xs,H b=some (.tup xs)->H' b=some (.tup xs)):cm P w H' h' a o:=by
 induction o with
 |lst xs=>obtain⟨z,its,n,r,e⟩:=x;exact⟨z,its,n,r,k _ _ (.inl rfl) e⟩
 |tup xs=>obtain⟨z,its,r,ob,e,c⟩:=x;exact⟨z,its,r,ob,k _ _ (.inl rfl) e,c⟩
 |dK kvs=>obtain⟨z,y,vs,r,ob,es,ep,e,c⟩:=x;exact⟨z,y,vs,r,ob,es,ep,k _ _ (.inl rfl) e,c⟩
 |dT kvs =>
  obtain⟨z,y,xs,r,ob,es,ep,e,c⟩:=x;exact⟨z,y,xs,R1.mapP r fun p q z=>⟨z.1,ht _ _ z.2.1,z.2.2⟩,ob,es,ep,k _ _ (.inl rfl) e,c⟩
 |set S n=>obtain⟨ob,es,ep,t,e,c⟩:=x;exact⟨ob,es,ep,t,k _ _ (.inl rfl) e,c⟩
 |ins C dx fs =>
  obtain⟨d,z,ne,e,mA,⟨od,es,ep,e2,c⟩,r⟩:=x;exact⟨ho _ d,z,ne,k _ _ (.inl rfl) e,mA,⟨od,es,ep,k _ _ (.inr d) e2,c⟩,r⟩
 |own y=>obtain⟨ob,e⟩:=x;exact⟨ob,k _ _ (.inl rfl) e⟩
 |xd fs=>obtain⟨mA,⟨od,es,ep,e,c⟩,r⟩:=x;exact⟨mA,⟨od,es,ep,k _ _ (.inl rfl) e,c⟩,r⟩
 |rng lo hi=>obtain⟨t,u,v,e⟩:=x;exact⟨t,u,v,k _ _ (.inl rfl) e⟩
 |frz ob u ih=>obtain⟨e,q⟩:=x;exact⟨k _ _ (.inl rfl) e,ih q⟩
 |tbl ps =>
  have e:h.get? a=some { cls:=.none,data:=.fields ps }:=x;show h'.get? a=some { cls:=.none,data:=.fields ps };exact k a _ (.inl rfl) e
 |met f y =>
  have e:h.get? a=some (PySem.W.methodObj (.ref f) (.ref y)):=x;show h'.get? a=some (PySem.W.methodObj (.ref f) (.ref y));exact k a _ (.inl rfl) e
 |ext φ=>obtain⟨p,⟨o,e⟩,st⟩:=x;exact⟨st _ _ p fun o q=>k _ _ (.inl rfl) q,⟨o,k _ _ (.inl rfl) e⟩,st⟩
theorem HOk.lt(x:HOk P w H h) (e:H a=some o):a<h.objs.size:=(x a o e).lt
theorem HOk.fresh(x:HOk P w H h) (e:h.objs.size<=a):H a=none:=by
 cases q:H a with
 |none=>rfl
 |some u=>exact absurd (K6 (x.lt q) e) (T1 _)
theorem HOk.kept(x:HOk P w H h) (k:∀b u,h.get? b=some u->h'.get? b=some u):HOk P w H h':=fun a o e =>
 (x a o e).stay (fun b u _ q=>k b u q) (fun _ q=>q) fun _ _ q=>q
theorem HOk.laid(x:HOk P w H h) (k:∀b u,h.get? b=some u->h'.get? b=some u) (hp:h.objs.size<=a) (new:cm P w (upd H a o) h' a o):HOk P w (upd H a o) h':=fun b u e=>by
 have hn:=x.fresh hp
 by_cases hb:b=a
 ·subst hb;rw[aB]at e;cases e;exact new
 ·rw[aL hb]at e;exact(x b u e).stay (fun c v _ q=>k c v q) (fun c q=>by rw[aL (cE q hn)];exact q) fun c xs q=>by rw[aL (cE q hn)];exact q
end
def Rd(H:Hp) (a:J8) (u:HO):Prop:=H a=some u∨∃o,H a=some (.frz o u)
theorem Rd.of{H:Hp}{a:J8}{u:HO}(h:H a=some u):Rd H a u:=.inl h
theorem Rd.ok{P:L1}{w:O6}{H:Hp}{h:L6}{a:J8}{u:HO}(r:Rd H a u) (x:HOk P w H h):cm P w H h a u:=by
 rcases r with r|⟨o,r⟩
 ·exact x a u r
 ·obtain⟨_,q⟩:=x a _ r;exact q
def Mut:Option HO->Prop
 |some (.lst _)=>True
 |some (.dK _)=>True
 |some (.dT _)=>True
 |some (.set _ _)=>True
 |some (.ins _ _ _)=>True
 |some (.ext _)=>True
 |_=>False
section
variable{P:L1}{w:O6}{H:Hp}{h h':L6}{x e:J8}{o':HO}
theorem HOk.write(ok:HOk P w H h) (mu:Mut (H x)) (he:e=x∨H e=some (.own x)) (k:∀b u,b≠e->h.get? b=some u->h'.get? b=some u) (heo:∃u,h'.get? e=some u)
  (new:cm P w (upd H x o') h' x o'):HOk P w (upd H x o') h':=fun b u q=>by
 have nown:∀c y,H c=some (.own y)->c≠x:=fun c y r z=>by subst z;rw[r]at mu;exact mu
 have ntup:∀c xs,H c=some (.tup xs)->c≠x:=fun c xs r z=>by subst z;rw[r]at mu;exact mu
 by_cases hb:b=x
 ·subst hb;rw[aB]at q;cases q;exact new
 ·rw[aL hb]at q
  by_cases hbe:b=e
  ·have q':H b=some (.own x):=by
    rcases he with z|z
    ·exact absurd (hbe.trans z) hb
    ·rw[hbe];exact z
   rw[q]at q';cases q';obtain⟨v,hv⟩:=heo;exact⟨v,by rw[hbe];exact hv⟩
  ·refine(ok b u q).stay (fun c v hc r=>k c v ?_ r) (fun c r=>by rw[aL (nown c b r)];exact r) fun c xs r=>by rw[aL (ntup c xs r)];exact r
   rcases hc with rfl|hc
   ·exact hbe
   ·rintro rfl;rcases he with z|z
    ·exact nown c b hc z
    ·rw[hc]at z;cases z;exact hb rfl
end
structure Un(fs ex:List J8) (H H':Hp) (h h':L6):Prop where
 keep:∀b o,h.get? b=some o->H b=none->b∉fs->b∉ex->h'.get? b=some o
 slot:∀b o,h.get? b=some o->H b=none->b∈fs->b∉ex->∃sl,h'.get? b=some { o with slots:=sl }
 free:∀b o,h.get? b=some o->H b=none->b∉ex->H' b=none
 there:∀b o,h.get? b=some o->b∉ex->∃o',h'.get? b=some o'
 tups:∀b xs,H b=some (.tup xs)->H' b=some (.tup xs)
 frzs:∀b o u,H b=some (.frz o u)->H' b=some (.frz o u)
 tbls:∀b ps,H b=some (.tbl ps)->∃more,H' b=some (.tbl (ps++more))
section
variable{fs fs' ex ex':List J8}{H H1 H2:Hp}{h h1 h2 h':L6}{a x e:J8}{o:HO}
theorem Un.any(u:Un fs ex H H1 h h1) {b:J8}{ob:Obj}(q:h.get? b=some ob) (n:H b=none) (hx:b∉ex):∃sl,h1.get? b=some { ob with slots:=sl }:=by
 by_cases hb:b∈fs
 ·exact u.slot b ob q n hb hx
 ·exact⟨ob.slots,u.keep b ob q n hb hx⟩
theorem Un.kept(k:∀b u,h.get? b=some u->h'.get? b=some u):Un fs ex H H h h' :=
 ⟨fun b ob q _ _ _=>k b ob q,fun b ob q _ _ _=>⟨ob.slots,k b ob q⟩,fun _ _ _ n _=>n,fun b ob q _=>⟨ob,k b ob q⟩,fun _ _ q=>q,fun _ _ _ q=>q,fun _ ps q=>⟨#[],by rw[q];simp⟩⟩
theorem Un.refl:Un fs ex H H h h:=Un.kept fun _ _ q=>q
theorem Un.laid(k:∀b u,h.get? b=some u->h'.get? b=some u) (hp:h.objs.size<=a) (hn:H a=none):Un fs ex H (upd H a o) h h' where
 keep:=fun b u q _ _ _=>k b u q
 slot:=fun b u q _ _ _=>⟨u.slots,k b u q⟩
 free:=fun b u q n _=>by rw[aL (K3 (K6 (J7 q) hp))];exact n
 there:=fun b u q _=>⟨u,k b u q⟩
 tups:=fun b xs q=>by rw[aL (cE q hn)];exact q
 frzs:=fun b u xs q=>by rw[aL (cE q hn)];exact q
 tbls:=fun b ps q=>⟨#[],by rw[aL (cE q hn),q];simp⟩
theorem Un.write(mu:Mut (H x)) (he:e=x∨H e=some (.own x)) (k:∀b u,b≠e->h.get? b=some u->h'.get? b=some u) (heo:∃u,h'.get? e=some u):Un fs ex H (upd H x o) h h':=by
 have hx:∀b,H b=none->b≠x:=fun b n z=>by subst z;rw[n]at mu;exact mu
 have hb:∀b,H b=none->b≠e:=fun b n z=>by
  subst z;rcases he with r|r
  ·exact hx b n r
  ·rw[n]at r;cases r
 have hm:∀b u,H b=some u->¬ Mut (some u)->b≠x:=fun b u q nm z=>by subst z;rw[q]at mu;exact nm mu
 refine⟨fun b u q n _ _=>k b u (hb b n) q,fun b u q n _ _=>⟨u.slots,k b u (hb b n) q⟩,fun b u q n _=>by rw[aL (hx b n)];exact n,fun b u q _=>?_,
  fun b xs q=>by rw[aL (hm b _ q fun z=>z)];exact q,fun b u xs q=>by rw[aL (hm b _ q fun z=>z)];exact q,fun b ps q=>⟨#[],by rw[aL (hm b _ q fun z=>z),q];simp⟩⟩
 by_cases hbe:b=e
 ·subst hbe;exact heo
 ·exact⟨u,k b u hbe q⟩
end
noncomputable def trk(h:L6) (H:Hp):List J8:=(V7 h.objs.size).filter fun a=>(H a).isSome
def qX(h:L6) (H:Hp):L6:=PySem.W.hideAll h (trk h H)
theorem xx(h:L6) (H:Hp):(qX h H).objs.size=h.objs.size:=PySem.W.hideAll_size _ _
theorem Al{h:L6}{H:Hp}{b:J8}{o:Obj}(e:h.get? b=some o) (n:H b=none):(qX h H).get? b=some o :=
 PySem.W.hideAll_get _ e fun hm=>by
  have q:(H b).isSome=true:=(List.mem_filter.mp hm).2;rw[n]at q;simp at q
theorem B3{h:L6}{H:Hp}{b:J8}{o:Obj}(e:(qX h H).get? b=some o):h.get? b=some o/\H b=none:=by
 have e':h.get? b=some o:=PySem.W.of_hideAll (trk h H) e;refine⟨e',?_⟩;cases q:H b with
 |none=>rfl
 |some x =>
  have hm:b∈trk h H:=List.mem_filter.mpr ⟨List.mem_range.mpr (J7 e'),by simp[q]⟩;have z:(qX h H).get? b=none:=PySem.W.hideAll_none (trk h H) hm;rw[z]at e;cases e
noncomputable def BZ(g h:L6) (L:J8):List (J8×Obj):=(V7 h.objs.size).filterMap fun a=>if a=L∨(g.get? a).isSome=true then none else(h.get? a).map fun o=>(a,o)
def bS(g h:L6) (L d:J8):List (J8×Obj):=(BZ g h L).filter fun p=>decide (p.1≠d)
structure Mod(K:o0) (mg:Str->Option u8) (base:L6):Prop where
 kin:K.In base
 glob:base.Ns T3 mg
 blt:∃mb,base.Ns builtinsNs mb/\∀x:Str,x≠"__name__"->mb x=Q8 x
 nolimit:base.NoLimit
structure Cx where
 prog:L1
 w:O6
 K:o0
 mg:Str->Option u8
 base:L6
 A:N1
 N:List Str
 s₀:J0
 H₀:Hp
 env:Env
 outer:List Env
 stack:List Env
 ex:List J8
 fn:Str->Bool
 calm:Bool
 pn:List (J8×Obj)
 xe:u8->J0->Prop
noncomputable def frs(l:List Env):List J8:=l.filterMap (·.frame)
abbrev Cx.fs(X:Cx):List J8:=frs X.outer
def Vis(sc:V6) (x:Str):Prop:=sc.names.lookup x=some .local∨sc.names.lookup x=some .cell∨sc.names.lookup x=some .free
def Loc(sc:V6) (x:Str):Prop:=sc.names.lookup x=some .local∨sc.names.lookup x=some .cell
def IB(env:Env) (h:L6) (m:Str->Option u8) (x:Str) (u:u8):Prop :=
 (env.kindOf x=some .local/\m x=some u)∨((env.kindOf x=some .cell∨env.kindOf x=some .free)/\∃c,env.cells.lookup x=some c/\h.IsCell c (some u))
structure Cx.Ok(X:Cx):Prop where
 mod:Mod X.K X.mg X.base
 kind:X.env.scope.kind=.function
 glob:X.env.globals=T3
 blt:X.env.builtins=builtinsNs
 above:X.s₀.heap.objs.size<=X.env.locals
 inj:∀x y c,X.env.cells.lookup x=some c->X.env.cells.lookup y=some c->x=y
 has:∀x,(X.env.kindOf x=some .cell∨X.env.kindOf x=some .free)->∃c,X.env.cells.lookup x=some c
 cab:∀x c,X.fn x=true->X.env.cells.lookup x=some c->X.s₀.heap.objs.size<=c
 hd:X.calm=true->X.A.handled=none
 frames:X.A.frames=some X.stack
 stk:X.stack=X.outer∨(X.stack=X.env::X.outer/\X.env.frame=some X.env.locals)
 exf:∀b∈X.ex,b≠X.env.locals/\∀x c,X.env.cells.lookup x=some c->c≠b
 bs:∀b o,X.base.get? b=some o->X.s₀.heap.get? b=some o/\X.H₀ b=none
 bsz:X.base.objs.size<=X.s₀.heap.objs.size
 noex:∀b o,X.base.get? b=some o->b∉X.ex
 exfs:∀b∈X.ex,b∉X.fs
 funs:X.s₀.heap.FunFrames X.base X.outer
 frf:∀b∈X.fs,X.H₀ b=none
structure Inv(X:Cx) (ae:List (J8×Obj)) (σ:List (Option V)) (H:Hp) (s:J0):Prop where
 ok:X.Ok
 os:s.os=X.s₀.os
 bare:aa6 s.gens
 base:Un X.fs X.ex X.H₀ H X.s₀.heap s.heap
 loc:∃m,s.heap.Ns X.env.locals m/\∀(i:Nat) (x:Str) (v:V),X.N[i]?=some x->σ[i]?=some (some v)->Vis X.env.scope x->∃u,aI v u/\IB X.env s.heap m x u
 cell:∀x c,X.env.cells.lookup x=some c->∃v,s.heap.IsCell c v
 free:H X.env.locals=none
 freeC:∀x c,X.env.cells.lookup x=some c->H c=none
 pin:∀p∈X.pn++ae,s.heap.get? p.1=some p.2/\H p.1=none/\p.1≠X.env.locals/\p.1∉X.fs/\∀v,p.2.data≠.cell v
 hok:HOk X.prog X.w H s.heap
 len:σ.length=X.N.length
section
variable{X:Cx}{ae:List (J8×Obj)}{σ:List (Option V)}{H H':Hp}{s:J0}{h':L6}
theorem Cx.Ok.nofr(ok:X.Ok) {b:J8}{o:Obj}(e:X.base.get? b=some o):b∉X.fs:=fun hb=>by
 have:=(ok.funs.mem hb).1;rw[e]at this;cases this
theorem Inv.bs(I:Inv X ae σ H s):∀b o,X.base.get? b=some o->s.heap.get? b=some o/\H b=none:=fun b o e =>
 ⟨I.base.keep b o (I.ok.bs b o e).1 (I.ok.bs b o e).2 (I.ok.nofr e) (I.ok.noex b o e),I.base.free b o (I.ok.bs b o e).1 (I.ok.bs b o e).2 (I.ok.noex b o e)⟩
theorem Inv.bk(I:Inv X ae σ H s):∀b o,X.base.get? b=some o->s.heap.get? b=some o:=fun b o e=>(I.bs b o e).1
theorem Inv.mod(I:Inv X ae σ H s):Mod X.K X.mg X.base:=I.ok.mod
theorem Inv.kIn(I:Inv X ae σ H s):X.K.In s.heap:=I.ok.mod.kin.keeps I.bk
theorem Inv.lt(I:Inv X ae σ H s):X.env.locals<s.heap.objs.size:=let⟨_,hn,_⟩:=I.loc;hn.lt
theorem Inv.sz(I:Inv X ae σ H s):X.s₀.heap.objs.size<=s.heap.objs.size:=L5 I.ok.above (U4 I.lt)
theorem Inv.nofs(I:Inv X ae σ H s) {a:J8}(h:s.heap.objs.size<=a):a∉X.fs:=fun hb=>by
 obtain⟨_,o,ho,_⟩:=I.ok.funs.mem hb;exact absurd (K6 (J7 ho) (L5 I.sz h)) (T1 _)
theorem Inv.cne(I:Inv X ae σ H s):∀x c,X.env.cells.lookup x=some c->c≠X.env.locals:=fun x c e z=>by
 obtain⟨v,o,ho,hd⟩:=I.cell x c e;obtain⟨m,⟨o',es,ep,ho',hd',_⟩,_⟩:=I.loc;rw[z,ho']at ho;cases ho;rw[hd']at hd;cases hd
theorem Inv.funs(I:Inv X ae σ H s):s.heap.FunFrames X.base X.outer:=by
 have all:∀(l:List Env),(∀b∈frs l,b∈X.fs)->X.s₀.heap.FunFrames X.base l->s.heap.FunFrames X.base l:=by
  intro l
  induction l with
  |nil=>intro _ _;trivial
  |cons env r ih =>
   intro hs hl;obtain⟨hk,⟨L,o,hf,hn,ho,hd⟩,hr⟩:=hl;have hL:L∈X.fs:=hs L (by unfold frs;rw[R4,hf];exact P4);obtain⟨sl,e⟩:=I.base.slot L o ho (I.ok.frf L hL) hL fun z=>I.ok.exfs L z hL;exact⟨hk,⟨L,_,hf,hn,e,hd⟩,ih (fun b hb=>hs b (by unfold frs;rw[R4,hf];exact L9 _ hb)) hr⟩
 exact all X.outer (fun _ hb=>hb) I.ok.funs
theorem Inv.stack(I:Inv X ae σ H s):s.heap.FunFrames X.base X.stack:=by
 rcases I.ok.stk with e|⟨e,hf⟩
 ·rw[e];exact I.funs
 ·rw[e];obtain⟨m,hn,_⟩:=I.loc;refine .cons (by rw[I.ok.kind];decide) hf hn ?_ I.funs;exact L6.get?_none_of_le (L5 I.ok.bsz I.ok.above)
theorem Inv.stkSub(I:Inv X ae σ H s):∀b∈frs X.stack,b∈X.env.locals::X.fs:=fun b hb=>by
 rcases I.ok.stk with e|⟨e,hf⟩
 ·rw[e]at hb;exact L9 _ hb
 ·rw[e]at hb;unfold frs at hb;rw[R4,hf]at hb;exact hb
theorem Inv.stkFree(I:Inv X ae σ H s):∀b∈frs X.stack,H b=none:=fun b hb=>by
 rcases O7.mp (I.stkSub b hb)with e|hb
 ·rw[e];exact I.free
 ·obtain⟨_,o,ho,_⟩:=I.ok.funs.mem hb;exact I.base.free b o ho (I.ok.frf b hb) fun z=>I.ok.exfs b z hb
theorem Inv.step{g':Array GenState}{t':Nat}{d':Drawn}{ch:List J8}(I:Inv X ae σ H s)
  (hch:∀b∈ch,(b∈X.ex∨X.s₀.heap.objs.size<=b)/\b≠X.env.locals/\(∀x c,X.env.cells.lookup x=some c->c≠b)/\∀p∈X.pn++ae,p.1≠b)
  (keep:∀b o,b≠X.env.locals->b∉X.fs->b∉ch->s.heap.get? b=some o->H b=none->h'.get? b=some o)
  (slot:∀b o,b≠X.env.locals->b∈X.fs->b∉ch->s.heap.get? b=some o->H b=none->∃sl,h'.get? b=some { o with slots:=sl }) (free:∀b o,b∉ch->s.heap.get? b=some o->H b=none->H' b=none)
  (there:∀b o,b∉ch->s.heap.get? b=some o->∃o',h'.get? b=some o')
  (tups:∀b xs,H b=some (.tup xs)->H' b=some (.tup xs)) (frzs:∀b o u,H b=some (.frz o u)->H' b=some (.frz o u)) (tbls:∀b ps,H b=some (.tbl ps)->∃more,H' b=some (.tbl (ps++more)))
  (ns:∀m,s.heap.Ns X.env.locals m->h'.Ns X.env.locals m) (hok:HOk X.prog X.w H' h') (hg:aa6 g') :
  Inv X ae σ H' { s with heap:=h',gens:=g',drawn:=d',toks:=t' }:=by
 have neL:∀b o,X.s₀.heap.get? b=some o->b≠X.env.locals:=fun b o e=>K3 (K6 (J7 e) I.ok.above);have neC:∀b o,X.s₀.heap.get? b=some o->b∉X.ex->b∉ch:=fun b o e hx hb=>by
  rcases(hch b hb).1 with z|z
  ·exact hx z
  ·exact absurd (K6 (J7 e) z) (T1 _)
 have cellK:∀x c,X.env.cells.lookup x=some c->∀v,s.heap.IsCell c v->h'.IsCell c v:=fun x c e v ⟨o,ho,hd⟩=>by
  have nch:c∉ch:=fun z=>(hch c z).2.2.1 x c e rfl
  by_cases hc:c∈X.fs
  ·obtain⟨sl,q⟩:=slot c o (I.cne x c e) hc nch ho (I.freeC x c e);exact⟨_,q,hd⟩
  ·exact⟨o,keep c o (I.cne x c e) hc nch ho (I.freeC x c e),hd⟩
 refine⟨I.ok,I.os,hg,⟨fun b o e n hb hx=>?_,fun b o e n hb hx=>?_,fun b o e n hx=>?_,fun b o e hx=>?_,fun b xs e=>tups b xs (I.base.tups b xs e),fun b o xs e=>frzs b o xs (I.base.frzs b o xs e),fun b ps e=>?_⟩,?_,fun x c e=>?_,?_,fun x c e=>?_,fun p hp=>?_,hok,I.len⟩
 ·exact keep b o (neL b o e) hb (neC b o e hx) (I.base.keep b o e n hb hx) (I.base.free b o e n hx)
 ·obtain⟨sl,e1⟩:=I.base.slot b o e n hb hx;obtain⟨sl',e2⟩:=slot b _ (neL b o e) hb (neC b o e hx) e1 (I.base.free b o e n hx);exact⟨sl',e2⟩
 ·obtain⟨o',e1⟩:=I.base.there b o e hx;exact free b o' (neC b o e hx) e1 (I.base.free b o e n hx)
 ·obtain⟨o',e1⟩:=I.base.there b o e hx;exact there b o' (neC b o e hx) e1
 ·obtain⟨m1,e1⟩:=I.base.tbls b ps e;obtain⟨m2,e2⟩:=tbls b _ e1;exact⟨m1++m2,by rw[e2,Array.append_assoc]⟩
 ·obtain⟨m,hn,hl⟩:=I.loc;refine⟨m,ns m hn,fun i x v e1 e2 e3=>?_⟩;obtain⟨u,r,l⟩:=hl i x v e1 e2 e3;refine⟨u,r,?_⟩;rcases l with l|⟨k,c,e,z⟩
  ·exact .inl l
  ·exact .inr ⟨k,c,e,cellK x c e _ z⟩
 ·obtain⟨v,z⟩:=I.cell x c e;exact⟨v,cellK x c e v z⟩
 ·obtain⟨m,⟨o,_,_,ho,_⟩,_⟩:=I.loc;exact free _ o (fun z=>(hch _ z).2.1 rfl) ho I.free
 ·obtain⟨v,o,ho,hd⟩:=I.cell x c e;exact free c o (fun z=>(hch c z).2.2.1 x c e rfl) ho (I.freeC x c e)
 ·obtain⟨e,n,ne,nf,d⟩:=I.pin p hp;have nch:p.1∉ch:=fun z=>(hch p.1 z).2.2.2 p hp rfl;exact⟨keep p.1 p.2 ne nf nch e n,free p.1 p.2 nch e n,ne,nf,d⟩
theorem Inv.un{t':Nat}(I:Inv X ae σ H s) (u:Un X.fs [] H H' s.heap h') (hok:HOk X.prog X.w H' h'):Inv X ae σ H' { s with heap:=h',toks:=t' }:=by
 obtain⟨m,⟨o,es,ep,ho,r⟩,_⟩:=id I.loc;obtain⟨sl,hL⟩:=u.any ho I.free (by simp);exact I.step (g':=s.gens) (d':=s.drawn) (ch:=[]) (fun _ z=>nomatch z) (fun b o _ hb _ e n=>u.keep b o e n hb (by simp)) (fun b o _ hb _ e n=>u.slot b o e n hb (by simp)) (fun b o _ e n=>u.free b o e n (by simp)) (fun b o _ e=>u.there b o e (by simp)) u.tups u.frzs u.tbls (fun m' hm=>by
  obtain⟨o',es',ep',ho',r'⟩:=hm;rw[ho]at ho';cases ho';exact⟨_,es',ep',hL,r'⟩) hok I.bare
theorem Inv.call{g':Array GenState}{t':Nat}{d':Drawn}{ch:List J8}(I:Inv X ae σ H s) (u:Un (frs X.stack) ch H H' s.heap h') (hok:HOk X.prog X.w H' h') (hg:aa6 g')
  (hch:∀b∈ch,(b∈X.ex∨X.s₀.heap.objs.size<=b)/\b≠X.env.locals/\(∀x c,X.env.cells.lookup x=some c->c≠b)/\∀p∈X.pn++ae,p.1≠b) :
  Inv X ae σ H' { s with heap:=h',gens:=g',drawn:=d',toks:=t' }:=by
 obtain⟨m,⟨o,es,ep,ho,r⟩,_⟩:=id I.loc;obtain⟨sl,hL⟩:=u.any ho I.free fun z=>(hch _ z).2.1 rfl;exact I.step (ch:=ch) hch (fun b o hL hb hc e n=>u.keep b o e n (fun z=>(O7.mp (I.stkSub b z)).elim hL hb) hc) (fun b o _ _ hc e n=>u.any e n hc) (fun b o hc e n=>u.free b o e n hc) (fun b o hc e=>u.there b o e hc) u.tups u.frzs u.tbls (fun m' hm=>by
  obtain⟨o',es',ep',ho',r'⟩:=hm;rw[ho]at ho';cases ho';exact⟨_,es',ep',hL,r'⟩) hok hg
theorem Inv.turned{t':Nat}{it:J8}(I:Inv X ae σ H s) (k:∀b o,b≠it->s.heap.get? b=some o->h'.get? b=some o) (hn:H it=none) (hL:it≠X.env.locals)
  (h1:it∈X.ex∨X.s₀.heap.objs.size<=it) (h2:∀x c,X.env.cells.lookup x=some c->c≠it) (h3:∀p∈X.pn++ae,p.1≠it):Inv X ae σ H { s with heap:=h',toks:=t' }:=by
 have nit:∀b u,H b=some u->b≠it:=fun b u e z=>by rw[z,hn]at e;cases e
 refine I.step (g':=s.gens) (d':=s.drawn) (ch:=[it]) (fun b hb=>?_) (fun b o _ _ hc e _=>k b o (fun z=>hc (by simp[z])) e) (fun b o _ _ hc e _=>⟨o.slots,k b o (fun z=>hc (by simp[z])) e⟩) (fun _ _ _ _ n=>n)
  (fun b o hc e=>⟨o,k b o (fun z=>hc (by simp[z])) e⟩) (fun _ _ e=>e) (fun _ _ _ e=>e) (fun b ps e=>⟨#[],by rw[e];simp⟩) (fun m hm=>?_) (fun b u e=>?_) I.bare
 ·have e:b=it:=by simpa using hb
  subst e;exact⟨h1,hL,h2,h3⟩
 ·obtain⟨o,es,ep,ho,r⟩:=hm;exact⟨o,es,ep,k _ o (X0 hL) ho,r⟩
 ·refine(I.hok b u e).stay (fun c v hc q=>k c v ?_ q) (fun _ q=>q) fun _ _ q=>q;rcases hc with z|z
  ·rw[z];exact nit b u e
  ·exact nit c _ z
theorem Inv.tok(I:Inv X ae σ H s) (t:Nat):Inv X ae σ H { s with toks:=t }:=I.un (h':=s.heap) (t':=t) Un.refl I.hok
theorem Inv.kept{t':Nat}(I:Inv X ae σ H s) (k:∀b u,s.heap.get? b=some u->h'.get? b=some u):Inv X ae σ H { s with heap:=h',toks:=t' }:=I.un (Un.kept k) (I.hok.kept k)
theorem Inv.laid{a:J8}{o:HO}{t':Nat}(I:Inv X ae σ H s) (k:∀b u,s.heap.get? b=some u->h'.get? b=some u) (hp:s.heap.objs.size<=a) (new:cm X.prog X.w (upd H a o) h' a o) :
  Inv X ae σ (upd H a o) { s with heap:=h',toks:=t' }:=I.un (Un.laid k hp (I.hok.fresh hp)) (I.hok.laid k hp new)
theorem Inv.write{x e:J8}{o:HO}{t':Nat}(I:Inv X ae σ H s) (mu:Mut (H x)) (he:e=x∨H e=some (.own x)) (k:∀b u,b≠e->s.heap.get? b=some u->h'.get? b=some u) (heo:∃u,h'.get? e=some u)
  (new:cm X.prog X.w (upd H x o) h' x o):Inv X ae σ (upd H x o) { s with heap:=h',toks:=t' }:=I.un (Un.write mu he k heo) (I.hok.write mu he k heo new)
theorem Inv.pins_of{pins':List (J8×Obj)}(I:Inv X ae σ H s) (h:∀p∈pins',s.heap.get? p.1=some p.2/\H p.1=none/\p.1≠X.env.locals/\p.1∉X.fs/\∀v,p.2.data≠.cell v):Inv X pins' σ H s :=
 ⟨I.ok,I.os,I.bare,I.base,I.loc,I.cell,I.free,I.freeC,fun p hp=>(V9.mp hp).elim (fun z=>I.pin p (List.mem_append_left _ z)) (h p),I.hok,I.len⟩
theorem tm{N:List Str}(hN:N.Nodup) {i j:Nat}{x:Str}(a:N[i]?=some x) (b:N[j]?=some x):i=j:=by
 obtain⟨h1,e1⟩:=M9.mp a;obtain⟨h2,e2⟩:=M9.mp b;exact(List.getElem_inj hN).mp (e1.trans e2.symm)
theorem p7{M:Model}{A:N1}{E:u8->J0->Prop}{i:Nat}{x:Str}{v:V}{u:u8}{Q:Unit->J0->Prop}(I:Inv X ae σ H s) (hN:X.N.Nodup) (hi:X.N[i]?=some x) (hx:Loc X.env.scope x) (r:aI v u)
  (h:∀s',Inv X ae (σ.set i (some v)) H s'->(∃a,S1 a s.heap s'.heap/\(a=X.env.locals∨X.env.cells.lookup x=some a))->Q () s') (hf:X.fn x=true∨X.env.scope.names.lookup x=some .local:=by first|exact .inl rfl|exact .inr rfl|assumption):K4 M A (storeName X.env x u) Q E s:=by
 obtain⟨m,hn,hl⟩:=id I.loc;have hcls:(X.env.scope.kind==.class || (X.env.scope.kind==.module&&X.env.locals != X.env.globals))=false:=by rw[I.ok.kind];rfl
 have hiσ:i<σ.length:=by rw[I.len];exact(M9.mp hi).1
 have cne:=I.cne;have tracked:∀{a:J8} {h':L6},(∃o,s.heap.get? a=some o/\H a=none)->S1 a s.heap h'->HOk X.prog X.w H h':=fun {a h'} ha hs b ob e=>by
  obtain⟨_,_,hfree⟩:=ha;refine(I.hok b ob e).stay (fun c w' hc q=>(hs.2 c ?_).trans q) (fun _ q=>q) fun _ _ q=>q;rintro rfl;rcases hc with rfl|hc
  ·rw[hfree]at e;cases e
  ·rw[hfree]at hc;cases hc
 rcases hx with hk|hk
 ·refine wpAny_storeName_local hk hn (fun h' hn' hs=>?_) hcls;obtain⟨oL,_,_,hoL,_⟩:=id hn;refine h _ ⟨I.ok,I.os,I.bare,⟨fun b o e n hb hx=>?_,fun b o e n hb hx=>?_,I.base.free,fun b o e hx=>?_,I.base.tups,I.base.frzs,I.base.tbls⟩,⟨_,hn',fun j y v' e1 e2 e3=>?_⟩,fun y c e=>?_,I.free,I.freeC,fun p hp=>?_,tracked ⟨oL,hoL,I.free⟩ hs,by simpa using I.len⟩ ⟨_,hs,.inl rfl⟩
  ·exact(hs.2 b (K3 (K6 (J7 e) I.ok.above))).trans (I.base.keep b o e n hb hx)
  ·obtain⟨sl,e1⟩:=I.base.slot b o e n hb hx;exact⟨sl,(hs.2 b (K3 (K6 (J7 e) I.ok.above))).trans e1⟩
  ·obtain⟨o',e1⟩:=I.base.there b o e hx;exact⟨o',(hs.2 b (K3 (K6 (J7 e) I.ok.above))).trans e1⟩
  ·by_cases hj:j=i
   ·subst hj;rw[hi]at e1;cases e1;rw[R6 hiσ]at e2;cases e2;exact⟨u,r,.inl ⟨hk,by simp⟩⟩
   ·rw[V1 (X0 hj)]at e2;obtain⟨u',r',q⟩:=hl j y v' e1 e2 e3;refine⟨u',r',?_⟩;rcases q with⟨k,e⟩|⟨k,c,e,z⟩
    ·refine .inl ⟨k,?_⟩;have:y≠x:=fun e=>hj (tm hN e1 (e▸hi));simp[this,e]
    ·exact .inr ⟨k,c,e,z.sameBut hs (cne y c e)⟩
  ·obtain⟨w',z⟩:=I.cell y c e;exact⟨w',z.sameBut hs (cne y c e)⟩
  ·obtain⟨e,n,ne,nf,d⟩:=I.pin p hp;exact⟨(hs.2 p.1 ne).trans e,n,ne,nf,d⟩
 ·have hfn:X.fn x=true:=by
   rcases hf with z|z
   ·exact z
   ·rw[z]at hk;cases hk
  obtain⟨c,hc⟩:=I.ok.has x (.inl hk);obtain⟨w',z⟩:=I.cell x c hc;refine wpAny_storeName_cell I.ok.kind hk hc z (fun h' hc' hs=>?_);obtain⟨oc,hoc,hocd⟩:=id z;refine h { s with heap:=h' } ⟨I.ok,I.os,I.bare,⟨fun b o e n hb hx=>?_,fun b o e n hb hx=>?_,I.base.free,fun b o e hx=>?_,I.base.tups,I.base.frzs,I.base.tbls⟩,⟨m,hn.sameBut hs (X0 (cne x c hc)),fun j y v' e1 e2 e3=>?_⟩,fun y c' e=>?_,I.free,I.freeC,fun p hp=>?_,tracked ⟨oc,hoc,I.freeC x c hc⟩ hs,by simpa using I.len⟩ ⟨c,hs,.inr hc⟩
  ·exact(hs.2 b (K3 (K6 (J7 e) (I.ok.cab x c hfn hc)))).trans (I.base.keep b o e n hb hx)
  ·obtain⟨sl,e1⟩:=I.base.slot b o e n hb hx;exact⟨sl,(hs.2 b (K3 (K6 (J7 e) (I.ok.cab x c hfn hc)))).trans e1⟩
  ·obtain⟨o',e1⟩:=I.base.there b o e hx;exact⟨o',(hs.2 b (K3 (K6 (J7 e) (I.ok.cab x c hfn hc)))).trans e1⟩
  ·by_cases hj:j=i
   ·subst hj;rw[hi]at e1;cases e1;rw[R6 hiσ]at e2;cases e2;exact⟨u,r,.inr ⟨.inl hk,c,hc,hc'⟩⟩
   ·rw[V1 (X0 hj)]at e2;obtain⟨u',r',q⟩:=hl j y v' e1 e2 e3;refine⟨u',r',?_⟩;rcases q with q|⟨k,c',e,z'⟩
    ·exact .inl q
    ·refine .inr ⟨k,c',e,z'.sameBut hs ?_⟩;rintro rfl;exact hj (tm hN e1 (I.ok.inj _ _ _ e hc▸hi))
  ·by_cases hcc:c'=c
   ·subst hcc;exact⟨_,hc'⟩
   ·obtain⟨w2,z2⟩:=I.cell y c' e;exact⟨w2,z2.sameBut hs hcc⟩
  ·obtain⟨e,n,ne,nf,d⟩:=I.pin p hp;refine⟨(hs.2 p.1 ?_).trans e,n,ne,nf,d⟩;intro q;rw[q,hoc]at e;have q':oc=p.2:=N4 e;exact d w' (by rw[<-q'];exact hocd)
theorem oi{M:Model}{A:N1}{E:u8->J0->Prop}{i:Nat}{x:Str}{v:V}{u:u8}{Q:Unit->J0->Prop}(I:Inv X ae σ H s) (hN:X.N.Nodup) (hi:X.N[i]?=some x) (hx:Loc X.env.scope x) (r:aI v u)
  (h:∀s',Inv X ae (σ.set i (some v)) H s'->Q () s') (hf:X.fn x=true∨X.env.scope.names.lookup x=some .local:=by first|exact .inl rfl|exact .inr rfl|assumption):K4 M A (storeName X.env x u) Q E s :=
 p7 I hN hi hx r (fun s' I' _=>h s' I') hf
theorem Inv.call'{s':J0}{ch:List J8}(I:Inv X ae σ H s) (ho:s'.os=s.os) (u:Un (frs X.stack) ch H H' s.heap s'.heap) (hok:HOk X.prog X.w H' s'.heap) (hg:aa6 s'.gens)
  (hch:∀b∈ch,(b∈X.ex∨X.s₀.heap.objs.size<=b)/\b≠X.env.locals/\(∀x c,X.env.cells.lookup x=some c->c≠b)/\∀p∈X.pn++ae,p.1≠b):Inv X ae σ H' s':=by
 obtain⟨h',g',d',t',o'⟩:=s';have e:o'=s.os:=ho;subst e;exact I.call (g':=g') (t':=t') (d':=d') u hok hg hch
end
abbrev XK:=u8->Option J8->Hp->Prop
noncomputable abbrev St:=List (Option V)
abbrev VK:=V->Hp->Prop
abbrev TE:=St->Hp->VK->Prop
abbrev TT:=St->Hp->(Bool->Hp->Prop)->Prop
abbrev TA:=St->Hp->(List V->Hp->Prop)->Prop
structure sF where
 nx:St->Hp->Prop
 rt:VK
 bk:St->Hp->Prop:=fun _ _=>False
 ct:St->Hp->Prop:=fun _ _=>False
abbrev TS:=sF->St->Hp->Prop
def EP(X:Cx) (ae:List (J8×Obj)) (σ:St) (Q:VK) (u:u8) (s':J0):Prop:=∃v H',Inv X ae σ H' s'/\aI v u/\Q v H'
def TP(X:Cx) (ae:List (J8×Obj)) (σ:St) (Q:Bool->Hp->Prop) (b:Bool) (s':J0):Prop:=∃H',Inv X ae σ H' s'/\Q b H'
def AP(X:Cx) (ae:List (J8×Obj)) (σ:St) (Q:List V->Hp->Prop) (us:List u8) (s':J0):Prop:=∃vs H',Inv X ae σ H' s'/\az vs us/\Q vs H'
theorem EP.el{X:Cx}{ae:List (J8×Obj)}{σ:St}{Q:VK}{u:u8}{s:J0}{P:Prop}(h:EP X ae σ Q u s) (f:∀(v:V) (H:Hp),Inv X ae σ H s->aI v u->Q v H->P):P:=by
 obtain⟨x1,x2,a,b,c⟩:=h;exact f x1 x2 a b c
theorem AP.el{X:Cx}{ae:List (J8×Obj)}{σ:St}{Q:List V->Hp->Prop}{u:List u8}{s:J0}{P:Prop}(h:AP X ae σ Q u s) (f:∀(v:List V) (H:Hp),Inv X ae σ H s->az v u->Q v H->P):P:=by
 obtain⟨x1,x2,a,b,c⟩:=h;exact f x1 x2 a b c
theorem TP.el{X:Cx}{ae:List (J8×Obj)}{σ:St}{Q:Bool->Hp->Prop}{u:Bool}{s:J0}{P:Prop}(h:TP X ae σ Q u s) (f:∀(H:Hp),Inv X ae σ H s->Q u H->P):P:=by
 obtain⟨x1,a,b⟩:=h;exact f x1 a b
def SP(X:Cx) (ae:List (J8×Obj)) (D:sF) (f:Flow) (s':J0):Prop :=
 match f with
 |.next=>∃ σ' H',Inv X ae σ' H' s'/\D.nx σ' H'
 |.brk=>∃ σ' H',Inv X ae σ' H' s'/\D.bk σ' H'
 |.cont=>∃ σ' H',Inv X ae σ' H' s'/\D.ct σ' H'
 |.ret u=>∃v σ' H',Inv X ae σ' H' s'/\aI v u/\D.rt v H'
def PE(X:Cx) (e:K5) (t:TE):Prop :=
 ∀(ae:List (J8×Obj)) (s:J0) (σ:St) (H:Hp) (Q:VK),Inv X ae σ H s->t σ H Q->K4 (K7 X.prog X.w) X.A (V3 e X.env) (EP X ae σ Q) X.xe s
def PT(X:Cx) (e:K5) (t:TT):Prop :=
 ∀(ae:List (J8×Obj)) (s:J0) (σ:St) (H:Hp) (Q:Bool->Hp->Prop),Inv X ae σ H s->t σ H Q->K4 (K7 X.prog X.w) X.A (isTrue e X.env (V3 e X.env)) (TP X ae σ Q) X.xe s
def PW(X:Cx) (e:K5) (t:TT):Prop :=
 ∀(whole:Sem u8) (ae:List (J8×Obj)) (s:J0) (σ:St) (H:Hp) (Q:Bool->Hp->Prop),Inv X ae σ H s->t σ H Q->K4 (K7 X.prog X.w) X.A (isTrue e X.env whole) (TP X ae σ Q) X.xe s
theorem PW.pt{X:Cx}{e:K5}{t:TT}(h:PW X e t):PT X e t:=h _
def PA(X:Cx) (es:List K5) (t:TA):Prop :=
 ∀(pos:Pos) (ae:List (J8×Obj)) (s:J0) (σ:St) (H:Hp) (Q:List V->Hp->Prop),Inv X ae σ H s->t σ H Q->K4 (K7 X.prog X.w) X.A (spliced (V8 pos (K2 es X.env))) (AP X ae σ Q) X.xe s
def PS(X:Cx) (st:ab0) (t:TS):Prop :=
 ∀(ae:List (J8×Obj)) (s:J0) (σ:St) (H:Hp) (D:sF),Inv X ae σ H s->t D σ H->K4 (K7 X.prog X.w) X.A (exec st X.env) (SP X ae D) X.xe s
def PSs(X:Cx) (st:List ab0) (t:TS):Prop :=
 ∀(ae:List (J8×Obj)) (s:J0) (σ:St) (H:Hp) (D:sF),Inv X ae σ H s->t D σ H->K4 (K7 X.prog X.w) X.A (execs st X.env) (SP X ae D) X.xe s
theorem thn{α:Type}{t:Sem α}{Q Q':α->J0->Prop}{M:Model}{A:N1}{E:u8->J0->Prop}{s:J0}(h:K4 M A t Q E s) (hQ:∀a s,Q a s->Q' a s):K4 M A t Q' E s:=L8 h hQ fun _ _ x=>x
section
variable{X:Cx}
def IF(i:Nat):TE:=fun σ H Q=>∃v,σ[i]?=some (some v)/\Q v H
def tC(v:V):TE:=fun _ H Q=>Q v H
theorem Gb{i:Nat}{x:Str}{pos:Pos}(hN:X.N[i]?=some x) (hv:Vis X.env.scope x) (hd:(x==("__debug__":Str))=false:=by decide) (hcd:(x==("__classdict__":Str))=false:=by decide):PE X (.Name x pos) (IF i):=by
 intro ae s σ H Q I h;obtain⟨v,e,h⟩:=h;obtain⟨m,hn,hl⟩:=I.loc;obtain⟨u,r,l⟩:=hl i x v hN e hv;have fin:EP X ae σ Q u s:=⟨v,H,I,r,h⟩;rcases l with⟨hk,hm⟩|⟨hk,c,hc,hcell⟩
 ·exact wpAny_Name (wpAny_loadName_local I.ok.kind hk hn hm fin) hd
 ·rcases hk with hk|hk
  ·exact wpAny_Name (wpAny_loadName_cell I.ok.kind hk hc hcell fin) hd
  ·exact wpAny_Name (wpAny_loadName_free I.ok.kind hk hc hcell fin hcd) hd
theorem Ek{i j pos}:PE X (.Constant (.int i) j pos) (tC (.int i)):=fun _ _ _ H _ I h=>wpAny_Constant_int ⟨.int i,H,I.tok _,⟨_,rfl⟩,h⟩
theorem HV{b j pos}:PE X (.Constant (.bool b) j pos) (tC (.bl b)):=fun _ _ _ H _ I h=>Constant_bool ⟨.bl b,H,I,rfl,h⟩
theorem Ea{j pos}:PE X (.Constant .none j pos) (tC .non):=fun _ _ _ H _ I h=>Constant_none ⟨.non,H,I,rfl,h⟩
theorem D8{x j pos}:PE X (.Constant (.str x) j pos) (tC (.str x)):=fun _ _ _ H _ I h=>Calls.Constant_str ⟨.str x,H,I.tok _,⟨_,rfl⟩,h⟩
def Gl(X:Cx) (x:Str):Prop:=X.env.kindOf x=some .globalImplicit
theorem qY{E:u8->J0->Prop}{ae:List (J8×Obj)}{s:J0}{σ:St}{H:Hp}{x:Str}{u:u8}{pos:Pos}{Q:u8->J0->Prop}(I:Inv X ae σ H s) (hg:Gl X x) (hm:X.mg x=some u) (h:Q u s)
  (hd:(x==("__debug__":Str))=false:=by decide):K4 (K7 X.prog X.w) X.A (V3 (.Name x pos) X.env) Q E s :=
 Calls.Name_function_global I.ok.kind hg (Calls.loadGlobal_global (by rw[I.ok.glob];exact I.mod.glob.keeps I.bk) hm h) hd
theorem jP{E:u8->J0->Prop}{ae:List (J8×Obj)}{s:J0}{σ:St}{H:Hp}{x:Str}{u:u8}{pos:Pos}{Q:u8->J0->Prop}(I:Inv X ae σ H s) (hg:Gl X x) (hm:X.mg x=none) (hv:Q8 x=some u) (h:Q u s)
  (hn:x≠"__name__":=by decide) (hd:(x==("__debug__":Str))=false:=by decide):K4 (K7 X.prog X.w) X.A (V3 (.Name x pos) X.env) Q E s:=by
 obtain⟨mb,h1,h2⟩:=I.mod.blt;exact Calls.Name_function_global I.ok.kind hg (Calls.loadGlobal_builtin (by rw[I.ok.glob];exact I.mod.glob.keeps I.bk) hm (by rw[I.ok.blt];exact h1.keeps I.bk) ((h2 x hn).trans hv) h) hd
theorem qU{x:Str}{v:V}{u:u8}{pos:Pos}(hg:Gl X x) (hm:X.mg x=some u) (r:aI v u) (hd:(x==("__debug__":Str))=false:=by decide):PE X (.Name x pos) (tC v) :=
 fun _ _ _ H _ I h=>qY I hg hm ⟨v,H,I,r,h⟩ hd
theorem BY{x:Str}{v:V}{u:u8}{pos:Pos}(hg:Gl X x) (hm:X.mg x=none) (hv:Q8 x=some u) (r:aI v u) (hn:x≠"__name__":=by decide) (hd:(x==("__debug__":Str))=false:=by decide):PE X (.Name x pos) (tC v) :=
 fun _ _ _ H _ I h=>jP I hg hm hv ⟨v,H,I,r,h⟩ hn hd
variable{a b:K5}{ta tb:TE}{pos:Pos}
def PC(X:Cx) (op:ac7) (a b:K5) (t:TE):Prop :=
 ∀(ae:List (J8×Obj)) (s:J0) (σ:St) (H:Hp) (Q:VK),Inv X ae σ H s->t σ H Q ->
  K4 (K7 X.prog X.w) X.A (V3 a X.env) (fun v s₁=>K4 (K7 X.prog X.w) X.A (V3 b X.env) (fun u s₂=>K4 (K7 X.prog X.w) X.A (L3 op v u) (EP X ae σ Q) X.xe s₂) X.xe s₁) X.xe s
theorem nt(b:K5) {op:ac7}(h:op≠.In) (h2:op≠.NotIn):T4 op b=false:=by
 have e1:(op==ac7.In)=false:=by cases op<;>first|rfl|exact absurd rfl h
 have e2:(op==ac7.NotIn)=false:=by cases op<;>first|rfl|exact absurd rfl h2
 cases b<;>simp[T4,e1,e2]
def tB(t:TE):TT:=fun σ H Q=>t σ H fun x H1=>∃c,x=.bl c/\Q c H1
theorem Ge{op:ac7}{t:TE}(h:PC X op a b t) (h1:T4 op b=false:=by first|exact nt _ (by decide) (by decide)|rfl):PE X (.Compare a [op] [b] pos) t:=fun ae s σ H Q I hw=>wpAny_Compare1 (h ae s σ H Q I hw) h1
theorem yL{op:ac7}{t:TE}(h:PC X op a b t) (h1:T4 op b=false:=by first|exact nt _ (by decide) (by decide)|rfl):PT X (.Compare a [op] [b] pos) (tB t):=by
 intro ae s σ H Q I hw;refine wpAny_isTrue_Compare1 (thn (h ae s σ H _ I hw) fun v s1 h1=>thn h1 fun u s2 h2=>thn h2 fun c s3 hup=>hup.el fun x H1 I1 r1 q1=>?_) h1;obtain⟨d,rfl,q⟩:=q1;cases r1;exact O4 ⟨H1,I1,q⟩
theorem Fy{e:K5}{t:TE}(h:PE X e t) (he:∀whole,isTrue e X.env whole=(do let v <-whole;ac3 e.pos;ab3 [v] (truthy v)):=by intro _;rfl):PT X e (tB t):=by
 intro ae s σ H Q I hw;refine isTrue_plain (thn (h ae s σ H _ I hw) fun v s1 hup=>hup.el fun x H1 I1 r1 q1=>?_) (he _);obtain⟨d,rfl,q⟩:=q1;cases r1;exact O4 ⟨H1,I1,q⟩
variable{tA tB':TT}{bS:List K5}
def IJ(t u:TT):TT:=fun σ H Q=>t σ H fun c H1=>if c=true then u σ H1 Q else Q false H1
def tOr(t u:TT):TT:=fun σ H Q=>t σ H fun c H1=>if c=true then Q true H1 else u σ H1 Q
def Ih(t:TT):TT:=fun σ H Q=>t σ H fun c H1=>Q (!c) H1
theorem B2(ha:PT X a tA):PW X (.BoolOp .And [a] pos) tA:=by
 intro wh ae s σ H Q I h;refine isTrue_and (thn (ha ae s σ H Q I h) fun c s1 e=>?_);cases c with
 |true=>exact isTrue_and_nil e
 |false=>exact e
theorem Fx(ha:PT X a tA):PW X (.BoolOp .Or [a] pos) tA:=by
 intro wh ae s σ H Q I h;refine isTrue_or (thn (ha ae s σ H Q I h) fun c s1 e=>?_);cases c with
 |false=>exact isTrue_or_nil e
 |true=>exact e
theorem ES(ha:PT X a tA) (hb:PW X (.BoolOp .And (b::bS) pos) tB'):PW X (.BoolOp .And (a::b::bS) pos) (IJ tA tB'):=by
 intro wh ae s σ H Q I h;refine isTrue_and (thn (ha ae s σ H _ I h) fun c s1 hup=>hup.el fun H1 I1 q1=>?_);cases c with
 |true=>exact hb wh ae s1 σ H1 Q I1 q1
 |false=>exact⟨H1,I1,q1⟩
theorem HJ(ha:PT X a tA) (hb:PW X (.BoolOp .Or (b::bS) pos) tB'):PW X (.BoolOp .Or (a::b::bS) pos) (tOr tA tB'):=by
 intro wh ae s σ H Q I h;refine isTrue_or (thn (ha ae s σ H _ I h) fun c s1 hup=>hup.el fun H1 I1 q1=>?_);cases c with
 |true=>exact⟨H1,I1,q1⟩
 |false=>exact hb wh ae s1 σ H1 Q I1 q1
theorem Fs(ha:PT X a tA):PT X (.UnaryOp .Not a pos) (Ih tA):=by
 intro ae s σ H Q I h;exact isTrue_not (ha ae s σ H (fun c H1=>Q (!c) H1) I h)
def GH(ta tb:TE):TE:=fun σ H Q=>ta σ H fun x H1=>∃c,x=.bl c/\if c=true then tb σ H1 Q else Q (.bl false) H1
def Iw(ta tb:TE):TE:=fun σ H Q=>ta σ H fun x H1=>∃c,x=.bl c/\if c=true then Q (.bl true) H1 else tb σ H1 Q
def G6(ta:TE):TE:=fun σ H Q=>ta σ H fun x H1=>∃c,x=.bl c/\Q (.bl (!c)) H1
theorem FM{op}{t:TE}(h:PE X a t):PE X (.BoolOp op [a] pos) t:=fun ae s σ H Q I hw=>BoolOp_one (h ae s σ H Q I hw)
theorem EX(ha:PE X a ta) (hb:PE X (.BoolOp .And (b::bS) pos) tb):PE X (.BoolOp .And (a::b::bS) pos) (GH ta tb):=by
 intro ae s σ H Q I h;refine BoolOp_and (thn (ha ae s σ H _ I h) fun v s1 hup=>hup.el fun x H1 I1 r1 q1=>?_);obtain⟨c,rfl,q1⟩:=q1;cases r1;refine O4 ?_;cases c with
 |true=>exact hb ae s1 σ H1 Q I1 q1
 |false=>exact⟨.bl false,H1,I1,rfl,q1⟩
theorem HX(ha:PE X a ta) (hb:PE X (.BoolOp .Or (b::bS) pos) tb):PE X (.BoolOp .Or (a::b::bS) pos) (Iw ta tb):=by
 intro ae s σ H Q I h;refine BoolOp_or (thn (ha ae s σ H _ I h) fun v s1 hup=>hup.el fun x H1 I1 r1 q1=>?_);obtain⟨c,rfl,q1⟩:=q1;cases r1;refine O4 ?_;cases c with
 |false=>exact hb ae s1 σ H1 Q I1 q1
 |true=>exact⟨.bl true,H1,I1,rfl,q1⟩
theorem FG(ha:PE X a ta):PE X (.UnaryOp .Not a pos) (G6 ta):=by
 intro ae s σ H Q I h;refine UnaryOp_ (thn (ha ae s σ H _ I h) fun v s1 hup=>hup.el fun x H1 I1 r1 q1=>?_);obtain⟨c,rfl,q1⟩:=q1;cases r1;exact not_of (O4 ⟨.bl (!c),H1,I1,rfl,q1⟩)
def tIf(t:TT) (ta tb:TE):TE:=fun σ H Q=>t σ H fun c H1=>if c=true then ta σ H1 Q else tb σ H1 Q
theorem AO{c:K5}(hc:PT X c tA) (ha:PE X a ta) (hb:PE X b tb):PE X (.IfExp c a b pos) (tIf tA ta tb):=by
 intro ae s σ H Q I h;refine wpAny_IfExp (thn (hc ae s σ H _ I h) fun d s1 hup=>hup.el fun H1 I1 q1=>?_);cases d with
 |true=>exact ha ae s1 σ H1 Q I1 q1
 |false=>exact hb ae s1 σ H1 Q I1 q1
end
def SqL(K:o0) (H:Hp) (a:J8) (xs:List V):Prop :=
 Rd H a (.lst xs) ∨
  ∃(o:Obj) (its:Array u8) (n:Nat),K.lookup a=some o/\o.cls=.type "list"/\o.dict=none/\o.data=.seq its n/\its.size<=J3/\az xs its.toList
def SqT(K:o0) (H:Hp) (a:J8) (xs:List V):Prop :=
 Rd H a (.tup xs) ∨
  ∃(o:Obj) (its:Array u8) (n:Nat),K.lookup a=some o/\(o.cls=.type "tuple"/\o.dict=none)/\o.data=.seq its n/\its.size<=J3/\az xs its.toList
noncomputable def Io:u8->Option V
 |.none=>some .non
 |.bool b=>some (.bl b)
 |.int i _=>some (.int i)
 |.str x _=>some (.str x)
 |.bytes b _=>some (.byt b)
 |.float b _=>some (.flt b)
 |.ref a=>some (.ref a)
 |.type n=>some (.ty n)
 |_=>none
theorem aI.abs{x:V}{u:u8}(r:aI x u):Io u=some x:=by
 cases x with
 |non=>cases r;rfl
 |bl _=>cases r;rfl
 |int _=>obtain⟨t,rfl⟩:=r;rfl
 |str _=>obtain⟨t,rfl⟩:=r;rfl
 |byt _=>obtain⟨t,rfl⟩:=r;rfl
 |flt _=>obtain⟨t,rfl⟩:=r;rfl
 |ref _=>cases r;rfl
 |ty _=>cases r;rfl
theorem aI.inj{x y:V}{u:u8}(r:aI x u) (q:aI y u):x=y:=N4 (r.abs.symm.trans q.abs)
theorem az.inj:∀{xs ys:List V}{us:List u8},az xs us->az ys us->xs=ys
 |_,_,_,.nil,.nil=>rfl
 |_,_,_,.cons r t,.cons r' t'=>by rw[r.inj r',az.inj t t']
section
variable{X:Cx}{ae:List (J8×Obj)}{σ:St}{H:Hp}{s:J0}{a:J8}{xs ys:List V}
theorem SqL.of{K:o0}(h:H a=some (.lst xs)):SqL K H a xs:=.inl (.inl h)
theorem SqT.of{K:o0}(h:H a=some (.tup xs)):SqT K H a xs:=.inl (.inl h)
theorem Inv.list(I:Inv X ae σ H s) (h:SqL X.K H a xs):∃its:List u8,az xs its/\PlainL s.heap a its.toArray/\xs.length<=J3:=by
 rcases h with h|⟨o,its,n,hk,hc,hd,hs,hz,r⟩
 ·obtain⟨z,its,n,r,e⟩:=h.ok I.hok;exact⟨its,r,⟨_,n,e,rfl,rfl,rfl⟩,z⟩
 ·refine⟨its.toList,r,⟨o,n,I.kIn a o hk,hc,hd,by simpa using hs⟩,?_⟩;have e:=r.length;simp only[T5]at e;omega
theorem Inv.tuple(I:Inv X ae σ H s) (h:SqT X.K H a xs):∃its:List u8,az xs its/\ad7 s.heap a its.toArray/\xs.length<=J3:=by
 rcases h with h|⟨o,its,n,hk,hc,hs,hz,r⟩
 ·obtain⟨z,its,r,p⟩:=h.ok I.hok;exact⟨its,r,p.tup,z⟩
 ·refine⟨its.toList,r,⟨o,I.kIn a o hk,hc.1,n,by simpa using hs⟩,?_⟩;have e:=r.length;simp only[T5]at e;omega
theorem Inv.tupN(I:Inv X ae σ H s) (h:SqT X.K H a xs):∃its:List u8,az xs its/\jY s.heap a its.toArray/\xs.length<=J3:=by
 rcases h with h|⟨o,its,n,hk,hc,hs,hz,r⟩
 ·obtain⟨z,its,r,p⟩:=h.ok I.hok;exact⟨its,r,p,z⟩
 ·refine⟨its.toList,r,⟨o,I.kIn a o hk,hc.1,⟨n,by simpa using hs⟩,hc.2⟩,?_⟩;have e:=r.length;have e2:its.toList.length=its.size:=T5;omega
theorem Inv.list_inj(I:Inv X ae σ H s) (h:SqL X.K H a xs) (h':SqL X.K H a ys):xs=ys:=by
 obtain⟨its,r,⟨o,n,e,_,_,d⟩,_⟩:=I.list h;obtain⟨its',r',⟨o',n',e',_,_,d'⟩,_⟩:=I.list h';rw[e]at e';cases e';rw[d]at d';injection d' with d1 _
 have:its=its':=by simpa using congrArg Array.toList d1
 subst this;exact r.inj r'
theorem Inv.tuple_inj(I:Inv X ae σ H s) (h:SqT X.K H a xs) (h':SqT X.K H a ys):xs=ys:=by
 obtain⟨its,r,⟨o,e,_,n,d⟩,_⟩:=I.tuple h;obtain⟨its',r',⟨o',e',_,n',d'⟩,_⟩:=I.tuple h';rw[e]at e';cases e';rw[d]at d';injection d' with d1 _
 have:its=its':=by simpa using congrArg Array.toList d1
 subst this;exact r.inj r'
end
noncomputable abbrev Cx.wish(X:Cx) (E:u8->J0->Prop):Cx:={ X with xe:=E }
noncomputable abbrev Cx.nox(X:Cx):Cx:=X.wish fun _ _=>False
theorem Cx.Ok.wish{X:Cx}(ok:X.Ok) (E:u8->J0->Prop):(X.wish E).Ok :=
 ⟨ok.mod,ok.kind,ok.glob,ok.blt,ok.above,ok.inj,ok.has,ok.cab,ok.hd,ok.frames,ok.stk,ok.exf,ok.bs,ok.bsz,ok.noex,ok.exfs,ok.funs,ok.frf⟩
theorem Cx.Ok.unwish{X:Cx}{E:u8->J0->Prop}(ok:(X.wish E).Ok):X.Ok :=
 ⟨ok.mod,ok.kind,ok.glob,ok.blt,ok.above,ok.inj,ok.has,ok.cab,ok.hd,ok.frames,ok.stk,ok.exf,ok.bs,ok.bsz,ok.noex,ok.exfs,ok.funs,ok.frf⟩
section
variable{X:Cx}{ae:List (J8×Obj)}{σ:St}{H:Hp}{s:J0}{E:u8->J0->Prop}
theorem Inv.wish(I:Inv X ae σ H s) (E:u8->J0->Prop):Inv (X.wish E) ae σ H s:=⟨I.ok.wish E,I.os,I.bare,I.base,I.loc,I.cell,I.free,I.freeC,I.pin,I.hok,I.len⟩
theorem Inv.unwish(I:Inv (X.wish E) ae σ H s):Inv X ae σ H s:=⟨I.ok.unwish,I.os,I.bare,I.base,I.loc,I.cell,I.free,I.freeC,I.pin,I.hok,I.len⟩
theorem SP.unwish{D:sF}{f:Flow}{s':J0}(h:SP (X.wish E) ae D f s'):SP X ae D f s':=by
 cases f with
 |next=>obtain⟨σ',H',I,q⟩:=h;exact⟨σ',H',I.unwish,q⟩
 |brk=>obtain⟨σ',H',I,q⟩:=h;exact⟨σ',H',I.unwish,q⟩
 |cont=>obtain⟨σ',H',I,q⟩:=h;exact⟨σ',H',I.unwish,q⟩
 |ret u=>obtain⟨v,σ',H',I,r,q⟩:=h;exact⟨v,σ',H',I.unwish,r,q⟩
theorem PSs.nox{st:List ab0}{t:TS}(h:PSs X.nox st t):PSs X st t:=fun ae s σ H D I hw =>
 L8 (h ae s σ H D (I.wish _) hw) (fun _ _ q=>q.unwish) fun _ _ z=>P8 z
end
section
variable{X:Cx}{st:ab0}{bS:List ab0}{t u:TS}{e:K5}{te:TE}{pos:Pos}
def HZ:TS:=fun D σ H=>D.nx σ H
def IC(t u:TS):TS:=fun D σ H=>t { D with nx:=u D } σ H
theorem B4:PSs X [] HZ:=fun _ _ σ H _ I h=>Z4 ⟨σ,H,I,h⟩
theorem Bm(h1:PS X st t) (h2:PSs X bS u):PSs X (st::bS) (IC t u):=by
 intro ae s σ H D I h;refine wpAny_execs_cons (thn (h1 ae s σ H { D with nx:=u D } I h) fun f s1 q=>?_);cases f with
 |next =>
  obtain⟨σ',H',I',q⟩:=q;exact h2 ae s1 σ' H' D I' q
 |ret v=>exact q
 |brk=>exact q
 |cont=>exact q
theorem BF(h1:PS X st t):PSs X [st] t:=by
 intro ae s σ H D I h;refine wpAny_execs_cons (thn (h1 ae s σ H D I h) fun f s1 q=>?_);cases f with
 |next=>exact Z4 q
 |ret v=>exact q
 |brk=>exact q
 |cont=>exact q
theorem Inv.quiet{ae:List (J8×Obj)}{σ:St}{H:Hp}{s:J0}(I:Inv X ae σ H s):interactive X.env=false:=by simp[interactive,I.ok.kind]
def HU(te:TE):TS:=fun D σ H=>te σ H fun _ H1=>D.nx σ H1
theorem B7(he:PE X e te) (hs:Z5 e none pos.line X.env=X9 false:=by rfl):PS X (.Expr e pos) (HU te):=by
 intro ae s σ H D I h;exact wpAny_Expr_any (thn (he ae s σ H _ I h) fun v s1 hup=>hup.el fun x H1 I1 r1 q1=>⟨σ,H1,I1,q1⟩) I.quiet hs
def IK(te:TE):TS:=fun D σ H=>te σ H D.rt
theorem vn(he:PE X e te):PS X (.Return (some e) pos) (IK te):=by
 intro ae s σ H D I h;exact wpAny_Return_some (thn (he ae s σ H _ I h) fun v s1 hup=>hup.el fun x H1 I1 r1 q1=>⟨x,σ,H1,I1,r1,q1⟩)
def IP(c:TT) (t u:TS):TS:=fun D σ H=>c σ H fun b H1=>if b=true then t D σ H1 else u D σ H1
theorem GX{c:K5}{a b:List ab0}{tc:TT}(hc:PT X c tc) (ha:PSs X a t) (hb:PSs X b u):PS X (.If c a b pos) (IP tc t u):=by
 intro ae s σ H D I h;refine wpAny_If (thn (hc ae s σ H _ I h) fun d s1 hup=>hup.el fun H1 I1 q1=>?_);cases d with
 |true=>exact ha ae s1 σ H1 D I1 q1
 |false=>exact hb ae s1 σ H1 D I1 q1
end
abbrev TG:=V->St->Hp->(St->Hp->Prop)->Prop
abbrev TGs:=List V->St->Hp->(St->Hp->Prop)->Prop
def PG(X:Cx) (target:K5) (t:TG):Prop :=
 ∀(ae:List (J8×Obj)) (s:J0) (σ:St) (H:Hp) (v:V) (u:u8) (Q:St->Hp->Prop),Inv X ae σ H s->aI v u->t v σ H Q ->
  K4 (K7 X.prog X.w) X.A (Z6 target X.env u) (fun _ s'=>∃ σ' H',Inv X ae σ' H' s'/\Q σ' H') X.xe s
def PGs(X:Cx) (ts:List K5) (t:TGs):Prop :=
 ∀(ae:List (J8×Obj)) (s:J0) (σ:St) (H:Hp) (vs:List V) (us:List u8) (Q:St->Hp->Prop),Inv X ae σ H s->az vs us->t vs σ H Q ->
  K4 (K7 X.prog X.w) X.A (assignInOrder ((P9 ts X.env).map (·.2)) us) (fun _ s'=>∃ σ' H',Inv X ae σ' H' s'/\Q σ' H') X.xe s
abbrev Fl:=V->V->V->Hp->(Hp->Prop)->Prop
def Gs(X:Cx) (t:Fl):Prop :=
 ∀(ae:List (J8×Obj)) (s:J0) (σ:St) (H:Hp) (o i v:V) (ov iv u:u8) (Q:Hp->Prop),Inv X ae σ H s->aI o ov->aI i iv->aI v u->t o i v H Q ->
  K4 (K7 X.prog X.w) X.A (setItem ov iv u) (fun _ s'=>∃H',Inv X ae σ H' s'/\Q H') X.xe s
abbrev TIp:=V->V->Hp->VK->Prop
def PIp(X:Cx) (op:ad4) (t:TIp):Prop :=
 ∀(ae:List (J8×Obj)) (s:J0) (σ:St) (H:Hp) (x y:V) (v u:u8) (Q:VK),Inv X ae σ H s->aI x v->aI y u->t x y H Q ->
  K4 (K7 X.prog X.w) X.A (ad8 op v u) (EP X ae σ Q) X.xe s
section
variable{X:Cx}{pos:Pos}
def sN(i:Nat):TG:=fun v σ H Q=>Q (σ.set i (some v)) H
theorem wY{i:Nat}{x:Str}(hN:X.N.Nodup) (hi:X.N[i]?=some x) (hx:Loc X.env.scope x) (hf:X.fn x=true∨X.env.scope.names.lookup x=some .local:=by first|exact .inl rfl|exact .inr rfl|assumption):PG X (.Name x pos) (sN i):=by
 intro ae s σ H v u Q I r h;exact wpAny_assign_Name (oi I hN hi hx r (fun s' I'=>⟨_,H,I',h⟩) hf)
def Fg:TGs:=fun vs σ H Q=>vs=[]/\Q σ H
def yP(t:TG) (u:TGs):TGs:=fun vs σ H Q=>∃v r,vs=v::r/\t v σ H fun σ' H'=>u r σ' H' Q
theorem wn:PGs X [] Fg:=by
 intro ae s σ H vs us Q I r h;obtain⟨e,h⟩:=h;subst e;cases r;exact assignInOrder_nil ⟨σ,H,I,h⟩
theorem sE{e:K5}{es:List K5}{t:TG}{u:TGs}(h1:PG X e t) (h2:PGs X es u)
  (hs:(P9 (e::es) X.env).map (·.2)=Z6 e X.env::(P9 es X.env).map (·.2):=by rfl):PGs X (e::es) (yP t u):=by
 intro ae s σ H vs us Q I r h;obtain⟨v,vr,e1,h⟩:=h;subst e1;cases r with
 |cons r rr =>
  rw[hs];refine assignInOrder_cons (thn (h1 ae s σ H _ _ _ I r h) fun _ s1 ⟨σ1,H1,I1,q1⟩=>?_);exact h2 ae s1 σ1 H1 _ _ Q I1 rr q1
def EC(K:o0) (n:Nat) (t:TGs):TG:=fun v σ H Q=>∃a xs,v=.ref a/\SqT K H a xs/\xs.length=n/\t xs σ H Q
theorem zc{es:List K5}{k:Nat}{t:TGs}{n:Nat}(hc:X.calm=true) (h:PGs X es t)
  (hn:(P9 es X.env).length=n:=by rfl) (hst:(P9 es X.env).findIdx? (·.1)=none:=by rfl):PG X (.Tuple es k pos) (EC X.K n t):=by
 intro ae s σ H v u Q I r hw;obtain⟨a,xs,e1,hq,hl,hw⟩:=hw;subst e1;cases r;obtain⟨its,rv,ht,hz⟩:=I.tuple hq;refine assign_Tuple_tuple (I.ok.hd hc) ht (by simp[hn,<-hl,rv.length]) hst fun h' hx=>?_;have I1:Inv X ae σ H { s with heap:=h' }:=I.kept (t':=s.toks) fun b o e=>hx b o (K3 (J7 e)) e;exact h ae _ σ H xs _ Q I1 (by simpa using rv) hw
def IE(to ti:TE) (t:Fl):TG:=fun v σ H Q=>to σ H fun o H1=>ti σ H1 fun i H2=>t o i v H2 fun H3=>Q σ H3
theorem Ee{o i:K5}{to ti:TE}{t:Fl}(ho:PE X o to) (hi:PE X i ti) (hs:Gs X t)
  (ha:∀ v,Z6 (.Subscript o i pos) X.env v = (do
   let ov <-ab3 [v] (V3 o X.env)
   let iv <-ab3 [v,ov] (V3 i X.env)
   ac3 pos
   ab3 [v,ov,iv] (setItem ov iv v)
   release [v,ov,iv] []):=by intro _;rfl):PG X (.Subscript o i pos) (IE to ti t):=by
 intro ae s σ H v u Q I r h;rw[ha];refine I0 (S2 (thn (ho ae s σ H _ I h) fun ov s1 hup=>hup.el fun x H1 I1 r1 q1=>?_));refine I0 (S2 (thn (hi ae s1 σ H1 _ I1 q1) fun iv s2 hup=>hup.el fun y H2 I2 r2 q2=>?_));refine I0 (U7 (I0 (S2 (thn (hs ae s2 σ H2 x y v ov iv u _ I2 r1 r2 r q2) fun _ s3 ⟨H3,I3,q3⟩=>?_))));exact wpAny_release ⟨σ,H3,I3,q3⟩
def Ez(te:TE) (g:TG):TS:=fun D σ H=>te σ H fun x H1=>g x σ H1 D.nx
theorem Ag{tg e:K5}{te:TE}{g:TG}(he:PE X e te) (hg:PG X tg g) (hs:swapsWithSole [tg] e pos.line X.env=X9 false:=by rfl) (hw:swappedStores [tg] e X.env=X9 none:=by rfl)
  (h1:(P9 [tg] X.env).map (·.2)=[Z6 tg X.env]:=by rfl):PS X (.Assign [tg] e pos) (Ez te g):=by
 intro ae s σ H D I h;refine wpAny_Assign_stores (thn (he ae s σ H _ I h) fun v s1 hup=>hup.el fun x H1 I1 r1 q1=>?_) hs hw;rw[h1];exact thn (hg ae s1 σ H1 x v _ I1 r1 q1) fun _ s2 q=>q
theorem Ep{i:Nat}{x:Str}{e:K5}{te:TE}{pos':Pos}(hN:X.N.Nodup) (hi:X.N[i]?=some x) (hx:Loc X.env.scope x) (he:PE X e te) (hs:Z5 e (some (.Name x pos')) pos.line X.env=X9 false:=by rfl) (hf:X.fn x=true∨X.env.scope.names.lookup x=some .local:=by first|exact .inl rfl|exact .inr rfl|assumption) :
  PS X (.Assign [.Name x pos'] e pos) (Ez te (sN i)):=by
 intro ae s σ H D I h;refine wpAny_Assign_Name (thn (he ae s σ H _ I h) fun v s1 hup=>hup.el fun y H1 I1 r1 q1=>?_) hs;exact oi I1 hN hi hx r1 (fun s2 I2=>⟨_,H1,I2,q1⟩) hf
def Ik(i:Nat) (te:TE) (ti:TIp):TS:=fun D σ H=>∃x,σ[i]?=some (some x)/\te σ H fun y H1=>ti x y H1 fun z H2=>D.nx (σ.set i (some z)) H2
theorem EJ{i:Nat}{x:Str}{e:K5}{te:TE}{op:ad4}{ti:TIp}{pos':Pos}(hN:X.N.Nodup) (hi:X.N[i]?=some x) (hx:Loc X.env.scope x) (he:PE X e te) (ho:PIp X op ti) (hf:X.fn x=true∨X.env.scope.names.lookup x=some .local:=by first|exact .inl rfl|exact .inr rfl|assumption) :
  PS X (.AugAssign (.Name x pos') op e pos) (Ik i te ti):=by
 intro ae s σ H D I h;obtain⟨v,e1,h⟩:=h;obtain⟨m,hn,hl⟩:=I.loc;have vis:Vis X.env.scope x:=by rcases hx with k|k;exact .inl k;exact .inr (.inl k)
 obtain⟨u,r,l⟩:=hl i x v hi e1 vis;refine wpAny_AugAssign_Name ?_;have go:K4 (K7 X.prog X.w) X.A (V3 e X.env) (fun w s₂=>K4 (K7 X.prog X.w) X.A (ad8 op u w) (fun r s₃=>K4 (K7 X.prog X.w) X.A (storeName X.env x r) (fun _=>SP X ae D .next) X.xe s₃) X.xe s₂) X.xe s:=by
  refine thn (he ae s σ H _ I h) fun w s1 hup=>hup.el fun y H1 I1 r1 q1=>?_;refine thn (ho ae s1 σ H1 v y u w _ I1 r r1 q1) fun z s2 hup=>hup.el fun zv H2 I2 r2 q2=>?_;exact oi I2 hN hi hx r2 (fun s3 I3=>⟨_,H2,I3,q2⟩) hf
 rcases l with⟨hk,hm⟩|⟨hk,c,hc,hcell⟩
 ·exact wpAny_loadName_local I.ok.kind hk hn hm go
 ·rcases hk with hk|hk
  ·exact wpAny_loadName_cell I.ok.kind hk hc hcell go
  ·rcases hx with k|k
   ·have:X.env.scope.names.lookup x=some .free:=hk;rw[k]at this;cases this
   ·have:X.env.scope.names.lookup x=some .free:=hk;rw[k]at this;cases this
def ipI(f:Int->Int->Int):TIp:=fun x y H Q=>∃i j,x=.int i/\y=.int j/\Q (.int (f i j)) H
theorem FO:PIp X .Add (ipI fun i j=>i+j):=by
 intro ae s σ H x y v u Q I r1 r2 h;obtain⟨i,j,e1,e2,q⟩:=h;subst e1;subst e2;obtain⟨t,rfl⟩:=r1;obtain⟨t',rfl⟩:=r2;exact iadd_int ⟨.int _,H,I.tok _,⟨_,rfl⟩,q⟩
end
section
variable{X:Cx}{pos:Pos}
def D6(c:TT) (tb:TS):TS:=fun D σ H=>∃W:Nat->St->Hp->Prop,(∃m,W m σ H)/\∀m σ H,W m σ H ->
 c σ H fun b H1=>if b=true then ∃N:St->Hp->Prop,(∀ σ' H',N σ' H'->∃m',m'<m/\W m' σ' H')/\tb { D with nx:=N,ct:=N,bk:=D.nx } σ H1 else D.nx σ H1
theorem zi{c:K5}{body:List ab0}{tc:TT}{tb:TS}(hp:ad9 (K7 X.prog X.w) X.A X.env X.xe) (hc:PT X c tc) (hb:PSs X body tb):PS X (.While c body [] pos) (D6 tc tb):=by
 intro ae s σ H D I h;obtain⟨W,⟨m0,w0⟩,turn⟩:=h;refine wpAny_While (codeAny_whileLoop (fun n s'=>∃ σ' H',Inv X ae σ' H' s'/\W n σ' H') ?_ m0 ⟨σ,H,I,w0⟩);rintro n s1 ⟨σ1,H1,I1,w1⟩;refine S8 hp (thn (hc ae s1 σ1 H1 _ I1 (turn n σ1 H1 w1)) fun b s2 hup=>hup.el fun H2 I2 q2=>?_);cases b with
 |true =>
  obtain⟨N,hN,q2⟩:=q2;rw[if_pos rfl];refine S8 hp (thn (hb ae s2 σ1 H2 _ I2 q2) fun f s3 q3=>?_);cases f with
  |next =>
   obtain⟨σ3,H3,I3,n3⟩:=q3;obtain⟨m',hm,w3⟩:=hN σ3 H3 n3;exact⟨m',hm,σ3,H3,I3,w3⟩
  |cont =>
   obtain⟨σ3,H3,I3,n3⟩:=q3;obtain⟨m',hm,w3⟩:=hN σ3 H3 n3;exact⟨m',hm,σ3,H3,I3,w3⟩
  |brk=>exact q3
  |ret v=>exact q3
 |false =>
  rw[if_neg M7];exact Z4 ⟨σ1,H2,I2,q2⟩
end
structure It where
 go:Nat->Hp->Prop
 yld:Nat->Hp->V->Hp->Prop
 stop:Nat->Hp->Prop
def du(X:Cx) (ae:List (J8×Obj)) (H:Hp) (b:J8):Prop :=
 H b=none/\b≠X.env.locals/\b∉X.fs/\(b∈X.ex∨X.s₀.heap.objs.size<=b)/\(∀x c,X.env.cells.lookup x=some c->c≠b)/\∀p∈X.pn++ae,p.1≠b
theorem Inv.fpOk{X:Cx}{ae:List (J8×Obj)}{σ:St}{H H':Hp}{s:J0}{b:J8}(I:Inv X ae σ H s) (hb:s.heap.objs.size<=b) (hn:H' b=none):du X ae H' b:=by
 refine⟨hn,ab4 (K6 I.lt hb),I.nofs hb,.inr (L5 I.sz hb),fun x c e z=>?_,fun p hp z=>?_⟩
 ·obtain⟨v,q⟩:=I.cell x c e;exact absurd (K6 q.lt (by rw[z];exact hb)) (T1 _)
 ·exact absurd (K6 (J7 (I.pin p hp).1) (by rw[z];exact hb)) (T1 _)
structure jS(P:L1) (w:O6) (K:o0) (tg:K5) (J:It) (fp:List J8) (it:J8) (tn:Nat->L6->Prop):Prop where
 mem:it∈fp
 obj:∀i h,tn i h->∀b∈fp,∃o,h.get? b=some o/\∀v,o.data≠.cell v
 keep:∀i h h',tn i h->(∀b∈fp,∀o,h.get? b=some o->h'.get? b=some o)->tn i h'
 item:∀(X:Cx),X.prog=P->X.w=w->X.K=K->X.calm=true->∀(i:Nat) (ae:List (J8×Obj)) (s:J0) (σ:St) (H:Hp) (E:u8->J0->Prop),Inv X ae σ H s->(∀b∈fp,du X ae H b)->tn i s.heap->J.go i H ->
  K4 (K7 P w) X.A (pyNext (.ref it)) (fun r s1=>∃u,r=some u /\
   K4 (K7 P w) X.A (U5 tg (.ref it) u) (fun _ s2=>∃x H',Inv X ae σ H' s2/\aI x u/\J.yld i H x H'/\tn (i+1) s2.heap/\∀b∈fp,H' b=none) E s1) E s
 done:∀(X:Cx),X.prog=P->X.w=w->X.K=K->X.calm=true->∀(i:Nat) (ae:List (J8×Obj)) (s:J0) (σ:St) (H:Hp) (E:u8->J0->Prop),Inv X ae σ H s->(∀b∈fp,du X ae H b)->tn i s.heap->J.stop i H ->
  K4 (K7 P w) X.A (pyNext (.ref it)) (fun r s1=>r=none/\Inv X ae σ H s1) E s
 self:∀(A:N1) (i:Nat) (s:J0) (Q:u8->J0->Prop) (E:u8->J0->Prop),tn i s.heap->Q (.ref it) s->K4 (K7 P w) A (ad3 (.ref it)) Q E s
abbrev TI:=St->Hp->(It->Hp->Prop)->Prop
def PIE(X:Cx) (ae:List (J8×Obj)) (σ:St) (tg:K5) (R:It->Hp->Prop) (itv:u8) (s2:J0):Prop :=
 ∃(it:J8) (fp:List J8) (tn:Nat->L6->Prop) (J:It) (H':Hp),itv=.ref it/\Inv X ae σ H' s2/\jS X.prog X.w X.K tg J fp it tn/\tn 0 s2.heap/\(∀b∈fp,du X ae H' b)/\R J H'
def PI(X:Cx) (tg iter:K5) (wi:TI):Prop :=
 ∀(ae:List (J8×Obj)) (s:J0) (σ:St) (H:Hp) (R:It->Hp->Prop),Inv X ae σ H s->wi σ H R ->
  K4 (K7 X.prog X.w) X.A (V3 iter X.env) (fun v s1=>K4 (K7 X.prog X.w) X.A (ad3 v) (PIE X ae σ tg R) X.xe s1) X.xe s
theorem o8{M:Model}{A:N1}{E:u8->J0->Prop}{s:J0}{tg:K5}{it:J8}{u:u8}{o:Obj}{n:String}{vs:Array u8}{Q:Unit->J0->Prop}(ho:s.heap.get? it=some o) (hc:o.cls=.type n) (hd:o.data=.fields vs)
    (hn:["enumerate","zip","dict_itemiterator","dict_reverseitemiterator","odict_iterator","itertools.zip_longest","itertools.pairwise"].contains n=false) (hQ:Q () s):K4 M A (U5 tg (.ref it) u) Q E s:=by
  unfold U5;cases tg<;>first
    |exact J5 hQ
    |(cases u<;>first
        |exact J5 hQ
        | (refine I0 (wpAny_load ho ?_)
           rw[hc,hd];show K4 M A (if(["enumerate","zip","dict_itemiterator","dict_reverseitemiterator","odict_iterator","itertools.zip_longest","itertools.pairwise"].contains n&&vs[0]?==some (rawInt _))=true then _ else _) Q E s;rw[if_neg (by intro h;rw[hn,Bool.false_and]at h;cases h)];exact J5 hQ))
def Itl(K:o0) (a:J8):It :=
 ⟨fun i H=>∃xs x,SqL K H a xs/\xs[i]?=some x,fun i H x H'=>H'=H/\∀xs,SqL K H a xs->xs[i]?=some x,fun i H=>∃xs,SqL K H a xs/\xs.length<=i⟩
def Itt(K:o0) (a:J8):It :=
 ⟨fun i H=>∃xs x,SqT K H a xs/\xs[i]?=some x,fun i H x H'=>H'=H/\∀xs,SqT K H a xs->xs[i]?=some x,fun i H=>∃xs,SqT K H a xs/\xs.length<=i⟩
def Itr(lo:Int) (n:Nat):It:=⟨fun i _=>i<n,fun i H x H'=>H'=H/\x=.int (lo+i),fun i _=>n<=i⟩
theorem pQ{P:L1}{w:O6}{K:o0}{tg:K5}(a it:J8):jS P w K tg (Itl K a) [it] it (fun i h=>h.IsListIter it a i) where
 mem:=by simp
 obj:=fun i h st b hb=>by
  have e:b=it:=by simpa using hb
  subst e;obtain⟨o,e,c,d⟩:=st;exact⟨o,e,fun v z=>by rw[d]at z;cases z⟩
 keep:=fun i h h' st k=>st.at fun o e=>k it (by simp) o e
 item:=by
  intro X hP hw hK hc i ae s σ H E I hf st hg;subst hP hw hK;obtain⟨xs,x,hq,hx⟩:=hg;obtain⟨its,rv,p,hz⟩:=I.list hq;obtain⟨u,hu,ru⟩:=rv.get hx;obtain⟨f0,f1,f2,f3,f4,f5⟩:=hf it (by simp);refine wpAny_pyNext_list_item st p.isList (x:=u) (by simpa using hu) fun h' st' sb=>?_;have I1:Inv X ae σ H { s with heap:=h' }:=I.turned (t':=s.toks) (fun b o hb e=>(sb.2 b hb).trans e) f0 f1 f3 f4 f5;obtain⟨o,e,c,d⟩:=id st';exact⟨u,rfl,o8 (s:={ s with heap:=h' }) e c d (by decide) ⟨x,H,I1,ru,⟨rfl,fun ys hy=>by rw[I.list_inj hy hq];exact hx⟩,st',fun b hb=>(hf b hb).1⟩⟩
 done:=by
  intro X hP hw hK hc i ae s σ H E I hf st hg;subst hP hw hK;obtain⟨xs,hq,hx⟩:=hg;obtain⟨its,rv,p,hz⟩:=I.list hq;obtain⟨f0,f1,f2,f3,f4,f5⟩:=hf it (by simp);have hl:=rv.length;exact wpAny_pyNext_list_end (I.ok.hd hc) st p.isList (by simp;omega) fun h' eb=>⟨rfl,I.turned (t':=s.toks) (fun b o hb e=>eb b o hb e) f0 f1 f3 f4 f5⟩
 self:=fun _ _ _ _ _ st h=>wpAny_pyIter_listiter st h
theorem vw{P:L1}{w:O6}{K:o0}{tg:K5}(a it:J8):jS P w K tg (Itt K a) [it] it (fun i h=>h.IsTupleIter it a i) where
 mem:=by simp
 obj:=fun i h st b hb=>by
  have e:b=it:=by simpa using hb
  subst e;obtain⟨o,e,c,d⟩:=st;exact⟨o,e,fun v z=>by rw[d]at z;cases z⟩
 keep:=fun i h h' st k=>st.at fun o e=>k it (by simp) o e
 item:=by
  intro X hP hw hK hc i ae s σ H E I hf st hg;subst hP hw hK;obtain⟨xs,x,hq,hx⟩:=hg;obtain⟨its,rv,p,hz⟩:=I.tuple hq;obtain⟨u,hu,ru⟩:=rv.get hx;obtain⟨f0,f1,f2,f3,f4,f5⟩:=hf it (by simp);refine wpAny_pyNext_tuple_item st (show s.heap.IsTuple a its.toArray from p) (x:=u) (by simpa using hu) fun h' st' sb=>?_;have I1:Inv X ae σ H { s with heap:=h' }:=I.turned (t':=s.toks) (fun b o hb e=>(sb.2 b hb).trans e) f0 f1 f3 f4 f5;obtain⟨o,e,c,d⟩:=id st';exact⟨u,rfl,o8 (s:={ s with heap:=h' }) e c d (by decide) ⟨x,H,I1,ru,⟨rfl,fun ys hy=>by rw[I.tuple_inj hy hq];exact hx⟩,st',fun b hb=>(hf b hb).1⟩⟩
 done:=by
  intro X hP hw hK hc i ae s σ H E I hf st hg;subst hP hw hK;obtain⟨xs,hq,hx⟩:=hg;obtain⟨its,rv,p,hz⟩:=I.tuple hq;obtain⟨f0,f1,f2,f3,f4,f5⟩:=hf it (by simp);have hl:=rv.length;exact wpAny_pyNext_tuple_end (I.ok.hd hc) st (show s.heap.IsTuple a its.toArray from p) (by simp;omega) fun h' eb=>⟨rfl,I.turned (t':=s.toks) (fun b o hb e=>eb b o hb e) f0 f1 f3 f4 f5⟩
 self:=fun _ _ _ _ _ st h=>wpAny_pyIter_tupleiter st h
theorem ve{P:L1}{w:O6}{K:o0}{tg:K5}(it:J8) (lo:Int) (n:Nat):jS P w K tg (Itr lo n) [it] it (fun i h=>IsRangeIter h it (lo+(i:Nat)*1) ((n:Int)-(i:Nat)) 1) where
 mem:=by simp
 obj:=fun i h st b hb=>by
  have e:b=it:=by simpa using hb
  subst e;exact⟨_,st,fun v z=>by
   have z':Data.fields _=Data.cell v:=z;cases z'⟩
 keep:=fun i h h' st k=>k it (by simp) _ st
 item:=by
  intro X hP hw hK hc i ae s σ H E I hf st hg;subst hP hw hK;obtain⟨f0,f1,f2,f3,f4,f5⟩:=hf it (by simp);have W:=Walks.range (prog:=X.prog) (w:=X.w) (I.ok.hd hc) it lo 1 n;refine W.item i s _ _ hg st fun v h' tk hv st' kk=>?_;obtain⟨t,rfl⟩:=hv;have I1:Inv X ae σ H { s with heap:=h',toks:=tk }:=I.turned (fun b o hb e=>kk b o (by simpa using hb) e) f0 f1 f3 f4 f5;refine⟨_,rfl,o8 (s:={ s with heap:=h',toks:=tk }) (n:="range_iterator") st' rfl rfl (by decide) ⟨.int (lo+i),H,I1,⟨t,?_⟩,⟨rfl,rfl⟩,st',fun b hb=>(hf b hb).1⟩⟩;rw[Int.mul_one]
 done:=by
  intro X hP hw hK hc i ae s σ H E I hf st hg;subst hP hw hK;obtain⟨f0,f1,f2,f3,f4,f5⟩:=hf it (by simp);exact wpAny_pyNext_range_end (I.ok.hd hc) st (by have:n<=i:=hg;omega) fun h' eb=>⟨rfl,I.turned (t':=s.toks) (fun b o hb e=>eb b o hb e) f0 f1 f3 f4 f5⟩
 self:=fun _ _ _ _ _ st h=>wpAny_pyIter_rangeiter st h
section
variable{X:Cx}{tg:K5}
theorem yQ{ae:List (J8×Obj)}{σ:St}{H:Hp}{s:J0}{R:It->Hp->Prop}{E:u8->J0->Prop}{lo hi:Int}{t u v:Tok}{tk:Nat}(I:Inv X ae σ H s) (h1:-(2 ^ 62)<=lo) (h2:lo<2 ^ 62) (h3:-(2 ^ 62)<=hi) (h4:hi<2 ^ 62)
  (q:R (Itr lo (hi-lo).toNat) H):K4 (K7 X.prog X.w) X.A (ad3 (.ref s.heap.objs.size)) (PIE X ae σ tg R) E { s with heap:=s.heap.push { cls:=.type "range",data:=.fields #[.int lo t,.int hi u,.int 1 v] },toks:=tk }:=by
 refine wpAny_pyIter_range (IsRange.new ..) (small_one h1 h2 h3 h4) ?_;have I1:Inv X ae σ H { s with heap:=s.heap.push { cls:=.type "range",data:=.fields #[.int lo t,.int hi u,.int 1 v] },toks:=tk }:=I.kept fun b o e=>J1 _ e;refine⟨(s.heap.push { cls:=.type "range",data:=.fields #[.int lo t,.int hi u,.int 1 v] }).objs.size,[(s.heap.push { cls:=.type "range",data:=.fields #[.int lo t,.int hi u,.int 1 v] }).objs.size],_,_,H,rfl,
  I1.kept (t':=tk) fun b o e=>J1 _ e,ve _ lo (hi-lo).toNat,?_,fun b hb=>?_,q⟩
 ·have e1:lo+((0:Nat):Int)*1=lo:=by simp
  have e2:(((hi-lo).toNat:Nat):Int)-((0:Nat):Int)=L4.Range.rangeSize lo hi 1:=by rw[rangeSize_one];split<;>omega
  show IsRangeIter _ _ (lo+((0:Nat):Int)*1) ((((hi-lo).toNat:Nat):Int)-((0:Nat):Int)) 1;rw[e1,e2];exact J9 _ rfl
 ·have e:b=(s.heap.push { cls:=.type "range",data:=.fields #[.int lo t,.int hi u,.int 1 v] }).objs.size:=by simpa using hb
  subst e;exact I1.fpOk (J6 _) (I1.hok.fresh (J6 _))
def HY(ta:TA):TI:=fun σ H R=>ta σ H fun vs H1=>∃j:Int,vs=[.int j]/\-(2 ^ 62)<=j/\j<2 ^ 62/\R (Itr 0 j.toNat) H1
theorem xj{a:K5}{ta:TA}{p pos:Pos}(hg:Gl X "range") (hm:X.mg "range"=none) (ha:PA X [a] ta) (hs:K2 [a] X.env=[(false,V3 a X.env)]:=by rfl):PI X tg (.Call (.Name "range" p) [a] [] pos) (HY ta):=by
 intro ae s σ H R I h;refine Call_ (jP I hg hm boot_range (PyProof.Rows.callWith_type1 (thn (ha pos ae s σ H _ I h) fun us s1 hup=>hup.el fun vs H1 I1 r1 q1=>?_) hs rfl));obtain⟨j,e,q1,q2,q⟩:=q1;subst e;cases r1 with
 |cons r rr =>
  cases rr;obtain⟨t,rfl⟩:=r;exact call_range_1 (yQ I1 (by decide) (by decide) q1 q2 (by simpa using q))
def IL(wi:TI) (g:TG) (tb:TS):TS:=fun D σ H=>wi σ H fun J H1=>∃W:Nat->Nat->St->Hp->Prop,(∃m,W 0 m σ H1)/\∀i m σ H,W i m σ H ->
 (J.stop i H/\D.nx σ H)∨(J.go i H/\∃N:St->Hp->Prop,(∀ σ' H',N σ' H'->∃m',m'<m/\W (i+1) m' σ' H')/\∀x H',J.yld i H x H'->g x σ H' fun σ2 H2=>tb { D with nx:=N,ct:=N,bk:=D.nx } σ2 H2)
noncomputable def j8(fp:List J8) (h:L6):List (J8×Obj):=fp.filterMap fun b=>(h.get? b).map fun o=>(b,o)
theorem dM{fp:List J8}{h:L6}{b:J8}{o:Obj}(hb:b∈fp) (e:h.get? b=some o):(b,o)∈j8 fp h:=W0.mpr ⟨b,hb,by rw[e];rfl⟩
theorem px{fp:List J8}{h:L6}{p:J8×Obj}(hp:p∈j8 fp h):p.1∈fp/\h.get? p.1=some p.2:=by
 obtain⟨b,hb,e⟩:=W0.mp hp;cases q:h.get? b with
 |none=>rw[q]at e;cases e
 |some o =>
  rw[q]at e;have e':(b,o)=p:=N4 e;subst e';exact⟨hb,q⟩
theorem Inv.pinned{ae:List (J8×Obj)}{σ:St}{H:Hp}{s:J0}{fp:List J8}(I:Inv X ae σ H s) (hf:∀b∈fp,du X ae H b) (ho:∀b∈fp,∃o,s.heap.get? b=some o/\∀v,o.data≠.cell v):Inv X (ae++j8 fp s.heap) σ H s :=
 I.pins_of fun p hp=>(V9.mp hp).elim (fun z=>I.pin p (K0 _ z)) fun z=>by
  obtain⟨hb,e⟩:=px z;obtain⟨f0,f1,f2,_⟩:=hf p.1 hb;obtain⟨o,e',d⟩:=ho p.1 hb;rw[e]at e';cases e';exact⟨e,f0,f1,f2,d⟩
theorem Inv.unpinned{ae pl:List (J8×Obj)}{σ:St}{H:Hp}{s:J0}(I:Inv X (ae++pl) σ H s):Inv X ae σ H s:=I.pins_of fun p hp=>I.pin p (K0 _ (List.mem_append_left _ hp))
theorem EG{iter:K5}{body:List ab0}{wi:TI}{g:TG}{tb:TS}{pos:Pos}(hp:ad9 (K7 X.prog X.w) X.A X.env X.xe) (hc:X.calm=true) (hi:PI X tg iter wi) (hg:PG X tg g) (hb:PSs X body tb)
  (hs:∀x,O8 iter X.env x=X9 x:=by intro _;rfl):PS X (.For tg iter body [] pos) (IL wi g tb):=by
 intro ae s σ H D I h;refine wpAny_For (thn (hi ae s σ H _ I h) fun v s1 h1=>thn h1 fun itv s2 h2=>?_) hs;obtain⟨it,fp,tn,J,H2,e,I2,T,st2,f2,W,⟨m0,w0⟩,turn⟩:=h2;subst e
 -- what stays true of the iterator's objects through the loop
 have stat:∀{H':Hp},(∀b∈fp,H' b=none)->∀b∈fp,du X ae H' b:=fun hn b hb=>⟨hn b hb,(f2 b hb).2⟩;refine codeAny_forLoop_any (fun n s'=>∃i σ' H',Inv X ae σ' H' s'/\tn i s'.heap/\(∀b∈fp,H' b=none)/\W i n σ' H') ?_ m0 ⟨0,σ,H2,I2,st2,fun b hb=>(f2 b hb).1,w0⟩;rintro n s3 ⟨i,σ3,H3,I3,st3,fr3,w3⟩;rcases turn i n σ3 H3 w3 with⟨stop,qn⟩|⟨go,N,hN,step⟩
 ·refine S8 hp (thn (T.done X rfl rfl rfl hc i ae s3 σ3 H3 X.xe I3 (stat fr3) st3 stop) fun r s4 ⟨hr,I4⟩=>?_);subst hr;exact Z4 ⟨σ3,H3,I4,qn⟩
 ·refine S8 hp (thn (T.item X rfl rfl rfl hc i ae s3 σ3 H3 X.xe I3 (stat fr3) st3 go) fun r s4 ⟨u,hr,h4⟩=>?_);subst hr;refine S8 hp (thn h4 fun _ s5 ⟨x,H5,I5,r5,y5,st5,fr5⟩=>?_);have I5':=I5.pinned (stat fr5) (T.obj _ _ st5);refine S8 hp (thn (hg _ s5 σ3 H5 x u _ I5' r5 (step x H5 y5)) fun _ s6 ⟨σ6,H6,I6,q6⟩=>?_);refine S8 hp (thn (hb _ s6 σ6 H6 _ I6 q6) fun f s7 q7=>?_);have again:∀{σ7:St} {H7:Hp},Inv X (ae++j8 fp s5.heap) σ7 H7 s7->N σ7 H7->∃m,m<n/\∃i σ' H',Inv X ae σ' H' s7/\tn i s7.heap/\(∀b∈fp,H' b=none)/\W i m σ' H':=fun {σ7 H7} I7 n7=>by
   obtain⟨m',hm,w7⟩:=hN σ7 H7 n7;refine⟨m',hm,i+1,σ7,H7,I7.unpinned,T.keep _ _ _ st5 fun b hb o e=>(I7.pin (b,o) (K0 _ (K0 _ (dM hb e)))).1,fun b hb=>?_,w7⟩;obtain⟨o,e,d⟩:=T.obj _ _ st5 b hb;exact(I7.pin (b,o) (K0 _ (K0 _ (dM hb e)))).2.1
  cases f with
  |next=>obtain⟨σ7,H7,I7,n7⟩:=q7;exact again I7 n7
  |cont=>obtain⟨σ7,H7,I7,n7⟩:=q7;exact again I7 n7
  |brk=>obtain⟨σ7,H7,I7,q7⟩:=q7;exact⟨σ7,H7,I7.unpinned,q7⟩
  |ret v=>obtain⟨x7,σ7,H7,I7,r7,q7⟩:=q7;exact⟨x7,σ7,H7,I7.unpinned,r7,q7⟩
end
abbrev R2:=V->V->Hp->VK->Prop
def OpR(X:Cx) (f:u8->u8->Sem u8) (r:R2):Prop :=
 ∀(ae:List (J8×Obj)) (s:J0) (σ:St) (H:Hp) (x y:V) (v u:u8) (Q:VK),Inv X ae σ H s->aI x v->aI y u->r x y H Q ->
  K4 (K7 X.prog X.w) X.A (f v u) (EP X ae σ Q) X.xe s
def UnR(X:Cx) (f:u8->Sem u8) (r:V->Hp->VK->Prop):Prop :=
 ∀(ae:List (J8×Obj)) (s:J0) (σ:St) (H:Hp) (x:V) (v:u8) (Q:VK),Inv X ae σ H s->aI x v->r x H Q ->
  K4 (K7 X.prog X.w) X.A (f v) (EP X ae σ Q) X.xe s
def cP(X:Cx) (f:u8) (r:List V->Hp->VK->Prop):Prop :=
 ∀(ae:List (J8×Obj)) (s:J0) (σ:St) (H:Hp) (xs:List V) (us:List u8) (Q:VK),Inv X ae σ H s->az xs us->r xs H Q ->
  K4 (K7 X.prog X.w) X.A (call f us) (EP X ae σ Q) X.xe s
def tOp(r:R2) (ta tb:TE):TE:=fun σ H Q=>ta σ H fun x H1=>tb σ H1 fun y H2=>r x y H2 Q
def tUn(r:V->Hp->VK->Prop) (ta:TE):TE:=fun σ H Q=>ta σ H fun x H1=>r x H1 Q
def rI(C:Int->Int->Prop) (g:Int->Int->V):R2:=fun x y H Q=>∃i j,x=.int i/\y=.int j/\C i j/\Q (g i j) H
def rI0(g:Int->Int->V):R2:=fun x y H Q=>∃i j,x=.int i/\y=.int j/\Q (g i j) H
def rU(g:Int->V):V->Hp->VK->Prop:=fun x H Q=>∃i,x=.int i/\Q (g i) H
section
variable{X:Cx}{a b c:K5}{ta tb tc:TE}{pos:Pos}
theorem Fp(ha:PE X a ta) (hb:PE X b tb) {ae:List (J8×Obj)}{s:J0}{σ:St}{H:Hp}{R:V->V->Hp->Prop}(I:Inv X ae σ H s)
  (h:ta σ H fun x H1=>tb σ H1 fun y H2=>R x y H2) {Q:u8->J0->Prop} {f:u8->u8->Sem u8}
  (hf:∀v u s2 x y H2,Inv X ae σ H2 s2->aI x v->aI y u->R x y H2->K4 (K7 X.prog X.w) X.A (f v u) Q X.xe s2) :
  K4 (K7 X.prog X.w) X.A (V3 a X.env) (fun v s₁=>K4 (K7 X.prog X.w) X.A (V3 b X.env) (fun u s₂=>K4 (K7 X.prog X.w) X.A (f v u) Q X.xe s₂) X.xe s₁) X.xe s:=by
 refine thn (ha ae s σ H _ I h) fun v s1 hup=>hup.el fun x H1 I1 r1 q1=>?_;refine thn (hb ae s1 σ H1 _ I1 q1) fun u s2 hup=>hup.el fun y H2 I2 r2 q2=>?_;exact hf v u s2 x y H2 I2 r1 r2 q2
theorem DJ{op:ad4}{r:R2}(ho:OpR X (P7 op) r) (ha:PE X a ta) (hb:PE X b tb):PE X (.BinOp a op b pos) (tOp r ta tb):=by
 intro ae s σ H Q I h;exact wpAny_BinOp (Fp ha hb I h fun v u s2 x y H2 I2 rx ry q=>ho ae s2 σ H2 x y v u Q I2 rx ry q)
theorem Gm{op:UnaryOp}{r:V->Hp->VK->Prop}(ho:UnR X (unaryOp op) r) (ha:PE X a ta):PE X (.UnaryOp op a pos) (tUn r ta):=by
 intro ae s σ H Q I h;exact UnaryOp_ (thn (ha ae s σ H _ I h) fun v s1 hup=>hup.el fun x H1 I1 r1 q1=>ho ae s1 σ H1 x v Q I1 r1 q1)
theorem opI{f:u8->u8->Sem u8}{C:Int->Int->Prop}{g:Int->Int->Int}
  (rule:∀(i j:Int) (t u:Tok) (s:J0) (Q:u8->J0->Prop) (E:u8->J0->Prop),C i j->Q (.int (g i j) s.toks) { s with toks:=s.toks+1 }->K4 (K7 X.prog X.w) X.A (f (.int i t) (.int j u)) Q E s) :
  OpR X f (rI C fun i j=>.int (g i j)):=by
 intro ae s σ H x y v u Q I rx ry h;obtain⟨i,j,rfl,rfl,hc,q⟩:=h;obtain⟨t,rfl⟩:=rx;obtain⟨t',rfl⟩:=ry;exact rule i j t t' s _ _ hc ⟨.int (g i j),H,I.tok _,⟨_,rfl⟩,q⟩
theorem Hb{f:u8->u8->Sem u8}{g:Int->Int->Int}
  (rule:∀(i j:Int) (t u:Tok) (s:J0) (Q:u8->J0->Prop) (E:u8->J0->Prop),Q (.int (g i j) s.toks) { s with toks:=s.toks+1 }->K4 (K7 X.prog X.w) X.A (f (.int i t) (.int j u)) Q E s) :
  OpR X f (rI0 fun i j=>.int (g i j)):=by
 intro ae s σ H x y v u Q I rx ry h;obtain⟨i,j,rfl,rfl,q⟩:=h;obtain⟨t,rfl⟩:=rx;obtain⟨t',rfl⟩:=ry;exact rule i j t t' s _ _ ⟨.int (g i j),H,I.tok _,⟨_,rfl⟩,q⟩
theorem Bw{f:u8->u8->Sem u8}{g:Int->Int->Bool}
  (rule:∀(i j:Int) (t u:Tok) (s:J0) (Q:u8->J0->Prop) (E:u8->J0->Prop),Q (.bool (g i j)) s->K4 (K7 X.prog X.w) X.A (f (.int i t) (.int j u)) Q E s) :
  OpR X f (rI0 fun i j=>.bl (g i j)):=by
 intro ae s σ H x y v u Q I rx ry h;obtain⟨i,j,rfl,rfl,q⟩:=h;obtain⟨t,rfl⟩:=rx;obtain⟨t',rfl⟩:=ry;exact rule i j t t' s _ _ ⟨.bl (g i j),H,I,rfl,q⟩
def nU(i j:Int):Prop:=0<j/\j<1073741824
def xq(i j:Int):Prop:=0<=j/\j<=1000000/\i.natAbs<2 ^ 64
def iz(i j:Int):Prop:=(-(2 ^ 64)<i/\i<2 ^ 64)∨(-(2 ^ 64)<j/\j<2 ^ 64)
theorem iz.ok{i j:Int}(h:iz i j):IntMulOk i j:=by
 rcases h with⟨h1,h2⟩|⟨h1,h2⟩
 ·exact .of_left (intBits_le_64 h1 h2)
 ·exact .of_right (intBits_le_64 h1 h2)
theorem D7:OpR X (P7 .Add) (rI0 fun i j=>.int (i+j)):=Hb fun _ _ _ _ _ _ _ q=>add_int q
theorem Fe:OpR X (P7 .Sub) (rI0 fun i j=>.int (i-j)):=Hb fun _ _ _ _ _ _ _ q=>sub_int q
theorem E6:OpR X (P7 .Mult) (rI iz fun i j=>.int (i*j)):=opI fun _ _ _ _ _ _ _ hc q=>mul_int q hc.ok
theorem B1:OpR X (P7 .FloorDiv) (rI nU fun i j=>.int (i / j)):=opI fun i j _ _ _ _ _ hc q=>by
 have h1:(0:Int)<j:=hc.1;have h2:j<1073741824:=hc.2;exact floordiv_int (by omega) (by rw[Int.fdiv_eq_ediv_of_nonneg i (by exact aa2 (by assumption))];exact q) (.inl (PyProof.noPylong_small (by omega)))
theorem FW:OpR X (P7 .Mod) (rI (fun _ j=>0<j) fun i j=>.int (i % j)):=opI fun i j _ _ _ _ _ hc q=>by
 have h1:(0:Int)<j:=hc;exact mod_int' (by omega) (by rw[Int.fmod_eq_emod_of_nonneg i (by exact aa2 (by assumption))];exact q)
theorem FN:OpR X (P7 .Pow) (rI xq fun i j=>.int (i ^ j.toNat)):=opI fun _ _ _ _ _ _ _ hc q=>pow_int_small hc.1 hc.2.1 hc.2.2 q
theorem unI{f:u8->Sem u8}{g:Int->Int}
  (rule:∀(i:Int) (t:Tok) (s:J0) (Q:u8->J0->Prop) (E:u8->J0->Prop),Q (.int (g i) s.toks) { s with toks:=s.toks+1 }->K4 (K7 X.prog X.w) X.A (f (.int i t)) Q E s) :
  UnR X f (rU fun i=>.int (g i)):=by
 intro ae s σ H x v Q I rx h;obtain⟨i,rfl,q⟩:=h;obtain⟨t,rfl⟩:=rx;exact rule i t s _ _ ⟨.int (g i),H,I.tok _,⟨_,rfl⟩,q⟩
theorem Eu:UnR X (unaryOp .USub) (rU fun i=>.int (-i)):=unI fun _ _ _ _ _ q=>neg_int q
end
section
variable{X:Cx}{a b c:K5}{ta tb tc:TE}{pos:Pos}
theorem rn{ae:List (J8×Obj)}{σ:St}{H:Hp}{s:J0}{Q:VK}{k k':Bool}(I:Inv X ae σ H s) (q:Q (.bl k) H) (e:k=k'):EP X ae σ Q (.bool k') s:=by
 subst e;exact⟨.bl k,H,I,rfl,q⟩
theorem GF:OpR X (L3 .Lt) (rI0 fun i j=>.bl (decide (i<j))):=Bw fun _ _ _ _ _ _ _ q=>lt_int q
theorem Gg:OpR X (L3 .LtE) (rI0 fun i j=>.bl (decide (i<=j))):=Bw fun _ _ _ _ _ _ _ q=>le_int q
theorem HK:OpR X (L3 .Gt) (rI0 fun i j=>.bl (decide (j<i))):=Bw fun _ _ _ _ _ _ _ q=>gt_int q
theorem HI:OpR X (L3 .GtE) (rI0 fun i j=>.bl (decide (j<=i))):=Bw fun _ _ _ _ _ _ _ q=>ge_int q
theorem xm:OpR X (L3 .In) (fun x y H Q=>∃i j,x=.str i/\y=.str j/\Q (.bl (!(T6 j i 0 j.length 1).isEmpty)) H):=by
 intro ae s σ H x y v u Q I rx ry h;obtain⟨i,j,rfl,rfl,q⟩:=h;obtain⟨t,rfl⟩:=rx;obtain⟨t',rfl⟩:=ry;exact in_str (rn I q rfl)
theorem F7:OpR X (L3 .Is) (fun x y H Q=>y=.non/\Q (.bl (decide (x=.non))) H):=by
 intro ae s σ H x y v u Q I rx ry h;obtain⟨rfl,q⟩:=h;cases ry;refine is_none_gen (rn I q ?_);cases x<;>first
  |(cases rx;rfl)
  |(obtain⟨t,rfl⟩:=rx;rfl)
theorem CY:OpR X (L3 .IsNot) (fun x y H Q=>y=.non/\Q (.bl (!decide (x=.non))) H):=by
 intro ae s σ H x y v u Q I rx ry h;obtain⟨rfl,q⟩:=h;cases ry;refine isnot_none_gen (rn I q ?_);cases x<;>first
  |(cases rx;rfl)
  |(obtain⟨t,rfl⟩:=rx;rfl)
theorem rM:OpR X (L3 .NotIn) (fun x y H Q=>∃i j,x=.str i/\y=.str j/\Q (.bl (!(!(T6 j i 0 j.length 1).isEmpty))) H):=by
 intro ae s σ H x y v u Q I rx ry h;obtain⟨i,j,rfl,rfl,q⟩:=h;obtain⟨t,rfl⟩:=rx;obtain⟨t',rfl⟩:=ry;exact notIn_str (rn I q rfl)
theorem BG{op:ac7}{r:R2}(ho:OpR X (L3 op) r) (ha:PE X a ta) (hb:PE X b tb) (hm:T4 op b=false):PE X (.Compare a [op] [b] pos) (tOp r ta tb):=by
 intro ae s σ H Q I h;exact wpAny_Compare1 (Fp ha hb I h fun v u s2 x y H2 I2 rx ry q=>ho ae s2 σ H2 x y v u Q I2 rx ry q) hm
def By(t:TE):TT:=fun σ H Q=>t σ H fun x H'=>∃k,x=.bl k/\Q k H'
theorem Cd{op:ac7}{r:R2}(ho:OpR X (L3 op) r) (ha:PE X a ta) (hb:PE X b tb) (hm:T4 op b=false):PT X (.Compare a [op] [b] pos) (By (tOp r ta tb)):=by
 intro ae s σ H Q I h;refine wpAny_isTrue_Compare1 (thn (ha ae s σ H _ I h) fun v s1 hup=>hup.el fun x H1 I1 r1 q1=>thn (hb ae s1 σ H1 _ I1 q1) fun u s2 hup=>hup.el fun y H2 I2 r2 q2 =>
  thn (ho ae s2 σ H2 x y v u _ I2 r1 r2 q2) fun c s3 ⟨z,H3,I3,r3,k,e,q3⟩=>?_) hm
 subst e;cases r3;exact O4 ⟨H3,I3,q3⟩
def Ad(r r':R2) (ta tb tc:TE):TE:=fun σ H Q=>ta σ H fun x H1=>tb σ H1 fun y H2=>r x y H2 fun z H3=>∃k,z=.bl k /\
 (if k=true then tc σ H3 fun w' H4=>r' y w' H4 Q else Q (.bl false) H3)
theorem Av{op op':ac7}{r r':R2}(ho:OpR X (L3 op) r) (ho':OpR X (L3 op') r') (ha:PE X a ta) (hb:PE X b tb) (hc:PE X c tc)
  (hm:ae0 [op,op'] [b,c]=false:=by with_unfolding_all rfl):PE X (.Compare a [op,op'] [b,c] pos) (Ad r r' ta tb tc):=by
 intro ae s σ H Q I h;refine Compare_chain (thn (ha ae s σ H _ I h) fun v s1 hup=>hup.el fun x H1 I1 r1 q1=>chain_link (thn (hb ae s1 σ H1 _ I1 q1) fun u s2 hup=>hup.el fun y H2 I2 r2 q2 =>
  thn (ho ae s2 σ H2 x y v u _ I2 r1 r2 q2) fun d s3 ⟨z,H3,I3,r3,k,e,q3⟩=>?_)) hm
 subst e;cases r3;refine O4 ?_;cases k with
 |false=>exact ite_ff ⟨.bl false,H3,I3,rfl,q3⟩
 |true=>exact ite_tt (chain_last (thn (hc ae s3 σ H3 _ I3 q3) fun w' s4 ⟨z',H4,I4,r4,q4⟩=>ho' ae s4 σ H4 y z' u w' Q I4 r2 r4 q4))
theorem zq{op op':ac7}{r r':R2}(ho:OpR X (L3 op) r) (ho':OpR X (L3 op') r') (ha:PE X a ta) (hb:PE X b tb) (hc:PE X c tc)
  (hm:ae0 [op,op'] [b,c]=false:=by with_unfolding_all rfl):PT X (.Compare a [op,op'] [b,c] pos) (By (Ad r r' ta tb tc)):=by
 intro ae s σ H Q I h;refine isTrue_chain (thn (ha ae s σ H _ I h) fun v s1 hup=>hup.el fun x H1 I1 r1 q1=>test_link (thn (hb ae s1 σ H1 _ I1 q1) fun u s2 hup=>hup.el fun y H2 I2 r2 q2 =>
  thn (ho ae s2 σ H2 x y v u _ I2 r1 r2 q2) fun d s3 ⟨z,H3,I3,r3,k,e,q3⟩=>?_)) hm
 subst e;cases r3;refine O4 ?_;cases k with
 |false =>
  obtain⟨k',e',q'⟩:=q3;cases e';exact ite_ff ⟨H3,I3,q'⟩
 |true =>
  refine ite_tt (test_last (thn (hc ae s3 σ H3 _ I3 q3) fun w' s4 ⟨z',H4,I4,r4,q4⟩=>thn (ho' ae s4 σ H4 y z' u w' _ I4 r2 r4 q4) fun d' s5 ⟨z2,H5,I5,r5,k2,e2,q5⟩=>?_));subst e2;cases r5;exact O4 ⟨H5,I5,q5⟩
theorem lr:(J3:Nat)<2 ^ 63:=by rw[aa7];decide
theorem ux:OpR X (P7 .Add) (fun x y H Q=>∃i j,x=.str i/\y=.str j/\i.length+j.length<=J3/\Q (.str (i++j)) H):=by
 intro ae s σ H x y v u Q I rx ry h;obtain⟨i,j,rfl,rfl,hz,q⟩:=h;obtain⟨t,rfl⟩:=rx;obtain⟨t',rfl⟩:=ry;exact add_str (fun t' tk=>⟨.str (i++j),H,I.tok _,⟨_,rfl⟩,q⟩) hz
theorem pX{x:V}{us:List u8}(r:az [x] us):∃u,us=[u]/\aI x u:=by
 cases r with
 |cons r1 r2=>cases r2;exact⟨_,rfl,r1⟩
theorem wX{x y:V}{us:List u8}(r:az [x,y] us):∃u w',us=[u,w']/\aI x u/\aI y w':=by
 cases r with
 |cons r1 r2 =>
  cases r2 with
  |cons r3 r4=>cases r4;exact⟨_,_,rfl,r1,r3⟩
theorem zF:cP X (.builtin "abs") (fun xs H Q=>∃i,xs=[.int i]/\Q (.int (if i<0 then -i else i)) H):=by
 intro ae s σ H xs us Q I r h;obtain⟨i,rfl,q⟩:=h;obtain⟨u,rfl,t,rfl⟩:=pX r;exact call_abs_int fun u tk=>⟨.int (if i<0 then -i else i),H,I.tok _,⟨_,rfl⟩,q⟩
theorem xp(hc:X.calm=true):cP X (.builtin "max") (fun xs H Q=>∃i j,xs=[.int i,.int j]/\Q (.int (if j > i then j else i)) H):=by
 intro ae s σ H xs us Q I r h;obtain⟨i,j,rfl,q⟩:=h;obtain⟨u,w',rfl,⟨t,rfl⟩,⟨t',rfl⟩⟩:=wX r;refine max_two_ints (I.ok.hd hc) fun h' tk k=>⟨_,H,I.kept k,?_,q⟩
 by_cases hj:j > i
 ·rw[if_pos hj,if_pos hj];exact⟨_,rfl⟩
 ·rw[if_neg hj,if_neg hj];exact⟨_,rfl⟩
theorem yb(hc:X.calm=true):cP X (.builtin "min") (fun xs H Q=>∃i j,xs=[.int i,.int j]/\Q (.int (if j<i then j else i)) H):=by
 intro ae s σ H xs us Q I r h;obtain⟨i,j,rfl,q⟩:=h;obtain⟨u,w',rfl,⟨t,rfl⟩,⟨t',rfl⟩⟩:=wX r;refine min_two_ints (I.ok.hd hc) fun h' tk k=>⟨_,H,I.kept k,?_,q⟩
 by_cases hj:j<i
 ·rw[if_pos hj,if_pos hj];exact⟨_,rfl⟩
 ·rw[if_neg hj,if_neg hj];exact⟨_,rfl⟩
theorem sO:cP X (.builtin "divmod") (fun xs H Q=>∃i j,xs=[.int i,.int j]/\nU i j/\∀p,H p=none->Q (.ref p) (upd H p (.tup [.int (i / j),.int (i % j)]))):=by
 intro ae s σ H xs us Q I r h;obtain⟨i,j,rfl,⟨h1,h2⟩,q⟩:=h;obtain⟨u,w',rfl,⟨t,rfl⟩,⟨t',rfl⟩⟩:=wX r;refine divmod_int (by omega) ?_ (.inl (PyProof.noPylong_small (by omega)));rw[Int.fdiv_eq_ediv_of_nonneg i (by exact aa2 (by assumption)),Int.fmod_eq_emod_of_nonneg i (by exact aa2 (by assumption))];have hn:H s.heap.objs.size=none:=I.hok.fresh (J6 _);refine⟨.ref s.heap.objs.size,_,?_,rfl,q _ hn⟩;refine I.laid (fun b o e=>J1 _ e) (J6 _) ⟨by simp only[N5,W1];rw[aa7];decide,[.int (i / j) s.toks,.int (i % j) (s.toks+1)],.cons ⟨_,rfl⟩ (.cons ⟨_,rfl⟩ .nil),?_⟩;exact⟨_,J9 s.heap rfl,rfl,⟨0,rfl⟩,rfl⟩
end
structure xK(h:L6) (x dx C:J8) (mA:Str->Option u8):Prop where
 obj:h.get? x=some (R3 C dx)
 ns:h.Ns1 dx mA
 ne:dx≠x
theorem xD{h:L6}{dx:J8}{mA:Str->Option u8}(n:h.Ns1 dx mA):∃od,h.get? dx=some od/\∀name,PySem.W.lookIn name od=some (mA name):=by
 obtain⟨o,es,ep,ho,hd,hk,_,hm⟩:=n;refine⟨o,ho,fun name=>?_⟩;have e:=hm name;unfold nsFind findBy at e;rw[<-Array.find?_toList]at e;unfold PySem.W.lookIn;rw[hd];dsimp only
 split
 ·rename_i y q;rw[q]at e;exact congrArg some e
 ·rename_i q;rw[q]at e;have a:es.toList.any (·.refKey)=false:=by
   rw[List.any_eq_false];intro y hy;obtain⟨z,t,hkey⟩:=hk y (Array.mem_toList_iff.mp hy);simp[ae1.refKey,hkey]
  have a':¬ es.toList.any (·.refKey)=true:=by rw[a];exact M7
  rw[if_neg a'];exact congrArg some e
theorem xK.look{h:L6}{x dx C:J8}{mA:Str->Option u8}(I:xK h x dx C mA):∃od,PySem.W.InstAt h x (R3 C dx) C (some od)/\∀name,PySem.W.lookIn name od=some (mA name) :=
 let⟨od,ho,hl⟩:=xD I.ns
 ⟨od,⟨I.obj,rfl,rfl,ho⟩,hl⟩
section
variable{prog:L1}{w:O6}{A:N1}{E:u8->J0->Prop}{s:J0}{K:o0}{x dx C f:J8}{mA:Str->Option u8}{name:Str}{v:u8}
theorem Do{expr:Bool}{Q:u8->J0->Prop}(X:K.In s.heap) (I:xK s.heap x dx C mA) (hg:PySem.W.plainGet K C name=true) (hh:PySem.W.hasDictIn K C=true)
  (ha:S3 K (.ref C) name=some none) (hv:mA name=some v) (hv':PySem.W.handedIn v=true) (h:Q v { s with toks:=s.toks+1 }) :
  K4 (K7 prog w) A (getAttr (.ref x) name expr) Q E s:=by
 obtain⟨od,J,hl⟩:=I.look;exact PySem.W.get_value X J (PySem.W.plainGet_of hg).1 (PySem.W.findObj_own hh ha rfl (by rw[hl,hv])) hv' h
theorem CC{ns:List Str}{Q:Unit->J0->Prop}(X:K.In s.heap) (I:xK s.heap x dx C mA)
  (hs:S3 K (.ref C) "__setattr__"=some (some (.builtin "object.__setattr__"))) (hp:PySem.W.plainOver K C=true) (ht:PySem.W.takerIn K C name=some none) (hh:PySem.W.hasDictIn K C=true)
  (hw:ab2 mA ns) (hsz:ns.length<=J3)
  (h:∀h',xK h' x dx C (fun y=>if y=name then some v else mA y)->S1 dx s.heap h'->Q () { s with heap:=h',toks:=s.toks+2 }) :
  K4 (K7 prog w) A (setAttr (.ref x) name v) Q E s:=by
 obtain⟨od,J,hl⟩:=I.look;refine PySem.W.set_plain X J hs (PySem.W.osa_open (s:={ s with toks:=s.toks+1 }) (r:=none) X J hp ht fun b=>?_);obtain⟨cd,hc,hd'⟩:=PySem.W.any_some hh;have hx:s.heap.get? x=some ⟨.ref C,some dx,.plain,#[]⟩:=I.obj;refine I0 (J5 (I0 (I0 (wpAny_loadPart hx (I0 (PySem.W.Looks.here (s:={ s with toks:=s.toks+1 }) (PySem.W.looks_clsIn X hc) ?_))))));rw[hd'];refine J5 (a:=some dx) (I0 (J5 (I0 ?_)));refine wpAny_nsSet1 (s:={ s with toks:=s.toks+1 }) I.ns fun h' hn2 hs2=>?_;obtain⟨oD,esD,epD,hoD,hdD,hcD⟩:=hn2.count (ab2.cons name v hw);refine I0 (wpAny_lookBehind hoD (by rw[hdD];exact pastItsLine_dict (L5 hcD (by rw[N5];omega))) ?_);exact J5 (h _ ⟨(hs2.2 _ (X0 I.ne)).trans I.obj,hn2,I.ne⟩ hs2)
theorem zO{R:ae2->J0->Prop}{vs:List u8}{kw:List (Str×u8)}(X:K.In s.heap) (hm:PySem.W.makesIn K C=true)
  (hi:S3 K (.ref C) "__init__"=some (some (.ref f))) (hf:PySem.W.typeIn K (.ref f)=some (.type "function"))
  (h:V2 (K7 prog w) (A.under (.builtin "type.__call__" ⟨.ref C :: vs,kw⟩)) (.call (.ref f) ⟨.ref (s.heap.objs.size + 1) :: vs,kw⟩) (PySem.W.InitBack (s.heap.objs.size + 1) R)
   { s with heap:=(s.heap.push O9).push (R3 C s.heap.objs.size) }) :
  V2 (K7 prog w) A (.call (.ref C) ⟨vs,kw⟩) R s:=by
 obtain⟨hh,g,d,t,os⟩:=s;exact PySem.W.make_core (PySem.W.makes_of X hm) (PySem.W.looks_findIn X hi) (fun self=>PySem.W.bind_fn X self hf) (.inl rfl) h
end
noncomputable def putF(f:Str) (v:V):List (Str×V)->List (Str×V)
 |[]=>[(f,v)]
 |(g,x)::r=>if g=f then(g,v)::r else(g,x)::putF f v r
theorem lV(f g:Str) (v:V):∀fs:List (Str×V),(putF f v fs).lookup g=if g=f then some v else fs.lookup g
 |[]=>by
  show T7 g [(f,v)]=_
  by_cases h:g=f
  ·have hb:(g==f)=true:=beq_iff_eq.mpr h;simp only[T7,hb,if_pos h]
  ·have hb:(g==f)=false:=beq_eq_false_iff_ne.mpr h;simp only[T7,hb,if_neg h]
 |(k,x)::r=>by
  have ih:=lV f g v r;rw[show putF f v ((k,x)::r)=(if k=f then(k,v)::r else(k,x)::putF f v r)from rfl]
  by_cases hk:k=f
  ·rw[if_pos hk]
   by_cases h:g=k
   ·have hb:(g==k)=true:=beq_iff_eq.mpr h;simp only[T7,hb,if_pos (h.trans hk)]
   ·have hb:(g==k)=false:=beq_eq_false_iff_ne.mpr h;simp only[T7,hb,if_neg (fun e:g=f=>h (e.trans hk.symm))]
  ·rw[if_neg hk]
   by_cases h:g=k
   ·have hb:(g==k)=true:=beq_iff_eq.mpr h;simp only[T7,hb,if_neg (fun e:g=f=>hk (h.symm.trans e))]
   ·have hb:(g==k)=false:=beq_eq_false_iff_ne.mpr h;simp only[T7,hb];exact ih
theorem lE(f:Str) (v:V):∀fs:List (Str×V),f∈(putF f v fs).map (·.1)/\∀g,g∈fs.map (·.1)->g∈(putF f v fs).map (·.1)
 |[]=>⟨by simp[putF],fun g h=>by simp at h⟩
 |(k,x)::r=>by
  obtain⟨i1,i2⟩:=lE f v r;rw[show putF f v ((k,x)::r)=(if k=f then(k,v)::r else(k,x)::putF f v r)from rfl]
  by_cases hk:k=f
  ·rw[if_pos hk];subst hk;exact⟨by simp,fun g h=>by simpa using h⟩
  ·rw[if_neg hk];refine⟨?_,fun g h=>?_⟩
   ·rw[L7];exact L9 _ i1
   ·rw[L7]at h ⊢;rcases O7.mp h with e|e
    ·exact O7.mpr (.inl e)
    ·exact L9 _ (i2 g e)
theorem lW(f:Str) (v:V):∀fs:List (Str×V),(putF f v fs).length<=fs.length+1
 |[]=>by simp[putF]
 |(k,x)::r=>by
  have ih:=lW f v r;rw[show putF f v ((k,x)::r)=(if k=f then(k,v)::r else(k,x)::putF f v r)from rfl]
  by_cases hk:k=f
  ·rw[if_pos hk,N5,N5];omega
  ·rw[if_neg hk,N5,N5];omega
theorem jt.some_of{v:V}{o:Option u8}(r:jt (some v) o):∃u,o=some u/\aI v u:=by
 cases o with
 |none=>exact(show False from r).elim
 |some u=>exact⟨u,rfl,r⟩
theorem xv{v:V}{u:u8}(r:aI v u):PySem.W.handedIn u=true:=by
 cases v with
 |non=>cases(show u=W9 from r);rfl
 |bl b=>cases(show u=u8.bool b from r);rfl
 |int i=>obtain⟨t,e⟩:=(show ∃t,u=ad5 i t from r);cases e;rfl
 |str x=>obtain⟨t,e⟩:=(show ∃t,u=ad6 x t from r);cases e;rfl
 |byt b=>obtain⟨t,e⟩:=(show ∃t,u=u8.bytes b t from r);cases e;rfl
 |flt b=>obtain⟨t,e⟩:=(show ∃t,u=u8.float b t from r);cases e;rfl
 |ref a=>cases(show u=N3 a from r);rfl
 |ty n=>cases(show u=ab8 n from r);rfl
section
variable{P:L1}{w:O6}{H H':Hp}{h h':L6}{a C dx:J8}{fs fs':List (Str×V)}
theorem wO(hok:HOk P w H h) (e:H a=some (.ins C dx fs)):∃mA,xK h a dx C mA/\(∀f,jt (fs.lookup f) (mA f))/\ab2 mA (fs.map (·.1))/\fs.length<=1000/\H dx=some (.own a):=by
 obtain⟨d,z,ne,ob,mA,n,r,q⟩:=(show cm P w H h a (.ins C dx fs)from hok a _ e);exact⟨mA,⟨ob,n,ne⟩,r,q,z,d⟩
end
structure Cls(K:o0) (C:J8):Prop where
 pg:PySem.W.plainGet K C Str.empty=true
 hd:PySem.W.hasDictIn K C=true
 po:PySem.W.plainOver K C=true
 sa:S3 K (.ref C) "__setattr__"=some (some (.builtin "object.__setattr__"))
theorem Cls.get{K:o0}{C:J8}(c:Cls K C) (f:Str):PySem.W.plainGet K C f=true:=c.pg
def eA(K:o0) (C:J8) (f:Str):Prop:=S3 K (.ref C) f=some none
theorem eA.taker{K:o0}{C:J8}{f:Str}(n:eA K C f):PySem.W.takerIn K C f=some none:=by
 unfold PySem.W.takerIn;rw[show S3 K (.ref C) f=some none from n];rfl
section
variable{X:Cx}{ae:List (J8×Obj)}{σ:St}{H:Hp}{s:J0}{a C dx:J8}{fs:List (Str×V)}{f:Str}{v:V}{A:N1}{E:u8->J0->Prop}
theorem vd{b:Bool}{Q:u8->J0->Prop}(I:Inv X ae σ H s) (e:H a=some (.ins C dx fs)) (c:Cls X.K C) (n:eA X.K C f) (l:fs.lookup f=some v)
  (h:∀u s',Inv X ae σ H s'->aI v u->Q u s'):K4 (K7 X.prog X.w) A (getAttr (.ref a) f b) Q E s:=by
 obtain⟨mA,O,r,_,_,_⟩:=wO I.hok e;obtain⟨u,hu,ru⟩:=jt.some_of (v:=v) (o:=mA f) (by rw[<-l];exact r f);exact Do I.kIn O (c.get f) c.hd n hu (xv ru) (h u _ (I.tok _) ru)
theorem vg{y:V}{u:u8}{Q:Unit->J0->Prop}(I:Inv X ae σ H s) (e:H a=some (.ins C dx fs)) (c:Cls X.K C) (n:eA X.K C f) (hl:fs.length<1000) (ry:aI y u)
  (h:∀s',Inv X ae σ (upd H a (.ins C dx (putF f y fs))) s'->Q () s'):K4 (K7 X.prog X.w) A (setAttr (.ref a) f u) Q E s:=by
 obtain⟨mA,O,r,wi,_,ho⟩:=wO I.hok e;have hz:(fs.map (·.1)).length<=J3:=by rw[U6,aa7];exact L5 (by assumption) (by decide)
 refine CC I.kIn O c.sa c.po n.taker c.hd wi hz fun h' O' sb=>h _ ?_;have hd:∃o,h'.get? dx=some o:=let⟨o,_,_,e',_⟩:=O'.ns;⟨o,e'⟩
 refine I.write (x:=a) (e:=dx) (by rw[e];exact U8) (.inr ho) (fun b q hb z=>(sb.2 b hb).trans z) hd ?_;refine⟨by rw[aL O.ne];exact ho,?_,O.ne,O'.obj,_,O'.ns,fun g=>?_,fun g hg=>?_⟩
 ·have:=lW f y fs;exact L5 (by assumption) (by assumption)
 ·show jt ((putF f y fs).lookup g) (if g=f then some u else mA g);rw[lV]
  by_cases q:g=f
  ·rw[if_pos q,if_pos q];exact ry
  ·rw[if_neg q,if_neg q];exact r g
 ·by_cases q:g=f
  ·rw[q];exact(lE f y fs).1
  ·refine(lE f y fs).2 g (wi g fun z=>hg ?_);show(if g=f then some u else mA g)=none;rw[if_neg q];exact z
theorem Inv.made(I:Inv X ae σ H s):Inv X ae σ (upd (upd H s.heap.objs.size (.own (s.heap.objs.size+1))) (s.heap.objs.size+1) (.ins C s.heap.objs.size []))
  { s with heap:=(s.heap.push O9).push (R3 C s.heap.objs.size) }:=by
 have e1:(s.heap.push O9).get? s.heap.objs.size=some O9:=J9 s.heap rfl;have e2:((s.heap.push O9).push (R3 C s.heap.objs.size)).get? (s.heap.objs.size+1)=some (R3 C s.heap.objs.size):=by
  have:=J9 (s.heap.push O9) (o:=R3 C s.heap.objs.size) rfl
  rwa [X5]at this
 have e3:(s.heap.push O9).Ns s.heap.objs.size (fun _=>none):=⟨O9,#[],_,e1,rfl,(fun e he=>absurd he (by simp)),fun _=>rfl⟩;have I1:=I.laid (a:=s.heap.objs.size) (o:=.own (s.heap.objs.size+1)) (h':=s.heap.push O9) (t':=s.toks) (fun b u q=>J1 _ q) (J6 _) ⟨_,e1⟩;refine I1.laid (a:=s.heap.objs.size+1) (o:=.ins C s.heap.objs.size []) (t':=s.toks) (fun b u q=>J1 _ q) (Nat.le_of_eq (X5 _ _)) ?_;have ne:s.heap.objs.size≠s.heap.objs.size+1:=K3 (U1 _);refine⟨by rw[aL ne,aB],S4 _,ne,e2,fun _=>none,(L6.Ns1.of_empty e3).at fun o q=>J1 _ q,fun _=>U8,fun y hy=>absurd rfl hy⟩
theorem B9{prog:L1}{w:O6}{env:Env}{e:K5}{f:Str}{pos:Pos}{s:J0}{Q:u8->J0->Prop}(hb:U9 e f env (V3 e env)=V3 e env)
  (h:K4 (K7 prog w) A (V3 e env) (fun o s₁=>K4 (K7 prog w) A (getAttr o f true) Q E s₁) E s):K4 (K7 prog w) A (V3 (.Attribute e f pos) env) Q E s :=
 Attribute_any_ h (by rw[arm_eval_Attribute,hb])
end
def IM(K:o0) (ta:TE) (f:Str):TE:=fun σ H Q=>ta σ H fun x H1=>∃a C dx fs v,x=.ref a/\H1 a=some (.ins C dx fs)/\Cls K C/\eA K C f/\fs.lookup f=some v/\Q v H1
def Iy(K:o0) (ta tv:TE) (f:Str):TS:=fun D σ H=>tv σ H fun y H1=>ta σ H1 fun x H2=>∃a C dx fs,x=.ref a/\H2 a=some (.ins C dx fs)/\Cls K C/\eA K C f/\fs.length<1000 /\
 D.nx σ (upd H2 a (.ins C dx (putF f y fs)))
section
variable{X:Cx}{o e value:K5}{f:Str}{pos pos' tpos:Pos}{ta tv:TE}
theorem Fz(he:PE X e ta) (hb:U9 e f X.env (V3 e X.env)=V3 e X.env):PE X (.Attribute e f pos) (IM X.K ta f):=by
 intro ae s σ H Q I h;refine B9 hb (thn (he ae s σ H _ I h) fun u s1 ⟨x,H1,I1,rx,a,C,dx,fs,v,ex,ea,c,n,l,q⟩=>?_);subst ex;obtain rfl:u=N3 a:=rx;exact vd I1 ea c n l fun u' s2 I2 ru=>⟨v,H1,I2,ru,q⟩
theorem Ed(ha:PE X o ta) (hv:PE X value tv) (hs:Z5 value (some (.Attribute o f pos')) pos.line X.env=X9 false):PS X (.Assign [.Attribute o f pos'] value pos) (Iy X.K ta tv f):=by
 intro ae s σ H D I h;refine plainObj_wpAny_Assign_Attribute (thn (hv ae s σ H _ I h) fun u s1 hup=>hup.el fun y H1 I1 ry q=>thn (ha ae s1 σ H1 _ I1 q) fun ov s2 ⟨x,H2,I2,rx,a,C,dx,fs,ex,ea,c,n,l,q2⟩=>?_) hs;subst ex;obtain rfl:ov=N3 a:=rx;exact vg I2 ea c n l ry fun s3 I3=>⟨σ,_,I3,q2⟩
end
section
variable{X:Cx}{ae:List (J8×Obj)}{σ:St}{H:Hp}{s:J0}{A:N1}{E:u8->J0->Prop}{Q:u8->J0->Prop}{c:u8}{b:Bool}
inductive nv (K:o0) (H:Hp):V->u8->Prop where
 |non:nv K H .non (.type "NoneType")
 |bl (x:Bool):nv K H (.bl x) (.type "bool")
 |int (i:Int):nv K H (.int i) (.type "int")
 |str (x:Str):nv K H (.str x) (.type "str")
 |flt (x:UInt64):nv K H (.flt x) (.type "float")
 |lst {a:J8} {xs:List V} (e:H a=some (.lst xs)):nv K H (.ref a) (.type "list")
 |frz {a:J8} {o:Obj} {xs:List V} (e:H a=some (.frz o (.lst xs))):nv K H (.ref a) (.type "list")
 |tup {a:J8} {xs:List V} (e:H a=some (.tup xs)):nv K H (.ref a) (.type "tuple")
 |dK {a:J8} {kvs:List (Key×V)} (e:H a=some (.dK kvs)):nv K H (.ref a) (.type "dict")
 |dT {a:J8} {kvs:List (List Key×V)} (e:H a=some (.dT kvs)):nv K H (.ref a) (.type "dict")
 | ins {a C dx:J8} {fs:List (Str × V)} (e:H a = some (.ins C dx fs)) (cl:Cls K C) (ha:S3 K (.ref C) "__class__" = some (some (.builtin "object.__class__")))
   (hn:PySem.W.specialIn K (.builtin "object.__class__") "__get__"=some (some (.builtin "getset_descriptor.__get__"))) (htk:PySem.W.takesIn K (.builtin "object.__class__")=some true)
   (hm:PySem.W.mroIn K C (.type "object")=some true):nv K H (.ref a) (.ref C)
end
structure cG(k:Nat) (A:N1):Prop where
 hd:A.handled=none
 dp:A.depth+3*k+5<recursionLimit
 un:A.units+16*k+200<aa1
theorem cG.mono{j k:Nat}{A:N1}(r:cG k A) (h:j<=k):cG j A:=⟨r.hd,by have:=r.dp;omega,by have:=r.un;omega⟩
theorem cG.deeper{k:Nat}{A:N1}(r:cG (k+1) A) (env:Env):cG k (A.deeper env) :=
 ⟨r.hd,by have:=r.dp;show A.depth+1+3*k+5<_;omega,by have:=r.un;show A.units+3+16*k+200<_;omega⟩
theorem uz{A:N1}{C:J8}{us:List u8}{kw:List (Str×u8)}:(A.under (.builtin "type.__call__" ⟨.ref C::us,kw⟩)).depth=A.depth+1:=by
 first|rfl|simp[N1.under,Code.weight,Code.isCreation,Code.isGuard,Code.isCaller,Code.frames,Code.isFrame,guardIds]
theorem uV{A:N1}{C:J8}{us:List u8}{kw:List (Str×u8)}:(A.under (.builtin "type.__call__" ⟨.ref C::us,kw⟩)).units=A.units+1:=by
 first|rfl|simp[N1.under,Code.cUnits,Code.frames,Code.isFrame]
theorem cG.make{k:Nat}{A:N1}(r:cG (k+1) A) (C:J8) (us:List u8) (kw:List (Str×u8)):cG k (A.under (.builtin "type.__call__" ⟨.ref C::us,kw⟩)) :=
 ⟨r.hd,by have:=r.dp;rw[uz];omega,by have:=r.un;rw[uV];omega⟩
theorem cG.depth{k:Nat}{A:N1}(r:cG k A):A.depth<recursionLimit:=by have:=r.dp;omega
theorem cG.units{k:Nat}{A:N1}(r:cG k A):A.units+64<aa1:=by have:=r.un;omega
theorem cG.units0{k:Nat}{A:N1}(r:cG k A):A.units<aa1:=by have:=r.un;omega
def IR:TA:=fun _ H Q=>Q [] H
def Gh(ta:TE) (tr:TA):TA:=fun σ H Q=>ta σ H fun x H1=>tr σ H1 fun xs H2=>Q (x::xs) H2
section
variable{X:Cx}{e:K5}{es:List K5}{te:TE}{t:TA}{pos:Pos}
theorem nj:PA X [] IR:=fun _ _ _ _ H Q I h=>Calls.spliced_nil ⟨[],H,I,.nil,h⟩
theorem gY(ha:PE X e te) (hr:PA X es t) (hs:K2 (e::es) X.env=(false,V3 e X.env)::K2 es X.env:=by rfl):PA X (e::es) (Gh te t):=by
 intro pos ae s σ H Q I h;rw[hs];show K4 _ _ (spliced ((false,V3 e X.env)::V8 pos (K2 es X.env))) _ _ s;refine Calls.spliced_cons (thn (ha ae s σ H _ I h) fun u s1 hup=>hup.el fun x H1 I1 r1 q1=>?_);exact thn (hr pos ae s1 σ H1 _ I1 q1) fun us s2 hup=>hup.el fun xs H2 I2 r2 q2=>⟨x::xs,H2,I2,.cons r1 r2,q2⟩
def Ia(t:TA):TE:=fun σ H Q=>t σ H fun xs H1=>xs.length<=J3/\∀p,H1 p=none->Q (.ref p) (upd H1 p (.tup xs))
def IU(t:TA):TE:=fun σ H Q=>t σ H fun xs H1=>xs.length<=J3/\∀p,H1 p=none->Q (.ref p) (upd H1 p (.lst xs))
theorem mX{x1}(h:PA X es t):PE X (.Tuple es x1 pos) (Ia t):=by
 intro ae s σ H Q I hq;refine wpAny_Tuple_spliced (thn (h pos ae s σ H _ I hq) fun us s1 ⟨xs,H1,I1,r,z,q⟩=>⟨by rw[<-r.length];exact z,?_⟩);have hf:H1 s1.heap.objs.size=none:=I1.hok.fresh (J6 _);refine⟨.ref s1.heap.objs.size,upd H1 s1.heap.objs.size (.tup xs),I1.laid (t':=s1.toks) (fun b u e=>J1 _ e) (J6 _) ?_,rfl,q _ hf⟩;exact⟨z,us,r,⟨_,J9 _ rfl,rfl,⟨_,rfl⟩,rfl⟩⟩
theorem zg(h:PA X es t):PE X (.List es pos) (IU t):=by
 intro ae s σ H Q I hq;refine wpAny_List_spliced (thn (h pos ae s σ H _ I hq) fun us s1 ⟨xs,H1,I1,r,z,q⟩=>⟨by rw[<-r.length];exact z,?_⟩);have hf:H1 s1.heap.objs.size=none:=I1.hok.fresh (J6 _);refine⟨.ref s1.heap.objs.size,upd H1 s1.heap.objs.size (.lst xs),I1.laid (t':=s1.toks) (fun b u e=>J1 _ e) (J6 _) ?_,rfl,q _ hf⟩;exact⟨z,us,0,r,J9 _ rfl⟩
end
abbrev Sp:=List V->Hp->VK->XK->Prop
abbrev CXT:=List Env->Hp->J0->XK->u8->J0->Prop
structure uT(P:L1) (w:O6) (K:o0) (mg:Str->Option u8) (base:L6) (A:N1) (outer:List Env) (s:J0) (H:Hp):Prop where
 frames:A.frames=some outer
 mod:Mod K mg base
 bs:∀b o,base.get? b=some o->s.heap.get? b=some o/\H b=none
 bsz:base.objs.size<=s.heap.objs.size
 funs:s.heap.FunFrames base outer
 frf:∀b∈frs outer,H b=none
 hok:HOk P w H s.heap
 bare:aa6 s.gens
def CE(outer:List Env) (P:L1) (w:O6) (H:Hp) (s:J0) (Q:VK) (u:u8) (s':J0):Prop :=
 ∃v H',s'.os=s.os/\aa6 s'.gens/\Un (frs outer) [] H H' s.heap s'.heap/\HOk P w H' s'.heap/\aI v u/\Q v H'
def CR(CX:CXT) (outer:List Env) (P:L1) (w:O6) (H:Hp) (s:J0) (Q:VK) (E:XK) (r:ae2) (s':J0):Prop :=
 match r with
 |.ok (.ret u)=>CE outer P w H s Q u s'
 |.ok _=>False
 |.error e=>CX outer H s E e s'
structure bf(P:L1) (w:O6) (K:o0) (mg:Str->Option u8) (base:L6) (CX:CXT) (k:Nat) (f:J8) (fd:S6) (ps:List Str) (sp:Sp):Prop where
 len:∀vs H Q E,sp vs H Q E->vs.length=ps.length
 run:∀(A:N1) (outer:List Env) (s:J0) (H:Hp) (args:Args) (us:List u8) (vs:List V) (Q:VK) (E:XK),cG k A->uT P w K mg base A outer s H->ae3 s fd args (ps.zip us)->az vs us->sp vs H Q E ->
  V2 (K7 P w) A (.call (.ref f) args) (CR CX outer P w H s Q E) s
theorem uT.make{P:L1}{w:O6}{K:o0}{mg:Str->Option u8}{base:L6}{A:N1}{outer:List Env}{s:J0}{H:Hp}(e:uT P w K mg base A outer s H) (C:J8) (us:List u8) (kw:List (Str×u8)) :
  uT P w K mg base (A.under (.builtin "type.__call__" ⟨.ref C::us,kw⟩)) outer s H:=⟨by first|exact e.frames|(simpa[N1.under,Code.envs,Code.isFrame,pushEnvs]using e.frames),e.mod,e.bs,e.bsz,e.funs,e.frf,e.hok,e.bare⟩
section
variable{X:Cx}{ae:List (J8×Obj)}{σ:St}{H:Hp}{s s':J0}
theorem Inv.env0(I:Inv X ae σ H s):uT X.prog X.w X.K X.mg X.base X.A X.stack s H :=
 ⟨I.ok.frames,I.ok.mod,I.bs,L5 I.ok.bsz I.sz,I.stack,I.stkFree,I.hok,I.bare⟩
theorem Inv.after{Q:VK}{u:u8}(I:Inv X ae σ H s) (h:CE X.stack X.prog X.w H s Q u s'):EP X ae σ Q u s':=by
 obtain⟨v,H',os,bare,un,hok,r,q⟩:=h;obtain⟨hh,g,d,t,os'⟩:=s';obtain rfl:os'=s.os:=os;exact⟨v,H',I.call (h':=hh) (g':=g) (d':=d) (t':=t) (ch:=[]) un hok bare (fun b z=>absurd z (by simp)),r,q⟩
end
def Gr(sp:Sp) (dvs:List V) (E:XK) (t:TA):TE:=fun σ H Q=>t σ H fun vs H1=>sp (vs++dvs) H1 Q E
def G5(C:J8) (sp:Sp) (dvs:List V) (E:XK) (t:TA):TE:=fun σ H Q=>t σ H fun vs H1=>∀x dx,H1 x=none->H1 dx=none->dx≠x ->
 sp (.ref x::(vs++dvs)) (upd (upd H1 dx (.own x)) x (.ins C dx [])) (fun v H2=>v=.non/\Q (.ref x) H2) E
def er(K:o0) (fd:S6) (ps:List Str) (ds:List u8):Prop :=
 ∀(s:J0) (us:List u8),K.In s.heap->(us++ds).length=ps.length->ae3 s fd ⟨us,[]⟩ (ps.zip (us++ds))
theorem er.all{K:o0}{fd:S6}{ps:List Str}(h:∀us:List u8,us.length=ps.length->bindArgs fd ⟨us,[]⟩=X9 (ps.zip us)):er K fd ps []:=fun s us _ hl=>by
 rw[Z7]at hl ⊢;exact .of_eq (h us hl)
def mZ(CX:CXT) (X:Cx) (E:XK):Prop:=∀(ae:List (J8×Obj)) (σ:St) (H:Hp) (s:J0) (e:u8) (s':J0),Inv X ae σ H s->CX X.stack H s E e s'->X.xe e s'
section
variable{X:Cx}{CX:CXT}{k:Nat}{f C:J8}{fd:S6}{ps:List Str}{sp:Sp}{dvs:List V}{ds:List u8}{E:XK}{x m:Str}{p pos cc:Pos}{e o:K5}{es:List K5}{ta:TE}{t:TA}
theorem Eg{ae:List (J8×Obj)}{σ:St}{H:Hp}{s:J0}{Q:VK}{us:List u8}{vs:List V}(F:bf X.prog X.w X.K X.mg X.base CX k f fd ps sp) (hr:cG k X.A) (hb:er X.K fd ps ds) (hd:az dvs ds) (hx:mZ CX X E)
  (I:Inv X ae σ H s) (r:az vs us) (h:sp (vs++dvs) H Q E):K4 (K7 X.prog X.w) X.A (call (.ref f) us) (EP X ae σ Q) X.xe s:=by
 have r2:az (vs++dvs) (us++ds):=r.append hd;have hl:(us++ds).length=ps.length:=by rw[<-r2.length];exact F.len _ _ _ _ h
 refine wpAny_call (X6 (F.run X.A X.stack s H ⟨us,[]⟩ (us++ds) (vs++dvs) Q E hr I.env0 (hb s us I.kIn hl) r2 h) fun r s' hq=>?_);cases r with
 |error e=>exact hx ae σ H s e s' I hq
 |ok fl =>
  cases fl with
  |ret u=>exact I.after hq
  |next=>exact P8 hq
  |brk=>exact P8 hq
  |cont=>exact P8 hq
theorem Ce(F:bf X.prog X.w X.K X.mg X.base CX k f fd ps sp) (hr:cG k X.A) (hg:Gl X x) (hm:X.mg x=some (.ref f)) (hk:V4 X.K (.ref f)=true) (hb:er X.K fd ps ds) (hd:az dvs ds) (hx:mZ CX X E)
  (ha:PA X (e::es) t) (hdb:(x==("__debug__":Str))=false:=by decide) (he:K2 (e::es) X.env=(false,V3 e X.env)::K2 es X.env:=by rfl) (hpl:(V8 pos (K2 es X.env)).any (·.1)=false:=by rfl) :
  PE X (.Call (.Name x p) (e::es) [] pos) (Gr sp dvs E t):=by
 intro ae s σ H Q I h;refine W3 (qY I hg hm ?_ hdb);refine PySem.W.callWith_K (h₀:=X.base) I.ok.mod.kin hk (thn (ha pos ae s σ H _ I h) fun us s1 hup=>hup.el fun vs H1 I1 r q=>⟨I1.kIn,?_⟩) he hpl;exact Eg F hr hb hd hx I1 r q
structure Mk(K:o0) (C f:J8):Prop where
 makes:PySem.W.makesIn K C=true
 init:S3 K (.ref C) "__init__"=some (some (.ref f))
 fn:PySem.W.isFn K (.ref f)=true
 kp:V4 K (.ref C)=true
theorem zJ{ae:List (J8×Obj)}{σ:St}{H:Hp}{s:J0}{Q:VK}{us:List u8}{vs:List V}(M:Mk X.K C f) (F:bf X.prog X.w X.K X.mg X.base CX k f fd ps sp) (hr:cG (k+1) X.A) (hb:er X.K fd ps ds) (hd:az dvs ds)
  (hx:mZ CX X E) (I:Inv X ae σ H s) (r:az vs us)
  (h:∀x dx,H x=none->H dx=none->dx≠x->sp (.ref x::(vs++dvs)) (upd (upd H dx (.own x)) x (.ins C dx [])) (fun v H2=>v=.non/\Q (.ref x) H2) E) :
  K4 (K7 X.prog X.w) X.A (call (.ref C) us) (EP X ae σ Q) X.xe s:=by
 have hq:=h (s.heap.objs.size+1) s.heap.objs.size (I.hok.fresh (Nat.le_succ _)) (I.hok.fresh (J6 _)) (K3 (U1 _));have I2:=Inv.made (C:=C) I;have r2:az (V.ref (s.heap.objs.size+1)::(vs++dvs)) (N3 (s.heap.objs.size+1)::(us++ds)):=.cons rfl (r.append hd);have hl:(N3 (s.heap.objs.size+1)::us++ds).length=ps.length:=by
  have e:=r2.length;rw[F.len _ _ _ _ hq]at e;exact e.symm
 refine wpAny_call (zO (f:=f) I.kIn M.makes M.init (beq_iff_eq.mp M.fn) (X6 (F.run _ X.stack _ _ ⟨N3 (s.heap.objs.size+1)::us,[]⟩ (N3 (s.heap.objs.size+1)::(us++ds)) _ _ E (hr.make C us [])
  (I2.env0.make C us []) (hb _ (N3 (s.heap.objs.size+1)::us) I2.kIn hl) r2 hq) fun r s' hq'=>?_))
 cases r with
 |error e=>exact hx ae σ _ _ e s' I2 hq'
 |ok fl =>
  cases fl with
  |ret u =>
   obtain⟨v,H',I3,rv,ev,q3⟩:=I2.after hq';subst ev;exact⟨rv,⟨V.ref (s.heap.objs.size+1),H',I3,rfl,q3⟩⟩
  |next=>exact P8 hq'
  |brk=>exact P8 hq'
  |cont=>exact P8 hq'
theorem CQ(M:Mk X.K C f) (F:bf X.prog X.w X.K X.mg X.base CX k f fd ps sp) (hr:cG (k+1) X.A) (hg:Gl X x) (hm:X.mg x=some (.ref C)) (hb:er X.K fd ps ds) (hd:az dvs ds) (hx:mZ CX X E)
  (ha:PA X (e::es) t) (hdb:(x==("__debug__":Str))=false:=by decide) (he:K2 (e::es) X.env=(false,V3 e X.env)::K2 es X.env:=by rfl) (hpl:(V8 pos (K2 es X.env)).any (·.1)=false:=by rfl) :
  PE X (.Call (.Name x p) (e::es) [] pos) (G5 C sp dvs E t):=by
 intro ae s σ H Q I h;refine W3 (qY I hg hm ?_ hdb);refine PySem.W.callWith_K (h₀:=X.base) I.ok.mod.kin M.kp (thn (ha pos ae s σ H _ I h) fun us s1 hup=>hup.el fun vs H1 I1 r q=>⟨I1.kIn,?_⟩) he hpl;exact zJ M F hr hb hd hx I1 r q
end
section
variable{X:Cx}{CX:CXT}{k:Nat}{f C:J8}{fd:S6}{ps ks:List Str}{sp:Sp}{E:XK}{x m:Str}{p pos cc kpos:Pos}{e o:K5}{es:List K5}{kws:List ab5}{te ta:TE}{t tk:TA}{nm:Option Str}
structure Iu(K:o0) (fd:S6) (ps ks:List Str) (g:List u8->List u8->List u8) (gV:List V->List V->List V):Prop where
 to:∀(s:J0) (us ws:List u8),K.In s.heap->(g us ws).length=ps.length->ae3 s fd ⟨us,ks.zip ws⟩ (ps.zip (g us ws))
 rel:∀{vs:List V} {us:List u8} {zs:List V} {ws:List u8},az vs us->az zs ws->az (gV vs zs) (g us ws)
variable{g:List u8->List u8->List u8}{gV:List V->List V->List V}
end
structure ay(N P:List Str) (sc:V6):Prop where
 kind:sc.kind=.function
 co:sc.isCoroutine=false
 gen:sc.isGenerator=false
 nd:N.Nodup
 pre:N.take P.length=P
 par:∀x∈P,sc.names.lookup x=some .local∨sc.names.lookup x=some .cell
 nofree:∀y∈sc.names,y.2≠.free
theorem qb{aa4:Str->Option O0}{x:Str}:∀{binds:List (Str×u8)}{m:Str->Option u8},(∀v,(x,v)∉binds)->bindL aa4 binds m x=m x
 |[],_,_=>rfl
 |(n,v)::r,m,h=>by
  unfold bindL;rw[qb fun w hw=>h w (L9 _ hw)]
  split
  ·have:x≠n:=by rintro rfl;exact h v P4
   simp[this]
  ·rfl
theorem pb{aa4:Str->Option O0}{x:Str}:∀{binds:List (Str×u8)}{m:Str->Option u8},(∀v,(x,v)∉binds)->bindC aa4 binds m x=m x
 |[],_,_=>rfl
 |(n,v)::r,m,h=>by
  unfold bindC;rw[pb fun w hw=>h w (L9 _ hw)]
  split
  ·rfl
  ·have:x≠n:=by rintro rfl;exact h v P4
   simp[this]
theorem pO{aa4:Str->Option O0}{x:Str}{v:u8}:∀{P:List Str}{vs:List u8}{i:Nat}{m:Str->Option u8},P.Nodup->P[i]?=some x->vs[i]?=some v->aa4 x=some .local ->
  bindL aa4 (P.zip vs) m x=some v
 |[],_,_,_,_,h,_,_=>by simp at h
 |_::_,[],_,_,_,_,h,_=>by simp at h
 |p::P,w::vs,0,m,nd,h1,h2,hk=>by
  simp at h1 h2;subst h1;subst h2;show bindL aa4 ((p,w)::P.zip vs) m p=_;unfold bindL;rw[qb fun v hv=>(W4.mp nd).1 (List.of_mem_zip hv).1,if_pos hk];simp
 |p::P,w::vs,i+1,m,nd,h1,h2,hk=>by
  show bindL aa4 ((p,w)::P.zip vs) m x=_;unfold bindL;exact pO (i:=i) (W4.mp nd).2 (by simpa using h1) (by simpa using h2) hk
theorem p6{aa4:Str->Option O0}{x:Str}{v:u8}:∀{P:List Str}{vs:List u8}{i:Nat}{m:Str->Option u8},P.Nodup->P[i]?=some x->vs[i]?=some v->aa4 x≠some .local ->
  bindC aa4 (P.zip vs) m x=some v
 |[],_,_,_,_,h,_,_=>by simp at h
 |_::_,[],_,_,_,_,h,_=>by simp at h
 |p::P,w::vs,0,m,nd,h1,h2,hk=>by
  simp at h1 h2;subst h1;subst h2;show bindC aa4 ((p,w)::P.zip vs) m p=_;unfold bindC;rw[pb fun v hv=>(W4.mp nd).1 (List.of_mem_zip hv).1,if_neg hk];simp
 |p::P,w::vs,i+1,m,nd,h1,h2,hk=>by
  show bindC aa4 ((p,w)::P.zip vs) m x=_;unfold bindC;exact p6 (i:=i) (W4.mp nd).2 (by simpa using h1) (by simpa using h2) hk
noncomputable def aS(N:List Str) (vs:List V):St:=vs.map some++K1 (N.length-vs.length) none
noncomputable def ub(CX:CXT) (P:L1) (w:O6) (K:o0) (mg:Str->Option u8) (base:L6) (N:List Str) (qual:Str) (scope:V6) (f:J8) (cd:u8) (A:N1) (outer:List Env) (s:J0) (H:Hp) (E:XK):Cx where
 prog:=P
 w:=w
 K:=K
 mg:=mg
 base:=base
 A:=A.deeper (ac8 qual scope s.heap.objs.size f cd)
 N:=N
 s₀:=s
 H₀:=H
 env:=ac8 qual scope s.heap.objs.size f cd
 outer:=outer
 stack:=ac8 qual scope s.heap.objs.size f cd::outer
 ex:=[]
 calm:=true
 fn:=fun _=>true
 pn:=[]
 xe:=fun e s'=>K4 (K7 P w) (A.deeper (ac8 qual scope s.heap.objs.size f cd)) (leaving (ac8 qual scope s.heap.objs.size f cd) e) (fun _ s''=>CX outer H s E e s'') (fun e' s''=>CX outer H s E e' s'') s'
theorem tf{sc:V6}{n:Nat}{x:Str}(h:sc.names.lookup x=some .cell):∃c,(ae4 n sc.names []).lookup x=some c:=by
 have q:=PySem.W.cellsFrom_some sc.names n [] (.inl h);exact S9.mp q
theorem xJ{CX:CXT}{P:L1}{w:O6}{K:o0}{mg:Str->Option u8}{base:L6}{N ps:List Str}{qual:Str}{scope:V6}{f:J8}{cd:u8}{A:N1}{outer:List Env}{s s1:J0}{H:Hp}{E:XK}{us:List u8}{vs:List V}
  (S:ay N ps scope) (hd:A.handled=none) (e0:uT P w K mg base A outer s H) (hl:vs.length=ps.length) (r:az vs us)
  (x:InCallC s s.heap.objs.size (bindL (ac8 qual scope s.heap.objs.size f cd).kindOf (ps.zip us) fun _=>none) (ae4 (s.heap.objs.size+1) scope.names []) (bindC (ac8 qual scope s.heap.objs.size f cd).kindOf (ps.zip us) fun _=>none) s1) :
  Inv (ub CX P w K mg base N qual scope f cd A outer s H E) [] (aS N vs) H s1:=by
 have hpl:ps.length<=N.length:=by have:=congrArg aa8 S.pre;rw[List.length_take]at this;omega
 obtain⟨h1,tk,rfl,hk⟩:=x.done;have noA:∀b:J8,b∉(ub CX P w K mg base N qual scope f cd A outer s H E).ex:=fun b z=>absurd (show b∈([]:List J8)from z) (by simp);refine⟨⟨e0.mod,S.kind,rfl,rfl,J6 _,fun y z c h1 h2=>?_,fun y hy=>?_,fun y c _ h=>?_,fun _=>hd,N1.frames_deeper e0.frames,.inr ⟨rfl,rfl⟩,fun b z=>absurd z (noA b),e0.bs,e0.bsz,fun b _ _=>noA b,fun b z=>absurd z (noA b),e0.funs,e0.frf⟩,
  rfl,e0.bare,Un.kept hk,⟨_,x.toInCall.ns,fun i y v h1 h2 h3=>?_⟩,fun y c h=>⟨_,x.cell y c h⟩,e0.hok.fresh (J6 _),fun y c h=>?_,fun p hp=>absurd (show p∈([]:List (J8×Obj))from hp) (by simp),e0.hok.kept hk,?_⟩
 ·exact name_of_addr x.apart (O1 h1) (O1 h2)
 ·have hy:scope.names.lookup y=some .cell∨scope.names.lookup y=some .free:=hy;rcases hy with hy|hy
  ·exact tf hy
  ·exact absurd rfl (S.nofree _ (O1 hy))
 ·exact U4 (x.above y c (O1 h))
 ·have hi:i<vs.length:=by
   unfold aS at h2
   by_cases hi:i<vs.length
   ·exact hi
   ·rw[R7 (by simpa using hi)]at h2;rw[T8]at h2
    split at h2<;>cases h2
  have ha:vs[i]?=some v:=by
   unfold aS at h2;rw[N7 (by simpa using hi),Q9]at h2;cases e:vs[i]? with
   |none=>rw[e]at h2;cases h2
   |some a=>rw[e]at h2;cases h2;rfl
  obtain⟨u,hu,rv⟩:=r.get ha;have hp:ps[i]?=some y:=by
   rw[<-S.pre,List.getElem?_take_of_lt (by omega)];exact h1
  have ndP:ps.Nodup:=by rw[<-S.pre];exact S.nd.sublist (List.take_sublist _ _)
  refine⟨u,rv,?_⟩;rcases S.par y (List.mem_of_getElem? hp)with k|k
  ·exact .inl ⟨k,pO ndP hp hu k⟩
  ·obtain⟨c,e⟩:=tf (n:=s.heap.objs.size+1) k;refine .inr ⟨.inl k,c,e,?_⟩;have q:=x.cell y c e;rw[p6 ndP hp hu (by show scope.names.lookup y≠_;rw[k];decide)]at q;exact q
 ·exact e0.hok.fresh (U4 (x.above y c (O1 h)))
 ·unfold aS;show _=N.length;rw[O5,U6,List.length_replicate];omega
theorem Hf{CX:CXT}{P:L1}{w:O6}{K:o0}{mg:Str->Option u8}{base:L6}{k:Nat}{f:J8}{name qual:Str}{params:Arguments}{body:List ab0}{scope:V6}{dV kV doc pm cdv ct oc:u8}{an od:Option J8}
  {osl:Array (Option u8)} {N ps:List Str} {sp:Sp} (lk:K.lookup f=some ⟨oc,od,.func (X7 name qual params body scope dV kV doc pm an cdv ct),osl⟩) (hcd:PySem.W.codeIn K cdv qual=true) (S:ay N ps scope)
  (len:∀vs H Q E,sp vs H Q E->vs.length=ps.length)
  (hbody:∀ (A:N1) (outer:List Env) (s:J0) (H:Hp) (vs:List V) (Q:VK) (E:XK),cG k (A.deeper (ac8 qual scope s.heap.objs.size f cdv)) → sp vs H Q E →
   ∃t,PSs (ub CX P w K mg base N qual scope f cdv A outer s H E) body t/\t { nx:=fun _ H'=>Q .non H',rt:=Q } (aS N vs) H) :
  bf P w K mg base CX (k+1) f (X7 name qual params body scope dV kV doc pm an cdv ct) ps sp:=by
 refine⟨len,fun A outer s H args us vs Q E hr e0 hb r hsp=>?_⟩;have hl:=len _ _ _ _ hsp;have KX:K.In s.heap:=e0.mod.kin.keeps fun b o e=>(e0.bs b o e).1;have lim:s.heap.NoLimit:=e0.mod.nolimit.keeps fun b o e=>(e0.bs b o e).1;have hkind:∀y∈ps.zip us,scope.names.lookup y.1=some .local∨(scope.names.lookup y.1=some .cell/\((ae4 (s.heap.objs.size+1) scope.names []).lookup y.1).isSome=true):=fun⟨n,v⟩ hy=>by
  rcases S.par n (List.of_mem_zip hy).1 with q|q
  ·exact .inl q
  ·exact .inr ⟨q,PySem.W.cellsFrom_some _ _ _ (.inl q)⟩
 refine codeAny_call_function hr.depth (KX _ _ lk) rfl S.co S.gen rfl (PySem.W.codeRec_of KX hcd) (hb _ _ _ _ ?_);refine wpAny_newFunctionEnv_cells S.kind hkind fun env he s1 x=>?_;subst he;refine⟨lim.keeps x.toInCall.keep,codeAny_func ?_⟩;obtain⟨t,ht,hq⟩:=hbody A outer s H vs Q E (hr.deeper _) hsp;have I:Inv (ub CX P w K mg base N qual scope f cdv A outer s H E) [] (aS N vs) H s1:=xJ S hr.hd e0 hl r x;refine L8 (ht [] s1 (aS N vs) H _ I hq) (fun fl s' hs=>?_) fun e s' hs=>hs;have fin:∀{σ':St} {H':Hp} {v:V} {u:u8},Inv (ub CX P w K mg base N qual scope f cdv A outer s H E) [] σ' H' s'->aI v u->Q v H'->CE outer P w H s Q u s' :=
  fun {σ' H' v u} J rv q=>⟨v,H',J.os,J.bare,J.base,J.hok,rv,q⟩
 cases fl with
 |ret u =>
  obtain⟨v,σ',H',J,rv,q⟩:=hs;exact fin J rv q
 |next =>
  obtain⟨σ',H',J,q⟩:=hs;exact fin (v:=V.non) (u:=W9) J rfl q
 |brk =>
  obtain⟨_,_,_,q⟩:=hs;exact P8 q
 |cont =>
  obtain⟨_,_,_,q⟩:=hs;exact P8 q
section
variable{X:Cx}{x:Str}{p pos:Pos}{e:K5}{es:List K5}{t:TA}{id T:String}{r:List V->Hp->VK->Prop}
def tCB(r:List V->Hp->VK->Prop) (t:TA):TE:=fun σ H Q=>t σ H fun vs H1=>r vs H1 Q
theorem sG(hc:cP X (.builtin id) r) (hg:Gl X x) (hm:X.mg x=none) (hv:Q8 x=some (.builtin id)) (ha:PA X (e::es) t) (hn:x≠"__name__":=by decide) (hdb:(x==("__debug__":Str))=false:=by decide)
  (he:K2 (e::es) X.env=(false,V3 e X.env)::K2 es X.env:=by rfl) (hpl:(V8 pos (K2 es X.env)).any (·.1)=false:=by rfl):PE X (.Call (.Name x p) (e::es) [] pos) (tCB r t):=by
 intro ae s σ H Q I h;refine W3 (jP I hg hm hv ?_ hn hdb);exact PyProof.Rows.callWith_builtin1 (thn (ha pos ae s σ H _ I h) fun us s1 hup=>hup.el fun vs H1 I1 r1 q1=>hc ae s1 σ H1 vs us Q I1 r1 q1) he hpl
theorem xV(hc:cP X (.type T) r) (hg:Gl X x) (hm:X.mg x=none) (hv:Q8 x=some (.type T)) (ha:PA X (e::es) t) (hn:x≠"__name__":=by decide) (hdb:(x==("__debug__":Str))=false:=by decide)
  (he:K2 (e::es) X.env=(false,V3 e X.env)::K2 es X.env:=by rfl) (hpl:(V8 pos (K2 es X.env)).any (·.1)=false:=by rfl):PE X (.Call (.Name x p) (e::es) [] pos) (tCB r t):=by
 intro ae s σ H Q I h;refine W3 (jP I hg hm hv ?_ hn hdb);exact PyProof.Rows.callWith_type1 (thn (ha pos ae s σ H _ I h) fun us s1 hup=>hup.el fun vs H1 I1 r1 q1=>hc ae s1 σ H1 vs us Q I1 r1 q1) he hpl
end
end L2
namespace HT
open PySem PyProof.Rows
section
open PySem.SeqAt
open PySem.AutoSeq1 (wpAny_loadPart')
open PySem.MeetsSeq PySem.MeetsSeq2 PySem.MeetsSeq3
end
section
variable{prog:L1}{w:O6}{A:N1}{E:u8->J0->Prop}{s:J0}
theorem cat_tup{t b:J8}{vs ws:List u8}{Q:u8->J0->Prop}(ht:ad7 s.heap t vs.toArray) (hb:ad7 s.heap b ws.toArray) (hv:vs≠[])
  (h1:ws=[]->Q (.ref t) s) (h2:ws≠[]->Q (.ref s.heap.objs.size) { s with heap:=s.heap.push { cls:=.type "tuple",data:=.seq (vs++ws).toArray } })
  (hsz:vs.length+ws.length<=J3):K4 (K7 prog w) A (P7 .Add (.ref t) (.ref b)) Q E s:=by
 obtain⟨⟨cls,dd,data,sl⟩,ho,hc,n,hd⟩:=id ht;obtain⟨⟨cls2,dd2,data2,sl2⟩,ho2,hc2,n2,hd2⟩:=id hb;simp only at hc hd hc2 hd2;subst hc hd hc2 hd2;have e:vs.toArray++ws.toArray=(vs++ws).toArray:=by simp
 by_cases hw:ws=[]
 ·exact concat_meets ⟨_,ho,rfl⟩ ⟨_,ho2,rfl⟩ noFill_tuple_add seq_tuple_add PySem.F.slot_tuple_add PySem.F.entry_tuple_add (PySem.F.args_tuple_add_2 _ _)
   (tuple_addW1 t b vs.toArray ws.toArray n n2 dd dd2 sl sl2 (by simpa using hv) (by simp[hw])) ⟨ho,ho2,h1 hw⟩
 ·refine concat_meets ⟨_,ho,rfl⟩ ⟨_,ho2,rfl⟩ noFill_tuple_add seq_tuple_add PySem.F.slot_tuple_add PySem.F.entry_tuple_add (PySem.F.args_tuple_add_2 _ _)
   (tuple_addW2 t b vs.toArray ws.toArray n n2 dd dd2 sl sl2 (by simpa using hv) (by simpa using hw) (by rw[J4,J4];exact hsz)) ⟨ho,ho2,?_⟩
  rw[e];exact h2 hw
noncomputable def sIx(n d:Nat):Option Int->Nat
 |none=>d
 |some v=>if v<0 then(v+(n:Int)).toNat else min v.toNat n
theorem sIx_none(n d:Nat):sIx n d none=d:=rfl
theorem sIx_nat(n d k:Nat):sIx n d (some (k:Int))=min k n:=by
 show(if(k:Int)<0 then((k:Int)+(n:Int)).toNat else min (k:Int).toNat n)=min k n;rw[if_neg (by omega),Int.toNat_natCast]
theorem Ex(n d:Nat) (hd:d<=n) (o:Option Int):sIx n d o<=n:=by
 cases o with
 |none=>exact hd
 |some v =>
  show(if v<0 then(v+(n:Int)).toNat else min v.toNat n)<=n
  by_cases hv:v<0
  ·rw[if_pos hv];omega
  ·rw[if_neg hv];exact Nat.min_le_right _ _
theorem wV(v:Int) (n d:Nat):(if v<0 then max (v+(n:Int)) 0 else min v (n:Int))=((sIx n d (some v):Nat):Int):=by
 show(if v<0 then max (v+(n:Int)) 0 else min v (n:Int))=(((if v<0 then(v+(n:Int)).toNat else min v.toNat n):Nat):Int)
 by_cases hv:v<0
 ·simp only[if_pos hv];omega
 ·simp only[if_neg hv];omega
theorem vm(lo hi:Option Int) (n:Nat):L4.Slice.sliceAdjust lo hi 1 (n:Int)=(((sIx n 0 lo:Nat):Int),((sIx n n hi:Nat):Int)):=by
 have h1:¬ ((1:Int)<0):=by decide
 unfold L4.Slice.sliceAdjust;simp only[h1,if_false];refine Prod.ext ?_ ?_
 ·cases lo with
  |none=>rfl
  |some v=>exact wV v n 0
 ·cases hi with
  |none=>rfl
  |some v=>exact wV v n n
theorem u9(i j:Nat):N8 (i:Int) (j:Int) 1=j-i:=by
 unfold N8;have h1:(1:Int) > 0:=by decide
 simp only[h1,if_true,Int.ediv_one]
 split<;>omega
theorem nZ{v:u8}{o:Option Int}{Q:Option Int->J0->Prop}(p:ac9 v o) (h:Q o s):K4 (K7 prog w) A (L4.Slice.slicePartIndex v) Q E s:=by
 cases p with
 |none=>exact aa3 h
 |int i t=>exact slicePart_int h
theorem gA{sl:J8}{vl vu:u8}{lo hi:Option Int}{n:Nat}{Q:Int×Int×Nat->J0->Prop}(hs:s.heap.IsSliceOf sl vl vu .none) (pl:ac9 vl lo) (pu:ac9 vu hi)
  (h:Q (((sIx n 0 lo:Nat):Int),1,sIx n n hi-sIx n 0 lo) s):K4 (K7 prog w) A (R8 (.ref sl) (X9 (n:Int))) Q E s:=by
 obtain⟨os,hos,hcs,hds⟩:=id hs;unfold R8 L4.Slice.sliceFields;refine I0 (I0 (T9 hos hds (x:=vl) rfl (I0 (T9 hos hds (x:=vu) rfl (I0 (T9 hos hds (x:=.none) rfl (J5 ?_)))))));refine I0 (aa3 ?_);show K4 _ _ (if((1:Int)==0)=true then _ else _) _ _ s;rw[if_neg (by decide)];refine I0 (nZ pl (I0 (nZ pu (I0 (J5 ?_)))));show K4 _ _ (match L4.Slice.sliceAdjust lo hi 1 (n:Int)with|(lo,hi)=>X9 (lo,(1:Int),N8 lo hi 1)) _ _ s;rw[vm lo hi n];show K4 _ _ (X9 (((sIx n 0 lo:Nat):Int),(1:Int),N8 ((sIx n 0 lo:Nat):Int) ((sIx n n hi:Nat):Int) 1)) _ _ s;rw[u9];exact J5 h
theorem zS(xs:Array u8) (i k:Nat):((V7 k).filterMap fun(m:Nat)=>xs[((i:Int)+(m:Int)*1).toNat]?).toArray=((xs.toList.drop i).take k).toArray:=by
 have e:(fun(m:Nat)=>xs[((i:Int)+(m:Int)*1).toNat]?)=fun m=>xs[i+m]?:=by
  funext m;have:((i:Int)+(m:Int)*1).toNat=i+m:=by omega
  rw[this]
 rw[e];have:=pick_run xs i k;rw[List.filterMap_map]at this;have e2:((fun x=>xs[x]?)∘fun x=>i+x)=fun m=>xs[i+m]?:=rfl;rw[e2]at this;rw[this]
theorem getItem_tuple_cut{t sl:J8}{items:Array u8}{vl vu:u8}{lo hi:Option Int}{Q:u8->J0->Prop}(ht:ad7 s.heap t items) (hs:s.heap.IsSliceOf sl vl vu .none) (pl:ac9 vl lo) (pu:ac9 vu hi)
  (hw:¬ (sIx items.size 0 lo=0/\sIx items.size items.size hi=items.size))
  (h:Q (.ref s.heap.objs.size) { s with heap:=s.heap.push { cls:=.type "tuple",data:=.seq ((items.toList.drop (sIx items.size 0 lo)).take (sIx items.size items.size hi-sIx items.size 0 lo)).toArray } })
  (hsz:items.size<=J3):K4 (K7 prog w) A (Z8 (.ref t) (.ref sl)) Q E s:=by
 have htake:sizeOk (.seq ((items.toList.drop (sIx items.size 0 lo)).take (sIx items.size items.size hi-sIx items.size 0 lo)).toArray):=by
  show((items.toList.drop (sIx items.size 0 lo)).take (sIx items.size items.size hi-sIx items.size 0 lo)).toArray.size<=J3;rw[J4,List.length_take,List.length_drop,T5];omega
 have hj:sIx items.size items.size hi<=items.size:=Ex _ _ (J6 _) hi;obtain⟨os,hos,hcs,hds⟩:=id hs;have hTs:s.TypeIs (.ref sl) "slice":=⟨os,hos,hcs⟩;unfold Z8
 try with_reducible refine S2 ?_
 first|refine I0 (J5 ?_)|skip
 refine I0 (wpAny_sequenceKey ht.typeIs (by decide) ?_);refine I0 (Q7 (name:=X8 "__getitem__") ht.typeIs K8
  (V5 K8 ht.typeIs entry_tuple_getitem ?_ (args_tuple_getitem _ _)))
 show K4 _ _ (R9 (.ref t) >>= _) _ _ s;refine I0 (aa9 ht ?_);refine I0 (ab6 hTs ?_);rw[if_pos (by decide)];refine I0 (gA hs pl pu ?_);have hno:¬ ((((sIx items.size 0 lo:Nat):Int)==0&&(1:Int)==1&&(sIx items.size items.size hi-sIx items.size 0 lo)==items.size)=true):=by
  intro q;rw[N6,N6]at q;have q1:((sIx items.size 0 lo:Nat):Int)=0:=eq_of_beq q.1.1;have q2:sIx items.size items.size hi-sIx items.size 0 lo=items.size:=eq_of_beq q.2;exact hw ⟨by omega,by omega⟩
 show K4 _ _ (if(((sIx items.size 0 lo:Nat):Int)==0&&(1:Int)==1&&(sIx items.size items.size hi-sIx items.size 0 lo)==items.size)=true then _ else _) _ _ s;rw[if_neg hno,zS]
 first
  |exact I0 (m:=K9 _) (N2 (J5 ⟨_,rfl,J5 h⟩) htake)
  |exact I0 (m:=K9 _) (N2 (I0 (J5 (J5 ⟨_,rfl,J5 h⟩))) htake)
  |exact I0 (I0 (m:=K9 _) (N2 (J5 (J5 ⟨_,rfl,J5 h⟩)) htake))
  |exact I0 (I0 (m:=K9 _) (N2 (J5 ⟨_,rfl,J5 h⟩) htake))
end
end HT
namespace L2
open PySem PySem.Spec PyProof.Rows
abbrev TO:=St->Hp->(Option Int->Hp->Prop)->Prop
def PO(X:Cx) (e:Option K5) (t:TO):Prop :=
 ∀(ae:List (J8×Obj)) (s:J0) (σ:St) (H:Hp) (Q:Option Int->Hp->Prop),Inv X ae σ H s->t σ H Q ->
  K4 (K7 X.prog X.w) X.A (evalPart e X.env) (fun u s'=>∃o H',Inv X ae σ H' s'/\ac9 u o/\Q o H') X.xe s
def Ci:TO:=fun _ H Q=>Q none H
def Gi(t:TE):TO:=fun σ H Q=>t σ H fun x H1=>∃i,x=.int i/\Q (some i) H1
section
variable{X:Cx}{e:K5}{te:TE}{lo hi:Option K5}{tl th:TO}{pos p2:Pos}
theorem B5:PO X none Ci:=by
 intro ae s σ H Q I h;rw[evalPart_none];exact J5 ⟨none,H,I,.none,h⟩
theorem Cf(h:PE X e te):PO X (some e) (Gi te):=by
 intro ae s σ H Q I hw;rw[evalPart_some];refine thn (h ae s σ H _ I hw) fun u s1 hup=>hup.el fun x H1 I1 r1 q1=>?_;obtain⟨i,rfl,q⟩:=q1;obtain⟨t,rfl⟩:=r1;exact⟨some i,H1,I1,.int i t,q⟩
def SlR(X:Cx) (r:V->Option Int->Option Int->Hp->VK->Prop):Prop :=
 ∀(ae:List (J8×Obj)) (s:J0) (σ:St) (H:Hp) (x:V) (v vl vu:u8) (lo hi:Option Int) (sl:J8) (Q:VK),Inv X ae σ H s->aI x v->s.heap.IsSliceOf sl vl vu .none->ac9 vl lo->ac9 vu hi->r x lo hi H Q ->
  ∃T id,typeLookup (.type T) "__getitem__"=X9 (some (.builtin id))/\s.TypeIs v T/\K4 (K7 X.prog X.w) X.A (Z8 v (.ref sl)) (EP X ae σ Q) X.xe s
theorem SlR.or{r r':V->Option Int->Option Int->Hp->VK->Prop}(h:SlR X r) (h':SlR X r'):SlR X (fun x lo hi H Q=>r x lo hi H Q∨r' x lo hi H Q):=by
 intro ae s σ H x v vl vu lo hi sl Q I rx hs pl pu q;rcases q with q|q
 ·exact h ae s σ H x v vl vu lo hi sl Q I rx hs pl pu q
 ·exact h' ae s σ H x v vl vu lo hi sl Q I rx hs pl pu q
def tSl(r:V->Option Int->Option Int->Hp->VK->Prop) (te:TE) (tl th:TO):TE:=fun σ H Q=>te σ H fun x H1=>tl σ H1 fun l H2=>th σ H2 fun u H3=>r x l u H3 Q
theorem tM{r:V->Option Int->Option Int->Hp->VK->Prop}(hr:SlR X r) (he:PE X e te) (hl:PO X lo tl) (hu:PO X hi th):PE X (.Subscript e (.Slice lo hi none p2) pos) (tSl r te tl th):=by
 intro ae s σ H Q I h;refine ad0 (thn (he ae s σ H _ I h) fun v s1 hup=>hup.el fun x H1 I1 r1 q1=>?_);refine wpAny_Slice (thn (hl ae s1 σ H1 _ I1 q1) fun vl s2 ⟨l,H2,I2,pl,q2⟩=>thn (hu ae s2 σ H2 _ I2 q2) fun vu s3 ⟨u,H3,I3,pu,q3⟩=>?_);rw[evalPart_none];refine J5 ?_;have I4:Inv X ae σ H3 { s3 with heap:=s3.heap.push { cls:=.type "slice",data:=.fields #[vl,vu,.none] } }:=I3.kept (t':=s3.toks) fun b ob q=>J1 _ q;obtain⟨T,id,hT,ht,hg⟩:=hr ae { s3 with heap:=s3.heap.push { cls:=.type "slice",data:=.fields #[vl,vu,.none] } } σ H3 x v vl vu l u s3.heap.objs.size Q I4 r1 (L6.IsSliceOf.new ..) pl pu q3;show K4 (K7 X.prog X.w) X.A (subscriptTail e (.Slice lo hi none p2) v (.ref s3.heap.objs.size)) (EP X ae σ Q) X.xe { s3 with heap:=s3.heap.push { cls:=.type "slice",data:=.fields #[vl,vu,.none] } };exact tail_any (ops:=[.ref s3.heap.objs.size,v]) ht hT hg (by with_unfolding_all rfl)
def o3(xs:List V) (lo hi:Option Int):List V:=(xs.drop (HT.sIx xs.length 0 lo)).take (HT.sIx xs.length xs.length hi-HT.sIx xs.length 0 lo)
theorem mr(xs:List V) (lo hi:Option Int):(o3 xs lo hi).length<=xs.length:=by
 unfold o3;rw[List.length_take,List.length_drop];omega
def Ig(K:o0):V->Option Int->Option Int->Hp->VK->Prop:=fun x lo hi H Q=>∃a xs,x=.ref a/\SqT K H a xs /\
 ¬ (HT.sIx xs.length 0 lo=0/\HT.sIx xs.length xs.length hi=xs.length)/\∀p,H p=none->Q (.ref p) (upd H p (.tup (o3 xs lo hi)))
theorem yY:SlR X (Ig X.K):=by
 intro ae s σ H x v vl vu lo hi sl Q I rx hs pl pu h;obtain⟨a,xs,rfl,hx,hw,q⟩:=h;cases rx;obtain⟨its,r,ht,hz⟩:=I.tuple hx;have bp:its.toArray.size=xs.length:=by rw[J4];exact r.length.symm
 refine⟨"tuple",_,K8.lookup,ht.typeIs,?_⟩;refine HT.getItem_tuple_cut ht hs pl pu (by rw[bp];exact hw) ?_ (by rw[bp];exact hz);rw[bp];refine⟨.ref s.heap.objs.size,_,I.laid (t':=s.toks) (o:=.tup (o3 xs lo hi)) (fun b ob q=>J1 _ q) (J6 _) ?_,rfl,q _ (I.hok.fresh (J6 _))⟩;exact⟨L5 (mr xs lo hi) hz,_,(r.drop (HT.sIx xs.length 0 lo)).take (HT.sIx xs.length xs.length hi-HT.sIx xs.length 0 lo),jY.new _ _⟩
def HC(K:o0):R2:=fun x y H Q=>∃a b xs ys,x=.ref a/\y=.ref b/\SqT K H a xs/\SqT K H b ys/\xs≠[]/\xs.length+ys.length<=J3 /\
 (ys=[]->Q (.ref a) H)/\(ys≠[]->∀p,H p=none->Q (.ref p) (upd H p (.tup (xs++ys))))
theorem az.nil_iff{xs:List V}{us:List u8}(r:az xs us):us=[]↔xs=[]:=by
 cases r with
 |nil=>simp
 |cons _ _=>simp
theorem Dn:OpR X (P7 .Add) (HC X.K):=by
 intro ae s σ H x y v u Q I rx ry h;obtain⟨a,b,xs,ys,rfl,rfl,ha,hb,hx,hz,q1,q2⟩:=h;cases rx;cases ry;obtain⟨its,r1,p1,_⟩:=I.tuple ha;obtain⟨its2,r2,p2,_⟩:=I.tuple hb;refine HT.cat_tup p1 p2 (fun z=>hx (r1.nil_iff.mp z)) (fun z=>⟨.ref a,H,I,rfl,q1 (r2.nil_iff.mp z)⟩) (fun z=>?_) (by rw[<-r1.length,<-r2.length];exact hz);refine⟨.ref s.heap.objs.size,_,I.laid (t':=s.toks) (o:=.tup (xs++ys)) (fun b ob q=>J1 _ q) (J6 _) ?_,rfl,q2 (fun w=>z (r2.nil_iff.mpr w)) _ (I.hok.fresh (J6 _))⟩;exact⟨by rw[O5];exact hz,_,r1.append r2,jY.new _ _⟩
end
noncomputable def ixN(n:Nat) (i:Int):Option Nat:=if 0<=i then(if i<n then some i.toNat else none)else if -(n:Int)<=i then some (i+n).toNat else none
def atI{α:Type}(xs:List α) (i:Int):Option α:=(ixN xs.length i).bind fun j=>xs[j]?
theorem xg{n:Nat}{i:Int}{j:Nat}(h:ixN n i=some j):seqIndex? i n=some j/\j<n/\-(n:Int)<=i/\i<n:=by
 unfold ixN at h
 by_cases h0:0<=i
 ·rw[if_pos h0]at h
  by_cases h1:i<n
  ·rw[if_pos h1]at h;have e:i.toNat=j:=N4 h;exact⟨by rw[seqIndex_of h0 h1,e],by omega,by omega,h1⟩
  ·rw[if_neg h1]at h;cases h
 ·rw[if_neg h0]at h
  by_cases h1:-(n:Int)<=i
  ·rw[if_pos h1]at h;have e:(i+n).toNat=j:=N4 h;exact⟨by rw[seqIndex_neg (by omega) h1,e],by omega,h1,by omega⟩
  ·rw[if_neg h1]at h;cases h
theorem rP{α:Type}{xs:List α}{i:Int}{v:α}(h:atI xs i=some v):∃j,seqIndex? i xs.length=some j/\xs[j]?=some v/\j<xs.length/\-(xs.length:Int)<=i/\i<xs.length:=by
 unfold atI at h;cases e:ixN xs.length i with
 |none=>rw[e]at h;cases h
 |some j =>
  rw[e]at h;obtain⟨h1,h2,h3,h4⟩:=xg e;exact⟨j,h1,h,h2,h3,h4⟩
theorem bH{α:Type}{xs:List α}{j:Nat}{v:α}(h:xs[j]?=some v):atI xs (j:Int)=some v:=by
 have hj:j<xs.length:=(M9.mp h).1;have e:ixN xs.length (j:Int)=some j:=by
  unfold ixN;rw[if_pos (by omega),if_pos (by omega)];simp
 unfold atI;rw[e];exact h
theorem yX{α:Type}(xs:List α) (v:α):atI (xs++[v]) (-1)=some v:=by
 have hl:(xs++[v]).length=xs.length+1:=by simp
 have e:ixN (xs++[v]).length (-1)=some xs.length:=by
  unfold ixN;rw[hl,if_neg (by decide),if_pos (by omega)];congr 1;omega
 unfold atI;rw[e];show(xs++[v])[xs.length]?=some v;simp
def wj(b:K5):Prop:=∀o i,ac4 b false o i=operate [o,i] (Z8 o i)
def IxR(X:Cx) (r:R2):Prop :=
 ∀(value slice:K5) (ae:List (J8×Obj)) (s:J0) (σ:St) (H:Hp) (x y:V) (v u:u8) (Q:VK),Inv X ae σ H s->aI x v->aI y u->r x y H Q ->
  ac4 slice false v u=operate [v,u] (Z8 v u)->K4 (K7 X.prog X.w) X.A (subscriptTail value slice v u) (EP X ae σ Q) X.xe s
def MtR(X:Cx) (id:String) (r:V->List V->Hp->VK->Prop):Prop :=
 ∀(ae:List (J8×Obj)) (s:J0) (σ:St) (H:Hp) (x:V) (xs:List V) (v:u8) (us:List u8) (Q:VK),Inv X ae σ H s->aI x v->az xs us->r x xs H Q ->
  K4 (K7 X.prog X.w) X.A (call (.builtin id) (v::us)) (EP X ae σ Q) X.xe s
section
variable{X:Cx}{a b:K5}{ta tb:TE}{pos:Pos}
theorem HA{r:R2}(hr:IxR X r) (ha:PE X a ta) (hb:PE X b tb) (hs:wj b):PE X (.Subscript a b pos) (tOp r ta tb):=by
 intro ae s σ H Q I h;exact ad0 (Fp ha hb I h fun v u s2 x y H2 I2 rx ry q=>hr a b ae s2 σ H2 x y v u Q I2 rx ry q (hs _ _))
def IA(K:o0):R2:=fun x y H Q=>∃p xs i v,x=.ref p/\y=.int i/\SqL K H p xs/\atI xs i=some v/\Q v H
def Ie(K:o0):R2:=fun x y H Q=>∃p xs i v,x=.ref p/\y=.int i/\SqT K H p xs/\atI xs i=some v/\Q v H
def Ir:R2:=fun x y H Q=>∃z i c,x=.str z/\y=.int i/\z.length<=J3/\atI z.cps.toList i=some c/\Q (.str ⟨#[c]⟩) H
theorem vM:IxR X (IA X.K):=by
 intro value slice ae s σ H x y v u Q I rx ry h hs;obtain⟨p,xs,i,z,rfl,rfl,hq,he,q⟩:=h;cases rx;obtain⟨t,rfl⟩:=ry;obtain⟨its,r,pl,hz⟩:=I.list hq;obtain⟨j,h1,h2,h3,h4,h5⟩:=rP he;obtain⟨w,ew,rw'⟩:=r.get h2;have hl:=r.length;have hn:=lr;have fin:EP X ae σ Q w s:=⟨z,H,I,rw',q⟩
 by_cases h0:0<=i
 ·have hj:i.toNat=j:=by
   rw[seqIndex_of h0 h5]at h1;exact N4 h1
  exact item_listR pl.isList h0 (by omega) (by rw[hj];simpa using ew) fin hs
 ·have hj:(i+(its.toArray.size:Int)).toNat=j:=by
   rw[seqIndex_neg (by omega) h4]at h1;rw[J4,<-hl];exact N4 h1
  exact subscriptTail_builtinR (x:=w) pl.isList.typeIs slot_list_getitem.lookup
   (wpAny_getItem_list_neg (Q:=fun r s'=>r=w/\EP X ae σ Q r s') pl.isList (by omega) (by rw[J4]<;>omega) (by omega) (by rw[hj];simpa using ew) ⟨rfl,fin⟩) hs
theorem E7:IxR X (Ie X.K):=by
 intro value slice ae s σ H x y v u Q I rx ry h hs;obtain⟨p,xs,i,z,rfl,rfl,hq,he,q⟩:=h;cases rx;obtain⟨t,rfl⟩:=ry;obtain⟨its,r,pl,hz⟩:=I.tuple hq;obtain⟨j,h1,h2,h3,h4,h5⟩:=rP he;obtain⟨w,ew,rw'⟩:=r.get h2;have hl:=r.length;have hn:=lr;have fin:EP X ae σ Q w s:=⟨z,H,I,rw',q⟩;exact subscriptTail_builtinR (x:=w) pl.typeIs slot_tuple_getitem.lookup
  (getItem_tuple (j:=j) (Q:=fun r s'=>r=w/\EP X ae σ Q r s') pl (by omega) (by omega) (by rw[J4,<-hl];exact h1) (by simpa using ew) ⟨rfl,fin⟩) hs
theorem Gd:IxR X Ir:=by
 intro value slice ae s σ H x y v u Q I rx ry h hs;obtain⟨z,i,c,rfl,rfl,hz,he,q⟩:=h;obtain⟨t,rfl⟩:=rx;obtain⟨t',rfl⟩:=ry;obtain⟨j,h1,h2,h3,h4,h5⟩:=rP he;have hl:z.cps.toList.length=z.length:=by simp[Str.length]
 rw[hl]at h1 h4 h5;have hn:=lr;exact tail_any (typeIs_str s z t) slot_str_getitem.lookup (getItem_str (c:=c) (by
  have e1:decide (i < -(2 ^ 63:Int))=false:=decide_eq_false (by omega);have e2:decide (i>=2 ^ 63)=false:=decide_eq_false (by omega);rw[e1,e2,Bool.or_false]) (by rw[h1];simpa using h2) ⟨.str ⟨#[c]⟩,H,I.tok _,⟨_,rfl⟩,q⟩) hs
theorem vy(its:List u8) (n j:Nat) (u:u8):ab9 (·.setIfInBounds j u) { cls:=.type "list",data:=.seq its.toArray n }={ cls:=.type "list",data:=.seq (its.set j u).toArray n }:=by
 simp[ab9]
theorem Inv.lst{ae:List (J8×Obj)}{σ:St}{H:Hp}{s:J0}{p:J8}{xs:List V}(I:Inv X ae σ H s) (h:H p=some (.lst xs)) :
  ∃(its:List u8) (n:Nat),az xs its/\s.heap.get? p=some { cls:=.type "list",data:=.seq its.toArray n }/\xs.length<=J3:=by
 obtain⟨z,its,n,r,e⟩:=I.hok p _ h;exact⟨its,n,r,e,z⟩
theorem Inv.lstUpd{ae:List (J8×Obj)}{σ:St}{H:Hp}{s:J0}{p:J8}{xs ys:List V}{its its':List u8}{n n':Nat}{f:Obj->Obj}(I:Inv X ae σ H s) (h:H p=some (.lst xs))
  (ho:s.heap.get? p=some { cls:=.type "list",data:=.seq its.toArray n }) (hf:f { cls:=.type "list",data:=.seq its.toArray n }={ cls:=.type "list",data:=.seq its'.toArray n' }) (r:az ys its') (hz:ys.length<=J3) (t:Nat) :
  Inv X ae σ (upd H p (.lst ys)) { s with heap:=s.heap.update p f,toks:=t }:=by
 have e:(s.heap.update p f).get? p=some { cls:=.type "list",data:=.seq its'.toArray n' }:=by
  rw[L6.get?_update_self f ho (by rw[hf]<;>rfl),hf]
 refine I.write (x:=p) (e:=p) (by rw[h];trivial) (.inl rfl) (fun b u hb q=>(L6.get?_update_other _ _ (X0 hb)).trans q) ⟨_,e⟩ ?_;exact⟨hz,its',n',r,e⟩
def GU:V->V->V->Hp->(Hp->Prop)->Prop:=fun o i v H Q=>∃p xs k j,o=.ref p/\i=.int k/\H p=some (.lst xs)/\ixN xs.length k=some j/\Q (upd H p (.lst (xs.set j v)))
theorem zh:Gs X GU:=by
 intro ae s σ H o i v ov iv u Q I ro ri rv h;obtain⟨p,xs,k,j,rfl,rfl,hp,hj,q⟩:=h;cases ro;obtain⟨t,rfl⟩:=ri;obtain⟨its,n,r,ho,hz⟩:=I.lst hp;obtain⟨h1,h2,h3,h4⟩:=xg hj;have hl:=r.length;have hn:=lr;have I':Inv X ae σ (upd H p (.lst (xs.set j v))) { s with heap:=s.heap.update p (ab9 (·.setIfInBounds j u)) } :=
  I.lstUpd hp ho (vy its n j u) (r.set rv j) (by rw[List.length_set];exact hz) s.toks
 by_cases h0:0<=k
 ·have hk:k.toNat=j:=by
   rw[seqIndex_of h0 h4]at h1;exact N4 h1
  exact PySem.W.ki_setAt ho h0 (by omega) (by rw[J4,<-hl];exact h4) (by rw[hk];exact⟨_,I',q⟩)
 ·have hk:(k+(its.toArray.size:Int)).toNat=j:=by
   rw[seqIndex_neg (by omega) h3]at h1;rw[J4,<-hl];exact N4 h1
  exact PySem.W.ki_setBack ho (by omega) (by rw[J4,<-hl];exact h3) (by omega) (by rw[hk];exact⟨_,I',q⟩)
theorem qj(lo hi:Option Int) (n:Nat):(X1 lo hi none n).1=((HT.sIx n 0 lo:Nat):Int)/\(X1 lo hi none n).2.1=((HT.sIx n n hi:Nat):Int)/\(X1 lo hi none n).2.2=1:=by
 refine⟨?_,?_,rfl⟩
 ·cases lo with
  |none=>simp[X1,HT.sIx]
  |some i =>
   simp only[X1,HT.sIx,Option.getD_none,show(1:Int) > 0 by decide,if_true]
   by_cases h:i<0
   ·simp only[h,if_true]<;>omega
   ·simp only[h,if_false]<;>omega
 ·cases hi with
  |none=>simp[X1,HT.sIx]
  |some i =>
   simp only[X1,HT.sIx,Option.getD_none,show(1:Int) > 0 by decide,if_true]
   by_cases h:i<0
   ·simp only[h,if_true]<;>omega
   ·simp only[h,if_false]<;>omega
theorem oM(its:List u8) (lo hi:Option Int):slicePick its.toArray lo hi none=((its.drop (HT.sIx its.length 0 lo)).take (HT.sIx its.length its.length hi-HT.sIx its.length 0 lo)).toArray:=by
 obtain⟨h1,h2,h3⟩:=qj lo hi its.toArray.size;unfold slicePick;rw[h1,h2,h3];simp only[sliceRange_one,pick_run,J4]<;>rfl
def Iq(K:o0):V->Option Int->Option Int->Hp->VK->Prop:=fun x lo hi H Q=>∃a xs,x=.ref a/\SqL K H a xs/\∀p,H p=none->Q (.ref p) (upd H p (.lst (o3 xs lo hi)))
theorem xb:SlR X (Iq X.K):=by
 intro ae s σ H x v vl vu lo hi sl Q I rx hs pl pu h;obtain⟨a,xs,rfl,hx,q⟩:=h;cases rx;obtain⟨its,r,ht,hz⟩:=I.list hx;have bp:=r.length;refine⟨"list",_,slot_list_getitem.lookup,ht.isList.typeIs,?_⟩;refine wpAny_getItem_list_slice ht.isList hs pl pu .none (by simp) ?_ (by rw[J4]<;>omega);rw[oM,<-bp];refine⟨.ref s.heap.objs.size,_,I.laid (t':=s.toks) (o:=.lst (o3 xs lo hi)) (fun b ob q=>J1 _ q) (J6 _) ?_,rfl,q _ (I.hok.fresh (J6 _))⟩;exact⟨L5 (mr xs lo hi) hz,_,0,(r.drop (HT.sIx xs.length 0 lo)).take (HT.sIx xs.length xs.length hi-HT.sIx xs.length 0 lo),J9 _ rfl⟩
noncomputable def iV:V->Bool
 |.non=>true
 |.bl _=>true
 |.int _=>true
 |.str _=>true
 |_=>false
noncomputable def eqV:V->V->Bool
 |.non,.non=>true
 |.bl a,.bl b=>a==b
 |.bl a,.int b=>(if a then 1 else 0)==b
 |.int a,.bl b=>a==(if b then 1 else 0)
 |.int a,.int b=>a==b
 |.str a,.str b=>a==b
 |_,_=>false
theorem Ft{A:N1}{s:J0}{y x:V}{u v:u8}(ry:aI y u) (rx:aI x v) (fy:iV y=true) (fx:iV x=true):O3 A s u v (eqV y x):=by
 cases y with
 |non =>
  cases ry;cases x with
  |non=>cases rx;exact O3.same _
  |bl b=>cases rx;exact O3.none_bool b
  |int b=>obtain⟨t,rfl⟩:=rx;exact O3.none_int b t
  |str b=>obtain⟨t,rfl⟩:=rx;exact O3.none_str b t
  |_=>exact absurd (show false=true from fx) M7
 |bl a =>
  cases ry;cases x with
  |non=>cases rx;exact O3.bool_none a
  |bl b=>cases rx;exact O3.bool_bool a b
  |int b=>obtain⟨t,rfl⟩:=rx;exact O3.bool_int a b t
  |str b=>obtain⟨t,rfl⟩:=rx;exact O3.bool_str a b t
  |_=>exact absurd (show false=true from fx) M7
 |int a =>
  obtain⟨t',rfl⟩:=ry;cases x with
  |non=>cases rx;exact O3.int_none a t'
  |bl b=>cases rx;exact O3.int_bool a t' b
  |int b=>obtain⟨t,rfl⟩:=rx;exact O3.int_int a t' b t
  |str b=>obtain⟨t,rfl⟩:=rx;exact O3.int_str a t' b t
  |_=>exact absurd (show false=true from fx) M7
 |str a =>
  obtain⟨t',rfl⟩:=ry;cases x with
  |non=>cases rx;exact O3.str_none a t'
  |bl b=>cases rx;exact O3.str_bool a t' b
  |int b=>obtain⟨t,rfl⟩:=rx;exact O3.str_int a t' b t
  |str b=>obtain⟨t,rfl⟩:=rx;exact O3.str_str a t' b t
  |_=>exact absurd (show false=true from fx) M7
 |_=>exact absurd (show false=true from fy) M7
def eqU(x:V) (u:u8):Bool:=match u with
 |.none=>eqV .non x
 |.bool b=>eqV (.bl b) x
 |.int i _=>eqV (.int i) x
 |.str z _=>eqV (.str z) x
 |_=>false
theorem zE{x y:V}{u:u8}(r:aI y u) (f:iV y=true):eqU x u=eqV y x:=by
 cases y with
 |non=>cases r;rfl
 |bl b=>cases r;rfl
 |int i=>obtain⟨t,rfl⟩:=r;rfl
 |str z=>obtain⟨t,rfl⟩:=r;rfl
 |_=>exact absurd (show false=true from f) M7
theorem kY{x:V}:∀{xs:List V}{us:List u8},az xs us->xs.all iV=true->us.any (eqU x)=xs.any fun y=>eqV y x
 |_,_,.nil,_=>rfl
 |y::xs,u::us,.cons r t,f=>by
  rw[W6,N6]at f;rw[Q5,Q5,zE r f.1,kY t f.2]
theorem iH{A:N1}{s:J0}{x:V}{v:u8}(rx:aI x v) (fx:iV x=true):∀{xs:List V}{us:List u8},az xs us->xs.all iV=true->∀u∈us,O3 A s u v (eqU x u)
 |_,_,.nil,_=>fun u hu=>by cases hu
 |y::xs,u::us,.cons r t,f=>fun u' hu=>by
  rw[W6,N6]at f;rcases O7.mp hu with rfl|hu
  ·rw[zE r f.1];exact Ft r rx f.1 fx
  ·exact iH rx fx t f.2 u' hu
def inV(x:V) (xs:List V):Bool:=xs.any fun y=>eqV y x
def rIn(K:o0) (neg:Bool):R2:=fun x y H Q=>∃p xs,y=.ref p/\(SqL K H p xs∨SqT K H p xs)/\iV x=true/\xs.all iV=true/\Q (.bl (if neg then !inV x xs else inV x xs)) H
theorem xC:OpR X (L3 .In) (rIn X.K false):=by
 intro ae s σ H x y v u Q I rx ry h;obtain⟨p,xs,rfl,hq,fx,fs,q⟩:=h;cases ry;rcases hq with hq|hq
 ·obtain⟨its,r,pl,hz⟩:=I.list hq;refine SeqAt.in_listAt (eqU x) pl.isList (fun w hw=>iH rx fx r fs w (by simpa using hw)) ⟨.bl _,H,I,rfl,?_⟩;rw[show its.toArray.any (eqU x)=its.any (eqU x)by simp,kY r fs];exact q
 ·obtain⟨its,r,pl,hz⟩:=I.tuple hq;refine SeqAt.in_tupleAt (eqU x) pl (fun w hw=>iH rx fx r fs w (by simpa using hw)) ⟨.bl _,H,I,rfl,?_⟩;rw[show its.toArray.any (eqU x)=its.any (eqU x)by simp,kY r fs];exact q
theorem rR:OpR X (L3 .NotIn) (rIn X.K true):=by
 intro ae s σ H x y v u Q I rx ry h;obtain⟨p,xs,rfl,hq,fx,fs,q⟩:=h;cases ry;rcases hq with hq|hq
 ·obtain⟨its,r,pl,hz⟩:=I.list hq;refine SeqAt.notIn_listAt (eqU x) pl.isList (fun w hw=>iH rx fx r fs w (by simpa using hw)) ⟨.bl _,H,I,rfl,?_⟩;rw[show its.toArray.any (eqU x)=its.any (eqU x)by simp,kY r fs];exact q
 ·obtain⟨its,r,pl,hz⟩:=I.tuple hq;refine SeqAt.notIn_tupleAt (eqU x) pl (fun w hw=>iH rx fx r fs w (by simpa using hw)) ⟨.bl _,H,I,rfl,?_⟩;rw[show its.toArray.any (eqU x)=its.any (eqU x)by simp,kY r fs];exact q
theorem qt:cP X (.builtin "len") (fun xs H Q=>∃p ys,xs=[.ref p]/\(SqL X.K H p ys∨SqT X.K H p ys)/\Q (.int ys.length) H):=by
 intro ae s σ H xs us Q I r h;obtain⟨p,ys,rfl,hq,q⟩:=h;obtain⟨u,rfl,rx⟩:=pX r;cases rx;have hn:=lr;rcases hq with hq|hq
 ·obtain⟨its,r',pl,hz⟩:=I.list hq;have bp:=r'.length;exact Calls.call_len_list pl.isList (by simp only[J4]<;>omega) ⟨.int ys.length,H,I.tok _,⟨s.toks+1,by rw[J4,bp]⟩,q⟩
 ·obtain⟨its,r',pl,hz⟩:=I.tuple hq;have bp:=r'.length;exact len_tuple pl (by simp only[J4]<;>omega) ⟨.int ys.length,H,I.tok _,⟨s.toks+1,by rw[J4,bp]⟩,q⟩
theorem qE:cP X (.builtin "len") (fun xs H Q=>∃z,xs=[.str z]/\z.length<=J3/\Q (.int z.length) H):=by
 intro ae s σ H xs us Q I r h;obtain⟨z,rfl,hz,q⟩:=h;obtain⟨u,rfl,t,rfl⟩:=pX r;have hn:=lr;exact len_str (by omega) ⟨.int z.length,H,I.tok _,⟨_,rfl⟩,q⟩
theorem cP.or{f:u8}{r r':List V->Hp->VK->Prop}(h:cP X f r) (h':cP X f r'):cP X f (fun xs H Q=>r xs H Q∨r' xs H Q):=by
 intro ae s σ H xs us Q I rs q;rcases q with q|q
 ·exact h ae s σ H xs us Q I rs q
 ·exact h' ae s σ H xs us Q I rs q
theorem rN:cP X (.type "list") (fun xs H Q=>∃p ys,xs=[.ref p]/\(SqL X.K H p ys∨SqT X.K H p ys)/\∀l,H l=none->Q (.ref l) (upd H l (.lst ys))):=by
 intro ae s σ H xs us Q I r h;obtain⟨p,ys,rfl,hq,q⟩:=h;obtain⟨u,rfl,rx⟩:=pX r;cases rx;have fin:∀(its:List u8),az ys its->ys.length<=J3->∀(h':L6) (c':Nat),(∀b o',s.heap.get? b=some o'->h'.get? b=some o') ->
   h'.get? s.heap.objs.size=some { cls:=.type "list",dict:=none,data:=.seq its.toArray c',slots:=#[] }->EP X ae σ Q (.ref s.heap.objs.size) { s with heap:=h' }:=fun its r' hz h' c' kp e =>
  ⟨.ref s.heap.objs.size,_,I.laid (t':=s.toks) kp (J6 _) (show cm X.prog X.w _ h' _ (.lst ys)from⟨hz,its,c',r',e⟩),rfl,q _ (I.hok.fresh (J6 _))⟩
 rcases hq with hq|hq
 ·obtain⟨its,r',pl,hz⟩:=I.list hq;have bp:=r'.length;obtain⟨o,ho,hc,n,hd⟩:=pl.isList;exact call_list_seq p (.inl rfl) ho hc hd (fun h' c' kp e=>fin its r' hz h' c' kp e) (by simp only[J4]<;>omega)
 ·obtain⟨its,r',pl,hz⟩:=I.tuple hq;have bp:=r'.length;obtain⟨o,ho,hc,n,hd⟩:=pl;exact call_list_seq p (.inr rfl) ho hc hd (fun h' c' kp e=>fin its r' hz h' c' kp e) (by simp only[J4]<;>omega)
theorem oW:cP X (.type "tuple") (fun xs H Q=>∃p ys,xs=[.ref p]/\((SqL X.K H p ys/\∀l,H l=none->Q (.ref l) (upd H l (.tup ys)))∨(SqT X.K H p ys/\Q (.ref p) H))):=by
 intro ae s σ H xs us Q I r h;obtain⟨p,ys,rfl,h⟩:=h;obtain⟨u,rfl,rx⟩:=pX r;cases rx;rcases h with⟨hq,q⟩|⟨hq,q⟩
 ·obtain⟨its,r',pl,hz⟩:=I.list hq;have bp:=r'.length;refine call_tuple_list pl.isList (fun h' kp=>?_) (by simp only[J4]<;>omega);have I1:Inv X ae σ H { s with heap:=h' }:=I.kept (t':=s.toks) kp;have I2:Inv X ae σ (upd H h'.objs.size (.tup ys)) { s with heap:=h'.push { cls:=.type "tuple",data:=.seq its.toArray } } :=
   I1.laid (t':=s.toks) (fun b o e=>J1 _ e) (J6 _) (show cm X.prog X.w _ _ _ (.tup ys)from⟨hz,its,r',jY.new _ _⟩)
  exact⟨.ref h'.objs.size,_,I2,rfl,q _ (I1.hok.fresh (J6 _))⟩
 ·obtain⟨its,r',pl,hz⟩:=I.tuple hq;exact call_tuple_same pl ⟨.ref p,H,I,rfl,q⟩
def tyV(K:o0) (T:String) (x:V) (H:Hp):Prop:=match x with
 |.str _=>T="str"
 |.int _=>T="int"
 | .ref p => (T = "list" ∧ ∃ xs,SqL K H p xs) ∨ (T = "tuple" ∧ ∃ o,K.lookup p = some o ∧ o.cls = .type "tuple" ∧ o.dict = none) ∨
   (T="dict"/\((∃kvs,H p=some (.dK kvs))∨∃kvs,H p=some (.dT kvs)))∨(T="set"/\∃S n,H p=some (.set S n))
 |_=>False
theorem zp{ae:List (J8×Obj)}{σ:St}{H:Hp}{s:J0}{T:String}{x:V}{v:u8}(I:Inv X ae σ H s) (r:aI x v) (ty:tyV X.K T x H) :
  s.TypeIs v T/\∀a,v=.ref a->∃ob,s.heap.get? a=some ob/\ob.dict=none:=by
 cases x with
 |str z =>
  obtain⟨t,rfl⟩:=r;cases(show T="str" from ty);exact⟨typeIs_str s z t,fun _ e=>nomatch e⟩
 |int i =>
  obtain⟨t,rfl⟩:=r;cases(show T="int" from ty);exact⟨ac0 s i t,fun _ e=>nomatch e⟩
 |ref p =>
  cases r;rcases ty with⟨rfl,xs,hq⟩|⟨rfl,o,hk,hc,hd⟩|⟨rfl,hk⟩|⟨rfl,S,n,hk⟩
  ·obtain⟨its,_,pl,_⟩:=I.list hq;refine⟨pl.isList.typeIs,fun a e=>?_⟩;cases e;obtain⟨o,n,e,c,hd,_⟩:=pl;exact⟨o,e,hd⟩
  ·refine⟨⟨o,I.kIn p o hk,hc⟩,fun a e=>?_⟩;cases e;exact⟨o,I.kIn _ o hk,hd⟩
  ·have z:∃o,s.heap.get? p=some o/\o.ExactDict:=by
    rcases hk with⟨kvs,hk⟩|⟨kvs,hk⟩
    ·obtain⟨_,_,_,_,o,_,_,e,ex,_⟩:=I.hok p _ hk;exact⟨o,e,ex⟩
    ·obtain⟨_,_,_,_,o,_,_,e,ex,_⟩:=I.hok p _ hk;exact⟨o,e,ex⟩
   obtain⟨o,e,ex⟩:=z;refine⟨⟨o,e,ex.1⟩,fun a e2=>?_⟩;cases e2;exact⟨o,e,ex.2.1⟩
  ·obtain⟨o,_,_,_,e,ex,_⟩:=I.hok p _ hk;refine⟨⟨o,e,ex.1⟩,fun a e2=>?_⟩;cases e2;exact⟨o,e,ex.2.1⟩
 |_=>exact P8 ty
def Ip(K:o0) (T:String) (r:V->List V->Hp->VK->Prop) (to:TE):TE:=fun σ H Q=>to σ H fun x H1=>tyV K T x H1/\r x [] H1 Q
def tBM(K:o0) (T:String) (r:V->List V->Hp->VK->Prop) (to:TE) (t:TA):TE:=fun σ H Q=>to σ H fun x H1=>tyV K T x H1/\t σ H1 fun xs H2=>r x xs H2 Q
variable{o e:K5}{es:List K5}{to:TE}{t:TA}{name:Str}{cc bv:Pos}{T id:String}{r:V->List V->Hp->VK->Prop}
theorem En(pa:PlainAttrs T) (slot:Slot T name id) (hty:typeOf (.builtin id)=X9 (.type "method_descriptor")) (hm:MtR X id r) (ho:PE X o to)
  (dq:U9 o name X.env (V3 o X.env)=V3 o X.env:=by rfl) (c9:(cc.endLine==bv.line)=true:=by rfl):PE X (.Call (.Attribute o name cc) [] [] bv) (Ip X.K T r to):=by
 intro ae s σ H Q I h;refine wpAny_Call_method0_late dq c9 (thn (ho ae s σ H _ I h) fun v s1 ⟨x,H1,I1,r1,ty,q1⟩=>?_);obtain⟨h1,h2⟩:=zp I1 r1 ty;exact⟨T,id,pa,slot,hty,h1,h2,Calls.callWith_builtin rfl (PySem.evalArgs_none (hm ae s1 σ H1 x [] v [] Q I1 r1 .nil q1))⟩
theorem AR(pa:PlainAttrs T) (slot:Slot T name id) (hty:typeOf (.builtin id)=X9 (.type "method_descriptor")) (hm:MtR X id r) (ho:PE X o to) (ha:PA X (e::es) t)
  (dq:U9 o name X.env (V3 o X.env)=V3 o X.env:=by rfl)
  (uJ:((V8 bv (K2 (e :: es) X.env)).all (fun x => !x.1) && (backToKw bv (ac5 [] X.env)).all (fun x => x.1.isSome)
  &&decide ((e::es).length+([]:List ab5).length+(if([]:List ab5).isEmpty then 0 else 1)<30))=true:=by rfl)
  (c9:(cc.endLine==bv.line)=true:=by rfl) (hs:K2 (e::es) X.env=(false,V3 e X.env)::K2 es X.env:=by rfl) (kc:(V8 bv (K2 es X.env)).any (·.1)=false:=by rfl) :
  PE X (.Call (.Attribute o name cc) (e::es) [] bv) (tBM X.K T r to t):=by
 intro ae s σ H Q I h;refine wpAny_Call_method_late dq uJ c9 rfl (thn (ho ae s σ H _ I h) fun v s1 ⟨x,H1,I1,r1,ty,q1⟩=>?_);obtain⟨h1,h2⟩:=zp I1 r1 ty;refine⟨T,id,pa,slot,hty,h1,h2,?_⟩;have hA:=ha bv ae s1 σ H1 _ I1 q1;rw[hs]at hA ⊢;refine Calls.callWith_builtin (by show(false || (V8 bv (K2 es X.env)).any (·.1))=false;rw[kc]<;>rfl) (Calls.evalArgs_plain ?_);exact thn hA fun us s2 hup=>hup.el fun vs H2 I2 r2 q2=>hm ae s2 σ H2 x vs v us Q I2 r1 r2 q2
end
def MtM(X:Cx) (id:String) (r:V->List V->Hp->VK->Prop):Prop :=
 ∀(ae:List (J8×Obj)) (s:J0) (σ:St) (H:Hp) (x:V) (xs:List V) (v:u8) (us:List u8) (Q:VK),Inv X ae σ H s->aI x v->az xs us->r x xs H Q ->
  K4 (K7 X.prog X.w) X.A (call (.builtin id) (v::us)) (EP X ae σ Q) X.xe s
theorem az.un{x:V}{xs:List V}{us:List u8}(h:az (x::xs) us):∃u vs,us=u::vs/\aI x u/\az xs vs:=by
 cases h with
 |cons r t=>exact⟨_,_,rfl,r,t⟩
theorem az.one{x:V}{us:List u8}(h:az [x] us):∃u,us=[u]/\aI x u:=by
 obtain⟨u,vs,rfl,r,t⟩:=h.un;cases t;exact⟨u,rfl,r⟩
theorem az.two{x y:V}{us:List u8}(h:az [x,y] us):∃u v,us=[u,v]/\aI x u/\aI y v:=by
 obtain⟨u,vs,rfl,r,t⟩:=h.un;obtain⟨v,rfl,q⟩:=t.one;exact⟨u,v,rfl,r,q⟩
theorem az.zero:∀{us:List u8},az [] us->us=[]
 |_,.nil=>rfl
theorem az.dropLast{xs:List V}{us:List u8}(h:az xs us):az xs.dropLast us.dropLast:=by
 induction h with
 |nil=>exact .nil
 |cons r t ih =>
  cases t with
  |nil=>exact .nil
  |cons q t'=>exact .cons r ih
theorem az.reverse{xs:List V}{us:List u8}(h:az xs us):az xs.reverse us.reverse:=by
 induction h with
 |nil=>exact .nil
 |cons r t ih=>rw[X4,X4];exact az.append ih (.cons r .nil)
theorem az.rep{xs:List V}{us:List u8}(h:az xs us):∀k:Nat,az (K1 k xs).flatten (K1 k us).flatten
 |0=>.nil
 |k+1=>by
  rw[Q0,Q0,T0,T0];exact az.append h (az.rep h k)
theorem uM{α:Type}(l:List α):l.eraseIdx (l.length-1)=l.dropLast:=by
 induction l with
 |nil=>rfl
 |cons a r ih =>
  cases r with
  |nil=>rfl
  |cons b r =>
   have e:(a::b::r).length-1=((b::r).length-1)+1:=by
    have h1:(a::b::r).length=r.length+2:=rfl;have h2:(b::r).length=r.length+1:=rfl
    assumption
   rw[e,List.eraseIdx_cons_succ,ih]
   all_goals rfl
theorem k8(its:List u8):∀(k:Nat) (acc:List u8),
  ad1 (fun x1 x2=>x1++x2) acc.toArray (K1 k its.toArray)=(acc++(K1 k its).flatten).toArray
 |0,acc=>by simp
 |k+1,acc=>by
  have e:acc.toArray++its.toArray=(acc++its).toArray:=by simp
  have e2:(acc++its)++(K1 k its).flatten=acc++(K1 (k+1) its).flatten:=by
   rw[Q0,T0,List.append_assoc]
  rw[<-e2,<-k8 its k (acc++its),<-e,Q0,List.foldl_cons]
section
variable{X:Cx}{ae:List (J8×Obj)}{σ:St}{H:Hp}{s:J0}{l b:J8}{xs ys zs:List V}
theorem Inv.lset{its its':List u8}{n:Nat}{f:Array u8->Array u8}{t':Nat}(I:Inv X ae σ H s) (hH:H l=some (.lst xs))
  (e:s.heap.get? l=some { cls:=.type "list",data:=.seq its.toArray n }) (hf:f its.toArray=its'.toArray) (hv:az ys its') (hz:ys.length<=J3) :
  Inv X ae σ (upd H l (.lst ys)) { s with heap:=s.heap.update l (ab9 f),toks:=t' }:=by
 have q:=PySem.IsL.update e f;rw[hf]at q;refine I.write (x:=l) (e:=l) (by rw[hH];exact trivial) (.inl rfl) (fun b' u hb hu=>(L6.get?_update_other s.heap (ab9 f) (X0 hb)).trans hu) ⟨_,q⟩ ?_;exact⟨hz,its',_,hv,q⟩
theorem Inv.lnew{its:List u8}{t':Nat}(I:Inv X ae σ H s) (hv:az ys its) (hz:ys.length<=J3) :
  Inv X ae σ (upd H s.heap.objs.size (.lst ys)) { s with heap:=s.heap.push { cls:=.type "list",data:=.seq its.toArray },toks:=t' } :=
 I.laid (fun _ _ q=>J1 _ q) (J6 _) ⟨hz,its,0,hv,J9 _ rfl⟩
theorem Inv.fresh(I:Inv X ae σ H s):H s.heap.objs.size=none:=I.hok.fresh (J6 _)
theorem Inv.lstM(I:Inv X ae σ H s) (hH:H l=some (.lst xs)):xs.length<=J3/\∃(its:List u8) (n:Nat),az xs its/\xs.length=its.length/\s.heap.get? l=some { cls:=.type "list",data:=.seq its.toArray n }:=by
 obtain⟨z,its,n,r,e⟩:=I.hok l _ hH;exact⟨z,its,n,r,r.length,e⟩
theorem Be{n:Nat}(h:n<=J3):L4.List.listTooLong n=false:=by
 unfold L4.List.listTooLong;exact decide_eq_false (by omega)
end
section
variable{X:Cx}
def we:V->List V->Hp->VK->Prop:=fun x vs H Q=>∃l xs y,x=.ref l/\vs=[y]/\H l=some (.lst xs)/\xs.length<J3/\Q .non (upd H l (.lst (xs++[y])))
theorem xG:MtM X "list.append" we:=by
 intro ae s σ H x vs v us Q I rx rv h;obtain⟨l,xs,y,rfl,rfl,hH,hz,q⟩:=h;cases rx;obtain⟨u,rfl,ru⟩:=rv.one;obtain⟨z,its,n,r,hl,e⟩:=I.lstM hH;refine aa5 F.slot_list_append ⟨_,e,rfl⟩ F.entry_list_append (F.args_list_append_2 _ _) (PySem.list_append l its.toArray n u (by rw[J4];omega)) ⟨e,?_⟩;refine⟨.non,_,I.lset (its':=its++[u]) hH e (by simp) (r.append (.cons ru .nil)) ?_,rfl,q⟩;rw[O5,List.length_singleton]
 assumption
def GW:V->List V->Hp->VK->Prop:=fun x vs H Q=>∃l xs y,x=.ref l/\vs=[]/\H l=some (.lst xs)/\xs[xs.length-1]?=some y/\Q y (upd H l (.lst xs.dropLast))
theorem EZ:MtM X "list.pop" GW:=by
 intro ae s σ H x vs v us Q I rx rv h;obtain⟨l,xs,y,rfl,rfl,hH,hy,q⟩:=h;cases rx;have hus:=rv.zero;subst hus;obtain⟨z,its,n,r,hl,e⟩:=I.lstM hH;obtain⟨u,hu,ru⟩:=r.get hy;have hy':its.toArray[its.toArray.size-1]?=some u:=by
  show its.toArray[its.length-1]?=some u;rw[<-Array.getElem?_toList,<-hl];exact hu
 refine aa5 F.slot_list_pop ⟨_,e,rfl⟩ F.entry_list_pop (F.args_list_pop_1 _) (MeetsSeq.list_pop_last l its.toArray n u hy' (by rw[J4];omega)) ⟨e,?_⟩;refine⟨y,_,I.lset (its':=its.dropLast) hH e ?_ r.dropLast ?_,ru,q⟩
 ·show its.toArray.eraseIdxIfInBounds (its.toArray.size-1)=its.dropLast.toArray;rw[J4,List.eraseIdxIfInBounds_toArray,uM]
 ·rw[List.length_dropLast];omega
def Im:R2:=fun x y H Q=>∃l b xs zs,x=.ref l/\y=.ref b/\H l=some (.lst xs)/\H b=some (.lst zs)/\xs.length+zs.length<=J3/\∀p,H p=none->Q (.ref p) (upd H p (.lst (xs++zs)))
theorem FF:OpR X (P7 .Add) Im:=by
 intro ae s σ H x y v u Q I rx ry h;obtain⟨l,b,xs,zs,rfl,rfl,hH,hB,hz,q⟩:=h;cases rx;cases ry;obtain⟨z,its,n,r,hl,e⟩:=I.lstM hH;obtain⟨z2,its2,n2,r2,hl2,e2⟩:=I.lstM hB;refine PySem.P.add_list e e2 ?_ (by rw[J4,J4];omega);have ea:its.toArray++its2.toArray=(its++its2).toArray:=by simp
 rw[ea];exact⟨.ref _,_,I.lnew (t':=s.toks) (r.append r2) (by rw[O5];assumption),rfl,q _ I.fresh⟩
def Il:R2:=fun x y H Q=>∃l k xs,x=.ref l/\y=.int k/\H l=some (.lst xs)/\-(2 ^ 63)<=k/\k<2 ^ 63/\xs.length*k.toNat<=J3 /\
 ∀p,H p=none->Q (.ref p) (upd H p (.lst (K1 k.toNat xs).flatten))
theorem qB{α:Type}(xs:List α) (k:Nat):(K1 k xs).flatten.length=k*xs.length:=by
 induction k with
 |zero=>simp
 |succ k ih=>rw[Q0,T0,O5,ih,Nat.succ_mul,Nat.add_comm]
theorem zd:OpR X (P7 .Mult) Il:=by
 intro ae s σ H x y v u Q I rx ry h;obtain⟨l,k,xs,rfl,rfl,hH,h1,h2,hz,q⟩:=h;cases rx;obtain⟨t,rfl⟩:=ry;obtain⟨z,its,n,r,hl,e⟩:=I.lstM hH;have bp:its.toArray.size*k.toNat<=J3:=by rw[J4,<-hl];exact hz
 have hcap:¬ its.toArray.size*k.toNat > (2 ^ 63-1) / 8:=by
  have:(J3:Nat)<=(2 ^ 63-1) / 8:=by decide
  omega
 have hfit:¬ (!Builtin.List.listFitsIndex k)=true:=by
  rw[fitsIndex_both h1 h2];exact M7
 have hlong:¬ L4.List.listTooLong (its.toArray.size*k.toNat)=true:=by
  rw[Be bp];exact M7
 have hnew:ad1 (fun x1 x2=>x1++x2) #[] (K1 (if its.toArray.isEmpty=true then 0 else k.toNat) its.toArray)=(K1 k.toNat its).flatten.toArray:=by
  have f0:∀m:Nat,ad1 (fun x1 x2=>x1++x2) #[] (K1 m its.toArray)=(K1 m its).flatten.toArray:=fun m=>by
   have:=k8 its m [];rw[List.nil_append]at this;exact this
  rw[f0];cases its with
  |nil=>simp
  |cons a r'=>rw[if_neg (by simp)]
 refine wpAny_binaryOp_repeat_ref (T:="list") (U:="int") (by decide) ⟨_,e,rfl⟩ (fun s'=>ac0 s' k t) noFill_list_mul F.fills_int_mul Z9 repeat_list F.slot_int_index.lookup
  (aa5 Z9 (ac0 s k t) F.entry_int_rmul (F.args_int_rmul_2 _ _) (int___rmul___int_list k t l its.toArray n)
   ⟨e,rfl,⟨_,e,rfl⟩,aa5 F.slot_list_mul ⟨_,e,rfl⟩ F.entry_list_mul (F.args_list_mul_2 _ _) (AutoListH.list___mul___list_int_3 l its.toArray n k t hfit hcap hlong) ⟨e,?_⟩⟩)
 rw[hnew];exact⟨.ref _,_,I.lnew (t':=s.toks) (r.rep k.toNat) (by rw[qB,Nat.mul_comm];exact hz),rfl,q _ I.fresh⟩
end
end L2
namespace Att
open PySem PySem.W PySem.Calls PyProof.Rows
theorem mx{P:Params}{h:L6}:∀(ns:List Int) (vs:List u8),WellAll P h vs (ns.map WData.int)->IntsAre vs ns:=by
 intro ns
 induction ns with
 |nil =>
  intro vs w;rw[List.map_nil]at w;cases w;exact .nil
 |cons n ns ih =>
  intro vs w;rw[L7]at w;cases w with
  |cons a b =>
   cases a;exact .cons _ _ (ih _ b)
theorem xl{l:OpenLaw}{n:Nat}(hn:l.most=some n) {P:Params}{h:L6}{args:List WData}{vals:List u8}
  (hpre:l.row.toRowW.claim.pre args=true) (hwl:WellAll P h vals args) :
  ∃a vs ns,vals=[N3 a]/\args=[WData.list (ns.map WData.int)]/\h.get? a=some { cls:=.type "list",data:=.seq vs.toArray }/\IntsAre vs ns/\ns.length<=n:=by
 have hsh:WShape.hasAll [] args [.list .int]=true:=(pre_splitW hpre).1;have hc:l.pre.holds [] { args:=args }=true:=(pre_splitW hpre).2;obtain⟨d,r,rfl,h1,h2⟩:=hasAllW_cons hsh;obtain rfl:=hasAllW_nil h2;obtain⟨xs,rfl,h3⟩:=hasW_list h1;obtain⟨ns,rfl⟩:=items_int h3;have bp:ns.length<=n:=by
  unfold OpenLaw.pre at hc;have h4:(WTm.not (.lt (.lit (.int (n:Int))) (.len (.arg 0)))).holds [] { args:=[.list (ns.map .int)] }=true:=by
   have h4:=(holds_andW hc).1;rw[hn]at h4;exact h4
  have h5:=condW_of h4 (w_not (w_lt w_lit (w_len_list (w_arg rfl))));rw[U6]at h5;refine Nat.le_of_not_lt fun q=>?_;have q':(n:Int)<((ns.length:Nat):Int):=by omega
  first
   |(rw[decide_eq_true q']at h5;exact absurd h5 (by decide))
   |(simp at h5;omega)
 cases hwl with
 |cons w1 w2 =>
  cases w2;cases w1 with
  |list ho hall=>exact⟨_,_,ns,rfl,rfl,ho,mx ns _ hall,bp⟩
theorem yp(l:OpenLaw) (args:List WData):l.row.toRowW.claim.post args (.bool true) args=true :=
 postW_of (r:=l.row.toRowW) (X:=(true==true))
  (show WShape.has [] (.bool true) .bool=true by first|rfl|decide|simp[WShape.has,WShape.arms,WShape.armsAll])
  (show(WTm.eq .res (.lit (.bool true))).value [] { args:=args,res:=some (.bool true),after:=args }=some (.bool (true==true))from w_eq_bool (w_res rfl) w_lit) rfl
theorem attach_call{l:OpenLaw}{n:Nat}{q:L1}{loose:List Str}{XP:(Str->Option u8)->L6->Prop}{YP:O6->L6->Prop}{d:DefRec}
  (hn:l.most=some n) (hdf:d.params.defaults=[])
  (call:∀ (w:O6) (s₀ s₁:J0) (mg mb:Str → Option u8) (fa:J8) (o:Obj) (pm cd doc:u8) (a:J8) (vs:List u8) (ns:List Int),
   Ground q loose [] XP w s₀ mg mb s₁.heap->YP w s₁.heap ->
   s₁.heap.get? fa=some o->o.data=.func (docDef d.name d.params d.body d.scope pm cd doc)->s₁.heap.CodeRec cd d.name->mg d.name=some (.ref fa) ->
   s₁.heap.get? a=some { cls:=.type "list",data:=.seq vs.toArray }->IntsAre vs ns->ns.length<=n->s₁.gens=#[] ->
   V2 (K7 l.prog w) ac6 (.call (.ref fa) ⟨[.ref a],[]⟩) (fun r s'=>r=.ok (.ret (.bool true))/\OldK s₁.heap s'.heap/\s'.os=s₁.os/\aa6 s'.gens) s₁) :
  WalkO q loose XP YP l.row.toRowW d [] (fun f vs=>PySem.call f vs):=by
 intro w s₀ s₁ mg mb G Y fa o pm cd doc dV kV ho hd hcd hD hmg hg args vals as hpre hlay hrd hwl hlo;obtain rfl:dV=.none:=Dflts.none hD hdf;obtain rfl:kV=.none:=Dflts.noKw hD;obtain⟨a,vs,ns,rfl,rfl,hobj,hints,bp⟩:=xl hn hpre hwl;refine enter_call (X6 (call w s₀ s₁ mg mb fa o pm cd doc a vs ns G Y ho (fd_plain hd) hcd hmg hobj hints bp hg) fun r s' hq=>?_);obtain⟨rfl,h2,h3,h4⟩:=hq;exact⟨.inl ⟨.bool true,.bool true,[],rfl,fun _=>rfl,.bool true,yp l _,fun _=>⟨List.Pairwise.nil,fun _ hm=>(nomatch hm)⟩⟩,h2,h3,h4⟩
section
variable{prog:L1}{w:O6}{A:N1}{E:u8->J0->Prop}{s:J0}{K:Frag}
end
end Att
namespace L2
open PySem PySem.Spec PyProof.Rows
theorem pT:∀{vs:List u8}{ns:List Int},IntsAre vs ns->az (ns.map V.int) vs
 |_,_,.nil=>.nil
 |_,_,.cons n t h=>.cons ⟨t,rfl⟩ (pT h)
def CA(H:Hp):Prop:=∀b,H b=none∨∃o xs,H b=some (.frz o (.lst xs))
theorem zP{P:L1}{w:O6}{K:o0}{mg mb:Str->Option u8}{CX:CXT}{k:Nat}{fa a:J8}{fd:S6}{x:Str}{sp:Sp}{s₁:J0}{vs:List u8}{ns:List Int}
  (KX:K.In s₁.heap) (hns:s₁.heap.Ns T3 mg) (hb:s₁.heap.Ns builtinsNs mb) (hbb:∀x:Str,x≠"__name__"->mb x=Q8 x) (hlim:s₁.heap.NoLimit) (hg:s₁.gens=#[])
  (ha:s₁.heap.get? a=some { cls:=.type "list",data:=.seq vs.toArray }) (hi:IntsAre vs ns) (hl:ns.length<=J3) (hr:cG k ac6)
  (F:∀base:L6,K.In base->base.Ns T3 mg->bf P w K mg base CX k fa fd [x] sp) (hbind:∀(s:J0) (u:u8),ae3 s fd ⟨[u],[]⟩ [(x,u)])
  (hsp:∀H:Hp,CA H->SqL K H a (ns.map V.int)->sp [.ref a] H (fun v _=>v=.bl true) fun _ _ _=>False)
  (hCX:∀H e s',CX [] H s₁ (fun _ _ _=>False) e s'->False) :
  V2 (K7 P w) ac6 (.call (.ref fa) ⟨[.ref a],[]⟩) (fun r s'=>r=.ok (.ret (.bool true))/\OldK s₁.heap s'.heap/\s'.os=s₁.os/\aa6 s'.gens) s₁:=by
 have rv:=pT hi;have lenV:=hi.length
 -- from an abstract heap in which nothing but the script may be tracked
 have core:∀H:Hp,CA H->SqL K H a (ns.map V.int)->HOk P w H s₁.heap->(∀b,H b≠none->b=a)->(H a≠none->K.lookup a=none) ->
   V2 (K7 P w) ac6 (.call (.ref fa) ⟨[.ref a],[]⟩) (fun r s'=>r=.ok (.ret (.bool true))/\OldK s₁.heap s'.heap/\s'.os=s₁.os/\aa6 s'.gens) s₁:=by
  intro H hO hS hok hA hK;have base_of:∀{b:J8} {o:Obj},s₁.heap.get? b=some o->H b=none->(qX s₁.heap H).get? b=some o:=fun e n=>Al e n;have noA:∀{b:J8} {o:Obj} {es:Array ae1} {ep:Nat},s₁.heap.get? b=some o->o.data=.dict es ep->H b=none:=fun {b o es ep} e d=>by
   cases q:H b with
   |none=>rfl
   |some u =>
    have e':b=a:=hA b (by rw[q];simp);subst e';rw[ha]at e;cases e;have d':Data.seq vs.toArray _=Data.dict es ep:=d;cases d'
  have nsK:∀{b:J8} {m:Str->Option u8},s₁.heap.Ns b m->(qX s₁.heap H).Ns b m:=fun {b m} ⟨o,es,ep,e,d,r⟩=>⟨o,es,ep,base_of e (noA e d),d,r⟩;have hKb:K.In (qX s₁.heap H):=fun b o e=>base_of (KX b o e) (by
   cases q:H b with
   |none=>rfl
   |some u =>
    have e':b=a:=hA b (by rw[q];simp);subst e';rw[hK (by rw[q];simp)]at e;cases e)
  have hM:Mod K mg (qX s₁.heap H):=⟨hKb,nsK hns,⟨mb,nsK hb,hbb⟩,let⟨mc,h1,h2⟩:=hlim;⟨mc,nsK h1,h2⟩⟩;have e0:uT P w K mg (qX s₁.heap H) ac6 [] s₁ H:=⟨rfl,hM,fun b o e=>B3 e,Nat.le_of_eq (xx _ _),trivial,fun b hb=>absurd (show b∈([]:List J8)from hb) (by simp),hok,.of_eq hg⟩;refine X6 ((F _ hKb (nsK hns)).run ac6 [] s₁ H ⟨[.ref a],[]⟩ [.ref a] [.ref a] _ _ hr e0 (hbind s₁ (.ref a)) (.cons rfl .nil) (hsp H hO hS)) fun r s' h=>?_;cases r with
  |error e=>exact(hCX H e s' h).elim
  |ok fl =>
   cases fl with
   |next=>exact P8 h
   |brk=>exact P8 h
   |cont=>exact P8 h
   |ret u =>
    obtain⟨v,H',os,bare,un,hok',r',q⟩:=h;have q':v=.bl true:=q;subst q';obtain rfl:u=u8.bool true:=r';refine⟨rfl,OldK.of_keep fun b o e=>?_,os,bare⟩;cases q:H b with
    |none=>exact un.keep b o e q (by intro z;exact absurd (show b∈([]:List J8)from z) (by simp)) (by simp)
    |some u =>
     rcases hO b with z|⟨ob,xs,z⟩
     ·rw[q]at z;cases z
     ·have z2:=un.frzs b ob _ z;obtain⟨e1,_⟩:=hok b _ z;obtain⟨e2,_⟩:=hok' b _ z2;rw[e]at e1;cases e1;exact e2
 cases hk:K.lookup a with
 |some o =>
  -- the script is one of the module's own objects
  have e:=KX a o hk;rw[ha]at e;cases e;refine core (fun _=>none) (fun _=>.inl rfl) (.inr ⟨_,vs.toArray,_,hk,rfl,rfl,rfl,by rw[J4,lenV];exact hl,by simpa using rv⟩) (fun b u z=>by have z':(none:Option HO)=some u:=z;cases z') (fun b z=>absurd rfl z) fun z=>absurd rfl z
 |none =>
  refine core (fun b=>if b=a then some (.frz { cls:=.type "list",data:=.seq vs.toArray } (.lst (ns.map V.int)))else none) (fun b=>?_) (.inl (.inr ⟨{ cls:=.type "list",data:=.seq vs.toArray },if_pos rfl⟩)) (fun b u z=>?_) (fun b z=>?_) fun _=>hk
  ·by_cases hb:b=a
   ·exact .inr ⟨_,_,if_pos hb⟩
   ·exact .inl (if_neg hb)
  ·by_cases hb:b=a
   ·have z':=(if_pos hb).symm.trans z;cases z';subst hb;exact⟨ha,by rw[U6];exact hl,vs,_,rv,ha⟩
   ·have z':=(if_neg hb).symm.trans z;cases z'
  ·by_cases hb:b=a
   ·exact hb
   ·exact absurd (if_neg hb) z
theorem wo{l:PySem.W.OpenLaw}{n k:Nat}{q:L1}{loose:List Str}{XP:(Str->Option u8)->L6->Prop}{YP:O6->L6->Prop}{d:DefRec}{K:Params->o0}{CX:O6->CXT}{sp:O6->Sp}{x:Str}
  (hn:l.most=some n) (hn2:n<=J3) (hdf:d.params.defaults=[]) (hr:cG k ac6)
  (hY:∀(w:O6) (h:L6),YP w h->(K w.params).In h)
  (F:∀ (w:O6) (mg:Str → Option u8) (fa:J8) (h:L6),(K w.params).In h → h.Ns T3 mg → mg d.name = some (.ref fa) →
   ∃fd:S6,(∀(s:J0) (u:u8),ae3 s fd ⟨[u],[]⟩ [(x,u)]) /\
    ∀base:L6,(K w.params).In base->base.Ns T3 mg->bf l.prog w (K w.params) mg base (CX w) k fa fd [x] (sp w))
  (hsp:∀(w:O6) (H:Hp) (a:J8) (ns:List Int),ns.length<=n->CA H->SqL (K w.params) H a (ns.map V.int)->sp w [.ref a] H (fun v _=>v=.bl true) fun _ _ _=>False)
  (hCX:∀(w:O6) (H:Hp) (s:J0) (e:u8) (s':J0),CX w [] H s (fun _ _ _=>False) e s'->False) :
  PySem.W.WalkO q loose XP YP l.row.toRowW d [] (fun f vs=>PySem.call f vs):=by
 refine Att.attach_call hn hdf fun w s₀ s₁ mg mb fa o pm cd doc a vs ns G Y ho hd hcd hmg hobj hints bp hg=>?_;have KX:=hY w _ Y;obtain⟨fd,hb,hF⟩:=F w mg fa _ KX G.T.g hmg;exact zP KX G.T.g G.T.b G.T.builtins G.T.nolimit hg hobj hints (L5 bp hn2) hr hF hb (fun H hO hS=>hsp w H a ns bp hO hS) fun H e s'=>hCX w H s₁ e s'
end L2
/- THE LAST THEOREM (shape; LID,My.* are yours):
   My.Adr: a structure of the addresses that your layer names (classes,functions);My.Txt K t: a structure (Prop) of the equations over K;
   My.txt_mk:{K} {implicit addresses ..} (e1:nsIn K T3 "law"=some (some (.ref f))) (e2:K.lookup f=some ⟨oc,od,.func (fnOf "law" "law" params body scope dV kV doc pm an cdv ct),sl⟩) (e3:codeIn K cdv "law"=true) ..:∃t,My.Txt K t
set_option maxRecDepth 100000 in
set_option maxHeartbeats 0 in
theorem PySem.Challenge.cw_LID_holds : PySem.Challenge.rw_LID.Holds := by
 w_on;o_law;k_head;(case hw=>w_witness2)
 k_fill
 refine L2.wo (l:=PySem.Challenge.rw_LID) (n:=63) (k:=40) (x:="script") (CX:=fun w=>..) (sp:=fun _=>My.sp_law) rfl (by decide) rfl ⟨rfl,by decide,by decide⟩ (fun w h Y=>PySem.W.kIn_of Y) ?F ?S ?C
 case F =>
  intro w mg fa h KX G hmg;have T:∃t,My.Txt (L2.KOf KX) t:=by
   dsimp only[L2.KOf]                          -- K must stand as «<heap const> w.params» for k_is
   refine' My.txt_mk ?e1 ?e2 ?e3 ..
   (case e1=>PySem.W.k_is)                    -- in the order: a name->its address->its object->its parts
   (case e2=>PySem.W.k_is)
   ..
  obtain⟨t,T⟩:=T;have e0:=hmg.symm.trans (PySem.W.mg_of KX G T.law);cases e0                                       -- fa is the law's own address;exact⟨_,fun s u=>.of_eq rfl,fun base kb nb=>My.law_fn T kb nb⟩     -- if «.of_eq rfl» comes too early: refine' ⟨_,?b,fun base kb nb=>My.law_fn T kb nb⟩;exact fun s u=>.of_eq rfl
 case S=>exact fun w H a ns hl hO hS=>..
 case C=>exact ..
(the tactic k_is has no namespace: write k_is) -/
namespace L2
open PySem PySem.Spec PyProof.Rows
noncomputable def gG(s:ab0):Arguments:=match s with
 |.FunctionDef _ a _ _ _ _ _ _ _ _=>a
 |_=>{ posonlyargs:=[],args:=[],vararg:=none,kwonlyargs:=[],kw_defaults:=[],kwarg:=none,defaults:=[] }
def dR(s:ab0):List ab0:=match s with
 |.FunctionDef _ _ b _ _ _ _ _ _ _=>b
 |_=>[]
noncomputable def am(s:ab0):V6:=match s with
 |.FunctionDef _ _ _ _ _ _ sc _ _ _=>sc
 |_=>{ kind:=.function,names:=[],isGenerator:=false,isCoroutine:=false }
abbrev CX0:CXT:=fun _ _ _ _ _ _=>False
abbrev E0:XK:=fun _ _ _=>False
theorem DN{X:Cx}:mZ CX0 X E0:=fun _ _ _ _ _ _ _ h=>h.elim
structure Fun(K:o0) (x qual:Str) (st:ab0) (f:J8) (fd:S6):Prop where
 ex:∃(oc:u8) (od:Option J8) (kV doc pm:u8) (an:Option J8) (cdv ct:u8) (osl:Array (Option u8)),
  fd=X7 x qual (gG st) (dR st) (am st) .none kV doc pm an cdv ct/\K.lookup f=some ⟨oc,od,.func fd,osl⟩/\PySem.W.codeIn K cdv qual=true
 kp:V4 K (.ref f)=true
section
variable{P:L1}{w:O6}{K:o0}{mg:Str->Option u8}{base:L6}{f:J8}{fd:S6}
theorem Fun.ok{x qual:Str}{st:ab0}{f:J8}{fd:S6}{N ps:List Str}{k:Nat}{sp:Sp}(F:Fun K x qual st f fd) (S:ay N ps (am st)) (len:∀vs H Q E,sp vs H Q E->vs.length=ps.length)
  (hbody:∀ (cdv:u8) (A:N1) (outer:List Env) (s:J0) (H:Hp) (vs:List V) (Q:VK) (E:XK),cG k (A.deeper (ac8 qual (am st) s.heap.objs.size f cdv)) → sp vs H Q E →
   ∃t,PSs (ub CX0 P w K mg base N qual (am st) f cdv A outer s H E).nox (dR st) t/\t { nx:=fun _ H'=>Q .non H',rt:=Q } (aS N vs) H):bf P w K mg base CX0 (k+1) f fd ps sp:=by
 obtain⟨oc,od,kV,doc,pm,an,cdv,ct,osl,rfl,lk,hcd⟩:=F.ex;refine Hf lk hcd S len fun A outer s H vs Q E hr hsp=>?_;obtain⟨t,h,q⟩:=hbody cdv A outer s H vs Q E hr hsp;exact⟨t,h.nox,q⟩
theorem Fun.binds{x qual:Str}{st:ab0}{f:J8}{fd:S6}{ps:List Str}(F:Fun K x qual st f fd)
  (h:∀(kV doc pm:u8) (an:Option J8) (cdv ct:u8) (us:List u8),us.length=ps.length->bindArgs (X7 x qual (gG st) (dR st) (am st) .none kV doc pm an cdv ct) ⟨us,[]⟩=X9 (ps.zip us)):er K fd ps []:=by
 obtain⟨oc,od,kV,doc,pm,an,cdv,ct,osl,rfl,lk,hcd⟩:=F.ex;exact .all (h kV doc pm an cdv ct)
theorem zZ{x qual:Str}{st:ab0}{f:J8}{oc:u8}{od an:Option J8}{osl:Array (Option u8)}{kV doc pm cdv ct:u8}(l:K.lookup f=some ⟨oc,od,.func (X7 x qual (gG st) (dR st) (am st) .none kV doc pm an cdv ct),osl⟩)
  (c:PySem.W.codeIn K cdv qual=true) (k:V4 K (.ref f)=true):Fun K x qual st f (X7 x qual (gG st) (dR st) (am st) .none kV doc pm an cdv ct):=⟨⟨oc,od,kV,doc,pm,an,cdv,ct,osl,rfl,l,c⟩,k⟩
end
theorem xr{n:Nat}(h:n<=1000):n<J3:=Nat.lt_of_le_of_lt h (by decide)
theorem gf{c A B:Prop} [Decidable c] (h1:c->A) (h2:¬ c->B):if c then A else B:=by
 by_cases h:c
 ·rw[if_pos h];exact h1 h
 ·rw[if_neg h];exact h2 h
def xA(H H':Hp):Prop:=∀b o,H b=some o->H' b=some o
theorem xA.refl(H:Hp):xA H H:=fun _ _ h=>h
theorem xA.trans{H H1 H2:Hp}(a:xA H H1) (b:xA H1 H2):xA H H2:=fun c o h=>b c o (a c o h)
section
variable{κ:Type} [DecidableEq κ]
noncomputable def fY(kvs:List (κ×V)) (k:κ):Option V:=(kvs.find? fun kv=>decide (kv.1=k)).map (·.2)
noncomputable def dv(kvs:List (κ×V)) (k:κ) (v:V):List (κ×V) :=
 if(kvs.any fun kv=>decide (kv.1=k))=true then kvs.map (fun kv=>if kv.1=k then(kv.1,v)else kv)else kvs++[(k,v)]
noncomputable def IY(kvs:List (κ×V)) (k:κ):List (κ×V):=kvs.filter fun kv=>decide (kv.1≠k)
theorem kJ{p:κ×V}{r:List (κ×V)}{k:κ}(e:p.1=k):fY (p::r) k=some p.2:=by simp[fY,R5,e]
theorem kN{p:κ×V}{r:List (κ×V)}{k:κ}(e:¬ p.1=k):fY (p::r) k=fY r k:=by simp[fY,R5,e]
theorem tG(k:κ):∀kvs:List (κ×V),(kvs.any fun kv=>decide (kv.1=k))=(fY kvs k).isSome
 |[]=>rfl
 |p::r=>by
  rw[Q5]
  by_cases e:p.1=k
  ·simp only[kJ e,decide_eq_true e,Bool.true_or,Option.isSome_some]
  ·rw[kN e,decide_eq_false e,Bool.false_or];exact tG k r
theorem fW(kvs:List (κ×V)) (k:κ) (v:V):(dv kvs k v).length<=kvs.length+1:=by
 unfold dv
 split
 ·rw[U6];omega
 ·rw[O5,N5,W1];exact J6 _
theorem jt.isSome_eq{o:Option V}{u:Option u8}(r:jt o u):o.isSome=u.isSome:=by
 cases o with
 |none=>cases u with
  |none=>rfl
  |some _=>exact(show False from r).elim
 |some _=>cases u with
  |none=>exact(show False from r).elim
  |some _=>rfl
theorem jt.getD{o:Option V}{u:Option u8}{d:V}{d':u8}(r:jt o u) (rd:aI d d'):aI (o.getD d) (u.getD d'):=by
 cases o with
 |none=>cases u with
  |none=>exact rd
  |some _=>exact(show False from r).elim
 |some _=>cases u with
  |none=>exact(show False from r).elim
  |some _=>exact r
theorem KV.val{kvs:List (κ×V)}{vs:List (κ×u8)}(r:KV kvs vs) (k:κ):jt (fY kvs k) (ad2 vs k):=by
 unfold KV at r
 induction r with
 |nil=>exact U8
 |@cons p q ps qs h t ih =>
  obtain⟨h1,h2⟩:=h
  by_cases e:p.1=k
  ·have e':q.1=k:=h1.symm.trans e;have b:ad2 (q::qs) k=some q.2:=by simp[ad2,R5,e']
   rw[kJ e,b];exact h2
  ·have e':¬ q.1=k:=fun z=>e (h1.trans z);have b:ad2 (q::qs) k=ad2 qs k:=by simp[ad2,R5,e']
   rw[kN e,b];exact ih
theorem KV.any{kvs:List (κ×V)}{vs:List (κ×u8)}(r:KV kvs vs) (k:κ):(kvs.any fun kv=>decide (kv.1=k))=vs.any fun kv=>decide (kv.1=k):=by
 unfold KV at r
 induction r with
 |nil=>rfl
 |cons h t ih=>rw[Q5,Q5,ih,h.1]
theorem KV.repl{kvs:List (κ×V)}{vs:List (κ×u8)}(r:KV kvs vs) (k:κ) {y:V}{u:u8}(ry:aI y u) :
  KV (kvs.map fun kv=>if kv.1=k then(kv.1,y)else kv) (vs.map fun kv=>if kv.1=k then(kv.1,u)else kv):=by
 unfold KV at r ⊢
 induction r with
 |nil=>exact .nil
 |@cons p q ps qs h t ih =>
  rw[L7,L7];refine .cons ?_ ih;obtain⟨h1,h2⟩:=h
  by_cases e:p.1=k
  ·rw[if_pos e,if_pos (h1.symm.trans e)];exact⟨h1,ry⟩
  ·rw[if_neg e,if_neg (fun z=>e (h1.trans z))];exact⟨h1,h2⟩
theorem KV.put{kvs:List (κ×V)}{vs:List (κ×u8)}(r:KV kvs vs) (k:κ) {y:V}{u:u8}(ry:aI y u):KV (dv kvs k y) (stored vs k u):=by
 unfold dv stored;rw[r.any k]
 by_cases e:(vs.any fun kv=>decide (kv.1=k))=true
 ·rw[if_pos e,if_pos e];exact r.repl k ry
 ·rw[if_neg e,if_neg e];exact R1.snoc r ⟨rfl,ry⟩
theorem KV.keys{kvs:List (κ×V)}{vs:List (κ×u8)}(r:KV kvs vs):kvs.map (·.1)=vs.map (·.1):=by
 unfold KV at r
 induction r with
 |nil=>rfl
 |cons h t ih=>rw[L7,L7,ih,h.1]
theorem KV.length{kvs:List (κ×V)}{vs:List (κ×u8)}(r:KV kvs vs):kvs.length=vs.length:=Z1 r
end
theorem mi{P:L1}{w:O6}{k:Key}{u:u8}(r:aI (kV k) u):(aP P w).is k u=true:=by
 cases k with
 |inl i=>obtain⟨t,e⟩:=(show ∃t,u=ad5 i t from r);subst e;exact t5 P w i t
 |inr x=>obtain⟨t,e⟩:=(show ∃t,u=ad6 x t from r);subst e;exact tU P w x t
theorem ly{P:L1}{w:O6}:∀{ks:List Key}{us:List u8},az (ks.map kV) us->ItemsAre (aP P w) ks us
 |[],_,r=>by rw[List.map_nil]at r;cases r;exact .nil
 |k::ks,_,r=>by
  rw[L7]at r;cases r with
  |cons h t=>exact .cons (mi h) (ly t)
abbrev KT(H:Hp):List (List Key×V)->List (List Key×J8×u8)->Prop:=R1 fun p q=>p.1=q.1/\H q.2.1=some (.tup (p.1.map kV))/\aI p.2 q.2.2
theorem KT.val{H:Hp}{kvs:List (List Key×V)}{xs:List (List Key×J8×u8)}(r:KT H kvs xs) (k:List Key):jt (fY kvs k) ((atKey xs k).map (·.2)):=by
 induction r with
 |nil=>exact U8
 |@cons p q ps qs h t ih =>
  obtain⟨h1,_,h2⟩:=h
  by_cases e:p.1=k
  ·have e':q.1=k:=h1.symm.trans e;have b:atKey (q::qs) k=some q.2:=by simp[atKey,R5,e']
   rw[kJ e,b];exact h2
  ·have e':¬ q.1=k:=fun z=>e (h1.trans z);have b:atKey (q::qs) k=atKey qs k:=by simp[atKey,R5,e']
   rw[kN e,b];exact ih
theorem KT.repl{H:Hp}{kvs:List (List Key×V)}{xs:List (List Key×J8×u8)}(r:KT H kvs xs) (k:List Key) {y:V}{u:u8}(ry:aI y u) :
  KT H (kvs.map fun kv=>if kv.1=k then(kv.1,y)else kv) (xs.map (putAt k u)):=by
 induction r with
 |nil=>exact .nil
 |@cons p q ps qs h t ih =>
  rw[L7,L7];refine .cons ?_ ih;obtain⟨h1,h2,h3⟩:=h;unfold putAt
  by_cases e:p.1=k
  ·rw[if_pos e,if_pos (h1.symm.trans e)];exact⟨h1,h2,ry⟩
  ·rw[if_neg e,if_neg (fun z=>e (h1.trans z))];exact⟨h1,h2,h3⟩
theorem KT.put{H:Hp}{kvs:List (List Key×V)}{xs:List (List Key×J8×u8)}(r:KT H kvs xs) (k:List Key) {b:J8}{y:V}{u:u8}(hb:H b=some (.tup (k.map kV))) (ry:aI y u) :
  KT H (dv kvs k y) (storedH xs k b u):=by
 have e:(kvs.any fun kv=>decide (kv.1=k))=(atKey xs k).isSome:=by
  rw[tG,(r.val k).isSome_eq,Option.isSome_map]
 unfold dv storedH;rw[e]
 by_cases q:(atKey xs k).isSome=true
 ·rw[if_pos q,if_pos q];exact r.repl k ry
 ·rw[if_neg q,if_neg q];exact R1.snoc r ⟨rfl,hb,ry⟩
theorem KT.keeps{H H':Hp}{kvs:List (List Key×V)}{xs:List (List Key×J8×u8)}(r:KT H kvs xs) (ht:∀b ys,H b=some (.tup ys)->H' b=some (.tup ys)):KT H' kvs xs :=
 R1.mapP r fun _ _ z=>⟨z.1,ht _ _ z.2.1,z.2.2⟩
section
variable{P:L1}{w:O6}{H:Hp}{h:L6}{a:J8}
theorem Du{u:HO}(ok:HOk P w H h) (e:Rd H a u):cm P w H h a u:=e.ok ok
theorem m7{kvs:List (Key×V)}(ok:HOk P w H h) (e:Rd H a (.dK kvs)):kvs.length<=J3/\(a==S7)=false/\∃vs,KV kvs vs/\h.DictOf (aP P w) a vs :=
 show cm P w H h a (.dK kvs)from Du ok e
theorem ua{kvs:List (Key×V)}(ok:HOk P w H h) (e:H a=some (.dK kvs)):kvs.length<=J3/\(a==S7)=false/\∃vs,KV kvs vs/\h.DictOf (aP P w) a vs:=m7 ok (.inl e)
theorem iZ{ks:List Key}(ok:HOk P w H h) (e:H a=some (.tup (ks.map kV))):(ab1 (aP P w)).is h ks a:=by
 obtain⟨_,its,r,o,h1,h2,⟨n,h3⟩,_⟩:=(show cm P w H h a (.tup (ks.map kV))from ok a _ e);exact⟨o,its.toArray,n,h1,h2,h3,by simpa using ly r⟩
theorem ma{kvs:List (List Key×V)}(ok:HOk P w H h) (e:Rd H a (.dT kvs)):kvs.length<=J3/\(a==S7)=false /\
  ∃xs,KT H kvs xs/\h.DictOfH (ab1 (aP P w)) a xs:=by
 obtain⟨z,y,xs,r,o,es,ep,h1,h2,h3,h4,h5⟩:=(show cm P w H h a (.dT kvs)from Du ok e);refine⟨z,y,xs,r,o,es,ep,h1,h2,h3,h4,fun x hx=>?_,h5⟩;have all:∀{l:List (List Key×V)} {m:List (List Key×J8×u8)},KT H l m->∀x∈m,(ab1 (aP P w)).is h x.1 x.2.1:=by
  intro l m q
  induction q with
  |nil=>intro x hx;exact nomatch hx
  |@cons p q ps qs hq t ih =>
   intro x hx;rcases O7.mp hx with e|hx
   ·subst e;exact iZ ok (by rw[<-hq.1];exact hq.2.1)
   ·exact ih x hx
 exact all r x hx
theorem AN{kvs:List (List Key×V)}(ok:HOk P w H h) (e:H a=some (.dT kvs)):kvs.length<=J3/\(a==S7)=false /\
  ∃xs,KT H kvs xs/\h.DictOfH (ab1 (aP P w)) a xs:=ma ok (.inl e)
end
def i4(H:Hp) (a:J8) (y:V) (r:Option V):Prop :=
 (∃kvs k,Rd H a (.dK kvs)/\y=kV k/\r=fY kvs k)∨∃kvs k b,Rd H a (.dT kvs)/\y=.ref b/\H b=some (.tup (k.map kV))/\r=fY kvs k
def qv(H:Hp) (a:J8) (y v:V) (H':Hp):Prop :=
 (∃kvs k,H a=some (.dK kvs)/\y=kV k/\kvs.length<J3/\H'=upd H a (.dK (dv kvs k v))) ∨
 ∃kvs k b,H a=some (.dT kvs)/\y=.ref b/\H b=some (.tup (k.map kV))/\kvs.length<J3/\H'=upd H a (.dT (dv kvs k v))
theorem i4.k{H:Hp}{a:J8}{kvs:List (Key×V)}{k:Key}(e:H a=some (.dK kvs)):i4 H a (kV k) (fY kvs k):=.inl ⟨kvs,k,.inl e,rfl,rfl⟩
theorem i4.t{H:Hp}{a b:J8}{kvs:List (List Key×V)}{k:List Key}(e:H a=some (.dT kvs)) (eb:H b=some (.tup (k.map kV))):i4 H a (.ref b) (fY kvs k):=.inr ⟨kvs,k,b,.inl e,rfl,eb,rfl⟩
theorem qv.k{H:Hp}{a:J8}{kvs:List (Key×V)}{k:Key}{v:V}(e:H a=some (.dK kvs)) (hl:kvs.length<J3):qv H a (kV k) v (upd H a (.dK (dv kvs k v))):=.inl ⟨kvs,k,e,rfl,hl,rfl⟩
theorem qv.t{H:Hp}{a b:J8}{kvs:List (List Key×V)}{k:List Key}{v:V}(e:H a=some (.dT kvs)) (eb:H b=some (.tup (k.map kV))) (hl:kvs.length<J3) :
  qv H a (.ref b) v (upd H a (.dT (dv kvs k v))):=.inr ⟨kvs,k,b,e,rfl,eb,hl,rfl⟩
section
variable{X:Cx}{ae:List (J8×Obj)}{σ:St}{H:Hp}{s:J0}{a:J8}{y v:V}{u r:u8}{o:Option V}{A:N1}{E:u8->J0->Prop}
theorem Inv.big(I:Inv X ae σ H s):S7<s.heap.objs.size:=by
 have h:T3<s.heap.objs.size:=(I.mod.glob.keeps I.bk).lt;exact Nat.lt_trans (by decide) h
theorem uZ{Q:u8->J0->Prop}(hu:A.units+1<aa1) (I:Inv X ae σ H s) (g:i4 H a y (some v)) (ry:aI y u) (h:∀w' s',Inv X ae σ H s'->aI v w'->Q w' s') :
  K4 (K7 X.prog X.w) A (Z8 (.ref a) u) Q E s:=by
 rcases g with⟨kvs,k,e,ey,l⟩|⟨kvs,k,b,e,ey,eb,l⟩
 ·subst ey;obtain⟨z,hd,vs,rel,dd⟩:=m7 I.hok e;obtain⟨w',hw,rw'⟩:=jt.some_of (v:=v) (o:=ad2 vs k) (by rw[l];exact rel.val k);exact wpAny_getItem_of (mi ry) dd.mapOf hw (h w' _ (I.tok _) rw')
 ·subst ey;cases(show u=N3 b from ry);obtain⟨z,hd,xs,rel,dd⟩:=ma I.hok e;obtain⟨w',hw,rw'⟩:=jt.some_of (v:=v) (o:=(atKey xs k).map (·.2)) (by rw[l];exact rel.val k);obtain⟨p,hp,hp2⟩:=Option.map_eq_some_iff.mp hw;refine wpAny_getItem_heap (U3 hu) (iZ I.hok eb) dd hp ?_;rw[hp2];exact h w' _ (I.tok _) rw'
theorem Ho{Q:u8->J0->Prop}(hu:A.units+1<aa1) (I:Inv X ae σ H s) (g:i4 H a y o) (ry:aI y u) (h:∀s',Inv X ae σ H s'->Q (.bool o.isSome) s') :
  K4 (K7 X.prog X.w) A (L3 .In u (.ref a)) Q E s:=by
 rcases g with⟨kvs,k,e,ey,l⟩|⟨kvs,k,b,e,ey,eb,l⟩
 ·subst ey;obtain⟨z,hd,vs,rel,dd⟩:=m7 I.hok e;refine wpAny_in_of (mi ry) hd dd.mapOf ?_;rw[<-(rel.val k).isSome_eq,<-l];exact h _ (I.tok _)
 ·subst ey;cases(show u=N3 b from ry);obtain⟨z,hd,xs,rel,dd⟩:=ma I.hok e;refine wpAny_in_heap (U3 hu) (iZ I.hok eb) hd dd ?_;have q:=(rel.val k).isSome_eq;rw[Option.isSome_map]at q;rw[<-q,<-l];exact h _ (I.tok _)
theorem y0{Q:u8->J0->Prop}(hu:A.units+1<aa1) (I:Inv X ae σ H s) (g:i4 H a y o) (ry:aI y u) (h:∀s',Inv X ae σ H s'->Q (.bool (!o.isSome)) s') :
  K4 (K7 X.prog X.w) A (L3 .NotIn u (.ref a)) Q E s:=by
 rcases g with⟨kvs,k,e,ey,l⟩|⟨kvs,k,b,e,ey,eb,l⟩
 ·subst ey;obtain⟨z,hd,vs,rel,dd⟩:=m7 I.hok e;refine wpAny_notIn_of (mi ry) hd dd.mapOf ?_;rw[<-(rel.val k).isSome_eq,<-l];exact h _ (I.tok _)
 ·subst ey;cases(show u=N3 b from ry);obtain⟨z,hd,xs,rel,dd⟩:=ma I.hok e;refine wpAny_notIn_heap (U3 hu) (iZ I.hok eb) hd dd ?_;have q:=(rel.val k).isSome_eq;rw[Option.isSome_map]at q;rw[<-q,<-l];exact h _ (I.tok _)
theorem iC{h':L6}{t':Nat}{ob:HO}(I:Inv X ae σ H s) (mu:Mut (H a)) (hs:S1 a s.heap h') (he:∃q,h'.get? a=some q) (new:cm X.prog X.w (upd H a ob) h' a ob) :
  Inv X ae σ (upd H a ob) { s with heap:=h',toks:=t' } :=
 I.write (x:=a) (e:=a) mu (.inl rfl) (fun b q hb z=>(hs.2 b hb).trans z) he new
theorem zo{P:L1}{w:O6}{H':Hp}{h':L6}{kvs:List (Key×V)}{vs:List (Key×u8)}(z:kvs.length<=J3) (hd:(a==S7)=false) (rel:KV kvs vs) (dd:h'.DictOf (aP P w) a vs) :
  cm P w H' h' a (.dK kvs):=⟨z,hd,vs,rel,dd⟩
theorem vc{H':Hp}{Q:Unit->J0->Prop}(hu:A.units+1<aa1) (I:Inv X ae σ H s) (g:qv H a y v H') (ry:aI y u) (rv:aI v r) (h:∀s',Inv X ae σ H' s'->Q () s') :
  K4 (K7 X.prog X.w) A (setItem (.ref a) u r) Q E s:=by
 rcases g with⟨kvs,k,e,ey,l,eH⟩|⟨kvs,k,b,e,ey,eb,l,eH⟩
 ·subst ey eH;obtain⟨z,hd,vs,rel,dd⟩:=ua I.hok e;have hz:vs.length<=J3:=by rw[<-rel.length];exact z
  have hl:(dv kvs k v).length<=J3:=by have:=fW kvs k v;exact L5 (by assumption) (by assumption)
  refine wpAny_setItem_pairs (hsz:=hz) (mi ry) dd fun h' dd' hs=>h _ ?_;have he:∃q,h'.get? a=some q:=let⟨q,_,_,hq,_⟩:=dd';⟨q,hq⟩
  exact iC I (by rw[e];exact U8) hs he (zo hl hd (rel.put k rv) dd')
 ·subst ey eH;cases(show u=N3 b from ry);obtain⟨z,hd,xs,rel,dd⟩:=AN I.hok e;have hz:xs.length<=J3:=by rw[<-Z1 rel];exact z
  have hl:(dv kvs k v).length<=J3:=by have:=fW kvs k v;exact L5 (by assumption) (by assumption)
  refine wpAny_setItem_heap (hsz:=hz) (U3 hu) (iZ I.hok eb) dd fun h' dd' hs=>h _ ?_;obtain⟨q,es,ep,hq,h2,h3,h4,_,h5⟩:=dd';refine iC I (by rw[e];exact U8) hs ⟨q,hq⟩ ⟨hl,hd,_,(rel.put k eb rv).keeps fun c ys ec=>?_,q,es,ep,hq,h2,h3,h4,h5⟩;rw[aL (A5 ec e (fun z=>nomatch z))];exact ec
end
def tN(i:K5):Prop:=∀ov iv,ac4 i false ov iv=operate [ov,iv] (Z8 ov iv)
theorem vV{prog:L1}{w:O6}{A:N1}{E:u8->J0->Prop}{s:J0}{env:Env}{value slice:K5}{pos:Pos}{T id:String}{Q:u8->J0->Prop}
  (hl:typeLookup (.type T) "__getitem__"=X9 (some (.builtin id))) (hs:tN slice)
  (h:K4 (K7 prog w) A (V3 value env) (fun o s₁=>K4 (K7 prog w) A (V3 slice env) (fun i s₂=>s₂.TypeIs o T/\K4 (K7 prog w) A (Z8 o i) Q E s₂) E s₁) E s) :
  K4 (K7 prog w) A (V3 (.Subscript value slice pos) env) Q E s:=by
 refine ad0 (L8 h (fun o s₁ h₁=>L8 h₁ (fun i s₂ h₂=>?_) fun _ _ x=>x) fun _ _ x=>x);obtain⟨hT,h₂⟩:=h₂;unfold subscriptTail;refine I0 ?_;rw[getitemInPython_of_ne hT.not_modules];refine I0 (wpAny_specialOf hT hl ?_);have fin:K4 (K7 prog w) A (ac4 slice false o i) (fun r s₃=>K4 (K7 prog w) A (letTemporaryGo value o r >>= fun _=>X9 r) Q E s₃) E s₂:=by
  rw[hs o i];exact wpAny_operating (L8 h₂ (fun r s₃ h₃=>I0 (wpAny_letTemporaryGo (J5 h₃))) fun _ _ x=>x)
 first
  |exact J5 (I0 fin)
  |exact I0 (J5 (I0 fin))
  |exact I0 fin
theorem sC{X:Cx}{ae:List (J8×Obj)}{σ:St}{H:Hp}{s:J0}{a:J8}{y:V}{o:Option V}(I:Inv X ae σ H s) (g:i4 H a y o):s.TypeIs (.ref a) "dict":=by
 rcases g with⟨kvs,k,e,_,_⟩|⟨kvs,k,b,e,_,_,_⟩
 ·obtain⟨_,_,vs,_,dd⟩:=m7 I.hok e;exact dd.typeIs
 ·obtain⟨_,_,xs,_,dd⟩:=ma I.hok e;exact dd.typeIs
def G0(td ty:TE):TE:=fun σ H Q=>td σ H fun x H1=>ty σ H1 fun y H2=>∃a v,x=.ref a/\i4 H2 a y (some v)/\Q v H2
def Gu(ty td:TE):TE:=fun σ H Q=>ty σ H fun y H1=>td σ H1 fun x H2=>∃a o,x=.ref a/\i4 H2 a y o/\Q (.bl o.isSome) H2
def wH(ty td:TE):TE:=fun σ H Q=>ty σ H fun y H1=>td σ H1 fun x H2=>∃a o,x=.ref a/\i4 H2 a y o/\Q (.bl (!o.isSome)) H2
def GM(td ty tv:TE):TS:=fun D σ H=>tv σ H fun v H1=>td σ H1 fun x H2=>ty σ H2 fun y H3=>∃a H4,x=.ref a/\qv H3 a y v H4/\D.nx σ H4
section
variable{X:Cx}{o i e value:K5}{pos pos' tpos:Pos}{td ty tv:TE}
theorem qu(hu:X.A.units+1<aa1) (ho:PE X o td) (hi:PE X i ty) (hs:tN i):PE X (.Subscript o i pos) (G0 td ty):=by
 intro ae s σ H Q I h;refine vV PySem.F.slot_dict_getitem.lookup hs (thn (ho ae s σ H _ I h) fun u s1 hup=>hup.el fun x H1 I1 rx q1=>thn (hi ae s1 σ H1 _ I1 q1) fun iv s2 ⟨y,H2,I2,ry,a,v,ex,g,q2⟩=>?_);subst ex;obtain rfl:u=N3 a:=rx;exact⟨sC I2 g,uZ hu I2 g ry fun w' s3 I3 rw'=>⟨v,H2,I3,rw',q2⟩⟩
theorem E5(hu:X.A.units+1<aa1) (hi:PE X i ty) (ho:PE X o td):PC X .In i o (Gu ty td):=by
 intro ae s σ H Q I h;refine thn (hi ae s σ H _ I h) fun iv s1 hup=>hup.el fun y H1 I1 ry q1=>thn (ho ae s1 σ H1 _ I1 q1) fun u s2 ⟨x,H2,I2,rx,a,ov,ex,g,q2⟩=>?_;subst ex;obtain rfl:u=N3 a:=rx;exact Ho hu I2 g ry fun s3 I3=>⟨.bl ov.isSome,H2,I3,rfl,q2⟩
theorem xX(hu:X.A.units+1<aa1) (hi:PE X i ty) (ho:PE X o td):PC X .NotIn i o (wH ty td):=by
 intro ae s σ H Q I h;refine thn (hi ae s σ H _ I h) fun iv s1 hup=>hup.el fun y H1 I1 ry q1=>thn (ho ae s1 σ H1 _ I1 q1) fun u s2 ⟨x,H2,I2,rx,a,ov,ex,g,q2⟩=>?_;subst ex;obtain rfl:u=N3 a:=rx;exact y0 hu I2 g ry fun s3 I3=>⟨.bl (!ov.isSome),H2,I3,rfl,q2⟩
theorem rO(hu:X.A.units+1<aa1) (ho:PE X o td) (hi:PE X i ty) (hv:PE X value tv) (hs:Z5 value (some (.Subscript o i pos')) pos.line X.env=X9 false) :
  PS X (.Assign [.Subscript o i pos'] value pos) (GM td ty tv):=by
 intro ae s σ H D I h;refine wpAny_Assign_Subscript (thn (hv ae s σ H _ I h) fun r s1 hup=>hup.el fun v H1 I1 rv q1=>thn (ho ae s1 σ H1 _ I1 q1) fun u s2 hup=>hup.el fun x H2 I2 rx q2=>thn (hi ae s2 σ H2 _ I2 q2) fun iv s3 ⟨y,H3,I3,ry,a,H4,ex,g,q3⟩=>?_) hs;subst ex;obtain rfl:u=N3 a:=rx;exact vc hu I3 g ry rv fun s4 I4=>⟨σ,H4,I4,q3⟩
end
theorem sM{P:L1}{w:O6}{H:Hp}(h:L6) (hb:S7<h.objs.size):cm P w H (h.push { cls:=.type "dict",data:=.dict #[] }) h.objs.size (.dK []) :=
 ⟨S4 _,beq_eq_false_iff_ne.mpr (X0 (K3 hb)),[],.nil,L6.DictOf.new h⟩
theorem oy{P:L1}{w:O6}{H:Hp}(h:L6) (hb:S7<h.objs.size):cm P w H (h.push { cls:=.type "dict",data:=.dict #[] }) h.objs.size (.dT []) :=
 ⟨S4 _,beq_eq_false_iff_ne.mpr (X0 (K3 hb)),[],.nil,_,#[],0,J9 _ rfl,⟨rfl,rfl,rfl⟩,rfl,rfl,List.nodup_nil⟩
def FS:TE:=fun _ H Q=>∀p,H p=none->Q (.ref p) (upd H p (.dK []))
def Ey:TE:=fun _ H Q=>∀p,H p=none->Q (.ref p) (upd H p (.dT []))
section
variable{X:Cx}{pos:Pos}
theorem A0:PE X (.Dict [] [] pos) FS:=fun ae s σ H Q I h =>
 wpAny_Dict_empty ⟨.ref s.heap.objs.size,_,I.laid (a:=s.heap.objs.size) (o:=.dK []) (t':=s.toks) (fun _ _ q=>J1 _ q) (J6 _) (sM s.heap I.big),rfl,h _ (I.hok.fresh (J6 _))⟩
theorem BB:PE X (.Dict [] [] pos) Ey:=fun ae s σ H Q I h =>
 wpAny_Dict_empty ⟨.ref s.heap.objs.size,_,I.laid (a:=s.heap.objs.size) (o:=.dT []) (t':=s.toks) (fun _ _ q=>J1 _ q) (J6 _) (oy s.heap I.big),rfl,h _ (I.hok.fresh (J6 _))⟩
end
def ut:List (TE×TE)->St->Hp->(List (V×V)->Hp->Prop)->Prop
 |[],_,H,Q=>Q [] H
 |(tk,tv)::r,σ,H,Q=>tk σ H fun x H1=>tv σ H1 fun y H2=>ut r σ H2 fun ps H3=>Q ((x,y)::ps) H3
abbrev VV:List (V×V)->List (u8×u8)->Prop:=R1 fun p q=>aI p.1 q.1/\aI p.2 q.2
def PPs(X:Cx) (pos:Pos) (keys:List (Option K5)) (values:List K5) (trs:List (TE×TE)):Prop :=
 ∀(ae:List (J8×Obj)) (s:J0) (σ:St) (H:Hp) (Q:List (V×V)->Hp->Prop),Inv X ae σ H s->ut trs σ H Q ->
  K4 (K7 X.prog X.w) X.A (evalPairs (pairTrees keys values X.env pos)) (fun vs s'=>∃ps H',Inv X ae σ H' s'/\VV ps vs/\Q ps H') X.xe s
theorem De{X:Cx}{pos:Pos}:PPs X pos [] [] []:=fun ae s σ H Q I h=>pairTrees_nil_walk ⟨[],H,I,.nil,h⟩
theorem Bf{X:Cx}{pos:Pos}{k v:K5}{ks:List (Option K5)}{vs:List K5}{tk tv:TE}{trs:List (TE×TE)}(hk:PE X k tk) (hv:PE X v tv) (hr:PPs X pos ks vs trs) :
  PPs X pos (some k::ks) (v::vs) ((tk,tv)::trs):=fun ae s σ H Q I h =>
 pairTrees_cons_walk (thn (hk ae s σ H _ I h) fun u s1 hup=>hup.el fun x H1 I1 rx q1=>thn (hv ae s1 σ H1 _ I1 q1) fun w2 s2 hup=>hup.el fun y H2 I2 ry q2 =>
  thn (hr ae s2 σ H2 _ I2 q2) fun ws s3 ⟨ps,H3,I3,rel,q3⟩=>⟨(x,y)::ps,H3,I3,.cons ⟨rx,ry⟩ rel,q3⟩)
def ke(kvs more:List (Key×V)):List (Key×V):=more.foldl (fun acc kv=>dv acc kv.1 kv.2) kvs
theorem KV.merge:∀{more:List (Key×V)}{rs:List (Key×u8)}{kvs:List (Key×V)}{vs:List (Key×u8)},KV more rs->KV kvs vs->KV (ke kvs more) (merged vs rs):=by
 intro more rs kvs vs r;unfold KV at r
 induction r generalizing kvs vs with
 |nil=>intro q;exact q
 |@cons p q ps qs h t ih =>
  intro r0;have e:KV (dv kvs p.1 p.2) (stored vs q.1 q.2):=by
   have:=r0.put p.1 h.2;rw[<-h.1];exact this
  exact ih e
theorem jw:∀(more kvs:List (Key×V)),(ke kvs more).length<=kvs.length+more.length
 |[],kvs=>by show kvs.length<=kvs.length+0;exact J6 _
 |p::r,kvs=>by
  have h1:=jw r (dv kvs p.1 p.2);have h2:=fW kvs p.1 p.2;show(ke (dv kvs p.1 p.2) r).length<=_;rw[N5];omega
theorem oB{P:L1}{w:O6}:∀{kvs:List (Key×V)}{ws:List (u8×u8)},VV (kvs.map fun kv=>(kV kv.1,kv.2)) ws->∃rs,Carries (aP P w) ws rs/\KV kvs rs
 |[],_,r=>by rw[List.map_nil]at r;cases r;exact⟨[],U8,.nil⟩
 |p::kvs,_,r=>by
  rw[L7]at r;cases r with
  |@cons a b as bs h t =>
   obtain⟨rs,c,q⟩:=oB (P:=P) (w:=w) t;obtain⟨b1,b2⟩:=b;exact⟨(p.1,b2)::rs,⟨mi h.1,rfl,c⟩,.cons ⟨rfl,h.2⟩ q⟩
def Hd(trs:List (TE×TE)):TE:=fun σ H Q=>∀p,H p=none->ut trs σ (upd H p (.dK [])) fun ps H2=>H2 p=some (.dK [])/\∃kvs:List (Key×V),ps=kvs.map (fun kv=>(kV kv.1,kv.2))/\kvs.length<=15/\Q (.ref p) (upd H2 p (.dK (ke [] kvs)))
theorem BD{X:Cx}{pos:Pos}{keys:List (Option K5)}{values:List K5}{trs:List (TE×TE)}(h:PPs X pos keys values trs) (hall:keys.all (·.isSome)=true) (hl:keys.length=values.length) (h0:keys≠[])
  (h15:keys.length<=15):PE X (.Dict keys values pos) (Hd trs):=by
 intro ae s σ H Q I q;have hn:=I.hok.fresh (J6 s.heap.objs.size);have I1:=I.laid (a:=s.heap.objs.size) (o:=.dK []) (h':=s.heap.push { cls:=.type "dict",data:=.dict #[] }) (t':=s.toks) (fun _ _ q=>J1 _ q) (J6 _) (sM s.heap I.big);refine wpAny_Dict_walk (knd:=aP X.prog X.w) hall hl h0 h15 (thn (h ae _ σ _ _ I1 (q _ hn)) fun ws s2 ⟨ps,H2,I2,rel,e,kvs,ep,lk,q2⟩=>?_);subst ep;obtain⟨rs,c,rk⟩:=oB (P:=X.prog) (w:=X.w) rel;obtain⟨z,hd,vs0,r0,dd⟩:=ua I2.hok e;cases r0;refine⟨rs,c,dd,fun h' dd' hs=>⟨.ref s.heap.objs.size,_,?_,rfl,q2⟩⟩;have hz:(ke [] kvs).length<=J3:=by
  have h1:=jw kvs [];rw[W1]at h1;rw[aa7];omega
 have he:∃q,h'.get? s.heap.objs.size=some q:=let⟨q,_,_,hq,_⟩:=dd';⟨q,hq⟩
 exact iC I2 (by rw[e];exact U8) hs he (zo hz hd (rk.merge .nil) dd')
structure M1(X:Cx) (o:K5) (m:Str) (cc:Pos) (e:K5) (bv:Pos):Prop where
 base:U9 o m X.env (V3 o X.env)=V3 o X.env
 few:((V8 bv (K2 [e] X.env)).all (fun x=>!x.1)&&(backToKw bv (ac5 [] X.env)).all (fun x=>x.1.isSome)
 &&decide (([e]:List K5).length+([]:List ab5).length+(if([]:List ab5).isEmpty then 0 else 1)<30))=true
 line:(cc.endLine==bv.line)=true
 trees:V8 bv (K2 [e] X.env)=[(false,V3 e X.env)]
structure M2(X:Cx) (o:K5) (m:Str) (cc:Pos) (e f:K5) (bv:Pos):Prop where
 base:U9 o m X.env (V3 o X.env)=V3 o X.env
 few:((V8 bv (K2 [e,f] X.env)).all (fun x=>!x.1)&&(backToKw bv (ac5 [] X.env)).all (fun x=>x.1.isSome)
 &&decide (([e,f]:List K5).length+([]:List ab5).length+(if([]:List ab5).isEmpty then 0 else 1)<30))=true
 line:(cc.endLine==bv.line)=true
 trees:V8 bv (K2 [e,f] X.env)=[(false,V3 e X.env),(false,V3 f X.env)]
def IsD(H:Hp) (a:J8):Prop:=(∃kvs,Rd H a (.dK kvs))∨∃kvs,Rd H a (.dT kvs)
theorem vb{X:Cx}{ae:List (J8×Obj)}{σ:St}{H:Hp}{s:J0}{a:J8}(I:Inv X ae σ H s) (d:IsD H a) :
  s.TypeIs (.ref a) "dict"/\(∀b,N3 a=.ref b->∃ob,s.heap.get? b=some ob/\ob.dict=none)/\(a==S7)=false:=by
 rcases d with⟨kvs,e⟩|⟨kvs,e⟩
 ·obtain⟨_,hd,vs,_,dd⟩:=m7 I.hok e;refine⟨dd.typeIs,fun b q=>?_,hd⟩;cases q;obtain⟨ob,_,_,h1,h2,_⟩:=dd;exact⟨ob,h1,h2.2.1⟩
 ·obtain⟨_,hd,xs,_,dd⟩:=ma I.hok e;refine⟨dd.typeIs,fun b q=>?_,hd⟩;cases q;obtain⟨ob,_,_,h1,h2,_⟩:=dd;exact⟨ob,h1,h2.2.1⟩
section
variable{X:Cx}{ae:List (J8×Obj)}{σ:St}{H:Hp}{s:J0}{a:J8}{y d:V}{u r:u8}{o:Option V}{A:N1}{E:u8->J0->Prop}
theorem Da{Q:u8->J0->Prop}(hu:A.units+1<aa1) (I:Inv X ae σ H s) (g:i4 H a y o) (ry:aI y u) (rd:aI d r) (h:∀w' s',Inv X ae σ H s'->aI (o.getD d) w'->Q w' s') :
  K4 (K7 X.prog X.w) A (call (.builtin "dict.get") [.ref a,u,r]) Q E s:=by
 rcases g with⟨kvs,k,e,ey,l⟩|⟨kvs,k,b,e,ey,eb,l⟩
 ·subst ey;obtain⟨z,hd,vs,rel,dd⟩:=m7 I.hok e;refine call_meetsIn PySem.F.slot_dict_get dd.typeIs PySem.F.entry_dict_get (PySem.F.args_dict_get_3 _ _ _) (meets_dict_get_default (aP X.prog X.w) a (mi ry) hd r) ⟨_,dd.mapOf,h _ _ (I.tok _) ?_⟩;rw[l];exact(rel.val k).getD rd
 ·subst ey;cases(show u=N3 b from ry);obtain⟨z,hd,xs,rel,dd⟩:=ma I.hok e;refine call_meetsIn PySem.F.slot_dict_get dd.typeIs PySem.F.entry_dict_get (PySem.F.args_dict_get_3 _ _ _) (meetsH_dict_get_default (ab1 (aP X.prog X.w)) a b hd r) ⟨U3 hu,k,xs,iZ I.hok eb,dd,h _ _ (I.tok _) ?_⟩;rw[l];exact(rel.val k).getD rd
end
def Ef(td ty tx:TE):TE:=fun σ H Q=>td σ H fun x H1=>∃a,x=.ref a/\IsD H1 a/\ty σ H1 fun y H2=>tx σ H2 fun z H3=>∃o,i4 H3 a y o/\Q (o.getD z) H3
section
variable{X:Cx}{o e f:K5}{cc bv:Pos}{td ty tx:TE}
theorem sd(hu:X.A.units+1<aa1) (ho:PE X o td) (he:PE X e ty) (hf:PE X f tx) (m:M2 X o "get" cc e f bv):PE X (.Call (.Attribute o "get" cc) [e,f] [] bv) (Ef td ty tx):=by
 intro ae s σ H Q I h;refine wpAny_Call_method m.base m.few m.line PySem.F.plainAttrs_dict PySem.F.slot_dict_get PySem.F.type_dict_get (thn (ho ae s σ H _ I h) fun u s1 ⟨x,H1,I1,rx,a,ex,d,q1⟩=>?_);subst ex;obtain rfl:u=N3 a:=rx;obtain⟨t1,t2,_⟩:=vb I1 d;refine⟨t1,t2,?_⟩;rw[m.trees];refine Calls.callWith_builtin rfl (Calls.evalArgs_plain (Calls.spliced_cons (thn (he ae s1 σ H1 _ I1 q1) fun iv s2 hup=>hup.el fun y H2 I2 ry q2 =>
  Calls.spliced_cons (thn (hf ae s2 σ H2 _ I2 q2) fun fv s3 ⟨z,H3,I3,rz,ov,g,q3⟩=>Calls.spliced_nil ?_))))
 exact Da hu I3 g ry rz fun w' s4 I4 rw'=>⟨_,H3,I4,rw',q3⟩
end
noncomputable def aA(X:Cx) (scope:V6) (cl:List (Str×J8)) (N:List Str) (C:J8) (s:J0) (H:Hp) (ex:List J8):Cx where
 prog:=X.prog
 w:=X.w
 K:=X.K
 mg:=X.mg
 base:=X.base
 A:=X.A
 N:=N
 s₀:=s
 H₀:=H
 env:=compEnvC scope cl C X.env
 outer:=X.stack
 stack:=X.stack
 ex:=ex
 calm:=X.calm
 fn:=fun _=>false
 pn:=[]
 xe:=fun _ _=>False
noncomputable def cg:List Bool->St->St
 |true::ms,v::σ=>v::cg ms σ
 |false::ms,_::σ=>none::cg ms σ
 |[],_::σ=>none::cg [] σ
 |_,[]=>[]
theorem cj:∀(ms:List Bool) (σ:St),(cg ms σ).length=σ.length
 |true::ms,v::σ=>by simp[cg,cj ms σ]
 |false::ms,_::σ=>by simp[cg,cj ms σ]
 |[],_::σ=>by simp[cg,cj [] σ]
 |[],[]=>by simp[cg]
 |true::_,[]=>by simp[cg]
 |false::_,[]=>by simp[cg]
theorem jj:∀{ms:List Bool}{σ:St}{i:Nat}{v:V},(cg ms σ)[i]?=some (some v)->ms[i]?=some true/\σ[i]?=some (some v)
 |true::ms,v::σ,0,x,h=>by simpa[cg]using h
 |true::ms,v::σ,i+1,x,h=>by
  have:=jj (ms:=ms) (σ:=σ) (i:=i) (v:=x) (by simpa[cg]using h);simpa using this
 |false::ms,_::σ,0,x,h=>by simp[cg]at h
 |false::ms,_::σ,i+1,x,h=>by
  have:=jj (ms:=ms) (σ:=σ) (i:=i) (v:=x) (by simpa[cg]using h);simpa using this
 |[],_::σ,0,x,h=>by simp[cg]at h
 |[],_::σ,i+1,x,h=>by
  have:=jj (ms:=[]) (σ:=σ) (i:=i) (v:=x) (by simpa[cg]using h);simpa using this
 |[],[],_,_,h=>by simp[cg]at h
 |true::_,[],_,_,h=>by simp[cg]at h
 |false::_,[],_,_,h=>by simp[cg]at h
def gh(ms:List Bool) (k:Nat) (σ:St):St:=cg ms σ++K1 k none
theorem yi{ms:List Bool}{k:Nat}{σ:St}{i:Nat}{v:V}(h:(gh ms k σ)[i]?=some (some v)):i<σ.length/\ms[i]?=some true/\σ[i]?=some (some v):=by
 unfold gh at h
 by_cases hi:i<(cg ms σ).length
 ·rw[N7 hi]at h;exact⟨by rwa [cj]at hi,jj h⟩
 ·rw[R7 (by omega),T8]at h
  split at h<;>cases h
structure dN(X:Cx) (scope:V6) (cl:List (Str×J8)) (ms:List Bool) (ar:List Str):Prop where
 kind:scope.kind=.function
 ncell:∀y∈scope.names,y.2≠.cell
 names:∀y∈scope.names,y.2=.local->scope.names.lookup y.1=some .local
 clos:closureFor scope X.env=X9 cl
 sub:∀x c,cl.lookup x=some c->X.env.cells.lookup x=some c
 has:∀x,scope.names.lookup x=some .free->∃c,cl.lookup x=some c
 fr:∀x,scope.names.lookup x=some .free->X.env.scope.names.lookup x=some .cell∨X.env.scope.names.lookup x=some .free
 mask:∀(i:Nat) (x:Str),ms[i]?=some true->X.N[i]?=some x->scope.names.lookup x=some .free
 mlen:ms.length<=X.N.length
theorem kQ{env:Env}:∀{names:List (Str×O0)}{x:Str}{k:O0},
  (names.map fun(n,k)=>if(k==Q6&&env.scope.kind==.function&&env.kindOf n==some .cell)then(n,W7)else(n,k)).lookup x=some k->(∀y∈names,y.2≠.cell)->k=.cell∨k=.free->names.lookup x=some .free
 |[],_,_,h,_,_=>by simp at h
 |(n,k0)::r,x,k,h,hc,hk=>by
  have ih:=@kQ env r x k;have h:T7 x ((if(k0==Q6&&env.scope.kind==.function&&env.kindOf n==some .cell)=true then(n,W7)else(n,k0))::_)=some k:=h;cases hx:x==n with
  |true =>
   by_cases hq:(k0==Q6&&env.scope.kind==.function&&env.kindOf n==some .cell)=true
   ·have:k0=.free:=by
     simp at hq;exact hq.1.1
    subst this;simp[O2,hx]
   ·rw[if_neg hq]at h;simp only[O2,hx]at h;cases h;rcases hk with rfl|rfl
    ·exact absurd rfl (hc (n,.cell) P4)
    ·simp[O2,hx]
  |false =>
   by_cases hq:(k0==Q6&&env.scope.kind==.function&&env.kindOf n==some .cell)=true
   ·rw[if_pos hq]at h;simp only[O2,hx]at h ⊢;exact ih h (fun y hy=>hc y (L9 _ hy)) hk
   ·rw[if_neg hq]at h;simp only[O2,hx]at h ⊢;exact ih h (fun y hy=>hc y (L9 _ hy)) hk
theorem k7{env:Env}:∀{names:List (Str×O0)}{x:Str},names.lookup x=some .free ->
  (names.map fun(n,k)=>if(k==Q6&&env.scope.kind==.function&&env.kindOf n==some .cell)then(n,W7)else(n,k)).lookup x=some .cell ∨
  (names.map fun(n,k)=>if(k==Q6&&env.scope.kind==.function&&env.kindOf n==some .cell)then(n,W7)else(n,k)).lookup x=some .free
 |[],_,h=>by simp at h
 |(n,k0)::r,x,h=>by
  have ih:=@k7 env r x;show T7 x ((if(k0==Q6&&env.scope.kind==.function&&env.kindOf n==some .cell)=true then(n,W7)else(n,k0))::_)=_∨T7 x ((if(k0==Q6&&env.scope.kind==.function&&env.kindOf n==some .cell)=true then(n,W7)else(n,k0))::_)=_;cases hx:x==n with
  |true =>
   simp only[O2,hx]at h;cases h
   split
   ·left;simp[O2,hx]
   ·right;simp[O2,hx]
  |false =>
   simp only[O2,hx]at h
   split<;>(simp only[O2,hx];exact ih h)
section
variable{X:Cx}{ae:List (J8×Obj)}{σ:St}{H H2:Hp}{s s2:J0}{scope:V6}{cl:List (Str×J8)}{ms:List Bool}{ar:List Str}
theorem uY(I:Inv X ae σ H s) (S:dN X scope cl ms ar) {fp:List J8}(hfp:∀b∈fp,du X ae H b) (hlt:∀b∈fp,b<s.heap.objs.size) {C:J8}(hC:s.heap.objs.size<=C) :
  (aA X scope cl (X.N++ar) C s H fp).Ok where
 mod:=I.ok.mod
 kind:=S.kind
 glob:=I.ok.glob
 blt:=I.ok.blt
 above:=hC
 inj:=fun x y c h1 h2=>I.ok.inj x y c (S.sub x c h1) (S.sub y c h2)
 has:=fun x hx=>S.has x (kQ (env:=X.env) (k:=if(aA X scope cl (X.N++ar) C s H fp).env.kindOf x=some .cell then .cell else .free) (by
  rcases hx with hx|hx
  ·rw[if_pos hx];exact hx
  ·rw[if_neg (by rw[hx];decide)];exact hx) S.ncell (by split<;>simp))
 cab:=fun x c h=>by cases h
 hd:=I.ok.hd
 frames:=I.ok.frames
 stk:=.inl rfl
 exf:=fun b hb=>⟨K3 (K6 (hlt b hb) hC),fun x c e=>(hfp b hb).2.2.2.2.1 x c (S.sub x c e)⟩
 bs:=I.bs
 bsz:=L5 I.ok.bsz I.sz
 noex:=fun b o e hb=>by
  rcases(hfp b hb).2.2.2.1 with z|z
  ·exact I.ok.noex b o e z
  ·exact absurd (K6 (J7 e) (L5 I.ok.bsz z)) (T1 _)
 exfs:=fun b hb z=>by
  rcases O7.mp (I.stkSub b z)with e|e
  ·exact(hfp b hb).2.1 e
  ·exact(hfp b hb).2.2.1 e
 funs:=I.stack
 frf:=I.stkFree
theorem wz(I:Inv X ae σ H s) (S:dN X scope cl ms ar) {fp:List J8}(hfp:∀b∈fp,du X ae H b) (hlt:∀b∈fp,b<s.heap.objs.size) {C:J8}(hC:s.heap.objs.size<=C)
  (os:s2.os=s.os) (bare:aa6 s2.gens) (keep:∀b o,s.heap.get? b=some o->s2.heap.get? b=some o) {m:Str->Option u8} (hn:s2.heap.Ns C m) :
  Inv (aA X scope cl (X.N++ar) C s H fp) [] (gh ms ar.length σ) H s2 where
 ok:=uY I S hfp hlt hC
 os:=os
 bare:=bare
 base:=Un.kept keep
 loc:=⟨m,hn,fun i x v h1 h2 h3=>by
  obtain⟨hi,hm,hv⟩:=yi h2;have hiN:i<X.N.length:=by rw[<-I.len];exact hi
  have hx:X.N[i]?=some x:=by
   have h1':(X.N++ar)[i]?=some x:=h1
   rwa [N7 hiN]at h1'
  have hf:=S.mask i x hm hx;obtain⟨m0,hn0,hl⟩:=I.loc;obtain⟨u,r,l⟩:=hl i x v hx hv (by rcases S.fr x hf with z|z<;>simp[Vis,z]);refine⟨u,r,.inr ⟨?_,?_⟩⟩
  ·exact k7 (env:=X.env) hf
  ·obtain⟨c,hc⟩:=S.has x hf;have hc':=S.sub x c hc;rcases l with⟨k,_⟩|⟨_,c',e,z⟩
   ·rcases S.fr x hf with z|z<;>(have k':X.env.scope.names.lookup x=some .local:=k;rw[z]at k';cases k')
   ·rw[hc']at e;cases e;obtain⟨o,ho,hd⟩:=z;exact⟨c,hc,o,keep _ _ ho,hd⟩⟩
 cell:=fun x c e=>by
  obtain⟨v,o,ho,hd⟩:=I.cell x c (S.sub x c e);exact⟨v,o,keep _ _ ho,hd⟩
 free:=I.hok.fresh hC
 freeC:=fun x c e=>I.freeC x c (S.sub x c e)
 pin:=fun p hp=>absurd (show p∈([]:List (J8×Obj))from hp) (by simp)
 hok:=I.hok.kept keep
 len:=by
  unfold gh;rw[O5,cj,List.length_replicate,I.len];show _=(X.N++ar).length;rw[O5]
end
def PIf(X:Cx) (ifs:List K5) (t:TT):Prop :=
 ∀(ae:List (J8×Obj)) (s:J0) (σ:St) (H:Hp) (Q:Bool->Hp->Prop),Inv X ae σ H s->t σ H Q ->
  K4 (K7 X.prog X.w) X.A (forIn ifs true fun c r=>if r=true then do let ok <-isTrue c X.env (V3 c X.env);X9 (P5 ok)else X9 (P5 r)) (TP X ae σ Q) X.xe s
def IV:TT:=fun _ H Q=>Q true H
theorem BO{X:Cx}:PIf X [] IV:=fun _ _ _ H _ I h=>wpAny_tests_nil ⟨H,I,h⟩
theorem Cn{X:Cx}{c:K5}{t:TT}(h:PT X c t):PIf X [c] t:=fun ae s σ H Q I q=>wpAny_tests_one (h ae s σ H Q I q)
noncomputable abbrev gz(its:List u8) (n:Nat):Obj:={ cls:=.type "list",data:=.seq its.toArray n }
theorem thF{α:Type}{t:Sem α}{Q Q':α->J0->Prop}{M:Model}{A:N1}{E:u8->J0->Prop}{s:J0}(hE:E=fun _ _=>False) (h:K4 M A t Q E s) (hQ:∀a s,Q a s->Q' a s):K4 M A t Q' (fun _ _=>False) s:=L8 h hQ fun e s x=>by rw[hE]at x;exact x
abbrev lcE(el:K5) (gs:List Z3) (sc:V6) (ps:Pos):K5:=.ListComp el gs sc ps
section
variable{prog:L1}{w:O6}{A:N1}{R:ae2->J0->Prop}{s:J0}{el tg elt i:K5}{fs:List K5}{k:Nat}{p:Pos}{it acc:u8}{env:Env}{gs:List Z3}{sc:V6}{ps:Pos}
abbrev AWt:=(J0->Prop)->J0->Prop
def wm(prog:L1) (w:O6) (A:N1) (elt:K5) (acc:u8) (env:Env):AWt:=fun Ok s=>K4 (K7 prog w) A (V3 elt env) (fun x s₄=>K4 (K7 prog w) A (call (.builtin "list.append") [acc,x]) (fun _ s₅=>Ok s₅) (fun _ _=>False) s₄) (fun _ _=>False) s
def Au(prog:L1) (w:O6) (A:N1) (ce:K5) (k:Nat) (i:K5) (acc:u8) (env:Env):AWt:=fun Ok s=>K4 (K7 prog w) A (V3 i env) (fun x s₄=>K4 (K7 prog w) A (ad3 x) (fun it2 s₅ =>
 V2 (K7 prog w) A (.compStart ce k it2 acc env) (fun r s₆=>(∃f,r=.ok f)/\Ok s₆) s₅) (fun _ _=>False) s₄) (fun _ _=>False) s
def Co(ce:K5) (k:Nat) (p:Pos) (tg:K5) (fs:List K5) (bd:u8->u8->Env->Sem Fin):Prop:=∀it acc env,compTurn ce k it acc env=(do
  ac3 p
  let r <-pyNext it
  match r with
   |none=>X9 (Fin.done Flow.next)
   |some v=>do
    U5 tg it v
    Z6 tg env v
    let ok <-forIn fs true fun c r=>if r=true then do let ok <-PySem.isTrue c env (V3 c env);X9 (P5 ok)else X9 (P5 r)
    if ok=true then bd it acc env else again (V0 ce k it acc env))
def BU(prog:L1) (w:O6) (A:N1) (ce:K5) (k:Nat) (bd:u8->u8->Env->Sem Fin) (it acc:u8) (env:Env) (AW:AWt):Prop :=
 ∀Ok s (R:ae2->J0->Prop) (E:u8->J0->Prop),AW Ok s->K4 (K7 prog w) A (bd it acc env) (fun fin s'=>match fin with|.done f=>R (.ok f) s'|.again c'=>c'=V0 ce k it acc env/\Ok s') E s
theorem oP{bd:u8->u8->Env->Sem Fin}{AW:AWt}(hT:Co (lcE el gs sc ps) k p tg fs bd) (hq:(V0 (lcE el gs sc ps) k it acc env).quiet=true:=by rfl) (hb:BU prog w A (lcE el gs sc ps) k bd it acc env AW) (I:Nat->J0->Prop)
  (turn:∀ n s,I n s → K4 (K7 prog w) A (pyNext it) (fun r s₁ => match r with
   |none=>R (.ok .next) s₁
   | some v => K4 (K7 prog w) A (U5 tg it v) (fun _ s₁ => K4 (K7 prog w) A (Z6 tg env v) (fun _ s₂ =>
     K4 (K7 prog w) A (forIn fs true fun c r=>if r=true then do let ok <-isTrue c env (V3 c env);X9 (P5 ok)else X9 (P5 r)) (fun ok s₃ =>
      if ok=true then AW (fun s₅=>∃m,m<n/\I m s₅) s₃
      else ∃m,m<n/\I m s₃) (fun _ _=>False) s₂) (fun _ _=>False) s₁) (fun _ _=>False) s₁) (fun _ _=>False) s)
  (n:Nat) (h:I n s) :
  V2 (K7 prog w) A (.compLoop (lcE el gs sc ps) k it acc env) R s:=by
 refine codeAny_loop hq I (fun n s hI=>?_) n h;show K4 _ A ((compTurn (lcE el gs sc ps) k it acc env).onRaise (fun x=>do noteFrame x env;theTreesLotGoes x)) _ _ s;refine wpAny_noted ?_;rw[hT];refine I0 (U7 (I0 (L8 (turn n s hI) (fun r s₁ h₁=>?_) fun _ _ h'=>h'.elim)));cases r with
 |none=>exact J5 h₁
 |some v =>
  refine I0 (L8 h₁ (fun _ s1 h₁=>?_) fun _ _ h'=>h'.elim);refine I0 (L8 h₁ (fun _ s₂ h₂=>I0 (L8 h₂ (fun ok s₃ h₃=>?_) fun _ _ h'=>h'.elim)) fun _ _ h'=>h'.elim);cases ok with
  |false=>exact J5 ⟨rfl,h₃⟩
  |true=>exact hb _ _ _ _ h₃
noncomputable def D0(ce:K5) (k:Nat) (elt:K5):u8->u8->Env->Sem Fin:=fun it acc env=>bind (bind (V3 elt env) fun x=>bind (call (u8.builtin "list.append") [acc,x]) fun _=>X9 ()) fun(_:Unit)=>again (V0 ce k it acc env)
noncomputable def DV(ce:K5) (k:Nat) (i:K5):u8->u8->Env->Sem Fin:=fun it acc env=>do
 let x <-V3 i env
 ac3 i.pos
 let x <-O8 i env x
 let it2 <-ab3 [x] (ad3 x)
 let _ <-runOwn (Code.compStart ce (k+1) it2 acc env) env
 again (V0 ce k it acc env)
theorem Dp:BU prog w A (lcE el gs sc ps) k (D0 (lcE el gs sc ps) k elt) it acc env (wm prog w A elt acc env):=fun Ok s R E h =>
 I0 (I0 (L8 h (fun x s₄ h₄=>I0 (L8 h₄ (fun _ s₅ h₅=>J5 (J5 ⟨rfl,h₅⟩)) fun _ _ h'=>h'.elim)) fun _ _ h'=>h'.elim))
theorem CW(hs:∀x,O8 i env x=X9 x):BU prog w A (lcE el gs sc ps) k (DV (lcE el gs sc ps) k i) it acc env (Au prog w A (lcE el gs sc ps) (k+1) i acc env):=fun Ok s R E h=>by
 refine I0 (L8 h (fun x s₄ h₄=>I0 (U7 ?_)) fun _ _ h'=>h'.elim);rw[hs x];refine I0 (J5 (I0 (S2 (L8 h₄ (fun it2 s₅ h₅=>?_) fun _ _ h'=>h'.elim))));refine I0 (wpAny_runOwn (X6 h₅ fun r s₆ h₆=>?_));obtain⟨⟨f,rfl⟩,h₆⟩:=h₆;exact J5 ⟨rfl,h₆⟩
def zV(ce:K5) (k:Nat) (p:Pos):Prop:=∀it acc env,compStart ce k it acc env=(do
  let r <-ask
  if r.params.followText "comprehension-iter-twice"=true then again (V0 ce k it acc env)
   else do
    rule "comprehension.iter-twice"
    ac3 p
    let i <-ad3 it
    again (V0 ce k i acc env))
theorem nT(hS:zV (lcE el gs sc ps) k p) (h:V2 (K7 prog w) A (.compLoop (lcE el gs sc ps) k it acc env) R s)
  (h2:K4 (K7 prog w) A (ad3 it) (fun it' s'=>V2 (K7 prog w) A (.compLoop (lcE el gs sc ps) k it' acc env) R s') (fun _ _=>False) s) :
  V2 (K7 prog w) A (.compStart (lcE el gs sc ps) k it acc env) R s:=by
 refine codeAny_of_tree ?_;show K4 _ A ((compStart (lcE el gs sc ps) k it acc env).onRaise (fun x=>do noteFrame x env;ac3 theWindowsPlace)) _ _ s;refine wpAny_onRaise ?_;rw[hS];refine I0 (wpAny_askSetting ?_);dsimp only
 split
 ·exact J5 ⟨rfl,h⟩
 ·exact I0 (wpAny_rule (I0 (U7 (I0 (L8 h2 (fun it' s' h'=>J5 ⟨rfl,h'⟩) fun _ _ h'=>h'.elim)))))
end
abbrev BK:=List V->St->Hp->(List V->St->Hp->Prop)->Prop
def lF(J:It) (g:TG) (tc:TT) (B:BK) (W:Nat->Nat->List V->St->Hp->Prop) (Z:List V->St->Hp->Prop):Prop :=
 ∀i m ys σ H,W i m ys σ H->ys.length<=J3/\((J.stop i H/\Z ys σ H) ∨
  (J.go i H/\∀x H',J.yld i H x H'->g x σ H' fun σ2 H2=>tc σ2 H2 fun b H3=>if b=true then B ys σ2 H3 (fun ys' σ' H'=>∃m',m'<m/\W (i+1) m' ys' σ' H')else ∃m',m'<m/\W (i+1) m' ys σ2 H3))
def me(te:TE):BK:=fun ys σ H Z=>te σ H fun y H'=>Z (ys++[y]) σ H'
def sI(wi:TI) (g:TG) (tc:TT) (B:BK):BK:=fun ys σ H Z=>wi σ H fun J H'=>∃W:Nat->Nat->List V->St->Hp->Prop,(∃m,W 0 m ys σ H')/\lF J g tc B W Z
section
variable{Y:Cx}{D:J8}{el tg elt i1:K5}{fs:List K5}{g:TG}{tc:TT}{te:TE}{wi:TI}{B:BK}{k:Nat}{p:Pos}{gs:List Z3}{sc:V6}{ps:Pos}
def DY(Y:Cx) (D:J8) (AW:AWt) (B:BK):Prop:=∀(P:List (J8×Obj)) (its:List u8) (nn:Nat) (ys:List V) (σ:St) (H:Hp) (s:J0) (Z:List V->St->Hp->Prop),Inv Y ([(D,gz its nn)]++P) σ H s->az ys its->ys.length<=J3->(∀p∈P,p.1≠D)->B ys σ H Z ->
 AW (fun s'=>∃ys' its' n' σ' H',Inv Y ([(D,gz its' n')]++P) σ' H' s'/\az ys' its'/\Z ys' σ' H') s
structure n6(Y:Cx) (D:J8):Prop where
 pn:Y.pn=[]
 calm:Y.calm=true
 xe:Y.xe=fun _ _=>False
 ex:D∈Y.ex∨Y.s₀.heap.objs.size<=D
 cell:∀x c,Y.env.cells.lookup x=some c->c≠D
theorem AWt.mono_leaf{prog:L1}{w:O6}{A:N1}{acc:u8}{env:Env}{Ok Ok':J0->Prop}{s:J0}(h:wm prog w A elt acc env Ok s) (k:∀s,Ok s->Ok' s):wm prog w A elt acc env Ok' s :=
 L8 h (fun _ _ h1=>L8 h1 (fun _ _ h2=>k _ h2) fun _ _ x=>x) fun _ _ x=>x
theorem yV(c:n6 Y D) (he:PE Y elt te):DY Y D (wm Y.prog Y.w Y.A elt (.ref D) Y.env) (me te):=by
 intro P its nn ys σ H s Z I rv hz hPD q;refine thF c.xe (he _ s σ H _ I q) fun v s9 hup=>hup.el fun y H9 I9 r9 q9=>?_;have pacc:=I9.pin (D,gz its nn) (K0 _ (List.mem_append_left _ P4));have hzi:its.toArray.size<=J3:=by rw[J4,<-rv.length];exact hz
 refine PySem.wpAny_list_append_plain (hsz:=hzi) ⟨nn,pacc.1⟩ fun h' hl' hs'=>?_;obtain⟨n',hl'⟩:=hl';have I10:Inv Y [] σ H9 { s9 with heap:=h' } :=
  Inv.turned (t':=s9.toks) (it:=D) (I9.pins_of fun p hp=>absurd hp (by simp)) (fun b o hb e=>(hs'.2 b hb).trans e) pacc.2.1 pacc.2.2.1 c.ex c.cell (fun p hp=>absurd (show p∈([]:List (J8×Obj))from by rw[c.pn]at hp;exact hp) (by simp))
 refine⟨ys++[y],its++[v],n',σ,H9,I10.pins_of fun p hp=>?_,rv.append (.cons r9 .nil),q9⟩;rcases V9.mp hp with z|z
 ·have e:p=(D,gz (its++[v]) n'):=P6.mp z;subst e;refine⟨?_,pacc.2.1,pacc.2.2.1,pacc.2.2.2.1,fun v z=>by cases z⟩;rw[hl'];simp[gz]
 ·obtain⟨b1,b2,b3,b4,b5⟩:=I9.pin p (K0 _ (K0 _ z));exact⟨(hs'.2 _ (hPD p z)).trans b1,b2,b3,b4,b5⟩
structure Lv(Y:Cx) (D:J8) (ce:K5) (k:Nat) (p:Pos) (tg:K5) (fs:List K5) (B:BK):Prop where
 ex:∃bd AW,Co ce k p tg fs bd/\(∀it,BU Y.prog Y.w Y.A ce k bd it (.ref D) Y.env AW)/\DY Y D AW B/\∀{Ok Ok':J0->Prop} {s:J0},AW Ok s->(∀s,Ok s->Ok' s)->AW Ok' s
theorem rh(c:n6 Y D) (he:PE Y elt te) (hT:Co (lcE el gs sc ps) k p tg fs (D0 (lcE el gs sc ps) k elt)):Lv Y D (lcE el gs sc ps) k p tg fs (me te):=⟨_,_,hT,fun _=>Dp,yV c he,AWt.mono_leaf⟩
theorem p9(c:n6 Y D) (L:Lv Y D (lcE el gs sc ps) k p tg fs B) {it2:J8}
  (hg:PG Y tg g) (hif:PIf Y fs tc) {P:List (J8×Obj)} (hPD:∀p∈P,p.1≠D)
  {its0:List u8} {nn0:Nat} {ys0:List V} {σ:St} {H:Hp} {s:J0} (I:Inv Y ([(D,gz its0 nn0)]++P) σ H s) (rv0:az ys0 its0) {fp2:List J8} {tn2:Nat->L6->Prop} {J2:It} (T:jS Y.prog Y.w Y.K tg J2 fp2 it2 tn2) (st:tn2 0 s.heap)
  (f:∀b∈fp2,du Y ([(D,gz its0 nn0)]++P) H b) {W2:Nat->Nat->List V->St->Hp->Prop} {Z2:List V->St->Hp->Prop} {m0:Nat} (w0:W2 0 m0 ys0 σ H) (turn:lF J2 g tc B W2 Z2) {R:ae2->J0->Prop}
  (hR:∀(s':J0) (ys:List V) (its:List u8) (n:Nat) (σ':St) (H':Hp),Inv Y ([(D,gz its n)]++P) σ' H' s'->az ys its->ys.length<=J3->Z2 ys σ' H'->R (.ok .next) s') :
  V2 (K7 Y.prog Y.w) Y.A (.compLoop (lcE el gs sc ps) k (.ref it2) (.ref D) Y.env) R s:=by
 obtain⟨bd,AW,hT,hb,hB,hAW⟩:=L.ex;have fpc:∀{H:Hp} {n:Nat} {its:List u8},(∀b∈fp2,H b=none)->∀b∈fp2,du Y ([(D,gz its n)]++P) H b:=fun hn b hb=>by
  obtain⟨_,a1,a2,a3,a4,a5⟩:=f b hb;refine⟨hn b hb,a1,a2,a3,a4,fun p hp=>?_⟩;rw[c.pn,List.nil_append]at hp;rcases V9.mp hp with z|z
  ·obtain rfl:=P6.mp z;exact a5 (D,gz its0 nn0) (by rw[c.pn];simp)
  ·exact a5 p (by rw[c.pn];simp[z])
 refine oP hT rfl (hb _) (fun n s'=>∃i ys its nn σ' H',Inv Y ([(D,gz its nn)]++P) σ' H' s'/\az ys its/\tn2 i s'.heap/\(∀b∈fp2,H' b=none)/\W2 i n ys σ' H') ?_ m0
  ⟨0,ys0,its0,nn0,σ,H,I,rv0,st,fun b hb=>(f b hb).1,w0⟩
 rintro n s' ⟨i,ys,its,nn,σ',H',I4,rv,st4,fr4,w4⟩;obtain⟨hz,h⟩:=turn i n ys σ' H' w4;rcases h with⟨stop,hZ⟩|⟨go,step⟩
 ·refine thn (T.done Y rfl rfl rfl c.calm i _ s' _ H' (fun _ _=>False) I4 (fpc fr4) st4 stop) fun r s4 ⟨hr,I5⟩=>?_;subst hr;exact hR s4 ys its nn σ' H' I5 rv hz hZ
 ·refine thn (T.item Y rfl rfl rfl c.calm i _ s' _ H' (fun _ _=>False) I4 (fpc fr4) st4 go) fun r s5 ⟨u,hr,h5⟩=>?_;subst hr;refine thn h5 fun _ s6 ⟨x,H6,I6,r6,y6,st6,fr6⟩=>?_;have I6':=I6.pinned (fpc fr6) (T.obj _ _ st6);refine thF c.xe (hg _ s6 _ H6 x u _ I6' r6 (step x H6 y6)) fun _ s7 ⟨σ7,H7,I7,q7⟩=>?_;refine thF c.xe (hif _ s7 σ7 H7 _ I7 q7) fun ok s8 hup=>hup.el fun H8 I8 q8=>?_;have keepfp:∀{its:List u8} {nn:Nat} {σ9:St} {H9:Hp} {s9:J0},Inv Y (([(D,gz its nn)]++P)++j8 fp2 s6.heap) σ9 H9 s9->tn2 (i+1) s9.heap/\∀b∈fp2,H9 b=none:=fun {its nn σ9 H9 s9} I9 =>
   ⟨T.keep _ _ _ st6 fun b hb o e=>(I9.pin (b,o) (K0 _ (K0 _ (dM hb e)))).1,fun b hb=>by
    obtain⟨o,e,d⟩:=T.obj _ _ st6 b hb;exact(I9.pin (b,o) (K0 _ (K0 _ (dM hb e)))).2.1⟩
  cases ok with
  |false =>
   obtain⟨m',hm,w8⟩:=q8;obtain⟨a8,b8⟩:=keepfp I8;exact⟨m',hm,i+1,ys,its,nn,σ7,H8,I8.unpinned,rv,a8,b8,w8⟩
  |true =>
   have hPD2:∀p∈P++j8 fp2 s6.heap,p.1≠D:=fun p hp=>by
    rcases V9.mp hp with z|z
    ·exact hPD p z
    ·have hb:=(px z).1;intro e;exact(f _ hb).2.2.2.2.2 (D,gz its0 nn0) (by rw[c.pn];simp) e.symm
   refine hAW (hB (P++j8 fp2 s6.heap) its nn ys σ7 H8 s8 _ (by rw[<-List.append_assoc];exact I8) rv hz hPD2 q8) ?_;rintro s9 ⟨ys',its',n',σ',H',I',rv',m',hm,w'⟩;rw[<-List.append_assoc]at I';obtain⟨a9,b9⟩:=keepfp I';exact⟨m',hm,i+1,ys',its',n',σ',H',I'.unpinned,rv',a9,b9,w'⟩
theorem ug{prog:L1}{w:O6}{A:N1}{acc:u8}{env:Env}{Ok Ok':J0->Prop}{s:J0}(h:Au prog w A (lcE el gs sc ps) k i1 acc env Ok s) (h':∀s,Ok s->Ok' s):Au prog w A (lcE el gs sc ps) k i1 acc env Ok' s :=
 L8 h (fun _ _ h1=>L8 h1 (fun _ _ h2=>X6 h2 fun _ _ h3=>⟨h3.1,h' _ h3.2⟩) fun _ _ x=>x) fun _ _ x=>x
theorem qV{tg1:K5}{fs1:List K5}{p1:Pos}(c:n6 Y D) (L:Lv Y D (lcE el gs sc ps) (k+1) p1 tg1 fs1 B) (hS:zV (lcE el gs sc ps) (k+1) p1) (hs:∀x,O8 i1 Y.env x=X9 x) (hi:PI Y tg1 i1 wi) (hg:PG Y tg1 g) (hif:PIf Y fs1 tc)
  (hT:Co (lcE el gs sc ps) k p tg fs (DV (lcE el gs sc ps) k i1)):Lv Y D (lcE el gs sc ps) k p tg fs (sI wi g tc B):=by
 refine⟨_,_,hT,fun _=>CW hs,?_,ug⟩;intro P its nn ys σ H s Z I rv hz hPD q;refine thF c.xe (hi _ s σ H _ I q) fun v s9 h9=>thF c.xe h9 fun itv s10 h10=>?_;obtain⟨it2,fp2,tn2,J2,H10,e,I10,T2,st10,f10,W2,⟨m2,w2⟩,cin⟩:=h10;subst e;have loop:=p9 c L hg hif hPD I10 rv T2 st10 f10 w2 cin (R:=fun r s₆=>(∃f,r=.ok f)/\∃ys' its' n' σ' H',Inv Y ([(D,gz its' n')]++P) σ' H' s₆/\az ys' its'/\Z ys' σ' H')
  (fun s' ys its n σ' H' I' rv' _ hZ=>⟨⟨_,rfl⟩,ys,its,n,σ',H',I',rv',hZ⟩)
 exact nT hS loop (T2.self _ 0 _ _ _ st10 loop)
end
section
variable{X:Cx}{ae:List (J8×Obj)}{σ σ':St}{H2 H':Hp}{s2 s':J0}{scope:V6}{cl:List (Str×J8)}{ms:List Bool}{ar:List Str}{elt t0 i0:K5}{f0:List K5}{gs:List Z3}{g0:TG}{tc0:TT}{B:BK}{p pos:Pos}
theorem pF(S:dN X scope cl ms ar) (cV:X.calm=true)
  (hg0:∀C s H ex,PG (aA X scope cl (X.N++ar) C s H ex) t0 g0) (hif0:∀C s H ex,PIf (aA X scope cl (X.N++ar) C s H ex) f0 tc0)
  (hL:∀C s H ex D,n6 (aA X scope cl (X.N++ar) C s H ex) D->Lv (aA X scope cl (X.N++ar) C s H ex) D (lcE elt (⟨t0,i0,f0,0⟩::gs) scope pos) 0 p t0 f0 B)
  (I2:Inv X ae σ H2 s2) {it:J8} {fp:List J8} {tn:Nat->L6->Prop} {J:It} (T:jS X.prog X.w X.K t0 J fp it tn) (st2:tn 0 s2.heap) (fz:∀b∈fp,du X ae H2 b)
  {W:Nat->Nat->List V->St->Hp->Prop} {Z:List V->St->Hp->Prop} {m0:Nat} (w0:W 0 m0 [] (gh ms ar.length σ) H2) (turn:lF J g0 tc0 B W Z)
  {RR:u8->J8->ae2->J0->Prop} {E:u8->J0->Prop}
  (hRR:∀ (s':J0) (ys:List V) (its:List u8) (n:Nat) (σ':St) (H':Hp),Inv (aA X scope cl (X.N ++ ar) (s2.heap.objs.size + 1) s2 H2 fp) [(s2.heap.objs.size,gz its n)] σ' H' s' → az ys its → ys.length ≤ J3 → Z ys σ' H' →
   RR (.ref s2.heap.objs.size) (s2.heap.objs.size+1) (.ok .next) s') :
  K4 (K7 X.prog X.w) X.A (newList []) (fun acc s₃=>K4 (K7 X.prog X.w) X.A (newFunctionEnv scope X.env.globals cl [] X.env.qual none .none (some X.env)) (fun cenv s₄ =>
   V2 (K7 X.prog X.w) X.A (.compStart (lcE elt (⟨t0,i0,f0,0⟩::gs) scope pos) 0 (.ref it) acc { cenv with scope:=relabel scope X.env }) (RR acc cenv.locals) s₄) E s₃) E s2:=by
 refine N2 (wpAny_newFunctionEnv S.ncell (by intro y hy;simp at hy) (fun h₁ hns₁ hsb₁=>?_) S.kind);dsimp only at hns₁ hsb₁ ⊢;have hsz:(s2.heap.push { cls:=.type "list",dict:=none,data:=.seq ([]:List u8).toArray }).objs.size=s2.heap.objs.size+1:=by rw[X5]
 rw[hsz]at hns₁ hsb₁ ⊢;have hlt:∀b∈fp,b<s2.heap.objs.size:=fun b hb=>by
  obtain⟨o,e,_⟩:=T.obj _ _ st2 b hb;exact J7 e
 have old:∀b o,s2.heap.get? b=some o->h₁.get? b=some o:=fun b o e=>hsb₁.extBut b o (K3 (R0 (J7 e))) (J1 _ (J1 _ e));have hacc:h₁.get? s2.heap.objs.size=some (gz [] 0):=hsb₁.extBut _ _ (K3 (U1 _)) (J1 _ (J9 _ rfl));have hDn:H2 s2.heap.objs.size=none:=I2.hok.fresh (J6 _);have hDfs:∀b,s2.heap.objs.size<=b->b∉(aA X scope cl (X.N++ar) (s2.heap.objs.size+1) s2 H2 fp).fs:=fun b hb z=>by
  rcases O7.mp (I2.stkSub b z)with e|e
  ·subst e;exact absurd (K6 I2.lt hb) (T1 _)
  ·exact I2.nofs hb e
 have loop:∀s₃:J0,s₃={ s2 with heap:=h₁,toks:=s2.toks+([]:List (Str×u8)).length } ->
   V2 (K7 X.prog X.w) X.A (.compLoop (lcE elt (⟨t0,i0,f0,0⟩::gs) scope pos) 0 (.ref it) (.ref s2.heap.objs.size) (compEnvC scope cl (s2.heap.objs.size+1) X.env)) (RR (.ref s2.heap.objs.size) (s2.heap.objs.size+1)) s₃:=by
  rintro s₃ rfl;have I3:Inv (aA X scope cl (X.N++ar) (s2.heap.objs.size+1) s2 H2 fp) [] (gh ms ar.length σ) H2 { s2 with heap:=h₁,toks:=s2.toks+([]:List (Str×u8)).length } :=
   wz I2 S fz hlt (Nat.le_succ _) rfl I2.bare old hns₁
  have c:n6 (aA X scope cl (X.N++ar) (s2.heap.objs.size+1) s2 H2 fp) s2.heap.objs.size:=⟨rfl,cV,rfl,.inr (J6 _),fun x c e=>by
   obtain⟨v,o,ho,_⟩:=I2.cell x c (S.sub x c e);exact K3 (J7 ho)⟩
  refine p9 c (hL _ _ _ _ _ c) (hg0 _ _ _ _) (hif0 _ _ _ _) (P:=[]) (fun p hp=>nomatch hp) (its0:=[]) (nn0:=0) (I3.pins_of fun p hp=>?_) .nil T (T.keep _ _ _ st2 fun b _ o e=>old b o e) (fun b hb=>?_) w0 turn ?_
  ·have e:p=(s2.heap.objs.size,gz [] 0):=P6.mp hp;subst e;exact⟨hacc,hDn,K3 (U1 _),hDfs _ (J6 _),fun v z=>by cases z⟩
  ·exact⟨(fz b hb).1,K3 (R0 (hlt b hb)),(uY I2 S fz hlt (Nat.le_succ _)).exfs b hb,.inl hb,fun x c e=>(fz b hb).2.2.2.2.1 x c (S.sub x c e),fun p hp=>by
    have:p=(s2.heap.objs.size,_):=P6.mp (show p∈[(s2.heap.objs.size,_)]from hp);subst this;exact ab4 (hlt b hb)⟩
  ·exact fun s' ys its n σ' H' I' rv hz hZ=>hRR s' ys its n σ' H' I' rv hz hZ
 exact codeAny_compStart_list (loop _ rfl) (T.self _ 0 _ _ _ (T.keep _ _ _ st2 fun b _ o e=>old b o e) (loop _ rfl))
end
section
variable{X:Cx}{ae:List (J8×Obj)}{σ σ':St}{H2 H':Hp}{s2 s':J0}{scope:V6}{cl:List (Str×J8)}{ms:List Bool}{ar:List Str}{tg iter elt:K5}{ifs:List K5}{g:TG}{tc:TT}{te:TE}{pos p:Pos}{B:BK}{gs:List Z3}
theorem pZ(I2:Inv X ae σ H2 s2) {fp:List J8}(f2:∀b∈fp,du X ae H2 b) {its:List u8}{n:Nat}{ys:List V}
  (I':Inv (aA X scope cl (X.N++ar) (s2.heap.objs.size+1) s2 H2 fp) [(s2.heap.objs.size,gz its n)] σ' H' s') (rv:az ys its) (hz:ys.length<=J3) {h':L6} (hs:S1 (s2.heap.objs.size+1) s'.heap h') :
  Inv X ae σ (upd H' s2.heap.objs.size (.lst ys)) { s' with heap:=h' }/\H' s2.heap.objs.size=none:=by
 have pacc:=I'.pin (s2.heap.objs.size,gz its n) (K0 _ P4);have hC:H' (s2.heap.objs.size+1)=none:=I'.free;have hD:H' s2.heap.objs.size=none:=pacc.2.1;have up:∀b o,b≠s2.heap.objs.size+1->s'.heap.get? b=some o->h'.get? b=some o:=fun b o hb e=>(hs.2 b hb).trans e;have nD:∀b u,H' b=some u->b≠s2.heap.objs.size:=fun b u e z=>by rw[z,hD]at e;cases e
 have nC:∀b u,H' b=some u->b≠s2.heap.objs.size+1:=fun b u e z=>by rw[z,hC]at e;cases e
 have hacc:h'.get? s2.heap.objs.size=some (gz its n):=up _ _ (K3 (U1 _)) pacc.1;have hok:HOk X.prog X.w (upd H' s2.heap.objs.size (.lst ys)) h':=fun b u e=>by
  by_cases hb:b=s2.heap.objs.size
  ·subst hb;rw[aB]at e;cases e;exact⟨hz,its,n,rv,hacc⟩
  ·rw[aL hb]at e;refine(I'.hok b u e).stay (fun c v hc q=>up c v ?_ q) (fun c q=>by rw[aL (nD c _ q)];exact q) fun c xs q=>by rw[aL (nD c _ q)];exact q
   rcases hc with rfl|hc
   ·exact nC _ _ e
   ·exact nC _ _ hc
 have un:Un (frs X.stack) fp H2 (upd H' s2.heap.objs.size (.lst ys)) s2.heap h':=by
  have U:=I'.base;have ltD:∀b o,s2.heap.get? b=some o->b≠s2.heap.objs.size:=fun b o e=>K3 (J7 e);have ltC:∀b o,s2.heap.get? b=some o->b≠s2.heap.objs.size+1:=fun b o e=>K3 (R0 (J7 e));refine⟨fun b o e nb hb hx=>up b o (ltC b o e) (U.keep b o e nb hb hx),fun b o e nb hb hx=>?_,fun b o e nb hx=>by rw[aL (ltD b o e)];exact U.free b o e nb hx,fun b o e hx=>?_,
   fun b xs e=>by have q:=U.tups b xs e;rw[aL (nD b _ q)];exact q,fun b o u e=>by have q:=U.frzs b o u e;rw[aL (nD b _ q)];exact q,fun b ps e=>?_⟩
  ·obtain⟨sl,q⟩:=U.slot b o e nb hb hx;exact⟨sl,up b _ (ltC b o e) q⟩
  ·obtain⟨o',q⟩:=U.there b o e hx;exact⟨o',up b _ (ltC b o e) q⟩
  ·obtain⟨more,q⟩:=U.tbls b ps e;exact⟨more,by rw[aL (nD b _ q)];exact q⟩
 exact⟨I2.call' (s':={ s' with heap:=h' }) (ch:=fp) I'.os un hok I'.bare fun b hb=>⟨(f2 b hb).2.2.2.1,(f2 b hb).2.1,(f2 b hb).2.2.2.2.1,(f2 b hb).2.2.2.2.2⟩,hD⟩
def Cp(ms:List Bool) (k:Nat) (wi:TI) (g:TG) (tc:TT) (B:BK):TE:=fun σ H Q=>wi σ H fun J H1=>∃(W:Nat->Nat->List V->St->Hp->Prop) (Z:List V->St->Hp->Prop),(∃m,W 0 m [] (gh ms k σ) H1)/\lF J g tc B W Z /\
 ∀ys σ' H p,Z ys σ' H->H p=none->Q (.ref p) (upd H p (.lst ys))
abbrev tLc(ms:List Bool) (k:Nat) (wi:TI) (g:TG) (tc:TT) (te:TE):TE:=Cp ms k wi g tc (me te)
abbrev LvC(X:Cx) (scope:V6) (cl:List (Str×J8)) (ar:List Str) (ce:K5) (p:Pos) (tg:K5) (ifs:List K5) (B:BK):Prop:=∀C s H ex D,n6 (aA X scope cl (X.N++ar) C s H ex) D->Lv (aA X scope cl (X.N++ar) C s H ex) D ce 0 p tg ifs B
theorem um(S:dN X scope cl ms ar) (cV:X.calm=true) {wi:TI}(hi:PI X tg iter wi)
  (hg:∀C s H ex,PG (aA X scope cl (X.N++ar) C s H ex) tg g) (hif:∀C s H ex,PIf (aA X scope cl (X.N++ar) C s H ex) ifs tc) (hL:LvC X scope cl ar (lcE elt (⟨tg,iter,ifs,0⟩::gs) scope pos) p tg ifs B)
  (hs:∀x,O8 iter X.env x=X9 x:=by intro _;rfl):PE X (lcE elt (⟨tg,iter,ifs,0⟩::gs) scope pos) (Cp ms ar.length wi g tc B):=by
 intro ae s σ H Q I h;rw[eval_ListComp];refine wpAny_comprehension_free (use:=none) rfl hs S.clos S.kind S.names (thn (hi ae s σ H _ I h) fun v s1 h1=>thn h1 fun itv s2 h2=>?_);obtain⟨it,fp,tn,J,H2,e,I2,T,st2,f2,W,Z,⟨m0,w0⟩,turn,q⟩:=h2;subst e;refine pF S cV hg hif hL I2 T st2 f2 w0 turn (RR:=fun acc C=>compPost (K7 X.prog X.w) X.A X.xe none (EP X ae σ Q) acc C) ?_;intro s' ys its n σ' H' I' rv hz hZ;obtain⟨m,hm,_⟩:=I'.loc;refine⟨m,hm,fun h' hs'=>?_⟩;obtain⟨I3,hD⟩:=pZ I2 f2 I' rv hz hs';exact⟨.ref s2.heap.objs.size,_,I3,rfl,q ys _ H' _ hZ hD⟩
theorem yv{i:Nat}{x:Str}{spos pos':Pos}(hN:X.N.Nodup) (hix:X.N[i]?=some x) (hx:X.env.scope.names.lookup x=some .local)
  (hsw:Z5 (lcE elt (⟨tg,iter,ifs,0⟩::gs) scope pos) (some (.Name x pos')) spos.line X.env=X9 true)
  (S:dN X scope cl ms ar) (cV:X.calm=true) {wi:TI} (hi:PI X tg iter wi)
  (hg:∀C s H ex,PG (aA X scope cl (X.N++ar) C s H ex) tg g) (hif:∀C s H ex,PIf (aA X scope cl (X.N++ar) C s H ex) ifs tc) (hL:LvC X scope cl ar (lcE elt (⟨tg,iter,ifs,0⟩::gs) scope pos) p tg ifs B)
  (hs:∀x,O8 iter X.env x=X9 x:=by intro _;rfl):PS X (.Assign [.Name x pos'] (lcE elt (⟨tg,iter,ifs,0⟩::gs) scope pos) spos) (Ez (Cp ms ar.length wi g tc B) (sN i)):=by
 intro ae s σ H D I h;rw[exec_Assign_Name_used _ _ _ _ hsw];refine I0 (U7 (I0 ?_));show K4 _ _ (do let _ <-comprehension (lcE elt (⟨tg,iter,ifs,0⟩::gs) scope pos) scope X.env _ (newList []) false (V3 iter X.env) (some (Z6 (.Name x pos') X.env))) _ _ s;refine I0 (L8 (wpAny_comprehension_free (use:=some (Z6 (.Name x pos') X.env)) (Q:=fun _ s'=>SP X ae D .next s') rfl hs S.clos S.kind S.names
  (thn (hi ae s σ H _ I h) fun v s1 h1=>thn h1 fun itv s2 h2=>?_)) (fun _ s' hq=>J5 (J5 hq)) fun _ _ e=>e)
 obtain⟨it,fp,tn,J,H2,e,I2,T,st2,f2,W,Z,⟨m0,w0⟩,turn,q⟩:=h2;subst e;refine pF S cV hg hif hL I2 T st2 f2 w0 turn (RR:=fun acc C=>compPost (K7 X.prog X.w) X.A X.xe (some (Z6 (.Name x pos') X.env)) (fun _ s'=>SP X ae D .next s') acc C) ?_;intro s' ys its n σ' H' I' rv hz hZ;obtain⟨m,hm,_⟩:=I'.loc;obtain⟨I3,hD⟩:=pZ I2 f2 I' rv hz (S1.refl (s2.heap.objs.size+1) s'.heap);have hq:=q ys _ H' _ hZ hD;show K4 _ _ (Z6 (.Name x pos') X.env (.ref s2.heap.objs.size)) _ _ _;refine wpAny_assign_Name (p7 I3 hN hix (.inl hx) (v:=.ref s2.heap.objs.size) rfl (fun s4 I4 hsame=>?_) (.inr hx));obtain⟨a,hsb,ha⟩:=hsame;have hLC:s2.heap.objs.size+1≠X.env.locals:=ab4 (R0 I2.lt);have haC:s2.heap.objs.size+1≠a:=by
  rcases ha with rfl|ha
  ·exact hLC
  ·intro z;obtain⟨v,o,ho,_⟩:=I2.cell x a ha;exact absurd (R0 (J7 ho)) (by rw[<-z];exact T1 _)
 have hCn:upd H' s2.heap.objs.size (.lst ys) (s2.heap.objs.size+1)=none:=by rw[aL (ab4 (U1 _))];exact I'.free
 refine⟨m,hm.sameBut hsb haC,fun h' hs'=>?_⟩;refine⟨_,_,?_,hq⟩;have hL:∀b o,b≠s2.heap.objs.size+1->s4.heap.get? b=some o->h'.get? b=some o:=fun b o hb e=>(hs'.2 b hb).trans e;have I5:=Inv.turned (t':=s4.toks) (h':=h') (it:=s2.heap.objs.size+1) I4 (fun b o hb e=>hL b o hb e) hCn hLC (.inr (Nat.le_succ_of_le I2.sz)) (fun y c e=>by
  obtain⟨v,o,ho,_⟩:=I2.cell y c e;exact K3 (R0 (J7 ho))) (fun p hp=>by
  exact K3 (R0 (J7 (I2.pin p hp).1)))
 exact I5
theorem Ak(he:∀C s H ex,PE (aA X scope cl (X.N++ar) C s H ex) elt te):LvC X scope cl ar (lcE elt [⟨tg,iter,ifs,0⟩] scope pos) iter.pos tg ifs (me te):=fun _ _ _ _ _ c=>rh c (he _ _ _ _) fun _ _ _=>rfl
end
inductive Bx where
 |dk (ks:List Key)|dt (ks:List (List Key))|ins (C:J8) (fs:List Str)|key
 deriving Inhabited
inductive D where
 |non|bl (b:Bool)|int (i:Int)|str (x:Str)|tup (ds:List D)|lst (ds:List D)|scr (ds:List D)|emp|ref (a:J8)|box (t:Bx) (ds:List D)
 deriving Inhabited
inductive HD where
 |lst (ds:List D)|dK (kvs:List (Key×D))|dT (kvs:List (List Key×D))|dKr (o:Obj) (ks:List (Key×V)) (kvs:List (Key×D))|ins (C:J8) (fs:List (Str×D))
 deriving Inhabited
abbrev DH:=J8->Option HD
noncomputable def av(M:DH) (a:J8) (o:HD):DH:=fun b=>if b=a then some o else M b
noncomputable def fZ(M:DH) (a:J8):DH:=fun b=>if b=a then none else M b
abbrev noM:DH:=fun _=>none
theorem ah{M:DH}{a:J8}{o:HD}:av M a o a=some o:=if_pos rfl
theorem ak{M:DH}{a b:J8}{o:HD}(h:b≠a):av M a o b=M b:=if_neg h
theorem aD{M:DH}{a:J8}{o u:HD}:av (av M a o) a u=av M a u:=by
 funext b;unfold av;split<;>rfl
theorem dE{M:DH}{a:J8}:fZ M a a=none:=if_pos rfl
theorem kA{M:DH}{a b:J8}(h:b≠a):fZ M a b=M b:=if_neg h
theorem fH{M:DH}{a:J8}{o:HD}(h:M a=none):fZ (av M a o) a=M:=by
 funext b;unfold fZ av;split
 ·rename_i e;rw[e,h]
 ·rfl
theorem pK{M:DH}{a:J8}{o:HD}(h:M a=some o):av M a o=M:=by
 funext b;unfold av;split
 ·rename_i e;rw[e,h]
 ·rfl
def pW(K:o0) (M:DH) (H:Hp) (a:J8) (vs:List V):Prop:=(Rd H a (.tup vs)/\M a=none)∨SqT K (fun _=>none) a vs
def wN(M:DH) (H:Hp) (a:J8) (vs:List V):Prop:=H a=some (.lst vs)/\M a=none
def pk(K:o0) (M:DH) (H:Hp) (a:J8) (vs:List V):Prop:=((∃o,H a=some (.frz o (.lst vs)))/\M a=none)∨SqL K (fun _=>none) a vs
def GQ(M:DH) (H:Hp) (a:J8):Prop:=H a=some (.dK [])/\M a=none
def ia(M:DH) (H:Hp) (a:J8):Bx->List V->Prop
 |.dk ks,vs=>ks.length=vs.length/\(∃o,H a=some (.frz o (.dK (ks.zip vs))))/\M a=none
 |.dt ks,vs=>ks.length=vs.length/\(∃o,H a=some (.frz o (.dT (ks.zip vs))))/\M a=none
 |.ins C fs,vs=>fs.length=vs.length/\(∃dx,H a=some (.ins C dx (fs.zip vs)))/\M a=none
 |.key,vs=>True/\(∃_u:Unit,H a=some (.tup vs))/\M a=none
mutual
def Rep(K:o0) (M:DH) (H:Hp):D->V->Prop
 |.non,v=>v=.non
 |.bl b,v=>v=.bl b
 |.int i,v=>v=.int i
 |.str x,v=>v=.str x
 |.tup ds,v=>∃a vs,v=.ref a/\pW K M H a vs/\au K M H ds vs
 |.lst ds,v=>∃a vs,v=.ref a/\wN M H a vs/\au K M H ds vs
 |.scr ds,v=>∃a vs,v=.ref a/\pk K M H a vs/\au K M H ds vs
 |.emp,v=>∃a,v=.ref a/\GQ M H a
 |.ref a,v=>v=.ref a
 |.box t ds,v=>∃a vs,v=.ref a/\ia M H a t vs/\au K M H ds vs
def au(K:o0) (M:DH) (H:Hp):List D->List V->Prop
 |[],vs=>vs=[]
 |d::ds,vs=>∃v ws,vs=v::ws/\Rep K M H d v/\au K M H ds ws
end
def Ext(M:DH) (H:Hp) (M':DH) (H':Hp):Prop:=∀a o,H a=some o->M a=none->H' a=some o/\M' a=none
theorem Ext.refl(M:DH) (H:Hp):Ext M H M H:=fun _ _ h n=>⟨h,n⟩
theorem Ext.trans{M M1 M2:DH}{H H1 H2:Hp}(a:Ext M H M1 H1) (b:Ext M1 H1 M2 H2):Ext M H M2 H2:=fun c o h n=>b c o (a c o h n).1 (a c o h n).2
variable{K:o0}{M M' M1 M2:DH}{H H' H1 H2:Hp}
theorem pW.ext{a:J8}{vs:List V}(h:pW K M H a vs) (e:Ext M H M' H'):pW K M' H' a vs:=by
 rcases h with⟨r|⟨o,r⟩,n⟩|h
 ·exact .inl ⟨.inl (e a _ r n).1,(e a _ r n).2⟩
 ·exact .inl ⟨.inr ⟨o,(e a _ r n).1⟩,(e a _ r n).2⟩
 ·exact .inr h
theorem wN.ext{a:J8}{vs:List V}(h:wN M H a vs) (e:Ext M H M' H'):wN M' H' a vs:=e a _ h.1 h.2
theorem pk.ext{a:J8}{vs:List V}(h:pk K M H a vs) (e:Ext M H M' H'):pk K M' H' a vs:=by
 rcases h with⟨⟨o,r⟩,n⟩|h
 ·exact .inl ⟨⟨o,(e a _ r n).1⟩,(e a _ r n).2⟩
 ·exact .inr h
theorem ia.ext{a:J8}{t:Bx}{vs:List V}(h:ia M H a t vs) (e:Ext M H M' H'):ia M' H' a t vs:=by
 cases t<;>(obtain⟨l,⟨o,r⟩,n⟩:=h;exact⟨l,⟨o,(e a _ r n).1⟩,(e a _ r n).2⟩)
mutual
theorem Rep.ext:∀{d:D}{v:V},Rep K M H d v->Ext M H M' H'->Rep K M' H' d v
 |.non,_,h,_=>h
 |.bl _,_,h,_=>h
 |.int _,_,h,_=>h
 |.str _,_,h,_=>h
 |.ref _,_,h,_=>h
 |.emp,_,h,e=>by
  simp only[Rep]at h ⊢;obtain⟨a,rfl,h1,h2⟩:=h;exact⟨a,rfl,e a _ h1 h2⟩
 |.tup ds,_,h,e=>by
  simp only[Rep]at h ⊢;obtain⟨a,vs,rfl,h1,h2⟩:=h;exact⟨a,vs,rfl,h1.ext e,au.ext h2 e⟩
 |.lst ds,_,h,e=>by
  simp only[Rep]at h ⊢;obtain⟨a,vs,rfl,h1,h2⟩:=h;exact⟨a,vs,rfl,h1.ext e,au.ext h2 e⟩
 |.scr ds,_,h,e=>by
  simp only[Rep]at h ⊢;obtain⟨a,vs,rfl,h1,h2⟩:=h;exact⟨a,vs,rfl,h1.ext e,au.ext h2 e⟩
 |.box t ds,_,h,e=>by
  simp only[Rep]at h ⊢;obtain⟨a,vs,rfl,h1,h2⟩:=h;exact⟨a,vs,rfl,h1.ext e,au.ext h2 e⟩
theorem au.ext:∀{ds:List D}{vs:List V},au K M H ds vs->Ext M H M' H'->au K M' H' ds vs
 |[],_,h,_=>h
 |d::ds,_,h,e=>by
  simp only[au]at h ⊢;obtain⟨v,ws,rfl,h1,h2⟩:=h;exact⟨v,ws,rfl,Rep.ext h1 e,au.ext h2 e⟩
end
theorem au.length:∀{ds:List D}{vs:List V},au K M H ds vs->ds.length=vs.length
 |[],_,h=>by simp only[au]at h;subst h;rfl
 |d::ds,_,h=>by
  simp only[au]at h;obtain⟨v,ws,rfl,h1,h2⟩:=h;simp[au.length h2]
theorem au.nil:au K M H [] []:=by simp[au]
theorem au.cons{d:D}{v:V}{ds:List D}{vs:List V}(h:Rep K M H d v) (t:au K M H ds vs):au K M H (d::ds) (v::vs):=by
 simp only[au];exact⟨v,vs,rfl,h,t⟩
theorem au.append:∀{ds es:List D}{vs ws:List V},au K M H ds vs->au K M H es ws->au K M H (ds++es) (vs++ws)
 |[],_,_,_,h,t=>by simp only[au]at h;subst h;exact t
 |d::ds,es,_,ws,h,t=>by
  simp only[au]at h;obtain⟨v,us,rfl,h1,h2⟩:=h;exact au.cons h1 (au.append h2 t)
theorem au.get:∀{ds:List D}{vs:List V}{i:Nat}{d:D},au K M H ds vs->ds[i]?=some d->∃v,vs[i]?=some v/\Rep K M H d v
 |[],_,_,_,_,e=>by simp at e
 |d::ds,_,0,x,h,e=>by
  simp only[au]at h;obtain⟨v,us,rfl,h1,h2⟩:=h;simp at e;subst e;exact⟨v,rfl,h1⟩
 |d::ds,_,i+1,x,h,e=>by
  simp only[au]at h;obtain⟨v,us,rfl,h1,h2⟩:=h;obtain⟨w,a,b⟩:=au.get (i:=i) (d:=x) h2 (by simpa using e);exact⟨w,by simpa using a,b⟩
theorem au.take:∀{ds:List D}{vs:List V}(n:Nat),au K M H ds vs->au K M H (ds.take n) (vs.take n)
 |ds,vs,0,_=>by simp[au]
 |[],_,n+1,h=>by simp only[au]at h;subst h;simp[au]
 |d::ds,_,n+1,h=>by
  simp only[au]at h;obtain⟨v,us,rfl,h1,h2⟩:=h;exact au.cons h1 (au.take n h2)
theorem au.drop:∀{ds:List D}{vs:List V}(n:Nat),au K M H ds vs->au K M H (ds.drop n) (vs.drop n)
 |ds,vs,0,h=>h
 |[],_,n+1,h=>by simp only[au]at h;subst h;simp[au]
 |d::ds,_,n+1,h=>by
  simp only[au]at h;obtain⟨v,us,rfl,h1,h2⟩:=h;exact au.drop n h2
theorem au.set:∀{ds:List D}{vs:List V}{d:D}{v:V}(n:Nat),au K M H ds vs->Rep K M H d v->au K M H (ds.set n d) (vs.set n v)
 |[],_,_,_,n,h,r=>by simp only[au]at h;subst h;simp[au]
 |d::ds,_,_,_,0,h,r=>by
  simp only[au]at h;obtain⟨v,us,rfl,h1,h2⟩:=h;exact au.cons r h2
 |d::ds,_,_,_,n+1,h,r=>by
  simp only[au]at h;obtain⟨v,us,rfl,h1,h2⟩:=h;exact au.cons h1 (au.set n h2 r)
theorem au.one{d:D}{vs:List V}(h:au K M H [d] vs):∃v,vs=[v]/\Rep K M H d v:=by
 simp only[au]at h;obtain⟨v,us,rfl,h1,rfl⟩:=h;exact⟨v,rfl,h1⟩
def KR(K:o0) (M:DH) (H:Hp) {κ:Type}:List (κ×D)->List (κ×V)->Prop:=R1 fun p q=>p.1=q.1/\Rep K M H p.2 q.2
theorem KR.ext{κ:Type}{kvs:List (κ×D)}{ks:List (κ×V)}(h:KR K M H kvs ks) (e:Ext M H M' H'):KR K M' H' kvs ks:=R1.imp' (fun _ _ r=>⟨r.1,r.2.ext e⟩) h
def nW(K:o0) (M:DH) (H:Hp) (a:J8):HD->Prop
 |.lst ds=>∃vs,H a=some (.lst vs)/\au K M H ds vs
 |.dK kvs=>∃ks,H a=some (.dK ks)/\KR K M H kvs ks
 |.dT kvs=>∃ks,H a=some (.dT ks)/\KR K M H kvs ks
 |.dKr o ks kvs=>∃_u:Unit,H a=some (.frz o (.dK ks))/\KR K M H kvs ks
 |.ins C fs=>∃gs,(∃dx,H a=some (.ins C dx gs))/\KR K M H fs gs
def HR(K:o0) (M:DH) (H:Hp):Prop:=∀a o,M a=some o->nW K M H a o
theorem nW.some{a:J8}{o:HD}(h:nW K M H a o):∃u,H a=P3 u/\∀xs,u≠.tup xs/\∀ob,u≠.frz ob (.tup xs):=by
 cases o with
 |ins C fs=>obtain⟨gs,⟨dx,r⟩,_⟩:=h;exact⟨_,r,fun xs=>⟨(by intro z;cases z),(by intro ob z;cases z)⟩⟩
 |_=>obtain⟨vs,r,_⟩:=h;exact⟨_,r,fun xs=>⟨(by intro z;cases z),(by intro ob z;cases z)⟩⟩
theorem nW.keep{a:J8}{o:HD}(h:nW K M H a o) (e:Ext M H M' H') (q:H' a=H a):nW K M' H' a o:=by
 cases o with
 |ins C fs=>obtain⟨gs,⟨dx,r⟩,t⟩:=h;exact⟨gs,⟨dx,by rw[q];exact r⟩,t.ext e⟩
 |_=>obtain⟨vs,r,t⟩:=h;exact⟨vs,by rw[q];exact r,t.ext e⟩
theorem HR.fresh(h:HR K M H) {p:J8}(e:H p=none):M p=none:=by
 cases q:M p with
 |none=>rfl
 |some o =>
  obtain⟨u,r,_⟩:=(h p _ q).some;rw[e]at r;cases r
theorem HR.nil:HR K noM H:=fun _ _ h=>nomatch h
theorem Ext.new{p:J8}{o:HO}(hr:HR K M H) (h:H p=none):Ext M H M (upd H p o):=fun a u e n=>by
 have:a≠p:=cE e h;rw[aL this];exact⟨e,n⟩
theorem HR.ext1(h:HR K M H) (e:Ext M H M H') (keep:∀a o,M a=some o->H' a=H a):HR K M H':=fun a o q=>(h a o q).keep e (keep a o q)
theorem HR.new{p:J8}{o:HO}(hr:HR K M H) (h:H p=none):HR K M (upd H p o):=hr.ext1 (Ext.new hr h) fun a u q=>by
 have:a≠p:=fun z=>by rw[z,hr.fresh h]at q;cases q
 rw[aL this]
theorem Ext.own{p:J8}{o:HO}{u:HD}(h:H p=none):Ext M H (av M p u) (upd H p o):=fun a x e n=>by
 have:a≠p:=cE e h;rw[aL this,ak this];exact⟨e,n⟩
theorem HR.put{p:J8}{o:HO}{u:HD}(hr:HR K M H) (e:Ext M H (av M p u) (upd H p o)) (c:nW K (av M p u) (upd H p o) p u):HR K (av M p u) (upd H p o):=fun a w q=>by
 by_cases z:a=p
 ·subst z;rw[ah]at q;cases q;exact c
 ·rw[ak z]at q;exact(hr a w q).keep e (aL z)
theorem HR.own{p:J8}{ds:List D}{vs:List V}(hr:HR K M H) (h:H p=none) (r:au K M H ds vs):HR K (av M p (.lst ds)) (upd H p (.lst vs)) :=
 hr.put (Ext.own h) ⟨vs,aB,r.ext (Ext.own h)⟩
theorem Ext.write{a:J8}{o:HO}{u w:HD}(h:M a=some w):Ext M H (av M a u) (upd H a o):=fun b x e n=>by
 have:b≠a:=fun z=>by rw[z,h]at n;cases n
 rw[aL this,ak this];exact⟨e,n⟩
theorem HR.write{a:J8}{w:HD}{ds:List D}{vs:List V}(hr:HR K M H) (h:M a=some w) (r:au K M H ds vs):HR K (av M a (.lst ds)) (upd H a (.lst vs)) :=
 hr.put (Ext.write h) ⟨vs,aB,r.ext (Ext.write h)⟩
def LeM(M1 M:DH):Prop:=∀a o,M1 a=some o->M a=some o
theorem LeM.none(h:LeM M1 M) {a:J8}(n:M a=none):M1 a=none:=by
 cases q:M1 a with
 |none=>rfl
 |some o=>rw[h a o q]at n;cases n
theorem LeM.refl:LeM M M:=fun _ _ h=>h
theorem LeM.no:LeM noM M:=fun _ _ h=>nomatch h
theorem LeM.del{a:J8}:LeM (fZ M a) M:=fun b o h=>by
 unfold fZ at h;split at h
 ·cases h
 ·exact h
theorem Ext.le(h:LeM M1 M):Ext M H M1 H:=fun a o e n=>⟨e,h.none n⟩
theorem HR.le(hr:HR K M H) (h:LeM M1 M):HR K M1 H:=fun a o q=>(hr a o (h a o q)).keep (Ext.le h) rfl
theorem Rep.froze(hr:HR K M H) (h:LeM M1 M) {a:J8}{ds:List D}(e:M a=some (.lst ds)) (n:M1 a=none):Rep K M1 H (.lst ds) (.ref a):=by
 obtain⟨vs,r,t⟩:=hr a _ e;simp only[Rep];exact⟨a,vs,rfl,⟨r,n⟩,t.ext (Ext.le h)⟩
mutual
noncomputable def noL:D->Bool
 |.tup ds=>CZ ds
 |.lst _=>false
 |.scr _=>false
 |.emp=>false
 |.box _ _=>false
 |_=>true
noncomputable def CZ:List D->Bool
 |[]=>true
 |d::ds=>noL d&&CZ ds
end
mutual
theorem Rep.hard:∀{d:D}{v:V},noL d=true->Rep K M H d v->(∀a xs,Rd H a (.tup xs)->M' a=none)->Rep K M' H d v
 |.non,_,_,h,_=>h
 |.bl _,_,_,h,_=>h
 |.int _,_,_,h,_=>h
 |.str _,_,_,h,_=>h
 |.ref _,_,_,h,_=>h
 |.emp,_,n,_,_=>by simp[noL]at n
 |.box _ _,_,n,_,_=>by simp[noL]at n
 |.lst _,_,n,_,_=>by simp[noL]at n
 |.scr _,_,n,_,_=>by simp[noL]at n
 |.tup ds,_,n,h,e=>by
  simp only[Rep]at h ⊢;obtain⟨a,vs,rfl,h1,h2⟩:=h;refine⟨a,vs,rfl,?_,au.hard (by simpa[noL]using n) h2 e⟩;rcases h1 with⟨r,_⟩|r
  ·exact .inl ⟨r,e a vs r⟩
  ·exact .inr r
theorem au.hard:∀{ds:List D}{vs:List V},CZ ds=true->au K M H ds vs->(∀a xs,Rd H a (.tup xs)->M' a=none)->au K M' H ds vs
 |[],_,_,h,_=>h
 |d::ds,_,n,h,e=>by
  simp only[au]at h ⊢;obtain⟨v,ws,rfl,h1,h2⟩:=h;simp only[CZ,N6]at n;exact⟨v,ws,rfl,Rep.hard n.1 h1 e,au.hard n.2 h2 e⟩
end
abbrev DE:=List (Option D)
def SR(K:o0) (M:DH) (H:Hp) (σ:St) (Δ:DE):Prop:=σ.length=Δ.length/\∀(i:Nat) (d:D),Δ[i]?=some (some d)->∃v,σ[i]?=some (some v)/\Rep K M H d v
theorem SR.ext{σ:St}{Δ:DE}(h:SR K M H σ Δ) (e:Ext M H M' H'):SR K M' H' σ Δ:=⟨h.1,fun i d q=>let⟨v,a,r⟩:=h.2 i d q;⟨v,a,r.ext e⟩⟩
theorem SR.set{σ:St}{Δ:DE}{d:D}{v:V}(h:SR K M H σ Δ) (i:Nat) (r:Rep K M H d v):SR K M H (σ.set i (some v)) (Δ.set i (some d)):=by
 refine⟨by simp[h.1],fun j e q=>?_⟩
 by_cases hj:j=i
 ·subst hj
  by_cases hl:j<Δ.length
  ·rw[R6 hl]at q;cases q;exact⟨v,R6 (by rw[h.1];exact hl),r⟩
  ·rw[List.getElem?_eq_none (by simp;omega)]at q;cases q
 ·rw[V1 (X0 hj)]at q ⊢;exact h.2 j e q
abbrev TEd:=DE->DH->(D->DH->Prop)->Prop
abbrev TAd:=DE->DH->(List D->DH->Prop)->Prop
abbrev TTd:=DE->DH->(Bool->DH->Prop)->Prop
structure iy where
 nx:DE->DH->Prop
 rt:D->DH->Prop
 bk:DE->DH->Prop:=fun _ _=>False
 ct:DE->DH->Prop:=fun _ _=>False
abbrev TSd:=iy->DE->DH->Prop
def up(K:o0) (t:TEd):TE:=fun σ H Q=>∃(Δ:DE) (M:DH) (R:D->DH->Prop),SR K M H σ Δ/\HR K M H/\t Δ M R /\
 ∀d M' v H',R d M'->Ext M H M' H'->HR K M' H'->Rep K M' H' d v->Q v H'
def upA(K:o0) (t:TAd):TA:=fun σ H Q=>∃(Δ:DE) (M:DH) (R:List D->DH->Prop),SR K M H σ Δ/\HR K M H/\t Δ M R /\
 ∀ds M' vs H',R ds M'->Ext M H M' H'->HR K M' H'->au K M' H' ds vs->Q vs H'
def upT(K:o0) (t:TTd):TT:=fun σ H Q=>∃(Δ:DE) (M:DH) (R:Bool->DH->Prop),SR K M H σ Δ/\HR K M H/\t Δ M R /\
 ∀b M' H',R b M'->Ext M H M' H'->HR K M' H'->Q b H'
theorem upT.el{K:o0}{t:TTd}{σ:St}{H:Hp}{Q:Bool->Hp->Prop}{P:Prop}(h:upT K t σ H Q) (f:∀(Δ:DE) (M:DH) (R:Bool->DH->Prop),SR K M H σ Δ->HR K M H->t Δ M R->(∀b M' H',R b M'->Ext M H M' H'->HR K M' H'->Q b H')->P):P:=by
 obtain⟨x1,x2,x3,a,b,c,d⟩:=h;exact f x1 x2 x3 a b c d
theorem up.el{K:o0}{t:TEd}{σ:St}{H:Hp}{Q:VK}{P:Prop}(h:up K t σ H Q) (f:∀(Δ:DE) (M:DH) (R:D->DH->Prop),SR K M H σ Δ->HR K M H->t Δ M R->(∀d M' v H',R d M'->Ext M H M' H'->HR K M' H'->Rep K M' H' d v->Q v H')->P):P:=by
 obtain⟨x1,x2,x3,a,b,c,d⟩:=h;exact f x1 x2 x3 a b c d
theorem upA.el{K:o0}{t:TAd}{σ:St}{H:Hp}{Q:List V->Hp->Prop}{P:Prop}(h:upA K t σ H Q) (f:∀(Δ:DE) (M:DH) (R:List D->DH->Prop),SR K M H σ Δ->HR K M H->t Δ M R->(∀ds M' vs H',R ds M'->Ext M H M' H'->HR K M' H'->au K M' H' ds vs->Q vs H')->P):P:=by
 obtain⟨x1,x2,x3,a,b,c,d⟩:=h;exact f x1 x2 x3 a b c d
structure UpE(K:o0) (E:iy) (D:sF) (M:DH) (H:Hp):Prop where
 nx:∀ Δ' M' σ' H',E.nx Δ' M'->Ext M H M' H'->HR K M' H'->SR K M' H' σ' Δ'->D.nx σ' H'
 bk:∀ Δ' M' σ' H',E.bk Δ' M'->Ext M H M' H'->HR K M' H'->SR K M' H' σ' Δ'->D.bk σ' H'
 ct:∀ Δ' M' σ' H',E.ct Δ' M'->Ext M H M' H'->HR K M' H'->SR K M' H' σ' Δ'->D.ct σ' H'
 rt:∀d M' v H',E.rt d M'->Ext M H M' H'->HR K M' H'->Rep K M' H' d v->D.rt v H'
theorem UpE.ext{E:iy}{D:sF}(u:UpE K E D M H) (e:Ext M H M' H'):UpE K E D M' H' :=
 ⟨fun a b c d h x=>u.nx a b c d h (e.trans x),fun a b c d h x=>u.bk a b c d h (e.trans x),fun a b c d h x=>u.ct a b c d h (e.trans x),fun a b c d h x=>u.rt a b c d h (e.trans x)⟩
def upS(K:o0) (t:TSd):TS:=fun D σ H=>∃(Δ:DE) (M:DH) (E:iy),SR K M H σ Δ/\HR K M H/\t E Δ M/\UpE K E D M H
theorem upS.el{K:o0}{t:TSd}{E:sF}{σ:St}{H:Hp}{P:Prop}(h:upS K t E σ H) (f:∀(Δ:DE) (M:DH) (R:iy),SR K M H σ Δ->HR K M H->t R Δ M->UpE K R E M H->P):P:=by
 obtain⟨x1,x2,x3,a,b,c,d⟩:=h;exact f x1 x2 x3 a b c d
def PEd(X:Cx) (e:K5) (t:TEd):Prop:=PE X e (up X.K t)
def PAd(X:Cx) (es:List K5) (t:TAd):Prop:=PA X es (upA X.K t)
def PTd(X:Cx) (e:K5) (t:TTd):Prop:=PT X e (upT X.K t)
def PWd(X:Cx) (e:K5) (t:TTd):Prop:=PW X e (upT X.K t)
def PSd(X:Cx) (st:ab0) (t:TSd):Prop:=PS X st (upS X.K t)
def Cq(X:Cx) (st:List ab0) (t:TSd):Prop:=PSs X st (upS X.K t)
theorem PE.conv{X:Cx}{e:K5}{t t':TE}(h:PE X e t) (k:∀ σ H Q,t' σ H Q->t σ H Q):PE X e t':=fun p s σ H Q I q=>h p s σ H Q I (k σ H Q q)
theorem PT.conv{X:Cx}{e:K5}{t t':TT}(h:PT X e t) (k:∀ σ H Q,t' σ H Q->t σ H Q):PT X e t':=fun p s σ H Q I q=>h p s σ H Q I (k σ H Q q)
theorem PA.conv{X:Cx}{e:List K5}{t t':TA}(h:PA X e t) (k:∀ σ H Q,t' σ H Q->t σ H Q):PA X e t':=fun ps p s σ H Q I q=>h ps p s σ H Q I (k σ H Q q)
theorem PS.conv{X:Cx}{e:ab0}{t t':TS}(h:PS X e t) (k:∀D σ H,t' D σ H->t D σ H):PS X e t':=fun p s σ H D I q=>h p s σ H D I (k D σ H q)
theorem PSs.conv{X:Cx}{e:List ab0}{t t':TS}(h:PSs X e t) (k:∀D σ H,t' D σ H->t D σ H):PSs X e t':=fun p s σ H D I q=>h p s σ H D I (k D σ H q)
section
variable{X:Cx}{a b c:K5}{es:List K5}{ta tb:TEd}{pos:Pos}
def eh(i:Nat):TEd:=fun Δ M Q=>∃d,Δ[i]?=some (some d)/\Q d M
def dC(d:D):TEd:=fun _ M Q=>Q d M
theorem CD{x:Str}{i:Int}{t:Tok}{pos:Pos}(hg:Gl X x) (hm:X.mg x=some (.int i t)) (hd:(x==("__debug__":Str))=false:=by decide):PEd X (.Name x pos) (dC (.int i)) :=
 (qU (v:=.int i) hg hm ⟨t,rfl⟩ hd).conv fun σ H Q hup=>hup.el fun Δ M R sr hr q k=>k _ M _ H q (Ext.refl _ _) hr (by simp[Rep])
theorem Dj{x y:Str}{t:Tok}{pos:Pos}(hg:Gl X x) (hm:X.mg x=some (.str y t)) (hd:(x==("__debug__":Str))=false:=by decide):PEd X (.Name x pos) (dC (.str y)) :=
 (qU (v:=.str y) hg hm ⟨t,rfl⟩ hd).conv fun σ H Q hup=>hup.el fun Δ M R sr hr q k=>k _ M _ H q (Ext.refl _ _) hr (by simp[Rep])
def jQ:TAd:=fun _ M Q=>Q [] M
def fm(ta:TEd) (tr:TAd):TAd:=fun Δ M Q=>ta Δ M fun x M1=>tr Δ M1 fun xs M2=>Q (x::xs) M2
def xN(t:TAd):TEd:=fun Δ M Q=>t Δ M fun ds M1=>ds.length<=J3/\Q (.tup ds) M1
def Hj(t:TAd):TEd:=fun Δ M Q=>t Δ M fun ds M1=>ds.length<=J3/\Q (.lst ds) M1
def DS(t:TAd):TEd:=fun Δ M Q=>t Δ M fun ds M1=>ds.length<=J3/\∀p,M1 p=none->Q (.ref p) (av M1 p (.lst ds))
noncomputable def rdM(M:DH):D->D
 |.ref a=>match M a with|some (.lst ds)=>.lst ds|_=>.ref a
 |d=>d
def aU(K:o0) (M:DH) (H:Hp) (d:D) (v:V):Prop:=match d with
 |.tup ds=>∃a vs,v=.ref a/\SqT K H a vs/\au K M H ds vs
 |.lst ds=>∃a vs,v=.ref a/\H a=some (.lst vs)/\au K M H ds vs
 |.scr ds=>∃a vs,v=.ref a/\SqL K H a vs/\au K M H ds vs
 |d=>Rep K M H d v
theorem pW.sq{K:o0}{M:DH}{H:Hp}{a:J8}{vs:List V}(h:pW K M H a vs):SqT K H a vs:=by
 rcases h with⟨h,_⟩|h
 ·exact .inl h
 ·rcases h with(h|⟨_,h⟩)|h
  ·cases h
  ·cases h
  ·exact .inr h
theorem pk.sq{K:o0}{M:DH}{H:Hp}{a:J8}{vs:List V}(h:pk K M H a vs):SqL K H a vs:=by
 rcases h with⟨⟨o,h⟩,_⟩|h
 ·exact .inl (.inr ⟨o,h⟩)
 ·rcases h with(h|⟨_,h⟩)|h
  ·cases h
  ·cases h
  ·exact .inr h
theorem Rep.rd{K:o0}{M:DH}{H:Hp}{d:D}{v:V}(hr:HR K M H) (h:Rep K M H d v):aU K M H (rdM M d) v:=by
 cases d with
 |tup ds=>simp only[Rep]at h;obtain⟨a,vs,e,t,r⟩:=h;exact⟨a,vs,e,t.sq,r⟩
 |lst ds=>simp only[Rep]at h;obtain⟨a,vs,e,t,r⟩:=h;exact⟨a,vs,e,t.1,r⟩
 |scr ds=>simp only[Rep]at h;obtain⟨a,vs,e,t,r⟩:=h;exact⟨a,vs,e,t.sq,r⟩
 |ref a =>
  simp only[rdM];cases q:M a with
  |none=>exact h
  |some o =>
   cases o with
   |lst ds =>
    obtain⟨vs,e,r⟩:=hr a _ q;simp only[Rep]at h;exact⟨a,vs,h,e,r⟩
   |dK _=>exact h
   |dT _=>exact h
   |dKr _ _ _=>exact h
   |ins _ _=>exact h
 |non=>exact h
 |bl b=>exact h
 |int i=>exact h
 |str x=>exact h
 |emp=>exact h
 |box _ _=>exact h
def bQ(X:Cx) (f:u8->u8->Sem u8) (r:D->D->Option D):Prop :=
 ∀(ae:List (J8×Obj)) (s:J0) (σ:St) (H:Hp) (M:DH) (x y:V) (v u:u8) (dx dy dz:D) (Q:VK),Inv X ae σ H s->HR X.K M H->aI x v->aI y u->aU X.K M H dx x->aU X.K M H dy y->r dx dy=some dz ->
  (∀w H',Ext M H M H'->HR X.K M H'->Rep X.K M H' dz w->Q w H')->K4 (K7 X.prog X.w) X.A (f v u) (EP X ae σ Q) X.xe s
def Gy(X:Cx) (f:u8->Sem u8) (r:D->Option D):Prop :=
 ∀(ae:List (J8×Obj)) (s:J0) (σ:St) (H:Hp) (M:DH) (x:V) (v:u8) (dx dz:D) (Q:VK),Inv X ae σ H s->HR X.K M H->aI x v->aU X.K M H dx x->r dx=some dz ->
  (∀w H',Ext M H M H'->HR X.K M H'->Rep X.K M H' dz w->Q w H')->K4 (K7 X.prog X.w) X.A (f v) (EP X ae σ Q) X.xe s
def bj(X:Cx) (f:u8) (r:List D->Option D):Prop :=
 ∀(ae:List (J8×Obj)) (s:J0) (σ:St) (H:Hp) (M:DH) (xs:List V) (us:List u8) (ds:List D) (dz:D) (Q:VK),Inv X ae σ H s->HR X.K M H->az xs us->R1 (aU X.K M H) ds xs->r ds=some dz ->
  (∀w H',Ext M H M H'->HR X.K M H'->Rep X.K M H' dz w->Q w H')->K4 (K7 X.prog X.w) X.A (call f us) (EP X ae σ Q) X.xe s
def dOp(r:D->D->Option D) (ta tb:TEd):TEd:=fun Δ M Q=>ta Δ M fun x M1=>tb Δ M1 fun y M2=>∃z,r (rdM M2 x) (rdM M2 y)=some z/\Q z M2
def dUn(r:D->Option D) (ta:TEd):TEd:=fun Δ M Q=>ta Δ M fun x M1=>∃z,r (rdM M1 x)=some z/\Q z M1
def opV(K:o0) (r:D->D->Option D):R2:=fun x y H Q=>∃dx dy dz M,HR K M H/\aU K M H dx x/\aU K M H dy y/\r dx dy=some dz/\∀w H',Ext M H M H'->HR K M H'->Rep K M H' dz w->Q w H'
theorem bQ.v{f:u8->u8->Sem u8}{r:D->D->Option D}(h:bQ X f r):OpR X f (opV X.K r):=fun ae s σ H x y v u Q I rx ry ⟨dx,dy,dz,M,hr,r1,r2,e,k⟩=>h ae s σ H M x y v u dx dy dz Q I hr rx ry r1 r2 e k
theorem zB{K:o0}{r:D->D->Option D}{ta tb:TEd}:∀ σ H Q,up K (dOp r ta tb) σ H Q->tOp (opV K r) (up K ta) (up K tb) σ H Q:=fun σ H Q hup=>hup.el fun Δ M R sr hr q k =>
 ⟨Δ,M,_,sr,hr,q,fun x M1 v H1 q1 e1 hr1 rv=>⟨Δ,M1,_,sr.ext e1,hr1,q1,fun y M2 u H2 ⟨z,ez,q2⟩ e2 hr2 ru=>⟨_,_,z,M2,hr2,(rv.ext e2).rd hr2,ru.rd hr2,ez,fun w H' e3 hr3 rw_=>k z M2 w H' q2 ((e1.trans e2).trans e3) hr3 rw_⟩⟩⟩
def nK(t:TEd):TTd:=fun Δ M Q=>t Δ M fun x M1=>∃k,x=.bl k/\Q k M1
theorem G4{K:o0}{t:TEd}:∀ σ H Q,upT K (nK t) σ H Q->By (up K t) σ H Q:=fun σ H Q hup=>hup.el fun Δ M R sr hr q k =>
 ⟨Δ,M,_,sr,hr,q,fun d M1 v H1 ⟨b,e,q1⟩ e1 hr1 rv=>⟨b,by subst e;simpa only[Rep]using rv,k b M1 H1 q1 e1 hr1⟩⟩
def DC(t:TTd):TTd:=fun Δ M Q=>t Δ M fun c M1=>Q (!c) M1
def Af(t u:TTd):TTd:=fun Δ M Q=>t Δ M fun c M1=>if c=true then u Δ M1 Q else Q false M1
def Ib(t u:TTd):TTd:=fun Δ M Q=>t Δ M fun c M1=>if c=true then Q true M1 else u Δ M1 Q
variable{tA tB':TTd}{bS:List K5}
theorem PW.conv{X:Cx}{e:K5}{t t':TT}(h:PW X e t) (k:∀ σ H Q,t' σ H Q->t σ H Q):PW X e t':=fun w p s σ H Q I q=>h w p s σ H Q I (k σ H Q q)
theorem PWd.pt{e:K5}{t:TTd}(h:PWd X e t):PTd X e t:=PW.pt h
def HL(ta tb:TEd):TEd:=fun Δ M Q=>ta Δ M fun x M1=>∃c,x=.bl c/\if c=true then tb Δ M1 Q else Q (.bl false) M1
def dOr(ta tb:TEd):TEd:=fun Δ M Q=>ta Δ M fun x M1=>∃c,x=.bl c/\if c=true then Q (.bl true) M1 else tb Δ M1 Q
def GC(ta:TEd):TEd:=fun Δ M Q=>ta Δ M fun x M1=>∃c,x=.bl c/\Q (.bl (!c)) M1
def dIf(t:TTd) (ta tb:TEd):TEd:=fun Δ M Q=>t Δ M fun c M1=>if c=true then ta Δ M1 Q else tb Δ M1 Q
def vo(r r':D->D->Option D) (ta tb tc:TEd):TEd:=fun Δ M Q=>ta Δ M fun x M1=>tb Δ M1 fun y M2=>∃k,r (rdM M2 x) (rdM M2 y)=some (.bl k)/\if k=true then tc Δ M2 fun z M3=>∃w,r' (rdM M3 y) (rdM M3 z)=some w/\Q w M3 else Q (.bl false) M2
theorem vH{K:o0}{M:DH}{H:Hp}(hr:HR K M H):∀{ds:List D}{vs:List V},au K M H ds vs->R1 (aU K M H) (ds.map (rdM M)) vs
 |[],_,h=>by simp only[au]at h;subst h;exact .nil
 |d::ds,_,h=>by
  simp only[au]at h;obtain⟨v,ws,rfl,h1,h2⟩:=h;exact .cons (h1.rd hr) (vH hr h2)
def dCB(r:List D->Option D) (t:TAd):TEd:=fun Δ M Q=>t Δ M fun ds M1=>∃z,r (ds.map (rdM M1))=some z/\Q z M1
theorem DP{K:o0}{r:List D->Option D}{t:TAd}:∀ σ H Q,up K (dCB r t) σ H Q->tCB (fun xs H Q=>∃ds dz M,HR K M H/\R1 (aU K M H) ds xs/\r ds=some dz/\∀w H',Ext M H M H'->HR K M H'->Rep K M H' dz w->Q w H') (upA K t) σ H Q:=fun σ H Q hup=>hup.el fun Δ M R sr hr q k =>
 ⟨Δ,M,_,sr,hr,q,fun ds M1 vs H1 ⟨z,ez,q1⟩ e1 hr1 rv=>⟨_,z,M1,hr1,vH hr1 rv,ez,fun w H' e2 hr2 r2=>k z M1 w H' q1 (e1.trans e2) hr2 r2⟩⟩
theorem bj.v{f:u8}{r:List D->Option D}(h:bj X f r):cP X f (fun xs H Q=>∃ds dz M,HR X.K M H/\R1 (aU X.K M H) ds xs/\r ds=some dz/\∀w H',Ext M H M H'->HR X.K M H'->Rep X.K M H' dz w->Q w H') :=
 fun ae s σ H xs us Q I rv ⟨ds,dz,M,hr,rr,e,k⟩=>h ae s σ H M xs us ds dz Q I hr rv rr e k
end
section
variable{X:Cx}
theorem bQ.of{f:u8->u8->Sem u8}{r2:R2}{r:D->D->Option D}(h:OpR X f r2)
  (k:∀(H:Hp) (M:DH) (x y:V) (dx dy dz:D) (Q:VK),HR X.K M H->aU X.K M H dx x->aU X.K M H dy y->r dx dy=some dz->(∀w H',Ext M H M H'->HR X.K M H'->Rep X.K M H' dz w->Q w H')->r2 x y H Q):bQ X f r :=
 fun ae s σ H M x y v u dx dy dz Q I hr rx ry r1 r2 e q=>h ae s σ H x y v u Q I rx ry (k H M x y dx dy dz Q hr r1 r2 e q)
theorem bj.of{f:u8}{r2:List V->Hp->VK->Prop}{r:List D->Option D}(h:cP X f r2)
  (k:∀(H:Hp) (M:DH) (xs:List V) (ds:List D) (dz:D) (Q:VK),HR X.K M H->R1 (aU X.K M H) ds xs->r ds=some dz->(∀w H',Ext M H M H'->HR X.K M H'->Rep X.K M H' dz w->Q w H')->r2 xs H Q):bj X f r :=
 fun ae s σ H M xs us ds dz Q I hr rv r1 e q=>h ae s σ H xs us Q I rv (k H M xs ds dz Q hr r1 e q)
theorem dI{K:o0}{M:DH}{H:Hp}{i:Int}{v:V}(h:aU K M H (.int i) v):v=.int i:=by simpa[aU,Rep]using h
theorem oY{K:o0}{M:DH}{H:Hp}{i:Str}{v:V}(h:aU K M H (.str i) v):v=.str i:=by simpa[aU,Rep]using h
theorem Hh{K:o0}{M:DH}{H:Hp}{v:V}(h:aU K M H .non v):v=.non:=by simpa[aU,Rep]using h
noncomputable def iOp(f:Int->Int->Option D):D->D->Option D
 |.int a,.int b=>f a b
 |_,_=>none
theorem k5{f:Int->Int->Option D}{x y z:D}(h:iOp f x y=some z):∃a b,x=.int a/\y=.int b/\f a b=some z:=by
 cases x<;>first|cases h|skip
 rename_i a;cases y<;>first|cases h|skip
 rename_i b;exact⟨a,b,rfl,rfl,h⟩
noncomputable def bZ:D->Bool
 |.non=>true|.bl _=>true|.int _=>true|.str _=>true|_=>false
noncomputable def toV:D->V
 |.bl b=>.bl b|.int i=>.int i|.str x=>.str x|_=>.non
theorem tT{K:o0}{M:DH}{H:Hp}{d:D}(h:bZ d=true):Rep K M H d (toV d):=by
 cases d<;>first|(simp[Rep,toV];done)|cases h
theorem rW{f:u8->u8->Sem u8}{C:Int->Int->Prop} [∀i j,Decidable (C i j)] {g:Int->Int->D}(hs:∀i j,bZ (g i j)=true) (h:OpR X f (rI C fun i j=>toV (g i j))) :
  bQ X f (iOp fun i j=>if C i j then some (g i j)else none) :=
 bQ.of h fun H M x y dx dy dz Q hr r1 r2 e q=>by
  obtain⟨a,b,rfl,rfl,e'⟩:=k5 e;clear e;have e:=e'
  by_cases hc:C a b
  ·rw[if_pos hc]at e;cases e;exact⟨a,b,dI r1,dI r2,hc,q _ _ (Ext.refl _ _) hr (tT (hs a b))⟩
  ·rw[if_neg hc]at e;cases e
theorem lh{f:u8->u8->Sem u8}{g:Int->Int->D}(hs:∀i j,bZ (g i j)=true) (h:OpR X f (rI0 fun i j=>toV (g i j))) :
  bQ X f (iOp fun i j=>some (g i j)) :=
 bQ.of h fun H M x y dx dy dz Q hr r1 r2 e q=>by
  obtain⟨a,b,rfl,rfl,e⟩:=k5 e;cases e;exact⟨a,b,dI r1,dI r2,q _ _ (Ext.refl _ _) hr (tT (hs a b))⟩
instance:∀i j,Decidable (nU i j):=fun i j=>by unfold nU;exact inferInstance
instance:∀i j,Decidable (iz i j):=fun i j=>by unfold iz;exact inferInstance
instance:∀i j,Decidable (xq i j):=fun i j=>by unfold xq;exact inferInstance
theorem DF:bQ X (P7 .Sub) (iOp fun i j=>some (.int (i-j))):=lh (fun _ _=>rfl) Fe
theorem FC:bQ X (P7 .Mult) (iOp fun i j=>if iz i j then some (.int (i*j))else none):=rW (fun _ _=>rfl) E6
theorem vB:bQ X (P7 .FloorDiv) (iOp fun i j=>if nU i j then some (.int (i / j))else none):=rW (fun _ _=>rfl) B1
theorem fT:bQ X (P7 .Mod) (iOp fun i j=>if 0<j then some (.int (i % j))else none):=rW (C:=fun _ j=>0<j) (fun _ _=>rfl) FW
theorem HN:bQ X (P7 .Pow) (iOp fun i j=>if xq i j then some (.int (i ^ j.toNat))else none):=rW (fun _ _=>rfl) FN
theorem yJ:bQ X (L3 .Lt) (iOp fun i j=>some (.bl (decide (i<j)))):=lh (fun _ _=>rfl) GF
theorem CS:bQ X (L3 .LtE) (iOp fun i j=>some (.bl (decide (i<=j)))):=lh (fun _ _=>rfl) Gg
theorem Gc:bQ X (L3 .Gt) (iOp fun i j=>some (.bl (decide (j<i)))):=lh (fun _ _=>rfl) HK
theorem EI:bQ X (L3 .GtE) (iOp fun i j=>some (.bl (decide (j<=i)))):=lh (fun _ _=>rfl) HI
theorem au.at_{K:o0}{M:DH}{H:Hp}{ds:List D}{vs:List V}{i:Int}{d:D}(h:au K M H ds vs) (e:atI ds i=some d):∃v,atI vs i=some v/\Rep K M H d v:=by
 unfold atI at e ⊢;rw[<-h.length];cases q:ixN ds.length i with
 |none=>rw[q]at e;cases e
 |some j =>
  rw[q]at e;have e':ds[j]?=some d:=e;obtain⟨v,a,b⟩:=h.get e';exact⟨v,a,b⟩
def ixD:D->D->Option D
 |.tup ds,.int i=>atI ds i
 |.lst ds,.int i=>atI ds i
 |.scr ds,.int i=>atI ds i
 |.str z,.int i=>if z.length<=J3 then(atI z.cps.toList i).map fun c=>.str ⟨#[c]⟩else none
 |_,_=>none
theorem aY:IxR X (opV X.K ixD):=by
 intro value slice ae s σ H x y v u Q I rx ry h hs;obtain⟨dx,dy,dz,M,hr,r1,r2,e,k⟩:=h;cases dx with
 |tup ds =>
  cases dy with
  |int i =>
   obtain⟨a,vs,rfl,sq,rl⟩:=r1;obtain⟨w,e2,rw_⟩:=rl.at_ e;exact E7 value slice ae s σ H _ _ v u Q I rx ry ⟨a,vs,i,w,rfl,dI r2,sq,e2,k w H (Ext.refl _ _) hr rw_⟩ hs
  |_=>cases e
 |lst ds =>
  cases dy with
  |int i =>
   obtain⟨a,vs,rfl,sq,rl⟩:=r1;obtain⟨w,e2,rw_⟩:=rl.at_ e;exact vM value slice ae s σ H _ _ v u Q I rx ry ⟨a,vs,i,w,rfl,dI r2,SqL.of sq,e2,k w H (Ext.refl _ _) hr rw_⟩ hs
  |_=>cases e
 |scr ds =>
  cases dy with
  |int i =>
   obtain⟨a,vs,rfl,sq,rl⟩:=r1;obtain⟨w,e2,rw_⟩:=rl.at_ e;exact vM value slice ae s σ H _ _ v u Q I rx ry ⟨a,vs,i,w,rfl,dI r2,sq,e2,k w H (Ext.refl _ _) hr rw_⟩ hs
  |_=>cases e
 |str z =>
  cases dy with
  |int i =>
   simp only[ixD]at e
   by_cases hz:z.length<=J3
   ·rw[if_pos hz]at e;cases q:atI z.cps.toList i with
    |none=>rw[q]at e;cases e
    |some c =>
     rw[q]at e;cases e;exact Gd value slice ae s σ H _ _ v u Q I rx ry ⟨z,i,c,oY r1,dI r2,hz,q,k _ H (Ext.refl _ _) hr (by simp[Rep])⟩ hs
   ·rw[if_neg hz]at e;cases e
  |_=>cases e
 |_=>cases e
noncomputable def i8:D->D->Option D
 |.int a,.int b=>some (.int (a+b))
 |.str a,.str b=>if a.length+b.length<=J3 then some (.str (a++b))else none
 |.lst a,.lst b=>if a.length+b.length<=J3 then some (.lst (a++b))else none
 |.tup a,.tup b=>if a.length+b.length<=J3 then some (.tup (a++b))else none
 |_,_=>none
theorem gN{K:o0}{M:DH}{H:Hp}{p:J8}{ds:List D}{vs:List V}{Q:VK}(hr:HR K M H) (hp:H p=none) (r:au K M H ds vs) (q:∀w H',Ext M H M H'->HR K M H'->Rep K M H' (.lst ds) w->Q w H'):Q (.ref p) (upd H p (.lst vs)) :=
 q _ _ (Ext.new hr hp) (hr.new hp) (by simp only[Rep];exact⟨p,vs,rfl,⟨aB,hr.fresh hp⟩,r.ext (Ext.new hr hp)⟩)
theorem j7{K:o0}{M:DH}{H:Hp}{p:J8}{ds:List D}{vs:List V}{Q:VK}(hr:HR K M H) (hp:H p=none) (r:au K M H ds vs) (q:∀w H',Ext M H M H'->HR K M H'->Rep K M H' (.tup ds) w->Q w H'):Q (.ref p) (upd H p (.tup vs)) :=
 q _ _ (Ext.new hr hp) (hr.new hp) (by simp only[Rep];exact⟨p,vs,rfl,.inl ⟨.inl aB,hr.fresh hp⟩,r.ext (Ext.new hr hp)⟩)
theorem aU.tup{K:o0}{M:DH}{H:Hp}{ds:List D}{v:V}(hr:HR K M H) (h:aU K M H (.tup ds) v):Rep K M H (.tup ds) v:=by
 obtain⟨a,vs,rfl,sq,rl⟩:=h;simp only[Rep];refine⟨a,vs,rfl,?_,rl⟩;rcases sq with r|k
 ·refine .inl ⟨r,?_⟩;cases q:M a with
  |none=>rfl
  |some o =>
   obtain⟨u,z,m⟩:=(hr a _ q).some;rcases r with r|⟨ob,r⟩
   ·rw[z]at r;exact absurd (N4 r) (m _).1
   ·rw[z]at r;exact absurd (N4 r) ((m _).2 ob)
 ·exact .inr (.inr k)
theorem Aq{prog:L1}{w:O6}{A:N1}{E:u8->J0->Prop}{s:J0}{t b:J8}{ws:List u8}{Q:u8->J0->Prop}(ht:ad7 s.heap t ([]:List u8).toArray) (hb:ad7 s.heap b ws.toArray)
  (h:Q (.ref b) s):K4 (K7 prog w) A (P7 .Add (.ref t) (.ref b)) Q E s:=by
 obtain⟨⟨cls,dd,data,sl⟩,ho,hc,n,hd⟩:=id ht;obtain⟨⟨cls2,dd2,data2,sl2⟩,ho2,hc2,n2,hd2⟩:=id hb;simp only at hc hd hc2 hd2;subst hc hd hc2 hd2;exact concat_meets ⟨_,ho,rfl⟩ ⟨_,ho2,rfl⟩ noFill_tuple_add seq_tuple_add PySem.F.slot_tuple_add PySem.F.entry_tuple_add (PySem.F.args_tuple_add_2 _ _)
   (tuple_addW0 t b ([]:List u8).toArray ws.toArray n n2 dd dd2 sl sl2 (by simp)) ⟨ho,ho2,h⟩
theorem aW:bQ X (P7 .Add) i8:=by
 intro ae s σ H M x y v u dx dy dz Q I hr rx ry r1 r2 e k;cases dx with
 |int a =>
  cases dy with
  |int b =>
   cases e;exact D7 ae s σ H x y v u Q I rx ry ⟨a,b,dI r1,dI r2,k _ H (Ext.refl _ _) hr (by simp[Rep])⟩
  |_=>cases e
 |str a =>
  cases dy with
  |str b =>
   simp only[i8]at e
   by_cases hz:a.length+b.length<=J3
   ·rw[if_pos hz]at e;cases e;exact ux ae s σ H x y v u Q I rx ry ⟨a,b,oY r1,oY r2,hz,k _ H (Ext.refl _ _) hr (by simp[Rep])⟩
   ·rw[if_neg hz]at e;cases e
  |_=>cases e
 |lst a =>
  cases dy with
  |lst b =>
   simp only[i8]at e
   by_cases hz:a.length+b.length<=J3
   ·rw[if_pos hz]at e;cases e;obtain⟨l1,vs,rfl,h1,l1r⟩:=r1;obtain⟨l2,ws,rfl,h2,l2r⟩:=r2;exact FF ae s σ H _ _ v u Q I rx ry ⟨l1,l2,vs,ws,rfl,rfl,h1,h2,by rw[<-l1r.length,<-l2r.length];exact hz,fun p hp=>gN hr hp (l1r.append l2r) k⟩
   ·rw[if_neg hz]at e;cases e
  |_=>cases e
 |tup a =>
  cases dy with
  |tup b =>
   simp only[i8]at e
   by_cases hz:a.length+b.length<=J3
   ·rw[if_pos hz]at e;cases e;have t1:=aU.tup hr r1;have t2:=aU.tup hr r2;obtain⟨l1,vs,rfl,h1,l1r⟩:=r1;obtain⟨l2,ws,rfl,h2,l2r⟩:=r2
    by_cases hv:vs=[]
    ·subst hv;have ea:a=[]:=by
      have:=l1r.length;cases a with
      |nil=>rfl
      |cons _ _=>simp at this
     subst ea;cases rx;cases ry;obtain⟨its,q1,p1,_⟩:=I.tuple h1;obtain⟨its2,q2,p2,_⟩:=I.tuple h2;cases q1;exact Aq p1 p2 ⟨.ref l2,H,I,rfl,k _ H (Ext.refl _ _) hr t2⟩
    ·refine Dn ae s σ H _ _ v u Q I rx ry ⟨l1,l2,vs,ws,rfl,rfl,h1,h2,hv,by rw[<-l1r.length,<-l2r.length];exact hz,fun hw=>?_,fun _ p hp=>j7 hr hp (l1r.append l2r) k⟩;subst hw;have eb:b=[]:=by
      have:=l2r.length;cases b with
      |nil=>rfl
      |cons _ _=>simp at this
     subst eb;rw[Z7]at k;exact k _ H (Ext.refl _ _) hr t1
   ·rw[if_neg hz]at e;cases e
  |_=>cases e
 |_=>cases e
mutual
noncomputable def eqD:D->D->Bool
 |.non,.non=>true
 |.bl a,.bl b=>a==b
 |.bl a,.int b=>(if a then 1 else 0)==b
 |.int a,.bl b=>a==(if b then 1 else 0)
 |.int a,.int b=>a==b
 |.str a,.str b=>a==b
 |.tup a,.tup b=>dQ a b
 |.lst a,.lst b=>dQ a b
 |_,_=>false
noncomputable def dQ:List D->List D->Bool
 |[],[]=>true
 |a::as,b::bs=>eqD a b&&dQ as bs
 |_,_=>false
end
mutual
noncomputable def dLe:D->Nat->Bool
 |.tup _,0=>false
 |.tup ds,n+1=>cM ds n
 |.lst _,0=>false
 |.lst ds,n+1=>cM ds n
 |.scr _,_=>false
 |.emp,_=>false
 |.box _ _,_=>false
 |.ref _,_=>false
 |_,_=>true
noncomputable def cM:List D->Nat->Bool
 |[],_=>true
 |d::ds,n=>dLe d n&&cM ds n
end
theorem gi:∀{ds:List D}{n i:Nat}{d:D},cM ds n=true->ds[i]?=some d->dLe d n=true
 |[],_,_,_,_,e=>by simp at e
 |d::ds,n,0,x,h,e=>by
  simp only[cM,N6]at h;simp at e;subst e;exact h.1
 |d::ds,n,i+1,x,h,e=>by
  simp only[cM,N6]at h;exact gi h.2 (by simpa using e)
theorem i3:∀{ds:List D}{n:Nat},cM ds n=true↔∀d∈ds,dLe d n=true
 |[],n=>by simp[cM]
 |d::ds,n=>by simp[cM,i3 (ds:=ds)]
noncomputable def eqN(ds es:List D) (j:Nat):Bool:=match ds[j]?,es[j]? with|some a,some b=>eqD a b|_,_=>false
theorem sx:∀{ds es:List D},dQ ds es=true->ds.length=es.length
 |[],[],_=>rfl
 |[],_::_,h=>by simp[dQ]at h
 |_::_,[],h=>by simp[dQ]at h
 |_::ds,_::es,h=>by
  simp only[dQ,N6]at h;simp[sx h.2]
theorem oJ:∀{ds es:List D},dQ ds es=((V7 (min ds.length es.length)).all (eqN ds es)&&ds.length==es.length)
 |[],[]=>by simp[dQ]
 |[],_::_=>by simp[dQ]
 |_::_,[]=>by simp[dQ]
 |a::ds,b::es=>by
  have ih:=@oJ ds es;simp only[dQ,N5,Nat.add_min_add_right,List.range_succ_eq_map,W6,List.all_map];have e0:eqN (a::ds) (b::es) 0=eqD a b:=by simp[eqN]
  have e1:(eqN (a::ds) (b::es))∘Nat.succ=eqN ds es:=by
   funext j;simp[eqN]
  rw[e0,e1,ih];have e2:(ds.length+1==es.length+1)=(ds.length==es.length):=by
   rw[Bool.eq_iff_iff];simp
  rw[e2,Bool.and_assoc]
theorem xP{ds es:List D}(h:ds.length=es.length):dQ ds es=(V7 ds.length).all (eqN ds es):=by
 rw[oJ,<-h,Nat.min_self];simp
theorem Rep.r{K:o0}{M:DH}{H:Hp}{d:D}{v:V}(h:Rep K M H d v):aU K M H d v:=by
 cases d with
 |tup ds=>simp only[Rep]at h;obtain⟨a,vs,e,t,r⟩:=h;exact⟨a,vs,e,t.sq,r⟩
 |lst ds=>simp only[Rep]at h;obtain⟨a,vs,e,t,r⟩:=h;exact⟨a,vs,e,t.1,r⟩
 |scr ds=>simp only[Rep]at h;obtain⟨a,vs,e,t,r⟩:=h;exact⟨a,vs,e,t.sq,r⟩
 |_=>exact h
theorem Dt{ae:List (J8×Obj)}{σ:St}{H:Hp}{s:J0}{a:J8}{vs ws:List V}(I:Inv X ae σ H s) (h:SqT X.K H a vs) (h':H a=some (.lst ws)):False:=by
 obtain⟨its,r,⟨o,e,c,n,d⟩,_⟩:=I.tuple h;obtain⟨_,its',n',_,e'⟩:=I.hok a _ h';rw[e]at e';cases e';exact absurd (show ab8 "list"=ab8 "tuple" from c) (by decide)
theorem z3{ae:List (J8×Obj)}{σ:St}{H:Hp}{s:J0}(I:Inv X ae σ H s) {M M':DH}:∀(n:Nat) {d e:D}{v:V},dLe d n=true->dLe e n=true->aU X.K M H d v->aU X.K M' H e v->eqD d e=true:=by
  intro n
  induction n with
  | zero =>
    intro d e v hd he r1 r2;cases d<;>first|(simp[dLe]at hd;done)|skip
    all_goals cases e<;>first|(simp[dLe]at he;done)|skip
    all_goals (simp only[aU,Rep]at r1 r2;subst r1;first|(cases r2;simp[eqD];done)|cases r2)
  | succ n ih =>
    intro d e v hd he r1 r2;have lists:∀{ds es:List D} {vs:List V},cM ds n=true->cM es n=true->au X.K M H ds vs->au X.K M' H es vs->dQ ds es=true:=by
      intro ds
      induction ds with
      | nil =>
        intro es vs _ _ h1 h2;simp only[au]at h1;subst h1;cases es with
        |nil=>simp[dQ]
        |cons _ _=>simp[au]at h2
      | cons a ds ihl =>
        intro es vs d1 d2 h1 h2;simp only[au]at h1;obtain⟨v,ws,rfl,h3,h4⟩:=h1;cases es with
        |nil=>simp[au]at h2
        | cons b es =>
          simp only[au]at h2;obtain⟨v',ws',e',h5,h6⟩:=h2;cases e';simp only[cM,N6]at d1 d2;simp only[dQ,N6];exact⟨ih d1.1 d2.1 h3.r h5.r,ihl d1.2 d2.2 h4 h6⟩
    cases d with
    | tup ds =>
      obtain⟨a,vs,rfl,sq,rl⟩:=r1;cases e with
      | tup es =>
        obtain⟨b,ws,e',sq',rl'⟩:=r2;cases e';have:=I.tuple_inj sq sq';subst this;simp only[eqD];exact lists (by simpa[dLe]using hd) (by simpa[dLe]using he) rl rl'
      | lst es =>
        obtain⟨b,ws,e',sq',rl'⟩:=r2;cases e';exact(Dt I sq sq').elim
      |_=>first|(simp[dLe]at he;done)|(simp only[aU,Rep]at r2;cases r2)
    | lst ds =>
      obtain⟨a,vs,rfl,sq,rl⟩:=r1;cases e with
      | lst es =>
        obtain⟨b,ws,e',sq',rl'⟩:=r2;cases e';rw[sq]at sq';cases sq';simp only[eqD];exact lists (by simpa[dLe]using hd) (by simpa[dLe]using he) rl rl'
      | tup es =>
        obtain⟨b,ws,e',sq',rl'⟩:=r2;cases e';exact(Dt I sq' sq).elim
      |_=>first|(simp[dLe]at he;done)|(simp only[aU,Rep]at r2;cases r2)
    | _ =>
      first
      |(simp[dLe]at hd;done)
      | (cases e with
         |tup es=>(obtain⟨b,ws,e',sq',rl'⟩:=r2;subst e';simp only[aU,Rep]at r1;cases r1)
         |lst es=>(obtain⟨b,ws,e',sq',rl'⟩:=r2;subst e';simp only[aU,Rep]at r1;cases r1)
         |_=>first|(simp[dLe]at he;done)|(simp only[aU,Rep]at r1 r2;subst r1;first|(cases r2;simp[eqD];done)|cases r2))
theorem aU.at{K:o0}{M:DH}{H:Hp}{d:D}{v:V}{u:u8}(r:aU K M H d v) (q:aI v u):match d with|.non=>u=.none|.bl b=>u=.bool b|.int i=>∃t,u=.int i t|.str x=>∃t,u=.str x t|_=>True:=by
 cases d<;>first|trivial|(simp only[aU,Rep]at r;subst r;exact q)
open PySem.SeqAt in
theorem ox{ae:List (J8×Obj)}{σ:St}{H:Hp}{s:J0}(I:Inv X ae σ H s) {M M':DH}:∀(n:Nat) {A:N1}{d e:D}{v w:V}{u1 u2:u8},A.units+n<aa1->dLe d n=true->dLe e n=true ->
  aU X.K M H d v->aU X.K M' H e w->aI v u1->aI w u2->EqAt A s u1 u2 (eqD d e)/\RcAt A s u1 u2 (eqD d e)/\RcNeAt A s u1 u2 (!(eqD d e)):=by
 intro n
 induction n with
 |zero =>
  intro A d e v w u1 u2 hu hd he r1 r2 q1 q2;have hu0:A.units<aa1:=by assumption
  cases d<;>first|(simp[dLe]at hd;done)|skip
  all_goals cases e<;>first|(simp[dLe]at he;done)|skip
  all_goals simp only[aU,Rep]at r1 r2
  all_goals subst r1
  all_goals subst r2
  all_goals simp only[aI]at q1 q2
  all_goals first|(obtain⟨t1,rfl⟩:=q1)|subst q1
  all_goals first|(obtain⟨t2,rfl⟩:=q2)|subst q2
  all_goals simp only[eqD]
  ·exact⟨EqAt.same _,RcAt.none_none,RcNeAt.none_none⟩
  ·exact⟨EqAt.none_bool _,RcAt.none_bool _,RcNeAt.none_bool _⟩
  ·exact⟨EqAt.none_int _ _,RcAt.none_int _ _,RcNeAt.none_int _ _⟩
  ·exact⟨EqAt.none_str _ _,RcAt.none_str _ _,RcNeAt.none_str _ _⟩
  ·exact⟨EqAt.bool_none _,RcAt.bool_none _,RcNeAt.bool_none _⟩
  ·exact⟨EqAt.bool_bool _ _,RcAt.bool_bool _ _,RcNeAt.bool_bool _ _⟩
  ·exact⟨EqAt.bool_int _ _ _,RcAt.bool_int _ _ _,RcNeAt.bool_int _ _ _⟩
  ·exact⟨EqAt.bool_str _ _ _,RcAt.bool_str _ _ _,RcNeAt.bool_str _ _ _⟩
  ·exact⟨EqAt.int_none _ _,RcAt.int_none _ _,RcNeAt.int_none _ _⟩
  ·exact⟨EqAt.int_bool _ _ _,RcAt.int_bool _ _ _,RcNeAt.int_bool _ _ _⟩
  ·exact⟨EqAt.int_int _ _ _ _,RcAt.int_int _ _ _ _,RcNeAt.int_int _ _ _ _⟩
  ·exact⟨EqAt.int_str _ _ _ _,RcAt.int_str _ _ _ _,RcNeAt.int_str _ _ _ _⟩
  ·exact⟨EqAt.str_none _ _,RcAt.str_none _ _,RcNeAt.str_none _ _⟩
  ·exact⟨EqAt.str_bool _ _ _,RcAt.str_bool _ _ _,RcNeAt.str_bool _ _ _⟩
  ·exact⟨EqAt.str_int _ _ _ _,RcAt.str_int _ _ _ _,RcNeAt.str_int _ _ _ _⟩
  ·exact⟨EqAt.str_str _ _ _ _,RcAt.str_str _ _ _ _,RcNeAt.str_str _ _ _ _⟩
 |succ n ih =>
  intro A d e v w u1 u2 hu hd he r1 r2 q1 q2;have hu0:A.units<aa1:=by omega
  have hu1:A.in1.units+n<aa1:=by show A.units+1+n<aa1;omega
  have item:∀{ds es:List D} {vs ws:List V} {us us2:List u8},cM ds n=true->cM es n=true->au X.K M H ds vs->au X.K M' H es ws->az vs us->az ws us2 ->
    ∀j (h1:j<us.toArray.size) (h2:j<us2.toArray.size),EqAt A.in1 s us.toArray[j] us2.toArray[j] (eqN ds es j):=by
   intro ds es vs ws us us2 d1 d2 h1 h2 h3 h4 j hj1 hj2;have l1:=h1.length;have l2:=h2.length;have l3:=h3.length;have l4:=h4.length;have j1:j<ds.length:=by simp at hj1;omega
   have j2:j<es.length:=by simp at hj2;omega
   obtain⟨v1,g1,p1⟩:=h1.get (i:=j) (d:=ds[j]) (by simp[j1]);obtain⟨v2,g2,p2⟩:=h2.get (i:=j) (d:=es[j]) (by simp[j2]);obtain⟨u1,k1,m1⟩:=h3.get g1;obtain⟨u2,k2,m2⟩:=h4.get g2;have e1:us.toArray[j]=u1:=by
    simp at hj1;simpa[List.getElem?_eq_getElem hj1]using k1
   have e2:us2.toArray[j]=u2:=by
    simp at hj2;simpa[List.getElem?_eq_getElem hj2]using k2
   rw[e1,e2];have e3:eqN ds es j=eqD ds[j] es[j]:=by simp[eqN,j1,j2]
   rw[e3];exact(ih hu1 (gi d1 (i:=j) (by simp[j1])) (gi d2 (i:=j) (by simp[j2])) p1.r p2.r m1 m2).1
  have both:∀{a b:J8},v=.ref a->w=.ref b->RcAt A s (.ref a) (.ref b) (eqD d e)->EqAt A s (.ref a) (.ref b) (eqD d e):=by
   intro a b ea eb rc
   by_cases hab:a=b
   ·subst hab;subst ea;subst eb;rw[z3 I (n+1) hd he r1 r2];exact EqAt.same _
   ·exact EqAt.of_refs hab rc
  cases d with
  |tup ds =>
   obtain⟨a,vs,rfl,sq,rl⟩:=id r1;cases q1;obtain⟨its,rv,pt,_⟩:=I.tuple sq;have hd':cM ds n=true:=by simpa[dLe]using hd
   cases e with
   |tup es =>
    obtain⟨b,ws,rfl,sq',rl'⟩:=id r2;cases q2;obtain⟨its2,rv2,pt2,_⟩:=I.tuple sq';have he':cM es n=true:=by simpa[dLe]using he
    have it:=item hd' he' rl rl' rv rv2;have t1:=RcAt.tuples (e:=eqN ds es) pt pt2 hu0 it;have t2:=RcNeAt.tuples (e:=eqN ds es) pt pt2 hu0 it;rw[J4,J4,<-rv.length,<-rv2.length,<-rl.length,<-rl'.length,<-oJ]at t1 t2;have rc:RcAt A s (.ref a) (.ref b) (eqD (.tup ds) (.tup es)):=by simpa only[eqD]using t1
    exact⟨both rfl rfl rc,rc,by simpa only[eqD]using t2⟩
   |lst es =>
    obtain⟨b,ws,rfl,sq',rl'⟩:=id r2;cases q2;obtain⟨its2,rv2,pt2,_⟩:=I.list (SqL.of sq');simp only[eqD];exact⟨EqAt.tuple_list pt pt2.isList hu0,RcAt.tuple_list pt pt2.isList hu0,RcNeAt.tuple_list pt pt2.isList hu0⟩
   |non=>obtain rfl:=r2.at q2;simp only[eqD];exact⟨EqAt.tuple_none pt hu0,RcAt.tuple_none pt hu0,RcNeAt.tuple_none pt hu0⟩
   |bl b=>obtain rfl:=r2.at q2;simp only[eqD];exact⟨EqAt.tuple_bool _ pt hu0,RcAt.tuple_bool _ pt hu0,RcNeAt.tuple_bool _ pt hu0⟩
   |int b=>obtain⟨t,rfl⟩:=r2.at q2;simp only[eqD];exact⟨EqAt.tuple_int _ _ pt hu0,RcAt.tuple_int _ _ pt hu0,RcNeAt.tuple_int _ _ pt hu0⟩
   |str b=>obtain⟨t,rfl⟩:=r2.at q2;simp only[eqD];exact⟨EqAt.tuple_str _ _ pt hu0,RcAt.tuple_str _ _ pt hu0,RcNeAt.tuple_str _ _ pt hu0⟩
   |_=>simp[dLe]at he
  |lst ds =>
   obtain⟨a,vs,rfl,sq,rl⟩:=id r1;cases q1;obtain⟨its,rv,pt,_⟩:=I.list (SqL.of sq);have hd':cM ds n=true:=by simpa[dLe]using hd
   cases e with
   |lst es =>
    obtain⟨b,ws,rfl,sq',rl'⟩:=id r2;cases q2;obtain⟨its2,rv2,pt2,_⟩:=I.list (SqL.of sq');have he':cM es n=true:=by simpa[dLe]using he
    have hs:its.toArray.size=ds.length/\its2.toArray.size=es.length:=by rw[J4,J4,<-rv.length,<-rv2.length,<-rl.length,<-rl'.length];exact⟨rfl,rfl⟩
    have rc:RcAt A s (.ref a) (.ref b) (eqD (.lst ds) (.lst es))/\RcNeAt A s (.ref a) (.ref b) (!(eqD (.lst ds) (.lst es))):=by
     by_cases hl:ds.length=es.length
     ·have hsz:its.toArray.size=its2.toArray.size:=by rw[hs.1,hs.2];exact hl
      have it:=item hd' he' rl rl' rv rv2;have t1:=RcAt.lists (e:=eqN ds es) pt.isList pt2.isList hsz hu0 it;have t2:=RcNeAt.lists (e:=eqN ds es) pt.isList pt2.isList hsz hu0 it;rw[hs.1,<-xP hl]at t1 t2;exact⟨by simpa only[eqD]using t1,by simpa only[eqD]using t2⟩
     ·have hsz:(its.toArray.size != its2.toArray.size)=true:=by rw[hs.1,hs.2];simpa using hl
      have e0:eqD (.lst ds) (.lst es)=false:=by
       simp only[eqD];cases q:dQ ds es with
       |false=>rfl
       |true=>exact absurd (sx q) hl
      rw[e0];exact⟨RcAt.lists_lengths pt.isList pt2.isList hsz hu0,RcNeAt.lists_lengths pt.isList pt2.isList hsz hu0⟩
    exact⟨both rfl rfl rc.1,rc⟩
   |tup es =>
    obtain⟨b,ws,rfl,sq',rl'⟩:=id r2;cases q2;obtain⟨its2,rv2,pt2,_⟩:=I.tuple sq';simp only[eqD];exact⟨EqAt.list_tuple pt.isList pt2 hu0,RcAt.list_tuple pt.isList pt2 hu0,RcNeAt.list_tuple pt.isList pt2 hu0⟩
   |non=>obtain rfl:=r2.at q2;simp only[eqD];exact⟨EqAt.list_none pt.isList hu0,RcAt.list_none pt.isList hu0,RcNeAt.list_none pt.isList hu0⟩
   |bl b=>obtain rfl:=r2.at q2;simp only[eqD];exact⟨EqAt.list_bool _ pt.isList hu0,RcAt.list_bool _ pt.isList hu0,RcNeAt.list_bool _ pt.isList hu0⟩
   |int b=>obtain⟨t,rfl⟩:=r2.at q2;simp only[eqD];exact⟨EqAt.list_int _ _ pt.isList hu0,RcAt.list_int _ _ pt.isList hu0,RcNeAt.list_int _ _ pt.isList hu0⟩
   |str b=>obtain⟨t,rfl⟩:=r2.at q2;simp only[eqD];exact⟨EqAt.list_str _ _ pt.isList hu0,RcAt.list_str _ _ pt.isList hu0,RcNeAt.list_str _ _ pt.isList hu0⟩
   |_=>simp[dLe]at he
  |non =>
   cases e with
   |tup es =>
    obtain⟨b,ws,rfl,sq',rl'⟩:=id r2;cases q2;obtain⟨its2,rv2,pt2,_⟩:=I.tuple sq';obtain rfl:=r1.at q1;simp only[eqD];exact⟨EqAt.none_tuple pt2 hu0,RcAt.none_tuple pt2 hu0,RcNeAt.none_tuple pt2 hu0⟩
   |lst es =>
    obtain⟨b,ws,rfl,sq',rl'⟩:=id r2;cases q2;obtain⟨its2,rv2,pt2,_⟩:=I.list (SqL.of sq');obtain rfl:=r1.at q1;simp only[eqD];exact⟨EqAt.none_list pt2.isList hu0,RcAt.none_list pt2.isList hu0,RcNeAt.none_list pt2.isList hu0⟩
   |_=>first|(simp[dLe]at he;done)|exact ih (A:=A) (by exact U4 (by assumption)) (by simp[dLe]) (by simp[dLe]) r1 r2 q1 q2
  |bl a =>
   cases e with
   |tup es =>
    obtain⟨b,ws,rfl,sq',rl'⟩:=id r2;cases q2;obtain⟨its2,rv2,pt2,_⟩:=I.tuple sq';obtain rfl:=r1.at q1;simp only[eqD];exact⟨EqAt.bool_tuple _ pt2 hu0,RcAt.bool_tuple _ pt2 hu0,RcNeAt.bool_tuple _ pt2 hu0⟩
   |lst es =>
    obtain⟨b,ws,rfl,sq',rl'⟩:=id r2;cases q2;obtain⟨its2,rv2,pt2,_⟩:=I.list (SqL.of sq');obtain rfl:=r1.at q1;simp only[eqD];exact⟨EqAt.bool_list _ pt2.isList hu0,RcAt.bool_list _ pt2.isList hu0,RcNeAt.bool_list _ pt2.isList hu0⟩
   |_=>first|(simp[dLe]at he;done)|exact ih (A:=A) (by exact U4 (by assumption)) (by simp[dLe]) (by simp[dLe]) r1 r2 q1 q2
  |int a =>
   cases e with
   |tup es =>
    obtain⟨b,ws,rfl,sq',rl'⟩:=id r2;cases q2;obtain⟨its2,rv2,pt2,_⟩:=I.tuple sq';obtain⟨t,rfl⟩:=r1.at q1;simp only[eqD];exact⟨EqAt.int_tuple _ _ pt2 hu0,RcAt.int_tuple _ _ pt2 hu0,RcNeAt.int_tuple _ _ pt2 hu0⟩
   |lst es =>
    obtain⟨b,ws,rfl,sq',rl'⟩:=id r2;cases q2;obtain⟨its2,rv2,pt2,_⟩:=I.list (SqL.of sq');obtain⟨t,rfl⟩:=r1.at q1;simp only[eqD];exact⟨EqAt.int_list _ _ pt2.isList hu0,RcAt.int_list _ _ pt2.isList hu0,RcNeAt.int_list _ _ pt2.isList hu0⟩
   |_=>first|(simp[dLe]at he;done)|exact ih (A:=A) (by exact U4 (by assumption)) (by simp[dLe]) (by simp[dLe]) r1 r2 q1 q2
  |str a =>
   cases e with
   |tup es =>
    obtain⟨b,ws,rfl,sq',rl'⟩:=id r2;cases q2;obtain⟨its2,rv2,pt2,_⟩:=I.tuple sq';obtain⟨t,rfl⟩:=r1.at q1;simp only[eqD];exact⟨EqAt.str_tuple _ _ pt2 hu0,RcAt.str_tuple _ _ pt2 hu0,RcNeAt.str_tuple _ _ pt2 hu0⟩
   |lst es =>
    obtain⟨b,ws,rfl,sq',rl'⟩:=id r2;cases q2;obtain⟨its2,rv2,pt2,_⟩:=I.list (SqL.of sq');obtain⟨t,rfl⟩:=r1.at q1;simp only[eqD];exact⟨EqAt.str_list _ _ pt2.isList hu0,RcAt.str_list _ _ pt2.isList hu0,RcNeAt.str_list _ _ pt2.isList hu0⟩
   |_=>first|(simp[dLe]at he;done)|exact ih (A:=A) (by exact U4 (by assumption)) (by simp[dLe]) (by simp[dLe]) r1 r2 q1 q2
  |_=>simp[dLe]at hd
end
section
variable{X:Cx}{a b c e:K5}{es:List K5}{te ta tb:TEd}{pos:Pos}{st:ab0}{bS:List ab0}{t u:TSd}
def zG:TSd:=fun E Δ M=>E.nx Δ M
def zR(t u:TSd):TSd:=fun E Δ M=>t { E with nx:=u E } Δ M
def BW(te:TEd):TSd:=fun E Δ M=>te Δ M E.rt
def zW(te:TEd):TSd:=fun E Δ M=>te Δ M fun _ M1=>E.nx Δ M1
def F0(c:TTd) (t u:TSd):TSd:=fun E Δ M=>c Δ M fun b M1=>if b=true then t E Δ M1 else u E Δ M1
def ED(i:Nat) (te:TEd):TSd:=fun E Δ M=>te Δ M fun d M1=>E.nx (Δ.set i (some d)) M1
def Hi(i:Nat) (te:TEd) (r:D->D->Option D):TSd:=fun E Δ M=>∃x,Δ[i]?=some (some x)/\te Δ M fun y M1=>∃z,r (rdM M1 x) (rdM M1 y)=some z/\E.nx (Δ.set i (some z)) M1
def AC(i:Nat) (t:TSd):TSd:=fun E Δ M=>∃a ds,Δ[i]?=some (some (.ref a))/\M a=some (.lst ds)/\t E (Δ.set i (some (.lst ds))) (fZ M a)
abbrev GD:=D->DE->Option DE
def PGd(X:Cx) (tg:K5) (g:GD):Prop:=∃gv:TG,PG X tg gv/\∀(d:D) (v:V) (σ:St) (Δ Δ':DE) (M:DH) (H:Hp) (Q:St->Hp->Prop),SR X.K M H σ Δ->HR X.K M H->Rep X.K M H d v->g d Δ=some Δ'->(∀ σ',SR X.K M H σ' Δ'->Q σ' H)->gv v σ H Q
noncomputable def cb(i:Nat):GD:=fun d Δ=>some (Δ.set i (some d))
theorem aF{i:Nat}{x:Str}(hN:X.N.Nodup) (hi:X.N[i]?=some x) (hx:Loc X.env.scope x) (hf:X.fn x=true∨X.env.scope.names.lookup x=some .local:=by first|exact .inl rfl|exact .inr rfl|assumption):PGd X (.Name x pos) (cb i) :=
 ⟨sN i,wY hN hi hx hf,fun d v σ Δ Δ' M H Q sr hr rv e k=>by cases e;exact k _ (sr.set i rv)⟩
abbrev GDs:=List D->DE->Option DE
def CP(X:Cx) (tgs:List K5) (g:GDs):Prop:=∃gv:TGs,PGs X tgs gv/\∀(ds:List D) (vs:List V) (σ:St) (Δ Δ':DE) (M:DH) (H:Hp) (Q:St->Hp->Prop),SR X.K M H σ Δ->HR X.K M H->au X.K M H ds vs->g ds Δ=some Δ'->(∀ σ',SR X.K M H σ' Δ'->Q σ' H)->gv vs σ H Q
noncomputable def md:GDs:=fun ds Δ=>match ds with|[]=>some Δ|_=>none
noncomputable def fA(g:GD) (gs:GDs):GDs:=fun ds Δ=>match ds with|[]=>none|d::r=>(g d Δ).bind fun Δ1=>gs r Δ1
noncomputable def jE(g:GDs) (n:Nat):GD:=fun d Δ=>match d with|.tup ds=>if ds.length=n then g ds Δ else none|_=>none
theorem dZ:CP X [] md:=⟨Fg,wn,fun ds vs σ Δ Δ' M H Q sr hr rv e k=>by
 cases ds with
 |nil=>simp only[au]at rv;subst rv;cases e;exact⟨rfl,k _ sr⟩
 |cons _ _=>cases e⟩
theorem aK{tg:K5}{tgs:List K5}{g:GD}{gs:GDs}(h1:PGd X tg g) (h2:CP X tgs gs)
  (hs:(P9 (tg::tgs) X.env).map (·.2)=Z6 tg X.env::(P9 tgs X.env).map (·.2):=by rfl):CP X (tg::tgs) (fA g gs):=by
 obtain⟨g1,p1,k1⟩:=h1;obtain⟨g2,p2,k2⟩:=h2;refine⟨yP g1 g2,sE p1 p2 hs,fun ds vs σ Δ Δ' M H Q sr hr rv e k=>?_⟩;cases ds with
 |nil=>cases e
 |cons d r =>
  simp only[au]at rv;obtain⟨v,ws,rfl,h3,h4⟩:=rv;simp only[fA]at e;cases q:g d Δ with
  |none=>rw[q]at e;cases e
  |some Δ1 =>
   rw[q]at e;exact⟨v,ws,rfl,k1 d v σ Δ Δ1 M H _ sr hr h3 q fun σ1 sr1=>k2 r ws σ1 Δ1 Δ' M H Q sr1 hr h4 e k⟩
theorem dX{tgs:List K5}{kx:Nat}{g:GDs}{n:Nat}(hc:X.calm=true) (h:CP X tgs g) (hn:(P9 tgs X.env).length=n:=by rfl) (hst:(P9 tgs X.env).findIdx? (·.1)=none:=by rfl):PGd X (.Tuple tgs kx pos) (jE g n):=by
 obtain⟨g1,p1,k1⟩:=h;refine⟨EC X.K n g1,zc hc p1 hn hst,fun d v σ Δ Δ' M H Q sr hr rv e k=>?_⟩;cases d with
 |tup ds =>
  simp only[jE]at e
  by_cases hl:ds.length=n
  ·rw[if_pos hl]at e;simp only[Rep]at rv;obtain⟨a,vs,rfl,ta,rl⟩:=rv;exact⟨a,vs,rfl,ta.sq,by rw[<-rl.length];exact hl,k1 ds vs σ Δ Δ' M H Q sr hr rl e k⟩
  ·rw[if_neg hl]at e;cases e
 |_=>cases e
def G9(te:TEd) (g:GD):TSd:=fun E Δ M=>te Δ M fun d M1=>∃ Δ',g d Δ=some Δ'/\E.nx Δ' M1
abbrev TId:=DE->DH->(List D->DH->Prop)->Prop
def ItD(K:o0) (J:It) (ds:List D) (M1:DH) (H1:Hp):Prop:=∀M2 H2,Ext M1 H1 M2 H2->HR K M2 H2->∀i,(∀d,ds[i]?=some d->J.go i H2/\∀x H',J.yld i H2 x H'->Ext M2 H2 M2 H'/\HR K M2 H'/\Rep K M2 H' d x)/\(ds.length<=i->J.stop i H2)
def upI(K:o0) (wi:TId):TI:=fun σ H R=>∃(Δ:DE) (M:DH) (R':List D->DH->Prop),SR K M H σ Δ/\HR K M H/\wi Δ M R'/\∀ds M1 J H1,R' ds M1->Ext M H M1 H1->HR K M1 H1->ItD K J ds M1 H1->R J H1
theorem upI.el{K:o0}{t:TId}{σ:St}{H:Hp}{Q:It->Hp->Prop}{P:Prop}(h:upI K t σ H Q) (f:∀(Δ:DE) (M:DH) (R:List D->DH->Prop),SR K M H σ Δ->HR K M H->t Δ M R->(∀ds M1 J H1,R ds M1->Ext M H M1 H1->HR K M1 H1->ItD K J ds M1 H1->Q J H1)->P):P:=by
 obtain⟨x1,x2,x3,a,b,c,d⟩:=h;exact f x1 x2 x3 a b c d
def PId(X:Cx) (tg iter:K5) (wi:TId):Prop:=PI X tg iter (upI X.K wi)
theorem PI.conv{tg iter:K5}{w w':TI}(h:PI X tg iter w) (k:∀ σ H R,w' σ H R->w σ H R):PI X tg iter w':=fun p s σ H R I q=>h p s σ H R I (k σ H R q)
variable{tg iter:K5}
noncomputable def iJ(lo:Int) (n:Nat):List D:=(V7 n).map fun(k:Nat)=>.int (lo+(k:Int))
theorem gk{lo:Int}{n i:Nat}{d:D}(h:(iJ lo n)[i]?=some d):i<n/\d=.int (lo+i):=by
 unfold iJ at h;rw[Q9]at h
 by_cases hi:i<n
 ·rw[List.getElem?_range hi]at h;cases h;exact⟨hi,rfl⟩
 ·rw[List.getElem?_eq_none (by simp;omega)]at h;cases h
theorem Cg{K:o0}{lo:Int}{n:Nat}{M1:DH}{H1:Hp}:ItD K (Itr lo n) (iJ lo n) M1 H1:=fun M2 H2 e2 hr2 i=>⟨fun d hd=>by
  obtain⟨h1,rfl⟩:=gk hd;refine⟨h1,fun x H' ⟨eH,y⟩=>?_⟩;subst eH;subst y;exact⟨Ext.refl _ _,hr2,by simp[Rep]⟩,fun hl=>by
  show n<=i;simpa[iJ]using hl⟩
def qk(ta:TAd):TId:=fun Δ M R=>ta Δ M fun ds M1=>∃j:Int,ds=[.int j]/\-(2 ^ 62)<=j/\j<2 ^ 62/\R (iJ 0 j.toNat) M1
def dP(g:GD) (tb:TSd) (E:iy):List D->DE->DH->Prop
 |[],Δ,M=>E.nx Δ M
 |d::ds,Δ,M=>∃ Δ',g d Δ=some Δ'/\tb { E with nx:=dP g tb E ds,ct:=dP g tb E ds,bk:=E.nx } Δ' M
def EN(wi:TId) (g:GD) (tb:TSd):TSd:=fun E Δ M=>wi Δ M fun ds M1=>dP g tb E ds Δ M1
def Bi(c:TTd) (tb:TSd):TSd:=fun E Δ M=>∃W:Nat->DE->DH->Prop,(∃m,W m Δ M)/\∀m Δ M,W m Δ M->c Δ M fun b M1=>if b=true then tb { E with nx:=fun Δ' M'=>∃m',m'<m/\W m' Δ' M',ct:=fun Δ' M'=>∃m',m'<m/\W m' Δ' M',bk:=E.nx } Δ M1 else E.nx Δ M1
end
def w6:D->Prop
 |.tup ds=>ds.length<=J3
 |.lst ds=>ds.length<=J3
 |.scr ds=>ds.length<=J3
 |_=>True
section
variable{X:Cx}{a b c e:K5}{es:List K5}{te ta tb:TEd}{pos:Pos}{tg iter elt:K5}
theorem aU.len{K:o0}{ae:List (J8×Obj)}{σ:St}{H:Hp}{s:J0}{M:DH}{d:D}{v:V}(I:Inv X ae σ H s) (h:Rep X.K M H d v):w6 d:=by
 cases d with
 |tup ds =>
  simp only[Rep]at h;obtain⟨a,vs,e,t,r⟩:=h;obtain⟨_,_,_,z⟩:=I.tuple t.sq;simp only[w6];rw[r.length];exact z
 |lst ds =>
  simp only[Rep]at h;obtain⟨a,vs,e,t,r⟩:=h;obtain⟨_,_,_,z⟩:=I.list (SqL.of t.1);simp only[w6];rw[r.length];exact z
 |scr ds =>
  simp only[Rep]at h;obtain⟨a,vs,e,t,r⟩:=h;obtain⟨_,_,_,z⟩:=I.list t.sq;simp only[w6];rw[r.length];exact z
 |_=>trivial
noncomputable def cI:List Bool->DE->DE
 |true::ms,v::σ=>v::cI ms σ
 |false::ms,_::σ=>none::cI ms σ
 |[],_::σ=>none::cI [] σ
 |_,[]=>[]
def eM(ms:List Bool) (k:Nat) (Δ:DE):DE:=cI ms Δ++K1 k none
theorem cY:∀(ms:List Bool) (σ:DE),(cI ms σ).length=σ.length
 |true::ms,v::σ=>by simp[cI,cY ms σ]
 |false::ms,_::σ=>by simp[cI,cY ms σ]
 |[],_::σ=>by simp[cI,cY [] σ]
 |[],[]=>by simp[cI]
 |true::_,[]=>by simp[cI]
 |false::_,[]=>by simp[cI]
theorem ji:∀{ms:List Bool}{σ:DE}{i:Nat}{v:D},(cI ms σ)[i]?=some (some v)->ms[i]?=some true/\σ[i]?=some (some v)
 |true::ms,v::σ,0,x,h=>by simpa[cI]using h
 |true::ms,v::σ,i+1,x,h=>by
  have:=ji (ms:=ms) (σ:=σ) (i:=i) (v:=x) (by simpa[cI]using h);simpa using this
 |false::ms,_::σ,0,x,h=>by simp[cI]at h
 |false::ms,_::σ,i+1,x,h=>by
  have:=ji (ms:=ms) (σ:=σ) (i:=i) (v:=x) (by simpa[cI]using h);simpa using this
 |[],_::σ,0,x,h=>by simp[cI]at h
 |[],_::σ,i+1,x,h=>by
  have:=ji (ms:=[]) (σ:=σ) (i:=i) (v:=x) (by simpa[cI]using h);simpa using this
 |[],[],_,_,h=>by simp[cI]at h
 |true::_,[],_,_,h=>by simp[cI]at h
 |false::_,[],_,_,h=>by simp[cI]at h
theorem jZ:∀{ms:List Bool}{σ:St}{i:Nat}{v:V},ms[i]?=some true->σ[i]?=some (some v)->(cg ms σ)[i]?=some (some v)
 |true::ms,v::σ,0,x,h,h2=>by simpa[cg]using h2
 |true::ms,v::σ,i+1,x,h,h2=>by
  have:=jZ (ms:=ms) (σ:=σ) (i:=i) (v:=x) (by simpa using h) (by simpa using h2);simpa[cg]using this
 |false::ms,_::σ,0,x,h,h2=>by simp at h
 |false::ms,_::σ,i+1,x,h,h2=>by
  have:=jZ (ms:=ms) (σ:=σ) (i:=i) (v:=x) (by simpa using h) (by simpa using h2);simpa[cg]using this
 |[],_,_,_,h,_=>by simp at h
 |_::_,[],_,_,_,h=>by simp at h
theorem SR.comp{K:o0}{M:DH}{H:Hp}{σ:St}{Δ:DE}(ms:List Bool) (k:Nat) (h:SR K M H σ Δ):SR K M H (gh ms k σ) (eM ms k Δ):=by
 refine⟨by simp[gh,eM,cj,cY,h.1],fun i d q=>?_⟩;unfold eM at q
 by_cases hi:i<(cI ms Δ).length
 ·rw[N7 hi]at q;obtain⟨m,e⟩:=ji q;obtain⟨v,ev,rv⟩:=h.2 i d e;refine⟨v,?_,rv⟩;have:=jZ m ev;unfold gh;rw[N7 (by rw[cj,h.1,<-cY ms];exact hi)];exact this
 ·rw[R7 (by omega),T8]at q
  split at q<;>cases q
def fI(g:GD) (tc:TTd) (te:TEd):List D->DE->DH->List D->(List D->DH->Prop)->Prop
 |[],_,M,acc,Q=>Q acc M
 |d::ds,Δ,M,acc,Q=>∃ Δ',g d Δ=some Δ'/\tc Δ' M fun b M1=>if b=true then te Δ' M1 fun y M2=>fI g tc te ds Δ' M2 (acc++[y]) Q else fI g tc te ds Δ' M1 acc Q
def dLc(ms:List Bool) (k:Nat) (wi:TId) (g:GD) (tc:TTd) (te:TEd):TEd:=fun Δ M Q=>wi Δ M fun ds M1=>ds.length<=J3/\fI g tc te ds (eM ms k Δ) M1 [] fun ys M2=>Q (.lst ys) M2
def GB(X:Cx) (ifs:List K5) (t:TTd):Prop:=PIf X ifs (upT X.K t)
def u6:TTd:=fun _ M Q=>Q true M
abbrev nq(K:o0) (g:GD) (gv:TG):Prop:=∀(d:D) (v:V) (σ:St) (Δ Δ':DE) (M:DH) (H:Hp) (Q:St->Hp->Prop),SR K M H σ Δ->HR K M H->Rep K M H d v->g d Δ=some Δ'->(∀ σ',SR K M H σ' Δ'->Q σ' H)->gv v σ H Q
theorem Dl{K:o0}{g:GD}{tc:TTd}{te:TEd}{gv:TG}(kg:nq K g gv) {J:It}{ds:List D}{M1:DH}{H1:Hp}(it:ItD K J ds M1 H1) (hr1:HR K M1 H1) (hz:ds.length<=J3) {R:List D->DH->Prop}{σ:St}{Δ:DE}(sr:SR K M1 H1 σ Δ) (q:fI g tc te ds Δ M1 [] R) :
  ∃(W:Nat->Nat->List V->St->Hp->Prop) (Z:List V->St->Hp->Prop),(∃m,W 0 m [] σ H1)/\lF J gv (upT K tc) (me (up K te)) W Z/\∀ys σ' H',Z ys σ' H'->∃M' acc,Ext M1 H1 M' H'/\HR K M' H'/\au K M' H' acc ys/\R acc M':=by
 refine⟨fun i m ys σ' H'=>∃ Δ' M' acc,m=ds.length-i/\i<=ds.length/\Ext M1 H1 M' H'/\HR K M' H'/\SR K M' H' σ' Δ'/\au K M' H' acc ys/\acc.length<=i/\fI g tc te (ds.drop i) Δ' M' acc R,_,
  ⟨ds.length,_,M1,[],by simp,S4 _,Ext.refl _ _,hr1,sr,au.nil,by simp,q⟩,?_,fun _ _ _ z=>z⟩
 rintro i m ys σ2 H2 ⟨Δ2,M2,acc,rfl,hi2,e2,hr2,sr2,ra,la,f2⟩;have hl:ys.length<=J3:=by rw[<-ra.length];omega
 refine⟨hl,?_⟩;obtain⟨go,stop⟩:=it M2 H2 e2 hr2 i
 by_cases hlt:i<ds.length
 ·have hd:ds[i]?=some ds[i]:=by simp[hlt]
  obtain⟨g1,y1⟩:=go _ hd;rw[List.drop_eq_getElem_cons hlt]at f2;simp only[fI]at f2;obtain⟨Δ3,eg,f3⟩:=f2;refine .inr ⟨g1,fun x H' hy=>?_⟩;obtain⟨e3,hr3,rx⟩:=y1 x H' hy;refine kg _ x σ2 Δ2 Δ3 M2 H' _ (sr2.ext e3) hr3 rx eg fun σ3 sr3=>?_;refine⟨Δ3,M2,_,sr3,hr3,f3,fun b M4 H4 q4 e4 hr4=>?_⟩;cases b with
  |true =>
   simp only[if_true]at q4 ⊢;refine⟨Δ3,M4,_,sr3.ext e4,hr4,q4,fun y M5 v5 H5 q5 e5 hr5 rv5=>?_⟩;refine⟨ds.length-(i+1),by omega,Δ3,M5,acc++[y],rfl,hlt,((e2.trans e3).trans e4).trans e5,hr5,(sr3.ext e4).ext e5,(((ra.ext e3).ext e4).ext e5).append (au.cons rv5 au.nil),by simp;assumption,q5⟩
  |false =>
   simp only[N9,if_false]at q4 ⊢;exact⟨ds.length-(i+1),by omega,Δ3,M4,acc,rfl,hlt,(e2.trans e3).trans e4,hr4,sr3.ext e4,(ra.ext e3).ext e4,by exact Nat.le_succ_of_le (by assumption),q4⟩
 ·rw[List.drop_eq_nil_of_le (by omega)]at f2;exact .inl ⟨stop (by omega),M2,acc,e2,hr2,ra,f2⟩
theorem vL{K:o0}{wi:TId}{g:GD}{tc:TTd}{te:TEd}{gv:TG}{ms:List Bool}{kk:Nat}(kg:nq K g gv) :
  ∀ σ H Q,up K (dLc ms kk wi g tc te) σ H Q->tLc ms kk (upI K wi) gv (upT K tc) (up K te) σ H Q:=by
 rintro σ H Q ⟨Δ,M,R,sr,hr,q,k⟩;refine⟨Δ,M,_,sr,hr,q,fun ds M1 J H1 ⟨hz,q1⟩ e1 hr1 it=>?_⟩;obtain⟨W,Z,hW,hC,hZ⟩:=Dl kg it hr1 hz ((sr.ext e1).comp ms kk) q1;refine⟨W,Z,hW,hC,fun ys σ' H' p z hp=>?_⟩;obtain⟨M',acc,e',hr',ra,q'⟩:=hZ _ _ _ z;refine k _ M' _ _ q' ((e1.trans e').trans (Ext.new hr' hp)) (hr'.new hp) ?_;simp only[Rep];exact⟨p,ys,rfl,⟨aB,hr'.fresh hp⟩,ra.ext (Ext.new hr' hp)⟩
variable{scope:V6}{cl:List (Str×J8)}{ms:List Bool}{ar:List Str}{ifs:List K5}
def PGa(X:Cx) (scope:V6) (cl:List (Str×J8)) (ar:List Str) (tg:K5) (g:GD):Prop:=∃gv:TG,(∀C s H ex,PG (aA X scope cl (X.N++ar) C s H ex) tg gv)/\nq X.K g gv
theorem aN{i:Nat}{x:Str}{pos:Pos}(hN:(X.N++ar).Nodup) (hi:(X.N++ar)[i]?=some x) (hx:(relabel scope X.env).names.lookup x=some .local):PGa X scope cl ar (.Name x pos) (cb i) :=
 ⟨sN i,fun C s H ex=>wY hN hi (.inl hx) (.inr hx),fun d v σ Δ Δ' M H Q sr hr rv e k=>by cases e;exact k _ (sr.set i rv)⟩
end
abbrev SpD:=List D->DH->(D->DH->Prop)->Prop
def spD(K:o0) (n:Nat) (S:SpD):Sp:=fun vs H Q _=>∃(ds:List D) (M:DH) (R:D->DH->Prop),ds.length=n/\au K M H ds vs/\HR K M H/\S ds M R/\∀d M' v H',R d M'->Ext M H M' H'->HR K M' H'->Rep K M' H' d v->Q v H'
theorem CM{K:o0}{n:Nat}{S:SpD}{vs:List V}{H:Hp}{Q:VK}{E:XK}(h:spD K n S vs H Q E):vs.length=n:=by
 obtain⟨ds,M,R,hl,r,_⟩:=h;rw[<-r.length];exact hl
noncomputable def jR(N:List Str) (ds:List D):DE:=ds.map some++K1 (N.length-ds.length) none
theorem Bv{K:o0}{M:DH}{H:Hp}{N:List Str}:∀{ds:List D}{vs:List V},au K M H ds vs->SR K M H (aS N vs) (jR N ds):=by
 intro ds vs h;have hl:=h.length;refine⟨by simp[aS,jR,hl],fun i d q=>?_⟩;unfold jR at q
 by_cases hi:i<ds.length
 ·rw[N7 (by simpa using hi),Q9]at q;cases e:ds[i]? with
  |none=>rw[e]at q;cases q
  |some d' =>
   rw[e]at q;cases q;obtain⟨v,gv,rv⟩:=h.get e;refine⟨v,?_,rv⟩;unfold aS;rw[N7 (by simp;omega),Q9,gv];rfl
 ·rw[R7 (by simpa using hi),T8]at q
  split at q<;>cases q
section
variable{P:L1}{w:O6}{K:o0}{mg:Str->Option u8}{base:L6}{f:J8}{fd:S6}
theorem Fun.okD{x qual:Str}{st:ab0}{f:J8}{fd:S6}{N ps:List Str}{k n:Nat}{S:SpD}(F:Fun K x qual st f fd) (hn:ps.length=n) (Sc:ay N ps (am st))
  (hbody:∀ (cdv:u8) (A:N1) (outer:List Env) (s:J0) (H:Hp) (E:XK),cG k (A.deeper (ac8 qual (am st) s.heap.objs.size f cdv)) →
   ∃t:TSd,Cq (ub CX0 P w K mg base N qual (am st) f cdv A outer s H E).nox (dR st) t/\∀ds M R,ds.length=n->S ds M R->t { nx:=fun _ M'=>R .non M',rt:=R } (jR N ds) M):bf P w K mg base CX0 (k+1) f fd ps (spD K n S):=by
 refine F.ok Sc (fun vs H Q E h=>by rw[hn];exact CM h) (fun cdv A outer s H vs Q E hr h=>?_);obtain⟨t,ht,hq⟩:=hbody cdv A outer s H E hr;obtain⟨ds,M,R,hl,r,hrr,q,k'⟩:=h;refine⟨_,ht,jR N ds,M,_,Bv r,hrr,hq ds M R hl q,⟨fun Δ' M' σ' H' q' e' hr' _=>k' .non M' .non H' q' e' hr' (by simp[Rep]),fun _ _ _ _ q'=>P8 q',fun _ _ _ _ q'=>P8 q',fun d M' v H' q' e' hr' rv=>k' d M' v H' q' e' hr' rv⟩⟩
end
section
variable{X:Cx}{a b c e:K5}{es:List K5}{te ta tb:TEd}{t:TAd}{pos:Pos}
def jB(n:Nat) (S:SpD) (t:TAd):TEd:=fun Δ M Q=>t Δ M fun ds M1=>ds.length=n/\S ds M1 Q
theorem Et{k:Nat}{f:J8}{fd:S6}{ps:List Str}{n:Nat}{S:SpD}{x:Str}{p:Pos}(F:bf X.prog X.w X.K X.mg X.base CX0 k f fd ps (spD X.K n S)) (hr:cG k X.A) (hg:Gl X x) (hm:X.mg x=some (.ref f)) (hk:V4 X.K (.ref f)=true) (hb:er X.K fd ps [])
  (ha:PAd X (e::es) t) (hdb:(x==("__debug__":Str))=false:=by decide) (he:K2 (e::es) X.env=(false,V3 e X.env)::K2 es X.env:=by rfl) (hpl:(V8 pos (K2 es X.env)).any (·.1)=false:=by rfl) :
  PEd X (.Call (.Name x p) (e::es) [] pos) (jB n S t) :=
 (Ce F hr hg hm hk hb .nil DN ha hdb he hpl).conv fun σ H Q hup => hup.el fun Δ M R sr hr q k => ⟨Δ,M,_,sr,hr,q,fun ds M1 vs H1 ⟨hl,q1⟩ e1 hr1 rv => by
  dsimp only;rw[Z7];exact⟨ds,M1,R,hl,rv,hr1,q1,fun d M' v H' q' e' hr' rv'=>k d M' v H' q' (e1.trans e') hr' rv'⟩⟩
def GG(to ti te:TEd):TSd:=fun E Δ M=>te Δ M fun d M1=>to Δ M1 fun o M2=>ti Δ M2 fun i M3=>∃a ds k j,o=.ref a/\i=.int k/\M3 a=some (.lst ds)/\ixN ds.length k=some j/\E.nx Δ (av M3 a (.lst (ds.set j d)))
def F1(to te:TEd):TEd:=fun Δ M Q=>to Δ M fun o M1=>∃a l,o=.ref a/\M1 a=some (.lst l)/\te Δ M1 fun d M2=>∃ds,M2 a=some (.lst ds)/\ds.length<J3/\Q .non (av M2 a (.lst (ds++[d])))
end
def ItW(n:Nat) (Vp:Nat->V->Prop):It:=⟨fun i _=>i<n,fun i H x H'=>H'=H/\Vp i x,fun i _=>n<=i⟩
theorem yl{P:L1}{w:O6}{K:o0}{tg:K5}{it:J8}{n:Nat}{Pv:Nat->u8->Prop}{St:Nat->L6->Prop}{ty:String}{Vp:Nat->V->Prop}
  (W:∀A:N1,A.handled=none->Walks P w A it [it] [it] n Pv St) (ho:∀i h,St i h->∃o,h.get? it=some o/\o.cls=.type ty/\∃vs,o.data=.fields vs)
  (hn:["enumerate","zip","dict_itemiterator","dict_reverseitemiterator","odict_iterator","itertools.zip_longest","itertools.pairwise"].contains ty=false)
  (hv:∀i u,Pv i u->∃x,aI x u/\Vp i x) (hself:∀(A:N1) (i:Nat) (s:J0) (Q:u8->J0->Prop) (E:u8->J0->Prop),St i s.heap->Q (.ref it) s->K4 (K7 P w) A (ad3 (.ref it)) Q E s):jS P w K tg (ItW n Vp) [it] it (fun i h=>i<=n/\St i h) where
 mem:=by simp
 obj:=fun i h st b hb=>by
  have e:b=it:=by simpa using hb
  subst e;obtain⟨o,e,c,vs,d⟩:=ho i h st.2;exact⟨o,e,fun v z=>by rw[d]at z;cases z⟩
 keep:=fun i h h' st k=>⟨st.1,(W { handled:=none } rfl).frame i h h' st.2 k⟩
 item:=by
  intro X hP hw hK hc i ae s σ H E I hf st hg;subst hP hw hK;obtain⟨f0,f1,f2,f3,f4,f5⟩:=hf it (by simp);refine(W X.A (I.ok.hd hc)).item i s _ _ hg st.2 fun v h' tk pv st' kk=>?_;have I1:Inv X ae σ H { s with heap:=h',toks:=tk }:=I.turned (fun b o hb e=>kk b o (by simpa using hb) e) f0 f1 f3 f4 f5;obtain⟨x,rx,vx⟩:=hv i v pv;obtain⟨o,e,c,vs,d⟩:=ho _ _ st';exact⟨v,rfl,o8 (s:={ s with heap:=h',toks:=tk }) e c d hn ⟨x,H,I1,rx,⟨rfl,vx⟩,⟨hg,st'⟩,fun b hb=>(hf b hb).1⟩⟩
 done:=by
  intro X hP hw hK hc i ae s σ H E I hf st hg;subst hP hw hK;obtain⟨f0,f1,f2,f3,f4,f5⟩:=hf it (by simp);have e:i=n:=Nat.le_antisymm st.1 hg;subst e;exact(W X.A (I.ok.hd hc)).done s _ _ st.2 fun h' tk kk=>⟨rfl,I.turned (fun b o hb e=>kk b o (by simpa using hb) e) f0 f1 f3 f4 f5⟩
 self:=fun A i s Q E st h=>hself A i s Q E st.2 h
section
variable{X:Cx}{a b c e:K5}{es:List K5}{te ta tb:TEd}{t:TAd}{pos:Pos}{tg iter:K5}
noncomputable def ml(x:Str):List D:=x.cps.toList.map fun c=>.str ⟨#[c]⟩
theorem wC{ae:List (J8×Obj)}{σ:St}{H:Hp}{s:J0}{x:Str}{t:Tok}{R:It->Hp->Prop}(I:Inv X ae σ H s) (ty:String) (hn:["enumerate","zip","dict_itemiterator","dict_reverseitemiterator","odict_iterator","itertools.zip_longest","itertools.pairwise"].contains ty=false)
  (W:∀A:N1,A.handled=none->Walks X.prog X.w A s.heap.objs.size [s.heap.objs.size] [s.heap.objs.size] x.cps.size (SignAt x) (fun i h=>h.IsStrIter s.heap.objs.size ty x t i))
  (hself:∀(A:N1) (i:Nat) (s':J0) (Q:u8->J0->Prop) (E:u8->J0->Prop),s'.heap.IsStrIter s.heap.objs.size ty x t i->Q (.ref s.heap.objs.size) s'->K4 (K7 X.prog X.w) A (ad3 (.ref s.heap.objs.size)) Q E s')
  (q:R (ItW x.cps.size fun i v=>∃c,x.cps[i]?=some c/\v=.str ⟨#[c]⟩) H):PIE X ae σ tg R (.ref s.heap.objs.size) { s with heap:=s.heap.push { cls:=.type ty,data:=.fields #[.str x t,.int 0 0] } }:=by
 have I1:Inv X ae σ H { s with heap:=s.heap.push { cls:=.type ty,data:=.fields #[.str x t,.int 0 0] } }:=I.kept (t':=s.toks) fun b o e=>J1 _ e;refine⟨s.heap.objs.size,[s.heap.objs.size],_,_,H,rfl,I1,yl W (fun i h st=>?_) hn (fun i u ⟨c,t',e,ev⟩=>⟨.str ⟨#[c]⟩,⟨t',ev⟩,c,e,rfl⟩) hself,⟨S4 _,_,J9 _ rfl,rfl,rfl⟩,fun b hb=>?_,q⟩
 ·obtain⟨o,e,c,d⟩:=st;exact⟨o,e,c,_,d⟩
 ·have e:b=s.heap.objs.size:=by simpa using hb
  subst e;exact I.fpOk (J6 _) (I.hok.fresh (J6 _))
end
section
variable{X:Cx}{a b c e:K5}{es:List K5}{te ta tb:TEd}{t:TAd}{pos:Pos}
noncomputable def eqF(x y:D):Option D:=if dLe x 60=true/\dLe y 60=true then some (.bl (eqD x y))else none
theorem Br{x y z:D}(h:eqF x y=some z):dLe x 60=true/\dLe y 60=true/\z=.bl (eqD x y):=by
 unfold eqF at h
 by_cases hc:dLe x 60=true/\dLe y 60=true
 ·rw[if_pos hc]at h;cases h;exact⟨hc.1,hc.2,rfl⟩
 ·rw[if_neg hc]at h;cases h
theorem oH(hu:X.A.units+64<aa1):bQ X (L3 .Eq) eqF:=by
 intro ae s σ H M x y v u dx dy dz Q I hr rx ry r1 r2 e k;obtain⟨h1,h2,rfl⟩:=Br e;exact(ox I 60 (A:=X.A) (by omega) h1 h2 r1 r2 rx ry).2.1 X.prog X.w X.xe _ ⟨.bl (eqD dx dy),H,I,rfl,k _ H (Ext.refl _ _) hr (by simp[Rep])⟩
def inD(neg:Bool) (x y:D):Option D:=match y with
 |.lst ds=>if bZ x=true/\ds.all bZ=true then some (.bl (xor neg (ds.any fun d=>eqD d x)))else none
 |.tup ds=>if bZ x=true/\ds.all bZ=true then some (.bl (xor neg (ds.any fun d=>eqD d x)))else none
 |_=>none
theorem Eo{K:o0}{M:DH}{H:Hp}{d:D}{v:V}(h:bZ d=true) (r:Rep K M H d v):v=toV d/\iV v=true:=by
 cases d<;>first|(simp only[Rep]at r;subst r;exact⟨rfl,rfl⟩)|cases h
theorem BH{x y:D}(hx:bZ x=true) (hy:bZ y=true):eqV (toV x) (toV y)=eqD x y:=by
 cases x<;>cases y<;>first|(simp[bZ]at hx;done)|(simp[bZ]at hy;done)|(simp[toV,eqV,eqD];done)
theorem iw{K:o0}{M:DH}{H:Hp}{x:D}(hx:bZ x=true):∀{ds:List D}{vs:List V},au K M H ds vs->ds.all bZ=true->vs.all iV=true/\inV (toV x) vs=ds.any fun d=>eqD d x
 |[],_,h,_=>by simp only[au]at h;subst h;simp[inV]
 |d::ds,_,h,ha=>by
  simp only[au]at h;obtain⟨v,ws,rfl,h3,h4⟩:=h;rw[W6,N6]at ha;obtain⟨e1,e2⟩:=Eo ha.1 h3;obtain⟨e3,e4⟩:=iw hx h4 ha.2;subst e1;refine⟨by rw[W6,e2,e3];rfl,?_⟩;unfold inV at e4 ⊢;rw[Q5,Q5,e4,BH ha.1 hx]
theorem aU.scal{K:o0}{M:DH}{H:Hp}{d:D}{v:V}(h:bZ d=true) (r:aU K M H d v):v=toV d/\iV v=true:=by
 cases d<;>first|(simp only[aU,Rep]at r;subst r;exact⟨rfl,rfl⟩)|cases h
theorem Ij:bQ X (L3 .In) (inD false):=bQ.of xC fun H M x y dx dy dz Q hr r1 r2 e q=>by
 cases dy with
 |lst ds =>
  simp only[inD]at e
  by_cases hc:bZ dx=true/\ds.all bZ=true
  ·rw[if_pos hc]at e;cases e;obtain⟨l,vs,rfl,sq,rl⟩:=r2;obtain⟨e1,e2⟩:=aU.scal hc.1 r1;obtain⟨e3,e4⟩:=iw hc.1 rl hc.2;subst e1;refine⟨l,vs,rfl,.inl (SqL.of sq),e2,e3,q _ H (Ext.refl _ _) hr ?_⟩;rw[e4];simp[Rep]
  ·rw[if_neg hc]at e;cases e
 |tup ds =>
  simp only[inD]at e
  by_cases hc:bZ dx=true/\ds.all bZ=true
  ·rw[if_pos hc]at e;cases e;obtain⟨l,vs,rfl,sq,rl⟩:=r2;obtain⟨e1,e2⟩:=aU.scal hc.1 r1;obtain⟨e3,e4⟩:=iw hc.1 rl hc.2;subst e1;refine⟨l,vs,rfl,.inr sq,e2,e3,q _ H (Ext.refl _ _) hr ?_⟩;rw[e4];simp[Rep]
  ·rw[if_neg hc]at e;cases e
 |_=>cases e
theorem Ca:bQ X (L3 .NotIn) (inD true):=bQ.of rR fun H M x y dx dy dz Q hr r1 r2 e q=>by
 cases dy with
 |lst ds =>
  simp only[inD]at e
  by_cases hc:bZ dx=true/\ds.all bZ=true
  ·rw[if_pos hc]at e;cases e;obtain⟨l,vs,rfl,sq,rl⟩:=r2;obtain⟨e1,e2⟩:=aU.scal hc.1 r1;obtain⟨e3,e4⟩:=iw hc.1 rl hc.2;subst e1;refine⟨l,vs,rfl,.inl (SqL.of sq),e2,e3,q _ H (Ext.refl _ _) hr ?_⟩;rw[e4];simp[Rep]
  ·rw[if_neg hc]at e;cases e
 |tup ds =>
  simp only[inD]at e
  by_cases hc:bZ dx=true/\ds.all bZ=true
  ·rw[if_pos hc]at e;cases e;obtain⟨l,vs,rfl,sq,rl⟩:=r2;obtain⟨e1,e2⟩:=aU.scal hc.1 r1;obtain⟨e3,e4⟩:=iw hc.1 rl hc.2;subst e1;refine⟨l,vs,rfl,.inr sq,e2,e3,q _ H (Ext.refl _ _) hr ?_⟩;rw[e4];simp[Rep]
  ·rw[if_neg hc]at e;cases e
 |_=>cases e
noncomputable def jq(f:D->Option D):List D->Option D
 |[d]=>f d
 |_=>none
theorem i7{K:o0}{M:DH}{H:Hp}{d:D}{xs:List V}(h:R1 (aU K M H) [d] xs):∃v,xs=[v]/\aU K M H d v:=by
 cases h with
 |cons r t=>cases t;exact⟨_,rfl,r⟩
theorem bY{f:D->Option D}{ds:List D}{z:D}(h:jq f ds=some z):∃d,ds=[d]/\f d=some z:=by
 match ds,h with
 |[d],h=>exact⟨d,rfl,h⟩
noncomputable def gB:D->Option D
 |.tup ds=>some (.int ds.length)
 |.lst ds=>some (.int ds.length)
 |.scr ds=>some (.int ds.length)
 |.str x=>if x.length<=J3 then some (.int x.length)else none
 |_=>none
theorem cf:bj X (.builtin "len") (jq gB):=bj.of (cP.or qt qE) fun H M xs ds dz Q hr rp e q=>by
 obtain⟨d,rfl,e0⟩:=bY e;clear e;have e:=e0;clear e0;obtain⟨v,rfl,r⟩:=i7 rp;cases d with
 |tup ds=>cases e;obtain⟨l,vs,rfl,sq,rl⟩:=r;exact .inl ⟨l,vs,rfl,.inr sq,q _ H (Ext.refl _ _) hr (by rw[<-rl.length];simp[Rep])⟩
 |lst ds=>cases e;obtain⟨l,vs,rfl,sq,rl⟩:=r;exact .inl ⟨l,vs,rfl,.inl (SqL.of sq),q _ H (Ext.refl _ _) hr (by rw[<-rl.length];simp[Rep])⟩
 |scr ds=>cases e;obtain⟨l,vs,rfl,sq,rl⟩:=r;exact .inl ⟨l,vs,rfl,.inl sq,q _ H (Ext.refl _ _) hr (by rw[<-rl.length];simp[Rep])⟩
 |str x =>
  simp only[gB]at e
  by_cases hz:x.length<=J3
  ·rw[if_pos hz]at e;cases e;exact .inr ⟨x,by rw[oY r],hz,q _ H (Ext.refl _ _) hr (by simp[Rep])⟩
  ·rw[if_neg hz]at e;cases e
 |_=>cases e
noncomputable def GA:D->Option D
 |.int i=>some (.int (if i<0 then -i else i))
 |_=>none
theorem G7:bj X (.builtin "abs") (jq GA):=bj.of zF fun H M xs ds dz Q hr rp e q=>by
 obtain⟨d,rfl,e0⟩:=bY e;clear e;have e:=e0;clear e0;obtain⟨v,rfl,r⟩:=i7 rp;cases d with
 |int i=>cases e;exact⟨i,by rw[dI r],q _ H (Ext.refl _ _) hr (by simp[Rep])⟩
 |_=>cases e
noncomputable def Gn:D->Option D
 |.lst ds=>some (.tup ds)
 |.tup ds=>some (.tup ds)
 |_=>none
theorem eZ:bj X (.type "tuple") (jq Gn):=bj.of oW fun H M xs ds dz Q hr rp e q=>by
 obtain⟨d,rfl,e0⟩:=bY e;clear e;have e:=e0;clear e0;obtain⟨v,rfl,r⟩:=i7 rp;cases d with
 |lst ds=>cases e;obtain⟨l,vs,rfl,sq,rl⟩:=r;exact⟨l,vs,rfl,.inl ⟨SqL.of sq,fun p hp=>j7 hr hp rl q⟩⟩
 |tup ds=>cases e;have t1:=aU.tup hr r;obtain⟨l,vs,rfl,sq,rl⟩:=r;exact⟨l,vs,rfl,.inr ⟨sq,q _ H (Ext.refl _ _) hr t1⟩⟩
 |_=>cases e
def Hr:D->Option D
 |.lst ds=>some (.lst ds)
 |.scr ds=>some (.lst ds)
 |.tup ds=>some (.lst ds)
 |_=>none
theorem Fw:bj X (.type "list") (jq Hr):=bj.of rN fun H M xs ds dz Q hr rp e q=>by
 obtain⟨d,rfl,e0⟩:=bY e;clear e;have e:=e0;clear e0;obtain⟨v,rfl,r⟩:=i7 rp;cases d with
 |lst ds=>cases e;obtain⟨l,vs,rfl,sq,rl⟩:=r;exact⟨l,vs,rfl,.inl (SqL.of sq),fun p hp=>gN hr hp rl q⟩
 |scr ds=>cases e;obtain⟨l,vs,rfl,sq,rl⟩:=r;exact⟨l,vs,rfl,.inl sq,fun p hp=>gN hr hp rl q⟩
 |tup ds=>cases e;obtain⟨l,vs,rfl,sq,rl⟩:=r;exact⟨l,vs,rfl,.inr sq,fun p hp=>gN hr hp rl q⟩
 |_=>cases e
noncomputable def zm:D->Bool
 |.bl _=>true
 |_=>false
def xS:D->Bool
 |.bl b=>b
 |_=>false
noncomputable def Ai:D->Option D
 |.lst ds=>if ds.all zm=true then some (.bl (ds.all xS))else none
 |_=>none
theorem yk{p:Nat->Bool}{q:D->Bool}:∀{ds:List D},(∀i d,ds[i]?=some d->p i=q d)->(V7 ds.length).all p=ds.all q:=by
 intro ds h;rw[Bool.eq_iff_iff,Z0,Z0];constructor
 ·intro hh d hd;obtain⟨i,hi,e⟩:=List.mem_iff_getElem.mp hd;rw[<-h i d (by rw[List.getElem?_eq_getElem hi,e])];exact hh i (List.mem_range.mpr hi)
 ·intro hh i hi;have hi:=List.mem_range.mp hi;rw[h i ds[i] (by simp[hi])];exact hh _ (List.getElem_mem hi)
theorem AS{K:o0}{M:DH}{H:Hp}{ds:List D}{vs:List V}{us:List u8}(rl:au K M H ds vs) (rv:az vs us) (hb:ds.all zm=true) {i:Nat}{u:u8}(h:us[i]?=some u):∃d,ds[i]?=some d/\u=.bool (xS d):=by
 have hi:i<ds.length:=by rw[rl.length,rv.length];exact(M9.mp h).1
 obtain⟨v,g,r⟩:=rl.get (i:=i) (d:=ds[i]) (by simp[hi]);obtain⟨u',g',r'⟩:=rv.get g;rw[h]at g';cases g';have hbi:=Z0.mp hb ds[i] (List.getElem_mem hi);refine⟨ds[i],by simp[hi],?_⟩;cases q:ds[i]with
 |bl b=>rw[q]at r;simp only[Rep]at r;subst r;exact r'
 |_=>rw[q]at hbi;cases hbi
theorem Dz(hc:X.calm=true):bj X (.builtin "all") (jq Ai):=by
 intro ae s σ H M xs us ds dz Q I hr rv rp e k;obtain⟨d,rfl,e0⟩:=bY e;clear e;have e:=e0;clear e0;obtain⟨v,rfl,r⟩:=i7 rp;obtain⟨u,rfl,ru⟩:=az.one rv;cases d with
 |lst ds =>
  simp only[Ai]at e
  by_cases hb:ds.all zm=true
  ·rw[if_pos hb]at e;cases e;obtain⟨l,vs,rfl,sq,rl⟩:=r;cases ru;obtain⟨its,rv,pl,hz⟩:=I.list (SqL.of sq);have hne:l≠s.heap.objs.size:=K3 (I.hok.lt sq);refine call_all_walk (wpAny_pyIter_list pl.isList ⟨s.heap.objs.size,[s.heap.objs.size,l],[s.heap.objs.size],its.toArray.size,_,_,fun i=>(ds[i]?.map xS).getD false,rfl,Walks.list (A:=X.A.in1) (show X.A.in1.handled=none from I.ok.hd hc) s.heap.objs.size l hne its.toArray,⟨⟨_,J9 _ rfl,rfl,rfl⟩,?_⟩,fun i v s' Q' E' hv q=>?_,fun h' tk kk=>?_⟩)
   ·obtain⟨o,e,c⟩:=pl.isList;exact⟨o,J1 _ e,c⟩
   ·obtain⟨d,hd,rfl⟩:=AS rl rv hb (i:=i) (u:=v) (by simpa using hv);dsimp only at q;rw[hd]at q;exact O4 q
   ·have I1:Inv X ae σ H { s with heap:=h',toks:=tk }:=I.kept (t':=tk) fun b o e=>kk b o (by simpa using K3 (J7 e)) (J1 _ e);refine⟨.bl _,H,I1,rfl,k _ H (Ext.refl _ _) hr ?_⟩;rw[J4,<-rv.length,<-rl.length,yk (q:=xS) (fun i d hd=>by simp[hd])];simp[Rep]
  ·rw[if_neg hb]at e;cases e
 |_=>cases e
end
section
variable{X:Cx}{a b c e:K5}{es:List K5}{te ta tb:TEd}{t:TAd}{pos:Pos}
noncomputable def F3(T:String):D->Option Bool
 |.non=>some false
 |.bl _=>some (T=="bool" || T=="int")
 |.int _=>some (T=="int")
 |.str _=>some (T=="str")
 |.tup _=>some (T=="tuple")
 |.lst _=>some (T=="list")
 |.emp=>some (T=="dict")
 |_=>none
noncomputable def okT(T:String):Bool:=T=="bool" || T=="int" || T=="str" || T=="tuple" || T=="list"
def HQ(T:String) (te:TEd):TEd:=fun Δ M Q=>te Δ M fun d M1=>∃k,F3 T (rdM M1 d)=some k/\Q (.bl k) M1
theorem xO{T:String}(hT:okT T=true) {ae:List (J8×Obj)}{s:J0}{σ:St}{H:Hp}{M:DH}{v:V}{u:u8}{d:D}{k:Bool}{Q:VK}(I:Inv X ae σ H s) (r:aI v u) (rd:aU X.K M H d v) (e:F3 T d=some k) (q:Q (.bl k) H) :
  K4 (K7 X.prog X.w) X.A (call (.builtin "isinstance") [u,.type T]) (EP X ae σ Q) X.xe s:=by
 have fin:∀{k'} ,k=k'->EP X ae σ Q (.bool k') s:=fun e=>by subst e;exact⟨.bl k,H,I,rfl,q⟩
 have fint:∀{k'} ,k=k'->EP X ae σ Q (.bool k') { s with toks:=s.toks+1 }:=fun e=>by subst e;exact⟨.bl k,H,I.tok _,rfl,q⟩
 have h5:T="bool"∨T="int"∨T="str"∨T="tuple"∨T="list":=by
  simp[okT]at hT;rcases hT with(((h|h)|h)|h)|h<;>simp[h]
 cases d with
 |non =>
  simp only[aU,Rep]at rd;subst rd;simp only[aI]at r;subst r;cases e;rcases h5 with rfl|rfl|rfl|rfl|rfl
  ·exact IsiPair.NoneType_bool (fint rfl)
  ·exact IsiPair.NoneType_int (fint rfl)
  ·exact IsiPair.NoneType_str (fint rfl)
  ·exact IsiPair.NoneType_tuple (fint rfl)
  ·exact IsiPair.NoneType_list (fint rfl)
 |bl b =>
  simp only[aU,Rep]at rd;subst rd;simp only[aI]at r;subst r;cases e;rcases h5 with rfl|rfl|rfl|rfl|rfl
  ·exact IsiPair.bool_bool (fin rfl)
  ·exact IsiPair.bool_int (fin rfl)
  ·exact IsiPair.bool_str (fint rfl)
  ·exact IsiPair.bool_tuple (fint rfl)
  ·exact IsiPair.bool_list (fint rfl)
 |int i =>
  simp only[aU,Rep]at rd;subst rd;obtain⟨t,rfl⟩:=r;cases e;rcases h5 with rfl|rfl|rfl|rfl|rfl
  ·exact IsiPair.int_bool (fint rfl)
  ·exact IsiPair.int_int (fin rfl)
  ·exact IsiPair.int_str (fint rfl)
  ·exact IsiPair.int_tuple (fint rfl)
  ·exact IsiPair.int_list (fint rfl)
 |str x =>
  simp only[aU,Rep]at rd;subst rd;obtain⟨t,rfl⟩:=r;cases e;rcases h5 with rfl|rfl|rfl|rfl|rfl
  ·exact IsiPair.str_bool (fint rfl)
  ·exact IsiPair.str_int (fint rfl)
  ·exact IsiPair.str_str (fin rfl)
  ·exact IsiPair.str_tuple (fint rfl)
  ·exact IsiPair.str_list (fint rfl)
 |tup ds =>
  obtain⟨a,vs,rfl,sq,rl⟩:=rd;cases r;cases e;obtain⟨its,rv,⟨o,ho,hc,_⟩,_⟩:=I.tuple sq;rcases h5 with rfl|rfl|rfl|rfl|rfl
  ·exact IsiPair.tuple_bool ho hc (fint rfl)
  ·exact IsiPair.tuple_int ho hc (fint rfl)
  ·exact IsiPair.tuple_str ho hc (fint rfl)
  ·exact IsiPair.tuple_tuple ho hc (fin rfl)
  ·exact IsiPair.tuple_list ho hc (fint rfl)
 |lst ds =>
  obtain⟨a,vs,rfl,sq,rl⟩:=rd;cases r;cases e;obtain⟨its,rv,⟨o,n,ho,hc,_⟩,_⟩:=I.list (SqL.of sq);rcases h5 with rfl|rfl|rfl|rfl|rfl
  ·exact IsiPair.list_bool ho hc (fint rfl)
  ·exact IsiPair.list_int ho hc (fint rfl)
  ·exact IsiPair.list_str ho hc (fint rfl)
  ·exact IsiPair.list_tuple ho hc (fint rfl)
  ·exact IsiPair.list_list ho hc (fin rfl)
 |emp =>
  simp only[aU,Rep]at rd;obtain⟨a,rfl,h1,_⟩:=rd;cases r;cases e;obtain⟨_,_,_,_,o,es,ep,ho,ex,_⟩:=I.hok a _ h1;rcases h5 with rfl|rfl|rfl|rfl|rfl
  ·exact IsiPair.dict_bool ho ex.1 (fint rfl)
  ·exact IsiPair.dict_int ho ex.1 (fint rfl)
  ·exact IsiPair.dict_str ho ex.1 (fint rfl)
  ·exact IsiPair.dict_tuple ho ex.1 (fint rfl)
  ·exact IsiPair.dict_list ho ex.1 (fint rfl)
 |_=>cases e
abbrev TOd:=DE->DH->(Option Int->DH->Prop)->Prop
def upO(K:o0) (t:TOd):TO:=fun σ H Q=>∃(Δ:DE) (M:DH) (R:Option Int->DH->Prop),SR K M H σ Δ/\HR K M H/\t Δ M R/\∀i M' H',R i M'->Ext M H M' H'->HR K M' H'->Q i H'
theorem upO.el{K:o0}{t:TOd}{σ:St}{H:Hp}{Q:Option Int->Hp->Prop}{P:Prop}(h:upO K t σ H Q) (f:∀(Δ:DE) (M:DH) (R:Option Int->DH->Prop),SR K M H σ Δ->HR K M H->t Δ M R->(∀i M' H',R i M'->Ext M H M' H'->HR K M' H'->Q i H')->P):P:=by
 obtain⟨x1,x2,x3,a,b,c,d⟩:=h;exact f x1 x2 x3 a b c d
def POd(X:Cx) (e:Option K5) (t:TOd):Prop:=PO X e (upO X.K t)
def qq:TOd:=fun _ M Q=>Q none M
def AK(t:TEd):TOd:=fun Δ M Q=>t Δ M fun d M1=>∃i,d=.int i/\Q (some i) M1
theorem PO.conv{e:Option K5}{t t':TO}(h:PO X e t) (k:∀ σ H Q,t' σ H Q->t σ H Q):PO X e t':=fun p s σ H Q I q=>h p s σ H Q I (k σ H Q q)
theorem BR:POd X none qq:=B5.conv fun σ H Q hup=>hup.el fun Δ M R sr hr q k=>k none M H q (Ext.refl _ _) hr
theorem C3(h:PEd X e te):POd X (some e) (AK te):=(Cf h).conv fun σ H Q hup=>hup.el fun Δ M R sr hr q k=>⟨Δ,M,_,sr,hr,q,fun d M1 v H1 ⟨i,ed,q1⟩ e1 hr1 rv=>⟨i,by subst ed;simpa only[Rep]using rv,k _ M1 H1 q1 e1 hr1⟩⟩
def cK(xs:List D) (lo hi:Option Int):List D:=(xs.drop (HT.sIx xs.length 0 lo)).take (HT.sIx xs.length xs.length hi-HT.sIx xs.length 0 lo)
def slD:D->Option Int->Option Int->Option D
 |.lst ds,lo,hi=>some (.lst (cK ds lo hi))
 |.scr ds,lo,hi=>some (.lst (cK ds lo hi))
 |.str x,lo,hi=>if x.length<=J3 then some (.str (ae5 x lo hi))else none
 |.tup ds,lo,hi=>if HT.sIx ds.length 0 lo=0/\HT.sIx ds.length ds.length hi=ds.length then none else some (.tup (cK ds lo hi))
 |_,_,_=>none
def II:V->Option Int->Option Int->Hp->VK->Prop:=fun x lo hi H Q=>∃z,x=.str z/\z.length<=J3/\Q (.str (ae5 z lo hi)) H
theorem yT:SlR X II:=by
 intro ae s σ H x v vl vu lo hi sl Q I rx hs pl pu h;obtain⟨z,rfl,hz,q⟩:=h;obtain⟨t,rfl⟩:=rx;refine⟨"str",_,PySem.F.slot_str_getitem.lookup,typeIs_str _ _ _,?_⟩;have fin:∀(t':Tok) (k:Nat),EP X ae σ Q (.str (ae5 z lo hi) t') { s with toks:=k }:=fun t' k=>⟨.str (ae5 z lo hi),H,I.tok _,⟨t',rfl⟩,q⟩;cases pl with
 |none =>
  cases pu with
  |none=>exact U0 (l:=none) (u:=none) (st:=none) hs rfl (aa0 ⟨L5 (ab7 z _ _) hz,fin⟩)
  |int j tj=>exact U0 (l:=none) (u:=some (j,tj)) (st:=none) hs rfl (aa0 ⟨L5 (ab7 z _ _) hz,fin⟩)
 |int i ti =>
  cases pu with
  |none=>exact U0 (l:=some (i,ti)) (u:=none) (st:=none) hs rfl (aa0 ⟨L5 (ab7 z _ _) hz,fin⟩)
  |int j tj=>exact U0 (l:=some (i,ti)) (u:=some (j,tj)) (st:=none) hs rfl (aa0 ⟨L5 (ab7 z _ _) hz,fin⟩)
end
noncomputable def di(names:List (Str×O0)) (cells:List (Str×J8)):List (Str×J8):=(names.filterMap fun y=>if y.2==.free then(cells.lookup y.1).map fun c=>(y.1,c)else none).reverse
noncomputable def gj(env:Env) (y:Str×O0) (cs:List (Str×J8)):Sem (ForInStep (List (Str×J8))):=if(y.2==.free)=true then(do let c <-cellOf env y.1;X9 (P5 ((y.1,c)::cs)))else X9 (P5 cs)
theorem lI{env:Env}:∀(names:List (Str×O0)) (acc:List (Str×J8)),(∀y∈names,y.2=.free->(env.cells.lookup y.1).isSome=true) ->
  (forIn names acc (gj env):Sem (List (Str×J8)))=X9 (di names env.cells++acc)
 |[],acc,_=>by simp[di]
 |y::r,acc,h=>by
  rw[List.forIn_cons]
  by_cases hk:(y.2==Q6)=true
  ·have hs:=h y P4 (by simpa using hk);obtain⟨c,hc⟩:=S9.mp hs;have e1:gj env y acc=X9 (P5 ((y.1,c)::acc)):=by
    unfold gj cellOf;rw[if_pos hk,hc];simp only[ae6]
   rw[e1];simp only[ae6];rw[lI r ((y.1,c)::acc) fun y hy=>h y (L9 _ hy)];have e2:di (y::r) env.cells=di r env.cells++[(y.1,c)]:=by
    unfold di;rw[R4,if_pos hk,hc];simp
   rw[e2];simp
  ·have e1:gj env y acc=X9 (P5 acc):=by
    unfold gj;rw[if_neg hk]
   rw[e1];simp only[ae6];rw[lI r acc fun y hy=>h y (L9 _ hy)];have e2:di (y::r) env.cells=di r env.cells:=by
    unfold di;rw[R4,if_neg hk]
   rw[e2]
theorem Cc{scope:V6}{env:Env}(h:∀y∈scope.names,y.2=.free->(env.cells.lookup y.1).isSome=true):closureFor scope env=X9 (di scope.names env.cells):=by
 have:=lI (env:=env) scope.names [] h;simp only[Z7]at this;show(forIn scope.names [] (gj env) >>= fun cs=>X9 cs)=_;rw[this];simp only[ae6]
theorem Bk{cells:List (Str×J8)}{names:List (Str×O0)}{x:Str}{c:J8}(h:(di names cells).lookup x=some c):cells.lookup x=some c:=by
 have hm:=O1 h;unfold di at hm;rw[List.mem_reverse,W0]at hm;obtain⟨y,_,e⟩:=hm
 split at e
 ·cases q:cells.lookup y.1 with
  |none=>rw[q]at e;cases e
  |some c'=>rw[q]at e;cases e;exact q
 ·cases e
theorem fq:∀{l:List (Str×J8)}{x:Str}{c:J8},(x,c)∈l->∃c',l.lookup x=some c'
 |(y,d)::l,x,c,h=>by
  rw[O2];cases q:x==y with
  |true=>exact⟨d,by simp⟩
  |false =>
   rcases O7.mp h with e|h
   ·cases e;simp at q
   ·simpa using fq h
theorem zK{cells:List (Str×J8)}{names:List (Str×O0)}{x:Str}(h:names.lookup x=some .free) (hs:(cells.lookup x).isSome=true):∃c,(di names cells).lookup x=some c:=by
 obtain⟨c,hc⟩:=S9.mp hs;refine fq (c:=c) ?_;unfold di;rw[List.mem_reverse,W0];exact⟨(x,.free),O1 h,by simp[hc]⟩
noncomputable def bA(fs:V6) (N:List Str) (scope:V6) (ms:List Bool):Bool :=
 scope.kind==.function&&scope.names.all (fun y=>y.2 != .cell)&&scope.names.all (fun y=>y.2 != .local || scope.names.lookup y.1==some .local) &&
 scope.names.all (fun y=>y.2 != .free || fs.names.lookup y.1==some .cell)&&(ms.zip N).all (fun y=>!y.1 || scope.names.lookup y.2==some .free)&&decide (ms.length<=N.length)
theorem aR{X:Cx}{scope:V6}{ms:List Bool}{ar:List Str}{n0:Nat}(hX:X.env.cells=ae4 n0 X.env.scope.names []) (c:bA X.env.scope X.N scope ms=true):dN X scope (di scope.names X.env.cells) ms ar:=by
 unfold bA at c;simp only[N6,Z0,decide_eq_true_eq]at c;obtain⟨⟨⟨⟨⟨c1,c2⟩,c3⟩,c4⟩,c5⟩,c6⟩:=c;have fr:∀x,(x,Q6)∈scope.names->X.env.scope.names.lookup x=some .cell:=fun x hx=>by
  have:=c4 _ hx;simpa using this
 have cs:∀x,(x,Q6)∈scope.names->(X.env.cells.lookup x).isSome=true:=fun x hx=>by
  rw[hX];exact PySem.W.cellsFrom_some _ _ _ (.inl (fr x hx))
 refine⟨by simpa using c1,fun y hy e=>?_,fun y hy e=>?_,Cc fun y hy e=>?_,fun x c h=>Bk h,fun x h=>zK h (cs x (O1 h)),fun x h=>.inl (fr x (O1 h)),fun i x h1 h2=>?_,c6⟩
 ·have:=c2 y hy;rw[e]at this;simp at this
 ·have:=c3 y hy;simpa[e]using this
 ·obtain⟨a,b⟩:=y;cases e;exact cs a hy
 ·have:=c5 (true,x) (by
   rw[List.mem_iff_getElem?];exact⟨i,by rw[List.getElem?_zip_eq_some];exact⟨h1,h2⟩⟩)
  simpa using this
structure FnD(P:L1) (w:O6) (K:o0) (mg:Str->Option u8) (base:L6) (x:Str) (k n:Nat) (S:SpD):Prop where
 ex:∃(f:J8) (fd:S6) (ps:List Str),bf P w K mg base CX0 k f fd ps (spD K n S)/\mg x=some (.ref f)/\V4 K (.ref f)=true/\er K fd ps []
section
variable{X:Cx}{e:K5}{es:List K5}{t:TAd}{pos p:Pos}{x:Str}{k n:Nat}{S:SpD}
theorem dc(F:FnD X.prog X.w X.K X.mg X.base x k n S) (hr:cG k X.A) (hg:Gl X x) (ha:PAd X (e::es) t) (hdb:(x==("__debug__":Str))=false:=by decide) (he:K2 (e::es) X.env=(false,V3 e X.env)::K2 es X.env:=by rfl) (hpl:(V8 pos (K2 es X.env)).any (·.1)=false:=by rfl) :
  PEd X (.Call (.Name x p) (e::es) [] pos) (jB n S t):=by
 obtain⟨f,fd,ps,h1,h2,h3,h4⟩:=F.ex;exact Et h1 hr hg h2 h3 h4 ha hdb he hpl
end
section
variable{X:Cx}{a b c e:K5}{es:List K5}{te ta tb:TEd}{t:TAd}{pos:Pos}{tg iter:K5}
def Dw(te:TEd):TSd:=fun E Δ M=>te Δ M fun d M1=>∃a ds,d=.ref a/\M1 a=some (.lst ds)/\E.rt (.lst ds) (fZ M1 a)
theorem AU:bQ X (ad8 .Add) (iOp fun i j=>some (.int (i+j))):=by
 intro ae s σ H M x y v u dx dy dz Q I hr rx ry r1 r2 e k;obtain⟨i,j,rfl,rfl,e'⟩:=k5 e;cases e';exact FO ae s σ H x y v u Q I rx ry ⟨i,j,dI r1,dI r2,k _ H (Ext.refl _ _) hr (by simp[Rep])⟩
theorem Fo:Gy X (unaryOp .USub) (fun d=>match d with|.int i=>some (.int (-i))|_=>none):=by
 intro ae s σ H M x v dx dz Q I hr rx r1 e k;cases dx with
 |int i=>cases e;exact Eu ae s σ H x v Q I rx ⟨i,dI r1,k _ H (Ext.refl _ _) hr (by simp[Rep])⟩
 |_=>cases e
def lP:D->Option (List D)
 |.tup ds=>some ds
 |.lst ds=>some ds
 |.scr ds=>some ds
 |.str x=>if x.length<=J3 then some (ml x)else none
 |_=>none
def Dv(te:TEd):TId:=fun Δ M R=>te Δ M fun d M1=>∃ds,lP d=some ds/\(ds.length<=J3->R ds M1)
theorem qH{ae:List (J8×Obj)}{σ:St}{H:Hp}{s:J0}{o:Obj}(I:Inv X ae σ H s):∀b∈[s.heap.objs.size],du X ae H b:=fun b hb=>by
 have e:b=s.heap.objs.size:=by simpa using hb
 subst e;exact I.fpOk (J6 _) (I.hok.fresh (J6 _))
theorem El{K:o0}{x:Str}{M1:DH}{H1:Hp}:ItD K (ItW x.cps.size fun i v=>∃c,x.cps[i]?=some c/\v=.str ⟨#[c]⟩) (ml x) M1 H1:=fun M2 H2 e2 hr2 i=>⟨fun d hd=>by
  unfold ml at hd;rw[Q9]at hd;cases q:x.cps.toList[i]? with
  |none=>rw[q]at hd;cases hd
  |some c =>
   rw[q]at hd;cases hd;have hc:x.cps[i]?=some c:=by simpa using q
   refine⟨?_,fun y H' ⟨eH,c',hc',ey⟩=>?_⟩
   ·exact(Array.getElem?_eq_some_iff.mp hc).1
   ·subst eH;subst ey;rw[hc]at hc';cases hc';exact⟨Ext.refl _ _,hr2,by simp[Rep]⟩,fun hl=>by
  show x.cps.size<=i;simpa[ml]using hl⟩
end
section
variable{M:DH}
theorem rA{i:Int}:rdM M (.int i)=.int i:=rfl
theorem mO{i:Str}:rdM M (.str i)=.str i:=rfl
theorem CU:rdM M .non=.non:=rfl
theorem C0{i:List D}:rdM M (.tup i)=.tup i:=rfl
theorem CK{i:List D}:rdM M (.lst i)=.lst i:=rfl
theorem BV{i:List D}:rdM M (.scr i)=.scr i:=rfl
theorem eV{a:J8}{ds:List D}(h:M a=some (.lst ds)):rdM M (.ref a)=.lst ds:=by simp[rdM,h]
theorem Dk{a:J8}{ds:List D}:rdM (av M a (.lst ds)) (.ref a)=.lst ds:=eV ah
theorem Ff{f:Int->Int->Option D}{a b:Int}:iOp f (.int a) (.int b)=f a b:=rfl
theorem Dm{a b:Int}:i8 (.int a) (.int b)=some (.int (a+b)):=rfl
theorem wx{a b:Str}:i8 (.str a) (.str b)=if a.length+b.length<=J3 then some (.str (a++b))else none:=rfl
theorem vR{a b:List D}:i8 (.lst a) (.lst b)=if a.length+b.length<=J3 then some (.lst (a++b))else none:=rfl
theorem jd{a b:List D}:i8 (.tup a) (.tup b)=if a.length+b.length<=J3 then some (.tup (a++b))else none:=rfl
theorem Hv{a:List D}{b:Int}:ixD (.lst a) (.int b)=atI a b:=rfl
theorem GY{a:List D}{b:Int}:ixD (.tup a) (.int b)=atI a b:=rfl
theorem D2{z:Str}{i:Int}:ixD (.str z) (.int i)=if z.length<=J3 then(atI z.cps.toList i).map fun c=>.str ⟨#[c]⟩else none:=rfl
theorem Gw{α:Type}{x:α}{xs:List α}:atI (x::xs) 0=some x:=bH (j:=0) rfl
theorem Gq{α:Type}{x y:α}{xs:List α}:atI (x::y::xs) 1=some y:=bH (j:=1) rfl
theorem Ht{α:Type}{x y z:α}{xs:List α}:atI (x::y::z::xs) 2=some z:=bH (j:=2) rfl
theorem zY{f:D->Option D}{d:D}:jq f [d]=f d:=rfl
theorem Ej{a:List D}:gB (.lst a)=some (.int a.length):=rfl
theorem EU{a:List D}:gB (.tup a)=some (.int a.length):=rfl
theorem EA{a:List D}:gB (.scr a)=some (.int a.length):=rfl
theorem F9{x:Str}:gB (.str x)=if x.length<=J3 then some (.int x.length)else none:=rfl
theorem FK{i:Int}:GA (.int i)=some (.int (if i<0 then -i else i)):=rfl
theorem Fk{a:List D}:Gn (.lst a)=some (.tup a):=rfl
theorem Ei{a b:Int}:eqF (.int a) (.int b)=some (.bl (a==b)):=by simp[eqF,dLe,eqD]
theorem F2{a b:Str}:eqF (.str a) (.str b)=some (.bl (a==b)):=by simp[eqF,dLe,eqD]
theorem An{a:List D}:lP (.lst a)=some a:=rfl
theorem yB{a:List D}:lP (.tup a)=some a:=rfl
theorem Az{x:Str}:lP (.str x)=if x.length<=J3 then some (ml x)else none:=rfl
theorem Hz{n:Nat}:ixN (n+2) 1=some 1:=by simp[ixN]<;>omega
theorem sz3(n:Nat) (h:n<=1000:=by decide):n<=J3:=L5 h (by decide)
end
end L2
namespace L2
theorem zt{i j:Int}(h:-18446744073709551616<j/\j<18446744073709551616):iz i j=True:=by unfold iz;simp;right;assumption
theorem HG{i j:Int}(h:-18446744073709551616<i/\i<18446744073709551616):iz i j=True:=by unfold iz;simp;left;assumption
theorem zx:xq 10 18=True:=by simp[xq]
theorem Hk{i j:Int}(h:0<j/\j<1073741824):nU i j=True:=by unfold nU;simp[h]
end L2
namespace L2
open PySem PySem.Spec PyProof.Rows
theorem Dq{a b:Str}:eqD (.str a) (.str b)=(a==b):=by simp[eqD]
theorem oh{x:Str}:∀{ws:List Str},(ws.map D.str).any (fun d=>eqD d (.str x))=decide (x∈ws)
 |[]=>by simp
 |w::ws=>by
  rw[L7,Q5,oh (ws:=ws),Dq]
  by_cases h:w=x
  ·subst h;simp
  ·have h2:(w==x)=false:=by simpa using h
   have h3:¬ x=w:=fun e=>h e.symm;simp[h2,h3]
theorem tH{ws:List Str}:(ws.map D.str).all bZ=true:=by
 induction ws with
 |nil=>rfl
 |cons w ws ih=>rw[L7,W6,ih];rfl
section
variable{X:Cx}{e:K5}{te:TEd}{pos:Pos}
def D4(te:TEd):TSd:=fun E Δ M=>te Δ M fun d M1=>∃M2,LeM M2 M1/\E.rt d M2
theorem C5{M:DH}{q:J8}{o:HD}(h:M q=none):LeM M (av M q o):=fun a u e=>by
 by_cases ha:a=q
 ·subst ha;rw[h]at e;cases e
 ·rw[ak ha];exact e
end
end L2
namespace L2
open PySem PySem.Spec PyProof.Rows PySem.Builtin.Str
noncomputable def tx(cs:List Nat):Str:=⟨cs.toArray⟩
theorem BM(cs:List Nat):(tx cs).cps.toList=cs:=by simp[tx]
theorem A7(a b:List Nat):tx a++tx b=tx (a++b):=by
 show Str.mk (a.toArray++b.toArray)=_;simp[tx]
theorem cU{α:Type} [DecidableEq α]:∀(V K:List α),V.Nodup->(∀x∈V,x∈K)->V.length<=K.length
 |[],_,_,_=>S4 _
 |x::V,K,hn,h=>by
  have hx:=h x P4;obtain⟨h1,h2⟩:=W4.mp hn;have:=cU V (K.erase x) h2 fun y hy=>(List.mem_erase_of_ne (by rintro rfl;exact h1 hy)).mpr (h y (L9 _ hy));rw[List.length_erase_of_mem hx]at this;have hp:0<K.length:=List.length_pos_of_mem hx;simp only[N5];omega
noncomputable abbrev abc:Str:=X8 "abcdefghijklmnopqrstuvwxyz"
noncomputable def CF:List Nat:=List.range' 97 26
theorem FH:abc=tx CF:=by decide +kernel
end L2
namespace L2
open PySem PySem.Spec PyProof.Rows
theorem pV{g:GD}{tb:TSd}{E:iy}{all:List D}(I:Nat->DE->DH->Prop)
  (step:∀(i:Nat) (d:D) (Δ:DE) (M:DH) (X:DE->DH->Prop),all[i]?=some d->I i Δ M->(∀ Δ' M',I (i+1) Δ' M'->X Δ' M')->∃ Δ',g d Δ=some Δ'/\tb { E with nx:=X,ct:=X,bk:=E.nx } Δ' M)
  (fin:∀ Δ M,I all.length Δ M->E.nx Δ M):∀(ds:List D) (i:Nat) (Δ:DE) (M:DH),all.drop i=ds->i<=all.length->I i Δ M->dP g tb E ds Δ M
 |[],i,Δ,M,e,hi,h=>by
  have:i=all.length:=by
   have:=congrArg aa8 e;simp at this;omega
  subst this;simpa only[dP]using fin Δ M h
 |d::ds,i,Δ,M,e,hi,h=>by
  have hlt:i<all.length:=by
   have:=congrArg aa8 e;simp at this;omega
  have hd:all[i]?=some d:=by
   have:=congrArg List.head? e;simpa using this
  have hn:all.drop (i+1)=ds:=by
   rw[<-List.tail_drop,e];rfl
  simp only[dP];exact step i d Δ M _ hd h fun Δ' M' h'=>pV I step fin ds (i+1) Δ' M' hn hlt h'
theorem br{g:GD}{tb:TSd}{E:iy}{ds:List D}{Δ:DE}{M:DH}(I:Nat->DE->DH->Prop) (h0:I 0 Δ M)
  (step:∀(i:Nat) (d:D) (Δ:DE) (M:DH) (X:DE->DH->Prop),ds[i]?=some d->I i Δ M->(∀ Δ' M',I (i+1) Δ' M'->X Δ' M')->∃ Δ',g d Δ=some Δ'/\tb { E with nx:=X,ct:=X,bk:=E.nx } Δ' M)
  (fin:∀ Δ M,I ds.length Δ M->E.nx Δ M):dP g tb E ds Δ M:=pV I step fin ds 0 Δ M rfl (S4 _) h0
theorem so{g:GD}{tc:TTd}{te:TEd}{all:List D}{Q:List D->DH->Prop}(I:Nat->List D->DE->DH->Prop)
  (step:∀ (i:Nat) (d:D) (acc:List D) (Δ:DE) (M:DH) (X:List D → DE → DH → Prop),all[i]? = some d → I i acc Δ M → (∀ acc' Δ' M',I (i + 1) acc' Δ' M' → X acc' Δ' M') →
   ∃ Δ',g d Δ=some Δ'/\tc Δ' M fun b M1=>if b=true then te Δ' M1 fun y M2=>X (acc++[y]) Δ' M2 else X acc Δ' M1)
  (fin:∀acc Δ M,I all.length acc Δ M->Q acc M):∀(ds:List D) (i:Nat) (acc:List D) (Δ:DE) (M:DH),all.drop i=ds->i<=all.length->I i acc Δ M->fI g tc te ds Δ M acc Q
 |[],i,acc,Δ,M,e,hi,h=>by
  have:i=all.length:=by
   have:=congrArg aa8 e;simp at this;omega
  subst this;simpa only[fI]using fin acc Δ M h
 |d::ds,i,acc,Δ,M,e,hi,h=>by
  have hlt:i<all.length:=by
   have:=congrArg aa8 e;simp at this;omega
  have hd:all[i]?=some d:=by
   have:=congrArg List.head? e;simpa using this
  have hn:all.drop (i+1)=ds:=by
   rw[<-List.tail_drop,e];rfl
  simp only[fI];exact step i d acc Δ M (fun acc' Δ' M'=>fI g tc te ds Δ' M' acc' Q) hd h fun acc' Δ' M' h'=>so I step fin ds (i+1) acc' Δ' M' hn hlt h'
theorem ou{g:GD}{tc:TTd}{te:TEd}{ds:List D}{Δ:DE}{M:DH}{Q:List D->DH->Prop}(I:Nat->List D->DE->DH->Prop) (h0:I 0 [] Δ M)
  (step:∀ (i:Nat) (d:D) (acc:List D) (Δ:DE) (M:DH) (X:List D → DE → DH → Prop),ds[i]? = some d → I i acc Δ M → (∀ acc' Δ' M',I (i + 1) acc' Δ' M' → X acc' Δ' M') →
   ∃ Δ',g d Δ=some Δ'/\tc Δ' M fun b M1=>if b=true then te Δ' M1 fun y M2=>X (acc++[y]) Δ' M2 else X acc Δ' M1)
  (fin:∀acc Δ M,I ds.length acc Δ M->Q acc M):fI g tc te ds Δ M [] Q:=so I step fin ds 0 [] Δ M rfl (S4 _) h0
theorem szB(n:Nat) (h:n<=16000000:=by decide):n<=J3:=L5 h (by decide)
theorem eX{α:Type}{f:α->D}{xs:List α}{i:Nat}{d:D}(h:(xs.map f)[i]?=some d):∃x,xs[i]?=some x/\d=f x:=by
 rw[Q9]at h;cases e:xs[i]? with
 |none=>rw[e]at h;cases h
 |some x=>rw[e]at h;cases h;exact⟨x,rfl,rfl⟩
theorem rZ{K:o0}{M:DH}{H:Hp}:∀ns:List Int,au K M H (ns.map D.int) (ns.map V.int)
 |[]=>au.nil
 |n::ns=>au.cons (by simp[Rep]) (rZ ns)
theorem yc{K:o0}{H:Hp}{a:J8}{ns:List Int}(hO:CA H) (hS:SqL K H a (ns.map V.int)):au K noM H [.scr (ns.map D.int)] [.ref a]:=by
 refine au.cons ?_ au.nil;simp only[Rep];refine⟨a,ns.map V.int,rfl,?_,rZ ns⟩;rcases hS with h|h
 ·left;rcases h with h|h
  ·rcases hO a with z|⟨o,xs,z⟩<;>(rw[h]at z;cases z)
  ·exact⟨h,rfl⟩
 ·right;exact .inr h
def GJ(S:SpD):Prop:=∀(ns:List Int) (R:D->DH->Prop),ns.length<=63->(∀M',R (.bl true) M')->S [.scr (ns.map .int)] noM R
theorem Gp{S:SpD}(hS:GJ S) {k:Nat}{x:Str}{l:PySem.W.OpenLaw}{q:L1}{loose:List Str}{XP:(Str->Option u8)->L6->Prop}{YP:O6->L6->Prop}{d:DefRec}{K:Params->o0}(hr:cG k ac6) (hn:l.most=some 63) (hdf:d.params.defaults=[])
  (hY:∀(w:O6) (h:L6),YP w h->(K w.params).In h)
  (F:∀ (w:O6) (mg:Str → Option u8) (fa:J8) (h:L6),(K w.params).In h → h.Ns T3 mg → mg d.name = some (.ref fa) →
   ∃fd:S6,(∀(s:J0) (u:u8),ae3 s fd ⟨[u],[]⟩ [(x,u)])/\∀base:L6,(K w.params).In base->base.Ns T3 mg->bf l.prog w (K w.params) mg base CX0 k fa fd [x] (spD (K w.params) 1 S)) :
  PySem.W.WalkO q loose XP YP l.row.toRowW d [] (fun f vs=>PySem.call f vs) :=
 L2.wo (n:=63) (k:=k) (x:=x) (CX:=fun _=>CX0) (sp:=fun w=>spD (K w.params) 1 S) hn (by decide) hdf hr hY F
  (fun w H a ns hl hO hq=>⟨[.scr (ns.map .int)],noM,fun d _=>d=.bl true,rfl,yc hO hq,HR.nil,hS ns _ hl (fun _=>rfl),fun d M' v H' e _ _ rv=>by subst e;simpa only[Rep]using rv⟩) fun _ _ _ _ _ z=>z
section
variable{prog:L1}{w:O6}{A:N1}{E:u8->J0->Prop}{s:J0}
def uw(h:L6) (a l:J8) (i:Int):Prop:=∃o,h.get? a=some o/\o.cls=.type "reversed"/\o.data=.fields #[.ref l,rawInt i]
theorem uw.at{h h':L6}{a l:J8}{i:Int}(x:uw h a l i) (e:∀o,h.get? a=some o->h'.get? a=some o):uw h' a l i:=let⟨o,ho,r⟩:=x;⟨o,e _ ho,r⟩
end
section
variable{X:Cx}{a b c e:K5}{es:List K5}{te ta tb:TEd}{t:TAd}{pos:Pos}{tg iter:K5}
theorem oO:Q8 "reversed"=some (.type "reversed"):=by kernel_rfl
end
section
variable{X:Cx}
noncomputable def neF(x y:D):Option D:=if dLe x 60=true/\dLe y 60=true then some (.bl (!(eqD x y)))else none
theorem Gv(hu:X.A.units+64<aa1):bQ X (L3 .NotEq) neF:=by
 intro ae s σ H M x y v u dx dy dz Q I hr rx ry r1 r2 e k;unfold neF at e
 by_cases hc:dLe dx 60=true/\dLe dy 60=true
 ·rw[if_pos hc]at e;cases e;exact(ox I 60 (A:=X.A) (by omega) hc.1 hc.2 r1 r2 rx ry).2.2 X.prog X.w X.xe _ ⟨.bl (!(eqD dx dy)),H,I,rfl,k _ H (Ext.refl _ _) hr (by simp[Rep])⟩
 ·rw[if_neg hc]at e;cases e
end
end L2
namespace HT
open PySem PyProof.Rows
section
variable{prog:L1}{w:O6}{A:N1}{E:u8->J0->Prop}{s:J0}
theorem oT{t:J8}{items:Array u8}{Q:Bool->J0->Prop}(ht:ad7 s.heap t items) (h:Q true s):K4 (K7 prog w) A (L4.Tuple.tupleIsExact (.ref t)) Q E s:=by
 unfold L4.Tuple.tupleIsExact;exact I0 (ab6 ht.typeIs (J5 (by simpa using h)))
theorem getItem_tuple_whole{t sl:J8}{items:Array u8}{vl vu:u8}{lo hi:Option Int}{Q:u8->J0->Prop}(ht:ad7 s.heap t items) (hs:s.heap.IsSliceOf sl vl vu .none) (pl:ac9 vl lo) (pu:ac9 vu hi)
  (hw:sIx items.size 0 lo=0/\sIx items.size items.size hi=items.size) (h:Q (.ref t) s):K4 (K7 prog w) A (Z8 (.ref t) (.ref sl)) Q E s:=by
 obtain⟨os,hos,hcs,hds⟩:=id hs;have hTs:s.TypeIs (.ref sl) "slice":=⟨os,hos,hcs⟩;unfold Z8
 try with_reducible refine S2 ?_
 first|refine I0 (J5 ?_)|skip
 refine I0 (wpAny_sequenceKey ht.typeIs (by decide) ?_);refine I0 (Q7 (name:=X8 "__getitem__") ht.typeIs K8
  (V5 K8 ht.typeIs entry_tuple_getitem ?_ (args_tuple_getitem _ _)))
 show K4 _ _ (R9 (.ref t) >>= _) _ _ s;refine I0 (aa9 ht ?_);refine I0 (ab6 hTs ?_);rw[if_pos (by decide)];refine I0 (gA hs pl pu ?_);show K4 _ _ (if(((sIx items.size 0 lo:Nat):Int)==0&&(1:Int)==1&&(sIx items.size items.size hi-sIx items.size 0 lo)==items.size)=true then _ else _) _ _ s;rw[if_pos (by rw[hw.1,hw.2];simp)];refine I0 (oT ht ?_);rw[if_pos rfl];refine I0 (wpAny_rule ?_)
 first
  |exact J5 ⟨_,rfl,J5 h⟩
  |exact I0 (J5 (J5 ⟨_,rfl,J5 h⟩))
theorem lS{sl:J8}{tk:Tok}{n:Nat}{Q:Int×Int×Nat->J0->Prop}(hs:s.heap.IsSliceOf sl .none .none (.int (-1) tk))
  (h:Q ((n:Int)-1,-1,n) s):K4 (K7 prog w) A (R8 (.ref sl) (X9 (n:Int))) Q E s:=by
 obtain⟨os,hos,hcs,hds⟩:=id hs;unfold R8 L4.Slice.sliceFields;refine I0 (I0 (T9 hos hds (x:=.none) rfl (I0 (T9 hos hds (x:=.none) rfl (I0 (T9 hos hds (x:=.int (-1) tk) rfl (J5 ?_)))))));refine I0 (slicePart_int ?_);show K4 _ _ (if((-1:Int)==0)=true then _ else _) _ _ s;rw[if_neg (by decide)];refine I0 (aa3 (I0 (aa3 (I0 (J5 ?_)))));show K4 _ _ (X9 ((n:Int)-1,(-1:Int),N8 ((n:Int)-1) (-1) (-1))) _ _ s;have e:N8 ((n:Int)-1) (-1) (-1)=n:=by
  unfold N8;simp only[show ¬ ((-1:Int) > 0)by decide,if_false]
  split<;>simp<;>omega
 rw[e];exact J5 h
theorem yR(xs:Array u8):((V7 xs.size).filterMap fun(m:Nat)=>xs[((xs.size:Int)-1+(m:Int)*-1).toNat]?)=xs.toList.reverse:=by
 have:∀k,k<=xs.size->((V7 k).filterMap fun(m:Nat)=>xs[((xs.size:Int)-1+(m:Int)*-1).toNat]?)=xs.toList.reverse.take k:=by
  intro k
  induction k with
  |zero=>intro _;simp
  |succ k ih =>
   intro hk;rw[List.range_succ,List.filterMap_append,ih (by exact U4 (by assumption))];have e1:((xs.size:Int)-1+(k:Int)*-1).toNat=xs.size-1-k:=by omega
   have e2:xs[xs.size-1-k]?=some xs[xs.size-1-k]:=by simp[show xs.size-1-k<xs.size by omega]
   have e3:xs.toList.reverse[k]?=some xs[xs.size-1-k]:=by
    rw[List.getElem?_reverse (by simp;assumption)];simpa using e2
   rw[List.take_add_one,e3];have e4:(List.filterMap (fun(m:Nat)=>xs[((xs.size:Int)-1+(m:Int)*-1).toNat]?) [k])=[xs[xs.size-1-k]]:=by
    rw[R4,e1,e2];rfl
   rw[e4];rfl
 rw[this xs.size (J6 _)];exact List.take_of_length_le (by simp)
theorem getItem_tuple_rev{t sl:J8}{items:Array u8}{tk:Tok}{Q:u8->J0->Prop}(ht:ad7 s.heap t items) (hs:s.heap.IsSliceOf sl .none .none (.int (-1) tk))
  (h:Q (.ref s.heap.objs.size) { s with heap:=s.heap.push { cls:=.type "tuple",data:=.seq items.toList.reverse.toArray } }) (hsz:items.size<=J3):K4 (K7 prog w) A (Z8 (.ref t) (.ref sl)) Q E s:=by
 have htake:sizeOk (.seq items.toList.reverse.toArray):=by
  show items.toList.reverse.toArray.size<=J3;simpa using hsz
 obtain⟨os,hos,hcs,hds⟩:=id hs;have hTs:s.TypeIs (.ref sl) "slice":=⟨os,hos,hcs⟩;unfold Z8
 try with_reducible refine S2 ?_
 first|refine I0 (J5 ?_)|skip
 refine I0 (wpAny_sequenceKey ht.typeIs (by decide) ?_);refine I0 (Q7 (name:=X8 "__getitem__") ht.typeIs K8
  (V5 K8 ht.typeIs entry_tuple_getitem ?_ (args_tuple_getitem _ _)))
 show K4 _ _ (R9 (.ref t) >>= _) _ _ s;refine I0 (aa9 ht ?_);refine I0 (ab6 hTs ?_);rw[if_pos (by decide)];refine I0 (lS hs ?_);show K4 _ _ (if((((items.size:Int)-1)==0&&(-1:Int)==1&&items.size==items.size)=true)then _ else _) _ _ s;rw[if_neg (by simp),yR]
 first
  |exact I0 (m:=K9 _) (N2 (J5 ⟨_,rfl,J5 h⟩) htake)
  |exact I0 (m:=K9 _) (N2 (I0 (J5 (J5 ⟨_,rfl,J5 h⟩))) htake)
  |exact I0 (I0 (m:=K9 _) (N2 (J5 (J5 ⟨_,rfl,J5 h⟩)) htake))
  |exact I0 (I0 (m:=K9 _) (N2 (J5 ⟨_,rfl,J5 h⟩) htake))
end
end HT
namespace L2
open PySem PySem.Spec PyProof.Rows
section
variable{X:Cx}{a b c e:K5}{es:List K5}{te ta tb ts:TEd}{t:TAd}{pos:Pos}
def slE:D->Option Int->Option Int->Option D
 |.tup ds,lo,hi=>some (.tup (cK ds lo hi))
 |d,lo,hi=>slD d lo hi
def Ii(K:o0):V->Option Int->Option Int->Hp->VK->Prop:=fun x lo hi H Q=>∃a xs,x=.ref a/\SqT K H a xs/\(HT.sIx xs.length 0 lo=0/\HT.sIx xs.length xs.length hi=xs.length)/\Q (.ref a) H
theorem sA:SlR X (Ii X.K):=by
 intro ae s σ H x v vl vu lo hi sl Q I rx hs pl pu h;obtain⟨a,xs,rfl,hx,hw,q⟩:=h;cases rx;obtain⟨its,r,ht,hz⟩:=I.tuple hx;have bp:its.toArray.size=xs.length:=by rw[J4];exact r.length.symm
 exact⟨"tuple",_,K8.lookup,ht.typeIs,HT.getItem_tuple_whole ht hs pl pu (by rw[bp];exact hw) ⟨.ref a,H,I,rfl,q⟩⟩
theorem uq{ds:List D}{lo hi:Option Int}(h:HT.sIx ds.length 0 lo=0/\HT.sIx ds.length ds.length hi=ds.length):cK ds lo hi=ds:=by
 unfold cK;rw[h.1,h.2];simp
def G8(te:TEd) (tl th:TOd):TEd:=fun Δ M Q=>te Δ M fun x M1=>tl Δ M1 fun l M2=>th Δ M2 fun u M3=>∃z,slE (rdM M3 x) l u=some z/\Q z M3
theorem tZ{ds:List D}{lo hi:Option Int}:slE (.tup ds) lo hi=some (.tup (cK ds lo hi)):=rfl
theorem GI{ds:List D}{lo hi:Option Int}:slE (.lst ds) lo hi=some (.lst (cK ds lo hi)):=rfl
theorem Hc{ds:List D}{lo hi:Option Int}:slE (.scr ds) lo hi=some (.lst (cK ds lo hi)):=rfl
theorem au.reverse{K:o0}{M:DH}{H:Hp}:∀{ds:List D}{vs:List V},au K M H ds vs->au K M H ds.reverse vs.reverse
 |[],_,h=>by simp only[au]at h;subst h;exact au.nil
 |d::ds,_,h=>by
  simp only[au]at h;obtain⟨v,ws,rfl,h1,h2⟩:=h;rw[X4,X4];exact(au.reverse h2).append (au.cons h1 au.nil)
def yA(te ts:TEd):TEd:=fun Δ M Q=>te Δ M fun x M1=>ts Δ M1 fun st M2=>st=.int (-1)/\∃ds,x=.tup ds/\Q (.tup ds.reverse) M2
def yF:TSd:=fun _ _ _=>False
variable{scope:V6}{cl:List (Str×J8)}{ar:List Str}{tg:K5}
def BE(X:Cx) (scope:V6) (cl:List (Str×J8)) (ar:List Str) (tgs:List K5) (g:GDs):Prop:=∃gv:TGs,(∀C s H ex,PGs (aA X scope cl (X.N++ar) C s H ex) tgs gv)/\∀(ds:List D) (vs:List V) (σ:St) (Δ Δ':DE) (M:DH) (H:Hp) (Q:St->Hp->Prop),SR X.K M H σ Δ->HR X.K M H->au X.K M H ds vs->g ds Δ=some Δ'->(∀ σ',SR X.K M H σ' Δ'->Q σ' H)->gv vs σ H Q
theorem jW:BE X scope cl ar [] md:=⟨Fg,fun _ _ _ _=>wn,fun ds vs σ Δ Δ' M H Q sr hr rv e k=>by
 cases ds with
 |nil=>simp only[au]at rv;subst rv;cases e;exact⟨rfl,k _ sr⟩
 |cons _ _=>cases e⟩
theorem cA{tgs:List K5}{g:GD}{gs:GDs}(h1:PGa X scope cl ar tg g) (h2:BE X scope cl ar tgs gs)
  (hs:∀env,(P9 (tg::tgs) env).map (·.2)=Z6 tg env::(P9 tgs env).map (·.2):=by intro _;rfl):BE X scope cl ar (tg::tgs) (fA g gs):=by
 obtain⟨g1,p1,k1⟩:=h1;obtain⟨g2,p2,k2⟩:=h2;refine⟨yP g1 g2,fun C s H ex=>sE (p1 C s H ex) (p2 C s H ex) (hs _),fun ds vs σ Δ Δ' M H Q sr hr rv e k=>?_⟩;cases ds with
 |nil=>cases e
 |cons d r =>
  simp only[au]at rv;obtain⟨v,ws,rfl,h3,h4⟩:=rv;simp only[fA]at e;cases q:g d Δ with
  |none=>rw[q]at e;cases e
  |some Δ1 =>
   rw[q]at e;exact⟨v,ws,rfl,k1 d v σ Δ Δ1 M H _ sr hr h3 q fun σ1 sr1=>k2 r ws σ1 Δ1 Δ' M H Q sr1 hr h4 e k⟩
theorem jN{tgs:List K5}{kx:Nat}{g:GDs}{n:Nat}(hc:X.calm=true) (h:BE X scope cl ar tgs g) (hn:∀env,(P9 tgs env).length=n:=by intro _;rfl) (hst:∀env,(P9 tgs env).findIdx? (·.1)=none:=by intro _;rfl):PGa X scope cl ar (.Tuple tgs kx pos) (jE g n):=by
 obtain⟨g1,p1,k1⟩:=h;refine⟨EC X.K n g1,fun C s H ex=>zc (X:=aA X scope cl (X.N++ar) C s H ex) hc (p1 C s H ex) (hn _) (hst _),fun d v σ Δ Δ' M H Q sr hr rv e k=>?_⟩;cases d with
 |tup ds =>
  simp only[jE]at e
  by_cases hl:ds.length=n
  ·rw[if_pos hl]at e;simp only[Rep]at rv;obtain⟨a,vs,rfl,ta,rl⟩:=rv;exact⟨a,vs,rfl,ta.sq,by rw[<-rl.length];exact hl,k1 ds vs σ Δ Δ' M H Q sr hr rl e k⟩
  ·rw[if_neg hl]at e;cases e
 |_=>cases e
end
section
variable{X:Cx}{a b c e:K5}{es:List K5}{te ta tb ts:TEd}{t:TAd}{pos:Pos}
def inE(neg:Bool) (x y:D):Option D:=match y with
 |.str j=>match x with
  |.str i=>some (.bl (xor neg (!(T6 j i 0 j.length 1).isEmpty)))
  |_=>none
 |y=>inD neg x y
theorem AG:bQ X (L3 .In) (inE false):=by
 intro ae s σ H M x y v u dx dy dz Q I hr rx ry r1 r2 e k;cases dy with
 |str j =>
  cases dx with
  |str i =>
   cases e;exact xm ae s σ H x y v u Q I rx ry ⟨i,j,oY r1,oY r2,k _ H (Ext.refl _ _) hr (by simp[Rep])⟩
  |_=>cases e
 |_=>exact Ij ae s σ H M x y v u dx _ dz Q I hr rx ry r1 r2 e k
theorem zI:bQ X (L3 .NotIn) (inE true):=by
 intro ae s σ H M x y v u dx dy dz Q I hr rx ry r1 r2 e k;cases dy with
 |str j =>
  cases dx with
  |str i =>
   cases e;exact rM ae s σ H x y v u Q I rx ry ⟨i,j,oY r1,oY r2,k _ H (Ext.refl _ _) hr (by simp[Rep])⟩
  |_=>cases e
 |_=>exact Ca ae s σ H M x y v u dx _ dz Q I hr rx ry r1 r2 e k
theorem GP{b:Bool}{x:D}{ds:List D}:inE b x (.lst ds)=if bZ x=true/\ds.all bZ=true then some (.bl (xor b (ds.any fun d=>eqD d x)))else none:=rfl
theorem DQ{b:Bool}{c:Nat}{y:Str}:inE b (.str (tx [c])) (.str y)=some (.bl (xor b (decide (c∈y.cps.toList)))):=by
 show some (D.bl (xor b (!(T6 y ⟨#[c]⟩ 0 y.length 1).isEmpty)))=_;rw[StrLaws.found_one]
theorem lQ:fillsNumberSlot (.type "tuple") "mul"=X9 false :=
 PySem.fillsNumberSlot_seq (id:="tuple.__mul__") (r:=some (.builtin "tuple.__rmul__")) F.slot_tuple_mul.lookup (by decide +kernel) F.slot_tuple_rmul.lookup (by decide +kernel)
theorem rL:seqRepeat? (.type "tuple")=X9 (some (.builtin "tuple.__mul__")):=by
 unfold seqRepeat?;rw[PySem.seqSlot_of (T:="tuple") (name:="__mul__") (id:="tuple.__mul__") F.slot_tuple_mul.lookup (by decide +kernel),PySem.seqSlot_of (T:="tuple") (name:="__rmul__") (id:="tuple.__rmul__") F.slot_tuple_rmul.lookup (by decide +kernel)];rfl
theorem ot(a:Int) (t:Tok) (l:J8) (items:Array u8) :
  Meets (L4.«int.__rmul__» ⟨[.int a t,.ref l],[]⟩) (fun _ R s=>ad7 s.heap l items/\R (.ok (.ret u8.notImplemented)) s) :=
 .of_wp fun prog w A R s h=>by
  obtain⟨hp,g,d,tk,os⟩:=s;obtain⟨⟨⟨cls,dd,data,sl⟩,ho,hc,n,hd⟩,h⟩:=h;simp only at hc hd;subst hc hd
  wp_walk;exact⟨_,rfl,h⟩
theorem oQ(l:J8) (items:Array u8) (x:Int) (u:Tok) (hne:items.isEmpty=false) (hx:2<=x) (hx2:x<2 ^ 62) (hz:items.size*x.toNat<=J3) :
  Meets (L4.«tuple.__mul__» ⟨[.ref l,.int x u],[]⟩) (fun _ R s=>ad7 s.heap l items/\R (.ok (.ret (.ref s.heap.objs.size))) { s with heap:=s.heap.push { cls:=.type "tuple",data:=.seq (K1 x.toNat items.toList).flatten.toArray } }) :=
 .of_wp fun prog w A R s h=>by
  obtain⟨ht,h⟩:=h;show K4 _ _ (do
   let n <-asIndex (.int x u)
   if n < -(2 ^ 63) || n>=2 ^ 63 then
    rule "tuple.repeat.overflow";raiseError "OverflowError" s!"cannot fit '{← typeNameOf (.int x u)}' into an index-sized integer"
   let xs <-R9 (.ref l)
   if xs.isEmpty || n==1 then
    if <-L4.Tuple.tupleIsExact (.ref l)then rule "tuple.repeat.same-object";return <-ret (.ref l)
   if n<=0 || xs.isEmpty then return <-ret (<-K9 #[])
   if xs.size*n > (2 ^ 63-1) / 8 then rule "tuple.repeat.no-memory";raiseNew (<-newExc (.type "MemoryError") [])
   if L4.Tuple.tupleTooMany (xs.size*n)then unsupported "tuple.__mul__:memory"
   ret (<-K9 ((K1 n.toNat xs).foldl (·++·) #[]))) _ _ s
  refine I0 (wpAny_of_eq (a:=x) rfl ?_);dsimp only;rw[if_neg (by simp only[Bool.or_eq_true,decide_eq_true_eq];omega)];refine I0 (aa9 ht ?_);rw[if_neg (by simp[hne];omega)];rw[if_neg (by simp[hne];exact aa2 (by assumption))];have hxn:((x.toNat:Nat):Int)=x:=by omega
  have hm:(items.size:Int)*x=((items.size*x.toNat:Nat):Int):=by rw[Int.natCast_mul,hxn]
  have h16:J3=16777216:=rfl;rw[if_neg (by rw[hm];omega)];rw[if_neg (by unfold L4.Tuple.tupleTooMany;rw[hm];simp only[decide_eq_true_eq];omega)];have hf:ad1 (fun x1 x2=>x1++x2) #[] (K1 x.toNat items)=(K1 x.toNat items.toList).flatten.toArray:=by
   have:=k8 items.toList x.toNat [];rw[List.nil_append]at this;simpa using this
  rw[hf];have hs:sizeOk (.seq (K1 x.toNat items.toList).flatten.toArray):=by
   show(K1 x.toNat items.toList).flatten.toArray.size<=J3;rw[J4,qB,T5,Nat.mul_comm];exact hz
  exact I0 (m:=K9 _) (N2 (J5 ⟨_,rfl,h⟩) hs)
theorem au.rep{K:o0}{M:DH}{H:Hp}{ds:List D}{vs:List V}(h:au K M H ds vs):∀k:Nat,au K M H (K1 k ds).flatten (K1 k vs).flatten
 |0=>au.nil
 |k+1=>by
  rw[Q0,Q0,T0,T0];exact h.append (au.rep h k)
noncomputable def yt:D->D->Option D
 |.int a,.int b=>if iz a b then some (.int (a*b))else none
 |.str x,.int n=>if x.length<=16777216/\-(2 ^ 63)<=n/\n<=16777216/\x.length*n.toNat<=16777216 then some (.str (Txt.mul x n))else none
 |.tup ds,.int n=>if 2<=n/\n<2 ^ 62/\ds≠[]/\ds.length*n.toNat<=J3 then some (.tup (K1 n.toNat ds).flatten)else none
 |.lst ds,.int n=>if -(2 ^ 63)<=n/\n<2 ^ 63/\ds.length*n.toNat<=J3 then some (.lst (K1 n.toNat ds).flatten)else none
 |_,_=>none
theorem c8:bQ X (P7 .Mult) yt:=by
 intro ae s σ H M x y v u dx dy dz Q I hr rx ry r1 r2 e k;cases dx with
 |int a =>
  cases dy with
  |int b=>exact FC ae s σ H M x y v u _ _ dz Q I hr rx ry r1 r2 e k
  |_=>cases e
 |str z =>
  cases dy with
  |int n =>
   simp only[yt]at e
   by_cases hc:z.length<=16777216/\-(2 ^ 63)<=n/\n<=16777216/\z.length*n.toNat<=16777216
   ·rw[if_pos hc]at e;cases e;have e1:=oY r1;have e2:=dI r2;subst e1;subst e2;obtain⟨t1,rfl⟩:=rx;obtain⟨t2,rfl⟩:=ry;have hok:MulOk z n:=by
     by_cases hn:0<=n
     ·exact mulOk_of z.length n.toNat (J6 _) (by omega) hc.2.1 (by omega) hc.2.2.2
     ·exact mulOk_of z.length 0 (J6 _) (by omega) hc.2.1 (by decide) (by exact S4 _)
    exact SB.mul hok fun t' kk=>⟨.str _,H,I.tok _,⟨t',rfl⟩,k _ H (Ext.refl _ _) hr (by simp[Rep])⟩
   ·rw[if_neg hc]at e;cases e
  |_=>cases e
 |tup ds =>
  cases dy with
  |int n =>
   simp only[yt]at e
   by_cases hc:2<=n/\n<2 ^ 62/\ds≠[]/\ds.length*n.toNat<=J3
   ·rw[if_pos hc]at e;cases e;have e2:=dI r2;subst e2;obtain⟨t2,rfl⟩:=ry;obtain⟨a,vs,rfl,sq,rl⟩:=r1;cases rx;obtain⟨its,rv,pt,hz⟩:=I.tuple sq;have hl1:=rv.length;have hl2:=rl.length;have hne:its.toArray.isEmpty=false:=by
     cases its with
     |nil =>
      have h0:ds.length=0:=by rw[hl2,hl1];rfl
      exact absurd (List.length_eq_zero_iff.mp h0) hc.2.2.1
     |cons _ _=>rfl
    have hzz:its.toArray.size*n.toNat<=J3:=by rw[J4,<-hl1,<-hl2];exact hc.2.2.2
    refine wpAny_binaryOp_repeat_ref (T:="tuple") (U:="int") (by decide) pt.typeIs (fun s'=>ac0 s' n t2) lQ F.fills_int_mul Z9 rL F.slot_int_index.lookup
     (aa5 Z9 (ac0 s n t2) F.entry_int_rmul (F.args_int_rmul_2 _ _) (ot n t2 a its.toArray)
      ⟨pt,rfl,pt.typeIs,aa5 F.slot_tuple_mul pt.typeIs F.entry_tuple_mul (F.args_tuple_mul_2 _ _) (oQ a its.toArray n t2 hne hc.1 hc.2.1 hzz) ⟨pt,?_⟩⟩)
    have rr:az (K1 n.toNat vs).flatten (K1 n.toNat its).flatten:=rv.rep n.toNat;refine⟨.ref s.heap.objs.size,_,I.laid (t':=s.toks) (o:=.tup (K1 n.toNat vs).flatten) (fun b ob q=>J1 _ q) (J6 _) ?_,rfl,?_⟩
    ·refine⟨?_,_,rr,by simpa using jY.new _ _⟩;rw[qB,Nat.mul_comm,<-hl2];exact hc.2.2.2
    ·exact j7 hr (I.hok.fresh (J6 _)) (rl.rep n.toNat) k
   ·rw[if_neg hc]at e;cases e
  |_=>cases e
 |lst ds =>
  cases dy with
  |int n =>
   simp only[yt]at e
   by_cases hc:-(2 ^ 63)<=n/\n<2 ^ 63/\ds.length*n.toNat<=J3
   ·rw[if_pos hc]at e;cases e;obtain⟨a,vs,rfl,sq,rl⟩:=r1;exact zd ae s σ H _ _ v u Q I rx ry ⟨a,n,vs,rfl,dI r2,sq,hc.1,hc.2.1,by rw[<-rl.length];exact hc.2.2,fun p hp=>gN hr hp (rl.rep n.toNat) k⟩
   ·rw[if_neg hc]at e;cases e
  |_=>cases e
 |_=>cases e
theorem qw{a b:Int}:yt (.int a) (.int b)=if iz a b then some (.int (a*b))else none:=rfl
noncomputable def ny:D->Bool
 |.non=>true
 |_=>false
def rK(neg:Bool) (x y:D):Option D:=match y with|.non=>some (.bl (xor neg (ny x)))|_=>none
theorem vG{K:o0}{M:DH}{H:Hp}{d:D}{x:V}(r:aU K M H d x):decide (x=V.non)=ny d:=by
 cases d with
 |tup ds=>obtain⟨a,vs,rfl,_⟩:=r;rfl
 |lst ds=>obtain⟨a,vs,rfl,_⟩:=r;rfl
 |scr ds=>obtain⟨a,vs,rfl,_⟩:=r;rfl
 |emp=>simp only[aU,Rep]at r;obtain⟨a,rfl,_⟩:=r;rfl
 |box _ _=>simp only[aU,Rep]at r;obtain⟨a,_,rfl,_⟩:=r;rfl
 |_=>simp only[aU,Rep]at r;subst r;rfl
theorem Hg:bQ X (L3 .Is) (rK false):=by
 intro ae s σ H M x y v u dx dy dz Q I hr rx ry r1 r2 e k;cases dy with
 |non =>
  cases e;refine F7 ae s σ H x y v u Q I rx ry ⟨Hh r2,?_⟩;rw[vG r1];exact k _ H (Ext.refl _ _) hr (by simp[Rep])
 |_=>cases e
theorem Dh:bQ X (L3 .IsNot) (rK true):=by
 intro ae s σ H M x y v u dx dy dz Q I hr rx ry r1 r2 e k;cases dy with
 |non =>
  cases e;refine CY ae s σ H x y v u Q I rx ry ⟨Hh r2,?_⟩;rw[vG r1];exact k _ H (Ext.refl _ _) hr (by simp[Rep])
 |_=>cases e
theorem xu{b:Bool}{x:D}:rK b x .non=some (.bl (xor b (ny x))):=rfl
variable{scope:V6}{cl:List (Str×J8)}{ms:List Bool}{ar:List Str}{ifs:List K5}{tg iter elt:K5}
end
@[irreducible] def QEd(X:Cx) (e:K5) (t:TEd):Prop:=PEd X e t
theorem QEd.eq{X:Cx}{e:K5}{t:TEd}:QEd X e t=(PEd X e t):=by unfold QEd;rfl
@[irreducible] def QAd(X:Cx) (e:List K5) (t:TAd):Prop:=PAd X e t
theorem QAd.eq{X:Cx}{e:List K5}{t:TAd}:QAd X e t=(PAd X e t):=by unfold QAd;rfl
@[irreducible] def QTd(X:Cx) (e:K5) (t:TTd):Prop:=PTd X e t
theorem QTd.eq{X:Cx}{e:K5}{t:TTd}:QTd X e t=(PTd X e t):=by unfold QTd;rfl
@[irreducible] def QWd(X:Cx) (e:K5) (t:TTd):Prop:=PWd X e t
theorem QWd.eq{X:Cx}{e:K5}{t:TTd}:QWd X e t=(PWd X e t):=by unfold QWd;rfl
@[irreducible] def QSd(X:Cx) (e:ab0) (t:TSd):Prop:=PSd X e t
theorem QSd.eq{X:Cx}{e:ab0}{t:TSd}:QSd X e t=(PSd X e t):=by unfold QSd;rfl
@[irreducible] def QSs(X:Cx) (e:List ab0) (t:TSd):Prop:=Cq X e t
theorem QSs.eq{X:Cx}{e:List ab0}{t:TSd}:QSs X e t=(Cq X e t):=by unfold QSs;rfl
@[irreducible] def QId(X:Cx) (tg e:K5) (t:TId):Prop:=PId X tg e t
theorem QId.eq{X:Cx}{tg e:K5}{t:TId}:QId X tg e t=(PId X tg e t):=by unfold QId;rfl
@[irreducible] def QIf(X:Cx) (e:List K5) (t:TTd):Prop:=GB X e t
theorem QIf.eq{X:Cx}{e:List K5}{t:TTd}:QIf X e t=(GB X e t):=by unfold QIf;rfl
@[irreducible] def QOd(X:Cx) (e:Option K5) (t:TOd):Prop:=POd X e t
theorem QOd.eq{X:Cx}{e:Option K5}{t:TOd}:QOd X e t=(POd X e t):=by unfold QOd;rfl
theorem ab{X:Cx}(i:Nat) {x:Str}{pos:Pos}(hN:X.N[i]?=some x:=by rfl) (hv:Vis X.env.scope x:=by first|exact Or.inl rfl|exact Or.inr (Or.inl rfl)|exact Or.inr (Or.inr rfl)) (hd:(x==("__debug__":Str))=false:=by decide)
  (hcd:(x==("__classdict__":Str))=false:=by decide):QEd X (.Name x pos) (eh i):=by
 simp only[QEd.eq]at *
 exact(Gb hN hv hd hcd).conv fun σ H Q ⟨Δ,M,R,sr,hr,⟨d,e,q⟩,k⟩=>let⟨v,ev,rv⟩:=sr.2 i d e;⟨v,ev,k d M v H q (Ext.refl _ _) hr rv⟩
theorem ao{X:Cx}{i j pos}:QEd X (.Constant (.int i) j pos) (dC (.int i)):=by
 simp only[QEd.eq]at *
 exact Ek.conv fun σ H Q hup=>hup.el fun Δ M R sr hr q k=>k _ M _ H q (Ext.refl _ _) hr (by simp[Rep])
theorem sX{X:Cx}{i j pos}:QEd X (.Constant (.bool i) j pos) (dC (.bl i)):=by
 simp only[QEd.eq]at *
 exact HV.conv fun σ H Q hup=>hup.el fun Δ M R sr hr q k=>k _ M _ H q (Ext.refl _ _) hr (by simp[Rep])
theorem lX{X:Cx}{i j pos}:QEd X (.Constant (.str i) j pos) (dC (.str i)):=by
 simp only[QEd.eq]at *
 exact D8.conv fun σ H Q hup=>hup.el fun Δ M R sr hr q k=>k _ M _ H q (Ext.refl _ _) hr (by simp[Rep])
theorem ud{X:Cx}{j pos}:QEd X (.Constant .none j pos) (dC .non):=by
 simp only[QEd.eq]at *
 exact Ea.conv fun σ H Q hup=>hup.el fun Δ M R sr hr q k=>k _ M _ H q (Ext.refl _ _) hr (by simp[Rep])
theorem zk{X:Cx}{x:Str}{i:Int}{pos:Pos}(hg:Gl X x) (hm:∃tk,X.mg x=some (.int i tk)) (hd:(x==("__debug__":Str))=false:=by decide):QEd X (.Name x pos) (dC (.int i)):=by
 simp only[QEd.eq]at *
 obtain⟨t,ht⟩:=hm;exact CD hg ht hd
theorem z9{X:Cx}{x y:Str}{pos:Pos}(hg:Gl X x) (hm:∃tk,X.mg x=some (.str y tk)) (hd:(x==("__debug__":Str))=false:=by decide):QEd X (.Name x pos) (dC (.str y)):=by
 simp only[QEd.eq]at *
 obtain⟨t,ht⟩:=hm;exact Dj hg ht hd
theorem ag{X:Cx}:QAd X [] jQ:=by
 simp only[QAd.eq]at *
 exact nj.conv fun σ H Q hup=>hup.el fun Δ M R sr hr q k=>k _ M _ H q (Ext.refl _ _) hr au.nil
theorem aa{X:Cx}{a:K5}{es:List K5}{ta:TEd}{tr:TAd}(ha:QEd X a ta) (hr:QAd X es tr) (hs:K2 (a::es) X.env=(false,V3 a X.env)::K2 es X.env:=by rfl):QAd X (a::es) (fm ta tr):=by
 simp only[QEd.eq,QAd.eq]at *
 exact(gY ha hr hs).conv fun σ H Q hup=>hup.el fun Δ M R sr hr q k=>⟨Δ,M,_,sr,hr,q,fun d M1 v H1 q1 e1 hr1 rv=>⟨Δ,M1,_,sr.ext e1,hr1,q1,fun ds M2 vs H2 q2 e2 hr2 rvs =>
   k _ M2 _ H2 q2 (e1.trans e2) hr2 (au.cons (rv.ext e2) rvs)⟩⟩
theorem bz{X:Cx}{es:List K5}{pos:Pos}{x1}{t:TAd}(h:QAd X es t):QEd X (.Tuple es x1 pos) (xN t):=by
 simp only[QEd.eq,QAd.eq]at *
 exact(mX h).conv fun σ H Q hup=>hup.el fun Δ M R sr hr q k=>⟨Δ,M,_,sr,hr,q,fun ds M1 vs H1 ⟨z,q1⟩ e1 hr1 rv=>⟨by rw[<-rv.length];exact z,fun p hp=>k _ M1 _ _ q1 (e1.trans (Ext.new hr1 hp)) (hr1.new hp) (by
   simp only[Rep];exact⟨p,vs,rfl,.inl ⟨.inl aB,hr1.fresh hp⟩,rv.ext (Ext.new hr1 hp)⟩)⟩⟩
theorem mm{X:Cx}{es:List K5}{pos:Pos}{t:TAd}(h:QAd X es t):QEd X (.List es pos) (Hj t):=by
 simp only[QEd.eq,QAd.eq]at *
 exact(zg h).conv fun σ H Q hup=>hup.el fun Δ M R sr hr q k=>⟨Δ,M,_,sr,hr,q,fun ds M1 vs H1 ⟨z,q1⟩ e1 hr1 rv=>⟨by rw[<-rv.length];exact z,fun p hp=>k _ M1 _ _ q1 (e1.trans (Ext.new hr1 hp)) (hr1.new hp) (by
   simp only[Rep];exact⟨p,vs,rfl,⟨aB,hr1.fresh hp⟩,rv.ext (Ext.new hr1 hp)⟩)⟩⟩
theorem g6{X:Cx}{es:List K5}{pos:Pos}{t:TAd}(h:QAd X es t):QEd X (.List es pos) (DS t):=by
 simp only[QEd.eq,QAd.eq]at *
 exact(zg h).conv fun σ H Q hup=>hup.el fun Δ M R sr hr q k=>⟨Δ,M,_,sr,hr,q,fun ds M1 vs H1 ⟨z,q1⟩ e1 hr1 rv=>⟨by rw[<-rv.length];exact z,fun p hp=>k _ _ _ _ (q1 p (hr1.fresh hp)) (e1.trans (Ext.own hp)) (hr1.own hp rv) (by
   simp only[Rep])⟩⟩
theorem aM{X:Cx}{a:K5}{b:K5}{ta:TEd}{tb:TEd}{pos:Pos}{op:ad4}{r:D->D->Option D}(ho:bQ X (P7 op) r) (ha:QEd X a ta) (hb:QEd X b tb):QEd X (.BinOp a op b pos) (dOp r ta tb):=by
 simp only[QEd.eq]at *
 exact(DJ ho.v ha hb).conv zB
theorem mY{X:Cx}{a:K5}{b:K5}{ta:TEd}{tb:TEd}{pos:Pos}{op:ac7}{r:D->D->Option D}(ho:bQ X (L3 op) r) (ha:QEd X a ta) (hb:QEd X b tb) (hm:T4 op b=false):QEd X (.Compare a [op] [b] pos) (dOp r ta tb):=by
 simp only[QEd.eq]at *
 exact(BG ho.v ha hb hm).conv zB
theorem aZ{X:Cx}{a:K5}{b:K5}{ta:TEd}{tb:TEd}{pos:Pos}{r:D->D->Option D}(ho:IxR X (opV X.K r)) (ha:QEd X a ta) (hb:QEd X b tb) (hs:wj b):QEd X (.Subscript a b pos) (dOp r ta tb):=by
 simp only[QEd.eq]at *
 exact(HA ho ha hb hs).conv zB
theorem FZ{X:Cx}{a:K5}{ta:TEd}{pos:Pos}{op:UnaryOp}{r:D->Option D}(ho:Gy X (unaryOp op) r) (ha:QEd X a ta):QEd X (.UnaryOp op a pos) (dUn r ta):=by
 simp only[QEd.eq]at *
 have h:UnR X (unaryOp op) (fun x H Q=>∃dx dz M,HR X.K M H/\aU X.K M H dx x/\r dx=some dz/\∀w H',Ext M H M H'->HR X.K M H'->Rep X.K M H' dz w->Q w H'):=fun ae s σ H x v Q I rx ⟨dx,dz,M,hr,r1,e,k⟩=>ho ae s σ H M x v dx dz Q I hr rx r1 e k;exact(Gm h ha).conv fun σ H Q hup=>hup.el fun Δ M R sr hr q k=>⟨Δ,M,_,sr,hr,q,fun x M1 v H1 ⟨z,ez,q1⟩ e1 hr1 rv=>⟨_,z,M1,hr1,rv.rd hr1,ez,fun w H' e2 hr2 rw_=>k z M1 w H' q1 (e1.trans e2) hr2 rw_⟩⟩
theorem bh{X:Cx}{a:K5}{b:K5}{ta:TEd}{tb:TEd}{pos:Pos}{op:ac7}{r:D->D->Option D}(ho:bQ X (L3 op) r) (ha:QEd X a ta) (hb:QEd X b tb) (hm:T4 op b=false):QTd X (.Compare a [op] [b] pos) (nK (dOp r ta tb)):=by
 simp only[QEd.eq,QTd.eq]at *
 refine(Cd ho.v ha hb hm).conv fun σ H Q h=>?_;obtain⟨Δ,M,R,sr,hr,q,k⟩:=h;exact⟨Δ,M,_,sr,hr,q,fun x M1 v H1 q1 e1 hr1 rv=>⟨Δ,M1,_,sr.ext e1,hr1,q1,fun y M2 u H2 ⟨z,ez,b,eb,q2⟩ e2 hr2 ru=>⟨_,_,z,M2,hr2,(rv.ext e2).rd hr2,ru.rd hr2,ez,fun w H' e3 hr3 rw_ =>
  ⟨b,by subst eb;simpa only[Rep]using rw_,k b M2 H' q2 ((e1.trans e2).trans e3) hr3⟩⟩⟩⟩
theorem rj{X:Cx}{a:K5}{ta:TEd}(h:QEd X a ta) (he:∀whole,isTrue a X.env whole=(do let v <-whole;ac3 a.pos;ab3 [v] (truthy v)):=by intro _;rfl):QTd X a (nK ta):=by
 simp only[QEd.eq,QTd.eq]at *
 exact(Fy h he).conv G4
theorem uS{X:Cx}{a:K5}{pos:Pos}{tA:TTd}(h:QTd X a tA):QTd X (.UnaryOp .Not a pos) (DC tA):=by
 simp only[QTd.eq]at *
 exact(Fs h).conv fun σ H Q hup=>hup.el fun Δ M R sr hr q k=>⟨Δ,M,_,sr,hr,q,fun b M1 H1 q1 e1 hr1=>k _ M1 H1 q1 e1 hr1⟩
theorem rC{X:Cx}{a:K5}{pos:Pos}{tA:TTd}(ha:QTd X a tA):QWd X (.BoolOp .And [a] pos) tA:=by
 simp only[QTd.eq,QWd.eq]at *
 exact B2 ha
theorem u7{X:Cx}{a:K5}{pos:Pos}{tA:TTd}(ha:QTd X a tA):QWd X (.BoolOp .Or [a] pos) tA:=by
 simp only[QTd.eq,QWd.eq]at *
 exact Fx ha
theorem uK{X:Cx}{a:K5}{b:K5}{pos:Pos}{tA:TTd}{tB':TTd}{bS:List K5}(ha:QTd X a tA) (hb:QWd X (.BoolOp .And (b::bS) pos) tB'):QWd X (.BoolOp .And (a::b::bS) pos) (Af tA tB'):=by
 simp only[QTd.eq,QWd.eq]at *
 exact(ES ha hb).conv fun σ H Q hup=>hup.el fun Δ M R sr hr q k=>⟨Δ,M,_,sr,hr,q,fun c M1 H1 q1 e1 hr1=>by
   cases c with
   |true=>simp only[if_true]at q1 ⊢;exact⟨Δ,M1,R,sr.ext e1,hr1,q1,fun b M2 H2 q2 e2 hr2=>k b M2 H2 q2 (e1.trans e2) hr2⟩
   |false=>simp only[N9,if_false]at q1 ⊢;exact k _ M1 H1 q1 e1 hr1⟩
theorem zN{X:Cx}{a:K5}{b:K5}{pos:Pos}{tA:TTd}{tB':TTd}{bS:List K5}(ha:QTd X a tA) (hb:QWd X (.BoolOp .Or (b::bS) pos) tB'):QWd X (.BoolOp .Or (a::b::bS) pos) (Ib tA tB'):=by
 simp only[QTd.eq,QWd.eq]at *
 exact(HJ ha hb).conv fun σ H Q hup=>hup.el fun Δ M R sr hr q k=>⟨Δ,M,_,sr,hr,q,fun c M1 H1 q1 e1 hr1=>by
   cases c with
   |false=>simp only[N9,if_false]at q1 ⊢;exact⟨Δ,M1,R,sr.ext e1,hr1,q1,fun b M2 H2 q2 e2 hr2=>k b M2 H2 q2 (e1.trans e2) hr2⟩
   |true=>simp only[if_true]at q1 ⊢;exact k _ M1 H1 q1 e1 hr1⟩
theorem pz{X:Cx}{a:K5}{ta:TEd}{pos:Pos}{op}(h:QEd X a ta):QEd X (.BoolOp op [a] pos) ta:=by
 simp only[QEd.eq]at *
 exact FM h
theorem pY{X:Cx}{a:K5}{b:K5}{ta:TEd}{tb:TEd}{pos:Pos}{bS:List K5}(ha:QEd X a ta) (hb:QEd X (.BoolOp .And (b::bS) pos) tb):QEd X (.BoolOp .And (a::b::bS) pos) (HL ta tb):=by
 simp only[QEd.eq]at *
 exact(EX ha hb).conv fun σ H Q hup=>hup.el fun Δ M R sr hr q k=>⟨Δ,M,_,sr,hr,q,fun d M1 v H1 ⟨c,e,q1⟩ e1 hr1 rv=>⟨c,by subst e;simpa only[Rep]using rv,by
   cases c with
   |true=>simp only[if_true]at q1 ⊢;exact⟨Δ,M1,R,sr.ext e1,hr1,q1,fun b M2 v2 H2 q2 e2 hr2 r2=>k b M2 v2 H2 q2 (e1.trans e2) hr2 r2⟩
   |false=>simp only[N9,if_false]at q1 ⊢;exact k _ M1 _ H1 q1 e1 hr1 (by simp[Rep])⟩⟩
theorem IW{X:Cx}{a:K5}{b:K5}{ta:TEd}{tb:TEd}{pos:Pos}{bS:List K5}(ha:QEd X a ta) (hb:QEd X (.BoolOp .Or (b::bS) pos) tb):QEd X (.BoolOp .Or (a::b::bS) pos) (dOr ta tb):=by
 simp only[QEd.eq]at *
 exact(HX ha hb).conv fun σ H Q hup=>hup.el fun Δ M R sr hr q k=>⟨Δ,M,_,sr,hr,q,fun d M1 v H1 ⟨c,e,q1⟩ e1 hr1 rv=>⟨c,by subst e;simpa only[Rep]using rv,by
   cases c with
   |false=>simp only[N9,if_false]at q1 ⊢;exact⟨Δ,M1,R,sr.ext e1,hr1,q1,fun b M2 v2 H2 q2 e2 hr2 r2=>k b M2 v2 H2 q2 (e1.trans e2) hr2 r2⟩
   |true=>simp only[if_true]at q1 ⊢;exact k _ M1 _ H1 q1 e1 hr1 (by simp[Rep])⟩⟩
theorem GK{X:Cx}{a:K5}{ta:TEd}{pos:Pos}(ha:QEd X a ta):QEd X (.UnaryOp .Not a pos) (GC ta):=by
 simp only[QEd.eq]at *
 exact(FG ha).conv fun σ H Q hup=>hup.el fun Δ M R sr hr q k=>⟨Δ,M,_,sr,hr,q,fun d M1 v H1 ⟨c,e,q1⟩ e1 hr1 rv =>
  ⟨c,by subst e;simpa only[Rep]using rv,k _ M1 _ H1 q1 e1 hr1 (by simp[Rep])⟩⟩
theorem IT{X:Cx}{a:K5}{b:K5}{c:K5}{ta:TEd}{tb:TEd}{pos:Pos}{tA:TTd}(hc:QTd X c tA) (ha:QEd X a ta) (hb:QEd X b tb):QEd X (.IfExp c a b pos) (dIf tA ta tb):=by
 simp only[QEd.eq,QTd.eq]at *
 exact(AO hc ha hb).conv fun σ H Q hup=>hup.el fun Δ M R sr hr q k=>⟨Δ,M,_,sr,hr,q,fun c M1 H1 q1 e1 hr1=>by
   cases c with
   |true=>simp only[if_true]at q1 ⊢;exact⟨Δ,M1,R,sr.ext e1,hr1,q1,fun b M2 v2 H2 q2 e2 hr2 r2=>k b M2 v2 H2 q2 (e1.trans e2) hr2 r2⟩
   |false=>simp only[N9,if_false]at q1 ⊢;exact⟨Δ,M1,R,sr.ext e1,hr1,q1,fun b M2 v2 H2 q2 e2 hr2 r2=>k b M2 v2 H2 q2 (e1.trans e2) hr2 r2⟩⟩
theorem Ct{X:Cx}{a:K5}{b:K5}{c:K5}{ta:TEd}{tb:TEd}{pos:Pos}{tc:TEd}{op op':ac7}{r r':D->D->Option D}(ho:bQ X (L3 op) r) (ho':bQ X (L3 op') r') (ha:QEd X a ta) (hb:QEd X b tb) (hc:QEd X c tc)
  (hm:ae0 [op,op'] [b,c]=false:=by with_unfolding_all rfl):QEd X (.Compare a [op,op'] [b,c] pos) (vo r r' ta tb tc):=by
 simp only[QEd.eq]at *
 refine(Av ho.v ho'.v ha hb hc hm).conv fun σ H Q h=>?_;obtain⟨Δ,M,R,sr,hr,q,k⟩:=h;refine⟨Δ,M,_,sr,hr,q,fun x M1 v H1 q1 e1 hr1 rv=>⟨Δ,M1,_,sr.ext e1,hr1,q1,fun y M2 u H2 ⟨b,eb,q2⟩ e2 hr2 ru=>⟨_,_,.bl b,M2,hr2,(rv.ext e2).rd hr2,ru.rd hr2,eb,fun w H3 e3 hr3 rw_ =>
  ⟨b,by simpa only[Rep]using rw_,?_⟩⟩⟩⟩
 cases b with
 |true =>
  simp only[if_true]at q2 ⊢;exact⟨Δ,M2,_,(sr.ext (e1.trans e2)).ext e3,hr3,q2,fun z M4 w4 H4 ⟨d,ed,q4⟩ e4 hr4 r4=>⟨_,_,d,M4,hr4,((ru.ext e3).ext e4).rd hr4,r4.rd hr4,ed,fun w5 H5 e5 hr5 r5=>k d M4 w5 H5 q4 ((((e1.trans e2).trans e3).trans e4).trans e5) hr5 r5⟩⟩
 |false =>
  simp only[N9,if_false]at q2 ⊢;exact k _ M2 _ H3 q2 ((e1.trans e2).trans e3) hr3 (by simp[Rep])
theorem AV{X:Cx}{a:K5}{b:K5}{c:K5}{ta:TEd}{tb:TEd}{pos:Pos}{tc:TEd}{op op':ac7}{r r':D->D->Option D}(ho:bQ X (L3 op) r) (ho':bQ X (L3 op') r') (ha:QEd X a ta) (hb:QEd X b tb) (hc:QEd X c tc)
  (hm:ae0 [op,op'] [b,c]=false:=by with_unfolding_all rfl):QTd X (.Compare a [op,op'] [b,c] pos) (nK (vo r r' ta tb tc)):=by
 simp only[QEd.eq,QTd.eq]at *
 refine(zq ho.v ho'.v ha hb hc hm).conv fun σ H Q h=>?_;obtain⟨Δ,M,R,sr,hr,q,k⟩:=h;refine⟨Δ,M,_,sr,hr,q,fun x M1 v H1 q1 e1 hr1 rv=>⟨Δ,M1,_,sr.ext e1,hr1,q1,fun y M2 u H2 ⟨b,eb,q2⟩ e2 hr2 ru=>⟨_,_,.bl b,M2,hr2,(rv.ext e2).rd hr2,ru.rd hr2,eb,fun w H3 e3 hr3 rw_ =>
  ⟨b,by simpa only[Rep]using rw_,?_⟩⟩⟩⟩
 cases b with
 |true =>
  simp only[if_true]at q2 ⊢;exact⟨Δ,M2,_,(sr.ext (e1.trans e2)).ext e3,hr3,q2,fun z M4 w4 H4 ⟨d,ed,kb,ekb,q4⟩ e4 hr4 r4=>⟨_,_,d,M4,hr4,((ru.ext e3).ext e4).rd hr4,r4.rd hr4,ed,fun w5 H5 e5 hr5 r5=>⟨kb,by subst ekb;simpa only[Rep]using r5,k kb M4 H5 q4 ((((e1.trans e2).trans e3).trans e4).trans e5) hr5⟩⟩⟩
 |false =>
  simp only[N9,if_false]at q2 ⊢;obtain⟨kb,ekb,q2⟩:=q2;cases ekb;exact⟨false,rfl,k _ M2 H3 q2 ((e1.trans e2).trans e3) hr3⟩
theorem aG{X:Cx}{pos:Pos}{x:Str}{p:Pos}{e:K5}{es:List K5}{t:TAd}{id:String}{r:List D->Option D}(hc:bj X (.builtin id) r) (hg:Gl X x) (hm:X.mg x=none) (hv:Q8 x=some (.builtin id)) (ha:QAd X (e::es) t) (hn:x≠"__name__":=by decide) (hdb:(x==("__debug__":Str))=false:=by decide)
  (he:K2 (e::es) X.env=(false,V3 e X.env)::K2 es X.env:=by rfl) (hpl:(V8 pos (K2 es X.env)).any (·.1)=false:=by rfl):QEd X (.Call (.Name x p) (e::es) [] pos) (dCB r t):=by
 simp only[QEd.eq,QAd.eq]at *
 exact(sG hc.v hg hm hv ha hn hdb he hpl).conv DP
theorem cq{X:Cx}{pos:Pos}{x:Str}{p:Pos}{e:K5}{es:List K5}{t:TAd}{id:String}{r:List D->Option D}(hc:bj X (.type id) r) (hg:Gl X x) (hm:X.mg x=none) (hv:Q8 x=some (.type id)) (ha:QAd X (e::es) t) (hn:x≠"__name__":=by decide) (hdb:(x==("__debug__":Str))=false:=by decide)
  (he:K2 (e::es) X.env=(false,V3 e X.env)::K2 es X.env:=by rfl) (hpl:(V8 pos (K2 es X.env)).any (·.1)=false:=by rfl):QEd X (.Call (.Name x p) (e::es) [] pos) (dCB r t):=by
 simp only[QEd.eq,QAd.eq]at *
 exact(xV hc.v hg hm hv ha hn hdb he hpl).conv DP
theorem bN{X:Cx}:QSs X [] zG:=by
 simp only[QSs.eq]at *
 exact B4.conv fun D σ H hup=>hup.el fun Δ M E sr hr q u=>u.nx Δ M σ H q (Ext.refl _ _) hr sr
theorem ai{X:Cx}{st:ab0}{bS:List ab0}{t:TSd}{u:TSd}(h1:QSd X st t) (h2:QSs X bS u):QSs X (st::bS) (zR t u):=by
 simp only[QSd.eq,QSs.eq]at *
 exact(Bm h1 h2).conv fun D σ H hup=>hup.el fun Δ M E sr hr q k=>⟨Δ,M,{ E with nx:=u E },sr,hr,q,⟨fun Δ' M' σ' H' q' e' hr' sr'=>⟨Δ',M',E,sr',hr',q',k.ext e'⟩,k.bk,k.ct,k.rt⟩⟩
theorem aw{X:Cx}{st:ab0}{t:TSd}(h1:QSd X st t):QSs X [st] t:=by
 simp only[QSd.eq,QSs.eq]at *
 exact BF h1
theorem aV{X:Cx}{e:K5}{te:TEd}{pos:Pos}(he:QEd X e te):QSd X (.Return (some e) pos) (BW te):=by
 simp only[QEd.eq,QSd.eq]at *
 exact(vn he).conv fun D σ H hup=>hup.el fun Δ M E sr hr q k=>⟨Δ,M,_,sr,hr,q,k.rt⟩
theorem iL{X:Cx}{e:K5}{te:TEd}{pos:Pos}(he:QEd X e te) (hs:Z5 e none pos.line X.env=X9 false:=by rfl):QSd X (.Expr e pos) (zW te):=by
 simp only[QEd.eq,QSd.eq]at *
 exact(B7 he hs).conv fun D σ H hup=>hup.el fun Δ M E sr hr q k=>⟨Δ,M,_,sr,hr,q,fun d M1 v H1 q1 e1 hr1 _=>k.nx Δ M1 σ H1 q1 e1 hr1 (sr.ext e1)⟩
theorem cF{X:Cx}{c:K5}{pos:Pos}{t:TSd}{u:TSd}{sa sb:List ab0}{tc:TTd}(hc:QTd X c tc) (ha:QSs X sa t) (hb:QSs X sb u):QSd X (.If c sa sb pos) (F0 tc t u):=by
 simp only[QTd.eq,QSd.eq,QSs.eq]at *
 exact(GX hc ha hb).conv fun D σ H hup=>hup.el fun Δ M E sr hr q k=>⟨Δ,M,_,sr,hr,q,fun b M1 H1 q1 e1 hr1=>by
   cases b with
   |true=>simp only[if_true]at q1 ⊢;exact⟨Δ,M1,E,sr.ext e1,hr1,q1,k.ext e1⟩
   |false=>simp only[N9,if_false]at q1 ⊢;exact⟨Δ,M1,E,sr.ext e1,hr1,q1,k.ext e1⟩⟩
theorem aJ{X:Cx}{e:K5}{te:TEd}{pos:Pos}{i:Nat}{x:Str}{pos':Pos}(hN:X.N.Nodup) (hi:X.N[i]?=some x) (hx:Loc X.env.scope x) (he:QEd X e te) (hs:Z5 e (some (.Name x pos')) pos.line X.env=X9 false:=by rfl) (hf:X.fn x=true∨X.env.scope.names.lookup x=some .local:=by first|exact .inl rfl|exact .inr rfl|assumption) :
  QSd X (.Assign [.Name x pos'] e pos) (ED i te):=by
 simp only[QEd.eq,QSd.eq]at *
 exact(Ep hN hi hx he hs hf).conv fun D σ H hup=>hup.el fun Δ M E sr hr q k=>⟨Δ,M,_,sr,hr,q,fun d M1 v H1 q1 e1 hr1 rv=>k.nx _ M1 _ H1 q1 e1 hr1 ((sr.ext e1).set i rv)⟩
theorem AH{X:Cx}{e:K5}{te:TEd}{pos:Pos}{i:Nat}{x:Str}{op:ad4}{r:D->D->Option D}{pos':Pos}(hN:X.N.Nodup) (hi:X.N[i]?=some x) (hx:Loc X.env.scope x) (he:QEd X e te) (ho:bQ X (ad8 op) r) (hf:X.fn x=true∨X.env.scope.names.lookup x=some .local:=by first|exact .inl rfl|exact .inr rfl|assumption) :
  QSd X (.AugAssign (.Name x pos') op e pos) (Hi i te r):=by
 simp only[QEd.eq,QSd.eq]at *
 have h:PIp X op (opV X.K r):=fun ae s σ H x y v u Q I rx ry q=>ho.v ae s σ H x y v u Q I rx ry q;refine(EJ hN hi hx he h hf).conv fun D σ H hh=>?_;obtain⟨Δ,M,E,sr,hr,⟨d,ed,q⟩,k⟩:=hh;obtain⟨v,ev,rv⟩:=sr.2 i d ed;refine⟨v,ev,Δ,M,_,sr,hr,q,fun y M1 w H1 ⟨z,ez,q1⟩ e1 hr1 rw_=>⟨_,_,z,M1,hr1,(rv.ext e1).rd hr1,rw_.rd hr1,ez,fun w2 H2 e2 hr2 r2=>k.nx _ M1 _ H2 q1 (e1.trans e2) hr2 (((sr.ext e1).ext e2).set i r2)⟩⟩
theorem qS{X:Cx}{t:TSd}{sts:List ab0}(i:Nat) (h:QSs X sts t):QSs X sts (AC i t):=by
 simp only[QSs.eq]at *
 exact PSs.conv h fun D σ H ⟨Δ,M,E,sr,hr,⟨a,ds,e1,e2,q⟩,k⟩=>by
  refine⟨_,fZ M a,E,?_,hr.le LeM.del,q,k.ext (Ext.le LeM.del)⟩;obtain⟨v,ev,rv⟩:=sr.2 i _ e1;simp only[Rep]at rv;subst rv;have:=(sr.ext (Ext.le (M1:=fZ M a) LeM.del)).set i (Rep.froze (M1:=fZ M a) hr LeM.del e2 dE);have es:σ.set i (some (.ref a))=σ:=by
   apply List.ext_getElem?;intro j
   by_cases hj:j=i
   ·subst hj;have hl:j<σ.length:=(M9.mp ev).1;rw[R6 hl,ev]
   ·rw[V1 (X0 hj)]
  rw[es]at this;exact this
theorem jG{X:Cx}{e:K5}{te:TEd}{pos:Pos}{tg:K5}{g:GD}(he:QEd X e te) (hg:PGd X tg g) (hs:swapsWithSole [tg] e pos.line X.env=X9 false:=by rfl) (hw:swappedStores [tg] e X.env=X9 none:=by rfl)
  (h1:(P9 [tg] X.env).map (·.2)=[Z6 tg X.env]:=by rfl):QSd X (.Assign [tg] e pos) (G9 te g):=by
 simp only[QEd.eq,QSd.eq]at *
 obtain⟨gv,pg,kg⟩:=hg;exact(Ag he pg hs hw h1).conv fun D σ H hup=>hup.el fun Δ M E sr hr q k=>⟨Δ,M,_,sr,hr,q,fun d M1 v H1 ⟨Δ',eg,q1⟩ e1 hr1 rv=>kg d v σ Δ Δ' M1 H1 _ (sr.ext e1) hr1 rv eg fun σ' sr'=>k.nx Δ' M1 σ' H1 q1 e1 hr1 sr'⟩
theorem bU{X:Cx}{a:K5}{pos:Pos}{tg:K5}{ta:TAd}{p:Pos}(hg:Gl X "range") (hm:X.mg "range"=none) (ha:QAd X [a] ta) (hs:K2 [a] X.env=[(false,V3 a X.env)]:=by rfl):QId X tg (.Call (.Name "range" p) [a] [] pos) (qk ta):=by
 simp only[QAd.eq,QId.eq]at *
 exact(xj hg hm ha hs).conv fun σ H R hup=>hup.el fun Δ M R' sr hr q k=>⟨Δ,M,_,sr,hr,q,fun ds M1 vs H1 ⟨j,ed,h1,h2,q1⟩ e1 hr1 rv=>by
   subst ed;obtain⟨v,ev,rv1⟩:=rv.one;have ev1:v=.int j:=by simpa only[Rep]using rv1
   subst ev1;subst ev;exact⟨j,rfl,h1,h2,k _ M1 _ H1 q1 e1 hr1 Cg⟩⟩
theorem dY{X:Cx}{pos:Pos}{tg:K5}{iter:K5}{body:List ab0}{wi:TId}{g:GD}{tb:TSd}(hp:ad9 (K7 X.prog X.w) X.A X.env X.xe) (hc:X.calm=true) (hi:QId X tg iter wi) (hg:PGd X tg g) (hb:QSs X body tb)
  (hs:∀x,O8 iter X.env x=X9 x:=by intro _;rfl):QSd X (.For tg iter body [] pos) (EN wi g tb):=by
 simp only[QSd.eq,QSs.eq,QId.eq]at *
 obtain⟨gv,pg,kg⟩:=hg;refine(EG hp hc hi pg hb hs).conv fun D σ H hh=>?_;obtain⟨Δ,M,E,sr,hr,q,k⟩:=hh;refine⟨Δ,M,_,sr,hr,q,fun ds M1 J H1 q1 e1 hr1 it=>?_⟩;refine⟨fun i m σ' H'=>∃ Δ' M',m=ds.length-i/\i<=ds.length/\Ext M1 H1 M' H'/\HR X.K M' H'/\SR X.K M' H' σ' Δ'/\dP g tb E (ds.drop i) Δ' M',⟨ds.length,Δ,M1,by simp,S4 _,Ext.refl _ _,hr1,sr.ext e1,q1⟩,?_⟩;rintro i m σ2 H2 ⟨Δ2,M2,rfl,hi2,e2,hr2,sr2,f2⟩;obtain⟨go,stop⟩:=it M2 H2 e2 hr2 i
 by_cases hlt:i<ds.length
 ·have hd:ds[i]?=some ds[i]:=by simp[hlt]
  obtain⟨g1,y1⟩:=go _ hd;rw[List.drop_eq_getElem_cons hlt]at f2;simp only[dP]at f2;obtain⟨Δ3,eg,f3⟩:=f2;refine .inr ⟨g1,fun σ' H'=>∃m',m'<ds.length-i/\∃ Δ' M',m'=ds.length-(i+1)/\i+1<=ds.length/\Ext M1 H1 M' H'/\HR X.K M' H'/\SR X.K M' H' σ' Δ'/\dP g tb E (ds.drop (i+1)) Δ' M',fun σ' H' z=>z,fun x H' hy=>?_⟩;obtain⟨e3,hr3,rx⟩:=y1 x H' hy;refine kg _ x σ2 Δ2 Δ3 M2 H' _ (sr2.ext e3) hr3 rx eg fun σ3 sr3=>?_;refine⟨Δ3,M2,_,sr3,hr3,f3,⟨fun Δ' M' σ' H'' q' e' hr' sr'=>?_,fun Δ' M' σ' H'' q' e' hr' sr'=>?_,fun Δ' M' σ' H'' q' e' hr' sr'=>?_,fun d M' v H'' q' e' hr' rv'=>?_⟩⟩
  ·exact⟨_,by omega,Δ',M',rfl,hlt,(e2.trans e3).trans e',hr',sr',q'⟩
  ·exact k.nx Δ' M' σ' H'' q' (((e1.trans e2).trans e3).trans e') hr' sr'
  ·exact⟨_,by omega,Δ',M',rfl,hlt,(e2.trans e3).trans e',hr',sr',q'⟩
  ·exact k.rt d M' v H'' q' (((e1.trans e2).trans e3).trans e') hr' rv'
 ·rw[List.drop_eq_nil_of_le (by omega)]at f2;exact .inl ⟨stop (by omega),k.nx Δ2 M2 σ2 H2 f2 (e1.trans e2) hr2 sr2⟩
theorem mN{X:Cx}{c:K5}{pos:Pos}{body:List ab0}{tc:TTd}{tb:TSd}(hp:ad9 (K7 X.prog X.w) X.A X.env X.xe) (hc:QTd X c tc) (hb:QSs X body tb):QSd X (.While c body [] pos) (Bi tc tb):=by
 simp only[QTd.eq,QSd.eq,QSs.eq]at *
 refine(zi hp hc hb).conv fun D σ H hh=>?_;obtain⟨Δ,M,E,sr,hr,⟨W,⟨m0,w0⟩,turn⟩,k⟩:=hh;refine⟨fun m σ' H'=>∃ Δ' M',Ext M H M' H'/\HR X.K M' H'/\SR X.K M' H' σ' Δ'/\W m Δ' M',⟨m0,Δ,M,Ext.refl _ _,hr,sr,w0⟩,?_⟩;rintro m σ1 H1 ⟨Δ1,M1,e1,hr1,sr1,w1⟩;refine⟨Δ1,M1,_,sr1,hr1,turn m Δ1 M1 w1,fun b M2 H2 q2 e2 hr2=>?_⟩;cases b with
 |true =>
  simp only[if_true]at q2 ⊢;refine⟨fun σ' H'=>∃m',m'<m/\∃ Δ' M',Ext M H M' H'/\HR X.K M' H'/\SR X.K M' H' σ' Δ'/\W m' Δ' M',fun σ' H' z=>z,Δ1,M2,_,sr1.ext e2,hr2,q2,⟨fun Δ' M' σ' H'' ⟨m',hm,w'⟩ e' hr' sr'=>?_,fun Δ' M' σ' H'' q' e' hr' sr'=>?_,fun Δ' M' σ' H'' ⟨m',hm,w'⟩ e' hr' sr'=>?_,fun d M' v H'' q' e' hr' rv'=>?_⟩⟩
  ·exact⟨m',hm,Δ',M',(e1.trans e2).trans e',hr',sr',w'⟩
  ·exact k.nx Δ' M' σ' H'' q' ((e1.trans e2).trans e') hr' sr'
  ·exact⟨m',hm,Δ',M',(e1.trans e2).trans e',hr',sr',w'⟩
  ·exact k.rt d M' v H'' q' ((e1.trans e2).trans e') hr' rv'
 |false =>
  simp only[N9,if_false]at q2 ⊢;exact k.nx Δ1 M2 σ1 H2 q2 (e1.trans e2) hr2 (sr1.ext e2)
theorem ck{X:Cx}:QIf X [] u6:=by
 simp only[QIf.eq]at *
 exact fun ae s σ H Q I ⟨Δ,M,R,sr,hr,q,k⟩=>BO ae s σ H Q I (k true M H q (Ext.refl _ _) hr)
theorem uj{X:Cx}{c:K5}{tc:TTd}(h:QTd X c tc):QIf X [c] tc:=by
 simp only[QTd.eq,QIf.eq]at *
 exact Cn h
theorem kq{X:Cx}{pos:Pos}{tg:K5}{iter:K5}{elt:K5}{scope:V6}{cl:List (Str×J8)}{ms:List Bool}{ar:List Str}{ifs:List K5}{wi:TId}{g:GD}{tc:TTd}{te:TEd}(S:dN X scope cl ms ar) (cV:X.calm=true) (hi:QId X tg iter wi) (hg:PGa X scope cl ar tg g)
  (hif:∀C s H ex,QIf (aA X scope cl (X.N++ar) C s H ex) ifs tc) (he:∀C s H ex,QEd (aA X scope cl (X.N++ar) C s H ex) elt te)
  (hs:∀x,O8 iter X.env x=X9 x:=by intro _;rfl):QEd X (.ListComp elt [⟨tg,iter,ifs,0⟩] scope pos) (dLc ms ar.length wi g tc te):=by
 simp only[QEd.eq,QId.eq,QIf.eq]at *
 obtain⟨gv,pg,kg⟩:=hg;exact(um (tc:=upT X.K tc) S cV hi pg hif (Ak (te:=up X.K te) he) hs).conv (vL kg)
theorem rH{X:Cx}{pos:Pos}{tg:K5}{iter:K5}{elt:K5}{scope:V6}{cl:List (Str×J8)}{ms:List Bool}{ar:List Str}{ifs:List K5}{i:Nat}{x:Str}{spos pos':Pos}{wi:TId}{g:GD}{tc:TTd}{te:TEd}(hN:X.N.Nodup) (hix:X.N[i]?=some x) (hx:X.env.scope.names.lookup x=some .local)
  (hsw:Z5 (.ListComp elt [⟨tg,iter,ifs,0⟩] scope pos) (some (.Name x pos')) spos.line X.env=X9 true) (S:dN X scope cl ms ar) (cV:X.calm=true) (hi:QId X tg iter wi) (hg:PGa X scope cl ar tg g)
  (hif:∀C s H ex,QIf (aA X scope cl (X.N++ar) C s H ex) ifs tc) (he:∀C s H ex,QEd (aA X scope cl (X.N++ar) C s H ex) elt te)
  (hs:∀x,O8 iter X.env x=X9 x:=by intro _;rfl):QSd X (.Assign [.Name x pos'] (.ListComp elt [⟨tg,iter,ifs,0⟩] scope pos) spos) (ED i (dLc ms ar.length wi g tc te)):=by
 simp only[QEd.eq,QSd.eq,QId.eq,QIf.eq]at *
 obtain⟨gv,pg,kg⟩:=hg;refine(yv (tc:=upT X.K tc) hN hix hx hsw S cV hi pg hif (Ak (te:=up X.K te) he) hs).conv fun D σ H hh=>?_;obtain⟨Δ,M,E,sr,hr,q,k⟩:=hh;exact vL kg σ H _ ⟨Δ,M,_,sr,hr,q,fun d M1 v H1 q1 e1 hr1 rv=>k.nx _ M1 _ H1 q1 e1 hr1 ((sr.ext e1).set i rv)⟩
theorem vO{X:Cx}{e:K5}{te:TEd}{pos:Pos}{o i:K5}{to ti:TEd}{p:Pos}(ho:QEd X o to) (hi:QEd X i ti) (he:QEd X e te)
  (ha:∀ v,Z6 (.Subscript o i p) X.env v = (do
   let ov <-ab3 [v] (V3 o X.env)
   let iv <-ab3 [v,ov] (V3 i X.env)
   ac3 p
   ab3 [v,ov,iv] (setItem ov iv v)
   release [v,ov,iv] []):=by intro _;rfl) (hs:swapsWithSole [.Subscript o i p] e pos.line X.env=X9 false:=by rfl) (hw:swappedStores [.Subscript o i p] e X.env=X9 none:=by rfl)
  (h1:(P9 [.Subscript o i p] X.env).map (·.2)=[Z6 (.Subscript o i p) X.env]:=by rfl):QSd X (.Assign [.Subscript o i p] e pos) (GG to ti te):=by
 simp only[QEd.eq,QSd.eq]at *
 exact(Ag he (Ee ho hi zh ha) hs hw h1).conv fun D σ H hup=>hup.el fun Δ M E sr hr q k=>⟨Δ,M,_,sr,hr,q,fun d M1 v H1 q1 e1 hr1 rv=>⟨Δ,M1,_,sr.ext e1,hr1,q1,fun o M2 ov H2 q2 e2 hr2 ro=>⟨Δ,M2,_,(sr.ext e1).ext e2,hr2,q2,fun i M3 iv H3 ⟨a,ds,kk,j,eo,ei,em,ej,q3⟩ e3 hr3 ri=>by
   subst eo;subst ei;simp only[Rep]at ro ri;subst ro;subst ri;obtain⟨vs,hv,rl⟩:=hr3 a _ em;refine⟨a,vs,kk,j,rfl,rfl,hv,by rw[<-rl.length];exact ej,?_⟩;exact k.nx Δ _ σ _ q3 (((e1.trans e2).trans e3).trans (Ext.write em)) (hr3.write em (rl.set j ((rv.ext e2).ext e3))) ((((sr.ext e1).ext e2).ext e3).ext (Ext.write em))⟩⟩⟩
theorem oj{X:Cx}{e:K5}{te:TEd}{o:K5}{to:TEd}{cc bv:Pos}(ho:QEd X o to) (he:QEd X e te) (dq:U9 o "append" X.env (V3 o X.env)=V3 o X.env:=by rfl)
  (hse:K2 [e] X.env=(false,V3 e X.env)::K2 [] X.env:=by rfl)
  (uJ:((V8 bv (K2 [e] X.env)).all (fun x => !x.1) && (backToKw bv (ac5 [] X.env)).all (fun x => x.1.isSome)
  &&decide ([e].length+([]:List ab5).length+(if([]:List ab5).isEmpty then 0 else 1)<30))=true:=by rfl)
  (c9:(cc.endLine==bv.line)=true:=by rfl) (kc:(V8 bv (K2 [] X.env)).any (·.1)=false:=by rfl):QEd X (.Call (.Attribute o "append" cc) [e] [] bv) (F1 to te):=by
 simp only[QEd.eq]at *
 exact(AR PySem.F.plainAttrs_list PySem.F.slot_list_append PySem.F.type_list_append (show MtR X "list.append" we from xG) ho (gY he nj hse) dq uJ c9 hse kc).conv fun σ H Q hup=>hup.el fun Δ M R sr hr q k=>⟨Δ,M,_,sr,hr,q,fun o M1 ov H1 ⟨a,l,eo,em,q1⟩ e1 hr1 ro=>by
   subst eo;simp only[Rep]at ro;subst ro;obtain⟨vs,hv,rl⟩:=hr1 a _ em;refine⟨.inl ⟨rfl,vs,SqL.of hv⟩,Δ,M1,_,sr.ext e1,hr1,q1,fun d M2 v H2 ⟨ds,em2,hz,q2⟩ e2 hr2 rv=>?_⟩;obtain⟨ws,hw,rl2⟩:=hr2 a _ em2;refine⟨a,ws,v,rfl,rfl,hw,by rw[<-rl2.length];exact hz,k _ _ _ _ q2 ((e1.trans e2).trans (Ext.write em2)) (hr2.write em2 (rl2.append (au.cons rv au.nil))) (by simp[Rep])⟩⟩
theorem zj{X:Cx}{a:K5}{ta:TEd}{pos:Pos}{T:Str}{Tn:String}{p p2:Pos}(hT:okT Tn=true) (hg:Gl X "isinstance") (hm:X.mg "isinstance"=none) (hg2:Gl X T) (hm2:X.mg T=none) (hv2:Q8 T=some (.type Tn)) (ha:QEd X a ta) (hn2:T≠"__name__":=by decide) (hd2:(T==("__debug__":Str))=false:=by decide)
  (hs:K2 [a,.Name T p2] X.env=(false,V3 a X.env)::K2 [.Name T p2] X.env:=by rfl) (hs2:K2 [.Name T p2] X.env=(false,V3 (.Name T p2) X.env)::K2 [] X.env:=by rfl) (hpl:(V8 pos (K2 [.Name T p2] X.env)).any (·.1)=false:=by rfl) :
  QEd X (.Call (.Name "isinstance" p) [a,.Name T p2] [] pos) (HQ Tn ta):=by
 simp only[QEd.eq]at *
 have hc:cP X (.builtin "isinstance") (fun xs H Q=>∃v d k M,xs=[v,.ty Tn]/\aU X.K M H d v/\F3 Tn d=some k/\Q (.bl k) H):=by
  intro ae s σ H xs us Q I rv h;obtain⟨v,d,k,M,rfl,rd,ek,q⟩:=h;obtain⟨u1,u2,rfl,r1,r2⟩:=az.two rv;cases r2;exact xO hT I r1 rd ek q
 refine(sG hc hg hm (by kernel_rfl) (gY ha (gY (BY (v:=.ty Tn) hg2 hm2 hv2 rfl hn2 hd2) nj hs2) hs) (by decide) (by decide) hs hpl).conv fun σ H Q hh=>?_;obtain⟨Δ,M,R,sr,hr,q,k⟩:=hh;exact⟨Δ,M,_,sr,hr,q,fun d M1 v H1 ⟨kk,ek,q1⟩ e1 hr1 rv=>⟨v,_,kk,M1,rfl,rv.rd hr1,ek,k _ M1 _ H1 q1 e1 hr1 (by simp[Rep])⟩⟩
theorem cz{X:Cx}:QOd X none qq:=by
 simp only[QEd.eq,QAd.eq,QTd.eq,QWd.eq,QSd.eq,QSs.eq,QId.eq,QIf.eq,QOd.eq]at *
 exact BR 
theorem bV{X:Cx}{e:K5}{te:TEd}(h:QEd X e te):QOd X (some e) (AK te):=by
 simp only[QEd.eq,QAd.eq,QTd.eq,QWd.eq,QSd.eq,QSs.eq,QId.eq,QIf.eq,QOd.eq]at *
 exact C3 (h:=h)
theorem qc{X:Cx}{e:K5}{es:List K5}{t:TAd}{pos:Pos}{p:Pos}{x:Str}{k:Nat}{n:Nat}{S:SpD}(F:FnD X.prog X.w X.K X.mg X.base x k n S) (hr:cG k X.A) (hg:Gl X x) (ha:QAd X (e::es) t) (hdb:(x==("__debug__":Str))=false:=by decide) (he:K2 (e::es) X.env=(false,V3 e X.env)::K2 es X.env:=by rfl) (hpl:(V8 pos (K2 es X.env)).any (·.1)=false:=by rfl) :
  QEd X (.Call (.Name x p) (e::es) [] pos) (jB n S t):=by
 simp only[QEd.eq,QAd.eq,QTd.eq,QWd.eq,QSd.eq,QSs.eq,QId.eq,QIf.eq,QOd.eq]at *
 exact dc (F:=F) (hr:=hr) (hg:=hg) (ha:=ha) (hdb:=hdb) (he:=he) (hpl:=hpl)
theorem yO{X:Cx}{e:K5}{te:TEd}{pos:Pos}(he:QEd X e te):QSd X (.Return (some e) pos) (Dw te):=by
 simp only[QEd.eq,QSd.eq]at *
 exact(vn he).conv fun D σ H hup=>hup.el fun Δ M E sr hr q k=>⟨Δ,M,_,sr,hr,q,fun d M1 v H1 ⟨a,ds,ed,em,q1⟩ e1 hr1 rv=>by
  subst ed;simp only[Rep]at rv;subst rv;exact k.rt _ _ _ H1 q1 (e1.trans (Ext.le LeM.del)) (hr1.le LeM.del) (Rep.froze hr1 LeM.del em dE)⟩
theorem dm{X:Cx}{te:TEd}{tg:K5}{iter:K5}(h:QEd X iter te):QId X tg iter (Dv te):=by
 simp only[QEd.eq,QId.eq]at *
 intro ae s σ H R I hh;obtain⟨Δ,M,R',sr,hr,q,k⟩:=hh;refine thn (h ae s σ H (fun v H1=>∃d ds M1,lP d=some ds/\(ds.length<=J3->R' ds M1)/\Ext M H M1 H1/\HR X.K M1 H1/\Rep X.K M1 H1 d v) I ⟨Δ,M,_,sr,hr,q,fun d M1 v H1 ⟨ds,ed,q1⟩ e1 hr1 rv=>⟨d,ds,M1,ed,q1,e1,hr1,rv⟩⟩) fun u s1 ⟨v,H1,I1,r1,d,ds,M1,ed,q1,e1,hr1,rv⟩=>?_;have lo:=aU.len (K:=X.K) I1 rv;cases d with
 |tup es =>
  cases ed;simp only[Rep]at rv;obtain⟨a,vs,rfl,ta,rl⟩:=rv;cases r1;obtain⟨its,rvv,p,hz⟩:=I1.tuple ta.sq;refine wpAny_pyIter_tuple (show s1.heap.IsTuple a its.toArray from p) ?_;refine⟨s1.heap.objs.size,[s1.heap.objs.size],_,_,H1,rfl,I1.kept (t':=s1.toks) fun b o e=>J1 _ e,vw a _,⟨_,J9 _ rfl,rfl,rfl⟩,qH (o:=default) I1,?_⟩;refine k _ M1 _ H1 (q1 lo) e1 hr1 fun M2 H2 e2 hr2 i=>⟨fun d hd=>?_,fun hl=>⟨vs,(ta.ext e2).sq,by rw[<-rl.length];exact hl⟩⟩;obtain⟨v,gv,r⟩:=rl.get hd;refine⟨⟨vs,v,(ta.ext e2).sq,gv⟩,fun x H' ⟨eH,y⟩=>?_⟩;subst eH;have:=y vs (ta.ext e2).sq;rw[gv]at this;cases this;exact⟨Ext.refl _ _,hr2,r.ext e2⟩
 |lst es =>
  cases ed;simp only[Rep]at rv;obtain⟨a,vs,rfl,ta,rl⟩:=rv;cases r1;obtain⟨its,rvv,p,hz⟩:=I1.list (SqL.of ta.1);refine wpAny_pyIter_list p.isList ?_;refine⟨s1.heap.objs.size,[s1.heap.objs.size],_,_,H1,rfl,I1.kept (t':=s1.toks) fun b o e=>J1 _ e,pQ a _,⟨_,J9 _ rfl,rfl,rfl⟩,qH (o:=default) I1,?_⟩;refine k _ M1 _ H1 (q1 lo) e1 hr1 fun M2 H2 e2 hr2 i=>⟨fun d hd=>?_,fun hl=>⟨vs,SqL.of (ta.ext e2).1,by rw[<-rl.length];exact hl⟩⟩;obtain⟨v,gv,r⟩:=rl.get hd;refine⟨⟨vs,v,SqL.of (ta.ext e2).1,gv⟩,fun x H' ⟨eH,y⟩=>?_⟩;subst eH;have:=y vs (SqL.of (ta.ext e2).1);rw[gv]at this;cases this;exact⟨Ext.refl _ _,hr2,r.ext e2⟩
 |scr es =>
  cases ed;simp only[Rep]at rv;obtain⟨a,vs,rfl,ta,rl⟩:=rv;cases r1;obtain⟨its,rvv,p,hz⟩:=I1.list ta.sq;refine wpAny_pyIter_list p.isList ?_;refine⟨s1.heap.objs.size,[s1.heap.objs.size],_,_,H1,rfl,I1.kept (t':=s1.toks) fun b o e=>J1 _ e,pQ a _,⟨_,J9 _ rfl,rfl,rfl⟩,qH (o:=default) I1,?_⟩;refine k _ M1 _ H1 (q1 lo) e1 hr1 fun M2 H2 e2 hr2 i=>⟨fun d hd=>?_,fun hl=>⟨vs,(ta.ext e2).sq,by rw[<-rl.length];exact hl⟩⟩;obtain⟨v,gv,r⟩:=rl.get hd;refine⟨⟨vs,v,(ta.ext e2).sq,gv⟩,fun x H' ⟨eH,y⟩=>?_⟩;subst eH;have:=y vs (ta.ext e2).sq;rw[gv]at this;cases this;exact⟨Ext.refl _ _,hr2,r.ext e2⟩
 |str x =>
  simp only[lP]at ed
  by_cases hz:x.length<=J3
  ·rw[if_pos hz]at ed;cases ed;simp only[Rep]at rv;subst rv;obtain⟨t,rfl⟩:=r1;have hq:=k _ M1 _ H1 (q1 (by have hz2:x.cps.size<=J3:=hz;simpa[ml]using hz2)) e1 hr1 El;cases ha:x.cps.all (·<128)
   ·exact wpAny_pyIter_wide ha (wC I1 "str_iterator" (by decide) (fun A hA=>Walks.strWide hA _ x t) (fun A i s' Q E st q=>wpAny_pyIter_striter_wide st q) hq)
   ·exact wpAny_pyIter_ascii ha (wC I1 "str_ascii_iterator" (by decide) (fun A hA=>Walks.strAscii hA _ x t) (fun A i s' Q E st q=>wpAny_pyIter_striter_ascii st q) hq)
  ·rw[if_neg hz]at ed;cases ed
 |_=>cases ed
theorem iI{X:Cx}{e:K5}{te:TEd}{pos:Pos}(he:QEd X e te):QSd X (.Return (some e) pos) (D4 te):=by
 simp only[QEd.eq,QSd.eq]at *
 exact(vn he).conv fun D σ H hup=>hup.el fun Δ M E sr hr q k=>⟨Δ,M,_,sr,hr,q,fun d M1 v H1 ⟨M2,hle,q1⟩ e1 hr1 rv =>
  k.rt _ _ _ H1 q1 (e1.trans (Ext.le hle)) (hr1.le hle) (rv.ext (Ext.le hle))⟩
theorem bP{X:Cx}{e:K5}{te:TEd}{pos:Pos}{lo hi:Option K5}{tl th:TOd}{p2:Pos}(he:QEd X e te) (hl:QOd X lo tl) (hu:QOd X hi th):QEd X (.Subscript e (.Slice lo hi none p2) pos) (G8 te tl th):=by
 simp only[QEd.eq,QOd.eq]at *
 refine(tM (SlR.or xb (SlR.or yY (SlR.or yT sA))) he hl hu).conv fun σ H Q hh=>?_;obtain⟨Δ,M,R,sr,hr,q,k⟩:=hh;refine⟨Δ,M,_,sr,hr,q,fun x M1 v H1 q1 e1 hr1 rv=>⟨Δ,M1,_,sr.ext e1,hr1,q1,fun l M2 H2 q2 e2 hr2=>⟨Δ,M2,_,(sr.ext e1).ext e2,hr2,q2,fun u M3 H3 ⟨z,ez,q3⟩ e3 hr3=>?_⟩⟩⟩;have rr:=((rv.ext e2).ext e3).rd hr3;have ee:=(e1.trans e2).trans e3;have kk:∀w H',Ext M3 H3 M3 H'->HR X.K M3 H'->Rep X.K M3 H' z w->Q w H':=fun w H' e4 hr4 r4=>k z M3 w H' q3 (ee.trans e4) hr4 r4;generalize rdM M3 x=d at rr ez;cases d with
 |lst ds =>
  cases ez;obtain⟨a,vs,rfl,sq,rl⟩:=rr;refine .inl ⟨a,vs,rfl,SqL.of sq,fun p hp=>gN hr3 hp ?_ kk⟩;unfold cK o3;rw[<-rl.length];exact(rl.drop _).take _
 |scr ds =>
  cases ez;obtain⟨a,vs,rfl,sq,rl⟩:=rr;refine .inl ⟨a,vs,rfl,sq,fun p hp=>gN hr3 hp ?_ kk⟩;unfold cK o3;rw[<-rl.length];exact(rl.drop _).take _
 |str s =>
  simp only[slE,slD]at ez
  by_cases hz:s.length<=J3
  ·rw[if_pos hz]at ez;cases ez;exact .inr (.inr (.inl ⟨s,oY rr,hz,kk _ H3 (Ext.refl _ _) hr3 (by simp[Rep])⟩))
  ·rw[if_neg hz]at ez;cases ez
 |tup ds =>
  cases ez;have rt:=aU.tup hr3 rr;obtain⟨a,vs,rfl,sq,rl⟩:=rr
  by_cases hw:HT.sIx ds.length 0 l=0/\HT.sIx ds.length ds.length u=ds.length
  ·refine .inr (.inr (.inr ⟨a,vs,rfl,sq,by rw[<-rl.length];exact hw,kk _ H3 (Ext.refl _ _) hr3 ?_⟩));rw[uq hw];exact rt
  ·refine .inr (.inl ⟨a,vs,rfl,sq,by rw[<-rl.length];exact hw,fun p hp=>j7 hr3 hp ?_ kk⟩);unfold cK o3;rw[<-rl.length];exact(rl.drop _).take _
 |_=>cases ez
theorem AI{X:Cx}{e:K5}{te:TEd}{ts:TEd}{pos:Pos}{st:K5}{p2:Pos}(he:QEd X e te) (hs:QEd X st ts):QEd X (.Subscript e (.Slice none none (some st) p2) pos) (yA te ts):=by
 simp only[QEd.eq]at *
 intro ae s σ H Q I hh;obtain⟨Δ,M,R,sr,hr,q,k⟩:=hh;refine ad0 (thn (he ae s σ H (fun v H1=>∃x M1,Rep X.K M1 H1 x v/\Ext M H M1 H1/\HR X.K M1 H1/\ts Δ M1 fun st M2=>st=.int (-1)/\∃ds,x=.tup ds/\R (.tup ds.reverse) M2) I
  ⟨Δ,M,_,sr,hr,q,fun x M1 v H1 q1 e1 hr1 rv=>⟨x,M1,rv,e1,hr1,q1⟩⟩) fun v s1 ⟨vx,H1,I1,r1,x,M1,rv,e1,hr1,q1⟩=>?_)
 refine wpAny_Slice ?_;rw[evalPart_none];refine J5 (J5 ?_);rw[evalPart_some];refine thn (hs ae s1 σ H1 (fun u H2=>∃M2 ds,u=.int (-1)/\x=.tup ds/\R (.tup ds.reverse) M2/\Ext M1 H1 M2 H2/\HR X.K M2 H2) I1 ⟨Δ,M1,_,sr.ext e1,hr1,q1,fun d M2 u H2 ⟨ed,ds,ex,q2⟩ e2 hr2 ru=>⟨M2,ds,by subst ed;simpa only[Rep]using ru,ex,q2,e2,hr2⟩⟩) fun u s2 ⟨vu,H2,I2,r2,M2,ds,eu,ex,q2,e2,hr2⟩=>?_;subst eu;subst ex;obtain⟨tk,rfl⟩:=r2;have rv2:=rv.ext e2;simp only[Rep]at rv2;obtain⟨ad,vs,rfl,ta,rl⟩:=rv2;cases r1;have I4:Inv X ae σ H2 { s2 with heap:=s2.heap.push { cls:=.type "slice",data:=.fields #[.none,.none,.int (-1) tk] } }:=I2.kept (t':=s2.toks) fun b ob q=>J1 _ q;obtain⟨its,r,ht,hz⟩:=I4.tuple ta.sq;have hl:=r.length;refine tail_any (ops:=[.ref ad,.ref s2.heap.objs.size]) ht.typeIs K8.lookup (HT.getItem_tuple_rev ht (L6.IsSliceOf.new ..) ?_ (by rw[J4,<-hl];exact hz)) (by with_unfolding_all rfl);have rr:az vs.reverse its.reverse:=az.reverse r;refine⟨.ref _,_,I4.laid (t':=s2.toks) (o:=.tup vs.reverse) (fun b ob q=>J1 _ q) (J6 _) ?_,rfl,?_⟩
 ·exact⟨by simpa using hz,_,rr,jY.new _ _⟩
 ·exact j7 (ds:=ds.reverse) hr2 (I4.hok.fresh (J6 _)) rl.reverse fun w H' e4 hr4 r4=>k _ M2 w H' q2 ((e1.trans e2).trans e4) hr4 r4
theorem vT{X:Cx}{st:ab0}:QSd X st yF:=by
 simp only[QSd.eq]at *
 exact fun ae s σ H D I ⟨_,_,_,_,_,q,_⟩=>P8 q
section
variable{X:Cx}{bS:List ab0}{t:TSd}{e:K5}{tt:TTd}
theorem B6(h:QSs X bS t):Cq X bS t:=by
 rw[QSs.eq]at h;exact h
theorem xZ(h:QWd X e tt):QTd X e tt:=by
 simp only[QWd.eq,QTd.eq]at *
 exact PWd.pt h
end
end L2
namespace L2
open PySem PySem.Spec PyProof.Rows PySem.Builtin.Str
end L2
namespace L2
open PySem PySem.Spec PyProof.Rows
def Few(n:Int):Prop:=L4.Int.intBits n<=2 ^ 20
end L2
namespace Att
open PySem PySem.W PySem.Calls PyProof.Rows
end Att
namespace L2
open PySem PySem.Spec PyProof.Rows
section
variable{X:Cx}{pos:Pos}
instance (n:Int):Decidable (Few n):=by unfold Few;exact inferInstance
def h8(i j:Int):Prop:=iz i j∨(Few i/\Few j)
instance:∀i j,Decidable (h8 i j):=fun i j=>Classical.propDecidable _
theorem h8.ok{i j:Int}(h:h8 i j):IntMulOk i j:=by
 rcases h with h|⟨a,b⟩
 ·exact h.ok
 ·exact .of_bits a b
theorem Cv:OpR X (P7 .Mult) (rI h8 fun i j=>.int (i*j)):=opI fun _ _ _ _ _ _ _ hc q=>mul_int q hc.ok
theorem As:bQ X (P7 .Mult) (iOp fun i j=>if h8 i j then some (.int (i*j))else none):=rW (fun _ _=>rfl) Cv
theorem xf{K:o0}{M:DH}{H:Hp}{a b:D}{xs:List V}(h:R1 (aU K M H) [a,b] xs):∃v w,xs=[v,w]/\aU K M H a v/\aU K M H b w:=by
 cases h with
 |cons r t =>
  cases t with
  |cons r2 t2=>cases t2;exact⟨_,_,rfl,r,r2⟩
noncomputable def dmD:List D->Option D
 |[.int i,.int j]=>if nU i j then some (.tup [.int (i / j),.int (i % j)])else none
 |_=>none
theorem AJ:bj X (.builtin "divmod") dmD:=bj.of sO fun H M xs ds dz Q hr rp e q=>by
 unfold dmD at e
 split at e
 ·rename_i i j
  by_cases hc:nU i j
  ·rw[if_pos hc]at e;cases e;obtain⟨v,w,rfl,r1,r2⟩:=xf rp;rw[dI r1,dI r2];refine⟨i,j,rfl,hc,fun p hp=>?_⟩;exact j7 hr hp (au.cons (by simp[Rep]) (au.cons (by simp[Rep]) au.nil)) q
  ·rw[if_neg hc]at e;cases e
 ·cases e
noncomputable def Fn:List D->Option D
 |[.int i,.int j]=>some (.int (if j > i then j else i))
 |_=>none
theorem HE(hc:X.calm=true):bj X (.builtin "max") Fn:=bj.of (xp hc) fun H M xs ds dz Q hr rp e q=>by
 unfold Fn at e
 split at e
 ·rename_i i j;cases e;obtain⟨v,w,rfl,r1,r2⟩:=xf rp;rw[dI r1,dI r2];exact⟨i,j,rfl,q _ H (Ext.refl _ _) hr (by simp[Rep])⟩
 ·cases e
end
open AutoSeq1 (wpAny_loadPart')
section
variable{prog:L1}{w:O6}{A:N1}{E:u8->J0->Prop}{s:J0}
theorem mz(l:J8) (its:Array u8) (n:Nat) (dct:Option J8) (sl:Array (Option u8)) :
  Meets (L4.«enumerate.__new__» ⟨[.type "enumerate",.ref l],[]⟩) (fun _ R s=>s.heap.get? l=some { cls:=.type "tuple",dict:=dct,data:=.seq its n,slots:=sl } /\
   R (.ok (.ret (.ref (s.heap.push { cls:=.type "tuple_iterator",data:=.fields #[.ref l,.int 0 0] }).objs.size)))
    { s with heap:=(s.heap.push { cls:=.type "tuple_iterator",data:=.fields #[.ref l,.int 0 0] }).push { cls:=.type "enumerate",data:=.fields #[.none,.bool false,.ref s.heap.objs.size,rawInt 0,.none,.none] } }) :=
 .of_wp fun prog w A R s h=>by
  obtain⟨hp,g,d,tk,os⟩:=s;have hl:=h.1;have hR:=h.2;have hsb:=sub_enumerate;have hT:L6.IsTuple (J0.heap ⟨hp,g,d,tk,os⟩) l its:=⟨_,hl,rfl,n,rfl⟩
  wp_walk using W5 hl
  refine wpAny_stack_any fun st=>J5 ?_
  split
  ·rename_i c _ _ _ _ _;cases(c==ab8 "enumerate")<;>(wp_walk using W5 hl,wpAny_pyIter_tuple hT;exact⟨_,rfl,hR⟩)
  ·wp_walk using W5 hl,wpAny_pyIter_tuple hT
   exact⟨_,rfl,hR⟩
theorem mK{l:J8}{its:Array u8}{Q:u8->J0->Prop}(hL:s.heap.IsTuple l its)
  (h:∀ h',IsEnum h' (s.heap.objs.size + 1) s.heap.objs.size 0 .none → h'.IsTupleIter s.heap.objs.size l 0 → h'.objs.size = s.heap.objs.size + 2 →
   (∀b o,s.heap.get? b=some o->h'.get? b=some o)->Q (.ref (s.heap.objs.size+1)) { s with heap:=h' }) :
  K4 (K7 prog w) A (call (.type "enumerate") [.ref l]) Q E s:=by
 obtain⟨⟨c,dct,dt,sl⟩,hl,hc,n,hd⟩:=hL;obtain rfl:c=.type "tuple":=hc;obtain rfl:dt=.seq its n:=hd;refine callType_new F.called_enumerate (by decide) (F.typeCall_enumerate_1 _) (F.newCall_enumerate_1 _) (fun ob=>F.args_object_init_2 ob _) F.entry_enumerate_new (mz l its n dct sl) ⟨hl,?_⟩;have hz:(s.heap.push { cls:=.type "tuple_iterator",data:=.fields #[.ref l,.int 0 0] }).objs.size=s.heap.objs.size+1:=X5 ..;show _/\_;rw[hz];have he:IsEnum ((s.heap.push { cls:=.type "tuple_iterator",data:=.fields #[.ref l,.int 0 0] }).push { cls:=.type "enumerate",data:=.fields #[.none,.bool false,.ref s.heap.objs.size,rawInt 0,.none,.none] }) (s.heap.objs.size+1) s.heap.objs.size 0 .none:=by
  have q:=J9 (s.heap.push { cls:=.type "tuple_iterator",data:=.fields #[.ref l,.int 0 0] }) (o:={ cls:=.type "enumerate",data:=.fields #[.none,.bool false,.ref s.heap.objs.size,rawInt 0,.none,.none] }) rfl
  rwa [hz]at q
 exact⟨⟨_,he,rfl⟩,h _ he ⟨_,J1 _ (J9 _ rfl),rfl,rfl⟩ (by rw[X5,hz]) fun b o x=>J1 _ (J1 _ x)⟩
theorem il{it t:J8}{i:Nat}{its}{x:u8}{Q:u8->J0->Prop}(hit:s.heap.IsTupleIter it t i) (ht:s.heap.IsTuple t its) (hx:its[i]?=some x)
  (hQ:∀h',h'.IsTupleIter it t (i+1)->S1 it s.heap h'->Q x { s with heap:=h' }):K4 (K7 prog w) A (S5 (.ref it)) Q E s:=by
 obtain⟨o,ho,hc,hd⟩:=id hit;obtain⟨ol,hol,_,nl,hdl⟩:=ht;unfold S5;refine I0 (Q7 (name:=X8 "__next__") hit.typeIs S0 (V5 S0 hit.typeIs F.entry_tuple_iterator_next ?_ (F.args_tuple_iterator_next_1 _)));show K4 _ _ (field (.ref it) 0 >>= _) _ _ s;refine I0 (T9 ho hd (x:=.ref t) rfl ?_);show K4 _ _ (if(N3 t==W9)=true then _ else _) _ _ s;rw[if_neg (show ¬ ((N3 t==W9)=true)from M7)];show K4 _ _ (field (.ref it) 1 >>= _) _ _ s;refine I0 (T9 ho hd (x:=.int i 0) rfl ?_);show K4 _ _ (seqItems? (.ref t) >>= _) _ _ s;refine I0 (wpAny_seqItems hol hdl ?_);simp only[Int.toNat_natCast,hx];refine I0 (wpAny_setField ho hd (by simp) (J5 ⟨x,rfl,J5 (hQ _ ?_ (S1.update ..))⟩));exact⟨_,L6.get?_update_self _ ho (Obj.isFreed_of_fields (Obj.data_mapFields hd _)),(Obj.cls_mapFields ..).trans hc,by rw[Obj.data_mapFields hd];simp[rawInt]⟩
theorem iG{it t:J8}{i:Nat}{its}{Q:u8->J0->Prop}(hh:A.handled=none) (hit:s.heap.IsTupleIter it t i) (ht:s.heap.IsTuple t its) (hx:its[i]?=none)
  (hE:∀h' e,L6.ExtBut it s.heap h'->(∃o,h'.get? e=some o/\o.cls=.type "StopIteration")->E (.ref e) { s with heap:=h' }):K4 (K7 prog w) A (S5 (.ref it)) Q E s:=by
 obtain⟨o,ho,hc,hd⟩:=id hit;obtain⟨ol,hol,_,nl,hdl⟩:=ht;unfold S5;refine I0 (Q7 (name:=X8 "__next__") hit.typeIs S0 (V5 S0 hit.typeIs F.entry_tuple_iterator_next ?_ (F.args_tuple_iterator_next_1 _)));show K4 _ _ (field (.ref it) 0 >>= _) _ _ s;refine I0 (T9 ho hd (x:=.ref t) rfl ?_);show K4 _ _ (if(N3 t==W9)=true then _ else _) _ _ s;rw[if_neg (show ¬ ((N3 t==W9)=true)from M7)];show K4 _ _ (field (.ref it) 1 >>= _) _ _ s;refine I0 (T9 ho hd (x:=.int i 0) rfl ?_);show K4 _ _ (seqItems? (.ref t) >>= _) _ _ s;refine I0 (wpAny_seqItems hol hdl ?_);simp only[Int.toNat_natCast,hx];refine I0 (wpAny_rule (I0 (wpAny_setField ho hd (by simp) ?_)));show K4 _ _ (newExc (.type "StopIteration") [] >>= _) _ _ _;refine I0 ?_;simp only[newExc,newTuple];refine I0 (N2 ?_ (by size_fits));refine I0 (m:=firstArgMember _ _) (wpAny_of_eq (a:=W9) (by first|rfl|(simp only[firstArgMember];rfl)) ?_);refine N2 ?_ (by size_fits);simp only[raiseNew];refine I0 (wpAny_handled ?_)
 first|rw[show A.in1.handled=none from hh]|rw[hh]
 refine I0 (J5 (wpAny_throw ?_));exact hE _ _ (((S1.update ..).extBut.push _).push _) ⟨_,J9 _ rfl,rfl⟩
theorem xo{prog:L1}{w:O6}{A:N1}(hh:A.handled=none) (it l:J8) (hne:l≠it) (its:Array u8) :
  Draws prog w A it [it,l] its.size (fun i v=>its[i]?=some v) (fun i h=>h.IsTupleIter it l i/\h.IsTuple l its) where
 live:=fun _ _ st=>let⟨o,ho,_⟩:=st.1;⟨o,ho⟩
 frame:=fun _ _ _ st hk=>⟨let⟨o,ho,r⟩:=st.1;⟨o,hk it (by simp) o ho,r⟩,let⟨o,ho,r⟩:=st.2;⟨o,hk l (by simp) o ho,r⟩⟩
 item:=fun i s Q E hi st hQ=>il st.1 st.2 (x:=its[i]) (by simp[hi]) fun h' hit' hs'=>hQ _ h' s.toks (by simp[hi]) ⟨hit',st.2.extBut hs'.extBut hne⟩ hs'
 done:=fun s Q E st hE=>iG hh st.1 st.2 (by simp) hE
end
section
variable{X:Cx}{ae:List (J8×Obj)}{σ:St}{H:Hp}{s:J0}{h':L6}
theorem Inv.turned2{t':Nat}{e it:J8}(I:Inv X ae σ H s) (k:∀b o,b≠e->b≠it->s.heap.get? b=some o->h'.get? b=some o) (f1:du X ae H e) (f2:du X ae H it):Inv X ae σ H { s with heap:=h',toks:=t' }:=by
 obtain⟨a0,a1,a2,a3,a4,a5⟩:=f1;obtain⟨b0,b1,b2,b3,b4,b5⟩:=f2;have nit:∀b u,H b=some u->b≠e/\b≠it:=fun b u q=>⟨fun z=>(by rw[z,a0]at q;cases q),fun z=>(by rw[z,b0]at q;cases q)⟩;have kk:∀b o,b∉[e,it]->s.heap.get? b=some o->h'.get? b=some o:=fun b o hc q=>k b o (fun z=>hc (by simp[z])) (fun z=>hc (by simp[z])) q;refine I.step (g':=s.gens) (d':=s.drawn) (ch:=[e,it]) (fun b hb=>?_) (fun b o _ _ hc q _=>kk b o hc q) (fun b o _ _ hc q _=>⟨o.slots,kk b o hc q⟩) (fun _ _ _ _ n=>n)
  (fun b o hc q=>⟨o,kk b o hc q⟩) (fun _ _ q=>q) (fun _ _ _ q=>q) (fun b ps q=>⟨#[],by rw[q];simp⟩) (fun m hm=>?_) (fun b u q=>?_) I.bare
 ·rcases O7.mp hb with z|z
  ·subst z;exact⟨a3,a1,a4,a5⟩
  ·have z:=P6.mp z;subst z;exact⟨b3,b1,b4,b5⟩
 ·obtain⟨o,es,ep,ho,r⟩:=hm;exact⟨o,es,ep,k _ o (X0 a1) (X0 b1) ho,r⟩
 ·refine(I.hok b u q).stay (fun c v hc q'=>?_) (fun _ q=>q) fun _ _ q=>q;rcases hc with z|z
  ·rw[z]at q' ⊢;exact k _ _ (nit b u q).1 (nit b u q).2 q'
  ·exact k c v (nit c _ z).1 (nit c _ z).2 q'
end
def oX(b:Bool) (K:o0) (H:Hp) (a:J8) (xs:List V):Prop:=match b with|true=>SqT K H a xs|false=>SqL K H a xs
def se(b:Bool) (h:L6) (it a:J8) (i:Nat):Prop:=match b with|true=>h.IsTupleIter it a i|false=>h.IsListIter it a i
noncomputable def HB(b:Bool):String:=match b with|true=>"tuple_iterator" |false=>"list_iterator"
theorem se.obj{b:Bool}{h:L6}{it a:J8}{i:Nat}(st:se b h it a i):∃o,h.get? it=some o/\o.cls=.type (HB b)/\o.data=.fields #[.ref a,.int i 0]:=by
 cases b<;>exact st
theorem se.of{b:Bool}{h:L6}{it a:J8}{i:Nat}(st:∃o,h.get? it=some o/\o.cls=.type (HB b)/\o.data=.fields #[.ref a,.int i 0]):se b h it a i:=by
 cases b<;>exact st
theorem su{X:Cx}{ae:List (J8×Obj)}{σ:St}{H:Hp}{s:J0}{b:Bool}{a it:J8}{i:Nat}{xs:List V}(hc:X.calm=true) (I:Inv X ae σ H s) (hq:oX b X.K H a xs) (hit:se b s.heap it a i) :
  ∃(its:List u8) (St:Nat->L6->Prop),az xs its/\Draws X.prog X.w X.A.in1 it [it,a] its.toArray.size (fun i v=>its.toArray[i]?=some v) St/\St i s.heap/\(∀j h,St j h->se b h it a j)/\∃o,s.heap.get? a=some o/\o.cls≠.type "enumerate":=by
 cases b with
 |true =>
  obtain⟨its,rv,p,hz⟩:=I.tuple hq;have hT:s.heap.IsTuple a its.toArray:=p;have hal:a≠it:=fun z=>by
   obtain⟨o,q,c,_⟩:=hT;obtain⟨o',q',c',_⟩:=hit;rw[z,q']at q;cases q;rw[c']at c;exact absurd c (by decide)
  obtain⟨o,q,c,_⟩:=id hT;exact⟨its,_,rv,xo (A:=X.A.in1) (I.ok.hd hc) it a hal its.toArray,⟨hit,hT⟩,fun j h st=>st.1,o,q,by rw[c];decide⟩
 |false =>
  obtain⟨its,rv,p,hz⟩:=I.list hq;have hT:s.heap.IsList a its.toArray:=p.isList;have hal:a≠it:=fun z=>by
   obtain⟨o,q,c,_⟩:=hT;obtain⟨o',q',c',_⟩:=hit;rw[z,q']at q;cases q;rw[c']at c;exact absurd c (by decide)
  obtain⟨o,q,c,_⟩:=id hT;exact⟨its,_,rv,Draws.list (A:=X.A.in1) (I.ok.hd hc) it a hal its.toArray,⟨hit,hT⟩,fun j h st=>st.1,o,q,by rw[c];decide⟩
theorem oX.inj{X:Cx}{ae:List (J8×Obj)}{σ:St}{H:Hp}{s:J0}{b:Bool}{a:J8}{xs ys:List V}(I:Inv X ae σ H s) (h:oX b X.K H a xs) (h':oX b X.K H a ys):xs=ys:=by
 cases b with
 |true=>exact I.tuple_inj h h'
 |false=>exact I.list_inj h h'
noncomputable def Ite(b:Bool) (K:o0) (a:J8) (n:Nat):It :=
 ⟨fun i H=>(∃xs,oX b K H a xs/\xs.length=n)/\i<n,fun i H x H'=>∃T y,x=.ref T/\H T=none/\H'=upd H T (.tup [.int i,y])/\∀xs,oX b K H a xs->xs[i]?=some y,fun i H=>(∃xs,oX b K H a xs/\xs.length=n)/\n<=i⟩
theorem du.upd{X:Cx}{ae:List (J8×Obj)}{H:Hp}{b T:J8}{o:HO}(f:du X ae H b) (h:b≠T):du X ae (upd H T o) b:=by
 obtain⟨f0,r⟩:=f;exact⟨by rw[aL h];exact f0,r⟩
theorem xM{P:L1}{w:O6}{K:o0}{elts:List K5}{x1:Nat}{pt:Pos}(b:Bool) (a e it:J8) (n:Nat):jS P w K (.Tuple elts x1 pt) (Ite b K a n) [e,it] e (fun i h=>(∃old,IsEnum h e it i old)/\se b h it a i/\e≠it/\i<=n) where
 mem:=by simp
 obj:=fun i h st c hb=>by
  rcases O7.mp hb with z|z
  ·subst z;obtain⟨⟨old,q⟩,_⟩:=st;exact⟨_,q,fun v z=>by cases z⟩
  ·have z:=P6.mp z;subst z;obtain⟨_,st,_⟩:=st;obtain⟨o,q,_,d⟩:=st.obj;exact⟨o,q,fun v z=>by rw[d]at z;cases z⟩
 keep:=fun i h h' st k=>by
  obtain⟨⟨old,q⟩,st,ne,le⟩:=st;obtain⟨o,q2,r⟩:=st.obj;exact⟨⟨old,k e (by simp) _ q⟩,.of ⟨o,k it (by simp) o q2,r⟩,ne,le⟩
 item:=by
  intro X hP hw hK hc i ae s σ H E I hf st hg;subst hP hw hK;obtain⟨⟨xs,hq,hxl⟩,hin⟩:=hg;have hx:xs[i]?=some (xs[i]'(by omega)):=by simp[hxl,hin]
  generalize xs[i]'(by omega)=x at hx;obtain⟨⟨old,he⟩,hit,hne,hle⟩:=st;obtain⟨its,St,rv,dr,hst0,hback,ob,hob,hcl⟩:=su hc I hq hit;obtain⟨u,hu,ru⟩:=rv.get hx;have hea:e≠a:=fun z=>by
   rw[<-z,he]at hob;cases hob;exact hcl rfl
  have fe:=hf e (by simp);have fi:=hf it (by simp);have hlt:i<its.toArray.size:=by
   have h1:=(M9.mp hu).1;simpa using h1
  have eT:e<s.heap.objs.size:=J7 he;have iT:it<s.heap.objs.size:=by obtain⟨o,q,_⟩:=hit.obj;exact J7 q
  refine wpAny_pyNext_enum_itemD dr he hst0 hlt hne (by simp[hne,hea]) fun y h1 tk hy hout hst hTn hsz hk=>?_;have ey:y=u:=by
   have h2:its[i]?=some y:=by simpa using hy
   rw[hu]at h2;cases h2;rfl
  subst ey;refine⟨_,rfl,?_⟩;have In:H s.heap.objs.size=none:=I.hok.fresh (J6 _);have I1:Inv X ae σ (upd H s.heap.objs.size (.tup [.int i,x])) { s with heap:=s.heap.push { cls:=.type "tuple",data:=.seq #[.int i tk,y] },toks:=tk+1 } :=
   I.laid (fun b o q=>J1 _ q) (J6 _) ⟨by simp only[N5,W1];rw[aa7];decide,[.int i tk,y],.cons ⟨_,rfl⟩ (.cons ru .nil),⟨_,J9 s.heap rfl,rfl,⟨0,rfl⟩,rfl⟩⟩
  have fe1:du X ae (upd H s.heap.objs.size (.tup [.int i,x])) e:=fe.upd (K3 eT);have fi1:du X ae (upd H s.heap.objs.size (.tup [.int i,x])) it:=fi.upd (K3 iT);have I2:Inv X ae σ (upd H s.heap.objs.size (.tup [.int i,x])) { s with heap:=h1,toks:=tk+1 }:=I1.turned2 (t':=tk+1) (fun b o hb1 hb2 q=>by
   by_cases hbs:b=s.heap.objs.size
   ·subst hbs;rw[J9 s.heap rfl]at q;cases q;exact hTn
   ·refine hk b o hb1 hb2 ?_;rcases L6.get?_push_cases q with z|z
    ·exact absurd z.1 hbs
    ·exact z) fe1 fi1
  refine wpAny_letOwnedTupleGo_enum hout fun h2 he2 hs2=>?_;obtain⟨g0,g1,g2,g3,g4,g5⟩:=fe1;have I3:=I2.turned (t':=tk+1) (h':=h2) (it:=e) (fun b o hb q=>(hs2.2 b hb).trans q) g0 g1 g3 g4 g5;refine⟨.ref s.heap.objs.size,_,I3,rfl,⟨_,x,rfl,In,rfl,fun ys hys=>by rw[oX.inj I hys hq];exact hx⟩,⟨⟨y,by simpa using he2⟩,?_,hne,hin⟩,fun b hb=>?_⟩
  ·obtain⟨o,q,r⟩:=(hback _ _ hst).obj;exact .of ⟨o,(hs2.2 it (X0 hne)).trans q,r⟩
  ·rcases O7.mp hb with z|z
   ·subst z;exact g0
   ·rw[P6.mp z];exact fi1.1
 done:=by
  intro X hP hw hK hc i ae s σ H E I hf st hg;subst hP hw hK;obtain⟨⟨xs,hq,hxl⟩,hx⟩:=hg;obtain⟨⟨old,he⟩,hit,hne,hle⟩:=st;obtain⟨its,St,rv,dr,hst0,_⟩:=su hc I hq hit;obtain⟨f0,f1,f2,f3,f4,f5⟩:=hf it (by simp);have hl:=rv.length;have hi:i=its.toArray.size:=by simp;omega
  rw[hi]at hst0;exact wpAny_pyNext_enum_endD dr he hst0 fun h' eb=>⟨rfl,I.turned (t':=s.toks) (fun b o hb q=>eb b o hb q) f0 f1 f3 f4 f5⟩
 self:=fun _ _ _ _ _ st h=>by
  obtain⟨⟨old,he⟩,_⟩:=st;exact wpAny_pyIter_enum he h
section
variable{X:Cx}{a:K5}{t:TAd}{pos:Pos}
noncomputable def mJ(n:Nat):List D->List D
 |[]=>[]
 |d::r=>.tup [.int n,d]::mJ (n+1) r
theorem sy:∀(ds:List D) (n i:Nat),(mJ n ds)[i]?=(ds[i]?).map fun d=>.tup [.int ((n+i:Nat):Int),d]
 |[],n,i=>by simp[mJ]
 |d::r,n,0=>by simp[mJ]
 |d::r,n,i+1=>by
  simp only[mJ,List.getElem?_cons_succ];rw[sy r (n+1) i];have:n+1+i=n+(i+1):=by omega
  rw[this]
theorem sQ:∀(ds:List D) (n:Nat),(mJ n ds).length=ds.length
 |[],_=>rfl
 |d::r,n=>by simp[mJ,sQ r (n+1)]
noncomputable def sqD(b:Bool) (es:List D):D:=match b with|true=>.tup es|false=>.lst es
def CJ(b:Bool) (ta:TAd):TId:=fun Δ M R=>ta Δ M fun ds M1=>∃es,ds=[sqD b es]/\(es.length<=J3->R (mJ 0 es) M1)
def uh(ta:TAd):TId:=fun Δ M R=>ta Δ M fun ds M1=>∃es,ds=[.tup es]/\(es.length<=J3->R (mJ 0 es) M1)
def wQ(ta:TAd):TId:=fun Δ M R=>ta Δ M fun ds M1=>∃es,ds=[.lst es]/\(es.length<=J3->R (mJ 0 es) M1)
theorem EW{K:o0}{M:DH}{H:Hp}{b:Bool}{es:List D}{v:V}(h:Rep K M H (sqD b es) v):∃a vs,v=.ref a/\au K M H es vs/\∀M2 H2,Ext M H M2 H2->oX b K H2 a vs:=by
 cases b with
 |true =>
  simp only[sqD,Rep]at h;obtain⟨a,vs,e,ta,rl⟩:=h;exact⟨a,vs,e,rl,fun M2 H2 x=>(ta.ext x).sq⟩
 |false =>
  simp only[sqD,Rep]at h;obtain⟨a,vs,e,ta,rl⟩:=h;exact⟨a,vs,e,rl,fun M2 H2 x=>SqL.of (x _ _ ta.1 ta.2).1⟩
theorem uW{prog:L1}{w:O6}{A:N1}{E:u8->J0->Prop}{X:Cx}{ae:List (J8×Obj)}{σ:St}{H:Hp}{s:J0}{b:Bool}{l:J8}{xs:List V}{Q:u8->J0->Prop}(I:Inv X ae σ H s) (hq:oX b X.K H l xs)
  (h:∀ h',IsEnum h' (s.heap.objs.size + 1) s.heap.objs.size 0 .none → se b h' s.heap.objs.size l 0 → h'.objs.size = s.heap.objs.size + 2 →
   (∀b o,s.heap.get? b=some o->h'.get? b=some o)->Q (.ref (s.heap.objs.size+1)) { s with heap:=h' }):K4 (K7 prog w) A (call (.type "enumerate") [.ref l]) Q E s:=by
 cases b with
 |true =>
  obtain⟨its,rv,p,hz⟩:=I.tuple hq;exact mK (show s.heap.IsTuple l its.toArray from p) h
 |false =>
  obtain⟨its,rv,p,hz⟩:=I.list hq;exact call_enumerate_list p.isList h
theorem mW:Q8 "enumerate"=some (.type "enumerate"):=by kernel_rfl
theorem wK{b:Bool}{elts:List K5}{x1:Nat}{pt p:Pos}(hg:Gl X "enumerate") (hm:X.mg "enumerate"=none) (ha:PAd X [a] t) (hs:K2 [a] X.env=[(false,V3 a X.env)]:=by rfl):PId X (.Tuple elts x1 pt) (.Call (.Name "enumerate" p) [a] [] pos) (CJ b t):=by
 intro ae s σ H R I hh;obtain⟨Δ,M,R',sr,hr,q,k⟩:=hh;refine Call_ (jP I hg hm mW (PyProof.Rows.callWith_type1 (thn (ha pos ae s σ H (fun vs H1=>∃es M1,au X.K M1 H1 [sqD b es] vs/\(es.length<=J3->R' (mJ 0 es) M1)/\Ext M H M1 H1/\HR X.K M1 H1) I ⟨Δ,M,_,sr,hr,q,fun ds M1 vs H1 ⟨es,ed,q1⟩ e1 hr1 rv=>⟨es,M1,by rw[<-ed];exact rv,q1,e1,hr1⟩⟩) fun us s1 ⟨vs,H1,I1,r1,es,M1,rv,q1,e1,hr1⟩=>?_) hs rfl));obtain⟨v,rfl,rt⟩:=rv.one;cases r1 with
 |cons r rr =>
  cases rr;obtain⟨ad,vs,rfl,rl,ta⟩:=EW rt;cases r;have lo:es.length<=J3:=by
   have hq:=ta _ _ (Ext.refl _ _);rw[rl.length];cases b with
   |true=>exact(I1.tuple hq).choose_spec.2.2
   |false=>exact(I1.list hq).choose_spec.2.2
  have hl2:=rl.length;refine uW I1 (ta _ _ (Ext.refl _ _)) fun h' he hit hsz hk=>?_;refine wpAny_pyIter_enum he ?_;refine⟨s1.heap.objs.size+1,[s1.heap.objs.size+1,s1.heap.objs.size],_,_,H1,rfl,I1.kept (t':=s1.toks) hk,xM b ad _ _ es.length,⟨⟨_,he⟩,hit,Nat.succ_ne_self _,S4 _⟩,fun b' hb=>?_,?_⟩
  ·rcases O7.mp hb with z|z
   ·subst z;exact I1.fpOk (by omega) (I1.hok.fresh (by omega))
   ·rw[P6.mp z];exact I1.fpOk (J6 _) (I1.hok.fresh (J6 _))
  ·refine k _ M1 _ H1 (q1 lo) e1 hr1 fun M2 H2 e2 hr2 i=>⟨fun d hd=>?_,fun hl=>⟨⟨vs,(ta _ _ e2),by omega⟩,by rw[sQ]at hl;exact hl⟩⟩;rw[sy]at hd;cases hdi:es[i]? with
   |none=>rw[hdi]at hd;cases hd
   |some d0 =>
    rw[hdi]at hd;have hd':D.tup [.int ((0+i:Nat):Int),d0]=d:=by simpa using hd
    subst hd';have hi:i<es.length:=(M9.mp hdi).1;obtain⟨v0,gv,r0⟩:=rl.get hdi;refine⟨⟨⟨vs,(ta _ _ e2),by omega⟩,hi⟩,fun x H' ⟨T,y,ex,hT,eH,hy⟩=>?_⟩;subst ex;subst eH;have hh:=hy vs (ta _ _ e2);rw[gv]at hh;cases hh;refine⟨Ext.new hr2 hT,hr2.new hT,?_⟩;simp only[Rep];refine⟨T,[.int i,v0],rfl,.inl ⟨.inl aB,hr2.fresh hT⟩,?_⟩;exact au.cons (by simp[Rep]) (au.cons ((r0.ext e2).ext (Ext.new hr2 hT)) au.nil)
theorem si{elts:List K5}{x1:Nat}{pt p:Pos}(hg:Gl X "enumerate") (hm:X.mg "enumerate"=none) (ha:QAd X [a] t) (hs:K2 [a] X.env=[(false,V3 a X.env)]:=by rfl):QId X (.Tuple elts x1 pt) (.Call (.Name "enumerate" p) [a] [] pos) (wQ t):=by
 simp only[QAd.eq,QId.eq]at *
 exact wK (b:=false) hg hm ha hs
theorem wW{elts:List K5}{x1:Nat}{pt p:Pos}(hg:Gl X "enumerate") (hm:X.mg "enumerate"=none) (ha:QAd X [a] t) (hs:K2 [a] X.env=[(false,V3 a X.env)]:=by rfl):QId X (.Tuple elts x1 pt) (.Call (.Name "enumerate" p) [a] [] pos) (uh t):=by
 simp only[QAd.eq,QId.eq]at *
 exact wK (b:=true) hg hm ha hs
end
section
variable{X:Cx}{pos:Pos}
theorem EE{i j:Int}:dmD [.int i,.int j]=if nU i j then some (.tup [.int (i / j),.int (i % j)])else none:=rfl
theorem CI{i j:Int}:Fn [.int i,.int j]=some (.int (if j > i then j else i)):=rfl
theorem FP{x:Int}(h0:-(10 ^ 60)<x) (h1:x<10 ^ 60):Few x:=by
 unfold Few;rw[intBits_le_iff];have h2:x.natAbs<10 ^ 60:=by omega
 exact K6 h2 (L5 (by decide:10 ^ 60<=2 ^ 200) (Nat.pow_le_pow_right (by decide) (by decide)))
theorem G2{i j:Int}(h:Few i/\Few j):h8 i j=True:=by simp[h8,h]
end
section
variable{X:Cx}{e:K5}{te ts:TEd}{pos:Pos}
end
section
variable{κ:Type} [DecidableEq κ]
noncomputable def bw(kvs:List (κ×D)) (k:κ):Option D:=(kvs.find? fun kv=>decide (kv.1=k)).map (·.2)
noncomputable def df(kvs:List (κ×D)) (k:κ) (v:D):List (κ×D) :=
 if(kvs.any fun kv=>decide (kv.1=k))=true then kvs.map (fun kv=>if kv.1=k then(kv.1,v)else kv)else kvs++[(k,v)]
theorem Ac{k:κ}:bw ([]:List (κ×D)) k=none:=rfl
theorem bG{p:κ×D}{r:List (κ×D)}{k:κ}(e:p.1=k):bw (p::r) k=some p.2:=by simp[bw,R5,e]
theorem bE{p:κ×D}{r:List (κ×D)}{k:κ}(e:¬ p.1=k):bw (p::r) k=bw r k:=by simp[bw,R5,e]
theorem ku(k:κ):∀kvs:List (κ×D),(kvs.any fun kv=>decide (kv.1=k))=(bw kvs k).isSome
 |[]=>rfl
 |p::r=>by
  rw[Q5]
  by_cases e:p.1=k
  ·simp only[bG e,decide_eq_true e,Bool.true_or,Option.isSome_some]
  ·rw[bE e,decide_eq_false e,Bool.false_or];exact ku k r
theorem tI(k j:κ) (y:D):∀kvs:List (κ×D),bw (kvs.map fun kv=>if kv.1=k then(kv.1,y)else kv) j=(bw kvs j).map fun x=>if j=k then y else x
 |[]=>rfl
 |p::r=>by
  have ih:=tI k j y r;rw[L7]
  by_cases h:p.1=k
  ·rw[if_pos h]
   by_cases e:p.1=j
   ·rw[bG (p:=(p.1,y)) e,bG e,W8,if_pos (e.symm.trans h)]
   ·rw[bE (p:=(p.1,y)) e,bE e,ih]
  ·rw[if_neg h]
   by_cases e:p.1=j
   ·rw[bG (p:=p) e,bG e,W8,if_neg (fun z=>h (e.trans z))]
   ·rw[bE (p:=p) e,bE e,ih]
theorem p0(k j:κ) (y:D):∀kvs:List (κ×D),bw kvs k=none->bw (kvs++[(k,y)]) j=if j=k then some y else bw kvs j
 |[],_=>by
  by_cases e:k=j
  ·rw[if_pos e.symm];exact bG (p:=(k,y)) e
  ·rw[if_neg (fun z=>e z.symm)];exact bE (p:=(k,y)) e
 |p::r,hn=>by
  rw[List.cons_append];have hk:¬ p.1=k:=fun z=>by rw[bG z]at hn;cases hn
  rw[bE hk]at hn;have ih:=p0 k j y r hn
  by_cases e:p.1=j
  ·rw[bG e,bG e,if_neg (fun z=>hk (e.trans z))]
  ·rw[bE e,bE e,ih]
theorem BA(kvs:List (κ×D)) (k j:κ) (y:D):bw (df kvs k y) j=if j=k then some y else bw kvs j:=by
 unfold df
 by_cases a:(kvs.any fun kv=>decide (kv.1=k))=true
 ·rw[if_pos a,tI];rw[ku]at a
  by_cases e:j=k
  ·obtain⟨x,hx⟩:=S9.mp a;rw[if_pos e,e,hx,W8,if_pos rfl]
  ·rw[if_neg e];cases bw kvs j with
   |none=>rfl
   |some x=>rw[W8,if_neg e]
 ·rw[if_neg a];refine p0 k j y kvs ?_;rw[ku]at a;cases q:bw kvs k with
  |none=>rfl
  |some x=>rw[q]at a;exact(a rfl).elim
theorem rX(kvs:List (κ×D)) (k:κ) (v:D):(df kvs k v).length<=kvs.length+1:=by
 unfold df
 split
 ·rw[U6];omega
 ·rw[O5,N5,W1];exact J6 _
variable{K:o0}{M:DH}{H:Hp}
theorem KR.val{kvs:List (κ×D)}{ks:List (κ×V)}(h:KR K M H kvs ks) (k:κ):(∀d,bw kvs k=some d->∃v,fY ks k=some v/\Rep K M H d v)/\(fY ks k).isSome=(bw kvs k).isSome:=by
 unfold KR at h
 induction h with
 |nil=>exact⟨fun d e=>(nomatch e),rfl⟩
 |@cons p q ps qs r t ih =>
  by_cases e:p.1=k
  ·rw[bG e,kJ (r.1.symm.trans e)];exact⟨fun d z=>(by cases z;exact⟨_,rfl,r.2⟩),rfl⟩
  ·rw[bE e,kN (fun z=>e (r.1.trans z))];exact ih
theorem KR.any{kvs:List (κ×D)}{ks:List (κ×V)}(h:KR K M H kvs ks) (k:κ):(ks.any fun kv=>decide (kv.1=k))=kvs.any fun kv=>decide (kv.1=k):=by
 unfold KR at h
 induction h with
 |nil=>rfl
 |cons r _ ih=>rw[Q5,Q5,ih,r.1]
theorem KR.length{kvs:List (κ×D)}{ks:List (κ×V)}(h:KR K M H kvs ks):kvs.length=ks.length:=Z1 h
theorem KR.put{kvs:List (κ×D)}{ks:List (κ×V)}(h:KR K M H kvs ks) (k:κ) {d:D}{v:V}(r:Rep K M H d v):KR K M H (df kvs k d) (dv ks k v):=by
 unfold df dv;rw[h.any k]
 by_cases e:(kvs.any fun kv=>decide (kv.1=k))=true
 ·rw[if_pos e,if_pos e];clear e;unfold KR at h ⊢
  induction h with
  |nil=>exact .nil
  |@cons p q ps qs r1 t ih =>
   rw[L7,L7];refine .cons ?_ ih
   by_cases e:p.1=k
   ·rw[if_pos e,if_pos (r1.1.symm.trans e)];exact⟨r1.1,r⟩
   ·rw[if_neg e,if_neg (fun z=>e (r1.1.trans z))];exact r1
 ·rw[if_neg e,if_neg e];exact R1.snoc h ⟨rfl,r⟩
end
noncomputable def kD:Key->D
 |.inl i=>.int i
 |.inr x=>.str x
theorem jV{K:o0}{M:DH}{H:Hp}{k:Key}{v:V}(h:Rep K M H (kD k) v):v=kV k:=by
 cases k<;>simpa[kD,Rep,kV]using h
theorem jh{K:o0}{M:DH}{H:Hp}:∀{ks:List Key}{vs:List V},au K M H (ks.map kD) vs->vs=ks.map kV
 |[],_,h=>by simpa[au]using h
 |k::ks,_,h=>by
  simp only[L7,au]at h;obtain⟨v,ws,rfl,h1,h2⟩:=h;rw[jV h1,jh h2];rfl
section
variable{X:Cx}{a b c e o i:K5}{es:List K5}{te to ti ta tb:TEd}{t:TAd}{pos:Pos}
def dDK:TEd:=fun _ M Q=>∀p,M p=none->Q (.ref p) (av M p (.dK []))
def dDT:TEd:=fun _ M Q=>∀p,M p=none->Q (.ref p) (av M p (.dT []))
def ze(tk tv:TEd):TEd:=fun Δ M Q=>∀p,M p=none->tk Δ (av M p (.dK [])) fun x M1=>tv Δ M1 fun y M2=>∃k,x=kD k/\M2 p=some (.dK [])/\Q (.ref p) (av M2 p (.dK [(k,y)]))
def zC(to ti:TEd):TEd:=fun Δ M Q=>to Δ M fun x M1=>ti Δ M1 fun y M2=>∃a kvs k d,x=.ref a/\M2 a=some (.dK kvs)/\y=kD k/\bw kvs k=some d/\Q d M2
def F6(neg:Bool) (ti to:TEd):TEd:=fun Δ M Q=>ti Δ M fun y M1=>to Δ M1 fun x M2=>∃a kvs k,x=.ref a/\M2 a=some (.dK kvs)/\y=kD k/\Q (.bl (xor neg (bw kvs k).isSome)) M2
def Bq(neg:Bool) (ty td:TE):TE:=fun σ H Q=>ty σ H fun y H1=>td σ H1 fun x H2=>∃a o,x=.ref a/\i4 H2 a y o/\Q (.bl (xor neg o.isSome)) H2
theorem uO{ty td:TE}{op:ac7}{neg:Bool}(hop:op=(if neg then .NotIn else .In)) (hu:X.A.units+1<aa1) (hi:PE X i ty) (ho:PE X o td):PC X op i o (Bq neg ty td):=by
 subst hop;cases neg with
 |false =>
  intro ae s σ H Q I h;exact E5 hu hi ho ae s σ H Q I (by simpa[Bq,Gu]using h)
 |true =>
  intro ae s σ H Q I h;exact xX hu hi ho ae s σ H Q I (by simpa[Bq,wH]using h)
theorem Ax{K:o0}{neg:Bool}:∀ σ H Q,up K (F6 neg ti to) σ H Q->Bq neg (up K ti) (up K to) σ H Q:=fun σ H Q hup=>hup.el fun Δ M R sr hr q k=>⟨Δ,M,_,sr,hr,q,fun y M1 v H1 q1 e1 hr1 rv=>⟨Δ,M1,_,sr.ext e1,hr1,q1,fun x M2 u H2 ⟨a,kvs,ky,ex,em,ey,q2⟩ e2 hr2 ru=>by
  subst ex;subst ey;simp only[Rep]at ru;subst ru;obtain⟨ks,h2,kr⟩:=hr2 a _ em;refine⟨a,fY ks ky,rfl,by rw[jV rv];exact i4.k h2,?_⟩;rw[(kr.val ky).2];exact k _ M2 _ H2 q2 (e1.trans e2) hr2 (by simp only[Rep])⟩⟩
def Dc(neg:Bool) (t:TAd) (to:TEd):TEd:=fun Δ M Q=>t Δ M fun ds M1=>ds.length<=J3/\to Δ M1 fun x M2=>∃a kvs ks,x=.ref a/\M2 a=some (.dT kvs)/\ds=ks.map kD/\Q (.bl (xor neg (bw kvs ks).isSome)) M2
theorem sS{K:o0}{neg:Bool}:∀ σ H Q,up K (Dc neg t to) σ H Q->Bq neg (Ia (upA K t)) (up K to) σ H Q:=fun σ H Q hup=>hup.el fun Δ M R sr hr q k=>⟨Δ,M,_,sr,hr,q,fun ds M1 vs H1 ⟨z,q1⟩ e1 hr1 rv=>⟨by rw[<-rv.length];exact z,fun p hp=>⟨Δ,M1,_,(sr.ext e1).ext (Ext.new hr1 hp),hr1.new hp,q1,fun x M2 u H2 ⟨a,kvs,ky,ex,em,ey,q2⟩ e2 hr2 ru=>by
  subst ex;subst ey;simp only[Rep]at ru;subst ru;obtain⟨ks,h2,kr⟩:=hr2 a _ em;have eb:=(e2 p _ aB (hr1.fresh hp)).1;rw[jh rv]at eb;refine⟨a,fY ks ky,rfl,i4.t h2 eb,?_⟩;rw[(kr.val ky).2];exact k _ M2 _ H2 q2 ((e1.trans (Ext.new hr1 hp)).trans e2) hr2 (by simp only[Rep])⟩⟩⟩
theorem GO{K:o0}{te:TEd}{tv:TE}(h:∀ σ H Q,up K te σ H Q->tv σ H Q):∀ σ H Q,upT K (nK te) σ H Q->tB tv σ H Q:=fun σ H Q hup=>hup.el fun Δ M R sr hr q k =>
 h σ H _ ⟨Δ,M,_,sr,hr,q,fun d M1 v H1 ⟨b,e,q1⟩ e1 hr1 rv=>⟨b,by subst e;simpa only[Rep]using rv,k b M1 H1 q1 e1 hr1⟩⟩
def vQ(to ti te:TEd):TSd:=fun E Δ M=>te Δ M fun d M1=>to Δ M1 fun x M2=>ti Δ M2 fun y M3=>∃a kvs k,x=.ref a/\M3 a=some (.dK kvs)/\y=kD k/\kvs.length<J3/\E.nx Δ (av M3 a (.dK (df kvs k d)))
def Dy(to:TEd) (t:TAd) (te:TEd):TSd:=fun E Δ M=>te Δ M fun d M1=>to Δ M1 fun x M2=>t Δ M2 fun ds M3=>ds.length<=J3/\∃a kvs ks,x=.ref a/\M3 a=some (.dT kvs)/\ds=ks.map kD/\kvs.length<J3/\E.nx Δ (av M3 a (.dT (df kvs ks d)))
end
section
variable{X:Cx}{a b c e o:K5}{es:List K5}{te to:TEd}{t:TAd}{pos:Pos}{tg:K5}
noncomputable def xW:List D->Option D
 |[.int i,.int j]=>some (.int (if j<i then j else i))
 |_=>none
theorem DU(hc:X.calm=true):bj X (.builtin "min") xW:=bj.of (yb hc) fun H M xs ds dz Q hr rp e q=>by
 unfold xW at e
 split at e
 ·rename_i i j;cases e;obtain⟨v,w,rfl,r1,r2⟩:=xf rp;rw[dI r1,dI r2];exact⟨i,j,rfl,q _ H (Ext.refl _ _) hr (by simp[Rep])⟩
 ·cases e
noncomputable def dH:List D->Option (List Int)
 |[]=>some []
 |.int i::ds=>(dH ds).map (i::·)
 |_=>none
theorem gJ:∀{ns:List Int},dH (ns.map D.int)=some ns
 |[]=>rfl
 |n::ns=>by simp[dH,gJ (ns:=ns)]
def B8:D->Option D
 |.lst ds=>(dH ds).map fun ns=>.int ns.sum
 |_=>none
theorem D5{ns:List Int}:B8 (.lst (ns.map D.int))=some (.int ns.sum):=by simp[B8,gJ]
theorem jg{K:o0}{M:DH}{H:Hp}:∀{ds:List D}{ns:List Int}{vs:List V}{us:List u8},dH ds=some ns->au K M H ds vs->az vs us->∃xs:Array (Int×Tok),us.toArray=intItems xs/\xs.toList.map (·.1)=ns
 |[],_,_,_,e,h,r=>by
  simp only[dH,P3.injEq]at e;subst e;simp only[au]at h;subst h;cases r;exact⟨#[],by simp[intItems],rfl⟩
 |.int i::ds,ns,vs,us,e,h,r=>by
  simp only[dH]at e;cases q:dH ds with
  |none=>rw[q]at e;cases e
  |some ms =>
   rw[q]at e;cases e;simp only[au]at h;obtain⟨v,ws,rfl,h1,h2⟩:=h;simp only[Rep]at h1;subst h1;cases r with
   |@cons x u xs' us' r1 r2 =>
    obtain⟨t,rfl⟩:=r1;obtain⟨ys,e1,e2⟩:=jg q h2 r2;refine⟨(((i,t)::ys.toList)).toArray,?_,by simp[e2]⟩;have:us'=(intItems ys).toList:=by rw[<-e1]
    rw[this];simp[intItems]
 |.non::_,_,_,_,e,_,_=>by cases e
 |.bl _::_,_,_,_,e,_,_=>by cases e
 |.str _::_,_,_,_,e,_,_=>by cases e
 |.tup _::_,_,_,_,e,_,_=>by cases e
 |.lst _::_,_,_,_,e,_,_=>by cases e
 |.scr _::_,_,_,_,e,_,_=>by cases e
 |.emp::_,_,_,_,e,_,_=>by cases e
 |.box _ _::_,_,_,_,e,_,_=>by cases e
 |.ref _::_,_,_,_,e,_,_=>by cases e
theorem Ha(hc:X.calm=true):bj X (.builtin "sum") (jq B8):=by
 intro ae s σ H M xs us ds dz Q I hr rv rp e k;obtain⟨d,rfl,e0⟩:=bY e;clear e;have e:=e0;clear e0;obtain⟨v,rfl,r⟩:=i7 rp;obtain⟨u,rfl,ru⟩:=az.one rv;cases d with
 |lst ds =>
  simp only[B8]at e;cases q:dH ds with
  |none=>rw[q]at e;cases e
  |some ns =>
   rw[q]at e;cases e;obtain⟨l,vs,rfl,sq,rl⟩:=r;cases ru;obtain⟨its,rv,pl,hz⟩:=I.list (SqL.of sq);obtain⟨ys,e1,e2⟩:=jg q rl rv;refine sum_intListG (xs:=ys) (I.ok.hd hc) (by rw[<-e1];exact pl.isList) fun h' tk t' kk=>?_;have I1:Inv X ae σ H { s with heap:=h',toks:=tk }:=I.kept (t':=tk) kk;refine⟨.int _,H,I1,⟨_,rfl⟩,k _ H (Ext.refl _ _) hr ?_⟩;have e3:preSum (numAt ys) ys.size=ns.sum:=by
    rw[preSum_eq,List.take_of_length_le (by simp),e2]
   rw[e3];simp[Rep]
 |_=>cases e
def HH(to:TEd):TEd:=fun Δ M Q=>to Δ M fun o M1=>∃a ds d,o=.ref a/\M1 a=some (.lst (ds++[d]))/\Q d (av M1 a (.lst ds))
end
structure Ic(X:Cx) (scope:V6) (cl:List (Str×J8)) (ms:List Bool) (ar:List Str):Prop where
 kind:scope.kind=.function
 names:∀y∈scope.names,y.2=.local->scope.names.lookup y.1=some .local
 cellN:∀y∈scope.names,y.2=.cell->scope.names.lookup y.1=some .cell
 clos:closureFor scope X.env=X9 cl
 sub:∀x c,cl.lookup x=some c->X.env.cells.lookup x=some c
 fre:∀x c,cl.lookup x=some c->scope.names.lookup x=some .free
 has:∀x,scope.names.lookup x=some .free->∃c,cl.lookup x=some c
 fr:∀x,scope.names.lookup x=some .free->X.env.scope.names.lookup x=some .cell∨X.env.scope.names.lookup x=some .free
 mask:∀(i:Nat) (x:Str),ms[i]?=some true->X.N[i]?=some x->scope.names.lookup x=some .free
 mlen:ms.length<=X.N.length
section
variable{X:Cx}{tg iter elt:K5}{pos:Pos}{scope:V6}{cl:List (Str×J8)}{ms:List Bool}{ar:List Str}{ifs:List K5}
end
noncomputable def Gk(a:J8) (o:Obj) (ks:List (Key×V)):It :=
 ⟨fun i H=>H a=some (.frz o (.dK ks))/\i<ks.length,fun i H x H'=>H'=H/\∃k v,ks[i]?=some (k,v)/\x=kV k,fun i H=>H a=some (.frz o (.dK ks))/\ks.length<=i⟩
theorem rf{P:L1}{w:O6}{k:Key}{v:u8}(h:(aP P w).is k v=true):aI (kV k) v:=by
 rcases bI (show ni k v=true from h)with⟨i,t,rfl,rfl⟩|⟨x,t,rfl,rfl⟩
 ·exact⟨t,rfl⟩
 ·exact⟨t,rfl⟩
section
variable{X:Cx}{ae:List (J8×Obj)}{σ:St}{H:Hp}{s:J0}{a:J8}{o:Obj}{ks:List (Key×V)}
theorem Inv.freeze(I:Inv X ae σ H s) (e:H a=some (.dK ks)):∃o,s.heap.get? a=some o/\Inv X ae σ (upd H a (.frz o (.dK ks))) s:=by
 obtain⟨o,he⟩:∃o,s.heap.get? a=some o:=by
  obtain⟨_,_,_,_,o,_,_,q,_⟩:=ua I.hok e;exact⟨o,q⟩
 refine⟨o,he,?_⟩;have:=I.write (x:=a) (e:=a) (o:=.frz o (.dK ks)) (h':=s.heap) (t':=s.toks) (by rw[e];exact U8) (.inl rfl) (fun b u _ q=>q) ⟨o,he⟩ ⟨he,ua I.hok e⟩;exact this
theorem xa{ep:Nat}{es:Array ae1}(I:Inv X ae σ H s) (e:H a=some (.frz o (.dK ks))) (hd:o.data=.dict es ep):∃vs,KV ks vs/\s.heap.DictAt (aP X.prog X.w) a vs ep/\(a==S7)=false:=by
 obtain⟨q,hz,hs,vs,rel,o',es',ep',q',c,d',r⟩:=I.hok a _ e;rw[q]at q';cases q';rw[hd]at d';cases d';exact⟨vs,rel,⟨o,es,q,c,hd,r⟩,hs⟩
theorem xY{P:L1}{w:O6}{K:o0}{tg:K5}(it:J8) {ep:Nat}{es:Array ae1}(hd:o.data=.dict es ep):jS P w K tg (Gk a o ks) [it] it (fun i h=>h.IsKeyIter it a i ks.length ep) where
 mem:=by simp
 obj:=fun i h st b hb=>by
  have e:b=it:=by simpa using hb
  subst e;obtain⟨o,e,c,d⟩:=st;exact⟨o,e,fun v z=>by rw[d]at z;cases z⟩
 keep:=fun i h h' st k=>st.at fun o e=>k it (by simp) o e
 item:=by
  intro X hP hw hK hc i ae s σ H E I hf st hg;subst hP hw hK;obtain⟨e,hi⟩:=hg;obtain⟨vs,rel,da,hs⟩:=xa I e hd;obtain⟨f0,f1,f2,f3,f4,f5⟩:=hf it (by simp);have hl:ks.length=vs.length:=rel.length;obtain⟨⟨k,x⟩,hx⟩:∃p,vs[i]?=some p:=⟨vs[i],by simp[show i<vs.length by omega]⟩;rw[hl]at st;refine wpAny_pyNext_dict_item st da hx fun key h' hkey hit' hs'=>?_;have I1:Inv X ae σ H { s with heap:=h' }:=I.turned (t':=s.toks) (fun b o hb e=>hs'.extBut b o hb e) f0 f1 f3 f4 f5;obtain⟨k',v',hk'⟩:∃k' v',ks[i]?=some (k',v'):=⟨ks[i].1,ks[i].2,by simp[hi]⟩;have ek:k'=k:=by
   have q:=rel.keys;have q1:=congrArg (fun l=>l[i]?) q;simp only[Q9,hk',hx,W8]at q1;exact N4 q1
  subst ek;obtain⟨ob,e1,c1,d1⟩:=id hit';rw[<-hl]at hit';exact⟨key,rfl,o8 (s:={ s with heap:=h' }) e1 c1 d1 (by decide) ⟨kV k',H,I1,rf hkey,⟨rfl,k',v',hk',rfl⟩,hit',fun b hb=>(hf b hb).1⟩⟩
 done:=by
  intro X hP hw hK hc i ae s σ H E I hf st hg;subst hP hw hK;obtain⟨e,hi⟩:=hg;obtain⟨vs,rel,da,hs⟩:=xa I e hd;obtain⟨f0,f1,f2,f3,f4,f5⟩:=hf it (by simp);have hl:ks.length=vs.length:=rel.length;rw[hl]at st;exact wpAny_pyNext_dict_end (I.ok.hd hc) st da (by simp;omega) fun h' eb=>⟨rfl,I.turned (t':=s.toks) (fun b o hb e=>eb b o hb e) f0 f1 f3 f4 f5⟩
 self:=fun _ _ _ _ _ st h=>wpAny_pyIter_keyiter st h
end
section
variable{X:Cx}{tg l:K5}{tl:TE}{te:TEd}
def iDk(tl:TE):TI:=fun σ H R=>tl σ H fun x H1=>∃a ks,x=.ref a/\H1 a=some (.dK ks)/\∀o,R (Gk a o ks) (upd H1 a (.frz o (.dK ks)))
theorem He(hl:PE X l tl):PI X tg l (iDk tl):=by
 intro ae s σ H R I h;refine thn (hl ae s σ H _ I h) fun v s1 hup=>hup.el fun x H1 I1 r1 q1=>?_;obtain⟨a,ks,e,ea,q⟩:=q1;subst e;cases r1;obtain⟨o,ho,I2⟩:=I1.freeze ea;obtain⟨_,hs,vs,rel,o',es,ep,q',c,hd,r⟩:=ua I1.hok ea;rw[ho]at q';cases q';have da:s1.heap.DictAt (aP X.prog X.w) a vs ep:=⟨o,es,ho,c,hd,r⟩;refine wpAny_pyIter_dict hs da ?_;have bp:vs.length=ks.length:=rel.length.symm;refine⟨s1.heap.objs.size,[s1.heap.objs.size],_,_,_,rfl,I2.kept (t':=s1.toks) fun b o e=>J1 _ e,xY _ hd,?_,fun b hb=>?_,q o⟩
 ·rw[bp];exact⟨_,J9 _ rfl,rfl,rfl⟩
 ·have e:b=s1.heap.objs.size:=by simpa using hb
  subst e;exact I2.fpOk (J6 _) (I2.hok.fresh (J6 _))
def Hq(te:TEd):TId:=fun Δ M R=>te Δ M fun d M1=>∃a kvs,d=.ref a/\M1 a=some (.dK kvs)/\R (kvs.map fun p=>kD p.1) (fZ M1 a)
theorem KR.keys{K:o0}{M:DH}{H:Hp}{κ:Type}{kvs:List (κ×D)}{ks:List (κ×V)}(h:KR K M H kvs ks):kvs.map (·.1)=ks.map (·.1):=by
 unfold KR at h
 induction h with
 |nil=>rfl
 |cons r _ ih=>rw[L7,L7,ih,r.1]
theorem gR{K:o0}{M:DH}{H:Hp}{k:Key}:Rep K M H (kD k) (kV k):=by cases k<;>simp[kD,kV,Rep]
end
theorem iq{prog:L1}{w:O6}{A:N1}{R:ae2->J0->Prop}{s:J0}{kx vx target iter:K5}{scope:V6}{pos:Pos}{it:u8}{D:J8}{env:Env}(I:Nat->J0->Prop)
  (turn:∀ n s,I n s → K4 (K7 prog w) A (pyNext it) (fun r s₁ => match r with
   |none=>R (.ok .next) s₁
   | some v => K4 (K7 prog w) A (U5 target it v) (fun _ s₁ => K4 (K7 prog w) A (Z6 target env v) (fun _ s₂ =>
     K4 (K7 prog w) A (V3 kx env) (fun kv s₄=>K4 (K7 prog w) A (V3 vx env) (fun vv s₅ =>
       K4 (K7 prog w) A (dictSet D kv vv) (fun _ s₆=>∃m,m<n/\I m s₆) (fun _ _=>False) s₅) (fun _ _=>False) s₄) (fun _ _=>False) s₂) (fun _ _=>False) s₁) (fun _ _=>False) s₁) (fun _ _=>False) s)
  (n:Nat) (h:I n s) :
  V2 (K7 prog w) A (.compLoop (.DictComp kx vx [⟨target,iter,[],0⟩] scope pos) 0 it (.ref D) env) R s:=by
 refine codeAny_loop rfl I (fun n s hI=>?_) n h;show K4 _ A ((compTurn (.DictComp kx vx [⟨target,iter,[],0⟩] scope pos) 0 it (.ref D) env).onRaise (fun x=>do noteFrame x env;theTreesLotGoes x)) _ _ s;refine wpAny_noted ?_;rw[compTurn_dict];refine I0 (U7 (I0 (L8 (turn n s hI) (fun r s₁ h₁=>?_) fun _ _ h'=>h'.elim)));cases r with
 |none=>exact J5 h₁
 |some v =>
  refine I0 (L8 h₁ (fun _ s1 h₁=>?_) fun _ _ h'=>h'.elim);refine I0 (L8 h₁ (fun _ s₂ h₂=>I0 (wpAny_tests_nil ?_)) fun _ _ h'=>h'.elim);exact I0 (I0 (L8 h₂ (fun kv s₄ h₄=>I0 (S2 (L8 h₄ (fun vv s₅ h₅=>I0 (U7 (S2 (L8 h₅ (fun _ s₆ h₆=>J5 ⟨rfl,h₆⟩) fun _ _ h'=>h'.elim)))) fun _ _ h'=>h'.elim))) fun _ _ h'=>h'.elim))
section
variable{X:Cx}{ae:List (J8×Obj)}{σ σ':St}{H2 H':Hp}{s2 s':J0}{scope:V6}{cl:List (Str×J8)}{ms:List Bool}{ar:List Str}{tg iter kx vx:K5}{g:TG}{tk tv:TE}{pos:Pos}
def tO(D:J8) (J:It) (g:TG) (tk tv:TE) (W:Nat->Nat->St->Hp->Prop) (Z:Hp->Prop):Prop :=
 ∀i m σ H,W i m σ H->(J.stop i H/\Z H) ∨
  (J.go i H/\∀x H',J.yld i H x H'->g x σ H' fun σ2 H2=>tk σ2 H2 fun y H3=>tv σ2 H3 fun v H4=>∃H5,(∃kvs k b,H4 D=some (.dT kvs)/\y=.ref b/\H4 b=some (.tup (k.map kV))/\kvs.length<J3/\H5=upd H4 D (.dT (dv kvs k v)))/\∃m',m'<m/\W (i+1) m' σ2 H5)
theorem yH{E:u8->J0->Prop}{X:Cx}{A:N1}{ae:List (J8×Obj)}{σ:St}{H:Hp}{s:J0}{D b:J8}{kvs:List (List Key×V)}{k:List Key}{v:V}{r:u8}{Q:Unit->J0->Prop}(hu:A.units<aa1) (I:Inv X ae σ H s) (e:H D=some (.dT kvs)) (eb:H b=some (.tup (k.map kV))) (l:kvs.length<J3)
  (rv:aI v r) (h:∀s',Inv X ae σ (upd H D (.dT (dv kvs k v))) s'->Q () s'):K4 (K7 X.prog X.w) A (dictSet D (.ref b) r) Q E s:=by
 obtain⟨z,hd,xs,rel,dd⟩:=AN I.hok e;have hz:xs.length<=J3:=by rw[<-Z1 rel];exact z
 have hl:(dv kvs k v).length<=J3:=by have:=fW kvs k v;exact L5 (by assumption) (by assumption)
 refine wpAny_dictSet_heap (hsz:=hz) hu (iZ I.hok eb) dd fun h' dd' hs=>h _ ?_;obtain⟨q,es,ep,hq,h2,h3,h4,_,h5⟩:=dd';refine iC I (by rw[e];exact U8) hs ⟨q,hq⟩ ⟨hl,hd,_,(rel.put k eb rv).keeps fun c ys ec=>?_,q,es,ep,hq,h2,h3,h4,h5⟩;rw[aL (A5 ec e (fun z=>nomatch z))];exact ec
theorem uA(hu:X.A.units<aa1) (S:dN X scope cl ms ar) (cV:X.calm=true)
  (hg:∀C s H ex,PG (aA X scope cl (X.N++ar) C s H ex) tg g) (hk:∀C s H ex,PE (aA X scope cl (X.N++ar) C s H ex) kx tk) (hv:∀C s H ex,PE (aA X scope cl (X.N++ar) C s H ex) vx tv)
  (I2:Inv X ae σ H2 s2) {it:J8} {fp:List J8} {tn:Nat->L6->Prop} {J:It} (T:jS X.prog X.w X.K tg J fp it tn) (st2:tn 0 s2.heap) (f2:∀b∈fp,du X ae H2 b)
  {D:J8} {W:Nat->Nat->St->Hp->Prop} {Z:Hp->Prop} {m0:Nat} (w0:W 0 m0 (gh ms ar.length σ) H2) (turn:tO D J g tk tv W Z)
  {RR:J8->ae2->J0->Prop} {E:u8->J0->Prop}
  (hRR:∀(s':J0) (σ':St) (H':Hp),Inv (aA X scope cl (X.N++ar) s2.heap.objs.size s2 H2 fp) [] σ' H' s'->Z H'->RR s2.heap.objs.size (.ok .next) s') :
  K4 (K7 X.prog X.w) X.A (newFunctionEnv scope X.env.globals cl [] X.env.qual none .none (some X.env)) (fun cenv s₄ =>
   V2 (K7 X.prog X.w) X.A (.compStart (.DictComp kx vx [⟨tg,iter,[],0⟩] scope pos) 0 (.ref it) (.ref D) { cenv with scope:=relabel scope X.env }) (RR cenv.locals) s₄) E s2:=by
 refine wpAny_newFunctionEnv S.ncell (by intro y hy;simp at hy) (fun h₁ hns₁ hsb₁=>?_) S.kind
 try dsimp only at hns₁ hsb₁ ⊢
 have hlt:∀b∈fp,b<s2.heap.objs.size:=fun b hb=>by
  obtain⟨o,e,_⟩:=T.obj _ _ st2 b hb;exact J7 e
 have old:∀b o,s2.heap.get? b=some o->h₁.get? b=some o:=fun b o e=>hsb₁.extBut b o (K3 (J7 e)) (J1 _ e);have loop:∀s₃:J0,s₃={ s2 with heap:=h₁,toks:=s2.toks+([]:List (Str×u8)).length } ->
   V2 (K7 X.prog X.w) X.A (.compLoop (.DictComp kx vx [⟨tg,iter,[],0⟩] scope pos) 0 (.ref it) (.ref D) (compEnvC scope cl s2.heap.objs.size X.env)) (RR s2.heap.objs.size) s₃:=by
  rintro s₃ rfl;have I3:Inv (aA X scope cl (X.N++ar) s2.heap.objs.size s2 H2 fp) [] (gh ms ar.length σ) H2 { s2 with heap:=h₁,toks:=s2.toks+([]:List (Str×u8)).length } :=
   wz I2 S f2 hlt (J6 _) rfl I2.bare old hns₁
  have fpc:∀{H:Hp},(∀b∈fp,H b=none)->∀b∈fp,du (aA X scope cl (X.N++ar) s2.heap.objs.size s2 H2 fp) [] H b:=fun hn b hb =>
   ⟨hn b hb,K3 (hlt b hb),(uY I2 S f2 hlt (J6 _)).exfs b hb,.inl hb,fun x c e=>(f2 b hb).2.2.2.2.1 x c (S.sub x c e),fun p hp=>absurd (show p∈([]:List (J8×Obj))from hp) (by simp)⟩
  refine iq (env:=compEnvC scope cl s2.heap.objs.size X.env)
   (fun n s'=>∃i σ' H',Inv (aA X scope cl (X.N++ar) s2.heap.objs.size s2 H2 fp) [] σ' H' s'/\tn i s'.heap/\(∀b∈fp,H' b=none)/\W i n σ' H') ?_ m0
   ⟨0,_,H2,I3,T.keep _ _ _ st2 fun b _ o e=>old b o e,fun b hb=>(f2 b hb).1,w0⟩
  rintro n s' ⟨i,σ',H',I4,st4,fr4,w4⟩;rcases turn i n σ' H' w4 with⟨stop,hZ⟩|⟨go,step⟩
  ·refine thn (T.done (aA X scope cl (X.N++ar) s2.heap.objs.size s2 H2 fp) rfl rfl rfl cV i _ s' _ H' (fun _ _=>False) I4 (fpc fr4) st4 stop) fun r s4 ⟨hr,I5⟩=>?_;subst hr;exact hRR s4 σ' H' I5 hZ
  ·refine thn (T.item (aA X scope cl (X.N++ar) s2.heap.objs.size s2 H2 fp) rfl rfl rfl cV i _ s' _ H' (fun _ _=>False) I4 (fpc fr4) st4 go) fun r s5 ⟨u,hr,h5⟩=>?_;subst hr;refine thn h5 fun _ s6 ⟨x,H6,I6,r6,y6,st6,fr6⟩=>?_;have I6':=I6.pinned (fpc fr6) (T.obj _ _ st6);refine thn (hg _ _ _ _ _ s6 _ H6 x u _ I6' r6 (step x H6 y6)) fun _ s7 ⟨σ7,H7,I7,q7⟩=>?_;refine thn (hk _ _ _ _ _ s7 σ7 H7 _ I7 q7) fun kv s8 hup=>hup.el fun y H8 I8 r8 q8=>?_;refine thn (hv _ _ _ _ _ s8 σ7 H8 _ I8 q8) fun vv s9 hup=>hup.el fun v H9 I9 r9 q9=>?_;obtain⟨H10,⟨kvs,k,b,eD,ey,eb,hl,eH⟩,m',hm,w9⟩:=q9;subst ey;cases(show kv=N3 b from r8);refine yH (A:=X.A) (X:=aA X scope cl (X.N++ar) s2.heap.objs.size s2 H2 fp) hu I9 eD eb hl r9 fun s10 I10=>?_;rw[<-eH]at I10;have keepfp:tn (i+1) s10.heap/\∀b∈fp,H10 b=none :=
    ⟨T.keep _ _ _ st6 fun b hb o e=>(I10.pin (b,o) (K0 _ (K0 _ (dM hb e)))).1,fun b hb=>by
     obtain⟨o,e,d⟩:=T.obj _ _ st6 b hb;exact(I10.pin (b,o) (K0 _ (K0 _ (dM hb e)))).2.1⟩
   exact⟨m',hm,i+1,σ7,H10,I10.unpinned,keepfp.1,keepfp.2,w9⟩
 exact codeAny_compStart_dict (loop _ rfl) (T.self _ 0 _ _ _ (T.keep _ _ _ st2 fun b _ o e=>old b o e) (loop _ rfl))
theorem vi(I2:Inv X ae σ H2 s2) {fp:List J8}(f2:∀b∈fp,du X ae H2 b)
  (I':Inv (aA X scope cl (X.N++ar) s2.heap.objs.size s2 H2 fp) [] σ' H' s') {h':L6} (hs:S1 s2.heap.objs.size s'.heap h') :
  Inv X ae σ H' { s' with heap:=h' }:=by
 have hC:H' s2.heap.objs.size=none:=I'.free;have up:∀b o,b≠s2.heap.objs.size->s'.heap.get? b=some o->h'.get? b=some o:=fun b o hb e=>(hs.2 b hb).trans e;have nC:∀b u,H' b=some u->b≠s2.heap.objs.size:=fun b u e z=>by rw[z,hC]at e;cases e
 have hok:HOk X.prog X.w H' h':=fun b u e=>(I'.hok b u e).stay (fun c v hc q=>up c v (by
   rcases hc with rfl|hc
   ·exact nC _ _ e
   ·exact nC _ _ hc) q) (fun c q=>q) fun c xs q=>q
 have un:Un (frs X.stack) fp H2 H' s2.heap h':=by
  have U:=I'.base;have ltC:∀b o,s2.heap.get? b=some o->b≠s2.heap.objs.size:=fun b o e=>K3 (J7 e);refine⟨fun b o e nb hb hx=>up b o (ltC b o e) (U.keep b o e nb hb hx),fun b o e nb hb hx=>?_,U.free,fun b o e hx=>?_,U.tups,U.frzs,U.tbls⟩
  ·obtain⟨sl,q⟩:=U.slot b o e nb hb hx;exact⟨sl,up b _ (ltC b o e) q⟩
  ·obtain⟨o',q⟩:=U.there b o e hx;exact⟨o',up b _ (ltC b o e) q⟩
 exact I2.call' (s':={ s' with heap:=h' }) (ch:=fp) I'.os un hok I'.bare fun b hb=>⟨(f2 b hb).2.2.2.1,(f2 b hb).2.1,(f2 b hb).2.2.2.2.1,(f2 b hb).2.2.2.2.2⟩
def tDc(ms:List Bool) (k:Nat) (wi:TI) (g:TG) (tk tv:TE):TE:=fun σ H Q=>wi σ H fun J H1=>∀p,H1 p=none->∃(W:Nat->Nat->St->Hp->Prop) (Z:Hp->Prop),(∃m,W 0 m (gh ms k σ) (upd H1 p (.dT [])))/\tO p J g tk tv W Z/\∀H,Z H->Q (.ref p) H
end
end L2
namespace L2
open PySem PySem.W PyProof.Rows
section
variable{α β:Type}
def tw(n:Nat) (lt:Nat->Nat->Bool):KasT α->(α->Prop)->Prop
 |.ret a,Q=>Q a
 |.ask i j k,Q=>i<n/\j<n/\tw n lt (k (lt i j)) Q
theorem jl{n:Nat}{lt:Nat->Nat->Bool}{f:α->KasT β}{Q:β->Prop}:∀{t:KasT α},tw n lt t (fun a=>tw n lt (f a) Q)->tw n lt (t.bind f) Q
 |.ret _,h=>h
 |.ask _ _ _,h=>⟨h.1,h.2.1,jl h.2.2⟩
theorem zH{n:Nat}{lt:Nat->Nat->Bool}{cmp:Nat->Nat->(Bool->Shared->Prop)->Shared->Prop}{J:Shared->Prop}(hc:∀i j C s,i<n->j<n->J s->(∀s',J s'->C (lt i j) s')->cmp i j C s) {Q:α->Prop}{G:α->Shared->Prop}(hG:∀a s,J s->Q a->G a s) :
  ∀{t:KasT α} {s:Shared},tw n lt t Q->J s->t.kasWp cmp G s
 |.ret _,s,h,hj=>hG _ s hj h
 |.ask i j k,s,h,hj=>hc i j _ s h.1 h.2.1 hj fun s' hj'=>zH hc hG h.2.2 hj'
variable{O:KeyOrd}{key:Nat->O.α}{n:Nat}
noncomputable def eO(O:KeyOrd) (key:Nat->O.α) (i j:Nat):Bool:=O.blt (key i) (key j)
noncomputable def DR(O:KeyOrd) (key:Nat->O.α):KeyKind:={ O with keyOf:=fun v=>match v with|.int i _=>some (key i.toNat)|_=>none,dflt:=key 0 }
noncomputable def oS(p:Array Nat):Array Keyed:=p.map fun(i:Nat)=>((Value.int (i:Int) 0,Value.none):Keyed)
noncomputable def kp(O:KeyOrd) (key:Nat->O.α) (p:Array Nat) (i:Nat):O.α:=key (p.getD i 0)
theorem oC{p:Array Nat}{i:Nat}(h:i<p.size):KK (DR O key) (oS p) i=kp O key p i:=by
 unfold KK kp oS;rw[Array.getElem?_map,Array.getElem?_eq_getElem h];simp[DR,Array.getD,h]
theorem Cs{p:Array Nat}{i j:Nat}:oS (kas_rev p i j)=mirror (oS p) i j ((j-i) / 2):=by
 unfold oS kas_rev mirror;exact(kas_swaps_map _ _ _ _ _).symm
theorem C2{p:Array Nat}{k d:Nat}:oS (bubble p k d)=bubble (oS p) k d:=by
 unfold oS bubble;exact(kas_swaps_map _ _ _ _ _).symm
theorem tY{p:Array Nat}:(oS p).size=p.size:=by simp[oS]
theorem Bn{p:Array Nat}{i j:Nat}:(kas_rev p i j).size=p.size:=mirror_size _ _ _ _
theorem vh{p:Array Nat}{i j k:Nat}(hj:j<=p.size) (hk:k<p.size):kp O key (kas_rev p i j) k=if i<=k/\k<j then kp O key p (i+j-1-k)else kp O key p k:=by
 rw[<-oC (by rw[Bn];exact hk),Cs,KK_mirror (by rw[tY];exact hj)]
 by_cases h:i<=k/\k<j
 ·rw[if_pos h,if_pos h,oC (by omega)]
 ·rw[if_neg h,if_neg h,oC hk]
theorem yU{p:Array Nat}{src d k:Nat}(hs:src<p.size) (hd:d<=src) (hk:k<p.size):kp O key (bubble p src d) k=if k=src-d then kp O key p src else if src-d<k/\k<=src then kp O key p (k-1)else kp O key p k:=by
 rw[<-oC (by rw[bubble_size];exact hk),C2,KK_bubble (by rw[tY];exact hs) hd]
 by_cases h1:k=src-d
 ·rw[if_pos h1,if_pos h1,oC hs]
 ·rw[if_neg h1,if_neg h1]
  by_cases h2:src-d<k/\k<=src
  ·rw[if_pos h2,if_pos h2,oC (by omega)]
  ·rw[if_neg h2,if_neg h2,oC hk]
def cS(n:Nat) (p:Array Nat):Prop:=p.toList.Perm (List.range n)
theorem cS.size{p:Array Nat}(h:cS n p):p.size=n:=by
 have:=h.length_eq;simpa using this
theorem cS.lt{p:Array Nat}(h:cS n p) {i:Nat}(hi:i<n):p.getD i 0<n:=by
 have hs:=h.size;have e:p.getD i 0=p.toList[i]'(by simp;omega):=by simp[Array.getD,show i<p.size by omega]
 rw[e];exact List.mem_range.mp (h.mem_iff.mp (List.getElem_mem _))
theorem cS.rev{p:Array Nat}(h:cS n p) (i j:Nat):cS n (kas_rev p i j):=(Array.perm_iff_toList_perm.mp (mirror_perm p i j _)).trans h
theorem cS.bub{p:Array Nat}(h:cS n p) (i j:Nat):cS n (bubble p i j):=(Array.perm_iff_toList_perm.mp (bubble_perm p i j)).trans h
def dw(O:KeyOrd) (key:Nat->O.α) (p:Array Nat) (k:Nat):Prop:=∀i j,i<=j->j<k->O.kle (kp O key p i) (kp O key p j)
def cJ(O:KeyOrd) (key:Nat->O.α) (p:Array Nat) (k:Nat):Prop:=∀i j,i<=j->j<k->O.kle (kp O key p j) (kp O key p i)
theorem dw.more{p:Array Nat}{x:Nat}(h:dw O key p x) (hx:1<=x) (le:O.kle (kp O key p (x-1)) (kp O key p x)):dw O key p (x+1):=fun i j hij hj=>by
 rcases Nat.lt_or_ge j x with h1|h1
 ·exact h i j hij h1
 ·obtain rfl:j=x:=by omega
  rcases Nat.lt_or_ge i j with h2|h2
  ·exact KeyOrd.kle_trans (h i (j-1) (by omega) (by omega)) le
  ·obtain rfl:i=j:=by omega
   exact KeyOrd.kle_refl _
theorem cJ.more{p:Array Nat}{x:Nat}(h:cJ O key p x) (hx:1<=x) (le:O.kle (kp O key p x) (kp O key p (x-1))):cJ O key p (x+1):=fun i j hij hj=>by
 rcases Nat.lt_or_ge j x with h1|h1
 ·exact h i j hij h1
 ·obtain rfl:j=x:=by omega
  rcases Nat.lt_or_ge i j with h2|h2
  ·exact KeyOrd.kle_trans le (h i (j-1) (by omega) (by omega))
  ·obtain rfl:i=j:=by omega
   exact KeyOrd.kle_refl _
theorem vz{p:Array Nat}(hp:cS n p):∀{f a:Nat}{Q:Nat->Prop},1<=a->a+f<=n->dw O key p a ->
  (∀m,a<=m->m<=a+f->dw O key p m->(m=a+f∨O.klt (kp O key p m) (kp O key p (m-1)))->Q m)->tw n (eO O key) (kas_asc p f a) Q
 |0,a,Q,h1,h2,hs,k=>k a (Nat.le_refl _) (Nat.le_refl _) hs (.inl rfl)
 |f+1,a,Q,h1,h2,hs,k=>by
  refine⟨hp.lt (by omega),hp.lt (by omega),?_⟩;cases q:eO O key (p.getD a 0) (p.getD (a-1) 0)with
  |true=>exact k a (Nat.le_refl _) (by omega) hs (.inr q)
  |false=>exact vz hp (by exact Nat.le_succ_of_le (by assumption)) (by omega) (hs.more h1 q) fun m m1 m2 ms mo=>k m (by exact Nat.le_of_lt (by assumption)) (by omega) ms (mo.imp (fun e=>by omega) id)
theorem kZ{p:Array Nat}{i j:Nat}(hj:j<=p.size) (he:∀k,i<=k->k<j->kp O key p k=kp O key p (j-1)) {k:Nat}(hk:k<p.size):kp O key (kas_rev p i j) k=kp O key p k:=by
 rw[vh hj hk]
 by_cases h:i<=k/\k<j
 ·rw[if_pos h,he _ (by omega) (by omega),he k h.1 h.2]
 ·rw[if_neg h]
theorem mS:∀{f:Nat}{p:Array Nat}{x q:Nat}{Q:Array Nat×Nat×Nat->Prop},cS n p->1<=x->x+f<=n->cJ O key p x->q+1<=x->(∀i,x-(q+1)<=i->i<x->kp O key p i=kp O key p (x-1)) ->
  (∀p' m q',cS n p'->1<=m->m<=x+f->cJ O key p' m->q'+1<=m->(∀i,m-(q'+1)<=i->i<m->kp O key p' i=kp O key p' (m-1))->Q (p',m,q'))->tw n (eO O key) (kas_desc f p x q) Q
 |0,p,x,q,Q,hp,h1,h2,hs,hq,he,k=>k p x q hp h1 (Nat.le_refl _) hs hq he
 |f+1,p,x,q,Q,hp,h1,h2,hs,hq,he,k=>by
  have hz:=hp.size;refine⟨hp.lt (by omega),hp.lt (by omega),?_⟩;cases c:eO O key (p.getD x 0) (p.getD (x-1) 0)with
  |true =>
   have lt:O.klt (kp O key p x) (kp O key p (x-1)):=c;simp only[if_true]
   by_cases h0:q > 0
   ·rw[if_pos h0];have same:∀{i},i<n->kp O key (kas_rev p (x-(q+1)) x) i=kp O key p i:=fun hi=>kZ (by omega) he (by omega);refine mS (hp.rev _ _) (by exact Nat.le_succ_of_le (by assumption)) (by omega) ?_ (by exact Nat.le_succ_of_le (by assumption)) (fun i i1 i2=>by obtain rfl:i=x:=(by omega);rfl) fun p' m q' a b c' d e g=>k p' m q' a b (by omega) d e g;refine cJ.more (fun i j hij hj=>?_) h1 ?_
    ·rw[same (by omega),same (by omega)];exact hs i j hij hj
    ·rw[same (by omega),same (by omega)];exact KeyOrd.kle_of_klt lt
   ·rw[if_neg h0];exact mS hp (by exact Nat.le_succ_of_le (by assumption)) (by omega) (hs.more h1 (KeyOrd.kle_of_klt lt)) (by exact Nat.le_succ_of_le (by assumption)) (fun i i1 i2=>by obtain rfl:i=x:=(by omega);rfl) fun p' m q' a b c' d e g=>k p' m q' a b (by omega) d e g
  |false =>
   simp only[Bool.false_eq_true,if_false];refine⟨hp.lt (by omega),hp.lt (by omega),?_⟩;cases c2:eO O key (p.getD (x-1) 0) (p.getD x 0)with
   |true=>exact k p x q hp h1 (by omega) hs hq he
   |false =>
    simp only[Bool.false_eq_true,if_false];have eq:kp O key p x=kp O key p (x-1):=O.total _ _ c c2;refine mS hp (by exact Nat.le_succ_of_le (by assumption)) (by omega) (hs.more h1 c2) (by omega) (fun i i1 i2=>?_) fun p' m q' a b c' d e g=>k p' m q' a b (by omega) d e g;rw[show x+1-1=x by omega];rcases Nat.lt_or_ge i x with h|h
    ·rw[eq];exact he i (by omega) h
    ·obtain rfl:i=x:=by omega
     rfl
theorem vU{p:Array Nat}{m nrem:Nat}{Q:Nat×Array Nat->Prop}(hp:cS n p) (h1:1<=m) (h2:m<=nrem) (h3:nrem<=n) (hs:cJ O key p m)
  (k:∀m' p',cS n p'->1<=m'->m'<=nrem->dw O key p' m'->Q (m',p')):tw n (eO O key) (kas_tail3 m nrem p) Q:=by
 have hz:=hp.size;unfold kas_tail3;refine jl (vz (hp.rev 0 m) h1 (by omega) (fun i j hij hj=>?_) fun m' a b c _=>k m' _ (hp.rev 0 m) (by exact Nat.lt_of_lt_of_le (by assumption) (by assumption)) (by omega) c);rw[vh (by omega) (by omega),vh (by omega) (by omega),if_pos ⟨by exact Nat.zero_le _,by omega⟩,if_pos ⟨by exact Nat.zero_le _,by assumption⟩];exact hs _ _ (by omega) (by omega)
theorem mh{p:Array Nat}{m nrem:Nat}{Q:Nat×Array Nat->Prop}(hp:cS n p) (h2:m+1<=nrem) (h3:nrem<=n) (hs:cJ O key p (m+1))
  (k:∀m' p',cS n p'->1<=m'->m'<=nrem->dw O key p' m'->Q (m',p')):tw n (eO O key) (kas_descPart m nrem p) Q:=by
 unfold kas_descPart;refine jl (mS hp (by omega) (by omega) hs (by omega) (fun i i1 i2=>by obtain rfl:i=m:=(by omega);rfl) fun p' x q' hp' x1 x2 hs' hq he=>?_);have hz:=hp'.size;dsimp only
 by_cases h0:q' > 0
 ·rw[if_pos h0];refine vU (hp'.rev _ _) x1 (by omega) h3 (fun i j hij hj=>?_) k;rw[kZ (by omega) he (by omega),kZ (by omega) he (by omega)];exact hs' i j hij hj
 ·rw[if_neg h0];exact vU hp' x1 (by omega) h3 hs' k
theorem A9{p:Array Nat}{nrem:Nat}{Q:Nat×Array Nat->Prop}(hp:cS n p) (h1:1<=nrem) (h3:nrem<=n)
  (k:∀m' p',cS n p'->1<=m'->m'<=nrem->dw O key p' m'->Q (m',p')):tw n (eO O key) (kas_count nrem p) Q:=by
 have hz:=hp.size;unfold kas_count;refine jl (vz hp (Nat.le_refl 1) (by omega) (fun i j hij hj=>by obtain rfl:i=j:=(by omega);exact KeyOrd.kle_refl _) fun m m1 m2 ms mo=>?_)
 by_cases e:m=nrem
 ·rw[if_pos (by simpa using e)];exact k m p hp m1 (by omega) ms
 ·rw[if_neg (by simpa using e)];have lt:O.klt (kp O key p m) (kp O key p (m-1)):=mo.resolve_left (by omega)
  by_cases g:m > 1
  ·rw[if_pos g];refine⟨hp.lt (by omega),hp.lt (by omega),?_⟩;cases c:eO O key (p.getD 0 0) (p.getD (m-1) 0)with
   |true=>exact k m p hp m1 (by omega) ms
   |false =>
    simp only[Bool.false_eq_true,if_false];have like:∀i,0<=i->i<m->kp O key p i=kp O key p (m-1):=fun i _ hi =>
     KeyOrd.kle_antisymm (ms i (m-1) (by omega) (by omega)) (KeyOrd.kle_trans (show O.kle (kp O key p (m-1)) (kp O key p 0)from c) (ms 0 i (by assumption) hi))
    have same:∀{i},i<n->kp O key (kas_rev p 0 m) i=kp O key p i:=fun hi=>kZ (by omega) like (by omega);refine mh (hp.rev _ _) (by omega) h3 (cJ.more (fun i j hij hj=>?_) m1 ?_) k
    ·rw[same (by omega),same (by omega),like i (by exact Nat.zero_le _) (by omega),like j (by exact Nat.zero_le _) hj];exact KeyOrd.kle_refl _
    ·rw[same (by omega),same (by omega)];exact KeyOrd.kle_of_klt lt
  ·rw[if_neg g];obtain rfl:m=1:=by omega
   refine mh hp (by omega) h3 (cJ.more (fun i j hij hj=>by obtain rfl:i=j:=(by omega);exact KeyOrd.kle_refl _) (Nat.le_refl 1) (KeyOrd.kle_of_klt lt)) k
theorem m6{p:Array Nat}(hp:cS n p) {x:Nat}(hx:x<n) (hs:dw O key p x):∀{f l r:Nat}{Q:Nat->Prop},l<=r->r<=x->r-l<=f ->
  (∀i,i<l->O.kle (kp O key p i) (kp O key p x))->(∀i,r<=i->i<x->O.klt (kp O key p x) (kp O key p i)) ->
  (∀l',l'<=x->(∀i,i<l'->O.kle (kp O key p i) (kp O key p x))->(∀i,l'<=i->i<x->O.klt (kp O key p x) (kp O key p i))->Q l')->tw n (eO O key) (kas_place p x f l r) Q
 |0,l,r,Q,h1,h2,h3,a,b,k=>by
  obtain rfl:l=r:=by omega
  exact k l h2 a b
 |f+1,l,r,Q,h1,h2,h3,a,b,k=>by
  unfold kas_place
  by_cases g:l>=r
  ·rw[if_pos g];obtain rfl:l=r:=by omega
   exact k l h2 a b
  ·rw[if_neg g];refine⟨hp.lt hx,hp.lt (by omega),?_⟩;cases c:eO O key (p.getD x 0) (p.getD ((l+r) / 2) 0)with
   |true =>
    simp only[if_true];exact m6 hp hx hs (by omega) (by omega) (by omega) a (fun i i1 i2=>KeyOrd.klt_of_klt_of_kle (show O.klt (kp O key p x) (kp O key p ((l+r) / 2))from c) (hs _ _ i1 i2)) k
   |false =>
    simp only[Bool.false_eq_true,if_false];exact m6 hp hx hs (by omega) (by assumption) (by omega) (fun i hi=>KeyOrd.kle_trans (hs i ((l+r) / 2) (by omega) (by omega)) (show O.kle (kp O key p ((l+r) / 2)) (kp O key p x)from c)) b k
theorem y9:∀{f:Nat}{p:Array Nat}{x:Nat}{Q:Array Nat->Prop},cS n p->1<=x->x+f<=n->dw O key p x->(∀p',cS n p'->dw O key p' (x+f)->Q p')->tw n (eO O key) (kas_bin f p x) Q
 |0,p,x,Q,hp,_,_,hs,k=>k p hp hs
 |f+1,p,x,Q,hp,h1,h2,hs,k=>by
  have hz:=hp.size;refine jl (m6 hp (by omega) hs (Nat.zero_le _) (Nat.le_refl _) (by exact Nat.le_refl _) (fun i hi=>by omega) (fun i a b=>by omega) fun l hl lo hi=>?_);refine y9 (hp.bub _ _) (by exact Nat.le_succ_of_le (by assumption)) (by omega) (fun i j hij hj=>?_) fun p' a b=>k p' a (by rw[show x+(f+1)=x+1+f by omega];exact b);rw[yU (by omega) (by omega) (by omega),yU (by omega) (by omega) (by omega),show x-(x-l)=l by omega]
  by_cases a1:i=l
  ·rw[if_pos a1]
   by_cases b1:j=l
   ·rw[if_pos b1];exact KeyOrd.kle_refl _
   ·rw[if_neg b1,if_pos (by omega)];exact KeyOrd.kle_of_klt (hi _ (by omega) (by omega))
  ·rw[if_neg a1]
   by_cases a2:l<i/\i<=x
   ·rw[if_pos a2,if_neg (by omega),if_pos (by omega)];exact hs _ _ (by omega) (by omega)
   ·rw[if_neg a2]
    by_cases b1:j=l
    ·rw[if_pos b1];exact lo _ (by omega)
    ·rw[if_neg b1]
     by_cases b2:l<j/\j<=x
     ·rw[if_pos b2];exact hs _ _ (by omega) (by omega)
     ·rw[if_neg b2];exact hs _ _ hij (by omega)
theorem Cj(h:1<=n) {Q:Array Nat->Prop}(k:∀p,cS n p->dw O key p n->Q p):tw n (eO O key) (kas_sort n) Q:=by
 have h0:cS n (List.toArray (List.range n)):=List.Perm.refl _;unfold kas_sort;refine jl (A9 h0 h (Nat.le_refl _) fun m p hp m1 m2 ms=>?_);dsimp only
 by_cases g:m<n
 ·rw[if_pos g];have e:max m 1=m:=by omega
  rw[e];exact y9 hp m1 (by omega) ms fun p' a b=>k p' a (by rwa [show m+(n-m)=n by omega]at b)
 ·rw[if_neg g];obtain rfl:m=n:=by omega
  exact k p hp ms
end
end L2
namespace L2
open PySem PySem.W PySem.Calls PyProof.Rows
section
variable{prog:Program}{w:World}{A:Around}{E:Value->Shared->Prop}{O:KeyOrd}
noncomputable def kE(vs:List Value) (p:Array Nat):List Value:=p.toList.map fun i=>vs.getD i Value.none
theorem p8{vs:List Value}{p:Array Nat}(h:cS vs.length p):(kE vs p).length=vs.length:=by
 unfold kE;rw[List.length_map,Array.length_toList];exact h.size
def wc(x:Addr) (s t:Shared):Prop:=∀b o,b≠x->s.heap.get? b=some o->t.heap.get? b=some o
theorem EK{s:Shared}{x:Addr}{vs:List Value}{n:Nat}{key:Nat->O.α}{κ:SortKind}{P:PySem.Fin->Shared->Prop}(hx:s.heap.get? x=some (seqObj "list" vs.toArray n)) (hz:vs.length<64)
  (hk:∀s1 Q,2<=vs.length->wc x s s1->Q κ s1->wpAny (model prog w) A (keyKind' vs.toArray) Q (fun _ _=>False) s1)
  (hc:∀i j s1 C,i<vs.length->j<vs.length->wc x s s1->C (eO O key i j) s1->kas_ask prog w A κ vs i j C s1)
  (k:∀p c h',cS vs.length p->dw O key p vs.length->(∀b o,b≠x->s.heap.get? b=some o->h'.get? b=some o)->h'.get? x=some (seqObj "list" (kE vs p).toArray c)->P (.done (.ret .none)) { s with heap:=h' }) :
  wpAny (model prog w) A (Builtin.«list.sort» ⟨[.ref x],[]⟩) P E s:=by
 have lx:x<s.heap.objs.size:=Heap.lt_size hx;obtain⟨c1,h1⟩:∃c,(s.heap.update x (Obj.mapSeq fun _=>#[])).get? x=some (seqObj "list" #[] c):=⟨_,get?_update_seq hx (fun _=>#[])⟩;rw[list_sort_plain];refine wpAny_bind (listItems_at hx rfl (wpAny_bind (listUpdate_at hx rfl (wpAny_bind (seqEpoch_at h1 rfl (wpAny_bind (wpAny_newTuple (wpAny_bind (wpAny_newList (wpAny_holding ?_) (Nat.zero_le _))) ?_)))) ?_ (Nat.zero_le _))))
 rotate_left
 ·show vs.length<=_;rw[sizeLine_eq];omega
 ·rw[List.size_toArray,sizeLine_eq];omega
 generalize hh:((s.heap.update x (Obj.mapSeq fun _=>#[])).push (seqObj "tuple" vs.toArray 0)).push (seqObj "list" #[] 0)=h2;show wpAny _ A _ P E { s with heap:=h2 };have g2:h2.get? x=some (seqObj "list" #[] c1):=by
  rw[<-hh];exact Heap.get?_push_of_some _ (Heap.get?_push_of_some _ h1)
 have st:wc x s { s with heap:=h2 }:=fun b o ne e=>by
  show h2.get? b=some o;rw[<-hh];exact Heap.get?_push_of_some _ (Heap.get?_push_of_some _ (by rw[Heap.get?_update_ne _ _ _ _ ne];exact e))
 have fin:∀p,cS vs.length p->dw O key p vs.length->P (.done (.ret .none)) { s with heap:=h2.update x (Obj.mapSeq fun _=>(kE vs p).toArray) }:=fun p hp hr =>
  k p _ _ hp hr (fun b o ne e=>by rw[Heap.get?_update_ne _ _ _ _ ne];exact st b o ne e) (get?_update_seq g2 fun _=>(kE vs p).toArray)
 dsimp only
 by_cases few:vs.toArray.size<2
 ·rw[if_pos few,if_pos few];refine wpAny_bind (wpAny_pure ?_);rw[StateT.run_pure];refine wpAny_bind (wpAny_pure ?_);dsimp only;have few':vs.length<2:=by rw[List.size_toArray]at few;exact few
  have e0:(arrOf (SortSt.mk' general' (vs.toArray.zip vs.toArray) #[] 7 none)).map (·.2)=(kE vs (List.toArray (List.range vs.length))).toArray:=by
   refine kat_snds rfl ?_;have e:=kas_range (vs.toArray.zip vs.toArray);have z0:(vs.toArray.zip vs.toArray).size=vs.length:=by simp
   rw[z0]at e;exact e.symm
  rw[e0];refine wpAny_bind (seqEpoch_at g2 rfl (wpAny_bind (listUpdate_at g2 rfl ?_ (Nat.zero_le _) ?_)))
  ·simp only[failedOf,bne_self_eq_false,Bool.false_eq_true,if_false];exact wpAny_pure (fin _ (List.Perm.refl _) fun i j hij hj=>by
    obtain rfl:i=j:=by omega
    exact KeyOrd.kle_refl _)
  ·rw[List.size_toArray,p8 (show cS vs.length (List.toArray (List.range vs.length))from List.Perm.refl _),sizeLine_eq];omega
 ·rw[if_neg few,if_neg few];have two:2<=vs.length:=by rw[List.size_toArray]at few;omega
  refine wpAny_bind (wpAny_mono (hk { s with heap:=h2 } (fun q t=>q=κ/\t=({ s with heap:=h2 }:Shared)) two st ⟨rfl,rfl⟩) ?_ fun _ _ z=>z.elim);rintro κ' _ ⟨ek,rfl⟩;rw[ek];have ask:(kas_sort vs.length).kasWp (kas_ask prog w A κ vs) (fun p t=>t=({ s with heap:=h2 }:Shared)/\cS vs.length p/\dw O key p vs.length) { s with heap:=h2 } :=
   zH (J:=fun t=>t=({ s with heap:=h2 }:Shared)) (lt:=eO O key) (Q:=fun p=>cS vs.length p/\dw O key p vs.length) (fun i j C t hi hj ht hC=>by subst ht;exact hc i j _ C hi hj st (hC _ rfl)) (fun p t ht hq=>⟨ht,hq⟩) (Cj (by exact Nat.le_of_lt (by assumption)) fun p a b=>⟨a,b⟩) rfl
  refine wpAny_bind (wpAny_mono (kat_run (Q:=fun u t=>∃p:Array Nat,arrOf u=p.map (kas_item (vs.toArray.zip vs.toArray))/\failedOf u=none/\t=({ s with heap:=h2 }:Shared)/\cS vs.length p/\dw O key p vs.length) rfl two hz (fun p u t _ a2 a3 a4=>⟨p,a2,a3,a4⟩) ask) ?_ fun _ _ z=>z);rintro⟨⟨⟩,u⟩ t ⟨p,ea,ef,rfl,hp,hr⟩;dsimp only;have e0:(arrOf u).map (·.2)=(kE vs p).toArray:=kat_snds rfl ea;rw[e0];refine wpAny_bind (seqEpoch_at g2 rfl (wpAny_bind (listUpdate_at g2 rfl ?_ (Nat.zero_le _) ?_)))
  ·rw[ef];simp only[bne_self_eq_false,Bool.false_eq_true,if_false];exact wpAny_pure (fin p hp hr)
  ·rw[List.size_toArray,p8 hp,sizeLine_eq];omega
theorem zA{s:Shared}{l:Addr}{vs:List Value}{key:Nat->O.α}{κ:SortKind}{Q:Value->Shared->Prop}(hl:s.heap.IsList l vs.toArray) (hz:vs.length<64)
  (hk:∀s1 Q,2<=vs.length->(∀b o,s.heap.get? b=some o->s1.heap.get? b=some o)->Q κ s1->wpAny (model prog w) A.in1.in1 (keyKind' vs.toArray) Q (fun _ _=>False) s1)
  (hc:∀i j s1 C,i<vs.length->j<vs.length->(∀b o,s.heap.get? b=some o->s1.heap.get? b=some o)->C (eO O key i j) s1->kas_ask prog w A.in1.in1 κ vs i j C s1)
  (k:∀p x c h',cS vs.length p->dw O key p vs.length->s.heap.objs.size<=x->(∀b o,s.heap.get? b=some o->h'.get? b=some o)->h'.get? x=some (seqObj "list" (kE vs p).toArray c)->Q (.ref x) { s with heap:=h' }) :
  wpAny (model prog w) A (call (.builtin "sorted") [.ref l]) Q E s:=by
 refine call_function_entry kind_sorted plain_sorted entry_sorted (args_sorted1 _) ?_;unfold Builtin.«sorted»;refine wpAny_bind (m:=checkCount "sorted" 1 1 _) (wpAny_pure ?_);have hz':vs.length<=sizeLine:=by rw[sizeLine_eq];omega
 refine wpAny_bind (collect_list hl (wpAny_bind (wpAny_newList ?_ hz')) hz');generalize h1e:(s.heap.push (seqObj "list" #[] 0)).update s.heap.objs.size (Obj.mapSeq (·++vs.toArray))=h1;have sz:h1.objs.size=s.heap.objs.size+1:=by rw[<-h1e,Heap.size_update,size_push']
 have kp1:∀b o,s.heap.get? b=some o->(h1.push (seqObj "list" vs.toArray 0)).get? b=some o:=fun b o e=>by
  have lt:b<s.heap.objs.size:=Heap.lt_size e;rw[Heap.get?_push_ne _ _ _ (by rw[sz];exact Nat.ne_of_lt (Nat.lt_succ_of_lt lt)),<-h1e,Heap.get?_update_ne _ _ _ _ (Nat.ne_of_lt lt),Heap.get?_push_ne _ _ _ (Nat.ne_of_lt lt)];exact e
 have new:(h1.push (seqObj "list" vs.toArray 0)).get? h1.objs.size=some (seqObj "list" vs.toArray 0):=Heap.get?_push_size _ rfl;have old:s.heap.get? h1.objs.size=none:=Heap.get?_none_of_le (by omega);show wpAny _ _ _ _ _ { s with heap:=h1.push (seqObj "list" vs.toArray 0) };have go:∀(t:Shared),wc h1.objs.size { s with heap:=h1.push (seqObj "list" vs.toArray 0) } t->∀b o,s.heap.get? b=some o->t.heap.get? b=some o:=fun t ht b o e=>ht b o (fun q=>by rw[q,old]at e;cases e) (kp1 b o e);refine wpAny_bind (wpAny_holding (wpAny_call_entry slot_list_sort ⟨_,new,rfl⟩ entry_list_sort ?_ (args_list_sort _)));refine EK (κ:=κ) (key:=key) new hz (fun t Q' two ht q=>hk t Q' two (go t ht) q) (fun i j t C hi hj ht q=>hc i j t C hi hj (go t ht) q) fun p c h' hp hr hs hx=>?_;refine⟨_,rfl,wpAny_pure ⟨_,rfl,?_⟩⟩;exact k p _ c h' hp hr (by rw[sz];exact Nat.le_succ _) (fun b o e=>go { s with heap:=h' } hs b o e) hx
end
noncomputable def ltP(a b:Int×Int):Bool:=decide (a.1<b.1) || (decide (a.1=b.1)&&decide (a.2<b.2))
def leP(a b:Int×Int):Bool:=! ltP b a
theorem je{a b:Int×Int}:ltP a b=true↔a.1<b.1∨(a.1=b.1/\a.2<b.2):=by simp[ltP]
theorem lD{a b:Int×Int}:ltP a b=false↔b.1<a.1∨(a.1=b.1/\b.2<=a.2):=by
 rw[Bool.eq_false_iff,Ne,je];omega
def Iv:KeyOrd where
 α:=Int×Int
 blt:=ltP
 irrefl a:=by rw[lD];omega
 trans a b c h1 h2:=by rw[je]at *;omega
 negTrans a b c h:=by rw[je,je];rw[je]at h;omega
 total a b h1 h2:=by
  rw[lD]at h1 h2;exact Prod.ext (by omega) (by omega)
theorem BC{a b:Int×Int}(h1:leP a b=true) (h2:leP b a=true):a=b:=by
 simp only[leP,Bool.not_eq_true',lD]at h1 h2;exact Prod.ext (by omega) (by omega)
def nL(ps:List (Int×Int)):List (Int×Int):=ps.mergeSort leP
theorem vt(ps:List (Int×Int)):(nL ps).Perm ps:=List.mergeSort_perm _ _
theorem A4(ps:List (Int×Int)):(nL ps).Pairwise fun a b=>leP a b=true :=
 List.pairwise_mergeSort (fun a b c h1 h2=>by simp only[leP,Bool.not_eq_true',lD]at *;omega) (fun a b=>by
  cases h:leP a b with
  |true=>rfl
  |false =>
   simp only[leP,Bool.not_eq_false',je]at h;simp only[Bool.false_or,leP,Bool.not_eq_true',lD];omega) ps
theorem sV{ps qs:List (Int×Int)}(h:qs.Perm ps) (hs:qs.Pairwise fun a b=>leP a b=true):qs=nL ps :=
 List.Perm.eq_of_pairwise (le:=fun a b=>leP a b=true) (fun a b _ _ h1 h2=>BC h1 h2) hs (A4 ps) (h.trans (vt ps).symm)
noncomputable def pD(p:Int×Int):D:=.tup [.int p.1,.int p.2]
noncomputable def jC:List D->Option (List (Int×Int))
 |[]=>some []
 |.tup [.int i,.int j]::ds=>(jC ds).map ((i,j)::·)
 |_=>none
theorem pR:∀{ps:List (Int×Int)},jC (ps.map pD)=some ps
 |[]=>rfl
 |p::ps=>by simp[jC,pD,pR (ps:=ps)]
theorem uD:∀{ds:List D}{ps:List (Int×Int)},jC ds=some ps->ds=ps.map pD:=by
 intro ds
 induction ds using jC.induct with
 |case1=>intro ps e;cases e;rfl
 |case2 i j ds ih =>
  intro ps e;simp only[jC]at e;cases q:jC ds with
  |none=>rw[q]at e;cases e
  |some qs=>rw[q]at e;cases e;rw[ih q];rfl
 |case3 ds h1 h2=>intro ps e;rw[jC]at e<;>simp_all
def wD:D->Option D
 |.lst ds=>(jC ds).bind fun ps=>if ps.length<64 then some (.lst ((nL ps).map pD))else none
 |_=>none
theorem Cr{ps:List (Int×Int)}(h:ps.length<64):wD (.lst (ps.map pD))=some (.lst ((nL ps).map pD)):=by
 simp[wD,pR,h]
section
variable{X:Cx}{ae:List (Addr×Obj)}{s:Shared}{σ:St}{H:Hp}{M:DH}
theorem Er(I:Inv X ae σ H s) {ps:List (Int×Int)}{vs:List V}{us:List Value}(rl:au X.K M H (ps.map pD) vs) (rv:az vs us) {i:Nat}(hi:i<ps.length) :
  ∃a t u,us[i]?=some (.ref a)/\IsTup s.heap a #[.int ps[i].1 t,.int ps[i].2 u]:=by
 obtain⟨v,g,r⟩:=rl.get (i:=i) (d:=pD ps[i]) (by simp[hi]);obtain⟨u',g',r'⟩:=rv.get g;simp only[pD,Rep]at r;obtain⟨a,ws,rfl,sq,rw_⟩:=r;cases r';obtain⟨its,rv2,tp,hz⟩:=I.tuple sq.sq;simp only[au,Rep]at rw_;obtain⟨_,_,rfl,rfl,_,_,rfl,rfl,rfl⟩:=rw_;obtain⟨x,y,rfl,⟨t,rfl⟩,⟨u,rfl⟩⟩:=az.two rv2;exact⟨a,t,u,g',tp⟩
theorem q0{us:List Value}{i:Nat}{v:Value}(h:us[i]?=some v):us.getD i Value.none=v:=by
 rw[List.getD_eq_getElem?_getD,h];rfl
theorem wL{h:Heap}:∀{ps:List (Int×Int)}{us:List Value},us.length=ps.length->(∀i (hi:i<ps.length),∃a t u,us[i]?=some (.ref a)/\IsTup h a #[.int ps[i].1 t,.int ps[i].2 u])->∃fs,KatTups h us fs/\fs.length=ps.length/\∀f∈fs,∃i t,f=Value.int i t
 |[],[],_,_=>⟨[],KatTups.nil,rfl,fun _ h=>(nomatch h)⟩
 |p::ps,u::us,hl,k=>by
  obtain⟨fs,h1,h2,h3⟩:=wL (ps:=ps) (us:=us) (by simpa using hl) fun i hi=>k (i+1) (by simpa using hi);obtain⟨a,t,t',e,o,ho,hc,n,hd⟩:=k 0 (by simp);simp only[List.getElem?_cons_zero,Option.some.injEq]at e;subst e;exact⟨_::fs,KatTups.cons ho hc hd rfl h1,by simp[h2],fun f hf=>by
   rcases List.mem_cons.mp hf with rfl|hf
   ·exact⟨_,_,rfl⟩
   ·exact h3 f hf⟩
 |[],_::_,hl,_=>by simp at hl
 |_::_,[],hl,_=>by simp at hl
theorem zT{prog:Program}{w:World}{A:Around}{E:Value->Shared->Prop}{s:Shared}{x y:Addr}{p q:Int×Int}{t1 t2 t3 t4:Tok}{C:Bool->Shared->Prop}(hx:IsTup s.heap x #[.int p.1 t1,.int p.2 t2]) (hy:IsTup s.heap y #[.int q.1 t3,.int q.2 t4]) (k:C (ltP p q) s) :
  wpAny (model prog w) A (keyLt' (tuples' true) (.ref x) (.ref y)) C E s:=by
 obtain⟨o1,h1,_,n1,d1⟩:=hx;obtain⟨o2,h2,_,n2,d2⟩:=hy;refine kat_lt h1 d1 h2 d2 ?_;refine kat_cons (wpAny_eqBool_int ?_);cases e:(p.1==q.1)with
 |false =>
  refine kat_no (oneLt_int ?_);have:decide (p.1<q.1)=ltP p q:=by
   have e':¬ p.1=q.1:=by simpa using e
   simp[ltP,e']
  rw[this];exact k
 |true =>
  have e':p.1=q.1:=by simpa using e
  refine kat_yes (kat_cons (wpAny_eqBool_int ?_));cases g:(p.2==q.2)with
  |false =>
   refine kat_no (kat_one _ _ ?_);refine wpAny_lt_int ?_;have:decide (p.2<q.2)=ltP p q:=by simp[ltP,e']
   rw[this];exact k
  |true =>
   have g':p.2=q.2:=by simpa using g
   refine kat_yes (kat_nil ?_);have:decide ((#[Value.int p.1 t1,Value.int p.2 t2]:Array Value).size<(#[Value.int q.1 t3,Value.int q.2 t4]:Array Value).size)=ltP p q:=by simp[ltP,e',g']
   rw[this];exact k
noncomputable def kp_(p:Array Nat) (i:Nat):Nat:=p.getD i 0
theorem jM{h h':Heap}{a:Addr}{its:Array Value}(t:IsTup h a its) (k:∀b o,h.get? b=some o->h'.get? b=some o):IsTup h' a its :=
 let⟨o,ho,hc,hd⟩:=t
 ⟨o,k _ _ ho,hc,hd⟩
theorem pM{vs:List V}{us:List Value}(rv:az vs us):∀{l:List Nat},(∀i∈l,i<vs.length)->az (l.map fun i=>vs.getD i .non) (l.map fun i=>us.getD i Value.none)
 |[],_=>.nil
 |i::l,h=>by
  have hi:=h i (.head _);obtain⟨u,g,r⟩:=rv.get (List.getElem?_eq_getElem hi);rw[List.map_cons,List.map_cons];refine .cons ?_ (pM rv fun j hj=>h j (.tail _ hj));rw[q0 g,List.getD_eq_getElem?_getD,List.getElem?_eq_getElem hi];exact r
theorem pL{K:PySem.W.Frag}{ps:List (Int×Int)}{vs:List V}(rl:au K M H (ps.map pD) vs):∀{l:List Nat},(∀i∈l,i<ps.length)->au K M H ((l.map fun i=>ps.getD i (0,0)).map pD) (l.map fun i=>vs.getD i .non)
 |[],_=>rfl
 |i::l,h=>by
  have hi:=h i (.head _);obtain⟨v,g,r⟩:=rl.get (i:=i) (d:=pD ps[i]) (by simp[hi]);simp only[List.map_cons,au];refine⟨v,_,?_,?_,pL rl fun j hj=>h j (.tail _ hj)⟩
  ·rw[List.getD_eq_getElem?_getD,g];rfl
  ·rw[List.getD_eq_getElem?_getD,List.getElem?_eq_getElem hi];exact r
theorem ya(ps:List (Int×Int)):(List.range ps.length).map (fun i=>ps.getD i (0,0))=ps:=by
 apply List.ext_getElem (by simp);intro i h1 h2;simp[List.getElem?_eq_getElem h2]
theorem Bc:bj X (.builtin "sorted") (jq wD):=by
 intro ae s σ H M xs us ds dz Q I hr rv rp e k;obtain⟨d,rfl,e0⟩:=bY e;clear e;obtain⟨v,rfl,r⟩:=i7 rp;obtain⟨u,rfl,ru⟩:=az.one rv;cases d with
 |lst ds =>
  simp only[wD]at e0;cases q:jC ds with
  |none=>rw[q]at e0;cases e0
  |some ps =>
   rw[q]at e0;have ed:=uD q;subst ed
   by_cases h64:ps.length<64
   ·simp only[Option.bind_some,if_pos h64,Option.some.injEq]at e0;subst e0;obtain⟨l,vs,rfl,sq,rl⟩:=r;cases ru;obtain⟨its,rv,pl,hz⟩:=I.list (SqL.of sq);have hn:ps.length=its.length:=by rw[<-rv.length,<-rl.length,List.length_map]
    have at_:=fun i (hi:i<ps.length)=>Er I rl rv hi;have key:∀i (hi:i<ps.length),ps.getD i (0,0)=ps[i]:=fun i hi=>by rw[List.getD_eq_getElem?_getD,List.getElem?_eq_getElem hi];rfl
    refine zA (O:=Iv) (key:=fun i=>ps.getD i (0,0)) (κ:=tuples' true) pl.isList (by omega) (fun s1 Q' two kp q=>?_) (fun i j s1 C hi hj kp q=>?_) fun p x c h' hp hs hx kp ho=>?_
    ·obtain⟨fs,t1,t2,t3⟩:=wL (h:=s1.heap) hn.symm fun i hi=>let⟨a,t,u,g,z⟩:=at_ i hi;⟨a,t,u,g,jM z kp⟩
     exact kat_kind (T:=.type "int") t1 (by omega) (fun f hf=>by obtain⟨i,t,rfl⟩:=t3 f hf;exact Looks.of_pure rfl) rfl q
    ·rw[<-hn]at hi hj;obtain⟨a,t,u,g,z⟩:=at_ i hi;obtain⟨b,t',u',g',z'⟩:=at_ j hj;show wpAny _ _ (keyLt' _ _ _) _ _ _;rw[q0 g,q0 g'];refine zT (jM z kp) (jM z' kp) ?_;have q':C (ltP (ps.getD i (0,0)) (ps.getD j (0,0))) s1:=q
     rwa [key i hi,key j hj]at q'
    ·have hlt:∀i∈p.toList,i<ps.length:=fun i hi=>by rw[hn];exact List.mem_range.mp (hp.mem_iff.mp hi)
     have hlv:vs.length=its.length:=rv.length;have lo:(p.toList.map fun i=>vs.getD i .non).length=its.length:=by rw[List.length_map,Array.length_toList];exact hp.size
     have I2:=I.laid (t':=s.toks) (o:=.lst (p.toList.map fun i=>vs.getD i .non)) kp hx (show cm X.prog X.w _ h' x (.lst _)from⟨by rw[lo,<-hlv];exact hz,kE its p,c,pM rv (fun i hi=>by rw[hlv,<-hn];exact hlt i hi),ho⟩);have es:(p.toList.map fun i=>ps.getD i (0,0))=nL ps:=by
      have hp':p.toList.Perm (List.range ps.length):=by rw[hn];exact hp
      have hm:=hp'.map fun i=>ps.getD i (0,0);rw[ya]at hm;refine sV hm ?_;rw[List.pairwise_iff_getElem];intro i j hi hj hij;have sz:p.size=its.length:=hp.size;rw[List.length_map,Array.length_toList]at hi hj;have:=hs i j (Nat.le_of_lt hij) (by omega);have e1:kp_ p i=p.toList[i]'(by simpa using hi):=by simp[kp_,Array.getD,hi]
      have e2:kp_ p j=p.toList[j]'(by simpa using hj):=by simp[kp_,Array.getD,hj]
      have g:leP (ps.getD (kp_ p i) (0,0)) (ps.getD (kp_ p j) (0,0))=true:=by
       have z:ltP (ps.getD (kp_ p j) (0,0)) (ps.getD (kp_ p i) (0,0))=false:=this;simp only[leP,z,Bool.not_false]
      rw[e1,e2]at g;simpa using g
     refine⟨.ref x,_,I2,rfl,gN hr (I.hok.fresh hx) (pL rl hlt) fun w H' a b c=>?_⟩;rw[es]at c;exact k w H' a b c
   ·simp only[Option.bind_some,if_neg h64]at e0;cases e0
 |_=>cases e0
end
end L2
namespace L2
open PySem PySem.Spec PyProof.Rows
theorem IS{X:Cx}{pos:Pos}:QEd X (.Dict [] [] pos) dDK:=by
 simp only[QEd.eq]at *
 exact PE.conv A0 fun σ H Q hup=>hup.el fun Δ M R sr hr q k=>fun p hp =>
  k _ _ _ _ (q p (hr.fresh hp)) (Ext.own hp) (hr.put (Ext.own hp) ⟨[],aB,.nil⟩) (by simp only[Rep])
theorem Fj{X:Cx}{pos:Pos}:QEd X (.Dict [] [] pos) dDT:=by
 simp only[QEd.eq]at *
 exact PE.conv BB fun σ H Q hup=>hup.el fun Δ M R sr hr q k=>fun p hp =>
  k _ _ _ _ (q p (hr.fresh hp)) (Ext.own hp) (hr.put (Ext.own hp) ⟨[],aB,.nil⟩) (by simp only[Rep])
theorem xc{X:Cx}{a:Expr}{b:Expr}{ta:TEd}{tb:TEd}{pos:Pos}(ha:QEd X a ta) (hb:QEd X b tb):QEd X (.Dict [some a] [b] pos) (ze ta tb):=by
 simp only[QEd.eq]at *
 exact PE.conv (BD (Bf ha hb De) rfl rfl (by simp) (by simp)) fun σ H Q hup=>hup.el fun Δ M R sr hr q k=>fun p hp=>by
   have e0:Ext M H (av M p (.dK [])) (upd H p (.dK [])):=Ext.own hp;refine⟨Δ,_,_,sr.ext e0,hr.put e0 ⟨[],aB,.nil⟩,q p (hr.fresh hp),fun x M1 v H1 q1 e1 hr1 rv=>⟨Δ,M1,_,(sr.ext e0).ext e1,hr1,q1,fun y M2 u H2 ⟨ky,ex,em,q2⟩ e2 hr2 ru=>?_⟩⟩;obtain⟨ks,h2,kr⟩:=hr2 p _ em;cases kr;subst ex;refine⟨h2,[(ky,u)],?_,by simp,?_⟩
   ·rw[jV rv];rfl
   ·have em':ke [] [(ky,u)]=[(ky,u)]:=by simp[ke,dv]
    rw[em'];have ew:Ext M2 H2 (av M2 p (.dK [(ky,y)])) (upd H2 p (.dK [(ky,u)])):=Ext.write em;exact k _ _ _ _ q2 ((e0.trans (e1.trans e2)).trans ew) (hr2.put ew ⟨_,aB,.cons ⟨rfl,ru.ext ew⟩ .nil⟩) (by simp only[Rep])
theorem BL{X:Cx}{o:Expr}{i:Expr}{to:TEd}{ti:TEd}{pos:Pos}(hu:X.A.units+1<cLine) (ho:QEd X o to) (hi:QEd X i ti) (hs:tN i):QEd X (.Subscript o i pos) (zC to ti):=by
 simp only[QEd.eq]at *
 exact PE.conv (qu hu ho hi hs) fun σ H Q hup=>hup.el fun Δ M R sr hr q k=>⟨Δ,M,_,sr,hr,q,fun x M1 v H1 q1 e1 hr1 rv=>⟨Δ,M1,_,sr.ext e1,hr1,q1,fun y M2 u H2 ⟨a,kvs,ky,d,ex,em,ey,ed,q2⟩ e2 hr2 ru=>by
   subst ex;subst ey;simp only[Rep]at rv;subst rv;obtain⟨ks,h2,kr⟩:=hr2 a _ em;obtain⟨w,hw,rw_⟩:=(kr.val ky).1 d ed;refine⟨a,w,rfl,?_,k d M2 w H2 q2 (e1.trans e2) hr2 rw_⟩;rw[jV ru,<-hw];exact i4.k h2⟩⟩
theorem DX{X:Cx}{o:Expr}{es:List Expr}{to:TEd}{t:TAd}{pos:Pos}(neg:Bool) {x1}{p:Pos}{op:CmpOp}(hop:op=(if neg then .NotIn else .In)) (hu:X.A.units+1<cLine) (ht:QAd X es t) (ho:QEd X o to) (hm:behindInMarks op o=false):QEd X (.Compare (.Tuple es x1 p) [op] [o] pos) (Dc neg t to):=by
 simp only[QEd.eq,QAd.eq]at *
 exact PE.conv (Ge (uO hop hu (mX ht) ho) hm) sS
theorem E8{X:Cx}{o:Expr}{i:Expr}{to:TEd}{ti:TEd}{pos:Pos}(neg:Bool) {op:CmpOp}(hop:op=(if neg then .NotIn else .In)) (hu:X.A.units+1<cLine) (hi:QEd X i ti) (ho:QEd X o to) (hm:behindInMarks op o=false):QTd X (.Compare i [op] [o] pos) (nK (F6 neg ti to)):=by
 simp only[QEd.eq,QTd.eq]at *
 exact PT.conv (yL (uO hop hu hi ho) hm) (GO Ax)
theorem EM{X:Cx}{o:Expr}{es:List Expr}{to:TEd}{t:TAd}{pos:Pos}(neg:Bool) {x1}{p:Pos}{op:CmpOp}(hop:op=(if neg then .NotIn else .In)) (hu:X.A.units+1<cLine) (ht:QAd X es t) (ho:QEd X o to) (hm:behindInMarks op o=false):QTd X (.Compare (.Tuple es x1 p) [op] [o] pos) (nK (Dc neg t to)):=by
 simp only[QEd.eq,QAd.eq,QTd.eq]at *
 exact PT.conv (yL (uO hop hu (mX ht) ho) hm) (GO sS)
theorem qO{X:Cx}{e:Expr}{o:Expr}{i:Expr}{te:TEd}{to:TEd}{ti:TEd}{pos:Pos}{p:Pos}(hu:X.A.units+1<cLine) (ho:QEd X o to) (hi:QEd X i ti) (he:QEd X e te) (hs:swapsWith e (some (.Subscript o i p)) pos.line X.env=pure false:=by rfl):QSd X (.Assign [.Subscript o i p] e pos) (vQ to ti te):=by
 simp only[QEd.eq,QSd.eq]at *
 exact PS.conv (rO hu ho hi he hs) fun D σ H hup=>hup.el fun Δ M E sr hr q k=>⟨Δ,M,_,sr,hr,q,fun d M1 v H1 q1 e1 hr1 rv=>⟨Δ,M1,_,sr.ext e1,hr1,q1,fun x M2 u H2 q2 e2 hr2 ru=>⟨Δ,M2,_,(sr.ext e1).ext e2,hr2,q2,fun y M3 w H3 ⟨a,kvs,ky,ex,em,ey,hz,q3⟩ e3 hr3 rw_=>by
   subst ex;subst ey;simp only[Rep]at ru;subst ru;obtain⟨ks,h3,kr⟩:=hr3 a _ em;have ew:Ext M3 H3 (av M3 a (.dK (df kvs ky d))) (upd H3 a (.dK (dv ks ky v))):=Ext.write em;refine⟨a,_,rfl,by rw[jV rw_];exact qv.k h3 (by rw[<-kr.length];exact hz),?_⟩;exact k.nx Δ _ σ _ q3 (((e1.trans e2).trans e3).trans ew) (hr3.put ew ⟨_,aB,(kr.put ky ((rv.ext e2).ext e3)).ext ew⟩) ((((sr.ext e1).ext e2).ext e3).ext ew)⟩⟩⟩
theorem E9{X:Cx}{e:Expr}{o:Expr}{es:List Expr}{te:TEd}{to:TEd}{t:TAd}{pos:Pos}{x1}{p p2:Pos}(hu:X.A.units+1<cLine) (ho:QEd X o to) (ht:QAd X es t) (he:QEd X e te) (hs:swapsWith e (some (.Subscript o (.Tuple es x1 p2) p)) pos.line X.env=pure false:=by rfl):QSd X (.Assign [.Subscript o (.Tuple es x1 p2) p] e pos) (Dy to t te):=by
 simp only[QEd.eq,QAd.eq,QSd.eq]at *
 exact PS.conv (rO hu ho (mX ht) he hs) fun D σ H hup=>hup.el fun Δ M E sr hr q k=>⟨Δ,M,_,sr,hr,q,fun d M1 v H1 q1 e1 hr1 rv=>⟨Δ,M1,_,sr.ext e1,hr1,q1,fun x M2 u H2 q2 e2 hr2 ru=>⟨Δ,M2,_,(sr.ext e1).ext e2,hr2,q2,fun ds M3 ws H3 ⟨hl,a,kvs,ky,ex,em,ey,hz,q3⟩ e3 hr3 rw_=>by
   subst ex;subst ey;simp only[Rep]at ru;subst ru;refine⟨by rw[<-rw_.length];exact hl,fun p hp=>?_⟩;obtain⟨ks,h3,kr⟩:=hr3 a _ em;have hap:a≠p:=cE h3 hp;have e4:Ext M3 H3 M3 (upd H3 p (.tup ws)):=Ext.new hr3 hp;have hr4:=hr3.new (o:=.tup ws) hp;have ew:Ext M3 (upd H3 p (.tup ws)) (av M3 a (.dT (df kvs ky d))) (upd (upd H3 p (.tup ws)) a (.dT (dv ks ky v))):=Ext.write em;have h4:upd H3 p (.tup ws) a=some (.dT ks):=by rw[aL hap];exact h3
   refine⟨a,_,rfl,qv.t h4 (by rw[aB,jh rw_]) (by rw[<-kr.length];exact hz),?_⟩;exact k.nx Δ _ σ _ q3 ((((e1.trans e2).trans e3).trans e4).trans ew) (hr4.put ew ⟨_,aB,((kr.ext e4).put ky (((rv.ext e2).ext e3).ext e4)).ext ew⟩) (((((sr.ext e1).ext e2).ext e3).ext e4).ext ew)⟩⟩⟩
theorem H0{X:Cx}{o:Expr}{to:TEd}{cc bv:Pos}(ho:QEd X o to) (dq:attributeBase o "pop" X.env (eval o X.env)=eval o X.env:=by rfl) (c9:(cc.endLine==bv.line)=true:=by rfl):QEd X (.Call (.Attribute o "pop" cc) [] [] bv) (HH to):=by
 simp only[QEd.eq]at *
 exact(En PySem.F.plainAttrs_list PySem.F.slot_list_pop PySem.F.type_list_pop (show MtR X "list.pop" GW from EZ) ho dq c9).conv fun σ H Q hup=>hup.el fun Δ M R sr hr q k=>⟨Δ,M,_,sr,hr,q,fun o M1 ov H1 ⟨a,ds,d,eo,em,q1⟩ e1 hr1 ro=>by
   subst eo;simp only[Rep]at ro;subst ro;obtain⟨vs,hv,rl⟩:=hr1 a _ em;have hl:=rl.length;rw[List.length_append,List.length_cons,List.length_nil]at hl;obtain⟨v,gv,rv⟩:=rl.get (i:=ds.length) (d:=d) (by simp);have hl2:vs.length-1=ds.length:=by omega
   refine⟨.inl ⟨rfl,vs,SqL.of hv⟩,a,vs,v,rfl,rfl,hv,by rw[hl2];exact gv,?_⟩;have ew:Ext M1 H1 (av M1 a (.lst ds)) (upd H1 a (.lst vs.dropLast)):=Ext.write em;refine k _ _ _ _ q1 (e1.trans ew) (hr1.write em ?_) (rv.ext ew);have:=au.take ds.length rl;rw[List.take_left]at this;rw[List.dropLast_eq_take,hl2];exact this⟩
theorem Hx{X:Cx}{tg:Expr}{l:Expr}{te:TEd}(he:QEd X l te):QId X tg l (Hq te):=by
 simp only[QEd.eq,QId.eq]at *
 exact fun ae s σ H R I h =>
  PI.conv (He he) (fun σ H R hup=>hup.el fun Δ M R' sr hr q k=>⟨Δ,M,_,sr,hr,q,fun d M1 v H1 ⟨a,kvs,ed,em,q1⟩ e1 hr1 rv=>by
   subst ed;simp only[Rep]at rv;subst rv;obtain⟨ks,h1,kr⟩:=hr1 a _ em;refine⟨a,ks,rfl,h1,fun o=>?_⟩;have e2:Ext M1 H1 (fZ M1 a) (upd H1 a (.frz o (.dK ks))):=fun b u z n=>by
    have hb:b≠a:=fun w=>by rw[w,em]at n;cases n
    rw[aL hb,kA hb];exact⟨z,n⟩
   have hr2:HR X.K (fZ M1 a) (upd H1 a (.frz o (.dK ks))):=fun b u z=>by
    have hb:b≠a:=fun w=>by rw[w,dE]at z;cases z
    rw[kA hb]at z;exact(hr1 b u z).keep e2 (aL hb)
   refine k _ _ _ _ q1 (e1.trans e2) hr2 ?_
   ·intro M2 H2 e3 hr3 i;have ea:=(e3 a _ aB dE).1;refine⟨fun d hd=>?_,fun hl=>⟨ea,?_⟩⟩
    ·rw[List.getElem?_map]at hd;cases q:kvs[i]? with
     |none=>rw[q]at hd;cases hd
     |some p =>
      rw[q]at hd;cases hd;have hi:i<kvs.length:=(List.getElem?_eq_some_iff.mp q).1;refine⟨⟨ea,by rw[<-kr.length];exact hi⟩,fun x H' ⟨eH,k',v',hk,ex⟩=>?_⟩;subst eH;subst ex;have q1:=congrArg (fun l=>l[i]?) kr.keys;simp only[List.getElem?_map,q,hk,Option.map_some]at q1;have q2:p.fst=k':=Option.some.inj q1;refine⟨Ext.refl _ _,hr3,?_⟩;show Rep X.K M2 _ (kD p.fst) (kV k');rw[q2];exact gR
    ·rw[<-kr.length];simpa using hl⟩) ae s σ H R I h
theorem cG.units1{k:Nat}{A:Around}(r:cG k A):A.units+1<cLine:=by have:=r.un;omega
theorem G3{x:Str}{P:Key->Prop}:(∃k,D.str x=kD k/\P k)↔P (.inr x) :=
 ⟨fun⟨k,e,h⟩=>match k,e with|.inr _,rfl=>h,fun h=>⟨_,rfl,h⟩⟩
theorem FX:∀{a b:Key},kD a=kD b->a=b
 |.inl _,.inl _,h=>by cases h;rfl
 |.inr _,.inr _,h=>by cases h;rfl
 |.inl _,.inr _,h=>by cases h
 |.inr _,.inl _,h=>by cases h
theorem vY:∀{a b:List Key},a.map kD=b.map kD->a=b
 |[],[],_=>rfl
 |[],_::_,h=>by cases h
 |_::_,[],h=>by cases h
 |x::xs,y::ys,h=>by
  simp only[List.map_cons,List.cons.injEq]at h;rw[FX h.1,vY h.2]
theorem GS{a b:Key}{P:List Key->Prop}:(∃ks:List Key,[kD a,kD b]=ks.map kD/\P ks)↔P [a,b] :=
 ⟨fun⟨ks,e,h⟩=>by rw[vY (a:=[a,b]) (b:=ks) (by simpa using e)];exact h,fun h=>⟨_,rfl,h⟩⟩
theorem Fu{i j:Str}{P:List Key->Prop}:(∃ks:List Key,[D.str i,D.str j]=ks.map kD/\P ks)↔P [.inr i,.inr j]:=GS (a:=.inr i) (b:=.inr j)
theorem C4{i j:Int}:xW [.int i,.int j]=some (.int (if j<i then j else i)):=rfl
abbrev BKd:=DE->DH->List D->(List D->DE->DH->Prop)->Prop
def ja(g:GD) (tc:TTd) (B:BKd):List D->DE->DH->List D->(List D->DE->DH->Prop)->Prop
 |[],Δ,M,acc,Q=>Q acc Δ M
 |d::ds,Δ,M,acc,Q=>∃ Δ',g d Δ=some Δ'/\tc Δ' M fun b M1=>if b=true then B Δ' M1 acc fun acc' Δ'' M2=>acc'.length<=sizeLine/\ja g tc B ds Δ'' M2 acc' Q else ja g tc B ds Δ' M1 acc Q
def oE(te:TEd):BKd:=fun Δ M acc Q=>te Δ M fun y M2=>Q (acc++[y]) Δ M2
def j6(wi:TId) (g:GD) (tc:TTd) (B:BKd):BKd:=fun Δ M acc Q=>wi Δ M fun es M2=>ja g tc B es Δ M2 acc Q
def upB(K:PySem.W.Frag) (b:BKd):BK:=fun ys σ H Z=>∃(Δ:DE) (M:DH) (acc:List D) (R:List D->DE->DH->Prop),SR K M H σ Δ/\HR K M H/\au K M H acc ys/\acc.length<=sizeLine/\b Δ M acc R /\
 ∀acc' Δ' M' ys' σ' H',R acc' Δ' M'->Ext M H M' H'->HR K M' H'->SR K M' H' σ' Δ'->au K M' H' acc' ys'->Z ys' σ' H'
section
variable{K:PySem.W.Frag}{g:GD}{gv:TG}{tc:TTd}{te:TEd}{wi:TId}{Bd:BKd}{B:BK}
theorem wZ{ys:List V}{σ:St}{H:Hp}{Z:List V->St->Hp->Prop}(h:upB K (oE te) ys σ H Z):me (up K te) ys σ H Z:=by
 obtain⟨Δ,M,acc,R,sr,hr,ra,_,q,k⟩:=h;exact⟨Δ,M,_,sr,hr,q,fun d M' v H' q1 e1 hr1 rv=>k _ _ _ _ _ _ q1 e1 hr1 (sr.ext e1) ((ra.ext e1).append (au.cons rv au.nil))⟩
theorem wu(kg:nq K g gv) (hB:∀{ys σ H Z},upB K Bd ys σ H Z->B ys σ H Z) {J:It}{es:List D}{M5:DH}{H5:Hp}(it5:ItD K J es M5 H5) (hr5:HR K M5 H5) {Δ:DE}{acc:List D}{R:List D->DE->DH->Prop}{ys:List V}{σ:St}{Z:List V->St->Hp->Prop}
  (sr:SR K M5 H5 σ Δ) (ra:au K M5 H5 acc ys) (la:acc.length<=sizeLine) (q:ja g tc Bd es Δ M5 acc R)
  (k:∀acc' Δ' M' ys' σ' H',R acc' Δ' M'->Ext M5 H5 M' H'->HR K M' H'->SR K M' H' σ' Δ'->au K M' H' acc' ys'->Z ys' σ' H') :
  ∃W:Nat->Nat->List V->St->Hp->Prop,(∃m,W 0 m ys σ H5)/\lF J gv (upT K tc) B W Z:=by
 refine⟨fun j m ys' σ' H'=>∃ Δ' M' acc',m=es.length-j/\j<=es.length/\Ext M5 H5 M' H'/\HR K M' H'/\SR K M' H' σ' Δ'/\au K M' H' acc' ys'/\acc'.length<=sizeLine/\ja g tc Bd (es.drop j) Δ' M' acc' R,
  ⟨es.length,Δ,M5,acc,by simp,Nat.zero_le _,Ext.refl _ _,hr5,sr,ra,la,q⟩,?_⟩
 rintro j m ys' σ6 H6 ⟨Δ6,M6,acc6,rfl,hj,e6,hr6,sr6,ra6,la6,f6⟩;refine⟨by rw[<-ra6.length];exact la6,?_⟩;obtain⟨go2,stop2⟩:=it5 M6 H6 e6 hr6 j
 by_cases hlt2:j<es.length
 ·have hd2:es[j]?=some es[j]:=by simp[hlt2]
  obtain⟨g2,y2⟩:=go2 _ hd2;rw[List.drop_eq_getElem_cons hlt2]at f6;simp only[ja]at f6;obtain⟨Δ7,eg7,f7⟩:=f6;refine .inr ⟨g2,fun x7 H7 hy7=>?_⟩;obtain⟨e7,hr7,rx7⟩:=y2 x7 H7 hy7;refine kg _ x7 σ6 Δ6 Δ7 M6 H7 _ (sr6.ext e7) hr7 rx7 eg7 fun σ7 sr7=>?_;refine⟨Δ7,M6,_,sr7,hr7,f7,fun b M8 H8 q8 e8 hr8=>?_⟩;cases b with
  |true =>
   simp only[if_true]at q8 ⊢;refine hB ⟨Δ7,M8,acc6,_,sr7.ext e8,hr8,(ra6.ext e7).ext e8,la6,q8,?_⟩;rintro acc' Δ' M' ys9 σ' H' ⟨hz9,q9⟩ e9 hr9 sr9 ra9;exact⟨es.length-(j+1),by omega,Δ',M',acc',rfl,hlt2,((e6.trans e7).trans e8).trans e9,hr9,sr9,ra9,hz9,q9⟩
  |false =>
   simp only[Bool.false_eq_true,if_false]at q8 ⊢;exact⟨es.length-(j+1),by omega,Δ7,M8,acc6,rfl,hlt2,(e6.trans e7).trans e8,hr8,sr7.ext e8,(ra6.ext e7).ext e8,la6,q8⟩
 ·rw[List.drop_eq_nil_of_le (by omega)]at f6;simp only[ja]at f6;exact .inl ⟨stop2 (by omega),k _ _ _ _ _ _ f6 e6 hr6 sr6 ra6⟩
theorem rF(kg:nq K g gv) (hB:∀{ys σ H Z},upB K Bd ys σ H Z->B ys σ H Z) {ys:List V}{σ:St}{H:Hp}{Z:List V->St->Hp->Prop}(h:upB K (j6 wi g tc Bd) ys σ H Z):sI (upI K wi) gv (upT K tc) B ys σ H Z:=by
 obtain⟨Δ,M,acc,R,sr,hr,ra,la,q,k⟩:=h;exact⟨Δ,M,_,sr,hr,q,fun es M2 J H2 q2 e2 hr2 it2=>wu kg hB it2 hr2 (sr.ext e2) (ra.ext e2) la q2 fun a1 a2 a3 a4 a5 a6 b1 b2=>k a1 a2 a3 a4 a5 a6 b1 (e2.trans b2)⟩
end
def Dd(ms:List Bool) (k:Nat) (w0:TId) (g0:GD) (tc0:TTd) (B:BKd):TEd:=fun Δ M Q=>w0 Δ M fun ds M1=>ja g0 tc0 B ds (eM ms k Δ) M1 [] fun ys _ M2=>Q (.lst ys) M2
theorem sP{K:PySem.W.Frag}{w0:TId}{g0:GD}{tc0:TTd}{gv0:TG}{Bd:BKd}{B:BK}{ms:List Bool}{kk:Nat}(kg:nq K g0 gv0) (hB:∀{ys σ H Z},upB K Bd ys σ H Z->B ys σ H Z):∀ σ H Q,up K (Dd ms kk w0 g0 tc0 Bd) σ H Q->Cp ms kk (upI K w0) gv0 (upT K tc0) B σ H Q:=by
 rintro σ H Q ⟨Δ,M,R,sr,hr,q,k⟩;refine⟨Δ,M,_,sr,hr,q,fun ds M1 J H1 q1 e1 hr1 it=>?_⟩;obtain⟨W,hW,hC⟩:=wu (Z:=fun ys' _ H'=>∃M' acc,Ext M1 H1 M' H'/\HR K M' H'/\au K M' H' acc ys'/\R (.lst acc) M') kg hB it hr1 ((sr.ext e1).comp ms kk) au.nil (Nat.zero_le _) q1
  (fun acc' Δ' M' ys' σ' H' q' e' hr' _ ra'=>⟨M',acc',e',hr',ra',q'⟩)
 refine⟨W,_,hW,hC,?_⟩;rintro ys σ' H' p ⟨M',acc,e',hr',ra,q'⟩ hp;refine k _ M' _ _ q' ((e1.trans e').trans (Ext.new hr' hp)) (hr'.new hp) ?_;simp only[Rep];exact⟨p,ys,rfl,⟨aB,hr'.fresh hp⟩,ra.ext (Ext.new hr' hp)⟩
noncomputable abbrev IZ(elt t0 i0 t1 i1:Expr) (f0 f1:List Expr) (scope:Scope) (pos:Pos):Expr:=.ListComp elt [⟨t0,i0,f0,0⟩,⟨t1,i1,f1,0⟩] scope pos
def Gj(ms:List Bool) (k:Nat) (w0:TId) (g0:GD) (tc0:TTd) (wi:TId) (g:GD) (tc:TTd) (te:TEd):TEd:=Dd ms k w0 g0 tc0 (j6 wi g tc (oE te))
section
variable{X:Cx}{scope:Scope}{cl:List (Str×Addr)}{ms:List Bool}{ar:List Str}{elt t0 i0 t1 i1:Expr}{f0 f1:List Expr}{pos:Pos}
theorem Eb{w1:TI}{g1:TG}{tc1:TT}{te:TE}(hi1:∀C s H ex,PI (aA X scope cl (X.N++ar) C s H ex) t1 i1 w1) (hg1:∀C s H ex,PG (aA X scope cl (X.N++ar) C s H ex) t1 g1) (hif1:∀C s H ex,PIf (aA X scope cl (X.N++ar) C s H ex) f1 tc1) (he:∀C s H ex,PE (aA X scope cl (X.N++ar) C s H ex) elt te)
  (hs1:∀C x,foldedSetIterable i1 (compEnvC scope cl C X.env) x=pure x):LvC X scope cl ar (lcE elt [⟨t0,i0,f0,0⟩,⟨t1,i1,f1,0⟩] scope pos) i0.pos t0 f0 (sI w1 g1 tc1 (me te)):=fun _ _ _ _ _ c =>
 qV c (rh (k:=1) (p:=i1.pos) c (he _ _ _ _) fun _ _ _=>rfl) (fun _ _ _=>rfl) (hs1 _) (hi1 _ _ _ _) (hg1 _ _ _ _) (hif1 _ _ _ _) fun _ _ _=>rfl
end
theorem Hn{X:Cx}{scope:Scope}{cl:List (Str×Addr)}{ms:List Bool}{ar:List Str}{elt t0 i0 t1 i1:Expr}{f0 f1:List Expr}{pos:Pos}{w0 wi:TId}{g0 g:GD}{tc0 tc:TTd}{te:TEd}(S:dN X scope cl ms ar) (cV:X.calm=true) (hi:QId X t0 i0 w0) (hg0:PGa X scope cl ar t0 g0)
  (hif0:∀C s H ex,QIf (aA X scope cl (X.N++ar) C s H ex) f0 tc0) (hi1:∀C s H ex,QId (aA X scope cl (X.N++ar) C s H ex) t1 i1 wi) (hg:PGa X scope cl ar t1 g) (hif:∀C s H ex,QIf (aA X scope cl (X.N++ar) C s H ex) f1 tc) (he:∀C s H ex,QEd (aA X scope cl (X.N++ar) C s H ex) elt te)
  (hs:∀x,foldedSetIterable i0 X.env x=pure x:=by intro _;rfl) (hs1:∀C x,foldedSetIterable i1 (compEnvC scope cl C X.env) x=pure x:=by intro _ _;rfl):QEd X (.ListComp elt [⟨t0,i0,f0,0⟩,⟨t1,i1,f1,0⟩] scope pos) (Gj ms ar.length w0 g0 tc0 wi g tc te):=by
 simp only[QEd.eq,QId.eq,QIf.eq]at *
 obtain⟨gv0,pg0,kg0⟩:=hg0;obtain⟨gv,pg,kg⟩:=hg;exact(um (tc:=upT X.K tc0) S cV hi pg0 hif0 (Eb (w1:=upI X.K wi) (tc1:=upT X.K tc) (te:=up X.K te) hi1 pg hif he hs1) hs).conv (sP kg0 fun h=>rF kg wZ h)
@[irreducible] def CN(t:TSd):TSd:=t
theorem wJ{t:TSd}:CN t=t:=by unfold CN;rfl
theorem aC{t:TSd}{E:iy}{Δ:DE}{M:DH}(h:t E Δ M):CN t E Δ M:=by rw[wJ];exact h
theorem bc{X:Cx}{st:List Stmt}{t:TSd}(h:QSs X st t):QSs X st (CN t):=by rw[wJ];exact h
theorem Ao{K:Params->PySem.W.Frag}{as:List Addr}{n t:Nat}{q:Program}{loose:List Str}{XP:(Str->Option Value)->Heap->Prop}{r:PySem.W.RowW}{d:DefRec}{kwd:List (Str×Expr)}{run:Value->List Value->Sem Value}(hk:∀P,as=(K P).map (·.1))
  (h:PySem.W.WalkO q loose XP (fun w h=>(K w.params).In h) r d kwd run):PySem.W.WalkX q loose XP (PySem.W.X.obsZ as) (PySem.W.X.valZ K n t) r d kwd run:=by
 intro w s₀ s₁ mg mb G y a o pm cd doc dV kV ho hd hcd hD hmg hg args vals as' L hpre hlay hrd hwl hlo;refine h w s₀ s₁ mg mb G (fun b u hu=>L.keeps b u ?_) a o pm cd doc dV kV ho hd hcd hD hmg hg args vals as' hpre hlay hrd hwl hlo;have y1:as.map s₀.heap.get?=(K w.params).map fun p=>some p.2:=congrArg (·.1) y;rw[hk w.params,List.map_map]at y1;have key:∀(l:PySem.W.Frag),(l.map fun p=>s₀.heap.get? p.1)=l.map (fun p=>some p.2)->List.lookup b l=some u->s₀.heap.get? b=some u:=by
  intro l
  induction l with
  |nil=>intro _ z;cases z
  |cons p l ih =>
   intro e z;rw[List.map_cons,List.map_cons,List.cons.injEq]at e;rw[List.lookup_cons]at z
   by_cases c:b=p.1
   ·subst c;rw[beq_self_eq_true]at z;cases z;exact e.1
   ·rw[beq_eq_false_iff_ne.mpr c]at z;exact ih e.2 z
 exact key _ y1 hu
end L2
namespace L2
open PySem PySem.W PySem.Calls PyProof.Rows
end L2
namespace L2
open PySem PySem.Spec PyProof.Rows
section
variable{X:Cx}
end
theorem nN{prog:Program}{w:World}{A:Around}{E:Value->Shared->Prop}{s:Shared}{it d:Addr}{i ep:Nat}{es:Array DictEntry}{od:Obj}{ok ov:Value}{Q:Option Value->Shared->Prop}
  (hit:IsItemIter s.heap it d i es.size ep ok ov) (hod:s.heap.get? d=some od) (hdd:od.data=.dict es ep) (hlt:i<es.size)
  (hQ:∀ h':Heap,IsItemIterOut h' it d (i + 1) es.size ep es[i].key es[i].val s.heap.objs.size → h'.get? s.heap.objs.size = some { cls:=Value.type "tuple",data:=Data.seq #[es[i].key,es[i].val] } → h'.objs.size = s.heap.objs.size + 1 →
   (∀b o,b≠it->s.heap.get? b=some o->h'.get? b=some o)->Q (some (Value.ref s.heap.objs.size)) { s with heap:=h' }):wpAny (model prog w) A (pyNext (Value.ref it)) Q E s:=by
 obtain⟨hp,g,dr,tk,os⟩:=s;dsimp only at hit hod hQ;have hT:Shared.TypeIs { heap:=hp,gens:=g,drawn:=dr,toks:=tk,os:=os } (Value.ref it) "dict_itemiterator":=⟨_,hit,rfl⟩;refine wpAny_bind (wpAny_attempt (wpAny_callSpecial?_slot hT F.slot_dict_itemiterator_next (wpAny_call_entry F.slot_dict_itemiterator_next hT F.entry_dict_itemiterator_next ?_)));refine wpAny_bind (wpAny_pure (wpAny_bind (wpAny_bind (wpAny_bind (wpAny_typeNameOfWhole_itemiter hT (wpAny_pure (wpAny_bind (wpAny_fieldsOf hit rfl ?_))))))));have hown:Builtin.Dict_items.ownsTuple "dict_itemiterator"=true:=by decide
 simp only[hown,if_true,List.drop_succ_cons,List.drop_zero,List.take_succ_cons,List.take_zero];refine wpAny_ite_false (Eq.refl (decide ((Value.ref d==Value.none)=true))) ?_;refine wpAny_bind (wpAny_pure (wpAny_bind (wpAny_dictEntries hod hdd ?_)));refine wpAny_ite_false (by simp) ?_;refine wpAny_bind (wpAny_pure (wpAny_bind (wpAny_dictEpoch hod hdd ?_)));refine wpAny_ite_false (by simp) (wpAny_pure ?_);have e1:(if((i:Nat):Int)<0 then none else es[((i:Nat):Int).toNat]?)=some es[i]:=by
  rw[if_neg (by omega),Int.toNat_natCast,Array.getElem?_eq_getElem hlt]
 simp only[e1];refine wpAny_bind (wpAny_bind (wpAny_typeNameOfWhole_itemiter hT (wpAny_pure (wpAny_bind (wpAny_isOneOf_itemiter hT ?_)))));refine wpAny_bind ?_;refine wpAny_setField_rec (k:=3) (x:=Value.int ((i:Int)+1) 0) hit (by simp) fun h₁ he₁ hs₁=>?_;have he₁:IsItemIter h₁ it d (i+1) es.size ep ok ov:=by
  show h₁.get? it=_;rw[he₁];simp
 have hT₁:Shared.TypeIs { heap:=h₁,gens:=g,drawn:=dr,toks:=tk,os:=os } (Value.ref it) "dict_itemiterator":=⟨_,he₁,rfl⟩;refine wpAny_bind (wpAny_holding ?_);refine wpAny_bind (wpAny_isOneOf_itemiter hT₁ ?_);refine wpAny_bind (wpAny_isOneOf_itemiter hT₁ ?_);refine wpAny_bind (wpAny_newTuple ?_);dsimp only;have hz₁:h₁.objs.size=hp.objs.size:=hs₁.1;have kp₁:∀b o,b≠it->hp.get? b=some o->h₁.get? b=some o:=fun b o hb e=>hs₁.extBut b o hb e;have he₂:IsItemIter (h₁.push { cls:=Value.type "tuple",data:=Data.seq #[es[i].key,es[i].val] }) it d (i+1) es.size ep ok ov:=Heap.get?_push_of_some _ he₁;have ht₂:(h₁.push { cls:=Value.type "tuple",data:=Data.seq #[es[i].key,es[i].val] }).get? h₁.objs.size=some { cls:=Value.type "tuple",data:=Data.seq #[es[i].key,es[i].val] }:=Heap.get?_push_size _ rfl;have kp₂:∀b o,b≠it->hp.get? b=some o->(h₁.push { cls:=Value.type "tuple",data:=Data.seq #[es[i].key,es[i].val] }).get? b=some o:=fun b o hb e=>Heap.get?_push_of_some _ (kp₁ b o hb e);have hz₂:(h₁.push { cls:=Value.type "tuple",data:=Data.seq #[es[i].key,es[i].val] }).objs.size=hp.objs.size+1:=by rw[Heap.size_push,hz₁]
 rw[hz₁]at ht₂ ⊢;generalize h₁.push { cls:=Value.type "tuple",data:=Data.seq #[es[i].key,es[i].val] }=h₂ at *
 have hne:hp.objs.size≠it:=fun z=>by
  have h0:it<hp.objs.size:=Heap.lt_size hit;rw[z]at h0;exact Nat.lt_irrefl _ h0
 refine wpAny_bind ?_;refine wpAny_bind (wpAny_field he₂ rfl rfl (wpAny_pure ?_));refine wpAny_ite_true (Eq.refl (decide (true=true))) ?_;refine wpAny_bind (wpAny_field he₂ rfl rfl (wpAny_bind (wpAny_field he₂ rfl rfl ?_)));refine wpAny_bind (wpAny_setField_rec he₂ (by simp) fun h₃ he₃ hs₃=>?_);refine wpAny_bind (wpAny_setField_rec he₃ (by simp) fun h₄ he₄ hs₄=>?_);refine wpAny_bind (wpAny_setField_rec he₄ (by simp) fun h₅ he₅ hs₅=>?_);refine wpAny_bind (wpAny_setField_rec he₅ (by simp) fun h₆ he₆ hs₆=>?_);refine wpAny_bind (wpAny_letGo (wpAny_pure (wpAny_pure ⟨_,rfl,wpAny_pure ?_⟩)));refine hQ h₆ ?_ ?_ ?_ fun b o hb e=>?_
 ·show h₆.get? it=_;rw[he₆];simp
 ·exact hs₆.extBut _ _ hne (hs₅.extBut _ _ hne (hs₄.extBut _ _ hne (hs₃.extBut _ _ hne ht₂)))
 ·have e1:=hs₃.1;have e2:=hs₄.1;have e3:=hs₅.1;have e4:=hs₆.1;dsimp only at e1 e2 e3 e4;omega
 ·exact hs₆.extBut _ _ hb (hs₅.extBut _ _ hb (hs₄.extBut _ _ hb (hs₃.extBut _ _ hb (kp₂ b o hb e))))
theorem iE{prog:Program}{w:World}{A:Around}{E:Value->Shared->Prop}{s:Shared}{it d:Addr}{i ep:Nat}{es:Array DictEntry}{od:Obj}{ok ov:Value}{Q:Option Value->Shared->Prop}
  (hA:A.handled=none) (hit:IsItemIter s.heap it d i es.size ep ok ov) (hod:s.heap.get? d=some od) (hdd:od.data=.dict es ep) (hlt:es.size<=i)
  (hQ:∀h':Heap,Heap.ExtBut it s.heap h'->Q none { s with heap:=h' }):wpAny (model prog w) A (pyNext (Value.ref it)) Q E s:=by
 obtain⟨hp,g,dr,tk,os⟩:=s;dsimp only at hit hod hQ;have hT:Shared.TypeIs { heap:=hp,gens:=g,drawn:=dr,toks:=tk,os:=os } (Value.ref it) "dict_itemiterator":=⟨_,hit,rfl⟩;refine wpAny_bind (wpAny_attempt (wpAny_callSpecial?_slot hT F.slot_dict_itemiterator_next (wpAny_call_entry F.slot_dict_itemiterator_next hT F.entry_dict_itemiterator_next ?_)));refine wpAny_bind (wpAny_pure (wpAny_bind (wpAny_bind (wpAny_bind (wpAny_typeNameOfWhole_itemiter hT (wpAny_pure (wpAny_bind (wpAny_fieldsOf hit rfl ?_))))))));have hown:Builtin.Dict_items.ownsTuple "dict_itemiterator"=true:=by decide
 simp only[hown,if_true,List.drop_succ_cons,List.drop_zero,List.take_succ_cons,List.take_zero];refine wpAny_ite_false (Eq.refl (decide ((Value.ref d==Value.none)=true))) ?_;refine wpAny_bind (wpAny_pure (wpAny_bind (wpAny_dictEntries hod hdd ?_)));refine wpAny_ite_false (by simp) ?_;refine wpAny_bind (wpAny_pure (wpAny_bind (wpAny_dictEpoch hod hdd ?_)));refine wpAny_ite_false (by simp) (wpAny_pure ?_);have e1:(if((i:Nat):Int)<0 then none else es[((i:Nat):Int).toNat]?)=none:=by
  rw[if_neg (by omega),Int.toNat_natCast,Array.getElem?_eq_none hlt]
 simp only[e1];refine wpAny_bind (wpAny_bind (wpAny_typeNameOfWhole_itemiter hT (wpAny_pure ?_)));refine wpAny_bind (wpAny_setField hit rfl (by simp[hown]) ?_);dsimp only;have kp:Heap.ExtBut it hp (hp.update it (Obj.mapFields fun x=>x.setIfInBounds (if Builtin.Dict_items.ownsTuple "dict_itemiterator"=true then 2 else 0) Value.none)):=(Heap.SameBut.update hp it _).extBut;generalize hp.update it (Obj.mapFields fun x=>x.setIfInBounds (if Builtin.Dict_items.ownsTuple "dict_itemiterator"=true then 2 else 0) Value.none)=h1 at kp;refine wpAny_bind ?_;unfold newExc;refine wpAny_bind (wpAny_newObj_type ?_ (show(#[]:Array Value).size<=_ by simp));refine wpAny_bind (wpAny_of_eq (Eq.refl (firstArgMember (Value.type "StopIteration") [])) ?_);refine wpAny_newObj_type ?_ (sizeOk_excFields _ _ _ _ _ _ _ _);refine wpAny_raiseNew_none hA ?_;refine wpAny_bind (wpAny_isInstance (T:="StopIteration") (b:=true) ⟨_,Heap.get?_push_size _ rfl,rfl⟩ rfl ?_);refine wpAny_ite_true (Eq.refl (decide (true=true))) (wpAny_pure ?_);exact hQ _ ((kp.push _).push _)
theorem nI{prog:Program}{w:World}{A:Around}{E:Value->Shared->Prop}{s:Shared}{d:Addr}{od:Obj}{es:Array DictEntry}{ep:Nat}{Q:Value->Shared->Prop}
  (hs:(d==sysModules)=false) (hod:s.heap.get? d=some od) (hx:od.ExactDict) (hdd:od.data=.dict es ep) 
  (hQ:Q (.ref s.heap.objs.size) { s with heap:=s.heap.push { cls:=.type "dict_items",data:=.fields #[.ref d] } }):wpAny (model prog w) A (call (.builtin "dict.items") [.ref d]) Q E s:=by
 have hT:s.TypeIs (.ref d) "dict":=⟨_,hod,hx.1⟩;refine wpAny_call_entry F.slot_dict_items hT F.entry_dict_items ?_ (F.args_dict_items_1 _);refine wpAny_bind ?_;show wpAny _ _ (Bind.bind _ _) _ _ _;refine wpAny_bind (wpAny_notOrdered_dict hT ?_);refine wpAny_pure ?_;show wpAny _ _ (do Builtin.Dict.showsAll d;let __do_lift <-newFields "dict_items" [Value.ref d];ret __do_lift) _ _ _;refine wpAny_bind (wpAny_ite_false (by simp[hs]) (wpAny_pure ?_));exact wpAny_bind (wpAny_newObj_type (wpAny_pure ⟨_,rfl,hQ⟩) (show(#[Value.ref d]:Array Value).size<=_ by simp))
theorem nR{prog:Program}{w:World}{A:Around}{E:Value->Shared->Prop}{s:Shared}{v d:Addr}{od:Obj}{es:Array DictEntry}{ep:Nat}{Q:Value->Shared->Prop}
  (hv:s.heap.IsItemsView v d) (hod:s.heap.get? d=some od) (hdd:od.data=.dict es ep)
  (hQ:∀h',IsItemIter h' s.heap.objs.size d 0 es.size ep .none .none->(∀b o,s.heap.get? b=some o->h'.get? b=some o)->Q (.ref s.heap.objs.size) { s with heap:=h' }):wpAny (model prog w) A (pyIter (.ref v)) Q E s:=by
 obtain⟨ov,hov,hcv,hdv⟩:=id hv;refine wpAny_pyIter_slot hv.typeIs F.slot_dict_items_iter (wpAny_call_entry F.slot_dict_items_iter hv.typeIs F.entry_dict_items_iter ?_ (F.args_dict_items_iter_1 _));refine wpAny_bind (wpAny_pure (wpAny_bind ?_));show wpAny _ _ (Bind.bind _ _) _ _ _;refine wpAny_bind (wpAny_field hov hdv rfl (wpAny_pure (wpAny_bind ?_)));show wpAny _ _ (Bind.bind _ _) _ _ _;refine wpAny_bind (wpAny_dictEntries hod hdd (wpAny_bind (wpAny_dictEpoch hod hdd ?_)));have hown:Builtin.Dict_items.ownsTuple "dict_itemiterator"=true:=by decide
 simp only[hown,if_true];refine wpAny_newObj_type (wpAny_pure ⟨_,rfl,"dict_itemiterator",_,⟨_,Heap.get?_push_size _ rfl,rfl⟩,F.slot_dict_itemiterator_next.lookup,?_⟩) (show Array.size _<=_ by simp[Builtin.Dict_items.ownedTupleFields];exact Nat.le_of_lt (xr (by decide)));exact hQ _ (Heap.get?_push_size _ rfl) fun b o e=>Heap.get?_push_of_some _ e
noncomputable def HF(a:Addr) (o:Obj) (ks:List (List Key×V)):It :=
 ⟨fun i H=>H a=some (.frz o (.dT ks))/\i<ks.length,fun i H x H'=>∃T q k v,x=.ref T/\H T=none/\ks[i]?=some (k,v)/\H q=some (.tup (k.map kV))/\H'=upd H T (.tup [.ref q,v]),fun i H=>H a=some (.frz o (.dT ks))/\ks.length<=i⟩
section
variable{X:Cx}{ae:List (Addr×Obj)}{σ:St}{H:Hp}{s:Shared}{a:Addr}{o:Obj}{ks:List (List Key×V)}
theorem Inv.freezeT(I:Inv X ae σ H s) (e:H a=some (.dT ks)):∃o,s.heap.get? a=some o/\Inv X ae σ (upd H a (.frz o (.dT ks))) s:=by
 have q:=I.hok a _ e;obtain⟨_,_,_,_,o,_,_,he,_⟩:=id q;refine⟨o,he,?_⟩;have ne:∀{b},H b≠some (.dT ks)->b≠a:=fun {b} z w=>z (by rw[w];exact e);have:=I.write (x:=a) (e:=a) (o:=.frz o (.dT ks)) (h':=s.heap) (t':=s.toks) (by rw[e];exact True.intro) (.inl rfl) (fun b u _ q=>q) ⟨o,he⟩ ⟨he,q.stay (fun c v _ r=>r) (fun c r=>by rw[aL (ne (by rw[r];intro z;cases z))];exact r) fun c xs r=>by rw[aL (ne (by rw[r];intro z;cases z))];exact r⟩;exact this
theorem sR{ep:Nat}{es:Array DictEntry}(I:Inv X ae σ H s) (e:H a=some (.frz o (.dT ks))) (hd:o.data=.dict es ep):s.heap.get? a=some o/\∃xs:List (List Key×Addr×Value),Paired (fun(p:List Key×V) (q:List Key×Addr×Value)=>p.1=q.1/\H q.2.1=some (.tup (p.1.map kV))/\aI p.2 q.2.2) ks xs/\es.toList=xs.map (entryOfKey (tupleKind (aP X.prog X.w))):=by
 obtain⟨q,hz,hs,xs,rel,o',es',ep',q',c,d',r,_⟩:=I.hok a _ e;rw[q]at q';cases q';rw[hd]at d';cases d';exact⟨q,xs,rel,r⟩
theorem ff{α β:Type}{F:α->β->Prop}:∀{l₁:List α}{l₂:List β},Paired F l₁ l₂->∀(i:Nat) (x:α),l₁[i]?=some x->∃y,l₂[i]?=some y/\F x y
 |_,_,.cons r _,0,x,h=>by cases h;exact⟨_,rfl,r⟩
 |_,_,.cons _ t,i+1,x,h=>ff t i x h
theorem n9:entryFor table "dict_itemiterator.__iter__"=some Builtin.«dict_keyiterator.__iter__»:=by kernel_rfl
theorem qf{prog:Program}{w:World}{A:Around}{E:Value->Shared->Prop}{s:Shared}{it d:Addr}{i n ep:Nat}{ok ov:Value}{Q:Value->Shared->Prop}(q:IsItemIter s.heap it d i n ep ok ov) (h:Q (.ref it) s):wpAny (model prog w) A (pyIter (.ref it)) Q E s :=
 wpAny_pyIter_slot (T:="dict_itemiterator") ⟨_,q,rfl⟩ PySem.F.slot_dict_itemiterator_iter (wpAny_call_entry PySem.F.slot_dict_itemiterator_iter ⟨_,q,rfl⟩ n9 (show wpAny _ _ (pure _) _ _ _ from wpAny_pure ⟨_,rfl,"dict_itemiterator",_,⟨_,q,rfl⟩,PySem.F.slot_dict_itemiterator_next.lookup,h⟩) (PySem.F.args_dict_itemiterator_iter_1 _))
theorem vA{P:Program}{w:World}{K:PySem.W.Frag}{elts:List Expr}{x1:Nat}{pt:Pos}(it:Addr) {ep:Nat}{es:Array DictEntry}(hd:o.data=.dict es ep) (hl:es.size=ks.length):jS P w K (.Tuple elts x1 pt) (HF a o ks) [it] it (fun i h=>∃ok ov,IsItemIter h it a i es.size ep ok ov) where
 mem:=by simp
 obj:=fun i h st b hb=>by
  have e:b=it:=by simpa using hb
  subst e;obtain⟨ok,ov,q⟩:=st;exact⟨_,q,fun v z=>by cases z⟩
 keep:=fun i h h' ⟨ok,ov,q⟩ k=>⟨ok,ov,k it (by simp) _ q⟩
 item:=by
  intro X hP hw hK hc i ae s σ H E I hf st hg;subst hP hw hK;obtain⟨e,hi⟩:=hg;obtain⟨hget,xs,rel,hes⟩:=sR I e hd;obtain⟨ok,ov,hit⟩:=st;obtain⟨⟨k,v⟩,hkv⟩:∃p,ks[i]?=some p:=⟨ks[i],by simp[hi]⟩;obtain⟨⟨k',q,u⟩,hx,rk,hq,ru⟩:=ff rel i _ hkv;have hlt:i<es.size:=by omega
  have hei:es[i]=entryOfKey (tupleKind (aP X.prog X.w)) (k',q,u):=by
   have h1:es.toList[i]?=some es[i]:=by simp[hlt]
   rw[hes,List.getElem?_map,hx]at h1;exact(Option.some.inj h1).symm
  have hek:es[i].key=.ref q:=by rw[hei];rfl
  have hev:es[i].val=u:=by rw[hei];rfl
  refine nN hit hget hd hlt fun h1 hout hT hsz keep=>⟨_,rfl,?_⟩;rw[hek,hev]at hout hT;have fe:=hf it (by simp);have In:H s.heap.objs.size=none:=I.hok.fresh (Nat.le_refl _);have eT:it<s.heap.objs.size:=Heap.lt_size hit;have I1:Inv X ae σ (upd H s.heap.objs.size (.tup [.ref q,v])) { s with heap:=s.heap.push { cls:=.type "tuple",data:=.seq #[.ref q,u] } } :=
   I.laid (t':=s.toks) (fun b o q=>Heap.get?_push_of_some _ q) (Nat.le_refl _) ⟨by simp only[List.length_cons,List.length_nil];rw[sizeLine_eq];decide,[.ref q,u],.cons rfl (.cons ru .nil),⟨_,Heap.get?_push_size s.heap rfl,rfl,⟨0,rfl⟩,rfl⟩⟩
  have fe1:du X ae (upd H s.heap.objs.size (.tup [.ref q,v])) it:=fe.upd (Nat.ne_of_lt eT);obtain⟨g0,g1,g2,g3,g4,g5⟩:=fe1;have I2:=I1.turned (t':=s.toks) (h':=h1) (it:=it) (fun b o hb q=>by
   rcases Heap.get?_push_cases q with z|z
   ·rw[z.1,z.2];exact hT
   ·exact keep b o hb z) g0 g1 g3 g4 g5
  refine wpAny_letOwnedTupleGo_items hout fun h2 he2 hs2=>?_;have I3:=I2.turned (t':=s.toks) (h':=h2) (it:=it) (fun b o hb q=>(hs2.2 b hb).trans q) g0 g1 g3 g4 g5;refine⟨.ref s.heap.objs.size,_,I3,rfl,⟨_,q,k,v,rfl,In,hkv,hq,rfl⟩,⟨_,_,he2⟩,fun b hb=>?_⟩;rw[show b=it by simpa using hb];exact g0
 done:=by
  intro X hP hw hK hc i ae s σ H E I hf st hg;subst hP hw hK;obtain⟨e,hi⟩:=hg;obtain⟨hget,xs,rel,hes⟩:=sR I e hd;obtain⟨ok,ov,hit⟩:=st;obtain⟨f0,f1,f2,f3,f4,f5⟩:=hf it (by simp);exact iE (I.ok.hd hc) hit hget hd (by omega) fun h' eb=>⟨rfl,I.turned (t':=s.toks) (fun b o hb q=>eb b o hb q) f0 f1 f3 f4 f5⟩
 self:=fun A i s Q E ⟨ok,ov,q⟩ h=>qf q h
end
section
variable{X:Cx}{l:Expr}{tl:TE}{te:TEd}{elts:List Expr}{x1:Nat}{pt cc bv:Pos}
theorem qT{K:PySem.W.Frag}{M:DH}{H:Hp}:∀ks:List Key,au K M H (ks.map kD) (ks.map kV)
 |[]=>au.nil
 |k::ks=>au.cons gR (qT ks)
end
section
variable{X:Cx}
open Classical in
end
section
variable{X:Cx}{a b e:Expr}{ta tb te:TEd}{pos:Pos}
def Dx(ta tb:TEd):TEd:=fun Δ M Q=>ta Δ M fun x M1=>tb Δ M1 fun y M2=>∃xs n,rdM M2 x=.lst xs/\y=.int n/\-(2 ^ 63)<=n/\n<2 ^ 63/\xs.length*n.toNat<=sizeLine/\∀p,M2 p=none->Q (.ref p) (av M2 p (.lst (List.replicate n.toNat xs).flatten))
theorem Es(ha:QEd X a ta) (hb:QEd X b tb):QEd X (.BinOp a .Mult b pos) (Dx ta tb):=by
 simp only[QEd.eq]at *
 exact(DJ zd ha hb).conv fun σ H Q hup=>hup.el fun Δ M R sr hr q k=>⟨Δ,M,_,sr,hr,q,fun x M1 v H1 q1 e1 hr1 rv=>⟨Δ,M1,_,sr.ext e1,hr1,q1,fun y M2 u H2 ⟨xs,n,ex,ey,h0,h1,hz,q2⟩ e2 hr2 ru=>by
   have r1:=(rv.ext e2).rd hr2;rw[ex]at r1;subst ey;simp only[Rep]at ru;obtain⟨l1,vs,rfl,hl,l1r⟩:=r1;exact⟨l1,n,vs,rfl,ru,hl,h0,h1,by rw[<-l1r.length];exact hz,fun p hp=>k _ _ _ _ (q2 p (hr2.fresh hp)) ((e1.trans e2).trans (Ext.own hp)) (hr2.own hp (l1r.rep n.toNat)) (by simp only[Rep])⟩⟩⟩
noncomputable def uy(ds:List D) (x:D):Option Nat:=if dLe x 59=true/\cM ds 59=true/\ds.length<2 ^ 62 then ds.findIdx? (fun d=>eqD d x)else none
theorem AE{ds:List D}{x:D}{j:Nat}(h:uy ds x=some j):dLe x 59=true/\cM ds 59=true/\ds.length<2 ^ 62/\∃hj:j<ds.length,eqD ds[j] x=true/\∀m (hm:m<ds.length),m<j->eqD ds[m] x=false:=by
 unfold uy at h
 by_cases hc:dLe x 59=true/\cM ds 59=true/\ds.length<2 ^ 62
 ·rw[if_pos hc]at h;obtain⟨hj,h1,h2⟩:=List.findIdx?_eq_some_iff_getElem.mp h;exact⟨hc.1,hc.2.1,hc.2.2,hj,h1,fun m hm hl=>by have:=h2 m hl;simpa using this⟩
 ·rw[if_neg hc]at h;cases h
section
open PySem.SeqAt PySem.MeetsSeq AutoSeq1
theorem tL(l:Addr) (xs:Array Value) (n:Nat) (od:Option Addr) (os:Array (Option Value)) (y:Value) (hit:Nat->Bool) (top:Int) (j:Nat) (lj:j<xs.size) (ltop:(j:Int)<top) (yes:hit j=true) :
  ∀(k i:Nat),j-i=k->i<=j->(∀m,i<=m->m<j->hit m=false)->Meets (Builtin.«list.index.loop» ⟨[.ref l,y,rawInt i,rawInt top],[]⟩)
   (fun B R t=>t.heap.get? l=some { cls:=.type "list",dict:=od,data:=.seq xs n,slots:=os }/\(∀m (h:m<xs.size),EqAt B.in1 t xs[m] y (hit m))/\R (.ok (.ret (.int j t.toks))) { t with toks:=t.toks+1 })
 |0,i,ek,hi,no,prog,w,B,R,t,q=>by
  obtain⟨th,tg,td,tt,to⟩:=t;obtain⟨ql,qe,qr⟩:=q;obtain rfl:i=j:=by omega
  wp_walk using wpAny_loadPart' ql
  rw[show(if(i:Int)<top then xs[((i:Nat):Int).toNat]? else none)=some xs[i]by simp[ltop,lj]];refine wpAny_bind (qe i lj prog w _ _ ?_);rw[yes]
  wp_walk
  exact qr
 |k+1,i,ek,hi,no,prog,w,B,R,t,q=>by
  obtain⟨th,tg,td,tt,to⟩:=t;obtain⟨ql,qe,qr⟩:=q;have li:i<xs.size:=by omega
  have lt:(i:Int)<top:=by omega
  wp_walk using wpAny_loadPart' ql
  rw[show(if(i:Int)<top then xs[((i:Nat):Int).toNat]? else none)=some xs[i]by simp[lt,li]];refine wpAny_bind (qe i li prog w _ _ ?_);rw[no i (Nat.le_refl _) (by omega)]
  wp_walk
  rw[show((i:Int)+1)=((i+1:Nat):Int)by omega];refine⟨plainId_quiet plain_index_loop _,codeAny_builtin entry_index_loop ?_⟩;rw[Around.under_plainId plain_index_loop _];exact tL l xs n od os y hit top j lj ltop yes k (i+1) (by omega) (by omega) (fun m a b=>no m (by exact Nat.le_of_lt (by assumption)) b) prog w B R _ ⟨ql,qe,qr⟩
theorem Bt(l:Addr) (xs:Array Value) (n:Nat) (od:Option Addr) (os:Array (Option Value)) (y:Value) (hit:Nat->Bool) (j:Nat) (lj:j<xs.size) (ls:(j:Int)<2 ^ 63-1) (yes:hit j=true) (no:∀m,m<j->hit m=false) :
  Meets (Builtin.«list.index» ⟨[.ref l,y],[]⟩)
   (fun B R t=>t.heap.get? l=some { cls:=.type "list",dict:=od,data:=.seq xs n,slots:=os }/\(∀m (h:m<xs.size),EqAt B.in1 t xs[m] y (hit m))/\R (.ok (.ret (.int j t.toks))) { t with toks:=t.toks+1 }):=by
 intro prog w B R t q;obtain⟨th,tg,td,tt,to⟩:=t;obtain⟨ql,qe,qr⟩:=q
 wp_walk using wpAny_loadPart' ql
 rw[show((fun i:Int=>if i<0 then max 0 (i+(xs.size:Int))else i) ((none:Option Int).getD 0))=((0:Nat):Int)by simp,show((fun i:Int=>if i<0 then max 0 (i+(xs.size:Int))else i) ((none:Option Int).getD (2 ^ 63-1)))=2 ^ 63-1 by simp];refine⟨plainId_quiet plain_index_loop _,codeAny_builtin entry_index_loop ?_⟩;rw[Around.under_plainId plain_index_loop _];exact tL l xs n od os y hit (2 ^ 63-1) j lj ls yes _ 0 rfl (Nat.zero_le _) (fun m _ b=>no m b) prog w B R _ ⟨ql,qe,qr⟩
end
end
section
variable{X:Cx}{o e:Expr}{to te:TEd}{cc bv:Pos}
def sD(ds:List D) (d:D) (m:Nat):Bool:=match ds[m]? with|some x=>eqD x d|none=>false
theorem Dg{ae:List (Addr×Obj)}{σ:St}{H:Hp}{s:Shared}{M:DH}{ds:List D}{d:D}{vs:List V}{its:List Value}{y:V}{u:Value}(I:Inv X ae σ H s) (hu:X.A.units+64<cLine) (rl:au X.K M H ds vs) (r:az vs its) (r1:aU X.K M H d y) (ry:aI y u) (h1:dLe d 59=true) (h2:cM ds 59=true) :
  ∀m (h:m<its.toArray.size),PySem.SeqAt.EqAt X.A.in1 s its.toArray[m] u (sD ds d m):=fun m h=>by
 have hl:ds.length=its.length:=rl.length.trans r.length;have h':m<its.length:=by simpa using h
 have h3:m<ds.length:=by omega
 obtain⟨v1,g1,p1⟩:=rl.get (i:=m) (d:=ds[m]) (by simp[h3]);obtain⟨u1,k1,m1⟩:=r.get g1;have e1:its.toArray[m]=u1:=by simpa[List.getElem?_eq_getElem h']using k1
 rw[e1,show sD ds d m=eqD ds[m] d by simp[sD,h3]];exact(ox I 59 (by show X.A.units+1+59<cLine;omega) (gi h2 (i:=m) (by simp[h3])) h1 p1.r r1 m1 ry).1
theorem AA{ds:List D}{x:D}{j:Nat}(h:uy ds x=some j):dLe x 59=true/\cM ds 59=true/\(j:Int)<2 ^ 63-1/\j<ds.length/\sD ds x j=true/\∀m,m<j->sD ds x m=false:=by
 obtain⟨h1,h2,h3,lj,yes,no⟩:=AE h;refine⟨h1,h2,by omega,lj,by simp[sD,lj,yes],fun m hm=>?_⟩;have hm':m<ds.length:=by omega
 simp[sD,hm',no m hm' hm]
theorem CL(hu:X.A.units+64<cLine):MtR X "list.index" (fun x xs H Q=>∃M ds d y j,xs=[y]/\aU X.K M H (.lst ds) x/\aU X.K M H d y/\uy ds d=some j/\Q (.int j) H):=by
 intro ae s σ H x xs v us Q I rx rv h;obtain⟨M,ds,d,y,j,rfl,r2,r1,hj,q⟩:=h;obtain⟨u,rfl,ry⟩:=az.one rv;obtain⟨l,vs,rfl,sq,rl⟩:=r2;cases rx;obtain⟨its,r,pl,hz⟩:=I.list (SqL.of sq);obtain⟨h1,h2,h3,lj,yes,no⟩:=AA hj;have hl:ds.length=its.length:=rl.length.trans r.length;obtain⟨⟨c,dd,dt,sl⟩,n,ho,hc,hdd,hdt⟩:=pl;obtain rfl:c=.type "list":=hc;obtain rfl:dt=.seq its.toArray n:=hdt;exact call_meets F.slot_list_index ⟨_,ho,rfl⟩ F.entry_list_index (F.args_list_index_2 _ _) (Bt l its.toArray n dd sl u (sD ds d) j (by simp;omega) h3 yes no) ⟨ho,Dg I hu rl r r1 ry h1 h2,⟨.int _,H,I.tok _,⟨_,rfl⟩,q⟩⟩
def DZ(to te:TEd):TEd:=fun Δ M Q=>to Δ M fun o M1=>(∃ds,rdM M1 o=.lst ds)/\te Δ M1 fun x M2=>∃ds j,rdM M2 o=.lst ds/\uy ds (rdM M2 x)=some j/\Q (.int j) M2
theorem Ec(hu:X.A.units+64<cLine) (ho:QEd X o to) (he:QEd X e te) (dq:attributeBase o "index" X.env (eval o X.env)=eval o X.env:=by rfl)
  (hse:starEach [e] X.env=(false,eval e X.env)::starEach [] X.env:=by rfl)
  (uJ:((backTo bv (starEach [e] X.env)).all (fun x => !x.1) && (backToKw bv (keywordEach [] X.env)).all (fun x => x.1.isSome)
  &&decide ([e].length+([]:List Keyword).length+(if([]:List Keyword).isEmpty then 0 else 1)<30))=true:=by rfl)
  (c9:(cc.endLine==bv.line)=true:=by rfl) (kc:(backTo bv (starEach [] X.env)).any (·.1)=false:=by rfl):QEd X (.Call (.Attribute o "index" cc) [e] [] bv) (DZ to te):=by
 rw[QEd.eq]at *
 refine(AR PySem.F.plainAttrs_list PySem.F.slot_list_index PySem.F.type_list_index (CL hu) ho (gY he nj hse) dq uJ c9 hse kc).conv fun σ H Q hh=>?_;obtain⟨Δ,M,R,sr,hr,q,k⟩:=hh;refine⟨Δ,M,_,sr,hr,q,fun o M1 ov H1 ⟨⟨ds0,e0⟩,q1⟩ e1 hr1 ro=>?_⟩;have r0:=ro.rd hr1;rw[e0]at r0;obtain⟨l0,vs0,rfl,hl0,_⟩:=r0;refine⟨.inl ⟨rfl,vs0,SqL.of hl0⟩,Δ,M1,_,sr.ext e1,hr1,q1,fun d M2 v H2 ⟨ds,j,ed,hj,q2⟩ e2 hr2 rv=>?_⟩;have r2:=(ro.ext e2).rd hr2;rw[ed]at r2;exact⟨M2,ds,_,v,j,rfl,r2,rv.rd hr2,hj,k _ M2 _ H2 q2 (e1.trans e2) hr2 (by simp[Rep])⟩
end
noncomputable def itN:Bool->String
 |true=>"tuple_iterator"
 |false=>"list_iterator"
noncomputable def sqN:Bool->String
 |true=>"tuple"
 |false=>"list"
def eS(b:Bool) (h:Heap) (i l:Addr) (k:Nat):Prop:=∃o,h.get? i=some o/\o.cls=.type (itN b)/\o.data=.fields #[.ref l,.int k 0]
def fN(b:Bool) (h:Heap) (l:Addr) (xs:Array Value):Prop:=∃o,h.get? l=some o/\o.cls=.type (sqN b)/\∃n,o.data=.seq xs n
section
variable{prog:Program}{w:World}{A:Around}{E:Value->Shared->Prop}{s:Shared}{b c:Bool}
theorem eS.go{h h':Heap}{i l:Addr}{k:Nat}(x:eS b h i l k) (f:∀o,h.get? i=some o->h'.get? i=some o):eS b h' i l k:=let⟨o,e,r⟩:=x;⟨o,f o e,r⟩
theorem fN.go{h h':Heap}{l:Addr}{xs:Array Value}(x:fN b h l xs) (f:∀o,h.get? l=some o->h'.get? l=some o):fN b h' l xs:=let⟨o,e,r⟩:=x;⟨o,f o e,r⟩
theorem jX{it l:Addr}{i:Nat}{xs:Array Value}{x:Value}{Q:Value->Shared->Prop}(p:eS b s.heap it l i) (q:fN b s.heap l xs) (hx:xs[i]?=some x)
  (k:∀h',eS b h' it l (i+1)->Heap.SameBut it s.heap h'->Q x { s with heap:=h' }):wpAny (model prog w) A (Builtin.SmallTypes.nextOf (.ref it)) Q E s:=by
 cases b with
 |true=>exact il (show s.heap.IsTupleIter it l i from p) (show s.heap.IsTuple l xs from q) hx k
 |false=>exact wpAny_nextOf_list_item (show s.heap.IsListIter it l i from p) (show s.heap.IsList l xs from q) hx k
theorem qg{it l:Addr}{i:Nat}{xs:Array Value}{Q:Value->Shared->Prop}(hh:A.handled=none) (p:eS b s.heap it l i) (q:fN b s.heap l xs) (hx:xs[i]?=none)
  (k:∀h' e,Heap.ExtBut it s.heap h'->(∃o,h'.get? e=some o/\o.cls=.type "StopIteration")->E (.ref e) { s with heap:=h' }):wpAny (model prog w) A (Builtin.SmallTypes.nextOf (.ref it)) Q E s:=by
 cases b with
 |true=>exact iG hh (show s.heap.IsTupleIter it l i from p) (show s.heap.IsTuple l xs from q) hx k
 |false=>exact wpAny_nextOf_list_end hh (show s.heap.IsListIter it l i from p) (show s.heap.IsList l xs from q) hx k
theorem yg{z T U i j l m:Addr}{k:Nat}{xs ys:Array Value}{x y u v:Value}{Q:Value->Shared->Prop}(D:ZipApart z T U i j l m)
  (hz:IsZip s.heap z T U .none) (hT:IsPair s.heap T (.ref i) (.ref j)) (hU:IsPair s.heap U u v) (hi:eS b s.heap i l k) (hj:eS c s.heap j m k) (hl:fN b s.heap l xs) (hm:fN c s.heap m ys) (hx:xs[k]?=some x) (hy:ys[k]?=some y)
  (q:∀ h',IsZip h' z T U (rawInt s.heap.objs.size) → IsPair h' U x y → eS b h' i l (k + 1) → eS c h' j m (k + 1) → IsPair h' s.heap.objs.size x y → h'.objs.size = s.heap.objs.size + 1 →
   (∀d o,d≠z->d≠U->d≠i->d≠j->s.heap.get? d=some o->h'.get? d=some o)->Q (.ref s.heap.objs.size) { s with heap:=h' }) :
  wpAny (model prog w) A (Builtin.«zip.__next__» ⟨[.ref z],[]⟩) (fun fin s'=>∃v,fin=.done (.ret v)/\Q v s') E s:=by
 show wpAny _ _ (field (.ref z) 2 >>= _) _ _ _;refine wpAny_bind (wpAny_field hz rfl (x:=.bool false) rfl ?_);show wpAny _ _ (field (.ref z) 3 >>= _) _ _ _;refine wpAny_bind (wpAny_field hz rfl (x:=.ref T) rfl (wpAny_bind (wpAny_seqItems hT rfl ?_)));show wpAny _ _ (Builtin.SmallTypes.ownedTupleIsFree (.ref z) >>= _) _ _ _;refine wpAny_bind ?_;unfold Builtin.SmallTypes.ownedTupleIsFree;refine wpAny_bind (wpAny_field hz rfl (x:=.none) rfl (wpAny_pure ?_));simp only[if_true];refine wpAny_bind (wpAny_rule (wpAny_bind (wpAny_field hz rfl (x:=.ref U) rfl ?_)));refine wpAny_bind (wpAny_setField_rec hz (by simp) fun g1 z1 s1=>?_);replace z1:IsZip g1 z T U .ellipsis:=z1;refine wpAny_bind ?_;simp only[List.zipIdx_cons,List.zipIdx_nil,List.forIn_cons,List.forIn_nil];refine wpAny_bind (wpAny_bind (wpAny_onRaise ?_));show wpAny _ _ (Builtin.SmallTypes.nextOf (.ref i) >>= _) _ _ _;refine wpAny_bind (jX (hi.go fun o e=>s1.extBut _ _ D.i1z e) (hl.go fun o e=>s1.extBut _ _ D.l1z e) hx fun g2 i2 s2=>wpAny_pure ?_);have u2:IsPair g2 U u v:=s2.extBut _ _ D.TOi1 (s1.extBut _ _ D.TOz hU);refine wpAny_bind (wpAny_seqItems u2 rfl (wpAny_bind (wpAny_updateSeq_pair u2 fun g3 u3 s3=>?_)));replace u3:IsPair g3 U x v:=u3;refine wpAny_bind (wpAny_letGo (wpAny_pure (wpAny_bind (wpAny_bind (wpAny_onRaise ?_)))));show wpAny _ _ (Builtin.SmallTypes.nextOf (.ref j) >>= _) _ _ _;refine wpAny_bind (jX (hj.go fun o e=>s3.extBut _ _ D.TOi2.symm (s2.extBut _ _ D.i12.symm (s1.extBut _ _ D.i2z e))) (hm.go fun o e=>s3.extBut _ _ D.l2TO (s2.extBut _ _ D.l2i1 (s1.extBut _ _ D.l2z e))) hy fun g4 j4 s4=>wpAny_pure ?_);have u4:IsPair g4 U x v:=s4.extBut _ _ D.TOi2 u3;refine wpAny_bind (wpAny_seqItems u4 rfl (wpAny_bind (wpAny_updateSeq_pair u4 fun g5 u5 s5=>?_)));replace u5:IsPair g5 U x y:=u5;refine wpAny_bind (wpAny_letGo (wpAny_pure (wpAny_pure (wpAny_bind (wpAny_seqItems u5 rfl (wpAny_bind (wpAny_newTuple ?_)))))));have sz:g5.objs.size=s.heap.objs.size:=by rw[s5.1,s4.1,s3.1,s2.1,s1.1]
 have z5:IsZip g5 z T U .ellipsis:=s5.extBut _ _ D.TOz.symm (s4.extBut _ _ D.i2z.symm (s3.extBut _ _ D.TOz.symm (s2.extBut _ _ D.i1z.symm z1)));have kp:∀d o,d≠z->d≠U->d≠i->d≠j->s.heap.get? d=some o->g5.get? d=some o:=fun d o a1 a2 a3 a4 e =>
  s5.extBut _ _ a2 (s4.extBut _ _ a4 (s3.extBut _ _ a2 (s2.extBut _ _ a3 (s1.extBut _ _ a1 e))))
 have i5:eS b g5 i l (k+1):=i2.go fun o e=>s5.extBut _ _ D.TOi1.symm (s4.extBut _ _ D.i12 (s3.extBut _ _ D.TOi1.symm e));have j5:eS c g5 j m (k+1):=j4.go fun o e=>s5.extBut _ _ D.TOi2.symm e;have lz:z<g5.objs.size:=Heap.lt_size z5;show wpAny _ _ (Builtin.SmallTypes.ownedTupleHandOut (.ref z) (.ref g5.objs.size) >>= _) _ _ _;refine wpAny_bind ?_;unfold Builtin.SmallTypes.ownedTupleHandOut;have z6:IsZip (g5.push { cls:=.type "tuple",data:=.seq #[x,y] }) z T U .ellipsis:=Heap.get?_push_of_some _ z5;refine wpAny_bind (wpAny_setField_rec z6 (by simp) fun g7 z7 s7=>?_);replace z7:IsZip g7 z T U (rawInt g5.objs.size):=z7;refine wpAny_setField_rec z7 (by simp) fun g8 z8 s8=>?_;replace z8:IsZip g8 z T U (rawInt g5.objs.size):=z8;have up:∀d o,d≠z->g5.get? d=some o->g8.get? d=some o:=fun d o a1 e=>s8.extBut _ _ a1 (s7.extBut _ _ a1 (Heap.get?_push_of_some _ e));have t8:IsPair g8 g5.objs.size x y:=s8.extBut _ _ (Nat.ne_of_gt lz) (s7.extBut _ _ (Nat.ne_of_gt lz) (Heap.get?_push_size _ rfl));have n8:g8.objs.size=g5.objs.size+1:=by rw[s8.1,s7.1,Heap.size_push]
 rw[sz]at z8 t8 n8;refine wpAny_pure ⟨_,rfl,?_⟩;show Q (.ref g5.objs.size) _;rw[sz];exact q g8 z8 (up _ _ D.TOz u5) (i5.go fun o e=>up _ o D.i1z e) (j5.go fun o e=>up _ o D.i2z e) t8 n8 fun d o a1 a2 a3 a4 e=>up d o a1 (kp d o a1 a2 a3 a4 e)
theorem Ae{z T U i j l m:Addr}{k:Nat}{xs ys:Array Value}{u v:Value}{Q:PySem.Fin->Shared->Prop}(hh:A.handled=none) (D:ZipApart z T U i j l m)
  (hz:IsZip s.heap z T U .none) (hT:IsPair s.heap T (.ref i) (.ref j)) (hU:IsPair s.heap U u v) (hi:eS b s.heap i l k) (hj:eS c s.heap j m k) (hl:fN b s.heap l xs) (hm:fN c s.heap m ys) (no:xs[k]?=none∨ys[k]?=none)
  (q:∀h' e,(∀d o,d≠z->d≠U->d≠i->d≠j->s.heap.get? d=some o->h'.get? d=some o)->(∃o,h'.get? e=some o/\o.cls=.type "StopIteration")->E (.ref e) { s with heap:=h' }) :
  wpAny (model prog w) A (Builtin.«zip.__next__» ⟨[.ref z],[]⟩) Q E s:=by
 show wpAny _ _ (field (.ref z) 2 >>= _) _ _ _;refine wpAny_bind (wpAny_field hz rfl (x:=.bool false) rfl ?_);show wpAny _ _ (field (.ref z) 3 >>= _) _ _ _;refine wpAny_bind (wpAny_field hz rfl (x:=.ref T) rfl (wpAny_bind (wpAny_seqItems hT rfl ?_)));show wpAny _ _ (Builtin.SmallTypes.ownedTupleIsFree (.ref z) >>= _) _ _ _;refine wpAny_bind ?_;unfold Builtin.SmallTypes.ownedTupleIsFree;refine wpAny_bind (wpAny_field hz rfl (x:=.none) rfl (wpAny_pure ?_));simp only[if_true];refine wpAny_bind (wpAny_rule (wpAny_bind (wpAny_field hz rfl (x:=.ref U) rfl ?_)));refine wpAny_bind (wpAny_setField_rec hz (by simp) fun g1 z1 s1=>?_);replace z1:IsZip g1 z T U .ellipsis:=z1;refine wpAny_bind ?_;simp only[List.zipIdx_cons,List.zipIdx_nil,List.forIn_cons,List.forIn_nil];refine wpAny_bind (wpAny_bind (wpAny_onRaise ?_));show wpAny _ _ (Builtin.SmallTypes.nextOf (.ref i) >>= _) _ _ _;cases hx:xs[k]? with
 |none =>
  refine wpAny_bind (qg hh (hi.go fun o e=>s1.extBut _ _ D.i1z e) (hl.go fun o e=>s1.extBut _ _ D.l1z e) hx fun g2 e s2 he=>?_);obtain⟨oe,e1,e2⟩:=he;have z2:IsZip g2 z T U .ellipsis:=s2 _ _ D.i1z.symm z1;have ne:e≠z:=fun p=>by subst p;rw[z2]at e1;cases e1;simp at e2
  exact wpAny_setField_rec z2 (by simp) fun g3 _ s3=>q g3 e (fun d o a1 _ a3 _ p=>s3.extBut _ _ a1 (s2 _ _ a3 (s1.extBut _ _ a1 p))) ⟨oe,s3.extBut _ _ ne e1,e2⟩
 |some x =>
  have hy:ys[k]?=none:=no.resolve_left (by rw[hx];exact nofun);refine wpAny_bind (jX (hi.go fun o e=>s1.extBut _ _ D.i1z e) (hl.go fun o e=>s1.extBut _ _ D.l1z e) hx fun g2 i2 s2=>wpAny_pure ?_);have u2:IsPair g2 U u v:=s2.extBut _ _ D.TOi1 (s1.extBut _ _ D.TOz hU);refine wpAny_bind (wpAny_seqItems u2 rfl (wpAny_bind (wpAny_updateSeq_pair u2 fun g3 u3 s3=>?_)));refine wpAny_bind (wpAny_letGo (wpAny_pure (wpAny_bind (wpAny_bind (wpAny_onRaise ?_)))));show wpAny _ _ (Builtin.SmallTypes.nextOf (.ref j) >>= _) _ _ _;refine wpAny_bind (qg hh (hj.go fun o e=>s3.extBut _ _ D.TOi2.symm (s2.extBut _ _ D.i12.symm (s1.extBut _ _ D.i2z e))) (hm.go fun o e=>s3.extBut _ _ D.l2TO (s2.extBut _ _ D.l2i1 (s1.extBut _ _ D.l2z e))) hy fun g4 e s4 he=>?_);obtain⟨oe,e1,e2⟩:=he;have z4:IsZip g4 z T U .ellipsis:=s4 _ _ D.i2z.symm (s3.extBut _ _ D.TOz.symm (s2.extBut _ _ D.i1z.symm z1));have ne:e≠z:=fun p=>by subst p;rw[z4]at e1;cases e1;simp at e2
  exact wpAny_setField_rec z4 (by simp) fun g5 _ s5=>q g5 e (fun d o a1 a2 a3 a4 p=>s5.extBut _ _ a1 (s4 _ _ a4 (s3.extBut _ _ a2 (s2.extBut _ _ a3 (s1.extBut _ _ a1 p))))) ⟨oe,s5.extBut _ _ ne e1,e2⟩
theorem qp{z T U i j l m:Addr}{k:Nat}{xs ys:Array Value}{x y u v:Value}{Q:Option Value->Shared->Prop}(D:ZipApart z T U i j l m)
  (hz:IsZip s.heap z T U .none) (hT:IsPair s.heap T (.ref i) (.ref j)) (hU:IsPair s.heap U u v) (hi:eS b s.heap i l k) (hj:eS c s.heap j m k) (hl:fN b s.heap l xs) (hm:fN c s.heap m ys) (hx:xs[k]?=some x) (hy:ys[k]?=some y)
  (q:∀ h',IsZip h' z T U (rawInt s.heap.objs.size) → IsPair h' U x y → eS b h' i l (k + 1) → eS c h' j m (k + 1) → IsPair h' s.heap.objs.size x y → h'.objs.size = s.heap.objs.size + 1 →
   (∀d o,d≠z->d≠U->d≠i->d≠j->s.heap.get? d=some o->h'.get? d=some o)->Q (some (.ref s.heap.objs.size)) { s with heap:=h' }) :
  wpAny (model prog w) A (pyNext (.ref z)) Q E s:=by
 have ty:s.TypeIs (.ref z) "zip":=⟨_,hz,rfl⟩;unfold pyNext;exact wpAny_bind (wpAny_attempt (wpAny_callSpecial?_slot (name:=Str.ofString "__next__") ty F.slot_zip_next (wpAny_call_entry F.slot_zip_next ty F.entry_zip_next
  (yg D hz hT hU hi hj hl hm hx hy fun h' a1 a2 a3 a4 a5 a6 a7=>wpAny_pure (q h' a1 a2 a3 a4 a5 a6 a7)) (F.args_zip_next_1 _))))
theorem sv{z T U i j l m:Addr}{k:Nat}{xs ys:Array Value}{u v:Value}{Q:Option Value->Shared->Prop}(hh:A.handled=none) (D:ZipApart z T U i j l m)
  (hz:IsZip s.heap z T U .none) (hT:IsPair s.heap T (.ref i) (.ref j)) (hU:IsPair s.heap U u v) (hi:eS b s.heap i l k) (hj:eS c s.heap j m k) (hl:fN b s.heap l xs) (hm:fN c s.heap m ys) (no:xs[k]?=none∨ys[k]?=none)
  (q:∀h',(∀d o,d≠z->d≠U->d≠i->d≠j->s.heap.get? d=some o->h'.get? d=some o)->Q none { s with heap:=h' }):wpAny (model prog w) A (pyNext (.ref z)) Q E s:=by
 have ty:s.TypeIs (.ref z) "zip":=⟨_,hz,rfl⟩;unfold pyNext;refine wpAny_bind (wpAny_attempt (wpAny_callSpecial?_slot (name:=Str.ofString "__next__") ty F.slot_zip_next (wpAny_call_entry F.slot_zip_next ty F.entry_zip_next (Ae hh D hz hT hU hi hj hl hm no fun h' e kp he=>?_) (F.args_zip_next_1 _))));obtain⟨o,e1,e2⟩:=he;exact wpAny_bind (wpAny_isInstance (T:="StopIteration") (b:=true) ⟨o,e1,e2⟩ isSubtype_stop (wpAny_pure (q _ kp)))
end
abbrev itO(b:Bool) (l:Addr):Obj:={ cls:=.type (itN b),data:=.fields #[.ref l,.int 0 0] }
abbrev zp1(h:Heap) (b:Bool) (l:Addr):Heap:=h.push (itO b l)
abbrev zp2(h:Heap) (b c:Bool) (l m:Addr):Heap:=(zp1 h b l).push (itO c m)
abbrev zp3(h:Heap) (b c:Bool) (l m:Addr):Heap:=(zp2 h b c l m).push { cls:=.type "tuple",data:=.seq #[.ref h.objs.size,.ref (zp1 h b l).objs.size] }
abbrev zp4(h:Heap) (b c:Bool) (l m:Addr):Heap:=(zp3 h b c l m).push { cls:=.type "tuple",data:=.seq #[.none,.none] }
abbrev zp5(h:Heap) (b c:Bool) (l m:Addr):Heap:=(zp4 h b c l m).push { cls:=.type "zip",data:=.fields #[.none,.bool false,.bool false,.ref (zp2 h b c l m).objs.size,.ref (zp3 h b c l m).objs.size] }
set_option maxHeartbeats 4000000 in
theorem vf(b c:Bool) (l m:Addr) (xs ys:Array Value) :
  Meets (Builtin.«zip.__new__» ⟨[.type "zip",.ref l,.ref m],[]⟩) (fun _ R s=>fN b s.heap l xs/\fN c s.heap m ys/\R (.ok (.ret (.ref (zp4 s.heap b c l m).objs.size))) { s with heap:=zp5 s.heap b c l m }) :=
 .of_wp fun prog w A R s h=>by
  obtain⟨hp,g,d,tk,os⟩:=s;obtain⟨h1,h2,hR⟩:=h;have hsub:=sub_zip;cases b with
  |true =>
   have p1:Heap.IsTuple (Shared.heap ⟨hp,g,d,tk,os⟩) l xs:=h1;cases c with
   |true =>
    have p2:Heap.IsTuple (Shared.heap ⟨hp.push { cls:=.type "tuple_iterator",data:=.fields #[.ref l,.int 0 0] },g,d,tk,os⟩) m ys:=fN.go (b:=true) h2 fun o e=>Heap.get?_push_of_some _ e
    wp_walk using wpAny_pyIter_tuple p1,wpAny_pyIter_tuple p2
    exact⟨_,rfl,hR⟩
   |false =>
    have p2:Heap.IsList (Shared.heap ⟨hp.push { cls:=.type "tuple_iterator",data:=.fields #[.ref l,.int 0 0] },g,d,tk,os⟩) m ys:=fN.go (b:=false) h2 fun o e=>Heap.get?_push_of_some _ e
    wp_walk using wpAny_pyIter_tuple p1,wpAny_pyIter_list p2
    exact⟨_,rfl,hR⟩
  |false =>
   have p1:Heap.IsList (Shared.heap ⟨hp,g,d,tk,os⟩) l xs:=h1;cases c with
   |true =>
    have p2:Heap.IsTuple (Shared.heap ⟨hp.push { cls:=.type "list_iterator",data:=.fields #[.ref l,.int 0 0] },g,d,tk,os⟩) m ys:=fN.go (b:=true) h2 fun o e=>Heap.get?_push_of_some _ e
    wp_walk using wpAny_pyIter_list p1,wpAny_pyIter_tuple p2
    exact⟨_,rfl,hR⟩
   |false =>
    have p2:Heap.IsList (Shared.heap ⟨hp.push { cls:=.type "list_iterator",data:=.fields #[.ref l,.int 0 0] },g,d,tk,os⟩) m ys:=fN.go (b:=false) h2 fun o e=>Heap.get?_push_of_some _ e
    wp_walk using wpAny_pyIter_list p1,wpAny_pyIter_list p2
    exact⟨_,rfl,hR⟩
theorem xt{prog:Program}{w:World}{A:Around}{E:Value->Shared->Prop}{s:Shared}{b c:Bool}{l m:Addr}{xs ys:Array Value}{Q:Value->Shared->Prop}(h1:fN b s.heap l xs) (h2:fN c s.heap m ys)
  (q:∀ h',IsZip h' (s.heap.objs.size + 4) (s.heap.objs.size + 2) (s.heap.objs.size + 3) .none → IsPair h' (s.heap.objs.size + 2) (.ref s.heap.objs.size) (.ref (s.heap.objs.size + 1)) →
   IsPair h' (s.heap.objs.size+3) .none .none->eS b h' s.heap.objs.size l 0->eS c h' (s.heap.objs.size+1) m 0->h'.objs.size=s.heap.objs.size+5 ->
   (∀d o,s.heap.get? d=some o->h'.get? d=some o)->Q (.ref (s.heap.objs.size+4)) { s with heap:=h' }) :
  wpAny (model prog w) A (call (.type "zip") [.ref l,.ref m]) Q E s:=by
 refine callType_new F.called_zip (by decide) (F.typeCall_zip_2 _ _) (F.newCall_zip_2 _ _) (fun ob=>F.args_object_init_3 ob _ _) F.entry_zip_new (vf b c l m xs ys) ⟨h1,h2,?_⟩;have y1:(zp1 s.heap b l).objs.size=s.heap.objs.size+1:=Heap.size_push ..;have y2:(zp2 s.heap b c l m).objs.size=s.heap.objs.size+2:=by rw[Heap.size_push,y1]
 have y3:(zp3 s.heap b c l m).objs.size=s.heap.objs.size+3:=by rw[Heap.size_push,y2]
 have y4:(zp4 s.heap b c l m).objs.size=s.heap.objs.size+4:=by rw[Heap.size_push,y3]
 have y5:(zp5 s.heap b c l m).objs.size=s.heap.objs.size+5:=by rw[Heap.size_push,y4]
 have f5:(zp5 s.heap b c l m).get? (zp4 s.heap b c l m).objs.size=some _:=Heap.get?_push_size _ rfl;have f4:(zp5 s.heap b c l m).get? (zp3 s.heap b c l m).objs.size=some _:=Heap.get?_push_of_some _ (Heap.get?_push_size _ rfl);have f3:(zp5 s.heap b c l m).get? (zp2 s.heap b c l m).objs.size=some _:=Heap.get?_push_of_some _ (Heap.get?_push_of_some _ (Heap.get?_push_size _ rfl));have f2:(zp5 s.heap b c l m).get? (zp1 s.heap b l).objs.size=some _:=Heap.get?_push_of_some _ (Heap.get?_push_of_some _ (Heap.get?_push_of_some _ (Heap.get?_push_size _ rfl)));have f1:(zp5 s.heap b c l m).get? s.heap.objs.size=some _:=Heap.get?_push_of_some _ (Heap.get?_push_of_some _ (Heap.get?_push_of_some _ (Heap.get?_push_of_some _ (Heap.get?_push_size _ rfl))));show _/\_;rw[y2,y3,y4]at f5;rw[y1,y2]at f3;rw[y3]at f4;rw[y1]at f2;rw[y4];exact⟨⟨_,f5,rfl⟩,q _ f5 f3 f4 ⟨_,f1,rfl,rfl⟩ ⟨_,f2,rfl,rfl⟩ y5 fun d o p=>Heap.get?_push_of_some _ (Heap.get?_push_of_some _ (Heap.get?_push_of_some _ (Heap.get?_push_of_some _ (Heap.get?_push_of_some _ p))))⟩
section
variable{X:Cx}{ae:List (Addr×Obj)}{σ:St}{H:Hp}{s:Shared}{h':Heap}
theorem Inv.turnedF{t':Nat}{fp:List Addr}(I:Inv X ae σ H s) (k:∀b o,b∉fp->s.heap.get? b=some o->h'.get? b=some o) (f:∀b∈fp,du X ae H b):Inv X ae σ H { s with heap:=h',toks:=t' }:=by
 have nit:∀b u,H b=some u->b∉fp:=fun b u q z=>by rw[(f b z).1]at q;cases q
 refine I.step (g':=s.gens) (d':=s.drawn) (ch:=fp) (fun b hb=>?_) (fun b o _ _ hc q _=>k b o hc q) (fun b o _ _ hc q _=>⟨o.slots,k b o hc q⟩) (fun _ _ _ _ n=>n)
  (fun b o hc q=>⟨o,k b o hc q⟩) (fun _ _ q=>q) (fun _ _ _ q=>q) (fun b ps q=>⟨#[],by rw[q];simp⟩) (fun m hm=>?_) (fun b u q=>?_) I.bare
 ·obtain⟨b0,b1,b2,b3,b4,b5⟩:=f b hb;exact⟨b3,b1,b4,b5⟩
 ·obtain⟨o,es,ep,ho,r⟩:=hm;exact⟨o,es,ep,k _ o (fun z=>(f _ z).2.1 rfl) ho,r⟩
 ·refine(I.hok b u q).stay (fun c v hc q'=>?_) (fun _ q=>q) fun _ _ q=>q;rcases hc with z|z
  ·rw[z]at q' ⊢;exact k _ _ (nit b u q) q'
  ·exact k c v (nit c _ z) q'
end
def SqB(b:Bool) (K:PySem.W.Frag) (H:Hp) (a:Addr) (xs:List V):Prop:=match b with
 |true=>SqT K H a xs
 |false=>SqL K H a xs
theorem Inv.sqB{X:Cx}{ae:List (Addr×Obj)}{σ:St}{H:Hp}{s:Shared}{b:Bool}{a:Addr}{xs:List V}(I:Inv X ae σ H s) (h:SqB b X.K H a xs):∃its:List Value,az xs its/\fN b s.heap a its.toArray:=by
 cases b with
 |true=>obtain⟨its,r,p,_⟩:=I.tuple h;exact⟨its,r,p⟩
 |false=>obtain⟨its,r,p,_⟩:=I.list h;exact⟨its,r,p.isList⟩
theorem Inv.sqB_inj{X:Cx}{ae:List (Addr×Obj)}{σ:St}{H:Hp}{s:Shared}{b:Bool}{a:Addr}{xs ys:List V}(I:Inv X ae σ H s) (h:SqB b X.K H a xs) (h':SqB b X.K H a ys):xs=ys:=by
 cases b with
 |true=>exact I.tuple_inj h h'
 |false=>exact I.list_inj h h'
noncomputable def Itz(K:PySem.W.Frag) (b c:Bool) (l m:Addr) (n:Nat):It :=
  ⟨fun i H=>(∃xs ys,SqB b K H l xs/\SqB c K H m ys/\min xs.length ys.length=n)/\i<n,
   fun i H x H'=>∃T u v,x=.ref T/\H T=none/\H'=upd H T (.tup [u,v])/\(∀xs,SqB b K H l xs->xs[i]?=some u)/\∀ys,SqB c K H m ys->ys[i]?=some v,
   fun i H=>(∃xs ys,SqB b K H l xs/\SqB c K H m ys/\min xs.length ys.length=n)/\n<=i⟩
theorem Aw{P:Program}{w:World}{K:PySem.W.Frag}{elts:List Expr}{x1:Nat}{pt:Pos}(b c:Bool) (l m z T U i1 i2:Addr) (n:Nat):jS P w K (.Tuple elts x1 pt) (Itz K b c l m n) [z,T,U,i1,i2] z
  (fun i h=>IsZip h z T U .none/\IsPair h T (.ref i1) (.ref i2)/\(∃u v,IsPair h U u v)/\eS b h i1 l i/\eS c h i2 m i/\ZipApart z T U i1 i2 l m/\i<=n) where
 mem:=by simp
 obj:=fun i h st d hd=>by
  obtain⟨a1,a2,⟨u,v,a3⟩,⟨o4,a4,_,d4⟩,⟨o5,a5,_,d5⟩,_⟩:=st;simp only[List.mem_cons,List.not_mem_nil,or_false]at hd;rcases hd with rfl|rfl|rfl|rfl|rfl
  ·exact⟨_,a1,fun v y=>by cases y⟩
  ·exact⟨_,a2,fun v y=>by cases y⟩
  ·exact⟨_,a3,fun v y=>by cases y⟩
  ·exact⟨o4,a4,fun v y=>by rw[d4]at y;cases y⟩
  ·exact⟨o5,a5,fun v y=>by rw[d5]at y;cases y⟩
 keep:=fun i h h' st k=>by
  obtain⟨a1,a2,⟨u,v,a3⟩,a4,a5,a6,a7⟩:=st;exact⟨k z (by simp) _ a1,k T (by simp) _ a2,⟨u,v,k U (by simp) _ a3⟩,a4.go fun o e=>k i1 (by simp) o e,a5.go fun o e=>k i2 (by simp) o e,a6,a7⟩
 item:=by
  intro X hP hw hK hc i ae s σ H E I hf st hg;subst hP hw hK;obtain⟨⟨xs,ys,hq,hq2,hmin⟩,hin⟩:=hg;obtain⟨a1,a2,⟨u0,v0,a3⟩,a4,a5,D,le⟩:=st;obtain⟨its,rv,p⟩:=I.sqB hq;obtain⟨its2,rv2,p2⟩:=I.sqB hq2;have l1:=rv.length;have l2:=rv2.length;have hx:xs[i]?=some (xs[i]'(by omega)):=by simp
  have hy:ys[i]?=some (ys[i]'(by omega)):=by simp
  generalize xs[i]'(by omega)=x at hx;generalize ys[i]'(by omega)=y at hy;obtain⟨u,hu,ru⟩:=rv.get hx;obtain⟨v,hv,rv3⟩:=rv2.get hy;refine qp D a1 a2 a3 a4 a5 p p2 (by simpa using hu) (by simpa using hv) fun h1 b1 b2 b3 b4 b5 b6 kp=>?_;refine⟨_,rfl,?_⟩;have In:H s.heap.objs.size=none:=I.hok.fresh (Nat.le_refl _);have lt:∀{d o},s.heap.get? d=some o->d≠s.heap.objs.size:=fun e=>Nat.ne_of_lt (Heap.lt_size e);have n1:=lt a1;have n2:=lt a2;have n3:=lt a3;have n4:i1≠s.heap.objs.size:=by obtain⟨o,e,_⟩:=a4;exact lt e
  have n5:i2≠s.heap.objs.size:=by obtain⟨o,e,_⟩:=a5;exact lt e
  have ne:∀d∈[z,T,U,i1,i2],d≠s.heap.objs.size:=fun d hd=>by
   simp only[List.mem_cons,List.not_mem_nil,or_false]at hd;rcases hd with rfl|rfl|rfl|rfl|rfl<;>assumption
  have I1:Inv X ae σ (upd H s.heap.objs.size (.tup [x,y])) { s with heap:=s.heap.push { cls:=.type "tuple",data:=.seq #[u,v] },toks:=s.toks } :=
   I.laid (fun b o q=>Heap.get?_push_of_some _ q) (Nat.le_refl _) ⟨by simp only[List.length_cons,List.length_nil];rw[sizeLine_eq];decide,[u,v],.cons ru (.cons rv3 .nil),jY.new _ _⟩
  have f1:∀d∈[z,T,U,i1,i2],du X ae (upd H s.heap.objs.size (.tup [x,y])) d:=fun d hd=>(hf d hd).upd (ne d hd);have I2:Inv X ae σ (upd H s.heap.objs.size (.tup [x,y])) { s with heap:=h1,toks:=s.toks }:=I1.turnedF (t':=s.toks) (fun d o hd q=>by
   simp only[List.mem_cons,List.not_mem_nil,or_false,not_or]at hd
   by_cases hs:d=s.heap.objs.size
   ·subst hs;rw[Heap.get?_push_size s.heap rfl]at q;cases q;exact b5
   ·refine kp d o hd.1 hd.2.2.1 hd.2.2.2.1 hd.2.2.2.2 ?_;rcases Heap.get?_push_cases q with y|y
    ·exact absurd y.1 hs
    ·exact y) f1
  refine wpAny_letOwnedTupleGo_zip b1 fun h2 c1 c2=>?_;have I3:=I2.turnedF (t':=s.toks) (h':=h2) (fp:=[z,T,U,i1,i2]) (fun d o hd q=>(c2.2 d (fun e=>hd (by simp[e]))).trans q) f1;refine⟨.ref s.heap.objs.size,_,I3,rfl,⟨_,x,y,rfl,In,rfl,fun zs hzs=>by rw[I.sqB_inj hzs hq];exact hx,fun zs hzs=>by rw[I.sqB_inj hzs hq2];exact hy⟩,⟨c1,?_,⟨u,v,(c2.2 U D.TOz).trans b2⟩,b3.go fun o e=>(c2.2 i1 D.i1z).trans e,b4.go fun o e=>(c2.2 i2 D.i2z).trans e,D,hin⟩,fun d hd=>(f1 d hd).1⟩;exact(c2.2 T D.TIz).trans (kp T _ D.TIz D.TITO D.TIi1 D.TIi2 a2)
 done:=by
  intro X hP hw hK hc i ae s σ H E I hf st hg;subst hP hw hK;obtain⟨⟨xs,ys,hq,hq2,hmin⟩,hin⟩:=hg;obtain⟨a1,a2,⟨u0,v0,a3⟩,a4,a5,D,le⟩:=st;obtain⟨its,rv,p⟩:=I.sqB hq;obtain⟨its2,rv2,p2⟩:=I.sqB hq2;have l1:=rv.length;have l2:=rv2.length;refine sv (I.ok.hd hc) D a1 a2 a3 a4 a5 p p2 ?_ fun h' kp=>⟨rfl,I.turnedF (t':=s.toks) (fp:=[z,T,U,i1,i2]) (fun d o hd q=>?_) hf⟩
  ·rcases Nat.le_total xs.length ys.length with h|h
   ·left;simp;omega
   ·right;simp;omega
  ·simp only[List.mem_cons,List.not_mem_nil,or_false,not_or]at hd;exact kp d o hd.1 hd.2.2.1 hd.2.2.2.1 hd.2.2.2.2 q
 self:=fun _ _ _ _ _ st h=>wpAny_pyIter_zip st.1 h
noncomputable def Ab:D->Option (Bool×List D)
 |.tup es=>some (true,es)
 |.lst es=>some (false,es)
 |_=>none
noncomputable def iu:List D->List D->List D
 |a::as,b::bs=>.tup [a,b]::iu as bs
 |_,_=>[]
theorem mV:∀(as bs:List D) (i:Nat),(iu as bs)[i]?=match as[i]?,bs[i]? with|some a,some b=>some (.tup [a,b])|_,_=>none
 |[],bs,i=>by simp[iu]
 |a::as,[],i=>by
  simp only[iu,List.getElem?_nil];cases(a::as)[i]?<;>rfl
 |a::as,b::bs,0=>by simp[iu]
 |a::as,b::bs,i+1=>by simp only[iu,List.getElem?_cons_succ];exact mV as bs i
theorem ix:∀(as bs:List D),(iu as bs).length=min as.length bs.length
 |[],bs=>by simp[iu]
 |a::as,[]=>by simp[iu]
 |a::as,b::bs=>by simp only[iu,List.length_cons,ix as bs];omega
def DG(ta:TAd):TId:=fun Δ M R=>ta Δ M fun ds M1=>∃x y b c es fs,ds=[x,y]/\Ab x=some (b,es)/\Ab y=some (c,fs)/\R (iu es fs) M1
theorem Bl:bootBuiltins "zip"=some (.type "zip"):=by kernel_rfl
theorem sT{K:PySem.W.Frag}{M:DH}{H:Hp}{x:D}{b:Bool}{es:List D}{v:V}(h:Ab x=some (b,es)) (r:Rep K M H x v):∃a vs,v=.ref a/\au K M H es vs/\SqB b K H a vs/\∀M' H',Ext M H M' H'->SqB b K H' a vs/\au K M' H' es vs:=by
 cases x with
 |tup ds =>
  cases h;simp only[Rep]at r;obtain⟨a,vs,rfl,t,rl⟩:=r;exact⟨a,vs,rfl,rl,t.sq,fun M' H' e=>⟨(t.ext e).sq,rl.ext e⟩⟩
 |lst ds =>
  cases h;simp only[Rep]at r;obtain⟨a,vs,rfl,t,rl⟩:=r;exact⟨a,vs,rfl,rl,SqL.of t.1,fun M' H' e=>⟨SqL.of (t.ext e).1,rl.ext e⟩⟩
 |_=>cases h
section
variable{X:Cx}{a1 a2:Expr}{t:TAd}{pos:Pos}
theorem F8{elts:List Expr}{x1:Nat}{pt p:Pos}(hg:Gl X "zip") (hm:X.mg "zip"=none) (ha:QAd X [a1,a2] t) (hs:starEach [a1,a2] X.env=(false,eval a1 X.env)::starEach [a2] X.env:=by rfl) (hpl:(backTo pos (starEach [a2] X.env)).any (·.1)=false:=by rfl):QId X (.Tuple elts x1 pt) (.Call (.Name "zip" p) [a1,a2] [] pos) (DG t):=by
 simp only[QAd.eq,QId.eq]at *
 intro ae s σ H R I hh;obtain⟨Δ,M,R',sr,hr,q,k⟩:=hh;refine Call_ (jP I hg hm Bl (PyProof.Rows.callWith_type1 (thn (ha pos ae s σ H (fun vs H1=>∃x y b c es fs M1,Ab x=some (b,es)/\Ab y=some (c,fs)/\au X.K M1 H1 [x,y] vs/\R' (iu es fs) M1/\Ext M H M1 H1/\HR X.K M1 H1) I ⟨Δ,M,_,sr,hr,q,fun ds M1 vs H1 ⟨x,y,b,c,es,fs,ed,ex,ey,q1⟩ e1 hr1 rv=>⟨x,y,b,c,es,fs,M1,ex,ey,by rw[<-ed];exact rv,q1,e1,hr1⟩⟩) fun us s1 ⟨vs,H1,I1,r1,x,y,b,c,es,fs,M1,ex,ey,rv,q1,e1,hr1⟩=>?_) hs hpl));obtain⟨v1,v2,rfl,rx,ry⟩:∃v1 v2,vs=[v1,v2]/\Rep X.K M1 H1 x v1/\Rep X.K M1 H1 y v2:=by
  simp only[au]at rv;obtain⟨v1,ws,rfl,h1,v2,ws2,rfl,h2,rfl⟩:=rv;exact⟨v1,v2,rfl,h1,h2⟩
 obtain⟨l,vs,rfl,rl,sl,kl⟩:=sT ex rx;obtain⟨m,ws,rfl,rm,sm,km⟩:=sT ey ry;obtain⟨u1,u2,rfl,w1,w2⟩:∃u1 u2,us=[u1,u2]/\aI (.ref l) u1/\aI (.ref m) u2:=by
  cases r1 with
  |cons p1 r1 =>
   cases r1 with
   |cons p2 r1 =>
    cases r1;exact⟨_,_,rfl,p1,p2⟩
 cases w1;cases w2;obtain⟨its,rvv,pl⟩:=I1.sqB sl;obtain⟨its2,rvv2,pm⟩:=I1.sqB sm;have ll:l<s1.heap.objs.size:=by obtain⟨o,e,_⟩:=pl;exact Heap.lt_size e
 have lm:m<s1.heap.objs.size:=by obtain⟨o,e,_⟩:=pm;exact Heap.lt_size e
 refine xt pl pm fun h' c1 c2 c3 c4 c5 c6 kp=>?_;refine wpAny_pyIter_zip c1 ?_;have DA:ZipApart (s1.heap.objs.size+4) (s1.heap.objs.size+2) (s1.heap.objs.size+3) s1.heap.objs.size (s1.heap.objs.size+1) l m:=zipApart_new ll lm;refine⟨_,[_,_,_,_,_],_,_,H1,rfl,I1.kept (t':=s1.toks) kp,Aw b c l m _ _ _ _ _ (min es.length fs.length),⟨c1,c2,⟨_,_,c3⟩,c4,c5,DA,Nat.zero_le _⟩,fun d hd=>?_,?_⟩
 ·have hle:s1.heap.objs.size<=d:=by
   simp only[List.mem_cons,List.not_mem_nil,or_false]at hd;rcases hd with rfl|rfl|rfl|rfl|rfl
   ·exact Nat.le_add_right _ _
   ·exact Nat.le_add_right _ _
   ·exact Nat.le_add_right _ _
   ·exact Nat.le_refl _
   ·exact Nat.le_add_right _ _
  exact I1.fpOk hle (I1.hok.fresh hle)
 ·have h1:=rl.length;have h2:=rm.length;refine k _ M1 _ H1 q1 e1 hr1 fun M2 H2 e2 hr2 i=>⟨fun d hd=>?_,fun hl=>⟨⟨vs,ws,(kl _ _ e2).1,(km _ _ e2).1,by omega⟩,by rw[ix]at hl;exact hl⟩⟩;rw[mV]at hd;cases hda:es[i]? with
  |none=>rw[hda]at hd;cases hd
  |some d1 =>
   cases hdb:fs[i]? with
   |none=>rw[hda,hdb]at hd;cases hd
   |some d2 =>
    rw[hda,hdb]at hd;have hd':D.tup [d1,d2]=d:=by simpa using hd
    subst hd';have hi:i<es.length:=(List.getElem?_eq_some_iff.mp hda).1;have hi2:i<fs.length:=(List.getElem?_eq_some_iff.mp hdb).1;obtain⟨g1,gv,g2⟩:=(kl _ _ e2).2.get hda;obtain⟨g3,gw,g4⟩:=(km _ _ e2).2.get hdb;refine⟨⟨⟨vs,ws,(kl _ _ e2).1,(km _ _ e2).1,by omega⟩,by omega⟩,fun x' H' ⟨T,u,v,ex',hT,eH,hy1,hy2⟩=>?_⟩;subst ex';subst eH;have z1:=hy1 vs (kl _ _ e2).1;have z2:=hy2 ws (km _ _ e2).1;rw[gv]at z1;cases z1;rw[gw]at z2;cases z2;refine⟨Ext.new hr2 hT,hr2.new hT,?_⟩;simp only[Rep];refine⟨T,[g1,g3],rfl,.inl ⟨.inl aB,hr2.fresh hT⟩,?_⟩;exact au.cons (g2.ext (Ext.new hr2 hT)) (au.cons (g4.ext (Ext.new hr2 hT)) au.nil)
end
section
variable{X:Cx}{scope:Scope}{cl:List (Str×Addr)}{ar:List Str}{tg:Expr}{pos:Pos}
end
noncomputable def lR(ks:List Key):D:=.box .key (ks.map kD)
section
variable{K:PySem.W.Frag}{M:DH}{H:Hp}
theorem kT{ds:List D}{v:V}:Rep K M H (.box .key ds) v↔∃a vs,v=.ref a/\(H a=some (.tup vs)/\M a=none)/\au K M H ds vs:=by
 simp only[Rep,ia];exact⟨fun⟨a,vs,e,⟨_,⟨_,r⟩,n⟩,h⟩=>⟨a,vs,e,⟨r,n⟩,h⟩,fun⟨a,vs,e,⟨r,n⟩,h⟩=>⟨a,vs,e,⟨trivial,⟨(),r⟩,n⟩,h⟩⟩
theorem lY{ds:List D}{v:V}(h:Rep K M H (.box .key ds) v):Rep K M H (.tup ds) v:=by
 obtain⟨a,vs,e,⟨r,n⟩,h⟩:=kT.mp h;simp only[Rep];exact⟨a,vs,e,.inl ⟨.inl r,n⟩,h⟩
theorem iO{ks:List Key}{v:V}(h:Rep K M H (lR ks) v):∃a,v=.ref a/\H a=some (.tup (ks.map kV)):=by
 obtain⟨a,vs,e,⟨r,_⟩,h⟩:=kT.mp h;rw[jh h]at r;exact⟨a,e,r⟩
theorem mU{κ:Type}:∀{ks:List κ}{ds:List D}{vs:List V},ks.length=vs.length->au K M H ds vs->KR K M H (ks.zip ds) (ks.zip vs)
 |[],_,_,_,_=>by simp only[List.zip_nil_left];exact .nil
 |k::ks,ds,vs,hl,h=>by
  cases vs with
  |nil=>cases hl
  |cons v vs =>
   cases ds with
   |nil=>have:=h.length;cases this
   |cons d ds =>
    simp only[au]at h;obtain⟨_,_,e,h1,h2⟩:=h;cases e;exact .cons ⟨rfl,h1⟩ (mU (Nat.succ.inj hl) h2)
noncomputable def asT(M:DH):D->Option (List (List Key×D))
 |.ref a=>match M a with|some (.dT kvs)=>some kvs|_=>none
 |.box (.dt ks) ds=>some (ks.zip ds)
 |_=>none
noncomputable def asK(M:DH):D->Option (List (Key×D))
 |.ref a=>match M a with|some (.dK kvs)=>some kvs|_=>none
 |.box (.dk ks) ds=>some (ks.zip ds)
 |_=>none
theorem kn{x:D}{v:V}{kvs:List (List Key×D)}(hr:HR K M H) (h:Rep K M H x v) (e:asT M x=some kvs):∃a ks,v=.ref a/\Rd H a (.dT ks)/\KR K M H kvs ks:=by
 cases x with
 |ref a =>
  simp only[asT]at e;simp only[Rep]at h
  split at e
  ·rename_i q;cases e;obtain⟨ks,h1,kr⟩:=hr a _ q;exact⟨a,ks,h,.inl h1,kr⟩
  ·cases e
 |box t ds =>
  cases t with
  |dt ks =>
   cases e;simp only[Rep,ia]at h;obtain⟨a,vs,e,⟨hl,⟨o,r⟩,_⟩,h2⟩:=h;exact⟨a,_,e,.inr ⟨o,r⟩,mU hl h2⟩
  |_=>cases e
 |_=>cases e
theorem rE{x:D}{v:V}{kvs:List (Key×D)}(hr:HR K M H) (h:Rep K M H x v) (e:asK M x=some kvs):∃a ks,v=.ref a/\Rd H a (.dK ks)/\KR K M H kvs ks:=by
 cases x with
 |ref a =>
  simp only[asK]at e;simp only[Rep]at h
  split at e
  ·rename_i q;cases e;obtain⟨ks,h1,kr⟩:=hr a _ q;exact⟨a,ks,h,.inl h1,kr⟩
  ·cases e
 |box t ds =>
  cases t with
  |dk ks =>
   cases e;simp only[Rep,ia]at h;obtain⟨a,vs,e,⟨hl,⟨o,r⟩,_⟩,h2⟩:=h;exact⟨a,_,e,.inr ⟨o,r⟩,mU hl h2⟩
  |_=>cases e
 |_=>cases e
theorem cX{a:Addr}{kvs:List (List Key×D)}(h:M a=some (.dT kvs)):asT M (.ref a)=some kvs:=by simp only[asT,h]
theorem CO{ks:List (List Key)}{ds:List D}:asT M (.box (.dt ks) ds)=some (ks.zip ds):=rfl
theorem Cz{ks:List Key}{ds:List D}:asK M (.box (.dk ks) ds)=some (ks.zip ds):=rfl
end
section
variable{X:Cx}{e i o:Expr}{es:List Expr}{te ti to:TEd}{t:TAd}{pos:Pos}
def GL(te:TEd):TEd:=fun Δ M Q=>te Δ M fun d M1=>∃ds,d=.box .key ds/\Q (.tup ds) M1
def AZ(t:TAd):TEd:=fun Δ M Q=>t Δ M fun ds M1=>ds.length<=sizeLine/\Q (.box .key ds) M1
def v9(to ti:TEd):TEd:=fun Δ M Q=>to Δ M fun x M1=>ti Δ M1 fun y M2=>∃kvs ks d,asT M2 x=some kvs/\y=lR ks/\bw kvs ks=some d/\Q d M2
def zr(to ti:TEd):TEd:=fun Δ M Q=>to Δ M fun x M1=>ti Δ M1 fun y M2=>∃kvs k d,asK M2 x=some kvs/\y=kD k/\bw kvs k=some d/\Q d M2
def wy(to ti te:TEd):TSd:=fun E Δ M=>te Δ M fun d M1=>to Δ M1 fun x M2=>ti Δ M2 fun y M3=>∃a kvs ks,x=.ref a/\M3 a=some (.dT kvs)/\y=lR ks/\kvs.length<sizeLine/\E.nx Δ (av M3 a (.dT (df kvs ks d)))
def va(to ti te:TEd):TEd:=fun Δ M Q=>to Δ M fun x M1=>(asT M1 x).isSome=true/\ti Δ M1 fun y M2=>te Δ M2 fun z M3=>∃kvs ks,asT M3 x=some kvs/\y=lR ks/\Q ((bw kvs ks).getD z) M3
def yW(to ti te:TEd):TEd:=fun Δ M Q=>to Δ M fun x M1=>(asK M1 x).isSome=true/\ti Δ M1 fun y M2=>te Δ M2 fun z M3=>∃kvs k,asK M3 x=some kvs/\y=kD k/\Q ((bw kvs k).getD z) M3
end
noncomputable def uc(f:Str) (d:D):List (Str×D)->List (Str×D)
 |[]=>[(f,d)]
 |(g,x)::r=>if g=f then(g,d)::r else(g,x)::uc f d r
section
variable{K:PySem.W.Frag}{M:DH}{H:Hp}
theorem KR.putF{f:Str}{d:D}{v:V}(rv:Rep K M H d v):∀{fs:List (Str×D)}{gs:List (Str×V)},KR K M H fs gs->KR K M H (uc f d fs) (L2.putF f v gs):=by
 intro fs gs h;unfold KR at h ⊢
 induction h with
 |nil=>exact .cons ⟨rfl,rv⟩ .nil
 |@cons p q ps qs r t ih =>
  obtain⟨g,x⟩:=p;obtain⟨g',y⟩:=q;obtain⟨rfl,r2⟩:=r;simp only[uc,L2.putF]
  split
  ·exact .cons ⟨rfl,rv⟩ t
  ·exact .cons ⟨rfl,r2⟩ ih
theorem KR.look{f:Str}{d:D}:∀{fs:List (Str×D)}{gs:List (Str×V)},KR K M H fs gs->fs.lookup f=some d->∃v,gs.lookup f=some v/\Rep K M H d v:=by
 intro fs gs h;unfold KR at h
 induction h with
 |nil=>intro e;cases e
 |@cons p q ps qs r t ih =>
  obtain⟨g,x⟩:=p;obtain⟨g',y⟩:=q;obtain⟨rfl,r2⟩:=r;intro e;simp only[List.lookup_cons]at e ⊢
  split at e
  ·cases e;exact⟨y,rfl,r2⟩
  ·exact ih e
end
section
variable{X:Cx}{e o:Expr}{es:List Expr}{te to:TEd}{t:TAd}{pos p pos':Pos}{f x:Str}{C:Addr}
def Bg(C:Addr) (f:Str) (te:TEd):TEd:=fun Δ M Q=>te Δ M fun d M1=>∃a fs z,d=.ref a/\M1 a=some (.ins C fs)/\fs.lookup f=some z/\Q z M1
def DK(C:Addr) (f:Str) (to te:TEd):TSd:=fun E Δ M=>te Δ M fun y M1=>to Δ M1 fun d M2=>∃a fs,d=.ref a/\M2 a=some (.ins C fs)/\fs.length<1000/\E.nx Δ (av M2 a (.ins C (uc f y fs)))
structure MkD(P:Program) (w:World) (K:PySem.W.Frag) (mg:Str->Option Value) (base:Heap) (x:Str) (C:Addr) (k n:Nat) (S:SpD):Prop where
 ex:∃(f:Addr) (fd:FuncData) (ps:List Str),Mk K C f/\bf P w K mg base CX0 k f fd ps (spD K n S)/\mg x=some (.ref C)/\er K fd ps []
def D1(C:Addr) (n:Nat) (S:SpD) (t:TAd):TEd:=fun Δ M Q=>t Δ M fun ds M1=>ds.length+1=n/\∀x,M1 x=none->S (.ref x::ds) (av M1 x (.ins C [])) fun d M2=>d=.non/\Q (.ref x) M2
end
section
variable{X:Cx}{e:Expr}{te:TEd}
def Hl(t:TE):TE:=fun σ H Q=>t σ H fun x H1=>∃a ks,x=.ref a/\H1 a=some (.dT ks)/\∀o,Q x (upd H1 a (.frz o (.dT ks)))
theorem C8{t:TE}(h:PE X e t):PE X e (Hl t):=by
 intro ae s σ H Q I q;refine thn (h ae s σ H _ I q) fun v s1 ⟨x,H1,I1,r,a,ks,ex,ea,q1⟩=>?_;obtain⟨o,_,I2⟩:=I1.freezeT ea;exact⟨x,_,I2,r,q1 o⟩
def GV(t:TE):TE:=fun σ H Q=>t σ H fun x H1=>∃a ks,x=.ref a/\H1 a=some (.dK ks)/\∀o,Q x (upd H1 a (.frz o (.dK ks)))
theorem Ds{t:TE}(h:PE X e t):PE X e (GV t):=by
 intro ae s σ H Q I q;refine thn (h ae s σ H _ I q) fun v s1 ⟨x,H1,I1,r,a,ks,ex,ea,q1⟩=>?_;obtain⟨o,_,I2⟩:=I1.freeze ea;exact⟨x,_,I2,r,q1 o⟩
theorem dG{κ β:Type}:∀l:List (κ×β),(l.map (·.1)).zip (l.map (·.2))=l
 |[]=>rfl
 |p::l=>by rw[List.map_cons,List.map_cons,List.zip_cons_cons,dG l]
theorem vW{K:PySem.W.Frag}{M:DH}{H:Hp}{κ:Type}{kvs:List (κ×D)}{ks:List (κ×V)}(h:KR K M H kvs ks):au K M H (kvs.map (·.2)) (ks.map (·.2)):=by
 unfold KR at h
 induction h with
 |nil=>exact au.nil
 |cons r _ ih=>exact au.cons r.2 ih
noncomputable def gC(kvs:List (List Key×D)):D:=.box (.dt (kvs.map (·.1))) (kvs.map (·.2))
noncomputable def lq(kvs:List (Key×D)):D:=.box (.dk (kvs.map (·.1))) (kvs.map (·.2))
theorem iP{M:DH}{kvs:List (List Key×D)}:asT M (gC kvs)=some kvs:=by unfold gC;rw[CO,dG]
theorem rT{M:DH}{kvs:List (Key×D)}:asK M (lq kvs)=some kvs:=by unfold lq;rw[Cz,dG]
theorem kU{M1:DH}{H1:Hp}{a:Addr}{u:HD}{o:HO}(em:M1 a=some u):Ext M1 H1 (fZ M1 a) (upd H1 a o):=fun b w z n=>by
 have hb:b≠a:=fun w=>by rw[w,em]at n;cases n
 rw[aL hb,kA hb];exact⟨z,n⟩
theorem Ap{K:PySem.W.Frag}{M1:DH}{H1:Hp}{a:Addr}{u:HD}{o:HO}(hr:HR K M1 H1) (em:M1 a=some u):HR K (fZ M1 a) (upd H1 a o):=fun b w z=>by
 have hb:b≠a:=fun w=>by rw[w,dE]at z;cases z
 rw[kA hb]at z;exact(hr b w z).keep (kU em) (aL hb)
def zf(te:TEd):TEd:=fun Δ M Q=>te Δ M fun d M1=>∃a kvs,d=.ref a/\M1 a=some (.dT kvs)/\Q (gC kvs) (fZ M1 a)
def Bp(te:TEd):TEd:=fun Δ M Q=>te Δ M fun d M1=>∃a kvs,d=.ref a/\M1 a=some (.dK kvs)/\Q (lq kvs) (fZ M1 a)
end
noncomputable def DL(a:Addr) (o:Obj) (ks:List (Key×V)):It :=
 ⟨fun i H=>H a=some (.frz o (.dK ks))/\i<ks.length,fun i H x H'=>∃T k v,x=.ref T/\H T=none/\ks[i]?=some (k,v)/\H'=upd H T (.tup [kV k,v]),fun i H=>H a=some (.frz o (.dK ks))/\ks.length<=i⟩
section
variable{X:Cx}{ae:List (Addr×Obj)}{σ:St}{H:Hp}{s:Shared}{a:Addr}{o:Obj}{ks:List (Key×V)}
theorem tF{P:Program}{w:World}{K:PySem.W.Frag}{elts:List Expr}{x1:Nat}{pt:Pos}(it:Addr) {ep:Nat}{es:Array DictEntry}(hd:o.data=.dict es ep) (hl:es.size=ks.length):jS P w K (.Tuple elts x1 pt) (DL a o ks) [it] it (fun i h=>∃ok ov,IsItemIter h it a i es.size ep ok ov) where
 mem:=by simp
 obj:=fun i h st b hb=>by
  have e:b=it:=by simpa using hb
  subst e;obtain⟨ok,ov,q⟩:=st;exact⟨_,q,fun v z=>by cases z⟩
 keep:=fun i h h' ⟨ok,ov,q⟩ k=>⟨ok,ov,k it (by simp) _ q⟩
 item:=by
  intro X hP hw hK hc i ae s σ H E I hf st hg;subst hP hw hK;obtain⟨e,hi⟩:=hg;obtain⟨hget,hz,hs,vs,rel,o',es',ep',q',c,d',hk,hp,_⟩:=I.hok a _ e;rw[hget]at q';cases q';rw[hd]at d';cases d';obtain⟨ok,ov,hit⟩:=st;obtain⟨⟨k,v⟩,hkv⟩:∃p,ks[i]?=some p:=⟨ks[i],by simp[hi]⟩;obtain⟨⟨k',u⟩,hx,rk,ru⟩:=ff rel i _ hkv;have hlt:i<es.size:=by omega
  obtain⟨hkey,hval⟩:=hp.get? (e:=es[i]) (by simp[hlt]) hx;have rkey:aI (kV k) es[i].key:=by
   have:k=k':=rk;rw[this];exact rf hkey
  have rval:aI v es[i].val:=by rw[hval];exact ru
  refine nN hit hget hd hlt fun h1 hout hT hsz keep=>⟨_,rfl,?_⟩;have fe:=hf it (by simp);have In:H s.heap.objs.size=none:=I.hok.fresh (Nat.le_refl _);have eT:it<s.heap.objs.size:=Heap.lt_size hit;have I1:Inv X ae σ (upd H s.heap.objs.size (.tup [kV k,v])) { s with heap:=s.heap.push { cls:=.type "tuple",data:=.seq #[es[i].key,es[i].val] } } :=
   I.laid (t':=s.toks) (fun b o q=>Heap.get?_push_of_some _ q) (Nat.le_refl _) ⟨by simp only[List.length_cons,List.length_nil];rw[sizeLine_eq];decide,[es[i].key,es[i].val],.cons rkey (.cons rval .nil),⟨_,Heap.get?_push_size s.heap rfl,rfl,⟨0,rfl⟩,rfl⟩⟩
  have fe1:du X ae (upd H s.heap.objs.size (.tup [kV k,v])) it:=fe.upd (Nat.ne_of_lt eT);obtain⟨g0,g1,g2,g3,g4,g5⟩:=fe1;have I2:=I1.turned (t':=s.toks) (h':=h1) (it:=it) (fun b o hb q=>by
   rcases Heap.get?_push_cases q with z|z
   ·rw[z.1,z.2];exact hT
   ·exact keep b o hb z) g0 g1 g3 g4 g5
  refine wpAny_letOwnedTupleGo_items hout fun h2 he2 hs2=>?_;have I3:=I2.turned (t':=s.toks) (h':=h2) (it:=it) (fun b o hb q=>(hs2.2 b hb).trans q) g0 g1 g3 g4 g5;refine⟨.ref s.heap.objs.size,_,I3,rfl,⟨_,k,v,rfl,In,hkv,rfl⟩,⟨_,_,he2⟩,fun b hb=>?_⟩;rw[show b=it by simpa using hb];exact g0
 done:=by
  intro X hP hw hK hc i ae s σ H E I hf st hg;subst hP hw hK;obtain⟨e,hi⟩:=hg;obtain⟨hget,_⟩:=I.hok a _ e;obtain⟨ok,ov,hit⟩:=st;obtain⟨f0,f1,f2,f3,f4,f5⟩:=hf it (by simp);exact iE (I.ok.hd hc) hit hget hd (by omega) fun h' eb=>⟨rfl,I.turned (t':=s.toks) (fun b o hb q=>eb b o hb q) f0 f1 f3 f4 f5⟩
 self:=fun A i s Q E ⟨ok,ov,q⟩ h=>qf q h
end
section
variable{X:Cx}{l:Expr}{tl:TE}{te:TEd}{elts:List Expr}{x1:Nat}{pt cc bv:Pos}
def IX(tl:TE):TI:=fun σ H R=>tl σ H fun x H1=>∃a o ks,x=.ref a/\H1 a=some (.frz o (.dT ks))/\R (HF a o ks) H1
theorem yd(hl:PE X l tl) (dq:attributeBase l "items" X.env (eval l X.env)=eval l X.env:=by rfl) (c9:(cc.endLine==bv.line)=true:=by rfl):PI X (.Tuple elts x1 pt) (.Call (.Attribute l "items" cc) [] [] bv) (IX tl):=by
 intro ae s σ H R I h;refine wpAny_Call_method0_late dq c9 (thn (hl ae s σ H _ I h) fun v s1 hup=>hup.el fun x H1 I1 r1 q1=>?_);obtain⟨a,o,ks,e,ea,q⟩:=q1;subst e;cases r1;obtain⟨t1,t2,_⟩:=vb I1 (.inr ⟨ks,.inr ⟨o,ea⟩⟩);obtain⟨ho,_,hs,xs,rel,o',es,ep,q',c,hd,r,_⟩:=I1.hok a _ ea;rw[ho]at q';cases q';refine⟨"dict","dict.items",PySem.F.plainAttrs_dict,PySem.F.slot_dict_items,PySem.F.type_dict_items,t1,t2,Calls.callWith_builtin rfl (PySem.evalArgs_none ?_)⟩;refine nI hs ho c hd ?_;have I3:=I1.kept (t':=s1.toks) (h':=s1.heap.push { cls:=.type "dict_items",data:=.fields #[.ref a] }) fun b o e=>Heap.get?_push_of_some _ e;refine nR (d:=a) (od:=o) (es:=es) (ep:=ep) ⟨_,Heap.get?_push_size _ rfl,rfl,rfl⟩ (Heap.get?_push_of_some _ ho) hd fun h' hit keep=>?_;have I4:=I3.kept (t':=s1.toks) (h':=h') keep;have bp:es.size=ks.length:=by
  have h1:=congrArg List.length r;rw[Array.length_toList,List.length_map]at h1;rw[h1];exact(Paired.length rel).symm
 refine⟨_,[_],_,_,_,rfl,I4,vA _ hd bp,⟨_,_,hit⟩,fun b hb=>?_,q⟩;have e:=List.mem_singleton.mp hb;rw[e];exact I3.fpOk (Nat.le_refl _) (I3.hok.fresh (Nat.le_refl _))
def Hw(tl:TE):TI:=fun σ H R=>tl σ H fun x H1=>∃a o ks,x=.ref a/\H1 a=some (.frz o (.dK ks))/\R (DL a o ks) H1
theorem uU(hl:PE X l tl) (dq:attributeBase l "items" X.env (eval l X.env)=eval l X.env:=by rfl) (c9:(cc.endLine==bv.line)=true:=by rfl):PI X (.Tuple elts x1 pt) (.Call (.Attribute l "items" cc) [] [] bv) (Hw tl):=by
 intro ae s σ H R I h;refine wpAny_Call_method0_late dq c9 (thn (hl ae s σ H _ I h) fun v s1 hup=>hup.el fun x H1 I1 r1 q1=>?_);obtain⟨a,o,ks,e,ea,q⟩:=q1;subst e;cases r1;obtain⟨t1,t2,_⟩:=vb I1 (.inl ⟨ks,.inr ⟨o,ea⟩⟩);obtain⟨ho,_,hs,vs,rel,o',es,ep,q',c,hd,hk,hp,_⟩:=I1.hok a _ ea;rw[ho]at q';cases q';refine⟨"dict","dict.items",PySem.F.plainAttrs_dict,PySem.F.slot_dict_items,PySem.F.type_dict_items,t1,t2,Calls.callWith_builtin rfl (PySem.evalArgs_none ?_)⟩;refine nI hs ho c hd ?_;have I3:=I1.kept (t':=s1.toks) (h':=s1.heap.push { cls:=.type "dict_items",data:=.fields #[.ref a] }) fun b o e=>Heap.get?_push_of_some _ e;refine nR (d:=a) (od:=o) (es:=es) (ep:=ep) ⟨_,Heap.get?_push_size _ rfl,rfl,rfl⟩ (Heap.get?_push_of_some _ ho) hd fun h' hit keep=>?_;have I4:=I3.kept (t':=s1.toks) (h':=h') keep;have bp:es.size=ks.length:=by
  have h1:=hp.length;rw[Array.length_toList]at h1;rw[h1];exact(Paired.length rel).symm
 refine⟨_,[_],_,_,_,rfl,I4,tF _ hd bp,⟨_,_,hit⟩,fun b hb=>?_,q⟩;have e:=List.mem_singleton.mp hb;rw[e];exact I3.fpOk (Nat.le_refl _) (I3.hok.fresh (Nat.le_refl _))
def Aj(te:TEd):TId:=fun Δ M R=>te Δ M fun d M1=>∃kvs,d=gC kvs/\R (kvs.map fun p=>.tup [lR p.1,p.2]) M1
def DO(te:TEd):TId:=fun Δ M R=>te Δ M fun d M1=>∃kvs,d=lq kvs/\R (kvs.map fun p=>.tup [kD p.1,p.2]) M1
end
noncomputable abbrev IQ(elt t0 i0 t1 i1 t2 i2:Expr) (f0 f1 f2:List Expr) (scope:Scope) (pos:Pos):Expr:=lcE elt [⟨t0,i0,f0,0⟩,⟨t1,i1,f1,0⟩,⟨t2,i2,f2,0⟩] scope pos
def Hu(ms:List Bool) (k:Nat) (w0:TId) (g0:GD) (tc0:TTd) (w1:TId) (g1:GD) (tc1:TTd) (w2:TId) (g2:GD) (tc2:TTd) (te:TEd):TEd:=Dd ms k w0 g0 tc0 (j6 w1 g1 tc1 (j6 w2 g2 tc2 (oE te)))
section
variable{X:Cx}{scope:Scope}{cl:List (Str×Addr)}{ms:List Bool}{ar:List Str}{elt t0 i0 t1 i1 t2 i2:Expr}{f0 f1 f2:List Expr}{pos:Pos}{w0 w1 w2:TId}{g0 g1 g2:GD}{tc0 tc1 tc2:TTd}{te:TEd}
theorem GN(S:dN X scope cl ms ar) (cV:X.calm=true) (hi:QId X t0 i0 w0) (hg0:PGa X scope cl ar t0 g0) (hif0:∀C s H ex,QIf (aA X scope cl (X.N++ar) C s H ex) f0 tc0)
  (hi1:∀C s H ex,QId (aA X scope cl (X.N++ar) C s H ex) t1 i1 w1) (hg1:PGa X scope cl ar t1 g1) (hif1:∀C s H ex,QIf (aA X scope cl (X.N++ar) C s H ex) f1 tc1)
  (hi2:∀C s H ex,QId (aA X scope cl (X.N++ar) C s H ex) t2 i2 w2) (hg2:PGa X scope cl ar t2 g2) (hif2:∀C s H ex,QIf (aA X scope cl (X.N++ar) C s H ex) f2 tc2) (he:∀C s H ex,QEd (aA X scope cl (X.N++ar) C s H ex) elt te)
  (hs:∀x,foldedSetIterable i0 X.env x=pure x:=by intro _;rfl) (hs1:∀C x,foldedSetIterable i1 (compEnvC scope cl C X.env) x=pure x:=by intro _ _;rfl) (hs2:∀C x,foldedSetIterable i2 (compEnvC scope cl C X.env) x=pure x:=by intro _ _;rfl) :
  QEd X (.ListComp elt [⟨t0,i0,f0,0⟩,⟨t1,i1,f1,0⟩,⟨t2,i2,f2,0⟩] scope pos) (Hu ms ar.length w0 g0 tc0 w1 g1 tc1 w2 g2 tc2 te):=by
 simp only[QEd.eq,QId.eq,QIf.eq]at *
 obtain⟨gv0,pg0,kg0⟩:=hg0;obtain⟨gv1,pg1,kg1⟩:=hg1;obtain⟨gv2,pg2,kg2⟩:=hg2;refine(um (tc:=upT X.K tc0) (p:=i0.pos) (B:=sI (upI X.K w1) gv1 (upT X.K tc1) (sI (upI X.K w2) gv2 (upT X.K tc2) (me (up X.K te)))) S cV hi pg0 hif0 (fun _ _ _ _ _ c=>?_) hs).conv (sP kg0 fun h=>rF kg1 (fun h=>rF kg2 wZ h) h);exact qV (wi:=upI X.K w1) (tc:=upT X.K tc1) c (qV (wi:=upI X.K w2) (tc:=upT X.K tc2) c (rh (te:=up X.K te) (k:=2) (p:=i2.pos) c (he _ _ _ _) fun _ _ _=>rfl) (fun _ _ _=>rfl) (hs2 _) (hi2 _ _ _ _) (pg2 _ _ _ _) (hif2 _ _ _ _) (k:=1) (p:=i1.pos) fun _ _ _=>rfl) (fun _ _ _=>rfl) (hs1 _) (hi1 _ _ _ _) (pg1 _ _ _ _) (hif1 _ _ _ _) fun _ _ _=>rfl
end
section
variable{X:Cx}{e i o l:Expr}{es:List Expr}{te ti to:TEd}{t:TAd}{pos p pos' cc bv:Pos}{f x:Str}{C:Addr}{elts:List Expr}{x1:Nat}{pt:Pos}
theorem pI(h:QEd X e te):QEd X e (GL te):=by
 simp only[QEd.eq]at *
 exact PE.conv h fun σ H Q hup=>hup.el fun Δ M R sr hr q k=>⟨Δ,M,_,sr,hr,q,fun d M1 v H1 ⟨ds,ed,q1⟩ e1 hr1 rv=>k _ M1 v H1 q1 e1 hr1 (lY (by rw[<-ed];exact rv))⟩
theorem tX{x1}(h:QAd X es t):QEd X (.Tuple es x1 pos) (AZ t):=by
 simp only[QEd.eq,QAd.eq]at *
 exact(mX h).conv fun σ H Q hup=>hup.el fun Δ M R sr hr q k=>⟨Δ,M,_,sr,hr,q,fun ds M1 vs H1 ⟨z,q1⟩ e1 hr1 rv=>⟨by rw[<-rv.length];exact z,fun p hp=>k _ M1 _ _ q1 (e1.trans (Ext.new hr1 hp)) (hr1.new hp)
   (kT.mpr ⟨p,vs,rfl,⟨aB,hr1.fresh hp⟩,rv.ext (Ext.new hr1 hp)⟩)⟩⟩
theorem iD(hu:X.A.units+1<cLine) (ho:QEd X o to) (hi:QEd X i ti) (hs:tN i):QEd X (.Subscript o i pos) (v9 to ti):=by
 simp only[QEd.eq]at *
 exact PE.conv (qu hu ho hi hs) fun σ H Q hup=>hup.el fun Δ M R sr hr q k=>⟨Δ,M,_,sr,hr,q,fun x M1 v H1 q1 e1 hr1 rv=>⟨Δ,M1,_,sr.ext e1,hr1,q1,fun y M2 u H2 ⟨kvs,ky,d,ea,ey,ed,q2⟩ e2 hr2 ru=>by
   subst ey;obtain⟨a,ks,rfl,h2,kr⟩:=kn hr2 (rv.ext e2) ea;obtain⟨b,rfl,hb⟩:=iO ru;obtain⟨w,hw,rw_⟩:=(kr.val ky).1 d ed;exact⟨a,w,rfl,.inr ⟨ks,ky,b,h2,rfl,hb,hw.symm⟩,k d M2 w H2 q2 (e1.trans e2) hr2 rw_⟩⟩⟩
theorem uo(hu:X.A.units+1<cLine) (ho:QEd X o to) (hi:QEd X i ti) (hs:tN i):QEd X (.Subscript o i pos) (zr to ti):=by
 simp only[QEd.eq]at *
 exact PE.conv (qu hu ho hi hs) fun σ H Q hup=>hup.el fun Δ M R sr hr q k=>⟨Δ,M,_,sr,hr,q,fun x M1 v H1 q1 e1 hr1 rv=>⟨Δ,M1,_,sr.ext e1,hr1,q1,fun y M2 u H2 ⟨kvs,ky,d,ea,ey,ed,q2⟩ e2 hr2 ru=>by
   subst ey;obtain⟨a,ks,rfl,h2,kr⟩:=rE hr2 (rv.ext e2) ea;obtain⟨w,hw,rw_⟩:=(kr.val ky).1 d ed;exact⟨a,w,rfl,.inl ⟨ks,ky,h2,jV ru,hw.symm⟩,k d M2 w H2 q2 (e1.trans e2) hr2 rw_⟩⟩⟩
theorem uL(hu:X.A.units+1<cLine) (ho:QEd X o to) (hi:QEd X i ti) (he:QEd X e te) (hs:swapsWith e (some (.Subscript o i p)) pos.line X.env=pure false:=by rfl):QSd X (.Assign [.Subscript o i p] e pos) (wy to ti te):=by
 simp only[QEd.eq,QSd.eq]at *
 exact PS.conv (rO hu ho hi he hs) fun D σ H hup=>hup.el fun Δ M E sr hr q k=>⟨Δ,M,_,sr,hr,q,fun d M1 v H1 q1 e1 hr1 rv=>⟨Δ,M1,_,sr.ext e1,hr1,q1,fun x M2 u H2 q2 e2 hr2 ru=>⟨Δ,M2,_,(sr.ext e1).ext e2,hr2,q2,fun y M3 w H3 ⟨a,kvs,ky,ex,em,ey,hz,q3⟩ e3 hr3 rw_=>by
   subst ex;subst ey;simp only[Rep]at ru;subst ru;obtain⟨ks,h3,kr⟩:=hr3 a _ em;obtain⟨b,rfl,hb⟩:=iO rw_;have ew:Ext M3 H3 (av M3 a (.dT (df kvs ky d))) (upd H3 a (.dT (dv ks ky v))):=Ext.write em;refine⟨a,_,rfl,qv.t h3 hb (by rw[<-kr.length];exact hz),?_⟩;exact k.nx Δ _ σ _ q3 (((e1.trans e2).trans e3).trans ew) (hr3.put ew ⟨_,aB,(kr.put ky ((rv.ext e2).ext e3)).ext ew⟩) ((((sr.ext e1).ext e2).ext e3).ext ew)⟩⟩⟩
theorem qD(hu:X.A.units+1<cLine) (ho:QEd X o to) (hi:QEd X i ti) (he:QEd X e te) (m:M2 X o "get" cc i e bv):QEd X (.Call (.Attribute o "get" cc) [i,e] [] bv) (va to ti te):=by
 simp only[QEd.eq]at *
 exact PE.conv (sd hu ho hi he m) fun σ H Q hup=>hup.el fun Δ M R sr hr q k=>⟨Δ,M,_,sr,hr,q,fun x M1 v H1 ⟨hx,q1⟩ e1 hr1 rv=>by
   obtain⟨kvs0,ex⟩:=Option.isSome_iff_exists.mp hx;obtain⟨a,ks0,rfl,h1,kr0⟩:=kn hr1 rv ex;refine⟨a,rfl,.inr ⟨ks0,h1⟩,Δ,M1,_,sr.ext e1,hr1,q1,fun y M2 u H2 q2 e2 hr2 ru=>?_⟩;refine⟨Δ,M2,_,(sr.ext e1).ext e2,hr2,q2,fun z M3 w H3 ⟨kvs,ky,ea,ey,q3⟩ e4 hr4 rw_=>?_⟩;subst ey;obtain⟨a',ks,ea',h3,kr⟩:=kn hr4 ((rv.ext e2).ext e4) ea;cases ea';obtain⟨b,rfl,hb⟩:=iO (ru.ext e4);refine⟨fY ks ky,.inr ⟨ks,ky,b,h3,rfl,hb,rfl⟩,?_⟩;cases ed:bw kvs ky with
   |some d =>
    obtain⟨w',hw,rw'⟩:=(kr.val ky).1 d ed;rw[hw];rw[ed]at q3;exact k _ M3 _ H3 q3 ((e1.trans e2).trans e4) hr4 rw'
   |none =>
    have:=(kr.val ky).2;rw[ed]at this q3;have hn:fY ks ky=none:=by simpa using this
    rw[hn];exact k _ M3 _ H3 q3 ((e1.trans e2).trans e4) hr4 rw_⟩
theorem Dr(hu:X.A.units+1<cLine) (ho:QEd X o to) (hi:QEd X i ti) (he:QEd X e te) (m:M2 X o "get" cc i e bv):QEd X (.Call (.Attribute o "get" cc) [i,e] [] bv) (yW to ti te):=by
 simp only[QEd.eq]at *
 exact PE.conv (sd hu ho hi he m) fun σ H Q hup=>hup.el fun Δ M R sr hr q k=>⟨Δ,M,_,sr,hr,q,fun x M1 v H1 ⟨hx,q1⟩ e1 hr1 rv=>by
   obtain⟨kvs0,ex⟩:=Option.isSome_iff_exists.mp hx;obtain⟨a,ks0,rfl,h1,kr0⟩:=rE hr1 rv ex;refine⟨a,rfl,.inl ⟨ks0,h1⟩,Δ,M1,_,sr.ext e1,hr1,q1,fun y M2 u H2 q2 e2 hr2 ru=>?_⟩;refine⟨Δ,M2,_,(sr.ext e1).ext e2,hr2,q2,fun z M3 w H3 ⟨kvs,ky,ea,ey,q3⟩ e4 hr4 rw_=>?_⟩;subst ey;obtain⟨a',ks,ea',h3,kr⟩:=rE hr4 ((rv.ext e2).ext e4) ea;cases ea';refine⟨fY ks ky,.inl ⟨ks,ky,h3,jV ru,rfl⟩,?_⟩;cases ed:bw kvs ky with
   |some d =>
    obtain⟨w',hw,rw'⟩:=(kr.val ky).1 d ed;rw[hw];rw[ed]at q3;exact k _ M3 _ H3 q3 ((e1.trans e2).trans e4) hr4 rw'
   |none =>
    have:=(kr.val ky).2;rw[ed]at this q3;have hn:fY ks ky=none:=by simpa using this
    rw[hn];exact k _ M3 _ H3 q3 ((e1.trans e2).trans e4) hr4 rw_⟩
theorem eN(c:Cls X.K C) (n:eA X.K C f) (he:QEd X e te) (hb:attributeBase e f X.env (eval e X.env)=eval e X.env:=by rfl):QEd X (.Attribute e f pos) (Bg C f te):=by
 simp only[QEd.eq]at *
 exact PE.conv (Fz he hb) fun σ H Q hup=>hup.el fun Δ M R sr hr q k=>⟨Δ,M,_,sr,hr,q,fun d M1 v H1 ⟨a,fs,z,ed,em,el,q1⟩ e1 hr1 rv=>by
   subst ed;simp only[Rep]at rv;subst rv;obtain⟨gs,⟨dx,h1⟩,kr⟩:=hr1 a _ em;obtain⟨w,hw,rw_⟩:=kr.look el;exact⟨a,C,dx,gs,w,rfl,h1,c,n,hw,k z M1 w H1 q1 e1 hr1 rw_⟩⟩
theorem rQ(c:Cls X.K C) (n:eA X.K C f) (ho:QEd X o to) (he:QEd X e te) (hs:swapsWith e (some (.Attribute o f pos')) pos.line X.env=pure false:=by rfl):QSd X (.Assign [.Attribute o f pos'] e pos) (DK C f to te):=by
 simp only[QEd.eq,QSd.eq]at *
 exact PS.conv (Ed ho he hs) fun D σ H hup=>hup.el fun Δ M E sr hr q k=>⟨Δ,M,_,sr,hr,q,fun y M1 v H1 q1 e1 hr1 rv=>⟨Δ,M1,_,sr.ext e1,hr1,q1,fun d M2 u H2 ⟨a,fs,ed,em,hl,q2⟩ e2 hr2 ru=>by
   subst ed;simp only[Rep]at ru;subst ru;obtain⟨gs,⟨dx,h2⟩,kr⟩:=hr2 a _ em;have ew:Ext M2 H2 (av M2 a (.ins C (uc f y fs))) (upd H2 a (.ins C dx (L2.putF f v gs))):=Ext.write em;refine⟨a,C,dx,gs,rfl,h2,c,n,by rw[<-kr.length];exact hl,?_⟩;exact k.nx Δ _ σ _ q2 ((e1.trans e2).trans ew) (hr2.put ew ⟨_,⟨dx,aB⟩,(KR.putF (rv.ext e2) kr).ext ew⟩) (((sr.ext e1).ext e2).ext ew)⟩⟩
theorem EL{k n:Nat}{S:SpD}(F:MkD X.prog X.w X.K X.mg X.base x C k n S) (hr:cG (k+1) X.A) (hg:Gl X x) (ha:QAd X (e::es) t) (hdb:(x==("__debug__":Str))=false:=by decide)
  (he:starEach (e::es) X.env=(false,eval e X.env)::starEach es X.env:=by rfl) (hpl:(backTo pos (starEach es X.env)).any (·.1)=false:=by rfl):QEd X (.Call (.Name x p) (e::es) [] pos) (D1 C n S t):=by
 simp only[QEd.eq,QAd.eq]at *
 obtain⟨f,fd,ps,h1,h2,h3,h4⟩:=F.ex;refine PE.conv (CQ h1 h2 hr hg h3 h4 .nil DN ha hdb he hpl) fun σ H Q hup=>hup.el fun Δ M R sr hr q k=>⟨Δ,M,_,sr,hr,q,fun ds M1 vs H1 ⟨hl,q1⟩ e1 hr1 rv=>?_⟩;intro a dx hx hdx hne;rw[List.append_nil];have hx2:upd H1 dx (.own a) a=none:=by rw[aL (Ne.symm hne)];exact hx
 have ea:Ext M1 H1 M1 (upd H1 dx (.own a)):=Ext.new hr1 hdx;have ra:=hr1.new (o:=.own a) hdx;have eb:Ext M1 (upd H1 dx (.own a)) (av M1 a (.ins C [])) (upd (upd H1 dx (.own a)) a (.ins C dx [])):=Ext.own hx2;have rb:=ra.put eb ⟨[],⟨dx,aB⟩,.nil⟩;refine⟨.ref a::ds,_,_,by rw[List.length_cons];exact hl,au.cons (by simp only[Rep]) ((rv.ext ea).ext eb),rb,q1 a (hr1.fresh hx),fun d M' v H' ⟨ed,q2⟩ e' hr' rv'=>?_⟩;subst ed;simp only[Rep]at rv';exact⟨rv',k _ M' _ H' q2 (((e1.trans ea).trans eb).trans e') hr' (by simp only[Rep])⟩
theorem Ga(h:QEd X e te):QEd X e (zf te):=by
 simp only[QEd.eq]at *
 exact PE.conv (C8 h) fun σ H Q hup=>hup.el fun Δ M R sr hr q k=>⟨Δ,M,_,sr,hr,q,fun d M1 v H1 ⟨a,kvs,ed,em,q1⟩ e1 hr1 rv=>by
   subst ed;simp only[Rep]at rv;subst rv;obtain⟨ks,h1,kr⟩:=hr1 a _ em;refine⟨a,ks,rfl,h1,fun o=>k _ _ _ _ q1 (e1.trans (kU em)) (Ap hr1 em) ?_⟩;simp only[gC,Rep,ia];refine⟨a,ks.map (·.2),rfl,⟨by rw[List.length_map,List.length_map];exact kr.length,⟨o,?_⟩,dE⟩,(vW kr).ext (kU em)⟩;rw[aB,kr.keys,dG]⟩
theorem FQ(h:QEd X e te):QEd X e (Bp te):=by
 simp only[QEd.eq]at *
 exact PE.conv (Ds h) fun σ H Q hup=>hup.el fun Δ M R sr hr q k=>⟨Δ,M,_,sr,hr,q,fun d M1 v H1 ⟨a,kvs,ed,em,q1⟩ e1 hr1 rv=>by
   subst ed;simp only[Rep]at rv;subst rv;obtain⟨ks,h1,kr⟩:=hr1 a _ em;refine⟨a,ks,rfl,h1,fun o=>k _ _ _ _ q1 (e1.trans (kU em)) (Ap hr1 em) ?_⟩;simp only[lq,Rep,ia];refine⟨a,ks.map (·.2),rfl,⟨by rw[List.length_map,List.length_map];exact kr.length,⟨o,?_⟩,dE⟩,(vW kr).ext (kU em)⟩;rw[aB,kr.keys,dG]⟩
theorem AQ(he:QEd X l te) (dq:attributeBase l "items" X.env (eval l X.env)=eval l X.env:=by rfl) (c9:(cc.endLine==bv.line)=true:=by rfl):QId X (.Tuple elts x1 pt) (.Call (.Attribute l "items" cc) [] [] bv) (Aj te):=by
 simp only[QEd.eq,QId.eq]at *
 exact fun ae s σ H R I h =>
  PI.conv (yd he dq c9) (fun σ H R hup=>hup.el fun Δ M R' sr hr q k=>⟨Δ,M,_,sr,hr,q,fun d M1 v H1 ⟨kvs,ed,q1⟩ e1 hr1 rv=>by
   subst ed;simp only[gC,Rep,ia]at rv;obtain⟨a,vs,rfl,⟨hl,⟨o,ha⟩,na⟩,rl⟩:=rv;refine⟨a,o,_,rfl,ha,k _ _ _ _ q1 e1 hr1 ?_⟩;have kr0:KR X.K M1 H1 kvs ((kvs.map (·.1)).zip vs):=by
    have:=mU hl rl
    rwa [dG]at this
   have bp:kvs.length=((kvs.map (·.1)).zip vs).length:=kr0.length;intro M2 H2 e3 hr3 i;have ea:=(e3 a _ ha na).1;refine⟨fun d hd=>?_,fun hl=>⟨ea,?_⟩⟩
   ·rw[List.getElem?_map]at hd;cases q:kvs[i]? with
    |none=>rw[q]at hd;cases hd
    |some p =>
     rw[q]at hd;cases hd;have hi:i<kvs.length:=(List.getElem?_eq_some_iff.mp q).1;refine⟨⟨ea,by rw[<-bp];exact hi⟩,fun x H' hy=>?_⟩;obtain⟨T,q',k',v',ex,hT,hk,hq,eH⟩:=hy;subst eH;subst ex;obtain⟨y,hy,ek,rv⟩:=ff (kr0.ext e3) i p q;rw[hk]at hy;cases hy;have en:Ext M2 H2 M2 (upd H2 T (.tup [.ref q',v'])):=Ext.new hr3 hT;have hn:=hr3.new (o:=.tup [.ref q',v']) hT;refine⟨en,hn,?_⟩;have mq:M2 q'=none:=by
      cases hm:M2 q' with
      |none=>rfl
      |some u =>
       obtain⟨w,z,nw⟩:=(hr3 q' u hm).some;rw[hq]at z;cases z;exact absurd rfl (nw _).1
     have rk:Rep X.K M2 H2 (lR p.1) (.ref q'):=kT.mpr ⟨q',_,rfl,⟨hq,mq⟩,by
      have:p.1=k':=ek;rw[this];exact qT _⟩
     rw[Rep];exact⟨T,_,rfl,.inl ⟨.inl aB,hr3.fresh hT⟩,au.cons (rk.ext en) (au.cons (Rep.ext rv en) au.nil)⟩
   ·rw[<-bp];simpa using hl⟩) ae s σ H R I h
theorem Fc(he:QEd X l te) (dq:attributeBase l "items" X.env (eval l X.env)=eval l X.env:=by rfl) (c9:(cc.endLine==bv.line)=true:=by rfl):QId X (.Tuple elts x1 pt) (.Call (.Attribute l "items" cc) [] [] bv) (DO te):=by
 simp only[QEd.eq,QId.eq]at *
 exact fun ae s σ H R I h =>
  PI.conv (uU he dq c9) (fun σ H R hup=>hup.el fun Δ M R' sr hr q k=>⟨Δ,M,_,sr,hr,q,fun d M1 v H1 ⟨kvs,ed,q1⟩ e1 hr1 rv=>by
   subst ed;simp only[lq,Rep,ia]at rv;obtain⟨a,vs,rfl,⟨hl,⟨o,ha⟩,na⟩,rl⟩:=rv;refine⟨a,o,_,rfl,ha,k _ _ _ _ q1 e1 hr1 ?_⟩;have kr0:KR X.K M1 H1 kvs ((kvs.map (·.1)).zip vs):=by
    have:=mU hl rl
    rwa [dG]at this
   have bp:kvs.length=((kvs.map (·.1)).zip vs).length:=kr0.length;intro M2 H2 e3 hr3 i;have ea:=(e3 a _ ha na).1;refine⟨fun d hd=>?_,fun hl=>⟨ea,?_⟩⟩
   ·rw[List.getElem?_map]at hd;cases q:kvs[i]? with
    |none=>rw[q]at hd;cases hd
    |some p =>
     rw[q]at hd;cases hd;have hi:i<kvs.length:=(List.getElem?_eq_some_iff.mp q).1;refine⟨⟨ea,by rw[<-bp];exact hi⟩,fun x H' hy=>?_⟩;obtain⟨T,k',v',ex,hT,hk,eH⟩:=hy;subst eH;subst ex;obtain⟨y,hy,ek,rv⟩:=ff (kr0.ext e3) i p q;rw[hk]at hy;cases hy;have en:Ext M2 H2 M2 (upd H2 T (.tup [kV k',v'])):=Ext.new hr3 hT;have hn:=hr3.new (o:=.tup [kV k',v']) hT;refine⟨en,hn,?_⟩;have e':p.1=k':=ek;rw[Rep];exact⟨T,_,rfl,.inl ⟨.inl aB,hr3.fresh hT⟩,au.cons (by rw[e'];exact gR) (au.cons (Rep.ext rv en) au.nil)⟩
   ·rw[<-bp];simpa using hl⟩) ae s σ H R I h
end
noncomputable def IH(a:Addr) (xs:List V):It :=
 ⟨fun i H=>H a=some (.lst xs)/\i<xs.length,fun i H x H'=>H'=H/\xs[xs.length-1-i]?=some x,fun i _=>xs.length<=i⟩
theorem xy{P:Program}{w:World}{K:PySem.W.Frag}{tg:Expr}(a it:Addr) (xs:List V):jS P w K tg (IH a xs) [it] it (fun i h=>i<=xs.length/\h.IsRevIter it a ((xs.length:Int)-1-(i:Int))) where
 mem:=by simp
 obj:=fun i h st b hb=>by
  have e:b=it:=by simpa using hb
  subst e;obtain⟨_,o,e,c,d⟩:=st;exact⟨o,e,fun v z=>by rw[d]at z;cases z⟩
 keep:=fun i h h' st k=>⟨st.1,st.2.at fun o e=>k it (by simp) o e⟩
 item:=by
  intro X hP hw hK hc i ae s σ H E I hf st hg;subst hP hw hK;obtain⟨hq,hi⟩:=hg;obtain⟨hz,its,nn,rv,p⟩:=I.hok a _ hq;have bp:=rv.length;have hxi:xs.length-1-i<xs.length:=by omega
  obtain⟨u,hu,ru⟩:=rv.get (show xs[xs.length-1-i]?=some xs[xs.length-1-i]by simp[hxi]);obtain⟨f0,f1,f2,f3,f4,f5⟩:=hf it (by simp);have ei:(xs.length:Int)-1-(i:Int)=((xs.length-1-i:Nat):Int):=by omega
  have st2:=st.2;rw[ei]at st2;refine wpAny_pyNext_rev_item st2 (items:=its.toArray) ⟨_,p,rfl,nn,rfl⟩ (x:=u) (by simpa using hu) fun h' st' sb=>?_;have I1:Inv X ae σ H { s with heap:=h' }:=I.turned (t':=s.toks) (fun b o hb e=>(sb.2 b hb).trans e) f0 f1 f3 f4 f5;obtain⟨o,e,c,d⟩:=id st';have e2:((xs.length-1-i:Nat):Int)-1=(xs.length:Int)-1-((i+1:Nat):Int):=by omega
  rw[e2]at st';exact⟨u,rfl,o8 (s:={ s with heap:=h' }) e c d (by decide) ⟨xs[xs.length-1-i],H,I1,ru,⟨rfl,by simp[hxi]⟩,⟨hi,st'⟩,fun b hb=>(hf b hb).1⟩⟩
 done:=by
  intro X hP hw hK hc i ae s σ H E I hf st hg;subst hP hw hK;obtain⟨f0,f1,f2,f3,f4,f5⟩:=hf it (by simp);have e:i=xs.length:=Nat.le_antisymm st.1 hg;subst e;have st2:=st.2;rw[show(xs.length:Int)-1-(xs.length:Int)=-1 by omega]at st2;exact wpAny_pyNext_rev_end (I.ok.hd hc) st2 fun h' eb=>⟨rfl,I.turned (t':=s.toks) (fun b o hb e=>eb b o hb e) f0 f1 f3 f4 f5⟩
 self:=fun _ _ _ _ _ st h=>wpAny_pyIter_revIter st.2 h
section
variable{X:Cx}{a b c e o i:Expr}{es:List Expr}{te ta tb to ti:TEd}{t:TAd}{pos:Pos}{tg iter:Expr}
def Bh(ta:TAd):TId:=fun Δ M R=>ta Δ M fun ds M1=>∃es,ds=[.lst es]/\(es.length<=sizeLine->R es.reverse M1)
theorem BN{p:Pos}(hg:Gl X "reversed") (hm:X.mg "reversed"=none) (ha:QAd X [a] t) (hs:starEach [a] X.env=[(false,eval a X.env)]:=by rfl):QId X tg (.Call (.Name "reversed" p) [a] [] pos) (Bh t):=by
 simp only[QAd.eq,QId.eq]at *
 intro ae s σ H R I hh;obtain⟨Δ,M,R',sr,hr,q,k⟩:=hh;refine Call_ (jP I hg hm oO (PyProof.Rows.callWith_type1 (thn (ha pos ae s σ H (fun vs H1=>∃es M1,au X.K M1 H1 [.lst es] vs/\(es.length<=sizeLine->R' es.reverse M1)/\Ext M H M1 H1/\HR X.K M1 H1) I ⟨Δ,M,_,sr,hr,q,fun ds M1 vs H1 ⟨es,ed,q1⟩ e1 hr1 rv=>⟨es,M1,by rw[<-ed];exact rv,q1,e1,hr1⟩⟩) fun us s1 ⟨vs,H1,I1,r1,es,M1,rv,q1,e1,hr1⟩=>?_) hs));obtain⟨v,rfl,rt⟩:=rv.one;cases r1 with
 |cons r rr =>
  cases rr;simp only[Rep]at rt;obtain⟨ad,vs,rfl,ta,rl⟩:=rt;cases r;obtain⟨hz,its,nn,rvv,pt⟩:=I1.hok ad _ ta.1;have hl1:=rvv.length;have hl2:=rl.length;refine call_reversed_list (items:=its.toArray) ⟨_,pt,rfl,nn,rfl⟩ ?_;refine wpAny_pyIter_revIter (l:=ad) (i:=(its.toArray.size:Int)-1) ⟨_,Heap.get?_push_size _ rfl,rfl,rfl⟩ ?_;refine⟨s1.heap.objs.size,[s1.heap.objs.size],_,_,H1,rfl,I1.kept (t':=s1.toks) fun b o e=>Heap.get?_push_of_some _ e,xy ad _ vs,⟨Nat.zero_le _,_,Heap.get?_push_size _ rfl,rfl,?_⟩,qH (o:=default) I1,?_⟩
  ·show Data.fields _=_;have e1:(its.toArray.size:Int)-1=(vs.length:Int)-1-((0:Nat):Int):=by simp;omega
   rw[e1]
  ·refine k _ M1 _ H1 (q1 (by omega)) e1 hr1 fun M2 H2 e2 hr2 i=>⟨fun d hd=>?_,fun hl=>by show vs.length<=i;rw[<-hl2];simpa using hl⟩;have hi:i<es.length:=by
    have:=(List.getElem?_eq_some_iff.mp hd).1;simpa using this
   rw[List.getElem?_reverse hi]at hd;obtain⟨v,gv,r⟩:=rl.get hd;refine⟨⟨(ta.ext e2).1,by omega⟩,fun x H' ⟨eH,y⟩=>?_⟩;subst eH;rw[<-hl2,gv]at y;cases y;exact⟨Ext.refl _ _,hr2,r.ext e2⟩
theorem Fm{ae:List (Addr×Obj)}{σ:St}{H:Hp}{s:Shared}{b:Addr}{ks:List Key}(I:Inv X ae σ H s) (h:SqT X.K H b (ks.map kV)):(tupleKind (aP X.prog X.w)).is s.heap ks b:=by
 obtain⟨its,r,p,_⟩:=I.tuple h;obtain⟨ob,h1,h2,n,h3⟩:=p;exact⟨ob,its.toArray,n,h1,h2,h3,by simpa using ly r⟩
def Eh(K:PySem.W.Frag) (td ty:TE):TE:=fun σ H Q=>td σ H fun x H1=>ty σ H1 fun y H2=>∃a b kvs k v,x=.ref a/\y=.ref b/\Rd H2 a (.dT kvs)/\SqT K H2 b (k.map kV)/\fY kvs k=some v/\Q v H2
theorem sH{td ty:TE}(hu:X.A.units+1<cLine) (ho:PE X o td) (hi:PE X i ty) (hs:tN i):PE X (.Subscript o i pos) (Eh X.K td ty):=by
 intro ae s σ H Q I h;refine vV PySem.F.slot_dict_getitem.lookup hs (thn (ho ae s σ H _ I h) fun u s1 hup=>hup.el fun x H1 I1 rx q1=>thn (hi ae s1 σ H1 _ I1 q1) fun iv s2 ⟨y,H2,I2,ry,a,b,kvs,k,v,ex,ey,e,eb,l,q2⟩=>?_);subst ex;subst ey;obtain rfl:u=Value.ref a:=rx;cases(show iv=Value.ref b from ry);obtain⟨z,hd,xs,rel,dd⟩:=ma I2.hok e;refine⟨dd.typeIs,?_⟩;obtain⟨w',hw,rw'⟩:=jt.some_of (v:=v) (o:=(atKey xs k).map (·.2)) (by rw[<-l];exact rel.val k);obtain⟨p,hp,hp2⟩:=Option.map_eq_some_iff.mp hw;refine wpAny_getItem_heap (tupleKind_room_in1 hu) (Fm I2 eb) dd hp ?_;rw[hp2];exact⟨v,H2,I2.tok _,rw',q2⟩
def DB(to ti:TEd):TEd:=fun Δ M Q=>to Δ M fun x M1=>ti Δ M1 fun y M2=>∃kvs ks d,asT M2 x=some kvs/\y=.tup (ks.map kD)/\bw kvs ks=some d/\Q d M2
theorem FE(hu:X.A.units+1<cLine) (ho:QEd X o to) (hi:QEd X i ti) (hs:tN i):QEd X (.Subscript o i pos) (DB to ti):=by
 simp only[QEd.eq]at *
 exact PE.conv (sH hu ho hi hs) fun σ H Q hup=>hup.el fun Δ M R sr hr q k=>⟨Δ,M,_,sr,hr,q,fun x M1 v H1 q1 e1 hr1 rv=>⟨Δ,M1,_,sr.ext e1,hr1,q1,fun y M2 u H2 ⟨kvs,ky,d,ea,ey,ed,q2⟩ e2 hr2 ru=>by
   subst ey;obtain⟨a,ks,rfl,h2,kr⟩:=kn hr2 (rv.ext e2) ea;simp only[Rep]at ru;obtain⟨b,vs,rfl,tb,rl⟩:=ru;obtain⟨w,hw,rw_⟩:=(kr.val ky).1 d ed;refine⟨a,b,ks,ky,w,rfl,rfl,h2,?_,hw,k d M2 w H2 q2 (e1.trans e2) hr2 rw_⟩;rw[<-jh rl];exact tb.sq⟩⟩
end
section
variable{X:Cx}{a b:Expr}{ta tb:TEd}{tk tv:TE}{pos:Pos}
def EO(tk tv:TE):TE:=fun σ H Q=>∀p,H p=none->tk σ (upd H p (.dT [])) fun x H1=>tv σ H1 fun y H2=>∃b ks,x=.ref b/\H2 p=some (.dT [])/\H2 b=some (.tup (ks.map kV))/\Q (.ref p) (upd H2 p (.dT [(ks,y)]))
theorem A8(hu:X.A.units+1<cLine) (hk:PE X a tk) (hv:PE X b tv):PE X (.Dict [some a] [b] pos) (EO tk tv):=by
 intro ae s σ H Q I q;have hn:=I.hok.fresh (Nat.le_refl s.heap.objs.size);have I1:=I.laid (a:=s.heap.objs.size) (o:=.dT []) (h':=s.heap.push { cls:=.type "dict",data:=.dict #[] }) (t':=s.toks) (fun _ _ q=>Heap.get?_push_of_some _ q) (Nat.le_refl _) (oy s.heap I.big);refine wpAny_Dict_any rfl rfl (by simp) (by simp) (pairTrees_cons_walk (thn (hk ae _ σ _ _ I1 (q _ hn)) fun u s1 hup=>hup.el fun x H1 I2 rx q1=>thn (hv ae s1 σ H1 _ I2 q1) fun w2 s2 ⟨y,H2,I3,ry,bb,ks,ex,ep,eb,q2⟩=>pairTrees_nil_walk ?_));subst ex;cases(show u=Value.ref bb from rx);obtain⟨z,hd,xs,rel,dd⟩:=AN I3.hok ep;have hx0:xs=[]:=by cases rel;rfl
 subst hx0;unfold storeAll;simp only[List.forIn_cons,List.forIn_nil];refine wpAny_bind (wpAny_bind (wpAny_dictSet_heap (knd:=tupleKind (aP X.prog X.w)) (hsz:=by simp) (by show X.A.units<cLine;exact Nat.le_of_lt (by assumption)) (iZ I3.hok eb) dd fun h' dd' hs=>wpAny_pure (wpAny_pure ?_)));obtain⟨qo,es,epo,hq,h2,h3,h4,_,h5⟩:=dd';have hput:dv ([]:List (List Key×V)) ks y=[(ks,y)]:=rfl;have I4:=iC (t':=s2.toks+(tupleKind (aP X.prog X.w)).draws ks) (ob:=.dT (dv [] ks y)) I3 (by rw[ep];exact True.intro) hs ⟨qo,hq⟩ ⟨by rw[hput,sizeLine_eq,List.length_singleton];decide,hd,_,(rel.put ks eb ry).keeps fun c ys ec=>by
  rw[aL (A5 ec ep (fun z=>nomatch z))];exact ec,qo,es,epo,hq,h2,h3,h4,h5⟩
 rw[hput]at I4;exact⟨.ref s.heap.objs.size,_,I4,rfl,q2⟩
def Ba(tk tv:TEd):TEd:=fun Δ M Q=>∀p,M p=none->tk Δ (av M p (.dT [])) fun x M1=>tv Δ M1 fun y M2=>∃ks,x=lR ks/\M2 p=some (.dT [])/\Q (.ref p) (av M2 p (.dT [(ks,y)]))
theorem BS(hu:X.A.units+1<cLine) (ha:QEd X a ta) (hb:QEd X b tb):QEd X (.Dict [some a] [b] pos) (Ba ta tb):=by
 simp only[QEd.eq]at *
 exact PE.conv (A8 hu ha hb) fun σ H Q hup=>hup.el fun Δ M R sr hr q k=>fun p hp=>by
   have e0:Ext M H (av M p (.dT [])) (upd H p (.dT [])):=Ext.own hp;refine⟨Δ,_,_,sr.ext e0,hr.put e0 ⟨[],aB,.nil⟩,q p (hr.fresh hp),fun x M1 v H1 q1 e1 hr1 rv=>⟨Δ,M1,_,(sr.ext e0).ext e1,hr1,q1,fun y M2 u H2 ⟨ky,ex,em,q2⟩ e2 hr2 ru=>?_⟩⟩;subst ex;obtain⟨ks,h2,kr⟩:=hr2 p _ em;cases kr;obtain⟨bb,rfl,hb⟩:=iO (rv.ext e2);have ew:Ext M2 H2 (av M2 p (.dT [(ky,y)])) (upd H2 p (.dT [(ky,u)])):=Ext.write em;exact⟨bb,ky,rfl,h2,hb,k _ _ _ _ q2 ((e0.trans (e1.trans e2)).trans ew) (hr2.put ew ⟨_,aB,.cons ⟨rfl,ru.ext ew⟩ .nil⟩) (by simp only[Rep])⟩
end
noncomputable def vJ:D->Option D
 |.box (.dk ks) _=>some (.lst (ks.map kD))
 |_=>none
theorem Cy{kvs:List (Key×D)}:vJ (lq kvs)=some (.lst (kvs.map fun p=>kD p.1)):=by
 show some (D.lst ((kvs.map (·.1)).map kD))=_;rw[List.map_map];rfl
theorem qa{P:Program}{w:World}:∀{ks:List (Key×V)}{us:List Value},us.length=ks.length->(∀(j:Nat) (v:Value),us[j]?=some v->∃k x,ks[j]?=some (k,x)/\aI (kV k) v)->az (ks.map fun p=>kV p.1) us
 |[],us,h,_=>by
  have:us=[]:=List.eq_nil_of_length_eq_zero h;subst this;exact .nil
 |_::_,[],h,_=>by cases h
 |p::ks,u::us,h,hh=>by
  rw[List.map_cons];obtain⟨k,x,e,r⟩:=hh 0 u rfl;cases e;exact .cons r (qa (P:=P) (w:=w) (Nat.succ.inj h) fun j v hv=>hh (j+1) v (by simpa using hv))
section
variable{X:Cx}
theorem uP(hc:X.calm=true):cP X (.type "list") (fun xs H Q=>∃p ks o,xs=[.ref p]/\H p=some (.frz o (.dK ks))/\∀l,H l=none->Q (.ref l) (upd H l (.lst (ks.map fun p=>kV p.1)))):=by
 intro ae s σ H xs us Q I r h;obtain⟨p,ks,o,rfl,hq,q⟩:=h;obtain⟨u,rfl,rx⟩:=pX r;cases rx;obtain⟨ho,hz,hs,vs,rel,o',es,ep,q',c,hd,hr⟩:=I.hok p _ hq;have da:s.heap.DictAt (aP X.prog X.w) p vs ep:=⟨o',es,q',c,hd,hr⟩;have hl:ks.length=vs.length:=rel.length;refine PySem.W.kdl_call (PySem.W.kdl_dict (knd:=aP X.prog X.w) (kvs:=vs) (ep:=ep) hs) (I.ok.hd hc) da (by rw[<-hl];exact hz) fun h' tk acc' c' kp e items=>?_;have hv:az (ks.map fun p=>kV p.1) acc'.toList:=qa (P:=X.prog) (w:=X.w) (by rw[Array.length_toList,items.1,hl]) fun j v hj=>by
  obtain⟨k,x,hx,hk⟩:=items.2 j v (by rw[<-Array.getElem?_toList];exact hj);have hjl:j<ks.length:=by rw[hl];exact(List.getElem?_eq_some_iff.mp hx).1
  obtain⟨y,hy,ek,_⟩:=ff rel j ks[j] (by simp[hjl]);rw[hx]at hy;cases hy;refine⟨k,ks[j].2,?_,rf hk⟩;rw[List.getElem?_eq_getElem hjl];have e2:ks[j].1=k:=ek;rw[<-e2]
 exact⟨.ref s.heap.objs.size,_,I.laid (t':=tk) kp (Nat.le_refl _) (show cm X.prog X.w _ h' _ (.lst _)from⟨by rw[List.length_map];exact hz,acc'.toList,c',hv,e⟩),rfl,q _ (I.hok.fresh (Nat.le_refl _))⟩
theorem ph{K:PySem.W.Frag}{M:DH}{H:Hp}:∀{ks:List Key}{vs:List V},ks.length=vs.length->au K M H (ks.map kD) ((ks.zip vs).map fun p=>kV p.1)
 |[],vs,_=>by simp only[List.map_nil,List.zip_nil_left];exact au.nil
 |k::ks,[],h=>by cases h
 |k::ks,v::vs,h=>by
  rw[List.map_cons,List.zip_cons_cons,List.map_cons];exact au.cons gR (ph (Nat.succ.inj h))
theorem C6(hc:X.calm=true):bj X (.type "list") (jq vJ):=bj.of (uP hc) fun H M xs ds dz Q hr rp e q=>by
 obtain⟨d,rfl,e0⟩:=bY e;clear e;obtain⟨v,rfl,r⟩:=i7 rp;cases d with
 |box t ds =>
  cases t with
  |dk ks =>
   cases e0;simp only[aU,Rep,ia]at r;obtain⟨a,vs,rfl,⟨hl,⟨o,ha⟩,_⟩,rl⟩:=r;exact⟨a,_,o,rfl,ha,fun l hl'=>gN hr hl' (ph hl) q⟩
  |_=>cases e0
 |_=>cases e0
noncomputable def CG:List Int->Option Int
 |[]=>none
 |n::ns=>some (ns.foldl max n)
theorem lw:∀(ns:List Int) (n:Int),(∀a∈n::ns,a<=ns.foldl max n)/\ns.foldl max n∈n::ns
 | [],n => ⟨fun a h => by
   rw[List.mem_singleton.mp h];exact Int.le_refl _,List.mem_cons_self⟩
 |m::ns,n=>by
  obtain⟨h1,h2⟩:=lw ns (max n m);rw[List.foldl_cons];have h3:=h1 (max n m) (.head _);refine⟨fun a h=>?_,?_⟩
  ·rcases List.mem_cons.mp h with e|h
   ·omega
   ·rcases List.mem_cons.mp h with e|h
    ·omega
    ·exact h1 a (.tail _ h)
  ·rcases List.mem_cons.mp h2 with e|h
   ·by_cases c:n<=m
    ·have:ns.foldl max (max n m)=m:=by omega
     rw[this];exact .tail _ (.head _)
    ·have:ns.foldl max (max n m)=n:=by omega
     rw[this];exact .head _
   ·exact .tail _ (.tail _ h)
def C9:D->Option D
 |.lst ds=>((dH ds).bind CG).map D.int
 |_=>none
theorem FA{ns:List Int}:C9 (.lst (ns.map D.int))=(CG ns).map D.int:=by simp only[C9,gJ,Option.bind_some]
theorem E3(hc:X.calm=true):bj X (.builtin "max") (jq C9):=by
 intro ae s σ H M xs us ds dz Q I hr rv rp e k;obtain⟨d,rfl,e0⟩:=bY e;clear e;obtain⟨v,rfl,r⟩:=i7 rp;obtain⟨u,rfl,ru⟩:=az.one rv;cases d with
 |lst ds =>
  simp only[C9]at e0;cases q:dH ds with
  |none=>rw[q]at e0;cases e0
  |some ns =>
   rw[q]at e0;cases ns with
   |nil=>cases e0
   |cons n ns =>
    cases e0;obtain⟨l,vs,rfl,sq,rl⟩:=r;cases ru;obtain⟨its,rv,pl,hz⟩:=I.list (SqL.of sq);obtain⟨ys,e1,e2⟩:=jg q rl rv;have hsz:0<ys.size:=by
     have h:=congrArg List.length e2;simp at h;omega
    refine max_intList (xs:=ys) (I.ok.hd hc) (by rw[<-e1];exact pl.isList) hsz fun v h' tk hv kk=>?_;obtain⟨t,rfl⟩:=intItems_at hv;obtain⟨h1,h2⟩:=argBest_gt (numAt ys) (ys.size-1);have I1:Inv X ae σ H { s with heap:=h',toks:=tk }:=I.kept (t':=tk) kk;refine⟨.int _,H,I1,⟨_,rfl⟩,k _ H (Ext.refl _ _) hr ?_⟩;obtain⟨m1,m2⟩:=lw ns n;have e3:∀j,j<ys.size->numAt ys j∈n::ns:=fun j hj=>by
     rw[numAt_eq,e2];exact getD_mem (by rw[<-e2,List.length_map,Array.length_toList];exact hj)
    have a1:=m1 _ (e3 _ (Nat.lt_of_le_of_lt h1 (by omega)));have a2:ns.foldl max n<=numAt ys (argBest (fun i j=>decide (numAt ys i > numAt ys j)) (ys.size-1)):=by
     rw[<-e2]at m2;obtain⟨j,hj,ej⟩:=mem_getD m2;rw[List.length_map,Array.length_toList]at hj;rw[<-ej,<-numAt_eq];exact h2 j (by omega)
    have:numAt ys (argBest (fun i j=>decide (numAt ys i > numAt ys j)) (ys.size-1))=ns.foldl max n:=Int.le_antisymm a1 a2;rw[this];simp[Rep]
 |_=>cases e0
end
noncomputable def Hs(s:Stmt) (i:Nat):Stmt:=match s with
 |.ClassDef _ _ _ b _ _ _ _ _ _ _=>b.getD i (.Pass ⟨0,0,0,0⟩)
 |_=>.Pass ⟨0,0,0,0⟩
def D3(K:PySem.W.Frag) (mg:Str->Option Value) (x:Str) (ks:List Key):Prop:=∃a,mg x=some (.ref a)/\SqT K (fun _=>none) a (ks.map kV)
section
variable{X:Cx}{x:Str}{ks:List Key}{pos:Pos}
theorem rq(hg:Gl X x) (hm:D3 X.K X.mg x ks) (hd:(x==("__debug__":Str))=false:=by decide):QEd X (.Name x pos) (dC (.tup (ks.map kD))):=by
 simp only[QEd.eq]at *
 obtain⟨a,h1,h2⟩:=hm;refine PE.conv (qU (v:=.ref a) hg h1 rfl hd) fun σ H Q hup=>hup.el fun Δ M R sr hr q k=>?_;refine k _ M _ H q (Ext.refl _ _) hr ?_;simp only[Rep];exact⟨a,_,rfl,.inr h2,qT ks⟩
end
section
variable{X:Cx}
noncomputable def qF(x y:D):Option D:=match y with
 |.lst ds=>if dLe x 59=true/\cM ds 59=true then some (.bl (!(ds.any fun d=>eqD d x)))else none
 |.tup ds=>if dLe x 59=true/\cM ds 59=true then some (.bl (!(ds.any fun d=>eqD d x)))else none
 |_=>none
theorem zU{x:D}{ds:List D}:qF x (.lst ds)=if dLe x 59=true/\cM ds 59=true then some (.bl (!(ds.any fun d=>eqD d x)))else none:=rfl
theorem uR{h:Heap}{a:Addr}{xs:Array Value}(p:IsTup h a xs):h.IsTuple a xs:=by
 obtain⟨o,h1,h2,n,h3⟩:=p;exact⟨o,h1,h2,n,h3⟩
open Classical in
theorem zD(hu:X.A.units+64<cLine):bQ X (compareOp .NotIn) qF:=by
 intro ae s σ H M x y v u dx dy dz Q I hr rx ry r1 r2 e k;cases dy with
 |lst ds =>
  simp only[qF]at e
  by_cases hc:dLe dx 59=true/\cM ds 59=true
  ·rw[if_pos hc]at e;cases e;obtain⟨l,vs,rfl,sq,rl⟩:=r2;cases ry;obtain⟨its,r,pl,hz⟩:=I.list (SqL.of sq);have hl:ds.length=its.length:=rl.length.trans r.length;have at_:∀j (h:j<ds.length) (h':j<its.length),PySem.SeqAt.EqAt X.A.in1 s its[j] v (eqD ds[j] dx):=fun j h h'=>by
    obtain⟨v1,g1,p1⟩:=rl.get (i:=j) (d:=ds[j]) (by simp[h]);obtain⟨u1,k1,m1⟩:=r.get g1;have e1:its[j]=u1:=by simpa[List.getElem?_eq_getElem h']using k1
    rw[e1];exact(ox I 59 (by show X.A.units+1+59<cLine;omega) (gi hc.2 (i:=j) (by simp[h])) hc.1 p1.r r1 m1 rx).1
   refine SeqAt.notIn_listAt (fun w=>decide (∃j,∃h:j<ds.length,∃h':j<its.length,its[j]=w/\eqD ds[j] dx=true)) pl.isList (fun w hw=>?_) ⟨.bl _,H,I,rfl,?_⟩
   ·obtain⟨i,hi,rfl⟩:=List.mem_iff_getElem.mp (show w∈its by simpa using hw)
    by_cases q:∃j,∃h:j<ds.length,∃h':j<its.length,its[j]=its[i]/\eqD ds[j] dx=true
    ·rw[decide_eq_true q];obtain⟨j,h,h',q1,q2⟩:=q;rw[<-q1,<-q2];exact at_ j h h'
    ·rw[decide_eq_false q];have:=at_ i (by omega) hi
     rwa [show eqD ds[i] dx=false from Bool.eq_false_iff.mpr fun z=>q ⟨i,by omega,hi,rfl,z⟩]at this
   ·have ea:its.toArray.any (fun w=>decide (∃j,∃h:j<ds.length,∃h':j<its.length,its[j]=w/\eqD ds[j] dx=true))=ds.any fun d=>eqD d dx:=by
     rw[Bool.eq_iff_iff,List.any_toArray,List.any_eq_true,List.any_eq_true];constructor
     ·rintro⟨w,_,h⟩;obtain⟨j,h1,_,_,h2⟩:=of_decide_eq_true h;exact⟨ds[j],List.getElem_mem _,h2⟩
     ·rintro⟨d,hd,h⟩;obtain⟨j,hj,rfl⟩:=List.mem_iff_getElem.mp hd;exact⟨its[j],List.getElem_mem _,decide_eq_true ⟨j,hj,by omega,rfl,h⟩⟩
    rw[ea];exact k _ H (Ext.refl _ _) hr (by simp[Rep])
  ·rw[if_neg hc]at e;cases e
 |tup ds =>
  simp only[qF]at e
  by_cases hc:dLe dx 59=true/\cM ds 59=true
  ·rw[if_pos hc]at e;cases e;obtain⟨l,vs,rfl,sq,rl⟩:=r2;cases ry;obtain⟨its,r,pl,hz⟩:=I.tuple sq;have hl:ds.length=its.length:=rl.length.trans r.length;have at_:∀j (h:j<ds.length) (h':j<its.length),PySem.SeqAt.EqAt X.A.in1 s its[j] v (eqD ds[j] dx):=fun j h h'=>by
    obtain⟨v1,g1,p1⟩:=rl.get (i:=j) (d:=ds[j]) (by simp[h]);obtain⟨u1,k1,m1⟩:=r.get g1;have e1:its[j]=u1:=by simpa[List.getElem?_eq_getElem h']using k1
    rw[e1];exact(ox I 59 (by show X.A.units+1+59<cLine;omega) (gi hc.2 (i:=j) (by simp[h])) hc.1 p1.r r1 m1 rx).1
   refine SeqAt.notIn_tupleAt (fun w=>decide (∃j,∃h:j<ds.length,∃h':j<its.length,its[j]=w/\eqD ds[j] dx=true)) (uR pl) (fun w hw=>?_) ⟨.bl _,H,I,rfl,?_⟩
   ·obtain⟨i,hi,rfl⟩:=List.mem_iff_getElem.mp (show w∈its by simpa using hw)
    by_cases q:∃j,∃h:j<ds.length,∃h':j<its.length,its[j]=its[i]/\eqD ds[j] dx=true
    ·rw[decide_eq_true q];obtain⟨j,h,h',q1,q2⟩:=q;rw[<-q1,<-q2];exact at_ j h h'
    ·rw[decide_eq_false q];have:=at_ i (by omega) hi
     rwa [show eqD ds[i] dx=false from Bool.eq_false_iff.mpr fun z=>q ⟨i,by omega,hi,rfl,z⟩]at this
   ·have ea:its.toArray.any (fun w=>decide (∃j,∃h:j<ds.length,∃h':j<its.length,its[j]=w/\eqD ds[j] dx=true))=ds.any fun d=>eqD d dx:=by
     rw[Bool.eq_iff_iff,List.any_toArray,List.any_eq_true,List.any_eq_true];constructor
     ·rintro⟨w,_,h⟩;obtain⟨j,h1,_,_,h2⟩:=of_decide_eq_true h;exact⟨ds[j],List.getElem_mem _,h2⟩
     ·rintro⟨d,hd,h⟩;obtain⟨j,hj,rfl⟩:=List.mem_iff_getElem.mp hd;exact⟨its[j],List.getElem_mem _,decide_eq_true ⟨j,hj,by omega,rfl,h⟩⟩
    rw[ea];exact k _ H (Ext.refl _ _) hr (by simp[Rep])
  ·rw[if_neg hc]at e;cases e
 |_=>cases e
end
section
variable{X:Cx}{e:Expr}{t:TEd}
end
section
variable{P:Program}{w:World}{K:PySem.W.Frag}{h base:Heap}{mg:Str->Option Value}{x qual:Str}{st:Stmt}{f:Addr}{fd:FuncData}{k:Nat}{S:SpD}
structure bM(K:PySem.W.Frag) (x:Str) (st:Stmt) (f:Addr) (fd:FuncData):Prop where
 a:PySem.W.nsIn K mainGlobals x=some (some (.ref f))
 F:Fun K x x st f fd
theorem HS{oc:Value}{od an:Option Addr}{osl:Array (Option Value)}{kV doc pm cdv ct:Value}(a:PySem.W.nsIn K mainGlobals x=some (some (.ref f))) (l:K.lookup f=some ⟨oc,od,.func (PySem.W.fnOf x x (gG st) (dR st) (am st) .none kV doc pm an cdv ct),osl⟩)
  (c:PySem.W.codeIn K cdv x=true) (k:PySem.W.keepIn K (.ref f)=true):bM K x st f (PySem.W.fnOf x x (gG st) (dR st) (am st) .none kV doc pm an cdv ct):=⟨a,zZ l c k⟩
theorem usS{p:List Value->Prop}{n:Nat}(h:∀a us,us.length=n->p (a::us)):∀us:List Value,us.length=n+1->p us:=by
 intro us e;cases us with
 |nil=>cases e
 |cons a us=>exact h a us (Nat.succ.inj e)
theorem us0{p:List Value->Prop}(h:p []):∀us:List Value,us.length=0->p us:=by
 intro us e;cases us with
 |nil=>exact h
 |cons a us=>cases e
def Bd(x qual:Str) (st:Stmt) (ps:List Str) (us:List Value):Prop:=∀(kV doc pm:Value) (an:Option Addr) (cdv ct:Value),bindArgs (PySem.W.fnOf x qual (gG st) (dR st) (am st) .none kV doc pm an cdv ct) ⟨us,[]⟩=pure (ps.zip us)
theorem sW{ps:List Str}(F:Fun K x qual st f fd) (b:∀us:List Value,us.length=ps.length->Bd x qual st ps us):er K fd ps []:=F.binds fun kV doc pm an cdv ct us hl=>b us hl kV doc pm an cdv ct
variable{p1 p2 p3 p4 p5:Str}
theorem bd1(F:Fun K x qual st f fd) (b:∀a,Bd x qual st [p1] [a]):er K fd [p1] []:=sW F (usS fun a=>us0 (b a))
theorem bd2(F:Fun K x qual st f fd) (b:∀a c,Bd x qual st [p1,p2] [a,c]):er K fd [p1,p2] []:=sW F (usS fun a=>usS fun c=>us0 (b a c))
theorem bd3(F:Fun K x qual st f fd) (b:∀a c d,Bd x qual st [p1,p2,p3] [a,c,d]):er K fd [p1,p2,p3] []:=sW F (usS fun a=>usS fun c=>usS fun d=>us0 (b a c d))
theorem bd4(F:Fun K x qual st f fd) (b:∀a c d e,Bd x qual st [p1,p2,p3,p4] [a,c,d,e]):er K fd [p1,p2,p3,p4] []:=sW F (usS fun a=>usS fun c=>usS fun d=>usS fun e=>us0 (b a c d e))
theorem bd5(F:Fun K x qual st f fd) (b:∀a c d e g,Bd x qual st [p1,p2,p3,p4,p5] [a,c,d,e,g]):er K fd [p1,p2,p3,p4,p5] []:=sW F (usS fun a=>usS fun c=>usS fun d=>usS fun e=>usS fun g=>us0 (b a c d e g))
theorem fg{ps:List Str}{n:Nat}(X:K.In h) (G:h.Ns mainGlobals mg) (i:bM K x st f fd) (o:bf P w K mg base CX0 k f fd ps (spD K n S)) (b:er K fd ps []):FnD P w K mg base x k n S:=⟨_,_,_,o,PySem.W.mg_of X G i.a,i.F.kp,b⟩
theorem FU{fa:Addr}{sp:Sp}{lp:Program}(X:K.In h) (G:h.Ns mainGlobals mg) (hfa:mg "law"=some (.ref fa)) (i:bM K "law" st f fd) (b:∀a,Bd "law" "law" st [p1] [a]) (o:∀base:Heap,bf lp w K mg base CX0 k f fd [p1] sp) :
  ∃fd:FuncData,(∀(s:Shared) (v:Value),BindsTo s fd ⟨[v],[]⟩ [(p1,v)])/\∀base:Heap,K.In base->base.Ns mainGlobals mg->bf lp w K mg base CX0 k fa fd [p1] sp:=by
 have e:=hfa.symm.trans (PySem.W.mg_of X G i.a);cases e;refine⟨fd,fun s v=>?_,fun base _ _=>o base⟩;obtain⟨oc,od,kV,doc,pm,an,cdv,ct,osl,rfl,lk,hcd⟩:=i.F.ex;exact .of_eq (b v kV doc pm an cdv ct)
end
theorem oU:typeLookup (.type "tuple") "keys"=pure none:=by rw[typeLookup_type,builtinLookup_eq_fast];kernel_rfl
theorem pB:entryFor table "dict.update.loop"=some Builtin.«dict.update.loop»:=entryFor_of_tree (by kernel_rfl)
theorem jn:plainId "dict.update.loop"=true:=by decide +kernel
section
variable{prog:Program}{w:World}{A:Around}{E:Value->Shared->Prop}{s:Shared}
theorem xB{a:Addr}{o:Obj}{xs:Array Value}{k:Nat}{Q:Option Value->Shared->Prop}(hx:s.heap.get? a=some o) (hc:o.cls=.type "tuple") (hdat:o.data=.seq xs k) (hd:o.dict=none) (hA:A.handled=none)
  (h:∀h' tk e,Heap.NewExcOf s.heap h' e "AttributeError"->Q none { s with heap:=h',toks:=tk }):wpAny (model prog w) A (getAttr? (.ref a) "keys") Q E s:=by
 obtain⟨c,dct,dat,sl⟩:=o;simp only at hc hdat hd;subst hc hdat hd;obtain⟨hp,g,d,tk,os⟩:=s;have hT:∀tk',(⟨hp,g,d,tk',os⟩:Shared).TypeIs (.ref a) "tuple":=fun _=>⟨_,hx,rfl⟩;have f1:=sub_AttributeError;have f3:=F.slot_tuple_getattribute.lookup;have f4:=F.slot_tuple_getattribute.bind (.ref a);have f5:=am_tuple_getattr_none;unfold getAttr? getAttrBy? getAttrBy
 repeat (any_goals (first|assumption|exact hT _|((with_reducible show wpAny _ _ (call (Value.builtin "tuple.__getattribute__") _ _) _ _ _);refine call_meets F.slot_tuple_getattribute (hT _) am_entry_tuple_getattribute (F.args_tuple_getattribute_2 _ _) (meets_getattribute_miss_tuple a xs k sl "keys" _ oU (by decide) (by decide)) ⟨hx,hA,fun h' tk' e hx'=>?_⟩)|wp_step))
 obtain⟨t',u',he⟩:=hx'.there;show wpAny _ _ (getattributeRaised _ _ _ _ _ _ _) _ _ _;unfold getattributeRaised
 repeat (any_goals (first|assumption|wp_step))
 exact h _ _ _ hx'.of
theorem uN{b:Addr}{x y:Value}{Q:List Value->Shared->Prop}(ht:IsTup s.heap b #[x,y]) (h:Q [x,y] s):wpAny (model prog w) A (Builtin.Dict.pairItems (.ref b)) Q E s:=by
 obtain⟨o,h1,h2,n,h3⟩:=ht;unfold Builtin.Dict.pairItems;refine wpAny_bind (wpAny_typeOf (T:="tuple") ⟨o,h1,h2⟩ ?_);rw[if_pos (by decide)];refine wpAny_bind (wpAny_seqItems h1 h3 ?_);exact wpAny_pure h
variable{K:Type} [DecidableEq K] {knd:KeyKind prog w K}{R:Result->Shared->Prop}{I:Addr}{fp wr:List Addr}{G:Array GenState->Array GenState->Prop}{n:Nat}{P:Nat->Value->Prop}{St:Nat->Shared->Prop}
def nV(knd:KeyKind prog w K) (h:Heap) (b:Addr) (kv:K×Value):Prop:=∃key,IsTup h b #[key,kv.2]/\knd.is kv.1 key=true
theorem Cb(W:WalksS prog w A.in1 I fp wr G n P St) (d:Addr) (hdf:d∉fp) (kvs:List (K×Value)) (hn:kvs.length=n) (hz:n<=sizeLine) (hnd:(kvs.map (·.1)).Nodup) (bs:Nat->Addr)
  (hP:∀i v,P i v->v=.ref (bs i)) (hbs:∀i,i<n->bs i∉d::wr) :
  ∀(k i:Nat) (s:Shared) (t:Tok),n-i=k->i<=n->St i s->s.heap.DictOf knd d (kvs.take i)->(∀j (kv:K×Value),kvs[j]?=some kv->nV knd s.heap (bs j) kv) ->
   (∀s',Moved (d::wr) G s s'->s'.heap.DictOf knd d kvs->R (.ok (.ret .none)) s') ->
   codeAny (model prog w) A (.builtin "dict.update.loop" ⟨[.ref d,.ref I,.int i t,.none],[]⟩) R s:=by
 have hSw:d∉wr:=fun h=>hdf (W.sub _ h);have hsub:∀b∈wr,b∈d::wr:=fun b hb=>List.mem_cons_of_mem _ hb;intro k
 induction k with
 |zero =>
  intro i s t hk hi hst hS hpa hR;have hin:i=n:=by omega
  subst hin;refine codeAny_builtin pB ?_;rw[Around.under_plainId jn _];show wpAny _ A.in1 (pyNext (.ref I) >>= _) _ _ s;refine wpAny_bind (W.done s _ _ hst fun s' hm=>?_);show wpAny _ A.in1 (Builtin.Dict.addKeywords d [] >>= _) _ _ s';refine wpAny_bind (wpAny_pure (wpAny_pure (hR s' (hm.mono hsub) ?_)));rw[List.take_of_length_le (by omega)]at hS;obtain⟨o,es,ep,ho,bS⟩:=hS;exact⟨o,es,ep,hm.heap d _ hSw ho,bS⟩
 |succ k ih =>
  intro i s t hk hi hst hS hpa hR;have hlt:i<n:=by omega
  refine codeAny_builtin pB ?_;rw[Around.under_plainId jn _];show wpAny _ A.in1 (pyNext (.ref I) >>= _) _ _ s;refine wpAny_bind (W.item i s _ _ hlt hst fun v s' hPi hst' hm=>?_);obtain rfl:=hP i v hPi;have hS':s'.heap.DictOf knd d (kvs.take i):=by
   obtain⟨o,es,ep,ho,bS⟩:=hS;exact⟨o,es,ep,hm.heap d _ hSw ho,bS⟩
  have hpa':∀j (kv:K×Value),kvs[j]?=some kv->nV knd s'.heap (bs j) kv:=fun j kv hj=>by
   obtain⟨key,⟨o,h1,h2,m,h3⟩,h4⟩:=hpa j kv hj;have hjn:j<n:=by have:=(List.getElem?_eq_some_iff.mp hj).1;omega
   exact⟨key,⟨o,hm.heap _ _ (fun z=>hbs j hjn (hsub _ z)) h1,h2,m,h3⟩,h4⟩
  have hi':i<kvs.length:=by omega
  obtain⟨key,ht,hkey⟩:=hpa' i kvs[i] (List.getElem?_eq_getElem hi');have hstored:stored (kvs.take i) kvs[i].1 kvs[i].2=kvs.take (i+1):=by
   have hno:¬ ((kvs.take i).any fun kv=>decide (kv.1=kvs[i].1))=true:=by
    rw[List.any_eq_true];rintro⟨x,hx,e⟩;have e':x.1=kvs[i].1:=by simpa using e
    obtain⟨j,hj,ej⟩:=List.mem_iff_getElem.mp hx;rw[List.length_take]at hj;rw[List.getElem_take]at ej;have hd2:=List.pairwise_iff_getElem.mp hnd j i (by rw[List.length_map];omega) (by rw[List.length_map];assumption) (by omega);simp only[List.getElem_map]at hd2;exact hd2 (by rw[ej];exact e')
   rw[stored,if_neg hno,List.take_add_one,List.getElem?_eq_getElem hi'];rfl
  show wpAny _ A.in1 (holding [Value.ref (bs i)] _ >>= _) _ _ s';refine wpAny_bind (wpAny_holding (wpAny_bind (wpAny_tryCatch (uN ht ?_))));refine wpAny_holding (wpAny_dictSet_pairs (hsz:=by rw[List.length_take];omega) hkey hS' fun h' hd' hs'=>?_);rw[hstored]at hd';refine wpAny_pure ⟨plainId_quiet jn _,ih (i+1) _ _ (by omega) hlt (W.frame _ s' _ _ hst' (Nat.le_succ _) fun b hb o e=>?_) hd' (fun j kv hj=>?_) fun s'' hm'' hS''=>?_⟩
  ·rw[hs'.2 b (fun h:b=d=>hdf (by rw[<-h];exact hb))];exact e
  ·obtain⟨key,⟨o,h1,h2,m,h3⟩,h4⟩:=hpa' j kv hj;have hjn:j<n:=by have:=(List.getElem?_eq_some_iff.mp hj).1;omega
   refine⟨key,⟨o,?_,h2,m,h3⟩,h4⟩;show h'.get? (bs j)=_;rw[hs'.2 _ (fun z=>hbs j hjn (by rw[z];exact List.mem_cons_self))];exact h1
  ·refine hR s'' (Moved.trans W.gtrans ((hm.mono hsub).then_heap (Nat.le_succ _) fun b o hb e=>?_) hm'') hS'';rw[hs'.2 b (fun h:b=d=>hb (by rw[h];exact List.mem_cons_self))];exact e
noncomputable def uC(its:Array Value) (i:Nat):Addr:=match its[i]? with|some (.ref b)=>b|_=>0
theorem mC{l:Addr}{its:Array Value}{kvs:List (K×Value)}{Q:Value->Shared->Prop}(hh:A.handled=none) (hl:jY s.heap l its) (hn:kvs.length=its.size) (hz:its.size<=sizeLine) (hnd:(kvs.map (·.1)).Nodup)
  (hit:∀(i:Nat) (kv:K×Value),kvs[i]?=some kv->∃b,its[i]?=some (Value.ref b)/\nV knd s.heap b kv)
  (h:∀h' tk,h'.DictOf knd s.heap.objs.size kvs->(∀b o,s.heap.get? b=some o->h'.get? b=some o)->Q (.ref s.heap.objs.size) { s with heap:=h',toks:=tk }) :
  wpAny (model prog w) A (call (.type "dict") [.ref l]) Q E s:=by
 refine callType_codes (Q₁:=fun(obj:Value) (s₁:Shared)=>obj=Value.ref s.heap.objs.size/\s₁={ s with heap:=s.heap.push { cls:=.type "dict",data:=.dict #[] } }) F.kt_called_dict (F.kt_typeCall_dict_1 _) F.entry_dict_init (kt_code_dict_new _ ⟨rfl,rfl⟩) ?_;rintro obj s₁ ⟨rfl,rfl⟩;have hnew:(s.heap.push { cls:=.type "dict",data:=.dict #[] }).DictOf knd s.heap.objs.size []:=Heap.DictOf.new s.heap;have hlt:l<s.heap.objs.size:=hl.lt;obtain⟨o,ho,hc,⟨m,hd⟩,hdict⟩:=hl;have ho':(s.heap.push { cls:=.type "dict",data:=.dict #[] }).get? l=some o:=Heap.get?_push_of_some _ ho;refine⟨hnew.typeIs,F.args_dict_init_2 _ _,?_⟩;unfold Builtin.«dict.__init__»;refine wpAny_bind ?_;unfold Builtin.Dict.selfAndRest;refine wpAny_bind (wpAny_notOrdered_dict hnew.typeIs ?_);show wpAny _ _ (pure (s.heap.objs.size,[Value.ref l])) _ _ _;refine wpAny_pure ?_;show wpAny _ _ (Builtin.Dict.updateFrom "dict.__init__" s.heap.objs.size (.ref l) [] .none) _ _ _;unfold Builtin.Dict.updateFrom;refine wpAny_bind (wpAny_typeOf (T:="tuple") ⟨o,ho',hc⟩ ?_);rw[if_pos (by decide)];have hh2:A.in1.in1.handled=none:=hh;refine wpAny_bind (xB ho' hc hd hdict hh2 fun h1 tk1 e1 hx=>?_);have ht1:h1.IsTuple l its:=⟨o,hx.keeps _ _ ho',hc,m,hd⟩;have hd1:h1.DictOf knd s.heap.objs.size []:=by
  obtain⟨q,es,ep,hq,bS⟩:=hnew;exact⟨q,es,ep,hx.keeps _ _ hq,bS⟩
 have hsz:s.heap.objs.size<h1.objs.size:=by
  obtain⟨q,es,ep,hq,bS⟩:=hd1;exact Heap.lt_size hq
 have hold:∀b q,s.heap.get? b=some q->h1.get? b=some q:=fun b q e=>hx.keeps _ _ (Heap.get?_push_of_some _ e);rw[if_pos (show(Option.isNone (none:Option Value))=true from rfl)];refine wpAny_bind (wpAny_rule (wpAny_bind (wpAny_pyIter_tuple ht1 ?_)));refine wpAny_pure ⟨plainId_quiet jn _,?_⟩;have hb:∀(i:Nat) (kv:K×Value),kvs[i]?=some kv->uC its i<s.heap.objs.size/\nV knd s.heap (uC its i) kv:=fun i kv hi=>by
  obtain⟨b,e,q⟩:=hit i kv hi;have eb:uC its i=b:=by unfold uC;rw[e]
  rw[eb];obtain⟨key,⟨ob,g1,_⟩,_⟩:=id q;exact⟨Heap.lt_size g1,q⟩
 have hget:∀i,i<its.size->∃kv,kvs[i]?=some kv:=fun i hi=>⟨kvs[i]'(by omega),List.getElem?_eq_getElem (by omega)⟩;refine Cb (n:=its.size) ((Walks.tuple (A:=A.in1.in1) hh2 h1.objs.size l (Nat.ne_of_lt (Nat.lt_trans hlt hsz)) its).toS) s.heap.objs.size (by
  simp only[List.mem_cons,List.not_mem_nil,or_false,not_or];exact⟨Nat.ne_of_lt hsz,Nat.ne_of_gt hlt⟩) kvs hn hz hnd (uC its) (fun i v hi=>?_) (fun i hi=>?_) _ 0 _ 0 rfl (Nat.zero_le _) ⟨⟨_,Heap.get?_push_size _ rfl,rfl,rfl⟩,ht1.push _⟩ (hd1.push _) (fun j kv hj=>?_) fun s' hm hS'=>?_
 ·have hi':i<its.size:=(Array.getElem?_eq_some_iff.mp hi).1;obtain⟨kv,hkv⟩:=hget i hi';obtain⟨b,e,_⟩:=hit i kv hkv;have e':its[i]?=some v:=hi;rw[e]at e';have eb:uC its i=b:=by unfold uC;rw[e]
  rw[eb];exact(Option.some.inj e').symm
 ·obtain⟨kv,hkv⟩:=hget i hi;have:=(hb i kv hkv).1;simp only[List.mem_cons,List.not_mem_nil,or_false,not_or];exact⟨Nat.ne_of_lt this,Nat.ne_of_lt (Nat.lt_trans this hsz)⟩
 ·obtain⟨key,⟨ob,g1,g2,gm,g3⟩,g4⟩:=(hb j kv hj).2;exact⟨key,⟨ob,Heap.get?_push_of_some _ (hold _ _ g1),g2,gm,g3⟩,g4⟩
 ·obtain⟨h',g',d',tk',os'⟩:=s';have eg:g'=s.gens:=hm.gens;have ed:d'=s.drawn:=hm.drawn;have eo:os'=s.os:=hm.os;subst eg;subst ed;subst eo;refine⟨rfl,h h' tk' hS' fun b q e=>?_⟩;have hbl:=Heap.lt_size e;exact hm.heap b q (by simp only[List.mem_cons,List.not_mem_nil,or_false,not_or];exact⟨Nat.ne_of_lt hbl,Nat.ne_of_lt (Nat.lt_trans hbl hsz)⟩) (Heap.get?_push_of_some _ (hold _ _ e))
end
noncomputable def uG:List D->Option (List (Key×D))
 |[]=>some []
 |.tup [.str k,d]::ds=>(uG ds).map fun l=>(.inr k,d)::l
 |_=>none
def tu:D->Option D
 |.tup ds=>(uG ds).bind fun kvs=>if(kvs.map (·.1)).Nodup then some (lq kvs)else none
 |_=>none
theorem BX{ds:List D}{kvs:List (Key×D)}(h:uG ds=some kvs) (n:(kvs.map (·.1)).Nodup):tu (.tup ds)=some (lq kvs):=by
 simp only[tu,h,Option.bind_some,if_pos n]
section
variable{X:Cx}{ae:List (Addr×Obj)}{σ:St}{H:Hp}{s:Shared}{M:DH}
theorem DT(I:Inv X ae σ H s) (hr:HR X.K M H):∀(ds:List D) (vs:List V) (its:List Value) (kvs:List (Key×D)),au X.K M H ds vs->az vs its->uG ds=some kvs ->
  ∃(ws:List V) (us:List Value),au X.K M H (kvs.map (·.2)) ws/\az ws us/\kvs.length=its.length/\us.length=its.length/\∀(i:Nat) (kv:Key×Value),((kvs.map (·.1)).zip us)[i]?=some kv->∃b,its[i]?=some (Value.ref b)/\nV (aP X.prog X.w) s.heap b kv
 |[],vs,its,kvs,rl,rv,e=>by
  cases e;simp only[au]at rl;subst rl;cases rv;exact⟨[],[],au.nil,.nil,rfl,rfl,fun i kv h=>by simp at h⟩
 |d::ds,vs,its,kvs,rl,rv,e=>by
  simp only[au]at rl;obtain⟨v,vs',rfl,r1,rl'⟩:=rl;cases rv with
  |@cons _ u _ its' ru rv' =>
   cases d with
   |tup es =>
    cases es with
    |nil=>cases e
    |cons e1 es =>
     cases e1 with
     |str k =>
      cases es with
      |nil=>cases e
      |cons d2 es =>
       cases es with
       |cons _ _=>cases e
       |nil =>
        simp only[uG]at e;obtain⟨kvs',ek,rfl⟩:=Option.map_eq_some_iff.mp e;obtain⟨ws,us,h1,h2,h3,h4,h5⟩:=DT I hr ds vs' its' kvs' rl' rv' ek;simp only[Rep]at r1;obtain⟨b,xs,rfl,ta,rx⟩:=r1;simp only[au]at rx;obtain⟨x1,_,rfl,rx1,x2,_,rfl,rx2,rfl⟩:=rx;cases(show u=Value.ref b from ru);obtain⟨its2,rv2,tn,_⟩:=I.tupN ta.sq;obtain⟨u1,u2,rfl,ru1,ru2⟩:=az.two rv2;simp only[Rep]at rx1;subst rx1;refine⟨x2::ws,u2::us,au.cons rx2 h1,.cons ru2 h2,by simp[h3],by simp[h4],fun i kv hi=>?_⟩;cases i with
        |zero =>
         simp only[List.map_cons,List.zip_cons_cons,List.getElem?_cons_zero,Option.some.injEq]at hi;subst hi;exact⟨b,rfl,u1,tn.tup,mi (k:=.inr k) ru1⟩
        |succ i =>
         simp only[List.map_cons,List.zip_cons_cons,List.getElem?_cons_succ]at hi;obtain⟨c,g1,g2⟩:=h5 i kv hi;exact⟨c,by rw[List.getElem?_cons_succ];exact g1,g2⟩
     |_=>cases e
   |_=>cases e
theorem vD{α β γ:Type}:∀{l:List (α×β)}{us:List γ},us.length=l.length->(((l.map (·.1)).zip us).map (·.1))=l.map (·.1)
 |[],[],_=>rfl
 |a::l,u::us,h=>by
  simp only[List.map_cons,List.zip_cons_cons];rw[vD (by simpa using h)]
theorem zb{κ:Type}:∀{ks:List κ}{ws:List V}{us:List Value},az ws us->ks.length=us.length->KV (ks.zip ws) (ks.zip us)
 |[],_,_,_,_=>.nil
 |k::ks,_,_,.nil,h=>by simp at h
 |k::ks,_,_,.cons r rv,h=>.cons ⟨rfl,r⟩ (zb rv (by simpa using h))
theorem FT(hc:X.calm=true):bj X (.type "dict") (jq tu):=by
 intro ae s σ H M xs us ds dz Q I hr rv rp e k;obtain⟨d,rfl,e0⟩:=bY e;clear e;obtain⟨v,rfl,r⟩:=i7 rp;obtain⟨u,rfl,ru⟩:=az.one rv;cases d with
 |tup ds =>
  simp only[tu]at e0;obtain⟨kvs,ek,e1⟩:=Option.bind_eq_some_iff.mp e0
  by_cases hn:(kvs.map (·.1)).Nodup
  ·rw[if_pos hn]at e1;cases e1;obtain⟨a,vs,rfl,sq,rl⟩:=r;cases(show u=Value.ref a from ru);obtain⟨its,rv',tn,hz⟩:=I.tupN sq;obtain⟨ws,us,h1,h2,h3,h4,h5⟩:=DT I hr ds vs its kvs rl rv' ek;have bp:=rv'.length;refine mC (knd:=aP X.prog X.w) (kvs:=(kvs.map (·.1)).zip us) (I.ok.hd hc) tn (by simp[h3,h4]) (by simp;omega) (by rw[vD (by omega)];exact hn) (fun i kv hi=>by
    obtain⟨b,g1,g2⟩:=h5 i kv hi;exact⟨b,by simpa using g1,g2⟩) fun h' tk hd' hk'=>?_
   obtain⟨ob,es,ep,hob,bS⟩:=id hd';have hp:=I.hok.fresh (Nat.le_refl s.heap.objs.size);have hwl:ws.length=kvs.length:=by have:=h2.length;omega
   have I1:=I.laid (a:=s.heap.objs.size) (o:=.frz ob (.dK ((kvs.map (·.1)).zip ws))) (h':=h') (t':=tk) hk' (Nat.le_refl _) ⟨hob,by simp[hwl];omega,by
    have:=I.big;exact beq_false_of_ne (Nat.ne_of_gt this),_,zb h2 (by simp;omega),hd'⟩
   refine⟨.ref s.heap.objs.size,_,I1,rfl,k _ _ (Ext.new hr hp) (hr.new hp) ?_⟩;unfold lq;simp only[Rep];exact⟨_,ws,rfl,⟨by simp[hwl],⟨ob,aB⟩,hr.fresh hp⟩,h1.ext (Ext.new hr hp)⟩
  ·rw[if_neg hn]at e1;cases e1
 |_=>cases e0
end
section
variable{X:Cx}{o e e1 e2:Expr}{to te t1 t2:TEd}
def vX:V->List V->Hp->VK->Prop:=fun x vs H Q=>∃(l:Addr) (xs:List V) (i:Nat) (y:V),x=.ref l/\vs=[.int (i:Int),y]/\H l=some (.lst xs)/\i<=xs.length/\xs.length<sizeLine/\Q .non (upd H l (.lst (xs.take i++y::xs.drop i)))
theorem xT:MtM X "list.insert" vX:=by
 intro ae s σ H x vs v us Q I rx rv h;obtain⟨l,xs,i,y,rfl,rfl,hH,hi,hz,q⟩:=h;cases rx;obtain⟨u1,u2,rfl,ru1,ru2⟩:=az.two rv;obtain⟨t,rfl⟩:=ru1;obtain⟨z,its,n,r,hl,e⟩:=I.lstM hH;obtain⟨x,hx⟩:∃x:Int,x=(i:Int):=⟨_,rfl⟩;rw[<-hx];have hfit:¬ (!Builtin.List.listFitsIndex x)=true:=by
  have h2:x<2 ^ 63:=by
   have:(sizeLine:Nat)<=(2 ^ 63-1) / 8:=by decide
   omega
  rw[fitsIndex_both (by omega) h2];exact Bool.false_ne_true
 have hs:its.toArray.size<=sizeLine:=by rw[List.size_toArray];omega
 have m:=AutoSeq1.list_insert_list_int_val_1 l its.toArray n x t u2 hfit hs;refine call_meets F.slot_list_insert ⟨_,e,rfl⟩ F.entry_list_insert (F.args_list_insert_3 _ _ _) m ⟨e,?_⟩;refine⟨.non,_,I.lset (its':=its.take i++u2::its.drop i) hH e ?_ ((r.take i).append (.cons ru2 (r.drop i))) ?_,rfl,q⟩
 ·have h1:¬ x<0:=by omega
  have h2:min x.toNat its.length=i:=by omega
  show(its.toArray.extract 0 (if x<0 then _ else min x.toNat its.toArray.size)).push u2++its.toArray.extract (if x<0 then _ else min x.toNat its.toArray.size)=_;rw[if_neg h1,List.size_toArray,h2];apply Array.ext';simp;exact List.take_of_length_le (by simp)
 ·rw[List.length_append,List.length_take,List.length_cons,List.length_drop];omega
def GR(to t1 t2:TEd):TEd:=fun Δ M Q=>to Δ M fun o M1=>∃a l,o=.ref a/\M1 a=some (.lst l)/\t1 Δ M1 fun d1 M2=>t2 Δ M2 fun d2 M3=>∃(ds:List D) (i:Nat),d1=.int (i:Int)/\M3 a=some (.lst ds)/\i<=ds.length/\ds.length<sizeLine/\Q .non (av M3 a (.lst (ds.take i++d2::ds.drop i)))
theorem GE{cc bv:Pos}(ho:QEd X o to) (h1:QEd X e1 t1) (h2:QEd X e2 t2) (dq:attributeBase o "insert" X.env (eval o X.env)=eval o X.env:=by rfl)
  (hse:starEach [e1,e2] X.env=(false,eval e1 X.env)::starEach [e2] X.env:=by rfl) (hse2:starEach [e2] X.env=(false,eval e2 X.env)::starEach [] X.env:=by rfl)
  (uJ:((backTo bv (starEach [e1,e2] X.env)).all (fun x => !x.1) && (backToKw bv (keywordEach [] X.env)).all (fun x => x.1.isSome)
  &&decide ([e1,e2].length+([]:List Keyword).length+(if([]:List Keyword).isEmpty then 0 else 1)<30))=true:=by rfl)
  (c9:(cc.endLine==bv.line)=true:=by rfl) (kc:(backTo bv (starEach [e2] X.env)).any (·.1)=false:=by rfl):QEd X (.Call (.Attribute o "insert" cc) [e1,e2] [] bv) (GR to t1 t2):=by
 simp only[QEd.eq]at *
 exact(AR PySem.F.plainAttrs_list PySem.F.slot_list_insert PySem.F.type_list_insert (show MtR X "list.insert" vX from xT) ho (gY h1 (gY h2 nj hse2) hse) dq uJ c9 hse kc).conv fun σ H Q hup=>hup.el fun Δ M R sr hr q k=>⟨Δ,M,_,sr,hr,q,fun o M1 ov H1 ⟨a,l,eo,em,q1⟩ e1 hr1 ro=>by
   subst eo;simp only[Rep]at ro;subst ro;obtain⟨vs,hv,rl⟩:=hr1 a _ em;refine⟨.inl ⟨rfl,vs,SqL.of hv⟩,Δ,M1,_,sr.ext e1,hr1,q1,fun d1 M2 v1 H2 q2 e2 hr2 rv1=>⟨Δ,M2,_,(sr.ext e1).ext e2,hr2,q2,fun d2 M3 v2 H3 ⟨ds,i,ed,em3,hi,hz,q3⟩ e3 hr3 rv2=>?_⟩⟩;subst ed;simp only[Rep]at rv1;subst rv1;obtain⟨ws,hw,rl2⟩:=hr3 a _ em3;have hl:=rl2.length;exact⟨a,ws,i,v2,rfl,rfl,hw,by omega,by omega,k _ _ _ _ q3 (((e1.trans e2).trans e3).trans (Ext.write em3)) (hr3.write em3 ((rl2.take i).append (au.cons rv2 (rl2.drop i)))) (by simp[Rep])⟩⟩
end
section
variable{X:Cx}{e:Expr}{te:TEd}{pos:Pos}
def HP(te:TEd) (tl th:TOd):TEd:=fun Δ M Q=>te Δ M fun x M1=>tl Δ M1 fun l M2=>th Δ M2 fun u M3=>∃ds,rdM M3 x=.lst ds/\∀p,M3 p=none->Q (.ref p) (av M3 p (.lst (cK ds l u)))
theorem zX{lo hi:Option Expr}{tl th:TOd}{p2:Pos}(he:QEd X e te) (hl:QOd X lo tl) (hu:QOd X hi th):QEd X (.Subscript e (.Slice lo hi none p2) pos) (HP te tl th):=by
 simp only[QEd.eq,QOd.eq]at *
 refine(tM (SlR.or xb (SlR.or yY (SlR.or yT sA))) he hl hu).conv fun σ H Q hh=>?_;obtain⟨Δ,M,R,sr,hr,q,k⟩:=hh;refine⟨Δ,M,_,sr,hr,q,fun x M1 v H1 q1 e1 hr1 rv=>⟨Δ,M1,_,sr.ext e1,hr1,q1,fun l M2 H2 q2 e2 hr2=>⟨Δ,M2,_,(sr.ext e1).ext e2,hr2,q2,fun u M3 H3 ⟨ds,ez,q3⟩ e3 hr3=>?_⟩⟩⟩;have rr:=((rv.ext e2).ext e3).rd hr3;have ee:=(e1.trans e2).trans e3;rw[ez]at rr;obtain⟨a,vs,rfl,sq,rl⟩:=rr;refine .inl ⟨a,vs,rfl,SqL.of sq,fun p hp=>?_⟩;refine k _ _ _ _ (q3 p (hr3.fresh hp)) (ee.trans (Ext.own hp)) (hr3.own hp ?_) (by simp only[Rep]);unfold cK o3;rw[<-rl.length];exact au.take _ (au.drop _ rl)
end
theorem nbh{op:CmpOp}{b:Expr}(h:op≠.In:=by decide) (h2:op≠.NotIn:=by decide):behindInMarks op b=false:=nt b h h2
theorem fsc{N P:List Str}{sc:Scope}(a:sc.kind=.function:=by exact rfl) (b:sc.isCoroutine=false:=by exact rfl) (c:sc.isGenerator=false:=by exact rfl) (d:N.Nodup:=by decide +kernel) (e:N.take P.length=P:=by exact rfl)
  (f:∀x∈P,sc.names.lookup x=some .local∨sc.names.lookup x=some .cell:=by decide +kernel) (g:∀y∈sc.names,y.2≠.free:=by decide +kernel):ay N P sc:=⟨a,b,c,d,e,f,g⟩
section
variable{X:Cx}{e:Expr}{es:List Expr}{t:TAd}{pos p:Pos}{x:Str}{j k n:Nat}{S:SpD}
theorem qd(F:FnD X.prog X.w X.K X.mg X.base x j n S) (hr:cG k X.A) (ha:QAd X (e::es) t) (h:j<=k:=by decide) (hg:Gl X x:=by exact rfl) (hdb:(x==("__debug__":Str))=false:=by decide) (he:starEach (e::es) X.env=(false,eval e X.env)::starEach es X.env:=by rfl) (hpl:(backTo pos (starEach es X.env)).any (·.1)=false:=by rfl) :
  QEd X (.Call (.Name x p) (e::es) [] pos) (jB n S t):=qc F (hr.mono h) hg ha hdb he hpl
theorem sJ:bQ X (compareOp .NotEq) (iOp fun i j=>some (.bl (i != j))):=lh (fun _ _=>rfl) (Bw fun _ _ _ _ _ _ _ q=>ne_int q)
end
def tkD(y:D) (ks:List Key):Prop:=y=lR ks∨y=.tup (ks.map kD)
theorem FL{K:PySem.W.Frag}{M:DH}{H:Hp}{y:D}{ks:List Key}{v:V}(h:tkD y ks) (r:Rep K M H y v):Rep K M H (.tup (ks.map kD)) v:=by
 rcases h with rfl|rfl
 ·exact lY r
 ·exact r
section
variable{X:Cx}{o i:Expr}{to ti:TEd}{pos:Pos}
def DM(to ti:TEd):TEd:=fun Δ M Q=>to Δ M fun x M1=>ti Δ M1 fun y M2=>∃kvs ks d,asT M2 x=some kvs/\tkD y ks/\bw kvs ks=some d/\Q d M2
theorem FJ(hu:X.A.units+1<cLine) (ho:QEd X o to) (hi:QEd X i ti) (hs:tN i):QEd X (.Subscript o i pos) (DM to ti):=by
 simp only[QEd.eq]at *
 exact PE.conv (sH hu ho hi hs) fun σ H Q hup=>hup.el fun Δ M R sr hr q k=>⟨Δ,M,_,sr,hr,q,fun x M1 v H1 q1 e1 hr1 rv=>⟨Δ,M1,_,sr.ext e1,hr1,q1,fun y M2 u H2 ⟨kvs,ky,d,ea,ey,ed,q2⟩ e2 hr2 ru=>by
   replace ru:=FL ey ru;obtain⟨a,ks,rfl,h2,kr⟩:=kn hr2 (rv.ext e2) ea;simp only[Rep]at ru;obtain⟨b,vs,rfl,tb,rl⟩:=ru;obtain⟨w,hw,rw_⟩:=(kr.val ky).1 d ed;refine⟨a,b,ks,ky,w,rfl,rfl,h2,?_,hw,k d M2 w H2 q2 (e1.trans e2) hr2 rw_⟩;rw[<-jh rl];exact tb.sq⟩⟩
noncomputable def vk:D->D
 |.box .key ds=>.tup ds
 |d=>d
theorem pw{K:PySem.W.Frag}{M:DH}{H:Hp}{d:D}{v:V}(h:aU K M H d v):aU K M H (vk d) v:=by
 cases d with
 |box t ds =>
  cases t with
  |key =>
   obtain⟨a,vs,e,⟨r,n⟩,h⟩:=kT.mp (show Rep K M H (.box .key ds) v from h);exact⟨a,vs,e,.inl (.inl r),h⟩
  |_=>exact h
 |_=>exact h
def Fb(x y:D):Option D:=neF (vk x) (vk y)
theorem Gx(hu:X.A.units+64<cLine):bQ X (compareOp .NotEq) Fb:=by
 intro ae s σ H M x y v u dx dy dz Q I hr rx ry r1 r2 e k;exact Gv hu ae s σ H M x y v u (vk dx) (vk dy) dz Q I hr rx ry (pw r1) (pw r2) e k
theorem FR:bQ X (inplaceOp .Sub) (iOp fun i j=>some (.int (i-j))):=by
 intro ae s σ H M x y v u dx dy dz Q I hr rx ry r1 r2 e k;obtain⟨i,j,rfl,rfl,e'⟩:=k5 e;cases e';have h1:=dI r1;have h2:=dI r2;subst h1;subst h2;obtain⟨t,rfl⟩:=rx;obtain⟨t',rfl⟩:=ry;exact isub_int ⟨.int _,H,I.tok _,⟨_,rfl⟩,k _ H (Ext.refl _ _) hr (by simp[Rep])⟩
def DvW(j:Int):Prop:=0<j/\j.natAbs.log2<9000
theorem qJ:cP X (.builtin "divmod") (fun xs H Q=>∃i j,xs=[.int i,.int j]/\DvW j/\∀p,H p=none->Q (.ref p) (upd H p (.tup [.int (i / j),.int (i % j)]))):=by
 intro ae s σ H xs us Q I r h;obtain⟨i,j,rfl,⟨h1,h2⟩,q⟩:=h;obtain⟨u,w',rfl,⟨t,rfl⟩,⟨t',rfl⟩⟩:=wX r;refine divmod_int (by omega) ?_ (.inl (PyProof.noPylong_of_log2 h2));rw[Int.fdiv_eq_ediv_of_nonneg i (by exact Int.le_of_lt (by assumption)),Int.fmod_eq_emod_of_nonneg i (by exact Int.le_of_lt (by assumption))];have hn:H s.heap.objs.size=none:=I.hok.fresh (Nat.le_refl _);refine⟨.ref s.heap.objs.size,_,?_,rfl,q _ hn⟩;refine I.laid (fun b o e=>Heap.get?_push_of_some _ e) (Nat.le_refl _) ⟨by simp only[List.length_cons,List.length_nil];rw[sizeLine_eq];decide,[.int (i / j) s.toks,.int (i % j) (s.toks+1)],.cons ⟨_,rfl⟩ (.cons ⟨_,rfl⟩ .nil),?_⟩;exact⟨_,Heap.get?_push_size s.heap rfl,rfl,⟨0,rfl⟩,rfl⟩
def dmW:List D->Option D
 |[.int i,.int j]=>@ite _ (DvW j) (Classical.propDecidable _) (some (.tup [.int (i / j),.int (i % j)])) none
 |_=>none
theorem yh:bj X (.builtin "divmod") dmW:=bj.of qJ fun H M xs ds dz Q hr rp e q=>by
 unfold dmW at e
 split at e
 ·rename_i i j
  by_cases hc:DvW j
  ·rw[if_pos hc]at e;cases e;obtain⟨v,w,rfl,r1,r2⟩:=xf rp;rw[dI r1,dI r2];refine⟨i,j,rfl,hc,fun p hp=>?_⟩;exact j7 hr hp (au.cons (by simp[Rep]) (au.cons (by simp[Rep]) au.nil)) q
  ·rw[if_neg hc]at e;cases e
 ·cases e
theorem FY{i j:Int}(h:DvW j):dmW [.int i,.int j]=some (.tup [.int (i / j),.int (i % j)]):=if_pos h
end
section
variable{X:Cx}{tg iter kx vx:Expr}{es:List Expr}{pos:Pos}{scope:Scope}{cl:List (Str×Addr)}{ms:List Bool}{ar:List Str}
def kf(g:GD) (tk tv:TEd) (p:Addr):List D->DE->DH->(DH->Prop)->Prop
 |[],_,M,Q=>Q M
 |d::ds,Δ,M,Q=>∃ Δ',g d Δ=some Δ'/\tk Δ' M fun kd M1=>tv Δ' M1 fun v M2=>∃kvs ks,kd=lR ks/\M2 p=some (.dT kvs)/\kvs.length<sizeLine/\kf g tk tv p ds Δ' (av M2 p (.dT (df kvs ks v))) Q
def Ew(ms:List Bool) (k:Nat) (wi:TId) (g:GD) (tk tv:TEd):TEd:=fun Δ M Q=>wi Δ M fun ds M1=>∀p,M1 p=none->kf g tk tv p ds (eM ms k Δ) (av M1 p (.dT [])) fun M2=>Q (.ref p) M2
theorem Am{K:PySem.W.Frag}{wi:TId}{g:GD}{tk tv:TEd}{gv:TG}{ms:List Bool}{kk:Nat}(kg:nq K g gv) :
  ∀ σ H Q,up K (Ew ms kk wi g tk tv) σ H Q->tDc ms kk (upI K wi) gv (up K tk) (up K tv) σ H Q:=by
 rintro σ H Q ⟨Δ,M,R,sr,hr,q,k⟩;refine⟨Δ,M,_,sr,hr,q,fun ds M1 J H1 q1 e1 hr1 it=>fun p hp=>?_⟩;have e0:Ext M1 H1 (av M1 p (.dT [])) (upd H1 p (.dT [])):=Ext.own hp;refine⟨fun i m σ' H'=>∃ Δ' M',m=ds.length-i/\i<=ds.length/\Ext M1 H1 M' H'/\HR K M' H'/\SR K M' H' σ' Δ'/\kf g tk tv p (ds.drop i) Δ' M' fun M2=>R (.ref p) M2,
  fun H'=>∃M',Ext M1 H1 M' H'/\HR K M' H'/\R (.ref p) M',⟨ds.length,_,_,by simp,Nat.zero_le _,e0,hr1.put e0 ⟨[],aB,.nil⟩,((sr.ext e1).ext e0).comp ms kk,q1 p (hr1.fresh hp)⟩,?_,?_⟩
 ·rintro i m σ2 H2 ⟨Δ2,M2,rfl,hi2,e2,hr2,sr2,f2⟩;obtain⟨go,stop⟩:=it M2 H2 e2 hr2 i
  by_cases hlt:i<ds.length
  ·have hd:ds[i]?=some ds[i]:=by simp[hlt]
   obtain⟨g1,y1⟩:=go _ hd;rw[List.drop_eq_getElem_cons hlt]at f2;simp only[kf]at f2;obtain⟨Δ3,eg,f3⟩:=f2;refine .inr ⟨g1,fun x H' hy=>?_⟩;obtain⟨e3,hr3,rx⟩:=y1 x H' hy;refine kg _ x σ2 Δ2 Δ3 M2 H' _ (sr2.ext e3) hr3 rx eg fun σ3 sr3=>?_;refine⟨Δ3,M2,_,sr3,hr3,f3,fun kd M4 kv H4 q4 e4 hr4 rk=>?_⟩;refine⟨Δ3,M4,_,sr3.ext e4,hr4,q4,fun v M6 v6 H6 ⟨kvs,ks,ek,em,hl,q6⟩ e6 hr6 rv6=>?_⟩;subst ek;obtain⟨b,rfl,eb⟩:=iO (rk.ext e6);obtain⟨vs,h6,kr⟩:=hr6 p _ em;have ew:Ext M6 H6 (av M6 p (.dT (df kvs ks v))) (upd H6 p (.dT (dv vs ks v6))):=Ext.write em;exact⟨_,⟨vs,ks,b,h6,rfl,eb,by rw[<-kr.length];exact hl,rfl⟩,ds.length-(i+1),by omega,Δ3,_,rfl,hlt,(((e2.trans e3).trans e4).trans e6).trans ew,hr6.put ew ⟨_,aB,(kr.put ks rv6).ext ew⟩,((sr3.ext e4).ext e6).ext ew,q6⟩
  ·rw[List.drop_eq_nil_of_le (by omega)]at f2;exact .inl ⟨stop (by omega),M2,e2,hr2,f2⟩
 ·rintro H' ⟨M',e',hr',q'⟩;exact k _ M' _ _ q' (e1.trans e') hr' (by simp only[Rep])
end
section
variable{X:Cx}{ae:List (Addr×Obj)}{scope:Scope}{cl:List (Str×Addr)}{ms:List Bool}{ar:List Str}{tg iter kx vx:Expr}{g:TG}{tk tv:TE}{pos:Pos}
theorem Gz(hu:X.A.units<cLine) (S:dN X scope cl ms ar) (cV:X.calm=true) {wi:TI}(hi:PI X tg iter wi)
  (hg:∀C s H ex,PG (aA X scope cl (X.N++ar) C s H ex) tg g) (hk:∀C s H ex,PE (aA X scope cl (X.N++ar) C s H ex) kx tk) (hv:∀C s H ex,PE (aA X scope cl (X.N++ar) C s H ex) vx tv)
  (hs:∀x,foldedSetIterable iter X.env x=pure x:=by intro _;rfl):PE X (.DictComp kx vx [⟨tg,iter,[],0⟩] scope pos) (tDc ms ar.length wi g tk tv):=by
 intro ae s σ H Q I h;show wpAny _ _ (comprehension (.DictComp kx vx [⟨tg,iter,[],0⟩] scope pos) scope X.env _ newDict false (eval iter X.env)) _ _ s;refine wpAny_comprehension_free (use:=none) rfl hs S.clos S.kind S.names (thn (hi ae s σ H _ I h) fun v s1 h1=>thn h1 fun itv s2 h2=>?_);obtain⟨it,fp,tn,J,H2,e,I2,T,st2,f2,q⟩:=h2;subst e;have hp:=I2.hok.fresh (Nat.le_refl s2.heap.objs.size);obtain⟨W,Z,⟨m0,w0⟩,turn,q⟩:=q _ hp;refine wpAny_newObj_type ?_;have I3:=I2.laid (a:=s2.heap.objs.size) (o:=.dT []) (h':=s2.heap.push { cls:=.type "dict",data:=.dict #[] }) (t':=s2.toks) (fun _ _ q=>Heap.get?_push_of_some _ q) (Nat.le_refl _) (oy s2.heap I2.big);have f3:∀b∈fp,du X ae (upd H2 s2.heap.objs.size (.dT [])) b:=fun b hb=>by
  obtain⟨o,e,_⟩:=T.obj _ _ st2 b hb;have hne:b≠s2.heap.objs.size:=Nat.ne_of_lt (Heap.lt_size e);obtain⟨a1,a2⟩:=f2 b hb;exact⟨by rw[aL hne];exact a1,a2⟩
 refine uA (s2:={ s2 with heap:=s2.heap.push { cls:=.type "dict",data:=.dict #[] } }) hu S cV hg hk hv I3 T (T.keep _ _ _ st2 fun b _ o e=>Heap.get?_push_of_some _ e) f3 w0 turn
  (RR:=fun C=>compPost (model X.prog X.w) X.A X.xe none (EP X ae σ Q) (.ref s2.heap.objs.size) C) ?_
 intro s' σ' H' I' hZ;obtain⟨m,hm,_⟩:=I'.loc;refine⟨m,hm,fun h' hs'=>?_⟩;exact⟨.ref s2.heap.objs.size,_,vi I3 f3 I' hs',rfl,q H' hZ⟩
end
section
variable{X:Cx}{tg iter kx vx:Expr}{pos:Pos}{scope:Scope}{cl:List (Str×Addr)}{ms:List Bool}{ar:List Str}
theorem HM{wi:TId}{g:GD}{tk tv:TEd}(hu:X.A.units<cLine) (S:dN X scope cl ms ar) (cV:X.calm=true) (hi:QId X tg iter wi) (hg:PGa X scope cl ar tg g)
  (hk:∀C s H ex,QEd (aA X scope cl (X.N++ar) C s H ex) kx tk) (hv:∀C s H ex,QEd (aA X scope cl (X.N++ar) C s H ex) vx tv)
  (hs:∀x,foldedSetIterable iter X.env x=pure x:=by intro _;rfl):QEd X (.DictComp kx vx [⟨tg,iter,[],0⟩] scope pos) (Ew ms ar.length wi g tk tv):=by
 simp only[QEd.eq,QId.eq]at *
 obtain⟨gv,pg,kg⟩:=hg;exact(Gz (tk:=up X.K tk) (tv:=up X.K tv) hu S cV hi pg hk hv hs).conv (Am kg)
end
noncomputable def EY:List Int->Option Int
 |[]=>none
 |n::ns=>some (ns.foldl min n)
theorem k9:∀(ns:List Int) (n:Int),(∀a∈n::ns,ns.foldl min n<=a)/\ns.foldl min n∈n::ns
 | [],n => ⟨fun a h => by
   rw[List.mem_singleton.mp h];exact Int.le_refl _,List.mem_cons_self⟩
 |m::ns,n=>by
  obtain⟨h1,h2⟩:=k9 ns (min n m);rw[List.foldl_cons];have h3:=h1 (min n m) (.head _);refine⟨fun a h=>?_,?_⟩
  ·rcases List.mem_cons.mp h with e|h
   ·omega
   ·rcases List.mem_cons.mp h with e|h
    ·omega
    ·exact h1 a (.tail _ h)
  ·rcases List.mem_cons.mp h2 with e|h
   ·by_cases c:n<=m
    ·have:ns.foldl min (min n m)=n:=by omega
     rw[this];exact .head _
    ·have:ns.foldl min (min n m)=m:=by omega
     rw[this];exact .tail _ (.head _)
   ·exact .tail _ (.tail _ h)
def Cw:D->Option D
 |.lst ds=>((dH ds).bind EY).map D.int
 |_=>none
theorem D9{ns:List Int}:Cw (.lst (ns.map D.int))=(EY ns).map D.int:=by simp only[Cw,gJ,Option.bind_some]
section
variable{X:Cx}
theorem E4(hc:X.calm=true):bj X (.builtin "min") (jq Cw):=by
 intro ae s σ H M xs us ds dz Q I hr rv rp e k;obtain⟨d,rfl,e0⟩:=bY e;clear e;obtain⟨v,rfl,r⟩:=i7 rp;obtain⟨u,rfl,ru⟩:=az.one rv;cases d with
 |lst ds =>
  simp only[Cw]at e0;cases q:dH ds with
  |none=>rw[q]at e0;cases e0
  |some ns =>
   rw[q]at e0;cases ns with
   |nil=>cases e0
   |cons n ns =>
    cases e0;obtain⟨l,vs,rfl,sq,rl⟩:=r;cases ru;obtain⟨its,rv,pl,hz⟩:=I.list (SqL.of sq);obtain⟨ys,e1,e2⟩:=jg q rl rv;have hsz:0<ys.size:=by
     have h:=congrArg List.length e2;simp at h;omega
    refine min_intList (xs:=ys) (I.ok.hd hc) (by rw[<-e1];exact pl.isList) hsz fun v h' tk hv kk=>?_;obtain⟨t,rfl⟩:=intItems_at hv;obtain⟨h1,h2⟩:=argBest_lt (numAt ys) (ys.size-1);have I1:Inv X ae σ H { s with heap:=h',toks:=tk }:=I.kept (t':=tk) kk;refine⟨.int _,H,I1,⟨_,rfl⟩,k _ H (Ext.refl _ _) hr ?_⟩;obtain⟨m1,m2⟩:=k9 ns n;have e3:∀j,j<ys.size->numAt ys j∈n::ns:=fun j hj=>by
     rw[numAt_eq,e2];exact getD_mem (by rw[<-e2,List.length_map,Array.length_toList];exact hj)
    have a1:=m1 _ (e3 _ (Nat.lt_of_le_of_lt h1 (by omega)));have a2:numAt ys (argBest (fun i j=>decide (numAt ys i<numAt ys j)) (ys.size-1))<=ns.foldl min n:=by
     rw[<-e2]at m2;obtain⟨j,hj,ej⟩:=mem_getD m2;rw[List.length_map,Array.length_toList]at hj;rw[<-ej,<-numAt_eq];exact h2 j (by omega)
    have:numAt ys (argBest (fun i j=>decide (numAt ys i<numAt ys j)) (ys.size-1))=ns.foldl min n:=Int.le_antisymm a2 a1;rw[this];simp[Rep]
 |_=>cases e0
end
section
variable{P:Program}{w:World}{K:PySem.W.Frag}{mg:Str->Option Value}{base:Heap}{f:Addr}{fd:FuncData}
theorem Fun.okR{x qual:Str}{st:Stmt}{f:Addr}{fd:FuncData}{N ps:List Str}{k n:Nat}{S:SpD}(F:Fun K x qual st f fd) (hn:ps.length=n) (Sc:ay N ps (am st))
  (hbody:∀ (cdv:Value) (A:Around) (outer:List Env) (s:Shared) (H:Hp) (E:XK),cG k (A.deeper (envOfC qual (am st) s.heap.objs.size f cdv)) →
   ∃t:TSd,QSs (ub CX0 P w K mg base N qual (am st) f cdv A outer s H E).nox (dR st) t/\∀ds M R (G:Prop),S ds M R->(t { nx:=fun _ M'=>R .non M',rt:=R } (jR N ds) M->G)->G):bf P w K mg base CX0 (k+1) f fd ps (spD K n S):=by
 refine F.okD hn Sc fun cdv A outer s H E hr=>?_;obtain⟨t,h1,h2⟩:=hbody cdv A outer s H E hr;exact⟨t,B6 h1,fun ds M R _ hS=>h2 ds M R _ hS id⟩
theorem shr{p:Prop}(h:∀q:Prop,(p->q)->q):p:=h p id
theorem nn{M:DH}{p q:Addr}{u:HD}(h1:M q=none) (h2:M p=some u):q≠p:=fun e=>by rw[e,h2]at h1;cases h1
end
end L2
namespace My
open PySem PySem.Spec PyProof.Rows L2
noncomputable def top(i:Nat):Stmt:=PySem.Challenge.pw_wordwishes_k30_whole_counts_come_to_all.main.body.getD i (.Pass ⟨0,0,0,0⟩)
abbrev gI:Stmt:=top 3
abbrev cx:Stmt:=top 4
abbrev dB:Stmt:=top 6
abbrev iW:Stmt:=top 7
abbrev fk:Stmt:=top 9
abbrev jO:Stmt:=top 10
abbrev eR:Stmt:=top 16
abbrev gW:Stmt:=top 17
abbrev gK:Stmt:=top 18
abbrev fB:Stmt:=top 21
abbrev cN:Stmt:=top 22
abbrev dU:Stmt:=top 23
abbrev fL:Stmt:=top 24
abbrev eE:Stmt:=top 25
abbrev fo:Stmt:=top 26
abbrev cy:Stmt:=top 27
abbrev bW:Stmt:=top 28
abbrev gZ:Stmt:=top 31
abbrev fw:Stmt:=top 32
abbrev cp:Stmt:=top 33
abbrev eF:Stmt:=top 34
abbrev dJ:Stmt:=top 35
abbrev dg:Stmt:=top 36
abbrev cT:Stmt:=top 37
abbrev bL:Stmt:=top 38
abbrev bX:Stmt:=top 39
abbrev nr:Stmt:=top 41
abbrev fu:Stmt:=top 42
abbrev nu:Stmt:=top 44
abbrev nk:Stmt:=top 45
abbrev fc:Stmt:=top 46
abbrev lL:Stmt:=top 47
abbrev lg:Stmt:=top 48
abbrev i6:Stmt:=top 49
abbrev oG:Stmt:=top 50
abbrev fU:Stmt:=top 51
abbrev gx:Stmt:=top 52
abbrev dS:Stmt:=top 53
abbrev ka:Stmt:=top 54
abbrev fR:Stmt:=top 55
abbrev oo:Stmt:=top 56
abbrev jc:Stmt:=top 57
abbrev wI:Stmt:=top 58
abbrev lM:Stmt:=Hs (top 30) 0
abbrev qi:List Str:=["thing"]
theorem jy:ay qi ["thing"] (am gI):=fsc
abbrev cZ:List Str:=["thing"]
theorem fJ:ay cZ ["thing"] (am cx):=fsc
noncomputable abbrev lK:List Str:=["pairs","mark","reached","at","low","high"]
theorem fQ:ay lK ["pairs","mark"] (am dB):=fsc
noncomputable abbrev tS:List Str:=["order","one","other"]
theorem kC:ay tS ["order","one","other"] (am iW):=fsc
noncomputable abbrev oz:List Str:=["order","turn","one","other"]
theorem ic:ay oz ["order","turn","one","other"] (am fk):=fsc
abbrev uv:List Str:=["order","one","other"]
theorem mj:ay uv ["order","one","other"] (am jO):=fsc
noncomputable abbrev fb:List Str:=["lexicon"]
theorem jJ:ay fb ["lexicon"] (am eR):=fsc
abbrev qL:List Str:=["lexicon","thing"]
theorem jz:ay qL ["lexicon","thing"] (am gW):=fsc
noncomputable abbrev qy:List Str:=["lexicon","word"]
theorem jI:ay qy ["lexicon","word"] (am gK):=fsc
abbrev oq:List Str:=["lexicon"]
theorem ij:ay oq ["lexicon"] (am fB):=fsc
noncomputable abbrev ju:List Str:=["lexicon","words","kinds","number","word"]
theorem dW:ay ju ["lexicon","words"] (am cN):=fsc
abbrev bR:List Str:=["kinds"]
theorem i9:ay bR ["kinds"] (am dU):=fsc
abbrev nM:List Str:=["kinds"]
theorem ip:ay nM ["kinds"] (am fL):=fsc
noncomputable abbrev mw:List Str:=["kinds","place","number","kind","at","row"]
theorem gy:ay mw ["kinds","place"] (am eE):=fsc
noncomputable abbrev nH:List Str:=["place","number","kind","at"]
theorem ig:ay nH ["place"] (am fo):=fsc
noncomputable abbrev de:List Str:=["kinds","place","number"]
theorem ft:ay de ["kinds","place"] (am cy):=fsc
noncomputable abbrev bD:List Str:=["kinds","choice","numbers"]
theorem et:ay bD ["kinds","choice"] (am bW):=fsc
noncomputable abbrev qG:List Str:=["lexicon","words"]
theorem jA:ay qG ["lexicon","words"] (am gZ):=fsc
noncomputable abbrev nA:List Str:=["order","sign","other"]
theorem ik:ay nA ["order","sign","other"] (am fw):=fsc
noncomputable abbrev bO:List Str:=["order","chart","place","sign"]
theorem gF:ay bO ["order","chart","place"] (am cp):=fsc
noncomputable abbrev mB:List Str:=["chart","place","counts","mate","onward","inner","end","count"]
theorem gD:ay mB ["chart","place"] (am eF):=fsc
abbrev lO:List Str:=["chart"]
theorem fO:ay lO ["chart"] (am dJ):=fsc
noncomputable abbrev kO:List Str:=["chart","step","end","mate","onward","inner"]
theorem fD:ay kO ["chart","step","end"] (am dg):=fsc
noncomputable abbrev j9:List Str:=["chart","begin","end","number","left","at","steps"]
theorem eK:ay j9 ["chart","begin","end","number"] (am cT):=fsc
noncomputable abbrev cw:List Str:=["chart","number","kind_by_word","joined","stretches","begin","end","told","mate","onward","inner","left","number_within","number_onward","choice"]
theorem c7:ay cw ["chart","number"] (am bL):=fsc
noncomputable abbrev bC:List Str:=["chart","choice","joined","signs"]
theorem fS:ay bC ["chart","choice","joined"] (am bX):=fsc
abbrev AD:List Str:=["lexicon","words"]
theorem pS:ay AD ["lexicon","words"] (am nr):=fsc
noncomputable abbrev nX:List Str:=["lexicon","words","number","chart"]
theorem ie:ay nX ["lexicon","words","number"] (am fu):=fsc
noncomputable abbrev yN:List Str:=["_law_script","_law_place","_law_cell","_law_one"]
theorem pN:ay yN ["_law_script","_law_place"] (am nu):=fsc
noncomputable abbrev yK:List Str:=["_law_well_here","_law_top","_law_found","_law_turn","_law_upper","_law_lower"]
theorem pq:ay yK ["_law_well_here","_law_top"] (am nk):=fsc
noncomputable abbrev dD:List Str:=["_law_well_here","_law_signs","_law_first","_law_size","_law_pick"]
theorem oI:ay dD ["_law_well_here"] (am fc):=fsc
noncomputable abbrev xQ:List Str:=["_law_well_here","_law_marks_here","_law_found","_law_turn"]
theorem nc:ay xQ ["_law_well_here","_law_marks_here"] (am lL):=fsc
noncomputable abbrev ye:List Str:=["_law_order_here","_law_marks_here","_law_found","_law_low","_law_met","_law_turn","_law_one","_law_other","_law_high"]
theorem m5:ay ye ["_law_order_here","_law_marks_here"] (am lg):=fsc
noncomputable abbrev tP:List Str:=["_law_above_here","_law_one","_law_other"]
theorem kR:ay tP ["_law_above_here","_law_one","_law_other"] (am i6):=fsc
noncomputable abbrev AM:List Str:=["_law_well_here","_law_marks_here","_law_wide"]
theorem pP:ay AM ["_law_well_here","_law_marks_here","_law_wide"] (am oG):=fsc
noncomputable abbrev iU:List Str:=["_law_well_here","_law_above_here","_law_marks_here","_law_sign_here","_law_some"]
theorem kS:ay iU ["_law_well_here","_law_above_here","_law_marks_here","_law_sign_here"] (am fU):=fsc
noncomputable abbrev gg:List Str:=["_law_well_here","_law_size","_law_signs","_law_first"]
theorem m9:ay gg ["_law_well_here","_law_size"] (am gx):=fsc
noncomputable abbrev gc:List Str:=["_law_well_here","_law_above_here","_law_marks_here","_law_goal","_law_pairs","_law_some","_law_found","_law_turn","_law_at","_law_sign_here"]
theorem iX:ay gc ["_law_well_here","_law_above_here","_law_marks_here","_law_goal","_law_pairs"] (am dS):=fsc
noncomputable abbrev vp:List Str:=["_law_well_here","_law_row","_law_size","_law_sizes","_law_sign_here","_law_at","_law_found","_law_many_signs"]
theorem lT:ay vp ["_law_well_here","_law_row","_law_size"] (am ka):=fsc
noncomputable abbrev iM:List Str:=["_law_well_here","_law_size","_law_most","_law_marks_here","_law_order_here","_law_above_here","_law_goal","_law_row","_law_names","_law_choices","_law_entries","_law_name","_law_piece","_law_kinds","_law_turn","_law_more"]
theorem kH:ay iM ["_law_well_here","_law_size","_law_most"] (am fR):=fsc
noncomputable abbrev zu:List Str:=["_law_lexicon_here","_law_at","_law_kinds","_law_order_here","_law_goal","_law_entries"]
theorem pE:ay zu ["_law_lexicon_here","_law_at","_law_kinds"] (am oo):=fsc
noncomputable abbrev lA:List Str:=["_law_well_here","_law_lexicon_here","_law_above_here","_law_words_here","_law_at","_law_kinds","_law_counts","_law_total","_law_number","_law_place","_law_order_here","_law_goal","_law_entries","_law_more","_law_empty","_law_near"]
theorem ow:ay lA ["_law_well_here"] (am jc):=fsc
abbrev AB:List Str:=["_law_script"]
theorem Bb:ay AB ["_law_script"] (am wI):=fsc
noncomputable abbrev xI:List Str:=["self","order","kinds","place"]
theorem nS:ay xI ["self","order","kinds"] (am lM):=fsc
structure eU(K:PySem.W.Frag) (C:Addr):Prop where
 c:Cls K C
 n_kinds:eA K C "kinds"
 n_end:eA K C "end"
 n_steps:eA K C "steps"
 n_counts:eA K C "counts"
structure Txt(K:PySem.W.Frag) (mg:Str->Option Value):Prop where
 g_START:D3 K mg "START" [.inl (-1),.inl (0),.inl (0)]
 b_isinstance:mg "isinstance"=none
 b_int:mg "int"=none
 b_bool:mg "bool"=none
 b_str:mg "str"=none
 b_all:mg "all"=none
 b_len:mg "len"=none
 b_enumerate:mg "enumerate"=none
 b_range:mg "range"=none
 b_max:mg "max"=none
 b_list:mg "list"=none
 b_tuple:mg "tuple"=none
 b_divmod:mg "divmod"=none
 b_sorted:mg "sorted"=none
 b_abs:mg "abs"=none
 b_zip:mg "zip"=none
 b_min:mg "min"=none
 b_dict:mg "dict"=none
 b_sum:mg "sum"=none
 b_reversed:mg "reversed"=none
 g_SMALL_LETTERS:∃t,mg "SMALL_LETTERS"=some (.str "abcdefghijklmnopqrstuvwxyz" t)
 g_MOST_LETTERS:∃t,mg "MOST_LETTERS"=some (.int 8 t)
set_option hygiene false in
local macro_rules|`(tactic| walk_at "rd")=>`(tactic| simp only[GR,HP,Bg,DK,D1,GL,AZ,v9,zr,wy,va,yW,zf,Bp,Aj,DO,Hu,Dd,DM,Ew,wQ,Bh,DB,Ba,zR,ED,eh,dC,F0,zG,BW,Dw,D4,dOp,dUn,nK,Ib,Af,DC,dCB,fm,jQ,Hj,DS,xN,GG,F1,zW,Hi,HL,dOr,GC,dIf,jB,EN,qk,Dv,Bi,HQ,G8,yA,Dx,DZ,DG,uh,EE,CI,vo,dDK,dDT,ze,zC,F6,Dc,vQ,Dy,HH,Hq,C4,HD.dT.injEq,HD.dK.injEq,G3,Fu,yF,qq,AK,dLc,Gj,AC,G9,
 rA,mO,CU,C0,CK,BV,Dk,Ff,Dm,vR,jd,Hv,GY,Gw,Gq,Ht,zY,Ej,EU,EA,F9,FK,Fk,Ei,tZ,GI,Hc,F2,An,yB,Az,Hz,GP,DQ,qw,xu,ah,aD,
 jR,List.map_cons,List.map_nil,List.cons_append,List.nil_append,List.length_cons,List.length_nil,List.replicate,List.set_cons_zero,List.set_cons_succ,List.getElem?_cons_zero,List.getElem?_cons_succ,Option.some.injEq,exists_eq_left',D.int.injEq,D.bl.injEq,D.str.injEq,D.ref.injEq,D.tup.injEq,D.lst.injEq,true_and,and_true,if_true,decide_eq_true_eq,exists_and_left,Nat.zero_add,Nat.reduceAdd,Nat.reduceSub,zt,HG,zx,Hk,HD.lst.injEq,List.cons.injEq,or_true,true_or,and_self,↓reduceIte,Int.reduceLT,Int.reduceLE,Int.reducePow,Int.reduceNeg,Int.reduceToNat,Nat.reduceLT,Nat.reduceLeDiff,Bool.false_eq_true,if_false])
section
variable{P:Program}{w:World}{K:PySem.W.Frag}{mg:Str->Option Value}{base:Heap}{f:Addr}{fd:FuncData}
noncomputable def ba(x:Str×Str):D:=.tup [.str x.1,.str x.2]
theorem gr{ax:List Str}{v:Int}(h0:0<=v) (h1:v<(ax.length:Int)):∃m∈ax,atI (ax.map D.str) v=some (.str m):=by
 obtain⟨n,rfl⟩:=Int.eq_ofNat_of_zero_le h0;have hn:n<ax.length:=by omega
 exact⟨ax[n],List.getElem_mem hn,bH (by simp[hn])⟩
theorem bt{M:DH}{p q:Addr}{a b:HD}(h:p≠q):av (av M p a) q b=av (av M q b) p a:=by
 funext c;unfold av
 by_cases h1:c=q
 ·subst h1;simp[Ne.symm h]
 ·by_cases h2:c=p
  ·subst h2;simp[h]
  ·simp[h1,h2]
theorem kh{xs:List D}{n:Nat}:L2.cK xs none (some (n:Int))=xs.take n:=by
 unfold L2.cK;rw[HT.sIx_none,HT.sIx_nat,List.drop_zero,Nat.sub_zero]
 by_cases h:n<=xs.length
 ·rw[Nat.min_eq_left h]
 ·rw[Nat.min_eq_right (by omega),List.take_length,List.take_of_length_le (by omega)]
theorem gp{xs:List D}{n:Nat}:L2.cK xs (some (n:Int)) none=xs.drop n:=by
 unfold L2.cK;rw[HT.sIx_none,HT.sIx_nat]
 by_cases h:n<=xs.length
 ·rw[Nat.min_eq_left h,List.take_of_length_le (by simp)]
 ·rw[Nat.min_eq_right (by omega),Nat.sub_self,List.take_zero,List.drop_of_length_le (by omega)]
theorem cC{lo:Int}{n:Nat}:(iJ lo n).length=n:=by simp[iJ]
inductive cW (ord:List (Str×Str)) (a:Str):Str->Prop
 |refl:cW ord a a
 |step {b c:Str}:cW ord a b->(b,c)∈ord->cW ord a c
theorem nY{ord:List (Str×Str)}{a x:Str}{L:List Str}(h0:a∈L) (hc:∀y∈ord,y.1∈L->y.2∈L) (h:cW ord a x):x∈L:=by
 induction h with
 |refl=>exact h0
 |step _ hm ih=>exact hc _ hm ih
def gq:SpD:=fun ds M R=>∃(ord:List (Str×Str)) (a:Str),ds=[.tup (ord.map ba),.str a]/\ord.length<=500 /\
 ∀L:List Str,a∈L->(∀y∈ord,y.1∈L->y.2∈L)->(∀x∈L,cW ord a x)->L.length<=ord.length+1->R (.lst (L.map .str)) M
abbrev tIn:TSd:=F0 (Af (nK (dOp eqF (eh 4) (dOp ixD (eh 2) (eh 3)))) (nK (dOp (inE true) (eh 5) (eh 2)))) (zW (F1 (eh 2) (eh 5))) zG
theorem jm{q:Addr}{E:iy}{M:DH}(hq:M q=none) (ps:D) (a:Str) (ord:List (Str×Str)) (hord:ord.length<=500) (i:Nat) (L0:List Str) (hi:i<L0.length):∀(todo done:List (Str×Str)) (x4 x5:Option D) (L:List Str),ord=done++todo->(∃t,L=L0++t)->L.Nodup->(∀x∈L,cW ord a x)->(∀x∈L,x∈a::ord.map (·.2))->(∀y∈done,y.1=L0[i]->y.2∈L) ->
  (∀(y4 y5:Option D) (L':List Str),(∃t,L'=L0++t)->L'.Nodup->(∀x∈L',cW ord a x)->(∀x∈L',x∈a::ord.map (·.2))->(∀y∈ord,y.1=L0[i]->y.2∈L')->E.nx [some ps,some (.str a),some (.ref q),some (.int i),y4,y5] (av M q (.lst (L'.map .str)))) ->
  dP (jE (fA (cb 4) (fA (cb 5) md)) 2) tIn E (todo.map ba) [some ps,some (.str a),some (.ref q),some (.int i),x4,x5] (av M q (.lst (L.map .str)))
 |[],done,x4,x5,L,ho,ht,hn,hs,hb,hd,k=>by
  simp only[List.map_nil,dP];exact k x4 x5 L ht hn hs hb (by rw[ho,List.append_nil];exact hd)
 |(b,c)::todo,done,x4,x5,L,ho,⟨t,ht⟩,hn,hs,hb,hd,k=>by
  have hiL:i<L.length:=by rw[ht];simp;omega
  have eL:L[i]=L0[i]:=by subst ht;simp[hi]
  have eat:atI (L.map D.str) (i:Int)=some (.str L[i]):=bH (by simp[hiL]);have bp:L.length<=ord.length+1:=by
   have:=cU L (a::ord.map (·.2)) hn hb;simpa using this
  simp only[List.map_cons,ba,dP,jE,fA,cb,md,Option.bind_some];refine⟨_,rfl,?_⟩;walk_at "rd";refine⟨_,eat,?_⟩;walk_at "rd";have ho':ord=(done++[(b,c)])++todo:=by rw[ho];simp
  have hmem:(b,c)∈ord:=by rw[ho];simp
  refine gf (fun h=>?_) (fun h=>?_)
  ·have hbe:b=L0[i]:=by rw[<-eL];simpa using h
   refine⟨_,if_pos ⟨rfl,tH⟩,_,rfl,?_⟩;rw[oh]
   by_cases hc:c∈L
   ·simp only[hc,decide_true,Bool.xor_true,Bool.not_true,Bool.false_eq_true,if_false];exact jm hq ps a ord hord i L0 hi todo (done++[(b,c)]) _ _ L ho' ⟨t,ht⟩ hn hs hb (fun y hy hy1=>by
     rcases List.mem_append.mp hy with h|h
     ·exact hd y h hy1
     ·have:y=(b,c):=by simpa using h
      subst this;exact hc) k
   ·simp only[hc,decide_false,Bool.xor_false,if_true];refine⟨by rw[List.length_map];exact Nat.lt_of_lt_of_le (by omega:L.length<1000) (sz3 1000),?_⟩;have ea:L.map D.str++[D.str c]=(L++[c]).map D.str:=by simp
    rw[ea];refine jm hq ps a ord hord i L0 hi todo (done++[(b,c)]) _ _ (L++[c]) ho' ⟨t++[c],by rw[ht];simp⟩ ?_ (fun x hx=>?_) (fun x hx=>?_) (fun y hy hy1=>?_) k
    ·rw[List.nodup_append];refine⟨hn,by simp,fun u hu v hv=>?_⟩;have:v=c:=by simpa using hv
     subst this;rintro rfl;exact hc hu
    ·rcases List.mem_append.mp hx with h|h
     ·exact hs x h
     ·have:x=c:=by simpa using h
      subst this;exact cW.step (hs b (by rw[hbe,<-eL];exact List.getElem_mem hiL)) hmem
    ·rcases List.mem_append.mp hx with h|h
     ·exact hb x h
     ·have:x=c:=by simpa using h
      subst this;exact List.mem_cons_of_mem _ (List.mem_map.mpr ⟨_,hmem,rfl⟩)
    ·rcases List.mem_append.mp hy with h|h
     ·exact List.mem_append_left _ (hd y h hy1)
     ·have:y=(b,c):=by simpa using h
      subst this;simp
  ·exact jm hq ps a ord hord i L0 hi todo (done++[(b,c)]) _ _ L ho' ⟨t,ht⟩ hn hs hb (fun y hy hy1=>by
    rcases List.mem_append.mp hy with h'|h'
    ·exact hd y h' hy1
    ·have:y=(b,c):=by simpa using h'
     subst this;exact absurd (by rw[eL];simpa using hy1) h) k
theorem kX(F:Fun K "reached_from" "reached_from" dB f fd) (T:Txt K mg) :bf P w K mg base CX0 1 f fd ["pairs","mark"] (spD K 2 gq):=by
 have nd:=fQ.nd;refine F.okR rfl fQ (fun cdv A outer s H E hr=>⟨_,(ai (aJ (i:=2) nd rfl (Or.inl rfl) (g6 (aa (ab 1) ag)))
   (ai (aJ (i:=3) nd rfl (Or.inl rfl) ao)
   (ai (mN PassesOwn.never (bh yJ (ab 3) (aG cf rfl T.b_len (by kernel_rfl) (aa (ab 2) ag)) nbh) (ai (dY PassesOwn.never rfl (dm (ab 0)) (dX rfl (aK (aF (i:=4) nd rfl (Or.inl rfl)) (aK (aF (i:=5) nd rfl (Or.inl rfl)) dZ))) (aw (cF (xZ (uK (bh (oH hr.units) (ab 4) (aZ aY (ab 2) (ab 3) (fun _ _=>rfl)) nbh) (rC (bh zI (ab 5) (ab 2) rfl)))) (aw (iL (oj (ab 2) (ab 5)))) bN)))
   (aw (AH (i:=3) nd rfl (Or.inl rfl) ao AU))))
   (aw (yO (ab 2)))))),fun ds M R _ hS bk=>?_⟩)
 obtain⟨ord,a,rfl,ho,k⟩:=hS;refine bk ?_;clear bk;walk_at "rd";refine⟨sz3 1,fun q hq=>?_⟩;refine⟨fun m Δ M'=>∃(i:Nat) (L:List Str) (x4 x5:Option D),Δ=[some (D.tup (ord.map ba)),some (D.str a),some (D.ref q),some (D.int i),x4,x5]/\M'=av M q (.lst (L.map .str))/\i<=L.length/\L.Nodup/\a∈L/\(∀x∈L,cW ord a x)/\(∀x∈L,x∈a::ord.map (·.2))/\(∀y∈ord,∀j,j<i->L[j]?=some y.1->y.2∈L)/\m=ord.length+1-i,
  ⟨_,0,[a],none,none,rfl,rfl,Nat.zero_le _,by simp,by simp,fun x hx=>by
   have:x=a:=by simpa using hx
   subst this;exact cW.refl,fun x hx=>by
   have:x=a:=by simpa using hx
   subst this;simp,fun y _ j hj=>absurd hj (by omega),rfl⟩,?_⟩
 intro m Δ M' hI;refine shr fun _ bk=>?_;obtain⟨i,L,x4,x5,rfl,rfl,hiL,hn,ha,hs,hb,hp,rfl⟩:=hI;refine bk ?_;clear bk;have bp:L.length<=ord.length+1:=by
  have:=cU L (a::ord.map (·.2)) hn hb;simpa using this
 walk_at "rd";rw[List.length_map];refine gf (fun h=>?_) (fun h=>?_)
 ·have hi:i<L.length:=by omega
  intro hz;refine jm hq _ a ord ho i L hi ord [] x4 x5 L rfl ⟨[],by simp⟩ hn hs hb (fun y hy=>absurd hy (by simp)) (fun y4 y5 L' hL' hn' hs' hb' hd'=>?_);obtain⟨t,rfl⟩:=hL';walk_at "rd";refine⟨ord.length+1-(i+1),by omega,i+1,L++t,y4,y5,?_,rfl,by simp;omega,hn',List.mem_append_left _ ha,hs',hb',fun y hy j hj hjy=>?_,rfl⟩
  ·simp
  ·by_cases hji:j=i
   ·subst hji;refine hd' y hy ?_;rw[List.getElem?_append_left hi,List.getElem?_eq_getElem hi]at hjy;exact(Option.some.inj hjy).symm
   ·rw[List.getElem?_append_left (by exact Nat.lt_of_lt_of_le (by assumption) (by assumption))]at hjy;exact List.mem_append_left _ (hp y hy j (by omega) hjy)
 ·rw[fH hq];refine k L ha (fun y hy hy1=>?_) hs bp;obtain⟨j,hj,e⟩:=List.mem_iff_getElem.mp hy1;exact hp y hy j (by omega) (by rw[List.getElem?_eq_getElem hj,e])
noncomputable def aH(x:Str×Int):D:=.tup [.str x.1,.int x.2]
theorem kB{α:Type}{f:α->D}(hf:∀x y,f x=f y->x=y):∀{xs ys:List α},xs.map f=ys.map f->xs=ys
 |[],[],_=>rfl
 |[],_::_,h=>by simp at h
 |_::_,[],h=>by simp at h
 |x::xs,y::ys,h=>by
  simp only[List.map_cons,List.cons.injEq]at h;rw[hf _ _ h.1,kB hf h.2]
theorem pG:∀x y,ba x=ba y->x=y:=fun⟨a,b⟩ ⟨c,d⟩ h=>by simpa[ba]using h
def sY(ord:List (Str×Str)) (t:Int) (a b:Str):Prop:=if t % 2=0 then cW ord a b else cW ord b a
open Classical in
def rB(ord:List (Str×Str)) (a b:Str):Bool:=decide (cW ord a b)
open Classical in
def lB(ord:List (Str×Str)) (t:Int) (a b:Str):Bool:=decide (sY ord t a b)
theorem oF{ord:List (Str×Str)}{a b:Str}:rB ord a b=true↔cW ord a b:=by simp[rB]
theorem vq{ord:List (Str×Str)}{t:Int}{a b:Str}:lB ord t a b=true↔sY ord t a b:=by simp[lB]
theorem wb{ord:List (Str×Str)}{t:Int}{a b:Str}(h:t % 2=0):lB ord t a b=rB ord a b:=by rw[Bool.eq_iff_iff,vq,oF,sY,if_pos h]
theorem za{ord:List (Str×Str)}{t:Int}{a b:Str}(h:¬ t % 2=0):lB ord t a b=rB ord b a:=by rw[Bool.eq_iff_iff,vq,oF,sY,if_neg h]
def iB:SpD:=fun ds M R=>∃(ord:List (Str×Str)) (a b:Str),ds=[.tup (ord.map ba),.str a,.str b]/\ord.length<=500/\R (.bl (rB ord a b)) M
def fK:SpD:=fun ds M R=>∃(ord:List (Str×Str)) (t:Int) (a b:Str),ds=[.tup (ord.map ba),.int t,.str a,.str b]/\ord.length<=500/\R (.bl (lB ord t a b)) M
def nO:SpD:=fun ds M R=>∃(ord:List (Str×Str)) (x y:Str×Int),ds=[.tup (ord.map ba),aH x,aH y]/\ord.length<=500/\R (.bl (x.2+1==y.2&&lB ord x.2 x.1 y.1)) M
theorem oN{ord:List (Str×Str)}{a b:Str}{M:DH}{R:D->DH->Prop}:iB [.tup (ord.map ba),.str a,.str b] M R↔ord.length<=500/\R (.bl (rB ord a b)) M :=
 ⟨fun⟨o,c,d,e,h1,h2⟩=>by
  simp only[List.cons.injEq,D.tup.injEq,D.str.injEq,and_true]at e;obtain⟨e1,e2,e3⟩:=e;rw[kB pG e1,e2,e3];exact⟨h1,h2⟩,fun h=>⟨ord,a,b,rfl,h⟩⟩
theorem lH{ord:List (Str×Str)}{t:Int}{a b:Str}{M:DH}{R:D->DH->Prop}:fK [.tup (ord.map ba),.int t,.str a,.str b] M R↔ord.length<=500/\R (.bl (lB ord t a b)) M :=
 ⟨fun⟨o,u,c,d,e,h1,h2⟩=>by
  simp only[List.cons.injEq,D.tup.injEq,D.str.injEq,D.int.injEq,and_true]at e;obtain⟨e1,e0,e2,e3⟩:=e;rw[kB pG e1,e0,e2,e3];exact⟨h1,h2⟩,fun h=>⟨ord,t,a,b,rfl,h⟩⟩
theorem rD(F:Fun K "at_most" "at_most" iW f fd) (T:Txt K mg) (ga7:FnD P w K mg base "reached_from" 1 2 gq):bf P w K mg base CX0 2 f fd ["order","one","other"] (spD K 3 iB):=by
 have nd:=kC.nd;refine F.okR rfl kC (fun cdv A outer s H E hr=>⟨_,(aw (aV (mY AG (ab 2) (qd ga7 hr (aa (ab 0) (aa (ab 1) ag))) rfl))),fun ds M R _ hS bk=>?_⟩);obtain⟨ord,a,b,rfl,ho,k⟩:=hS;refine bk ?_;clear bk;walk_at "rd";refine⟨ord,a,rfl,ho,fun L h1 h2 h3 h4=>?_⟩;refine⟨_,if_pos ⟨rfl,tH⟩,?_⟩;rw[oh];have e:(false ^^ decide (b∈L))=rB ord a b:=by
  rw[Bool.false_xor,Bool.eq_iff_iff,oF,decide_eq_true_eq];exact⟨fun h=>h3 b h,fun h=>nY h1 h2 h⟩
 rw[e];exact k
theorem mL(F:Fun K "mark_leads" "mark_leads" fk f fd) (T:Txt K mg) (gb5:FnD P w K mg base "at_most" 2 3 iB):bf P w K mg base CX0 3 f fd ["order","turn","one","other"] (spD K 4 fK):=by
 have nd:=ic.nd;refine F.okR rfl ic (fun cdv A outer s H E hr=>⟨_,(ai (cF (bh (oH hr.units) (aM fT (ab 1) ao) ao nbh) (aw (aV (qd gb5 hr (aa (ab 0) (aa (ab 2) (aa (ab 3) ag)))))) bN)
   (aw (aV (qd gb5 hr (aa (ab 0) (aa (ab 3) (aa (ab 2) ag))))))),fun ds M R _ hS bk=>?_⟩)
 obtain⟨ord,t,a,b,rfl,ho,k⟩:=hS;refine bk ?_;clear bk;walk_at "rd";simp only[oN];refine gf (fun h=>?_) (fun h=>?_)
 ·have h':t % 2=0:=by simpa using h
  rw[wb h']at k;exact⟨ho,k⟩
 ·have h':¬ t % 2=0:=by simpa using h
  rw[za h']at k;exact⟨ho,k⟩
theorem sk(F:Fun K "cancel" "cancel" jO f fd) (T:Txt K mg) (gb4:FnD P w K mg base "mark_leads" 3 4 fK):bf P w K mg base CX0 4 f fd ["order","one","other"] (spD K 3 nO):=by
 have nd:=mj.nd;refine F.okR rfl mj (fun cdv A outer s H E hr=>⟨_,(aw (aV (pY (mY (oH hr.units) (aM aW (aZ aY (ab 1) ao (fun _ _=>rfl)) ao) (aZ aY (ab 2) ao (fun _ _=>rfl)) nbh) (pz (qd gb4 hr (aa (ab 0) (aa (aZ aY (ab 1) ao (fun _ _=>rfl)) (aa (aZ aY (ab 1) ao (fun _ _=>rfl)) (aa (aZ aY (ab 2) ao (fun _ _=>rfl)) ag))))))))),fun ds M R _ hS bk=>?_⟩);obtain⟨ord,⟨a,t⟩,⟨b,u⟩,rfl,ho,k⟩:=hS;refine bk ?_;clear bk;simp only[aH];walk_at "rd";simp only[lH];refine gf (fun h=>?_) (fun h=>?_)
 ·simp only[h,Bool.true_and]at k;exact⟨ho,k⟩
 ·simp only[h,Bool.false_and]at k;exact k
theorem C7{ord:List (Str×Str)}{t:Int}{a:Str}:lB ord t a a=true:=by
 rw[vq,sY];split<;>exact cW.refl
abbrev Row:=List (Str×Int)
def aT(r:Row):D:=.tup (r.map aH)
noncomputable def cL(ks:List Row):D:=.tup (ks.map aT)
def cB(e:Str×List Row):D:=.tup [.str e.1,cL e.2]
noncomputable def gd(ord:List (Str×Str)) (aq:Str) (aj:List (Str×List Row)):D:=.tup [.tup (ord.map ba),.str aq,.tup (aj.map cB)]
noncomputable def kin(aj:List (Str×List Row)) (w:Str):List Row:=(aj.lookup w).getD []
theorem bJ{α:Type}{g:GD}{tc:TTd}{te:TEd}{M:DH}{Q:List D->DH->Prop}(enc:α->D) (b:α->Bool) (y:α->D) (Ok:DE->Prop):∀(xs:List α) (Δ:DE) (acc:List D),
  (∀x∈xs,∀ Δ,Ok Δ->∃ Δ',g (enc x) Δ=some Δ'/\Ok Δ'/\(∀Q1:Bool->DH->Prop,Q1 (b x) M->tc Δ' M Q1)/\(b x=true->∀Q2:D->DH->Prop,Q2 (y x) M->te Δ' M Q2))->Ok Δ ->
  Q (acc++(xs.filter b).map y) M->fI g tc te (xs.map enc) Δ M acc Q
 |[],Δ,acc,_,_,q=>by simpa[fI]using q
 |x::xs,Δ,acc,h,hΔ,q=>by
  rw[List.map_cons];simp only[fI];obtain⟨Δ',e,hΔ',h1,h2⟩:=h x (.head _) Δ hΔ;refine⟨Δ',e,h1 _ ?_⟩;have ih:=fun acc' q'=>bJ (Q:=Q) enc b y Ok xs Δ' acc' (fun z hz=>h z (.tail _ hz)) hΔ' q';cases hb:b x with
  |true =>
   simp only[if_true];refine h2 hb _ (ih _ ?_);rw[List.filter_cons_of_pos hb]at q;simpa using q
  |false =>
   simp only[Bool.false_eq_true,if_false];refine ih _ ?_;rw[List.filter_cons_of_neg (by simp[hb])]at q;exact q
theorem tV{α:Type}(f:α->D) (hf:∀x,dLe (f x) 59=true) {a:List α}:cM (a.map f) 59=true:=by
 rw[i3];intro d hd;obtain⟨x,_,rfl⟩:=List.mem_map.mp hd;exact hf x
def dh(x:Str):Prop:=1<=x.length/\x.length<=8/\∀c∈x.cps.toList,c∈CF
theorem yj{α:Type}(l:List α):Ai (.lst (l.map fun _=>D.bl true))=some (.bl true):=by
 have h1:(l.map fun _=>D.bl true).all zm=true:=by rw[List.all_map,List.all_eq_true];intro _ _;rfl
 have h2:(l.map fun _=>D.bl true).all xS=true:=by rw[List.all_map,List.all_eq_true];intro _ _;rfl
 simp only[Ai,h1,h2,if_true]
def fX:SpD:=fun ds M R=>∃x:Str,ds=[.str x]/\dh x/\R (.bl true) M
theorem jL(F:Fun K "is_short_word" "is_short_word" cx f fd) (T:Txt K mg) :bf P w K mg base CX0 1 f fd ["thing"] (spD K 1 fX):=by
 have nd:=fJ.nd;refine F.okR rfl fJ (fun cdv A outer s H E hr=>⟨_,(aw (aV (pY (zj (Tn:="str") (by decide) rfl T.b_isinstance rfl T.b_str (by kernel_rfl) (ab 0)) (pY (Ct CS CS ao (aG cf rfl T.b_len (by kernel_rfl) (aa (ab 0) ag)) (zk rfl T.g_MOST_LETTERS)) (pz (aG (Dz rfl) rfl T.b_all (by kernel_rfl) (aa (kq (ms:=[false]) (ar:=["letter"]) (aR (n0:=0) rfl (show bA (am cx) cZ _ _=true from by decide +kernel)) rfl (dm (ab 0)) (aN (i:=1) (show(cZ++_).Nodup from by decide +kernel) rfl rfl) (fun _ _ _ _=>ck) (fun _ _ _ _=>(mY AG (ab 1) (z9 rfl T.g_SMALL_LETTERS) rfl))) ag))))))),fun ds M R _ hS bk=>?_⟩);obtain⟨x,rfl,⟨h1,h2,h3⟩,k⟩:=hS;refine bk ?_;clear bk;walk_at "rd";refine⟨true,rfl,?_⟩;walk_at "rd";refine⟨_,if_pos (szB _ (by exact Nat.le_trans (by assumption) (by decide))),true,?_,?_⟩
 ·show some (D.bl (decide ((1:Int)<=(x.length:Int))))=_;rw[decide_eq_true (by omega)]
 rw[if_pos rfl];refine⟨_,rfl,true,?_,?_⟩
 ·rw[decide_eq_true (by omega)]
 rw[if_pos rfl];refine⟨_,if_pos (szB _ (by exact Nat.le_trans (by assumption) (by decide))),fun hz=>⟨hz,?_⟩⟩;refine bJ (fun(c:Nat)=>D.str (tx [c])) (fun _=>true) (fun _=>D.bl true) (fun Δ=>∃x,Δ=[none,x]) x.cps.toList _ _ (fun c hc Δ hΔ=>?_) ⟨none,rfl⟩ ?_
 ·obtain⟨x1,rfl⟩:=hΔ;refine⟨_,rfl,⟨_,rfl⟩,fun Q1 q=>q,fun _ Q2 q=>?_⟩;walk_at "rd";simp only[DQ,Option.some.injEq,exists_eq_left',Bool.false_xor];rw[show(Str.ofString "abcdefghijklmnopqrstuvwxyz")=abc from rfl,FH,BM,decide_eq_true (h3 c hc)];exact q
 ·rw[List.nil_append,List.filter_eq_self.mpr (fun _ _=>rfl)];exact⟨_,yj _,k⟩
def gO:SpD:=fun ds M R=>∃(ord:List (Str×Str)) (aq:Str) (aj:List (Str×List Row)),ds=[gd ord aq aj]/\aj.length<=8/\R (.lst (aj.map fun e=>D.str e.1)) M
theorem oV(F:Fun K "words_of" "words_of" eR f fd) (T:Txt K mg) :bf P w K mg base CX0 1 f fd ["lexicon"] (spD K 1 gO):=by
 have nd:=jJ.nd;refine F.okR rfl jJ (fun cdv A outer s H E hr=>⟨_,(aw (aV (kq (ms:=[false]) (ar:=["word","kinds"]) (aR (n0:=0) rfl (show bA (am eR) fb _ _=true from by decide +kernel)) rfl (dm (aZ aY (ab 0) ao (fun _ _=>rfl))) (jN (n:=2) rfl (cA (aN (i:=1) (show(fb++_).Nodup from by decide +kernel) rfl rfl) (cA (aN (i:=2) (show(fb++_).Nodup from by decide +kernel) rfl rfl) jW))) (fun _ _ _ _=>ck) (fun _ _ _ _=>(ab 1))))),fun ds M R _ hS bk=>?_⟩);obtain⟨ord,aq,aj,rfl,hl,k⟩:=hS;refine bk ?_;clear bk;simp only[gd];walk_at "rd";refine fun hz=>⟨hz,?_⟩;refine bJ cB (fun _=>true) (fun e=>D.str e.1) (fun Δ=>∃x y,Δ=[none,x,y]) aj _ _ (fun e he Δ hΔ=>?_) ⟨none,none,rfl⟩ ?_
 ·obtain⟨x,y,rfl⟩:=hΔ;refine⟨_,rfl,⟨_,_,rfl⟩,fun Q1 q=>q,fun _ Q2 q=>?_⟩;walk_at "rd";exact q
 ·rw[List.nil_append,List.filter_eq_self.mpr (fun _ _=>rfl)];exact k
theorem CH{w:Str}{aj:List (Str×List Row)}:((aj.map fun e=>D.str e.1).any fun d=>eqD d (.str w))=decide (w∈aj.map (·.1)):=by
 rw[Bool.eq_iff_iff,List.any_map,List.any_eq_true,decide_eq_true_eq,List.mem_map];constructor
 ·rintro⟨e,he,h⟩;exact⟨e,he,by simpa[eqD]using h⟩
 ·rintro⟨e,he,h⟩;exact⟨e,he,by simp[eqD,h]⟩
theorem yx{aj:List (Str×List Row)}:(aj.map fun e=>D.str e.1).all bZ=true:=by rw[List.all_map,List.all_eq_true];intro _ _;rfl
def k6:SpD:=fun ds M R=>∃(ord:List (Str×Str)) (aq:Str) (aj:List (Str×List Row)) (w:Str),ds=[gd ord aq aj,.str w]/\aj.length<=8/\w∈aj.map (·.1)/\dh w/\R (.bl true) M
theorem o6(F:Fun K "has_word" "has_word" gW f fd) (T:Txt K mg) (ga3:FnD P w K mg base "is_short_word" 1 1 fX) (Y8:FnD P w K mg base "words_of" 1 1 gO):bf P w K mg base CX0 2 f fd ["lexicon","thing"] (spD K 2 k6):=by
 have nd:=jz.nd;refine F.okR rfl jz (fun cdv A outer s H E hr=>⟨_,(aw (aV (pY (qd ga3 hr (aa (ab 1) ag)) (pz (mY AG (ab 1) (qd Y8 hr (aa (ab 0) ag)) rfl))))),fun ds M R _ hS bk=>?_⟩);obtain⟨ord,aq,aj,w,rfl,hl,hw,ok,k⟩:=hS;refine bk ?_;clear bk;walk_at "rd";refine⟨w,rfl,ok,_,rfl,?_⟩;rw[if_pos rfl];refine⟨ord,aq,aj,rfl,hl,?_⟩;walk_at "rd";refine⟨_,if_pos ⟨rfl,yx⟩,?_⟩;rw[CH,decide_eq_true hw];exact k
theorem Bs{w:Str}:∀{aj:List (Str×List Row)},aj.length<2 ^ 62->w∈aj.map (·.1)->∃j e,uy (aj.map fun e=>D.str e.1) (.str w)=some j/\aj[j]?=some e/\e.2=kin aj w:=by
 intro aj hl hw;have hd:cM (aj.map fun e=>D.str e.1) 59=true:=tV _ fun _=>rfl;have h1:dLe (.str w) 59=true:=rfl;unfold uy;rw[if_pos ⟨h1,hd,by rw[List.length_map];exact hl⟩];clear hd h1 hl
 induction aj with
 |nil=>cases hw
 |cons e l ih =>
  obtain⟨a,ks⟩:=e;rw[List.map_cons,List.findIdx?_cons]
  by_cases h:a=w
  ·subst h;exact⟨0,_,by simp[eqD],rfl,by simp[kin]⟩
  ·have hne:eqD (.str a) (.str w)=false:=by simp[eqD,h]
   have hw':w∈l.map (·.1):=by
    rw[List.map_cons]at hw;rcases List.mem_cons.mp hw with q|q
    ·exact absurd q.symm h
    ·exact q
   obtain⟨j,e,q1,q2,q3⟩:=ih hw';refine⟨j+1,e,?_,by rw[List.getElem?_cons_succ];exact q2,?_⟩
   ·simp only[hne,Bool.false_eq_true,if_false];rw[q1];rfl
   ·rw[q3];unfold kin;rw[List.lookup_cons];have:(w==a)=false:=by simpa using fun q:w=a=>h q.symm
    rw[this]
def kW:SpD:=fun ds M R=>∃(ord:List (Str×Str)) (aq:Str) (aj:List (Str×List Row)) (w:Str),ds=[gd ord aq aj,.str w]/\aj.length<=8/\w∈aj.map (·.1)/\dh w/\R (cL (kin aj w)) M
theorem oK(F:Fun K "kinds_of" "kinds_of" gK f fd) (T:Txt K mg) (gb9:FnD P w K mg base "has_word" 2 2 k6) (Y8:FnD P w K mg base "words_of" 1 1 gO):bf P w K mg base CX0 3 f fd ["lexicon","word"] (spD K 2 kW):=by
 have nd:=jI.nd;refine F.okR rfl jI (fun cdv A outer s H E hr=>⟨_,(ai (cF (uS (rj (qd gb9 hr (aa (ab 0) (aa (ab 1) ag))))) (aw vT) bN)
   (aw (aV (aZ aY (aZ aY (aZ aY (ab 0) ao (fun _ _=>rfl)) (Ec hr.units (qd Y8 hr (aa (ab 0) ag)) (ab 1)) (fun _ _=>rfl)) ao (fun _ _=>rfl))))),fun ds M R _ hS bk=>?_⟩)
 obtain⟨ord,aq,aj,w,rfl,hl,hw,ok,k⟩:=hS;refine bk ?_;clear bk;walk_at "rd";refine⟨ord,aq,aj,w,rfl,hl,hw,ok,_,rfl,?_⟩;simp only[gd];rw[if_neg (by simp)];walk_at "rd";refine⟨ord,aq,aj,rfl,hl,⟨_,rfl⟩,_,rfl,?_⟩;obtain⟨j,e,q1,q2,q3⟩:=Bs (Nat.lt_of_le_of_lt hl (by decide)) hw;refine⟨j,q1,?_⟩;refine⟨_,bH (by rw[List.getElem?_map,q2];rfl),?_⟩;simp only[cB];walk_at "rd";rw[q3];exact k
def iN:SpD:=fun ds M R=>∃(ord:List (Str×Str)) (aq:Str) (aj:List (Str×List Row)),ds=[gd ord aq aj]/\R (aT [(aq,1)]) M
theorem mD(F:Fun K "goals_wish" "goals_wish" fB f fd) (T:Txt K mg) :bf P w K mg base CX0 1 f fd ["lexicon"] (spD K 1 iN):=by
 have nd:=ij.nd;refine F.okR rfl ij (fun cdv A outer s H E hr=>⟨_,(aw (aV (bz (aa (bz (aa (aZ aY (ab 0) ao (fun _ _=>rfl)) (aa ao ag))) ag)))),fun ds M R _ hS bk=>?_⟩);obtain⟨ord,aq,aj,rfl,k⟩:=hS;refine bk ?_;clear bk;simp only[gd];walk_at "rd";exact⟨sz3 2,sz3 1,k⟩
abbrev KD:=List (Int×List Row)
abbrev Pl:=Int×Int×Int
def plD(p:Pl):D:=lR [.inl p.1,.inl p.2.1,.inl p.2.2]
def kdP(kd:KD):List (Key×D):=kd.map fun p=>(.inl p.1,.tup (p.2.map aT))
def kdD(kd:KD):D:=lq (kdP kd)
noncomputable def look(kd:KD) (n:Int):Option (List Row):=(kd.find? fun p=>decide (p.1=n)).map (·.2)
theorem rg{n:Int}:∀{kd:KD},bw (kdP kd) (.inl n)=(look kd n).map fun rs=>.tup (rs.map aT)
 |[]=>rfl
 |p::kd=>by
  by_cases h:p.1=n
  ·have:bw (kdP (p::kd)) (.inl n)=some (.tup (p.2.map aT)):=bG (by show Sum.inl p.1=_;rw[h]);rw[this];simp[look,h]
  ·have e:bw (kdP (p::kd)) (.inl n)=bw (kdP kd) (.inl n):=bE (fun z=>h (by injection z));rw[e,rg (kd:=kd)];simp[look,h]
theorem qx{M:DH}{kd:KD}:asK M (kdD kd)=some (kdP kd):=rT
theorem F5{p:Pl}:plD p=.box .key [.int p.1,.int p.2.1,.int p.2.2]:=rfl
theorem Ay{p:Pl}{P:List D->Prop}:(∃ds,plD p=.box .key ds/\P ds)↔P [.int p.1,.int p.2.1,.int p.2.2] :=
 ⟨fun⟨ds,e,h⟩=>by rw[F5]at e;injection e with _ e;rw[e];exact h,fun h=>⟨_,rfl,h⟩⟩
def fG:SpD:=fun ds M R=>∃p:Pl,ds=[plD p]/\R (plD (p.1,p.2.1,p.2.2+1)) M
theorem mG(F:Fun K "next_place" "next_place" fo f fd) (T:Txt K mg) :bf P w K mg base CX0 1 f fd ["place"] (spD K 1 fG):=by
 have nd:=ig.nd;refine F.okR rfl ig (fun cdv A outer s H E hr=>⟨_,(ai (jG (pI (ab 0)) (dX rfl (aK (aF (i:=1) nd rfl (Or.inl rfl)) (aK (aF (i:=2) nd rfl (Or.inl rfl)) (aK (aF (i:=3) nd rfl (Or.inl rfl)) dZ)))))
   (aw (aV (tX (aa (ab 1) (aa (ab 2) (aa (aM aW (ab 3) ao) ag))))))),fun ds M R _ hS bk=>?_⟩)
 obtain⟨p,rfl,k⟩:=hS;refine bk ?_;clear bk;walk_at "rd";simp only[Ay,jE,fA,cb,md,Option.bind_some];refine⟨_,if_pos rfl,?_⟩;exact⟨_,rfl,_,rfl,_,rfl,_,rfl,by rw[sizeLine_eq];decide,k⟩
theorem kj{kd:KD}{n:Int}{rs:List Row}(h:look kd n=some rs):(n,rs)∈kd:=by
 obtain⟨p,hp,e⟩:=Option.map_eq_some_iff.mp h;have h1:=List.find?_some hp;have h2:=List.mem_of_find?_eq_some hp;have:p.1=n:=by simpa using h1
 rw[<-this,<-e];exact h2
def fP:SpD:=fun ds M R=>∃(kd:KD) (p:Pl),ds=[kdD kd,plD p]/\(∀q∈kd,q.2.length<=1000)/\R (.lst ((List.range ((look kd (p.1+1)).getD []).length).map fun(k:Nat)=>plD (p.1+1,(k:Int),0))) M
theorem j3(F:Fun K "begins_behind" "begins_behind" cy f fd) (T:Txt K mg) :bf P w K mg base CX0 1 f fd ["kinds","place"] (spD K 2 fP):=by
 have nd:=ft.nd;refine F.okR rfl ft (fun cdv A outer s H E hr=>⟨_,(ai (aJ (i:=2) nd rfl (Or.inr rfl) (aM aW (aZ aY (pI (ab 1)) ao (fun _ _=>rfl)) ao))
   (aw (aV (kq (ms:=[false,false,true]) (ar:=["kind"]) (aR rfl (show bA (am cy) de _ _=true from by decide +kernel)) rfl (bU rfl T.b_range (aa (aG cf rfl T.b_len (by kernel_rfl) (aa (Dr hr.units1 (ab 0) (ab 2) (bz ag) ⟨rfl,rfl,rfl,rfl⟩) ag)) ag)) (aN (i:=3) (show(de++_).Nodup from by decide +kernel) rfl rfl) (fun _ _ _ _=>ck) (fun _ _ _ _=>(tX (aa (ab 2) (aa (ab 3) (aa ao ag))))))))),fun ds M R _ hS bk=>?_⟩)
 obtain⟨kd,p,rfl,hb,k⟩:=hS;refine bk ?_;clear bk;walk_at "rd";simp only[Ay];refine⟨_,rfl,_,rfl,by rw[qx];rfl,Nat.zero_le _,_,qx,.inl (p.1+1),rfl,?_⟩;have e:(bw (kdP kd) (.inl (p.1+1))).getD (.tup [])=.tup (((look kd (p.1+1)).getD []).map aT):=by
  rw[rg];cases look kd (p.1+1)<;>rfl
 have hn:((look kd (p.1+1)).getD []).length<=1000:=by
  cases h:look kd (p.1+1)with
  |none=>exact Nat.zero_le _
  |some rs=>exact hb _ (kj h)
 rw[e];generalize (look kd (p.1+1)).getD []=rs at *
 refine⟨.int (rs.length:Int),by simp[rdM,gB],_,rfl,by omega,by omega,?_,?_⟩
 ·simp only[iJ,List.length_map,List.length_range,Int.toNat_natCast];rw[sizeLine_eq];exact Nat.le_trans (by assumption) (by decide)
 ·have hc:eM [false,false,true] 1 [some (kdD kd),some (plD p),some (D.int (p.1+1))]=[none,none,some (D.int (p.1+1)),none]:=rfl;rw[hc,iJ,Int.toNat_natCast];refine bJ (fun(k:Nat)=>D.int (0+(k:Int))) (fun _=>true) (fun k=>plD (p.1+1,(k:Int),0)) (fun Δ=>∃x,Δ=[none,none,some (D.int (p.1+1)),x]) _ _ _ ?_ ⟨_,rfl⟩ ?_
  ·rintro k hk Δ ⟨x,rfl⟩;refine⟨_,rfl,⟨_,rfl⟩,fun Q1 q=>q,fun _ Q2 q=>?_⟩;simp only[AZ,fm,eh,dC,jQ];refine⟨_,rfl,_,rfl,by simp only[List.length_cons,List.length_nil];rw[sizeLine_eq];decide,?_⟩;rw[Int.zero_add];exact q
  ·rw[List.filter_eq_self.mpr (fun _ _=>rfl),List.nil_append];exact k
def iS:SpD:=fun ds M R=>∃(kd:KD) (m:Int),ds=[kdD kd]/\CG (kd.map (·.1))=some m/\R (plD (m,0,1)) M
theorem mH(F:Fun K "last_place" "last_place" fL f fd) (T:Txt K mg) :bf P w K mg base CX0 1 f fd ["kinds"] (spD K 1 iS):=by
 have nd:=ip.nd;refine F.okR rfl ip (fun cdv A outer s H E hr=>⟨_,(aw (aV (tX (aa (aG (E3 rfl) rfl T.b_max (by kernel_rfl) (aa (cq (C6 rfl) rfl T.b_list (by kernel_rfl) (aa (ab 0) ag)) ag)) (aa ao (aa ao ag)))))),fun ds M R _ hS bk=>?_⟩);obtain⟨kd,m,rfl,hm,k⟩:=hS;refine bk ?_;clear bk;walk_at "rd";have e:vJ (rdM M (kdD kd))=some (.lst ((kd.map (·.1)).map D.int)):=by
  show vJ (lq (kdP kd))=_;rw[Cy,kdP,List.map_map,List.map_map];rfl
 exact⟨_,e,.int m,by rw[show rdM M (D.lst ((kd.map (·.1)).map D.int))=D.lst ((kd.map (·.1)).map D.int)from rfl,FA,hm];rfl,by rw[sizeLine_eq];decide,k⟩
def eI:SpD:=fun ds M R=>∃(kd:KD) (p:Pl) (rows:List Row) (row:Row) (i j:Nat),ds=[kdD kd,plD p]/\p.2=((i:Int),(j:Int))/\look kd p.1=some rows/\rows[i]?=some row/\R ((row[j]?).elim .non aH) M
theorem lJ(F:Fun K "sign_behind" "sign_behind" eE f fd) (T:Txt K mg) :bf P w K mg base CX0 1 f fd ["kinds","place"] (spD K 2 eI):=by
 have nd:=gy.nd;refine F.okR rfl gy (fun cdv A outer s H E hr=>⟨_,(ai (jG (pI (ab 1)) (dX rfl (aK (aF (i:=2) nd rfl (Or.inl rfl)) (aK (aF (i:=3) nd rfl (Or.inl rfl)) (aK (aF (i:=4) nd rfl (Or.inl rfl)) dZ)))))
   (ai (aJ (i:=5) nd rfl (Or.inl rfl) (aZ aY (uo hr.units1 (ab 0) (ab 2) (fun _ _=>rfl)) (ab 3) (fun _ _=>rfl)))
   (aw (aV (IT (bh yJ (ab 4) (aG cf rfl T.b_len (by kernel_rfl) (aa (ab 5) ag)) nbh) (aZ aY (ab 5) (ab 4) (fun _ _=>rfl)) ud))))),fun ds M R _ hS bk=>?_⟩)
 obtain⟨kd,p,rows,row,i,j,rfl,hp,hl,hr',k⟩:=hS;refine bk ?_;clear bk;walk_at "rd";simp only[Ay,jE,fA,cb,md,Option.bind_some];refine⟨_,if_pos rfl,?_⟩;have h1:p.2.1=(i:Int):=by rw[hp]
 have h2:p.2.2=(j:Int):=by rw[hp]
 have hv:bw (kdP kd) (.inl p.1)=some (.tup (rows.map aT)):=by rw[rg,hl];rfl
 have hx:ixD (D.tup (rows.map aT)) (D.int p.2.1)=some (aT row):=by
  rw[h1];exact bH (by rw[List.getElem?_map,hr'];rfl)
 refine⟨_,rfl,_,rfl,_,qx,.inl p.1,rfl,_,hv,_,rfl,_,hx,_,rfl,_,rfl,.int (row.length:Int),by simp[rdM,aT,gB],?_⟩;refine⟨_,rfl,_,rfl,?_⟩
 by_cases hj:j<row.length
 ·rw[if_pos (by rw[h2];simp[hj])];rw[List.getElem?_eq_getElem hj]at k;refine⟨_,rfl,_,rfl,aH row[j],?_,k⟩;show atI (row.map aH) p.2.2=_;rw[h2];exact bH (by simp[hj])
 ·rw[if_neg (by rw[h2];simp;omega)];rw[List.getElem?_eq_none (by omega)]at k;exact k
theorem fh{α:Type}{g:GD}{B:BKd}{M:DH}(enc:α->D) (out:α->List D) (Ok:DE->Prop):∀(xs:List α) (Δ:DE) (acc:List D) (Q:List D->DE->DH->Prop),
  (∀x∈xs,∀ Δ,Ok Δ->∃ Δ',g (enc x) Δ=some Δ'/\∀(acc:List D) (Q2:List D->DE->DH->Prop),acc.length+(out x).length<=sizeLine->(∀ Δ'',Ok Δ''->Q2 (acc++out x) Δ'' M)->B Δ' M acc Q2)->Ok Δ ->
  acc.length+(xs.flatMap out).length<=sizeLine->(∀ Δ',Ok Δ'->Q (acc++xs.flatMap out) Δ' M)->ja g u6 B (xs.map enc) Δ M acc Q
 |[],Δ,acc,Q,_,ok,_,q=>by
  simp only[List.map_nil,ja];have:=q Δ ok
  rwa [List.flatMap_nil,List.append_nil]at this
 |x::xs,Δ,acc,Q,h,ok,hz,q=>by
  rw[List.flatMap_cons,List.length_append]at hz;rw[List.map_cons];simp only[ja,u6,if_true];obtain⟨Δ',e,h1⟩:=h x (.head _) Δ ok;refine⟨Δ',e,h1 acc _ (by omega) fun Δ'' ok'=>⟨by rw[List.length_append];omega,?_⟩⟩;refine fh enc out Ok xs Δ'' _ Q (fun z hz=>h z (.tail _ hz)) ok' (by rw[List.length_append];omega) fun Δ3 ok3=>?_;have:=q Δ3 ok3
  rwa [List.flatMap_cons,<-List.append_assoc]at this
theorem nG{α β:Type}{f:α->β}:∀l:List α,(l.flatMap fun a=>[f a])=l.map f
 |[]=>rfl
 |a::l=>by rw[List.flatMap_cons,nG l];rfl
theorem iQ{α:Type}{f:α->D}:∀{xs:List α}{n:Nat},mJ n (xs.map f)=(xs.zipIdx n).map fun q=>D.tup [D.int (q.2:Int),f q.1]
 |[],_=>rfl
 |x::xs,n=>by
  rw[List.map_cons,List.zipIdx_cons,List.map_cons,<-iQ];rfl
noncomputable def hJ(n:Int) (q:Row×Nat):List Pl:=(List.range (q.1.length+1)).map fun(a:Nat)=>(n,(q.2:Int),(a:Int))
noncomputable def gT(q:Int×List Row):List Pl:=q.2.zipIdx.flatMap (hJ q.1)
def af(kd:KD):List Pl:=kd.flatMap gT
def jK:SpD:=fun ds M R=>∃kd:KD,ds=[kdD kd]/\(af kd).length<=1000000/\R (.lst ((af kd).map plD)) M
theorem nP(F:Fun K "places_of" "places_of" dU f fd) (T:Txt K mg) :bf P w K mg base CX0 1 f fd ["kinds"] (spD K 1 jK):=by
 have nd:=i9.nd;refine F.okR rfl i9 (fun cdv A outer s H E hr=>⟨_,(aw (aV (GN (ms:=[false]) (ar:=["number","rows","kind","row","at"]) (aR (n0:=0) rfl (show bA (am dU) bR _ _=true from by decide +kernel)) rfl (Fc (ab 0)) (jN (n:=2) rfl (cA (aN (i:=1) (show(bR++_).Nodup from by decide +kernel) rfl rfl) (cA (aN (i:=2) (show(bR++_).Nodup from by decide +kernel) rfl rfl) jW))) (fun _ _ _ _=>ck) (fun _ _ _ _=>(wW rfl T.b_enumerate (aa (ab 2) ag))) (jN (n:=2) rfl (cA (aN (i:=3) (show(bR++_).Nodup from by decide +kernel) rfl rfl) (cA (aN (i:=4) (show(bR++_).Nodup from by decide +kernel) rfl rfl) jW))) (fun _ _ _ _=>ck) (fun _ _ _ _=>(bU rfl T.b_range (aa (aM aW (aG cf rfl T.b_len (by kernel_rfl) (aa (ab 4) ag)) ao) ag))) (aN (i:=5) (show(bR++_).Nodup from by decide +kernel) rfl rfl) (fun _ _ _ _=>ck) (fun _ _ _ _=>(tX (aa (ab 1) (aa (ab 3) (aa (ab 5) ag)))))))),fun ds M R _ hS bk=>?_⟩);obtain⟨kd,rfl,hz,k⟩:=hS;refine bk ?_;clear bk;walk_at "rd";refine⟨kdP kd,rfl,?_⟩;have hc:eM [false] 5 [some (kdD kd)]=[none,none,none,none,none,none]:=rfl;have hm:((kdP kd).map fun p=>D.tup [kD p.1,p.2])=kd.map fun q=>D.tup [D.int q.1,D.tup (q.2.map aT)]:=by
  rw[kdP,List.map_map];rfl
 have ho:(kd.flatMap fun q=>(gT q).map plD)=(af kd).map plD:=by
  rw[af,List.map_flatMap]
 rw[hc,hm];refine fh _ (fun q=>(gT q).map plD) (fun Δ=>∃a b c d e,Δ=[none,a,b,c,d,e]) kd _ _ _ ?_ ⟨_,_,_,_,_,rfl⟩ (by rw[ho,List.length_map,sizeLine_eq];simp;exact Nat.le_trans (by assumption) (by decide)) (by rintro Δ' -;rw[ho,List.nil_append];exact k);rintro q hq Δ ⟨a,b,c,d,e,rfl⟩;refine⟨_,rfl,fun acc Q2 hz2 k2=>?_⟩;have hk:(q.2.zipIdx.flatMap fun r=>(hJ q.1 r).map plD)=(gT q).map plD:=by rw[gT,List.map_flatMap]
 simp only[j6,uh,fm,eh,jQ];refine⟨_,rfl,_,rfl,fun hle=>?_⟩;rw[iQ];refine fh _ (fun r=>(hJ q.1 r).map plD) (fun Δ=>∃c d e,Δ=[none,some (D.int q.1),some (D.tup (q.2.map aT)),c,d,e]) q.2.zipIdx _ _ _ ?_ ⟨_,_,_,rfl⟩ (by rw[hk];exact hz2) (by rintro Δ' ⟨c,d,e,rfl⟩;rw[hk];exact k2 _ ⟨_,_,_,_,_,rfl⟩);rintro r hr' Δ ⟨c,d,e,rfl⟩;refine⟨_,rfl,fun acc3 Q3 hz3 k3=>?_⟩;simp only[j6,qk,fm,eh,jQ,dOp,dCB,dC];have hl3:(hJ q.1 r).length=r.1.length+1:=by simp[hJ]
 have ho3:((List.range (r.1.length+1)).flatMap fun(a:Nat)=>[plD (q.1,(r.2:Int),(a:Int))])=(hJ q.1 r).map plD:=by
  rw[nG,hJ,List.map_map];rfl
 have hz4:=hz3;rw[List.length_map,hl3,sizeLine_eq]at hz4;refine⟨_,rfl,.int (r.1.length:Int),by simp[jq,rdM,aT,gB],.int ((r.1.length:Int)+1),rfl,_,rfl,by omega,by omega,?_⟩;have hj:((r.1.length:Int)+1).toNat=r.1.length+1:=by omega
 rw[hj,iJ];refine fh (fun(a:Nat)=>D.int (0+(a:Int))) (fun a=>[plD (q.1,(r.2:Int),(a:Int))]) (fun Δ=>∃e,Δ=[none,some (D.int q.1),some (D.tup (q.2.map aT)),some (D.int (r.2:Int)),some (aT r.1),e]) _ _ _ _ ?_ ⟨_,rfl⟩ (by rw[ho3];exact hz3) (by rintro Δ' ⟨e,rfl⟩;rw[ho3];exact k3 _ ⟨_,_,_,rfl⟩);rintro a ha Δ ⟨e,rfl⟩;refine⟨_,rfl,fun acc4 Q4 hz5 k4=>?_⟩;simp only[oE,AZ,fm,eh,jQ];refine⟨_,rfl,_,rfl,_,rfl,by simp only[List.length_cons,List.length_nil];rw[sizeLine_eq];decide,?_⟩;rw[Int.zero_add];exact k4 _ ⟨_,rfl⟩
abbrev bu:=Option Pl×Pl×Int
noncomputable def plK(p:Pl):List Key:=[.inl p.1,.inl p.2.1,.inl p.2.2]
theorem gP{p q:Pl}(h:plK p=plK q):p=q:=by
 obtain⟨a,b,c⟩:=p;obtain⟨d,e,f⟩:=q;simpa[plK]using h
def cv(l:List (Pl×Int)):List (List Key×D):=l.map fun z=>(plK z.1,.int z.2)
def cnK(cn:List (Pl×List (Pl×Int))):List (List Key×D):=cn.map fun p=>(plK p.1,gC (cv p.2))
def eP(s:bu):D:=.tup [s.1.elim .non plD,plD s.2.1,.int s.2.2]
def stK(st:List (Pl×List bu)):List (List Key×D):=st.map fun p=>(plK p.1,.lst (p.2.map eP))
noncomputable def lkP{α:Type}(l:List (Pl×α)) (p:Pl):Option α:=(l.find? fun z=>decide (z.1=p)).map (·.2)
theorem eC{α:Type}(f:α->D) {p:Pl}:∀{l:List (Pl×α)},bw (l.map fun z=>(plK z.1,f z.2)) (plK p)=(lkP l p).map f
 |[]=>rfl
 |z::l=>by
  rw[List.map_cons]
  by_cases h:z.1=p
  ·rw[bG (by show plK z.1=_;rw[h])];simp[lkP,h]
  ·rw[bE (fun e=>h (gP e)),eC f];simp[lkP,h]
def eY(M:DH) (C q:Addr) (kd:KD) (e:Pl) (st:List (Pl×List bu)) (cn:List (Pl×List (Pl×Int))):Prop :=
 ∃s c,s≠c/\M q=some (.ins C [("kinds",kdD kd),("end",plD e),("steps",.ref s),("counts",.ref c)])/\M s=some (.dT (stK st))/\M c=some (.dT (cnK cn))
noncomputable def nxt(p:Pl):Pl:=(p.1,p.2.1,p.2.2+1)
def o7(kd:KD) (p:Pl):Prop:=∃(rows:List Row) (row:Row) (i j:Nat),p.2=((i:Int),(j:Int))/\look kd p.1=some rows/\rows[i]?=some row
def bB(kd:KD) (p:Pl):Option (Str×Int):=((look kd p.1).bind (·[p.2.1.toNat]?)).bind (·[p.2.2.toNat]?)
def bo(kd:KD) (p:Pl):List Pl:=(List.range ((look kd (p.1+1)).getD []).length).map fun(k:Nat)=>(p.1+1,(k:Int),0)
def eB(ord:List (Str×Str)) (x:Str×Int) (o:Option (Str×Int)):Bool:=o.elim false fun y=>x.2+1==y.2&&lB ord x.2 x.1 y.1
def iF:SpD:=fun ds M R=>∃(ord:List (Str×Str)) (x:Str×Int) (o:Option (Str×Int)),ds=[.tup (ord.map ba),aH x,o.elim .non aH]/\ord.length<=500/\R (.bl (eB ord x o)) M
theorem mF(F:Fun K "are_joined" "are_joined" fw f fd) (T:Txt K mg) (gc4:FnD P w K mg base "cancel" 4 3 nO):bf P w K mg base CX0 5 f fd ["order","sign","other"] (spD K 3 iF):=by
 have nd:=ik.nd;refine F.okR rfl ik (fun cdv A outer s H E hr=>⟨_,(aw (aV (pY (mY Dh (ab 2) ud nbh) (pz (qd gc4 hr (aa (ab 0) (aa (ab 1) (aa (ab 2) ag)))))))),fun ds M R _ hS bk=>?_⟩);obtain⟨ord,x,o,rfl,ho,k⟩:=hS;refine bk ?_;clear bk;walk_at "rd";cases o with
 |none=>rw[if_neg (by simp[rdM,ny])];exact k
 |some y=>rw[if_pos (by simp[aH,rdM,ny])];exact⟨ord,x,y,rfl,ho,k⟩
theorem nQ{kd:KD}{p:Pl}{rows:List Row}{row:Row}{i j:Nat}(hp:p.2=((i:Int),(j:Int))) (hlk:look kd p.1=some rows) (hrow:rows[i]?=some row):bB kd p=row[j]?:=by
 have h1:p.2.1.toNat=i:=by rw[hp];rfl
 have h2:p.2.2.toNat=j:=by rw[hp];rfl
 simp[bB,hlk,h1,h2,hrow]
theorem wa{kd:KD}{p:Pl}{M:DH}{R:D->DH->Prop}(hv:o7 kd p) (k:R ((bB kd p).elim .non aH) M):eI [kdD kd,plD p] M R:=by
 obtain⟨rows,row,i,j,hp,hlk,hrow⟩:=hv;rw[nQ hp hlk hrow]at k;exact⟨kd,p,rows,row,i,j,rfl,hp,hlk,hrow,k⟩
def aO(ord:List (Str×Str)) (kd:KD) (p:Pl) (l:List (Pl×Int)):List bu:=match bB kd p with
 |none=>(bo kd p).map fun b=>(none,b,1)
 |some x=>(l.filter fun z=>eB ord x (bB kd z.1)).map fun z=>(some z.1,nxt z.1,z.2)
def hV(C:Addr):SpD:=fun ds M R=>∃(ord:List (Str×Str)) (q:Addr) (p:Pl) (kd:KD) (e:Pl) (st:List (Pl×List bu)) (cn:List (Pl×List (Pl×Int))) (l:List (Pl×Int)),ds=[.tup (ord.map ba),.ref q,plD p]/\ord.length<=500/\eY M C q kd e st cn /\
 (∀q∈kd,q.2.length<=1000)/\o7 kd p/\((bB kd p).isSome->lkP cn (nxt p)=some l)/\(∀z∈l,o7 kd z.1)/\l.length<=100000/\R (.lst ((aO ord kd p l).map eP)) M
theorem lG(F:Fun K "first_steps" "first_steps" cp f fd) (T:Txt K mg) {C:Addr} (Z:eU K C) (ga1:FnD P w K mg base "sign_behind" 1 2 eI) (Y1:FnD P w K mg base "next_place" 1 1 fG) (gb3:FnD P w K mg base "are_joined" 5 3 iF) (ga4:FnD P w K mg base "begins_behind" 1 2 fP):bf P w K mg base CX0 6 f fd ["order","chart","place"] (spD K 3 (hV C)):=by
 have nd:=gF.nd;refine F.okR rfl gF (fun cdv A outer s H E hr=>⟨_,(ai (aJ (i:=3) nd rfl (Or.inr rfl) (qd ga1 hr (aa (eN Z.c Z.n_kinds (ab 1)) (aa (ab 2) ag))))
   (ai (cF (bh Hg (ab 3) ud nbh) (aw (aV (kq (ms:=[false,false,false,false]) (ar:=["begin"]) (aR rfl (show bA (am cp) bO _ _=true from by decide +kernel)) rfl (dm (qd ga4 hr (aa (eN Z.c Z.n_kinds (ab 1)) (aa (ab 2) ag)))) (aN (i:=4) (show(bO++_).Nodup from by decide +kernel) rfl rfl) (fun _ _ _ _=>ck) (fun _ _ _ _=>(bz (aa ud (aa (ab 4) (aa ao ag)))))))) bN)
   (aw (aV (kq (ms:=[true,true,false,true]) (ar:=["mate","inner"]) (aR rfl (show bA (am cp) bO _ _=true from by decide +kernel)) rfl (AQ (iD hr.units1 (eN Z.c Z.n_counts (ab 1)) (qd Y1 hr (aa (ab 2) ag)) (fun _ _=>rfl))) (jN (n:=2) rfl (cA (aN (i:=4) (show(bO++_).Nodup from by decide +kernel) rfl rfl) (cA (aN (i:=5) (show(bO++_).Nodup from by decide +kernel) rfl rfl) jW))) (fun _ _ _ _=>(uj (rj (qd gb3 hr (aa (ab 0) (aa (ab 3) (aa (qd ga1 hr (aa (eN Z.c Z.n_kinds (ab 1)) (aa (ab 4) ag))) ag))))))) (fun _ _ _ _=>(bz (aa (ab 4) (aa (qd Y1 hr (aa (ab 4) ag)) (aa (ab 5) ag)))))))))),fun ds M R _ hS bk=>?_⟩)
 obtain⟨ord,q,p,kd,e,st,cn,l,rfl,ho,hC,hb,hv,hl,hlv,hll,k⟩:=hS;obtain⟨s,c,hsc,hq,hs,hc⟩:=hC;refine bk ?_;clear bk;walk_at "rd";refine⟨_,hq,_,rfl,wa hv ?_⟩;unfold aO at k;cases hx:bB kd p with
 |none =>
  simp only[hx]at k;rw[if_pos (by rfl)];refine⟨_,hq,_,rfl,kd,p,rfl,hb,_,rfl,fun hz=>⟨hz,?_⟩⟩;have hm:((List.range ((look kd (p.1+1)).getD []).length).map fun(k:Nat)=>plD (p.1+1,(k:Int),0))=(bo kd p).map plD:=by rw[bo,List.map_map];rfl
  have hc:eM [false,false,false,false] 1 [some (D.tup (ord.map ba)),some (D.ref q),some (plD p),some ((none:Option (Str×Int)).elim .non aH)]=[none,none,none,none,none]:=rfl;rw[hm,hc];refine bJ plD (fun _=>true) (fun b=>eP (none,b,1)) (fun Δ=>∃x,Δ=[none,none,none,none,x]) _ _ _ ?_ ⟨_,rfl⟩ ?_
  ·rintro b hb' Δ ⟨x,rfl⟩;refine⟨_,rfl,⟨_,rfl⟩,fun Q1 q=>q,fun _ Q2 q=>?_⟩;simp only[xN,fm,eh,dC,jQ];exact⟨_,rfl,by simp only[List.length_cons,List.length_nil];rw[sizeLine_eq];decide,q⟩
  ·rw[List.filter_eq_self.mpr (fun _ _=>rfl),List.nil_append];rw[List.map_map]at k;exact k
 |some x =>
  simp only[hx]at k;rw[if_neg (by simp[aH,rdM,ny])];have hlk:=hl (by rw[hx];rfl);have hval:bw (cnK cn) (plK (nxt p))=some (gC (cv l)):=by
   rw[cnK,eC (fun l=>gC (cv l)),hlk];rfl
  have hm:((cv l).map fun z=>D.tup [lR z.1,z.2])=l.map fun z=>D.tup [plD z.1,D.int z.2]:=by rw[cv,List.map_map];rfl
  refine⟨_,hq,_,rfl,p,rfl,_,cX hc,plK (nxt p),rfl,_,hval,_,rfl,?_,?_⟩
  ·rw[hm,List.length_map,sizeLine_eq];exact Nat.le_trans (by assumption) (by decide)
  have hc2:eM [true,true,false,true] 2 [some (D.tup (ord.map ba)),some (D.ref q),some (plD p),some ((some x).elim .non aH)]=[some (D.tup (ord.map ba)),some (D.ref q),none,some (aH x),none,none]:=rfl;rw[hm,hc2];refine bJ (fun z:Pl×Int=>D.tup [plD z.1,D.int z.2]) (fun z=>eB ord x (bB kd z.1)) (fun z=>eP (some z.1,nxt z.1,z.2)) (fun Δ=>∃a b,Δ=[some (D.tup (ord.map ba)),some (D.ref q),none,some (aH x),a,b]) _ _ _ ?_ ⟨_,_,rfl⟩ ?_
  ·rintro z hz Δ ⟨a,b,rfl⟩;refine⟨_,rfl,⟨_,_,rfl⟩,fun Q1 q1=>?_,fun _ Q2 q1=>?_⟩
   ·simp only[nK,jB,fm,eh,jQ,Bg];exact⟨_,rfl,_,rfl,_,rfl,q,_,_,rfl,hq,rfl,_,rfl,rfl,wa (hlv z hz) ⟨rfl,ord,x,bB kd z.1,rfl,ho,_,rfl,q1⟩⟩
   ·simp only[xN,jB,fm,eh,jQ];exact⟨_,rfl,_,rfl,rfl,z.1,rfl,_,rfl,by simp only[List.length_cons,List.length_nil];rw[sizeLine_eq];decide,q1⟩
  ·rw[List.nil_append];rw[List.map_map]at k;exact k
noncomputable def xR(l:List (Pl×Int)) (e:Pl) (v:Int):List (Pl×Int):=if(l.any fun z=>decide (z.1=e))=true then l.map fun z=>if z.1=e then(z.1,v)else z else l++[(e,v)]
theorem CT{l:List (Pl×Int)}{e:Pl}{v:Int}:df (cv l) (plK e) (.int v)=cv (xR l e v):=by
 have h1:((cv l).any fun kv=>decide (kv.1=plK e))=l.any fun z=>decide (z.1=e):=by
  rw[cv,List.any_map];congr 1;funext z;exact decide_eq_decide.mpr ⟨gP,fun h=>congrArg plK h⟩
 unfold df xR;rw[h1]
 split
 ·rw[cv,cv,List.map_map,List.map_map];congr 1;funext z;show(if plK z.1=plK e then _ else _)=_
  by_cases h:z.1=e
  ·rw[if_pos (by rw[h])];simp[h]
  ·rw[if_neg (fun q=>h (gP q))];simp[h]
 ·rw[cv,cv,List.map_append];rfl
theorem A3(l:List (Pl×Int)) (e:Pl) (v:Int):(xR l e v).length<=l.length+1:=by
 unfold xR
 split
 ·rw[List.length_map];omega
 ·simp
def zl(l:List (Pl×Int)) (e:Pl) (v:Int):List (Pl×Int):=xR l e ((lkP l e).getD 0+v)
noncomputable def eG(i:Int) (l more:List (Pl×Int)):List (Pl×Int):=more.foldl (fun a z=>zl a z.1 (i*z.2)) l
noncomputable def bK(p:Pl) (ss:List bu) (cn:List (Pl×List (Pl×Int))):List (Pl×Int):=ss.foldl (fun a s=>eG s.2.2 a ((lkP cn s.2.1).getD [])) [(p,1)]
def ib(C:Addr):SpD:=fun ds M R=>∃(q:Addr) (p:Pl) (kd:KD) (e:Pl) (st:List (Pl×List bu)) (cn:List (Pl×List (Pl×Int))) (ss:List bu),ds=[.ref q,plD p]/\eY M C q kd e st cn /\
 lkP st p=some ss/\ss.length<=1000/\(∀s∈ss,∃l,lkP cn s.2.1=some l/\l.length<=1000/\∀z∈l,h8 s.2.2 z.2)/\R (gC (cv (bK p ss cn))) M
theorem lu(F:Fun K "counts_from" "counts_from" eF f fd) (T:Txt K mg) {C:Addr} (Z:eU K C) :bf P w K mg base CX0 1 f fd ["chart","place"] (spD K 2 (ib C)):=by
 have nd:=gD.nd;refine F.okR rfl gD (fun cdv A outer s H E hr=>⟨_,(ai (aJ (i:=2) nd rfl (Or.inl rfl) (BS hr.units1 (ab 1) ao))
   (ai (dY PassesOwn.never rfl (dm (iD hr.units1 (eN Z.c Z.n_steps (ab 0)) (ab 1) (fun _ _=>rfl))) (dX rfl (aK (aF (i:=3) nd rfl (Or.inl rfl)) (aK (aF (i:=4) nd rfl (Or.inl rfl)) (aK (aF (i:=5) nd rfl (Or.inl rfl)) dZ)))) (aw (dY PassesOwn.never rfl (AQ (iD hr.units1 (eN Z.c Z.n_counts (ab 0)) (ab 4) (fun _ _=>rfl))) (dX rfl (aK (aF (i:=6) nd rfl (Or.inl rfl)) (aK (aF (i:=7) nd rfl (Or.inl rfl)) dZ))) (aw (uL hr.units1 (ab 2) (ab 6) (aM aW (qD hr.units1 (ab 2) (ab 6) ao ⟨rfl,rfl,rfl,rfl⟩) (aM As (ab 5) (ab 7))))))))
   (aw (aV (Ga (ab 2)))))),fun ds M R _ hS bk=>?_⟩)
 obtain⟨q,p,kd,e,st,cn,ss,rfl,hC,hp,hsl,hn,k⟩:=hS;obtain⟨s,c,hsc,hq,hs,hc⟩:=hC;refine bk ?_;clear bk;walk_at "rd";intro a ha;have hqa:q≠a:=(nn ha hq).symm;have hsa:s≠a:=(nn ha hs).symm;have hca:c≠a:=(nn ha hc).symm;have hval:bw (stK st) (plK p)=some (.lst (ss.map eP)):=by rw[stK,eC (fun l:List bu=>D.lst (l.map eP)),hp];rfl
 refine⟨plK p,rfl,_,by rw[ak hqa];exact hq,_,rfl,_,cX (by rw[ak hsa];exact hs),plK p,rfl,_,hval,_,rfl,fun hz=>?_⟩;refine br (fun i Δ M'=>∃x3 x4 x5 x6 x7 l,Δ=[some (D.ref q),some (plD p),some (D.ref a),x3,x4,x5,x6,x7]/\l=bK p (ss.take i) cn/\l.length<=1+i*1000/\M'=av M a (.dT (cv l))) ⟨_,_,_,_,_,[(p,1)],rfl,by simp[bK],by simp,rfl⟩ ?_ ?_
 ·intro i d Δ M' X hd hI k';refine shr fun _ bk=>?_;obtain⟨x3,x4,x5,x6,x7,l0,rfl,hl0,bp,rfl⟩:=hI;refine bk ?_;clear bk;obtain⟨t,ht,rfl⟩:=eX hd;have htm:=List.mem_of_getElem? ht;have hi:i<ss.length:=(List.getElem?_eq_some_iff.mp ht).1;obtain⟨l,hl,hll,hmul⟩:=hn t htm;have hnext:bK p (ss.take (i+1)) cn=eG t.2.2 l0 l:=by
   rw[List.take_add_one,ht,hl0];simp[bK,hl]
  have hval2:bw (cnK cn) (plK t.2.1)=some (gC (cv l)):=by rw[cnK,eC (fun l=>gC (cv l)),hl];rfl
  simp only[eP];refine⟨_,rfl,?_⟩;simp only[EN,Aj,v9,Bg,eh];refine⟨_,rfl,q,_,_,rfl,by rw[ak hqa];exact hq,rfl,_,rfl,_,plK t.2.1,_,cX (by rw[ak hca];exact hc),rfl,hval2,cv l,rfl,?_⟩;have hm:((cv l).map fun z=>D.tup [lR z.1,z.2])=l.map fun z=>D.tup [plD z.1,D.int z.2]:=by rw[cv,List.map_map];rfl
  rw[hm];refine br (fun j Δ M'=>∃x6 x7 l1,Δ=[some (D.ref q),some (plD p),some (D.ref a),some (t.1.elim D.non plD),some (plD t.2.1),some (D.int t.2.2),x6,x7]/\l1=eG t.2.2 l0 (l.take j)/\l1.length<=1+i*1000+j/\M'=av M a (.dT (cv l1))) ⟨_,_,l0,rfl,by simp[eG],by assumption,rfl⟩ ?_ ?_
  ·intro j d2 Δ M' X2 hd2 hI k2;refine shr fun _ bk=>?_;obtain⟨y6,y7,l1,rfl,hl1,hlen1,rfl⟩:=hI;refine bk ?_;clear bk;obtain⟨z,hz2,rfl⟩:=eX hd2;have hzm:=List.mem_of_getElem? hz2;have hj:j<l.length:=(List.getElem?_eq_some_iff.mp hz2).1;refine⟨_,rfl,?_⟩;simp only[wy,dOp,va,eh,dC];have hv1:(bw (cv l1) (plK z.1)).getD (D.int 0)=D.int ((lkP l1 z.1).getD 0):=by
    rw[cv,eC D.int];cases lkP l1 z.1<;>rfl
   refine⟨_,rfl,by rw[cX ah];rfl,_,rfl,_,plK z.1,cX ah,rfl,_,rfl,_,rfl,.int (t.2.2*z.2),by simp[rdM,iOp,hmul z hzm],?_⟩;rw[hv1];refine⟨.int ((lkP l1 z.1).getD 0+t.2.2*z.2),rfl,_,rfl,_,rfl,a,_,plK z.1,rfl,ah,rfl,?_,k2 _ _ ⟨_,_,zl l1 z.1 (t.2.2*z.2),rfl,?_,?_,?_⟩⟩
   ·rw[cv,List.length_map,sizeLine_eq];omega
   ·rw[List.take_add_one,hz2,hl1];simp[eG]
   ·have:=A3 l1 z.1 ((lkP l1 z.1).getD 0+t.2.2*z.2);show(xR _ _ _).length<=_;omega
   ·rw[aD,CT];rfl
  ·intro Δ M' hI;refine shr fun _ bk=>?_;obtain⟨y6,y7,l1,rfl,hl1,hlen1,rfl⟩:=hI;refine bk ?_;clear bk;rw[List.length_map,List.take_length]at hl1;rw[List.length_map]at hlen1;exact k' _ _ ⟨_,_,_,_,_,l1,rfl,by rw[hnext];exact hl1,by omega,rfl⟩
 ·intro Δ M' hI;refine shr fun _ bk=>?_;obtain⟨x3,x4,x5,x6,x7,l0,rfl,hl0,bp,rfl⟩:=hI;refine bk ?_;clear bk;rw[List.length_map,List.take_length]at hl0;simp only[BW,zf,eh];refine⟨_,rfl,a,_,rfl,ah,?_⟩;rw[fH ha,hl0];exact k
noncomputable def fM{α:Type}(l:List (Pl×α)) (e:Pl) (v:α):List (Pl×α):=if(l.any fun z=>decide (z.1=e))=true then l.map fun z=>if z.1=e then(z.1,v)else z else l++[(e,v)]
theorem AX{α:Type}(f:α->D) {l:List (Pl×α)}{e:Pl}{v:α}:df (l.map fun z=>(plK z.1,f z.2)) (plK e) (f v)=(fM l e v).map fun z=>(plK z.1,f z.2):=by
 have h1:((l.map fun z=>(plK z.1,f z.2)).any fun kv=>decide (kv.1=plK e))=l.any fun z=>decide (z.1=e):=by
  rw[List.any_map];congr 1;funext z;exact decide_eq_decide.mpr ⟨gP,fun h=>congrArg plK h⟩
 unfold df fM;rw[h1]
 split
 ·rw[List.map_map,List.map_map];congr 1;funext z;show(if plK z.1=plK e then _ else _)=_
  by_cases h:z.1=e
  ·rw[if_pos (by rw[h])];simp[h]
  ·rw[if_neg (fun q=>h (gP q))];simp[h]
 ·rw[List.map_append];rfl
theorem sL{α:Type}(l:List (Pl×α)) (e:Pl) (v:α):(fM l e v).length<=l.length+1:=by
 unfold fM
 split
 ·rw[List.length_map];omega
 ·simp
abbrev ChS:=List (Pl×List bu)×List (Pl×List (Pl×Int))
def gU(ord:List (Str×Str)) (kd:KD) (S:ChS) (p:Pl):ChS :=
 let ss:=aO ord kd p ((lkP S.2 (nxt p)).getD [])
 (fM S.1 p ss,fM S.2 p (bK p ss S.2))
def bF(ord:List (Str×Str)) (kd:KD) (ps:List Pl):ChS:=ps.foldl (gU ord kd) ([],[])
def Fd(ord:List (Str×Str)) (kd:KD) (cn:List (Pl×List (Pl×Int))) (p:Pl):Prop :=
 o7 kd p/\((bB kd p).isSome->(lkP cn (nxt p)).isSome=true)/\(∀z∈(lkP cn (nxt p)).getD [],o7 kd z.1)/\((lkP cn (nxt p)).getD []).length<=100000 /\
 (aO ord kd p ((lkP cn (nxt p)).getD [])).length<=1000/\∀s∈aO ord kd p ((lkP cn (nxt p)).getD []),∃l,lkP cn s.2.1=some l/\l.length<=1000/\∀z∈l,h8 s.2.2 z.2
def yf(ord:List (Str×Str)) (kd:KD) (m:Int):Prop:=ord.length<=500/\(∀q∈kd,q.2.length<=1000)/\CG (kd.map (·.1))=some m/\(af kd).length<=100000 /\
 ∀i p,(af kd).reverse[i]?=some p->Fd ord kd (bF ord kd ((af kd).reverse.take i)).2 p
def chM(M:DH) (C q s c:Addr) (kd:KD) (e:Pl) (S:ChS):DH :=
 av (av (av M q (.ins C [("kinds",kdD kd),("end",plD e),(("steps":Str),.ref s),(("counts":Str),.ref c)])) s (.dT (stK S.1))) c (.dT (cnK S.2))
section
variable{M:DH}{C q s c:Addr}{kd:KD}{e:Pl}{S:ChS}
theorem Bz(h1:q≠s) (h2:q≠c):chM M C q s c kd e S q=some (.ins C [("kinds",kdD kd),("end",plD e),(("steps":Str),.ref s),(("counts":Str),.ref c)]):=by
 unfold chM;rw[ak h2,ak h1,ah]
theorem DD(h:s≠c):chM M C q s c kd e S s=some (.dT (stK S.1)):=by
 unfold chM;rw[ak h,ah]
theorem DI:chM M C q s c kd e S c=some (.dT (cnK S.2)):=ah
theorem nz(h1:q≠s) (h2:q≠c) (h:s≠c):eY (chM M C q s c kd e S) C q kd e S.1 S.2:=⟨s,c,h,Bz h1 h2,DD h,DI⟩
theorem Bj(h:s≠c) {x:List (Pl×List bu)}:av (chM M C q s c kd e S) s (.dT (stK x))=chM M C q s c kd e (x,S.2):=by
 unfold chM;rw[bt (Ne.symm h),aD]
theorem zw{y:List (Pl×List (Pl×Int))}:av (chM M C q s c kd e S) c (.dT (cnK y))=chM M C q s c kd e (S.1,y):=by
 unfold chM;rw[aD]
end
theorem yI{α:Type}{p:Pl}{v:α}:∀{l:List (Pl×α)},lkP (fM l p v) p=some v:=by
 intro l;unfold fM
 split
 ·rename_i h
  induction l with
  |nil=>simp at h
  |cons z l ih =>
   by_cases hz:z.1=p
   ·simp[lkP,hz]
   ·have h':(l.any fun z=>decide (z.1=p))=true:=by simpa[hz]using h
    have:=ih h';simpa[lkP,hz]using this
 ·rename_i h;have:∀z∈l,z.1≠p:=fun z hz e=>h (List.any_eq_true.mpr ⟨z,hz,by simp[e]⟩)
  induction l with
  |nil=>simp[lkP]
  |cons z l ih =>
   have hz:=this z (.head _);have:=ih (fun h2=>h (by simp[h2])) (fun w hw=>this w (.tail _ hw));simpa[lkP,hz]using this
def lN(C:Addr):SpD:=fun ds M R=>∃(ord:List (Str×Str)) (kd:KD) (m:Int) (q:Addr),ds=[.ref q,.tup (ord.map ba),kdD kd]/\M q=some (.ins C [])/\yf ord kd m /\
 ∀s c,M s=none->M c=none->s≠c->R .non (chM M C q s c kd (m,0,1) (bF ord kd (af kd).reverse))
theorem uI(F:Fun K "__init__" "Chart.__init__" lM f fd) (T:Txt K mg) {C:Addr} (Z:eU K C) (gb0:FnD P w K mg base "last_place" 1 1 iS) (Y3:FnD P w K mg base "places_of" 1 1 jK) (ga8:FnD P w K mg base "first_steps" 6 3 ((hV C))) (ga9:FnD P w K mg base "counts_from" 1 2 ((ib C))):bf P w K mg base CX0 7 f fd ["self","order","kinds"] (spD K 3 (lN C)):=by
 have nd:=nS.nd;refine F.okR rfl nS (fun cdv A outer s H E hr=>⟨_,(ai (rQ Z.c Z.n_kinds (ab 0) (ab 2))
   (ai (rQ Z.c Z.n_end (ab 0) (qd gb0 hr (aa (ab 2) ag)))
   (ai (rQ Z.c Z.n_steps (ab 0) Fj)
   (ai (rQ Z.c Z.n_counts (ab 0) Fj)
   (aw (dY PassesOwn.never rfl (BN rfl T.b_reversed (aa (qd Y3 hr (aa (ab 2) ag)) ag)) (aF (i:=3) nd rfl (Or.inl rfl)) (ai (uL hr.units1 (eN Z.c Z.n_steps (ab 0)) (ab 3) (qd ga8 hr (aa (ab 1) (aa (ab 0) (aa (ab 3) ag)))))
   (aw (uL hr.units1 (eN Z.c Z.n_counts (ab 0)) (ab 3) (qd ga9 hr (aa (ab 0) (aa (ab 3) ag)))))))))))),fun ds M R _ hS bk=>?_⟩)
 obtain⟨ord,kd,m,q,rfl,hq,⟨ho,hb,hm,hz,hst⟩,k⟩:=hS;refine bk ?_;clear bk;walk_at "rd";have p2:uc "end" (plD (m,0,1)) [(("kinds":Str),kdD kd)]=[(("kinds":Str),kdD kd),(("end":Str),plD (m,0,1))]:=rfl;refine⟨[],hq,by simp,kd,m,rfl,hm,[(("kinds":Str),kdD kd)],ah,by simp,fun s hs=>?_⟩;rw[p2]at hs ⊢;rw[aD]at hs ⊢;have hqs:q≠s:=fun z=>by rw[<-z,ah]at hs;cases hs
 have hs0:M s=none:=by rw[ak (Ne.symm hqs)]at hs;exact hs
 refine⟨[(("kinds":Str),kdD kd),(("end":Str),plD (m,0,1))],by rw[ak hqs,ah],by simp,fun c hc=>?_⟩;have p3:uc "steps" (.ref s) [(("kinds":Str),kdD kd),(("end":Str),plD (m,0,1))]=[(("kinds":Str),kdD kd),(("end":Str),plD (m,0,1)),(("steps":Str),.ref s)]:=rfl;rw[p3]at hc ⊢;have hqc:q≠c:=fun z=>by rw[<-z,ah]at hc;cases hc
 rw[ak (Ne.symm hqc)]at hc;have hsc:s≠c:=fun z=>by rw[<-z,ah]at hc;cases hc
 have hc0:M c=none:=by rw[ak (Ne.symm hsc),ak (Ne.symm hqc)]at hc;exact hc
 refine⟨[(("kinds":Str),kdD kd),(("end":Str),plD (m,0,1)),(("steps":Str),.ref s)],by rw[ak hqc,ah],by simp,?_⟩;have p4:uc "counts" (.ref c) [(("kinds":Str),kdD kd),(("end":Str),plD (m,0,1)),(("steps":Str),.ref s)]=[(("kinds":Str),kdD kd),(("end":Str),plD (m,0,1)),(("steps":Str),.ref s),(("counts":Str),.ref c)]:=rfl;rw[p4];have hM:av (av (av (av (av M q (.ins C [(("kinds":Str),kdD kd),(("end":Str),plD (m,0,1))])) s (.dT [])) q (.ins C [(("kinds":Str),kdD kd),(("end":Str),plD (m,0,1)),(("steps":Str),.ref s)])) c (.dT [])) q (.ins C [(("kinds":Str),kdD kd),(("end":Str),plD (m,0,1)),(("steps":Str),.ref s),(("counts":Str),.ref c)])=chM M C q s c kd (m,0,1) ([],[]):=by
  unfold chM;rw[bt (Ne.symm hqc),aD,bt (Ne.symm hqs),aD];rfl
 rw[hM];refine⟨kd,rfl,by exact Nat.le_trans (by assumption) (by decide),_,rfl,fun hle=>?_⟩;rw[<-List.map_reverse];refine br (fun i Δ M'=>∃x S,Δ=[some (D.ref q),some (D.tup (ord.map ba)),some (kdD kd),x]/\S=bF ord kd ((af kd).reverse.take i)/\S.1.length<=i/\S.2.length<=i/\M'=chM M C q s c kd (m,0,1) S) ⟨_,([],[]),rfl,by simp[bF],by simp,by simp,rfl⟩ ?_ ?_
 ·intro i d Δ M' X hd hI k';refine shr fun _ bk=>?_;obtain⟨x,S,rfl,hS,h1,h2,rfl⟩:=hI;refine bk ?_;clear bk;obtain⟨p,hp,rfl⟩:=eX hd;have hi:i<(af kd).reverse.length:=(List.getElem?_eq_some_iff.mp hp).1;rw[List.length_reverse]at hi;have hok:=hst i p hp;rw[<-hS]at hok;obtain⟨hv,hsome,hzv,hll,hss,hstep⟩:=hok;refine⟨_,rfl,?_⟩;simp only[zR,wy,Bg,jB,fm,eh,jQ];refine⟨_,rfl,_,rfl,_,rfl,rfl,ord,q,p,kd,(m,0,1),S.1,S.2,(lkP S.2 (nxt p)).getD [],rfl,ho,nz hqs hqc hsc,hb,hv,fun h=>?_,hzv,hll,?_⟩
  ·obtain⟨l,hl⟩:=Option.isSome_iff_exists.mp (hsome h);rw[hl];rfl
  refine⟨_,rfl,q,_,_,rfl,Bz hqs hqc,rfl,_,rfl,s,_,plK p,rfl,DD hsc,rfl,by rw[stK,List.length_map,sizeLine_eq];omega,?_⟩;generalize hss0:aO ord kd p ((lkP S.2 (nxt p)).getD [])=ss at *
  have hput:df (stK S.1) (plK p) (D.lst (ss.map eP))=stK (fM S.1 p ss):=AX (fun l:List bu=>D.lst (l.map eP));have hput2:df (cnK S.2) (plK p) (gC (cv (bK p ss S.2)))=cnK (fM S.2 p (bK p ss S.2)):=AX (fun l=>gC (cv l));rw[hput,Bj hsc];refine⟨_,rfl,_,rfl,rfl,q,p,kd,(m,0,1),fM S.1 p ss,S.2,ss,rfl,nz hqs hqc hsc,yI,hss,hstep,?_⟩;refine⟨_,rfl,q,_,_,rfl,Bz hqs hqc,rfl,_,rfl,c,cnK S.2,plK p,rfl,DI,rfl,by rw[cnK,List.length_map,sizeLine_eq];omega,?_⟩;rw[hput2,zw];refine k' _ _ ⟨_,_,rfl,?_,?_,?_,rfl⟩
  ·rw[List.take_add_one,hp,bF,List.foldl_append];show _=gU ord kd (bF ord kd ((af kd).reverse.take i)) p;rw[<-hS];simp only[gU,hss0]
  ·have:=sL S.1 p ss;show(fM S.1 p ss).length<=_;omega
  ·have:=sL S.2 p (bK p ss S.2);show(fM S.2 p _).length<=_;omega
 ·intro Δ M' hI;refine shr fun _ bk=>?_;obtain⟨x,S,rfl,hS,h1,h2,rfl⟩:=hI;refine bk ?_;clear bk;rw[List.length_map,List.take_length]at hS;rw[hS];exact k s c hs0 hc0 hsc
noncomputable def aS:Pl:=(-1,0,0)
def dO(C:Addr):SpD:=fun ds M R=>∃(q:Addr) (kd:KD) (e:Pl) (st:List (Pl×List bu)) (cn:List (Pl×List (Pl×Int))) (l:List (Pl×Int)),ds=[.ref q]/\eY M C q kd e st cn/\lkP cn aS=some l/\R (.int ((lkP l e).getD 0)) M
theorem kI(F:Fun K "count_of_all" "count_of_all" dJ f fd) (T:Txt K mg) {C:Addr} (Z:eU K C) :bf P w K mg base CX0 1 f fd ["chart"] (spD K 1 (dO C)):=by
 have nd:=fO.nd;refine F.okR rfl fO (fun cdv A outer s H E hr=>⟨_,(aw (aV (qD hr.units1 (FE hr.units1 (eN Z.c Z.n_counts (ab 0)) (rq rfl T.g_START) (fun _ _=>rfl)) (eN Z.c Z.n_end (ab 0)) ao ⟨rfl,rfl,rfl,rfl⟩))),fun ds M R _ hS bk=>?_⟩);obtain⟨q,kd,e,st,cn,l,rfl,hC,hl,k⟩:=hS;obtain⟨s,c,hsc,hq,hs,hc⟩:=hC;refine bk ?_;clear bk;walk_at "rd";have hval:bw (cnK cn) (plK aS)=some (gC (cv l)):=by rw[cnK,eC (fun l=>gC (cv l)),hl];rfl
 refine⟨_,hq,_,rfl,_,cX hc,plK aS,rfl,_,hval,by rw[iP];rfl,_,hq,_,rfl,_,iP,plK e,rfl,?_⟩;have:(bw (cv l) (plK e)).getD (D.int 0)=D.int ((lkP l e).getD 0):=by
  rw[cv,eC D.int];cases lkP l e<;>rfl
 rw[this];exact k
noncomputable def cu(aj:List (Str×List Row)) (ws:List Str):KD:=ws.zipIdx.map fun q=>((q.2:Int),kin aj q.1)
def aQ(aj:List (Str×List Row)) (aq:Str) (ws:List Str):KD:=(-1,[[]])::cu aj ws++[((ws.length:Int),[[(aq,1)]])]
theorem vK{kd:KD}{n:Int}{rs:List Row}(h:∀p∈kd,p.1≠n):df (kdP kd) (.inl n) (cL rs)=kdP (kd++[(n,rs)]):=by
 have:((kdP kd).any fun kv=>decide (kv.1=.inl n))=false:=by
  rw[List.any_eq_false];intro x hx;obtain⟨p,hp,rfl⟩:=List.mem_map.mp hx;have:=h p hp;simpa using this
 unfold df;rw[this,if_neg (by simp),kdP,kdP,List.map_append];rfl
theorem wf{aj:List (Str×List Row)}{ws:List Str}{n:Int}{r:List Row}(h0:(-1:Int)≠n) (h:(ws.length:Int)<=n):∀p∈((-1,r)::cu aj ws:KD),p.1≠n:=by
 intro p hp;rcases List.mem_cons.mp hp with e|hp
 ·rw[e];exact h0
 ·obtain⟨t,ht,rfl⟩:=List.mem_map.mp hp;have:=List.mem_zipIdx ht;show(t.2:Int)≠n;omega
def eJ:SpD:=fun ds M R=>∃(ord:List (Str×Str)) (aq:Str) (aj:List (Str×List Row)) (ws:List Str),ds=[gd ord aq aj,.tup (ws.map .str)]/\aj.length<=8/\ws.length<=100/\(∀w∈ws,w∈aj.map (·.1)/\dh w)/\R (kdD (aQ aj aq ws)) M
theorem iA(F:Fun K "kinds_by_number" "kinds_by_number" cN f fd) (T:Txt K mg) (gb7:FnD P w K mg base "kinds_of" 3 2 kW) (gb2:FnD P w K mg base "goals_wish" 1 1 iN):bf P w K mg base CX0 4 f fd ["lexicon","words"] (spD K 2 eJ):=by
 have nd:=dW.nd;refine F.okR rfl dW (fun cdv A outer s H E hr=>⟨_,(ai (aJ (i:=2) nd rfl (Or.inl rfl) (xc (aZ aY (rq rfl T.g_START) ao (fun _ _=>rfl)) (bz (aa (bz ag) ag))))
   (ai (dY PassesOwn.never rfl (wW rfl T.b_enumerate (aa (ab 1) ag)) (dX rfl (aK (aF (i:=3) nd rfl (Or.inl rfl)) (aK (aF (i:=4) nd rfl (Or.inl rfl)) dZ))) (aw (qO hr.units1 (ab 2) (ab 3) (qd gb7 hr (aa (ab 0) (aa (ab 4) ag))))))
   (ai (qO hr.units1 (ab 2) (aG cf rfl T.b_len (by kernel_rfl) (aa (ab 1) ag)) (bz (aa (qd gb2 hr (aa (ab 0) ag)) ag)))
   (aw (aV (FQ (ab 2))))))),fun ds M R _ hS bk=>?_⟩)
 obtain⟨ord,aq,aj,ws,rfl,hl,hw,hws,k⟩:=hS;refine bk ?_;clear bk;walk_at "rd";intro a ha;refine⟨Nat.zero_le _,by rw[sizeLine_eq];decide,.inl (-1),rfl,fun hz=>?_⟩;rw[iQ];refine br (fun i Δ M'=>∃x3 x4,Δ=[some (gd ord aq aj),some (D.tup (ws.map D.str)),some (D.ref a),x3,x4]/\M'=av M a (.dK (kdP ((-1,[[]])::cu aj (ws.take i))))) ⟨_,_,rfl,rfl⟩ ?_ ?_
 ·rintro i d Δ M' X hd ⟨x3,x4,rfl,rfl⟩ k';obtain⟨t,ht,rfl⟩:=eX hd;have hti:ws[i]?=some t.1/\t.2=i:=by
   rw[List.getElem?_zipIdx]at ht;cases hw':ws[i]? with
   |none=>rw[hw']at ht;cases ht
   |some x=>rw[hw']at ht;cases ht;exact⟨rfl,by simp⟩
  have hmem:=List.mem_of_getElem? hti.1;have hi:i<ws.length:=(List.getElem?_eq_some_iff.mp hti.1).1;refine⟨_,rfl,?_⟩;simp only[vQ,jB,fm,eh,jQ];refine⟨_,rfl,_,rfl,rfl,ord,aq,aj,t.1,rfl,hl,(hws _ hmem).1,(hws _ hmem).2,?_⟩;refine⟨_,rfl,_,rfl,a,_,.inl (t.2:Int),rfl,ah,rfl,?_,?_⟩
  ·rw[kdP,List.length_map,List.length_cons,cu,List.length_map,List.length_zipIdx,List.length_take,sizeLine_eq];omega
  rw[aD,vK (wf (by omega) (by rw[hti.2,List.length_take];omega) )];refine k' _ _ ⟨_,_,rfl,?_⟩;rw[List.take_add_one,hti.1,hti.2];simp[cu,List.zipIdx_append,List.length_take,Nat.min_eq_left (Nat.le_of_lt hi)]
 ·rintro Δ M' ⟨x3,x4,rfl,rfl⟩;rw[List.length_map,List.length_zipIdx,List.take_length];simp only[zR,vQ,jB,fm,eh,jQ,dCB,xN,BW,Bp];refine⟨_,rfl,rfl,ord,aq,aj,rfl,by simp only[List.length_cons,List.length_nil];rw[sizeLine_eq];decide,_,rfl,_,rfl,.int (ws.length:Int),?_,a,_,.inl (ws.length:Int),rfl,ah,rfl,?_,_,rfl,a,_,rfl,ah,?_⟩
  ·simp[jq,rdM,gB]
  ·rw[kdP,List.length_map,List.length_cons,cu,List.length_map,List.length_zipIdx,sizeLine_eq];omega
  ·rw[aD,fH ha];have:=vK (kd:=(-1,[[]])::cu aj ws) (n:=(ws.length:Int)) (rs:=[[(aq,1)]]) (wf (by omega) (Int.le_refl _));rw[show D.tup [aT [(aq,1)]]=cL [[(aq,1)]]from rfl,this];exact k
def gH(C:Addr):SpD:=fun ds M R=>∃(ord:List (Str×Str)) (aq:Str) (aj:List (Str×List Row)) (ws:List Str) (m:Int),ds=[gd ord aq aj,.tup (ws.map .str)]/\aj.length<=8/\ws.length<=100/\(∀w∈ws,w∈aj.map (·.1)/\dh w)/\yf ord (aQ aj aq ws) m /\
 ∀q s c,M q=none->M s=none->M c=none->q≠s->q≠c->s≠c->R (.ref q) (chM M C q s c (aQ aj aq ws) (m,0,1) (bF ord (aQ aj aq ws) (af (aQ aj aq ws)).reverse))
theorem oZ(F:Fun K "chart_of" "chart_of" gZ f fd) (T:Txt K mg) {C:Addr} (gc7:MkD P w K mg base "Chart" C 7 3 ((lN C))) (ga0:FnD P w K mg base "kinds_by_number" 4 2 eJ):bf P w K mg base CX0 9 f fd ["lexicon","words"] (spD K 2 (gH C)):=by
 have nd:=jA.nd;refine F.okR rfl jA (fun cdv A outer s H E hr=>⟨_,(aw (aV (EL gc7 (hr.mono (by decide)) rfl (aa (aZ aY (ab 0) ao (fun _ _=>rfl)) (aa (qd ga0 hr (aa (ab 0) (aa (ab 1) ag))) ag))))),fun ds M R _ hS bk=>?_⟩);obtain⟨ord,aq,aj,ws,m,rfl,hl,hw,hws,hok,k⟩:=hS;refine bk ?_;clear bk;have hx:gd ord aq aj=D.tup [D.tup (ord.map ba),D.str aq,D.tup (aj.map cB)]:=rfl;rw[hx];walk_at "rd";refine⟨ord,aq,aj,ws,rfl,hl,hw,hws,fun q hq=>⟨ord,_,m,q,rfl,ah,hok,fun s c hs hc hsc=>⟨rfl,?_⟩⟩⟩;have hqs:q≠s:=fun z=>by rw[<-z,ah]at hs;cases hs
 have hqc:q≠c:=fun z=>by rw[<-z,ah]at hc;cases hc
 rw[ak (Ne.symm hqs)]at hs;rw[ak (Ne.symm hqc)]at hc;have:=k q s c hq hs hc hqs hqc hsc;unfold chM at this ⊢;rw[aD];exact this
def yS(ord:List (Str×Str)) (aq:Str) (aj:List (Str×List Row)) (ws:List Str) (n:Int):Prop:=aj.length<=8/\ws.length<=100/\(∀w∈ws,w∈aj.map (·.1)/\dh w) /\
 ∃m l,yf ord (aQ aj aq ws) m/\lkP (bF ord (aQ aj aq ws) (af (aQ aj aq ws)).reverse).2 aS=some l/\n=(lkP l (m,0,1)).getD 0
def t9:SpD:=fun ds M R=>∃(ord:List (Str×Str)) (aq:Str) (aj:List (Str×List Row)) (ws:List Str) (n:Int),ds=[gd ord aq aj,.tup (ws.map .str)]/\yS ord aq aj ws n/\R (.int n) M
theorem xi(F:Fun K "many" "many" nr f fd) (T:Txt K mg) {C:Addr} (Y2:FnD P w K mg base "count_of_all" 1 1 ((dO C))) (Y6:FnD P w K mg base "chart_of" 9 2 ((gH C))):bf P w K mg base CX0 10 f fd ["lexicon","words"] (spD K 2 t9):=by
 have nd:=pS.nd;refine F.okR rfl pS (fun cdv A outer s H E hr=>⟨_,(aw (iI (qd Y2 hr (aa (qd Y6 hr (aa (ab 0) (aa (ab 1) ag))) ag)))),fun ds M R _ hS bk=>?_⟩);obtain⟨ord,aq,aj,ws,n,rfl,⟨hl,hw,hws,m,l,hok,hst,hn⟩,k⟩:=hS;refine bk ?_;clear bk;walk_at "rd";refine⟨ord,aq,aj,ws,m,rfl,hl,hw,hws,hok,fun q s c hq hs hc hqs hqc hsc=>?_⟩;refine⟨q,_,_,_,_,l,rfl,nz hqs hqc hsc,hst,M,fun a u e=>?_,by rw[hn]at k;exact k⟩;have h1:a≠q:=(nn hq e).symm;have h2:a≠s:=(nn hs e).symm;have h3:a≠c:=(nn hc e).symm;unfold chM;rw[ak h3,ak h2,ak h1];exact e
def bq(l:List D):Prop:=∃a b:Int,l=[.int a,.int b]
def tR:SpD:=fun ds M R=>∃(ns:List Int) (k:Int),ds=[.scr (ns.map .int),.int k]/\ns.length<=63/\0<=k/\k<=100/\∀p l,M p=none->bq l->R (.ref p) (av M p (.lst l))
def cR:SpD:=fun ds M R=>∃p l n,ds=[.ref p,.int n]/\M p=some (.lst l)/\bq l/\0<n/\n<1073741824/\∀v l',0<=v->v<n->bq l'->R (.int v) (av M p (.lst l'))
theorem yz{ms:List Int}{i:Nat}{d:D}(h:(ms.map D.int)[i]?=some d):∃c,c∈ms/\d=.int c:=by
 rw[List.getElem?_map]at h;cases q:ms[i]? with
 |none=>rw[q]at h;cases h
 |some c=>rw[q]at h;cases h;exact⟨c,List.mem_of_getElem? q,rfl⟩
theorem B0{ns:List Int}{lo hi:Option Int}:∃ms:List Int,L2.cK (ns.map D.int) lo hi=ms.map D.int/\ms.length<=ns.length:=by
 refine⟨(ns.drop (HT.sIx (ns.map D.int).length 0 lo)).take (HT.sIx (ns.map D.int).length (ns.map D.int).length hi-HT.sIx (ns.map D.int).length 0 lo),?_,?_⟩
 ·unfold L2.cK;rw[List.map_take,List.map_drop]
 ·simp;omega
theorem ym(F:Fun K "_law_well" "_law_well" nu f fd) (T:Txt K mg) :bf P w K mg base CX0 1 f fd ["_law_script","_law_place"] (spD K 2 tR):=by
 have nd:=pN.nd;refine F.okR rfl pN (fun cdv A outer s H E hr=>⟨_,(ai (aJ (i:=2) nd rfl (Or.inl rfl) ao)
   (ai (dY PassesOwn.never rfl (dm (bP (ab 0) (bV (ab 1)) (bV (aM aW (ab 1) ao)))) (aF (i:=3) nd rfl (Or.inl rfl)) (aw (aJ (i:=2) nd rfl (Or.inl rfl) (ab 3))))
   (ai (cF (xZ (zN (bh yJ (ab 2) ao nbh) (u7 (bh EI (ab 2) (aM HN ao ao) nbh)))) (aw (aV (g6 (aa ao (aa (aG G7 rfl T.b_abs (by kernel_rfl) (aa (ab 2) ag)) ag))))) bN)
   (aw (aV (g6 (aa ao (aa (aM aW (aM fT (aM aW (aM fT (ab 2) ao) (aM c8 ao (ab 1))) ao) ao) ag)))))))),fun ds M R _ hS bk=>?_⟩)
 obtain⟨ns,k0,rfl,hl,h0,h1,k⟩:=hS;refine bk ?_;clear bk;walk_at "rd";obtain⟨ms,hms,hml⟩:=B0 (ns:=ns) (lo:=some k0) (hi:=some (k0+1));rw[hms];intro hz;refine br (fun i Δ M'=>∃(x:Int) (y:Option D),Δ=[some (D.scr (List.map D.int ns)),some (D.int k0),some (D.int x),y]/\M'=M) ⟨0,none,rfl,rfl⟩ ?_ ?_
 ·rintro i d Δ M' X hd ⟨x,y,rfl,rfl⟩ k';obtain⟨c,hc,rfl⟩:=yz hd;simp only[cb];walk_at "rd";exact k' _ _ ⟨_,_,rfl,rfl⟩
 ·rintro Δ M' ⟨x,y,rfl,rfl⟩;walk_at "rd";exact gf (fun _=>⟨sz3 2,fun p hp=>k p _ hp ⟨_,_,rfl⟩⟩) (fun _=>gf (fun _=>⟨sz3 2,fun p hp=>k p _ hp ⟨_,_,rfl⟩⟩) (fun _=>⟨sz3 2,fun p hp=>k p _ hp ⟨_,_,rfl⟩⟩))
theorem yq(F:Fun K "_law_draw" "_law_draw" nk f fd) (T:Txt K mg) :bf P w K mg base CX0 1 f fd ["_law_well_here","_law_top"] (spD K 2 cR):=by
 have nd:=pq.nd;refine F.okR rfl pq (fun cdv A outer s H E hr=>⟨_,(ai (cF (bh (oH hr.units) (aZ aY (ab 0) ao (fun _ _=>rfl)) ao nbh) (ai (aJ (i:=2) nd rfl (Or.inl rfl) (aM fT (aZ aY (ab 0) ao (fun _ _=>rfl)) (ab 1)))
   (ai (vO (ab 0) ao (aM vB (aZ aY (ab 0) ao (fun _ _=>rfl)) (ab 1)))
   (aw (aV (ab 2))))) bN)
   (ai (dY PassesOwn.never rfl (bU rfl T.b_range (aa ao ag)) (aF (i:=3) nd rfl (Or.inl rfl)) (ai (jG (aG AJ rfl T.b_divmod (by kernel_rfl) (aa (aZ aY (ab 0) ao (fun _ _=>rfl)) (aa ao ag))) (dX rfl (aK (aF (i:=4) nd rfl (Or.inl rfl)) (aK (aF (i:=5) nd rfl (Or.inl rfl)) dZ))))
   (aw (vO (ab 0) ao (aM fT (aM aW (aM aW (aM c8 (ab 5) ao) (aM c8 (ab 4) ao)) ao) ao)))))
   (aw (aV (aM fT (aM vB (aZ aY (ab 0) ao (fun _ _=>rfl)) ao) (ab 1)))))),fun ds M R _ hS bk=>?_⟩)
 obtain⟨p,l,n,rfl,hM,⟨a,b,rfl⟩,h0,h1,k⟩:=hS;refine bk ?_;clear bk;have hrd:=eV hM;have hcd:∀x,nU x n:=fun x=>⟨h0,h1⟩;walk_at "rd";simp only[hrd,hM,hcd];walk_at "rd";have m1:∀x:Int,0<=x % n:=fun x=>Int.emod_nonneg _ (by omega);have m2:∀x:Int,x % n<n:=fun x=>Int.emod_lt_of_pos _ h0;refine gf (fun _=>⟨_,if_pos h0,_,if_pos (hcd b),k _ _ (m1 _) (m2 _) ⟨_,_,rfl⟩⟩) (fun _=>?_);refine br (fun i Δ M'=>∃(x3 x4 x5:Option D) (b':Int),Δ=[some (D.ref p),some (D.int n),none,x3,x4,x5]/\M'=av M p (.lst [.int a,.int b'])) ⟨_,_,_,b,rfl,(pK hM).symm⟩ ?_ ?_
 ·rintro i d Δ M' X hd ⟨x3,x4,x5,b',rfl,rfl⟩ k';simp only[cb];walk_at "rd";simp only[jE,fA,cb,md,Option.bind_some];refine⟨_,if_pos rfl,?_⟩;walk_at "rd";exact k' _ _ ⟨_,_,_,_,rfl,rfl⟩
 ·rintro Δ M' ⟨x3,x4,x5,b',rfl,rfl⟩;walk_at "rd";refine⟨_,if_pos h0,k _ _ (m1 _) (m2 _) ⟨_,_,rfl⟩⟩
section
variable{σ:Type}
noncomputable def og:List σ->List (List σ×σ×List σ)
 |[]=>[]
 |y::ys=>([],y,ys)::(og ys).map fun c=>(y::c.1,c.2.1,c.2.2)
theorem ng{xs:List σ}:∀{c:List σ×σ×List σ},c∈og xs->c.1.length+c.2.2.length+1=xs.length:=by
 induction xs with
 |nil=>intro c h;cases h
 |cons y ys ih =>
  intro c h;rcases List.mem_cons.mp h with rfl|h
  ·simp
  ·obtain⟨d,hd,rfl⟩:=List.mem_map.mp h;have:=ih hd;simp;omega
def Wf(R:σ->σ->Bool):Nat->List σ->Nat
 |_,[]=>1
 |0,_::_=>0
 |k+1,x::xs=>((og xs).map fun c=>if R x c.2.1 then Wf R k c.1*Wf R k c.2.2 else 0).sum
def W(R:σ->σ->Bool) (xs:List σ):Nat:=Wf R xs.length xs
theorem DW{R:σ->σ->Bool}:∀{k:Nat}{xs:List σ},xs.length<=k->Wf R k xs=W R xs:=by
 have key:∀(n k j:Nat) (xs:List σ),xs.length<=n->xs.length<=k->xs.length<=j->Wf R k xs=Wf R j xs:=by
  intro n
  induction n with
  |zero =>
   intro k j xs h _ _;have:xs=[]:=List.eq_nil_of_length_eq_zero (by omega);subst this;simp[Wf]
  |succ n ih =>
   intro k j xs h hk hj;cases xs with
   |nil=>simp[Wf]
   |cons x xs =>
    simp only[List.length_cons]at h hk hj;obtain⟨k,rfl⟩:∃m,k=m+1:=⟨k-1,by omega⟩;obtain⟨j,rfl⟩:∃m,j=m+1:=⟨j-1,by omega⟩;simp only[Wf];congr 1;apply List.map_congr_left;intro c hc;have:=ng hc;rw[ih k j c.1 (by omega) (by omega) (by omega),ih k j c.2.2 (by omega) (by omega) (by omega)]
 intro k xs h;exact key k k xs.length xs h h (Nat.le_refl _)
theorem pC{R:σ->σ->Bool}:W R []=1:=by simp[W,Wf]
theorem Aa{R:σ->σ->Bool}{x:σ}{xs:List σ}:W R (x::xs)=((og xs).map fun c=>if R x c.2.1 then W R c.1*W R c.2.2 else 0).sum:=by
 show Wf R (xs.length+1) (x::xs)=_;simp only[Wf];congr 1;apply List.map_congr_left;intro c hc;have:=ng hc;rw[DW (by omega),DW (by omega)]
theorem sf{α:Type}{f:α->Nat}{m:Nat}:∀{l:List α},(l.map f).sum*m=(l.map fun x=>f x*m).sum
 |[]=>by simp
 |x::l=>by simp only[List.map_cons,List.sum_cons,Nat.add_mul,sf (l:=l)]
theorem t6{α:Type}{f:α->Nat}{m:Nat}:∀{l:List α},m*(l.map f).sum=(l.map fun x=>m*f x).sum
 |[]=>by simp
 |x::l=>by simp only[List.map_cons,List.sum_cons,Nat.mul_add,t6 (l:=l)]
theorem mQ{α:Type}{f g:α->Nat}:∀{l:List α},(l.map fun x=>f x+g x).sum=(l.map f).sum+(l.map g).sum
 |[]=>by simp
 |x::l=>by simp only[List.map_cons,List.sum_cons,mQ (l:=l)];omega
theorem fE{α:Type}{f:α->Nat}:∀{l:List α},(∀x∈l,f x=0)->(l.map f).sum=0
 |[],_=>by simp
 |x::l,h=>by
  simp only[List.map_cons,List.sum_cons,h x (.head _),fE fun y hy=>h y (.tail _ hy)]
theorem dF{α:Type}{f:α->Nat}{m:Nat}:∀{l:List α},(∀x∈l,f x<=m)->(l.map f).sum<=l.length*m
 |[],_=>by simp
 |x::l,h=>by
  simp only[List.map_cons,List.sum_cons,List.length_cons,Nat.add_mul,Nat.one_mul];have:=dF (l:=l) fun y hy=>h y (.tail _ hy);have:=h x (.head _);omega
theorem sZ{xs:List σ}:(og xs).length=xs.length:=by
 induction xs with
 |nil=>rfl
 |cons x xs ih=>simp[og,ih]
theorem HW{R:σ->σ->Bool}:∀(n:Nat) (xs:List σ),xs.length<=n->n<=100->W R xs<=100 ^ xs.length:=by
 intro n
 induction n with
 |zero =>
  intro xs h _;have:xs=[]:=List.eq_nil_of_length_eq_zero (by omega);subst this;simp[pC]
 |succ n ih =>
  intro xs h hn;cases xs with
  |nil=>simp[pC]
  |cons x xs =>
   simp only[List.length_cons]at h ⊢;rw[Aa];refine Nat.le_trans (dF (m:=100 ^ xs.length) fun c hc=>?_) ?_
   ·have:=ng hc
    by_cases e:R x c.2.1=true
    ·rw[if_pos e];refine Nat.le_trans (Nat.mul_le_mul (ih c.1 (by omega) (by exact Nat.le_of_lt (by assumption))) (ih c.2.2 (by omega) (by exact Nat.le_of_lt (by assumption)))) ?_;rw[<-Nat.pow_add];exact Nat.pow_le_pow_right (by decide) (by omega)
    ·rw[if_neg e];exact Nat.zero_le _
   ·rw[sZ,Nat.pow_succ,Nat.mul_comm];exact Nat.mul_le_mul_left _ (by omega)
end
theorem om{α β:Type}{f:α->β->Nat}:∀{l:List α}{m:List β},(l.map fun a=>(m.map fun b=>f a b).sum).sum=(m.map fun b=>(l.map fun a=>f a b).sum).sum
 |[],m=>by simp[fE]
 |a::l,m=>by simp only[List.map_cons,List.sum_cons,om (l:=l),<-mQ]
theorem iK{α β:Type}{g:β->Nat}{f:α->List β}:∀{l:List α},((l.flatMap f).map g).sum=(l.map fun a=>((f a).map g).sum).sum
 |[]=>rfl
 |a::l=>by rw[List.flatMap_cons,List.map_append,List.sum_append,iK (l:=l)];rfl
theorem wq{α:Type} [DecidableEq α] {f:α->Nat}{p:α}:∀{A:List α},A.Nodup->p∈A->(A.map fun m=>if p=m then f m else 0).sum=f p
 |[],_,h=>by cases h
 |a::A,hn,h=>by
  rw[List.nodup_cons]at hn;rw[List.map_cons,List.sum_cons]
  by_cases e:p=a
  ·subst e;rw[if_pos rfl,fE fun m hm=>if_neg fun z=>hn.1 (by rw[z];exact hm)];rfl
  ·rw[if_neg e,wq hn.2 ((List.mem_cons.mp h).resolve_left e),Nat.zero_add]
theorem vF{α:Type}{f:α->Nat}:∀{B A:List α},B.Nodup->A.Nodup->(∀x∈B,x∈A)->(∀x∈A,x∉B->f x=0)->(A.map f).sum=(B.map f).sum
 |[],A,_,_,_,h=>by rw[fE fun x hx=>h x hx (by simp)];rfl
 |b::B,A,hB,hA,hs,h=>by
  obtain⟨A1,A2,rfl⟩:=List.append_of_mem (hs b (.head _));rw[List.nodup_cons]at hB;have hA2:(b::(A1++A2)).Nodup:=(List.perm_middle.nodup_iff).mp hA;rw[List.nodup_cons]at hA2;have ih:=vF (f:=f) (B:=B) (A:=A1++A2) hB.2 hA2.2 (fun x hx=>by
   have h1:=hs x (.tail _ hx);have h2:x≠b:=fun z=>hB.1 (by rw[<-z];exact hx);simp only[List.mem_append,List.mem_cons]at h1 ⊢;rcases h1 with h1|h1|h1
   ·exact .inl h1
   ·exact absurd h1 h2
   ·exact .inr h1) (fun x hx hb=>h x (by simp only[List.mem_append,List.mem_cons]at hx ⊢;rcases hx with q|q;exact .inl q;exact .inr (.inr q)) fun z=>by
    rcases List.mem_cons.mp z with q|q
    ·exact hA2.1 (by rw[<-q];exact hx)
    ·exact hb q)
  rw[List.map_append,List.map_cons,List.sum_append,List.sum_cons,List.map_cons,List.sum_cons,<-ih,List.map_append,List.sum_append];omega
section
variable{π σ:Type} [DecidableEq π]
structure Net(π σ:Type) where
 sg:π->Option σ
 nx:π->π
 bg:π->List π
noncomputable def St(N:Net π σ):Nat->π->π->List (List σ)
 |0,_,_=>[]
 |f+1,p,q=>(if p=q then[[]]else[])++match N.sg p with
  |some x=>(St N f (N.nx p) q).map (x::·)
  |none=>(N.bg p).flatMap fun b=>St N f b q
structure cJ(N:Net π σ) (A:List π) (rk:π->Nat):Prop where
 sg:∀p∈A,(N.sg p).isSome->N.nx p∈A/\rk (N.nx p)<rk p
 bg:∀p∈A,N.sg p=none->∀b∈N.bg p,b∈A/\rk b<rk p
variable{N:Net π σ}{A:List π}{rk:π->Nat}
theorem gM{α β:Type}{f g:α->List β}:∀{l:List α},(∀x∈l,f x=g x)->l.flatMap f=l.flatMap g
 |[],_=>rfl
 |x::l,h=>by rw[List.flatMap_cons,List.flatMap_cons,h x (.head _),gM fun y hy=>h y (.tail _ hy)]
theorem qC(F:cJ N A rk):∀(f g:Nat) (p q:π),p∈A->rk p<f->rk p<g->St N f p q=St N g p q
 |0,_,_,_,_,h,_=>absurd h (Nat.not_lt_zero _)
 |_,0,_,_,_,_,h=>absurd h (Nat.not_lt_zero _)
 |f+1,g+1,p,q,hp,hf,hg=>by
  unfold St;cases h:N.sg p with
  |some x =>
   obtain⟨h1,h2⟩:=F.sg p hp (by rw[h];rfl);simp only[];rw[qC F f g (N.nx p) q h1 (by omega) (by omega)]
  |none =>
   simp only[];congr 1;refine gM fun b hb=>?_;obtain⟨h1,h2⟩:=F.bg p hp h b hb;exact qC F f g b q h1 (by omega) (by omega)
def Sts(N:Net π σ) (rk:π->Nat) (p q:π):List (List σ):=St N (rk p+1) p q
theorem yD(F:cJ N A rk) {f:Nat}{p q:π}(hp:p∈A) (h:rk p<f):St N f p q=Sts N rk p q:=qC F _ _ _ _ hp h (by exact Nat.le_refl _)
theorem fj(F:cJ N A rk) {p q:π}{x:σ}(hp:p∈A) (h:N.sg p=some x):Sts N rk p q=(if p=q then[[]]else[])++(Sts N rk (N.nx p) q).map (x::·):=by
 obtain⟨h1,h2⟩:=F.sg p hp (by rw[h];rfl);unfold Sts;rw[St,h];simp only[];rw[yD F h1 h2];rfl
theorem gu(F:cJ N A rk) {p q:π}(hp:p∈A) (h:N.sg p=none):Sts N rk p q=(if p=q then[[]]else[])++(N.bg p).flatMap fun b=>Sts N rk b q:=by
 unfold Sts;rw[St,h];simp only[];congr 1;refine gM fun b hb=>?_;obtain⟨h1,h2⟩:=F.bg p hp h b hb;rw[yD F h1 h2];rfl
theorem rS(F:cJ N A rk) (hA:A.Nodup):∀(f:Nat) (p q:π) (G:List σ->σ->List σ->Nat),p∈A->rk p<f ->
  ((Sts N rk p q).map fun s=>((og s).map fun c=>G c.1 c.2.1 c.2.2).sum).sum=(A.map fun m=>match N.sg m with|none=>0|some y=>((Sts N rk p m).map fun u=>((Sts N rk (N.nx m) q).map fun v=>G u y v).sum).sum).sum
 |0,_,_,_,_,h=>absurd h (Nat.not_lt_zero _)
 |f+1,p,q,G,hp,hf=>by
  cases h:N.sg p with
  |some x =>
   obtain⟨h1,h2⟩:=F.sg p hp (by rw[h];rfl);have ih:=rS F hA f (N.nx p) q (fun u=>G (x::u)) h1 (by omega);have e1:(A.map fun m=>match N.sg m with|none=>0|some y=>((Sts N rk p m).map fun u=>((Sts N rk (N.nx m) q).map fun v=>G u y v).sum).sum)=A.map fun m=>(if p=m then((Sts N rk (N.nx p) q).map fun v=>G [] x v).sum else 0)+match N.sg m with|none=>0|some y=>((Sts N rk (N.nx p) m).map fun u=>((Sts N rk (N.nx m) q).map fun v=>G (x::u) y v).sum).sum:=by
    refine List.map_congr_left fun m hm=>?_
    by_cases e:p=m
    ·subst e;rw[if_pos rfl,h];simp only[];rw[fj F hp h,if_pos rfl,List.map_append,List.sum_append,List.map_map];simp[Function.comp_def]
    ·rw[if_neg e,Nat.zero_add];cases N.sg m with
     |none=>rfl
     |some y =>
      simp only[];rw[fj F hp h,if_neg e,List.nil_append,List.map_map];rfl
   rw[e1,mQ,wq (f:=fun _=>((Sts N rk (N.nx p) q).map fun v=>G [] x v).sum) hA hp,<-ih,fj F hp h,List.map_append,List.sum_append,List.map_map];have e2:((if p=q then[([]:List σ)]else[]).map fun s=>((og s).map fun c=>G c.1 c.2.1 c.2.2).sum).sum=0:=by
    by_cases e:p=q
    ·rw[if_pos e];rfl
    ·rw[if_neg e];rfl
   rw[e2,Nat.zero_add,<-mQ];congr 1;refine List.map_congr_left fun s _=>?_;simp[og,Function.comp_def]
  |none =>
   have e1:(A.map fun m=>match N.sg m with|none=>0|some y=>((Sts N rk p m).map fun u=>((Sts N rk (N.nx m) q).map fun v=>G u y v).sum).sum)=A.map fun m=>((N.bg p).map fun b=>match N.sg m with|none=>0|some y=>((Sts N rk b m).map fun u=>((Sts N rk (N.nx m) q).map fun v=>G u y v).sum).sum).sum:=by
    refine List.map_congr_left fun m hm=>?_;cases hm':N.sg m with
    |none=>exact(fE fun _ _=>rfl).symm
    |some y =>
     have e:p≠m:=fun z=>by rw[<-z,h]at hm';cases hm'
     simp only[];rw[gu F hp h,if_neg e,List.nil_append,iK]
   rw[e1,om,gu F hp h,List.map_append,List.sum_append];have e2:((if p=q then[([]:List σ)]else[]).map fun s=>((og s).map fun c=>G c.1 c.2.1 c.2.2).sum).sum=0:=by
    by_cases e:p=q
    ·rw[if_pos e];rfl
    ·rw[if_neg e];rfl
   rw[e2,Nat.zero_add,iK];congr 1;refine List.map_congr_left fun b hb=>?_;obtain⟨h1,h2⟩:=F.bg p hp h b hb;exact rS F hA f b q G h1 (by omega)
def cnt(R:σ->σ->Bool) (N:Net π σ) (rk:π->Nat) (p q:π):Nat:=((Sts N rk p q).map (W R)).sum
variable{R:σ->σ->Bool}
theorem yG(F:cJ N A rk) {p q:π}(hp:p∈A) (h:N.sg p=none):cnt R N rk p q=(if p=q then 1 else 0)+((N.bg p).map fun b=>cnt R N rk b q).sum:=by
 unfold cnt;rw[gu F hp h,List.map_append,List.sum_append,iK];congr 1
 by_cases e:p=q
 ·rw[if_pos e,if_pos e];simp[pC]
 ·rw[if_neg e,if_neg e];rfl
theorem Bu(F:cJ N A rk) (hA:A.Nodup) {p q:π}{x:σ}(hp:p∈A) (h:N.sg p=some x):cnt R N rk p q=(if p=q then 1 else 0)+(A.map fun m=>if(N.sg m).elim false (R x)=true then cnt R N rk (N.nx p) m*cnt R N rk (N.nx m) q else 0).sum:=by
 obtain⟨h1,h2⟩:=F.sg p hp (by rw[h];rfl);have e0:cnt R N rk p q=(if p=q then 1 else 0)+((Sts N rk (N.nx p) q).map fun s=>W R (x::s)).sum:=by
  unfold cnt;rw[fj F hp h,List.map_append,List.sum_append,List.map_map];congr 1
  by_cases e:p=q
  ·rw[if_pos e,if_pos e];simp[pC]
  ·rw[if_neg e,if_neg e];rfl
 rw[e0];congr 1;have e1:((Sts N rk (N.nx p) q).map fun s=>W R (x::s))=(Sts N rk (N.nx p) q).map fun s=>((og s).map fun c=>(fun u y v=>if R x y=true then W R u*W R v else 0) c.1 c.2.1 c.2.2).sum:=List.map_congr_left fun s _=>Aa;rw[e1,rS F hA _ (N.nx p) q (fun u y v=>if R x y=true then W R u*W R v else 0) h1 (Nat.lt_succ_self _)];congr 1;refine List.map_congr_left fun m _=>?_;cases N.sg m with
 |none=>rfl
 |some y =>
  by_cases e:R x y=true
  ·rw[if_pos (show(some y).elim false (R x)=true from e)];unfold cnt;rw[sf];show List.sum _=_;congr 1;refine List.map_congr_left fun u _=>?_;rw[t6];congr 1;exact List.map_congr_left fun v _=>by rw[if_pos e]
  ·rw[if_neg (show ¬ (some y).elim false (R x)=true from e)];exact fE fun u _=>fE fun v _=>by rw[if_neg e]
theorem uE:∀{f:Nat}{p q:π}{s:List σ},s∈St N f p q->s.length<=f
 |0,_,_,_,h=>by cases h
 |f+1,p,q,s,h=>by
  unfold St at h;rcases List.mem_append.mp h with h|h
  ·split at h
   ·rw[List.mem_singleton.mp h];exact Nat.zero_le _
   ·cases h
  ·cases hx:N.sg p with
   |some x =>
    rw[hx]at h;obtain⟨t,ht,rfl⟩:=List.mem_map.mp h;have:=uE ht;simp;assumption
   |none =>
    rw[hx]at h;obtain⟨b,hb,ht⟩:=List.mem_flatMap.mp h;have:=uE ht;exact Nat.le_succ_of_le (by assumption)
theorem uQ{k:Nat}(hb:∀p,(N.bg p).length<=k):∀{f:Nat}{p q:π},(St N f p q).length<=(k+2) ^ f
 |0,_,_=>by simp[St]
 |f+1,p,q=>by
  unfold St;rw[List.length_append];have h1:(if p=q then[([]:List σ)]else[]).length<=1:=by split<;>simp
  have hp:1<=(k+2) ^ f:=Nat.one_le_pow _ _ (by omega);have h3:(k+2) ^ (f+1)=(k+1)*(k+2) ^ f+(k+2) ^ f:=by rw[Nat.pow_succ,Nat.mul_comm,Nat.succ_mul]
  cases hx:N.sg p with
  |some x =>
   simp only[];rw[List.length_map];have:=uQ hb (f:=f) (p:=N.nx p) (q:=q);have h4:(k+2) ^ f<=(k+1)*(k+2) ^ f:=Nat.le_mul_of_pos_left _ (by omega);omega
  |none =>
   simp only[];rw[List.length_flatMap];have h5:=dF (f:=fun b=>(St N f b q).length) (m:=(k+2) ^ f) (l:=N.bg p) fun b _=>uQ hb;have h6:=Nat.mul_le_mul_right ((k+2) ^ f) (hb p);rw[Nat.succ_mul]at h3;omega
theorem wg{k f:Nat}(hb:∀p,(N.bg p).length<=k) {p q:π}(hr:rk p<f) (hf:f<=100):cnt R N rk p q<=(k+2) ^ f*100 ^ f:=by
 unfold cnt;refine Nat.le_trans (dF (m:=100 ^ f) fun s hs=>?_) ?_
 ·have h1:=uE hs;exact Nat.le_trans (HW 100 s (by omega) (Nat.le_refl _)) (Nat.pow_le_pow_right (by decide) (by exact Nat.le_trans (by assumption) (by assumption)))
 ·exact Nat.mul_le_mul_right _ (Nat.le_trans (uQ hb) (Nat.pow_le_pow_right (by omega) (by assumption)))
end
theorem iR{α:Type}{f:α->Nat}:∀{l:List α},(l.map fun x=>((f x:Nat):Int)).sum=(((l.map f).sum:Nat):Int)
 |[]=>rfl
 |x::l=>by simp only[List.map_cons,List.sum_cons,iR (l:=l),Int.natCast_add]
def rel(ord:List (Str×Str)) (x y:Str×Int):Bool:=x.2+1==y.2&&lB ord x.2 x.1 y.1
def bx(kd:KD):Net Pl (Str×Int):=⟨bB kd,nxt,bo kd⟩
structure gb(kd:KD) (N:Int) (K B:Nat):Prop where
 up:kd.Pairwise fun a b=>a.1<b.1
 bd:∀q∈kd,-1<=q.1/\q.1<=N/\q.2.length<=K/\∀r∈q.2,r.length<=B
noncomputable def cO(N:Int) (B:Nat) (p:Pl):Nat:=((N+1-p.1)*((B:Int)+1)-p.2.2).toNat
def plt(p q:Pl):Prop:=p.1<q.1∨(p.1=q.1/\(p.2.1<q.2.1∨(p.2.1=q.2.1/\p.2.2<q.2.2)))
theorem jo{p q r:Pl}(h:plt p q) (h':plt q r):plt p r:=by unfold plt at *;omega
theorem qK{p:Pl}(h:plt p p):False:=by unfold plt at h;omega
theorem gS{p:Pl}:plt p (nxt p):=by unfold plt nxt;dsimp only;omega
theorem aX{kd:KD}{p:Pl}:p∈af kd↔∃q∈kd,∃(i:Nat) (row:Row) (j:Nat),q.2[i]?=some row/\j<=row.length/\p=(q.1,(i:Int),(j:Int)):=by
 unfold af gT hJ;simp only[List.mem_flatMap,List.mem_map,List.mem_range];constructor
 ·rintro⟨q,hq,r,hr,j,hj,rfl⟩;have h:=List.mem_zipIdx_iff_getElem?.mp hr;exact⟨q,hq,r.2,r.1,j,h,by omega,rfl⟩
 ·rintro⟨q,hq,i,row,j,hr,hj,rfl⟩;exact⟨q,hq,(row,i),List.mem_zipIdx_iff_getElem?.mpr hr,j,Nat.lt_succ_of_le hj,rfl⟩
theorem qW{n:Nat}(h:n<=(2 ^ 4) ^ 100*(2 ^ 7) ^ 100):Few (n:Int):=by
 unfold Few;rw[intBits_le_iff,Int.natAbs_natCast];refine Nat.lt_of_le_of_lt h ?_;rw[<-Nat.pow_mul,<-Nat.pow_mul,<-Nat.pow_add];exact Nat.pow_lt_pow_right (by decide) (by decide)
section
variable{kd:KD}{N:Int}{K B:Nat}
theorem jf(h:kd.Pairwise fun a b=>a.1<b.1) {q:Int×List Row}(hq:q∈kd):look kd q.1=some q.2:=by
 unfold look
 induction kd with
 |nil=>cases hq
 |cons a l ih =>
  rw[List.pairwise_cons]at h;rcases List.mem_cons.mp hq with e|e
  ·rw[e,List.find?_cons_of_pos (by simp)];rfl
  ·have:=h.1 q e;rw[List.find?_cons_of_neg (by simp;omega)];exact ih h.2 e
theorem gb.sgn(ok:gb kd N K B) {q:Int×List Row}(hq:q∈kd) {i j:Nat}{row:Row}(hr:q.2[i]?=some row):bB kd (q.1,(i:Int),(j:Int))=row[j]? :=
 nQ rfl (jf ok.up hq) hr
theorem gb.valid(ok:gb kd N K B) {p:Pl}(hp:p∈af kd):o7 kd p:=by
 obtain⟨q,hq,i,row,j,hr,hj,rfl⟩:=aX.mp hp;exact⟨q.2,row,i,j,rfl,jf ok.up hq,hr⟩
theorem jU{p b:Pl}(h:b∈bo kd p):∃rows,(p.1+1,rows)∈kd/\∃(k:Nat) (row:Row),rows[k]?=some row/\b=(p.1+1,(k:Int),0):=by
 unfold bo at h;obtain⟨k,hk,rfl⟩:=List.mem_map.mp h;cases hl:look kd (p.1+1)with
 |none=>rw[hl]at hk;simp at hk
 |some rows =>
  rw[hl]at hk;have hk':k<rows.length:=by simpa using hk
  exact⟨rows,kj hl,k,rows[k],by simp[hk'],rfl⟩
theorem gb.falls(ok:gb kd N K B):cJ (bx kd) (af kd) (cO N B) where
 sg:=by
  intro p hp hs;obtain⟨q,hq,i,row,j,hr,hj,rfl⟩:=aX.mp hp;have hs':(row[j]?).isSome:=by rw[<-ok.sgn hq hr];exact hs
  have hj':j<row.length:=by simpa using hs'
  refine⟨aX.mpr ⟨q,hq,i,row,j+1,hr,hj',rfl⟩,?_⟩;obtain⟨_,h1,_,h2⟩:=ok.bd q hq;have h3:=h2 row (List.mem_of_getElem? hr);show((N+1-q.1)*((B:Int)+1)-((j:Int)+1)).toNat<((N+1-q.1)*((B:Int)+1)-(j:Int)).toNat;have h4:(1:Int)*((B:Int)+1)<=(N+1-q.1)*((B:Int)+1):=Int.mul_le_mul_of_nonneg_right (by omega) (by omega);omega
 bg:=by
  intro p hp hs b hb;obtain⟨q,hq,i,row,j,hr,hj,rfl⟩:=aX.mp hp;obtain⟨rows,hm,k,row',hk,rfl⟩:=jU hb;refine⟨aX.mpr ⟨_,hm,k,row',0,hk,Nat.zero_le _,rfl⟩,?_⟩;obtain⟨_,_,_,h2⟩:=ok.bd q hq;obtain⟨_,h1,_,_⟩:=ok.bd _ hm;have h3:=h2 row (List.mem_of_getElem? hr);show((N+1-(q.1+1))*((B:Int)+1)-0).toNat<((N+1-q.1)*((B:Int)+1)-(j:Int)).toNat;have h5:(N+1-q.1)*((B:Int)+1)=(N+1-(q.1+1))*((B:Int)+1)+((B:Int)+1):=by
   rw[show N+1-q.1=(N+1-(q.1+1))+1 by omega,Int.add_mul,Int.one_mul]
  have h6:0<=(N+1-(q.1+1))*((B:Int)+1):=Int.mul_nonneg (by simp only[]at h1;omega) (by omega);omega
theorem gb.bgl(ok:gb kd N K B) (p:Pl):((bx kd).bg p).length<=K:=by
 show(bo kd p).length<=K;unfold bo;rw[List.length_map,List.length_range];cases h:look kd (p.1+1)with
 |none=>exact Nat.zero_le _
 |some rows=>exact(ok.bd _ (kj h)).2.2.1
theorem gb.rk(ok:gb kd N K B) {p:Pl}(hp:p∈af kd):(cO N B p:Int)<=(N+2)*((B:Int)+1):=by
 obtain⟨q,hq,i,row,j,hr,hj,rfl⟩:=aX.mp hp;obtain⟨h0,h1,_,h2⟩:=ok.bd q hq;have h4:(N+1-q.1)*((B:Int)+1)<=(N+2)*((B:Int)+1):=Int.mul_le_mul_of_nonneg_right (by omega) (by omega);have h6:0<=(N+1-q.1)*((B:Int)+1):=Int.mul_nonneg (by omega) (by omega);show((((N+1-q.1)*((B:Int)+1)-(j:Int)).toNat:Nat):Int)<=_;omega
theorem jk(h:kd.Pairwise fun a b=>a.1<b.1):(af kd).Pairwise plt:=by
 unfold af;rw[List.pairwise_flatMap];constructor
 ·intro q _;unfold gT;rw[List.pairwise_flatMap];constructor
  ·intro r _;unfold hJ;rw[List.pairwise_map];refine List.Pairwise.imp ?_ List.pairwise_lt_range;intro a b hab;unfold plt;dsimp only;omega
  ·rw[List.pairwise_iff_getElem];intro a b ha hb hab x hx y hy;unfold hJ at hx hy;obtain⟨j,_,rfl⟩:=List.mem_map.mp hx;obtain⟨k,_,rfl⟩:=List.mem_map.mp hy;simp only[List.getElem_zipIdx];unfold plt;dsimp only;omega
 ·refine List.Pairwise.imp ?_ h;intro a b hab x hx y hy;unfold gT hJ at hx hy;simp only[List.mem_flatMap,List.mem_map]at hx hy;obtain⟨_,_,_,_,rfl⟩:=hx;obtain⟨_,_,_,_,rfl⟩:=hy;exact .inl hab
theorem qM(h:kd.Pairwise fun a b=>a.1<b.1):(af kd).Nodup :=
 List.Pairwise.imp (fun {a b} (hab:plt a b)=>fun e=>qK (by rw[e]at hab;exact hab)) (jk h)
theorem jT{l:List Pl}(h:l.Pairwise plt) {i:Nat}{p q:Pl}(hi:l.reverse[i]?=some p) (hq:q∈l) (hpq:plt p q):q∈l.reverse.take i:=by
 have hr:l.reverse.Pairwise fun a b=>plt b a:=List.pairwise_reverse.mpr h;obtain⟨hl,e⟩:=List.getElem?_eq_some_iff.mp hi;rw[<-List.mem_reverse,<-List.take_append_drop i l.reverse,List.mem_append]at hq;rcases hq with hq|hq
 ·exact hq
 ·rw[List.drop_eq_getElem_cons hl]at hq;rcases List.mem_cons.mp hq with c|c
  ·rw[e]at c;rw[c]at hpq;exact(qK hpq).elim
  ·have h2:=hr.sublist (List.drop_sublist i _);rw[List.drop_eq_getElem_cons hl,List.pairwise_cons,e]at h2;exact(qK (jo hpq (h2.1 q c))).elim
theorem qP{α:Type}{p m:Pl}{v:α}:∀{l:List (Pl×α)},lkP (fM l p v) m=if p=m then some v else lkP l m:=by
 intro l;have key:∀l:List (Pl×α),lkP (l.map fun z=>if z.1=p then(z.1,v)else z) m=if p=m then(lkP l m).map fun _=>v else lkP l m:=by
  intro l
  induction l with
  |nil=>simp[lkP]
  |cons z l ih =>
   unfold lkP at ih ⊢;rw[List.map_cons]
   by_cases h1:z.1=p
   ·rw[if_pos h1]
    by_cases h2:p=m
    ·rw[if_pos h2,List.find?_cons_of_pos (by simp[h1,h2]),List.find?_cons_of_pos (by simp[h1,h2])];rfl
    ·rw[List.find?_cons_of_neg (by simp[h1,h2]),List.find?_cons_of_neg (by simp[h1,h2]),ih]
   ·rw[if_neg h1]
    by_cases h2:z.1=m
    ·rw[List.find?_cons_of_pos (by simp[h2]),List.find?_cons_of_pos (by simp[h2])];rw[if_neg (fun e=>h1 (by rw[h2,e]))]
    ·rw[List.find?_cons_of_neg (by simp[h2]),List.find?_cons_of_neg (by simp[h2]),ih]
 have find:∀l:List (Pl×α),(l.any fun z=>decide (z.1=p))=(lkP l p).isSome:=by
  intro l
  induction l with
  |nil=>rfl
  |cons z l ih =>
   unfold lkP at ih ⊢;rw[List.any_cons,ih]
   by_cases h:z.1=p
   ·rw[List.find?_cons_of_pos (by simp[h])];simp[h]
   ·rw[List.find?_cons_of_neg (by simp[h])];simp[h]
 unfold fM;rw[find]
 split
 ·rename_i h;rw[key]
  by_cases e:p=m
  ·subst e;obtain⟨u,hu⟩:=Option.isSome_iff_exists.mp h;rw[if_pos rfl,if_pos rfl,hu];rfl
  ·rw[if_neg e,if_neg e]
 ·rename_i h;have h':lkP l p=none:=by simpa using h
  unfold lkP at h' ⊢;rw[List.find?_append]
  by_cases e:p=m
  ·subst e;rw[if_pos rfl,Option.map_eq_none_iff.mp h'];simp
  ·rw[if_neg e];cases List.find? (fun z=>decide (z.1=m)) l with
   |some u=>rfl
   |none=>simp[e]
theorem t7{α:Type}{p:Pl}{v:α}{l:List (Pl×α)}:(fM l p v).map (·.1)=if p∈l.map (·.1)then l.map (·.1)else l.map (·.1)++[p]:=by
 have h:(l.any fun z=>decide (z.1=p))=true↔p∈l.map (·.1):=by
  rw[List.any_eq_true,List.mem_map];simp only[decide_eq_true_eq]
 unfold fM
 by_cases c:(l.any fun z=>decide (z.1=p))=true
 ·rw[if_pos c,if_pos (h.mp c),List.map_map];refine List.map_congr_left fun z _=>?_;simp only[Function.comp_def]
  split<;>rfl
 ·rw[if_neg c,if_neg (fun z=>c (h.mpr z)),List.map_append];rfl
theorem yn{α:Type}{p:Pl}{v:α}{l:List (Pl×α)}(h:(l.map (·.1)).Nodup):((fM l p v).map (·.1)).Nodup:=by
 rw[t7]
 split
 ·exact h
 ·rename_i c;rw[List.nodup_append];exact⟨h,by simp,fun a ha b hb e=>c (by rw[List.mem_singleton.mp hb]at e;rw[<-e];exact ha)⟩
theorem kM{α:Type}{p m:Pl}{v:α}{l:List (Pl×α)}(h:m∈(fM l p v).map (·.1)):m=p∨m∈l.map (·.1):=by
 rw[t7]at h
 split at h
 ·exact .inr h
 ·rcases List.mem_append.mp h with h|h
  ·exact .inr h
  ·exact .inl (List.mem_singleton.mp h)
theorem BQ{l:List (Pl×Int)}{e m:Pl}{v:Int}:(lkP (zl l e v) m).getD 0=(lkP l m).getD 0+if e=m then v else 0:=by
 show(lkP (fM l e ((lkP l e).getD 0+v)) m).getD 0=_;rw[qP]
 by_cases c:e=m
 ·rw[if_pos c,if_pos c,c];rfl
 ·rw[if_neg c,if_neg c,Int.add_zero]
theorem kF{α:Type}{m:Pl}:∀{l:List (Pl×α)},m∉l.map (·.1)->lkP l m=none
 |[],_=>rfl
 |z::l,h=>by
  unfold lkP;rw[List.find?_cons_of_neg (by simp;exact fun e=>h (by rw[<-e];exact .head _))];exact kF fun q=>h (.tail _ q)
theorem kK{α:Type}{m:Pl}{z:Pl×α}{l:List (Pl×α)}:lkP (z::l) m=if z.1=m then some z.2 else lkP l m:=by
 unfold lkP
 by_cases h:z.1=m
 ·rw[if_pos h,List.find?_cons_of_pos (by simp[h])];rfl
 ·rw[if_neg h,List.find?_cons_of_neg (by simp[h])]
theorem nJ{i:Int}{m:Pl}:∀{more l:List (Pl×Int)},(more.map (·.1)).Nodup->(lkP (eG i l more) m).getD 0=(lkP l m).getD 0+i*(lkP more m).getD 0
 |[],l,_=>by show _=_+i*0;rw[Int.mul_zero,Int.add_zero];rfl
 |z::more,l,h=>by
  rw[List.map_cons,List.nodup_cons]at h;show(lkP (eG i (zl l z.1 (i*z.2)) more) m).getD 0=_;rw[nJ h.2,BQ,kK]
  by_cases c:z.1=m
  ·rw[if_pos c,if_pos c,kF (l:=more) (by rw[<-c];exact h.1)];show _+i*0=_+i*z.2;rw[Int.mul_zero,Int.add_zero]
  ·rw[if_neg c,if_neg c,Int.add_zero]
theorem lZ{i:Int}{Ok:Pl->Prop}:∀{more l:List (Pl×Int)},(∀z∈more,Ok z.1)->(l.map (·.1)).Nodup/\(∀z∈l,Ok z.1)->((eG i l more).map (·.1)).Nodup/\∀z∈eG i l more,Ok z.1
 |[],l,_,h=>h
 |z::more,l,hm,h=>by
  show((eG i (zl l z.1 (i*z.2)) more).map (·.1)).Nodup/\_;refine lZ (fun y hy=>hm y (.tail _ hy)) ⟨yn h.1,fun y hy=>?_⟩;rcases kM (List.mem_map.mpr ⟨y,hy,rfl⟩)with e|e
  ·rw[e];exact hm z (.head _)
  ·obtain⟨u,hu,e⟩:=List.mem_map.mp e;have:=h.2 u hu;rw[<-e];exact this
def jF(ord:List (Str×Str)) (kd:KD) (N:Int) (B:Nat) (p:Pl) (l:List (Pl×Int)):Prop :=
 (l.map (·.1)).Nodup/\(∀z∈l,z.1∈af kd/\(z.1=p∨plt p z.1))/\∀m,(lkP l m).getD 0=(cnt (rel ord) (bx kd) (cO N B) p m:Int)
theorem lC{ord:List (Str×Str)}{p:Pl}{Ok:Pl->Prop}{cn:List (Pl×List (Pl×Int))}{g:Pl->Pl->Nat}(m:Pl):∀{ss:List bu}{a:List (Pl×Int)},
  (∀s∈ss,∃l,lkP cn s.2.1=some l/\(l.map (·.1)).Nodup/\(∀z∈l,Ok z.1)/\(lkP l m).getD 0=(g s.2.1 m:Int))->(a.map (·.1)).Nodup/\(∀z∈a,Ok z.1) ->
  let r:=ss.foldl (fun a s=>eG s.2.2 a ((lkP cn s.2.1).getD [])) a
  ((r.map (·.1)).Nodup/\∀z∈r,Ok z.1)/\(lkP r m).getD 0=(lkP a m).getD 0+(ss.map fun s=>s.2.2*(g s.2.1 m:Int)).sum
 |[],a,_,h=>⟨h,by simp⟩
 |s::ss,a,hs,h=>by
  obtain⟨l,h1,h2,h3,h4⟩:=hs s (.head _);simp only[List.foldl_cons,List.map_cons,List.sum_cons];have hk:=lZ (i:=s.2.2) (Ok:=Ok) (more:=l) h3 h;have e:(lkP cn s.2.1).getD []=l:=by rw[h1];rfl
  rw[e];obtain⟨q1,q2⟩:=lC (ord:=ord) (p:=p) (Ok:=Ok) (g:=g) m (a:=eG s.2.2 a l) (fun t ht=>hs t (.tail _ ht)) hk;refine⟨q1,?_⟩;rw[q2,nJ h2,h4,Int.add_assoc]
theorem mR{α:Type}:∀{l:List (Pl×α)}{z:Pl×α},(l.map (·.1)).Nodup->z∈l->lkP l z.1=some z.2
 |y::l,z,hn,h=>by
  rw[List.map_cons,List.nodup_cons]at hn;rw[kK];rcases List.mem_cons.mp h with e|e
  ·rw[e,if_pos rfl]
  ·rw[if_neg fun c=>hn.1 (by rw[c];exact List.mem_map.mpr ⟨z,e,rfl⟩)];exact mR hn.2 e
theorem mP(ok:gb kd N K B) {ord:List (Str×Str)}{cn:List (Pl×List (Pl×Int))}{p:Pl}(hp:p∈af kd) (hcn:∀q∈af kd,plt p q->∃l,lkP cn q=some l/\jF ord kd N B q l) :
  let ss:=aO ord kd p ((lkP cn (nxt p)).getD [])
  (∀s∈ss,s.2.1∈af kd/\plt p s.2.1/\(s.2.2=1∨∃m,s.2.2=(cnt (rel ord) (bx kd) (cO N B) (nxt p) m:Int)/\nxt p∈af kd))/\ss.length<=K+(af kd).length/\jF ord kd N B p (bK p ss cn):=by
 have F:=ok.falls;have hnd:=qM ok.up;intro ss;have main:(∀s∈ss,s.2.1∈af kd/\plt p s.2.1/\(s.2.2=1∨∃m,s.2.2=(cnt (rel ord) (bx kd) (cO N B) (nxt p) m:Int)/\nxt p∈af kd))/\ss.length<=K+(af kd).length /\
   ∀m,(if p=m then(1:Int)else 0)+(ss.map fun s=>s.2.2*(cnt (rel ord) (bx kd) (cO N B) s.2.1 m:Int)).sum=(cnt (rel ord) (bx kd) (cO N B) p m:Int):=by
  cases hx:bB kd p with
  |none =>
   have e:ss=(bo kd p).map fun b=>(none,b,1):=by
    show aO _ _ _ _=_;unfold aO;rw[hx]
   rw[e];refine⟨fun s hs=>?_,?_,fun m=>?_⟩
   ·obtain⟨b,hb,rfl⟩:=List.mem_map.mp hs;obtain⟨h1,_⟩:=F.bg p hp hx b hb;refine⟨h1,?_,.inl rfl⟩;obtain⟨rows,_,k,row,_,rfl⟩:=jU hb;exact .inl (by show p.1<p.1+1;omega)
   ·rw[List.length_map];have:=ok.bgl p;show(bo kd p).length<=_;exact Nat.le_trans this (by omega)
   ·rw[yG F hp hx,List.map_map,Int.natCast_add,<-iR];congr 1
    ·by_cases c:p=m
     ·rw[if_pos c,if_pos c];rfl
     ·rw[if_neg c,if_neg c];rfl
    ·show _=((bo kd p).map _).sum;congr 1;refine List.map_congr_left fun b _=>?_;show(1:Int)*_=_;rw[Int.one_mul]
  |some x =>
   obtain⟨hn,hrk⟩:=F.sg p hp (by show(bB kd p).isSome=true;rw[hx];rfl);obtain⟨l0,hl0,k1,k2,k3⟩:=hcn (nxt p) hn gS;have e:ss=(l0.filter fun z=>eB ord x (bB kd z.1)).map fun z=>(some z.1,nxt z.1,z.2):=by
    show aO _ _ _ _=_;unfold aO;rw[hx,hl0];rfl
   have hz2:∀z∈l0,z.2=(cnt (rel ord) (bx kd) (cO N B) (nxt p) z.1:Int):=fun z hz=>by
    rw[<-k3 z.1,mR k1 hz];rfl
   rw[e];refine⟨fun s hs=>?_,?_,fun m=>?_⟩
   ·obtain⟨z,hz,rfl⟩:=List.mem_map.mp hs;obtain⟨hz1,hj⟩:=List.mem_filter.mp hz;obtain⟨hzA,hzp⟩:=k2 z hz1;have hsome:(bB kd z.1).isSome:=by
     cases h:bB kd z.1 with
     |none=>rw[h]at hj;cases hj
     |some _=>rfl
    obtain⟨h1,_⟩:=F.sg z.1 hzA hsome;refine⟨h1,?_,.inr ⟨z.1,hz2 z hz1,hn⟩⟩;have h2:plt p z.1:=by
     rcases hzp with h|h
     ·rw[h];exact gS
     ·exact jo gS h
    exact jo h2 gS
   ·rw[List.length_map];refine Nat.le_trans (List.length_filter_le _ _) ?_;have:=cU (l0.map (·.1)) (af kd) k1 fun y hy=>by
     obtain⟨z,hz,rfl⟩:=List.mem_map.mp hy;exact(k2 z hz).1
    rw[List.length_map]at this;omega
   ·rw[Bu F hnd hp hx,List.map_map,Int.natCast_add];congr 1
    ·by_cases c:p=m
     ·rw[if_pos c,if_pos c];rfl
     ·rw[if_neg c,if_neg c];rfl
    ·rw[vF (B:=l0.map (·.1)) k1 hnd (fun y hy=>by
      obtain⟨z,hz,rfl⟩:=List.mem_map.mp hy;exact(k2 z hz).1) (fun y _ hy=>by
      have h0:cnt (rel ord) (bx kd) (cO N B) ((bx kd).nx p) y=0:=by
       have:=k3 y;rw[kF hy]at this;exact(Int.ofNat.inj this).symm
      rw[h0,Nat.zero_mul,ite_self]),List.map_map,<-iR]
     have e2:(l0.map fun z=>(((fun m'=>if((bx kd).sg m').elim false (rel ord x)=true then cnt (rel ord) (bx kd) (cO N B) ((bx kd).nx p) m'*cnt (rel ord) (bx kd) (cO N B) ((bx kd).nx m') m else 0)∘fun z:Pl×Int=>z.1) z:Int))=l0.map fun z=>if eB ord x (bB kd z.1)=true then z.2*(cnt (rel ord) (bx kd) (cO N B) (nxt z.1) m:Int)else 0:=by
      refine List.map_congr_left fun z hz=>?_;simp only[Function.comp_def]
      by_cases c:eB ord x (bB kd z.1)=true
      ·rw[if_pos c,if_pos (show((bx kd).sg z.1).elim false (rel ord x)=true from c),Int.natCast_mul,hz2 z hz];rfl
      ·rw[if_neg c,if_neg (show ¬ ((bx kd).sg z.1).elim false (rel ord x)=true from c)];rfl
     rw[e2];clear e2 e hz2 k3 k2 k1 hl0
     induction l0 with
     |nil=>rfl
     |cons z l ih =>
      cases c:eB ord x (bB kd z.1)with
      |true=>rw[List.filter_cons_of_pos (p:=fun z:Pl×Int=>eB ord x (bB kd z.1)) c,List.map_cons,List.sum_cons,List.map_cons,List.sum_cons,if_pos c,ih];rfl
      |false=>rw[List.filter_cons_of_neg (p:=fun z:Pl×Int=>eB ord x (bB kd z.1)) (by rw[c];simp),List.map_cons,List.sum_cons,ih,if_neg (by rw[c];simp),Int.zero_add]
 obtain⟨m1,m2,m3⟩:=main;refine⟨m1,m2,?_⟩;have ini:(([(p,1)]:List (Pl×Int)).map (·.1)).Nodup/\∀z∈[(p,(1:Int))],z.1∈af kd/\(z.1=p∨plt p z.1):=⟨by simp,fun z hz=>by rw[List.mem_singleton.mp hz];exact⟨hp,.inl rfl⟩⟩;have hc:=fun m=>lC (ord:=ord) (p:=p) (Ok:=fun q=>q∈af kd/\(q=p∨plt p q)) (cn:=cn) (g:=cnt (rel ord) (bx kd) (cO N B)) m (ss:=ss) (a:=[(p,1)]) (fun s hs=>by
  obtain⟨h1,h2,_⟩:=m1 s hs;obtain⟨l,k0,k1,k2,k3⟩:=hcn _ h1 h2;refine⟨l,k0,k1,fun z hz=>⟨(k2 z hz).1,.inr ?_⟩,k3 m⟩;rcases(k2 z hz).2 with e|e
  ·rw[e];exact h2
  ·exact jo h2 e) ini
 refine⟨(hc p).1.1,(hc p).1.2,fun m=>?_⟩;rw[<-m3 m];refine(hc m).2.trans ?_;congr 1;rw[kK]
 by_cases c:p=m
 ·rw[if_pos c,if_pos c];rfl
 ·rw[if_neg c,if_neg c];rfl
theorem vj(ok:gb kd N K B) {ord:List (Str×Str)}:∀(i:Nat),i<=(af kd).length->∀q∈(af kd).reverse.take i,∃l,lkP (bF ord kd ((af kd).reverse.take i)).2 q=some l/\jF ord kd N B q l
 |0,_,q,h=>by rw[List.take_zero]at h;cases h
 |i+1,hi,q,h=>by
  have hl:i<(af kd).reverse.length:=by rw[List.length_reverse];assumption
  have hg:(af kd).reverse[i]?=some (af kd).reverse[i]:=List.getElem?_eq_getElem hl;generalize (af kd).reverse[i]=p at hg;have hp:p∈af kd:=List.mem_reverse.mp (List.mem_of_getElem? hg);have ih:=vj ok (ord:=ord) i (by exact Nat.le_of_lt (by assumption));have hs:=mP ok (ord:=ord) (cn:=(bF ord kd ((af kd).reverse.take i)).2) hp fun q hq hpq=>ih q (jT (jk ok.up) hg hq hpq);have e:bF ord kd ((af kd).reverse.take (i+1))=gU ord kd (bF ord kd ((af kd).reverse.take i)) p:=by
   rw[List.take_add_one,hg];unfold bF;rw[List.foldl_append];rfl
  rw[e];have e2:(gU ord kd (bF ord kd ((af kd).reverse.take i)) p).2=fM (bF ord kd ((af kd).reverse.take i)).2 p (bK p (aO ord kd p ((lkP (bF ord kd ((af kd).reverse.take i)).2 (nxt p)).getD [])) (bF ord kd ((af kd).reverse.take i)).2):=rfl;rw[e2,qP]
  by_cases c:p=q
  ·rw[if_pos c];subst c;exact⟨_,rfl,hs.2.2⟩
  ·rw[if_neg c];refine ih q ?_;rw[List.take_add_one,hg]at h;rcases List.mem_append.mp h with h|h
   ·exact h
   ·exact absurd (by simpa using h:q=p).symm c
theorem tD{ord:List (Str×Str)}{m:Pl}:∀(ps:List Pl) (S:ChS),m∈(ps.foldl (gU ord kd) S).2.map (·.1)->m∈ps∨m∈S.2.map (·.1)
 |[],S,h=>.inr h
 |p::ps,S,h=>by
  rcases tD ps (gU ord kd S p) h with h|h
  ·exact .inl (.tail _ h)
  ·rcases kM h with e|e
   ·rw[e];exact .inl (.head _)
   ·exact .inr e
theorem nF(ok:gb kd N K B):(af kd).length<=kd.length*(K*(B+1)):=by
 unfold af;rw[List.length_flatMap];refine dF fun q hq=>?_;obtain⟨_,_,h1,h2⟩:=ok.bd q hq;unfold gT;rw[List.length_flatMap];refine Nat.le_trans (dF (m:=B+1) fun r hr=>?_) ?_
 ·unfold hJ;rw[List.length_map,List.length_range];have:=h2 r.1 (List.fst_mem_of_mem_zipIdx hr);omega
 ·rw[List.length_zipIdx];exact Nat.mul_le_mul_right _ h1
theorem wM(ok:gb kd N K B) (hK:K<=8) (hR:(N+2)*((B:Int)+1)<100) {ord:List (Str×Str)}{p m:Pl}(hp:p∈af kd):Few (cnt (rel ord) (bx kd) (cO N B) p m:Int):=by
 have h1:=ok.rk hp;have h2:=wg (R:=rel ord) (rk:=cO N B) (k:=K) (f:=100) ok.bgl (p:=p) (q:=m) (by omega) (Nat.le_refl _);refine qW (Nat.le_trans h2 (Nat.mul_le_mul (Nat.pow_le_pow_left (show K+2<=2 ^ 4 by omega) _) (Nat.pow_le_pow_left (show 100<=2 ^ 7 by decide) _)))
theorem tq(ok:gb kd N K B) (hK:K<=8) (hR:(N+2)*((B:Int)+1)<100) (hl:kd.length*(K*(B+1))<=900) {ord:List (Str×Str)}(ho:ord.length<=500) {rows:List Row}(hN:(N,rows)∈kd) :
  yf ord kd N/\∀p∈af kd,∃l,lkP (bF ord kd (af kd).reverse).2 p=some l/\jF ord kd N B p l:=by
 have hA:(af kd).length<=900:=Nat.le_trans (nF ok) hl;have hr:=vj ok (ord:=ord);refine⟨⟨ho,fun q hq=>Nat.le_trans (ok.bd q hq).2.2.1 (by exact Nat.le_trans (by assumption) (by decide)),?_,by exact Nat.le_trans (by assumption) (by decide),fun i p hi=>?_⟩,fun p hp=>?_⟩
 ·have hk:N∈kd.map (·.1):=List.mem_map.mpr ⟨_,hN,rfl⟩;cases hm:kd.map (·.1)with
  |nil=>rw[hm]at hk;cases hk
  |cons a l =>
   obtain⟨h1,h2⟩:=lw l a;show some _=_;congr 1;rw[<-hm]at h1 h2;have h3:=h1 N hk;obtain⟨q,hq,e⟩:=List.mem_map.mp h2;have h4:=(ok.bd q hq).2.1;omega
 ·have hil:i<(af kd).length:=by
   have:=(List.getElem?_eq_some_iff.mp hi).1
   rwa [List.length_reverse]at this
  have hp:p∈af kd:=List.mem_reverse.mp (List.mem_of_getElem? hi);have hcn:∀q∈af kd,plt p q->∃l,lkP (bF ord kd ((af kd).reverse.take i)).2 q=some l/\jF ord kd N B q l:=fun q hq hpq=>hr i (by exact Nat.le_of_lt (by assumption)) q (jT (jk ok.up) hi hq hpq);have bp:∀{q:Pl} {l:List (Pl×Int)},jF ord kd N B q l->l.length<=900:=fun {q l} h=>by
   have:=cU (l.map (·.1)) (af kd) h.1 fun y hy=>by
    obtain⟨z,hz,rfl⟩:=List.mem_map.mp hy;exact(h.2.1 z hz).1
   rw[List.length_map]at this;exact Nat.le_trans (by assumption) (by assumption)
  obtain⟨s1,s2,s3⟩:=mP ok hp hcn;have hopt:(lkP (bF ord kd ((af kd).reverse.take i)).2 (nxt p)).getD []=[]∨∃l,lkP (bF ord kd ((af kd).reverse.take i)).2 (nxt p)=some l/\jF ord kd N B (nxt p) l:=by
   by_cases c:nxt p∈af kd
   ·exact .inr (hcn _ c gS)
   ·left;rw[kF fun z=>c ?_];rfl;rcases tD _ _ z with h|h
    ·exact List.mem_reverse.mp (List.mem_of_mem_take h)
    ·cases h
  refine⟨ok.valid hp,fun hs=>?_,fun z hz=>?_,?_,by omega,fun s hs=>?_⟩
  ·obtain⟨h1,_⟩:=ok.falls.sg p hp hs;obtain⟨l,e,_⟩:=hcn (nxt p) h1 gS;show(lkP _ (nxt p)).isSome=true;rw[e];rfl
  ·rcases hopt with e|⟨l,e,h⟩
   ·rw[e]at hz;cases hz
   ·rw[e]at hz;exact ok.valid (h.2.1 z hz).1
  ·rcases hopt with e|⟨l,e,h⟩
   ·rw[e];exact Nat.zero_le _
   ·rw[e];have:=bp h;show l.length<=_;exact Nat.le_trans (by assumption) (by decide)
  ·obtain⟨h1,h2,h3⟩:=s1 s hs;obtain⟨l,e,h⟩:=hcn _ h1 h2;refine⟨l,e,by have:=bp h;exact Nat.le_trans (by assumption) (by decide),fun z hz=>?_⟩;have hz2:Few z.2:=by
    have:z.2=(cnt (rel ord) (bx kd) (cO N B) s.2.1 z.1:Int):=by rw[<-h.2.2 z.1,mR h.1 hz];rfl
    rw[this];exact wM ok hK hR h1
   have hs2:Few s.2.2:=by
    rcases h3 with h3|⟨m,h3,hn⟩
    ·rw[h3];exact FP (by decide) (by decide)
    ·rw[h3];exact wM ok hK hR hn
   rw[G2 ⟨hs2,hz2⟩];trivial
 ·have:=hr _ (Nat.le_refl _) p (by rw[List.take_of_length_le (by rw[List.length_reverse];exact Nat.le_refl _)];exact List.mem_reverse.mpr hp)
  rwa [List.take_of_length_le (by rw[List.length_reverse];exact Nat.le_refl _)]at this
end
def chR(aj:List (Str×List Row)):List Str->List Row
 |[]=>[[]]
 |w::ws=>(kin aj w).flatMap fun k=>(chR aj ws).map fun s=>k++s
theorem BI{aj:List (Str×List Row)}{w:Str}{P:List Row->Prop}(h0:P []) (h:∀e∈aj,P e.2):P (kin aj w):=by
 unfold kin
 induction aj with
 |nil=>exact h0
 |cons e l ih =>
  rw[List.lookup_cons]
  by_cases c:(w==e.1)=true
  ·rw[c];exact h e (.head _)
  ·rw[Bool.not_eq_true]at c;rw[c];exact ih fun x hx=>h x (.tail _ hx)
def pA(aj:List (Str×List Row)) (K B:Nat):Prop:=∀e∈aj,e.2.length<=K/\∀r∈e.2,r.length<=B
section
variable{aj:List (Str×List Row)}{aq:Str}{ws:List Str}{K B:Nat}
theorem gL{q:Int×List Row}:q∈aQ aj aq ws↔q=(-1,[[]])∨(∃(i:Nat) (w:Str),ws[i]?=some w/\q=((i:Int),kin aj w))∨q=((ws.length:Int),[[(aq,1)]]):=by
 unfold aQ cu;rw[List.mem_append,List.mem_cons,List.mem_map,List.mem_singleton];constructor
 ·rintro((h|⟨t,ht,rfl⟩)|h)
  ·exact .inl h
  ·exact .inr (.inl ⟨t.2,t.1,List.mem_zipIdx_iff_getElem?.mp ht,rfl⟩)
  ·exact .inr (.inr h)
 ·rintro(h|⟨i,w,hi,rfl⟩|h)
  ·exact .inl (.inl h)
  ·exact .inl (.inr ⟨(w,i),List.mem_zipIdx_iff_getElem?.mpr hi,rfl⟩)
  ·exact .inr h
theorem pj(he:pA aj K B) (hK:1<=K) (hB:1<=B):gb (aQ aj aq ws) (ws.length:Int) K B where
 up:=by
  unfold aQ;rw[List.pairwise_append,List.pairwise_cons];have hlt:∀a∈cu aj ws,0<=a.1/\a.1<(ws.length:Int):=fun a ha=>by
   obtain⟨t,ht,rfl⟩:=List.mem_map.mp ha;have:=List.mem_zipIdx_iff_getElem?.mp ht;have:=(List.getElem?_eq_some_iff.mp this).1;show 0<=(t.2:Int)/\(t.2:Int)<_;omega
  refine⟨⟨fun a ha=>?_,?_⟩,by simp,fun a ha b hb=>?_⟩
  ·have:=hlt a ha;show(-1:Int)<a.1;omega
  ·unfold cu;rw[List.pairwise_map,List.pairwise_iff_getElem];intro i j hi hj hij;simp only[List.getElem_zipIdx];omega
  ·rw[List.mem_singleton.mp hb];rcases List.mem_cons.mp ha with e|e
   ·rw[e];show(-1:Int)<(ws.length:Int);omega
   ·exact(hlt a e).2
 bd:=by
  intro q hq;rcases gL.mp hq with e|⟨i,w,hi,e⟩|e
  ·rw[e];refine⟨Int.le_refl _,by show(-1:Int)<=_;omega,hK,fun r hr=>?_⟩;rw[List.mem_singleton.mp hr];exact Nat.zero_le _
  ·have:=(List.getElem?_eq_some_iff.mp hi).1;rw[e];have h:=BI (aj:=aj) (w:=w) (P:=fun rs=>rs.length<=K/\∀r∈rs,r.length<=B) ⟨Nat.zero_le _,fun _ h=>by cases h⟩ he;exact⟨by show(-1:Int)<=(i:Int);omega,by show(i:Int)<=_;omega,h⟩
  ·rw[e];refine⟨by show(-1:Int)<=(ws.length:Int);omega,Int.le_refl _,hK,fun r hr=>?_⟩;rw[List.mem_singleton.mp hr];exact hB
theorem qQ{kd:KD}{N:Int}{K B:Nat}(ok:gb kd N K B) {q:Int×List Row}(hq:q∈kd) (hn:q.1≠N) {i:Nat}{row:Row}(hr:q.2[i]?=some row):∀(d j:Nat),j+d=row.length ->
  Sts (bx kd) (cO N B) (q.1,(i:Int),(j:Int)) (N,0,1)=((bo kd (q.1,(i:Int),(0:Int))).flatMap fun b=>Sts (bx kd) (cO N B) b (N,0,1)).map fun s=>row.drop j++s
 |0,j,h=>by
  have hs:(bx kd).sg (q.1,(i:Int),(j:Int))=none:=by
   show bB _ _=_;rw[ok.sgn hq hr,List.getElem?_eq_none (by omega)]
  have hne:(q.1,(i:Int),(j:Int))≠((N,0,1):Pl):=fun e=>hn (congrArg (·.1) e);rw[gu ok.falls (aX.mpr ⟨q,hq,i,row,j,hr,by omega,rfl⟩) hs,if_neg hne,List.nil_append,List.drop_of_length_le (by omega)];simp only[List.nil_append,List.map_id'];rfl
 |d+1,j,h=>by
  have hj:j<row.length:=by omega
  have hs:(bx kd).sg (q.1,(i:Int),(j:Int))=some row[j]:=by
   show bB _ _=_;rw[ok.sgn hq hr,List.getElem?_eq_getElem hj]
  have hne:(q.1,(i:Int),(j:Int))≠((N,0,1):Pl):=fun e=>hn (congrArg (·.1) e);rw[fj ok.falls (aX.mpr ⟨q,hq,i,row,j,hr,by exact Nat.le_of_lt (by assumption),rfl⟩) hs,if_neg hne,List.nil_append];have ih:=qQ ok hq hn hr d (j+1) (by omega);have e:(bx kd).nx (q.1,(i:Int),(j:Int))=(q.1,(i:Int),((j+1:Nat):Int)):=by
   show(q.1,(i:Int),(j:Int)+1)=_;rw[Int.natCast_add];rfl
  rw[e,ih,List.map_map,List.drop_eq_getElem_cons hj];rfl
theorem pd(he:pA aj K B) (hK:1<=K) (hB:1<=B):∀(d n:Nat) (i:Int),n+d=ws.length ->
  ((bo (aQ aj aq ws) ((n:Int)-1,i,0)).flatMap fun b=>Sts (bx (aQ aj aq ws)) (cO (ws.length:Int) B) b ((ws.length:Int),0,1))=(chR aj (ws.drop n)).map fun s=>s++[(aq,1)]
 |0,n,i,h=>by
  have ok:=pj (aq:=aq) (ws:=ws) he hK hB;have hm:((ws.length:Int),[[(aq,1)]])∈aQ aj aq ws:=gL.mpr (.inr (.inr rfl));have hl:look (aQ aj aq ws) (((n:Int)-1)+1)=some [[(aq,1)]]:=by
   rw[show((n:Int)-1)+1=(ws.length:Int)by omega];exact jf ok.up hm
  have hl2:look (aQ aj aq ws) ((ws.length:Int)+1)=none:=by
   cases hx:look (aQ aj aq ws) ((ws.length:Int)+1)with
   |none=>rfl
   |some rs =>
    have:=(ok.bd _ (kj hx)).2.1;exact absurd (show(ws.length:Int)+1<=ws.length from this) (by omega)
  have hb:bo (aQ aj aq ws) ((n:Int)-1,i,0)=[((ws.length:Int),0,0)]:=by
   unfold bo;show(List.range ((look (aQ aj aq ws) (((n:Int)-1)+1)).getD []).length).map _=_;rw[hl,show(((n:Int)-1,i,(0:Int)).1+1:Int)=(ws.length:Int)by show(n:Int)-1+1=_;omega];rfl
  rw[hb,List.drop_of_length_le (by omega)];have h0:(bx (aQ aj aq ws)).sg ((ws.length:Int),0,0)=some (aq,1):=ok.sgn (j:=0) hm (i:=0) rfl;have h1:(bx (aQ aj aq ws)).sg ((ws.length:Int),0,1)=none:=ok.sgn (j:=1) hm (i:=0) rfl;have m0:((ws.length:Int),0,0)∈af (aQ aj aq ws):=aX.mpr ⟨_,hm,0,_,0,rfl,Nat.zero_le _,rfl⟩;have m1:((ws.length:Int),0,1)∈af (aQ aj aq ws):=aX.mpr ⟨_,hm,0,_,1,rfl,Nat.le_refl _,rfl⟩;rw[List.flatMap_cons,List.flatMap_nil,List.append_nil,fj ok.falls m0 h0,if_neg (by simp),List.nil_append];have e:(bx (aQ aj aq ws)).nx ((ws.length:Int),0,0)=((ws.length:Int),0,1):=rfl;rw[e,gu ok.falls m1 h1,if_pos rfl];have e2:(bx (aQ aj aq ws)).bg ((ws.length:Int),0,1)=[]:=by
   show bo _ _=_;unfold bo;rw[hl2];rfl
  rw[e2];rfl
 |d+1,n,i,h=>by
  have ok:=pj (aq:=aq) (ws:=ws) he hK hB;have hn:n<ws.length:=by omega
  have hm:((n:Int),kin aj ws[n])∈aQ aj aq ws:=gL.mpr (.inr (.inl ⟨n,ws[n],List.getElem?_eq_getElem hn,rfl⟩));have ih:=pd he hK hB d (n+1);have hl:look (aQ aj aq ws) (((n:Int)-1)+1)=some (kin aj ws[n]):=by
   rw[show((n:Int)-1)+1=(n:Int)by omega];exact jf ok.up hm
  have hb:bo (aQ aj aq ws) ((n:Int)-1,i,0)=(List.range (kin aj ws[n]).length).map fun(k:Nat)=>((n:Int),(k:Int),0):=by
   unfold bo;show(List.range ((look (aQ aj aq ws) (((n:Int)-1)+1)).getD []).length).map _=_;rw[hl,show(((n:Int)-1,i,(0:Int)).1+1:Int)=(n:Int)by show(n:Int)-1+1=_;omega];rfl
  rw[hb,List.drop_eq_getElem_cons hn,chR,List.flatMap_map,List.map_flatMap];have e:kin aj ws[n]=(List.range (kin aj ws[n]).length).map fun k=>(kin aj ws[n]).getD k []:=by
   refine List.ext_getElem (by simp) fun a h1 h2=>?_;simp[h1]
  rw[show((kin aj ws[n]).flatMap fun k=>((chR aj (ws.drop (n+1))).map fun s=>k++s).map fun s=>s++[(aq,1)])=(((List.range (kin aj ws[n]).length).map fun k=>(kin aj ws[n]).getD k []).flatMap fun k=>((chR aj (ws.drop (n+1))).map fun s=>k++s).map fun s=>s++[(aq,1)])by rw[<-e],List.flatMap_map];refine gM fun k hk=>?_;have hk':=List.mem_range.mp hk;have hr:(kin aj ws[n])[k]?=some ((kin aj ws[n]).getD k []):=by simp[hk']
  have r:=qQ ok hm (show(n:Int)≠(ws.length:Int)by omega) hr ((kin aj ws[n]).getD k []).length 0 (by omega);have h3:(bo (aQ aj aq ws) ((n:Int),(k:Int),0))=bo (aQ aj aq ws) (((n+1:Nat):Int)-1,(k:Int),0):=by
   rw[show((n+1:Nat):Int)-1=(n:Int)by omega]
  refine r.trans ?_;rw[h3,ih (k:Int) (by omega),List.map_map,List.map_map,List.drop_zero];refine List.map_congr_left fun s _=>?_;simp[Function.comp_def]
theorem wR{ord:List (Str×Str)}(he:pA aj K B) (hK:1<=K) (hB:1<=B):cnt (rel ord) (bx (aQ aj aq ws)) (cO (ws.length:Int) B) aS ((ws.length:Int),0,1)=((chR aj ws).map fun s=>W (rel ord) (s++[(aq,1)])).sum:=by
 have ok:=pj (aq:=aq) (ws:=ws) he hK hB;unfold cnt;have r:=qQ ok (q:=(-1,[[]])) (gL.mpr (.inl rfl)) (show(-1:Int)≠(ws.length:Int)by omega) (i:=0) (row:=[]) rfl 0 0 rfl;have r2:=pd (aq:=aq) (ws:=ws) he hK hB ws.length 0 0 (by omega);have e:Sts (bx (aQ aj aq ws)) (cO (ws.length:Int) B) aS ((ws.length:Int),0,1)=(chR aj ws).map fun s=>s++[(aq,1)]:=by
  refine r.trans ?_;have e3:bo (aQ aj aq ws) (-1,((0:Nat):Int),(0:Int))=bo (aQ aj aq ws) (((0:Nat):Int)-1,0,0):=rfl;rw[List.drop_zero]at r2;show List.map (fun s=>[]++s) (List.flatMap _ (bo (aQ aj aq ws) (-1,((0:Nat):Int),(0:Int))))=_;rw[e3,r2];simp only[List.nil_append,List.map_id']
 rw[e,List.map_map];rfl
theorem Em{ord:List (Str×Str)}(he:pA aj K B) (hK:1<=K) (hB:1<=B) (hK8:K<=8) (hR:(ws.length+2)*(B+1)<100) (hS:(ws.length+2)*(K*(B+1))<=900) (hl:aj.length<=8) (ho:ord.length<=500) (hw:∀w∈ws,w∈aj.map (·.1)/\dh w) :
  yS ord aq aj ws ((((chR aj ws).map fun s=>W (rel ord) (s++[(aq,1)])).sum:Nat):Int):=by
 have ok:=pj (aq:=aq) (ws:=ws) he hK hB;have bp:(aQ aj aq ws).length=ws.length+2:=by simp[aQ,cu]
 have hm:((ws.length:Int),[[(aq,1)]])∈aQ aj aq ws:=gL.mpr (.inr (.inr rfl));have hs:aS∈af (aQ aj aq ws):=aX.mpr ⟨(-1,[[]]),gL.mpr (.inl rfl),0,[],0,rfl,Nat.le_refl _,rfl⟩;have hR':((ws.length:Int)+2)*((B:Int)+1)<100:=by
  have:=Int.ofNat_lt.mpr hR;simpa using this
 obtain⟨c1,c2⟩:=tq ok hK8 hR' (by rw[bp];exact hS) (ord:=ord) ho hm;obtain⟨l,hl1,hl2⟩:=c2 aS hs;refine⟨hl,?_,hw,_,l,c1,hl1,?_⟩
 ·have:ws.length+2<=(ws.length+2)*(B+1):=Nat.le_mul_of_pos_right _ (by exact Nat.le_succ_of_le (by assumption));omega
 ·rw[hl2.2.2,wR he hK hB]
end
noncomputable def mI(f:bu->Nat):List bu->Nat->Option (bu×Nat)
 |[],_=>none
 |s::l,n=>if n<f s then some (s,n)else mI f l (n-f s)
theorem qh{f:bu->Nat}:∀{l:List bu}{n:Nat},n<(l.map f).sum->∃s m,mI f l n=some (s,m)/\s∈l/\m<f s
 |[],n,h=>by simp at h
 |s::l,n,h=>by
  rw[List.map_cons,List.sum_cons]at h;unfold mI
  by_cases c:n<f s
  ·rw[if_pos c];exact⟨s,n,rfl,.head _,c⟩
  ·rw[if_neg c];obtain⟨t,m,h1,h2,h3⟩:=qh (f:=f) (l:=l) (n:=n-f s) (by omega);exact⟨t,m,h1,.tail _ h2,h3⟩
theorem cD{f:bu->Nat}:∀{l:List bu}{n m:Nat}{s:bu},mI f l n=some (s,m)->s∈l/\m<f s
 |[],_,_,_,h=>by cases h
 |a::l,n,m,s,h=>by
  unfold mI at h
  by_cases c:n<f a
  ·rw[if_pos c]at h;cases h;exact⟨.head _,c⟩
  ·rw[if_neg c]at h;obtain⟨h1,h2⟩:=cD h;exact⟨.tail _ h1,h2⟩
theorem oA{f:bu->Nat}:∀{l:List bu}{n n' m:Nat}{s:bu},(l.map fun s=>s.2.1).Nodup->mI f l n=some (s,m)->mI f l n'=some (s,m)->n=n'
 |[],_,_,_,_,_,h,_=>by cases h
 |a::l,n,n',m,s,hn,h,h'=>by
  rw[List.map_cons,List.nodup_cons]at hn;unfold mI at h h'
  by_cases c:n<f a
  ·rw[if_pos c]at h;cases h
   by_cases c':n'<f a
   ·rw[if_pos c']at h';cases h';rfl
   ·rw[if_neg c']at h';exact absurd (List.mem_map.mpr ⟨a,(cD h').1,rfl⟩) hn.1
  ·rw[if_neg c]at h
   by_cases c':n'<f a
   ·rw[if_pos c']at h';cases h';exact absurd (List.mem_map.mpr ⟨_,(cD h).1,rfl⟩) hn.1
   ·rw[if_neg c']at h';have:=oA hn.2 h h';omega
theorem vI{l:List bu}(hn:(l.map fun s=>s.2.1).Nodup) {s t:bu}(hs:s∈l) (ht:t∈l) (e:s.2.1=t.2.1):s=t:=by
 induction l with
 |nil=>cases hs
 |cons a l ih =>
  rw[List.map_cons,List.nodup_cons]at hn;rcases List.mem_cons.mp hs with h|h<;>rcases List.mem_cons.mp ht with h'|h'
  ·rw[h,h']
  ·exact absurd (List.mem_map.mpr ⟨t,h',by rw[<-e,h]⟩) hn.1
  ·exact absurd (List.mem_map.mpr ⟨s,h,by rw[e,h']⟩) hn.1
  ·exact ih hn.2 h h'
structure jx(kd:KD) (ss:Pl->List bu) (g:Pl->Pl->Nat) (rk:Pl->Nat):Prop where
 no:∀p∈af kd,∀s∈ss p,s.1=none->s.2.1∈af kd/\s.2.1∈bo kd p/\rk s.2.1<rk p/\s.2.2=1
 yes:∀p∈af kd,∀s∈ss p,∀m,s.1=some m->m∈af kd/\s.2.1=nxt m/\nxt m∈af kd/\s.2.2=(g (nxt p) m:Int)/\nxt p∈af kd/\rk (nxt p)<rk p/\rk (nxt m)<rk m/\(bB kd p).isSome/\(bB kd m).isSome
 key:∀p∈af kd,((ss p).map fun s=>s.2.1).Nodup
 sum:∀p∈af kd,∀q,p≠q->g p q=((ss p).map fun s=>s.2.2.toNat*g s.2.1 q).sum
 one:∀p∈af kd,g p p=1
 reach:∀p∈af kd,∀q,0<g p q->q=p∨rk q<rk p
section
variable{kd:KD}{ss:Pl->List bu}{g:Pl->Pl->Nat}{rk:Pl->Nat}
abbrev stp(ss:Pl->List bu) (g:Pl->Pl->Nat) (p q:Pl) (n:Nat):Option (bu×Nat):=mI (fun s=>s.2.2.toNat*g s.2.1 q) (ss p) n
inductive Drw (ss:Pl->List bu) (g:Pl->Pl->Nat):Pl->Pl->Nat->List Pl->List (Pl×Pl)->Prop
 |nil (p:Pl):Drw ss g p p 0 [] []
 |no {p q:Pl} {n left:Nat} {s:bu} {cs:List Pl} {js:List (Pl×Pl)}:p≠q->stp ss g p q n=some (s,left)->s.1=none->Drw ss g s.2.1 q (left % g s.2.1 q) cs js->Drw ss g p q n (s.2.1::cs) js
 |yes {p q m:Pl} {n left:Nat} {s:bu} {cs1 cs2:List Pl} {js1 js2:List (Pl×Pl)}:p≠q->stp ss g p q n=some (s,left)->s.1=some m->Drw ss g (nxt p) m (left / g s.2.1 q) cs1 js1->Drw ss g s.2.1 q (left % g s.2.1 q) cs2 js2 ->
  Drw ss g p q n (cs1++cs2) ((p,m)::(js1++js2))
theorem jx.step(D:jx kd ss g rk) {p q:Pl}{n:Nat}(hp:p∈af kd) (hpq:p≠q) (hn:n<g p q):∃s left,stp ss g p q n=some (s,left)/\s∈ss p/\left<s.2.2.toNat*g s.2.1 q/\0<g s.2.1 q:=by
 rw[D.sum p hp q hpq]at hn;obtain⟨s,m,h1,h2,h3⟩:=qh hn;refine⟨s,m,h1,h2,h3,?_⟩;cases h:g s.2.1 q with
 |zero=>rw[h,Nat.mul_zero]at h3;omega
 |succ _=>omega
theorem jx.drw(D:jx kd ss g rk):∀(f:Nat) (p q:Pl) (n:Nat),p∈af kd->rk p<f->n<g p q->∃cs js,Drw ss g p q n cs js
 |0,_,_,_,_,h,_=>absurd h (Nat.not_lt_zero _)
 |f+1,p,q,n,hp,hf,hn=>by
  by_cases hpq:p=q
  ·subst hpq;rw[D.one p hp]at hn;have:n=0:=by omega
   subst this;exact⟨_,_,.nil p⟩
  ·obtain⟨s,left,h1,h2,h3,h4⟩:=D.step hp hpq hn;have hm:=Nat.mod_lt left h4;cases hs:s.1 with
   |none =>
    obtain⟨a1,a2,a3,_⟩:=D.no p hp s h2 hs;obtain⟨cs,js,d⟩:=D.drw f s.2.1 q _ a1 (by omega) hm;exact⟨_,_,.no hpq h1 hs d⟩
   |some m =>
    obtain⟨b1,b2,b3,b4,b5,b6,b7,_⟩:=D.yes p hp s h2 m hs;rw[b4,Int.toNat_natCast,Nat.mul_comm]at h3;have hw:=Nat.div_lt_of_lt_mul h3;obtain⟨cs1,js1,d1⟩:=D.drw f (nxt p) m _ b5 (by omega) hw;have hr:=D.reach (nxt p) b5 m (Nat.lt_of_le_of_lt (Nat.zero_le _) hw);have hrm:rk m<=rk (nxt p):=by
     rcases hr with e|e
     ·rw[e];exact Nat.le_refl _
     ·exact Nat.le_of_lt (by assumption)
    obtain⟨cs2,js2,d2⟩:=D.drw f s.2.1 q _ (by rw[b2];exact b3) (by rw[b2];omega) hm;exact⟨_,_,.yes hpq h1 hs d1 d2⟩
theorem yo{p b:Pl}(h:b∈bo kd p):b.1=p.1+1/\b.2.2=0:=by
 obtain⟨rows,_,k,row,_,rfl⟩:=jU h;exact⟨rfl,rfl⟩
structure zz(kd:KD) (rk:Pl->Nat) (p q:Pl) (cs:List Pl) (js:List (Pl×Pl)):Prop where
 len:(cs.length:Int)=q.1-p.1
 at_:∀(k:Nat) (b:Pl),cs[k]?=some b->b.1=p.1+1+(k:Int)/\b.2.2=0/\b∈af kd
 end_:(q.1=p.1/\q.2.1=p.2.1)∨(q.1,q.2.1,0)∈cs
 mem:∀j∈js,∀z,z=j.1∨z=j.2->z∈af kd/\(bB kd z).isSome/\((z.1=p.1/\z.2.1=p.2.1)∨(z.1,z.2.1,0)∈cs)
 rk_:∀j∈js,rk j.1<=rk p/\rk q<rk j.1
 up:js.Pairwise fun a b=>rk b.1<rk a.1
theorem jx.prop(D:jx kd ss g rk) {p q:Pl}{n:Nat}{cs:List Pl}{js:List (Pl×Pl)}(h:Drw ss g p q n cs js):p∈af kd->n<g p q->zz kd rk p q cs js/\rk q<=rk p:=by
 induction h with
 |nil p =>
  intro hp _;exact⟨⟨by simp,fun k b h=>by simp at h,.inl ⟨rfl,rfl⟩,fun j h=>(by cases h),fun j h=>(by cases h),.nil⟩,Nat.le_refl _⟩
 |@no p q n left s cs js hpq h1 hs _ ih =>
  intro hp hn;obtain⟨h2,h3⟩:=cD h1;have h4:0<g s.2.1 q:=by
   cases h:g s.2.1 q with
   |zero=>rw[h,Nat.mul_zero]at h3;omega
   |succ _=>omega
  obtain⟨a1,a2,a3,_⟩:=D.no p hp s h2 hs;obtain⟨i,ir⟩:=ih a1 (Nat.mod_lt _ h4);obtain⟨b1,b2⟩:=yo a2;have hrow:(s.2.1.1,s.2.1.2.1,(0:Int))=s.2.1:=by rw[<-b2]
  have row:∀{z:Pl},(z.1=s.2.1.1/\z.2.1=s.2.1.2.1)∨(z.1,z.2.1,0)∈cs->(z.1=p.1/\z.2.1=p.2.1)∨(z.1,z.2.1,0)∈s.2.1::cs:=by
   rintro z (⟨e1,e2⟩|e)
   ·right;rw[e1,e2,hrow];exact .head _
   ·right;exact .tail _ e
  refine⟨⟨?_,fun k b hk=>?_,row i.end_,fun j hj z hz=>?_,fun j hj=>?_,i.up⟩,by omega⟩
  ·have:=i.len;rw[List.length_cons];omega
  ·cases k with
   |zero=>cases hk;exact⟨by rw[b1];simp,b2,a1⟩
   |succ k =>
    obtain⟨c1,c2,c3⟩:=i.at_ k b (by simpa using hk);exact⟨by rw[c1,b1];omega,c2,c3⟩
  ·obtain⟨c1,c2,c3⟩:=i.mem j hj z hz;exact⟨c1,c2,row c3⟩
  ·obtain⟨c1,c2⟩:=i.rk_ j hj;omega
 |@yes p q m n left s cs1 cs2 js1 js2 hpq h1 hs _ _ ih1 ih2 =>
  intro hp hn;obtain⟨h2,h3⟩:=cD h1;have h4:0<g s.2.1 q:=by
   cases h:g s.2.1 q with
   |zero=>rw[h,Nat.mul_zero]at h3;omega
   |succ _=>omega
  obtain⟨b1,b2,b3,b4,b5,b6,b7,b8,b9⟩:=D.yes p hp s h2 m hs;rw[b4,Int.toNat_natCast,Nat.mul_comm]at h3;obtain⟨i,ir⟩:=ih1 b5 (Nat.div_lt_of_lt_mul h3);obtain⟨i2,ir2⟩:=ih2 (by rw[b2];exact b3) (Nat.mod_lt _ h4);rw[b2]at i2 ir2;have r1:∀{z:Pl},(z.1=p.1/\z.2.1=p.2.1)∨(z.1,z.2.1,0)∈cs1->(z.1=p.1/\z.2.1=p.2.1)∨(z.1,z.2.1,0)∈cs1++cs2:=by
   rintro z (e|e)
   ·exact .inl e
   ·exact .inr (List.mem_append_left _ e)
  have rm:(m.1=p.1/\m.2.1=p.2.1)∨(m.1,m.2.1,0)∈cs1++cs2:=r1 i.end_;have r2:∀{z:Pl},(z.1=m.1/\z.2.1=m.2.1)∨(z.1,z.2.1,0)∈cs2->(z.1=p.1/\z.2.1=p.2.1)∨(z.1,z.2.1,0)∈cs1++cs2:=by
   rintro z (⟨e1,e2⟩|e)
   ·rw[e1,e2];exact rm
   ·exact .inr (List.mem_append_right _ e)
  have l1:=i.len;have l2:=i2.len;have en:(nxt p).1=p.1:=rfl;have em:(nxt m).1=m.1:=rfl;have all:∀j∈(p,m)::(js1++js2),j=(p,m)∨j∈js1∨j∈js2:=fun j hj=>by
   rcases List.mem_cons.mp hj with h|h
   ·exact .inl h
   ·exact .inr (List.mem_append.mp h)
  refine⟨⟨?_,fun k b hk=>?_,r2 i2.end_,fun j hj z hz=>?_,fun j hj=>?_,?_⟩,by omega⟩
  ·rw[List.length_append];omega
  ·by_cases c:k<cs1.length
   ·rw[List.getElem?_append_left c]at hk;exact i.at_ k b hk
   ·rw[List.getElem?_append_right (by omega)]at hk;obtain⟨c1,c2,c3⟩:=i2.at_ _ b hk;exact⟨by rw[c1];omega,c2,c3⟩
  ·rcases all j hj with h|h|h
   ·subst h;rcases hz with e|e
    ·rw[e];exact⟨hp,b8,.inl ⟨rfl,rfl⟩⟩
    ·rw[e];exact⟨b1,b9,rm⟩
   ·obtain⟨c1,c2,c3⟩:=i.mem j h z hz;exact⟨c1,c2,r1 c3⟩
   ·obtain⟨c1,c2,c3⟩:=i2.mem j h z hz;exact⟨c1,c2,r2 c3⟩
  ·rcases all j hj with h|h|h
   ·subst h;exact⟨Nat.le_refl _,by show rk q<rk p;omega⟩
   ·obtain⟨c1,c2⟩:=i.rk_ j h;omega
   ·obtain⟨c1,c2⟩:=i2.rk_ j h;omega
  ·rw[List.pairwise_cons,List.pairwise_append];refine⟨fun j hj=>?_,i.up,i2.up,fun a ha b hb=>?_⟩
   ·show rk j.1<rk p;rcases List.mem_append.mp hj with h|h
    ·have:=(i.rk_ j h).1;omega
    ·have:=(i2.rk_ j h).1;omega
   ·have h5:=(i.rk_ a ha).2;have h6:=(i2.rk_ b hb).1;omega
theorem pH{α:Type}{P:α->Prop}:∀{a b a' b':List α},(∀x∈a,P x)->(∀x∈a',P x)->(∀x∈b,¬ P x)->(∀x∈b',¬ P x)->a++b=a'++b'->a=a'/\b=b'
 |[],b,[],b',_,_,_,_,e=>⟨rfl,e⟩
 |[],b,x::a',b',_,h2,h3,_,e=>by
  rw[List.nil_append]at e;exact absurd (h2 x (.head _)) (h3 x (by rw[e];exact .head _))
 |x::a,b,[],b',h1,_,_,h4,e=>by
  rw[List.nil_append]at e;exact absurd (h1 x (.head _)) (h4 x (by rw[<-e];exact .head _))
 |x::a,b,y::a',b',h1,h2,h3,h4,e=>by
  rw[List.cons_append,List.cons_append]at e;injection e with e1 e2
  obtain⟨q1,q2⟩:=pH (fun z hz=>h1 z (.tail _ hz)) (fun z hz=>h2 z (.tail _ hz)) h3 h4 e2;exact⟨by rw[e1,q1],q2⟩
theorem jx.inj(D:jx kd ss g rk) {p q:Pl}{n:Nat}{cs:List Pl}{js:List (Pl×Pl)}(h:Drw ss g p q n cs js):p∈af kd->n<g p q->∀n' cs' js',Drw ss g p q n' cs' js'->n'<g p q->cs=cs'->js=js'->n=n':=by
 induction h with
 |nil p =>
  intro hp _ n' cs' js' h' _ _ _;cases h' with
  |nil=>rfl
  |no hpq=>exact absurd rfl hpq
  |yes hpq=>exact absurd rfl hpq
 |@no p q n left s cs js hpq h1 hs d ih =>
  intro hp hn n' cs' js' h' hn' ec ej;obtain⟨h2,h3⟩:=cD h1;obtain⟨a1,a2,a3,a4⟩:=D.no p hp s h2 hs;rw[a4]at h3;have h4:left<g s.2.1 q:=by simpa using h3
  have P:=(D.prop d a1 (Nat.mod_lt _ (by omega))).1;cases h' with
  |nil=>exact absurd rfl hpq
  |@no _ _ _ left' s' cs2 js2 hpq' h1' hs' d' =>
   obtain⟨h2',h3'⟩:=cD h1';injection ec with e1 e2
   have es:=vI (D.key p hp) h2 h2' e1;subst es;rw[a4]at h3';have h4':left'<g s.2.1 q:=by simpa using h3'
   have:=ih a1 (Nat.mod_lt _ (by omega)) _ _ _ d' (Nat.mod_lt _ (by omega)) e2 ej;rw[Nat.mod_eq_of_lt h4,Nat.mod_eq_of_lt h4']at this;subst this;exact oA (D.key p hp) h1 h1'
  |@yes _ _ m' _ left' s' cs1 cs2 js1 js2 hpq' h1' hs' d1 d2 =>
   have:=(P.rk_ (p,m') (by rw[ej];exact .head _)).1;exact absurd (show rk p<=rk s.2.1 from this) (by omega)
 |@yes p q m n left s cs1 cs2 js1 js2 hpq h1 hs d1 d2 ih1 ih2 =>
  intro hp hn n' cs' js' h' hn' ec ej;obtain⟨h2,h3⟩:=cD h1;obtain⟨b1,b2,b3,b4,b5,b6,b7,b8,b9⟩:=D.yes p hp s h2 m hs;have h4:0<g s.2.1 q:=by
   cases h:g s.2.1 q with
   |zero=>rw[h,Nat.mul_zero]at h3;omega
   |succ _=>omega
  rw[b4,Int.toNat_natCast,Nat.mul_comm]at h3;cases h' with
  |nil=>exact absurd rfl hpq
  |@no _ _ _ left' s' _ _ hpq' h1' hs' d' =>
   obtain⟨h2',h3'⟩:=cD h1';obtain⟨a1,a2,a3,a4⟩:=D.no p hp s' h2' hs';have h4':0<g s'.2.1 q:=by
    cases h:g s'.2.1 q with
    |zero=>rw[h,Nat.mul_zero]at h3';omega
    |succ _=>omega
   have:=((D.prop d' a1 (Nat.mod_lt _ h4')).1.rk_ (p,m) (by rw[<-ej];exact .head _)).1;exact absurd (show rk p<=rk s'.2.1 from this) (by omega)
  |@yes _ _ m' _ left' s' cs1' cs2' js1' js2' hpq' h1' hs' d1' d2' =>
   obtain⟨h2',h3'⟩:=cD h1';injection ej with e1 e2
   have em:m=m':=congrArg Prod.snd e1;subst em;obtain⟨_,b2',_⟩:=D.yes p hp s' h2' m hs';have es:=vI (D.key p hp) h2 h2' (by rw[b2,b2']);subst es;rw[b4,Int.toNat_natCast,Nat.mul_comm]at h3';have w1:=Nat.div_lt_of_lt_mul h3;have w1':=Nat.div_lt_of_lt_mul h3';have o1:=Nat.mod_lt left h4;have o1':=Nat.mod_lt left' h4;have A:s.2.1∈af kd:=by rw[b2];exact b3
   have P1:=(D.prop d1 b5 w1).1;have P1':=(D.prop d1' b5 w1').1;have P2:=(D.prop d2 A o1).1;have P2':=(D.prop d2' A o1').1;have l1:=P1.len;have l1':=P1'.len;obtain⟨c1,c2⟩:=List.append_inj ec (by omega);have hr:rk s.2.1<rk m:=by rw[b2];exact b7
   obtain⟨k1,k2⟩:=pH (P:=fun j:Pl×Pl=>rk m<rk j.1) (fun x hx=>(P1.rk_ x hx).2) (fun x hx=>(P1'.rk_ x hx).2) (fun x hx=>by have:=(P2.rk_ x hx).1;omega) (fun x hx=>by have:=(P2'.rk_ x hx).1;omega) e2;have q1:=ih1 b5 w1 _ _ _ d1' w1' c1 k1;have q2:=ih2 A o1 _ _ _ d2' o1' c2 k2;have:left=left':=by rw[<-Nat.div_add_mod left (g s.2.1 q),<-Nat.div_add_mod left' (g s.2.1 q),q1,q2]
   subst this;exact oA (D.key p hp) h1 h1'
end
section
variable{π σ:Type} [DecidableEq π] {N:Net π σ}{A:List π}{rk:π->Nat}
theorem kG(F:cJ N A rk):∀(f:Nat) (p q:π) (s:List σ),p∈A->s∈St N f p q->q=p∨rk q<rk p
 |0,_,_,_,_,h=>by cases h
 |f+1,p,q,s,hp,h=>by
  unfold St at h;rcases List.mem_append.mp h with h|h
  ·split at h
   ·rename_i e;exact .inl e.symm
   ·cases h
  ·right;cases hx:N.sg p with
   |some x =>
    rw[hx]at h;obtain⟨t,ht,_⟩:=List.mem_map.mp h;obtain⟨h1,h2⟩:=F.sg p hp (by rw[hx];rfl);rcases kG F f _ q t h1 ht with e|e
    ·rw[e];exact h2
    ·omega
   |none =>
    rw[hx]at h;obtain⟨b,hb,ht⟩:=List.mem_flatMap.mp h;obtain⟨h1,h2⟩:=F.bg p hp hx b hb;rcases kG F f _ q s h1 ht with e|e
    ·rw[e];exact h2
    ·omega
theorem yy{R:σ->σ->Bool}(F:cJ N A rk) {p q:π}(hp:p∈A) (h:0<cnt R N rk p q):q=p∨rk q<rk p:=by
 unfold cnt at h;cases e:Sts N rk p q with
 |nil=>rw[e]at h;simp at h
 |cons s l=>exact kG F _ p q s hp (show s∈Sts N rk p q by rw[e];exact .head _)
theorem zM{R:σ->σ->Bool}(F:cJ N A rk) {p:π}(hp:p∈A):cnt R N rk p p=1:=by
 have no:∀b∈A,rk b<rk p->Sts N rk b p=[]:=fun b hb hr=>by
  cases e:Sts N rk b p with
  |nil=>rfl
  |cons s l =>
   rcases kG F _ b p s hb (show s∈Sts N rk b p by rw[e];exact .head _)with z|z
   ·rw[z]at hr;omega
   ·omega
 unfold cnt;cases hx:N.sg p with
 |some x =>
  obtain⟨h1,h2⟩:=F.sg p hp (by rw[hx];rfl);rw[fj F hp hx,if_pos rfl,no _ h1 h2];simp[pC]
 |none =>
  rw[gu F hp hx,if_pos rfl,List.flatMap_eq_nil_iff.mpr fun b hb=>no b (F.bg p hp hx b hb).1 (F.bg p hp hx b hb).2];simp[pC]
end
section
variable{kd:KD}{N:Int}{K B:Nat}
theorem uH(ok:gb kd N K B) {ord:List (Str×Str)}:∀(i:Nat),i<=(af kd).length->∀q∈(af kd).reverse.take i,∃cn,lkP (bF ord kd ((af kd).reverse.take i)).1 q=some (aO ord kd q ((lkP cn (nxt q)).getD []))/\∀r∈af kd,plt q r->∃l,lkP cn r=some l/\jF ord kd N B r l
 |0,_,q,h=>by rw[List.take_zero]at h;cases h
 |i+1,hi,q,h=>by
  have hl:i<(af kd).reverse.length:=by rw[List.length_reverse];assumption
  have hg:(af kd).reverse[i]?=some (af kd).reverse[i]:=List.getElem?_eq_getElem hl;generalize (af kd).reverse[i]=p at hg;have e:bF ord kd ((af kd).reverse.take (i+1))=gU ord kd (bF ord kd ((af kd).reverse.take i)) p:=by
   rw[List.take_add_one,hg];unfold bF;rw[List.foldl_append];rfl
  rw[e];have e2:(gU ord kd (bF ord kd ((af kd).reverse.take i)) p).1=fM (bF ord kd ((af kd).reverse.take i)).1 p (aO ord kd p ((lkP (bF ord kd ((af kd).reverse.take i)).2 (nxt p)).getD [])):=rfl;rw[e2,qP]
  by_cases c:p=q
  ·rw[if_pos c];subst c;exact⟨_,rfl,fun r hr hpr=>vj ok i (by exact Nat.le_of_lt (by assumption)) r (jT (jk ok.up) hg hr hpr)⟩
  ·rw[if_neg c];refine uH ok i (by exact Nat.le_of_lt (by assumption)) q ?_;rw[List.take_add_one,hg]at h;rcases List.mem_append.mp h with h|h
   ·exact h
   ·exact absurd (by simpa using h:q=p).symm c
theorem qR(p:Pl):(bo kd p).Nodup:=by
 unfold bo;refine List.Pairwise.map _ (fun a b h e=>?_) List.nodup_range;have:(a:Int)=b:=congrArg (fun z:Pl=>z.2.1) e;omega
theorem CV{a b:Pl}(h:nxt a=nxt b):a=b:=by
 obtain⟨a1,a2,a3⟩:=a;obtain⟨b1,b2,b3⟩:=b;simp only[nxt,Prod.mk.injEq]at h;obtain⟨h1,h2,h3⟩:=h;rw[h1,h2,show a3=b3 by omega]
abbrev ko(ord:List (Str×Str)) (kd:KD) (p:Pl):List bu:=(lkP (bF ord kd (af kd).reverse).1 p).getD []
theorem Fq(ok:gb kd N K B) {ord:List (Str×Str)}:jx kd (ko ord kd) (cnt (rel ord) (bx kd) (cO N B)) (cO N B):=by
 have F:=ok.falls;have st:∀p∈af kd,∃cn,ko ord kd p=aO ord kd p ((lkP cn (nxt p)).getD [])/\∀r∈af kd,plt p r->∃l,lkP cn r=some l/\jF ord kd N B r l:=fun p hp=>by
  obtain⟨cn,h1,h2⟩:=uH ok (ord:=ord) _ (Nat.le_refl _) p (by rw[List.take_of_length_le (by rw[List.length_reverse];exact Nat.le_refl _)];exact List.mem_reverse.mpr hp);rw[List.take_of_length_le (by rw[List.length_reverse];exact Nat.le_refl _)]at h1;exact⟨cn,by show(lkP _ p).getD []=_;rw[h1];rfl,h2⟩
 have sh:∀p∈af kd,(bB kd p=none/\ko ord kd p=(bo kd p).map fun b=>(none,b,1))∨((bB kd p).isSome/\∃l0 x,jF ord kd N B (nxt p) l0/\ko ord kd p=(l0.filter fun z=>eB ord x (bB kd z.1)).map fun z=>(some z.1,nxt z.1,z.2)):=fun p hp=>by
  obtain⟨cn,h1,h2⟩:=st p hp;cases hx:bB kd p with
  |none=>left;exact⟨rfl,by rw[h1];unfold aO;rw[hx]⟩
  |some x =>
   right;obtain⟨hn,_⟩:=F.sg p hp (by show(bB kd p).isSome=true;rw[hx];rfl);obtain⟨l0,hl0,k⟩:=h2 (nxt p) hn gS;exact⟨rfl,l0,x,k,by rw[h1];unfold aO;rw[hx,hl0];rfl⟩
 refine⟨fun p hp s hs h0=>?_,fun p hp s hs m hm=>?_,fun p hp=>?_,fun p hp q hpq=>?_,fun p hp=>zM F hp,fun p hp q h=>yy F hp h⟩
 ·rcases sh p hp with⟨hx,e⟩|⟨hx,l0,x,k,e⟩
  ·rw[e]at hs;obtain⟨b,hb,rfl⟩:=List.mem_map.mp hs;obtain⟨h1,h2⟩:=F.bg p hp hx b hb;exact⟨h1,hb,h2,rfl⟩
  ·rw[e]at hs;obtain⟨z,hz,rfl⟩:=List.mem_map.mp hs;cases h0
 ·rcases sh p hp with⟨hx,e⟩|⟨hx,l0,x,k,e⟩
  ·rw[e]at hs;obtain⟨b,hb,rfl⟩:=List.mem_map.mp hs;cases hm
  ·rw[e]at hs;obtain⟨z,hz,rfl⟩:=List.mem_map.mp hs;cases hm;obtain⟨hz1,hj⟩:=List.mem_filter.mp hz;have hsome:(bB kd z.1).isSome:=by
    cases h:bB kd z.1 with
    |none=>rw[h]at hj;cases hj
    |some _=>rfl
   obtain⟨hA,_⟩:=k.2.1 z hz1;obtain⟨h1,h2⟩:=F.sg z.1 hA hsome;obtain⟨h3,h4⟩:=F.sg p hp hx;exact⟨hA,rfl,h1,by rw[<-k.2.2 z.1,mR k.1 hz1];rfl,h3,h4,h2,hx,hsome⟩
 ·rcases sh p hp with⟨hx,e⟩|⟨hx,l0,x,k,e⟩
  ·rw[e,List.map_map];show((bo kd p).map fun b=>b).Nodup;rw[List.map_id'];exact qR p
  ·rw[e,List.map_map];have h1:((l0.filter fun z=>eB ord x (bB kd z.1)).map (·.1)).Nodup:=k.1.sublist (List.Sublist.map _ List.filter_sublist);have h2:=List.Pairwise.map nxt (S:=fun a b=>a≠b) (fun a b (h:a≠b) e=>h (CV e)) h1;rw[List.map_map]at h2;exact h2
 ·obtain⟨cn,h1,h2⟩:=st p hp;obtain⟨s1,_,s3⟩:=mP ok hp h2;rw[<-h1]at s1 s3;have hc:=(lC (ord:=ord) (p:=p) (Ok:=fun _=>True) (cn:=cn) (g:=cnt (rel ord) (bx kd) (cO N B)) q (ss:=ko ord kd p) (a:=[(p,1)]) (fun s hs=>by
   obtain⟨a1,a2,_⟩:=s1 s hs;obtain⟨l,k0,k1,k2,k3⟩:=h2 _ a1 a2;exact⟨l,k0,k1,fun _ _=>trivial,k3 q⟩) ⟨by simp,fun _ _=>trivial⟩).2
  have e1:=s3.2.2 q;have e2:(lkP [(p,(1:Int))] q).getD 0=0:=by rw[kK,if_neg hpq];rfl
  rw[e2,Int.zero_add]at hc;have e3:(((ko ord kd p).map fun s=>s.2.2*(cnt (rel ord) (bx kd) (cO N B) s.2.1 q:Int)).sum)=(((ko ord kd p).map fun s=>s.2.2.toNat*cnt (rel ord) (bx kd) (cO N B) s.2.1 q).sum:Nat):=by
   rw[<-iR];congr 1;refine List.map_congr_left fun s hs=>?_;obtain⟨_,_,a3⟩:=s1 s hs;have:s.2.2=(s.2.2.toNat:Int):=by
    rcases a3 with a|⟨m,a,_⟩
    ·rw[a];rfl
    ·rw[a];rfl
   rw[this,Int.natCast_mul,Int.toNat_natCast]
  exact Int.ofNat.inj (e1.symm.trans (hc.trans e3))
end
def gQ(kd:KD) (n k:Int):List Pl:=(List.range ((((look kd n).bind (·[k.toNat]?)).getD []).length)).map fun(j:Nat)=>(n,k,(j:Int))
noncomputable def bT(kd:KD) (ch:List Int):List Pl:=(ch++[0]).zipIdx.flatMap fun(q:Int×Nat)=>gQ kd (q.2:Int) q.1
def vS(kd:KD) (ch:List Int):Prop:=ch.length<=100/\∀(i:Nat) (k:Int),(ch++[0])[i]?=some k->∃(rows:List Row) (row:Row) (j:Nat),look kd (i:Int)=some rows/\k=(j:Int)/\rows[j]?=some row/\row.length<=100
theorem wG{kd:KD}{ch:List Int}(h:vS kd ch):(bT kd ch).length<=10100:=by
 unfold bT;rw[List.length_flatMap];refine Nat.le_trans (dF (m:=100) fun q hq=>?_) ?_
 ·have hq':=List.mem_zipIdx_iff_getElem?.mp hq;obtain⟨rows,row,j,h1,h2,h3,h4⟩:=h.2 q.2 q.1 hq';unfold gQ;rw[List.length_map,List.length_range,h1,h2];simp[h3];assumption
 ·rw[List.length_zipIdx,List.length_append];have:=h.1;simp;omega
def eQ:SpD:=fun ds M R=>∃(kd:KD) (ch:List Int),ds=[kdD kd,.tup (ch.map .int)]/\vS kd ch/\R (.lst ((bT kd ch).map plD)) M
theorem jb(F:Fun K "places_of_signs" "places_of_signs" bW f fd) (T:Txt K mg) :bf P w K mg base CX0 1 f fd ["kinds","choice"] (spD K 2 eQ):=by
 have nd:=et.nd;refine F.okR rfl et (fun cdv A outer s H E hr=>⟨_,(ai (aJ (i:=2) nd rfl (Or.inl rfl) (aM aW (cq Fw rfl T.b_list (by kernel_rfl) (aa (ab 1) ag)) (mm (aa ao ag))))
   (aw (aV (Hn (ms:=[true,false,false]) (ar:=["number","kind","at"]) (aR rfl (show bA (am bW) bD _ _=true from by decide +kernel)) rfl (si rfl T.b_enumerate (aa (ab 2) ag)) (jN (n:=2) rfl (cA (aN (i:=3) (show(bD++_).Nodup from by decide +kernel) rfl rfl) (cA (aN (i:=4) (show(bD++_).Nodup from by decide +kernel) rfl rfl) jW))) (fun _ _ _ _=>ck) (fun _ _ _ _=>(bU rfl T.b_range (aa (aG cf rfl T.b_len (by kernel_rfl) (aa (aZ aY (uo hr.units1 (ab 0) (ab 3) (fun _ _=>rfl)) (ab 4) (fun _ _=>rfl)) ag)) ag))) (aN (i:=5) (show(bD++_).Nodup from by decide +kernel) rfl rfl) (fun _ _ _ _=>ck) (fun _ _ _ _=>(tX (aa (ab 3) (aa (ab 4) (aa (ab 5) ag))))))))),fun ds M R _ hS bk=>?_⟩)
 obtain⟨kd,ch,rfl,hc,k⟩:=hS;refine bk ?_;clear bk;walk_at "rd";have h1:i8 (rdM M (D.lst (ch.map D.int))) (D.lst [D.int 0])=some (D.lst ((ch++[0]).map D.int)):=by
  show i8 (D.lst (ch.map D.int)) (D.lst [D.int 0])=_;rw[vR,if_pos (by rw[List.length_map,sizeLine_eq];have:=hc.1;simp;exact Nat.le_trans (by assumption) (by decide)),List.map_append];rfl
 refine⟨.lst (ch.map D.int),rfl,sz3 1,_,h1,_,rfl,fun hle=>?_⟩;have hcd:eM [true,false,false] 3 [some (kdD kd),some (D.tup (ch.map D.int)),some (D.lst ((ch++[0]).map D.int))]=[some (kdD kd),none,none,none,none,none]:=rfl;rw[hcd,iQ];have ho:((ch++[0]).zipIdx.flatMap fun(q:Int×Nat)=>(gQ kd (q.2:Int) q.1).map plD)=(bT kd ch).map plD:=by rw[bT,List.map_flatMap]
 have hf:=wG hc;refine fh _ (fun q:Int×Nat=>(gQ kd (q.2:Int) q.1).map plD) (fun Δ=>∃a b c,Δ=[some (kdD kd),none,none,a,b,c]) _ _ _ _ ?_ ⟨_,_,_,rfl⟩ (by rw[ho,List.length_map,sizeLine_eq];simp;exact Nat.le_trans (by assumption) (by decide)) (by rintro Δ' -;rw[ho,List.nil_append];exact k);rintro q hq Δ ⟨a,b,c,rfl⟩;obtain⟨rows,row,j,hlk,hkj,hrow,hlr⟩:=hc.2 q.2 q.1 (List.mem_zipIdx_iff_getElem?.mp hq);refine⟨_,rfl,fun acc Q2 hz2 k2=>?_⟩;simp only[j6,qk,fm,eh,jQ,dOp,dCB,zr];have hv:bw (kdP kd) (.inl (q.2:Int))=some (.tup (rows.map aT)):=by rw[rg,hlk];rfl
 have hx:ixD (D.tup (rows.map aT)) (D.int q.1)=some (aT row):=by
  rw[hkj];exact bH (by rw[List.getElem?_map,hrow];rfl)
 have hpr:gQ kd (q.2:Int) q.1=(List.range row.length).map fun(j:Nat)=>((q.2:Int),q.1,(j:Int)):=by
  unfold gQ;rw[hlk,hkj];simp[hrow]
 rw[hpr]at hz2 k2;have ho3:((List.range row.length).flatMap fun(a:Nat)=>[plD ((q.2:Int),q.1,(a:Int))])=((List.range row.length).map fun(j:Nat)=>(((q.2:Int),q.1,(j:Int)):Pl)).map plD:=by
  rw[nG,List.map_map];rfl
 refine⟨_,rfl,_,rfl,_,.inl (q.2:Int),_,qx,rfl,hv,_,rfl,_,hx,.int (row.length:Int),by simp[jq,rdM,aT,gB],?_⟩;refine⟨_,rfl,by omega,by omega,?_⟩;rw[Int.toNat_natCast,iJ];refine fh (fun(a:Nat)=>D.int (0+(a:Int))) (fun a=>[plD ((q.2:Int),q.1,(a:Int))]) (fun Δ=>∃e,Δ=[some (kdD kd),none,none,some (D.int (q.2:Int)),some (D.int q.1),e]) _ _ _ _ ?_ ⟨_,rfl⟩ (by rw[ho3];exact hz2) (by rintro Δ' ⟨e,rfl⟩;rw[ho3];exact k2 _ ⟨_,_,_,rfl⟩);rintro a ha Δ ⟨e,rfl⟩;refine⟨_,rfl,fun acc4 Q4 hz5 k4=>?_⟩;simp only[oE,AZ,fm,eh,jQ];refine⟨_,rfl,_,rfl,_,rfl,by simp only[List.length_cons,List.length_nil];rw[sizeLine_eq];decide,?_⟩;rw[Int.zero_add];exact k4 _ ⟨_,rfl⟩
def fV(C:Addr):SpD:=fun ds M R=>∃(q:Addr) (s:bu) (e:Pl) (kd:KD) (en:Pl) (st:List (Pl×List bu)) (cn:List (Pl×List (Pl×Int))) (l:List (Pl×Int)),ds=[.ref q,eP s,plD e]/\eY M C q kd en st cn/\lkP cn s.2.1=some l /\
 h8 s.2.2 ((lkP l e).getD 0)/\R (.int (s.2.2*(lkP l e).getD 0)) M
theorem ki(F:Fun K "count_by_step" "count_by_step" dg f fd) (T:Txt K mg) {C:Addr} (Z:eU K C) :bf P w K mg base CX0 1 f fd ["chart","step","end"] (spD K 3 (fV C)):=by
 have nd:=fD.nd;refine F.okR rfl fD (fun cdv A outer s H E hr=>⟨_,(ai (jG (ab 1) (dX rfl (aK (aF (i:=3) nd rfl (Or.inl rfl)) (aK (aF (i:=4) nd rfl (Or.inl rfl)) (aK (aF (i:=5) nd rfl (Or.inl rfl)) dZ)))))
   (aw (aV (aM As (ab 5) (qD hr.units1 (iD hr.units1 (eN Z.c Z.n_counts (ab 0)) (ab 4) (fun _ _=>rfl)) (ab 2) ao ⟨rfl,rfl,rfl,rfl⟩))))),fun ds M R _ hS bk=>?_⟩)
 obtain⟨q,s,e,kd,en,st,cn,l,rfl,hC,hl,hm,k⟩:=hS;obtain⟨sa,c,hsc,hq,hs,hc⟩:=hC;refine bk ?_;clear bk;walk_at "rd";have hval:bw (cnK cn) (plK s.2.1)=some (gC (cv l)):=by rw[cnK,eC (fun l=>gC (cv l)),hl];rfl
 have hg:(bw (cv l) (plK e)).getD (D.int 0)=D.int ((lkP l e).getD 0):=by
  rw[cv,eC D.int];cases lkP l e<;>rfl
 refine⟨_,rfl,_,rfl,_,rfl,q,rfl,_,hq,_,rfl,_,rfl,_,cX hc,plK s.2.1,rfl,_,hval,by rw[iP];rfl,_,rfl,_,iP,plK e,rfl,.int (s.2.2*(lkP l e).getD 0),?_,k⟩;rw[hg];simp[rdM,iOp,hm]
def fF(C:Addr):SpD:=fun ds M R=>∃(q:Addr) (b:Pl) (bd:D) (e:Pl) (n:Nat) (kd:KD) (en:Pl) (st:List (Pl×List bu)) (cn:List (Pl×List (Pl×Int))) (ss:List bu) (f:bu->Nat) (s:bu) (left:Nat),ds=[.ref q,bd,plD e,.int (n:Int)]/\tkD bd (plK b)/\eY M C q kd en st cn /\
 lkP st b=some ss/\ss.length<=1000/\(∀s∈ss,∃l,lkP cn s.2.1=some l/\h8 s.2.2 ((lkP l e).getD 0)/\s.2.2*(lkP l e).getD 0=(f s:Int))/\mI f ss n=some (s,left)/\R (.tup [eP s,.int (left:Int)]) M
theorem jr(F:Fun K "step_by_number" "step_by_number" cT f fd) (T:Txt K mg) {C:Addr} (Z:eU K C) (Y5:FnD P w K mg base "count_by_step" 1 3 ((fV C))):bf P w K mg base CX0 2 f fd ["chart","begin","end","number"] (spD K 4 (fF C)):=by
 have nd:=eK.nd;refine F.okR rfl eK (fun cdv A outer s H E hr=>⟨_,(ai (aJ (i:=4) nd rfl (Or.inl rfl) (ab 3))
   (ai (aJ (i:=5) nd rfl (Or.inl rfl) ao)
   (ai (aJ (i:=6) nd rfl (Or.inl rfl) (FJ hr.units1 (eN Z.c Z.n_steps (ab 0)) (ab 1) (fun _ _=>rfl)))
   (ai (mN PassesOwn.never (bh EI (ab 4) (qd Y5 hr (aa (ab 0) (aa (aZ aY (ab 6) (ab 5) (fun _ _=>rfl)) (aa (ab 2) ag)))) nbh) (ai (AH (i:=4) nd rfl (Or.inl rfl) (qd Y5 hr (aa (ab 0) (aa (aZ aY (ab 6) (ab 5) (fun _ _=>rfl)) (aa (ab 2) ag)))) FR)
   (aw (AH (i:=5) nd rfl (Or.inl rfl) ao AU))))
   (aw (aV (bz (aa (aZ aY (ab 6) (ab 5) (fun _ _=>rfl)) (aa (ab 4) ag))))))))),fun ds M R _ hS bk=>?_⟩)
 obtain⟨q,b,bd,e,n,kd,en,st,cn,ss,f,s,left,rfl,hb,hC,hl,hsl,hn,hp,k⟩:=hS;have hC':=hC;obtain⟨sa,c,hsc,hq,hs,hc⟩:=hC;refine bk ?_;clear bk;walk_at "rd";have hval:bw (stK st) (plK b)=some (.lst (ss.map eP)):=by rw[stK,eC (fun l:List bu=>D.lst (l.map eP)),hl];rfl
 refine⟨_,hq,_,rfl,_,cX hs,plK b,hb,_,hval,fun m Δ M'=>∃i n':Nat,m=ss.length-i/\Δ=[some (D.ref q),some bd,some (plD e),some (D.int (n:Int)),some (D.int (n':Int)),some (D.int (i:Int)),some (.lst (ss.map eP))]/\M'=M/\mI f (ss.drop i) n'=some (s,left),⟨ss.length,0,n,by simp,rfl,rfl,by simpa using hp⟩,?_⟩;rintro m Δ M' ⟨i,n',rfl,rfl,rfl,hp'⟩;have hi:i<ss.length:=by
  by_cases c:i<ss.length
  ·exact c
  ·rw[List.drop_eq_nil_of_le (by omega)]at hp';cases hp'
 rw[List.drop_eq_getElem_cons hi]at hp';unfold mI at hp';obtain⟨l,h1,h2,h3⟩:=hn ss[i] (List.getElem_mem ..);have hix:ixD (D.lst (ss.map eP)) (D.int (i:Int))=some (eP ss[i]):=bH (by simp[hi]);refine⟨_,rfl,_,rfl,_,rfl,_,rfl,_,hix,_,rfl,q,ss[i],e,kd,en,st,cn,l,rfl,hC',h1,h2,_,rfl,_,rfl,?_⟩;rw[h3]
 by_cases c:n'<f ss[i]
 ·rw[if_pos c]at hp';cases hp';rw[if_neg (by simp;assumption)];exact⟨_,rfl,_,rfl,_,hix,_,rfl,sz3 2,k⟩
 ·rw[if_neg c]at hp';rw[if_pos (by simp;omega)];have h4:((n':Int)-ss[i].2.2*(lkP l e).getD 0)=((n'-f ss[i]:Nat):Int):=by rw[h3];omega
  refine⟨_,rfl,_,rfl,_,rfl,_,rfl,_,hix,_,rfl,q,ss[i],e,kd,en,st,cn,l,rfl,hC',h1,h2,_,rfl,_,rfl,_,rfl,ss.length-(i+1),by omega,i+1,n'-f ss[i],rfl,?_,rfl,hp'⟩;rw[<-h4];rfl
def lt2(a b:Pl):Prop:=a.1<b.1∨(a.1=b.1/\a.2.2<b.2.2)
theorem zL{kd:KD}{ch:List Int}:(bT kd ch).Pairwise lt2:=by
 unfold bT;rw[List.pairwise_flatMap];constructor
 ·intro q _;unfold gQ;rw[List.pairwise_map];refine List.Pairwise.imp ?_ List.pairwise_lt_range;intro a b hab;unfold lt2;dsimp only;omega
 ·rw[List.pairwise_iff_getElem];intro a b ha hb hab x hx y hy;unfold gQ at hx hy;obtain⟨j,_,rfl⟩:=List.mem_map.mp hx;obtain⟨k,_,rfl⟩:=List.mem_map.mp hy;simp only[List.getElem_zipIdx];unfold lt2;dsimp only;omega
theorem xw{kd:KD}{ch:List Int}:(bT kd ch).Nodup :=
 List.Pairwise.imp (fun {a b} (hab:lt2 a b)=>fun e=>by rw[e]at hab;unfold lt2 at hab;omega) zL
noncomputable def sgK(n:Nat) (ps:List Pl):List (List Key×D):=(ps.zipIdx n).map fun q=>(plK q.1,D.int (q.2:Int))
theorem ER{ps:List Pl}{z:Pl}(h:z∉ps):df (sgK 0 ps) (plK z) (.int (ps.length:Int))=sgK 0 (ps++[z]):=by
 have:((sgK 0 ps).any fun kv=>decide (kv.1=plK z))=false:=by
  rw[List.any_eq_false];intro x hx;obtain⟨q,hq,rfl⟩:=List.mem_map.mp hx;simp only[decide_eq_true_eq];intro e;exact h (by rw[<-gP e];exact List.fst_mem_of_mem_zipIdx hq)
 unfold df;rw[this,if_neg (by simp)];simp[sgK,List.zipIdx_append]
theorem uk{z:Pl}:∀{ps:List Pl}{n:Nat},z∈ps->bw (sgK n ps) (plK z)=some (.int ((n+ps.idxOf z:Nat):Int))
 |[],_,h=>by cases h
 |a::ps,n,h=>by
  show bw ((plK a,D.int (n:Int))::sgK (n+1) ps) (plK z)=_
  by_cases e:a=z
  ·rw[bG (by show plK a=_;rw[e]),e];simp
  ·rw[bE (fun q=>e (gP q)),uk ((List.mem_cons.mp h).resolve_left (fun q=>e q.symm))];rw[List.idxOf_cons,show(a==z)=false from by simpa using e];simp;omega
theorem AL{g:GD}{tk tv:TEd}{p:Addr}{M0:DH}{Q:DH->Prop}(Ok:DE->Prop):∀(ps done:List Pl) (Δ:DE),
  (∀(i:Nat) (z:Pl) (Δ:DE),Ok Δ->∃ Δ',g (.tup [.int (i:Int),plD z]) Δ=some Δ'/\Ok Δ'/\(∀M (Q1:D->DH->Prop),Q1 (plD z) M->tk Δ' M Q1)/\∀M (Q2:D->DH->Prop),Q2 (.int (i:Int)) M->tv Δ' M Q2)->Ok Δ->(done++ps).Nodup->(done++ps).length<=20000 ->
  Q (av M0 p (.dT (sgK 0 (done++ps))))->kf g tk tv p ((ps.zipIdx done.length).map fun q=>D.tup [D.int (q.2:Int),plD q.1]) Δ (av M0 p (.dT (sgK 0 done))) Q
 |[],done,Δ,_,_,_,_,q=>by simpa[kf]using q
 |z::ps,done,Δ,h,ok,hn,hl,q=>by
  obtain⟨Δ',e,ok',h1,h2⟩:=h done.length z Δ ok;rw[List.zipIdx_cons,List.map_cons];simp only[kf];have hz:z∉done:=fun hz=>(List.nodup_append.mp hn).2.2 z hz z (.head _) rfl;refine⟨Δ',e,h1 _ _ (h2 _ _ ⟨_,plK z,rfl,ah,?_,?_⟩)⟩
  ·rw[sgK,List.length_map,List.length_zipIdx,sizeLine_eq];rw[List.length_append]at hl;omega
  ·rw[aD,ER hz];have e3:done++[z]++ps=done++z::ps:=by simp
   have:=AL (M0:=M0) (p:=p) (Q:=Q) Ok ps (done++[z]) Δ' h ok' (e3▸hn) (e3▸hl) (by rw[e3];exact q);rw[List.length_append]at this;exact this
def jD(j:Pl×Pl):D:=.tup [plD j.1,plD j.2]
def ixP(kd:KD) (ch:List Int) (z:Pl):Int:=((bT kd ch).idxOf z:Nat)
def nB(kd:KD) (ch:List Int) (js:List (Pl×Pl)):List (Int×Int):=nL (js.map fun j=>(ixP kd ch j.1,ixP kd ch j.2))
def gn(C:Addr):SpD:=fun ds M R=>∃(q:Addr) (kd:KD) (en:Pl) (st:List (Pl×List bu)) (cn:List (Pl×List (Pl×Int))) (ch:List Int) (js:List (Pl×Pl)),ds=[.ref q,.tup (ch.map .int),.lst (js.map jD)]/\eY M C q kd en st cn/\vS kd ch /\
 (∀j∈js,j.1∈bT kd ch/\j.2∈bT kd ch)/\js.length<64/\R (.tup ((nB kd ch js).map pD)) M
theorem kL(F:Fun K "arcs_between" "arcs_between" bX f fd) (T:Txt K mg) {C:Addr} (Z:eU K C) (Y9:FnD P w K mg base "places_of_signs" 1 2 eQ):bf P w K mg base CX0 2 f fd ["chart","choice","joined"] (spD K 3 (gn C)):=by
 have nd:=fS.nd;refine F.okR rfl fS (fun cdv A outer s H E hr=>⟨_,(ai (aJ (i:=3) nd rfl (Or.inr rfl) (HM (ms:=[false,false,false,false]) (ar:=["sign","place"]) hr.units0 (aR rfl (show bA (am bX) bC _ _=true from by decide +kernel)) rfl (si rfl T.b_enumerate (aa (qd Y9 hr (aa (eN Z.c Z.n_kinds (ab 0)) (aa (ab 1) ag))) ag)) (jN (n:=2) rfl (cA (aN (i:=4) (show(bC++_).Nodup from by decide +kernel) rfl rfl) (cA (aN (i:=5) (show(bC++_).Nodup from by decide +kernel) rfl rfl) jW))) (fun _ _ _ _=>(ab 5)) (fun _ _ _ _=>(ab 4))))
   (aw (iI (cq eZ rfl T.b_tuple (by kernel_rfl) (aa (aG Bc rfl T.b_sorted (by kernel_rfl) (aa (kq (ms:=[false,false,false,true]) (ar:=["one","other"]) (aR rfl (show bA (am bX) bC _ _=true from by decide +kernel)) rfl (dm (ab 2)) (jN (n:=2) rfl (cA (aN (i:=4) (show(bC++_).Nodup from by decide +kernel) rfl rfl) (cA (aN (i:=5) (show(bC++_).Nodup from by decide +kernel) rfl rfl) jW))) (fun _ _ _ _=>ck) (fun _ _ _ _=>(bz (aa (iD hr.units1 (ab 3) (ab 4) (fun _ _=>rfl)) (aa (iD hr.units1 (ab 3) (ab 5) (fun _ _=>rfl)) ag))))) ag)) ag))))),fun ds M R _ hS bk=>?_⟩)
 obtain⟨q,kd,en,st,cn,ch,js,rfl,hC,hch,hj,hjl,k⟩:=hS;obtain⟨sa,c,hsc,hq,hs,hc⟩:=hC;refine bk ?_;clear bk;walk_at "rd";have hf:=wG hch;refine⟨_,hq,_,rfl,kd,ch,rfl,hch,_,rfl,fun hle p hp=>?_⟩;have hcd:eM [false,false,false,false] 2 [some (D.ref q),some (D.tup (ch.map D.int)),some (D.lst (js.map jD)),none]=[none,none,none,none,none,none]:=rfl;have hcd2:eM [false,false,false,true] 2 [some (D.ref q),some (D.tup (ch.map D.int)),some (D.lst (js.map jD)),some (D.ref p)]=[none,none,none,some (D.ref p),none,none]:=rfl;rw[hcd,hcd2,iQ];refine AL (M0:=M) (p:=p) (fun Δ=>∃a b,Δ=[none,none,none,none,a,b]) (bT kd ch) [] _ ?_ ⟨_,_,rfl⟩ xw (by rw[List.nil_append];exact Nat.le_trans (by assumption) (by decide)) ?_
 ·rintro i z Δ ⟨a,b,rfl⟩;exact⟨_,rfl,⟨_,_,rfl⟩,fun M Q1 q=>⟨_,rfl,q⟩,fun M Q2 q=>⟨_,rfl,q⟩⟩
 intro hjl2;refine⟨hjl2,?_⟩;rw[List.nil_append];refine bJ jD (fun _=>true) (fun j=>pD (ixP kd ch j.1,ixP kd ch j.2)) (fun Δ=>∃a b,Δ=[none,none,none,some (D.ref p),a,b]) _ _ _ ?_ ⟨_,_,rfl⟩ ?_
 ·rintro j hj' Δ ⟨a,b,rfl⟩;obtain⟨h1,h2⟩:=hj j hj';refine⟨_,rfl,⟨_,_,rfl⟩,fun Q1 q=>q,fun _ Q2 q2=>?_⟩;simp only[xN,fm,v9,eh,jQ];have v1:=uk (n:=0) h1;have v2:=uk (n:=0) h2;rw[Nat.zero_add]at v1 v2;exact⟨_,rfl,_,rfl,_,plK j.1,_,cX ah,rfl,v1,_,rfl,_,rfl,_,plK j.2,_,cX ah,rfl,v2,sz3 2,q2⟩
 ·rw[List.filter_eq_self.mpr (fun _ _=>rfl),List.nil_append];have e1:(js.map fun j=>pD (ixP kd ch j.1,ixP kd ch j.2))=(js.map fun j=>(ixP kd ch j.1,ixP kd ch j.2)).map pD:=by rw[List.map_map];rfl
  rw[e1];refine⟨_,Cr (by rw[List.length_map];exact hjl),_,rfl,M,fun a u e=>?_,k⟩;rw[ak (nn hp e).symm];exact e
structure ChD(kd:KD) (N:Nat) (st:List (Pl×List bu)) (cn:List (Pl×List (Pl×Int))) (ss:Pl->List bu) (g:Pl->Pl->Nat) (rk:Pl->Nat):Prop where
 dec:jx kd ss g rk
 st:∀p∈af kd,lkP st p=some (ss p)/\(ss p).length<=1000
 cn:∀p∈af kd,∃l,lkP cn p=some l/\∀q,(lkP l q).getD 0=(g p q:Int)
 few:∀p∈af kd,∀q,g p q<=(2 ^ 4) ^ 100*(2 ^ 7) ^ 100
 beg:aS∈af kd
 s0:∀j,bB kd (-1,0,j)=none
 rk0:rk aS<60
 N0:N<=60
 rows:∀z∈af kd,∃(rows:List Row) (row:Row) (k j:Nat),look kd z.1=some rows/\z.2=((k:Int),(j:Int))/\rows[k]?=some row/\row.length<=100
noncomputable def cH(N:Nat) (cs:List Pl):List Int:=(cs.take N).map fun b=>b.2.1
def jv(kd:KD) (N:Nat) (cs:List Pl) (js:List (Pl×Pl)):D:=.tup [.tup ((cH N cs).map .int),.tup ((nB kd (cH N cs) js).map pD)]
structure SI where
 bd:D
 p:Pl
 q:Pl
 n:Nat
 cs:List Pl
 js:List (Pl×Pl)
def SI.d(t:SI):D:=.tup [t.bd,plD t.q,.int (t.n:Int)]
structure SI.Ok(kd:KD) (ss:Pl->List bu) (g:Pl->Pl->Nat) (t:SI):Prop where
 a:t.p∈af kd
 lt:t.n<g t.p t.q
 drw:Drw ss g t.p t.q t.n t.cs t.js
 key:tkD t.bd (plK t.p)
 no:t.p≠aS->t.bd=plD t.p
noncomputable def SI.wt(rk:Pl->Nat) (t:SI):Nat:=2*(rk t.p-rk t.q)+1
noncomputable def kbD(cs:List Pl):List (Key×D):=cs.map fun b=>(.inl b.1,.int b.2.1)
theorem Hm{M:DH}{y:D}{ks:List Key}(h:tkD y ks):rdM M y=y:=by
 rcases h with rfl|rfl<;>rfl
theorem GT{y:D}{p q:Pl}(h:tkD y (plK p)):Fb y (plD q)=some (.bl (decide (p≠q))):=by
 have e:vk y=.tup [.int p.1,.int p.2.1,.int p.2.2]:=by rcases h with rfl|rfl<;>rfl
 have e2:vk (plD q)=.tup [.int q.1,.int q.2.1,.int q.2.2]:=rfl;unfold Fb;rw[e,e2];unfold neF;rw[if_pos (by simp[dLe,cM])];congr 2;simp only[eqD,dQ];obtain⟨a,b,c⟩:=p;obtain⟨d,e,f⟩:=q;simp only[Prod.mk.injEq]
 by_cases h1:a=d<;>by_cases h2:b=e<;>by_cases h3:c=f<;>simp[h1,h2,h3]
theorem Drw.inv{ss:Pl->List bu}{g:Pl->Pl->Nat}{p q:Pl}{n:Nat}{cs:List Pl}{js:List (Pl×Pl)}(h:Drw ss g p q n cs js) (hpq:p≠q):∃s left,stp ss g p q n=some (s,left)/\((s.1=none/\∃cs',Drw ss g s.2.1 q (left % g s.2.1 q) cs' js/\cs=s.2.1::cs') ∨
  ∃m cs1 cs2 js1 js2,s.1=some m/\Drw ss g (nxt p) m (left / g s.2.1 q) cs1 js1/\Drw ss g s.2.1 q (left % g s.2.1 q) cs2 js2/\cs=cs1++cs2/\js=(p,m)::(js1++js2)):=by
 cases h with
 |nil=>exact absurd rfl hpq
 |no h0 h1 hs d=>exact⟨_,_,h1,.inl ⟨hs,_,d,rfl⟩⟩
 |yes h0 h1 hs d1 d2=>exact⟨_,_,h1,.inr ⟨_,_,_,_,_,hs,d1,d2,rfl,rfl⟩⟩
theorem Drw.same{ss:Pl->List bu}{g:Pl->Pl->Nat}{p q:Pl}{n:Nat}{cs:List Pl}{js:List (Pl×Pl)}(h:Drw ss g p q n cs js) (hpq:p=q):cs=[]/\js=[]:=by
 cases h with
 |nil=>exact⟨rfl,rfl⟩
 |no h0=>exact absurd hpq h0
 |yes h0=>exact absurd hpq h0
theorem Cu{n:Nat}(h:0<n) (hn:n<=(2 ^ 4) ^ 100*(2 ^ 7) ^ 100):DvW (n:Int):=by
 refine⟨by omega,?_⟩;rw[Int.natAbs_natCast];refine Nat.lt_of_lt_of_le ((Nat.log2_lt (by omega)).mpr (Nat.lt_of_le_of_lt hn ?_)) (show 1101<=9000 by decide);rw[<-Nat.pow_mul,<-Nat.pow_mul,<-Nat.pow_add];exact Nat.pow_lt_pow_right (by decide) (by decide)
section
variable{kd:KD}{N:Nat}{st:List (Pl×List bu)}{cn:List (Pl×List (Pl×Int))}{ss:Pl->List bu}{g:Pl->Pl->Nat}{rk:Pl->Nat}
theorem ChD.step(X:ChD kd N st cn ss g rk) {p:Pl}(hp:p∈af kd) (q:Pl) {s:bu}(hs:s∈ss p):s.2.1∈af kd/\∃l,lkP cn s.2.1=some l/\(∀q,(lkP l q).getD 0=(g s.2.1 q:Int))/\h8 s.2.2 ((lkP l q).getD 0)/\s.2.2*(lkP l q).getD 0=((s.2.2.toNat*g s.2.1 q:Nat):Int):=by
 have h1:s.2.1∈af kd/\∃n:Nat,s.2.2=(n:Int)/\n<=(2 ^ 4) ^ 100*(2 ^ 7) ^ 100:=by
  cases h:s.1 with
  |none =>
   obtain⟨a1,_,_,a4⟩:=X.dec.no p hp s hs h;exact⟨a1,1,a4,Nat.mul_pos (Nat.pow_pos (by decide)) (Nat.pow_pos (by decide))⟩
  |some m =>
   obtain⟨b1,b2,b3,b4,b5,_⟩:=X.dec.yes p hp s hs m h;exact⟨by rw[b2];exact b3,_,b4,X.few _ b5 m⟩
 obtain⟨hA,n,hn,hnf⟩:=h1;obtain⟨l,h2,h3⟩:=X.cn _ hA;refine⟨hA,l,h2,h3,?_,?_⟩
 ·rw[h3,hn];exact .inr ⟨qW hnf,qW (X.few _ hA q)⟩
 ·rw[h3,hn,Int.toNat_natCast,Int.natCast_mul]
end
theorem wU{α:Type}{f:α->Nat}(h:∀a,0<f a):∀{l:List α},l.length<=(l.map f).sum
 |[]=>Nat.le_refl _
 |a::l=>by
  have h1:=wU h (l:=l);have h2:=h a;rw[List.length_cons,List.map_cons,List.sum_cons];omega
theorem EV{dc:List Pl}{b:Pl}(h:∀x∈dc,x.1≠b.1):df (kbD dc) (.inl b.1) (.int b.2.1)=kbD (dc++[b]):=by
 have:((kbD dc).any fun kv=>decide (kv.1=.inl b.1))=false:=by
  rw[List.any_eq_false];intro x hx;obtain⟨q,hq,rfl⟩:=List.mem_map.mp hx;have:=h q hq;simpa using this
 unfold df;rw[this,if_neg (by simp),kbD,kbD,List.map_append];rfl
theorem Gf{kd:KD}{rk:Pl->Nat}{p q b:Pl}{cs dc bS:List Pl}{js:List (Pl×Pl)}(P:zz kd rk p q cs js) (e:cs=dc++b::bS):∀x∈dc,x.1≠b.1:=fun x hx=>by
 obtain⟨k,hk,ek⟩:=List.mem_iff_getElem.mp hx;have h1:=(P.at_ k x (by rw[e,List.getElem?_append_left hk,List.getElem?_eq_getElem hk,ek])).1;have h2:=(P.at_ dc.length b (by rw[e,List.getElem?_append_right (Nat.le_refl _),Nat.sub_self];rfl)).1;omega
theorem sj{α:Type}{f:α->Nat}:∀{l:List α}{R:Nat},l.Pairwise (fun a b=>f b<f a)->(∀a∈l,f a<=R)->l.length<=R+1
 |[],_,_,_=>Nat.zero_le _
 |a::l,R,h,hR=>by
  rw[List.pairwise_cons]at h;have h1:=hR a (.head _);rw[List.length_cons];cases l with
  |nil=>simp
  |cons b l =>
   have h2:=h.1 b (.head _);have:=sj (R:=f a-1) h.2 fun x hx=>by have:=h.1 x hx;omega
   omega
section
variable{kd:KD}{N:Nat}{st:List (Pl×List bu)}{cn:List (Pl×List (Pl×Int))}{ss:Pl->List bu}{g:Pl->Pl->Nat}{rk:Pl->Nat}{cs:List Pl}{js:List (Pl×Pl)}
theorem ChD.at_(P:zz kd rk aS ((N:Int),0,1) cs js):cs.length=N+1/\(∀(k:Nat) (b:Pl),cs[k]?=some b->b.1=(k:Int)/\b.2.2=0/\b∈af kd)/\cs[N]?=some ((N:Int),0,0)/\∀k:Nat,k<=N->(cH N cs++[0])[k]?=(cs[k]?).map fun b=>b.2.1:=by
 have hl:cs.length=N+1:=by
  have:=P.len;simp only[aS]at this;omega
 have ha:∀(k:Nat) (b:Pl),cs[k]?=some b->b.1=(k:Int)/\b.2.2=0/\b∈af kd:=fun k b h=>by
  obtain⟨h1,h2,h3⟩:=P.at_ k b h;simp only[aS]at h1;exact⟨by omega,h2,h3⟩
 have hN:cs[N]?=some ((N:Int),0,0):=by
  rcases P.end_ with⟨e,_⟩|e
  ·simp only[aS]at e;omega
  ·obtain⟨k,hk,ek⟩:=List.mem_iff_getElem.mp e;have h1:=(ha k _ (by rw[List.getElem?_eq_getElem hk,ek])).1;have h2:k=N:=by
    have:(N:Int)=(k:Int):=h1;omega
   subst h2;rw[List.getElem?_eq_getElem hk,ek]
 have hcl:(cH N cs).length=N:=by unfold cH;rw[List.length_map,List.length_take];omega
 refine⟨hl,ha,hN,fun k hk=>?_⟩
 by_cases c:k<N
 ·rw[List.getElem?_append_left (by omega)];unfold cH;rw[List.getElem?_map,List.getElem?_take_of_lt c]
 ·have:k=N:=by omega
  subst this;rw[List.getElem?_append_right (by omega),hcl,hN];simp
theorem ChD.chs(X:ChD kd N st cn ss g rk) (P:zz kd rk aS ((N:Int),0,1) cs js):vS kd (cH N cs)/\∀j∈js,j.1∈bT kd (cH N cs)/\j.2∈bT kd (cH N cs):=by
 obtain⟨hl,ha,hN,hc⟩:=ChD.at_ P;have h50:=X.N0;refine⟨⟨?_,fun i k h=>?_⟩,fun j hj=>?_⟩
 ·unfold cH;rw[List.length_map,List.length_take];omega
 ·have hi:i<=N:=by
   have:=(List.getElem?_eq_some_iff.mp h).1;rw[List.length_append]at this;unfold cH at this;rw[List.length_map,List.length_take]at this;simp at this;omega
  rw[hc i hi]at h;obtain⟨b,hb,rfl⟩:=Option.map_eq_some_iff.mp h;obtain⟨h1,h2,h3⟩:=ha i b hb;obtain⟨rows,row,k,j,r1,r2,r3,r4⟩:=X.rows b h3;exact⟨rows,row,k,by rw[<-h1];exact r1,by rw[r2],r3,r4⟩
 ·have key:∀z,z=j.1∨z=j.2->z∈bT kd (cH N cs):=fun z hz=>by
   obtain⟨m1,m2,m3⟩:=P.mem j hj z hz;rcases m3 with⟨e1,e2⟩|e
   ·have:z=(-1,0,z.2.2):=by
     obtain⟨a,b,c⟩:=z;simp only[aS]at e1 e2;rw[e1,e2]
    rw[this,X.s0]at m2;cases m2
   ·obtain⟨k,hk,ek⟩:=List.mem_iff_getElem.mp e;have hk':cs[k]?=some (z.1,z.2.1,0):=by rw[List.getElem?_eq_getElem hk,ek]
    have h1:=(ha k _ hk').1;obtain⟨rows,row,k',j',r1,r2,r3,r4⟩:=X.rows z m1;have hsg:bB kd z=row[j']?:=nQ r2 r1 r3;rw[hsg]at m2;have hj':j'<row.length:=by simpa using m2
    unfold bT;refine List.mem_flatMap.mpr ⟨(z.2.1,k),List.mem_zipIdx_iff_getElem?.mpr (by rw[hc k (by omega),hk'];rfl),?_⟩;unfold gQ;have e3:((look kd (k:Int)).bind (·[z.2.1.toNat]?)).getD []=row:=by
     rw[<-(show z.1=(k:Int)from h1),r1,r2];simp[r3]
    refine List.mem_map.mpr ⟨j',by rw[List.mem_range,e3];exact hj',?_⟩;obtain⟨a,b,c⟩:=z;simp only[Prod.mk.injEq]at r2 h1 ⊢;exact⟨h1.symm,trivial,r2.2.symm⟩
  exact⟨key _ (.inl rfl),key _ (.inr rfl)⟩
theorem yZ:∀{cs:List Pl}{n:Int}{a:Nat}{b:Pl},(∀(k:Nat) (b:Pl),cs[k]?=some b->b.1=n+(k:Int))->cs[a]?=some b->bw (kbD cs) (.inl (n+(a:Int)))=some (.int b.2.1)
 |[],_,_,_,_,h=>by simp at h
 |c::cs,n,0,b,h,e=>by
  cases e;have:=h 0 c rfl;exact bG (by show Sum.inl c.1=_;rw[this])
 |c::cs,n,a+1,b,h,e=>by
  have h0:=h 0 c rfl;have e1:bw (kbD (c::cs)) (.inl (n+((a+1:Nat):Int)))=bw (kbD cs) (.inl (n+((a+1:Nat):Int))):=bE (fun z=>by
   injection z with z
   have z':c.1=n+((a+1:Nat):Int):=z;omega)
  rw[e1,show n+((a+1:Nat):Int)=(n+1)+(a:Int)by omega];exact yZ (n:=n+1) (fun k b hk=>by have:=h (k+1) b (by simpa using hk);omega) (by simpa using e)
end
def IG(M:DH) (kd:KD) (ss:Pl->List bu) (g:Pl->Pl->Nat) (rk:Pl->Nat) (cs:List Pl) (js:List (Pl×Pl)) (q p p1 p2:Addr) (n m:Nat) (Δ:DE) (M':DH):Prop :=
 ∃(S:List SI) (dc:List Pl) (dj:List (Pl×Pl)) (x5 x6 x7 x8 x9 x10 x11 x12 x13 x14:Option D),Δ=[some (D.ref q),some (D.int (n:Int)),some (D.ref p),some (D.ref p1),some (D.ref p2),x5,x6,x7,x8,x9,x10,x11,x12,x13,x14] /\
  M'=av (av (av M p (.dK (kbD dc))) p1 (.lst (dj.map jD))) p2 (.lst (S.map SI.d))/\(∀t∈S,SI.Ok kd ss g t)/\m=(S.map (SI.wt rk)).sum/\m<=200/\cs=dc++S.reverse.flatMap SI.cs/\js=dj++S.reverse.flatMap SI.js
def dA(C:Addr):SpD:=fun ds M R=>∃(q:Addr) (kd:KD) (N:Nat) (st:List (Pl×List bu)) (cn:List (Pl×List (Pl×Int))) (ss:Pl->List bu) (g:Pl->Pl->Nat) (rk:Pl->Nat) (n:Nat) (cs:List Pl) (js:List (Pl×Pl)),ds=[.ref q,.int (n:Int)]/\eY M C q kd ((N:Int),0,1) st cn/\ChD kd N st cn ss g rk /\
 n<g aS ((N:Int),0,1)/\Drw ss g aS ((N:Int),0,1) n cs js/\R (jv kd N cs js) M
theorem g9(F:Fun K "drawing_by_number" "drawing_by_number" bL f fd) (T:Txt K mg) {C:Addr} (Z:eU K C) (ga6:FnD P w K mg base "arcs_between" 2 3 ((gn C))) (ga2:FnD P w K mg base "step_by_number" 2 4 ((fF C))) (Y1:FnD P w K mg base "next_place" 1 1 fG):bf P w K mg base CX0 3 f fd ["chart","number"] (spD K 2 (dA C)):=by
 have nd:=c7.nd;refine F.okR rfl c7 (fun cdv A outer s H E hr=>⟨_,(ai (aJ (i:=2) nd rfl (Or.inr rfl) IS)
   (ai (aJ (i:=3) nd rfl (Or.inl rfl) (g6 ag))
   (ai (aJ (i:=4) nd rfl (Or.inl rfl) (g6 (aa (bz (aa (rq rfl T.g_START) (aa (eN Z.c Z.n_end (ab 0)) (aa (ab 1) ag)))) ag)))
   (ai (mN PassesOwn.never (bh Gc (aG cf rfl T.b_len (by kernel_rfl) (aa (ab 4) ag)) ao nbh) (ai (jG (H0 (ab 4)) (dX rfl (aK (aF (i:=5) nd rfl (Or.inl rfl)) (aK (aF (i:=6) nd rfl (Or.inl rfl)) (aK (aF (i:=7) nd rfl (Or.inl rfl)) dZ)))))
   (bc (aw (cF (bh (Gx hr.units) (ab 5) (ab 6) nbh) (bc (ai (jG (qd ga2 hr (aa (ab 0) (aa (ab 5) (aa (ab 6) (aa (ab 7) ag))))) (dX rfl (aK (dX rfl (aK (aF (i:=8) nd rfl (Or.inl rfl)) (aK (aF (i:=9) nd rfl (Or.inl rfl)) (aK (aF (i:=10) nd rfl (Or.inl rfl)) dZ)))) (aK (aF (i:=11) nd rfl (Or.inl rfl)) dZ))))
   (bc (ai (jG (aG yh rfl T.b_divmod (by kernel_rfl) (aa (ab 11) (aa (iD hr.units1 (iD hr.units1 (eN Z.c Z.n_counts (ab 0)) (ab 9) (fun _ _=>rfl)) (ab 6) (fun _ _=>rfl)) ag))) (dX rfl (aK (aF (i:=12) nd rfl (Or.inl rfl)) (aK (aF (i:=13) nd rfl (Or.inl rfl)) dZ))))
   (bc (ai (iL (oj (ab 4) (bz (aa (ab 9) (aa (ab 6) (aa (ab 13) ag))))))
   (bc (aw (cF (bh Hg (ab 8) ud nbh) (bc (aw (qO hr.units1 (ab 2) (aZ aY (pI (ab 9)) ao (fun _ _=>rfl)) (aZ aY (pI (ab 9)) ao (fun _ _=>rfl))))) (ai (iL (oj (ab 3) (bz (aa (ab 5) (aa (ab 8) ag)))))
   (aw (iL (oj (ab 4) (bz (aa (qd Y1 hr (aa (ab 5) ag)) (aa (ab 8) (aa (ab 12) ag))))))))))))))))) bN)))))
   (bc (ai (aJ (i:=14) nd rfl (Or.inl rfl) (cq eZ rfl T.b_tuple (by kernel_rfl) (aa (kq (ms:=[false,false,true,false,false,false,false,false,false,false,false,false,false,false,false]) (ar:=["word"]) (aR rfl (show bA (am bL) cw _ _=true from by decide +kernel)) rfl (bU rfl T.b_range (aa (aZ aY (pI (eN Z.c Z.n_end (ab 0))) ao (fun _ _=>rfl)) ag)) (aN (i:=15) (show(cw++_).Nodup from by decide +kernel) rfl rfl) (fun _ _ _ _=>ck) (fun _ _ _ _=>(BL hr.units1 (ab 2) (ab 15) (fun _ _=>rfl)))) ag)))
   (bc (qS 3 (aw (iI (bz (aa (ab 14) (aa (qd ga6 hr (aa (ab 0) (aa (ab 14) (aa (ab 3) ag)))) ag))))))))))))),fun ds M R _ hS bk=>?_⟩)
 obtain⟨q,kd,N,st,cn,ss,g,rk,n,cs,js,rfl,hC,X,hn,hd,k⟩:=hS;have hC':=hC;obtain⟨sa,c,hsc,hq,hs,hc⟩:=hC;refine bk ?_;clear bk;walk_at "rd";intro p hp;refine⟨Nat.zero_le _,fun p1 hp1=>?_⟩;have n1:p1≠p:=nn hp1 ah;rw[ak n1]at hp1;have ne0:∀{a u},M a=some u->a≠p/\a≠p1:=fun {a u} e=>⟨(nn hp e).symm,(nn hp1 e).symm⟩;refine⟨_,by rw[ak (ne0 hq).2,ak (ne0 hq).1];exact hq,_,rfl,sz3 3,sz3 1,fun p2 hp2=>?_⟩;have n2:p2≠p1:=nn hp2 ah;rw[ak n2]at hp2;have n3:p2≠p:=nn hp2 ah;rw[ak n3]at hp2;have keep:∀{A B D':HD} {a:Addr} {u:HD},M a=some u->av (av (av M p A) p1 B) p2 D' a=some u:=fun {A B D' a u} e=>by
  obtain⟨h1,h2⟩:=ne0 e;have h3:a≠p2:=(nn hp2 e).symm;rw[ak h3,ak h2,ak h1];exact e
 have chart:∀{A B D':HD},eY (av (av (av M p A) p1 B) p2 D') C q kd ((N:Int),0,1) st cn:=fun {A B D'}=>⟨sa,c,hsc,keep hq,keep hs,keep hc⟩;have P0:=(X.dec.prop hd X.beg hn).1;have hjl:js.length<63:=by
  have h1:=sj (f:=fun j:Pl×Pl=>rk j.1) (R:=rk aS) P0.up fun j hj=>(P0.rk_ j hj).1;have h2:=X.rk0;omega
 refine⟨IG M kd ss g rk cs js q p p1 p2 n,
  ⟨_,[⟨D.tup [kD (Sum.inl (-1)),kD (Sum.inl 0),kD (Sum.inl 0)],aS,((N:Int),0,1),n,cs,js⟩],[],[],_,_,_,_,_,_,_,_,_,_,rfl,rfl,?_,rfl,?_,by simp,by simp⟩,?_⟩
 ·intro t ht;rw[List.mem_singleton.mp ht];exact⟨X.beg,hn,hd,.inr rfl,fun h=>absurd rfl h⟩
 ·have:=X.rk0;simp only[List.map_cons,List.map_nil,List.sum_cons,List.sum_nil,SI.wt];omega
 intro m Δ M' hI;refine shr fun _ bk=>?_;obtain⟨S,dc,dj,x5,x6,x7,x8,x9,x10,x11,x12,x13,x14,rfl,rfl,hS,rfl,hm,ec,ej⟩:=hI;refine bk ?_;clear bk;have bp:gB (rdM (av (av (av M p (.dK (kbD dc))) p1 (.lst (dj.map jD))) p2 (.lst (S.map SI.d))) (D.ref p2))=some (.int (S.length:Int)):=by
  rw[eV ah];simp[gB]
 refine⟨_,rfl,_,bp,_,rfl,_,rfl,?_⟩
 by_cases hS0:S=[]
 ·subst hS0;rw[if_neg (by simp)];have ec2:cs=dc:=by simpa using ec
  have ej2:js=dj:=by simpa using ej
  subst ec2;subst ej2;obtain⟨hl,ha,hN,hcc⟩:=ChD.at_ P0;obtain⟨hch,hmem⟩:=X.chs P0;have h50:=X.N0;refine aC ?_;walk_at "rd";refine⟨_,keep hq,_,rfl,_,rfl,_,rfl,_,rfl,by omega,by omega,by rw[cC];exact Nat.le_trans (show _<=1000 by exact Nat.le_trans (by assumption) (by decide)) (sz3 1000),?_⟩;have hcd:eM [false,false,true,false,false,false,false,false,false,false,false,false,false,false,false] 1 [some (D.ref q),some (D.int (n:Int)),some (D.ref p),some (D.ref p1),some (D.ref p2),x5,x6,x7,x8,x9,x10,x11,x12,x13,x14]=[none,none,some (D.ref p),none,none,none,none,none,none,none,none,none,none,none,none,none]:=rfl;rw[hcd,Int.toNat_natCast,iJ];refine bJ (fun(a:Nat)=>D.int (0+(a:Int))) (fun _=>true) (fun a=>D.int (((cs[a]?).map fun b=>b.2.1).getD 0)) (fun Δ=>∃e,Δ=[none,none,some (D.ref p),none,none,none,none,none,none,none,none,none,none,none,none,e]) _ _ _ ?_ ⟨_,rfl⟩ ?_
  ·rintro a ha' Δ ⟨e,rfl⟩;have ha2:a<N:=List.mem_range.mp ha';have hb:cs[a]?=some (cs[a]'(by omega)):=List.getElem?_eq_getElem _;refine⟨_,rfl,⟨_,rfl⟩,fun Q1 q=>q,fun _ Q2 q2=>?_⟩;simp only[zC,eh];rw[hb]at q2;exact⟨_,rfl,_,rfl,p,kbD cs,.inl (0+(a:Int)),_,rfl,by rw[ak n3.symm,ak n1.symm,ah],rfl,yZ (fun k b hk=>by have:=(ha k b hk).1;omega) hb,q2⟩
  rw[List.filter_eq_self.mpr (fun _ _=>rfl),List.nil_append];have hys:((List.range N).map fun a=>D.int (((cs[a]?).map fun b=>b.2.1).getD 0))=(cH N cs).map .int:=by
   refine List.ext_getElem? fun i=>?_;unfold cH;rw[List.getElem?_map,List.getElem?_map,List.getElem?_map]
   by_cases c:i<N
   ·rw[List.getElem?_range c,List.getElem?_take_of_lt c,List.getElem?_eq_getElem (show i<cs.length by omega)];simp[show i<cs.length by omega]
   ·rw[List.getElem?_eq_none (by rw[List.length_range];omega),List.getElem?_eq_none (by rw[List.length_take];omega)];rfl
  rw[hys];have dl:∀{a u},M a=some u->fZ (av (av (av M p (.dK (kbD cs))) p1 (.lst (js.map jD))) p2 (.lst [])) p1 a=some u:=fun {a u} e=>by
   rw[kA (ne0 e).2];exact keep e
  refine aC ?_;walk_at "rd";exact⟨_,by rw[ak n2.symm,ah],q,kd,_,st,cn,cH N cs,js,rfl,⟨sa,c,hsc,dl hq,dl hs,dl hc⟩,hch,hmem,by exact Nat.le_trans (by assumption) (by decide),sz3 2,M,fun a u e=>dl e,k⟩
 ·rw[if_pos (by have:=List.length_pos_iff.mpr hS0;simp;assumption)];obtain⟨S',t,rfl⟩:∃S' t,S=S'++[t]:=⟨_,_,(List.dropLast_concat_getLast hS0).symm⟩;rw[List.map_append,List.map_cons,List.map_nil];refine⟨_,rfl,p2,rfl,_,_,ah,?_⟩;rw[aD];have ok:=hS t (List.mem_append_right _ (.head _));have hS':∀t∈S',SI.Ok kd ss g t:=fun u hu=>hS u (List.mem_append_left _ hu);rw[List.reverse_append,List.flatMap_append]at ec ej;have ec':cs=dc++(t.cs++S'.reverse.flatMap SI.cs):=by simpa using ec
  have ej':js=dj++(t.js++S'.reverse.flatMap SI.js):=by simpa using ej
  rw[List.map_append,List.sum_append]at hm ⊢;refine⟨_,rfl,aC ?_⟩;walk_at "rd";refine⟨_,(by rw[Hm ok.key];exact GT ok.key),_,rfl,?_⟩
  by_cases hpq:t.p=t.q
  ·rw[if_neg (by simp[hpq])];obtain⟨e1,e2⟩:=ok.drw.same hpq;rw[e1,List.nil_append]at ec';rw[e2,List.nil_append]at ej';exact⟨(S'.map (SI.wt rk)).sum,by simp[SI.wt],S',dc,dj,_,_,_,_,_,_,_,_,_,_,rfl,rfl,hS',rfl,by omega,ec',ej'⟩
  rw[if_pos (by simp[hpq])];obtain⟨s,left,hstp,hrest⟩:=ok.drw.inv hpq;obtain⟨hsm,hleft⟩:=cD hstp;obtain⟨hA,l,hl,hlg,_,_⟩:=X.step ok.a t.q hsm;have hg0:0<g s.2.1 t.q:=by
   cases h:g s.2.1 t.q with
   |zero=>rw[h,Nat.mul_zero]at hleft;omega
   |succ _=>omega
  have hval:bw (cnK cn) (plK s.2.1)=some (gC (cv l)):=by rw[cnK,eC (fun l=>gC (cv l)),hl];rfl
  have hv2:bw (cv l) (plK t.q)=some (.int (g s.2.1 t.q:Int)):=by
   rw[cv,eC D.int];have:=hlg t.q;cases h:lkP l t.q with
   |none =>
    rw[h]at this;exact absurd (show(0:Int)=(g s.2.1 t.q:Int)from this) (by omega)
   |some v =>
    rw[h]at this;exact congrArg some (congrArg D.int (show v=(g s.2.1 t.q:Int)from this))
  have hdm:=FY (i:=(left:Int)) (Cu hg0 (X.few _ hA t.q));rw[<-Int.natCast_ediv,<-Int.natCast_emod]at hdm;have hSl:S'.length<=(S'.map (SI.wt rk)).sum:=wU fun t=>Nat.succ_pos _;refine aC ?_;walk_at "rd";refine⟨q,t.p,t.bd,t.q,t.n,kd,_,st,cn,ss t.p,_,s,left,rfl,ok.key,chart,(X.st _ ok.a).1,(X.st _ ok.a).2,fun s' hs'=>?_,hstp,_,rfl,aC ?_⟩
  ·obtain⟨_,l',h1,_,h2,h3⟩:=X.step ok.a t.q hs';exact⟨l',h1,h2,h3⟩
  walk_at "rd";refine⟨_,keep hq,_,rfl,_,cX (keep hc),plK s.2.1,rfl,_,hval,_,iP,plK t.q,rfl,_,hv2,_,hdm,_,rfl,aC ?_⟩;walk_at "rd";refine⟨sz3 3,by rw[List.length_map,sizeLine_eq];omega,?_⟩;rcases hrest with⟨hs0,cs',d',ecs⟩|⟨m,cs1,cs2,js1,js2,hs1,d1,d2,ecs,ejs⟩
  ·rw[hs0];obtain⟨a1,a2,a3,_⟩:=X.dec.no _ ok.a s hsm hs0;have hr:=X.dec.reach _ hA _ hg0;have hrq:rk t.q<=rk s.2.1:=by
    rcases hr with e|e
    ·rw[e];exact Nat.le_refl _
    ·exact Nat.le_of_lt (by assumption)
   rw[ecs]at ec';have hne:=Gf P0 ec';have hdl:dc.length<=61:=by
    have h1:=P0.len;have h2:=X.N0;rw[ec',List.length_append]at h1;simp only[aS]at h1;omega
   refine aC ?_;walk_at "rd";rw[if_pos (by rfl)];refine aC ?_;walk_at "rd";refine⟨_,rfl,_,rfl,_,rfl,_,rfl,kbD dc,by rw[ak n3.symm,ak n1.symm,ah],.inl s.2.1.1,rfl,by rw[kbD,List.length_map,sizeLine_eq];omega,?_⟩;rw[show df (kbD dc) (.inl s.2.1.1) (kD (.inl s.2.1.2.1))=kbD (dc++[s.2.1])from EV hne];refine⟨(S'.map (SI.wt rk)).sum+(2*(rk s.2.1-rk t.q)+1),by simp[SI.wt];omega,S'++[⟨plD s.2.1,s.2.1,t.q,left % g s.2.1 t.q,cs',t.js⟩],dc++[s.2.1],dj,_,_,_,_,_,_,_,_,_,_,rfl,?_,fun u hu=>?_,by simp[SI.wt],?_,?_,?_⟩
   ·rw[bt n3,bt n1,aD,List.map_append];rfl
   ·rcases List.mem_append.mp hu with h|h
    ·exact hS' u h
    ·rw[List.mem_singleton.mp h];exact⟨a1,Nat.mod_lt _ hg0,d',.inl rfl,fun _=>rfl⟩
   ·simp[SI.wt]at hm;omega
   ·rw[ec'];simp
   ·rw[ej'];simp
  ·rw[hs1];obtain⟨b1,b2,b3,b4,b5,b6,b7,b8,b9⟩:=X.dec.yes _ ok.a s hsm m hs1;have hps:t.p≠aS:=fun z=>by
    have:=X.s0 0;rw[show((-1,0,0):Pl)=t.p from z.symm]at this;rw[this]at b8;cases b8
   have hbd:=ok.no hps;rw[hbd];refine aC ?_;walk_at "rd";rw[if_neg (by simp[plD,lR,rdM,ny])];have hw:left / g s.2.1 t.q<g (nxt t.p) m:=by
    rw[b4,Int.toNat_natCast,Nat.mul_comm]at hleft;exact Nat.div_lt_of_lt_mul hleft
   have hrm:rk m<=rk (nxt t.p):=by
    rcases X.dec.reach _ b5 m (Nat.lt_of_le_of_lt (Nat.zero_le _) hw)with e|e
    ·rw[e];exact Nat.le_refl _
    ·exact Nat.le_of_lt (by assumption)
   have hrq:rk t.q<=rk s.2.1:=by
    rcases X.dec.reach _ hA _ hg0 with e|e
    ·rw[e];exact Nat.le_refl _
    ·exact Nat.le_of_lt (by assumption)
   have hrs:rk s.2.1<rk m:=by rw[b2];exact b7
   have hdj:dj.length<63:=by rw[ej',List.length_append]at hjl;omega
   refine⟨_,by rw[ak n2.symm,ah],sz3 2,_,by rw[ak n2.symm,ah],by rw[List.length_map,sizeLine_eq];exact Nat.le_trans (by assumption) (by decide),_,by rw[ak n2,ah],t.p,rfl,sz3 3,_,by rw[ak n2,ah],by simp only[List.length_append,List.length_map,List.length_cons,List.length_nil];rw[sizeLine_eq];omega,?_⟩;refine⟨(S'.map (SI.wt rk)).sum+((2*(rk s.2.1-rk t.q)+1)+(2*(rk (nxt t.p)-rk m)+1)),by simp[SI.wt];omega,S'++[⟨plD s.2.1,s.2.1,t.q,left % g s.2.1 t.q,cs2,js2⟩,⟨plD (nxt t.p),nxt t.p,m,left / g s.2.1 t.q,cs1,js1⟩],dc,dj++[(t.p,m)],_,_,_,_,_,_,_,_,_,_,rfl,?_,fun u hu=>?_,by simp[SI.wt],?_,?_,?_⟩
   ·rw[<-bt n2,aD,bt n2,aD,List.map_append,List.map_append,List.append_assoc];rfl
   ·rcases List.mem_append.mp hu with h|h
    ·exact hS' u h
    ·rcases List.mem_cons.mp h with e|h
     ·rw[e];exact⟨hA,Nat.mod_lt _ hg0,d2,.inl rfl,fun _=>rfl⟩
     ·rw[List.mem_singleton.mp h];exact⟨b5,hw,d1,.inl rfl,fun _=>rfl⟩
   ·simp[SI.wt]at hm;omega
   ·rw[ec',ecs];simp
   ·rw[ej',ejs];simp
def kP:SpD:=fun ds M R=>∃i:Int,ds=[.int i]/\R (.bl true) M
theorem oR(F:Fun K "is_whole" "is_whole" gI f fd) (T:Txt K mg) :bf P w K mg base CX0 1 f fd ["thing"] (spD K 1 kP):=by
 have nd:=jy.nd;refine F.okR rfl jy (fun cdv A outer s H E hr=>⟨_,(aw (aV (pY (zj (Tn:="int") (by decide) rfl T.b_isinstance rfl T.b_int (by kernel_rfl) (ab 0)) (pz (GK (zj (Tn:="bool") (by decide) rfl T.b_isinstance rfl T.b_bool (by kernel_rfl) (ab 0))))))),fun ds M R _ hS bk=>?_⟩);obtain⟨i,rfl,k⟩:=hS;refine bk ?_;clear bk;walk_at "rd";refine⟨true,rfl,?_⟩;simp only[if_true];exact⟨false,rfl,k⟩
section
variable{aj:List (Str×List Row)}{aq:Str}{ws:List Str}{K B:Nat}{ord:List (Str×Str)}
abbrev gOf(ord:List (Str×Str)) (aj:List (Str×List Row)) (aq:Str) (ws:List Str) (B:Nat):Pl->Pl->Nat:=cnt (rel ord) (bx (aQ aj aq ws)) (cO (ws.length:Int) B)
theorem C1(he:pA aj K B) (hK:1<=K) (hB:1<=B) (hK8:K<=8) (hR:(ws.length+2)*(B+1)<60) (hS:(ws.length+2)*(K*(B+1))<=900) (ho:ord.length<=500) :
  yf ord (aQ aj aq ws) (ws.length:Int)/\ChD (aQ aj aq ws) ws.length (bF ord (aQ aj aq ws) (af (aQ aj aq ws)).reverse).1 (bF ord (aQ aj aq ws) (af (aQ aj aq ws)).reverse).2 (ko ord (aQ aj aq ws)) (gOf ord aj aq ws B) (cO (ws.length:Int) B):=by
 have ok:=pj (aq:=aq) (ws:=ws) he hK hB;have bp:(aQ aj aq ws).length=ws.length+2:=by simp[aQ,cu]
 have hm:((ws.length:Int),[[(aq,1)]])∈aQ aj aq ws:=gL.mpr (.inr (.inr rfl));have h1:((-1:Int),([[]]:List Row))∈aQ aj aq ws:=gL.mpr (.inl rfl);have hs:aS∈af (aQ aj aq ws):=aX.mpr ⟨(-1,[[]]),h1,0,[],0,rfl,Nat.le_refl _,rfl⟩;have hR':((ws.length:Int)+2)*((B:Int)+1)<60:=by
  have:=Int.ofNat_lt.mpr hR;simpa using this
 have hS':(aQ aj aq ws).length*(K*(B+1))<=900:=by rw[bp];exact hS
 obtain⟨c1,c2⟩:=tq ok hK8 (by omega) hS' (ord:=ord) ho hm;have hw:ws.length+2<=(ws.length+2)*(B+1):=Nat.le_mul_of_pos_right _ (by omega);have hB2:B+1<=(ws.length+2)*(B+1):=Nat.le_mul_of_pos_left _ (by omega);refine⟨c1,Fq ok,fun p hp=>?_,fun p hp=>?_,fun p hp q=>?_,hs,fun j=>?_,?_,by omega,fun z hz=>?_⟩
 ·obtain⟨cn,a1,a2⟩:=uH ok (ord:=ord) _ (Nat.le_refl _) p (by rw[List.take_of_length_le (by rw[List.length_reverse];exact Nat.le_refl _)];exact List.mem_reverse.mpr hp);rw[List.take_of_length_le (by rw[List.length_reverse];exact Nat.le_refl _)]at a1;have e:ko ord (aQ aj aq ws) p=aO ord (aQ aj aq ws) p ((lkP cn (nxt p)).getD []):=by show(lkP _ p).getD []=_;rw[a1];rfl
  have h3:=(mP ok hp a2).2.1;have h4:=nF ok;rw[e];refine⟨a1,Nat.le_trans h3 (by omega)⟩
 ·obtain⟨l,a1,a2⟩:=c2 p hp;exact⟨l,a1,a2.2.2⟩
 ·have h3:=ok.rk hp;have h4:=wg (R:=rel ord) (rk:=cO (ws.length:Int) B) (k:=K) (f:=100) ok.bgl (p:=p) (q:=q) (by omega) (Nat.le_refl _);exact Nat.le_trans h4 (Nat.mul_le_mul (Nat.pow_le_pow_left (show K+2<=2 ^ 4 by omega) _) (Nat.pow_le_pow_left (show 100<=2 ^ 7 by decide) _))
 ·show((look (aQ aj aq ws) (-1)).bind (·[(0:Int).toNat]?)).bind (·[j.toNat]?)=none;rw[jf ok.up h1];simp
 ·show(((ws.length:Int)+1-(-1))*((B:Int)+1)-0).toNat<60;rw[show(ws.length:Int)+1-(-1)=(ws.length:Int)+2 by omega];omega
 ·obtain⟨q,hq,i,row,j,hr,hj,rfl⟩:=aX.mp hz;refine⟨q.2,row,i,j,jf ok.up hq,rfl,hr,?_⟩;have:=(ok.bd q hq).2.2.2 row (List.mem_of_getElem? hr);omega
structure GZ(ord:List (Str×Str)) (aq:Str) (aj:List (Str×List Row)) (ws:List Str) (B:Nat):Prop where
 few:aj.length<=8
 wd:∀w∈ws,w∈aj.map (·.1)/\dh w
 ch:yf ord (aQ aj aq ws) (ws.length:Int)
 x:ChD (aQ aj aq ws) ws.length (bF ord (aQ aj aq ws) (af (aQ aj aq ws)).reverse).1 (bF ord (aQ aj aq ws) (af (aQ aj aq ws)).reverse).2 (ko ord (aQ aj aq ws)) (gOf ord aj aq ws B) (cO (ws.length:Int) B)
end
def iY:SpD:=fun ds M R=>∃(ord:List (Str×Str)) (aq:Str) (aj:List (Str×List Row)) (ws:List Str) (B n:Nat) (cs:List Pl) (js:List (Pl×Pl)),ds=[gd ord aq aj,.tup (ws.map .str),.int (n:Int)]/\GZ ord aq aj ws B/\n<gOf ord aj aq ws B aS ((ws.length:Int),0,1) /\
 Drw (ko ord (aQ aj aq ws)) (gOf ord aj aq ws B) aS ((ws.length:Int),0,1) n cs js/\R (jv (aQ aj aq ws) ws.length cs js) M
theorem mM(F:Fun K "drawing_at" "drawing_at" fu f fd) (T:Txt K mg) {C:Addr} (Y6:FnD P w K mg base "chart_of" 9 2 ((gH C))) (Y7:FnD P w K mg base "drawing_by_number" 3 2 ((dA C))) (gc0:FnD P w K mg base "is_whole" 1 1 kP) (Y2:FnD P w K mg base "count_of_all" 1 1 ((dO C))):bf P w K mg base CX0 10 f fd ["lexicon","words","number"] (spD K 3 iY):=by
 have nd:=ie.nd;refine F.okR rfl ie (fun cdv A outer s H E hr=>⟨_,(ai (aJ (i:=3) nd rfl (Or.inl rfl) (qd Y6 hr (aa (ab 0) (aa (ab 1) ag))))
   (ai (cF (xZ (zN (uS (rj (qd gc0 hr (aa (ab 2) ag)))) (u7 (uS (AV CS yJ ao (ab 2) (qd Y2 hr (aa (ab 3) ag))))))) (aw vT) bN)
   (aw (iI (qd Y7 hr (aa (ab 3) (aa (ab 2) ag))))))),fun ds M R _ hS bk=>?_⟩)
 obtain⟨ord,aq,aj,ws,B,n,cs,js,rfl,L,hn,hd,k⟩:=hS;refine bk ?_;clear bk;walk_at "rd";have h60:=L.x.N0;refine⟨ord,aq,aj,ws,(ws.length:Int),rfl,L.few,by exact Nat.le_trans (by assumption) (by decide),L.wd,L.ch,fun q s c hq hs hc hqs hqc hsc=>⟨(n:Int),rfl,true,rfl,?_⟩⟩;rw[if_neg (by simp),if_pos (by omega)];obtain⟨l,hl,hlg⟩:=L.x.cn _ L.x.beg;refine⟨q,_,_,_,_,l,rfl,nz hqs hqc hsc,hl,_,rfl,_,rfl,?_⟩;rw[hlg,if_neg (by simp;exact hn)];refine⟨q,_,ws.length,_,_,_,_,_,n,cs,js,rfl,nz hqs hqc hsc,L.x,hn,hd,M,fun a u e=>?_,k⟩;have h1:a≠q:=(nn hq e).symm;have h2:a≠s:=(nn hs e).symm;have h3:a≠c:=(nn hc e).symm;unfold chM;rw[ak h3,ak h2,ak h1];exact e
section
variable{kd:KD}{N:Nat}{st:List (Pl×List bu)}{cn:List (Pl×List (Pl×Int))}{ss:Pl->List bu}{g:Pl->Pl->Nat}{rk:Pl->Nat}{cs:List Pl}{js:List (Pl×Pl)}
theorem FV{a b:Int×Int}(h:pD a=pD b):a=b:=by
 obtain⟨a1,a2⟩:=a;obtain⟨b1,b2⟩:=b;simpa[pD]using h
theorem BJ{kd:KD}{ch:List Int}{a b:Pl}(ha:a∈bT kd ch) (hb:b∈bT kd ch) (h:lt2 a b):(bT kd ch).idxOf a<(bT kd ch).idxOf b:=by
 have h1:=List.idxOf_lt_length_of_mem ha;have h2:=List.idxOf_lt_length_of_mem hb;rcases Nat.lt_trichotomy ((bT kd ch).idxOf a) ((bT kd ch).idxOf b)with c|c|c
 ·exact c
 ·have e:a=b:=by
   have e1:=List.getElem_idxOf h1;have e2:=List.getElem_idxOf h2;rw[<-e1,<-e2];simp only[c]
  rw[e]at h;unfold lt2 at h;omega
 ·have:=List.pairwise_iff_getElem.mp (zL (kd:=kd) (ch:=ch)) _ _ h2 h1 c;rw[List.getElem_idxOf h1,List.getElem_idxOf h2]at this;unfold lt2 at h this;omega
theorem vZ{l:List Pl}{a b:Pl}(ha:a∈l) (h:l.idxOf a=l.idxOf b) (hb:b∈l):a=b:=by
 have h1:=List.idxOf_lt_length_of_mem ha;have h2:=List.idxOf_lt_length_of_mem hb;rw[<-List.getElem_idxOf h1,<-List.getElem_idxOf h2];simp only[h]
theorem Di(X:ChD kd N st cn ss g rk) (hlt:∀a b:Pl,a∈af kd->b∈af kd->rk b<rk a->lt2 a b) {n n':Nat}{cs':List Pl}{js':List (Pl×Pl)}(hn:n<g aS ((N:Int),0,1)) (hn':n'<g aS ((N:Int),0,1))
  (d:Drw ss g aS ((N:Int),0,1) n cs js) (d':Drw ss g aS ((N:Int),0,1) n' cs' js') (e:jv kd N cs js=jv kd N cs' js'):n=n':=by
 have P:=(X.dec.prop d X.beg hn).1;have P':=(X.dec.prop d' X.beg hn').1;unfold jv at e;injection e with e
 injection e with e1 e2
 injection e1 with e1
 injection e2 with e2 _
 injection e2 with e2
 have ech:cH N cs=cH N cs':=kB (fun x y h=>by injection h) e1;have earc:nB kd (cH N cs) js=nB kd (cH N cs') js':=kB (fun x y h=>FV h) e2;obtain⟨hl,ha,hN,hc⟩:=ChD.at_ P;obtain⟨hl',ha',hN',hc'⟩:=ChD.at_ P';have ecs:cs=cs':=by
  refine List.ext_getElem? fun i=>?_
  by_cases c:i<=N
  ·have h1:=hc i c;have h2:=hc' i c;rw[ech,h2]at h1;rw[List.getElem?_eq_getElem (show i<cs.length by omega),List.getElem?_eq_getElem (show i<cs'.length by omega)]at h1 ⊢;obtain⟨a1,a2,_⟩:=ha i _ (List.getElem?_eq_getElem (show i<cs.length by omega));obtain⟨b1,b2,_⟩:=ha' i _ (List.getElem?_eq_getElem (show i<cs'.length by omega));have h3:cs'[i].2.1=cs[i].2.1:=by simpa using h1
   congr 1;refine Prod.ext (by rw[a1,b1]) (Prod.ext h3.symm (by rw[a2,b2]))
  ·rw[List.getElem?_eq_none (by omega),List.getElem?_eq_none (by omega)]
 rw[<-ech]at earc;have hmem:=(X.chs P).2;have hmem':=(X.chs P').2;rw[<-ech]at hmem';have srt:∀{js:List (Pl×Pl)},zz kd rk aS ((N:Int),0,1) cs js->(∀j∈js,j.1∈bT kd (cH N cs)/\j.2∈bT kd (cH N cs))->nB kd (cH N cs) js=js.map fun j=>(ixP kd (cH N cs) j.1,ixP kd (cH N cs) j.2):=fun {js} P hm=>by
  refine(sV (List.Perm.refl _) ?_).symm;rw[List.pairwise_map];refine List.Pairwise.imp_of_mem (fun {a b} hA hB (h:rk b.1<rk a.1)=>?_) P.up;have h1:=BJ (hm a hA).1 (hm b hB).1 (hlt _ _ (P.mem a hA _ (.inl rfl)).1 (P.mem b hB _ (.inl rfl)).1 h);unfold leP ixP;rw[Bool.not_eq_true',lD];exact .inl (Int.ofNat_lt.mpr h1)
 rw[srt P hmem,srt (ecs▸P') hmem']at earc;have ejs:js=js':=by
  have key:∀{js js':List (Pl×Pl)},(∀j∈js,j.1∈bT kd (cH N cs)/\j.2∈bT kd (cH N cs))->(∀j∈js',j.1∈bT kd (cH N cs)/\j.2∈bT kd (cH N cs))->(js.map fun j=>(ixP kd (cH N cs) j.1,ixP kd (cH N cs) j.2))=(js'.map fun j=>(ixP kd (cH N cs) j.1,ixP kd (cH N cs) j.2))->js=js':=by
   intro js
   induction js with
   |nil=>intro js' _ _ h;cases js' with|nil=>rfl|cons _ _=>cases h
   |cons a l ih =>
    intro js' h1 h2 h;cases js' with
    |nil=>cases h
    |cons b m =>
     rw[List.map_cons,List.map_cons]at h;injection h with q1 q2
     injection q1 with q3 q4
     have a1:=h1 a (.head _);have b1:=h2 b (.head _);rw[Prod.ext (vZ a1.1 (Int.ofNat.inj q3) b1.1) (vZ a1.2 (Int.ofNat.inj q4) b1.2),ih (fun j hj=>h1 j (.tail _ hj)) (fun j hj=>h2 j (.tail _ hj)) q2]
  exact key hmem hmem' earc
 exact X.dec.inj d X.beg hn n' cs' js' d' hn' ecs ejs
end
theorem ET{kd:KD}{N:Int}{K B:Nat}(ok:gb kd N K B) {a b:Pl}(ha:a∈af kd) (hb:b∈af kd) (h:cO N B b<cO N B a):lt2 a b:=by
 obtain⟨q,hq,i,row,j,hr,hj,rfl⟩:=aX.mp ha;obtain⟨q',hq',i',row',j',hr',hj',rfl⟩:=aX.mp hb;obtain⟨_,h1,_,h2⟩:=ok.bd q hq;obtain⟨_,h1',_,h2'⟩:=ok.bd q' hq';have h3:=h2 row (List.mem_of_getElem? hr);have h3':=h2' row' (List.mem_of_getElem? hr');have hx:((N+1-q'.1)*((B:Int)+1)-(j':Int)).toNat<((N+1-q.1)*((B:Int)+1)-(j:Int)).toNat:=h;show q.1<q'.1∨(q.1=q'.1/\(j:Int)<(j':Int));rcases Int.lt_trichotomy q.1 q'.1 with c|c|c
 ·exact .inl c
 ·right;rw[c]at hx;exact⟨c,by omega⟩
 ·have h5:(N+1-q'.1)*((B:Int)+1)=(N+1-q.1)*((B:Int)+1)+(q.1-q'.1)*((B:Int)+1):=by
   rw[<-Int.add_mul];congr 1;omega
  have h6:1*((B:Int)+1)<=(q.1-q'.1)*((B:Int)+1):=Int.mul_le_mul_of_nonneg_right (by omega) (by omega);have h7:0<=(N+1-q.1)*((B:Int)+1):=Int.mul_nonneg (by omega) (by omega);omega
def pf:SpD:=fun ds M R=>∃p l,ds=[.ref p]/\M p=some (.lst l)/\bq l/\∀(ws:List Str) l',ws≠[]->ws.length<=4->bq l'->R (.lst (ws.map .str)) (av M p (.lst l'))
theorem FI{v:Int}(h0:0<=v) (h1:v<26):∃y:Str,y.length=1/\ixD (.str (Str.ofString "nsabcdefghijklmopqrtuvwxyz")) (.int v)=some (.str y):=by
 obtain⟨n,rfl⟩:=Int.eq_ofNat_of_zero_le h0;have bp:(Str.ofString "nsabcdefghijklmopqrtuvwxyz").cps.toList.length=26:=by decide +kernel
 have hn:n<(Str.ofString "nsabcdefghijklmopqrtuvwxyz").cps.toList.length:=by omega
 refine⟨⟨#[(Str.ofString "nsabcdefghijklmopqrtuvwxyz").cps.toList[n]]⟩,rfl,?_⟩;rw[D2,if_pos (show(Str.ofString "nsabcdefghijklmopqrtuvwxyz").length<=sizeLine from by decide +kernel),bH (List.getElem?_eq_getElem hn)];rfl
theorem qA{te:TEd}{n:Nat}{S v1:D}{x:Option D}{M:DH}{Q:List D->DH->Prop}(h:∀(i:Nat) (X:D->DH->Prop),i<n->(∀y:Str,X (.str y) M)->te [none,some S,some v1,none,none,some (.int (0+(i:Int)))] M X)
  (q:∀ws:List Str,ws.length=n->Q (ws.map .str) M):fI (cb 5) u6 te (iJ 0 n) [none,some S,some v1,none,none,x] M [] Q:=by
 refine ou (fun i acc Δ M'=>∃(x:Option D) (ws:List Str),Δ=[none,some S,some v1,none,none,x]/\M'=M/\acc=ws.map .str/\ws.length=i) ⟨_,[],rfl,rfl,rfl,rfl⟩ ?_ ?_
 ·rintro i d acc Δ M' X hd ⟨x,ws,rfl,rfl,rfl,hw⟩ k';obtain⟨hi,rfl⟩:=gk hd;refine⟨_,rfl,?_⟩;simp only[u6,if_true];exact h i _ hi fun y=>k' _ _ _ ⟨_,ws++[y],rfl,rfl,by simp,by simp[hw]⟩
 ·rintro acc Δ M' ⟨x,ws,rfl,rfl,rfl,hw⟩;rw[cC]at hw;exact q ws hw
theorem ui(F:Fun K "_law_marks" "_law_marks" fc f fd) (T:Txt K mg) (Y0:FnD P w K mg base "_law_draw" 1 2 cR):bf P w K mg base CX0 2 f fd ["_law_well_here"] (spD K 1 pf):=by
 have nd:=oI.nd;refine F.okR rfl oI (fun cdv A outer s H E hr=>⟨_,(ai (aJ (i:=1) nd rfl (Or.inr rfl) lX)
   (ai (aJ (i:=2) nd rfl (Or.inr rfl) (qd Y0 hr (aa (ab 0) (aa ao ag))))
   (ai (aJ (i:=3) nd rfl (Or.inl rfl) (aM aW ao (qd Y0 hr (aa (ab 0) (aa ao ag)))))
   (ai (aJ (i:=4) nd rfl (Or.inl rfl) (qd Y0 hr (aa (ab 0) (aa ao ag))))
   (ai (cF (bh (oH hr.units) (ab 4) ao nbh) (aw (aV (kq (ms:=[false,true,true,false,false]) (ar:=["_law_k"]) (aR rfl (show bA (am fc) dD _ _=true from by decide +kernel)) rfl (bU rfl T.b_range (aa (ab 3) ag)) (aN (i:=5) (show(dD++_).Nodup from by decide +kernel) rfl rfl) (fun _ _ _ _=>ck) (fun _ _ _ _=>(aM c8 (aZ aY (ab 1) (ab 2) (fun _ _=>rfl)) (aM aW (ab 5) ao)))))) bN)
   (ai (cF (bh (oH hr.units) (ab 4) ao nbh) (aw (aV (kq (ms:=[false,true,true,false,false]) (ar:=["_law_k"]) (aR rfl (show bA (am fc) dD _ _=true from by decide +kernel)) rfl (bU rfl T.b_range (aa (ab 3) ag)) (aN (i:=5) (show(dD++_).Nodup from by decide +kernel) rfl rfl) (fun _ _ _ _=>ck) (fun _ _ _ _=>(aZ aY (ab 1) (aM fT (aM aW (ab 2) (aM c8 ao (ab 5))) ao) (fun _ _=>rfl)))))) bN)
   (aw (aV (kq (ms:=[false,true,true,false,false]) (ar:=["_law_k"]) (aR rfl (show bA (am fc) dD _ _=true from by decide +kernel)) rfl (bU rfl T.b_range (aa (ab 3) ag)) (aN (i:=5) (show(dD++_).Nodup from by decide +kernel) rfl rfl) (fun _ _ _ _=>ck) (fun _ _ _ _=>(aM aW (aZ aY (ab 1) (aM fT (aM aW (ab 2) (aM c8 ao (ab 5))) ao) (fun _ _=>rfl)) (aM c8 (aZ aY (ab 1) (ab 2) (fun _ _=>rfl)) ao)))))))))))),fun ds M R _ hS bk=>?_⟩)
 obtain⟨p,l,rfl,hM,hP,k⟩:=hS;refine bk ?_;clear bk;walk_at "rd";refine⟨p,l,26,rfl,hM,hP,by decide,by decide,fun v1 l1 a0 a1 hP1=>?_⟩;walk_at "rd";refine⟨p,l1,4,rfl,ah,hP1,by decide,by decide,fun v2 l2 b0 b1 hP2=>?_⟩;rw[aD];walk_at "rd";refine⟨p,l2,3,rfl,ah,hP2,by decide,by decide,fun v3 l3 c0 c1 hP3=>?_⟩;rw[aD];walk_at "rd";obtain⟨n,hn⟩:=Int.eq_ofNat_of_zero_le b0;have en:(1+v2).toNat=n+1:=by omega
 rw[en];obtain⟨y1,hy1,e1⟩:=FI a0 a1;have fin:∀ws:List Str,ws.length=n+1->R (.lst (ws.map .str)) (av M p (.lst l3)):=fun ws hw=>k ws l3 (by rintro rfl;simp at hw) (by omega) hP3;have hz:(iJ 0 (n+1)).length<=sizeLine:=by rw[cC];exact sz3 _ (by omega)
 refine gf (fun _=>⟨by omega,by omega,hz,qA (fun i X hi q=>?_) fin⟩) (fun _=>gf (fun _=>⟨by omega,by omega,hz,qA (fun i X hi q=>?_) fin⟩) (fun _=>⟨by omega,by omega,hz,qA (fun i X hi q=>?_) fin⟩))
 ·walk_at "rd";refine⟨_,e1,?_⟩;walk_at "rd";exact⟨_,if_pos ⟨by omega,by omega,by omega,by rw[hy1];omega⟩,q _⟩
 ·walk_at "rd";obtain⟨y,hy,e⟩:=FI (v:=(v1+3*(0+(i:Int))) % 26) (by omega) (by omega);exact⟨_,e,q y⟩
 ·walk_at "rd";obtain⟨y,hy,e⟩:=FI (v:=(v1+5*(0+(i:Int))) % 26) (by omega) (by omega);refine⟨_,e,_,e1,_,if_pos ⟨by omega,by decide,by decide,by rw[hy1];decide⟩,_,if_pos ?_,q _⟩;have hlm:=len_mul y1 7;simp at hlm;exact sz3 _ (by rw[hy];omega)
def pJ:SpD:=fun ds M R=>∃(p:Addr) (l:List D) (ax:List Str),ds=[.ref p,.lst (ax.map .str)]/\M p=some (.lst l)/\bq l/\ax≠[]/\ax.length<=9 /\
 ∀(ord:List (Str×Str)) l',ord.length<=8->(∀x∈ord,x.1∈ax/\x.2∈ax)->bq l'->R (.tup (ord.map ba)) (av M p (.lst l'))
theorem uu(F:Fun K "_law_order" "_law_order" lL f fd) (T:Txt K mg) (Y0:FnD P w K mg base "_law_draw" 1 2 cR):bf P w K mg base CX0 2 f fd ["_law_well_here","_law_marks_here"] (spD K 2 pJ):=by
 have nd:=nc.nd;refine F.okR rfl nc (fun cdv A outer s H E hr=>⟨_,(ai (aJ (i:=2) nd rfl (Or.inl rfl) (g6 ag))
   (ai (dY PassesOwn.never rfl (bU rfl T.b_range (aa (aZ aY (mm (aa ao (aa ao (aa ao (aa ao ag))))) (qd Y0 hr (aa (ab 0) (aa ao ag))) (fun _ _=>rfl)) ag)) (aF (i:=3) nd rfl (Or.inl rfl)) (aw (iL (oj (ab 2) (bz (aa (aZ aY (ab 1) (qd Y0 hr (aa (ab 0) (aa (aG cf rfl T.b_len (by kernel_rfl) (aa (ab 1) ag)) ag))) (fun _ _=>rfl)) (aa (aZ aY (ab 1) (qd Y0 hr (aa (ab 0) (aa (aG cf rfl T.b_len (by kernel_rfl) (aa (ab 1) ag)) ag))) (fun _ _=>rfl)) ag)))))))
   (aw (iI (cq eZ rfl T.b_tuple (by kernel_rfl) (aa (ab 2) ag)))))),fun ds M R _ hS bk=>?_⟩)
 obtain⟨p,l,ax,rfl,hM,hP,hm,hml,k⟩:=hS;refine bk ?_;clear bk;walk_at "rd";refine⟨sz3 0,fun q hq=>?_⟩;have hpq:p≠q:=(nn hq hM).symm;refine⟨sz3 4,p,l,4,rfl,by rw[ak hpq];exact hM,hP,by decide,by decide,fun v l1 h2 h3 hP1=>?_⟩;obtain⟨n,hn,en⟩:∃n:Nat,n<=8/\ixD (D.lst [D.int 0,D.int 2,D.int 4,D.int 8]) (.int v)=some (.int (n:Int)):=by
  have:v=0∨v=1∨v=2∨v=3:=by omega
  rcases this with rfl|rfl|rfl|rfl
  ·exact⟨0,by decide,rfl⟩
  ·exact⟨2,by decide,rfl⟩
  ·exact⟨4,by decide,rfl⟩
  ·exact⟨8,by decide,rfl⟩
 refine⟨_,en,_,rfl,by omega,by omega,?_⟩;have hmp:=List.length_pos_iff.mpr hm;refine br (fun i Δ M'=>∃(x3:Option D) (l2:List D) (ord:List (Str×Str)),Δ=[some (D.ref p),some (D.lst (ax.map D.str)),some (D.ref q),x3]/\M'=av (av M p (.lst l2)) q (.lst (ord.map ba))/\bq l2/\ord.length=i/\∀x∈ord,x.1∈ax/\x.2∈ax)
  ⟨_,l1,[],rfl,bt (Ne.symm hpq),hP1,rfl,fun x hx=>absurd hx (by simp)⟩ ?_ ?_
 ·intro i d Δ M' X hd hI k';refine shr fun _ bk=>?_;obtain⟨x3,l2,ord,rfl,rfl,hP2,hol,ho⟩:=hI;refine bk ?_;clear bk;have hi:i<8:=by have:=(gk hd).1;exact Nat.lt_of_lt_of_le (by assumption) (by assumption)
  simp only[cb];walk_at "rd";rw[List.length_map];refine⟨p,l2,_,rfl,by rw[ak hpq,ah],hP2,by omega,by omega,fun v1 l3 a0 a1 hP3=>?_⟩;obtain⟨m1,hm1,e1⟩:=gr a0 a1;refine⟨_,e1,p,l3,_,rfl,ah,hP3,by omega,by omega,fun v2 l4 b0 b1 hP4=>?_⟩;obtain⟨m2,hm2,e2⟩:=gr b0 b1;refine⟨_,e2,sz3 2,?_⟩;have em:av (av (av (av M p (.lst l2)) q (.lst (ord.map ba))) p (.lst l3)) p (.lst l4)=av (av M p (.lst l4)) q (.lst (ord.map ba)):=by
   rw[aD,<-bt hpq,aD]
  rw[em];refine⟨_,ah,by rw[List.length_map];exact Nat.lt_of_lt_of_le (by omega:ord.length<1000) (sz3 1000),?_⟩;rw[aD];refine k' _ _ ⟨_,l4,ord++[(m1,m2)],rfl,by simp[ba],hP4,by simp;assumption,fun x hx=>?_⟩;rcases List.mem_append.mp hx with h|h
  ·exact ho x h
  ·have:x=(m1,m2):=by simpa using h
   subst this;exact⟨hm1,hm2⟩
 ·intro Δ M' hI;refine shr fun _ bk=>?_;obtain⟨x3,l2,ord,rfl,rfl,hP2,hol,ho⟩:=hI;refine bk ?_;clear bk;rw[cC]at hol;walk_at "rd";exact⟨_,C5 (by rw[ak (Ne.symm hpq)];exact hq),k ord l2 (by omega) ho hP2⟩
def Abv(ord:List (Str×Str)) (ax:List Str) (kvs:List (List Key×D)):Prop:=∀a b:Str,a∈ax->(bw kvs [.inr a,.inr b]).isSome=rB ord a b
def pU:SpD:=fun ds M Q=>∃(ord:List (Str×Str)) (ax:List Str),ds=[.tup (ord.map ba),.lst (ax.map .str)]/\ord.length<=20/\ax.length<=9 /\
 ∀p kvs,M p=none->Abv ord ax kvs->Q (.ref p) (av M p (.dT kvs))
def my(L:List Str):List (Key×D):=L.map fun x=>(.inr x,.bl true)
theorem wF{L:List Str}{x:Str}:(bw (my L) (.inr x)).isSome=decide (x∈L):=by
 induction L with
 |nil=>rfl
 |cons y L ih =>
  unfold my at *
  rw[List.map_cons]
  by_cases e:y=x
  ·rw[bG (by rw[e])];simp[e]
  ·rw[bE (by simpa using e),ih];simp[Ne.symm e]
theorem BP{L:List Str}{x:Str}:df (my L) (.inr x) (.bl true)=if x∈L then my L else my (L++[x]):=by
 unfold df;rw[ku,wF]
 by_cases h:x∈L
 ·rw[if_pos (by simp[h]),if_pos h];unfold my;rw[List.map_map];apply List.map_congr_left;intro y _;simp only[Function.comp_def]
  split<;>rfl
 ·rw[if_neg (by simp[h]),if_neg h];simp[my]
theorem xH{L S:List Str}(hn:L.Nodup) (hs:∀x∈L,x∈S) (hl:S.length<=L.length):∀x∈S,x∈L:=fun x hx=>by
 by_cases h:x∈L
 ·exact h
 ·have:=cU (x::L) S (List.nodup_cons.mpr ⟨h,hn⟩) (fun y hy=>by
   rcases List.mem_cons.mp hy with rfl|hy
   ·exact hx
   ·exact hs y hy)
  simp at this;omega
theorem uF(F:Fun K "_law_above" "_law_above" lg f fd) (T:Txt K mg) :bf P w K mg base CX0 1 f fd ["_law_order_here","_law_marks_here"] (spD K 2 pU):=by
 have nd:=m5.nd;refine F.okR rfl m5 (fun cdv A outer s H E hr=>⟨_,(ai (aJ (i:=2) nd rfl (Or.inl rfl) Fj)
   (ai (dY PassesOwn.never rfl (dm (ab 1)) (aF (i:=3) nd rfl (Or.inl rfl)) (ai (aJ (i:=4) nd rfl (Or.inl rfl) (xc (ab 3) sX))
   (ai (dY PassesOwn.never rfl (bU rfl T.b_range (aa (aG cf rfl T.b_len (by kernel_rfl) (aa (ab 0) ag)) ag)) (aF (i:=5) nd rfl (Or.inl rfl)) (aw (dY PassesOwn.never rfl (dm (ab 0)) (dX rfl (aK (aF (i:=6) nd rfl (Or.inl rfl)) (aK (aF (i:=7) nd rfl (Or.inl rfl)) dZ))) (aw (cF (E8 false rfl hr.units1 (ab 6) (ab 4) rfl) (aw (qO hr.units1 (ab 4) (ab 7) sX)) bN)))))
   (aw (dY PassesOwn.never rfl (Hx (ab 4)) (aF (i:=8) nd rfl (Or.inl rfl)) (aw (E9 hr.units1 (ab 2) (aa (ab 3) (aa (ab 8) ag)) sX)))))))
   (aw (aV (ab 2))))),fun ds M R _ hS bk=>?_⟩)
 obtain⟨ord,ax,rfl,ho,hm,k⟩:=hS;refine bk ?_;clear bk;walk_at "rd";intro p hp hz;refine br (fun i Δ M'=>∃(kvs:List (List Key×D)) (x3 x4 x5 x6 x7 x8:Option D),Δ=[some (D.tup (ord.map ba)),some (D.lst (ax.map .str)),some (D.ref p),x3,x4,x5,x6,x7,x8]/\M'=av M p (.dT kvs)/\(∀a b:Str,(bw kvs [.inr a,.inr b]).isSome=(decide (a∈ax.take i)&&rB ord a b))/\kvs.length<=50*i)
  ⟨[],_,_,_,_,_,_,rfl,rfl,fun a b=>by simp[Ac],Nat.zero_le _⟩ ?_ ?_
 ·intro i d Δ M' X hd hI k';refine shr fun _ bk=>?_;obtain⟨kvs,x3,x4,x5,x6,x7,x8,rfl,rfl,hk,hkl⟩:=hI;refine bk ?_;clear bk;obtain⟨a,ha,rfl⟩:=eX hd;have hi:i<ax.length:=(List.getElem?_eq_some_iff.mp ha).1;have hai:ax[i]=a:=(List.getElem?_eq_some_iff.mp ha).2;simp only[cb];walk_at "rd";intro r hr2;have hpr:r≠p:=nn hr2 ah;have hMr:M r=none:=by rw[ak hpr]at hr2;exact hr2
  rw[List.length_map];refine⟨by omega,by omega,?_⟩;refine br (fun t Δ M'=>∃(L:List Str) (x5 x6 x7:Option D),Δ=[some (D.tup (ord.map ba)),some (D.lst (ax.map .str)),some (D.ref p),some (D.str a),some (D.ref r),x5,x6,x7,x8]/\M'=av (av M p (.dT kvs)) r (.dK (my L))/\L.Nodup/\a∈L/\(∀x∈L,cW ord a x)/\(∀x∈L,x∈a::ord.map (·.2))/\((∀y∈ord,y.1∈L->y.2∈L)∨t+1<=L.length))
   ⟨[a],_,_,_,rfl,rfl,by simp,by simp,fun x hx=>?_,fun x hx=>?_,.inr (by simp)⟩ ?_ ?_
  ·obtain rfl:x=a:=by simpa using hx
   exact cW.refl
  ·obtain rfl:x=a:=by simpa using hx
   simp
  ·intro t d Δ M' X2 hd2 hI k2;refine shr fun _ bk=>?_;obtain⟨L0,x5,x6,x7,rfl,rfl,hn0,ha0,hs0,hb0,hc0⟩:=hI;refine bk ?_;clear bk;simp only[cb];walk_at "rd";intro hz2;refine br (fun j Δ M'=>∃(L:List Str) (x5 x6 x7:Option D),Δ=[some (D.tup (ord.map ba)),some (D.lst (ax.map .str)),some (D.ref p),some (D.str a),some (D.ref r),x5,x6,x7,x8]/\M'=av (av M p (.dT kvs)) r (.dK (my L))/\(∃s,L=L0++s)/\L.Nodup/\(∀x∈L,cW ord a x)/\(∀x∈L,x∈a::ord.map (·.2))/\(∀y∈ord.take j,y.1∈L0->y.2∈L))
    ⟨L0,_,_,_,rfl,rfl,⟨[],by simp⟩,hn0,hs0,hb0,fun y hy=>absurd hy (by simp)⟩ ?_ ?_
   ·intro j d Δ M' X3 hd3 hI k3;refine shr fun _ bk=>?_;obtain⟨L,x5,x6,x7,rfl,rfl,⟨s2,hs2⟩,hn,hs,hb,hc⟩:=hI;refine bk ?_;clear bk;obtain⟨⟨y1,y2⟩,hy,rfl⟩:=eX hd3;have hjy:ord[j]?=some (y1,y2):=hy;have hmem:(y1,y2)∈ord:=List.mem_of_getElem? hjy;have htk:ord.take (j+1)=ord.take j++[(y1,y2)]:=by rw[List.take_add_one,hjy];rfl
    have bp:L.length<=ord.length+1:=by
     have:=cU L (a::ord.map (·.2)) hn hb;simpa using this
    simp only[ba,jE,fA,cb,md,Option.bind_some];refine⟨_,rfl,?_⟩;walk_at "rd";rw[Bool.false_xor,wF];refine gf (fun h=>?_) (fun h=>?_)
    ·have hy1:y1∈L:=by simpa using h
     refine⟨by unfold my;rw[List.length_map];exact Nat.lt_of_lt_of_le (by omega:L.length<1000) (sz3 1000),?_⟩;rw[BP]
     by_cases h2:y2∈L
     ·rw[if_pos h2];refine k3 _ _ ⟨L,_,_,_,rfl,rfl,⟨s2,hs2⟩,hn,hs,hb,fun y hy hy0=>?_⟩;rw[htk]at hy;rcases List.mem_append.mp hy with z|z
      ·exact hc y z hy0
      ·obtain rfl:y=(y1,y2):=by simpa using z
       exact h2
     ·rw[if_neg h2];refine k3 _ _ ⟨L++[y2],_,_,_,rfl,rfl,⟨s2++[y2],by rw[hs2,List.append_assoc]⟩,?_,fun x hx=>?_,fun x hx=>?_,fun y hy hy0=>?_⟩
      ·rw[List.nodup_append];refine⟨hn,by simp,fun u hu v hv=>?_⟩;obtain rfl:v=y2:=by simpa using hv
       rintro rfl;exact h2 hu
      ·rcases List.mem_append.mp hx with z|z
       ·exact hs x z
       ·obtain rfl:x=y2:=by simpa using z
        exact cW.step (hs y1 hy1) hmem
      ·rcases List.mem_append.mp hx with z|z
       ·exact hb x z
       ·obtain rfl:x=y2:=by simpa using z
        exact List.mem_cons_of_mem _ (List.mem_map.mpr ⟨_,hmem,rfl⟩)
      ·rw[htk]at hy;rcases List.mem_append.mp hy with z|z
       ·exact List.mem_append_left _ (hc y z hy0)
       ·obtain rfl:y=(y1,y2):=by simpa using z
        simp
    ·have hy1:y1∉L:=by simpa using h
     refine k3 _ _ ⟨L,_,_,_,rfl,rfl,⟨s2,hs2⟩,hn,hs,hb,fun y hy hy0=>?_⟩;rw[htk]at hy;rcases List.mem_append.mp hy with z|z
     ·exact hc y z hy0
     ·obtain rfl:y=(y1,y2):=by simpa using z
      exact absurd (by rw[hs2];exact List.mem_append_left _ hy0) hy1
   ·intro Δ M' hI;refine shr fun _ bk=>?_;obtain⟨L,x5,x6,x7,rfl,rfl,⟨s2,hs2⟩,hn,hs,hb,hc⟩:=hI;refine bk ?_;clear bk;rw[List.length_map,List.take_length]at hc;refine k2 _ _ ⟨L,_,_,_,rfl,rfl,hn,by rw[hs2];exact List.mem_append_left _ ha0,hs,hb,?_⟩;cases s2 with
    |nil =>
     rw[List.append_nil]at hs2;subst hs2;exact .inl hc
    |cons u us =>
     rcases hc0 with h|h
     ·refine .inl fun y hy hy1=>?_;have cl:∀x,cW ord a x->x∈L0:=fun x hx=>nY ha0 h hx;exact hc y hy (cl _ (hs _ hy1))
     ·right;rw[hs2];simp;omega
  ·intro Δ M' hI;refine shr fun _ bk=>?_;obtain⟨L,x5,x6,x7,rfl,rfl,hn,haL,hs,hb,hc⟩:=hI;refine bk ?_;clear bk;rw[cC]at hc;have hcl:∀y∈ord,y.1∈L->y.2∈L:=by
    rcases hc with h|h
    ·exact h
    ·intro y hy _;refine xH hn hb (by simpa using h) y.2 (List.mem_cons_of_mem _ (List.mem_map.mpr ⟨y,hy,rfl⟩))
   have bp:L.length<=ord.length+1:=by
    have:=cU L (a::ord.map (·.2)) hn hb;simpa using this
   walk_at "rd";rw[fH hr2];have em:List.map (fun p=>kD p.fst) (my L)=L.map D.str:=by unfold my;rw[List.map_map];rfl
   rw[em];refine br (fun j Δ M'=>∃(kvs2:List (List Key×D)) (y8:Option D),Δ=[some (D.tup (ord.map ba)),some (D.lst (ax.map .str)),some (D.ref p),some (D.str a),some (D.ref r),x5,x6,x7,y8]/\M'=av M p (.dT kvs2)/\(∀c b:Str,(bw kvs2 [.inr c,.inr b]).isSome=((decide (c∈ax.take i)&&rB ord c b) || (decide (c=a)&&decide (b∈L.take j))))/\kvs2.length<=50*i+j)
    ⟨kvs,_,rfl,rfl,fun c b=>by rw[hk c b];simp,by assumption⟩ ?_ ?_
   ·rintro j d Δ M' X3 hd3 ⟨kvs2,y8,rfl,rfl,hk2,hkl2⟩ k3;obtain⟨b,hb2,rfl⟩:=eX hd3;have hj:j<L.length:=(List.getElem?_eq_some_iff.mp hb2).1;have htk:L.take (j+1)=L.take j++[b]:=by rw[List.take_add_one,hb2];rfl
    simp only[cb];walk_at "rd";refine⟨sz3 2,Nat.lt_of_lt_of_le (by omega:kvs2.length<1000) (sz3 1000),?_⟩;refine k3 _ _ ⟨_,_,rfl,rfl,fun c e=>?_,Nat.le_trans (rX _ _ _) (by omega)⟩;rw[BA,htk]
    by_cases h:c=a/\e=b
    ·obtain⟨rfl,rfl⟩:=h;rw[if_pos rfl];simp
    ·rw[if_neg (by simpa using h),hk2 c e]
     by_cases h1:c=a
     ·have h2:¬ e=b:=fun z=>h ⟨h1,z⟩;simp[h1,h2]
     ·simp[h1]
   ·rintro Δ M' ⟨kvs2,y8,rfl,rfl,hk2,hkl2⟩;rw[List.length_map]at hk2 hkl2;rw[List.take_length]at hk2;refine k' _ _ ⟨kvs2,_,_,_,_,_,_,rfl,rfl,fun c b=>?_,by omega⟩;have htk:ax.take (i+1)=ax.take i++[a]:=by rw[List.take_add_one,ha];rfl
    have hL:decide (b∈L)=rB ord a b:=by
     rw[Bool.eq_iff_iff,oF,decide_eq_true_eq];exact⟨hs b,fun z=>nY haL hcl z⟩
    rw[hk2 c b,htk]
    by_cases h1:c=a
    ·subst h1;rw[hL];cases rB ord c b<;>simp
    ·simp[h1]
 ·intro Δ M' hI;refine shr fun _ bk=>?_;obtain⟨kvs,x3,x4,x5,x6,x7,x8,rfl,rfl,hk,hkl⟩:=hI;refine bk ?_;clear bk;rw[List.length_map,List.take_length]at hk;walk_at "rd";exact k p kvs hp fun a b ha=>by rw[hk a b];simp[ha]
def mf:SpD:=fun ds M Q=>∃(ord:List (Str×Str)) (ax:List Str) (p:Addr) (kvs:List (List Key×D)) (x y:Str×Int),ds=[.ref p,aH x,aH y]/\M p=some (.dT kvs)/\Abv ord ax kvs/\x.1∈ax/\y.1∈ax/\Q (.bl (rel ord x y)) M
theorem rJ(F:Fun K "_law_cancels" "_law_cancels" i6 f fd) (T:Txt K mg) :bf P w K mg base CX0 1 f fd ["_law_above_here","_law_one","_law_other"] (spD K 3 mf):=by
 have nd:=kR.nd;refine F.okR rfl kR (fun cdv A outer s H E hr=>⟨_,(ai (cF (bh sJ (aZ aY (ab 2) ao (fun _ _=>rfl)) (aM aW (aZ aY (ab 1) ao (fun _ _=>rfl)) ao) nbh) (aw (aV sX)) bN)
   (ai (cF (bh (oH hr.units) (aM fT (aZ aY (ab 1) ao (fun _ _=>rfl)) ao) ao nbh) (aw (aV (DX false rfl hr.units1 (aa (aZ aY (ab 1) ao (fun _ _=>rfl)) (aa (aZ aY (ab 2) ao (fun _ _=>rfl)) ag)) (ab 0) rfl))) bN)
   (aw (aV (DX false rfl hr.units1 (aa (aZ aY (ab 2) ao (fun _ _=>rfl)) (aa (aZ aY (ab 1) ao (fun _ _=>rfl)) ag)) (ab 0) rfl))))),fun ds M R _ hS bk=>?_⟩)
 obtain⟨ord,ax,p,kvs,⟨a,t⟩,⟨b,u⟩,rfl,hM,hA,ha,hb,k⟩:=hS;refine bk ?_;clear bk;simp only[aH];walk_at "rd";refine gf (fun h=>?_) (fun h=>?_)
 ·have hne:¬ t+1=u:=fun z=>by simp[z]at h
  have e:rel ord (a,t) (b,u)=false:=by simp[rel,hne]
  rw[e]at k;exact k
 ·have heq:t+1=u:=by
   have:u=t+1:=by simpa using h
   exact this.symm
  refine gf (fun h'=>⟨sz3 2,kvs,hM,?_⟩) (fun h'=>⟨sz3 2,kvs,hM,?_⟩)
  ·have e:rel ord (a,t) (b,u)=rB ord a b:=by simp[rel,heq,wb (ord:=ord) (a:=a) (b:=b) (show t % 2=0 by simpa using h')]
   rw[Bool.false_xor,hA a b ha,<-e];exact k
  ·have e:rel ord (a,t) (b,u)=rB ord b a:=by simp[rel,heq,za (ord:=ord) (a:=a) (b:=b) (show ¬ t % 2=0 by simpa using h')]
   rw[Bool.false_xor,hA b a hb,<-e];exact k
def m8:SpD:=fun ds M Q=>∃(p:Addr) (l:List D) (ax:List Str) (w:Int),ds=[.ref p,.lst (ax.map .str),.int w]/\M p=some (.lst l)/\bq l/\ax≠[]/\ax.length<=9/\0<=w/\w<=100/\∀(m:Str) (t:Int) l',m∈ax->bq l'->Q (aH (m,t)) (av M p (.lst l'))
theorem yu(F:Fun K "_law_sign" "_law_sign" oG f fd) (T:Txt K mg) (Y0:FnD P w K mg base "_law_draw" 1 2 cR):bf P w K mg base CX0 2 f fd ["_law_well_here","_law_marks_here","_law_wide"] (spD K 3 m8):=by
 have nd:=pP.nd;refine F.okR rfl pP (fun cdv A outer s H E hr=>⟨_,(aw (aV (bz (aa (aZ aY (ab 1) (qd Y0 hr (aa (ab 0) (aa (aG cf rfl T.b_len (by kernel_rfl) (aa (ab 1) ag)) ag))) (fun _ _=>rfl)) (aa (aM DF (qd Y0 hr (aa (ab 0) (aa (aM aW (aM c8 ao (ab 2)) ao) ag))) (ab 2)) ag))))),fun ds M R _ hS bk=>?_⟩);obtain⟨p,l,ax,w,rfl,hM,hP,hm,hml,h0,h1,k⟩:=hS;refine bk ?_;clear bk;walk_at "rd";rw[List.length_map];have hmp:=List.length_pos_iff.mpr hm;refine⟨p,l,_,rfl,hM,hP,by omega,by omega,fun v l1 a0 a1 hP1=>?_⟩;obtain⟨m,hm1,e1⟩:=gr a0 a1;refine⟨_,e1,p,l1,_,rfl,ah,hP1,by omega,by omega,fun v2 l2 b0 b1 hP2=>?_⟩;rw[aD];exact⟨_,rfl,sz3 2,k m _ l2 hm1 hP2⟩
def mv:SpD:=fun ds M Q=>∃(ord:List (Str×Str)) (p pa:Addr) (l:List D) (kvs:List (List Key×D)) (ax:List Str) (x:Str×Int),ds=[.ref p,.ref pa,.lst (ax.map .str),aH x]/\M p=some (.lst l)/\M pa=some (.dT kvs)/\bq l/\Abv ord ax kvs/\ax.length<=9/\x.1∈ax /\
 ∀(y:Str×Int) l',y.1∈ax->bq l'->Q (aH y) (av M p (.lst l'))
theorem qN(F:Fun K "_law_partner" "_law_partner" fU f fd) (T:Txt K mg) (gc1:FnD P w K mg base "_law_cancels" 1 3 mf) (Y0:FnD P w K mg base "_law_draw" 1 2 cR):bf P w K mg base CX0 2 f fd ["_law_well_here","_law_above_here","_law_marks_here","_law_sign_here"] (spD K 4 mv):=by
 have nd:=kS.nd;refine F.okR rfl kS (fun cdv A outer s H E hr=>⟨_,(ai (rH (i:=4) nd rfl rfl rfl (ms:=[false,true,false,true,false]) (ar:=["_law_mark"]) (aR rfl (show bA (am fU) iU _ _=true from by decide +kernel)) rfl (dm (ab 2)) (aN (i:=5) (show(iU++_).Nodup from by decide +kernel) rfl rfl) (fun _ _ _ _=>(uj (rj (qd gc1 hr (aa (ab 1) (aa (ab 3) (aa (bz (aa (ab 5) (aa (aM aW (aZ aY (ab 3) ao (fun _ _=>rfl)) ao) ag))) ag))))))) (fun _ _ _ _=>(ab 5)))
   (aw (iI (bz (aa (aZ aY (ab 4) (qd Y0 hr (aa (ab 0) (aa (aG cf rfl T.b_len (by kernel_rfl) (aa (ab 4) ag)) ag))) (fun _ _=>rfl)) (aa (aM aW (aZ aY (ab 3) ao (fun _ _=>rfl)) ao) ag)))))),fun ds M R _ hS bk=>?_⟩)
 obtain⟨ord,p,pa,l,kvs,ax,⟨a,t⟩,rfl,hM,hMa,hP,hA,hml,hx,k⟩:=hS;refine bk ?_;clear bk;simp only[aH];walk_at "rd";intro hz;refine⟨hz,bJ D.str (fun m=>rel ord (a,t) (m,t+1)) D.str (fun Δ=>∃x,Δ=[none,some (D.ref pa),none,some (D.tup [D.str a,D.int t]),none,x]) ax _ _ (fun m hm Δ hΔ=>?_) ⟨none,rfl⟩ ?_⟩
 ·obtain⟨x,rfl⟩:=hΔ;refine⟨_,rfl,⟨_,rfl⟩,fun Q1 q=>?_,fun _ Q2 q=>?_⟩
  ·walk_at "rd";exact⟨sz3 2,ord,ax,pa,kvs,(a,t),(m,t+1),rfl,hMa,hA,hx,hm,_,rfl,q⟩
  ·walk_at "rd";exact q
 ·rw[List.nil_append];have hmem:a∈ax.filter (fun m=>rel ord (a,t) (m,t+1)):=List.mem_filter.mpr ⟨hx,by simp[rel,C7]⟩;have hsub:∀m∈ax.filter (fun m=>rel ord (a,t) (m,t+1)),m∈ax:=fun m h=>(List.mem_filter.mp h).1;have bp:(ax.filter (fun m=>rel ord (a,t) (m,t+1))).length<=ax.length:=List.length_filter_le _ _;generalize ax.filter (fun m=>rel ord (a,t) (m,t+1))=F at hmem hsub bp;have hpos:=List.length_pos_of_mem hmem;rw[List.length_map];refine⟨p,l,_,rfl,hM,hP,by omega,by omega,fun v l1 a0 a1 hP1=>?_⟩;obtain⟨m,hm1,e1⟩:=gr a0 a1;exact⟨_,e1,sz3 2,_,LeM.refl,k (m,t+1) l1 (hsub m hm1) hP1⟩
noncomputable def eW:List Nat:=[104,101,115,116,119,111,114,100,97,98,99,102,103,105,106,107,108,109,110,112,113,117,118,120,121,122]
theorem Cm:Str.ofString "hestwordabcfgijklmnpquvxyz"=tx eW:=by decide +kernel
theorem Ck:∀a<26,∀b<26,a≠b->eW.getD a 0≠eW.getD b 0:=by decide +kernel
theorem tW:∀a<26,eW.getD a 0∈CF:=by decide +kernel
theorem Df{v:Int}(h0:0<=v) (h1:v<26):ixD (.str (Str.ofString "hestwordabcfgijklmnpquvxyz")) (.int v)=some (.str (tx [eW.getD v.toNat 0])):=by
 obtain⟨n,rfl⟩:=Int.eq_ofNat_of_zero_le h0;have hn:n<26:=by omega
 rw[Cm,D2,if_pos (show(tx eW).length<=sizeLine from by decide +kernel)];have e:(tx eW).cps.toList[n]?=some (eW.getD n 0):=by
  show eW[n]?=_;rw[List.getD_eq_getElem?_getD,List.getElem?_eq_getElem (by simpa[eW]using hn)];rfl
 rw[bH e];rfl
theorem tQ{c:Nat}:∀(n:Nat) (acc:Array Nat),((List.replicate n #[c]).foldl (·++·) acc).toList=acc.toList++List.replicate n c
 |0,acc=>by simp
 |n+1,acc=>by
  rw[List.replicate_succ,List.foldl_cons,tQ n,List.replicate_succ];simp
theorem AF{c:Nat}{n:Int}(h:0<=n):Txt.mul (tx [c]) n=tx (List.replicate n.toNat c):=by
 unfold Txt.mul
 by_cases h1:n<1
 ·rw[if_pos h1,show n.toNat=0 by omega];rfl
 ·rw[if_neg h1]
  by_cases h2:n=1
  ·rw[if_pos (by simp[h2]),h2];rfl
  ·rw[if_neg (by
    have:(tx [c]).length=1:=rfl;simp[h2,this])]
   show Str.mk _=Str.mk _;congr 1;apply Array.ext';have:=tQ (c:=c) n.toNat #[];rw[List.nil_append]at this;exact this
theorem sU{g:Nat->Str}{n f pos:Nat}(hn:n<=26) (h:∀k<n,(g k).cps.toList[pos]?=some (eW.getD ((f+k) % 26) 0)):((List.range n).map g).Nodup:=by
 unfold List.Nodup;rw[List.pairwise_map,List.pairwise_iff_getElem];intro i j hi hj hij;simp only[List.length_range]at hi hj;simp only[List.getElem_range];intro e;have h1:=h i hi;rw[e,h j hj]at h1;exact Ck _ (Nat.mod_lt _ (by decide)) _ (Nat.mod_lt _ (by decide)) (by omega) (Option.some.inj h1)
theorem qz{cs:List Nat}(h1:1<=cs.length) (h2:cs.length<=8) (h3:∀c∈cs,c∈CF):dh (tx cs):=⟨h1,h2,h3⟩
def wA(f k:Nat):Str:=tx (List.replicate (1+k % 8) (eW.getD ((f+k) % 26) 0))
def wB(f k:Nat):Str:=tx (119::eW.getD ((f+k) % 26) 0::List.replicate (k % 3) 115)
theorem A7{a b:List Nat}:tx a++tx b=tx (a++b):=by
 show Str.mk _=Str.mk _;congr 1;apply Array.ext';simp[tx]
def xqx:Str:=tx [120,113,120]
theorem Ah:Str.ofString "xqx"=xqx:=by decide +kernel
def pe:SpD:=fun ds M R=>∃(p:Addr) (l:List D) (n:Nat),ds=[.ref p,.int (n:Int)]/\M p=some (.lst l)/\bq l/\n<=6/\∀(ws:List Str) l',ws.length=n->ws.Nodup->(∀w∈ws,dh w/\w≠xqx)->bq l'->R (.lst (ws.map .str)) (av M p (.lst l'))
theorem uB(F:Fun K "_law_words" "_law_words" gx f fd) (T:Txt K mg) (Y0:FnD P w K mg base "_law_draw" 1 2 cR):bf P w K mg base CX0 2 f fd ["_law_well_here","_law_size"] (spD K 2 pe):=by
 have nd:=m9.nd;refine F.okR rfl m9 (fun cdv A outer s H E hr=>⟨_,(ai (aJ (i:=2) nd rfl (Or.inr rfl) lX)
   (ai (aJ (i:=3) nd rfl (Or.inr rfl) (qd Y0 hr (aa (ab 0) (aa ao ag))))
   (ai (cF (bh (oH hr.units) (qd Y0 hr (aa (ab 0) (aa ao ag))) ao nbh) (aw (aV (kq (ms:=[false,false,true,true]) (ar:=["_law_k"]) (aR rfl (show bA (am gx) gg _ _=true from by decide +kernel)) rfl (bU rfl T.b_range (aa (ab 1) ag)) (aN (i:=4) (show(gg++_).Nodup from by decide +kernel) rfl rfl) (fun _ _ _ _=>ck) (fun _ _ _ _=>(aM c8 (aZ aY (ab 2) (aM fT (aM aW (ab 3) (ab 4)) ao) (fun _ _=>rfl)) (aM aW ao (aM fT (ab 4) ao))))))) bN)
   (aw (aV (kq (ms:=[false,false,true,true]) (ar:=["_law_k"]) (aR rfl (show bA (am gx) gg _ _=true from by decide +kernel)) rfl (bU rfl T.b_range (aa (ab 1) ag)) (aN (i:=4) (show(gg++_).Nodup from by decide +kernel) rfl rfl) (fun _ _ _ _=>ck) (fun _ _ _ _=>(aM aW (aM aW lX (aZ aY (ab 2) (aM fT (aM aW (ab 3) (ab 4)) ao) (fun _ _=>rfl))) (aM c8 lX (aM fT (ab 4) ao)))))))))),fun ds M R _ hS bk=>?_⟩)
 obtain⟨p,l,n,rfl,hM,hP,hn,k⟩:=hS;refine bk ?_;clear bk;walk_at "rd";refine⟨p,l,26,rfl,hM,hP,by decide,by decide,fun v l1 a0 a1 hP1=>?_⟩;obtain⟨f,rfl⟩:=Int.eq_ofNat_of_zero_le a0;refine⟨p,l1,2,rfl,ah,hP1,by decide,by decide,fun v2 l2 b0 b1 hP2=>?_⟩;rw[aD];have hz:(iJ 0 (n:Int).toNat).length<=sizeLine:=by rw[cC];exact sz3 _ (by exact Nat.le_trans (by assumption) (by decide))
 have hc:eM [false,false,true,true] 1 [some (D.ref p),some (D.int (n:Int)),some (D.str (Str.ofString "hestwordabcfgijklmnpquvxyz")),some (D.int (f:Int))]=[none,none,some (D.str (Str.ofString "hestwordabcfgijklmnpquvxyz")),some (D.int (f:Int)),none]:=rfl;have hix:∀i:Nat,ixD (.str (Str.ofString "hestwordabcfgijklmnpquvxyz")) (.int (((f:Int)+(0+(i:Int))) % 26))=some (.str (tx [eW.getD ((f+i) % 26) 0])):=fun i=>by
  rw[Df (by omega) (by omega)];have:(((f:Int)+(0+(i:Int))) % 26).toNat=(f+i) % 26:=by omega
  rw[this]
 rw[hc];refine⟨_,rfl,_,rfl,gf (fun _=>⟨by omega,by omega,hz,?_⟩) (fun _=>⟨by omega,by omega,hz,?_⟩)⟩
 ·rw[Int.toNat_natCast,iJ];refine bJ (fun(i:Nat)=>D.int (0+(i:Int))) (fun _=>true) (fun i=>D.str (wA f i)) (fun Δ=>∃x,Δ=[none,none,some (D.str (Str.ofString "hestwordabcfgijklmnpquvxyz")),some (D.int (f:Int)),x]) _ _ _ ?_ ⟨_,rfl⟩ ?_
  ·rintro i hi Δ ⟨x,rfl⟩;refine⟨_,rfl,⟨_,rfl⟩,fun Q1 q=>q,fun _ Q2 q=>?_⟩;walk_at "rd";refine⟨_,hix i,.str (wA f i),?_,q⟩;have hm:Txt.mul (tx [eW.getD ((f+i) % 26) 0]) (1+(0+(i:Int)) % 8)=wA f i:=by
    rw[AF (by omega),wA,show(1+(0+(i:Int)) % 8).toNat=1+i % 8 by omega]
   rw[<-hm];have hl1:(tx [eW.getD ((f+i) % 26) 0]).length=1:=rfl;exact if_pos ⟨by rw[hl1];decide,by omega,by omega,by rw[hl1];omega⟩
  ·rw[List.filter_eq_self.mpr (fun _ _=>rfl),List.nil_append];have e:((List.range n).map fun i=>D.str (wA f i))=((List.range n).map (wA f)).map D.str:=by rw[List.map_map];rfl
   rw[e];refine k _ l2 (by simp) (sU (pos:=0) (f:=f) (by omega) fun k hk=>?_) (fun w hw=>?_) hP2
   ·show(List.replicate (1+k % 8) (eW.getD ((f+k) % 26) 0))[0]?=_;rw[Nat.add_comm,List.replicate_succ];rfl
   ·obtain⟨i,_,rfl⟩:=List.mem_map.mp hw;refine⟨qz (by simp) (by simp;omega) fun c hc=>?_,fun e=>?_⟩
    rotate_left
    ·have e':List.replicate (1+i % 8) (eW.getD ((f+i) % 26) 0)=[120,113,120]:=congrArg (fun s:Str=>s.cps.toList) e;have h1:=List.eq_of_mem_replicate (show 120∈List.replicate (1+i % 8) (eW.getD ((f+i) % 26) 0)by rw[e'];simp);have h2:=List.eq_of_mem_replicate (show 113∈List.replicate (1+i % 8) (eW.getD ((f+i) % 26) 0)by rw[e'];simp);omega
    rw[List.eq_of_mem_replicate hc];exact tW _ (Nat.mod_lt _ (by decide))
 ·rw[Int.toNat_natCast,iJ];refine bJ (fun(i:Nat)=>D.int (0+(i:Int))) (fun _=>true) (fun i=>D.str (wB f i)) (fun Δ=>∃x,Δ=[none,none,some (D.str (Str.ofString "hestwordabcfgijklmnpquvxyz")),some (D.int (f:Int)),x]) _ _ _ ?_ ⟨_,rfl⟩ ?_
  ·rintro i hi Δ ⟨x,rfl⟩;refine⟨_,rfl,⟨_,rfl⟩,fun Q1 q=>q,fun _ Q2 q=>?_⟩;walk_at "rd";have hm:Txt.mul (Str.ofString "s") ((0+(i:Int)) % 3)=tx (List.replicate (i % 3) 115):=by
    rw[show Str.ofString "s"=tx [115]from rfl,AF (by omega),show((0+(i:Int)) % 3).toNat=i % 3 by omega]
   have hl1:(tx [eW.getD ((f+i) % 26) 0]).length=1:=rfl;have hl2:(tx (List.replicate (i % 3) 115)).length=i % 3:=by show(List.replicate (i % 3) 115).toArray.size=_;simp
   refine⟨_,hix i,tx [119,eW.getD ((f+i) % 26) 0] |> D.str,?_,.str (tx (List.replicate (i % 3) 115)),?_,.str (wB f i),?_,q⟩
   ·rw[mO,wx,if_pos (by rw[hl1,sizeLine_eq];decide)];rfl
   ·rw[<-hm];exact if_pos ⟨by decide,by omega,by omega,by
     have:(Str.ofString "s").length=1:=rfl;rw[this];omega⟩
   ·rw[mO,mO,wx,if_pos (by
     have:(tx [119,eW.getD ((f+i) % 26) 0]).length=2:=rfl;rw[this,hl2,sizeLine_eq];omega),A7]
    rfl
  ·rw[List.filter_eq_self.mpr (fun _ _=>rfl),List.nil_append];have e:((List.range n).map fun i=>D.str (wB f i))=((List.range n).map (wB f)).map D.str:=by rw[List.map_map];rfl
   rw[e];refine k _ l2 (by simp) (sU (pos:=1) (f:=f) (by omega) fun k hk=>rfl) (fun w hw=>?_) hP2;obtain⟨i,_,rfl⟩:=List.mem_map.mp hw;refine⟨qz (by simp) (by simp;omega) fun c hc=>?_,fun e=>?_⟩
   rotate_left
   ·have e':119::eW.getD ((f+i) % 26) 0::List.replicate (i % 3) 115=[120,113,120]:=congrArg (fun s:Str=>s.cps.toList) e;injection e' with e1
    exact absurd e1 (by decide)
   rcases List.mem_cons.mp hc with e|hc
   ·rw[e];decide
   ·rcases List.mem_cons.mp hc with e|hc
    ·rw[e];exact tW _ (Nat.mod_lt _ (by decide))
    ·rw[List.eq_of_mem_replicate hc];decide
def jH:SpD:=fun ds M Q=>∃(ord:List (Str×Str)) (p pa:Addr) (l:List D) (kvs:List (List Key×D)) (ax:List Str) (aq:Str) (n:Nat),ds=[.ref p,.ref pa,.lst (ax.map .str),.str aq,.int (n:Int)]/\M p=some (.lst l)/\M pa=some (.dT kvs)/\bq l/\Abv ord ax kvs/\ax≠[]/\ax.length<=9/\aq∈ax/\n<=100 /\
 ∀(row:Row) l' q,row.length=2*n+1->(∀x∈row,x.1∈ax)->bq l'->M q=none->Q (.ref q) (av (av M p (.lst l')) q (.lst (row.map aH)))
theorem yC{xs:List D}(h:xs≠[]):L2.cK xs none (some (-1))=xs.take (xs.length-1):=by
 unfold L2.cK;rw[HT.sIx_none,List.drop_zero,Nat.sub_zero];congr 1;have:=List.length_pos_iff.mpr h;unfold HT.sIx;simp;omega
theorem oa(F:Fun K "_law_whole_row" "_law_whole_row" dS f fd) (T:Txt K mg) (Y0:FnD P w K mg base "_law_draw" 1 2 cR) (ga5:FnD P w K mg base "_law_sign" 2 3 m8) (gc3:FnD P w K mg base "_law_partner" 2 4 mv):bf P w K mg base CX0 3 f fd ["_law_well_here","_law_above_here","_law_marks_here","_law_goal","_law_pairs"] (spD K 5 jH):=by
 have nd:=iX.nd;refine F.okR rfl iX (fun cdv A outer s H E hr=>⟨_,(ai (rH (i:=5) nd rfl rfl rfl (ms:=[false,true,false,true,false,false,false,false,false,false]) (ar:=["_law_mark"]) (aR rfl (show bA (am dS) gc _ _=true from by decide +kernel)) rfl (dm (ab 2)) (aN (i:=10) (show(gc++_).Nodup from by decide +kernel) rfl rfl) (fun _ _ _ _=>(uj (EM false rfl hr.units1 (aa (ab 10) (aa (ab 3) ag)) (ab 1) rfl))) (fun _ _ _ _=>(ab 10)))
   (bc (ai (aJ (i:=6) nd rfl (Or.inl rfl) (mm (aa (bz (aa (aZ aY (ab 5) (qd Y0 hr (aa (ab 0) (aa (aG cf rfl T.b_len (by kernel_rfl) (aa (ab 5) ag)) ag))) (fun _ _=>rfl)) (aa ao ag))) (aa (bz (aa (ab 3) (aa ao ag))) ag))))
   (bc (ai (dY PassesOwn.never rfl (bU rfl T.b_range (aa (ab 4) ag)) (aF (i:=7) nd rfl (Or.inl rfl)) (ai (aJ (i:=8) nd rfl (Or.inl rfl) (qd Y0 hr (aa (ab 0) (aa (aG cf rfl T.b_len (by kernel_rfl) (aa (ab 6) ag)) ag))))
   (bc (ai (aJ (i:=9) nd rfl (Or.inl rfl) (qd ga5 hr (aa (ab 0) (aa (ab 2) (aa ao ag)))))
   (bc (aw (aJ (i:=6) nd rfl (Or.inl rfl) (aM aW (aM aW (bP (ab 6) cz (bV (ab 8))) (mm (aa (ab 9) (aa (qd gc3 hr (aa (ab 0) (aa (ab 1) (aa (ab 2) (aa (ab 9) ag))))) ag)))) (bP (ab 6) (bV (ab 8)) cz)))))))))
   (bc (aw (aV (zX (ab 6) cz (bV (FZ Fo ao))))))))))),fun ds M R _ hS bk=>?_⟩)
 obtain⟨ord,p,pa,l,kvs,ax,aq,n,rfl,hM,hMa,hP,hA,hm,hml,hg,hn,k⟩:=hS;refine bk ?_;clear bk;have hap:pa≠p:=by rintro rfl;rw[hM]at hMa;cases hMa
 walk_at "rd";intro hz;refine⟨hz,bJ D.str (fun m=>rB ord m aq) D.str (fun Δ=>∃x,Δ=[none,some (D.ref pa),none,some (D.str aq),none,none,none,none,none,none,x]) ax _ _ (fun m hm' Δ hΔ=>?_) ⟨none,rfl⟩ ?_⟩
 ·obtain⟨x,rfl⟩:=hΔ;refine⟨_,rfl,⟨_,rfl⟩,fun Q1 q=>?_,fun _ Q2 q=>⟨_,rfl,q⟩⟩;walk_at "rd";refine⟨sz3 2,kvs,hMa,?_⟩;rw[hA m aq hm',Bool.false_xor];exact q
 rw[List.nil_append];have hmem:aq∈ax.filter (fun m=>rB ord m aq):=List.mem_filter.mpr ⟨hg,oF.mpr .refl⟩;have hsub:∀m∈ax.filter (fun m=>rB ord m aq),m∈ax:=fun m h=>(List.mem_filter.mp h).1;have bp:(ax.filter (fun m=>rB ord m aq)).length<=ax.length:=List.length_filter_le _ _;generalize ax.filter (fun m=>rB ord m aq)=F at hmem hsub bp;refine aC ?_;walk_at "rd";have hpos:=List.length_pos_of_mem hmem;rw[List.length_map];refine⟨p,l,_,rfl,hM,hP,by omega,by omega,fun v l1 a0 a1 hP1=>?_⟩;obtain⟨m1,hm1,e1⟩:=gr a0 a1;refine⟨_,e1,sz3 2,sz3 2,sz3 2,aC ?_⟩;walk_at "rd";refine⟨by omega,by omega,?_⟩;rw[Int.toNat_natCast];refine br (fun i Δ M'=>∃x7 x8 x9 l row,Δ=[some (D.ref p),some (D.ref pa),some (D.lst (ax.map D.str)),some (D.str aq),some (D.int (n:Int)),some (D.lst (F.map D.str)),some (D.lst (row.map aH)),x7,x8,x9]/\M'=av M p (.lst l)/\bq l/\row.length=2*i+2/\∀x∈row,x.1∈ax)
  ⟨_,_,_,l1,[(m1,0),(aq,1)],rfl,rfl,hP1,rfl,fun x hx=>?_⟩ ?_ ?_
 ·rcases List.mem_cons.mp hx with e|hx
  ·rw[e];exact hsub _ hm1
  ·rw[List.mem_singleton.mp hx];exact hg
 ·intro i d Δ M' X hd hI k';refine shr fun _ bk=>?_;obtain⟨x7,x8,x9,l2,row,rfl,rfl,hP2,hrl,hrm⟩:=hI;refine bk ?_;clear bk;obtain⟨hi,rfl⟩:=gk hd;simp only[cb];walk_at "rd";rw[List.length_map];refine⟨p,l2,_,rfl,ah,hP2,by omega,by omega,fun v2 l3 b0 b1 hP3=>?_⟩;rw[aD];obtain⟨at_,rfl⟩:=Int.eq_ofNat_of_zero_le b0;have hat:at_<row.length:=by omega
  refine aC ?_;walk_at "rd";refine⟨p,l3,ax,1,rfl,ah,hP3,hm,hml,by decide,by decide,fun m t l4 hmm hP4=>?_⟩;rw[aD];refine aC ?_;walk_at "rd";refine⟨ord,p,pa,l4,kvs,ax,(m,t),rfl,ah,by rw[ak hap];exact hMa,hP4,hA,hml,hmm,fun y l5 hy hP5=>?_⟩;rw[aD];have c1:L2.cK (row.map aH) none (some (at_:Int))=(row.take at_).map aH:=by rw[kh,List.map_take]
  have c2:L2.cK (row.map aH) (some (at_:Int)) none=(row.drop at_).map aH:=by rw[gp,List.map_drop]
  refine⟨sz3 2,.lst ((row.take at_++[(m,t),y]).map aH),?_,.lst ((row.take at_++[(m,t),y]++row.drop at_).map aH),?_,k' _ _ ⟨_,_,_,l5,_,rfl,rfl,hP5,?_,fun x hx=>?_⟩⟩
  ·show i8 (.lst (L2.cK (row.map aH) none (some (at_:Int)))) (.lst [aH (m,t),aH y])=_;rw[c1];refine(if_pos (show List.length _+List.length _<=sizeLine by rw[List.length_map,List.length_take,sizeLine_eq];simp;omega)).trans ?_;rw[List.map_append];rfl
  ·show i8 (.lst ((row.take at_++[(m,t),y]).map aH)) (.lst (L2.cK (row.map aH) (some (at_:Int)) none))=_;rw[c2];refine(if_pos (show List.length _+List.length _<=sizeLine by rw[List.length_map,List.length_map,List.length_drop,List.length_append,List.length_take,sizeLine_eq];simp;omega)).trans ?_;simp only[List.map_append]
  ·simp only[List.length_append,List.length_take,List.length_drop,List.length_cons,List.length_nil];omega
  ·rcases List.mem_append.mp hx with h|h
   ·rcases List.mem_append.mp h with h|h
    ·exact hrm x (List.mem_of_mem_take h)
    ·rcases List.mem_cons.mp h with e|h
     ·rw[e];exact hmm
     ·rw[List.mem_singleton.mp h];exact hy
   ·exact hrm x (List.mem_of_mem_drop h)
 ·intro Δ M' hI;refine shr fun _ bk=>?_;obtain⟨x7,x8,x9,l2,row,rfl,rfl,hP2,hrl,hrm⟩:=hI;refine bk ?_;clear bk;rw[cC]at hrl;refine aC ?_;walk_at "rd";intro q hq;have hne:row.map aH≠[]:=by intro z;have:=congrArg List.length z;simp at this;rw[this]at hrl;simp at hrl
  have hpq:q≠p:=nn hq ah;rw[yC hne,List.length_map,<-List.map_take];refine k _ l2 q (by rw[List.length_take];omega) (fun x hx=>hrm x (List.mem_of_mem_take hx)) hP2 (by rw[ak hpq]at hq;exact hq)
theorem AY{S:List Nat}(h5:∀x∈S,x<=5) (hs:S.sum<5*S.length):∃i,∃h:i<S.length,S[i]≠5:=by
 induction S with
 |nil=>simp at hs
 |cons a l ih =>
  by_cases c:a=5
  ·obtain⟨i,h,e⟩:=ih (fun x hx=>h5 x (.tail _ hx)) (by simp at hs;omega);exact⟨i+1,by simp;assumption,by simpa using e⟩
  ·exact⟨0,by simp,c⟩
theorem CB{S:List Nat}{i v:Nat}(h:i<S.length):(S.set i v).sum+S[i]=S.sum+v:=by
 induction S generalizing i with
 |nil=>simp at h
 |cons a l ih =>
  cases i with
  |zero=>simp;omega
  |succ i =>
   have:=ih (i:=i) (by simpa using h);simp at this ⊢;omega
def fC(S:List Nat):List D:=S.map fun(n:Nat)=>D.int (n:Int)
theorem wk{S:List Nat}{i:Nat}(h:i<S.length):atI (fC S) (i:Int)=some (.int (S[i]:Nat)):=bH (by simp[fC,h])
theorem tE{α:Type}{a:α}:∀n:Nat,(List.replicate n [a]).flatten=List.replicate n a
 |0=>rfl
 |n+1=>by rw[List.replicate_succ,List.flatten_cons,tE n,List.replicate_succ];rfl
theorem vN{n i:Nat}(h:i<n):ixN n (i:Int)=some i:=by simp[ixN]<;>assumption
theorem zQ{a m n:Nat}(hm:m≠0):((a+1) % n+(m-1)) % n=(a+m) % n:=by
 rw[Nat.mod_add_mod];congr 1;omega
def nh:SpD:=fun ds M Q=>∃(p:Addr) (l:List D) (row:Row) (n:Nat),ds=[.ref p,.lst (row.map aH),.int (n:Int)]/\M p=some (.lst l)/\bq l/\1<=n/\n<=6/\row.length<=5*n /\
 ∀(ks:List Row) l',ks.length=n->(∀r∈ks,r.length<=5/\∀x∈r,x∈row)->bq l'->Q (.lst (ks.map aT)) (av M p (.lst l'))
theorem rV(F:Fun K "_law_pieces" "_law_pieces" ka f fd) (T:Txt K mg) (Y0:FnD P w K mg base "_law_draw" 1 2 cR):bf P w K mg base CX0 2 f fd ["_law_well_here","_law_row","_law_size"] (spD K 3 nh):=by
 have nd:=lT.nd;refine F.okR rfl lT (fun cdv A outer s H E hr=>⟨_,(ai (aJ (i:=3) nd rfl (Or.inl rfl) (Es (mm (aa ao ag)) (ab 2)))
   (ai (dY PassesOwn.never rfl (dm (ab 1)) (aF (i:=4) nd rfl (Or.inl rfl)) (ai (aJ (i:=5) nd rfl (Or.inl rfl) (qd Y0 hr (aa (ab 0) (aa (ab 2) ag))))
   (ai (mN PassesOwn.never (bh (oH hr.units) (aZ aY (ab 3) (ab 5) (fun _ _=>rfl)) ao nbh) (aw (aJ (i:=5) nd rfl (Or.inl rfl) (aM fT (aM aW (ab 5) ao) (ab 2)))))
   (aw (vO (ab 3) (ab 5) (aM aW (aZ aY (ab 3) (ab 5) (fun _ _=>rfl)) ao))))))
   (ai (aJ (i:=6) nd rfl (Or.inl rfl) (g6 ag))
   (qS 3 (ai (dY PassesOwn.never rfl (dm (ab 3)) (aF (i:=7) nd rfl (Or.inl rfl)) (ai (iL (oj (ab 6) (cq eZ rfl T.b_tuple (by kernel_rfl) (aa (bP (ab 1) cz (bV (ab 7))) ag))))
   (aw (aJ (i:=1) nd rfl (Or.inl rfl) (bP (ab 1) (bV (ab 7)) cz)))))
   (aw (yO (ab 6)))))))),fun ds M R _ hS bk=>?_⟩)
 obtain⟨p,l,row,n,rfl,hM,hP,hn1,hn6,hrow,k⟩:=hS;refine bk ?_;clear bk;walk_at "rd";refine⟨sz3 1,by omega,by omega,by rw[sizeLine_eq];omega,fun q hq _=>?_⟩;have hpq:p≠q:=(nn hq hM).symm;have h00:(List.replicate (n:Int).toNat [D.int 0]).flatten=fC (List.replicate n 0):=by
  rw[Int.toNat_natCast];unfold fC;rw[List.map_replicate];exact tE n
 rw[h00];have hcm:∀l3 l4 es,av (av (av M p (.lst l3)) q (.lst es)) p (.lst l4)=av (av M p (.lst l4)) q (.lst es):=fun l3 l4 es=>by
  rw[<-bt hpq,aD]
 refine br (fun i Δ M'=>∃x4 x5 l S,Δ=[some (D.ref p),some (D.lst (row.map aH)),some (D.int (n:Int)),some (D.ref q),x4,x5,none,none]/\M'=av (av M p (.lst l)) q (.lst (fC S))/\bq l/\S.length=n/\S.sum=i/\∀x∈S,x<=5)
  ⟨_,_,l,List.replicate n 0,rfl,by rw[pK hM],hP,by simp,by simp,fun x hx=>by rw[List.eq_of_mem_replicate hx];decide⟩ ?_ ?_
 ·intro i d Δ M' X hd hI k';refine shr fun _ bk=>?_;obtain⟨x4,x5,l2,S,rfl,rfl,hP2,hSl,hSs,hS5⟩:=hI;refine bk ?_;clear bk;obtain⟨x,hx,rfl⟩:=eX hd;have hi:i<row.length:=(List.getElem?_eq_some_iff.mp hx).1;simp only[cb];walk_at "rd";refine⟨p,l2,_,rfl,by rw[ak hpq,ah],hP2,by omega,by omega,fun v l3 a0 a1 hP3=>?_⟩;rw[hcm];obtain⟨a,rfl⟩:=Int.eq_ofNat_of_zero_le a0;obtain⟨j,hj,hj5⟩:=AY hS5 (by omega);have han:a<n:=by omega
  refine⟨fun m Δ' M''=>∃a:Nat,a<n/\Δ'=[some (D.ref p),some (D.lst (row.map aH)),some (D.int (n:Int)),some (D.ref q),some (aH x),some (D.int (a:Int)),none,none]/\M''=av (av M p (.lst l3)) q (.lst (fC S))/\S.getD ((a+m) % n) 5≠5,⟨j+n-a,a,han,rfl,rfl,?_⟩,?_⟩
  ·have e:(a+(j+n-a)) % n=j:=by
    rw[show a+(j+n-a)=j+n by omega,Nat.add_mod_right,Nat.mod_eq_of_lt (by omega)]
   rw[e,List.getD_eq_getElem?_getD,List.getElem?_eq_getElem hj];exact hj5
  rintro m Δ' M'' ⟨a,han,rfl,rfl,hne⟩;have ha:a<S.length:=by omega
  have hrd:rdM (av (av M p (.lst l3)) q (.lst (fC S))) (.ref q)=.lst (fC S):=eV ah;refine⟨_,rfl,_,rfl,.int (S[a]:Nat),by rw[hrd];exact wk ha,_,rfl,_,rfl,gf (fun c=>?_) (fun c=>?_)⟩
  ·have c5:S[a]=5:=by
    have:((S[a]:Nat):Int)=5:=by simpa[rdM,eqD]using c
    omega
   have hm:m≠0:=by
    rintro rfl;rw[Nat.add_zero,Nat.mod_eq_of_lt han,List.getD_eq_getElem?_getD,List.getElem?_eq_getElem ha]at hne;exact hne c5
   refine⟨_,rfl,_,rfl,_,rfl,.int (((a:Int)+1) % (n:Int)),?_,m-1,by omega,(a+1) % n,Nat.mod_lt _ (by assumption),?_,rfl,?_⟩
   ·show(if 0<(n:Int)then some (D.int (((a:Int)+1) % (n:Int)))else none)=_;rw[if_pos (by omega)]
   ·rw[Int.natCast_emod,Int.natCast_add];rfl
   ·rw[zQ hm];exact hne
  ·have c5:S[a]≠5:=fun z=>c (by simp[rdM,eqD,z]);have hle:=hS5 _ (List.getElem_mem ha);refine⟨_,rfl,_,rfl,.int (S[a]:Nat),by rw[hrd];exact wk ha,.int ((S[a]:Nat)+1),rfl,_,rfl,_,rfl,q,rfl,_,_,rfl,ah,a,?_,?_⟩
   ·have bp:(fC S).length=S.length:=by simp[fC]
    rw[bp];exact vN ha
   ·rw[aD];refine k' _ _ ⟨_,_,l3,S.set a (S[a]+1),rfl,?_,hP3,by simp[hSl],?_,fun y hy=>?_⟩
    ·unfold fC;rw[List.map_set,Int.natCast_add];rfl
    ·have:=CB (v:=S[a]+1) ha;omega
    ·rcases List.mem_or_eq_of_mem_set hy with h|h
     ·exact hS5 y h
     ·omega
 ·intro Δ M' hI;refine shr fun _ bk=>?_;obtain⟨x4,x5,l2,S,rfl,rfl,hP2,hSl,hSs,hS5⟩:=hI;refine bk ?_;clear bk;walk_at "rd";refine⟨Nat.zero_le _,fun r hr2=>?_⟩;have hqr:q≠r:=(nn hr2 ah).symm;have hpr:p≠r:=(nn hr2 (by rw[ak hpq,ah])).symm;have hMr:M r=none:=by rw[ak (Ne.symm hqr),ak (Ne.symm hpr)]at hr2;exact hr2
  have hMq:av M p (.lst l2) q=none:=by rw[ak (Ne.symm hpq)];exact hq
  have hdel:∀es,fZ (av (av (av M p (.lst l2)) q (.lst (fC S))) r (.lst es)) q=av (av M p (.lst l2)) r (.lst es):=fun es=>by
   rw[bt hqr,fH (by rw[ak hqr];exact hMq)]
  refine⟨_,by rw[ak hqr,ah],fun _=>?_⟩;rw[hdel];refine br (fun i Δ M'=>∃(x7:Option D) (row':Row) (ks:List Row),Δ=[some (D.ref p),some (D.lst (row'.map aH)),some (D.int (n:Int)),some (D.lst (fC S)),x4,x5,some (D.ref r),x7]/\M'=av (av M p (.lst l2)) r (.lst (ks.map aT))/\ks.length=i/\(∀y∈ks,y.length<=5/\∀x∈y,x∈row)/\∀x∈row',x∈row)
   ⟨_,row,[],rfl,rfl,rfl,fun _ h=>(by cases h),fun _ h=>h⟩ ?_ ?_
  ·intro i d Δ M' X hd hI k';refine shr fun _ bk=>?_;obtain⟨x7,row',ks,rfl,rfl,hkl,hks,hr'⟩:=hI;refine bk ?_;clear bk;obtain⟨m,hm,rfl⟩:=eX hd;have hi:i<S.length:=(List.getElem?_eq_some_iff.mp hm).1;have hm5:=hS5 m (List.mem_of_getElem? hm);simp only[cb];walk_at "rd";have c1:L2.cK (row'.map aH) none (some (m:Int))=(row'.take m).map aH:=by rw[kh,List.map_take]
   have c2:L2.cK (row'.map aH) (some (m:Int)) none=(row'.drop m).map aH:=by rw[gp,List.map_drop]
   rw[c1,c2];refine⟨by rw[List.length_map,sizeLine_eq];omega,k' _ _ ⟨_,row'.drop m,ks++[row'.take m],rfl,?_,by simp[hkl],fun y hy=>?_,fun x hx=>hr' x (List.mem_of_mem_drop hx)⟩⟩
   ·rw[List.map_append];rfl
   ·rcases List.mem_append.mp hy with h|h
    ·exact hks y h
    ·rw[List.mem_singleton.mp h];exact⟨by rw[List.length_take];omega,fun x hx=>hr' x (List.mem_of_mem_take hx)⟩
  ·intro Δ M' hI;refine shr fun _ bk=>?_;obtain⟨x7,row',ks,rfl,rfl,hkl,hks,hr'⟩:=hI;refine bk ?_;clear bk;have hl:(fC S).length=n:=by simp[fC,hSl]
   rw[hl]at hkl;walk_at "rd";rw[fH (by rw[ak (Ne.symm hpr)];exact hMr)];exact k ks l2 hkl hks hP2
theorem tK{α:Type} [Inhabited α] {l:List α}{i:Nat}(h:i<l.length):l[i]?=some (l[i]?.getD default):=by rw[List.getElem?_eq_getElem h];rfl
def Fv(e:Str×List Row):Prop:=1<=e.2.length/\e.2.length<=4/\(∀r∈e.2,r.length<=5)/\dh e.1/\e.1≠xqx
structure ID(aj:List (Str×List Row)):Prop where
 nd:(aj.map (·.1)).Nodup
 few:aj.length<=6
 g:∀e∈aj,Fv e
theorem ue{r:Row}:dLe (aT r) 59=true:=by
 show cM (r.map aH) 58=true;rw[i3];intro d hd;obtain⟨x,_,rfl⟩:=List.mem_map.mp hd;rfl
theorem rG{a b:TSd}{E:iy}{Δ:DE}{M:DH}(C:DE->DH->Prop) (h1:∀nx,(∀ Δ' M',C Δ' M'->nx Δ' M')->a { E with nx:=nx } Δ M) (h2:∀ Δ' M',C Δ' M'->b E Δ' M'):zR a b E Δ M:=h1 _ h2
theorem ix:∀as bs:List D,(iu as bs).length=min as.length bs.length
 |[],bs=>by simp[iu]
 |_::_,[]=>by simp[iu]
 |a::as,b::bs=>by simp[iu,ix as bs]
def lU:SpD:=fun ds M Q=>∃(p:Addr) (l:List D) (n most:Nat),ds=[.ref p,.int (n:Int),.int (most:Int)]/\M p=some (.lst l)/\bq l/\1<=n/\n<=6 /\
 ∀(ord:List (Str×Str)) (aq:Str) (aj:List (Str×List Row)) (pa:Addr) (kvs:List (List Key×D)) (l':List D),ord.length<=8->ID aj->1<=aj.length->bq l'->M pa=none ->
  Q (.tup [gd ord aq aj,.ref pa,.tup ((aj.map (·.1)).map .str)]) (av (av M p (.lst l')) pa (.dT kvs))
theorem qm(F:Fun K "_law_lexicon" "_law_lexicon" fR f fd) (T:Txt K mg) (gd0:FnD P w K mg base "_law_marks" 2 1 pf) (gd1:FnD P w K mg base "_law_order" 2 2 pJ) (gc9:FnD P w K mg base "_law_above" 1 2 pU) (gb6:FnD P w K mg base "_law_whole_row" 3 5 jH) (gc6:FnD P w K mg base "_law_words" 2 2 pe) (Y0:FnD P w K mg base "_law_draw" 1 2 cR) (ga5:FnD P w K mg base "_law_sign" 2 3 m8) (gc5:FnD P w K mg base "_law_pieces" 2 3 nh):bf P w K mg base CX0 4 f fd ["_law_well_here","_law_size","_law_most"] (spD K 3 lU):=by
 have nd:=kH.nd;refine F.okR rfl kH (fun cdv A outer s H E hr=>⟨_,(ai (aJ (i:=3) nd rfl (Or.inr rfl) (qd gd0 hr (aa (ab 0) ag)))
   (bc (ai (aJ (i:=4) nd rfl (Or.inl rfl) (qd gd1 hr (aa (ab 0) (aa (ab 3) ag))))
   (bc (ai (aJ (i:=5) nd rfl (Or.inl rfl) (qd gc9 hr (aa (ab 4) (aa (ab 3) ag))))
   (bc (ai (aJ (i:=6) nd rfl (Or.inl rfl) (aZ aY (ab 3) (qd Y0 hr (aa (ab 0) (aa (aG cf rfl T.b_len (by kernel_rfl) (aa (ab 3) ag)) ag))) (fun _ _=>rfl)))
   (bc (ai (aJ (i:=7) nd rfl (Or.inl rfl) (qd gb6 hr (aa (ab 0) (aa (ab 5) (aa (ab 3) (aa (ab 6) (aa (aG (DU rfl) rfl T.b_min (by kernel_rfl) (aa (qd Y0 hr (aa (ab 0) (aa (aM aW (aM c8 ao (ab 1)) ao) ag))) (aa (aM vB (aM DF (aM c8 ao (ab 1)) ao) ao) ag))) ag)))))))
   (bc (ai (cF (bh (oH hr.units) (qd Y0 hr (aa (ab 0) (aa ao ag))) ao nbh) (aw (vO (ab 7) (qd Y0 hr (aa (ab 0) (aa (aG cf rfl T.b_len (by kernel_rfl) (aa (ab 7) ag)) ag))) (qd ga5 hr (aa (ab 0) (aa (ab 3) (aa ao ag)))))) bN)
   (bc (ai (aJ (i:=8) nd rfl (Or.inl rfl) (qd gc6 hr (aa (ab 0) (aa (ab 1) ag))))
   (bc (ai (aJ (i:=9) nd rfl (Or.inl rfl) ao)
   (bc (ai (aJ (i:=10) nd rfl (Or.inl rfl) (g6 ag))
   (bc (qS 7 (ai (dY PassesOwn.never rfl (F8 rfl T.b_zip (aa (ab 8) (aa (qd gc5 hr (aa (ab 0) (aa (ab 7) (aa (ab 1) ag)))) ag))) (dX rfl (aK (aF (i:=11) nd rfl (Or.inl rfl)) (aK (aF (i:=12) nd rfl (Or.inl rfl)) dZ))) (ai (aJ (i:=13) nd rfl (Or.inl rfl) (g6 (aa (ab 12) ag)))
   (bc (ai (dY PassesOwn.never rfl (bU rfl T.b_range (aa (qd Y0 hr (aa (ab 0) (aa ao ag))) ag)) (aF (i:=14) nd rfl (Or.inl rfl)) (ai (aJ (i:=15) nd rfl (Or.inl rfl) (cq eZ rfl T.b_tuple (by kernel_rfl) (aa (kq (ms:=[true,false,false,true,false,false,false,false,false,false,false,false,false,false,false,false]) (ar:=["_law_k"]) (aR rfl (show bA (am fR) iM _ _=true from by decide +kernel)) rfl (bU rfl T.b_range (aa (qd Y0 hr (aa (ab 0) (aa ao ag))) ag)) (aN (i:=16) (show(iM++_).Nodup from by decide +kernel) rfl rfl) (fun _ _ _ _=>ck) (fun _ _ _ _=>(qd ga5 hr (aa (ab 0) (aa (ab 3) (aa ao ag)))))) ag)))
   (bc (ai (cF (bh (oH hr.units) (qd Y0 hr (aa (ab 0) (aa ao ag))) ao nbh) (aw (aJ (i:=15) nd rfl (Or.inl rfl) (bP (AI (ab 12) (FZ Fo ao)) cz (bV ao)))) bN)
   (bc (aw (cF (xZ (uK (bh (zD hr.units) (ab 15) (ab 13) rfl) (rC (bh CS (aM c8 (ab 9) (aM aW (aG cf rfl T.b_len (by kernel_rfl) (aa (ab 13) ag)) ao)) (ab 2) nbh)))) (aw (iL (GE (ab 13) (qd Y0 hr (aa (ab 0) (aa (aM aW (aG cf rfl T.b_len (by kernel_rfl) (aa (ab 13) ag)) ao) ag))) (ab 15)))) bN)))))))
   (bc (ai (aJ (i:=9) nd rfl (Or.inl rfl) (aM c8 (ab 9) (aG cf rfl T.b_len (by kernel_rfl) (aa (ab 13) ag))))
   (aw (iL (oj (ab 10) (bz (aa (ab 11) (aa (cq eZ rfl T.b_tuple (by kernel_rfl) (aa (ab 13) ag)) ag))))))))))))
   (aw (iI (bz (aa (bz (aa (ab 4) (aa (ab 6) (aa (cq eZ rfl T.b_tuple (by kernel_rfl) (aa (ab 10) ag)) ag)))) (aa (ab 5) (aa (cq eZ rfl T.b_tuple (by kernel_rfl) (aa (ab 8) ag)) ag)))))))))))))))))))))))))),fun ds M R _ hS bk=>?_⟩)
 obtain⟨p,l,n,most,rfl,hM,hP,hn1,hn6,k⟩:=hS;refine bk ?_;clear bk;walk_at "rd";refine⟨p,l,rfl,hM,hP,fun ax l1 hm hml hP1=>aC ?_⟩;walk_at "rd";refine⟨p,l1,ax,rfl,ah,hP1,hm,by exact Nat.le_trans (by assumption) (by decide),fun ord l2 ho homk hP2=>aC ?_⟩;rw[aD];walk_at "rd";refine⟨ord,ax,rfl,by exact Nat.le_trans (by assumption) (by decide),by exact Nat.le_trans (by assumption) (by decide),fun pa kvs hpa hA=>aC ?_⟩;have hap:pa≠p:=nn hpa ah;have hMpa:M pa=none:=by rw[ak hap]at hpa;exact hpa
 have hmp:=List.length_pos_iff.mpr hm;have hcm:∀l3 l4,av (av (av M p (.lst l3)) pa (.dT kvs)) p (.lst l4)=av (av M p (.lst l4)) pa (.dT kvs):=fun l3 l4=>by
  rw[<-bt (Ne.symm hap),aD]
 have hpp:∀l3,av (av M p (.lst l3)) pa (.dT kvs) p=some (.lst l3):=fun l3=>by rw[ak (Ne.symm hap),ah]
 walk_at "rd";rw[List.length_map];refine⟨p,l2,_,rfl,hpp _,hP2,by omega,by omega,fun v l3 a0 a1 hP3=>?_⟩;rw[hcm];obtain⟨aq,hg,eg⟩:=gr a0 a1;refine⟨_,eg,aC ?_⟩;walk_at "rd";refine⟨p,l3,_,rfl,hpp _,hP3,by omega,by omega,fun v2 l4 b0 b1 hP4=>?_⟩;rw[hcm];obtain⟨m,hm2,em⟩:∃m:Nat,2*m+1<=5*n/\xW [.int v2,.int ((5*(n:Int)-1) / 2)]=some (.int (m:Int)):=by
  by_cases c:(5*(n:Int)-1) / 2<v2
  ·exact⟨((5*(n:Int)-1) / 2).toNat,by omega,by simp[xW,c];omega⟩
  ·exact⟨v2.toNat,by omega,by simp[xW,c];omega⟩
 refine⟨_,em,ord,p,pa,l4,kvs,ax,aq,m,rfl,hpp _,ah,hP4,hA,hm,by exact Nat.le_trans (by assumption) (by decide),hg,by omega,fun row l5 q hrl hrm hP5 hq=>aC ?_⟩;have hqa:q≠pa:=nn hq ah;have hqp:q≠p:=nn hq (hpp _);have hMq:M q=none:=by rw[ak hqa,ak hqp]at hq;exact hq
 rw[hcm];have hcm2:∀l3 l4 u,av (av (av (av M p (.lst l3)) pa (.dT kvs)) q u) p (.lst l4)=av (av (av M p (.lst l4)) pa (.dT kvs)) q u:=fun l3 l4 u=>by
  rw[bt hqp,hcm]
 have hpp2:∀l3 u,av (av (av M p (.lst l3)) pa (.dT kvs)) q u p=some (.lst l3):=fun l3 u=>by rw[ak (Ne.symm hqp),hpp]
 refine rG (fun Δ' M'=>∃(row:Row) (l':List D),Δ'=[some (D.ref p),some (D.int (n:Int)),some (D.int (most:Int)),some (D.lst (ax.map D.str)),some (D.tup (ord.map ba)),some (D.ref pa),some (D.str aq),some (D.ref q),none,none,none,none,none,none,none,none]/\M'=av (av (av M p (.lst l')) pa (.dT kvs)) q (.lst (row.map aH))/\row.length<=5*n/\(∀x∈row,x.1∈ax)/\bq l') (fun nx knx=>?_) ?_
 ·walk_at "rd";refine⟨p,l5,3,rfl,hpp2 _ _,hP5,by decide,by decide,fun v3 l6 c0 c1 hP6=>?_⟩;rw[hcm2];refine⟨_,rfl,_,rfl,gf (fun _=>?_) (fun _=>knx _ _ ⟨row,l6,rfl,rfl,by omega,hrm,hP6⟩)⟩;refine⟨p,l6,ax,1,rfl,hpp2 _ _,hP6,hm,by exact Nat.le_trans (by assumption) (by decide),by decide,by decide,fun sm st l7 hsm hP7=>?_⟩;rw[hcm2];refine⟨.int (row.length:Int),by rw[eV ah];simp[gB],p,l7,_,rfl,hpp2 _ _,hP7,by omega,by omega,fun v4 l8 d0 d1 hP8=>?_⟩;rw[hcm2];obtain⟨j,rfl⟩:=Int.eq_ofNat_of_zero_le d0;refine⟨_,_,rfl,ah,j,by rw[List.length_map];exact vN (by omega),?_⟩;rw[aD];refine knx _ _ ⟨row.set j (sm,st),l8,rfl,by rw[List.map_set],by rw[List.length_set];omega,fun x hx=>?_,hP8⟩;rcases List.mem_or_eq_of_mem_set hx with h|h
  ·exact hrm x h
  ·rw[h];exact hsm
 intro Δ' M' hI;refine shr fun _ bk=>?_;obtain⟨row,l6,rfl,rfl,hrl6,hrm6,hP6⟩:=hI;refine bk ?_;clear bk;refine aC ?_;walk_at "rd";refine⟨p,l6,n,rfl,hpp2 _ _,hP6,hn6,fun names l7 hnl hnn hnw hP7=>aC ?_⟩;rw[hcm2];walk_at "rd";refine aC ?_;walk_at "rd";refine⟨Nat.zero_le _,fun r hr2=>aC ?_⟩;have hrq:r≠q:=nn hr2 ah;have hra:r≠pa:=nn hr2 (by rw[ak hqa.symm,ah]);have hrp:r≠p:=nn hr2 (hpp2 _ _);have hMr:M r=none:=by rw[ak hrq,ak hra,ak hrp]at hr2;exact hr2
 have hdel:∀es,fZ (av (av (av (av M p (.lst l7)) pa (.dT kvs)) q (.lst (row.map aH))) r (.lst es)) q=av (av (av M p (.lst l7)) pa (.dT kvs)) r (.lst es):=fun es=>by
  rw[bt (Ne.symm hrq),fH (by rw[ak (Ne.symm hrq),ak hqa,ak hqp];exact hMq)]
 have hcm3:∀l3 l4 u,av (av (av (av M p (.lst l3)) pa (.dT kvs)) r u) p (.lst l4)=av (av (av M p (.lst l4)) pa (.dT kvs)) r u:=fun l3 l4 u=>by
  rw[bt hrp,hcm]
 have hpp3:∀l3 u,av (av (av M p (.lst l3)) pa (.dT kvs)) r u p=some (.lst l3):=fun l3 u=>by rw[ak (Ne.symm hrp),hpp]
 walk_at "rd";refine⟨_,by rw[ak (Ne.symm hrq),ah],?_⟩;rw[hdel];refine⟨p,l7,row,n,rfl,hpp3 _ _,hP7,hn1,hn6,hrl6,fun ks l8 hkl hks hP8=>?_⟩;rw[hcm3];refine⟨_,_,⟨rfl,rfl⟩,_,_,_,rfl,_,rfl,?_⟩;have hzl:(iu (names.map D.str) (ks.map aT)).length=n:=by rw[ix,List.length_map,List.length_map];omega
 refine br (fun i Δ M'=>∃(x11 x12 x13 x14 x15:Option D) (ch:Int) (l:List D) (aj:List (Str×List Row)),Δ=[some (D.ref p),some (D.int (n:Int)),some (D.int (most:Int)),some (D.lst (ax.map D.str)),some (D.tup (ord.map ba)),some (D.ref pa),some (D.str aq),some (D.lst (row.map aH)),some (D.lst (names.map D.str)),some (D.int ch),some (D.ref r),x11,x12,x13,x14,x15]/\M' p=some (.lst l)/\M' pa=some (.dT kvs)/\M' r=some (.lst (aj.map cB))/\(∀a u,a≠p->M a=some u->M' a=some u)/\bq l/\aj.map (·.1)=names.take i/\∀e∈aj,Fv e)
  ⟨_,_,_,_,_,1,l8,[],rfl,hpp3 _ _,by rw[ak (Ne.symm hra),ah],by rw[ah];rfl,fun a u ha e=>?_,hP8,rfl,fun _ h=>(by cases h)⟩ ?_ ?_
 ·have h1:a≠pa:=(nn hMpa e).symm;have h2:a≠r:=(nn hMr e).symm;rw[ak h2,ak h1,ak ha];exact e
 ·intro i d Δ M' X hd hI k';refine shr fun _ bk=>?_;obtain⟨x11,x12,x13,x14,x15,ch,l9,aj,rfl,m1,m2,m3,m4,hP9,hen,heg⟩:=hI;refine bk ?_;clear bk;have hi:i<n:=by have:=(List.getElem?_eq_some_iff.mp hd).1;omega
  have hwi:=tK (show i<names.length by omega);have hki:=tK (show i<ks.length by omega);generalize names[i]?.getD default=wd at hwi;generalize ks[i]?.getD default=k0 at hki;have hdd:d=.tup [.str wd,aT k0]:=by
   have:(iu (names.map D.str) (ks.map aT))[i]?=some (.tup [.str wd,aT k0]):=by
    rw[mV,List.getElem?_map,List.getElem?_map,hwi,hki];rfl
   rw[this]at hd;exact(Option.some.inj hd).symm
  subst hdd;have hk0:=hks k0 (List.mem_of_getElem? hki);have hk0m:∀x∈k0,x.1∈ax:=fun x hx=>hrm6 x (hk0.2 x hx);refine⟨_,rfl,?_⟩;walk_at "rd";refine⟨sz3 1,fun s hs=>aC ?_⟩;have hsp:s≠p:=nn hs m1;have hsa:s≠pa:=nn hs m2;have hsr:s≠r:=nn hs m3;refine rG (fun Δ' M2=>∃(x14 x15:Option D) (l:List D) (kl:List Row),Δ'=[some (D.ref p),some (D.int (n:Int)),some (D.int (most:Int)),some (D.lst (ax.map D.str)),some (D.tup (ord.map ba)),some (D.ref pa),some (D.str aq),some (D.lst (row.map aH)),some (D.lst (names.map D.str)),some (D.int ch),some (D.ref r),some (D.str wd),some (aT k0),some (D.ref s),x14,x15]/\M2 p=some (.lst l)/\M2 pa=some (.dT kvs)/\M2 r=some (.lst (aj.map cB))/\M2 s=some (.lst (kl.map aT))/\(∀a u,a≠p->M a=some u->M2 a=some u)/\bq l/\(1<=kl.length/\kl.length<=4)/\∀y∈kl,y.length<=5/\∀x∈y,x.1∈ax) (fun nx knx=>?_) ?_
  ·walk_at "rd";refine⟨p,l9,4,rfl,by rw[ak (Ne.symm hsp)];exact m1,hP9,by decide,by decide,fun v5 la e0 e1 hPa=>?_⟩;obtain⟨tn,rfl⟩:=Int.eq_ofNat_of_zero_le e0;refine⟨_,rfl,by omega,by omega,?_⟩;rw[Int.toNat_natCast];refine br (fun t Δ' M2=>∃(x14 x15:Option D) (l:List D) (kl:List Row),Δ'=[some (D.ref p),some (D.int (n:Int)),some (D.int (most:Int)),some (D.lst (ax.map D.str)),some (D.tup (ord.map ba)),some (D.ref pa),some (D.str aq),some (D.lst (row.map aH)),some (D.lst (names.map D.str)),some (D.int ch),some (D.ref r),some (D.str wd),some (aT k0),some (D.ref s),x14,x15]/\M2 p=some (.lst l)/\M2 pa=some (.dT kvs)/\M2 r=some (.lst (aj.map cB))/\M2 s=some (.lst (kl.map aT))/\(∀a u,a≠p->M a=some u->M2 a=some u)/\bq l/\(1<=kl.length/\kl.length<=1+t)/\∀y∈kl,y.length<=5/\∀x∈y,x.1∈ax)
    ⟨_,_,la,[k0],rfl,ah,by rw[ak hap,ak (Ne.symm hsa)];exact m2,by rw[ak hrp,ak (Ne.symm hsr)];exact m3,by rw[ak hsp,ah];rfl,fun a u ha e=>?_,hPa,⟨Nat.le_refl _,Nat.le_refl _⟩,fun y hy=>by rw[List.mem_singleton.mp hy];exact⟨hk0.1,hk0m⟩⟩ ?_ ?_
   ·have h4:=m4 a u ha e;have h2:a≠s:=(nn hs h4).symm;rw[ak ha,ak h2];exact h4
   ·intro t d Δ' M2 X2 hd2 hI k2;refine shr fun _ bk=>?_;obtain⟨y14,y15,lb,kl,rfl,b1,b2,b3,b4,b5,hPb,hkl2,hkg⟩:=hI;refine bk ?_;clear bk;obtain⟨ht,rfl⟩:=gk hd2;have up:∀lc,av M2 p (.lst lc) p=some (.lst lc)/\av M2 p (.lst lc) pa=some (.dT kvs)/\av M2 p (.lst lc) r=some (.lst (aj.map cB))/\av M2 p (.lst lc) s=some (.lst (kl.map aT))/\∀a u,a≠p->M a=some u->av M2 p (.lst lc) a=some u:=fun lc=>⟨ah,by rw[ak hap];exact b2,by rw[ak hrp];exact b3,by rw[ak hsp];exact b4,fun a u ha e=>by rw[ak ha];exact b5 a u ha e⟩;simp only[cb];walk_at "rd";refine⟨p,lb,4,rfl,b1,hPb,by decide,by decide,fun v6 lc f0 f1 hPc=>?_⟩;obtain⟨sn,rfl⟩:=Int.eq_ofNat_of_zero_le f0;refine⟨_,rfl,by omega,by omega,by rw[cC];exact sz3 _ (by omega),?_⟩;rw[Int.toNat_natCast];refine ou (fun u acc Δ' M3=>∃(x:Option D) (ms:Row) (l:List D),Δ'=[some (D.ref p),none,none,some (D.lst (ax.map D.str)),none,none,none,none,none,none,none,none,none,none,none,none,x]/\M3=av M2 p (.lst l)/\acc=ms.map aH/\ms.length=u/\(∀x∈ms,x.1∈ax)/\bq l) ⟨_,[],lc,rfl,rfl,rfl,rfl,fun _ h=>(by cases h),hPc⟩ ?_ ?_
    ·intro u d acc Δ' M3 X3 hd3 hI k3;refine shr fun _ bk=>?_;obtain⟨x,ms,ld,rfl,rfl,rfl,hul,hms,hPd⟩:=hI;refine bk ?_;clear bk;refine⟨_,rfl,?_⟩;simp only[u6,if_true];walk_at "rd";refine⟨p,ld,ax,1,rfl,ah,hPd,hm,by exact Nat.le_trans (by assumption) (by decide),by decide,by decide,fun sm st le hsm hPe=>?_⟩;rw[aD];exact k3 _ _ _ ⟨_,ms++[(sm,st)],le,rfl,rfl,by simp,by simp[hul],fun y hy=>by
      rcases List.mem_append.mp hy with h|h
      ·exact hms y h
      ·rw[List.mem_singleton.mp h];exact hsm,hPe⟩
    intro acc Δ' M3 hI;refine shr fun _ bk=>?_;obtain⟨x,ms,ld,rfl,rfl,rfl,hul,hms,hPd⟩:=hI;refine bk ?_;clear bk;rw[cC]at hul;refine aC ?_;refine rG (fun Δ' M3=>∃(mo:Row) (l:List D),Δ'=[some (D.ref p),some (D.int (n:Int)),some (D.int (most:Int)),some (D.lst (ax.map D.str)),some (D.tup (ord.map ba)),some (D.ref pa),some (D.str aq),some (D.lst (row.map aH)),some (D.lst (names.map D.str)),some (D.int ch),some (D.ref r),some (D.str wd),some (aT k0),some (D.ref s),some (D.int (0+(t:Int))),some (aT mo)]/\M3=av M2 p (.lst l)/\bq l/\mo.length<=5/\∀x∈mo,x.1∈ax) (fun nx2 knx2=>?_) ?_
    ·walk_at "rd";refine⟨p,ld,2,rfl,ah,hPd,by decide,by decide,fun v7 le g0 g1 hPe=>?_⟩;rw[aD];refine⟨_,rfl,_,rfl,gf (fun _=>?_) (fun _=>knx2 _ _ ⟨ms,le,rfl,rfl,hPe,by omega,hms⟩)⟩;refine⟨_,rfl,?_⟩;have c1:L2.cK (k0.map aH).reverse none (some 2)=(k0.reverse.take 2).map aH:=by
      rw[<-List.map_reverse,show(some (2:Int))=some ((2:Nat):Int)from rfl,kh,List.map_take]
     rw[c1];exact knx2 _ _ ⟨k0.reverse.take 2,le,rfl,rfl,hPe,by rw[List.length_take];omega,fun x hx=>hk0m x (List.mem_reverse.mp (List.mem_of_mem_take hx))⟩
    intro Δ' M3 hI;refine shr fun _ bk=>?_;obtain⟨mo,le,rfl,rfl,hPe,hmo,hmm⟩:=hI;refine bk ?_;clear bk;obtain⟨c1,c2,c3,c4,c5⟩:=up le;refine aC ?_;walk_at "rd";have hstay:X2 [some (D.ref p),some (D.int (n:Int)),some (D.int (most:Int)),some (D.lst (ax.map D.str)),some (D.tup (ord.map ba)),some (D.ref pa),some (D.str aq),some (D.lst (row.map aH)),some (D.lst (names.map D.str)),some (D.int ch),some (D.ref r),some (D.str wd),some (aT k0),some (D.ref s),some (D.int (0+(t:Int))),some (aT mo)] (av M2 p (.lst le)):=k2 _ _ ⟨_,_,le,kl,rfl,c1,c2,c3,c4,c5,hPe,by omega,hkg⟩;have hrd:=eV c4;have hcml:iz ch ((kl.length:Int)+1):=by
     have:iz ch ((kl.length:Int)+1)=True:=zt (by omega);rw[this];trivial
    rw[hrd];refine⟨_,(zU).trans (if_pos ⟨ue,tV aT fun _=>ue⟩),_,rfl,gf (fun _=>?_) (fun _=>hstay)⟩;refine⟨.int (kl.length:Int),by simp[gB],.int ((kl.length:Int)+1),rfl,.int (ch*((kl.length:Int)+1)),by rw[rA,qw,if_pos hcml],_,rfl,_,rfl,gf (fun _=>?_) (fun _=>hstay)⟩;refine⟨_,c4,.int (kl.length:Int),by simp[gB],.int ((kl.length:Int)+1),rfl,p,le,_,rfl,c1,hPe,by omega,by omega,fun v8 lf h0 h1 hPf=>?_⟩;rw[aD];obtain⟨j,rfl⟩:=Int.eq_ofNat_of_zero_le h0;obtain⟨d1,d2,d3,d4,d5⟩:=up lf;refine⟨_,j,rfl,d4,by rw[List.length_map];omega,by rw[List.length_map,sizeLine_eq];omega,k2 _ _ ⟨_,_,lf,kl.take j++mo::kl.drop j,rfl,by rw[ak (Ne.symm hsp)];exact d1,by rw[ak (Ne.symm hsa)];exact d2,by rw[ak (Ne.symm hsr)];exact d3,?_,fun a u ha e=>?_,hPf,?_,fun y hy=>?_⟩⟩
    ·rw[ah];simp[List.map_take,List.map_drop]
    ·have h5:=d5 a u ha e;have h2:a≠s:=fun z=>by
      have:=m4 a u ha e;rw[z,hs]at this;cases this
     rw[ak h2];exact h5
    ·simp only[List.length_append,List.length_take,List.length_cons,List.length_drop];omega
    ·rcases List.mem_append.mp hy with h|h
     ·exact hkg y (List.mem_of_mem_take h)
     ·rcases List.mem_cons.mp h with e|h
      ·rw[e];exact⟨hmo,hmm⟩
      ·exact hkg y (List.mem_of_mem_drop h)
   ·intro Δ' M2 hI;refine shr fun _ bk=>?_;obtain⟨y14,y15,lb,kl,rfl,b1,b2,b3,b4,b5,hPb,hkl2,hkg⟩:=hI;refine bk ?_;clear bk;rw[cC]at hkl2;exact knx _ _ ⟨_,_,lb,kl,rfl,b1,b2,b3,b4,b5,hPb,by omega,hkg⟩
  intro Δ' M2 hI;refine shr fun _ bk=>?_;obtain⟨y14,y15,lb,kl,rfl,b1,b2,b3,b4,b5,hPb,hkl2,hkg⟩:=hI;refine bk ?_;clear bk;refine aC ?_;walk_at "rd";have hcml:iz ch (kl.length:Int):=by
   have:iz ch (kl.length:Int)=True:=zt (by omega);rw[this];trivial
  refine⟨.int (kl.length:Int),by rw[eV b4];simp[gB],.int (ch*(kl.length:Int)),by show yt _ _=_;rw[rA,qw,if_pos hcml],_,b3,cL kl,by rw[eV b4];rfl,sz3 2,_,b3,by
   have:=congrArg List.length hen;rw[List.length_map,List.length_take]at this;rw[List.length_map,sizeLine_eq];omega,k' _ _ ⟨_,_,_,_,_,_,lb,aj++[(wd,kl)],rfl,by rw[ak (Ne.symm hrp)];exact b1,by rw[ak (Ne.symm hra)];exact b2,by rw[ah,List.map_append];rfl,fun a u ha e=>?_,hPb,?_,fun e he=>?_⟩⟩
  ·have h2:a≠r:=(nn hMr e).symm;rw[ak h2];exact b5 a u ha e
  ·rw[List.map_append,hen,List.take_add_one,hwi];rfl
  ·rcases List.mem_append.mp he with h|h
   ·exact heg e h
   ·rw[List.mem_singleton.mp h];exact⟨hkl2.1,hkl2.2,fun r hr=>(hkg r hr).1,hnw wd (List.mem_of_getElem? hwi)⟩
 ·intro Δ M' hI;refine shr fun _ bk=>?_;obtain⟨x11,x12,x13,x14,x15,ch,l9,aj,rfl,m1,m2,m3,m4,hP9,hen,heg⟩:=hI;refine bk ?_;clear bk;rw[hzl,<-hnl,List.take_length]at hen;walk_at "rd";refine⟨.tup (aj.map cB),by rw[eV m3];rfl,sz3 3,sz3 3,av (av M p (.lst l9)) pa (.dT kvs),fun a u e=>?_,?_⟩
  ·by_cases h1:a=pa
   ·rw[h1,ah]at e;rw[h1,m2];exact e
   ·rw[ak h1]at e
    by_cases h2:a=p
    ·rw[h2,ah]at e;rw[h2,m1];exact e
    ·rw[ak h2]at e;exact m4 a u h2 e
  ·have hel:aj.length=n:=by have:=congrArg List.length hen;rw[List.length_map]at this;omega
   have:=k ord aq aj pa kvs l9 (by assumption) ⟨by rw[hen];exact hnn,by omega,heg⟩ (by omega) hP9 hMpa;rw[hen]at this;exact this
noncomputable def chE:List (Str×List Row)->List Row
 |[]=>[[]]
 |e::E=>e.2.flatMap fun k=>(chE E).map fun s=>k++s
theorem vE{aj:List (Str×List Row)}:∀{E:List (Str×List Row)},(∀e∈E,kin aj e.1=e.2)->chR aj (E.map (·.1))=chE E
 |[],_=>rfl
 |e::E,h=>by
  rw[List.map_cons,chR,chE,h e (.head _),vE fun x hx=>h x (.tail _ hx)]
def smE(E:List (Str×List Row)) (F:Row->Nat):Nat:=((chE E).map F).sum
theorem cQ{e:Str×List Row}{E:List (Str×List Row)}{F:Row->Nat}:smE (e::E) F=(e.2.map fun k=>smE E fun s=>F (k++s)).sum:=by
 unfold smE;rw[chE,iK];congr 1;refine List.map_congr_left fun k _=>?_;rw[List.map_map];rfl
theorem qZ{A B:List (Str×List Row)}(h:∀F,smE A F=smE B F):∀{E:List (Str×List Row)}{F:Row->Nat},smE (E++A) F=smE (E++B) F
 |[],F=>h F
 |e::E,F=>by
  rw[List.cons_append,List.cons_append,cQ,cQ];congr 1;exact List.map_congr_left fun k _=>qZ h
theorem mT{w:Str}{ks:List Row}{B:List (Str×List Row)}:∀{E:List (Str×List Row)}{F:Row->Nat},(ks.map fun r=>smE (E++(w,[r])::B) F).sum=smE (E++(w,ks)::B) F
 |[],F=>by
  simp only[List.nil_append];rw[cQ];congr 1;refine List.map_congr_left fun r _=>?_;rw[cQ];simp
 |e::E,F=>by
  simp only[List.cons_append];rw[cQ];simp only[cQ (e:=e)];rw[om];congr 1;exact List.map_congr_left fun k _=>mT
theorem xU{w v:Str}{r:Row}{n:Nat}{B:List (Str×List Row)}{E:List (Str×List Row)}{F:Row->Nat}:smE (E++(w,[r.take n])::(v,[r.drop n])::B) F=smE (E++(w,[r])::B) F :=
 qZ (fun F=>by
  rw[cQ,cQ];simp only[List.map_cons,List.map_nil,List.sum_cons,List.sum_nil,Nat.add_zero];rw[cQ];simp only[List.map_cons,List.map_nil,List.sum_cons,List.sum_nil,Nat.add_zero];congr 1;funext s;rw[<-List.append_assoc,List.take_append_drop])
theorem A6{v:Str}{B:List (Str×List Row)}{E:List (Str×List Row)}{F:Row->Nat}:smE (E++(v,[[]])::B) F=smE (E++B) F :=
 qZ (fun F=>by
  rw[cQ];simp)
theorem ur{E1 E2:List (Str×List Row)}{w:Str}{ks:List Row}(h:w∉E1.map (·.1)):kin (E1++(w,ks)::E2) w=ks:=by
 unfold kin
 induction E1 with
 |nil=>rw[List.nil_append,List.lookup_cons];simp
 |cons e E1 ih =>
  rw[List.map_cons,List.mem_cons,not_or]at h;rw[List.cons_append,List.lookup_cons,show(w==e.1)=false from by simpa using h.1];exact ih h.2
theorem qI{E:List (Str×List Row)}(h:(E.map (·.1)).Nodup):∀e∈E,kin E e.1=e.2:=fun e he=>by
 obtain⟨E1,E2,rfl⟩:=List.append_of_mem he;rw[List.map_append,List.map_cons,List.nodup_append]at h;exact ur fun hm=>h.2.2 e.1 hm e.1 (.head _) rfl
def mE(ord:List (Str×Str)) (aq:Str) (aj:List (Str×List Row)) (ws:List Str):Nat:=((chR aj ws).map fun s=>W (rel ord) (s++[(aq,1)])).sum
theorem uX{ord:List (Str×Str)}{aq:Str}{aj E:List (Str×List Row)}(h:∀e∈E,kin aj e.1=e.2):mE ord aq aj (E.map (·.1))=smE E fun s=>W (rel ord) (s++[(aq,1)]):=by
 unfold mE smE;rw[vE h]
structure Lx(aj:List (Str×List Row)) (ws:List Str):Prop where
 few:aj.length<=7
 ok:pA aj 4 5
 wl:ws.length<=7
 wd:∀w∈ws,w∈aj.map (·.1)/\dh w
section
variable{ord:List (Str×Str)}{aq:Str}{aj:List (Str×List Row)}{ws:List Str}
theorem Lx.many(h:Lx aj ws) (ho:ord.length<=8):yS ord aq aj ws ((mE ord aq aj ws:Nat):Int):=by
 have h1:=h.wl;have h2:=h.few;exact Em (K:=4) (B:=5) h.ok (by decide) (by decide) (by decide) (by omega) (by omega) (by exact Nat.le_trans (by assumption) (by decide)) (by exact Nat.le_trans (by assumption) (by decide)) h.wd
theorem Lx.d(h:Lx aj ws) (ho:ord.length<=8):GZ ord aq aj ws 5:=by
 have h1:=h.wl;have h2:=h.few;obtain⟨a,b⟩:=C1 (aq:=aq) (K:=4) (B:=5) (ws:=ws) (ord:=ord) h.ok (by omega) (by omega) (by omega) (by omega) (by omega) (by omega);exact⟨by omega,h.wd,a,b⟩
theorem Lx.cnt(h:Lx aj ws):gOf ord aj aq ws 5 aS ((ws.length:Int),0,1)=mE ord aq aj ws:=wR h.ok (by decide) (by decide)
theorem Lx.kd(h:Lx aj ws):gb (aQ aj aq ws) (ws.length:Int) 4 5:=pj h.ok (by decide) (by decide)
theorem Lx.draw(h:Lx aj ws) (ho:ord.length<=8) {n:Nat}(hn:n<mE ord aq aj ws):∃cs js,Drw (ko ord (aQ aj aq ws)) (gOf ord aj aq ws 5) aS ((ws.length:Int),0,1) n cs js /\
  ∀(a:Nat) (w:Str),ws[a]?=some w->∃i:Nat,(cH ws.length cs)[a]?=some (i:Int)/\i<(kin aj w).length:=by
 have D:=h.d (aq:=aq) ho;rw[<-h.cnt]at hn;obtain⟨cs,js,d⟩:=D.x.dec.drw _ _ _ n D.x.beg (Nat.lt_succ_self _) hn;refine⟨cs,js,d,fun a w hw=>?_⟩;have P:=(D.x.dec.prop d D.x.beg hn).1;obtain⟨hl,ha,hN,hc⟩:=ChD.at_ P;have hal:a<ws.length:=(List.getElem?_eq_some_iff.mp hw).1;have hb:cs[a]?=some (cs[a]'(by omega)):=List.getElem?_eq_getElem _;generalize cs[a]'(by omega)=b at hb;obtain⟨h1,h2,h3⟩:=ha a b hb;obtain⟨q,hq,i,row,j,hr,hj,e⟩:=aX.mp h3;have hq1:q.1=(a:Int):=by rw[<-h1,e]
 refine⟨i,?_,?_⟩
 ·unfold cH;rw[List.getElem?_map,List.getElem?_take_of_lt hal,hb,e];rfl
 ·rcases gL.mp hq with e2|⟨a',w',ha',e2⟩|e2
  ·rw[e2]at hq1;exact absurd (show(-1:Int)=(a:Int)from hq1) (by omega)
  ·rw[e2]at hq1 hr;have:a'=a:=by
    have:(a':Int)=(a:Int):=hq1;omega
   subst this;rw[hw]at ha';cases ha';exact(List.getElem?_eq_some_iff.mp hr).1
  ·rw[e2]at hq1;exact absurd (show(ws.length:Int)=(a:Int)from hq1) (by omega)
theorem Lx.inj(h:Lx aj ws) (ho:ord.length<=8) {n n':Nat}{cs cs':List Pl}{js js':List (Pl×Pl)}(hn:n<mE ord aq aj ws) (hn':n'<mE ord aq aj ws) (d:Drw (ko ord (aQ aj aq ws)) (gOf ord aj aq ws 5) aS ((ws.length:Int),0,1) n cs js)
  (d':Drw (ko ord (aQ aj aq ws)) (gOf ord aj aq ws 5) aS ((ws.length:Int),0,1) n' cs' js') (e:jv (aQ aj aq ws) ws.length cs js=jv (aQ aj aq ws) ws.length cs' js'):n=n':=by
 rw[<-h.cnt]at hn hn';exact Di (h.d ho).x (fun a b ha hb=>ET h.kd ha hb) hn hn' d d' e
end
noncomputable def Bo(aj:List (Str×List Row)):List (Key×D):=aj.map fun e=>(.inr e.1,cL e.2)
theorem vP:∀{aj:List (Str×List Row)},uG (aj.map cB)=some (Bo aj)
 |[]=>rfl
 |e::l=>by
  rw[List.map_cons,cB];simp only[uG,vP (aj:=l),Option.map_some];rfl
theorem yw{aj:List (Str×List Row)}(h:(aj.map (·.1)).Nodup):tu (.tup (aj.map cB))=some (lq (Bo aj)):=by
 refine BX vP ?_;unfold Bo;rw[List.map_map];have:((fun x:Key×D=>x.1)∘fun e:Str×List Row=>((.inr e.1:Key),cL e.2))=(fun x:Str=>(Sum.inr x:Key))∘fun e:Str×List Row=>e.1:=rfl;rw[this,<-List.map_map];unfold List.Nodup at h ⊢;rw[List.pairwise_map];exact List.Pairwise.imp (fun hab e=>hab (Sum.inr.inj e)) h
theorem tJ{w:Str}:∀{aj:List (Str×List Row)},w∈aj.map (·.1)->bw (Bo aj) (.inr w)=some (cL (kin aj w))
 |[],h=>by cases h
 |e::l,h=>by
  unfold Bo kin;rw[List.map_cons,List.lookup_cons]
  by_cases c:e.1=w
  ·rw[bG (by rw[c]),show(w==e.1)=true by simp[c]];rfl
  ·rw[bE (fun z=>c (Sum.inr.inj z)),show(w==e.1)=false by simpa using fun q:w=e.1=>c q.symm];rw[List.map_cons]at h;exact tJ ((List.mem_cons.mp h).resolve_left fun z=>c z.symm)
def rY:SpD:=fun ds M R=>∃(ord:List (Str×Str)) (aq:Str) (E1 E2:List (Str×List Row)) (w:Str) (ks rs:List Row),ds=[gd ord aq (E1++(w,ks)::E2),.int (E1.length:Int),.lst (rs.map aT)]/\E1.length+E2.length<=50/\R (gd ord aq (E1++(w,rs)::E2)) M
theorem yr(F:Fun K "_law_with" "_law_with" oo f fd) (T:Txt K mg) :bf P w K mg base CX0 1 f fd ["_law_lexicon_here","_law_at","_law_kinds"] (spD K 3 rY):=by
 have nd:=pE.nd;refine F.okR rfl pE (fun cdv A outer s H E hr=>⟨_,(ai (jG (ab 0) (dX rfl (aK (aF (i:=3) nd rfl (Or.inl rfl)) (aK (aF (i:=4) nd rfl (Or.inl rfl)) (aK (aF (i:=5) nd rfl (Or.inl rfl)) dZ)))))
   (aw (aV (bz (aa (ab 3) (aa (ab 4) (aa (aM aW (aM aW (bP (ab 5) cz (bV (ab 1))) (bz (aa (bz (aa (aZ aY (aZ aY (ab 5) (ab 1) (fun _ _=>rfl)) ao (fun _ _=>rfl)) (aa (cq eZ rfl T.b_tuple (by kernel_rfl) (aa (ab 2) ag)) ag))) ag))) (bP (ab 5) (bV (aM aW (ab 1) ao)) cz)) ag))))))),fun ds M R _ hS bk=>?_⟩)
 obtain⟨ord,aq,E1,E2,w,ks,rs,rfl,hl,k⟩:=hS;refine bk ?_;clear bk;have hx:∀aj,gd ord aq aj=D.tup [D.tup (ord.map ba),D.str aq,D.tup (aj.map cB)]:=fun _=>rfl;rw[hx];walk_at "rd";have c1:slE (D.tup ((E1++(w,ks)::E2).map cB)) none (some (E1.length:Int))=some (.tup (E1.map cB)):=by
  rw[tZ,kh,<-List.map_take,List.take_left]
 have c2:slE (D.tup ((E1++(w,ks)::E2).map cB)) (some ((E1.length:Int)+1)) none=some (.tup (E2.map cB)):=by
  rw[tZ,show((E1.length:Int)+1)=((E1.length+1:Nat):Int)from rfl,gp,<-List.map_drop,show E1++(w,ks)::E2=(E1++[(w,ks)])++E2 by simp,List.drop_left' (by simp)]
 have c3:ixD (D.tup ((E1++(w,ks)::E2).map cB)) (D.int (E1.length:Int))=some (cB (w,ks)):=bH (by simp);have c4:i8 (D.tup (E1.map cB)) (D.tup [D.tup [D.str w,D.tup (rs.map aT)]])=some (.tup (E1.map cB++[cB (w,rs)])):=by
  rw[jd,if_pos (by rw[List.length_map,sizeLine_eq];simp;omega)];rfl
 have c5:i8 (D.tup (E1.map cB++[cB (w,rs)])) (D.tup (E2.map cB))=some (.tup ((E1++(w,rs)::E2).map cB)):=by
  rw[jd,if_pos (by rw[List.length_append,List.length_map,List.length_map,sizeLine_eq];simp;omega)];simp
 refine⟨_,rfl,_,rfl,_,rfl,_,rfl,_,rfl,_,rfl,_,c1,_,rfl,_,rfl,_,c3,_,rfl,_,rfl,_,rfl,sz3 2,sz3 1,_,c4,_,rfl,_,rfl,?_⟩;exact⟨_,rfl,_,rfl,_,c2,_,c5,sz3 3,k⟩
def G1(e:Str×List Row):Prop:=e.2.length<=4/\(∀r∈e.2,r.length<=5)/\dh e.1
theorem zy{aj:List (Str×List Row)}{ws:List Str}(h:aj.length<=7) (g:∀e∈aj,G1 e) (hw:ws.length<=7) (hs:∀w∈ws,w∈aj.map (·.1)):Lx aj ws :=
 ⟨h,fun e he=>⟨(g e he).1,(g e he).2.1⟩,hw,fun w hw=>⟨hs w hw,by
  obtain⟨e,he,rfl⟩:=List.mem_map.mp (hs w hw);exact(g e he).2.2⟩⟩
theorem F4:dh xqx:=qz (by decide) (by decide) (by decide +kernel)
theorem yM:∀{l:List Nat}{x:Nat},x∈l->x<=l.sum
 |a::l,x,h=>by
  rw[List.sum_cons];rcases List.mem_cons.mp h with e|h
  ·omega
  ·have:=yM h;omega
theorem vC:∀{a b:List Int},dQ (a.map D.int) (b.map D.int)=true->a=b
 |[],[],_=>rfl
 |[],_::_,h=>by simp[dQ]at h
 |_::_,[],h=>by simp[dQ]at h
 |x::a,y::b,h=>by
  simp only[List.map_cons,dQ,eqD,Bool.and_eq_true,beq_iff_eq]at h;rw[h.1,vC h.2]
theorem yE:∀{a b:List (Int×Int)},dQ (a.map pD) (b.map pD)=true->a=b
 |[],[],_=>rfl
 |[],_::_,h=>by simp[dQ]at h
 |_::_,[],h=>by simp[dQ]at h
 |x::a,y::b,h=>by
  simp only[List.map_cons,pD,dQ,eqD,Bool.and_eq_true,beq_iff_eq,and_true]at h;rw[Prod.ext h.1.1 h.1.2,yE h.2]
theorem Ar{kd:KD}{N:Nat}{cs:List Pl}{js:List (Pl×Pl)}:dLe (jv kd N cs js) 60=true:=by
 unfold jv;simp only[dLe,cM,Bool.and_true,Bool.and_eq_true];refine⟨?_,?_⟩
 ·rw[i3];intro d hd;obtain⟨x,_,rfl⟩:=List.mem_map.mp hd;rfl
 ·rw[i3];intro d hd;obtain⟨x,_,rfl⟩:=List.mem_map.mp hd;rfl
theorem FD{kd:KD}{N:Nat}{cs cs':List Pl}{js js':List (Pl×Pl)}(h:jv kd N cs js≠jv kd N cs' js'):neF (jv kd N cs js) (jv kd N cs' js')=some (.bl true):=by
 unfold neF;rw[if_pos ⟨Ar,Ar⟩];cases e:eqD (jv kd N cs js) (jv kd N cs' js')with
 |false=>rfl
 |true =>
  refine absurd ?_ h;unfold jv at e ⊢;simp only[eqD,dQ,Bool.and_eq_true,and_true]at e;rw[yE e.2,vC e.1]
def o9:SpD:=fun ds M Q=>∃(p:Addr) (l:List D),ds=[.ref p]/\M p=some (.lst l)/\bq l/\Q (.bl true) noM
theorem uf(F:Fun K "_law_right" "_law_right" jc f fd) (T:Txt K mg) (gc2:FnD P w K mg base "_law_lexicon" 4 3 lU) (Y0:FnD P w K mg base "_law_draw" 1 2 cR) (gb1:FnD P w K mg base "many" 10 2 t9) (gb8:FnD P w K mg base "_law_with" 1 3 rY) (Y4:FnD P w K mg base "drawing_at" 10 3 iY):bf P w K mg base CX0 11 f fd ["_law_well_here"] (spD K 1 o9):=by
 have nd:=ow.nd;refine F.okR rfl ow (fun cdv A outer s H E hr=>⟨_,(ai (jG (qd gc2 hr (aa (ab 0) (aa (aM aW ao (qd Y0 hr (aa (ab 0) (aa ao ag)))) (aa ao ag)))) (dX rfl (aK (aF (i:=1) nd rfl (Or.inr rfl)) (aK (aF (i:=2) nd rfl (Or.inl rfl)) (aK (aF (i:=3) nd rfl (Or.inr rfl)) dZ)))))
   (bc (ai (aJ (i:=4) nd rfl (Or.inr rfl) (qd Y0 hr (aa (ab 0) (aa (aG cf rfl T.b_len (by kernel_rfl) (aa (ab 3) ag)) ag))))
   (bc (ai (aJ (i:=5) nd rfl (Or.inl rfl) (uo hr.units1 (cq (FT rfl) rfl T.b_dict (by kernel_rfl) (aa (aZ aY (ab 1) ao (fun _ _=>rfl)) ag)) (aZ aY (ab 3) (ab 4) (fun _ _=>rfl)) (fun _ _=>rfl)))
   (bc (ai (rH (i:=6) nd rfl rfl rfl (ms:=[false,true,false,true,true,false,false,false,false,false,false,false,false,false,false,false]) (ar:=["_law_row"]) (aR rfl (show bA (am jc) lA _ _=true from by decide +kernel)) rfl (dm (ab 5)) (aN (i:=16) (show(lA++_).Nodup from by decide +kernel) rfl rfl) (fun _ _ _ _=>ck) (fun _ _ _ _=>(qd gb1 hr (aa (qd gb8 hr (aa (ab 1) (aa (ab 4) (aa (mm (aa (ab 16) ag)) ag)))) (aa (ab 3) ag)))))
   (bc (ai (aJ (i:=7) nd rfl (Or.inl rfl) (qd gb1 hr (aa (ab 1) (aa (ab 3) ag))))
   (bc (ai (cF (bh sJ (aG (Ha rfl) rfl T.b_sum (by kernel_rfl) (aa (ab 6) ag)) (ab 7) nbh) (aw (aV sX)) bN)
   (bc (ai (aJ (i:=8) nd rfl (Or.inl rfl) (qd Y0 hr (aa (ab 0) (aa (aG cf rfl T.b_len (by kernel_rfl) (aa (ab 5) ag)) ag))))
   (bc (ai (aJ (i:=9) nd rfl (Or.inl rfl) (qd Y0 hr (aa (ab 0) (aa (aM aW (aG cf rfl T.b_len (by kernel_rfl) (aa (aZ aY (ab 5) (ab 8) (fun _ _=>rfl)) ag)) ao) ag))))
   (bc (ai (jG (qd gb8 hr (aa (ab 1) (aa (ab 4) (aa (mm (aa (bP (aZ aY (ab 5) (ab 8) (fun _ _=>rfl)) cz (bV (ab 9))) ag)) ag)))) (dX rfl (aK (aF (i:=10) nd rfl (Or.inl rfl)) (aK (aF (i:=11) nd rfl (Or.inl rfl)) (aK (aF (i:=12) nd rfl (Or.inl rfl)) dZ)))))
   (bc (ai (aJ (i:=13) nd rfl (Or.inl rfl) (bz (aa (ab 10) (aa (ab 11) (aa (aM aW (ab 12) (bz (aa (bz (aa lX (aa (bz (aa (bP (aZ aY (ab 5) (ab 8) (fun _ _=>rfl)) (bV (ab 9)) cz) ag)) ag))) ag))) ag)))))
   (bc (ai (cF (bh sJ (qd gb1 hr (aa (ab 13) (aa (aM aW (aM aW (bP (ab 3) cz (bV (aM aW (ab 4) ao))) (bz (aa lX ag))) (bP (ab 3) (bV (aM aW (ab 4) ao)) cz)) ag))) (aZ aY (ab 6) (ab 8) (fun _ _=>rfl)) nbh) (aw (aV sX)) bN)
   (bc (ai (aJ (i:=14) nd rfl (Or.inl rfl) (bz (aa (ab 10) (aa (ab 11) (aa (aM aW (aZ aY (ab 1) ao (fun _ _=>rfl)) (bz (aa (bz (aa lX (aa (bz (aa (bz ag) ag)) ag))) ag))) ag)))))
   (bc (ai (cF (bh sJ (qd gb1 hr (aa (ab 14) (aa (aM aW (aM aW (bP (ab 3) cz (bV (ab 4))) (bz (aa lX ag))) (bP (ab 3) (bV (ab 4)) cz)) ag))) (ab 7) nbh) (aw (aV sX)) bN)
   (bc (ai (cF (xZ (uK (bh Gc (aG (E4 rfl) rfl T.b_min (by kernel_rfl) (aa (ab 6) ag)) ao nbh) (rC (bh Gc (aG cf rfl T.b_len (by kernel_rfl) (aa (ab 6) ag)) ao nbh)))) (bc (ai (aJ (i:=15) nd rfl (Or.inl rfl) (qd gb8 hr (aa (ab 1) (aa (ab 4) (aa (mm (aa (aZ aY (ab 5) (FZ Fo ao) (fun _ _=>rfl)) ag)) ag)))))
   (bc (aw (cF (xZ (zN (bh sJ (aZ aY (aZ aY (qd Y4 hr (aa (ab 15) (aa (ab 3) (aa ao ag)))) ao (fun _ _=>rfl)) (ab 4) (fun _ _=>rfl)) ao nbh) (u7 (bh EI (aZ aY (aZ aY (qd Y4 hr (aa (ab 1) (aa (ab 3) (aa ao ag)))) ao (fun _ _=>rfl)) (ab 4) (fun _ _=>rfl)) (aG cf rfl T.b_len (by kernel_rfl) (aa (ab 5) ag)) nbh)))) (aw (aV sX)) bN))))) bN)
   (bc (aw (iI (IW (mY yJ (ab 7) ao nbh) (pz (mY (Gv hr.units) (qd Y4 hr (aa (ab 1) (aa (ab 3) (aa ao ag)))) (qd Y4 hr (aa (ab 1) (aa (ab 3) (aa ao ag)))) nbh))))))))))))))))))))))))))))))))),fun ds M R _ hS bk=>?_⟩)
 obtain⟨p,l,rfl,hM,hP,k⟩:=hS;refine bk ?_;clear bk;walk_at "rd";refine⟨p,l,6,rfl,hM,hP,by decide,by decide,fun v l1 a0 a1 hP1=>?_⟩;obtain⟨n,rfl⟩:=Int.eq_ofNat_of_zero_le a0;refine⟨.int ((n+1:Nat):Int),by show some (D.int (1+(n:Int)))=_;rw[Int.natCast_add,Int.add_comm];rfl,p,l1,n+1,24,rfl,ah,hP1,by omega,by omega,fun ord aq aj pa kvs l2 ho hL hel hP2 hpa=>⟨_,rfl,aC ?_⟩⟩;have hap:pa≠p:=nn hpa ah;rw[aD];have hcm:∀l3 l4,av (av (av M p (.lst l3)) pa (.dT kvs)) p (.lst l4)=av (av M p (.lst l4)) pa (.dT kvs):=fun l3 l4=>by
  rw[<-bt (Ne.symm hap),aD]
 have hpp:∀l3,av (av M p (.lst l3)) pa (.dT kvs) p=some (.lst l3):=fun l3=>by rw[ak (Ne.symm hap),ah]
 have hf:=hL.few;walk_at "rd";refine⟨p,l2,_,rfl,hpp _,hP2,by simp;assumption,by simp;omega,fun v l3 b0 b1 hP3=>?_⟩;rw[List.length_map,List.length_map]at b1;rw[hcm];obtain⟨a,rfl⟩:=Int.eq_ofNat_of_zero_le b0;have ha:a<aj.length:=by omega
 obtain⟨E1,E2,w0,ks,rfl,rfl⟩:∃E1 E2 w0 ks,aj=E1++(w0,ks)::E2/\a=E1.length:=⟨aj.take a,aj.drop (a+1),aj[a].1,aj[a].2,by rw[<-List.drop_eq_getElem_cons ha,List.take_append_drop],by rw[List.length_take];omega⟩;have hEl:E1.length+E2.length+1<=6:=by
  rw[List.length_append,List.length_cons]at hf;assumption
 refine aC ?_;walk_at "rd";have hnd:=hL.nd;have hw0:w0∉E1.map (·.1):=fun hm=>by
  rw[List.map_append,List.map_cons,List.nodup_append]at hnd;exact hnd.2.2 w0 hm w0 (.head _) rfl
 have g0:Fv (w0,ks):=hL.g _ (List.mem_append_right _ (.head _));have hk1:1<=ks.length:=g0.1;have hk4:ks.length<=4:=g0.2.1;have hk5:∀r∈ks,r.length<=5:=g0.2.2.1;have gE:∀rs:List Row,rs.length<=4->(∀r∈rs,r.length<=5)->∀e∈E1++(w0,rs)::E2,G1 e:=fun rs h1 h2 e he=>by
  rcases List.mem_append.mp he with h|h
  ·have:=hL.g e (List.mem_append_left _ h);exact⟨this.2.1,this.2.2.1,this.2.2.2.1⟩
  ·rcases List.mem_cons.mp h with h|h
   ·rw[h];exact⟨h1,h2,g0.2.2.2.1⟩
   ·have:=hL.g e (List.mem_append_right _ (.tail _ h));exact⟨this.2.1,this.2.2.1,this.2.2.2.1⟩
 have nE:∀rs:List Row,(E1++(w0,rs)::E2).map (·.1)=(E1++(w0,ks)::E2).map (·.1):=fun rs=>by simp
 have xE:∀rs:List Row,rs.length<=4->(∀r∈rs,r.length<=5)->Lx (E1++(w0,rs)::E2) ((E1++(w0,ks)::E2).map (·.1)):=fun rs h1 h2 =>
  zy (by simp;exact Nat.le_trans (by assumption) (by decide)) (gE rs h1 h2) (by simp;exact Nat.le_trans (by assumption) (by decide)) (fun w hw=>by rw[nE];exact hw)
 have aE:∀rs:List Row,mE ord aq (E1++(w0,rs)::E2) ((E1++(w0,ks)::E2).map (·.1))=smE (E1++(w0,rs)::E2) fun s=>W (rel ord) (s++[(aq,1)]):=fun rs=>by
  rw[<-nE rs];exact uX (qI (by rw[nE];exact hnd))
 generalize hF:(fun s=>W (rel ord) (s++[(aq,1)]))=F at aE;have hix0:atI (((E1++(w0,ks)::E2).map (·.1)).map D.str) (E1.length:Int)=some (.str w0):=bH (by simp);refine⟨_,rfl,_,yw hnd,_,hix0,_,rT,.inr w0,rfl,cL ks,by rw[tJ (by simp),ur hw0],aC ?_⟩;walk_at "rd";have hk5':∀r∈ks,∀x∈[r],x.length<=5:=fun r hr x hx=>by rw[List.mem_singleton.mp hx];exact hk5 r hr
 refine⟨ks.map aT,rfl,fun hz=>⟨hz,?_⟩⟩;have hc:eM [false,true,false,true,true,false,false,false,false,false,false,false,false,false,false,false] 1 [some (D.ref p),some (gd ord aq (E1++(w0,ks)::E2)),some (D.ref pa),some (D.tup (((E1++(w0,ks)::E2).map (·.1)).map D.str)),some (D.int (E1.length:Int)),some (cL ks),none,none,none,none,none,none,none,none,none,none]=[none,some (gd ord aq (E1++(w0,ks)::E2)),none,some (D.tup (((E1++(w0,ks)::E2).map (·.1)).map D.str)),some (D.int (E1.length:Int)),none,none,none,none,none,none,none,none,none,none,none,none]:=rfl;rw[hc];refine bJ aT (fun _=>true) (fun r=>D.int ((smE (E1++(w0,[r])::E2) F:Nat):Int)) (fun Δ=>∃x,Δ=[none,some (gd ord aq (E1++(w0,ks)::E2)),none,some (D.tup (((E1++(w0,ks)::E2).map (·.1)).map D.str)),some (D.int (E1.length:Int)),none,none,none,none,none,none,none,none,none,none,none,x]) _ _ _ ?_ ⟨_,rfl⟩ ?_
 ·rintro r hr' Δ ⟨x,rfl⟩;refine⟨_,rfl,⟨_,rfl⟩,fun Q1 q=>q,fun _ Q2 q=>?_⟩;walk_at "rd";refine⟨sz3 1,ord,aq,E1,E2,w0,ks,[r],rfl,by omega,ord,aq,_,_,_,rfl,(xE [r] (by simp) (hk5' r hr')).many ho,?_⟩;rw[aE];exact q
 rw[List.filter_eq_self.mpr (fun _ _=>rfl),List.nil_append];have hcnt:(ks.map fun r=>D.int ((smE (E1++(w0,[r])::E2) F:Nat):Int))=(ks.map fun r=>((smE (E1++(w0,[r])::E2) F:Nat):Int)).map D.int:=by rw[List.map_map];rfl
 have hsum:(ks.map fun r=>((smE (E1++(w0,[r])::E2) F:Nat):Int)).sum=((smE (E1++(w0,ks)::E2) F:Nat):Int):=by rw[iR,mT]
 rw[hcnt];refine aC ?_;walk_at "rd";refine⟨ord,aq,_,_,_,rfl,(xE ks hk4 hk5).many ho,aC ?_⟩;rw[aE];walk_at "rd";refine⟨_,D5,_,rfl,_,rfl,?_⟩;rw[if_neg (by rw[hsum];simp)];refine aC ?_;walk_at "rd";refine⟨.int (ks.length:Int),by simp[rdM,cL,gB],p,l3,_,rfl,hpp _,hP3,by omega,by omega,fun v l4 c0 c1 hP4=>aC ?_⟩;rw[hcm];obtain⟨i,rfl⟩:=Int.eq_ofNat_of_zero_le c0;have hi:i<ks.length:=by omega
 obtain⟨r,hr⟩:∃r,ks[i]?=some r:=⟨_,List.getElem?_eq_getElem hi⟩;have hrm:=List.mem_of_getElem? hr;have hr5:=hk5 r hrm;have hixk:atI (ks.map aT) (i:Int)=some (aT r):=bH (by rw[List.getElem?_map,hr];rfl);walk_at "rd";refine⟨_,hixk,.int (r.length:Int),by simp[rdM,aT,gB],.int ((r.length:Int)+1),rfl,p,l4,_,rfl,hpp _,hP4,by omega,by omega,fun v l5 d0 d1 hP5=>aC ?_⟩;rw[hcm];obtain⟨pl,rfl⟩:=Int.eq_ofNat_of_zero_le d0;have hpl:pl<=r.length:=by omega
 walk_at "rd";refine⟨_,hixk,(.tup ((r.take pl).map aH)),by show slE (.tup (r.map aH)) none (some (pl:Int))=_;rw[tZ,kh,List.map_take],sz3 1,ord,aq,E1,E2,w0,ks,[r.take pl],rfl,by omega,_,rfl,aC ?_⟩;walk_at "rd";have hmo:(if((E1++(w0,[r.take pl])::E2).map cB).length+1<=sizeLine then some (D.tup ((E1++(w0,[r.take pl])::E2).map cB++[D.tup [D.str (Str.ofString "xqx"),D.tup [D.tup ((r.drop pl).map aH)]]]))else none)=some (D.tup ((E1++(w0,[r.take pl])::E2++[(xqx,[r.drop pl])]).map cB)):=by
  rw[if_pos (by rw[List.length_map,sizeLine_eq];simp;exact Nat.le_trans (by assumption) (by decide)),Ah];simp[cB,cL,aT]
 refine⟨_,hixk,(.tup ((r.drop pl).map aH)),by show slE (.tup (r.map aH)) (some (pl:Int)) none=_;rw[tZ,gp,List.map_drop],sz3 1,sz3 2,sz3 1,_,hmo,sz3 3,aC ?_⟩;walk_at "rd";have nw:(E1++(w0,ks)::E2).map (·.1)=(E1.map (·.1)++[w0])++E2.map (·.1):=by simp
 have w1:L2.cK (((E1++(w0,ks)::E2).map (·.1)).map D.str) none (some ((E1.length:Int)+1))=(E1.map (·.1)++[w0]).map D.str:=by
  rw[show((E1.length:Int)+1)=((E1.length+1:Nat):Int)from rfl,kh,<-List.map_take,nw,List.take_left' (by simp)]
 have w2:L2.cK (((E1++(w0,ks)::E2).map (·.1)).map D.str) (some ((E1.length:Int)+1)) none=(E2.map (·.1)).map D.str:=by
  rw[show((E1.length:Int)+1)=((E1.length+1:Nat):Int)from rfl,gp,<-List.map_drop,nw,List.drop_left' (by simp)]
 have hxq:∀rs:List Row,xqx∉(E1++(w0,rs)::E2).map (·.1):=fun rs hm=>by
  rw[nE]at hm;obtain⟨e,he,hx⟩:=List.mem_map.mp hm;exact(hL.g e he).2.2.2.2 hx
 have ndx:∀(rs:List Row) (k:List Row),((E1++(w0,rs)::E2++[(xqx,k)]).map (·.1)).Nodup:=fun rs k=>by
  rw[List.map_append,List.nodup_append];refine⟨by rw[nE];exact hnd,by simp,fun x hx y hy=>?_⟩;rw[show y=xqx by simpa using hy];intro e;exact hxq rs (by rw[<-e];exact hx)
 have gX:∀rs k:List Row,rs.length<=4->(∀r∈rs,r.length<=5)->k.length<=4->(∀r∈k,r.length<=5)->∀e∈E1++(w0,rs)::E2++[(xqx,k)],G1 e:=fun rs k h1 h2 h3 h4 e he=>by
  rcases List.mem_append.mp he with h|h
  ·exact gE rs h1 h2 e h
  ·rw[List.mem_singleton.mp h];exact⟨h3,h4,F4⟩
 rw[w1,w2,Ah];have x1:Lx (E1++(w0,[r.take pl])::E2++[(xqx,[r.drop pl])]) ((E1++(w0,[r.take pl])::(xqx,[r.drop pl])::E2).map (·.1)) :=
  zy (by simp;omega) (gX _ _ (by simp) (by simp;omega) (by simp) (by simp;omega)) (by simp;omega) (fun w hw=>by simp at hw ⊢;rcases hw with h|h|h|h<;>simp[h])
 have a1:mE ord aq (E1++(w0,[r.take pl])::E2++[(xqx,[r.drop pl])]) ((E1++(w0,[r.take pl])::(xqx,[r.drop pl])::E2).map (·.1))=smE (E1++(w0,[r])::E2) F:=by
  rw[uX (fun e he=>qI (ndx _ _) e (by simp at he ⊢;rcases he with h|h|h|h<;>simp[h])),hF,xU]
 have hci:atI ((ks.map fun r=>((smE (E1++(w0,[r])::E2) F:Nat):Int)).map D.int) (i:Int)=some (.int ((smE (E1++(w0,[r])::E2) F:Nat):Int)):=bH (by rw[List.getElem?_map,List.getElem?_map,hr];rfl);refine⟨sz3 1,_,if_pos (by rw[List.length_map,sizeLine_eq];simp;omega),.tup (((E1++(w0,[r.take pl])::(xqx,[r.drop pl])::E2).map (·.1)).map D.str),?_,ord,aq,_,_,_,rfl,x1.many ho,?_⟩
 ·show i8 (.tup _) (.tup _)=_;rw[jd,if_pos (by rw[List.length_append,List.length_map,List.length_map,List.length_map,sizeLine_eq];simp;omega)];simp
 rw[a1];refine⟨_,hci,_,rfl,_,rfl,?_⟩;rw[if_neg (by simp)];refine aC ?_;walk_at "rd";have hem:i8 (D.tup ((E1++(w0,ks)::E2).map cB)) (D.tup [D.tup [D.str xqx,D.tup [D.tup []]]])=some (D.tup ((E1++(w0,ks)::E2++[(xqx,[[]])]).map cB)):=by
  rw[jd,if_pos (by rw[List.length_map,sizeLine_eq];simp;exact Nat.le_trans (by assumption) (by decide))];simp[cB,cL,aT]
 refine⟨_,rfl,sz3 0,sz3 1,sz3 2,sz3 1,_,hem,sz3 3,aC ?_⟩;have w3:L2.cK (((E1++(w0,ks)::E2).map (·.1)).map D.str) none (some (E1.length:Int))=(E1.map (·.1)).map D.str:=by
  rw[kh,<-List.map_take,List.map_append,List.take_left' (by simp)]
 have w4:L2.cK (((E1++(w0,ks)::E2).map (·.1)).map D.str) (some (E1.length:Int)) none=(w0::E2.map (·.1)).map D.str:=by
  rw[gp,<-List.map_drop,List.map_append,List.drop_left' (by simp)];rfl
 have x2:Lx (E1++(w0,ks)::E2++[(xqx,[[]])]) ((E1++(xqx,[[]])::(w0,ks)::E2).map (·.1)) :=
  zy (by simp;omega) (gX _ _ hk4 hk5 (by simp) (by simp)) (by simp;omega) (fun w hw=>by simp at hw ⊢;rcases hw with h|h|h|h<;>simp[h])
 have a2:mE ord aq (E1++(w0,ks)::E2++[(xqx,[[]])]) ((E1++(xqx,[[]])::(w0,ks)::E2).map (·.1))=smE (E1++(w0,ks)::E2) F:=by
  rw[uX (fun e he=>qI (ndx _ _) e (by simp at he ⊢;rcases he with h|h|h|h<;>simp[h])),hF,A6]
 walk_at "rd";rw[w3,w4];refine⟨sz3 1,_,if_pos (by rw[List.length_map,sizeLine_eq];simp;omega),.tup (((E1++(xqx,[[]])::(w0,ks)::E2).map (·.1)).map D.str),?_,ord,aq,_,_,_,rfl,x2.many ho,?_⟩
 ·show i8 (.tup _) (.tup _)=_;rw[jd,if_pos (by rw[List.length_append,List.length_map,List.length_map,sizeLine_eq];simp;omega)];simp
 rw[a2];refine⟨_,rfl,_,rfl,?_⟩;rw[if_neg (by simp)];refine aC ?_;refine rG (fun Δ' M'=>∃x:Option D,Δ'=[some (D.ref p),some (gd ord aq (E1++(w0,ks)::E2)),some (D.ref pa),some (D.tup (((E1++(w0,ks)::E2).map (·.1)).map D.str)),some (D.int (E1.length:Int)),some (cL ks),some (D.lst ((ks.map fun r=>((smE (E1++(w0,[r])::E2) F:Nat):Int)).map D.int)),some (D.int ((smE (E1++(w0,ks)::E2) F:Nat):Int)),some (D.int (i:Int)),some (D.int (pl:Int)),some (D.tup (ord.map ba)),some (D.str aq),some (D.tup ((E1++(w0,[r.take pl])::E2).map cB)),some (D.tup [D.tup (ord.map ba),D.str aq,D.tup ((E1++(w0,[r.take pl])::E2++[(xqx,[r.drop pl])]).map cB)]),some (D.tup [D.tup (ord.map ba),D.str aq,D.tup ((E1++(w0,ks)::E2++[(xqx,[[]])]).map cB)]),x]/\M'=av (av M p (.lst l5)) pa (.dT kvs)) (fun nx knx=>?_) ?_
 ·walk_at "rd";obtain⟨mn,hmn,hle⟩:∃mn,EY (ks.map fun r=>((smE (E1++(w0,[r])::E2) F:Nat):Int))=some mn/\∀r∈ks,mn<=((smE (E1++(w0,[r])::E2) F:Nat):Int):=by
   cases hks:ks with
   |nil=>rw[hks]at hk1;simp at hk1
   |cons k0 kr =>
    refine⟨_,rfl,fun r hr=>?_⟩;have:=(k9 (kr.map fun r=>((smE (E1++(w0,[r])::E2) F:Nat):Int)) ((smE (E1++(w0,[k0])::E2) F:Nat):Int)).1 _ (by rw[<-List.map_cons (f:=fun r=>((smE (E1++(w0,[r])::E2) F:Nat):Int))];exact List.mem_map.mpr ⟨r,hr,rfl⟩);exact this
  have stay:nx _ _:=knx _ _ ⟨none,rfl,rfl⟩;refine⟨.int mn,by rw[D9,hmn];rfl,_,rfl,_,rfl,gf (fun h1=>gf (fun h2=>aC ?_) (fun _=>stay)) (fun _=>stay)⟩;have hpos:∀r∈ks,0<smE (E1++(w0,[r])::E2) F:=fun r hr=>by
   have h3:=hle r hr;have h4:0<mn:=by simpa using h1
   omega
  obtain⟨kz,rl,hkl⟩:∃kz rl,ks=kz++[rl]:=⟨_,_,(List.dropLast_concat_getLast (show ks≠[]from fun z=>by rw[z]at hk1;simp at hk1)).symm⟩;have hrl:rl∈ks:=by rw[hkl];simp
  have hixl:ixD (cL ks) (.int (-1))=some (aT rl):=by
   show atI (ks.map aT) (-1)=_;rw[hkl,List.map_append];exact yX _ _
  have xn:=xE [rl] (by simp) (hk5' rl hrl);have xk:=xE ks hk4 hk5;have htot:0<smE (E1++(w0,ks)::E2) F:=by
   rw[<-mT];exact Nat.lt_of_lt_of_le (hpos rl hrl) (yM (List.mem_map.mpr ⟨rl,hrl,rfl⟩))
  obtain⟨csn,jsn,dn,hcn⟩:=xn.draw (aq:=aq) (ord:=ord) ho (n:=0) (by rw[aE];exact hpos rl hrl);obtain⟨cs0,js0,dk,hck⟩:=xk.draw (aq:=aq) (ord:=ord) ho (n:=0) (by rw[aE];exact htot);have hwa:((E1++(w0,ks)::E2).map (·.1))[E1.length]?=some w0:=by simp
  obtain⟨i1,hi1,hi2⟩:=hcn E1.length w0 hwa;obtain⟨i2,hj1,hj2⟩:=hck E1.length w0 hwa;rw[ur hw0]at hi2 hj2;have hi0:i1=0:=by simpa using hi2
  subst hi0;walk_at "rd";refine⟨_,hixl,sz3 1,ord,aq,E1,E2,w0,ks,[rl],rfl,by omega,aC ?_⟩;walk_at "rd";refine⟨ord,aq,_,_,5,0,csn,jsn,rfl,xn.d ho,by rw[xn.cnt,aE];exact hpos rl hrl,dn,_,rfl,.int ((0:Nat):Int),bH (by rw[List.getElem?_map,hi1];rfl),_,rfl,_,rfl,?_⟩;rw[if_neg (by simp)];refine⟨ord,aq,_,_,5,0,cs0,js0,rfl,xk.d ho,by rw[xk.cnt,aE];exact htot,dk,_,rfl,.int (i2:Int),bH (by rw[List.getElem?_map,hj1];rfl),.int (ks.length:Int),by simp[rdM,cL,gB],_,rfl,_,rfl,?_⟩;rw[if_neg (by simp;assumption)];exact knx _ _ ⟨_,rfl,rfl⟩
 rintro Δ' M' ⟨x,rfl,rfl⟩;refine aC ?_;walk_at "rd";refine gf (fun _=>⟨noM,LeM.no,k⟩) (fun h2=>?_);have xk:=xE ks hk4 hk5;have h0:0<mE ord aq (E1++(w0,ks)::E2) ((E1++(w0,ks)::E2).map (·.1)):=by rw[aE];omega
 have h1:1<mE ord aq (E1++(w0,ks)::E2) ((E1++(w0,ks)::E2).map (·.1)):=by rw[aE];omega
 obtain⟨c0,j0,d0,_⟩:=xk.draw ho h0;obtain⟨c1,j1,d1,_⟩:=xk.draw ho h1;exact⟨ord,aq,_,_,5,0,c0,j0,rfl,xk.d ho,by rw[xk.cnt];exact h0,d0,ord,aq,_,_,5,1,c1,j1,rfl,xk.d ho,by rw[xk.cnt];exact h1,d1,_,FD (fun e=>absurd (xk.inj ho h0 h1 d0 d1 e) (by decide)),noM,LeM.no,k⟩
def S_law:SpD:=fun ds M R=>∃ns:List Int,ds=[.scr (ns.map .int)]/\M=noM/\ns.length<=63/\∀M',R (.bl true) M'
theorem EF(F:Fun K "law" "law" wI f fd) (T:Txt K mg) (gc8:FnD P w K mg base "_law_right" 11 1 o9) (gd2:FnD P w K mg base "_law_well" 1 2 tR):bf P w K mg base CX0 12 f fd ["_law_script"] (spD K 1 S_law):=by
 have nd:=Bb.nd;refine F.okR rfl Bb (fun cdv A outer s H E hr=>⟨_,(aw (aV (aG (Dz rfl) rfl T.b_all (by kernel_rfl) (aa (kq (ms:=[true]) (ar:=["_law_k"]) (aR rfl (show bA (am wI) AB _ _=true from by decide +kernel)) rfl (bU rfl T.b_range (aa (aG (HE rfl) rfl T.b_max (by kernel_rfl) (aa ao (aa (aG (DU rfl) rfl T.b_min (by kernel_rfl) (aa (aG cf rfl T.b_len (by kernel_rfl) (aa (ab 0) ag)) (aa ao ag))) ag))) ag)) (aN (i:=1) (show(AB++_).Nodup from by decide +kernel) rfl rfl) (fun _ _ _ _=>ck) (fun _ _ _ _=>(qd gc8 hr (aa (qd gd2 hr (aa (ab 0) (aa (ab 1) ag))) ag)))) ag)))),fun ds M R _ hS bk=>?_⟩);obtain⟨ns,rfl,rfl,hn,k⟩:=hS;refine bk ?_;clear bk;walk_at "rd";rw[List.length_map];obtain⟨c,hc,ec⟩:∃c:Nat,c<=3/\(if(if 3<(ns.length:Int)then 3 else(ns.length:Int)) > 1 then if 3<(ns.length:Int)then 3 else(ns.length:Int)else 1)=(c:Int):=by
  by_cases h1:3<(ns.length:Int)
  ·exact⟨3,by decide,by simp[h1]⟩
  ·by_cases h2:(ns.length:Int) > 1
   ·exact⟨ns.length,by omega,by rw[if_neg h1,if_pos h2]⟩
   ·exact⟨1,by decide,by rw[if_neg h1,if_neg h2];rfl⟩
 rw[ec];refine⟨by omega,by omega,by rw[cC];exact sz3 _ (by exact Nat.le_trans (by assumption) (by decide)),?_⟩;refine ou (fun i acc Δ M'=>∃x:Option D,Δ=[some (D.scr (ns.map .int)),x]/\M'=noM/\acc=List.replicate i (D.bl true)) ⟨_,rfl,rfl,rfl⟩ ?_ ?_
 ·rintro i d acc Δ M' X hd ⟨x,rfl,rfl,rfl⟩ k';obtain⟨hi,rfl⟩:=gk hd;refine⟨_,rfl,?_⟩;walk_at "rd";simp only[u6,if_true];refine⟨ns,_,rfl,hn,by omega,by omega,fun p l hp hP=>?_⟩;exact⟨p,l,rfl,ah,hP,k' _ _ _ ⟨_,rfl,rfl,by rw[List.replicate_succ']⟩⟩
 ·rintro acc Δ M' ⟨x,rfl,rfl,rfl⟩;refine⟨_,?_,k _⟩;have h1:∀n,(List.replicate n (D.bl true)).all zm=true:=fun n=>by rw[List.all_eq_true];intro d hd;rw[List.eq_of_mem_replicate hd];rfl
  have h2:∀n,(List.replicate n (D.bl true)).all xS=true:=fun n=>by rw[List.all_eq_true];intro d hd;rw[List.eq_of_mem_replicate hd];rfl
  simp only[Ai,h1,h2,if_true]
end
theorem Hy:GJ S_law:=fun ns R hn hR=>⟨ns,rfl,rfl,hn,hR⟩
theorem EB{l:PySem.W.OpenLaw}{w:World}{K:PySem.W.Frag}{h:Heap}{mg:Str->Option Value}{fa:Addr}(X:K.In h) (G:h.Ns mainGlobals mg) (hfa:mg "law"=some (.ref fa))
  {C:Addr}
  {f0:Addr} {d0:FuncData}
  {f1:Addr} {d1:FuncData}
  {f2:Addr} {d2:FuncData}
  {f3:Addr} {d3:FuncData}
  {f4:Addr} {d4:FuncData}
  {f5:Addr} {d5:FuncData}
  {f6:Addr} {d6:FuncData}
  {f7:Addr} {d7:FuncData}
  {f8:Addr} {d8:FuncData}
  {f9:Addr} {d9:FuncData}
  {f10:Addr} {d10:FuncData}
  {f11:Addr} {d11:FuncData}
  {f12:Addr} {d12:FuncData}
  {f13:Addr} {d13:FuncData}
  {f14:Addr} {d14:FuncData}
  {f15:Addr} {d15:FuncData}
  {f16:Addr} {d16:FuncData}
  {f17:Addr} {d17:FuncData}
  {f18:Addr} {d18:FuncData}
  {f19:Addr} {d19:FuncData}
  {f20:Addr} {d20:FuncData}
  {f21:Addr} {d21:FuncData}
  {f22:Addr} {d22:FuncData}
  {f23:Addr} {d23:FuncData}
  {f24:Addr} {d24:FuncData}
  {f25:Addr} {d25:FuncData}
  {f26:Addr} {d26:FuncData}
  {f27:Addr} {d27:FuncData}
  {f28:Addr} {d28:FuncData}
  {f29:Addr} {d29:FuncData}
  {f30:Addr} {d30:FuncData}
  {f31:Addr} {d31:FuncData}
  {f32:Addr} {d32:FuncData}
  {f33:Addr} {d33:FuncData}
  {f34:Addr} {d34:FuncData}
  {f35:Addr} {d35:FuncData}
  {f36:Addr} {d36:FuncData}
  {f37:Addr} {d37:FuncData}
  {f38:Addr} {d38:FuncData}
  {f39:Addr} {d39:FuncData}
  {f40:Addr} {d40:FuncData}
  {f41:Addr} {d41:FuncData}
  {f42:Addr} {d42:FuncData}
  {f43:Addr} {d43:FuncData}
  {ad_START:Addr} {nn_START:Nat} {ss_START:Array (Option Value)} {tk_START0 tk_START1 tk_START2:Tok}
  {tk_SMALL_LETTERS:Tok}
  {tk_MOST_LETTERS:Tok}
  (x0:bM K "is_whole" gI f0 d0)
  (x1:bM K "is_short_word" cx f1 d1)
  (x2:bM K "reached_from" dB f2 d2)
  (x3:bM K "words_of" eR f3 d3)
  (x4:bM K "goals_wish" fB f4 d4)
  (x5:bM K "places_of" dU f5 d5)
  (x6:bM K "last_place" fL f6 d6)
  (x7:bM K "sign_behind" eE f7 d7)
  (x8:bM K "next_place" fo f8 d8)
  (x9:bM K "begins_behind" cy f9 d9)
  (x10:bM K "places_of_signs" bW f10 d10)
  (x11:bM K "counts_from" eF f11 d11)
  (x12:bM K "count_of_all" dJ f12 d12)
  (x13:bM K "count_by_step" dg f13 d13)
  (x14:bM K "_law_well" nu f14 d14)
  (x15:bM K "_law_draw" nk f15 d15)
  (x16:bM K "_law_above" lg f16 d16)
  (x17:bM K "_law_cancels" i6 f17 d17)
  (x18:bM K "_law_with" oo f18 d18)
  (x19:bM K "at_most" iW f19 d19)
  (x20:bM K "has_word" gW f20 d20)
  (x21:bM K "step_by_number" cT f21 d21)
  (x22:bM K "arcs_between" bX f22 d22)
  (x23:bM K "_law_marks" fc f23 d23)
  (x24:bM K "_law_order" lL f24 d24)
  (x25:bM K "_law_sign" oG f25 d25)
  (x26:bM K "_law_partner" fU f26 d26)
  (x27:bM K "_law_words" gx f27 d27)
  (x28:bM K "_law_pieces" ka f28 d28)
  (x29:bM K "mark_leads" fk f29 d29)
  (x30:bM K "kinds_of" gK f30 d30)
  (x31:bM K "drawing_by_number" bL f31 d31)
  (x32:bM K "_law_whole_row" dS f32 d32)
  (x33:bM K "cancel" jO f33 d33)
  (x34:bM K "kinds_by_number" cN f34 d34)
  (x35:bM K "_law_lexicon" fR f35 d35)
  (x36:bM K "are_joined" fw f36 d36)
  (x37:bM K "first_steps" cp f37 d37)
  (m0:PySem.W.nsIn K mainGlobals "Chart"=some (some (.ref C))) (m1:PySem.W.makesIn K C=true) (m2:PySem.W.findIn K (.ref C) "__init__"=some (some (.ref f38))) (m3:PySem.W.isFn K (.ref f38)=true) (m4:PySem.W.keepIn K (.ref C)=true)
  (y1:PySem.W.plainGet K C Str.empty=true) (y2:PySem.W.hasDictIn K C=true) (y3:PySem.W.plainOver K C=true) (y4:PySem.W.findIn K (.ref C) "__setattr__"=some (some (.builtin "object.__setattr__")))
  (y_kinds:PySem.W.findIn K (.ref C) "kinds"=some none)
  (y_end:PySem.W.findIn K (.ref C) "end"=some none)
  (y_steps:PySem.W.findIn K (.ref C) "steps"=some none)
  (y_counts:PySem.W.findIn K (.ref C) "counts"=some none)
  (x38:Fun K "__init__" "Chart.__init__" lM f38 d38)
  (x39:bM K "chart_of" gZ f39 d39)
  (x40:bM K "many" nr f40 d40)
  (x41:bM K "drawing_at" fu f41 d41)
  (x42:bM K "_law_right" jc f42 d42)
  (x43:bM K "law" wI f43 d43)
  (z_isinstance:PySem.W.nsIn K mainGlobals "isinstance"=some none)
  (z_int:PySem.W.nsIn K mainGlobals "int"=some none)
  (z_bool:PySem.W.nsIn K mainGlobals "bool"=some none)
  (z_str:PySem.W.nsIn K mainGlobals "str"=some none)
  (z_all:PySem.W.nsIn K mainGlobals "all"=some none)
  (z_len:PySem.W.nsIn K mainGlobals "len"=some none)
  (z_enumerate:PySem.W.nsIn K mainGlobals "enumerate"=some none)
  (z_range:PySem.W.nsIn K mainGlobals "range"=some none)
  (z_max:PySem.W.nsIn K mainGlobals "max"=some none)
  (z_list:PySem.W.nsIn K mainGlobals "list"=some none)
  (z_tuple:PySem.W.nsIn K mainGlobals "tuple"=some none)
  (z_divmod:PySem.W.nsIn K mainGlobals "divmod"=some none)
  (z_sorted:PySem.W.nsIn K mainGlobals "sorted"=some none)
  (z_abs:PySem.W.nsIn K mainGlobals "abs"=some none)
  (z_zip:PySem.W.nsIn K mainGlobals "zip"=some none)
  (z_min:PySem.W.nsIn K mainGlobals "min"=some none)
  (z_dict:PySem.W.nsIn K mainGlobals "dict"=some none)
  (z_sum:PySem.W.nsIn K mainGlobals "sum"=some none)
  (z_reversed:PySem.W.nsIn K mainGlobals "reversed"=some none)
  (z_START:PySem.W.nsIn K mainGlobals "START"=some (some (.ref ad_START))) (w_START:K.lookup ad_START=some ⟨.type "tuple",none,.seq #[.int (-1) tk_START0,.int (0) tk_START1,.int (0) tk_START2] nn_START,ss_START⟩)
  (z_SMALL_LETTERS:PySem.W.nsIn K mainGlobals "SMALL_LETTERS"=some (some (.str "abcdefghijklmnopqrstuvwxyz" tk_SMALL_LETTERS)))
  (z_MOST_LETTERS:PySem.W.nsIn K mainGlobals "MOST_LETTERS"=some (some (.int 8 tk_MOST_LETTERS)))
 :∃fd:FuncData,(∀(s:Shared) (v:Value),BindsTo s fd ⟨[v],[]⟩ [("_law_script",v)])/\∀base:Heap,K.In base->base.Ns mainGlobals mg->bf l.prog w K mg base CX0 12 fa fd ["_law_script"] (spD K 1 S_law):=by
 have T:Txt K mg:=⟨⟨_,PySem.W.mg_of X G z_START,.inr ⟨_,_,_,w_START,⟨rfl,rfl⟩,rfl,szB 3,(.cons ⟨_,rfl⟩ (.cons ⟨_,rfl⟩ (.cons ⟨_,rfl⟩ .nil)))⟩⟩,PySem.W.mg_none_of X G z_isinstance,PySem.W.mg_none_of X G z_int,PySem.W.mg_none_of X G z_bool,PySem.W.mg_none_of X G z_str,PySem.W.mg_none_of X G z_all,PySem.W.mg_none_of X G z_len,PySem.W.mg_none_of X G z_enumerate,PySem.W.mg_none_of X G z_range,PySem.W.mg_none_of X G z_max,PySem.W.mg_none_of X G z_list,PySem.W.mg_none_of X G z_tuple,PySem.W.mg_none_of X G z_divmod,PySem.W.mg_none_of X G z_sorted,PySem.W.mg_none_of X G z_abs,PySem.W.mg_none_of X G z_zip,PySem.W.mg_none_of X G z_min,PySem.W.mg_none_of X G z_dict,PySem.W.mg_none_of X G z_sum,PySem.W.mg_none_of X G z_reversed,⟨_,PySem.W.mg_of X G z_SMALL_LETTERS⟩,⟨_,PySem.W.mg_of X G z_MOST_LETTERS⟩⟩;have Z:eU K C:=⟨⟨y1,y2,y3,y4⟩,y_kinds,y_end,y_steps,y_counts⟩;refine FU X G hfa x43 (fun _ _ _ _ _ _ _=>rfl) fun base=>?_;have gc0:=fg X G x0 (oR (P:=l.prog) (w:=w) (base:=base) x0.F T ) (bd1 x0.F fun _ _ _ _ _ _ _=>rfl);have ga3:=fg X G x1 (jL (P:=l.prog) (w:=w) (base:=base) x1.F T ) (bd1 x1.F fun _ _ _ _ _ _ _=>rfl);have ga7:=fg X G x2 (kX (P:=l.prog) (w:=w) (base:=base) x2.F T ) (bd2 x2.F fun _ _ _ _ _ _ _ _=>rfl);have Y8:=fg X G x3 (oV (P:=l.prog) (w:=w) (base:=base) x3.F T ) (bd1 x3.F fun _ _ _ _ _ _ _=>rfl);have gb2:=fg X G x4 (mD (P:=l.prog) (w:=w) (base:=base) x4.F T ) (bd1 x4.F fun _ _ _ _ _ _ _=>rfl);have Y3:=fg X G x5 (nP (P:=l.prog) (w:=w) (base:=base) x5.F T ) (bd1 x5.F fun _ _ _ _ _ _ _=>rfl);have gb0:=fg X G x6 (mH (P:=l.prog) (w:=w) (base:=base) x6.F T ) (bd1 x6.F fun _ _ _ _ _ _ _=>rfl);have ga1:=fg X G x7 (lJ (P:=l.prog) (w:=w) (base:=base) x7.F T ) (bd2 x7.F fun _ _ _ _ _ _ _ _=>rfl);have Y1:=fg X G x8 (mG (P:=l.prog) (w:=w) (base:=base) x8.F T ) (bd1 x8.F fun _ _ _ _ _ _ _=>rfl);have ga4:=fg X G x9 (j3 (P:=l.prog) (w:=w) (base:=base) x9.F T ) (bd2 x9.F fun _ _ _ _ _ _ _ _=>rfl);have Y9:=fg X G x10 (jb (P:=l.prog) (w:=w) (base:=base) x10.F T ) (bd2 x10.F fun _ _ _ _ _ _ _ _=>rfl);have ga9:=fg X G x11 (lu (P:=l.prog) (w:=w) (base:=base) x11.F T Z ) (bd2 x11.F fun _ _ _ _ _ _ _ _=>rfl);have Y2:=fg X G x12 (kI (P:=l.prog) (w:=w) (base:=base) x12.F T Z ) (bd1 x12.F fun _ _ _ _ _ _ _=>rfl);have Y5:=fg X G x13 (ki (P:=l.prog) (w:=w) (base:=base) x13.F T Z ) (bd3 x13.F fun _ _ _ _ _ _ _ _ _=>rfl);have gd2:=fg X G x14 (ym (P:=l.prog) (w:=w) (base:=base) x14.F T ) (bd2 x14.F fun _ _ _ _ _ _ _ _=>rfl);have Y0:=fg X G x15 (yq (P:=l.prog) (w:=w) (base:=base) x15.F T ) (bd2 x15.F fun _ _ _ _ _ _ _ _=>rfl);have gc9:=fg X G x16 (uF (P:=l.prog) (w:=w) (base:=base) x16.F T ) (bd2 x16.F fun _ _ _ _ _ _ _ _=>rfl);have gc1:=fg X G x17 (rJ (P:=l.prog) (w:=w) (base:=base) x17.F T ) (bd3 x17.F fun _ _ _ _ _ _ _ _ _=>rfl);have gb8:=fg X G x18 (yr (P:=l.prog) (w:=w) (base:=base) x18.F T ) (bd3 x18.F fun _ _ _ _ _ _ _ _ _=>rfl);have gb5:=fg X G x19 (rD (P:=l.prog) (w:=w) (base:=base) x19.F T ga7) (bd3 x19.F fun _ _ _ _ _ _ _ _ _=>rfl);have gb9:=fg X G x20 (o6 (P:=l.prog) (w:=w) (base:=base) x20.F T ga3 Y8) (bd2 x20.F fun _ _ _ _ _ _ _ _=>rfl);have ga2:=fg X G x21 (jr (P:=l.prog) (w:=w) (base:=base) x21.F T Z Y5) (bd4 x21.F fun _ _ _ _ _ _ _ _ _ _=>rfl);have ga6:=fg X G x22 (kL (P:=l.prog) (w:=w) (base:=base) x22.F T Z Y9) (bd3 x22.F fun _ _ _ _ _ _ _ _ _=>rfl);have gd0:=fg X G x23 (ui (P:=l.prog) (w:=w) (base:=base) x23.F T Y0) (bd1 x23.F fun _ _ _ _ _ _ _=>rfl);have gd1:=fg X G x24 (uu (P:=l.prog) (w:=w) (base:=base) x24.F T Y0) (bd2 x24.F fun _ _ _ _ _ _ _ _=>rfl);have ga5:=fg X G x25 (yu (P:=l.prog) (w:=w) (base:=base) x25.F T Y0) (bd3 x25.F fun _ _ _ _ _ _ _ _ _=>rfl);have gc3:=fg X G x26 (qN (P:=l.prog) (w:=w) (base:=base) x26.F T gc1 Y0) (bd4 x26.F fun _ _ _ _ _ _ _ _ _ _=>rfl);have gc6:=fg X G x27 (uB (P:=l.prog) (w:=w) (base:=base) x27.F T Y0) (bd2 x27.F fun _ _ _ _ _ _ _ _=>rfl);have gc5:=fg X G x28 (rV (P:=l.prog) (w:=w) (base:=base) x28.F T Y0) (bd3 x28.F fun _ _ _ _ _ _ _ _ _=>rfl);have gb4:=fg X G x29 (mL (P:=l.prog) (w:=w) (base:=base) x29.F T gb5) (bd4 x29.F fun _ _ _ _ _ _ _ _ _ _=>rfl);have gb7:=fg X G x30 (oK (P:=l.prog) (w:=w) (base:=base) x30.F T gb9 Y8) (bd2 x30.F fun _ _ _ _ _ _ _ _=>rfl);have Y7:=fg X G x31 (g9 (P:=l.prog) (w:=w) (base:=base) x31.F T Z ga6 ga2 Y1) (bd2 x31.F fun _ _ _ _ _ _ _ _=>rfl);have gb6:=fg X G x32 (oa (P:=l.prog) (w:=w) (base:=base) x32.F T Y0 ga5 gc3) (bd5 x32.F fun _ _ _ _ _ _ _ _ _ _ _=>rfl);have gc4:=fg X G x33 (sk (P:=l.prog) (w:=w) (base:=base) x33.F T gb4) (bd3 x33.F fun _ _ _ _ _ _ _ _ _=>rfl);have ga0:=fg X G x34 (iA (P:=l.prog) (w:=w) (base:=base) x34.F T gb7 gb2) (bd2 x34.F fun _ _ _ _ _ _ _ _=>rfl);have gc2:=fg X G x35 (qm (P:=l.prog) (w:=w) (base:=base) x35.F T gd0 gd1 gc9 gb6 gc6 Y0 ga5 gc5) (bd3 x35.F fun _ _ _ _ _ _ _ _ _=>rfl);have gb3:=fg X G x36 (mF (P:=l.prog) (w:=w) (base:=base) x36.F T gc4) (bd3 x36.F fun _ _ _ _ _ _ _ _ _=>rfl);have ga8:=fg X G x37 (lG (P:=l.prog) (w:=w) (base:=base) x37.F T Z ga1 Y1 gb3 ga4) (bd3 x37.F fun _ _ _ _ _ _ _ _ _=>rfl);have gc7:MkD l.prog w K mg base "Chart" C 7 3 (lN C):=⟨_,_,_,⟨m1,m2,m3,m4⟩,uI x38 T Z gb0 Y3 ga8 ga9,PySem.W.mg_of X G m0,bd3 x38 fun _ _ _ _ _ _ _ _ _=>rfl⟩;have Y6:=fg X G x39 (oZ (P:=l.prog) (w:=w) (base:=base) x39.F T gc7 ga0) (bd2 x39.F fun _ _ _ _ _ _ _ _=>rfl);have gb1:=fg X G x40 (xi (P:=l.prog) (w:=w) (base:=base) x40.F T Y2 Y6) (bd2 x40.F fun _ _ _ _ _ _ _ _=>rfl);have Y4:=fg X G x41 (mM (P:=l.prog) (w:=w) (base:=base) x41.F T Y6 Y7 gc0 Y2) (bd3 x41.F fun _ _ _ _ _ _ _ _ _=>rfl);have gc8:=fg X G x42 (uf (P:=l.prog) (w:=w) (base:=base) x42.F T gc2 Y0 gb1 gb8 Y4) (bd1 x42.F fun _ _ _ _ _ _ _=>rfl);exact EF x43.F T gc8 gd2
end My
namespace PySem.W.Fast
def tw10074949446153614210:=Nat
def tw10083977884028328381:=Nat
def tw10166199934206244215:=Nat
def tw10290397125455744926:=Nat
def tw10310288490003455969:=Nat
def tw10324979580158675032:=Nat
def tw10347446610426179742:=Nat
def tw10371816578073525267:=Nat
def tw10397197197072656525:=Nat
def tw10427464210468617597:=Nat
def tw10483539539917197333:=Nat
def tw10523474256799984637:=Nat
def tw10534021036141656197:=Nat
def tw10632711082236287723:=Nat
def tw10664899141813110893:=Nat
def tw10744732549042299159:=Nat
def tw10788961483765713349:=Nat
def tw10805473781811669726:=Nat
def tw11105952739814856220:=Nat
def tw11270606037845052376:=Nat
def tw11281342385631820843:=Nat
def tw11568001556043490083:=Nat
def tw11709249040909140031:=Nat
def tw11885199138765207934:=Nat
def tw1190995866560640361:=Nat
def tw12022699826163838922:=Nat
def tw12035718789967908776:=Nat
def tw12068233887115026778:=Nat
def tw12085101794921905997:=Nat
def tw12144352880109345564:=Nat
def tw12155587318976063268:=Nat
def tw12214540808675538156:=Nat
def tw12248102119437627163:=Nat
def tw12372812252755671999:=Nat
def tw12380518905173810707:=Nat
def tw12456436473774343032:=Nat
def tw12557081492882000785:=Nat
def tw12622217464164069950:=Nat
def tw13278483305499578844:=Nat
def tw13290952326103115473:=Nat
def tw13449038184842707469:=Nat
def tw1347850670436712664:=Nat
def tw13882151875649888024:=Nat
def tw13925666048346154078:=Nat
def tw14032879147058458257:=Nat
def tw14110233996964088237:=Nat
def tw14148456400843599609:=Nat
def tw1416716141089443225:=Nat
def tw14308000346120087468:=Nat
def tw14335311031326386400:=Nat
def tw14357100183751432269:=Nat
def tw14465282291091971372:=Nat
def tw14594749048238721946:=Nat
def tw14784375787610516661:=Nat
def tw14947536915990532336:=Nat
def tw15133519455602461322:=Nat
def tw15181046782352507929:=Nat
def tw1519476399361696803:=Nat
def tw15257502152070560189:=Nat
def tw15353543589373928203:=Nat
def tw15378682419859250665:=Nat
def tw15392576828968000212:=Nat
def tw15440181301227813934:=Nat
def tw15477663321308310652:=Nat
def tw1567576905573784361:=Nat
def tw15823624498911908519:=Nat
def tw15861132440500697772:=Nat
def tw15934697491643335565:=Nat
def tw16040272433934473436:=Nat
def tw16100778149713963041:=Nat
def tw16169468494169606416:=Nat
def tw16197856357656245828:=Nat
def tw16241274519040878471:=Nat
def tw16266675419390720354:=Nat
def tw16277748846364737700:=Nat
def tw16297800667756358007:=Nat
def tw16309653256250843201:=Nat
def tw16313213137143936875:=Nat
def tw16340617885424427177:=Nat
def tw16392310381322627374:=Nat
def tw16442342253421830548:=Nat
def tw16607935584647852260:=Nat
def tw16621911940423056235:=Nat
def tw16633022175853770040:=Nat
def tw16687067253820449424:=Nat
def tw16801814483829697189:=Nat
def tw16834580743636783589:=Nat
def tw16871291257477323635:=Nat
def tw16951678721464336813:=Nat
def tw17122234674602151160:=Nat
def tw17135569848599519834:=Nat
def tw17159820005071681129:=Nat
def tw17214083943781776177:=Nat
def tw17250850293641814219:=Nat
def tw17377367598860011338:=Nat
def tw17549810051617303283:=Nat
def tw17558841418507873219:=Nat
def tw17560244028434184400:=Nat
def tw17631899052832662527:=Nat
def tw17639987479900494481:=Nat
def tw17709995439140504436:=Nat
def tw17797258137761462644:=Nat
def tw17813450640255280404:=Nat
def tw17824593560598170531:=Nat
def tw17844304125594543004:=Nat
def tw17991442256818669083:=Nat
def tw18358517159222332272:=Nat
def tw1838025827779327166:=Nat
def tw1852209777793654749:=Nat
def tw1891733360795187:=Nat
def tw1942788659143344808:=Nat
def tw1974235924465918274:=Nat
def tw2028230151892045526:=Nat
def tw2033913723074117768:=Nat
def tw2047636158068776209:=Nat
def tw2062448231031808319:=Nat
def tw2097015877831000411:=Nat
def tw2113621909418820568:=Nat
def tw2148142964267044249:=Nat
def tw2168487038642870419:=Nat
def tw2184119751482331008:=Nat
def tw2203417668297409581:=Nat
def tw2295379929712460825:=Nat
def tw2300381903423881716:=Nat
def tw2532764763141216978:=Nat
def tw2540696641638147757:=Nat
def tw2607851706702389236:=Nat
def tw2777722130576218453:=Nat
def tw2778851630425425884:=Nat
def tw2815996819015535005:=Nat
def tw284304195046708833:=Nat
def tw2896408643852272467:=Nat
def tw3024703502267394184:=Nat
def tw3050912599795832236:=Nat
def tw3266347163014979566:=Nat
def tw3309058570891697638:=Nat
def tw3313750451956894782:=Nat
def tw3489508108260229107:=Nat
def tw355342993889427710:=Nat
def tw3607307473220646490:=Nat
def tw3609224321003385769:=Nat
def tw363781546477879331:=Nat
def tw3755328239254124426:=Nat
def tw3789145947781788127:=Nat
def tw3837160273428466784:=Nat
def tw3883920191025464898:=Nat
def tw3943143367161290177:=Nat
def tw4030765696056546047:=Nat
def tw4259496782799531251:=Nat
def tw4360178205069611005:=Nat
def tw4392337792642737973:=Nat
def tw4393776942911183582:=Nat
def tw4438254860629118508:=Nat
def tw4444013925382568121:=Nat
def tw4446174747441591775:=Nat
def tw4453499949968987154:=Nat
def tw4455921887088873147:=Nat
def tw4507416845982592418:=Nat
def tw456143427616474141:=Nat
def tw4779694170271550754:=Nat
def tw4966841272941046241:=Nat
def tw4980488194111969360:=Nat
def tw4990367211988860536:=Nat
def tw5024884320552103809:=Nat
def tw5115844035448184193:=Nat
def tw5214898161271984855:=Nat
def tw5399139357745679408:=Nat
def tw5490272867335389457:=Nat
def tw5539513794782830975:=Nat
def tw557284594452081182:=Nat
def tw5638868915612505574:=Nat
def tw5673729481495226458:=Nat
def tw5683341395961494432:=Nat
def tw5689734158535812170:=Nat
def tw5831271469992774252:=Nat
def tw5873149159504309094:=Nat
def tw5878975202792372841:=Nat
def tw5971262098250167461:=Nat
def tw5982969913781495087:=Nat
def tw6077442878798794437:=Nat
def tw6106222656210589078:=Nat
def tw6297976826322922620:=Nat
def tw6472044688444321053:=Nat
def tw6497134780315179614:=Nat
def tw6523321898244595669:=Nat
def tw6703121493293059652:=Nat
def tw6757435037755625893:=Nat
def tw6760524153805656020:=Nat
def tw6789802819176263193:=Nat
def tw6958351254973406076:=Nat
def tw7064644413273663345:=Nat
def tw7078222867363457934:=Nat
def tw7366957831747893312:=Nat
def tw7521364326136394613:=Nat
def tw7524394385415983461:=Nat
def tw754863136855213842:=Nat
def tw7636222270725117214:=Nat
def tw7710854992819752680:=Nat
def tw7727992576099523422:=Nat
def tw7809145098114601527:=Nat
def tw7824590851502854089:=Nat
def tw7919801532371184538:=Nat
def tw8058869889103223254:=Nat
def tw8116111115114619743:=Nat
def tw8131988224071281065:=Nat
def tw8290211437875750598:=Nat
def tw8661801265041236978:=Nat
def tw8662550713344329207:=Nat
def tw8842311817565431000:=Nat
def tw8960058941968548817:=Nat
def tw8986108547337392010:=Nat
def tw901699322253724675:=Nat
def tw9042354415090696974:=Nat
def tw9212010818422947317:=Nat
def tw9303533966068619763:=Nat
def tw9404858586641811780:=Nat
def tw9477906194700828735:=Nat
def tw9485372284113931445:=Nat
def tw9502633247946928312:=Nat
def tw952650378547057045:=Nat
def tw9570741050692637141:=Nat
def tw9582171932260754830:=Nat
def tw9784633344247886268:=Nat
def tw9826230006040837581:=Nat
def tw9862858145090948509:=Nat
def tw9893560907098023219:=Nat
def tw998236634512619593:=Nat
end PySem.W.Fast
open PySem PySem.W PyProof.Rows
set_option maxRecDepth 100000 in
set_option maxHeartbeats 0 in
theorem PySem.Challenge.cw_wordwishes_k30_whole_counts_come_to_all_holds : PySem.Challenge.rw_wordwishes_k30_whole_counts_come_to_all.Holds := by
 w_on;o_law;z_head;(case hw=>w_witness2)
 k_fill
 refine L2.Ao (fun _=>rfl) ?_;refine L2.Gp (S:=My.S_law) My.Hy (k:=12) (x:="_law_script") (l:=PySem.Challenge.rw_wordwishes_k30_whole_counts_come_to_all) ⟨rfl,by decide,by decide⟩ rfl rfl (fun w h Y=>Y) ?F
 case F =>
  intro w mg fa h KX G hmg
  refine' My.EB KX G hmg ?_ ?_ ?_ ?_ ?_ ?_ ?_ ?_ ?_ ?_ ?_ ?_ ?_ ?_ ?_ ?_ ?_ ?_ ?_ ?_ ?_ ?_ ?_ ?_ ?_ ?_ ?_ ?_ ?_ ?_ ?_ ?_ ?_ ?_ ?_ ?_ ?_ ?_ ?_ ?_ ?_ ?_ ?_ ?_ ?_ ?_ ?_ ?_ ?_ ?_ ?_ ?_ ?_ ?_ ?_ ?_ ?_ ?_ ?_ ?_ ?_ ?_ ?_ ?_ ?_ ?_ ?_ ?_ ?_ ?_ ?_ ?_ ?_ ?_ ?_ ?_ ?_ ?_ ?_ ?_
  all_goals try first|exact L2.HS (by k_is) (by k_is) (by k_is) (by k_is)|exact L2.zZ (by k_is) (by k_is) (by k_is)|k_is
