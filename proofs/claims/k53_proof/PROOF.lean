import PyProof.Rows.All
import Wide.All
import OpenK.AllK
import Wide.FinOn
import Lean
import PyProof.EqAt
import PyProof.EqKinds
import PyProof.TupleCall
import KE.KRevIter
import PyProof.NeKinds
import PyProof.Draws
import PyProof.EnumMake
import KE.KSortTup
import PyProof.ZipIter
import KE.KDictList
import PyProof.AttrMissHeap
import KE.KDictOf
import PyProof.Rows.SetFrom
import PyProof.Rows.SortRunsK
import PyProof.IsRules
import PyProof.SetRoads
import PySem.Challenge.RW_wordwishes_k53_lexicons_shortened
set_option Elab.async false
set_option linter.all false
set_option maxRecDepth 100000
set_option maxHeartbeats 4000000
set_option bootstrap.genMatcherCode false
set_option compiler.extract_closed false
noncomputable section
open PySem.W renaming Frag->o0,keepIn->S0,fnOf->U6
open PySem renaming Value->u8,Shared->v0,sizeLine->H0,wpAny_bind->J1,Addr->J5,wpAny_pure->J6,starEach->J8,Expr->K1,wpAny->K4,model->K5,Program->K6,compareOp->K8,Heap->L6,Builtin->L7,wpAny_mono->M0,NameKind->M9,mem_of_lookup->N1,Around->N6,foldedSetIterable->N7,binaryOp->O2,World->O3,wpAny_truthy_bool->O8,assignEach->P2,Paired->P5,FuncData->P6,wpAny_passesOwn->P8,wpAny_newObj_type->Q3,bootBuiltins->Q8,mainGlobals->R0,wpAny_getItem_str_slice->R5,Spec->R6,sysModules->S6,Scope->S7,backTo->S9,behindInMarks->T0,letOwnedTupleGo->T4,sliceBounds->U2,wpAny_pyIter_list->U4,eval->U7,Comprehension->V1,wpAny_execs_nil->V2,codeAny->V3,post_val_or_str->V6,codeAny_mono->V9,swapsWith->W1,call_meets->W4,getItem->W8,attributeBase->W9,wpAny_standAt->X0,Keyword->X5,Stmt->X8,typeIs_int->X9,subscripted->Z3,keywordEach->Z4,callerA->Z5,tupleKind->Z6,assign->Z7,IsPart->Z9,valueAt->aa2,pyIter->aa4,cLine->aa5,Operator->aa6,standAt->aa7,inplaceOp->aa8,PassesOwn->aa9,BindsTo->ab0,cellsFrom->ab1
open List renaming size_toArray->I0,replicate->J3,mem_append_right->K0,getElem?_append_left->L4,mem_cons_of_mem->L5,length_append->L9,replicate_succ->N3,lookup_cons->N4,mem_cons_self->N9,map_cons->O0,getElem?_eq_some_iff->O4,any_cons->O5,find?_cons->P0,getElem?_append_right->P1,getElem?_map->Q0,flatten_cons->Q5,getElem?_eq_getElem->Q7,filterMap_cons->R1,getElem?_replicate->R4,getElem?_set_self->R7,mem_cons->R8,mem_append->S8,mem_filterMap->T5,nodup_cons->T6,length_map->T7,all_cons->T8,mem_singleton->U0,range->U1,mem_range->U5,length_cons->U8,all_eq_true->V0,append_nil->V4,length->W7,foldl->aa1
open PySem.Heap renaming get?_push_of_some->J0,lt_size->J4,get?_push_size->K3,SameBut->V8
open Nat renaming le_refl->J7,lt_of_lt_of_le->J9,ne_of_lt->K2,le_trans->N0,lt_succ_of_lt->O9,lt_irrefl->Q9,zero_le->U3,lt_succ_self->U9,ne_of_gt->X4
open PyProof.Rows renaming slot_tuple_getitem->K7,kindOf->W3,AllBare->W6,envOfC->Z8,IsTup->ab4
open Bool renaming and_eq_true->K9,false_ne_true->L8,false_eq_true->O7
open PySem.Builtin.Tuple renaming tupleExact->M7
open PySem.SeqAt renaming EqAt->N5
open Option.some renaming inj->N8
open ForInStep renaming yield->O1
open PySem.NameKind renaming free->O6,cell->T9
open Option renaming some->P3,isSome_iff_exists->P9,map_some->V7
open PySem.Builtin.Slice renaming slicePlaces->P4
open False renaming elim->P7
open PySem.Builtin.List renaming listTooLong->Q6
open PySem.Builtin.Str renaming occurrences->R3
open PySem.Code renaming compLoop->R9
open Array renaming length_toList->S1
open PySem.F renaming slot_int_rmul->V5
open Pure renaming pure->W0
open PySem.Paired renaming length->W5
open PySem.Value renaming ref->X1
open PySem.Txt renaming slice->X6,slice_le->X7
open Sum renaming inl->Z0,inr->Z1
open Ne renaming symm->aa0
open True renaming intro->aa3
open LawfulMonad renaming pure_bind->ab3
set_option compiler.extract_closed false
namespace L2
open PySem PySem.Spec PyProof.Rows
abbrev Key:=Sum Int Str
def m5:Key->u8->Bool
 |.inl k,v=>u8.isInt k v
 |.inr x,v=>u8.isStrOf x v
noncomputable def GF(w:O3):Key->Int
 |.inl k=>hashInt k
 |.inr x=>hashStr w x
theorem bh:∀{k:Key}{v:u8},m5 k v=true->(∃i t,k=Z0 i/\v=u8.int i t)∨(∃x t,k=Z1 x/\v=u8.str x t)
 |.inl i,v,h=>by
  obtain⟨t,e⟩:=u8.isInt_shape (k:=i) (v:=v) h;exact .inl ⟨i,t,rfl,e⟩
 |.inr x,v,h=>by
  obtain⟨t,e⟩:=u8.isStrOf_shape (x:=x) (v:=v) h;exact .inr ⟨x,t,rfl,e⟩
theorem uL(i:Int) (t:Tok):m5 (.inl i) (.int i t)=true:=by simp[m5,u8.isInt]
theorem u7(x:Str) (t:Tok):m5 (.inr x) (.str x t)=true:=by simp[m5,u8.isStrOf]
theorem DF(a b:Int):decide ((Z0 a:Key)=Z0 b)=(a==b):=by
 by_cases e:a=b
 ·subst e;simp
 ·have h:¬ (Z0 a:Key)=Z0 b:=fun q=>e (Z0.inj q);rw[decide_eq_false h];exact(beq_eq_false_iff_ne.mpr e).symm
theorem C5(a b:Str):decide ((Z1 a:Key)=Z1 b)=decide (a=b):=by
 by_cases e:a=b
 ·subst e;simp
 ·have h:¬ (Z1 a:Key)=Z1 b:=fun q=>e (Z1.inj q);rw[decide_eq_false h,decide_eq_false e]
theorem C0(a:Int) (b:Str):decide ((Z0 a:Key)=Z1 b)=false:=decide_eq_false (fun q=>nomatch q)
theorem B2(a:Str) (b:Int):decide ((Z1 a:Key)=Z0 b)=false:=decide_eq_false (fun q=>nomatch q)
def bU(prog:K6) (w:O3):PySem.KeyKind prog w Key where
 is:=m5
 hash:=GF w
 inj:=fun v a b ha hb=>by
  rcases bh ha with⟨i,t,rfl,rfl⟩|⟨x,t,rfl,rfl⟩
  ·rcases bh hb with⟨j,u,rfl,e⟩|⟨y,u,rfl,e⟩
   ·injection e with e1 _;rw[e1]
   ·exact nomatch e
  ·rcases bh hb with⟨j,u,rfl,e⟩|⟨y,u,rfl,e⟩
   ·exact nomatch e
   ·injection e with e1 _;rw[e1]
 byValue:=fun k v h=>by
  rcases bh h with⟨i,t,rfl,rfl⟩|⟨x,t,rfl,rfl⟩<;>rfl
 pyHash:=fun hv h=>by
  rcases bh hv with⟨i,t,rfl,rfl⟩|⟨x,t,rfl,rfl⟩
  ·exact wpAny_pyHash_int h
  ·exact wpAny_pyHash_str h
 eqBool:=fun hu hv h=>by
  rcases bh hu with⟨i,t,rfl,rfl⟩|⟨x,t,rfl,rfl⟩
  ·rcases bh hv with⟨j,u,rfl,rfl⟩|⟨y,u,rfl,rfl⟩
   ·rw[DF]at h;exact wpAny_eqBool_int h
   ·rw[C0]at h;exact N5.int_str i t y u _ _ _ _ h
  ·rcases bh hv with⟨j,u,rfl,rfl⟩|⟨y,u,rfl,rfl⟩
   ·rw[B2]at h;exact N5.str_int x t j u _ _ _ _ h
   ·rw[C5]at h;exact wpAny_eqBool_str h
 «strs»:=fun k x t v h=>by
  rcases bh h with⟨i,u,rfl,e⟩|⟨y,u,rfl,e⟩
  ·exact nomatch e
  ·injection e with e1 _
   subst e1;cases v<;>rfl
theorem ri(prog:K6) (w:O3) (i:Int) (t:Tok):(bU prog w).is (.inl i) (.int i t)=true:=uL i t
theorem rD(prog:K6) (w:O3) (x:Str) (t:Tok):(bU prog w).is (.inr x) (.str x t)=true:=u7 x t
inductive V where
 |non|bl (b:Bool)|int (i:Int)|str (x:Str)|byt (b:Array UInt8)|flt (b:UInt64)|ref (a:J5)|ty (n:String)
 deriving DecidableEq
def aA:V->u8->Prop
 |.non,u=>u=u8.none
 |.bl b,u=>u=u8.bool b
 |.int i,u=>∃t,u=u8.int i t
 |.str x,u=>∃t,u=u8.str x t
 |.byt b,u=>∃t,u=u8.bytes b t
 |.flt b,u=>∃t,u=u8.float b t
 |.ref a,u=>u=X1 a
 |.ty n,u=>u=u8.type n
abbrev ar:List V->List u8->Prop:=P5 aA
theorem ar.length{xs:List V}{us:List u8}(r:ar xs us):xs.length=us.length:=W5 r
theorem ar.get:∀{xs:List V}{us:List u8}{i:Nat}{x:V},ar xs us->xs[i]?=some x->∃u,us[i]?=some u/\aA x u
 |_,_,_,_,.nil,e=>by simp at e
 |_,_,0,_,.cons r _,e=>by simp at e;subst e;exact⟨_,rfl,r⟩
 |_,_,i+1,x,.cons _ t,e=>by
  obtain⟨u,h1,h2⟩:=ar.get (i:=i) (x:=x) t (by simpa using e);exact⟨u,by simpa using h1,h2⟩
theorem ar.set{x:V}{u:u8}(r:aA x u):∀{xs:List V}{us:List u8}(i:Nat),ar xs us->ar (xs.set i x) (us.set i u)
 |_,_,_,.nil=>.nil
 |_,_,0,.cons _ t=>.cons r t
 |_,_,i+1,.cons q t=>.cons q (ar.set r i t)
theorem ar.append:∀{xs ys:List V}{us ws:List u8},ar xs us->ar ys ws->ar (xs++ys) (us++ws)
 |_,_,_,_,.nil,s=>s
 |_,_,_,_,.cons r t,s=>.cons r (ar.append t s)
theorem ar.take:∀{xs:List V}{us:List u8}(n:Nat),ar xs us->ar (xs.take n) (us.take n)
 |_,_,0,_=>.nil
 |_,_,_+1,.nil=>.nil
 |_,_,n+1,.cons r t=>.cons r (ar.take n t)
theorem ar.drop:∀{xs:List V}{us:List u8}(n:Nat),ar xs us->ar (xs.drop n) (us.drop n)
 |_,_,0,r=>r
 |_,_,_+1,.nil=>.nil
 |_,_,n+1,.cons _ t=>ar.drop n t
def kG:Option V->Option u8->Prop
 |some v,some u=>aA v u
 |none,none=>True
 |_,_=>False
def KV{κ:Type}:List (κ×V)->List (κ×u8)->Prop:=P5 fun(p:κ×V) (q:κ×u8)=>p.1=q.1/\aA p.2 q.2
def kV:Key->V
 |.inl i=>.int i
 |.inr x=>.str x
inductive HO where
 |lst (xs:List V)
 |tup (xs:List V)
 |dK (kvs:List (Key×V))|dT (kvs:List (List Key×V))
 |set (S:Int->Bool) (n:Nat)
 |ins (C dx:J5) (fs:List (Str×V))
 |own (x:J5)
 |xd (fs:List (Str×V))
 |met (f x:J5)
 |rng (lo hi:Int)
 |frz (o:Obj) (u:HO)
 |tbl (ps:Array u8)
 |ext (φ:L6->Prop)
abbrev Hp:=J5->Option HO
def upd(H:Hp) (a:J5) (o:HO):Hp:=fun b=>if b=a then some o else H b
theorem aL{H:Hp}{a:J5}{o:HO}:upd H a o a=some o:=by unfold upd;rw[if_pos rfl]
theorem az{H:Hp}{a b:J5}{o:HO}(h:b≠a):upd H a o b=H b:=by unfold upd;rw[if_neg h]
theorem EO{H:Hp}{a b:J5}{o u:HO}(h:H a=some o) (h':H b=some u) (d:o≠u):a≠b:=by
 intro e;subst e;rw[h]at h';exact d (N8 h')
theorem bB{H:Hp}{a b:J5}{o:HO}(h:H a=some o) (h':H b=none):a≠b:=by
 intro e;subst e;rw[h]at h';cases h'
def mB(h:L6) (a:J5) (xs:Array u8):Prop:=∃o,h.get? a=some o/\o.cls=.type "tuple"/\(∃n,o.data=.seq xs n)/\o.dict=none
theorem mB.tup{h:L6}{a:J5}{xs:Array u8}(x:mB h a xs):ab4 h a xs:=let⟨o,e,c,d,_⟩:=x;⟨o,e,c,d⟩
theorem mB.lt{h:L6}{a:J5}{xs:Array u8}(x:mB h a xs):a<h.objs.size:=let⟨_,e,_⟩:=x;J4 e
theorem mB.new(h:L6) (xs:Array u8):mB (h.push { cls:=.type "tuple",data:=.seq xs }) h.objs.size xs:=⟨_,K3 h rfl,rfl,⟨_,rfl⟩,rfl⟩
section
variable(P:K6) (w:O3)
def bq(H:Hp) (h:L6) (a:J5):HO->Prop
 |.lst xs=>xs.length<=H0/\∃(its:List u8) (n:Nat),ar xs its/\h.get? a=some { cls:=.type "list",data:=.seq its.toArray n }
 |.tup xs=>xs.length<=H0/\∃its:List u8,ar xs its/\mB h a its.toArray
 |.dK kvs=>kvs.length<=H0/\(a==S6)=false/\∃vs,KV kvs vs/\h.DictOf (bU P w) a vs
 | .dT kvs => kvs.length ≤ H0 ∧ (a == S6) = false ∧ ∃ xs:List (List Key × J5 × u8),
   P5 (fun(p:List Key×V) (q:List Key×J5×u8)=>p.1=q.1/\H q.2.1=some (.tup (p.1.map kV))/\aA p.2 q.2.2) kvs xs /\
   ∃o es ep,h.get? a=some o/\o.ExactDict/\o.data=.dict es ep/\es.toList=xs.map (entryOfKey (Z6 (bU P w)))/\(xs.map (·.1)).Nodup
 |.set S n=>h.SetOf (intKind P w) a S n
 | .ins C dx fs => H dx = some (.own a) ∧ fs.length ≤ 1000 ∧ dx ≠ a ∧ h.get? a = some (PySem.W.instObj C dx) ∧
   ∃mA,h.Ns1 dx mA/\(∀f,kG (fs.lookup f) (mA f))/\PySem.Within mA (fs.map (·.1))
 |.own _=>∃o,h.get? a=some o
 |.xd fs=>∃mA,h.Ns1 a mA/\∀f,kG (fs.lookup f) (mA f)
 |.rng lo hi=>∃t u v,h.get? a=some { cls:=.type "range",data:=.fields #[.int lo t,.int hi u,.int 1 v] }
 |.frz o u=>h.get? a=some o/\bq H h a u
 |.tbl ps=>h.get? a=some { cls:=.none,data:=.fields ps }
 |.met f x=>h.get? a=some (PySem.W.methodObj (.ref f) (.ref x))
 |.ext φ=>φ h/\(∃o,h.get? a=some o)/\∀h1 h2:L6,φ h1->(∀o,h1.get? a=some o->h2.get? a=some o)->φ h2
def HOk(H:Hp) (h:L6):Prop:=∀a o,H a=some o->bq P w H h a o
end
section
variable{P:K6}{w:O3}{H H':Hp}{h h':L6}{a:J5}{o:HO}
theorem bq.lt(x:bq P w H h a o):a<h.objs.size:=by
 cases o with
 |lst xs=>obtain⟨_,_,_,_,e⟩:=x;exact J4 e
 |tup xs=>obtain⟨_,_,_,p⟩:=x;exact p.lt
 |dK kvs=>obtain⟨_,_,_,_,o,_,_,e,_⟩:=x;exact J4 e
 |dT kvs=>obtain⟨_,_,_,_,o,_,_,e,_⟩:=x;exact J4 e
 |set S n=>obtain⟨o,_,_,_,e,_⟩:=x;exact J4 e
 |ins C dx fs=>obtain⟨_,_,_,e,_⟩:=x;exact J4 e
 |own y=>obtain⟨_,e⟩:=x;exact J4 e
 |xd fs=>obtain⟨_,⟨_,_,_,e,_⟩,_⟩:=x;exact J4 e
 |rng lo hi=>obtain⟨_,_,_,e⟩:=x;exact J4 e
 |frz ob u=>obtain⟨e,_⟩:=x;exact J4 e
 |tbl ps=>exact J4 (show h.get? a=some _ from x)
 |met f y=>exact J4 (show h.get? a=some _ from x)
 |ext φ=>obtain⟨_,⟨_,e⟩,_⟩:=x;exact J4 e
theorem P5.mapP{α β:Type}{F G:α->β->Prop}:∀{l₁:List α}{l₂:List β},P5 F l₁ l₂->(∀a b,F a b->G a b)->P5 G l₁ l₂
 |_,_,.nil,_=>.nil
 |_,_,.cons r t,f=>.cons (f _ _ r) (P5.mapP t f)
theorem P5.imp'{α β:Type}{F G:α->β->Prop}(f:∀a b,F a b->G a b) {l₁:List α}{l₂:List β}(r:P5 F l₁ l₂):P5 G l₁ l₂:=P5.mapP r f
theorem bq.stay(x:bq P w H h a o) (k:∀b u,(b=a∨H b=some (.own a))->h.get? b=some u->h'.get? b=some u)
  (ho:∀b,H b=some (.own a)->H' b=some (.own a)) (ht:∀b xs,H b=some (.tup xs)->H' b=some (.tup xs)):bq P w H' h' a o:=by
 induction o with
 |lst xs=>obtain⟨z,its,n,r,e⟩:=x;exact⟨z,its,n,r,k _ _ (.inl rfl) e⟩
 |tup xs=>obtain⟨z,its,r,ob,e,c⟩:=x;exact⟨z,its,r,ob,k _ _ (.inl rfl) e,c⟩
 |dK kvs=>obtain⟨z,y,vs,r,ob,es,ep,e,c⟩:=x;exact⟨z,y,vs,r,ob,es,ep,k _ _ (.inl rfl) e,c⟩
 |dT kvs =>
  obtain⟨z,y,xs,r,ob,es,ep,e,c⟩:=x;exact⟨z,y,xs,P5.mapP r fun p q z=>⟨z.1,ht _ _ z.2.1,z.2.2⟩,ob,es,ep,k _ _ (.inl rfl) e,c⟩
 |set S n=>obtain⟨ob,es,ep,t,e,c⟩:=x;exact⟨ob,es,ep,t,k _ _ (.inl rfl) e,c⟩
 |ins C dx fs =>
  obtain⟨d,z,ne,e,mA,⟨od,es,ep,e2,c⟩,r⟩:=x;exact⟨ho _ d,z,ne,k _ _ (.inl rfl) e,mA,⟨od,es,ep,k _ _ (.inr d) e2,c⟩,r⟩
 |own y=>obtain⟨ob,e⟩:=x;exact⟨ob,k _ _ (.inl rfl) e⟩
 |xd fs=>obtain⟨mA,⟨od,es,ep,e,c⟩,r⟩:=x;exact⟨mA,⟨od,es,ep,k _ _ (.inl rfl) e,c⟩,r⟩
 |rng lo hi=>obtain⟨t,u,v,e⟩:=x;exact⟨t,u,v,k _ _ (.inl rfl) e⟩
 |frz ob u ih=>obtain⟨e,q⟩:=x;exact⟨k _ _ (.inl rfl) e,ih q⟩
 |tbl ps =>
  have e:h.get? a=some { cls:=.none,data:=.fields ps }:=x;show h'.get? a=some { cls:=.none,data:=.fields ps };exact k a _ (.inl rfl) e
 |met f y =>
  have e:h.get? a=some (PySem.W.methodObj (.ref f) (.ref y)):=x;show h'.get? a=some (PySem.W.methodObj (.ref f) (.ref y));exact k a _ (.inl rfl) e
 |ext φ=>obtain⟨p,⟨o,e⟩,st⟩:=x;exact⟨st _ _ p fun o q=>k _ _ (.inl rfl) q,⟨o,k _ _ (.inl rfl) e⟩,st⟩
theorem HOk.lt(x:HOk P w H h) (e:H a=some o):a<h.objs.size:=(x a o e).lt
theorem HOk.fresh(x:HOk P w H h) (e:h.objs.size<=a):H a=none:=by
 cases q:H a with
 |none=>rfl
 |some u=>exact absurd (J9 (x.lt q) e) (Q9 _)
theorem HOk.kept(x:HOk P w H h) (k:∀b u,h.get? b=some u->h'.get? b=some u):HOk P w H h':=fun a o e =>
 (x a o e).stay (fun b u _ q=>k b u q) (fun _ q=>q) fun _ _ q=>q
theorem HOk.laid(x:HOk P w H h) (k:∀b u,h.get? b=some u->h'.get? b=some u) (hp:h.objs.size<=a) (new:bq P w (upd H a o) h' a o):HOk P w (upd H a o) h':=fun b u e=>by
 have hn:=x.fresh hp
 by_cases hb:b=a
 ·subst hb;rw[aL]at e;cases e;exact new
 ·rw[az hb]at e;exact(x b u e).stay (fun c v _ q=>k c v q) (fun c q=>by rw[az (bB q hn)];exact q) fun c xs q=>by rw[az (bB q hn)];exact q
end
def Rd(H:Hp) (a:J5) (u:HO):Prop:=H a=some u∨∃o,H a=some (.frz o u)
theorem Rd.of{H:Hp}{a:J5}{u:HO}(h:H a=some u):Rd H a u:=.inl h
theorem Rd.ok{P:K6}{w:O3}{H:Hp}{h:L6}{a:J5}{u:HO}(r:Rd H a u) (x:HOk P w H h):bq P w H h a u:=by
 rcases r with r|⟨o,r⟩
 ·exact x a u r
 ·obtain⟨_,q⟩:=x a _ r;exact q
def Mut:Option HO->Prop
 |some (.lst _)=>True
 |some (.dK _)=>True
 |some (.dT _)=>True
 |some (.set _ _)=>True
 |some (.ins _ _ _)=>True
 |some (.ext _)=>True
 |_=>False
section
variable{P:K6}{w:O3}{H:Hp}{h h':L6}{x e:J5}{o':HO}
theorem HOk.write(ok:HOk P w H h) (mu:Mut (H x)) (he:e=x∨H e=some (.own x)) (k:∀b u,b≠e->h.get? b=some u->h'.get? b=some u) (heo:∃u,h'.get? e=some u)
  (new:bq P w (upd H x o') h' x o'):HOk P w (upd H x o') h':=fun b u q=>by
 have nown:∀c y,H c=some (.own y)->c≠x:=fun c y r z=>by subst z;rw[r]at mu;exact mu
 have ntup:∀c xs,H c=some (.tup xs)->c≠x:=fun c xs r z=>by subst z;rw[r]at mu;exact mu
 by_cases hb:b=x
 ·subst hb;rw[aL]at q;cases q;exact new
 ·rw[az hb]at q
  by_cases hbe:b=e
  ·have q':H b=some (.own x):=by
    rcases he with z|z
    ·exact absurd (hbe.trans z) hb
    ·rw[hbe];exact z
   rw[q]at q';cases q';obtain⟨v,hv⟩:=heo;exact⟨v,by rw[hbe];exact hv⟩
  ·refine(ok b u q).stay (fun c v hc r=>k c v ?_ r) (fun c r=>by rw[az (nown c b r)];exact r) fun c xs r=>by rw[az (ntup c xs r)];exact r
   rcases hc with rfl|hc
   ·exact hbe
   ·rintro rfl;rcases he with z|z
    ·exact nown c b hc z
    ·rw[hc]at z;cases z;exact hb rfl
end
structure Un(fs ex:List J5) (H H':Hp) (h h':L6):Prop where
 keep:∀b o,h.get? b=some o->H b=none->b∉fs->b∉ex->h'.get? b=some o
 slot:∀b o,h.get? b=some o->H b=none->b∈fs->b∉ex->∃sl,h'.get? b=some { o with slots:=sl }
 free:∀b o,h.get? b=some o->H b=none->b∉ex->H' b=none
 there:∀b o,h.get? b=some o->b∉ex->∃o',h'.get? b=some o'
 tups:∀b xs,H b=some (.tup xs)->H' b=some (.tup xs)
 frzs:∀b o u,H b=some (.frz o u)->H' b=some (.frz o u)
 tbls:∀b ps,H b=some (.tbl ps)->∃more,H' b=some (.tbl (ps++more))
section
variable{fs fs' ex ex':List J5}{H H1 H2:Hp}{h h1 h2 h':L6}{a x e:J5}{o:HO}
theorem Un.any(u:Un fs ex H H1 h h1) {b:J5}{ob:Obj}(q:h.get? b=some ob) (n:H b=none) (hx:b∉ex):∃sl,h1.get? b=some { ob with slots:=sl }:=by
 by_cases hb:b∈fs
 ·exact u.slot b ob q n hb hx
 ·exact⟨ob.slots,u.keep b ob q n hb hx⟩
theorem Un.kept(k:∀b u,h.get? b=some u->h'.get? b=some u):Un fs ex H H h h' :=
 ⟨fun b ob q _ _ _=>k b ob q,fun b ob q _ _ _=>⟨ob.slots,k b ob q⟩,fun _ _ _ n _=>n,fun b ob q _=>⟨ob,k b ob q⟩,fun _ _ q=>q,fun _ _ _ q=>q,fun _ ps q=>⟨#[],by rw[q];simp⟩⟩
theorem Un.refl:Un fs ex H H h h:=Un.kept fun _ _ q=>q
theorem Un.laid(k:∀b u,h.get? b=some u->h'.get? b=some u) (hp:h.objs.size<=a) (hn:H a=none):Un fs ex H (upd H a o) h h' where
 keep:=fun b u q _ _ _=>k b u q
 slot:=fun b u q _ _ _=>⟨u.slots,k b u q⟩
 free:=fun b u q n _=>by rw[az (K2 (J9 (J4 q) hp))];exact n
 there:=fun b u q _=>⟨u,k b u q⟩
 tups:=fun b xs q=>by rw[az (bB q hn)];exact q
 frzs:=fun b u xs q=>by rw[az (bB q hn)];exact q
 tbls:=fun b ps q=>⟨#[],by rw[az (bB q hn),q];simp⟩
theorem Un.write(mu:Mut (H x)) (he:e=x∨H e=some (.own x)) (k:∀b u,b≠e->h.get? b=some u->h'.get? b=some u) (heo:∃u,h'.get? e=some u):Un fs ex H (upd H x o) h h':=by
 have hx:∀b,H b=none->b≠x:=fun b n z=>by subst z;rw[n]at mu;exact mu
 have hb:∀b,H b=none->b≠e:=fun b n z=>by
  subst z;rcases he with r|r
  ·exact hx b n r
  ·rw[n]at r;cases r
 have hm:∀b u,H b=some u->¬ Mut (some u)->b≠x:=fun b u q nm z=>by subst z;rw[q]at mu;exact nm mu
 refine⟨fun b u q n _ _=>k b u (hb b n) q,fun b u q n _ _=>⟨u.slots,k b u (hb b n) q⟩,fun b u q n _=>by rw[az (hx b n)];exact n,fun b u q _=>?_,
  fun b xs q=>by rw[az (hm b _ q fun z=>z)];exact q,fun b u xs q=>by rw[az (hm b _ q fun z=>z)];exact q,fun b ps q=>⟨#[],by rw[az (hm b _ q fun z=>z),q];simp⟩⟩
 by_cases hbe:b=e
 ·subst hbe;exact heo
 ·exact⟨u,k b u hbe q⟩
end
def trk(h:L6) (H:Hp):List J5:=(U1 h.objs.size).filter fun a=>(H a).isSome
def oJ(h:L6) (H:Hp):L6:=PySem.W.hideAll h (trk h H)
theorem vG(h:L6) (H:Hp):(oJ h H).objs.size=h.objs.size:=PySem.W.hideAll_size _ _
theorem wJ{h:L6}{H:Hp}{b:J5}{o:Obj}(e:h.get? b=some o) (n:H b=none):(oJ h H).get? b=some o :=
 PySem.W.hideAll_get _ e fun hm=>by
  have q:(H b).isSome=true:=(List.mem_filter.mp hm).2;rw[n]at q;simp at q
theorem zI{h:L6}{H:Hp}{b:J5}{o:Obj}(e:(oJ h H).get? b=some o):h.get? b=some o/\H b=none:=by
 have e':h.get? b=some o:=PySem.W.of_hideAll (trk h H) e;refine⟨e',?_⟩;cases q:H b with
 |none=>rfl
 |some x =>
  have hm:b∈trk h H:=List.mem_filter.mpr ⟨U5.mpr (J4 e'),by simp[q]⟩;have z:(oJ h H).get? b=none:=PySem.W.hideAll_none (trk h H) hm;rw[z]at e;cases e
noncomputable def zj(g h:L6) (L:J5):List (J5×Obj):=(U1 h.objs.size).filterMap fun a=>if a=L∨(g.get? a).isSome=true then none else(h.get? a).map fun o=>(a,o)
def aH(g h:L6) (L d:J5):List (J5×Obj):=(zj g h L).filter fun p=>decide (p.1≠d)
structure Mod(K:o0) (mg:Str->Option u8) (base:L6):Prop where
 kin:K.In base
 glob:base.Ns R0 mg
 blt:∃mb,base.Ns builtinsNs mb/\∀x:Str,x≠"__name__"->mb x=Q8 x
 nolimit:base.NoLimit
structure Cx where
 prog:K6
 w:O3
 K:o0
 mg:Str->Option u8
 base:L6
 A:N6
 N:List Str
 s₀:v0
 H₀:Hp
 env:Env
 outer:List Env
 stack:List Env
 ex:List J5
 fn:Str->Bool
 calm:Bool
 pn:List (J5×Obj)
 xe:u8->v0->Prop
def frs(l:List Env):List J5:=l.filterMap (·.frame)
abbrev Cx.fs(X:Cx):List J5:=frs X.outer
def Vis(sc:S7) (x:Str):Prop:=sc.names.lookup x=some .local∨sc.names.lookup x=some .cell∨sc.names.lookup x=some .free
def Loc(sc:S7) (x:Str):Prop:=sc.names.lookup x=some .local∨sc.names.lookup x=some .cell
def Gr(env:Env) (h:L6) (m:Str->Option u8) (x:Str) (u:u8):Prop :=
 (env.kindOf x=some .local/\m x=some u)∨((env.kindOf x=some .cell∨env.kindOf x=some .free)/\∃c,env.cells.lookup x=some c/\h.IsCell c (some u))
structure Cx.Ok(X:Cx):Prop where
 mod:Mod X.K X.mg X.base
 kind:X.env.scope.kind=.function
 glob:X.env.globals=R0
 blt:X.env.builtins=builtinsNs
 above:X.s₀.heap.objs.size<=X.env.locals
 inj:∀x y c,X.env.cells.lookup x=some c->X.env.cells.lookup y=some c->x=y
 has:∀x,(X.env.kindOf x=some .cell∨X.env.kindOf x=some .free)->∃c,X.env.cells.lookup x=some c
 cab:∀x c,X.fn x=true->X.env.cells.lookup x=some c->X.s₀.heap.objs.size<=c
 hd:X.calm=true->X.A.handled=none
 frames:X.A.frames=some X.stack
 stk:X.stack=X.outer∨(X.stack=X.env::X.outer/\X.env.frame=some X.env.locals)
 exf:∀b∈X.ex,b≠X.env.locals/\∀x c,X.env.cells.lookup x=some c->c≠b
 bs:∀b o,X.base.get? b=some o->X.s₀.heap.get? b=some o/\X.H₀ b=none
 bsz:X.base.objs.size<=X.s₀.heap.objs.size
 noex:∀b o,X.base.get? b=some o->b∉X.ex
 exfs:∀b∈X.ex,b∉X.fs
 funs:X.s₀.heap.FunFrames X.base X.outer
 frf:∀b∈X.fs,X.H₀ b=none
structure Inv(X:Cx) (aa:List (J5×Obj)) (σ:List (Option V)) (H:Hp) (s:v0):Prop where
 ok:X.Ok
 os:s.os=X.s₀.os
 bare:W6 s.gens
 base:Un X.fs X.ex X.H₀ H X.s₀.heap s.heap
 loc:∃m,s.heap.Ns X.env.locals m/\∀(i:Nat) (x:Str) (v:V),X.N[i]?=some x->σ[i]?=some (some v)->Vis X.env.scope x->∃u,aA v u/\Gr X.env s.heap m x u
 cell:∀x c,X.env.cells.lookup x=some c->∃v,s.heap.IsCell c v
 free:H X.env.locals=none
 freeC:∀x c,X.env.cells.lookup x=some c->H c=none
 pin:∀p∈X.pn++aa,s.heap.get? p.1=some p.2/\H p.1=none/\p.1≠X.env.locals/\p.1∉X.fs/\∀v,p.2.data≠.cell v
 hok:HOk X.prog X.w H s.heap
 len:σ.length=X.N.length
section
variable{X:Cx}{aa:List (J5×Obj)}{σ:List (Option V)}{H H':Hp}{s:v0}{h':L6}
theorem Cx.Ok.nofr(ok:X.Ok) {b:J5}{o:Obj}(e:X.base.get? b=some o):b∉X.fs:=fun hb=>by
 have:=(ok.funs.mem hb).1;rw[e]at this;cases this
theorem Inv.bs(I:Inv X aa σ H s):∀b o,X.base.get? b=some o->s.heap.get? b=some o/\H b=none:=fun b o e =>
 ⟨I.base.keep b o (I.ok.bs b o e).1 (I.ok.bs b o e).2 (I.ok.nofr e) (I.ok.noex b o e),I.base.free b o (I.ok.bs b o e).1 (I.ok.bs b o e).2 (I.ok.noex b o e)⟩
theorem Inv.bk(I:Inv X aa σ H s):∀b o,X.base.get? b=some o->s.heap.get? b=some o:=fun b o e=>(I.bs b o e).1
theorem Inv.mod(I:Inv X aa σ H s):Mod X.K X.mg X.base:=I.ok.mod
theorem Inv.kIn(I:Inv X aa σ H s):X.K.In s.heap:=I.ok.mod.kin.keeps I.bk
theorem Inv.lt(I:Inv X aa σ H s):X.env.locals<s.heap.objs.size:=let⟨_,hn,_⟩:=I.loc;hn.lt
theorem Inv.sz(I:Inv X aa σ H s):X.s₀.heap.objs.size<=s.heap.objs.size:=N0 I.ok.above (Nat.le_of_lt I.lt)
theorem Inv.nofs(I:Inv X aa σ H s) {a:J5}(h:s.heap.objs.size<=a):a∉X.fs:=fun hb=>by
 obtain⟨_,o,ho,_⟩:=I.ok.funs.mem hb;exact absurd (J9 (J4 ho) (N0 I.sz h)) (Q9 _)
theorem Inv.cne(I:Inv X aa σ H s):∀x c,X.env.cells.lookup x=some c->c≠X.env.locals:=fun x c e z=>by
 obtain⟨v,o,ho,hd⟩:=I.cell x c e;obtain⟨m,⟨o',es,ep,ho',hd',_⟩,_⟩:=I.loc;rw[z,ho']at ho;cases ho;rw[hd']at hd;cases hd
theorem Inv.funs(I:Inv X aa σ H s):s.heap.FunFrames X.base X.outer:=by
 have all:∀(l:List Env),(∀b∈frs l,b∈X.fs)->X.s₀.heap.FunFrames X.base l->s.heap.FunFrames X.base l:=by
  intro l
  induction l with
  |nil=>intro _ _;trivial
  |cons env r ih =>
   intro hs hl;obtain⟨hk,⟨L,o,hf,hn,ho,hd⟩,hr⟩:=hl;have hL:L∈X.fs:=hs L (by unfold frs;rw[R1,hf];exact N9);obtain⟨sl,e⟩:=I.base.slot L o ho (I.ok.frf L hL) hL fun z=>I.ok.exfs L z hL;exact⟨hk,⟨L,_,hf,hn,e,hd⟩,ih (fun b hb=>hs b (by unfold frs;rw[R1,hf];exact L5 _ hb)) hr⟩
 exact all X.outer (fun _ hb=>hb) I.ok.funs
theorem Inv.stack(I:Inv X aa σ H s):s.heap.FunFrames X.base X.stack:=by
 rcases I.ok.stk with e|⟨e,hf⟩
 ·rw[e];exact I.funs
 ·rw[e];obtain⟨m,hn,_⟩:=I.loc;refine .cons (by rw[I.ok.kind];decide) hf hn ?_ I.funs;exact L6.get?_none_of_le (N0 I.ok.bsz I.ok.above)
theorem Inv.stkSub(I:Inv X aa σ H s):∀b∈frs X.stack,b∈X.env.locals::X.fs:=fun b hb=>by
 rcases I.ok.stk with e|⟨e,hf⟩
 ·rw[e]at hb;exact L5 _ hb
 ·rw[e]at hb;unfold frs at hb;rw[R1,hf]at hb;exact hb
theorem Inv.stkFree(I:Inv X aa σ H s):∀b∈frs X.stack,H b=none:=fun b hb=>by
 rcases R8.mp (I.stkSub b hb)with e|hb
 ·rw[e];exact I.free
 ·obtain⟨_,o,ho,_⟩:=I.ok.funs.mem hb;exact I.base.free b o ho (I.ok.frf b hb) fun z=>I.ok.exfs b z hb
theorem Inv.step{g':Array GenState}{t':Nat}{d':Drawn}{ch:List J5}(I:Inv X aa σ H s)
  (hch:∀b∈ch,(b∈X.ex∨X.s₀.heap.objs.size<=b)/\b≠X.env.locals/\(∀x c,X.env.cells.lookup x=some c->c≠b)/\∀p∈X.pn++aa,p.1≠b)
  (keep:∀b o,b≠X.env.locals->b∉X.fs->b∉ch->s.heap.get? b=some o->H b=none->h'.get? b=some o)
  (slot:∀b o,b≠X.env.locals->b∈X.fs->b∉ch->s.heap.get? b=some o->H b=none->∃sl,h'.get? b=some { o with slots:=sl }) (free:∀b o,b∉ch->s.heap.get? b=some o->H b=none->H' b=none)
  (there:∀b o,b∉ch->s.heap.get? b=some o->∃o',h'.get? b=some o')
  (tups:∀b xs,H b=some (.tup xs)->H' b=some (.tup xs)) (frzs:∀b o u,H b=some (.frz o u)->H' b=some (.frz o u)) (tbls:∀b ps,H b=some (.tbl ps)->∃more,H' b=some (.tbl (ps++more)))
  (ns:∀m,s.heap.Ns X.env.locals m->h'.Ns X.env.locals m) (hok:HOk X.prog X.w H' h') (hg:W6 g') :
  Inv X aa σ H' { s with heap:=h',gens:=g',drawn:=d',toks:=t' }:=by
 have neL:∀b o,X.s₀.heap.get? b=some o->b≠X.env.locals:=fun b o e=>K2 (J9 (J4 e) I.ok.above);have neC:∀b o,X.s₀.heap.get? b=some o->b∉X.ex->b∉ch:=fun b o e hx hb=>by
  rcases(hch b hb).1 with z|z
  ·exact hx z
  ·exact absurd (J9 (J4 e) z) (Q9 _)
 have cellK:∀x c,X.env.cells.lookup x=some c->∀v,s.heap.IsCell c v->h'.IsCell c v:=fun x c e v ⟨o,ho,hd⟩=>by
  have nch:c∉ch:=fun z=>(hch c z).2.2.1 x c e rfl
  by_cases hc:c∈X.fs
  ·obtain⟨sl,q⟩:=slot c o (I.cne x c e) hc nch ho (I.freeC x c e);exact⟨_,q,hd⟩
  ·exact⟨o,keep c o (I.cne x c e) hc nch ho (I.freeC x c e),hd⟩
 refine⟨I.ok,I.os,hg,⟨fun b o e n hb hx=>?_,fun b o e n hb hx=>?_,fun b o e n hx=>?_,fun b o e hx=>?_,fun b xs e=>tups b xs (I.base.tups b xs e),fun b o xs e=>frzs b o xs (I.base.frzs b o xs e),fun b ps e=>?_⟩,?_,fun x c e=>?_,?_,fun x c e=>?_,fun p hp=>?_,hok,I.len⟩
 ·exact keep b o (neL b o e) hb (neC b o e hx) (I.base.keep b o e n hb hx) (I.base.free b o e n hx)
 ·obtain⟨sl,e1⟩:=I.base.slot b o e n hb hx;obtain⟨sl',e2⟩:=slot b _ (neL b o e) hb (neC b o e hx) e1 (I.base.free b o e n hx);exact⟨sl',e2⟩
 ·obtain⟨o',e1⟩:=I.base.there b o e hx;exact free b o' (neC b o e hx) e1 (I.base.free b o e n hx)
 ·obtain⟨o',e1⟩:=I.base.there b o e hx;exact there b o' (neC b o e hx) e1
 ·obtain⟨m1,e1⟩:=I.base.tbls b ps e;obtain⟨m2,e2⟩:=tbls b _ e1;exact⟨m1++m2,by rw[e2,Array.append_assoc]⟩
 ·obtain⟨m,hn,hl⟩:=I.loc;refine⟨m,ns m hn,fun i x v e1 e2 e3=>?_⟩;obtain⟨u,r,l⟩:=hl i x v e1 e2 e3;refine⟨u,r,?_⟩;rcases l with l|⟨k,c,e,z⟩
  ·exact .inl l
  ·exact .inr ⟨k,c,e,cellK x c e _ z⟩
 ·obtain⟨v,z⟩:=I.cell x c e;exact⟨v,cellK x c e v z⟩
 ·obtain⟨m,⟨o,_,_,ho,_⟩,_⟩:=I.loc;exact free _ o (fun z=>(hch _ z).2.1 rfl) ho I.free
 ·obtain⟨v,o,ho,hd⟩:=I.cell x c e;exact free c o (fun z=>(hch c z).2.2.1 x c e rfl) ho (I.freeC x c e)
 ·obtain⟨e,n,ne,nf,d⟩:=I.pin p hp;have nch:p.1∉ch:=fun z=>(hch p.1 z).2.2.2 p hp rfl;exact⟨keep p.1 p.2 ne nf nch e n,free p.1 p.2 nch e n,ne,nf,d⟩
theorem Inv.un{t':Nat}(I:Inv X aa σ H s) (u:Un X.fs [] H H' s.heap h') (hok:HOk X.prog X.w H' h'):Inv X aa σ H' { s with heap:=h',toks:=t' }:=by
 obtain⟨m,⟨o,es,ep,ho,r⟩,_⟩:=id I.loc;obtain⟨sl,hL⟩:=u.any ho I.free (by simp);exact I.step (g':=s.gens) (d':=s.drawn) (ch:=[]) (fun _ z=>nomatch z) (fun b o _ hb _ e n=>u.keep b o e n hb (by simp)) (fun b o _ hb _ e n=>u.slot b o e n hb (by simp)) (fun b o _ e n=>u.free b o e n (by simp)) (fun b o _ e=>u.there b o e (by simp)) u.tups u.frzs u.tbls (fun m' hm=>by
  obtain⟨o',es',ep',ho',r'⟩:=hm;rw[ho]at ho';cases ho';exact⟨_,es',ep',hL,r'⟩) hok I.bare
theorem Inv.call{g':Array GenState}{t':Nat}{d':Drawn}{ch:List J5}(I:Inv X aa σ H s) (u:Un (frs X.stack) ch H H' s.heap h') (hok:HOk X.prog X.w H' h') (hg:W6 g')
  (hch:∀b∈ch,(b∈X.ex∨X.s₀.heap.objs.size<=b)/\b≠X.env.locals/\(∀x c,X.env.cells.lookup x=some c->c≠b)/\∀p∈X.pn++aa,p.1≠b) :
  Inv X aa σ H' { s with heap:=h',gens:=g',drawn:=d',toks:=t' }:=by
 obtain⟨m,⟨o,es,ep,ho,r⟩,_⟩:=id I.loc;obtain⟨sl,hL⟩:=u.any ho I.free fun z=>(hch _ z).2.1 rfl;exact I.step (ch:=ch) hch (fun b o hL hb hc e n=>u.keep b o e n (fun z=>(R8.mp (I.stkSub b z)).elim hL hb) hc) (fun b o _ _ hc e n=>u.any e n hc) (fun b o hc e n=>u.free b o e n hc) (fun b o hc e=>u.there b o e hc) u.tups u.frzs u.tbls (fun m' hm=>by
  obtain⟨o',es',ep',ho',r'⟩:=hm;rw[ho]at ho';cases ho';exact⟨_,es',ep',hL,r'⟩) hok hg
theorem Inv.turned{t':Nat}{it:J5}(I:Inv X aa σ H s) (k:∀b o,b≠it->s.heap.get? b=some o->h'.get? b=some o) (hn:H it=none) (hL:it≠X.env.locals)
  (h1:it∈X.ex∨X.s₀.heap.objs.size<=it) (h2:∀x c,X.env.cells.lookup x=some c->c≠it) (h3:∀p∈X.pn++aa,p.1≠it):Inv X aa σ H { s with heap:=h',toks:=t' }:=by
 have nit:∀b u,H b=some u->b≠it:=fun b u e z=>by rw[z,hn]at e;cases e
 refine I.step (g':=s.gens) (d':=s.drawn) (ch:=[it]) (fun b hb=>?_) (fun b o _ _ hc e _=>k b o (fun z=>hc (by simp[z])) e) (fun b o _ _ hc e _=>⟨o.slots,k b o (fun z=>hc (by simp[z])) e⟩) (fun _ _ _ _ n=>n)
  (fun b o hc e=>⟨o,k b o (fun z=>hc (by simp[z])) e⟩) (fun _ _ e=>e) (fun _ _ _ e=>e) (fun b ps e=>⟨#[],by rw[e];simp⟩) (fun m hm=>?_) (fun b u e=>?_) I.bare
 ·have e:b=it:=by simpa using hb
  subst e;exact⟨h1,hL,h2,h3⟩
 ·obtain⟨o,es,ep,ho,r⟩:=hm;exact⟨o,es,ep,k _ o (aa0 hL) ho,r⟩
 ·refine(I.hok b u e).stay (fun c v hc q=>k c v ?_ q) (fun _ q=>q) fun _ _ q=>q;rcases hc with z|z
  ·rw[z];exact nit b u e
  ·exact nit c _ z
theorem Inv.tok(I:Inv X aa σ H s) (t:Nat):Inv X aa σ H { s with toks:=t }:=I.un (h':=s.heap) (t':=t) Un.refl I.hok
theorem Inv.kept{t':Nat}(I:Inv X aa σ H s) (k:∀b u,s.heap.get? b=some u->h'.get? b=some u):Inv X aa σ H { s with heap:=h',toks:=t' }:=I.un (Un.kept k) (I.hok.kept k)
theorem Inv.laid{a:J5}{o:HO}{t':Nat}(I:Inv X aa σ H s) (k:∀b u,s.heap.get? b=some u->h'.get? b=some u) (hp:s.heap.objs.size<=a) (new:bq X.prog X.w (upd H a o) h' a o) :
  Inv X aa σ (upd H a o) { s with heap:=h',toks:=t' }:=I.un (Un.laid k hp (I.hok.fresh hp)) (I.hok.laid k hp new)
theorem Inv.write{x e:J5}{o:HO}{t':Nat}(I:Inv X aa σ H s) (mu:Mut (H x)) (he:e=x∨H e=some (.own x)) (k:∀b u,b≠e->s.heap.get? b=some u->h'.get? b=some u) (heo:∃u,h'.get? e=some u)
  (new:bq X.prog X.w (upd H x o) h' x o):Inv X aa σ (upd H x o) { s with heap:=h',toks:=t' }:=I.un (Un.write mu he k heo) (I.hok.write mu he k heo new)
theorem Inv.pins_of{pins':List (J5×Obj)}(I:Inv X aa σ H s) (h:∀p∈pins',s.heap.get? p.1=some p.2/\H p.1=none/\p.1≠X.env.locals/\p.1∉X.fs/\∀v,p.2.data≠.cell v):Inv X pins' σ H s :=
 ⟨I.ok,I.os,I.bare,I.base,I.loc,I.cell,I.free,I.freeC,fun p hp=>(S8.mp hp).elim (fun z=>I.pin p (List.mem_append_left _ z)) (h p),I.hok,I.len⟩
theorem l6{N:List Str}(hN:N.Nodup) {i j:Nat}{x:Str}(a:N[i]?=some x) (b:N[j]?=some x):i=j:=by
 obtain⟨h1,e1⟩:=O4.mp a;obtain⟨h2,e2⟩:=O4.mp b;exact(List.getElem_inj hN).mp (e1.trans e2.symm)
theorem nh{M:Model}{A:N6}{E:u8->v0->Prop}{i:Nat}{x:Str}{v:V}{u:u8}{Q:Unit->v0->Prop}(I:Inv X aa σ H s) (hN:X.N.Nodup) (hi:X.N[i]?=some x) (hx:Loc X.env.scope x) (r:aA v u)
  (h:∀s',Inv X aa (σ.set i (some v)) H s'->(∃a,V8 a s.heap s'.heap/\(a=X.env.locals∨X.env.cells.lookup x=some a))->Q () s') (hf:X.fn x=true∨X.env.scope.names.lookup x=some .local:=by first|exact .inl rfl|exact .inr rfl|assumption):K4 M A (storeName X.env x u) Q E s:=by
 obtain⟨m,hn,hl⟩:=id I.loc;have hcls:(X.env.scope.kind==.class || (X.env.scope.kind==.module&&X.env.locals != X.env.globals))=false:=by rw[I.ok.kind];rfl
 have hiσ:i<σ.length:=by rw[I.len];exact(O4.mp hi).1
 have cne:=I.cne;have tracked:∀{a:J5} {h':L6},(∃o,s.heap.get? a=some o/\H a=none)->V8 a s.heap h'->HOk X.prog X.w H h':=fun {a h'} ha hs b ob e=>by
  obtain⟨_,_,hfree⟩:=ha;refine(I.hok b ob e).stay (fun c w' hc q=>(hs.2 c ?_).trans q) (fun _ q=>q) fun _ _ q=>q;rintro rfl;rcases hc with rfl|hc
  ·rw[hfree]at e;cases e
  ·rw[hfree]at hc;cases hc
 rcases hx with hk|hk
 ·refine wpAny_storeName_local hk hn (fun h' hn' hs=>?_) hcls;obtain⟨oL,_,_,hoL,_⟩:=id hn;refine h _ ⟨I.ok,I.os,I.bare,⟨fun b o e n hb hx=>?_,fun b o e n hb hx=>?_,I.base.free,fun b o e hx=>?_,I.base.tups,I.base.frzs,I.base.tbls⟩,⟨_,hn',fun j y v' e1 e2 e3=>?_⟩,fun y c e=>?_,I.free,I.freeC,fun p hp=>?_,tracked ⟨oL,hoL,I.free⟩ hs,by simpa using I.len⟩ ⟨_,hs,.inl rfl⟩
  ·exact(hs.2 b (K2 (J9 (J4 e) I.ok.above))).trans (I.base.keep b o e n hb hx)
  ·obtain⟨sl,e1⟩:=I.base.slot b o e n hb hx;exact⟨sl,(hs.2 b (K2 (J9 (J4 e) I.ok.above))).trans e1⟩
  ·obtain⟨o',e1⟩:=I.base.there b o e hx;exact⟨o',(hs.2 b (K2 (J9 (J4 e) I.ok.above))).trans e1⟩
  ·by_cases hj:j=i
   ·subst hj;rw[hi]at e1;cases e1;rw[R7 hiσ]at e2;cases e2;exact⟨u,r,.inl ⟨hk,by simp⟩⟩
   ·rw[List.getElem?_set_ne (aa0 hj)]at e2;obtain⟨u',r',q⟩:=hl j y v' e1 e2 e3;refine⟨u',r',?_⟩;rcases q with⟨k,e⟩|⟨k,c,e,z⟩
    ·refine .inl ⟨k,?_⟩;have:y≠x:=fun e=>hj (l6 hN e1 (e▸hi));simp[this,e]
    ·exact .inr ⟨k,c,e,z.sameBut hs (cne y c e)⟩
  ·obtain⟨w',z⟩:=I.cell y c e;exact⟨w',z.sameBut hs (cne y c e)⟩
  ·obtain⟨e,n,ne,nf,d⟩:=I.pin p hp;exact⟨(hs.2 p.1 ne).trans e,n,ne,nf,d⟩
 ·have hfn:X.fn x=true:=by
   rcases hf with z|z
   ·exact z
   ·rw[z]at hk;cases hk
  obtain⟨c,hc⟩:=I.ok.has x (.inl hk);obtain⟨w',z⟩:=I.cell x c hc;refine wpAny_storeName_cell I.ok.kind hk hc z (fun h' hc' hs=>?_);obtain⟨oc,hoc,hocd⟩:=id z;refine h { s with heap:=h' } ⟨I.ok,I.os,I.bare,⟨fun b o e n hb hx=>?_,fun b o e n hb hx=>?_,I.base.free,fun b o e hx=>?_,I.base.tups,I.base.frzs,I.base.tbls⟩,⟨m,hn.sameBut hs (aa0 (cne x c hc)),fun j y v' e1 e2 e3=>?_⟩,fun y c' e=>?_,I.free,I.freeC,fun p hp=>?_,tracked ⟨oc,hoc,I.freeC x c hc⟩ hs,by simpa using I.len⟩ ⟨c,hs,.inr hc⟩
  ·exact(hs.2 b (K2 (J9 (J4 e) (I.ok.cab x c hfn hc)))).trans (I.base.keep b o e n hb hx)
  ·obtain⟨sl,e1⟩:=I.base.slot b o e n hb hx;exact⟨sl,(hs.2 b (K2 (J9 (J4 e) (I.ok.cab x c hfn hc)))).trans e1⟩
  ·obtain⟨o',e1⟩:=I.base.there b o e hx;exact⟨o',(hs.2 b (K2 (J9 (J4 e) (I.ok.cab x c hfn hc)))).trans e1⟩
  ·by_cases hj:j=i
   ·subst hj;rw[hi]at e1;cases e1;rw[R7 hiσ]at e2;cases e2;exact⟨u,r,.inr ⟨.inl hk,c,hc,hc'⟩⟩
   ·rw[List.getElem?_set_ne (aa0 hj)]at e2;obtain⟨u',r',q⟩:=hl j y v' e1 e2 e3;refine⟨u',r',?_⟩;rcases q with q|⟨k,c',e,z'⟩
    ·exact .inl q
    ·refine .inr ⟨k,c',e,z'.sameBut hs ?_⟩;rintro rfl;exact hj (l6 hN e1 (I.ok.inj _ _ _ e hc▸hi))
  ·by_cases hcc:c'=c
   ·subst hcc;exact⟨_,hc'⟩
   ·obtain⟨w2,z2⟩:=I.cell y c' e;exact⟨w2,z2.sameBut hs hcc⟩
  ·obtain⟨e,n,ne,nf,d⟩:=I.pin p hp;refine⟨(hs.2 p.1 ?_).trans e,n,ne,nf,d⟩;intro q;rw[q,hoc]at e;have q':oc=p.2:=N8 e;exact d w' (by rw[<-q'];exact hocd)
theorem eG{M:Model}{A:N6}{E:u8->v0->Prop}{i:Nat}{x:Str}{v:V}{u:u8}{Q:Unit->v0->Prop}(I:Inv X aa σ H s) (hN:X.N.Nodup) (hi:X.N[i]?=some x) (hx:Loc X.env.scope x) (r:aA v u)
  (h:∀s',Inv X aa (σ.set i (some v)) H s'->Q () s') (hf:X.fn x=true∨X.env.scope.names.lookup x=some .local:=by first|exact .inl rfl|exact .inr rfl|assumption):K4 M A (storeName X.env x u) Q E s :=
 nh I hN hi hx r (fun s' I' _=>h s' I') hf
theorem Inv.call'{s':v0}{ch:List J5}(I:Inv X aa σ H s) (ho:s'.os=s.os) (u:Un (frs X.stack) ch H H' s.heap s'.heap) (hok:HOk X.prog X.w H' s'.heap) (hg:W6 s'.gens)
  (hch:∀b∈ch,(b∈X.ex∨X.s₀.heap.objs.size<=b)/\b≠X.env.locals/\(∀x c,X.env.cells.lookup x=some c->c≠b)/\∀p∈X.pn++aa,p.1≠b):Inv X aa σ H' s':=by
 obtain⟨h',g',d',t',o'⟩:=s';have e:o'=s.os:=ho;subst e;exact I.call (g':=g') (t':=t') (d':=d') u hok hg hch
end
abbrev XK:=u8->Option J5->Hp->Prop
noncomputable abbrev St:=List (Option V)
abbrev VK:=V->Hp->Prop
abbrev TE:=St->Hp->VK->Prop
abbrev TT:=St->Hp->(Bool->Hp->Prop)->Prop
abbrev TA:=St->Hp->(List V->Hp->Prop)->Prop
structure o7 where
 nx:St->Hp->Prop
 rt:VK
 bk:St->Hp->Prop:=fun _ _=>False
 ct:St->Hp->Prop:=fun _ _=>False
abbrev TS:=o7->St->Hp->Prop
def EP(X:Cx) (aa:List (J5×Obj)) (σ:St) (Q:VK) (u:u8) (s':v0):Prop:=∃v H',Inv X aa σ H' s'/\aA v u/\Q v H'
def TP(X:Cx) (aa:List (J5×Obj)) (σ:St) (Q:Bool->Hp->Prop) (b:Bool) (s':v0):Prop:=∃H',Inv X aa σ H' s'/\Q b H'
def AP(X:Cx) (aa:List (J5×Obj)) (σ:St) (Q:List V->Hp->Prop) (us:List u8) (s':v0):Prop:=∃vs H',Inv X aa σ H' s'/\ar vs us/\Q vs H'
theorem EP.el{X:Cx}{aa:List (J5×Obj)}{σ:St}{Q:VK}{u:u8}{s:v0}{P:Prop}(h:EP X aa σ Q u s) (f:∀(v:V) (H:Hp),Inv X aa σ H s->aA v u->Q v H->P):P:=by
 obtain⟨x1,x2,a,b,c⟩:=h;exact f x1 x2 a b c
theorem AP.el{X:Cx}{aa:List (J5×Obj)}{σ:St}{Q:List V->Hp->Prop}{u:List u8}{s:v0}{P:Prop}(h:AP X aa σ Q u s) (f:∀(v:List V) (H:Hp),Inv X aa σ H s->ar v u->Q v H->P):P:=by
 obtain⟨x1,x2,a,b,c⟩:=h;exact f x1 x2 a b c
theorem TP.el{X:Cx}{aa:List (J5×Obj)}{σ:St}{Q:Bool->Hp->Prop}{u:Bool}{s:v0}{P:Prop}(h:TP X aa σ Q u s) (f:∀(H:Hp),Inv X aa σ H s->Q u H->P):P:=by
 obtain⟨x1,a,b⟩:=h;exact f x1 a b
def SP(X:Cx) (aa:List (J5×Obj)) (D:o7) (f:Flow) (s':v0):Prop :=
 match f with
 |.next=>∃ σ' H',Inv X aa σ' H' s'/\D.nx σ' H'
 |.brk=>∃ σ' H',Inv X aa σ' H' s'/\D.bk σ' H'
 |.cont=>∃ σ' H',Inv X aa σ' H' s'/\D.ct σ' H'
 |.ret u=>∃v σ' H',Inv X aa σ' H' s'/\aA v u/\D.rt v H'
def PE(X:Cx) (e:K1) (t:TE):Prop :=
 ∀(aa:List (J5×Obj)) (s:v0) (σ:St) (H:Hp) (Q:VK),Inv X aa σ H s->t σ H Q->K4 (K5 X.prog X.w) X.A (U7 e X.env) (EP X aa σ Q) X.xe s
def PT(X:Cx) (e:K1) (t:TT):Prop :=
 ∀(aa:List (J5×Obj)) (s:v0) (σ:St) (H:Hp) (Q:Bool->Hp->Prop),Inv X aa σ H s->t σ H Q->K4 (K5 X.prog X.w) X.A (isTrue e X.env (U7 e X.env)) (TP X aa σ Q) X.xe s
def PW(X:Cx) (e:K1) (t:TT):Prop :=
 ∀(whole:Sem u8) (aa:List (J5×Obj)) (s:v0) (σ:St) (H:Hp) (Q:Bool->Hp->Prop),Inv X aa σ H s->t σ H Q->K4 (K5 X.prog X.w) X.A (isTrue e X.env whole) (TP X aa σ Q) X.xe s
theorem PW.pt{X:Cx}{e:K1}{t:TT}(h:PW X e t):PT X e t:=h _
def PA(X:Cx) (es:List K1) (t:TA):Prop :=
 ∀(pos:Pos) (aa:List (J5×Obj)) (s:v0) (σ:St) (H:Hp) (Q:List V->Hp->Prop),Inv X aa σ H s->t σ H Q->K4 (K5 X.prog X.w) X.A (spliced (S9 pos (J8 es X.env))) (AP X aa σ Q) X.xe s
def PS(X:Cx) (st:X8) (t:TS):Prop :=
 ∀(aa:List (J5×Obj)) (s:v0) (σ:St) (H:Hp) (D:o7),Inv X aa σ H s->t D σ H->K4 (K5 X.prog X.w) X.A (exec st X.env) (SP X aa D) X.xe s
def PSs(X:Cx) (st:List X8) (t:TS):Prop :=
 ∀(aa:List (J5×Obj)) (s:v0) (σ:St) (H:Hp) (D:o7),Inv X aa σ H s->t D σ H->K4 (K5 X.prog X.w) X.A (execs st X.env) (SP X aa D) X.xe s
theorem thn{α:Type}{t:Sem α}{Q Q':α->v0->Prop}{M:Model}{A:N6}{E:u8->v0->Prop}{s:v0}(h:K4 M A t Q E s) (hQ:∀a s,Q a s->Q' a s):K4 M A t Q' E s:=M0 h hQ fun _ _ x=>x
section
variable{X:Cx}
def Gc(i:Nat):TE:=fun σ H Q=>∃v,σ[i]?=some (some v)/\Q v H
def tC(v:V):TE:=fun _ H Q=>Q v H
theorem Ca{i:Nat}{x:Str}{pos:Pos}(hN:X.N[i]?=some x) (hv:Vis X.env.scope x) (hd:(x==("__debug__":Str))=false:=by decide) (hcd:(x==("__classdict__":Str))=false:=by decide):PE X (.Name x pos) (Gc i):=by
 intro aa s σ H Q I h;obtain⟨v,e,h⟩:=h;obtain⟨m,hn,hl⟩:=I.loc;obtain⟨u,r,l⟩:=hl i x v hN e hv;have fin:EP X aa σ Q u s:=⟨v,H,I,r,h⟩;rcases l with⟨hk,hm⟩|⟨hk,c,hc,hcell⟩
 ·exact wpAny_Name (wpAny_loadName_local I.ok.kind hk hn hm fin) hd
 ·rcases hk with hk|hk
  ·exact wpAny_Name (wpAny_loadName_cell I.ok.kind hk hc hcell fin) hd
  ·exact wpAny_Name (wpAny_loadName_free I.ok.kind hk hc hcell fin hcd) hd
theorem Dt{i j pos}:PE X (.Constant (.int i) j pos) (tC (.int i)):=fun _ _ _ H _ I h=>wpAny_Constant_int ⟨.int i,H,I.tok _,⟨_,rfl⟩,h⟩
theorem E5{b j pos}:PE X (.Constant (.bool b) j pos) (tC (.bl b)):=fun _ _ _ H _ I h=>Constant_bool ⟨.bl b,H,I,rfl,h⟩
theorem BV{j pos}:PE X (.Constant .none j pos) (tC .non):=fun _ _ _ H _ I h=>Constant_none ⟨.non,H,I,rfl,h⟩
theorem C9{x j pos}:PE X (.Constant (.str x) j pos) (tC (.str x)):=fun _ _ _ H _ I h=>Calls.Constant_str ⟨.str x,H,I.tok _,⟨_,rfl⟩,h⟩
def Gl(X:Cx) (x:Str):Prop:=X.env.kindOf x=some .globalImplicit
theorem kN{E:u8->v0->Prop}{aa:List (J5×Obj)}{s:v0}{σ:St}{H:Hp}{x:Str}{u:u8}{pos:Pos}{Q:u8->v0->Prop}(I:Inv X aa σ H s) (hg:Gl X x) (hm:X.mg x=some u) (h:Q u s)
  (hd:(x==("__debug__":Str))=false:=by decide):K4 (K5 X.prog X.w) X.A (U7 (.Name x pos) X.env) Q E s :=
 Calls.Name_function_global I.ok.kind hg (Calls.loadGlobal_global (by rw[I.ok.glob];exact I.mod.glob.keeps I.bk) hm h) hd
theorem eC{E:u8->v0->Prop}{aa:List (J5×Obj)}{s:v0}{σ:St}{H:Hp}{x:Str}{u:u8}{pos:Pos}{Q:u8->v0->Prop}(I:Inv X aa σ H s) (hg:Gl X x) (hm:X.mg x=none) (hv:Q8 x=some u) (h:Q u s)
  (hn:x≠"__name__":=by decide) (hd:(x==("__debug__":Str))=false:=by decide):K4 (K5 X.prog X.w) X.A (U7 (.Name x pos) X.env) Q E s:=by
 obtain⟨mb,h1,h2⟩:=I.mod.blt;exact Calls.Name_function_global I.ok.kind hg (Calls.loadGlobal_builtin (by rw[I.ok.glob];exact I.mod.glob.keeps I.bk) hm (by rw[I.ok.blt];exact h1.keeps I.bk) ((h2 x hn).trans hv) h) hd
theorem o5{x:Str}{v:V}{u:u8}{pos:Pos}(hg:Gl X x) (hm:X.mg x=some u) (r:aA v u) (hd:(x==("__debug__":Str))=false:=by decide):PE X (.Name x pos) (tC v) :=
 fun _ _ _ H _ I h=>kN I hg hm ⟨v,H,I,r,h⟩ hd
theorem tO{x:Str}{v:V}{u:u8}{pos:Pos}(hg:Gl X x) (hm:X.mg x=none) (hv:Q8 x=some u) (r:aA v u) (hn:x≠"__name__":=by decide) (hd:(x==("__debug__":Str))=false:=by decide):PE X (.Name x pos) (tC v) :=
 fun _ _ _ H _ I h=>eC I hg hm hv ⟨v,H,I,r,h⟩ hn hd
variable{a b:K1}{ta tb:TE}{pos:Pos}
theorem xU(b:K1) {op:CmpOp}(h:op≠.In) (h2:op≠.NotIn):T0 op b=false:=by
 have e1:(op==CmpOp.In)=false:=by cases op<;>first|rfl|exact absurd rfl h
 have e2:(op==CmpOp.NotIn)=false:=by cases op<;>first|rfl|exact absurd rfl h2
 cases b<;>simp[T0,e1,e2]
def tB(t:TE):TT:=fun σ H Q=>t σ H fun x H1=>∃c,x=.bl c/\Q c H1
theorem BG{e:K1}{t:TE}(h:PE X e t) (he:∀whole,isTrue e X.env whole=(do let v <-whole;aa7 e.pos;holding [v] (truthy v)):=by intro _;rfl):PT X e (tB t):=by
 intro aa s σ H Q I hw;refine isTrue_plain (thn (h aa s σ H _ I hw) fun v s1 hup=>hup.el fun x H1 I1 r1 q1=>?_) (he _);obtain⟨d,rfl,q⟩:=q1;cases r1;exact O8 ⟨H1,I1,q⟩
variable{tA tB':TT}{aH:List K1}
def GA(t u:TT):TT:=fun σ H Q=>t σ H fun c H1=>if c=true then u σ H1 Q else Q false H1
def tOr(t u:TT):TT:=fun σ H Q=>t σ H fun c H1=>if c=true then Q true H1 else u σ H1 Q
def Gz(t:TT):TT:=fun σ H Q=>t σ H fun c H1=>Q (!c) H1
theorem zV(ha:PT X a tA):PW X (.BoolOp .And [a] pos) tA:=by
 intro wh aa s σ H Q I h;refine isTrue_and (thn (ha aa s σ H Q I h) fun c s1 e=>?_);cases c with
 |true=>exact isTrue_and_nil e
 |false=>exact e
theorem Dv(ha:PT X a tA):PW X (.BoolOp .Or [a] pos) tA:=by
 intro wh aa s σ H Q I h;refine isTrue_or (thn (ha aa s σ H Q I h) fun c s1 e=>?_);cases c with
 |false=>exact isTrue_or_nil e
 |true=>exact e
theorem CL(ha:PT X a tA) (hb:PW X (.BoolOp .And (b::aH) pos) tB'):PW X (.BoolOp .And (a::b::aH) pos) (GA tA tB'):=by
 intro wh aa s σ H Q I h;refine isTrue_and (thn (ha aa s σ H _ I h) fun c s1 hup=>hup.el fun H1 I1 q1=>?_);cases c with
 |true=>exact hb wh aa s1 σ H1 Q I1 q1
 |false=>exact⟨H1,I1,q1⟩
theorem El(ha:PT X a tA) (hb:PW X (.BoolOp .Or (b::aH) pos) tB'):PW X (.BoolOp .Or (a::b::aH) pos) (tOr tA tB'):=by
 intro wh aa s σ H Q I h;refine isTrue_or (thn (ha aa s σ H _ I h) fun c s1 hup=>hup.el fun H1 I1 q1=>?_);cases c with
 |true=>exact⟨H1,I1,q1⟩
 |false=>exact hb wh aa s1 σ H1 Q I1 q1
theorem C8(ha:PT X a tA):PT X (.UnaryOp .Not a pos) (Gz tA):=by
 intro aa s σ H Q I h;exact isTrue_not (ha aa s σ H (fun c H1=>Q (!c) H1) I h)
def FA(ta tb:TE):TE:=fun σ H Q=>ta σ H fun x H1=>∃c,x=.bl c/\if c=true then tb σ H1 Q else Q (.bl false) H1
def Fp(ta:TE):TE:=fun σ H Q=>ta σ H fun x H1=>∃c,x=.bl c/\Q (.bl (!c)) H1
theorem Df{op}{t:TE}(h:PE X a t):PE X (.BoolOp op [a] pos) t:=fun aa s σ H Q I hw=>BoolOp_one (h aa s σ H Q I hw)
theorem CH(ha:PE X a ta) (hb:PE X (.BoolOp .And (b::aH) pos) tb):PE X (.BoolOp .And (a::b::aH) pos) (FA ta tb):=by
 intro aa s σ H Q I h;refine BoolOp_and (thn (ha aa s σ H _ I h) fun v s1 hup=>hup.el fun x H1 I1 r1 q1=>?_);obtain⟨c,rfl,q1⟩:=q1;cases r1;refine O8 ?_;cases c with
 |true=>exact hb aa s1 σ H1 Q I1 q1
 |false=>exact⟨.bl false,H1,I1,rfl,q1⟩
theorem Bm(ha:PE X a ta):PE X (.UnaryOp .Not a pos) (Fp ta):=by
 intro aa s σ H Q I h;refine UnaryOp_ (thn (ha aa s σ H _ I h) fun v s1 hup=>hup.el fun x H1 I1 r1 q1=>?_);obtain⟨c,rfl,q1⟩:=q1;cases r1;exact not_of (O8 ⟨.bl (!c),H1,I1,rfl,q1⟩)
end
def SqL(K:o0) (H:Hp) (a:J5) (xs:List V):Prop :=
 Rd H a (.lst xs) ∨
  ∃(o:Obj) (its:Array u8) (n:Nat),K.lookup a=some o/\o.cls=.type "list"/\o.dict=none/\o.data=.seq its n/\its.size<=H0/\ar xs its.toList
def SqT(K:o0) (H:Hp) (a:J5) (xs:List V):Prop :=
 Rd H a (.tup xs) ∨
  ∃(o:Obj) (its:Array u8) (n:Nat),K.lookup a=some o/\(o.cls=.type "tuple"/\o.dict=none)/\o.data=.seq its n/\its.size<=H0/\ar xs its.toList
noncomputable def F1:u8->Option V
 |.none=>some .non
 |.bool b=>some (.bl b)
 |.int i _=>some (.int i)
 |.str x _=>some (.str x)
 |.bytes b _=>some (.byt b)
 |.float b _=>some (.flt b)
 |.ref a=>some (.ref a)
 |.type n=>some (.ty n)
 |_=>none
theorem aA.abs{x:V}{u:u8}(r:aA x u):F1 u=some x:=by
 cases x with
 |non=>cases r;rfl
 |bl _=>cases r;rfl
 |int _=>obtain⟨t,rfl⟩:=r;rfl
 |str _=>obtain⟨t,rfl⟩:=r;rfl
 |byt _=>obtain⟨t,rfl⟩:=r;rfl
 |flt _=>obtain⟨t,rfl⟩:=r;rfl
 |ref _=>cases r;rfl
 |ty _=>cases r;rfl
theorem aA.inj{x y:V}{u:u8}(r:aA x u) (q:aA y u):x=y:=N8 (r.abs.symm.trans q.abs)
theorem ar.inj:∀{xs ys:List V}{us:List u8},ar xs us->ar ys us->xs=ys
 |_,_,_,.nil,.nil=>rfl
 |_,_,_,.cons r t,.cons r' t'=>by rw[r.inj r',ar.inj t t']
section
variable{X:Cx}{aa:List (J5×Obj)}{σ:St}{H:Hp}{s:v0}{a:J5}{xs ys:List V}
theorem SqL.of{K:o0}(h:H a=some (.lst xs)):SqL K H a xs:=.inl (.inl h)
theorem SqT.of{K:o0}(h:H a=some (.tup xs)):SqT K H a xs:=.inl (.inl h)
theorem Inv.list(I:Inv X aa σ H s) (h:SqL X.K H a xs):∃its:List u8,ar xs its/\PlainL s.heap a its.toArray/\xs.length<=H0:=by
 rcases h with h|⟨o,its,n,hk,hc,hd,hs,hz,r⟩
 ·obtain⟨z,its,n,r,e⟩:=h.ok I.hok;exact⟨its,r,⟨_,n,e,rfl,rfl,rfl⟩,z⟩
 ·refine⟨its.toList,r,⟨o,n,I.kIn a o hk,hc,hd,by simpa using hs⟩,?_⟩;have e:=r.length;simp only[S1]at e
  lia
theorem Inv.tuple(I:Inv X aa σ H s) (h:SqT X.K H a xs):∃its:List u8,ar xs its/\ab4 s.heap a its.toArray/\xs.length<=H0:=by
 rcases h with h|⟨o,its,n,hk,hc,hs,hz,r⟩
 ·obtain⟨z,its,r,p⟩:=h.ok I.hok;exact⟨its,r,p.tup,z⟩
 ·refine⟨its.toList,r,⟨o,I.kIn a o hk,hc.1,n,by simpa using hs⟩,?_⟩;have e:=r.length;simp only[S1]at e
  lia
theorem Inv.list_inj(I:Inv X aa σ H s) (h:SqL X.K H a xs) (h':SqL X.K H a ys):xs=ys:=by
 obtain⟨its,r,⟨o,n,e,_,_,d⟩,_⟩:=I.list h;obtain⟨its',r',⟨o',n',e',_,_,d'⟩,_⟩:=I.list h';rw[e]at e';cases e';rw[d]at d';injection d' with d1 _
 have:its=its':=by simpa using congrArg Array.toList d1
 subst this;exact r.inj r'
theorem Inv.tuple_inj(I:Inv X aa σ H s) (h:SqT X.K H a xs) (h':SqT X.K H a ys):xs=ys:=by
 obtain⟨its,r,⟨o,e,_,n,d⟩,_⟩:=I.tuple h;obtain⟨its',r',⟨o',e',_,n',d'⟩,_⟩:=I.tuple h';rw[e]at e';cases e';rw[d]at d';injection d' with d1 _
 have:its=its':=by simpa using congrArg Array.toList d1
 subst this;exact r.inj r'
end
abbrev Cx.wish(X:Cx) (E:u8->v0->Prop):Cx:={ X with xe:=E }
abbrev Cx.nox(X:Cx):Cx:=X.wish fun _ _=>False
theorem Cx.Ok.wish{X:Cx}(ok:X.Ok) (E:u8->v0->Prop):(X.wish E).Ok :=
 ⟨ok.mod,ok.kind,ok.glob,ok.blt,ok.above,ok.inj,ok.has,ok.cab,ok.hd,ok.frames,ok.stk,ok.exf,ok.bs,ok.bsz,ok.noex,ok.exfs,ok.funs,ok.frf⟩
theorem Cx.Ok.unwish{X:Cx}{E:u8->v0->Prop}(ok:(X.wish E).Ok):X.Ok :=
 ⟨ok.mod,ok.kind,ok.glob,ok.blt,ok.above,ok.inj,ok.has,ok.cab,ok.hd,ok.frames,ok.stk,ok.exf,ok.bs,ok.bsz,ok.noex,ok.exfs,ok.funs,ok.frf⟩
section
variable{X:Cx}{aa:List (J5×Obj)}{σ:St}{H:Hp}{s:v0}{E:u8->v0->Prop}
theorem Inv.wish(I:Inv X aa σ H s) (E:u8->v0->Prop):Inv (X.wish E) aa σ H s:=⟨I.ok.wish E,I.os,I.bare,I.base,I.loc,I.cell,I.free,I.freeC,I.pin,I.hok,I.len⟩
theorem Inv.unwish(I:Inv (X.wish E) aa σ H s):Inv X aa σ H s:=⟨I.ok.unwish,I.os,I.bare,I.base,I.loc,I.cell,I.free,I.freeC,I.pin,I.hok,I.len⟩
theorem SP.unwish{D:o7}{f:Flow}{s':v0}(h:SP (X.wish E) aa D f s'):SP X aa D f s':=by
 cases f with
 |next=>obtain⟨σ',H',I,q⟩:=h;exact⟨σ',H',I.unwish,q⟩
 |brk=>obtain⟨σ',H',I,q⟩:=h;exact⟨σ',H',I.unwish,q⟩
 |cont=>obtain⟨σ',H',I,q⟩:=h;exact⟨σ',H',I.unwish,q⟩
 |ret u=>obtain⟨v,σ',H',I,r,q⟩:=h;exact⟨v,σ',H',I.unwish,r,q⟩
theorem PSs.nox{st:List X8}{t:TS}(h:PSs X.nox st t):PSs X st t:=fun aa s σ H D I hw =>
 M0 (h aa s σ H D (I.wish _) hw) (fun _ _ q=>q.unwish) fun _ _ z=>P7 z
end
section
variable{X:Cx}{st:X8}{aH:List X8}{t u:TS}{e:K1}{te:TE}{pos:Pos}
def ED:TS:=fun D σ H=>D.nx σ H
def GB(t u:TS):TS:=fun D σ H=>t { D with nx:=u D } σ H
theorem uG:PSs X [] ED:=fun _ _ σ H _ I h=>V2 ⟨σ,H,I,h⟩
theorem qY(h1:PS X st t) (h2:PSs X aH u):PSs X (st::aH) (GB t u):=by
 intro aa s σ H D I h;refine wpAny_execs_cons (thn (h1 aa s σ H { D with nx:=u D } I h) fun f s1 q=>?_);cases f with
 |next =>
  obtain⟨σ',H',I',q⟩:=q;exact h2 aa s1 σ' H' D I' q
 |ret v=>exact q
 |brk=>exact q
 |cont=>exact q
theorem uo(h1:PS X st t):PSs X [st] t:=by
 intro aa s σ H D I h;refine wpAny_execs_cons (thn (h1 aa s σ H D I h) fun f s1 q=>?_);cases f with
 |next=>exact V2 q
 |ret v=>exact q
 |brk=>exact q
 |cont=>exact q
theorem Inv.quiet{aa:List (J5×Obj)}{σ:St}{H:Hp}{s:v0}(I:Inv X aa σ H s):interactive X.env=false:=by simp[interactive,I.ok.kind]
def DU(te:TE):TS:=fun D σ H=>te σ H fun _ H1=>D.nx σ H1
theorem yN(he:PE X e te) (hs:W1 e none pos.line X.env=W0 false:=by rfl):PS X (.Expr e pos) (DU te):=by
 intro aa s σ H D I h;exact wpAny_Expr_any (thn (he aa s σ H _ I h) fun v s1 hup=>hup.el fun x H1 I1 r1 q1=>⟨σ,H1,I1,q1⟩) I.quiet hs
def Ga(te:TE):TS:=fun D σ H=>te σ H D.rt
theorem oY(he:PE X e te):PS X (.Return (some e) pos) (Ga te):=by
 intro aa s σ H D I h;exact wpAny_Return_some (thn (he aa s σ H _ I h) fun v s1 hup=>hup.el fun x H1 I1 r1 q1=>⟨x,σ,H1,I1,r1,q1⟩)
def GC(c:TT) (t u:TS):TS:=fun D σ H=>c σ H fun b H1=>if b=true then t D σ H1 else u D σ H1
theorem A0{c:K1}{a b:List X8}{tc:TT}(hc:PT X c tc) (ha:PSs X a t) (hb:PSs X b u):PS X (.If c a b pos) (GC tc t u):=by
 intro aa s σ H D I h;refine wpAny_If (thn (hc aa s σ H _ I h) fun d s1 hup=>hup.el fun H1 I1 q1=>?_);cases d with
 |true=>exact ha aa s1 σ H1 D I1 q1
 |false=>exact hb aa s1 σ H1 D I1 q1
end
abbrev TG:=V->St->Hp->(St->Hp->Prop)->Prop
abbrev TGs:=List V->St->Hp->(St->Hp->Prop)->Prop
def PG(X:Cx) (target:K1) (t:TG):Prop :=
 ∀(aa:List (J5×Obj)) (s:v0) (σ:St) (H:Hp) (v:V) (u:u8) (Q:St->Hp->Prop),Inv X aa σ H s->aA v u->t v σ H Q ->
  K4 (K5 X.prog X.w) X.A (Z7 target X.env u) (fun _ s'=>∃ σ' H',Inv X aa σ' H' s'/\Q σ' H') X.xe s
def PGs(X:Cx) (ts:List K1) (t:TGs):Prop :=
 ∀(aa:List (J5×Obj)) (s:v0) (σ:St) (H:Hp) (vs:List V) (us:List u8) (Q:St->Hp->Prop),Inv X aa σ H s->ar vs us->t vs σ H Q ->
  K4 (K5 X.prog X.w) X.A (assignInOrder ((P2 ts X.env).map (·.2)) us) (fun _ s'=>∃ σ' H',Inv X aa σ' H' s'/\Q σ' H') X.xe s
abbrev TIp:=V->V->Hp->VK->Prop
def PIp(X:Cx) (op:aa6) (t:TIp):Prop :=
 ∀(aa:List (J5×Obj)) (s:v0) (σ:St) (H:Hp) (x y:V) (v u:u8) (Q:VK),Inv X aa σ H s->aA x v->aA y u->t x y H Q ->
  K4 (K5 X.prog X.w) X.A (aa8 op v u) (EP X aa σ Q) X.xe s
section
variable{X:Cx}{pos:Pos}
def qF(i:Nat):TG:=fun v σ H Q=>Q (σ.set i (some v)) H
theorem uy{i:Nat}{x:Str}(hN:X.N.Nodup) (hi:X.N[i]?=some x) (hx:Loc X.env.scope x) (hf:X.fn x=true∨X.env.scope.names.lookup x=some .local:=by first|exact .inl rfl|exact .inr rfl|assumption):PG X (.Name x pos) (qF i):=by
 intro aa s σ H v u Q I r h;exact wpAny_assign_Name (eG I hN hi hx r (fun s' I'=>⟨_,H,I',h⟩) hf)
def DD:TGs:=fun vs σ H Q=>vs=[]/\Q σ H
def xf(t:TG) (u:TGs):TGs:=fun vs σ H Q=>∃v r,vs=v::r/\t v σ H fun σ' H'=>u r σ' H' Q
theorem sZ:PGs X [] DD:=by
 intro aa s σ H vs us Q I r h;obtain⟨e,h⟩:=h;subst e;cases r;exact assignInOrder_nil ⟨σ,H,I,h⟩
theorem qT{e:K1}{es:List K1}{t:TG}{u:TGs}(h1:PG X e t) (h2:PGs X es u)
  (hs:(P2 (e::es) X.env).map (·.2)=Z7 e X.env::(P2 es X.env).map (·.2):=by rfl):PGs X (e::es) (xf t u):=by
 intro aa s σ H vs us Q I r h;obtain⟨v,vr,e1,h⟩:=h;subst e1;cases r with
 |cons r rr =>
  rw[hs];refine assignInOrder_cons (thn (h1 aa s σ H _ _ _ I r h) fun _ s1 ⟨σ1,H1,I1,q1⟩=>?_);exact h2 aa s1 σ1 H1 _ _ Q I1 rr q1
def Bv(K:o0) (n:Nat) (t:TGs):TG:=fun v σ H Q=>∃a xs,v=.ref a/\SqT K H a xs/\xs.length=n/\t xs σ H Q
theorem wY{es:List K1}{k:Nat}{t:TGs}{n:Nat}(hc:X.calm=true) (h:PGs X es t)
  (hn:(P2 es X.env).length=n:=by rfl) (hst:(P2 es X.env).findIdx? (·.1)=none:=by rfl):PG X (.Tuple es k pos) (Bv X.K n t):=by
 intro aa s σ H v u Q I r hw;obtain⟨a,xs,e1,hq,hl,hw⟩:=hw;subst e1;cases r;obtain⟨its,rv,ht,hz⟩:=I.tuple hq;refine assign_Tuple_tuple (I.ok.hd hc) ht (by simp[hn,<-hl,rv.length]) hst fun h' hx=>?_;have I1:Inv X aa σ H { s with heap:=h' }:=I.kept (t':=s.toks) fun b o e=>hx b o (K2 (J4 e)) e;exact h aa _ σ H xs _ Q I1 (by simpa using rv) hw
def FP(te:TE) (g:TG):TS:=fun D σ H=>te σ H fun x H1=>g x σ H1 D.nx
theorem Bw{i:Nat}{x:Str}{e:K1}{te:TE}{pos':Pos}(hN:X.N.Nodup) (hi:X.N[i]?=some x) (hx:Loc X.env.scope x) (he:PE X e te) (hs:W1 e (some (.Name x pos')) pos.line X.env=W0 false:=by rfl) (hf:X.fn x=true∨X.env.scope.names.lookup x=some .local:=by first|exact .inl rfl|exact .inr rfl|assumption) :
  PS X (.Assign [.Name x pos'] e pos) (FP te (qF i)):=by
 intro aa s σ H D I h;refine wpAny_Assign_Name (thn (he aa s σ H _ I h) fun v s1 hup=>hup.el fun y H1 I1 r1 q1=>?_) hs;exact eG I1 hN hi hx r1 (fun s2 I2=>⟨_,H1,I2,q1⟩) hf
def GK(i:Nat) (te:TE) (ti:TIp):TS:=fun D σ H=>∃x,σ[i]?=some (some x)/\te σ H fun y H1=>ti x y H1 fun z H2=>D.nx (σ.set i (some z)) H2
theorem Ck{i:Nat}{x:Str}{e:K1}{te:TE}{op:aa6}{ti:TIp}{pos':Pos}(hN:X.N.Nodup) (hi:X.N[i]?=some x) (hx:Loc X.env.scope x) (he:PE X e te) (ho:PIp X op ti) (hf:X.fn x=true∨X.env.scope.names.lookup x=some .local:=by first|exact .inl rfl|exact .inr rfl|assumption) :
  PS X (.AugAssign (.Name x pos') op e pos) (GK i te ti):=by
 intro aa s σ H D I h;obtain⟨v,e1,h⟩:=h;obtain⟨m,hn,hl⟩:=I.loc;have vis:Vis X.env.scope x:=by rcases hx with k|k;exact .inl k;exact .inr (.inl k)
 obtain⟨u,r,l⟩:=hl i x v hi e1 vis;refine wpAny_AugAssign_Name ?_;have go:K4 (K5 X.prog X.w) X.A (U7 e X.env) (fun w s₂=>K4 (K5 X.prog X.w) X.A (aa8 op u w) (fun r s₃=>K4 (K5 X.prog X.w) X.A (storeName X.env x r) (fun _=>SP X aa D .next) X.xe s₃) X.xe s₂) X.xe s:=by
  refine thn (he aa s σ H _ I h) fun w s1 hup=>hup.el fun y H1 I1 r1 q1=>?_;refine thn (ho aa s1 σ H1 v y u w _ I1 r r1 q1) fun z s2 hup=>hup.el fun zv H2 I2 r2 q2=>?_;exact eG I2 hN hi hx r2 (fun s3 I3=>⟨_,H2,I3,q2⟩) hf
 rcases l with⟨hk,hm⟩|⟨hk,c,hc,hcell⟩
 ·exact wpAny_loadName_local I.ok.kind hk hn hm go
 ·rcases hk with hk|hk
  ·exact wpAny_loadName_cell I.ok.kind hk hc hcell go
  ·rcases hx with k|k
   ·have:X.env.scope.names.lookup x=some .free:=hk;rw[k]at this;cases this
   ·have:X.env.scope.names.lookup x=some .free:=hk;rw[k]at this;cases this
def ipI(f:Int->Int->Int):TIp:=fun x y H Q=>∃i j,x=.int i/\y=.int j/\Q (.int (f i j)) H
theorem CZ:PIp X .Add (ipI fun i j=>i+j):=by
 intro aa s σ H x y v u Q I r1 r2 h;obtain⟨i,j,e1,e2,q⟩:=h;subst e1;subst e2;obtain⟨t,rfl⟩:=r1;obtain⟨t',rfl⟩:=r2;exact iadd_int ⟨.int _,H,I.tok _,⟨_,rfl⟩,q⟩
end
section
variable{X:Cx}{pos:Pos}
def CJ(c:TT) (tb:TS):TS:=fun D σ H=>∃W:Nat->St->Hp->Prop,(∃m,W m σ H)/\∀m σ H,W m σ H ->
 c σ H fun b H1=>if b=true then ∃N:St->Hp->Prop,(∀ σ' H',N σ' H'->∃m',m'<m/\W m' σ' H')/\tb { D with nx:=N,ct:=N,bk:=D.nx } σ H1 else D.nx σ H1
theorem vN{c:K1}{body:List X8}{tc:TT}{tb:TS}(hp:aa9 (K5 X.prog X.w) X.A X.env X.xe) (hc:PT X c tc) (hb:PSs X body tb):PS X (.While c body [] pos) (CJ tc tb):=by
 intro aa s σ H D I h;obtain⟨W,⟨m0,w0⟩,turn⟩:=h;refine wpAny_While (codeAny_whileLoop (fun n s'=>∃ σ' H',Inv X aa σ' H' s'/\W n σ' H') ?_ m0 ⟨σ,H,I,w0⟩);rintro n s1 ⟨σ1,H1,I1,w1⟩;refine P8 hp (thn (hc aa s1 σ1 H1 _ I1 (turn n σ1 H1 w1)) fun b s2 hup=>hup.el fun H2 I2 q2=>?_);cases b with
 |true =>
  obtain⟨N,hN,q2⟩:=q2;rw[if_pos rfl];refine P8 hp (thn (hb aa s2 σ1 H2 _ I2 q2) fun f s3 q3=>?_);cases f with
  |next =>
   obtain⟨σ3,H3,I3,n3⟩:=q3;obtain⟨m',hm,w3⟩:=hN σ3 H3 n3;exact⟨m',hm,σ3,H3,I3,w3⟩
  |cont =>
   obtain⟨σ3,H3,I3,n3⟩:=q3;obtain⟨m',hm,w3⟩:=hN σ3 H3 n3;exact⟨m',hm,σ3,H3,I3,w3⟩
  |brk=>exact q3
  |ret v=>exact q3
 |false =>
  rw[if_neg L8];exact V2 ⟨σ1,H2,I2,q2⟩
end
structure It where
 go:Nat->Hp->Prop
 yld:Nat->Hp->V->Hp->Prop
 stop:Nat->Hp->Prop
def gS(X:Cx) (aa:List (J5×Obj)) (H:Hp) (b:J5):Prop :=
 H b=none/\b≠X.env.locals/\b∉X.fs/\(b∈X.ex∨X.s₀.heap.objs.size<=b)/\(∀x c,X.env.cells.lookup x=some c->c≠b)/\∀p∈X.pn++aa,p.1≠b
theorem Inv.fpOk{X:Cx}{aa:List (J5×Obj)}{σ:St}{H H':Hp}{s:v0}{b:J5}(I:Inv X aa σ H s) (hb:s.heap.objs.size<=b) (hn:H' b=none):gS X aa H' b:=by
 refine⟨hn,X4 (J9 I.lt hb),I.nofs hb,.inr (N0 I.sz hb),fun x c e z=>?_,fun p hp z=>?_⟩
 ·obtain⟨v,q⟩:=I.cell x c e;exact absurd (J9 q.lt (by rw[z];exact hb)) (Q9 _)
 ·exact absurd (J9 (J4 (I.pin p hp).1) (by rw[z];exact hb)) (Q9 _)
structure qz(P:K6) (w:O3) (K:o0) (tg:K1) (J:It) (fp:List J5) (it:J5) (tn:Nat->L6->Prop):Prop where
 mem:it∈fp
 obj:∀i h,tn i h->∀b∈fp,∃o,h.get? b=some o/\∀v,o.data≠.cell v
 keep:∀i h h',tn i h->(∀b∈fp,∀o,h.get? b=some o->h'.get? b=some o)->tn i h'
 item:∀(X:Cx),X.prog=P->X.w=w->X.K=K->X.calm=true->∀(i:Nat) (aa:List (J5×Obj)) (s:v0) (σ:St) (H:Hp) (E:u8->v0->Prop),Inv X aa σ H s->(∀b∈fp,gS X aa H b)->tn i s.heap->J.go i H ->
  K4 (K5 P w) X.A (pyNext (.ref it)) (fun r s1=>∃u,r=some u /\
   K4 (K5 P w) X.A (T4 tg (.ref it) u) (fun _ s2=>∃x H',Inv X aa σ H' s2/\aA x u/\J.yld i H x H'/\tn (i+1) s2.heap/\∀b∈fp,H' b=none) E s1) E s
 done:∀(X:Cx),X.prog=P->X.w=w->X.K=K->X.calm=true->∀(i:Nat) (aa:List (J5×Obj)) (s:v0) (σ:St) (H:Hp) (E:u8->v0->Prop),Inv X aa σ H s->(∀b∈fp,gS X aa H b)->tn i s.heap->J.stop i H ->
  K4 (K5 P w) X.A (pyNext (.ref it)) (fun r s1=>r=none/\Inv X aa σ H s1) E s
 self:∀(A:N6) (i:Nat) (s:v0) (Q:u8->v0->Prop) (E:u8->v0->Prop),tn i s.heap->Q (.ref it) s->K4 (K5 P w) A (aa4 (.ref it)) Q E s
abbrev TI:=St->Hp->(It->Hp->Prop)->Prop
def PIE(X:Cx) (aa:List (J5×Obj)) (σ:St) (tg:K1) (R:It->Hp->Prop) (itv:u8) (s2:v0):Prop :=
 ∃(it:J5) (fp:List J5) (tn:Nat->L6->Prop) (J:It) (H':Hp),itv=.ref it/\Inv X aa σ H' s2/\qz X.prog X.w X.K tg J fp it tn/\tn 0 s2.heap/\(∀b∈fp,gS X aa H' b)/\R J H'
def PI(X:Cx) (tg iter:K1) (wi:TI):Prop :=
 ∀(aa:List (J5×Obj)) (s:v0) (σ:St) (H:Hp) (R:It->Hp->Prop),Inv X aa σ H s->wi σ H R ->
  K4 (K5 X.prog X.w) X.A (U7 iter X.env) (fun v s1=>K4 (K5 X.prog X.w) X.A (aa4 v) (PIE X aa σ tg R) X.xe s1) X.xe s
theorem ur{M:Model}{A:N6}{E:u8->v0->Prop}{s:v0}{tg:K1}{it:J5}{u:u8}{o:Obj}{n:String}{vs:Array u8}{Q:Unit->v0->Prop}(ho:s.heap.get? it=some o) (hc:o.cls=.type n) (hd:o.data=.fields vs)
    (hn:["enumerate","zip","dict_itemiterator","dict_reverseitemiterator","odict_iterator","itertools.zip_longest","itertools.pairwise"].contains n=false) (hQ:Q () s):K4 M A (T4 tg (.ref it) u) Q E s:=by
  unfold T4;cases tg<;>first
    |exact J6 hQ
    |(cases u<;>first
        |exact J6 hQ
        | (refine J1 (wpAny_load ho ?_)
           rw[hc,hd];show K4 M A (if(["enumerate","zip","dict_itemiterator","dict_reverseitemiterator","odict_iterator","itertools.zip_longest","itertools.pairwise"].contains n&&vs[0]?==some (rawInt _))=true then _ else _) Q E s;rw[if_neg (by intro h;rw[hn,Bool.false_and]at h;cases h)];exact J6 hQ))
def Itl(K:o0) (a:J5):It :=
 ⟨fun i H=>∃xs x,SqL K H a xs/\xs[i]?=some x,fun i H x H'=>H'=H/\∀xs,SqL K H a xs->xs[i]?=some x,fun i H=>∃xs,SqL K H a xs/\xs.length<=i⟩
def Itt(K:o0) (a:J5):It :=
 ⟨fun i H=>∃xs x,SqT K H a xs/\xs[i]?=some x,fun i H x H'=>H'=H/\∀xs,SqT K H a xs->xs[i]?=some x,fun i H=>∃xs,SqT K H a xs/\xs.length<=i⟩
def Itr(lo:Int) (n:Nat):It:=⟨fun i _=>i<n,fun i H x H'=>H'=H/\x=.int (lo+i),fun i _=>n<=i⟩
theorem nZ{P:K6}{w:O3}{K:o0}{tg:K1}(a it:J5):qz P w K tg (Itl K a) [it] it (fun i h=>h.IsListIter it a i) where
 mem:=by simp
 obj:=fun i h st b hb=>by
  have e:b=it:=by simpa using hb
  subst e;obtain⟨o,e,c,d⟩:=st;exact⟨o,e,fun v z=>by rw[d]at z;cases z⟩
 keep:=fun i h h' st k=>st.at fun o e=>k it (by simp) o e
 item:=by
  intro X hP hw hK hc i aa s σ H E I hf st hg;subst hP hw hK;obtain⟨xs,x,hq,hx⟩:=hg;obtain⟨its,rv,p,hz⟩:=I.list hq;obtain⟨u,hu,ru⟩:=rv.get hx;obtain⟨f0,f1,f2,f3,f4,f5⟩:=hf it (by simp);refine wpAny_pyNext_list_item st p.isList (x:=u) (by simpa using hu) fun h' st' sb=>?_;have I1:Inv X aa σ H { s with heap:=h' }:=I.turned (t':=s.toks) (fun b o hb e=>(sb.2 b hb).trans e) f0 f1 f3 f4 f5;obtain⟨o,e,c,d⟩:=id st';exact⟨u,rfl,ur (s:={ s with heap:=h' }) e c d (by decide) ⟨x,H,I1,ru,⟨rfl,fun ys hy=>by rw[I.list_inj hy hq];exact hx⟩,st',fun b hb=>(hf b hb).1⟩⟩
 done:=by
  intro X hP hw hK hc i aa s σ H E I hf st hg;subst hP hw hK;obtain⟨xs,hq,hx⟩:=hg;obtain⟨its,rv,p,hz⟩:=I.list hq;obtain⟨f0,f1,f2,f3,f4,f5⟩:=hf it (by simp);have hl:=rv.length;exact wpAny_pyNext_list_end (I.ok.hd hc) st p.isList (by simp;lia) fun h' eb=>⟨rfl,I.turned (t':=s.toks) (fun b o hb e=>eb b o hb e) f0 f1 f3 f4 f5⟩
 self:=fun _ _ _ _ _ st h=>wpAny_pyIter_listiter st h
theorem si{P:K6}{w:O3}{K:o0}{tg:K1}(a it:J5):qz P w K tg (Itt K a) [it] it (fun i h=>h.IsTupleIter it a i) where
 mem:=by simp
 obj:=fun i h st b hb=>by
  have e:b=it:=by simpa using hb
  subst e;obtain⟨o,e,c,d⟩:=st;exact⟨o,e,fun v z=>by rw[d]at z;cases z⟩
 keep:=fun i h h' st k=>st.at fun o e=>k it (by simp) o e
 item:=by
  intro X hP hw hK hc i aa s σ H E I hf st hg;subst hP hw hK;obtain⟨xs,x,hq,hx⟩:=hg;obtain⟨its,rv,p,hz⟩:=I.tuple hq;obtain⟨u,hu,ru⟩:=rv.get hx;obtain⟨f0,f1,f2,f3,f4,f5⟩:=hf it (by simp);refine wpAny_pyNext_tuple_item st (show s.heap.IsTuple a its.toArray from p) (x:=u) (by simpa using hu) fun h' st' sb=>?_;have I1:Inv X aa σ H { s with heap:=h' }:=I.turned (t':=s.toks) (fun b o hb e=>(sb.2 b hb).trans e) f0 f1 f3 f4 f5;obtain⟨o,e,c,d⟩:=id st';exact⟨u,rfl,ur (s:={ s with heap:=h' }) e c d (by decide) ⟨x,H,I1,ru,⟨rfl,fun ys hy=>by rw[I.tuple_inj hy hq];exact hx⟩,st',fun b hb=>(hf b hb).1⟩⟩
 done:=by
  intro X hP hw hK hc i aa s σ H E I hf st hg;subst hP hw hK;obtain⟨xs,hq,hx⟩:=hg;obtain⟨its,rv,p,hz⟩:=I.tuple hq;obtain⟨f0,f1,f2,f3,f4,f5⟩:=hf it (by simp);have hl:=rv.length;exact wpAny_pyNext_tuple_end (I.ok.hd hc) st (show s.heap.IsTuple a its.toArray from p) (by simp;lia) fun h' eb=>⟨rfl,I.turned (t':=s.toks) (fun b o hb e=>eb b o hb e) f0 f1 f3 f4 f5⟩
 self:=fun _ _ _ _ _ st h=>wpAny_pyIter_tupleiter st h
theorem su{P:K6}{w:O3}{K:o0}{tg:K1}(it:J5) (lo:Int) (n:Nat):qz P w K tg (Itr lo n) [it] it (fun i h=>IsRangeIter h it (lo+(i:Nat)*1) ((n:Int)-(i:Nat)) 1) where
 mem:=by simp
 obj:=fun i h st b hb=>by
  have e:b=it:=by simpa using hb
  subst e;exact⟨_,st,fun v z=>by
   have z':Data.fields _=Data.cell v:=z;cases z'⟩
 keep:=fun i h h' st k=>k it (by simp) _ st
 item:=by
  intro X hP hw hK hc i aa s σ H E I hf st hg;subst hP hw hK;obtain⟨f0,f1,f2,f3,f4,f5⟩:=hf it (by simp);have W:=Walks.range (prog:=X.prog) (w:=X.w) (I.ok.hd hc) it lo 1 n;refine W.item i s _ _ hg st fun v h' tk hv st' kk=>?_;obtain⟨t,rfl⟩:=hv;have I1:Inv X aa σ H { s with heap:=h',toks:=tk }:=I.turned (fun b o hb e=>kk b o (by simpa using hb) e) f0 f1 f3 f4 f5;refine⟨_,rfl,ur (s:={ s with heap:=h',toks:=tk }) (n:="range_iterator") st' rfl rfl (by decide) ⟨.int (lo+i),H,I1,⟨t,?_⟩,⟨rfl,rfl⟩,st',fun b hb=>(hf b hb).1⟩⟩;rw[Int.mul_one]
 done:=by
  intro X hP hw hK hc i aa s σ H E I hf st hg;subst hP hw hK;obtain⟨f0,f1,f2,f3,f4,f5⟩:=hf it (by simp);exact wpAny_pyNext_range_end (I.ok.hd hc) st (by have:n<=i:=hg;lia) fun h' eb=>⟨rfl,I.turned (t':=s.toks) (fun b o hb e=>eb b o hb e) f0 f1 f3 f4 f5⟩
 self:=fun _ _ _ _ _ st h=>wpAny_pyIter_rangeiter st h
section
variable{X:Cx}{tg:K1}
theorem p7{aa:List (J5×Obj)}{σ:St}{H:Hp}{s:v0}{R:It->Hp->Prop}{E:u8->v0->Prop}{lo hi:Int}{t u v:Tok}{tk:Nat}(I:Inv X aa σ H s) (h1:-(2 ^ 62)<=lo) (h2:lo<2 ^ 62) (h3:-(2 ^ 62)<=hi) (h4:hi<2 ^ 62)
  (q:R (Itr lo (hi-lo).toNat) H):K4 (K5 X.prog X.w) X.A (aa4 (.ref s.heap.objs.size)) (PIE X aa σ tg R) E { s with heap:=s.heap.push { cls:=.type "range",data:=.fields #[.int lo t,.int hi u,.int 1 v] },toks:=tk }:=by
 refine wpAny_pyIter_range (IsRange.new ..) (small_one h1 h2 h3 h4) ?_;have I1:Inv X aa σ H { s with heap:=s.heap.push { cls:=.type "range",data:=.fields #[.int lo t,.int hi u,.int 1 v] },toks:=tk }:=I.kept fun b o e=>J0 _ e;refine⟨(s.heap.push { cls:=.type "range",data:=.fields #[.int lo t,.int hi u,.int 1 v] }).objs.size,[(s.heap.push { cls:=.type "range",data:=.fields #[.int lo t,.int hi u,.int 1 v] }).objs.size],_,_,H,rfl,
  I1.kept (t':=tk) fun b o e=>J0 _ e,su _ lo (hi-lo).toNat,?_,fun b hb=>?_,q⟩
 ·have e1:lo+((0:Nat):Int)*1=lo:=by simp
  have e2:(((hi-lo).toNat:Nat):Int)-((0:Nat):Int)=L7.Range.rangeSize lo hi 1:=by rw[rangeSize_one];split<;>lia
  show IsRangeIter _ _ (lo+((0:Nat):Int)*1) ((((hi-lo).toNat:Nat):Int)-((0:Nat):Int)) 1;rw[e1,e2];exact K3 _ rfl
 ·have e:b=(s.heap.push { cls:=.type "range",data:=.fields #[.int lo t,.int hi u,.int 1 v] }).objs.size:=by simpa using hb
  subst e;exact I1.fpOk (J7 _) (I1.hok.fresh (J7 _))
def EB(ta:TA):TI:=fun σ H R=>ta σ H fun vs H1=>∃j:Int,vs=[.int j]/\-(2 ^ 62)<=j/\j<2 ^ 62/\R (Itr 0 j.toNat) H1
def FH(ta:TA):TI:=fun σ H R=>ta σ H fun vs H1=>∃i j:Int,vs=[.int i,.int j]/\(-(2 ^ 62)<=i/\i<2 ^ 62/\-(2 ^ 62)<=j/\j<2 ^ 62)/\R (Itr i (j-i).toNat) H1
theorem u9{a:K1}{ta:TA}{p pos:Pos}(hg:Gl X "range") (hm:X.mg "range"=none) (ha:PA X [a] ta) (hs:J8 [a] X.env=[(false,U7 a X.env)]:=by rfl):PI X tg (.Call (.Name "range" p) [a] [] pos) (EB ta):=by
 intro aa s σ H R I h;refine Call_ (eC I hg hm boot_range (PyProof.Rows.callWith_type1 (thn (ha pos aa s σ H _ I h) fun us s1 hup=>hup.el fun vs H1 I1 r1 q1=>?_) hs rfl));obtain⟨j,e,q1,q2,q⟩:=q1;subst e;cases r1 with
 |cons r rr =>
  cases rr;obtain⟨t,rfl⟩:=r;exact call_range_1 (p7 I1 (by lia) (by lia) q1 q2 (by simpa using q))
theorem vJ{a b:K1}{ta:TA}{p pos:Pos}(hg:Gl X "range") (hm:X.mg "range"=none) (ha:PA X [a,b] ta) (hs:J8 [a,b] X.env=[(false,U7 a X.env),(false,U7 b X.env)]:=by rfl) (hs2:J8 [b] X.env=[(false,U7 b X.env)]:=by rfl) :
  PI X tg (.Call (.Name "range" p) [a,b] [] pos) (FH ta):=by
 intro aa s σ H R I h;refine Call_ (eC I hg hm boot_range (PyProof.Rows.callWith_type1 (thn (ha pos aa s σ H _ I h) fun us s1 hup=>hup.el fun vs H1 I1 r1 q1=>?_) (by rw[hs,hs2]) (by rw[hs2];rfl)));obtain⟨i,j,e,⟨q1,q2,q3,q4⟩,q⟩:=q1;subst e;cases r1 with
 |cons r rr =>
  cases rr with
  |cons r' rr =>
   cases rr;obtain⟨t,rfl⟩:=r;obtain⟨t',rfl⟩:=r';exact call_range_2 (p7 I1 q1 q2 q3 q4 q)
def Gg(wi:TI) (g:TG) (tb:TS):TS:=fun D σ H=>wi σ H fun J H1=>∃W:Nat->Nat->St->Hp->Prop,(∃m,W 0 m σ H1)/\∀i m σ H,W i m σ H ->
 (J.stop i H/\D.nx σ H)∨(J.go i H/\∃N:St->Hp->Prop,(∀ σ' H',N σ' H'->∃m',m'<m/\W (i+1) m' σ' H')/\∀x H',J.yld i H x H'->g x σ H' fun σ2 H2=>tb { D with nx:=N,ct:=N,bk:=D.nx } σ2 H2)
def iu(fp:List J5) (h:L6):List (J5×Obj):=fp.filterMap fun b=>(h.get? b).map fun o=>(b,o)
theorem ft{fp:List J5}{h:L6}{b:J5}{o:Obj}(hb:b∈fp) (e:h.get? b=some o):(b,o)∈iu fp h:=T5.mpr ⟨b,hb,by rw[e];rfl⟩
theorem n6{fp:List J5}{h:L6}{p:J5×Obj}(hp:p∈iu fp h):p.1∈fp/\h.get? p.1=some p.2:=by
 obtain⟨b,hb,e⟩:=T5.mp hp;cases q:h.get? b with
 |none=>rw[q]at e;cases e
 |some o =>
  rw[q]at e;have e':(b,o)=p:=N8 e;subst e';exact⟨hb,q⟩
theorem Inv.pinned{aa:List (J5×Obj)}{σ:St}{H:Hp}{s:v0}{fp:List J5}(I:Inv X aa σ H s) (hf:∀b∈fp,gS X aa H b) (ho:∀b∈fp,∃o,s.heap.get? b=some o/\∀v,o.data≠.cell v):Inv X (aa++iu fp s.heap) σ H s :=
 I.pins_of fun p hp=>(S8.mp hp).elim (fun z=>I.pin p (K0 _ z)) fun z=>by
  obtain⟨hb,e⟩:=n6 z;obtain⟨f0,f1,f2,_⟩:=hf p.1 hb;obtain⟨o,e',d⟩:=ho p.1 hb;rw[e]at e';cases e';exact⟨e,f0,f1,f2,d⟩
theorem Inv.unpinned{aa pl:List (J5×Obj)}{σ:St}{H:Hp}{s:v0}(I:Inv X (aa++pl) σ H s):Inv X aa σ H s:=I.pins_of fun p hp=>I.pin p (K0 _ (List.mem_append_left _ hp))
theorem CW{iter:K1}{body:List X8}{wi:TI}{g:TG}{tb:TS}{pos:Pos}(hp:aa9 (K5 X.prog X.w) X.A X.env X.xe) (hc:X.calm=true) (hi:PI X tg iter wi) (hg:PG X tg g) (hb:PSs X body tb)
  (hs:∀x,N7 iter X.env x=W0 x:=by intro _;rfl):PS X (.For tg iter body [] pos) (Gg wi g tb):=by
 intro aa s σ H D I h;refine wpAny_For (thn (hi aa s σ H _ I h) fun v s1 h1=>thn h1 fun itv s2 h2=>?_) hs;obtain⟨it,fp,tn,J,H2,e,I2,T,st2,f2,W,⟨m0,w0⟩,turn⟩:=h2;subst e
 -- what stays true of the iterator's objects through the loop
 have stat:∀{H':Hp},(∀b∈fp,H' b=none)->∀b∈fp,gS X aa H' b:=fun hn b hb=>⟨hn b hb,(f2 b hb).2⟩;refine codeAny_forLoop_any (fun n s'=>∃i σ' H',Inv X aa σ' H' s'/\tn i s'.heap/\(∀b∈fp,H' b=none)/\W i n σ' H') ?_ m0 ⟨0,σ,H2,I2,st2,fun b hb=>(f2 b hb).1,w0⟩;rintro n s3 ⟨i,σ3,H3,I3,st3,fr3,w3⟩;rcases turn i n σ3 H3 w3 with⟨stop,qn⟩|⟨go,N,hN,step⟩
 ·refine P8 hp (thn (T.done X rfl rfl rfl hc i aa s3 σ3 H3 X.xe I3 (stat fr3) st3 stop) fun r s4 ⟨hr,I4⟩=>?_);subst hr;exact V2 ⟨σ3,H3,I4,qn⟩
 ·refine P8 hp (thn (T.item X rfl rfl rfl hc i aa s3 σ3 H3 X.xe I3 (stat fr3) st3 go) fun r s4 ⟨u,hr,h4⟩=>?_);subst hr;refine P8 hp (thn h4 fun _ s5 ⟨x,H5,I5,r5,y5,st5,fr5⟩=>?_);have I5':=I5.pinned (stat fr5) (T.obj _ _ st5);refine P8 hp (thn (hg _ s5 σ3 H5 x u _ I5' r5 (step x H5 y5)) fun _ s6 ⟨σ6,H6,I6,q6⟩=>?_);refine P8 hp (thn (hb _ s6 σ6 H6 _ I6 q6) fun f s7 q7=>?_);have again:∀{σ7:St} {H7:Hp},Inv X (aa++iu fp s5.heap) σ7 H7 s7->N σ7 H7->∃m,m<n/\∃i σ' H',Inv X aa σ' H' s7/\tn i s7.heap/\(∀b∈fp,H' b=none)/\W i m σ' H':=fun {σ7 H7} I7 n7=>by
   obtain⟨m',hm,w7⟩:=hN σ7 H7 n7;refine⟨m',hm,i+1,σ7,H7,I7.unpinned,T.keep _ _ _ st5 fun b hb o e=>(I7.pin (b,o) (K0 _ (K0 _ (ft hb e)))).1,fun b hb=>?_,w7⟩;obtain⟨o,e,d⟩:=T.obj _ _ st5 b hb;exact(I7.pin (b,o) (K0 _ (K0 _ (ft hb e)))).2.1
  cases f with
  |next=>obtain⟨σ7,H7,I7,n7⟩:=q7;exact again I7 n7
  |cont=>obtain⟨σ7,H7,I7,n7⟩:=q7;exact again I7 n7
  |brk=>obtain⟨σ7,H7,I7,q7⟩:=q7;exact⟨σ7,H7,I7.unpinned,q7⟩
  |ret v=>obtain⟨x7,σ7,H7,I7,r7,q7⟩:=q7;exact⟨x7,σ7,H7,I7.unpinned,r7,q7⟩
end
abbrev R2:=V->V->Hp->VK->Prop
def OpR(X:Cx) (f:u8->u8->Sem u8) (r:R2):Prop :=
 ∀(aa:List (J5×Obj)) (s:v0) (σ:St) (H:Hp) (x y:V) (v u:u8) (Q:VK),Inv X aa σ H s->aA x v->aA y u->r x y H Q ->
  K4 (K5 X.prog X.w) X.A (f v u) (EP X aa σ Q) X.xe s
def UnR(X:Cx) (f:u8->Sem u8) (r:V->Hp->VK->Prop):Prop :=
 ∀(aa:List (J5×Obj)) (s:v0) (σ:St) (H:Hp) (x:V) (v:u8) (Q:VK),Inv X aa σ H s->aA x v->r x H Q ->
  K4 (K5 X.prog X.w) X.A (f v) (EP X aa σ Q) X.xe s
def cV(X:Cx) (f:u8) (r:List V->Hp->VK->Prop):Prop :=
 ∀(aa:List (J5×Obj)) (s:v0) (σ:St) (H:Hp) (xs:List V) (us:List u8) (Q:VK),Inv X aa σ H s->ar xs us->r xs H Q ->
  K4 (K5 X.prog X.w) X.A (call f us) (EP X aa σ Q) X.xe s
def tOp(r:R2) (ta tb:TE):TE:=fun σ H Q=>ta σ H fun x H1=>tb σ H1 fun y H2=>r x y H2 Q
def tUn(r:V->Hp->VK->Prop) (ta:TE):TE:=fun σ H Q=>ta σ H fun x H1=>r x H1 Q
def rI(C:Int->Int->Prop) (g:Int->Int->V):R2:=fun x y H Q=>∃i j,x=.int i/\y=.int j/\C i j/\Q (g i j) H
def rI0(g:Int->Int->V):R2:=fun x y H Q=>∃i j,x=.int i/\y=.int j/\Q (g i j) H
def rU(g:Int->V):V->Hp->VK->Prop:=fun x H Q=>∃i,x=.int i/\Q (g i) H
section
variable{X:Cx}{a b c:K1}{ta tb tc:TE}{pos:Pos}
theorem Bl(ha:PE X a ta) (hb:PE X b tb) {aa:List (J5×Obj)}{s:v0}{σ:St}{H:Hp}{R:V->V->Hp->Prop}(I:Inv X aa σ H s)
  (h:ta σ H fun x H1=>tb σ H1 fun y H2=>R x y H2) {Q:u8->v0->Prop} {f:u8->u8->Sem u8}
  (hf:∀v u s2 x y H2,Inv X aa σ H2 s2->aA x v->aA y u->R x y H2->K4 (K5 X.prog X.w) X.A (f v u) Q X.xe s2) :
  K4 (K5 X.prog X.w) X.A (U7 a X.env) (fun v s₁=>K4 (K5 X.prog X.w) X.A (U7 b X.env) (fun u s₂=>K4 (K5 X.prog X.w) X.A (f v u) Q X.xe s₂) X.xe s₁) X.xe s:=by
 refine thn (ha aa s σ H _ I h) fun v s1 hup=>hup.el fun x H1 I1 r1 q1=>?_;refine thn (hb aa s1 σ H1 _ I1 q1) fun u s2 hup=>hup.el fun y H2 I2 r2 q2=>?_;exact hf v u s2 x y H2 I2 r1 r2 q2
theorem D3{op:aa6}{r:R2}(ho:OpR X (O2 op) r) (ha:PE X a ta) (hb:PE X b tb):PE X (.BinOp a op b pos) (tOp r ta tb):=by
 intro aa s σ H Q I h;exact wpAny_BinOp (Bl ha hb I h fun v u s2 x y H2 I2 rx ry q=>ho aa s2 σ H2 x y v u Q I2 rx ry q)
theorem Fm{op:UnaryOp}{r:V->Hp->VK->Prop}(ho:UnR X (unaryOp op) r) (ha:PE X a ta):PE X (.UnaryOp op a pos) (tUn r ta):=by
 intro aa s σ H Q I h;exact UnaryOp_ (thn (ha aa s σ H _ I h) fun v s1 hup=>hup.el fun x H1 I1 r1 q1=>ho aa s1 σ H1 x v Q I1 r1 q1)
theorem opI{f:u8->u8->Sem u8}{C:Int->Int->Prop}{g:Int->Int->Int}
  (rule:∀(i j:Int) (t u:Tok) (s:v0) (Q:u8->v0->Prop) (E:u8->v0->Prop),C i j->Q (.int (g i j) s.toks) { s with toks:=s.toks+1 }->K4 (K5 X.prog X.w) X.A (f (.int i t) (.int j u)) Q E s) :
  OpR X f (rI C fun i j=>.int (g i j)):=by
 intro aa s σ H x y v u Q I rx ry h;obtain⟨i,j,rfl,rfl,hc,q⟩:=h;obtain⟨t,rfl⟩:=rx;obtain⟨t',rfl⟩:=ry;exact rule i j t t' s _ _ hc ⟨.int (g i j),H,I.tok _,⟨_,rfl⟩,q⟩
theorem Fq{f:u8->u8->Sem u8}{g:Int->Int->Int}
  (rule:∀(i j:Int) (t u:Tok) (s:v0) (Q:u8->v0->Prop) (E:u8->v0->Prop),Q (.int (g i j) s.toks) { s with toks:=s.toks+1 }->K4 (K5 X.prog X.w) X.A (f (.int i t) (.int j u)) Q E s) :
  OpR X f (rI0 fun i j=>.int (g i j)):=by
 intro aa s σ H x y v u Q I rx ry h;obtain⟨i,j,rfl,rfl,q⟩:=h;obtain⟨t,rfl⟩:=rx;obtain⟨t',rfl⟩:=ry;exact rule i j t t' s _ _ ⟨.int (g i j),H,I.tok _,⟨_,rfl⟩,q⟩
theorem zB{f:u8->u8->Sem u8}{g:Int->Int->Bool}
  (rule:∀(i j:Int) (t u:Tok) (s:v0) (Q:u8->v0->Prop) (E:u8->v0->Prop),Q (.bool (g i j)) s->K4 (K5 X.prog X.w) X.A (f (.int i t) (.int j u)) Q E s) :
  OpR X f (rI0 fun i j=>.bl (g i j)):=by
 intro aa s σ H x y v u Q I rx ry h;obtain⟨i,j,rfl,rfl,q⟩:=h;obtain⟨t,rfl⟩:=rx;obtain⟨t',rfl⟩:=ry;exact rule i j t t' s _ _ ⟨.bl (g i j),H,I,rfl,q⟩
def qh(i j:Int):Prop:=0<j/\j<1073741824
def mS(i j:Int):Prop:=0<=j/\j<=1000000/\i.natAbs<2 ^ 64
def jC(i j:Int):Prop:=(-(2 ^ 64)<i/\i<2 ^ 64)∨(-(2 ^ 64)<j/\j<2 ^ 64)
theorem jC.ok{i j:Int}(h:jC i j):IntMulOk i j:=by
 rcases h with⟨h1,h2⟩|⟨h1,h2⟩
 ·exact .of_left (intBits_le_64 h1 h2)
 ·exact .of_right (intBits_le_64 h1 h2)
theorem rP(k:Nat):(0:Int)<=2 ^ k:=by
 rw[two_pow_cast];exact Int.natCast_nonneg _
theorem C4:OpR X (O2 .Add) (rI0 fun i j=>.int (i+j)):=Fq fun _ _ _ _ _ _ _ q=>add_int q
theorem Cv:OpR X (O2 .Sub) (rI0 fun i j=>.int (i-j)):=Fq fun _ _ _ _ _ _ _ q=>sub_int q
theorem Cd:OpR X (O2 .Mult) (rI jC fun i j=>.int (i*j)):=opI fun _ _ _ _ _ _ _ hc q=>mul_int q hc.ok
theorem zY:OpR X (O2 .FloorDiv) (rI qh fun i j=>.int (i / j)):=opI fun i j _ _ _ _ _ hc q=>by
 have h1:(0:Int)<j:=hc.1;have h2:j<1073741824:=hc.2;exact floordiv_int (by lia) (by rw[Int.fdiv_eq_ediv_of_nonneg i (by lia)];exact q) (.inl (PyProof.noPylong_small (by lia)))
theorem CG:OpR X (O2 .Mod) (rI (fun _ j=>0<j) fun i j=>.int (i % j)):=opI fun i j _ _ _ _ _ hc q=>by
 have h1:(0:Int)<j:=hc;exact mod_int' (by lia) (by rw[Int.fmod_eq_emod_of_nonneg i (by lia)];exact q)
theorem BN:OpR X (O2 .Pow) (rI mS fun i j=>.int (i ^ j.toNat)):=opI fun _ _ _ _ _ _ _ hc q=>pow_int_small hc.1 hc.2.1 hc.2.2 q
theorem Cs:OpR X (O2 .LShift) (rI mS fun i j=>.int (i*2 ^ j.toNat)):=opI fun _ _ _ _ _ _ _ hc q=>lshift_int_small hc.1 hc.2.1 hc.2.2 q
theorem BY:OpR X (O2 .RShift) (rI (fun _ j=>0<=j) fun i j=>.int (i / 2 ^ j.toNat)):=opI fun i j _ _ _ _ _ hc q =>
 rshift_int hc (by rw[Int.fdiv_eq_ediv_of_nonneg i (rP _)];exact q)
theorem unI{f:u8->Sem u8}{g:Int->Int}
  (rule:∀(i:Int) (t:Tok) (s:v0) (Q:u8->v0->Prop) (E:u8->v0->Prop),Q (.int (g i) s.toks) { s with toks:=s.toks+1 }->K4 (K5 X.prog X.w) X.A (f (.int i t)) Q E s) :
  UnR X f (rU fun i=>.int (g i)):=by
 intro aa s σ H x v Q I rx h;obtain⟨i,rfl,q⟩:=h;obtain⟨t,rfl⟩:=rx;exact rule i t s _ _ ⟨.int (g i),H,I.tok _,⟨_,rfl⟩,q⟩
theorem CC:UnR X (unaryOp .USub) (rU fun i=>.int (-i)):=unI fun _ _ _ _ _ q=>neg_int q
end
section
variable{X:Cx}{a b c:K1}{ta tb tc:TE}{pos:Pos}
theorem wF{aa:List (J5×Obj)}{σ:St}{H:Hp}{s:v0}{Q:VK}{k k':Bool}(I:Inv X aa σ H s) (q:Q (.bl k) H) (e:k=k'):EP X aa σ Q (.bool k') s:=by
 subst e;exact⟨.bl k,H,I,rfl,q⟩
theorem DL:OpR X (K8 .Lt) (rI0 fun i j=>.bl (decide (i<j))):=zB fun _ _ _ _ _ _ _ q=>lt_int q
theorem Fc:OpR X (K8 .LtE) (rI0 fun i j=>.bl (decide (i<=j))):=zB fun _ _ _ _ _ _ _ q=>le_int q
theorem FO:OpR X (K8 .Gt) (rI0 fun i j=>.bl (decide (j<i))):=zB fun _ _ _ _ _ _ _ q=>gt_int q
theorem Fe:OpR X (K8 .GtE) (rI0 fun i j=>.bl (decide (j<=i))):=zB fun _ _ _ _ _ _ _ q=>ge_int q
theorem u5:OpR X (K8 .In) (fun x y H Q=>∃i j,x=.str i/\y=.str j/\Q (.bl (!(R3 j i 0 j.length 1).isEmpty)) H):=by
 intro aa s σ H x y v u Q I rx ry h;obtain⟨i,j,rfl,rfl,q⟩:=h;obtain⟨t,rfl⟩:=rx;obtain⟨t',rfl⟩:=ry;exact in_str (wF I q rfl)
theorem oA:OpR X (K8 .NotIn) (fun x y H Q=>∃i j,x=.str i/\y=.str j/\Q (.bl (!(!(R3 j i 0 j.length 1).isEmpty))) H):=by
 intro aa s σ H x y v u Q I rx ry h;obtain⟨i,j,rfl,rfl,q⟩:=h;obtain⟨t,rfl⟩:=rx;obtain⟨t',rfl⟩:=ry;exact notIn_str (wF I q rfl)
theorem Ai{op:CmpOp}{r:R2}(ho:OpR X (K8 op) r) (ha:PE X a ta) (hb:PE X b tb) (hm:T0 op b=false):PE X (.Compare a [op] [b] pos) (tOp r ta tb):=by
 intro aa s σ H Q I h;exact wpAny_Compare1 (Bl ha hb I h fun v u s2 x y H2 I2 rx ry q=>ho aa s2 σ H2 x y v u Q I2 rx ry q) hm
def AU(t:TE):TT:=fun σ H Q=>t σ H fun x H'=>∃k,x=.bl k/\Q k H'
theorem zG{op:CmpOp}{r:R2}(ho:OpR X (K8 op) r) (ha:PE X a ta) (hb:PE X b tb) (hm:T0 op b=false):PT X (.Compare a [op] [b] pos) (AU (tOp r ta tb)):=by
 intro aa s σ H Q I h;refine wpAny_isTrue_Compare1 (thn (ha aa s σ H _ I h) fun v s1 hup=>hup.el fun x H1 I1 r1 q1=>thn (hb aa s1 σ H1 _ I1 q1) fun u s2 hup=>hup.el fun y H2 I2 r2 q2 =>
  thn (ho aa s2 σ H2 x y v u _ I2 r1 r2 q2) fun c s3 ⟨z,H3,I3,r3,k,e,q3⟩=>?_) hm
 subst e;cases r3;exact O8 ⟨H3,I3,q3⟩
def Bu(r r':R2) (ta tb tc:TE):TE:=fun σ H Q=>ta σ H fun x H1=>tb σ H1 fun y H2=>r x y H2 fun z H3=>∃k,z=.bl k /\
 (if k=true then tc σ H3 fun w' H4=>r' y w' H4 Q else Q (.bl false) H3)
theorem wA{op op':CmpOp}{r r':R2}(ho:OpR X (K8 op) r) (ho':OpR X (K8 op') r') (ha:PE X a ta) (hb:PE X b tb) (hc:PE X c tc)
  (hm:lastMarks [op,op'] [b,c]=false:=by with_unfolding_all rfl):PE X (.Compare a [op,op'] [b,c] pos) (Bu r r' ta tb tc):=by
 intro aa s σ H Q I h;refine Compare_chain (thn (ha aa s σ H _ I h) fun v s1 hup=>hup.el fun x H1 I1 r1 q1=>chain_link (thn (hb aa s1 σ H1 _ I1 q1) fun u s2 hup=>hup.el fun y H2 I2 r2 q2 =>
  thn (ho aa s2 σ H2 x y v u _ I2 r1 r2 q2) fun d s3 ⟨z,H3,I3,r3,k,e,q3⟩=>?_)) hm
 subst e;cases r3;refine O8 ?_;cases k with
 |false=>exact ite_ff ⟨.bl false,H3,I3,rfl,q3⟩
 |true=>exact ite_tt (chain_last (thn (hc aa s3 σ H3 _ I3 q3) fun w' s4 ⟨z',H4,I4,r4,q4⟩=>ho' aa s4 σ H4 y z' u w' Q I4 r2 r4 q4))
theorem md:(H0:Nat)<2 ^ 63:=by rw[sizeLine_eq];decide
theorem sL:OpR X (O2 .Add) (fun x y H Q=>∃i j,x=.str i/\y=.str j/\i.length+j.length<=H0/\Q (.str (i++j)) H):=by
 intro aa s σ H x y v u Q I rx ry h;obtain⟨i,j,rfl,rfl,hz,q⟩:=h;obtain⟨t,rfl⟩:=rx;obtain⟨t',rfl⟩:=ry;exact add_str (fun t' tk=>⟨.str (i++j),H,I.tok _,⟨_,rfl⟩,q⟩) hz
theorem ue{x:V}{us:List u8}(r:ar [x] us):∃u,us=[u]/\aA x u:=by
 cases r with
 |cons r1 r2=>cases r2;exact⟨_,rfl,r1⟩
end
structure GP(h:L6) (x dx C:J5) (mA:Str->Option u8):Prop where
 obj:h.get? x=some (PySem.W.instObj C dx)
 ns:h.Ns1 dx mA
 ne:dx≠x
theorem kG.some_of{v:V}{o:Option u8}(r:kG (some v) o):∃u,o=some u/\aA v u:=by
 cases o with
 |none=>exact(show False from r).elim
 |some u=>exact⟨u,rfl,r⟩
structure Cls(K:o0) (C:J5):Prop where
 pg:PySem.W.plainGet K C Str.empty=true
 hd:PySem.W.hasDictIn K C=true
 po:PySem.W.plainOver K C=true
 sa:PySem.W.findIn K (.ref C) "__setattr__"=some (some (.builtin "object.__setattr__"))
theorem Cls.get{K:o0}{C:J5}(c:Cls K C) (f:Str):PySem.W.plainGet K C f=true:=c.pg
section
variable{X:Cx}{aa:List (J5×Obj)}{σ:St}{H:Hp}{s:v0}{A:N6}{E:u8->v0->Prop}{Q:u8->v0->Prop}{c:u8}{b:Bool}
inductive mf (K:o0) (H:Hp):V->u8->Prop where
 |non:mf K H .non (.type "NoneType")
 |bl (x:Bool):mf K H (.bl x) (.type "bool")
 |int (i:Int):mf K H (.int i) (.type "int")
 |str (x:Str):mf K H (.str x) (.type "str")
 |flt (x:UInt64):mf K H (.flt x) (.type "float")
 |lst {a:J5} {xs:List V} (e:H a=some (.lst xs)):mf K H (.ref a) (.type "list")
 |frz {a:J5} {o:Obj} {xs:List V} (e:H a=some (.frz o (.lst xs))):mf K H (.ref a) (.type "list")
 |tup {a:J5} {xs:List V} (e:H a=some (.tup xs)):mf K H (.ref a) (.type "tuple")
 |dK {a:J5} {kvs:List (Key×V)} (e:H a=some (.dK kvs)):mf K H (.ref a) (.type "dict")
 |dT {a:J5} {kvs:List (List Key×V)} (e:H a=some (.dT kvs)):mf K H (.ref a) (.type "dict")
 | ins {a C dx:J5} {fs:List (Str × V)} (e:H a = some (.ins C dx fs)) (cl:Cls K C) (ha:PySem.W.findIn K (.ref C) "__class__" = some (some (.builtin "object.__class__")))
   (hn:PySem.W.specialIn K (.builtin "object.__class__") "__get__"=some (some (.builtin "getset_descriptor.__get__"))) (htk:PySem.W.takesIn K (.builtin "object.__class__")=some true)
   (hm:PySem.W.mroIn K C (.type "object")=some true):mf K H (.ref a) (.ref C)
end
structure cw(k:Nat) (A:N6):Prop where
 hd:A.handled=none
 dp:A.depth+3*k+5<recursionLimit
 un:A.units+16*k+200<aa5
theorem cw.mono{j k:Nat}{A:N6}(r:cw k A) (h:j<=k):cw j A:=⟨r.hd,by have:=r.dp;lia,by have:=r.un;lia⟩
theorem cw.deeper{k:Nat}{A:N6}(r:cw (k+1) A) (env:Env):cw k (A.deeper env) :=
 ⟨r.hd,by have:=r.dp;show A.depth+1+3*k+5<_;lia,by have:=r.un;show A.units+3+16*k+200<_;lia⟩
theorem cw.depth{k:Nat}{A:N6}(r:cw k A):A.depth<recursionLimit:=by have:=r.dp;lia
theorem cw.units{k:Nat}{A:N6}(r:cw k A):A.units+64<aa5:=by have:=r.un;lia
def DQ:TA:=fun _ H Q=>Q [] H
def A9(ta:TE) (tr:TA):TA:=fun σ H Q=>ta σ H fun x H1=>tr σ H1 fun xs H2=>Q (x::xs) H2
section
variable{X:Cx}{e:K1}{es:List K1}{te:TE}{t:TA}{pos:Pos}
theorem fO:PA X [] DQ:=fun _ _ _ _ H Q I h=>Calls.spliced_nil ⟨[],H,I,.nil,h⟩
theorem cG(ha:PE X e te) (hr:PA X es t) (hs:J8 (e::es) X.env=(false,U7 e X.env)::J8 es X.env:=by rfl):PA X (e::es) (A9 te t):=by
 intro pos aa s σ H Q I h;rw[hs];show K4 _ _ (spliced ((false,U7 e X.env)::S9 pos (J8 es X.env))) _ _ s;refine Calls.spliced_cons (thn (ha aa s σ H _ I h) fun u s1 hup=>hup.el fun x H1 I1 r1 q1=>?_);exact thn (hr pos aa s1 σ H1 _ I1 q1) fun us s2 hup=>hup.el fun xs H2 I2 r2 q2=>⟨x::xs,H2,I2,.cons r1 r2,q2⟩
def Gm(t:TA):TE:=fun σ H Q=>t σ H fun xs H1=>xs.length<=H0/\∀p,H1 p=none->Q (.ref p) (upd H1 p (.tup xs))
def FZ(t:TA):TE:=fun σ H Q=>t σ H fun xs H1=>xs.length<=H0/\∀p,H1 p=none->Q (.ref p) (upd H1 p (.lst xs))
theorem sJ{x1}(h:PA X es t):PE X (.Tuple es x1 pos) (Gm t):=by
 intro aa s σ H Q I hq;refine wpAny_Tuple_spliced (thn (h pos aa s σ H _ I hq) fun us s1 ⟨xs,H1,I1,r,z,q⟩=>⟨by rw[<-r.length];exact z,?_⟩);have hf:H1 s1.heap.objs.size=none:=I1.hok.fresh (J7 _);refine⟨.ref s1.heap.objs.size,upd H1 s1.heap.objs.size (.tup xs),I1.laid (t':=s1.toks) (fun b u e=>J0 _ e) (J7 _) ?_,rfl,q _ hf⟩;exact⟨z,us,r,⟨_,K3 _ rfl,rfl,⟨_,rfl⟩,rfl⟩⟩
theorem vP(h:PA X es t):PE X (.List es pos) (FZ t):=by
 intro aa s σ H Q I hq;refine wpAny_List_spliced (thn (h pos aa s σ H _ I hq) fun us s1 ⟨xs,H1,I1,r,z,q⟩=>⟨by rw[<-r.length];exact z,?_⟩);have hf:H1 s1.heap.objs.size=none:=I1.hok.fresh (J7 _);refine⟨.ref s1.heap.objs.size,upd H1 s1.heap.objs.size (.lst xs),I1.laid (t':=s1.toks) (fun b u e=>J0 _ e) (J7 _) ?_,rfl,q _ hf⟩;exact⟨z,us,0,r,K3 _ rfl⟩
end
abbrev Sp:=List V->Hp->VK->XK->Prop
abbrev CXT:=List Env->Hp->v0->XK->u8->v0->Prop
structure zl(P:K6) (w:O3) (K:o0) (mg:Str->Option u8) (base:L6) (A:N6) (outer:List Env) (s:v0) (H:Hp):Prop where
 frames:A.frames=some outer
 mod:Mod K mg base
 bs:∀b o,base.get? b=some o->s.heap.get? b=some o/\H b=none
 bsz:base.objs.size<=s.heap.objs.size
 funs:s.heap.FunFrames base outer
 frf:∀b∈frs outer,H b=none
 hok:HOk P w H s.heap
 bare:W6 s.gens
def CE(outer:List Env) (P:K6) (w:O3) (H:Hp) (s:v0) (Q:VK) (u:u8) (s':v0):Prop :=
 ∃v H',s'.os=s.os/\W6 s'.gens/\Un (frs outer) [] H H' s.heap s'.heap/\HOk P w H' s'.heap/\aA v u/\Q v H'
def CR(CX:CXT) (outer:List Env) (P:K6) (w:O3) (H:Hp) (s:v0) (Q:VK) (E:XK) (r:Result) (s':v0):Prop :=
 match r with
 |.ok (.ret u)=>CE outer P w H s Q u s'
 |.ok _=>False
 |.error e=>CX outer H s E e s'
structure aQ(P:K6) (w:O3) (K:o0) (mg:Str->Option u8) (base:L6) (CX:CXT) (k:Nat) (f:J5) (fd:P6) (ps:List Str) (sp:Sp):Prop where
 len:∀vs H Q E,sp vs H Q E->vs.length=ps.length
 run:∀(A:N6) (outer:List Env) (s:v0) (H:Hp) (args:Args) (us:List u8) (vs:List V) (Q:VK) (E:XK),cw k A->zl P w K mg base A outer s H->ab0 s fd args (ps.zip us)->ar vs us->sp vs H Q E ->
  V3 (K5 P w) A (.call (.ref f) args) (CR CX outer P w H s Q E) s
section
variable{X:Cx}{aa:List (J5×Obj)}{σ:St}{H:Hp}{s s':v0}
theorem Inv.env0(I:Inv X aa σ H s):zl X.prog X.w X.K X.mg X.base X.A X.stack s H :=
 ⟨I.ok.frames,I.ok.mod,I.bs,N0 I.ok.bsz I.sz,I.stack,I.stkFree,I.hok,I.bare⟩
theorem Inv.after{Q:VK}{u:u8}(I:Inv X aa σ H s) (h:CE X.stack X.prog X.w H s Q u s'):EP X aa σ Q u s':=by
 obtain⟨v,H',os,bare,un,hok,r,q⟩:=h;obtain⟨hh,g,d,t,os'⟩:=s';obtain rfl:os'=s.os:=os;exact⟨v,H',I.call (h':=hh) (g':=g) (d':=d) (t':=t) (ch:=[]) un hok bare (fun b z=>absurd z (by simp)),r,q⟩
end
def EV(sp:Sp) (dvs:List V) (E:XK) (t:TA):TE:=fun σ H Q=>t σ H fun vs H1=>sp (vs++dvs) H1 Q E
def c9(K:o0) (fd:P6) (ps:List Str) (ds:List u8):Prop :=
 ∀(s:v0) (us:List u8),K.In s.heap->(us++ds).length=ps.length->ab0 s fd ⟨us,[]⟩ (ps.zip (us++ds))
theorem c9.all{K:o0}{fd:P6}{ps:List Str}(h:∀us:List u8,us.length=ps.length->bindArgs fd ⟨us,[]⟩=W0 (ps.zip us)):c9 K fd ps []:=fun s us _ hl=>by
 rw[V4]at hl ⊢;exact .of_eq (h us hl)
def lw(CX:CXT) (X:Cx) (E:XK):Prop:=∀(aa:List (J5×Obj)) (σ:St) (H:Hp) (s:v0) (e:u8) (s':v0),Inv X aa σ H s->CX X.stack H s E e s'->X.xe e s'
section
variable{X:Cx}{CX:CXT}{k:Nat}{f C:J5}{fd:P6}{ps:List Str}{sp:Sp}{dvs:List V}{ds:List u8}{E:XK}{x m:Str}{p pos iE:Pos}{e o:K1}{es:List K1}{ta:TE}{t:TA}
theorem Bq{aa:List (J5×Obj)}{σ:St}{H:Hp}{s:v0}{Q:VK}{us:List u8}{vs:List V}(F:aQ X.prog X.w X.K X.mg X.base CX k f fd ps sp) (hr:cw k X.A) (hb:c9 X.K fd ps ds) (hd:ar dvs ds) (hx:lw CX X E)
  (I:Inv X aa σ H s) (r:ar vs us) (h:sp (vs++dvs) H Q E):K4 (K5 X.prog X.w) X.A (call (.ref f) us) (EP X aa σ Q) X.xe s:=by
 have r2:ar (vs++dvs) (us++ds):=r.append hd;have hl:(us++ds).length=ps.length:=by rw[<-r2.length];exact F.len _ _ _ _ h
 refine wpAny_call (V9 (F.run X.A X.stack s H ⟨us,[]⟩ (us++ds) (vs++dvs) Q E hr I.env0 (hb s us I.kIn hl) r2 h) fun r s' hq=>?_);cases r with
 |error e=>exact hx aa σ H s e s' I hq
 |ok fl =>
  cases fl with
  |ret u=>exact I.after hq
  |next=>exact P7 hq
  |brk=>exact P7 hq
  |cont=>exact P7 hq
theorem um(F:aQ X.prog X.w X.K X.mg X.base CX k f fd ps sp) (hr:cw k X.A) (hg:Gl X x) (hm:X.mg x=some (.ref f)) (hk:S0 X.K (.ref f)=true) (hb:c9 X.K fd ps ds) (hd:ar dvs ds) (hx:lw CX X E)
  (ha:PA X (e::es) t) (hdb:(x==("__debug__":Str))=false:=by decide) (he:J8 (e::es) X.env=(false,U7 e X.env)::J8 es X.env:=by rfl) (hpl:(S9 pos (J8 es X.env)).any (·.1)=false:=by rfl) :
  PE X (.Call (.Name x p) (e::es) [] pos) (EV sp dvs E t):=by
 intro aa s σ H Q I h;refine wpAny_Call_Name_kw (kN I hg hm ?_ hdb);refine PySem.W.callWith_K (h₀:=X.base) I.ok.mod.kin hk (thn (ha pos aa s σ H _ I h) fun us s1 hup=>hup.el fun vs H1 I1 r q=>⟨I1.kIn,?_⟩) he hpl;exact Bq F hr hb hd hx I1 r q
structure Mk(K:o0) (C f:J5):Prop where
 makes:PySem.W.makesIn K C=true
 init:PySem.W.findIn K (.ref C) "__init__"=some (some (.ref f))
 fn:PySem.W.isFn K (.ref f)=true
 kp:S0 K (.ref C)=true
end
section
variable{X:Cx}{CX:CXT}{k:Nat}{f C:J5}{fd:P6}{ps ks:List Str}{sp:Sp}{E:XK}{x m:Str}{p pos iE kpos:Pos}{e o:K1}{es:List K1}{kws:List X5}{te ta:TE}{t tk:TA}{nm:Option Str}
structure Gn(K:o0) (fd:P6) (ps ks:List Str) (g:List u8->List u8->List u8) (gV:List V->List V->List V):Prop where
 to:∀(s:v0) (us ws:List u8),K.In s.heap->(g us ws).length=ps.length->ab0 s fd ⟨us,ks.zip ws⟩ (ps.zip (g us ws))
 rel:∀{vs:List V} {us:List u8} {zs:List V} {ws:List u8},ar vs us->ar zs ws->ar (gV vs zs) (g us ws)
variable{g:List u8->List u8->List u8}{gV:List V->List V->List V}
end
structure aq(N P:List Str) (sc:S7):Prop where
 kind:sc.kind=.function
 co:sc.isCoroutine=false
 gen:sc.isGenerator=false
 nd:N.Nodup
 pre:N.take P.length=P
 par:∀x∈P,sc.names.lookup x=some .local∨sc.names.lookup x=some .cell
 nofree:∀y∈sc.names,y.2≠.free
theorem nY{W3:Str->Option M9}{x:Str}:∀{binds:List (Str×u8)}{m:Str->Option u8},(∀v,(x,v)∉binds)->bindL W3 binds m x=m x
 |[],_,_=>rfl
 |(n,v)::r,m,h=>by
  unfold bindL;rw[nY fun w hw=>h w (L5 _ hw)]
  split
  ·have:x≠n:=by rintro rfl;exact h v N9
   simp[this]
  ·rfl
theorem nq{W3:Str->Option M9}{x:Str}:∀{binds:List (Str×u8)}{m:Str->Option u8},(∀v,(x,v)∉binds)->bindC W3 binds m x=m x
 |[],_,_=>rfl
 |(n,v)::r,m,h=>by
  unfold bindC;rw[nq fun w hw=>h w (L5 _ hw)]
  split
  ·rfl
  ·have:x≠n:=by rintro rfl;exact h v N9
   simp[this]
theorem ng{W3:Str->Option M9}{x:Str}{v:u8}:∀{P:List Str}{vs:List u8}{i:Nat}{m:Str->Option u8},P.Nodup->P[i]?=some x->vs[i]?=some v->W3 x=some .local ->
  bindL W3 (P.zip vs) m x=some v
 |[],_,_,_,_,h,_,_=>by simp at h
 |_::_,[],_,_,_,_,h,_=>by simp at h
 |p::P,w::vs,0,m,nd,h1,h2,hk=>by
  simp at h1 h2;subst h1;subst h2;show bindL W3 ((p,w)::P.zip vs) m p=_;unfold bindL;rw[nY fun v hv=>(T6.mp nd).1 (List.of_mem_zip hv).1,if_pos hk];simp
 |p::P,w::vs,i+1,m,nd,h1,h2,hk=>by
  show bindL W3 ((p,w)::P.zip vs) m x=_;unfold bindL;exact ng (i:=i) (T6.mp nd).2 (by simpa using h1) (by simpa using h2) hk
theorem m7{W3:Str->Option M9}{x:Str}{v:u8}:∀{P:List Str}{vs:List u8}{i:Nat}{m:Str->Option u8},P.Nodup->P[i]?=some x->vs[i]?=some v->W3 x≠some .local ->
  bindC W3 (P.zip vs) m x=some v
 |[],_,_,_,_,h,_,_=>by simp at h
 |_::_,[],_,_,_,_,h,_=>by simp at h
 |p::P,w::vs,0,m,nd,h1,h2,hk=>by
  simp at h1 h2;subst h1;subst h2;show bindC W3 ((p,w)::P.zip vs) m p=_;unfold bindC;rw[nq fun v hv=>(T6.mp nd).1 (List.of_mem_zip hv).1,if_neg hk];simp
 |p::P,w::vs,i+1,m,nd,h1,h2,hk=>by
  show bindC W3 ((p,w)::P.zip vs) m x=_;unfold bindC;exact m7 (i:=i) (T6.mp nd).2 (by simpa using h1) (by simpa using h2) hk
def fw(N:List Str) (vs:List V):St:=vs.map some++J3 (N.length-vs.length) none
noncomputable def iK(CX:CXT) (P:K6) (w:O3) (K:o0) (mg:Str->Option u8) (base:L6) (N:List Str) (qual:Str) (scope:S7) (f:J5) (cd:u8) (A:N6) (outer:List Env) (s:v0) (H:Hp) (E:XK):Cx where
 prog:=P
 w:=w
 K:=K
 mg:=mg
 base:=base
 A:=A.deeper (Z8 qual scope s.heap.objs.size f cd)
 N:=N
 s₀:=s
 H₀:=H
 env:=Z8 qual scope s.heap.objs.size f cd
 outer:=outer
 stack:=Z8 qual scope s.heap.objs.size f cd::outer
 ex:=[]
 calm:=true
 fn:=fun _=>true
 pn:=[]
 xe:=fun e s'=>K4 (K5 P w) (A.deeper (Z8 qual scope s.heap.objs.size f cd)) (leaving (Z8 qual scope s.heap.objs.size f cd) e) (fun _ s''=>CX outer H s E e s'') (fun e' s''=>CX outer H s E e' s'') s'
theorem qq{sc:S7}{n:Nat}{x:Str}(h:sc.names.lookup x=some .cell):∃c,(ab1 n sc.names []).lookup x=some c:=by
 have q:=PySem.W.cellsFrom_some sc.names n [] (.inl h);exact P9.mp q
theorem vD{CX:CXT}{P:K6}{w:O3}{K:o0}{mg:Str->Option u8}{base:L6}{N ps:List Str}{qual:Str}{scope:S7}{f:J5}{cd:u8}{A:N6}{outer:List Env}{s s1:v0}{H:Hp}{E:XK}{us:List u8}{vs:List V}
  (S:aq N ps scope) (hd:A.handled=none) (e0:zl P w K mg base A outer s H) (hl:vs.length=ps.length) (r:ar vs us)
  (x:InCallC s s.heap.objs.size (bindL (Z8 qual scope s.heap.objs.size f cd).kindOf (ps.zip us) fun _=>none) (ab1 (s.heap.objs.size+1) scope.names []) (bindC (Z8 qual scope s.heap.objs.size f cd).kindOf (ps.zip us) fun _=>none) s1) :
  Inv (iK CX P w K mg base N qual scope f cd A outer s H E) [] (fw N vs) H s1:=by
 have hpl:ps.length<=N.length:=by have:=congrArg W7 S.pre;rw[List.length_take]at this;lia
 obtain⟨h1,tk,rfl,hk⟩:=x.done;have noA:∀b:J5,b∉(iK CX P w K mg base N qual scope f cd A outer s H E).ex:=fun b z=>absurd (show b∈([]:List J5)from z) (by simp);refine⟨⟨e0.mod,S.kind,rfl,rfl,J7 _,fun y z c h1 h2=>?_,fun y hy=>?_,fun y c _ h=>?_,fun _=>hd,N6.frames_deeper e0.frames,.inr ⟨rfl,rfl⟩,fun b z=>absurd z (noA b),e0.bs,e0.bsz,fun b _ _=>noA b,fun b z=>absurd z (noA b),e0.funs,e0.frf⟩,
  rfl,e0.bare,Un.kept hk,⟨_,x.toInCall.ns,fun i y v h1 h2 h3=>?_⟩,fun y c h=>⟨_,x.cell y c h⟩,e0.hok.fresh (J7 _),fun y c h=>?_,fun p hp=>absurd (show p∈([]:List (J5×Obj))from hp) (by simp),e0.hok.kept hk,?_⟩
 ·exact name_of_addr x.apart (N1 h1) (N1 h2)
 ·have hy:scope.names.lookup y=some .cell∨scope.names.lookup y=some .free:=hy;rcases hy with hy|hy
  ·exact qq hy
  ·exact absurd rfl (S.nofree _ (N1 hy))
 ·exact Nat.le_of_lt (x.above y c (N1 h))
 ·have hi:i<vs.length:=by
   unfold fw at h2
   by_cases hi:i<vs.length
   ·exact hi
   ·rw[P1 (by simpa using hi)]at h2;rw[R4]at h2
    split at h2<;>cases h2
  have ha:vs[i]?=some v:=by
   unfold fw at h2;rw[L4 (by simpa using hi),Q0]at h2;cases e:vs[i]? with
   |none=>rw[e]at h2;cases h2
   |some a=>rw[e]at h2;cases h2;rfl
  obtain⟨u,hu,rv⟩:=r.get ha;have hp:ps[i]?=some y:=by
   rw[<-S.pre,List.getElem?_take_of_lt (by lia)];exact h1
  have ndP:ps.Nodup:=by rw[<-S.pre];exact S.nd.sublist (List.take_sublist _ _)
  refine⟨u,rv,?_⟩;rcases S.par y (List.mem_of_getElem? hp)with k|k
  ·exact .inl ⟨k,ng ndP hp hu k⟩
  ·obtain⟨c,e⟩:=qq (n:=s.heap.objs.size+1) k;refine .inr ⟨.inl k,c,e,?_⟩;have q:=x.cell y c e;rw[m7 ndP hp hu (by show scope.names.lookup y≠_;rw[k];decide)]at q;exact q
 ·exact e0.hok.fresh (Nat.le_of_lt (x.above y c (N1 h)))
 ·unfold fw;show _=N.length;rw[L9,T7,List.length_replicate]
  lia
theorem AY{CX:CXT}{P:K6}{w:O3}{K:o0}{mg:Str->Option u8}{base:L6}{k:Nat}{f:J5}{name qual:Str}{params:Arguments}{body:List X8}{scope:S7}{dV kV doc pm cdv ct oc:u8}{an od:Option J5}
  {osl:Array (Option u8)} {N ps:List Str} {sp:Sp} (lk:K.lookup f=some ⟨oc,od,.func (U6 name qual params body scope dV kV doc pm an cdv ct),osl⟩) (hcd:PySem.W.codeIn K cdv qual=true) (S:aq N ps scope)
  (len:∀vs H Q E,sp vs H Q E->vs.length=ps.length)
  (hbody:∀ (A:N6) (outer:List Env) (s:v0) (H:Hp) (vs:List V) (Q:VK) (E:XK),cw k (A.deeper (Z8 qual scope s.heap.objs.size f cdv)) → sp vs H Q E →
   ∃t,PSs (iK CX P w K mg base N qual scope f cdv A outer s H E) body t/\t { nx:=fun _ H'=>Q .non H',rt:=Q } (fw N vs) H) :
  aQ P w K mg base CX (k+1) f (U6 name qual params body scope dV kV doc pm an cdv ct) ps sp:=by
 refine⟨len,fun A outer s H args us vs Q E hr e0 hb r hsp=>?_⟩;have hl:=len _ _ _ _ hsp;have KX:K.In s.heap:=e0.mod.kin.keeps fun b o e=>(e0.bs b o e).1;have lim:s.heap.NoLimit:=e0.mod.nolimit.keeps fun b o e=>(e0.bs b o e).1;have hkind:∀y∈ps.zip us,scope.names.lookup y.1=some .local∨(scope.names.lookup y.1=some .cell/\((ab1 (s.heap.objs.size+1) scope.names []).lookup y.1).isSome=true):=fun⟨n,v⟩ hy=>by
  rcases S.par n (List.of_mem_zip hy).1 with q|q
  ·exact .inl q
  ·exact .inr ⟨q,PySem.W.cellsFrom_some _ _ _ (.inl q)⟩
 refine codeAny_call_function hr.depth (KX _ _ lk) rfl S.co S.gen rfl (PySem.W.codeRec_of KX hcd) (hb _ _ _ _ ?_);refine wpAny_newFunctionEnv_cells S.kind hkind fun env he s1 x=>?_;subst he;refine⟨lim.keeps x.toInCall.keep,codeAny_func ?_⟩;obtain⟨t,ht,hq⟩:=hbody A outer s H vs Q E (hr.deeper _) hsp;have I:Inv (iK CX P w K mg base N qual scope f cdv A outer s H E) [] (fw N vs) H s1:=vD S hr.hd e0 hl r x;refine M0 (ht [] s1 (fw N vs) H _ I hq) (fun fl s' hs=>?_) fun e s' hs=>hs;have fin:∀{σ':St} {H':Hp} {v:V} {u:u8},Inv (iK CX P w K mg base N qual scope f cdv A outer s H E) [] σ' H' s'->aA v u->Q v H'->CE outer P w H s Q u s' :=
  fun {σ' H' v u} J rv q=>⟨v,H',J.os,J.bare,J.base,J.hok,rv,q⟩
 cases fl with
 |ret u =>
  obtain⟨v,σ',H',J,rv,q⟩:=hs;exact fin J rv q
 |next =>
  obtain⟨σ',H',J,q⟩:=hs;exact fin (v:=V.non) (u:=u8.none) J rfl q
 |brk =>
  obtain⟨_,_,_,q⟩:=hs;exact P7 q
 |cont =>
  obtain⟨_,_,_,q⟩:=hs;exact P7 q
section
variable{X:Cx}{x:Str}{p pos:Pos}{e:K1}{es:List K1}{t:TA}{id T:String}{r:List V->Hp->VK->Prop}
def tCB(r:List V->Hp->VK->Prop) (t:TA):TE:=fun σ H Q=>t σ H fun vs H1=>r vs H1 Q
theorem fY(hc:cV X (.builtin id) r) (hg:Gl X x) (hm:X.mg x=none) (hv:Q8 x=some (.builtin id)) (ha:PA X (e::es) t) (hn:x≠"__name__":=by decide) (hdb:(x==("__debug__":Str))=false:=by decide)
  (he:J8 (e::es) X.env=(false,U7 e X.env)::J8 es X.env:=by rfl) (hpl:(S9 pos (J8 es X.env)).any (·.1)=false:=by rfl):PE X (.Call (.Name x p) (e::es) [] pos) (tCB r t):=by
 intro aa s σ H Q I h;refine wpAny_Call_Name_kw (eC I hg hm hv ?_ hn hdb);exact PyProof.Rows.callWith_builtin1 (thn (ha pos aa s σ H _ I h) fun us s1 hup=>hup.el fun vs H1 I1 r1 q1=>hc aa s1 σ H1 vs us Q I1 r1 q1) he hpl
theorem vj(hc:cV X (.type T) r) (hg:Gl X x) (hm:X.mg x=none) (hv:Q8 x=some (.type T)) (ha:PA X (e::es) t) (hn:x≠"__name__":=by decide) (hdb:(x==("__debug__":Str))=false:=by decide)
  (he:J8 (e::es) X.env=(false,U7 e X.env)::J8 es X.env:=by rfl) (hpl:(S9 pos (J8 es X.env)).any (·.1)=false:=by rfl):PE X (.Call (.Name x p) (e::es) [] pos) (tCB r t):=by
 intro aa s σ H Q I h;refine wpAny_Call_Name_kw (eC I hg hm hv ?_ hn hdb);exact PyProof.Rows.callWith_type1 (thn (ha pos aa s σ H _ I h) fun us s1 hup=>hup.el fun vs H1 I1 r1 q1=>hc aa s1 σ H1 vs us Q I1 r1 q1) he hpl
end
end L2
namespace HT
open PySem PyProof.Rows
section
open PySem.SeqAt
open PySem.AutoSeq1 (wpAny_loadPart')
open PySem.MeetsSeq PySem.MeetsSeq2 PySem.MeetsSeq3
end
section
variable{prog:K6}{w:O3}{A:N6}{E:u8->v0->Prop}{s:v0}
theorem cat_tup{t b:J5}{vs ws:List u8}{Q:u8->v0->Prop}(ht:ab4 s.heap t vs.toArray) (hb:ab4 s.heap b ws.toArray) (hv:vs≠[])
  (h1:ws=[]->Q (.ref t) s) (h2:ws≠[]->Q (.ref s.heap.objs.size) { s with heap:=s.heap.push { cls:=.type "tuple",data:=.seq (vs++ws).toArray } })
  (hsz:vs.length+ws.length<=H0):K4 (K5 prog w) A (O2 .Add (.ref t) (.ref b)) Q E s:=by
 obtain⟨⟨cls,dd,data,sl⟩,ho,hc,n,hd⟩:=id ht;obtain⟨⟨cls2,dd2,data2,sl2⟩,ho2,hc2,n2,hd2⟩:=id hb;simp only at hc hd hc2 hd2;subst hc hd hc2 hd2;have e:vs.toArray++ws.toArray=(vs++ws).toArray:=by simp
 by_cases hw:ws=[]
 ·exact concat_meets ⟨_,ho,rfl⟩ ⟨_,ho2,rfl⟩ noFill_tuple_add seq_tuple_add PySem.F.slot_tuple_add PySem.F.entry_tuple_add (PySem.F.args_tuple_add_2 _ _)
   (tuple_addW1 t b vs.toArray ws.toArray n n2 dd dd2 sl sl2 (by simpa using hv) (by simp[hw])) ⟨ho,ho2,h1 hw⟩
 ·refine concat_meets ⟨_,ho,rfl⟩ ⟨_,ho2,rfl⟩ noFill_tuple_add seq_tuple_add PySem.F.slot_tuple_add PySem.F.entry_tuple_add (PySem.F.args_tuple_add_2 _ _)
   (tuple_addW2 t b vs.toArray ws.toArray n n2 dd dd2 sl sl2 (by simpa using hv) (by simpa using hw) (by rw[I0,I0];exact hsz)) ⟨ho,ho2,?_⟩
  rw[e];exact h2 hw
noncomputable def sIx(n d:Nat):Option Int->Nat
 |none=>d
 |some v=>if v<0 then(v+(n:Int)).toNat else min v.toNat n
theorem sIx_none(n d:Nat):sIx n d none=d:=rfl
theorem sIx_nat(n d k:Nat):sIx n d (some (k:Int))=min k n:=by
 show(if(k:Int)<0 then((k:Int)+(n:Int)).toNat else min (k:Int).toNat n)=min k n;rw[if_neg (by lia),Int.toNat_natCast]
theorem CY(n d:Nat) (hd:d<=n) (o:Option Int):sIx n d o<=n:=by
 cases o with
 |none=>exact hd
 |some v =>
  show(if v<0 then(v+(n:Int)).toNat else min v.toNat n)<=n
  by_cases hv:v<0
  ·rw[if_pos hv];lia
  ·rw[if_neg hv];exact Nat.min_le_right _ _
theorem uk(v:Int) (n d:Nat):(if v<0 then max (v+(n:Int)) 0 else min v (n:Int))=((sIx n d (some v):Nat):Int):=by
 show(if v<0 then max (v+(n:Int)) 0 else min v (n:Int))=(((if v<0 then(v+(n:Int)).toNat else min v.toNat n):Nat):Int)
 by_cases hv:v<0
 ·simp only[if_pos hv];lia
 ·simp only[if_neg hv];lia
theorem rY(lo hi:Option Int) (n:Nat):L7.Slice.sliceAdjust lo hi 1 (n:Int)=(((sIx n 0 lo:Nat):Int),((sIx n n hi:Nat):Int)):=by
 have h1:¬ ((1:Int)<0):=by lia
 unfold L7.Slice.sliceAdjust;simp only[h1,if_false];refine Prod.ext ?_ ?_
 ·cases lo with
  |none=>rfl
  |some v=>exact uk v n 0
 ·cases hi with
  |none=>rfl
  |some v=>exact uk v n n
theorem rM(i j:Nat):P4 (i:Int) (j:Int) 1=j-i:=by
 unfold P4;have h1:(1:Int) > 0:=by lia
 simp only[h1,if_true,Int.ediv_one]
 split<;>lia
theorem lg{v:u8}{o:Option Int}{Q:Option Int->v0->Prop}(p:Z9 v o) (h:Q o s):K4 (K5 prog w) A (L7.Slice.slicePartIndex v) Q E s:=by
 cases p with
 |none=>exact slicePart_none h
 |int i t=>exact slicePart_int h
theorem eT{sl:J5}{vl vu:u8}{lo hi:Option Int}{n:Nat}{Q:Int×Int×Nat->v0->Prop}(hs:s.heap.IsSliceOf sl vl vu .none) (pl:Z9 vl lo) (pu:Z9 vu hi)
  (h:Q (((sIx n 0 lo:Nat):Int),1,sIx n n hi-sIx n 0 lo) s):K4 (K5 prog w) A (L7.Slice.sliceApplied (.ref sl) (W0 (n:Int))) Q E s:=by
 obtain⟨os,hos,hcs,hds⟩:=id hs;unfold L7.Slice.sliceApplied L7.Slice.sliceFields;refine J1 (J1 (wpAny_field hos hds (x:=vl) rfl (J1 (wpAny_field hos hds (x:=vu) rfl (J1 (wpAny_field hos hds (x:=.none) rfl (J6 ?_)))))));refine J1 (slicePart_none ?_);show K4 _ _ (if((1:Int)==0)=true then _ else _) _ _ s;rw[if_neg (by decide)];refine J1 (lg pl (J1 (lg pu (J1 (J6 ?_)))));show K4 _ _ (match L7.Slice.sliceAdjust lo hi 1 (n:Int)with|(lo,hi)=>W0 (lo,(1:Int),P4 lo hi 1)) _ _ s;rw[rY lo hi n];show K4 _ _ (W0 (((sIx n 0 lo:Nat):Int),(1:Int),P4 ((sIx n 0 lo:Nat):Int) ((sIx n n hi:Nat):Int) 1)) _ _ s;rw[rM];exact J6 h
theorem xA(xs:Array u8) (i k:Nat):((U1 k).filterMap fun(m:Nat)=>xs[((i:Int)+(m:Int)*1).toNat]?).toArray=((xs.toList.drop i).take k).toArray:=by
 have e:(fun(m:Nat)=>xs[((i:Int)+(m:Int)*1).toNat]?)=fun m=>xs[i+m]?:=by
  funext m;have:((i:Int)+(m:Int)*1).toNat=i+m:=by lia
  rw[this]
 rw[e];have:=pick_run xs i k;rw[List.filterMap_map]at this;have e2:((fun x=>xs[x]?)∘fun x=>i+x)=fun m=>xs[i+m]?:=rfl;rw[e2]at this;rw[this]
theorem getItem_tuple_cut{t sl:J5}{items:Array u8}{vl vu:u8}{lo hi:Option Int}{Q:u8->v0->Prop}(ht:ab4 s.heap t items) (hs:s.heap.IsSliceOf sl vl vu .none) (pl:Z9 vl lo) (pu:Z9 vu hi)
  (hw:¬ (sIx items.size 0 lo=0/\sIx items.size items.size hi=items.size))
  (h:Q (.ref s.heap.objs.size) { s with heap:=s.heap.push { cls:=.type "tuple",data:=.seq ((items.toList.drop (sIx items.size 0 lo)).take (sIx items.size items.size hi-sIx items.size 0 lo)).toArray } })
  (hsz:items.size<=H0):K4 (K5 prog w) A (W8 (.ref t) (.ref sl)) Q E s:=by
 have htake:sizeOk (.seq ((items.toList.drop (sIx items.size 0 lo)).take (sIx items.size items.size hi-sIx items.size 0 lo)).toArray):=by
  show((items.toList.drop (sIx items.size 0 lo)).take (sIx items.size items.size hi-sIx items.size 0 lo)).toArray.size<=H0;rw[I0,List.length_take,List.length_drop,S1]
  lia
 have hj:sIx items.size items.size hi<=items.size:=CY _ _ (J7 _) hi;obtain⟨os,hos,hcs,hds⟩:=id hs;have hTs:s.TypeIs (.ref sl) "slice":=⟨os,hos,hcs⟩;unfold W8
 try with_reducible refine wpAny_holding ?_
 first|refine J1 (J6 ?_)|skip
 refine J1 (wpAny_sequenceKey ht.typeIs (by decide) ?_);refine J1 (wpAny_callSpecial?_slot (name:=Str.ofString "__getitem__") ht.typeIs K7
  (wpAny_call_entry K7 ht.typeIs entry_tuple_getitem ?_ (args_tuple_getitem _ _)))
 show K4 _ _ (L7.Tuple.tupleItemsOf (.ref t) >>= _) _ _ s;refine J1 (tupleItemsOf_ ht ?_);refine J1 (wpAny_typeOf hTs ?_);rw[if_pos (by decide)];refine J1 (eT hs pl pu ?_);have hno:¬ ((((sIx items.size 0 lo:Nat):Int)==0&&(1:Int)==1&&(sIx items.size items.size hi-sIx items.size 0 lo)==items.size)=true):=by
  intro q;rw[K9,K9]at q;have q1:((sIx items.size 0 lo:Nat):Int)=0:=eq_of_beq q.1.1;have q2:sIx items.size items.size hi-sIx items.size 0 lo=items.size:=eq_of_beq q.2;exact hw ⟨by lia,by lia⟩
 show K4 _ _ (if(((sIx items.size 0 lo:Nat):Int)==0&&(1:Int)==1&&(sIx items.size items.size hi-sIx items.size 0 lo)==items.size)=true then _ else _) _ _ s;rw[if_neg hno,xA]
 first
  |exact J1 (m:=M7 _) (Q3 (J6 ⟨_,rfl,J6 h⟩) htake)
  |exact J1 (m:=M7 _) (Q3 (J1 (J6 (J6 ⟨_,rfl,J6 h⟩))) htake)
  |exact J1 (J1 (m:=M7 _) (Q3 (J6 (J6 ⟨_,rfl,J6 h⟩)) htake))
  |exact J1 (J1 (m:=M7 _) (Q3 (J6 ⟨_,rfl,J6 h⟩) htake))
end
end HT
namespace L2
open PySem PySem.Spec PyProof.Rows
abbrev TO:=St->Hp->(Option Int->Hp->Prop)->Prop
def PO(X:Cx) (e:Option K1) (t:TO):Prop :=
 ∀(aa:List (J5×Obj)) (s:v0) (σ:St) (H:Hp) (Q:Option Int->Hp->Prop),Inv X aa σ H s->t σ H Q ->
  K4 (K5 X.prog X.w) X.A (evalPart e X.env) (fun u s'=>∃o H',Inv X aa σ H' s'/\Z9 u o/\Q o H') X.xe s
def Ak:TO:=fun _ H Q=>Q none H
def FJ(t:TE):TO:=fun σ H Q=>t σ H fun x H1=>∃i,x=.int i/\Q (some i) H1
section
variable{X:Cx}{e:K1}{te:TE}{lo hi:Option K1}{tl th:TO}{pos p2:Pos}
theorem Ao:PO X none Ak:=by
 intro aa s σ H Q I h;rw[evalPart_none];exact J6 ⟨none,H,I,.none,h⟩
theorem zk(h:PE X e te):PO X (some e) (FJ te):=by
 intro aa s σ H Q I hw;rw[evalPart_some];refine thn (h aa s σ H _ I hw) fun u s1 hup=>hup.el fun x H1 I1 r1 q1=>?_;obtain⟨i,rfl,q⟩:=q1;obtain⟨t,rfl⟩:=r1;exact⟨some i,H1,I1,.int i t,q⟩
def SlR(X:Cx) (r:V->Option Int->Option Int->Hp->VK->Prop):Prop :=
 ∀(aa:List (J5×Obj)) (s:v0) (σ:St) (H:Hp) (x:V) (v vl vu:u8) (lo hi:Option Int) (sl:J5) (Q:VK),Inv X aa σ H s->aA x v->s.heap.IsSliceOf sl vl vu .none->Z9 vl lo->Z9 vu hi->r x lo hi H Q ->
  ∃T id,typeLookup (.type T) "__getitem__"=W0 (some (.builtin id))/\s.TypeIs v T/\K4 (K5 X.prog X.w) X.A (W8 v (.ref sl)) (EP X aa σ Q) X.xe s
theorem SlR.or{r r':V->Option Int->Option Int->Hp->VK->Prop}(h:SlR X r) (h':SlR X r'):SlR X (fun x lo hi H Q=>r x lo hi H Q∨r' x lo hi H Q):=by
 intro aa s σ H x v vl vu lo hi sl Q I rx hs pl pu q;rcases q with q|q
 ·exact h aa s σ H x v vl vu lo hi sl Q I rx hs pl pu q
 ·exact h' aa s σ H x v vl vu lo hi sl Q I rx hs pl pu q
def tSl(r:V->Option Int->Option Int->Hp->VK->Prop) (te:TE) (tl th:TO):TE:=fun σ H Q=>te σ H fun x H1=>tl σ H1 fun l H2=>th σ H2 fun u H3=>r x l u H3 Q
theorem ym{r:V->Option Int->Option Int->Hp->VK->Prop}(hr:SlR X r) (he:PE X e te) (hl:PO X lo tl) (hu:PO X hi th):PE X (.Subscript e (.Slice lo hi none p2) pos) (tSl r te tl th):=by
 intro aa s σ H Q I h;refine Subscript_ (thn (he aa s σ H _ I h) fun v s1 hup=>hup.el fun x H1 I1 r1 q1=>?_);refine wpAny_Slice (thn (hl aa s1 σ H1 _ I1 q1) fun vl s2 ⟨l,H2,I2,pl,q2⟩=>thn (hu aa s2 σ H2 _ I2 q2) fun vu s3 ⟨u,H3,I3,pu,q3⟩=>?_);rw[evalPart_none];refine J6 ?_;have I4:Inv X aa σ H3 { s3 with heap:=s3.heap.push { cls:=.type "slice",data:=.fields #[vl,vu,.none] } }:=I3.kept (t':=s3.toks) fun b ob q=>J0 _ q;obtain⟨T,id,hT,ht,hg⟩:=hr aa { s3 with heap:=s3.heap.push { cls:=.type "slice",data:=.fields #[vl,vu,.none] } } σ H3 x v vl vu l u s3.heap.objs.size Q I4 r1 (L6.IsSliceOf.new ..) pl pu q3;show K4 (K5 X.prog X.w) X.A (subscriptTail e (.Slice lo hi none p2) v (.ref s3.heap.objs.size)) (EP X aa σ Q) X.xe { s3 with heap:=s3.heap.push { cls:=.type "slice",data:=.fields #[vl,vu,.none] } };exact tail_any (ops:=[.ref s3.heap.objs.size,v]) ht hT hg (by with_unfolding_all rfl)
def ot(xs:List V) (lo hi:Option Int):List V:=(xs.drop (HT.sIx xs.length 0 lo)).take (HT.sIx xs.length xs.length hi-HT.sIx xs.length 0 lo)
theorem jV(xs:List V) (lo hi:Option Int):(ot xs lo hi).length<=xs.length:=by
 unfold ot;rw[List.length_take,List.length_drop]
 lia
def Gi(K:o0):V->Option Int->Option Int->Hp->VK->Prop:=fun x lo hi H Q=>∃a xs,x=.ref a/\SqT K H a xs /\
 ¬ (HT.sIx xs.length 0 lo=0/\HT.sIx xs.length xs.length hi=xs.length)/\∀p,H p=none->Q (.ref p) (upd H p (.tup (ot xs lo hi)))
theorem Cj:SlR X (Gi X.K):=by
 intro aa s σ H x v vl vu lo hi sl Q I rx hs pl pu h;obtain⟨a,xs,rfl,hx,hw,q⟩:=h;cases rx;obtain⟨its,r,ht,hz⟩:=I.tuple hx;have bD:its.toArray.size=xs.length:=by rw[I0];exact r.length.symm
 refine⟨"tuple",_,K7.lookup,ht.typeIs,?_⟩;refine HT.getItem_tuple_cut ht hs pl pu (by rw[bD];exact hw) ?_ (by rw[bD];exact hz);rw[bD];refine⟨.ref s.heap.objs.size,_,I.laid (t':=s.toks) (o:=.tup (ot xs lo hi)) (fun b ob q=>J0 _ q) (J7 _) ?_,rfl,q _ (I.hok.fresh (J7 _))⟩;exact⟨N0 (jV xs lo hi) hz,_,(r.drop (HT.sIx xs.length 0 lo)).take (HT.sIx xs.length xs.length hi-HT.sIx xs.length 0 lo),mB.new _ _⟩
def DR(K:o0):R2:=fun x y H Q=>∃a b xs ys,x=.ref a/\y=.ref b/\SqT K H a xs/\SqT K H b ys/\xs≠[]/\xs.length+ys.length<=H0 /\
 (ys=[]->Q (.ref a) H)/\(ys≠[]->∀p,H p=none->Q (.ref p) (upd H p (.tup (xs++ys))))
theorem ar.nil_iff{xs:List V}{us:List u8}(r:ar xs us):us=[]↔xs=[]:=by
 cases r with
 |nil=>simp
 |cons _ _=>simp
theorem zQ:OpR X (O2 .Add) (DR X.K):=by
 intro aa s σ H x y v u Q I rx ry h;obtain⟨a,b,xs,ys,rfl,rfl,ha,hb,hx,hz,q1,q2⟩:=h;cases rx;cases ry;obtain⟨its,r1,p1,_⟩:=I.tuple ha;obtain⟨its2,r2,p2,_⟩:=I.tuple hb;refine HT.cat_tup p1 p2 (fun z=>hx (r1.nil_iff.mp z)) (fun z=>⟨.ref a,H,I,rfl,q1 (r2.nil_iff.mp z)⟩) (fun z=>?_) (by rw[<-r1.length,<-r2.length];exact hz);refine⟨.ref s.heap.objs.size,_,I.laid (t':=s.toks) (o:=.tup (xs++ys)) (fun b ob q=>J0 _ q) (J7 _) ?_,rfl,q2 (fun w=>z (r2.nil_iff.mpr w)) _ (I.hok.fresh (J7 _))⟩;exact⟨by rw[L9];exact hz,_,r1.append r2,mB.new _ _⟩
end
noncomputable def ixN(n:Nat) (i:Int):Option Nat:=if 0<=i then(if i<n then some i.toNat else none)else if -(n:Int)<=i then some (i+n).toNat else none
def atI{α:Type}(xs:List α) (i:Int):Option α:=(ixN xs.length i).bind fun j=>xs[j]?
theorem zp{n:Nat}{i:Int}{j:Nat}(h:ixN n i=some j):seqIndex? i n=some j/\j<n/\-(n:Int)<=i/\i<n:=by
 unfold ixN at h
 by_cases h0:0<=i
 ·rw[if_pos h0]at h
  by_cases h1:i<n
  ·rw[if_pos h1]at h;have e:i.toNat=j:=N8 h;exact⟨by rw[seqIndex_of h0 h1,e],by lia,by lia,h1⟩
  ·rw[if_neg h1]at h;cases h
 ·rw[if_neg h0]at h
  by_cases h1:-(n:Int)<=i
  ·rw[if_pos h1]at h;have e:(i+n).toNat=j:=N8 h;exact⟨by rw[seqIndex_neg (by lia) h1,e],by lia,h1,by lia⟩
  ·rw[if_neg h1]at h;cases h
theorem oZ{α:Type}{xs:List α}{i:Int}{v:α}(h:atI xs i=some v):∃j,seqIndex? i xs.length=some j/\xs[j]?=some v/\j<xs.length/\-(xs.length:Int)<=i/\i<xs.length:=by
 unfold atI at h;cases e:ixN xs.length i with
 |none=>rw[e]at h;cases h
 |some j =>
  rw[e]at h;obtain⟨h1,h2,h3,h4⟩:=zp e;exact⟨j,h1,h,h2,h3,h4⟩
theorem bC{α:Type}{xs:List α}{j:Nat}{v:α}(h:xs[j]?=some v):atI xs (j:Int)=some v:=by
 have hj:j<xs.length:=(O4.mp h).1;have e:ixN xs.length (j:Int)=some j:=by
  unfold ixN;rw[if_pos (by lia),if_pos (by lia)];simp
 unfold atI;rw[e];exact h
def sX(b:K1):Prop:=∀o i,Z3 b false o i=operate [o,i] (W8 o i)
def IxR(X:Cx) (r:R2):Prop :=
 ∀(value slice:K1) (aa:List (J5×Obj)) (s:v0) (σ:St) (H:Hp) (x y:V) (v u:u8) (Q:VK),Inv X aa σ H s->aA x v->aA y u->r x y H Q ->
  Z3 slice false v u=operate [v,u] (W8 v u)->K4 (K5 X.prog X.w) X.A (subscriptTail value slice v u) (EP X aa σ Q) X.xe s
def MtR(X:Cx) (id:String) (r:V->List V->Hp->VK->Prop):Prop :=
 ∀(aa:List (J5×Obj)) (s:v0) (σ:St) (H:Hp) (x:V) (xs:List V) (v:u8) (us:List u8) (Q:VK),Inv X aa σ H s->aA x v->ar xs us->r x xs H Q ->
  K4 (K5 X.prog X.w) X.A (call (.builtin id) (v::us)) (EP X aa σ Q) X.xe s
section
variable{X:Cx}{a b:K1}{ta tb:TE}{pos:Pos}
theorem EF{r:R2}(hr:IxR X r) (ha:PE X a ta) (hb:PE X b tb) (hs:sX b):PE X (.Subscript a b pos) (tOp r ta tb):=by
 intro aa s σ H Q I h;exact Subscript_ (Bl ha hb I h fun v u s2 x y H2 I2 rx ry q=>hr a b aa s2 σ H2 x y v u Q I2 rx ry q (hs _ _))
def F7(K:o0):R2:=fun x y H Q=>∃p xs i v,x=.ref p/\y=.int i/\SqL K H p xs/\atI xs i=some v/\Q v H
def GL(K:o0):R2:=fun x y H Q=>∃p xs i v,x=.ref p/\y=.int i/\SqT K H p xs/\atI xs i=some v/\Q v H
def Gq:R2:=fun x y H Q=>∃z i c,x=.str z/\y=.int i/\z.length<=H0/\atI z.cps.toList i=some c/\Q (.str ⟨#[c]⟩) H
theorem ui:IxR X (F7 X.K):=by
 intro value slice aa s σ H x y v u Q I rx ry h hs;obtain⟨p,xs,i,z,rfl,rfl,hq,he,q⟩:=h;cases rx;obtain⟨t,rfl⟩:=ry;obtain⟨its,r,pl,hz⟩:=I.list hq;obtain⟨j,h1,h2,h3,h4,h5⟩:=oZ he;obtain⟨w,ew,rw'⟩:=r.get h2;have hl:=r.length;have hn:=md;have fin:EP X aa σ Q w s:=⟨z,H,I,rw',q⟩
 by_cases h0:0<=i
 ·have hj:i.toNat=j:=by
   rw[seqIndex_of h0 h5]at h1;exact N8 h1
  exact item_listR pl.isList h0 (by lia) (by rw[hj];simpa using ew) fin hs
 ·have hj:(i+(its.toArray.size:Int)).toNat=j:=by
   rw[seqIndex_neg (by lia) h4]at h1;rw[I0,<-hl];exact N8 h1
  exact subscriptTail_builtinR (x:=w) pl.isList.typeIs slot_list_getitem.lookup
   (wpAny_getItem_list_neg (Q:=fun r s'=>r=w/\EP X aa σ Q r s') pl.isList (by lia) (by rw[I0]<;>lia) (by lia) (by rw[hj];simpa using ew) ⟨rfl,fin⟩) hs
theorem BU:IxR X (GL X.K):=by
 intro value slice aa s σ H x y v u Q I rx ry h hs;obtain⟨p,xs,i,z,rfl,rfl,hq,he,q⟩:=h;cases rx;obtain⟨t,rfl⟩:=ry;obtain⟨its,r,pl,hz⟩:=I.tuple hq;obtain⟨j,h1,h2,h3,h4,h5⟩:=oZ he;obtain⟨w,ew,rw'⟩:=r.get h2;have hl:=r.length;have hn:=md;have fin:EP X aa σ Q w s:=⟨z,H,I,rw',q⟩;exact subscriptTail_builtinR (x:=w) pl.typeIs slot_tuple_getitem.lookup
  (getItem_tuple (j:=j) (Q:=fun r s'=>r=w/\EP X aa σ Q r s') pl (by lia) (by lia) (by rw[I0,<-hl];exact h1) (by simpa using ew) ⟨rfl,fin⟩) hs
theorem CA:IxR X Gq:=by
 intro value slice aa s σ H x y v u Q I rx ry h hs;obtain⟨z,i,c,rfl,rfl,hz,he,q⟩:=h;obtain⟨t,rfl⟩:=rx;obtain⟨t',rfl⟩:=ry;obtain⟨j,h1,h2,h3,h4,h5⟩:=oZ he;have hl:z.cps.toList.length=z.length:=by simp[Str.length]
 rw[hl]at h1 h4 h5;have hn:=md;exact tail_any (typeIs_str s z t) slot_str_getitem.lookup (getItem_str (c:=c) (by
  have e1:decide (i < -(2 ^ 63:Int))=false:=decide_eq_false (by lia);have e2:decide (i>=2 ^ 63)=false:=decide_eq_false (by lia);rw[e1,e2,Bool.or_false]) (by rw[h1];simpa using h2) ⟨.str ⟨#[c]⟩,H,I.tok _,⟨_,rfl⟩,q⟩) hs
theorem Inv.lst{aa:List (J5×Obj)}{σ:St}{H:Hp}{s:v0}{p:J5}{xs:List V}(I:Inv X aa σ H s) (h:H p=some (.lst xs)) :
  ∃(its:List u8) (n:Nat),ar xs its/\s.heap.get? p=some { cls:=.type "list",data:=.seq its.toArray n }/\xs.length<=H0:=by
 obtain⟨z,its,n,r,e⟩:=I.hok p _ h;exact⟨its,n,r,e,z⟩
theorem oO(lo hi:Option Int) (n:Nat):(U2 lo hi none n).1=((HT.sIx n 0 lo:Nat):Int)/\(U2 lo hi none n).2.1=((HT.sIx n n hi:Nat):Int)/\(U2 lo hi none n).2.2=1:=by
 refine⟨?_,?_,rfl⟩
 ·cases lo with
  |none=>simp[U2,HT.sIx]
  |some i =>
   simp only[U2,HT.sIx,Option.getD_none,show(1:Int) > 0 by decide,if_true]
   by_cases h:i<0
   ·simp only[h,if_true]<;>lia
   ·simp only[h,if_false]<;>lia
 ·cases hi with
  |none=>simp[U2,HT.sIx]
  |some i =>
   simp only[U2,HT.sIx,Option.getD_none,show(1:Int) > 0 by decide,if_true]
   by_cases h:i<0
   ·simp only[h,if_true]<;>lia
   ·simp only[h,if_false]<;>lia
theorem mL(its:List u8) (lo hi:Option Int):slicePick its.toArray lo hi none=((its.drop (HT.sIx its.length 0 lo)).take (HT.sIx its.length its.length hi-HT.sIx its.length 0 lo)).toArray:=by
 obtain⟨h1,h2,h3⟩:=oO lo hi its.toArray.size;unfold slicePick;rw[h1,h2,h3];simp only[sliceRange_one,pick_run,I0]<;>rfl
def Gu(K:o0):V->Option Int->Option Int->Hp->VK->Prop:=fun x lo hi H Q=>∃a xs,x=.ref a/\SqL K H a xs/\∀p,H p=none->Q (.ref p) (upd H p (.lst (ot xs lo hi)))
theorem zc:SlR X (Gu X.K):=by
 intro aa s σ H x v vl vu lo hi sl Q I rx hs pl pu h;obtain⟨a,xs,rfl,hx,q⟩:=h;cases rx;obtain⟨its,r,ht,hz⟩:=I.list hx;have bD:=r.length;refine⟨"list",_,slot_list_getitem.lookup,ht.isList.typeIs,?_⟩;refine wpAny_getItem_list_slice ht.isList hs pl pu .none (by simp) ?_ (by rw[I0]<;>lia);rw[mL,<-bD];refine⟨.ref s.heap.objs.size,_,I.laid (t':=s.toks) (o:=.lst (ot xs lo hi)) (fun b ob q=>J0 _ q) (J7 _) ?_,rfl,q _ (I.hok.fresh (J7 _))⟩;exact⟨N0 (jV xs lo hi) hz,_,0,(r.drop (HT.sIx xs.length 0 lo)).take (HT.sIx xs.length xs.length hi-HT.sIx xs.length 0 lo),K3 _ rfl⟩
def fR:V->Bool
 |.non=>true
 |.bl _=>true
 |.int _=>true
 |.str _=>true
 |_=>false
noncomputable def eqV:V->V->Bool
 |.non,.non=>true
 |.bl a,.bl b=>a==b
 |.bl a,.int b=>(if a then 1 else 0)==b
 |.int a,.bl b=>a==(if b then 1 else 0)
 |.int a,.int b=>a==b
 |.str a,.str b=>a==b
 |_,_=>false
theorem DC{A:N6}{s:v0}{y x:V}{u v:u8}(ry:aA y u) (rx:aA x v) (fy:fR y=true) (fx:fR x=true):N5 A s u v (eqV y x):=by
 cases y with
 |non =>
  cases ry;cases x with
  |non=>cases rx;exact N5.same _
  |bl b=>cases rx;exact N5.none_bool b
  |int b=>obtain⟨t,rfl⟩:=rx;exact N5.none_int b t
  |str b=>obtain⟨t,rfl⟩:=rx;exact N5.none_str b t
  |_=>exact absurd (show false=true from fx) L8
 |bl a =>
  cases ry;cases x with
  |non=>cases rx;exact N5.bool_none a
  |bl b=>cases rx;exact N5.bool_bool a b
  |int b=>obtain⟨t,rfl⟩:=rx;exact N5.bool_int a b t
  |str b=>obtain⟨t,rfl⟩:=rx;exact N5.bool_str a b t
  |_=>exact absurd (show false=true from fx) L8
 |int a =>
  obtain⟨t',rfl⟩:=ry;cases x with
  |non=>cases rx;exact N5.int_none a t'
  |bl b=>cases rx;exact N5.int_bool a t' b
  |int b=>obtain⟨t,rfl⟩:=rx;exact N5.int_int a t' b t
  |str b=>obtain⟨t,rfl⟩:=rx;exact N5.int_str a t' b t
  |_=>exact absurd (show false=true from fx) L8
 |str a =>
  obtain⟨t',rfl⟩:=ry;cases x with
  |non=>cases rx;exact N5.str_none a t'
  |bl b=>cases rx;exact N5.str_bool a t' b
  |int b=>obtain⟨t,rfl⟩:=rx;exact N5.str_int a t' b t
  |str b=>obtain⟨t,rfl⟩:=rx;exact N5.str_str a t' b t
  |_=>exact absurd (show false=true from fx) L8
 |_=>exact absurd (show false=true from fy) L8
def eqU(x:V) (u:u8):Bool:=match u with
 |.none=>eqV .non x
 |.bool b=>eqV (.bl b) x
 |.int i _=>eqV (.int i) x
 |.str z _=>eqV (.str z) x
 |_=>false
theorem xp{x y:V}{u:u8}(r:aA y u) (f:fR y=true):eqU x u=eqV y x:=by
 cases y with
 |non=>cases r;rfl
 |bl b=>cases r;rfl
 |int i=>obtain⟨t,rfl⟩:=r;rfl
 |str z=>obtain⟨t,rfl⟩:=r;rfl
 |_=>exact absurd (show false=true from f) L8
theorem iL{x:V}:∀{xs:List V}{us:List u8},ar xs us->xs.all fR=true->us.any (eqU x)=xs.any fun y=>eqV y x
 |_,_,.nil,_=>rfl
 |y::xs,u::us,.cons r t,f=>by
  rw[T8,K9]at f;rw[O5,O5,xp r f.1,iL t f.2]
theorem gF{A:N6}{s:v0}{x:V}{v:u8}(rx:aA x v) (fx:fR x=true):∀{xs:List V}{us:List u8},ar xs us->xs.all fR=true->∀u∈us,N5 A s u v (eqU x u)
 |_,_,.nil,_=>fun u hu=>by cases hu
 |y::xs,u::us,.cons r t,f=>fun u' hu=>by
  rw[T8,K9]at f;rcases R8.mp hu with rfl|hu
  ·rw[xp r f.1];exact DC r rx f.1 fx
  ·exact gF rx fx t f.2 u' hu
def inV(x:V) (xs:List V):Bool:=xs.any fun y=>eqV y x
def rIn(K:o0) (neg:Bool):R2:=fun x y H Q=>∃p xs,y=.ref p/\(SqL K H p xs∨SqT K H p xs)/\fR x=true/\xs.all fR=true/\Q (.bl (if neg then !inV x xs else inV x xs)) H
theorem vd:OpR X (K8 .In) (rIn X.K false):=by
 intro aa s σ H x y v u Q I rx ry h;obtain⟨p,xs,rfl,hq,fx,fs,q⟩:=h;cases ry;rcases hq with hq|hq
 ·obtain⟨its,r,pl,hz⟩:=I.list hq;refine SeqAt.in_listAt (eqU x) pl.isList (fun w hw=>gF rx fx r fs w (by simpa using hw)) ⟨.bl _,H,I,rfl,?_⟩;rw[show its.toArray.any (eqU x)=its.any (eqU x)by simp,iL r fs];exact q
 ·obtain⟨its,r,pl,hz⟩:=I.tuple hq;refine SeqAt.in_tupleAt (eqU x) pl (fun w hw=>gF rx fx r fs w (by simpa using hw)) ⟨.bl _,H,I,rfl,?_⟩;rw[show its.toArray.any (eqU x)=its.any (eqU x)by simp,iL r fs];exact q
theorem oG:OpR X (K8 .NotIn) (rIn X.K true):=by
 intro aa s σ H x y v u Q I rx ry h;obtain⟨p,xs,rfl,hq,fx,fs,q⟩:=h;cases ry;rcases hq with hq|hq
 ·obtain⟨its,r,pl,hz⟩:=I.list hq;refine SeqAt.notIn_listAt (eqU x) pl.isList (fun w hw=>gF rx fx r fs w (by simpa using hw)) ⟨.bl _,H,I,rfl,?_⟩;rw[show its.toArray.any (eqU x)=its.any (eqU x)by simp,iL r fs];exact q
 ·obtain⟨its,r,pl,hz⟩:=I.tuple hq;refine SeqAt.notIn_tupleAt (eqU x) pl (fun w hw=>gF rx fx r fs w (by simpa using hw)) ⟨.bl _,H,I,rfl,?_⟩;rw[show its.toArray.any (eqU x)=its.any (eqU x)by simp,iL r fs];exact q
theorem pE:cV X (.builtin "len") (fun xs H Q=>∃p ys,xs=[.ref p]/\(SqL X.K H p ys∨SqT X.K H p ys)/\Q (.int ys.length) H):=by
 intro aa s σ H xs us Q I r h;obtain⟨p,ys,rfl,hq,q⟩:=h;obtain⟨u,rfl,rx⟩:=ue r;cases rx;have hn:=md;rcases hq with hq|hq
 ·obtain⟨its,r',pl,hz⟩:=I.list hq;have bD:=r'.length;exact Calls.call_len_list pl.isList (by simp only[I0]<;>lia) ⟨.int ys.length,H,I.tok _,⟨s.toks+1,by rw[I0,bD]⟩,q⟩
 ·obtain⟨its,r',pl,hz⟩:=I.tuple hq;have bD:=r'.length;exact len_tuple pl (by simp only[I0]<;>lia) ⟨.int ys.length,H,I.tok _,⟨s.toks+1,by rw[I0,bD]⟩,q⟩
theorem oH:cV X (.builtin "len") (fun xs H Q=>∃z,xs=[.str z]/\z.length<=H0/\Q (.int z.length) H):=by
 intro aa s σ H xs us Q I r h;obtain⟨z,rfl,hz,q⟩:=h;obtain⟨u,rfl,t,rfl⟩:=ue r;have hn:=md;exact len_str (by lia) ⟨.int z.length,H,I.tok _,⟨_,rfl⟩,q⟩
theorem cV.or{f:u8}{r r':List V->Hp->VK->Prop}(h:cV X f r) (h':cV X f r'):cV X f (fun xs H Q=>r xs H Q∨r' xs H Q):=by
 intro aa s σ H xs us Q I rs q;rcases q with q|q
 ·exact h aa s σ H xs us Q I rs q
 ·exact h' aa s σ H xs us Q I rs q
theorem oM:cV X (.type "list") (fun xs H Q=>∃p ys,xs=[.ref p]/\(SqL X.K H p ys∨SqT X.K H p ys)/\∀l,H l=none->Q (.ref l) (upd H l (.lst ys))):=by
 intro aa s σ H xs us Q I r h;obtain⟨p,ys,rfl,hq,q⟩:=h;obtain⟨u,rfl,rx⟩:=ue r;cases rx;have fin:∀(its:List u8),ar ys its->ys.length<=H0->∀(h':L6) (c':Nat),(∀b o',s.heap.get? b=some o'->h'.get? b=some o') ->
   h'.get? s.heap.objs.size=some { cls:=.type "list",dict:=none,data:=.seq its.toArray c',slots:=#[] }->EP X aa σ Q (.ref s.heap.objs.size) { s with heap:=h' }:=fun its r' hz h' c' kp e =>
  ⟨.ref s.heap.objs.size,_,I.laid (t':=s.toks) kp (J7 _) (show bq X.prog X.w _ h' _ (.lst ys)from⟨hz,its,c',r',e⟩),rfl,q _ (I.hok.fresh (J7 _))⟩
 rcases hq with hq|hq
 ·obtain⟨its,r',pl,hz⟩:=I.list hq;have bD:=r'.length;obtain⟨o,ho,hc,n,hd⟩:=pl.isList;exact call_list_seq p (.inl rfl) ho hc hd (fun h' c' kp e=>fin its r' hz h' c' kp e) (by simp only[I0]<;>lia)
 ·obtain⟨its,r',pl,hz⟩:=I.tuple hq;have bD:=r'.length;obtain⟨o,ho,hc,n,hd⟩:=pl;exact call_list_seq p (.inr rfl) ho hc hd (fun h' c' kp e=>fin its r' hz h' c' kp e) (by simp only[I0]<;>lia)
theorem mP:cV X (.type "tuple") (fun xs H Q=>∃p ys,xs=[.ref p]/\((SqL X.K H p ys/\∀l,H l=none->Q (.ref l) (upd H l (.tup ys)))∨(SqT X.K H p ys/\Q (.ref p) H))):=by
 intro aa s σ H xs us Q I r h;obtain⟨p,ys,rfl,h⟩:=h;obtain⟨u,rfl,rx⟩:=ue r;cases rx;rcases h with⟨hq,q⟩|⟨hq,q⟩
 ·obtain⟨its,r',pl,hz⟩:=I.list hq;have bD:=r'.length;refine call_tuple_list pl.isList (fun h' kp=>?_) (by simp only[I0]<;>lia);have I1:Inv X aa σ H { s with heap:=h' }:=I.kept (t':=s.toks) kp;have I2:Inv X aa σ (upd H h'.objs.size (.tup ys)) { s with heap:=h'.push { cls:=.type "tuple",data:=.seq its.toArray } } :=
   I1.laid (t':=s.toks) (fun b o e=>J0 _ e) (J7 _) (show bq X.prog X.w _ _ _ (.tup ys)from⟨hz,its,r',mB.new _ _⟩)
  exact⟨.ref h'.objs.size,_,I2,rfl,q _ (I1.hok.fresh (J7 _))⟩
 ·obtain⟨its,r',pl,hz⟩:=I.tuple hq;exact call_tuple_same pl ⟨.ref p,H,I,rfl,q⟩
def tyV(K:o0) (T:String) (x:V) (H:Hp):Prop:=match x with
 |.str _=>T="str"
 |.int _=>T="int"
 | .ref p => (T = "list" ∧ ∃ xs,SqL K H p xs) ∨ (T = "tuple" ∧ ∃ o,K.lookup p = some o ∧ o.cls = .type "tuple" ∧ o.dict = none) ∨
   (T="dict"/\((∃kvs,H p=some (.dK kvs))∨∃kvs,H p=some (.dT kvs)))∨(T="set"/\∃S n,H p=some (.set S n))
 |_=>False
theorem Ct{aa:List (J5×Obj)}{σ:St}{H:Hp}{s:v0}{T:String}{x:V}{v:u8}(I:Inv X aa σ H s) (r:aA x v) (ty:tyV X.K T x H) :
  s.TypeIs v T/\∀a,v=.ref a->∃ob,s.heap.get? a=some ob/\ob.dict=none:=by
 cases x with
 |str z =>
  obtain⟨t,rfl⟩:=r;cases(show T="str" from ty);exact⟨typeIs_str s z t,fun _ e=>nomatch e⟩
 |int i =>
  obtain⟨t,rfl⟩:=r;cases(show T="int" from ty);exact⟨X9 s i t,fun _ e=>nomatch e⟩
 |ref p =>
  cases r;rcases ty with⟨rfl,xs,hq⟩|⟨rfl,o,hk,hc,hd⟩|⟨rfl,hk⟩|⟨rfl,S,n,hk⟩
  ·obtain⟨its,_,pl,_⟩:=I.list hq;refine⟨pl.isList.typeIs,fun a e=>?_⟩;cases e;obtain⟨o,n,e,c,hd,_⟩:=pl;exact⟨o,e,hd⟩
  ·refine⟨⟨o,I.kIn p o hk,hc⟩,fun a e=>?_⟩;cases e;exact⟨o,I.kIn _ o hk,hd⟩
  ·have z:∃o,s.heap.get? p=some o/\o.ExactDict:=by
    rcases hk with⟨kvs,hk⟩|⟨kvs,hk⟩
    ·obtain⟨_,_,_,_,o,_,_,e,ex,_⟩:=I.hok p _ hk;exact⟨o,e,ex⟩
    ·obtain⟨_,_,_,_,o,_,_,e,ex,_⟩:=I.hok p _ hk;exact⟨o,e,ex⟩
   obtain⟨o,e,ex⟩:=z;refine⟨⟨o,e,ex.1⟩,fun a e2=>?_⟩;cases e2;exact⟨o,e,ex.2.1⟩
  ·obtain⟨o,_,_,_,e,ex,_⟩:=I.hok p _ hk;refine⟨⟨o,e,ex.1⟩,fun a e2=>?_⟩;cases e2;exact⟨o,e,ex.2.1⟩
 |_=>exact P7 ty
def tBM(K:o0) (T:String) (r:V->List V->Hp->VK->Prop) (to:TE) (t:TA):TE:=fun σ H Q=>to σ H fun x H1=>tyV K T x H1/\t σ H1 fun xs H2=>r x xs H2 Q
variable{o e:K1}{es:List K1}{to:TE}{t:TA}{name:Str}{iE cz:Pos}{T id:String}{r:V->List V->Hp->VK->Prop}
theorem Bf(pa:PlainAttrs T) (slot:Slot T name id) (hty:typeOf (.builtin id)=W0 (.type "method_descriptor")) (hm:MtR X id r) (ho:PE X o to) (ha:PA X (e::es) t)
  (jv:W9 o name X.env (U7 o X.env)=U7 o X.env:=by rfl)
  (ya:((S9 cz (J8 (e :: es) X.env)).all (fun x => !x.1) && (backToKw cz (Z4 [] X.env)).all (fun x => x.1.isSome)
  &&decide ((e::es).length+([]:List X5).length+(if([]:List X5).isEmpty then 0 else 1)<30))=true:=by rfl)
  (rf:(iE.endLine==cz.line)=true:=by rfl) (hs:J8 (e::es) X.env=(false,U7 e X.env)::J8 es X.env:=by rfl) (k8:(S9 cz (J8 es X.env)).any (·.1)=false:=by rfl) :
  PE X (.Call (.Attribute o name iE) (e::es) [] cz) (tBM X.K T r to t):=by
 intro aa s σ H Q I h;refine wpAny_Call_method_late jv ya rf rfl (thn (ho aa s σ H _ I h) fun v s1 ⟨x,H1,I1,r1,ty,q1⟩=>?_);obtain⟨h1,h2⟩:=Ct I1 r1 ty;refine⟨T,id,pa,slot,hty,h1,h2,?_⟩;have hA:=ha cz aa s1 σ H1 _ I1 q1;rw[hs]at hA ⊢;refine Calls.callWith_builtin (by show(false || (S9 cz (J8 es X.env)).any (·.1))=false;rw[k8]<;>rfl) (Calls.evalArgs_plain ?_);exact thn hA fun us s2 hup=>hup.el fun vs H2 I2 r2 q2=>hm aa s2 σ H2 x vs v us Q I2 r1 r2 q2
end
def MtM(X:Cx) (id:String) (r:V->List V->Hp->VK->Prop):Prop :=
 ∀(aa:List (J5×Obj)) (s:v0) (σ:St) (H:Hp) (x:V) (xs:List V) (v:u8) (us:List u8) (Q:VK),Inv X aa σ H s->aA x v->ar xs us->r x xs H Q ->
  K4 (K5 X.prog X.w) X.A (call (.builtin id) (v::us)) (EP X aa σ Q) X.xe s
theorem ar.un{x:V}{xs:List V}{us:List u8}(h:ar (x::xs) us):∃u vs,us=u::vs/\aA x u/\ar xs vs:=by
 cases h with
 |cons r t=>exact⟨_,_,rfl,r,t⟩
theorem ar.one{x:V}{us:List u8}(h:ar [x] us):∃u,us=[u]/\aA x u:=by
 obtain⟨u,vs,rfl,r,t⟩:=h.un;cases t;exact⟨u,rfl,r⟩
theorem ar.two{x y:V}{us:List u8}(h:ar [x,y] us):∃u v,us=[u,v]/\aA x u/\aA y v:=by
 obtain⟨u,vs,rfl,r,t⟩:=h.un;obtain⟨v,rfl,q⟩:=t.one;exact⟨u,v,rfl,r,q⟩
theorem ar.rep{xs:List V}{us:List u8}(h:ar xs us):∀k:Nat,ar (J3 k xs).flatten (J3 k us).flatten
 |0=>.nil
 |k+1=>by
  rw[N3,N3,Q5,Q5];exact ar.append h (ar.rep h k)
theorem jB(its:List u8):∀(k:Nat) (acc:List u8),
  aa1 (fun x1 x2=>x1++x2) acc.toArray (J3 k its.toArray)=(acc++(J3 k its).flatten).toArray
 |0,acc=>by simp
 |k+1,acc=>by
  have e:acc.toArray++its.toArray=(acc++its).toArray:=by simp
  have e2:(acc++its)++(J3 k its).flatten=acc++(J3 (k+1) its).flatten:=by
   rw[N3,Q5,List.append_assoc]
  rw[<-e2,<-jB its k (acc++its),<-e,N3,List.foldl_cons]
section
variable{X:Cx}{aa:List (J5×Obj)}{σ:St}{H:Hp}{s:v0}{l b:J5}{xs ys zs:List V}
theorem Inv.lset{its its':List u8}{n:Nat}{f:Array u8->Array u8}{t':Nat}(I:Inv X aa σ H s) (hH:H l=some (.lst xs))
  (e:s.heap.get? l=some { cls:=.type "list",data:=.seq its.toArray n }) (hf:f its.toArray=its'.toArray) (hv:ar ys its') (hz:ys.length<=H0) :
  Inv X aa σ (upd H l (.lst ys)) { s with heap:=s.heap.update l (Obj.mapSeq f),toks:=t' }:=by
 have q:=PySem.IsL.update e f;rw[hf]at q;refine I.write (x:=l) (e:=l) (by rw[hH];exact trivial) (.inl rfl) (fun b' u hb hu=>(L6.get?_update_other s.heap (Obj.mapSeq f) (aa0 hb)).trans hu) ⟨_,q⟩ ?_;exact⟨hz,its',_,hv,q⟩
theorem Inv.lnew{its:List u8}{t':Nat}(I:Inv X aa σ H s) (hv:ar ys its) (hz:ys.length<=H0) :
  Inv X aa σ (upd H s.heap.objs.size (.lst ys)) { s with heap:=s.heap.push { cls:=.type "list",data:=.seq its.toArray },toks:=t' } :=
 I.laid (fun _ _ q=>J0 _ q) (J7 _) ⟨hz,its,0,hv,K3 _ rfl⟩
theorem Inv.fresh(I:Inv X aa σ H s):H s.heap.objs.size=none:=I.hok.fresh (J7 _)
theorem Inv.lstM(I:Inv X aa σ H s) (hH:H l=some (.lst xs)):xs.length<=H0/\∃(its:List u8) (n:Nat),ar xs its/\xs.length=its.length/\s.heap.get? l=some { cls:=.type "list",data:=.seq its.toArray n }:=by
 obtain⟨z,its,n,r,e⟩:=I.hok l _ hH;exact⟨z,its,n,r,r.length,e⟩
theorem qg{n:Nat}(h:n<=H0):Q6 n=false:=by
 unfold Q6;exact decide_eq_false (by lia)
end
section
variable{X:Cx}
def ug:V->List V->Hp->VK->Prop:=fun x vs H Q=>∃l xs y,x=.ref l/\vs=[y]/\H l=some (.lst xs)/\xs.length<H0/\Q .non (upd H l (.lst (xs++[y])))
theorem vH:MtM X "list.append" ug:=by
 intro aa s σ H x vs v us Q I rx rv h;obtain⟨l,xs,y,rfl,rfl,hH,hz,q⟩:=h;cases rx;obtain⟨u,rfl,ru⟩:=rv.one;obtain⟨z,its,n,r,hl,e⟩:=I.lstM hH;refine W4 F.slot_list_append ⟨_,e,rfl⟩ F.entry_list_append (F.args_list_append_2 _ _) (PySem.list_append l its.toArray n u (by rw[I0];lia)) ⟨e,?_⟩;refine⟨.non,_,I.lset (its':=its++[u]) hH e (by simp) (r.append (.cons ru .nil)) ?_,rfl,q⟩;rw[L9,List.length_singleton]
 lia
def tZ:V->List V->Hp->VK->Prop:=fun x vs H Q=>∃l b xs zs,x=.ref l/\vs=[.ref b]/\H l=some (.lst xs)/\H b=some (.lst zs)/\xs.length+zs.length<=H0/\Q .non (upd H l (.lst (xs++zs)))
theorem uP:MtM X "list.extend" tZ:=by
 intro aa s σ H x vs v us Q I rx rv h;obtain⟨l,b,xs,zs,rfl,rfl,hH,hB,hz,q⟩:=h;cases rx;obtain⟨u,rfl,ru⟩:=rv.one;cases ru;obtain⟨z,its,n,r,hl,e⟩:=I.lstM hH;obtain⟨z2,its2,n2,r2,hl2,e2⟩:=I.lstM hB;have hsz:its.toArray.size+its2.toArray.size<=H0:=by rw[I0,I0];lia
 have hlong:¬ (!its.toArray.isEmpty&&Q6 (its.toArray.size+its2.toArray.size))=true:=by
  rw[qg hsz,Bool.and_false];exact L8
 refine W4 F.slot_list_extend ⟨_,e,rfl⟩ F.entry_list_extend (F.args_list_extend_2 _ _)
  (AutoSeq1.list_extend_list_list_0 l its.toArray n b its2.toArray n2 hlong (by rw[I0];lia) (by lia)) ⟨e,e2,?_⟩
 refine⟨.non,_,I.lset (its':=its++its2) hH e (by simp) (r.append r2) ?_,rfl,q⟩;rw[L9]
 lia
def FV:R2:=fun x y H Q=>∃l b xs zs,x=.ref l/\y=.ref b/\H l=some (.lst xs)/\H b=some (.lst zs)/\xs.length+zs.length<=H0/\∀p,H p=none->Q (.ref p) (upd H p (.lst (xs++zs)))
theorem Cf:OpR X (O2 .Add) FV:=by
 intro aa s σ H x y v u Q I rx ry h;obtain⟨l,b,xs,zs,rfl,rfl,hH,hB,hz,q⟩:=h;cases rx;cases ry;obtain⟨z,its,n,r,hl,e⟩:=I.lstM hH;obtain⟨z2,its2,n2,r2,hl2,e2⟩:=I.lstM hB;refine PySem.P.add_list e e2 ?_ (by rw[I0,I0];lia);have ea:its.toArray++its2.toArray=(its++its2).toArray:=by simp
 rw[ea];exact⟨.ref _,_,I.lnew (t':=s.toks) (r.append r2) (by rw[L9];lia),rfl,q _ I.fresh⟩
def GM:R2:=fun x y H Q=>∃l k xs,x=.ref l/\y=.int k/\H l=some (.lst xs)/\-(2 ^ 63)<=k/\k<2 ^ 63/\xs.length*k.toNat<=H0 /\
 ∀p,H p=none->Q (.ref p) (upd H p (.lst (J3 k.toNat xs).flatten))
theorem pI{α:Type}(xs:List α) (k:Nat):(J3 k xs).flatten.length=k*xs.length:=by
 induction k with
 |zero=>simp
 |succ k ih=>rw[N3,Q5,L9,ih,Nat.succ_mul,Nat.add_comm]
theorem BL:OpR X (O2 .Mult) GM:=by
 intro aa s σ H x y v u Q I rx ry h;obtain⟨l,k,xs,rfl,rfl,hH,h1,h2,hz,q⟩:=h;cases rx;obtain⟨t,rfl⟩:=ry;obtain⟨z,its,n,r,hl,e⟩:=I.lstM hH;have bD:its.toArray.size*k.toNat<=H0:=by rw[I0,<-hl];exact hz
 have hcap:¬ its.toArray.size*k.toNat > (2 ^ 63-1) / 8:=by
  have:(H0:Nat)<=(2 ^ 63-1) / 8:=by decide
  lia
 have hfit:¬ (!Builtin.List.listFitsIndex k)=true:=by
  rw[fitsIndex_both h1 h2];exact L8
 have hlong:¬ Q6 (its.toArray.size*k.toNat)=true:=by
  rw[qg bD];exact L8
 have hnew:aa1 (fun x1 x2=>x1++x2) #[] (J3 (if its.toArray.isEmpty=true then 0 else k.toNat) its.toArray)=(J3 k.toNat its).flatten.toArray:=by
  have f0:∀m:Nat,aa1 (fun x1 x2=>x1++x2) #[] (J3 m its.toArray)=(J3 m its).flatten.toArray:=fun m=>by
   have:=jB its m [];rw[List.nil_append]at this;exact this
  rw[f0];cases its with
  |nil=>simp
  |cons a r'=>rw[if_neg (by simp)]
 refine wpAny_binaryOp_repeat_ref (T:="list") (U:="int") (by decide) ⟨_,e,rfl⟩ (fun s'=>X9 s' k t) noFill_list_mul F.fills_int_mul V5 repeat_list F.slot_int_index.lookup
  (W4 V5 (X9 s k t) F.entry_int_rmul (F.args_int_rmul_2 _ _) (int___rmul___int_list k t l its.toArray n)
   ⟨e,rfl,⟨_,e,rfl⟩,W4 F.slot_list_mul ⟨_,e,rfl⟩ F.entry_list_mul (F.args_list_mul_2 _ _) (AutoListH.list___mul___list_int_3 l its.toArray n k t hfit hcap hlong) ⟨e,?_⟩⟩)
 rw[hnew];exact⟨.ref _,_,I.lnew (t':=s.toks) (r.rep k.toNat) (by rw[pI,Nat.mul_comm];exact hz),rfl,q _ I.fresh⟩
end
end L2
namespace Att
open PySem PySem.W PySem.Calls PyProof.Rows
theorem kE{P:Params}{h:L6}:∀(ns:List Int) (vs:List u8),WellAll P h vs (ns.map WData.int)->IntsAre vs ns:=by
 intro ns
 induction ns with
 |nil =>
  intro vs w;rw[List.map_nil]at w;cases w;exact .nil
 |cons n ns ih =>
  intro vs w;rw[O0]at w;cases w with
  |cons a b =>
   cases a;exact .cons _ _ (ih _ b)
theorem vB{l:OpenLaw}{n:Nat}(hn:l.most=some n) {P:Params}{h:L6}{args:List WData}{vals:List u8}
  (hpre:l.row.toRowW.claim.pre args=true) (hwl:WellAll P h vals args) :
  ∃a vs ns,vals=[X1 a]/\args=[WData.list (ns.map WData.int)]/\h.get? a=some { cls:=.type "list",data:=.seq vs.toArray }/\IntsAre vs ns/\ns.length<=n:=by
 have hsh:WShape.hasAll [] args [.list .int]=true:=(pre_splitW hpre).1;have hc:l.pre.holds [] { args:=args }=true:=(pre_splitW hpre).2;obtain⟨d,r,rfl,h1,h2⟩:=hasAllW_cons hsh;obtain rfl:=hasAllW_nil h2;obtain⟨xs,rfl,h3⟩:=hasW_list h1;obtain⟨ns,rfl⟩:=items_int h3;have bD:ns.length<=n:=by
  unfold OpenLaw.pre at hc;have h4:(WTm.not (.lt (.lit (.int (n:Int))) (.len (.arg 0)))).holds [] { args:=[.list (ns.map .int)] }=true:=by
   have h4:=(holds_andW hc).1;rw[hn]at h4;exact h4
  have h5:=condW_of h4 (w_not (w_lt w_lit (w_len_list (w_arg rfl))));rw[T7]at h5;refine Nat.le_of_not_lt fun q=>?_;have q':(n:Int)<((ns.length:Nat):Int):=by lia
  first
   |(rw[decide_eq_true q']at h5;exact absurd h5 (by decide))
   |(simp at h5;lia)
 cases hwl with
 |cons w1 w2 =>
  cases w2;cases w1 with
  |list ho hall=>exact⟨_,_,ns,rfl,rfl,ho,kE ns _ hall,bD⟩
theorem vh(l:OpenLaw) (args:List WData):l.row.toRowW.claim.post args (.bool true) args=true :=
 postW_of (r:=l.row.toRowW) (X:=(true==true))
  (show WShape.has [] (.bool true) .bool=true by first|rfl|decide|simp[WShape.has,WShape.arms,WShape.armsAll])
  (show(WTm.eq .res (.lit (.bool true))).value [] { args:=args,res:=some (.bool true),after:=args }=some (.bool (true==true))from w_eq_bool (w_res rfl) w_lit) rfl
theorem attach_call{l:OpenLaw}{n:Nat}{q:K6}{loose:List Str}{XP:(Str->Option u8)->L6->Prop}{YP:O3->L6->Prop}{d:DefRec}
  (hn:l.most=some n) (hdf:d.params.defaults=[])
  (call:∀ (w:O3) (s₀ s₁:v0) (mg mb:Str → Option u8) (fa:J5) (o:Obj) (pm cd doc:u8) (a:J5) (vs:List u8) (ns:List Int),
   Ground q loose [] XP w s₀ mg mb s₁.heap->YP w s₁.heap ->
   s₁.heap.get? fa=some o->o.data=.func (docDef d.name d.params d.body d.scope pm cd doc)->s₁.heap.CodeRec cd d.name->mg d.name=some (.ref fa) ->
   s₁.heap.get? a=some { cls:=.type "list",data:=.seq vs.toArray }->IntsAre vs ns->ns.length<=n->s₁.gens=#[] ->
   V3 (K5 l.prog w) Z5 (.call (.ref fa) ⟨[.ref a],[]⟩) (fun r s'=>r=.ok (.ret (.bool true))/\OldK s₁.heap s'.heap/\s'.os=s₁.os/\W6 s'.gens) s₁) :
  WalkO q loose XP YP l.row.toRowW d [] (fun f vs=>PySem.call f vs):=by
 intro w s₀ s₁ mg mb G Y fa o pm cd doc dV kV ho hd hcd hD hmg hg args vals as hpre hlay hrd hwl hlo;obtain rfl:dV=.none:=Dflts.none hD hdf;obtain rfl:kV=.none:=Dflts.noKw hD;obtain⟨a,vs,ns,rfl,rfl,hobj,hints,bD⟩:=vB hn hpre hwl;refine enter_call (V9 (call w s₀ s₁ mg mb fa o pm cd doc a vs ns G Y ho (fd_plain hd) hcd hmg hobj hints bD hg) fun r s' hq=>?_);obtain⟨rfl,h2,h3,h4⟩:=hq;exact⟨.inl ⟨.bool true,.bool true,[],rfl,fun _=>rfl,.bool true,vh l _,fun _=>⟨List.Pairwise.nil,fun _ hm=>(nomatch hm)⟩⟩,h2,h3,h4⟩
section
variable{prog:K6}{w:O3}{A:N6}{E:u8->v0->Prop}{s:v0}{K:Frag}
end
end Att
namespace L2
open PySem PySem.Spec PyProof.Rows
theorem nU:∀{vs:List u8}{ns:List Int},IntsAre vs ns->ar (ns.map V.int) vs
 |_,_,.nil=>.nil
 |_,_,.cons n t h=>.cons ⟨t,rfl⟩ (nU h)
def zU(H:Hp):Prop:=∀b,H b=none∨∃o xs,H b=some (.frz o (.lst xs))
theorem xK{P:K6}{w:O3}{K:o0}{mg mb:Str->Option u8}{CX:CXT}{k:Nat}{fa a:J5}{fd:P6}{x:Str}{sp:Sp}{s₁:v0}{vs:List u8}{ns:List Int}
  (KX:K.In s₁.heap) (hns:s₁.heap.Ns R0 mg) (hb:s₁.heap.Ns builtinsNs mb) (hbb:∀x:Str,x≠"__name__"->mb x=Q8 x) (hlim:s₁.heap.NoLimit) (hg:s₁.gens=#[])
  (ha:s₁.heap.get? a=some { cls:=.type "list",data:=.seq vs.toArray }) (hi:IntsAre vs ns) (hl:ns.length<=H0) (hr:cw k Z5)
  (F:∀base:L6,K.In base->base.Ns R0 mg->aQ P w K mg base CX k fa fd [x] sp) (hbind:∀(s:v0) (u:u8),ab0 s fd ⟨[u],[]⟩ [(x,u)])
  (hsp:∀H:Hp,zU H->SqL K H a (ns.map V.int)->sp [.ref a] H (fun v _=>v=.bl true) fun _ _ _=>False)
  (hCX:∀H e s',CX [] H s₁ (fun _ _ _=>False) e s'->False) :
  V3 (K5 P w) Z5 (.call (.ref fa) ⟨[.ref a],[]⟩) (fun r s'=>r=.ok (.ret (.bool true))/\OldK s₁.heap s'.heap/\s'.os=s₁.os/\W6 s'.gens) s₁:=by
 have rv:=nU hi;have lenV:=hi.length
 -- from an abstract heap in which nothing but the script may be tracked
 have core:∀H:Hp,zU H->SqL K H a (ns.map V.int)->HOk P w H s₁.heap->(∀b,H b≠none->b=a)->(H a≠none->K.lookup a=none) ->
   V3 (K5 P w) Z5 (.call (.ref fa) ⟨[.ref a],[]⟩) (fun r s'=>r=.ok (.ret (.bool true))/\OldK s₁.heap s'.heap/\s'.os=s₁.os/\W6 s'.gens) s₁:=by
  intro H hO hS hok hA hK;have base_of:∀{b:J5} {o:Obj},s₁.heap.get? b=some o->H b=none->(oJ s₁.heap H).get? b=some o:=fun e n=>wJ e n;have noA:∀{b:J5} {o:Obj} {es:Array DictEntry} {ep:Nat},s₁.heap.get? b=some o->o.data=.dict es ep->H b=none:=fun {b o es ep} e d=>by
   cases q:H b with
   |none=>rfl
   |some u =>
    have e':b=a:=hA b (by rw[q];simp);subst e';rw[ha]at e;cases e;have d':Data.seq vs.toArray _=Data.dict es ep:=d;cases d'
  have nsK:∀{b:J5} {m:Str->Option u8},s₁.heap.Ns b m->(oJ s₁.heap H).Ns b m:=fun {b m} ⟨o,es,ep,e,d,r⟩=>⟨o,es,ep,base_of e (noA e d),d,r⟩;have hKb:K.In (oJ s₁.heap H):=fun b o e=>base_of (KX b o e) (by
   cases q:H b with
   |none=>rfl
   |some u =>
    have e':b=a:=hA b (by rw[q];simp);subst e';rw[hK (by rw[q];simp)]at e;cases e)
  have hM:Mod K mg (oJ s₁.heap H):=⟨hKb,nsK hns,⟨mb,nsK hb,hbb⟩,let⟨mc,h1,h2⟩:=hlim;⟨mc,nsK h1,h2⟩⟩;have e0:zl P w K mg (oJ s₁.heap H) Z5 [] s₁ H:=⟨rfl,hM,fun b o e=>zI e,Nat.le_of_eq (vG _ _),trivial,fun b hb=>absurd (show b∈([]:List J5)from hb) (by simp),hok,.of_eq hg⟩;refine V9 ((F _ hKb (nsK hns)).run Z5 [] s₁ H ⟨[.ref a],[]⟩ [.ref a] [.ref a] _ _ hr e0 (hbind s₁ (.ref a)) (.cons rfl .nil) (hsp H hO hS)) fun r s' h=>?_;cases r with
  |error e=>exact(hCX H e s' h).elim
  |ok fl =>
   cases fl with
   |next=>exact P7 h
   |brk=>exact P7 h
   |cont=>exact P7 h
   |ret u =>
    obtain⟨v,H',os,bare,un,hok',r',q⟩:=h;have q':v=.bl true:=q;subst q';obtain rfl:u=u8.bool true:=r';refine⟨rfl,OldK.of_keep fun b o e=>?_,os,bare⟩;cases q:H b with
    |none=>exact un.keep b o e q (by intro z;exact absurd (show b∈([]:List J5)from z) (by simp)) (by simp)
    |some u =>
     rcases hO b with z|⟨ob,xs,z⟩
     ·rw[q]at z;cases z
     ·have z2:=un.frzs b ob _ z;obtain⟨e1,_⟩:=hok b _ z;obtain⟨e2,_⟩:=hok' b _ z2;rw[e]at e1;cases e1;exact e2
 cases hk:K.lookup a with
 |some o =>
  -- the script is one of the module's own objects
  have e:=KX a o hk;rw[ha]at e;cases e;refine core (fun _=>none) (fun _=>.inl rfl) (.inr ⟨_,vs.toArray,_,hk,rfl,rfl,rfl,by rw[I0,lenV];exact hl,by simpa using rv⟩) (fun b u z=>by have z':(none:Option HO)=some u:=z;cases z') (fun b z=>absurd rfl z) fun z=>absurd rfl z
 |none =>
  refine core (fun b=>if b=a then some (.frz { cls:=.type "list",data:=.seq vs.toArray } (.lst (ns.map V.int)))else none) (fun b=>?_) (.inl (.inr ⟨{ cls:=.type "list",data:=.seq vs.toArray },if_pos rfl⟩)) (fun b u z=>?_) (fun b z=>?_) fun _=>hk
  ·by_cases hb:b=a
   ·exact .inr ⟨_,_,if_pos hb⟩
   ·exact .inl (if_neg hb)
  ·by_cases hb:b=a
   ·have z':=(if_pos hb).symm.trans z;cases z';subst hb;exact⟨ha,by rw[T7];exact hl,vs,_,rv,ha⟩
   ·have z':=(if_neg hb).symm.trans z;cases z'
  ·by_cases hb:b=a
   ·exact hb
   ·exact absurd (if_neg hb) z
theorem ud{l:PySem.W.OpenLaw}{n k:Nat}{q:K6}{loose:List Str}{XP:(Str->Option u8)->L6->Prop}{YP:O3->L6->Prop}{d:DefRec}{K:Params->o0}{CX:O3->CXT}{sp:O3->Sp}{x:Str}
  (hn:l.most=some n) (hn2:n<=H0) (hdf:d.params.defaults=[]) (hr:cw k Z5)
  (hY:∀(w:O3) (h:L6),YP w h->(K w.params).In h)
  (F:∀ (w:O3) (mg:Str → Option u8) (fa:J5) (h:L6),(K w.params).In h → h.Ns R0 mg → mg d.name = some (.ref fa) →
   ∃fd:P6,(∀(s:v0) (u:u8),ab0 s fd ⟨[u],[]⟩ [(x,u)]) /\
    ∀base:L6,(K w.params).In base->base.Ns R0 mg->aQ l.prog w (K w.params) mg base (CX w) k fa fd [x] (sp w))
  (hsp:∀(w:O3) (H:Hp) (a:J5) (ns:List Int),ns.length<=n->zU H->SqL (K w.params) H a (ns.map V.int)->sp w [.ref a] H (fun v _=>v=.bl true) fun _ _ _=>False)
  (hCX:∀(w:O3) (H:Hp) (s:v0) (e:u8) (s':v0),CX w [] H s (fun _ _ _=>False) e s'->False) :
  PySem.W.WalkO q loose XP YP l.row.toRowW d [] (fun f vs=>PySem.call f vs):=by
 refine Att.attach_call hn hdf fun w s₀ s₁ mg mb fa o pm cd doc a vs ns G Y ho hd hcd hmg hobj hints bD hg=>?_;have KX:=hY w _ Y;obtain⟨fd,hb,hF⟩:=F w mg fa _ KX G.T.g hmg;exact xK KX G.T.g G.T.b G.T.builtins G.T.nolimit hg hobj hints (N0 bD hn2) hr hF hb (fun H hO hS=>hsp w H a ns bD hO hS) fun H e s'=>hCX w H s₁ e s'
end L2
/- THE LAST THEOREM (shape; LID,My.* are yours):
   My.Adr: a structure of the addresses that your layer names (classes,functions);My.Txt K t: a structure (Prop) of the equations over K;
   My.txt_mk:{K} {implicit addresses ..} (e1:nsIn K R0 "law"=some (some (.ref f))) (e2:K.lookup f=some ⟨oc,od,.func (fnOf "law" "law" params body scope dV kV doc pm an cdv ct),sl⟩) (e3:codeIn K cdv "law"=true) ..:∃t,My.Txt K t
set_option maxRecDepth 100000 in
set_option maxHeartbeats 0 in
theorem PySem.Challenge.cw_LID_holds : PySem.Challenge.rw_LID.Holds := by
 w_on;o_law;k_head;(case hw=>w_witness2)
 k_fill
 refine L2.ud (l:=PySem.Challenge.rw_LID) (n:=63) (k:=40) (x:="script") (CX:=fun w=>..) (sp:=fun _=>My.sp_law) rfl (by decide) rfl ⟨rfl,by decide,by decide⟩ (fun w h Y=>PySem.W.kIn_of Y) ?F ?S ?C
 case F =>
  intro w mg fa h KX G hmg;have T:∃t,My.Txt (L2.KOf KX) t:=by
   dsimp only[L2.KOf]                          -- K must stand as «<heap const> w.params» for k_is
   refine' My.txt_mk ?e1 ?e2 ?e3 ..
   (case e1=>PySem.W.k_is)                    -- in the order: a name->its address->its object->its parts
   (case e2=>PySem.W.k_is)
   ..
  obtain⟨t,T⟩:=T;have e0:=hmg.symm.trans (PySem.W.mg_of KX G T.law);cases e0                                       -- fa is the law's own address;exact⟨_,fun s u=>.of_eq rfl,fun base kb nb=>My.law_fn T kb nb⟩     -- if «.of_eq rfl» comes too early: refine' ⟨_,?b,fun base kb nb=>My.law_fn T kb nb⟩;exact fun s u=>.of_eq rfl
 case S=>exact fun w H a ns hl hO hS=>..
 case C=>exact ..
(the tactic k_is has no namespace: write k_is) -/
namespace L2
open PySem PySem.Spec PyProof.Rows
def fb(s:X8):Arguments:=match s with
 |.FunctionDef _ a _ _ _ _ _ _ _ _=>a
 |_=>{ posonlyargs:=[],args:=[],vararg:=none,kwonlyargs:=[],kw_defaults:=[],kwarg:=none,defaults:=[] }
def cx(s:X8):List X8:=match s with
 |.FunctionDef _ _ b _ _ _ _ _ _ _=>b
 |_=>[]
def ag(s:X8):S7:=match s with
 |.FunctionDef _ _ _ _ _ _ sc _ _ _=>sc
 |_=>{ kind:=.function,names:=[],isGenerator:=false,isCoroutine:=false }
abbrev CX0:CXT:=fun _ _ _ _ _ _=>False
abbrev E0:XK:=fun _ _ _=>False
theorem ET{X:Cx}:lw CX0 X E0:=fun _ _ _ _ _ _ _ h=>h.elim
structure Fun(K:o0) (x qual:Str) (st:X8) (f:J5) (fd:P6):Prop where
 ex:∃(oc:u8) (od:Option J5) (kV doc pm:u8) (an:Option J5) (cdv ct:u8) (osl:Array (Option u8)),
  fd=U6 x qual (fb st) (cx st) (ag st) .none kV doc pm an cdv ct/\K.lookup f=some ⟨oc,od,.func fd,osl⟩/\PySem.W.codeIn K cdv qual=true
 kp:S0 K (.ref f)=true
section
variable{P:K6}{w:O3}{K:o0}{mg:Str->Option u8}{base:L6}{f:J5}{fd:P6}
theorem Fun.ok{x qual:Str}{st:X8}{f:J5}{fd:P6}{N ps:List Str}{k:Nat}{sp:Sp}(F:Fun K x qual st f fd) (S:aq N ps (ag st)) (len:∀vs H Q E,sp vs H Q E->vs.length=ps.length)
  (hbody:∀ (cdv:u8) (A:N6) (outer:List Env) (s:v0) (H:Hp) (vs:List V) (Q:VK) (E:XK),cw k (A.deeper (Z8 qual (ag st) s.heap.objs.size f cdv)) → sp vs H Q E →
   ∃t,PSs (iK CX0 P w K mg base N qual (ag st) f cdv A outer s H E).nox (cx st) t/\t { nx:=fun _ H'=>Q .non H',rt:=Q } (fw N vs) H):aQ P w K mg base CX0 (k+1) f fd ps sp:=by
 obtain⟨oc,od,kV,doc,pm,an,cdv,ct,osl,rfl,lk,hcd⟩:=F.ex;refine AY lk hcd S len fun A outer s H vs Q E hr hsp=>?_;obtain⟨t,h,q⟩:=hbody cdv A outer s H vs Q E hr hsp;exact⟨t,h.nox,q⟩
theorem Fun.binds{x qual:Str}{st:X8}{f:J5}{fd:P6}{ps:List Str}(F:Fun K x qual st f fd)
  (h:∀(kV doc pm:u8) (an:Option J5) (cdv ct:u8) (us:List u8),us.length=ps.length->bindArgs (U6 x qual (fb st) (cx st) (ag st) .none kV doc pm an cdv ct) ⟨us,[]⟩=W0 (ps.zip us)):c9 K fd ps []:=by
 obtain⟨oc,od,kV,doc,pm,an,cdv,ct,osl,rfl,lk,hcd⟩:=F.ex;exact .all (h kV doc pm an cdv ct)
theorem vZ{x qual:Str}{st:X8}{f:J5}{oc:u8}{od an:Option J5}{osl:Array (Option u8)}{kV doc pm cdv ct:u8}(l:K.lookup f=some ⟨oc,od,.func (U6 x qual (fb st) (cx st) (ag st) .none kV doc pm an cdv ct),osl⟩)
  (c:PySem.W.codeIn K cdv qual=true) (k:S0 K (.ref f)=true):Fun K x qual st f (U6 x qual (fb st) (cx st) (ag st) .none kV doc pm an cdv ct):=⟨⟨oc,od,kV,doc,pm,an,cdv,ct,osl,rfl,l,c⟩,k⟩
end
theorem vi{n:Nat}(h:n<=1000):n<H0:=Nat.lt_of_le_of_lt h (by decide)
theorem fK{c A B:Prop} [Decidable c] (h1:c->A) (h2:¬ c->B):if c then A else B:=by
 by_cases h:c
 ·rw[if_pos h];exact h1 h
 ·rw[if_neg h];exact h2 h
def vm(H H':Hp):Prop:=∀b o,H b=some o->H' b=some o
theorem vm.refl(H:Hp):vm H H:=fun _ _ h=>h
theorem vm.trans{H H1 H2:Hp}(a:vm H H1) (b:vm H1 H2):vm H H2:=fun c o h=>b c o (a c o h)
section
variable{κ:Type} [DecidableEq κ]
noncomputable def iJ(kvs:List (κ×V)) (k:κ):Option V:=(kvs.find? fun kv=>decide (kv.1=k)).map (·.2)
noncomputable def ix(kvs:List (κ×V)) (k:κ) (v:V):List (κ×V) :=
 if(kvs.any fun kv=>decide (kv.1=k))=true then kvs.map (fun kv=>if kv.1=k then(kv.1,v)else kv)else kvs++[(k,v)]
def GO(kvs:List (κ×V)) (k:κ):List (κ×V):=kvs.filter fun kv=>decide (kv.1≠k)
theorem iS{p:κ×V}{r:List (κ×V)}{k:κ}(e:p.1=k):iJ (p::r) k=some p.2:=by simp[iJ,P0,e]
theorem iF{p:κ×V}{r:List (κ×V)}{k:κ}(e:¬ p.1=k):iJ (p::r) k=iJ r k:=by simp[iJ,P0,e]
theorem rq(k:κ):∀kvs:List (κ×V),(kvs.any fun kv=>decide (kv.1=k))=(iJ kvs k).isSome
 |[]=>rfl
 |p::r=>by
  rw[O5]
  by_cases e:p.1=k
  ·simp only[iS e,decide_eq_true e,Bool.true_or,Option.isSome_some]
  ·rw[iF e,decide_eq_false e,Bool.false_or];exact rq k r
theorem jW(kvs:List (κ×V)) (k:κ) (v:V):(ix kvs k v).length<=kvs.length+1:=by
 unfold ix
 split
 ·rw[T7];lia
 ·rw[L9,U8,List.length_nil];lia
theorem kG.isSome_eq{o:Option V}{u:Option u8}(r:kG o u):o.isSome=u.isSome:=by
 cases o with
 |none=>cases u with
  |none=>rfl
  |some _=>exact(show False from r).elim
 |some _=>cases u with
  |none=>exact(show False from r).elim
  |some _=>rfl
theorem kG.getD{o:Option V}{u:Option u8}{d:V}{d':u8}(r:kG o u) (rd:aA d d'):aA (o.getD d) (u.getD d'):=by
 cases o with
 |none=>cases u with
  |none=>exact rd
  |some _=>exact(show False from r).elim
 |some _=>cases u with
  |none=>exact(show False from r).elim
  |some _=>exact r
theorem KV.val{kvs:List (κ×V)}{vs:List (κ×u8)}(r:KV kvs vs) (k:κ):kG (iJ kvs k) (aa2 vs k):=by
 unfold KV at r
 induction r with
 |nil=>exact aa3
 |@cons p q ps qs h t ih =>
  obtain⟨h1,h2⟩:=h
  by_cases e:p.1=k
  ·have e':q.1=k:=h1.symm.trans e;have b:aa2 (q::qs) k=some q.2:=by simp[aa2,P0,e']
   rw[iS e,b];exact h2
  ·have e':¬ q.1=k:=fun z=>e (h1.trans z);have b:aa2 (q::qs) k=aa2 qs k:=by simp[aa2,P0,e']
   rw[iF e,b];exact ih
theorem KV.any{kvs:List (κ×V)}{vs:List (κ×u8)}(r:KV kvs vs) (k:κ):(kvs.any fun kv=>decide (kv.1=k))=vs.any fun kv=>decide (kv.1=k):=by
 unfold KV at r
 induction r with
 |nil=>rfl
 |cons h t ih=>rw[O5,O5,ih,h.1]
theorem KV.repl{kvs:List (κ×V)}{vs:List (κ×u8)}(r:KV kvs vs) (k:κ) {y:V}{u:u8}(ry:aA y u) :
  KV (kvs.map fun kv=>if kv.1=k then(kv.1,y)else kv) (vs.map fun kv=>if kv.1=k then(kv.1,u)else kv):=by
 unfold KV at r ⊢
 induction r with
 |nil=>exact .nil
 |@cons p q ps qs h t ih =>
  rw[O0,O0];refine .cons ?_ ih;obtain⟨h1,h2⟩:=h
  by_cases e:p.1=k
  ·rw[if_pos e,if_pos (h1.symm.trans e)];exact⟨h1,ry⟩
  ·rw[if_neg e,if_neg (fun z=>e (h1.trans z))];exact⟨h1,h2⟩
theorem KV.put{kvs:List (κ×V)}{vs:List (κ×u8)}(r:KV kvs vs) (k:κ) {y:V}{u:u8}(ry:aA y u):KV (ix kvs k y) (stored vs k u):=by
 unfold ix stored;rw[r.any k]
 by_cases e:(vs.any fun kv=>decide (kv.1=k))=true
 ·rw[if_pos e,if_pos e];exact r.repl k ry
 ·rw[if_neg e,if_neg e];exact P5.snoc r ⟨rfl,ry⟩
theorem KV.length{kvs:List (κ×V)}{vs:List (κ×u8)}(r:KV kvs vs):kvs.length=vs.length:=W5 r
end
theorem wR{P:K6}{w:O3}{k:Key}{u:u8}(r:aA (kV k) u):(bU P w).is k u=true:=by
 cases k with
 |inl i=>obtain⟨t,e⟩:=(show ∃t,u=u8.int i t from r);subst e;exact ri P w i t
 |inr x=>obtain⟨t,e⟩:=(show ∃t,u=u8.str x t from r);subst e;exact rD P w x t
theorem nR{P:K6}{w:O3}:∀{ks:List Key}{us:List u8},ar (ks.map kV) us->ItemsAre (bU P w) ks us
 |[],_,r=>by rw[List.map_nil]at r;cases r;exact .nil
 |k::ks,_,r=>by
  rw[O0]at r;cases r with
  |cons h t=>exact .cons (wR h) (nR t)
abbrev KT(H:Hp):List (List Key×V)->List (List Key×J5×u8)->Prop:=P5 fun p q=>p.1=q.1/\H q.2.1=some (.tup (p.1.map kV))/\aA p.2 q.2.2
theorem KT.val{H:Hp}{kvs:List (List Key×V)}{xs:List (List Key×J5×u8)}(r:KT H kvs xs) (k:List Key):kG (iJ kvs k) ((atKey xs k).map (·.2)):=by
 induction r with
 |nil=>exact aa3
 |@cons p q ps qs h t ih =>
  obtain⟨h1,_,h2⟩:=h
  by_cases e:p.1=k
  ·have e':q.1=k:=h1.symm.trans e;have b:atKey (q::qs) k=some q.2:=by simp[atKey,P0,e']
   rw[iS e,b];exact h2
  ·have e':¬ q.1=k:=fun z=>e (h1.trans z);have b:atKey (q::qs) k=atKey qs k:=by simp[atKey,P0,e']
   rw[iF e,b];exact ih
theorem KT.repl{H:Hp}{kvs:List (List Key×V)}{xs:List (List Key×J5×u8)}(r:KT H kvs xs) (k:List Key) {y:V}{u:u8}(ry:aA y u) :
  KT H (kvs.map fun kv=>if kv.1=k then(kv.1,y)else kv) (xs.map (putAt k u)):=by
 induction r with
 |nil=>exact .nil
 |@cons p q ps qs h t ih =>
  rw[O0,O0];refine .cons ?_ ih;obtain⟨h1,h2,h3⟩:=h;unfold putAt
  by_cases e:p.1=k
  ·rw[if_pos e,if_pos (h1.symm.trans e)];exact⟨h1,h2,ry⟩
  ·rw[if_neg e,if_neg (fun z=>e (h1.trans z))];exact⟨h1,h2,h3⟩
theorem KT.put{H:Hp}{kvs:List (List Key×V)}{xs:List (List Key×J5×u8)}(r:KT H kvs xs) (k:List Key) {b:J5}{y:V}{u:u8}(hb:H b=some (.tup (k.map kV))) (ry:aA y u) :
  KT H (ix kvs k y) (storedH xs k b u):=by
 have e:(kvs.any fun kv=>decide (kv.1=k))=(atKey xs k).isSome:=by
  rw[rq,(r.val k).isSome_eq,Option.isSome_map]
 unfold ix storedH;rw[e]
 by_cases q:(atKey xs k).isSome=true
 ·rw[if_pos q,if_pos q];exact r.repl k ry
 ·rw[if_neg q,if_neg q];exact P5.snoc r ⟨rfl,hb,ry⟩
theorem KT.keeps{H H':Hp}{kvs:List (List Key×V)}{xs:List (List Key×J5×u8)}(r:KT H kvs xs) (ht:∀b ys,H b=some (.tup ys)->H' b=some (.tup ys)):KT H' kvs xs :=
 P5.mapP r fun _ _ z=>⟨z.1,ht _ _ z.2.1,z.2.2⟩
section
variable{P:K6}{w:O3}{H:Hp}{h:L6}{a:J5}
theorem AM{u:HO}(ok:HOk P w H h) (e:Rd H a u):bq P w H h a u:=e.ok ok
theorem wu{kvs:List (Key×V)}(ok:HOk P w H h) (e:Rd H a (.dK kvs)):kvs.length<=H0/\(a==S6)=false/\∃vs,KV kvs vs/\h.DictOf (bU P w) a vs :=
 show bq P w H h a (.dK kvs)from AM ok e
theorem E9{kvs:List (Key×V)}(ok:HOk P w H h) (e:H a=some (.dK kvs)):kvs.length<=H0/\(a==S6)=false/\∃vs,KV kvs vs/\h.DictOf (bU P w) a vs:=wu ok (.inl e)
theorem sv{ks:List Key}(ok:HOk P w H h) (e:H a=some (.tup (ks.map kV))):(Z6 (bU P w)).is h ks a:=by
 obtain⟨_,its,r,o,h1,h2,⟨n,h3⟩,_⟩:=(show bq P w H h a (.tup (ks.map kV))from ok a _ e);exact⟨o,its.toArray,n,h1,h2,h3,by simpa using nR r⟩
theorem wM{kvs:List (List Key×V)}(ok:HOk P w H h) (e:Rd H a (.dT kvs)):kvs.length<=H0/\(a==S6)=false /\
  ∃xs,KT H kvs xs/\h.DictOfH (Z6 (bU P w)) a xs:=by
 obtain⟨z,y,xs,r,o,es,ep,h1,h2,h3,h4,h5⟩:=(show bq P w H h a (.dT kvs)from AM ok e);refine⟨z,y,xs,r,o,es,ep,h1,h2,h3,h4,fun x hx=>?_,h5⟩;have all:∀{l:List (List Key×V)} {m:List (List Key×J5×u8)},KT H l m->∀x∈m,(Z6 (bU P w)).is h x.1 x.2.1:=by
  intro l m q
  induction q with
  |nil=>intro x hx;exact nomatch hx
  |@cons p q ps qs hq t ih =>
   intro x hx;rcases R8.mp hx with e|hx
   ·subst e;exact sv ok (by rw[<-hq.1];exact hq.2.1)
   ·exact ih x hx
 exact all r x hx
theorem DZ{kvs:List (List Key×V)}(ok:HOk P w H h) (e:H a=some (.dT kvs)):kvs.length<=H0/\(a==S6)=false /\
  ∃xs,KT H kvs xs/\h.DictOfH (Z6 (bU P w)) a xs:=wM ok (.inl e)
end
def qO(H:Hp) (a:J5) (y:V) (r:Option V):Prop :=
 (∃kvs k,Rd H a (.dK kvs)/\y=kV k/\r=iJ kvs k)∨∃kvs k b,Rd H a (.dT kvs)/\y=.ref b/\H b=some (.tup (k.map kV))/\r=iJ kvs k
def sA(H:Hp) (a:J5) (y v:V) (H':Hp):Prop :=
 (∃kvs k,H a=some (.dK kvs)/\y=kV k/\kvs.length<H0/\H'=upd H a (.dK (ix kvs k v))) ∨
 ∃kvs k b,H a=some (.dT kvs)/\y=.ref b/\H b=some (.tup (k.map kV))/\kvs.length<H0/\H'=upd H a (.dT (ix kvs k v))
theorem qO.k{H:Hp}{a:J5}{kvs:List (Key×V)}{k:Key}(e:H a=some (.dK kvs)):qO H a (kV k) (iJ kvs k):=.inl ⟨kvs,k,.inl e,rfl,rfl⟩
theorem qO.t{H:Hp}{a b:J5}{kvs:List (List Key×V)}{k:List Key}(e:H a=some (.dT kvs)) (eb:H b=some (.tup (k.map kV))):qO H a (.ref b) (iJ kvs k):=.inr ⟨kvs,k,b,.inl e,rfl,eb,rfl⟩
theorem sA.k{H:Hp}{a:J5}{kvs:List (Key×V)}{k:Key}{v:V}(e:H a=some (.dK kvs)) (hl:kvs.length<H0):sA H a (kV k) v (upd H a (.dK (ix kvs k v))):=.inl ⟨kvs,k,e,rfl,hl,rfl⟩
theorem sA.t{H:Hp}{a b:J5}{kvs:List (List Key×V)}{k:List Key}{v:V}(e:H a=some (.dT kvs)) (eb:H b=some (.tup (k.map kV))) (hl:kvs.length<H0) :
  sA H a (.ref b) v (upd H a (.dT (ix kvs k v))):=.inr ⟨kvs,k,b,e,rfl,eb,hl,rfl⟩
section
variable{X:Cx}{aa:List (J5×Obj)}{σ:St}{H:Hp}{s:v0}{a:J5}{y v:V}{u r:u8}{o:Option V}{A:N6}{E:u8->v0->Prop}
theorem Inv.big(I:Inv X aa σ H s):S6<s.heap.objs.size:=by
 have h:R0<s.heap.objs.size:=(I.mod.glob.keeps I.bk).lt;exact Nat.lt_trans (by decide) h
theorem r0{Q:u8->v0->Prop}(hu:A.units+1<aa5) (I:Inv X aa σ H s) (g:qO H a y (some v)) (ry:aA y u) (h:∀w' s',Inv X aa σ H s'->aA v w'->Q w' s') :
  K4 (K5 X.prog X.w) A (W8 (.ref a) u) Q E s:=by
 rcases g with⟨kvs,k,e,ey,l⟩|⟨kvs,k,b,e,ey,eb,l⟩
 ·subst ey;obtain⟨z,hd,vs,rel,dd⟩:=wu I.hok e;obtain⟨w',hw,rw'⟩:=kG.some_of (v:=v) (o:=aa2 vs k) (by rw[l];exact rel.val k);exact wpAny_getItem_of (wR ry) dd.mapOf hw (h w' _ (I.tok _) rw')
 ·subst ey;cases(show u=X1 b from ry);obtain⟨z,hd,xs,rel,dd⟩:=wM I.hok e;obtain⟨w',hw,rw'⟩:=kG.some_of (v:=v) (o:=(atKey xs k).map (·.2)) (by rw[l];exact rel.val k);obtain⟨p,hp,hp2⟩:=Option.map_eq_some_iff.mp hw;refine wpAny_getItem_heap (tupleKind_room_in1 hu) (sv I.hok eb) dd hp ?_;rw[hp2];exact h w' _ (I.tok _) rw'
theorem jc{h':L6}{t':Nat}{ob:HO}(I:Inv X aa σ H s) (mu:Mut (H a)) (hs:V8 a s.heap h') (he:∃q,h'.get? a=some q) (new:bq X.prog X.w (upd H a ob) h' a ob) :
  Inv X aa σ (upd H a ob) { s with heap:=h',toks:=t' } :=
 I.write (x:=a) (e:=a) mu (.inl rfl) (fun b q hb z=>(hs.2 b hb).trans z) he new
theorem B1{P:K6}{w:O3}{H':Hp}{h':L6}{kvs:List (Key×V)}{vs:List (Key×u8)}(z:kvs.length<=H0) (hd:(a==S6)=false) (rel:KV kvs vs) (dd:h'.DictOf (bU P w) a vs) :
  bq P w H' h' a (.dK kvs):=⟨z,hd,vs,rel,dd⟩
theorem se{H':Hp}{Q:Unit->v0->Prop}(hu:A.units+1<aa5) (I:Inv X aa σ H s) (g:sA H a y v H') (ry:aA y u) (rv:aA v r) (h:∀s',Inv X aa σ H' s'->Q () s') :
  K4 (K5 X.prog X.w) A (setItem (.ref a) u r) Q E s:=by
 rcases g with⟨kvs,k,e,ey,l,eH⟩|⟨kvs,k,b,e,ey,eb,l,eH⟩
 ·subst ey eH;obtain⟨z,hd,vs,rel,dd⟩:=E9 I.hok e;have hz:vs.length<=H0:=by rw[<-rel.length];exact z
  have hl:(ix kvs k v).length<=H0:=by have:=jW kvs k v;lia
  refine wpAny_setItem_pairs (hsz:=hz) (wR ry) dd fun h' dd' hs=>h _ ?_;have he:∃q,h'.get? a=some q:=let⟨q,_,_,hq,_⟩:=dd';⟨q,hq⟩
  exact jc I (by rw[e];exact aa3) hs he (B1 hl hd (rel.put k rv) dd')
 ·subst ey eH;cases(show u=X1 b from ry);obtain⟨z,hd,xs,rel,dd⟩:=DZ I.hok e;have hz:xs.length<=H0:=by rw[<-W5 rel];exact z
  have hl:(ix kvs k v).length<=H0:=by have:=jW kvs k v;lia
  refine wpAny_setItem_heap (hsz:=hz) (tupleKind_room_in1 hu) (sv I.hok eb) dd fun h' dd' hs=>h _ ?_;obtain⟨q,es,ep,hq,h2,h3,h4,_,h5⟩:=dd';refine jc I (by rw[e];exact aa3) hs ⟨q,hq⟩ ⟨hl,hd,_,(rel.put k eb rv).keeps fun c ys ec=>?_,q,es,ep,hq,h2,h3,h4,h5⟩;rw[az (EO ec e (fun z=>nomatch z))];exact ec
end
def Dc(i:K1):Prop:=∀ov iv,Z3 i false ov iv=operate [ov,iv] (W8 ov iv)
theorem zM{prog:K6}{w:O3}{A:N6}{E:u8->v0->Prop}{s:v0}{env:Env}{value slice:K1}{pos:Pos}{T id:String}{Q:u8->v0->Prop}
  (hl:typeLookup (.type T) "__getitem__"=W0 (some (.builtin id))) (hs:Dc slice)
  (h:K4 (K5 prog w) A (U7 value env) (fun o s₁=>K4 (K5 prog w) A (U7 slice env) (fun i s₂=>s₂.TypeIs o T/\K4 (K5 prog w) A (W8 o i) Q E s₂) E s₁) E s) :
  K4 (K5 prog w) A (U7 (.Subscript value slice pos) env) Q E s:=by
 refine Subscript_ (M0 h (fun o s₁ h₁=>M0 h₁ (fun i s₂ h₂=>?_) fun _ _ x=>x) fun _ _ x=>x);obtain⟨hT,h₂⟩:=h₂;unfold subscriptTail;refine J1 ?_;rw[getitemInPython_of_ne hT.not_modules];refine J1 (wpAny_specialOf hT hl ?_);have fin:K4 (K5 prog w) A (Z3 slice false o i) (fun r s₃=>K4 (K5 prog w) A (letTemporaryGo value o r >>= fun _=>W0 r) Q E s₃) E s₂:=by
  rw[hs o i];exact wpAny_operating (M0 h₂ (fun r s₃ h₃=>J1 (wpAny_letTemporaryGo (J6 h₃))) fun _ _ x=>x)
 first
  |exact J6 (J1 fin)
  |exact J1 (J6 (J1 fin))
  |exact J1 fin
theorem rh{X:Cx}{aa:List (J5×Obj)}{σ:St}{H:Hp}{s:v0}{a:J5}{y:V}{o:Option V}(I:Inv X aa σ H s) (g:qO H a y o):s.TypeIs (.ref a) "dict":=by
 rcases g with⟨kvs,k,e,_,_⟩|⟨kvs,k,b,e,_,_,_⟩
 ·obtain⟨_,_,vs,_,dd⟩:=wu I.hok e;exact dd.typeIs
 ·obtain⟨_,_,xs,_,dd⟩:=wM I.hok e;exact dd.typeIs
def Ep(td ty:TE):TE:=fun σ H Q=>td σ H fun x H1=>ty σ H1 fun y H2=>∃a v,x=.ref a/\qO H2 a y (some v)/\Q v H2
def Ex(td ty tv:TE):TS:=fun D σ H=>tv σ H fun v H1=>td σ H1 fun x H2=>ty σ H2 fun y H3=>∃a H4,x=.ref a/\sA H3 a y v H4/\D.nx σ H4
section
variable{X:Cx}{o i e value:K1}{pos pos' tpos:Pos}{td ty tv:TE}
theorem zP(hu:X.A.units+1<aa5) (ho:PE X o td) (hi:PE X i ty) (hs:Dc i):PE X (.Subscript o i pos) (Ep td ty):=by
 intro aa s σ H Q I h;refine zM PySem.F.slot_dict_getitem.lookup hs (thn (ho aa s σ H _ I h) fun u s1 hup=>hup.el fun x H1 I1 rx q1=>thn (hi aa s1 σ H1 _ I1 q1) fun iv s2 ⟨y,H2,I2,ry,a,v,ex,g,q2⟩=>?_);subst ex;obtain rfl:u=X1 a:=rx;exact⟨rh I2 g,r0 hu I2 g ry fun w' s3 I3 rw'=>⟨v,H2,I3,rw',q2⟩⟩
theorem Ag(hu:X.A.units+1<aa5) (ho:PE X o td) (hi:PE X i ty) (hv:PE X value tv) (hs:W1 value (some (.Subscript o i pos')) pos.line X.env=W0 false) :
  PS X (.Assign [.Subscript o i pos'] value pos) (Ex td ty tv):=by
 intro aa s σ H D I h;refine wpAny_Assign_Subscript (thn (hv aa s σ H _ I h) fun r s1 hup=>hup.el fun v H1 I1 rv q1=>thn (ho aa s1 σ H1 _ I1 q1) fun u s2 hup=>hup.el fun x H2 I2 rx q2=>thn (hi aa s2 σ H2 _ I2 q2) fun iv s3 ⟨y,H3,I3,ry,a,H4,ex,g,q3⟩=>?_) hs;subst ex;obtain rfl:u=X1 a:=rx;exact se hu I3 g ry rv fun s4 I4=>⟨σ,H4,I4,q3⟩
end
theorem qu{P:K6}{w:O3}{H:Hp}(h:L6) (hb:S6<h.objs.size):bq P w H (h.push { cls:=.type "dict",data:=.dict #[] }) h.objs.size (.dT []) :=
 ⟨U3 _,beq_eq_false_iff_ne.mpr (aa0 (K2 hb)),[],.nil,_,#[],0,K3 _ rfl,⟨rfl,rfl,rfl⟩,rfl,rfl,List.nodup_nil⟩
def Du:TE:=fun _ H Q=>∀p,H p=none->Q (.ref p) (upd H p (.dT []))
section
variable{X:Cx}{pos:Pos}
theorem wj:PE X (.Dict [] [] pos) Du:=fun aa s σ H Q I h =>
 wpAny_Dict_empty ⟨.ref s.heap.objs.size,_,I.laid (a:=s.heap.objs.size) (o:=.dT []) (t':=s.toks) (fun _ _ q=>J0 _ q) (J7 _) (qu s.heap I.big),rfl,h _ (I.hok.fresh (J7 _))⟩
end
structure M1(X:Cx) (o:K1) (m:Str) (iE:Pos) (e:K1) (cz:Pos):Prop where
 base:W9 o m X.env (U7 o X.env)=U7 o X.env
 few:((S9 cz (J8 [e] X.env)).all (fun x=>!x.1)&&(backToKw cz (Z4 [] X.env)).all (fun x=>x.1.isSome)
 &&decide (([e]:List K1).length+([]:List X5).length+(if([]:List X5).isEmpty then 0 else 1)<30))=true
 line:(iE.endLine==cz.line)=true
 trees:S9 cz (J8 [e] X.env)=[(false,U7 e X.env)]
structure M2(X:Cx) (o:K1) (m:Str) (iE:Pos) (e f:K1) (cz:Pos):Prop where
 base:W9 o m X.env (U7 o X.env)=U7 o X.env
 few:((S9 cz (J8 [e,f] X.env)).all (fun x=>!x.1)&&(backToKw cz (Z4 [] X.env)).all (fun x=>x.1.isSome)
 &&decide (([e,f]:List K1).length+([]:List X5).length+(if([]:List X5).isEmpty then 0 else 1)<30))=true
 line:(iE.endLine==cz.line)=true
 trees:S9 cz (J8 [e,f] X.env)=[(false,U7 e X.env),(false,U7 f X.env)]
noncomputable def aB(X:Cx) (scope:S7) (cl:List (Str×J5)) (N:List Str) (C:J5) (s:v0) (H:Hp) (ex:List J5):Cx where
 prog:=X.prog
 w:=X.w
 K:=X.K
 mg:=X.mg
 base:=X.base
 A:=X.A
 N:=N
 s₀:=s
 H₀:=H
 env:=compEnvC scope cl C X.env
 outer:=X.stack
 stack:=X.stack
 ex:=ex
 calm:=X.calm
 fn:=fun _=>false
 pn:=[]
 xe:=fun _ _=>False
noncomputable def bw:List Bool->St->St
 |true::ms,v::σ=>v::bw ms σ
 |false::ms,_::σ=>none::bw ms σ
 |[],_::σ=>none::bw [] σ
 |_,[]=>[]
theorem bz:∀(ms:List Bool) (σ:St),(bw ms σ).length=σ.length
 |true::ms,v::σ=>by simp[bw,bz ms σ]
 |false::ms,_::σ=>by simp[bw,bz ms σ]
 |[],_::σ=>by simp[bw,bz [] σ]
 |[],[]=>by simp[bw]
 |true::_,[]=>by simp[bw]
 |false::_,[]=>by simp[bw]
theorem gI:∀{ms:List Bool}{σ:St}{i:Nat}{v:V},(bw ms σ)[i]?=some (some v)->ms[i]?=some true/\σ[i]?=some (some v)
 |true::ms,v::σ,0,x,h=>by simpa[bw]using h
 |true::ms,v::σ,i+1,x,h=>by
  have:=gI (ms:=ms) (σ:=σ) (i:=i) (v:=x) (by simpa[bw]using h);simpa using this
 |false::ms,_::σ,0,x,h=>by simp[bw]at h
 |false::ms,_::σ,i+1,x,h=>by
  have:=gI (ms:=ms) (σ:=σ) (i:=i) (v:=x) (by simpa[bw]using h);simpa using this
 |[],_::σ,0,x,h=>by simp[bw]at h
 |[],_::σ,i+1,x,h=>by
  have:=gI (ms:=[]) (σ:=σ) (i:=i) (v:=x) (by simpa[bw]using h);simpa using this
 |[],[],_,_,h=>by simp[bw]at h
 |true::_,[],_,_,h=>by simp[bw]at h
 |false::_,[],_,_,h=>by simp[bw]at h
def gZ(ms:List Bool) (k:Nat) (σ:St):St:=bw ms σ++J3 k none
theorem vt{ms:List Bool}{k:Nat}{σ:St}{i:Nat}{v:V}(h:(gZ ms k σ)[i]?=some (some v)):i<σ.length/\ms[i]?=some true/\σ[i]?=some (some v):=by
 unfold gZ at h
 by_cases hi:i<(bw ms σ).length
 ·rw[L4 hi]at h;exact⟨by rwa [bz]at hi,gI h⟩
 ·rw[P1 (by lia),R4]at h
  split at h<;>cases h
structure fm(X:Cx) (scope:S7) (cl:List (Str×J5)) (ms:List Bool) (ak:List Str):Prop where
 kind:scope.kind=.function
 ncell:∀y∈scope.names,y.2≠.cell
 names:∀y∈scope.names,y.2=.local->scope.names.lookup y.1=some .local
 clos:closureFor scope X.env=W0 cl
 sub:∀x c,cl.lookup x=some c->X.env.cells.lookup x=some c
 has:∀x,scope.names.lookup x=some .free->∃c,cl.lookup x=some c
 fr:∀x,scope.names.lookup x=some .free->X.env.scope.names.lookup x=some .cell∨X.env.scope.names.lookup x=some .free
 mask:∀(i:Nat) (x:Str),ms[i]?=some true->X.N[i]?=some x->scope.names.lookup x=some .free
 mlen:ms.length<=X.N.length
theorem iQ{env:Env}:∀{names:List (Str×M9)}{x:Str}{k:M9},
  (names.map fun(n,k)=>if(k==O6&&env.scope.kind==.function&&env.kindOf n==some .cell)then(n,T9)else(n,k)).lookup x=some k->(∀y∈names,y.2≠.cell)->k=.cell∨k=.free->names.lookup x=some .free
 |[],_,_,h,_,_=>by simp at h
 |(n,k0)::r,x,k,h,hc,hk=>by
  have ih:=@iQ env r x k;have h:List.lookup x ((if(k0==O6&&env.scope.kind==.function&&env.kindOf n==some .cell)=true then(n,T9)else(n,k0))::_)=some k:=h;cases hx:x==n with
  |true =>
   by_cases hq:(k0==O6&&env.scope.kind==.function&&env.kindOf n==some .cell)=true
   ·have:k0=.free:=by
     simp at hq;exact hq.1.1
    subst this;simp[N4,hx]
   ·rw[if_neg hq]at h;simp only[N4,hx]at h;cases h;rcases hk with rfl|rfl
    ·exact absurd rfl (hc (n,.cell) N9)
    ·simp[N4,hx]
  |false =>
   by_cases hq:(k0==O6&&env.scope.kind==.function&&env.kindOf n==some .cell)=true
   ·rw[if_pos hq]at h;simp only[N4,hx]at h ⊢;exact ih h (fun y hy=>hc y (L5 _ hy)) hk
   ·rw[if_neg hq]at h;simp only[N4,hx]at h ⊢;exact ih h (fun y hy=>hc y (L5 _ hy)) hk
theorem iI{env:Env}:∀{names:List (Str×M9)}{x:Str},names.lookup x=some .free ->
  (names.map fun(n,k)=>if(k==O6&&env.scope.kind==.function&&env.kindOf n==some .cell)then(n,T9)else(n,k)).lookup x=some .cell ∨
  (names.map fun(n,k)=>if(k==O6&&env.scope.kind==.function&&env.kindOf n==some .cell)then(n,T9)else(n,k)).lookup x=some .free
 |[],_,h=>by simp at h
 |(n,k0)::r,x,h=>by
  have ih:=@iI env r x;show List.lookup x ((if(k0==O6&&env.scope.kind==.function&&env.kindOf n==some .cell)=true then(n,T9)else(n,k0))::_)=_∨List.lookup x ((if(k0==O6&&env.scope.kind==.function&&env.kindOf n==some .cell)=true then(n,T9)else(n,k0))::_)=_;cases hx:x==n with
  |true =>
   simp only[N4,hx]at h;cases h
   split
   ·left;simp[N4,hx]
   ·right;simp[N4,hx]
  |false =>
   simp only[N4,hx]at h
   split<;>(simp only[N4,hx];exact ih h)
section
variable{X:Cx}{aa:List (J5×Obj)}{σ:St}{H H2:Hp}{s s2:v0}{scope:S7}{cl:List (Str×J5)}{ms:List Bool}{ak:List Str}
theorem xu(I:Inv X aa σ H s) (S:fm X scope cl ms ak) {fp:List J5}(hfp:∀b∈fp,gS X aa H b) (hlt:∀b∈fp,b<s.heap.objs.size) {C:J5}(hC:s.heap.objs.size<=C) :
  (aB X scope cl (X.N++ak) C s H fp).Ok where
 mod:=I.ok.mod
 kind:=S.kind
 glob:=I.ok.glob
 blt:=I.ok.blt
 above:=hC
 inj:=fun x y c h1 h2=>I.ok.inj x y c (S.sub x c h1) (S.sub y c h2)
 has:=fun x hx=>S.has x (iQ (env:=X.env) (k:=if(aB X scope cl (X.N++ak) C s H fp).env.kindOf x=some .cell then .cell else .free) (by
  rcases hx with hx|hx
  ·rw[if_pos hx];exact hx
  ·rw[if_neg (by rw[hx];decide)];exact hx) S.ncell (by split<;>simp))
 cab:=fun x c h=>by cases h
 hd:=I.ok.hd
 frames:=I.ok.frames
 stk:=.inl rfl
 exf:=fun b hb=>⟨K2 (J9 (hlt b hb) hC),fun x c e=>(hfp b hb).2.2.2.2.1 x c (S.sub x c e)⟩
 bs:=I.bs
 bsz:=N0 I.ok.bsz I.sz
 noex:=fun b o e hb=>by
  rcases(hfp b hb).2.2.2.1 with z|z
  ·exact I.ok.noex b o e z
  ·exact absurd (J9 (J4 e) (N0 I.ok.bsz z)) (Q9 _)
 exfs:=fun b hb z=>by
  rcases R8.mp (I.stkSub b z)with e|e
  ·exact(hfp b hb).2.1 e
  ·exact(hfp b hb).2.2.1 e
 funs:=I.stack
 frf:=I.stkFree
theorem Ay(I:Inv X aa σ H s) (S:fm X scope cl ms ak) {fp:List J5}(hfp:∀b∈fp,gS X aa H b) (hlt:∀b∈fp,b<s.heap.objs.size) {C:J5}(hC:s.heap.objs.size<=C)
  (os:s2.os=s.os) (bare:W6 s2.gens) (keep:∀b o,s.heap.get? b=some o->s2.heap.get? b=some o) {m:Str->Option u8} (hn:s2.heap.Ns C m) :
  Inv (aB X scope cl (X.N++ak) C s H fp) [] (gZ ms ak.length σ) H s2 where
 ok:=xu I S hfp hlt hC
 os:=os
 bare:=bare
 base:=Un.kept keep
 loc:=⟨m,hn,fun i x v h1 h2 h3=>by
  obtain⟨hi,hm,hv⟩:=vt h2;have hiN:i<X.N.length:=by rw[<-I.len];exact hi
  have hx:X.N[i]?=some x:=by
   have h1':(X.N++ak)[i]?=some x:=h1
   rwa [L4 hiN]at h1'
  have hf:=S.mask i x hm hx;obtain⟨m0,hn0,hl⟩:=I.loc;obtain⟨u,r,l⟩:=hl i x v hx hv (by rcases S.fr x hf with z|z<;>simp[Vis,z]);refine⟨u,r,.inr ⟨?_,?_⟩⟩
  ·exact iI (env:=X.env) hf
  ·obtain⟨c,hc⟩:=S.has x hf;have hc':=S.sub x c hc;rcases l with⟨k,_⟩|⟨_,c',e,z⟩
   ·rcases S.fr x hf with z|z<;>(have k':X.env.scope.names.lookup x=some .local:=k;rw[z]at k';cases k')
   ·rw[hc']at e;cases e;obtain⟨o,ho,hd⟩:=z;exact⟨c,hc,o,keep _ _ ho,hd⟩⟩
 cell:=fun x c e=>by
  obtain⟨v,o,ho,hd⟩:=I.cell x c (S.sub x c e);exact⟨v,o,keep _ _ ho,hd⟩
 free:=I.hok.fresh hC
 freeC:=fun x c e=>I.freeC x c (S.sub x c e)
 pin:=fun p hp=>absurd (show p∈([]:List (J5×Obj))from hp) (by simp)
 hok:=I.hok.kept keep
 len:=by
  unfold gZ;rw[L9,bz,List.length_replicate,I.len];show _=(X.N++ak).length;rw[L9]
end
def PIf(X:Cx) (ifs:List K1) (t:TT):Prop :=
 ∀(aa:List (J5×Obj)) (s:v0) (σ:St) (H:Hp) (Q:Bool->Hp->Prop),Inv X aa σ H s->t σ H Q ->
  K4 (K5 X.prog X.w) X.A (forIn ifs true fun c r=>if r=true then do let ok <-isTrue c X.env (U7 c X.env);W0 (O1 ok)else W0 (O1 r)) (TP X aa σ Q) X.xe s
def FU:TT:=fun _ H Q=>Q true H
theorem zT{X:Cx}:PIf X [] FU:=fun _ _ _ H _ I h=>wpAny_tests_nil ⟨H,I,h⟩
theorem yG{X:Cx}{c:K1}{t:TT}(h:PT X c t):PIf X [c] t:=fun aa s σ H Q I q=>wpAny_tests_one (h aa s σ H Q I q)
abbrev eQ(its:List u8) (n:Nat):Obj:={ cls:=.type "list",data:=.seq its.toArray n }
theorem thF{α:Type}{t:Sem α}{Q Q':α->v0->Prop}{M:Model}{A:N6}{E:u8->v0->Prop}{s:v0}(hE:E=fun _ _=>False) (h:K4 M A t Q E s) (hQ:∀a s,Q a s->Q' a s):K4 M A t Q' (fun _ _=>False) s:=M0 h hQ fun e s x=>by rw[hE]at x;exact x
abbrev lcE(el:K1) (gs:List V1) (sc:S7) (ps:Pos):K1:=.ListComp el gs sc ps
section
variable{prog:K6}{w:O3}{A:N6}{R:Result->v0->Prop}{s:v0}{el tg elt i:K1}{fs:List K1}{k:Nat}{p:Pos}{it acc:u8}{env:Env}{gs:List V1}{sc:S7}{ps:Pos}
abbrev AWt:=(v0->Prop)->v0->Prop
def tP(prog:K6) (w:O3) (A:N6) (elt:K1) (acc:u8) (env:Env):AWt:=fun Ok s=>K4 (K5 prog w) A (U7 elt env) (fun x s₄=>K4 (K5 prog w) A (call (.builtin "list.append") [acc,x]) (fun _ s₅=>Ok s₅) (fun _ _=>False) s₄) (fun _ _=>False) s
def xx(prog:K6) (w:O3) (A:N6) (ce:K1) (k:Nat) (i:K1) (acc:u8) (env:Env):AWt:=fun Ok s=>K4 (K5 prog w) A (U7 i env) (fun x s₄=>K4 (K5 prog w) A (aa4 x) (fun it2 s₅ =>
 V3 (K5 prog w) A (.compStart ce k it2 acc env) (fun r s₆=>(∃f,r=.ok f)/\Ok s₆) s₅) (fun _ _=>False) s₄) (fun _ _=>False) s
def Aj(ce:K1) (k:Nat) (p:Pos) (tg:K1) (fs:List K1) (bd:u8->u8->Env->Sem Fin):Prop:=∀it acc env,compTurn ce k it acc env=(do
  aa7 p
  let r <-pyNext it
  match r with
   |none=>W0 (Fin.done Flow.next)
   |some v=>do
    T4 tg it v
    Z7 tg env v
    let ok <-forIn fs true fun c r=>if r=true then do let ok <-PySem.isTrue c env (U7 c env);W0 (O1 ok)else W0 (O1 r)
    if ok=true then bd it acc env else again (R9 ce k it acc env))
def AE(prog:K6) (w:O3) (A:N6) (ce:K1) (k:Nat) (bd:u8->u8->Env->Sem Fin) (it acc:u8) (env:Env) (AW:AWt):Prop :=
 ∀Ok s (R:Result->v0->Prop) (E:u8->v0->Prop),AW Ok s->K4 (K5 prog w) A (bd it acc env) (fun fin s'=>match fin with|.done f=>R (.ok f) s'|.again c'=>c'=R9 ce k it acc env/\Ok s') E s
theorem mJ{bd:u8->u8->Env->Sem Fin}{AW:AWt}(hT:Aj (lcE el gs sc ps) k p tg fs bd) (hq:(R9 (lcE el gs sc ps) k it acc env).quiet=true:=by rfl) (hb:AE prog w A (lcE el gs sc ps) k bd it acc env AW) (I:Nat->v0->Prop)
  (turn:∀ n s,I n s → K4 (K5 prog w) A (pyNext it) (fun r s₁ => match r with
   |none=>R (.ok .next) s₁
   | some v => K4 (K5 prog w) A (T4 tg it v) (fun _ s₁ => K4 (K5 prog w) A (Z7 tg env v) (fun _ s₂ =>
     K4 (K5 prog w) A (forIn fs true fun c r=>if r=true then do let ok <-isTrue c env (U7 c env);W0 (O1 ok)else W0 (O1 r)) (fun ok s₃ =>
      if ok=true then AW (fun s₅=>∃m,m<n/\I m s₅) s₃
      else ∃m,m<n/\I m s₃) (fun _ _=>False) s₂) (fun _ _=>False) s₁) (fun _ _=>False) s₁) (fun _ _=>False) s)
  (n:Nat) (h:I n s) :
  V3 (K5 prog w) A (.compLoop (lcE el gs sc ps) k it acc env) R s:=by
 refine codeAny_loop hq I (fun n s hI=>?_) n h;show K4 _ A ((compTurn (lcE el gs sc ps) k it acc env).onRaise (fun x=>do noteFrame x env;theTreesLotGoes x)) _ _ s;refine wpAny_noted ?_;rw[hT];refine J1 (X0 (J1 (M0 (turn n s hI) (fun r s₁ h₁=>?_) fun _ _ h'=>h'.elim)));cases r with
 |none=>exact J6 h₁
 |some v =>
  refine J1 (M0 h₁ (fun _ s1 h₁=>?_) fun _ _ h'=>h'.elim);refine J1 (M0 h₁ (fun _ s₂ h₂=>J1 (M0 h₂ (fun ok s₃ h₃=>?_) fun _ _ h'=>h'.elim)) fun _ _ h'=>h'.elim);cases ok with
  |false=>exact J6 ⟨rfl,h₃⟩
  |true=>exact hb _ _ _ _ h₃
noncomputable def AJ(ce:K1) (k:Nat) (elt:K1):u8->u8->Env->Sem Fin:=fun it acc env=>bind (bind (U7 elt env) fun x=>bind (call (u8.builtin "list.append") [acc,x]) fun _=>W0 ()) fun(_:Unit)=>again (R9 ce k it acc env)
noncomputable def A6(ce:K1) (k:Nat) (i:K1):u8->u8->Env->Sem Fin:=fun it acc env=>do
 let x <-U7 i env
 aa7 i.pos
 let x <-N7 i env x
 let it2 <-holding [x] (aa4 x)
 let _ <-runOwn (Code.compStart ce (k+1) it2 acc env) env
 again (R9 ce k it acc env)
theorem zX:AE prog w A (lcE el gs sc ps) k (AJ (lcE el gs sc ps) k elt) it acc env (tP prog w A elt acc env):=fun Ok s R E h =>
 J1 (J1 (M0 h (fun x s₄ h₄=>J1 (M0 h₄ (fun _ s₅ h₅=>J6 (J6 ⟨rfl,h₅⟩)) fun _ _ h'=>h'.elim)) fun _ _ h'=>h'.elim))
theorem yT(hs:∀x,N7 i env x=W0 x):AE prog w A (lcE el gs sc ps) k (A6 (lcE el gs sc ps) k i) it acc env (xx prog w A (lcE el gs sc ps) (k+1) i acc env):=fun Ok s R E h=>by
 refine J1 (M0 h (fun x s₄ h₄=>J1 (X0 ?_)) fun _ _ h'=>h'.elim);rw[hs x];refine J1 (J6 (J1 (wpAny_holding (M0 h₄ (fun it2 s₅ h₅=>?_) fun _ _ h'=>h'.elim))));refine J1 (wpAny_runOwn (V9 h₅ fun r s₆ h₆=>?_));obtain⟨⟨f,rfl⟩,h₆⟩:=h₆;exact J6 ⟨rfl,h₆⟩
def we(ce:K1) (k:Nat) (p:Pos):Prop:=∀it acc env,compStart ce k it acc env=(do
  let r <-ask
  if r.params.followText "comprehension-iter-twice"=true then again (R9 ce k it acc env)
   else do
    rule "comprehension.iter-twice"
    aa7 p
    let i <-aa4 it
    again (R9 ce k i acc env))
theorem lq(hS:we (lcE el gs sc ps) k p) (h:V3 (K5 prog w) A (.compLoop (lcE el gs sc ps) k it acc env) R s)
  (h2:K4 (K5 prog w) A (aa4 it) (fun it' s'=>V3 (K5 prog w) A (.compLoop (lcE el gs sc ps) k it' acc env) R s') (fun _ _=>False) s) :
  V3 (K5 prog w) A (.compStart (lcE el gs sc ps) k it acc env) R s:=by
 refine codeAny_of_tree ?_;show K4 _ A ((compStart (lcE el gs sc ps) k it acc env).onRaise (fun x=>do noteFrame x env;aa7 theWindowsPlace)) _ _ s;refine wpAny_onRaise ?_;rw[hS];refine J1 (wpAny_askSetting ?_);dsimp only
 split
 ·exact J6 ⟨rfl,h⟩
 ·exact J1 (wpAny_rule (J1 (X0 (J1 (M0 h2 (fun it' s' h'=>J6 ⟨rfl,h'⟩) fun _ _ h'=>h'.elim)))))
end
abbrev BK:=List V->St->Hp->(List V->St->Hp->Prop)->Prop
def jK(J:It) (g:TG) (tc:TT) (B:BK) (W:Nat->Nat->List V->St->Hp->Prop) (Z:List V->St->Hp->Prop):Prop :=
 ∀i m ys σ H,W i m ys σ H->ys.length<=H0/\((J.stop i H/\Z ys σ H) ∨
  (J.go i H/\∀x H',J.yld i H x H'->g x σ H' fun σ2 H2=>tc σ2 H2 fun b H3=>if b=true then B ys σ2 H3 (fun ys' σ' H'=>∃m',m'<m/\W (i+1) m' ys' σ' H')else ∃m',m'<m/\W (i+1) m' ys σ2 H3))
def l8(te:TE):BK:=fun ys σ H Z=>te σ H fun y H'=>Z (ys++[y]) σ H'
def xX(wi:TI) (g:TG) (tc:TT) (B:BK):BK:=fun ys σ H Z=>wi σ H fun J H'=>∃W:Nat->Nat->List V->St->Hp->Prop,(∃m,W 0 m ys σ H')/\jK J g tc B W Z
section
variable{Y:Cx}{D:J5}{el tg elt i1:K1}{fs:List K1}{g:TG}{tc:TT}{te:TE}{wi:TI}{B:BK}{k:Nat}{p:Pos}{gs:List V1}{sc:S7}{ps:Pos}
def Ba(Y:Cx) (D:J5) (AW:AWt) (B:BK):Prop:=∀(P:List (J5×Obj)) (its:List u8) (nn:Nat) (ys:List V) (σ:St) (H:Hp) (s:v0) (Z:List V->St->Hp->Prop),Inv Y ([(D,eQ its nn)]++P) σ H s->ar ys its->ys.length<=H0->(∀p∈P,p.1≠D)->B ys σ H Z ->
 AW (fun s'=>∃ys' its' n' σ' H',Inv Y ([(D,eQ its' n')]++P) σ' H' s'/\ar ys' its'/\Z ys' σ' H') s
structure mF(Y:Cx) (D:J5):Prop where
 pn:Y.pn=[]
 calm:Y.calm=true
 xe:Y.xe=fun _ _=>False
 ex:D∈Y.ex∨Y.s₀.heap.objs.size<=D
 cell:∀x c,Y.env.cells.lookup x=some c->c≠D
theorem AWt.mono_leaf{prog:K6}{w:O3}{A:N6}{acc:u8}{env:Env}{Ok Ok':v0->Prop}{s:v0}(h:tP prog w A elt acc env Ok s) (k:∀s,Ok s->Ok' s):tP prog w A elt acc env Ok' s :=
 M0 h (fun _ _ h1=>M0 h1 (fun _ _ h2=>k _ h2) fun _ _ x=>x) fun _ _ x=>x
theorem xJ(c:mF Y D) (he:PE Y elt te):Ba Y D (tP Y.prog Y.w Y.A elt (.ref D) Y.env) (l8 te):=by
 intro P its nn ys σ H s Z I rv hz hPD q;refine thF c.xe (he _ s σ H _ I q) fun v s9 hup=>hup.el fun y H9 I9 r9 q9=>?_;have pacc:=I9.pin (D,eQ its nn) (K0 _ (List.mem_append_left _ N9));have hzi:its.toArray.size<=H0:=by rw[I0,<-rv.length];exact hz
 refine PySem.wpAny_list_append_plain (hsz:=hzi) ⟨nn,pacc.1⟩ fun h' hl' hs'=>?_;obtain⟨n',hl'⟩:=hl';have I10:Inv Y [] σ H9 { s9 with heap:=h' } :=
  Inv.turned (t':=s9.toks) (it:=D) (I9.pins_of fun p hp=>absurd hp (by simp)) (fun b o hb e=>(hs'.2 b hb).trans e) pacc.2.1 pacc.2.2.1 c.ex c.cell (fun p hp=>absurd (show p∈([]:List (J5×Obj))from by rw[c.pn]at hp;exact hp) (by simp))
 refine⟨ys++[y],its++[v],n',σ,H9,I10.pins_of fun p hp=>?_,rv.append (.cons r9 .nil),q9⟩;rcases S8.mp hp with z|z
 ·have e:p=(D,eQ (its++[v]) n'):=U0.mp z;subst e;refine⟨?_,pacc.2.1,pacc.2.2.1,pacc.2.2.2.1,fun v z=>by cases z⟩;rw[hl'];simp[eQ]
 ·obtain⟨b1,b2,b3,b4,b5⟩:=I9.pin p (K0 _ (K0 _ z));exact⟨(hs'.2 _ (hPD p z)).trans b1,b2,b3,b4,b5⟩
structure Lv(Y:Cx) (D:J5) (ce:K1) (k:Nat) (p:Pos) (tg:K1) (fs:List K1) (B:BK):Prop where
 ex:∃bd AW,Aj ce k p tg fs bd/\(∀it,AE Y.prog Y.w Y.A ce k bd it (.ref D) Y.env AW)/\Ba Y D AW B/\∀{Ok Ok':v0->Prop} {s:v0},AW Ok s->(∀s,Ok s->Ok' s)->AW Ok' s
theorem ut(c:mF Y D) (he:PE Y elt te) (hT:Aj (lcE el gs sc ps) k p tg fs (AJ (lcE el gs sc ps) k elt)):Lv Y D (lcE el gs sc ps) k p tg fs (l8 te):=⟨_,_,hT,fun _=>zX,xJ c he,AWt.mono_leaf⟩
theorem nS(c:mF Y D) (L:Lv Y D (lcE el gs sc ps) k p tg fs B) {it2:J5}
  (hg:PG Y tg g) (hif:PIf Y fs tc) {P:List (J5×Obj)} (hPD:∀p∈P,p.1≠D)
  {its0:List u8} {nn0:Nat} {ys0:List V} {σ:St} {H:Hp} {s:v0} (I:Inv Y ([(D,eQ its0 nn0)]++P) σ H s) (rv0:ar ys0 its0) {fp2:List J5} {tn2:Nat->L6->Prop} {J2:It} (T:qz Y.prog Y.w Y.K tg J2 fp2 it2 tn2) (st:tn2 0 s.heap)
  (f:∀b∈fp2,gS Y ([(D,eQ its0 nn0)]++P) H b) {W2:Nat->Nat->List V->St->Hp->Prop} {Z2:List V->St->Hp->Prop} {m0:Nat} (w0:W2 0 m0 ys0 σ H) (turn:jK J2 g tc B W2 Z2) {R:Result->v0->Prop}
  (hR:∀(s':v0) (ys:List V) (its:List u8) (n:Nat) (σ':St) (H':Hp),Inv Y ([(D,eQ its n)]++P) σ' H' s'->ar ys its->ys.length<=H0->Z2 ys σ' H'->R (.ok .next) s') :
  V3 (K5 Y.prog Y.w) Y.A (.compLoop (lcE el gs sc ps) k (.ref it2) (.ref D) Y.env) R s:=by
 obtain⟨bd,AW,hT,hb,hB,hAW⟩:=L.ex;have fpc:∀{H:Hp} {n:Nat} {its:List u8},(∀b∈fp2,H b=none)->∀b∈fp2,gS Y ([(D,eQ its n)]++P) H b:=fun hn b hb=>by
  obtain⟨_,a1,a2,a3,a4,a5⟩:=f b hb;refine⟨hn b hb,a1,a2,a3,a4,fun p hp=>?_⟩;rw[c.pn,List.nil_append]at hp;rcases S8.mp hp with z|z
  ·obtain rfl:=U0.mp z;exact a5 (D,eQ its0 nn0) (by rw[c.pn];simp)
  ·exact a5 p (by rw[c.pn];simp[z])
 refine mJ hT rfl (hb _) (fun n s'=>∃i ys its nn σ' H',Inv Y ([(D,eQ its nn)]++P) σ' H' s'/\ar ys its/\tn2 i s'.heap/\(∀b∈fp2,H' b=none)/\W2 i n ys σ' H') ?_ m0
  ⟨0,ys0,its0,nn0,σ,H,I,rv0,st,fun b hb=>(f b hb).1,w0⟩
 rintro n s' ⟨i,ys,its,nn,σ',H',I4,rv,st4,fr4,w4⟩;obtain⟨hz,h⟩:=turn i n ys σ' H' w4;rcases h with⟨stop,hZ⟩|⟨go,step⟩
 ·refine thn (T.done Y rfl rfl rfl c.calm i _ s' _ H' (fun _ _=>False) I4 (fpc fr4) st4 stop) fun r s4 ⟨hr,I5⟩=>?_;subst hr;exact hR s4 ys its nn σ' H' I5 rv hz hZ
 ·refine thn (T.item Y rfl rfl rfl c.calm i _ s' _ H' (fun _ _=>False) I4 (fpc fr4) st4 go) fun r s5 ⟨u,hr,h5⟩=>?_;subst hr;refine thn h5 fun _ s6 ⟨x,H6,I6,r6,y6,st6,fr6⟩=>?_;have I6':=I6.pinned (fpc fr6) (T.obj _ _ st6);refine thF c.xe (hg _ s6 _ H6 x u _ I6' r6 (step x H6 y6)) fun _ s7 ⟨σ7,H7,I7,q7⟩=>?_;refine thF c.xe (hif _ s7 σ7 H7 _ I7 q7) fun ok s8 hup=>hup.el fun H8 I8 q8=>?_;have keepfp:∀{its:List u8} {nn:Nat} {σ9:St} {H9:Hp} {s9:v0},Inv Y (([(D,eQ its nn)]++P)++iu fp2 s6.heap) σ9 H9 s9->tn2 (i+1) s9.heap/\∀b∈fp2,H9 b=none:=fun {its nn σ9 H9 s9} I9 =>
   ⟨T.keep _ _ _ st6 fun b hb o e=>(I9.pin (b,o) (K0 _ (K0 _ (ft hb e)))).1,fun b hb=>by
    obtain⟨o,e,d⟩:=T.obj _ _ st6 b hb;exact(I9.pin (b,o) (K0 _ (K0 _ (ft hb e)))).2.1⟩
  cases ok with
  |false =>
   obtain⟨m',hm,w8⟩:=q8;obtain⟨a8,b8⟩:=keepfp I8;exact⟨m',hm,i+1,ys,its,nn,σ7,H8,I8.unpinned,rv,a8,b8,w8⟩
  |true =>
   have hPD2:∀p∈P++iu fp2 s6.heap,p.1≠D:=fun p hp=>by
    rcases S8.mp hp with z|z
    ·exact hPD p z
    ·have hb:=(n6 z).1;intro e;exact(f _ hb).2.2.2.2.2 (D,eQ its0 nn0) (by rw[c.pn];simp) e.symm
   refine hAW (hB (P++iu fp2 s6.heap) its nn ys σ7 H8 s8 _ (by rw[<-List.append_assoc];exact I8) rv hz hPD2 q8) ?_;rintro s9 ⟨ys',its',n',σ',H',I',rv',m',hm,w'⟩;rw[<-List.append_assoc]at I';obtain⟨a9,b9⟩:=keepfp I';exact⟨m',hm,i+1,ys',its',n',σ',H',I'.unpinned,rv',a9,b9,w'⟩
theorem rJ{prog:K6}{w:O3}{A:N6}{acc:u8}{env:Env}{Ok Ok':v0->Prop}{s:v0}(h:xx prog w A (lcE el gs sc ps) k i1 acc env Ok s) (h':∀s,Ok s->Ok' s):xx prog w A (lcE el gs sc ps) k i1 acc env Ok' s :=
 M0 h (fun _ _ h1=>M0 h1 (fun _ _ h2=>V9 h2 fun _ _ h3=>⟨h3.1,h' _ h3.2⟩) fun _ _ x=>x) fun _ _ x=>x
theorem zw{tg1:K1}{fs1:List K1}{p1:Pos}(c:mF Y D) (L:Lv Y D (lcE el gs sc ps) (k+1) p1 tg1 fs1 B) (hS:we (lcE el gs sc ps) (k+1) p1) (hs:∀x,N7 i1 Y.env x=W0 x) (hi:PI Y tg1 i1 wi) (hg:PG Y tg1 g) (hif:PIf Y fs1 tc)
  (hT:Aj (lcE el gs sc ps) k p tg fs (A6 (lcE el gs sc ps) k i1)):Lv Y D (lcE el gs sc ps) k p tg fs (xX wi g tc B):=by
 refine⟨_,_,hT,fun _=>yT hs,?_,rJ⟩;intro P its nn ys σ H s Z I rv hz hPD q;refine thF c.xe (hi _ s σ H _ I q) fun v s9 h9=>thF c.xe h9 fun itv s10 h10=>?_;obtain⟨it2,fp2,tn2,J2,H10,e,I10,T2,st10,f10,W2,⟨m2,w2⟩,cin⟩:=h10;subst e;have loop:=nS c L hg hif hPD I10 rv T2 st10 f10 w2 cin (R:=fun r s₆=>(∃f,r=.ok f)/\∃ys' its' n' σ' H',Inv Y ([(D,eQ its' n')]++P) σ' H' s₆/\ar ys' its'/\Z ys' σ' H')
  (fun s' ys its n σ' H' I' rv' _ hZ=>⟨⟨_,rfl⟩,ys,its,n,σ',H',I',rv',hZ⟩)
 exact lq hS loop (T2.self _ 0 _ _ _ st10 loop)
end
section
variable{X:Cx}{aa:List (J5×Obj)}{σ σ':St}{H2 H':Hp}{s2 s':v0}{scope:S7}{cl:List (Str×J5)}{ms:List Bool}{ak:List Str}{elt t0 i0:K1}{f0:List K1}{gs:List V1}{g0:TG}{tc0:TT}{B:BK}{p pos:Pos}
theorem nu(S:fm X scope cl ms ak) (gq:X.calm=true)
  (hg0:∀C s H ex,PG (aB X scope cl (X.N++ak) C s H ex) t0 g0) (hif0:∀C s H ex,PIf (aB X scope cl (X.N++ak) C s H ex) f0 tc0)
  (hL:∀C s H ex D,mF (aB X scope cl (X.N++ak) C s H ex) D->Lv (aB X scope cl (X.N++ak) C s H ex) D (lcE elt (⟨t0,i0,f0,0⟩::gs) scope pos) 0 p t0 f0 B)
  (I2:Inv X aa σ H2 s2) {it:J5} {fp:List J5} {tn:Nat->L6->Prop} {J:It} (T:qz X.prog X.w X.K t0 J fp it tn) (st2:tn 0 s2.heap) (fz:∀b∈fp,gS X aa H2 b)
  {W:Nat->Nat->List V->St->Hp->Prop} {Z:List V->St->Hp->Prop} {m0:Nat} (w0:W 0 m0 [] (gZ ms ak.length σ) H2) (turn:jK J g0 tc0 B W Z)
  {RR:u8->J5->Result->v0->Prop} {E:u8->v0->Prop}
  (hRR:∀ (s':v0) (ys:List V) (its:List u8) (n:Nat) (σ':St) (H':Hp),Inv (aB X scope cl (X.N ++ ak) (s2.heap.objs.size + 1) s2 H2 fp) [(s2.heap.objs.size,eQ its n)] σ' H' s' → ar ys its → ys.length ≤ H0 → Z ys σ' H' →
   RR (.ref s2.heap.objs.size) (s2.heap.objs.size+1) (.ok .next) s') :
  K4 (K5 X.prog X.w) X.A (newList []) (fun acc s₃=>K4 (K5 X.prog X.w) X.A (newFunctionEnv scope X.env.globals cl [] X.env.qual none .none (some X.env)) (fun cenv s₄ =>
   V3 (K5 X.prog X.w) X.A (.compStart (lcE elt (⟨t0,i0,f0,0⟩::gs) scope pos) 0 (.ref it) acc { cenv with scope:=relabel scope X.env }) (RR acc cenv.locals) s₄) E s₃) E s2:=by
 refine Q3 (wpAny_newFunctionEnv S.ncell (by intro y hy;simp at hy) (fun h₁ hns₁ hsb₁=>?_) S.kind);dsimp only at hns₁ hsb₁ ⊢;have hsz:(s2.heap.push { cls:=.type "list",dict:=none,data:=.seq ([]:List u8).toArray }).objs.size=s2.heap.objs.size+1:=by rw[L6.size_push]
 rw[hsz]at hns₁ hsb₁ ⊢;have hlt:∀b∈fp,b<s2.heap.objs.size:=fun b hb=>by
  obtain⟨o,e,_⟩:=T.obj _ _ st2 b hb;exact J4 e
 have old:∀b o,s2.heap.get? b=some o->h₁.get? b=some o:=fun b o e=>hsb₁.extBut b o (K2 (O9 (J4 e))) (J0 _ (J0 _ e));have hacc:h₁.get? s2.heap.objs.size=some (eQ [] 0):=hsb₁.extBut _ _ (K2 (U9 _)) (J0 _ (K3 _ rfl));have hDn:H2 s2.heap.objs.size=none:=I2.hok.fresh (J7 _);have hDfs:∀b,s2.heap.objs.size<=b->b∉(aB X scope cl (X.N++ak) (s2.heap.objs.size+1) s2 H2 fp).fs:=fun b hb z=>by
  rcases R8.mp (I2.stkSub b z)with e|e
  ·subst e;exact absurd (J9 I2.lt hb) (Q9 _)
  ·exact I2.nofs hb e
 have loop:∀s₃:v0,s₃={ s2 with heap:=h₁,toks:=s2.toks+([]:List (Str×u8)).length } ->
   V3 (K5 X.prog X.w) X.A (.compLoop (lcE elt (⟨t0,i0,f0,0⟩::gs) scope pos) 0 (.ref it) (.ref s2.heap.objs.size) (compEnvC scope cl (s2.heap.objs.size+1) X.env)) (RR (.ref s2.heap.objs.size) (s2.heap.objs.size+1)) s₃:=by
  rintro s₃ rfl;have I3:Inv (aB X scope cl (X.N++ak) (s2.heap.objs.size+1) s2 H2 fp) [] (gZ ms ak.length σ) H2 { s2 with heap:=h₁,toks:=s2.toks+([]:List (Str×u8)).length } :=
   Ay I2 S fz hlt (Nat.le_succ _) rfl I2.bare old hns₁
  have c:mF (aB X scope cl (X.N++ak) (s2.heap.objs.size+1) s2 H2 fp) s2.heap.objs.size:=⟨rfl,gq,rfl,.inr (J7 _),fun x c e=>by
   obtain⟨v,o,ho,_⟩:=I2.cell x c (S.sub x c e);exact K2 (J4 ho)⟩
  refine nS c (hL _ _ _ _ _ c) (hg0 _ _ _ _) (hif0 _ _ _ _) (P:=[]) (fun p hp=>nomatch hp) (its0:=[]) (nn0:=0) (I3.pins_of fun p hp=>?_) .nil T (T.keep _ _ _ st2 fun b _ o e=>old b o e) (fun b hb=>?_) w0 turn ?_
  ·have e:p=(s2.heap.objs.size,eQ [] 0):=U0.mp hp;subst e;exact⟨hacc,hDn,K2 (U9 _),hDfs _ (J7 _),fun v z=>by cases z⟩
  ·exact⟨(fz b hb).1,K2 (O9 (hlt b hb)),(xu I2 S fz hlt (Nat.le_succ _)).exfs b hb,.inl hb,fun x c e=>(fz b hb).2.2.2.2.1 x c (S.sub x c e),fun p hp=>by
    have:p=(s2.heap.objs.size,_):=U0.mp (show p∈[(s2.heap.objs.size,_)]from hp);subst this;exact X4 (hlt b hb)⟩
  ·exact fun s' ys its n σ' H' I' rv hz hZ=>hRR s' ys its n σ' H' I' rv hz hZ
 exact codeAny_compStart_list (loop _ rfl) (T.self _ 0 _ _ _ (T.keep _ _ _ st2 fun b _ o e=>old b o e) (loop _ rfl))
end
section
variable{X:Cx}{aa:List (J5×Obj)}{σ σ':St}{H2 H':Hp}{s2 s':v0}{scope:S7}{cl:List (Str×J5)}{ms:List Bool}{ak:List Str}{tg iter elt:K1}{ifs:List K1}{g:TG}{tc:TT}{te:TE}{pos p:Pos}{B:BK}{gs:List V1}
theorem m8(I2:Inv X aa σ H2 s2) {fp:List J5}(f2:∀b∈fp,gS X aa H2 b) {its:List u8}{n:Nat}{ys:List V}
  (I':Inv (aB X scope cl (X.N++ak) (s2.heap.objs.size+1) s2 H2 fp) [(s2.heap.objs.size,eQ its n)] σ' H' s') (rv:ar ys its) (hz:ys.length<=H0) {h':L6} (hs:V8 (s2.heap.objs.size+1) s'.heap h') :
  Inv X aa σ (upd H' s2.heap.objs.size (.lst ys)) { s' with heap:=h' }/\H' s2.heap.objs.size=none:=by
 have pacc:=I'.pin (s2.heap.objs.size,eQ its n) (K0 _ N9);have hC:H' (s2.heap.objs.size+1)=none:=I'.free;have hD:H' s2.heap.objs.size=none:=pacc.2.1;have up:∀b o,b≠s2.heap.objs.size+1->s'.heap.get? b=some o->h'.get? b=some o:=fun b o hb e=>(hs.2 b hb).trans e;have nD:∀b u,H' b=some u->b≠s2.heap.objs.size:=fun b u e z=>by rw[z,hD]at e;cases e
 have nC:∀b u,H' b=some u->b≠s2.heap.objs.size+1:=fun b u e z=>by rw[z,hC]at e;cases e
 have hacc:h'.get? s2.heap.objs.size=some (eQ its n):=up _ _ (K2 (U9 _)) pacc.1;have hok:HOk X.prog X.w (upd H' s2.heap.objs.size (.lst ys)) h':=fun b u e=>by
  by_cases hb:b=s2.heap.objs.size
  ·subst hb;rw[aL]at e;cases e;exact⟨hz,its,n,rv,hacc⟩
  ·rw[az hb]at e;refine(I'.hok b u e).stay (fun c v hc q=>up c v ?_ q) (fun c q=>by rw[az (nD c _ q)];exact q) fun c xs q=>by rw[az (nD c _ q)];exact q
   rcases hc with rfl|hc
   ·exact nC _ _ e
   ·exact nC _ _ hc
 have un:Un (frs X.stack) fp H2 (upd H' s2.heap.objs.size (.lst ys)) s2.heap h':=by
  have U:=I'.base;have ltD:∀b o,s2.heap.get? b=some o->b≠s2.heap.objs.size:=fun b o e=>K2 (J4 e);have ltC:∀b o,s2.heap.get? b=some o->b≠s2.heap.objs.size+1:=fun b o e=>K2 (O9 (J4 e));refine⟨fun b o e nb hb hx=>up b o (ltC b o e) (U.keep b o e nb hb hx),fun b o e nb hb hx=>?_,fun b o e nb hx=>by rw[az (ltD b o e)];exact U.free b o e nb hx,fun b o e hx=>?_,
   fun b xs e=>by have q:=U.tups b xs e;rw[az (nD b _ q)];exact q,fun b o u e=>by have q:=U.frzs b o u e;rw[az (nD b _ q)];exact q,fun b ps e=>?_⟩
  ·obtain⟨sl,q⟩:=U.slot b o e nb hb hx;exact⟨sl,up b _ (ltC b o e) q⟩
  ·obtain⟨o',q⟩:=U.there b o e hx;exact⟨o',up b _ (ltC b o e) q⟩
  ·obtain⟨more,q⟩:=U.tbls b ps e;exact⟨more,by rw[az (nD b _ q)];exact q⟩
 exact⟨I2.call' (s':={ s' with heap:=h' }) (ch:=fp) I'.os un hok I'.bare fun b hb=>⟨(f2 b hb).2.2.2.1,(f2 b hb).2.1,(f2 b hb).2.2.2.2.1,(f2 b hb).2.2.2.2.2⟩,hD⟩
def Ax(ms:List Bool) (k:Nat) (wi:TI) (g:TG) (tc:TT) (B:BK):TE:=fun σ H Q=>wi σ H fun J H1=>∃(W:Nat->Nat->List V->St->Hp->Prop) (Z:List V->St->Hp->Prop),(∃m,W 0 m [] (gZ ms k σ) H1)/\jK J g tc B W Z /\
 ∀ys σ' H p,Z ys σ' H->H p=none->Q (.ref p) (upd H p (.lst ys))
abbrev tLc(ms:List Bool) (k:Nat) (wi:TI) (g:TG) (tc:TT) (te:TE):TE:=Ax ms k wi g tc (l8 te)
abbrev LvC(X:Cx) (scope:S7) (cl:List (Str×J5)) (ak:List Str) (ce:K1) (p:Pos) (tg:K1) (ifs:List K1) (B:BK):Prop:=∀C s H ex D,mF (aB X scope cl (X.N++ak) C s H ex) D->Lv (aB X scope cl (X.N++ak) C s H ex) D ce 0 p tg ifs B
theorem wO(S:fm X scope cl ms ak) (gq:X.calm=true) {wi:TI}(hi:PI X tg iter wi)
  (hg:∀C s H ex,PG (aB X scope cl (X.N++ak) C s H ex) tg g) (hif:∀C s H ex,PIf (aB X scope cl (X.N++ak) C s H ex) ifs tc) (hL:LvC X scope cl ak (lcE elt (⟨tg,iter,ifs,0⟩::gs) scope pos) p tg ifs B)
  (hs:∀x,N7 iter X.env x=W0 x:=by intro _;rfl):PE X (lcE elt (⟨tg,iter,ifs,0⟩::gs) scope pos) (Ax ms ak.length wi g tc B):=by
 intro aa s σ H Q I h;rw[eval_ListComp];refine wpAny_comprehension_free (use:=none) rfl hs S.clos S.kind S.names (thn (hi aa s σ H _ I h) fun v s1 h1=>thn h1 fun itv s2 h2=>?_);obtain⟨it,fp,tn,J,H2,e,I2,T,st2,f2,W,Z,⟨m0,w0⟩,turn,q⟩:=h2;subst e;refine nu S gq hg hif hL I2 T st2 f2 w0 turn (RR:=fun acc C=>compPost (K5 X.prog X.w) X.A X.xe none (EP X aa σ Q) acc C) ?_;intro s' ys its n σ' H' I' rv hz hZ;obtain⟨m,hm,_⟩:=I'.loc;refine⟨m,hm,fun h' hs'=>?_⟩;obtain⟨I3,hD⟩:=m8 I2 f2 I' rv hz hs';exact⟨.ref s2.heap.objs.size,_,I3,rfl,q ys _ H' _ hZ hD⟩
theorem vF{i:Nat}{x:Str}{spos pos':Pos}(hN:X.N.Nodup) (hix:X.N[i]?=some x) (hx:X.env.scope.names.lookup x=some .local)
  (hsw:W1 (lcE elt (⟨tg,iter,ifs,0⟩::gs) scope pos) (some (.Name x pos')) spos.line X.env=W0 true)
  (S:fm X scope cl ms ak) (gq:X.calm=true) {wi:TI} (hi:PI X tg iter wi)
  (hg:∀C s H ex,PG (aB X scope cl (X.N++ak) C s H ex) tg g) (hif:∀C s H ex,PIf (aB X scope cl (X.N++ak) C s H ex) ifs tc) (hL:LvC X scope cl ak (lcE elt (⟨tg,iter,ifs,0⟩::gs) scope pos) p tg ifs B)
  (hs:∀x,N7 iter X.env x=W0 x:=by intro _;rfl):PS X (.Assign [.Name x pos'] (lcE elt (⟨tg,iter,ifs,0⟩::gs) scope pos) spos) (FP (Ax ms ak.length wi g tc B) (qF i)):=by
 intro aa s σ H D I h;rw[exec_Assign_Name_used _ _ _ _ hsw];refine J1 (X0 (J1 ?_));show K4 _ _ (do let _ <-comprehension (lcE elt (⟨tg,iter,ifs,0⟩::gs) scope pos) scope X.env _ (newList []) false (U7 iter X.env) (some (Z7 (.Name x pos') X.env))) _ _ s;refine J1 (M0 (wpAny_comprehension_free (use:=some (Z7 (.Name x pos') X.env)) (Q:=fun _ s'=>SP X aa D .next s') rfl hs S.clos S.kind S.names
  (thn (hi aa s σ H _ I h) fun v s1 h1=>thn h1 fun itv s2 h2=>?_)) (fun _ s' hq=>J6 (J6 hq)) fun _ _ e=>e)
 obtain⟨it,fp,tn,J,H2,e,I2,T,st2,f2,W,Z,⟨m0,w0⟩,turn,q⟩:=h2;subst e;refine nu S gq hg hif hL I2 T st2 f2 w0 turn (RR:=fun acc C=>compPost (K5 X.prog X.w) X.A X.xe (some (Z7 (.Name x pos') X.env)) (fun _ s'=>SP X aa D .next s') acc C) ?_;intro s' ys its n σ' H' I' rv hz hZ;obtain⟨m,hm,_⟩:=I'.loc;obtain⟨I3,hD⟩:=m8 I2 f2 I' rv hz (V8.refl (s2.heap.objs.size+1) s'.heap);have hq:=q ys _ H' _ hZ hD;show K4 _ _ (Z7 (.Name x pos') X.env (.ref s2.heap.objs.size)) _ _ _;refine wpAny_assign_Name (nh I3 hN hix (.inl hx) (v:=.ref s2.heap.objs.size) rfl (fun s4 I4 hsame=>?_) (.inr hx));obtain⟨a,hsb,ha⟩:=hsame;have hLC:s2.heap.objs.size+1≠X.env.locals:=X4 (O9 I2.lt);have haC:s2.heap.objs.size+1≠a:=by
  rcases ha with rfl|ha
  ·exact hLC
  ·intro z;obtain⟨v,o,ho,_⟩:=I2.cell x a ha;exact absurd (O9 (J4 ho)) (by rw[<-z];exact Q9 _)
 have hCn:upd H' s2.heap.objs.size (.lst ys) (s2.heap.objs.size+1)=none:=by rw[az (X4 (U9 _))];exact I'.free
 refine⟨m,hm.sameBut hsb haC,fun h' hs'=>?_⟩;refine⟨_,_,?_,hq⟩;have hL:∀b o,b≠s2.heap.objs.size+1->s4.heap.get? b=some o->h'.get? b=some o:=fun b o hb e=>(hs'.2 b hb).trans e;have I5:=Inv.turned (t':=s4.toks) (h':=h') (it:=s2.heap.objs.size+1) I4 (fun b o hb e=>hL b o hb e) hCn hLC (.inr (Nat.le_succ_of_le I2.sz)) (fun y c e=>by
  obtain⟨v,o,ho,_⟩:=I2.cell y c e;exact K2 (O9 (J4 ho))) (fun p hp=>by
  exact K2 (O9 (J4 (I2.pin p hp).1)))
 exact I5
theorem v4(he:∀C s H ex,PE (aB X scope cl (X.N++ak) C s H ex) elt te):LvC X scope cl ak (lcE elt [⟨tg,iter,ifs,0⟩] scope pos) iter.pos tg ifs (l8 te):=fun _ _ _ _ _ c=>ut c (he _ _ _ _) fun _ _ _=>rfl
end
inductive Bx where
 |dk (ks:List Key)|dt (ks:List (List Key))|ins (C:J5) (fs:List Str)|key
 deriving Inhabited
inductive D where
 |non|bl (b:Bool)|int (i:Int)|str (x:Str)|tup (ds:List D)|lst (ds:List D)|scr (ds:List D)|emp|ref (a:J5)|box (t:Bx) (ds:List D)
 deriving Inhabited
inductive HD where
 |lst (ds:List D)|dK (kvs:List (Key×D))|dT (kvs:List (List Key×D))|dKr (o:Obj) (ks:List (Key×V)) (kvs:List (Key×D))|ins (C:J5) (fs:List (Str×D))
 |ext (φ:List V->L6->Prop) (ds:List D)
 deriving Inhabited
abbrev DH:=J5->Option HD
def aG(M:DH) (a:J5) (o:HD):DH:=fun b=>if b=a then some o else M b
def vI(M:DH) (a:J5):DH:=fun b=>if b=a then none else M b
abbrev noM:DH:=fun _=>none
theorem aD{M:DH}{a:J5}{o:HD}:aG M a o a=some o:=if_pos rfl
theorem cu{M:DH}{a b:J5}{o:HD}(h:b≠a):aG M a o b=M b:=if_neg h
theorem jd{M:DH}{a:J5}{o u:HD}:aG (aG M a o) a u=aG M a u:=by
 funext b;unfold aG;split<;>rfl
theorem uX{M:DH}{a:J5}:vI M a a=none:=if_pos rfl
theorem jr{M:DH}{a:J5}{o:HD}(h:M a=none):vI (aG M a o) a=M:=by
 funext b;unfold vI aG;split
 ·rename_i e;rw[e,h]
 ·rfl
def nv(K:o0) (M:DH) (H:Hp) (a:J5) (vs:List V):Prop:=(Rd H a (.tup vs)/\M a=none)∨SqT K (fun _=>none) a vs
def tF(M:DH) (H:Hp) (a:J5) (vs:List V):Prop:=H a=some (.lst vs)/\M a=none
def nX(K:o0) (M:DH) (H:Hp) (a:J5) (vs:List V):Prop:=((∃o,H a=some (.frz o (.lst vs)))/\M a=none)∨SqL K (fun _=>none) a vs
def FE(M:DH) (H:Hp) (a:J5):Prop:=H a=some (.dK [])/\M a=none
def tR(M:DH) (H:Hp) (a:J5):Bx->List V->Prop
 |.dk ks,vs=>ks.length=vs.length/\(∃o,H a=some (.frz o (.dK (ks.zip vs))))/\M a=none
 |.dt ks,vs=>ks.length=vs.length/\(∃o,H a=some (.frz o (.dT (ks.zip vs))))/\M a=none
 |.ins C fs,vs=>fs.length=vs.length/\(∃dx,H a=some (.ins C dx (fs.zip vs)))/\M a=none
 |.key,vs=>True/\(∃_u:Unit,H a=some (.tup vs))/\M a=none
mutual
def Rep(K:o0) (M:DH) (H:Hp):D->V->Prop
 |.non,v=>v=.non
 |.bl b,v=>v=.bl b
 |.int i,v=>v=.int i
 |.str x,v=>v=.str x
 |.tup ds,v=>∃a vs,v=.ref a/\nv K M H a vs/\aj K M H ds vs
 |.lst ds,v=>∃a vs,v=.ref a/\tF M H a vs/\aj K M H ds vs
 |.scr ds,v=>∃a vs,v=.ref a/\nX K M H a vs/\aj K M H ds vs
 |.emp,v=>∃a,v=.ref a/\FE M H a
 |.ref a,v=>v=.ref a
 |.box t ds,v=>∃a vs,v=.ref a/\tR M H a t vs/\aj K M H ds vs
def aj(K:o0) (M:DH) (H:Hp):List D->List V->Prop
 |[],vs=>vs=[]
 |d::ds,vs=>∃v ws,vs=v::ws/\Rep K M H d v/\aj K M H ds ws
end
def Ext(M:DH) (H:Hp) (M':DH) (H':Hp):Prop:=∀a o,H a=some o->M a=none->H' a=some o/\M' a=none
theorem Ext.refl(M:DH) (H:Hp):Ext M H M H:=fun _ _ h n=>⟨h,n⟩
theorem Ext.trans{M M1 M2:DH}{H H1 H2:Hp}(a:Ext M H M1 H1) (b:Ext M1 H1 M2 H2):Ext M H M2 H2:=fun c o h n=>b c o (a c o h n).1 (a c o h n).2
variable{K:o0}{M M' M1 M2:DH}{H H' H1 H2:Hp}
theorem nv.ext{a:J5}{vs:List V}(h:nv K M H a vs) (e:Ext M H M' H'):nv K M' H' a vs:=by
 rcases h with⟨r|⟨o,r⟩,n⟩|h
 ·exact .inl ⟨.inl (e a _ r n).1,(e a _ r n).2⟩
 ·exact .inl ⟨.inr ⟨o,(e a _ r n).1⟩,(e a _ r n).2⟩
 ·exact .inr h
theorem tF.ext{a:J5}{vs:List V}(h:tF M H a vs) (e:Ext M H M' H'):tF M' H' a vs:=e a _ h.1 h.2
theorem nX.ext{a:J5}{vs:List V}(h:nX K M H a vs) (e:Ext M H M' H'):nX K M' H' a vs:=by
 rcases h with⟨⟨o,r⟩,n⟩|h
 ·exact .inl ⟨⟨o,(e a _ r n).1⟩,(e a _ r n).2⟩
 ·exact .inr h
theorem tR.ext{a:J5}{t:Bx}{vs:List V}(h:tR M H a t vs) (e:Ext M H M' H'):tR M' H' a t vs:=by
 cases t<;>(obtain⟨l,⟨o,r⟩,n⟩:=h;exact⟨l,⟨o,(e a _ r n).1⟩,(e a _ r n).2⟩)
mutual
theorem Rep.ext:∀{d:D}{v:V},Rep K M H d v->Ext M H M' H'->Rep K M' H' d v
 |.non,_,h,_=>h
 |.bl _,_,h,_=>h
 |.int _,_,h,_=>h
 |.str _,_,h,_=>h
 |.ref _,_,h,_=>h
 |.emp,_,h,e=>by
  simp only[Rep]at h ⊢;obtain⟨a,rfl,h1,h2⟩:=h;exact⟨a,rfl,e a _ h1 h2⟩
 |.tup ds,_,h,e=>by
  simp only[Rep]at h ⊢;obtain⟨a,vs,rfl,h1,h2⟩:=h;exact⟨a,vs,rfl,h1.ext e,aj.ext h2 e⟩
 |.lst ds,_,h,e=>by
  simp only[Rep]at h ⊢;obtain⟨a,vs,rfl,h1,h2⟩:=h;exact⟨a,vs,rfl,h1.ext e,aj.ext h2 e⟩
 |.scr ds,_,h,e=>by
  simp only[Rep]at h ⊢;obtain⟨a,vs,rfl,h1,h2⟩:=h;exact⟨a,vs,rfl,h1.ext e,aj.ext h2 e⟩
 |.box t ds,_,h,e=>by
  simp only[Rep]at h ⊢;obtain⟨a,vs,rfl,h1,h2⟩:=h;exact⟨a,vs,rfl,h1.ext e,aj.ext h2 e⟩
theorem aj.ext:∀{ds:List D}{vs:List V},aj K M H ds vs->Ext M H M' H'->aj K M' H' ds vs
 |[],_,h,_=>h
 |d::ds,_,h,e=>by
  simp only[aj]at h ⊢;obtain⟨v,ws,rfl,h1,h2⟩:=h;exact⟨v,ws,rfl,Rep.ext h1 e,aj.ext h2 e⟩
end
theorem aj.length:∀{ds:List D}{vs:List V},aj K M H ds vs->ds.length=vs.length
 |[],_,h=>by simp only[aj]at h;subst h;rfl
 |d::ds,_,h=>by
  simp only[aj]at h;obtain⟨v,ws,rfl,h1,h2⟩:=h;simp[aj.length h2]
theorem aj.nil:aj K M H [] []:=by simp[aj]
theorem aj.cons{d:D}{v:V}{ds:List D}{vs:List V}(h:Rep K M H d v) (t:aj K M H ds vs):aj K M H (d::ds) (v::vs):=by
 simp only[aj];exact⟨v,vs,rfl,h,t⟩
theorem aj.append:∀{ds es:List D}{vs ws:List V},aj K M H ds vs->aj K M H es ws->aj K M H (ds++es) (vs++ws)
 |[],_,_,_,h,t=>by simp only[aj]at h;subst h;exact t
 |d::ds,es,_,ws,h,t=>by
  simp only[aj]at h;obtain⟨v,us,rfl,h1,h2⟩:=h;exact aj.cons h1 (aj.append h2 t)
theorem aj.get:∀{ds:List D}{vs:List V}{i:Nat}{d:D},aj K M H ds vs->ds[i]?=some d->∃v,vs[i]?=some v/\Rep K M H d v
 |[],_,_,_,_,e=>by simp at e
 |d::ds,_,0,x,h,e=>by
  simp only[aj]at h;obtain⟨v,us,rfl,h1,h2⟩:=h;simp at e;subst e;exact⟨v,rfl,h1⟩
 |d::ds,_,i+1,x,h,e=>by
  simp only[aj]at h;obtain⟨v,us,rfl,h1,h2⟩:=h;obtain⟨w,a,b⟩:=aj.get (i:=i) (d:=x) h2 (by simpa using e);exact⟨w,by simpa using a,b⟩
theorem aj.take:∀{ds:List D}{vs:List V}(n:Nat),aj K M H ds vs->aj K M H (ds.take n) (vs.take n)
 |ds,vs,0,_=>by simp[aj]
 |[],_,n+1,h=>by simp only[aj]at h;subst h;simp[aj]
 |d::ds,_,n+1,h=>by
  simp only[aj]at h;obtain⟨v,us,rfl,h1,h2⟩:=h;exact aj.cons h1 (aj.take n h2)
theorem aj.drop:∀{ds:List D}{vs:List V}(n:Nat),aj K M H ds vs->aj K M H (ds.drop n) (vs.drop n)
 |ds,vs,0,h=>h
 |[],_,n+1,h=>by simp only[aj]at h;subst h;simp[aj]
 |d::ds,_,n+1,h=>by
  simp only[aj]at h;obtain⟨v,us,rfl,h1,h2⟩:=h;exact aj.drop n h2
theorem aj.set:∀{ds:List D}{vs:List V}{d:D}{v:V}(n:Nat),aj K M H ds vs->Rep K M H d v->aj K M H (ds.set n d) (vs.set n v)
 |[],_,_,_,n,h,r=>by simp only[aj]at h;subst h;simp[aj]
 |d::ds,_,_,_,0,h,r=>by
  simp only[aj]at h;obtain⟨v,us,rfl,h1,h2⟩:=h;exact aj.cons r h2
 |d::ds,_,_,_,n+1,h,r=>by
  simp only[aj]at h;obtain⟨v,us,rfl,h1,h2⟩:=h;exact aj.cons h1 (aj.set n h2 r)
theorem aj.one{d:D}{vs:List V}(h:aj K M H [d] vs):∃v,vs=[v]/\Rep K M H d v:=by
 simp only[aj]at h;obtain⟨v,us,rfl,h1,rfl⟩:=h;exact⟨v,rfl,h1⟩
theorem aj.two{d e:D}{vs:List V}(h:aj K M H [d,e] vs):∃v w,vs=[v,w]/\Rep K M H d v/\Rep K M H e w:=by
 simp only[aj]at h;obtain⟨v,us,rfl,h1,w,ws,rfl,h2,rfl⟩:=h;exact⟨v,w,rfl,h1,h2⟩
def KR(K:o0) (M:DH) (H:Hp) {κ:Type}:List (κ×D)->List (κ×V)->Prop:=P5 fun p q=>p.1=q.1/\Rep K M H p.2 q.2
theorem KR.ext{κ:Type}{kvs:List (κ×D)}{ks:List (κ×V)}(h:KR K M H kvs ks) (e:Ext M H M' H'):KR K M' H' kvs ks:=P5.imp' (fun _ _ r=>⟨r.1,r.2.ext e⟩) h
def l7(K:o0) (M:DH) (H:Hp) (a:J5):HD->Prop
 |.lst ds=>∃vs,H a=some (.lst vs)/\aj K M H ds vs
 |.dK kvs=>∃ks,H a=some (.dK ks)/\KR K M H kvs ks
 |.dT kvs=>∃ks,H a=some (.dT ks)/\KR K M H kvs ks
 |.dKr o ks kvs=>∃_u:Unit,H a=some (.frz o (.dK ks))/\KR K M H kvs ks
 |.ins C fs=>∃gs,(∃dx,H a=some (.ins C dx gs))/\KR K M H fs gs
 |.ext φ ds=>∃vs,H a=some (.ext (φ vs))/\aj K M H ds vs
def HR(K:o0) (M:DH) (H:Hp):Prop:=∀a o,M a=some o->l7 K M H a o
theorem l7.some{a:J5}{o:HD}(h:l7 K M H a o):∃u,H a=P3 u/\∀xs,u≠.tup xs/\∀ob,u≠.frz ob (.tup xs):=by
 cases o with
 |ins C fs=>obtain⟨gs,⟨dx,r⟩,_⟩:=h;exact⟨_,r,fun xs=>⟨(by intro z;cases z),(by intro ob z;cases z)⟩⟩
 |_=>obtain⟨vs,r,_⟩:=h;exact⟨_,r,fun xs=>⟨(by intro z;cases z),(by intro ob z;cases z)⟩⟩
theorem l7.keep{a:J5}{o:HD}(h:l7 K M H a o) (e:Ext M H M' H') (q:H' a=H a):l7 K M' H' a o:=by
 cases o with
 |ins C fs=>obtain⟨gs,⟨dx,r⟩,t⟩:=h;exact⟨gs,⟨dx,by rw[q];exact r⟩,t.ext e⟩
 |_=>obtain⟨vs,r,t⟩:=h;exact⟨vs,by rw[q];exact r,t.ext e⟩
theorem HR.fresh(h:HR K M H) {p:J5}(e:H p=none):M p=none:=by
 cases q:M p with
 |none=>rfl
 |some o =>
  obtain⟨u,r,_⟩:=(h p _ q).some;rw[e]at r;cases r
theorem HR.nil:HR K noM H:=fun _ _ h=>nomatch h
theorem Ext.new{p:J5}{o:HO}(hr:HR K M H) (h:H p=none):Ext M H M (upd H p o):=fun a u e n=>by
 have:a≠p:=bB e h;rw[az this];exact⟨e,n⟩
theorem HR.ext1(h:HR K M H) (e:Ext M H M H') (keep:∀a o,M a=some o->H' a=H a):HR K M H':=fun a o q=>(h a o q).keep e (keep a o q)
theorem HR.new{p:J5}{o:HO}(hr:HR K M H) (h:H p=none):HR K M (upd H p o):=hr.ext1 (Ext.new hr h) fun a u q=>by
 have:a≠p:=fun z=>by rw[z,hr.fresh h]at q;cases q
 rw[az this]
theorem Ext.own{p:J5}{o:HO}{u:HD}(h:H p=none):Ext M H (aG M p u) (upd H p o):=fun a x e n=>by
 have:a≠p:=bB e h;rw[az this,cu this];exact⟨e,n⟩
theorem HR.put{p:J5}{o:HO}{u:HD}(hr:HR K M H) (e:Ext M H (aG M p u) (upd H p o)) (c:l7 K (aG M p u) (upd H p o) p u):HR K (aG M p u) (upd H p o):=fun a w q=>by
 by_cases z:a=p
 ·subst z;rw[aD]at q;cases q;exact c
 ·rw[cu z]at q;exact(hr a w q).keep e (az z)
theorem HR.own{p:J5}{ds:List D}{vs:List V}(hr:HR K M H) (h:H p=none) (r:aj K M H ds vs):HR K (aG M p (.lst ds)) (upd H p (.lst vs)) :=
 hr.put (Ext.own h) ⟨vs,aL,r.ext (Ext.own h)⟩
theorem Ext.write{a:J5}{o:HO}{u w:HD}(h:M a=some w):Ext M H (aG M a u) (upd H a o):=fun b x e n=>by
 have:b≠a:=fun z=>by rw[z,h]at n;cases n
 rw[az this,cu this];exact⟨e,n⟩
theorem HR.write{a:J5}{w:HD}{ds:List D}{vs:List V}(hr:HR K M H) (h:M a=some w) (r:aj K M H ds vs):HR K (aG M a (.lst ds)) (upd H a (.lst vs)) :=
 hr.put (Ext.write h) ⟨vs,aL,r.ext (Ext.write h)⟩
def LeM(M1 M:DH):Prop:=∀a o,M1 a=some o->M a=some o
theorem LeM.none(h:LeM M1 M) {a:J5}(n:M a=none):M1 a=none:=by
 cases q:M1 a with
 |none=>rfl
 |some o=>rw[h a o q]at n;cases n
theorem LeM.refl:LeM M M:=fun _ _ h=>h
theorem LeM.no:LeM noM M:=fun _ _ h=>nomatch h
theorem LeM.del{a:J5}:LeM (vI M a) M:=fun b o h=>by
 unfold vI at h;split at h
 ·cases h
 ·exact h
theorem Ext.le(h:LeM M1 M):Ext M H M1 H:=fun a o e n=>⟨e,h.none n⟩
theorem HR.le(hr:HR K M H) (h:LeM M1 M):HR K M1 H:=fun a o q=>(hr a o (h a o q)).keep (Ext.le h) rfl
theorem Rep.froze(hr:HR K M H) (h:LeM M1 M) {a:J5}{ds:List D}(e:M a=some (.lst ds)) (n:M1 a=none):Rep K M1 H (.lst ds) (.ref a):=by
 obtain⟨vs,r,t⟩:=hr a _ e;simp only[Rep];exact⟨a,vs,rfl,⟨r,n⟩,t.ext (Ext.le h)⟩
mutual
def noL:D->Bool
 |.tup ds=>yE ds
 |.lst _=>false
 |.scr _=>false
 |.emp=>false
 |.box _ _=>false
 |_=>true
def yE:List D->Bool
 |[]=>true
 |d::ds=>noL d&&yE ds
end
mutual
theorem Rep.hard:∀{d:D}{v:V},noL d=true->Rep K M H d v->(∀a xs,Rd H a (.tup xs)->M' a=none)->Rep K M' H d v
 |.non,_,_,h,_=>h
 |.bl _,_,_,h,_=>h
 |.int _,_,_,h,_=>h
 |.str _,_,_,h,_=>h
 |.ref _,_,_,h,_=>h
 |.emp,_,n,_,_=>by simp[noL]at n
 |.box _ _,_,n,_,_=>by simp[noL]at n
 |.lst _,_,n,_,_=>by simp[noL]at n
 |.scr _,_,n,_,_=>by simp[noL]at n
 |.tup ds,_,n,h,e=>by
  simp only[Rep]at h ⊢;obtain⟨a,vs,rfl,h1,h2⟩:=h;refine⟨a,vs,rfl,?_,aj.hard (by simpa[noL]using n) h2 e⟩;rcases h1 with⟨r,_⟩|r
  ·exact .inl ⟨r,e a vs r⟩
  ·exact .inr r
theorem aj.hard:∀{ds:List D}{vs:List V},yE ds=true->aj K M H ds vs->(∀a xs,Rd H a (.tup xs)->M' a=none)->aj K M' H ds vs
 |[],_,_,h,_=>h
 |d::ds,_,n,h,e=>by
  simp only[aj]at h ⊢;obtain⟨v,ws,rfl,h1,h2⟩:=h;simp only[yE,K9]at n;exact⟨v,ws,rfl,Rep.hard n.1 h1 e,aj.hard n.2 h2 e⟩
end
abbrev DE:=List (Option D)
def SR(K:o0) (M:DH) (H:Hp) (σ:St) (Δ:DE):Prop:=σ.length=Δ.length/\∀(i:Nat) (d:D),Δ[i]?=some (some d)->∃v,σ[i]?=some (some v)/\Rep K M H d v
theorem SR.ext{σ:St}{Δ:DE}(h:SR K M H σ Δ) (e:Ext M H M' H'):SR K M' H' σ Δ:=⟨h.1,fun i d q=>let⟨v,a,r⟩:=h.2 i d q;⟨v,a,r.ext e⟩⟩
theorem SR.set{σ:St}{Δ:DE}{d:D}{v:V}(h:SR K M H σ Δ) (i:Nat) (r:Rep K M H d v):SR K M H (σ.set i (some v)) (Δ.set i (some d)):=by
 refine⟨by simp[h.1],fun j e q=>?_⟩
 by_cases hj:j=i
 ·subst hj
  by_cases hl:j<Δ.length
  ·rw[R7 hl]at q;cases q;exact⟨v,R7 (by rw[h.1];exact hl),r⟩
  ·rw[List.getElem?_eq_none (by simp;lia)]at q;cases q
 ·rw[List.getElem?_set_ne (aa0 hj)]at q ⊢;exact h.2 j e q
abbrev TEd:=DE->DH->(D->DH->Prop)->Prop
abbrev TAd:=DE->DH->(List D->DH->Prop)->Prop
abbrev TTd:=DE->DH->(Bool->DH->Prop)->Prop
structure dU where
 nx:DE->DH->Prop
 rt:D->DH->Prop
 bk:DE->DH->Prop:=fun _ _=>False
 ct:DE->DH->Prop:=fun _ _=>False
abbrev TSd:=dU->DE->DH->Prop
def up(K:o0) (t:TEd):TE:=fun σ H Q=>∃(Δ:DE) (M:DH) (R:D->DH->Prop),SR K M H σ Δ/\HR K M H/\t Δ M R /\
 ∀d M' v H',R d M'->Ext M H M' H'->HR K M' H'->Rep K M' H' d v->Q v H'
def upA(K:o0) (t:TAd):TA:=fun σ H Q=>∃(Δ:DE) (M:DH) (R:List D->DH->Prop),SR K M H σ Δ/\HR K M H/\t Δ M R /\
 ∀ds M' vs H',R ds M'->Ext M H M' H'->HR K M' H'->aj K M' H' ds vs->Q vs H'
def upT(K:o0) (t:TTd):TT:=fun σ H Q=>∃(Δ:DE) (M:DH) (R:Bool->DH->Prop),SR K M H σ Δ/\HR K M H/\t Δ M R /\
 ∀b M' H',R b M'->Ext M H M' H'->HR K M' H'->Q b H'
theorem upT.el{K:o0}{t:TTd}{σ:St}{H:Hp}{Q:Bool->Hp->Prop}{P:Prop}(h:upT K t σ H Q) (f:∀(Δ:DE) (M:DH) (R:Bool->DH->Prop),SR K M H σ Δ->HR K M H->t Δ M R->(∀b M' H',R b M'->Ext M H M' H'->HR K M' H'->Q b H')->P):P:=by
 obtain⟨x1,x2,x3,a,b,c,d⟩:=h;exact f x1 x2 x3 a b c d
theorem up.el{K:o0}{t:TEd}{σ:St}{H:Hp}{Q:VK}{P:Prop}(h:up K t σ H Q) (f:∀(Δ:DE) (M:DH) (R:D->DH->Prop),SR K M H σ Δ->HR K M H->t Δ M R->(∀d M' v H',R d M'->Ext M H M' H'->HR K M' H'->Rep K M' H' d v->Q v H')->P):P:=by
 obtain⟨x1,x2,x3,a,b,c,d⟩:=h;exact f x1 x2 x3 a b c d
theorem upA.el{K:o0}{t:TAd}{σ:St}{H:Hp}{Q:List V->Hp->Prop}{P:Prop}(h:upA K t σ H Q) (f:∀(Δ:DE) (M:DH) (R:List D->DH->Prop),SR K M H σ Δ->HR K M H->t Δ M R->(∀ds M' vs H',R ds M'->Ext M H M' H'->HR K M' H'->aj K M' H' ds vs->Q vs H')->P):P:=by
 obtain⟨x1,x2,x3,a,b,c,d⟩:=h;exact f x1 x2 x3 a b c d
structure UpE(K:o0) (E:dU) (D:o7) (M:DH) (H:Hp):Prop where
 nx:∀ Δ' M' σ' H',E.nx Δ' M'->Ext M H M' H'->HR K M' H'->SR K M' H' σ' Δ'->D.nx σ' H'
 bk:∀ Δ' M' σ' H',E.bk Δ' M'->Ext M H M' H'->HR K M' H'->SR K M' H' σ' Δ'->D.bk σ' H'
 ct:∀ Δ' M' σ' H',E.ct Δ' M'->Ext M H M' H'->HR K M' H'->SR K M' H' σ' Δ'->D.ct σ' H'
 rt:∀d M' v H',E.rt d M'->Ext M H M' H'->HR K M' H'->Rep K M' H' d v->D.rt v H'
theorem UpE.ext{E:dU}{D:o7}(u:UpE K E D M H) (e:Ext M H M' H'):UpE K E D M' H' :=
 ⟨fun a b c d h x=>u.nx a b c d h (e.trans x),fun a b c d h x=>u.bk a b c d h (e.trans x),fun a b c d h x=>u.ct a b c d h (e.trans x),fun a b c d h x=>u.rt a b c d h (e.trans x)⟩
def upS(K:o0) (t:TSd):TS:=fun D σ H=>∃(Δ:DE) (M:DH) (E:dU),SR K M H σ Δ/\HR K M H/\t E Δ M/\UpE K E D M H
theorem upS.el{K:o0}{t:TSd}{E:o7}{σ:St}{H:Hp}{P:Prop}(h:upS K t E σ H) (f:∀(Δ:DE) (M:DH) (R:dU),SR K M H σ Δ->HR K M H->t R Δ M->UpE K R E M H->P):P:=by
 obtain⟨x1,x2,x3,a,b,c,d⟩:=h;exact f x1 x2 x3 a b c d
def PEd(X:Cx) (e:K1) (t:TEd):Prop:=PE X e (up X.K t)
def PAd(X:Cx) (es:List K1) (t:TAd):Prop:=PA X es (upA X.K t)
def PTd(X:Cx) (e:K1) (t:TTd):Prop:=PT X e (upT X.K t)
def PWd(X:Cx) (e:K1) (t:TTd):Prop:=PW X e (upT X.K t)
def PSd(X:Cx) (st:X8) (t:TSd):Prop:=PS X st (upS X.K t)
def zR(X:Cx) (st:List X8) (t:TSd):Prop:=PSs X st (upS X.K t)
theorem PE.conv{X:Cx}{e:K1}{t t':TE}(h:PE X e t) (k:∀ σ H Q,t' σ H Q->t σ H Q):PE X e t':=fun p s σ H Q I q=>h p s σ H Q I (k σ H Q q)
theorem PT.conv{X:Cx}{e:K1}{t t':TT}(h:PT X e t) (k:∀ σ H Q,t' σ H Q->t σ H Q):PT X e t':=fun p s σ H Q I q=>h p s σ H Q I (k σ H Q q)
theorem PA.conv{X:Cx}{e:List K1}{t t':TA}(h:PA X e t) (k:∀ σ H Q,t' σ H Q->t σ H Q):PA X e t':=fun ps p s σ H Q I q=>h ps p s σ H Q I (k σ H Q q)
theorem PS.conv{X:Cx}{e:X8}{t t':TS}(h:PS X e t) (k:∀D σ H,t' D σ H->t D σ H):PS X e t':=fun p s σ H D I q=>h p s σ H D I (k D σ H q)
theorem PSs.conv{X:Cx}{e:List X8}{t t':TS}(h:PSs X e t) (k:∀D σ H,t' D σ H->t D σ H):PSs X e t':=fun p s σ H D I q=>h p s σ H D I (k D σ H q)
section
variable{X:Cx}{a b c:K1}{es:List K1}{ta tb:TEd}{pos:Pos}
def gN(i:Nat):TEd:=fun Δ M Q=>∃d,Δ[i]?=some (some d)/\Q d M
def dC(d:D):TEd:=fun _ M Q=>Q d M
theorem yU{x:Str}{i:Int}{t:Tok}{pos:Pos}(hg:Gl X x) (hm:X.mg x=some (.int i t)) (hd:(x==("__debug__":Str))=false:=by decide):PEd X (.Name x pos) (dC (.int i)) :=
 (o5 (v:=.int i) hg hm ⟨t,rfl⟩ hd).conv fun σ H Q hup=>hup.el fun Δ M R sr hr q k=>k _ M _ H q (Ext.refl _ _) hr (by simp[Rep])
theorem yM{x y:Str}{t:Tok}{pos:Pos}(hg:Gl X x) (hm:X.mg x=some (.str y t)) (hd:(x==("__debug__":Str))=false:=by decide):PEd X (.Name x pos) (dC (.str y)) :=
 (o5 (v:=.str y) hg hm ⟨t,rfl⟩ hd).conv fun σ H Q hup=>hup.el fun Δ M R sr hr q k=>k _ M _ H q (Ext.refl _ _) hr (by simp[Rep])
def EY:TAd:=fun _ M Q=>Q [] M
def A7(ta:TEd) (tr:TAd):TAd:=fun Δ M Q=>ta Δ M fun x M1=>tr Δ M1 fun xs M2=>Q (x::xs) M2
def EE(t:TAd):TEd:=fun Δ M Q=>t Δ M fun ds M1=>ds.length<=H0/\Q (.tup ds) M1
def D6(t:TAd):TEd:=fun Δ M Q=>t Δ M fun ds M1=>ds.length<=H0/\Q (.lst ds) M1
def Bb(t:TAd):TEd:=fun Δ M Q=>t Δ M fun ds M1=>ds.length<=H0/\∀p,M1 p=none->Q (.ref p) (aG M1 p (.lst ds))
def rdM(M:DH):D->D
 |.ref a=>match M a with|some (.lst ds)=>.lst ds|_=>.ref a
 |d=>d
def aM(K:o0) (M:DH) (H:Hp) (d:D) (v:V):Prop:=match d with
 |.tup ds=>∃a vs,v=.ref a/\SqT K H a vs/\aj K M H ds vs
 |.lst ds=>∃a vs,v=.ref a/\H a=some (.lst vs)/\aj K M H ds vs
 |.scr ds=>∃a vs,v=.ref a/\SqL K H a vs/\aj K M H ds vs
 |d=>Rep K M H d v
theorem nv.sq{K:o0}{M:DH}{H:Hp}{a:J5}{vs:List V}(h:nv K M H a vs):SqT K H a vs:=by
 rcases h with⟨h,_⟩|h
 ·exact .inl h
 ·rcases h with(h|⟨_,h⟩)|h
  ·cases h
  ·cases h
  ·exact .inr h
theorem nX.sq{K:o0}{M:DH}{H:Hp}{a:J5}{vs:List V}(h:nX K M H a vs):SqL K H a vs:=by
 rcases h with⟨⟨o,h⟩,_⟩|h
 ·exact .inl (.inr ⟨o,h⟩)
 ·rcases h with(h|⟨_,h⟩)|h
  ·cases h
  ·cases h
  ·exact .inr h
theorem Rep.rd{K:o0}{M:DH}{H:Hp}{d:D}{v:V}(hr:HR K M H) (h:Rep K M H d v):aM K M H (rdM M d) v:=by
 cases d with
 |tup ds=>simp only[Rep]at h;obtain⟨a,vs,e,t,r⟩:=h;exact⟨a,vs,e,t.sq,r⟩
 |lst ds=>simp only[Rep]at h;obtain⟨a,vs,e,t,r⟩:=h;exact⟨a,vs,e,t.1,r⟩
 |scr ds=>simp only[Rep]at h;obtain⟨a,vs,e,t,r⟩:=h;exact⟨a,vs,e,t.sq,r⟩
 |ref a =>
  simp only[rdM];cases q:M a with
  |none=>exact h
  |some o =>
   cases o with
   |lst ds =>
    obtain⟨vs,e,r⟩:=hr a _ q;simp only[Rep]at h;exact⟨a,vs,h,e,r⟩
   |dK _=>exact h
   |dT _=>exact h
   |dKr _ _ _=>exact h
   |ins _ _=>exact h
   |ext _ _=>exact h
 |non=>exact h
 |bl b=>exact h
 |int i=>exact h
 |str x=>exact h
 |emp=>exact h
 |box _ _=>exact h
def bK(X:Cx) (f:u8->u8->Sem u8) (r:D->D->Option D):Prop :=
 ∀(aa:List (J5×Obj)) (s:v0) (σ:St) (H:Hp) (M:DH) (x y:V) (v u:u8) (dx dy dz:D) (Q:VK),Inv X aa σ H s->HR X.K M H->aA x v->aA y u->aM X.K M H dx x->aM X.K M H dy y->r dx dy=some dz ->
  (∀w H',Ext M H M H'->HR X.K M H'->Rep X.K M H' dz w->Q w H')->K4 (K5 X.prog X.w) X.A (f v u) (EP X aa σ Q) X.xe s
def Et(X:Cx) (f:u8->Sem u8) (r:D->Option D):Prop :=
 ∀(aa:List (J5×Obj)) (s:v0) (σ:St) (H:Hp) (M:DH) (x:V) (v:u8) (dx dz:D) (Q:VK),Inv X aa σ H s->HR X.K M H->aA x v->aM X.K M H dx x->r dx=some dz ->
  (∀w H',Ext M H M H'->HR X.K M H'->Rep X.K M H' dz w->Q w H')->K4 (K5 X.prog X.w) X.A (f v) (EP X aa σ Q) X.xe s
def cg(X:Cx) (f:u8) (r:List D->Option D):Prop :=
 ∀(aa:List (J5×Obj)) (s:v0) (σ:St) (H:Hp) (M:DH) (xs:List V) (us:List u8) (ds:List D) (dz:D) (Q:VK),Inv X aa σ H s->HR X.K M H->ar xs us->P5 (aM X.K M H) ds xs->r ds=some dz ->
  (∀w H',Ext M H M H'->HR X.K M H'->Rep X.K M H' dz w->Q w H')->K4 (K5 X.prog X.w) X.A (call f us) (EP X aa σ Q) X.xe s
def dOp(r:D->D->Option D) (ta tb:TEd):TEd:=fun Δ M Q=>ta Δ M fun x M1=>tb Δ M1 fun y M2=>∃z,r (rdM M2 x) (rdM M2 y)=some z/\Q z M2
def dUn(r:D->Option D) (ta:TEd):TEd:=fun Δ M Q=>ta Δ M fun x M1=>∃z,r (rdM M1 x)=some z/\Q z M1
def opV(K:o0) (r:D->D->Option D):R2:=fun x y H Q=>∃dx dy dz M,HR K M H/\aM K M H dx x/\aM K M H dy y/\r dx dy=some dz/\∀w H',Ext M H M H'->HR K M H'->Rep K M H' dz w->Q w H'
theorem bK.v{f:u8->u8->Sem u8}{r:D->D->Option D}(h:bK X f r):OpR X f (opV X.K r):=fun aa s σ H x y v u Q I rx ry ⟨dx,dy,dz,M,hr,r1,r2,e,k⟩=>h aa s σ H M x y v u dx dy dz Q I hr rx ry r1 r2 e k
theorem wk{K:o0}{r:D->D->Option D}{ta tb:TEd}:∀ σ H Q,up K (dOp r ta tb) σ H Q->tOp (opV K r) (up K ta) (up K tb) σ H Q:=fun σ H Q hup=>hup.el fun Δ M R sr hr q k =>
 ⟨Δ,M,_,sr,hr,q,fun x M1 v H1 q1 e1 hr1 rv=>⟨Δ,M1,_,sr.ext e1,hr1,q1,fun y M2 u H2 ⟨z,ez,q2⟩ e2 hr2 ru=>⟨_,_,z,M2,hr2,(rv.ext e2).rd hr2,ru.rd hr2,ez,fun w H' e3 hr3 rw_=>k z M2 w H' q2 ((e1.trans e2).trans e3) hr3 rw_⟩⟩⟩
def qB(t:TEd):TTd:=fun Δ M Q=>t Δ M fun x M1=>∃k,x=.bl k/\Q k M1
theorem DS{K:o0}{t:TEd}:∀ σ H Q,upT K (qB t) σ H Q->AU (up K t) σ H Q:=fun σ H Q hup=>hup.el fun Δ M R sr hr q k =>
 ⟨Δ,M,_,sr,hr,q,fun d M1 v H1 ⟨b,e,q1⟩ e1 hr1 rv=>⟨b,by subst e;simpa only[Rep]using rv,k b M1 H1 q1 e1 hr1⟩⟩
def AO(t:TTd):TTd:=fun Δ M Q=>t Δ M fun c M1=>Q (!c) M1
def tT(t u:TTd):TTd:=fun Δ M Q=>t Δ M fun c M1=>if c=true then u Δ M1 Q else Q false M1
def Fo(t u:TTd):TTd:=fun Δ M Q=>t Δ M fun c M1=>if c=true then Q true M1 else u Δ M1 Q
variable{tA tB':TTd}{aH:List K1}
theorem PW.conv{X:Cx}{e:K1}{t t':TT}(h:PW X e t) (k:∀ σ H Q,t' σ H Q->t σ H Q):PW X e t':=fun w p s σ H Q I q=>h w p s σ H Q I (k σ H Q q)
theorem PWd.pt{e:K1}{t:TTd}(h:PWd X e t):PTd X e t:=PW.pt h
def EW(ta tb:TEd):TEd:=fun Δ M Q=>ta Δ M fun x M1=>∃c,x=.bl c/\if c=true then tb Δ M1 Q else Q (.bl false) M1
def Fu(ta:TEd):TEd:=fun Δ M Q=>ta Δ M fun x M1=>∃c,x=.bl c/\Q (.bl (!c)) M1
def wo(r r':D->D->Option D) (ta tb tc:TEd):TEd:=fun Δ M Q=>ta Δ M fun x M1=>tb Δ M1 fun y M2=>∃k,r (rdM M2 x) (rdM M2 y)=some (.bl k)/\if k=true then tc Δ M2 fun z M3=>∃w,r' (rdM M3 y) (rdM M3 z)=some w/\Q w M3 else Q (.bl false) M2
theorem uC{K:o0}{M:DH}{H:Hp}(hr:HR K M H):∀{ds:List D}{vs:List V},aj K M H ds vs->P5 (aM K M H) (ds.map (rdM M)) vs
 |[],_,h=>by simp only[aj]at h;subst h;exact .nil
 |d::ds,_,h=>by
  simp only[aj]at h;obtain⟨v,ws,rfl,h1,h2⟩:=h;exact .cons (h1.rd hr) (uC hr h2)
def dCB(r:List D->Option D) (t:TAd):TEd:=fun Δ M Q=>t Δ M fun ds M1=>∃z,r (ds.map (rdM M1))=some z/\Q z M1
theorem AV{K:o0}{r:List D->Option D}{t:TAd}:∀ σ H Q,up K (dCB r t) σ H Q->tCB (fun xs H Q=>∃ds dz M,HR K M H/\P5 (aM K M H) ds xs/\r ds=some dz/\∀w H',Ext M H M H'->HR K M H'->Rep K M H' dz w->Q w H') (upA K t) σ H Q:=fun σ H Q hup=>hup.el fun Δ M R sr hr q k =>
 ⟨Δ,M,_,sr,hr,q,fun ds M1 vs H1 ⟨z,ez,q1⟩ e1 hr1 rv=>⟨_,z,M1,hr1,uC hr1 rv,ez,fun w H' e2 hr2 r2=>k z M1 w H' q1 (e1.trans e2) hr2 r2⟩⟩
theorem cg.v{f:u8}{r:List D->Option D}(h:cg X f r):cV X f (fun xs H Q=>∃ds dz M,HR X.K M H/\P5 (aM X.K M H) ds xs/\r ds=some dz/\∀w H',Ext M H M H'->HR X.K M H'->Rep X.K M H' dz w->Q w H') :=
 fun aa s σ H xs us Q I rv ⟨ds,dz,M,hr,rr,e,k⟩=>h aa s σ H M xs us ds dz Q I hr rv rr e k
end
section
variable{X:Cx}
theorem bK.of{f:u8->u8->Sem u8}{r2:R2}{r:D->D->Option D}(h:OpR X f r2)
  (k:∀(H:Hp) (M:DH) (x y:V) (dx dy dz:D) (Q:VK),HR X.K M H->aM X.K M H dx x->aM X.K M H dy y->r dx dy=some dz->(∀w H',Ext M H M H'->HR X.K M H'->Rep X.K M H' dz w->Q w H')->r2 x y H Q):bK X f r :=
 fun aa s σ H M x y v u dx dy dz Q I hr rx ry r1 r2 e q=>h aa s σ H x y v u Q I rx ry (k H M x y dx dy dz Q hr r1 r2 e q)
theorem cg.of{f:u8}{r2:List V->Hp->VK->Prop}{r:List D->Option D}(h:cV X f r2)
  (k:∀(H:Hp) (M:DH) (xs:List V) (ds:List D) (dz:D) (Q:VK),HR X.K M H->P5 (aM X.K M H) ds xs->r ds=some dz->(∀w H',Ext M H M H'->HR X.K M H'->Rep X.K M H' dz w->Q w H')->r2 xs H Q):cg X f r :=
 fun aa s σ H M xs us ds dz Q I hr rv r1 e q=>h aa s σ H xs us Q I rv (k H M xs ds dz Q hr r1 e q)
theorem gQ{K:o0}{M:DH}{H:Hp}{i:Int}{v:V}(h:aM K M H (.int i) v):v=.int i:=by simpa[aM,Rep]using h
theorem mQ{K:o0}{M:DH}{H:Hp}{i:Str}{v:V}(h:aM K M H (.str i) v):v=.str i:=by simpa[aM,Rep]using h
def iOp(f:Int->Int->Option D):D->D->Option D
 |.int a,.int b=>f a b
 |_,_=>none
theorem lP{f:Int->Int->Option D}{x y z:D}(h:iOp f x y=some z):∃a b,x=.int a/\y=.int b/\f a b=some z:=by
 cases x<;>first|cases h|skip
 rename_i a;cases y<;>first|cases h|skip
 rename_i b;exact⟨a,b,rfl,rfl,h⟩
noncomputable def aX:D->Bool
 |.non=>true|.bl _=>true|.int _=>true|.str _=>true|_=>false
def toV:D->V
 |.bl b=>.bl b|.int i=>.int i|.str x=>.str x|_=>.non
theorem qX{K:o0}{M:DH}{H:Hp}{d:D}(h:aX d=true):Rep K M H d (toV d):=by
 cases d<;>first|(simp[Rep,toV];done)|cases h
theorem nt{f:u8->u8->Sem u8}{C:Int->Int->Prop} [∀i j,Decidable (C i j)] {g:Int->Int->D}(hs:∀i j,aX (g i j)=true) (h:OpR X f (rI C fun i j=>toV (g i j))) :
  bK X f (iOp fun i j=>if C i j then some (g i j)else none) :=
 bK.of h fun H M x y dx dy dz Q hr r1 r2 e q=>by
  obtain⟨a,b,rfl,rfl,e'⟩:=lP e;clear e;have e:=e'
  by_cases hc:C a b
  ·rw[if_pos hc]at e;cases e;exact⟨a,b,gQ r1,gQ r2,hc,q _ _ (Ext.refl _ _) hr (qX (hs a b))⟩
  ·rw[if_neg hc]at e;cases e
theorem lY{f:u8->u8->Sem u8}{g:Int->Int->D}(hs:∀i j,aX (g i j)=true) (h:OpR X f (rI0 fun i j=>toV (g i j))) :
  bK X f (iOp fun i j=>some (g i j)) :=
 bK.of h fun H M x y dx dy dz Q hr r1 r2 e q=>by
  obtain⟨a,b,rfl,rfl,e⟩:=lP e;cases e;exact⟨a,b,gQ r1,gQ r2,q _ _ (Ext.refl _ _) hr (qX (hs a b))⟩
instance:∀i j,Decidable (qh i j):=fun i j=>by unfold qh;exact inferInstance
instance:∀i j,Decidable (jC i j):=fun i j=>by unfold jC;exact inferInstance
instance:∀i j,Decidable (mS i j):=fun i j=>by unfold mS;exact inferInstance
theorem qD:bK X (O2 .Sub) (iOp fun i j=>some (.int (i-j))):=lY (fun _ _=>rfl) Cv
theorem Ci:bK X (O2 .Mult) (iOp fun i j=>if jC i j then some (.int (i*j))else none):=nt (fun _ _=>rfl) Cd
theorem fZ:bK X (O2 .FloorDiv) (iOp fun i j=>if qh i j then some (.int (i / j))else none):=nt (fun _ _=>rfl) zY
theorem bS:bK X (O2 .Mod) (iOp fun i j=>if 0<j then some (.int (i % j))else none):=nt (C:=fun _ j=>0<j) (fun _ _=>rfl) CG
theorem ES:bK X (O2 .Pow) (iOp fun i j=>if mS i j then some (.int (i ^ j.toNat))else none):=nt (fun _ _=>rfl) BN
theorem BQ:bK X (K8 .Lt) (iOp fun i j=>some (.bl (decide (i<j)))):=lY (fun _ _=>rfl) DL
theorem mR:bK X (K8 .LtE) (iOp fun i j=>some (.bl (decide (i<=j)))):=lY (fun _ _=>rfl) Fc
theorem Eh:bK X (K8 .Gt) (iOp fun i j=>some (.bl (decide (j<i)))):=lY (fun _ _=>rfl) FO
theorem Gj:bK X (K8 .GtE) (iOp fun i j=>some (.bl (decide (j<=i)))):=lY (fun _ _=>rfl) Fe
theorem aj.at_{K:o0}{M:DH}{H:Hp}{ds:List D}{vs:List V}{i:Int}{d:D}(h:aj K M H ds vs) (e:atI ds i=some d):∃v,atI vs i=some v/\Rep K M H d v:=by
 unfold atI at e ⊢;rw[<-h.length];cases q:ixN ds.length i with
 |none=>rw[q]at e;cases e
 |some j =>
  rw[q]at e;have e':ds[j]?=some d:=e;obtain⟨v,a,b⟩:=h.get e';exact⟨v,a,b⟩
def ixD:D->D->Option D
 |.tup ds,.int i=>atI ds i
 |.lst ds,.int i=>atI ds i
 |.scr ds,.int i=>atI ds i
 |.str z,.int i=>if z.length<=H0 then(atI z.cps.toList i).map fun c=>.str ⟨#[c]⟩else none
 |_,_=>none
theorem aN:IxR X (opV X.K ixD):=by
 intro value slice aa s σ H x y v u Q I rx ry h hs;obtain⟨dx,dy,dz,M,hr,r1,r2,e,k⟩:=h;cases dx with
 |tup ds =>
  cases dy with
  |int i =>
   obtain⟨a,vs,rfl,sq,rl⟩:=r1;obtain⟨w,e2,rw_⟩:=rl.at_ e;exact BU value slice aa s σ H _ _ v u Q I rx ry ⟨a,vs,i,w,rfl,gQ r2,sq,e2,k w H (Ext.refl _ _) hr rw_⟩ hs
  |_=>cases e
 |lst ds =>
  cases dy with
  |int i =>
   obtain⟨a,vs,rfl,sq,rl⟩:=r1;obtain⟨w,e2,rw_⟩:=rl.at_ e;exact ui value slice aa s σ H _ _ v u Q I rx ry ⟨a,vs,i,w,rfl,gQ r2,SqL.of sq,e2,k w H (Ext.refl _ _) hr rw_⟩ hs
  |_=>cases e
 |scr ds =>
  cases dy with
  |int i =>
   obtain⟨a,vs,rfl,sq,rl⟩:=r1;obtain⟨w,e2,rw_⟩:=rl.at_ e;exact ui value slice aa s σ H _ _ v u Q I rx ry ⟨a,vs,i,w,rfl,gQ r2,sq,e2,k w H (Ext.refl _ _) hr rw_⟩ hs
  |_=>cases e
 |str z =>
  cases dy with
  |int i =>
   simp only[ixD]at e
   by_cases hz:z.length<=H0
   ·rw[if_pos hz]at e;cases q:atI z.cps.toList i with
    |none=>rw[q]at e;cases e
    |some c =>
     rw[q]at e;cases e;exact CA value slice aa s σ H _ _ v u Q I rx ry ⟨z,i,c,mQ r1,gQ r2,hz,q,k _ H (Ext.refl _ _) hr (by simp[Rep])⟩ hs
   ·rw[if_neg hz]at e;cases e
  |_=>cases e
 |_=>cases e
noncomputable def oV:D->D->Option D
 |.int a,.int b=>some (.int (a+b))
 |.str a,.str b=>if a.length+b.length<=H0 then some (.str (a++b))else none
 |.lst a,.lst b=>if a.length+b.length<=H0 then some (.lst (a++b))else none
 |.tup a,.tup b=>if a.length+b.length<=H0 then some (.tup (a++b))else none
 |_,_=>none
theorem dM{K:o0}{M:DH}{H:Hp}{p:J5}{ds:List D}{vs:List V}{Q:VK}(hr:HR K M H) (hp:H p=none) (r:aj K M H ds vs) (q:∀w H',Ext M H M H'->HR K M H'->Rep K M H' (.lst ds) w->Q w H'):Q (.ref p) (upd H p (.lst vs)) :=
 q _ _ (Ext.new hr hp) (hr.new hp) (by simp only[Rep];exact⟨p,vs,rfl,⟨aL,hr.fresh hp⟩,r.ext (Ext.new hr hp)⟩)
theorem om{K:o0}{M:DH}{H:Hp}{p:J5}{ds:List D}{vs:List V}{Q:VK}(hr:HR K M H) (hp:H p=none) (r:aj K M H ds vs) (q:∀w H',Ext M H M H'->HR K M H'->Rep K M H' (.tup ds) w->Q w H'):Q (.ref p) (upd H p (.tup vs)) :=
 q _ _ (Ext.new hr hp) (hr.new hp) (by simp only[Rep];exact⟨p,vs,rfl,.inl ⟨.inl aL,hr.fresh hp⟩,r.ext (Ext.new hr hp)⟩)
theorem aM.tup{K:o0}{M:DH}{H:Hp}{ds:List D}{v:V}(hr:HR K M H) (h:aM K M H (.tup ds) v):Rep K M H (.tup ds) v:=by
 obtain⟨a,vs,rfl,sq,rl⟩:=h;simp only[Rep];refine⟨a,vs,rfl,?_,rl⟩;rcases sq with r|k
 ·refine .inl ⟨r,?_⟩;cases q:M a with
  |none=>rfl
  |some o =>
   obtain⟨u,z,m⟩:=(hr a _ q).some;rcases r with r|⟨ob,r⟩
   ·rw[z]at r;exact absurd (N8 r) (m _).1
   ·rw[z]at r;exact absurd (N8 r) ((m _).2 ob)
 ·exact .inr (.inr k)
theorem wI{prog:K6}{w:O3}{A:N6}{E:u8->v0->Prop}{s:v0}{t b:J5}{ws:List u8}{Q:u8->v0->Prop}(ht:ab4 s.heap t ([]:List u8).toArray) (hb:ab4 s.heap b ws.toArray)
  (h:Q (.ref b) s):K4 (K5 prog w) A (O2 .Add (.ref t) (.ref b)) Q E s:=by
 obtain⟨⟨cls,dd,data,sl⟩,ho,hc,n,hd⟩:=id ht;obtain⟨⟨cls2,dd2,data2,sl2⟩,ho2,hc2,n2,hd2⟩:=id hb;simp only at hc hd hc2 hd2;subst hc hd hc2 hd2;exact concat_meets ⟨_,ho,rfl⟩ ⟨_,ho2,rfl⟩ noFill_tuple_add seq_tuple_add PySem.F.slot_tuple_add PySem.F.entry_tuple_add (PySem.F.args_tuple_add_2 _ _)
   (tuple_addW0 t b ([]:List u8).toArray ws.toArray n n2 dd dd2 sl sl2 (by simp)) ⟨ho,ho2,h⟩
theorem aP:bK X (O2 .Add) oV:=by
 intro aa s σ H M x y v u dx dy dz Q I hr rx ry r1 r2 e k;cases dx with
 |int a =>
  cases dy with
  |int b =>
   cases e;exact C4 aa s σ H x y v u Q I rx ry ⟨a,b,gQ r1,gQ r2,k _ H (Ext.refl _ _) hr (by simp[Rep])⟩
  |_=>cases e
 |str a =>
  cases dy with
  |str b =>
   simp only[oV]at e
   by_cases hz:a.length+b.length<=H0
   ·rw[if_pos hz]at e;cases e;exact sL aa s σ H x y v u Q I rx ry ⟨a,b,mQ r1,mQ r2,hz,k _ H (Ext.refl _ _) hr (by simp[Rep])⟩
   ·rw[if_neg hz]at e;cases e
  |_=>cases e
 |lst a =>
  cases dy with
  |lst b =>
   simp only[oV]at e
   by_cases hz:a.length+b.length<=H0
   ·rw[if_pos hz]at e;cases e;obtain⟨l1,vs,rfl,h1,l1r⟩:=r1;obtain⟨l2,ws,rfl,h2,l2r⟩:=r2;exact Cf aa s σ H _ _ v u Q I rx ry ⟨l1,l2,vs,ws,rfl,rfl,h1,h2,by rw[<-l1r.length,<-l2r.length];exact hz,fun p hp=>dM hr hp (l1r.append l2r) k⟩
   ·rw[if_neg hz]at e;cases e
  |_=>cases e
 |tup a =>
  cases dy with
  |tup b =>
   simp only[oV]at e
   by_cases hz:a.length+b.length<=H0
   ·rw[if_pos hz]at e;cases e;have t1:=aM.tup hr r1;have t2:=aM.tup hr r2;obtain⟨l1,vs,rfl,h1,l1r⟩:=r1;obtain⟨l2,ws,rfl,h2,l2r⟩:=r2
    by_cases hv:vs=[]
    ·subst hv;have ea:a=[]:=by
      have:=l1r.length;cases a with
      |nil=>rfl
      |cons _ _=>simp at this
     subst ea;cases rx;cases ry;obtain⟨its,q1,p1,_⟩:=I.tuple h1;obtain⟨its2,q2,p2,_⟩:=I.tuple h2;cases q1;exact wI p1 p2 ⟨.ref l2,H,I,rfl,k _ H (Ext.refl _ _) hr t2⟩
    ·refine zQ aa s σ H _ _ v u Q I rx ry ⟨l1,l2,vs,ws,rfl,rfl,h1,h2,hv,by rw[<-l1r.length,<-l2r.length];exact hz,fun hw=>?_,fun _ p hp=>om hr hp (l1r.append l2r) k⟩;subst hw;have eb:b=[]:=by
      have:=l2r.length;cases b with
      |nil=>rfl
      |cons _ _=>simp at this
     subst eb;rw[V4]at k;exact k _ H (Ext.refl _ _) hr t1
   ·rw[if_neg hz]at e;cases e
  |_=>cases e
 |_=>cases e
mutual
def eqD:D->D->Bool
 |.non,.non=>true
 |.bl a,.bl b=>a==b
 |.bl a,.int b=>(if a then 1 else 0)==b
 |.int a,.bl b=>a==(if b then 1 else 0)
 |.int a,.int b=>a==b
 |.str a,.str b=>a==b
 |.tup a,.tup b=>bZ a b
 |.lst a,.lst b=>bZ a b
 |_,_=>false
def bZ:List D->List D->Bool
 |[],[]=>true
 |a::as,b::bs=>eqD a b&&bZ as bs
 |_,_=>false
end
mutual
def dLe:D->Nat->Bool
 |.tup _,0=>false
 |.tup ds,n+1=>cn ds n
 |.lst _,0=>false
 |.lst ds,n+1=>cn ds n
 |.scr _,_=>false
 |.emp,_=>false
 |.box _ _,_=>false
 |.ref _,_=>false
 |_,_=>true
def cn:List D->Nat->Bool
 |[],_=>true
 |d::ds,n=>dLe d n&&cn ds n
end
theorem fQ:∀{ds:List D}{n i:Nat}{d:D},cn ds n=true->ds[i]?=some d->dLe d n=true
 |[],_,_,_,_,e=>by simp at e
 |d::ds,n,0,x,h,e=>by
  simp only[cn,K9]at h;simp at e;subst e;exact h.1
 |d::ds,n,i+1,x,h,e=>by
  simp only[cn,K9]at h;exact fQ h.2 (by simpa using e)
theorem eF:∀{ds:List D}{n:Nat},cn ds n=true↔∀d∈ds,dLe d n=true
 |[],n=>by simp[cn]
 |d::ds,n=>by simp[cn,eF (ds:=ds)]
def eqN(ds es:List D) (j:Nat):Bool:=match ds[j]?,es[j]? with|some a,some b=>eqD a b|_,_=>false
theorem pQ:∀{ds es:List D},bZ ds es=true->ds.length=es.length
 |[],[],_=>rfl
 |[],_::_,h=>by simp[bZ]at h
 |_::_,[],h=>by simp[bZ]at h
 |_::ds,_::es,h=>by
  simp only[bZ,K9]at h;simp[pQ h.2]
theorem mh:∀{ds es:List D},bZ ds es=((U1 (min ds.length es.length)).all (eqN ds es)&&ds.length==es.length)
 |[],[]=>by simp[bZ]
 |[],_::_=>by simp[bZ]
 |_::_,[]=>by simp[bZ]
 |a::ds,b::es=>by
  have ih:=@mh ds es;simp only[bZ,U8,Nat.add_min_add_right,List.range_succ_eq_map,T8,List.all_map];have e0:eqN (a::ds) (b::es) 0=eqD a b:=by simp[eqN]
  have e1:(eqN (a::ds) (b::es))∘Nat.succ=eqN ds es:=by
   funext j;simp[eqN]
  rw[e0,e1,ih];have e2:(ds.length+1==es.length+1)=(ds.length==es.length):=by
   rw[Bool.eq_iff_iff];simp
  rw[e2,Bool.and_assoc]
theorem vn{ds es:List D}(h:ds.length=es.length):bZ ds es=(U1 ds.length).all (eqN ds es):=by
 rw[mh,<-h,Nat.min_self];simp
theorem Rep.r{K:o0}{M:DH}{H:Hp}{d:D}{v:V}(h:Rep K M H d v):aM K M H d v:=by
 cases d with
 |tup ds=>simp only[Rep]at h;obtain⟨a,vs,e,t,r⟩:=h;exact⟨a,vs,e,t.sq,r⟩
 |lst ds=>simp only[Rep]at h;obtain⟨a,vs,e,t,r⟩:=h;exact⟨a,vs,e,t.1,r⟩
 |scr ds=>simp only[Rep]at h;obtain⟨a,vs,e,t,r⟩:=h;exact⟨a,vs,e,t.sq,r⟩
 |_=>exact h
theorem AR{aa:List (J5×Obj)}{σ:St}{H:Hp}{s:v0}{a:J5}{vs ws:List V}(I:Inv X aa σ H s) (h:SqT X.K H a vs) (h':H a=some (.lst ws)):False:=by
 obtain⟨its,r,⟨o,e,c,n,d⟩,_⟩:=I.tuple h;obtain⟨_,its',n',_,e'⟩:=I.hok a _ h';rw[e]at e';cases e';exact absurd (show u8.type "list"=u8.type "tuple" from c) (by decide)
theorem xm{aa:List (J5×Obj)}{σ:St}{H:Hp}{s:v0}(I:Inv X aa σ H s) {M M':DH}:∀(n:Nat) {d e:D}{v:V},dLe d n=true->dLe e n=true->aM X.K M H d v->aM X.K M' H e v->eqD d e=true:=by
  intro n
  induction n with
  | zero =>
    intro d e v hd he r1 r2;cases d<;>first|(simp[dLe]at hd;done)|skip
    all_goals cases e<;>first|(simp[dLe]at he;done)|skip
    all_goals (simp only[aM,Rep]at r1 r2;subst r1;first|(cases r2;simp[eqD];done)|cases r2)
  | succ n ih =>
    intro d e v hd he r1 r2;have lists:∀{ds es:List D} {vs:List V},cn ds n=true->cn es n=true->aj X.K M H ds vs->aj X.K M' H es vs->bZ ds es=true:=by
      intro ds
      induction ds with
      | nil =>
        intro es vs _ _ h1 h2;simp only[aj]at h1;subst h1;cases es with
        |nil=>simp[bZ]
        |cons _ _=>simp[aj]at h2
      | cons a ds ihl =>
        intro es vs d1 d2 h1 h2;simp only[aj]at h1;obtain⟨v,ws,rfl,h3,h4⟩:=h1;cases es with
        |nil=>simp[aj]at h2
        | cons b es =>
          simp only[aj]at h2;obtain⟨v',ws',e',h5,h6⟩:=h2;cases e';simp only[cn,K9]at d1 d2;simp only[bZ,K9];exact⟨ih d1.1 d2.1 h3.r h5.r,ihl d1.2 d2.2 h4 h6⟩
    cases d with
    | tup ds =>
      obtain⟨a,vs,rfl,sq,rl⟩:=r1;cases e with
      | tup es =>
        obtain⟨b,ws,e',sq',rl'⟩:=r2;cases e';have:=I.tuple_inj sq sq';subst this;simp only[eqD];exact lists (by simpa[dLe]using hd) (by simpa[dLe]using he) rl rl'
      | lst es =>
        obtain⟨b,ws,e',sq',rl'⟩:=r2;cases e';exact(AR I sq sq').elim
      |_=>first|(simp[dLe]at he;done)|(simp only[aM,Rep]at r2;cases r2)
    | lst ds =>
      obtain⟨a,vs,rfl,sq,rl⟩:=r1;cases e with
      | lst es =>
        obtain⟨b,ws,e',sq',rl'⟩:=r2;cases e';rw[sq]at sq';cases sq';simp only[eqD];exact lists (by simpa[dLe]using hd) (by simpa[dLe]using he) rl rl'
      | tup es =>
        obtain⟨b,ws,e',sq',rl'⟩:=r2;cases e';exact(AR I sq' sq).elim
      |_=>first|(simp[dLe]at he;done)|(simp only[aM,Rep]at r2;cases r2)
    | _ =>
      first
      |(simp[dLe]at hd;done)
      | (cases e with
         |tup es=>(obtain⟨b,ws,e',sq',rl'⟩:=r2;subst e';simp only[aM,Rep]at r1;cases r1)
         |lst es=>(obtain⟨b,ws,e',sq',rl'⟩:=r2;subst e';simp only[aM,Rep]at r1;cases r1)
         |_=>first|(simp[dLe]at he;done)|(simp only[aM,Rep]at r1 r2;subst r1;first|(cases r2;simp[eqD];done)|cases r2))
theorem aM.at{K:o0}{M:DH}{H:Hp}{d:D}{v:V}{u:u8}(r:aM K M H d v) (q:aA v u):match d with|.non=>u=.none|.bl b=>u=.bool b|.int i=>∃t,u=.int i t|.str x=>∃t,u=.str x t|_=>True:=by
 cases d<;>first|trivial|(simp only[aM,Rep]at r;subst r;exact q)
open PySem.SeqAt in
theorem ou{aa:List (J5×Obj)}{σ:St}{H:Hp}{s:v0}(I:Inv X aa σ H s) {M M':DH}:∀(n:Nat) {A:N6}{d e:D}{v w:V}{u1 u2:u8},A.units+n<aa5->dLe d n=true->dLe e n=true ->
  aM X.K M H d v->aM X.K M' H e w->aA v u1->aA w u2->EqAt A s u1 u2 (eqD d e)/\RcAt A s u1 u2 (eqD d e)/\RcNeAt A s u1 u2 (!(eqD d e)):=by
 intro n
 induction n with
 |zero =>
  intro A d e v w u1 u2 hu hd he r1 r2 q1 q2;have hu0:A.units<aa5:=by lia
  cases d<;>first|(simp[dLe]at hd;done)|skip
  all_goals cases e<;>first|(simp[dLe]at he;done)|skip
  all_goals simp only[aM,Rep]at r1 r2
  all_goals subst r1
  all_goals subst r2
  all_goals simp only[aA]at q1 q2
  all_goals first|(obtain⟨t1,rfl⟩:=q1)|subst q1
  all_goals first|(obtain⟨t2,rfl⟩:=q2)|subst q2
  all_goals simp only[eqD]
  ·exact⟨EqAt.same _,RcAt.none_none,RcNeAt.none_none⟩
  ·exact⟨EqAt.none_bool _,RcAt.none_bool _,RcNeAt.none_bool _⟩
  ·exact⟨EqAt.none_int _ _,RcAt.none_int _ _,RcNeAt.none_int _ _⟩
  ·exact⟨EqAt.none_str _ _,RcAt.none_str _ _,RcNeAt.none_str _ _⟩
  ·exact⟨EqAt.bool_none _,RcAt.bool_none _,RcNeAt.bool_none _⟩
  ·exact⟨EqAt.bool_bool _ _,RcAt.bool_bool _ _,RcNeAt.bool_bool _ _⟩
  ·exact⟨EqAt.bool_int _ _ _,RcAt.bool_int _ _ _,RcNeAt.bool_int _ _ _⟩
  ·exact⟨EqAt.bool_str _ _ _,RcAt.bool_str _ _ _,RcNeAt.bool_str _ _ _⟩
  ·exact⟨EqAt.int_none _ _,RcAt.int_none _ _,RcNeAt.int_none _ _⟩
  ·exact⟨EqAt.int_bool _ _ _,RcAt.int_bool _ _ _,RcNeAt.int_bool _ _ _⟩
  ·exact⟨EqAt.int_int _ _ _ _,RcAt.int_int _ _ _ _,RcNeAt.int_int _ _ _ _⟩
  ·exact⟨EqAt.int_str _ _ _ _,RcAt.int_str _ _ _ _,RcNeAt.int_str _ _ _ _⟩
  ·exact⟨EqAt.str_none _ _,RcAt.str_none _ _,RcNeAt.str_none _ _⟩
  ·exact⟨EqAt.str_bool _ _ _,RcAt.str_bool _ _ _,RcNeAt.str_bool _ _ _⟩
  ·exact⟨EqAt.str_int _ _ _ _,RcAt.str_int _ _ _ _,RcNeAt.str_int _ _ _ _⟩
  ·exact⟨EqAt.str_str _ _ _ _,RcAt.str_str _ _ _ _,RcNeAt.str_str _ _ _ _⟩
 |succ n ih =>
  intro A d e v w u1 u2 hu hd he r1 r2 q1 q2;have hu0:A.units<aa5:=by lia
  have hu1:A.in1.units+n<aa5:=by show A.units+1+n<aa5;lia
  have item:∀{ds es:List D} {vs ws:List V} {us us2:List u8},cn ds n=true->cn es n=true->aj X.K M H ds vs->aj X.K M' H es ws->ar vs us->ar ws us2 ->
    ∀j (h1:j<us.toArray.size) (h2:j<us2.toArray.size),EqAt A.in1 s us.toArray[j] us2.toArray[j] (eqN ds es j):=by
   intro ds es vs ws us us2 d1 d2 h1 h2 h3 h4 j hj1 hj2;have l1:=h1.length;have l2:=h2.length;have l3:=h3.length;have l4:=h4.length;have j1:j<ds.length:=by simp at hj1;lia
   have j2:j<es.length:=by simp at hj2;lia
   obtain⟨v1,g1,p1⟩:=h1.get (i:=j) (d:=ds[j]) (by simp[j1]);obtain⟨v2,g2,p2⟩:=h2.get (i:=j) (d:=es[j]) (by simp[j2]);obtain⟨u1,k1,m1⟩:=h3.get g1;obtain⟨u2,k2,m2⟩:=h4.get g2;have e1:us.toArray[j]=u1:=by
    simp at hj1;simpa[Q7 hj1]using k1
   have e2:us2.toArray[j]=u2:=by
    simp at hj2;simpa[Q7 hj2]using k2
   rw[e1,e2];have e3:eqN ds es j=eqD ds[j] es[j]:=by simp[eqN,j1,j2]
   rw[e3];exact(ih hu1 (fQ d1 (i:=j) (by simp[j1])) (fQ d2 (i:=j) (by simp[j2])) p1.r p2.r m1 m2).1
  have both:∀{a b:J5},v=.ref a->w=.ref b->RcAt A s (.ref a) (.ref b) (eqD d e)->EqAt A s (.ref a) (.ref b) (eqD d e):=by
   intro a b ea eb rc
   by_cases hab:a=b
   ·subst hab;subst ea;subst eb;rw[xm I (n+1) hd he r1 r2];exact EqAt.same _
   ·exact EqAt.of_refs hab rc
  cases d with
  |tup ds =>
   obtain⟨a,vs,rfl,sq,rl⟩:=id r1;cases q1;obtain⟨its,rv,pt,_⟩:=I.tuple sq;have hd':cn ds n=true:=by simpa[dLe]using hd
   cases e with
   |tup es =>
    obtain⟨b,ws,rfl,sq',rl'⟩:=id r2;cases q2;obtain⟨its2,rv2,pt2,_⟩:=I.tuple sq';have he':cn es n=true:=by simpa[dLe]using he
    have it:=item hd' he' rl rl' rv rv2;have t1:=RcAt.tuples (e:=eqN ds es) pt pt2 hu0 it;have t2:=RcNeAt.tuples (e:=eqN ds es) pt pt2 hu0 it;rw[I0,I0,<-rv.length,<-rv2.length,<-rl.length,<-rl'.length,<-mh]at t1 t2;have rc:RcAt A s (.ref a) (.ref b) (eqD (.tup ds) (.tup es)):=by simpa only[eqD]using t1
    exact⟨both rfl rfl rc,rc,by simpa only[eqD]using t2⟩
   |lst es =>
    obtain⟨b,ws,rfl,sq',rl'⟩:=id r2;cases q2;obtain⟨its2,rv2,pt2,_⟩:=I.list (SqL.of sq');simp only[eqD];exact⟨EqAt.tuple_list pt pt2.isList hu0,RcAt.tuple_list pt pt2.isList hu0,RcNeAt.tuple_list pt pt2.isList hu0⟩
   |non=>obtain rfl:=r2.at q2;simp only[eqD];exact⟨EqAt.tuple_none pt hu0,RcAt.tuple_none pt hu0,RcNeAt.tuple_none pt hu0⟩
   |bl b=>obtain rfl:=r2.at q2;simp only[eqD];exact⟨EqAt.tuple_bool _ pt hu0,RcAt.tuple_bool _ pt hu0,RcNeAt.tuple_bool _ pt hu0⟩
   |int b=>obtain⟨t,rfl⟩:=r2.at q2;simp only[eqD];exact⟨EqAt.tuple_int _ _ pt hu0,RcAt.tuple_int _ _ pt hu0,RcNeAt.tuple_int _ _ pt hu0⟩
   |str b=>obtain⟨t,rfl⟩:=r2.at q2;simp only[eqD];exact⟨EqAt.tuple_str _ _ pt hu0,RcAt.tuple_str _ _ pt hu0,RcNeAt.tuple_str _ _ pt hu0⟩
   |_=>simp[dLe]at he
  |lst ds =>
   obtain⟨a,vs,rfl,sq,rl⟩:=id r1;cases q1;obtain⟨its,rv,pt,_⟩:=I.list (SqL.of sq);have hd':cn ds n=true:=by simpa[dLe]using hd
   cases e with
   |lst es =>
    obtain⟨b,ws,rfl,sq',rl'⟩:=id r2;cases q2;obtain⟨its2,rv2,pt2,_⟩:=I.list (SqL.of sq');have he':cn es n=true:=by simpa[dLe]using he
    have hs:its.toArray.size=ds.length/\its2.toArray.size=es.length:=by rw[I0,I0,<-rv.length,<-rv2.length,<-rl.length,<-rl'.length];exact⟨rfl,rfl⟩
    have rc:RcAt A s (.ref a) (.ref b) (eqD (.lst ds) (.lst es))/\RcNeAt A s (.ref a) (.ref b) (!(eqD (.lst ds) (.lst es))):=by
     by_cases hl:ds.length=es.length
     ·have hsz:its.toArray.size=its2.toArray.size:=by rw[hs.1,hs.2];exact hl
      have it:=item hd' he' rl rl' rv rv2;have t1:=RcAt.lists (e:=eqN ds es) pt.isList pt2.isList hsz hu0 it;have t2:=RcNeAt.lists (e:=eqN ds es) pt.isList pt2.isList hsz hu0 it;rw[hs.1,<-vn hl]at t1 t2;exact⟨by simpa only[eqD]using t1,by simpa only[eqD]using t2⟩
     ·have hsz:(its.toArray.size != its2.toArray.size)=true:=by rw[hs.1,hs.2];simpa using hl
      have e0:eqD (.lst ds) (.lst es)=false:=by
       simp only[eqD];cases q:bZ ds es with
       |false=>rfl
       |true=>exact absurd (pQ q) hl
      rw[e0];exact⟨RcAt.lists_lengths pt.isList pt2.isList hsz hu0,RcNeAt.lists_lengths pt.isList pt2.isList hsz hu0⟩
    exact⟨both rfl rfl rc.1,rc⟩
   |tup es =>
    obtain⟨b,ws,rfl,sq',rl'⟩:=id r2;cases q2;obtain⟨its2,rv2,pt2,_⟩:=I.tuple sq';simp only[eqD];exact⟨EqAt.list_tuple pt.isList pt2 hu0,RcAt.list_tuple pt.isList pt2 hu0,RcNeAt.list_tuple pt.isList pt2 hu0⟩
   |non=>obtain rfl:=r2.at q2;simp only[eqD];exact⟨EqAt.list_none pt.isList hu0,RcAt.list_none pt.isList hu0,RcNeAt.list_none pt.isList hu0⟩
   |bl b=>obtain rfl:=r2.at q2;simp only[eqD];exact⟨EqAt.list_bool _ pt.isList hu0,RcAt.list_bool _ pt.isList hu0,RcNeAt.list_bool _ pt.isList hu0⟩
   |int b=>obtain⟨t,rfl⟩:=r2.at q2;simp only[eqD];exact⟨EqAt.list_int _ _ pt.isList hu0,RcAt.list_int _ _ pt.isList hu0,RcNeAt.list_int _ _ pt.isList hu0⟩
   |str b=>obtain⟨t,rfl⟩:=r2.at q2;simp only[eqD];exact⟨EqAt.list_str _ _ pt.isList hu0,RcAt.list_str _ _ pt.isList hu0,RcNeAt.list_str _ _ pt.isList hu0⟩
   |_=>simp[dLe]at he
  |non =>
   cases e with
   |tup es =>
    obtain⟨b,ws,rfl,sq',rl'⟩:=id r2;cases q2;obtain⟨its2,rv2,pt2,_⟩:=I.tuple sq';obtain rfl:=r1.at q1;simp only[eqD];exact⟨EqAt.none_tuple pt2 hu0,RcAt.none_tuple pt2 hu0,RcNeAt.none_tuple pt2 hu0⟩
   |lst es =>
    obtain⟨b,ws,rfl,sq',rl'⟩:=id r2;cases q2;obtain⟨its2,rv2,pt2,_⟩:=I.list (SqL.of sq');obtain rfl:=r1.at q1;simp only[eqD];exact⟨EqAt.none_list pt2.isList hu0,RcAt.none_list pt2.isList hu0,RcNeAt.none_list pt2.isList hu0⟩
   |_=>first|(simp[dLe]at he;done)|exact ih (A:=A) (by lia) (by simp[dLe]) (by simp[dLe]) r1 r2 q1 q2
  |bl a =>
   cases e with
   |tup es =>
    obtain⟨b,ws,rfl,sq',rl'⟩:=id r2;cases q2;obtain⟨its2,rv2,pt2,_⟩:=I.tuple sq';obtain rfl:=r1.at q1;simp only[eqD];exact⟨EqAt.bool_tuple _ pt2 hu0,RcAt.bool_tuple _ pt2 hu0,RcNeAt.bool_tuple _ pt2 hu0⟩
   |lst es =>
    obtain⟨b,ws,rfl,sq',rl'⟩:=id r2;cases q2;obtain⟨its2,rv2,pt2,_⟩:=I.list (SqL.of sq');obtain rfl:=r1.at q1;simp only[eqD];exact⟨EqAt.bool_list _ pt2.isList hu0,RcAt.bool_list _ pt2.isList hu0,RcNeAt.bool_list _ pt2.isList hu0⟩
   |_=>first|(simp[dLe]at he;done)|exact ih (A:=A) (by lia) (by simp[dLe]) (by simp[dLe]) r1 r2 q1 q2
  |int a =>
   cases e with
   |tup es =>
    obtain⟨b,ws,rfl,sq',rl'⟩:=id r2;cases q2;obtain⟨its2,rv2,pt2,_⟩:=I.tuple sq';obtain⟨t,rfl⟩:=r1.at q1;simp only[eqD];exact⟨EqAt.int_tuple _ _ pt2 hu0,RcAt.int_tuple _ _ pt2 hu0,RcNeAt.int_tuple _ _ pt2 hu0⟩
   |lst es =>
    obtain⟨b,ws,rfl,sq',rl'⟩:=id r2;cases q2;obtain⟨its2,rv2,pt2,_⟩:=I.list (SqL.of sq');obtain⟨t,rfl⟩:=r1.at q1;simp only[eqD];exact⟨EqAt.int_list _ _ pt2.isList hu0,RcAt.int_list _ _ pt2.isList hu0,RcNeAt.int_list _ _ pt2.isList hu0⟩
   |_=>first|(simp[dLe]at he;done)|exact ih (A:=A) (by lia) (by simp[dLe]) (by simp[dLe]) r1 r2 q1 q2
  |str a =>
   cases e with
   |tup es =>
    obtain⟨b,ws,rfl,sq',rl'⟩:=id r2;cases q2;obtain⟨its2,rv2,pt2,_⟩:=I.tuple sq';obtain⟨t,rfl⟩:=r1.at q1;simp only[eqD];exact⟨EqAt.str_tuple _ _ pt2 hu0,RcAt.str_tuple _ _ pt2 hu0,RcNeAt.str_tuple _ _ pt2 hu0⟩
   |lst es =>
    obtain⟨b,ws,rfl,sq',rl'⟩:=id r2;cases q2;obtain⟨its2,rv2,pt2,_⟩:=I.list (SqL.of sq');obtain⟨t,rfl⟩:=r1.at q1;simp only[eqD];exact⟨EqAt.str_list _ _ pt2.isList hu0,RcAt.str_list _ _ pt2.isList hu0,RcNeAt.str_list _ _ pt2.isList hu0⟩
   |_=>first|(simp[dLe]at he;done)|exact ih (A:=A) (by lia) (by simp[dLe]) (by simp[dLe]) r1 r2 q1 q2
  |_=>simp[dLe]at hd
end
section
variable{X:Cx}{a b c e:K1}{es:List K1}{te ta tb:TEd}{pos:Pos}{st:X8}{aH:List X8}{t u:TSd}
def rm:TSd:=fun E Δ M=>E.nx Δ M
def Dx(t u:TSd):TSd:=fun E Δ M=>t { E with nx:=u E } Δ M
def BW(te:TEd):TSd:=fun E Δ M=>te Δ M E.rt
def uw(te:TEd):TSd:=fun E Δ M=>te Δ M fun _ M1=>E.nx Δ M1
def xS(c:TTd) (t u:TSd):TSd:=fun E Δ M=>c Δ M fun b M1=>if b=true then t E Δ M1 else u E Δ M1
def Bs(i:Nat) (te:TEd):TSd:=fun E Δ M=>te Δ M fun d M1=>E.nx (Δ.set i (some d)) M1
def D4(i:Nat) (te:TEd) (r:D->D->Option D):TSd:=fun E Δ M=>∃x,Δ[i]?=some (some x)/\te Δ M fun y M1=>∃z,r (rdM M1 x) (rdM M1 y)=some z/\E.nx (Δ.set i (some z)) M1
abbrev GD:=D->DE->Option DE
def PGd(X:Cx) (tg:K1) (g:GD):Prop:=∃gv:TG,PG X tg gv/\∀(d:D) (v:V) (σ:St) (Δ Δ':DE) (M:DH) (H:Hp) (Q:St->Hp->Prop),SR X.K M H σ Δ->HR X.K M H->Rep X.K M H d v->g d Δ=some Δ'->(∀ σ',SR X.K M H σ' Δ'->Q σ' H)->gv v σ H Q
def cy(i:Nat):GD:=fun d Δ=>some (Δ.set i (some d))
theorem bH{i:Nat}{x:Str}(hN:X.N.Nodup) (hi:X.N[i]?=some x) (hx:Loc X.env.scope x) (hf:X.fn x=true∨X.env.scope.names.lookup x=some .local:=by first|exact .inl rfl|exact .inr rfl|assumption):PGd X (.Name x pos) (cy i) :=
 ⟨qF i,uy hN hi hx hf,fun d v σ Δ Δ' M H Q sr hr rv e k=>by cases e;exact k _ (sr.set i rv)⟩
abbrev GDs:=List D->DE->Option DE
def ze(X:Cx) (tgs:List K1) (g:GDs):Prop:=∃gv:TGs,PGs X tgs gv/\∀(ds:List D) (vs:List V) (σ:St) (Δ Δ':DE) (M:DH) (H:Hp) (Q:St->Hp->Prop),SR X.K M H σ Δ->HR X.K M H->aj X.K M H ds vs->g ds Δ=some Δ'->(∀ σ',SR X.K M H σ' Δ'->Q σ' H)->gv vs σ H Q
def ni:GDs:=fun ds Δ=>match ds with|[]=>some Δ|_=>none
def eB(g:GD) (gs:GDs):GDs:=fun ds Δ=>match ds with|[]=>none|d::r=>(g d Δ).bind fun Δ1=>gs r Δ1
def j9(g:GDs) (n:Nat):GD:=fun d Δ=>match d with|.tup ds=>if ds.length=n then g ds Δ else none|_=>none
theorem wL:ze X [] ni:=⟨DD,sZ,fun ds vs σ Δ Δ' M H Q sr hr rv e k=>by
 cases ds with
 |nil=>simp only[aj]at rv;subst rv;cases e;exact⟨rfl,k _ sr⟩
 |cons _ _=>cases e⟩
theorem jL{tg:K1}{tgs:List K1}{g:GD}{gs:GDs}(h1:PGd X tg g) (h2:ze X tgs gs)
  (hs:(P2 (tg::tgs) X.env).map (·.2)=Z7 tg X.env::(P2 tgs X.env).map (·.2):=by rfl):ze X (tg::tgs) (eB g gs):=by
 obtain⟨g1,p1,k1⟩:=h1;obtain⟨g2,p2,k2⟩:=h2;refine⟨xf g1 g2,qT p1 p2 hs,fun ds vs σ Δ Δ' M H Q sr hr rv e k=>?_⟩;cases ds with
 |nil=>cases e
 |cons d r =>
  simp only[aj]at rv;obtain⟨v,ws,rfl,h3,h4⟩:=rv;simp only[eB]at e;cases q:g d Δ with
  |none=>rw[q]at e;cases e
  |some Δ1 =>
   rw[q]at e;exact⟨v,ws,rfl,k1 d v σ Δ Δ1 M H _ sr hr h3 q fun σ1 sr1=>k2 r ws σ1 Δ1 Δ' M H Q sr1 hr h4 e k⟩
theorem v9{tgs:List K1}{kx:Nat}{g:GDs}{n:Nat}(hc:X.calm=true) (h:ze X tgs g) (hn:(P2 tgs X.env).length=n:=by rfl) (hst:(P2 tgs X.env).findIdx? (·.1)=none:=by rfl):PGd X (.Tuple tgs kx pos) (j9 g n):=by
 obtain⟨g1,p1,k1⟩:=h;refine⟨Bv X.K n g1,wY hc p1 hn hst,fun d v σ Δ Δ' M H Q sr hr rv e k=>?_⟩;cases d with
 |tup ds =>
  simp only[j9]at e
  by_cases hl:ds.length=n
  ·rw[if_pos hl]at e;simp only[Rep]at rv;obtain⟨a,vs,rfl,ta,rl⟩:=rv;exact⟨a,vs,rfl,ta.sq,by rw[<-rl.length];exact hl,k1 ds vs σ Δ Δ' M H Q sr hr rl e k⟩
  ·rw[if_neg hl]at e;cases e
 |_=>cases e
def F0(te:TEd) (g:GD):TSd:=fun E Δ M=>te Δ M fun d M1=>∃ Δ',g d Δ=some Δ'/\E.nx Δ' M1
abbrev TId:=DE->DH->(List D->DH->Prop)->Prop
def ItD(K:o0) (J:It) (ds:List D) (M1:DH) (H1:Hp):Prop:=∀M2 H2,Ext M1 H1 M2 H2->HR K M2 H2->∀i,(∀d,ds[i]?=some d->J.go i H2/\∀x H',J.yld i H2 x H'->Ext M2 H2 M2 H'/\HR K M2 H'/\Rep K M2 H' d x)/\(ds.length<=i->J.stop i H2)
def upI(K:o0) (wi:TId):TI:=fun σ H R=>∃(Δ:DE) (M:DH) (R':List D->DH->Prop),SR K M H σ Δ/\HR K M H/\wi Δ M R'/\∀ds M1 J H1,R' ds M1->Ext M H M1 H1->HR K M1 H1->ItD K J ds M1 H1->R J H1
theorem upI.el{K:o0}{t:TId}{σ:St}{H:Hp}{Q:It->Hp->Prop}{P:Prop}(h:upI K t σ H Q) (f:∀(Δ:DE) (M:DH) (R:List D->DH->Prop),SR K M H σ Δ->HR K M H->t Δ M R->(∀ds M1 J H1,R ds M1->Ext M H M1 H1->HR K M1 H1->ItD K J ds M1 H1->Q J H1)->P):P:=by
 obtain⟨x1,x2,x3,a,b,c,d⟩:=h;exact f x1 x2 x3 a b c d
def PId(X:Cx) (tg iter:K1) (wi:TId):Prop:=PI X tg iter (upI X.K wi)
theorem PI.conv{tg iter:K1}{w w':TI}(h:PI X tg iter w) (k:∀ σ H R,w' σ H R->w σ H R):PI X tg iter w':=fun p s σ H R I q=>h p s σ H R I (k σ H R q)
variable{tg iter:K1}
def mM(lo:Int) (n:Nat):List D:=(U1 n).map fun(k:Nat)=>.int (lo+(k:Int))
theorem b7{lo:Int}{n i:Nat}{d:D}(h:(mM lo n)[i]?=some d):i<n/\d=.int (lo+i):=by
 unfold mM at h;rw[Q0]at h
 by_cases hi:i<n
 ·rw[List.getElem?_range hi]at h;cases h;exact⟨hi,rfl⟩
 ·rw[List.getElem?_eq_none (by simp;omega)]at h;cases h
theorem uz{K:o0}{lo:Int}{n:Nat}{M1:DH}{H1:Hp}:ItD K (Itr lo n) (mM lo n) M1 H1:=fun M2 H2 e2 hr2 i=>⟨fun d hd=>by
  obtain⟨h1,rfl⟩:=b7 hd;refine⟨h1,fun x H' ⟨eH,y⟩=>?_⟩;subst eH;subst y;exact⟨Ext.refl _ _,hr2,by simp[Rep]⟩,fun hl=>by
  show n<=i;simpa[mM]using hl⟩
def vQ(ta:TAd):TId:=fun Δ M R=>ta Δ M fun ds M1=>∃j:Int,ds=[.int j]/\-(2 ^ 62)<=j/\j<2 ^ 62/\R (mM 0 j.toNat) M1
def xB(ta:TAd):TId:=fun Δ M R=>ta Δ M fun ds M1=>∃i j:Int,ds=[.int i,.int j]/\(-(2 ^ 62)<=i/\i<2 ^ 62/\-(2 ^ 62)<=j/\j<2 ^ 62)/\R (mM i (j-i).toNat) M1
def bW(g:GD) (tb:TSd) (E:dU):List D->DE->DH->Prop
 |[],Δ,M=>E.nx Δ M
 |d::ds,Δ,M=>∃ Δ',g d Δ=some Δ'/\tb { E with nx:=bW g tb E ds,ct:=bW g tb E ds,bk:=E.nx } Δ' M
def Ew(wi:TId) (g:GD) (tb:TSd):TSd:=fun E Δ M=>wi Δ M fun ds M1=>bW g tb E ds Δ M1
def yj(c:TTd) (tb:TSd):TSd:=fun E Δ M=>∃W:Nat->DE->DH->Prop,(∃m,W m Δ M)/\∀m Δ M,W m Δ M->c Δ M fun b M1=>if b=true then tb { E with nx:=fun Δ' M'=>∃m',m'<m/\W m' Δ' M',ct:=fun Δ' M'=>∃m',m'<m/\W m' Δ' M',bk:=E.nx } Δ M1 else E.nx Δ M1
end
def tX:D->Prop
 |.tup ds=>ds.length<=H0
 |.lst ds=>ds.length<=H0
 |.scr ds=>ds.length<=H0
 |_=>True
section
variable{X:Cx}{a b c e:K1}{es:List K1}{te ta tb:TEd}{pos:Pos}{tg iter elt:K1}
theorem aM.len{K:o0}{aa:List (J5×Obj)}{σ:St}{H:Hp}{s:v0}{M:DH}{d:D}{v:V}(I:Inv X aa σ H s) (h:Rep X.K M H d v):tX d:=by
 cases d with
 |tup ds =>
  simp only[Rep]at h;obtain⟨a,vs,e,t,r⟩:=h;obtain⟨_,_,_,z⟩:=I.tuple t.sq;simp only[tX];rw[r.length];exact z
 |lst ds =>
  simp only[Rep]at h;obtain⟨a,vs,e,t,r⟩:=h;obtain⟨_,_,_,z⟩:=I.list (SqL.of t.1);simp only[tX];rw[r.length];exact z
 |scr ds =>
  simp only[Rep]at h;obtain⟨a,vs,e,t,r⟩:=h;obtain⟨_,_,_,z⟩:=I.list t.sq;simp only[tX];rw[r.length];exact z
 |_=>trivial
noncomputable def bV:List Bool->DE->DE
 |true::ms,v::σ=>v::bV ms σ
 |false::ms,_::σ=>none::bV ms σ
 |[],_::σ=>none::bV [] σ
 |_,[]=>[]
def pY(ms:List Bool) (k:Nat) (Δ:DE):DE:=bV ms Δ++J3 k none
theorem cq:∀(ms:List Bool) (σ:DE),(bV ms σ).length=σ.length
 |true::ms,v::σ=>by simp[bV,cq ms σ]
 |false::ms,_::σ=>by simp[bV,cq ms σ]
 |[],_::σ=>by simp[bV,cq [] σ]
 |[],[]=>by simp[bV]
 |true::_,[]=>by simp[bV]
 |false::_,[]=>by simp[bV]
theorem gK:∀{ms:List Bool}{σ:DE}{i:Nat}{v:D},(bV ms σ)[i]?=some (some v)->ms[i]?=some true/\σ[i]?=some (some v)
 |true::ms,v::σ,0,x,h=>by simpa[bV]using h
 |true::ms,v::σ,i+1,x,h=>by
  have:=gK (ms:=ms) (σ:=σ) (i:=i) (v:=x) (by simpa[bV]using h);simpa using this
 |false::ms,_::σ,0,x,h=>by simp[bV]at h
 |false::ms,_::σ,i+1,x,h=>by
  have:=gK (ms:=ms) (σ:=σ) (i:=i) (v:=x) (by simpa[bV]using h);simpa using this
 |[],_::σ,0,x,h=>by simp[bV]at h
 |[],_::σ,i+1,x,h=>by
  have:=gK (ms:=[]) (σ:=σ) (i:=i) (v:=x) (by simpa[bV]using h);simpa using this
 |[],[],_,_,h=>by simp[bV]at h
 |true::_,[],_,_,h=>by simp[bV]at h
 |false::_,[],_,_,h=>by simp[bV]at h
theorem hJ:∀{ms:List Bool}{σ:St}{i:Nat}{v:V},ms[i]?=some true->σ[i]?=some (some v)->(bw ms σ)[i]?=some (some v)
 |true::ms,v::σ,0,x,h,h2=>by simpa[bw]using h2
 |true::ms,v::σ,i+1,x,h,h2=>by
  have:=hJ (ms:=ms) (σ:=σ) (i:=i) (v:=x) (by simpa using h) (by simpa using h2);simpa[bw]using this
 |false::ms,_::σ,0,x,h,h2=>by simp at h
 |false::ms,_::σ,i+1,x,h,h2=>by
  have:=hJ (ms:=ms) (σ:=σ) (i:=i) (v:=x) (by simpa using h) (by simpa using h2);simpa[bw]using this
 |[],_,_,_,h,_=>by simp at h
 |_::_,[],_,_,_,h=>by simp at h
theorem SR.comp{K:o0}{M:DH}{H:Hp}{σ:St}{Δ:DE}(ms:List Bool) (k:Nat) (h:SR K M H σ Δ):SR K M H (gZ ms k σ) (pY ms k Δ):=by
 refine⟨by simp[gZ,pY,bz,cq,h.1],fun i d q=>?_⟩;unfold pY at q
 by_cases hi:i<(bV ms Δ).length
 ·rw[L4 hi]at q;obtain⟨m,e⟩:=gK q;obtain⟨v,ev,rv⟩:=h.2 i d e;refine⟨v,?_,rv⟩;have:=hJ m ev;unfold gZ;rw[L4 (by rw[bz,h.1,<-cq ms];exact hi)];exact this
 ·rw[P1 (by lia),R4]at q
  split at q<;>cases q
def dA(g:GD) (tc:TTd) (te:TEd):List D->DE->DH->List D->(List D->DH->Prop)->Prop
 |[],_,M,acc,Q=>Q acc M
 |d::ds,Δ,M,acc,Q=>∃ Δ',g d Δ=some Δ'/\tc Δ' M fun b M1=>if b=true then te Δ' M1 fun y M2=>dA g tc te ds Δ' M2 (acc++[y]) Q else dA g tc te ds Δ' M1 acc Q
def dLc(ms:List Bool) (k:Nat) (wi:TId) (g:GD) (tc:TTd) (te:TEd):TEd:=fun Δ M Q=>wi Δ M fun ds M1=>ds.length<=H0/\dA g tc te ds (pY ms k Δ) M1 [] fun ys M2=>Q (.lst ys) M2
def FI(X:Cx) (ifs:List K1) (t:TTd):Prop:=PIf X ifs (upT X.K t)
def qi:TTd:=fun _ M Q=>Q true M
abbrev nH(K:o0) (g:GD) (gv:TG):Prop:=∀(d:D) (v:V) (σ:St) (Δ Δ':DE) (M:DH) (H:Hp) (Q:St->Hp->Prop),SR K M H σ Δ->HR K M H->Rep K M H d v->g d Δ=some Δ'->(∀ σ',SR K M H σ' Δ'->Q σ' H)->gv v σ H Q
theorem Av{K:o0}{g:GD}{tc:TTd}{te:TEd}{gv:TG}(kg:nH K g gv) {J:It}{ds:List D}{M1:DH}{H1:Hp}(it:ItD K J ds M1 H1) (hr1:HR K M1 H1) (hz:ds.length<=H0) {R:List D->DH->Prop}{σ:St}{Δ:DE}(sr:SR K M1 H1 σ Δ) (q:dA g tc te ds Δ M1 [] R) :
  ∃(W:Nat->Nat->List V->St->Hp->Prop) (Z:List V->St->Hp->Prop),(∃m,W 0 m [] σ H1)/\jK J gv (upT K tc) (l8 (up K te)) W Z/\∀ys σ' H',Z ys σ' H'->∃M' acc,Ext M1 H1 M' H'/\HR K M' H'/\aj K M' H' acc ys/\R acc M':=by
 refine⟨fun i m ys σ' H'=>∃ Δ' M' acc,m=ds.length-i/\i<=ds.length/\Ext M1 H1 M' H'/\HR K M' H'/\SR K M' H' σ' Δ'/\aj K M' H' acc ys/\acc.length<=i/\dA g tc te (ds.drop i) Δ' M' acc R,_,
  ⟨ds.length,_,M1,[],by simp,U3 _,Ext.refl _ _,hr1,sr,aj.nil,by simp,q⟩,?_,fun _ _ _ z=>z⟩
 rintro i m ys σ2 H2 ⟨Δ2,M2,acc,rfl,hi2,e2,hr2,sr2,ra,la,f2⟩;have hl:ys.length<=H0:=by rw[<-ra.length];lia
 refine⟨hl,?_⟩;obtain⟨go,stop⟩:=it M2 H2 e2 hr2 i
 by_cases hlt:i<ds.length
 ·have hd:ds[i]?=some ds[i]:=by simp[hlt]
  obtain⟨g1,y1⟩:=go _ hd;rw[List.drop_eq_getElem_cons hlt]at f2;simp only[dA]at f2;obtain⟨Δ3,eg,f3⟩:=f2;refine .inr ⟨g1,fun x H' hy=>?_⟩;obtain⟨e3,hr3,rx⟩:=y1 x H' hy;refine kg _ x σ2 Δ2 Δ3 M2 H' _ (sr2.ext e3) hr3 rx eg fun σ3 sr3=>?_;refine⟨Δ3,M2,_,sr3,hr3,f3,fun b M4 H4 q4 e4 hr4=>?_⟩;cases b with
  |true =>
   simp only[if_true]at q4 ⊢;refine⟨Δ3,M4,_,sr3.ext e4,hr4,q4,fun y M5 v5 H5 q5 e5 hr5 rv5=>?_⟩;refine⟨ds.length-(i+1),by lia,Δ3,M5,acc++[y],rfl,hlt,((e2.trans e3).trans e4).trans e5,hr5,(sr3.ext e4).ext e5,(((ra.ext e3).ext e4).ext e5).append (aj.cons rv5 aj.nil),by simp;lia,q5⟩
  |false =>
   simp only[O7,if_false]at q4 ⊢;exact⟨ds.length-(i+1),by lia,Δ3,M4,acc,rfl,hlt,(e2.trans e3).trans e4,hr4,sr3.ext e4,(ra.ext e3).ext e4,by lia,q4⟩
 ·rw[List.drop_eq_nil_of_le (by lia)]at f2;exact .inl ⟨stop (by lia),M2,acc,e2,hr2,ra,f2⟩
theorem uD{K:o0}{wi:TId}{g:GD}{tc:TTd}{te:TEd}{gv:TG}{ms:List Bool}{kk:Nat}(kg:nH K g gv) :
  ∀ σ H Q,up K (dLc ms kk wi g tc te) σ H Q->tLc ms kk (upI K wi) gv (upT K tc) (up K te) σ H Q:=by
 rintro σ H Q ⟨Δ,M,R,sr,hr,q,k⟩;refine⟨Δ,M,_,sr,hr,q,fun ds M1 J H1 ⟨hz,q1⟩ e1 hr1 it=>?_⟩;obtain⟨W,Z,hW,hC,hZ⟩:=Av kg it hr1 hz ((sr.ext e1).comp ms kk) q1;refine⟨W,Z,hW,hC,fun ys σ' H' p z hp=>?_⟩;obtain⟨M',acc,e',hr',ra,q'⟩:=hZ _ _ _ z;refine k _ M' _ _ q' ((e1.trans e').trans (Ext.new hr' hp)) (hr'.new hp) ?_;simp only[Rep];exact⟨p,ys,rfl,⟨aL,hr'.fresh hp⟩,ra.ext (Ext.new hr' hp)⟩
variable{scope:S7}{cl:List (Str×J5)}{ms:List Bool}{ak:List Str}{ifs:List K1}
def PGa(X:Cx) (scope:S7) (cl:List (Str×J5)) (ak:List Str) (tg:K1) (g:GD):Prop:=∃gv:TG,(∀C s H ex,PG (aB X scope cl (X.N++ak) C s H ex) tg gv)/\nH X.K g gv
theorem aF{i:Nat}{x:Str}{pos:Pos}(hN:(X.N++ak).Nodup) (hi:(X.N++ak)[i]?=some x) (hx:(relabel scope X.env).names.lookup x=some .local):PGa X scope cl ak (.Name x pos) (cy i) :=
 ⟨qF i,fun C s H ex=>uy hN hi (.inl hx) (.inr hx),fun d v σ Δ Δ' M H Q sr hr rv e k=>by cases e;exact k _ (sr.set i rv)⟩
end
abbrev SpD:=List D->DH->(D->DH->Prop)->Prop
def spD(K:o0) (n:Nat) (S:SpD):Sp:=fun vs H Q _=>∃(ds:List D) (M:DH) (R:D->DH->Prop),ds.length=n/\aj K M H ds vs/\HR K M H/\S ds M R/\∀d M' v H',R d M'->Ext M H M' H'->HR K M' H'->Rep K M' H' d v->Q v H'
theorem z9{K:o0}{n:Nat}{S:SpD}{vs:List V}{H:Hp}{Q:VK}{E:XK}(h:spD K n S vs H Q E):vs.length=n:=by
 obtain⟨ds,M,R,hl,r,_⟩:=h;rw[<-r.length];exact hl
def fc(N:List Str) (ds:List D):DE:=ds.map some++J3 (N.length-ds.length) none
theorem qN{K:o0}{M:DH}{H:Hp}{N:List Str}:∀{ds:List D}{vs:List V},aj K M H ds vs->SR K M H (fw N vs) (fc N ds):=by
 intro ds vs h;have hl:=h.length;refine⟨by simp[fw,fc,hl],fun i d q=>?_⟩;unfold fc at q
 by_cases hi:i<ds.length
 ·rw[L4 (by simpa using hi),Q0]at q;cases e:ds[i]? with
  |none=>rw[e]at q;cases q
  |some d' =>
   rw[e]at q;cases q;obtain⟨v,gv,rv⟩:=h.get e;refine⟨v,?_,rv⟩;unfold fw;rw[L4 (by simp;lia),Q0,gv];rfl
 ·rw[P1 (by simpa using hi),R4]at q
  split at q<;>cases q
section
variable{P:K6}{w:O3}{K:o0}{mg:Str->Option u8}{base:L6}{f:J5}{fd:P6}
theorem Fun.okD{x qual:Str}{st:X8}{f:J5}{fd:P6}{N ps:List Str}{k n:Nat}{S:SpD}(F:Fun K x qual st f fd) (hn:ps.length=n) (Sc:aq N ps (ag st))
  (hbody:∀ (cdv:u8) (A:N6) (outer:List Env) (s:v0) (H:Hp) (E:XK),cw k (A.deeper (Z8 qual (ag st) s.heap.objs.size f cdv)) →
   ∃t:TSd,zR (iK CX0 P w K mg base N qual (ag st) f cdv A outer s H E).nox (cx st) t/\∀ds M R,ds.length=n->S ds M R->t { nx:=fun _ M'=>R .non M',rt:=R } (fc N ds) M):aQ P w K mg base CX0 (k+1) f fd ps (spD K n S):=by
 refine F.ok Sc (fun vs H Q E h=>by rw[hn];exact z9 h) (fun cdv A outer s H vs Q E hr h=>?_);obtain⟨t,ht,hq⟩:=hbody cdv A outer s H E hr;obtain⟨ds,M,R,hl,r,hrr,q,k'⟩:=h;refine⟨_,ht,fc N ds,M,_,qN r,hrr,hq ds M R hl q,⟨fun Δ' M' σ' H' q' e' hr' _=>k' .non M' .non H' q' e' hr' (by simp[Rep]),fun _ _ _ _ q'=>P7 q',fun _ _ _ _ q'=>P7 q',fun d M' v H' q' e' hr' rv=>k' d M' v H' q' e' hr' rv⟩⟩
end
section
variable{X:Cx}{a b c e:K1}{es:List K1}{te ta tb:TEd}{t:TAd}{pos:Pos}
def m9(n:Nat) (S:SpD) (t:TAd):TEd:=fun Δ M Q=>t Δ M fun ds M1=>ds.length=n/\S ds M1 Q
theorem B3{k:Nat}{f:J5}{fd:P6}{ps:List Str}{n:Nat}{S:SpD}{x:Str}{p:Pos}(F:aQ X.prog X.w X.K X.mg X.base CX0 k f fd ps (spD X.K n S)) (hr:cw k X.A) (hg:Gl X x) (hm:X.mg x=some (.ref f)) (hk:S0 X.K (.ref f)=true) (hb:c9 X.K fd ps [])
  (ha:PAd X (e::es) t) (hdb:(x==("__debug__":Str))=false:=by decide) (he:J8 (e::es) X.env=(false,U7 e X.env)::J8 es X.env:=by rfl) (hpl:(S9 pos (J8 es X.env)).any (·.1)=false:=by rfl) :
  PEd X (.Call (.Name x p) (e::es) [] pos) (m9 n S t) :=
 (um F hr hg hm hk hb .nil ET ha hdb he hpl).conv fun σ H Q hup => hup.el fun Δ M R sr hr q k => ⟨Δ,M,_,sr,hr,q,fun ds M1 vs H1 ⟨hl,q1⟩ e1 hr1 rv => by
  dsimp only;rw[V4];exact⟨ds,M1,R,hl,rv,hr1,q1,fun d M' v H' q' e' hr' rv'=>k d M' v H' q' (e1.trans e') hr' rv'⟩⟩
def zN(to te:TEd):TEd:=fun Δ M Q=>to Δ M fun o M1=>∃a l,o=.ref a/\M1 a=some (.lst l)/\te Δ M1 fun d M2=>∃ds,M2 a=some (.lst ds)/\ds.length<H0/\Q .non (aG M2 a (.lst (ds++[d])))
end
def ItW(n:Nat) (Vp:Nat->V->Prop):It:=⟨fun i _=>i<n,fun i H x H'=>H'=H/\Vp i x,fun i _=>n<=i⟩
theorem vf{P:K6}{w:O3}{K:o0}{tg:K1}{it:J5}{n:Nat}{Pv:Nat->u8->Prop}{St:Nat->L6->Prop}{ty:String}{Vp:Nat->V->Prop}
  (W:∀A:N6,A.handled=none->Walks P w A it [it] [it] n Pv St) (ho:∀i h,St i h->∃o,h.get? it=some o/\o.cls=.type ty/\∃vs,o.data=.fields vs)
  (hn:["enumerate","zip","dict_itemiterator","dict_reverseitemiterator","odict_iterator","itertools.zip_longest","itertools.pairwise"].contains ty=false)
  (hv:∀i u,Pv i u->∃x,aA x u/\Vp i x) (hself:∀(A:N6) (i:Nat) (s:v0) (Q:u8->v0->Prop) (E:u8->v0->Prop),St i s.heap->Q (.ref it) s->K4 (K5 P w) A (aa4 (.ref it)) Q E s):qz P w K tg (ItW n Vp) [it] it (fun i h=>i<=n/\St i h) where
 mem:=by simp
 obj:=fun i h st b hb=>by
  have e:b=it:=by simpa using hb
  subst e;obtain⟨o,e,c,vs,d⟩:=ho i h st.2;exact⟨o,e,fun v z=>by rw[d]at z;cases z⟩
 keep:=fun i h h' st k=>⟨st.1,(W { handled:=none } rfl).frame i h h' st.2 k⟩
 item:=by
  intro X hP hw hK hc i aa s σ H E I hf st hg;subst hP hw hK;obtain⟨f0,f1,f2,f3,f4,f5⟩:=hf it (by simp);refine(W X.A (I.ok.hd hc)).item i s _ _ hg st.2 fun v h' tk pv st' kk=>?_;have I1:Inv X aa σ H { s with heap:=h',toks:=tk }:=I.turned (fun b o hb e=>kk b o (by simpa using hb) e) f0 f1 f3 f4 f5;obtain⟨x,rx,vx⟩:=hv i v pv;obtain⟨o,e,c,vs,d⟩:=ho _ _ st';exact⟨v,rfl,ur (s:={ s with heap:=h',toks:=tk }) e c d hn ⟨x,H,I1,rx,⟨rfl,vx⟩,⟨hg,st'⟩,fun b hb=>(hf b hb).1⟩⟩
 done:=by
  intro X hP hw hK hc i aa s σ H E I hf st hg;subst hP hw hK;obtain⟨f0,f1,f2,f3,f4,f5⟩:=hf it (by simp);have e:i=n:=Nat.le_antisymm st.1 hg;subst e;exact(W X.A (I.ok.hd hc)).done s _ _ st.2 fun h' tk kk=>⟨rfl,I.turned (fun b o hb e=>kk b o (by simpa using hb) e) f0 f1 f3 f4 f5⟩
 self:=fun A i s Q E st h=>hself A i s Q E st.2 h
section
variable{X:Cx}{a b c e:K1}{es:List K1}{te ta tb:TEd}{t:TAd}{pos:Pos}{tg iter:K1}
noncomputable def fC(x:Str):List D:=x.cps.toList.map fun c=>.str ⟨#[c]⟩
theorem uI{aa:List (J5×Obj)}{σ:St}{H:Hp}{s:v0}{x:Str}{t:Tok}{R:It->Hp->Prop}(I:Inv X aa σ H s) (ty:String) (hn:["enumerate","zip","dict_itemiterator","dict_reverseitemiterator","odict_iterator","itertools.zip_longest","itertools.pairwise"].contains ty=false)
  (W:∀A:N6,A.handled=none->Walks X.prog X.w A s.heap.objs.size [s.heap.objs.size] [s.heap.objs.size] x.cps.size (SignAt x) (fun i h=>h.IsStrIter s.heap.objs.size ty x t i))
  (hself:∀(A:N6) (i:Nat) (s':v0) (Q:u8->v0->Prop) (E:u8->v0->Prop),s'.heap.IsStrIter s.heap.objs.size ty x t i->Q (.ref s.heap.objs.size) s'->K4 (K5 X.prog X.w) A (aa4 (.ref s.heap.objs.size)) Q E s')
  (q:R (ItW x.cps.size fun i v=>∃c,x.cps[i]?=some c/\v=.str ⟨#[c]⟩) H):PIE X aa σ tg R (.ref s.heap.objs.size) { s with heap:=s.heap.push { cls:=.type ty,data:=.fields #[.str x t,.int 0 0] } }:=by
 have I1:Inv X aa σ H { s with heap:=s.heap.push { cls:=.type ty,data:=.fields #[.str x t,.int 0 0] } }:=I.kept (t':=s.toks) fun b o e=>J0 _ e;refine⟨s.heap.objs.size,[s.heap.objs.size],_,_,H,rfl,I1,vf W (fun i h st=>?_) hn (fun i u ⟨c,t',e,ev⟩=>⟨.str ⟨#[c]⟩,⟨t',ev⟩,c,e,rfl⟩) hself,⟨U3 _,_,K3 _ rfl,rfl,rfl⟩,fun b hb=>?_,q⟩
 ·obtain⟨o,e,c,d⟩:=st;exact⟨o,e,c,_,d⟩
 ·have e:b=s.heap.objs.size:=by simpa using hb
  subst e;exact I.fpOk (J7 _) (I.hok.fresh (J7 _))
end
section
variable{X:Cx}{a b c e:K1}{es:List K1}{te ta tb:TEd}{t:TAd}{pos:Pos}
def eqF(x y:D):Option D:=if dLe x 60=true/\dLe y 60=true then some (.bl (eqD x y))else none
theorem yw{x y z:D}(h:eqF x y=some z):dLe x 60=true/\dLe y 60=true/\z=.bl (eqD x y):=by
 unfold eqF at h
 by_cases hc:dLe x 60=true/\dLe y 60=true
 ·rw[if_pos hc]at h;cases h;exact⟨hc.1,hc.2,rfl⟩
 ·rw[if_neg hc]at h;cases h
theorem mm(hu:X.A.units+64<aa5):bK X (K8 .Eq) eqF:=by
 intro aa s σ H M x y v u dx dy dz Q I hr rx ry r1 r2 e k;obtain⟨h1,h2,rfl⟩:=yw e;exact(ou I 60 (A:=X.A) (by lia) h1 h2 r1 r2 rx ry).2.1 X.prog X.w X.xe _ ⟨.bl (eqD dx dy),H,I,rfl,k _ H (Ext.refl _ _) hr (by simp[Rep])⟩
def inD(neg:Bool) (x y:D):Option D:=match y with
 |.lst ds=>if aX x=true/\ds.all aX=true then some (.bl (xor neg (ds.any fun d=>eqD d x)))else none
 |.tup ds=>if aX x=true/\ds.all aX=true then some (.bl (xor neg (ds.any fun d=>eqD d x)))else none
 |_=>none
theorem Cy{K:o0}{M:DH}{H:Hp}{d:D}{v:V}(h:aX d=true) (r:Rep K M H d v):v=toV d/\fR v=true:=by
 cases d<;>first|(simp only[Rep]at r;subst r;exact⟨rfl,rfl⟩)|cases h
theorem yF{x y:D}(hx:aX x=true) (hy:aX y=true):eqV (toV x) (toV y)=eqD x y:=by
 cases x<;>cases y<;>first|(simp[aX]at hx;done)|(simp[aX]at hy;done)|(simp[toV,eqV,eqD];done)
theorem fS{K:o0}{M:DH}{H:Hp}{x:D}(hx:aX x=true):∀{ds:List D}{vs:List V},aj K M H ds vs->ds.all aX=true->vs.all fR=true/\inV (toV x) vs=ds.any fun d=>eqD d x
 |[],_,h,_=>by simp only[aj]at h;subst h;simp[inV]
 |d::ds,_,h,ha=>by
  simp only[aj]at h;obtain⟨v,ws,rfl,h3,h4⟩:=h;rw[T8,K9]at ha;obtain⟨e1,e2⟩:=Cy ha.1 h3;obtain⟨e3,e4⟩:=fS hx h4 ha.2;subst e1;refine⟨by rw[T8,e2,e3];rfl,?_⟩;unfold inV at e4 ⊢;rw[O5,O5,e4,yF ha.1 hx]
theorem aM.scal{K:o0}{M:DH}{H:Hp}{d:D}{v:V}(h:aX d=true) (r:aM K M H d v):v=toV d/\fR v=true:=by
 cases d<;>first|(simp only[aM,Rep]at r;subst r;exact⟨rfl,rfl⟩)|cases h
theorem Gk:bK X (K8 .In) (inD false):=bK.of vd fun H M x y dx dy dz Q hr r1 r2 e q=>by
 cases dy with
 |lst ds =>
  simp only[inD]at e
  by_cases hc:aX dx=true/\ds.all aX=true
  ·rw[if_pos hc]at e;cases e;obtain⟨l,vs,rfl,sq,rl⟩:=r2;obtain⟨e1,e2⟩:=aM.scal hc.1 r1;obtain⟨e3,e4⟩:=fS hc.1 rl hc.2;subst e1;refine⟨l,vs,rfl,.inl (SqL.of sq),e2,e3,q _ H (Ext.refl _ _) hr ?_⟩;rw[e4];simp[Rep]
  ·rw[if_neg hc]at e;cases e
 |tup ds =>
  simp only[inD]at e
  by_cases hc:aX dx=true/\ds.all aX=true
  ·rw[if_pos hc]at e;cases e;obtain⟨l,vs,rfl,sq,rl⟩:=r2;obtain⟨e1,e2⟩:=aM.scal hc.1 r1;obtain⟨e3,e4⟩:=fS hc.1 rl hc.2;subst e1;refine⟨l,vs,rfl,.inr sq,e2,e3,q _ H (Ext.refl _ _) hr ?_⟩;rw[e4];simp[Rep]
  ·rw[if_neg hc]at e;cases e
 |_=>cases e
theorem Ad:bK X (K8 .NotIn) (inD true):=bK.of oG fun H M x y dx dy dz Q hr r1 r2 e q=>by
 cases dy with
 |lst ds =>
  simp only[inD]at e
  by_cases hc:aX dx=true/\ds.all aX=true
  ·rw[if_pos hc]at e;cases e;obtain⟨l,vs,rfl,sq,rl⟩:=r2;obtain⟨e1,e2⟩:=aM.scal hc.1 r1;obtain⟨e3,e4⟩:=fS hc.1 rl hc.2;subst e1;refine⟨l,vs,rfl,.inl (SqL.of sq),e2,e3,q _ H (Ext.refl _ _) hr ?_⟩;rw[e4];simp[Rep]
  ·rw[if_neg hc]at e;cases e
 |tup ds =>
  simp only[inD]at e
  by_cases hc:aX dx=true/\ds.all aX=true
  ·rw[if_pos hc]at e;cases e;obtain⟨l,vs,rfl,sq,rl⟩:=r2;obtain⟨e1,e2⟩:=aM.scal hc.1 r1;obtain⟨e3,e4⟩:=fS hc.1 rl hc.2;subst e1;refine⟨l,vs,rfl,.inr sq,e2,e3,q _ H (Ext.refl _ _) hr ?_⟩;rw[e4];simp[Rep]
  ·rw[if_neg hc]at e;cases e
 |_=>cases e
def pV(f:D->Option D):List D->Option D
 |[d]=>f d
 |_=>none
theorem nr{K:o0}{M:DH}{H:Hp}{d:D}{xs:List V}(h:P5 (aM K M H) [d] xs):∃v,xs=[v]/\aM K M H d v:=by
 cases h with
 |cons r t=>cases t;exact⟨_,rfl,r⟩
theorem dj{f:D->Option D}{ds:List D}{z:D}(h:pV f ds=some z):∃d,ds=[d]/\f d=some z:=by
 match ds,h with
 |[d],h=>exact⟨d,rfl,h⟩
noncomputable def va:D->Option D
 |.tup ds=>some (.int ds.length)
 |.lst ds=>some (.int ds.length)
 |.scr ds=>some (.int ds.length)
 |.str x=>if x.length<=H0 then some (.int x.length)else none
 |_=>none
theorem bv:cg X (.builtin "len") (pV va):=cg.of (cV.or pE oH) fun H M xs ds dz Q hr rp e q=>by
 obtain⟨d,rfl,e0⟩:=dj e;clear e;have e:=e0;clear e0;obtain⟨v,rfl,r⟩:=nr rp;cases d with
 |tup ds=>cases e;obtain⟨l,vs,rfl,sq,rl⟩:=r;exact .inl ⟨l,vs,rfl,.inr sq,q _ H (Ext.refl _ _) hr (by rw[<-rl.length];simp[Rep])⟩
 |lst ds=>cases e;obtain⟨l,vs,rfl,sq,rl⟩:=r;exact .inl ⟨l,vs,rfl,.inl (SqL.of sq),q _ H (Ext.refl _ _) hr (by rw[<-rl.length];simp[Rep])⟩
 |scr ds=>cases e;obtain⟨l,vs,rfl,sq,rl⟩:=r;exact .inl ⟨l,vs,rfl,.inl sq,q _ H (Ext.refl _ _) hr (by rw[<-rl.length];simp[Rep])⟩
 |str x =>
  simp only[va]at e
  by_cases hz:x.length<=H0
  ·rw[if_pos hz]at e;cases e;exact .inr ⟨x,by rw[mQ r],hz,q _ H (Ext.refl _ _) hr (by simp[Rep])⟩
  ·rw[if_neg hz]at e;cases e
 |_=>cases e
def F2:D->Option D
 |.int i=>some (.int (if i<0 then -i else i))
 |_=>none
def CM:D->Option D
 |.lst ds=>some (.tup ds)
 |.tup ds=>some (.tup ds)
 |_=>none
theorem df:cg X (.type "tuple") (pV CM):=cg.of mP fun H M xs ds dz Q hr rp e q=>by
 obtain⟨d,rfl,e0⟩:=dj e;clear e;have e:=e0;clear e0;obtain⟨v,rfl,r⟩:=nr rp;cases d with
 |lst ds=>cases e;obtain⟨l,vs,rfl,sq,rl⟩:=r;exact⟨l,vs,rfl,.inl ⟨SqL.of sq,fun p hp=>om hr hp rl q⟩⟩
 |tup ds=>cases e;have t1:=aM.tup hr r;obtain⟨l,vs,rfl,sq,rl⟩:=r;exact⟨l,vs,rfl,.inr ⟨sq,q _ H (Ext.refl _ _) hr t1⟩⟩
 |_=>cases e
def Fs:D->Option D
 |.lst ds=>some (.lst ds)
 |.scr ds=>some (.lst ds)
 |.tup ds=>some (.lst ds)
 |_=>none
theorem Dz:cg X (.type "list") (pV Fs):=cg.of oM fun H M xs ds dz Q hr rp e q=>by
 obtain⟨d,rfl,e0⟩:=dj e;clear e;have e:=e0;clear e0;obtain⟨v,rfl,r⟩:=nr rp;cases d with
 |lst ds=>cases e;obtain⟨l,vs,rfl,sq,rl⟩:=r;exact⟨l,vs,rfl,.inl (SqL.of sq),fun p hp=>dM hr hp rl q⟩
 |scr ds=>cases e;obtain⟨l,vs,rfl,sq,rl⟩:=r;exact⟨l,vs,rfl,.inl sq,fun p hp=>dM hr hp rl q⟩
 |tup ds=>cases e;obtain⟨l,vs,rfl,sq,rl⟩:=r;exact⟨l,vs,rfl,.inr sq,fun p hp=>dM hr hp rl q⟩
 |_=>cases e
def oD:D->Bool
 |.bl _=>true
 |_=>false
def lu:D->Bool
 |.bl b=>b
 |_=>false
def vM:D->Option D
 |.lst ds=>if ds.all oD=true then some (.bl (ds.all lu))else none
 |_=>none
def Aq:D->Option D
 |.lst ds=>if ds.all oD=true then some (.bl (ds.any lu))else none
 |_=>none
theorem vk{p:Nat->Bool}{q:D->Bool}:∀{ds:List D},(∀i d,ds[i]?=some d->p i=q d)->(U1 ds.length).all p=ds.all q:=by
 intro ds h;rw[Bool.eq_iff_iff,V0,V0];constructor
 ·intro hh d hd;obtain⟨i,hi,e⟩:=List.mem_iff_getElem.mp hd;rw[<-h i d (by rw[Q7 hi,e])];exact hh i (U5.mpr hi)
 ·intro hh i hi;have hi:=U5.mp hi;rw[h i ds[i] (by simp[hi])];exact hh _ (List.getElem_mem hi)
theorem n5{p:Nat->Bool}{q:D->Bool}:∀{ds:List D},(∀i d,ds[i]?=some d->p i=q d)->(U1 ds.length).any p=ds.any q:=by
 intro ds h;rw[Bool.eq_iff_iff,List.any_eq_true,List.any_eq_true];constructor
 ·rintro⟨i,hi,hp⟩;have hi:=U5.mp hi;exact⟨ds[i],List.getElem_mem hi,by rw[<-h i ds[i] (by simp[hi])];exact hp⟩
 ·rintro⟨d,hd,hq⟩;obtain⟨i,hi,e⟩:=List.mem_iff_getElem.mp hd;exact⟨i,U5.mpr hi,by rw[h i d (by rw[Q7 hi,e])];exact hq⟩
theorem mG{K:o0}{M:DH}{H:Hp}{ds:List D}{vs:List V}{us:List u8}(rl:aj K M H ds vs) (rv:ar vs us) (hb:ds.all oD=true) {i:Nat}{u:u8}(h:us[i]?=some u):∃d,ds[i]?=some d/\u=.bool (lu d):=by
 have hi:i<ds.length:=by rw[rl.length,rv.length];exact(O4.mp h).1
 obtain⟨v,g,r⟩:=rl.get (i:=i) (d:=ds[i]) (by simp[hi]);obtain⟨u',g',r'⟩:=rv.get g;rw[h]at g';cases g';have hbi:=V0.mp hb ds[i] (List.getElem_mem hi);refine⟨ds[i],by simp[hi],?_⟩;cases q:ds[i]with
 |bl b=>rw[q]at r;simp only[Rep]at r;subst r;exact r'
 |_=>rw[q]at hbi;cases hbi
theorem m6(hc:X.calm=true):cg X (.builtin "all") (pV vM):=by
 intro aa s σ H M xs us ds dz Q I hr rv rp e k;obtain⟨d,rfl,e0⟩:=dj e;clear e;have e:=e0;clear e0;obtain⟨v,rfl,r⟩:=nr rp;obtain⟨u,rfl,ru⟩:=ar.one rv;cases d with
 |lst ds =>
  simp only[vM]at e
  by_cases hb:ds.all oD=true
  ·rw[if_pos hb]at e;cases e;obtain⟨l,vs,rfl,sq,rl⟩:=r;cases ru;obtain⟨its,rv,pl,hz⟩:=I.list (SqL.of sq);have hne:l≠s.heap.objs.size:=K2 (I.hok.lt sq);refine call_all_walk (U4 pl.isList ⟨s.heap.objs.size,[s.heap.objs.size,l],[s.heap.objs.size],its.toArray.size,_,_,fun i=>(ds[i]?.map lu).getD false,rfl,Walks.list (A:=X.A.in1) (show X.A.in1.handled=none from I.ok.hd hc) s.heap.objs.size l hne its.toArray,⟨⟨_,K3 _ rfl,rfl,rfl⟩,?_⟩,fun i v s' Q' E' hv q=>?_,fun h' tk kk=>?_⟩)
   ·obtain⟨o,e,c⟩:=pl.isList;exact⟨o,J0 _ e,c⟩
   ·obtain⟨d,hd,rfl⟩:=mG rl rv hb (i:=i) (u:=v) (by simpa using hv);dsimp only at q;rw[hd]at q;exact O8 q
   ·have I1:Inv X aa σ H { s with heap:=h',toks:=tk }:=I.kept (t':=tk) fun b o e=>kk b o (by simpa using K2 (J4 e)) (J0 _ e);refine⟨.bl _,H,I1,rfl,k _ H (Ext.refl _ _) hr ?_⟩;rw[I0,<-rv.length,<-rl.length,vk (q:=lu) (fun i d hd=>by simp[hd])];simp[Rep]
  ·rw[if_neg hb]at e;cases e
 |_=>cases e
theorem D7(hc:X.calm=true):cg X (.builtin "any") (pV Aq):=by
 intro aa s σ H M xs us ds dz Q I hr rv rp e k;obtain⟨d,rfl,e0⟩:=dj e;clear e;have e:=e0;clear e0;obtain⟨v,rfl,r⟩:=nr rp;obtain⟨u,rfl,ru⟩:=ar.one rv;cases d with
 |lst ds =>
  simp only[Aq]at e
  by_cases hb:ds.all oD=true
  ·rw[if_pos hb]at e;cases e;obtain⟨l,vs,rfl,sq,rl⟩:=r;cases ru;obtain⟨its,rv,pl,hz⟩:=I.list (SqL.of sq);have hne:l≠s.heap.objs.size:=K2 (I.hok.lt sq);refine call_any_walk (U4 pl.isList ⟨s.heap.objs.size,[s.heap.objs.size,l],[s.heap.objs.size],its.toArray.size,_,_,fun i=>(ds[i]?.map lu).getD false,rfl,Walks.list (A:=X.A.in1) (show X.A.in1.handled=none from I.ok.hd hc) s.heap.objs.size l hne its.toArray,⟨⟨_,K3 _ rfl,rfl,rfl⟩,?_⟩,fun i v s' Q' E' hv q=>?_,fun h' tk kk=>?_⟩)
   ·obtain⟨o,e,c⟩:=pl.isList;exact⟨o,J0 _ e,c⟩
   ·obtain⟨d,hd,rfl⟩:=mG rl rv hb (i:=i) (u:=v) (by simpa using hv);dsimp only at q;rw[hd]at q;exact O8 q
   ·have I1:Inv X aa σ H { s with heap:=h',toks:=tk }:=I.kept (t':=tk) fun b o e=>kk b o (by simpa using K2 (J4 e)) (J0 _ e);refine⟨.bl _,H,I1,rfl,k _ H (Ext.refl _ _) hr ?_⟩;rw[I0,<-rv.length,<-rl.length,n5 (q:=lu) (fun i d hd=>by simp[hd])];simp[Rep]
  ·rw[if_neg hb]at e;cases e
 |_=>cases e
end
section
variable{X:Cx}{a b c e:K1}{es:List K1}{te ta tb:TEd}{t:TAd}{pos:Pos}
noncomputable def Au(T:String):D->Option Bool
 |.non=>some false
 |.bl _=>some (T=="bool" || T=="int")
 |.int _=>some (T=="int")
 |.str _=>some (T=="str")
 |.tup _=>some (T=="tuple")
 |.lst _=>some (T=="list")
 |.emp=>some (T=="dict")
 |_=>none
def okT(T:String):Bool:=T=="bool" || T=="int" || T=="str" || T=="tuple" || T=="list"
def D9(T:String) (te:TEd):TEd:=fun Δ M Q=>te Δ M fun d M1=>∃k,Au T (rdM M1 d)=some k/\Q (.bl k) M1
theorem uM{T:String}(hT:okT T=true) {aa:List (J5×Obj)}{s:v0}{σ:St}{H:Hp}{M:DH}{v:V}{u:u8}{d:D}{k:Bool}{Q:VK}(I:Inv X aa σ H s) (r:aA v u) (rd:aM X.K M H d v) (e:Au T d=some k) (q:Q (.bl k) H) :
  K4 (K5 X.prog X.w) X.A (call (.builtin "isinstance") [u,.type T]) (EP X aa σ Q) X.xe s:=by
 have fin:∀{k'} ,k=k'->EP X aa σ Q (.bool k') s:=fun e=>by subst e;exact⟨.bl k,H,I,rfl,q⟩
 have fint:∀{k'} ,k=k'->EP X aa σ Q (.bool k') { s with toks:=s.toks+1 }:=fun e=>by subst e;exact⟨.bl k,H,I.tok _,rfl,q⟩
 have h5:T="bool"∨T="int"∨T="str"∨T="tuple"∨T="list":=by
  simp[okT]at hT;rcases hT with(((h|h)|h)|h)|h<;>simp[h]
 cases d with
 |non =>
  simp only[aM,Rep]at rd;subst rd;simp only[aA]at r;subst r;cases e;rcases h5 with rfl|rfl|rfl|rfl|rfl
  ·exact IsiPair.NoneType_bool (fint rfl)
  ·exact IsiPair.NoneType_int (fint rfl)
  ·exact IsiPair.NoneType_str (fint rfl)
  ·exact IsiPair.NoneType_tuple (fint rfl)
  ·exact IsiPair.NoneType_list (fint rfl)
 |bl b =>
  simp only[aM,Rep]at rd;subst rd;simp only[aA]at r;subst r;cases e;rcases h5 with rfl|rfl|rfl|rfl|rfl
  ·exact IsiPair.bool_bool (fin rfl)
  ·exact IsiPair.bool_int (fin rfl)
  ·exact IsiPair.bool_str (fint rfl)
  ·exact IsiPair.bool_tuple (fint rfl)
  ·exact IsiPair.bool_list (fint rfl)
 |int i =>
  simp only[aM,Rep]at rd;subst rd;obtain⟨t,rfl⟩:=r;cases e;rcases h5 with rfl|rfl|rfl|rfl|rfl
  ·exact IsiPair.int_bool (fint rfl)
  ·exact IsiPair.int_int (fin rfl)
  ·exact IsiPair.int_str (fint rfl)
  ·exact IsiPair.int_tuple (fint rfl)
  ·exact IsiPair.int_list (fint rfl)
 |str x =>
  simp only[aM,Rep]at rd;subst rd;obtain⟨t,rfl⟩:=r;cases e;rcases h5 with rfl|rfl|rfl|rfl|rfl
  ·exact IsiPair.str_bool (fint rfl)
  ·exact IsiPair.str_int (fint rfl)
  ·exact IsiPair.str_str (fin rfl)
  ·exact IsiPair.str_tuple (fint rfl)
  ·exact IsiPair.str_list (fint rfl)
 |tup ds =>
  obtain⟨a,vs,rfl,sq,rl⟩:=rd;cases r;cases e;obtain⟨its,rv,⟨o,ho,hc,_⟩,_⟩:=I.tuple sq;rcases h5 with rfl|rfl|rfl|rfl|rfl
  ·exact IsiPair.tuple_bool ho hc (fint rfl)
  ·exact IsiPair.tuple_int ho hc (fint rfl)
  ·exact IsiPair.tuple_str ho hc (fint rfl)
  ·exact IsiPair.tuple_tuple ho hc (fin rfl)
  ·exact IsiPair.tuple_list ho hc (fint rfl)
 |lst ds =>
  obtain⟨a,vs,rfl,sq,rl⟩:=rd;cases r;cases e;obtain⟨its,rv,⟨o,n,ho,hc,_⟩,_⟩:=I.list (SqL.of sq);rcases h5 with rfl|rfl|rfl|rfl|rfl
  ·exact IsiPair.list_bool ho hc (fint rfl)
  ·exact IsiPair.list_int ho hc (fint rfl)
  ·exact IsiPair.list_str ho hc (fint rfl)
  ·exact IsiPair.list_tuple ho hc (fint rfl)
  ·exact IsiPair.list_list ho hc (fin rfl)
 |emp =>
  simp only[aM,Rep]at rd;obtain⟨a,rfl,h1,_⟩:=rd;cases r;cases e;obtain⟨_,_,_,_,o,es,ep,ho,ex,_⟩:=I.hok a _ h1;rcases h5 with rfl|rfl|rfl|rfl|rfl
  ·exact IsiPair.dict_bool ho ex.1 (fint rfl)
  ·exact IsiPair.dict_int ho ex.1 (fint rfl)
  ·exact IsiPair.dict_str ho ex.1 (fint rfl)
  ·exact IsiPair.dict_tuple ho ex.1 (fint rfl)
  ·exact IsiPair.dict_list ho ex.1 (fint rfl)
 |_=>cases e
abbrev TOd:=DE->DH->(Option Int->DH->Prop)->Prop
def upO(K:o0) (t:TOd):TO:=fun σ H Q=>∃(Δ:DE) (M:DH) (R:Option Int->DH->Prop),SR K M H σ Δ/\HR K M H/\t Δ M R/\∀i M' H',R i M'->Ext M H M' H'->HR K M' H'->Q i H'
theorem upO.el{K:o0}{t:TOd}{σ:St}{H:Hp}{Q:Option Int->Hp->Prop}{P:Prop}(h:upO K t σ H Q) (f:∀(Δ:DE) (M:DH) (R:Option Int->DH->Prop),SR K M H σ Δ->HR K M H->t Δ M R->(∀i M' H',R i M'->Ext M H M' H'->HR K M' H'->Q i H')->P):P:=by
 obtain⟨x1,x2,x3,a,b,c,d⟩:=h;exact f x1 x2 x3 a b c d
def POd(X:Cx) (e:Option K1) (t:TOd):Prop:=PO X e (upO X.K t)
def pd:TOd:=fun _ M Q=>Q none M
def xr(t:TEd):TOd:=fun Δ M Q=>t Δ M fun d M1=>∃i,d=.int i/\Q (some i) M1
theorem PO.conv{e:Option K1}{t t':TO}(h:PO X e t) (k:∀ σ H Q,t' σ H Q->t σ H Q):PO X e t':=fun p s σ H Q I q=>h p s σ H Q I (k σ H Q q)
theorem y0:POd X none pd:=Ao.conv fun σ H Q hup=>hup.el fun Δ M R sr hr q k=>k none M H q (Ext.refl _ _) hr
theorem zJ(h:PEd X e te):POd X (some e) (xr te):=(zk h).conv fun σ H Q hup=>hup.el fun Δ M R sr hr q k=>⟨Δ,M,_,sr,hr,q,fun d M1 v H1 ⟨i,ed,q1⟩ e1 hr1 rv=>⟨i,by subst ed;simpa only[Rep]using rv,k _ M1 H1 q1 e1 hr1⟩⟩
def c7(xs:List D) (lo hi:Option Int):List D:=(xs.drop (HT.sIx xs.length 0 lo)).take (HT.sIx xs.length xs.length hi-HT.sIx xs.length 0 lo)
def slD:D->Option Int->Option Int->Option D
 |.lst ds,lo,hi=>some (.lst (c7 ds lo hi))
 |.scr ds,lo,hi=>some (.lst (c7 ds lo hi))
 |.str x,lo,hi=>if x.length<=H0 then some (.str (X6 x lo hi))else none
 |.tup ds,lo,hi=>if HT.sIx ds.length 0 lo=0/\HT.sIx ds.length ds.length hi=ds.length then none else some (.tup (c7 ds lo hi))
 |_,_,_=>none
def GN:V->Option Int->Option Int->Hp->VK->Prop:=fun x lo hi H Q=>∃z,x=.str z/\z.length<=H0/\Q (.str (X6 z lo hi)) H
theorem C1:SlR X GN:=by
 intro aa s σ H x v vl vu lo hi sl Q I rx hs pl pu h;obtain⟨z,rfl,hz,q⟩:=h;obtain⟨t,rfl⟩:=rx;refine⟨"str",_,PySem.F.slot_str_getitem.lookup,typeIs_str _ _ _,?_⟩;have fin:∀(t':Tok) (k:Nat),EP X aa σ Q (.str (X6 z lo hi) t') { s with toks:=k }:=fun t' k=>⟨.str (X6 z lo hi),H,I.tok _,⟨t',rfl⟩,q⟩;cases pl with
 |none =>
  cases pu with
  |none=>exact R5 (l:=none) (u:=none) (st:=none) hs rfl (V6 ⟨N0 (X7 z _ _) hz,fin⟩)
  |int j tj=>exact R5 (l:=none) (u:=some (j,tj)) (st:=none) hs rfl (V6 ⟨N0 (X7 z _ _) hz,fin⟩)
 |int i ti =>
  cases pu with
  |none=>exact R5 (l:=some (i,ti)) (u:=none) (st:=none) hs rfl (V6 ⟨N0 (X7 z _ _) hz,fin⟩)
  |int j tj=>exact R5 (l:=some (i,ti)) (u:=some (j,tj)) (st:=none) hs rfl (V6 ⟨N0 (X7 z _ _) hz,fin⟩)
end
def cC(names:List (Str×M9)) (cells:List (Str×J5)):List (Str×J5):=(names.filterMap fun y=>if y.2==.free then(cells.lookup y.1).map fun c=>(y.1,c)else none).reverse
noncomputable def eX(env:Env) (y:Str×M9) (cs:List (Str×J5)):Sem (ForInStep (List (Str×J5))):=if(y.2==.free)=true then(do let c <-cellOf env y.1;W0 (O1 ((y.1,c)::cs)))else W0 (O1 cs)
theorem jM{env:Env}:∀(names:List (Str×M9)) (acc:List (Str×J5)),(∀y∈names,y.2=.free->(env.cells.lookup y.1).isSome=true) ->
  (forIn names acc (eX env):Sem (List (Str×J5)))=W0 (cC names env.cells++acc)
 |[],acc,_=>by simp[cC]
 |y::r,acc,h=>by
  rw[List.forIn_cons]
  by_cases hk:(y.2==O6)=true
  ·have hs:=h y N9 (by simpa using hk);obtain⟨c,hc⟩:=P9.mp hs;have e1:eX env y acc=W0 (O1 ((y.1,c)::acc)):=by
    unfold eX cellOf;rw[if_pos hk,hc];simp only[ab3]
   rw[e1];simp only[ab3];rw[jM r ((y.1,c)::acc) fun y hy=>h y (L5 _ hy)];have e2:cC (y::r) env.cells=cC r env.cells++[(y.1,c)]:=by
    unfold cC;rw[R1,if_pos hk,hc];simp
   rw[e2];simp
  ·have e1:eX env y acc=W0 (O1 acc):=by
    unfold eX;rw[if_neg hk]
   rw[e1];simp only[ab3];rw[jM r acc fun y hy=>h y (L5 _ hy)];have e2:cC (y::r) env.cells=cC r env.cells:=by
    unfold cC;rw[R1,if_neg hk]
   rw[e2]
theorem Ae{scope:S7}{env:Env}(h:∀y∈scope.names,y.2=.free->(env.cells.lookup y.1).isSome=true):closureFor scope env=W0 (cC scope.names env.cells):=by
 have:=jM (env:=env) scope.names [] h;simp only[V4]at this;show(forIn scope.names [] (eX env) >>= fun cs=>W0 cs)=_;rw[this];simp only[ab3]
theorem wB{cells:List (Str×J5)}{names:List (Str×M9)}{x:Str}{c:J5}(h:(cC names cells).lookup x=some c):cells.lookup x=some c:=by
 have hm:=N1 h;unfold cC at hm;rw[List.mem_reverse,T5]at hm;obtain⟨y,_,e⟩:=hm
 split at e
 ·cases q:cells.lookup y.1 with
  |none=>rw[q]at e;cases e
  |some c'=>rw[q]at e;cases e;exact q
 ·cases e
theorem dq:∀{l:List (Str×J5)}{x:Str}{c:J5},(x,c)∈l->∃c',l.lookup x=some c'
 |(y,d)::l,x,c,h=>by
  rw[N4];cases q:x==y with
  |true=>exact⟨d,by simp⟩
  |false =>
   rcases R8.mp h with e|h
   ·cases e;simp at q
   ·simpa using dq h
theorem wX{cells:List (Str×J5)}{names:List (Str×M9)}{x:Str}(h:names.lookup x=some .free) (hs:(cells.lookup x).isSome=true):∃c,(cC names cells).lookup x=some c:=by
 obtain⟨c,hc⟩:=P9.mp hs;refine dq (c:=c) ?_;unfold cC;rw[List.mem_reverse,T5];exact⟨(x,.free),N1 h,by simp[hc]⟩
noncomputable def aJ(fs:S7) (N:List Str) (scope:S7) (ms:List Bool):Bool :=
 scope.kind==.function&&scope.names.all (fun y=>y.2 != .cell)&&scope.names.all (fun y=>y.2 != .local || scope.names.lookup y.1==some .local) &&
 scope.names.all (fun y=>y.2 != .free || fs.names.lookup y.1==some .cell)&&(ms.zip N).all (fun y=>!y.1 || scope.names.lookup y.2==some .free)&&decide (ms.length<=N.length)
theorem ay{X:Cx}{scope:S7}{ms:List Bool}{ak:List Str}{n0:Nat}(hX:X.env.cells=ab1 n0 X.env.scope.names []) (c:aJ X.env.scope X.N scope ms=true):fm X scope (cC scope.names X.env.cells) ms ak:=by
 unfold aJ at c;simp only[K9,V0,decide_eq_true_eq]at c;obtain⟨⟨⟨⟨⟨c1,c2⟩,c3⟩,c4⟩,c5⟩,c6⟩:=c;have fr:∀x,(x,O6)∈scope.names->X.env.scope.names.lookup x=some .cell:=fun x hx=>by
  have:=c4 _ hx;simpa using this
 have cs:∀x,(x,O6)∈scope.names->(X.env.cells.lookup x).isSome=true:=fun x hx=>by
  rw[hX];exact PySem.W.cellsFrom_some _ _ _ (.inl (fr x hx))
 refine⟨by simpa using c1,fun y hy e=>?_,fun y hy e=>?_,Ae fun y hy e=>?_,fun x c h=>wB h,fun x h=>wX h (cs x (N1 h)),fun x h=>.inl (fr x (N1 h)),fun i x h1 h2=>?_,c6⟩
 ·have:=c2 y hy;rw[e]at this;simp at this
 ·have:=c3 y hy;simpa[e]using this
 ·obtain⟨a,b⟩:=y;cases e;exact cs a hy
 ·have:=c5 (true,x) (by
   rw[List.mem_iff_getElem?];exact⟨i,by rw[List.getElem?_zip_eq_some];exact⟨h1,h2⟩⟩)
  simpa using this
structure FnD(P:K6) (w:O3) (K:o0) (mg:Str->Option u8) (base:L6) (x:Str) (k n:Nat) (S:SpD):Prop where
 ex:∃(f:J5) (fd:P6) (ps:List Str),aQ P w K mg base CX0 k f fd ps (spD K n S)/\mg x=some (.ref f)/\S0 K (.ref f)=true/\c9 K fd ps []
section
variable{X:Cx}{e:K1}{es:List K1}{t:TAd}{pos p:Pos}{x:Str}{k n:Nat}{S:SpD}
theorem dc(F:FnD X.prog X.w X.K X.mg X.base x k n S) (hr:cw k X.A) (hg:Gl X x) (ha:PAd X (e::es) t) (hdb:(x==("__debug__":Str))=false:=by decide) (he:J8 (e::es) X.env=(false,U7 e X.env)::J8 es X.env:=by rfl) (hpl:(S9 pos (J8 es X.env)).any (·.1)=false:=by rfl) :
  PEd X (.Call (.Name x p) (e::es) [] pos) (m9 n S t):=by
 obtain⟨f,fd,ps,h1,h2,h3,h4⟩:=F.ex;exact B3 h1 hr hg h2 h3 h4 ha hdb he hpl
end
section
variable{X:Cx}{a b c e:K1}{es:List K1}{te ta tb:TEd}{t:TAd}{pos:Pos}{tg iter:K1}
def Bh(te:TEd):TSd:=fun E Δ M=>te Δ M fun d M1=>∃a ds,d=.ref a/\M1 a=some (.lst ds)/\E.rt (.lst ds) (vI M1 a)
theorem CV:bK X (aa8 .Add) (iOp fun i j=>some (.int (i+j))):=by
 intro aa s σ H M x y v u dx dy dz Q I hr rx ry r1 r2 e k;obtain⟨i,j,rfl,rfl,e'⟩:=lP e;cases e';exact CZ aa s σ H x y v u Q I rx ry ⟨i,j,gQ r1,gQ r2,k _ H (Ext.refl _ _) hr (by simp[Rep])⟩
theorem EL:Et X (unaryOp .USub) (fun d=>match d with|.int i=>some (.int (-i))|_=>none):=by
 intro aa s σ H M x v dx dz Q I hr rx r1 e k;cases dx with
 |int i=>cases e;exact CC aa s σ H x v Q I rx ⟨i,gQ r1,k _ H (Ext.refl _ _) hr (by simp[Rep])⟩
 |_=>cases e
def iy:D->Option (List D)
 |.tup ds=>some ds
 |.lst ds=>some ds
 |.scr ds=>some ds
 |.str x=>if x.length<=H0 then some (fC x)else none
 |_=>none
def AN(te:TEd):TId:=fun Δ M R=>te Δ M fun d M1=>∃ds,iy d=some ds/\(ds.length<=H0->R ds M1)
theorem rH{aa:List (J5×Obj)}{σ:St}{H:Hp}{s:v0}{o:Obj}(I:Inv X aa σ H s):∀b∈[s.heap.objs.size],gS X aa H b:=fun b hb=>by
 have e:b=s.heap.objs.size:=by simpa using hb
 subst e;exact I.fpOk (J7 _) (I.hok.fresh (J7 _))
theorem B9{K:o0}{x:Str}{M1:DH}{H1:Hp}:ItD K (ItW x.cps.size fun i v=>∃c,x.cps[i]?=some c/\v=.str ⟨#[c]⟩) (fC x) M1 H1:=fun M2 H2 e2 hr2 i=>⟨fun d hd=>by
  unfold fC at hd;rw[Q0]at hd;cases q:x.cps.toList[i]? with
  |none=>rw[q]at hd;cases hd
  |some c =>
   rw[q]at hd;cases hd;have hc:x.cps[i]?=some c:=by simpa using q
   refine⟨?_,fun y H' ⟨eH,c',hc',ey⟩=>?_⟩
   ·exact(Array.getElem?_eq_some_iff.mp hc).1
   ·subst eH;subst ey;rw[hc]at hc';cases hc';exact⟨Ext.refl _ _,hr2,by simp[Rep]⟩,fun hl=>by
  show x.cps.size<=i;simpa[fC]using hl⟩
end
section
variable{M:DH}
theorem zr{i:Int}:rdM M (.int i)=.int i:=rfl
theorem Dp{i:Bool}:rdM M (.bl i)=.bl i:=rfl
theorem zK{i:Str}:rdM M (.str i)=.str i:=rfl
theorem zz:rdM M .non=.non:=rfl
theorem An{i:List D}:rdM M (.tup i)=.tup i:=rfl
theorem yR{i:List D}:rdM M (.lst i)=.lst i:=rfl
theorem yL{i:List D}:rdM M (.scr i)=.scr i:=rfl
theorem yH{a:J5}{ds:List D}(h:M a=some (.lst ds)):rdM M (.ref a)=.lst ds:=by simp[rdM,h]
theorem zD{a:J5}{ds:List D}:rdM (aG M a (.lst ds)) (.ref a)=.lst ds:=yH aD
theorem BZ{f:Int->Int->Option D}{a b:Int}:iOp f (.int a) (.int b)=f a b:=rfl
theorem zd{a b:Int}:oV (.int a) (.int b)=some (.int (a+b)):=rfl
theorem Al{a b:Str}:oV (.str a) (.str b)=if a.length+b.length<=H0 then some (.str (a++b))else none:=rfl
theorem zm{a b:List D}:oV (.lst a) (.lst b)=if a.length+b.length<=H0 then some (.lst (a++b))else none:=rfl
theorem yY{a b:List D}:oV (.tup a) (.tup b)=if a.length+b.length<=H0 then some (.tup (a++b))else none:=rfl
theorem Es{a:List D}{b:Int}:ixD (.lst a) (.int b)=atI a b:=rfl
theorem FN{a:List D}{b:Int}:ixD (.scr a) (.int b)=atI a b:=rfl
theorem E1{a:List D}{b:Int}:ixD (.tup a) (.int b)=atI a b:=rfl
theorem DP{α:Type}{x:α}{xs:List α}:atI (x::xs) 0=some x:=bC (j:=0) rfl
theorem FK{α:Type}{x y:α}{xs:List α}:atI (x::y::xs) 1=some y:=bC (j:=1) rfl
theorem EH{α:Type}{x y z:α}{xs:List α}:atI (x::y::z::xs) 2=some z:=bC (j:=2) rfl
theorem xQ{f:D->Option D}{d:D}:pV f [d]=f d:=rfl
theorem BF{a:List D}:va (.lst a)=some (.int a.length):=rfl
theorem BA{a:List D}:va (.tup a)=some (.int a.length):=rfl
theorem CO{a:List D}:va (.scr a)=some (.int a.length):=rfl
theorem Dy{x:Str}:va (.str x)=if x.length<=H0 then some (.int x.length)else none:=rfl
theorem Bt{i:Int}:F2 (.int i)=some (.int (if i<0 then -i else i)):=rfl
theorem De{a:List D}:CM (.lst a)=some (.tup a):=rfl
theorem Bn{a:List D}:CM (.tup a)=some (.tup a):=rfl
theorem DV{b:Bool}{x:D}{ds:List D}:inD b x (.lst ds)=if aX x=true/\ds.all aX=true then some (.bl (xor b (ds.any fun d=>eqD d x)))else none:=rfl
theorem Fi{b:Bool}{x:D}{ds:List D}:inD b x (.tup ds)=if aX x=true/\ds.all aX=true then some (.bl (xor b (ds.any fun d=>eqD d x)))else none:=rfl
theorem Dm{a b:Int}:eqF (.int a) (.int b)=some (.bl (a==b)):=by simp[eqF,dLe,eqD]
theorem CT{a b:Str}:eqF (.str a) (.str b)=some (.bl (a==b)):=by simp[eqF,dLe,eqD]
theorem C7{a b:Bool}:eqF (.bl a) (.bl b)=some (.bl (a==b)):=by simp[eqF,dLe,eqD]
theorem DT{ds:List D}{lo hi:Option Int}:slD (.scr ds) lo hi=some (.lst (c7 ds lo hi)):=rfl
theorem DY{ds:List D}{lo hi:Option Int}:slD (.lst ds) lo hi=some (.lst (c7 ds lo hi)):=rfl
theorem D0{x:Str}{lo hi:Option Int}:slD (.str x) lo hi=if x.length<=H0 then some (.str (X6 x lo hi))else none:=rfl
theorem yf{a:List D}:iy (.lst a)=some a:=rfl
theorem yD{a:List D}:iy (.tup a)=some a:=rfl
theorem xv{a:List D}:iy (.scr a)=some a:=rfl
theorem wH{x:Str}:iy (.str x)=if x.length<=H0 then some (fC x)else none:=rfl
theorem EZ{n:Nat}:ixN (n+1) 0=some 0:=by simp[ixN]<;>omega
theorem EM{n:Nat}:ixN (n+2) 1=some 1:=by simp[ixN]<;>omega
theorem DW{n:Nat}:ixN (n+3) 2=some 2:=by simp[ixN]<;>omega
theorem sz3(n:Nat) (h:n<=1000:=by decide):n<=H0:=N0 h (by decide)
theorem BO{b:Bool}:Au "bool" (.bl b)=some true:=rfl
end
end L2
namespace L2
theorem EG{i j:Int}(h:-18446744073709551616<j/\j<18446744073709551616):jC i j=True:=by unfold jC;simp;right;omega
theorem Ee{i j:Int}(h:-18446744073709551616<i/\i<18446744073709551616):jC i j=True:=by unfold jC;simp;left;omega
theorem w9:mS 10 18=True:=by simp[mS]
theorem FM{i j:Int}(h:0<j/\j<1073741824):qh i j=True:=by unfold qh;simp[h]
end L2
namespace L2
open PySem PySem.Spec PyProof.Rows
theorem z0{a b:Str}:eqD (.str a) (.str b)=(a==b):=by simp[eqD]
theorem gb{x:Str}:∀{ws:List Str},(ws.map D.str).any (fun d=>eqD d (.str x))=decide (x∈ws)
 |[]=>by simp
 |w::ws=>by
  rw[O0,O5,gb (ws:=ws),z0]
  by_cases h:w=x
  ·subst h;simp
  ·have h2:(w==x)=false:=by simpa using h
   have h3:¬ x=w:=fun e=>h e.symm;simp[h2,h3]
theorem jt{ws:List Str}:(ws.map D.str).all aX=true:=by
 induction ws with
 |nil=>rfl
 |cons w ws ih=>rw[O0,T8,ih];rfl
section
variable{X:Cx}{e:K1}{te:TEd}{pos:Pos}
def Bc(te:TEd):TSd:=fun E Δ M=>te Δ M fun d M1=>∃M2,LeM M2 M1/\E.rt d M2
theorem yZ{M:DH}{q:J5}{o:HD}(h:M q=none):LeM M (aG M q o):=fun a u e=>by
 by_cases ha:a=q
 ·subst ha;rw[h]at e;cases e
 ·rw[cu ha];exact e
end
end L2
namespace L2
open PySem PySem.Spec PyProof.Rows PySem.Builtin.Str
def tx(cs:List Nat):Str:=⟨cs.toArray⟩
theorem gH(cs:List Nat):(tx cs).cps.toList=cs:=by simp[tx]
theorem oq(cs:List Nat):(tx cs).length=cs.length:=by show(tx cs).cps.size=_;simp[tx]
theorem cM{α:Type} [DecidableEq α]:∀(V K:List α),V.Nodup->(∀x∈V,x∈K)->V.length<=K.length
 |[],_,_,_=>U3 _
 |x::V,K,hn,h=>by
  have hx:=h x N9;obtain⟨h1,h2⟩:=T6.mp hn;have:=cM V (K.erase x) h2 fun y hy=>(List.mem_erase_of_ne (by rintro rfl;exact h1 hy)).mpr (h y (L5 _ hy));rw[List.length_erase_of_mem hx]at this;have hp:0<K.length:=List.length_pos_of_mem hx;simp only[U8]
  lia
abbrev abc:Str:=Str.ofString "abcdefghijklmnopqrstuvwxyz"
def fJ:List Nat:=List.range' 97 26
theorem sO:abc=tx fJ:=by decide +kernel
theorem vE:fC abc=fJ.map fun c=>D.str (tx [c]):=by
 unfold fC;rw[sO,gH];rfl
end L2
namespace L2
open PySem PySem.Spec PyProof.Rows
theorem nN{g:GD}{tb:TSd}{E:dU}{all:List D}(I:Nat->DE->DH->Prop)
  (step:∀(i:Nat) (d:D) (Δ:DE) (M:DH) (X:DE->DH->Prop),all[i]?=some d->I i Δ M->(∀ Δ' M',I (i+1) Δ' M'->X Δ' M')->∃ Δ',g d Δ=some Δ'/\tb { E with nx:=X,ct:=X,bk:=E.nx } Δ' M)
  (fin:∀ Δ M,I all.length Δ M->E.nx Δ M):∀(ds:List D) (i:Nat) (Δ:DE) (M:DH),all.drop i=ds->i<=all.length->I i Δ M->bW g tb E ds Δ M
 |[],i,Δ,M,e,hi,h=>by
  have:i=all.length:=by
   have:=congrArg W7 e;simp at this;lia
  subst this;simpa only[bW]using fin Δ M h
 |d::ds,i,Δ,M,e,hi,h=>by
  have hlt:i<all.length:=by
   have:=congrArg W7 e;simp at this;lia
  have hd:all[i]?=some d:=by
   have:=congrArg List.head? e;simpa using this
  have hn:all.drop (i+1)=ds:=by
   rw[<-List.tail_drop,e];rfl
  simp only[bW];exact step i d Δ M _ hd h fun Δ' M' h'=>nN I step fin ds (i+1) Δ' M' hn hlt h'
theorem aY{g:GD}{tb:TSd}{E:dU}{ds:List D}{Δ:DE}{M:DH}(I:Nat->DE->DH->Prop) (h0:I 0 Δ M)
  (step:∀(i:Nat) (d:D) (Δ:DE) (M:DH) (X:DE->DH->Prop),ds[i]?=some d->I i Δ M->(∀ Δ' M',I (i+1) Δ' M'->X Δ' M')->∃ Δ',g d Δ=some Δ'/\tb { E with nx:=X,ct:=X,bk:=E.nx } Δ' M)
  (fin:∀ Δ M,I ds.length Δ M->E.nx Δ M):bW g tb E ds Δ M:=nN I step fin ds 0 Δ M rfl (U3 _) h0
theorem qk{g:GD}{tc:TTd}{te:TEd}{all:List D}{Q:List D->DH->Prop}(I:Nat->List D->DE->DH->Prop)
  (step:∀ (i:Nat) (d:D) (acc:List D) (Δ:DE) (M:DH) (X:List D → DE → DH → Prop),all[i]? = some d → I i acc Δ M → (∀ acc' Δ' M',I (i + 1) acc' Δ' M' → X acc' Δ' M') →
   ∃ Δ',g d Δ=some Δ'/\tc Δ' M fun b M1=>if b=true then te Δ' M1 fun y M2=>X (acc++[y]) Δ' M2 else X acc Δ' M1)
  (fin:∀acc Δ M,I all.length acc Δ M->Q acc M):∀(ds:List D) (i:Nat) (acc:List D) (Δ:DE) (M:DH),all.drop i=ds->i<=all.length->I i acc Δ M->dA g tc te ds Δ M acc Q
 |[],i,acc,Δ,M,e,hi,h=>by
  have:i=all.length:=by
   have:=congrArg W7 e;simp at this;lia
  subst this;simpa only[dA]using fin acc Δ M h
 |d::ds,i,acc,Δ,M,e,hi,h=>by
  have hlt:i<all.length:=by
   have:=congrArg W7 e;simp at this;lia
  have hd:all[i]?=some d:=by
   have:=congrArg List.head? e;simpa using this
  have hn:all.drop (i+1)=ds:=by
   rw[<-List.tail_drop,e];rfl
  simp only[dA];exact step i d acc Δ M (fun acc' Δ' M'=>dA g tc te ds Δ' M' acc' Q) hd h fun acc' Δ' M' h'=>qk I step fin ds (i+1) acc' Δ' M' hn hlt h'
theorem iH{g:GD}{tc:TTd}{te:TEd}{ds:List D}{Δ:DE}{M:DH}{Q:List D->DH->Prop}(I:Nat->List D->DE->DH->Prop) (h0:I 0 [] Δ M)
  (step:∀ (i:Nat) (d:D) (acc:List D) (Δ:DE) (M:DH) (X:List D → DE → DH → Prop),ds[i]? = some d → I i acc Δ M → (∀ acc' Δ' M',I (i + 1) acc' Δ' M' → X acc' Δ' M') →
   ∃ Δ',g d Δ=some Δ'/\tc Δ' M fun b M1=>if b=true then te Δ' M1 fun y M2=>X (acc++[y]) Δ' M2 else X acc Δ' M1)
  (fin:∀acc Δ M,I ds.length acc Δ M->Q acc M):dA g tc te ds Δ M [] Q:=qk I step fin ds 0 [] Δ M rfl (U3 _) h0
theorem szB(n:Nat) (h:n<=16000000:=by decide):n<=H0:=N0 h (by decide)
theorem dZ{α:Type}{f:α->D}{xs:List α}{i:Nat}{d:D}(h:(xs.map f)[i]?=some d):∃x,xs[i]?=some x/\d=f x:=by
 rw[Q0]at h;cases e:xs[i]? with
 |none=>rw[e]at h;cases h
 |some x=>rw[e]at h;cases h;exact⟨x,rfl,rfl⟩
theorem pP{K:o0}{M:DH}{H:Hp}:∀ns:List Int,aj K M H (ns.map D.int) (ns.map V.int)
 |[]=>aj.nil
 |n::ns=>aj.cons (by simp[Rep]) (pP ns)
theorem uR{K:o0}{H:Hp}{a:J5}{ns:List Int}(hO:zU H) (hS:SqL K H a (ns.map V.int)):aj K noM H [.scr (ns.map D.int)] [.ref a]:=by
 refine aj.cons ?_ aj.nil;simp only[Rep];refine⟨a,ns.map V.int,rfl,?_,pP ns⟩;rcases hS with h|h
 ·left;rcases h with h|h
  ·rcases hO a with z|⟨o,xs,z⟩<;>(rw[h]at z;cases z)
  ·exact⟨h,rfl⟩
 ·right;exact .inr h
def Fb(S:SpD):Prop:=∀(ns:List Int) (R:D->DH->Prop),ns.length<=63->(∀M',R (.bl true) M')->S [.scr (ns.map .int)] noM R
theorem Ea{S:SpD}(hS:Fb S) {k:Nat}{x:Str}{l:PySem.W.OpenLaw}{q:K6}{loose:List Str}{XP:(Str->Option u8)->L6->Prop}{YP:O3->L6->Prop}{d:DefRec}{K:Params->o0}(hr:cw k Z5) (hn:l.most=some 63) (hdf:d.params.defaults=[])
  (hY:∀(w:O3) (h:L6),YP w h->(K w.params).In h)
  (F:∀ (w:O3) (mg:Str → Option u8) (fa:J5) (h:L6),(K w.params).In h → h.Ns R0 mg → mg d.name = some (.ref fa) →
   ∃fd:P6,(∀(s:v0) (u:u8),ab0 s fd ⟨[u],[]⟩ [(x,u)])/\∀base:L6,(K w.params).In base->base.Ns R0 mg->aQ l.prog w (K w.params) mg base CX0 k fa fd [x] (spD (K w.params) 1 S)) :
  PySem.W.WalkO q loose XP YP l.row.toRowW d [] (fun f vs=>PySem.call f vs) :=
 L2.ud (n:=63) (k:=k) (x:=x) (CX:=fun _=>CX0) (sp:=fun w=>spD (K w.params) 1 S) hn (by decide) hdf hr hY F
  (fun w H a ns hl hO hq=>⟨[.scr (ns.map .int)],noM,fun d _=>d=.bl true,rfl,uR hO hq,HR.nil,hS ns _ hl (fun _=>rfl),fun d M' v H' e _ _ rv=>by subst e;simpa only[Rep]using rv⟩) fun _ _ _ _ _ z=>z
section
variable{prog:K6}{w:O3}{A:N6}{E:u8->v0->Prop}{s:v0}
def sR(h:L6) (a l:J5) (i:Int):Prop:=∃o,h.get? a=some o/\o.cls=.type "reversed"/\o.data=.fields #[.ref l,rawInt i]
theorem sR.at{h h':L6}{a l:J5}{i:Int}(x:sR h a l i) (e:∀o,h.get? a=some o->h'.get? a=some o):sR h' a l i:=let⟨o,ho,r⟩:=x;⟨o,e _ ho,r⟩
end
section
variable{X:Cx}
def neF(x y:D):Option D:=if dLe x 60=true/\dLe y 60=true then some (.bl (!(eqD x y)))else none
theorem AF(hu:X.A.units+64<aa5):bK X (K8 .NotEq) neF:=by
 intro aa s σ H M x y v u dx dy dz Q I hr rx ry r1 r2 e k;unfold neF at e
 by_cases hc:dLe dx 60=true/\dLe dy 60=true
 ·rw[if_pos hc]at e;cases e;exact(ou I 60 (A:=X.A) (by lia) hc.1 hc.2 r1 r2 rx ry).2.2 X.prog X.w X.xe _ ⟨.bl (!(eqD dx dy)),H,I,rfl,k _ H (Ext.refl _ _) hr (by simp[Rep])⟩
 ·rw[if_neg hc]at e;cases e
theorem Dd{a b:Int}:neF (.int a) (.int b)=some (.bl (!(a==b))):=by simp[neF,dLe,eqD]
theorem CQ{a b:Str}:neF (.str a) (.str b)=some (.bl (!(a==b))):=by simp[neF,dLe,eqD]
theorem Cu{a b:Bool}:neF (.bl a) (.bl b)=some (.bl (!(a==b))):=by simp[neF,dLe,eqD]
end
end L2
namespace HT
open PySem PyProof.Rows
section
variable{prog:K6}{w:O3}{A:N6}{E:u8->v0->Prop}{s:v0}
theorem mT{t:J5}{items:Array u8}{Q:Bool->v0->Prop}(ht:ab4 s.heap t items) (h:Q true s):K4 (K5 prog w) A (L7.Tuple.tupleIsExact (.ref t)) Q E s:=by
 unfold L7.Tuple.tupleIsExact;exact J1 (wpAny_typeOf ht.typeIs (J6 (by simpa using h)))
theorem getItem_tuple_whole{t sl:J5}{items:Array u8}{vl vu:u8}{lo hi:Option Int}{Q:u8->v0->Prop}(ht:ab4 s.heap t items) (hs:s.heap.IsSliceOf sl vl vu .none) (pl:Z9 vl lo) (pu:Z9 vu hi)
  (hw:sIx items.size 0 lo=0/\sIx items.size items.size hi=items.size) (h:Q (.ref t) s):K4 (K5 prog w) A (W8 (.ref t) (.ref sl)) Q E s:=by
 obtain⟨os,hos,hcs,hds⟩:=id hs;have hTs:s.TypeIs (.ref sl) "slice":=⟨os,hos,hcs⟩;unfold W8
 try with_reducible refine wpAny_holding ?_
 first|refine J1 (J6 ?_)|skip
 refine J1 (wpAny_sequenceKey ht.typeIs (by decide) ?_);refine J1 (wpAny_callSpecial?_slot (name:=Str.ofString "__getitem__") ht.typeIs K7
  (wpAny_call_entry K7 ht.typeIs entry_tuple_getitem ?_ (args_tuple_getitem _ _)))
 show K4 _ _ (L7.Tuple.tupleItemsOf (.ref t) >>= _) _ _ s;refine J1 (tupleItemsOf_ ht ?_);refine J1 (wpAny_typeOf hTs ?_);rw[if_pos (by decide)];refine J1 (eT hs pl pu ?_);show K4 _ _ (if(((sIx items.size 0 lo:Nat):Int)==0&&(1:Int)==1&&(sIx items.size items.size hi-sIx items.size 0 lo)==items.size)=true then _ else _) _ _ s;rw[if_pos (by rw[hw.1,hw.2];simp)];refine J1 (mT ht ?_);rw[if_pos rfl];refine J1 (wpAny_rule ?_)
 first
  |exact J6 ⟨_,rfl,J6 h⟩
  |exact J1 (J6 (J6 ⟨_,rfl,J6 h⟩))
end
end HT
namespace L2
open PySem PySem.Spec PyProof.Rows
section
variable{X:Cx}{a b c e:K1}{es:List K1}{te ta tb ts:TEd}{t:TAd}{pos:Pos}
def slE:D->Option Int->Option Int->Option D
 |.tup ds,lo,hi=>some (.tup (c7 ds lo hi))
 |d,lo,hi=>slD d lo hi
def FS(K:o0):V->Option Int->Option Int->Hp->VK->Prop:=fun x lo hi H Q=>∃a xs,x=.ref a/\SqT K H a xs/\(HT.sIx xs.length 0 lo=0/\HT.sIx xs.length xs.length hi=xs.length)/\Q (.ref a) H
theorem xG:SlR X (FS X.K):=by
 intro aa s σ H x v vl vu lo hi sl Q I rx hs pl pu h;obtain⟨a,xs,rfl,hx,hw,q⟩:=h;cases rx;obtain⟨its,r,ht,hz⟩:=I.tuple hx;have bD:its.toArray.size=xs.length:=by rw[I0];exact r.length.symm
 exact⟨"tuple",_,K7.lookup,ht.typeIs,HT.getItem_tuple_whole ht hs pl pu (by rw[bD];exact hw) ⟨.ref a,H,I,rfl,q⟩⟩
theorem rT{ds:List D}{lo hi:Option Int}(h:HT.sIx ds.length 0 lo=0/\HT.sIx ds.length ds.length hi=ds.length):c7 ds lo hi=ds:=by
 unfold c7;rw[h.1,h.2];simp
def D5(te:TEd) (tl th:TOd):TEd:=fun Δ M Q=>te Δ M fun x M1=>tl Δ M1 fun l M2=>th Δ M2 fun u M3=>∃z,slE (rdM M3 x) l u=some z/\Q z M3
theorem Ez{ds:List D}{lo hi:Option Int}:slE (.tup ds) lo hi=some (.tup (c7 ds lo hi)):=rfl
theorem Fz{ds:List D}{lo hi:Option Int}:slE (.lst ds) lo hi=some (.lst (c7 ds lo hi)):=rfl
theorem Ey{ds:List D}{lo hi:Option Int}:slE (.scr ds) lo hi=some (.lst (c7 ds lo hi)):=rfl
theorem Er{x:Str}{lo hi:Option Int}:slE (.str x) lo hi=if x.length<=H0 then some (.str (X6 x lo hi))else none:=rfl
variable{scope:S7}{cl:List (Str×J5)}{ak:List Str}{tg:K1}
def yK(X:Cx) (scope:S7) (cl:List (Str×J5)) (ak:List Str) (tgs:List K1) (g:GDs):Prop:=∃gv:TGs,(∀C s H ex,PGs (aB X scope cl (X.N++ak) C s H ex) tgs gv)/\∀(ds:List D) (vs:List V) (σ:St) (Δ Δ':DE) (M:DH) (H:Hp) (Q:St->Hp->Prop),SR X.K M H σ Δ->HR X.K M H->aj X.K M H ds vs->g ds Δ=some Δ'->(∀ σ',SR X.K M H σ' Δ'->Q σ' H)->gv vs σ H Q
theorem yi:yK X scope cl ak [] ni:=⟨DD,fun _ _ _ _=>sZ,fun ds vs σ Δ Δ' M H Q sr hr rv e k=>by
 cases ds with
 |nil=>simp only[aj]at rv;subst rv;cases e;exact⟨rfl,k _ sr⟩
 |cons _ _=>cases e⟩
theorem kM{tgs:List K1}{g:GD}{gs:GDs}(h1:PGa X scope cl ak tg g) (h2:yK X scope cl ak tgs gs)
  (hs:∀env,(P2 (tg::tgs) env).map (·.2)=Z7 tg env::(P2 tgs env).map (·.2):=by intro _;rfl):yK X scope cl ak (tg::tgs) (eB g gs):=by
 obtain⟨g1,p1,k1⟩:=h1;obtain⟨g2,p2,k2⟩:=h2;refine⟨xf g1 g2,fun C s H ex=>qT (p1 C s H ex) (p2 C s H ex) (hs _),fun ds vs σ Δ Δ' M H Q sr hr rv e k=>?_⟩;cases ds with
 |nil=>cases e
 |cons d r =>
  simp only[aj]at rv;obtain⟨v,ws,rfl,h3,h4⟩:=rv;simp only[eB]at e;cases q:g d Δ with
  |none=>rw[q]at e;cases e
  |some Δ1 =>
   rw[q]at e;exact⟨v,ws,rfl,k1 d v σ Δ Δ1 M H _ sr hr h3 q fun σ1 sr1=>k2 r ws σ1 Δ1 Δ' M H Q sr1 hr h4 e k⟩
theorem yc{tgs:List K1}{kx:Nat}{g:GDs}{n:Nat}(hc:X.calm=true) (h:yK X scope cl ak tgs g) (hn:∀env,(P2 tgs env).length=n:=by intro _;rfl) (hst:∀env,(P2 tgs env).findIdx? (·.1)=none:=by intro _;rfl):PGa X scope cl ak (.Tuple tgs kx pos) (j9 g n):=by
 obtain⟨g1,p1,k1⟩:=h;refine⟨Bv X.K n g1,fun C s H ex=>wY (X:=aB X scope cl (X.N++ak) C s H ex) hc (p1 C s H ex) (hn _) (hst _),fun d v σ Δ Δ' M H Q sr hr rv e k=>?_⟩;cases d with
 |tup ds =>
  simp only[j9]at e
  by_cases hl:ds.length=n
  ·rw[if_pos hl]at e;simp only[Rep]at rv;obtain⟨a,vs,rfl,ta,rl⟩:=rv;exact⟨a,vs,rfl,ta.sq,by rw[<-rl.length];exact hl,k1 ds vs σ Δ Δ' M H Q sr hr rl e k⟩
  ·rw[if_neg hl]at e;cases e
 |_=>cases e
end
section
variable{X:Cx}{a b c e:K1}{es:List K1}{te ta tb ts:TEd}{t:TAd}{pos:Pos}
def inE(neg:Bool) (x y:D):Option D:=match y with
 |.str j=>match x with
  |.str i=>some (.bl (xor neg (!(R3 j i 0 j.length 1).isEmpty)))
  |_=>none
 |y=>inD neg x y
theorem wU:bK X (K8 .In) (inE false):=by
 intro aa s σ H M x y v u dx dy dz Q I hr rx ry r1 r2 e k;cases dy with
 |str j =>
  cases dx with
  |str i =>
   cases e;exact u5 aa s σ H x y v u Q I rx ry ⟨i,j,mQ r1,mQ r2,k _ H (Ext.refl _ _) hr (by simp[Rep])⟩
  |_=>cases e
 |_=>exact Gk aa s σ H M x y v u dx _ dz Q I hr rx ry r1 r2 e k
theorem kY:bK X (K8 .NotIn) (inE true):=by
 intro aa s σ H M x y v u dx dy dz Q I hr rx ry r1 r2 e k;cases dy with
 |str j =>
  cases dx with
  |str i =>
   cases e;exact oA aa s σ H x y v u Q I rx ry ⟨i,j,mQ r1,mQ r2,k _ H (Ext.refl _ _) hr (by simp[Rep])⟩
  |_=>cases e
 |_=>exact Ad aa s σ H M x y v u dx _ dz Q I hr rx ry r1 r2 e k
theorem EC{b:Bool}{x:D}{ds:List D}:inE b x (.lst ds)=if aX x=true/\ds.all aX=true then some (.bl (xor b (ds.any fun d=>eqD d x)))else none:=rfl
theorem En{b:Bool}{x:D}{ds:List D}:inE b x (.tup ds)=if aX x=true/\ds.all aX=true then some (.bl (xor b (ds.any fun d=>eqD d x)))else none:=rfl
theorem AK{b:Bool}{c:Nat}{y:Str}:inE b (.str (tx [c])) (.str y)=some (.bl (xor b (decide (c∈y.cps.toList)))):=by
 show some (D.bl (xor b (!(R3 y ⟨#[c]⟩ 0 y.length 1).isEmpty)))=_;rw[StrLaws.found_one]
theorem jU:fillsNumberSlot (.type "tuple") "mul"=W0 false :=
 PySem.fillsNumberSlot_seq (id:="tuple.__mul__") (r:=some (.builtin "tuple.__rmul__")) F.slot_tuple_mul.lookup (by decide +kernel) F.slot_tuple_rmul.lookup (by decide +kernel)
theorem oo:seqRepeat? (.type "tuple")=W0 (some (.builtin "tuple.__mul__")):=by
 unfold seqRepeat?;rw[PySem.seqSlot_of (T:="tuple") (name:="__mul__") (id:="tuple.__mul__") F.slot_tuple_mul.lookup (by decide +kernel),PySem.seqSlot_of (T:="tuple") (name:="__rmul__") (id:="tuple.__rmul__") F.slot_tuple_rmul.lookup (by decide +kernel)];rfl
theorem lH(a:Int) (t:Tok) (l:J5) (items:Array u8) :
  Meets (L7.«int.__rmul__» ⟨[.int a t,.ref l],[]⟩) (fun _ R s=>ab4 s.heap l items/\R (.ok (.ret u8.notImplemented)) s) :=
 .of_wp fun prog w A R s h=>by
  obtain⟨hp,g,d,tk,os⟩:=s;obtain⟨⟨⟨cls,dd,data,sl⟩,ho,hc,n,hd⟩,h⟩:=h;simp only at hc hd;subst hc hd
  wp_walk;exact⟨_,rfl,h⟩
theorem mX(l:J5) (items:Array u8) (x:Int) (u:Tok) (hne:items.isEmpty=false) (hx:2<=x) (hx2:x<2 ^ 62) (hz:items.size*x.toNat<=H0) :
  Meets (L7.«tuple.__mul__» ⟨[.ref l,.int x u],[]⟩) (fun _ R s=>ab4 s.heap l items/\R (.ok (.ret (.ref s.heap.objs.size))) { s with heap:=s.heap.push { cls:=.type "tuple",data:=.seq (J3 x.toNat items.toList).flatten.toArray } }) :=
 .of_wp fun prog w A R s h=>by
  obtain⟨ht,h⟩:=h;show K4 _ _ (do
   let n <-asIndex (.int x u)
   if n < -(2 ^ 63) || n>=2 ^ 63 then
    rule "tuple.repeat.overflow";raiseError "OverflowError" s!"cannot fit '{← typeNameOf (.int x u)}' into an index-sized integer"
   let xs <-L7.Tuple.tupleItemsOf (.ref l)
   if xs.isEmpty || n==1 then
    if <-L7.Tuple.tupleIsExact (.ref l)then rule "tuple.repeat.same-object";return <-ret (.ref l)
   if n<=0 || xs.isEmpty then return <-ret (<-M7 #[])
   if xs.size*n > (2 ^ 63-1) / 8 then rule "tuple.repeat.no-memory";raiseNew (<-newExc (.type "MemoryError") [])
   if L7.Tuple.tupleTooMany (xs.size*n)then unsupported "tuple.__mul__:memory"
   ret (<-M7 ((J3 n.toNat xs).foldl (·++·) #[]))) _ _ s
  refine J1 (wpAny_of_eq (a:=x) rfl ?_);dsimp only;rw[if_neg (by simp only[Bool.or_eq_true,decide_eq_true_eq];lia)];refine J1 (tupleItemsOf_ ht ?_);rw[if_neg (by simp[hne];lia)];rw[if_neg (by simp[hne];lia)];have hxn:((x.toNat:Nat):Int)=x:=by lia
  have hm:(items.size:Int)*x=((items.size*x.toNat:Nat):Int):=by rw[Int.natCast_mul,hxn]
  have h16:H0=16777216:=rfl;rw[if_neg (by rw[hm];lia)];rw[if_neg (by unfold L7.Tuple.tupleTooMany;rw[hm];simp only[decide_eq_true_eq];lia)];have hf:aa1 (fun x1 x2=>x1++x2) #[] (J3 x.toNat items)=(J3 x.toNat items.toList).flatten.toArray:=by
   have:=jB items.toList x.toNat [];rw[List.nil_append]at this;simpa using this
  rw[hf];have hs:sizeOk (.seq (J3 x.toNat items.toList).flatten.toArray):=by
   show(J3 x.toNat items.toList).flatten.toArray.size<=H0;rw[I0,pI,S1,Nat.mul_comm];exact hz
  exact J1 (m:=M7 _) (Q3 (J6 ⟨_,rfl,h⟩) hs)
theorem aj.rep{K:o0}{M:DH}{H:Hp}{ds:List D}{vs:List V}(h:aj K M H ds vs):∀k:Nat,aj K M H (J3 k ds).flatten (J3 k vs).flatten
 |0=>aj.nil
 |k+1=>by
  rw[N3,N3,Q5,Q5];exact h.append (aj.rep h k)
def o6:D->D->Option D
 |.int a,.int b=>if jC a b then some (.int (a*b))else none
 |.str x,.int n=>if x.length<=16777216/\-(2 ^ 63)<=n/\n<=16777216/\x.length*n.toNat<=16777216 then some (.str (Txt.mul x n))else none
 |.tup ds,.int n=>if 2<=n/\n<2 ^ 62/\ds≠[]/\ds.length*n.toNat<=H0 then some (.tup (J3 n.toNat ds).flatten)else none
 |.lst ds,.int n=>if -(2 ^ 63)<=n/\n<2 ^ 63/\ds.length*n.toNat<=H0 then some (.lst (J3 n.toNat ds).flatten)else none
 |_,_=>none
theorem eE:bK X (O2 .Mult) o6:=by
 intro aa s σ H M x y v u dx dy dz Q I hr rx ry r1 r2 e k;cases dx with
 |int a =>
  cases dy with
  |int b=>exact Ci aa s σ H M x y v u _ _ dz Q I hr rx ry r1 r2 e k
  |_=>cases e
 |str z =>
  cases dy with
  |int n =>
   simp only[o6]at e
   by_cases hc:z.length<=16777216/\-(2 ^ 63)<=n/\n<=16777216/\z.length*n.toNat<=16777216
   ·rw[if_pos hc]at e;cases e;have e1:=mQ r1;have e2:=gQ r2;subst e1;subst e2;obtain⟨t1,rfl⟩:=rx;obtain⟨t2,rfl⟩:=ry;have hok:MulOk z n:=by
     by_cases hn:0<=n
     ·exact mulOk_of z.length n.toNat (J7 _) (by lia) hc.2.1 (by lia) hc.2.2.2
     ·exact mulOk_of z.length 0 (J7 _) (by lia) hc.2.1 (by lia) (by lia)
    exact SB.mul hok fun t' kk=>⟨.str _,H,I.tok _,⟨t',rfl⟩,k _ H (Ext.refl _ _) hr (by simp[Rep])⟩
   ·rw[if_neg hc]at e;cases e
  |_=>cases e
 |tup ds =>
  cases dy with
  |int n =>
   simp only[o6]at e
   by_cases hc:2<=n/\n<2 ^ 62/\ds≠[]/\ds.length*n.toNat<=H0
   ·rw[if_pos hc]at e;cases e;have e2:=gQ r2;subst e2;obtain⟨t2,rfl⟩:=ry;obtain⟨a,vs,rfl,sq,rl⟩:=r1;cases rx;obtain⟨its,rv,pt,hz⟩:=I.tuple sq;have hl1:=rv.length;have hl2:=rl.length;have hne:its.toArray.isEmpty=false:=by
     cases its with
     |nil =>
      have h0:ds.length=0:=by rw[hl2,hl1];rfl
      exact absurd (List.length_eq_zero_iff.mp h0) hc.2.2.1
     |cons _ _=>rfl
    have hzz:its.toArray.size*n.toNat<=H0:=by rw[I0,<-hl1,<-hl2];exact hc.2.2.2
    refine wpAny_binaryOp_repeat_ref (T:="tuple") (U:="int") (by decide) pt.typeIs (fun s'=>X9 s' n t2) jU F.fills_int_mul V5 oo F.slot_int_index.lookup
     (W4 V5 (X9 s n t2) F.entry_int_rmul (F.args_int_rmul_2 _ _) (lH n t2 a its.toArray)
      ⟨pt,rfl,pt.typeIs,W4 F.slot_tuple_mul pt.typeIs F.entry_tuple_mul (F.args_tuple_mul_2 _ _) (mX a its.toArray n t2 hne hc.1 hc.2.1 hzz) ⟨pt,?_⟩⟩)
    have rr:ar (J3 n.toNat vs).flatten (J3 n.toNat its).flatten:=rv.rep n.toNat;refine⟨.ref s.heap.objs.size,_,I.laid (t':=s.toks) (o:=.tup (J3 n.toNat vs).flatten) (fun b ob q=>J0 _ q) (J7 _) ?_,rfl,?_⟩
    ·refine⟨?_,_,rr,by simpa using mB.new _ _⟩;rw[pI,Nat.mul_comm,<-hl2];exact hc.2.2.2
    ·exact om hr (I.hok.fresh (J7 _)) (rl.rep n.toNat) k
   ·rw[if_neg hc]at e;cases e
  |_=>cases e
 |lst ds =>
  cases dy with
  |int n =>
   simp only[o6]at e
   by_cases hc:-(2 ^ 63)<=n/\n<2 ^ 63/\ds.length*n.toNat<=H0
   ·rw[if_pos hc]at e;cases e;obtain⟨a,vs,rfl,sq,rl⟩:=r1;exact BL aa s σ H _ _ v u Q I rx ry ⟨a,n,vs,rfl,gQ r2,sq,hc.1,hc.2.1,by rw[<-rl.length];exact hc.2.2,fun p hp=>dM hr hp (rl.rep n.toNat) k⟩
   ·rw[if_neg hc]at e;cases e
  |_=>cases e
 |_=>cases e
theorem zH{a b:Int}:o6 (.int a) (.int b)=if jC a b then some (.int (a*b))else none:=rfl
def A4:D->Bool
 |.non=>true
 |_=>false
def zW(neg:Bool) (x y:D):Option D:=match y with|.non=>some (.bl (xor neg (A4 x)))|_=>none
theorem uO{b:Bool}{x:D}:zW b x .non=some (.bl (xor b (A4 x))):=rfl
variable{scope:S7}{cl:List (Str×J5)}{ms:List Bool}{ak:List Str}{ifs:List K1}{tg iter elt:K1}
end
@[irreducible] def QEd(X:Cx) (e:K1) (t:TEd):Prop:=PEd X e t
theorem QEd.eq{X:Cx}{e:K1}{t:TEd}:QEd X e t=(PEd X e t):=by unfold QEd;rfl
@[irreducible] def QAd(X:Cx) (e:List K1) (t:TAd):Prop:=PAd X e t
theorem QAd.eq{X:Cx}{e:List K1}{t:TAd}:QAd X e t=(PAd X e t):=by unfold QAd;rfl
@[irreducible] def QTd(X:Cx) (e:K1) (t:TTd):Prop:=PTd X e t
theorem QTd.eq{X:Cx}{e:K1}{t:TTd}:QTd X e t=(PTd X e t):=by unfold QTd;rfl
@[irreducible] def QWd(X:Cx) (e:K1) (t:TTd):Prop:=PWd X e t
theorem QWd.eq{X:Cx}{e:K1}{t:TTd}:QWd X e t=(PWd X e t):=by unfold QWd;rfl
@[irreducible] def QSd(X:Cx) (e:X8) (t:TSd):Prop:=PSd X e t
theorem QSd.eq{X:Cx}{e:X8}{t:TSd}:QSd X e t=(PSd X e t):=by unfold QSd;rfl
@[irreducible] def QSs(X:Cx) (e:List X8) (t:TSd):Prop:=zR X e t
theorem QSs.eq{X:Cx}{e:List X8}{t:TSd}:QSs X e t=(zR X e t):=by unfold QSs;rfl
@[irreducible] def QId(X:Cx) (tg e:K1) (t:TId):Prop:=PId X tg e t
theorem QId.eq{X:Cx}{tg e:K1}{t:TId}:QId X tg e t=(PId X tg e t):=by unfold QId;rfl
@[irreducible] def QIf(X:Cx) (e:List K1) (t:TTd):Prop:=FI X e t
theorem QIf.eq{X:Cx}{e:List K1}{t:TTd}:QIf X e t=(FI X e t):=by unfold QIf;rfl
@[irreducible] def QOd(X:Cx) (e:Option K1) (t:TOd):Prop:=POd X e t
theorem QOd.eq{X:Cx}{e:Option K1}{t:TOd}:QOd X e t=(POd X e t):=by unfold QOd;rfl
theorem ae{X:Cx}(i:Nat) {x:Str}{pos:Pos}(hN:X.N[i]?=some x:=by rfl) (hv:Vis X.env.scope x:=by first|exact Or.inl rfl|exact Or.inr (Or.inl rfl)|exact Or.inr (Or.inr rfl)) (hd:(x==("__debug__":Str))=false:=by decide)
  (hcd:(x==("__classdict__":Str))=false:=by decide):QEd X (.Name x pos) (gN i):=by
 simp only[QEd.eq]at *
 exact(Ca hN hv hd hcd).conv fun σ H Q ⟨Δ,M,R,sr,hr,⟨d,e,q⟩,k⟩=>let⟨v,ev,rv⟩:=sr.2 i d e;⟨v,ev,k d M v H q (Ext.refl _ _) hr rv⟩
theorem ai{X:Cx}{i j pos}:QEd X (.Constant (.int i) j pos) (dC (.int i)):=by
 simp only[QEd.eq]at *
 exact Dt.conv fun σ H Q hup=>hup.el fun Δ M R sr hr q k=>k _ M _ H q (Ext.refl _ _) hr (by simp[Rep])
theorem vV{X:Cx}{i j pos}:QEd X (.Constant (.bool i) j pos) (dC (.bl i)):=by
 simp only[QEd.eq]at *
 exact E5.conv fun σ H Q hup=>hup.el fun Δ M R sr hr q k=>k _ M _ H q (Ext.refl _ _) hr (by simp[Rep])
theorem nc{X:Cx}{i j pos}:QEd X (.Constant (.str i) j pos) (dC (.str i)):=by
 simp only[QEd.eq]at *
 exact C9.conv fun σ H Q hup=>hup.el fun Δ M R sr hr q k=>k _ M _ H q (Ext.refl _ _) hr (by simp[Rep])
theorem DK{X:Cx}{j pos}:QEd X (.Constant .none j pos) (dC .non):=by
 simp only[QEd.eq]at *
 exact BV.conv fun σ H Q hup=>hup.el fun Δ M R sr hr q k=>k _ M _ H q (Ext.refl _ _) hr (by simp[Rep])
theorem dE{X:Cx}{x:Str}{i:Int}{pos:Pos}(hg:Gl X x) (hm:∃tk,X.mg x=some (.int i tk)) (hd:(x==("__debug__":Str))=false:=by decide):QEd X (.Name x pos) (dC (.int i)):=by
 simp only[QEd.eq]at *
 obtain⟨t,ht⟩:=hm;exact yU hg ht hd
theorem yd{X:Cx}{x y:Str}{pos:Pos}(hg:Gl X x) (hm:∃tk,X.mg x=some (.str y tk)) (hd:(x==("__debug__":Str))=false:=by decide):QEd X (.Name x pos) (dC (.str y)):=by
 simp only[QEd.eq]at *
 obtain⟨t,ht⟩:=hm;exact yM hg ht hd
theorem ah{X:Cx}:QAd X [] EY:=by
 simp only[QAd.eq]at *
 exact fO.conv fun σ H Q hup=>hup.el fun Δ M R sr hr q k=>k _ M _ H q (Ext.refl _ _) hr aj.nil
theorem af{X:Cx}{a:K1}{es:List K1}{ta:TEd}{tr:TAd}(ha:QEd X a ta) (hr:QAd X es tr) (hs:J8 (a::es) X.env=(false,U7 a X.env)::J8 es X.env:=by rfl):QAd X (a::es) (A7 ta tr):=by
 simp only[QEd.eq,QAd.eq]at *
 exact(cG ha hr hs).conv fun σ H Q hup=>hup.el fun Δ M R sr hr q k=>⟨Δ,M,_,sr,hr,q,fun d M1 v H1 q1 e1 hr1 rv=>⟨Δ,M1,_,sr.ext e1,hr1,q1,fun ds M2 vs H2 q2 e2 hr2 rvs =>
   k _ M2 _ H2 q2 (e1.trans e2) hr2 (aj.cons (rv.ext e2) rvs)⟩⟩
theorem kh{X:Cx}{es:List K1}{pos:Pos}{x1}{t:TAd}(h:QAd X es t):QEd X (.Tuple es x1 pos) (EE t):=by
 simp only[QEd.eq,QAd.eq]at *
 exact(sJ h).conv fun σ H Q hup=>hup.el fun Δ M R sr hr q k=>⟨Δ,M,_,sr,hr,q,fun ds M1 vs H1 ⟨z,q1⟩ e1 hr1 rv=>⟨by rw[<-rv.length];exact z,fun p hp=>k _ M1 _ _ q1 (e1.trans (Ext.new hr1 hp)) (hr1.new hp) (by
   simp only[Rep];exact⟨p,vs,rfl,.inl ⟨.inl aL,hr1.fresh hp⟩,rv.ext (Ext.new hr1 hp)⟩)⟩⟩
theorem nP{X:Cx}{es:List K1}{pos:Pos}{t:TAd}(h:QAd X es t):QEd X (.List es pos) (D6 t):=by
 simp only[QEd.eq,QAd.eq]at *
 exact(vP h).conv fun σ H Q hup=>hup.el fun Δ M R sr hr q k=>⟨Δ,M,_,sr,hr,q,fun ds M1 vs H1 ⟨z,q1⟩ e1 hr1 rv=>⟨by rw[<-rv.length];exact z,fun p hp=>k _ M1 _ _ q1 (e1.trans (Ext.new hr1 hp)) (hr1.new hp) (by
   simp only[Rep];exact⟨p,vs,rfl,⟨aL,hr1.fresh hp⟩,rv.ext (Ext.new hr1 hp)⟩)⟩⟩
theorem eD{X:Cx}{es:List K1}{pos:Pos}{t:TAd}(h:QAd X es t):QEd X (.List es pos) (Bb t):=by
 simp only[QEd.eq,QAd.eq]at *
 exact(vP h).conv fun σ H Q hup=>hup.el fun Δ M R sr hr q k=>⟨Δ,M,_,sr,hr,q,fun ds M1 vs H1 ⟨z,q1⟩ e1 hr1 rv=>⟨by rw[<-rv.length];exact z,fun p hp=>k _ _ _ _ (q1 p (hr1.fresh hp)) (e1.trans (Ext.own hp)) (hr1.own hp rv) (by
   simp only[Rep])⟩⟩
theorem av{X:Cx}{a:K1}{b:K1}{ta:TEd}{tb:TEd}{pos:Pos}{op:aa6}{r:D->D->Option D}(ho:bK X (O2 op) r) (ha:QEd X a ta) (hb:QEd X b tb):QEd X (.BinOp a op b pos) (dOp r ta tb):=by
 simp only[QEd.eq]at *
 exact(D3 ho.v ha hb).conv wk
theorem iG{X:Cx}{a:K1}{b:K1}{ta:TEd}{tb:TEd}{pos:Pos}{op:CmpOp}{r:D->D->Option D}(ho:bK X (K8 op) r) (ha:QEd X a ta) (hb:QEd X b tb) (hm:T0 op b=false):QEd X (.Compare a [op] [b] pos) (dOp r ta tb):=by
 simp only[QEd.eq]at *
 exact(Ai ho.v ha hb hm).conv wk
theorem aO{X:Cx}{a:K1}{b:K1}{ta:TEd}{tb:TEd}{pos:Pos}{r:D->D->Option D}(ho:IxR X (opV X.K r)) (ha:QEd X a ta) (hb:QEd X b tb) (hs:sX b):QEd X (.Subscript a b pos) (dOp r ta tb):=by
 simp only[QEd.eq]at *
 exact(EF ho ha hb hs).conv wk
theorem FB{X:Cx}{a:K1}{ta:TEd}{pos:Pos}{op:UnaryOp}{r:D->Option D}(ho:Et X (unaryOp op) r) (ha:QEd X a ta):QEd X (.UnaryOp op a pos) (dUn r ta):=by
 simp only[QEd.eq]at *
 have h:UnR X (unaryOp op) (fun x H Q=>∃dx dz M,HR X.K M H/\aM X.K M H dx x/\r dx=some dz/\∀w H',Ext M H M H'->HR X.K M H'->Rep X.K M H' dz w->Q w H'):=fun aa s σ H x v Q I rx ⟨dx,dz,M,hr,r1,e,k⟩=>ho aa s σ H M x v dx dz Q I hr rx r1 e k;exact(Fm h ha).conv fun σ H Q hup=>hup.el fun Δ M R sr hr q k=>⟨Δ,M,_,sr,hr,q,fun x M1 v H1 ⟨z,ez,q1⟩ e1 hr1 rv=>⟨_,z,M1,hr1,rv.rd hr1,ez,fun w H' e2 hr2 rw_=>k z M1 w H' q1 (e1.trans e2) hr2 rw_⟩⟩
theorem aZ{X:Cx}{a:K1}{b:K1}{ta:TEd}{tb:TEd}{pos:Pos}{op:CmpOp}{r:D->D->Option D}(ho:bK X (K8 op) r) (ha:QEd X a ta) (hb:QEd X b tb) (hm:T0 op b=false):QTd X (.Compare a [op] [b] pos) (qB (dOp r ta tb)):=by
 simp only[QEd.eq,QTd.eq]at *
 refine(zG ho.v ha hb hm).conv fun σ H Q h=>?_;obtain⟨Δ,M,R,sr,hr,q,k⟩:=h;exact⟨Δ,M,_,sr,hr,q,fun x M1 v H1 q1 e1 hr1 rv=>⟨Δ,M1,_,sr.ext e1,hr1,q1,fun y M2 u H2 ⟨z,ez,b,eb,q2⟩ e2 hr2 ru=>⟨_,_,z,M2,hr2,(rv.ext e2).rd hr2,ru.rd hr2,ez,fun w H' e3 hr3 rw_ =>
  ⟨b,by subst eb;simpa only[Rep]using rw_,k b M2 H' q2 ((e1.trans e2).trans e3) hr3⟩⟩⟩⟩
theorem eu{X:Cx}{a:K1}{ta:TEd}(h:QEd X a ta) (he:∀whole,isTrue a X.env whole=(do let v <-whole;aa7 a.pos;holding [v] (truthy v)):=by intro _;rfl):QTd X a (qB ta):=by
 simp only[QEd.eq,QTd.eq]at *
 exact(BG h he).conv DS
theorem sm{X:Cx}{a:K1}{pos:Pos}{tA:TTd}(h:QTd X a tA):QTd X (.UnaryOp .Not a pos) (AO tA):=by
 simp only[QTd.eq]at *
 exact(C8 h).conv fun σ H Q hup=>hup.el fun Δ M R sr hr q k=>⟨Δ,M,_,sr,hr,q,fun b M1 H1 q1 e1 hr1=>k _ M1 H1 q1 e1 hr1⟩
theorem ji{X:Cx}{a:K1}{pos:Pos}{tA:TTd}(ha:QTd X a tA):QWd X (.BoolOp .And [a] pos) tA:=by
 simp only[QTd.eq,QWd.eq]at *
 exact zV ha
theorem wa{X:Cx}{a:K1}{pos:Pos}{tA:TTd}(ha:QTd X a tA):QWd X (.BoolOp .Or [a] pos) tA:=by
 simp only[QTd.eq,QWd.eq]at *
 exact Dv ha
theorem iw{X:Cx}{a:K1}{b:K1}{pos:Pos}{tA:TTd}{tB':TTd}{aH:List K1}(ha:QTd X a tA) (hb:QWd X (.BoolOp .And (b::aH) pos) tB'):QWd X (.BoolOp .And (a::b::aH) pos) (tT tA tB'):=by
 simp only[QTd.eq,QWd.eq]at *
 exact(CL ha hb).conv fun σ H Q hup=>hup.el fun Δ M R sr hr q k=>⟨Δ,M,_,sr,hr,q,fun c M1 H1 q1 e1 hr1=>by
   cases c with
   |true=>simp only[if_true]at q1 ⊢;exact⟨Δ,M1,R,sr.ext e1,hr1,q1,fun b M2 H2 q2 e2 hr2=>k b M2 H2 q2 (e1.trans e2) hr2⟩
   |false=>simp only[O7,if_false]at q1 ⊢;exact k _ M1 H1 q1 e1 hr1⟩
theorem Bg{X:Cx}{a:K1}{b:K1}{pos:Pos}{tA:TTd}{tB':TTd}{aH:List K1}(ha:QTd X a tA) (hb:QWd X (.BoolOp .Or (b::aH) pos) tB'):QWd X (.BoolOp .Or (a::b::aH) pos) (Fo tA tB'):=by
 simp only[QTd.eq,QWd.eq]at *
 exact(El ha hb).conv fun σ H Q hup=>hup.el fun Δ M R sr hr q k=>⟨Δ,M,_,sr,hr,q,fun c M1 H1 q1 e1 hr1=>by
   cases c with
   |false=>simp only[O7,if_false]at q1 ⊢;exact⟨Δ,M1,R,sr.ext e1,hr1,q1,fun b M2 H2 q2 e2 hr2=>k b M2 H2 q2 (e1.trans e2) hr2⟩
   |true=>simp only[if_true]at q1 ⊢;exact k _ M1 H1 q1 e1 hr1⟩
theorem ef{X:Cx}{a:K1}{ta:TEd}{pos:Pos}{op}(h:QEd X a ta):QEd X (.BoolOp op [a] pos) ta:=by
 simp only[QEd.eq]at *
 exact Df h
theorem bG{X:Cx}{a:K1}{b:K1}{ta:TEd}{tb:TEd}{pos:Pos}{aH:List K1}(ha:QEd X a ta) (hb:QEd X (.BoolOp .And (b::aH) pos) tb):QEd X (.BoolOp .And (a::b::aH) pos) (EW ta tb):=by
 simp only[QEd.eq]at *
 exact(CH ha hb).conv fun σ H Q hup=>hup.el fun Δ M R sr hr q k=>⟨Δ,M,_,sr,hr,q,fun d M1 v H1 ⟨c,e,q1⟩ e1 hr1 rv=>⟨c,by subst e;simpa only[Rep]using rv,by
   cases c with
   |true=>simp only[if_true]at q1 ⊢;exact⟨Δ,M1,R,sr.ext e1,hr1,q1,fun b M2 v2 H2 q2 e2 hr2 r2=>k b M2 v2 H2 q2 (e1.trans e2) hr2 r2⟩
   |false=>simp only[O7,if_false]at q1 ⊢;exact k _ M1 _ H1 q1 e1 hr1 (by simp[Rep])⟩⟩
theorem EJ{X:Cx}{a:K1}{ta:TEd}{pos:Pos}(ha:QEd X a ta):QEd X (.UnaryOp .Not a pos) (Fu ta):=by
 simp only[QEd.eq]at *
 exact(Bm ha).conv fun σ H Q hup=>hup.el fun Δ M R sr hr q k=>⟨Δ,M,_,sr,hr,q,fun d M1 v H1 ⟨c,e,q1⟩ e1 hr1 rv =>
  ⟨c,by subst e;simpa only[Rep]using rv,k _ M1 _ H1 q1 e1 hr1 (by simp[Rep])⟩⟩
theorem kP{X:Cx}{a:K1}{b:K1}{c:K1}{ta:TEd}{tb:TEd}{pos:Pos}{tc:TEd}{op op':CmpOp}{r r':D->D->Option D}(ho:bK X (K8 op) r) (ho':bK X (K8 op') r') (ha:QEd X a ta) (hb:QEd X b tb) (hc:QEd X c tc)
  (hm:lastMarks [op,op'] [b,c]=false:=by with_unfolding_all rfl):QEd X (.Compare a [op,op'] [b,c] pos) (wo r r' ta tb tc):=by
 simp only[QEd.eq]at *
 refine(wA ho.v ho'.v ha hb hc hm).conv fun σ H Q h=>?_;obtain⟨Δ,M,R,sr,hr,q,k⟩:=h;refine⟨Δ,M,_,sr,hr,q,fun x M1 v H1 q1 e1 hr1 rv=>⟨Δ,M1,_,sr.ext e1,hr1,q1,fun y M2 u H2 ⟨b,eb,q2⟩ e2 hr2 ru=>⟨_,_,.bl b,M2,hr2,(rv.ext e2).rd hr2,ru.rd hr2,eb,fun w H3 e3 hr3 rw_ =>
  ⟨b,by simpa only[Rep]using rw_,?_⟩⟩⟩⟩
 cases b with
 |true =>
  simp only[if_true]at q2 ⊢;exact⟨Δ,M2,_,(sr.ext (e1.trans e2)).ext e3,hr3,q2,fun z M4 w4 H4 ⟨d,ed,q4⟩ e4 hr4 r4=>⟨_,_,d,M4,hr4,((ru.ext e3).ext e4).rd hr4,r4.rd hr4,ed,fun w5 H5 e5 hr5 r5=>k d M4 w5 H5 q4 ((((e1.trans e2).trans e3).trans e4).trans e5) hr5 r5⟩⟩
 |false =>
  simp only[O7,if_false]at q2 ⊢;exact k _ M2 _ H3 q2 ((e1.trans e2).trans e3) hr3 (by simp[Rep])
theorem au{X:Cx}{pos:Pos}{x:Str}{p:Pos}{e:K1}{es:List K1}{t:TAd}{id:String}{r:List D->Option D}(hc:cg X (.builtin id) r) (hg:Gl X x) (hm:X.mg x=none) (hv:Q8 x=some (.builtin id)) (ha:QAd X (e::es) t) (hn:x≠"__name__":=by decide) (hdb:(x==("__debug__":Str))=false:=by decide)
  (he:J8 (e::es) X.env=(false,U7 e X.env)::J8 es X.env:=by rfl) (hpl:(S9 pos (J8 es X.env)).any (·.1)=false:=by rfl):QEd X (.Call (.Name x p) (e::es) [] pos) (dCB r t):=by
 simp only[QEd.eq,QAd.eq]at *
 exact(fY hc.v hg hm hv ha hn hdb he hpl).conv AV
theorem bX{X:Cx}{pos:Pos}{x:Str}{p:Pos}{e:K1}{es:List K1}{t:TAd}{id:String}{r:List D->Option D}(hc:cg X (.type id) r) (hg:Gl X x) (hm:X.mg x=none) (hv:Q8 x=some (.type id)) (ha:QAd X (e::es) t) (hn:x≠"__name__":=by decide) (hdb:(x==("__debug__":Str))=false:=by decide)
  (he:J8 (e::es) X.env=(false,U7 e X.env)::J8 es X.env:=by rfl) (hpl:(S9 pos (J8 es X.env)).any (·.1)=false:=by rfl):QEd X (.Call (.Name x p) (e::es) [] pos) (dCB r t):=by
 simp only[QEd.eq,QAd.eq]at *
 exact(vj hc.v hg hm hv ha hn hdb he hpl).conv AV
theorem cp{X:Cx}:QSs X [] rm:=by
 simp only[QSs.eq]at *
 exact uG.conv fun D σ H hup=>hup.el fun Δ M E sr hr q u=>u.nx Δ M σ H q (Ext.refl _ _) hr sr
theorem am{X:Cx}{st:X8}{aH:List X8}{t:TSd}{u:TSd}(h1:QSd X st t) (h2:QSs X aH u):QSs X (st::aH) (Dx t u):=by
 simp only[QSd.eq,QSs.eq]at *
 exact(qY h1 h2).conv fun D σ H hup=>hup.el fun Δ M E sr hr q k=>⟨Δ,M,{ E with nx:=u E },sr,hr,q,⟨fun Δ' M' σ' H' q' e' hr' sr'=>⟨Δ',M',E,sr',hr',q',k.ext e'⟩,k.bk,k.ct,k.rt⟩⟩
theorem ao{X:Cx}{st:X8}{t:TSd}(h1:QSd X st t):QSs X [st] t:=by
 simp only[QSd.eq,QSs.eq]at *
 exact uo h1
theorem a7{X:Cx}{e:K1}{te:TEd}{pos:Pos}(he:QEd X e te):QSd X (.Return (some e) pos) (BW te):=by
 simp only[QEd.eq,QSd.eq]at *
 exact(oY he).conv fun D σ H hup=>hup.el fun Δ M E sr hr q k=>⟨Δ,M,_,sr,hr,q,k.rt⟩
theorem dv{X:Cx}{e:K1}{te:TEd}{pos:Pos}(he:QEd X e te) (hs:W1 e none pos.line X.env=W0 false:=by rfl):QSd X (.Expr e pos) (uw te):=by
 simp only[QEd.eq,QSd.eq]at *
 exact(yN he hs).conv fun D σ H hup=>hup.el fun Δ M E sr hr q k=>⟨Δ,M,_,sr,hr,q,fun d M1 v H1 q1 e1 hr1 _=>k.nx Δ M1 σ H1 q1 e1 hr1 (sr.ext e1)⟩
theorem dQ{X:Cx}{c:K1}{pos:Pos}{t:TSd}{u:TSd}{sa sb:List X8}{tc:TTd}(hc:QTd X c tc) (ha:QSs X sa t) (hb:QSs X sb u):QSd X (.If c sa sb pos) (xS tc t u):=by
 simp only[QTd.eq,QSd.eq,QSs.eq]at *
 exact(A0 hc ha hb).conv fun D σ H hup=>hup.el fun Δ M E sr hr q k=>⟨Δ,M,_,sr,hr,q,fun b M1 H1 q1 e1 hr1=>by
   cases b with
   |true=>simp only[if_true]at q1 ⊢;exact⟨Δ,M1,E,sr.ext e1,hr1,q1,k.ext e1⟩
   |false=>simp only[O7,if_false]at q1 ⊢;exact⟨Δ,M1,E,sr.ext e1,hr1,q1,k.ext e1⟩⟩
theorem aR{X:Cx}{e:K1}{te:TEd}{pos:Pos}{i:Nat}{x:Str}{pos':Pos}(hN:X.N.Nodup) (hi:X.N[i]?=some x) (hx:Loc X.env.scope x) (he:QEd X e te) (hs:W1 e (some (.Name x pos')) pos.line X.env=W0 false:=by rfl) (hf:X.fn x=true∨X.env.scope.names.lookup x=some .local:=by first|exact .inl rfl|exact .inr rfl|assumption) :
  QSd X (.Assign [.Name x pos'] e pos) (Bs i te):=by
 simp only[QEd.eq,QSd.eq]at *
 exact(Bw hN hi hx he hs hf).conv fun D σ H hup=>hup.el fun Δ M E sr hr q k=>⟨Δ,M,_,sr,hr,q,fun d M1 v H1 q1 e1 hr1 rv=>k.nx _ M1 _ H1 q1 e1 hr1 ((sr.ext e1).set i rv)⟩
theorem E8{X:Cx}{e:K1}{te:TEd}{pos:Pos}{i:Nat}{x:Str}{op:aa6}{r:D->D->Option D}{pos':Pos}(hN:X.N.Nodup) (hi:X.N[i]?=some x) (hx:Loc X.env.scope x) (he:QEd X e te) (ho:bK X (aa8 op) r) (hf:X.fn x=true∨X.env.scope.names.lookup x=some .local:=by first|exact .inl rfl|exact .inr rfl|assumption) :
  QSd X (.AugAssign (.Name x pos') op e pos) (D4 i te r):=by
 simp only[QEd.eq,QSd.eq]at *
 have h:PIp X op (opV X.K r):=fun aa s σ H x y v u Q I rx ry q=>ho.v aa s σ H x y v u Q I rx ry q;refine(Ck hN hi hx he h hf).conv fun D σ H hh=>?_;obtain⟨Δ,M,E,sr,hr,⟨d,ed,q⟩,k⟩:=hh;obtain⟨v,ev,rv⟩:=sr.2 i d ed;refine⟨v,ev,Δ,M,_,sr,hr,q,fun y M1 w H1 ⟨z,ez,q1⟩ e1 hr1 rw_=>⟨_,_,z,M1,hr1,(rv.ext e1).rd hr1,rw_.rd hr1,ez,fun w2 H2 e2 hr2 r2=>k.nx _ M1 _ H2 q1 (e1.trans e2) hr2 (((sr.ext e1).ext e2).set i r2)⟩⟩
theorem cb{X:Cx}{a:K1}{pos:Pos}{tg:K1}{ta:TAd}{p:Pos}(hg:Gl X "range") (hm:X.mg "range"=none) (ha:QAd X [a] ta) (hs:J8 [a] X.env=[(false,U7 a X.env)]:=by rfl):QId X tg (.Call (.Name "range" p) [a] [] pos) (vQ ta):=by
 simp only[QAd.eq,QId.eq]at *
 exact(u9 hg hm ha hs).conv fun σ H R hup=>hup.el fun Δ M R' sr hr q k=>⟨Δ,M,_,sr,hr,q,fun ds M1 vs H1 ⟨j,ed,h1,h2,q1⟩ e1 hr1 rv=>by
   subst ed;obtain⟨v,ev,rv1⟩:=rv.one;have ev1:v=.int j:=by simpa only[Rep]using rv1
   subst ev1;subst ev;exact⟨j,rfl,h1,h2,k _ M1 _ H1 q1 e1 hr1 uz⟩⟩
theorem yI{X:Cx}{a:K1}{b:K1}{pos:Pos}{tg:K1}{ta:TAd}{p:Pos}(hg:Gl X "range") (hm:X.mg "range"=none) (ha:QAd X [a,b] ta) (hs:J8 [a,b] X.env=[(false,U7 a X.env),(false,U7 b X.env)]:=by rfl) (hs2:J8 [b] X.env=[(false,U7 b X.env)]:=by rfl):QId X tg (.Call (.Name "range" p) [a,b] [] pos) (xB ta):=by
 simp only[QAd.eq,QId.eq]at *
 exact(vJ hg hm ha hs hs2).conv fun σ H R hup=>hup.el fun Δ M R' sr hr q k=>⟨Δ,M,_,sr,hr,q,fun ds M1 vs H1 ⟨i,j,ed,h1,q1⟩ e1 hr1 rv=>by
   subst ed;obtain⟨v,w,ev,rv1,rv2⟩:=rv.two;have ev1:v=.int i:=by simpa only[Rep]using rv1
   have ev2:w=.int j:=by simpa only[Rep]using rv2
   subst ev1;subst ev2;subst ev;exact⟨i,j,rfl,h1,k _ M1 _ H1 q1 e1 hr1 uz⟩⟩
theorem dO{X:Cx}{pos:Pos}{tg:K1}{iter:K1}{body:List X8}{wi:TId}{g:GD}{tb:TSd}(hp:aa9 (K5 X.prog X.w) X.A X.env X.xe) (hc:X.calm=true) (hi:QId X tg iter wi) (hg:PGd X tg g) (hb:QSs X body tb)
  (hs:∀x,N7 iter X.env x=W0 x:=by intro _;rfl):QSd X (.For tg iter body [] pos) (Ew wi g tb):=by
 simp only[QSd.eq,QSs.eq,QId.eq]at *
 obtain⟨gv,pg,kg⟩:=hg;refine(CW hp hc hi pg hb hs).conv fun D σ H hh=>?_;obtain⟨Δ,M,E,sr,hr,q,k⟩:=hh;refine⟨Δ,M,_,sr,hr,q,fun ds M1 J H1 q1 e1 hr1 it=>?_⟩;refine⟨fun i m σ' H'=>∃ Δ' M',m=ds.length-i/\i<=ds.length/\Ext M1 H1 M' H'/\HR X.K M' H'/\SR X.K M' H' σ' Δ'/\bW g tb E (ds.drop i) Δ' M',⟨ds.length,Δ,M1,by simp,U3 _,Ext.refl _ _,hr1,sr.ext e1,q1⟩,?_⟩;rintro i m σ2 H2 ⟨Δ2,M2,rfl,hi2,e2,hr2,sr2,f2⟩;obtain⟨go,stop⟩:=it M2 H2 e2 hr2 i
 by_cases hlt:i<ds.length
 ·have hd:ds[i]?=some ds[i]:=by simp[hlt]
  obtain⟨g1,y1⟩:=go _ hd;rw[List.drop_eq_getElem_cons hlt]at f2;simp only[bW]at f2;obtain⟨Δ3,eg,f3⟩:=f2;refine .inr ⟨g1,fun σ' H'=>∃m',m'<ds.length-i/\∃ Δ' M',m'=ds.length-(i+1)/\i+1<=ds.length/\Ext M1 H1 M' H'/\HR X.K M' H'/\SR X.K M' H' σ' Δ'/\bW g tb E (ds.drop (i+1)) Δ' M',fun σ' H' z=>z,fun x H' hy=>?_⟩;obtain⟨e3,hr3,rx⟩:=y1 x H' hy;refine kg _ x σ2 Δ2 Δ3 M2 H' _ (sr2.ext e3) hr3 rx eg fun σ3 sr3=>?_;refine⟨Δ3,M2,_,sr3,hr3,f3,⟨fun Δ' M' σ' H'' q' e' hr' sr'=>?_,fun Δ' M' σ' H'' q' e' hr' sr'=>?_,fun Δ' M' σ' H'' q' e' hr' sr'=>?_,fun d M' v H'' q' e' hr' rv'=>?_⟩⟩
  ·exact⟨_,by lia,Δ',M',rfl,hlt,(e2.trans e3).trans e',hr',sr',q'⟩
  ·exact k.nx Δ' M' σ' H'' q' (((e1.trans e2).trans e3).trans e') hr' sr'
  ·exact⟨_,by lia,Δ',M',rfl,hlt,(e2.trans e3).trans e',hr',sr',q'⟩
  ·exact k.rt d M' v H'' q' (((e1.trans e2).trans e3).trans e') hr' rv'
 ·rw[List.drop_eq_nil_of_le (by lia)]at f2;exact .inl ⟨stop (by lia),k.nx Δ2 M2 σ2 H2 f2 (e1.trans e2) hr2 sr2⟩
theorem pe{X:Cx}{c:K1}{pos:Pos}{body:List X8}{tc:TTd}{tb:TSd}(hp:aa9 (K5 X.prog X.w) X.A X.env X.xe) (hc:QTd X c tc) (hb:QSs X body tb):QSd X (.While c body [] pos) (yj tc tb):=by
 simp only[QTd.eq,QSd.eq,QSs.eq]at *
 refine(vN hp hc hb).conv fun D σ H hh=>?_;obtain⟨Δ,M,E,sr,hr,⟨W,⟨m0,w0⟩,turn⟩,k⟩:=hh;refine⟨fun m σ' H'=>∃ Δ' M',Ext M H M' H'/\HR X.K M' H'/\SR X.K M' H' σ' Δ'/\W m Δ' M',⟨m0,Δ,M,Ext.refl _ _,hr,sr,w0⟩,?_⟩;rintro m σ1 H1 ⟨Δ1,M1,e1,hr1,sr1,w1⟩;refine⟨Δ1,M1,_,sr1,hr1,turn m Δ1 M1 w1,fun b M2 H2 q2 e2 hr2=>?_⟩;cases b with
 |true =>
  simp only[if_true]at q2 ⊢;refine⟨fun σ' H'=>∃m',m'<m/\∃ Δ' M',Ext M H M' H'/\HR X.K M' H'/\SR X.K M' H' σ' Δ'/\W m' Δ' M',fun σ' H' z=>z,Δ1,M2,_,sr1.ext e2,hr2,q2,⟨fun Δ' M' σ' H'' ⟨m',hm,w'⟩ e' hr' sr'=>?_,fun Δ' M' σ' H'' q' e' hr' sr'=>?_,fun Δ' M' σ' H'' ⟨m',hm,w'⟩ e' hr' sr'=>?_,fun d M' v H'' q' e' hr' rv'=>?_⟩⟩
  ·exact⟨m',hm,Δ',M',(e1.trans e2).trans e',hr',sr',w'⟩
  ·exact k.nx Δ' M' σ' H'' q' ((e1.trans e2).trans e') hr' sr'
  ·exact⟨m',hm,Δ',M',(e1.trans e2).trans e',hr',sr',w'⟩
  ·exact k.rt d M' v H'' q' ((e1.trans e2).trans e') hr' rv'
 |false =>
  simp only[O7,if_false]at q2 ⊢;exact k.nx Δ1 M2 σ1 H2 q2 (e1.trans e2) hr2 (sr1.ext e2)
theorem bR{X:Cx}:QIf X [] qi:=by
 simp only[QIf.eq]at *
 exact fun aa s σ H Q I ⟨Δ,M,R,sr,hr,q,k⟩=>zT aa s σ H Q I (k true M H q (Ext.refl _ _) hr)
theorem jR{X:Cx}{c:K1}{tc:TTd}(h:QTd X c tc):QIf X [c] tc:=by
 simp only[QTd.eq,QIf.eq]at *
 exact yG h
theorem gO{X:Cx}{pos:Pos}{tg:K1}{iter:K1}{elt:K1}{scope:S7}{cl:List (Str×J5)}{ms:List Bool}{ak:List Str}{ifs:List K1}{wi:TId}{g:GD}{tc:TTd}{te:TEd}(S:fm X scope cl ms ak) (gq:X.calm=true) (hi:QId X tg iter wi) (hg:PGa X scope cl ak tg g)
  (hif:∀C s H ex,QIf (aB X scope cl (X.N++ak) C s H ex) ifs tc) (he:∀C s H ex,QEd (aB X scope cl (X.N++ak) C s H ex) elt te)
  (hs:∀x,N7 iter X.env x=W0 x:=by intro _;rfl):QEd X (.ListComp elt [⟨tg,iter,ifs,0⟩] scope pos) (dLc ms ak.length wi g tc te):=by
 simp only[QEd.eq,QId.eq,QIf.eq]at *
 obtain⟨gv,pg,kg⟩:=hg;exact(wO (tc:=upT X.K tc) S gq hi pg hif (v4 (te:=up X.K te) he) hs).conv (uD kg)
theorem jo{X:Cx}{pos:Pos}{tg:K1}{iter:K1}{elt:K1}{scope:S7}{cl:List (Str×J5)}{ms:List Bool}{ak:List Str}{ifs:List K1}{i:Nat}{x:Str}{spos pos':Pos}{wi:TId}{g:GD}{tc:TTd}{te:TEd}(hN:X.N.Nodup) (hix:X.N[i]?=some x) (hx:X.env.scope.names.lookup x=some .local)
  (hsw:W1 (.ListComp elt [⟨tg,iter,ifs,0⟩] scope pos) (some (.Name x pos')) spos.line X.env=W0 true) (S:fm X scope cl ms ak) (gq:X.calm=true) (hi:QId X tg iter wi) (hg:PGa X scope cl ak tg g)
  (hif:∀C s H ex,QIf (aB X scope cl (X.N++ak) C s H ex) ifs tc) (he:∀C s H ex,QEd (aB X scope cl (X.N++ak) C s H ex) elt te)
  (hs:∀x,N7 iter X.env x=W0 x:=by intro _;rfl):QSd X (.Assign [.Name x pos'] (.ListComp elt [⟨tg,iter,ifs,0⟩] scope pos) spos) (Bs i (dLc ms ak.length wi g tc te)):=by
 simp only[QEd.eq,QSd.eq,QId.eq,QIf.eq]at *
 obtain⟨gv,pg,kg⟩:=hg;refine(vF (tc:=upT X.K tc) hN hix hx hsw S gq hi pg hif (v4 (te:=up X.K te) he) hs).conv fun D σ H hh=>?_;obtain⟨Δ,M,E,sr,hr,q,k⟩:=hh;exact uD kg σ H _ ⟨Δ,M,_,sr,hr,q,fun d M1 v H1 q1 e1 hr1 rv=>k.nx _ M1 _ H1 q1 e1 hr1 ((sr.ext e1).set i rv)⟩
theorem j0{X:Cx}{e:K1}{te:TEd}{o:K1}{to:TEd}{iE cz:Pos}(ho:QEd X o to) (he:QEd X e te) (jv:W9 o "append" X.env (U7 o X.env)=U7 o X.env:=by rfl)
  (hse:J8 [e] X.env=(false,U7 e X.env)::J8 [] X.env:=by rfl)
  (ya:((S9 cz (J8 [e] X.env)).all (fun x => !x.1) && (backToKw cz (Z4 [] X.env)).all (fun x => x.1.isSome)
  &&decide ([e].length+([]:List X5).length+(if([]:List X5).isEmpty then 0 else 1)<30))=true:=by rfl)
  (rf:(iE.endLine==cz.line)=true:=by rfl) (k8:(S9 cz (J8 [] X.env)).any (·.1)=false:=by rfl):QEd X (.Call (.Attribute o "append" iE) [e] [] cz) (zN to te):=by
 simp only[QEd.eq]at *
 exact(Bf PySem.F.plainAttrs_list PySem.F.slot_list_append PySem.F.type_list_append (show MtR X "list.append" ug from vH) ho (cG he fO hse) jv ya rf hse k8).conv fun σ H Q hup=>hup.el fun Δ M R sr hr q k=>⟨Δ,M,_,sr,hr,q,fun o M1 ov H1 ⟨a,l,eo,em,q1⟩ e1 hr1 ro=>by
   subst eo;simp only[Rep]at ro;subst ro;obtain⟨vs,hv,rl⟩:=hr1 a _ em;refine⟨.inl ⟨rfl,vs,SqL.of hv⟩,Δ,M1,_,sr.ext e1,hr1,q1,fun d M2 v H2 ⟨ds,em2,hz,q2⟩ e2 hr2 rv=>?_⟩;obtain⟨ws,hw,rl2⟩:=hr2 a _ em2;refine⟨a,ws,v,rfl,rfl,hw,by rw[<-rl2.length];exact hz,k _ _ _ _ q2 ((e1.trans e2).trans (Ext.write em2)) (hr2.write em2 (rl2.append (aj.cons rv aj.nil))) (by simp[Rep])⟩⟩
theorem ke{X:Cx}{a:K1}{ta:TEd}{pos:Pos}{T:Str}{Tn:String}{p p2:Pos}(hT:okT Tn=true) (hg:Gl X "isinstance") (hm:X.mg "isinstance"=none) (hg2:Gl X T) (hm2:X.mg T=none) (hv2:Q8 T=some (.type Tn)) (ha:QEd X a ta) (hn2:T≠"__name__":=by decide) (hd2:(T==("__debug__":Str))=false:=by decide)
  (hs:J8 [a,.Name T p2] X.env=(false,U7 a X.env)::J8 [.Name T p2] X.env:=by rfl) (hs2:J8 [.Name T p2] X.env=(false,U7 (.Name T p2) X.env)::J8 [] X.env:=by rfl) (hpl:(S9 pos (J8 [.Name T p2] X.env)).any (·.1)=false:=by rfl) :
  QEd X (.Call (.Name "isinstance" p) [a,.Name T p2] [] pos) (D9 Tn ta):=by
 simp only[QEd.eq]at *
 have hc:cV X (.builtin "isinstance") (fun xs H Q=>∃v d k M,xs=[v,.ty Tn]/\aM X.K M H d v/\Au Tn d=some k/\Q (.bl k) H):=by
  intro aa s σ H xs us Q I rv h;obtain⟨v,d,k,M,rfl,rd,ek,q⟩:=h;obtain⟨u1,u2,rfl,r1,r2⟩:=ar.two rv;cases r2;exact uM hT I r1 rd ek q
 refine(fY hc hg hm (by kernel_rfl) (cG ha (cG (tO (v:=.ty Tn) hg2 hm2 hv2 rfl hn2 hd2) fO hs2) hs) (by decide) (by decide) hs hpl).conv fun σ H Q hh=>?_;obtain⟨Δ,M,R,sr,hr,q,k⟩:=hh;exact⟨Δ,M,_,sr,hr,q,fun d M1 v H1 ⟨kk,ek,q1⟩ e1 hr1 rv=>⟨v,_,kk,M1,rfl,rv.rd hr1,ek,k _ M1 _ H1 q1 e1 hr1 (by simp[Rep])⟩⟩
theorem gG{X:Cx}:QOd X none pd:=by
 simp only[QEd.eq,QAd.eq,QTd.eq,QWd.eq,QSd.eq,QSs.eq,QId.eq,QIf.eq,QOd.eq]at *
 exact y0 
theorem cU{X:Cx}{e:K1}{te:TEd}(h:QEd X e te):QOd X (some e) (xr te):=by
 simp only[QEd.eq,QAd.eq,QTd.eq,QWd.eq,QSd.eq,QSs.eq,QId.eq,QIf.eq,QOd.eq]at *
 exact zJ (h:=h)
theorem qc{X:Cx}{e:K1}{es:List K1}{t:TAd}{pos:Pos}{p:Pos}{x:Str}{k:Nat}{n:Nat}{S:SpD}(F:FnD X.prog X.w X.K X.mg X.base x k n S) (hr:cw k X.A) (hg:Gl X x) (ha:QAd X (e::es) t) (hdb:(x==("__debug__":Str))=false:=by decide) (he:J8 (e::es) X.env=(false,U7 e X.env)::J8 es X.env:=by rfl) (hpl:(S9 pos (J8 es X.env)).any (·.1)=false:=by rfl) :
  QEd X (.Call (.Name x p) (e::es) [] pos) (m9 n S t):=by
 simp only[QEd.eq,QAd.eq,QTd.eq,QWd.eq,QSd.eq,QSs.eq,QId.eq,QIf.eq,QOd.eq]at *
 exact dc (F:=F) (hr:=hr) (hg:=hg) (ha:=ha) (hdb:=hdb) (he:=he) (hpl:=hpl)
theorem ox{X:Cx}{e:K1}{te:TEd}{pos:Pos}(he:QEd X e te):QSd X (.Return (some e) pos) (Bh te):=by
 simp only[QEd.eq,QSd.eq]at *
 exact(oY he).conv fun D σ H hup=>hup.el fun Δ M E sr hr q k=>⟨Δ,M,_,sr,hr,q,fun d M1 v H1 ⟨a,ds,ed,em,q1⟩ e1 hr1 rv=>by
  subst ed;simp only[Rep]at rv;subst rv;exact k.rt _ _ _ H1 q1 (e1.trans (Ext.le LeM.del)) (hr1.le LeM.del) (Rep.froze hr1 LeM.del em uX)⟩
theorem aT{X:Cx}{te:TEd}{tg:K1}{iter:K1}(h:QEd X iter te):QId X tg iter (AN te):=by
 simp only[QEd.eq,QId.eq]at *
 intro aa s σ H R I hh;obtain⟨Δ,M,R',sr,hr,q,k⟩:=hh;refine thn (h aa s σ H (fun v H1=>∃d ds M1,iy d=some ds/\(ds.length<=H0->R' ds M1)/\Ext M H M1 H1/\HR X.K M1 H1/\Rep X.K M1 H1 d v) I ⟨Δ,M,_,sr,hr,q,fun d M1 v H1 ⟨ds,ed,q1⟩ e1 hr1 rv=>⟨d,ds,M1,ed,q1,e1,hr1,rv⟩⟩) fun u s1 ⟨v,H1,I1,r1,d,ds,M1,ed,q1,e1,hr1,rv⟩=>?_;have lo:=aM.len (K:=X.K) I1 rv;cases d with
 |tup es =>
  cases ed;simp only[Rep]at rv;obtain⟨a,vs,rfl,ta,rl⟩:=rv;cases r1;obtain⟨its,rvv,p,hz⟩:=I1.tuple ta.sq;refine wpAny_pyIter_tuple (show s1.heap.IsTuple a its.toArray from p) ?_;refine⟨s1.heap.objs.size,[s1.heap.objs.size],_,_,H1,rfl,I1.kept (t':=s1.toks) fun b o e=>J0 _ e,si a _,⟨_,K3 _ rfl,rfl,rfl⟩,rH (o:=default) I1,?_⟩;refine k _ M1 _ H1 (q1 lo) e1 hr1 fun M2 H2 e2 hr2 i=>⟨fun d hd=>?_,fun hl=>⟨vs,(ta.ext e2).sq,by rw[<-rl.length];exact hl⟩⟩;obtain⟨v,gv,r⟩:=rl.get hd;refine⟨⟨vs,v,(ta.ext e2).sq,gv⟩,fun x H' ⟨eH,y⟩=>?_⟩;subst eH;have:=y vs (ta.ext e2).sq;rw[gv]at this;cases this;exact⟨Ext.refl _ _,hr2,r.ext e2⟩
 |lst es =>
  cases ed;simp only[Rep]at rv;obtain⟨a,vs,rfl,ta,rl⟩:=rv;cases r1;obtain⟨its,rvv,p,hz⟩:=I1.list (SqL.of ta.1);refine U4 p.isList ?_;refine⟨s1.heap.objs.size,[s1.heap.objs.size],_,_,H1,rfl,I1.kept (t':=s1.toks) fun b o e=>J0 _ e,nZ a _,⟨_,K3 _ rfl,rfl,rfl⟩,rH (o:=default) I1,?_⟩;refine k _ M1 _ H1 (q1 lo) e1 hr1 fun M2 H2 e2 hr2 i=>⟨fun d hd=>?_,fun hl=>⟨vs,SqL.of (ta.ext e2).1,by rw[<-rl.length];exact hl⟩⟩;obtain⟨v,gv,r⟩:=rl.get hd;refine⟨⟨vs,v,SqL.of (ta.ext e2).1,gv⟩,fun x H' ⟨eH,y⟩=>?_⟩;subst eH;have:=y vs (SqL.of (ta.ext e2).1);rw[gv]at this;cases this;exact⟨Ext.refl _ _,hr2,r.ext e2⟩
 |scr es =>
  cases ed;simp only[Rep]at rv;obtain⟨a,vs,rfl,ta,rl⟩:=rv;cases r1;obtain⟨its,rvv,p,hz⟩:=I1.list ta.sq;refine U4 p.isList ?_;refine⟨s1.heap.objs.size,[s1.heap.objs.size],_,_,H1,rfl,I1.kept (t':=s1.toks) fun b o e=>J0 _ e,nZ a _,⟨_,K3 _ rfl,rfl,rfl⟩,rH (o:=default) I1,?_⟩;refine k _ M1 _ H1 (q1 lo) e1 hr1 fun M2 H2 e2 hr2 i=>⟨fun d hd=>?_,fun hl=>⟨vs,(ta.ext e2).sq,by rw[<-rl.length];exact hl⟩⟩;obtain⟨v,gv,r⟩:=rl.get hd;refine⟨⟨vs,v,(ta.ext e2).sq,gv⟩,fun x H' ⟨eH,y⟩=>?_⟩;subst eH;have:=y vs (ta.ext e2).sq;rw[gv]at this;cases this;exact⟨Ext.refl _ _,hr2,r.ext e2⟩
 |str x =>
  simp only[iy]at ed
  by_cases hz:x.length<=H0
  ·rw[if_pos hz]at ed;cases ed;simp only[Rep]at rv;subst rv;obtain⟨t,rfl⟩:=r1;have hq:=k _ M1 _ H1 (q1 (by have hz2:x.cps.size<=H0:=hz;simpa[fC]using hz2)) e1 hr1 B9;cases ha:x.cps.all (·<128)
   ·exact wpAny_pyIter_wide ha (uI I1 "str_iterator" (by decide) (fun A hA=>Walks.strWide hA _ x t) (fun A i s' Q E st q=>wpAny_pyIter_striter_wide st q) hq)
   ·exact wpAny_pyIter_ascii ha (uI I1 "str_ascii_iterator" (by decide) (fun A hA=>Walks.strAscii hA _ x t) (fun A i s' Q E st q=>wpAny_pyIter_striter_ascii st q) hq)
  ·rw[if_neg hz]at ed;cases ed
 |_=>cases ed
theorem ij{X:Cx}{e:K1}{te:TEd}{pos:Pos}(he:QEd X e te):QSd X (.Return (some e) pos) (Bc te):=by
 simp only[QEd.eq,QSd.eq]at *
 exact(oY he).conv fun D σ H hup=>hup.el fun Δ M E sr hr q k=>⟨Δ,M,_,sr,hr,q,fun d M1 v H1 ⟨M2,hle,q1⟩ e1 hr1 rv =>
  k.rt _ _ _ H1 q1 (e1.trans (Ext.le hle)) (hr1.le hle) (rv.ext (Ext.le hle))⟩
theorem cW{X:Cx}{e:K1}{te:TEd}{pos:Pos}{lo hi:Option K1}{tl th:TOd}{p2:Pos}(he:QEd X e te) (hl:QOd X lo tl) (hu:QOd X hi th):QEd X (.Subscript e (.Slice lo hi none p2) pos) (D5 te tl th):=by
 simp only[QEd.eq,QOd.eq]at *
 refine(ym (SlR.or zc (SlR.or Cj (SlR.or C1 xG))) he hl hu).conv fun σ H Q hh=>?_;obtain⟨Δ,M,R,sr,hr,q,k⟩:=hh;refine⟨Δ,M,_,sr,hr,q,fun x M1 v H1 q1 e1 hr1 rv=>⟨Δ,M1,_,sr.ext e1,hr1,q1,fun l M2 H2 q2 e2 hr2=>⟨Δ,M2,_,(sr.ext e1).ext e2,hr2,q2,fun u M3 H3 ⟨z,ez,q3⟩ e3 hr3=>?_⟩⟩⟩;have rr:=((rv.ext e2).ext e3).rd hr3;have ee:=(e1.trans e2).trans e3;have kk:∀w H',Ext M3 H3 M3 H'->HR X.K M3 H'->Rep X.K M3 H' z w->Q w H':=fun w H' e4 hr4 r4=>k z M3 w H' q3 (ee.trans e4) hr4 r4;generalize rdM M3 x=d at rr ez;cases d with
 |lst ds =>
  cases ez;obtain⟨a,vs,rfl,sq,rl⟩:=rr;refine .inl ⟨a,vs,rfl,SqL.of sq,fun p hp=>dM hr3 hp ?_ kk⟩;unfold c7 ot;rw[<-rl.length];exact(rl.drop _).take _
 |scr ds =>
  cases ez;obtain⟨a,vs,rfl,sq,rl⟩:=rr;refine .inl ⟨a,vs,rfl,sq,fun p hp=>dM hr3 hp ?_ kk⟩;unfold c7 ot;rw[<-rl.length];exact(rl.drop _).take _
 |str s =>
  simp only[slE,slD]at ez
  by_cases hz:s.length<=H0
  ·rw[if_pos hz]at ez;cases ez;exact .inr (.inr (.inl ⟨s,mQ rr,hz,kk _ H3 (Ext.refl _ _) hr3 (by simp[Rep])⟩))
  ·rw[if_neg hz]at ez;cases ez
 |tup ds =>
  cases ez;have rt:=aM.tup hr3 rr;obtain⟨a,vs,rfl,sq,rl⟩:=rr
  by_cases hw:HT.sIx ds.length 0 l=0/\HT.sIx ds.length ds.length u=ds.length
  ·refine .inr (.inr (.inr ⟨a,vs,rfl,sq,by rw[<-rl.length];exact hw,kk _ H3 (Ext.refl _ _) hr3 ?_⟩));rw[rT hw];exact rt
  ·refine .inr (.inl ⟨a,vs,rfl,sq,by rw[<-rl.length];exact hw,fun p hp=>om hr3 hp ?_ kk⟩);unfold c7 ot;rw[<-rl.length];exact(rl.drop _).take _
 |_=>cases ez
section
variable{X:Cx}{aH:List X8}{t:TSd}{e:K1}{tt:TTd}
theorem z8(h:QSs X aH t):zR X aH t:=by
 rw[QSs.eq]at h;exact h
theorem sk(h:QWd X e tt):QTd X e tt:=by
 simp only[QWd.eq,QTd.eq]at *
 exact PWd.pt h
end
end L2
namespace L2
open PySem PySem.Spec PyProof.Rows PySem.Builtin.Str
theorem mq(c:Nat) (n:Nat):Txt.mul (tx [c]) (n:Int)=tx (J3 n c):=by
 have f:∀(k:Nat) (acc:Array Nat),(J3 k #[c]).foldl (·++·) acc=acc++(J3 k c).toArray:=by
  intro k
  induction k with
  |zero=>intro acc;simp
  |succ k ih =>
   intro acc;rw[N3,List.foldl_cons,ih,N3];apply Array.ext';simp
 unfold Txt.mul
 by_cases h0:n=0
 ·subst h0;rfl
 ·rw[if_neg (by lia)]
  by_cases h1:n=1
  ·subst h1;rfl
  ·rw[if_neg (by simp[oq];lia)];show(⟨(J3 (n:Int).toNat #[c]).foldl (·++·) #[]⟩:Str)=_;rw[f];simp[tx]
end L2
namespace L2
open PySem PySem.Spec PyProof.Rows
def Few(n:Int):Prop:=L7.Int.intBits n<=2 ^ 20
end L2
namespace Att
open PySem PySem.W PySem.Calls PyProof.Rows
end Att
namespace L2
open PySem PySem.Spec PyProof.Rows
section
variable{X:Cx}{pos:Pos}
instance (n:Int):Decidable (Few n):=by unfold Few;exact inferInstance
def yr(i j:Int):Prop:=jC i j∨(Few i/\Few j)
instance:∀i j,Decidable (yr i j):=fun i j=>Classical.propDecidable _
theorem yr.ok{i j:Int}(h:yr i j):IntMulOk i j:=by
 rcases h with h|⟨a,b⟩
 ·exact h.ok
 ·exact .of_bits a b
def dmD:List D->Option D
 |[.int i,.int j]=>if qh i j then some (.tup [.int (i / j),.int (i % j)])else none
 |_=>none
noncomputable def Gx:List D->Option D
 |[.int i,.int j]=>some (.int (if j > i then j else i))
 |_=>none
end
open AutoSeq1 (wpAny_loadPart')
section
variable{prog:K6}{w:O3}{A:N6}{E:u8->v0->Prop}{s:v0}
end
def FC(b:Bool) (h:L6) (it a:J5) (i:Nat):Prop:=match b with|true=>h.IsTupleIter it a i|false=>h.IsListIter it a i
def F5(b:Bool):String:=match b with|true=>"tuple_iterator" |false=>"list_iterator"
theorem FC.of{b:Bool}{h:L6}{it a:J5}{i:Nat}(st:∃o,h.get? it=some o/\o.cls=.type (F5 b)/\o.data=.fields #[.ref a,.int i 0]):FC b h it a i:=by
 cases b<;>exact st
theorem gS.upd{X:Cx}{aa:List (J5×Obj)}{H:Hp}{b T:J5}{o:HO}(f:gS X aa H b) (h:b≠T):gS X aa (upd H T o) b:=by
 obtain⟨f0,r⟩:=f;exact⟨by rw[az h];exact f0,r⟩
section
variable{X:Cx}{pos:Pos}
theorem Dw{i j:Int}:dmD [.int i,.int j]=if qh i j then some (.tup [.int (i / j),.int (i % j)])else none:=rfl
theorem zo{i j:Int}:Gx [.int i,.int j]=some (.int (if j > i then j else i)):=rfl
theorem yx:mS 10 60=True:=by simp[mS]
end
section
variable{X:Cx}{e:K1}{te ts:TEd}{pos:Pos}
end
section
variable{κ:Type} [DecidableEq κ]
noncomputable def dg(kvs:List (κ×D)) (k:κ):Option D:=(kvs.find? fun kv=>decide (kv.1=k)).map (·.2)
noncomputable def qQ(kvs:List (κ×D)) (k:κ) (v:D):List (κ×D) :=
 if(kvs.any fun kv=>decide (kv.1=k))=true then kvs.map (fun kv=>if kv.1=k then(kv.1,v)else kv)else kvs++[(k,v)]
theorem bY{p:κ×D}{r:List (κ×D)}{k:κ}(e:p.1=k):dg (p::r) k=some p.2:=by simp[dg,P0,e]
theorem b6{p:κ×D}{r:List (κ×D)}{k:κ}(e:¬ p.1=k):dg (p::r) k=dg r k:=by simp[dg,P0,e]
theorem lF(k:κ):∀kvs:List (κ×D),(kvs.any fun kv=>decide (kv.1=k))=(dg kvs k).isSome
 |[]=>rfl
 |p::r=>by
  rw[O5]
  by_cases e:p.1=k
  ·simp only[bY e,decide_eq_true e,Bool.true_or,Option.isSome_some]
  ·rw[b6 e,decide_eq_false e,Bool.false_or];exact lF k r
theorem qP(k j:κ) (y:D):∀kvs:List (κ×D),dg (kvs.map fun kv=>if kv.1=k then(kv.1,y)else kv) j=(dg kvs j).map fun x=>if j=k then y else x
 |[]=>rfl
 |p::r=>by
  have ih:=qP k j y r;rw[O0]
  by_cases h:p.1=k
  ·rw[if_pos h]
   by_cases e:p.1=j
   ·rw[bY (p:=(p.1,y)) e,bY e,V7,if_pos (e.symm.trans h)]
   ·rw[b6 (p:=(p.1,y)) e,b6 e,ih]
  ·rw[if_neg h]
   by_cases e:p.1=j
   ·rw[bY (p:=p) e,bY e,V7,if_neg (fun z=>h (e.trans z))]
   ·rw[b6 (p:=p) e,b6 e,ih]
theorem nO(k j:κ) (y:D):∀kvs:List (κ×D),dg kvs k=none->dg (kvs++[(k,y)]) j=if j=k then some y else dg kvs j
 |[],_=>by
  by_cases e:k=j
  ·rw[if_pos e.symm];exact bY (p:=(k,y)) e
  ·rw[if_neg (fun z=>e z.symm)];exact b6 (p:=(k,y)) e
 |p::r,hn=>by
  rw[List.cons_append];have hk:¬ p.1=k:=fun z=>by rw[bY z]at hn;cases hn
  rw[b6 hk]at hn;have ih:=nO k j y r hn
  by_cases e:p.1=j
  ·rw[bY e,bY e,if_neg (fun z=>hk (e.trans z))]
  ·rw[b6 e,b6 e,ih]
theorem jm(kvs:List (κ×D)) (k j:κ) (y:D):dg (qQ kvs k y) j=if j=k then some y else dg kvs j:=by
 unfold qQ
 by_cases a:(kvs.any fun kv=>decide (kv.1=k))=true
 ·rw[if_pos a,qP];rw[lF]at a
  by_cases e:j=k
  ·obtain⟨x,hx⟩:=P9.mp a;rw[if_pos e,e,hx,V7,if_pos rfl]
  ·rw[if_neg e];cases dg kvs j with
   |none=>rfl
   |some x=>rw[V7,if_neg e]
 ·rw[if_neg a];refine nO k j y kvs ?_;rw[lF]at a;cases q:dg kvs k with
  |none=>rfl
  |some x=>rw[q]at a;exact(a rfl).elim
theorem jZ(kvs:List (κ×D)) (k:κ) (v:D):(qQ kvs k v).length<=kvs.length+1:=by
 unfold qQ
 split
 ·rw[T7];lia
 ·rw[L9,U8,List.length_nil];lia
variable{K:o0}{M:DH}{H:Hp}
theorem KR.val{kvs:List (κ×D)}{ks:List (κ×V)}(h:KR K M H kvs ks) (k:κ):(∀d,dg kvs k=some d->∃v,iJ ks k=some v/\Rep K M H d v)/\(iJ ks k).isSome=(dg kvs k).isSome:=by
 unfold KR at h
 induction h with
 |nil=>exact⟨fun d e=>(nomatch e),rfl⟩
 |@cons p q ps qs r t ih =>
  by_cases e:p.1=k
  ·rw[bY e,iS (r.1.symm.trans e)];exact⟨fun d z=>(by cases z;exact⟨_,rfl,r.2⟩),rfl⟩
  ·rw[b6 e,iF (fun z=>e (r.1.trans z))];exact ih
theorem KR.any{kvs:List (κ×D)}{ks:List (κ×V)}(h:KR K M H kvs ks) (k:κ):(ks.any fun kv=>decide (kv.1=k))=kvs.any fun kv=>decide (kv.1=k):=by
 unfold KR at h
 induction h with
 |nil=>rfl
 |cons r _ ih=>rw[O5,O5,ih,r.1]
theorem KR.length{kvs:List (κ×D)}{ks:List (κ×V)}(h:KR K M H kvs ks):kvs.length=ks.length:=W5 h
theorem KR.put{kvs:List (κ×D)}{ks:List (κ×V)}(h:KR K M H kvs ks) (k:κ) {d:D}{v:V}(r:Rep K M H d v):KR K M H (qQ kvs k d) (ix ks k v):=by
 unfold qQ ix;rw[h.any k]
 by_cases e:(kvs.any fun kv=>decide (kv.1=k))=true
 ·rw[if_pos e,if_pos e];clear e;unfold KR at h ⊢
  induction h with
  |nil=>exact .nil
  |@cons p q ps qs r1 t ih =>
   rw[O0,O0];refine .cons ?_ ih
   by_cases e:p.1=k
   ·rw[if_pos e,if_pos (r1.1.symm.trans e)];exact⟨r1.1,r⟩
   ·rw[if_neg e,if_neg (fun z=>e (r1.1.trans z))];exact r1
 ·rw[if_neg e,if_neg e];exact P5.snoc h ⟨rfl,r⟩
end
def kD:Key->D
 |.inl i=>.int i
 |.inr x=>.str x
theorem BC{K:o0}{M:DH}{H:Hp}{k:Key}{v:V}(h:Rep K M H (kD k) v):v=kV k:=by
 cases k<;>simpa[kD,Rep,kV]using h
theorem oj{K:o0}{M:DH}{H:Hp}:∀{ks:List Key}{vs:List V},aj K M H (ks.map kD) vs->vs=ks.map kV
 |[],_,h=>by simpa[aj]using h
 |k::ks,_,h=>by
  simp only[O0,aj]at h;obtain⟨v,ws,rfl,h1,h2⟩:=h;rw[BC h1,oj h2];rfl
section
variable{X:Cx}{a b c e o i:K1}{es:List K1}{te to ti ta tb:TEd}{t:TAd}{pos:Pos}
def dDT:TEd:=fun _ M Q=>∀p,M p=none->Q (.ref p) (aG M p (.dT []))
def Bi(to:TEd) (t:TAd):TEd:=fun Δ M Q=>to Δ M fun x M1=>t Δ M1 fun ds M2=>∃a kvs ks d,x=.ref a/\M2 a=some (.dT kvs)/\ds=ks.map kD/\ds.length<=H0/\dg kvs ks=some d/\Q d M2
def AI(to:TEd) (t:TAd) (te:TEd):TSd:=fun E Δ M=>te Δ M fun d M1=>to Δ M1 fun x M2=>t Δ M2 fun ds M3=>ds.length<=H0/\∃a kvs ks,x=.ref a/\M3 a=some (.dT kvs)/\ds=ks.map kD/\kvs.length<H0/\E.nx Δ (aG M3 a (.dT (qQ kvs ks d)))
end
section
variable{X:Cx}{a b c e o:K1}{es:List K1}{te to:TEd}{t:TAd}{pos:Pos}{tg:K1}
noncomputable def Ge:List D->Option D
 |[.int i,.int j]=>some (.int (if j<i then j else i))
 |_=>none
def E4(to te:TEd):TEd:=fun Δ M Q=>to Δ M fun o M1=>∃a l,o=.ref a/\M1 a=some (.lst l)/\te Δ M1 fun d M2=>∃ds ys,d=.lst ys/\M2 a=some (.lst ds)/\ds.length+ys.length<=H0/\Q .non (aG M2 a (.lst (ds++ys)))
end
structure FR(X:Cx) (scope:S7) (cl:List (Str×J5)) (ms:List Bool) (ak:List Str):Prop where
 kind:scope.kind=.function
 names:∀y∈scope.names,y.2=.local->scope.names.lookup y.1=some .local
 cellN:∀y∈scope.names,y.2=.cell->scope.names.lookup y.1=some .cell
 clos:closureFor scope X.env=W0 cl
 sub:∀x c,cl.lookup x=some c->X.env.cells.lookup x=some c
 fre:∀x c,cl.lookup x=some c->scope.names.lookup x=some .free
 has:∀x,scope.names.lookup x=some .free->∃c,cl.lookup x=some c
 fr:∀x,scope.names.lookup x=some .free->X.env.scope.names.lookup x=some .cell∨X.env.scope.names.lookup x=some .free
 mask:∀(i:Nat) (x:Str),ms[i]?=some true->X.N[i]?=some x->scope.names.lookup x=some .free
 mlen:ms.length<=X.N.length
section
variable{X:Cx}{tg iter elt:K1}{pos:Pos}{scope:S7}{cl:List (Str×J5)}{ms:List Bool}{ak:List Str}{ifs:List K1}
end
end L2
namespace L2
open PySem PySem.W PyProof.Rows
section
variable{α β:Type}
variable{O:KeyOrd}{key:Nat->O.α}{n:Nat}
noncomputable def kp(O:KeyOrd) (key:Nat->O.α) (p:Array Nat) (i:Nat):O.α:=key (p.getD i 0)
def GQ(n:Nat) (p:Array Nat):Prop:=p.toList.Perm (List.range n)
end
end L2
namespace L2
open PySem PySem.W PySem.Calls PyProof.Rows
section
variable{prog:Program}{w:World}{A:Around}{E:Value->Shared->Prop}{O:KeyOrd}
def tW(x:Addr) (s t:Shared):Prop:=∀b o,b≠x->s.heap.get? b=some o->t.heap.get? b=some o
end
end L2
namespace L2
open PySem PySem.Spec PyProof.Rows
theorem Gf{X:Cx}{pos:Pos}:QEd X (.Dict [] [] pos) dDT:=by
 simp only[QEd.eq]at *
 exact PE.conv wj fun σ H Q hup=>hup.el fun Δ M R sr hr q k=>fun p hp =>
  k _ _ _ _ (q p (hr.fresh hp)) (Ext.own hp) (hr.put (Ext.own hp) ⟨[],aL,.nil⟩) (by simp only[Rep])
theorem oh{X:Cx}{o:Expr}{es:List Expr}{to:TEd}{t:TAd}{pos:Pos}{x1}{p:Pos}(hu:X.A.units+1<cLine) (ho:QEd X o to) (ht:QAd X es t) (hs:Dc (.Tuple es x1 p)):QEd X (.Subscript o (.Tuple es x1 p) pos) (Bi to t):=by
 simp only[QEd.eq,QAd.eq]at *
 exact PE.conv (zP hu ho (sJ ht) hs) fun σ H Q hup=>hup.el fun Δ M R sr hr q k=>⟨Δ,M,_,sr,hr,q,fun x M1 v H1 q1 e1 hr1 rv=>⟨Δ,M1,_,sr.ext e1,hr1,q1,fun ds M2 us H2 ⟨a,kvs,ky,d,ex,em,ey,ez,ed,q2⟩ e2 hr2 ru=>by
   subst ex;subst ey;simp only[Rep]at rv;subst rv;refine⟨by rw[<-ru.length];exact ez,fun p hp=>?_⟩;obtain⟨ks,h2,kr⟩:=hr2 a _ em;obtain⟨w,hw,rw_⟩:=(kr.val ky).1 d ed;have hap:a≠p:=bB h2 hp;refine⟨a,w,rfl,?_,k d M2 w _ q2 ((e1.trans e2).trans (Ext.new hr2 hp)) (hr2.new hp) (rw_.ext (Ext.new hr2 hp))⟩;rw[<-hw];refine qO.t (by rw[az hap];exact h2) ?_;rw[aL,oj ru]⟩⟩
theorem wK{X:Cx}{e:Expr}{o:Expr}{es:List Expr}{te:TEd}{to:TEd}{t:TAd}{pos:Pos}{x1}{p p2:Pos}(hu:X.A.units+1<cLine) (ho:QEd X o to) (ht:QAd X es t) (he:QEd X e te) (hs:swapsWith e (some (.Subscript o (.Tuple es x1 p2) p)) pos.line X.env=pure false:=by rfl):QSd X (.Assign [.Subscript o (.Tuple es x1 p2) p] e pos) (AI to t te):=by
 simp only[QEd.eq,QAd.eq,QSd.eq]at *
 exact PS.conv (Ag hu ho (sJ ht) he hs) fun D σ H hup=>hup.el fun Δ M E sr hr q k=>⟨Δ,M,_,sr,hr,q,fun d M1 v H1 q1 e1 hr1 rv=>⟨Δ,M1,_,sr.ext e1,hr1,q1,fun x M2 u H2 q2 e2 hr2 ru=>⟨Δ,M2,_,(sr.ext e1).ext e2,hr2,q2,fun ds M3 ws H3 ⟨hl,a,kvs,ky,ex,em,ey,hz,q3⟩ e3 hr3 rw_=>by
   subst ex;subst ey;simp only[Rep]at ru;subst ru;refine⟨by rw[<-rw_.length];exact hl,fun p hp=>?_⟩;obtain⟨ks,h3,kr⟩:=hr3 a _ em;have hap:a≠p:=bB h3 hp;have e4:Ext M3 H3 M3 (upd H3 p (.tup ws)):=Ext.new hr3 hp;have hr4:=hr3.new (o:=.tup ws) hp;have ew:Ext M3 (upd H3 p (.tup ws)) (aG M3 a (.dT (qQ kvs ky d))) (upd (upd H3 p (.tup ws)) a (.dT (ix ks ky v))):=Ext.write em;have h4:upd H3 p (.tup ws) a=some (.dT ks):=by rw[az hap];exact h3
   refine⟨a,_,rfl,sA.t h4 (by rw[aL,oj rw_]) (by rw[<-kr.length];exact hz),?_⟩;exact k.nx Δ _ σ _ q3 ((((e1.trans e2).trans e3).trans e4).trans ew) (hr4.put ew ⟨_,aL,((kr.ext e4).put ky (((rv.ext e2).ext e3).ext e4)).ext ew⟩) (((((sr.ext e1).ext e2).ext e3).ext e4).ext ew)⟩⟩⟩
theorem xE{X:Cx}{e:Expr}{o:Expr}{te:TEd}{to:TEd}{iE cz:Pos}(ho:QEd X o to) (he:QEd X e te) (jv:attributeBase o "extend" X.env (eval o X.env)=eval o X.env:=by rfl)
  (hse:starEach [e] X.env=(false,eval e X.env)::starEach [] X.env:=by rfl)
  (ya:((backTo cz (starEach [e] X.env)).all (fun x => !x.1) && (backToKw cz (keywordEach [] X.env)).all (fun x => x.1.isSome)
  &&decide ([e].length+([]:List Keyword).length+(if([]:List Keyword).isEmpty then 0 else 1)<30))=true:=by rfl)
  (rf:(iE.endLine==cz.line)=true:=by rfl) (k8:(backTo cz (starEach [] X.env)).any (·.1)=false:=by rfl):QEd X (.Call (.Attribute o "extend" iE) [e] [] cz) (E4 to te):=by
 simp only[QEd.eq]at *
 exact(Bf PySem.F.plainAttrs_list PySem.F.slot_list_extend PySem.F.type_list_extend (show MtR X "list.extend" tZ from uP) ho (cG he fO hse) jv ya rf hse k8).conv fun σ H Q hup=>hup.el fun Δ M R sr hr q k=>⟨Δ,M,_,sr,hr,q,fun o M1 ov H1 ⟨a,l,eo,em,q1⟩ e1 hr1 ro=>by
   subst eo;simp only[Rep]at ro;subst ro;obtain⟨vs,hv,rl⟩:=hr1 a _ em;refine⟨.inl ⟨rfl,vs,SqL.of hv⟩,Δ,M1,_,sr.ext e1,hr1,q1,fun d M2 v H2 ⟨ds,ys,ed,em2,hz,q2⟩ e2 hr2 rv=>?_⟩;subst ed;simp only[Rep]at rv;obtain⟨b,zs,rfl,hb,rz⟩:=rv;obtain⟨ws,hw,rl2⟩:=hr2 a _ em2;refine⟨a,b,ws,zs,rfl,rfl,hw,hb.1,by rw[<-rl2.length,<-rz.length];exact hz,k _ _ _ _ q2 ((e1.trans e2).trans (Ext.write em2)) (hr2.write em2 (rl2.append rz)) (by simp[Rep])⟩⟩
theorem cw.units1{k:Nat}{A:Around}(r:cw k A):A.units+1<cLine:=by have:=r.un;lia
theorem FQ{i:Int}{P:Key->Prop}:(∃k,D.int i=kD k/\P k)↔P (.inl i) :=
 ⟨fun⟨k,e,h⟩=>match k,e with|.inl _,rfl=>h,fun h=>⟨_,rfl,h⟩⟩
theorem Ek{x:Str}{P:Key->Prop}:(∃k,D.str x=kD k/\P k)↔P (.inr x) :=
 ⟨fun⟨k,e,h⟩=>match k,e with|.inr _,rfl=>h,fun h=>⟨_,rfl,h⟩⟩
theorem Cg:∀{a b:Key},kD a=kD b->a=b
 |.inl _,.inl _,h=>by cases h;rfl
 |.inr _,.inr _,h=>by cases h;rfl
 |.inl _,.inr _,h=>by cases h
 |.inr _,.inl _,h=>by cases h
theorem uB:∀{a b:List Key},a.map kD=b.map kD->a=b
 |[],[],_=>rfl
 |[],_::_,h=>by cases h
 |_::_,[],h=>by cases h
 |x::xs,y::ys,h=>by
  simp only[List.map_cons,List.cons.injEq]at h;rw[Cg h.1,uB h.2]
theorem AS{a b:Key}{P:List Key->Prop}:(∃ks:List Key,[kD a,kD b]=ks.map kD/\P ks)↔P [a,b] :=
 ⟨fun⟨ks,e,h⟩=>by rw[uB (a:=[a,b]) (b:=ks) (by simpa using e)];exact h,fun h=>⟨_,rfl,h⟩⟩
theorem Cw{i j:Int}{P:List Key->Prop}:(∃ks:List Key,[D.int i,D.int j]=ks.map kD/\P ks)↔P [.inl i,.inl j]:=AS (a:=.inl i) (b:=.inl j)
theorem Cz{i j:Str}{P:List Key->Prop}:(∃ks:List Key,[D.str i,D.str j]=ks.map kD/\P ks)↔P [.inr i,.inr j]:=AS (a:=.inr i) (b:=.inr j)
theorem z7{i j:Int}:Ge [.int i,.int j]=some (.int (if j<i then j else i)):=rfl
abbrev BKd:=DE->DH->List D->(List D->DE->DH->Prop)->Prop
def gE(g:GD) (tc:TTd) (B:BKd):List D->DE->DH->List D->(List D->DE->DH->Prop)->Prop
 |[],Δ,M,acc,Q=>Q acc Δ M
 |d::ds,Δ,M,acc,Q=>∃ Δ',g d Δ=some Δ'/\tc Δ' M fun b M1=>if b=true then B Δ' M1 acc fun acc' Δ'' M2=>acc'.length<=sizeLine/\gE g tc B ds Δ'' M2 acc' Q else gE g tc B ds Δ' M1 acc Q
def sH(te:TEd):BKd:=fun Δ M acc Q=>te Δ M fun y M2=>Q (acc++[y]) Δ M2
def sS(wi:TId) (g:GD) (tc:TTd) (B:BKd):BKd:=fun Δ M acc Q=>wi Δ M fun es M2=>gE g tc B es Δ M2 acc Q
def upB(K:PySem.W.Frag) (b:BKd):BK:=fun ys σ H Z=>∃(Δ:DE) (M:DH) (acc:List D) (R:List D->DE->DH->Prop),SR K M H σ Δ/\HR K M H/\aj K M H acc ys/\acc.length<=sizeLine/\b Δ M acc R /\
 ∀acc' Δ' M' ys' σ' H',R acc' Δ' M'->Ext M H M' H'->HR K M' H'->SR K M' H' σ' Δ'->aj K M' H' acc' ys'->Z ys' σ' H'
section
variable{K:PySem.W.Frag}{g:GD}{gv:TG}{tc:TTd}{te:TEd}{wi:TId}{Bd:BKd}{B:BK}
theorem yO{ys:List V}{σ:St}{H:Hp}{Z:List V->St->Hp->Prop}(h:upB K (sH te) ys σ H Z):l8 (up K te) ys σ H Z:=by
 obtain⟨Δ,M,acc,R,sr,hr,ra,_,q,k⟩:=h;exact⟨Δ,M,_,sr,hr,q,fun d M' v H' q1 e1 hr1 rv=>k _ _ _ _ _ _ q1 e1 hr1 (sr.ext e1) ((ra.ext e1).append (aj.cons rv aj.nil))⟩
theorem tL(kg:nH K g gv) (hB:∀{ys σ H Z},upB K Bd ys σ H Z->B ys σ H Z) {J:It}{es:List D}{M5:DH}{H5:Hp}(it5:ItD K J es M5 H5) (hr5:HR K M5 H5) {Δ:DE}{acc:List D}{R:List D->DE->DH->Prop}{ys:List V}{σ:St}{Z:List V->St->Hp->Prop}
  (sr:SR K M5 H5 σ Δ) (ra:aj K M5 H5 acc ys) (la:acc.length<=sizeLine) (q:gE g tc Bd es Δ M5 acc R)
  (k:∀acc' Δ' M' ys' σ' H',R acc' Δ' M'->Ext M5 H5 M' H'->HR K M' H'->SR K M' H' σ' Δ'->aj K M' H' acc' ys'->Z ys' σ' H') :
  ∃W:Nat->Nat->List V->St->Hp->Prop,(∃m,W 0 m ys σ H5)/\jK J gv (upT K tc) B W Z:=by
 refine⟨fun j m ys' σ' H'=>∃ Δ' M' acc',m=es.length-j/\j<=es.length/\Ext M5 H5 M' H'/\HR K M' H'/\SR K M' H' σ' Δ'/\aj K M' H' acc' ys'/\acc'.length<=sizeLine/\gE g tc Bd (es.drop j) Δ' M' acc' R,
  ⟨es.length,Δ,M5,acc,by simp,Nat.zero_le _,Ext.refl _ _,hr5,sr,ra,la,q⟩,?_⟩
 rintro j m ys' σ6 H6 ⟨Δ6,M6,acc6,rfl,hj,e6,hr6,sr6,ra6,la6,f6⟩;refine⟨by rw[<-ra6.length];exact la6,?_⟩;obtain⟨go2,stop2⟩:=it5 M6 H6 e6 hr6 j
 by_cases hlt2:j<es.length
 ·have hd2:es[j]?=some es[j]:=by simp[hlt2]
  obtain⟨g2,y2⟩:=go2 _ hd2;rw[List.drop_eq_getElem_cons hlt2]at f6;simp only[gE]at f6;obtain⟨Δ7,eg7,f7⟩:=f6;refine .inr ⟨g2,fun x7 H7 hy7=>?_⟩;obtain⟨e7,hr7,rx7⟩:=y2 x7 H7 hy7;refine kg _ x7 σ6 Δ6 Δ7 M6 H7 _ (sr6.ext e7) hr7 rx7 eg7 fun σ7 sr7=>?_;refine⟨Δ7,M6,_,sr7,hr7,f7,fun b M8 H8 q8 e8 hr8=>?_⟩;cases b with
  |true =>
   simp only[if_true]at q8 ⊢;refine hB ⟨Δ7,M8,acc6,_,sr7.ext e8,hr8,(ra6.ext e7).ext e8,la6,q8,?_⟩;rintro acc' Δ' M' ys9 σ' H' ⟨hz9,q9⟩ e9 hr9 sr9 ra9;exact⟨es.length-(j+1),by lia,Δ',M',acc',rfl,hlt2,((e6.trans e7).trans e8).trans e9,hr9,sr9,ra9,hz9,q9⟩
  |false =>
   simp only[Bool.false_eq_true,if_false]at q8 ⊢;exact⟨es.length-(j+1),by lia,Δ7,M8,acc6,rfl,hlt2,(e6.trans e7).trans e8,hr8,sr7.ext e8,(ra6.ext e7).ext e8,la6,q8⟩
 ·rw[List.drop_eq_nil_of_le (by lia)]at f6;simp only[gE]at f6;exact .inl ⟨stop2 (by lia),k _ _ _ _ _ _ f6 e6 hr6 sr6 ra6⟩
theorem Am(kg:nH K g gv) (hB:∀{ys σ H Z},upB K Bd ys σ H Z->B ys σ H Z) {ys:List V}{σ:St}{H:Hp}{Z:List V->St->Hp->Prop}(h:upB K (sS wi g tc Bd) ys σ H Z):xX (upI K wi) gv (upT K tc) B ys σ H Z:=by
 obtain⟨Δ,M,acc,R,sr,hr,ra,la,q,k⟩:=h;exact⟨Δ,M,_,sr,hr,q,fun es M2 J H2 q2 e2 hr2 it2=>tL kg hB it2 hr2 (sr.ext e2) (ra.ext e2) la q2 fun a1 a2 a3 a4 a5 a6 b1 b2=>k a1 a2 a3 a4 a5 a6 b1 (e2.trans b2)⟩
end
def Ce(ms:List Bool) (k:Nat) (w0:TId) (g0:GD) (tc0:TTd) (B:BKd):TEd:=fun Δ M Q=>w0 Δ M fun ds M1=>gE g0 tc0 B ds (pY ms k Δ) M1 [] fun ys _ M2=>Q (.lst ys) M2
theorem wW{K:PySem.W.Frag}{w0:TId}{g0:GD}{tc0:TTd}{gv0:TG}{Bd:BKd}{B:BK}{ms:List Bool}{kk:Nat}(kg:nH K g0 gv0) (hB:∀{ys σ H Z},upB K Bd ys σ H Z->B ys σ H Z):∀ σ H Q,up K (Ce ms kk w0 g0 tc0 Bd) σ H Q->Ax ms kk (upI K w0) gv0 (upT K tc0) B σ H Q:=by
 rintro σ H Q ⟨Δ,M,R,sr,hr,q,k⟩;refine⟨Δ,M,_,sr,hr,q,fun ds M1 J H1 q1 e1 hr1 it=>?_⟩;obtain⟨W,hW,hC⟩:=tL (Z:=fun ys' _ H'=>∃M' acc,Ext M1 H1 M' H'/\HR K M' H'/\aj K M' H' acc ys'/\R (.lst acc) M') kg hB it hr1 ((sr.ext e1).comp ms kk) aj.nil (Nat.zero_le _) q1
  (fun acc' Δ' M' ys' σ' H' q' e' hr' _ ra'=>⟨M',acc',e',hr',ra',q'⟩)
 refine⟨W,_,hW,hC,?_⟩;rintro ys σ' H' p ⟨M',acc,e',hr',ra,q'⟩ hp;refine k _ M' _ _ q' ((e1.trans e').trans (Ext.new hr' hp)) (hr'.new hp) ?_;simp only[Rep];exact⟨p,ys,rfl,⟨aL,hr'.fresh hp⟩,ra.ext (Ext.new hr' hp)⟩
abbrev GR(elt t0 i0 t1 i1:Expr) (f0 f1:List Expr) (scope:Scope) (pos:Pos):Expr:=.ListComp elt [⟨t0,i0,f0,0⟩,⟨t1,i1,f1,0⟩] scope pos
def Eg(ms:List Bool) (k:Nat) (w0:TId) (g0:GD) (tc0:TTd) (wi:TId) (g:GD) (tc:TTd) (te:TEd):TEd:=Ce ms k w0 g0 tc0 (sS wi g tc (sH te))
section
variable{X:Cx}{scope:Scope}{cl:List (Str×Addr)}{ms:List Bool}{ak:List Str}{elt t0 i0 t1 i1:Expr}{f0 f1:List Expr}{pos:Pos}
theorem Bo{w1:TI}{g1:TG}{tc1:TT}{te:TE}(hi1:∀C s H ex,PI (aB X scope cl (X.N++ak) C s H ex) t1 i1 w1) (hg1:∀C s H ex,PG (aB X scope cl (X.N++ak) C s H ex) t1 g1) (hif1:∀C s H ex,PIf (aB X scope cl (X.N++ak) C s H ex) f1 tc1) (he:∀C s H ex,PE (aB X scope cl (X.N++ak) C s H ex) elt te)
  (hs1:∀C x,foldedSetIterable i1 (compEnvC scope cl C X.env) x=pure x):LvC X scope cl ak (lcE elt [⟨t0,i0,f0,0⟩,⟨t1,i1,f1,0⟩] scope pos) i0.pos t0 f0 (xX w1 g1 tc1 (l8 te)):=fun _ _ _ _ _ c =>
 zw c (ut (k:=1) (p:=i1.pos) c (he _ _ _ _) fun _ _ _=>rfl) (fun _ _ _=>rfl) (hs1 _) (hi1 _ _ _ _) (hg1 _ _ _ _) (hif1 _ _ _ _) fun _ _ _=>rfl
end
theorem FG{X:Cx}{scope:Scope}{cl:List (Str×Addr)}{ms:List Bool}{ak:List Str}{elt t0 i0 t1 i1:Expr}{f0 f1:List Expr}{pos:Pos}{w0 wi:TId}{g0 g:GD}{tc0 tc:TTd}{te:TEd}(S:fm X scope cl ms ak) (gq:X.calm=true) (hi:QId X t0 i0 w0) (hg0:PGa X scope cl ak t0 g0)
  (hif0:∀C s H ex,QIf (aB X scope cl (X.N++ak) C s H ex) f0 tc0) (hi1:∀C s H ex,QId (aB X scope cl (X.N++ak) C s H ex) t1 i1 wi) (hg:PGa X scope cl ak t1 g) (hif:∀C s H ex,QIf (aB X scope cl (X.N++ak) C s H ex) f1 tc) (he:∀C s H ex,QEd (aB X scope cl (X.N++ak) C s H ex) elt te)
  (hs:∀x,foldedSetIterable i0 X.env x=pure x:=by intro _;rfl) (hs1:∀C x,foldedSetIterable i1 (compEnvC scope cl C X.env) x=pure x:=by intro _ _;rfl):QEd X (.ListComp elt [⟨t0,i0,f0,0⟩,⟨t1,i1,f1,0⟩] scope pos) (Eg ms ak.length w0 g0 tc0 wi g tc te):=by
 simp only[QEd.eq,QId.eq,QIf.eq]at *
 obtain⟨gv0,pg0,kg0⟩:=hg0;obtain⟨gv,pg,kg⟩:=hg;exact(wO (tc:=upT X.K tc0) S gq hi pg0 hif0 (Bo (w1:=upI X.K wi) (tc1:=upT X.K tc) (te:=up X.K te) hi1 pg hif he hs1) hs).conv (wW kg0 fun h=>Am kg yO h)
@[irreducible] def zS(t:TSd):TSd:=t
theorem tm{t:TSd}:zS t=t:=by unfold zS;rfl
theorem aU{t:TSd}{E:dU}{Δ:DE}{M:DH}(h:t E Δ M):zS t E Δ M:=by rw[tm];exact h
theorem cv{X:Cx}{st:List Stmt}{t:TSd}(h:QSs X st t):QSs X st (zS t):=by rw[tm];exact h
theorem yg{K:Params->PySem.W.Frag}{as:List Addr}{n t:Nat}{q:Program}{loose:List Str}{XP:(Str->Option Value)->Heap->Prop}{r:PySem.W.RowW}{d:DefRec}{kwd:List (Str×Expr)}{run:Value->List Value->Sem Value}(hk:∀P,as=(K P).map (·.1))
  (h:PySem.W.WalkO q loose XP (fun w h=>(K w.params).In h) r d kwd run):PySem.W.WalkX q loose XP (PySem.W.X.obsZ as) (PySem.W.X.valZ K n t) r d kwd run:=by
 intro w s₀ s₁ mg mb G y a o pm cd doc dV kV ho hd hcd hD hmg hg args vals as' L hpre hlay hrd hwl hlo;refine h w s₀ s₁ mg mb G (fun b u hu=>L.keeps b u ?_) a o pm cd doc dV kV ho hd hcd hD hmg hg args vals as' hpre hlay hrd hwl hlo;have y1:as.map s₀.heap.get?=(K w.params).map fun p=>some p.2:=congrArg (·.1) y;rw[hk w.params,List.map_map]at y1;have key:∀(l:PySem.W.Frag),(l.map fun p=>s₀.heap.get? p.1)=l.map (fun p=>some p.2)->List.lookup b l=some u->s₀.heap.get? b=some u:=by
  intro l
  induction l with
  |nil=>intro _ z;cases z
  |cons p l ih =>
   intro e z;rw[List.map_cons,List.map_cons,List.cons.injEq]at e;rw[List.lookup_cons]at z
   by_cases c:b=p.1
   ·subst c;rw[beq_self_eq_true]at z;cases z;exact e.1
   ·rw[beq_eq_false_iff_ne.mpr c]at z;exact ih e.2 z
 exact key _ y1 hu
end L2
namespace L2
open PySem PySem.W PySem.Calls PyProof.Rows
end L2
namespace L2
open PySem PySem.Spec PyProof.Rows
section
variable{X:Cx}
end
section
variable{X:Cx}
def inF(x y:D):Option D:=match y with
 |.lst ds=>if dLe x 59=true/\cn ds 59=true then some (.bl (ds.any fun d=>eqD d x))else none
 |_=>none
theorem Eb{x:D}{ds:List D}:inF x (.lst ds)=if dLe x 59=true/\cn ds 59=true then some (.bl (ds.any fun d=>eqD d x))else none:=rfl
end
section
variable{X:Cx}{a b e:Expr}{ta tb te:TEd}{pos:Pos}
section
open PySem.SeqAt PySem.MeetsSeq AutoSeq1
end
end
noncomputable def itN:Bool->String
 |true=>"tuple_iterator"
 |false=>"list_iterator"
def sqN:Bool->String
 |true=>"tuple"
 |false=>"list"
def Bp(b:Bool) (h:Heap) (i l:Addr) (k:Nat):Prop:=∃o,h.get? i=some o/\o.cls=.type (itN b)/\o.data=.fields #[.ref l,.int k 0]
def CS(b:Bool) (h:Heap) (l:Addr) (xs:Array Value):Prop:=∃o,h.get? l=some o/\o.cls=.type (sqN b)/\∃n,o.data=.seq xs n
section
variable{prog:Program}{w:World}{A:Around}{E:Value->Shared->Prop}{s:Shared}{b c:Bool}
theorem Bp.go{h h':Heap}{i l:Addr}{k:Nat}(x:Bp b h i l k) (f:∀o,h.get? i=some o->h'.get? i=some o):Bp b h' i l k:=let⟨o,e,r⟩:=x;⟨o,f o e,r⟩
theorem CS.go{h h':Heap}{l:Addr}{xs:Array Value}(x:CS b h l xs) (f:∀o,h.get? l=some o->h'.get? l=some o):CS b h' l xs:=let⟨o,e,r⟩:=x;⟨o,f o e,r⟩
end
section
variable{X:Cx}{scope:Scope}{cl:List (Str×Addr)}{ak:List Str}{tg:Expr}{pos:Pos}
end
section
variable{X:Cx}{e o:Expr}{es:List Expr}{te to:TEd}{t:TAd}{pos p pos':Pos}{f x:Str}{C:Addr}
structure MkD(P:Program) (w:World) (K:PySem.W.Frag) (mg:Str->Option Value) (base:Heap) (x:Str) (C:Addr) (k n:Nat) (S:SpD):Prop where
 ex:∃(f:Addr) (fd:FuncData) (ps:List Str),Mk K C f/\aQ P w K mg base CX0 k f fd ps (spD K n S)/\mg x=some (.ref C)/\c9 K fd ps []
end
section
variable{X:Cx}{e:Expr}{te:TEd}
def GJ(kvs:List (Key×D)):D:=.box (.dk (kvs.map (·.1))) (kvs.map (·.2))
end
section
variable{X:Cx}{a b c e o i:Expr}{es:List Expr}{te ta tb to ti:TEd}{t:TAd}{pos:Pos}{tg iter:Expr}
end
def FD:D->Option D
 |.box (.dk ks) _=>some (.lst (ks.map kD))
 |_=>none
theorem yS{kvs:List (Key×D)}:FD (GJ kvs)=some (.lst (kvs.map fun p=>kD p.1)):=by
 show some (D.lst ((kvs.map (·.1)).map kD))=_;rw[List.map_map];rfl
noncomputable def Gy:D->Option D
 |.int i=>some (.int i)
 |.bl k=>some (.int (if k then 1 else 0))
 |_=>none
theorem BJ{k:Bool}:Gy (.bl k)=some (.int (if k then 1 else 0)):=rfl
noncomputable def ltS(a b:Str):Bool:=decide (a.cps.toList<b.cps.toList)
theorem vS{a b:Str}(h:a.cps.toList=b.cps.toList):a=b:=by
 cases a;cases b;simp only[Str.mk.injEq];exact Array.toList_inj.mp h
theorem yV(a:Str):ltS a a=false:=decide_eq_false (List.lt_irrefl _)
theorem vv{a b c:Str}(h1:ltS a b=true) (h2:ltS b c=true):ltS a c=true:=decide_eq_true (List.lt_trans (of_decide_eq_true h1) (of_decide_eq_true h2))
theorem yW{a b:Str}(h1:ltS a b=false) (h2:ltS b a=false):a=b :=
 vS (List.le_antisymm (List.not_lt.mp (of_decide_eq_false h2)) (List.not_lt.mp (of_decide_eq_false h1)))
section
variable{X:Cx}
def kZ(x y:D):Option D:=match y with
 |.lst ds=>if dLe x 59=true/\cn ds 59=true then some (.bl (!(ds.any fun d=>eqD d x)))else none
 |.tup ds=>if dLe x 59=true/\cn ds 59=true then some (.bl (!(ds.any fun d=>eqD d x)))else none
 |_=>none
theorem xo{x:D}{ds:List D}:kZ x (.lst ds)=if dLe x 59=true/\cn ds 59=true then some (.bl (!(ds.any fun d=>eqD d x)))else none:=rfl
theorem rR{h:Heap}{a:Addr}{xs:Array Value}(p:IsTup h a xs):h.IsTuple a xs:=by
 obtain⟨o,h1,h2,n,h3⟩:=p;exact⟨o,h1,h2,n,h3⟩
open Classical in
theorem lJ(hu:X.A.units+64<cLine):bK X (compareOp .NotIn) kZ:=by
 intro aa s σ H M x y v u dx dy dz Q I hr rx ry r1 r2 e k;cases dy with
 |lst ds =>
  simp only[kZ]at e
  by_cases hc:dLe dx 59=true/\cn ds 59=true
  ·rw[if_pos hc]at e;cases e;obtain⟨l,vs,rfl,sq,rl⟩:=r2;cases ry;obtain⟨its,r,pl,hz⟩:=I.list (SqL.of sq);have hl:ds.length=its.length:=rl.length.trans r.length;have at_:∀j (h:j<ds.length) (h':j<its.length),PySem.SeqAt.EqAt X.A.in1 s its[j] v (eqD ds[j] dx):=fun j h h'=>by
    obtain⟨v1,g1,p1⟩:=rl.get (i:=j) (d:=ds[j]) (by simp[h]);obtain⟨u1,k1,m1⟩:=r.get g1;have e1:its[j]=u1:=by simpa[List.getElem?_eq_getElem h']using k1
    rw[e1];exact(ou I 59 (by show X.A.units+1+59<cLine;omega) (fQ hc.2 (i:=j) (by simp[h])) hc.1 p1.r r1 m1 rx).1
   refine SeqAt.notIn_listAt (fun w=>decide (∃j,∃h:j<ds.length,∃h':j<its.length,its[j]=w/\eqD ds[j] dx=true)) pl.isList (fun w hw=>?_) ⟨.bl _,H,I,rfl,?_⟩
   ·obtain⟨i,hi,rfl⟩:=List.mem_iff_getElem.mp (show w∈its by simpa using hw)
    by_cases q:∃j,∃h:j<ds.length,∃h':j<its.length,its[j]=its[i]/\eqD ds[j] dx=true
    ·rw[decide_eq_true q];obtain⟨j,h,h',q1,q2⟩:=q;rw[<-q1,<-q2];exact at_ j h h'
    ·rw[decide_eq_false q];have:=at_ i (by omega) hi
     rwa [show eqD ds[i] dx=false from Bool.eq_false_iff.mpr fun z=>q ⟨i,by omega,hi,rfl,z⟩]at this
   ·have ea:its.toArray.any (fun w=>decide (∃j,∃h:j<ds.length,∃h':j<its.length,its[j]=w/\eqD ds[j] dx=true))=ds.any fun d=>eqD d dx:=by
     rw[Bool.eq_iff_iff,List.any_toArray,List.any_eq_true,List.any_eq_true];constructor
     ·rintro⟨w,_,h⟩;obtain⟨j,h1,_,_,h2⟩:=of_decide_eq_true h;exact⟨ds[j],List.getElem_mem _,h2⟩
     ·rintro⟨d,hd,h⟩;obtain⟨j,hj,rfl⟩:=List.mem_iff_getElem.mp hd;exact⟨its[j],List.getElem_mem _,decide_eq_true ⟨j,hj,by omega,rfl,h⟩⟩
    rw[ea];exact k _ H (Ext.refl _ _) hr (by simp[Rep])
  ·rw[if_neg hc]at e;cases e
 |tup ds =>
  simp only[kZ]at e
  by_cases hc:dLe dx 59=true/\cn ds 59=true
  ·rw[if_pos hc]at e;cases e;obtain⟨l,vs,rfl,sq,rl⟩:=r2;cases ry;obtain⟨its,r,pl,hz⟩:=I.tuple sq;have hl:ds.length=its.length:=rl.length.trans r.length;have at_:∀j (h:j<ds.length) (h':j<its.length),PySem.SeqAt.EqAt X.A.in1 s its[j] v (eqD ds[j] dx):=fun j h h'=>by
    obtain⟨v1,g1,p1⟩:=rl.get (i:=j) (d:=ds[j]) (by simp[h]);obtain⟨u1,k1,m1⟩:=r.get g1;have e1:its[j]=u1:=by simpa[List.getElem?_eq_getElem h']using k1
    rw[e1];exact(ou I 59 (by show X.A.units+1+59<cLine;omega) (fQ hc.2 (i:=j) (by simp[h])) hc.1 p1.r r1 m1 rx).1
   refine SeqAt.notIn_tupleAt (fun w=>decide (∃j,∃h:j<ds.length,∃h':j<its.length,its[j]=w/\eqD ds[j] dx=true)) (rR pl) (fun w hw=>?_) ⟨.bl _,H,I,rfl,?_⟩
   ·obtain⟨i,hi,rfl⟩:=List.mem_iff_getElem.mp (show w∈its by simpa using hw)
    by_cases q:∃j,∃h:j<ds.length,∃h':j<its.length,its[j]=its[i]/\eqD ds[j] dx=true
    ·rw[decide_eq_true q];obtain⟨j,h,h',q1,q2⟩:=q;rw[<-q1,<-q2];exact at_ j h h'
    ·rw[decide_eq_false q];have:=at_ i (by omega) hi
     rwa [show eqD ds[i] dx=false from Bool.eq_false_iff.mpr fun z=>q ⟨i,by omega,hi,rfl,z⟩]at this
   ·have ea:its.toArray.any (fun w=>decide (∃j,∃h:j<ds.length,∃h':j<its.length,its[j]=w/\eqD ds[j] dx=true))=ds.any fun d=>eqD d dx:=by
     rw[Bool.eq_iff_iff,List.any_toArray,List.any_eq_true,List.any_eq_true];constructor
     ·rintro⟨w,_,h⟩;obtain⟨j,h1,_,_,h2⟩:=of_decide_eq_true h;exact⟨ds[j],List.getElem_mem _,h2⟩
     ·rintro⟨d,hd,h⟩;obtain⟨j,hj,rfl⟩:=List.mem_iff_getElem.mp hd;exact⟨its[j],List.getElem_mem _,decide_eq_true ⟨j,hj,by omega,rfl,h⟩⟩
    rw[ea];exact k _ H (Ext.refl _ _) hr (by simp[Rep])
  ·rw[if_neg hc]at e;cases e
 |_=>cases e
end
section
variable{X:Cx}{e:Expr}{t:TEd}
end
section
variable{P:Program}{w:World}{K:PySem.W.Frag}{h base:Heap}{mg:Str->Option Value}{x qual:Str}{st:Stmt}{f:Addr}{fd:FuncData}{k:Nat}{S:SpD}
structure br(K:PySem.W.Frag) (x:Str) (st:Stmt) (f:Addr) (fd:FuncData):Prop where
 a:PySem.W.nsIn K mainGlobals x=some (some (.ref f))
 F:Fun K x x st f fd
theorem Fh{oc:Value}{od an:Option Addr}{osl:Array (Option Value)}{kV doc pm cdv ct:Value}(a:PySem.W.nsIn K mainGlobals x=some (some (.ref f))) (l:K.lookup f=some ⟨oc,od,.func (PySem.W.fnOf x x (fb st) (cx st) (ag st) .none kV doc pm an cdv ct),osl⟩)
  (c:PySem.W.codeIn K cdv x=true) (k:PySem.W.keepIn K (.ref f)=true):br K x st f (PySem.W.fnOf x x (fb st) (cx st) (ag st) .none kV doc pm an cdv ct):=⟨a,vZ l c k⟩
theorem usS{p:List Value->Prop}{n:Nat}(h:∀a us,us.length=n->p (a::us)):∀us:List Value,us.length=n+1->p us:=by
 intro us e;cases us with
 |nil=>cases e
 |cons a us=>exact h a us (Nat.succ.inj e)
theorem us0{p:List Value->Prop}(h:p []):∀us:List Value,us.length=0->p us:=by
 intro us e;cases us with
 |nil=>exact h
 |cons a us=>cases e
def Bd(x qual:Str) (st:Stmt) (ps:List Str) (us:List Value):Prop:=∀(kV doc pm:Value) (an:Option Addr) (cdv ct:Value),bindArgs (PySem.W.fnOf x qual (fb st) (cx st) (ag st) .none kV doc pm an cdv ct) ⟨us,[]⟩=pure (ps.zip us)
theorem tD{ps:List Str}(F:Fun K x qual st f fd) (b:∀us:List Value,us.length=ps.length->Bd x qual st ps us):c9 K fd ps []:=F.binds fun kV doc pm an cdv ct us hl=>b us hl kV doc pm an cdv ct
variable{p1 p2 p3 p4 p5:Str}
theorem bd1(F:Fun K x qual st f fd) (b:∀a,Bd x qual st [p1] [a]):c9 K fd [p1] []:=tD F (usS fun a=>us0 (b a))
theorem bd2(F:Fun K x qual st f fd) (b:∀a c,Bd x qual st [p1,p2] [a,c]):c9 K fd [p1,p2] []:=tD F (usS fun a=>usS fun c=>us0 (b a c))
theorem bd3(F:Fun K x qual st f fd) (b:∀a c d,Bd x qual st [p1,p2,p3] [a,c,d]):c9 K fd [p1,p2,p3] []:=tD F (usS fun a=>usS fun c=>usS fun d=>us0 (b a c d))
theorem bd4(F:Fun K x qual st f fd) (b:∀a c d e,Bd x qual st [p1,p2,p3,p4] [a,c,d,e]):c9 K fd [p1,p2,p3,p4] []:=tD F (usS fun a=>usS fun c=>usS fun d=>usS fun e=>us0 (b a c d e))
theorem fg{ps:List Str}{n:Nat}(X:K.In h) (G:h.Ns mainGlobals mg) (i:br K x st f fd) (o:aQ P w K mg base CX0 k f fd ps (spD K n S)) (b:c9 K fd ps []):FnD P w K mg base x k n S:=⟨_,_,_,o,PySem.W.mg_of X G i.a,i.F.kp,b⟩
theorem Di{fa:Addr}{sp:Sp}{lp:Program}(X:K.In h) (G:h.Ns mainGlobals mg) (hfa:mg "law"=some (.ref fa)) (i:br K "law" st f fd) (b:∀a,Bd "law" "law" st [p1] [a]) (o:∀base:Heap,aQ lp w K mg base CX0 k f fd [p1] sp) :
  ∃fd:FuncData,(∀(s:Shared) (v:Value),BindsTo s fd ⟨[v],[]⟩ [(p1,v)])/\∀base:Heap,K.In base->base.Ns mainGlobals mg->aQ lp w K mg base CX0 k fa fd [p1] sp:=by
 have e:=hfa.symm.trans (PySem.W.mg_of X G i.a);cases e;refine⟨fd,fun s v=>?_,fun base _ _=>o base⟩;obtain⟨oc,od,kV,doc,pm,an,cdv,ct,osl,rfl,lk,hcd⟩:=i.F.ex;exact .of_eq (b v kV doc pm an cdv ct)
end
theorem nbh{op:CmpOp}{b:Expr}(h:op≠.In:=by decide) (h2:op≠.NotIn:=by decide):behindInMarks op b=false:=xU b h h2
theorem fsc{N P:List Str}{sc:Scope}(a:sc.kind=.function:=by exact rfl) (b:sc.isCoroutine=false:=by exact rfl) (c:sc.isGenerator=false:=by exact rfl) (d:N.Nodup:=by decide +kernel) (e:N.take P.length=P:=by exact rfl)
  (f:∀x∈P,sc.names.lookup x=some .local∨sc.names.lookup x=some .cell:=by decide +kernel) (g:∀y∈sc.names,y.2≠.free:=by decide +kernel):aq N P sc:=⟨a,b,c,d,e,f,g⟩
section
variable{X:Cx}{e:Expr}{es:List Expr}{t:TAd}{pos p:Pos}{x:Str}{j k n:Nat}{S:SpD}
theorem qd(F:FnD X.prog X.w X.K X.mg X.base x j n S) (hr:cw k X.A) (ha:QAd X (e::es) t) (h:j<=k:=by decide) (hg:Gl X x:=by exact rfl) (hdb:(x==("__debug__":Str))=false:=by decide) (he:starEach (e::es) X.env=(false,eval e X.env)::starEach es X.env:=by rfl) (hpl:(backTo pos (starEach es X.env)).any (·.1)=false:=by rfl) :
  QEd X (.Call (.Name x p) (e::es) [] pos) (m9 n S t):=qc F (hr.mono h) hg ha hdb he hpl
end
def txt:Value->Str|.str x _=>x|_=>default
theorem wt(t:SetTable) (n:Nat):(t.orStandIn n).led=t.led:=by unfold SetTable.orStandIn;split<;>rfl
theorem sf(t:SetTable) (es:Array (Int×Value)) (h:Int) (x:Value):(layNew t es h x).2.1.led=t.led:=by
 unfold layNew
 split
 ·exact wt _ _
 ·rfl
theorem mw{t t':SetTable}{hs:Array Int}{n:Nat}{o:Array Nat}(e:t.relaid hs n=some (t',o)):t'.led=t.led/\t'.plain=t.plain:=by
 unfold SetTable.relaid SetTable.laid at e;cases q:SetTable.layClean (SetTable.sizeAbove n-1) hs with
 |none=>rw[q]at e;cases e
 |some w=>rw[q]at e;cases e;exact⟨rfl,rfl⟩
theorem oi(t:SetTable) (es:Array (Int×Value)) (n:Nat):(relayAll t es n).2.1.led=t.led:=by
 unfold relayAll
 split
 ·rename_i e;dsimp only;split
  ·exact(mw e).1
  ·rfl
 ·rfl
theorem lV(t:SetTable) (es:Array (Int×Value)) (n:Nat) (z:t.plain=false):(relayAll t es n).2.1.plain=false:=by
 unfold relayAll
 split
 ·rename_i e;dsimp only;split
  ·rw[(mw e).2];exact z
  ·rfl
 ·rfl
section
variable{prog:Program}{w:World}{A:Around}{E:Value->Shared->Prop}{s:Shared}
noncomputable def byT(w:World):Bool:=w.params.followText "set-order"
def ElT(prog:Program) (w:World) (l:List (Int×Value)):Prop:=∀e∈l,∃x t,e=((strKind prog w).hash x,.str x t)
theorem ElT.of{l:List (Int×Value)}(h:ElT prog w l):ElemsOf (strKind prog w) l:=fun e he=>by
 obtain⟨x,t,rfl⟩:=h e he;exact⟨⟨x,strKind_is _ _ _ _,rfl⟩,rfl⟩
structure oC(prog:Program) (w:World) (h:Heap) (a:Addr) (o:Obj) (es:Array (Int×Value)) (ep:Nat) (t:SetTable):Prop where
 get:h.get? a=some o
 ex:o.ExactSet
 data:o.data=.set es ep t
 el:ElT prog w es.toList
 nd:(es.toList.map fun e=>txt e.2).Nodup
 room:es.size<scanBound
 fit:t.fits es.size=true
 led:t.led=!byT w
 pl:es.size≠0->t.plain=false
def fi(prog:Program) (w:World) (h:Heap) (a:Addr) (xs:List Str):Prop:=∃o es ep t,oC prog w h a o es ep t/\(es.toList.map fun e=>txt e.2).Perm xs
theorem fi.mono{h h':Heap}{a:Addr}{xs:List Str}(z:fi prog w h a xs) (k:∀o,h.get? a=some o->h'.get? a=some o):fi prog w h' a xs:=by
 obtain⟨o,es,ep,t,p,q⟩:=z;exact⟨o,es,ep,t,⟨k _ p.get,p.ex,p.data,p.el,p.nd,p.room,p.fit,p.led,p.pl⟩,q⟩
theorem fi.perm{h:Heap}{a:Addr}{xs ys:List Str}(z:fi prog w h a xs) (k:xs.Perm ys):fi prog w h a ys:=by
 obtain⟨o,es,ep,t,p,q⟩:=z;exact⟨o,es,ep,t,p,q.trans k⟩
theorem Bz{x:Str}{v:Value}(h:(strKind prog w).is x v=true):∃t,v=.str x t:=by
 cases v<;>simp[PySem.strKind,Value.isStrOf]at h
 rename_i y t;exact⟨t,by rw[h]⟩
theorem oC.mem{h:Heap}{a:Addr}{o:Obj}{es:Array (Int×Value)}{ep:Nat}{t:SetTable}(p:oC prog w h a o es ep t) (x:Str) :
  (∃e∈es.toList,(strKind prog w).is x e.2=true)↔x∈es.toList.map fun e=>txt e.2:=by
 constructor
 ·rintro⟨e,he,q⟩;obtain⟨t,z⟩:=Bz q;exact List.mem_map.mpr ⟨e,he,by rw[z];rfl⟩
 ·intro q;obtain⟨e,he,z⟩:=List.mem_map.mp q;obtain⟨y,t,rfl⟩:=p.el e he;have:y=x:=z;subst this;exact⟨_,he,strKind_is _ _ _ _⟩
theorem n9{h:Heap}{a:Addr}{o:Obj}{es:Array (Int×Value)}{ep:Nat}{t:SetTable}(ho:h.get? a=some o) (hd:o.data=.set es ep t) (es':Array (Int×Value)) (t':SetTable) :
  (h.update a (Obj.putSet es' t')).get? a=some { o with data:=.set es' (ep+1) t' }:=by
 have:=Heap.get?_update_self (Obj.putSet es' t') ho (by rw[putSet_of es' t' hd];rfl);rw[putSet_of es' t' hd]at this;exact this
theorem lA{l l':List (Int×Value)}(h:l.Perm l'):(l.map fun e=>txt e.2).Perm (l'.map fun e=>txt e.2):=h.map _
theorem oC.laid{h h':Heap}{a:Addr}{o:Obj}{es es':Array (Int×Value)}{ep ep':Nat}{t t':SetTable}(p:oC prog w h a o es ep t)
  (g:h'.get? a=some { o with data:=.set es' ep' t' }) (q:es'.toList.Perm es.toList) (f:t'.fits es'.size=true) (l:t'.led=t.led) (z:es'.size≠0->t'.plain=false):oC prog w h' a { o with data:=.set es' ep' t' } es' ep' t':=by
 have sz:es'.size=es.size:=by rw[<-Array.length_toList,q.length_eq,Array.length_toList]
 exact⟨g,p.ex,rfl,fun e he=>p.el e (q.mem_iff.mp he),((lA q).nodup_iff).mpr p.nd,by rw[sz];exact p.room,f,l.trans p.led,z⟩
theorem A5{g:Bool->Sem Unit}(hg:∀(b:Bool) (s₁:Shared) (Q':Unit->Shared->Prop),Q' () s₁->wpAny (model prog w) A (g b) Q' E s₁)
  {a:Addr} {o:Obj} {es:Array (Int×Value)} {ep:Nat} {t:SetTable} (ho:s.heap.get? a=some o) (hex:o.ExactSet) (hd:o.data=.set es ep t)
  {es1:Array (Int×Value)} {t2:SetTable} (el:ElT prog w es1.toList) (nd:(es1.toList.map fun e=>txt e.2).Nodup) (hb1:es1.size<scanBound) (hf2:t2.fits es1.size=true) (ld:t2.led=!byT w) (pl:t2.plain=false)
  {wasDummy:Bool} {R:Option Bool->Shared->Prop}
  (h:∀h',Heap.SameBut a s.heap h'->fi prog w h' a (es1.toList.map fun e=>txt e.2)->R (some true) { s with heap:=h' }) :
  wpAny (model prog w) A (do
    storeSet a es1 t2
    if(!wasDummy&&t2.tooFull)=true then do
      g (relayAll t2 es1 (SetTable.grown es1.size)).2.2
      storeSet a (relayAll t2 es1 (SetTable.grown es1.size)).1 (relayAll t2 es1 (SetTable.grown es1.size)).2.1
      pure (some true)
     else pure (some true)) R E s:=by
 refine wpAny_bind (wpAny_storeSet_of ho hd ?_ (fits_of_scanBound hb1));have ho1:=n9 ho hd es1 t2;have hS1:oC prog w (s.heap.update a (Obj.putSet es1 t2)) a { o with data:=.set es1 (ep+1) t2 } es1 (ep+1) t2:=⟨ho1,hex,rfl,el,nd,hb1,hf2,ld,fun _=>pl⟩;have hsb1:=Heap.SameBut.update s.heap a (Obj.putSet es1 t2)
 split
 ·have hp:=relayAll_perm t2 es1 (SetTable.grown es1.size);have hfr:=relayAll_fits t2 es1 (SetTable.grown es1.size);have hl:=oi t2 es1 (SetTable.grown es1.size);have hpl:=lV t2 es1 (SetTable.grown es1.size) pl;generalize hRl:relayAll t2 es1 (SetTable.grown es1.size)=Rl at hp hfr hl hpl ⊢;obtain⟨es2,t3,gave2⟩:=Rl;dsimp only at hp hfr hl hpl ⊢;have hsz:es2.size=es1.size:=by rw[<-Array.length_toList,hp.length_eq,Array.length_toList]
  have hb2:es2.size<scanBound:=by rw[hsz];exact hb1
  refine wpAny_bind (hg _ _ _ ?_);refine wpAny_bind (wpAny_storeSet_of ho1 rfl ?_ (fits_of_scanBound hb2));have ho2:=n9 (h:=s.heap.update a (Obj.putSet es1 t2)) ho1 rfl es2 t3;exact wpAny_pure (h _ (hsb1.trans (Heap.SameBut.update _ a _)) ⟨_,_,_,_,hS1.laid ho2 hp hfr hl (fun _=>hpl),lA hp⟩)
 ·exact wpAny_pure (h _ hsb1 ⟨_,_,_,_,hS1,.refl _⟩)
theorem FT{a:Addr}{xs:List Str}{x:Str}{tk:Tok}{Q:Bool->Shared->Prop}(hS:fi prog w s.heap a xs) (hroom:xs.length+1<scanBound)
  (h:∀b h',Heap.SameBut a s.heap h'->fi prog w h' a (if x∈xs then xs else xs++[x])->Q b { s with heap:=h' }) :
  wpAny (model prog w) A (setAddHashed a (.str x tk) ((strKind prog w).hash x)) Q E s:=by
 obtain⟨o,es,ep,t,p,pm⟩:=hS;have hkey:=strKind_is prog w x tk;have hel:=p.el.of;have hn:es.size=xs.length:=by rw[<-Array.length_toList,<-pm.length_eq,List.length_map]
 have hb1:es.size+1<scanBound:=by rw[hn];exact hroom
 unfold setAddHashed setAddHashedIn;refine wpAny_holding (wpAny_bind (wpAny_setState_of p.get p.data p.fit ?_));dsimp only;rw[byScan_of rfl p.room hel];simp only[↓reduceIte];unfold setAddByScan;refine wpAny_bind ?_;refine wpAny_bind (wpAny_rule ?_);refine wpAny_bind (wpAny_setScan_of hkey p.get p.data p.fit hel ?_);cases hr:List.findIdx? (fun e=>(strKind prog w).is x e.2) es.toList with
 |some j =>
  dsimp only;obtain⟨hj,hpj,_⟩:=List.findIdx?_eq_some_iff_getElem.mp hr;have hx:x∈xs:=pm.mem_iff.mp ((p.mem x).mp ⟨es.toList[j],List.getElem_mem hj,hpj⟩);refine wpAny_pure (wpAny_pure ?_);have e:s={ s with heap:=s.heap }:=by cases s;rfl
  rw[e];exact h _ s.heap (Heap.SameBut.refl a s.heap) (by rw[if_pos hx];exact⟨o,es,ep,t,p,pm⟩)
 |none =>
  dsimp only;have hx:x∉es.toList.map fun e=>txt e.2:=fun q=>by
   obtain⟨e,he,z⟩:=(p.mem x).mpr q;have:=List.findIdx?_eq_none_iff.mp hr e he;rw[z]at this;exact Bool.noConfusion this
  have hx':x∉xs:=fun q=>hx (pm.mem_iff.mpr q);have hgw:∀(b:Bool) {s₁:Shared} {Q':Unit->Shared->Prop},Q' () s₁->wpAny (model prog w) A (match b with|true=>rule "set.scan.the-table-gave-way" |false=>pure ()) Q' E s₁ :=
   fun b s₁ Q' hq=>by cases b<;>first|exact wpAny_pure hq|exact wpAny_rule hq
  have hperm:=layNew_perm t es ((strKind prog w).hash x) (.str x tk);have hfits:=layNew_fits t es ((strKind prog w).hash x) (.str x tk);have hled:=sf t es ((strKind prog w).hash x) (.str x tk);generalize hL:layNew t es ((strKind prog w).hash x) (.str x tk)=L at hperm hfits hled ⊢;obtain⟨es1,t1,wasDummy,gave⟩:=L;dsimp only at hperm hfits hled ⊢;rw[Array.toList_push]at hperm;have hel1:ElT prog w es1.toList:=fun e he=>by
   rcases List.mem_append.mp (hperm.mem_iff.mp he)with he|he
   ·exact p.el e he
   ·rw[List.mem_singleton]at he;exact⟨x,tk,he⟩
  have hm:(es1.toList.map fun e=>txt e.2).Perm ((es.toList.map fun e=>txt e.2)++[x]):=by
   have:=lA hperm
   rwa [List.map_append]at this
  have hnd:(es1.toList.map fun e=>txt e.2).Nodup:=by
   rw[hm.nodup_iff,List.nodup_append];exact⟨p.nd,by simp,fun a ha b hb=>by rw[List.mem_singleton]at hb;subst hb;intro q;subst q;exact hx ha⟩
  have hb1':es1.size<scanBound:=by rw[<-Array.length_toList,hperm.length_eq,List.length_append,Array.length_toList];simpa using hb1
  refine wpAny_bind (hgw _ ?_);have hend:∀h',Heap.SameBut a s.heap h'->fi prog w h' a (es1.toList.map fun e=>txt e.2)->Q true { s with heap:=h' }:=fun h' hsb hS' =>
   h _ h' hsb (by rw[if_neg hx'];exact hS'.perm (hm.trans (pm.append_right _)))
  split
  ·refine wpAny_bind ?_;rw[hashByValue_scannable 8 rfl];refine wpAny_pure ?_;refine A5 (t2:={ t1 with plain:=false }) ?_ p.get p.ex p.data hel1 hnd hb1' (SetTable.fits_plain_off hfits) (hled.trans p.led) rfl ?_
   ·intro b s₁ Q' hq;cases b<;>first|exact wpAny_pure hq|exact wpAny_rule hq
   ·intro h' hsb hS';dsimp only;exact wpAny_pure (hend h' hsb hS')
  ·rename_i hp;refine wpAny_bind (wpAny_pure ?_);simp only[↓reduceIte];refine A5 ?_ p.get p.ex p.data hel1 hnd hb1' hfits (hled.trans p.led) (by simpa using hp) ?_
   ·intro b s₁ Q' hq;cases b<;>first|exact wpAny_pure hq|exact wpAny_rule hq
   ·intro h' hsb hS';dsimp only;exact wpAny_pure (hend h' hsb hS')
end
def j8(xs:List Str) (x:Str):List Str:=if x∈xs then xs else xs++[x]
def fH(xs:List Str):List Str:=xs.foldl j8 []
theorem vK(xs:List Str) (x:Str):(j8 xs x).length<=xs.length+1:=by unfold j8;split<;>simp
theorem jO:∀(xs zs:List Str),(xs.foldl j8 zs).length<=zs.length+xs.length
 |[],_=>Nat.le_refl _
 |x::xs,zs=>by
  have:=jO xs (j8 zs x);have:=vK zs x;simp only[List.foldl_cons,List.length_cons];lia
theorem xj(xs:List Str):(fH xs).length<=xs.length:=by have:=jO xs [];simpa[fH]using this
theorem vo(xs:List Str) (i:Nat) (h:i<xs.length):fH (xs.take (i+1))=j8 (fH (xs.take i)) xs[i]:=by
 rw[List.take_succ_eq_append_getElem h,fH,List.foldl_append];rfl
section
variable{prog:Program}{w:World}{A:Around}{R:Result->Shared->Prop}{I:Addr}{fp wr:List Addr}{G:Array GenState->Array GenState->Prop}{P:Nat->Value->Prop}{St:Nat->Shared->Prop}
theorem F6{xs:List Str}(W:WalksS prog w A.in1 I fp wr G xs.length P St) (S:Addr) (hSf:S∉fp)
  (hval:∀i v (h:i<xs.length),P i v->∃t,v=.str xs[i] t) (hb:xs.length+1<scanBound) :
  ∀(k i:Nat) (s:Shared),xs.length-i=k->i<=xs.length->St i s->fi prog w s.heap S (fH (xs.take i)) ->
   (∀s',Moved (S::wr) G s s'->fi prog w s'.heap S (fH xs)->R (.ok (.ret .none)) s') ->
   codeAny (model prog w) A (.builtin "set.update.loop" ⟨[.ref S,.ref I],[]⟩) R s:=by
 have hSw:S∉wr:=fun h=>hSf (W.sub _ h);have hsub:∀b∈wr,b∈S::wr:=fun b hb=>List.mem_cons_of_mem _ hb;intro k
 induction k with
 |zero =>
  intro i s hk hi hst hS hR;have hin:i=xs.length:=by lia
  subst hin;refine codeAny_builtin F.entry_set_update_loop ?_;rw[Around.under_plainId F.plain_set_update_loop _];show wpAny _ A.in1 (pyNext (.ref I) >>= _) _ _ s;refine wpAny_bind (W.done s _ _ hst fun s' hm=>?_);show wpAny _ A.in1 (ret Value.none) _ _ s';rw[List.take_length]at hS;exact wpAny_pure (hR s' (hm.mono hsub) (hS.mono fun o e=>hm.heap S _ hSw e))
 |succ k ih =>
  intro i s hk hi hst hS hR;have hlt:i<xs.length:=by lia
  refine codeAny_builtin F.entry_set_update_loop ?_;rw[Around.under_plainId F.plain_set_update_loop _];show wpAny _ A.in1 (pyNext (.ref I) >>= _) _ _ s;refine wpAny_bind (W.item i s _ _ hlt hst fun v s' hP hst' hm=>?_);obtain⟨t,rfl⟩:=hval i v hlt hP;have hS':fi prog w s'.heap S (fH (xs.take i)):=hS.mono fun o e=>hm.heap S _ hSw e;show wpAny _ A.in1 (holding [Value.str xs[i] t] (setAdd S (.str xs[i] t)) >>= _) _ _ s';refine wpAny_bind (wpAny_holding ?_);unfold setAdd;refine wpAny_holding ?_;refine wpAny_bind ((strKind prog w).pyHash (k:=xs[i]) (strKind_is _ _ _ _) ?_);have hroom:(fH (xs.take i)).length+1<scanBound:=by have:=xj (xs.take i);rw[List.length_take]at this;lia
  refine FT (s:={ s' with toks:=s'.toks+1 }) hS' hroom fun b h' hsb hS2=>?_;have hSi:fi prog w h' S (fH (xs.take (i+1))):=by rw[vo xs i hlt];exact hS2
  refine wpAny_pure ⟨plainId_quiet F.plain_set_update_loop _,ih (i+1) _ (by lia) hlt (W.frame _ s' _ _ hst' (Nat.le_succ _) fun b hb o e=>?_) hSi fun s'' hm'' hS''=>?_⟩
  ·rw[hsb.2 b (fun h:b=S=>hSf (by rw[<-h];exact hb))];exact e
  ·refine hR s'' (Moved.trans W.gtrans ((hm.mono hsub).then_heap (Nat.le_succ _) fun b o hb e=>?_) hm'') hS'';rw[hsb.2 b (fun h:b=S=>hb (by rw[h];exact List.mem_cons_self))];exact e
end
section
variable{prog:Program}{w:World}{A:Around}{E:Value->Shared->Prop}{s:Shared}
abbrev cH(w:World):Obj:={ cls:=.type "set",dict:=none,data:=.set #[] 0 (.fresh 0 0 (!byT w)) }
theorem DG{h:Heap}{a:Addr}(g:h.get? a=some (cH w)):fi prog w h a [] :=
 ⟨_,#[],0,_,⟨g,⟨rfl,rfl,rfl⟩,rfl,fun e he=>by simp at he,by simp,by decide,rfl,rfl,fun q=>absurd rfl q⟩,by simp⟩
theorem lE(a:Value) {Q₁:Value->Shared->Prop}(h:Q₁ (.ref s.heap.objs.size) { s with heap:=s.heap.push (cH w) }) :
  codeAny (model prog w) A (.call (.builtin "set.__new__") ⟨[.type "set",a],[]⟩) (wants Q₁ E) s:=by
 refine codeAny_of_tree ?_;show wpAny _ A.in1 (do checkBuiltinCall "set.__new__" ⟨[.type "set",a],[]⟩;again (.builtin "set.__new__" ⟨[.type "set",a],[]⟩)) _ _ s;refine wpAny_bind (wpAny_of_eq (PySem.F.newCall_set_1 a) (wpAny_pure ⟨plainId_quiet PySem.F.plain_set_new _,codeAny_builtin PySem.F.entry_set_new ?_⟩));rw[Around.under_plainId PySem.F.plain_set_new _];unfold Builtin.«set.__new__» Builtin.Frozenset.newClass;have hsub:=sub_set_self;obtain⟨hp,g,d,tk,os⟩:=s;dsimp only
 wp_walk
 refine wpAny_askSetting (wpAny_pure ?_);dsimp only;simp only[newObj];refine wpAny_bind (wpAny_alloc (wpAny_pure ?_));exact wpAny_pure h
set_option maxHeartbeats 3200000 in
theorem uY{l:Addr}{items:Array Value}{xs:List Str}{Q:Value->Shared->Prop}
  (hh:A.handled=none) (hl:s.heap.IsList l items) (hn:items.size=xs.length) (hi:∀i (h:i<xs.length),∃t,items[i]?=some (.str xs[i] t)) (hb:xs.length+1<scanBound)
  (h:∀(h':Heap) (tk:Nat),fi prog w h' s.heap.objs.size (fH xs)->(∀b o,s.heap.get? b=some o->h'.get? b=some o)->Q (.ref s.heap.objs.size) { s with heap:=h',toks:=tk }) :
  wpAny (model prog w) A (call (.type "set") [.ref l]) Q E s:=by
 obtain⟨c,tl,hmro⟩:=PySem.F.called_set.mro;have hmade:=PySem.F.called_set.made;have hsub:=PySem.F.called_set.sub;refine wpAny_call (codeAny_of_tree ?_);show wpAny _ _ (callAny (.type "set") _) _ _ _;refine wpAny_pure ⟨Code.quiet_builtin _ (by decide +kernel),codeAny_builtin PySem.F.entry_type_call ?_⟩;rw[Around.under_plain (weight_type_call_type "set" [.ref l] []) rfl];have h1:=PySem.F.called_set.notType;have h2:=PySem.F.called_set.canCreate;have hct:=PySem.F.typeCall_set_1 (.ref l)
 repeat (any_goals (first|assumption|wp_step))
 refine codeAny_mono (lE (.ref l) (E:=E) (Q₁:=fun obj s₁=>obj=.ref s.heap.objs.size/\s₁={ s with heap:=s.heap.push (cH w) }) ⟨rfl,rfl⟩) fun r s₁ hr=>?_;cases r with
 |error e=>exact hr
 |ok fl =>
  cases fl with
  |ret obj =>
   obtain⟨rfl,rfl⟩:=hr;have hS:(s.heap.push (cH w)).get? s.heap.objs.size=some (cH w):=Heap.get?_push_size _ rfl;have hT:Shared.TypeIs { s with heap:=s.heap.push (cH w) } (.ref s.heap.objs.size) "set":=⟨_,hS,rfl⟩;have hli:=PySem.F.called_set.init.lookup;have hbi:=PySem.F.called_set.init.bind (.ref s.heap.objs.size)
   repeat (any_goals (first|assumption|wp_step))
   refine codeAny_mono (codeAny_call_builtin (R:=wants (fun r s₂=>r=.none/\∃h' tk,s₂={ s with heap:=h',toks:=tk } /\
     fi prog w h' s.heap.objs.size (fH xs)/\(∀b o,s.heap.get? b=some o->h'.get? b=some o)) E) PySem.F.called_set.init.plain PySem.F.entry_set_init (check_set_init_1 hT ?_)) fun r₂ s₂ hr₂=>?_
   ·obtain⟨ol,hol,hcl,nl,hdl⟩:=hl;obtain⟨ocls,odict,odata,oslots⟩:=ol;simp only at hcl hdl;subst hcl;subst hdl;have hol':(s.heap.push (cH w)).get? l=some { cls:=.type "list",dict:=odict,data:=.seq items nl,slots:=oslots }:=Heap.get?_push_of_some _ hol;have hsls:=PySem.F.sub_list_set;have hslf:=PySem.F.sub_list_frozenset;have hne:(Value.type "list"==Value.type "dict")=false:=by decide
    have hl1:(s.heap.push (cH w)).IsList l items:=⟨_,hol',rfl,nl,rfl⟩;unfold Builtin.«set.__init__» noKeywords Builtin.Frozenset.updateFrom;generalize hPI:pyIter=PI
    wp_walk
    subst hPI;refine wpAny_pyIter_list hl1 ?_;refine wpAny_bind (wpAny_runValue ?_);have hlS:l<s.heap.objs.size:=Heap.lt_size hol;have hh3:A.in1.in1.in1.handled=none:=by simp[hh]
    have hneI:l≠(s.heap.push (cH w)).objs.size:=by
     rw[Heap.size_push];exact Nat.ne_of_lt (Nat.lt_succ_of_lt hlS)
    have hSf:s.heap.objs.size∉[(s.heap.push (cH w)).objs.size,l]:=by
     rw[Heap.size_push];simp only[List.mem_cons,List.mem_singleton,List.not_mem_nil,or_false,not_or];exact⟨Nat.ne_of_lt (Nat.lt_succ_self _),Nat.ne_of_gt hlS⟩
    have W:=(Walks.list (prog:=prog) (w:=w) hh3 _ l hneI items).toS;rw[hn]at W;refine F6 (xs:=xs) W s.heap.objs.size hSf (fun i v hlt hv=>?_) hb (xs.length-0) 0 _ (by lia) (Nat.zero_le _) ?St0 ?hS0 ?hR
    case St0=>exact⟨⟨_,Heap.get?_push_size _ rfl,rfl,rfl⟩,(hl1.push _)⟩
    ·obtain⟨t,g⟩:=hi i hlt;have hv':items[i]?=some v:=hv;rw[g]at hv';exact⟨t,(Option.some.inj hv').symm⟩
    case hS0=>exact DG (Heap.get?_push_of_some _ hS)
    case hR =>
     intro s' hm hS';obtain⟨h',g',d',tk',os'⟩:=s';have eg:g'=s.gens:=hm.gens;have ed:d'=s.drawn:=hm.drawn;have eo:os'=s.os:=hm.os;subst eg;subst ed;subst eo;show wpAny _ _ _ _ _ _;refine wpAny_pure ?_;show wpAny _ _ (ret Value.none) _ _ _;refine wpAny_pure ⟨rfl,h',tk',rfl,hS',fun b o e=>?_⟩;have hb:=Heap.lt_size e;have hb1:b≠s.heap.objs.size:=Nat.ne_of_lt hb;have hb2:b≠(s.heap.push (cH w)).objs.size:=by
      rw[Heap.size_push];exact Nat.ne_of_lt (Nat.lt_succ_of_lt hb)
     exact hm.heap b o (by simp only[List.mem_cons,List.mem_singleton,List.not_mem_nil,or_false,not_or];exact⟨hb1,hb2⟩) (Heap.get?_push_of_some _ (Heap.get?_push_of_some _ e))
   ·cases r₂ with
    |error e=>exact hr₂
    |ok fl₂ =>
     cases fl₂ with
     |ret r =>
      obtain⟨rfl,h',tk,rfl,hS',hk'⟩:=hr₂
      repeat (any_goals (first|assumption|wp_step))
      exact h _ _ hS' hk'
     |_=>exact hr₂.elim
  |_=>exact hr.elim
end
theorem kn{α:Type}(f:Nat->Nat):∀(n k:Nat) (l:List α) (out:Array α),l.length=n->(pickOrder.go f n k l out).toList.Perm (out.toList++l)
 |0,k,l,out,h=>by
  have:l=[]:=List.length_eq_zero_iff.mp h;subst this;simp[pickOrder.go]
 |n+1,k,l,out,h=>by
  have hl:f k % l.length<l.length:=Nat.mod_lt _ (by lia);simp only[pickOrder.go,List.getElem?_eq_getElem hl];refine(kn f n (k+1) _ _ (by rw[List.length_eraseIdx_of_lt hl];lia)).trans ?_;rw[Array.toList_push,List.append_assoc];refine List.Perm.append_left _ ?_;have z:l=l.take (f k % l.length)++l[f k % l.length]::l.drop (f k % l.length+1):=by rw[List.getElem_cons_drop];simp
  have e:l.eraseIdx (f k % l.length)=l.take (f k % l.length)++l.drop (f k % l.length+1):=List.eraseIdx_eq_take_drop_succ l _;rw[e];generalize l[f k % l.length]=x at z ⊢
  conv=>rhs;rw[z]
  rw[List.singleton_append];exact List.perm_middle.symm
theorem jN{α:Type}(f:Nat->Nat) (xs:Array α):(pickOrder f xs).toList.Perm xs.toList:=by
 have:=kn f xs.size 0 xs.toList #[] (by simp);simpa[pickOrder]using this
section
variable{prog:Program}{w:World}{A:Around}{E:Value->Shared->Prop}{s:Shared}
theorem kW{Q:Bool->Shared->Prop}(h:Q (byT w) s):wpAny (model prog w) A setsByText Q E s:=by
 unfold setsByText;exact wpAny_bind (wpAny_askSetting (wpAny_pure h))
end
end L2
namespace L2
open PySem
def f51(x:Nat):Nat:=5*x+1
def kB:Nat->Nat->Nat
 |0,x=>x
 |n+1,x=>kB n (f51 x)
theorem lS(m n x:Nat):kB (m+n) x=kB n (kB m x):=by
 induction m generalizing x with
 |zero=>simp[kB]
 |succ m ih=>rw[Nat.succ_add];simp only[kB];exact ih _
theorem yz(k:Nat):∃a c,∀z,kB (2 ^ k) z=z+2 ^ (k+2)*a*z+2 ^ k+2 ^ (k+1)*c:=by
 induction k with
 |zero=>exact⟨1,0,fun z=>by simp[kB,f51];lia⟩
 |succ k ih =>
  obtain⟨a,c,h⟩:=ih;generalize hp:2 ^ k=p at *
  have e1:2 ^ (k+1)=2*p:=by rw[Nat.pow_succ,hp,Nat.mul_comm]
  have e2:2 ^ (k+2)=4*p:=by rw[Nat.pow_add,hp];lia
  have e3:2 ^ (k+1+2)=8*p:=by rw[show k+1+2=k+3 by lia,Nat.pow_add,hp];lia
  have e4:2 ^ (k+1+1)=4*p:=e2;rw[e1,e3,e4];rw[e1,e2]at h;refine⟨a+2*p*a*a,c+p*a+2*p*a*c,fun z=>?_⟩;rw[show 2*p=p+p by lia,lS,h,h]
  grind
theorem wc(k:Nat):∀x j,j<2 ^ k->∃n,n<2 ^ k/\kB n x % 2 ^ k=j:=by
 induction k with
 |zero=>intro x j h;exact⟨0,by simp,by simp at h;simp[h,Nat.mod_one]⟩
 |succ k ih =>
  intro x j hj;obtain⟨a,c,hs⟩:=yz k;have pos:0<2 ^ k:=Nat.two_pow_pos k;have e1:2 ^ (k+1)=2*2 ^ k:=by rw[Nat.pow_succ,Nat.mul_comm]
  have e2:2 ^ (k+2)=2*(2*2 ^ k):=by rw[Nat.pow_add];lia
  obtain⟨n,hn,he⟩:=ih x (j % 2 ^ k) (Nat.mod_lt _ pos);generalize hy:kB n x=y at he;generalize hp:2 ^ k=p at *
  have hm:y % (2*p)=j∨(y+p) % (2*p)=j:=by
   rw[e1]at hj;have d1:=Nat.div_add_mod y (2*p);have d3:=Nat.mod_lt y (show 0<2*p by lia);have:y % (2*p) % p=y % p:=Nat.mod_mul_left_mod y 2 p;rw[he]at this;generalize y % (2*p)=r at *
   have q1:r=p*(r / p)+r % p:=(Nat.div_add_mod r p).symm;have q2:j=p*(j / p)+j % p:=(Nat.div_add_mod j p).symm;have r2:r / p<2:=Nat.div_lt_of_lt_mul (by lia);have j2:j / p<2:=Nat.div_lt_of_lt_mul (by lia);rw[this]at q1;have hy':(y+p) % (2*p)=(r+p) % (2*p):=by
    rw[<-d1,Nat.add_assoc,Nat.mul_add_mod]
   rw[hy'];have jl:j % p<p:=Nat.mod_lt _ pos;generalize j % p=u at *
   have two:∀q,q<2->q=0∨q=1:=fun q h=>by lia
   have c1:=two _ r2;have c2:=two _ j2;rcases c1 with c1|c1<;>rcases c2 with c2|c2<;>rw[c1]at q1<;>rw[c2]at q2<;>simp only[Nat.mul_zero,Nat.mul_one,Nat.zero_add]at q1 q2
   ·left;lia
   ·right;rw[Nat.mod_eq_of_lt (by lia)];lia
   ·right;rw[show r+p=u+1*(2*p)by lia,Nat.add_mul_mod_self_right,Nat.mod_eq_of_lt (by lia)];lia
   ·left;lia
  rcases hm with hm|hm
  ·exact⟨n,by lia,by rw[e1,hy];exact hm⟩
  ·refine⟨n+p,by lia,?_⟩;rw[lS,hy,hs y,e1,e2];have:y+2*(2*p)*a*y+p+2*p*c=(y+p)+(2*a*y+c)*(2*p):=by grind
   rw[this,Nat.add_mul_mod_self_right];exact hm
end L2
namespace L2
open PySem PySem.SetTable
def pS(mask:Nat) (h:Int):Probe:={ j:=bits h % (mask+1),more:=runEnd mask (bits h % (mask+1))-bits h % (mask+1),i:=bits h % (mask+1),perturb:=bits h,dummy:=none }
def pA(mask:Nat) (p:Probe):Probe :=
 if p.more > 0 then { p with j:=p.j+1,more:=p.more-1 }
 else { p with j:=(leap mask p.i p.perturb).1,more:=runEnd mask (leap mask p.i p.perturb).1-(leap mask p.i p.perturb).1,i:=(leap mask p.i p.perturb).1,perturb:=(leap mask p.i p.perturb).2 }
def pth(mask:Nat) (h:Int):Nat->Probe
 |0=>pS mask h
 |n+1=>pA mask (pth mask h n)
def rs(mask:Nat) (h:Int):Nat->Nat×Nat
 |0=>(bits h % (mask+1),bits h)
 |n+1=>leap mask (rs mask h n).1 (rs mask h n).2
def atR(mask:Nat) (r:Nat×Nat):Probe:={ j:=r.1,more:=runEnd mask r.1-r.1,i:=r.1,perturb:=r.2,dummy:=none }
variable{mask:Nat}{h:Int}
theorem DB(i:Nat):runEnd mask i-i<=9:=by unfold runEnd;split<;>lia
theorem oP{n:Nat}{r:Nat×Nat}(e:pth mask h n=atR mask r):∀q,q<=runEnd mask r.1-r.1->pth mask h (n+q)={ atR mask r with j:=r.1+q,more:=runEnd mask r.1-r.1-q }
 |0,_=>by rw[Nat.add_zero,e];rfl
 |q+1,hq=>by
  rw[<-Nat.add_assoc];show pA mask (pth mask h (n+q))=_;rw[oP e q (by lia)];unfold pA;rw[if_pos (show runEnd mask r.1-r.1-q > 0 by lia)];rfl
theorem xO:∀m,∃n,n<=10*m/\pth mask h n=atR mask (rs mask h m)
 |0=>⟨0,by lia,rfl⟩
 |m+1=>by
  obtain⟨n,hn,e⟩:=xO m;have hl:=DB (mask:=mask) (rs mask h m).1;refine⟨n+(runEnd mask (rs mask h m).1-(rs mask h m).1)+1,by lia,?_⟩;show pA mask (pth mask h (n+_))=_;rw[oP e _ (Nat.le_refl _)];unfold pA;rw[if_neg (by simp)];rfl
theorem Aw:bits h<2 ^ 64:=by
 unfold bits;have:=Int.emod_lt_of_pos h (show(0:Int)<2 ^ 64 by decide);have:=Int.emod_nonneg h (show(2 ^ 64:Int)≠0 by decide)
 lia
theorem xt:∀m,(rs mask h m).2=bits h / 32 ^ m
 |0=>by simp[rs]
 |m+1=>by
  show(rs mask h m).2 / 32=_;rw[xt m,Nat.div_div_eq_div_mul,Nat.pow_succ]
theorem Gb(m:Nat):(rs mask h (13+m)).2=0:=by
 rw[xt];refine Nat.div_eq_of_lt (Nat.lt_of_lt_of_le Aw ?_);rw[Nat.pow_add];exact Nat.le_trans (by decide) (Nat.le_mul_of_pos_right (32 ^ 13) (Nat.pow_pos (by decide)))
theorem AX:∀m,(rs mask h (13+m)).1 % (mask+1)=kB m (rs mask h 13).1 % (mask+1)
 |0=>rfl
 |m+1=>by
  show(leap mask (rs mask h (13+m)).1 (rs mask h (13+m)).2).1 % _=_;unfold leap;rw[Gb,lS m 1];show((rs mask h (13+m)).1*5+1+0 / 32) % (mask+1) % (mask+1)=(5*kB m (rs mask h 13).1+1) % (mask+1);rw[Nat.mod_mod,Nat.zero_div,Nat.add_zero,Nat.add_mod,Nat.mul_mod,AX m,<-Nat.mul_mod,<-Nat.add_mod,Nat.mul_comm]
theorem AQ(m:Nat):(rs mask h m).1<mask+1:=by
 cases m with
 |zero=>exact Nat.mod_lt _ (Nat.succ_pos _)
 |succ m=>exact Nat.mod_lt _ (Nat.succ_pos _)
theorem uv{k:Nat}(hk:mask+1=2 ^ k) {j:Nat}(hj:j<=mask):∃m n,m<=mask+13/\n<=10*m/\(rs mask h m).1=j/\(pth mask h n).j=j:=by
 obtain⟨m,hm,e⟩:=wc k (rs mask h 13).1 j (by lia);rw[<-hk]at hm e;have e2:=AX (mask:=mask) (h:=h) m;rw[e,Nat.mod_eq_of_lt (AQ _)]at e2;obtain⟨n,hn,en⟩:=xO (mask:=mask) (h:=h) (13+m);exact⟨13+m,n,by lia,hn,e2,by rw[en];exact e2⟩
theorem sP(n:Nat):(pth mask h n).j<=mask:=by
 have key:∀n,(pth mask h n).j+(pth mask h n).more<=mask/\(pth mask h n).dummy=none:=fun n=>by
  have st:∀i,i<mask+1->i+(runEnd mask i-i)<=mask:=fun i hi=>by unfold runEnd;split<;>lia
  induction n with
  |zero=>exact⟨st _ (Nat.mod_lt _ (Nat.succ_pos _)),rfl⟩
  |succ n ih =>
   show(pA mask (pth mask h n)).j+(pA mask (pth mask h n)).more<=mask/\(pA mask (pth mask h n)).dummy=none;unfold pA
   split
   ·exact⟨by have:=ih.1;dsimp only;lia,ih.2⟩
   ·exact⟨st _ (Nat.mod_lt _ (Nat.succ_pos _)),ih.2⟩
 have:=(key n).1
 lia
theorem CF(n:Nat):(pth mask h n).dummy=none:=by
 induction n with
 |zero=>rfl
 |succ n ih =>
  show(pA mask (pth mask h n)).dummy=none;unfold pA
  split<;>exact ih
theorem Fw{P:Nat->Prop}{n:Nat}(h:P n):∃m,m<=n/\P m/\∀l,l<m->¬ P l:=by
 induction n using Nat.strongRecOn with
 |_ n ih =>
  by_cases c:∃l,l<n/\P l
  ·obtain⟨l,hl,pl⟩:=c;obtain⟨m,hm,a,b⟩:=ih l hl pl;exact⟨m,by lia,a,b⟩
  ·exact⟨n,Nat.le_refl _,h,fun l hl pl=>c ⟨l,hl,pl⟩⟩
def Ri(xs:Array Nat):Prop:=∀i j,i<j->j<xs.size->xs.getD i 0<xs.getD j 0
theorem xN{xs:Array Nat}{i:Nat}(h:i<xs.size) (a b:Nat):xs.getD i a=xs.getD i b:=by simp[Array.getD,h]
theorem lM{xs:Array Nat}(up:Ri xs) (j:Nat):∀f lo hi,hi-lo<=f->lo<=hi->hi<=xs.size->(∀i,i<lo->xs.getD i 0<j)->(∀i,hi<=i->i<xs.size->j<=xs.getD i 0) ->
  below.go xs j f lo hi<=xs.size/\(∀i,i<below.go xs j f lo hi->xs.getD i 0<j)/\∀i,below.go xs j f lo hi<=i->i<xs.size->j<=xs.getD i 0
 |0,lo,hi,h1,h2,h3,a,b=>by
  obtain rfl:lo=hi:=by lia
  exact⟨h3,a,b⟩
 |f+1,lo,hi,h1,h2,h3,a,b=>by
  unfold below.go
  by_cases c:lo<hi
  ·rw[if_pos c];dsimp only
   by_cases d:xs.getD ((lo+hi) / 2) j<j
   ·rw[if_pos d];rw[xN (by lia) j 0]at d;refine lM up j f _ _ (by lia) (by lia) h3 (fun i hi'=>?_) b;rcases Nat.lt_or_ge i ((lo+hi) / 2)with q|q
    ·exact Nat.lt_trans (up i _ q (by lia)) d
    ·obtain rfl:i=(lo+hi) / 2:=by lia
     exact d
   ·rw[if_neg d];rw[xN (by lia) j 0]at d;refine lM up j f _ _ (by lia) (by lia) (by lia) a (fun i h4 h5=>?_);rcases Nat.lt_or_ge ((lo+hi) / 2) i with q|q
    ·have:=up _ i q h5;lia
    ·obtain rfl:i=(lo+hi) / 2:=by lia
     lia
  ·rw[if_neg c];obtain rfl:lo=hi:=by lia
   exact⟨h3,a,b⟩
theorem mv{xs:Array Nat}(up:Ri xs) (j:Nat):below xs j<=xs.size/\(∀i,i<below xs j->xs.getD i 0<j)/\∀i,below xs j<=i->i<xs.size->j<=xs.getD i 0 :=
 lM up j _ _ _ (by lia) (Nat.zero_le _) (Nat.le_refl _) (fun i h=>by lia) (fun i h1 h2=>by lia)
def Occ(xs:Array Nat) (j:Nat):Prop:=∃i,i<xs.size/\xs.getD i 0=j
theorem nF{t:SetTable}(up:Ri t.place) {i j:Nat}(hi:i<t.place.size) (e:t.place.getD i 0=j):t.slot j=.live i:=by
 obtain⟨h1,h2,h3⟩:=mv up j;have:below t.place j=i:=by
  rcases Nat.lt_trichotomy (below t.place j) i with q|q|q
  ·have a:=h3 _ (Nat.le_refl _) (by lia);have b:=up _ i q hi
   lia
  ·exact q
  ·have:=h2 i q;lia
 unfold slot;rw[this];have g:t.place[i]?=some j:=by rw[Array.getElem?_eq_getElem hi,<-e];simp[Array.getD,hi]
 simp[g]
theorem rN{t:SetTable}(dm:t.dummies=#[]) {j:Nat}(n:¬ Occ t.place j):t.slot j=.empty:=by
 unfold slot;have g:(t.place[below t.place j]?==some j)=false:=by
  cases q:t.place[below t.place j]? with
  |none=>rfl
  |some x =>
   obtain⟨hi,e⟩:=Array.getElem?_eq_some_iff.mp q;simp only[beq_eq_false_iff_ne,ne_eq,Option.some.injEq];intro z;exact n ⟨_,hi,by simp[Array.getD,hi,e,z]⟩
 rw[if_neg (by rw[g];decide),dm];rfl
theorem uQ{xs:Array Nat}(up:Ri xs) {mask:Nat}(few:xs.size<=mask):∃j,j<=mask/\¬ Occ xs j:=by
 refine Classical.byContradiction fun c=>?_;have all:∀j,j<=mask->Occ xs j:=fun j hj=>Classical.byContradiction fun d=>c ⟨j,hj,d⟩;have key:∀j,j<=mask+1->j<=xs.size/\∀i,i<j->xs.getD i 0=i:=fun j=>by
  induction j with
  |zero=>exact fun _=>⟨Nat.zero_le _,fun i h=>by lia⟩
  |succ j ih =>
   intro hj;obtain⟨h1,h2⟩:=ih (by lia);obtain⟨i,hi,e⟩:=all j (by lia);have a:¬ i<j:=fun q=>by have:=h2 i q;lia
   have b:i=j:=by
    rcases Nat.lt_or_ge j i with q|q
    ·have b1:=up j i q hi;rw[e]at b1;cases j with
     |zero=>lia
     |succ j =>
      have b2:=up j (j+1) (by lia) (by lia);have b3:=h2 j (by lia)
      lia
    ·lia
   subst b;refine⟨hi,fun l hl=>?_⟩;rcases Nat.lt_or_ge l i with q|q
   ·exact h2 l q
   ·obtain rfl:l=i:=by lia
    exact e
 have:=(key (mask+1) (Nat.le_refl _)).1
 lia
structure TB(t:SetTable) (hs:List Int):Prop where
 sz:t.place.size=hs.length
 up:Ri t.place
 le:∀i,i<t.place.size->t.place.getD i 0<=t.mask
 dm:t.dummies=#[]
 pw:∃k,3<=k/\t.mask+1=2 ^ k
 few:t.place.size<=t.mask
 pr:∀i h,hs[i]?=some h->∃n,(pth t.mask h n).j=t.place.getD i 0/\∀m,m<n->Occ t.place (pth t.mask h m).j
theorem TB.free{t:SetTable}{hs:List Int}(T:TB t hs) (h:Int):∃n,n<=10*(t.mask+13)/\¬ Occ t.place (pth t.mask h n).j/\∀m,m<n->Occ t.place (pth t.mask h m).j:=by
 obtain⟨j,hj,nj⟩:=uQ T.up T.few;obtain⟨k,_,hk⟩:=T.pw;obtain⟨m,n,hm,hn,_,e⟩:=uv (mask:=t.mask) (h:=h) hk hj;obtain⟨n0,h1,h2,h3⟩:=Fw (P:=fun n=>¬ Occ t.place (pth t.mask h n).j) (n:=n) (by rw[e];exact nj);exact⟨n0,by lia,h2,fun m hm=>Classical.byContradiction fun d=>h3 m hm d⟩
theorem qA{t:SetTable}{hs:List Int}(T:TB t hs) {h:Int}{n0:Nat}(f0:¬ Occ t.place (pth t.mask h n0).j) (f1:∀m,m<n0->Occ t.place (pth t.mask h m).j) {ha:Nat->Int}:∀F n,n<=n0->n0-n<F ->
    ∃ m,n ≤ m ∧ m ≤ n0 ∧ (∀ l,n ≤ l → l < m → ∃ i,i < t.place.size ∧ t.place.getD i 0 = (pth t.mask h l).j ∧ ha i ≠ h) ∧
      ((m = n0 ∧ probe.go t ha h F (pth t.mask h n) = some (.empty (pth t.mask h n0).j none)) ∨
       (m<n0/\∃i,i<t.place.size/\t.place.getD i 0=(pth t.mask h m).j/\ha i=h/\probe.go t ha h F (pth t.mask h n)=some (.candidate (pth t.mask h m).j i (pth t.mask h (m+1)))))
  |0,n,h1,h2=>by lia
  | F + 1,n,h1,h2 => by
    rcases Nat.lt_or_ge n n0 with q|q
    · obtain ⟨i,hi,e⟩:=f1 n q;have es:=nF T.up hi e
      by_cases c:ha i=h
      · refine ⟨n,Nat.le_refl _,h1,fun l a b => by lia,.inr ⟨q,i,hi,e,c,?_⟩⟩;unfold probe.go;rw[es];dsimp only;rw[if_pos (by simpa using c)];rfl
      · obtain ⟨m,m1,m2,m3,m4⟩:=qA T f0 f1 (ha:=ha) F (n + 1) (by lia) (by lia);have eq:probe.go t ha h (F+1) (pth t.mask h n)=probe.go t ha h F (pth t.mask h (n+1)):=by
          rw[probe.go,es];dsimp only;rw[if_neg (by simpa using c)];rfl
        rw[eq];refine⟨m,by lia,m2,fun l a b=>?_,m4⟩;rcases Nat.lt_or_ge n l with d|d
        · exact m3 l d b
        · obtain rfl:l = n:=by lia
          exact⟨i,hi,e,c⟩
    · obtain rfl:n = n0:=by lia
      refine⟨n,Nat.le_refl _,Nat.le_refl _,fun l a b=>by lia,.inl ⟨rfl,?_⟩⟩;unfold probe.go;rw[rN T.dm f0];dsimp only;rw[CF]
end L2
namespace L2
open PySem PySem.Spec PyProof.Rows
theorem aE:Slot "set_iterator" "__next__" "set_iterator.__next__" :=
 .of (owner:="set_iterator") (n:="__next__") (by rw[typeLookup_type,builtinLookup_eq_fast];kernel_rfl) (by decide +kernel) (by decide +kernel) (by decide +kernel)
  (by first|exact .inl (by decide +kernel)|exact .inr (by decide +kernel)) (by rw[isSubtype_type];kernel_rfl)
theorem cF:entryFor table "set_iterator.__next__"=some Builtin.«set_iterator.__next__»:=entryFor_of_tree (by kernel_rfl)
theorem cQ(a:Value):argsOk "set_iterator.__next__" ⟨[a],[]⟩:=by unfold argsOk;kernel_rfl
noncomputable abbrev iB(f:Value) (i:Nat) (a:Addr) (n ep:Nat):Obj:={ cls:=.type "set_iterator",data:=.fields #[f,rawInt i,.ref a,rawInt n,rawInt ep] }
structure da(w:World) (h:Heap) (a:Addr) (o:Obj) (es:Array (Int×Value)) (ep:Nat) (t:SetTable):Prop where
 get:h.get? a=some o
 ex:o.ExactSet
 data:o.data=.set es ep t
 room:es.size<scanBound
 fit:t.fits es.size=true
 led:t.led=!byT w
 go:(es.size≠0->t.plain=false)∨Ri t.place
theorem oC.b{prog:Program}{w:World}{h:Heap}{a:Addr}{o:Obj}{es:Array (Int×Value)}{ep:Nat}{t:SetTable}(p:oC prog w h a o es ep t):da w h a o es ep t:=⟨p.get,p.ex,p.data,p.room,p.fit,p.led,.inl p.pl⟩
theorem da.kept{w:World}{h h':Heap}{a:Addr}{o:Obj}{es:Array (Int×Value)}{ep:Nat}{t:SetTable}(p:da w h a o es ep t) (k:h'.get? a=some o):da w h' a o es ep t:=⟨k,p.ex,p.data,p.room,p.fit,p.led,p.go⟩
theorem da.typeIs{w:World}{s:Shared}{a:Addr}{o:Obj}{es:Array (Int×Value)}{ep:Nat}{t:SetTable}(p:da w s.heap a o es ep t):s.TypeIs (.ref a) "set":=⟨o,p.get,p.ex.1⟩
section
variable{prog:Program}{w:World}{A:Around}{E:Value->Shared->Prop}{s:Shared}
theorem da.state{a:Addr}{o:Obj}{es:Array (Int×Value)}{ep:Nat}{t:SetTable}{Q:Array (Int×Value)×Nat×SetTable->Shared->Prop}(p:da w s.heap a o es ep t) (h:Q (es,ep,t) s):wpAny (model prog w) A (setState a) Q E s:=wpAny_setState_of p.get p.data p.fit h
theorem xg{a:Addr}{o:Obj}{es:Array (Int×Value)}{ep:Nat}{t:SetTable}{Q:Nat->Shared->Prop}(p:da w s.heap a o es ep t) (h:Q ep s):wpAny (model prog w) A (setEpoch a) Q E s :=
 wpAny_setEpoch_of p.get p.data p.fit h
theorem A1{I a:Addr}{k i n:Nat}{o:Obj}{es:Array (Int×Value)}{ep:Nat}{t:SetTable}{x:Value}{nx:Nat}{Q:Option Value->Shared->Prop}(hI:s.heap.get? I=some (iB (rawInt k) i a n ep)) (p:da w s.heap a o es ep t) (hn:es.size=n)
  (hx:∀(Q':Option (Value×Nat)->Shared->Prop) E',Q' (some (x,nx)) s->wpAny (model prog w) A.in1 (setNext a k i ep) Q' E' s)
  (h:∀h',h'.get? I=some (iB (rawInt nx) (i+1) a n ep)->Heap.SameBut I s.heap h'->Q (some x) { s with heap:=h' }):wpAny (model prog w) A (pyNext (.ref I)) Q E s:=by
 have hT:s.TypeIs (.ref I) "set_iterator":=⟨_,hI,rfl⟩;unfold pyNext;refine wpAny_bind (wpAny_attempt (wpAny_callSpecial?_slot (name:=Str.ofString "__next__") hT aE
  (wpAny_call_entry aE hT cF ?_ (cQ _))))
 unfold Builtin.«set_iterator.__next__»;refine wpAny_bind (m:=slotArgs "__next__" 0 ⟨[.ref I],[]⟩) (wpAny_pure ?_);refine wpAny_bind (wpAny_fieldsOf hI rfl ?_);dsimp only;simp only[rawInt,Int.toNat_natCast];refine wpAny_bind (wpAny_setEntries_of p.get p.data p.fit ?_);rw[if_neg (by rw[hn];simp)];refine wpAny_bind (hx _ _ ?_);dsimp only;refine wpAny_bind (wpAny_setField hI rfl (by simp) ?_);have h1:(s.heap.update I (Obj.mapFields (·.setIfInBounds 0 (rawInt nx)))).get? I=some (iB (rawInt nx) i a n ep):=Heap.get?_update_self _ hI rfl;refine wpAny_bind (wpAny_setField h1 rfl (by simp) ?_);have h2:((s.heap.update I (Obj.mapFields (·.setIfInBounds 0 (rawInt nx)))).update I (Obj.mapFields (·.setIfInBounds 1 (rawInt ((i:Int)+1))))).get? I=some (iB (rawInt nx) (i+1) a n ep):=Heap.get?_update_self _ h1 rfl;exact wpAny_pure ⟨_,rfl,wpAny_pure (h _ h2 ((Heap.SameBut.update ..).trans (Heap.SameBut.update ..)))⟩
theorem DO{I a:Addr}{k i n:Nat}{o:Obj}{es:Array (Int×Value)}{ep:Nat}{t:SetTable}{Q:Option Value->Shared->Prop}(hh:A.handled=none) (hI:s.heap.get? I=some (iB (rawInt k) i a n ep)) (p:da w s.heap a o es ep t) (hn:es.size=n)
  (hx:∀(Q':Option (Value×Nat)->Shared->Prop) E',Q' none s->wpAny (model prog w) A.in1 (setNext a k i ep) Q' E' s)
  (h:∀h',Heap.ExtBut I s.heap h'->Q none { s with heap:=h' }):wpAny (model prog w) A (pyNext (.ref I)) Q E s:=by
 have hT:s.TypeIs (.ref I) "set_iterator":=⟨_,hI,rfl⟩;unfold pyNext;refine wpAny_bind (wpAny_attempt (wpAny_callSpecial?_slot (name:=Str.ofString "__next__") hT aE
  (wpAny_call_entry aE hT cF ?_ (cQ _))))
 unfold Builtin.«set_iterator.__next__»;refine wpAny_bind (m:=slotArgs "__next__" 0 ⟨[.ref I],[]⟩) (wpAny_pure ?_);refine wpAny_bind (wpAny_fieldsOf hI rfl ?_);dsimp only;simp only[rawInt,Int.toNat_natCast];refine wpAny_bind (wpAny_setEntries_of p.get p.data p.fit ?_);rw[if_neg (by rw[hn];simp)];refine wpAny_bind (hx _ _ ?_);dsimp only;refine wpAny_bind (wpAny_setField hI rfl (by simp) ?_);refine wpAny_bind ?_;simp only[newExc,newTuple];refine wpAny_bind (wpAny_newObj_type ?_ (by size_fits));refine wpAny_bind (m:=firstArgMember _ _) (wpAny_of_eq (a:=Value.none) (by first|rfl|(simp only[firstArgMember];rfl)) ?_);refine wpAny_newObj_type ?_ (by size_fits);simp only[raiseNew];refine wpAny_bind (wpAny_handled ?_);rw[show A.in1.handled=none from hh];refine wpAny_bind (wpAny_pure (wpAny_throw ?_));refine wpAny_bind (wpAny_isInstance (T:="StopIteration") (b:=true) ⟨_,Heap.get?_push_size _ rfl,rfl⟩ isSubtype_stop ?_);exact wpAny_pure (h _ (((Heap.SameBut.update ..).extBut.push _).push _))
end
section
variable{prog:Program}{w:World}{A:Around}{E:Value->Shared->Prop}{s:Shared}
noncomputable abbrev tpO(ps:List Nat):Obj:={ cls:=.type "tuple",data:=.seq (ps.map fun(i:Nat)=>rawInt i).toArray }
theorem Em{tp:Addr}{ps:List Nat}{Q:Option (Array Value)->Shared->Prop}(hp:s.heap.get? tp=some (tpO ps)) (h:Q (some (ps.map fun(i:Nat)=>rawInt i).toArray) s):wpAny (model prog w) A (seqItems? (.ref tp)) Q E s:=by
 unfold seqItems?;exact wpAny_bind (wpAny_load hp (wpAny_pure h))
theorem Ff{I a tp:Addr}{i n pl:Nat}{ps:List Nat}{o:Obj}{es:Array (Int×Value)}{ep:Nat}{t:SetTable}{e:Int×Value}{Q:Option Value->Shared->Prop}(hI:s.heap.get? I=some (iB (.ref tp) i a n ep)) (hp:s.heap.get? tp=some (tpO ps)) (p:da w s.heap a o es ep t) (hn:es.size=n)
  (hx:ps[i]?=some pl) (he:es[pl]?=some e)
  (h:∀h',h'.get? I=some (iB (.ref tp) (i+1) a n ep)->Heap.SameBut I s.heap h'->Q (some e.2) { s with heap:=h' }):wpAny (model prog w) A (pyNext (.ref I)) Q E s:=by
 have hT:s.TypeIs (.ref I) "set_iterator":=⟨_,hI,rfl⟩;unfold pyNext;refine wpAny_bind (wpAny_attempt (wpAny_callSpecial?_slot (name:=Str.ofString "__next__") hT aE
  (wpAny_call_entry aE hT cF ?_ (cQ _))))
 unfold Builtin.«set_iterator.__next__»;refine wpAny_bind (m:=slotArgs "__next__" 0 ⟨[.ref I],[]⟩) (wpAny_pure ?_);refine wpAny_bind (wpAny_fieldsOf hI rfl ?_);dsimp only;simp only[rawInt,Int.toNat_natCast];refine wpAny_bind (wpAny_setEntries_of p.get p.data p.fit ?_);rw[if_neg (by rw[hn];simp)];refine wpAny_bind (Em hp ?_);have hx':(ps.map fun(i:Nat)=>rawInt i).toArray[i]?=some (.int pl 0):=by simp[hx,rawInt]
 dsimp only;rw[hx'];dsimp only;refine wpAny_bind ?_;unfold setNextDrawn;refine wpAny_bind (p.state ?_);dsimp only;rw[if_neg (by simp),Int.toNat_natCast,he];refine wpAny_pure ?_;refine wpAny_bind (wpAny_setField hI rfl (by simp) ?_);have h2:(s.heap.update I (Obj.mapFields (·.setIfInBounds 1 (rawInt ((i:Int)+1))))).get? I=some (iB (.ref tp) (i+1) a n ep):=Heap.get?_update_self _ hI rfl;exact wpAny_pure ⟨_,rfl,wpAny_pure (h _ h2 (Heap.SameBut.update ..))⟩
theorem GI{I a tp:Addr}{i n:Nat}{ps:List Nat}{o:Obj}{es:Array (Int×Value)}{ep:Nat}{t:SetTable}{Q:Option Value->Shared->Prop}(hh:A.handled=none) (hI:s.heap.get? I=some (iB (.ref tp) i a n ep)) (hp:s.heap.get? tp=some (tpO ps)) (p:da w s.heap a o es ep t) (hn:es.size=n)
  (hx:ps[i]?=none)
  (h:∀h',Heap.ExtBut I s.heap h'->Q none { s with heap:=h' }):wpAny (model prog w) A (pyNext (.ref I)) Q E s:=by
 have hT:s.TypeIs (.ref I) "set_iterator":=⟨_,hI,rfl⟩;unfold pyNext;refine wpAny_bind (wpAny_attempt (wpAny_callSpecial?_slot (name:=Str.ofString "__next__") hT aE
  (wpAny_call_entry aE hT cF ?_ (cQ _))))
 unfold Builtin.«set_iterator.__next__»;refine wpAny_bind (m:=slotArgs "__next__" 0 ⟨[.ref I],[]⟩) (wpAny_pure ?_);refine wpAny_bind (wpAny_fieldsOf hI rfl ?_);dsimp only;simp only[rawInt,Int.toNat_natCast];refine wpAny_bind (wpAny_setEntries_of p.get p.data p.fit ?_);rw[if_neg (by rw[hn];simp)];refine wpAny_bind (Em hp ?_);have hx':(ps.map fun(i:Nat)=>rawInt i).toArray[i]?=none:=by simp[hx]
 dsimp only;rw[hx'];dsimp only;refine wpAny_bind (wpAny_setField hI rfl (by simp) ?_);have h1:(s.heap.update I (Obj.mapFields (·.setIfInBounds 0 (rawInt 0)))).get? I=some (iB (rawInt 0) i a n ep):=Heap.get?_update_self _ hI rfl;refine wpAny_bind (wpAny_setField h1 rfl (by simp) ?_);refine wpAny_bind ?_;simp only[newExc,newTuple];refine wpAny_bind (wpAny_newObj_type ?_ (by size_fits));refine wpAny_bind (m:=firstArgMember _ _) (wpAny_of_eq (a:=Value.none) (by first|rfl|(simp only[firstArgMember];rfl)) ?_);refine wpAny_newObj_type ?_ (by size_fits);simp only[raiseNew];refine wpAny_bind (wpAny_handled ?_);rw[show A.in1.handled=none from hh];refine wpAny_bind (wpAny_pure (wpAny_throw ?_));refine wpAny_bind (wpAny_isInstance (T:="StopIteration") (b:=true) ⟨_,Heap.get?_push_size _ rfl,rfl⟩ isSubtype_stop ?_);exact wpAny_pure (h _ (((((Heap.SameBut.update ..).trans (Heap.SameBut.update ..)).extBut).push _).push _))
theorem vL{a:Addr}{k i:Nat}{o:Obj}{es:Array (Int×Value)}{ep:Nat}{t:SetTable}{Q:Option (Value×Nat)->Shared->Prop}(p:da w s.heap a o es ep t) (hb:byT w=true)
  (h:Q (((pickOrder (w.params.setOrder a ep) es)[i]?).map fun e=>(e.2,k)) s):wpAny (model prog w) A (setNext a k i ep) Q E s:=by
 unfold setNext;refine wpAny_bind (p.state ?_);dsimp only;refine wpAny_bind (kW ?_);rw[hb];simp only[if_true];rw[if_neg (by simp)];refine wpAny_bind ?_;unfold setWalk;refine wpAny_bind (p.state ?_);dsimp only;refine wpAny_bind (kW ?_);rw[hb];simp only[if_true];exact wpAny_bind (wpAny_askSetting (wpAny_pure (wpAny_pure h)))
theorem wG{a:Addr}{k i:Nat}{o:Obj}{es:Array (Int×Value)}{ep:Nat}{t:SetTable}{Q:Option (Value×Nat)->Shared->Prop}(p:da w s.heap a o es ep t) (hb:byT w=false) (h2:(!t.plain&&decide (es.size > 1))=false)
  (h:Q (match es[SetTable.below t.place k]?,t.place[SetTable.below t.place k]? with|some (_,x),some j=>some (x,j+1)|_,_=>none) s):wpAny (model prog w) A (setNext a k i ep) Q E s:=by
 unfold setNext;refine wpAny_bind (p.state ?_);dsimp only;refine wpAny_bind (kW ?_);rw[hb];simp only[Bool.false_eq_true,if_false];show wpAny _ _ (if(!t.plain&&decide (es.size > 1))=true then _ else _) _ _ _;rw[if_neg (by rw[h2];simp)];refine wpAny_bind ?_;show wpAny _ _ (if(!t.led&&!es.isEmpty)=true then _ else _) _ _ _;rw[if_neg (by rw[p.led,hb];simp)];exact wpAny_pure (wpAny_pure h)
end
section
variable{prog:Program}{w:World}{A:Around}{E:Value->Shared->Prop}{s:Shared}
theorem zt{src:Source}{n:Nat}{Q:Nat->Shared->Prop}(hn:n≠0) (h:∀i d,i<n->Q i { s with drawn:=d }):wpAny (model prog w) A (choose src n) Q E s :=
 fun Γ p hΓ=>⟨hn,h _ _ (Nat.mod_lt _ (Nat.pos_of_ne_zero hn))⟩
theorem Ej{α:Type}(n:Nat):∀(xs:List α) (s:Shared) (Q:List α->Shared->Prop),xs.length=n->(∀ys d,ys.Perm xs->Q ys { s with drawn:=d })->wpAny (model prog w) A (drawOrder n xs) Q E s:=by
 induction n with
 |zero =>
  intro xs s Q hn h;have:xs=[]:=List.length_eq_zero_iff.mp hn;subst this;have e:s={ s with drawn:=s.drawn }:=by cases s;rfl
  rw[e];exact wpAny_pure (h [] s.drawn (.refl _))
 |succ n ih =>
  intro xs s Q hn h;cases xs with
  |nil=>simp at hn
  |cons x xs =>
   unfold drawOrder;refine wpAny_bind (zt (by simp) fun i d hi=>?_);rw[List.getElem?_eq_getElem hi];dsimp only;refine wpAny_bind (ih ((x::xs).eraseIdx i) _ _ (by rw[List.length_eraseIdx_of_lt hi];simp at hn ⊢;lia) fun ys d' hp=>?_);refine wpAny_pure (h _ d' ?_);have z:(x::xs)=(x::xs).take i++(x::xs)[i]::(x::xs).drop (i+1):=by rw[List.getElem_cons_drop];simp
   have e:(x::xs).eraseIdx i=(x::xs).take i++(x::xs).drop (i+1):=List.eraseIdx_eq_take_drop_succ _ _;rw[e]at hp;refine(hp.cons _).trans ?_;generalize (x::xs)[i]=u at z ⊢
   conv=>rhs;rw[z]
   exact List.perm_middle.symm
theorem g8:Slot "set_iterator" "__iter__" "set_iterator.__iter__" :=
 .of (owner:="set_iterator") (n:="__iter__") (by rw[typeLookup_type,builtinLookup_eq_fast];kernel_rfl) (by decide +kernel) (by decide +kernel) (by decide +kernel)
  (by first|exact .inl (by decide +kernel)|exact .inr (by decide +kernel)) (by rw[isSubtype_type];kernel_rfl)
theorem l9:entryFor table "set_iterator.__iter__"=some Builtin.«dict_keyiterator.__iter__» :=
 entryFor_alias (id':="dict_keyiterator.__iter__") (by kernel_rfl) rfl (by decide +kernel) (by kernel_rfl)
theorem mU(a:Value):argsOk "set_iterator.__iter__" ⟨[a],[]⟩:=by unfold argsOk;kernel_rfl
theorem xH{I a:Addr}{f:Value}{i n ep:Nat}{Q:Value->Shared->Prop}(hI:s.heap.get? I=some (iB f i a n ep)) (h:Q (.ref I) s):wpAny (model prog w) A (pyIter (.ref I)) Q E s:=by
 have hT:s.TypeIs (.ref I) "set_iterator":=⟨_,hI,rfl⟩;refine wpAny_pyIter_slot hT g8 (wpAny_call_entry g8 hT l9 ?_ (mU _));show wpAny _ _ (ret (.ref I)) _ _ s;exact wpAny_pure ⟨_,rfl,"set_iterator",_,hT,aE.lookup,h⟩
end
def kI(xs:Array Nat) (i:Nat):Nat:=if i=0 then 0 else xs.getD (i-1) 0+1
theorem pW{xs:Array Nat}(up:Ri xs) {i:Nat}(hi:i<=xs.size):SetTable.below xs (kI xs i)=i:=by
 obtain⟨h1,h2,h3⟩:=mv up (kI xs i);rcases Nat.lt_trichotomy (SetTable.below xs (kI xs i)) i with q|q|q
 ·have a:=h3 (i-1) (by lia) (by lia);unfold kI at a;rw[if_neg (by lia)]at a;lia
 ·exact q
 ·have a:=h2 i q;unfold kI at a
  by_cases c:i=0
  ·rw[if_pos c]at a;lia
  ·rw[if_neg c]at a;have b:=up (i-1) i (by lia) (by lia)
   lia
section
variable{prog:Program}{w:World}{A:Around}{E:Value->Shared->Prop}{s:Shared}
abbrev PSe(es':Array (Int×Value)):Nat->Value->Prop:=fun i v=>∃e,es'[i]?=some e/\v=e.2
theorem B5(hh:A.handled=none) {I a:Addr}(hne:a≠I) {o:Obj}{es:Array (Int×Value)}{ep:Nat}{t:SetTable}(hb:byT w=true) :
  Walks prog w A I [I,a] [I] es.size (PSe (pickOrder (w.params.setOrder a ep) es)) (fun i h=>(∃k:Nat,h.get? I=some (iB (rawInt k) i a es.size ep))/\da w h a o es ep t) where
 sub:=fun b hb=>by simp at hb;simp[hb]
 frame:=fun _ _ _ st hk=>⟨let⟨k,g⟩:=st.1;⟨k,hk I (by simp) _ g⟩,st.2.kept (hk a (by simp) _ st.2.get)⟩
 item:=fun i s Q E hi st hQ=>by
  obtain⟨⟨k,g⟩,p⟩:=st;have sz:(pickOrder (w.params.setOrder a ep) es).size=es.size:=by
   have:=(jN (w.params.setOrder a ep) es).length_eq;simpa using this
  have hx:(pickOrder (w.params.setOrder a ep) es)[i]?=some ((pickOrder (w.params.setOrder a ep) es)[i]'(by lia)):=Array.getElem?_eq_getElem _;refine A1 g p rfl (fun Q' E' q=>vL p hb (by rw[hx];exact q)) fun h' g' sb=>?_;exact hQ _ h' s.toks ⟨_,hx,rfl⟩ ⟨⟨_,g'⟩,p.kept (by rw[sb.2 a hne];exact p.get)⟩ fun b o hb e=>by rw[sb.2 b (fun h=>hb (by simp[h]))];exact e
 done:=fun s Q E st hQ=>by
  obtain⟨⟨k,g⟩,p⟩:=st;have sz:(pickOrder (w.params.setOrder a ep) es).size=es.size:=by
   have:=(jN (w.params.setOrder a ep) es).length_eq;simpa using this
  have hx:(pickOrder (w.params.setOrder a ep) es)[es.size]?=none:=Array.getElem?_eq_none (by lia);exact DO hh g p rfl (fun Q' E' q=>vL p hb (by rw[hx];exact q)) fun h' he'=>hQ h' s.toks fun b o hb e=>he' b o (fun h=>hb (by simp[h])) e
 self:=fun _ _ _ _ st hQ=>let⟨⟨_,g⟩,_⟩:=st;xH g hQ
theorem B7(hh:A.handled=none) {I a:Addr}(hne:a≠I) {o:Obj}{es:Array (Int×Value)}{ep:Nat}{t:SetTable}(hb:byT w=false) (h1:(!t.plain&&decide (es.size > 1))=false) (up:Ri t.place) (hf:t.place.size=es.size) :
  Walks prog w A I [I,a] [I] es.size (PSe es) (fun i h=>i<=es.size/\h.get? I=some (iB (rawInt (kI t.place i)) i a es.size ep)/\da w h a o es ep t) where
 sub:=fun b hb=>by simp at hb;simp[hb]
 frame:=fun _ _ _ st hk=>⟨st.1,hk I (by simp) _ st.2.1,st.2.2.kept (hk a (by simp) _ st.2.2.get)⟩
 item:=fun i s Q E hi st hQ=>by
  obtain⟨_,g,p⟩:=st;have hx:es[i]?=some (es[i]'hi):=Array.getElem?_eq_getElem _;have hp:t.place[i]?=some (t.place.getD i 0):=by rw[Array.getElem?_eq_getElem (by lia)];simp[Array.getD,show i<t.place.size by lia]
  refine A1 (x:=(es[i]'hi).2) (nx:=t.place.getD i 0+1) g p rfl (fun Q' E' q=>wG p hb h1 (by rw[pW up (by lia),hx,hp];exact q)) fun h' g' sb=>?_;refine hQ _ h' s.toks ⟨_,hx,rfl⟩ ⟨hi,?_,p.kept (by rw[sb.2 a hne];exact p.get)⟩ fun b o hb e=>by rw[sb.2 b (fun h=>hb (by simp[h]))];exact e
  rw[g'];rfl
 done:=fun s Q E st hQ=>by
  obtain⟨_,g,p⟩:=st;have e1:es[es.size]?=none:=Array.getElem?_eq_none (Nat.le_refl _);exact DO hh g p rfl (fun Q' E' q=>wG p hb h1 (by rw[pW up (by lia),e1];exact q)) fun h' he'=>hQ h' s.toks fun b o hb e=>he' b o (fun h=>hb (by simp[h])) e
 self:=fun _ _ _ _ st hQ=>xH st.2.1 hQ
theorem C6(hh:A.handled=none) {I a tp:Addr}(hne:a≠I) (hnt:tp≠I) {o:Obj}{es:Array (Int×Value)}{ep:Nat}{t:SetTable}{ps:List Nat}(hp:ps.Perm (List.range es.size)) :
  Walks prog w A I [I,a,tp] [I] es.size (PSe (ps.map fun j=>es.getD j default).toArray) (fun i h=>h.get? I=some (iB (.ref tp) i a es.size ep)/\h.get? tp=some (tpO ps)/\da w h a o es ep t) where
 sub:=fun b hb=>by simp at hb;simp[hb]
 frame:=fun _ _ _ st hk=>⟨hk I (by simp) _ st.1,hk tp (by simp) _ st.2.1,st.2.2.kept (hk a (by simp) _ st.2.2.get)⟩
 item:=fun i s Q E hi st hQ=>by
  obtain⟨g,gt,p⟩:=st;have sz:ps.length=es.size:=by rw[hp.length_eq,List.length_range]
  have hi':i<ps.length:=by lia
  have hx:ps[i]?=some ps[i]:=List.getElem?_eq_getElem hi';have hm:ps[i]<es.size:=List.mem_range.mp (hp.mem_iff.mp (List.getElem_mem hi'));have he:es[ps[i]]?=some es[ps[i]]:=Array.getElem?_eq_getElem hm;refine Ff g gt p rfl hx he fun h' g' sb=>?_;refine hQ _ h' s.toks ⟨es[ps[i]],?_,rfl⟩ ⟨g',by rw[sb.2 tp hnt];exact gt,p.kept (by rw[sb.2 a hne];exact p.get)⟩ fun b o hb e=>by rw[sb.2 b (fun h=>hb (by simp[h]))];exact e
  simp[hx,Array.getD,hm]
 done:=fun s Q E st hQ=>by
  obtain⟨g,gt,p⟩:=st;have sz:ps.length=es.size:=by rw[hp.length_eq,List.length_range]
  exact GI hh g gt p rfl (List.getElem?_eq_none (by lia)) fun h' he'=>hQ h' s.toks fun b o hb e=>he' b o (fun h=>hb (by simp[h])) e
 self:=fun _ _ _ _ st hQ=>xH st.1 hQ
end
theorem lQ:entryFor table "set.__iter__"=some Builtin.«frozenset.__iter__» :=
 entryFor_alias (id':="frozenset.__iter__") (by kernel_rfl) rfl (by decide +kernel) (by kernel_rfl)
section
variable{prog:Program}{w:World}{A:Around}{E:Value->Shared->Prop}{s:Shared}
theorem wz(es:Array (Int×Value)):(List.range es.size).map (fun j=>es.getD j default)=es.toList:=by
 apply List.ext_getElem (by simp);intro i h1 h2;simp at h1;simp[Array.getD,h1]
theorem DN{a:Addr}{o:Obj}{es:Array (Int×Value)}{ep:Nat}{t:SetTable}{Q:Value->Shared->Prop}(hh:A.handled=none) (p:da w s.heap a o es ep t)
  (h:∀ (I:Addr) (h':Heap) d' (es':Array (Int × Value)) (fp:List Addr) (St:Nat → Heap → Prop),es'.toList.Perm es.toList → (∀ b o,s.heap.get? b = some o → h'.get? b = some o) → Walks prog w A I fp [I] es.size (PSe es') St → St 0 h' → s.heap.objs.size ≤ I →
   (∀b∈fp,b=a∨s.heap.objs.size<=b)->Q (.ref I) { s with heap:=h',drawn:=d' }):wpAny (model prog w) A (pyIter (.ref a)) Q E s:=by
 have al:a<s.heap.objs.size:=Heap.lt_size p.get;refine wpAny_pyIter_slot p.typeIs PySem.F.slot_set_iter (wpAny_call_entry PySem.F.slot_set_iter p.typeIs lQ ?_ (PySem.F.args_set_iter_1 _));unfold Builtin.«frozenset.__iter__»;refine wpAny_bind (m:=Builtin.Frozenset.slot0 "__iter__" ⟨[.ref a],[]⟩) (wpAny_pure ?_);unfold Builtin.Frozenset.sizeOf;refine wpAny_bind (wpAny_bind (wpAny_setEntries_of p.get p.data p.fit (wpAny_pure ?_)));refine wpAny_bind ?_;unfold setDrawn;refine wpAny_bind (p.state ?_);dsimp only;refine wpAny_bind (kW (wpAny_pure ?_));show wpAny _ _ (if(!byT w&&(!t.plain&&decide (es.size > 1)))=true then _ else _) _ _ _
 split
 ·rename_i hc;refine wpAny_bind (Ej es.size (List.range es.size) s _ (by simp) fun ps d hp=>?_);have bD:ps.length=es.size:=by rw[hp.length_eq,List.length_range]
  have hsz:=fits_of_scanBound p.room;refine wpAny_bind ?_;simp only[newTuple];refine wpAny_newObj_type ?_ (by show(ps.map _).toArray.size<=sizeLine;simp;lia);have g1:(s.heap.push (tpO ps)).get? s.heap.objs.size=some (tpO ps):=Heap.get?_push_size _ rfl;have p1:da w (s.heap.push (tpO ps)) a o es ep t:=p.kept (Heap.get?_push_of_some _ p.get);refine wpAny_bind (xg (s:={ s with heap:=s.heap.push (tpO ps),drawn:=d }) p1 ?_);refine wpAny_bind ?_;unfold newFields;refine wpAny_newObj_type ?_;refine wpAny_pure ⟨_,rfl,"set_iterator",_,⟨_,Heap.get?_push_size _ rfl,rfl⟩,aE.lookup,?_⟩;refine h _ _ d (ps.map fun j=>es.getD j default).toArray [(s.heap.push (tpO ps)).objs.size,a,s.heap.objs.size] _ ?_ (fun b o e=>Heap.get?_push_of_some _ (Heap.get?_push_of_some _ e))
   (C6 hh (o:=o) (t:=t) (ep:=ep) (ps:=ps) (by rw[Heap.size_push];exact Nat.ne_of_lt (Nat.lt_succ_of_lt al)) (by rw[Heap.size_push];exact Nat.ne_of_lt (Nat.lt_succ_self _)) hp) ⟨Heap.get?_push_size _ rfl,Heap.get?_push_of_some _ g1,p1.kept (Heap.get?_push_of_some _ p1.get)⟩ (by rw[Heap.size_push];lia) fun b hb=>?_
  ·have:=hp.map fun j=>es.getD j default;rw[wz]at this;simpa using this
  ·rw[Heap.size_push]at hb;simp only[List.mem_cons,List.not_mem_nil,or_false]at hb;rcases hb with rfl|rfl|rfl
   ·exact .inr (Nat.le_succ _)
   ·exact .inl rfl
   ·exact .inr (Nat.le_refl _)
 ·rename_i hc;refine wpAny_bind (wpAny_pure ?_);refine wpAny_bind (xg p ?_);refine wpAny_bind ?_;unfold newFields;refine wpAny_newObj_type ?_;refine wpAny_pure ⟨_,rfl,"set_iterator",_,⟨_,Heap.get?_push_size _ rfl,rfl⟩,aE.lookup,?_⟩;have p1:∀oI,da w (s.heap.push oI) a o es ep t:=fun oI=>p.kept (Heap.get?_push_of_some _ p.get);have fpok:∀b∈[s.heap.objs.size,a],b=a∨s.heap.objs.size<=b:=fun b hb=>by
   simp only[List.mem_cons,List.not_mem_nil,or_false]at hb;rcases hb with rfl|rfl
   ·exact .inr (Nat.le_refl _)
   ·exact .inl rfl
  cases hb:byT w with
  |true =>
   exact h _ _ s.drawn _ [s.heap.objs.size,a] _ (jN (w.params.setOrder a ep) es) (fun b o e=>Heap.get?_push_of_some _ e) (B5 hh (o:=o) (t:=t) (ep:=ep) (Nat.ne_of_lt al) hb) ⟨⟨0,Heap.get?_push_size _ rfl⟩,p1 _⟩ (Nat.le_refl _) fpok
  |false =>
   have hd:(!t.plain&&decide (es.size > 1))=false:=by
    rw[hb]at hc;simpa using hc
   have hf:t.place.size=es.size:=by
    have:=p.fit;simp[SetTable.fits]at this;lia
   have up:Ri t.place:=by
    rcases p.go with z|z
    ·intro i j hij hj;have:=z (by lia);rw[this]at hd;simp at hd
     lia
    ·exact z
   exact h _ _ s.drawn es [s.heap.objs.size,a] _ (.refl _) (fun b o e=>Heap.get?_push_of_some _ e) (B7 hh (o:=o) (t:=t) (ep:=ep) (Nat.ne_of_lt al) hb hd up hf) ⟨Nat.zero_le _,Heap.get?_push_size _ rfl,p1 _⟩ (Nat.le_refl _) fpok
end
section
variable{prog:Program}{w:World}{A:Around}{E:Value->Shared->Prop}{s:Shared}
theorem EI{r:Addr}{Q:Bool->Shared->Prop}(hT:s.TypeIs (.ref r) "set") (h:Q false s):wpAny (model prog w) A (Builtin.List.listLengthHint (.ref r)) Q E s:=by
 unfold Builtin.List.listLengthHint;refine wpAny_bind (wpAny_specialOf hT PySem.F.slot_set_len.lookup ?_);generalize hid:("set.__len__":String)=id0
 wp_delta
 rw[show splitId id0=some ("set","__len__")from by subst hid;decide +kernel];subst hid;refine wpAny_bind (wpAny_isInstance (T:="set") (b:=true) hT (by rw[isSubtype_type];kernel_rfl) ?_);refine wpAny_ite_split (fun hab=>absurd hab (by decide)) (fun _=>?_);refine wpAny_ite_split (fun _=>?_) (fun hab=>absurd (by decide +kernel) hab);refine wpAny_bind (wpAny_typeOf hT ?_);exact wpAny_pure h
abbrev wN(vs:Array Value) (c:Nat):Obj:={ cls:=.type "list",data:=.seq vs c }
theorem yk{a:Addr}{o:Obj}{es:Array (Int×Value)}{ep:Nat}{t:SetTable}{Q:List Value->Shared->Prop}(hh:A.handled=none) (p:da w s.heap a o es ep t)
  (h:∀s' (es':Array (Int×Value)),es'.toList.Perm es.toList->(∀b o,s.heap.get? b=some o->s'.heap.get? b=some o)->s'.gens=s.gens->s'.os=s.os->Q (es'.toList.map (·.2)) s') :
  wpAny (model prog w) A (collect (.ref a)) Q E s:=by
 have al:a<s.heap.objs.size:=Heap.lt_size p.get;have hn:=fits_of_scanBound p.room;unfold collect;refine wpAny_bind (wpAny_runValue (codeAny_builtin PySem.F.entry_proto_collect ?_));rw[Around.under_plainId PySem.F.plain_proto_collect _];show wpAny _ A.in1 (newList [] >>= fun l=>again (.builtin "list.__iadd__" ⟨[l,.ref a],[]⟩)) _ _ s;refine wpAny_bind (wpAny_newObj_type ?_);refine wpAny_pure ⟨plainId_quiet PySem.F.plain_list_iadd _,codeAny_builtin PySem.F.entry_list_iadd ?_⟩;rw[Around.under_plainId PySem.F.plain_list_iadd _];generalize hH1:s.heap.push { cls:=.type "list",data:=.seq ([]:List Value).toArray }=H1;have k1:∀b o,s.heap.get? b=some o->H1.get? b=some o:=fun b o e=>by rw[<-hH1];exact Heap.get?_push_of_some _ e
 have hS:H1.get? s.heap.objs.size=some (wN #[] 0):=by rw[<-hH1];exact Heap.get?_push_size _ rfl
 have sz1:H1.objs.size=s.heap.objs.size+1:=by rw[<-hH1];exact Heap.size_push _ _
 have p1:da w H1 a o es ep t:=p.kept (k1 _ _ p.get);show wpAny _ A.in1 (Builtin.List.listExtendWith (.ref s.heap.objs.size) (.ref a) (.ref s.heap.objs.size)) _ _ { s with heap:=H1 };unfold Builtin.List.listExtendWith;refine wpAny_bind (wpAny_typeOf (T:="set") (p1.typeIs (s:={ s with heap:=H1 })) ?_);have hne:s.heap.objs.size≠a:=Nat.ne_of_gt al;have h1:Builtin.List.listSameRef (.ref s.heap.objs.size) (.ref a)=false:=by simp[Builtin.List.listSameRef,hne]
 have h2:(Value.type "set"==Value.type "list")=false:=by decide
 have h3:(Value.type "set"==Value.type "tuple")=false:=by decide
 simp only[h1,h2,h3,Bool.or_false,Bool.false_eq_true,if_false];have hh1:A.in1.handled=none:=hh;refine wpAny_bind (DN (s:={ s with heap:=H1 }) hh1 p1 fun I h' d' es' fp St hp k2 W st hI hfp=>?_);have hSf:s.heap.objs.size∉fp:=fun hm=>by
  rcases hfp _ hm with e|e
  ·exact hne e
  ·have e':H1.objs.size<=s.heap.objs.size:=e
   lia
 have szE:es'.size=es.size:=by have:=hp.length_eq;simpa using this
 have T2:Shared.TypeIs { s with heap:=h',drawn:=d' } (.ref a) "set":=(p1.kept (k2 _ _ p1.get)).typeIs (s:={ s with heap:=h',drawn:=d' });refine wpAny_bind (wpAny_holding (EI T2 ?_));have post:∀s' (acc:Array Value) c',Moved (s.heap.objs.size::[I]) (fun a b=>b=a) { s with heap:=h',drawn:=d' } s'->s'.heap.get? s.heap.objs.size=some (wN acc c')->ItemsOf (PSe es') acc es.size ->
   wpAny (model prog w) A (do match (<-load s.heap.objs.size).data with|.seq xs _=>pure xs.toList|_=>unsupported "internal:collect") Q E s':=by
  intro s' acc c' hm hS' hacc;refine wpAny_bind (wpAny_load hS' (wpAny_pure ?_));have eacc:acc.toList=es'.toList.map (·.2):=by
   apply List.ext_getElem?;intro i;rcases Nat.lt_or_ge i es.size with hi|hi
   ·have:acc[i]?=some (acc[i]'(by rw[hacc.1];exact hi)):=Array.getElem?_eq_getElem _;obtain⟨e,e1,e2⟩:=hacc.2 i _ this;rw[Array.getElem?_toList,this,e2,List.getElem?_map,Array.getElem?_toList,e1];rfl
   ·rw[List.getElem?_eq_none (by simp[hacc.1];exact hi),List.getElem?_eq_none (by simp;lia)]
  rw[eacc];refine h s' es' hp (fun b o e=>hm.heap b o ?_ (k2 b o (k1 b o e))) hm.gens hm.os;have hb:=Heap.lt_size e;have hI':H1.objs.size<=I:=hI;rw[sz1]at hI';simp only[List.mem_cons,List.not_mem_nil,or_false,not_or];exact⟨Nat.ne_of_lt hb,Nat.ne_of_lt (Nat.lt_of_lt_of_le (Nat.lt_succ_of_lt hb) hI')⟩
 have key:∀(R:Result->Shared->Prop) (h2:Heap) (c:Nat),St 0 h2->(∀b o,b≠s.heap.objs.size->h'.get? b=some o->h2.get? b=some o)->h2.get? s.heap.objs.size=some (wN #[] c) ->
   (∀s' (acc:Array Value) c',Moved (s.heap.objs.size::[I]) (fun a b=>b=a) { s with heap:=h',drawn:=d' } s'->s'.heap.get? s.heap.objs.size=some (wN acc c')->ItemsOf (PSe es') acc es.size->R (.ok (.ret (.ref s.heap.objs.size))) s') ->
   codeAny (model prog w) A (.builtin "list.extend.loop" ⟨[.ref s.heap.objs.size,.ref I,.ref s.heap.objs.size],[]⟩) R { s with heap:=h2,drawn:=d' }:=by
  intro R h2 c st2 k3 hS2 hR;refine codeAny_extend_loopS W.toS hn _ hSf _ es.size 0 _ #[] c rfl (Nat.zero_le _) st2 hS2 (ItemsOf.nil _) fun s' acc c' hm hS' hacc=>hR s' acc c' ⟨fun b o hb e=>hm.heap b o hb (k3 b o (fun q=>hb (by simp[q])) e),hm.gens,hm.drawn,hm.os,hm.toks⟩ hS' hacc
 have hS1:=k2 _ _ hS;refine wpAny_ite_split (fun _=>?_) (fun _=>wpAny_pure ⟨plainId_quiet PySem.F.plain_extend_loop _,?_⟩)
 ·refine wpAny_bind (wpAny_rule ?_);refine wpAny_bind ?_;show wpAny _ _ (updateSeq s.heap.objs.size (·.push .none) >>= fun _=>updateSeq s.heap.objs.size (·.pop)) _ _ _;refine wpAny_bind (wpAny_updateSeq hS1 rfl ?_);have hS2:=Heap.get?_update_self (Obj.mapSeq (·.push Value.none)) hS1 rfl;refine wpAny_updateSeq hS2 rfl ?_;have hS3:=Heap.get?_update_self (Obj.mapSeq (·.pop)) hS2 rfl;have oth:∀b o,b≠s.heap.objs.size->h'.get? b=some o->((h'.update s.heap.objs.size (Obj.mapSeq (·.push Value.none))).update s.heap.objs.size (Obj.mapSeq (·.pop))).get? b=some o :=
   fun b o hb e=>(Heap.get?_update_other _ _ (Ne.symm hb)).trans ((Heap.get?_update_other _ _ (Ne.symm hb)).trans e)
  refine wpAny_pure ⟨plainId_quiet PySem.F.plain_extend_loop _,?_⟩;exact key _ _ _ (W.frame 0 h' _ st fun b hb o e=>oth b o (fun q=>hSf (q▸hb)) e) oth hS3 post
 ·exact key _ h' 0 st (fun b o _ e=>e) hS1 post
end
end L2
namespace L2
open PySem PySem.Spec PyProof.Rows PySem.Calls
section
variable{X:Cx}{aa:List (Addr×Obj)}{s:Shared}{σ:St}{H:Hp}{M:DH}
theorem fi.nd{prog:Program}{w:World}{h:Heap}{a:Addr}{xs:List Str}(z:fi prog w h a xs):xs.Nodup:=by
 obtain⟨o,es,ep,t,p,q⟩:=z;exact q.nodup_iff.mp p.nd
theorem Inv.with{s':Shared}(I:Inv X aa σ H s) (k:∀b u,s.heap.get? b=some u->s'.heap.get? b=some u) (g:s'.gens=s.gens) (o:s'.os=s.os):Inv X aa σ H s':=by
 have I1:Inv X aa σ H { s with heap:=s'.heap,toks:=s'.toks }:=I.kept k;exact⟨I1.ok,o.trans I1.os,by rw[g];exact I1.bare,I1.base,I1.loc,I1.cell,I1.free,I1.freeC,I1.pin,I1.hok,I1.len⟩
end
end L2
namespace L2
open PySem PySem.Spec PyProof.Rows
section
variable{X:Cx}{o i:Expr}{to ti:TEd}{pos:Pos}
end
section
variable{P:Program}{w:World}{K:PySem.W.Frag}{mg:Str->Option Value}{base:Heap}{f:Addr}{fd:FuncData}
theorem Fun.okR{x qual:Str}{st:Stmt}{f:Addr}{fd:FuncData}{N ps:List Str}{k n:Nat}{S:SpD}(F:Fun K x qual st f fd) (hn:ps.length=n) (Sc:aq N ps (ag st))
  (hbody:∀ (cdv:Value) (A:Around) (outer:List Env) (s:Shared) (H:Hp) (E:XK),cw k (A.deeper (envOfC qual (ag st) s.heap.objs.size f cdv)) →
   ∃t:TSd,QSs (iK CX0 P w K mg base N qual (ag st) f cdv A outer s H E).nox (cx st) t/\∀ds M R (G:Prop),S ds M R->(t { nx:=fun _ M'=>R .non M',rt:=R } (fc N ds) M->G)->G):aQ P w K mg base CX0 (k+1) f fd ps (spD K n S):=by
 refine F.okD hn Sc fun cdv A outer s H E hr=>?_;obtain⟨t,h1,h2⟩:=hbody cdv A outer s H E hr;exact⟨t,z8 h1,fun ds M R _ hS=>h2 ds M R _ hS id⟩
theorem shr{p:Prop}(h:∀q:Prop,(p->q)->q):p:=h p id
end
end L2
namespace L2
open PySem PyProof.Rows
theorem bJ{σ:Type}{M:Model}{A:Around}{E:Value->Shared->Prop}{s:Shared}{α:Type}{c:Prop} [Decidable c] {x y:StateT σ Sem α}{Q:α->σ->Prop}{st:σ}(h:c) (k:wpS M A E s x Q st):wpS M A E s (if c then x else y) Q st:=by rw[if_pos h];exact k
theorem bI{σ:Type}{M:Model}{A:Around}{E:Value->Shared->Prop}{s:Shared}{α:Type}{c:Prop} [Decidable c] {x y:StateT σ Sem α}{Q:α->σ->Prop}{st:σ}(h:¬ c) (k:wpS M A E s y Q st):wpS M A E s (if c then x else y) Q st:=by rw[if_neg h];exact k
theorem bO{p:Prop}(h:∀q:Prop,(p->q)->q):p:=h p id
abbrev SM(α:Type):=StateT SortSt Sem α
def gA(xs:Array Keyed) (i:Nat):Keyed:=xs[i]?.getD (.none,.none)
theorem pM{xs ys:Array Keyed}{i j:Nat}(h:xs[i]?=ys[j]?):gA xs i=gA ys j:=by unfold gA;rw[h]
theorem xP{xs:Array Keyed}{i:Nat}(h:i<xs.size):xs[i]?=some (gA xs i):=by unfold gA;rw[Array.getElem?_eq_getElem h];rfl
section
variable{prog:Program}{w:World}{A:Around}{E:Value->Shared->Prop}{s:Shared}{O:KeyOrd}{key:Keyed->O.α}{a0:List Keyed}{κ:SortKind}
def gR(prog:Program) (w:World) (A:Around) (s:Shared) (κ:SortKind) (key:Keyed->O.α) (a0:List Keyed):Prop :=
 ∀x∈a0,∀y∈a0,∀(Q:Bool->Shared->Prop),Q (O.blt (key x) (key y)) s->wpAny (model prog w) A (keyLt' κ x.1 y.1) Q (fun _ _=>False) s
structure SB(a0:List Keyed) (κ:SortKind) (st:SortSt):Prop where
 perm:(arrOf st).toList.Perm a0
 kind:kindOf st=κ
 fail:failedOf st=none
theorem SB.size{st:SortSt}(h:SB a0 κ st):(arrOf st).size=a0.length:=by rw[<-Array.length_toList];exact h.perm.length_eq
theorem SB.arr{st:SortSt}(h:SB a0 κ st) {xs:Array Keyed}(hp:xs.toList.Perm (arrOf st).toList):SB a0 κ (setArr st xs):=⟨hp.trans h.perm,h.kind,h.fail⟩
theorem SB.mem{st:SortSt}(h:SB a0 κ st) {i:Nat}(hi:i<a0.length):gA (arrOf st) i∈a0:=by
 have hi':i<(arrOf st).size:=by rw[h.size];exact hi
 have:gA (arrOf st) i=(arrOf st)[i]:=by unfold gA;rw[Array.getElem?_eq_getElem hi'];rfl
 rw[this];exact h.perm.mem_iff.mp (by simp)
def kA(key:Keyed->O.α) (xs:Array Keyed) (i:Nat):O.α:=key (gA xs i)
def Up(key:Keyed->O.α) (xs:Array Keyed) (lo hi:Nat):Prop:=∀i j,lo<=i->i<=j->j<hi->O.kle (kA key xs i) (kA key xs j)
def Dn(key:Keyed->O.α) (xs:Array Keyed) (lo hi:Nat):Prop:=∀i j,lo<=i->i<=j->j<hi->O.kle (kA key xs j) (kA key xs i)
def Out(lo hi:Nat) (xs ys:Array Keyed):Prop:=∀i,i<lo∨hi<=i->ys[i]?=xs[i]?
theorem Out.refl{lo hi:Nat}{xs:Array Keyed}:Out lo hi xs xs:=fun _ _=>rfl
theorem Out.trans{lo hi lo' hi':Nat}{xs ys zs:Array Keyed}(h1:Out lo hi xs ys) (h2:Out lo' hi' ys zs) (a:lo<=lo') (b:hi'<=hi):Out lo hi xs zs:=fun i hi=>(h2 i (by lia)).trans (h1 i hi)
theorem bt{xs ys:Array Keyed}{i j:Nat}(h:xs[i]?=ys[j]?):kA key xs i=kA key ys j:=by unfold kA;rw[pM h]
theorem Up.one{xs:Array Keyed}{lo hi:Nat}(h:hi<=lo+1):Up key xs lo hi:=fun i j h1 h2 h3=>by
 obtain rfl:i=j:=by lia
 exact KeyOrd.kle_refl _
theorem Up.more{xs:Array Keyed}{lo x:Nat}(h:Up key xs lo x) (le:lo<x->O.kle (kA key xs (x-1)) (kA key xs x)):Up key xs lo (x+1):=fun i j h0 hij hj=>by
 rcases Nat.lt_or_ge j x with h1|h1
 ·exact h i j h0 hij h1
 ·obtain rfl:j=x:=by lia
  rcases Nat.lt_or_ge i j with h2|h2
  ·exact KeyOrd.kle_trans (h i (j-1) h0 (by lia) (by lia)) (le (by lia))
  ·obtain rfl:i=j:=by lia
   exact KeyOrd.kle_refl _
theorem Dn.more{xs:Array Keyed}{lo x:Nat}(h:Dn key xs lo x) (le:lo<x->O.kle (kA key xs x) (kA key xs (x-1))):Dn key xs lo (x+1):=fun i j h0 hij hj=>by
 rcases Nat.lt_or_ge j x with h1|h1
 ·exact h i j h0 hij h1
 ·obtain rfl:j=x:=by lia
  rcases Nat.lt_or_ge i j with h2|h2
  ·exact KeyOrd.kle_trans (le (by lia)) (h i (j-1) h0 (by lia) (by lia))
  ·obtain rfl:i=j:=by lia
   exact KeyOrd.kle_refl _
theorem Up.out{xs ys:Array Keyed}{lo hi a b:Nat}(h:Up key xs lo hi) (o:Out a b xs ys) (d:hi<=a∨b<=lo):Up key ys lo hi:=fun i j h1 h2 h3=>by
 rw[bt (o i (by lia)),bt (o j (by lia))];exact h i j h1 h2 h3
theorem ba{st:SortSt}{xs:Array Keyed}{i:Nat}{Q:Keyed->SortSt->Prop}(hi:i<xs.size) (h:Q (gA xs i) st):wpS (model prog w) A E s (elem' xs i) Q st:=by
 rw[elem'_eq,xP hi];exact wpS_pure h
theorem xc{st:SortSt}{x y:Keyed}{Q:Option Bool->SortSt->Prop}(hA:gR prog w A s κ key a0) (hk:kindOf st=κ) (hx:x∈a0) (hy:y∈a0) (h:Q (some (O.blt (key x) (key y))) st):wpS (model prog w) A E s (lt' x y) Q st:=by
 rw[lt'_eq];refine wpS_bind (wpS_get ?_);rw[hk];refine wpS_bind (wpS_lift (wpAny_attempt (wpAny_mono (hA x hx y hy (fun b s'=>b=O.blt (key x) (key y)/\s'=s) ⟨rfl,rfl⟩) ?_ fun _ _ z=>z.elim)));rintro b s' ⟨rfl,rfl⟩;exact⟨rfl,wpS_pure h⟩
theorem ly{st:SortSt}{i j:Nat}{Q:Option Bool->SortSt->Prop}(hA:gR prog w A s κ key a0) (hB:SB a0 κ st) (hi:i<a0.length) (hj:j<a0.length)
  (h:Q (some (O.blt (kA key (arrOf st) i) (kA key (arrOf st) j))) st):wpS (model prog w) A E s (ltAt' i j) Q st:=by
 rw[ltAt'_eq];refine wpS_bind (wpS_get (wpS_bind (ba (by rw[hB.size];exact hi) (wpS_bind (ba (by rw[hB.size];exact hj) ?_)))));exact xc hA hB.kind (hB.mem hi) (hB.mem hj) h
theorem jD{xs:Array Keyed}{i j:Nat}(hj:j<=xs.size) (k:Nat):kA key (mirror xs i j ((j-i) / 2)) k=if i<=k/\k<j then kA key xs (i+j-1-k)else kA key xs k:=by
 have e:=getElem?_mirror_all (i:=i) hj k
 by_cases h:i<=k/\k<j
 ·rw[if_pos h]at e ⊢;exact bt e
 ·rw[if_neg h]at e ⊢;exact bt e
theorem fh{xs:Array Keyed}{i j:Nat}(hj:j<=xs.size):Out i j xs (mirror xs i j ((j-i) / 2)):=fun k hk=>by
 rw[getElem?_mirror_all hj,if_neg (by lia)]
theorem tN{st:SortSt}{i j:Nat}{Q:Unit->SortSt->Prop}(hB:SB a0 κ st) (h:SB a0 κ (setArr st (mirror (arrOf st) i j ((j-i) / 2)))->Q () (setArr st (mirror (arrOf st) i j ((j-i) / 2)))):wpS (model prog w) A E s (reverseSlice' i j) Q st:=by
 rw[reverseSlice'_eq];exact wpS_modify (h (hB.arr (Array.perm_iff_toList_perm.mp (mirror_perm _ _ _ _))))
theorem gp{xs:Array Keyed}{i j:Nat}(hj:j<=xs.size) (he:∀k,i<=k->k<j->kA key xs k=kA key xs (j-1)) (k:Nat):kA key (mirror xs i j ((j-i) / 2)) k=kA key xs k:=by
 rw[jD hj]
 split
 ·rename_i h;rw[he _ (by lia) (by lia),he k h.1 h.2]
 ·rfl
theorem qj{a b:O.α}(h:O.blt a b=false):O.kle b a:=h
theorem iV{a b:O.α}(h:O.blt a b=true):O.kle a b:=KeyOrd.kle_of_klt h
def yA(lo a nrem:Nat):SM AscSt :=
 forIn [a:nrem] ((none,a):AscSt) fun _ r=>do
  match (<-ltAt' (lo+r.2) (lo+r.2-1))with
  |some smaller=>if smaller=true then pure (ForInStep.done (none,r.2))else pure (ForInStep.yield (none,r.2+1))
  |_=>pure (ForInStep.done (some none,r.2))
theorem A8{st:SortSt}{lo a nrem:Nat}{Q:AscSt->SortSt->Prop}(hA:gR prog w A s κ key a0) (hB:SB a0 κ st) (hz:lo+nrem<=a0.length) (h1:1<=a) (h2:a<=nrem) (hs:Up key (arrOf st) lo (lo+a))
  (h:∀m,a<=m->m<=nrem->Up key (arrOf st) lo (lo+m)->(m=nrem∨O.blt (kA key (arrOf st) (lo+m)) (kA key (arrOf st) (lo+m-1))=true)->Q (none,m) st):wpS (model prog w) A E s (yA lo a nrem) Q st:=by
 unfold yA;refine wpS_forRange (I:=fun i c st'=>st'=st/\c=(none,i)/\Up key (arrOf st) lo (lo+i)) ?_ ?_ ⟨rfl,rfl,hs⟩
 ·rintro i c st' ha hb ⟨rfl,rfl,hu⟩;dsimp only;refine wpS_bind (ly hA hB (by lia) (by lia) ?_);dsimp only;cases q:O.blt (kA key (arrOf st') (lo+i)) (kA key (arrOf st') (lo+i-1))with
  |true=>exact wpS_pure (h i ha (by lia) hu (.inr q))
  |false=>exact wpS_pure ⟨rfl,rfl,hu.more fun _=>qj q⟩
 ·rintro c st' ⟨rfl,rfl,hu⟩;rw[show max a nrem=nrem by lia]at hu ⊢;exact h nrem h2 (Nat.le_refl _) hu (.inl rfl)
theorem wD{st:SortSt}{lo n nrem:Nat}{Q:Option Nat->SortSt->Prop}{f:AscSt->SM (Option Nat)}(hA:gR prog w A s κ key a0) (hB:SB a0 κ st) (hz:lo+nrem<=a0.length) (h1:1<=n) (h2:n<=nrem) (hd:Dn key (arrOf st) lo (lo+n))
  (h:∀m st',SB a0 κ st'->pendingOf st'=pendingOf st->1<=m->m<=nrem->Up key (arrOf st') lo (lo+m)->Out lo (lo+nrem) (arrOf st) (arrOf st')->wpS (model prog w) A E s (f (none,m)) Q st'):wpS (model prog w) A E s (do reverseSlice' lo (lo+n);let r <-yA lo n nrem;f r) Q st:=by
 have sz:=hB.size;refine wpS_bind (tN hB fun hB'=>wpS_bind (A8 hA hB' hz h1 h2 (fun i j a b c=>?_) fun m ha hb hu _=>?_))
 ·show O.kle (kA key (mirror _ _ _ _) _) (kA key (mirror _ _ _ _) _);rw[jD (by lia),jD (by lia),if_pos (by lia),if_pos (by lia)];exact hd _ _ (by lia) (by lia) (by lia)
 ·exact h m _ hB' rfl (by lia) hb hu fun i hi=>fh (j:=lo+n) (by lia) i (by lia)
def xZ(lo n nrem:Nat):SM DescSt :=
 forIn [n:nrem] ((none,n,0):DescSt) fun _ r=>do
  match (<-ltAt' (lo+r.2.1) (lo+r.2.1-1))with
  |some smaller =>
   if smaller=true then
    if r.2.2 > 0 then do
     reverseSlice' (lo+r.2.1-(r.2.2+1)) (lo+r.2.1)
     pure (ForInStep.yield (none,r.2.1+1,0))
    else pure (ForInStep.yield (none,r.2.1+1,0))
   else do
    match (<-ltAt' (lo+r.2.1-1) (lo+r.2.1))with
    |some larger =>
     if larger=true then pure (ForInStep.done (none,r.2.1,r.2.2))
     else pure (ForInStep.yield (none,r.2.1+1,r.2.2+1))
    |_=>pure (ForInStep.done (some none,r.2.1,r.2.2))
  |_=>pure (ForInStep.done (some none,r.2.1,r.2.2))
def Ft(key:Keyed->O.α) (xs:Array Keyed) (lo x q:Nat):Prop:=q+1<=x/\∀i,lo+x-(q+1)<=i->i<lo+x->kA key xs i=kA key xs (lo+x-1)
theorem BE{st:SortSt}{lo n nrem:Nat}{Q:DescSt->SortSt->Prop}(hA:gR prog w A s κ key a0) (hB:SB a0 κ st) (hz:lo+nrem<=a0.length) (h1:1<=n) (h2:n<=nrem) (hd:Dn key (arrOf st) lo (lo+n))
  (h:∀m q st',SB a0 κ st'->pendingOf st'=pendingOf st->1<=m->m<=nrem->Dn key (arrOf st') lo (lo+m)->Ft key (arrOf st') lo m q->Out lo (lo+nrem) (arrOf st) (arrOf st')->Q (none,m,q) st'):wpS (model prog w) A E s (xZ lo n nrem) Q st:=by
 unfold xZ;refine wpS_forRange (I:=fun i c st'=>∃q,c=(none,i,q)/\SB a0 κ st'/\pendingOf st'=pendingOf st/\Dn key (arrOf st') lo (lo+i)/\Ft key (arrOf st') lo i q/\Out lo (lo+nrem) (arrOf st) (arrOf st')) ?_ ?_ ⟨0,rfl,hB,rfl,hd,⟨h1,fun i a b=>by obtain rfl:i=lo+n-1:=(by lia);rfl⟩,Out.refl⟩
 ·rintro i c st' ha hb ⟨q,rfl,hB',hp,hd',hl,ho⟩;have sz:=hB'.size;dsimp only;refine wpS_bind (ly hA hB' (by lia) (by lia) ?_);dsimp only;cases e:O.blt (kA key (arrOf st') (lo+i)) (kA key (arrOf st') (lo+i-1))with
  |true =>
   simp only[if_true]
   by_cases h0:q > 0
   ·rw[if_pos h0];refine wpS_bind (tN hB' fun hB2=>wpS_pure ⟨0,rfl,hB2,hp,?_,⟨by lia,fun k a b=>by obtain rfl:k=lo+(i+1)-1:=(by lia);rfl⟩,?_⟩)
    ·have same:=gp (key:=key) (xs:=arrOf st') (i:=lo+i-(q+1)) (j:=lo+i) (by lia) (fun k a b=>hl.2 k a b);refine Dn.more (x:=lo+i) (fun k j a b c=>?_) fun _=>?_
     ·show O.kle (kA key (mirror _ _ _ _) _) (kA key (mirror _ _ _ _) _);rw[same,same];exact hd' k j a b c
     ·show O.kle (kA key (mirror _ _ _ _) _) (kA key (mirror _ _ _ _) _);rw[same,same];exact iV e
    ·exact ho.trans (fh (by lia)) (by have:=hl.1;lia) (by lia)
   ·rw[if_neg h0];exact wpS_pure ⟨0,rfl,hB',hp,Dn.more (x:=lo+i) hd' fun _=>iV e,⟨by lia,fun k a b=>by obtain rfl:k=lo+(i+1)-1:=(by lia);rfl⟩,ho⟩
  |false =>
   simp only[Bool.false_eq_true,if_false];refine wpS_bind (ly hA hB' (by lia) (by lia) ?_);dsimp only;cases e2:O.blt (kA key (arrOf st') (lo+i-1)) (kA key (arrOf st') (lo+i))with
   |true=>exact wpS_pure (h i q st' hB' hp (by lia) (by lia) hd' hl ho)
   |false =>
    simp only[Bool.false_eq_true,if_false];have eq:kA key (arrOf st') (lo+i)=kA key (arrOf st') (lo+i-1):=O.total _ _ e e2;refine wpS_pure ⟨q+1,rfl,hB',hp,Dn.more (x:=lo+i) hd' fun _=>qj e2,⟨by have:=hl.1;lia,fun k a b=>?_⟩,ho⟩;rw[show lo+(i+1)-1=lo+i by lia];rcases Nat.lt_or_ge k (lo+i)with h'|h'
    ·rw[eq];exact hl.2 k (by lia) h'
    ·obtain rfl:k=lo+i:=by lia
     rfl
 ·rintro c st' ⟨q,rfl,hB',hp,hd',hl,ho⟩;rw[show max n nrem=nrem by lia]at hd' hl ⊢;exact h nrem q st' hB' hp (by lia) (Nat.le_refl _) hd' hl ho
theorem uc{st:SortSt}{lo n nrem:Nat}{Q:Option Nat->SortSt->Prop}{f:DescSt->SM (Option Nat)}{g:AscSt->SM (Option Nat)}(hA:gR prog w A s κ key a0) (hB:SB a0 κ st) (hz:lo+nrem<=a0.length) (h2:n+1<=nrem) (hd:Dn key (arrOf st) lo (lo+(n+1)))
  (hf:∀m q,f (none,m,q)=if q > 0 then(do reverseSlice' (lo+m-(q+1)) (lo+m);reverseSlice' lo (lo+m);let r <-yA lo m nrem;g r)else(do reverseSlice' lo (lo+m);let r <-yA lo m nrem;g r))
  (h:∀m st',SB a0 κ st'->pendingOf st'=pendingOf st->1<=m->m<=nrem->Up key (arrOf st') lo (lo+m)->Out lo (lo+nrem) (arrOf st) (arrOf st')->wpS (model prog w) A E s (g (none,m)) Q st') :
  wpS (model prog w) A E s (do liftM (rule "list.sort.descending-run");let r <-xZ lo (n+1) nrem;f r) Q st:=by
 refine wpS_bind (wpS_lift (wpAny_rule ⟨rfl,wpS_bind (BE hA hB hz (by lia) h2 hd fun m q st' hB' hp ha hb hd' hl ho=>?_)⟩));rw[hf];have sz:=hB'.size
 by_cases h0:q > 0
 ·rw[if_pos h0];refine wpS_bind (tN hB' fun hB2=>wD hA hB2 hz ha hb (fun i j a b c=>?_) fun m' st2 a b c d e f=>h m' st2 a (b.trans hp) c d e ((ho.trans (fh (by lia)) (by have:=hl.1;lia) (by lia)).trans f (Nat.le_refl _) (Nat.le_refl _)));have same:=gp (key:=key) (xs:=arrOf st') (i:=lo+m-(q+1)) (j:=lo+m) (by lia) (fun k a b=>hl.2 k a b);show O.kle (kA key (mirror _ _ _ _) _) (kA key (mirror _ _ _ _) _);rw[same,same];exact hd' i j a b c
 ·rw[if_neg h0];exact wD hA hB' hz ha hb hd' fun m' st2 a b c d e f=>h m' st2 a (b.trans hp) c d e (ho.trans f (Nat.le_refl _) (Nat.le_refl _))
theorem zg{st:SortSt}{lo nrem:Nat}{Q:Option Nat->SortSt->Prop}(hA:gR prog w A s κ key a0) (hB:SB a0 κ st) (hz:lo+nrem<=a0.length) (h1:1<=nrem)
  (h:∀m st',SB a0 κ st'->pendingOf st'=pendingOf st->1<=m->m<=nrem->Up key (arrOf st') lo (lo+m)->Out lo (lo+nrem) (arrOf st) (arrOf st')->Q (some m) st'):wpS (model prog w) A E s (countRun' lo nrem) Q st:=by
 have sz:=hB.size;rw[countRun'_eq];dsimp only;refine wpS_bind (A8 hA hB hz (Nat.le_refl 1) h1 (Up.one (by lia)) fun m ha hb hu hm=>?_);dsimp only
 by_cases e:m=nrem
 ·rw[if_pos (by simpa using e)];exact wpS_pure (h m st hB rfl ha hb hu Out.refl)
 ·rw[if_neg (by simpa using e)];have lt:=hm.resolve_left e
  by_cases g:m > 1
  ·rw[if_pos g];refine wpS_bind (ly hA hB (by lia) (by lia) ?_);dsimp only;cases q:O.blt (kA key (arrOf st) lo) (kA key (arrOf st) (lo+m-1))with
   |true=>exact wpS_pure (h m st hB rfl ha hb hu Out.refl)
   |false =>
    simp only[Bool.false_eq_true,if_false];have like:∀i,lo<=i->i<lo+m->kA key (arrOf st) i=kA key (arrOf st) (lo+m-1):=fun i h0 hi =>
     KeyOrd.kle_antisymm (hu i (lo+m-1) h0 (by lia) (by lia)) (KeyOrd.kle_trans (qj q) (hu lo i (Nat.le_refl _) h0 hi))
    have same:=gp (key:=key) (xs:=arrOf st) (i:=lo) (j:=lo+m) (by lia) like;refine wpS_bind (tN hB fun hB'=>uc (n:=m) hA hB' hz (by lia) ?_ (fun m q=>rfl) ?_)
    rotate_left
    ·exact fun m' st2 a b c d e f=>wpS_pure (h m' st2 a b c d e fun i hi=>(f i hi).trans (fh (j:=lo+m) (by lia) i (by lia)))
    refine Dn.more (x:=lo+m) (fun i j a b c=>?_) fun _=>?_
    ·show O.kle (kA key (mirror _ _ _ _) _) (kA key (mirror _ _ _ _) _);rw[same,same,like i a (by lia),like j (by lia) c];exact KeyOrd.kle_refl _
    ·show O.kle (kA key (mirror _ _ _ _) _) (kA key (mirror _ _ _ _) _);rw[same,same];exact iV lt
  ·rw[if_neg g];obtain rfl:m=1:=by lia
   refine uc (n:=1) hA hB hz (by lia) (Dn.more (x:=lo+1) (fun i j a b c=>?_) fun _=>iV lt) (fun m q=>rfl) ?_
   rotate_left
   ·exact fun m' st2 a b c d e f=>wpS_pure (h m' st2 a b c d e f)
   obtain rfl:i=j:=by lia
   exact KeyOrd.kle_refl _
end
section
variable{prog:Program}{w:World}{A:Around}{E:Value->Shared->Prop}{s:Shared}{O:KeyOrd}{key:Keyed->O.α}{a0:List Keyed}{κ:SortKind}
theorem nV{xs:Array Keyed}{src d:Nat}(hs:src<xs.size) (hd:d<=src) (k:Nat):kA key (bubble xs src d) k=if k=src-d then kA key xs src else if src-d<k/\k<=src then kA key xs (k-1)else kA key xs k:=by
 have e:=getElem?_bubble hs d hd k
 by_cases h1:k=src-d
 ·rw[if_pos h1]at e ⊢;exact bt e
 ·rw[if_neg h1]at e ⊢
  by_cases h2:src-d<k/\k<=src
  ·rw[if_pos h2]at e ⊢;exact bt e
  ·rw[if_neg h2]at e ⊢;exact bt e
theorem Eo{st:SortSt}{lo n ok:Nat}{Q:Bool->SortSt->Prop}(hA:gR prog w A s κ key a0) (hB:SB a0 κ st) (hz:lo+n<=a0.length) (hok:ok<=n) (hs:Up key (arrOf st) lo (lo+ok))
  (h:∀st',SB a0 κ st'->pendingOf st'=pendingOf st->Up key (arrOf st') lo (lo+n)->Out lo (lo+n) (arrOf st) (arrOf st')->Q true st'):wpS (model prog w) A E s (binarySort' lo n ok) Q st:=by
 rw[binarySort'_eq];refine wpS_bind (wpS_mono (wpS_forRange (I:=fun k c st'=>c=(none,())/\SB a0 κ st'/\pendingOf st'=pendingOf st/\Up key (arrOf st') lo (lo+min k n)/\Out lo (lo+n) (arrOf st) (arrOf st'))
  (Q:=fun c st'=>c=(none,())/\SB a0 κ st'/\pendingOf st'=pendingOf st/\Up key (arrOf st') lo (lo+n)/\Out lo (lo+n) (arrOf st) (arrOf st')) ?step ?fin ?init) ?post)
 case post =>
  intro c st' hI';refine bO fun _ bk=>?_;obtain⟨rfl,hB',hp,hs',ho⟩:=hI';refine bk ?_;clear bk;exact wpS_pure (h st' hB' hp hs' ho)
 case init =>
  refine⟨rfl,hB,rfl,fun i j h0 hij hj=>?_,Out.refl⟩
  by_cases h1:ok=0
  ·obtain rfl:i=j:=by lia
   exact KeyOrd.kle_refl _
  ·exact hs i j h0 hij (by lia)
 case fin =>
  intro c st' hI';refine bO fun _ bk=>?_;obtain⟨hc,hB',hp,hs',ho⟩:=hI';refine bk ?_;clear bk;refine⟨hc,hB',hp,?_,ho⟩
  rwa [show min (max (max ok 1) n) n=n by lia]at hs'
 case step =>
  intro k c st' hak hkn hI';refine bO fun _ bk=>?_;obtain⟨rfl,hB',hp,hs',ho⟩:=hI';refine bk ?_;clear bk;rw[show min k n=k by lia]at hs';refine wpS_bind (wpS_mono (wpS_forRange (I:=fun x c st''=>st''=st'/\∃l r,c=(none,l,r)/\l<=r/\r<=k/\r-l<=k-x /\
    (∀i,i<l->O.kle (kA key (arrOf st') (lo+i)) (kA key (arrOf st') (lo+k)))/\(∀i,r<=i->i<k->O.klt (kA key (arrOf st') (lo+k)) (kA key (arrOf st') (lo+i))))
   (Q:=fun c st'' => st'' = st' ∧ ∃ l r,c = (none,l,r) ∧ l ≤ k ∧
    (∀i,i<l->O.kle (kA key (arrOf st') (lo+i)) (kA key (arrOf st') (lo+k)))/\(∀i,l<=i->i<k->O.klt (kA key (arrOf st') (lo+k)) (kA key (arrOf st') (lo+i)))) ?istep ?ifin ?iinit) ?ipost)
  case iinit=>exact⟨rfl,0,k,rfl,by lia,by lia,by lia,fun i hi=>by lia,fun i h1 h2=>by lia⟩
  case ifin =>
   intro c st'' hI';refine bO fun _ bk=>?_;obtain⟨rfl,l,r,rfl,hlr,hrk,hm,hlo,hhi⟩:=hI';refine bk ?_;clear bk;obtain rfl:l=r:=by lia
   exact⟨rfl,l,l,rfl,hrk,hlo,hhi⟩
  case istep =>
   intro x c st'' _ hxk hI';refine bO fun _ bk=>?_;obtain⟨rfl,l,r,rfl,hlr,hrk,hm,hlo,hhi⟩:=hI';refine bk ?_;clear bk;dsimp only
   by_cases hge:l>=r
   ·rw[if_pos hge];obtain rfl:l=r:=by lia
    exact wpS_pure ⟨rfl,l,l,rfl,hrk,hlo,hhi⟩
   ·rw[if_neg hge];refine wpS_bind (ly hA hB' (by lia) (by lia) ?_);dsimp only;cases q:O.blt (kA key (arrOf st'') (lo+k)) (kA key (arrOf st'') (lo+(l+r) / 2))with
    |true=>exact wpS_pure ⟨rfl,l,(l+r) / 2,rfl,by lia,by lia,by lia,hlo,fun i h1 h2=>KeyOrd.klt_of_klt_of_kle q (hs' _ _ (by lia) (by lia) (by lia))⟩
    |false=>exact wpS_pure ⟨rfl,(l+r) / 2+1,r,rfl,by lia,by lia,by lia,fun i h1=>KeyOrd.kle_trans (hs' (lo+i) (lo+(l+r) / 2) (by lia) (by lia) (by lia)) q,hhi⟩
  case ipost =>
   intro c st'' hI';refine bO fun _ bk=>?_;obtain⟨rfl,l,r,rfl,hlk,hlo,hhi⟩:=hI';refine bk ?_;clear bk;show wpS _ _ _ _ (do moveDown' (lo+k) (lo+l);pure (ForInStep.yield (none,()))) _ _;rw[moveDown'_eq];have sz:=hB'.size;have hks:lo+k<(arrOf st'').size:=by lia
   refine wpS_bind (wpS_modify (wpS_pure ⟨rfl,hB'.arr (Array.perm_iff_toList_perm.mp (bubble_perm _ _ _)),hp,?_,?_⟩))
   ·rw[show min (k+1) n=k+1 by lia];intro i j h0 hij hj;show O.kle (kA key (bubble (arrOf st'') (lo+k) (lo+k-(lo+l))) i) (kA key (bubble (arrOf st'') (lo+k) (lo+k-(lo+l))) j);have hhi':∀i,lo+l<=i->i<lo+k->O.klt (kA key (arrOf st'') (lo+k)) (kA key (arrOf st'') i):=fun i a b=>by
     have:=hhi (i-lo) (by lia) (by lia)
     rwa [show lo+(i-lo)=i by lia]at this
    have hlo':∀i,lo<=i->i<lo+l->O.kle (kA key (arrOf st'') i) (kA key (arrOf st'') (lo+k)):=fun i a b=>by
     have:=hlo (i-lo) (by lia)
     rwa [show lo+(i-lo)=i by lia]at this
    rw[nV hks (by lia),nV hks (by lia),show lo+k-(lo+k-(lo+l))=lo+l by lia]
    repeat' split
    all_goals first
     |(exfalso;lia)
     |exact KeyOrd.kle_refl _
     |exact hlo' _ (by lia) (by lia)
     |exact KeyOrd.kle_of_klt (hhi' _ (by lia) (by lia))
     |exact hs' _ _ (by lia) (by lia) (by lia)
   ·refine ho.trans (lo':=lo) (hi':=lo+n) (fun i hi=>?_) (Nat.le_refl _) (Nat.le_refl _);show(bubble (arrOf st'') (lo+k) (lo+k-(lo+l)))[i]?=_;rw[getElem?_bubble hks _ (by lia),if_neg (by lia),if_neg (by lia)]
def yQ:Bool->Keyed->Array Keyed->Nat->Nat->Nat->SM (Option Nat):=sortPriv% PySem.Builtin.gallop
def Ahd(key:Keyed->O.α) (left:Bool) (y:Keyed) (x:Keyed):Bool:=if left then O.blt (key x) (key y)else !O.blt (key y) (key x)
theorem tu{left:Bool}{y:Keyed}{arr:Array Keyed}{k:Nat}{st:SortSt}{Q:Option Bool->SortSt->Prop}(hA:gR prog w A s κ key a0) (hk:kindOf st=κ) (hy:y∈a0) (hx:gA arr k∈a0) (hz:k<arr.size) (h:Q (some (Ahd key left y (gA arr k))) st) :
  wpS (model prog w) A E s (do let x <-elem' arr k;if left=true then lt' x y else do let r <-lt' y x;pure (Option.map (fun x=>!x) r)) Q st:=by
 refine wpS_bind (ba hz ?_);unfold Ahd at h;cases left with
 |true=>exact xc hA hk hx hy h
 |false=>exact wpS_bind (xc hA hk hy hx (wpS_pure h))
theorem eZ{left:Bool}{y:Keyed}{arr:Array Keyed}{base n hint:Nat}{st:SortSt}{Q:Option Nat->SortSt->Prop}(hA:gR prog w A s κ key a0) (hk:kindOf st=κ) (hy:y∈a0) (hin:∀i,i<n->gA arr (base+i)∈a0) (hz:base+n<=arr.size) (hh:hint<n)
  (mono:∀i j,i<=j->j<n->Ahd key left y (gA arr (base+j))=true->Ahd key left y (gA arr (base+i))=true)
  (h:∀k,k<=n->(∀i,i<k->Ahd key left y (gA arr (base+i))=true)->(∀i,k<=i->i<n->Ahd key left y (gA arr (base+i))=false)->Q (some k) st):wpS (model prog w) A E s (yQ left y arr base n hint) Q st:=by
 have nm:∀i j,i<=j->j<n->Ahd key left y (gA arr (base+i))=false->Ahd key left y (gA arr (base+j))=false:=fun i j hij hj e=>by
  cases q:Ahd key left y (gA arr (base+j))with
  |false=>rfl
  |true=>rw[mono i j hij hj q]at e;cases e
 have last:∀{f:Option (Option Nat)×Nat×Nat->SM (Option Nat)} {lo hi:Nat},(∀lo hi,f (none,lo,hi)=pure (some hi))->lo<=hi->hi<=n->(∀i,i<lo->Ahd key left y (gA arr (base+i))=true)->(∀i,hi<=i->i<n->Ahd key left y (gA arr (base+i))=false) ->
   wpS (model prog w) A E s (do
    let r <-forIn [:n] ((none,lo,hi):Option (Option Nat)×Nat×Nat) fun _ r=>if r.2.1>=r.2.2 then pure (ForInStep.done (none,r.2.1,r.2.2))else do
     let x <-(do let x <-elem' arr (base+(r.2.1+(r.2.2-r.2.1) / 2));if left=true then lt' x y else do let r <-lt' y x;pure (Option.map (fun x=>!x) r))
     match x with
     |some more=>if more=true then pure (ForInStep.yield (none,r.2.1+(r.2.2-r.2.1) / 2+1,r.2.2))else pure (ForInStep.yield (none,r.2.1,r.2.1+(r.2.2-r.2.1) / 2))
     |x=>pure (ForInStep.done (some none,r.2.1,r.2.2))
    f r) Q st:=by
  intro f lo hi hf h1 h2 h3 h4;refine wpS_bind (wpS_mono (wpS_forRange (I:=fun x c st'=>st'=st/\∃lo hi,c=(none,lo,hi)/\lo<=hi/\hi<=n/\hi-lo<=n-x/\(∀i,i<lo->Ahd key left y (gA arr (base+i))=true)/\(∀i,hi<=i->i<n->Ahd key left y (gA arr (base+i))=false))
   (Q:=fun c st'=>st'=st/\∃lo hi,c=(none,lo,hi)/\lo=hi/\hi<=n/\(∀i,i<lo->Ahd key left y (gA arr (base+i))=true)/\(∀i,hi<=i->i<n->Ahd key left y (gA arr (base+i))=false)) ?_ ?_ ⟨rfl,lo,hi,rfl,h1,h2,by lia,h3,h4⟩) ?_)
  ·intro x c st' _ hx hI';refine bO fun _ bk=>?_;obtain⟨rfl,lo,hi,rfl,g1,g2,g3,g4,g5⟩:=hI';refine bk ?_;clear bk;dsimp only
   by_cases hge:lo>=hi
   ·rw[if_pos hge];exact wpS_pure ⟨rfl,lo,hi,rfl,by lia,g2,g4,g5⟩
   ·rw[if_neg hge];refine wpS_bind (tu hA hk hy (hin _ (by lia)) (by lia) ?_);dsimp only;cases q:Ahd key left y (gA arr (base+(lo+(hi-lo) / 2)))with
    |true=>exact wpS_pure ⟨rfl,_,_,rfl,by lia,g2,by lia,fun i hi'=>mono i _ (by lia) (by lia) q,g5⟩
    |false=>exact wpS_pure ⟨rfl,_,_,rfl,by lia,by lia,by lia,g4,fun i a b=>nm _ i a b q⟩
  ·intro c st' hI';refine bO fun _ bk=>?_;obtain⟨rfl,lo,hi,rfl,g1,g2,g3,g4,g5⟩:=hI';refine bk ?_;clear bk;exact⟨rfl,lo,hi,rfl,by lia,g2,g4,g5⟩
  ·intro c st' hI';refine bO fun _ bk=>?_;obtain⟨rfl,lo,hi,rfl,rfl,g2,g4,g5⟩:=hI';refine bk ?_;clear bk;rw[hf];exact wpS_pure (h _ g2 g4 g5)
 show wpS _ _ _ _ (Bind.bind _ _) _ _;refine wpS_bind (tu hA hk hy (hin _ hh) (by lia) ?_);dsimp only;cases q:Ahd key left y (gA arr (base+hint))with
 |true =>
  simp only[if_true];refine wpS_bind (wpS_mono (wpS_forRange (I:=fun x c st'=>st'=st/\∃l o,c=(none,l,o)/\x+1<=o/\l<o/\l<n-hint/\Ahd key left y (gA arr (base+(hint+l)))=true)
   (Q:=fun c st'=>st'=st/\∃l o,c=(none,l,o)/\l<o/\l<n-hint/\Ahd key left y (gA arr (base+(hint+l)))=true/\(n-hint<=o∨o<n-hint/\Ahd key left y (gA arr (base+(hint+o)))=false)) ?_ ?_ ⟨rfl,0,1,rfl,by lia,by lia,by lia,q⟩) ?_)
  ·intro x c st' _ hx hI';refine bO fun _ bk=>?_;obtain⟨rfl,l,o,rfl,g1,g2,g3,g4⟩:=hI';refine bk ?_;clear bk;dsimp only
   by_cases hge:o>=n-hint
   ·rw[if_pos hge];exact wpS_pure ⟨rfl,l,o,rfl,g2,g3,g4,.inl hge⟩
   ·rw[if_neg hge];refine wpS_bind (tu hA hk hy (hin _ (by lia)) (by lia) ?_);dsimp only;cases q:Ahd key left y (gA arr (base+(hint+o)))with
    |true=>exact wpS_pure ⟨rfl,_,_,rfl,by lia,by lia,by lia,q⟩
    |false=>exact wpS_pure ⟨rfl,_,_,rfl,g2,g3,g4,.inr ⟨by lia,q⟩⟩
  ·intro c st' hI';refine bO fun _ bk=>?_;obtain⟨rfl,l,o,rfl,g1,g2,g3,g4⟩:=hI';refine bk ?_;clear bk;exact⟨rfl,l,o,rfl,g2,g3,g4,.inl (by lia)⟩
  ·intro c st' hI';refine bO fun _ bk=>?_;obtain⟨rfl,l,o,rfl,g2,g3,g4,g5⟩:=hI';refine bk ?_;clear bk;dsimp only;refine last (fun _ _=>rfl) (by lia) (by lia) (fun i hi=>mono i (hint+l) (by lia) (by lia) g4) fun i a b=>?_;rcases g5 with g5|⟨g5,g6⟩
   ·lia
   ·exact nm _ i (by lia) b g6
 |false =>
  simp only[Bool.false_eq_true,if_false];refine wpS_bind (wpS_mono (wpS_forRange (I:=fun x c st'=>st'=st/\∃l o,c=(none,l,o)/\x+1<=o/\l<o/\l<hint+1/\Ahd key left y (gA arr (base+(hint-l)))=false)
   (Q:=fun c st'=>st'=st/\∃l o,c=(none,l,o)/\l<o/\l<hint+1/\Ahd key left y (gA arr (base+(hint-l)))=false/\(hint+1<=o∨o<hint+1/\Ahd key left y (gA arr (base+(hint-o)))=true)) ?_ ?_ ⟨rfl,0,1,rfl,by lia,by lia,by lia,q⟩) ?_)
  ·intro x c st' _ hx hI';refine bO fun _ bk=>?_;obtain⟨rfl,l,o,rfl,g1,g2,g3,g4⟩:=hI';refine bk ?_;clear bk;dsimp only
   by_cases hge:o>=hint+1
   ·rw[if_pos hge];exact wpS_pure ⟨rfl,l,o,rfl,g2,g3,g4,.inl hge⟩
   ·rw[if_neg hge];refine wpS_bind (tu hA hk hy (hin _ (by lia)) (by lia) ?_);dsimp only;cases q:Ahd key left y (gA arr (base+(hint-o)))with
    |false=>exact wpS_pure ⟨rfl,_,_,rfl,by lia,by lia,by lia,q⟩
    |true=>exact wpS_pure ⟨rfl,_,_,rfl,g2,g3,g4,.inr ⟨by lia,q⟩⟩
  ·intro c st' hI';refine bO fun _ bk=>?_;obtain⟨rfl,l,o,rfl,g1,g2,g3,g4⟩:=hI';refine bk ?_;clear bk;exact⟨rfl,l,o,rfl,g2,g3,g4,.inl (by lia)⟩
  ·intro c st' hI';refine bO fun _ bk=>?_;obtain⟨rfl,l,o,rfl,g2,g3,g4,g5⟩:=hI';refine bk ?_;clear bk;dsimp only;refine last (fun _ _=>rfl) (by lia) (by lia) (fun i hi=>?_) fun i a b=>nm (hint-l) i (by lia) b g4;rcases g5 with g5|⟨g5,g6⟩
   ·lia
   ·exact mono i _ (by lia) (by lia) g6
end
structure MS(R:Keyed->Keyed->Prop) (tot out ra rb:List Keyed):Prop where
 perm:(out++(ra++rb)).Perm tot
 so:out.Pairwise R
 la:∀z∈out,∀x∈ra,R z x
 lb:∀z∈out,∀x∈rb,R z x
 sa:ra.Pairwise R
 sb:rb.Pairwise R
theorem MS.swap{R:Keyed->Keyed->Prop}{tot out ra rb:List Keyed}(h:MS R tot out ra rb):MS R tot out rb ra :=
 ⟨(List.Perm.append_left _ List.perm_append_comm).trans h.perm,h.so,h.lb,h.la,h.sb,h.sa⟩
theorem MS.take{R:Keyed->Keyed->Prop}{tot out c ra rb:List Keyed}(h:MS R tot out (c++ra) rb) (k:∀x∈c,∀y∈rb,R x y):MS R tot (out++c) ra rb:=by
 have sa:=List.pairwise_append.mp h.sa;refine⟨by simpa using h.perm,List.pairwise_append.mpr ⟨h.so,sa.1,fun z hz x hx=>h.la z hz x (by simp[hx])⟩,fun z hz x hx=>?_,fun z hz y hy=>?_,sa.2.1,h.sb⟩
 ·rcases List.mem_append.mp hz with hz|hz
  ·exact h.la z hz x (by simp[hx])
  ·exact sa.2.2 z hz x hx
 ·rcases List.mem_append.mp hz with hz|hz
  ·exact h.lb z hz y hy
  ·exact k z hz y hy
def Fn(R:Keyed->Keyed->Prop) (tot r:List Keyed):Prop:=r.Perm tot/\r.Pairwise R
theorem MS.fin{R:Keyed->Keyed->Prop}{tot out ra rb:List Keyed}(h:MS R tot out ra rb) (k:∀x∈ra,∀y∈rb,R x y):Fn R tot (out++ra++rb):=by
 refine⟨by simpa using h.perm,List.pairwise_append.mpr ⟨List.pairwise_append.mpr ⟨h.so,h.sa,h.la⟩,h.sb,fun z hz y hy=>?_⟩⟩;rcases List.mem_append.mp hz with hz|hz
 ·exact h.lb z hz y hy
 ·exact k z hz y hy
theorem cf{a:Array Keyed}{i:Nat}(h:i<a.size):a.toList[i]?=some (gA a i):=by rw[Array.getElem?_toList,xP h]
theorem zE{a:Array Keyed}{i:Nat}(h:i<a.size):a.toList.drop i=gA a i::a.toList.drop (i+1):=by
 have h':i<a.toList.length:=by simpa using h
 rw[List.drop_eq_getElem_cons h'];have:=cf h;rw[List.getElem?_eq_getElem h']at this;rw[Option.some.inj this]
theorem dn{a:Array Keyed}{i:Nat}{x:Keyed}(h:x∈a.toList.drop i):∃j,i<=j/\j<a.size/\x=gA a j:=by
 obtain⟨j,e⟩:=List.mem_iff_getElem?.mp h;have hj:=(List.getElem?_eq_some_iff.mp e).1;rw[List.getElem?_drop]at e;have lt:i+j<a.size:=by simpa using(List.getElem?_eq_some_iff.mp e).1
 rw[cf lt]at e;exact⟨i+j,by lia,lt,(Option.some.inj e).symm⟩
theorem fN{a:Array Keyed}{i k:Nat}(h:i+k<=a.size):a.toList.drop i=(a.extract i (i+k)).toList++a.toList.drop (i+k):=by
 rw[Array.toList_extract,List.extract_eq_take_drop,show i+k-i=k by lia,<-List.drop_drop,List.take_append_drop]
theorem eK{a:Array Keyed}{i j:Nat}{x:Keyed}(hj:j<=a.size) (h:x∈(a.extract i j).toList):∃k,i<=k/\k<j/\x=gA a k:=by
 rw[Array.toList_extract,List.extract_eq_take_drop]at h;obtain⟨k,e⟩:=List.mem_iff_getElem?.mp h;have hk:=(List.getElem?_eq_some_iff.mp e).1;rw[List.length_take,List.length_drop]at hk;rw[List.getElem?_take_of_lt (by lia),List.getElem?_drop]at e;rw[cf (by lia)]at e;exact⟨i+k,by lia,by lia,(Option.some.inj e).symm⟩
section
variable{prog:Program}{w:World}{A:Around}{E:Value->Shared->Prop}{s:Shared}{O:KeyOrd}{key:Keyed->O.α}{a0:List Keyed}{κ:SortKind}
def kl(key:Keyed->O.α) (x y:Keyed):Prop:=O.kle (key x) (key y)
def ML(key:Keyed->O.α) (a b out:Array Keyed) (ia ib:Nat):Prop:=MS (kl key) (a.toList++b.toList) out.toList (a.toList.drop ia) (b.toList.drop ib)
abbrev FL(key:Keyed->O.α) (a b r:Array Keyed):Prop:=Fn (kl key) (a.toList++b.toList) r.toList
variable{a b out:Array Keyed}{ia ib k:Nat}
theorem ML.ua(h:ML key a b out ia ib) {i j:Nat}(h1:ia<=i) (h2:i<=j) (h3:j<a.size):kl key (gA a i) (gA a j):=by
 rcases Nat.lt_or_ge i j with lt|ge
 ·have:=List.pairwise_iff_getElem.mp h.sa (i-ia) (j-ia) (by simp;lia) (by simp;lia) (by lia);rw[List.getElem_drop,List.getElem_drop]at this;have e1:=cf (a:=a) (i:=i) (by lia);have e2:=cf (a:=a) (i:=j) h3;rw[List.getElem?_eq_getElem (by simp;lia)]at e1 e2;rw[<-Option.some.inj e1,<-Option.some.inj e2];simpa[show ia+(i-ia)=i by lia,show ia+(j-ia)=j by lia]using this
 ·obtain rfl:i=j:=by lia
  exact KeyOrd.kle_refl _
theorem ML.ub(h:ML key a b out ia ib) {i j:Nat}(h1:ib<=i) (h2:i<=j) (h3:j<b.size):kl key (gA b i) (gA b j):=by
 rcases Nat.lt_or_ge i j with lt|ge
 ·have:=List.pairwise_iff_getElem.mp h.sb (i-ib) (j-ib) (by simp;lia) (by simp;lia) (by lia);rw[List.getElem_drop,List.getElem_drop]at this;have e1:=cf (a:=b) (i:=i) (by lia);have e2:=cf (a:=b) (i:=j) h3;rw[List.getElem?_eq_getElem (by simp;lia)]at e1 e2;rw[<-Option.some.inj e1,<-Option.some.inj e2];simpa[show ib+(i-ib)=i by lia,show ib+(j-ib)=j by lia]using this
 ·obtain rfl:i=j:=by lia
  exact KeyOrd.kle_refl _
theorem ML.chA(h:ML key a b out ia ib) (hk:ia+k<=a.size) (q:ib<b.size->∀i,ia<=i->i<ia+k->kl key (gA a i) (gA b ib)):ML key a b (out++a.extract ia (ia+k)) (ia+k) ib:=by
 have h':=h;unfold ML at h' ⊢;rw[fN hk]at h';rw[Array.toList_append];refine h'.take fun x hx y hy=>?_;obtain⟨i,i1,i2,rfl⟩:=eK hk hx;obtain⟨j,j1,j2,rfl⟩:=dn hy;exact KeyOrd.kle_trans (q (by lia) i i1 i2) (h.ub (Nat.le_refl _) j1 j2)
theorem ML.chB(h:ML key a b out ia ib) (hk:ib+k<=b.size) (q:ia<a.size->∀i,ib<=i->i<ib+k->kl key (gA b i) (gA a ia)):ML key a b (out++b.extract ib (ib+k)) ia (ib+k):=by
 have h':=h.swap;unfold ML at h ⊢;rw[fN hk]at h';rw[Array.toList_append];refine(h'.take fun x hx y hy=>?_).swap;obtain⟨i,i1,i2,rfl⟩:=eK hk hx;obtain⟨j,j1,j2,rfl⟩:=dn hy;exact KeyOrd.kle_trans (q (by lia) i i1 i2) (ML.ua h (Nat.le_refl _) j1 j2)
theorem o9{a:Array Keyed}{i:Nat}(h:i<a.size):out++a.extract i (i+1)=out.push (gA a i):=by
 apply Array.toList_inj.mp;have:=fN (a:=a) (i:=i) (k:=1) (by lia);rw[zE h]at this;rw[Array.toList_append,Array.toList_push];congr 1;have e:(a.extract i (i+1)).toList.length=1:=by simp;lia
 obtain⟨z,q⟩:=List.length_eq_one_iff.mp e;rw[q]at this ⊢;simp at this;rw[this]
theorem ML.puA(h:ML key a b out ia ib) (hk:ia<a.size) (q:ib<b.size->kl key (gA a ia) (gA b ib)):ML key a b (out.push (gA a ia)) (ia+1) ib:=by
 rw[<-o9 hk];exact h.chA hk fun hb i h1 h2=>by obtain rfl:i=ia:=(by lia);exact q hb
theorem ML.puB(h:ML key a b out ia ib) (hk:ib<b.size) (q:ia<a.size->kl key (gA b ib) (gA a ia)):ML key a b (out.push (gA b ib)) ia (ib+1):=by
 rw[<-o9 hk];exact h.chB hk fun hb i h1 h2=>by obtain rfl:i=ib:=(by lia);exact q hb
theorem kT{a:Array Keyed}{i:Nat}:(a.extract i a.size).toList=a.toList.drop i:=by
 rw[Array.toList_extract,List.extract_eq_take_drop,List.take_of_length_le (by simp)]
theorem ML.done(h:ML key a b out ia ib) (e:ib=b.size∨ia=a.size):FL key a b (out++a.extract ia a.size++b.extract ib b.size):=by
 unfold FL;rw[Array.toList_append,Array.toList_append,kT,kT];refine h.fin fun x hx y hy=>?_;obtain⟨i,i1,i2,rfl⟩:=dn hx;obtain⟨j,j1,j2,rfl⟩:=dn hy
 lia
theorem ML.lastA(h:ML key a b out ia ib) (e:ia+1=a.size) (hl:∀j,j<b.size->kl key (gA b j) (gA a (a.size-1))):FL key a b (out++b.extract ib b.size++a.extract ia a.size):=by
 unfold FL;rw[Array.toList_append,Array.toList_append,kT,kT];refine h.swap.fin fun x hx y hy=>?_;obtain⟨i,i1,i2,rfl⟩:=dn hy;obtain⟨j,j1,j2,rfl⟩:=dn hx;obtain rfl:i=a.size-1:=by lia
 exact hl j j2
end
section
variable{prog:Program}{w:World}{A:Around}{E:Value->Shared->Prop}{s:Shared}{O:KeyOrd}{key:Keyed->O.α}{a0:List Keyed}{κ:SortKind}{a b out:Array Keyed}{ia ib k:Nat}
structure Sg(st st':SortSt):Prop where
 k:kindOf st'=kindOf st
 a:arrOf st'=arrOf st
 p:pendingOf st'=pendingOf st
 f:failedOf st'=failedOf st
theorem je{x y:Keyed}:Ahd key false y x=true↔kl key x y:=by simp[Ahd,kl,KeyOrd.kle]
theorem rG{x y:Keyed}:Ahd key false y x=false↔O.blt (key y) (key x)=true:=by simp[Ahd]
theorem jh{x y:Keyed}:Ahd key true y x=true↔O.klt (key x) (key y):=by simp[Ahd,KeyOrd.klt]
theorem sU{x y:Keyed}:Ahd key true y x=false↔kl key y x:=by simp[Ahd,kl,KeyOrd.kle]
def yy:Array Keyed->Array Keyed->SM (Array Keyed):=sortPriv% PySem.Builtin.mergeLo
theorem DI{st:SortSt}{Q:Array Keyed->SortSt->Prop}(hA:gR prog w A s κ key a0) (hk:kindOf st=κ) (ha:∀i,i<a.size->gA a i∈a0) (hb:∀i,i<b.size->gA b i∈a0) (za:1<=a.size) (zb:1<=b.size)
  (h0:ML key a b #[] 0 0) (hf:kl key (gA b 0) (gA a 0)) (hl:∀j,j<b.size->kl key (gA b j) (gA a (a.size-1))) (h:∀r st',Sg st st'->FL key a b r->Q r st'):wpS (model prog w) A E s (yy a b) Q st:=by
 refine wpS_bind (wpS_lift (wpAny_rule ⟨rfl,?_⟩));dsimp only;refine wpS_bind (ba (by lia) ?_);have h1:ML key a b #[gA b 0] 0 1:=h0.puB zb fun _=>hf
 by_cases e1:1=b.size
 ·first|refine bJ (by simpa using e1) ?_|rw[if_pos (by simpa using e1)]
  exact wpS_pure (h _ _ ⟨rfl,rfl,rfl,rfl⟩ (h1.done (.inl e1)))
 ·first|refine bI (by simpa using e1) ?_|rw[if_neg (by simpa using e1)]
  by_cases e2:0+1=a.size
  ·first|refine bJ (by simpa using e2) ?_|rw[if_pos (by simpa using e2)]
   exact wpS_pure (h _ _ ⟨rfl,rfl,rfl,rfl⟩ (h1.lastA e2 hl))
  ·first|refine bI (by simpa using e2) ?_|rw[if_neg (by simpa using e2)]
   refine wpS_bind (wpS_get ?_);refine wpS_bind (wpS_mono (wpS_forRange (I:=fun x c st'=>Sg st st'/\∃out ia ib g,c=(none,out,ia,ib,g)/\ML key a b out ia ib/\ia+1<a.size/\ib<b.size/\x<=ia+ib)
    (Q:=fun c st'=>Sg st st'/\∃r c',c=(some r,c')/\FL key a b r) ?_ ?_ ⟨⟨rfl,rfl,rfl,rfl⟩,_,_,_,_,rfl,h1,by lia,by lia,by lia⟩) ?_)
   ·intro x c st1 _ hx hI';refine bO fun _ bk=>?_;obtain⟨sg,out,ia,ib,g,rfl,m,la,lb,pr⟩:=hI';refine bk ?_;clear bk;dsimp only;refine wpS_bind (wpS_mono (wpS_forRange (I:=fun y c st'=>Sg st st'/\∃out ia ib ac bc,c=(none,out,ia,ib,ac,bc)/\ML key a b out ia ib/\ia+1<a.size/\ib<b.size/\x+min y 1<=ia+ib)
     (Q:=fun c st'=>Sg st st'/\((∃r c',c=(some r,c')/\FL key a b r)∨∃out ia ib ac bc,c=(none,out,ia,ib,ac,bc)/\ML key a b out ia ib/\ia+1<a.size/\ib<b.size/\x+1<=ia+ib)) ?_ ?_ ⟨sg,_,_,_,_,_,rfl,m,la,lb,by lia⟩) ?_)
    ·intro y c st2 _ hy hI';refine bO fun _ bk=>?_;obtain⟨sg,out,ia,ib,ac,bc,rfl,m,la,lb,pr⟩:=hI';refine bk ?_;clear bk;dsimp only;refine wpS_bind (ba lb (wpS_bind (ba (by lia) (wpS_bind (xc hA (sg.k.trans hk) (hb ib lb) (ha ia (by lia)) ?_)))));dsimp only;cases q:O.blt (key (gA b ib)) (key (gA a ia))with
     |true =>
      simp only[if_true];have m':=m.puB lb fun _=>iV q;refine wpS_bind (ba lb ?_)
      by_cases e:ib+1=b.size
      ·first|refine bJ (by simpa using e) ?_|rw[if_pos (by simpa using e)]
       exact wpS_pure ⟨sg,.inl ⟨_,_,rfl,m'.done (.inl e)⟩⟩
      ·first|refine bI (by simpa using e) ?_|rw[if_neg (by simpa using e)]
       split
       ·exact wpS_pure ⟨sg,.inr ⟨_,_,_,_,_,rfl,m',la,by lia,by lia⟩⟩
       ·exact wpS_pure ⟨sg,_,_,_,_,_,rfl,m',la,by lia,by lia⟩
     |false =>
      simp only[Bool.false_eq_true,if_false];have m':=m.puA (by lia) fun _=>qj q;refine wpS_bind (ba (by lia) ?_)
      by_cases e:ia+1+1=a.size
      ·first|refine bJ (by simpa using e) ?_|rw[if_pos (by simpa using e)]
       exact wpS_pure ⟨sg,.inl ⟨_,_,rfl,m'.lastA e hl⟩⟩
      ·first|refine bI (by simpa using e) ?_|rw[if_neg (by simpa using e)]
       split
       ·exact wpS_pure ⟨sg,.inr ⟨_,_,_,_,_,rfl,m',by lia,lb,by lia⟩⟩
       ·exact wpS_pure ⟨sg,_,_,_,_,_,rfl,m',by lia,lb,by lia⟩
    ·intro c st2 hI';refine bO fun _ bk=>?_;obtain⟨sg,out,ia,ib,ac,bc,rfl,m,la,lb,pr⟩:=hI';refine bk ?_;clear bk;exact⟨sg,.inr ⟨_,_,_,_,_,rfl,m,la,lb,by lia⟩⟩
    ·rintro c st2 ⟨sg,⟨r,c',rfl,fl⟩|⟨out,ia,ib,ac,bc,rfl,m,la,lb,pr⟩⟩
     ·exact wpS_pure ⟨sg,r,_,rfl,fl⟩
     ·dsimp only;refine wpS_bind (wpS_lift (wpAny_rule ⟨rfl,?_⟩));refine wpS_bind (wpS_mono (wpS_forRange (I:=fun y c st'=>Sg st st'/\∃out ia ib mg ac bc,c=(none,out,ia,ib,mg,ac,bc)/\ML key a b out ia ib/\ia+1<a.size/\ib<b.size/\x+1<=ia+ib)
       (Q:=fun c st'=>Sg st st'/\((∃r c',c=(some r,c')/\FL key a b r)∨∃out ia ib mg ac bc,c=(none,out,ia,ib,mg,ac,bc)/\ML key a b out ia ib/\ia+1<a.size/\ib<b.size/\x+1<=ia+ib)) ?_ ?_ ⟨sg,_,_,_,_,_,_,rfl,m,la,lb,by lia⟩) ?_)
      ·intro y c st2 _ hy hI';refine bO fun _ bk=>?_;obtain⟨sg,out,ia,ib,mg,ac,bc,rfl,m,la,lb,pr⟩:=hI';refine bk ?_;clear bk;dsimp only
       by_cases g0:mg > 1
       all_goals first|rw[if_pos g0]|rw[if_neg g0]
       all_goals
        refine wpS_bind (wpS_modify ?_);refine wpS_bind (ba lb (wpS_bind (eZ hA (sg.k.trans hk) (hb ib lb) (fun i hi=>ha _ (by lia)) (by lia) (by lia) (fun i j hij hj z=>je.mpr (KeyOrd.kle_trans (m.ua (by lia) (by lia) (by lia)) (je.mp z))) fun k hk1 hlt hge=>?_)));have up:∀i,ia+k<=i->i<a.size->kl key (gA b ib) (gA a i):=fun i i1 i2=>by
         have:=hge (i-ia) (by lia) (by lia);rw[show ia+(i-ia)=i by lia]at this;exact iV (rG.mp this)
        dsimp only
        by_cases k0:k > 0
        all_goals first
         |
          rw[if_pos k0];have m1:=m.chA (k:=k) (by lia) fun _ i i1 i2=>by
           have:=hlt (i-ia) (by lia);rw[show ia+(i-ia)=i by lia]at this;exact je.mp this
          by_cases e1:ia+k+1=a.size
          ·first|refine bJ (by simpa using e1) ?_|rw[if_pos (by simpa using e1)]
           exact wpS_pure ⟨⟨sg.k,sg.a,sg.p,sg.f⟩,.inl ⟨_,_,rfl,m1.lastA e1 hl⟩⟩
          first|refine bI (by simpa using e1) ?_|rw[if_neg (by simpa using e1)]
          by_cases e2:ia+k=a.size
          ·first|refine bJ (by simpa using e2) ?_|rw[if_pos (by simpa using e2)]
           exact wpS_pure ⟨⟨sg.k,sg.a,sg.p,sg.f⟩,.inl ⟨_,_,rfl,m1.done (.inr e2)⟩⟩
          first|refine bI (by simpa using e2) ?_|rw[if_neg (by simpa using e2)]
          have l1:ia+k+1<a.size:=by lia
         |
          rw[if_neg k0];obtain rfl:k=0:=by lia
          have m1:=m;have l1:=la
        all_goals
         have m2:=m1.puB lb fun z=>up _ (by lia) z;refine wpS_bind (ba lb ?_)
         by_cases e3:ib+1=b.size
         ·first|refine bJ (by simpa using e3) ?_|rw[if_pos (by simpa using e3)]
          exact wpS_pure ⟨⟨sg.k,sg.a,sg.p,sg.f⟩,.inl ⟨_,_,rfl,m2.done (.inl e3)⟩⟩
         ·first|refine bI (by simpa using e3) ?_|rw[if_neg (by simpa using e3)]
          refine wpS_bind (ba (by lia) (wpS_bind (eZ hA (sg.k.trans hk) (ha _ (by lia)) (fun i hi=>hb _ (by lia)) (by lia) (by lia) (fun i j hij hj z=>jh.mpr (KeyOrd.klt_of_kle_of_klt (m.ub (by lia) (by lia) (by lia)) (jh.mp z))) fun k' hk1' hlt' hge'=>?_)));dsimp only
          by_cases k0':k' > 0
          all_goals first
           |
            rw[if_pos k0'];have m3:=m2.chB (k:=k') (by lia) fun _ i i1 i2=>by
             have:=hlt' (i-(ib+1)) (by lia);rw[show ib+1+(i-(ib+1))=i by lia]at this;exact KeyOrd.kle_of_klt (jh.mp this)
            by_cases e4:ib+1+k'=b.size
            ·first|refine bJ (by simpa using e4) ?_|rw[if_pos (by simpa using e4)]
             exact wpS_pure ⟨⟨sg.k,sg.a,sg.p,sg.f⟩,.inl ⟨_,_,rfl,m3.done (.inl e4)⟩⟩
            first|refine bI (by simpa using e4) ?_|rw[if_neg (by simpa using e4)]
            have l3:ib+1+k'<b.size:=by lia
           |
            rw[if_neg k0'];obtain rfl:k'=0:=by lia
            have m3:=m2;have l3:ib+1<b.size:=by lia
          all_goals
           have m4:=m3.puA (by lia) fun z=>sU.mp (hge' _ (Nat.le_refl _) (by lia));refine wpS_bind (ba (by lia) ?_)
           split
           ·rename_i e5;exact wpS_pure ⟨⟨sg.k,sg.a,sg.p,sg.f⟩,.inl ⟨_,_,rfl,m4.lastA (by simpa using e5) hl⟩⟩
           ·rename_i e5;simp only[beq_iff_eq]at e5
            split
            ·exact wpS_pure ⟨⟨sg.k,sg.a,sg.p,sg.f⟩,.inr ⟨_,_,_,_,_,_,rfl,m4,by lia,l3,by lia⟩⟩
            ·exact wpS_pure ⟨⟨sg.k,sg.a,sg.p,sg.f⟩,_,_,_,_,_,_,rfl,m4,by lia,l3,by lia⟩
      ·intro c st2 hI';refine bO fun _ bk=>?_;obtain⟨sg,out,ia,ib,mg,ac,bc,rfl,m,la,lb,pr⟩:=hI';refine bk ?_;clear bk;exact⟨sg,.inr ⟨_,_,_,_,_,_,rfl,m,la,lb,by lia⟩⟩
      ·rintro c st2 ⟨sg,⟨r,c',rfl,fl⟩|⟨out,ia,ib,mg,ac,bc,rfl,m,la,lb,pr⟩⟩
       ·exact wpS_pure ⟨sg,r,_,rfl,fl⟩
       ·dsimp only;refine wpS_bind (wpS_modify (wpS_pure ⟨⟨sg.k,sg.a,sg.p,sg.f⟩,_,_,_,_,rfl,m,la,lb,by lia⟩))
   ·intro c st1 hI';refine bO fun _ bk=>?_;obtain⟨sg,out,ia,ib,g,rfl,m,la,lb,pr⟩:=hI';refine bk ?_;clear bk
    lia
   ·intro c st1 hI';refine bO fun _ bk=>?_;obtain⟨sg,r,c',rfl,fl⟩:=hI';refine bk ?_;clear bk;exact wpS_pure (h r _ sg fl)
end
theorem di{a:Array Keyed}{n:Nat}{x:Keyed}(hn:n<=a.size) (h:x∈(a.toList.take n).reverse):∃j,j<n/\x=gA a j:=by
 rw[List.mem_reverse]at h;obtain⟨j,e⟩:=List.mem_iff_getElem?.mp h;have hj:=(List.getElem?_eq_some_iff.mp e).1;rw[List.length_take]at hj;rw[List.getElem?_take_of_lt (by lia),cf (by lia)]at e;exact⟨j,by lia,(Option.some.inj e).symm⟩
theorem pZ{a:Array Keyed}{c n:Nat}(h:c<=n):(a.toList.take n).reverse=(a.extract c n).reverse.toList++(a.toList.take c).reverse:=by
 rw[Array.toList_reverse,Array.toList_extract,List.extract_eq_take_drop,<-List.reverse_append];congr 1;rw[<-List.take_add,show c+(n-c)=n by lia]
section
variable{prog:Program}{w:World}{A:Around}{E:Value->Shared->Prop}{s:Shared}{O:KeyOrd}{key:Keyed->O.α}{a0:List Keyed}{κ:SortKind}{a b out:Array Keyed}{na nb c:Nat}
def MH(key:Keyed->O.α) (a b out:Array Keyed) (na nb:Nat):Prop:=MS (fun x y=>kl key y x) (a.toList++b.toList) out.toList (a.toList.take na).reverse (b.toList.take nb).reverse
theorem kL{a:Array Keyed}{n i j:Nat}(hn:n<=a.size) (h:(a.toList.take n).reverse.Pairwise fun x y=>kl key y x) (hij:i<=j) (hj:j<n):kl key (gA a i) (gA a j):=by
 rcases Nat.lt_or_ge i j with lt|ge
 ·have:=List.pairwise_iff_getElem.mp (List.pairwise_reverse.mp h) i j (by simp;lia) (by simp;lia) lt;rw[List.getElem_take,List.getElem_take]at this;have e1:=cf (a:=a) (i:=i) (by lia);have e2:=cf (a:=a) (i:=j) (by lia);rw[List.getElem?_eq_getElem (by simp;lia)]at e1 e2;rw[<-Option.some.inj e1,<-Option.some.inj e2];exact this
 ·obtain rfl:i=j:=by lia
  exact KeyOrd.kle_refl _
theorem MH.chA(h:MH key a b out na nb) (za:na<=a.size) (zb:nb<=b.size) (hc:c<=na) (q:0<nb->∀i,c<=i->i<na->kl key (gA b (nb-1)) (gA a i)):MH key a b (out++(a.extract c na).reverse) c nb:=by
 have h':=h;unfold MH at h' ⊢;rw[pZ hc]at h';rw[Array.toList_append];refine h'.take fun x hx y hy=>?_;rw[Array.toList_reverse,List.mem_reverse]at hx;obtain⟨i,i1,i2,rfl⟩:=eK za hx;obtain⟨j,j1,rfl⟩:=di zb hy;exact KeyOrd.kle_trans (kL zb h.sb (i:=j) (j:=nb-1) (by lia) (by lia)) (q (by lia) i i1 i2)
theorem MH.chB(h:MH key a b out na nb) (za:na<=a.size) (zb:nb<=b.size) (hc:c<=nb) (q:0<na->∀i,c<=i->i<nb->kl key (gA a (na-1)) (gA b i)):MH key a b (out++(b.extract c nb).reverse) na c:=by
 have h':=h.swap;unfold MH at h ⊢;rw[pZ hc]at h';rw[Array.toList_append];refine(h'.take fun x hx y hy=>?_).swap;rw[Array.toList_reverse,List.mem_reverse]at hx;obtain⟨i,i1,i2,rfl⟩:=eK zb hx;obtain⟨j,j1,rfl⟩:=di za hy;exact KeyOrd.kle_trans (kL za h.sa (i:=j) (j:=na-1) (by lia) (by lia)) (q (by lia) i i1 i2)
theorem qG{a:Array Keyed}{n:Nat}(h1:1<=n) (h:n<=a.size):out++(a.extract (n-1) n).reverse=out.push (gA a (n-1)):=by
 have:=o9 (out:=#[]) (a:=a) (i:=n-1) (by lia);rw[show n-1+1=n by lia,Array.empty_append]at this;rw[this];simp
theorem MH.puA(h:MH key a b out na nb) (h1:1<=na) (za:na<=a.size) (zb:nb<=b.size) (q:0<nb->kl key (gA b (nb-1)) (gA a (na-1))):MH key a b (out.push (gA a (na-1))) (na-1) nb:=by
 rw[<-qG h1 za];exact h.chA za zb (by lia) fun hb i i1 i2=>by obtain rfl:i=na-1:=(by lia);exact q hb
theorem MH.puB(h:MH key a b out na nb) (h1:1<=nb) (za:na<=a.size) (zb:nb<=b.size) (q:0<na->kl key (gA a (na-1)) (gA b (nb-1))):MH key a b (out.push (gA b (nb-1))) na (nb-1):=by
 rw[<-qG h1 zb];exact h.chB za zb (by lia) fun hb i i1 i2=>by obtain rfl:i=nb-1:=(by lia);exact q hb
theorem tM{a:Array Keyed}{n:Nat}:(a.extract 0 n).toList=a.toList.take n:=by
 rw[Array.toList_extract,List.extract_eq_take_drop,List.drop_zero,Nat.sub_zero]
theorem v7{tot r:List Keyed}(h:Fn (fun x y=>kl key y x) tot r):Fn (kl key) tot r.reverse:=⟨(List.reverse_perm r).trans h.1,List.pairwise_reverse.mpr h.2⟩
theorem MH.done(h:MH key a b out na nb) (za:na<=a.size) (zb:nb<=b.size) (e:na=0∨nb=0):FL key a b (a.extract 0 na++b.extract 0 nb++out.reverse):=by
 have:=v7 (h.swap.fin fun y hy x hx=>by
  obtain⟨j,j1,rfl⟩:=di zb hy;obtain⟨i,i1,rfl⟩:=di za hx
  lia)
 unfold FL;rw[Array.toList_append,Array.toList_append,tM,tM,Array.toList_reverse];simpa using this
theorem MH.firstB(h:MH key a b out na nb) (za:na<=a.size) (zb:nb<=b.size) (e:nb=1) (hf:∀i,i<a.size->kl key (gA b 0) (gA a i)):FL key a b (b.extract 0 nb++a.extract 0 na++out.reverse):=by
 have:=v7 (h.fin fun x hx y hy=>by
  obtain⟨j,j1,rfl⟩:=di zb hy;obtain⟨i,i1,rfl⟩:=di za hx;obtain rfl:j=0:=by lia
  exact hf i (by lia))
 unfold FL;rw[Array.toList_append,Array.toList_append,tM,tM,Array.toList_reverse];simpa using this
def xl:Array Keyed->Array Keyed->SM (Array Keyed):=sortPriv% PySem.Builtin.mergeHi
theorem Fx{st:SortSt}{Q:Array Keyed->SortSt->Prop}(hA:gR prog w A s κ key a0) (hk:kindOf st=κ) (ha:∀i,i<a.size->gA a i∈a0) (hb:∀i,i<b.size->gA b i∈a0) (za:1<=a.size) (zb:1<=b.size)
  (h0:MH key a b #[] a.size b.size) (hf:∀i,i<a.size->kl key (gA b 0) (gA a i)) (hl:kl key (gA b (b.size-1)) (gA a (a.size-1))) (h:∀r st',Sg st st'->FL key a b r->Q r st'):wpS (model prog w) A E s (xl a b) Q st:=by
 refine wpS_bind (wpS_lift (wpAny_rule ⟨rfl,?_⟩));dsimp only;refine wpS_bind (ba (by lia) ?_);have h1:MH key a b #[gA a (a.size-1)] (a.size-1) b.size:=h0.puA za (Nat.le_refl _) (Nat.le_refl _) fun _=>hl
 by_cases e1:a.size-1=0
 ·first|refine bJ (by simpa using e1) ?_|rw[if_pos (by simpa using e1)]
  exact wpS_pure (h _ _ ⟨rfl,rfl,rfl,rfl⟩ (h1.done (by lia) (by lia) (.inl e1)))
 ·first|refine bI (by simpa using e1) ?_|rw[if_neg (by simpa using e1)]
  by_cases e2:b.size=1
  ·first|refine bJ (by simpa using e2) ?_|rw[if_pos (by simpa using e2)]
   exact wpS_pure (h _ _ ⟨rfl,rfl,rfl,rfl⟩ (h1.firstB (by lia) (by lia) e2 hf))
  ·first|refine bI (by simpa using e2) ?_|rw[if_neg (by simpa using e2)]
   refine wpS_bind (wpS_get ?_);refine wpS_bind (wpS_mono (wpS_forRange (I:=fun x c st'=>Sg st st'/\∃out na nb g,c=(none,na,nb,out,g)/\MH key a b out na nb/\1<=na/\na<=a.size/\1<nb/\nb<=b.size/\x+na+nb<=a.size+b.size)
    (Q:=fun c st'=>Sg st st'/\∃r c',c=(some r,c')/\FL key a b r) ?_ ?_ ⟨⟨rfl,rfl,rfl,rfl⟩,_,_,_,_,rfl,h1,by lia,by lia,by lia,by lia,by lia⟩) ?_)
   ·intro x c st1 _ hx hI';refine bO fun _ bk=>?_;obtain⟨sg,out,na,nb,g,rfl,m,la,ua,lb,ub,pr⟩:=hI';refine bk ?_;clear bk;dsimp only;refine wpS_bind (wpS_mono (wpS_forRange (I:=fun y c st'=>Sg st st'/\∃out na nb ac bc,c=(none,na,nb,out,ac,bc)/\MH key a b out na nb/\1<=na/\na<=a.size/\1<nb/\nb<=b.size/\x+min y 1+na+nb<=a.size+b.size)
     (Q:=fun c st'=>Sg st st'/\((∃r c',c=(some r,c')/\FL key a b r)∨∃out na nb ac bc,c=(none,na,nb,out,ac,bc)/\MH key a b out na nb/\1<=na/\na<=a.size/\1<nb/\nb<=b.size/\x+1+na+nb<=a.size+b.size)) ?_ ?_ ⟨sg,_,_,_,_,_,rfl,m,la,ua,lb,ub,by lia⟩) ?_)
    ·intro y c st2 _ hy hI';refine bO fun _ bk=>?_;obtain⟨sg,out,na,nb,ac,bc,rfl,m,la,ua,lb,ub,pr⟩:=hI';refine bk ?_;clear bk;dsimp only;refine wpS_bind (ba (by lia) (wpS_bind (ba (by lia) (wpS_bind (xc hA (sg.k.trans hk) (hb _ (by lia)) (ha _ (by lia)) ?_)))));dsimp only;cases q:O.blt (key (gA b (nb-1))) (key (gA a (na-1)))with
     |true =>
      simp only[if_true];have m':=m.puA la ua ub fun _=>iV q;refine wpS_bind (ba (by lia) ?_)
      by_cases e:na-1=0
      ·first|refine bJ (by simpa using e) ?_|rw[if_pos (by simpa using e)]
       exact wpS_pure ⟨sg,.inl ⟨_,_,rfl,m'.done (by lia) ub (.inl e)⟩⟩
      ·first|refine bI (by simpa using e) ?_|rw[if_neg (by simpa using e)]
       split
       ·exact wpS_pure ⟨sg,.inr ⟨_,_,_,_,_,rfl,m',by lia,by lia,lb,ub,by lia⟩⟩
       ·exact wpS_pure ⟨sg,_,_,_,_,_,rfl,m',by lia,by lia,lb,ub,by lia⟩
     |false =>
      simp only[Bool.false_eq_true,if_false];have m':=m.puB (by lia) ua ub fun _=>qj q;refine wpS_bind (ba (by lia) ?_)
      by_cases e:nb-1=1
      ·first|refine bJ (by simpa using e) ?_|rw[if_pos (by simpa using e)]
       exact wpS_pure ⟨sg,.inl ⟨_,_,rfl,m'.firstB ua (by lia) e hf⟩⟩
      ·first|refine bI (by simpa using e) ?_|rw[if_neg (by simpa using e)]
       split
       ·exact wpS_pure ⟨sg,.inr ⟨_,_,_,_,_,rfl,m',la,ua,by lia,by lia,by lia⟩⟩
       ·exact wpS_pure ⟨sg,_,_,_,_,_,rfl,m',la,ua,by lia,by lia,by lia⟩
    ·intro c st2 hI';refine bO fun _ bk=>?_;obtain⟨sg,out,na,nb,ac,bc,rfl,m,la,ua,lb,ub,pr⟩:=hI';refine bk ?_;clear bk;exact⟨sg,.inr ⟨_,_,_,_,_,rfl,m,la,ua,lb,ub,by lia⟩⟩
    ·rintro c st2 ⟨sg,⟨r,c',rfl,fl⟩|⟨out,na,nb,ac,bc,rfl,m,la,ua,lb,ub,pr⟩⟩
     ·exact wpS_pure ⟨sg,r,_,rfl,fl⟩
     ·dsimp only;refine wpS_bind (wpS_lift (wpAny_rule ⟨rfl,?_⟩));refine wpS_bind (wpS_mono (wpS_forRange (I:=fun y c st'=>Sg st st'/\∃out na nb mg ac bc,c=(none,na,nb,out,mg,ac,bc)/\MH key a b out na nb/\1<=na/\na<=a.size/\1<nb/\nb<=b.size/\x+1+na+nb<=a.size+b.size)
       (Q:=fun c st'=>Sg st st'/\((∃r c',c=(some r,c')/\FL key a b r)∨∃out na nb mg ac bc,c=(none,na,nb,out,mg,ac,bc)/\MH key a b out na nb/\1<=na/\na<=a.size/\1<nb/\nb<=b.size/\x+1+na+nb<=a.size+b.size)) ?_ ?_ ⟨sg,_,_,_,_,_,_,rfl,m,la,ua,lb,ub,by lia⟩) ?_)
      ·intro y c st2 _ hy hI';refine bO fun _ bk=>?_;obtain⟨sg,out,na,nb,mg,ac,bc,rfl,m,la,ua,lb,ub,pr⟩:=hI';refine bk ?_;clear bk;dsimp only
       by_cases g0:mg > 1
       all_goals first|rw[if_pos g0]|rw[if_neg g0]
       all_goals
        refine wpS_bind (wpS_modify ?_);refine wpS_bind (ba (by lia) (wpS_bind (eZ hA (sg.k.trans hk) (hb _ (by lia)) (fun i hi=>ha _ (by lia)) (by lia) (by lia) (fun i j hij hj z=>je.mpr (KeyOrd.kle_trans (kL ua m.sa (by lia) (by lia)) (je.mp z))) fun c hc hlt hge=>?_)));simp only[Nat.zero_add]at hlt hge;dsimp only
        by_cases k0:na-c > 0
        all_goals first
         |
          rw[if_pos k0];have m1:=m.chA ua ub (c:=c) (by lia) fun _ i i1 i2=>iV (rG.mp (hge i i1 i2))
          by_cases e1:c=0
          ·first|refine bJ (by simpa using e1) ?_|rw[if_pos (by simpa using e1)]
           exact wpS_pure ⟨⟨sg.k,sg.a,sg.p,sg.f⟩,.inl ⟨_,_,rfl,m1.done (by lia) ub (.inl e1)⟩⟩
          first|refine bI (by simpa using e1) ?_|rw[if_neg (by simpa using e1)]
          have l1:1<=c:=by lia
          have u1:c<=a.size:=by lia
         |
          rw[if_neg k0];obtain rfl:c=na:=by lia
          have m1:=m;have l1:=la;have u1:=ua
        all_goals
         have m2:=m1.puB (by lia) u1 ub fun z=>je.mp (hlt _ (by lia));refine wpS_bind (ba (by lia) ?_)
         by_cases e3:nb-1=1
         ·first|refine bJ (by simpa using e3) ?_|rw[if_pos (by simpa using e3)]
          exact wpS_pure ⟨⟨sg.k,sg.a,sg.p,sg.f⟩,.inl ⟨_,_,rfl,m2.firstB u1 (by lia) e3 hf⟩⟩
         ·first|refine bI (by simpa using e3) ?_|rw[if_neg (by simpa using e3)]
          refine wpS_bind (ba (by lia) (wpS_bind (eZ hA (sg.k.trans hk) (ha _ (by lia)) (fun i hi=>hb _ (by lia)) (by lia) (by lia) (fun i j hij hj z=>jh.mpr (KeyOrd.klt_of_kle_of_klt (kL ub m.sb (by lia) (by lia)) (jh.mp z))) fun c' hc' hlt' hge'=>?_)));simp only[Nat.zero_add]at hlt' hge';dsimp only
          by_cases k0':nb-1-c' > 0
          all_goals first
           |
            rw[if_pos k0'];have m3:=m2.chB u1 (by lia) (c:=c') (by lia) fun _ i i1 i2=>sU.mp (hge' i i1 i2)
            by_cases e4:c'=1
            ·first|refine bJ (by simpa using e4) ?_|rw[if_pos (by simpa using e4)]
             exact wpS_pure ⟨⟨sg.k,sg.a,sg.p,sg.f⟩,.inl ⟨_,_,rfl,m3.firstB u1 (by lia) e4 hf⟩⟩
            first|refine bI (by simpa using e4) ?_|rw[if_neg (by simpa using e4)]
            by_cases e5:c'=0
            ·first|refine bJ (by simpa using e5) ?_|rw[if_pos (by simpa using e5)]
             exact wpS_pure ⟨⟨sg.k,sg.a,sg.p,sg.f⟩,.inl ⟨_,_,rfl,m3.done u1 (by lia) (.inr e5)⟩⟩
            first|refine bI (by simpa using e5) ?_|rw[if_neg (by simpa using e5)]
            have l3:1<c':=by lia
            have u3:c'<=b.size:=by lia
           |
            rw[if_neg k0'];obtain rfl:c'=nb-1:=by lia
            have m3:=m2;have l3:1<nb-1:=by lia
            have u3:nb-1<=b.size:=by lia
          all_goals
           have m4:=m3.puA l1 u1 u3 fun z=>KeyOrd.kle_of_klt (jh.mp (hlt' _ (by lia)));refine wpS_bind (ba (by lia) ?_)
           split
           ·rename_i e5;exact wpS_pure ⟨⟨sg.k,sg.a,sg.p,sg.f⟩,.inl ⟨_,_,rfl,m4.done (by lia) u3 (.inl (by simpa using e5))⟩⟩
           ·rename_i e5;simp only[beq_iff_eq]at e5
            split
            ·exact wpS_pure ⟨⟨sg.k,sg.a,sg.p,sg.f⟩,.inr ⟨_,_,_,_,_,_,rfl,m4,by lia,by lia,l3,u3,by lia⟩⟩
            ·exact wpS_pure ⟨⟨sg.k,sg.a,sg.p,sg.f⟩,_,_,_,_,_,_,rfl,m4,by lia,by lia,l3,u3,by lia⟩
      ·intro c st2 hI';refine bO fun _ bk=>?_;obtain⟨sg,out,na,nb,mg,ac,bc,rfl,m,la,ua,lb,ub,pr⟩:=hI';refine bk ?_;clear bk;exact⟨sg,.inr ⟨_,_,_,_,_,_,rfl,m,la,ua,lb,ub,by lia⟩⟩
      ·rintro c st2 ⟨sg,⟨r,c',rfl,fl⟩|⟨out,na,nb,mg,ac,bc,rfl,m,la,ua,lb,ub,pr⟩⟩
       ·exact wpS_pure ⟨sg,r,_,rfl,fl⟩
       ·dsimp only;refine wpS_bind (wpS_modify (wpS_pure ⟨⟨sg.k,sg.a,sg.p,sg.f⟩,_,_,_,_,rfl,m,la,ua,lb,ub,by lia⟩))
   ·intro c st1 hI';refine bO fun _ bk=>?_;obtain⟨sg,out,na,nb,g,rfl,m,la,ua,lb,ub,pr⟩:=hI';refine bk ?_;clear bk
    lia
   ·intro c st1 hI';refine bO fun _ bk=>?_;obtain⟨sg,r,c',rfl,fl⟩:=hI';refine bk ?_;clear bk;exact wpS_pure (h r _ sg fl)
end
theorem zq{M:Model}{A:Around}{E:Value->Shared->Prop}{s:Shared}{σ:Type}{v:σ}{Q:PUnit->σ->Prop}{st:σ}(h:Q ⟨⟩ v):wpS M A E s (set v:StateT σ Sem PUnit) Q st:=by
 unfold wpS;rw[StateT.run_set];exact wpAny_pure ⟨rfl,h⟩
abbrev cP(base:Nat) (l:List (Keyed×Nat)) (arr:Array Keyed):Array Keyed:=l.foldl (fun a x=>match x with|(p,j)=>a.setIfInBounds (base+j) p) arr
theorem h7{base:Nat}:∀{l:List Keyed}{n0:Nat}{arr:Array Keyed},base+n0+l.length<=arr.size->(cP base (l.zipIdx n0) arr).size=arr.size/\∀i,(cP base (l.zipIdx n0) arr)[i]?=if base+n0<=i/\i<base+n0+l.length then l[i-(base+n0)]? else arr[i]?
 |[],n0,arr,_=>⟨rfl,fun i=>by rw[if_neg (by simp)];rfl⟩
 |p::l,n0,arr,h=>by
  rw[List.length_cons]at h;obtain⟨h1,h2⟩:=h7 (base:=base) (l:=l) (n0:=n0+1) (arr:=arr.setIfInBounds (base+n0) p) (by simp;lia);refine⟨by rw[List.zipIdx_cons];simpa using h1,fun i=>?_⟩;rw[List.zipIdx_cons];refine(h2 i).trans ?_;rw[List.length_cons,Array.getElem?_setIfInBounds]
  by_cases a:i=base+n0
  ·subst a;rw[if_neg (by lia),if_pos rfl,if_pos (by lia),if_pos (by lia)];simp
  ·by_cases b:base+(n0+1)<=i/\i<base+(n0+1)+l.length
   ·rw[if_pos b,if_pos (by lia)];obtain⟨m,hm⟩:∃m,i-(base+n0)=m+1:=⟨i-(base+n0)-1,by lia⟩;rw[hm,List.getElem?_cons_succ,show i-(base+(n0+1))=m by lia]
   ·rw[if_neg b,if_neg (fun z=>a z.symm),if_neg (by lia)]
theorem qo{p:Nat}{l:List Keyed}{arr:Array Keyed}(h:p+l.length<=arr.size):(cP p l.zipIdx arr).toList=arr.toList.take p++(l++arr.toList.drop (p+l.length)):=by
 obtain⟨h1,h2⟩:=h7 (base:=p) (l:=l) (n0:=0) (arr:=arr) (by lia);have lt:(arr.toList.take p).length=p:=by rw[List.length_take,Array.length_toList];lia
 apply List.ext_getElem?;intro i;rw[Array.getElem?_toList,h2 i,Nat.add_zero,List.getElem?_append,List.getElem?_append,lt]
 by_cases a:i<p
 ·rw[if_neg (by lia),if_pos a,List.getElem?_take_of_lt a,Array.getElem?_toList]
 ·rw[if_neg a]
  by_cases b:i<p+l.length
  ·rw[if_pos (by lia),if_pos (by lia)]
  ·rw[if_neg (by lia),if_neg (by lia),List.getElem?_drop,Array.getElem?_toList];congr 1;lia
section
variable{prog:Program}{w:World}{A:Around}{E:Value->Shared->Prop}{s:Shared}{O:KeyOrd}{key:Keyed->O.α}{a0:List Keyed}{κ:SortKind}
theorem pj{arr:Array Keyed}{i j k:Nat}(h:i+k<j) (hj:j<=arr.size):gA (arr.extract i j) k=gA arr (i+k):=by
 refine pM ?_;rw[Array.getElem?_extract,if_pos (by lia)]
theorem AZ{arr:Array Keyed}{i j:Nat}(hj:j<=arr.size) (h:Up key arr i j):(arr.extract i j).toList.Pairwise (kl key):=by
 rw[List.pairwise_iff_getElem];intro x y hx hy hxy;simp only[Array.length_toList,Array.size_extract]at hx hy;have e1:=cf (a:=arr.extract i j) (i:=x) (by simp;lia);have e2:=cf (a:=arr.extract i j) (i:=y) (by simp;lia);rw[List.getElem?_eq_getElem (by simp;lia)]at e1 e2;rw[Option.some.inj e1,Option.some.inj e2,pj (by lia) hj,pj (by lia) hj];exact h _ _ (by lia) (by lia) (by lia)
theorem Ec{st:SortSt}{i sa na pw sb nb pw2:Nat}{Q:Bool->SortSt->Prop}(hA:gR prog w A s κ key a0) (hB:SB a0 κ st) (h1:(pendingOf st)[i]?=some (sa,na,pw)) (h2:(pendingOf st)[i+1]?=some (sb,nb,pw2)) (e:sb=sa+na) (pa:1<=na) (pb:1<=nb) (hz:sb+nb<=a0.length)
  (ua:Up key (arrOf st) sa sb) (ub:Up key (arrOf st) sb (sb+nb))
  (h:∀st',SB a0 κ st'->pendingOf st'=((pendingOf st).setIfInBounds i (sa,na+nb,pw)).eraseIdxIfInBounds (i+1)->Up key (arrOf st') sa (sb+nb)->Out sa (sb+nb) (arrOf st) (arrOf st')->Q true st'):wpS (model prog w) A E s (mergeAt' i) Q st:=by
 have sz:=hB.size;show wpS _ _ _ _ (Bind.bind _ _) _ _;refine wpS_bind (wpS_get ?_);dsimp only;rw[show(sortPriv% PySem.Builtin.SortState.pending) st=pendingOf st from rfl,h1,h2];dsimp only;refine wpS_bind (zq ?_);have join:(∀i j,sa<=i->i<sb->sb<=j->j<sb+nb->O.kle (kA key (arrOf st) i) (kA key (arrOf st) j))->Up key (arrOf st) sa (sb+nb):=fun q x y h0 hxy hy=>by
  rcases Nat.lt_or_ge y sb with h3|h3
  ·exact ua x y h0 hxy h3
  ·rcases Nat.lt_or_ge x sb with h4|h4
   ·exact q x y h0 h4 h3 hy
   ·exact ub x y h4 hxy hy
 refine wpS_bind (ba (by show sb<(arrOf st).size;lia) (wpS_bind (eZ hA hB.kind (hB.mem (by lia)) (fun j hj=>hB.mem (by lia)) (by show sa+na<=(arrOf st).size;lia) (by lia) (fun x y hxy hy z=>je.mpr (KeyOrd.kle_trans (ua (sa+x) (sa+y) (by lia) (by lia) (by lia)) (je.mp z))) fun k hk hlt hge=>?_)));have lo:∀x,sa<=x->x<sa+k->kl key (gA (arrOf st) x) (gA (arrOf st) sb):=fun x x1 x2=>by
  have:=je.mp (hlt (x-sa) (by lia))
  rwa [show sa+(x-sa)=x by lia]at this
 have up:∀x,sa+k<=x->x<sb->kl key (gA (arrOf st) sb) (gA (arrOf st) x):=fun x x1 x2=>by
  have:=rG.mp (hge (x-sa) (by lia) (by lia));rw[show sa+(x-sa)=x by lia]at this;exact iV this
 clear hlt hge;dsimp only
 by_cases e1:na-k=0
 ·first|refine bJ (by simpa using e1) ?_|rw[if_pos (by simpa using e1)]
  exact wpS_pure (h _ ⟨hB.perm,hB.kind,hB.fail⟩ rfl (join fun x y a b c d=>KeyOrd.kle_trans (lo x a (by lia)) (ub sb y (Nat.le_refl _) c d)) Out.refl)
 ·first|refine bI (by simpa using e1) ?_|rw[if_neg (by simpa using e1)]
  have el:sa+k+(na-k)-1=sb-1:=by lia
  rw[el];refine wpS_bind (ba (by show sb-1<(arrOf st).size;lia) (wpS_bind (eZ hA hB.kind (hB.mem (by lia)) (fun j hj=>hB.mem (by lia)) (by show sb+nb<=(arrOf st).size;lia) (by lia) (fun x y hxy hy z=>jh.mpr (KeyOrd.klt_of_kle_of_klt (ub (sb+x) (sb+y) (by lia) (by lia) (by lia)) (jh.mp z))) fun m hm hlt hge=>?_)));have lo2:∀x,sb<=x->x<sb+m->kl key (gA (arrOf st) x) (gA (arrOf st) (sb-1)):=fun x x1 x2=>by
   have:=jh.mp (hlt (x-sb) (by lia));rw[show sb+(x-sb)=x by lia]at this;exact KeyOrd.kle_of_klt this
  have up2:∀x,sb+m<=x->x<sb+nb->kl key (gA (arrOf st) (sb-1)) (gA (arrOf st) x):=fun x x1 x2=>by
   have:=sU.mp (hge (x-sb) (by lia) (by lia))
   rwa [show sb+(x-sb)=x by lia]at this
  clear hlt hge;dsimp only
  by_cases e2:m=0
  ·first|refine bJ (by simpa using e2) ?_|rw[if_pos (by simpa using e2)]
   exact wpS_pure (h _ ⟨hB.perm,hB.kind,hB.fail⟩ rfl (join fun x y a b c d=>KeyOrd.kle_trans (ua x (sb-1) a (by lia) (by lia)) (up2 y (by lia) d)) Out.refl)
  ·first|refine bI (by simpa using e2) ?_|rw[if_neg (by simpa using e2)]
   have zx:((arrOf st).extract (sa+k) sb).size=sb-(sa+k):=by simp;lia
   have zy:((arrOf st).extract sb (sb+m)).size=m:=by simp;lia
   have px:=AZ (i:=sa+k) (j:=sb) (by lia) (fun x y a b c=>ua x y (by lia) b c:Up key (arrOf st) (sa+k) sb);have py:=AZ (i:=sb) (j:=sb+m) (by lia) (fun x y a b c=>ub x y a b (by lia):Up key (arrOf st) sb (sb+m));have gx:∀j,j<sb-(sa+k)->gA ((arrOf st).extract (sa+k) sb) j=gA (arrOf st) (sa+k+j):=fun j hj=>pj (by lia) (by lia);have gy:∀j,j<m->gA ((arrOf st).extract sb (sb+m)) j=gA (arrOf st) (sb+j):=fun j hj=>pj (by lia) (by lia);have mx:∀z∈((arrOf st).extract (sa+k) sb).toList,∃x,sa+k<=x/\x<sb/\z=gA (arrOf st) x:=fun z hz'=>eK (by lia) hz';have my:∀z∈((arrOf st).extract sb (sb+m)).toList,∃x,sb<=x/\x<sb+m/\z=gA (arrOf st) x:=fun z hz'=>eK (by lia) hz';have seg:((arrOf st).extract (sa+k) sb).toList++((arrOf st).extract sb (sb+m)).toList=((arrOf st).toList.drop (sa+k)).take (sb+m-(sa+k)):=by
    have d1:=fN (a:=arrOf st) (i:=sa+k) (k:=sb-(sa+k)) (by lia);have d2:=fN (a:=arrOf st) (i:=sb) (k:=m) (by lia);rw[show sa+k+(sb-(sa+k))=sb by lia]at d1;rw[d1,d2,<-List.append_assoc,List.take_append_of_le_length (by simp;lia),List.take_of_length_le (by simp;lia)]
   have fin:∀r st',Sg (SortSt.mk' (kindOf st) (arrOf st) (((pendingOf st).setIfInBounds i (sa,na+nb,pw)).eraseIdxIfInBounds (i+1)) (gallopOf st) (failedOf st)) st'->FL key ((arrOf st).extract (sa+k) sb) ((arrOf st).extract sb (sb+m)) r ->
     Q true (setArr st' (cP (sa+k) r.toList.zipIdx (arrOf st'))):=fun r st' sg fl=>by
    have ea:arrOf st'=arrOf st:=sg.a;have lr:r.toList.length=sb+m-(sa+k):=by
     rw[fl.1.length_eq,List.length_append,Array.length_toList,Array.length_toList,zx,zy];lia
    have pl:=qo (p:=sa+k) (l:=r.toList) (arr:=arrOf st) (by lia);obtain⟨ps,pg⟩:=h7 (base:=sa+k) (l:=r.toList) (n0:=0) (arr:=arrOf st) (by lia);have hi:∀x,sa+k<=x->x<sb+m->∃z,(cP (sa+k) r.toList.zipIdx (arrOf st))[x]?=some z/\r.toList[x-(sa+k)]?=some z/\(z∈((arrOf st).extract (sa+k) sb).toList∨z∈((arrOf st).extract sb (sb+m)).toList):=fun x x1 x2=>by
     have lt:x-(sa+k)<r.toList.length:=by lia
     refine⟨r.toList[x-(sa+k)],?_,List.getElem?_eq_getElem lt,List.mem_append.mp (fl.1.mem_iff.mp (List.getElem_mem lt))⟩;rw[pg x,if_pos (by lia),Nat.add_zero,List.getElem?_eq_getElem lt]
    have ho:∀x,x<sa+k∨sb+m<=x->(cP (sa+k) r.toList.zipIdx (arrOf st))[x]?=(arrOf st)[x]?:=fun x hx=>by rw[pg x,if_neg (by lia)]
    have kz:∀{x z},(cP (sa+k) r.toList.zipIdx (arrOf st))[x]?=some z->kA key (cP (sa+k) r.toList.zipIdx (arrOf st)) x=key z:=fun q=>by unfold kA gA;rw[q];rfl
    rw[ea];refine h _ ⟨?_,sg.k.trans hB.kind,sg.f.trans hB.fail⟩ sg.p (fun x y h0 hxy hy=>?_) fun x hx=>?_
    ·refine List.Perm.trans ?_ hB.perm;show(cP (sa+k) r.toList.zipIdx (arrOf st)).toList.Perm _;have dd:(arrOf st).toList=(arrOf st).toList.take (sa+k)++(((arrOf st).toList.drop (sa+k)).take (sb+m-(sa+k))++(arrOf st).toList.drop (sa+k+(sb+m-(sa+k)))):=by
      rw[show(arrOf st).toList.drop (sa+k+(sb+m-(sa+k)))=((arrOf st).toList.drop (sa+k)).drop (sb+m-(sa+k))from(List.drop_drop ..).symm,List.take_append_drop,List.take_append_drop]
     rw[pl,lr];refine List.Perm.trans ?_ (List.Perm.of_eq dd.symm);rw[<-seg];exact(List.Perm.append_left _ (List.Perm.append_right _ fl.1))
    ·show O.kle (kA key (cP (sa+k) r.toList.zipIdx (arrOf st)) x) (kA key (cP (sa+k) r.toList.zipIdx (arrOf st)) y);rcases Nat.lt_or_ge x (sa+k)with x1|x1
     ·rw[bt (ho x (.inl x1))];rcases Nat.lt_or_ge y (sa+k)with y1|y1
      ·rw[bt (ho y (.inl y1))];exact ua x y h0 hxy (by lia)
      rcases Nat.lt_or_ge y (sb+m)with y2|y2
      ·obtain⟨z,z1,z2,z3⟩:=hi y y1 y2;rw[kz z1];rcases z3 with z3|z3
       ·obtain⟨t,t1,t2,rfl⟩:=mx z z3;exact ua x t h0 (by lia) t2
       ·obtain⟨t,t1,t2,rfl⟩:=my z z3;exact KeyOrd.kle_trans (lo x h0 x1) (ub sb t (Nat.le_refl _) t1 (by lia))
      ·rw[bt (ho y (.inr y2))];exact KeyOrd.kle_trans (lo x h0 x1) (ub sb y (Nat.le_refl _) (by lia) hy)
     rcases Nat.lt_or_ge x (sb+m)with x2|x2
     ·obtain⟨z,z1,z2,z3⟩:=hi x x1 x2;rcases Nat.lt_or_ge y (sb+m)with y2|y2
      ·obtain⟨u,u1,u2,u3⟩:=hi y (by lia) y2;rw[kz z1,kz u1];rcases Nat.lt_or_ge x y with q|q
       ·have:=List.pairwise_iff_getElem.mp fl.2 (x-(sa+k)) (y-(sa+k)) (by lia) (by lia) (by lia);rw[List.getElem?_eq_getElem (by lia)]at z2 u2
        rwa [Option.some.inj z2,Option.some.inj u2]at this
       ·obtain rfl:x=y:=by lia
        rw[z1]at u1;cases u1;exact KeyOrd.kle_refl _
      ·rw[kz z1,bt (ho y (.inr y2))];rcases z3 with z3|z3
       ·obtain⟨t,t1,t2,rfl⟩:=mx z z3;exact KeyOrd.kle_trans (ua t (sb-1) (by lia) (by lia) (by lia)) (up2 y y2 hy)
       ·obtain⟨t,t1,t2,rfl⟩:=my z z3;exact ub t y t1 (by lia) hy
     ·rw[bt (ho x (.inr x2)),bt (ho y (.inr (by lia)))];exact ub x y (by lia) hxy hy
    ·exact ho x (by lia)
   have last:∀(r:Array Keyed) (st':SortSt),Sg (SortSt.mk' (kindOf st) (arrOf st) (((pendingOf st).setIfInBounds i (sa,na+nb,pw)).eraseIdxIfInBounds (i+1)) (gallopOf st) (failedOf st)) st'->failedOf st'=none:=fun r st' sg=>sg.f.trans hB.fail
   by_cases e3:na-k<=m
   all_goals first|rw[if_pos e3]|rw[if_neg e3]
   all_goals refine wpS_bind ?_
   ·refine DI (a:=(arrOf st).extract (sa+k) sb) (b:=(arrOf st).extract sb (sb+m)) hA hB.kind (fun j hj=>by rw[zx]at hj;rw[gx j hj];exact hB.mem (by lia)) (fun j hj=>by rw[zy]at hj;rw[gy j hj];exact hB.mem (by lia)) (by lia) (by lia) ⟨by simp,List.Pairwise.nil,by simp,by simp,by simpa using px,by simpa using py⟩ ?_ (fun j hj=>?_) fun r st' sg fl=>?_
    ·rw[gx 0 (by lia),gy 0 (by lia)];exact up _ (by lia) (by lia)
    ·rw[zy]at hj;rw[zx,gx _ (by lia),gy j hj];have:=lo2 (sb+j) (by lia) (by lia)
     rwa [show sa+k+(sb-(sa+k)-1)=sb-1 by lia]
    ·refine wpS_bind (wpS_modify (wpS_bind (wpS_get (wpS_pure ?_))));have:=fin r st' sg fl;rw[show(failedOf (setArr st' (cP (sa+k) r.toList.zipIdx (arrOf st')))).isNone=true by rw[show failedOf (setArr st' _)=failedOf st' from rfl,last r st' sg];rfl];exact this
   ·refine Fx (a:=(arrOf st).extract (sa+k) sb) (b:=(arrOf st).extract sb (sb+m)) hA hB.kind (fun j hj=>by rw[zx]at hj;rw[gx j hj];exact hB.mem (by lia)) (fun j hj=>by rw[zy]at hj;rw[gy j hj];exact hB.mem (by lia)) (by lia) (by lia) ⟨?_,List.Pairwise.nil,by simp,by simp,?_,?_⟩ (fun j hj=>?_) ?_ fun r st' sg fl=>?_
    ·rw[List.take_of_length_le (Nat.le_of_eq Array.length_toList),List.take_of_length_le (Nat.le_of_eq Array.length_toList)];exact(List.reverse_perm _).append (List.reverse_perm _)
    ·rw[List.take_of_length_le (Nat.le_of_eq Array.length_toList)];exact List.pairwise_reverse.mpr px
    ·rw[List.take_of_length_le (Nat.le_of_eq Array.length_toList)];exact List.pairwise_reverse.mpr py
    ·rw[zx]at hj;rw[gx j hj,gy 0 (by lia)];exact up _ (by lia) (by lia)
    ·rw[zx,zy,gx _ (by lia),gy _ (by lia)];have:=lo2 (sb+(m-1)) (by lia) (by lia)
     rwa [show sa+k+(sb-(sa+k)-1)=sb-1 by lia]
    ·refine wpS_bind (wpS_modify (wpS_bind (wpS_get (wpS_pure ?_))));have:=fin r st' sg fl;rw[show(failedOf (setArr st' (cP (sa+k) r.toList.zipIdx (arrOf st')))).isNone=true by rw[show failedOf (setArr st' _)=failedOf st' from rfl,last r st' sg];rfl];exact this
end
section
variable{prog:Program}{w:World}{A:Around}{E:Value->Shared->Prop}{s:Shared}{O:KeyOrd}{key:Keyed->O.α}{a0:List Keyed}{κ:SortKind}
def Stk(key:Keyed->O.α) (xs:Array Keyed):Nat->List (Nat×Nat×Nat)->Nat->Prop
 |b,[],e=>b=e
 |b,p::aH,e=>p.1=b/\1<=p.2.1/\Up key xs b (b+p.2.1)/\Stk key xs (b+p.2.1) aH e
theorem Stk.app{xs:Array Keyed}:∀{p q:List (Nat×Nat×Nat)}{b e:Nat},Stk key xs b (p++q) e↔∃m,Stk key xs b p m/\Stk key xs m q e
 |[],q,b,e=>⟨fun h=>⟨b,rfl,h⟩,fun⟨m,h1,h2⟩=>by cases h1;exact h2⟩
 |x::p,q,b,e=>by
  simp only[List.cons_append,Stk,Stk.app (p:=p)];exact⟨fun⟨a,b,c,m,d,e⟩=>⟨m,⟨a,b,c,d⟩,e⟩,fun⟨m,⟨a,b,c,d⟩,e⟩=>⟨a,b,c,m,d,e⟩⟩
theorem Stk.len{xs:Array Keyed}:∀{p:List (Nat×Nat×Nat)}{b e:Nat},Stk key xs b p e->b+p.length<=e
 |[],b,e,h=>by cases h;simp
 |x::p,b,e,h=>by
  have:=h.2.2.2.len;have:=h.2.1;simp only[List.length_cons];lia
theorem Stk.out{xs ys:Array Keyed}{lo hi:Nat}(o:Out lo hi xs ys):∀{p:List (Nat×Nat×Nat)}{b e:Nat},Stk key xs b p e->e<=lo∨hi<=b->Stk key ys b p e
 |[],b,e,h,_=>h
 |x::p,b,e,h,d=>by
  have l:=h.2.2.2.len;exact⟨h.1,h.2.1,h.2.2.1.out o (by lia),h.2.2.2.out o (by lia)⟩
def SRt(key:Keyed->O.α) (a0:List Keyed) (κ:SortKind) (lo:Nat) (st:SortSt):Prop:=SB a0 κ st/\Stk key (arrOf st) 0 (pendingOf st).toList lo/\lo<=a0.length
theorem yp{α:Type}:∀{l:List α}{i:Nat},i+1<l.length->∃p x y q,l=p++x::y::q/\p.length=i
 |x::y::l,0,_=>⟨[],x,y,l,rfl,rfl⟩
 |x::l,i+1,h=>by
  obtain⟨p,a,b,q,e,z⟩:=yp (l:=l) (i:=i) (by simpa using h);exact⟨x::p,a,b,q,by rw[e];rfl,by simp[z]⟩
theorem xw{st:SortSt}{i lo:Nat}{Q:Bool->SortSt->Prop}(hA:gR prog w A s κ key a0) (hS:SRt key a0 κ lo st) (hi:i+1<(pendingOf st).size)
  (h:∀st',SRt key a0 κ lo st'->(pendingOf st').size+1=(pendingOf st).size->Out 0 lo (arrOf st) (arrOf st')->(pendingOf st').size=0∨True->Q true st'):wpS (model prog w) A E s (mergeAt' i) Q st:=by
 obtain⟨hB,hT,hl⟩:=hS;obtain⟨p,x,y,q,e,z⟩:=yp (l:=(pendingOf st).toList) (i:=i) (by simpa using hi);rw[e,Stk.app]at hT;obtain⟨m,t1,t2⟩:=hT;obtain⟨x1,x2,x3,y1,y2,y3,t3⟩:=t2;have l3:=t3.len;obtain⟨sa,na,pw⟩:=x;obtain⟨sb,nb,pw2⟩:=y;dsimp only at x1 x2 x3 y1 y2 y3 t3 l3;subst x1;have g1:(pendingOf st)[i]?=some (sa,na,pw):=by rw[<-Array.getElem?_toList,e,<-z];simp
 have g2:(pendingOf st)[i+1]?=some (sb,nb,pw2):=by rw[<-Array.getElem?_toList,e,<-z];simp
 refine Ec hA hB g1 g2 y1 x2 y2 (by lia) (by rw[y1];exact x3) (by rw[y1];exact y3) fun st' hB' hp hu ho=>?_;have ep:(pendingOf st').toList=p++(sa,na+nb,pw)::q:=by
  rw[hp,Array.toList_eraseIdxIfInBounds,Array.toList_setIfInBounds,e,<-z];simp[List.set_append,List.eraseIdx_append];intro z';lia
 have l1:=t1.len;refine h st' ⟨hB',?_,hl⟩ ?_ (fun j hj=>ho j (by lia)) (.inr trivial)
 ·rw[ep,Stk.app];exact⟨sa,t1.out ho (by lia),rfl,by show 1<=na+nb;lia,by show Up key _ sa (sa+(na+nb));rw[<-Nat.add_assoc,<-y1];exact hu,by show Stk key _ (sa+(na+nb)) q lo;rw[<-Nat.add_assoc];exact t3.out ho (by lia)⟩
 ·have a1:=congrArg List.length ep;have a2:=congrArg List.length e;simp only[Array.length_toList,List.length_append,List.length_cons]at a1 a2
  lia
theorem Stk.cong{xs:Array Keyed}:∀{p q:List (Nat×Nat×Nat)}{b e:Nat},p.map (fun x=>(x.1,x.2.1))=q.map (fun x=>(x.1,x.2.1))->Stk key xs b p e->Stk key xs b q e
 |[],[],_,_,_,h=>h
 |x::p,y::q,b,e,z,h=>by
  simp only[List.map_cons,List.cons.injEq,Prod.mk.injEq]at z;simp only[Stk]at h ⊢;rw[<-z.1.1,<-z.1.2];exact⟨h.1,h.2.1,h.2.2.1,h.2.2.2.cong z.2⟩
 |[],_::_,_,_,z,_=>by simp at z
 |_::_,[],_,_,z,_=>by simp at z
theorem yX{p:Array (Nat×Nat×Nat)}{i:Nat}{f:Nat×Nat×Nat->Nat×Nat×Nat}(h:∀x,(f x).1=x.1/\(f x).2.1=x.2.1):p.toList.map (fun x=>(x.1,x.2.1))=(p.modify i f).toList.map (fun x=>(x.1,x.2.1)):=by
 rw[Array.toList_modify];apply List.ext_getElem?;intro j;rw[List.getElem?_map,List.getElem?_map,List.getElem?_modify];cases p.toList[j]? with
 |none=>rfl
 |some x=>by_cases e:i=j<;>simp[e,h]
theorem SRt.push{st:SortSt}{lo n:Nat}(hS:SRt key a0 κ lo st) (h1:1<=n) (h2:lo+n<=a0.length) (hu:Up key (arrOf st) lo (lo+n)):SRt key a0 κ (lo+n) (setPending st ((pendingOf st).push (lo,n,0))):=by
 refine⟨⟨hS.1.perm,hS.1.kind,hS.1.fail⟩,?_,h2⟩;show Stk key (arrOf st) 0 ((pendingOf st).push _).toList _;rw[Array.toList_push,Stk.app];exact⟨lo,hS.2.1,rfl,h1,hu,rfl⟩
theorem BI{c:Prop} [Decidable c] {x y n:Nat}(h1:x+1<n) (h2:y+1<n):(if c then x else y)+1<n:=by split<;>assumption
theorem CK{st:SortSt}{Q:Unit->SortSt->Prop}(hA:gR prog w A s κ key a0) (hB:SB a0 κ st) (hp:pendingOf st=#[]) (h2:2<=a0.length)
  (h:∀st',SB a0 κ st'->Up key (arrOf st') 0 a0.length->Q () st'):wpS (model prog w) A E s sortRuns' Q st:=by
 rw[sortRuns'_eq];refine wpS_bind (wpS_get ?_);dsimp only;generalize minRun' (arrOf st).size (arrOf st).size 0=mr;rw[hB.size];refine wpS_bind (wpS_mono (wpS_forRange (I:=fun x c st'=>∃lo,c=(none,lo)/\SRt key a0 κ lo st'/\(x<=lo∨lo=a0.length)) (Q:=fun c st'=>c=(none,a0.length)/\SRt key a0 κ a0.length st') ?step ?fin ⟨0,rfl,⟨hB,by rw[hp];rfl,Nat.zero_le _⟩,.inl (Nat.le_refl _)⟩) ?post)
 case fin =>
  intro c st' hI';refine bO fun _ bk=>?_;obtain⟨lo,rfl,hS,q⟩:=hI';refine bk ?_;clear bk;obtain rfl:lo=a0.length:=by have:=hS.2.2;lia
  exact⟨rfl,hS⟩
 case step =>
  intro x c st' _ hx hI';refine bO fun _ bk=>?_;obtain⟨lo,rfl,hS,q⟩:=hI';refine bk ?_;clear bk;dsimp only;have hl:=hS.2.2
  by_cases e:lo>=a0.length
  ·rw[if_pos e];obtain rfl:lo=a0.length:=by lia
   exact wpS_pure ⟨rfl,hS⟩
  ·rw[if_neg e];refine wpS_bind (zg hA hS.1 (nrem:=a0.length-lo) (by lia) (by lia) fun m st2 hB2 hp2 m1 m2 hu2 ho2=>?_);have T2:Stk key (arrOf st2) 0 (pendingOf st2).toList lo:=by rw[hp2];exact hS.2.1.out ho2 (.inl (Nat.le_refl _))
   clear ho2 hp2 hS;dsimp only;have S2:SRt key a0 κ lo st2:=⟨hB2,T2,hl⟩
   by_cases g:m<mr
   all_goals first
    |
     rw[if_pos g];refine wpS_bind (wpS_lift (wpAny_rule ⟨rfl,wpS_bind (Eo hA hB2 (n:=min (a0.length-lo) mr) (by lia) (by lia) hu2 fun st3 hB3 hp3 hu3 ho3=>?_)⟩));simp only[Bool.not_true,Bool.false_eq_true,if_false];have S3:SRt key a0 κ lo st3:=⟨hB3,by rw[hp3];exact T2.out ho3 (.inl (Nat.le_refl _)),hl⟩;have n1:1<=min (a0.length-lo) mr:=by lia
     have n2:lo+min (a0.length-lo) mr<=a0.length:=by lia
     clear ho3 hp3 hB3
    |
     rw[if_neg g];have S3:=S2;have hu3:=hu2;have n1:=m1;have n2:lo+m<=a0.length:=by lia
   all_goals
    clear T2 hB2 hu2 S2;refine wpS_bind (wpS_get ?_)
    split
    ·refine wpS_bind (wpS_mono (wpS_forRange (I:=fun _ c st'=>c=(none,())/\SRt key a0 κ lo st'/\Up key (arrOf st') lo (lo+_)) (Q:=fun c st'=>c=(none,())/\SRt key a0 κ lo st'/\Up key (arrOf st') lo (lo+_)) ?_ (fun _ _ z=>z) ⟨rfl,S3,hu3⟩) ?_)
     ·intro y c st4 _ _ hI';refine bO fun _ bk=>?_;obtain⟨rfl,S4,u4⟩:=hI';refine bk ?_;clear bk;refine wpS_bind (wpS_get ?_)
      by_cases e2:(pendingOf st4).size > 1
      ·rw[if_pos e2,Array.getElem?_eq_getElem (by lia)];dsimp only
       split
       ·exact wpS_pure ⟨rfl,S4,u4⟩
       ·refine wpS_bind (xw hA S4 (by lia) fun st5 S5 _ ho _=>?_);simp only[Bool.not_true,Bool.false_eq_true,if_false];exact wpS_pure ⟨rfl,S5,u4.out ho (.inr (Nat.le_refl _))⟩
      ·rw[if_neg e2];exact wpS_pure ⟨rfl,S4,u4⟩
     ·intro c st4 hI';refine bO fun _ bk=>?_;obtain⟨rfl,S4,u4⟩:=hI';refine bk ?_;clear bk;dsimp only;refine wpS_bind (wpS_modify (wpS_bind (wpS_modify (wpS_pure ⟨_,rfl,SRt.push ⟨⟨S4.1.perm,S4.1.kind,S4.1.fail⟩,S4.2.1.cong (yX fun x=>⟨rfl,rfl⟩),hl⟩ n1 n2 u4,by lia⟩))))
    ·exact wpS_bind (wpS_modify (wpS_pure ⟨_,rfl,S3.push n1 n2 hu3,by lia⟩))
 case post =>
  rintro c st' ⟨rfl,hS⟩;dsimp only;refine wpS_bind (wpS_mono (wpS_forRange (I:=fun x c st'=>c=(none,())/\SRt key a0 κ a0.length st'/\((pendingOf st').size+x<=a0.length∨(pendingOf st').size<=1)) (Q:=fun c st'=>c=(none,())/\SRt key a0 κ a0.length st'/\(pendingOf st').size<=1) ?_ ?_ ⟨rfl,hS,.inl ?_⟩) ?_)
  ·intro x c st2 _ hx hI';refine bO fun _ bk=>?_;obtain⟨rfl,S2,q⟩:=hI';refine bk ?_;clear bk;refine wpS_bind (wpS_get ?_)
   by_cases e:(pendingOf st2).size<=1
   ·rw[if_pos e];exact wpS_pure ⟨rfl,S2,e⟩
   ·rw[if_neg e];refine wpS_bind (xw hA S2 (BI (by lia) (by lia)) fun st3 S3 z _ _=>?_);simp only[Bool.not_true,Bool.false_eq_true,if_false];exact wpS_pure ⟨rfl,S3,by lia⟩
  ·intro c st2 hI';refine bO fun _ bk=>?_;obtain⟨rfl,S2,q⟩:=hI';refine bk ?_;clear bk;exact⟨rfl,S2,by lia⟩
  ·have:=hS.2.1.len;rw[Array.length_toList]at this
   lia
  ·intro c st2 hI';refine bO fun _ bk=>?_;obtain⟨rfl,S2,q⟩:=hI';refine bk ?_;clear bk;refine wpS_pure (h st2 S2.1 ?_);have T:=S2.2.1;have l:(pendingOf st2).toList.length<=1:=by rw[Array.length_toList];exact q
   match e:(pendingOf st2).toList,l with
   |[],_=>rw[e]at T;have:0=a0.length:=T;lia
   |[x],_ =>
    rw[e]at T;obtain⟨_,_,t3,t4⟩:=T;have t5:0+x.2.1=a0.length:=t4;rw[t5]at t3;exact t3
end
end L2
namespace L2
open PySem PySem.SetTable
theorem iO{α:Type}(xs:Array α) (p:Nat) (x:α):(insertAt xs p x).toList=xs.toList.take p++x::xs.toList.drop p:=by
 unfold insertAt;rw[Array.toList_append,Array.toList_push,Array.toList_extract,Array.toList_extract,List.extract_eq_take_drop,List.extract_eq_take_drop];rw[List.drop_zero,Nat.sub_zero,List.take_of_length_le (l:=xs.toList.drop p) (by simp)];simp
theorem gM{xs:Array Nat}{i d:Nat}:xs.getD i d=xs.toList[i]?.getD d:=by
 rw[Array.getElem?_toList]
 by_cases h:i<xs.size
 ·simp[Array.getD,h]
 ·simp[Array.getD,h]
theorem p8{xs:Array Nat}{p x:Nat}(hp:p<=xs.size) (i:Nat):(insertAt xs p x).getD i 0=if i<p then xs.getD i 0 else if i=p then x else xs.getD (i-1) 0:=by
 have hl:(xs.toList.take p).length=p:=by simp;lia
 rw[gM,iO,List.getElem?_append,hl]
 by_cases a:i<p
 ·rw[if_pos a,if_pos a,List.getElem?_take_of_lt a,gM]
 ·rw[if_neg a,if_neg a]
  by_cases b:i=p
  ·rw[if_pos b,b];simp
  ·rw[if_neg b];obtain⟨m,hm⟩:∃m,i-p=m+1:=⟨i-p-1,by lia⟩;rw[hm,List.getElem?_cons_succ,List.getElem?_drop,gM];congr 2;lia
theorem gf{α:Type}(xs:Array α) (p:Nat) (x:α) (hp:p<=xs.size):(insertAt xs p x).size=xs.size+1:=by
 rw[<-Array.length_toList,iO];simp;lia
theorem tJ{xs:Array Nat}{p x:Nat}(hp:p<=xs.size) {j:Nat}(h:Occ xs j):Occ (insertAt xs p x) j:=by
 obtain⟨i,hi,e⟩:=h
 by_cases a:i<p
 ·exact⟨i,by rw[gf _ _ _ hp];lia,by rw[p8 hp,if_pos a];exact e⟩
 ·exact⟨i+1,by rw[gf _ _ _ hp];lia,by rw[p8 hp,if_neg (by lia),if_neg (by lia)];exact e⟩
theorem TB.put{t:SetTable}{hs:List Int}(T:TB t hs) {h:Int}{n:Nat}(f0:¬ Occ t.place (pth t.mask h n).j) (f1:∀m,m<n->Occ t.place (pth t.mask h m).j) (few:t.place.size+1<=t.mask) :
  ∃p,p<=hs.length/\(t.put (pth t.mask h n).j).2=p/\TB (t.put (pth t.mask h n).j).1 (hs.take p++h::hs.drop p)/\(t.put (pth t.mask h n).j).1.led=t.led/\(t.put (pth t.mask h n).j).1.plain=t.plain/\(t.put (pth t.mask h n).j).1.mask=t.mask/\(t.put (pth t.mask h n).j).1.place.size=t.place.size+1:=by
 generalize hj:(pth t.mask h n).j=j at *
 have hjm:j<=t.mask:=by rw[<-hj];exact sP n
 obtain⟨b1,b2,b3⟩:=mv T.up j;have sz:=T.sz;have hd:has t.dummies j=false:=by rw[T.dm];rfl
 have e:t.put j=({ t with place:=insertAt t.place (below t.place j) j,dummies:=t.dummies },below t.place j):=by unfold SetTable.put;rw[hd];rfl
 rw[e];dsimp only;generalize hp:below t.place j=p at *
 have b3':∀i,p<=i->i<t.place.size->j<t.place.getD i 0:=fun i h1 h2=>by
  have:=b3 i h1 h2;rcases Nat.lt_or_ge j (t.place.getD i 0)with q|q
  ·exact q
  ·exact absurd ⟨i,h2,by lia⟩ f0
 have isz:=gf t.place p j b1;refine⟨p,by lia,rfl,⟨?_,?_,?_,T.dm,T.pw,by rw[isz];exact few,?_⟩,rfl,rfl,rfl,isz⟩
 ·show(insertAt t.place p j).size=_;rw[isz,List.length_append,List.length_take,List.length_cons,List.length_drop];lia
 ·intro i k hik hk;have hk':k<t.place.size+1:=by rw[<-isz];exact hk
  show(insertAt t.place p j).getD i 0<(insertAt t.place p j).getD k 0;rw[p8 b1,p8 b1]
  by_cases c1:i<p
  ·rw[if_pos c1]
   by_cases c2:k<p
   ·rw[if_pos c2];exact T.up i k hik (by lia)
   ·rw[if_neg c2]
    by_cases c3:k=p
    ·rw[if_pos c3];exact b2 i c1
    ·rw[if_neg c3];exact T.up i (k-1) (by lia) (by lia)
  ·rw[if_neg c1,if_neg (show ¬ k<p by lia),if_neg (show ¬ k=p by lia)]
   by_cases c3:i=p
   ·rw[if_pos c3];exact b3' _ (by lia) (by lia)
   ·rw[if_neg c3];exact T.up (i-1) (k-1) (by lia) (by lia)
 ·intro i hi;have hi':i<t.place.size+1:=by rw[<-isz];exact hi
  show(insertAt t.place p j).getD i 0<=t.mask;rw[p8 b1]
  by_cases c1:i<p
  ·rw[if_pos c1];exact T.le i (by lia)
  ·rw[if_neg c1]
   by_cases c3:i=p
   ·rw[if_pos c3];exact hjm
   ·rw[if_neg c3];exact T.le _ (by lia)
 ·intro i g hg;have hl:(hs.take p).length=p:=by simp;lia
  have old:∀i',hs[i']?=some g->(insertAt t.place p j).getD i 0=t.place.getD i' 0->∃n,(pth t.mask g n).j=(insertAt t.place p j).getD i 0/\∀m,m<n->Occ (insertAt t.place p j) (pth t.mask g m).j:=fun i' h1 h2=>by
   obtain⟨n',a,b⟩:=T.pr i' g h1;exact⟨n',by rw[a,h2],fun m hm=>tJ b1 (b m hm)⟩
  rw[List.getElem?_append,hl]at hg
  by_cases c1:i<p
  ·rw[if_pos c1,List.getElem?_take_of_lt c1]at hg;exact old i hg (by rw[p8 b1,if_pos c1])
  ·rw[if_neg c1]at hg
   by_cases c3:i=p
   ·rw[c3,Nat.sub_self,List.getElem?_cons_zero]at hg;cases hg;exact⟨n,by show _=(insertAt t.place p j).getD i 0;rw[p8 b1,if_neg c1,if_pos c3];exact hj,fun m hm=>tJ b1 (f1 m hm)⟩
   ·obtain⟨m,hm⟩:∃m,i-p=m+1:=⟨i-p-1,by lia⟩;rw[hm,List.getElem?_cons_succ,List.getElem?_drop]at hg;exact old _ hg (by rw[p8 b1,if_neg c1,if_neg c3];congr 1;lia)
variable{mask:Nat}{h:Int}
abbrev Ow:=Array (Option Nat)
def ocO(ow:Ow) (j:Nat):Prop:=ow.getD j (some 0)≠none
theorem ux{ow:Ow}(hs:ow.size=mask+1) {M:Nat}(hM:ow.getD (rs mask h M).1 (some 0)=none):∀F m n,m<=M->M-m<F->pth mask h n=atR mask (rs mask h m)->(∀l,l<n->ocO ow (pth mask h l).j) ->
  ∃n',layClean.free mask ow F (rs mask h m).1 (rs mask h m).2=some (pth mask h n').j/\ow.getD (pth mask h n').j (some 0)=none/\∀l,l<n'->ocO ow (pth mask h l).j
 |0,m,n,h1,h2,_,_=>by lia
 |F+1,m,n,h1,h2,e,oc=>by
  have lt:=AQ (mask:=mask) (h:=h) m;have len:runEnd mask (rs mask h m).1+1-(rs mask h m).1=runEnd mask (rs mask h m).1-(rs mask h m).1+1:=by
   have:(rs mask h m).1<=runEnd mask (rs mask h m).1:=by unfold runEnd;split<;>lia
   lia
  have jq:∀q,q<=runEnd mask (rs mask h m).1-(rs mask h m).1->(pth mask h (n+q)).j=(rs mask h m).1+q:=fun q hq=>by rw[oP e q hq]
  unfold layClean.free;rw[len];cases c:(List.range (runEnd mask (rs mask h m).1-(rs mask h m).1+1)).find? fun k=>(ow.getD ((rs mask h m).1+k) (some 0)).isNone with
  |some k =>
   dsimp only;have hk:=List.mem_range.mp (List.mem_of_find?_eq_some c);have hn:=List.find?_some c;refine⟨n+k,by rw[jq k (by lia)],by rw[jq k (by lia)];simpa using hn,fun l hl=>?_⟩;rcases Nat.lt_or_ge l n with a|a
   ·exact oc l a
   ·obtain⟨q,rfl⟩:∃q,l=n+q:=⟨l-n,by lia⟩;unfold ocO;rw[jq q (by lia)];intro z;obtain⟨as,bs,e1,e2⟩:=(List.find?_eq_some_iff_append.mp c).2;have:q∈as:=by
     have hq:q∈List.range (runEnd mask (rs mask h m).1-(rs mask h m).1+1):=List.mem_range.mpr (by lia);have srt:(as++k::bs).Pairwise (·<·):=by rw[<-e1];exact List.pairwise_lt_range
     rw[e1]at hq;rcases List.mem_append.mp hq with r|r
     ·exact r
     ·rw[List.pairwise_append]at srt;rcases List.mem_cons.mp r with r|r
      ·lia
      ·have:=(List.pairwise_cons.mp srt.2.1).1 q r;lia
    have:=e2 q this;rw[z]at this;simp at this
  |none =>
   dsimp only;have all:=List.find?_eq_none.mp c;have ne:m≠M:=fun z=>by
    subst z;have:=all 0 (List.mem_range.mpr (by lia));rw[Nat.add_zero,hM]at this;simp at this
   show ∃n',layClean.free mask ow F (rs mask h (m+1)).1 (rs mask h (m+1)).2=_/\_;refine ux hs hM F (m+1) (n+(runEnd mask (rs mask h m).1-(rs mask h m).1)+1) (by lia) (by lia) ?_ fun l hl=>?_
   ·show pA mask (pth mask h (n+_))=_;rw[oP e _ (Nat.le_refl _)];unfold pA;rw[if_neg (by simp)];rfl
   ·rcases Nat.lt_or_ge l n with a|a
    ·exact oc l a
    ·obtain⟨q,rfl⟩:∃q,l=n+q:=⟨l-n,by lia⟩;unfold ocO;rw[jq q (by lia)];intro z;have:=all q (List.mem_range.mpr (by lia));rw[z]at this;simp at this
def lv(mask:Nat) (ow:Ow):List (Nat×Nat):=(List.range (mask+1)).filterMap fun j=>(ow.getD j none).map (j,·)
theorem rQ{ow:Ow}{j:Nat}(hj:j<ow.size) (a b:Option Nat):ow.getD j a=ow.getD j b:=by simp[Array.getD,hj]
theorem B6{ow:Ow}(hs:ow.size=mask+1) {s k:Nat}(hl:s<=mask) (hn:ow.getD s none=none):(lv mask (ow.setIfInBounds s (some k))).Perm ((s,k)::lv mask ow):=by
 unfold lv;have sp:List.range (mask+1)=List.range s++s::(List.range' (s+1) (mask-s)):=by
  rw[List.range_eq_range',List.range_eq_range',show mask+1=s+(1+(mask-s))by lia,<-List.range'_append_1,<-List.range'_append_1];simp[Nat.add_comm]
 have same:∀l:List Nat,s∉l->(l.filterMap fun j=>((ow.setIfInBounds s (some k)).getD j none).map (j,·))=l.filterMap fun j=>(ow.getD j none).map (j,·):=fun l hl=>by
  induction l with
  |nil=>rfl
  |cons j l ih =>
   have this:s≠j:=fun z=>hl (z▸.head _);rw[List.filterMap_cons,List.filterMap_cons,ih fun z=>hl (.tail _ z)];simp only[Array.getD_eq_getD_getElem?,Array.getElem?_setIfInBounds,if_neg this]
 rw[sp,List.filterMap_append,List.filterMap_append,List.filterMap_cons,List.filterMap_cons,hn,same _ (by simp),same _ (fun z=>by obtain⟨x,_,z⟩:=List.mem_range'.mp z;lia)];have:(ow.setIfInBounds s (some k)).getD s none=some k:=by simp[Array.getD_eq_getD_getElem?,show s<ow.size by lia]
 rw[this];simp only[Option.map_some,Option.map_none];exact List.perm_middle
structure LC(mask:Nat) (hs:List Int) (ow:Ow) (k:Nat):Prop where
 sz:ow.size=mask+1
 perm:((lv mask ow).map (·.2)).Perm (List.range k)
 pr:∀j i h,ow.getD j none=some i->hs[i]?=some h->∃n,(pth mask h n).j=j/\∀m,m<n->ocO ow (pth mask h m).j
theorem BH{ow:Ow}(hs:ow.size=mask+1) {j i:Nat}(e:ow.getD j none=some i):(j,i)∈lv mask ow:=by
 have hj:j<ow.size:=by
  rcases Nat.lt_or_ge j ow.size with q|q
  ·exact q
  ·simp[Array.getD,show ¬ j<ow.size by lia]at e
 exact List.mem_filterMap.mpr ⟨j,List.mem_range.mpr (by lia),by rw[e];rfl⟩
theorem zL{ow:Ow}(hs:ow.size=mask+1) (few:(lv mask ow).length<=mask):∃j,j<=mask/\ow.getD j none=none:=by
 refine Classical.byContradiction fun c=>?_;have all:∀j∈List.range (mask+1),∃i,ow.getD j none=some i:=fun j hj=>by
  cases q:ow.getD j none with
  |none=>exact absurd ⟨j,by have:=List.mem_range.mp hj;lia,q⟩ c
  |some i=>exact⟨i,rfl⟩
 have:∀l:List Nat,(∀j∈l,∃i,ow.getD j none=some i)->(l.filterMap fun j=>(ow.getD j none).map (j,·)).length=l.length:=fun l=>by
  induction l with
  |nil=>exact fun _=>rfl
  |cons j l ih =>
   intro hl;obtain⟨i,e⟩:=hl j (.head _);rw[List.filterMap_cons,e];simp only[Option.map_some,List.length_cons];rw[ih fun x hx=>hl x (.tail _ hx)]
 have q:=this _ all;rw[List.length_range]at q;unfold lv at few
 lia
abbrev lcF(mask:Nat) (acc:Option (Ow×Nat)) (h:Int):Option (Ow×Nat):=do
 let(owner,k) <-acc
 let j <-layClean.free mask owner (turns mask) (bits h % (mask+1)) (bits h)
 pure (owner.setIfInBounds j (some k),k+1)
theorem Bj{e:Nat}(hk:mask+1=2 ^ e) {hs:List Int}(few:hs.length<=mask):∀(todo done:List Int) (ow:Ow),hs=done++todo->LC mask hs ow done.length->∃ow',todo.foldl (lcF mask) (some (ow,done.length))=some (ow',hs.length)/\LC mask hs ow' hs.length
 |[],done,ow,h0,L=>⟨ow,by rw[h0];simp,by rw[h0];simpa[h0]using L⟩
 |h::todo,done,ow,h0,L=>by
  have ll:(lv mask ow).length=done.length:=by have:=L.perm.length_eq;simpa using this
  have lt:done.length<hs.length:=by rw[h0];simp
  obtain⟨j,hj,nj⟩:=zL L.sz (by lia);obtain⟨m,_,hm,_,em,_⟩:=uv (mask:=mask) (h:=h) hk hj;obtain⟨n',f1,f2,f3⟩:=ux (mask:=mask) (h:=h) (ow:=ow) L.sz (M:=m) (by rw[em,rQ (by rw[L.sz];lia) (some 0) none];exact nj) (turns mask) 0 0 (Nat.zero_le _) (by unfold turns;lia) rfl (fun l hl=>by lia);have sl:=sP (mask:=mask) (h:=h) n';have st:lcF mask (some (ow,done.length)) h=some (ow.setIfInBounds (pth mask h n').j (some done.length),done.length+1):=by
   show(layClean.free mask ow (turns mask) (bits h % (mask+1)) (bits h) >>= fun j=>pure (ow.setIfInBounds j (some done.length),done.length+1))=_;have:layClean.free mask ow (turns mask) (bits h % (mask+1)) (bits h)=some (pth mask h n').j:=f1;rw[this];rfl
  rw[List.foldl_cons,st];generalize hsl:(pth mask h n').j=sl' at *
  have f2':ow.getD sl' none=none:=by rw[<-f2];exact rQ (by rw[L.sz];lia) _ _
  have oc':∀j,ocO ow j->ocO (ow.setIfInBounds sl' (some done.length)) j:=fun j hj z=>by
   unfold ocO at hj;simp only[Array.getD_eq_getD_getElem?,Array.getElem?_setIfInBounds]at z hj
   split at z
   ·split at z<;>simp at z
   ·exact hj z
  have:=Bj hk few todo (done++[h]) (ow.setIfInBounds sl' (some done.length)) (by rw[h0];simp) ⟨by rw[Array.size_setIfInBounds];exact L.sz,?_,?_⟩
  ·rw[List.length_append,List.length_singleton]at this;exact this
  ·rw[List.length_append,List.length_singleton,List.range_succ];refine((B6 L.sz sl f2').map _).trans ?_;rw[List.map_cons];exact(List.Perm.cons _ L.perm).trans (List.perm_append_singleton _ _).symm
  ·intro j i g hg hi
   by_cases c:sl'=j
   ·have:i=done.length:=by
     simp only[Array.getD_eq_getD_getElem?,Array.getElem?_setIfInBounds,if_pos c]at hg
     split at hg
     ·simpa using hg.symm
     ·simp at hg
    subst this;have:g=h:=by rw[h0,List.getElem?_append_right (Nat.le_refl _),Nat.sub_self,List.getElem?_cons_zero]at hi;exact(Option.some.inj hi).symm
    subst this;exact⟨n',by rw[hsl];exact c,fun m hm=>oc' _ (f3 m hm)⟩
   ·have hg':ow.getD j none=some i:=by
     simp only[Array.getD_eq_getD_getElem?,Array.getElem?_setIfInBounds,if_neg c]at hg ⊢;exact hg
    obtain⟨n,a,b⟩:=L.pr j i g hg' hi;exact⟨n,a,fun m hm=>oc' _ (b m hm)⟩
theorem rg(n:Nat):∀F k,n<2 ^ (k+F)->∃e,k<=e/\sizeAbove.go n F (2 ^ k)=2 ^ e/\n<2 ^ e/\(e=k∨2 ^ e<=2*n)
 |0,k,h=>⟨k,Nat.le_refl _,rfl,h,.inl rfl⟩
 |F+1,k,h=>by
  unfold sizeAbove.go
  by_cases c:2 ^ k<=n
  ·rw[if_pos c,show 2 ^ k*2=2 ^ (k+1)from(Nat.pow_succ ..).symm];obtain⟨e,h1,h2,h3,h4⟩:=rg n F (k+1) (by rw[show k+1+F=k+(F+1)by lia];exact h);refine⟨e,by lia,h2,h3,.inr ?_⟩;rcases h4 with h4|h4
   ·rw[h4,Nat.pow_succ];lia
   ·exact h4
  ·rw[if_neg c];exact⟨k,Nat.le_refl _,rfl,by lia,.inl rfl⟩
theorem rC{n:Nat}(h:n<2 ^ 60):∃e,3<=e/\sizeAbove n=2 ^ e/\n<2 ^ e/\(2 ^ e<=8∨2 ^ e<=2*n):=by
 obtain⟨e,h1,h2,h3,h4⟩:=rg n 64 3 (Nat.lt_trans h (by decide));exact⟨e,h1,h2,h3,h4.imp (fun z=>by rw[z];decide) id⟩
variable{mask:Nat}
theorem Ed(ow:Ow):((lv mask ow).map (·.1)).Pairwise (·<·):=by
 unfold lv;rw[List.map_filterMap,List.pairwise_filterMap];refine List.pairwise_lt_range.imp fun {a b} hab x hx y hy=>?_;cases qa:ow.getD a none with
 |none=>rw[qa]at hx;cases hx
 |some i =>
  cases qb:ow.getD b none with
  |none=>rw[qb]at hy;cases hy
  |some k =>
   rw[qa]at hx;rw[qb]at hy;cases hx;cases hy;exact hab
theorem AL{ow:Ow}{j i:Nat}(h:(j,i)∈lv mask ow):j<=mask/\ow.getD j none=some i:=by
 obtain⟨a,ha,e⟩:=List.mem_filterMap.mp h;have:=List.mem_range.mp ha;cases q:ow.getD a none with
 |none=>rw[q]at e;cases e
 |some k=>rw[q]at e;cases e;exact⟨by lia,q⟩
theorem zi{t:SetTable}{hs:List Int}{wanted:Nat}(h1:hs.length<=wanted) (h2:wanted<2 ^ 60) (h3:0<wanted):∃t' order,t.relaid hs.toArray wanted=some (t',order)/\t'.led=t.led/\t'.plain=t.plain/\t'.mask+1=sizeAbove wanted/\order.toList.Perm (List.range hs.length)/\t'.place.size=hs.length/\TB t' (order.toList.map fun k=>hs.getD k 0):=by
 obtain⟨e,e3,es,el,_⟩:=rC h2;have pos:0<2 ^ e:=Nat.two_pow_pos e;generalize hm:sizeAbove wanted-1=mask;have hk:mask+1=2 ^ e:=by lia
 have L0:LC mask hs (Array.replicate (mask+1) none) 0:=by
  have z:∀j,(Array.replicate (mask+1) (none:Option Nat)).getD j none=none:=fun j=>by
   rw[Array.getD_eq_getD_getElem?,Array.getElem?_replicate];split<;>rfl
  refine⟨by simp,?_,fun j i h q _=>by rw[z]at q;cases q⟩;have:lv mask (Array.replicate (mask+1) none)=[]:=by
   unfold lv;rw[List.filterMap_eq_nil_iff];intro j _;rw[z];rfl
  rw[this];exact .refl _
 obtain⟨ow,f,L⟩:=Bj hk (hs:=hs) (by lia) hs [] _ rfl L0;have hl:layClean mask hs.toArray=some ow:=by
  unfold layClean;rw[<-Array.foldl_toList];show(hs.foldl (lcF mask) (some (Array.replicate (mask+1) none,0))).map (·.1)=_;rw[show(0:Nat)=([]:List Int).length from rfl,f];rfl
 have hr:t.relaid hs.toArray wanted=some ({ mask,place:=((lv mask ow).map (·.1)).toArray,dummies:=#[],finger:=t.finger,led:=t.led,moves:=t.movedTo mask,plain:=t.plain },((lv mask ow).map (·.2)).toArray):=by
  unfold relaid laid;rw[hm,hl];rfl
 have ll:(lv mask ow).length=hs.length:=by have:=L.perm.length_eq;simpa using this
 have gl:∀i,((lv mask ow).map (·.1)).toArray.getD i 0=((lv mask ow)[i]?.map (·.1)).getD 0:=fun i=>by rw[gM];simp
 have psz:((lv mask ow).map (·.1)).toArray.size=hs.length:=by simp[ll]
 have occ:∀j,j<=mask->ocO ow j->Occ ((lv mask ow).map (·.1)).toArray j:=fun j hj q=>by
  cases c:ow.getD j none with
  |none=>exact absurd (by rw[rQ (by rw[L.sz];lia) (some 0) none];exact c) q
  |some i =>
   obtain⟨l,hl⟩:=List.mem_iff_getElem?.mp (BH L.sz c);exact⟨l,by rw[psz,<-ll];exact(List.getElem?_eq_some_iff.mp hl).1,by rw[gl,hl];rfl⟩
 refine⟨_,_,hr,rfl,rfl,by show mask+1=_;lia,by simpa using L.perm,psz,⟨by simp,?_,?_,rfl,⟨e,e3,hk⟩,by show((lv mask ow).map (·.1)).toArray.size<=mask;lia,?_⟩⟩
 ·intro i j hij hj;rw[psz]at hj;have:=List.pairwise_iff_getElem.mp (Ed (mask:=mask) ow) i j (by simp;lia) (by simp;lia) hij;show((lv mask ow).map (·.1)).toArray.getD i 0<((lv mask ow).map (·.1)).toArray.getD j 0;rw[gl,gl,List.getElem?_eq_getElem (by lia),List.getElem?_eq_getElem (by lia)];simpa using this
 ·intro i hi;rw[psz]at hi;show((lv mask ow).map (·.1)).toArray.getD i 0<=mask;rw[gl,List.getElem?_eq_getElem (by lia)];exact(AL (List.getElem_mem (by lia))).1
 ·intro i h hi;show ∃n,(pth mask h n).j=((lv mask ow).map (·.1)).toArray.getD i 0/\∀m,m<n->Occ ((lv mask ow).map (·.1)).toArray (pth mask h m).j;simp only[List.getElem?_map]at hi;cases c:(lv mask ow)[i]? with
  |none=>rw[c]at hi;cases hi
  |some jk =>
   obtain⟨j,k⟩:=jk;rw[c]at hi;have mem:=List.mem_of_getElem? c;have hk':k<hs.length:=List.mem_range.mp (L.perm.mem_iff.mp (List.mem_map.mpr ⟨_,mem,rfl⟩));have hh:hs[k]?=some h:=by
    have:hs.getD k 0=h:=by simpa using hi
    rw[List.getElem?_eq_getElem hk',<-this];simp[hk']
   obtain⟨n,a,b⟩:=L.pr j k h (AL mem).2 hh;exact⟨n,by rw[gl,c];exact a,fun m hm=>occ _ (sP m) (b m hm)⟩
end L2
namespace L2
open PySem PySem.SetTable PySem.SeqAt
structure TK(prog:Program) (w:World) (τ:Type) where
 is:Heap->τ->Value->Prop
 hash:τ->Int
 room:Around->Prop
 pyHash:∀{A:Around} {E:Value->Shared->Prop} {s:Shared} {x:τ} {v:Value} {Q:Int->Shared->Prop},room A->is s.heap x v->(∀t,s.toks<=t->Q (hash x) { s with toks:=t })->wpAny (model prog w) A (PySem.pyHash v) Q E s
 eqB:∀{A:Around} {s:Shared} {x y:τ} {v u:Value},room A->is s.heap x v->is s.heap y u->∃b:Bool,(b=true↔x=y)/\EqAt A s v u b
 quiet:∀{A:Around} {E:Value->Shared->Prop} {s:Shared} {x:τ} {v:Value} {Q:Bool->Shared->Prop},room A->is s.heap x v->Q true s->wpAny (model prog w) A (eqIsQuiet 8 v) Q E s
 noCls:∀{A:Around} {E:Value->Shared->Prop} {s:Shared} {x:τ} {v:Value} {Q:Bool->Shared->Prop},room A->is s.heap x v->Q false s->wpAny (model prog w) A (ofAClassStatement 8 v) Q E s
 byV:∀{A:Around} {E:Value->Shared->Prop} {s:Shared} {x:τ} {v:Value} {Q:Bool->Shared->Prop},room A->is s.heap x v->(∀b,Q b s)->wpAny (model prog w) A (hashByValue 8 v) Q E s
 ref:∀{h:Heap} {x:τ} {v:Value},is h x v->∃a,v=.ref a
variable{prog:Program}{w:World}{τ:Type}{κ:TK prog w τ}{A:Around}{E:Value->Shared->Prop}{s:Shared}
structure Els(κ:TK prog w τ) (h:Heap) (es:Array (Int×Value)) (zs:List τ):Prop where
 len:es.size=zs.length
 at_:∀(i:Nat) z,zs[i]?=some z->∃v,es[i]?=some (κ.hash z,v)/\κ.is h z v
def cX(es:Array (Int×Value)):List Int:=es.toList.map (·.1)
theorem Els.of{h:Heap}{es:Array (Int×Value)}{zs:List τ}(L:Els κ h es zs) {i:Nat}{e:Int×Value}(g:es[i]?=some e):∃z,zs[i]?=some z/\e.1=κ.hash z/\κ.is h z e.2:=by
 have hi:i<zs.length:=by rw[<-L.len];exact(Array.getElem?_eq_some_iff.mp g).1
 obtain⟨v,g',q⟩:=L.at_ i zs[i] (List.getElem?_eq_getElem hi);rw[g]at g';cases g';exact⟨_,List.getElem?_eq_getElem hi,rfl,q⟩
theorem EA{x:τ}{v:Value}(hr:κ.room A) (hx:κ.is s.heap x v) {Q:Bool->Shared->Prop}(h:Q false s):∀(l:List Value),(∀u∈l,∃y,κ.is s.heap y u)->wpAny (model prog w) A (searchCouldBeSeen v l) Q E s:=by
 intro l hl;unfold searchCouldBeSeen;refine wpAny_bind ?_;refine wpAny_forIn_list _ (fun aH b s'=>s'=s/\b=(none,())/\∀u∈aH,∃y,κ.is s.heap y u) _ ?_ ?_ _ _ ⟨rfl,rfl,hl⟩
 ·rintro u aH b s' ⟨rfl,rfl,hr'⟩;obtain⟨y,hy⟩:=hr' u (.head _);obtain⟨a,rfl⟩:=κ.ref hx;obtain⟨c,rfl⟩:=κ.ref hy;have rest':∀u∈aH,∃y,κ.is s'.heap y u:=fun u hu=>hr' u (.tail _ hu);dsimp only
  split
  ·exact wpAny_pure ⟨rfl,rfl,rest'⟩
  ·refine wpAny_bind (κ.quiet hr hx ?_);simp only[Bool.not_true,Bool.false_eq_true,if_false];refine wpAny_bind (κ.quiet hr hy ?_);simp only[Bool.not_true,Bool.false_eq_true,if_false];refine wpAny_bind (κ.noCls hr hx ?_);simp only[Bool.false_eq_true,if_false];refine wpAny_bind (κ.noCls hr hy ?_);simp only[Bool.false_eq_true,if_false];exact wpAny_pure ⟨rfl,rfl,rest'⟩
 ·rintro b s' ⟨rfl,rfl,_⟩;exact wpAny_pure h
theorem C3{a:Addr}{o:Obj}{es:Array (Int×Value)}{ep:Nat}{t:SetTable}{zs:List τ}{x:τ}{v:Value}{n0:Nat}(hr:κ.room A) (hx:κ.is s.heap x v) (ho:s.heap.get? a=some o) (hd:o.data=.set es ep t) (L:Els κ s.heap es zs) (T:TB t (cX es))
  (f0:¬ Occ t.place (pth t.mask (κ.hash x) n0).j) (f1:∀m,m<n0->Occ t.place (pth t.mask (κ.hash x) m).j) {Q:SetFound->Shared->Prop} (hy:x∈zs->∀i,Q (.there i) s) (hn:x∉zs->Q (.free (pth t.mask (κ.hash x) n0).j false) s) :
  ∀F n stand,stand.getD (t.probeStart (κ.hash x))=pth t.mask (κ.hash x) n->n<=n0->n0-n<F->n0<10*turns t.mask->(∀l,l<n->∀i,i<t.place.size->t.place.getD i 0=(pth t.mask (κ.hash x) l).j->zs[i]?≠some x)->wpAny (model prog w) A (setSearchFrom a v (κ.hash x) true F stand) Q E s:=by
 have lens:(cX es).length=es.size:=by simp[cX]
 have fit:t.fits es.size=true:=by
  unfold SetTable.fits fill;rw[T.dm,T.sz,lens];have:=T.few;rw[T.sz,lens]at this;simpa using this
 have gw:t.gaveWay=false:=by
  obtain⟨k,k3,hk⟩:=T.pw;unfold gaveWay;obtain⟨m,rfl⟩:∃m,k=m+1:=⟨k-1,by lia⟩;rw[Nat.pow_succ]at hk;have:t.mask % 2=1:=by lia
  rw[this];rfl
 have uniq:∀{i k},i<t.place.size->k<t.place.size->t.place.getD i 0=t.place.getD k 0->i=k:=fun {i k} hi hk e=>by
  rcases Nat.lt_trichotomy i k with q|q|q
  ·have:=T.up i k q hk;lia
  ·exact q
  ·have:=T.up k i q hi;lia
 intro F
 induction F with
 |zero=>intro n stand _ _ h3;lia
 |succ F ih =>
  intro n stand e h2 h3 h4 h5;unfold setSearchFrom;refine wpAny_bind (wpAny_setState_of ho hd fit ?_);dsimp only;rw[gw];simp only[Bool.false_eq_true,if_false];unfold SetTable.probe;rw[e];obtain⟨ha,hha⟩:∃ha:Nat->Int,ha=fun i=>(es[i]?.map (·.1)).getD 0:=⟨_,rfl⟩;obtain⟨m,m1,m2,m3,m4⟩:=qA T f0 f1 (ha:=ha) (10*turns t.mask) n h2 (by lia);have hat:∀(i:Nat) z,zs[i]?=some z->ha i=κ.hash z:=fun i z hz=>by
   obtain⟨u,g,_⟩:=L.at_ i z hz;rw[hha];simp[g]
  have skip:∀l,l<m->∀i,i<t.place.size->t.place.getD i 0=(pth t.mask (κ.hash x) l).j->zs[i]?≠some x:=fun l hl i hi he hz=>by
   rcases Nat.lt_or_ge l n with q|q
   ·exact h5 l q i hi he hz
   ·obtain⟨k,k1,k2,k3⟩:=m3 l q hl;obtain rfl:=uniq hi k1 (he.trans k2.symm);exact k3 (hat _ _ hz)
  rcases m4 with⟨rfl,em⟩|⟨mlt,i,i1,i2,i3,em⟩
  ·have em2:∀f:Nat->Int,f=ha->probe.go t f (κ.hash x) (10*turns t.mask) (pth t.mask (κ.hash x) n)=probe.go t ha (κ.hash x) (10*turns t.mask) (pth t.mask (κ.hash x) n):=fun f hf=>by rw[hf]
   rw[em2 _ ?_,em]
   rotate_left
   ·rw[hha];rfl
   dsimp only;refine wpAny_pure (hn fun hz=>?_);obtain⟨i,hi⟩:=List.mem_iff_getElem?.mp hz;have hi':i<t.place.size:=by rw[T.sz,lens,L.len];exact(List.getElem?_eq_some_iff.mp hi).1
   obtain⟨u,g,_⟩:=L.at_ i x hi;obtain⟨nn,a1,a2⟩:=T.pr i (κ.hash x) (by rw[cX,List.getElem?_map,Array.getElem?_toList,g];rfl);have lt:nn<m:=by
    rcases Nat.lt_trichotomy nn m with q|q|q
    ·exact q
    ·subst q;exact absurd ⟨i,hi',a1.symm⟩ f0
    ·exact absurd (a2 m q) f0
   exact skip nn lt i hi' a1.symm hi
  ·have em2:∀f:Nat->Int,f=ha->probe.go t f (κ.hash x) (10*turns t.mask) (pth t.mask (κ.hash x) n)=probe.go t ha (κ.hash x) (10*turns t.mask) (pth t.mask (κ.hash x) n):=fun f hf=>by rw[hf]
   rw[em2 _ ?_,em]
   rotate_left
   ·rw[hha];rfl
   dsimp only;have iz:i<zs.length:=by rw[<-L.len,<-lens,<-T.sz];exact i1
   obtain⟨u,gu,hu⟩:=L.at_ i zs[i] (List.getElem?_eq_getElem iz);have main:wpAny (model prog w) A (do
     let some (_,y):=es[i]?|unsupported "internal:set-entry"
     let equal <-holding [y] (eqBool y v)
     let(es',_,t') <-setState a
     if true&&equal then return .there none
     let some same:=t'.sameMemory t.moves t.mask|unsupported "set.changed-during-lookup:is-the-new-block-at-the-old-address"
     let still <-match (if same then t'.slot (pth t.mask (κ.hash x) m).j else .empty)with
      |.live i'=>match es'[i']? with
       |some (_,y')=>do pure (if <-isSame y' y then some i' else none)
       |none=>pure none
      |_=>pure none
     match still with
     |none=>rule "set.search.anew";setSearchFrom a v (κ.hash x) true F none
     |some i'=>if equal then return .there (some i')else setSearchFrom a v (κ.hash x) true F (some (pth t.mask (κ.hash x) (m+1)))) Q E s:=by
    rw[gu];dsimp only;obtain⟨b,hb,eq⟩:=κ.eqB hr hu hx;refine wpAny_bind (wpAny_holding (eq prog w _ _ ?_));refine wpAny_bind (wpAny_setState_of ho hd fit ?_);dsimp only;cases b with
    |true =>
     have:zs[i]=x:=hb.mp rfl;exact wpAny_pure (hy (this▸List.getElem_mem iz) _)
    |false =>
     have ne:zs[i]≠x:=fun z=>by have:=hb.mpr z;cases this
     simp only[Bool.and_false,Bool.false_eq_true,if_false];rw[show t.sameMemory t.moves t.mask=some true by simp[sameMemory]];dsimp only;rw[nF T.up i1 i2];simp only[if_true];rw[gu];dsimp only;obtain⟨c,rfl⟩:=κ.ref hu;refine wpAny_bind (wpAny_isSame_ref_self (wpAny_bind (wpAny_pure ?_)));simp only[if_true];refine ih (m+1) _ rfl mlt (by lia) h4 fun l hl k k1 k2=>?_;rcases Nat.lt_or_ge l m with q|q
     ·exact skip l q k k1 k2
     ·obtain rfl:l=m:=by lia
      obtain rfl:=uniq k1 i1 (k2.trans i2.symm);rw[List.getElem?_eq_getElem iz];intro z;exact ne (Option.some.inj z)
   by_cases led:t.led=true
   ·rw[led];simp only[Bool.not_true,Bool.false_eq_true,if_false];exact main
   ·rw[show t.led=false by simpa using led];simp only[Bool.not_false,if_true];refine wpAny_bind (EA hr hx ?_ _ fun u hu=>?_)
    ·simp only[Bool.false_eq_true,if_false];exact main
    ·obtain⟨e,he,rfl⟩:=List.mem_map.mp hu;have he':e∈es:=(Array.mem_filter.mp (Array.mem_def.mpr he)).1;obtain⟨k,hk,ek⟩:=Array.mem_iff_getElem.mp he';obtain⟨z,_,_,q⟩:=L.of (i:=k) (e:=e) (by rw[Array.getElem?_eq_getElem hk,ek]);exact⟨z,q⟩
variable{prog:Program}{w:World}{τ:Type}{κ:TK prog w τ}{A:Around}{E:Value->Shared->Prop}{s:Shared}
structure Dg(κ:TK prog w τ) (h:Heap) (a:Addr) (o:Obj) (es:Array (Int×Value)) (ep:Nat) (t:SetTable) (zs:List τ):Prop where
 get:h.get? a=some o
 ex:o.ExactSet
 data:o.data=.set es ep t
 el:Els κ h es zs
 nd:zs.Nodup
 tb:TB t (cX es)
 led:t.led=!w.params.followText "set-order"
 roomy:es.size*5<t.mask*3
 small:t.mask<=7∨t.mask<=8*es.size
def ip(κ:TK prog w τ) (h:Heap) (a:Addr) (xs:List τ):Prop:=∃o es ep t zs,Dg κ h a o es ep t zs/\zs.Perm xs
theorem Els.keep{h h':Heap}{es:Array (Int×Value)}{zs:List τ}(L:Els κ h es zs) (k:∀z v,κ.is h z v->κ.is h' z v):Els κ h' es zs:=⟨L.len,fun i z hz=>by obtain⟨v,g,q⟩:=L.at_ i z hz;exact⟨v,g,k z v q⟩⟩
theorem ip.mono{h h':Heap}{a:Addr}{xs:List τ}(S:ip κ h a xs) (k:∀o,h.get? a=some o->h'.get? a=some o) (k2:∀z v,κ.is h z v->κ.is h' z v):ip κ h' a xs:=by
 obtain⟨o,es,ep,t,zs,q,p⟩:=S;exact⟨o,es,ep,t,zs,⟨k _ q.get,q.ex,q.data,q.el.keep k2,q.nd,q.tb,q.led,q.roomy,q.small⟩,p⟩
theorem uu{h:Heap}{es:Array (Int×Value)}{zs:List τ}{x:τ}{v:Value}{p:Nat}(L:Els κ h es zs) (hx:κ.is h x v) (hp:p<=zs.length):Els κ h (insertAt es p (κ.hash x,v)) (zs.take p++x::zs.drop p):=by
 have lt:(es.toList.take p).length=p:=by rw[List.length_take,Array.length_toList,L.len];lia
 have lz:(zs.take p).length=p:=by rw[List.length_take];lia
 refine⟨by rw[gf _ _ _ (by rw[L.len];exact hp),List.length_append,List.length_cons,lz,List.length_drop,L.len];lia,fun i z hz=>?_⟩;have gi:(insertAt es p (κ.hash x,v))[i]?=(es.toList.take p++(κ.hash x,v)::es.toList.drop p)[i]?:=by rw[<-iO,Array.getElem?_toList]
 rw[gi];rw[List.getElem?_append,lz]at hz;rw[List.getElem?_append,lt]
 by_cases c1:i<p
 ·rw[if_pos c1,List.getElem?_take_of_lt c1]at hz;rw[if_pos c1,List.getElem?_take_of_lt c1,Array.getElem?_toList];exact L.at_ i z hz
 ·rw[if_neg c1]at hz ⊢
  by_cases c2:i=p
  ·rw[c2,Nat.sub_self,List.getElem?_cons_zero]at hz ⊢;cases hz;exact⟨v,rfl,hx⟩
  ·obtain⟨m,hm⟩:∃m,i-p=m+1:=⟨i-p-1,by lia⟩;rw[hm,List.getElem?_cons_succ,List.getElem?_drop]at hz ⊢;rw[Array.getElem?_toList];exact L.at_ _ z hz
theorem TB.plain{t:SetTable}{hs:List Int}(T:TB t hs) (b:Bool):TB { t with plain:=b } hs:=⟨T.sz,T.up,T.le,T.dm,T.pw,T.few,T.pr⟩
theorem TB.fit{t:SetTable}{es:Array (Int×Value)}(T:TB t (cX es)):t.fits es.size=true:=by
 have lens:(cX es).length=es.size:=by simp[cX]
 unfold SetTable.fits fill;rw[T.dm,T.sz,lens];have:=T.few;rw[T.sz,lens]at this;simpa using this
theorem sV{h:Heap}{a:Addr}{o:Obj}{es:Array (Int×Value)}{ep:Nat}{t:SetTable}(ho:h.get? a=some o) (hd:o.data=.set es ep t) (es':Array (Int×Value)) (t':SetTable) :
  (h.update a (Obj.putSet es' t')).get? a=some { o with data:=.set es' (ep+1) t' }:=by
 have:=Heap.get?_update_self (Obj.putSet es' t') ho (by rw[putSet_of es' t' hd];rfl);rw[putSet_of es' t' hd]at this;exact this
theorem qS{es:Array (Int×Value)}:∀{l:List Nat},(∀k∈l,k<es.size)->(l.filterMap fun k=>es[k]?)=l.map fun k=>es.getD k (0,.none)
 |[],_=>rfl
 |k::l,h=>by
  have hk:=h k (.head _);rw[List.filterMap_cons,Array.getElem?_eq_getElem hk,List.map_cons,qS fun j hj=>h j (.tail _ hj)];simp[Array.getD,hk]
theorem oW{l:List τ}{k:Nat}(h:k<l.length) (d:τ):l[k]?=some (l.getD k d):=by rw[List.getD_eq_getElem?_getD,List.getElem?_eq_getElem h];rfl
theorem k6(l:List τ) (d:τ):(List.range l.length).map (fun k=>l.getD k d)=l:=by
 refine List.ext_getElem? fun i=>?_;rw[List.getElem?_map];rcases Nat.lt_or_ge i l.length with q|q
 ·rw[List.getElem?_range q,oW q d];rfl
 ·rw[List.getElem?_eq_none (by rw[List.length_range];exact q),List.getElem?_eq_none q];rfl
theorem F9{a:Addr}{xs:List τ}{x:τ}{v:Value}{Q:Bool->Shared->Prop}(hr:κ.room A) (hx:κ.is s.heap x v) (hS:ip κ s.heap a xs) (few:xs.length<1000) (kp:∀h' z v,Heap.SameBut a s.heap h'->κ.is s.heap z v->κ.is h' z v)
  (h:∀b h',Heap.SameBut a s.heap h'->(x∈xs->ip κ h' a xs)->(x∉xs->ip κ h' a (xs++[x]))->Q b { s with heap:=h' }):wpAny (model prog w) A (setAddHashed a v (κ.hash x)) Q E s:=by
 obtain⟨o,es,ep,t,zs,q,pm⟩:=hS;have lens:(cX es).length=es.size:=by simp[cX]
 have lz:es.size=xs.length:=by rw[q.el.len,pm.length_eq]
 obtain⟨n0,n1,f0,f1⟩:=q.tb.free (κ.hash x);have hm:t.mask<=8000:=by have:=q.small;lia
 obtain⟨r,rfl⟩:=κ.ref hx;have es0:s={ s with heap:=s.heap }:=by cases s;rfl
 unfold setAddHashed setAddHashedIn;refine wpAny_holding (wpAny_bind (wpAny_setState_of q.get q.data q.tb.fit ?_));dsimp only;rw[show byScan (.ref r) es=false by unfold byScan;rfl];simp only[Bool.false_eq_true,if_false];unfold setSearch;refine wpAny_bind (C3 hr hx q.get q.data q.el q.tb f0 f1 (fun hz i=>?_) (fun hz=>?_) 100000 0 none rfl (Nat.zero_le _) (by lia) (by unfold turns;lia) (fun l hl=>by lia))
 ·refine wpAny_pure ?_;rw[es0];exact h _ s.heap (Heap.SameBut.refl a s.heap) (fun _=>⟨o,es,ep,t,zs,q,pm⟩) fun hn=>absurd (pm.mem_iff.mp hz) hn
 ·have hn:x∉xs:=fun z=>hz (pm.mem_iff.mpr z);have fl:t.place.size+1<=t.mask:=by
   have:=q.roomy;have:=q.tb.sz;obtain⟨k,k3,hk⟩:=q.tb.pw;have:2 ^ 3<=2 ^ k:=Nat.pow_le_pow_right (by decide) k3
   lia
  obtain⟨p,hp,e2,T1,l1,_,m1,z1⟩:=q.tb.put f0 f1 fl;rw[lens]at hp;dsimp only;refine wpAny_bind (wpAny_setState_of q.get q.data q.tb.fit ?_);dsimp only;generalize ht:t.put (pth t.mask (κ.hash x) n0).j=tp at *
  obtain⟨t1,p'⟩:=tp;dsimp only at e2 T1 l1 m1 z1 ⊢;subst e2;have pz:p'<=zs.length:=by rw[<-q.el.len];exact hp
  have hso:cX (insertAt es p' (κ.hash x,.ref r))=(cX es).take p'++κ.hash x::(cX es).drop p':=by unfold cX;rw[iO];simp[List.map_take,List.map_drop]
  have iz:(insertAt es p' (κ.hash x,.ref r)).size=es.size+1:=gf _ _ _ hp;have nd1:(zs.take p'++x::zs.drop p').Nodup:=by
   rw[List.perm_middle.nodup_iff,List.take_append_drop,List.nodup_cons];exact⟨hz,q.nd⟩
  have pm1:(zs.take p'++x::zs.drop p').Perm (xs++[x]):=by
   refine List.perm_middle.trans ?_;rw[List.take_append_drop];exact(List.Perm.cons _ pm).trans (List.perm_append_singleton _ _).symm
  have go:∀t2:SetTable,TB t2 (cX (insertAt es p' (κ.hash x,.ref r)))->t2.led=t.led->t2.mask=t.mask->t2.place.size=t.place.size+1->wpAny (model prog w) A (do
     storeSet a (insertAt es p' (κ.hash x,.ref r)) t2
     if !false&&t2.tooFull then setRelay a (grown (es.size+1))
     return true) Q E s:=by
   intro t2 T2 ld mk sz2;refine wpAny_bind (wpAny_storeSet_of q.get q.data ?_ (fits_of_scanBound (by unfold scanBound;lia)));have ho1:=sV q.get q.data (insertAt es p' (κ.hash x,.ref r)) t2;have sb1:=Heap.SameBut.update s.heap a (Obj.putSet (insertAt es p' (κ.hash x,.ref r)) t2);generalize hh1:s.heap.update a (Obj.putSet (insertAt es p' (κ.hash x,.ref r)) t2)=h1 at *
   have el1:Els κ h1 (insertAt es p' (κ.hash x,.ref r)) (zs.take p'++x::zs.drop p'):=(uu q.el hx pz).keep fun z v hz=>kp _ z v sb1 hz;have tf:t2.tooFull=decide ((es.size+1)*5>=t.mask*3):=by
    unfold tooFull fill;rw[T2.dm,sz2,q.tb.sz,lens,mk];simp
   by_cases c:(es.size+1)*5>=t.mask*3
   ·rw[tf,decide_eq_true c];simp only[Bool.not_false,Bool.and_true,if_true];refine wpAny_bind ?_;unfold setRelay;refine wpAny_bind (wpAny_setState_of (s:={ s with heap:=h1 }) ho1 rfl T2.fit ?_);dsimp only;have gr:grown (es.size+1)=(es.size+1)*4:=by unfold grown;rw[if_neg (by lia)]
    rw[gr];obtain⟨e,e3,ee,el,eb⟩:=rC (n:=(es.size+1)*4) (by lia);obtain⟨t3,order,er,ld3,_,mk3,po,sz3,T3⟩:=zi (t:=t2) (hs:=cX (insertAt es p' (κ.hash x,.ref r))) (wanted:=(es.size+1)*4) (by simp only[cX,List.length_map,Array.length_toList];rw[iz];lia) (by lia) (by lia);have ls:(cX (insertAt es p' (κ.hash x,.ref r))).length=es.size+1:=by simp[cX,iz]
    rw[ls]at po sz3;rw[if_neg (by rw[ee,sizeLine_eq];lia)];have ea:(insertAt es p' (κ.hash x,.ref r)).map (·.1)=(cX (insertAt es p' (κ.hash x,.ref r))).toArray:=by apply Array.toList_inj.mp;simp[cX]
    rw[ea,er];have inr:∀k∈order.toList,k<(insertAt es p' (κ.hash x,.ref r)).size:=fun k hk=>by rw[iz];exact List.mem_range.mp (po.mem_iff.mp hk)
    have eo:(order.filterMap fun k=>(insertAt es p' (κ.hash x,.ref r))[k]?).toList=order.toList.map fun k=>(insertAt es p' (κ.hash x,.ref r)).getD k (0,.none):=by
     rw[Array.toList_filterMap,qS inr]
    generalize he2:(order.filterMap fun k=>(insertAt es p' (κ.hash x,.ref r))[k]?)=es2 at *
    have z2:es2.size=es.size+1:=by rw[<-Array.length_toList,eo,List.length_map,po.length_eq,List.length_range]
    refine wpAny_bind ?_;show wpAny _ _ (do
     let es':=order.filterMap fun k=>(insertAt es p' (κ.hash x,.ref r))[k]?
     if es'.size != (insertAt es p' (κ.hash x,.ref r)).size then unsupported "internal:set-table-lost-an-element"
     pure (es',t3)) _ _ _
    dsimp only;rw[he2,if_neg (by rw[z2,iz];simp)];refine wpAny_pure ?_;dsimp only;refine wpAny_storeSet_of ho1 rfl ?_ (fits_of_scanBound (by unfold scanBound;lia));have ho2:=sV (h:=h1) ho1 rfl es2 t3;refine wpAny_pure (h _ _ (sb1.trans (Heap.SameBut.update _ a _)) (fun z=>absurd z hn) fun _=>⟨_,es2,_,t3,order.toList.map fun k=>(zs.take p'++x::zs.drop p').getD k x,⟨ho2,q.ex,rfl,?_,?_,?_,?_,?_,?_⟩,?_⟩)
    ·refine⟨by rw[z2,List.length_map,po.length_eq,List.length_range],fun i z hz'=>?_⟩;rw[List.getElem?_map]at hz';cases c2:order.toList[i]? with
     |none=>rw[c2]at hz';cases hz'
     |some k =>
      rw[c2]at hz';have hk:=inr k (List.mem_of_getElem? c2);have hk':k<(zs.take p'++x::zs.drop p').length:=by rw[<-el1.len];exact hk
      obtain⟨v2,g2,q2⟩:=el1.at_ k z (by rw[oW hk' x];exact hz');refine⟨v2,?_,kp _ z v2 (sb1.trans (Heap.SameBut.update _ a _)) ?_⟩
      ·rw[<-Array.getElem?_toList,eo,List.getElem?_map,c2];simp[Array.getD_eq_getD_getElem?,g2]
      ·obtain⟨v3,g3,q3⟩:=(uu q.el hx pz).at_ k z (by rw[oW hk' x];exact hz');rw[g2]at g3;cases g3;exact q3
    ·refine((po.map fun k=>(zs.take p'++x::zs.drop p').getD k x).nodup_iff).mpr ?_;rw[<-iz,el1.len,k6];exact nd1
    ·have:cX es2=order.toList.map fun k=>(cX (insertAt es p' (κ.hash x,.ref r))).getD k 0:=by
      unfold cX;rw[eo,List.map_map];refine List.map_congr_left fun k hk=>?_;have hk:=inr k hk;simp[Array.getD,hk,List.getD]
     rw[this];exact T3
    ·rw[ld3,ld];exact q.led
    ·have:=mk3;rw[ee]at this;rw[z2];lia
    ·right;have:=mk3;rw[ee]at this;rw[z2];rcases eb with eb|eb<;>lia
    ·refine(po.map _).trans ?_;rw[<-iz,el1.len,k6];exact pm1
   ·rw[tf,decide_eq_false c];simp only[Bool.not_false,Bool.and_false,Bool.false_eq_true,if_false];refine wpAny_pure (h _ _ sb1 (fun z=>absurd z hn) fun _=>⟨_,_,_,t2,_,⟨ho1,q.ex,rfl,el1,nd1,T2,by rw[ld];exact q.led,by rw[iz,mk];lia,?_⟩,pm1⟩);rw[mk,iz];have:=q.small;lia
  rw[<-hso]at T1
  by_cases pl:t1.plain=true
  ·rw[if_pos pl];refine wpAny_bind (κ.byV hr hx fun b=>?_);cases b with
   |true=>simp only[if_true];exact go t1 T1 l1 m1 z1
   |false=>simp only[Bool.false_eq_true,if_false];exact go _ (T1.plain false) l1 m1 z1
  ·rw[if_neg pl];refine wpAny_bind (wpAny_pure ?_);simp only[if_true];exact go t1 T1 l1 m1 z1
end L2
namespace L2
open PySem PySem.Spec PyProof.Rows PySem.SeqAt
inductive KD where
 |int (i:Int)|str (x:Str)|tup (ks:List KD)
 deriving Inhabited
def KAt(h:Heap):Nat->KD->Value->Prop
 |_,.int i,v=>∃t,v=.int i t
 |_,.str x,v=>∃t,v=.str x t
 |0,.tup _,_=>False
 |n+1,.tup ds,v=>∃(a:Addr) (its:Array Value),v=.ref a/\IsTup h a its/\its.size=ds.length/\∀(i:Nat) d u,ds[i]?=some d->its[i]?=some u->KAt h n d u
def hK(w:World):Nat->KD->Int
 |_,.int i=>hashInt i
 |_,.str x=>hashStr w x
 |0,.tup _=>0
 |n+1,.tup ds=>reduceHash (Builtin.Tuple.tupleHashOf (ds.map (hK w n)))
theorem lh{h:Heap}{n:Nat}{i:Int}{v:Value}:KAt h n (.int i) v↔∃t,v=.int i t:=by cases n<;>exact .rfl
theorem lO{h:Heap}{n:Nat}{i:Str}{v:Value}:KAt h n (.str i) v↔∃t,v=.str i t:=by cases n<;>exact .rfl
theorem vR{h h':Heap}{a:Addr}{its:Array Value}(t:IsTup h a its) (k:∀o,o.cls=.type "tuple"->h.get? a=some o->h'.get? a=some o):IsTup h' a its :=
 let⟨o,ho,hc,hd⟩:=t
 ⟨o,k _ hc ho,hc,hd⟩
theorem KAt.upT{h h':Heap}(k:∀b xs,IsTup h b xs->IsTup h' b xs):∀{n:Nat}{d:KD}{v:Value},KAt h n d v->KAt h' n d v:=by
 intro n
 induction n with
 |zero=>intro d v q;cases d<;>exact q
 |succ n ih =>
  intro d v q;cases d with
  |int _=>exact q
  |str _=>exact q
  |tup ds =>
   obtain⟨a,its,e,t,z,r⟩:=q;exact⟨a,its,e,k a _ t,z,fun i d u h1 h2=>ih (r i d u h1 h2)⟩
theorem KAt.up{h h':Heap}(k:∀b o,o.cls=.type "tuple"->h.get? b=some o->h'.get? b=some o) {n:Nat} {d:KD} {v:Value} (q:KAt h n d v):KAt h' n d v:=q.upT fun b xs t=>vR t (k b)
theorem KAt.same{h:Heap}:∀(n:Nat) {d e:KD}{v:Value},KAt h n d v->KAt h n e v->d=e:=by
 intro n
 induction n with
 |zero =>
  intro d e v h1 h2;cases d with
  |int i=>cases e with
   |int j=>obtain⟨_,rfl⟩:=h1;obtain⟨_,z⟩:=h2;cases z;rfl
   |str j=>obtain⟨_,rfl⟩:=h1;obtain⟨_,z⟩:=h2;cases z
   |tup _=>exact h2.elim
  |str i=>cases e with
   |int j=>obtain⟨_,rfl⟩:=h1;obtain⟨_,z⟩:=h2;cases z
   |str j=>obtain⟨_,rfl⟩:=h1;obtain⟨_,z⟩:=h2;cases z;rfl
   |tup _=>exact h2.elim
  |tup _=>exact h1.elim
 |succ n ih =>
  intro d e v h1 h2;cases d with
  |int i=>cases e with
   |int j=>obtain⟨_,rfl⟩:=h1;obtain⟨_,z⟩:=h2;cases z;rfl
   |str j=>obtain⟨_,rfl⟩:=h1;obtain⟨_,z⟩:=h2;cases z
   |tup _=>obtain⟨_,rfl⟩:=h1;obtain⟨_,_,z,_⟩:=h2;cases z
  |str i=>cases e with
   |int j=>obtain⟨_,rfl⟩:=h1;obtain⟨_,z⟩:=h2;cases z
   |str j=>obtain⟨_,rfl⟩:=h1;obtain⟨_,z⟩:=h2;cases z;rfl
   |tup _=>obtain⟨_,rfl⟩:=h1;obtain⟨_,_,z,_⟩:=h2;cases z
  |tup ds=>cases e with
   |int j=>obtain⟨_,rfl⟩:=h2;obtain⟨_,_,z,_⟩:=h1;cases z
   |str j=>obtain⟨_,rfl⟩:=h2;obtain⟨_,_,z,_⟩:=h1;cases z
   |tup es =>
    obtain⟨a1,its,e1,⟨o,ho,hc,c,hd⟩,z,r⟩:=h1;obtain⟨a2,its2,e2,⟨o2,ho2,hc2,c2,hd2⟩,z2,r2⟩:=h2;subst e1;cases e2;rw[ho]at ho2;cases ho2;rw[hd]at hd2;cases hd2;congr 1;refine List.ext_getElem? fun i=>?_;rcases Nat.lt_or_ge i ds.length with q|q
    ·have q2:i<es.length:=by lia
     rw[List.getElem?_eq_getElem q,List.getElem?_eq_getElem q2];have q3:i<its.size:=by lia
     exact congrArg some (ih (r i _ _ (List.getElem?_eq_getElem q) (Array.getElem?_eq_getElem q3)) (r2 i _ _ (List.getElem?_eq_getElem q2) (Array.getElem?_eq_getElem q3)))
    ·rw[List.getElem?_eq_none q,List.getElem?_eq_none (by lia)]
def drK:Nat->KD->Nat
 |_,.int _=>1
 |_,.str _=>1
 |0,.tup _=>0
 |n+1,.tup ds=>(ds.map (drK n)).sum+1
section
variable{prog:Program}{w:World}{A:Around}{E:Value->Shared->Prop}{s:Shared}
theorem KAt.eq:∀(n:Nat) {A:Around}{d e:KD}{v u:Value},A.units+n<cLine->KAt s.heap n d v->KAt s.heap n e u->∃b:Bool,(b=true↔d=e)/\EqAt A s v u b:=by
 intro n
 induction n with
 |zero =>
  intro A d e v u hu q1 q2;cases d with
  |tup _=>exact q1.elim
  |int i=>obtain⟨t,rfl⟩:=q1;cases e with
   |tup _=>exact q2.elim
   |int j=>obtain⟨t',rfl⟩:=q2;exact⟨i==j,by simp,EqAt.int_int _ _ _ _⟩
   |str j=>obtain⟨t',rfl⟩:=q2;exact⟨false,by simp,EqAt.int_str _ _ _ _⟩
  |str i=>obtain⟨t,rfl⟩:=q1;cases e with
   |tup _=>exact q2.elim
   |int j=>obtain⟨t',rfl⟩:=q2;exact⟨false,by simp,EqAt.str_int _ _ _ _⟩
   |str j=>obtain⟨t',rfl⟩:=q2;exact⟨i==j,by simp,EqAt.str_str _ _ _ _⟩
 |succ n ih =>
  intro A d e v u hu q1 q2;cases d with
  |int i=>obtain⟨t,rfl⟩:=q1;cases e with
   |int j=>obtain⟨t',rfl⟩:=q2;exact⟨i==j,by simp,EqAt.int_int _ _ _ _⟩
   |str j=>obtain⟨t',rfl⟩:=q2;exact⟨false,by simp,EqAt.int_str _ _ _ _⟩
   |tup _=>obtain⟨a,its,rfl,t,_⟩:=q2;exact⟨false,by simp,EqAt.int_tuple _ _ t (by lia)⟩
  |str i=>obtain⟨t,rfl⟩:=q1;cases e with
   |int j=>obtain⟨t',rfl⟩:=q2;exact⟨false,by simp,EqAt.str_int _ _ _ _⟩
   |str j=>obtain⟨t',rfl⟩:=q2;exact⟨i==j,by simp,EqAt.str_str _ _ _ _⟩
   |tup _=>obtain⟨a,its,rfl,t,_⟩:=q2;exact⟨false,by simp,EqAt.str_tuple _ _ t (by lia)⟩
  |tup ds =>
   obtain⟨a,its,rfl,t1,z1,r1⟩:=id q1;cases e with
   |int j=>obtain⟨t',rfl⟩:=q2;exact⟨false,by simp,EqAt.tuple_int _ _ t1 (by lia)⟩
   |str j=>obtain⟨t',rfl⟩:=q2;exact⟨false,by simp,EqAt.tuple_str _ _ t1 (by lia)⟩
   |tup es =>
    obtain⟨b,its2,rfl,t2,z2,r2⟩:=id q2
    by_cases ab:a=b
    ·subst ab;exact⟨true,by simp[KAt.same (n+1) q1 q2],EqAt.same _⟩
    ·have item:∀j,∃b:Bool,∀(h1:j<its.size) (h2:j<its2.size),(b=true↔ds[j]?=es[j]?)/\EqAt A.in1 s its[j] its2[j] b:=fun j=>by
      by_cases h1:j<its.size
      ·by_cases h2:j<its2.size
       ·obtain⟨b,b1,b2⟩:=ih (A:=A.in1) (show A.units+1+n<cLine by lia) (r1 j _ _ (List.getElem?_eq_getElem (by lia)) (Array.getElem?_eq_getElem h1)) (r2 j _ _ (List.getElem?_eq_getElem (by lia)) (Array.getElem?_eq_getElem h2));exact⟨b,fun _ _=>⟨by rw[List.getElem?_eq_getElem (by lia),List.getElem?_eq_getElem (by lia),b1];simp,b2⟩⟩
       ·exact⟨true,fun _ h=>absurd h h2⟩
      ·exact⟨true,fun h=>absurd h h1⟩
     have rc:=RcAt.tuples (A:=A) (s:=s) (e:=fun j=>(item j).choose) t1 t2 (by lia) fun j h1 h2=>((item j).choose_spec h1 h2).2;refine⟨_,?_,EqAt.of_refs ab rc⟩;rw[Bool.and_eq_true,List.all_eq_true,beq_iff_eq];constructor
     ·rintro⟨h1,h2⟩;congr 1;refine List.ext_getElem? fun i=>?_;rcases Nat.lt_or_ge i ds.length with q|q
      ·exact((item i).choose_spec (by lia) (by lia)).1.mp (h1 i (List.mem_range.mpr (by lia)))
      ·rw[List.getElem?_eq_none q,List.getElem?_eq_none (by lia)]
     ·intro z;cases z;refine⟨fun i hi=>?_,by lia⟩;have hi:=List.mem_range.mp hi;exact((item i).choose_spec (by lia) (by lia)).1.mpr rfl
theorem KAt.hash:∀(n:Nat) {A:Around}{s:Shared}{E:Value->Shared->Prop}{d:KD}{v:Value}{Q:Int->Shared->Prop},A.units+n<cLine->KAt s.heap n d v->Q (hK w n d) { s with toks:=s.toks+drK n d }->wpAny (model prog w) A (pyHash v) Q E s:=by
 intro n
 induction n with
 |zero =>
  intro A s E d v Q hu q h;cases d with
  |int i=>obtain⟨t,rfl⟩:=q;exact wpAny_pyHash_int h
  |str i=>obtain⟨t,rfl⟩:=q;exact wpAny_pyHash_str h
  |tup _=>exact q.elim
 |succ n ih =>
  intro A s E d v Q hu q h;cases d with
  |int i=>obtain⟨t,rfl⟩:=q;exact wpAny_pyHash_int h
  |str i=>obtain⟨t,rfl⟩:=q;exact wpAny_pyHash_str h
  |tup ks =>
   obtain⟨a,its,rfl,tp,z,r⟩:=q;obtain⟨o,ho,hc,c,hd⟩:=tp;have hT:s.TypeIs (.ref a) "tuple":=⟨o,ho,hc⟩;have hu0:A.units<cLine:=by lia
   unfold pyHash pyHashByItsType;refine wpAny_bind (wpAny_cRoomFor_or (.inr hu0) ?_);refine wpAny_bind (wpAny_specialOf hT F.slot_tuple_hash.lookup ?_);show wpAny _ _ (if(some (Value.builtin "tuple.__hash__")==some Value.none)=true then _ else _) Q E s;rw[if_neg (by rw[beq_builtin_none];exact Bool.false_ne_true)];refine wpAny_bind (wpAny_specialOf hT F.slot_tuple_hash.lookup ?_);show wpAny _ _ (callSpecialIfBoundUnlessNone? (.ref a) "__hash__" _ >>= _) Q E s;refine wpAny_bind (wpAny_callSpecialIfBoundUnlessNone?_slot hT F.slot_tuple_hash (wpAny_call_entry F.slot_tuple_hash hT F.entry_tuple_hash ?_ (F.args_tuple_hash_1 _)));show wpAny _ _ (Builtin.Tuple.tupleItemsOf (.ref a) >>= _) _ _ s;refine wpAny_bind (wpAny_tupleItemsOf ho hd ?_);refine wpAny_bind ?_;rw[<-Array.forIn_toList];refine wpAny_forIn_list _ (fun aH (b:Array Int) s'=>∃m,m<=ks.length/\aH=its.toList.drop m/\b.toList=(ks.take m).map (hK w n)/\s'={ s with toks:=s.toks+((ks.take m).map (drK n)).sum }) _ ?_ ?_ _ _ ⟨0,Nat.zero_le _,rfl,rfl,rfl⟩
   ·rintro x aH b s' ⟨m,hm,hr,hb,rfl⟩;have lt:m<its.size:=by
     rcases Nat.lt_or_ge m its.size with q|q
     ·exact q
     ·rw[List.drop_eq_nil_of_le (by rw[Array.length_toList];exact q)]at hr;cases hr
    rw[List.drop_eq_getElem_cons (by rw[Array.length_toList];exact lt)]at hr;obtain⟨rfl,rfl⟩:=List.cons.inj hr;have km:ks[m]?=some (ks[m]'(by lia)):=List.getElem?_eq_getElem _;refine wpAny_bind (ih (show A.in1.units+n<cLine by show A.units+1+n<cLine;lia) (r m _ _ km (by rw[Array.getElem?_eq_getElem lt];simp)) ?_);refine wpAny_pure ⟨m+1,by lia,rfl,?_,?_⟩
    ·rw[Array.toList_push,hb,List.take_add_one,km,List.map_append];rfl
    ·rw[List.take_add_one,km,List.map_append,List.sum_append,<-Nat.add_assoc];simp
   ·rintro b s' ⟨m,hm,hr,hb,rfl⟩;have:m=ks.length:=by
     rcases Nat.lt_or_ge m its.size with q|q
     ·rw[List.drop_eq_getElem_cons (by rw[Array.length_toList];exact q)]at hr;cases hr
     ·lia
    subst this;rw[List.take_length]at hb ⊢;show wpAny _ _ (retInt (Builtin.Tuple.tupleHashOf b.toList)) _ _ _;rw[hb];refine wpAny_ret_mkInt ?_;show wpAny _ _ (if(decide (-(2:Int) ^ 63<=Builtin.Tuple.tupleHashOf (ks.map (hK w n)))&&decide (Builtin.Tuple.tupleHashOf (ks.map (hK w n))<2 ^ 63))=true then _ else _) Q E _;have h':Q (reduceHash (Builtin.Tuple.tupleHashOf (ks.map (hK w n)))) { s with toks:=s.toks+((ks.map (drK n)).sum+1) }:=h;rw[<-Nat.add_assoc]at h';unfold reduceHash at h'
    by_cases hr2:(decide (-(2:Int) ^ 63<=Builtin.Tuple.tupleHashOf (ks.map (hK w n)))&&decide (Builtin.Tuple.tupleHashOf (ks.map (hK w n))<2 ^ 63))=true
    ·rw[if_pos hr2];rw[if_pos hr2]at h';exact wpAny_pure h'
    ·rw[if_neg hr2];rw[if_neg hr2]at h';exact wpAny_bind (wpAny_rule (wpAny_pure h'))
end
section
variable{prog:Program}{w:World}{A:Around}{E:Value->Shared->Prop}{s:Shared}
theorem sG{a:Addr}{its:Array Value}{Q:Option (Array Value)->Shared->Prop}(t:IsTup s.heap a its) (h:Q (some its) s):wpAny (model prog w) A (seqItems? (.ref a)) Q E s:=by
 obtain⟨o,ho,hc,c,hd⟩:=t;unfold seqItems?;refine wpAny_bind (wpAny_load ho ?_);rw[hd];exact wpAny_pure h
theorem KAt.item{h:Heap}{n:Nat}{ks:List KD}{its:Array Value}(z:its.size=ks.length) (r:∀(i:Nat) d u,ks[i]?=some d->its[i]?=some u->KAt h n d u) {x:Value}(hx:x∈its.toList):∃k,KAt h n k x:=by
 obtain⟨i,hi⟩:=List.mem_iff_getElem?.mp hx;rw[Array.getElem?_toList]at hi;have lt:=(Array.getElem?_eq_some_iff.mp hi).1;exact⟨_,r i _ _ (List.getElem?_eq_getElem (by lia)) hi⟩
theorem KAt.quiet:∀(f n:Nat) {k:KD}{v:Value}{Q:Bool->Shared->Prop},n<=f->KAt s.heap n k v->Q true s->wpAny (model prog w) A (eqIsQuiet f v) Q E s:=by
 intro f
 induction f with
 |zero =>
  intro n k v Q hn q h;obtain rfl:n=0:=by lia
  cases k with
  |int i=>obtain⟨t,rfl⟩:=q;exact wpAny_pure h
  |str i=>obtain⟨t,rfl⟩:=q;exact wpAny_pure h
  |tup _=>exact q.elim
 |succ f ih =>
  intro n k v Q hn q h;cases k with
  |int i=>obtain⟨t,rfl⟩:=lh.mp q;exact wpAny_pure h
  |str i=>obtain⟨t,rfl⟩:=lO.mp q;exact wpAny_pure h
  |tup ks =>
   cases n with
   |zero=>exact q.elim
   |succ n =>
    obtain⟨a,its,rfl,tp,z,r⟩:=q;have hT:s.TypeIs (.ref a) "tuple":=by obtain⟨o,ho,hc,_⟩:=tp;exact⟨o,ho,hc⟩
    unfold eqIsQuiet;refine wpAny_bind (wpAny_specialOf hT F.slot_tuple_eq.lookup ?_);show wpAny _ _ (isInstance (.ref a) (.type "tuple") >>= _) _ _ s;refine wpAny_bind (wpAny_isInstance hT isSubtype_tuple_tuple ?_);simp only[Bool.not_true,Bool.false_eq_true,if_false];refine wpAny_bind (sG tp ?_);refine wpAny_bind ?_;show wpAny _ _ (forIn its _ _) _ _ s;rw[<-Array.forIn_toList];refine wpAny_forIn_list _ (fun aH b s'=>s'=s/\b=(none,())/\∀x∈aH,x∈its.toList) _ ?_ ?_ _ _ ⟨rfl,rfl,fun _ z=>z⟩
    ·rintro x aH b s' ⟨rfl,rfl,hr⟩;obtain⟨k,hk⟩:=KAt.item z r (hr x (.head _));refine wpAny_bind (ih n (by lia) hk ?_);simp only[Bool.not_true,Bool.false_eq_true,if_false];exact wpAny_pure ⟨rfl,rfl,fun y hy=>hr y (.tail _ hy)⟩
    ·rintro b s' ⟨rfl,rfl,_⟩;exact wpAny_pure h
theorem KAt.noCls:∀(f n:Nat) {k:KD}{v:Value}{Q:Bool->Shared->Prop},n<=f->KAt s.heap n k v->Q false s->wpAny (model prog w) A (ofAClassStatement f v) Q E s:=by
 intro f
 induction f with
 |zero =>
  intro n k v Q hn q h;obtain rfl:n=0:=by lia
  cases k with
  |int i=>obtain⟨t,rfl⟩:=q;exact wpAny_pure h
  |str i=>obtain⟨t,rfl⟩:=q;exact wpAny_pure h
  |tup _=>exact q.elim
 |succ f ih =>
  intro n k v Q hn q h;cases k with
  |int i=>obtain⟨t,rfl⟩:=lh.mp q;exact wpAny_pure h
  |str i=>obtain⟨t,rfl⟩:=lO.mp q;exact wpAny_pure h
  |tup ks =>
   cases n with
   |zero=>exact q.elim
   |succ n =>
    obtain⟨a,its,rfl,tp,z,r⟩:=q;have hT:s.TypeIs (.ref a) "tuple":=by obtain⟨o,ho,hc,_⟩:=tp;exact⟨o,ho,hc⟩
    unfold ofAClassStatement;refine wpAny_bind (wpAny_typeOf hT ?_);dsimp only;rw[if_pos (by rfl)];refine wpAny_bind (wpAny_pure ?_);simp only[Bool.not_true,Bool.false_eq_true,if_false];refine wpAny_bind (sG tp ?_);dsimp only;refine wpAny_bind ?_;rw[<-Array.forIn_toList];refine wpAny_forIn_list _ (fun aH b s'=>s'=s/\b=(none,())/\∀x∈aH,x∈its.toList) _ ?_ ?_ _ _ ⟨rfl,rfl,fun _ z=>z⟩
    ·rintro x aH b s' ⟨rfl,rfl,hr⟩;obtain⟨k,hk⟩:=KAt.item z r (hr x (.head _));refine wpAny_bind (ih n (by lia) hk ?_);simp only[Bool.false_eq_true,if_false];exact wpAny_pure ⟨rfl,rfl,fun y hy=>hr y (.tail _ hy)⟩
    ·rintro b s' ⟨rfl,rfl,_⟩;exact wpAny_pure h
theorem KAt.byV:∀(f n:Nat) {k:KD}{v:Value}{Q:Bool->Shared->Prop},KAt s.heap n k v->(∀b,Q b s)->wpAny (model prog w) A (hashByValue f v) Q E s:=by
 intro f
 induction f with
 |zero =>
  intro n k v Q q h;cases k with
  |int i=>obtain⟨t,rfl⟩:=lh.mp q;exact wpAny_pure (h _)
  |str i=>obtain⟨t,rfl⟩:=lO.mp q;exact wpAny_pure (h _)
  |tup _=>cases n with
   |zero=>exact q.elim
   |succ n=>obtain⟨a,its,rfl,_⟩:=q;exact wpAny_pure (h _)
 |succ f ih =>
  intro n k v Q q h;cases k with
  |int i=>obtain⟨t,rfl⟩:=lh.mp q;exact wpAny_pure (h _)
  |str i=>obtain⟨t,rfl⟩:=lO.mp q;exact wpAny_pure (h _)
  |tup ks =>
   cases n with
   |zero=>exact q.elim
   |succ n =>
    obtain⟨a,its,rfl,tp,z,r⟩:=q;have hT:s.TypeIs (.ref a) "tuple":=by obtain⟨o,ho,hc,_⟩:=tp;exact⟨o,ho,hc⟩
    unfold hashByValue;refine wpAny_bind (wpAny_specialOf hT F.slot_tuple_hash.lookup ?_);dsimp only;refine wpAny_bind (sG tp ?_);refine wpAny_bind ?_;show wpAny _ _ (forIn its _ _) _ _ s;rw[<-Array.forIn_toList];refine wpAny_forIn_list _ (fun aH b s'=>s'=s/\b=(none,())/\∀x∈aH,x∈its.toList) _ ?_ ?_ _ _ ⟨rfl,rfl,fun _ z=>z⟩
    ·rintro x aH b s' ⟨rfl,rfl,hr⟩;obtain⟨k,hk⟩:=KAt.item z r (hr x (.head _));refine wpAny_bind (ih n hk fun b=>?_);cases b with
     |true =>
      simp only[Bool.not_true,Bool.false_eq_true,if_false];exact wpAny_pure ⟨rfl,rfl,fun y hy=>hr y (.tail _ hy)⟩
     |false =>
      simp only[Bool.not_false,if_true];exact wpAny_pure (wpAny_pure (h _))
    ·rintro b s' ⟨rfl,rfl,_⟩;exact wpAny_pure (h _)
end
def lX(h0 h:Heap):Prop:=∀b o,h0.get? b=some o->h.get? b=some o
theorem KAt.kept{h0 h:Heap}{n:Nat}{d:KD}{v:Value}(q:KAt h0 n d v) (k:lX h0 h):KAt h n d v:=q.up fun b o _ e=>k b o e
def tK(prog:Program) (w:World) (n:Nat) (hn:n<=8) (h0:Heap) (V:Value->Prop):TK prog w (List KD) where
 is h ks v:=lX h0 h/\KAt h0 n (.tup ks) v/\V v
 hash ks:=hK w n (.tup ks)
 room A:=A.units+n<cLine
 pyHash hr hx h:=KAt.hash n hr (hx.2.1.kept hx.1) (h _ (Nat.le_add_right _ _))
 eqB hr hx hy:=by
  obtain⟨b,h1,h2⟩:=KAt.eq n hr (hx.2.1.kept hx.1) (hy.2.1.kept hy.1);exact⟨b,by rw[h1];simp,h2⟩
 quiet _ hx h:=KAt.quiet 8 n hn (hx.2.1.kept hx.1) h
 noCls _ hx h:=KAt.noCls 8 n hn (hx.2.1.kept hx.1) h
 byV _ hx h:=KAt.byV 8 n (hx.2.1.kept hx.1) h
 ref {h x v} hx:=by
  obtain⟨_,hx,_⟩:=hx;cases n with
  |zero=>exact hx.elim
  |succ n=>obtain⟨a,_,e,_⟩:=hx;exact⟨a,e⟩
end L2
namespace L2
open PySem PySem.Spec PyProof.Rows
open Classical in
def bp{τ:Type}(xs:List τ) (x:τ):List τ:=if x∈xs then xs else xs++[x]
def cI{τ:Type}(xs:List τ):List τ:=xs.foldl bp []
section
variable{τ:Type}
theorem vC(xs:List τ) (x:τ):(bp xs x).length<=xs.length+1:=by unfold bp;split<;>simp
theorem vA(xs:List τ) (x y:τ):y∈bp xs x↔y∈xs∨y=x:=by
 unfold bp;split
 ·rename_i h;exact⟨.inl,fun q=>q.elim id fun e=>e▸h⟩
 ·simp
theorem ny:∀(xs zs:List τ),(xs.foldl bp zs).length<=zs.length+xs.length
 |[],_=>Nat.le_refl _
 |x::xs,zs=>by
  have:=ny xs (bp zs x);have:=vC zs x;simp only[List.foldl_cons,List.length_cons];lia
theorem nI:∀(xs zs:List τ) (y:τ),y∈xs.foldl bp zs↔y∈zs∨y∈xs
 |[],_,_=>by simp
 |x::xs,zs,y=>by
  rw[List.foldl_cons,nI xs,vA,List.mem_cons,or_assoc]
theorem me(xs:List τ) (y:τ):y∈cI xs↔y∈xs:=by rw[cI,nI];simp
theorem eY(xs:List τ):(cI xs).length<=xs.length:=by have:=ny xs [];simpa[cI]using this
theorem ve(xs:List τ) (i:Nat) (h:i<xs.length):cI (xs.take (i+1))=bp (cI (xs.take i)) xs[i]:=by
 rw[List.take_succ_eq_append_getElem h,cI,List.foldl_append];rfl
theorem pN{xs:List τ}(h:xs.Nodup) (x:τ):(bp xs x).Nodup:=by
 unfold bp;split
 ·exact h
 ·rename_i c;rw[List.nodup_append];exact⟨h,by simp,fun a ha b hb=>by rw[List.mem_singleton]at hb;rintro rfl;exact c (hb▸ha)⟩
theorem pU:∀(xs zs:List τ),zs.Nodup->(xs.foldl bp zs).Nodup
 |[],_,h=>h
 |x::xs,zs,h=>pU xs _ (pN h x)
theorem tG(xs:List τ):(cI xs).Nodup:=pU xs [] .nil
end
section
variable{prog:Program}{w:World}{A:Around}{R:Result->Shared->Prop}{I:Addr}{fp wr:List Addr}{G:Array GenState->Array GenState->Prop}{P:Nat->Value->Prop}{St:Nat->Shared->Prop}
theorem EU{V:Value->Prop}{n:Nat}{hn:n<=8}{h0:Heap}{xs:List (List KD)}(W:WalksS prog w A.in1 I fp wr G xs.length P St) (S:Addr) (hSf:S∉fp)
  (hfr:∀b∈S::wr,h0.get? b=none) (hu:A.in1.units+n<cLine) (hval:∀i v (h:i<xs.length),P i v->KAt h0 n (.tup xs[i]) v/\V v) (hb:xs.length<1000) :
  ∀(k i:Nat) (s:Shared),xs.length-i=k->i<=xs.length->St i s->lX h0 s.heap->ip (tK prog w n hn h0 V) s.heap S (cI (xs.take i)) ->
   (∀s',Moved (S::wr) G s s'->lX h0 s'.heap->ip (tK prog w n hn h0 V) s'.heap S (cI xs)->R (.ok (.ret .none)) s') ->
   codeAny (model prog w) A (.builtin "set.update.loop" ⟨[.ref S,.ref I],[]⟩) R s:=by
 have hSw:S∉wr:=fun h=>hSf (W.sub _ h);have hsub:∀b∈wr,b∈S::wr:=fun b hb=>List.mem_cons_of_mem _ hb;intro k
 induction k with
 |zero =>
  intro i s hk hi hst hK hS hR;have hin:i=xs.length:=by lia
  subst hin;refine codeAny_builtin F.entry_set_update_loop ?_;rw[Around.under_plainId F.plain_set_update_loop _];show wpAny _ A.in1 (pyNext (.ref I) >>= _) _ _ s;refine wpAny_bind (W.done s _ _ hst fun s' hm=>?_);show wpAny _ A.in1 (ret Value.none) _ _ s';rw[List.take_length]at hS;have hK':lX h0 s'.heap:=fun b o e=>hm.heap b o (fun q=>by rw[hfr b (hsub b q)]at e;cases e) (hK b o e);exact wpAny_pure (hR s' (hm.mono hsub) hK' (hS.mono (fun o e=>hm.heap S _ hSw e) fun z v q=>⟨hK',q.2⟩))
 |succ k ih =>
  intro i s hk hi hst hK hS hR;have hlt:i<xs.length:=by lia
  refine codeAny_builtin F.entry_set_update_loop ?_;rw[Around.under_plainId F.plain_set_update_loop _];show wpAny _ A.in1 (pyNext (.ref I) >>= _) _ _ s;refine wpAny_bind (W.item i s _ _ hlt hst fun v s' hP hst' hm=>?_);have hx:=hval i v hlt hP;have hK':lX h0 s'.heap:=fun b o e=>hm.heap b o (fun q=>by rw[hfr b (hsub b q)]at e;cases e) (hK b o e);have hS':ip (tK prog w n hn h0 V) s'.heap S (cI (xs.take i)):=hS.mono (fun o e=>hm.heap S _ hSw e) fun z v q=>⟨hK',q.2⟩;show wpAny _ A.in1 (holding [v] (setAdd S v) >>= _) _ _ s';refine wpAny_bind (wpAny_holding ?_);unfold setAdd;refine wpAny_holding ?_;refine wpAny_bind ((tK prog w n hn h0 V).pyHash (x:=xs[i]) hu ⟨hK',hx⟩ fun tk htk=>?_);have hroom:(cI (xs.take i)).length<1000:=by have:=eY (xs.take i);rw[List.length_take]at this;lia
  have kpt:∀h',Heap.SameBut S s'.heap h'->lX h0 h':=fun h' sb b o e=>by
   rw[sb.2 b fun z=>by rw[z,hfr S (.head _)]at e;cases e];exact hK' b o e
  refine F9 (s:={ s' with toks:=tk }) (κ:=tK prog w n hn h0 V) hu ⟨hK',hx⟩ hS' hroom (fun h' z v sb q=>⟨kpt h' sb,q.2⟩) fun b h' hsb y1 y2=>?_;have hSi:ip (tK prog w n hn h0 V) h' S (cI (xs.take (i+1))):=by
   rw[ve xs i hlt];unfold bp
   split
   ·rename_i c;exact y1 c
   ·rename_i c;exact y2 c
  refine wpAny_pure ⟨plainId_quiet F.plain_set_update_loop _,ih (i+1) _ (by lia) hlt (W.frame _ s' _ _ hst' htk fun b hb o e=>?_) (kpt h' hsb) hSi fun s'' hm'' hK'' hS''=>?_⟩
  ·rw[hsb.2 b (fun h:b=S=>hSf (by rw[<-h];exact hb))];exact e
  ·refine hR s'' (Moved.trans W.gtrans ((hm.mono hsub).then_heap htk fun b o hb e=>?_) hm'') hK'' hS'';rw[hsb.2 b (fun h:b=S=>hb (by rw[h];exact List.mem_cons_self))];exact e
end
section
variable{prog:Program}{w:World}{A:Around}{E:Value->Shared->Prop}{s:Shared}
theorem wx{V:Value->Prop}{n:Nat}{hn:n<=8}{h0 h:Heap}{a:Addr}(g:h.get? a=some (cH w)):ip (tK prog w n hn h0 V) h a [] :=
 ⟨_,#[],0,_,[],⟨g,⟨rfl,rfl,rfl⟩,rfl,⟨rfl,fun i z hz=>by simp at hz⟩,.nil,⟨rfl,fun i j _ hj=>by simp[SetTable.fresh]at hj,fun i hi=>by simp[SetTable.fresh]at hi,rfl,⟨3,by lia,rfl⟩,by simp[SetTable.fresh],fun i h q=>by simp[cX]at q⟩,rfl,by simp[SetTable.fresh],.inl (by simp[SetTable.fresh])⟩,.refl _⟩
set_option maxHeartbeats 3200000 in
theorem uW{n:Nat}{hn8:n<=8}{l:Addr}{items:Array Value}{xs:List (List KD)}{Q:Value->Shared->Prop}
  (hh:A.handled=none) (hu:A.units+n+8<cLine) (hl:s.heap.IsList l items) (hn:items.size=xs.length) (hi:∀(i:Nat) k u,xs[i]?=some k->items[i]?=some u->KAt s.heap n (.tup k) u) (hb:xs.length<1000)
  (h:∀(h':Heap) (tk:Nat),ip (tK prog w n hn8 s.heap (·∈items)) h' s.heap.objs.size (cI xs)->lX s.heap h'->Q (.ref s.heap.objs.size) { s with heap:=h',toks:=tk }) :
  wpAny (model prog w) A (call (.type "set") [.ref l]) Q E s:=by
 obtain⟨c,tl,hmro⟩:=PySem.F.called_set.mro;have hmade:=PySem.F.called_set.made;have hsub:=PySem.F.called_set.sub;refine wpAny_call (codeAny_of_tree ?_);show wpAny _ _ (callAny (.type "set") _) _ _ _;refine wpAny_pure ⟨Code.quiet_builtin _ (by decide +kernel),codeAny_builtin PySem.F.entry_type_call ?_⟩;rw[Around.under_plain (weight_type_call_type "set" [.ref l] []) rfl];have h1:=PySem.F.called_set.notType;have h2:=PySem.F.called_set.canCreate;have hct:=PySem.F.typeCall_set_1 (.ref l)
 repeat (any_goals (first|assumption|wp_step))
 refine codeAny_mono (lE (.ref l) (E:=E) (Q₁:=fun obj s₁=>obj=.ref s.heap.objs.size/\s₁={ s with heap:=s.heap.push (cH w) }) ⟨rfl,rfl⟩) fun r s₁ hr=>?_;cases r with
 |error e=>exact hr
 |ok fl =>
  cases fl with
  |ret obj =>
   obtain⟨rfl,rfl⟩:=hr;have hS:(s.heap.push (cH w)).get? s.heap.objs.size=some (cH w):=Heap.get?_push_size _ rfl;have hT:Shared.TypeIs { s with heap:=s.heap.push (cH w) } (.ref s.heap.objs.size) "set":=⟨_,hS,rfl⟩;have hli:=PySem.F.called_set.init.lookup;have hbi:=PySem.F.called_set.init.bind (.ref s.heap.objs.size)
   repeat (any_goals (first|assumption|wp_step))
   refine codeAny_mono (codeAny_call_builtin (R:=wants (fun r s₂=>r=.none/\∃h' tk,s₂={ s with heap:=h',toks:=tk } /\
     ip (tK prog w n hn8 s.heap (·∈items)) h' s.heap.objs.size (cI xs)/\lX s.heap h') E) PySem.F.called_set.init.plain PySem.F.entry_set_init (check_set_init_1 hT ?_)) fun r₂ s₂ hr₂=>?_
   ·obtain⟨ol,hol,hcl,nl,hdl⟩:=hl;obtain⟨ocls,odict,odata,oslots⟩:=ol;simp only at hcl hdl;subst hcl;subst hdl;have hol':(s.heap.push (cH w)).get? l=some { cls:=.type "list",dict:=odict,data:=.seq items nl,slots:=oslots }:=Heap.get?_push_of_some _ hol;have hsls:=PySem.F.sub_list_set;have hslf:=PySem.F.sub_list_frozenset;have hne:(Value.type "list"==Value.type "dict")=false:=by decide
    have hl1:(s.heap.push (cH w)).IsList l items:=⟨_,hol',rfl,nl,rfl⟩;unfold Builtin.«set.__init__» noKeywords Builtin.Frozenset.updateFrom;generalize hPI:pyIter=PI
    wp_walk
    subst hPI;refine wpAny_pyIter_list hl1 ?_;refine wpAny_bind (wpAny_runValue ?_);have hlS:l<s.heap.objs.size:=Heap.lt_size hol;have hh3:A.in1.in1.in1.handled=none:=by simp[hh]
    have hneI:l≠(s.heap.push (cH w)).objs.size:=by
     rw[Heap.size_push];exact Nat.ne_of_lt (Nat.lt_succ_of_lt hlS)
    have hSf:s.heap.objs.size∉[(s.heap.push (cH w)).objs.size,l]:=by
     rw[Heap.size_push];simp only[List.mem_cons,List.mem_singleton,List.not_mem_nil,or_false,not_or];exact⟨Nat.ne_of_lt (Nat.lt_succ_self _),Nat.ne_of_gt hlS⟩
    have W:=(Walks.list (prog:=prog) (w:=w) hh3 _ l hneI items).toS;rw[hn]at W;have frs:∀b,s.heap.objs.size<=b->s.heap.get? b=none:=fun b hb=>Heap.get?_none_of_le hb;refine EU (V:=(·∈items)) (n:=n) (hn:=hn8) (h0:=s.heap) (xs:=xs) W s.heap.objs.size hSf (fun b hb=>?_) (show A.units+1+1+1+n<cLine by lia) (fun i v hlt hv=>⟨hi i _ _ (List.getElem?_eq_getElem hlt) hv,Array.mem_of_getElem? hv⟩) hb (xs.length-0) 0 _ (by lia) (Nat.zero_le _) ?St0 ?hK0 ?hS0 ?hR
    case St0=>exact⟨⟨_,Heap.get?_push_size _ rfl,rfl,rfl⟩,(hl1.push _)⟩
    ·rcases List.mem_cons.mp hb with rfl|hb
     ·exact frs _ (Nat.le_refl _)
     ·rw[List.mem_singleton.mp hb,Heap.size_push];exact frs _ (Nat.le_succ _)
    case hK0=>exact fun b o e=>Heap.get?_push_of_some _ (Heap.get?_push_of_some _ e)
    case hS0=>exact wx (Heap.get?_push_of_some _ hS)
    case hR =>
     intro s' hm hK' hS';obtain⟨h',g',d',tk',os'⟩:=s';have eg:g'=s.gens:=hm.gens;have ed:d'=s.drawn:=hm.drawn;have eo:os'=s.os:=hm.os;subst eg;subst ed;subst eo;show wpAny _ _ _ _ _ _;refine wpAny_pure ?_;show wpAny _ _ (ret Value.none) _ _ _;exact wpAny_pure ⟨rfl,h',tk',rfl,hS',hK'⟩
   ·cases r₂ with
    |error e=>exact hr₂
    |ok fl₂ =>
     cases fl₂ with
     |ret r =>
      obtain⟨rfl,h',tk,rfl,hS',hk'⟩:=hr₂
      repeat (any_goals (first|assumption|wp_step))
      exact h _ _ hS' hk'
     |_=>exact hr₂.elim
  |_=>exact hr.elim
end
end L2
namespace L2
open PySem PySem.Spec PyProof.Rows PySem.SeqAt
open Classical in
mutual
def ltK:KD->KD->Bool
 |.int i,.int j=>decide (i<j)
 |.int _,.str _=>true
 |.int _,.tup _=>true
 |.str _,.int _=>false
 |.str a,.str b=>ltS a b
 |.str _,.tup _=>true
 |.tup _,.int _=>false
 |.tup _,.str _=>false
 |.tup a,.tup b=>bf a b
def bf:List KD->List KD->Bool
 |[],[]=>false
 |[],_::_=>true
 |_::_,[]=>false
 |a::as,b::bs=>if a=b then bf as bs else ltK a b
end
mutual
theorem zC:∀a:KD,ltK a a=false
 |.int i=>by simp[ltK]
 |.str a=>by simp only[ltK];exact yV a
 |.tup a=>by simp only[ltK];exact iZ a
theorem iZ:∀a:List KD,bf a a=false
 |[]=>by simp[bf]
 |a::as=>by simp only[bf,if_true];exact iZ as
end
mutual
theorem As:∀a b:KD,ltK a b=false->ltK b a=false->a=b
 |.int i,.int j,h1,h2=>by simp[ltK]at h1 h2;congr 1;lia
 |.int _,.str _,h1,_=>by simp[ltK]at h1
 |.int _,.tup _,h1,_=>by simp[ltK]at h1
 |.str _,.int _,_,h1=>by simp[ltK]at h1
 |.str a,.str b,h1,h2=>by simp only[ltK]at h1 h2;rw[yW h1 h2]
 |.str _,.tup _,h1,_=>by simp[ltK]at h1
 |.tup _,.int _,_,h1=>by simp[ltK]at h1
 |.tup _,.str _,_,h1=>by simp[ltK]at h1
 |.tup a,.tup b,h1,h2=>by simp only[ltK]at h1 h2;rw[gc a b h1 h2]
theorem gc:∀a b:List KD,bf a b=false->bf b a=false->a=b
 |[],[],_,_=>rfl
 |[],_::_,h1,_=>by simp[bf]at h1
 |_::_,[],_,h1=>by simp[bf]at h1
 |a::as,b::bs,h1,h2=>by
  simp only[bf]at h1 h2
  by_cases c:a=b
  ·subst c;rw[if_pos rfl]at h1 h2;rw[gc as bs h1 h2]
  ·rw[if_neg c]at h1;rw[if_neg fun z=>c z.symm]at h2;exact absurd (As a b h1 h2) c
end
mutual
theorem By:∀a b c:KD,ltK a b=true->ltK b c=true->ltK a c=true
 |.int i,.int j,.int k,h1,h2=>by simp[ltK]at h1 h2 ⊢;lia
 |.int _,.str _,.int _,_,h2=>by simp[ltK]at h2
 |.int _,.tup _,.int _,_,h2=>by simp[ltK]at h2
 |.int _,_,.str _,_,_=>by simp[ltK]
 |.int _,_,.tup _,_,_=>by simp[ltK]
 |.str _,.int _,_,h1,_=>by simp[ltK]at h1
 |.str a,.str b,.str c,h1,h2=>by simp only[ltK]at h1 h2 ⊢;exact vv h1 h2
 |.str _,.str _,.int _,_,h2=>by simp[ltK]at h2
 |.str _,.tup _,.int _,_,h2=>by simp[ltK]at h2
 |.str _,.tup _,.str _,_,h2=>by simp[ltK]at h2
 |.str _,_,.tup _,_,_=>by simp[ltK]
 |.tup _,.int _,_,h1,_=>by simp[ltK]at h1
 |.tup _,.str _,_,h1,_=>by simp[ltK]at h1
 |.tup _,.tup _,.int _,_,h2=>by simp[ltK]at h2
 |.tup _,.tup _,.str _,_,h2=>by simp[ltK]at h2
 |.tup a,.tup b,.tup c,h1,h2=>by simp only[ltK]at h1 h2 ⊢;exact iD a b c h1 h2
theorem iD:∀a b c:List KD,bf a b=true->bf b c=true->bf a c=true
 |_,[],[],_,h2=>by simp[bf]at h2
 |_,_::_,[],_,h2=>by simp[bf]at h2
 |[],_,_::_,_,_=>by simp[bf]
 |_::_,[],_::_,h1,_=>by simp[bf]at h1
 |a::as,b::bs,c::cs,h1,h2=>by
  simp only[bf]at h1 h2 ⊢
  by_cases e1:a=b
  ·subst e1;rw[if_pos rfl]at h1
   by_cases e2:a=c
   ·rw[if_pos e2]at h2 ⊢;exact iD as bs cs h1 h2
   ·rw[if_neg e2]at h2 ⊢;exact h2
  ·rw[if_neg e1]at h1
   by_cases e2:b=c
   ·subst e2;rw[if_neg e1];exact h1
   ·rw[if_neg e2]at h2;have h3:=By a b c h1 h2
    by_cases e3:a=c
    ·subst e3;rw[zC]at h3;cases h3
    ·rw[if_neg e3];exact h3
end
def Ah:KeyOrd where
 α:=List KD
 blt:=bf
 irrefl:=iZ
 trans:=iD
 negTrans a b c h:=by
  cases h1:bf a b with
  |true=>exact .inl rfl
  |false =>
   refine .inr ?_;cases h2:bf b a with
   |true=>exact iD _ _ _ h2 h
   |false=>rw[<-gc _ _ h1 h2];exact h
 total:=gc
def leK(a b:List KD):Bool:=not (bf b a)
def bN(ps:List (List KD)):List (List KD):=ps.mergeSort leK
theorem bx(ps:List (List KD)):(bN ps).Perm ps:=List.mergeSort_perm _ _
theorem qv(ps:List (List KD)):(bN ps).Pairwise fun a b=>leK a b=true :=
 List.pairwise_mergeSort (fun a b c h1 h2=>by
  simp only[leK,Bool.not_eq_true']at *
  cases h:bf c a with
  |false=>rfl
  |true =>
   rcases Ah.negTrans _ b _ h with z|z
   ·exact absurd z (by rw[show Ah.blt c b=bf c b from rfl,h2];simp)
   ·exact absurd z (by rw[show Ah.blt b a=bf b a from rfl,h1];simp)) (fun a b=>by
  cases h:leK a b with
  |true=>rfl
  |false =>
   have h':bf b a=true:=by simpa[leK]using h
   cases h2:bf a b with
   |false=>simp[leK,h2]
   |true=>have:=iD _ _ _ h' h2;rw[iZ]at this;cases this) ps
theorem qV{ps qs:List (List KD)}(h:qs.Perm ps) (hs:qs.Pairwise fun a b=>leK a b=true):qs=bN ps :=
 List.Perm.eq_of_pairwise (le:=fun a b=>leK a b=true) (fun a b _ _ h1 h2=>gc _ _ (by simpa[leK]using h2) (by simpa[leK]using h1)) hs (qv ps) (h.trans (bx ps).symm)
mutual
def Cm:KD->KD->Prop
 |.int _,.int _=>True
 |.str _,.str _=>True
 |.tup a,.tup b=>Cms a b
 |_,_=>False
def Cms:List KD->List KD->Prop
 |a::as,b::bs=>Cm a b/\Cms as bs
 |_,_=>True
end
section
variable{prog:Program}{w:World}{A:Around}{E:Value->Shared->Prop}{s:Shared}
theorem wf{n:Nat}{ds es:List KD}{a b:Addr}{Q:Value->Shared->Prop}(hu:A.units+(n+1)<cLine) (q1:KAt s.heap (n+1) (.tup ds) (.ref a)) (q2:KAt s.heap (n+1) (.tup es) (.ref b)) (hc:Cms ds es)
  (ih:∀{A:Around} {E:Value->Shared->Prop} {d e:KD} {v u:Value} {Q:Value->Shared->Prop},A.units+n<cLine->KAt s.heap n d v->KAt s.heap n e u->Cm d e->Q (.bool (ltK d e)) s->wpAny (model prog w) A (richCompare .Lt v u) Q E s)
  (h:Q (.bool (bf ds es)) s):wpAny (model prog w) A (call (.builtin "tuple.__lt__") [.ref a,.ref b]) Q E s:=by
 obtain⟨_,its,e1,t1,z1,r1⟩:=q1;obtain⟨_,its2,e2,t2,z2,r2⟩:=q2;cases e1;cases e2;obtain⟨o1,g1,c1,n1,d1⟩:=id t1;obtain⟨o2,g2,c2,n2,d2⟩:=id t2;have T1:s.TypeIs (.ref a) "tuple":=⟨o1,g1,c1⟩;have T2:s.TypeIs (.ref b) "tuple":=⟨o2,g2,c2⟩;refine wpAny_call_entry F.slot_tuple_lt T1 F.entry_tuple_lt ?_ (F.args_tuple_lt_2 _ _);show wpAny _ _ (isInstance (.ref b) (.type "tuple") >>= _) _ _ s;refine wpAny_bind (wpAny_isInstance T2 isSubtype_tuple_tuple ?_);simp only[Bool.not_true,Bool.false_eq_true,if_false];refine wpAny_bind (wpAny_tupleItemsOf g1 d1 ?_);refine wpAny_bind (wpAny_tupleItemsOf g2 d2 ?_);refine wpAny_bind ?_;refine wpAny_forIn_list _ (fun aH r s'=>r.1=none/\s'=s/\∃m,m<=min its.size its2.size/\aH=(its.toList.zip its2.toList).drop m/\bf ds es=bf (ds.drop m) (es.drop m)/\Cms (ds.drop m) (es.drop m)) _ ?_ ?_ _ _ ⟨rfl,rfl,0,Nat.zero_le _,rfl,rfl,hc⟩
 ·rintro⟨x,y⟩ aH r s' ⟨hr,rfl,m,_,hz,hl,hcm⟩;have hlt:m<(its.toList.zip its2.toList).length:=by
   rcases Nat.lt_or_ge m (its.toList.zip its2.toList).length with q|q
   ·exact q
   ·rw[List.drop_eq_nil_of_le q]at hz;cases hz
  have hlt':m<its.size/\m<its2.size:=by
   rw[List.length_zip,Array.length_toList,Array.length_toList]at hlt;lia
  rw[List.drop_eq_getElem_cons hlt]at hz;injection hz with hxy hrest
  have hx:x=its[m]'hlt'.1:=by have:=congrArg Prod.fst hxy;simpa using this
  have hy:y=its2[m]'hlt'.2:=by have:=congrArg Prod.snd hxy;simpa using this
  subst hx hy;have m1:m<ds.length:=by lia
  have m2:m<es.length:=by lia
  have k1:=r1 m _ _ (List.getElem?_eq_getElem m1) (Array.getElem?_eq_getElem hlt'.1);have k2:=r2 m _ _ (List.getElem?_eq_getElem m2) (Array.getElem?_eq_getElem hlt'.2);rw[List.drop_eq_getElem_cons m1,List.drop_eq_getElem_cons m2]at hl hcm;simp only[bf,Cms]at hl hcm;obtain⟨bb,b1,b2⟩:=KAt.eq n (A:=A.in1) (show A.units+1+n<cLine by lia) k1 k2;refine wpAny_bind (b2 prog w _ _ ?_);cases bb with
  |true =>
   rw[if_pos (b1.mp rfl)]at hl;simp only[Bool.not_true,Bool.false_eq_true,if_false];exact wpAny_pure ⟨rfl,rfl,m+1,by lia,hrest,hl,hcm.2⟩
  |false =>
   have ne:¬ ds[m]=es[m]:=fun z=>by have:=b1.mpr z;cases this
   rw[if_neg ne]at hl;simp only[Bool.not_false,if_true];refine wpAny_bind (wpAny_rule ?_);refine wpAny_bind (ih (A:=A.in1) (show A.units+1+n<cLine by lia) k1 k2 hcm.1 ?_);rw[<-hl];exact wpAny_bind (wpAny_pure (wpAny_pure (wpAny_pure ⟨_,rfl,h⟩)))
 ·rintro⟨r1',r2'⟩ s' ⟨hr,rfl,m,hm,hz,hl,_⟩;simp only at hr;subst hr;have hge:min its.size its2.size<=m:=by
   rcases Nat.lt_or_ge m (its.toList.zip its2.toList).length with q|q
   ·rw[List.drop_eq_getElem_cons q]at hz;cases hz
   ·simpa[List.length_zip]using q
  refine wpAny_pure ⟨_,rfl,?_⟩;show Q (.bool (decide (its.size<its2.size))) s';have:bf ds es=decide (its.size<its2.size):=by
   rw[hl];rcases Nat.lt_or_ge its.size its2.size with q|q
   ·rw[decide_eq_true q,List.drop_eq_nil_of_le (by lia),List.drop_eq_getElem_cons (show m<es.length by lia)];simp[bf]
   ·rw[decide_eq_false (by lia),show es.drop m=[]from List.drop_eq_nil_of_le (by lia)];cases ds.drop m<;>simp[bf]
  rw[<-this];exact h
theorem DX(n:Nat):∀{A:Around}{E:Value->Shared->Prop}{d e:KD}{v u:Value}{Q:Value->Shared->Prop},A.units+n<cLine->KAt s.heap n d v->KAt s.heap n e u->Cm d e->Q (.bool (ltK d e)) s->wpAny (model prog w) A (richCompare .Lt v u) Q E s:=by
 have hI:∀{A:Around} {E:Value->Shared->Prop} {i j:Int} {t t':Tok} {Q:Value->Shared->Prop},Q (.bool (decide (i<j))) s->wpAny (model prog w) A (richCompare .Lt (.int i t) (.int j t')) Q E s:=fun h=>wpAny_lt_int h;have hS:∀{A:Around} {E:Value->Shared->Prop} {i j:Str} {t t':Tok} {Q:Value->Shared->Prop},Q (.bool (ltS i j)) s->wpAny (model prog w) A (richCompare .Lt (.str i t) (.str j t')) Q E s:=fun {A E i j t t' Q} h =>
  wpAny_richCompare_same (op:=.Lt) (T:="str") (typeIs_str s i t) (typeIs_str s j t') slot_str_lt (call_str_lt ⟨fun z=>(by cases z),h⟩)
 induction n with
 |zero =>
  intro A E d e v u Q hu q1 q2 hc h;cases d<;>cases e<;>first|exact hc.elim|exact q1.elim|skip
  ·obtain⟨t,rfl⟩:=q1;obtain⟨t',rfl⟩:=q2;exact hI (by simpa only[ltK]using h)
  ·obtain⟨t,rfl⟩:=q1;obtain⟨t',rfl⟩:=q2;exact hS (by simpa only[ltK]using h)
 |succ n ih =>
  intro A E d e v u Q hu q1 q2 hc h;cases d<;>cases e<;>first|exact hc.elim|skip
  ·obtain⟨t,rfl⟩:=q1;obtain⟨t',rfl⟩:=q2;exact hI (by simpa only[ltK]using h)
  ·obtain⟨t,rfl⟩:=q1;obtain⟨t',rfl⟩:=q2;exact hS (by simpa only[ltK]using h)
  ·rename_i ds es;obtain⟨a,its,rfl,t1,_⟩:=id q1;obtain⟨b,its2,rfl,t2,_⟩:=id q2;have T1:s.TypeIs (.ref a) "tuple":=by obtain⟨o,ho,hc,_⟩:=t1;exact⟨o,ho,hc⟩
   have T2:s.TypeIs (.ref b) "tuple":=by obtain⟨o,ho,hc,_⟩:=t2;exact⟨o,ho,hc⟩
   exact wpAny_richCompare_same_room (op:=.Lt) T1 T2 F.slot_tuple_lt (wf hu q1 q2 (by simpa only[Cm]using hc) ih ⟨fun z=>(by cases z),by simpa only[ltK]using h⟩) (by lia)
end
end L2
namespace L2
open PySem PySem.W PySem.Calls PyProof.Rows PySem.SeqAt
section
variable{prog:Program}{w:World}{A:Around}{E:Value->Shared->Prop}{s:Shared}
theorem ER{n:Nat}{k:KD}{v:Value}{Q:Value->Shared->Prop}(q:KAt s.heap n k v) (h:∀T,Q T s):wpAny (model prog w) A (typeOf v) Q E s:=by
 cases k with
 |int i=>obtain⟨t,rfl⟩:=lh.mp q;exact wpAny_pure (h _)
 |str i=>obtain⟨t,rfl⟩:=lO.mp q;exact wpAny_pure (h _)
 |tup ks=>cases n with
  |zero=>exact q.elim
  |succ n =>
   obtain⟨a,its,rfl,⟨o,ho,hc,_⟩,_⟩:=q;exact wpAny_typeOf ⟨o,ho,hc⟩ (h _)
theorem xV{n:Nat}{ds es:List KD}{v u:Value}{Q:Bool->Shared->Prop}(hu:A.units+(n+1)<cLine) (q1:KAt s.heap (n+1) (.tup ds) v) (q2:KAt s.heap (n+1) (.tup es) u) (hc:Cms ds es) (h:Q (bf ds es) s):wpAny (model prog w) A (oneLt' true v u) Q E s:=by
 obtain⟨a,its,rfl,t1,_⟩:=id q1;obtain⟨b,its2,rfl,t2,_⟩:=id q2;have T1:s.TypeIs (.ref a) "tuple":=by obtain⟨o,ho,hc,_⟩:=t1;exact⟨o,ho,hc⟩
 rw[oneLt'_eq];simp only[if_true];refine wpAny_bind (wpAny_cRoomFor_or (.inr (by lia)) ?_);refine wpAny_bind (wpAny_callSpecialIfBound?_slot T1 F.slot_tuple_lt (wf hu q1 q2 hc (DX n) ?_));exact wpAny_truthy_bool h
theorem E6(f:Bool) {n:Nat}{d e:KD}{v u:Value}{Q:Bool->Shared->Prop}(hu:A.units+n<cLine) (q1:KAt s.heap n d v) (q2:KAt s.heap n e u) (hc:Cm d e) (h:Q (ltK d e) s):wpAny (model prog w) A (oneLt' f v u) Q E s:=by
 cases f with
 |false=>exact kat_one _ _ (DX n hu q1 q2 hc h)
 |true =>
  cases d with
  |int i=>cases e with
   |int j=>obtain⟨t,rfl⟩:=lh.mp q1;obtain⟨t',rfl⟩:=lh.mp q2;exact oneLt_int (by simpa only[ltK]using h)
   |_=>exact hc.elim
  |str i=>cases e with
   |str j=>obtain⟨t,rfl⟩:=lO.mp q1;obtain⟨t',rfl⟩:=lO.mp q2;exact oneLt_str (by simpa only[ltK,ltS]using h)
   |_=>exact hc.elim
  |tup ds=>cases e with
   |tup es=>cases n with
    |zero=>exact q1.elim
    |succ n=>exact xV hu q1 q2 (by simpa only[Cm]using hc) (by simpa only[ltK]using h)
   |_=>exact hc.elim
def SKd(κ:SortKind):Prop:=κ=general'∨κ=oneType'∨∃b,κ=tuples' b
theorem GH{κ:SortKind}(hκ:SKd κ) {n:Nat}{ds es:List KD}{v u:Value}{Q:Bool->Shared->Prop}(hu:A.units+(n+1)<cLine) (q1:KAt s.heap (n+1) (.tup ds) v) (q2:KAt s.heap (n+1) (.tup es) u) (hc:Cms ds es) (h:Q (bf ds es) s):wpAny (model prog w) A (keyLt' κ v u) Q E s:=by
 rcases hκ with rfl|rfl|⟨b,rfl⟩
 ·show wpAny _ _ (oneLt' false v u) _ _ _;exact E6 false (d:=.tup ds) (e:=.tup es) hu q1 q2 (by simpa only[Cm]using hc) (by simpa only[ltK]using h)
 ·rw[keyLt'_oneType];exact xV hu q1 q2 hc h
 ·obtain⟨a,its,rfl,⟨o1,g1,c1,n1,d1⟩,z1,r1⟩:=q1;obtain⟨c,its2,rfl,⟨o2,g2,c2,n2,d2⟩,z2,r2⟩:=q2;refine kat_lt g1 d1 g2 d2 ?_;have go:∀k m,ds.length-m=k->m<=min its.size its2.size->bf ds es=bf (ds.drop m) (es.drop m)->Cms (ds.drop m) (es.drop m)->KatLex prog w A b (decide (its.size<its2.size)) Q ((its.toList.zip its2.toList).drop m) m s:=by
   intro k
   induction k with
   |zero =>
    intro m hk hm hl _;rw[List.drop_eq_nil_of_le (by rw[List.length_zip,Array.length_toList,Array.length_toList];lia)];refine kat_nil ?_;have:decide (its.size<its2.size)=bf ds es:=by
     rw[hl,List.drop_eq_nil_of_le (show ds.length<=m by lia)];rcases Nat.lt_or_ge m es.length with q|q
     ·rw[List.drop_eq_getElem_cons q,decide_eq_true (by lia)];simp[bf]
     ·rw[List.drop_eq_nil_of_le q,decide_eq_false (by lia)];simp[bf]
    rw[this];exact h
   |succ k ih =>
    intro m hk hm hl hcm;have m1:m<ds.length:=by lia
    rcases Nat.lt_or_ge m es.length with m2|m2
    ·have hz:m<(its.toList.zip its2.toList).length:=by rw[List.length_zip,Array.length_toList,Array.length_toList];lia
     rw[List.drop_eq_getElem_cons hz];have i1:m<its.size:=by lia
     have i2:m<its2.size:=by lia
     have e:(its.toList.zip its2.toList)[m]=(its[m],its2[m]):=by simp
     rw[e];have k1:=r1 m _ _ (List.getElem?_eq_getElem m1) (Array.getElem?_eq_getElem i1);have k2:=r2 m _ _ (List.getElem?_eq_getElem m2) (Array.getElem?_eq_getElem i2);rw[List.drop_eq_getElem_cons m1,List.drop_eq_getElem_cons m2]at hl hcm;simp only[bf,Cms]at hl hcm;obtain⟨bb,b1,b2⟩:=KAt.eq n (A:=A) (by lia) k1 k2;refine kat_cons (b2 prog w _ _ ?_);cases bb with
     |true =>
      rw[if_pos (b1.mp rfl)]at hl;exact kat_yes (ih (m+1) (by lia) (by lia) hl hcm.2)
     |false =>
      have ne:¬ ds[m]=es[m]:=fun z=>by have:=b1.mpr z;cases this
      rw[if_neg ne]at hl;exact kat_no (E6 _ (by lia) k1 k2 hcm.1 (by rw[<-hl];exact h))
    ·rw[List.drop_eq_nil_of_le (by rw[List.length_zip,Array.length_toList,Array.length_toList];lia)];refine kat_nil ?_;have:decide (its.size<its2.size)=bf ds es:=by
      rw[hl,List.drop_eq_nil_of_le m2,List.drop_eq_getElem_cons m1,decide_eq_false (by lia)];simp[bf]
     rw[this];exact h
  exact go _ 0 rfl (Nat.zero_le _) rfl hc
theorem ml{β:Type}{f:Value->Sem β}{R:β->Prop}:∀(l:List Value) {Q:List β->Shared->Prop},(∀v∈l,∀Q':β->Shared->Prop,(∀r,R r->Q' r s)->wpAny (model prog w) A (f v) Q' E s)->(∀rs,(∀r∈rs,R r)->Q rs s)->wpAny (model prog w) A (l.mapM f) Q E s
 |[],Q,_,h=>by rw[List.mapM_nil];exact wpAny_pure (h [] fun _ z=>nomatch z)
 |v::l,Q,hf,h=>by
  rw[List.mapM_cons];refine wpAny_bind (hf v (.head _) _ fun r hr=>wpAny_bind (ml l (fun u hu=>hf u (.tail _ hu)) fun rs hrs=>wpAny_pure (h _ fun x hx=>?_)));rcases List.mem_cons.mp hx with rfl|hx
  ·exact hr
  ·exact hrs x hx
theorem E7{vs:List Value}{n:Nat}(hv:∀v∈vs,∃k,KAt s.heap (n+1) (.tup k) v) {Q:SortKind->Shared->Prop}(h:∀ κ,SKd κ->Q κ s):wpAny (model prog w) A (keyKind' vs.toArray) Q E s:=by
 have one:∀(l:List Value) (Q':Option Value->Shared->Prop),(∀v∈l,∃n k,KAt s.heap n k v)->(∀r,Q' r s)->wpAny (model prog w) A (oneTypeOnly' l.toArray) Q' E s:=fun l Q' hl hq=>by
  rw[oneTypeOnly'_eq,List.mapM_toArray,map_eq_pure_bind];refine wpAny_bind (wpAny_bind (ml (R:=fun _=>True) l (fun v hv Q' hq=>let⟨n,k,q⟩:=hl v hv;ER q fun T=>hq T trivial) fun rs _=>wpAny_pure ?_))
  split
  ·exact wpAny_pure (hq _)
  ·exact wpAny_pure (hq _)
 rw[keyKind'_eq,List.mapM_toArray,map_eq_pure_bind];refine wpAny_bind (wpAny_bind (ml (R:=fun r:Option Value=>∀f,r=some f->∃n k,KAt s.heap n k f) vs (fun v hv' Q' hq=>?_) fun rs hrs=>wpAny_pure ?_))
 ·obtain⟨ks,a,its,rfl,⟨o,ho,hc,c,hd⟩,z,r⟩:=hv v hv';show wpAny _ _ (typeOf (.ref a) >>= _) _ _ _;refine wpAny_bind (wpAny_typeOf ⟨o,ho,hc⟩ ?_);rw[if_neg (by decide)];refine wpAny_bind (listItems_at ho hd (wpAny_pure (hq _ fun f hf=>?_)));have lt:=(Array.getElem?_eq_some_iff.mp hf).1;exact⟨n,_,r 0 _ _ (List.getElem?_eq_getElem (by lia)) hf⟩
 ·split
  ·refine wpAny_bind (wpAny_rule ?_);rw[show(rs.toArray.filterMap id)=(rs.filterMap id).toArray by simp];refine wpAny_bind (one _ _ (fun v hv=>?_) fun r=>wpAny_pure (h _ (.inr (.inr ⟨_,rfl⟩))));obtain⟨r,hr,e⟩:=List.mem_filterMap.mp hv;exact hrs r hr v e
  ·split
   ·exact wpAny_pure (h _ (.inl rfl))
   ·refine wpAny_bind (one _ _ (fun v hv'=>let⟨k,q⟩:=hv v hv';⟨_,_,q⟩) fun r=>?_)
    split
    ·exact wpAny_pure (h _ (.inr (.inl rfl)))
    ·exact wpAny_pure (h _ (.inl rfl))
end
section
variable{prog:Program}{w:World}{A:Around}{E:Value->Shared->Prop}{O:KeyOrd}
theorem xY(vs:List Value):vs.toArray.zip vs.toArray=(vs.map fun v=>(v,v)).toArray:=by
 apply Array.ext';rw[Array.toList_zip];show vs.zip vs=_
 induction vs with
 |nil=>rfl
 |cons a l ih=>rw[List.zip_cons_cons,ih];rfl
theorem Ap{s:Shared}{x:Addr}{vs:List Value}{n:Nat}{key:Value->O.α}{J:SortKind->Prop}{P:PySem.Fin->Shared->Prop}(hx:s.heap.get? x=some (seqObj "list" vs.toArray n)) (hz:vs.length<=sizeLine)
  (hk:∀s1 Q,2<=vs.length->tW x s s1->(∀ κ,J κ->Q κ s1)->wpAny (model prog w) A (keyKind' vs.toArray) Q (fun _ _=>False) s1)
  (hc:∀ κ,J κ->∀u∈vs,∀v∈vs,∀s1 Q,tW x s s1->Q (O.blt (key u) (key v)) s1->wpAny (model prog w) A (keyLt' κ u v) Q (fun _ _=>False) s1)
  (k:∀(us:List Value) c h',us.Perm vs->us.Pairwise (fun a b=>O.kle (key a) (key b))->(∀b o,b≠x->s.heap.get? b=some o->h'.get? b=some o)->h'.get? x=some (seqObj "list" us.toArray c)->P (.done (.ret .none)) { s with heap:=h' }) :
  wpAny (model prog w) A (Builtin.«list.sort» ⟨[.ref x],[]⟩) P E s:=by
 have lx:x<s.heap.objs.size:=Heap.lt_size hx;obtain⟨c1,h1⟩:∃c,(s.heap.update x (Obj.mapSeq fun _=>#[])).get? x=some (seqObj "list" #[] c):=⟨_,get?_update_seq hx (fun _=>#[])⟩;rw[list_sort_plain];refine wpAny_bind (listItems_at hx rfl (wpAny_bind (listUpdate_at hx rfl (wpAny_bind (seqEpoch_at h1 rfl (wpAny_bind (wpAny_newTuple (wpAny_bind (wpAny_newList (wpAny_holding ?_) (Nat.zero_le _))) ?_)))) ?_ (Nat.zero_le _))))
 rotate_left
 ·exact hz
 ·rw[List.size_toArray];exact hz
 generalize hh:((s.heap.update x (Obj.mapSeq fun _=>#[])).push (seqObj "tuple" vs.toArray 0)).push (seqObj "list" #[] 0)=h2;show wpAny _ A _ P E { s with heap:=h2 };have g2:h2.get? x=some (seqObj "list" #[] c1):=by
  rw[<-hh];exact Heap.get?_push_of_some _ (Heap.get?_push_of_some _ h1)
 have st:tW x s { s with heap:=h2 }:=fun b o ne e=>by
  show h2.get? b=some o;rw[<-hh];exact Heap.get?_push_of_some _ (Heap.get?_push_of_some _ (by rw[Heap.get?_update_ne _ _ _ _ ne];exact e))
 have fin:∀us:List Value,us.Perm vs->us.Pairwise (fun a b=>O.kle (key a) (key b))->P (.done (.ret .none)) { s with heap:=h2.update x (Obj.mapSeq fun _=>us.toArray) }:=fun us hp hr =>
  k us _ _ hp hr (fun b o ne e=>by rw[Heap.get?_update_ne _ _ _ _ ne];exact st b o ne e) (get?_update_seq g2 fun _=>us.toArray)
 dsimp only;rw[xY]
 by_cases few:vs.toArray.size<2
 ·rw[if_pos few,if_pos few];refine wpAny_bind (wpAny_pure ?_);rw[StateT.run_pure];refine wpAny_bind (wpAny_pure ?_);dsimp only;have few':vs.length<2:=by rw[List.size_toArray]at few;exact few
  have e0:(arrOf (SortSt.mk' general' (vs.map fun v=>(v,v)).toArray #[] 7 none)).map (·.2)=vs.toArray:=by
   show(vs.map fun v=>(v,v)).toArray.map (·.2)=_;rw[List.map_toArray,List.map_map];congr 1;exact List.map_id _
  rw[e0];refine wpAny_bind (seqEpoch_at g2 rfl (wpAny_bind (listUpdate_at g2 rfl ?_ (Nat.zero_le _) (by rw[List.size_toArray];exact Nat.le_succ_of_le hz))));simp only[failedOf,bne_self_eq_false,Bool.false_eq_true,if_false];exact wpAny_pure (fin _ (List.Perm.refl _) (by
   rcases vs with _|⟨a,_|⟨b,l⟩⟩
   ·exact .nil
   ·exact .cons (fun _ z=>nomatch z) .nil
   ·exact absurd few' (by simp)))
 ·rw[if_neg few,if_neg few];have two:2<=vs.length:=by rw[List.size_toArray]at few;lia
  refine wpAny_bind (wpAny_mono (hk { s with heap:=h2 } (fun q t=>J q/\t=({ s with heap:=h2 }:Shared)) two st fun κ hκ=>⟨hκ,rfl⟩) ?_ fun _ _ z=>z.elim);rintro κ _ ⟨hκ,rfl⟩;generalize ea:(vs.map fun v=>((v,v):Keyed))=a0;have ma:∀p∈a0,p.1∈vs/\p.2=p.1:=fun p hp=>by
   rw[<-ea]at hp;obtain⟨v,hv,rfl⟩:=List.mem_map.mp hp;exact⟨hv,rfl⟩
  have la:a0.length=vs.length:=by rw[<-ea,List.length_map]
  have hA:gR prog w A { s with heap:=h2 } κ (fun p:Keyed=>key p.1) a0:=fun p hp q hq Q z=>hc κ hκ _ (ma p hp).1 _ (ma q hq).1 _ Q st z;have R:=CK (E:=E) (st:=SortSt.mk' κ a0.toArray #[] 7 none) (Q:=fun _ st'=>SB a0 κ st'/\Up (fun p:Keyed=>key p.1) (arrOf st') 0 a0.length) hA ⟨List.Perm.refl _,rfl,rfl⟩ rfl (by lia) fun st' a b=>⟨a,b⟩;refine wpAny_bind (wpAny_mono (show wpAny _ _ _ _ _ _ from R) ?_ fun _ _ z=>z);rintro⟨⟨⟩,u⟩ t ⟨rfl,hB,hU⟩;dsimp only;have hp:((arrOf u).toList.map (·.2)).Perm vs:=by
   have h:=hB.perm.map (fun p:Keyed=>p.2);rw[<-ea,List.map_map]at h;exact h.trans (.of_eq (List.map_id _))
  have hw:((arrOf u).toList.map (·.2)).Pairwise (fun a b=>O.kle (key a) (key b)):=by
   rw[List.pairwise_iff_getElem];intro i j hi hj hij;have sz:(arrOf u).size=a0.length:=hB.size;rw[List.length_map,Array.length_toList]at hi hj;have:=hU i j (Nat.zero_le _) (Nat.le_of_lt hij) (by lia);unfold kA at this;have e:∀i (h:i<(arrOf u).size),gA (arrOf u) i=(arrOf u)[i]/\((arrOf u)[i]).2=((arrOf u)[i]).1:=fun i h=>⟨by unfold gA;rw[Array.getElem?_eq_getElem h];rfl,(ma _ (hB.perm.mem_iff.mp (by simp))).2⟩;rw[(e i hi).1,(e j hj).1]at this;simp only[List.getElem_map,Array.getElem_toList,(e i hi).2,(e j hj).2];exact this
  have e0:(arrOf u).map (·.2)=((arrOf u).toList.map (·.2)).toArray:=by apply Array.ext';simp
  rw[e0];refine wpAny_bind (seqEpoch_at g2 rfl (wpAny_bind (listUpdate_at g2 rfl ?_ (Nat.zero_le _) ?_)))
  ·rw[hB.fail];simp only[bne_self_eq_false,Bool.false_eq_true,if_false];exact wpAny_pure (fin _ hp hw)
  ·rw[List.size_toArray,hp.length_eq];exact Nat.le_succ_of_le hz
theorem AB{s:Shared}{vs:List Value}{key:Value->O.α}{J:SortKind->Prop}{P:PySem.Fin->Shared->Prop}(hz:vs.length<=sizeLine)
  (hk:∀s1 Q,2<=vs.length->(∀b o,s.heap.get? b=some o->s1.heap.get? b=some o)->(∀ κ,J κ->Q κ s1)->wpAny (model prog w) A.in1 (keyKind' vs.toArray) Q (fun _ _=>False) s1)
  (hc:∀ κ,J κ->∀u∈vs,∀v∈vs,∀s1 Q,(∀b o,s.heap.get? b=some o->s1.heap.get? b=some o)->Q (O.blt (key u) (key v)) s1->wpAny (model prog w) A.in1 (keyLt' κ u v) Q (fun _ _=>False) s1)
  (k:∀(us:List Value) x c h',us.Perm vs->us.Pairwise (fun a b=>O.kle (key a) (key b))->s.heap.objs.size<=x->(∀b o,s.heap.get? b=some o->h'.get? b=some o)->h'.get? x=some (seqObj "list" us.toArray c)->P (.done (.ret (.ref x))) { s with heap:=h' }) :
  wpAny (model prog w) A (newList vs >>= fun l=>holding [l] (call (.builtin "list.sort") [l] []) >>= fun _=>ret l) P E s:=by
 refine wpAny_bind (wpAny_newList ?_ hz);have new:(s.heap.push (seqObj "list" vs.toArray 0)).get? s.heap.objs.size=some (seqObj "list" vs.toArray 0):=Heap.get?_push_size _ rfl;have kp2:∀b o,s.heap.get? b=some o->(s.heap.push (seqObj "list" vs.toArray 0)).get? b=some o:=fun b o e=>Heap.get?_push_of_some _ e;show wpAny _ _ _ _ _ { s with heap:=s.heap.push (seqObj "list" vs.toArray 0) };have go:∀(t:Shared),tW s.heap.objs.size { s with heap:=s.heap.push (seqObj "list" vs.toArray 0) } t->∀b o,s.heap.get? b=some o->t.heap.get? b=some o:=fun t ht b o e=>ht b o (Nat.ne_of_lt (Heap.lt_size e)) (kp2 b o e);refine wpAny_bind (wpAny_holding (wpAny_call_entry slot_list_sort ⟨_,new,rfl⟩ entry_list_sort ?_ (args_list_sort _)));refine Ap (key:=key) (J:=J) new hz (fun t Q' two ht q=>hk t Q' two (go t ht) q) (fun κ hκ u hu v hv t Q ht q=>hc κ hκ u hu v hv t Q (go t ht) q) fun us c h' hp hr hs hx=>?_;exact⟨_,rfl,wpAny_pure (k us _ c h' hp hr (Nat.le_refl _) (fun b o e=>go { s with heap:=h' } hs b o e) hx)⟩
end
end L2
namespace L2
open PySem PySem.Spec PyProof.Rows PySem.Calls PySem.SeqAt
mutual
def kd:KD->D
 |.int i=>.int i
 |.str x=>.str x
 |.tup ks=>.tup (kds ks)
def kds:List KD->List D
 |[]=>[]
 |k::ks=>kd k::kds ks
end
theorem kO:∀ks,kds ks=ks.map kd
 |[]=>by simp[kds]
 |k::ks=>by simp[kds,kO ks]
mutual
theorem BD:∀{a b:KD},kd a=kd b->a=b
 |.int _,.int _,h=>by simp[kd]at h;rw[h]
 |.int _,.str _,h=>by simp[kd]at h
 |.int _,.tup _,h=>by simp[kd]at h
 |.str _,.int _,h=>by simp[kd]at h
 |.str _,.str _,h=>by simp[kd]at h;rw[h]
 |.str _,.tup _,h=>by simp[kd]at h
 |.tup _,.int _,h=>by simp[kd]at h
 |.tup _,.str _,h=>by simp[kd]at h
 |.tup a,.tup b,h=>by simp only[kd,D.tup.injEq]at h;rw[pC h]
theorem pC:∀{a b:List KD},kds a=kds b->a=b
 |[],[],_=>rfl
 |[],_::_,h=>by simp[kds]at h
 |_::_,[],h=>by simp[kds]at h
 |a::as,b::bs,h=>by
  simp only[kds,List.cons.injEq]at h;rw[BD h.1,pC h.2]
end
def bu(ks:List KD):D:=.tup (kds ks)
theorem wm{a b:List KD}(h:bu a=bu b):a=b:=pC (by simpa[bu]using h)
theorem xR{a b:List (List KD)}(h:a.map bu=b.map bu):a=b:=(List.map_inj_right fun _ _ h=>wm h).mp h
def dpK:Nat->KD->Prop
 |_,.int _=>True
 |_,.str _=>True
 |0,.tup _=>False
 |n+1,.tup ks=>∀k∈ks,dpK n k
open Classical in
def kOf(h:Heap) (n:Nat) (v:Value):List KD:=if q:∃ds,KAt h n (.tup ds) v then q.choose else[]
theorem o4{h:Heap}{n:Nat}{v:Value}{ds:List KD}(q:KAt h n (.tup ds) v):kOf h n v=ds:=by
 have e:∃ds,KAt h n (.tup ds) v:=⟨_,q⟩;unfold kOf;rw[dif_pos e];have:=KAt.same n e.choose_spec q;cases this;rfl
def Rws(ks:List (List KD)):Prop:=(∀k∈ks,dpK 9 (.tup k))/\∀a∈ks,∀b∈ks,Cms a b
theorem Rws.sub{ks js:List (List KD)}(h:Rws ks) (s:∀k∈js,k∈ks):Rws js:=⟨fun k hk=>h.1 k (s k hk),fun a ha b hb=>h.2 a (s a ha) b (s b hb)⟩
theorem j5{ps qs:List (List KD)}(h:ps.Perm qs):bN ps=bN qs:=qV ((bx ps).trans h) (qv ps)
section
variable{X:Cx}{aa:List (Addr×Obj)}{s:Shared}{σ:St}{H:Hp}{M:DH}{K:PySem.W.Frag}
theorem tU(I:Inv X aa σ H s):∀(n:Nat) {k:KD}{v:V}{u:Value},dpK n k->Rep X.K M H (kd k) v->aA v u->KAt s.heap n k u:=by
 intro n
 induction n with
 |zero =>
  intro k v u hd r q;cases k with
  |int i=>simp only[kd,Rep]at r;subst r;exact q
  |str i=>simp only[kd,Rep]at r;subst r;exact q
  |tup _=>exact hd.elim
 |succ n ih =>
  intro k v u hd r q;cases k with
  |int i=>simp only[kd,Rep]at r;subst r;exact q
  |str i=>simp only[kd,Rep]at r;subst r;exact q
  |tup ks =>
   simp only[kd,Rep]at r;obtain⟨a,vs,rfl,t,rl⟩:=r;cases q;obtain⟨its,rv,tp,hz⟩:=I.tuple t.sq;refine⟨a,its.toArray,rfl,tp,?_,fun i d u h1 h2=>?_⟩
   ·rw[List.size_toArray,<-rv.length,<-rl.length,kO,List.length_map]
   ·obtain⟨v,g,r⟩:=rl.get (i:=i) (d:=kd d) (by rw[kO,List.getElem?_map,h1];rfl);obtain⟨u',g',r'⟩:=rv.get g;rw[List.getElem?_toArray,g']at h2;cases h2;exact ih (hd d (List.mem_of_getElem? h1)) r r'
theorem eO(I:Inv X aa σ H s) {n:Nat}{ks:List (List KD)}{vs:List V}{its:List Value}(hd:∀k∈ks,dpK n (.tup k)) (rl:aj X.K M H (ks.map bu) vs) (rv:ar vs its) {i:Nat}{k:List KD}{u:Value}(h1:ks[i]?=some k) (h2:its[i]?=some u):KAt s.heap n (.tup k) u:=by
 obtain⟨v,g,r⟩:=rl.get (i:=i) (d:=bu k) (by rw[List.getElem?_map,h1];rfl);obtain⟨u',g',r'⟩:=rv.get g;rw[g']at h2;cases h2;exact tU I n (k:=.tup k) (hd k (List.mem_of_getElem? h1)) (by simp only[kd];exact r) r'
theorem qH{τ:Type}{f:τ->D}{its us:List Value}(p:its.Perm us):∀{vs:List V}{ks:List τ},ar vs its->aj K M H (ks.map f) vs->∃(vs':List V) (ks':List τ),ar vs' us/\aj K M H (ks'.map f) vs'/\ks'.Perm ks:=by
 induction p with
 |nil=>intro vs ks rv rl;exact⟨vs,ks,rv,rl,.refl _⟩
 |cons x p ih =>
  intro vs ks rv rl;cases rv with
  |cons r t=>cases ks with
   |nil=>cases rl
   |cons k ks =>
    simp only[List.map_cons,aj]at rl;obtain⟨v,ws,e,r1,r2⟩:=rl;cases e;obtain⟨vs',ks',a,b,c⟩:=ih t r2;exact⟨_::vs',k::ks',.cons r a,aj.cons r1 b,c.cons _⟩
 |swap x y l =>
  intro vs ks rv rl;cases rv with
  |cons r t=>cases t with
   |cons r' t=>cases ks with
    |nil=>cases rl
    |cons k ks=>cases ks with
     |nil=>simp only[List.map_cons,List.map_nil,aj]at rl;obtain⟨v,ws,e,r1,r2⟩:=rl;cases e;cases r2
     |cons j ks =>
      simp only[List.map_cons,aj]at rl;obtain⟨v,ws,e,r1,v2,ws2,e2,r2,r3⟩:=rl;cases e;cases e2;exact⟨_::_::_,j::k::ks,.cons r' (.cons r t),aj.cons r2 (aj.cons r1 r3),.swap _ _ _⟩
 |trans _ _ ih1 ih2 =>
  intro vs ks rv rl;obtain⟨vs',ks',a,b,c⟩:=ih1 rv rl;obtain⟨vs2,ks2,a2,b2,c2⟩:=ih2 a b;exact⟨vs2,ks2,a2,b2,c2.trans c⟩
theorem evD{a:Expr}{ta:TEd}{Δ:DE}{R:D->DH->Prop}{Q:Value->Shared->Prop}(ha:PEd X a ta) (I:Inv X aa σ H s) (sr:SR X.K M H σ Δ) (hr:HR X.K M H) (q:ta Δ M R)
  (k:∀u s1 v H1 x M1,Inv X aa σ H1 s1->aA v u->R x M1->HR X.K M1 H1->Rep X.K M1 H1 x v->Ext M H M1 H1->Q u s1):wpAny (model X.prog X.w) X.A (eval a X.env) Q X.xe s :=
 thn (ha aa s σ H (fun v H1=>∃x M1,R x M1/\HR X.K M1 H1/\Rep X.K M1 H1 x v/\Ext M H M1 H1) I ⟨Δ,M,R,sr,hr,q,fun x M1 v H1 q1 e1 hr1 rv=>⟨x,M1,q1,hr1,rv,e1⟩⟩) fun u s1 ⟨v,H1,I1,r1,x,M1,q1,hr1,rv,e1⟩=>k u s1 v H1 x M1 I1 r1 q1 hr1 rv e1
theorem mj{A:Around}{E:Value->Shared->Prop}{P:PySem.Fin->Shared->Prop}{Q:VK}{ks:List (List KD)}{vs:List V}{its:List Value}(hu:A.in1.units+9<cLine) (I:Inv X aa σ H s) (hr:HR X.K M H) (hk:Rws ks) (rl:aj X.K M H (ks.map bu) vs) (rv:ar vs its) (hz:vs.length<=sizeLine)
  (q:∀x vs',H x=none->aj X.K M H ((bN ks).map bu) vs'->Q (.ref x) (upd H x (.lst vs'))) (k:∀x s',EP X aa σ Q (.ref x) s'->P (.done (.ret (.ref x))) s') :
  wpAny (model X.prog X.w) A (newList its >>= fun l=>holding [l] (call (.builtin "list.sort") [l] []) >>= fun _=>ret l) P E s:=by
 have hlk:ks.length=its.length:=by rw[<-rv.length,<-rl.length,List.length_map]
 have at_:∀u∈its,∃k∈ks,KAt s.heap 9 (.tup k) u:=fun u hu=>by
  obtain⟨i,hi⟩:=List.mem_iff_getElem?.mp hu;have lt:i<ks.length:=by rw[hlk];exact(List.getElem?_eq_some_iff.mp hi).1
  exact⟨_,List.getElem_mem lt,eO I hk.1 rl rv (List.getElem?_eq_getElem lt) hi⟩
 refine AB (O:=Ah) (key:=kOf s.heap 9) (J:=SKd) (by rw[<-rv.length];exact hz) (fun s1 Q' _ kp q'=>?_) (fun κ hκ u hu' v hv s1 Q' kp q'=>?_) fun us x c h' hp hw hx kp ho=>?_
 ·exact E7 (n:=8) (fun v hv=>let⟨k,_,z⟩:=at_ v hv;⟨k,z.up fun b o _ e=>kp b o e⟩) q'
 ·obtain⟨a,ha,qa⟩:=at_ u hu';obtain⟨b,hb,qb⟩:=at_ v hv;have q2:Q' (bf (kOf s.heap 9 u) (kOf s.heap 9 v)) s1:=q';rw[o4 qa,o4 qb]at q2;exact GH hκ (n:=8) hu (qa.up fun b o _ e=>kp b o e) (qb.up fun b o _ e=>kp b o e) (hk.2 a ha b hb) q2
 ·obtain⟨vs',ks',rv',rl',hk'⟩:=qH hp.symm rv rl;have I2:=I.laid (t':=s.toks) (o:=.lst vs') kp hx (show bq X.prog X.w _ h' x (.lst _)from⟨by rw[rv'.length,hp.length_eq,<-rv.length];exact hz,us,c,rv',ho⟩);have es:ks'=bN ks:=by
   refine qV hk' ?_;have hl':ks'.length=us.length:=by rw[<-rv'.length,<-rl'.length,List.length_map]
   rw[List.pairwise_iff_getElem];intro i j hi hj hij;have:=List.pairwise_iff_getElem.mp hw i j (by lia) (by lia) hij;have d':∀k∈ks',dpK 9 (.tup k):=fun k hk2=>hk.1 k (hk'.mem_iff.mp hk2);have ki:=eO I d' rl' rv' (List.getElem?_eq_getElem hi) (List.getElem?_eq_getElem (show i<us.length by lia));have kj:=eO I d' rl' rv' (List.getElem?_eq_getElem hj) (List.getElem?_eq_getElem (show j<us.length by lia));rw[o4 ki,o4 kj]at this;have z:bf ks'[j] ks'[i]=false:=this;simp only[leK,z,Bool.not_false]
  subst es;exact k _ _ ⟨.ref x,_,I2,rfl,q x vs' (I.hok.fresh hx) rl'⟩
open Classical in
def mn:D->Option D
 |.lst ds=>if h:∃ks:List (List KD),ds=ks.map bu/\Rws ks then some (.lst ((bN h.choose).map bu))else none
 |.tup ds=>if h:∃ks:List (List KD),ds=ks.map bu/\Rws ks then some (.lst ((bN h.choose).map bu))else none
 |_=>none
theorem ye{ks:List (List KD)}(h:Rws ks):mn (.lst (ks.map bu))=some (.lst ((bN ks).map bu)):=by
 have e:∃js:List (List KD),ks.map bu=js.map bu/\Rws js:=⟨ks,rfl,h⟩;simp only[mn];rw[dif_pos e,<-xR e.choose_spec.1]
theorem nL(hu:X.A.units+64<cLine) {T:String}{o:Obj}{n:Nat}{l:Addr}{ks:List (List KD)}{vs:List V}{its:List Value}{Q:VK}(I:Inv X aa σ H s) (hr:HR X.K M H) (hk:Rws ks) (rl:aj X.K M H (ks.map bu) vs) (rv:ar vs its) (hz:vs.length<=sizeLine)
  (hT:T="list"∨T="tuple") (hg:s.heap.get? l=some o) (hcl:o.cls=.type T) (hd:o.data=.seq its.toArray n)
  (q:∀x vs',H x=none->aj X.K M H ((bN ks).map bu) vs'->Q (.ref x) (upd H x (.lst vs'))):wpAny (model X.prog X.w) X.A (call (.builtin "sorted") [.ref l]) (EP X aa σ Q) X.xe s:=by
 refine call_function_entry kind_sorted plain_sorted entry_sorted (args_sorted1 _) ?_;unfold Builtin.«sorted»;refine wpAny_bind (m:=checkCount "sorted" 1 1 _) (wpAny_pure ?_);refine wpAny_bind (wpAny_collect_seq l hT hg hcl hd (fun h1 kp0=>?_) (by rw[rv.length]at hz;simpa using hz));have I1:Inv X aa σ H { s with heap:=h1,toks:=s.toks }:=I.kept kp0;exact mj (show X.A.units+1+1+9<cLine by lia) I1 hr hk rl rv hz q fun x s' e=>⟨_,rfl,e⟩
theorem yJ(hu:X.A.units+64<cLine):cg X (.builtin "sorted") (pV mn):=by
 intro aa s σ H M xs us ds dz Q I hr rv rp e k;obtain⟨d,rfl,e0⟩:=dj e;clear e;obtain⟨v,rfl,r⟩:=nr rp;obtain⟨u,rfl,ru⟩:=ar.one rv;cases d with
 |lst ds =>
  simp only[mn]at e0
  by_cases h:∃ks:List (List KD),ds=ks.map bu/\Rws ks
  ·rw[dif_pos h]at e0;obtain⟨e1,e2⟩:=h.choose_spec;generalize h.choose=ks at e0 e1 e2;subst e1;cases e0;obtain⟨l,vs,rfl,sq,rl⟩:=r;cases ru;obtain⟨its,rv,pl,hz⟩:=I.list (SqL.of sq);obtain⟨o,hg,hcl,n,hd⟩:=pl.isList;exact nL hu I hr e2 rl rv hz (.inl rfl) hg hcl hd fun x vs' hx r=>dM hr hx r k
  ·rw[dif_neg h]at e0;cases e0
 |tup ds =>
  simp only[mn]at e0
  by_cases h:∃ks:List (List KD),ds=ks.map bu/\Rws ks
  ·rw[dif_pos h]at e0;obtain⟨e1,e2⟩:=h.choose_spec;generalize h.choose=ks at e0 e1 e2;subst e1;cases e0;obtain⟨l,vs,rfl,sq,rl⟩:=r;cases ru;obtain⟨its,rv,⟨o,hg,hcl,n,hd⟩,hz⟩:=I.tuple sq;exact nL hu I hr e2 rl rv hz (.inr rfl) hg hcl hd fun x vs' hx r=>dM hr hx r k
  ·rw[dif_neg h]at e0;cases e0
 |_=>cases e0
end
theorem Dg.b{prog:Program}{w:World}{τ:Type}{κ:TK prog w τ}{h:Heap}{a:Addr}{o:Obj}{es:Array (Int×Value)}{ep:Nat}{t:SetTable}{zs:List τ}(q:Dg κ h a o es ep t zs) (hz:zs.length<1000):da w h a o es ep t :=
 ⟨q.get,q.ex,q.data,by rw[q.el.len];unfold scanBound;lia,q.tb.fit,q.led,.inr q.tb.up⟩
section
variable{X:Cx}{aa:List (Addr×Obj)}{s:Shared}{σ:St}{H:Hp}{M:DH}{K:PySem.W.Frag}
theorem qt{h:Heap}{n:Nat}{ks:List (List KD)}{vs:List V}{its:List Value}(rv:ar vs its) (rl:aj K M H (ks.map bu) vs) (hk:∀(i:Nat) k u,ks[i]?=some k->its[i]?=some u->KAt h n (.tup k) u) :
  ∀(zs:List (List KD)) (us:List Value),us.length=zs.length->(∀(i:Nat) z u,zs[i]?=some z->us[i]?=some u->u∈its/\KAt h n (.tup z) u)->∃vs',ar vs' us/\aj K M H (zs.map bu) vs'
 |[],us,hl,_=>by
  have:us=[]:=List.length_eq_zero_iff.mp hl;subst this;exact⟨[],.nil,rfl⟩
 |_::_,[],hl,_=>by cases hl
 |z::zs,u::us,hl,h'=>by
  obtain⟨vs',a,b⟩:=qt rv rl hk zs us (Nat.succ.inj hl) fun i z u h1 h2=>h' (i+1) z u (by simpa using h1) (by simpa using h2);obtain⟨m,q⟩:=h' 0 z u rfl rfl;obtain⟨j,hj⟩:=List.mem_iff_getElem?.mp m;have hln:ks.length=its.length:=by rw[<-rv.length,<-rl.length,List.length_map]
  have lt:j<ks.length:=by rw[hln];exact(List.getElem?_eq_some_iff.mp hj).1
  have kj:=List.getElem?_eq_getElem lt;have e:=KAt.same n (hk j _ _ kj hj) q;obtain⟨v,g,r⟩:=rl.get (i:=j) (d:=bu ks[j]) (by rw[List.getElem?_map,kj];rfl);obtain⟨u',g',r'⟩:=rv.get g;rw[hj]at g';cases g';cases e;exact⟨v::vs',.cons r' a,aj.cons r b⟩
def dSU(ta:TEd):TEd:=fun Δ M Q=>ta Δ M fun x M1=>∃ks:List (List KD),rdM M1 x=.lst (ks.map bu)/\Rws ks/\(∀k∈ks,dpK 8 (.tup k))/\ks.length<1000/\Q (.lst ((bN (cI ks)).map bu)) M1
theorem Gv{a:Expr}{ta:TEd}{p0 p1 q0 q1:Pos}(hc:X.calm=true) (hu:X.A.units+64<cLine) (hgS:Gl X "sorted") (hmS:X.mg "sorted"=none) (hg:Gl X "set") (hm:X.mg "set"=none) (ha:QEd X a ta)
  (he0:starEach [.Call (.Name "set" p1) [a] [] q1] X.env=(false,eval (.Call (.Name "set" p1) [a] [] q1) X.env)::starEach [] X.env:=by rfl)
  (he1:starEach [a] X.env=(false,eval a X.env)::starEach [] X.env:=by rfl)
  (hp0:(backTo q0 (starEach [] X.env)).any (·.1)=false:=by rfl) (hp1:(backTo q1 (starEach [] X.env)).any (·.1)=false:=by rfl) :
  QEd X (.Call (.Name "sorted" p0) [.Call (.Name "set" p1) [a] [] q1] [] q0) (dSU ta):=by
 simp only[QEd.eq]at *
 intro aa s σ H Q I ⟨Δ,M,R,sr,hr,q,k⟩;refine wpAny_Call_Name_kw (eC I hgS hmS (u:=.builtin "sorted") (by kernel_rfl) ?_ (by decide) (by decide));refine PyProof.Rows.callWith_builtin1 ?_ he0 hp0;rw[he0];show wpAny _ _ (spliced ((false,eval _ X.env)::backTo q0 (starEach [] X.env))) _ _ s;refine Calls.spliced_cons ?_;refine wpAny_Call_Name_kw (eC I hg hm (u:=.type "set") (by kernel_rfl) ?_ (by decide) (by decide));refine PyProof.Rows.callWith_type1 ?_ he1 hp1;rw[he1];show wpAny _ _ (spliced ((false,eval a X.env)::backTo q1 (starEach [] X.env))) _ _ s;refine Calls.spliced_cons (evD ha I sr hr q fun u s1 v H1 x M1 I1 r1 ⟨ks,ex,hk,hk8,hl,q2⟩ hr1 rv0 e1=>?_);have rv:=rv0.rd hr1;refine Calls.spliced_nil ?_;rw[ex]at rv;obtain⟨l,vs,rfl,sq,rl⟩:=rv;cases r1;obtain⟨its,rvs,pl,hz⟩:=I1.list (SqL.of sq);have hn:ks.length=its.length:=by rw[<-rvs.length,<-rl.length,List.length_map]
 have hat:∀(i:Nat) k u,ks[i]?=some k->its[i]?=some u->KAt s1.heap 8 (.tup k) u:=fun i k u h1 h2=>eO I1 hk8 rl rvs h1 h2;refine uW (n:=8) (hn8:=Nat.le_refl _) (I1.ok.hd hc) (by lia) pl.isList (by simp[hn]) (fun i k u h1 h2=>hat i k u h1 (by simpa using h2)) hl fun h' tk hS kp=>?_;refine Calls.spliced_nil ?_;obtain⟨o,es,ep,t,zs,qs,pm⟩:=hS;have hzs:zs.length<1000:=by rw[pm.length_eq];exact Nat.lt_of_le_of_lt (eY ks) hl
 have I2:Inv X aa σ H1 { s1 with heap:=h',toks:=tk }:=I1.kept kp;refine call_function_entry kind_sorted plain_sorted entry_sorted (args_sorted1 _) ?_;unfold Builtin.«sorted»;refine wpAny_bind (m:=checkCount "sorted" 1 1 _) (wpAny_pure ?_);refine wpAny_bind (yk (A:=X.A.in1) (I1.ok.hd hc) (qs.b hzs) fun s3 es' hp kp0 eg eo=>?_);have I3:Inv X aa σ H1 s3:=I2.with kp0 eg eo
 obtain⟨vs2,rv2,rl2⟩:=qt rvs rl hat zs (es.toList.map (·.2)) (by rw[List.length_map,Array.length_toList,qs.el.len]) fun i z u h1 h2=>by
  obtain⟨v,g,_,k1,k2⟩:=qs.el.at_ i z h1;rw[List.getElem?_map,Array.getElem?_toList,g]at h2;cases h2;exact⟨by simpa using k2,k1⟩
 obtain⟨vs3,ks3,rv3,rl3,hp3⟩:=qH (hp.symm.map (·.2)) rv2 rl2;have pk:ks3.Perm (cI ks):=hp3.trans pm;have hk3:Rws ks3:=hk.sub fun k h=>(me ks k).mp (pk.mem_iff.mp h);refine mj (show X.A.units+1+1+9<cLine by lia) I3 hr1 hk3 rl3 rv3 ?_ (fun p vs' hp r=>?_) fun x s' e=>⟨_,rfl,e⟩
 ·rw[<-rl3.length,List.length_map,pk.length_eq,sizeLine_eq];have:=eY ks;lia
 ·rw[j5 pk]at r;exact dM hr1 hp r fun w H' a b c=>k _ _ _ _ q2 (e1.trans a) b c
end
end L2
namespace L2
open PySem PySem.Spec PyProof.Rows PySem.Calls PySem.SeqAt PySem.W
def iT(h:Heap) (d:Addr) (es:Array DictEntry) (ep:Nat):Prop:=∃o,h.get? d=some o/\o.ExactDict/\o.data=.dict es ep
theorem iT.typeIs{s:Shared}{d:Addr}{es:Array DictEntry}{ep:Nat}(x:iT s.heap d es ep):s.TypeIs (.ref d) "dict":=let⟨o,ho,hc,_⟩:=x;⟨o,ho,hc.1⟩
theorem iT.lt{h:Heap}{d:Addr}{es:Array DictEntry}{ep:Nat}(x:iT h d es ep):d<h.objs.size:=let⟨_,ho,_⟩:=x;Heap.lt_size ho
theorem iT.at'{h h':Heap}{d:Addr}{es:Array DictEntry}{ep:Nat}(x:iT h d es ep) (e:∀o,h.get? d=some o->h'.get? d=some o):iT h' d es ep:=let⟨o,ho,r⟩:=x;⟨o,e _ ho,r⟩
section
variable{prog:Program}{w:World}{A:Around}{E:Value->Shared->Prop}{s:Shared}{it d:Addr}{es:Array DictEntry}{ep i:Nat}
theorem Eu{Q:Value->Shared->Prop}(hd:(d==sysModules)=false) (hm:iT s.heap d es ep)
  (hQ:Q (.ref s.heap.objs.size) { s with heap:=s.heap.push { cls:=.type "dict_keyiterator",data:=.fields #[.ref d,.int 0 0,.int es.size 0,.int ep 0] } }) :
  wpAny (model prog w) A (pyIter (.ref d)) Q E s:=by
 have hT:s.TypeIs (.ref d) "dict":=hm.typeIs;obtain⟨o,ho,hc,hdat⟩:=hm;refine wpAny_pyIter_slot hT F.slot_dict_iter (wpAny_call_entry F.slot_dict_iter hT F.entry_dict_iter ?_ (F.args_dict_iter_1 _));unfold Builtin.«dict.__iter__»;refine wpAny_bind ?_;unfold Builtin.Dict.dictSlotNone;refine wpAny_bind (wpAny_notOrdered_dict hT ?_);show wpAny _ _ (pure (Value.ref d)) _ _ s;refine wpAny_pure ?_;show wpAny _ _ (Builtin.Dict.showsAll d >>= _) _ _ s;unfold Builtin.Dict.showsAll;rw[if_neg (by rw[hd];exact Bool.false_ne_true)];refine wpAny_bind (wpAny_pure (wpAny_bind (wpAny_dictEntries ho hdat (wpAny_bind (wpAny_dictEpoch ho hdat ?_)))));refine wpAny_bind (wpAny_newObj_type (wpAny_pure ⟨_,rfl,"dict_keyiterator",_,⟨_,Heap.get?_push_size _ rfl,rfl⟩,F.slot_dict_keyiterator_next.lookup,?_⟩));simpa[rawInt]using hQ
theorem EN{Q:Option Value->Shared->Prop}(hit:s.heap.IsKeyIter it d i es.size ep) (hm:iT s.heap d es ep) (hlt:i<es.size)
  (hQ:∀h',h'.IsKeyIter it d (i+1) es.size ep->Heap.SameBut it s.heap h'->Q (some es[i].key) { s with heap:=h' }) :
  wpAny (model prog w) A (pyNext (.ref it)) Q E s:=by
 obtain⟨o,ho,hc,hd⟩:=id hit;obtain⟨od,hod,hcd,hdd⟩:=id hm;unfold pyNext;refine wpAny_bind (wpAny_attempt (wpAny_callSpecial?_slot (name:=Str.ofString "__next__") hit.typeIs F.slot_dict_keyiterator_next
  (wpAny_call_entry F.slot_dict_keyiterator_next hit.typeIs F.entry_dict_keyiterator_next ?_ (F.args_dict_keyiterator_next_1 _))))
 refine wpAny_bind (wpAny_pure (wpAny_bind (wpAny_bind (wpAny_bind (wpAny_typeNameOfWhole_keyiter hit.typeIs (wpAny_pure (wpAny_bind (wpAny_fieldsOf ho hd ?_))))))));have hown:Builtin.Dict_items.ownsTuple "dict_keyiterator"=false:=by decide
 simp only[hown,Bool.false_eq_true,if_false];show wpAny _ _ (if(Value.ref d==Value.none)=true then _ else _) _ _ s;rw[if_neg (show ¬ ((Value.ref d==Value.none)=true)from Bool.false_ne_true)];refine wpAny_bind (wpAny_pure (wpAny_bind (wpAny_dictEntries hod hdd ?_)));rw[if_neg (by simp)];refine wpAny_bind (wpAny_pure (wpAny_bind (wpAny_dictEpoch hod hdd ?_)));rw[if_neg (by simp)];refine wpAny_pure ?_;simp only[show ¬ ((i:Int)<0)from by omega,if_false,Int.toNat_natCast,Array.getElem?_eq_getElem hlt];refine wpAny_bind (wpAny_bind (wpAny_typeNameOfWhole_keyiter hit.typeIs (wpAny_pure (wpAny_bind (wpAny_isOneOf_keyiter hit.typeIs ?_)))));show wpAny _ _ (setField (.ref it) 1 (rawInt ((i:Int)+1)) >>= _) _ _ s;refine wpAny_bind (wpAny_setField ho hd (by simp) ?_);have hit':(s.heap.update it (Obj.mapFields (·.setIfInBounds 1 (rawInt ((i:Int)+1))))).IsKeyIter it d (i+1) es.size ep :=
  ⟨_,Heap.get?_update_self _ ho (Obj.isFreed_of_fields (Obj.data_mapFields hd _)),(Obj.cls_mapFields ..).trans hc,by rw[Obj.data_mapFields hd];simp[rawInt]⟩
 refine wpAny_bind (wpAny_holding ?_);refine wpAny_bind (wpAny_isOneOf_keyiter (s:={ s with heap:=s.heap.update it (Obj.mapFields (·.setIfInBounds 1 (rawInt ((i:Int)+1)))) }) hit'.typeIs ?_);show wpAny _ _ (pure es[i].key) _ _ _;exact wpAny_pure (wpAny_pure ⟨_,rfl,wpAny_pure (hQ _ hit' (Heap.SameBut.update ..))⟩)
theorem GG{Q:Option Value->Shared->Prop}(hh:A.handled=none) (hit:s.heap.IsKeyIter it d i es.size ep) (hm:iT s.heap d es ep) (hge:es.size<=i)
  (hQ:∀h',Heap.ExtBut it s.heap h'->Q none { s with heap:=h' }):wpAny (model prog w) A (pyNext (.ref it)) Q E s:=by
 obtain⟨o,ho,hc,hd⟩:=id hit;obtain⟨od,hod,hcd,hdd⟩:=id hm;unfold pyNext;refine wpAny_bind (wpAny_attempt (wpAny_callSpecial?_slot (name:=Str.ofString "__next__") hit.typeIs F.slot_dict_keyiterator_next
  (wpAny_call_entry F.slot_dict_keyiterator_next hit.typeIs F.entry_dict_keyiterator_next ?_ (F.args_dict_keyiterator_next_1 _))))
 refine wpAny_bind (wpAny_pure (wpAny_bind (wpAny_bind (wpAny_bind (wpAny_typeNameOfWhole_keyiter hit.typeIs (wpAny_pure (wpAny_bind (wpAny_fieldsOf ho hd ?_))))))));have hown:Builtin.Dict_items.ownsTuple "dict_keyiterator"=false:=by decide
 simp only[hown,Bool.false_eq_true,if_false];show wpAny _ _ (if(Value.ref d==Value.none)=true then _ else _) _ _ s;rw[if_neg (show ¬ ((Value.ref d==Value.none)=true)from Bool.false_ne_true)];refine wpAny_bind (wpAny_pure (wpAny_bind (wpAny_dictEntries hod hdd ?_)));rw[if_neg (by simp)];refine wpAny_bind (wpAny_pure (wpAny_bind (wpAny_dictEpoch hod hdd ?_)));rw[if_neg (by simp)];refine wpAny_pure ?_;simp only[show ¬ ((i:Int)<0)from by omega,if_false,Int.toNat_natCast,Array.getElem?_eq_none hge];refine wpAny_bind (wpAny_bind (wpAny_typeNameOfWhole_keyiter hit.typeIs (wpAny_pure ?_)));show wpAny _ _ (setField (.ref it) 0 .none >>= _) _ _ s;refine wpAny_bind (wpAny_setField ho hd (by simp) ?_);show wpAny _ _ (newExc (.type "StopIteration") [] >>= _) _ _ _;refine wpAny_bind ?_;simp only[newExc,newTuple];refine wpAny_bind (wpAny_newObj_type ?_ (by size_fits));refine wpAny_bind (m:=firstArgMember _ _) (wpAny_of_eq (a:=Value.none) (by first|rfl|(simp only[firstArgMember];rfl)) ?_);refine wpAny_newObj_type ?_ (by size_fits);simp only[raiseNew];refine wpAny_bind (wpAny_handled ?_);rw[show A.in1.handled=none from hh];refine wpAny_bind (wpAny_pure (wpAny_throw ?_));refine wpAny_bind (wpAny_isInstance (T:="StopIteration") (b:=true) ⟨_,Heap.get?_push_size _ rfl,rfl⟩ isSubtype_stop ?_);exact wpAny_pure (hQ _ (((Heap.SameBut.update ..).extBut.push _).push _))
theorem EK(hh:A.handled=none) (I d:Addr) (hne:d≠I) (es:Array DictEntry) (ep:Nat) :
  Walks prog w A I [I,d] [I] es.size (fun i v=>∃e,es[i]?=some e/\v=e.key) (fun i h=>h.IsKeyIter I d i es.size ep/\iT h d es ep) where
 sub:=fun b hb=>by simp at hb;simp[hb]
 frame:=fun _ _ _ st hk=>⟨st.1.at fun o e=>hk I (by simp) o e,st.2.at' fun o e=>hk d (by simp) o e⟩
 item:=fun i s Q E hi st hQ=>by
  refine EN st.1 st.2 hi fun h' hit' hs'=>?_;exact hQ _ h' s.toks ⟨es[i],by simp[hi],rfl⟩ ⟨hit',st.2.at' fun o e=>hs'.extBut d o hne e⟩ fun b o hb e=>hs'.extBut b o (fun h=>hb (by simp[h])) e
 done:=fun s Q E st hQ=>GG hh st.1 st.2 (Nat.le_refl _) fun h' he'=>hQ h' s.toks fun b o hb e=>he' b o (fun h=>hb (by simp[h])) e
 self:=fun _ _ _ _ st hQ=>wpAny_pyIter_keyiter st.1 hQ
theorem F4(lo:(d==sysModules)=false):KdlSrc prog w "dict" d d es.size (fun i v=>∃e,es[i]?=some e/\v=e.key) (fun h=>iT h d es ep) where
 type:=fun _ hm=>hm.typeIs
 there:=fun _ hm=>⟨hm.lt,hm.lt⟩
 keep:=fun _ _ hm hk=>hm.at' fun o e=>hk d (.inl rfl) o e
 notList:=by decide
 notTuple:=by decide
 hint:=fun _ _ _ _ hm hq=>kdl_hint_dict hm.typeIs hq
 iter:=fun _ _ hh hm=>⟨_,_,(fun _ _ hq=>Eu lo hm hq),EK hh _ d (Nat.ne_of_lt hm.lt) es ep,⟨⟨_,Heap.get?_push_size _ rfl,rfl,rfl⟩,hm.at' fun _ e=>Heap.get?_push_of_some _ e⟩⟩
theorem yb{Q:List Value->Shared->Prop}(hh:A.handled=none) (lo:(d==sysModules)=false) (hm:iT s.heap d es ep) (hn:es.size<=sizeLine)
  (h:∀h' tk,(∀b o,s.heap.get? b=some o->h'.get? b=some o)->Q (es.toList.map (·.key)) { s with heap:=h',toks:=tk }):wpAny (model prog w) A (collect (.ref d)) Q E s:=by
 unfold collect;refine wpAny_bind (wpAny_runValue (codeAny_builtin PySem.F.entry_proto_collect ?_));rw[Around.under_plainId PySem.F.plain_proto_collect _];show wpAny _ A.in1 (newList [] >>= fun l=>again (.builtin "list.__iadd__" ⟨[l,.ref d],[]⟩)) _ _ s;refine wpAny_bind (wpAny_newObj_type ?_);refine wpAny_pure ⟨plainId_quiet PySem.F.plain_list_iadd _,codeAny_builtin PySem.F.entry_list_iadd ?_⟩;rw[Around.under_plainId PySem.F.plain_list_iadd _];have ne:s.heap.objs.size≠d:=Nat.ne_of_gt hm.lt;show wpAny _ A.in1 (Builtin.List.listExtendWith (.ref s.heap.objs.size) (.ref d) (.ref s.heap.objs.size)) _ _ _;have hS:(s.heap.push { cls:=.type "list",data:=.seq #[] }).get? s.heap.objs.size=some { cls:=.type "list",data:=.seq #[] }:=Heap.get?_push_size _ rfl;have K:=kdl_extend (prog:=prog) (w:=w) (A:=A) (R:=fun r s'=>∃h' tk acc' c',r=.ok (.ret (.ref s.heap.objs.size))/\s'={ s with heap:=h',toks:=tk }/\(∀b o,s.heap.get? b=some o->h'.get? b=some o)/\h'.get? s.heap.objs.size=some (wN acc' c')/\acc'.toList=es.toList.map (·.key)) (s:={ s with heap:=s.heap.push { cls:=.type "list",data:=.seq #[] } }) (F4 (ep:=ep) lo) hh (hm.at' fun _ e=>Heap.get?_push_of_some _ e) s.heap.objs.size ne ne (.ref s.heap.objs.size) 0 hS (fun h' tk acc' c' hk hS' hacc=>⟨h',tk,acc',c',rfl,rfl,fun b o q=>hk b o (Nat.ne_of_lt (Heap.lt_size q)) (Heap.get?_push_of_some _ q),hS',by
  apply List.ext_getElem?;intro i;rcases Nat.lt_or_ge i es.size with hi|hi
  ·have g:acc'[i]?=some (acc'[i]'(by rw[hacc.1];exact hi)):=Array.getElem?_eq_getElem _;obtain⟨e,e1,e2⟩:=hacc.2 i _ g;rw[Array.getElem?_toList,g,e2,List.getElem?_map,Array.getElem?_toList,e1];rfl
  ·rw[List.getElem?_eq_none (by simp[hacc.1];exact hi),List.getElem?_eq_none (by simp;omega)]⟩) hn
 refine wpAny_mono K (fun fin s' hf=>?_) fun e s' ⟨h',tk,acc',c',q,_⟩=>nomatch q
 cases fin with
 |done f =>
  obtain⟨h',tk,acc',c',q,rfl,kp,hS',ea⟩:=hf;cases q;show wpAny _ A _ Q E _;refine wpAny_bind (wpAny_load hS' (wpAny_pure ?_));rw[ea];exact h h' tk kp
 |again c =>
  refine⟨hf.1,codeAny_mono hf.2 fun r s' ⟨h',tk,acc',c',q,e2,kp,hS',ea⟩=>?_⟩;subst q e2;show wpAny _ A _ Q E _;refine wpAny_bind (wpAny_load hS' (wpAny_pure ?_));rw[ea];exact h h' tk kp
end
open Classical in
instance decKs:DecidableEq (List KD):=fun _ _=>propDecidable _
def uE(prog:Program) (w:World) (n:Nat) (hn:n<=8):HeapKind prog w (List KD) where
 is h ks a:=KAt h n (.tup ks) (.ref a)
 hash ks:=hK w n (.tup ks)
 draws ks:=drK n (.tup ks)
 room A:=A.units+n<cLine
 inj hx hy:=by have:=KAt.same n hx hy;cases this;rfl
 keeps {h h' k a d o es ep} q ho hd hs:=q.upT fun b xs ⟨o',g,hc,m,e⟩=>⟨o',by
  have ne:b≠d:=fun z=>by subst z;rw[ho]at g;cases g;rw[hd]at e;cases e
  rw[hs.2 b ne];exact g,hc,m,e⟩
 pyHash hr hx h:=KAt.hash n hr hx h
 eqBool {A E s x y a b Q} hr hx hy h:=by
  obtain⟨c,h1,h2⟩:=KAt.eq n hr hx hy;refine h2 prog w _ _ ?_;have:c=decide (x=y):=by
   rw[Bool.eq_iff_iff,h1];simp
  rw[this];exact h
 quiet hx h:=KAt.quiet 8 n hn hx h
end L2
namespace L2
open PySem PySem.Spec PyProof.Rows PySem.Calls PySem.SeqAt
def enR(w:World) (p:List KD×Value):DictEntry:=⟨hK w 8 (.tup p.1),p.2,.bool true⟩
def DrE(w:World) (a:Addr) (ks:List (List KD)) (vs:List V) (h:Heap):Prop :=
 (a==sysModules)=false/\ks.Nodup/\(∀k∈ks,dpK 8 (.tup k))/\∃its,ar vs its/\∃es ep,iT h a es ep/\es.toList=(ks.zip its).map (enR w)
def dRw(w:World) (a:Addr) (ks:List (List KD)):HD:=.ext (DrE w a ks) (ks.map bu)
theorem DrE.ok{P:Program}{w w':World}{H:Hp}{a:Addr}{ks:List (List KD)}{vs:List V}{h:Heap}(x:DrE w a ks vs h):bq P w' H h a (.ext (DrE w a ks vs)):=by
 refine⟨x,?_,fun h1 h2 ⟨a1,a2,a3,its,a4,es,ep,a5,a6⟩ k=>⟨a1,a2,a3,its,a4,es,ep,a5.at' k,a6⟩⟩;obtain⟨_,_,_,its,_,es,ep,⟨o,ho,_⟩,_⟩:=x;exact⟨o,ho⟩
def Cb:Value->Addr
 |.ref a=>a
 |_=>0
section
variable{X:Cx}{aa:List (Addr×Obj)}{s:Shared}{σ:St}{H:Hp}{M:DH}{a b:Addr}{ks:List (List KD)}{k:List KD}
theorem uj{α β:Type}:∀{l:List α}{m:List β},l.length=m.length->(l.zip m).map (·.1)=l
 |[],_,_=>by simp
 |_::_,[],h=>by cases h
 |x::l,y::m,h=>by simp[uj (l:=l) (m:=m) (Nat.succ.inj h)]
theorem uF{α β:Type}:∀{l:List α}{m:List β},l.length=m.length->(l.zip m).map (·.2)=m
 |[],[],_=>rfl
 |[],_::_,h=>by cases h
 |_::_,[],h=>by cases h
 |x::l,y::m,h=>by simp[uF (l:=l) (m:=m) (Nat.succ.inj h)]
def xsR(p:List KD×Value):List KD×Addr×Value:=(p.1,Cb p.2,.bool true)
theorem yP{A:Around}{E:Value->Shared->Prop}{y:V}{u:Value}{Q:Unit->Shared->Prop}(hu:A.units+16<cLine) (I:Inv X aa σ H s) (hr:HR X.K M H) (em:M a=some (dRw X.w a ks)) (rk:Rep X.K M H (bu k) y) (ry:aA y u) (hd:dpK 8 (.tup k)) (hl:ks.length<1000000)
  (h:∀vs' s',aj X.K M H ((bp ks k).map bu) vs'->Inv X aa σ (upd H a (.ext (DrE X.w a (bp ks k) vs'))) s'->Q () s'):wpAny (model X.prog X.w) A (setItem (.ref a) u (.bool true)) Q E s:=by
 obtain⟨vs,hH,rl⟩:=hr a _ em;obtain⟨⟨lo,nd,dp,its,rv,es,ep,⟨o,ho,hc,hdat⟩,he⟩,_,_⟩:=I.hok a _ hH;have hkey:=tU I 8 (k:=.tup k) hd (by simp only[kd];exact rk) ry;have hkey0:=hkey;obtain⟨b,_,rfl,_⟩:=hkey0;have hln:ks.length=its.length:=by rw[<-rv.length,<-rl.length,List.length_map]
 have at_:∀p∈ks.zip its,KAt s.heap 8 (.tup p.1) p.2/\p.2=.ref (Cb p.2):=fun p hp=>by
  obtain⟨i,hi⟩:=List.mem_iff_getElem?.mp hp;rw[List.getElem?_zip_eq_some]at hi;have q:=eO I dp rl rv hi.1 hi.2;refine⟨q,?_⟩;obtain⟨c,_,e,_⟩:=q;rw[e];rfl
 have e1:es.toList=((ks.zip its).map xsR).map (entryOfKey (uE X.prog X.w 8 (Nat.le_refl _))):=by
  rw[he,List.map_map];refine List.map_congr_left fun p hp=>?_;show(⟨hK X.w 8 (.tup p.1),p.2,.bool true⟩:DictEntry)=⟨hK X.w 8 (.tup p.1),.ref (Cb p.2),.bool true⟩;rw[<-(at_ p hp).2]
 have e2:((ks.zip its).map xsR).map (·.1)=ks:=by rw[List.map_map];exact uj hln
 have hm:s.heap.DictOfH (uE X.prog X.w 8 (Nat.le_refl _)) a ((ks.zip its).map xsR):=⟨o,es,ep,ho,hc,hdat,e1,fun x hx=>by
  obtain⟨p,hp,rfl⟩:=List.mem_map.mp hx;obtain⟨q,e⟩:=at_ p hp;rw[e]at q;exact q,by rw[e2];exact nd⟩
 refine wpAny_setItem_heap (k:=k) (v:=.bool true) (show A.units+1+8<cLine by lia) hkey hm (fun h' hm' hs=>?_) (by rw[List.length_map,List.length_zip,sizeLine_eq];lia);obtain⟨o',es',ep',ho',hc',hdat',he',_,nd'⟩:=hm';have mu:Mut (H a):=by rw[hH];exact True.intro
 by_cases c:k∈ks
 ·have e3:bp ks k=ks:=if_pos c;have st:storedH ((ks.zip its).map xsR) k b (.bool true)=(ks.zip its).map xsR:=by
   unfold storedH;have all:((ks.zip its).map xsR).map (putAt k (.bool true))=(ks.zip its).map xsR:=by
    rw[List.map_map];refine List.map_congr_left fun p hp=>?_;show putAt k (.bool true) (xsR p)=xsR p;unfold putAt;split<;>rfl
   split
   ·exact all
   ·rename_i n;exfalso;rw[<-e2]at c;obtain⟨x,hx,e⟩:=List.mem_map.mp c;obtain⟨i,hi⟩:=List.mem_iff_getElem?.mp hx;obtain⟨x1,x2⟩:=x;subst e;exact n (by rw[atKey_of_get (by rw[e2];exact nd) hi];rfl)
  rw[st]at he';rw[<-e1,he]at he';refine h vs _ (by rw[e3];exact rl) (jc I mu hs ⟨_,ho'⟩ (DrE.ok ?_));rw[e3];exact⟨lo,nd,dp,its,rv,es',ep',⟨o',ho',hc',hdat'⟩,he'⟩
 ·have e3:bp ks k=ks++[k]:=if_neg c;have st:storedH ((ks.zip its).map xsR) k b (.bool true)=(ks.zip its).map xsR++[(k,b,.bool true)]:=by
   refine storedH_new (atKey_none_of_get fun j p hj=>c ?_) _ _;rw[<-e2];exact List.mem_map.mpr ⟨_,List.mem_of_getElem? hj,rfl⟩
  rw[st,List.map_append,<-e1,he]at he';obtain⟨v,ev,rkv⟩:∃v,v=y/\Rep X.K M H (bu k) v:=⟨y,rfl,rk⟩;subst ev;refine h (vs++[v]) _ (by rw[e3,List.map_append];exact rl.append (aj.cons rkv aj.nil)) (jc I mu hs ⟨_,ho'⟩ (DrE.ok ?_));rw[e3];refine⟨lo,?_,fun j hj=>?_,its++[.ref b],rv.append (.cons ry .nil),es',ep',⟨o',ho',hc',hdat'⟩,?_⟩
  ·rw[<-e3];exact pN nd k
  ·rcases List.mem_append.mp hj with z|z
   ·exact dp j z
   ·rw[List.mem_singleton.mp z];exact hd
  ·rw[he',List.zip_append hln,List.map_append];rfl
def dDR(w:World):TEd:=fun _ M Q=>∀p,M p=none->Q (.ref p) (aG M p (dRw w p []))
theorem FW{pos:Pos}:PEd X (.Dict [] [] pos) (dDR X.w):=fun aa s σ H Q I ⟨Δ,M,R,sr,hr,q,k⟩=>by
 have hp:H s.heap.objs.size=none:=I.hok.fresh (Nat.le_refl _);have hp':=hr.fresh hp;refine wpAny_Dict_empty ⟨.ref s.heap.objs.size,_,I.laid (a:=s.heap.objs.size) (o:=.ext (DrE X.w s.heap.objs.size [] [])) (t':=s.toks) (fun _ _ q=>Heap.get?_push_of_some _ q) (Nat.le_refl _) (DrE.ok ⟨?_,.nil,fun _ z=>(nomatch z),[],.nil,#[],0,⟨_,Heap.get?_push_size _ rfl,⟨rfl,rfl,rfl⟩,rfl⟩,rfl⟩),rfl,?_⟩
 ·have:=qu (P:=X.prog) (w:=X.w) (H:=H) s.heap I.big;exact this.2.1
 ·exact k _ _ _ _ (q _ hp') (Ext.own hp) (hr.put (Ext.own hp) ⟨[],aL,aj.nil⟩) (by simp only[Rep])
variable{o i e:Expr}{to ti te:TEd}
def AH(w:World) (to ti te:TEd):TSd:=fun E Δ M=>te Δ M fun d M1=>to Δ M1 fun x M2=>ti Δ M2 fun y M3=>∃a ks k,d=.bl true/\x=.ref a/\M3 a=some (dRw w a ks)/\y=bu k/\dpK 8 (.tup k)/\ks.length<1000000/\E.nx Δ (aG M3 a (dRw w a (bp ks k)))
def wQ(w:World) (to:TEd):TEd:=fun Δ M Q=>to Δ M fun x M1=>∃a ks,x=.ref a/\M1 a=some (dRw w a ks)/\Rws ks/\ks.length<1000000/\Q (.lst ((bN ks).map bu)) M1
theorem FY{pos:Pos}:QEd X (.Dict [] [] pos) (dDR X.w):=by simp only[QEd.eq];exact FW
theorem Co{p pos:Pos}(hu:X.A.units+64<cLine) (ho:QEd X o to) (hi:QEd X i ti) (he:QEd X e te) (hs:swapsWith e (some (.Subscript o i p)) pos.line X.env=pure false:=by rfl):QSd X (.Assign [.Subscript o i p] e pos) (AH X.w to ti te):=by
 simp only[QEd.eq,QSd.eq]at *
 intro aa s σ H D I ⟨Δ,M,E,sr,hr,q,k⟩;refine wpAny_Assign_Subscript (thn (he aa s σ H (fun v H1=>up X.K to σ H1 fun x H2=>up X.K ti σ H2 fun y H3=>∃a ks ky M3,v=.bl true/\x=.ref a/\HR X.K M3 H3/\M3 a=some (dRw X.w a ks)/\Rep X.K M3 H3 (bu ky) y/\dpK 8 (.tup ky)/\ks.length<1000000/\∀vs',aj X.K M3 H3 ((bp ks ky).map bu) vs'->D.nx σ (upd H3 a (.ext (DrE X.w a (bp ks ky) vs')))) I
  ⟨Δ,M,_,sr,hr,q,fun d M1 v H1 q1 e1 hr1 rv=>⟨Δ,M1,_,sr.ext e1,hr1,q1,fun x M2 u H2 q2 e2 hr2 ru=>⟨Δ,M2,_,(sr.ext e1).ext e2,hr2,q2,fun y M3 w3 H3 ⟨a,ks,ky,ed,ex,em,ey,hd,hl,q3⟩ e3 hr3 rw3=>?_⟩⟩⟩) fun r s1 hup=>hup.el fun v H1 I1 rv q1=>thn (ho aa s1 σ H1 _ I1 q1) fun u s2 hup=>hup.el fun x H2 I2 rx q2=>thn (hi aa s2 σ H2 _ I2 q2) fun iv s3 ⟨y,H3,I3,ry,a,ks,ky,M3,ev,ex,hr3,em,rk,hd,hl,q3⟩=>?_) hs
 ·subst ed ex ey;simp only[Rep]at rv ru;refine⟨a,ks,ky,M3,rv,ru,hr3,em,rw3,hd,hl,fun vs' rl=>?_⟩;have ew:Ext M3 H3 (aG M3 a (dRw X.w a (bp ks ky))) (upd H3 a (.ext (DrE X.w a (bp ks ky) vs'))):=Ext.write em;exact k.nx Δ _ σ _ q3 (((e1.trans e2).trans e3).trans ew) (hr3.put ew ⟨vs',aL,rl.ext ew⟩) ((((sr.ext e1).ext e2).ext e3).ext ew)
 ·subst ev ex;obtain rfl:u=Value.ref a:=rx;obtain rfl:r=Value.bool true:=rv;exact yP (by lia) I3 hr3 em rk ry hd hl fun vs' s4 rl I4=>⟨σ,_,I4,q3 vs' rl⟩
theorem Ar{p0 q0:Pos}(hc:X.calm=true) (hu:X.A.units+64<cLine) (hgS:Gl X "sorted") (hmS:X.mg "sorted"=none) (ho:QEd X o to)
  (he0:starEach [o] X.env=(false,eval o X.env)::starEach [] X.env:=by rfl) (hp0:(backTo q0 (starEach [] X.env)).any (·.1)=false:=by rfl) :
  QEd X (.Call (.Name "sorted" p0) [o] [] q0) (wQ X.w to):=by
 simp only[QEd.eq]at *
 intro aa s σ H Q I ⟨Δ,M,R,sr,hr,q,k⟩;refine wpAny_Call_Name_kw (eC I hgS hmS (u:=.builtin "sorted") (by kernel_rfl) ?_ (by decide) (by decide));refine PyProof.Rows.callWith_builtin1 ?_ he0 hp0;rw[he0];show wpAny _ _ (spliced ((false,eval _ X.env)::backTo q0 (starEach [] X.env))) _ _ s;refine Calls.spliced_cons (evD ho I sr hr q fun u s1 v H1 x M1 I1 r1 ⟨a,ks,ex,em,hk,hl,q2⟩ hr1 rv e1=>?_);refine Calls.spliced_nil ?_;subst ex;simp only[Rep]at rv;subst rv;obtain rfl:u=Value.ref a:=r1;obtain⟨vs,hH,rl⟩:=hr1 a _ em;obtain⟨⟨lo,nd,dp,its,rvs,es,ep,de,he⟩,_,_⟩:=I1.hok a _ hH;have hln:ks.length=its.length:=by rw[<-rvs.length,<-rl.length,List.length_map]
 have hsz:es.size=ks.length:=by rw[<-Array.length_toList,he,List.length_map,List.length_zip];lia
 have ek:es.toList.map (·.key)=its:=by rw[he,List.map_map];exact uF hln
 refine call_function_entry kind_sorted plain_sorted entry_sorted (args_sorted1 _) ?_;unfold Builtin.«sorted»;refine wpAny_bind (m:=checkCount "sorted" 1 1 _) (wpAny_pure ?_);refine wpAny_bind (yb (A:=X.A.in1) (I1.ok.hd hc) lo de (by rw[hsz,sizeLine_eq];lia) fun h' tk kp=>?_);rw[ek];have I2:Inv X aa σ H1 { s1 with heap:=h',toks:=tk }:=I1.kept kp;refine mj (show X.A.units+1+1+9<cLine by lia) I2 hr1 hk rl rvs ?_ (fun p vs' hp r=>?_) fun x s' e=>⟨_,rfl,e⟩
 ·rw[<-rl.length,List.length_map,sizeLine_eq];lia
 ·exact dM hr1 hp r fun w H' a b c=>k _ _ _ _ q2 (e1.trans a) b c
end
end L2
namespace L2
open PySem PySem.Spec PyProof.Rows
section
variable{X:Cx}
theorem FF:bK X (binaryOp .LShift) (iOp fun i j=>if mS i j then some (.int (i*2 ^ j.toNat))else none):=nt (fun _ _=>rfl) Cs
theorem Fg:bK X (binaryOp .RShift) (iOp fun i j=>if 0<=j then some (.int (i / 2 ^ j.toNat))else none):=nt (C:=fun _ j=>0<=j) (fun _ _=>rfl) BY
end
end L2
namespace L2
open PySem PySem.Spec PyProof.Rows PySem.Calls PySem.SeqAt
end L2
namespace L2
open PySem PySem.Spec PyProof.Rows
section
variable{prog:Program}{w:World}{A:Around}{E:Value->Shared->Prop}{s:Shared}
theorem sy{n:Nat}{hn8:n<=8}{l:Addr}{items:Array Value}{xs:List (List KD)}{Q:Value->Shared->Prop}
  (hh:A.handled=none) (hu:A.units+n+8<cLine) (hl:s.heap.IsTuple l items) (hn:items.size=xs.length) (hi:∀(i:Nat) k u,xs[i]?=some k->items[i]?=some u->KAt s.heap n (.tup k) u) (hb:xs.length<1000)
  (h:∀(h':Heap) (tk:Nat),ip (tK prog w n hn8 s.heap (·∈items)) h' s.heap.objs.size (cI xs)->lX s.heap h'->Q (.ref s.heap.objs.size) { s with heap:=h',toks:=tk }) :
  wpAny (model prog w) A (call (.type "set") [.ref l]) Q E s:=by
 obtain⟨c,tl,hmro⟩:=PySem.F.called_set.mro;have hmade:=PySem.F.called_set.made;have hsub:=PySem.F.called_set.sub;refine wpAny_call (codeAny_of_tree ?_);show wpAny _ _ (callAny (.type "set") _) _ _ _;refine wpAny_pure ⟨Code.quiet_builtin _ (by decide +kernel),codeAny_builtin PySem.F.entry_type_call ?_⟩;rw[Around.under_plain (weight_type_call_type "set" [.ref l] []) rfl];have h1:=PySem.F.called_set.notType;have h2:=PySem.F.called_set.canCreate;have hct:=PySem.F.typeCall_set_1 (.ref l)
 repeat (any_goals (first|assumption|wp_step))
 refine codeAny_mono (lE (.ref l) (E:=E) (Q₁:=fun obj s₁=>obj=.ref s.heap.objs.size/\s₁={ s with heap:=s.heap.push (cH w) }) ⟨rfl,rfl⟩) fun r s₁ hr=>?_;cases r with
 |error e=>exact hr
 |ok fl =>
  cases fl with
  |ret obj =>
   obtain⟨rfl,rfl⟩:=hr;have hS:(s.heap.push (cH w)).get? s.heap.objs.size=some (cH w):=Heap.get?_push_size _ rfl;have hT:Shared.TypeIs { s with heap:=s.heap.push (cH w) } (.ref s.heap.objs.size) "set":=⟨_,hS,rfl⟩;have hli:=PySem.F.called_set.init.lookup;have hbi:=PySem.F.called_set.init.bind (.ref s.heap.objs.size)
   repeat (any_goals (first|assumption|wp_step))
   refine codeAny_mono (codeAny_call_builtin (R:=wants (fun r s₂=>r=.none/\∃h' tk,s₂={ s with heap:=h',toks:=tk } /\
     ip (tK prog w n hn8 s.heap (·∈items)) h' s.heap.objs.size (cI xs)/\lX s.heap h') E) PySem.F.called_set.init.plain PySem.F.entry_set_init (check_set_init_1 hT ?_)) fun r₂ s₂ hr₂=>?_
   ·obtain⟨ol,hol,hcl,nl,hdl⟩:=hl;obtain⟨ocls,odict,odata,oslots⟩:=ol;simp only at hcl hdl;subst hcl;subst hdl;have hol':(s.heap.push (cH w)).get? l=some { cls:=.type "tuple",dict:=odict,data:=.seq items nl,slots:=oslots }:=Heap.get?_push_of_some _ hol;have hsls:=PySem.F.sub_tuple_set;have hslf:=PySem.F.sub_tuple_frozenset;have hne:(Value.type "tuple"==Value.type "dict")=false:=by decide
    have hl1:(s.heap.push (cH w)).IsTuple l items:=⟨_,hol',rfl,nl,rfl⟩;unfold Builtin.«set.__init__» noKeywords Builtin.Frozenset.updateFrom;generalize hPI:pyIter=PI
    wp_walk
    subst hPI;refine wpAny_pyIter_tuple hl1 ?_;refine wpAny_bind (wpAny_runValue ?_);have hlS:l<s.heap.objs.size:=Heap.lt_size hol;have hh3:A.in1.in1.in1.handled=none:=by simp[hh]
    have hneI:l≠(s.heap.push (cH w)).objs.size:=by
     rw[Heap.size_push];exact Nat.ne_of_lt (Nat.lt_succ_of_lt hlS)
    have hSf:s.heap.objs.size∉[(s.heap.push (cH w)).objs.size,l]:=by
     rw[Heap.size_push];simp only[List.mem_cons,List.mem_singleton,List.not_mem_nil,or_false,not_or];exact⟨Nat.ne_of_lt (Nat.lt_succ_self _),Nat.ne_of_gt hlS⟩
    have W:=(Walks.tuple (prog:=prog) (w:=w) hh3 _ l hneI items).toS;rw[hn]at W;have frs:∀b,s.heap.objs.size<=b->s.heap.get? b=none:=fun b hb=>Heap.get?_none_of_le hb;refine EU (V:=(·∈items)) (n:=n) (hn:=hn8) (h0:=s.heap) (xs:=xs) W s.heap.objs.size hSf (fun b hb=>?_) (show A.units+1+1+1+n<cLine by lia) (fun i v hlt hv=>⟨hi i _ _ (List.getElem?_eq_getElem hlt) hv,Array.mem_of_getElem? hv⟩) hb (xs.length-0) 0 _ (by lia) (Nat.zero_le _) ?St0 ?hK0 ?hS0 ?hR
    case St0=>exact⟨⟨_,Heap.get?_push_size _ rfl,rfl,rfl⟩,(hl1.push _)⟩
    ·rcases List.mem_cons.mp hb with rfl|hb
     ·exact frs _ (Nat.le_refl _)
     ·rw[List.mem_singleton.mp hb,Heap.size_push];exact frs _ (Nat.le_succ _)
    case hK0=>exact fun b o e=>Heap.get?_push_of_some _ (Heap.get?_push_of_some _ e)
    case hS0=>exact wx (Heap.get?_push_of_some _ hS)
    case hR =>
     intro s' hm hK' hS';obtain⟨h',g',d',tk',os'⟩:=s';have eg:g'=s.gens:=hm.gens;have ed:d'=s.drawn:=hm.drawn;have eo:os'=s.os:=hm.os;subst eg;subst ed;subst eo;show wpAny _ _ _ _ _ _;refine wpAny_pure ?_;show wpAny _ _ (ret Value.none) _ _ _;exact wpAny_pure ⟨rfl,h',tk',rfl,hS',hK'⟩
   ·cases r₂ with
    |error e=>exact hr₂
    |ok fl₂ =>
     cases fl₂ with
     |ret r =>
      obtain⟨rfl,h',tk,rfl,hS',hk'⟩:=hr₂
      repeat (any_goals (first|assumption|wp_step))
      exact h _ _ hS' hk'
     |_=>exact hr₂.elim
  |_=>exact hr.elim
end
section
open PySem.Calls PySem.SeqAt
variable{X:Cx}{aa:List (Addr×Obj)}{s:Shared}{σ:St}{H:Hp}{M:DH}{K:PySem.W.Frag}
end
end L2
namespace L2
open PySem PySem.Spec PyProof.Rows PySem.Calls PySem.SeqAt
section
variable{X:Cx}{aa:List (Addr×Obj)}{s:Shared}{σ:St}{H:Hp}{M:DH}{K:PySem.W.Frag}
def dLS(ta:TEd):TEd:=fun Δ M Q=>ta Δ M fun x M1=>(∃ks:List (List KD),rdM M1 x=.tup (ks.map bu)/\(∀k∈ks,dpK 8 (.tup k))/\ks.length<1000/\Q (.int ((cI ks).length:Nat)) M1)∨(∃xs:List Str,rdM M1 x=.lst (xs.map .str)/\xs.length<1000/\Q (.int ((fH xs).length:Nat)) M1)
theorem F3{a:Expr}{ta:TEd}{p0 p1 q0 q1:Pos}(hc:X.calm=true) (hu:X.A.units+64<cLine) (hgS:Gl X "len") (hmS:X.mg "len"=none) (hg:Gl X "set") (hm:X.mg "set"=none) (ha:QEd X a ta)
  (he0:starEach [.Call (.Name "set" p1) [a] [] q1] X.env=(false,eval (.Call (.Name "set" p1) [a] [] q1) X.env)::starEach [] X.env:=by rfl)
  (he1:starEach [a] X.env=(false,eval a X.env)::starEach [] X.env:=by rfl)
  (hp0:(backTo q0 (starEach [] X.env)).any (·.1)=false:=by rfl) (hp1:(backTo q1 (starEach [] X.env)).any (·.1)=false:=by rfl) :
  QEd X (.Call (.Name "len" p0) [.Call (.Name "set" p1) [a] [] q1] [] q0) (dLS ta):=by
 simp only[QEd.eq]at *
 intro aa s σ H Q I ⟨Δ,M,R,sr,hr,q,k⟩;refine wpAny_Call_Name_kw (eC I hgS hmS (u:=.builtin "len") (by kernel_rfl) ?_ (by decide) (by decide));refine PyProof.Rows.callWith_builtin1 ?_ he0 hp0;rw[he0];show wpAny _ _ (spliced ((false,eval _ X.env)::backTo q0 (starEach [] X.env))) _ _ s;refine Calls.spliced_cons ?_;refine wpAny_Call_Name_kw (eC I hg hm (u:=.type "set") (by kernel_rfl) ?_ (by decide) (by decide));refine PyProof.Rows.callWith_type1 ?_ he1 hp1;rw[he1];show wpAny _ _ (spliced ((false,eval a X.env)::backTo q1 (starEach [] X.env))) _ _ s;refine Calls.spliced_cons (evD ha I sr hr q fun u s1 v H1 x M1 I1 r1 hx hr1 rv0 e1=>?_);have rv:=rv0.rd hr1;refine Calls.spliced_nil ?_;rcases hx with⟨ks,ex,hk8,hl,q2⟩|⟨xs,ex,hl,q2⟩
 ·rw[ex]at rv;obtain⟨l,vs,rfl,sq,rl⟩:=rv;cases r1;obtain⟨its,rvs,pl,hz⟩:=I1.tuple sq;have hn:ks.length=its.length:=by rw[<-rvs.length,<-rl.length,List.length_map]
  have hat:∀(i:Nat) k u,ks[i]?=some k->its[i]?=some u->KAt s1.heap 8 (.tup k) u:=fun i k u h1 h2=>eO I1 hk8 rl rvs h1 h2;refine sy (n:=8) (hn8:=Nat.le_refl _) (I1.ok.hd hc) (by lia) pl (by simp[hn]) (fun i k u h1 h2=>hat i k u h1 (by simpa using h2)) hl fun h' tk hS kp=>?_;refine Calls.spliced_nil ?_;obtain⟨o,es,ep,t,zs,qs,pm⟩:=hS;have hzs:es.size=(cI ks).length:=by rw[qs.el.len,pm.length_eq]
  have I2:Inv X aa σ H1 { s1 with heap:=h',toks:=tk }:=I1.kept kp;have hml:=eY ks;refine call_len_set (s:={ s1 with heap:=h',toks:=tk }) qs.get qs.ex qs.data qs.tb.fit (by lia) ?_;rw[hzs];exact⟨.int _,H1,I2.tok _,⟨_,rfl⟩,k _ _ _ _ q2 e1 hr1 (by simp only[Rep])⟩
 ·rw[ex]at rv;obtain⟨l,vs,rfl,sq,rl⟩:=rv;cases r1;obtain⟨its,rvs,pl,hz⟩:=I1.list (SqL.of sq);have hn:xs.length=its.length:=by rw[<-rvs.length,<-rl.length,List.length_map]
  refine uY (xs:=xs) (I1.ok.hd hc) pl.isList (by simp[hn]) (fun i hi=>?_) (by unfold scanBound;lia) fun h' tk hS kp=>?_
  ·obtain⟨v,g,r⟩:=rl.get (i:=i) (d:=.str xs[i]) (by rw[List.getElem?_map,List.getElem?_eq_getElem hi];rfl);obtain⟨u,g',r'⟩:=rvs.get g;simp only[Rep]at r;subst r;obtain⟨t,rfl⟩:=r';exact⟨t,by simpa using g'⟩
  refine Calls.spliced_nil ?_;obtain⟨o,es,ep,t,qs,pm⟩:=hS;have hzs:es.size=(fH xs).length:=by
   have:=pm.length_eq;rw[List.length_map,Array.length_toList]at this;exact this
  have I2:Inv X aa σ H1 { s1 with heap:=h',toks:=tk }:=I1.kept kp;have hml:(fH xs).length<=xs.length:=by have:=jO xs [];simpa[fH]using this
  refine call_len_set (s:={ s1 with heap:=h',toks:=tk }) qs.get qs.ex qs.data qs.fit (by lia) ?_;rw[hzs];exact⟨.int _,H1,I2.tok _,⟨_,rfl⟩,k _ _ _ _ q2 e1 hr1 (by simp only[Rep])⟩
end
end L2
namespace L2
open PySem PySem.Spec PyProof.Rows PySem.Builtin PySem.Builtin.Str StrLaws
def Gd(L S:List Nat) (d c:Nat):Prop:=∀j,L[j]?=some c->d<=j/\(L.drop (j-d)).take S.length=S/\j-d+S.length<=L.length/\∀j',j<j'->L[j']?=some c->j+S.length<=j'
theorem Gd.free{L S:List Nat}{d c:Nat}(h:c∉L):Gd L S d c:=fun j hj=>absurd (List.mem_of_getElem? hj) h
end L2
namespace L2
open PySem PySem.Spec PyProof.Rows
open AutoSeq1 (wpAny_loadPart')
def lK(Φ:Obj->Prop):Prop:=∀o v,Φ o->Φ (o.mapFields (·.setIfInBounds 1 v))
def AD(h base:Heap) (e:Addr) (Φ:Obj->Prop) (fl:Value):Prop :=
 ∃oe vs T oT ts,h.get? e=some oe/\Φ oe/\oe.data=.fields vs/\vs[1]?=some (.ref T)/\base.get? T=none/\T≠e/\h.get? T=some oT/\oT.data=.fields ts/\ts[3]?=some fl
def GoX(base:Heap) (l:List Env) (e:Addr) (Φ:Obj->Prop) (fl:Value) (h h':Heap):Prop:=base.StaysIn h'/\h'.FunFrames base l/\AD h' base e Φ fl/\h.UpToSlots h'
section
variable{M:Model}{A:Around}{E:Value->Shared->Prop}{s:Shared}{base:Heap}{env:Env}{outer l:List Env}{L e:Addr}{Φ:Obj->Prop}{Q:Unit->Shared->Prop}
theorem v8{oe:Obj}{vs:Array Value}{head:Value}{hadNext:Bool}(st:lK Φ)
  (hfr:A.frames=some (env::outer)) (hl:s.heap.FunFrames base (env::outer)) (hf:env.frame=some L)
  (he:s.heap.get? e=some oe) (hkb:base.StaysIn s.heap) (hen:base.get? e=none) (hd:oe.data=.fields vs) (hsz:1<vs.size) (h0:Φ oe)
  (h:∀h',GoX base (env::outer) e Φ (rawInt L) s.heap h'->Q () { s with heap:=h' }) :
  wpAny M A (do let a <-frameOf env;let pl <-entryPlaceOf L hadNext;let b <-EntryCells.newEntry head a .none (rawInt L) .none pl;setField (.ref e) 1 b) Q E s:=by
 have hene:e∉(env::outer).filterMap (·.frame):=fun hm=>by
  obtain⟨_,o,ho,hnf⟩:=hl.mem hm;rw[he]at ho;cases ho;exact hnf vs hd
 refine wpAny_bind (wpAny_frameOf_fun hfr hl hf fun h1 hs1=>?_);refine wpAny_bind (wpAny_entryPlaceOf fun pl hpl=>?_);unfold EntryCells.newEntry newFields;refine wpAny_bind (wpAny_newObj_type ?_ (hpl.sizeOk5 _ _ _ _ _));have he1:h1.get? e=some oe:=(hs1.2.1 e hene).trans he;have kb1:base.StaysIn h1:=fun b o hbo=>(hs1.2.1 b fun hm=>by rw[(hl.mem hm).1]at hbo;cases hbo).trans (hkb b o hbo);have ts3:([head,.ref L,.none,rawInt L,.none]++(if pl.isEmpty then List.replicate 6 Value.none else pl)).toArray[3]?=some (rawInt L):=by simp
 generalize ([head,.ref L,.none,rawInt L,.none]++(if pl.isEmpty then List.replicate 6 Value.none else pl)).toArray=ts at ts3 ⊢;have he2:=Heap.get?_push_of_some (h:=h1) { cls:=.type "traceback",dict:=none,data:=.fields ts } he1;refine wpAny_setField he2 hd hsz (h _ ?_);have hTe:h1.objs.size≠e:=Nat.ne_of_gt (Heap.lt_size he1);have hd3:=Obj.data_mapFields hd (·.setIfInBounds 1 (Value.ref h1.objs.size));have he3:=Heap.get?_update_self (Obj.mapFields (·.setIfInBounds 1 (Value.ref h1.objs.size))) he2 (Obj.isFreed_of_fields hd3);have hT3:=(Heap.get?_update_other (h1.push { cls:=.type "traceback",dict:=none,data:=.fields ts }) (Obj.mapFields (·.setIfInBounds 1 (Value.ref h1.objs.size))) (Ne.symm hTe)).trans (Heap.get?_push_size h1 rfl);have keep:∀b o,b≠e->h1.get? b=some o->((h1.push { cls:=.type "traceback",dict:=none,data:=.fields ts }).update e (Obj.mapFields (·.setIfInBounds 1 (Value.ref h1.objs.size)))).get? b=some o:=fun b o hbe hb=>by
  rw[Heap.get?_update_other _ _ (Ne.symm hbe)];exact Heap.get?_push_of_some _ hb
 have noRec:∀b o,s.heap.get? b=some o->(∀vs,o.data≠.fields vs)->b≠e:=fun b o hb hnf q=>by
  rw[q,he]at hb;cases hb;exact hnf vs hd
 refine⟨fun b o hbo=>keep b o (fun q=>by rw[q,hen]at hbo;cases hbo) (kb1 b o hbo),hl.of_keeps fun b o hb hnf=>?_,?_,fun b o hb hnf=>?_⟩
 ·obtain⟨sl,hs⟩:=hs1.2.2 b o hb;exact⟨_,keep b _ (noRec b o hb hnf) hs,rfl⟩
 ·exact⟨_,_,h1.objs.size,_,_,he3,st _ _ h0,hd3,by simp[hsz],kb1.fresh,hTe,hT3,rfl,ts3⟩
 ·obtain⟨sl,hs⟩:=hs1.2.2 b o hb;exact⟨sl,keep b _ (noRec b o hb hnf) hs⟩
theorem oF{fl:Value}(hkb:base.StaysIn s.heap) (hl:s.heap.FunFrames base l) (ht:AD s.heap base e Φ fl) (h:∀h',GoX base l e Φ .none s.heap h'->Q () { s with heap:=h' }):wpAny M A (setFlight (.ref e) none) Q E s:=by
 obtain⟨oe,vs,T,oT,ts,he,h0,hd,h1,hnT,hTe,hT,hdT,h3⟩:=ht;have hsz3:3<ts.size:=(Array.getElem?_eq_some_iff.mp h3).1;have other:∀b,b≠T->(s.heap.update T (Obj.mapFields fun x=>x.setIfInBounds 3 Value.none)).get? b=s.heap.get? b:=fun b hb=>Heap.get?_update_other _ _ (Ne.symm hb);have noRec:∀b o,s.heap.get? b=some o->(∀vs,o.data≠.fields vs)->b≠T:=fun b o hb hnf q=>by
  rw[q,hT]at hb;cases hb;exact hnf ts hdT
 refine wpAny_setFlight_none he hd h1 hT hdT hsz3 (h _ ⟨fun b o hbo=>(other b fun q=>by rw[q,hnT]at hbo;cases hbo).trans (hkb b o hbo),hl.of_keeps fun b o hb hnf=>⟨o,(other b (noRec b o hb hnf)).trans hb,rfl⟩,?_,fun b o hb hnf=>⟨o.slots,(other b (noRec b o hb hnf)).trans hb⟩⟩);exact⟨oe,vs,T,_,_,(other e (Ne.symm hTe)).trans he,h0,hd,h1,hnT,hTe,Heap.get?_update_self _ hT (Obj.isFreed_of_fields (Obj.data_mapFields hdT _)),Obj.data_mapFields hdT _,by simp[hsz3]⟩
theorem qE{oe:Obj}{vs:Array Value}(st:lK Φ) (hfr:A.frames=some (env::outer)) (hl:s.heap.FunFrames base (env::outer)) (hf:env.frame=some L)
  (he:s.heap.get? e=some oe) (hkb:base.StaysIn s.heap) (hen:base.get? e=none) (hd:oe.data=.fields vs) (h1:vs[1]?=some .none) (h0:Φ oe)
  (h:∀h',GoX base (env::outer) e Φ .none s.heap h'->Q () { s with heap:=h' }):wpAny M A (leaving env (.ref e)) Q E s:=by
 unfold leaving noteFrame;simp only[hf];refine wpAny_bind (wpAny_bind (wpAny_field he hd h1 ?_));rw[if_neg (by decide)];exact v8 st hfr hl hf he hkb hen hd (Array.getElem?_eq_some_iff.mp h1).1 h0 fun h2 ⟨g1,g2,g3,g4⟩=>oF g1 g2 g3 fun h3 ⟨k1,k2,k3,k4⟩=>h h3 ⟨k1,k2,k3,g4.trans k4⟩
theorem A3(st:lK Φ) (hfr:A.frames=some (env::outer)) (hl:s.heap.FunFrames base (env::outer)) (hf:env.frame=some L) (ht:AD s.heap base e Φ .none) (hkb:base.StaysIn s.heap) (hen:base.get? e=none)
  (h:∀h',GoX base (env::outer) e Φ (rawInt L) s.heap h'->Q () { s with heap:=h' }):wpAny M A (noteFrame (.ref e) env) Q E s:=by
 obtain⟨oe,vs,T,oT,ts,he,h0,hd,h1,hnT,hTe,hT,hdT,h3⟩:=ht;unfold noteFrame;simp only[hf];refine wpAny_bind (wpAny_field he hd h1 ?_);rw[if_pos (show(Value.ref T != Value.none)=true from by simp)];refine wpAny_bind (wpAny_field hT hdT h3 ?_);rw[if_neg (show ¬ ((Value.none==rawInt L)=true)from by simp[rawInt])];refine wpAny_bind (wpAny_setField hT hdT (Array.getElem?_eq_some_iff.mp h3).1 ?_);have other:∀b,b≠T->(s.heap.update T (Obj.mapFields (·.setIfInBounds 3 Value.none))).get? b=s.heap.get? b:=fun b hb=>Heap.get?_update_other _ _ (Ne.symm hb);have noRec:∀b o,s.heap.get? b=some o->(∀vs,o.data≠.fields vs)->b≠T:=fun b o hb hnf q=>by
  rw[q,hT]at hb;cases hb;exact hnf ts hdT
 refine v8 st hfr (hl.of_keeps fun b o hb hnf=>⟨o,(other b (noRec b o hb hnf)).trans hb,rfl⟩) hf ((other e (Ne.symm hTe)).trans he)
  (fun b o hbo=>(other b fun q=>by rw[q,hnT]at hbo;cases hbo).trans (hkb b o hbo)) hen hd (Array.getElem?_eq_some_iff.mp h1).1 h0
  fun h' ⟨x1,x2,x3,x4⟩=>h h' ⟨x1,x2,x3,fun b o hb hnf=>x4 b o ((other b (noRec b o hb hnf)).trans hb) hnf⟩
theorem rK(st:lK Φ) (hfr:A.frames=some (env::outer)) (hl:s.heap.FunFrames base (env::outer)) (hf:env.frame=some L) (ht:AD s.heap base e Φ .none) (hkb:base.StaysIn s.heap) (hen:base.get? e=none)
  (h:∀h',GoX base (env::outer) e Φ .none s.heap h'->Q () { s with heap:=h' }):wpAny M A (leaving env (.ref e)) Q E s:=by
 unfold leaving;exact wpAny_bind (A3 st hfr hl hf ht hkb hen fun h2 ⟨g1,g2,g3,g4⟩=>oF g1 g2 g3 fun h3 ⟨k1,k2,k3,k4⟩=>h h3 ⟨k1,k2,k3,g4.trans k4⟩)
end
theorem sD{M:Model}{A:Around}{E:Value->Shared->Prop}{env:Env}{nm q:Str}{C N:Addr}{bs bm:List Value}{hdct:Bool}{sn:List Str}{sub:List Value}{ab:Bool}{col:Option Bool}{dd:Option Addr}
  {k0 k1 k2 k3 k5:Option Value} {newId:String} {s:Shared} {x:Expr} {pos:Pos} {Q:Flow->Shared->Prop} (jv:bm.contains (Value.type "BaseException")=true) (hh:A.handled=none)
  (h:wpAny M A (eval x env) (fun v s₁ => ∃ e od a0 osl,v = Value.ref e ∧ s₁.heap.get? C = some (excClassObj nm q C N bs bm hdct sn sub ab col dd k0 k1 k2 k3 k5 newId) ∧
   s₁.heap.get? e=some { cls:=Value.ref C,dict:=od,data:=Data.fields #[a0,Value.none,Value.none,Value.none,Value.bool false,Value.none],slots:=osl }/\E (Value.ref e) s₁) E s) :
  wpAny M A (exec (Stmt.Raise (some x) none pos) env) Q E s:=by
 have hcB:(Value.ref C::bm).contains (Value.type "BaseException")=true:=by
  rw[List.contains_cons,jv,Bool.or_true]
 rw[arm_exec_Raise];show wpAny _ _ (Bind.bind _ _) _ _ _;refine wpAny_bind ?_;refine wpAny_standAt ?_;show wpAny _ _ (Bind.bind _ _) _ _ _;refine wpAny_bind (wpAny_bind (wpAny_mono h (fun v s₁ h₁=>?_) fun _ _ z=>z));obtain⟨e,od,a0,osl,rfl,hC,he,hE⟩:=h₁;obtain⟨hp,g,d,tk,os⟩:=s₁;dsimp only at hC he;refine wpAny_bind (wpAny_standAt (wpAny_pure ?_));refine wpAny_bind (wpAny_pure (wpAny_bind (wpAny_holding ?_)));show wpAny _ _ (Bind.bind _ _) _ _ _;refine wpAny_bind ?_;show wpAny _ _ (Bind.bind _ _) _ _ _;refine wpAny_bind ?_;show wpAny _ _ (Bind.bind _ _) _ _ _;refine wpAny_bind ?_;refine wpAny_loadPart_at he (wpAny_pure (wpAny_ite_false ?_ (wpAny_pure (wpAny_ite_false (Eq.refl (decide (false=true))) ?_))))
 ·rfl
 refine wpAny_bind ?_;show wpAny _ _ (Bind.bind _ _) _ _ _;refine wpAny_bind ?_;show wpAny _ _ (Bind.bind _ _) _ _ _;refine wpAny_bind (wpAny_loadPart_at he (wpAny_pure (wpAny_isSubtype_exc hC ?_)));rw[hcB];refine wpAny_ite_true (Eq.refl (decide (true=true))) (wpAny_pure (wpAny_bind ?_));show wpAny _ _ (Bind.bind _ _) _ _ _;refine wpAny_bind ?_;refine wpAny_loadPart_at he (wpAny_pure (wpAny_ite_false ?_ (wpAny_bind ?_)))
 ·rfl
 show wpAny _ _ (Bind.bind _ _) _ _ _;refine wpAny_bind ?_;show wpAny _ _ (Bind.bind _ _) _ _ _;refine wpAny_bind (wpAny_loadPart_at he (wpAny_pure (wpAny_bind ?_)));show wpAny _ _ (Bind.bind _ _) _ _ _;refine wpAny_bind (wpAny_loadPart_at hC (wpAny_pure (wpAny_ite_true ?_ (wpAny_pure (wpAny_bind ?_)))))
 ·rfl
 show wpAny _ _ (Bind.bind _ _) _ _ _;refine wpAny_bind ?_;show wpAny _ _ (Bind.bind _ _) _ _ _;refine wpAny_bind ?_;show wpAny _ _ (Bind.bind _ _) _ _ _;refine wpAny_bind (wpAny_load' he (wpAny_pure (wpAny_pure (wpAny_ite_false ?_ (wpAny_pure (wpAny_raiseNew_none hh hE))))));rfl
abbrev veM:List Value:=[.type "ValueError",.type "Exception",.type "BaseException",.type "object"]
def B8(C e:Addr) (h:Heap):Prop:=∃od a0 osl,h.get? e=some { cls:=.ref C,dict:=od,data:=.fields #[a0,.none,.none,.none,.bool false,.none],slots:=osl }
structure Az(K:PySem.W.Frag) (mg:Str->Option Value) (xC xW fld:Str) (C W fI:Addr):Prop where
 gC:mg xC=some (.ref C)
 gW:mg xW=some (.ref W)
 kC:PySem.W.keepIn K (.ref C)=true
 lC:∃nm q N bs sn sub ab col dd k0 k1 k2 k3 k5,K.lookup C=some (excClassObj nm q C N bs [.ref W,.type "ValueError",.type "Exception",.type "BaseException",.type "object"] true sn sub ab col dd k0 k1 k2 k3 k5 "ValueError.__new__")
 iC:PySem.W.findIn K (.ref C) "__init__"=some (some (.ref fI))
 lW:∃c0 dW cdW slW cN dN es ep sN,K.lookup W=some ⟨c0,dW,.cls cdW,slW⟩/\K.lookup cdW.ns=some ⟨cN,dN,.dict es ep,sN⟩/\es.toList.all (fun e=>e.key.isStr "__init__"==false&&match e.key with|.str _ _=>true|_=>false)=true
 sW:PySem.W.specialIn K (.ref W) "__getattribute__"=some (some (.builtin "type.__getattribute__"))
 rW:PySem.W.readsIn K W (.type "type")=true
 fW:PySem.W.findCls K (.ref W) (.type "type") "__init__"=some (.val (.builtin "ValueError.__init__"))
 sC:PySem.W.findIn K (.ref C) "__setattr__"=some (some (.builtin "object.__setattr__"))
 mC:PySem.W.mroIn K C (.type "object")=some true
 tC:PySem.W.findIn K (.ref C) fld=some none
theorem Az.tail{K:PySem.W.Frag}{mg:Str->Option Value}{xC xW fld:Str}{C W fI:Addr}{h:Heap}(Y:Az K mg xC xW fld C W fI) (KX:K.In h):OwnTail h veM (.ref W::veM):=by
 obtain⟨c0,dW,cdW,slW,cN,dN,es,ep,sN,h1,h2,h3⟩:=Y.lW;rw[List.all_eq_true]at h3;refine OwnTail.own (KX _ _ h1) (mA:=nsFind es) ⟨_,es,ep,KX _ _ h2,rfl,fun e he=>?_,fun _=>rfl⟩ ?_ OwnTail.base
 ·have:=h3 e (by simpa using he);rw[Bool.and_eq_true]at this;cases q:e.key with
  |str n t=>exact⟨n,t,rfl⟩
  |_=>rw[q]at this;simp at this
 ·unfold nsFind findBy;rw[Option.map_eq_none_iff,Array.find?_eq_none];intro e he;have:=h3 e (by simpa using he);rw[Bool.and_eq_true]at this;simpa using this.1
section
variable{X:Cx}{xC xW fld:Str}{C W fI:Addr}{aa:List (Addr×Obj)}{σ:St}{H:Hp}{s:Shared}
def tRs(XW:Hp->Prop) (te:TE):TS:=fun _ σ H=>te σ H fun x H1=>[x].length=1/\XW H1
end
theorem bq.is{P:Program}{w:World}{H:Hp}{h:Heap}{a:Addr}{o:HO}(x:bq P w H h a o):∃u,h.get? a=some u:=by
 cases o with
 |lst xs=>obtain⟨_,_,_,_,e⟩:=x;exact⟨_,e⟩
 |tup xs=>obtain⟨_,_,_,ob,e,_⟩:=x;exact⟨_,e⟩
 |dK kvs=>obtain⟨_,_,_,_,o,_,_,e,_⟩:=x;exact⟨_,e⟩
 |dT kvs=>obtain⟨_,_,_,_,o,_,_,e,_⟩:=x;exact⟨_,e⟩
 |set S n=>obtain⟨o,_,_,_,e,_⟩:=x;exact⟨_,e⟩
 |ins C dx fs=>obtain⟨_,_,_,e,_⟩:=x;exact⟨_,e⟩
 |own y=>exact x
 |xd fs=>obtain⟨_,⟨_,_,_,e,_⟩,_⟩:=x;exact⟨_,e⟩
 |rng lo hi=>obtain⟨_,_,_,e⟩:=x;exact⟨_,e⟩
 |frz ob u=>obtain⟨e,_⟩:=x;exact⟨_,e⟩
 |tbl ps=>exact⟨_,x⟩
 |met f y=>exact⟨_,x⟩
 |ext φ=>exact x.2.1
def ExF(C:Addr) (o:Obj):Prop:=o.cls=.ref C/\∃vs,o.data=.fields vs/\vs[2]?=some .none
theorem il{C:Addr}:lK (ExF C):=fun o v ⟨h1,vs,h2,h3⟩=>⟨(Obj.cls_mapFields _ _).trans h1,_,Obj.data_mapFields h2 _,by rw[Array.getElem?_setIfInBounds_ne (by decide)];exact h3⟩
def DJ(C a T:Addr) (h0 h:Heap):Prop:=∃oe vs oT ts,h.get? a=some oe/\ExF C oe/\oe.data=.fields vs/\vs[1]?=some (.ref T)/\h0.get? T=none/\T≠a/\h.get? T=some oT/\oT.data=.fields ts/\ts[3]?=some .none
def CX1(P:Program) (w:World) (C:Addr):CXT:=fun outer H s E e s'=>∃a T H',e=.ref a/\s'.os=s.os/\AllBare s'.gens/\Un (frs outer) [] H H' s.heap s'.heap/\HOk P w H' s'.heap/\s.heap.get? a=none/\H' a=none/\H' T=none/\DJ C a T s.heap s'.heap/\E (.ref C) none H'
section
variable{P:Program}{w:World}{K:PySem.W.Frag}{mg:Str->Option Value}{base:Heap}{N:List Str}{qual:Str}{scope:Scope}{f:Addr}{cd:Value}{A:Around}{outer:List Env}{s:Shared}{H:Hp}{E:XK}{C:Addr}
theorem BM{aa:List (Addr×Obj)}{σ:St}{H1:Hp}{s1:Shared}{a:Addr}(I:Inv (iK (CX1 P w C) P w K mg base N qual scope f cd A outer s H E) aa σ H1 s1) (q:E (.ref C) none H1) (hn:H1 a=none) (x:B8 C a s1.heap) (h0:s.heap.get? a=none) :
  (iK (CX1 P w C) P w K mg base N qual scope f cd A outer s H E).xe (.ref a) s1:=by
 obtain⟨od,a0,osl,g⟩:=x;have hst:=I.stack;have hfr:∀b∈frs (envOfC qual scope s.heap.objs.size f cd::outer),∃o,s1.heap.get? b=some o/\∀vs:Array Value,o.data≠Data.fields vs:=fun b hb=>(hst.mem hb).2;have hany:a∉frs (envOfC qual scope s.heap.objs.size f cd::outer):=fun hb=>by
  obtain⟨o,e,d⟩:=hfr a hb;rw[g]at e;cases e;exact d _ rfl
 refine qE il (base:=PySem.W.hideAll s1.heap (a::frs (envOfC qual scope s.heap.objs.size f cd::outer))) I.ok.frames ?_ (L:=s.heap.objs.size) rfl g ?_ ?_ rfl rfl ⟨rfl,_,rfl,rfl⟩ fun h' lf=>?_
 ·exact PySem.W.funFrames_hide hst fun env he b hb=>List.mem_cons_of_mem _ (List.mem_filterMap.mpr ⟨env,he,hb⟩)
 ·exact fun b o e=>PySem.W.of_hideAll _ e
 ·exact PySem.W.hideAll_none _ List.mem_cons_self
 obtain⟨st,ff,⟨oe,vs,T,oT,ts,t1,t2,t3,t4,t5,t6,t7,t8,t9⟩,up⟩:=lf;have keep:∀b o,s1.heap.get? b=some o->b≠a->b∉frs (envOfC qual scope s.heap.objs.size f cd::outer)->h'.get? b=some o:=fun b o e hb hf=>st b o (PySem.W.hideAll_get _ e (fun z=>(List.mem_cons.mp z).elim hb hf));have hT:s1.heap.get? T=none:=by
  cases e:s1.heap.get? T with
  |none=>rfl
  |some o =>
   by_cases hf:T∈frs (envOfC qual scope s.heap.objs.size f cd::outer)
   ·obtain⟨o',e',d'⟩:=hfr T hf;obtain⟨sl,e2⟩:=up T o' e' d';rw[t7]at e2;cases e2;exact absurd t8 (d' ts)
   ·rw[PySem.W.hideAll_get _ e (fun z=>(List.mem_cons.mp z).elim t6 hf)]at t5;cases t5
 have un:Un (frs outer) [] H H1 s.heap s1.heap:=I.base;have hfree:∀b∈frs (envOfC qual scope s.heap.objs.size f cd::outer),H1 b=none:=I.stkFree;have hsz:∀b o,s.heap.get? b=some o->b∈frs (envOfC qual scope s.heap.objs.size f cd::outer)->b∈frs outer:=fun b o e hb=>by
  rcases List.mem_cons.mp hb with z|z
  ·subst z;exact absurd (Heap.lt_size e) (Nat.lt_irrefl _)
  ·exact z
 refine⟨a,T,H1,rfl,I.os,I.bare,⟨fun b o e n h1 h2=>?_,fun b o e n h1 h2=>?_,fun b o e n h2=>un.free b o e n h2,fun b o e h2=>?_,un.tups,un.frzs,un.tbls⟩,fun b o e=>?_,h0,hn,?_,⟨oe,vs,oT,ts,t1,t2,t3,t4,?_,t6,t7,t8,t9⟩,q⟩
 ·exact keep b o (un.keep b o e n h1 h2) (fun z=>by rw[z,h0]at e;cases e) fun z=>h1 (hsz b o e z)
 ·obtain⟨sl,e1⟩:=un.slot b o e n h1 h2;obtain⟨o',e',d'⟩:=hfr b (List.mem_cons_of_mem _ h1);rw[e1]at e';cases e';obtain⟨sl',e2⟩:=up b _ e1 d';exact⟨sl',e2⟩
 ·obtain⟨o1,e1⟩:=un.there b o e h2
  by_cases hf:b∈frs (envOfC qual scope s.heap.objs.size f cd::outer)
  ·obtain⟨o',e',d'⟩:=hfr b hf;obtain⟨sl',e2⟩:=up b _ e' d';exact⟨_,e2⟩
  ·exact⟨o1,keep b o1 e1 (fun z=>by rw[z,h0]at e;cases e) hf⟩
 ·refine(I.hok b o e).stay (fun c v hc r=>keep c v r ?_ ?_) (fun c r=>r) fun c xs r=>r
  ·rintro rfl;rcases hc with rfl|hc
   ·rw[hn]at e;cases e
   ·rw[hn]at hc;cases hc
  ·intro hf;have:=hfree c hf;rcases hc with rfl|hc
   ·rw[this]at e;cases e
   ·rw[this]at hc;cases hc
 ·cases e:H1 T with
  |none=>rfl
  |some o =>
   obtain⟨o1,e1⟩:=(I.hok T o e).is;rw[hT]at e1;cases e1
 ·cases e:s.heap.get? T with
  |none=>rfl
  |some o =>
   obtain⟨o1,e1⟩:=un.there T o e (by simp);rw[hT]at e1;cases e1
end
def xD:D:=.box (.dk [.inl 0]) []
theorem CP{K:PySem.W.Frag}{M:DH}{H:Hp}{v:V}:¬ Rep K M H xD v:=fun h=>by
 obtain⟨a,vs,_,⟨hl,_⟩,r⟩:=h;simp only[aj]at r;subst r;cases hl
def D1(K:PySem.W.Frag) (XW:Hp->Prop) (t:TSd):TS:=fun D σ H=>∃(Δ:DE) (M:DH) (E:dU),SR K M H σ Δ/\HR K M H/\t E Δ M/\UpE K E D M H/\∀M' H',E.rt xD M'->Ext M H M' H'->HR K M' H'->XW H'
def PSx(X:Cx) (XW:Hp->Prop) (st:Stmt) (t:TSd):Prop:=PS X st (D1 X.K XW t)
def rF(X:Cx) (XW:Hp->Prop) (st:List Stmt) (t:TSd):Prop:=PSs X st (D1 X.K XW t)
section
variable{X:Cx}{XW:Hp->Prop}{a b c e:Expr}{te:TEd}{pos:Pos}{st:Stmt}{aH:List Stmt}{t u:TSd}{xC xW fld:Str}{C W fI:Addr}
theorem Ei(h:QSd X st t):PSx X XW st t:=by
 rw[QSd.eq]at h;exact PS.conv h fun D σ H ⟨Δ,M,E,sr,hr,q,k,_⟩=>⟨Δ,M,E,sr,hr,q,k⟩
theorem CD:rF X XW [] rm:=uG.conv fun D σ H ⟨Δ,M,E,sr,hr,q,u,_⟩=>u.nx Δ M σ H q (Ext.refl _ _) hr sr
theorem uH(h1:PSx X XW st t) (h2:rF X XW aH u):rF X XW (st::aH) (Dx t u) :=
 (qY h1 h2).conv fun D σ H ⟨Δ,M,E,sr,hr,q,k,x⟩=>⟨Δ,M,{ E with nx:=u E },sr,hr,q,⟨fun Δ' M' σ' H' q' e' hr' sr'=>⟨Δ',M',E,sr',hr',q',k.ext e',fun M'' H'' z1 z2 z3=>x M'' H'' z1 (e'.trans z2) z3⟩,k.bk,k.ct,k.rt⟩,x⟩
theorem sh(h1:PSx X XW st t):rF X XW [st] t:=uo h1
theorem Gw{sa sb:List Stmt}{tc:TTd}(hc:QTd X c tc) (ha:rF X XW sa t) (hb:rF X XW sb u):PSx X XW (.If c sa sb pos) (xS tc t u):=by
 rw[QTd.eq]at hc;exact(A0 hc ha hb).conv fun D σ H ⟨Δ,M,E,sr,hr,q,k,x⟩=>⟨Δ,M,_,sr,hr,q,fun b M1 H1 q1 e1 hr1=>by
  cases b with
  |true=>simp only[if_true]at q1 ⊢;exact⟨Δ,M1,E,sr.ext e1,hr1,q1,k.ext e1,fun M'' H'' z1 z2 z3=>x M'' H'' z1 (e1.trans z2) z3⟩
  |false=>simp only[Bool.false_eq_true,if_false]at q1 ⊢;exact⟨Δ,M1,E,sr.ext e1,hr1,q1,k.ext e1,fun M'' H'' z1 z2 z3=>x M'' H'' z1 (e1.trans z2) z3⟩⟩
def yn(te:TEd):TSd:=fun E Δ M=>te Δ M fun _ M1=>∃M2,LeM M2 M1/\E.rt xD M2
end
def spX(K:PySem.W.Frag) (n:Nat) (S:SpD) (C:Addr):Sp:=fun vs H Q E=>∃(ds:List D) (M:DH) (R:D->DH->Prop),ds.length=n/\aj K M H ds vs/\HR K M H/\S ds M R/\(∀d M' v H',R d M'->Ext M H M' H'->HR K M' H'->Rep K M' H' d v->Q v H') /\
 ∀M' H',R xD M'->Ext M H M' H'->HR K M' H'->E (.ref C) none H'
section
variable{P:Program}{w:World}{K:PySem.W.Frag}{mg:Str->Option Value}{base:Heap}{f:Addr}{fd:FuncData}
theorem Fun.okX{x qual:Str}{st:Stmt}{f:Addr}{fd:FuncData}{N ps:List Str}{k n:Nat}{S:SpD}{C:Addr}(F:Fun K x qual st f fd) (hn:ps.length=n) (Sc:aq N ps (ag st))
  (hbody:∀ (cdv:Value) (A:Around) (outer:List Env) (s:Shared) (H:Hp) (E:XK),cw k (A.deeper (envOfC qual (ag st) s.heap.objs.size f cdv)) →
   ∃t:TSd,rF (iK (CX1 P w C) P w K mg base N qual (ag st) f cdv A outer s H E) (fun H'=>E (.ref C) none H') (cx st) t/\∀ds M R,ds.length=n->S ds M R->t { nx:=fun _ M'=>R .non M',rt:=R } (fc N ds) M):aQ P w K mg base (CX1 P w C) (k+1) f fd ps (spX K n S C):=by
 obtain⟨oc,od,kV,doc,pm,an,cdv,ct,osl,rfl,lk,hcd⟩:=F.ex;refine AY lk hcd Sc (fun vs H Q E h=>?_) fun A outer s H vs Q E hr h=>?_
 ·obtain⟨ds,M,R,hl,r,_⟩:=h;rw[hn,<-r.length];exact hl
 obtain⟨t,ht,hq⟩:=hbody cdv A outer s H E hr;obtain⟨ds,M,R,hl,r,hrr,q,k',kx⟩:=h;exact⟨_,ht,fc N ds,M,_,qN r,hrr,hq ds M R hl q,⟨fun Δ' M' σ' H' q' e' hr' _=>k' .non M' .non H' q' e' hr' (by simp[Rep]),fun _ _ _ _ q'=>False.elim q',fun _ _ _ _ q'=>False.elim q',fun d M' v H' q' e' hr' rv=>k' d M' v H' q' e' hr' rv⟩,kx⟩
end
structure FnX(P:Program) (w:World) (K:PySem.W.Frag) (mg:Str->Option Value) (base:Heap) (x:Str) (k n:Nat) (S:SpD) (C:Addr):Prop where
 ex:∃(f:Addr) (fd:FuncData) (ps:List Str),aQ P w K mg base (CX1 P w C) k f fd ps (spX K n S C)/\mg x=some (.ref f)/\PySem.W.keepIn K (.ref f)=true/\c9 K fd ps []
section
variable{X:Cx}{aa:List (Addr×Obj)}{σ:St}{H1 H':Hp}{s1 s':Shared}{C a T:Addr}
theorem pJ{h:Heap}{Z:List Addr}(I1:Inv X aa σ H1 s1) (os:s'.os=s1.os) (bare:AllBare s'.gens) (un:Un (frs X.stack) [] H1 H' s1.heap s'.heap) (hok:HOk X.prog X.w H' s'.heap)
  (kp:∀b o,s'.heap.get? b=some o->b∉Z->b∉frs X.stack->h.get? b=some o) (fr:∀b o,b∈frs X.stack->s'.heap.get? b=some o->∃sl,h.get? b=some { o with slots:=sl })
  (hz:∀b∈Z,s1.heap.get? b=none/\H' b=none):Inv X aa σ H' { s' with heap:=h }:=by
 have I':Inv X aa σ H' s':=I1.call' (ch:=[]) os un hok bare fun b z=>absurd z (by simp);have hfree:=I'.stkFree;have nz:∀{b o},s1.heap.get? b=some o->b∉Z:=fun {b o} e z=>by rw[(hz b z).1]at e;cases e
 refine I1.call' (s':={ s' with heap:=h }) (ch:=[]) os ⟨fun b o e n h1 h2=>kp b o (un.keep b o e n h1 h2) (nz e) h1,fun b o e n h1 h2=>?_,un.free,fun b o e h2=>?_,un.tups,un.frzs,un.tbls⟩ (fun b o e=>?_) bare fun b z=>absurd z (by simp)
 ·obtain⟨sl,e1⟩:=un.slot b o e n h1 h2;obtain⟨sl',e2⟩:=fr b _ h1 e1;exact⟨sl',e2⟩
 ·obtain⟨o1,e1⟩:=un.there b o e h2
  by_cases hf:b∈frs X.stack
  ·obtain⟨sl',e2⟩:=fr b _ hf e1;exact⟨_,e2⟩
  ·exact⟨o1,kp b o1 e1 (nz e) hf⟩
 ·refine(hok b o e).stay (fun c v hc r=>kp c v r (fun z=>?_) (fun z=>?_)) (fun c r=>r) fun c xs r=>r
  ·have:=(hz c z).2;rcases hc with rfl|hc
   ·rw[this]at e;cases e
   ·rw[this]at hc;cases hc
  ·have:=hfree c z;rcases hc with rfl|hc
   ·rw[this]at e;cases e
   ·rw[this]at hc;cases hc
end
theorem Az.cls{K:PySem.W.Frag}{mg:Str->Option Value}{xC xW fld:Str}{C W fI:Addr}(Y:Az K mg xC xW fld C W fI):∃nm q N bs bm hd sn sub ab col dd k0 k1 k2 k3 k5 newId,K.lookup C=some (excClassObj nm q C N bs bm hd sn sub ab col dd k0 k1 k2 k3 k5 newId)/\bm.contains (.type "BaseException")=true:=by
 obtain⟨nm,q,N,bs,sn,sub,ab,col,dd,k0,k1,k2,k3,k5,lC⟩:=Y.lC;exact⟨nm,q,N,bs,_,_,sn,sub,ab,col,dd,k0,k1,k2,k3,k5,_,lC,rfl⟩
section
variable{P:Program}{w:World}{K:PySem.W.Frag}{mg:Str->Option Value}{base:Heap}{N:List Str}{qual:Str}{scope:Scope}{f:Addr}{cd:Value}{A:Around}{outer:List Env}{s:Shared}{H:Hp}{E:XK}{C:Addr}
theorem Ef:lw (CX1 P w C) (iK (CX1 P w C) P w K mg base N qual scope f cd A outer s H E) (fun _ _ H'=>E (.ref C) none H'):=by
 intro aa σ H1 s1 e s' I h;obtain⟨a,T,H',rfl,os,bare,un1,hok,h0,hna,hnT,fl,qx⟩:=h;have I':Inv (iK (CX1 P w C) P w K mg base N qual scope f cd A outer s H E) aa σ H' s':=I.call' (ch:=[]) os un1 hok bare fun b z=>absurd z (by simp);obtain⟨oe,vs,oT,ts,f1,f2,f3,f4,f5,f6,f7,f8,f9⟩:=fl;have hst:=I'.stack;have hfr:∀b∈frs (envOfC qual scope s.heap.objs.size f cd::outer),∃o,s'.heap.get? b=some o/\∀vs:Array Value,o.data≠Data.fields vs:=fun b hb=>(hst.mem hb).2;have g0:s.heap.get? a=none:=by
  cases e:s.heap.get? a with
  |none=>rfl
  |some o =>
   obtain⟨o1,e1⟩:=I.base.there a o e (fun z=>nomatch z);rw[h0]at e1;cases e1
 have gT:s.heap.get? T=none:=by
  cases e:s.heap.get? T with
  |none=>rfl
  |some o =>
   obtain⟨o1,e1⟩:=I.base.there T o e (fun z=>nomatch z);rw[f5]at e1;cases e1
 refine rK il (base:=PySem.W.hideAll s'.heap (a::T::frs (envOfC qual scope s.heap.objs.size f cd::outer))) I'.ok.frames
  (PySem.W.funFrames_hide hst fun env he b hb=>List.mem_cons_of_mem _ (List.mem_cons_of_mem _ (List.mem_filterMap.mpr ⟨env,he,hb⟩))) (L:=s.heap.objs.size) rfl
  ⟨oe,vs,T,oT,ts,f1,f2,f3,f4,PySem.W.hideAll_none _ (by simp),f6,f7,f8,f9⟩ (fun b o e=>PySem.W.of_hideAll _ e) (PySem.W.hideAll_none _ (by simp)) fun h' fly=>?_
 obtain⟨st,ff,⟨oe2,vs2,T2,oT2,ts2,t1,t2,t3,t4,t5,t6,t7,t8,t9⟩,up⟩:=fly;have keep:∀b o,s'.heap.get? b=some o->b≠a->b≠T->b∉frs (envOfC qual scope s.heap.objs.size f cd::outer)->h'.get? b=some o:=fun b o e hb hb2 hf=>st b o (PySem.W.hideAll_get _ e (fun z=>by
  rcases List.mem_cons.mp z with z|z
  ·exact hb z
  rcases List.mem_cons.mp z with z|z
  ·exact hb2 z
  ·exact hf z))
 have hT2:T2=T∨s'.heap.get? T2=none:=by
  by_cases z:T2=T
  ·exact .inl z
  ·right;cases e:s'.heap.get? T2 with
   |none=>rfl
   |some o =>
    by_cases hf:T2∈frs (envOfC qual scope s.heap.objs.size f cd::outer)
    ·obtain⟨o',e',d'⟩:=hfr T2 hf;obtain⟨sl,e2⟩:=up T2 o' e' d';rw[t7]at e2;cases e2;exact absurd t8 (d' ts2)
    ·rw[PySem.W.hideAll_get _ e (fun z'=>by
      rcases List.mem_cons.mp z' with z'|z'
      ·exact t6 z'
      rcases List.mem_cons.mp z' with z'|z'
      ·exact z z'
      ·exact hf z')]at t5
     cases t5
 have un:Un (frs outer) [] H H' s.heap s'.heap:=I'.base;have hfree:∀b∈frs (envOfC qual scope s.heap.objs.size f cd::outer),H' b=none:=I'.stkFree;have hsz:∀b o,s.heap.get? b=some o->b∈frs (envOfC qual scope s.heap.objs.size f cd::outer)->b∈frs outer:=fun b o e hb=>by
  rcases List.mem_cons.mp hb with z|z
  ·subst z;exact absurd (Heap.lt_size e) (Nat.lt_irrefl _)
  ·exact z
 have na:∀{b o},s.heap.get? b=some o->b≠a:=fun e z=>by rw[z,g0]at e;cases e
 have nT:∀{b o},s.heap.get? b=some o->b≠T:=fun e z=>by rw[z,gT]at e;cases e
 refine⟨a,T2,H',rfl,I'.os,I'.bare,⟨fun b o e n h1 h2=>?_,fun b o e n h1 h2=>?_,fun b o e n h2=>un.free b o e n h2,fun b o e h2=>?_,un.tups,un.frzs,un.tbls⟩,fun b o e=>?_,g0,hna,?_,⟨oe2,vs2,oT2,ts2,t1,t2,t3,t4,?_,t6,t7,t8,t9⟩,qx⟩
 ·exact keep b o (un.keep b o e n h1 h2) (na e) (nT e) fun z=>h1 (hsz b o e z)
 ·obtain⟨sl,e1⟩:=un.slot b o e n h1 h2;obtain⟨o',e',d'⟩:=hfr b (List.mem_cons_of_mem _ h1);rw[e1]at e';cases e';obtain⟨sl',e2⟩:=up b _ e1 d';exact⟨sl',e2⟩
 ·obtain⟨o1,e1⟩:=un.there b o e h2
  by_cases hf:b∈frs (envOfC qual scope s.heap.objs.size f cd::outer)
  ·obtain⟨o',e',d'⟩:=hfr b hf;obtain⟨sl',e2⟩:=up b _ e' d';exact⟨_,e2⟩
  ·exact⟨o1,keep b o1 e1 (na e) (nT e) hf⟩
 ·refine(I'.hok b o e).stay (fun c v hc r=>keep c v r ?_ ?_ ?_) (fun c r=>r) fun c xs r=>r
  ·rintro rfl;rcases hc with rfl|hc
   ·rw[hna]at e;cases e
   ·rw[hna]at hc;cases hc
  ·rintro rfl;rcases hc with rfl|hc
   ·rw[hnT]at e;cases e
   ·rw[hnT]at hc;cases hc
  ·intro hf;have:=hfree c hf;rcases hc with rfl|hc
   ·rw[this]at e;cases e
   ·rw[this]at hc;cases hc
 ·rcases hT2 with rfl|z
  ·exact hnT
  ·cases e:H' T2 with
   |none=>rfl
   |some o =>
    obtain⟨o1,e1⟩:=(I'.hok T2 o e).is;rw[z]at e1;cases e1
 ·rcases hT2 with rfl|z
  ·exact gT
  ·cases e:s.heap.get? T2 with
   |none=>rfl
   |some o =>
    obtain⟨o1,e1⟩:=un.there T2 o e (by simp);rw[z]at e1;cases e1
end
section
variable{X:Cx}{XW:Hp->Prop}{e:Expr}{es:List Expr}{t:TAd}{S:SpD}{C:Addr}{fn:Str}
theorem CI{k n:Nat}{p2 p3 pos:Pos}(FX:FnX X.prog X.w X.K X.mg X.base fn k n S C) (hr:cw k X.A) (hgf:Gl X fn) (hx:lw (CX1 X.prog X.w C) X fun _ _ H'=>XW H') (ha:QAd X (e::es) t)
  (hdb:(fn==("__debug__":Str))=false:=by decide) (he:starEach (e::es) X.env=(false,eval e X.env)::starEach es X.env:=by rfl) (hpl:(backTo p3 (starEach es X.env)).any (·.1)=false:=by rfl) :
  PSx X XW (.Return (some (.Call (.Name fn p2) (e::es) [] p3)) pos) (BW (m9 n S t)):=by
 rw[QAd.eq]at ha;obtain⟨f,fd,ps,F,hmf,hkf,hbf⟩:=FX.ex;exact(oY (um F hr hgf hmf hkf hbf .nil hx ha hdb he hpl)).conv fun D σ H ⟨Δ,M,E,sr,hrr,q,kk,x⟩=>⟨Δ,M,_,sr,hrr,q,fun ds M1 vs H1 ⟨hl,q1⟩ e1 hr1 rv=>by
  dsimp only;rw[List.append_nil];exact⟨ds,M1,E.rt,hl,rv,hr1,q1,fun d M' v H' q' e' hr' rv'=>kk.rt d M' v H' q' (e1.trans e') hr' rv',fun M' H' q' e' hr'=>x M' H' q' (e1.trans e') hr'⟩⟩
end
structure CU(K:PySem.W.Frag) (mg:Str->Option Value) (xC:Str) (C W:Addr):Prop where
 gC:mg xC=some (.ref C)
 kC:PySem.W.keepIn K (.ref C)=true
 lC:∃nm q N bs hd sn sub ab col dd k0 k1 k2 k3 k5 cN dN es ep sN,K.lookup C=some (excClassObj nm q C N bs [.ref W,.type "ValueError",.type "Exception",.type "BaseException",.type "object"] hd sn sub ab col dd k0 k1 k2 k3 k5 "ValueError.__new__") /\
  K.lookup N=some ⟨cN,dN,.dict es ep,sN⟩/\es.toList.all (fun e=>e.key.isStr "__init__"==false&&match e.key with|.str _ _=>true|_=>false)=true
 lW:∃c0 dW cdW slW cN dN es ep sN,K.lookup W=some ⟨c0,dW,.cls cdW,slW⟩/\K.lookup cdW.ns=some ⟨cN,dN,.dict es ep,sN⟩/\es.toList.all (fun e=>e.key.isStr "__init__"==false&&match e.key with|.str _ _=>true|_=>false)=true
theorem nJ{h:Heap}{a:Addr}{cN:Value}{dN:Option Addr}{es:Array DictEntry}{ep:Nat}{sN:Array (Option Value)}(g:h.get? a=some ⟨cN,dN,.dict es ep,sN⟩)
  (h3:es.toList.all (fun e=>e.key.isStr "__init__"==false&&match e.key with|.str _ _=>true|_=>false)=true):h.Ns a (nsFind es)/\nsFind es "__init__"=none:=by
 rw[List.all_eq_true]at h3;refine⟨⟨_,es,ep,g,rfl,fun e he=>?_,fun _=>rfl⟩,?_⟩
 ·have:=h3 e (by simpa using he);rw[Bool.and_eq_true]at this;cases q:e.key with
  |str n t=>exact⟨n,t,rfl⟩
  |_=>rw[q]at this;simp at this
 ·unfold nsFind findBy;rw[Option.map_eq_none_iff,Array.find?_eq_none];intro e he;have:=h3 e (by simpa using he);rw[Bool.and_eq_true]at this;simpa using this.1
section
variable{X:Cx}{XW:Hp->Prop}{xC:Str}{C W:Addr}
theorem DM{e:Expr}{te:TE}{p pos pc:Pos}(Y:CU X.K X.mg xC C W) (hg:Gl X xC) (hc:X.calm=true) (he:PE X e te)
  (hx:∀aa σ H s a,Inv X aa σ H s->XW H->H a=none->B8 C a s.heap->X.s₀.heap.get? a=none->X.xe (.ref a) s)
  (hex:X.ex=[]:=by rfl) (hdb:(xC==("__debug__":Str))=false:=by decide) (hst:starEach [e] X.env=(false,eval e X.env)::starEach [] X.env:=by rfl) :
  PS X (.Raise (some (.Call (.Name xC p) [e] [] pc)) none pos) (tRs XW te):=by
 intro aa s σ H D I h;obtain⟨nm,q',N,bs,hd,sn,sub,ab,col,dd,k0,k1,k2,k3,k5,cN,dN,es,ep,sN,lC,lN,hN⟩:=Y.lC;obtain⟨c0,dW,cdW,slW,cN2,dN2,es2,ep2,sN2,w1,w2,w3⟩:=Y.lW;refine sD (C:=C) (bm:=[.ref W,.type "ValueError",.type "Exception",.type "BaseException",.type "object"]) (hdct:=hd) (nm:=nm) (q:=q') (N:=N) (bs:=bs) (sn:=sn) (sub:=sub) (ab:=ab) (col:=col) (dd:=dd) (k0:=k0) (k1:=k1) (k2:=k2) (k3:=k3) (k5:=k5) (newId:="ValueError.__new__") rfl (I.ok.hd hc) (wpAny_Call_Name_kw (kN I hg Y.gC ?_ hdb));have ha:PA X [e] (A9 te DQ):=cG he fO hst;refine PySem.W.callWith_K (h₀:=X.base) I.ok.mod.kin Y.kC (thn (ha pc aa s σ H (fun vs H1=>vs.length=1/\XW H1) I h) fun us s1 hs=>⟨?_,?_⟩) hst rfl
 ·obtain⟨vs,H1,I1,rv,_⟩:=hs;exact I1.kIn
 obtain⟨vs,H1,I1,rv,hl,q⟩:=hs;obtain⟨hp,gs,d,t,os⟩:=s1;have hul:us.length=1:=by rw[<-rv.length];exact hl
 obtain⟨n1,n2⟩:=nJ (I1.kIn _ _ lN) hN;obtain⟨n3,n4⟩:=nJ (I1.kIn _ _ w2) w3;refine wpAny_call_exc_subU PySem.F.excBase_ValueError (by decide) PySem.F.excBase_ValueError (OwnTail.own (I1.kIn _ _ w1) n3 n4 OwnTail.base) (I1.kIn _ _ lC) n1 n2 (fun h' a made=>?_) ?_
 ·obtain⟨kp,new,t',ge,_,_⟩:=made;have I2:Inv X aa σ H1 { heap:=h',gens:=gs,drawn:=d,toks:=t,os:=os }:=I1.kept (t':=t) kp;have hn1:H1 a=none:=by
   cases z:H1 a with
   |none=>rfl
   |some o =>
    obtain⟨o1,e1⟩:=(I1.hok a o z).is;rw[new]at e1;cases e1
  refine⟨a,_,_,_,rfl,I2.kIn _ _ lC,ge,hx aa σ H1 _ a I2 q hn1 ⟨_,_,_,ge⟩ ?_⟩;cases z:X.s₀.heap.get? a with
  |none=>rfl
  |some o =>
   obtain⟨o1,e1⟩:=I1.base.there a o z (by rw[hex];simp);rw[new]at e1;cases e1
 ·rw[List.nil_append,hul];exact Nat.le_of_lt (vi (by decide))
theorem Gs{e:Expr}{te:TEd}{p pos pc:Pos}(Y:CU X.K X.mg xC C W) (hg:Gl X xC) (hc:X.calm=true) (he:QEd X e te)
  (hx:∀aa σ H s a,Inv X aa σ H s->XW H->H a=none->B8 C a s.heap->X.s₀.heap.get? a=none->X.xe (.ref a) s)
  (hex:X.ex=[]:=by rfl) (hdb:(xC==("__debug__":Str))=false:=by decide) (hst:starEach [e] X.env=(false,eval e X.env)::starEach [] X.env:=by rfl) :
  PSx X XW (.Raise (some (.Call (.Name xC p) [e] [] pc)) none pos) (yn te):=by
 rw[QEd.eq]at he;exact(DM (XW:=XW) Y hg hc he hx hex hdb hst).conv fun D σ H ⟨Δ,M,E,sr,hr,q,k,x⟩=>⟨Δ,M,_,sr,hr,q,fun d M1 v H1 ⟨M2,hle,q1⟩ e1 hr1 _=>⟨rfl,x M2 H1 q1 (e1.trans (Ext.le hle)) (hr1.le hle)⟩⟩
end
theorem lT{α:Type}{p:α->Bool}:∀(l:List α) (i:Nat),(∀x,l[i]?=some x->p x=false)->(l.eraseIdx i).find? p=l.find? p
 |[],_,_=>rfl
 |a::l,0,h=>by simp[List.find?_cons,h a rfl]
 |a::l,i+1,h=>by
  simp only[List.eraseIdx_cons_succ,List.find?_cons];rw[lT l i (fun x e=>h x (by simpa using e))]
theorem qL{es:Array DictEntry}{name x:Str}{i:Nat}(hi:es.findIdx? (·.key.isStr name)=some i) (hx:x≠name):nsFind (es.eraseIdxIfInBounds i) x=nsFind es x:=by
 unfold nsFind findBy;rw[<-Array.find?_toList,<-Array.find?_toList];obtain⟨h1,h2,h3⟩:=Array.findIdx?_eq_some_iff_getElem.mp hi;rw[Array.eraseIdxIfInBounds,dif_pos h1,Array.toList_eraseIdx,lT];intro y e;rw[Array.getElem?_toList,Array.getElem?_eq_getElem h1]at e;cases e;have h2:es[i].key.isStr name=true:=h2;show es[i].key.isStr x=false;cases q:es[i].key<;>rw[q]at h2<;>simp only[Value.isStr]at h2 ⊢<;>first|(cases h2;done)|skip
 all_goals first|(rw[beq_iff_eq]at h2;rw[beq_eq_false_iff_ne];exact fun z=>hx (z.symm.trans h2))|rfl
section
variable{M:Model}{A:Around}{E:Value->Shared->Prop}{s:Shared}
theorem Da{a:Addr}{m}{name:Str}{Q:Bool->Shared->Prop}(hn:s.heap.Ns a m)
  (hQ:∀h' m',h'.Ns a m'->(∀x,x≠name->m' x=m x)->Heap.SameBut a s.heap h'->Q (m name).isSome { s with heap:=h' }):wpAny M A (nsDel a name) Q E s:=by
 obtain⟨o,es,ep,ho,hd,hk,hm⟩:=id hn;have hany:es.any (·.refKey)=false:=by
  rw[Array.any_eq_false'];intro e he;obtain⟨n,t,h⟩:=hk e he;simp[DictEntry.refKey,h]
 have hsome:(m name).isSome=es.any (·.key.isStr name):=by
  rw[<-hm name];simp only[nsFind,findBy,Option.isSome_map];rw[Bool.eq_iff_iff];simp only[Array.find?_isSome,Array.any_eq_true];constructor
  ·rintro⟨x,hx,hp⟩;obtain⟨i,hi,rfl⟩:=Array.mem_iff_getElem.mp hx;exact⟨i,hi,hp⟩
  ·rintro⟨i,hi,hp⟩;exact⟨_,Array.getElem_mem hi,hp⟩
 have hhas:nsHas name o=pure (es.any (·.key.isStr name)):=by
  rw[nsHas_eq];unfold nsHasByArray;rw[hd];show(if(es.any fun x=>x.key.isStr name)=true then _ else _)=_;generalize (es.any fun x=>x.key.isStr name)=b;cases b<;>simp[hany]
 unfold nsDel;refine wpAny_bind (wpAny_loadPart ho ?_);rw[hhas];refine wpAny_bind (wpAny_pure ?_);rw[<-hsome];cases hmn:(m name).isSome
 ·have:=hQ s.heap m hn (fun _ _=>rfl) (.refl ..);rw[hmn]at this;exact wpAny_pure this
 ·refine wpAny_bind (wpAny_updatePart ho (wpAny_pure ?_));have key:∃m',(s.heap.update a (Obj.dropName name)).Ns a m'/\∀x,x≠name->m' x=m x:=by
   obtain⟨cl,d,dt,sl⟩:=o;subst hd;cases hi:es.findIdx? (·.key.isStr name)with
   |some i=>exact⟨_,⟨_,_,ep+1,Heap.get?_update_self _ ho (by simp only[Obj.dropName_eq,Obj.dropNameByArray,hi]<;>rfl),(by simp only[Obj.dropName_eq,Obj.dropNameByArray,hi]<;>rfl),hk.erase i,fun _=>rfl⟩,fun x hx=>by rw[qL hi hx,hm]⟩
   |none=>exact⟨_,⟨_,_,ep,Heap.get?_update_self _ ho (by simp only[Obj.dropName_eq,Obj.dropNameByArray,hi]<;>rfl),(by simp only[Obj.dropName_eq,Obj.dropNameByArray,hi]<;>rfl),hk,fun _=>rfl⟩,fun x _=>hm x⟩
  obtain⟨m',hm',hx'⟩:=key;have:=hQ _ m' hm' hx' (Heap.SameBut.update ..);rw[hmn]at this;exact this
end
end L2
namespace L2
open PySem PySem.Spec PySem.Calls PyProof.Rows PySem.W PySem.Builtin PySem.Builtin.ObjectAttr PySem.Builtin.Getset_descriptor
def cL(C e:Addr) (h:Heap):Prop:=∃o,h.get? e=some o/\ExF C o
theorem Af{P:Program}{w:World}{H:Hp}{h:Heap}{C e:Addr}(x:cL C e h):bq P w H h e (.ext (cL C e)):=by
 obtain⟨o,g,r⟩:=x;exact⟨⟨o,g,r⟩,⟨_,g⟩,fun h1 h2 ⟨o,q,r⟩ k=>⟨o,k _ q,r⟩⟩
theorem cL.type{M:Model}{h:Heap}{C e:Addr}(x:cL C e h):Looks M h (typeOf (.ref e)) (.ref C):=by
 obtain⟨o,g,r,_⟩:=x;exact r▸(Looks.ld g).andThen .now
section
variable{prog:Program}{w:World}{A:Around}{E:Value->Shared->Prop}{s:Shared}{K:Frag}{x C D:Addr}{name:Str}
theorem xM{M:Model}{nameV:Value}{Q:Unit->Shared->Prop}(X:K.In s.heap) (I:cL D x s.heap) (hb:mroIn K D (.type "BaseException")=some true) (hq:Q () s) :
  wpAny M A (checkBuiltinCall "BaseException.__getattribute__" ⟨[.ref x,nameV],[]⟩) Q E s:=by
 obtain⟨hh,g,d,t,os⟩:=s;have hk:builtinKind "BaseException.__getattribute__"=some .slot:=by decide +kernel
 have hsplit:splitId "BaseException.__getattribute__"=some ("BaseException","__getattribute__"):=by decide +kernel
 have ha:=F.args_bexc_ga (.ref x) nameV;have L0:=I.type (M:=M);have L1:=looks_mroIn (M:=M) X hb;simp only[checkBuiltinCall,hk,hsplit];unfold isInstance;refine wpAny_bind (wpAny_bind (L0.at (L1.at ?_)));simp only[Bool.not_true,Bool.false_eq_true,if_false];cases hsig:Manifest.signature? "BaseException.__getattribute__" with
 |none=>exact wpAny_pure hq
 |some sig =>
  simp only[argsOk,hsig]at ha;have h2:Bind.checkArgs "BaseException.__getattribute__" sig ⟨[.ref x,nameV],[]⟩=pure ():=ha;show wpAny M A (Bind.checkArgs "BaseException.__getattribute__" sig ⟨[.ref x,nameV],[]⟩) Q E _;rw[h2];exact wpAny_pure hq
theorem AA{M:Model}{h:Heap}{a g:Value}(X:K.In h) (ha:findIn K (.ref D) name=some (some a)) (hg:specialIn K a "__get__"=some (some g)) (ht:takesIn K a=some true) :
  Looks M h (find (.ref x) (.ref D) name) (.bind g a):=by
 have L1:=looks_findIn (M:=M) X ha;have L2:Looks M h (getOf (some a)) (some g):=looks_specialIn X hg;have L3:=looks_takesIn (M:=M) X ht;refine L1.andThen (L2.andThen ?_);exact(show Looks M h (dataDescriptor? (some a) (some g)) (some (g,a))from L3.andThen .now).andThen (Looks.tag .now)
theorem xT{g a:Value}{tk:Tok}{P:Value->Shared->Prop}(X:K.In s.heap) (I:cL D x s.heap) (ha:findIn K (.ref D) name=some (some a)) (hg:specialIn K a "__get__"=some (some g)) (ht:takesIn K a=some true)
  (h:wpAny (model prog w) A (call g [a,.ref x,.ref D]) P E s) :
  wpAny (model prog w) A (Builtin.«object.__getattribute__» ⟨[.ref x,.str name tk],[]⟩) (fun fin s'=>match fin with|.done (.ret v)=>P v s'|_=>False) E s:=by
 obtain⟨hh,gg,d,t,os⟩:=s;have L0:=I.type (M:=model prog w);have L1:=AA (M:=model prog w) (x:=x) X ha hg ht;refine wpAny_bind (wpAny_pure (wpAny_bind (wpAny_pure (wpAny_bind (L0.at (wpAny_bind (L1.at ?_)))))));show wpAny _ _ (holding [a] (call g [a,.ref x,.ref D]) >>= ret) _ _ _;exact wpAny_bind (wpAny_holding (wpAny_mono h (fun v s' z=>wpAny_pure z) fun _ _ z=>z))
theorem zu{g a:Value}{Q:Option Value->Shared->Prop}(X:K.In s.heap) (I:cL D x s.heap) (hga:findIn K (.ref D) "__getattribute__"=some (some (.builtin "BaseException.__getattribute__"))) (hgk:findIn K (.ref D) "__getattr__"=some none) (hb:mroIn K D (.type "BaseException")=some true)
  (ha:findIn K (.ref D) name=some (some a)) (hg:specialIn K a "__get__"=some (some g)) (ht:takesIn K a=some true)
  (h:∀A A2,wpAny (model prog w) A (call g [a,.ref x,.ref D]) (fun v s'=>wpAny (model prog w) A2 (handedOut v) (fun v s''=>Q (some v) s'') (fun _ _=>False) s') (fun _ _=>False) { s with toks:=s.toks+1 }) :
  wpAny (model prog w) A (getAttr? (.ref x) name) Q E s:=by
 obtain⟨hh,gg,d,t,os⟩:=s;have L0:=I.type (M:=model prog w);have L1:=looks_findIn (M:=model prog w) X hga;have L2:=looks_findIn (M:=model prog w) X hgk;unfold getAttr? getAttrBy? getAttrBy;refine wpAny_bind (wpAny_mkText (wpAny_bind (wpAny_attempt (wpAny_holding (wpAny_bind (L0.at (wpAny_bind (L1.at ?_))))))));have hx2:(Value.builtin "BaseException.__getattribute__"==Value.builtin "object.__getattribute__")=false:=by decide +kernel
 simp only[hx2,Bool.and_false,Bool.false_eq_true,if_false];unfold getAttrByItsOwn hookBefore;refine wpAny_bind (L2.at (wpAny_bind (wpAny_attempt (wpAny_holding ?_))));unfold callGetattribute boundAndCalled;simp only[Bool.false_and,Bool.false_eq_true,if_false];rw[show bindSpecial (.builtin "BaseException.__getattribute__") (.ref x)=pure (.builtin "BaseException.__getattribute__",[.ref x])from F.excAttr_ValueError.ga.bind _];refine wpAny_bind (wpAny_pure (wpAny_call ?_));refine codeAny_call_builtin F.excAttr_ValueError.ga.plain F.entry_bexc_ga (xM X I hb ?_);refine wpAny_mono (xT (s:=⟨hh,gg,d,t+1,os⟩) X I ha hg ht (h _ A)) (fun fin s' z=>?_) (fun _ _ z=>z.elim);rcases fin with(_|_|_|_)|_<;>first|exact wpAny_mono z (fun v s'' hv=>wpAny_pure hv) (fun _ _ z=>z.elim)|exact z.elim
theorem DA{tp:Value}{R:Result->Shared->Prop}(X:K.In s.heap) (I:cL C x s.heap) (hm:mroIn K C (.type "object")=some true)
  (h:R (.ok (.ret (.ref C))) s):codeAny (model prog w) A (.call (.builtin "getset_descriptor.__get__") ⟨[.builtin "object.__class__",.ref x,tp],[]⟩) R s:=by
 obtain⟨hh,g,dr,t,os⟩:=s;have L0:=I.type (M:=model prog w);have L1:=looks_mroIn (M:=model prog w) X hm;refine codeAny_call_builtin KF.slot_gs.plain KF.entry_gs (KF.slot_gs.check _ _ _ _ _ _ _ _ KF.type_class (KF.args_gs _ _ _) ?_);unfold Builtin.«getset_descriptor.__get__» descrGet;rw[dga_obj];refine wpAny_bind (wpAny_pure ?_);unfold descrGetter descrCheckInstance descrNameAndClass isInstance;simp only[KF.owner_class]
 repeat lk
 refine⟨Code.quiet_builtin _ (by decide +kernel),codeAny_builtin KF.entry_class ?_⟩;unfold Builtin.«object.__class__» shownTypeOf
 repeat lk
 exact h
theorem xy(hga:findIn K (.ref D) "__getattribute__"=some (some (.builtin "BaseException.__getattribute__"))) (hgk:findIn K (.ref D) "__getattr__"=some none) (hb:mroIn K D (.type "BaseException")=some true) (hdct:(clsIn K D).isSome=true) (ha:findIn K (.ref D) "__class__"=some (some (.builtin "object.__class__")))
  (hn:specialIn K (.builtin "object.__class__") "__get__"=some (some (.builtin "getset_descriptor.__get__"))) (htk:takesIn K (.builtin "object.__class__")=some true) (hm:mroIn K D (.type "object")=some true) :
  KitX K (.ref x) (.ref D) (cL D x) where
 ty:=fun _ _ _ I=>I.type
 it:=fun _ _ X _=>by
  obtain⟨cdD,hcD⟩:=Option.isSome_iff_exists.mp hdct;unfold clsIn at hcD
  split at hcD
  ·rename_i c' d' cd' sl' ho;intro A' Q' E' s' k q;unfold isType loadHead;exact wpAny_bind (wpAny_loadPart (k _ _ (X _ _ ho)) (wpAny_pure q))
  ·cases hcD
 ne:=fun h tp dd its n sl X htp=>by
  obtain⟨cdD,hcD⟩:=Option.isSome_iff_exists.mp hdct;refine Bool.eq_false_iff.mpr fun q=>?_;have e:D=tp:=Value.ref.inj (beq_iff_eq.mp q);subst e;unfold clsIn at hcD
  split at hcD
  ·rename_i c' d' cd' sl' ho;have z:=(X _ _ ho).symm.trans htp;cases z
  ·cases hcD
 ca:=fun {_ _ _ _ _ s} X I k=>zu X I hga hgk hb ha hn htk fun _ _=>wpAny_call (DA (s:={ s with toks:=s.toks+1 }) X I hm (handed_on rfl k))
end
end L2
namespace L2
open PySem PySem.Spec PyProof.Rows
section
variable{X:Cx}{aa:List (Addr×Obj)}{σ:St}{H:Hp}{s:Shared}
theorem kU{M:Model}{A:Around}{E:Value->Shared->Prop}{i:Nat}{x:Str}{pos:Pos}{Q:Unit->Shared->Prop}(I:Inv X aa σ H s) (hN:X.N.Nodup) (hi:X.N[i]?=some x) (hx:X.env.scope.names.lookup x=some .local)
  (h:∀s',Inv X aa (σ.set i none) H s'->Q () s'):wpAny M A (do bindName X.env x .none;unbindBehindTheSuite X.env x pos) Q E s:=by
 refine wpAny_bind (wpAny_bindName (eG I hN hi (.inl hx) (v:=.non) (u:=.none) rfl (fun s1 I1=>?_) (.inr hx)));have hiσ:i<σ.length:=by rw[I.len];exact(List.getElem?_eq_some_iff.mp hi).1
 unfold unbindBehindTheSuite;refine wpAny_onRaise ?_;unfold unbindName;refine wpAny_bind (wpAny_point (wpAny_bind ?_));unfold deleteName;have hl:X.env.kindOf x=some .local:=hx;have hcls:(X.env.scope.kind==.class || (X.env.scope.kind==.module&&X.env.locals != X.env.globals))=false:=by rw[I.ok.kind];rfl
 simp only[hl,hcls];rw[if_neg (by decide)];obtain⟨m,hn,hlk⟩:=id I1.loc;have hm:(m x).isSome=true:=by
  obtain⟨u,r,q⟩:=hlk i x .non hi (by rw[List.getElem?_set_self hiσ]) (.inl hx);rcases q with⟨_,e⟩|⟨k,_⟩
  ·rw[e];rfl
  ·rw[hl]at k;rcases k with k|k<;>cases k
 refine wpAny_bind (Da hn fun h2 m2 hn2 hx2 hs=>?_);rw[hm];simp only[Bool.not_true,Bool.false_eq_true,if_false];refine wpAny_pure (wpAny_point (h _ ?_));have cne:=I1.cne;obtain⟨oL,_,_,hoL,_⟩:=id hn;have tracked:HOk X.prog X.w H h2:=fun b ob e=>by
  refine(I1.hok b ob e).stay (fun c w' hc q=>(hs.2 c ?_).trans q) (fun _ q=>q) fun _ _ q=>q;rintro rfl;have hfree:=I1.free;rcases hc with rfl|hc
  ·rw[hfree]at e;cases e
  ·rw[hfree]at hc;cases hc
 refine⟨I1.ok,I1.os,I1.bare,⟨fun b o e n hb hx=>?_,fun b o e n hb hx=>?_,I1.base.free,fun b o e hx=>?_,I1.base.tups,I1.base.frzs,I1.base.tbls⟩,⟨_,hn2,fun j y v' e1 e2 e3=>?_⟩,fun y c e=>?_,I1.free,I1.freeC,fun p hp=>?_,tracked,by simpa using I.len⟩
 ·exact(hs.2 b (Nat.ne_of_lt (Nat.lt_of_lt_of_le (Heap.lt_size e) I.ok.above))).trans (I1.base.keep b o e n hb hx)
 ·obtain⟨sl,e1⟩:=I1.base.slot b o e n hb hx;exact⟨sl,(hs.2 b (Nat.ne_of_lt (Nat.lt_of_lt_of_le (Heap.lt_size e) I.ok.above))).trans e1⟩
 ·obtain⟨o',e1⟩:=I1.base.there b o e hx;exact⟨o',(hs.2 b (Nat.ne_of_lt (Nat.lt_of_lt_of_le (Heap.lt_size e) I.ok.above))).trans e1⟩
 ·by_cases hj:j=i
  ·subst hj;rw[List.getElem?_set_self hiσ]at e2;cases e2
  ·rw[List.getElem?_set_ne (Ne.symm hj)]at e2;obtain⟨u',r',q⟩:=hlk j y v' e1 (by rw[List.getElem?_set_ne (Ne.symm hj)];exact e2) e3;refine⟨u',r',?_⟩;rcases q with⟨k,e⟩|⟨k,c,e,z⟩
   ·refine .inl ⟨k,?_⟩;have:y≠x:=fun e=>hj (l6 hN e1 (e▸hi));rw[hx2 y this];exact e
   ·exact .inr ⟨k,c,e,z.sameBut hs (cne y c e)⟩
 ·obtain⟨w',z⟩:=I1.cell y c e;exact⟨w',z.sameBut hs (cne y c e)⟩
 ·obtain⟨e,n,ne,nf,d⟩:=I1.pin p hp;exact⟨(hs.2 p.1 ne).trans e,n,ne,nf,d⟩
theorem Inv.track{a:Addr}{φ:Heap->Prop}(I:Inv X aa σ H s) (hn:H a=none) (ho:bq X.prog X.w (upd H a (.ext φ)) s.heap a (.ext φ)) (h0:X.s₀.heap.get? a=none) (hL:a≠X.env.locals) (hc:∀x c,X.env.cells.lookup x=some c->c≠a)
  (hp:∀p∈X.pn++aa,p.1≠a):Inv X aa σ (upd H a (.ext φ)) s:=by
 have ne:∀{b o},H b=some o->upd H a (.ext φ) b=some o:=fun {b o} q=>by
  by_cases z:b=a
  ·rw[z,hn]at q;cases q
  ·rw[az z];exact q
 refine⟨I.ok,I.os,I.bare,⟨I.base.keep,I.base.slot,fun b o e n x=>?_,I.base.there,fun b xs q=>ne (I.base.tups b xs q),fun b o u q=>ne (I.base.frzs b o u q),fun b ps q=>?_⟩,I.loc,I.cell,?_,fun x c e=>?_,fun p z=>?_,fun b o e=>?_,I.len⟩
 ·have:b≠a:=fun z=>by rw[z,h0]at e;cases e
  rw[az this];exact I.base.free b o e n x
 ·obtain⟨more,q'⟩:=I.base.tbls b ps q;exact⟨more,ne q'⟩
 ·rw[az (Ne.symm hL)];exact I.free
 ·rw[az (hc x c e)];exact I.freeC x c e
 ·obtain⟨h1,h2,h3⟩:=I.pin p z;exact⟨h1,by rw[az (hp p z)];exact h2,h3⟩
 ·by_cases hb:b=a
  ·subst hb;rw[aL]at e;cases e;exact ho
  ·rw[az hb]at e;exact(I.hok b o e).stay (fun c v _ r=>r) (fun c r=>ne r) fun c xs r=>ne r
end
section
variable{M:Model}{A:Around}{E:Value->Shared->Prop}
variable{nm q nm2 q2:Str}{C N W N2:Addr}{bs bm bs2 bm2:List Value}{hdct hdct2:Bool}{sn sn2:List Str}{sub sub2:List Value}{ab ab2:Bool}{col col2:Option Bool}{dd dd2:Option Addr}{k0 k1 k2 k3 k5 l0 l1 l2 l3 l5:Option Value}{newId newId2:String}
theorem z5{h:Heap}{g:Array GenState}{d:Drawn}{t:Nat}{os:OsState}{e:Addr}{oe:Obj}{Q:Bool->Shared->Prop}
  (hC:h.get? C=some (excClassObj nm q C N bs bm hdct sn sub ab col dd k0 k1 k2 k3 k5 newId)) (hW:h.get? W=some (excClassObj nm2 q2 W N2 bs2 bm2 hdct2 sn2 sub2 ab2 col2 dd2 l0 l1 l2 l3 l5 newId2)) (he:h.get? e=some oe) (hcls:oe.cls=.ref C)
  (jv:bm2.contains (.type "BaseException")=true) (hw:bm.contains (.ref W)=true)
  (hq:Q true ⟨h,g,d,t,os⟩):wpAny M A (excMatches (.ref e) (.ref W)) Q E ⟨h,g,d,t,os⟩:=by
 have hcB:(Value.ref W::bm2).contains (.type "BaseException")=true:=by rw[List.contains_cons,jv,Bool.or_true]
 have hcC:(Value.ref C::bm).contains (.ref W)=true:=by rw[List.contains_cons,hw,Bool.or_true]
 have f:=tc_notTuple;unfold excMatches
 repeat (first|(with_reducible refine wpAny_loadPart_at he ?_;rw[hcls])|with_reducible refine wpAny_loadPart_at hW ?_|with_reducible refine wpAny_loadPart_at hC ?_|(with_reducible refine wpAny_isSubtype_exc hW ?_;rw[hcB])|(with_reducible refine wpAny_isSubtype_exc hC ?_;rw[hcC])|wp_step)
 exact hq
end
section
variable{X:Cx}{aa:List (Addr×Obj)}{σ:St}{H1 H':Hp}{s1 s':Shared}{C a T:Addr}
theorem zh{xW n:Str}{W:Addr}{p pos:Pos}{b0:Stmt}{suite:List Stmt}{Q:Flow->Shared->Prop}{E':Value->Shared->Prop}(I1:Inv X aa σ H1 s1) (hsk:X.stack=X.env::X.outer) (hfm:X.env.frame=some X.env.locals) (hg:Gl X xW) (hm:X.mg xW=some (.ref W))
  (lC:∃nm q N bs bm hd sn sub ab col dd k0 k1 k2 k3 k5 newId,X.K.lookup C=some (excClassObj nm q C N bs bm hd sn sub ab col dd k0 k1 k2 k3 k5 newId)/\bm.contains (.ref W)=true)
  (lW:∃nm q N bs bm hd sn sub ab col dd k0 k1 k2 k3 k5 newId,X.K.lookup W=some (excClassObj nm q W N bs bm hd sn sub ab col dd k0 k1 k2 k3 k5 newId)/\bm.contains (.type "BaseException")=true)
  (os:s'.os=s1.os) (bare:AllBare s'.gens) (un:Un (frs X.stack) [] H1 H' s1.heap s'.heap) (hok:HOk X.prog X.w H' s'.heap) (ha:s1.heap.get? a=none) (hna:H' a=none) (hnT:H' T=none) (fl:DJ C a T s1.heap s'.heap) (hex:X.ex=[])
  (k:∀ h,Inv X aa σ (upd H' a (.ext (cL C a))) { s' with heap:=h } → wpAny (model X.prog X.w) (X.A.mark (some (.ref a))) (storeName X.env n (.ref a)) (fun _ s2 => wpAny (model X.prog X.w) (X.A.mark (some (.ref a))) (execs (b0 :: suite) X.env)
   (fun f s3=>wpAny (model X.prog X.w) X.A (do bindName X.env n .none;unbindBehindTheSuite X.env n pos) (fun _ s4=>Q f s4) E' s3) (fun _ _=>False) s2) (fun _ _=>False) { s' with heap:=h }) (hdb:(xW==("__debug__":Str))=false:=by decide) :
  wpAny (model X.prog X.w) X.A (noteFrame (.ref a) X.env) (fun _ s2=>wpAny (model X.prog X.w) X.A (setFlight (.ref a) none) (fun _ s3=>wpAny (model X.prog X.w) X.A (handleBy (.ref a) X.env [.ExceptHandler (some (.Name xW p)) (some n) (b0::suite) pos]) Q E' s3) E' s2) E' s':=by
 obtain⟨oe,vs,oT,ts,f1,f2,f3,f4,f5,f6,f7,f8,f9⟩:=fl;have I':Inv X aa σ H' s':=I1.call' (ch:=[]) os un hok bare fun b z=>absurd z (by simp);have hst:=I'.stack;have hfr:∀b∈frs X.stack,∃o,s'.heap.get? b=some o/\∀vs:Array Value,o.data≠Data.fields vs:=fun b hb=>(hst.mem hb).2;have hA:X.A.frames=some (X.env::X.outer):=by rw[<-hsk];exact I1.ok.frames
 refine A3 il (base:=PySem.W.hideAll s'.heap (a::T::frs X.stack)) hA (by rw[<-hsk];exact PySem.W.funFrames_hide hst fun env he b hb=>List.mem_cons_of_mem _ (List.mem_cons_of_mem _ (List.mem_filterMap.mpr ⟨env,he,hb⟩))) hfm
  ⟨oe,vs,T,oT,ts,f1,f2,f3,f4,PySem.W.hideAll_none _ (by simp),f6,f7,f8,f9⟩ (fun b o e=>PySem.W.of_hideAll _ e) (PySem.W.hideAll_none _ (by simp)) fun h1 g=>oF g.1 g.2.1 g.2.2.1 fun h2 fly2=>?_
 have up1:=g.2.2.2;obtain⟨st2,ff2,⟨oe2,vs2,T2,oT2,ts2,t1,t2,t3,t4,t5,t6,t7,t8,t9⟩,up2⟩:=fly2;have kp2:∀b o,s'.heap.get? b=some o->b∉[a,T]->b∉frs X.stack->h2.get? b=some o:=fun b o e hz hf=>st2 b o (PySem.W.hideAll_get _ e fun z=>by
  rcases List.mem_cons.mp z with z|z
  ·exact hz (by simp[z])
  rcases List.mem_cons.mp z with z|z
  ·exact hz (by simp[z])
  ·exact hf z)
 have fr2:∀b o,b∈frs X.stack->s'.heap.get? b=some o->∃sl,h2.get? b=some { o with slots:=sl }:=fun b o hb e=>by
  obtain⟨o',e',d'⟩:=hfr b hb;rw[e]at e';cases e';obtain⟨sl,q1⟩:=up1 b o e d';obtain⟨sl',q2⟩:=up2 b _ q1 d';exact⟨sl',q2⟩
 have hz2:∀b∈[a,T],s1.heap.get? b=none/\H' b=none:=fun b hb=>by
  rcases List.mem_cons.mp hb with rfl|hb
  ·exact⟨ha,hna⟩
  ·obtain rfl:=List.mem_singleton.mp hb;exact⟨f5,hnT⟩
 have I2:=pJ I1 os bare un hok kp2 fr2 hz2;obtain⟨nm,q,N,bs,bm,hd,sn,sub,ab,col,dd,k0,k1,k2,k3,k5,newId,lC,hbm⟩:=lC;obtain⟨nm',q',N',bs',bm',hd',sn',sub',ab',col',dd',k0',k1',k2',k3',k5',newId',lW,hbm'⟩:=lW;refine wpAny_handleBy_cons (codeAny_handlers_test (Calls.Name_function_global I2.ok.kind hg (Calls.loadGlobal_global (by rw[I2.ok.glob];exact I2.mod.glob.keeps I2.bk) hm ?_) hdb)) (by intro z;cases z);refine z5 (I2.kIn _ _ lC) (I2.kIn _ _ lW) t1 t2.1 hbm' hbm ?_;refine codeAny_handlers_suite_as ?_;have hts:3<ts2.size:=(Array.getElem?_eq_some_iff.mp t9).1;refine wpAny_setFlight_none t1 t3 t4 t7 t8 hts ?_;have hT2f:T2∉frs X.stack:=fun hb=>by
  obtain⟨o',e',d'⟩:=hfr T2 hb;obtain⟨sl,q2⟩:=fr2 T2 o' hb e';rw[t7]at q2;cases q2;exact d' _ t8
 have hT2:T2=T∨s'.heap.get? T2=none:=by
  by_cases z:T2=T
  ·exact .inl z
  ·right;cases e:s'.heap.get? T2 with
   |none=>rfl
   |some o =>
    rw[PySem.W.hideAll_get _ e fun z'=>by
     rcases List.mem_cons.mp z' with z'|z'
     ·exact t6 z'
     rcases List.mem_cons.mp z' with z'|z'
     ·exact z z'
     ·exact hT2f z']at t5
    cases t5
 have hz3:∀b∈[a,T,T2],s1.heap.get? b=none/\H' b=none:=fun b hb=>by
  rcases List.mem_cons.mp hb with rfl|hb
  ·exact⟨ha,hna⟩
  rcases List.mem_cons.mp hb with rfl|hb
  ·exact⟨f5,hnT⟩
  obtain rfl:=List.mem_singleton.mp hb;rcases hT2 with rfl|z
  ·exact⟨f5,hnT⟩
  ·constructor
   ·cases e:s1.heap.get? b with
    |none=>rfl
    |some o =>
     obtain⟨o1,e1⟩:=un.there b o e (by simp);rw[z]at e1;cases e1
   ·cases e:H' b with
    |none=>rfl
    |some o =>
     obtain⟨o1,e1⟩:=(hok b o e).is;rw[z]at e1;cases e1
 have I3:=pJ (h:=h2.update T2 (Obj.mapFields fun x=>x.setIfInBounds 3 Value.none)) I1 os bare un hok (Z:=[a,T,T2]) (fun b o e hz hf=>by
   rw[Heap.get?_update_other _ _ (fun z=>hz (by simp[z]))];exact kp2 b o e (fun z=>hz (by
    rcases List.mem_cons.mp z with z|z
    ·simp[z]
    ·simp[List.mem_singleton.mp z])) hf)
  (fun b o hb e => by
   rw[Heap.get?_update_other _ _ (fun z=>hT2f (by rw[z];exact hb))];exact fr2 b o hb e) hz3
 have some1:∀{b o},s1.heap.get? b=some o->b≠a:=fun e z=>by rw[z,ha]at e;cases e
 have hx3:cL C a (h2.update T2 (Obj.mapFields fun x=>x.setIfInBounds 3 Value.none)):=⟨oe2,by rw[Heap.get?_update_other _ _ t6];exact t1,t2⟩;have I4:=I3.track (a:=a) (φ:=cL C a) hna (Af hx3) (by
   cases e:X.s₀.heap.get? a with
   |none=>rfl
   |some o =>
    obtain⟨o1,e1⟩:=I1.base.there a o e (by rw[hex];simp);rw[ha]at e1;cases e1) (by
   obtain⟨m,⟨o,es,ep,g,_⟩,_⟩:=I1.loc;exact(some1 g).symm) (fun x c e=>by
   obtain⟨v,o,g,_⟩:=I1.cell x c e;exact some1 g) (fun p hp=>some1 (I1.pin p hp).1)
 exact wpAny_mono (k _ I4) (fun _ s2 z=>wpAny_mono z (fun f s3 z=>z) fun _ _ z=>z.elim) fun _ _ z=>z.elim
end
theorem SR.setN{K:PySem.W.Frag}{M:DH}{H:Hp}{σ:St}{Δ:DE}(h:SR K M H σ Δ) (i:Nat):SR K M H (σ.set i none) (Δ.set i none):=by
 refine⟨by simp[h.1],fun j e q=>?_⟩
 by_cases hj:j=i
 ·subst hj
  by_cases hl:j<Δ.length
  ·rw[List.getElem?_set_self hl]at q;cases q
  ·rw[List.getElem?_eq_none (by simpa using hl)]at q;cases q
 ·rw[List.getElem?_set_ne (Ne.symm hj)]at q ⊢;exact h.2 j e q
def exC(C a:Addr):HD:=.ext (fun _=>cL C a) []
def yB(j:Nat) (E:dU):dU where
 nx:=fun Δ M=>∃M3,LeM M3 M/\E.nx (Δ.set j none) M3
 bk:=fun Δ M=>∃M3,LeM M3 M/\E.bk (Δ.set j none) M3
 ct:=fun Δ M=>∃M3,LeM M3 M/\E.ct (Δ.set j none) M3
 rt:=fun d M=>∃M3,LeM M3 M/\E.rt d M3
def Be(i j n:Nat) (C:Addr) (S:SpD) (t:TAd) (tb:Addr->TSd):TSd:=fun E Δ M=>t Δ M fun ds M1=>ds.length=n/\S ds M1 fun d M2 =>
 (d≠xD->E.nx (Δ.set i (some d)) M2)/\(d=xD->∀a,M2 a=none->tb a (yB j E) (Δ.set j (some (.ref a))) (aG M2 a (exC C a)))
abbrev Cx.caught(X:Cx) (a:Addr):Cx:={ X with A:=X.A.mark (some (.ref a)),calm:=false,xe:=fun _ _=>False }
structure rE(K:PySem.W.Frag) (C:Addr):Prop where
 ga:PySem.W.findIn K (.ref C) "__getattribute__"=some (some (.builtin "BaseException.__getattribute__"))
 gk:PySem.W.findIn K (.ref C) "__getattr__"=some none
 mb:PySem.W.mroIn K C (.type "BaseException")=some true
 cl:(PySem.W.clsIn K C).isSome=true
 ha:PySem.W.findIn K (.ref C) "__class__"=some (some (.builtin "object.__class__"))
 hn:PySem.W.specialIn K (.builtin "object.__class__") "__get__"=some (some (.builtin "getset_descriptor.__get__"))
 tk:PySem.W.takesIn K (.builtin "object.__class__")=some true
 mo:PySem.W.mroIn K C (.type "object")=some true
def uK(C:Addr) (b:Bool) (ta:TEd):TEd:=fun Δ M Q=>ta Δ M fun d M1=>∃a,d=.ref a/\M1 a=some (exC C a)/\Q (.bl b) M1
section
variable{X:Cx}{a:Expr}{ta:TEd}{pos p p2:Pos}{C:Addr}{b:Bool}{T:Str}
theorem rA{c:Value}{vc:V}(Z:rE X.K C) (e:PySem.W.kitOne X.K (.ref C) c=some b) (hv:∀u,aA vc u->u=c):cV X (.builtin "isinstance") (fun xs H Q=>∃x,xs=[.ref x,vc]/\H x=some (.ext (cL C x))/\Q (.bl b) H):=by
 intro aa s σ H xs us Q I rv h;obtain⟨x,rfl,hx,q⟩:=h;obtain⟨u1,u2,rfl,r1,r2⟩:=ar.two rv;cases(show u1=Value.ref x from r1);cases hv _ r2;exact PySem.W.kia_one (xy Z.ga Z.gk Z.mb Z.cl Z.ha Z.hn Z.tk Z.mo) I.kIn (I.hok x _ hx).1 e (fun z=>nomatch z) fun tk=>⟨.bl b,H,I.tok tk,rfl,q⟩
theorem Fj{C':Addr}(Z:rE X.K C) (hg:Gl X "isinstance") (hm:X.mg "isinstance"=none) (hg2:Gl X T) (hm2:X.mg T=some (.ref C')) (e:PySem.W.kitOne X.K (.ref C) (.ref C')=some b) (ha:PEd X a ta) (hd2:(T==("__debug__":Str))=false:=by decide)
  (hs:starEach [a,.Name T p2] X.env=(false,eval a X.env)::starEach [.Name T p2] X.env:=by rfl) (hs2:starEach [.Name T p2] X.env=(false,eval (.Name T p2) X.env)::starEach [] X.env:=by rfl) (hpl:(backTo pos (starEach [.Name T p2] X.env)).any (·.1)=false:=by rfl) :
  PEd X (.Call (.Name "isinstance" p) [a,.Name T p2] [] pos) (uK C b ta):=by
 refine(fY (rA (vc:=.ref C') Z e fun u h=>h) hg hm (by kernel_rfl) (cG ha (cG (o5 (v:=.ref C') hg2 hm2 rfl hd2) fO hs2) hs) (by decide) (by decide) hs hpl).conv fun σ H Q hh=>?_;obtain⟨Δ,M,R,sr,hr,q,k⟩:=hh;refine⟨Δ,M,_,sr,hr,q,fun d M1 v H1 ⟨x,ed,em,q1⟩ e1 hr1 rv=>?_⟩;subst ed;obtain rfl:v=.ref x:=by simpa only[Rep]using rv
 obtain⟨vs,hx,_⟩:=hr1 x _ em;exact⟨x,rfl,hx,k _ M1 _ H1 q1 e1 hr1 (by simp[Rep])⟩
theorem BS{Tn:String}(Z:rE X.K C) (hg:Gl X "isinstance") (hm:X.mg "isinstance"=none) (hg2:Gl X T) (hm2:X.mg T=none) (hv2:bootBuiltins T=some (.type Tn)) (e:PySem.W.kitOne X.K (.ref C) (.type Tn)=some b) (ha:PEd X a ta) (hn2:T≠"__name__":=by decide) (hd2:(T==("__debug__":Str))=false:=by decide)
  (hs:starEach [a,.Name T p2] X.env=(false,eval a X.env)::starEach [.Name T p2] X.env:=by rfl) (hs2:starEach [.Name T p2] X.env=(false,eval (.Name T p2) X.env)::starEach [] X.env:=by rfl) (hpl:(backTo pos (starEach [.Name T p2] X.env)).any (·.1)=false:=by rfl) :
  PEd X (.Call (.Name "isinstance" p) [a,.Name T p2] [] pos) (uK C b ta):=by
 refine(fY (rA (vc:=.ty Tn) Z e fun u h=>h) hg hm (by kernel_rfl) (cG ha (cG (tO (v:=.ty Tn) hg2 hm2 hv2 rfl hn2 hd2) fO hs2) hs) (by decide) (by decide) hs hpl).conv fun σ H Q hh=>?_;obtain⟨Δ,M,R,sr,hr,q,k⟩:=hh;refine⟨Δ,M,_,sr,hr,q,fun d M1 v H1 ⟨x,ed,em,q1⟩ e1 hr1 rv=>?_⟩;subst ed;obtain rfl:v=.ref x:=by simpa only[Rep]using rv
 obtain⟨vs,hx,_⟩:=hr1 x _ em;exact⟨x,rfl,hx,k _ M1 _ H1 q1 e1 hr1 (by simp[Rep])⟩
theorem Fl{C':Addr}(Z:rE X.K C) (hg:Gl X "isinstance") (hm:X.mg "isinstance"=none) (hg2:Gl X T) (hm2:X.mg T=some (.ref C')) (e:PySem.W.kitOne X.K (.ref C) (.ref C')=some b) (ha:QEd X a ta) (hd2:(T==("__debug__":Str))=false:=by decide)
  (hs:starEach [a,.Name T p2] X.env=(false,eval a X.env)::starEach [.Name T p2] X.env:=by rfl) (hs2:starEach [.Name T p2] X.env=(false,eval (.Name T p2) X.env)::starEach [] X.env:=by rfl) (hpl:(backTo pos (starEach [.Name T p2] X.env)).any (·.1)=false:=by rfl) :
  QEd X (.Call (.Name "isinstance" p) [a,.Name T p2] [] pos) (uK C b ta):=by
 rw[QEd.eq]at *
 exact Fj Z hg hm hg2 hm2 e ha hd2 hs hs2 hpl
theorem lD(Z:rE X.K C) (hg:Gl X "isinstance") (hm:X.mg "isinstance"=none) (hg2:Gl X T) (h:∃C',X.mg T=some (.ref C')/\PySem.W.kitOne X.K (.ref C) (.ref C')=some b) (ha:QEd X a ta) (hd2:(T==("__debug__":Str))=false:=by decide)
  (hs:starEach [a,.Name T p2] X.env=(false,eval a X.env)::starEach [.Name T p2] X.env:=by rfl) (hs2:starEach [.Name T p2] X.env=(false,eval (.Name T p2) X.env)::starEach [] X.env:=by rfl) (hpl:(backTo pos (starEach [.Name T p2] X.env)).any (·.1)=false:=by rfl) :
  QEd X (.Call (.Name "isinstance" p) [a,.Name T p2] [] pos) (uK C b ta):=by
 obtain⟨C',h1,h2⟩:=h;exact Fl Z hg hm hg2 h1 h2 ha hd2 hs hs2 hpl
theorem BB{Tn:String}(Z:rE X.K C) (hg:Gl X "isinstance") (hm:X.mg "isinstance"=none) (hg2:Gl X T) (hm2:X.mg T=none) (hv2:bootBuiltins T=some (.type Tn)) (e:PySem.W.kitOne X.K (.ref C) (.type Tn)=some b) (ha:QEd X a ta) (hn2:T≠"__name__":=by decide) (hd2:(T==("__debug__":Str))=false:=by decide)
  (hs:starEach [a,.Name T p2] X.env=(false,eval a X.env)::starEach [.Name T p2] X.env:=by rfl) (hs2:starEach [.Name T p2] X.env=(false,eval (.Name T p2) X.env)::starEach [] X.env:=by rfl) (hpl:(backTo pos (starEach [.Name T p2] X.env)).any (·.1)=false:=by rfl) :
  QEd X (.Call (.Name "isinstance" p) [a,.Name T p2] [] pos) (uK C b ta):=by
 rw[QEd.eq]at *
 exact BS Z hg hm hg2 hm2 hv2 e ha hn2 hd2 hs hs2 hpl
end
section
variable{X:Cx}{e:Expr}{es:List Expr}{t:TAd}{S:SpD}{C W:Addr}{fn xW nm:Str}{tb:Addr->TSd}
theorem Dr{i j k n:Nat}{x:Str}{p1 p2 p3 p4 p5 p9 p10:Pos}{b0:Stmt}{suite:List Stmt}(FX:FnX X.prog X.w X.K X.mg X.base fn k n S C) (hr:cw k X.A) (hgf:Gl X fn) (hno:∀e s,¬ X.xe e s) (hsk:X.stack=X.env::X.outer) (hfm:X.env.frame=some X.env.locals) (hex:X.ex=[])
  (hg:Gl X xW) (hm:X.mg xW=some (.ref W))
  (lC:∃nm q N bs bm hd sn sub ab col dd k0 k1 k2 k3 k5 newId,X.K.lookup C=some (excClassObj nm q C N bs bm hd sn sub ab col dd k0 k1 k2 k3 k5 newId)/\bm.contains (.ref W)=true)
  (lW:∃nm q N bs bm hd sn sub ab col dd k0 k1 k2 k3 k5 newId,X.K.lookup W=some (excClassObj nm q W N bs bm hd sn sub ab col dd k0 k1 k2 k3 k5 newId)/\bm.contains (.type "BaseException")=true)
  (hN:X.N.Nodup) (hi:X.N[i]?=some x) (hx:Loc X.env.scope x) (hj:X.N[j]?=some nm) (hy:X.env.scope.names.lookup nm=some .local) (ha:QAd X (e::es) t) (hb:∀a,QSs (X.caught a) (b0::suite) (tb a))
  (hdf:(fn==("__debug__":Str))=false:=by decide) (hdb:(xW==("__debug__":Str))=false:=by decide)
  (he:starEach (e::es) X.env=(false,eval e X.env)::starEach es X.env:=by rfl) (hpl:(backTo p3 (starEach es X.env)).any (·.1)=false:=by rfl)
  (hs:swapsWith (.Call (.Name fn p2) (e::es) [] p3) (some (.Name x p1)) p4.line X.env=pure false:=by rfl)
  (hf:X.fn x=true∨X.env.scope.names.lookup x=some .local:=by first|exact .inl rfl|exact .inr rfl|assumption) :
  QSd X (.Try [.Assign [.Name x p1] (.Call (.Name fn p2) (e::es) [] p3) p4] [.ExceptHandler (some (.Name xW p5)) (some nm) (b0::suite) p9] [] [] p10) (Be i j n C S t tb):=by
 simp only[QAd.eq,QSd.eq,QSs.eq]at *
 intro aa s σ H D I hh;obtain⟨Δ,M,E,sr,hrr,q,kk⟩:=hh;obtain⟨f,fd,ps,F,hmf,hkf,hbf⟩:=FX.ex;refine wpAny_Try_except (wpAny_execs_cons (wpAny_Assign_Name (wpAny_Call_Name_kw (kN I hgf hmf ?_ hdf)) hs));refine PySem.W.callWith_K (h₀:=X.base) I.ok.mod.kin hkf (wpAny_mono (ha p3 aa s σ H (fun vs H1=>∃ds M1,ds.length=n/\S ds M1 (fun d M2=>(d≠xD->E.nx (Δ.set i (some d)) M2)/\(d=xD->∀a,M2 a=none->tb a (yB j E) (Δ.set j (some (.ref a))) (aG M2 a (exC C a))))/\Ext M H M1 H1/\HR X.K M1 H1/\aj X.K M1 H1 ds vs) I
  ⟨Δ,M,_,sr,hrr,q,fun ds M1 vs H1 ⟨hl,q1⟩ e1 hr1 rl=>⟨ds,M1,hl,q1,e1,hr1,rl⟩⟩) (fun us s1 hs=>⟨?_,?_⟩) fun e s' z=>(hno e s' z).elim) he hpl
 ·obtain⟨vs,H1,I1,_⟩:=hs;exact I1.kIn
 obtain⟨vs,H1,I1,rv,ds,M1,hl,q1,e1,hr1,rl⟩:=hs;have hsp:spX X.K n S C vs H1 (fun v H2=>D.nx (σ.set i (some v)) H2) (fun _ _ H2=>∃M2,(∀a,M2 a=none->tb a (yB j E) (Δ.set j (some (.ref a))) (aG M2 a (exC C a)))/\Ext M1 H1 M2 H2/\HR X.K M2 H2) :=
  ⟨ds,M1,_,hl,rl,hr1,q1,fun d M' v H' q' e' hr' rv'=>kk.nx _ M' _ H' (q'.1 fun z=>CP (z▸rv')) (e1.trans e') hr' (((sr.ext e1).ext e').set i rv'),fun M' H' q' e' hr'=>⟨M',q'.2 rfl,e',hr'⟩⟩
 have hpl2:(us++[]).length=ps.length:=by
  rw[List.append_nil,<-rv.length];exact F.len _ _ _ _ hsp
 refine wpAny_call (codeAny_mono (F.run X.A X.stack s1 H1 ⟨us,[]⟩ us vs _ _ hr I1.env0 (by simpa using hbf s1 us I1.kIn hpl2) rv hsp) fun r s' hq=>?_);cases r with
 |error e =>
  obtain⟨a,T,H',rfl,os,bare,un,hok,h0,hna,hnT,fl,M2,qx,e2,hr2⟩:=hq;refine zh I1 hsk hfm hg hm lC lW os bare un hok h0 hna hnT fl hex (fun h I3=>?_) hdb;refine eG I3 hN hj (.inl hy) (v:=.ref a) rfl (fun s2 I4=>?_) (.inr hy);have J:Inv (X.caught a) aa (σ.set j (some (.ref a))) (upd H' a (.ext (cL C a))) s2:=⟨⟨I4.ok.mod,I4.ok.kind,I4.ok.glob,I4.ok.blt,I4.ok.above,I4.ok.inj,I4.ok.has,I4.ok.cab,fun z=>(by cases z),I4.ok.frames,I4.ok.stk,I4.ok.exf,I4.ok.bs,I4.ok.bsz,I4.ok.noex,I4.ok.exfs,I4.ok.funs,I4.ok.frf⟩,I4.os,I4.bare,I4.base,I4.loc,I4.cell,I4.free,I4.freeC,I4.pin,I4.hok,I4.len⟩;have e3:Ext M2 H' (aG M2 a (exC C a)) (upd H' a (.ext (cL C a))):=Ext.own hna;have hr3:HR X.K (aG M2 a (exC C a)) (upd H' a (.ext (cL C a))):=hr2.put e3 ⟨[],aL,by simp[aj]⟩;have e4:=(e1.trans e2).trans e3;have sr4:SR X.K (aG M2 a (exC C a)) (upd H' a (.ext (cL C a))) (σ.set j (some (.ref a))) (Δ.set j (some (.ref a))):=(sr.ext e4).set j (by simp[Rep])
  let D2:o7:={ nx:=fun σ' H'=>D.nx (σ'.set j none) H',bk:=fun σ' H'=>D.bk (σ'.set j none) H',ct:=fun σ' H'=>D.ct (σ'.set j none) H',rt:=D.rt }
  have up2:UpE X.K (yB j E) D2 (aG M2 a (exC C a)) (upd H' a (.ext (cL C a))) :=
   ⟨fun Δ' M' σ' H'' ⟨M3,hle,q'⟩ e' hr' sr'=>kk.nx _ M3 _ H'' q' ((e4.trans e').trans (Ext.le hle)) (hr'.le hle) ((sr'.ext (Ext.le hle)).setN j),fun Δ' M' σ' H'' ⟨M3,hle,q'⟩ e' hr' sr'=>kk.bk _ M3 _ H'' q' ((e4.trans e').trans (Ext.le hle)) (hr'.le hle) ((sr'.ext (Ext.le hle)).setN j),
    fun Δ' M' σ' H'' ⟨M3,hle,q'⟩ e' hr' sr'=>kk.ct _ M3 _ H'' q' ((e4.trans e').trans (Ext.le hle)) (hr'.le hle) ((sr'.ext (Ext.le hle)).setN j),fun d M' v H'' ⟨M3,hle,q'⟩ e' hr' rv'=>kk.rt d M3 v H'' q' ((e4.trans e').trans (Ext.le hle)) (hr'.le hle) (rv'.ext (Ext.le hle))⟩
  refine wpAny_mono (hb a aa s2 _ _ D2 J ⟨_,_,_,sr4,hr3,qx a (hr2.fresh hna),up2⟩) (fun fl s3 z=>?_) fun _ _ z=>z;have back:∀{σ2 H2},Inv (X.caught a) aa σ2 H2 s3->Inv X aa σ2 H2 s3:=fun J2=>⟨I.ok,J2.os,J2.bare,J2.base,J2.loc,J2.cell,J2.free,J2.freeC,J2.pin,J2.hok,J2.len⟩;cases fl with
  |next=>obtain⟨σ2,H2,J2,q2⟩:=z;exact kU (back J2) hN hj hy fun s4 I5=>⟨_,H2,I5,q2⟩
  |brk=>obtain⟨σ2,H2,J2,q2⟩:=z;exact kU (back J2) hN hj hy fun s4 I5=>⟨_,H2,I5,q2⟩
  |cont=>obtain⟨σ2,H2,J2,q2⟩:=z;exact kU (back J2) hN hj hy fun s4 I5=>⟨_,H2,I5,q2⟩
  |ret u=>obtain⟨v2,σ2,H2,J2,r2,q2⟩:=z;exact kU (back J2) hN hj hy fun s4 I5=>⟨v2,_,H2,I5,r2,q2⟩
 |ok fl =>
  cases fl with
  |ret u =>
   obtain⟨v2,H2,I2,rv2,q2⟩:=I1.after hq;exact eG I2 hN hi hx rv2 (fun s2 I3=>wpAny_execs_nil (wpAny_execs_nil ⟨_,H2,I3,q2⟩)) hf
  |next=>exact False.elim hq
  |brk=>exact False.elim hq
  |cont=>exact False.elim hq
end
theorem mO:entryFor table "proto.unchain"=some Builtin.«proto.unchain»:=entryFor_of_tree (by kernel_rfl)
section
variable{prog:Program}{w:World}{A:Around}{E:Value->Shared->Prop}{s:Shared}{C e b:Addr}{ob:Obj}{vs:Array Value}
theorem Cc{α:Type}{Q:α->Shared->Prop}(hh:A.handled=some (.ref e)) (hx:cL C e s.heap) (hne:e≠b) (hb:s.heap.get? b=some ob) (hd:ob.data=.fields vs) (hz:2<vs.size)
  (h:E (.ref b) { s with heap:=s.heap.update b (Obj.mapFields (·.setIfInBounds 2 (.ref e))) }):wpAny (model prog w) A (raiseNew (.ref b):Sem α) Q E s:=by
 obtain⟨o,g,_,us,hu,h2⟩:=hx;unfold raiseNew;refine wpAny_bind (wpAny_handled ?_);rw[hh];dsimp only;rw[if_pos (show(Value.ref e != Value.ref b)=true by simp[hne])];refine wpAny_bind (wpAny_holding (wpAny_runValue (codeAny_builtin mO ?_)));unfold Builtin.«proto.unchain»;dsimp only;refine wpAny_bind (wpAny_field g hu h2 ?_);rw[if_pos (show(Value.none==Value.none)=true from rfl)];refine wpAny_bind (wpAny_pure (wpAny_pure ?_));dsimp only;unfold updateField;refine wpAny_bind (wpAny_bind (wpAny_load' hb ?_));simp only[hd];rw[if_pos hz];exact wpAny_update' hb (wpAny_throw h)
theorem cL.kept{h h':Heap}(x:cL C e h) (k:∀o,h.get? e=some o->h'.get? e=some o):cL C e h':=let⟨o,g,r⟩:=x;⟨o,k o g,r⟩
theorem vz{it l:Addr}{i:Nat}{items:Array Value}{Q:Option Value->Shared->Prop}(hh:A.handled=some (.ref e)) (hx:cL C e s.heap)
  (hit:s.heap.IsListIter it l i) (hl:s.heap.IsList l items) (hi:items[i]?=none)
  (hQ:∀h',(∀b o,b≠it->s.heap.get? b=some o->h'.get? b=some o)->Q none { s with heap:=h' }):wpAny (model prog w) A (pyNext (.ref it)) Q E s:=by
 obtain⟨o,ho,hc,hd⟩:=id hit;obtain⟨ol,hol,_,nl,hdl⟩:=hl;have hne:e≠it:=fun z=>by
  obtain⟨o',g,r,_⟩:=hx;rw[z,ho]at g;cases g;rw[hc]at r;cases r
 unfold pyNext;refine wpAny_bind (wpAny_attempt (wpAny_callSpecial?_slot (name:=Str.ofString "__next__") hit.typeIs slot_listiter_next
  (wpAny_call_entry slot_listiter_next hit.typeIs entry_listiter_next ?_ (args_listiter_next _))))
 show wpAny _ _ (field (.ref it) 0 >>= _) _ _ s;refine wpAny_bind (wpAny_field ho hd (x:=.ref l) rfl ?_);show wpAny _ _ (if(Value.ref l==Value.none)=true then _ else _) _ _ s;rw[if_neg (show ¬ ((Value.ref l==Value.none)=true)from Bool.false_ne_true)];show wpAny _ _ (field (.ref it) 1 >>= _) _ _ s;refine wpAny_bind (wpAny_field ho hd (x:=.int i 0) rfl ?_);show wpAny _ _ (seqItems? (.ref l) >>= _) _ _ s;refine wpAny_bind (wpAny_seqItems hol hdl ?_);simp only[Int.toNat_natCast,hi];refine wpAny_bind (wpAny_rule (wpAny_bind (wpAny_setField ho hd (by simp) ?_)));have k1:∀b o',b≠it->s.heap.get? b=some o'->(s.heap.update it (Obj.mapFields fun x=>x.setIfInBounds 0 Value.none)).get? b=some o':=fun b o' hb q=>by
  rw[Heap.get?_update_other _ _ (Ne.symm hb)];exact q
 show wpAny _ _ (newExc (.type "StopIteration") [] >>= _) _ _ _;refine wpAny_bind ?_;simp only[newExc,newTuple];refine wpAny_bind (wpAny_newObj_type ?_ (by size_fits));refine wpAny_bind (m:=firstArgMember _ _) (wpAny_of_eq (a:=Value.none) (by first|rfl|(simp only[firstArgMember];rfl)) ?_);refine wpAny_newObj_type ?_ (by size_fits);have x1:cL C e (s.heap.update it (Obj.mapFields fun x=>x.setIfInBounds 0 Value.none)):=hx.kept fun o' q=>k1 e o' hne q;refine Cc (e:=e) (C:=C) hh (x1.kept fun o' q=>Heap.get?_push_of_some _ (Heap.get?_push_of_some _ q)) ?_ (Heap.get?_push_size _ rfl) rfl (by rw[Array.size_append];exact Nat.lt_of_lt_of_le (show 2<6 by decide) (Nat.le_add_right _ _)) ?_
 ·obtain⟨o',g,_⟩:=x1;exact Nat.ne_of_lt (Heap.lt_size (Heap.get?_push_of_some _ g))
 refine wpAny_bind (wpAny_isInstance (T:="StopIteration") (b:=true) ⟨_,Heap.get?_update_self _ (Heap.get?_push_size _ rfl) rfl,rfl⟩ isSubtype_stop ?_);refine wpAny_pure (hQ _ fun b o' hb q=>?_);have q1:=Heap.get?_push_of_some { cls:=Value.type "tuple",data:=Data.seq #[] } (k1 b o' hb q);rw[Heap.get?_update_other]
 ·exact Heap.get?_push_of_some _ q1
 ·exact Nat.ne_of_gt (Heap.lt_size q1)
theorem Fd(hh:A.handled=some (.ref e)) (I ax:Addr) (hne:ax≠I) (he:e≠I) (items:Array Value) :
  Walks prog w A I [I,ax,e] [I] items.size (fun i v=>items[i]?=some v) (fun i h=>h.IsListIter I ax i/\h.IsList ax items/\cL C e h) where
 sub:=fun b hb=>by simp at hb;simp[hb]
 frame:=fun _ _ _ st hk=>⟨st.1.at fun o e=>hk I (by simp) o e,st.2.1.at fun o e=>hk ax (by simp) o e,st.2.2.kept fun o q=>hk e (by simp) o q⟩
 item:=fun i s Q E hi st hQ=>by
  refine wpAny_pyNext_list_item st.1 st.2.1 (x:=items[i]) (by simp[hi]) fun h' hit' hs'=>?_;exact hQ _ h' s.toks (by simp[hi]) ⟨hit',st.2.1.extBut hs'.extBut hne,st.2.2.kept fun o q=>hs'.extBut e o he q⟩ fun b o hb e=>hs'.extBut b o (fun h=>hb (by simp[h])) e
 done:=fun s Q E st hQ=>vz hh st.2.2 st.1 st.2.1 (by simp) fun h' he'=>hQ h' s.toks fun b o hb e=>he' b o (fun h=>hb (by simp[h])) e
 self:=fun _ _ _ _ st hQ=>wpAny_pyIter_listiter st.1 hQ
end
def yt(C a:Addr) (te:TEd):TEd:=fun Δ M Q=>te Δ M fun d M1=>M1 a=some (exC C a)/\∃ds,d=.lst ds/\ds.all oD=true/\Q (.bl (ds.any lu)) M1
section
variable{X:Cx}{C a:Addr}{p pos:Pos}{x:Expr}{te:TEd}
theorem uN(hh:X.A.in1.handled=some (.ref a)):cV X (.builtin "any") (fun xs H Q=>∃v ds M,xs=[v]/\HR X.K M H/\Rep X.K M H (.lst ds) v/\M a=some (exC C a)/\ds.all oD=true/\Q (.bl (ds.any lu)) H):=by
 intro aa s σ H xs us Q I rv h;obtain⟨v,ds,M,rfl,hr,r,em,hb,q0⟩:=h;obtain⟨u,rfl,ru⟩:=ar.one rv;obtain⟨l,vs,rfl,sq,rl⟩:=r;cases(show u=Value.ref l from ru);obtain⟨its,rv,pl,hz⟩:=I.list (SqL.of sq.1);obtain⟨ws,hxa,_⟩:=hr a _ em;have xa:cL C a s.heap:=(I.hok a _ hxa).1;have hne:l≠s.heap.objs.size:=Nat.ne_of_lt (I.hok.lt sq.1);have hae:a≠s.heap.objs.size:=Nat.ne_of_lt (I.hok.lt hxa);refine call_any_walk (wpAny_pyIter_list pl.isList ⟨s.heap.objs.size,[s.heap.objs.size,l,a],[s.heap.objs.size],its.toArray.size,_,_,fun i=>(ds[i]?.map lu).getD false,rfl,Fd (C:=C) (A:=X.A.in1) (e:=a) hh s.heap.objs.size l hne hae its.toArray,⟨⟨_,Heap.get?_push_size _ rfl,rfl,rfl⟩,?_,?_⟩,fun i v s' Q' E' hv q=>?_,fun h' tk kk=>?_⟩)
 ·obtain⟨o,e,c⟩:=pl.isList;exact⟨o,Heap.get?_push_of_some _ e,c⟩
 ·exact xa.kept fun o q=>Heap.get?_push_of_some _ q
 ·obtain⟨d,hd,rfl⟩:=mG rl rv hb (i:=i) (u:=v) (by simpa using hv);dsimp only at q;rw[hd]at q;exact wpAny_truthy_bool q
 ·have I1:Inv X aa σ H { s with heap:=h',toks:=tk }:=I.kept (t':=tk) fun b o e=>kk b o (by simpa using Nat.ne_of_lt (Heap.lt_size e)) (Heap.get?_push_of_some _ e);refine⟨.bl _,H,I1,rfl,?_⟩;rw[List.size_toArray,<-rv.length,<-rl.length,n5 (q:=lu) (fun i d hd=>by simp[hd])];exact q0
theorem Br(hh:X.A.in1.handled=some (.ref a)) (hg:Gl X "any") (hm:X.mg "any"=none) (ha:PEd X x te)
  (hs:starEach [x] X.env=(false,eval x X.env)::starEach [] X.env:=by rfl) (hpl:(backTo pos (starEach [] X.env)).any (·.1)=false:=by rfl) :
  PEd X (.Call (.Name "any" p) [x] [] pos) (yt C a te):=by
 refine(fY (uN (C:=C) hh) hg hm (by kernel_rfl) (cG ha fO hs) (by decide) (by decide) hs hpl).conv fun σ H Q hh=>?_;obtain⟨Δ,M,R,sr,hr,q,k⟩:=hh;refine⟨Δ,M,_,sr,hr,q,fun d M1 v H1 ⟨em,ds,ed,hb,q1⟩ e1 hr1 rv=>?_⟩;subst ed;exact⟨v,ds,M1,rfl,hr1,rv,em,hb,k _ M1 _ H1 q1 e1 hr1 (by simp[Rep])⟩
theorem Ds(hh:X.A.in1.handled=some (.ref a)) (hg:Gl X "any") (hm:X.mg "any"=none) (ha:QEd X x te)
  (hs:starEach [x] X.env=(false,eval x X.env)::starEach [] X.env:=by rfl) (hpl:(backTo pos (starEach [] X.env)).any (·.1)=false:=by rfl) :
  QEd X (.Call (.Name "any" p) [x] [] pos) (yt C a te):=by
 rw[QEd.eq]at *
 exact Br hh hg hm ha hs hpl
end
theorem fgX{P:Program}{w:World}{K:PySem.W.Frag}{mg:Str->Option Value}{base h:Heap}{x:Str}{st:Stmt}{f C:Addr}{fd:FuncData}{S:SpD}{k:Nat}{ps:List Str}{n:Nat}(X:K.In h) (G:h.Ns mainGlobals mg) (i:br K x st f fd) (o:aQ P w K mg base (CX1 P w C) k f fd ps (spX K n S C)) (b:c9 K fd ps []):FnX P w K mg base x k n S C:=⟨_,_,_,o,PySem.W.mg_of X G i.a,i.F.kp,b⟩
end L2
namespace My
open PySem PySem.Spec PyProof.Rows L2
noncomputable def top(i:Nat):Stmt:=PySem.Challenge.pw_wordwishes_k53_lexicons_shortened.main.body.getD i (.Pass ⟨0,0,0,0⟩)
abbrev fj:Stmt:=top 3
abbrev cZ:Stmt:=top 4
abbrev bL:Stmt:=top 5
abbrev fX:Stmt:=top 8
abbrev fL:Stmt:=top 9
abbrev dh:Stmt:=top 10
abbrev cK:Stmt:=top 11
abbrev gm:Stmt:=top 12
abbrev fV:Stmt:=top 15
abbrev gj:Stmt:=top 16
abbrev fo:Stmt:=top 17
abbrev dF:Stmt:=top 18
abbrev ik:Stmt:=top 19
abbrev dD:Stmt:=top 31
abbrev fP:Stmt:=top 32
abbrev cR:Stmt:=top 33
abbrev fk:Stmt:=top 34
abbrev bE:Stmt:=top 35
abbrev dG:Stmt:=top 36
abbrev cE:Stmt:=top 38
abbrev aV:Stmt:=top 40
abbrev bP:Stmt:=top 41
abbrev cO:Stmt:=top 43
abbrev cc:Stmt:=top 44
abbrev cS:Stmt:=top 45
abbrev jI:Stmt:=top 47
abbrev dR:Stmt:=top 48
abbrev eI:Stmt:=top 49
abbrev mH:Stmt:=top 50
abbrev kQ:Stmt:=top 51
abbrev ie:Stmt:=top 52
abbrev mI:Stmt:=top 53
abbrev cJ:Stmt:=top 54
abbrev kX:Stmt:=top 55
abbrev lR:Stmt:=top 56
abbrev dX:Stmt:=top 57
abbrev yu:Stmt:=top 58
abbrev oa:List Str:=["thing"]
theorem g7:aq oa ["thing"] (ag fj):=fsc
abbrev kq:List Str:=["thing","many"]
theorem eR:aq kq ["thing","many"] (ag cZ):=fsc
abbrev cD:List Str:=["thing"]
theorem dH:aq cD ["thing"] (ag bL):=fsc
abbrev qe:List Str:=["thing"]
theorem jw:aq qe ["thing"] (ag fX):=fsc
abbrev qr:List Str:=["thing"]
theorem iW:aq qr ["thing"] (ag fL):=fsc
abbrev fq:List Str:=["thing"]
theorem gX:aq fq ["thing"] (ag dh):=fsc
noncomputable abbrev jE:List Str:=["pairs","mark","reached","at","low","high"]
theorem dS:aq jE ["pairs","mark"] (ag cK):=fsc
abbrev qU:List Str:=["order","one","other"]
theorem jn:aq qU ["order","one","other"] (ag gm):=fsc
abbrev ql:List Str:=["thing"]
theorem jy:aq ql ["thing"] (ag fV):=fsc
abbrev rj:List Str:=["thing"]
theorem ja:aq rj ["thing"] (ag gj):=fsc
abbrev ir:List Str:=["thing"]
theorem jY:aq ir ["thing"] (ag fo):=fsc
abbrev mi:List Str:=["order","turn","one","other"]
theorem fv:aq mi ["order","turn","one","other"] (ag dF):=fsc
abbrev sM:List Str:=["order","one","other"]
theorem jX:aq sM ["order","one","other"] (ag ik):=fsc
abbrev mz:List Str:=["things"]
theorem fu:aq mz ["things"] (ag dD):=fsc
abbrev pT:List Str:=["thing"]
theorem jf:aq pT ["thing"] (ag fP):=fsc
abbrev eA:List Str:=["thing"]
theorem fM:aq eA ["thing"] (ag cR):=fsc
abbrev pB:List Str:=["thing"]
theorem gU:aq pB ["thing"] (ag fk):=fsc
abbrev bg:List Str:=["thing"]
theorem eV:aq bg ["thing"] (ag bE):=fsc
abbrev k7:List Str:=["thing"]
theorem fF:aq k7 ["thing"] (ag dG):=fsc
abbrev dB:List Str:=["order","row"]
theorem fA:aq dB ["order","row"] (ag cE):=fsc
abbrev bA:List Str:=["order","row"]
theorem ck:aq bA ["order","row"] (ag aV):=fsc
abbrev bo:List Str:=["order","row","plain","rows"]
theorem fD:aq bo ["order","row"] (ag bP):=fsc
abbrev jT:List Str:=["lexicon","entries","changed"]
theorem dY:aq jT ["lexicon","entries"] (ag cO):=fsc
abbrev cY:List Str:=["order","kinds","told","kind"]
theorem eJ:aq cY ["order","kinds"] (ag cc):=fsc
abbrev cT:List Str:=["lexicon"]
theorem gn:aq cT ["lexicon"] (ag cS):=fsc
abbrev vw:List Str:=["_law_cell","_law_sizes","_law_found","_law_size","_law_seed"]
theorem lU:aq vw ["_law_cell","_law_sizes"] (ag jI):=fsc
abbrev gd:List Str:=["_law_xs","_law_amount","_law_alphabet","_law_found","_law_k","_law_rest"]
theorem iP:aq gd ["_law_xs","_law_amount"] (ag dR):=fsc
noncomputable abbrev eU:List Str:=["_law_letters_here","_law_x","_law_found"]
theorem lG:aq eU ["_law_letters_here","_law_x"] (ag eI):=fsc
abbrev vW:List Str:=["_law_order","_law_one","_law_other","_law_found","_law_at","_law_low","_law_high"]
theorem nK:aq vW ["_law_order","_law_one","_law_other"] (ag mH):=fsc
abbrev pq:List Str:=["_law_xs","_law_marks_here","_law_most_here"]
theorem p6:aq pq ["_law_xs","_law_marks_here","_law_most_here"] (ag kQ):=fsc
abbrev sE:List Str:=["_law_order","_law_one","_law_other"]
theorem kf:aq sE ["_law_order","_law_one","_law_other"] (ag ie):=fsc
abbrev wC:List Str:=["_law_order","_law_row_here","_law_found","_law_size","_law_low","_law_high","_law_k"]
theorem mY:aq wC ["_law_order","_law_row_here"] (ag mI):=fsc
abbrev bT:List Str:=["_law_order","_law_row_here","_law_gaps_here","_law_found","_law_mask","_law_kept","_law_ends","_law_told"]
theorem mD:aq bT ["_law_order","_law_row_here"] (ag cJ):=fsc
abbrev oB:List Str:=["_law_lexicon_here","_law_entries","_law_word","_law_kinds","_law_found","_law_kind"]
theorem qW:aq oB ["_law_lexicon_here"] (ag kX):=fsc
abbrev wV:List Str:=["_law_lexicon_here","_law_seen_here","e","_law_others"]
theorem nQ:aq wV ["_law_lexicon_here"] (ag lR):=fsc
noncomputable abbrev fU:List Str:=["_law_cell","_law_xs","_law_marks_here","_law_k","_law_pairs","_law_entries","_law_names","_law_kinds","_law_j","_law_kind"]
theorem iX:aq fU ["_law_cell"] (ag dX):=fsc
abbrev Fy:List Str:=["_law_script","_law_cell","_law_lexicon_here","_law_due_here","_law_found"]
theorem yv:aq Fy ["_law_script"] (ag yu):=fsc
structure zF(K:PySem.W.Frag) (mg:Str->Option Value) (C W:Addr):Prop where
 p:CU K mg "NoLexicon" C W
 gW:mg "WishError"=some (.ref W)
 lC:∃nm q N bs bm hd sn sub ab col dd k0 k1 k2 k3 k5 newId,K.lookup C=some (excClassObj nm q C N bs bm hd sn sub ab col dd k0 k1 k2 k3 k5 newId)/\bm.contains (.ref W)=true
 lW:∃nm q N bs bm hd sn sub ab col dd k0 k1 k2 k3 k5 newId,K.lookup W=some (excClassObj nm q W N bs bm hd sn sub ab col dd k0 k1 k2 k3 k5 newId)/\bm.contains (.type "BaseException")=true
 i:rE K C
 k_ValueError:PySem.W.kitOne K (.ref C) (.type "ValueError")=some true
 k_NoDrawing:∃C2,mg "NoDrawing"=some (.ref C2)/\PySem.W.kitOne K (.ref C) (.ref C2)=some false
 k_NoText:∃C2,mg "NoText"=some (.ref C2)/\PySem.W.kitOne K (.ref C) (.ref C2)=some false
 k_NoWord:∃C2,mg "NoWord"=some (.ref C2)/\PySem.W.kitOne K (.ref C) (.ref C2)=some false
 k_NoWorld:∃C2,mg "NoWorld"=some (.ref C2)/\PySem.W.kitOne K (.ref C) (.ref C2)=some false
 k_NoLexicon:∃C2,mg "NoLexicon"=some (.ref C2)/\PySem.W.kitOne K (.ref C) (.ref C2)=some true
structure Txt(mg:Str->Option Value):Prop where
 b_isinstance:mg "isinstance"=none
 b_int:mg "int"=none
 b_bool:mg "bool"=none
 b_tuple:mg "tuple"=none
 b_len:mg "len"=none
 b_str:mg "str"=none
 b_all:mg "all"=none
 b_set:mg "set"=none
 b_range:mg "range"=none
 b_sorted:mg "sorted"=none
 b_any:mg "any"=none
 b_ValueError:mg "ValueError"=none
 b_list:mg "list"=none
 g_SMALL_LETTERS:∃t,mg "SMALL_LETTERS"=some (.str "abcdefghijklmnopqrstuvwxyz" t)
 g_MOST_LETTERS:∃t,mg "MOST_LETTERS"=some (.int 8 t)
 g_MOST_PAIRS:∃t,mg "MOST_PAIRS"=some (.int 8 t)
 g_MOST_TURN:∃t,mg "MOST_TURN"=some (.int 99 t)
 g_MOST_ENTRIES:∃t,mg "MOST_ENTRIES"=some (.int 10 t)
 g_MOST_KINDS:∃t,mg "MOST_KINDS"=some (.int 4 t)
 g_MOST_SIGNS:∃t,mg "MOST_SIGNS"=some (.int 5 t)
set_option hygiene false in
local macro_rules|`(tactic| walk_at "rd")=>`(tactic| simp only[dLS,Be,yB,yt,uK,yn,dSU,wQ,dDR,AH,Ce,yS,BJ,Dx,Bs,gN,dC,xS,rm,BW,Bh,Bc,dOp,dUn,qB,Fo,tT,AO,dCB,A7,EY,D6,Bb,EE,zN,uw,D4,EW,Fu,m9,Ew,vQ,xB,AN,yj,D9,D5,Dw,zo,yx,wo,dDT,Bi,AI,E4,HD.dKr.injEq,z7,HD.dT.injEq,HD.dK.injEq,FQ,Ek,Cw,Cz,pd,xr,dLc,Eg,F0,
 zr,Dp,zK,zz,An,yR,yL,zD,BZ,zd,Al,zm,yY,Es,E1,FN,DP,FK,EH,xQ,BF,BA,CO,Dy,Bt,De,Bn,Dm,Dd,CQ,Cu,Ez,Fz,Ey,Er,CT,C7,DT,DY,D0,yf,yD,xv,wH,EZ,EM,DW,DV,Fi,EC,En,AK,Eb,zH,uO,BO,aD,jd,
 fc,List.map_cons,List.map_nil,List.cons_append,List.nil_append,List.length_cons,List.length_nil,List.replicate,List.set_cons_zero,List.set_cons_succ,List.getElem?_cons_zero,List.getElem?_cons_succ,Option.some.injEq,exists_eq_left',exists_eq_left,D.int.injEq,D.bl.injEq,D.str.injEq,D.ref.injEq,D.tup.injEq,D.lst.injEq,true_and,and_true,if_true,decide_eq_true_eq,exists_and_left,Nat.zero_add,Nat.reduceAdd,Nat.reduceSub,EG,Ee,w9,FM,HD.lst.injEq,List.cons.injEq,or_true,true_or,and_self,↓reduceIte,Int.reduceLT,Int.reduceLE,Int.reducePow,Int.reduceNeg,Int.reduceToNat,Nat.reducePow,Nat.reduceLT,Nat.reduceLeDiff,Int.reduceAdd,Int.reduceMul,Int.reduceSub,Bool.false_eq_true,Bool.true_eq_false,if_false])
section
variable{P:Program}{w:World}{K:PySem.W.Frag}{mg:Str->Option Value}{base:Heap}{f:Addr}{fd:FuncData}
def aw(x:Str×Str):D:=.tup [.str x.1,.str x.2]
theorem iU{jz:List Str}{v:Int}(h0:0<=v) (h1:v<(jz.length:Int)):∃m∈jz,atI (jz.map D.str) v=some (.str m):=by
 obtain⟨n,rfl⟩:=Int.eq_ofNat_of_zero_le h0;have hn:n<jz.length:=by lia
 exact⟨jz[n],List.getElem_mem hn,bC (by simp[hn])⟩
theorem oS{xs:List D}{n:Nat}:L2.c7 xs none (some (n:Int))=xs.take n:=by
 unfold L2.c7;rw[HT.sIx_none,HT.sIx_nat,List.drop_zero,Nat.sub_zero]
 by_cases h:n<=xs.length
 ·rw[Nat.min_eq_left h]
 ·rw[Nat.min_eq_right (by lia),List.take_length,List.take_of_length_le (by lia)]
theorem qJ{xs:List D}{n:Nat}:L2.c7 xs (some (n:Int)) none=xs.drop n:=by
 unfold L2.c7;rw[HT.sIx_none,HT.sIx_nat]
 by_cases h:n<=xs.length
 ·rw[Nat.min_eq_left h,List.take_of_length_le (by simp)]
 ·rw[Nat.min_eq_right (by lia),Nat.sub_self,List.take_zero,List.drop_of_length_le (by lia)]
theorem bQ{lo:Int}{n:Nat}:(mM lo n).length=n:=by simp[mM]
inductive cm (ord:List (Str×Str)) (a:Str):Str->Prop
 |refl:cm ord a a
 |step {b c:Str}:cm ord a b->(b,c)∈ord->cm ord a c
theorem qM{ord:List (Str×Str)}{a x:Str}{L:List Str}(h0:a∈L) (hc:∀y∈ord,y.1∈L->y.2∈L) (h:cm ord a x):x∈L:=by
 induction h with
 |refl=>exact h0
 |step _ hm ih=>exact hc _ hm ih
def eP:SpD:=fun ds M R=>∃(ord:List (Str×Str)) (a:Str),ds=[.tup (ord.map aw),.str a]/\ord.length<=500 /\
 ∀L:List Str,a∈L->(∀y∈ord,y.1∈L->y.2∈L)->(∀x∈L,cm ord a x)->L.length<=ord.length+1->R (.lst (L.map .str)) M
abbrev tIn:TSd:=xS (tT (qB (dOp eqF (gN 4) (dOp ixD (gN 2) (gN 3)))) (qB (dOp (inE true) (gN 5) (gN 2)))) (uw (zN (gN 2) (gN 5))) rm
theorem gJ{q:Addr}{E:dU}{M:DH}(hq:M q=none) (ps:D) (a:Str) (ord:List (Str×Str)) (hord:ord.length<=500) (i:Nat) (L0:List Str) (hi:i<L0.length):∀(todo done:List (Str×Str)) (x4 x5:Option D) (L:List Str),ord=done++todo->(∃t,L=L0++t)->L.Nodup->(∀x∈L,cm ord a x)->(∀x∈L,x∈a::ord.map (·.2))->(∀y∈done,y.1=L0[i]->y.2∈L) ->
  (∀(y4 y5:Option D) (L':List Str),(∃t,L'=L0++t)->L'.Nodup->(∀x∈L',cm ord a x)->(∀x∈L',x∈a::ord.map (·.2))->(∀y∈ord,y.1=L0[i]->y.2∈L')->E.nx [some ps,some (.str a),some (.ref q),some (.int i),y4,y5] (aG M q (.lst (L'.map .str)))) ->
  bW (j9 (eB (cy 4) (eB (cy 5) ni)) 2) tIn E (todo.map aw) [some ps,some (.str a),some (.ref q),some (.int i),x4,x5] (aG M q (.lst (L.map .str)))
 |[],done,x4,x5,L,ho,ht,hn,hs,hb,hd,k=>by
  simp only[List.map_nil,bW];exact k x4 x5 L ht hn hs hb (by rw[ho,List.append_nil];exact hd)
 |(b,c)::todo,done,x4,x5,L,ho,⟨t,ht⟩,hn,hs,hb,hd,k=>by
  have hiL:i<L.length:=by rw[ht];simp;lia
  have eL:L[i]=L0[i]:=by subst ht;simp[hi]
  have eat:atI (L.map D.str) (i:Int)=some (.str L[i]):=bC (by simp[hiL]);have bD:L.length<=ord.length+1:=by
   have:=cM L (a::ord.map (·.2)) hn hb;simpa using this
  simp only[List.map_cons,aw,bW,j9,eB,cy,ni,Option.bind_some];refine⟨_,rfl,?_⟩;walk_at "rd";refine⟨_,eat,?_⟩;walk_at "rd";have ho':ord=(done++[(b,c)])++todo:=by rw[ho];simp
  have hmem:(b,c)∈ord:=by rw[ho];simp
  refine fK (fun h=>?_) (fun h=>?_)
  ·have hbe:b=L0[i]:=by rw[<-eL];simpa using h
   refine⟨_,if_pos ⟨rfl,jt⟩,_,rfl,?_⟩;rw[gb]
   by_cases hc:c∈L
   ·simp only[hc,decide_true,Bool.xor_true,Bool.not_true,Bool.false_eq_true,if_false];exact gJ hq ps a ord hord i L0 hi todo (done++[(b,c)]) _ _ L ho' ⟨t,ht⟩ hn hs hb (fun y hy hy1=>by
     rcases List.mem_append.mp hy with h|h
     ·exact hd y h hy1
     ·have:y=(b,c):=by simpa using h
      subst this;exact hc) k
   ·simp only[hc,decide_false,Bool.xor_false,if_true];refine⟨by rw[List.length_map];exact Nat.lt_of_lt_of_le (by lia:L.length<1000) (sz3 1000),?_⟩;have ea:L.map D.str++[D.str c]=(L++[c]).map D.str:=by simp
    rw[ea];refine gJ hq ps a ord hord i L0 hi todo (done++[(b,c)]) _ _ (L++[c]) ho' ⟨t++[c],by rw[ht];simp⟩ ?_ (fun x hx=>?_) (fun x hx=>?_) (fun y hy hy1=>?_) k
    ·rw[List.nodup_append];refine⟨hn,by simp,fun u hu v hv=>?_⟩;have:v=c:=by simpa using hv
     subst this;rintro rfl;exact hc hu
    ·rcases List.mem_append.mp hx with h|h
     ·exact hs x h
     ·have:x=c:=by simpa using h
      subst this;exact cm.step (hs b (by rw[hbe,<-eL];exact List.getElem_mem hiL)) hmem
    ·rcases List.mem_append.mp hx with h|h
     ·exact hb x h
     ·have:x=c:=by simpa using h
      subst this;exact List.mem_cons_of_mem _ (List.mem_map.mpr ⟨_,hmem,rfl⟩)
    ·rcases List.mem_append.mp hy with h|h
     ·exact List.mem_append_left _ (hd y h hy1)
     ·have:y=(b,c):=by simpa using h
      subst this;simp
  ·exact gJ hq ps a ord hord i L0 hi todo (done++[(b,c)]) _ _ L ho' ⟨t,ht⟩ hn hs hb (fun y hy hy1=>by
    rcases List.mem_append.mp hy with h'|h'
    ·exact hd y h' hy1
    ·have:y=(b,c):=by simpa using h'
     subst this;exact absurd (by rw[eL];simpa using hy1) h) k
theorem iN(F:Fun K "reached_from" "reached_from" cK f fd) (T:Txt mg) :aQ P w K mg base CX0 1 f fd ["pairs","mark"] (spD K 2 eP):=by
 have nd:=dS.nd;refine F.okR rfl dS (fun cdv A outer s H E hr=>⟨_,(am (aR (i:=2) nd rfl (Or.inl rfl) (eD (af (ae 1) ah)))
   (am (aR (i:=3) nd rfl (Or.inl rfl) ai)
   (am (pe PassesOwn.never (aZ BQ (ae 3) (au bv rfl T.b_len (by kernel_rfl) (af (ae 2) ah)) nbh) (am (dO PassesOwn.never rfl (aT (ae 0)) (v9 rfl (jL (bH (i:=4) nd rfl (Or.inl rfl)) (jL (bH (i:=5) nd rfl (Or.inl rfl)) wL))) (ao (dQ (sk (iw (aZ (mm hr.units) (ae 4) (aO aN (ae 2) (ae 3) (fun _ _=>rfl)) nbh) (ji (aZ kY (ae 5) (ae 2) rfl)))) (ao (dv (j0 (ae 2) (ae 5)))) cp)))
   (ao (E8 (i:=3) nd rfl (Or.inl rfl) ai CV))))
   (ao (ox (ae 2)))))),fun ds M R _ hS bk=>?_⟩)
 obtain⟨ord,a,rfl,ho,k⟩:=hS;refine bk ?_;clear bk;walk_at "rd";refine⟨sz3 1,fun q hq=>?_⟩;refine⟨fun m Δ M'=>∃(i:Nat) (L:List Str) (x4 x5:Option D),Δ=[some (D.tup (ord.map aw)),some (D.str a),some (D.ref q),some (D.int i),x4,x5]/\M'=aG M q (.lst (L.map .str))/\i<=L.length/\L.Nodup/\a∈L/\(∀x∈L,cm ord a x)/\(∀x∈L,x∈a::ord.map (·.2))/\(∀y∈ord,∀j,j<i->L[j]?=some y.1->y.2∈L)/\m=ord.length+1-i,
  ⟨_,0,[a],none,none,rfl,rfl,Nat.zero_le _,by simp,by simp,fun x hx=>by
   have:x=a:=by simpa using hx
   subst this;exact cm.refl,fun x hx=>by
   have:x=a:=by simpa using hx
   subst this;simp,fun y _ j hj=>absurd hj (by lia),rfl⟩,?_⟩
 intro m Δ M' hI;refine shr fun _ bk=>?_;obtain⟨i,L,x4,x5,rfl,rfl,hiL,hn,ha,hs,hb,hp,rfl⟩:=hI;refine bk ?_;clear bk;have bD:L.length<=ord.length+1:=by
  have:=cM L (a::ord.map (·.2)) hn hb;simpa using this
 walk_at "rd";rw[List.length_map];refine fK (fun h=>?_) (fun h=>?_)
 ·have hi:i<L.length:=by lia
  intro hz;refine gJ hq _ a ord ho i L hi ord [] x4 x5 L rfl ⟨[],by simp⟩ hn hs hb (fun y hy=>absurd hy (by simp)) (fun y4 y5 L' hL' hn' hs' hb' hd'=>?_);obtain⟨t,rfl⟩:=hL';walk_at "rd";refine⟨ord.length+1-(i+1),by lia,i+1,L++t,y4,y5,?_,rfl,by simp;lia,hn',List.mem_append_left _ ha,hs',hb',fun y hy j hj hjy=>?_,rfl⟩
  ·simp
  ·by_cases hji:j=i
   ·subst hji;refine hd' y hy ?_;rw[List.getElem?_append_left hi,List.getElem?_eq_getElem hi]at hjy;exact(Option.some.inj hjy).symm
   ·rw[List.getElem?_append_left (by lia)]at hjy;exact List.mem_append_left _ (hp y hy j (by lia) hjy)
 ·rw[jr hq];refine k L ha (fun y hy hy1=>?_) hs bD;obtain⟨j,hj,e⟩:=List.mem_iff_getElem.mp hy1;exact hp y hy j (by lia) (by rw[List.getElem?_eq_getElem hj,e])
def aK(x:Str×Int):D:=.tup [.str x.1,.int x.2]
theorem kK{α:Type}{f:α->D}(hf:∀x y,f x=f y->x=y):∀{xs ys:List α},xs.map f=ys.map f->xs=ys
 |[],[],_=>rfl
 |[],_::_,h=>by simp at h
 |_::_,[],h=>by simp at h
 |x::xs,y::ys,h=>by
  simp only[List.map_cons,List.cons.injEq]at h;rw[hf _ _ h.1,kK hf h.2]
theorem jP:∀x y,aw x=aw y->x=y:=fun⟨a,b⟩ ⟨c,d⟩ h=>by simpa[aw]using h
def uJ(ord:List (Str×Str)) (t:Int) (a b:Str):Prop:=if t % 2=0 then cm ord a b else cm ord b a
open Classical in
def rB(ord:List (Str×Str)) (a b:Str):Bool:=decide (cm ord a b)
open Classical in
def lB(ord:List (Str×Str)) (t:Int) (a b:Str):Bool:=decide (uJ ord t a b)
theorem o3{ord:List (Str×Str)}{a b:Str}:rB ord a b=true↔cm ord a b:=by simp[rB]
theorem yq{ord:List (Str×Str)}{t:Int}{a b:Str}:lB ord t a b=true↔uJ ord t a b:=by simp[lB]
theorem uA{ord:List (Str×Str)}{t:Int}{a b:Str}(h:t % 2=0):lB ord t a b=rB ord a b:=by rw[Bool.eq_iff_iff,yq,o3,uJ,if_pos h]
theorem xF{ord:List (Str×Str)}{t:Int}{a b:Str}(h:¬ t % 2=0):lB ord t a b=rB ord b a:=by rw[Bool.eq_iff_iff,yq,o3,uJ,if_neg h]
def fT:SpD:=fun ds M R=>∃(ord:List (Str×Str)) (a b:Str),ds=[.tup (ord.map aw),.str a,.str b]/\ord.length<=500/\R (.bl (rB ord a b)) M
def dP:SpD:=fun ds M R=>∃(ord:List (Str×Str)) (t:Int) (a b:Str),ds=[.tup (ord.map aw),.int t,.str a,.str b]/\ord.length<=500/\R (.bl (lB ord t a b)) M
def fe:SpD:=fun ds M R=>∃(ord:List (Str×Str)) (x y:Str×Int),ds=[.tup (ord.map aw),aK x,aK y]/\ord.length<=500/\R (.bl (x.2+1==y.2&&lB ord x.2 x.1 y.1)) M
theorem mK{ord:List (Str×Str)}{a b:Str}{M:DH}{R:D->DH->Prop}:fT [.tup (ord.map aw),.str a,.str b] M R↔ord.length<=500/\R (.bl (rB ord a b)) M :=
 ⟨fun⟨o,c,d,e,h1,h2⟩=>by
  simp only[List.cons.injEq,D.tup.injEq,D.str.injEq,and_true]at e;obtain⟨e1,e2,e3⟩:=e;rw[kK jP e1,e2,e3];exact⟨h1,h2⟩,fun h=>⟨ord,a,b,rfl,h⟩⟩
theorem jG{ord:List (Str×Str)}{t:Int}{a b:Str}{M:DH}{R:D->DH->Prop}:dP [.tup (ord.map aw),.int t,.str a,.str b] M R↔ord.length<=500/\R (.bl (lB ord t a b)) M :=
 ⟨fun⟨o,u,c,d,e,h1,h2⟩=>by
  simp only[List.cons.injEq,D.tup.injEq,D.str.injEq,D.int.injEq,and_true]at e;obtain⟨e1,e0,e2,e3⟩:=e;rw[kK jP e1,e0,e2,e3];exact⟨h1,h2⟩,fun h=>⟨ord,t,a,b,rfl,h⟩⟩
theorem oK{ord:List (Str×Str)}{a b:Str}{t u:Int}{M:DH}{R:D->DH->Prop}:fe [.tup (ord.map aw),.tup [.str a,.int t],.tup [.str b,.int u]] M R↔ord.length<=500/\R (.bl (t+1==u&&lB ord t a b)) M :=
 ⟨fun⟨o,⟨c,v⟩,⟨d,w⟩,e,h1,h2⟩=>by
  simp only[aK,List.cons.injEq,D.tup.injEq,D.str.injEq,D.int.injEq,and_true]at e;obtain⟨e1,⟨e2,e3⟩,e4,e5⟩:=e;rw[kK jP e1,e2,e3,e4,e5];exact⟨h1,h2⟩,fun h=>⟨ord,(a,t),(b,u),rfl,h⟩⟩
theorem og(F:Fun K "at_most" "at_most" gm f fd) (T:Txt mg) (G8:FnD P w K mg base "reached_from" 1 2 eP):aQ P w K mg base CX0 2 f fd ["order","one","other"] (spD K 3 fT):=by
 have nd:=jn.nd;refine F.okR rfl jn (fun cdv A outer s H E hr=>⟨_,(ao (a7 (iG wU (ae 2) (qd G8 hr (af (ae 0) (af (ae 1) ah))) rfl))),fun ds M R _ hS bk=>?_⟩);obtain⟨ord,a,b,rfl,ho,k⟩:=hS;refine bk ?_;clear bk;walk_at "rd";refine⟨ord,a,rfl,ho,fun L h1 h2 h3 h4=>?_⟩;refine⟨_,if_pos ⟨rfl,jt⟩,?_⟩;rw[gb];have e:(false ^^ decide (b∈L))=rB ord a b:=by
  rw[Bool.false_xor,Bool.eq_iff_iff,o3,decide_eq_true_eq];exact⟨fun h=>h3 b h,fun h=>qM h1 h2 h⟩
 rw[e];exact k
theorem ku(F:Fun K "mark_leads" "mark_leads" dF f fd) (T:Txt mg) (Y5:FnD P w K mg base "at_most" 2 3 fT):aQ P w K mg base CX0 3 f fd ["order","turn","one","other"] (spD K 4 dP):=by
 have nd:=fv.nd;refine F.okR rfl fv (fun cdv A outer s H E hr=>⟨_,(am (dQ (aZ (mm hr.units) (av bS (ae 1) ai) ai nbh) (ao (a7 (qd Y5 hr (af (ae 0) (af (ae 2) (af (ae 3) ah)))))) cp)
   (ao (a7 (qd Y5 hr (af (ae 0) (af (ae 3) (af (ae 2) ah))))))),fun ds M R _ hS bk=>?_⟩)
 obtain⟨ord,t,a,b,rfl,ho,k⟩:=hS;refine bk ?_;clear bk;walk_at "rd";simp only[mK];refine fK (fun h=>?_) (fun h=>?_)
 ·have h':t % 2=0:=by simpa using h
  rw[uA h']at k;exact⟨ho,k⟩
 ·have h':¬ t % 2=0:=by simpa using h
  rw[xF h']at k;exact⟨ho,k⟩
theorem qf(F:Fun K "cancel" "cancel" ik f fd) (T:Txt mg) (Y3:FnD P w K mg base "mark_leads" 3 4 dP):aQ P w K mg base CX0 4 f fd ["order","one","other"] (spD K 3 fe):=by
 have nd:=jX.nd;refine F.okR rfl jX (fun cdv A outer s H E hr=>⟨_,(ao (a7 (bG (iG (mm hr.units) (av aP (aO aN (ae 1) ai (fun _ _=>rfl)) ai) (aO aN (ae 2) ai (fun _ _=>rfl)) nbh) (ef (qd Y3 hr (af (ae 0) (af (aO aN (ae 1) ai (fun _ _=>rfl)) (af (aO aN (ae 1) ai (fun _ _=>rfl)) (af (aO aN (ae 2) ai (fun _ _=>rfl)) ah))))))))),fun ds M R _ hS bk=>?_⟩);obtain⟨ord,⟨a,t⟩,⟨b,u⟩,rfl,ho,k⟩:=hS;refine bk ?_;clear bk;simp only[aK];walk_at "rd";simp only[jG];refine fK (fun h=>?_) (fun h=>?_)
 ·simp only[h,Bool.true_and]at k;exact⟨ho,k⟩
 ·simp only[h,Bool.false_and]at k;exact k
theorem aS{α:Type}{g:GD}{tc:TTd}{te:TEd}{M:DH}{Q:List D->DH->Prop}(enc:α->D) (b:α->Bool) (y:α->D) (Ok:DE->Prop):∀(xs:List α) (Δ:DE) (acc:List D),
  (∀x∈xs,∀ Δ,Ok Δ->∃ Δ',g (enc x) Δ=some Δ'/\Ok Δ'/\(∀Q1:Bool->DH->Prop,Q1 (b x) M->tc Δ' M Q1)/\(b x=true->∀Q2:D->DH->Prop,Q2 (y x) M->te Δ' M Q2))->Ok Δ ->
  Q (acc++(xs.filter b).map y) M->dA g tc te (xs.map enc) Δ M acc Q
 |[],Δ,acc,_,_,q=>by simpa[dA]using q
 |x::xs,Δ,acc,h,hΔ,q=>by
  rw[List.map_cons];simp only[dA];obtain⟨Δ',e,hΔ',h1,h2⟩:=h x (.head _) Δ hΔ;refine⟨Δ',e,h1 _ ?_⟩;have ih:=fun acc' q'=>aS (Q:=Q) enc b y Ok xs Δ' acc' (fun z hz=>h z (.tail _ hz)) hΔ' q';cases hb:b x with
  |true =>
   simp only[if_true];refine h2 hb _ (ih _ ?_);rw[List.filter_cons_of_pos hb]at q;simpa using q
  |false =>
   simp only[Bool.false_eq_true,if_false];refine ih _ ?_;rw[List.filter_cons_of_neg (by simp[hb])]at q;exact q
theorem tw{α:Type} [DecidableEq α] (f:α->D) (hf:∀x y,eqD (f x) (f y)=decide (x=y)):∀{a b:List α},bZ (a.map f) (b.map f)=decide (a=b)
 |[],[]=>by simp[bZ]
 |[],_::_=>by simp[bZ]
 |_::_,[]=>by simp[bZ]
 |x::a,y::b=>by
  rw[List.map_cons,List.map_cons,bZ,tw f hf (a:=a) (b:=b),hf];simp
theorem yl{α:Type}(f:α->D) (hf:∀x,dLe (f x) 59=true) {a:List α}:cn (a.map f) 59=true:=by
 rw[eF];intro d hd;obtain⟨x,_,rfl⟩:=List.mem_map.mp hd;exact hf x
def cB(ord:List (Str×Str)) (x y:Str×Int):Bool:=x.2+1==y.2&&lB ord x.2 x.1 y.1
theorem qw{ord:List (Str×Str)}{x y:Str×Int}{M:DH}{R:D->DH->Prop}:fe [.tup (ord.map aw),aK x,aK y] M R↔ord.length<=500/\R (.bl (cB ord x y)) M:=oK (a:=x.1) (b:=y.1) (t:=x.2) (u:=y.2)
def sg(row:List (Str×Int)) (i:Nat):Str×Int:=row.getD i ("",0)
theorem lZ{row:List (Str×Int)}{i:Nat}(h:i<row.length):atI (row.map aK) (i:Int)=some (aK (sg row i)):=by
 refine bC ?_;rw[List.getElem?_map,List.getElem?_eq_getElem h];simp[sg,h]
inductive Gp {T:Type}(c:T->T->Bool):List T->Prop
 |nil:Gp c []
 |step {a b:T} {xs ys:List T}:c a b=true->Gp c xs->Gp c ys->Gp c (a::(xs++b::ys))
inductive Kp {T:Type}(c:T->T->Bool):List T->List T->Prop
 |nil {g:List T}:Gp c g->Kp c g []
 |cons {t:T} {g r ts:List T}:Gp c g->Kp c r ts->Kp c (g++t::r) (t::ts)
def Cn{T:Type}(c:T->T->Bool) (r s:List T):Prop:=∃xs a b ys,r=xs++a::b::ys/\c a b=true/\s=xs++ys
def Rt{T:Type}(c:T->T->Bool):Nat->List T->List T->Prop
 |0,r,s=>r=s
 |n+1,r,s=>∃m,Rt c n r m/\Cn c m s
section
variable{T:Type}{c:T->T->Bool}
theorem nG{α:Type}{p q xs ys:List α}(h:p++q=xs++ys):(∃z,p=xs++z/\ys=z++q)∨∃z,xs=p++z/\q=z++ys:=by
 rcases List.append_eq_append_iff.mp h with⟨z,h1,h2⟩|⟨z,h1,h2⟩
 ·exact .inr ⟨z,h1,h2⟩
 ·exact .inl ⟨z,h1,h2⟩
theorem Gp.ins{a b:T}(hc:c a b=true):∀{g:List T},Gp c g->∀xs ys,g=xs++ys->Gp c (xs++a::b::ys):=by
 intro g hg
 induction hg with
 |nil =>
  intro xs ys e;obtain⟨rfl,rfl⟩:=List.append_eq_nil_iff.mp e.symm;exact Gp.step (xs:=[]) (ys:=[]) hc .nil .nil
 |@step u v p q huv hp hq ihp ihq =>
  intro xs ys e;cases xs with
  |nil =>
   rw[List.nil_append]at e ⊢;rw[<-e];exact Gp.step (xs:=[]) hc .nil (.step huv hp hq)
  |cons x xs =>
   rw[List.cons_append]at e;obtain⟨rfl,e1⟩:=List.cons.inj e;rcases nG e1 with⟨z,rfl,rfl⟩|⟨z,rfl,e2⟩
   ·have:=Gp.step huv (ihp xs z rfl) hq;simpa using this
   ·cases z with
    |nil =>
     rw[List.nil_append]at e2;subst e2;have:=Gp.step huv (ihp p [] (by simp)) hq;simpa using this
    |cons y z =>
     rw[List.cons_append]at e2;obtain⟨rfl,e3⟩:=List.cons.inj e2;have:=Gp.step huv hp (ihq z ys e3);simpa using this
theorem Kp.ins{a b:T}(hc:c a b=true):∀{r told:List T},Kp c r told->∀xs ys,r=xs++ys->Kp c (xs++a::b::ys) told:=by
 intro r told h
 induction h with
 |nil hg=>intro xs ys e;exact .nil (hg.ins hc xs ys e)
 |@cons t g r ts hg hr ih =>
  intro xs ys e;rcases nG e with⟨z,rfl,rfl⟩|⟨z,rfl,e2⟩
  ·have:=Kp.cons (t:=t) (hg.ins hc xs z rfl) hr;simpa using this
  ·cases z with
   |nil =>
    rw[List.nil_append]at e2;subst e2;have:=Kp.cons (t:=t) (hg.ins hc g [] (by simp)) hr;simpa using this
   |cons y z =>
    rw[List.cons_append]at e2;obtain⟨rfl,e3⟩:=List.cons.inj e2;have:=Kp.cons (t:=t) hg (ih z ys e3);simpa using this
theorem Kp.self:∀r:List T,Kp c r r
 |[]=>.nil .nil
 |t::r=>Kp.cons (g:=[]) .nil (Kp.self r)
theorem Rt.kp:∀{n:Nat}{r m told:List T},Rt c n r m->Kp c m told->Kp c r told
 |0,r,m,told,h,k=>by cases h;exact k
 |n+1,r,m,told,⟨m',h1,xs,a,b,ys,e1,hc,e2⟩,k=>by
  subst e1;exact h1.kp (k.ins hc xs ys e2)
theorem Rt.trans:∀{n m:Nat}{r s t:List T},Rt c n r s->Rt c m s t->Rt c (n+m) r t
 |n,0,r,s,t,h1,h2=>by cases h2;exact h1
 |n,m+1,r,s,t,h1,⟨x,h2,h3⟩=>⟨x,Rt.trans h1 h2,h3⟩
theorem Rt.ctx(xs ys:List T):∀{n:Nat}{r s:List T},Rt c n r s->Rt c n (xs++r++ys) (xs++s++ys)
 |0,r,s,h=>by cases h;rfl
 |n+1,r,s,⟨m,h1,us,a,b,vs,e1,hc,e2⟩=>⟨_,Rt.ctx xs ys h1,xs++us,a,b,vs++ys,by rw[e1];simp,hc,by rw[e2];simp⟩
theorem Gp.rt{g:List T}(h:Gp c g):∃n,Rt c n g []:=by
 induction h with
 |nil=>exact⟨0,rfl⟩
 |@step a b p q hc hp hq ihp ihq =>
  obtain⟨n,h1⟩:=ihp;obtain⟨m,h2⟩:=ihq;have r1:=h1.ctx [a] (b::q);have r2:Rt c 1 ([a]++[]++b::q) q:=⟨_,rfl,[],a,b,q,rfl,hc,rfl⟩;have e:a::(p++b::q)=[a]++p++b::q:=by simp
  exact⟨_,e▸(r1.trans r2).trans h2⟩
theorem Kp.rt{r told:List T}(h:Kp c r told):∃n,Rt c n r told:=by
 induction h with
 |nil hg=>exact hg.rt
 |@cons t g r ts hg hr ih =>
  obtain⟨n,h1⟩:=hg.rt;obtain⟨m,h2⟩:=ih;have r1:=h1.ctx [] (t::r);have r2:=h2.ctx [t] [];rw[List.append_nil,List.append_nil]at r2;exact⟨n+m,Rt.trans (s:=t::r) (by simpa using r1) (by simpa using r2)⟩
theorem vX{r told:List T}:(∃n,Rt c n r told)↔Kp c r told:=⟨fun⟨_,h⟩=>h.kp (Kp.self told),Kp.rt⟩
theorem Cn.len{r s:List T}(h:Cn c r s):r.length=s.length+2:=by
 obtain⟨xs,a,b,ys,rfl,_,rfl⟩:=h;simp;lia
theorem Rt.len:∀{n:Nat}{r s:List T},Rt c n r s->r.length=s.length+2*n
 |0,_,_,h=>by cases h;rfl
 |n+1,_,_,⟨m,h1,h2⟩=>by have:=h1.len;have:=h2.len;lia
def KpP(c:T->T->Bool) (row:List T) (lo:Nat):List Nat->Prop
 |[]=>Gp c (row.drop lo)
 |p::ps=>lo<=p/\p<row.length/\Gp c ((row.drop lo).take (p-lo))/\KpP c row (p+1) ps
theorem mE{row:List T}{lo p:Nat}{x:T}(h1:lo<=p) (hx:row[p]?=some x):row.drop lo=(row.drop lo).take (p-lo)++x::row.drop (p+1):=by
 have lt:p<row.length:=(List.getElem?_eq_some_iff.mp hx).1;have e:row.drop p=x::row.drop (p+1):=by
  rw[List.drop_eq_getElem_cons lt];rw[List.getElem?_eq_getElem lt]at hx;rw[Option.some.inj hx]
 have e2:row.drop lo=(row.drop lo).take (p-lo)++(row.drop lo).drop (p-lo):=(List.take_append_drop _ _).symm;rw[List.drop_drop,show lo+(p-lo)=p by lia,e]at e2;exact e2
theorem KpP.kp{row:List T}:∀{ps:List Nat}{lo:Nat},KpP c row lo ps->∀told,told.map some=ps.map (row[·]?)->Kp c (row.drop lo) told
 |[],lo,h,told,e=>by
  have:told=[]:=by simpa using e
  subst this;exact .nil h
 |p::ps,lo,⟨h1,h2,h3,h4⟩,told,e=>by
  cases told with
  |nil=>simp at e
  |cons t told =>
   simp only[List.map_cons,List.cons.injEq]at e;rw[mE h1 e.1.symm];exact .cons h3 (KpP.kp h4 told e.2)
theorem Kp.places{row:List T}{r told:List T}(h:Kp c r told):∀lo,r=row.drop lo->lo<=row.length->∃ps,KpP c row lo ps/\told.map some=ps.map (row[·]?)/\ps.Pairwise (·<·)/\∀p∈ps,lo<=p/\p<row.length:=by
 induction h with
 |nil hg=>intro lo e _;exact⟨[],by subst e;exact hg,rfl,.nil,fun _ z=>by cases z⟩
 |@cons t g r ts hg hr ih =>
  intro lo e hlo;have hx:row[lo+g.length]?=some t:=by
   have:(row.drop lo)[g.length]?=some t:=by rw[<-e];simp
   rwa [List.getElem?_drop]at this
  have lt:=(List.getElem?_eq_some_iff.mp hx).1;have er:r=row.drop (lo+g.length+1):=by
   have:=congrArg (List.drop (g.length+1)) e;rw[List.drop_drop]at this;rw[show lo+g.length+1=lo+(g.length+1)by lia,<-this,List.drop_append,List.drop_of_length_le (by lia)];simp
  obtain⟨ps,h1,h2,h3,h4⟩:=ih _ er (by lia);refine⟨(lo+g.length)::ps,⟨by lia,lt,?_,h1⟩,?_,?_,?_⟩
  ·have:=congrArg (List.take g.length) e;rw[List.take_left]at this;rw[show lo+g.length-lo=g.length by lia,<-this];exact hg
  ·simp only[List.map_cons,hx,h2]
  ·rw[List.pairwise_cons];exact⟨fun p hp=>by have:=(h4 p hp).1;lia,h3⟩
  ·intro p hp;rcases List.mem_cons.mp hp with rfl|hp
   ·exact⟨by lia,lt⟩
   ·have:=h4 p hp;lia
theorem tH(f:Nat->Bool):∀n,∃m,m<2 ^ n/\∀k,k<n->(m / 2 ^ k % 2=1↔f k=true)
 |0=>⟨0,by simp,fun k h=>by lia⟩
 |n+1=>by
  obtain⟨m,h1,h2⟩:=tH f n;have p2:2 ^ (n+1)=2*2 ^ n:=by rw[Nat.pow_succ];lia
  cases hf:f n with
  |false =>
   refine⟨m,by lia,fun k hk=>?_⟩;rcases Nat.lt_or_ge k n with q|q
   ·exact h2 k q
   ·obtain rfl:k=n:=by lia
    rw[Nat.div_eq_of_lt h1,hf];simp
  |true =>
   refine⟨2 ^ n+m,by lia,fun k hk=>?_⟩;rcases Nat.lt_or_ge k n with q|q
   ·rw[<-h2 k q];have e:2 ^ n=2 ^ k*(2*2 ^ (n-k-1)):=by
     rw[<-Nat.mul_assoc,<-Nat.pow_succ,<-Nat.pow_add];congr 1;lia
    rw[e,Nat.mul_add_div (Nat.two_pow_pos k),Nat.mul_add_mod]
   ·obtain rfl:k=n:=by lia
    rw[Nat.add_div_left _ (Nat.two_pow_pos k),Nat.div_eq_of_lt h1,hf];simp
theorem vp{n:Nat}{ps:List Nat}(h1:ps.Pairwise (·<·)) (h2:∀p∈ps,p<n):(List.range n).filter (fun k=>decide (k∈ps))=ps:=by
 have hp:((List.range n).filter (fun k=>decide (k∈ps))).Pairwise (·<·):=List.pairwise_lt_range.sublist List.filter_sublist;refine List.Perm.eq_of_pairwise (le:=(·<·)) (fun a b _ _ x y=>by lia) hp h1 ?_;rw[List.perm_iff_count];intro a;have n1:((List.range n).filter (fun k=>decide (k∈ps))).Nodup:=hp.imp fun h=>by lia
 have n2:ps.Nodup:=h1.imp fun h=>by lia
 rw[n1.count,n2.count];have:a∈(List.range n).filter (fun k=>decide (k∈ps))↔a∈ps:=by
  rw[List.mem_filter,List.mem_range,decide_eq_true_eq];exact⟨fun h=>h.2,fun h=>⟨h2 a h,h⟩⟩
 simp only[this]
end
abbrev GE:TSd:=xS (tT (qB (dOp eqF (gN 5) (dOp ixD (gN 3) (gN 4)))) (qB (dOp (inE true) (gN 6) (gN 3)))) (uw (zN (gN 3) (gN 6))) rm
theorem jb{q:Addr}{E:dU}{M:DH}(hq:M q=none) (ps oth:D) (a:Str) (ord:List (Str×Str)) (hord:ord.length<=500) (i:Nat) (L0:List Str) (hi:i<L0.length):∀(todo done:List (Str×Str)) (x4 x5:Option D) (L:List Str),ord=done++todo->(∃t,L=L0++t)->L.Nodup->(∀x∈L,cm ord a x)->(∀x∈L,x∈a::ord.map (·.2))->(∀y∈done,y.1=L0[i]->y.2∈L) ->
  (∀(y4 y5:Option D) (L':List Str),(∃t,L'=L0++t)->L'.Nodup->(∀x∈L',cm ord a x)->(∀x∈L',x∈a::ord.map (·.2))->(∀y∈ord,y.1=L0[i]->y.2∈L')->E.nx [some ps,some (.str a),some oth,some (.ref q),some (.int i),y4,y5] (aG M q (.lst (L'.map .str)))) ->
  bW (j9 (eB (cy 5) (eB (cy 6) ni)) 2) GE E (todo.map aw) [some ps,some (.str a),some oth,some (.ref q),some (.int i),x4,x5] (aG M q (.lst (L.map .str)))
 |[],done,x4,x5,L,ho,ht,hn,hs,hb,hd,k=>by
  simp only[List.map_nil,bW];exact k x4 x5 L ht hn hs hb (by rw[ho,List.append_nil];exact hd)
 |(b,c)::todo,done,x4,x5,L,ho,⟨t,ht⟩,hn,hs,hb,hd,k=>by
  have hiL:i<L.length:=by rw[ht];simp;lia
  have eL:L[i]=L0[i]:=by subst ht;simp[hi]
  have eat:atI (L.map D.str) (i:Int)=some (.str L[i]):=bC (by simp[hiL]);have bD:L.length<=ord.length+1:=by
   have:=cM L (a::ord.map (·.2)) hn hb;simpa using this
  simp only[List.map_cons,aw,bW,j9,eB,cy,ni,Option.bind_some];refine⟨_,rfl,?_⟩;walk_at "rd";refine⟨_,eat,?_⟩;walk_at "rd";have ho':ord=(done++[(b,c)])++todo:=by rw[ho];simp
  have hmem:(b,c)∈ord:=by rw[ho];simp
  refine fK (fun h=>?_) (fun h=>?_)
  ·have hbe:b=L0[i]:=by rw[<-eL];simpa using h
   refine⟨_,if_pos ⟨rfl,jt⟩,_,rfl,?_⟩;rw[gb]
   by_cases hc:c∈L
   ·simp only[hc,decide_true,Bool.xor_true,Bool.not_true,Bool.false_eq_true,if_false];exact jb hq ps oth a ord hord i L0 hi todo (done++[(b,c)]) _ _ L ho' ⟨t,ht⟩ hn hs hb (fun y hy hy1=>by
     rcases List.mem_append.mp hy with h|h
     ·exact hd y h hy1
     ·have:y=(b,c):=by simpa using h
      subst this;exact hc) k
   ·simp only[hc,decide_false,Bool.xor_false,if_true];refine⟨by rw[List.length_map];exact Nat.lt_of_lt_of_le (by lia:L.length<1000) (sz3 1000),?_⟩;have ea:L.map D.str++[D.str c]=(L++[c]).map D.str:=by simp
    rw[ea];refine jb hq ps oth a ord hord i L0 hi todo (done++[(b,c)]) _ _ (L++[c]) ho' ⟨t++[c],by rw[ht];simp⟩ ?_ (fun x hx=>?_) (fun x hx=>?_) (fun y hy hy1=>?_) k
    ·rw[List.nodup_append];refine⟨hn,by simp,fun u hu v hv=>?_⟩;have:v=c:=by simpa using hv
     subst this;rintro rfl;exact hc hu
    ·rcases List.mem_append.mp hx with h|h
     ·exact hs x h
     ·have:x=c:=by simpa using h
      subst this;exact cm.step (hs b (by rw[hbe,<-eL];exact List.getElem_mem hiL)) hmem
    ·rcases List.mem_append.mp hx with h|h
     ·exact hb x h
     ·have:x=c:=by simpa using h
      subst this;exact List.mem_cons_of_mem _ (List.mem_map.mpr ⟨_,hmem,rfl⟩)
    ·rcases List.mem_append.mp hy with h|h
     ·exact List.mem_append_left _ (hd y h hy1)
     ·have:y=(b,c):=by simpa using h
      subst this;simp
  ·exact jb hq ps oth a ord hord i L0 hi todo (done++[(b,c)]) _ _ L ho' ⟨t,ht⟩ hn hs hb (fun y hy hy1=>by
    rcases List.mem_append.mp hy with h'|h'
    ·exact hd y h' hy1
    ·have:y=(b,c):=by simpa using h'
     subst this;exact absurd (by rw[eL];simpa using hy1) h) k
def pO:SpD:=fun ds M R=>∃(ord:List (Str×Str)) (a b:Str),ds=[.tup (ord.map aw),.str a,.str b]/\ord.length<=500/\R (.bl (rB ord a b)) M
theorem vq(F:Fun K "_law_most" "_law_most" mH f fd) (T:Txt mg) :aQ P w K mg base CX0 1 f fd ["_law_order","_law_one","_law_other"] (spD K 3 pO):=by
 have nd:=nK.nd;refine F.okR rfl nK (fun cdv A outer s H E hr=>⟨_,(am (aR (i:=3) nd rfl (Or.inl rfl) (eD (af (ae 1) ah)))
   (am (aR (i:=4) nd rfl (Or.inl rfl) ai)
   (am (pe PassesOwn.never (aZ BQ (ae 4) (au bv rfl T.b_len (by kernel_rfl) (af (ae 3) ah)) nbh) (am (dO PassesOwn.never rfl (aT (ae 0)) (v9 rfl (jL (bH (i:=5) nd rfl (Or.inl rfl)) (jL (bH (i:=6) nd rfl (Or.inl rfl)) wL))) (ao (dQ (sk (iw (aZ (mm hr.units) (ae 5) (aO aN (ae 3) (ae 4) (fun _ _=>rfl)) nbh) (ji (aZ kY (ae 6) (ae 3) rfl)))) (ao (dv (j0 (ae 3) (ae 6)))) cp)))
   (ao (aR (i:=4) nd rfl (Or.inl rfl) (av aP (ae 4) ai)))))
   (ao (ij (iG wU (ae 2) (ae 3) rfl)))))),fun ds M R _ hS bk=>?_⟩)
 obtain⟨ord,a,b,rfl,ho,k⟩:=hS;refine bk ?_;clear bk;walk_at "rd";refine⟨sz3 1,fun q hq=>?_⟩;refine⟨fun m Δ M'=>∃(i:Nat) (L:List Str) (x4 x5:Option D),Δ=[some (D.tup (ord.map aw)),some (D.str a),some (D.str b),some (D.ref q),some (D.int i),x4,x5]/\M'=aG M q (.lst (L.map .str))/\i<=L.length/\L.Nodup/\a∈L/\(∀x∈L,cm ord a x)/\(∀x∈L,x∈a::ord.map (·.2))/\(∀y∈ord,∀j,j<i->L[j]?=some y.1->y.2∈L)/\m=ord.length+1-i,
  ⟨_,0,[a],none,none,rfl,rfl,Nat.zero_le _,by simp,by simp,fun x hx=>by
   have:x=a:=by simpa using hx
   subst this;exact cm.refl,fun x hx=>by
   have:x=a:=by simpa using hx
   subst this;simp,fun y _ j hj=>absurd hj (by lia),rfl⟩,?_⟩
 rintro m Δ M' ⟨i,L,x4,x5,rfl,rfl,hiL,hn,ha,hs,hb,hp,rfl⟩;have bD:L.length<=ord.length+1:=by
  have:=cM L (a::ord.map (·.2)) hn hb;simpa using this
 walk_at "rd";rw[List.length_map];refine fK (fun h=>?_) (fun h=>?_)
 ·have hi:i<L.length:=by lia
  intro hz;refine jb hq _ _ a ord ho i L hi ord [] x4 x5 L rfl ⟨[],by simp⟩ hn hs hb (fun y hy=>absurd hy (by simp)) (fun y4 y5 L' hL' hn' hs' hb' hd'=>?_);obtain⟨t,rfl⟩:=hL';walk_at "rd";refine⟨ord.length+1-(i+1),by lia,i+1,L++t,y4,y5,?_,rfl,by simp;lia,hn',List.mem_append_left _ ha,hs',hb',fun y hy j hj hjy=>?_,rfl⟩
  ·simp
  ·by_cases hji:j=i
   ·subst hji;refine hd' y hy ?_;rw[List.getElem?_append_left hi,List.getElem?_eq_getElem hi]at hjy;exact(Option.some.inj hjy).symm
   ·rw[List.getElem?_append_left (by lia)]at hjy;exact List.mem_append_left _ (hp y hy j (by lia) hjy)
 ·have hin:(b∈L)↔cm ord a b:=⟨hs b,fun h=>qM ha (fun y hy hy1=>by
   obtain⟨j,hj,e⟩:=List.mem_iff_getElem.mp hy1;exact hp y hy j (by lia) (by rw[List.getElem?_eq_getElem hj,e])) h⟩
  refine⟨_,if_pos ⟨rfl,jt⟩,M,yZ hq,?_⟩;rw[gb,Bool.false_xor];have e:decide (b∈L)=rB ord a b:=by rw[Bool.eq_iff_iff,decide_eq_true_eq,o3];exact hin
  rw[e];exact k
def iq:SpD:=fun ds M R=>∃(ord:List (Str×Str)) (x y:Str×Int),ds=[.tup (ord.map aw),aK x,aK y]/\ord.length<=500/\R (.bl (cB ord x y)) M
theorem qC(F:Fun K "_law_cancel" "_law_cancel" ie f fd) (T:Txt mg) (ga9:FnD P w K mg base "_law_most" 1 3 pO):aQ P w K mg base CX0 2 f fd ["_law_order","_law_one","_law_other"] (spD K 3 iq):=by
 have nd:=kf.nd;refine F.okR rfl kf (fun cdv A outer s H E hr=>⟨_,(am (dQ (aZ (AF hr.units) (aO aN (ae 2) ai (fun _ _=>rfl)) (av aP (aO aN (ae 1) ai (fun _ _=>rfl)) ai) nbh) (ao (a7 vV)) cp)
   (am (dQ (aZ (mm hr.units) (av bS (aO aN (ae 1) ai (fun _ _=>rfl)) ai) ai nbh) (ao (a7 (qd ga9 hr (af (ae 0) (af (aO aN (ae 1) ai (fun _ _=>rfl)) (af (aO aN (ae 2) ai (fun _ _=>rfl)) ah)))))) cp)
   (ao (a7 (qd ga9 hr (af (ae 0) (af (aO aN (ae 2) ai (fun _ _=>rfl)) (af (aO aN (ae 1) ai (fun _ _=>rfl)) ah)))))))),fun ds M R _ hS bk=>?_⟩)
 obtain⟨ord,x,y,rfl,ho,k⟩:=hS;refine bk ?_;clear bk;simp only[aK];walk_at "rd"
 by_cases h:y.2=x.2+1
 ·rw[if_neg (by simp[h])];have e0:cB ord x y=lB ord x.2 x.1 y.1:=by simp[cB,h]
  rw[e0]at k;refine fK (fun h2=>?_) (fun h2=>?_)
  ·rw[uA (beq_iff_eq.mp h2)]at k;exact⟨ord,_,_,rfl,ho,k⟩
  ·rw[xF (fun q=>h2 (by rw[q];rfl))]at k;exact⟨ord,_,_,rfl,ho,k⟩
 ·rw[if_pos (by simp[h])];have e0:cB ord x y=false:=by
   have:(x.2+1==y.2)=false:=by simpa using fun q:x.2+1=y.2=>h q.symm
   simp only[cB,this,Bool.false_and]
  rw[e0]at k;exact k
theorem F8{M:DH}{p q:Addr}{a b:HD}(h1:M p=none) (h2:M q=none):LeM M (aG (aG M p a) q b):=fun c o e=>by
 unfold aG
 split
 ·rename_i z;rw[z,h2]at e;cases e
 ·split
  ·rename_i z;rw[z,h1]at e;cases e
  ·exact e
def uV(n:Nat) (xs:List Int):Prop:=xs.length=n/\∀x∈xs,0<=x/\x<720720
theorem uV.snoc{n:Nat}{xs:List Int}{x:Int}(h:uV n xs) (h0:0<=x) (h1:x<720720):uV (n+1) (xs++[x]):=by
 refine⟨by rw[List.length_append,h.1];rfl,fun y hy=>?_⟩;rcases List.mem_append.mp hy with q|q
 ·exact h.2 y q
 ·have:y=x:=by simpa using q
  subst this;exact⟨h0,h1⟩
theorem BP{cs:List Nat}{c:Nat}:((cs.map fun c=>D.str (tx [c])).any fun d=>eqD d (.str (tx [c])))=decide (c∈cs):=by
 rw[Bool.eq_iff_iff,List.any_map,List.any_eq_true,decide_eq_true_eq];constructor
 ·rintro⟨e,he,h⟩;have:tx [e]=tx [c]:=by simpa[eqD]using h
  have h2:=congrArg (fun z:Str=>z.cps.toList) this;simp only[gH]at h2;obtain rfl:e=c:=by simpa using h2
  exact he
 ·intro h;exact⟨c,h,by simp[eqD]⟩
theorem vT{cs:List Nat}(h:cs.length<26):0<(fJ.filter fun c=>!decide (c∈cs)).length:=by
 rw[List.length_pos_iff];intro e;have h2:fJ.length<=cs.length:=cM fJ cs (by decide) fun c hc=>by
  rw[List.filter_eq_nil_iff]at e;simpa using e c hc
 have:fJ.length=26:=by decide
 lia
theorem uT{a b:Prop} [Decidable a] [Decidable b] {P Q:Prop}(h1:P) (h2:Q):if a then P else if b then P else Q:=by
 split
 ·exact h1
 ·split
  ·exact h1
  ·exact h2
def mZ:SpD:=fun ds M R=>∃(c:Int) (n:Nat),ds=[.int c,.lst ((List.replicate n (720720:Int)).map D.int)]/\n<=500/\∀xs,uV n xs->R (.lst (xs.map D.int)) M
theorem sx(F:Fun K "_law_parts" "_law_parts" jI f fd) (T:Txt mg) :aQ P w K mg base CX0 1 f fd ["_law_cell","_law_sizes"] (spD K 2 mZ):=by
 have nd:=lU.nd;refine F.okR rfl lU (fun cdv A outer s H E hr=>⟨_,(am (aR (i:=2) nd rfl (Or.inl rfl) (eD ah))
   (cv (am (dQ (sk (Bg (aZ BQ (ae 0) ai nbh) (wa (aZ Gj (ae 0) (av ES ai ai) nbh)))) (cv (am (dO PassesOwn.never rfl (aT (ae 1)) (bH (i:=3) nd rfl (Or.inl rfl)) (am (dv (j0 (ae 2) (av bS (ae 0) (ae 3))))
   (ao (aR (i:=0) nd rfl (Or.inl rfl) (av fZ (ae 0) (ae 3))))))
   (cv (ao (ox (ae 2)))))) cp)
   (cv (am (aR (i:=4) nd rfl (Or.inl rfl) (av aP (av bS (ae 0) ai) ai))
   (cv (am (dO PassesOwn.never rfl (aT (ae 1)) (bH (i:=3) nd rfl (Or.inl rfl)) (am (aR (i:=4) nd rfl (Or.inl rfl) (av bS (av aP (av eE (ae 4) ai) ai) ai))
   (ao (dv (j0 (ae 2) (av bS (av fZ (av bS (av eE (ae 4) ai) ai) ai) (ae 3)))))))
   (cv (ao (ox (ae 2))))))))))),fun ds M R _ hS bk=>?_⟩)
 obtain⟨c,n,rfl,hn,k⟩:=hS;refine bk ?_;clear bk;walk_at "rd";refine⟨sz3 0,fun p hp=>aU ?_⟩;walk_at "rd";refine uT (aU ?_) (aU ?_)
 ·walk_at "rd";intro hz;refine aY (fun i Δ M'=>∃(c':Int) (acc:List Int) (x3:Option D),Δ=[some (D.int c'),some (D.lst (List.map D.int (List.replicate n 720720))),some (D.ref p),x3,none]/\M'=aG M p (.lst (acc.map D.int))/\uV i acc) ⟨c,[],none,rfl,rfl,rfl,fun _ h=>by cases h⟩ ?_ ?_
  ·rintro i d Δ M' X hd ⟨c',acc,x3,rfl,rfl,hN⟩ k';obtain⟨x,hx,rfl⟩:=dZ hd;obtain rfl:x=720720:=List.eq_of_mem_replicate (List.mem_of_getElem? hx);have hi:i<n:=by have:=(List.getElem?_eq_some_iff.mp hx).1;simpa using this
   simp only[cy];walk_at "rd";refine⟨?_,k' _ _ ⟨_,acc++[c' % 720720],_,rfl,by rw[List.map_append];rfl,hN.snoc (by lia) (by lia)⟩⟩;rw[List.length_map,hN.1];exact Nat.lt_of_lt_of_le (by lia:i<1000) (sz3 1000)
  ·rintro Δ M' ⟨c',acc,x3,rfl,rfl,hN⟩;refine aU ?_;walk_at "rd";rw[jr hp];rw[List.length_map,List.length_replicate]at hN;exact k acc hN
 ·walk_at "rd";refine aU ?_;walk_at "rd";intro hz;refine aY (fun i Δ M'=>∃(sd:Int) (acc:List Int) (x3:Option D),Δ=[some (D.int c),some (D.lst (List.map D.int (List.replicate n 720720))),some (D.ref p),x3,some (D.int sd)]/\M'=aG M p (.lst (acc.map D.int))/\uV i acc/\0<=sd/\sd<2147483700) ⟨_,[],none,rfl,rfl,⟨rfl,fun _ h=>by cases h⟩,by lia,by lia⟩ ?_ ?_
  ·rintro i d Δ M' X hd ⟨sd,acc,x3,rfl,rfl,hN,s0,s1⟩ k';obtain⟨x,hx,rfl⟩:=dZ hd;obtain rfl:x=720720:=List.eq_of_mem_replicate (List.mem_of_getElem? hx);have hi:i<n:=by have:=(List.getElem?_eq_some_iff.mp hx).1;simpa using this
   refine⟨_,rfl,?_⟩;walk_at "rd";refine⟨?_,k' _ _ ⟨_,acc++[(sd*69069+12345) % 2147483587*40503 % 2147483563 / 11 % 720720],_,rfl,by rw[List.map_append];rfl,hN.snoc (by lia) (by lia),by lia,by lia⟩⟩;rw[List.length_map,hN.1];exact Nat.lt_of_lt_of_le (by lia:i<1000) (sz3 1000)
  ·rintro Δ M' ⟨sd,acc,x3,rfl,rfl,hN,s0,s1⟩;refine aU ?_;walk_at "rd";rw[jr hp];rw[List.length_map,List.length_replicate]at hN;exact k acc hN
def kc:SpD:=fun ds M R=>∃(xs:List Int) (n:Nat),ds=[.lst (xs.map D.int),.int n]/\n<=xs.length/\n<=10/\(∀x∈xs,0<=x/\x<720720)/\∀cs:List Nat,cs.length=n->cs.Nodup->(∀c∈cs,c∈fJ)->R (.lst (cs.map fun c=>D.str (tx [c]))) M
theorem pf(F:Fun K "_law_letters" "_law_letters" dR f fd) (T:Txt mg) :aQ P w K mg base CX0 1 f fd ["_law_xs","_law_amount"] (spD K 2 kc):=by
 have nd:=iP.nd;refine F.okR rfl iP (fun cdv A outer s H E hr=>⟨_,(am (aR (i:=2) nd rfl (Or.inl rfl) nc)
   (am (aR (i:=3) nd rfl (Or.inr rfl) (eD ah))
   (cv (am (dO PassesOwn.never rfl (cb rfl T.b_range (af (ae 1) ah)) (bH (i:=4) nd rfl (Or.inl rfl)) (am (jo (i:=5) nd rfl rfl rfl (ms:=[false,false,false,true,false,false]) (ak:=["_law_sign"]) (ay rfl (show aJ (ag dR) gd _ _=true from by decide +kernel)) rfl (aT (ae 2)) (aF (i:=6) (show(gd++_).Nodup from by decide +kernel) rfl rfl) (fun _ _ _ _=>(jR (aZ kY (ae 6) (ae 3) rfl))) (fun _ _ _ _=>(ae 6)))
   (cv (ao (dv (j0 (ae 3) (aO aN (ae 5) (av bS (aO aN (ae 0) (ae 4) (fun _ _=>rfl)) (au bv rfl T.b_len (by kernel_rfl) (af (ae 5) ah))) (fun _ _=>rfl))))))))
   (cv (ao (ox (ae 3)))))))),fun ds M R _ hS bk=>?_⟩)
 obtain⟨xs,n,rfl,hn,hn10,hx,k⟩:=hS;refine bk ?_;clear bk;walk_at "rd";refine⟨sz3 0,fun p hp=>aU ?_⟩;walk_at "rd";rw[Int.toNat_natCast];refine⟨by lia,by lia,?_⟩;refine aY (fun i Δ M'=>∃(cs:List Nat) (x4 x5:Option D),Δ=[some (D.lst (xs.map D.int)),some (D.int n),some (D.str abc),some (D.ref p),x4,x5]/\M'=aG M p (.lst (cs.map fun c=>D.str (tx [c])))/\cs.length=i/\cs.Nodup/\∀c∈cs,c∈fJ) ⟨[],none,none,rfl,rfl,rfl,List.nodup_nil,fun _ h=>by cases h⟩ ?_ ?_
 ·rintro i d Δ M' X hd ⟨cs,x4,x5,rfl,rfl,hl,hnd,hab⟩ k';obtain⟨hi,rfl⟩:=b7 hd;refine⟨_,rfl,?_⟩;walk_at "rd";refine⟨_,if_pos (by rw[sO,oq];exact sz3 _),fun hz=>⟨hz,?_⟩⟩;rw[vE];refine aS (fun(c:Nat)=>D.str (tx [c])) (fun c=>!decide (c∈cs)) (fun c=>D.str (tx [c])) (fun Δ=>∃x,Δ=[none,none,none,some (D.ref p),none,none,x]) fJ _ _ (fun c hc Δ hΔ=>?_) ⟨none,rfl⟩ ?_
  ·obtain⟨x,rfl⟩:=hΔ;refine⟨_,rfl,⟨_,rfl⟩,fun Q1 q=>?_,fun _ Q2 q=>?_⟩
   ·walk_at "rd";refine⟨_,if_pos ⟨rfl,by rw[List.all_map,List.all_eq_true];intro _ _;rfl⟩,_,rfl,?_⟩;rw[BP,Bool.true_xor];exact q
   ·walk_at "rd";exact q
  rw[List.nil_append];have hne:=vT (by lia:cs.length<26);have hin:∀c∈fJ.filter (fun c=>!decide (c∈cs)),c∈fJ/\c∉cs:=fun c hc=>by
   have:=List.mem_filter.mp hc;exact⟨this.1,by simpa using this.2⟩
  generalize fJ.filter (fun c=>!decide (c∈cs))=aH at hne hin;refine aU ?_;walk_at "rd";rw[Int.zero_add];obtain⟨x,hx'⟩:∃x,xs[i]?=some x:=⟨_,List.getElem?_eq_getElem (by lia)⟩;have hx2:=hx x (List.mem_of_getElem? hx');have hm0:0<=x % (aH.length:Int):=Int.emod_nonneg _ (by lia);have hm1:x % (aH.length:Int)<(aH.length:Int):=Int.emod_lt_of_pos _ (by lia);obtain⟨v,hv⟩:∃v:Nat,x % (aH.length:Int)=(v:Int):=⟨_,(Int.toNat_of_nonneg hm0).symm⟩;have hvl:v<aH.length:=by lia
  refine⟨_,bC (by rw[List.getElem?_map,hx'];rfl),?_⟩;walk_at "rd";rw[List.length_map];refine⟨_,if_pos (by lia),?_⟩;walk_at "rd";rw[hv];have hr:=hin aH[v] (List.getElem_mem _);refine⟨_,bC (by rw[List.getElem?_map,List.getElem?_eq_getElem hvl];rfl),?_,k' _ _ ⟨cs++[aH[v]],_,_,rfl,by rw[List.map_append];rfl,by rw[List.length_append,hl];rfl,?_,fun c hc=>?_⟩⟩
  ·rw[List.length_map];exact Nat.lt_of_lt_of_le (by lia:cs.length<1000) (sz3 1000)
  ·rw[List.nodup_append];refine⟨hnd,by simp,fun u hu w hw=>?_⟩;obtain rfl:w=aH[v]:=by simpa using hw
   rintro rfl;exact hr.2 hu
  ·rcases List.mem_append.mp hc with z|z
   ·exact hab c z
   ·obtain rfl:c=aH[v]:=by simpa using z
    exact hr.1
 ·rintro Δ M' ⟨cs,x4,x5,rfl,rfl,hl,hnd,hab⟩;refine aU ?_;walk_at "rd";rw[jr hp];rw[bQ]at hl;exact k cs hl hnd hab
def bj(x:Str):Bool:=decide (1<=x.length)&&decide (x.length<=8)&&x.cps.toList.all fun c=>decide (c∈fJ)
theorem nB{c n:Nat}(hc:c∈fJ) (h1:1<=n) (h8:n<=8):bj (tx (List.replicate n c))=true:=by
 have l:(tx (List.replicate n c)).length=n:=by rw[oq,List.length_replicate]
 unfold bj;rw[l,gH,decide_eq_true h1,decide_eq_true h8,Bool.true_and,Bool.true_and,List.all_eq_true];intro d hd;rw[List.eq_of_mem_replicate hd];exact decide_eq_true hc
theorem nM{c:Nat}{n:Int}(hc:c∈fJ) (h1:1<=n) (h8:n<=8):bj (Txt.mul (tx [c]) n)=true:=by
 obtain⟨m,rfl⟩:∃m:Nat,n=m:=⟨n.toNat,by lia⟩;rw[mq];exact nB hc (by lia) (by lia)
theorem eN{α:Type}{p:α->Prop}{xs:List α}{y:α}(h:∀x∈xs,p x) (hy:p y):∀x∈xs++[y],p x:=fun x hx=>by
 rcases List.mem_append.mp hx with z|z
 ·exact h x z
 ·rw[List.mem_singleton.mp z];exact hy
def Aa(s:Str×Int):Prop:=bj s.1=true/\-1<=s.2/\s.2<=2
theorem pH{c:Nat}{n:Int}(h0:0<=n) (h1:n<=100):o6 (.str (tx [c])) (.int n)=some (.str (Txt.mul (tx [c]) n)):=by
 have l:(tx [c]).length=1:=by rw[oq];rfl
 simp only[o6];rw[if_pos ⟨by lia,by lia,by lia,by rw[l];lia⟩]
def nE:SpD:=fun ds M R=>∃(cs:List Nat) (x:Int),ds=[.lst (cs.map fun c=>D.str (tx [c])),.int x]/\cs.length=3/\(∀c∈cs,c∈fJ)/\0<=x/\x<720720/\∀ms:List Str,1<=ms.length->ms.length<=3->(∀m∈ms,bj m=true)->R (.lst (ms.map D.str)) M
theorem vY{ms:List Str}{x:Int}(h:0<=x):L2.c7 (ms.map D.str) none (some (1+x % 3))=(ms.take (1+x % 3).toNat).map D.str:=by
 obtain⟨n,e⟩:∃n:Nat,1+x % 3=(n:Int):=⟨(1+x % 3).toNat,by lia⟩;rw[e,oS,Int.toNat_natCast,List.map_take]
theorem rV(F:Fun K "_law_marks" "_law_marks" eI f fd) (T:Txt mg) :aQ P w K mg base CX0 1 f fd ["_law_letters_here","_law_x"] (spD K 2 nE):=by
 have nd:=lG.nd;refine F.okR rfl lG (fun cdv A outer s H E hr=>⟨_,(am (jo (i:=2) nd rfl rfl rfl (ms:=[false,true,false]) (ak:=["_law_sign"]) (ay rfl (show aJ (ag eI) eU _ _=true from by decide +kernel)) rfl (aT (ae 0)) (aF (i:=3) (show(eU++_).Nodup from by decide +kernel) rfl rfl) (fun _ _ _ _=>bR) (fun _ _ _ _=>(av eE (ae 3) (av aP ai (av bS (av fZ (ae 1) ai) ai)))))
   (am (dQ (aZ (mm hr.units) (av bS (av fZ (ae 1) ai) ai) ai nbh) (ao (jo (i:=2) nd rfl rfl rfl (ms:=[true,true,false]) (ak:=["_law_k"]) (ay rfl (show aJ (ag eI) eU _ _=true from by decide +kernel)) rfl (cb rfl T.b_range (af (au bv rfl T.b_len (by kernel_rfl) (af (ae 0) ah)) ah)) (aF (i:=3) (show(eU++_).Nodup from by decide +kernel) rfl rfl) (fun _ _ _ _=>bR) (fun _ _ _ _=>(av eE (aO aN (ae 0) ai (fun _ _=>rfl)) (av aP (av aP ai (ae 3)) (av bS (av fZ (ae 1) ai) ai)))))) cp)
   (ao (a7 (cW (ae 2) gG (cU (av aP ai (av bS (ae 1) ai)))))))),fun ds M R _ hS bk=>?_⟩)
 obtain⟨cs,x,rfl,hl,hab,h0,h1,k⟩:=hS;refine bk ?_;clear bk;walk_at "rd";have fin:∀ms:List Str,ms.length=3->(∀m∈ms,bj m=true)->R (D.lst (L2.c7 (ms.map D.str) none (some (1+x % 3)))) M:=fun ms h hs=>by
  rw[vY h0];exact k _ (by rw[List.length_take];lia) (by rw[List.length_take];lia) fun m hm=>hs m (List.mem_of_mem_take hm)
 intro hz;refine⟨hz,iH (fun i acc Δ M'=>M'=M/\(∃y,Δ=[none,some (.int x),none,y])/\∃ms:List Str,acc=ms.map D.str/\ms.length=i/\∀m∈ms,bj m=true) ⟨rfl,⟨none,rfl⟩,[],rfl,rfl,fun _ h=>by cases h⟩ ?_ ?_⟩
 ·rintro i d acc Δ M' X hd ⟨rfl,⟨y,rfl⟩,ms,rfl,hm,hs⟩ k';obtain⟨c,hc,rfl⟩:=dZ hd;refine⟨_,rfl,?_⟩;simp only[qi];walk_at "rd";exact⟨_,pH (by lia) (by lia),k' _ _ _ ⟨rfl,⟨_,rfl⟩,ms++[Txt.mul (tx [c]) (1+x / 3 % 8)],by rw[List.map_append];rfl,by rw[List.length_append,hm];rfl,eN hs (nM (hab c (List.mem_of_getElem? hc)) (by lia) (by lia))⟩⟩
 ·rintro acc Δ M' ⟨rfl,⟨y,rfl⟩,ms,rfl,hm,hs⟩;rw[List.length_map,hl]at hm;refine fK (fun hb=>?_) (fun _=>fin ms hm hs);rw[List.length_map,hl];refine⟨by lia,by lia,by rw[bQ];exact szB _ (by decide),iH (fun i acc Δ M2=>M2=M'/\(∃y,Δ=[some (.lst (cs.map fun c=>D.str (tx [c]))),some (.int x),none,y])/\∃ms:List Str,acc=ms.map D.str/\ms.length=i/\∀m∈ms,bj m=true) ⟨rfl,⟨none,rfl⟩,[],rfl,rfl,fun _ h=>by cases h⟩ ?_ ?_⟩
  ·rintro i d acc Δ M' X hd ⟨rfl,⟨y,rfl⟩,ms,rfl,hm,hs⟩ k';obtain⟨hi,rfl⟩:=b7 hd;have hi3:i<3:=by simpa using hi
   have h00:atI (cs.map fun c=>D.str (tx [c])) ((0:Nat):Int)=some (D.str (tx [cs[0]])):=bC (by rw[List.getElem?_map,List.getElem?_eq_getElem (by lia)];rfl);refine⟨_,rfl,?_⟩;simp only[qi];walk_at "rd";refine⟨_,h00,?_⟩;walk_at "rd";exact⟨_,pH (by lia) (by lia),k' _ _ _ ⟨rfl,⟨_,rfl⟩,ms++[_],by rw[List.map_append];rfl,by rw[List.length_append,hm];rfl,eN hs (nM (hab _ (List.getElem_mem _)) (by lia) (by lia))⟩⟩
  ·rintro acc Δ M' ⟨rfl,⟨y,rfl⟩,ms,rfl,hm,hs⟩;rw[bQ]at hm;exact fin ms (by simpa using hm) hs
def uq:SpD:=fun ds M R=>∃(xs:List Int) (ms:List Str),ds=[.lst (xs.map D.int),.lst (ms.map D.str),.int 5]/\xs.length=6/\(∀x∈xs,0<=x/\x<720720)/\1<=ms.length/\(∀m∈ms,bj m=true)/\∀row:List (Str×Int),row.length<=5->(∀s∈row,Aa s)->R (.tup (row.map aK)) M
theorem vU(F:Fun K "_law_row" "_law_row" kQ f fd) (T:Txt mg) :aQ P w K mg base CX0 1 f fd ["_law_xs","_law_marks_here","_law_most_here"] (spD K 3 uq):=by
 have nd:=p6.nd;refine F.okR rfl p6 (fun cdv A outer s H E hr=>⟨_,(ao (a7 (bX df rfl T.b_tuple (by kernel_rfl) (af (gO (ms:=[false,true,false]) (ak:=["_law_x"]) (ay rfl (show aJ (ag kQ) pq _ _=true from by decide +kernel)) rfl (aT (cW (ae 0) (cU ai) (cU (av aP ai (av bS (aO aN (ae 0) ai (fun _ _=>rfl)) (av aP (ae 2) ai)))))) (aF (i:=3) (show(pq++_).Nodup from by decide +kernel) rfl rfl) (fun _ _ _ _=>bR) (fun _ _ _ _=>(kh (af (aO aN (ae 1) (av bS (ae 3) (au bv rfl T.b_len (by kernel_rfl) (af (ae 1) ah))) (fun _ _=>rfl)) (af (av qD (av bS (av fZ (ae 3) ai) ai) ai) ah))))) ah)))),fun ds M R _ hS bk=>?_⟩);obtain⟨xs,ms,rfl,hl,hx,hm,hs,k⟩:=hS;obtain⟨x0,h0⟩:∃x,xs[0]?=some x:=⟨_,List.getElem?_eq_getElem (by lia)⟩;refine bk ?_;clear bk;have hx0:=hx x0 (List.mem_of_getElem? h0);walk_at "rd";refine⟨_,(show atI (xs.map D.int) ((0:Nat):Int)=some (D.int x0)from bC (by rw[List.getElem?_map,h0];rfl)),?_⟩;walk_at "rd";obtain⟨n,en⟩:∃n:Nat,1+x0 % 6=((n+1:Nat):Int):=⟨(x0 % 6).toNat,by lia⟩;have ec:L2.c7 (xs.map D.int) (some 1) (some (1+x0 % 6))=((xs.take (n+1)).drop 1).map D.int:=by
  rw[en];unfold L2.c7;rw[show(1:Int)=((1:Nat):Int)from rfl,HT.sIx_nat,HT.sIx_nat,Nat.min_eq_left (by rw[List.length_map];lia),Nat.min_eq_left (by rw[List.length_map];lia),List.map_drop,List.map_take,List.drop_take]
 rw[ec];have lt:((xs.take (n+1)).drop 1).length=n:=by rw[List.length_drop,List.length_take];lia
 have hn:n<=5:=by lia
 intro hz;refine⟨hz,iH (fun i acc Δ M'=>M'=M/\(∃y,Δ=[none,some (.lst (ms.map D.str)),none,y])/\∃row:List (Str×Int),acc=row.map aK/\row.length=i/\∀s∈row,Aa s) ⟨rfl,⟨none,rfl⟩,[],rfl,rfl,fun _ h=>by cases h⟩ ?_ ?_⟩
 ·rintro i d acc Δ M' X hd ⟨rfl,⟨y,rfl⟩,row,rfl,hr',hr2⟩ k';obtain⟨x,hx',rfl⟩:=dZ hd;have hxx:=hx x (List.mem_of_mem_take (List.mem_of_mem_drop (List.mem_of_getElem? hx')));obtain⟨m,hmm,hm'⟩:=iU (jz:=ms) (v:=x % (ms.length:Int)) (Int.emod_nonneg _ (by lia)) (Int.emod_lt_of_pos _ (by lia));refine⟨_,rfl,?_⟩;simp only[qi];walk_at "rd";rw[List.length_map];refine⟨_,if_pos (by lia),?_⟩;walk_at "rd";exact⟨_,hm',sz3 2,k' _ _ _ ⟨rfl,⟨_,rfl⟩,row++[(m,x / 8 % 4-1)],by rw[List.map_append];rfl,by rw[List.length_append,hr'];rfl,eN hr2 ⟨hs m hmm,by show -1<=x / 8 % 4-1;lia,by show x / 8 % 4-1<=2;lia⟩⟩⟩
 ·rintro acc Δ M' ⟨rfl,⟨y,rfl⟩,row,rfl,hr',hr2⟩;rw[List.length_map,lt]at hr';exact k row (by lia) hr2
def seg(row:List (Str×Int)) (b e:Nat):List (Str×Int):=(row.drop b).take (e-b)
open Classical in
def gB(ord:List (Str×Str)) (l:List (Str×Int)):Bool:=decide (Gp (cB ord) l)
theorem ig{ord:List (Str×Str)}{l:List (Str×Int)}:gB ord l=true↔Gp (cB ord) l:=by simp[gB]
theorem wb{row:List (Str×Int)}{i:Nat}(h:i<row.length):row[i]?=some (sg row i):=by simp[sg,h]
theorem jS{row:List (Str×Int)}{b k e:Nat}(h1:b<=k) (h2:k<e) (h3:e<=row.length):seg row b e=seg row b k++sg row k::seg row (k+1) e:=by
 unfold seg;rw[mE h1 (wb (by lia)),List.take_append,List.length_take,List.length_drop,List.take_take,Nat.min_eq_right (by lia),show min (k-b) (row.length-b)=k-b by lia,show e-b-(k-b)=(e-(k+1))+1 by lia,List.take_succ_cons,List.take_append];have:(List.take (k-b) (row.drop b)).length=k-b:=by rw[List.length_take,List.length_drop];lia
 rw[this,Nat.sub_self,List.take_zero,List.append_nil,List.take_take,Nat.min_self]
theorem qK{row:List (Str×Int)}{b:Nat}:seg row b b=[]:=by simp[seg]
theorem tY{row:List (Str×Int)}{b e:Nat}(h:e<=row.length):(seg row b e).length=e-b:=by unfold seg;rw[List.length_take,List.length_drop];lia
theorem Dl{c:Str×Int->Str×Int->Bool}{row:List (Str×Int)}{b e:Nat}(h1:b<e) (h2:e<=row.length):Gp c (seg row b e)↔∃k,b<k/\k<e/\Gp c (seg row (b+1) k)/\Gp c (seg row (k+1) e)/\c (sg row b) (sg row k)=true:=by
 have e0:seg row b e=sg row b::seg row (b+1) e:=by rw[jS (Nat.le_refl b) h1 h2,qK,List.nil_append]
 constructor
 ·intro h;rw[e0]at h;generalize hx:sg row b=x at h;generalize hg:seg row (b+1) e=g at h;cases h with
  |@step _ y xs ys hc hp hq =>
   have hl:(seg row (b+1) e).length=xs.length+1+ys.length:=by rw[hg];simp;lia
   rw[tY h2]at hl;have sp:=jS (row:=row) (b:=b+1) (k:=b+1+xs.length) (e:=e) (by lia) (by lia) h2;rw[hg]at sp;have l1:(seg row (b+1) (b+1+xs.length)).length=xs.length:=by rw[tY (by lia)];lia
   obtain⟨z1,z2⟩:=List.append_inj sp l1.symm;obtain⟨z3,z4⟩:=List.cons.inj z2;exact⟨b+1+xs.length,by lia,by lia,by rw[<-z1];exact hp,by rw[<-z4];exact hq,by rw[<-z3];exact hc⟩
 ·rintro⟨k,k1,k2,k3,k4,k5⟩;rw[e0,jS (b:=b+1) (k:=k) (by lia) k2 h2];exact .step k5 k3 k4
theorem wg{a b c d:Nat}:([Sum.inl (a:Int),Sum.inl (b:Int)]:List Key)=[Sum.inl (c:Int),Sum.inl (d:Int)]↔a=c/\b=d:=by
 simp only[List.cons.injEq,Sum.inl.injEq,and_true]
 lia
def Gh(ord:List (Str×Str)) (row:List (Str×Int)) (tb:List (List Key×D)):Prop:=∀b e:Nat,b<=e->e<=row.length->dg tb [.inl (b:Int),.inl (e:Int)]=some (.bl (gB ord (seg row b e)))
def qy:SpD:=fun ds M R=>∃(ord:List (Str×Str)) (row:List (Str×Int)),ds=[.tup (ord.map aw),.tup (row.map aK)]/\ord.length<=500/\row.length<=10/\∀q tb,M q=none->Gh ord row tb->R (.ref q) (aG M q (.dT tb))
theorem vy(F:Fun K "_law_gaps" "_law_gaps" mI f fd) (T:Txt mg) (G7:FnD P w K mg base "_law_cancel" 2 3 iq):aQ P w K mg base CX0 3 f fd ["_law_order","_law_row_here"] (spD K 2 qy):=by
 have nd:=mY.nd;refine F.okR rfl mY (fun cdv A outer s H E hr=>⟨_,(am (aR (i:=2) nd rfl (Or.inl rfl) Gf)
   (am (dO PassesOwn.never rfl (cb rfl T.b_range (af (av aP (au bv rfl T.b_len (by kernel_rfl) (af (ae 1) ah)) ai) ah)) (bH (i:=3) nd rfl (Or.inl rfl)) (ao (dO PassesOwn.never rfl (cb rfl T.b_range (af (av qD (av aP (au bv rfl T.b_len (by kernel_rfl) (af (ae 1) ah)) ai) (ae 3)) ah)) (bH (i:=4) nd rfl (Or.inl rfl)) (am (aR (i:=5) nd rfl (Or.inl rfl) (av aP (ae 4) (ae 3)))
   (am (wK hr.units1 (ae 2) (af (ae 4) (af (ae 5) ah)) (iG (mm hr.units) (ae 3) ai nbh))
   (ao (dO PassesOwn.never rfl (yI rfl T.b_range (af (av aP (ae 4) ai) (af (ae 5) ah))) (bH (i:=6) nd rfl (Or.inl rfl)) (ao (dQ (sk (iw (eu (oh hr.units1 (ae 2) (af (av aP (ae 4) ai) (af (ae 6) ah)) (fun _ _=>rfl))) (iw (eu (oh hr.units1 (ae 2) (af (av aP (ae 6) ai) (af (ae 5) ah)) (fun _ _=>rfl))) (ji (eu (qd G7 hr (af (ae 0) (af (aO aN (ae 1) (ae 4) (fun _ _=>rfl)) (af (aO aN (ae 1) (ae 6) (fun _ _=>rfl)) ah))))))))) (ao (wK hr.units1 (ae 2) (af (ae 4) (af (ae 5) ah)) vV)) cp)))))))))
   (ao (a7 (ae 2))))),fun ds M R _ hS bk=>?_⟩)
 obtain⟨ord,row,rfl,ho,hl,k⟩:=hS;refine bk ?_;clear bk;walk_at "rd";intro q hq;rw[List.length_map];refine⟨by lia,by lia,?_⟩;rw[show((row.length:Int)+1).toNat=row.length+1 by lia];refine aY (fun i Δ M'=>∃(tb:List (List Key×D)) (x3 x4 x5 x6:Option D),Δ=[some (D.tup (ord.map aw)),some (D.tup (row.map aK)),some (D.ref q),x3,x4,x5,x6]/\M'=aG M q (.dT tb)/\(∀b e:Nat,b<=e->e<=row.length->e<b+i->dg tb [.inl (b:Int),.inl (e:Int)]=some (.bl (gB ord (seg row b e))))/\tb.length<=1000*i)
  ⟨[],_,_,_,_,rfl,rfl,fun b e _ _ h=>by lia,Nat.zero_le _⟩ ?_ ?_
 ·rintro i d Δ M' X hd ⟨tb,x3,x4,x5,x6,rfl,rfl,hT,htl⟩ k';obtain⟨hi,rfl⟩:=b7 hd;simp only[cy,Int.zero_add];walk_at "rd";rw[List.length_map];refine⟨by lia,by lia,?_⟩;rw[show((row.length:Int)+1-(i:Int)).toNat=row.length+1-i by lia];refine aY (fun m Δ M'=>∃(tb:List (List Key×D)) (x4 x5 x6:Option D),Δ=[some (D.tup (ord.map aw)),some (D.tup (row.map aK)),some (D.ref q),some (D.int i),x4,x5,x6]/\M'=aG M q (.dT tb)/\(∀b e:Nat,b<=e->e<=row.length->(e<b+i∨(e=b+i/\b<m))->dg tb [.inl (b:Int),.inl (e:Int)]=some (.bl (gB ord (seg row b e))))/\tb.length<=1000*i+20*m)
   ⟨tb,_,_,_,rfl,rfl,fun b e h1 h2 h3=>hT b e h1 h2 (by lia),by lia⟩ ?_ ?_
  ·rintro m d Δ M' X2 hd2 ⟨tb,x4,x5,x6,rfl,rfl,hT,htl⟩ k2;obtain⟨hm,rfl⟩:=b7 hd2;simp only[cy,Int.zero_add];walk_at "rd";refine⟨sz3 2,Nat.lt_of_lt_of_le (by lia:tb.length<16000000) (szB 16000000),_,_,⟨rfl,rfl⟩,⟨by lia,by lia,by lia,by lia⟩,?_⟩;have eh:(m:Int)+(i:Int)=((m+i:Nat):Int):=by lia
   have e1:(m:Int)+1=((m+1:Nat):Int):=by lia
   rw[eh,e1,show(((m+i:Nat):Int)-((m+1:Nat):Int)).toNat=i-1 by lia];have hmi:m+i<=row.length:=by lia
   refine aY (fun j Δ M'=>∃(tb':List (List Key×D)) (x6:Option D) (y:Bool),Δ=[some (D.tup (ord.map aw)),some (D.tup (row.map aK)),some (D.ref q),some (D.int i),some (D.int m),some (D.int ((m+i:Nat):Int)),x6]/\M'=aG M q (.dT tb')/\(∀b e:Nat,¬ (b=m/\e=m+i)->dg tb' [.inl (b:Int),.inl (e:Int)]=dg tb [.inl (b:Int),.inl (e:Int)])/\dg tb' [.inl (m:Int),.inl ((m+i:Nat):Int)]=some (.bl y)/\(y=true↔i=0∨∃k,m<k/\k<m+1+j/\Gp (cB ord) (seg row (m+1) k)/\Gp (cB ord) (seg row (k+1) (m+i))/\cB ord (sg row m) (sg row k)=true)/\tb'.length<=1000*i+20*m+1+j)
    ⟨_,_,_,rfl,rfl,fun b e h=>by rw[jm,if_neg (fun z=>h (wg.mp z))],by rw[jm,if_pos rfl],⟨fun z=>.inl (by simpa using z),fun z=>?_⟩,Nat.le_trans (jZ _ _ _) (by lia)⟩ ?_ ?_
   ·rcases z with z|⟨k,k1,k2,_⟩
    ·simp[z]
    ·lia
   ·rintro j d Δ M' X3 hd3 ⟨tb',x6,y,rfl,rfl,hO,hY,hy,bD⟩ k3;obtain⟨hj,rfl⟩:=b7 hd3;have e2:((m+1:Nat):Int)+(j:Int)=((m+1+j:Nat):Int):=by lia
    have e3:((m+1+j:Nat):Int)+1=((m+1+j+1:Nat):Int):=by lia
    have g1:=(hO (m+1) (m+1+j) (by lia)).trans (hT (m+1) (m+1+j) (by lia) (by lia) (by lia));have g2:=(hO (m+1+j+1) (m+i) (by lia)).trans (hT (m+1+j+1) (m+i) (by lia) (by lia) (by lia));simp only[cy];rw[e2];walk_at "rd";rw[e1,e3];have no:¬ (Gp (cB ord) (seg row (m+1) (m+1+j))/\Gp (cB ord) (seg row (m+1+j+1) (m+i))/\cB ord (sg row m) (sg row (m+1+j))=true)->X3 [some (D.tup (ord.map aw)),some (D.tup (row.map aK)),some (D.ref q),some (D.int i),some (D.int m),some (D.int ((m+i:Nat):Int)),some (D.int ((m+1+j:Nat):Int))] (aG M q (.dT tb')):=fun hn =>
     k3 _ _ ⟨tb',_,y,rfl,rfl,hO,hY,by
      rw[hy];constructor
      ·rintro(z|⟨k,k1,k2,k3⟩)
       ·exact .inl z
       ·exact .inr ⟨k,k1,by lia,k3⟩
      ·rintro(z|⟨k,k1,k2,k3⟩)
       ·exact .inl z
       ·by_cases e:k=m+1+j
        ·subst e;exact absurd k3 hn
        ·exact .inr ⟨k,k1,by lia,k3⟩,by lia⟩
    refine⟨sz3 2,_,g1,_,rfl,fK (fun h1=>⟨sz3 2,_,g2,_,rfl,fK (fun h2=>⟨_,lZ (by lia),_,lZ (by lia),ord,_,_,rfl,ho,_,rfl,fK (fun h3=>⟨sz3 2,tb',aD,Nat.lt_of_lt_of_le (by lia:tb'.length<16000000) (szB 16000000),?_⟩) (fun h3=>no fun z=>h3 z.2.2)⟩) (fun h2=>no fun z=>h2 (ig.mpr z.2.1))⟩) (fun h1=>no fun z=>h1 (ig.mpr z.1))⟩;rw[jd];refine k3 _ _ ⟨_,_,true,rfl,rfl,fun b e h=>?_,by rw[jm,if_pos rfl],⟨fun _=>.inr ⟨m+1+j,by lia,by lia,ig.mp h1,ig.mp h2,h3⟩,fun _=>rfl⟩,Nat.le_trans (jZ _ _ _) (by lia)⟩;rw[jm,if_neg (fun z=>h (wg.mp z))];exact hO b e h
   ·rintro Δ M' ⟨tb',x6,y,rfl,rfl,hO,hY,hy,bD⟩;rw[bQ]at hy bD;refine k2 _ _ ⟨tb',_,_,_,rfl,rfl,fun b e h1 h2 h3=>?_,by lia⟩
    by_cases c:b=m/\e=m+i
    ·obtain⟨rfl,rfl⟩:=c;rw[hY];congr 2;rw[Bool.eq_iff_iff,hy,ig]
     by_cases i0:i=0
     ·subst i0;simp only[Nat.add_zero,qK,true_or,true_iff];exact .nil
     ·rw[Dl (by lia) hmi];constructor
      ·rintro(z|⟨k,k1,k2,k3⟩)
       ·exact absurd z i0
       ·exact⟨k,k1,by lia,k3⟩
      ·rintro⟨k,k1,k2,k3⟩;exact .inr ⟨k,k1,by lia,k3⟩
    ·rw[hO b e c];exact hT b e h1 h2 (by lia)
  ·rintro Δ M' ⟨tb,x4,x5,x6,rfl,rfl,hT,htl⟩;rw[bQ]at hT htl;exact k' _ _ ⟨tb,_,_,_,_,rfl,rfl,fun b e h1 h2 h3=>hT b e h1 h2 (by lia),by lia⟩
 ·rintro Δ M' ⟨tb,x3,x4,x5,x6,rfl,rfl,hT,htl⟩;rw[bQ]at hT;walk_at "rd";exact k q tb hq fun b e h1 h2=>hT b e h1 h2 (by lia)
abbrev Sg:=Str×Int
def kS(x:Sg):KD:=.tup [.str x.1,.int x.2]
def kR(r:List Sg):List KD:=r.map kS
theorem tq{r:List Sg}:bu (kR r)=.tup (r.map aK):=by
 unfold bu kR;rw[kO,List.map_map];congr 1
theorem Cq:∀{x y:Sg},kS x=kS y->x=y:=fun {x y} h=>by
 obtain⟨a,b⟩:=x;obtain⟨c,d⟩:=y;simpa[kS]using h
theorem ic{a b:List Sg}(h:kR a=kR b):a=b:=(List.map_inj_right fun _ _ h=>Cq h).mp h
theorem tE{r:List Sg}{n:Nat}:dpK (n+2) (.tup (kR r)):=by
 intro k hk;obtain⟨x,_,rfl⟩:=List.mem_map.mp hk;intro j hj;simp only[List.mem_cons,List.not_mem_nil,or_false]at hj;rcases hj with rfl|rfl
 ·cases n<;>trivial
 ·cases n<;>trivial
theorem yo:∀{a b:List Sg},Cms (kR a) (kR b)
 |[],_=>by simp[kR,Cms]
 |_::_,[]=>by simp[kR,Cms]
 |x::a,y::b=>by
  have ih:=yo (a:=a) (b:=b);simp only[kR,List.map_cons,Cms,kS,Cm,and_true]at ih ⊢;simpa[kS]using ih
theorem sT{rs:List (List Sg)}:Rws (rs.map kR):=⟨fun k hk=>by
 obtain⟨r,_,rfl⟩:=List.mem_map.mp hk;exact tE,fun a ha b hb=>by
 obtain⟨r,_,rfl⟩:=List.mem_map.mp ha;obtain⟨s,_,rfl⟩:=List.mem_map.mp hb;exact yo⟩
theorem qp{rs:List (List Sg)}(h:rs.Nodup):(rs.map kR).Nodup:=by
 unfold List.Nodup at h ⊢;rw[List.pairwise_map];exact h.imp fun ne e=>ne (ic e)
theorem vg{rs qs:List (List Sg)}(h1:rs.Nodup) (h2:qs.Nodup) (e:∀t,t∈rs↔t∈qs):rs.Perm qs:=by
 rw[List.perm_iff_count];intro a;rw[h1.count,h2.count];simp only[e a]
theorem vb{rs qs:List (List Sg)}(h1:rs.Nodup) (h2:qs.Nodup) (e:∀t,t∈rs↔t∈qs):bN (rs.map kR)=bN (qs.map kR):=j5 ((vg h1 h2 e).map kR)
theorem oU:∀{ks:List (List KD)},(∀k∈ks,∃r,k=kR r)->∃rs:List (List Sg),ks=rs.map kR
 |[],_=>⟨[],rfl⟩
 |k::ks,h=>by
  obtain⟨r,rfl⟩:=h k (.head _);obtain⟨rs,rfl⟩:=oU fun k hk=>h k (.tail _ hk);exact⟨r::rs,rfl⟩
theorem uU{rs:List (List Sg)}:(rs.map kR).map bu=rs.map fun r=>D.tup (r.map aK):=by
 rw[List.map_map];exact List.map_congr_left fun r _=>tq
def plB(ord:List (Str×Str)) (t:List Sg):Bool:=(List.range (t.length-1)).all fun i=>!cB ord (sg t i) (sg t (i+1))
theorem Dq{CX:CXT}{P:Program}{w:World}{K:PySem.W.Frag}{mg:Str->Option Value}{base:Heap}{N:List Str}{qual:Str}{scope:Scope}{f:Addr}{cd:Value}{A:Around}{outer:List Env}{s:Shared}{H:Hp}{E:XK}:(iK CX P w K mg base N qual scope f cd A outer s H E).w=w:=rfl
def c8(k:Nat):D:=.int (k:Int)
theorem jA{n:Nat}:mM 0 n=(List.range n).map c8:=by
 unfold mM c8;refine List.map_congr_left fun i _=>?_;rw[Int.zero_add]
def kpt(n mask:Nat):List Nat:=(List.range n).filter fun k=>mask / 2 ^ k % 2==1
theorem B4{i k:Nat}:((i:Int) / 2 ^ k % 2==1)=(i / 2 ^ k % 2==1):=by
 have e:(i:Int) / 2 ^ k % 2=((i / 2 ^ k % 2:Nat):Int):=by simp
 rw[e,Bool.eq_iff_iff];simp only[beq_iff_eq]
 lia
theorem Do{n mask:Nat}:(kpt n mask).Pairwise (·<·):=List.pairwise_lt_range.sublist List.filter_sublist
theorem v6{n mask p:Nat}(h:p∈kpt n mask):p<n:=List.mem_range.mp (List.mem_filter.mp h).1
def loL(ps:List Nat):List Nat:=0::ps.map (·+1)
theorem pX{c:Sg->Sg->Bool}{row:List Sg}:∀{ps:List Nat}{lo:Nat},ps.Pairwise (·<·)->(∀p∈ps,lo<=p/\p<row.length)->lo<=row.length ->
  (KpP c row lo ps↔∀(k a b:Nat),(lo::ps.map (·+1))[k]?=some a->(ps++[row.length])[k]?=some b->Gp c (seg row a b))
 |[],lo,_,_,hlo=>by
  constructor
  ·intro h k a b h1 h2;cases k with
   |zero =>
    simp at h1 h2;subst h1 h2;unfold seg;rw[List.take_of_length_le (by rw[List.length_drop];exact Nat.le_refl _)];exact h
   |succ k=>simp at h1
  ·intro h;have:=h 0 lo row.length rfl rfl;unfold seg at this;rw[List.take_of_length_le (by rw[List.length_drop];exact Nat.le_refl _)]at this;exact this
 |p::ps,lo,hp,hb,hlo=>by
  rw[List.pairwise_cons]at hp;have hpb:=hb p (.head _);have ih:=pX (c:=c) (row:=row) (ps:=ps) (lo:=p+1) hp.2 (fun x hx=>⟨hp.1 x hx,(hb x (.tail _ hx)).2⟩) (by lia);constructor
  ·rintro⟨_,_,h3,h4⟩ k a b h1 h2;cases k with
   |zero=>simp at h1 h2;subst h1 h2;exact h3
   |succ k=>exact ih.mp h4 k a b (by simpa using h1) (by simpa using h2)
  ·intro h;exact⟨hpb.1,hpb.2,h 0 lo p rfl rfl,ih.mpr fun k a b h1 h2=>h (k+1) a b (by simpa using h1) (by simpa using h2)⟩
def Tld(ord:List (Str×Str)) (row:List Sg) (mask:Nat) (t:List Sg):Prop:=t=(kpt row.length mask).map (sg row)/\KpP (cB ord) row 0 (kpt row.length mask)/\plB ord t=true
theorem wZ{row:List Sg}{ps:List Nat}(h:∀p∈ps,p<row.length):(ps.map (sg row)).map some=ps.map (row[·]?):=by
 rw[List.map_map];exact List.map_congr_left fun p hp=>(wb (h p hp)).symm
theorem sY{ord:List (Str×Str)}{row t:List Sg}:(∃mask,mask<2 ^ row.length/\Tld ord row mask t)↔Kp (cB ord) row t/\plB ord t=true:=by
 constructor
 ·rintro⟨m,_,rfl,h2,h3⟩;exact⟨by have:=h2.kp _ (wZ fun p hp=>v6 hp);rwa [List.drop_zero]at this,h3⟩
 ·rintro⟨h1,h2⟩;obtain⟨ps,p1,p2,p3,p4⟩:=h1.places (row:=row) 0 rfl (Nat.zero_le _);obtain⟨m,m1,m2⟩:=tH (fun k=>decide (k∈ps)) row.length;have e:kpt row.length m=ps:=by
   refine Eq.trans (List.filter_congr fun k hk=>?_) (vp p3 fun p hp=>(p4 p hp).2);rw[Bool.eq_iff_iff,beq_iff_eq];exact m2 k (List.mem_range.mp hk)
  refine⟨m,m1,?_,by rw[e];exact p1,h2⟩;rw[e];have q:=wZ fun p hp=>(p4 p hp).2;exact(List.map_inj_right fun a b z=>Option.some.inj z).mp (p2.trans q.symm)
def qZ(ps:List Nat) (n:Nat):List D:=D.int (-1)::ps.map c8++[D.int (n:Int)]
def loK(ps:List Nat) (k:Nat):Nat:=(loL ps).getD k 0
def hiK(ps:List Nat) (n k:Nat):Nat:=(ps++[n]).getD k 0
theorem z6{ps:List Nat}{n k:Nat}(h:k<=ps.length):(qZ ps n)[k]?=some (D.int ((loK ps k:Int)-1)):=by
 cases k with
 |zero=>rfl
 |succ k =>
  have hk:k<ps.length:=h;simp[qZ,loK,loL,c8,List.getElem?_append_left,hk]
theorem zO{ps:List Nat}{n k:Nat}(h:k<=ps.length):(qZ ps n)[k+1]?=some (D.int (hiK ps n k:Int)):=by
 have e:ps.map c8++[D.int (n:Int)]=(ps++[n]).map c8:=by simp[c8]
 have hk:k<(ps++[n]).length:=by simp;lia
 unfold qZ hiK;rw[List.cons_append,List.getElem?_cons_succ,e,List.getElem?_map,List.getD_eq_getElem?_getD,List.getElem?_eq_getElem hk];rfl
theorem E3{ps:List Nat}{n k:Nat}(hup:ps.Pairwise (·<·)) (hlt:∀p,p∈ps->p<n) (h:k<=ps.length):loK ps k<=hiK ps n k/\hiK ps n k<=n:=by
 have hb:hiK ps n k<=n:=by
  unfold hiK;rw[List.getD_eq_getElem?_getD];rcases Nat.lt_or_ge k ps.length with q|q
  ·rw[List.getElem?_append_left q,List.getElem?_eq_getElem q];exact Nat.le_of_lt (hlt _ (List.getElem_mem q))
  ·obtain rfl:k=ps.length:=by lia
   simp
 refine⟨?_,hb⟩;cases k with
 |zero=>exact Nat.zero_le _
 |succ k =>
  have hk:k<ps.length:=h;have e1:loK ps (k+1)=ps[k]+1:=by simp[loK,loL,hk]
  rw[e1];unfold hiK;rw[List.getD_eq_getElem?_getD];rcases Nat.lt_or_ge (k+1) ps.length with q|q
  ·rw[List.getElem?_append_left q,List.getElem?_eq_getElem q];exact List.pairwise_iff_getElem.mp hup k (k+1) hk q (by lia)
  ·obtain e:k+1=ps.length:=by lia
   rw[e];simp;exact hlt _ (List.getElem_mem hk)
theorem uf{ord:List (Str×Str)}{row:List Sg}{ps:List Nat}(hup:ps.Pairwise (·<·)) (hlt:∀p,p∈ps->p<row.length):((List.range (ps.length+1)).all fun k=>gB ord (seg row (loK ps k) (hiK ps row.length k)))=true↔KpP (cB ord) row 0 ps:=by
 rw[pX hup (fun p hp=>⟨Nat.zero_le _,hlt p hp⟩) (Nat.zero_le _),List.all_eq_true];constructor
 ·intro h k a b h1 h2;have hk:k<ps.length+1:=by have:=(List.getElem?_eq_some_iff.mp h1).1;simpa using this
  have:=ig.mp (h k (List.mem_range.mpr hk));have e1:loK ps k=a:=by unfold loK loL;rw[List.getD_eq_getElem?_getD,h1];rfl
  have e2:hiK ps row.length k=b:=by unfold hiK;rw[List.getD_eq_getElem?_getD,h2];rfl
  rwa [e1,e2]at this
 ·intro h k hk;have hk:=List.mem_range.mp hk;refine ig.mpr (h k _ _ ?_ ?_)
  ·unfold loK loL;have:k<(0::ps.map (·+1)).length:=by simpa using hk
   rw[List.getD_eq_getElem?_getD,List.getElem?_eq_getElem this];rfl
  ·unfold hiK;have:k<(ps++[row.length]).length:=by simpa using hk
   rw[List.getD_eq_getElem?_getD,List.getElem?_eq_getElem this];rfl
theorem sI{α:Type}{xs:List α}{f:α->Bool}:vM (.lst (xs.map fun x=>D.bl (f x)))=some (.bl (xs.all f)):=by
 have h1:(xs.map fun x=>D.bl (f x)).all oD=true:=by rw[List.all_map,List.all_eq_true];intro _ _;rfl
 simp only[vM,h1,if_true,List.all_map];rfl
theorem Dj{α:Type}{xs:List α}{f:α->Bool}:Aq (.lst (xs.map fun x=>D.bl (f x)))=some (.bl (xs.any f)):=by
 have h1:(xs.map fun x=>D.bl (f x)).all oD=true:=by rw[List.all_map,List.all_eq_true];intro _ _;rfl
 simp only[Aq,h1,if_true,List.any_map];rfl
def nA:SpD:=fun ds M R=>∃(ord:List (Str×Str)) (row:List Sg),ds=[.tup (ord.map aw),.tup (row.map aK)]/\ord.length<=500/\row.length<=10/\∀rs:List (List Sg),rs.Nodup->(∀t,t∈rs↔Kp (cB ord) row t/\plB ord t=true)->R (.lst ((bN (rs.map kR)).map bu)) M
theorem sj(F:Fun K "_law_plain" "_law_plain" cJ f fd) (T:Txt mg) (gb3:FnD P w K mg base "_law_gaps" 3 2 qy) (G7:FnD P w K mg base "_law_cancel" 2 3 iq):aQ P w K mg base CX0 4 f fd ["_law_order","_law_row_here"] (spD K 2 nA):=by
 have nd:=mD.nd;refine F.okR rfl mD (fun cdv A outer s H E hr=>⟨_,(am (aR (i:=2) nd rfl (Or.inr rfl) (qd gb3 hr (af (ae 0) (af (ae 1) ah))))
   (am (aR (i:=3) nd rfl (Or.inl rfl) FY)
   (am (dO PassesOwn.never rfl (cb rfl T.b_range (af (av FF ai (au bv rfl T.b_len (by kernel_rfl) (af (ae 1) ah))) ah)) (bH (i:=4) nd rfl (Or.inr rfl)) (am (jo (i:=5) nd rfl rfl rfl (ms:=[false,false,false,false,true,false,false,false]) (ak:=["_law_k"]) (ay rfl (show aJ (ag cJ) bT _ _=true from by decide +kernel)) rfl (cb rfl T.b_range (af (au bv rfl T.b_len (by kernel_rfl) (af (ae 1) ah)) ah)) (aF (i:=8) (show(bT++_).Nodup from by decide +kernel) rfl rfl) (fun _ _ _ _=>(jR (aZ (mm hr.units) (av bS (av Fg (ae 4) (ae 8)) ai) ai nbh))) (fun _ _ _ _=>(ae 8)))
   (am (aR (i:=6) nd rfl (Or.inr rfl) (av aP (av aP (nP (af (FB EL ai) ah)) (ae 5)) (nP (af (au bv rfl T.b_len (by kernel_rfl) (af (ae 1) ah)) ah))))
   (ao (dQ (eu (au (m6 rfl) rfl T.b_all (by kernel_rfl) (af (gO (ms:=[false,false,true,false,false,false,true,false]) (ak:=["_law_k"]) (ay rfl (show aJ (ag cJ) bT _ _=true from by decide +kernel)) rfl (cb rfl T.b_range (af (av qD (au bv rfl T.b_len (by kernel_rfl) (af (ae 6) ah)) ai) ah)) (aF (i:=8) (show(bT++_).Nodup from by decide +kernel) rfl rfl) (fun _ _ _ _=>bR) (fun _ _ _ _=>(oh hr.units1 (ae 2) (af (av aP (aO aN (ae 6) (ae 8) (fun _ _=>rfl)) ai) (af (aO aN (ae 6) (av aP (ae 8) ai) (fun _ _=>rfl)) ah)) (fun _ _=>rfl)))) ah))) (am (aR (i:=7) nd rfl (Or.inr rfl) (bX df rfl T.b_tuple (by kernel_rfl) (af (gO (ms:=[false,true,false,false,false,false,false,false]) (ak:=["_law_k"]) (ay rfl (show aJ (ag cJ) bT _ _=true from by decide +kernel)) rfl (aT (ae 5)) (aF (i:=8) (show(bT++_).Nodup from by decide +kernel) rfl rfl) (fun _ _ _ _=>bR) (fun _ _ _ _=>(aO aN (ae 1) (ae 8) (fun _ _=>rfl)))) ah)))
   (ao (dQ (sm (eu (au (D7 rfl) rfl T.b_any (by kernel_rfl) (af (gO (ms:=[true,false,false,false,false,false,false,true]) (ak:=["_law_k"]) (ay rfl (show aJ (ag cJ) bT _ _=true from by decide +kernel)) rfl (cb rfl T.b_range (af (av qD (au bv rfl T.b_len (by kernel_rfl) (af (ae 7) ah)) ai) ah)) (aF (i:=8) (show(bT++_).Nodup from by decide +kernel) rfl rfl) (fun _ _ _ _=>bR) (fun _ _ _ _=>(qd G7 hr (af (ae 0) (af (aO aN (ae 7) (ae 8) (fun _ _=>rfl)) (af (aO aN (ae 7) (av aP (ae 8) ai) (fun _ _=>rfl)) ah)))))) ah)))) (ao (Co hr.units (ae 3) (ae 7) vV)) cp))) cp)))))
   (ao (ij (Ar rfl hr.units rfl T.b_sorted (ae 3))))))),fun ds M R _ hS bk=>?_⟩)
 obtain⟨ord,row,rfl,ho,hl,k⟩:=hS;refine bk ?_;clear bk;walk_at "rd";refine⟨ord,row,rfl,ho,hl,fun g tb hg hG=>?_⟩;walk_at "rd";intro d hd;have hgd:g≠d:=by rintro rfl;rw[aD]at hd;cases hd
 have hMd:M d=none:=by rw[cu (Ne.symm hgd)]at hd;exact hd
 simp only[Dq];rw[List.length_map];obtain⟨N,hN⟩:∃N:Nat,N=2 ^ row.length:=⟨_,rfl⟩;have h2:N<=1024:=by rw[hN];exact Nat.le_trans (Nat.pow_le_pow_right (by decide) hl) (by decide)
 have e2:(1:Int)*2 ^ ((row.length:Int)).toNat=(N:Int):=by rw[hN,Int.toNat_natCast];simp
 refine⟨_,if_pos ⟨by lia,by lia,by decide⟩,_,rfl,?_⟩;rw[e2,Int.toNat_natCast];refine⟨by lia,by lia,?_⟩;refine aY (fun i Δ M'=>∃(rs:List (List Sg)) (x4 x5 x6 x7:Option D),Δ=[some (D.tup (ord.map aw)),some (D.tup (row.map aK)),some (D.ref g),some (D.ref d),x4,x5,x6,x7]/\M'=aG (aG M g (.dT tb)) d (dRw w d (rs.map kR))/\rs.Nodup/\rs.length<=i/\∀t,t∈rs↔∃mask,mask<i/\Tld ord row mask t)
  ⟨[],_,_,_,_,rfl,rfl,.nil,Nat.zero_le _,fun t=>⟨fun z=>(nomatch z),fun⟨m,z,_⟩=>absurd z (Nat.not_lt_zero m)⟩⟩ ?_ ?_
 ·rintro i dd Δ M' X hdd ⟨rs,x4,x5,x6,x7,rfl,rfl,hnd,hle,hrs⟩ k';obtain⟨hi,rfl⟩:=b7 hdd;rw[Int.zero_add];simp only[cy];walk_at "rd";rw[List.length_map,Int.toNat_natCast,jA];refine⟨by lia,by lia,by rw[List.length_map,List.length_range];exact szB _ (by lia),?_⟩;refine aS c8 (fun k=>i / 2 ^ k % 2==1) c8 (fun Δ=>∃x,Δ=[none,none,none,none,some (D.int (i:Int)),none,none,none,x]) (List.range row.length) _ _ (fun k' hk Δ hΔ=>?_) ⟨none,rfl⟩ ?_
  ·obtain⟨x,rfl⟩:=hΔ;refine⟨_,rfl,⟨_,rfl⟩,fun Q1 q=>?_,fun _ Q2 q=>?_⟩
   ·simp only[c8];walk_at "rd";refine⟨_,if_pos (by lia),?_⟩;walk_at "rd";rw[Int.toNat_natCast,B4];exact q
   ·simp only[c8]at q ⊢;walk_at "rd";exact q
  rw[List.nil_append,show(List.range row.length).filter (fun k=>i / 2 ^ k % 2==1)=kpt row.length i from rfl];have hup:=Do (n:=row.length) (mask:=i);have hlt:=fun p=>v6 (n:=row.length) (mask:=i) (p:=p);have hT:∀t,Tld ord row i t↔t=(kpt row.length i).map (sg row)/\KpP (cB ord) row 0 (kpt row.length i)/\plB ord t=true:=fun t=>Iff.rfl;generalize kpt row.length i=ps at hup hlt hT;have hpl:ps.length<=10:=by
   have:=cM ps (List.range row.length) (hup.imp fun h=>by lia) fun p hp=>List.mem_range.mpr (hlt p hp);rw[List.length_range]at this;lia
  have Lm:(ps.map c8).length=ps.length:=List.length_map ..;have Le:(qZ ps row.length).length=ps.length+2:=by simp[qZ]
  have eM:(aG (aG M g (.dT tb)) d (dRw w d (rs.map kR))) g=some (.dT tb):=by rw[cu hgd,aD]
  have no:¬ (KpP (cB ord) row 0 ps/\plB ord (ps.map (sg row))=true)->∀y4 y5 y6 y7,X [some (D.tup (ord.map aw)),some (D.tup (row.map aK)),some (D.ref g),some (D.ref d),y4,y5,y6,y7] (aG (aG M g (.dT tb)) d (dRw w d (rs.map kR))):=fun hn y4 y5 y6 y7 =>
   k' _ _ ⟨rs,y4,y5,y6,y7,rfl,rfl,hnd,by lia,fun t=>by
    rw[hrs t];constructor
    ·rintro⟨m,m1,m2⟩;exact⟨m,by lia,m2⟩
    ·rintro⟨m,m1,m2⟩
     by_cases e:m=i
     ·subst e;obtain⟨z1,z2,z3⟩:=(hT t).mp m2;exact absurd ⟨z2,z1▸z3⟩ hn
     ·exact⟨m,by lia,m2⟩⟩
  refine⟨sz3 1,_,if_pos (by rw[Lm];exact szB _ (by lia)),sz3 1,_,(show oV _ _=some (D.lst (qZ ps row.length))from if_pos (by simp;exact szB _ (by lia))),_,rfl,_,rfl,_,rfl,?_⟩;rw[Le,show(((ps.length+2:Nat):Int)-1).toNat=ps.length+1 by lia,jA];refine⟨by lia,by lia,by rw[List.length_map,List.length_range];exact szB _ (by lia),?_⟩;refine aS c8 (fun _=>true) (fun k=>D.bl (gB ord (seg row (loK ps k) (hiK ps row.length k)))) (fun Δ=>∃x,Δ=[none,none,some (D.ref g),none,none,none,some (D.lst (qZ ps row.length)),none,x]) (List.range (ps.length+1)) _ _ (fun k hk Δ hΔ=>?_) ⟨none,rfl⟩ ?_
  ·obtain⟨x,rfl⟩:=hΔ;have hk:=List.mem_range.mp hk;refine⟨_,rfl,⟨_,rfl⟩,fun Q1 q=>q,fun _ Q2 q=>?_⟩;simp only[c8];walk_at "rd";rw[show((k:Int)+1)=((k+1:Nat):Int)by lia];refine⟨_,bC (z6 (by lia)),D.int (loK ps k:Int),?_,_,bC (zO (by lia)),tb,eM,[.inl (loK ps k:Int),.inl (hiK ps row.length k:Int)],rfl,sz3 2,_,hG _ _ (E3 hup hlt (by lia)).1 (E3 hup hlt (by lia)).2,q⟩;show some (D.int ((loK ps k:Int)-1+1))=_;rw[Int.sub_add_cancel]
  ·rw[List.nil_append,List.filter_eq_self.mpr (fun _ _=>rfl)];refine⟨_,sI,_,rfl,fK (fun hb=>?_) (fun hb=>no (fun z=>hb ((uf hup hlt).mpr z.1)) _ _ _ _)⟩;have hK:=(uf hup hlt).mp hb;intro hz;refine⟨hz,?_⟩;refine aS c8 (fun _=>true) (fun k=>aK (sg row k)) (fun Δ=>∃x,Δ=[none,some (D.tup (row.map aK)),none,none,none,none,none,none,x]) ps _ _ (fun k hk Δ hΔ=>?_) ⟨none,rfl⟩ ?_
   ·obtain⟨x,rfl⟩:=hΔ;refine⟨_,rfl,⟨_,rfl⟩,fun Q1 q=>q,fun _ Q2 q=>?_⟩;simp only[c8];walk_at "rd";exact⟨_,lZ (hlt k hk),q⟩
   have et:(ps.map fun k=>aK (sg row k))=(ps.map (sg row)).map aK:=by rw[List.map_map];rfl
   rw[List.nil_append,List.filter_eq_self.mpr (fun _ _=>rfl),et];have htl:(ps.map (sg row)).length=ps.length:=List.length_map ..;clear et;generalize ps.map (sg row)=t at hT no htl;rw[List.length_map,show((t.length:Int)-1).toNat=t.length-1 by lia,jA];refine⟨by lia,by lia,by rw[List.length_map,List.length_range];exact szB _ (by lia),?_⟩;refine aS c8 (fun _=>true) (fun k=>D.bl (cB ord (sg t k) (sg t (k+1)))) (fun Δ=>∃x,Δ=[some (D.tup (ord.map aw)),none,none,none,none,none,none,some (D.tup (t.map aK)),x]) (List.range (t.length-1)) _ _ (fun k hk Δ hΔ=>?_) ⟨none,rfl⟩ ?_
   ·obtain⟨x,rfl⟩:=hΔ;have hk:=List.mem_range.mp hk;refine⟨_,rfl,⟨_,rfl⟩,fun Q1 q=>q,fun _ Q2 q=>?_⟩;simp only[c8];walk_at "rd";rw[show((k:Int)+1)=((k+1:Nat):Int)by lia];exact⟨_,lZ (by lia),_,lZ (by lia),ord,_,_,rfl,ho,q⟩
   rw[List.nil_append,List.filter_eq_self.mpr (fun _ _=>rfl)];have hp:(!(List.range (t.length-1)).any fun k=>cB ord (sg t k) (sg t (k+1)))=plB ord t:=by unfold plB;rw[List.not_any_eq_all_not]
   refine⟨_,Dj,_,rfl,?_⟩;rw[hp];refine fK (fun h=>⟨rs.map kR,aD,kR t,tq.symm,tE,by rw[List.length_map];lia,?_⟩) (fun h=>no (fun z=>h z.2) _ _ _ _);rw[jd];have fin:∀rs':List (List Sg),bp (rs.map kR) (kR t)=rs'.map kR->rs'.Nodup->rs'.length<=i+1->(∀u,u∈rs'↔u∈rs∨u=t)->∀y4 y5 y6 y7,X [some (D.tup (ord.map aw)),some (D.tup (row.map aK)),some (D.ref g),some (D.ref d),y4,y5,y6,y7] (aG (aG M g (.dT tb)) d (dRw w d (bp (rs.map kR) (kR t)))):=fun rs' e n1 n2 n3 y4 y5 y6 y7 =>
    k' _ _ ⟨rs',y4,y5,y6,y7,rfl,by rw[e],n1,n2,fun u=>by
     rw[n3 u,hrs u];constructor
     ·rintro(⟨m,m1,m2⟩|rfl)
      ·exact⟨m,by lia,m2⟩
      ·exact⟨i,by lia,(hT u).mpr ⟨rfl,hK,h⟩⟩
     ·rintro⟨m,m1,m2⟩
      by_cases e:m=i
      ·subst e;exact .inr ((hT u).mp m2).1
      ·exact .inl ⟨m,by lia,m2⟩⟩
   by_cases c:t∈rs
   ·exact fin rs (if_pos (List.mem_map_of_mem c)) hnd (by lia) (fun u=>⟨.inl,fun z=>z.elim id fun z=>z▸c⟩) _ _ _ _
   ·refine fin (rs++[t]) ?_ ?_ (by rw[List.length_append];simp;lia) (fun u=>by simp) _ _ _ _
    ·unfold bp;rw[if_neg,List.map_append];rfl;intro z;obtain⟨r,hr,e⟩:=List.mem_map.mp z;exact c (ic e▸hr)
    ·rw[List.nodup_append];exact⟨hnd,by simp,fun a ha b hb=>by rw[List.mem_singleton]at hb;rintro rfl;exact c (hb▸ha)⟩
 ·rintro Δ M' ⟨rs,x4,x5,x6,x7,rfl,rfl,hnd,hle,hrs⟩;rw[bQ]at hle hrs;walk_at "rd";refine⟨rs.map kR,rfl,sT,by rw[List.length_map];lia,M,F8 hg hMd,k rs hnd fun t=>?_⟩;rw[hrs,hN,sY]
def cns(ord:List (Str×Str)) (row:List Sg):List Nat:=(List.range (row.length-1)).filter fun i=>cB ord (sg row i) (sg row (i+1))
def tS(row:List Sg) (p:Nat):List Sg:=row.take p++row.drop (p+2)
def gP(ord:List (Str×Str)) (row:List Sg):List (List Sg):=(cns ord row).map (tS row)
def rwD(r:List Sg):D:=.tup (r.map aK)
theorem gL{rs:List (List Sg)}:(rs.map kR).map bu=rs.map rwD:=uU
theorem Cp{row:List Sg}{p:Nat}(h:p+1<row.length):row=row.take p++sg row p::sg row (p+1)::row.drop (p+2):=by
 have e1:row.drop p=sg row p::row.drop (p+1):=by rw[List.drop_eq_getElem_cons (by lia)];simp[sg,show p<row.length by lia]
 have e2:row.drop (p+1)=sg row (p+1)::row.drop (p+2):=by rw[List.drop_eq_getElem_cons h];simp[sg,h]
 rw[<-e2,<-e1,List.take_append_drop]
theorem iY{ord:List (Str×Str)}{row t:List Sg}:t∈gP ord row↔Cn (cB ord) row t:=by
 unfold gP cns;rw[List.mem_map];constructor
 ·rintro⟨p,hp,rfl⟩;rw[List.mem_filter,List.mem_range]at hp;exact⟨row.take p,sg row p,sg row (p+1),row.drop (p+2),Cp (by lia),hp.2,rfl⟩
 ·rintro⟨xs,a,b,ys,rfl,hc,rfl⟩;have g1:sg (xs++a::b::ys) xs.length=a:=by simp[sg]
  have g2:sg (xs++a::b::ys) (xs.length+1)=b:=by
   unfold sg;rw[List.getD_eq_getElem?_getD,List.getElem?_append_right (by lia),show xs.length+1-xs.length=1 by lia];rfl
  refine⟨xs.length,?_,?_⟩
  ·rw[List.mem_filter,List.mem_range,g1,g2];exact⟨by simp,hc⟩
  ·unfold tS;rw[List.take_left',List.drop_append,List.drop_of_length_le (by lia),show xs.length+2-xs.length=2 by lia]
   ·rfl
   ·rfl
theorem rL{ord:List (Str×Str)}{row:List Sg}:((cns ord row).length==0)=plB ord row:=by
 rw[Bool.eq_iff_iff,beq_iff_eq,List.length_eq_zero_iff,cns,List.filter_eq_nil_iff,plB,List.all_eq_true];simp
theorem yh{ord:List (Str×Str)}{row:List Sg}:(gP ord row).length<=row.length-1:=by
 unfold gP cns;rw[List.length_map];exact Nat.le_trans (List.length_filter_le _ _) (by rw[List.length_range];exact Nat.le_refl _)
def du:SpD:=fun ds M R=>∃(ord:List (Str×Str)) (row:List Sg),ds=[.tup (ord.map aw),rwD row]/\ord.length<=500/\row.length<=10/\R (.lst ((cns ord row).map c8)) M
theorem kJ(F:Fun K "cancels_in" "cancels_in" cE f fd) (T:Txt mg) (G3:FnD P w K mg base "cancel" 4 3 fe):aQ P w K mg base CX0 5 f fd ["order","row"] (spD K 2 du):=by
 have nd:=fA.nd;refine F.okR rfl fA (fun cdv A outer s H E hr=>⟨_,(ao (a7 (gO (ms:=[true,true]) (ak:=["place"]) (ay rfl (show aJ (ag cE) dB _ _=true from by decide +kernel)) rfl (cb rfl T.b_range (af (av qD (au bv rfl T.b_len (by kernel_rfl) (af (ae 1) ah)) ai) ah)) (aF (i:=2) (show(dB++_).Nodup from by decide +kernel) rfl rfl) (fun _ _ _ _=>(jR (eu (qd G3 hr (af (ae 0) (af (aO aN (ae 1) (ae 2) (fun _ _=>rfl)) (af (aO aN (ae 1) (av aP (ae 2) ai) (fun _ _=>rfl)) ah))))))) (fun _ _ _ _=>(ae 2))))),fun ds M R _ hS bk=>?_⟩);obtain⟨ord,row,rfl,ho,hl,k⟩:=hS;refine bk ?_;clear bk;simp only[rwD];walk_at "rd";rw[List.length_map,show((row.length:Int)-1).toNat=row.length-1 by lia,jA];refine⟨by lia,by lia,by rw[List.length_map,List.length_range];exact szB _ (by lia),?_⟩;refine aS c8 (fun i=>cB ord (sg row i) (sg row (i+1))) c8 (fun Δ=>∃x,Δ=[some (D.tup (ord.map aw)),some (D.tup (row.map aK)),x]) (List.range (row.length-1)) _ _ (fun i hi Δ hΔ=>?_) ⟨none,rfl⟩ k;obtain⟨x,rfl⟩:=hΔ;have hi:=List.mem_range.mp hi;refine⟨_,rfl,⟨_,rfl⟩,fun Q1 q=>?_,fun _ Q2 q=>?_⟩
 ·simp only[c8];walk_at "rd";rw[show((i:Int)+1)=((i+1:Nat):Int)by lia];refine⟨_,lZ (by lia),_,lZ (by lia),?_⟩;rw[qw];exact⟨ho,_,rfl,q⟩
 ·simp only[c8]at q ⊢;walk_at "rd";exact q
def cA:SpD:=fun ds M R=>∃(ord:List (Str×Str)) (row:List Sg),ds=[.tup (ord.map aw),rwD row]/\ord.length<=500/\row.length<=10/\R (.lst ((gP ord row).map rwD)) M
theorem eW(F:Fun K "rows_by_one_cancel" "rows_by_one_cancel" aV f fd) (T:Txt mg) (G4:FnD P w K mg base "cancels_in" 5 2 du):aQ P w K mg base CX0 6 f fd ["order","row"] (spD K 2 cA):=by
 have nd:=ck.nd;refine F.okR rfl ck (fun cdv A outer s H E hr=>⟨_,(ao (a7 (gO (ms:=[false,true]) (ak:=["place"]) (ay rfl (show aJ (ag aV) bA _ _=true from by decide +kernel)) rfl (aT (qd G4 hr (af (ae 0) (af (ae 1) ah)))) (aF (i:=2) (show(bA++_).Nodup from by decide +kernel) rfl rfl) (fun _ _ _ _=>bR) (fun _ _ _ _=>(av aP (cW (ae 1) gG (cU (ae 2))) (cW (ae 1) (cU (av aP (ae 2) ai)) gG)))))),fun ds M R _ hS bk=>?_⟩);obtain⟨ord,row,rfl,ho,hl,k⟩:=hS;refine bk ?_;clear bk;simp only[rwD];walk_at "rd";refine⟨ord,row,rfl,ho,hl,?_⟩;walk_at "rd";intro hz;refine⟨hz,aS c8 (fun _=>true) (fun p=>rwD (tS row p)) (fun Δ=>∃x,Δ=[none,some (D.tup (row.map aK)),x]) (cns ord row) _ _ (fun p hp Δ hΔ=>?_) ⟨none,rfl⟩ ?_⟩
 ·obtain⟨x,rfl⟩:=hΔ;refine⟨_,rfl,⟨_,rfl⟩,fun Q1 q=>q,fun _ Q2 q=>?_⟩;simp only[c8];walk_at "rd";rw[show((p:Int)+2)=((p+2:Nat):Int)by lia,oS,qJ,<-List.map_take,<-List.map_drop];refine⟨_,if_pos (by rw[List.length_map,List.length_map,List.length_take,List.length_drop];exact szB _ (by lia)),?_⟩;rw[<-List.map_append];exact q
 ·rw[List.nil_append,List.filter_eq_self.mpr (fun _ _=>rfl)];have e:((cns ord row).map fun p=>rwD (tS row p))=(gP ord row).map rwD:=by unfold gP;rw[List.map_map];rfl
  rw[e];exact k
theorem jH{α:Type}{g:GD}{B:BKd}{M:DH}(enc:α->D) (out:α->List D) (Ok:DE->Prop):∀(xs:List α) (Δ:DE) (acc:List D) (Q:List D->DE->DH->Prop),
  (∀x∈xs,∀ Δ,Ok Δ->∃ Δ',g (enc x) Δ=some Δ'/\∀(acc:List D) (Q2:List D->DE->DH->Prop),acc.length+(out x).length<=sizeLine->(∀ Δ'',Ok Δ''->Q2 (acc++out x) Δ'' M)->B Δ' M acc Q2)->Ok Δ ->
  acc.length+(xs.flatMap out).length<=sizeLine->(∀ Δ',Ok Δ'->Q (acc++xs.flatMap out) Δ' M)->gE g qi B (xs.map enc) Δ M acc Q
 |[],Δ,acc,Q,_,ok,_,q=>by
  simp only[List.map_nil,gE];have:=q Δ ok
  rwa [List.flatMap_nil,List.append_nil]at this
 |x::xs,Δ,acc,Q,h,ok,hz,q=>by
  rw[List.flatMap_cons,List.length_append]at hz;rw[List.map_cons];simp only[gE,qi,if_true];obtain⟨Δ',e,h1⟩:=h x (.head _) Δ ok;refine⟨Δ',e,h1 acc _ (by lia) fun Δ'' ok'=>⟨by rw[List.length_append];lia,?_⟩⟩;refine jH enc out Ok xs Δ'' _ Q (fun z hz=>h z (.tail _ hz)) ok' (by rw[List.length_append];lia) fun Δ3 ok3=>?_;have:=q Δ3 ok3
  rwa [List.flatMap_cons,<-List.append_assoc]at this
theorem lL{α β:Type}{f:α->β}:∀l:List α,(l.flatMap fun a=>[f a])=l.map f
 |[]=>rfl
 |a::l=>by rw[List.flatMap_cons,lL l];rfl
def bdR:Nat->Nat
 |0=>1
 |k+1=>bdR k*(9-2*k)
theorem xk:∀k,bdR k<1000
 |0=>by decide
 |1=>by decide
 |2=>by decide
 |3=>by decide
 |4=>by decide
 |5=>by decide
 |k+6=>by
  have:∀j,bdR (j+6)=0:=fun j=>by
   induction j with
   |zero=>decide
   |succ j ih=>show bdR (j+6)*_=0;rw[ih,Nat.zero_mul]
  rw[this];decide
theorem Rt.pre{T:Type}{c:T->T->Bool}{a:Nat}:∀{b:Nat}{r t:List T},Rt c (a+b) r t->∃m,Rt c a r m
 |0,_,t,h=>⟨t,h⟩
 |b+1,_,_,⟨m,h,_⟩=>Rt.pre (b:=b) h
theorem pR{α β:Type}{f:α->List β}{n:Nat}:∀{l:List α},(∀x∈l,(f x).length<=n)->(l.flatMap f).length<=l.length*n
 |[],_=>by simp
 |x::l,h=>by
  rw[List.flatMap_cons,List.length_append,List.length_cons,Nat.succ_mul];have:=h x (.head _);have:=pR (l:=l) fun y hy=>h y (.tail _ hy)
  lia
theorem pL{rs:List (List Sg)}(h:(rs.map kR).Nodup):rs.Nodup:=by
 unfold List.Nodup at h ⊢;rw[List.pairwise_map]at h;exact h.imp fun ne e=>ne (congrArg kR e)
theorem u6(L:List (List Sg)):∃rs:List (List Sg),bN (cI (L.map kR))=rs.map kR/\rs.Nodup/\(∀t,t∈rs↔t∈L)/\rs.length<=L.length:=by
 have hm:∀k,k∈bN (cI (L.map kR))↔k∈L.map kR:=fun k=>by rw[(bx _).mem_iff,me]
 obtain⟨rs,e⟩:=oU (ks:=bN (cI (L.map kR))) fun k hk=>by
  obtain⟨r,_,rfl⟩:=List.mem_map.mp ((hm k).mp hk);exact⟨r,rfl⟩
 refine⟨rs,e,pL ?_,fun t=>?_,?_⟩
 ·rw[<-e];exact(bx _).nodup_iff.mpr (tG _)
 ·have:=hm (kR t);rw[e]at this;constructor
  ·intro h;obtain⟨r,hr,e2⟩:=List.mem_map.mp (this.mp (List.mem_map_of_mem h));exact ic e2▸hr
  ·intro h;obtain⟨r,hr,e2⟩:=List.mem_map.mp (this.mpr (List.mem_map_of_mem h));exact ic e2▸hr
 ·have h1:rs.length=(cI (L.map kR)).length:=by rw[<-(bx _).length_eq,e,List.length_map]
  have h2:=eY (L.map kR);rw[List.length_map]at h2
  lia
theorem i9{M:DH}{p:Addr}{o:HD}(h:M p=none):LeM M (aG M p o):=fun a u e=>by
 unfold aG
 split
 ·rename_i z;rw[z,h]at e;cases e
 ·exact e
theorem Fk:∀x y:Sg,eqD (aK x) (aK y)=decide (x=y):=fun⟨a,b⟩ ⟨c,d⟩=>by
 rw[Bool.eq_iff_iff];simp[aK,eqD,bZ]
theorem rO:∀x y:List Sg,eqD (rwD x) (rwD y)=decide (x=y):=fun x y=>by
 simp only[rwD,eqD];exact tw aK Fk
theorem tV(x:List Sg):dLe (rwD x) 59=true:=by
 show cn (x.map aK) 58=true;rw[eF];intro d hd;obtain⟨y,_,rfl⟩:=List.mem_map.mp hd;rfl
theorem AC{pl:List (List Sg)}:∃qs:List (List Sg),bN (pl.map kR)=qs.map kR/\(∀t,t∈qs↔t∈pl)/\qs.length=pl.length:=by
 have hm:∀k,k∈bN (pl.map kR)↔k∈pl.map kR:=fun k=>(bx _).mem_iff;obtain⟨qs,e⟩:=oU (ks:=bN (pl.map kR)) fun k hk=>by
  obtain⟨r,_,rfl⟩:=List.mem_map.mp ((hm k).mp hk);exact⟨r,rfl⟩
 refine⟨qs,e,fun t=>?_,?_⟩
 ·have:=hm (kR t);rw[e]at this;constructor
  ·intro h;obtain⟨r,hr,e2⟩:=List.mem_map.mp (this.mp (List.mem_map_of_mem h));exact ic e2▸hr
  ·intro h;obtain⟨r,hr,e2⟩:=List.mem_map.mp (this.mpr (List.mem_map_of_mem h));exact ic e2▸hr
 ·have:=(bx (pl.map kR)).length_eq;rw[e,List.length_map,List.length_map]at this;exact this
theorem sF{ord:List (Str×Str)}{r t:List Sg}(h:plB ord r=true):Kp (cB ord) r t↔t=r:=by
 constructor
 ·intro k;obtain⟨n,hn⟩:=k.rt;cases n with
  |zero=>exact Eq.symm hn
  |succ n =>
   rw[Nat.add_comm]at hn;obtain⟨m,_,e,hc⟩:=hn.pre;cases e;have hm:=iY.mpr hc;rw[<-rL,beq_iff_eq,List.length_eq_zero_iff]at h;unfold gP at hm;rw[h]at hm;cases hm
 ·rintro rfl;exact Kp.self _
theorem Fv(ord:List (Str×Str)) (row:List Sg):∃pl:List (List Sg),pl.Nodup/\(∀t,t∈pl↔Kp (cB ord) row t/\plB ord t=true)/\pl.length<=2 ^ row.length:=by
 classical
 refine⟨cI (((List.range (2 ^ row.length)).map fun m=>(kpt row.length m).map (sg row)).filter fun t=>decide (Kp (cB ord) row t/\plB ord t=true)),tG _,fun t=>?_,?_⟩
 ·rw[me,List.mem_filter,decide_eq_true_eq,and_iff_right_iff_imp];intro h;obtain⟨m,hm,e,_⟩:=sY.mpr h;exact List.mem_map.mpr ⟨m,List.mem_range.mpr hm,e.symm⟩
 ·refine Nat.le_trans (eY _) (Nat.le_trans (List.length_filter_le _ _) ?_);rw[List.length_map,List.length_range];exact Nat.le_refl _
theorem n8(ord:List (Str×Str)) (row:List Sg):∃qs:List (List Sg),∃pl:List (List Sg),pl.Nodup/\(∀t,t∈pl↔Kp (cB ord) row t/\plB ord t=true)/\pl.length<=2 ^ row.length/\bN (pl.map kR)=qs.map kR/\(∀t,t∈qs↔t∈pl)/\qs.length=pl.length:=by
 obtain⟨pl,h1,h2,h3⟩:=Fv ord row;obtain⟨qs,e,e2,e3⟩:=AC (pl:=pl);exact⟨qs,pl,h1,h2,h3,e,e2,e3⟩
def plR(ord:List (Str×Str)) (row:List Sg):List (List Sg):=(n8 ord row).choose
section
variable{ord:List (Str×Str)}{row:List Sg}
theorem rZ{pl:List (List Sg)}(h1:pl.Nodup) (h2:∀t,t∈pl↔Kp (cB ord) row t/\plB ord t=true):bN (pl.map kR)=(plR ord row).map kR:=by
 obtain⟨pl',n,i,_,e,_⟩:=(n8 ord row).choose_spec;exact(vb h1 n fun t=>by rw[h2,i]).trans e
theorem oy{t:List Sg}:t∈plR ord row↔Kp (cB ord) row t/\plB ord t=true:=by
 obtain⟨pl',n,i,_,_,e,_⟩:=(n8 ord row).choose_spec;exact(e t).trans (i t)
theorem pG:(plR ord row).length<=2 ^ row.length:=by
 obtain⟨pl',n,i,l,_,_,e⟩:=(n8 ord row).choose_spec;exact e▸l
theorem Dk:(plR ord row).Nodup:=by
 obtain⟨pl',n,i,_,e,_⟩:=(n8 ord row).choose_spec;refine pL ?_;show(List.map kR (n8 ord row).choose).Nodup;rw[<-e];exact(bx _).nodup_iff.mpr (qp n)
theorem r8:∀{a b:List (List Sg)},a.map kR=b.map kR->a=b:=fun h=>(List.map_inj_right fun _ _ h=>ic h).mp h
theorem yC(h:plB ord row=true):plR ord row=[row]:=by
 refine r8 ?_;rw[<-rZ (pl:=[row]) (by simp) fun t=>by
  rw[List.mem_singleton,sF h];exact⟨fun z=>⟨z,z▸h⟩,fun z=>z.1⟩]
 exact List.perm_singleton.mp (bx _)
theorem wd:∀(n:Nat) (row:List Sg),row.length<=n->∃t,Kp (cB ord) row t/\plB ord t=true
 |n,row,hn=>by
  cases h:plB ord row with
  |true=>exact⟨row,Kp.self _,h⟩
  |false =>
   have:gP ord row≠[]:=fun e=>by
    have z:(cns ord row).length=0:=by
     have:=congrArg List.length e;simpa[gP]using this
    have q:=rL (ord:=ord) (row:=row);rw[h,z]at q;cases q
   obtain⟨m,hm⟩:=List.exists_mem_of_ne_nil _ this;have hc:=iY.mp hm;have hl:=hc.len
   match n,hn with
   |n+1,hn =>
    obtain⟨t,h1,h2⟩:=wd n m (by lia);obtain⟨k,hk⟩:=h1.rt;exact⟨t,vX.mp ⟨_,Rt.trans (n:=1) ⟨row,rfl,hc⟩ hk⟩,h2⟩
   |0,hn=>lia
theorem CB:plR ord row≠[]:=fun e=>by
 obtain⟨t,h⟩:=wd (ord:=ord) _ row (Nat.le_refl _);have:=oy.mpr h;rw[e]at this;cases this
def stK(ord:List (Str×Str)) (acc:List (List Sg)) (k:List Sg):List (List Sg):=acc++(plR ord k).filter fun r=>!decide (r∈acc)
def shA(ord:List (Str×Str)) (acc ks:List (List Sg)):List (List Sg):=ks.foldl (stK ord) acc
theorem qI{ks:List (List Sg)}{i:Nat}{k:List Sg}(h:ks[i]?=some k):shA ord [] (ks.take (i+1))=stK ord (shA ord [] (ks.take i)) k:=by
 unfold shA;rw[List.take_add_one,h,List.foldl_append];rfl
theorem tQ{p:List Sg->Prop}(hp:∀k,p k->∀r∈plR ord k,p r):∀{ks acc:List (List Sg)},(∀r∈acc,p r)->(∀k∈ks,p k)->∀r∈shA ord acc ks,p r
 |[],acc,h,_=>h
 |k::ks,acc,h,h2=>by
  refine tQ (ks:=ks) (acc:=stK ord acc k) hp (fun r hr=>?_) fun k hk=>h2 k (.tail _ hk);rcases List.mem_append.mp hr with z|z
  ·exact h r z
  ·exact hp k (h2 k (.head _)) r (List.mem_filter.mp z).1
theorem sQ:∀{ks acc:List (List Sg)},acc.Nodup->(shA ord acc ks).Nodup
 |[],acc,h=>h
 |k::ks,acc,h=>by
  refine sQ (ks:=ks) (acc:=stK ord acc k) ?_;unfold stK;rw[List.nodup_append];refine⟨h,Dk.filter _,fun a ha b hb=>?_⟩;rintro rfl;have:=(List.mem_filter.mp hb).2;simp[ha]at this
theorem o8:∀{ks acc:List (List Sg)},(∀k∈ks,k.length<=5)->(shA ord acc ks).length<=acc.length+32*ks.length
 |[],acc,_=>by show acc.length<=_;simp
 |k::ks,acc,h=>by
  have ih:=o8 (ks:=ks) (acc:=stK ord acc k) fun k hk=>h k (.tail _ hk);have l1:(stK ord acc k).length<=acc.length+32:=by
   unfold stK;rw[List.length_append];have a:=List.length_filter_le (fun r=>!decide (r∈acc)) (plR ord k);have b:=pG (ord:=ord) (row:=k);have c:2 ^ k.length<=2 ^ 5:=Nat.pow_le_pow_right (by decide) (h k (.head _))
   lia
  rw[List.length_cons];exact Nat.le_trans ih (by lia)
theorem uh:∀{ks acc:List (List Sg)},acc.length<=(shA ord acc ks).length
 |[],acc=>Nat.le_refl _
 |k::ks,acc=>Nat.le_trans (by unfold stK;rw[List.length_append];lia) (uh (ks:=ks) (acc:=stK ord acc k))
theorem zf{ks:List (List Sg)}(h:1<=ks.length):1<=(shA ord [] ks).length:=by
 match ks,h with
 |k::ks,_ =>
  refine Nat.le_trans ?_ (uh (ks:=ks) (acc:=stK ord [] k));unfold stK;rw[List.nil_append,List.filter_eq_self.mpr (fun _ _=>by simp)];exact List.length_pos_iff.mpr CB
theorem qR:∀{ks acc:List (List Sg)},(acc++ks).Nodup->(∀k∈ks,plB ord k=true)->shA ord acc ks=acc++ks
 |[],acc,_,_=>by show acc=_;simp
 |k::ks,acc,hn,h=>by
  have e:stK ord acc k=acc++[k]:=by
   unfold stK;rw[yC (h k (.head _))];have:k∉acc:=fun z=>by
    rw[List.nodup_append]at hn;exact hn.2.2 k z k (.head _) rfl
   simp[this]
  show shA ord (stK ord acc k) ks=_;rw[e,qR (by simpa using hn) fun k hk=>h k (.tail _ hk)];simp
theorem wy:∀{ks acc:List (List Sg)},(∀r∈acc,plB ord r=true)->∀r∈shA ord acc ks,plB ord r=true
 |[],acc,h=>h
 |k::ks,acc,h=>by
  refine wy (ks:=ks) (acc:=stK ord acc k) fun r hr=>?_;rcases List.mem_append.mp hr with z|z
  ·exact h r z
  ·exact(oy.mp (List.mem_filter.mp z).1).2
end
def gD:SpD:=fun ds M R=>∃(ord:List (Str×Str)) (row:List Sg),ds=[.tup (ord.map aw),rwD row]/\ord.length<=500/\row.length<=10/\R (.lst ((plR ord row).map rwD)) M
theorem kF(F:Fun K "plain_rows" "plain_rows" bP f fd) (T:Txt mg) (G6:FnD P w K mg base "rows_by_one_cancel" 6 2 cA) (G4:FnD P w K mg base "cancels_in" 5 2 du):aQ P w K mg base CX0 7 f fd ["order","row"] (spD K 2 gD):=by
 have nd:=fD.nd;refine F.okR rfl fD (fun cdv A outer s H E hr=>⟨_,(am (aR (i:=2) nd rfl (Or.inl rfl) (eD ah))
   (am (aR (i:=3) nd rfl (Or.inl rfl) (nP (af (ae 1) ah)))
   (am (pe PassesOwn.never (aZ Eh (au bv rfl T.b_len (by kernel_rfl) (af (ae 3) ah)) ai nbh) (am (dv (xE (ae 2) (gO (ms:=[true,false,false,false]) (ak:=["one"]) (ay rfl (show aJ (ag bP) bo _ _=true from by decide +kernel)) rfl (aT (ae 3)) (aF (i:=4) (show(bo++_).Nodup from by decide +kernel) rfl rfl) (fun _ _ _ _=>(jR (aZ (mm hr.units) (au bv rfl T.b_len (by kernel_rfl) (af (qd G4 hr (af (ae 0) (af (ae 4) ah))) ah)) ai nbh))) (fun _ _ _ _=>(ae 4)))))
   (ao (aR (i:=3) nd rfl (Or.inl rfl) (Gv rfl hr.units rfl T.b_sorted rfl T.b_set (FG (ms:=[true,false,false,false]) (ak:=["one","shorter"]) (ay rfl (show aJ (ag bP) bo _ _=true from by decide +kernel)) rfl (aT (ae 3)) (aF (i:=4) (show(bo++_).Nodup from by decide +kernel) rfl rfl) (fun _ _ _ _=>bR) (fun _ _ _ _=>(aT (qd G6 hr (af (ae 0) (af (ae 4) ah))))) (aF (i:=5) (show(bo++_).Nodup from by decide +kernel) rfl rfl) (fun _ _ _ _=>bR) (fun _ _ _ _=>(ae 5))))))))
   (ao (ij (au (yJ hr.units) rfl T.b_sorted (by kernel_rfl) (af (ae 2) ah))))))),fun ds M R _ hS bk=>?_⟩)
 obtain⟨ord,row,rfl,ho,hl,k⟩:=hS;refine bk ?_;clear bk;walk_at "rd";refine⟨sz3 0,fun q hq=>⟨sz3 1,?_⟩⟩;refine⟨fun m Δ M'=>∃(kk:Nat) (rs pl:List (List Sg)),Δ=[some (D.tup (ord.map aw)),some (rwD row),some (D.ref q),some (D.lst (rs.map rwD))]/\M'=aG M q (.lst (pl.map rwD))/\rs.Nodup/\(∀t,t∈rs↔Rt (cB ord) kk row t)/\pl.Nodup/\(∀t,t∈pl↔plB ord t=true/\∃j,j<kk/\Rt (cB ord) j row t)/\rs.length<=bdR kk/\pl.length<=1000*kk/\2*kk<=row.length+2/\m=row.length+2-2*kk,
  ⟨_,0,[row],[],rfl,rfl,by simp,fun t=>by simp[Rt,eq_comm],.nil,fun t=>by simp,Nat.le_refl 1,by simp,by lia,rfl⟩,?_⟩
 intro m Δ M' hI;refine shr fun _ bk=>?_;obtain⟨kk,rs,pl,rfl,rfl,hn,hr',hpn,hp,hb,hpl,hk2,rfl⟩:=hI;refine bk ?_;clear bk;walk_at "rd";rw[List.length_map];refine fK (fun h=>?_) (fun h=>?_)
 ·have bD:∀r∈rs,r.length+2*kk=row.length:=fun r hr=>((hr' r).mp hr).len.symm;have h2k:2*kk<=row.length:=by
   obtain⟨r,hr⟩:∃r,r∈rs:=by
    cases rs with
    |nil=>simp at h
    |cons r rs=>exact⟨r,.head _⟩
   have:=bD r hr;lia
  have hbl:=xk kk;intro hz;refine⟨hz,aS rwD (plB ord) rwD (fun Δ=>∃x,Δ=[some (D.tup (ord.map aw)),none,none,none,x]) rs _ _ (fun r hr Δ hΔ=>?_) ⟨none,rfl⟩ ?_⟩
  ·obtain⟨x,rfl⟩:=hΔ;refine⟨_,rfl,⟨_,rfl⟩,fun Q1 q=>?_,fun _ Q2 q=>?_⟩
   ·have:=bD r hr;walk_at "rd";refine⟨ord,r,rfl,ho,by lia,?_⟩;walk_at "rd";rw[List.length_map];have e:(((cns ord r).length:Int)==0)=plB ord r:=by
     rw[<-rL,Bool.eq_iff_iff,beq_iff_eq,beq_iff_eq];lia
    rw[e];exact q
   ·walk_at "rd";exact q
  ·rw[List.nil_append];have hfl:=List.length_filter_le (plB ord) rs;refine⟨pl.map rwD,aD,by rw[List.length_map,List.length_map];exact szB _ (by lia),fun _=>?_⟩;rw[jd,<-List.map_append];have hol:(rs.flatMap (gP ord)).length<=bdR (kk+1):=by
    refine Nat.le_trans (pR (n:=9-2*kk) fun r hr=>Nat.le_trans yh (by have:=bD r hr;lia)) ?_;exact Nat.mul_le_mul_right _ hb
   have hbl2:=xk (kk+1);have eo:(rs.flatMap fun r=>(gP ord r).map rwD)=(rs.flatMap (gP ord)).map rwD:=by rw[List.map_flatMap]
   refine jH rwD (fun r=>(gP ord r).map rwD) (fun Δ=>∃a b,Δ=[some (D.tup (ord.map aw)),none,none,none,a,b]) _ _ _ _ ?_ ⟨_,_,rfl⟩ (by rw[eo,List.length_map,List.length_nil,Nat.zero_add];exact szB _ (by lia)) ?_
   ·rintro r hr Δ ⟨a,b,rfl⟩;have hlr:=bD r hr;refine⟨_,rfl,fun acc Q2 hz2 k2=>?_⟩;simp only[sS];walk_at "rd";refine⟨ord,r,rfl,ho,by lia,?_⟩;walk_at "rd";intro hz3;refine jH rwD (fun t=>[rwD t]) (fun Δ=>∃b,Δ=[some (D.tup (ord.map aw)),none,none,none,some (rwD r),b]) _ _ _ _ ?_ ⟨_,rfl⟩ (by rw[lL];exact hz2) (by rintro Δ' ⟨b,rfl⟩;rw[lL];exact k2 _ ⟨_,_,rfl⟩);rintro t ht Δ ⟨b,rfl⟩;refine⟨_,rfl,fun acc4 Q4 hz5 k4=>?_⟩;simp only[sH];walk_at "rd";exact k4 _ ⟨_,rfl⟩
   ·rintro Δ' -
    rw[List.nil_append,eo];obtain⟨rs',e1,n1,n2,n3⟩:=u6 (rs.flatMap (gP ord));refine⟨(rs.flatMap (gP ord)).map kR,gL.symm,sT,fun k hk=>?_,by rw[List.length_map];lia,row.length+2-2*(kk+1),by lia,kk+1,rs',by rw[e1,gL],pl++rs.filter (plB ord),rfl,n1,fun t=>?_,?_,fun t=>?_,by lia,by rw[List.length_append];lia,by lia,rfl⟩
    ·obtain⟨r,_,rfl⟩:=List.mem_map.mp hk;exact tE
    ·rw[n2 t,List.mem_flatMap];constructor
     ·rintro⟨r,hr,ht⟩;exact⟨r,(hr' r).mp hr,iY.mp ht⟩
     ·rintro⟨r,hr,ht⟩;exact⟨r,(hr' r).mpr hr,iY.mpr ht⟩
    ·rw[List.nodup_append];refine⟨hpn,hn.filter _,fun a ha b hb=>?_⟩;rintro rfl;obtain⟨_,j,j1,j2⟩:=(hp a).mp ha;have l1:=j2.len;have l2:=bD a (List.mem_filter.mp hb).1
     lia
    ·rw[List.mem_append,hp t,List.mem_filter,hr' t];constructor
     ·rintro(⟨z,j,j1,j2⟩|⟨z1,z2⟩)
      ·exact⟨z,j,by lia,j2⟩
      ·exact⟨z2,kk,by lia,z1⟩
     ·rintro⟨z,j,j1,j2⟩
      by_cases e:j=kk
      ·subst e;exact .inr ⟨j2,z⟩
      ·exact .inl ⟨z,j,by lia,j2⟩
 ·have hr0:rs=[]:=by
   cases rs with
   |nil=>rfl
   |cons r rs=>exact absurd (by simp) h
  subst hr0;have hall:∀t,t∈pl↔Kp (cB ord) row t/\plB ord t=true:=fun t=>by
   rw[hp t,<-vX,and_comm];constructor
   ·rintro⟨⟨j,_,j2⟩,z⟩;exact⟨⟨j,j2⟩,z⟩
   ·rintro⟨⟨j,j2⟩,z⟩;refine⟨⟨j,?_,j2⟩,z⟩;rcases Nat.lt_or_ge j kk with c|c
    ·exact c
    ·obtain⟨b,rfl⟩:∃b,j=kk+b:=⟨j-kk,by lia⟩;obtain⟨m,hm⟩:=j2.pre;exact absurd ((hr' m).mpr hm) (by simp)
  refine⟨_,by rw[<-gL];exact ye sT,M,i9 hq,?_⟩;rw[rZ hpn hall,gL];exact k
theorem oR{α:Type}(l:List α):vM (.lst (l.map fun _=>D.bl true))=some (.bl true):=by
 rw[sI (f:=fun _=>true)];simp
theorem Ac:abc.cps.toList=fJ:=by rw[sO,gH]
theorem jj{α:Type}{enc:α->D}{M:DH}{Q:List D->DH->Prop}{xs:List α}{te:TEd}{Δ0:DE}{n:Nat}(f:α->D) (hn:n=Δ0.length) (hte:∀x∈xs,∀y,∀Q2:D->DH->Prop,Q2 (f x) M->te ((Δ0++[y]).set Δ0.length (some (enc x))) M Q2)
  (h:Q (xs.map f) M):dA (cy n) qi te (xs.map enc) (Δ0++[none]) M [] Q:=by
 subst hn;refine aS enc (fun _=>true) f (fun Δ=>∃x,Δ=Δ0++[x]) xs _ _ (fun x hx Δ hΔ=>?_) ⟨none,rfl⟩ ?_
 ·obtain⟨y,rfl⟩:=hΔ;exact⟨_,rfl,⟨some (enc x),by simp⟩,fun Q1 q=>q,fun _ Q2 q=>hte x hx y Q2 q⟩
 ·rw[List.nil_append,List.filter_eq_self.mpr (fun _ _=>rfl)];exact h
def bF:SpD:=fun ds M R=>∃xs n,ds=[.tup xs,.int n]/\(xs.length:Int)=n/\R (.bl true) M
theorem jJ(F:Fun K "is_tuple_of" "is_tuple_of" cZ f fd) (T:Txt mg) :aQ P w K mg base CX0 1 f fd ["thing","many"] (spD K 2 bF):=by
 have nd:=eR.nd;refine F.okR rfl eR (fun cdv A outer s H E hr=>⟨_,(ao (a7 (bG (ke (Tn:="tuple") (by decide) rfl T.b_isinstance rfl T.b_tuple (by kernel_rfl) (ae 0)) (ef (iG (mm hr.units) (au bv rfl T.b_len (by kernel_rfl) (af (ae 0) ah)) (ae 1) nbh))))),fun ds M R _ hS bk=>?_⟩);obtain⟨xs,n,rfl,hd,k⟩:=hS;refine bk ?_;clear bk;walk_at "rd";refine⟨true,rfl,?_⟩;rw[if_pos rfl,hd,beq_self_eq_true];exact k
def ju:SpD:=fun ds M R=>∃i,ds=[.int i]/\R (.bl true) M
theorem mV(F:Fun K "is_whole" "is_whole" fj f fd) (T:Txt mg) :aQ P w K mg base CX0 1 f fd ["thing"] (spD K 1 ju):=by
 have nd:=g7.nd;refine F.okR rfl g7 (fun cdv A outer s H E hr=>⟨_,(ao (a7 (bG (ke (Tn:="int") (by decide) rfl T.b_isinstance rfl T.b_int (by kernel_rfl) (ae 0)) (ef (EJ (ke (Tn:="bool") (by decide) rfl T.b_isinstance rfl T.b_bool (by kernel_rfl) (ae 0))))))),fun ds M R _ hS bk=>?_⟩);obtain⟨i,rfl,k⟩:=hS;refine bk ?_;clear bk;walk_at "rd";exact⟨true,rfl,by simp only[if_true];exact⟨false,rfl,k⟩⟩
def bM:SpD:=fun ds M R=>∃x,ds=[.str x]/\bj x=true/\R (.bl true) M
theorem hV(F:Fun K "is_short_word" "is_short_word" bL f fd) (T:Txt mg) :aQ P w K mg base CX0 1 f fd ["thing"] (spD K 1 bM):=by
 have nd:=dH.nd;refine F.okR rfl dH (fun cdv A outer s H E hr=>⟨_,(ao (a7 (bG (ke (Tn:="str") (by decide) rfl T.b_isinstance rfl T.b_str (by kernel_rfl) (ae 0)) (bG (kP mR mR ai (au bv rfl T.b_len (by kernel_rfl) (af (ae 0) ah)) (dE rfl T.g_MOST_LETTERS)) (ef (au (m6 rfl) rfl T.b_all (by kernel_rfl) (af (gO (ms:=[false]) (ak:=["letter"]) (ay (n0:=0) rfl (show aJ (ag bL) cD _ _=true from by decide +kernel)) rfl (aT (ae 0)) (aF (i:=1) (show(cD++_).Nodup from by decide +kernel) rfl rfl) (fun _ _ _ _=>bR) (fun _ _ _ _=>(iG wU (ae 1) (yd rfl T.g_SMALL_LETTERS) rfl))) ah))))))),fun ds M R _ hS bk=>?_⟩);obtain⟨x,rfl,hx,k⟩:=hS;refine bk ?_;clear bk;unfold bj at hx;simp only[Bool.and_eq_true,decide_eq_true_eq,List.all_eq_true]at hx;obtain⟨⟨h1,h8⟩,hc⟩:=hx;walk_at "rd";refine⟨true,rfl,?_⟩;walk_at "rd";refine⟨_,if_pos (szB _ (by lia)),?_⟩;walk_at "rd";rw[if_pos (by lia),if_pos (by lia)];refine⟨_,if_pos (szB _ (by lia)),fun hz=>⟨hz,?_⟩⟩;unfold L2.fC;refine jj (enc:=fun c:Nat=>D.str (tx [c])) (Δ0:=[none]) (fun _=>.bl true) rfl (fun c hc' y Q2 q=>?_) ⟨_,oR _,k⟩;walk_at "rd";simp only[AK,Option.some.injEq,exists_eq_left',Bool.false_xor];rw[show(Str.ofString "abcdefghijklmnopqrstuvwxyz").cps.toList=fJ from Ac];have:=hc c hc';simpa[gH,this]using q
def ei:SpD:=bM
theorem oQ(F:Fun K "is_mark" "is_mark" fX f fd) (T:Txt mg) (G2:FnD P w K mg base "is_short_word" 1 1 bM):aQ P w K mg base CX0 2 f fd ["thing"] (spD K 1 ei):=by
 have nd:=jw.nd;refine F.okR rfl jw (fun cdv A outer s H E hr=>⟨_,(ao (a7 (qd G2 hr (af (ae 0) ah)))),fun ds M R _ hS bk=>?_⟩);obtain⟨x,rfl,hx,k⟩:=hS;refine bk ?_;clear bk;walk_at "rd";exact⟨x,rfl,hx,k⟩
def j3:SpD:=fun ds M R=>∃i:Int,ds=[.int i]/\-99<=i/\i<=99/\R (.bl true) M
theorem pF(F:Fun K "is_turn" "is_turn" fV f fd) (T:Txt mg) (ga1:FnD P w K mg base "is_whole" 1 1 ju):aQ P w K mg base CX0 2 f fd ["thing"] (spD K 1 j3):=by
 have nd:=jy.nd;refine F.okR rfl jy (fun cdv A outer s H E hr=>⟨_,(ao (a7 (bG (qd ga1 hr (af (ae 0) ah)) (ef (kP mR mR (FB EL (dE rfl T.g_MOST_TURN)) (ae 0) (dE rfl T.g_MOST_TURN)))))),fun ds M R _ hS bk=>?_⟩);obtain⟨i,rfl,h1,h2,k⟩:=hS;refine bk ?_;clear bk;walk_at "rd";refine⟨i,rfl,?_⟩;walk_at "rd";rw[if_pos (by lia),decide_eq_true (by lia)];exact k
def j4:SpD:=fun ds M R=>∃s,ds=[aK s]/\Aa s/\R (.bl true) M
theorem oE(F:Fun K "is_sign" "is_sign" gj f fd) (T:Txt mg) (G0:FnD P w K mg base "is_tuple_of" 1 2 bF) (G1:FnD P w K mg base "is_mark" 2 1 ei) (ga6:FnD P w K mg base "is_turn" 2 1 j3):aQ P w K mg base CX0 3 f fd ["thing"] (spD K 1 j4):=by
 have nd:=ja.nd;refine F.okR rfl ja (fun cdv A outer s H E hr=>⟨_,(ao (a7 (bG (qd G0 hr (af (ae 0) (af ai ah))) (bG (qd G1 hr (af (aO aN (ae 0) ai (fun _ _=>rfl)) ah)) (ef (qd ga6 hr (af (aO aN (ae 0) ai (fun _ _=>rfl)) ah))))))),fun ds M R _ hS bk=>?_⟩);obtain⟨s,rfl,⟨h1,h2,h3⟩,k⟩:=hS;refine bk ?_;clear bk;simp only[aK];walk_at "rd";refine⟨_,_,rfl,rfl,?_⟩;walk_at "rd";refine⟨_,rfl,h1,?_⟩;walk_at "rd";exact⟨_,rfl,by lia,by lia,k⟩
def zZ(r:List Sg):Prop:=r.length<=5/\∀s∈r,Aa s
def iA:SpD:=fun ds M R=>∃r,ds=[rwD r]/\zZ r/\R (.bl true) M
theorem pK(F:Fun K "is_row" "is_row" fo f fd) (T:Txt mg) (ga5:FnD P w K mg base "is_sign" 3 1 j4):aQ P w K mg base CX0 4 f fd ["thing"] (spD K 1 iA):=by
 have nd:=jY.nd;refine F.okR rfl jY (fun cdv A outer s H E hr=>⟨_,(ao (a7 (bG (ke (Tn:="tuple") (by decide) rfl T.b_isinstance rfl T.b_tuple (by kernel_rfl) (ae 0)) (ef (au (m6 rfl) rfl T.b_all (by kernel_rfl) (af (gO (ms:=[false]) (ak:=["sign"]) (ay (n0:=0) rfl (show aJ (ag fo) ir _ _=true from by decide +kernel)) rfl (aT (ae 0)) (aF (i:=1) (show(ir++_).Nodup from by decide +kernel) rfl rfl) (fun _ _ _ _=>bR) (fun _ _ _ _=>(qd ga5 hr (af (ae 1) ah)))) ah)))))),fun ds M R _ hS bk=>?_⟩);obtain⟨r,rfl,hs,k⟩:=hS;refine bk ?_;clear bk;simp only[rwD];walk_at "rd";refine⟨true,rfl,?_⟩;walk_at "rd";refine fun hz=>⟨hz,jj (enc:=aK) (Δ0:=[none]) (fun _=>.bl true) rfl (fun s hs' y Q2 q=>?_) ⟨_,oR _,k⟩⟩;walk_at "rd";exact⟨s,rfl,hs.2 s hs',q⟩
def j7:SpD:=iA
theorem oN(F:Fun K "is_kind" "is_kind" fP f fd) (T:Txt mg) (ga8:FnD P w K mg base "is_row" 4 1 iA):aQ P w K mg base CX0 5 f fd ["thing"] (spD K 1 j7):=by
 have nd:=jf.nd;refine F.okR rfl jf (fun cdv A outer s H E hr=>⟨_,(ao (a7 (bG (qd ga8 hr (af (ae 0) ah)) (ef (iG mR (au bv rfl T.b_len (by kernel_rfl) (af (ae 0) ah)) (dE rfl T.g_MOST_SIGNS) nbh))))),fun ds M R _ hS bk=>?_⟩);obtain⟨r,rfl,hr,k⟩:=hS;refine bk ?_;clear bk;walk_at "rd";refine⟨r,rfl,hr,?_⟩;simp only[rwD];walk_at "rd";rw[List.length_map,decide_eq_true (by have:=hr.1;lia)];exact k
def ka:SpD:=fun ds M R=>∃p:Str×Str,ds=[aw p]/\(bj p.1=true/\bj p.2=true)/\R (.bl true) M
theorem oX(F:Fun K "is_pair" "is_pair" fL f fd) (T:Txt mg) (G0:FnD P w K mg base "is_tuple_of" 1 2 bF) (G1:FnD P w K mg base "is_mark" 2 1 ei):aQ P w K mg base CX0 3 f fd ["thing"] (spD K 1 ka):=by
 have nd:=iW.nd;refine F.okR rfl iW (fun cdv A outer s H E hr=>⟨_,(ao (a7 (bG (qd G0 hr (af (ae 0) (af ai ah))) (bG (qd G1 hr (af (aO aN (ae 0) ai (fun _ _=>rfl)) ah)) (ef (qd G1 hr (af (aO aN (ae 0) ai (fun _ _=>rfl)) ah))))))),fun ds M R _ hS bk=>?_⟩);obtain⟨p,rfl,⟨h1,h2⟩,k⟩:=hS;refine bk ?_;clear bk;simp only[aw];walk_at "rd";refine⟨_,_,rfl,rfl,?_⟩;walk_at "rd";refine⟨_,rfl,h1,?_⟩;walk_at "rd";exact⟨_,rfl,h2,k⟩
def Bk(ord:List (Str×Str)):Prop:=ord.length<=4/\∀p∈ord,bj p.1=true/\bj p.2=true
def jx:SpD:=fun ds M R=>∃ord:List (Str×Str),ds=[.tup (ord.map aw)]/\Bk ord/\R (.bl true) M
theorem mW(F:Fun K "is_order" "is_order" dh f fd) (T:Txt mg) (ga3:FnD P w K mg base "is_pair" 3 1 ka):aQ P w K mg base CX0 4 f fd ["thing"] (spD K 1 jx):=by
 have nd:=gX.nd;refine F.okR rfl gX (fun cdv A outer s H E hr=>⟨_,(ao (a7 (bG (ke (Tn:="tuple") (by decide) rfl T.b_isinstance rfl T.b_tuple (by kernel_rfl) (ae 0)) (bG (iG mR (au bv rfl T.b_len (by kernel_rfl) (af (ae 0) ah)) (dE rfl T.g_MOST_PAIRS) nbh) (ef (au (m6 rfl) rfl T.b_all (by kernel_rfl) (af (gO (ms:=[false]) (ak:=["pair"]) (ay (n0:=0) rfl (show aJ (ag dh) fq _ _=true from by decide +kernel)) rfl (aT (ae 0)) (aF (i:=1) (show(fq++_).Nodup from by decide +kernel) rfl rfl) (fun _ _ _ _=>bR) (fun _ _ _ _=>(qd ga3 hr (af (ae 1) ah)))) ah))))))),fun ds M R _ hS bk=>?_⟩);obtain⟨ord,rfl,ho,k⟩:=hS;have hl:=ho.1;refine bk ?_;clear bk;walk_at "rd";refine⟨true,rfl,?_⟩;walk_at "rd";rw[List.length_map,if_pos (by lia)];refine fun hz=>⟨hz,jj (enc:=aw) (Δ0:=[none]) (fun _=>.bl true) rfl (fun p hp y Q2 q=>?_) ⟨_,oR _,k⟩⟩;walk_at "rd";exact⟨p,rfl,ho.2 p hp,q⟩
theorem uZ{τ:Type}:∀{xs:List τ},xs.Nodup->cI xs=xs:=by
 intro xs hn;have key:∀(xs zs:List τ),(zs++xs).Nodup->xs.foldl bp zs=zs++xs:=by
  intro xs
  induction xs with
  |nil=>intro zs _;simp
  |cons x xs ih =>
   intro zs h;have hx:x∉zs:=fun z=>by
    rw[List.nodup_append]at h;exact h.2.2 x z x (.head _) rfl
   rw[List.foldl_cons,show bp zs x=zs++[x]from if_neg hx,ih _ (by simpa using h)];simp
 have:=key xs [] (by simpa using hn);simpa[cI]using this
theorem uS:∀{xs:List Str},xs.Nodup->fH xs=xs:=by
 intro xs hn;have key:∀(xs zs:List Str),(zs++xs).Nodup->xs.foldl j8 zs=zs++xs:=by
  intro xs
  induction xs with
  |nil=>intro zs _;simp
  |cons x xs ih =>
   intro zs h;have hx:x∉zs:=fun z=>by
    rw[List.nodup_append]at h;exact h.2.2 x z x (.head _) rfl
   rw[List.foldl_cons,show j8 zs x=zs++[x]from if_neg hx,ih _ (by simpa using h)];simp
 have:=key xs [] (by simpa using hn);simpa[fH]using this
def dI(ks:List (List Sg)):D:=.tup (ks.map rwD)
def dw(e:Str×List (List Sg)):D:=.tup [.str e.1,dI e.2]
def fG(ord:List (Str×Str)) (aI:Str) (es:List (Str×List (List Sg))):D:=.tup [.tup (ord.map aw),.str aI,.tup (es.map dw)]
def zA(ks:List (List Sg)):Prop:=1<=ks.length/\ks.Nodup/\∀r∈ks,zZ r
def EX(es:List (Str×List (List Sg))):Prop:=1<=es.length/\es.length<=4/\(es.map (·.1)).Nodup/\∀e∈es,bj e.1=true/\zA e.2
def few(es:List (Str×List (List Sg))):Bool:=es.all fun e=>decide (e.2.length<=4)
def dJ:SpD:=fun ds M R=>(∃ks:List (List Sg),ds=[dI ks]/\ks.Nodup/\ks.length<=4/\R (.bl true) M)∨∃ws:List Str,ds=[.lst (ws.map .str)]/\ws.Nodup/\ws.length<=10/\R (.bl true) M
theorem kH(F:Fun K "are_unlike" "are_unlike" dD f fd) (T:Txt mg) :aQ P w K mg base CX0 1 f fd ["things"] (spD K 1 dJ):=by
 have nd:=fu.nd;refine F.okR rfl fu (fun cdv A outer s H E hr=>⟨_,(ao (a7 (iG (mm hr.units) (F3 rfl hr.units rfl T.b_len rfl T.b_set (ae 0)) (au bv rfl T.b_len (by kernel_rfl) (af (ae 0) ah)) nbh))),fun ds M R _ hS bk=>?_⟩);refine bk ?_;clear bk;rcases hS with⟨ks,rfl,hn,hl,k⟩|⟨ws,rfl,hn,hl,k⟩
 ·simp only[dI];walk_at "rd";refine .inl ⟨ks.map kR,gL.symm,fun k hk=>?_,by rw[List.length_map];lia,?_⟩
  ·obtain⟨r,_,rfl⟩:=List.mem_map.mp hk;exact tE
  ·rw[uZ (qp hn)];rw[List.length_map,List.length_map,beq_self_eq_true];exact k
 ·walk_at "rd";refine .inr ⟨ws,rfl,by lia,?_⟩;rw[uS hn];rw[List.length_map,beq_self_eq_true];exact k
def gY:SpD:=fun ds M R=>∃ks:List (List Sg),ds=[dI ks]/\zA ks/\R (.bl (decide (ks.length<=4))) M
theorem lI(F:Fun K "are_kinds" "are_kinds" cR f fd) (T:Txt mg) (G5:FnD P w K mg base "are_unlike" 1 1 dJ) (ga4:FnD P w K mg base "is_kind" 5 1 j7):aQ P w K mg base CX0 6 f fd ["thing"] (spD K 1 gY):=by
 have nd:=fM.nd;refine F.okR rfl fM (fun cdv A outer s H E hr=>⟨_,(ao (a7 (bG (ke (Tn:="tuple") (by decide) rfl T.b_isinstance rfl T.b_tuple (by kernel_rfl) (ae 0)) (bG (kP mR mR ai (au bv rfl T.b_len (by kernel_rfl) (af (ae 0) ah)) (dE rfl T.g_MOST_KINDS)) (bG (au (m6 rfl) rfl T.b_all (by kernel_rfl) (af (gO (ms:=[false]) (ak:=["kind"]) (ay (n0:=0) rfl (show aJ (ag cR) eA _ _=true from by decide +kernel)) rfl (aT (ae 0)) (aF (i:=1) (show(eA++_).Nodup from by decide +kernel) rfl rfl) (fun _ _ _ _=>bR) (fun _ _ _ _=>(qd ga4 hr (af (ae 1) ah)))) ah)) (ef (qd G5 hr (af (ae 0) ah)))))))),fun ds M R _ hS bk=>?_⟩);obtain⟨ks,rfl,hk,k⟩:=hS;have h1:=hk.1;refine bk ?_;clear bk;simp only[dI];walk_at "rd";refine⟨true,rfl,?_⟩;rw[if_pos rfl,List.length_map,if_pos (by lia)];refine fK (fun h4=>?_) (fun h4=>?_)
 ·rw[decide_eq_true (by lia)]at k;refine fun hz=>⟨hz,jj (enc:=rwD) (Δ0:=[none]) (fun _=>.bl true) rfl (fun r hr y Q2 q=>?_) ⟨_,oR _,_,rfl,?_⟩⟩
  ·walk_at "rd";exact⟨r,rfl,hk.2.2 r hr,q⟩
  ·rw[if_pos rfl];exact .inl ⟨ks,rfl,hk.2.1,by lia,k⟩
 ·rw[decide_eq_false (by lia)]at k;exact k
def jg:SpD:=fun ds M R=>∃e:Str×List (List Sg),ds=[dw e]/\(bj e.1=true/\zA e.2)/\R (.bl (decide (e.2.length<=4))) M
theorem mN(F:Fun K "is_entry" "is_entry" fk f fd) (T:Txt mg) (G0:FnD P w K mg base "is_tuple_of" 1 2 bF) (G2:FnD P w K mg base "is_short_word" 1 1 bM) (Y7:FnD P w K mg base "are_kinds" 6 1 gY):aQ P w K mg base CX0 7 f fd ["thing"] (spD K 1 jg):=by
 have nd:=gU.nd;refine F.okR rfl gU (fun cdv A outer s H E hr=>⟨_,(ao (a7 (bG (qd G0 hr (af (ae 0) (af ai ah))) (bG (qd G2 hr (af (aO aN (ae 0) ai (fun _ _=>rfl)) ah)) (ef (qd Y7 hr (af (aO aN (ae 0) ai (fun _ _=>rfl)) ah))))))),fun ds M R _ hS bk=>?_⟩);obtain⟨e,rfl,⟨hw,hk⟩,k⟩:=hS;refine bk ?_;clear bk;simp only[dw];walk_at "rd";refine⟨_,_,rfl,rfl,?_⟩;walk_at "rd";refine⟨_,rfl,hw,?_⟩;walk_at "rd";exact⟨_,rfl,hk,k⟩
def fE:SpD:=fun ds M R=>∃es:List (Str×List (List Sg)),ds=[.tup (es.map dw)]/\EX es/\R (.bl (few es)) M
theorem jQ(F:Fun K "are_entries" "are_entries" bE f fd) (T:Txt mg) (G5:FnD P w K mg base "are_unlike" 1 1 dJ) (Y9:FnD P w K mg base "is_entry" 7 1 jg):aQ P w K mg base CX0 8 f fd ["thing"] (spD K 1 fE):=by
 have nd:=eV.nd;refine F.okR rfl eV (fun cdv A outer s H E hr=>⟨_,(ao (a7 (bG (ke (Tn:="tuple") (by decide) rfl T.b_isinstance rfl T.b_tuple (by kernel_rfl) (ae 0)) (bG (kP mR mR ai (au bv rfl T.b_len (by kernel_rfl) (af (ae 0) ah)) (dE rfl T.g_MOST_ENTRIES)) (bG (au (m6 rfl) rfl T.b_all (by kernel_rfl) (af (gO (ms:=[false]) (ak:=["entry"]) (ay (n0:=0) rfl (show aJ (ag bE) bg _ _=true from by decide +kernel)) rfl (aT (ae 0)) (aF (i:=1) (show(bg++_).Nodup from by decide +kernel) rfl rfl) (fun _ _ _ _=>bR) (fun _ _ _ _=>(qd Y9 hr (af (ae 1) ah)))) ah)) (ef (qd G5 hr (af (gO (ms:=[false]) (ak:=["word","kinds"]) (ay (n0:=0) rfl (show aJ (ag bE) bg _ _=true from by decide +kernel)) rfl (aT (ae 0)) (yc (n:=2) rfl (kM (aF (i:=1) (show(bg++_).Nodup from by decide +kernel) rfl rfl) (kM (aF (i:=2) (show(bg++_).Nodup from by decide +kernel) rfl rfl) yi))) (fun _ _ _ _=>bR) (fun _ _ _ _=>(ae 1))) ah)))))))),fun ds M R _ hS bk=>?_⟩);obtain⟨es,rfl,he,k⟩:=hS;have h1:=he.1;have h4:=he.2.1;refine bk ?_;clear bk;walk_at "rd";refine⟨true,rfl,?_⟩;rw[if_pos rfl,List.length_map,if_pos (by lia),if_pos (by lia)];refine fun hz=>⟨hz,jj (enc:=dw) (Δ0:=[none]) (fun e=>.bl (decide (e.2.length<=4))) rfl (fun e hm y Q2 q=>?_) ⟨_,sI,_,rfl,?_⟩⟩
 ·walk_at "rd";exact⟨e,rfl,he.2.2.2 e hm,q⟩
 ·refine fK (fun hf=>?_) (fun hf=>?_)
  ·refine fun hz2=>⟨hz2,aS dw (fun _=>true) (fun e=>D.str e.1) (fun Δ=>∃x y,Δ=[none,x,y]) es _ _ (fun e hm Δ hΔ=>?_) ⟨none,none,rfl⟩ ?_⟩
   ·obtain⟨x,y,rfl⟩:=hΔ;refine⟨_,rfl,⟨_,_,rfl⟩,fun Q1 q=>q,fun _ Q2 q=>?_⟩;walk_at "rd";exact q
   ·rw[List.nil_append,List.filter_eq_self.mpr (fun _ _=>rfl)];rw[show few es=true from hf]at k;exact .inr ⟨es.map (·.1),by rw[List.map_map];rfl,he.2.2.1,by rw[List.length_map];lia,k⟩
  ·rw[show few es=false by simpa[few]using hf]at k;exact k
structure rX(ord:List (Str×Str)) (aI:Str) (es:List (Str×List (List Sg))):Prop where
 o:Bk ord
 g:bj aI=true
 e:EX es
def gh:SpD:=fun ds M R=>∃ord aI es,ds=[fG ord aI es]/\rX ord aI es/\R (.bl (few es)) M
theorem ko(F:Fun K "is_lexicon" "is_lexicon" dG f fd) (T:Txt mg) (G0:FnD P w K mg base "is_tuple_of" 1 2 bF) (ga0:FnD P w K mg base "is_order" 4 1 jx) (G1:FnD P w K mg base "is_mark" 2 1 ei) (Y0:FnD P w K mg base "are_entries" 8 1 fE):aQ P w K mg base CX0 9 f fd ["thing"] (spD K 1 gh):=by
 have nd:=fF.nd;refine F.okR rfl fF (fun cdv A outer s H E hr=>⟨_,(ao (a7 (bG (qd G0 hr (af (ae 0) (af ai ah))) (bG (qd ga0 hr (af (aO aN (ae 0) ai (fun _ _=>rfl)) ah)) (bG (qd G1 hr (af (aO aN (ae 0) ai (fun _ _=>rfl)) ah)) (ef (qd Y0 hr (af (aO aN (ae 0) ai (fun _ _=>rfl)) ah)))))))),fun ds M R _ hS bk=>?_⟩);obtain⟨ord,aI,es,rfl,h,k⟩:=hS;refine bk ?_;clear bk;simp only[fG];walk_at "rd";refine⟨_,_,rfl,rfl,?_⟩;walk_at "rd";refine⟨_,rfl,h.o,?_⟩;walk_at "rd";refine⟨_,rfl,h.g,?_⟩;walk_at "rd";exact⟨_,rfl,h.e,k⟩
theorem k9{r:List Sg}{acc:List (List Sg)}:kZ (rwD r) (.lst (acc.map rwD))=some (.bl (!decide (r∈acc))):=by
 rw[xo,if_pos ⟨tV r,yl rwD tV⟩,List.any_map];congr 3;rw[Bool.eq_iff_iff,List.any_eq_true,decide_eq_true_eq];constructor
 ·rintro⟨a,ha,e⟩;obtain rfl:a=r:=by simpa[rO]using e
  exact ha
 ·intro h;exact⟨r,h,by simp[rO]⟩
def fB:SpD:=fun ds M R=>∃ord ks,ds=[.tup (ord.map aw),dI ks]/\ord.length<=4/\ks.length<=4/\(∀r∈ks,r.length<=5)/\R (dI (shA ord [] ks)) M
theorem jF(F:Fun K "short_kinds" "short_kinds" cc f fd) (T:Txt mg) (Y4:FnD P w K mg base "plain_rows" 7 2 gD):aQ P w K mg base CX0 8 f fd ["order","kinds"] (spD K 2 fB):=by
 have nd:=eJ.nd;refine F.okR rfl eJ (fun cdv A outer s H E hr=>⟨_,(am (aR (i:=2) nd rfl (Or.inr rfl) (eD ah))
   (am (dO PassesOwn.never rfl (aT (ae 1)) (bH (i:=3) nd rfl (Or.inl rfl)) (ao (dv (xE (ae 2) (gO (ms:=[false,false,true,false]) (ak:=["row"]) (ay rfl (show aJ (ag cc) cY _ _=true from by decide +kernel)) rfl (aT (qd Y4 hr (af (ae 0) (af (ae 3) ah)))) (aF (i:=4) (show(cY++_).Nodup from by decide +kernel) rfl rfl) (fun _ _ _ _=>(jR (aZ (lJ hr.units) (ae 4) (ae 2) rfl))) (fun _ _ _ _=>(ae 4)))))))
   (ao (ij (bX df rfl T.b_tuple (by kernel_rfl) (af (ae 2) ah)))))),fun ds M R _ hS bk=>?_⟩)
 obtain⟨ord,ks,rfl,ho,hk,hr,k⟩:=hS;refine bk ?_;clear bk;simp only[dI];walk_at "rd";refine⟨sz3 0,fun p hp hz=>?_⟩;refine aY (fun i Δ M'=>∃x3,Δ=[some (D.tup (ord.map aw)),some (D.tup (ks.map rwD)),some (D.ref p),x3]/\LeM M M'/\M' p=some (.lst ((shA ord [] (ks.take i)).map rwD))) ⟨none,rfl,i9 hp,aD⟩ ?_ ?_
 ·rintro i d Δ M' X hd ⟨x3,rfl,hle,hM⟩ k';obtain⟨kd,hkd,rfl⟩:=dZ hd;have hkm:=List.mem_of_getElem? hkd;have hi:i<ks.length:=(List.getElem?_eq_some_iff.mp hkd).1;refine⟨_,rfl,?_⟩;walk_at "rd";have hl:kd.length<=5:=hr kd hkm;have hz5:(plR ord kd).length<=32:=Nat.le_trans pG (Nat.pow_le_pow_right (by decide) hl:2 ^ kd.length<=2 ^ 5);refine⟨_,hM,ord,kd,rfl,by lia,by lia,_,rfl,fun hz2=>⟨hz2,?_⟩⟩;refine aS rwD (fun r=>!decide (r∈shA ord [] (ks.take i))) rwD (fun Δ=>∃x,Δ=[none,none,some (D.ref p),none,x]) (plR ord kd) _ _ (fun r hr' Δ hΔ=>?_) ⟨none,rfl⟩ ?_
  ·obtain⟨x,rfl⟩:=hΔ;refine⟨_,rfl,⟨_,rfl⟩,fun Q1 q=>?_,fun _ Q2 q=>?_⟩
   ·walk_at "rd";have e1:rdM M' (D.ref p)=.lst ((shA ord [] (ks.take i)).map rwD):=by simp only[rdM,hM]
    rw[e1,show rdM M' (rwD r)=rwD r from rfl];exact⟨_,k9,_,rfl,q⟩
   ·walk_at "rd";exact q
  ·rw[List.nil_append];refine⟨_,hM,?_,k' _ _ ⟨_,rfl,?_,?_⟩⟩
   ·rw[List.length_map,List.length_map];have a:=o8 (ord:=ord) (ks:=ks.take i) (acc:=[]) fun k hk=>hr k (List.mem_of_mem_take hk);have b:=List.length_filter_le (fun r=>!decide (r∈shA ord [] (ks.take i))) (plR ord kd);rw[List.length_take]at a;exact szB _ (by simp at a;lia)
   ·intro a o e;have hap:a≠p:=fun z=>by rw[z,hp]at e;cases e
    rw[cu hap];exact hle a o e
   ·rw[aD,qI hkd,stK,List.map_append]
 ·rintro Δ M' ⟨x3,rfl,hle,hM⟩;rw[List.length_map,List.take_length]at hM;walk_at "rd";refine⟨.tup ((shA ord [] ks).map rwD),?_,M,hle,k⟩;have e:rdM M' (D.ref p)=.lst ((shA ord [] ks).map rwD):=by simp only[rdM,hM]
  rw[e];rfl
theorem Rt.sub{T:Type}{c:T->T->Bool}:∀{n:Nat}{r s:List T},Rt c n r s->∀x∈s,x∈r
 |0,_,_,h,x,hx=>by cases(show _=_ from h);exact hx
 |n+1,_,_,⟨m,h,xs,a,b,ys,e1,_,e2⟩,x,hx=>by
  refine Rt.sub h x ?_;rw[e1];rw[e2]at hx;rcases List.mem_append.mp hx with z|z
  ·exact List.mem_append_left _ z
  ·exact List.mem_append_right _ (.tail _ (.tail _ z))
def shE(ord:List (Str×Str)) (es:List (Str×List (List Sg))):List (Str×List (List Sg)):=es.map fun e=>(e.1,shA ord [] e.2)
def w6(ord:List (Str×Str)) (aI:Str) (es:List (Str×List (List Sg))):D:=if few es then fG ord aI es else xD
def eS:SpD:=fun ds M R=>∃ord aI es0 es,ds=[fG ord aI es0,.lst (es.map dw)]/\rX ord aI es/\R (w6 ord aI es) M
theorem iR(F:Fun K "lexicon_with" "lexicon_with" cO f fd) (T:Txt mg) {C W:Addr} (Y:zF K mg C W) (Y2:FnD P w K mg base "is_lexicon" 9 1 gh):aQ P w K mg base (CX1 P w C) 10 f fd ["lexicon","entries"] (spX K 2 eS C):=by
 have nd:=dY.nd;refine F.okX rfl dY (fun cdv A outer s H E hr=>⟨_,(uH (Ei (aR (i:=2) nd rfl (Or.inl rfl) (kh (af (aO aN (ae 0) ai (fun _ _=>rfl)) (af (aO aN (ae 0) ai (fun _ _=>rfl)) (af (bX df rfl T.b_tuple (by kernel_rfl) (af (ae 1) ah)) ah))))))
   (uH (Gw (sm (eu (qd Y2 hr (af (ae 2) ah)))) (sh (Gs Y.p rfl rfl nc fun aa σ H s a I q h1 h2 h3=>BM I q h1 h2 h3)) CD)
   (sh (Ei (a7 (ae 2)))))),fun ds M R hl hS=>?_⟩)
 obtain⟨ord,aI,es0,es,rfl,h,k⟩:=hS;simp only[fG];walk_at "rd";refine⟨sz3 3,ord,aI,es,rfl,h,?_⟩;unfold w6 at k;refine⟨_,rfl,?_⟩;cases hf:few es with
 |true=>rw[hf]at k;exact k
 |false=>rw[hf]at k;exact⟨M,LeM.refl,k⟩
theorem xI{ord:List (Str×Str)}{aI:Str}{es:List (Str×List (List Sg))}(h:rX ord aI es):rX ord aI (shE ord es):=by
 obtain⟨ho,hg,h1,h2,h3,h4⟩:=h;refine⟨ho,hg,by rw[shE,List.length_map];exact h1,by rw[shE,List.length_map];exact h2,?_,fun e he=>?_⟩
 ·rw[shE,List.map_map];exact h3
 ·obtain⟨e0,he0,rfl⟩:=List.mem_map.mp he;obtain⟨hw,k1,k2,k3⟩:=h4 e0 he0;refine⟨hw,zf k1,sQ List.nodup_nil,tQ (p:=zZ) (fun k hk r hr=>?_) (fun _ z=>by cases z) k3⟩;obtain⟨n,hn⟩:=(oy.mp hr).1.rt;exact⟨by have:=hn.len;have:=hk.1;lia,fun s hs=>hk.2 s (hn.sub s hs)⟩
def g9:SpD:=fun ds M R=>∃ord aI es,ds=[fG ord aI es]/\rX ord aI es/\few es=true/\R (w6 ord aI (shE ord es)) M
theorem lj(F:Fun K "shortened" "shortened" cS f fd) (T:Txt mg) {C W:Addr} (Y:zF K mg C W) (G9:FnX P w K mg base "lexicon_with" 10 2 eS C) (Y1:FnD P w K mg base "short_kinds" 8 2 fB):aQ P w K mg base (CX1 P w C) 11 f fd ["lexicon"] (spX K 1 g9 C):=by
 have nd:=gn.nd;refine F.okX rfl gn (fun cdv A outer s H E hr=>⟨_,(sh (CI G9 (hr.mono (by decide)) rfl Ef (af (ae 0) (af (gO (ms:=[true]) (ak:=["word","kinds"]) (ay rfl (show aJ (ag cS) cT _ _=true from by decide +kernel)) rfl (aT (aO aN (ae 0) ai (fun _ _=>rfl))) (yc (n:=2) rfl (kM (aF (i:=1) (show(cT++_).Nodup from by decide +kernel) rfl rfl) (kM (aF (i:=2) (show(cT++_).Nodup from by decide +kernel) rfl rfl) yi))) (fun _ _ _ _=>bR) (fun _ _ _ _=>(kh (af (ae 1) (af (qd Y1 hr (af (aO aN (ae 0) ai (fun _ _=>rfl)) (af (ae 2) ah))) ah))))) ah)))),fun ds M R hl hS=>?_⟩);obtain⟨ord,aI,es,rfl,h,hf,k⟩:=hS;simp only[fG];walk_at "rd";refine fun hz=>⟨hz,aS dw (fun _=>true) (fun e=>dw (e.1,shA ord [] e.2)) (fun Δ=>∃x y,Δ=[some (D.tup [D.tup (ord.map aw),D.str aI,D.tup (es.map dw)]),x,y]) es _ _ (fun e hm Δ hΔ=>?_) ⟨none,none,rfl⟩ ?_⟩
 ·obtain⟨x,y,rfl⟩:=hΔ;obtain⟨hw,k1,k2,k3⟩:=h.e.2.2.2 e hm;have h4:e.2.length<=4:=by simpa using List.all_eq_true.mp hf e hm
  refine⟨_,rfl,⟨_,_,rfl⟩,fun Q1 q=>q,fun _ Q2 q=>?_⟩;walk_at "rd";refine⟨ord,e.2,rfl,h.o.1,h4,fun r hr=>(k3 r hr).1,?_⟩;walk_at "rd";exact⟨sz3 2,q⟩
 ·rw[List.nil_append,List.filter_eq_self.mpr (fun _ _=>rfl)];exact⟨ord,aI,es,shE ord es,by rw[shE,List.map_map];rfl,xI h,k⟩
def gz(ord:List (Str×Str)) (aI:Str) (es:List (Str×List (List Sg))):D:=if few es then fG ord aI es else .str "lexicon"
def ph:SpD:=fun ds M R=>∃ord aI es,ds=[fG ord aI es]/\rX ord aI es/\few es=true/\R (gz ord aI (shE ord es)) M
theorem leU{M M':DH}{p:Addr}{o:HD}(h:LeM M M') (hp:M p=none):LeM M (aG M' p o):=fun a u e=>by
 unfold aG
 split
 ·rename_i z;rw[z,hp]at e;cases e
 ·exact h a u e
theorem xb(F:Fun K "_law_due" "_law_due" kX f fd) (T:Txt mg) (gb2:FnD P w K mg base "_law_plain" 4 2 nA):aQ P w K mg base CX0 5 f fd ["_law_lexicon_here"] (spD K 1 ph):=by
 have nd:=qW.nd;refine F.okR rfl qW (fun cdv A outer s H E hr=>⟨_,(am (aR (i:=1) nd rfl (Or.inl rfl) (eD ah))
   (am (dO PassesOwn.never rfl (aT (aO aN (ae 0) ai (fun _ _=>rfl))) (v9 rfl (jL (bH (i:=2) nd rfl (Or.inl rfl)) (jL (bH (i:=3) nd rfl (Or.inl rfl)) wL))) (am (aR (i:=4) nd rfl (Or.inr rfl) (eD ah))
   (am (dO PassesOwn.never rfl (aT (ae 3)) (bH (i:=5) nd rfl (Or.inl rfl)) (ao (dv (xE (ae 4) (gO (ms:=[false,false,false,false,true,false]) (ak:=["_law_row_here"]) (ay rfl (show aJ (ag kX) oB _ _=true from by decide +kernel)) rfl (aT (qd gb2 hr (af (aO aN (ae 0) ai (fun _ _=>rfl)) (af (ae 5) ah)))) (aF (i:=6) (show(oB++_).Nodup from by decide +kernel) rfl rfl) (fun _ _ _ _=>(jR (aZ (lJ hr.units) (ae 6) (ae 4) rfl))) (fun _ _ _ _=>(ae 6)))))))
   (am (dQ (aZ Eh (au bv rfl T.b_len (by kernel_rfl) (af (ae 4) ah)) ai nbh) (ao (ij nc)) cp)
   (ao (dv (j0 (ae 1) (kh (af (ae 2) (af (bX df rfl T.b_tuple (by kernel_rfl) (af (ae 4) ah)) ah))))))))))
   (ao (ij (kh (af (aO aN (ae 0) ai (fun _ _=>rfl)) (af (aO aN (ae 0) ai (fun _ _=>rfl)) (af (bX df rfl T.b_tuple (by kernel_rfl) (af (ae 1) ah)) ah)))))))),fun ds M R _ hS bk=>?_⟩)
 obtain⟨ord,aI,es,rfl,h,hf,k⟩:=hS;refine bk ?_;clear bk;simp only[fG];walk_at "rd";refine⟨sz3 0,fun p hp hz=>?_⟩;refine aY (fun i Δ M'=>∃x2 x3 x4 x5,Δ=[some (D.tup [D.tup (ord.map aw),D.str aI,D.tup (es.map dw)]),some (D.ref p),x2,x3,x4,x5]/\LeM M M'/\M' p=some (.lst ((shE ord (es.take i)).map dw))/\few (shE ord (es.take i))=true) ⟨none,none,none,none,rfl,i9 hp,aD,rfl⟩ ?_ ?_
 ·rintro i d Δ M' X hd ⟨x2,x3,x4,x5,rfl,hle,hM,hfw⟩ k';obtain⟨e,he,rfl⟩:=dZ hd;have hem:=List.mem_of_getElem? he;have hi:i<es.length:=(List.getElem?_eq_some_iff.mp he).1;have hes:=h.e.2.1;obtain⟨hw,k1,k2,k3⟩:=h.e.2.2.2 e hem;have h4:e.2.length<=4:=by simpa using List.all_eq_true.mp hf e hem
  have ee:shE ord (es.take (i+1))=shE ord (es.take i)++[(e.1,shA ord [] e.2)]:=by
   unfold shE;rw[List.take_add_one,he,List.map_append];rfl
  refine⟨_,rfl,?_⟩;walk_at "rd";refine⟨sz3 0,fun q hq=>?_⟩;have hqM:M q=none:=hle.none hq;have hpq:p≠q:=fun z=>by rw[z,hq]at hM;cases hM
  simp only[dI];walk_at "rd";intro hz2;refine aY (fun j Δ M2=>∃x5,Δ=[some (D.tup [D.tup (ord.map aw),D.str aI,D.tup (es.map dw)]),some (D.ref p),some (D.str e.1),some (D.tup (e.2.map rwD)),some (D.ref q),x5]/\LeM M M2/\M2 p=some (.lst ((shE ord (es.take i)).map dw))/\M2 q=some (.lst ((shA ord [] (e.2.take j)).map rwD))) ⟨x5,rfl,leU hle hqM,by rw[cu hpq];exact hM,aD⟩ ?_ ?_
  ·rintro j d Δ M2 X2 hd2 ⟨y5,rfl,hle2,hM2,hMq⟩ k2';obtain⟨kd,hkd,rfl⟩:=dZ hd2;have hkm:=List.mem_of_getElem? hkd;have hj:j<e.2.length:=(List.getElem?_eq_some_iff.mp hkd).1;refine⟨_,rfl,?_⟩;walk_at "rd";have hl:kd.length<=5:=(k3 kd hkm).1;have hz5:(plR ord kd).length<=32:=Nat.le_trans pG (Nat.pow_le_pow_right (by decide) hl:2 ^ kd.length<=2 ^ 5);refine⟨_,hMq,ord,kd,rfl,by have:=h.o.1;lia,by lia,fun rs hn hrs=>?_⟩;rw[rZ hn hrs,gL];refine⟨_,rfl,fun hz2=>⟨hz2,?_⟩⟩;refine aS rwD (fun r=>!decide (r∈shA ord [] (e.2.take j))) rwD (fun Δ=>∃x,Δ=[none,none,none,none,some (D.ref q),none,x]) (plR ord kd) _ _ (fun r hr' Δ hΔ=>?_) ⟨none,rfl⟩ ?_
   ·obtain⟨x,rfl⟩:=hΔ;refine⟨_,rfl,⟨_,rfl⟩,fun Q1 q'=>?_,fun _ Q2 q'=>?_⟩
    ·walk_at "rd";have e1:rdM M2 (D.ref q)=.lst ((shA ord [] (e.2.take j)).map rwD):=by simp only[rdM,hMq]
     rw[e1,show rdM M2 (rwD r)=rwD r from rfl];exact⟨_,k9,_,rfl,q'⟩
    ·walk_at "rd";exact q'
   ·rw[List.nil_append];refine⟨_,hMq,?_,k2' _ _ ⟨_,rfl,leU hle2 hqM,by rw[cu hpq];exact hM2,?_⟩⟩
    ·rw[List.length_map,List.length_map];have a:=o8 (ord:=ord) (ks:=e.2.take j) (acc:=[]) fun k hk=>(k3 k (List.mem_of_mem_take hk)).1;have b:=List.length_filter_le (fun r=>!decide (r∈shA ord [] (e.2.take j))) (plR ord kd);rw[List.length_take]at a;exact szB _ (by simp at a;lia)
    ·rw[aD,qI hkd,stK,List.map_append]
  ·rintro Δ M2 ⟨y5,rfl,hle2,hM2,hMq⟩;rw[List.length_map,List.take_length]at hMq;have e1:rdM M2 (D.ref q)=.lst ((shA ord [] e.2).map rwD):=by simp only[rdM,hMq]
   walk_at "rd";rw[e1];refine⟨_,rfl,_,rfl,_,rfl,?_⟩;rw[List.length_map];refine fK (fun h5=>?_) (fun h5=>?_)
   ·refine⟨M,hle2,?_⟩;have hno:few (shE ord es)=false:=by
     rw[Bool.eq_false_iff];intro z;have:=List.all_eq_true.mp z (e.1,shA ord [] e.2) (List.mem_map.mpr ⟨e,hem,rfl⟩);simp at this h5
     lia
    unfold gz at k;rw[hno]at k;exact k
   ·refine⟨_,hM2,_,rfl,sz3 2,_,hM2,?_,k' _ _ ⟨_,_,_,_,rfl,leU hle2 hp,?_,?_⟩⟩
    ·rw[List.length_map,shE,List.length_map,List.length_take];exact Nat.lt_of_lt_of_le (by lia:_<1000) (sz3 1000)
    ·rw[aD,ee,List.map_append];rfl
    ·rw[ee];unfold few at hfw ⊢;rw[List.all_append,hfw];simp at h5 ⊢
     lia
 ·rintro Δ M' ⟨x2,x3,x4,x5,rfl,hle,hM,hfw⟩;rw[List.length_map,List.take_length]at hM hfw;walk_at "rd";have e1:rdM M' (D.ref p)=.lst ((shE ord es).map dw):=by simp only[rdM,hM]
  rw[e1];unfold gz at k;rw[hfw]at k;exact⟨_,rfl,sz3 3,M,hle,k⟩
def qm:SpD:=ph
theorem u0(F:Fun K "_law_seen" "_law_seen" lR f fd) (T:Txt mg) {C W:Addr} (Y:zF K mg C W) (Y8:FnX P w K mg base "shortened" 11 1 g9 C):aQ P w K mg base CX0 12 f fd ["_law_lexicon_here"] (spD K 1 qm):=by
 have nd:=nQ.nd;refine F.okR rfl nQ (fun cdv A outer s H E hr=>⟨_,(am (aR (i:=1) nd rfl (Or.inl rfl) DK)
   (am (Dr (i:=1) (j:=2) Y8 (hr.mono (by decide)) rfl (fun _ _ h=>h) rfl rfl rfl rfl Y.gW Y.lC Y.lW nd rfl (Or.inl rfl) rfl rfl (af (ae 0) ah) fun a=>(am (aR (i:=1) nd rfl (Or.inl rfl) nc)
   (am (aR (i:=3) nd rfl (Or.inl rfl) (nP (af (lD Y.i rfl T.b_isinstance rfl Y.k_NoDrawing (ae 2)) (af (lD Y.i rfl T.b_isinstance rfl Y.k_NoText (ae 2)) (af (lD Y.i rfl T.b_isinstance rfl Y.k_NoWord (ae 2)) (af (lD Y.i rfl T.b_isinstance rfl Y.k_NoWorld (ae 2)) ah))))))
   (ao (dQ (sk (iw (eu (BB Y.i rfl T.b_isinstance rfl T.b_ValueError rfl Y.k_ValueError (ae 2))) (iw (eu (lD Y.i rfl T.b_isinstance rfl Y.k_NoLexicon (ae 2))) (ji (sm (eu (Ds (C:=C) (a:=a) rfl rfl T.b_any (ae 3)))))))) (ao (aR (i:=1) nd rfl (Or.inl rfl) nc)) cp)))))
   (ao (a7 (ae 1))))),fun ds M R _ hS bk=>?_⟩)
 obtain⟨ord,aI,es,rfl,h,hf,k⟩:=hS;refine bk ?_;clear bk;walk_at "rd";refine⟨ord,aI,es,rfl,h,hf,fun hn=>?_,fun hx a ha=>⟨sz3 4,rfl,M,i9 ha,?_⟩⟩
 ·unfold w6 at hn ⊢;unfold gz at k;cases hf:few (shE ord es)with
  |true=>rw[hf]at k;exact k
  |false=>rw[hf]at hn;exact absurd rfl hn
 ·unfold w6 at hx;unfold gz at k;cases hf:few (shE ord es)with
  |true=>rw[hf]at hx;cases hx
  |false=>rw[hf]at k;exact k
theorem Dh:o6 (.lst [.int 720720]) (.int 120)=some (.lst ((List.replicate 120 (720720:Int)).map D.int)):=by
 have e:o6 (.lst [.int 720720]) (.int 120)=if -(2 ^ 63)<=(120:Int)/\(120:Int)<2 ^ 63/\[D.int 720720].length*(120:Int).toNat<=sizeLine then some (.lst (List.replicate (120:Int).toNat [D.int 720720]).flatten)else none:=rfl
 rw[e,if_pos ⟨by decide,by decide,sz3 120⟩];rfl
theorem Ab{c d m n:Nat}(hm:1<=m) (h:tx (List.replicate m c)=tx (List.replicate n d)):c=d:=by
 have h2:=congrArg (fun z:Str=>z.cps.toList) h;simp only[gH]at h2;have:c∈List.replicate n d:=by rw[<-h2];exact List.mem_replicate.mpr ⟨by lia,rfl⟩
 exact List.eq_of_mem_replicate this
theorem BR{xs:List Int}{a b:Nat}(ha:a<=xs.length) (hb:b<=xs.length):L2.c7 (xs.map D.int) (some (a:Int)) (some (b:Int))=((xs.take b).drop a).map D.int:=by
 unfold L2.c7;rw[HT.sIx_nat,HT.sIx_nat,Nat.min_eq_left (by rw[List.length_map];lia),Nat.min_eq_left (by rw[List.length_map];lia),List.map_drop,List.map_take,List.drop_take]
def j6:SpD:=fun ds M R=>∃c:Int,ds=[.int c]/\∀ord aI es,rX ord aI es->few es=true->R (fG ord aI es) M
theorem oz(F:Fun K "_law_lexicon" "_law_lexicon" dX f fd) (T:Txt mg) (gb1:FnD P w K mg base "_law_parts" 1 2 mZ) (gb0:FnD P w K mg base "_law_marks" 1 2 nE) (Y6:FnD P w K mg base "_law_letters" 1 2 kc) (gb5:FnD P w K mg base "_law_row" 1 3 uq):aQ P w K mg base CX0 2 f fd ["_law_cell"] (spD K 1 j6):=by
 have nd:=iX.nd;refine F.okR rfl iX (fun cdv A outer s H E hr=>⟨_,(am (aR (i:=1) nd rfl (Or.inr rfl) (qd gb1 hr (af (ae 0) (af (av eE (nP (af ai ah)) ai) ah))))
   (cv (am (aR (i:=2) nd rfl (Or.inr rfl) (qd gb0 hr (af (qd Y6 hr (af (ae 1) (af ai ah))) (af (aO aN (ae 1) ai (fun _ _=>rfl)) ah))))
   (cv (am (jo (i:=4) nd rfl rfl rfl (ms:=[false,true,true,false,false,false,false,false,false,false]) (ak:=[]) (ay rfl (show aJ (ag dX) fU _ _=true from by decide +kernel)) rfl (cb rfl T.b_range (af ai ah)) (aF (i:=3) (show(fU++_).Nodup from by decide +kernel) rfl rfl) (fun _ _ _ _=>bR) (fun _ _ _ _=>(kh (af (aO aN (ae 2) (av bS (aO aN (ae 1) (av aP ai (ae 3)) (fun _ _=>rfl)) (au bv rfl T.b_len (by kernel_rfl) (af (ae 2) ah))) (fun _ _=>rfl)) (af (aO aN (ae 2) (av bS (av fZ (aO aN (ae 1) (av aP ai (ae 3)) (fun _ _=>rfl)) ai) (au bv rfl T.b_len (by kernel_rfl) (af (ae 2) ah))) (fun _ _=>rfl)) ah)))))
   (cv (am (aR (i:=5) nd rfl (Or.inl rfl) (eD ah))
   (am (aR (i:=6) nd rfl (Or.inl rfl) (qd Y6 hr (af (cW (ae 1) (cU ai) gG) (af ai ah))))
   (cv (am (dO PassesOwn.never rfl (cb rfl T.b_range (af (av aP ai (av bS (aO aN (ae 1) ai (fun _ _=>rfl)) ai)) ah)) (bH (i:=3) nd rfl (Or.inl rfl)) (am (aR (i:=7) nd rfl (Or.inl rfl) (eD ah))
   (cv (am (dO PassesOwn.never rfl (cb rfl T.b_range (af (av aP ai (av bS (aO aN (ae 1) (av aP ai (ae 3)) (fun _ _=>rfl)) ai)) ah)) (bH (i:=8) nd rfl (Or.inl rfl)) (am (aR (i:=9) nd rfl (Or.inl rfl) (qd gb5 hr (af (cW (ae 1) (cU (av aP (av aP ai (av eE ai (ae 3))) (av eE ai (ae 8)))) (cU (av aP (av aP ai (av eE ai (ae 3))) (av eE ai (ae 8))))) (af (ae 2) (af ai ah)))))
   (ao (dQ (aZ (lJ hr.units) (ae 9) (ae 7) rfl) (ao (dv (j0 (ae 7) (ae 9)))) cp))))
   (cv (ao (dv (j0 (ae 5) (kh (af (av eE (aO aN (ae 6) (ae 3) (fun _ _=>rfl)) (av aP ai (av bS (av fZ (aO aN (ae 1) (av aP ai (ae 3)) (fun _ _=>rfl)) ai) ai))) (af (bX df rfl T.b_tuple (by kernel_rfl) (af (ae 7) ah)) ah)))))))))))
   (cv (ao (ij (kh (af (bX df rfl T.b_tuple (by kernel_rfl) (af (cW (ae 4) gG (cU (av bS (aO aN (ae 1) ai (fun _ _=>rfl)) ai))) ah)) (af (aO aN (ae 2) (av bS (aO aN (ae 1) ai (fun _ _=>rfl)) (au bv rfl T.b_len (by kernel_rfl) (af (ae 2) ah))) (fun _ _=>rfl)) (af (bX df rfl T.b_tuple (by kernel_rfl) (af (ae 5) ah)) ah))))))))))))))))),fun ds M R _ hS bk=>?_⟩)
 obtain⟨c,rfl,k⟩:=hS;refine bk ?_;clear bk;walk_at "rd";refine⟨sz3 1,_,Dh,c,120,rfl,by decide,fun xs hX=>aU ?_⟩;have at_:∀n:Nat,n<120->∃x,xs[n]?=some x/\0<=x/\x<720720/\atI (xs.map D.int) (n:Int)=some (D.int x):=fun n hn=>by
  have lt:n<xs.length:=by rw[hX.1];exact hn
  have e:=List.getElem?_eq_getElem lt;exact⟨_,e,(hX.2 _ (List.getElem_mem lt)).1,(hX.2 _ (List.getElem_mem lt)).2,bC (by rw[List.getElem?_map,e];rfl)⟩
 walk_at "rd";refine⟨xs,3,rfl,by rw[hX.1];decide,by decide,hX.2,fun cs hcs hcn hca=>?_⟩;obtain⟨x3,h3,h30,h31,a3⟩:=at_ 3 (by decide);refine⟨_,a3,cs,x3,rfl,hcs,hca,h30,h31,fun ms hm1 hm3 hms=>aU ?_⟩;walk_at "rd";refine⟨by rw[bQ];exact sz3 4,iH (fun i acc Δ M'=>M'=M/\(∃y,Δ=[none,some (.lst (xs.map D.int)),some (.lst (ms.map D.str)),y,none,none,none,none,none,none])/\∃ps:List (Str×Str),acc=ps.map aw/\ps.length=i/\∀p∈ps,bj p.1=true/\bj p.2=true) ⟨rfl,⟨none,rfl⟩,[],rfl,rfl,fun _ h=>by cases h⟩ ?_ ?_⟩
 ·rintro j d acc Δ M' X' hd' ⟨rfl,⟨y,rfl⟩,ps,rfl,hps,hpo⟩ k2;obtain⟨hj,rfl⟩:=b7 hd';obtain⟨x,hx,hx0,hx1,ex⟩:=at_ (4+j) (by lia);obtain⟨m1,hmm1,hm1'⟩:=iU (jz:=ms) (v:=x % (ms.length:Int)) (Int.emod_nonneg _ (by lia)) (Int.emod_lt_of_pos _ (by lia));obtain⟨m2,hmm2,hm2'⟩:=iU (jz:=ms) (v:=x / 8 % (ms.length:Int)) (Int.emod_nonneg _ (by lia)) (Int.emod_lt_of_pos _ (by lia));refine⟨_,rfl,?_⟩;simp only[qi];walk_at "rd";rw[show(4:Int)+(0+(j:Int))=((4+j:Nat):Int)by lia];refine⟨_,ex,?_⟩;walk_at "rd";rw[List.length_map];refine⟨_,if_pos (by lia),_,hm1',_,ex,?_⟩;walk_at "rd";refine⟨_,if_pos (by lia),_,hm2',sz3 2,k2 _ _ _ ⟨rfl,⟨_,rfl⟩,ps++[(m1,m2)],by rw[List.map_append];rfl,by rw[List.length_append,hps];rfl,eN hpo ⟨hms m1 hmm1,hms m2 hmm2⟩⟩⟩
 rintro acc Δ M' ⟨rfl,⟨y,rfl⟩,ps,rfl,hps,hpo⟩;rw[bQ]at hps;refine aU ?_;walk_at "rd";refine⟨sz3 0,fun p hp=>?_⟩;rw[show(9:Int)=((9:Nat):Int)from rfl,qJ,<-List.map_drop];refine⟨xs.drop 9,4,rfl,by rw[List.length_drop,hX.1];decide,by decide,fun x hx=>hX.2 x (List.mem_of_mem_drop hx),fun cs2 hcs2 hcn2 hca2=>aU ?_⟩;obtain⟨x13,h13,h130,h131,a13⟩:=at_ 13 (by decide);walk_at "rd";refine⟨_,a13,?_⟩;walk_at "rd";obtain⟨ne,ene⟩:∃n:Nat,1+x13 % 4=((n+1:Nat):Int):=⟨(x13 % 4).toNat,by lia⟩;refine⟨by lia,by lia,?_⟩;rw[ene,Int.toNat_natCast];have hne:ne<=3:=by lia
 obtain⟨nm,hnm⟩:∃nm:Nat->Str,∀j,j<4->∃(x:Int) (cj:Nat),xs[14+j]?=some x/\0<=x/\atI (xs.map D.int) ((14+j:Nat):Int)=some (D.int x)/\cs2[j]?=some cj/\nm j=tx (List.replicate (1+x / 4 % 8).toNat cj) :=
  ⟨fun j=>tx (List.replicate (1+xs.getD (14+j) 0 / 4 % 8).toNat (cs2.getD j 0)),fun j hj=>by
   obtain⟨x,e,e0,_,ea⟩:=at_ (14+j) (by lia);have e2:cs2[j]?=some cs2[j]:=List.getElem?_eq_getElem (by lia);exact⟨x,_,e,e0,ea,e2,by show tx (List.replicate (1+xs.getD (14+j) 0 / 4 % 8).toNat (cs2.getD j 0))=_;rw[List.getD_eq_getElem?_getD,List.getD_eq_getElem?_getD,e,e2];rfl⟩⟩
 have nm_short:∀j,j<4->bj (nm j)=true:=fun j hj=>by
  obtain⟨x,cj,_,h0,_,hc,e⟩:=hnm j hj;rw[e];exact nB (hca2 cj (List.mem_of_getElem? hc)) (by lia) (by lia)
 have nm_inj:∀i j,i<4->j<4->nm i=nm j->i=j:=fun i j hi hj e=>by
  obtain⟨x,ci,_,h0,_,hc,e1⟩:=hnm i hi;obtain⟨y,cj,_,_,_,hc',e2⟩:=hnm j hj;rw[e1,e2]at e;have z:=Ab (by lia) e;subst z;exact(List.getElem?_inj (by have:=(List.getElem?_eq_some_iff.mp hc).1;exact this) hcn2).mp (hc.trans hc'.symm)
 refine aY (fun i Δ M2=>∃x3 x7 x8 x9 es,Δ=[some (D.int c),some (D.lst (xs.map D.int)),some (D.lst (ms.map D.str)),x3,some (D.lst (ps.map aw)),some (D.ref p),some (D.lst (cs2.map fun c=>D.str (tx [c]))),x7,x8,x9]/\LeM M' M2/\M2 p=some (.lst (es.map dw))/\es.map (·.1)=(List.range i).map nm/\∀e∈es,zA e.2/\e.2.length<=4) ⟨none,none,none,none,[],rfl,i9 hp,aD,rfl,fun _ h=>by cases h⟩ ?_ ?_
 ·rintro i d Δ M2 X hd ⟨x3',x7,x8,x9,es,rfl,hle,hM,hnms,hes⟩ k';obtain⟨hi,rfl⟩:=b7 hd;have hi4:i<4:=by lia
  have hel:es.length=i:=by have:=congrArg List.length hnms;simpa using this
  obtain⟨xi,ci,hxi,hxi0,axi,hci,enm⟩:=hnm i hi4;refine⟨_,rfl,?_⟩;walk_at "rd";refine⟨sz3 0,fun q hq=>aU ?_⟩;have hqM:M' q=none:=hle.none hq;have hpq:p≠q:=fun z=>by rw[z,hq]at hM;cases hM
  walk_at "rd";rw[show(14:Int)+(0+(i:Int))=((14+i:Nat):Int)by lia];refine⟨_,axi,?_⟩;walk_at "rd";obtain⟨nk,enk⟩:∃n:Nat,1+xi % 4=((n+1:Nat):Int):=⟨(xi % 4).toNat,by lia⟩;refine⟨by lia,by lia,?_⟩;rw[enk,Int.toNat_natCast];have hnk:nk<=3:=by lia
  refine aY (fun j Δ M3=>∃x8 x9 rs,Δ=[some (D.int c),some (D.lst (xs.map D.int)),some (D.lst (ms.map D.str)),some (D.int (0+(i:Int))),some (D.lst (ps.map aw)),some (D.ref p),some (D.lst (cs2.map fun c=>D.str (tx [c]))),some (D.ref q),x8,x9]/\LeM M' M3/\M3 p=some (.lst (es.map dw))/\M3 q=some (.lst (rs.map rwD))/\rs.Nodup/\rs.length<=j/\(1<=j->1<=rs.length)/\∀r∈rs,zZ r) ⟨_,_,[],rfl,leU hle hqM,by rw[cu hpq];exact hM,aD,List.nodup_nil,Nat.le_refl _,fun z=>by lia,fun _ h=>by cases h⟩ ?_ ?_
  ·rintro j d Δ M3 X3 hd3 ⟨y8,y9,rs,rfl,hle3,hM3,hMq,rn,rl,r1,rok⟩ k3;obtain⟨hj,rfl⟩:=b7 hd3;refine⟨_,rfl,?_⟩;walk_at "rd";rw[show(20:Int)+24*(0+(i:Int))+6*(0+(j:Int))=((20+24*i+6*j:Nat):Int)by lia,show(26:Int)+24*(0+(i:Int))+6*(0+(j:Int))=((26+24*i+6*j:Nat):Int)by lia,BR (by rw[hX.1];lia) (by rw[hX.1];lia)];refine⟨_,ms,rfl,by rw[List.length_drop,List.length_take,hX.1];lia,fun x hx=>hX.2 x (List.mem_of_mem_take (List.mem_of_mem_drop hx)),hm1,hms,fun row hrl hrs=>?_⟩;have e1:rdM M3 (D.ref q)=.lst (rs.map rwD):=by simp only[rdM,hMq]
   refine⟨_,by rw[e1];exact k9 (r:=row),_,rfl,fK (fun hni=>?_) (fun hni=>?_)⟩
   ·refine⟨_,hMq,_,hMq,by rw[List.length_map];exact Nat.lt_of_lt_of_le (by lia:_<1000) (sz3 1000),k3 _ _ ⟨_,_,rs++[row],rfl,leU hle3 hqM,by rw[cu hpq];exact hM3,by rw[aD,List.map_append];rfl,?_,by rw[List.length_append,List.length_singleton];lia,fun _=>by rw[List.length_append,List.length_singleton];lia,eN rok ⟨hrl,hrs⟩⟩⟩;rw[List.nodup_append];exact⟨rn,by simp,fun a ha b hb=>by rw[List.mem_singleton]at hb;rintro rfl;subst hb;simp[ha]at hni⟩
   ·refine k3 _ _ ⟨_,_,rs,rfl,hle3,hM3,hMq,rn,by lia,fun _=>?_,rok⟩;have:row∈rs:=by simpa using hni
    exact List.length_pos_of_mem this
  ·rintro Δ M3 ⟨y8,y9,rs,rfl,hle3,hM3,hMq,rn,rl,r1,rok⟩;rw[bQ]at rl r1;have e1:rdM M3 (D.ref q)=.lst (rs.map rwD):=by simp only[rdM,hMq]
   refine aU ?_;walk_at "rd";rw[Int.zero_add,show(14:Int)+(i:Int)=((14+i:Nat):Int)by lia,e1];refine⟨_,hM3,_,bC (by rw[List.getElem?_map,hci];rfl),_,axi,?_⟩;walk_at "rd";refine⟨_,pH (by lia) (by lia),sz3 2,_,hM3,by rw[List.length_map];exact Nat.lt_of_lt_of_le (by lia:_<1000) (sz3 1000),k' _ _ ⟨_,_,_,_,es++[(nm i,rs)],rfl,leU hle3 hp,?_,?_,eN hes ⟨⟨r1 (by lia),rn,rok⟩,by show rs.length<=4;lia⟩⟩⟩
   ·rw[aD,List.map_append,enm];obtain⟨m,em⟩:∃m:Nat,1+xi / 4 % 8=(m:Int):=⟨(1+xi / 4 % 8).toNat,by lia⟩;rw[em,mq,Int.toNat_natCast];rfl
   ·rw[List.map_append,hnms,List.range_succ,List.map_append];rfl
 ·rintro Δ M2 ⟨x3',x7,x8,x9,es,rfl,hle,hM,hnms,hes⟩;rw[bQ]at hnms;have hel:es.length=ne+1:=by have:=congrArg List.length hnms;simpa using this
  have e1:rdM M2 (D.ref p)=.lst (es.map dw):=by simp only[rdM,hM]
  refine aU ?_;obtain⟨x8',h8,h80,h81,a8⟩:=at_ 8 (by decide);obtain⟨x18,h18,h180,h181,a18⟩:=at_ 18 (by decide);walk_at "rd";refine⟨_,a8,?_⟩;walk_at "rd";refine⟨_,a18,?_⟩;walk_at "rd";rw[List.length_map,e1];obtain⟨g,hgm,hg'⟩:=iU (jz:=ms) (v:=x18 % (ms.length:Int)) (Int.emod_nonneg _ (by lia)) (Int.emod_lt_of_pos _ (by lia));refine⟨_,if_pos (by lia),_,hg',_,rfl,sz3 3,M',hle,?_⟩;obtain⟨no,eno⟩:∃n:Nat,x8' % 5=(n:Int):=⟨(x8' % 5).toNat,by lia⟩;rw[eno,oS,<-List.map_take];refine k (ps.take no) g es ⟨⟨by rw[List.length_take];lia,fun p hp=>hpo p (List.mem_of_mem_take hp)⟩,hms g hgm,by lia,by lia,?_,fun e he=>⟨?_,(hes e he).1⟩⟩ (List.all_eq_true.mpr fun e he=>decide_eq_true (hes e he).2)
  ·rw[hnms,List.nodup_iff_pairwise_ne,List.pairwise_map];refine List.pairwise_lt_range.imp_of_mem fun {a b} ha hb h e=>?_;have:=nm_inj a b (by have:=List.mem_range.mp ha;lia) (by have:=List.mem_range.mp hb;lia) e
   lia
  ·have:e.1∈es.map (·.1):=List.mem_map_of_mem he;rw[hnms]at this;obtain⟨j,hj,ej⟩:=List.mem_map.mp this;rw[<-ej];exact nm_short j (by have:=List.mem_range.mp hj;lia)
theorem pD{α:Type}{f:α->D}{n:Nat}(h:∀x,dLe (f x) n=true) {xs:List α}:cn (xs.map f) n=true:=by
 rw[eF];intro d hd;obtain⟨x,_,rfl⟩:=List.mem_map.mp hd;exact h x
theorem iM{α:Type}{f:α->D}(h:∀x,eqD (f x) (f x)=true):∀{xs:List α},bZ (xs.map f) (xs.map f)=true
 |[]=>by simp[bZ]
 |x::xs=>by rw[List.map_cons,bZ,h x,iM h];rfl
theorem E2{n:Nat}(r:List Sg):dLe (rwD r) (n+2)=true:=pD (n:=n+1) fun _=>rfl
theorem Cr{n:Nat}(e:Str×List (List Sg)):dLe (dw e) (n+4)=true:=by
 show cn [.str e.1,dI e.2] (n+3)=true;rw[eF];intro d hd;simp only[List.mem_cons,List.not_mem_nil,or_false]at hd;rcases hd with rfl|rfl
 ·rfl
 ·exact pD (n:=n+2) fun r=>E2 r
theorem rS{ord:List (Str×Str)}{aI:Str}{es:List (Str×List (List Sg))}:dLe (fG ord aI es) 60=true:=by
 show cn [.tup (ord.map aw),.str aI,.tup (es.map dw)] 59=true;rw[eF];intro d hd;simp only[List.mem_cons,List.not_mem_nil,or_false]at hd;rcases hd with rfl|rfl|rfl
 ·exact pD (n:=58) fun _=>rfl
 ·rfl
 ·exact pD (n:=58) fun e=>Cr e
theorem vO{ord:List (Str×Str)}{aI:Str}{es:List (Str×List (List Sg))}:eqD (fG ord aI es) (fG ord aI es)=true:=by
 have h1:bZ (ord.map aw) (ord.map aw)=true:=iM fun p=>by simp[aw,eqD,bZ]
 have h2:bZ (es.map dw) (es.map dw)=true:=iM fun e=>by
  have:bZ (e.2.map rwD) (e.2.map rwD)=true:=iM fun r=>by simp[rO]
  simp[dw,dI,eqD,bZ,this]
 simp[fG,eqD,bZ,h1,h2]
theorem tI{ord:List (Str×Str)}{aI:Str}{es:List (Str×List (List Sg))}:neF (gz ord aI es) (gz ord aI es)=some (.bl false):=by
 unfold gz;cases few es with
 |true =>
  show neF (fG ord aI es) (fG ord aI es)=_;unfold neF;rw[if_pos ⟨rS,rS⟩,vO];rfl
 |false=>rfl
theorem AG{ord:List (Str×Str)}{es:List (Str×List (List Sg))}:shE ord (shE ord es)=shE ord es:=by
 unfold shE;rw[List.map_map];refine List.map_congr_left fun e _=>?_;have:shA ord [] (shA ord [] e.2)=shA ord [] e.2:=by
  rw[qR (by rw[List.nil_append];exact sQ List.nodup_nil) (wy (fun _ z=>by cases z)),List.nil_append]
 simp only[Function.comp,this]
def S_law:SpD:=fun ds M R=>∃ns:List Int,ds=[.scr (ns.map .int)]/\M=noM/\ns.length<=63/\∀M',R (.bl true) M'
theorem BX(F:Fun K "law" "law" yu f fd) (T:Txt mg) (ga2:FnD P w K mg base "_law_lexicon" 2 1 j6) (gb4:FnD P w K mg base "_law_due" 5 1 ph) (ga7:FnD P w K mg base "_law_seen" 12 1 qm):aQ P w K mg base CX0 13 f fd ["_law_script"] (spD K 1 S_law):=by
 have nd:=yv.nd;refine F.okR rfl yv (fun cdv A outer s H E hr=>⟨_,(am (dO PassesOwn.never rfl (aT (av aP (bX Dz rfl T.b_list (by kernel_rfl) (af (cW (ae 0) gG (cU ai)) ah)) (nP (af ai ah)))) (bH (i:=1) nd rfl (Or.inl rfl)) (am (aR (i:=2) nd rfl (Or.inl rfl) (qd ga2 hr (af (ae 1) ah)))
   (cv (am (aR (i:=3) nd rfl (Or.inl rfl) (qd gb4 hr (af (ae 2) ah)))
   (cv (am (aR (i:=4) nd rfl (Or.inl rfl) (qd ga7 hr (af (ae 2) ah)))
   (cv (ao (dQ (sk (Bg (aZ (AF hr.units) (ae 4) (ae 3) nbh) (wa (sk (iw (aZ (AF hr.units) (ae 3) nc nbh) (ji (aZ (AF hr.units) (qd ga7 hr (af (ae 4) ah)) (ae 3) nbh))))))) (ao (a7 vV)) cp)))))))))
   (ao (a7 vV))),fun ds M R _ hS bk=>?_⟩)
 obtain⟨ns,rfl,rfl,hn,k⟩:=hS;refine bk ?_;clear bk;walk_at "rd";obtain⟨ys,hys,hyl⟩:∃ys:List Int,L2.c7 (ns.map D.int) none (some 6)=ys.map D.int/\ys.length<=6:=⟨ns.take 6,by rw[show(6:Int)=((6:Nat):Int)from rfl,oS,List.map_take],by rw[List.length_take];lia⟩;rw[hys];refine⟨_,rfl,sz3 1,_,if_pos (sz3 _ (by simp;lia)),_,rfl,fun hz=>?_⟩;rw[show ys.map D.int++[D.int 0]=(ys++[0]).map D.int by rw[List.map_append];rfl];refine aY (fun i Δ M'=>∃x1 x2 x3 x4,Δ=[some (D.scr (ns.map D.int)),x1,x2,x3,x4]) ⟨_,_,_,_,rfl⟩ ?_ ?_
 ·rintro i d Δ M X hd ⟨x1,x2,x3,x4,rfl⟩ k';obtain⟨c,hc,rfl⟩:=dZ hd;refine⟨_,rfl,?_⟩;walk_at "rd";refine⟨c,rfl,fun ord aI es hL hf=>aU ?_⟩;walk_at "rd";refine⟨ord,aI,es,rfl,hL,hf,aU ?_⟩;walk_at "rd";refine⟨ord,aI,es,rfl,hL,hf,aU ?_⟩;walk_at "rd";rw[show rdM M (gz ord aI (shE ord es))=gz ord aI (shE ord es)by unfold gz;cases few (shE ord es)<;>rfl];refine⟨_,tI,_,rfl,?_⟩;rw[if_neg (by simp)];cases hf2:few (shE ord es)with
  |false =>
   have e:gz ord aI (shE ord es)=.str "lexicon":=by unfold gz;rw[hf2];rfl
   rw[e];refine⟨.bl false,rfl,_,rfl,?_⟩;rw[if_neg (by simp)];exact k' _ _ ⟨_,_,_,_,rfl⟩
  |true =>
   have e:gz ord aI (shE ord es)=fG ord aI (shE ord es):=by unfold gz;rw[hf2];rfl
   rw[e];refine⟨.bl true,by unfold neF;rw[if_pos ⟨rS,rfl⟩];rfl,_,rfl,?_⟩;rw[if_pos rfl];refine⟨ord,aI,shE ord es,rfl,xI hL,hf2,?_⟩;rw[AG,<-e];have e5:rdM M (gz ord aI (shE ord es))=gz ord aI (shE ord es):=by rw[e];rfl
   refine⟨_,by rw[e5];exact tI,_,rfl,?_⟩;rw[if_neg (by simp)];exact k' _ _ ⟨_,_,_,_,rfl⟩
 ·rintro Δ M ⟨x1,x2,x3,x4,rfl⟩;walk_at "rd";exact k _
end
theorem D8:Fb S_law:=fun ns R hn hR=>⟨ns,rfl,rfl,hn,hR⟩
theorem B0{l:PySem.W.OpenLaw}{w:World}{K:PySem.W.Frag}{h:Heap}{mg:Str->Option Value}{fa:Addr}(X:K.In h) (G:h.Ns mainGlobals mg) (hfa:mg "law"=some (.ref fa))
  {f0:Addr} {d0:FuncData}
  {f1:Addr} {d1:FuncData}
  {f2:Addr} {d2:FuncData}
  {f3:Addr} {d3:FuncData}
  {f4:Addr} {d4:FuncData}
  {f5:Addr} {d5:FuncData}
  {f6:Addr} {d6:FuncData}
  {f7:Addr} {d7:FuncData}
  {f8:Addr} {d8:FuncData}
  {f9:Addr} {d9:FuncData}
  {f10:Addr} {d10:FuncData}
  {f11:Addr} {d11:FuncData}
  {f12:Addr} {d12:FuncData}
  {f13:Addr} {d13:FuncData}
  {f14:Addr} {d14:FuncData}
  {f15:Addr} {d15:FuncData}
  {f16:Addr} {d16:FuncData}
  {f17:Addr} {d17:FuncData}
  {f18:Addr} {d18:FuncData}
  {f19:Addr} {d19:FuncData}
  {f20:Addr} {d20:FuncData}
  {f21:Addr} {d21:FuncData}
  {f22:Addr} {d22:FuncData}
  {f23:Addr} {d23:FuncData}
  {f24:Addr} {d24:FuncData}
  {f25:Addr} {d25:FuncData}
  {f26:Addr} {d26:FuncData}
  {f27:Addr} {d27:FuncData}
  {f28:Addr} {d28:FuncData}
  {f29:Addr} {d29:FuncData}
  {f30:Addr} {d30:FuncData}
  {f31:Addr} {d31:FuncData}
  {f32:Addr} {d32:FuncData}
  {f33:Addr} {d33:FuncData}
  {f34:Addr} {d34:FuncData}
  {f35:Addr} {d35:FuncData}
  {f36:Addr} {d36:FuncData}
  {tk_SMALL_LETTERS:Tok}
  {tk_MOST_LETTERS:Tok}
  {tk_MOST_PAIRS:Tok}
  {tk_MOST_TURN:Tok}
  {tk_MOST_ENTRIES:Tok}
  {tk_MOST_KINDS:Tok}
  {tk_MOST_SIGNS:Tok}
  {C W CN WN:Addr} {xn xq wn wq:Str} {xbs wbs:List Value} {xh wh:Bool} {xsn wsn:List Str} {xsub wsub:List Value} {xab wab:Bool} {xcol wcol:Option Bool} {xdd wdd:Option Addr} {xk0 xk1 xk2 xk3 xk5 w0 w1 w2 w3 w5:Option Value} {wnew:String} {cnc wnc:Value} {cnd wnd:Option Addr} {ces wes:Array DictEntry} {cep wep:Nat} {csl wsl:Array (Option Value)}
  {C_NoDrawing:Addr}
  {C_NoText:Addr}
  {C_NoWord:Addr}
  {C_NoWorld:Addr}
  {C_NoLexicon:Addr}
  (x0:br K "is_whole" fj f0 d0)
  (x1:br K "is_tuple_of" cZ f1 d1)
  (x2:br K "is_short_word" bL f2 d2)
  (x3:br K "reached_from" cK f3 d3)
  (x4:br K "are_unlike" dD f4 d4)
  (x5:br K "_law_parts" jI f5 d5)
  (x6:br K "_law_letters" dR f6 d6)
  (x7:br K "_law_marks" eI f7 d7)
  (x8:br K "_law_most" mH f8 d8)
  (x9:br K "_law_row" kQ f9 d9)
  (x10:br K "is_mark" fX f10 d10)
  (x11:br K "at_most" gm f11 d11)
  (x12:br K "is_turn" fV f12 d12)
  (x13:br K "_law_cancel" ie f13 d13)
  (x14:br K "_law_lexicon" dX f14 d14)
  (x15:br K "is_pair" fL f15 d15)
  (x16:br K "is_sign" gj f16 d16)
  (x17:br K "mark_leads" dF f17 d17)
  (x18:br K "_law_gaps" mI f18 d18)
  (x19:br K "is_order" dh f19 d19)
  (x20:br K "is_row" fo f20 d20)
  (x21:br K "cancel" ik f21 d21)
  (x22:br K "_law_plain" cJ f22 d22)
  (x23:br K "is_kind" fP f23 d23)
  (x24:br K "cancels_in" cE f24 d24)
  (x25:br K "_law_due" kX f25 d25)
  (x26:br K "are_kinds" cR f26 d26)
  (x27:br K "rows_by_one_cancel" aV f27 d27)
  (x28:br K "is_entry" fk f28 d28)
  (x29:br K "plain_rows" bP f29 d29)
  (x30:br K "are_entries" bE f30 d30)
  (x31:br K "short_kinds" cc f31 d31)
  (x32:br K "is_lexicon" dG f32 d32)
  (x33:br K "lexicon_with" cO f33 d33)
  (x34:br K "shortened" cS f34 d34)
  (x35:br K "_law_seen" lR f35 d35)
  (x36:br K "law" yu f36 d36)
  (z_isinstance:PySem.W.nsIn K mainGlobals "isinstance"=some none)
  (z_int:PySem.W.nsIn K mainGlobals "int"=some none)
  (z_bool:PySem.W.nsIn K mainGlobals "bool"=some none)
  (z_tuple:PySem.W.nsIn K mainGlobals "tuple"=some none)
  (z_len:PySem.W.nsIn K mainGlobals "len"=some none)
  (z_str:PySem.W.nsIn K mainGlobals "str"=some none)
  (z_all:PySem.W.nsIn K mainGlobals "all"=some none)
  (z_set:PySem.W.nsIn K mainGlobals "set"=some none)
  (z_range:PySem.W.nsIn K mainGlobals "range"=some none)
  (z_sorted:PySem.W.nsIn K mainGlobals "sorted"=some none)
  (z_any:PySem.W.nsIn K mainGlobals "any"=some none)
  (z_ValueError:PySem.W.nsIn K mainGlobals "ValueError"=some none)
  (z_list:PySem.W.nsIn K mainGlobals "list"=some none)
  (z_SMALL_LETTERS:PySem.W.nsIn K mainGlobals "SMALL_LETTERS"=some (some (.str "abcdefghijklmnopqrstuvwxyz" tk_SMALL_LETTERS)))
  (z_MOST_LETTERS:PySem.W.nsIn K mainGlobals "MOST_LETTERS"=some (some (.int 8 tk_MOST_LETTERS)))
  (z_MOST_PAIRS:PySem.W.nsIn K mainGlobals "MOST_PAIRS"=some (some (.int 8 tk_MOST_PAIRS)))
  (z_MOST_TURN:PySem.W.nsIn K mainGlobals "MOST_TURN"=some (some (.int 99 tk_MOST_TURN)))
  (z_MOST_ENTRIES:PySem.W.nsIn K mainGlobals "MOST_ENTRIES"=some (some (.int 10 tk_MOST_ENTRIES)))
  (z_MOST_KINDS:PySem.W.nsIn K mainGlobals "MOST_KINDS"=some (some (.int 4 tk_MOST_KINDS)))
  (z_MOST_SIGNS:PySem.W.nsIn K mainGlobals "MOST_SIGNS"=some (some (.int 5 tk_MOST_SIGNS)))
  (aC:PySem.W.nsIn K mainGlobals "NoLexicon"=some (some (.ref C)))
  (aW:PySem.W.nsIn K mainGlobals "WishError"=some (some (.ref W)))
  (kC:PySem.W.keepIn K (.ref C)=true)
  (lC:K.lookup C=some (excClassObj xn xq C CN xbs [.ref W,.type "ValueError",.type "Exception",.type "BaseException",.type "object"] xh xsn xsub xab xcol xdd xk0 xk1 xk2 xk3 xk5 "ValueError.__new__"))
  (nC:K.lookup CN=some ⟨cnc,cnd,.dict ces cep,csl⟩)
  (hC:ces.toList.all (fun e=>e.key.isStr "__init__"==false&&match e.key with|.str _ _=>true|_=>false)=true)
  (lW:K.lookup W=some (excClassObj wn wq W WN wbs [.type "ValueError",.type "Exception",.type "BaseException",.type "object"] wh wsn wsub wab wcol wdd w0 w1 w2 w3 w5 wnew))
  (nW:K.lookup WN=some ⟨wnc,wnd,.dict wes wep,wsl⟩)
  (hW:wes.toList.all (fun e=>e.key.isStr "__init__"==false&&match e.key with|.str _ _=>true|_=>false)=true)
  (i1:PySem.W.findIn K (.ref C) "__getattribute__"=some (some (.builtin "BaseException.__getattribute__")))
  (i7:PySem.W.findIn K (.ref C) "__getattr__"=some none)
  (i8:PySem.W.mroIn K C (.type "BaseException")=some true)
  (i2:(PySem.W.clsIn K C).isSome=true)
  (i3:PySem.W.findIn K (.ref C) "__class__"=some (some (.builtin "object.__class__")))
  (i4:PySem.W.specialIn K (.builtin "object.__class__") "__get__"=some (some (.builtin "getset_descriptor.__get__")))
  (i5:PySem.W.takesIn K (.builtin "object.__class__")=some true)
  (i6:PySem.W.mroIn K C (.type "object")=some true)
  (kV:PySem.W.kitOne K (.ref C) (.type "ValueError")=some true)
  (a_NoDrawing:PySem.W.nsIn K mainGlobals "NoDrawing"=some (some (.ref C_NoDrawing)))
  (k_NoDrawing:PySem.W.kitOne K (.ref C) (.ref C_NoDrawing)=some false)
  (a_NoText:PySem.W.nsIn K mainGlobals "NoText"=some (some (.ref C_NoText)))
  (k_NoText:PySem.W.kitOne K (.ref C) (.ref C_NoText)=some false)
  (a_NoWord:PySem.W.nsIn K mainGlobals "NoWord"=some (some (.ref C_NoWord)))
  (k_NoWord:PySem.W.kitOne K (.ref C) (.ref C_NoWord)=some false)
  (a_NoWorld:PySem.W.nsIn K mainGlobals "NoWorld"=some (some (.ref C_NoWorld)))
  (k_NoWorld:PySem.W.kitOne K (.ref C) (.ref C_NoWorld)=some false)
  (a_NoLexicon:PySem.W.nsIn K mainGlobals "NoLexicon"=some (some (.ref C_NoLexicon)))
  (k_NoLexicon:PySem.W.kitOne K (.ref C) (.ref C_NoLexicon)=some true)
 :∃fd:FuncData,(∀(s:Shared) (v:Value),BindsTo s fd ⟨[v],[]⟩ [("_law_script",v)])/\∀base:Heap,K.In base->base.Ns mainGlobals mg->aQ l.prog w K mg base CX0 13 fa fd ["_law_script"] (spD K 1 S_law):=by
 have T:Txt mg:=⟨PySem.W.mg_none_of X G z_isinstance,PySem.W.mg_none_of X G z_int,PySem.W.mg_none_of X G z_bool,PySem.W.mg_none_of X G z_tuple,PySem.W.mg_none_of X G z_len,PySem.W.mg_none_of X G z_str,PySem.W.mg_none_of X G z_all,PySem.W.mg_none_of X G z_set,PySem.W.mg_none_of X G z_range,PySem.W.mg_none_of X G z_sorted,PySem.W.mg_none_of X G z_any,PySem.W.mg_none_of X G z_ValueError,PySem.W.mg_none_of X G z_list,⟨_,PySem.W.mg_of X G z_SMALL_LETTERS⟩,⟨_,PySem.W.mg_of X G z_MOST_LETTERS⟩,⟨_,PySem.W.mg_of X G z_MOST_PAIRS⟩,⟨_,PySem.W.mg_of X G z_MOST_TURN⟩,⟨_,PySem.W.mg_of X G z_MOST_ENTRIES⟩,⟨_,PySem.W.mg_of X G z_MOST_KINDS⟩,⟨_,PySem.W.mg_of X G z_MOST_SIGNS⟩⟩;have Y:zF K mg C W:=⟨⟨PySem.W.mg_of X G aC,kC,⟨_,_,_,_,_,_,_,_,_,_,_,_,_,_,_,_,_,_,_,_,lC,nC,hC⟩,⟨_,_,_,_,_,_,_,_,_,lW,nW,hW⟩⟩,PySem.W.mg_of X G aW,⟨_,_,_,_,_,_,_,_,_,_,_,_,_,_,_,_,_,lC,by simp⟩,⟨_,_,_,_,_,_,_,_,_,_,_,_,_,_,_,_,_,lW,by decide⟩,⟨i1,i7,i8,i2,i3,i4,i5,i6⟩,kV,⟨_,PySem.W.mg_of X G a_NoDrawing,k_NoDrawing⟩,⟨_,PySem.W.mg_of X G a_NoText,k_NoText⟩,⟨_,PySem.W.mg_of X G a_NoWord,k_NoWord⟩,⟨_,PySem.W.mg_of X G a_NoWorld,k_NoWorld⟩,⟨_,PySem.W.mg_of X G a_NoLexicon,k_NoLexicon⟩⟩;refine Di X G hfa x36 (fun _ _ _ _ _ _ _=>rfl) fun base=>?_;have ga1:=fg X G x0 (mV (P:=l.prog) (w:=w) (base:=base) x0.F T ) (bd1 x0.F fun _ _ _ _ _ _ _=>rfl);have G0:=fg X G x1 (jJ (P:=l.prog) (w:=w) (base:=base) x1.F T ) (bd2 x1.F fun _ _ _ _ _ _ _ _=>rfl);have G2:=fg X G x2 (hV (P:=l.prog) (w:=w) (base:=base) x2.F T ) (bd1 x2.F fun _ _ _ _ _ _ _=>rfl);have G8:=fg X G x3 (iN (P:=l.prog) (w:=w) (base:=base) x3.F T ) (bd2 x3.F fun _ _ _ _ _ _ _ _=>rfl);have G5:=fg X G x4 (kH (P:=l.prog) (w:=w) (base:=base) x4.F T ) (bd1 x4.F fun _ _ _ _ _ _ _=>rfl);have gb1:=fg X G x5 (sx (P:=l.prog) (w:=w) (base:=base) x5.F T ) (bd2 x5.F fun _ _ _ _ _ _ _ _=>rfl);have Y6:=fg X G x6 (pf (P:=l.prog) (w:=w) (base:=base) x6.F T ) (bd2 x6.F fun _ _ _ _ _ _ _ _=>rfl);have gb0:=fg X G x7 (rV (P:=l.prog) (w:=w) (base:=base) x7.F T ) (bd2 x7.F fun _ _ _ _ _ _ _ _=>rfl);have ga9:=fg X G x8 (vq (P:=l.prog) (w:=w) (base:=base) x8.F T ) (bd3 x8.F fun _ _ _ _ _ _ _ _ _=>rfl);have gb5:=fg X G x9 (vU (P:=l.prog) (w:=w) (base:=base) x9.F T ) (bd3 x9.F fun _ _ _ _ _ _ _ _ _=>rfl);have G1:=fg X G x10 (oQ (P:=l.prog) (w:=w) (base:=base) x10.F T G2) (bd1 x10.F fun _ _ _ _ _ _ _=>rfl);have Y5:=fg X G x11 (og (P:=l.prog) (w:=w) (base:=base) x11.F T G8) (bd3 x11.F fun _ _ _ _ _ _ _ _ _=>rfl);have ga6:=fg X G x12 (pF (P:=l.prog) (w:=w) (base:=base) x12.F T ga1) (bd1 x12.F fun _ _ _ _ _ _ _=>rfl);have G7:=fg X G x13 (qC (P:=l.prog) (w:=w) (base:=base) x13.F T ga9) (bd3 x13.F fun _ _ _ _ _ _ _ _ _=>rfl);have ga2:=fg X G x14 (oz (P:=l.prog) (w:=w) (base:=base) x14.F T gb1 gb0 Y6 gb5) (bd1 x14.F fun _ _ _ _ _ _ _=>rfl);have ga3:=fg X G x15 (oX (P:=l.prog) (w:=w) (base:=base) x15.F T G0 G1) (bd1 x15.F fun _ _ _ _ _ _ _=>rfl);have ga5:=fg X G x16 (oE (P:=l.prog) (w:=w) (base:=base) x16.F T G0 G1 ga6) (bd1 x16.F fun _ _ _ _ _ _ _=>rfl);have Y3:=fg X G x17 (ku (P:=l.prog) (w:=w) (base:=base) x17.F T Y5) (bd4 x17.F fun _ _ _ _ _ _ _ _ _ _=>rfl);have gb3:=fg X G x18 (vy (P:=l.prog) (w:=w) (base:=base) x18.F T G7) (bd2 x18.F fun _ _ _ _ _ _ _ _=>rfl);have ga0:=fg X G x19 (mW (P:=l.prog) (w:=w) (base:=base) x19.F T ga3) (bd1 x19.F fun _ _ _ _ _ _ _=>rfl);have ga8:=fg X G x20 (pK (P:=l.prog) (w:=w) (base:=base) x20.F T ga5) (bd1 x20.F fun _ _ _ _ _ _ _=>rfl);have G3:=fg X G x21 (qf (P:=l.prog) (w:=w) (base:=base) x21.F T Y3) (bd3 x21.F fun _ _ _ _ _ _ _ _ _=>rfl);have gb2:=fg X G x22 (sj (P:=l.prog) (w:=w) (base:=base) x22.F T gb3 G7) (bd2 x22.F fun _ _ _ _ _ _ _ _=>rfl);have ga4:=fg X G x23 (oN (P:=l.prog) (w:=w) (base:=base) x23.F T ga8) (bd1 x23.F fun _ _ _ _ _ _ _=>rfl);have G4:=fg X G x24 (kJ (P:=l.prog) (w:=w) (base:=base) x24.F T G3) (bd2 x24.F fun _ _ _ _ _ _ _ _=>rfl);have gb4:=fg X G x25 (xb (P:=l.prog) (w:=w) (base:=base) x25.F T gb2) (bd1 x25.F fun _ _ _ _ _ _ _=>rfl);have Y7:=fg X G x26 (lI (P:=l.prog) (w:=w) (base:=base) x26.F T G5 ga4) (bd1 x26.F fun _ _ _ _ _ _ _=>rfl);have G6:=fg X G x27 (eW (P:=l.prog) (w:=w) (base:=base) x27.F T G4) (bd2 x27.F fun _ _ _ _ _ _ _ _=>rfl);have Y9:=fg X G x28 (mN (P:=l.prog) (w:=w) (base:=base) x28.F T G0 G2 Y7) (bd1 x28.F fun _ _ _ _ _ _ _=>rfl);have Y4:=fg X G x29 (kF (P:=l.prog) (w:=w) (base:=base) x29.F T G6 G4) (bd2 x29.F fun _ _ _ _ _ _ _ _=>rfl);have Y0:=fg X G x30 (jQ (P:=l.prog) (w:=w) (base:=base) x30.F T G5 Y9) (bd1 x30.F fun _ _ _ _ _ _ _=>rfl);have Y1:=fg X G x31 (jF (P:=l.prog) (w:=w) (base:=base) x31.F T Y4) (bd2 x31.F fun _ _ _ _ _ _ _ _=>rfl);have Y2:=fg X G x32 (ko (P:=l.prog) (w:=w) (base:=base) x32.F T G0 ga0 G1 Y0) (bd1 x32.F fun _ _ _ _ _ _ _=>rfl);have G9:=fgX X G x33 (iR (P:=l.prog) (w:=w) (base:=base) x33.F T Y Y2) (bd2 x33.F fun _ _ _ _ _ _ _ _=>rfl);have Y8:=fgX X G x34 (lj (P:=l.prog) (w:=w) (base:=base) x34.F T Y G9 Y1) (bd1 x34.F fun _ _ _ _ _ _ _=>rfl);have ga7:=fg X G x35 (u0 (P:=l.prog) (w:=w) (base:=base) x35.F T Y Y8) (bd1 x35.F fun _ _ _ _ _ _ _=>rfl);exact BX x36.F T ga2 gb4 ga7
end My
namespace PySem.W.Fast
def tw10004764654781570876:=Nat
def tw10060707760938934113:=Nat
def tw10077580612233947514:=Nat
def tw10089643460015505707:=Nat
def tw10219073209973227281:=Nat
def tw10578080802386033893:=Nat
def tw10635296692943360166:=Nat
def tw10688651154044201240:=Nat
def tw10725788797460815307:=Nat
def tw10749606173994350337:=Nat
def tw10823072847719147409:=Nat
def tw10859089079883777437:=Nat
def tw10976602232802410483:=Nat
def tw10987637347157385629:=Nat
def tw11048796925386458478:=Nat
def tw11474399324535599848:=Nat
def tw11707824411180338680:=Nat
def tw11721065507363099785:=Nat
def tw11730548371394679120:=Nat
def tw11776734106442793665:=Nat
def tw1181776159284991348:=Nat
def tw11857920101428084398:=Nat
def tw11923390642265803366:=Nat
def tw11961669798162597951:=Nat
def tw12044018479454950290:=Nat
def tw12056001099427042989:=Nat
def tw12080058273238922893:=Nat
def tw12133345027724071479:=Nat
def tw12302653308057263190:=Nat
def tw12413325904779154485:=Nat
def tw12467055997308493716:=Nat
def tw12484640353341077195:=Nat
def tw12540150767363969360:=Nat
def tw12560820663772529750:=Nat
def tw12611197586432931110:=Nat
def tw12757554394522236584:=Nat
def tw12849966525869032226:=Nat
def tw12875011200991021429:=Nat
def tw1312415769150494779:=Nat
def tw13512969041072144934:=Nat
def tw13516709086627974643:=Nat
def tw13540978720468390470:=Nat
def tw13680966041717941180:=Nat
def tw13727610595303001741:=Nat
def tw13785613547429638656:=Nat
def tw13797367827677837564:=Nat
def tw13860737397213586832:=Nat
def tw13869319132272951136:=Nat
def tw13961379085636431771:=Nat
def tw14014576818914237701:=Nat
def tw14015570664100152951:=Nat
def tw14052590874863021066:=Nat
def tw14056429162123743509:=Nat
def tw14144102497995602310:=Nat
def tw1414535620335435115:=Nat
def tw1415707733045754695:=Nat
def tw14281804990189932979:=Nat
def tw14294911334271170836:=Nat
def tw14357206305320610115:=Nat
def tw14498659834851851654:=Nat
def tw14500291736376124245:=Nat
def tw14517471040925864270:=Nat
def tw1460571797258677276:=Nat
def tw14614289871807453079:=Nat
def tw14795532423466890608:=Nat
def tw14851506309379123675:=Nat
def tw1489872826211019131:=Nat
def tw14899695234467674668:=Nat
def tw14915022126564898997:=Nat
def tw15013678842095902979:=Nat
def tw15095840210825701609:=Nat
def tw15138317309372474243:=Nat
def tw15164076099297721264:=Nat
def tw15246128999604828359:=Nat
def tw15311663308076862390:=Nat
def tw15580142578742405365:=Nat
def tw15609846818341714326:=Nat
def tw15686778570043800380:=Nat
def tw15804240621515280621:=Nat
def tw15972263453518295476:=Nat
def tw16117504618868841207:=Nat
def tw16320987006944209154:=Nat
def tw16330178768598209599:=Nat
def tw16431441776209235116:=Nat
def tw1644079268057610711:=Nat
def tw16445059155855404264:=Nat
def tw16500503794215169997:=Nat
def tw1666749684427875130:=Nat
def tw16710341984142181733:=Nat
def tw16791806968443898351:=Nat
def tw16806767372622491494:=Nat
def tw16814775150239230721:=Nat
def tw16816599576821228173:=Nat
def tw16852416508036722962:=Nat
def tw16877602790588031885:=Nat
def tw17032878048179744903:=Nat
def tw17141466066111449760:=Nat
def tw17262197203247498198:=Nat
def tw17273781539151987952:=Nat
def tw17515030350970631586:=Nat
def tw1755444083568901650:=Nat
def tw17738454810405071810:=Nat
def tw17747550640411336089:=Nat
def tw17762524677611821117:=Nat
def tw17918058795185950460:=Nat
def tw17999745263076662913:=Nat
def tw18253960792938105739:=Nat
def tw18280488052077375093:=Nat
def tw18357830634250135362:=Nat
def tw1999333722634534268:=Nat
def tw2034250537161321751:=Nat
def tw2075208985941839149:=Nat
def tw2120787746388610953:=Nat
def tw2168412821757743096:=Nat
def tw2222735051723868939:=Nat
def tw2341369013425892832:=Nat
def tw2623740607351768188:=Nat
def tw2648499771032565591:=Nat
def tw2661484698433219747:=Nat
def tw2777261660498964185:=Nat
def tw2854858301467432176:=Nat
def tw2865544636104797871:=Nat
def tw2885211560920510029:=Nat
def tw2889066102665220201:=Nat
def tw2889274723155778465:=Nat
def tw290785916852270699:=Nat
def tw2979982421288259969:=Nat
def tw3023074937270391933:=Nat
def tw306704754702736096:=Nat
def tw3100107757575526918:=Nat
def tw3134027409106799651:=Nat
def tw3484362186097488257:=Nat
def tw3587666258986542513:=Nat
def tw3763693840974346096:=Nat
def tw3769319795534471262:=Nat
def tw4010487210698195873:=Nat
def tw4035732252685730079:=Nat
def tw4115479092130718413:=Nat
def tw4156806290493435410:=Nat
def tw4458712631614158770:=Nat
def tw4528213606171130743:=Nat
def tw4530919173266708177:=Nat
def tw4543204763785426691:=Nat
def tw4608061852029796738:=Nat
def tw466006694602029915:=Nat
def tw4668374507667547799:=Nat
def tw4774678176184252010:=Nat
def tw4866872349334279740:=Nat
def tw4940789867430882089:=Nat
def tw4942296823599894656:=Nat
def tw5027047132482987260:=Nat
def tw5034326878560016791:=Nat
def tw5094073381124809477:=Nat
def tw5219944055280132946:=Nat
def tw535875844572453861:=Nat
def tw5417494178385111858:=Nat
def tw5433047390497127215:=Nat
def tw5437850769730640979:=Nat
def tw5545480080500643584:=Nat
def tw5612891430145846025:=Nat
def tw5703421862088606128:=Nat
def tw578347052309134790:=Nat
def tw5837354687237828172:=Nat
def tw5924000683108052556:=Nat
def tw6037818734386722912:=Nat
def tw6253871373487103254:=Nat
def tw6282989534739648198:=Nat
def tw6438734308328451382:=Nat
def tw6473286563636406039:=Nat
def tw6581951303521538841:=Nat
def tw6593220308640765566:=Nat
def tw6676697453762639169:=Nat
def tw6687450554786034327:=Nat
def tw6687865757241404562:=Nat
def tw6706676459578177401:=Nat
def tw6930142047169094046:=Nat
def tw708347826196458551:=Nat
def tw7183795261069664788:=Nat
def tw7299896654251291545:=Nat
def tw7327085674991167137:=Nat
def tw7402193489273417817:=Nat
def tw7543055774071078760:=Nat
def tw7549875656440263324:=Nat
def tw7593155312860981703:=Nat
def tw7802343711748867952:=Nat
def tw7972064573417579795:=Nat
def tw8012776143084060365:=Nat
def tw8099026030355273158:=Nat
def tw8103405757057447667:=Nat
def tw8106439448354457175:=Nat
def tw8197308948886539401:=Nat
def tw8307409100360433560:=Nat
def tw8356661426784394186:=Nat
def tw8415296586908507915:=Nat
def tw8426200598458623168:=Nat
def tw8530996693085326047:=Nat
def tw8577205269943807765:=Nat
def tw8595334981415197642:=Nat
def tw8682957313163371622:=Nat
def tw8764007287661954356:=Nat
def tw878342889472541285:=Nat
def tw8814206751611282200:=Nat
def tw8823104848208008161:=Nat
def tw9021000260352285207:=Nat
def tw9023304501482392564:=Nat
def tw9120205903832046430:=Nat
def tw9457315918767550163:=Nat
def tw9478576010346036247:=Nat
def tw9584783524468082270:=Nat
def tw9617254281511572450:=Nat
def tw9661738370944289641:=Nat
def tw9691260043735645046:=Nat
def tw9736119890430366236:=Nat
def tw9750648369784659367:=Nat
def tw987062829075145029:=Nat
end PySem.W.Fast
open PySem PySem.W PyProof.Rows
set_option maxRecDepth 100000 in
set_option maxHeartbeats 0 in
theorem PySem.Challenge.cw_wordwishes_k53_lexicons_shortened_holds : PySem.Challenge.rw_wordwishes_k53_lexicons_shortened.Holds := by
 w_on;o_law;z_head;(case hw=>w_witness2)
 k_fill
 refine L2.yg (fun _=>rfl) ?_;refine L2.Ea (S:=My.S_law) My.D8 (k:=13) (x:="_law_script") (l:=PySem.Challenge.rw_wordwishes_k53_lexicons_shortened) ⟨rfl,by decide,by decide⟩ rfl rfl (fun w h Y=>Y) ?F
 case F =>
  intro w mg fa h KX G hmg
  refine' My.B0 KX G hmg ?_ ?_ ?_ ?_ ?_ ?_ ?_ ?_ ?_ ?_ ?_ ?_ ?_ ?_ ?_ ?_ ?_ ?_ ?_ ?_ ?_ ?_ ?_ ?_ ?_ ?_ ?_ ?_ ?_ ?_ ?_ ?_ ?_ ?_ ?_ ?_ ?_ ?_ ?_ ?_ ?_ ?_ ?_ ?_ ?_ ?_ ?_ ?_ ?_ ?_ ?_ ?_ ?_ ?_ ?_ ?_ ?_ ?_ ?_ ?_ ?_ ?_ ?_ ?_ ?_ ?_ ?_ ?_ ?_ ?_ ?_ ?_ ?_ ?_ ?_ ?_ ?_ ?_ ?_ ?_ ?_ ?_ ?_ ?_ ?_
  all_goals try first|exact L2.Fh (by k_is) (by k_is) (by k_is) (by k_is)|exact L2.vZ (by k_is) (by k_is) (by k_is)|k_is|exact rfl
