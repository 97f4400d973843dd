import PyProof.Rows.All
import Wide.All
import OpenK.AllK
import Wide.FinOn
import Lean
import PyProof.EqAt
import PyProof.EqKinds
import PyProof.TupleCall
import KE.KRevIter
import PyProof.NeKinds
import PyProof.Draws
import PyProof.EnumMake
import KE.KSortTup
import PyProof.ZipIter
import KE.KDictList
import PyProof.AttrMissHeap
import KE.KDictOf
import PyProof.Rows.SetFrom
import PyProof.Rows.SortRunsK
import PyProof.IsRules
import PySem.Challenge.RW_wordwishes_k18_why_a_row_does_not_cancel
set_option Elab.async false
set_option linter.all false
set_option maxRecDepth 100000
set_option maxHeartbeats 4000000
set_option bootstrap.genMatcherCode false
set_option compiler.extract_closed false
noncomputable section
open PySem.W renaming Frag->o0,cellsFrom_some->M0,keepIn->S7,fnOf->U8
open PySem renaming Value->s0,Shared->u8,sizeLine->E9,wpAny_bind->F0,Addr->F5,wpAny_pure->F9,starEach->I0,Expr->J0,NameKind->J3,wpAny->J5,mem_of_lookup->J6,model->J9,Program->K2,Heap->K3,Builtin->K4,compareOp->L3,wpAny_mono->L4,Around->L8,foldedSetIterable->M9,World->N4,binaryOp->N5,cellsFrom->N6,assignEach->N7,wpAny_newObj_type->N9,Paired->O4,Scope->O9,FuncData->P3,sysModules->P5,wpAny_truthy_bool->P6,wpAny_passesOwn->P8,wpAny_comprehension_free->Q0,bootBuiltins->Q4,mainGlobals->Q5,behindInMarks->Q7,wpAny_getItem_str_slice->R3,Spec->R5,tupleKind_room_in1->R7,letOwnedTupleGo->S0,wpAny_holding->S1,backTo->T4,assign->T5,wpAny_standAt->T6,eval->U0,sliceBounds->U1,newFunctionEnv->U5,swapsWith->U6,codeAny->V0,Comprehension->V2,wpAny_execs_nil->V4,cLine->V6,relabel->V9,post_val_or_str->W0,getItem->W6,attributeBase->W7,tupleKind->X0,Stmt->X1,Keyword->X4,typeIs_int->X8,call_meets->X9,holding->Z3,IsRangeIter->Z4,subscripted->Z5,keywordEach->Z6,callerA->Z7,IsPart->aa0,valueAt->aa2,Operator->aa3,compEnvC->aa4,inplaceOp->aa5,PassesOwn->aa6,Result->aa7,BindsTo->aa8,CmpOp->ab1
open PySem.Heap renaming get?_push_of_some->E8,lt_size->F2,get?_push_size->H0,SameBut->R8,size_push->S8
open List renaming size_toArray->F1,mem_append_right->F6,replicate->F8,lookup_cons->J1,mem_cons_of_mem->K5,getElem?_append_left->K6,map_cons->K7,length_append->L1,mem_cons_self->L5,getElem?_eq_some_iff->M7,getElem?_map->N8,replicate_succ->O0,any_cons->O1,find?_cons->O5,getElem?_set_self->O6,getElem?_append_right->O7,all_eq_true->O8,mem_cons->P0,mem_singleton->P1,flatten_cons->P9,filterMap_cons->Q6,getElem?_replicate->R0,length_cons->R4,mem_filterMap->R6,getElem?_set_ne->S6,mem_append->T0,nodup_cons->T7,length_map->T8,all_cons->T9,reverse_cons->U2,range->V3,length_nil->V5,append_nil->V7,length->W5,lookup->Z8,foldl->aa1
open Nat renaming le_refl->F3,lt_of_lt_of_le->F4,ne_of_lt->F7,lt_succ_of_lt->J7,le_trans->K0,lt_irrefl->M8,lt_succ_self->O3,zero_le->R1,ne_of_gt->R9,le_of_lt->S9,le_of_succ_le->U4,le_succ->W9
open Option.some renaming inj->J4
open Bool renaming and_eq_true->J8,false_ne_true->L9,false_eq_true->N3
open PySem.NameKind renaming free->K1,cell->O2
open Option renaming some->K8,isSome_iff_exists->N0,map_some->Q3
open PyProof.Rows renaming slot_tuple_getitem->K9,AllBare->W1,kindOf->W3,envOfC->Z9,IsTup->ab0
open PySem.Builtin.Tuple renaming tupleExact->L6
open PySem.SeqAt renaming EqAt->L7
open PySem.Builtin.Range renaming rangeSize->N1
open ForInStep renaming yield->N2
open PySem.Builtin.Slice renaming slicePlaces->P2
open PySem.Value renaming ref->P4
open False renaming elim->P7
open Array renaming length_toList->Q8
open PySem.Builtin.Str renaming occurrences->Q9
open True renaming intro->U3
open Int renaming le_of_lt->U7
open Pure renaming pure->U9
open PySem.Paired renaming length->V1
open PySem.F renaming slot_int_rmul->V8
open Ne renaming symm->W4
open PySem.Code renaming compLoop->W8
open PySem.Txt renaming slice->X5,slice_le->X6
open PySem.Obj renaming mapSeq->X7
open Sum renaming inl->Z0,inr->Z1
open LawfulMonad renaming pure_bind->aa9
set_option compiler.extract_closed false
namespace L2
open PySem PySem.Spec PyProof.Rows
abbrev Key:=Sum Int Str
def j4:Key->s0->Bool
 |.inl k,v=>s0.isInt k v
 |.inr x,v=>s0.isStrOf x v
noncomputable def EG(w:N4):Key->Int
 |.inl k=>hashInt k
 |.inr x=>hashStr w x
theorem aZ:∀{k:Key}{v:s0},j4 k v=true->(∃i t,k=Z0 i/\v=s0.int i t)∨(∃x t,k=Z1 x/\v=s0.str x t)
 |.inl i,v,h=>by
  obtain⟨t,e⟩:=s0.isInt_shape (k:=i) (v:=v) h;exact .inl ⟨i,t,rfl,e⟩
 |.inr x,v,h=>by
  obtain⟨t,e⟩:=s0.isStrOf_shape (x:=x) (v:=v) h;exact .inr ⟨x,t,rfl,e⟩
theorem tF(i:Int) (t:Tok):j4 (.inl i) (.int i t)=true:=by simp[j4,s0.isInt]
theorem uk(x:Str) (t:Tok):j4 (.inr x) (.str x t)=true:=by simp[j4,s0.isStrOf]
theorem Ao(a b:Int):decide ((Z0 a:Key)=Z0 b)=(a==b):=by
 by_cases e:a=b
 ·subst e;simp
 ·have h:¬ (Z0 a:Key)=Z0 b:=fun q=>e (Z0.inj q);rw[decide_eq_false h];exact(beq_eq_false_iff_ne.mpr e).symm
theorem AE(a b:Str):decide ((Z1 a:Key)=Z1 b)=decide (a=b):=by
 by_cases e:a=b
 ·subst e;simp
 ·have h:¬ (Z1 a:Key)=Z1 b:=fun q=>e (Z1.inj q);rw[decide_eq_false h,decide_eq_false e]
theorem Bu(a:Int) (b:Str):decide ((Z0 a:Key)=Z1 b)=false:=decide_eq_false (fun q=>nomatch q)
theorem Aa(a:Str) (b:Int):decide ((Z1 a:Key)=Z0 b)=false:=decide_eq_false (fun q=>nomatch q)
def aI(prog:K2) (w:N4):PySem.KeyKind prog w Key where
 is:=j4
 hash:=EG w
 inj:=fun v a b ha hb=>by
  rcases aZ ha with⟨i,t,rfl,rfl⟩|⟨x,t,rfl,rfl⟩
  ·rcases aZ hb with⟨j,u,rfl,e⟩|⟨y,u,rfl,e⟩
   ·injection e with e1 _;rw[e1]
   ·exact nomatch e
  ·rcases aZ hb with⟨j,u,rfl,e⟩|⟨y,u,rfl,e⟩
   ·exact nomatch e
   ·injection e with e1 _;rw[e1]
 byValue:=fun k v h=>by
  rcases aZ h with⟨i,t,rfl,rfl⟩|⟨x,t,rfl,rfl⟩<;>rfl
 pyHash:=fun hv h=>by
  rcases aZ hv with⟨i,t,rfl,rfl⟩|⟨x,t,rfl,rfl⟩
  ·exact wpAny_pyHash_int h
  ·exact wpAny_pyHash_str h
 eqBool:=fun hu hv h=>by
  rcases aZ hu with⟨i,t,rfl,rfl⟩|⟨x,t,rfl,rfl⟩
  ·rcases aZ hv with⟨j,u,rfl,rfl⟩|⟨y,u,rfl,rfl⟩
   ·rw[Ao]at h;exact wpAny_eqBool_int h
   ·rw[Bu]at h;exact L7.int_str i t y u _ _ _ _ h
  ·rcases aZ hv with⟨j,u,rfl,rfl⟩|⟨y,u,rfl,rfl⟩
   ·rw[Aa]at h;exact L7.str_int x t j u _ _ _ _ h
   ·rw[AE]at h;exact wpAny_eqBool_str h
 «strs»:=fun k x t v h=>by
  rcases aZ h with⟨i,u,rfl,e⟩|⟨y,u,rfl,e⟩
  ·exact nomatch e
  ·injection e with e1 _
   subst e1;cases v<;>rfl
theorem oP(prog:K2) (w:N4) (i:Int) (t:Tok):(aI prog w).is (.inl i) (.int i t)=true:=tF i t
theorem oO(prog:K2) (w:N4) (x:Str) (t:Tok):(aI prog w).is (.inr x) (.str x t)=true:=uk x t
inductive V where
 |non|bl (b:Bool)|int (i:Int)|str (x:Str)|byt (b:Array UInt8)|flt (b:UInt64)|ref (a:F5)|ty (n:String)
 deriving DecidableEq
def aA:V->s0->Prop
 |.non,u=>u=s0.none
 |.bl b,u=>u=s0.bool b
 |.int i,u=>∃t,u=s0.int i t
 |.str x,u=>∃t,u=s0.str x t
 |.byt b,u=>∃t,u=s0.bytes b t
 |.flt b,u=>∃t,u=s0.float b t
 |.ref a,u=>u=P4 a
 |.ty n,u=>u=s0.type n
abbrev av:List V->List s0->Prop:=O4 aA
theorem av.length{xs:List V}{us:List s0}(r:av xs us):xs.length=us.length:=V1 r
theorem av.get:∀{xs:List V}{us:List s0}{i:Nat}{x:V},av xs us->xs[i]?=some x->∃u,us[i]?=some u/\aA x u
 |_,_,_,_,.nil,e=>by simp at e
 |_,_,0,_,.cons r _,e=>by simp at e;subst e;exact⟨_,rfl,r⟩
 |_,_,i+1,x,.cons _ t,e=>by
  obtain⟨u,h1,h2⟩:=av.get (i:=i) (x:=x) t (by simpa using e);exact⟨u,by simpa using h1,h2⟩
theorem av.set{x:V}{u:s0}(r:aA x u):∀{xs:List V}{us:List s0}(i:Nat),av xs us->av (xs.set i x) (us.set i u)
 |_,_,_,.nil=>.nil
 |_,_,0,.cons _ t=>.cons r t
 |_,_,i+1,.cons q t=>.cons q (av.set r i t)
theorem av.append:∀{xs ys:List V}{us ws:List s0},av xs us->av ys ws->av (xs++ys) (us++ws)
 |_,_,_,_,.nil,s=>s
 |_,_,_,_,.cons r t,s=>.cons r (av.append t s)
theorem av.take:∀{xs:List V}{us:List s0}(n:Nat),av xs us->av (xs.take n) (us.take n)
 |_,_,0,_=>.nil
 |_,_,_+1,.nil=>.nil
 |_,_,n+1,.cons r t=>.cons r (av.take n t)
theorem av.drop:∀{xs:List V}{us:List s0}(n:Nat),av xs us->av (xs.drop n) (us.drop n)
 |_,_,0,r=>r
 |_,_,_+1,.nil=>.nil
 |_,_,n+1,.cons _ t=>av.drop n t
def jt:Option V->Option s0->Prop
 |some v,some u=>aA v u
 |none,none=>True
 |_,_=>False
def KV{κ:Type}:List (κ×V)->List (κ×s0)->Prop:=O4 fun(p:κ×V) (q:κ×s0)=>p.1=q.1/\aA p.2 q.2
def kV:Key->V
 |.inl i=>.int i
 |.inr x=>.str x
inductive HO where
 |lst (xs:List V)
 |tup (xs:List V)
 |dK (kvs:List (Key×V))|dT (kvs:List (List Key×V))
 |set (S:Int->Bool) (n:Nat)
 |ins (C dx:F5) (fs:List (Str×V))
 |own (x:F5)
 |xd (fs:List (Str×V))
 |met (f x:F5)
 |rng (lo hi:Int)
 |frz (o:Obj) (u:HO)
 |tbl (ps:Array s0)
 |ext (φ:K3->Prop)
abbrev Hp:=F5->Option HO
def upd(H:Hp) (a:F5) (o:HO):Hp:=fun b=>if b=a then some o else H b
theorem az{H:Hp}{a:F5}{o:HO}:upd H a o a=some o:=by unfold upd;rw[if_pos rfl]
theorem aw{H:Hp}{a b:F5}{o:HO}(h:b≠a):upd H a o b=H b:=by unfold upd;rw[if_neg h]
theorem zI{H:Hp}{a b:F5}{o u:HO}(h:H a=some o) (h':H b=some u) (d:o≠u):a≠b:=by
 intro e;subst e;rw[h]at h';exact d (J4 h')
theorem bD{H:Hp}{a b:F5}{o:HO}(h:H a=some o) (h':H b=none):a≠b:=by
 intro e;subst e;rw[h]at h';cases h'
def jr(h:K3) (a:F5) (xs:Array s0):Prop:=∃o,h.get? a=some o/\o.cls=.type "tuple"/\(∃n,o.data=.seq xs n)/\o.dict=none
theorem jr.tup{h:K3}{a:F5}{xs:Array s0}(x:jr h a xs):ab0 h a xs:=let⟨o,e,c,d,_⟩:=x;⟨o,e,c,d⟩
theorem jr.lt{h:K3}{a:F5}{xs:Array s0}(x:jr h a xs):a<h.objs.size:=let⟨_,e,_⟩:=x;F2 e
theorem jr.new(h:K3) (xs:Array s0):jr (h.push { cls:=.type "tuple",data:=.seq xs }) h.objs.size xs:=⟨_,H0 h rfl,rfl,⟨_,rfl⟩,rfl⟩
section
variable(P:K2) (w:N4)
def bK(H:Hp) (h:K3) (a:F5):HO->Prop
 |.lst xs=>xs.length<=E9/\∃(its:List s0) (n:Nat),av xs its/\h.get? a=some { cls:=.type "list",data:=.seq its.toArray n }
 |.tup xs=>xs.length<=E9/\∃its:List s0,av xs its/\jr h a its.toArray
 |.dK kvs=>kvs.length<=E9/\(a==P5)=false/\∃vs,KV kvs vs/\h.DictOf (aI P w) a vs
 | .dT kvs => kvs.length ≤ E9 ∧ (a == P5) = false ∧ ∃ xs:List (List Key × F5 × s0),
   O4 (fun(p:List Key×V) (q:List Key×F5×s0)=>p.1=q.1/\H q.2.1=some (.tup (p.1.map kV))/\aA p.2 q.2.2) kvs xs /\
   ∃o es ep,h.get? a=some o/\o.ExactDict/\o.data=.dict es ep/\es.toList=xs.map (entryOfKey (X0 (aI P w)))/\(xs.map (·.1)).Nodup
 |.set S n=>h.SetOf (intKind P w) a S n
 | .ins C dx fs => H dx = some (.own a) ∧ fs.length ≤ 1000 ∧ dx ≠ a ∧ h.get? a = some (PySem.W.instObj C dx) ∧
   ∃mA,h.Ns1 dx mA/\(∀f,jt (fs.lookup f) (mA f))/\PySem.Within mA (fs.map (·.1))
 |.own _=>∃o,h.get? a=some o
 |.xd fs=>∃mA,h.Ns1 a mA/\∀f,jt (fs.lookup f) (mA f)
 |.rng lo hi=>∃t u v,h.get? a=some { cls:=.type "range",data:=.fields #[.int lo t,.int hi u,.int 1 v] }
 |.frz o u=>h.get? a=some o/\bK H h a u
 |.tbl ps=>h.get? a=some { cls:=.none,data:=.fields ps }
 |.met f x=>h.get? a=some (PySem.W.methodObj (.ref f) (.ref x))
 |.ext φ=>φ h/\(∃o,h.get? a=some o)/\∀h1 h2:K3,φ h1->(∀o,h1.get? a=some o->h2.get? a=some o)->φ h2
def HOk(H:Hp) (h:K3):Prop:=∀a o,H a=some o->bK P w H h a o
end
section
variable{P:K2}{w:N4}{H H':Hp}{h h':K3}{a:F5}{o:HO}
theorem bK.lt(x:bK P w H h a o):a<h.objs.size:=by
 cases o with
 |lst xs=>obtain⟨_,_,_,_,e⟩:=x;exact F2 e
 |tup xs=>obtain⟨_,_,_,p⟩:=x;exact p.lt
 |dK kvs=>obtain⟨_,_,_,_,o,_,_,e,_⟩:=x;exact F2 e
 |dT kvs=>obtain⟨_,_,_,_,o,_,_,e,_⟩:=x;exact F2 e
 |set S n=>obtain⟨o,_,_,_,e,_⟩:=x;exact F2 e
 |ins C dx fs=>obtain⟨_,_,_,e,_⟩:=x;exact F2 e
 |own y=>obtain⟨_,e⟩:=x;exact F2 e
 |xd fs=>obtain⟨_,⟨_,_,_,e,_⟩,_⟩:=x;exact F2 e
 |rng lo hi=>obtain⟨_,_,_,e⟩:=x;exact F2 e
 |frz ob u=>obtain⟨e,_⟩:=x;exact F2 e
 |tbl ps=>exact F2 (show h.get? a=some _ from x)
 |met f y=>exact F2 (show h.get? a=some _ from x)
 |ext φ=>obtain⟨_,⟨_,e⟩,_⟩:=x;exact F2 e
theorem O4.mapP{α β:Type}{F G:α->β->Prop}:∀{l₁:List α}{l₂:List β},O4 F l₁ l₂->(∀a b,F a b->G a b)->O4 G l₁ l₂
 |_,_,.nil,_=>.nil
 |_,_,.cons r t,f=>.cons (f _ _ r) (O4.mapP t f)
theorem O4.imp'{α β:Type}{F G:α->β->Prop}(f:∀a b,F a b->G a b) {l₁:List α}{l₂:List β}(r:O4 F l₁ l₂):O4 G l₁ l₂:=O4.mapP r f
theorem bK.stay(x:bK P w H h a o) (k:∀b u,(b=a∨H b=some (.own a))->h.get? b=some u->h'.get? b=some u)
  (ho:∀b,H b=some (.own a)->H' b=some (.own a)) (ht:∀b xs,H b=some (.tup xs)->H' b=some (.tup xs)):bK P w H' h' a o:=by
 induction o with
 |lst xs=>obtain⟨z,its,n,r,e⟩:=x;exact⟨z,its,n,r,k _ _ (.inl rfl) e⟩
 |tup xs=>obtain⟨z,its,r,ob,e,c⟩:=x;exact⟨z,its,r,ob,k _ _ (.inl rfl) e,c⟩
 |dK kvs=>obtain⟨z,y,vs,r,ob,es,ep,e,c⟩:=x;exact⟨z,y,vs,r,ob,es,ep,k _ _ (.inl rfl) e,c⟩
 |dT kvs =>
  obtain⟨z,y,xs,r,ob,es,ep,e,c⟩:=x;exact⟨z,y,xs,O4.mapP r fun p q z=>⟨z.1,ht _ _ z.2.1,z.2.2⟩,ob,es,ep,k _ _ (.inl rfl) e,c⟩
 |set S n=>obtain⟨ob,es,ep,t,e,c⟩:=x;exact⟨ob,es,ep,t,k _ _ (.inl rfl) e,c⟩
 |ins C dx fs =>
  obtain⟨d,z,ne,e,mA,⟨od,es,ep,e2,c⟩,r⟩:=x;exact⟨ho _ d,z,ne,k _ _ (.inl rfl) e,mA,⟨od,es,ep,k _ _ (.inr d) e2,c⟩,r⟩
 |own y=>obtain⟨ob,e⟩:=x;exact⟨ob,k _ _ (.inl rfl) e⟩
 |xd fs=>obtain⟨mA,⟨od,es,ep,e,c⟩,r⟩:=x;exact⟨mA,⟨od,es,ep,k _ _ (.inl rfl) e,c⟩,r⟩
 |rng lo hi=>obtain⟨t,u,v,e⟩:=x;exact⟨t,u,v,k _ _ (.inl rfl) e⟩
 |frz ob u ih=>obtain⟨e,q⟩:=x;exact⟨k _ _ (.inl rfl) e,ih q⟩
 |tbl ps =>
  have e:h.get? a=some { cls:=.none,data:=.fields ps }:=x;show h'.get? a=some { cls:=.none,data:=.fields ps };exact k a _ (.inl rfl) e
 |met f y =>
  have e:h.get? a=some (PySem.W.methodObj (.ref f) (.ref y)):=x;show h'.get? a=some (PySem.W.methodObj (.ref f) (.ref y));exact k a _ (.inl rfl) e
 |ext φ=>obtain⟨p,⟨o,e⟩,st⟩:=x;exact⟨st _ _ p fun o q=>k _ _ (.inl rfl) q,⟨o,k _ _ (.inl rfl) e⟩,st⟩
theorem HOk.lt(x:HOk P w H h) (e:H a=some o):a<h.objs.size:=(x a o e).lt
theorem HOk.fresh(x:HOk P w H h) (e:h.objs.size<=a):H a=none:=by
 cases q:H a with
 |none=>rfl
 |some u=>exact absurd (F4 (x.lt q) e) (M8 _)
theorem HOk.kept(x:HOk P w H h) (k:∀b u,h.get? b=some u->h'.get? b=some u):HOk P w H h':=fun a o e =>
 (x a o e).stay (fun b u _ q=>k b u q) (fun _ q=>q) fun _ _ q=>q
theorem HOk.laid(x:HOk P w H h) (k:∀b u,h.get? b=some u->h'.get? b=some u) (hp:h.objs.size<=a) (new:bK P w (upd H a o) h' a o):HOk P w (upd H a o) h':=fun b u e=>by
 have hn:=x.fresh hp
 by_cases hb:b=a
 ·subst hb;rw[az]at e;cases e;exact new
 ·rw[aw hb]at e;exact(x b u e).stay (fun c v _ q=>k c v q) (fun c q=>by rw[aw (bD q hn)];exact q) fun c xs q=>by rw[aw (bD q hn)];exact q
end
def Rd(H:Hp) (a:F5) (u:HO):Prop:=H a=some u∨∃o,H a=some (.frz o u)
theorem Rd.of{H:Hp}{a:F5}{u:HO}(h:H a=some u):Rd H a u:=.inl h
theorem Rd.ok{P:K2}{w:N4}{H:Hp}{h:K3}{a:F5}{u:HO}(r:Rd H a u) (x:HOk P w H h):bK P w H h a u:=by
 rcases r with r|⟨o,r⟩
 ·exact x a u r
 ·obtain⟨_,q⟩:=x a _ r;exact q
def Mut:Option HO->Prop
 |some (.lst _)=>True
 |some (.dK _)=>True
 |some (.dT _)=>True
 |some (.set _ _)=>True
 |some (.ins _ _ _)=>True
 |some (.ext _)=>True
 |_=>False
section
variable{P:K2}{w:N4}{H:Hp}{h h':K3}{x e:F5}{o':HO}
theorem HOk.write(ok:HOk P w H h) (mu:Mut (H x)) (he:e=x∨H e=some (.own x)) (k:∀b u,b≠e->h.get? b=some u->h'.get? b=some u) (heo:∃u,h'.get? e=some u)
  (new:bK P w (upd H x o') h' x o'):HOk P w (upd H x o') h':=fun b u q=>by
 have nown:∀c y,H c=some (.own y)->c≠x:=fun c y r z=>by subst z;rw[r]at mu;exact mu
 have ntup:∀c xs,H c=some (.tup xs)->c≠x:=fun c xs r z=>by subst z;rw[r]at mu;exact mu
 by_cases hb:b=x
 ·subst hb;rw[az]at q;cases q;exact new
 ·rw[aw hb]at q
  by_cases hbe:b=e
  ·have q':H b=some (.own x):=by
    rcases he with z|z
    ·exact absurd (hbe.trans z) hb
    ·rw[hbe];exact z
   rw[q]at q';cases q';obtain⟨v,hv⟩:=heo;exact⟨v,by rw[hbe];exact hv⟩
  ·refine(ok b u q).stay (fun c v hc r=>k c v ?_ r) (fun c r=>by rw[aw (nown c b r)];exact r) fun c xs r=>by rw[aw (ntup c xs r)];exact r
   rcases hc with rfl|hc
   ·exact hbe
   ·rintro rfl;rcases he with z|z
    ·exact nown c b hc z
    ·rw[hc]at z;cases z;exact hb rfl
end
structure Un(fs ex:List F5) (H H':Hp) (h h':K3):Prop where
 keep:∀b o,h.get? b=some o->H b=none->b∉fs->b∉ex->h'.get? b=some o
 slot:∀b o,h.get? b=some o->H b=none->b∈fs->b∉ex->∃sl,h'.get? b=some { o with slots:=sl }
 free:∀b o,h.get? b=some o->H b=none->b∉ex->H' b=none
 there:∀b o,h.get? b=some o->b∉ex->∃o',h'.get? b=some o'
 tups:∀b xs,H b=some (.tup xs)->H' b=some (.tup xs)
 frzs:∀b o u,H b=some (.frz o u)->H' b=some (.frz o u)
 tbls:∀b ps,H b=some (.tbl ps)->∃more,H' b=some (.tbl (ps++more))
section
variable{fs fs' ex ex':List F5}{H H1 H2:Hp}{h h1 h2 h':K3}{a x e:F5}{o:HO}
theorem Un.any(u:Un fs ex H H1 h h1) {b:F5}{ob:Obj}(q:h.get? b=some ob) (n:H b=none) (hx:b∉ex):∃sl,h1.get? b=some { ob with slots:=sl }:=by
 by_cases hb:b∈fs
 ·exact u.slot b ob q n hb hx
 ·exact⟨ob.slots,u.keep b ob q n hb hx⟩
theorem Un.kept(k:∀b u,h.get? b=some u->h'.get? b=some u):Un fs ex H H h h' :=
 ⟨fun b ob q _ _ _=>k b ob q,fun b ob q _ _ _=>⟨ob.slots,k b ob q⟩,fun _ _ _ n _=>n,fun b ob q _=>⟨ob,k b ob q⟩,fun _ _ q=>q,fun _ _ _ q=>q,fun _ ps q=>⟨#[],by rw[q];simp⟩⟩
theorem Un.refl:Un fs ex H H h h:=Un.kept fun _ _ q=>q
theorem Un.laid(k:∀b u,h.get? b=some u->h'.get? b=some u) (hp:h.objs.size<=a) (hn:H a=none):Un fs ex H (upd H a o) h h' where
 keep:=fun b u q _ _ _=>k b u q
 slot:=fun b u q _ _ _=>⟨u.slots,k b u q⟩
 free:=fun b u q n _=>by rw[aw (F7 (F4 (F2 q) hp))];exact n
 there:=fun b u q _=>⟨u,k b u q⟩
 tups:=fun b xs q=>by rw[aw (bD q hn)];exact q
 frzs:=fun b u xs q=>by rw[aw (bD q hn)];exact q
 tbls:=fun b ps q=>⟨#[],by rw[aw (bD q hn),q];simp⟩
theorem Un.write(mu:Mut (H x)) (he:e=x∨H e=some (.own x)) (k:∀b u,b≠e->h.get? b=some u->h'.get? b=some u) (heo:∃u,h'.get? e=some u):Un fs ex H (upd H x o) h h':=by
 have hx:∀b,H b=none->b≠x:=fun b n z=>by subst z;rw[n]at mu;exact mu
 have hb:∀b,H b=none->b≠e:=fun b n z=>by
  subst z;rcases he with r|r
  ·exact hx b n r
  ·rw[n]at r;cases r
 have hm:∀b u,H b=some u->¬ Mut (some u)->b≠x:=fun b u q nm z=>by subst z;rw[q]at mu;exact nm mu
 refine⟨fun b u q n _ _=>k b u (hb b n) q,fun b u q n _ _=>⟨u.slots,k b u (hb b n) q⟩,fun b u q n _=>by rw[aw (hx b n)];exact n,fun b u q _=>?_,
  fun b xs q=>by rw[aw (hm b _ q fun z=>z)];exact q,fun b u xs q=>by rw[aw (hm b _ q fun z=>z)];exact q,fun b ps q=>⟨#[],by rw[aw (hm b _ q fun z=>z),q];simp⟩⟩
 by_cases hbe:b=e
 ·subst hbe;exact heo
 ·exact⟨u,k b u hbe q⟩
end
def trk(h:K3) (H:Hp):List F5:=(V3 h.objs.size).filter fun a=>(H a).isSome
def nk(h:K3) (H:Hp):K3:=PySem.W.hideAll h (trk h H)
theorem tZ(h:K3) (H:Hp):(nk h H).objs.size=h.objs.size:=PySem.W.hideAll_size _ _
theorem wB{h:K3}{H:Hp}{b:F5}{o:Obj}(e:h.get? b=some o) (n:H b=none):(nk h H).get? b=some o :=
 PySem.W.hideAll_get _ e fun hm=>by
  have q:(H b).isSome=true:=(List.mem_filter.mp hm).2;rw[n]at q;simp at q
theorem yV{h:K3}{H:Hp}{b:F5}{o:Obj}(e:(nk h H).get? b=some o):h.get? b=some o/\H b=none:=by
 have e':h.get? b=some o:=PySem.W.of_hideAll (trk h H) e;refine⟨e',?_⟩;cases q:H b with
 |none=>rfl
 |some x =>
  have hm:b∈trk h H:=List.mem_filter.mpr ⟨List.mem_range.mpr (F2 e'),by simp[q]⟩;have z:(nk h H).get? b=none:=PySem.W.hideAll_none (trk h H) hm;rw[z]at e;cases e
structure Mod(K:o0) (mg:Str->Option s0) (base:K3):Prop where
 kin:K.In base
 glob:base.Ns Q5 mg
 blt:∃mb,base.Ns builtinsNs mb/\∀x:Str,x≠"__name__"->mb x=Q4 x
 nolimit:base.NoLimit
structure Cx where
 prog:K2
 w:N4
 K:o0
 mg:Str->Option s0
 base:K3
 A:L8
 N:List Str
 s₀:u8
 H₀:Hp
 env:Env
 outer:List Env
 stack:List Env
 ex:List F5
 fn:Str->Bool
 calm:Bool
 pn:List (F5×Obj)
 xe:s0->u8->Prop
def frs(l:List Env):List F5:=l.filterMap (·.frame)
abbrev Cx.fs(X:Cx):List F5:=frs X.outer
def Vis(sc:O9) (x:Str):Prop:=sc.names.lookup x=some .local∨sc.names.lookup x=some .cell∨sc.names.lookup x=some .free
def Loc(sc:O9) (x:Str):Prop:=sc.names.lookup x=some .local∨sc.names.lookup x=some .cell
def ET(env:Env) (h:K3) (m:Str->Option s0) (x:Str) (u:s0):Prop :=
 (env.kindOf x=some .local/\m x=some u)∨((env.kindOf x=some .cell∨env.kindOf x=some .free)/\∃c,env.cells.lookup x=some c/\h.IsCell c (some u))
structure Cx.Ok(X:Cx):Prop where
 mod:Mod X.K X.mg X.base
 kind:X.env.scope.kind=.function
 glob:X.env.globals=Q5
 blt:X.env.builtins=builtinsNs
 above:X.s₀.heap.objs.size<=X.env.locals
 inj:∀x y c,X.env.cells.lookup x=some c->X.env.cells.lookup y=some c->x=y
 has:∀x,(X.env.kindOf x=some .cell∨X.env.kindOf x=some .free)->∃c,X.env.cells.lookup x=some c
 cab:∀x c,X.fn x=true->X.env.cells.lookup x=some c->X.s₀.heap.objs.size<=c
 hd:X.calm=true->X.A.handled=none
 frames:X.A.frames=some X.stack
 stk:X.stack=X.outer∨(X.stack=X.env::X.outer/\X.env.frame=some X.env.locals)
 exf:∀b∈X.ex,b≠X.env.locals/\∀x c,X.env.cells.lookup x=some c->c≠b
 bs:∀b o,X.base.get? b=some o->X.s₀.heap.get? b=some o/\X.H₀ b=none
 bsz:X.base.objs.size<=X.s₀.heap.objs.size
 noex:∀b o,X.base.get? b=some o->b∉X.ex
 exfs:∀b∈X.ex,b∉X.fs
 funs:X.s₀.heap.FunFrames X.base X.outer
 frf:∀b∈X.fs,X.H₀ b=none
structure Inv(X:Cx) (aa:List (F5×Obj)) (σ:List (Option V)) (H:Hp) (s:u8):Prop where
 ok:X.Ok
 os:s.os=X.s₀.os
 bare:W1 s.gens
 base:Un X.fs X.ex X.H₀ H X.s₀.heap s.heap
 loc:∃m,s.heap.Ns X.env.locals m/\∀(i:Nat) (x:Str) (v:V),X.N[i]?=some x->σ[i]?=some (some v)->Vis X.env.scope x->∃u,aA v u/\ET X.env s.heap m x u
 cell:∀x c,X.env.cells.lookup x=some c->∃v,s.heap.IsCell c v
 free:H X.env.locals=none
 freeC:∀x c,X.env.cells.lookup x=some c->H c=none
 pin:∀p∈X.pn++aa,s.heap.get? p.1=some p.2/\H p.1=none/\p.1≠X.env.locals/\p.1∉X.fs/\∀v,p.2.data≠.cell v
 hok:HOk X.prog X.w H s.heap
 len:σ.length=X.N.length
section
variable{X:Cx}{aa:List (F5×Obj)}{σ:List (Option V)}{H H':Hp}{s:u8}{h':K3}
theorem Cx.Ok.nofr(ok:X.Ok) {b:F5}{o:Obj}(e:X.base.get? b=some o):b∉X.fs:=fun hb=>by
 have:=(ok.funs.mem hb).1;rw[e]at this;cases this
theorem Inv.bs(I:Inv X aa σ H s):∀b o,X.base.get? b=some o->s.heap.get? b=some o/\H b=none:=fun b o e =>
 ⟨I.base.keep b o (I.ok.bs b o e).1 (I.ok.bs b o e).2 (I.ok.nofr e) (I.ok.noex b o e),I.base.free b o (I.ok.bs b o e).1 (I.ok.bs b o e).2 (I.ok.noex b o e)⟩
theorem Inv.bk(I:Inv X aa σ H s):∀b o,X.base.get? b=some o->s.heap.get? b=some o:=fun b o e=>(I.bs b o e).1
theorem Inv.mod(I:Inv X aa σ H s):Mod X.K X.mg X.base:=I.ok.mod
theorem Inv.kIn(I:Inv X aa σ H s):X.K.In s.heap:=I.ok.mod.kin.keeps I.bk
theorem Inv.lt(I:Inv X aa σ H s):X.env.locals<s.heap.objs.size:=let⟨_,hn,_⟩:=I.loc;hn.lt
theorem Inv.sz(I:Inv X aa σ H s):X.s₀.heap.objs.size<=s.heap.objs.size:=K0 I.ok.above (S9 I.lt)
theorem Inv.nofs(I:Inv X aa σ H s) {a:F5}(h:s.heap.objs.size<=a):a∉X.fs:=fun hb=>by
 obtain⟨_,o,ho,_⟩:=I.ok.funs.mem hb;exact absurd (F4 (F2 ho) (K0 I.sz h)) (M8 _)
theorem Inv.cne(I:Inv X aa σ H s):∀x c,X.env.cells.lookup x=some c->c≠X.env.locals:=fun x c e z=>by
 obtain⟨v,o,ho,hd⟩:=I.cell x c e;obtain⟨m,⟨o',es,ep,ho',hd',_⟩,_⟩:=I.loc;rw[z,ho']at ho;cases ho;rw[hd']at hd;cases hd
theorem Inv.funs(I:Inv X aa σ H s):s.heap.FunFrames X.base X.outer:=by
 have all:∀(l:List Env),(∀b∈frs l,b∈X.fs)->X.s₀.heap.FunFrames X.base l->s.heap.FunFrames X.base l:=by
  intro l
  induction l with
  |nil=>intro _ _;trivial
  |cons env r ih =>
   intro hs hl;obtain⟨hk,⟨L,o,hf,hn,ho,hd⟩,hr⟩:=hl;have hL:L∈X.fs:=hs L (by unfold frs;rw[Q6,hf];exact L5);obtain⟨sl,e⟩:=I.base.slot L o ho (I.ok.frf L hL) hL fun z=>I.ok.exfs L z hL;exact⟨hk,⟨L,_,hf,hn,e,hd⟩,ih (fun b hb=>hs b (by unfold frs;rw[Q6,hf];exact K5 _ hb)) hr⟩
 exact all X.outer (fun _ hb=>hb) I.ok.funs
theorem Inv.stack(I:Inv X aa σ H s):s.heap.FunFrames X.base X.stack:=by
 rcases I.ok.stk with e|⟨e,hf⟩
 ·rw[e];exact I.funs
 ·rw[e];obtain⟨m,hn,_⟩:=I.loc;refine .cons (by rw[I.ok.kind];decide) hf hn ?_ I.funs;exact K3.get?_none_of_le (K0 I.ok.bsz I.ok.above)
theorem Inv.stkSub(I:Inv X aa σ H s):∀b∈frs X.stack,b∈X.env.locals::X.fs:=fun b hb=>by
 rcases I.ok.stk with e|⟨e,hf⟩
 ·rw[e]at hb;exact K5 _ hb
 ·rw[e]at hb;unfold frs at hb;rw[Q6,hf]at hb;exact hb
theorem Inv.stkFree(I:Inv X aa σ H s):∀b∈frs X.stack,H b=none:=fun b hb=>by
 rcases P0.mp (I.stkSub b hb)with e|hb
 ·rw[e];exact I.free
 ·obtain⟨_,o,ho,_⟩:=I.ok.funs.mem hb;exact I.base.free b o ho (I.ok.frf b hb) fun z=>I.ok.exfs b z hb
theorem Inv.step{g':Array GenState}{t':Nat}{d':Drawn}{ch:List F5}(I:Inv X aa σ H s)
  (hch:∀b∈ch,(b∈X.ex∨X.s₀.heap.objs.size<=b)/\b≠X.env.locals/\(∀x c,X.env.cells.lookup x=some c->c≠b)/\∀p∈X.pn++aa,p.1≠b)
  (keep:∀b o,b≠X.env.locals->b∉X.fs->b∉ch->s.heap.get? b=some o->H b=none->h'.get? b=some o)
  (slot:∀b o,b≠X.env.locals->b∈X.fs->b∉ch->s.heap.get? b=some o->H b=none->∃sl,h'.get? b=some { o with slots:=sl }) (free:∀b o,b∉ch->s.heap.get? b=some o->H b=none->H' b=none)
  (there:∀b o,b∉ch->s.heap.get? b=some o->∃o',h'.get? b=some o')
  (tups:∀b xs,H b=some (.tup xs)->H' b=some (.tup xs)) (frzs:∀b o u,H b=some (.frz o u)->H' b=some (.frz o u)) (tbls:∀b ps,H b=some (.tbl ps)->∃more,H' b=some (.tbl (ps++more)))
  (ns:∀m,s.heap.Ns X.env.locals m->h'.Ns X.env.locals m) (hok:HOk X.prog X.w H' h') (hg:W1 g') :
  Inv X aa σ H' { s with heap:=h',gens:=g',drawn:=d',toks:=t' }:=by
 have neL:∀b o,X.s₀.heap.get? b=some o->b≠X.env.locals:=fun b o e=>F7 (F4 (F2 e) I.ok.above);have neC:∀b o,X.s₀.heap.get? b=some o->b∉X.ex->b∉ch:=fun b o e hx hb=>by
  rcases(hch b hb).1 with z|z
  ·exact hx z
  ·exact absurd (F4 (F2 e) z) (M8 _)
 have cellK:∀x c,X.env.cells.lookup x=some c->∀v,s.heap.IsCell c v->h'.IsCell c v:=fun x c e v ⟨o,ho,hd⟩=>by
  have nch:c∉ch:=fun z=>(hch c z).2.2.1 x c e rfl
  by_cases hc:c∈X.fs
  ·obtain⟨sl,q⟩:=slot c o (I.cne x c e) hc nch ho (I.freeC x c e);exact⟨_,q,hd⟩
  ·exact⟨o,keep c o (I.cne x c e) hc nch ho (I.freeC x c e),hd⟩
 refine⟨I.ok,I.os,hg,⟨fun b o e n hb hx=>?_,fun b o e n hb hx=>?_,fun b o e n hx=>?_,fun b o e hx=>?_,fun b xs e=>tups b xs (I.base.tups b xs e),fun b o xs e=>frzs b o xs (I.base.frzs b o xs e),fun b ps e=>?_⟩,?_,fun x c e=>?_,?_,fun x c e=>?_,fun p hp=>?_,hok,I.len⟩
 ·exact keep b o (neL b o e) hb (neC b o e hx) (I.base.keep b o e n hb hx) (I.base.free b o e n hx)
 ·obtain⟨sl,e1⟩:=I.base.slot b o e n hb hx;obtain⟨sl',e2⟩:=slot b _ (neL b o e) hb (neC b o e hx) e1 (I.base.free b o e n hx);exact⟨sl',e2⟩
 ·obtain⟨o',e1⟩:=I.base.there b o e hx;exact free b o' (neC b o e hx) e1 (I.base.free b o e n hx)
 ·obtain⟨o',e1⟩:=I.base.there b o e hx;exact there b o' (neC b o e hx) e1
 ·obtain⟨m1,e1⟩:=I.base.tbls b ps e;obtain⟨m2,e2⟩:=tbls b _ e1;exact⟨m1++m2,by rw[e2,Array.append_assoc]⟩
 ·obtain⟨m,hn,hl⟩:=I.loc;refine⟨m,ns m hn,fun i x v e1 e2 e3=>?_⟩;obtain⟨u,r,l⟩:=hl i x v e1 e2 e3;refine⟨u,r,?_⟩;rcases l with l|⟨k,c,e,z⟩
  ·exact .inl l
  ·exact .inr ⟨k,c,e,cellK x c e _ z⟩
 ·obtain⟨v,z⟩:=I.cell x c e;exact⟨v,cellK x c e v z⟩
 ·obtain⟨m,⟨o,_,_,ho,_⟩,_⟩:=I.loc;exact free _ o (fun z=>(hch _ z).2.1 rfl) ho I.free
 ·obtain⟨v,o,ho,hd⟩:=I.cell x c e;exact free c o (fun z=>(hch c z).2.2.1 x c e rfl) ho (I.freeC x c e)
 ·obtain⟨e,n,ne,nf,d⟩:=I.pin p hp;have nch:p.1∉ch:=fun z=>(hch p.1 z).2.2.2 p hp rfl;exact⟨keep p.1 p.2 ne nf nch e n,free p.1 p.2 nch e n,ne,nf,d⟩
theorem Inv.un{t':Nat}(I:Inv X aa σ H s) (u:Un X.fs [] H H' s.heap h') (hok:HOk X.prog X.w H' h'):Inv X aa σ H' { s with heap:=h',toks:=t' }:=by
 obtain⟨m,⟨o,es,ep,ho,r⟩,_⟩:=id I.loc;obtain⟨sl,hL⟩:=u.any ho I.free (by simp);exact I.step (g':=s.gens) (d':=s.drawn) (ch:=[]) (fun _ z=>nomatch z) (fun b o _ hb _ e n=>u.keep b o e n hb (by simp)) (fun b o _ hb _ e n=>u.slot b o e n hb (by simp)) (fun b o _ e n=>u.free b o e n (by simp)) (fun b o _ e=>u.there b o e (by simp)) u.tups u.frzs u.tbls (fun m' hm=>by
  obtain⟨o',es',ep',ho',r'⟩:=hm;rw[ho]at ho';cases ho';exact⟨_,es',ep',hL,r'⟩) hok I.bare
theorem Inv.call{g':Array GenState}{t':Nat}{d':Drawn}{ch:List F5}(I:Inv X aa σ H s) (u:Un (frs X.stack) ch H H' s.heap h') (hok:HOk X.prog X.w H' h') (hg:W1 g')
  (hch:∀b∈ch,(b∈X.ex∨X.s₀.heap.objs.size<=b)/\b≠X.env.locals/\(∀x c,X.env.cells.lookup x=some c->c≠b)/\∀p∈X.pn++aa,p.1≠b) :
  Inv X aa σ H' { s with heap:=h',gens:=g',drawn:=d',toks:=t' }:=by
 obtain⟨m,⟨o,es,ep,ho,r⟩,_⟩:=id I.loc;obtain⟨sl,hL⟩:=u.any ho I.free fun z=>(hch _ z).2.1 rfl;exact I.step (ch:=ch) hch (fun b o hL hb hc e n=>u.keep b o e n (fun z=>(P0.mp (I.stkSub b z)).elim hL hb) hc) (fun b o _ _ hc e n=>u.any e n hc) (fun b o hc e n=>u.free b o e n hc) (fun b o hc e=>u.there b o e hc) u.tups u.frzs u.tbls (fun m' hm=>by
  obtain⟨o',es',ep',ho',r'⟩:=hm;rw[ho]at ho';cases ho';exact⟨_,es',ep',hL,r'⟩) hok hg
theorem Inv.turned{t':Nat}{it:F5}(I:Inv X aa σ H s) (k:∀b o,b≠it->s.heap.get? b=some o->h'.get? b=some o) (hn:H it=none) (hL:it≠X.env.locals)
  (h1:it∈X.ex∨X.s₀.heap.objs.size<=it) (h2:∀x c,X.env.cells.lookup x=some c->c≠it) (h3:∀p∈X.pn++aa,p.1≠it):Inv X aa σ H { s with heap:=h',toks:=t' }:=by
 have nit:∀b u,H b=some u->b≠it:=fun b u e z=>by rw[z,hn]at e;cases e
 refine I.step (g':=s.gens) (d':=s.drawn) (ch:=[it]) (fun b hb=>?_) (fun b o _ _ hc e _=>k b o (fun z=>hc (by simp[z])) e) (fun b o _ _ hc e _=>⟨o.slots,k b o (fun z=>hc (by simp[z])) e⟩) (fun _ _ _ _ n=>n)
  (fun b o hc e=>⟨o,k b o (fun z=>hc (by simp[z])) e⟩) (fun _ _ e=>e) (fun _ _ _ e=>e) (fun b ps e=>⟨#[],by rw[e];simp⟩) (fun m hm=>?_) (fun b u e=>?_) I.bare
 ·have e:b=it:=by simpa using hb
  subst e;exact⟨h1,hL,h2,h3⟩
 ·obtain⟨o,es,ep,ho,r⟩:=hm;exact⟨o,es,ep,k _ o (W4 hL) ho,r⟩
 ·refine(I.hok b u e).stay (fun c v hc q=>k c v ?_ q) (fun _ q=>q) fun _ _ q=>q;rcases hc with z|z
  ·rw[z];exact nit b u e
  ·exact nit c _ z
theorem Inv.tok(I:Inv X aa σ H s) (t:Nat):Inv X aa σ H { s with toks:=t }:=I.un (h':=s.heap) (t':=t) Un.refl I.hok
theorem Inv.kept{t':Nat}(I:Inv X aa σ H s) (k:∀b u,s.heap.get? b=some u->h'.get? b=some u):Inv X aa σ H { s with heap:=h',toks:=t' }:=I.un (Un.kept k) (I.hok.kept k)
theorem Inv.laid{a:F5}{o:HO}{t':Nat}(I:Inv X aa σ H s) (k:∀b u,s.heap.get? b=some u->h'.get? b=some u) (hp:s.heap.objs.size<=a) (new:bK X.prog X.w (upd H a o) h' a o) :
  Inv X aa σ (upd H a o) { s with heap:=h',toks:=t' }:=I.un (Un.laid k hp (I.hok.fresh hp)) (I.hok.laid k hp new)
theorem Inv.write{x e:F5}{o:HO}{t':Nat}(I:Inv X aa σ H s) (mu:Mut (H x)) (he:e=x∨H e=some (.own x)) (k:∀b u,b≠e->s.heap.get? b=some u->h'.get? b=some u) (heo:∃u,h'.get? e=some u)
  (new:bK X.prog X.w (upd H x o) h' x o):Inv X aa σ (upd H x o) { s with heap:=h',toks:=t' }:=I.un (Un.write mu he k heo) (I.hok.write mu he k heo new)
theorem Inv.pins_of{pins':List (F5×Obj)}(I:Inv X aa σ H s) (h:∀p∈pins',s.heap.get? p.1=some p.2/\H p.1=none/\p.1≠X.env.locals/\p.1∉X.fs/\∀v,p.2.data≠.cell v):Inv X pins' σ H s :=
 ⟨I.ok,I.os,I.bare,I.base,I.loc,I.cell,I.free,I.freeC,fun p hp=>(T0.mp hp).elim (fun z=>I.pin p (List.mem_append_left _ z)) (h p),I.hok,I.len⟩
theorem oh{N:List Str}(hN:N.Nodup) {i j:Nat}{x:Str}(a:N[i]?=some x) (b:N[j]?=some x):i=j:=by
 obtain⟨h1,e1⟩:=M7.mp a;obtain⟨h2,e2⟩:=M7.mp b;exact(List.getElem_inj hN).mp (e1.trans e2.symm)
theorem iR{M:Model}{A:L8}{E:s0->u8->Prop}{i:Nat}{x:Str}{v:V}{u:s0}{Q:Unit->u8->Prop}(I:Inv X aa σ H s) (hN:X.N.Nodup) (hi:X.N[i]?=some x) (hx:Loc X.env.scope x) (r:aA v u)
  (h:∀s',Inv X aa (σ.set i (some v)) H s'->(∃a,R8 a s.heap s'.heap/\(a=X.env.locals∨X.env.cells.lookup x=some a))->Q () s') (hf:X.fn x=true∨X.env.scope.names.lookup x=some .local:=by first|exact .inl rfl|exact .inr rfl|assumption):J5 M A (storeName X.env x u) Q E s:=by
 obtain⟨m,hn,hl⟩:=id I.loc;have hcls:(X.env.scope.kind==.class || (X.env.scope.kind==.module&&X.env.locals != X.env.globals))=false:=by rw[I.ok.kind];rfl
 have hiσ:i<σ.length:=by rw[I.len];exact(M7.mp hi).1
 have cne:=I.cne;have tracked:∀{a:F5} {h':K3},(∃o,s.heap.get? a=some o/\H a=none)->R8 a s.heap h'->HOk X.prog X.w H h':=fun {a h'} ha hs b ob e=>by
  obtain⟨_,_,hfree⟩:=ha;refine(I.hok b ob e).stay (fun c w' hc q=>(hs.2 c ?_).trans q) (fun _ q=>q) fun _ _ q=>q;rintro rfl;rcases hc with rfl|hc
  ·rw[hfree]at e;cases e
  ·rw[hfree]at hc;cases hc
 rcases hx with hk|hk
 ·refine wpAny_storeName_local hk hn (fun h' hn' hs=>?_) hcls;obtain⟨oL,_,_,hoL,_⟩:=id hn;refine h _ ⟨I.ok,I.os,I.bare,⟨fun b o e n hb hx=>?_,fun b o e n hb hx=>?_,I.base.free,fun b o e hx=>?_,I.base.tups,I.base.frzs,I.base.tbls⟩,⟨_,hn',fun j y v' e1 e2 e3=>?_⟩,fun y c e=>?_,I.free,I.freeC,fun p hp=>?_,tracked ⟨oL,hoL,I.free⟩ hs,by simpa using I.len⟩ ⟨_,hs,.inl rfl⟩
  ·exact(hs.2 b (F7 (F4 (F2 e) I.ok.above))).trans (I.base.keep b o e n hb hx)
  ·obtain⟨sl,e1⟩:=I.base.slot b o e n hb hx;exact⟨sl,(hs.2 b (F7 (F4 (F2 e) I.ok.above))).trans e1⟩
  ·obtain⟨o',e1⟩:=I.base.there b o e hx;exact⟨o',(hs.2 b (F7 (F4 (F2 e) I.ok.above))).trans e1⟩
  ·by_cases hj:j=i
   ·subst hj;rw[hi]at e1;cases e1;rw[O6 hiσ]at e2;cases e2;exact⟨u,r,.inl ⟨hk,by simp⟩⟩
   ·rw[S6 (W4 hj)]at e2;obtain⟨u',r',q⟩:=hl j y v' e1 e2 e3;refine⟨u',r',?_⟩;rcases q with⟨k,e⟩|⟨k,c,e,z⟩
    ·refine .inl ⟨k,?_⟩;have:y≠x:=fun e=>hj (oh hN e1 (e▸hi));simp[this,e]
    ·exact .inr ⟨k,c,e,z.sameBut hs (cne y c e)⟩
  ·obtain⟨w',z⟩:=I.cell y c e;exact⟨w',z.sameBut hs (cne y c e)⟩
  ·obtain⟨e,n,ne,nf,d⟩:=I.pin p hp;exact⟨(hs.2 p.1 ne).trans e,n,ne,nf,d⟩
 ·have hfn:X.fn x=true:=by
   rcases hf with z|z
   ·exact z
   ·rw[z]at hk;cases hk
  obtain⟨c,hc⟩:=I.ok.has x (.inl hk);obtain⟨w',z⟩:=I.cell x c hc;refine wpAny_storeName_cell I.ok.kind hk hc z (fun h' hc' hs=>?_);obtain⟨oc,hoc,hocd⟩:=id z;refine h { s with heap:=h' } ⟨I.ok,I.os,I.bare,⟨fun b o e n hb hx=>?_,fun b o e n hb hx=>?_,I.base.free,fun b o e hx=>?_,I.base.tups,I.base.frzs,I.base.tbls⟩,⟨m,hn.sameBut hs (W4 (cne x c hc)),fun j y v' e1 e2 e3=>?_⟩,fun y c' e=>?_,I.free,I.freeC,fun p hp=>?_,tracked ⟨oc,hoc,I.freeC x c hc⟩ hs,by simpa using I.len⟩ ⟨c,hs,.inr hc⟩
  ·exact(hs.2 b (F7 (F4 (F2 e) (I.ok.cab x c hfn hc)))).trans (I.base.keep b o e n hb hx)
  ·obtain⟨sl,e1⟩:=I.base.slot b o e n hb hx;exact⟨sl,(hs.2 b (F7 (F4 (F2 e) (I.ok.cab x c hfn hc)))).trans e1⟩
  ·obtain⟨o',e1⟩:=I.base.there b o e hx;exact⟨o',(hs.2 b (F7 (F4 (F2 e) (I.ok.cab x c hfn hc)))).trans e1⟩
  ·by_cases hj:j=i
   ·subst hj;rw[hi]at e1;cases e1;rw[O6 hiσ]at e2;cases e2;exact⟨u,r,.inr ⟨.inl hk,c,hc,hc'⟩⟩
   ·rw[S6 (W4 hj)]at e2;obtain⟨u',r',q⟩:=hl j y v' e1 e2 e3;refine⟨u',r',?_⟩;rcases q with q|⟨k,c',e,z'⟩
    ·exact .inl q
    ·refine .inr ⟨k,c',e,z'.sameBut hs ?_⟩;rintro rfl;exact hj (oh hN e1 (I.ok.inj _ _ _ e hc▸hi))
  ·by_cases hcc:c'=c
   ·subst hcc;exact⟨_,hc'⟩
   ·obtain⟨w2,z2⟩:=I.cell y c' e;exact⟨w2,z2.sameBut hs hcc⟩
  ·obtain⟨e,n,ne,nf,d⟩:=I.pin p hp;refine⟨(hs.2 p.1 ?_).trans e,n,ne,nf,d⟩;intro q;rw[q,hoc]at e;have q':oc=p.2:=J4 e;exact d w' (by rw[<-q'];exact hocd)
theorem k8{M:Model}{A:L8}{E:s0->u8->Prop}{i:Nat}{x:Str}{v:V}{u:s0}{Q:Unit->u8->Prop}(I:Inv X aa σ H s) (hN:X.N.Nodup) (hi:X.N[i]?=some x) (hx:Loc X.env.scope x) (r:aA v u)
  (h:∀s',Inv X aa (σ.set i (some v)) H s'->Q () s') (hf:X.fn x=true∨X.env.scope.names.lookup x=some .local:=by first|exact .inl rfl|exact .inr rfl|assumption):J5 M A (storeName X.env x u) Q E s :=
 iR I hN hi hx r (fun s' I' _=>h s' I') hf
theorem Inv.call'{s':u8}{ch:List F5}(I:Inv X aa σ H s) (ho:s'.os=s.os) (u:Un (frs X.stack) ch H H' s.heap s'.heap) (hok:HOk X.prog X.w H' s'.heap) (hg:W1 s'.gens)
  (hch:∀b∈ch,(b∈X.ex∨X.s₀.heap.objs.size<=b)/\b≠X.env.locals/\(∀x c,X.env.cells.lookup x=some c->c≠b)/\∀p∈X.pn++aa,p.1≠b):Inv X aa σ H' s':=by
 obtain⟨h',g',d',t',o'⟩:=s';have e:o'=s.os:=ho;subst e;exact I.call (g':=g') (t':=t') (d':=d') u hok hg hch
end
abbrev XK:=s0->Option F5->Hp->Prop
noncomputable abbrev St:=List (Option V)
abbrev VK:=V->Hp->Prop
abbrev TE:=St->Hp->VK->Prop
abbrev TT:=St->Hp->(Bool->Hp->Prop)->Prop
abbrev TA:=St->Hp->(List V->Hp->Prop)->Prop
structure oD where
 nx:St->Hp->Prop
 rt:VK
 bk:St->Hp->Prop:=fun _ _=>False
 ct:St->Hp->Prop:=fun _ _=>False
abbrev TS:=oD->St->Hp->Prop
def EP(X:Cx) (aa:List (F5×Obj)) (σ:St) (Q:VK) (u:s0) (s':u8):Prop:=∃v H',Inv X aa σ H' s'/\aA v u/\Q v H'
def TP(X:Cx) (aa:List (F5×Obj)) (σ:St) (Q:Bool->Hp->Prop) (b:Bool) (s':u8):Prop:=∃H',Inv X aa σ H' s'/\Q b H'
def AP(X:Cx) (aa:List (F5×Obj)) (σ:St) (Q:List V->Hp->Prop) (us:List s0) (s':u8):Prop:=∃vs H',Inv X aa σ H' s'/\av vs us/\Q vs H'
theorem EP.el{X:Cx}{aa:List (F5×Obj)}{σ:St}{Q:VK}{u:s0}{s:u8}{P:Prop}(h:EP X aa σ Q u s) (f:∀(v:V) (H:Hp),Inv X aa σ H s->aA v u->Q v H->P):P:=by
 obtain⟨x1,x2,a,b,c⟩:=h;exact f x1 x2 a b c
theorem AP.el{X:Cx}{aa:List (F5×Obj)}{σ:St}{Q:List V->Hp->Prop}{u:List s0}{s:u8}{P:Prop}(h:AP X aa σ Q u s) (f:∀(v:List V) (H:Hp),Inv X aa σ H s->av v u->Q v H->P):P:=by
 obtain⟨x1,x2,a,b,c⟩:=h;exact f x1 x2 a b c
theorem TP.el{X:Cx}{aa:List (F5×Obj)}{σ:St}{Q:Bool->Hp->Prop}{u:Bool}{s:u8}{P:Prop}(h:TP X aa σ Q u s) (f:∀(H:Hp),Inv X aa σ H s->Q u H->P):P:=by
 obtain⟨x1,a,b⟩:=h;exact f x1 a b
def SP(X:Cx) (aa:List (F5×Obj)) (D:oD) (f:Flow) (s':u8):Prop :=
 match f with
 |.next=>∃ σ' H',Inv X aa σ' H' s'/\D.nx σ' H'
 |.brk=>∃ σ' H',Inv X aa σ' H' s'/\D.bk σ' H'
 |.cont=>∃ σ' H',Inv X aa σ' H' s'/\D.ct σ' H'
 |.ret u=>∃v σ' H',Inv X aa σ' H' s'/\aA v u/\D.rt v H'
def PE(X:Cx) (e:J0) (t:TE):Prop :=
 ∀(aa:List (F5×Obj)) (s:u8) (σ:St) (H:Hp) (Q:VK),Inv X aa σ H s->t σ H Q->J5 (J9 X.prog X.w) X.A (U0 e X.env) (EP X aa σ Q) X.xe s
def PT(X:Cx) (e:J0) (t:TT):Prop :=
 ∀(aa:List (F5×Obj)) (s:u8) (σ:St) (H:Hp) (Q:Bool->Hp->Prop),Inv X aa σ H s->t σ H Q->J5 (J9 X.prog X.w) X.A (isTrue e X.env (U0 e X.env)) (TP X aa σ Q) X.xe s
def PW(X:Cx) (e:J0) (t:TT):Prop :=
 ∀(whole:Sem s0) (aa:List (F5×Obj)) (s:u8) (σ:St) (H:Hp) (Q:Bool->Hp->Prop),Inv X aa σ H s->t σ H Q->J5 (J9 X.prog X.w) X.A (isTrue e X.env whole) (TP X aa σ Q) X.xe s
theorem PW.pt{X:Cx}{e:J0}{t:TT}(h:PW X e t):PT X e t:=h _
def PA(X:Cx) (es:List J0) (t:TA):Prop :=
 ∀(pos:Pos) (aa:List (F5×Obj)) (s:u8) (σ:St) (H:Hp) (Q:List V->Hp->Prop),Inv X aa σ H s->t σ H Q->J5 (J9 X.prog X.w) X.A (spliced (T4 pos (I0 es X.env))) (AP X aa σ Q) X.xe s
def PS(X:Cx) (st:X1) (t:TS):Prop :=
 ∀(aa:List (F5×Obj)) (s:u8) (σ:St) (H:Hp) (D:oD),Inv X aa σ H s->t D σ H->J5 (J9 X.prog X.w) X.A (exec st X.env) (SP X aa D) X.xe s
def PSs(X:Cx) (st:List X1) (t:TS):Prop :=
 ∀(aa:List (F5×Obj)) (s:u8) (σ:St) (H:Hp) (D:oD),Inv X aa σ H s->t D σ H->J5 (J9 X.prog X.w) X.A (execs st X.env) (SP X aa D) X.xe s
theorem thn{α:Type}{t:Sem α}{Q Q':α->u8->Prop}{M:Model}{A:L8}{E:s0->u8->Prop}{s:u8}(h:J5 M A t Q E s) (hQ:∀a s,Q a s->Q' a s):J5 M A t Q' E s:=L4 h hQ fun _ _ x=>x
section
variable{X:Cx}
def EZ(i:Nat):TE:=fun σ H Q=>∃v,σ[i]?=some (some v)/\Q v H
def tC(v:V):TE:=fun _ H Q=>Q v H
theorem AL{i:Nat}{x:Str}{pos:Pos}(hN:X.N[i]?=some x) (hv:Vis X.env.scope x) (hd:(x==("__debug__":Str))=false:=by decide) (hcd:(x==("__classdict__":Str))=false:=by decide):PE X (.Name x pos) (EZ i):=by
 intro aa s σ H Q I h;obtain⟨v,e,h⟩:=h;obtain⟨m,hn,hl⟩:=I.loc;obtain⟨u,r,l⟩:=hl i x v hN e hv;have fin:EP X aa σ Q u s:=⟨v,H,I,r,h⟩;rcases l with⟨hk,hm⟩|⟨hk,c,hc,hcell⟩
 ·exact wpAny_Name (wpAny_loadName_local I.ok.kind hk hn hm fin) hd
 ·rcases hk with hk|hk
  ·exact wpAny_Name (wpAny_loadName_cell I.ok.kind hk hc hcell fin) hd
  ·exact wpAny_Name (wpAny_loadName_free I.ok.kind hk hc hcell fin hcd) hd
theorem B1{i j pos}:PE X (.Constant (.int i) j pos) (tC (.int i)):=fun _ _ _ H _ I h=>wpAny_Constant_int ⟨.int i,H,I.tok _,⟨_,rfl⟩,h⟩
theorem CD{b j pos}:PE X (.Constant (.bool b) j pos) (tC (.bl b)):=fun _ _ _ H _ I h=>Constant_bool ⟨.bl b,H,I,rfl,h⟩
theorem A5{j pos}:PE X (.Constant .none j pos) (tC .non):=fun _ _ _ H _ I h=>Constant_none ⟨.non,H,I,rfl,h⟩
theorem Bw{x j pos}:PE X (.Constant (.str x) j pos) (tC (.str x)):=fun _ _ _ H _ I h=>Calls.Constant_str ⟨.str x,H,I.tok _,⟨_,rfl⟩,h⟩
def Gl(X:Cx) (x:Str):Prop:=X.env.kindOf x=some .globalImplicit
theorem xY{E:s0->u8->Prop}{aa:List (F5×Obj)}{s:u8}{σ:St}{H:Hp}{x:Str}{u:s0}{pos:Pos}{Q:s0->u8->Prop}(I:Inv X aa σ H s) (hg:Gl X x) (hm:X.mg x=some u) (h:Q u s)
  (hd:(x==("__debug__":Str))=false:=by decide):J5 (J9 X.prog X.w) X.A (U0 (.Name x pos) X.env) Q E s :=
 Calls.Name_function_global I.ok.kind hg (Calls.loadGlobal_global (by rw[I.ok.glob];exact I.mod.glob.keeps I.bk) hm h) hd
theorem eI{E:s0->u8->Prop}{aa:List (F5×Obj)}{s:u8}{σ:St}{H:Hp}{x:Str}{u:s0}{pos:Pos}{Q:s0->u8->Prop}(I:Inv X aa σ H s) (hg:Gl X x) (hm:X.mg x=none) (hv:Q4 x=some u) (h:Q u s)
  (hn:x≠"__name__":=by decide) (hd:(x==("__debug__":Str))=false:=by decide):J5 (J9 X.prog X.w) X.A (U0 (.Name x pos) X.env) Q E s:=by
 obtain⟨mb,h1,h2⟩:=I.mod.blt;exact Calls.Name_function_global I.ok.kind hg (Calls.loadGlobal_builtin (by rw[I.ok.glob];exact I.mod.glob.keeps I.bk) hm (by rw[I.ok.blt];exact h1.keeps I.bk) ((h2 x hn).trans hv) h) hd
theorem xt{x:Str}{v:V}{u:s0}{pos:Pos}(hg:Gl X x) (hm:X.mg x=none) (hv:Q4 x=some u) (r:aA v u) (hn:x≠"__name__":=by decide) (hd:(x==("__debug__":Str))=false:=by decide):PE X (.Name x pos) (tC v) :=
 fun _ _ _ H _ I h=>eI I hg hm hv ⟨v,H,I,r,h⟩ hn hd
variable{a b:J0}{ta tb:TE}{pos:Pos}
def PC(X:Cx) (op:ab1) (a b:J0) (t:TE):Prop :=
 ∀(aa:List (F5×Obj)) (s:u8) (σ:St) (H:Hp) (Q:VK),Inv X aa σ H s->t σ H Q ->
  J5 (J9 X.prog X.w) X.A (U0 a X.env) (fun v s₁=>J5 (J9 X.prog X.w) X.A (U0 b X.env) (fun u s₂=>J5 (J9 X.prog X.w) X.A (L3 op v u) (EP X aa σ Q) X.xe s₂) X.xe s₁) X.xe s
theorem j9(b:J0) {op:ab1}(h:op≠.In) (h2:op≠.NotIn):Q7 op b=false:=by
 have e1:(op==ab1.In)=false:=by cases op<;>first|rfl|exact absurd rfl h
 have e2:(op==ab1.NotIn)=false:=by cases op<;>first|rfl|exact absurd rfl h2
 cases b<;>simp[Q7,e1,e2]
def tB(t:TE):TT:=fun σ H Q=>t σ H fun x H1=>∃c,x=.bl c/\Q c H1
theorem wI{op:ab1}{t:TE}(h:PC X op a b t) (h1:Q7 op b=false:=by first|exact j9 _ (by decide) (by decide)|rfl):PE X (.Compare a [op] [b] pos) t:=fun aa s σ H Q I hw=>wpAny_Compare1 (h aa s σ H Q I hw) h1
theorem qi{op:ab1}{t:TE}(h:PC X op a b t) (h1:Q7 op b=false:=by first|exact j9 _ (by decide) (by decide)|rfl):PT X (.Compare a [op] [b] pos) (tB t):=by
 intro aa s σ H Q I hw;refine wpAny_isTrue_Compare1 (thn (h aa s σ H _ I hw) fun v s1 h1=>thn h1 fun u s2 h2=>thn h2 fun c s3 hup=>hup.el fun x H1 I1 r1 q1=>?_) h1;obtain⟨d,rfl,q⟩:=q1;cases r1;exact P6 ⟨H1,I1,q⟩
theorem BX{e:J0}{t:TE}(h:PE X e t) (he:∀whole,isTrue e X.env whole=(do let v <-whole;standAt e.pos;Z3 [v] (truthy v)):=by intro _;rfl):PT X e (tB t):=by
 intro aa s σ H Q I hw;refine isTrue_plain (thn (h aa s σ H _ I hw) fun v s1 hup=>hup.el fun x H1 I1 r1 q1=>?_) (he _);obtain⟨d,rfl,q⟩:=q1;cases r1;exact P6 ⟨H1,I1,q⟩
variable{tA tB':TT}{rest:List J0}
def Ex(t u:TT):TT:=fun σ H Q=>t σ H fun c H1=>if c=true then u σ H1 Q else Q false H1
def tOr(t u:TT):TT:=fun σ H Q=>t σ H fun c H1=>if c=true then Q true H1 else u σ H1 Q
def EW(t:TT):TT:=fun σ H Q=>t σ H fun c H1=>Q (!c) H1
theorem yl(ha:PT X a tA):PW X (.BoolOp .And [a] pos) tA:=by
 intro wh aa s σ H Q I h;refine isTrue_and (thn (ha aa s σ H Q I h) fun c s1 e=>?_);cases c with
 |true=>exact isTrue_and_nil e
 |false=>exact e
theorem Bq(ha:PT X a tA):PW X (.BoolOp .Or [a] pos) tA:=by
 intro wh aa s σ H Q I h;refine isTrue_or (thn (ha aa s σ H Q I h) fun c s1 e=>?_);cases c with
 |false=>exact isTrue_or_nil e
 |true=>exact e
theorem Bt(ha:PT X a tA) (hb:PW X (.BoolOp .And (b::rest) pos) tB'):PW X (.BoolOp .And (a::b::rest) pos) (Ex tA tB'):=by
 intro wh aa s σ H Q I h;refine isTrue_and (thn (ha aa s σ H _ I h) fun c s1 hup=>hup.el fun H1 I1 q1=>?_);cases c with
 |true=>exact hb wh aa s1 σ H1 Q I1 q1
 |false=>exact⟨H1,I1,q1⟩
theorem Dw(ha:PT X a tA) (hb:PW X (.BoolOp .Or (b::rest) pos) tB'):PW X (.BoolOp .Or (a::b::rest) pos) (tOr tA tB'):=by
 intro wh aa s σ H Q I h;refine isTrue_or (thn (ha aa s σ H _ I h) fun c s1 hup=>hup.el fun H1 I1 q1=>?_);cases c with
 |true=>exact⟨H1,I1,q1⟩
 |false=>exact hb wh aa s1 σ H1 Q I1 q1
theorem Ab(ha:PT X a tA):PT X (.UnaryOp .Not a pos) (EW tA):=by
 intro aa s σ H Q I h;exact isTrue_not (ha aa s σ H (fun c H1=>Q (!c) H1) I h)
def Ct(ta tb:TE):TE:=fun σ H Q=>ta σ H fun x H1=>∃c,x=.bl c/\if c=true then tb σ H1 Q else Q (.bl false) H1
def D9(ta:TE):TE:=fun σ H Q=>ta σ H fun x H1=>∃c,x=.bl c/\Q (.bl (!c)) H1
theorem BB{op}{t:TE}(h:PE X a t):PE X (.BoolOp op [a] pos) t:=fun aa s σ H Q I hw=>BoolOp_one (h aa s σ H Q I hw)
theorem Bi(ha:PE X a ta) (hb:PE X (.BoolOp .And (b::rest) pos) tb):PE X (.BoolOp .And (a::b::rest) pos) (Ct ta tb):=by
 intro aa s σ H Q I h;refine BoolOp_and (thn (ha aa s σ H _ I h) fun v s1 hup=>hup.el fun x H1 I1 r1 q1=>?_);obtain⟨c,rfl,q1⟩:=q1;cases r1;refine P6 ?_;cases c with
 |true=>exact hb aa s1 σ H1 Q I1 q1
 |false=>exact⟨.bl false,H1,I1,rfl,q1⟩
theorem Ap(ha:PE X a ta):PE X (.UnaryOp .Not a pos) (D9 ta):=by
 intro aa s σ H Q I h;refine UnaryOp_ (thn (ha aa s σ H _ I h) fun v s1 hup=>hup.el fun x H1 I1 r1 q1=>?_);obtain⟨c,rfl,q1⟩:=q1;cases r1;exact not_of (P6 ⟨.bl (!c),H1,I1,rfl,q1⟩)
def tIf(t:TT) (ta tb:TE):TE:=fun σ H Q=>t σ H fun c H1=>if c=true then ta σ H1 Q else tb σ H1 Q
theorem wL{c:J0}(hc:PT X c tA) (ha:PE X a ta) (hb:PE X b tb):PE X (.IfExp c a b pos) (tIf tA ta tb):=by
 intro aa s σ H Q I h;refine wpAny_IfExp (thn (hc aa s σ H _ I h) fun d s1 hup=>hup.el fun H1 I1 q1=>?_);cases d with
 |true=>exact ha aa s1 σ H1 Q I1 q1
 |false=>exact hb aa s1 σ H1 Q I1 q1
end
def SqL(K:o0) (H:Hp) (a:F5) (xs:List V):Prop :=
 Rd H a (.lst xs) ∨
  ∃(o:Obj) (its:Array s0) (n:Nat),K.lookup a=some o/\o.cls=.type "list"/\o.dict=none/\o.data=.seq its n/\its.size<=E9/\av xs its.toList
def SqT(K:o0) (H:Hp) (a:F5) (xs:List V):Prop :=
 Rd H a (.tup xs) ∨
  ∃(o:Obj) (its:Array s0) (n:Nat),K.lookup a=some o/\(o.cls=.type "tuple"/\o.dict=none)/\o.data=.seq its n/\its.size<=E9/\av xs its.toList
noncomputable def Er:s0->Option V
 |.none=>some .non
 |.bool b=>some (.bl b)
 |.int i _=>some (.int i)
 |.str x _=>some (.str x)
 |.bytes b _=>some (.byt b)
 |.float b _=>some (.flt b)
 |.ref a=>some (.ref a)
 |.type n=>some (.ty n)
 |_=>none
theorem aA.abs{x:V}{u:s0}(r:aA x u):Er u=some x:=by
 cases x with
 |non=>cases r;rfl
 |bl _=>cases r;rfl
 |int _=>obtain⟨t,rfl⟩:=r;rfl
 |str _=>obtain⟨t,rfl⟩:=r;rfl
 |byt _=>obtain⟨t,rfl⟩:=r;rfl
 |flt _=>obtain⟨t,rfl⟩:=r;rfl
 |ref _=>cases r;rfl
 |ty _=>cases r;rfl
theorem aA.inj{x y:V}{u:s0}(r:aA x u) (q:aA y u):x=y:=J4 (r.abs.symm.trans q.abs)
theorem av.inj:∀{xs ys:List V}{us:List s0},av xs us->av ys us->xs=ys
 |_,_,_,.nil,.nil=>rfl
 |_,_,_,.cons r t,.cons r' t'=>by rw[r.inj r',av.inj t t']
section
variable{X:Cx}{aa:List (F5×Obj)}{σ:St}{H:Hp}{s:u8}{a:F5}{xs ys:List V}
theorem SqL.of{K:o0}(h:H a=some (.lst xs)):SqL K H a xs:=.inl (.inl h)
theorem SqT.of{K:o0}(h:H a=some (.tup xs)):SqT K H a xs:=.inl (.inl h)
theorem Inv.list(I:Inv X aa σ H s) (h:SqL X.K H a xs):∃its:List s0,av xs its/\PlainL s.heap a its.toArray/\xs.length<=E9:=by
 rcases h with h|⟨o,its,n,hk,hc,hd,hs,hz,r⟩
 ·obtain⟨z,its,n,r,e⟩:=h.ok I.hok;exact⟨its,r,⟨_,n,e,rfl,rfl,rfl⟩,z⟩
 ·refine⟨its.toList,r,⟨o,n,I.kIn a o hk,hc,hd,by simpa using hs⟩,?_⟩;have e:=r.length;simp only[Q8]at e
  lia
theorem Inv.tuple(I:Inv X aa σ H s) (h:SqT X.K H a xs):∃its:List s0,av xs its/\ab0 s.heap a its.toArray/\xs.length<=E9:=by
 rcases h with h|⟨o,its,n,hk,hc,hs,hz,r⟩
 ·obtain⟨z,its,r,p⟩:=h.ok I.hok;exact⟨its,r,p.tup,z⟩
 ·refine⟨its.toList,r,⟨o,I.kIn a o hk,hc.1,n,by simpa using hs⟩,?_⟩;have e:=r.length;simp only[Q8]at e
  lia
theorem Inv.tupN(I:Inv X aa σ H s) (h:SqT X.K H a xs):∃its:List s0,av xs its/\jr s.heap a its.toArray/\xs.length<=E9:=by
 rcases h with h|⟨o,its,n,hk,hc,hs,hz,r⟩
 ·obtain⟨z,its,r,p⟩:=h.ok I.hok;exact⟨its,r,p,z⟩
 ·refine⟨its.toList,r,⟨o,I.kIn a o hk,hc.1,⟨n,by simpa using hs⟩,hc.2⟩,?_⟩;have e:=r.length;have e2:its.toList.length=its.size:=Q8
  lia
theorem Inv.list_inj(I:Inv X aa σ H s) (h:SqL X.K H a xs) (h':SqL X.K H a ys):xs=ys:=by
 obtain⟨its,r,⟨o,n,e,_,_,d⟩,_⟩:=I.list h;obtain⟨its',r',⟨o',n',e',_,_,d'⟩,_⟩:=I.list h';rw[e]at e';cases e';rw[d]at d';injection d' with d1 _
 have:its=its':=by simpa using congrArg Array.toList d1
 subst this;exact r.inj r'
theorem Inv.tuple_inj(I:Inv X aa σ H s) (h:SqT X.K H a xs) (h':SqT X.K H a ys):xs=ys:=by
 obtain⟨its,r,⟨o,e,_,n,d⟩,_⟩:=I.tuple h;obtain⟨its',r',⟨o',e',_,n',d'⟩,_⟩:=I.tuple h';rw[e]at e';cases e';rw[d]at d';injection d' with d1 _
 have:its=its':=by simpa using congrArg Array.toList d1
 subst this;exact r.inj r'
end
abbrev Cx.wish(X:Cx) (E:s0->u8->Prop):Cx:={ X with xe:=E }
abbrev Cx.nox(X:Cx):Cx:=X.wish fun _ _=>False
theorem Cx.Ok.wish{X:Cx}(ok:X.Ok) (E:s0->u8->Prop):(X.wish E).Ok :=
 ⟨ok.mod,ok.kind,ok.glob,ok.blt,ok.above,ok.inj,ok.has,ok.cab,ok.hd,ok.frames,ok.stk,ok.exf,ok.bs,ok.bsz,ok.noex,ok.exfs,ok.funs,ok.frf⟩
theorem Cx.Ok.unwish{X:Cx}{E:s0->u8->Prop}(ok:(X.wish E).Ok):X.Ok :=
 ⟨ok.mod,ok.kind,ok.glob,ok.blt,ok.above,ok.inj,ok.has,ok.cab,ok.hd,ok.frames,ok.stk,ok.exf,ok.bs,ok.bsz,ok.noex,ok.exfs,ok.funs,ok.frf⟩
section
variable{X:Cx}{aa:List (F5×Obj)}{σ:St}{H:Hp}{s:u8}{E:s0->u8->Prop}
theorem Inv.wish(I:Inv X aa σ H s) (E:s0->u8->Prop):Inv (X.wish E) aa σ H s:=⟨I.ok.wish E,I.os,I.bare,I.base,I.loc,I.cell,I.free,I.freeC,I.pin,I.hok,I.len⟩
theorem Inv.unwish(I:Inv (X.wish E) aa σ H s):Inv X aa σ H s:=⟨I.ok.unwish,I.os,I.bare,I.base,I.loc,I.cell,I.free,I.freeC,I.pin,I.hok,I.len⟩
theorem SP.unwish{D:oD}{f:Flow}{s':u8}(h:SP (X.wish E) aa D f s'):SP X aa D f s':=by
 cases f with
 |next=>obtain⟨σ',H',I,q⟩:=h;exact⟨σ',H',I.unwish,q⟩
 |brk=>obtain⟨σ',H',I,q⟩:=h;exact⟨σ',H',I.unwish,q⟩
 |cont=>obtain⟨σ',H',I,q⟩:=h;exact⟨σ',H',I.unwish,q⟩
 |ret u=>obtain⟨v,σ',H',I,r,q⟩:=h;exact⟨v,σ',H',I.unwish,r,q⟩
theorem PSs.nox{st:List X1}{t:TS}(h:PSs X.nox st t):PSs X st t:=fun aa s σ H D I hw =>
 L4 (h aa s σ H D (I.wish _) hw) (fun _ _ q=>q.unwish) fun _ _ z=>P7 z
end
section
variable{X:Cx}{st:X1}{rest:List X1}{t u:TS}{e:J0}{te:TE}{pos:Pos}
def Dc:TS:=fun D σ H=>D.nx σ H
def EJ(t u:TS):TS:=fun D σ H=>t { D with nx:=u D } σ H
theorem ye:PSs X [] Dc:=fun _ _ σ H _ I h=>V4 ⟨σ,H,I,h⟩
theorem vj(h1:PS X st t) (h2:PSs X rest u):PSs X (st::rest) (EJ t u):=by
 intro aa s σ H D I h;refine wpAny_execs_cons (thn (h1 aa s σ H { D with nx:=u D } I h) fun f s1 q=>?_);cases f with
 |next =>
  obtain⟨σ',H',I',q⟩:=q;exact h2 aa s1 σ' H' D I' q
 |ret v=>exact q
 |brk=>exact q
 |cont=>exact q
theorem zc(h1:PS X st t):PSs X [st] t:=by
 intro aa s σ H D I h;refine wpAny_execs_cons (thn (h1 aa s σ H D I h) fun f s1 q=>?_);cases f with
 |next=>exact V4 q
 |ret v=>exact q
 |brk=>exact q
 |cont=>exact q
theorem Inv.quiet{aa:List (F5×Obj)}{σ:St}{H:Hp}{s:u8}(I:Inv X aa σ H s):interactive X.env=false:=by simp[interactive,I.ok.kind]
def D0(te:TE):TS:=fun D σ H=>te σ H fun _ H1=>D.nx σ H1
theorem yq(he:PE X e te) (hs:U6 e none pos.line X.env=U9 false:=by rfl):PS X (.Expr e pos) (D0 te):=by
 intro aa s σ H D I h;exact wpAny_Expr_any (thn (he aa s σ H _ I h) fun v s1 hup=>hup.el fun x H1 I1 r1 q1=>⟨σ,H1,I1,q1⟩) I.quiet hs
def En(te:TE):TS:=fun D σ H=>te σ H D.rt
theorem qz(he:PE X e te):PS X (.Return (some e) pos) (En te):=by
 intro aa s σ H D I h;exact wpAny_Return_some (thn (he aa s σ H _ I h) fun v s1 hup=>hup.el fun x H1 I1 r1 q1=>⟨x,σ,H1,I1,r1,q1⟩)
def EO(c:TT) (t u:TS):TS:=fun D σ H=>c σ H fun b H1=>if b=true then t D σ H1 else u D σ H1
theorem CO{c:J0}{a b:List X1}{tc:TT}(hc:PT X c tc) (ha:PSs X a t) (hb:PSs X b u):PS X (.If c a b pos) (EO tc t u):=by
 intro aa s σ H D I h;refine wpAny_If (thn (hc aa s σ H _ I h) fun d s1 hup=>hup.el fun H1 I1 q1=>?_);cases d with
 |true=>exact ha aa s1 σ H1 D I1 q1
 |false=>exact hb aa s1 σ H1 D I1 q1
end
abbrev TG:=V->St->Hp->(St->Hp->Prop)->Prop
abbrev TGs:=List V->St->Hp->(St->Hp->Prop)->Prop
def PG(X:Cx) (target:J0) (t:TG):Prop :=
 ∀(aa:List (F5×Obj)) (s:u8) (σ:St) (H:Hp) (v:V) (u:s0) (Q:St->Hp->Prop),Inv X aa σ H s->aA v u->t v σ H Q ->
  J5 (J9 X.prog X.w) X.A (T5 target X.env u) (fun _ s'=>∃ σ' H',Inv X aa σ' H' s'/\Q σ' H') X.xe s
def PGs(X:Cx) (ts:List J0) (t:TGs):Prop :=
 ∀(aa:List (F5×Obj)) (s:u8) (σ:St) (H:Hp) (vs:List V) (us:List s0) (Q:St->Hp->Prop),Inv X aa σ H s->av vs us->t vs σ H Q ->
  J5 (J9 X.prog X.w) X.A (assignInOrder ((N7 ts X.env).map (·.2)) us) (fun _ s'=>∃ σ' H',Inv X aa σ' H' s'/\Q σ' H') X.xe s
abbrev An:=V->V->V->Hp->(Hp->Prop)->Prop
def CI(X:Cx) (t:An):Prop :=
 ∀(aa:List (F5×Obj)) (s:u8) (σ:St) (H:Hp) (o i v:V) (ov iv u:s0) (Q:Hp->Prop),Inv X aa σ H s->aA o ov->aA i iv->aA v u->t o i v H Q ->
  J5 (J9 X.prog X.w) X.A (setItem ov iv u) (fun _ s'=>∃H',Inv X aa σ H' s'/\Q H') X.xe s
abbrev TIp:=V->V->Hp->VK->Prop
def PIp(X:Cx) (op:aa3) (t:TIp):Prop :=
 ∀(aa:List (F5×Obj)) (s:u8) (σ:St) (H:Hp) (x y:V) (v u:s0) (Q:VK),Inv X aa σ H s->aA x v->aA y u->t x y H Q ->
  J5 (J9 X.prog X.w) X.A (aa5 op v u) (EP X aa σ Q) X.xe s
section
variable{X:Cx}{pos:Pos}
def jZ(i:Nat):TG:=fun v σ H Q=>Q (σ.set i (some v)) H
theorem nz{i:Nat}{x:Str}(hN:X.N.Nodup) (hi:X.N[i]?=some x) (hx:Loc X.env.scope x) (hf:X.fn x=true∨X.env.scope.names.lookup x=some .local:=by first|exact .inl rfl|exact .inr rfl|assumption):PG X (.Name x pos) (jZ i):=by
 intro aa s σ H v u Q I r h;exact wpAny_assign_Name (k8 I hN hi hx r (fun s' I'=>⟨_,H,I',h⟩) hf)
def AJ:TGs:=fun vs σ H Q=>vs=[]/\Q σ H
def uq(t:TG) (u:TGs):TGs:=fun vs σ H Q=>∃v r,vs=v::r/\t v σ H fun σ' H'=>u r σ' H' Q
theorem rV:PGs X [] AJ:=by
 intro aa s σ H vs us Q I r h;obtain⟨e,h⟩:=h;subst e;cases r;exact assignInOrder_nil ⟨σ,H,I,h⟩
theorem pU{e:J0}{es:List J0}{t:TG}{u:TGs}(h1:PG X e t) (h2:PGs X es u)
  (hs:(N7 (e::es) X.env).map (·.2)=T5 e X.env::(N7 es X.env).map (·.2):=by rfl):PGs X (e::es) (uq t u):=by
 intro aa s σ H vs us Q I r h;obtain⟨v,vr,e1,h⟩:=h;subst e1;cases r with
 |cons r rr =>
  rw[hs];refine assignInOrder_cons (thn (h1 aa s σ H _ _ _ I r h) fun _ s1 ⟨σ1,H1,I1,q1⟩=>?_);exact h2 aa s1 σ1 H1 _ _ Q I1 rr q1
def Bn(K:o0) (n:Nat) (t:TGs):TG:=fun v σ H Q=>∃a xs,v=.ref a/\SqT K H a xs/\xs.length=n/\t xs σ H Q
theorem wX{es:List J0}{k:Nat}{t:TGs}{n:Nat}(hc:X.calm=true) (h:PGs X es t)
  (hn:(N7 es X.env).length=n:=by rfl) (hst:(N7 es X.env).findIdx? (·.1)=none:=by rfl):PG X (.Tuple es k pos) (Bn X.K n t):=by
 intro aa s σ H v u Q I r hw;obtain⟨a,xs,e1,hq,hl,hw⟩:=hw;subst e1;cases r;obtain⟨its,rv,ht,hz⟩:=I.tuple hq;refine assign_Tuple_tuple (I.ok.hd hc) ht (by simp[hn,<-hl,rv.length]) hst fun h' hx=>?_;have I1:Inv X aa σ H { s with heap:=h' }:=I.kept (t':=s.toks) fun b o e=>hx b o (F7 (F2 e)) e;exact h aa _ σ H xs _ Q I1 (by simpa using rv) hw
def EB(to ti:TE) (t:An):TG:=fun v σ H Q=>to σ H fun o H1=>ti σ H1 fun i H2=>t o i v H2 fun H3=>Q σ H3
theorem BM{o i:J0}{to ti:TE}{t:An}(ho:PE X o to) (hi:PE X i ti) (hs:CI X t)
  (ha:∀ v,T5 (.Subscript o i pos) X.env v = (do
   let ov <-Z3 [v] (U0 o X.env)
   let iv <-Z3 [v,ov] (U0 i X.env)
   standAt pos
   Z3 [v,ov,iv] (setItem ov iv v)
   release [v,ov,iv] []):=by intro _;rfl):PG X (.Subscript o i pos) (EB to ti t):=by
 intro aa s σ H v u Q I r h;rw[ha];refine F0 (S1 (thn (ho aa s σ H _ I h) fun ov s1 hup=>hup.el fun x H1 I1 r1 q1=>?_));refine F0 (S1 (thn (hi aa s1 σ H1 _ I1 q1) fun iv s2 hup=>hup.el fun y H2 I2 r2 q2=>?_));refine F0 (T6 (F0 (S1 (thn (hs aa s2 σ H2 x y v ov iv u _ I2 r1 r2 r q2) fun _ s3 ⟨H3,I3,q3⟩=>?_))));exact wpAny_release ⟨σ,H3,I3,q3⟩
def yW(te:TE) (g:TG):TS:=fun D σ H=>te σ H fun x H1=>g x σ H1 D.nx
theorem v7{tg e:J0}{te:TE}{g:TG}(he:PE X e te) (hg:PG X tg g) (hs:swapsWithSole [tg] e pos.line X.env=U9 false:=by rfl) (hw:swappedStores [tg] e X.env=U9 none:=by rfl)
  (h1:(N7 [tg] X.env).map (·.2)=[T5 tg X.env]:=by rfl):PS X (.Assign [tg] e pos) (yW te g):=by
 intro aa s σ H D I h;refine wpAny_Assign_stores (thn (he aa s σ H _ I h) fun v s1 hup=>hup.el fun x H1 I1 r1 q1=>?_) hs hw;rw[h1];exact thn (hg aa s1 σ H1 x v _ I1 r1 q1) fun _ s2 q=>q
theorem Bh{i:Nat}{x:Str}{e:J0}{te:TE}{pos':Pos}(hN:X.N.Nodup) (hi:X.N[i]?=some x) (hx:Loc X.env.scope x) (he:PE X e te) (hs:U6 e (some (.Name x pos')) pos.line X.env=U9 false:=by rfl) (hf:X.fn x=true∨X.env.scope.names.lookup x=some .local:=by first|exact .inl rfl|exact .inr rfl|assumption) :
  PS X (.Assign [.Name x pos'] e pos) (yW te (jZ i)):=by
 intro aa s σ H D I h;refine wpAny_Assign_Name (thn (he aa s σ H _ I h) fun v s1 hup=>hup.el fun y H1 I1 r1 q1=>?_) hs;exact k8 I1 hN hi hx r1 (fun s2 I2=>⟨_,H1,I2,q1⟩) hf
def Em(i:Nat) (te:TE) (ti:TIp):TS:=fun D σ H=>∃x,σ[i]?=some (some x)/\te σ H fun y H1=>ti x y H1 fun z H2=>D.nx (σ.set i (some z)) H2
theorem B3{i:Nat}{x:Str}{e:J0}{te:TE}{op:aa3}{ti:TIp}{pos':Pos}(hN:X.N.Nodup) (hi:X.N[i]?=some x) (hx:Loc X.env.scope x) (he:PE X e te) (ho:PIp X op ti) (hf:X.fn x=true∨X.env.scope.names.lookup x=some .local:=by first|exact .inl rfl|exact .inr rfl|assumption) :
  PS X (.AugAssign (.Name x pos') op e pos) (Em i te ti):=by
 intro aa s σ H D I h;obtain⟨v,e1,h⟩:=h;obtain⟨m,hn,hl⟩:=I.loc;have vis:Vis X.env.scope x:=by rcases hx with k|k;exact .inl k;exact .inr (.inl k)
 obtain⟨u,r,l⟩:=hl i x v hi e1 vis;refine wpAny_AugAssign_Name ?_;have go:J5 (J9 X.prog X.w) X.A (U0 e X.env) (fun w s₂=>J5 (J9 X.prog X.w) X.A (aa5 op u w) (fun r s₃=>J5 (J9 X.prog X.w) X.A (storeName X.env x r) (fun _=>SP X aa D .next) X.xe s₃) X.xe s₂) X.xe s:=by
  refine thn (he aa s σ H _ I h) fun w s1 hup=>hup.el fun y H1 I1 r1 q1=>?_;refine thn (ho aa s1 σ H1 v y u w _ I1 r r1 q1) fun z s2 hup=>hup.el fun zv H2 I2 r2 q2=>?_;exact k8 I2 hN hi hx r2 (fun s3 I3=>⟨_,H2,I3,q2⟩) hf
 rcases l with⟨hk,hm⟩|⟨hk,c,hc,hcell⟩
 ·exact wpAny_loadName_local I.ok.kind hk hn hm go
 ·rcases hk with hk|hk
  ·exact wpAny_loadName_cell I.ok.kind hk hc hcell go
  ·rcases hx with k|k
   ·have:X.env.scope.names.lookup x=some .free:=hk;rw[k]at this;cases this
   ·have:X.env.scope.names.lookup x=some .free:=hk;rw[k]at this;cases this
def ipI(f:Int->Int->Int):TIp:=fun x y H Q=>∃i j,x=.int i/\y=.int j/\Q (.int (f i j)) H
theorem Bj:PIp X .Add (ipI fun i j=>i+j):=by
 intro aa s σ H x y v u Q I r1 r2 h;obtain⟨i,j,e1,e2,q⟩:=h;subst e1;subst e2;obtain⟨t,rfl⟩:=r1;obtain⟨t',rfl⟩:=r2;exact iadd_int ⟨.int _,H,I.tok _,⟨_,rfl⟩,q⟩
end
section
variable{X:Cx}{pos:Pos}
def B2(c:TT) (tb:TS):TS:=fun D σ H=>∃W:Nat->St->Hp->Prop,(∃m,W m σ H)/\∀m σ H,W m σ H ->
 c σ H fun b H1=>if b=true then ∃N:St->Hp->Prop,(∀ σ' H',N σ' H'->∃m',m'<m/\W m' σ' H')/\tb { D with nx:=N,ct:=N,bk:=D.nx } σ H1 else D.nx σ H1
theorem uR{c:J0}{body:List X1}{tc:TT}{tb:TS}(hp:aa6 (J9 X.prog X.w) X.A X.env X.xe) (hc:PT X c tc) (hb:PSs X body tb):PS X (.While c body [] pos) (B2 tc tb):=by
 intro aa s σ H D I h;obtain⟨W,⟨m0,w0⟩,turn⟩:=h;refine wpAny_While (codeAny_whileLoop (fun n s'=>∃ σ' H',Inv X aa σ' H' s'/\W n σ' H') ?_ m0 ⟨σ,H,I,w0⟩);rintro n s1 ⟨σ1,H1,I1,w1⟩;refine P8 hp (thn (hc aa s1 σ1 H1 _ I1 (turn n σ1 H1 w1)) fun b s2 hup=>hup.el fun H2 I2 q2=>?_);cases b with
 |true =>
  obtain⟨N,hN,q2⟩:=q2;rw[if_pos rfl];refine P8 hp (thn (hb aa s2 σ1 H2 _ I2 q2) fun f s3 q3=>?_);cases f with
  |next =>
   obtain⟨σ3,H3,I3,n3⟩:=q3;obtain⟨m',hm,w3⟩:=hN σ3 H3 n3;exact⟨m',hm,σ3,H3,I3,w3⟩
  |cont =>
   obtain⟨σ3,H3,I3,n3⟩:=q3;obtain⟨m',hm,w3⟩:=hN σ3 H3 n3;exact⟨m',hm,σ3,H3,I3,w3⟩
  |brk=>exact q3
  |ret v=>exact q3
 |false =>
  rw[if_neg L9];exact V4 ⟨σ1,H2,I2,q2⟩
end
structure It where
 go:Nat->Hp->Prop
 yld:Nat->Hp->V->Hp->Prop
 stop:Nat->Hp->Prop
def cI(X:Cx) (aa:List (F5×Obj)) (H:Hp) (b:F5):Prop :=
 H b=none/\b≠X.env.locals/\b∉X.fs/\(b∈X.ex∨X.s₀.heap.objs.size<=b)/\(∀x c,X.env.cells.lookup x=some c->c≠b)/\∀p∈X.pn++aa,p.1≠b
theorem Inv.fpOk{X:Cx}{aa:List (F5×Obj)}{σ:St}{H H':Hp}{s:u8}{b:F5}(I:Inv X aa σ H s) (hb:s.heap.objs.size<=b) (hn:H' b=none):cI X aa H' b:=by
 refine⟨hn,R9 (F4 I.lt hb),I.nofs hb,.inr (K0 I.sz hb),fun x c e z=>?_,fun p hp z=>?_⟩
 ·obtain⟨v,q⟩:=I.cell x c e;exact absurd (F4 q.lt (by rw[z];exact hb)) (M8 _)
 ·exact absurd (F4 (F2 (I.pin p hp).1) (by rw[z];exact hb)) (M8 _)
structure iL(P:K2) (w:N4) (K:o0) (tg:J0) (J:It) (fp:List F5) (it:F5) (tn:Nat->K3->Prop):Prop where
 mem:it∈fp
 obj:∀i h,tn i h->∀b∈fp,∃o,h.get? b=some o/\∀v,o.data≠.cell v
 keep:∀i h h',tn i h->(∀b∈fp,∀o,h.get? b=some o->h'.get? b=some o)->tn i h'
 item:∀(X:Cx),X.prog=P->X.w=w->X.K=K->X.calm=true->∀(i:Nat) (aa:List (F5×Obj)) (s:u8) (σ:St) (H:Hp) (E:s0->u8->Prop),Inv X aa σ H s->(∀b∈fp,cI X aa H b)->tn i s.heap->J.go i H ->
  J5 (J9 P w) X.A (pyNext (.ref it)) (fun r s1=>∃u,r=some u /\
   J5 (J9 P w) X.A (S0 tg (.ref it) u) (fun _ s2=>∃x H',Inv X aa σ H' s2/\aA x u/\J.yld i H x H'/\tn (i+1) s2.heap/\∀b∈fp,H' b=none) E s1) E s
 done:∀(X:Cx),X.prog=P->X.w=w->X.K=K->X.calm=true->∀(i:Nat) (aa:List (F5×Obj)) (s:u8) (σ:St) (H:Hp) (E:s0->u8->Prop),Inv X aa σ H s->(∀b∈fp,cI X aa H b)->tn i s.heap->J.stop i H ->
  J5 (J9 P w) X.A (pyNext (.ref it)) (fun r s1=>r=none/\Inv X aa σ H s1) E s
 self:∀(A:L8) (i:Nat) (s:u8) (Q:s0->u8->Prop) (E:s0->u8->Prop),tn i s.heap->Q (.ref it) s->J5 (J9 P w) A (pyIter (.ref it)) Q E s
abbrev TI:=St->Hp->(It->Hp->Prop)->Prop
def PIE(X:Cx) (aa:List (F5×Obj)) (σ:St) (tg:J0) (R:It->Hp->Prop) (itv:s0) (s2:u8):Prop :=
 ∃(it:F5) (fp:List F5) (tn:Nat->K3->Prop) (J:It) (H':Hp),itv=.ref it/\Inv X aa σ H' s2/\iL X.prog X.w X.K tg J fp it tn/\tn 0 s2.heap/\(∀b∈fp,cI X aa H' b)/\R J H'
def PI(X:Cx) (tg iter:J0) (wi:TI):Prop :=
 ∀(aa:List (F5×Obj)) (s:u8) (σ:St) (H:Hp) (R:It->Hp->Prop),Inv X aa σ H s->wi σ H R ->
  J5 (J9 X.prog X.w) X.A (U0 iter X.env) (fun v s1=>J5 (J9 X.prog X.w) X.A (pyIter v) (PIE X aa σ tg R) X.xe s1) X.xe s
theorem lY{M:Model}{A:L8}{E:s0->u8->Prop}{s:u8}{tg:J0}{it:F5}{u:s0}{o:Obj}{n:String}{vs:Array s0}{Q:Unit->u8->Prop}(ho:s.heap.get? it=some o) (hc:o.cls=.type n) (hd:o.data=.fields vs)
    (hn:["enumerate","zip","dict_itemiterator","dict_reverseitemiterator","odict_iterator","itertools.zip_longest","itertools.pairwise"].contains n=false) (hQ:Q () s):J5 M A (S0 tg (.ref it) u) Q E s:=by
  unfold S0;cases tg<;>first
    |exact F9 hQ
    |(cases u<;>first
        |exact F9 hQ
        | (refine F0 (wpAny_load ho ?_)
           rw[hc,hd];show J5 M A (if(["enumerate","zip","dict_itemiterator","dict_reverseitemiterator","odict_iterator","itertools.zip_longest","itertools.pairwise"].contains n&&vs[0]?==some (rawInt _))=true then _ else _) Q E s;rw[if_neg (by intro h;rw[hn,Bool.false_and]at h;cases h)];exact F9 hQ))
def Itl(K:o0) (a:F5):It :=
 ⟨fun i H=>∃xs x,SqL K H a xs/\xs[i]?=some x,fun i H x H'=>H'=H/\∀xs,SqL K H a xs->xs[i]?=some x,fun i H=>∃xs,SqL K H a xs/\xs.length<=i⟩
def Itt(K:o0) (a:F5):It :=
 ⟨fun i H=>∃xs x,SqT K H a xs/\xs[i]?=some x,fun i H x H'=>H'=H/\∀xs,SqT K H a xs->xs[i]?=some x,fun i H=>∃xs,SqT K H a xs/\xs.length<=i⟩
def Itr(lo:Int) (n:Nat):It:=⟨fun i _=>i<n,fun i H x H'=>H'=H/\x=.int (lo+i),fun i _=>n<=i⟩
theorem mD{P:K2}{w:N4}{K:o0}{tg:J0}(a it:F5):iL P w K tg (Itl K a) [it] it (fun i h=>h.IsListIter it a i) where
 mem:=by simp
 obj:=fun i h st b hb=>by
  have e:b=it:=by simpa using hb
  subst e;obtain⟨o,e,c,d⟩:=st;exact⟨o,e,fun v z=>by rw[d]at z;cases z⟩
 keep:=fun i h h' st k=>st.at fun o e=>k it (by simp) o e
 item:=by
  intro X hP hw hK hc i aa s σ H E I hf st hg;subst hP hw hK;obtain⟨xs,x,hq,hx⟩:=hg;obtain⟨its,rv,p,hz⟩:=I.list hq;obtain⟨u,hu,ru⟩:=rv.get hx;obtain⟨f0,f1,f2,f3,f4,f5⟩:=hf it (by simp);refine wpAny_pyNext_list_item st p.isList (x:=u) (by simpa using hu) fun h' st' sb=>?_;have I1:Inv X aa σ H { s with heap:=h' }:=I.turned (t':=s.toks) (fun b o hb e=>(sb.2 b hb).trans e) f0 f1 f3 f4 f5;obtain⟨o,e,c,d⟩:=id st';exact⟨u,rfl,lY (s:={ s with heap:=h' }) e c d (by decide) ⟨x,H,I1,ru,⟨rfl,fun ys hy=>by rw[I.list_inj hy hq];exact hx⟩,st',fun b hb=>(hf b hb).1⟩⟩
 done:=by
  intro X hP hw hK hc i aa s σ H E I hf st hg;subst hP hw hK;obtain⟨xs,hq,hx⟩:=hg;obtain⟨its,rv,p,hz⟩:=I.list hq;obtain⟨f0,f1,f2,f3,f4,f5⟩:=hf it (by simp);have hl:=rv.length;exact wpAny_pyNext_list_end (I.ok.hd hc) st p.isList (by simp;lia) fun h' eb=>⟨rfl,I.turned (t':=s.toks) (fun b o hb e=>eb b o hb e) f0 f1 f3 f4 f5⟩
 self:=fun _ _ _ _ _ st h=>wpAny_pyIter_listiter st h
theorem qy{P:K2}{w:N4}{K:o0}{tg:J0}(a it:F5):iL P w K tg (Itt K a) [it] it (fun i h=>h.IsTupleIter it a i) where
 mem:=by simp
 obj:=fun i h st b hb=>by
  have e:b=it:=by simpa using hb
  subst e;obtain⟨o,e,c,d⟩:=st;exact⟨o,e,fun v z=>by rw[d]at z;cases z⟩
 keep:=fun i h h' st k=>st.at fun o e=>k it (by simp) o e
 item:=by
  intro X hP hw hK hc i aa s σ H E I hf st hg;subst hP hw hK;obtain⟨xs,x,hq,hx⟩:=hg;obtain⟨its,rv,p,hz⟩:=I.tuple hq;obtain⟨u,hu,ru⟩:=rv.get hx;obtain⟨f0,f1,f2,f3,f4,f5⟩:=hf it (by simp);refine wpAny_pyNext_tuple_item st (show s.heap.IsTuple a its.toArray from p) (x:=u) (by simpa using hu) fun h' st' sb=>?_;have I1:Inv X aa σ H { s with heap:=h' }:=I.turned (t':=s.toks) (fun b o hb e=>(sb.2 b hb).trans e) f0 f1 f3 f4 f5;obtain⟨o,e,c,d⟩:=id st';exact⟨u,rfl,lY (s:={ s with heap:=h' }) e c d (by decide) ⟨x,H,I1,ru,⟨rfl,fun ys hy=>by rw[I.tuple_inj hy hq];exact hx⟩,st',fun b hb=>(hf b hb).1⟩⟩
 done:=by
  intro X hP hw hK hc i aa s σ H E I hf st hg;subst hP hw hK;obtain⟨xs,hq,hx⟩:=hg;obtain⟨its,rv,p,hz⟩:=I.tuple hq;obtain⟨f0,f1,f2,f3,f4,f5⟩:=hf it (by simp);have hl:=rv.length;exact wpAny_pyNext_tuple_end (I.ok.hd hc) st (show s.heap.IsTuple a its.toArray from p) (by simp;lia) fun h' eb=>⟨rfl,I.turned (t':=s.toks) (fun b o hb e=>eb b o hb e) f0 f1 f3 f4 f5⟩
 self:=fun _ _ _ _ _ st h=>wpAny_pyIter_tupleiter st h
theorem qk{P:K2}{w:N4}{K:o0}{tg:J0}(it:F5) (lo:Int) (n:Nat):iL P w K tg (Itr lo n) [it] it (fun i h=>Z4 h it (lo+(i:Nat)*1) ((n:Int)-(i:Nat)) 1) where
 mem:=by simp
 obj:=fun i h st b hb=>by
  have e:b=it:=by simpa using hb
  subst e;exact⟨_,st,fun v z=>by
   have z':Data.fields _=Data.cell v:=z;cases z'⟩
 keep:=fun i h h' st k=>k it (by simp) _ st
 item:=by
  intro X hP hw hK hc i aa s σ H E I hf st hg;subst hP hw hK;obtain⟨f0,f1,f2,f3,f4,f5⟩:=hf it (by simp);have W:=Walks.range (prog:=X.prog) (w:=X.w) (I.ok.hd hc) it lo 1 n;refine W.item i s _ _ hg st fun v h' tk hv st' kk=>?_;obtain⟨t,rfl⟩:=hv;have I1:Inv X aa σ H { s with heap:=h',toks:=tk }:=I.turned (fun b o hb e=>kk b o (by simpa using hb) e) f0 f1 f3 f4 f5;refine⟨_,rfl,lY (s:={ s with heap:=h',toks:=tk }) (n:="range_iterator") st' rfl rfl (by decide) ⟨.int (lo+i),H,I1,⟨t,?_⟩,⟨rfl,rfl⟩,st',fun b hb=>(hf b hb).1⟩⟩;rw[Int.mul_one]
 done:=by
  intro X hP hw hK hc i aa s σ H E I hf st hg;subst hP hw hK;obtain⟨f0,f1,f2,f3,f4,f5⟩:=hf it (by simp);exact wpAny_pyNext_range_end (I.ok.hd hc) st (by have:n<=i:=hg;lia) fun h' eb=>⟨rfl,I.turned (t':=s.toks) (fun b o hb e=>eb b o hb e) f0 f1 f3 f4 f5⟩
 self:=fun _ _ _ _ _ st h=>wpAny_pyIter_rangeiter st h
section
variable{X:Cx}{tg:J0}
theorem vz{aa:List (F5×Obj)}{σ:St}{H:Hp}{s:u8}{R:It->Hp->Prop}{E:s0->u8->Prop}{lo hi:Int}{t u v:Tok}{tk:Nat}(I:Inv X aa σ H s) (h1:-(2 ^ 62)<=lo) (h2:lo<2 ^ 62) (h3:-(2 ^ 62)<=hi) (h4:hi<2 ^ 62)
  (q:R (Itr lo (hi-lo).toNat) H):J5 (J9 X.prog X.w) X.A (pyIter (.ref s.heap.objs.size)) (PIE X aa σ tg R) E { s with heap:=s.heap.push { cls:=.type "range",data:=.fields #[.int lo t,.int hi u,.int 1 v] },toks:=tk }:=by
 refine wpAny_pyIter_range (IsRange.new ..) (small_one h1 h2 h3 h4) ?_;have I1:Inv X aa σ H { s with heap:=s.heap.push { cls:=.type "range",data:=.fields #[.int lo t,.int hi u,.int 1 v] },toks:=tk }:=I.kept fun b o e=>E8 _ e;refine⟨(s.heap.push { cls:=.type "range",data:=.fields #[.int lo t,.int hi u,.int 1 v] }).objs.size,[(s.heap.push { cls:=.type "range",data:=.fields #[.int lo t,.int hi u,.int 1 v] }).objs.size],_,_,H,rfl,
  I1.kept (t':=tk) fun b o e=>E8 _ e,qk _ lo (hi-lo).toNat,?_,fun b hb=>?_,q⟩
 ·have e1:lo+((0:Nat):Int)*1=lo:=by simp
  have e2:(((hi-lo).toNat:Nat):Int)-((0:Nat):Int)=N1 lo hi 1:=by rw[rangeSize_one];split<;>lia
  show Z4 _ _ (lo+((0:Nat):Int)*1) ((((hi-lo).toNat:Nat):Int)-((0:Nat):Int)) 1;rw[e1,e2];exact H0 _ rfl
 ·have e:b=(s.heap.push { cls:=.type "range",data:=.fields #[.int lo t,.int hi u,.int 1 v] }).objs.size:=by simpa using hb
  subst e;exact I1.fpOk (F3 _) (I1.hok.fresh (F3 _))
def CS(ta:TA):TI:=fun σ H R=>ta σ H fun vs H1=>∃j:Int,vs=[.int j]/\-(2 ^ 62)<=j/\j<2 ^ 62/\R (Itr 0 j.toNat) H1
theorem sU{a:J0}{ta:TA}{p pos:Pos}(hg:Gl X "range") (hm:X.mg "range"=none) (ha:PA X [a] ta) (hs:I0 [a] X.env=[(false,U0 a X.env)]:=by rfl):PI X tg (.Call (.Name "range" p) [a] [] pos) (CS ta):=by
 intro aa s σ H R I h;refine Call_ (eI I hg hm boot_range (PyProof.Rows.callWith_type1 (thn (ha pos aa s σ H _ I h) fun us s1 hup=>hup.el fun vs H1 I1 r1 q1=>?_) hs rfl));obtain⟨j,e,q1,q2,q⟩:=q1;subst e;cases r1 with
 |cons r rr =>
  cases rr;obtain⟨t,rfl⟩:=r;exact call_range_1 (vz I1 (by decide) (by decide) q1 q2 (by simpa using q))
def Ez(wi:TI) (g:TG) (tb:TS):TS:=fun D σ H=>wi σ H fun J H1=>∃W:Nat->Nat->St->Hp->Prop,(∃m,W 0 m σ H1)/\∀i m σ H,W i m σ H ->
 (J.stop i H/\D.nx σ H)∨(J.go i H/\∃N:St->Hp->Prop,(∀ σ' H',N σ' H'->∃m',m'<m/\W (i+1) m' σ' H')/\∀x H',J.yld i H x H'->g x σ H' fun σ2 H2=>tb { D with nx:=N,ct:=N,bk:=D.nx } σ2 H2)
def gp(fp:List F5) (h:K3):List (F5×Obj):=fp.filterMap fun b=>(h.get? b).map fun o=>(b,o)
theorem cm{fp:List F5}{h:K3}{b:F5}{o:Obj}(hb:b∈fp) (e:h.get? b=some o):(b,o)∈gp fp h:=R6.mpr ⟨b,hb,by rw[e];rfl⟩
theorem lX{fp:List F5}{h:K3}{p:F5×Obj}(hp:p∈gp fp h):p.1∈fp/\h.get? p.1=some p.2:=by
 obtain⟨b,hb,e⟩:=R6.mp hp;cases q:h.get? b with
 |none=>rw[q]at e;cases e
 |some o =>
  rw[q]at e;have e':(b,o)=p:=J4 e;subst e';exact⟨hb,q⟩
theorem Inv.pinned{aa:List (F5×Obj)}{σ:St}{H:Hp}{s:u8}{fp:List F5}(I:Inv X aa σ H s) (hf:∀b∈fp,cI X aa H b) (ho:∀b∈fp,∃o,s.heap.get? b=some o/\∀v,o.data≠.cell v):Inv X (aa++gp fp s.heap) σ H s :=
 I.pins_of fun p hp=>(T0.mp hp).elim (fun z=>I.pin p (F6 _ z)) fun z=>by
  obtain⟨hb,e⟩:=lX z;obtain⟨f0,f1,f2,_⟩:=hf p.1 hb;obtain⟨o,e',d⟩:=ho p.1 hb;rw[e]at e';cases e';exact⟨e,f0,f1,f2,d⟩
theorem Inv.unpinned{aa pl:List (F5×Obj)}{σ:St}{H:Hp}{s:u8}(I:Inv X (aa++pl) σ H s):Inv X aa σ H s:=I.pins_of fun p hp=>I.pin p (F6 _ (List.mem_append_left _ hp))
theorem BD{iter:J0}{body:List X1}{wi:TI}{g:TG}{tb:TS}{pos:Pos}(hp:aa6 (J9 X.prog X.w) X.A X.env X.xe) (hc:X.calm=true) (hi:PI X tg iter wi) (hg:PG X tg g) (hb:PSs X body tb)
  (hs:∀x,M9 iter X.env x=U9 x:=by intro _;rfl):PS X (.For tg iter body [] pos) (Ez wi g tb):=by
 intro aa s σ H D I h;refine wpAny_For (thn (hi aa s σ H _ I h) fun v s1 h1=>thn h1 fun itv s2 h2=>?_) hs;obtain⟨it,fp,tn,J,H2,e,I2,T,st2,f2,W,⟨m0,w0⟩,turn⟩:=h2;subst e
 -- what stays true of the iterator's objects through the loop
 have stat:∀{H':Hp},(∀b∈fp,H' b=none)->∀b∈fp,cI X aa H' b:=fun hn b hb=>⟨hn b hb,(f2 b hb).2⟩;refine codeAny_forLoop_any (fun n s'=>∃i σ' H',Inv X aa σ' H' s'/\tn i s'.heap/\(∀b∈fp,H' b=none)/\W i n σ' H') ?_ m0 ⟨0,σ,H2,I2,st2,fun b hb=>(f2 b hb).1,w0⟩;rintro n s3 ⟨i,σ3,H3,I3,st3,fr3,w3⟩;rcases turn i n σ3 H3 w3 with⟨stop,qn⟩|⟨go,N,hN,step⟩
 ·refine P8 hp (thn (T.done X rfl rfl rfl hc i aa s3 σ3 H3 X.xe I3 (stat fr3) st3 stop) fun r s4 ⟨hr,I4⟩=>?_);subst hr;exact V4 ⟨σ3,H3,I4,qn⟩
 ·refine P8 hp (thn (T.item X rfl rfl rfl hc i aa s3 σ3 H3 X.xe I3 (stat fr3) st3 go) fun r s4 ⟨u,hr,h4⟩=>?_);subst hr;refine P8 hp (thn h4 fun _ s5 ⟨x,H5,I5,r5,y5,st5,fr5⟩=>?_);have I5':=I5.pinned (stat fr5) (T.obj _ _ st5);refine P8 hp (thn (hg _ s5 σ3 H5 x u _ I5' r5 (step x H5 y5)) fun _ s6 ⟨σ6,H6,I6,q6⟩=>?_);refine P8 hp (thn (hb _ s6 σ6 H6 _ I6 q6) fun f s7 q7=>?_);have again:∀{σ7:St} {H7:Hp},Inv X (aa++gp fp s5.heap) σ7 H7 s7->N σ7 H7->∃m,m<n/\∃i σ' H',Inv X aa σ' H' s7/\tn i s7.heap/\(∀b∈fp,H' b=none)/\W i m σ' H':=fun {σ7 H7} I7 n7=>by
   obtain⟨m',hm,w7⟩:=hN σ7 H7 n7;refine⟨m',hm,i+1,σ7,H7,I7.unpinned,T.keep _ _ _ st5 fun b hb o e=>(I7.pin (b,o) (F6 _ (F6 _ (cm hb e)))).1,fun b hb=>?_,w7⟩;obtain⟨o,e,d⟩:=T.obj _ _ st5 b hb;exact(I7.pin (b,o) (F6 _ (F6 _ (cm hb e)))).2.1
  cases f with
  |next=>obtain⟨σ7,H7,I7,n7⟩:=q7;exact again I7 n7
  |cont=>obtain⟨σ7,H7,I7,n7⟩:=q7;exact again I7 n7
  |brk=>obtain⟨σ7,H7,I7,q7⟩:=q7;exact⟨σ7,H7,I7.unpinned,q7⟩
  |ret v=>obtain⟨x7,σ7,H7,I7,r7,q7⟩:=q7;exact⟨x7,σ7,H7,I7.unpinned,r7,q7⟩
end
abbrev R2:=V->V->Hp->VK->Prop
def OpR(X:Cx) (f:s0->s0->Sem s0) (r:R2):Prop :=
 ∀(aa:List (F5×Obj)) (s:u8) (σ:St) (H:Hp) (x y:V) (v u:s0) (Q:VK),Inv X aa σ H s->aA x v->aA y u->r x y H Q ->
  J5 (J9 X.prog X.w) X.A (f v u) (EP X aa σ Q) X.xe s
def UnR(X:Cx) (f:s0->Sem s0) (r:V->Hp->VK->Prop):Prop :=
 ∀(aa:List (F5×Obj)) (s:u8) (σ:St) (H:Hp) (x:V) (v:s0) (Q:VK),Inv X aa σ H s->aA x v->r x H Q ->
  J5 (J9 X.prog X.w) X.A (f v) (EP X aa σ Q) X.xe s
def cb(X:Cx) (f:s0) (r:List V->Hp->VK->Prop):Prop :=
 ∀(aa:List (F5×Obj)) (s:u8) (σ:St) (H:Hp) (xs:List V) (us:List s0) (Q:VK),Inv X aa σ H s->av xs us->r xs H Q ->
  J5 (J9 X.prog X.w) X.A (call f us) (EP X aa σ Q) X.xe s
def tOp(r:R2) (ta tb:TE):TE:=fun σ H Q=>ta σ H fun x H1=>tb σ H1 fun y H2=>r x y H2 Q
def tUn(r:V->Hp->VK->Prop) (ta:TE):TE:=fun σ H Q=>ta σ H fun x H1=>r x H1 Q
def rI(C:Int->Int->Prop) (g:Int->Int->V):R2:=fun x y H Q=>∃i j,x=.int i/\y=.int j/\C i j/\Q (g i j) H
def rI0(g:Int->Int->V):R2:=fun x y H Q=>∃i j,x=.int i/\y=.int j/\Q (g i j) H
def rU(g:Int->V):V->Hp->VK->Prop:=fun x H Q=>∃i,x=.int i/\Q (g i) H
section
variable{X:Cx}{a b c:J0}{ta tb tc:TE}{pos:Pos}
theorem AX(ha:PE X a ta) (hb:PE X b tb) {aa:List (F5×Obj)}{s:u8}{σ:St}{H:Hp}{R:V->V->Hp->Prop}(I:Inv X aa σ H s)
  (h:ta σ H fun x H1=>tb σ H1 fun y H2=>R x y H2) {Q:s0->u8->Prop} {f:s0->s0->Sem s0}
  (hf:∀v u s2 x y H2,Inv X aa σ H2 s2->aA x v->aA y u->R x y H2->J5 (J9 X.prog X.w) X.A (f v u) Q X.xe s2) :
  J5 (J9 X.prog X.w) X.A (U0 a X.env) (fun v s₁=>J5 (J9 X.prog X.w) X.A (U0 b X.env) (fun u s₂=>J5 (J9 X.prog X.w) X.A (f v u) Q X.xe s₂) X.xe s₁) X.xe s:=by
 refine thn (ha aa s σ H _ I h) fun v s1 hup=>hup.el fun x H1 I1 r1 q1=>?_;refine thn (hb aa s1 σ H1 _ I1 q1) fun u s2 hup=>hup.el fun y H2 I2 r2 q2=>?_;exact hf v u s2 x y H2 I2 r1 r2 q2
theorem zt{op:aa3}{r:R2}(ho:OpR X (N5 op) r) (ha:PE X a ta) (hb:PE X b tb):PE X (.BinOp a op b pos) (tOp r ta tb):=by
 intro aa s σ H Q I h;exact wpAny_BinOp (AX ha hb I h fun v u s2 x y H2 I2 rx ry q=>ho aa s2 σ H2 x y v u Q I2 rx ry q)
theorem Dl{op:UnaryOp}{r:V->Hp->VK->Prop}(ho:UnR X (unaryOp op) r) (ha:PE X a ta):PE X (.UnaryOp op a pos) (tUn r ta):=by
 intro aa s σ H Q I h;exact UnaryOp_ (thn (ha aa s σ H _ I h) fun v s1 hup=>hup.el fun x H1 I1 r1 q1=>ho aa s1 σ H1 x v Q I1 r1 q1)
theorem opI{f:s0->s0->Sem s0}{C:Int->Int->Prop}{g:Int->Int->Int}
  (rule:∀(i j:Int) (t u:Tok) (s:u8) (Q:s0->u8->Prop) (E:s0->u8->Prop),C i j->Q (.int (g i j) s.toks) { s with toks:=s.toks+1 }->J5 (J9 X.prog X.w) X.A (f (.int i t) (.int j u)) Q E s) :
  OpR X f (rI C fun i j=>.int (g i j)):=by
 intro aa s σ H x y v u Q I rx ry h;obtain⟨i,j,rfl,rfl,hc,q⟩:=h;obtain⟨t,rfl⟩:=rx;obtain⟨t',rfl⟩:=ry;exact rule i j t t' s _ _ hc ⟨.int (g i j),H,I.tok _,⟨_,rfl⟩,q⟩
theorem DD{f:s0->s0->Sem s0}{g:Int->Int->Int}
  (rule:∀(i j:Int) (t u:Tok) (s:u8) (Q:s0->u8->Prop) (E:s0->u8->Prop),Q (.int (g i j) s.toks) { s with toks:=s.toks+1 }->J5 (J9 X.prog X.w) X.A (f (.int i t) (.int j u)) Q E s) :
  OpR X f (rI0 fun i j=>.int (g i j)):=by
 intro aa s σ H x y v u Q I rx ry h;obtain⟨i,j,rfl,rfl,q⟩:=h;obtain⟨t,rfl⟩:=rx;obtain⟨t',rfl⟩:=ry;exact rule i j t t' s _ _ ⟨.int (g i j),H,I.tok _,⟨_,rfl⟩,q⟩
theorem xB{f:s0->s0->Sem s0}{g:Int->Int->Bool}
  (rule:∀(i j:Int) (t u:Tok) (s:u8) (Q:s0->u8->Prop) (E:s0->u8->Prop),Q (.bool (g i j)) s->J5 (J9 X.prog X.w) X.A (f (.int i t) (.int j u)) Q E s) :
  OpR X f (rI0 fun i j=>.bl (g i j)):=by
 intro aa s σ H x y v u Q I rx ry h;obtain⟨i,j,rfl,rfl,q⟩:=h;obtain⟨t,rfl⟩:=rx;obtain⟨t',rfl⟩:=ry;exact rule i j t t' s _ _ ⟨.bl (g i j),H,I,rfl,q⟩
def jQ(i j:Int):Prop:=0<j/\j<1073741824
def oT(i j:Int):Prop:=0<=j/\j<=1000000/\i.natAbs<2 ^ 64
def iU(i j:Int):Prop:=(-(2 ^ 64)<i/\i<2 ^ 64)∨(-(2 ^ 64)<j/\j<2 ^ 64)
theorem iU.ok{i j:Int}(h:iU i j):IntMulOk i j:=by
 rcases h with⟨h1,h2⟩|⟨h1,h2⟩
 ·exact .of_left (intBits_le_64 h1 h2)
 ·exact .of_right (intBits_le_64 h1 h2)
theorem BI:OpR X (N5 .Add) (rI0 fun i j=>.int (i+j)):=DD fun _ _ _ _ _ _ _ q=>add_int q
theorem AU:OpR X (N5 .Sub) (rI0 fun i j=>.int (i-j)):=DD fun _ _ _ _ _ _ _ q=>sub_int q
theorem BC:OpR X (N5 .Mult) (rI iU fun i j=>.int (i*j)):=opI fun _ _ _ _ _ _ _ hc q=>mul_int q hc.ok
theorem yi:OpR X (N5 .FloorDiv) (rI jQ fun i j=>.int (i / j)):=opI fun i j _ _ _ _ _ hc q=>by
 have h1:(0:Int)<j:=hc.1;have h2:j<1073741824:=hc.2;exact floordiv_int (by lia) (by rw[Int.fdiv_eq_ediv_of_nonneg i (by exact U7 (by assumption))];exact q) (.inl (PyProof.noPylong_small (by lia)))
theorem Bo:OpR X (N5 .Mod) (rI (fun _ j=>0<j) fun i j=>.int (i % j)):=opI fun i j _ _ _ _ _ hc q=>by
 have h1:(0:Int)<j:=hc;exact mod_int' (by lia) (by rw[Int.fmod_eq_emod_of_nonneg i (by exact U7 (by assumption))];exact q)
theorem z8:OpR X (N5 .Pow) (rI oT fun i j=>.int (i ^ j.toNat)):=opI fun _ _ _ _ _ _ _ hc q=>pow_int_small hc.1 hc.2.1 hc.2.2 q
theorem unI{f:s0->Sem s0}{g:Int->Int}
  (rule:∀(i:Int) (t:Tok) (s:u8) (Q:s0->u8->Prop) (E:s0->u8->Prop),Q (.int (g i) s.toks) { s with toks:=s.toks+1 }->J5 (J9 X.prog X.w) X.A (f (.int i t)) Q E s) :
  UnR X f (rU fun i=>.int (g i)):=by
 intro aa s σ H x v Q I rx h;obtain⟨i,rfl,q⟩:=h;obtain⟨t,rfl⟩:=rx;exact rule i t s _ _ ⟨.int (g i),H,I.tok _,⟨_,rfl⟩,q⟩
theorem A2:UnR X (unaryOp .USub) (rU fun i=>.int (-i)):=unI fun _ _ _ _ _ q=>neg_int q
end
section
variable{X:Cx}{a b c:J0}{ta tb tc:TE}{pos:Pos}
theorem qB{aa:List (F5×Obj)}{σ:St}{H:Hp}{s:u8}{Q:VK}{k k':Bool}(I:Inv X aa σ H s) (q:Q (.bl k) H) (e:k=k'):EP X aa σ Q (.bool k') s:=by
 subst e;exact⟨.bl k,H,I,rfl,q⟩
theorem D2:OpR X (L3 .Lt) (rI0 fun i j=>.bl (decide (i<j))):=xB fun _ _ _ _ _ _ _ q=>lt_int q
theorem D8:OpR X (L3 .LtE) (rI0 fun i j=>.bl (decide (i<=j))):=xB fun _ _ _ _ _ _ _ q=>le_int q
theorem Ca:OpR X (L3 .Gt) (rI0 fun i j=>.bl (decide (j<i))):=xB fun _ _ _ _ _ _ _ q=>gt_int q
theorem C6:OpR X (L3 .GtE) (rI0 fun i j=>.bl (decide (j<=i))):=xB fun _ _ _ _ _ _ _ q=>ge_int q
theorem tX:OpR X (L3 .In) (fun x y H Q=>∃i j,x=.str i/\y=.str j/\Q (.bl (!(Q9 j i 0 j.length 1).isEmpty)) H):=by
 intro aa s σ H x y v u Q I rx ry h;obtain⟨i,j,rfl,rfl,q⟩:=h;obtain⟨t,rfl⟩:=rx;obtain⟨t',rfl⟩:=ry;exact in_str (qB I q rfl)
theorem Af:OpR X (L3 .Is) (fun x y H Q=>y=.non/\Q (.bl (decide (x=.non))) H):=by
 intro aa s σ H x y v u Q I rx ry h;obtain⟨rfl,q⟩:=h;cases ry;refine is_none_gen (qB I q ?_);cases x<;>first
  |(cases rx;rfl)
  |(obtain⟨t,rfl⟩:=rx;rfl)
theorem nP:OpR X (L3 .NotIn) (fun x y H Q=>∃i j,x=.str i/\y=.str j/\Q (.bl (!(!(Q9 j i 0 j.length 1).isEmpty))) H):=by
 intro aa s σ H x y v u Q I rx ry h;obtain⟨i,j,rfl,rfl,q⟩:=h;obtain⟨t,rfl⟩:=rx;obtain⟨t',rfl⟩:=ry;exact notIn_str (qB I q rfl)
theorem yh{op:ab1}{r:R2}(ho:OpR X (L3 op) r) (ha:PE X a ta) (hb:PE X b tb) (hm:Q7 op b=false):PE X (.Compare a [op] [b] pos) (tOp r ta tb):=by
 intro aa s σ H Q I h;exact wpAny_Compare1 (AX ha hb I h fun v u s2 x y H2 I2 rx ry q=>ho aa s2 σ H2 x y v u Q I2 rx ry q) hm
def zQ(t:TE):TT:=fun σ H Q=>t σ H fun x H'=>∃k,x=.bl k/\Q k H'
theorem yH{op:ab1}{r:R2}(ho:OpR X (L3 op) r) (ha:PE X a ta) (hb:PE X b tb) (hm:Q7 op b=false):PT X (.Compare a [op] [b] pos) (zQ (tOp r ta tb)):=by
 intro aa s σ H Q I h;refine wpAny_isTrue_Compare1 (thn (ha aa s σ H _ I h) fun v s1 hup=>hup.el fun x H1 I1 r1 q1=>thn (hb aa s1 σ H1 _ I1 q1) fun u s2 hup=>hup.el fun y H2 I2 r2 q2 =>
  thn (ho aa s2 σ H2 x y v u _ I2 r1 r2 q2) fun c s3 ⟨z,H3,I3,r3,k,e,q3⟩=>?_) hm
 subst e;cases r3;exact P6 ⟨H3,I3,q3⟩
theorem iT:(E9:Nat)<2 ^ 63:=by rw[sizeLine_eq];decide
theorem qp:OpR X (N5 .Add) (fun x y H Q=>∃i j,x=.str i/\y=.str j/\i.length+j.length<=E9/\Q (.str (i++j)) H):=by
 intro aa s σ H x y v u Q I rx ry h;obtain⟨i,j,rfl,rfl,hz,q⟩:=h;obtain⟨t,rfl⟩:=rx;obtain⟨t',rfl⟩:=ry;exact add_str (fun t' tk=>⟨.str (i++j),H,I.tok _,⟨_,rfl⟩,q⟩) hz
theorem o5{x:V}{us:List s0}(r:av [x] us):∃u,us=[u]/\aA x u:=by
 cases r with
 |cons r1 r2=>cases r2;exact⟨_,rfl,r1⟩
theorem wJ{x y:V}{us:List s0}(r:av [x,y] us):∃u w',us=[u,w']/\aA x u/\aA y w':=by
 cases r with
 |cons r1 r2 =>
  cases r2 with
  |cons r3 r4=>cases r4;exact⟨_,_,rfl,r1,r3⟩
theorem wY:cb X (.builtin "abs") (fun xs H Q=>∃i,xs=[.int i]/\Q (.int (if i<0 then -i else i)) H):=by
 intro aa s σ H xs us Q I r h;obtain⟨i,rfl,q⟩:=h;obtain⟨u,rfl,t,rfl⟩:=o5 r;exact call_abs_int fun u tk=>⟨.int (if i<0 then -i else i),H,I.tok _,⟨_,rfl⟩,q⟩
theorem uc(hc:X.calm=true):cb X (.builtin "max") (fun xs H Q=>∃i j,xs=[.int i,.int j]/\Q (.int (if j > i then j else i)) H):=by
 intro aa s σ H xs us Q I r h;obtain⟨i,j,rfl,q⟩:=h;obtain⟨u,w',rfl,⟨t,rfl⟩,⟨t',rfl⟩⟩:=wJ r;refine max_two_ints (I.ok.hd hc) fun h' tk k=>⟨_,H,I.kept k,?_,q⟩
 by_cases hj:j > i
 ·rw[if_pos hj,if_pos hj];exact⟨_,rfl⟩
 ·rw[if_neg hj,if_neg hj];exact⟨_,rfl⟩
theorem tL(hc:X.calm=true):cb X (.builtin "min") (fun xs H Q=>∃i j,xs=[.int i,.int j]/\Q (.int (if j<i then j else i)) H):=by
 intro aa s σ H xs us Q I r h;obtain⟨i,j,rfl,q⟩:=h;obtain⟨u,w',rfl,⟨t,rfl⟩,⟨t',rfl⟩⟩:=wJ r;refine min_two_ints (I.ok.hd hc) fun h' tk k=>⟨_,H,I.kept k,?_,q⟩
 by_cases hj:j<i
 ·rw[if_pos hj,if_pos hj];exact⟨_,rfl⟩
 ·rw[if_neg hj,if_neg hj];exact⟨_,rfl⟩
theorem oB:cb X (.builtin "divmod") (fun xs H Q=>∃i j,xs=[.int i,.int j]/\jQ i j/\∀p,H p=none->Q (.ref p) (upd H p (.tup [.int (i / j),.int (i % j)]))):=by
 intro aa s σ H xs us Q I r h;obtain⟨i,j,rfl,⟨h1,h2⟩,q⟩:=h;obtain⟨u,w',rfl,⟨t,rfl⟩,⟨t',rfl⟩⟩:=wJ r;refine divmod_int (by lia) ?_ (.inl (PyProof.noPylong_small (by lia)));rw[Int.fdiv_eq_ediv_of_nonneg i (by exact U7 (by assumption)),Int.fmod_eq_emod_of_nonneg i (by exact U7 (by assumption))];have hn:H s.heap.objs.size=none:=I.hok.fresh (F3 _);refine⟨.ref s.heap.objs.size,_,?_,rfl,q _ hn⟩;refine I.laid (fun b o e=>E8 _ e) (F3 _) ⟨by simp only[R4,V5];rw[sizeLine_eq];decide,[.int (i / j) s.toks,.int (i % j) (s.toks+1)],.cons ⟨_,rfl⟩ (.cons ⟨_,rfl⟩ .nil),?_⟩;exact⟨_,H0 s.heap rfl,rfl,⟨0,rfl⟩,rfl⟩
end
structure E7(h:K3) (x dx C:F5) (mA:Str->Option s0):Prop where
 obj:h.get? x=some (PySem.W.instObj C dx)
 ns:h.Ns1 dx mA
 ne:dx≠x
theorem jt.some_of{v:V}{o:Option s0}(r:jt (some v) o):∃u,o=some u/\aA v u:=by
 cases o with
 |none=>exact(show False from r).elim
 |some u=>exact⟨u,rfl,r⟩
structure Cls(K:o0) (C:F5):Prop where
 pg:PySem.W.plainGet K C Str.empty=true
 hd:PySem.W.hasDictIn K C=true
 po:PySem.W.plainOver K C=true
 sa:PySem.W.findIn K (.ref C) "__setattr__"=some (some (.builtin "object.__setattr__"))
theorem Cls.get{K:o0}{C:F5}(c:Cls K C) (f:Str):PySem.W.plainGet K C f=true:=c.pg
section
variable{X:Cx}{aa:List (F5×Obj)}{σ:St}{H:Hp}{s:u8}{A:L8}{E:s0->u8->Prop}{Q:s0->u8->Prop}{c:s0}{b:Bool}
inductive jR (K:o0) (H:Hp):V->s0->Prop where
 |non:jR K H .non (.type "NoneType")
 |bl (x:Bool):jR K H (.bl x) (.type "bool")
 |int (i:Int):jR K H (.int i) (.type "int")
 |str (x:Str):jR K H (.str x) (.type "str")
 |flt (x:UInt64):jR K H (.flt x) (.type "float")
 |lst {a:F5} {xs:List V} (e:H a=some (.lst xs)):jR K H (.ref a) (.type "list")
 |frz {a:F5} {o:Obj} {xs:List V} (e:H a=some (.frz o (.lst xs))):jR K H (.ref a) (.type "list")
 |tup {a:F5} {xs:List V} (e:H a=some (.tup xs)):jR K H (.ref a) (.type "tuple")
 |dK {a:F5} {kvs:List (Key×V)} (e:H a=some (.dK kvs)):jR K H (.ref a) (.type "dict")
 |dT {a:F5} {kvs:List (List Key×V)} (e:H a=some (.dT kvs)):jR K H (.ref a) (.type "dict")
 | ins {a C dx:F5} {fs:List (Str × V)} (e:H a = some (.ins C dx fs)) (cl:Cls K C) (ha:PySem.W.findIn K (.ref C) "__class__" = some (some (.builtin "object.__class__")))
   (hn:PySem.W.specialIn K (.builtin "object.__class__") "__get__"=some (some (.builtin "getset_descriptor.__get__"))) (htk:PySem.W.takesIn K (.builtin "object.__class__")=some true)
   (hm:PySem.W.mroIn K C (.type "object")=some true):jR K H (.ref a) (.ref C)
end
structure cj(k:Nat) (A:L8):Prop where
 hd:A.handled=none
 dp:A.depth+3*k+5<recursionLimit
 un:A.units+16*k+200<V6
theorem cj.mono{j k:Nat}{A:L8}(r:cj k A) (h:j<=k):cj j A:=⟨r.hd,by have:=r.dp;lia,by have:=r.un;lia⟩
theorem cj.deeper{k:Nat}{A:L8}(r:cj (k+1) A) (env:Env):cj k (A.deeper env) :=
 ⟨r.hd,by have:=r.dp;show A.depth+1+3*k+5<_;lia,by have:=r.un;show A.units+3+16*k+200<_;lia⟩
theorem cj.depth{k:Nat}{A:L8}(r:cj k A):A.depth<recursionLimit:=by have:=r.dp;lia
theorem cj.units{k:Nat}{A:L8}(r:cj k A):A.units+64<V6:=by have:=r.un;lia
theorem cj.units0{k:Nat}{A:L8}(r:cj k A):A.units<V6:=by have:=r.un;lia
def EN:TA:=fun _ H Q=>Q [] H
def DR(ta:TE) (tr:TA):TA:=fun σ H Q=>ta σ H fun x H1=>tr σ H1 fun xs H2=>Q (x::xs) H2
section
variable{X:Cx}{e:J0}{es:List J0}{te:TE}{t:TA}{pos:Pos}
theorem ql:PA X [] EN:=fun _ _ _ _ H Q I h=>Calls.spliced_nil ⟨[],H,I,.nil,h⟩
theorem jw(ha:PE X e te) (hr:PA X es t) (hs:I0 (e::es) X.env=(false,U0 e X.env)::I0 es X.env:=by rfl):PA X (e::es) (DR te t):=by
 intro pos aa s σ H Q I h;rw[hs];show J5 _ _ (spliced ((false,U0 e X.env)::T4 pos (I0 es X.env))) _ _ s;refine Calls.spliced_cons (thn (ha aa s σ H _ I h) fun u s1 hup=>hup.el fun x H1 I1 r1 q1=>?_);exact thn (hr pos aa s1 σ H1 _ I1 q1) fun us s2 hup=>hup.el fun xs H2 I2 r2 q2=>⟨x::xs,H2,I2,.cons r1 r2,q2⟩
def xm(t:TA):TE:=fun σ H Q=>t σ H fun xs H1=>xs.length<=E9/\∀p,H1 p=none->Q (.ref p) (upd H1 p (.tup xs))
def Et(t:TA):TE:=fun σ H Q=>t σ H fun xs H1=>xs.length<=E9/\∀p,H1 p=none->Q (.ref p) (upd H1 p (.lst xs))
theorem gz{x1}(h:PA X es t):PE X (.Tuple es x1 pos) (xm t):=by
 intro aa s σ H Q I hq;refine wpAny_Tuple_spliced (thn (h pos aa s σ H _ I hq) fun us s1 ⟨xs,H1,I1,r,z,q⟩=>⟨by rw[<-r.length];exact z,?_⟩);have hf:H1 s1.heap.objs.size=none:=I1.hok.fresh (F3 _);refine⟨.ref s1.heap.objs.size,upd H1 s1.heap.objs.size (.tup xs),I1.laid (t':=s1.toks) (fun b u e=>E8 _ e) (F3 _) ?_,rfl,q _ hf⟩;exact⟨z,us,r,⟨_,H0 _ rfl,rfl,⟨_,rfl⟩,rfl⟩⟩
theorem vK(h:PA X es t):PE X (.List es pos) (Et t):=by
 intro aa s σ H Q I hq;refine wpAny_List_spliced (thn (h pos aa s σ H _ I hq) fun us s1 ⟨xs,H1,I1,r,z,q⟩=>⟨by rw[<-r.length];exact z,?_⟩);have hf:H1 s1.heap.objs.size=none:=I1.hok.fresh (F3 _);refine⟨.ref s1.heap.objs.size,upd H1 s1.heap.objs.size (.lst xs),I1.laid (t':=s1.toks) (fun b u e=>E8 _ e) (F3 _) ?_,rfl,q _ hf⟩;exact⟨z,us,0,r,H0 _ rfl⟩
end
abbrev Sp:=List V->Hp->VK->XK->Prop
abbrev CXT:=List Env->Hp->u8->XK->s0->u8->Prop
structure yY(P:K2) (w:N4) (K:o0) (mg:Str->Option s0) (base:K3) (A:L8) (outer:List Env) (s:u8) (H:Hp):Prop where
 frames:A.frames=some outer
 mod:Mod K mg base
 bs:∀b o,base.get? b=some o->s.heap.get? b=some o/\H b=none
 bsz:base.objs.size<=s.heap.objs.size
 funs:s.heap.FunFrames base outer
 frf:∀b∈frs outer,H b=none
 hok:HOk P w H s.heap
 bare:W1 s.gens
def CE(outer:List Env) (P:K2) (w:N4) (H:Hp) (s:u8) (Q:VK) (u:s0) (s':u8):Prop :=
 ∃v H',s'.os=s.os/\W1 s'.gens/\Un (frs outer) [] H H' s.heap s'.heap/\HOk P w H' s'.heap/\aA v u/\Q v H'
def CR(CX:CXT) (outer:List Env) (P:K2) (w:N4) (H:Hp) (s:u8) (Q:VK) (E:XK) (r:aa7) (s':u8):Prop :=
 match r with
 |.ok (.ret u)=>CE outer P w H s Q u s'
 |.ok _=>False
 |.error e=>CX outer H s E e s'
structure bo(P:K2) (w:N4) (K:o0) (mg:Str->Option s0) (base:K3) (CX:CXT) (k:Nat) (f:F5) (fd:P3) (ps:List Str) (sp:Sp):Prop where
 len:∀vs H Q E,sp vs H Q E->vs.length=ps.length
 run:∀(A:L8) (outer:List Env) (s:u8) (H:Hp) (args:Args) (us:List s0) (vs:List V) (Q:VK) (E:XK),cj k A->yY P w K mg base A outer s H->aa8 s fd args (ps.zip us)->av vs us->sp vs H Q E ->
  V0 (J9 P w) A (.call (.ref f) args) (CR CX outer P w H s Q E) s
section
variable{X:Cx}{aa:List (F5×Obj)}{σ:St}{H:Hp}{s s':u8}
theorem Inv.env0(I:Inv X aa σ H s):yY X.prog X.w X.K X.mg X.base X.A X.stack s H :=
 ⟨I.ok.frames,I.ok.mod,I.bs,K0 I.ok.bsz I.sz,I.stack,I.stkFree,I.hok,I.bare⟩
theorem Inv.after{Q:VK}{u:s0}(I:Inv X aa σ H s) (h:CE X.stack X.prog X.w H s Q u s'):EP X aa σ Q u s':=by
 obtain⟨v,H',os,bare,un,hok,r,q⟩:=h;obtain⟨hh,g,d,t,os'⟩:=s';obtain rfl:os'=s.os:=os;exact⟨v,H',I.call (h':=hh) (g':=g) (d':=d) (t':=t) (ch:=[]) un hok bare (fun b z=>absurd z (by simp)),r,q⟩
end
def DZ(sp:Sp) (dvs:List V) (E:XK) (t:TA):TE:=fun σ H Q=>t σ H fun vs H1=>sp (vs++dvs) H1 Q E
def cZ(K:o0) (fd:P3) (ps:List Str) (ds:List s0):Prop :=
 ∀(s:u8) (us:List s0),K.In s.heap->(us++ds).length=ps.length->aa8 s fd ⟨us,[]⟩ (ps.zip (us++ds))
theorem cZ.all{K:o0}{fd:P3}{ps:List Str}(h:∀us:List s0,us.length=ps.length->bindArgs fd ⟨us,[]⟩=U9 (ps.zip us)):cZ K fd ps []:=fun s us _ hl=>by
 rw[V7]at hl ⊢;exact .of_eq (h us hl)
def qS(CX:CXT) (X:Cx) (E:XK):Prop:=∀(aa:List (F5×Obj)) (σ:St) (H:Hp) (s:u8) (e:s0) (s':u8),Inv X aa σ H s->CX X.stack H s E e s'->X.xe e s'
section
variable{X:Cx}{CX:CXT}{k:Nat}{f C:F5}{fd:P3}{ps:List Str}{sp:Sp}{dvs:List V}{ds:List s0}{E:XK}{x m:Str}{p pos dv:Pos}{e o:J0}{es:List J0}{ta:TE}{t:TA}
theorem Ak{aa:List (F5×Obj)}{σ:St}{H:Hp}{s:u8}{Q:VK}{us:List s0}{vs:List V}(F:bo X.prog X.w X.K X.mg X.base CX k f fd ps sp) (hr:cj k X.A) (hb:cZ X.K fd ps ds) (hd:av dvs ds) (hx:qS CX X E)
  (I:Inv X aa σ H s) (r:av vs us) (h:sp (vs++dvs) H Q E):J5 (J9 X.prog X.w) X.A (call (.ref f) us) (EP X aa σ Q) X.xe s:=by
 have r2:av (vs++dvs) (us++ds):=r.append hd;have hl:(us++ds).length=ps.length:=by rw[<-r2.length];exact F.len _ _ _ _ h
 refine wpAny_call (codeAny_mono (F.run X.A X.stack s H ⟨us,[]⟩ (us++ds) (vs++dvs) Q E hr I.env0 (hb s us I.kIn hl) r2 h) fun r s' hq=>?_);cases r with
 |error e=>exact hx aa σ H s e s' I hq
 |ok fl =>
  cases fl with
  |ret u=>exact I.after hq
  |next=>exact P7 hq
  |brk=>exact P7 hq
  |cont=>exact P7 hq
theorem ym(F:bo X.prog X.w X.K X.mg X.base CX k f fd ps sp) (hr:cj k X.A) (hg:Gl X x) (hm:X.mg x=some (.ref f)) (hk:S7 X.K (.ref f)=true) (hb:cZ X.K fd ps ds) (hd:av dvs ds) (hx:qS CX X E)
  (ha:PA X (e::es) t) (hdb:(x==("__debug__":Str))=false:=by decide) (he:I0 (e::es) X.env=(false,U0 e X.env)::I0 es X.env:=by rfl) (hpl:(T4 pos (I0 es X.env)).any (·.1)=false:=by rfl) :
  PE X (.Call (.Name x p) (e::es) [] pos) (DZ sp dvs E t):=by
 intro aa s σ H Q I h;refine wpAny_Call_Name_kw (xY I hg hm ?_ hdb);refine PySem.W.callWith_K (h₀:=X.base) I.ok.mod.kin hk (thn (ha pos aa s σ H _ I h) fun us s1 hup=>hup.el fun vs H1 I1 r q=>⟨I1.kIn,?_⟩) he hpl;exact Ak F hr hb hd hx I1 r q
structure Mk(K:o0) (C f:F5):Prop where
 makes:PySem.W.makesIn K C=true
 init:PySem.W.findIn K (.ref C) "__init__"=some (some (.ref f))
 fn:PySem.W.isFn K (.ref f)=true
 kp:S7 K (.ref C)=true
end
section
variable{X:Cx}{CX:CXT}{k:Nat}{f C:F5}{fd:P3}{ps ks:List Str}{sp:Sp}{E:XK}{x m:Str}{p pos dv kpos:Pos}{e o:J0}{es:List J0}{kws:List X4}{te ta:TE}{t tk:TA}{nm:Option Str}
structure EX(K:o0) (fd:P3) (ps ks:List Str) (g:List s0->List s0->List s0) (gV:List V->List V->List V):Prop where
 to:∀(s:u8) (us ws:List s0),K.In s.heap->(g us ws).length=ps.length->aa8 s fd ⟨us,ks.zip ws⟩ (ps.zip (g us ws))
 rel:∀{vs:List V} {us:List s0} {zs:List V} {ws:List s0},av vs us->av zs ws->av (gV vs zs) (g us ws)
variable{g:List s0->List s0->List s0}{gV:List V->List V->List V}
end
structure ay(N P:List Str) (sc:O9):Prop where
 kind:sc.kind=.function
 co:sc.isCoroutine=false
 gen:sc.isGenerator=false
 nd:N.Nodup
 pre:N.take P.length=P
 par:∀x∈P,sc.names.lookup x=some .local∨sc.names.lookup x=some .cell
 nofree:∀y∈sc.names,y.2≠.free
theorem mF{W3:Str->Option J3}{x:Str}:∀{binds:List (Str×s0)}{m:Str->Option s0},(∀v,(x,v)∉binds)->bindL W3 binds m x=m x
 |[],_,_=>rfl
 |(n,v)::r,m,h=>by
  unfold bindL;rw[mF fun w hw=>h w (K5 _ hw)]
  split
  ·have:x≠n:=by rintro rfl;exact h v L5
   simp[this]
  ·rfl
theorem mR{W3:Str->Option J3}{x:Str}:∀{binds:List (Str×s0)}{m:Str->Option s0},(∀v,(x,v)∉binds)->bindC W3 binds m x=m x
 |[],_,_=>rfl
 |(n,v)::r,m,h=>by
  unfold bindC;rw[mR fun w hw=>h w (K5 _ hw)]
  split
  ·rfl
  ·have:x≠n:=by rintro rfl;exact h v L5
   simp[this]
theorem l9{W3:Str->Option J3}{x:Str}{v:s0}:∀{P:List Str}{vs:List s0}{i:Nat}{m:Str->Option s0},P.Nodup->P[i]?=some x->vs[i]?=some v->W3 x=some .local ->
  bindL W3 (P.zip vs) m x=some v
 |[],_,_,_,_,h,_,_=>by simp at h
 |_::_,[],_,_,_,_,h,_=>by simp at h
 |p::P,w::vs,0,m,nd,h1,h2,hk=>by
  simp at h1 h2;subst h1;subst h2;show bindL W3 ((p,w)::P.zip vs) m p=_;unfold bindL;rw[mF fun v hv=>(T7.mp nd).1 (List.of_mem_zip hv).1,if_pos hk];simp
 |p::P,w::vs,i+1,m,nd,h1,h2,hk=>by
  show bindL W3 ((p,w)::P.zip vs) m x=_;unfold bindL;exact l9 (i:=i) (T7.mp nd).2 (by simpa using h1) (by simpa using h2) hk
theorem mv{W3:Str->Option J3}{x:Str}{v:s0}:∀{P:List Str}{vs:List s0}{i:Nat}{m:Str->Option s0},P.Nodup->P[i]?=some x->vs[i]?=some v->W3 x≠some .local ->
  bindC W3 (P.zip vs) m x=some v
 |[],_,_,_,_,h,_,_=>by simp at h
 |_::_,[],_,_,_,_,h,_=>by simp at h
 |p::P,w::vs,0,m,nd,h1,h2,hk=>by
  simp at h1 h2;subst h1;subst h2;show bindC W3 ((p,w)::P.zip vs) m p=_;unfold bindC;rw[mR fun v hv=>(T7.mp nd).1 (List.of_mem_zip hv).1,if_neg hk];simp
 |p::P,w::vs,i+1,m,nd,h1,h2,hk=>by
  show bindC W3 ((p,w)::P.zip vs) m x=_;unfold bindC;exact mv (i:=i) (T7.mp nd).2 (by simpa using h1) (by simpa using h2) hk
def fI(N:List Str) (vs:List V):St:=vs.map some++F8 (N.length-vs.length) none
noncomputable def pN(CX:CXT) (P:K2) (w:N4) (K:o0) (mg:Str->Option s0) (base:K3) (N:List Str) (qual:Str) (scope:O9) (f:F5) (cd:s0) (A:L8) (outer:List Env) (s:u8) (H:Hp) (E:XK):Cx where
 prog:=P
 w:=w
 K:=K
 mg:=mg
 base:=base
 A:=A.deeper (Z9 qual scope s.heap.objs.size f cd)
 N:=N
 s₀:=s
 H₀:=H
 env:=Z9 qual scope s.heap.objs.size f cd
 outer:=outer
 stack:=Z9 qual scope s.heap.objs.size f cd::outer
 ex:=[]
 calm:=true
 fn:=fun _=>true
 pn:=[]
 xe:=fun e s'=>J5 (J9 P w) (A.deeper (Z9 qual scope s.heap.objs.size f cd)) (leaving (Z9 qual scope s.heap.objs.size f cd) e) (fun _ s''=>CX outer H s E e s'') (fun e' s''=>CX outer H s E e' s'') s'
theorem pV{sc:O9}{n:Nat}{x:Str}(h:sc.names.lookup x=some .cell):∃c,(N6 n sc.names []).lookup x=some c:=by
 have q:=M0 sc.names n [] (.inl h);exact N0.mp q
theorem tw{CX:CXT}{P:K2}{w:N4}{K:o0}{mg:Str->Option s0}{base:K3}{N ps:List Str}{qual:Str}{scope:O9}{f:F5}{cd:s0}{A:L8}{outer:List Env}{s s1:u8}{H:Hp}{E:XK}{us:List s0}{vs:List V}
  (S:ay N ps scope) (hd:A.handled=none) (e0:yY P w K mg base A outer s H) (hl:vs.length=ps.length) (r:av vs us)
  (x:InCallC s s.heap.objs.size (bindL (Z9 qual scope s.heap.objs.size f cd).kindOf (ps.zip us) fun _=>none) (N6 (s.heap.objs.size+1) scope.names []) (bindC (Z9 qual scope s.heap.objs.size f cd).kindOf (ps.zip us) fun _=>none) s1) :
  Inv (pN CX P w K mg base N qual scope f cd A outer s H E) [] (fI N vs) H s1:=by
 have hpl:ps.length<=N.length:=by have:=congrArg W5 S.pre;rw[List.length_take]at this;lia
 obtain⟨h1,tk,rfl,hk⟩:=x.done;have noA:∀b:F5,b∉(pN CX P w K mg base N qual scope f cd A outer s H E).ex:=fun b z=>absurd (show b∈([]:List F5)from z) (by simp);refine⟨⟨e0.mod,S.kind,rfl,rfl,F3 _,fun y z c h1 h2=>?_,fun y hy=>?_,fun y c _ h=>?_,fun _=>hd,L8.frames_deeper e0.frames,.inr ⟨rfl,rfl⟩,fun b z=>absurd z (noA b),e0.bs,e0.bsz,fun b _ _=>noA b,fun b z=>absurd z (noA b),e0.funs,e0.frf⟩,
  rfl,e0.bare,Un.kept hk,⟨_,x.toInCall.ns,fun i y v h1 h2 h3=>?_⟩,fun y c h=>⟨_,x.cell y c h⟩,e0.hok.fresh (F3 _),fun y c h=>?_,fun p hp=>absurd (show p∈([]:List (F5×Obj))from hp) (by simp),e0.hok.kept hk,?_⟩
 ·exact name_of_addr x.apart (J6 h1) (J6 h2)
 ·have hy:scope.names.lookup y=some .cell∨scope.names.lookup y=some .free:=hy;rcases hy with hy|hy
  ·exact pV hy
  ·exact absurd rfl (S.nofree _ (J6 hy))
 ·exact S9 (x.above y c (J6 h))
 ·have hi:i<vs.length:=by
   unfold fI at h2
   by_cases hi:i<vs.length
   ·exact hi
   ·rw[O7 (by simpa using hi)]at h2;rw[R0]at h2
    split at h2<;>cases h2
  have ha:vs[i]?=some v:=by
   unfold fI at h2;rw[K6 (by simpa using hi),N8]at h2;cases e:vs[i]? with
   |none=>rw[e]at h2;cases h2
   |some a=>rw[e]at h2;cases h2;rfl
  obtain⟨u,hu,rv⟩:=r.get ha;have hp:ps[i]?=some y:=by
   rw[<-S.pre,List.getElem?_take_of_lt (by lia)];exact h1
  have ndP:ps.Nodup:=by rw[<-S.pre];exact S.nd.sublist (List.take_sublist _ _)
  refine⟨u,rv,?_⟩;rcases S.par y (List.mem_of_getElem? hp)with k|k
  ·exact .inl ⟨k,l9 ndP hp hu k⟩
  ·obtain⟨c,e⟩:=pV (n:=s.heap.objs.size+1) k;refine .inr ⟨.inl k,c,e,?_⟩;have q:=x.cell y c e;rw[mv ndP hp hu (by show scope.names.lookup y≠_;rw[k];decide)]at q;exact q
 ·exact e0.hok.fresh (S9 (x.above y c (J6 h)))
 ·unfold fI;show _=N.length;rw[L1,T8,List.length_replicate]
  lia
theorem DG{CX:CXT}{P:K2}{w:N4}{K:o0}{mg:Str->Option s0}{base:K3}{k:Nat}{f:F5}{name qual:Str}{params:Arguments}{body:List X1}{scope:O9}{dV kV doc pm cdv ct oc:s0}{an od:Option F5}
  {osl:Array (Option s0)} {N ps:List Str} {sp:Sp} (lk:K.lookup f=some ⟨oc,od,.func (U8 name qual params body scope dV kV doc pm an cdv ct),osl⟩) (hcd:PySem.W.codeIn K cdv qual=true) (S:ay N ps scope)
  (len:∀vs H Q E,sp vs H Q E->vs.length=ps.length)
  (hbody:∀ (A:L8) (outer:List Env) (s:u8) (H:Hp) (vs:List V) (Q:VK) (E:XK),cj k (A.deeper (Z9 qual scope s.heap.objs.size f cdv)) → sp vs H Q E →
   ∃t,PSs (pN CX P w K mg base N qual scope f cdv A outer s H E) body t/\t { nx:=fun _ H'=>Q .non H',rt:=Q } (fI N vs) H) :
  bo P w K mg base CX (k+1) f (U8 name qual params body scope dV kV doc pm an cdv ct) ps sp:=by
 refine⟨len,fun A outer s H args us vs Q E hr e0 hb r hsp=>?_⟩;have hl:=len _ _ _ _ hsp;have KX:K.In s.heap:=e0.mod.kin.keeps fun b o e=>(e0.bs b o e).1;have lim:s.heap.NoLimit:=e0.mod.nolimit.keeps fun b o e=>(e0.bs b o e).1;have hkind:∀y∈ps.zip us,scope.names.lookup y.1=some .local∨(scope.names.lookup y.1=some .cell/\((N6 (s.heap.objs.size+1) scope.names []).lookup y.1).isSome=true):=fun⟨n,v⟩ hy=>by
  rcases S.par n (List.of_mem_zip hy).1 with q|q
  ·exact .inl q
  ·exact .inr ⟨q,M0 _ _ _ (.inl q)⟩
 refine codeAny_call_function hr.depth (KX _ _ lk) rfl S.co S.gen rfl (PySem.W.codeRec_of KX hcd) (hb _ _ _ _ ?_);refine wpAny_newFunctionEnv_cells S.kind hkind fun env he s1 x=>?_;subst he;refine⟨lim.keeps x.toInCall.keep,codeAny_func ?_⟩;obtain⟨t,ht,hq⟩:=hbody A outer s H vs Q E (hr.deeper _) hsp;have I:Inv (pN CX P w K mg base N qual scope f cdv A outer s H E) [] (fI N vs) H s1:=tw S hr.hd e0 hl r x;refine L4 (ht [] s1 (fI N vs) H _ I hq) (fun fl s' hs=>?_) fun e s' hs=>hs;have fin:∀{σ':St} {H':Hp} {v:V} {u:s0},Inv (pN CX P w K mg base N qual scope f cdv A outer s H E) [] σ' H' s'->aA v u->Q v H'->CE outer P w H s Q u s' :=
  fun {σ' H' v u} J rv q=>⟨v,H',J.os,J.bare,J.base,J.hok,rv,q⟩
 cases fl with
 |ret u =>
  obtain⟨v,σ',H',J,rv,q⟩:=hs;exact fin J rv q
 |next =>
  obtain⟨σ',H',J,q⟩:=hs;exact fin (v:=V.non) (u:=s0.none) J rfl q
 |brk =>
  obtain⟨_,_,_,q⟩:=hs;exact P7 q
 |cont =>
  obtain⟨_,_,_,q⟩:=hs;exact P7 q
section
variable{X:Cx}{x:Str}{p pos:Pos}{e:J0}{es:List J0}{t:TA}{id T:String}{r:List V->Hp->VK->Prop}
def tCB(r:List V->Hp->VK->Prop) (t:TA):TE:=fun σ H Q=>t σ H fun vs H1=>r vs H1 Q
theorem oz(hc:cb X (.builtin id) r) (hg:Gl X x) (hm:X.mg x=none) (hv:Q4 x=some (.builtin id)) (ha:PA X (e::es) t) (hn:x≠"__name__":=by decide) (hdb:(x==("__debug__":Str))=false:=by decide)
  (he:I0 (e::es) X.env=(false,U0 e X.env)::I0 es X.env:=by rfl) (hpl:(T4 pos (I0 es X.env)).any (·.1)=false:=by rfl):PE X (.Call (.Name x p) (e::es) [] pos) (tCB r t):=by
 intro aa s σ H Q I h;refine wpAny_Call_Name_kw (eI I hg hm hv ?_ hn hdb);exact PyProof.Rows.callWith_builtin1 (thn (ha pos aa s σ H _ I h) fun us s1 hup=>hup.el fun vs H1 I1 r1 q1=>hc aa s1 σ H1 vs us Q I1 r1 q1) he hpl
theorem sT(hc:cb X (.type T) r) (hg:Gl X x) (hm:X.mg x=none) (hv:Q4 x=some (.type T)) (ha:PA X (e::es) t) (hn:x≠"__name__":=by decide) (hdb:(x==("__debug__":Str))=false:=by decide)
  (he:I0 (e::es) X.env=(false,U0 e X.env)::I0 es X.env:=by rfl) (hpl:(T4 pos (I0 es X.env)).any (·.1)=false:=by rfl):PE X (.Call (.Name x p) (e::es) [] pos) (tCB r t):=by
 intro aa s σ H Q I h;refine wpAny_Call_Name_kw (eI I hg hm hv ?_ hn hdb);exact PyProof.Rows.callWith_type1 (thn (ha pos aa s σ H _ I h) fun us s1 hup=>hup.el fun vs H1 I1 r1 q1=>hc aa s1 σ H1 vs us Q I1 r1 q1) he hpl
end
end L2
namespace HT
open PySem PyProof.Rows
section
open PySem.SeqAt
open PySem.AutoSeq1 (wpAny_loadPart')
open PySem.MeetsSeq PySem.MeetsSeq2 PySem.MeetsSeq3
end
section
variable{prog:K2}{w:N4}{A:L8}{E:s0->u8->Prop}{s:u8}
theorem cat_tup{t b:F5}{vs ws:List s0}{Q:s0->u8->Prop}(ht:ab0 s.heap t vs.toArray) (hb:ab0 s.heap b ws.toArray) (hv:vs≠[])
  (h1:ws=[]->Q (.ref t) s) (h2:ws≠[]->Q (.ref s.heap.objs.size) { s with heap:=s.heap.push { cls:=.type "tuple",data:=.seq (vs++ws).toArray } })
  (hsz:vs.length+ws.length<=E9):J5 (J9 prog w) A (N5 .Add (.ref t) (.ref b)) Q E s:=by
 obtain⟨⟨cls,dd,data,sl⟩,ho,hc,n,hd⟩:=id ht;obtain⟨⟨cls2,dd2,data2,sl2⟩,ho2,hc2,n2,hd2⟩:=id hb;simp only at hc hd hc2 hd2;subst hc hd hc2 hd2;have e:vs.toArray++ws.toArray=(vs++ws).toArray:=by simp
 by_cases hw:ws=[]
 ·exact concat_meets ⟨_,ho,rfl⟩ ⟨_,ho2,rfl⟩ noFill_tuple_add seq_tuple_add PySem.F.slot_tuple_add PySem.F.entry_tuple_add (PySem.F.args_tuple_add_2 _ _)
   (tuple_addW1 t b vs.toArray ws.toArray n n2 dd dd2 sl sl2 (by simpa using hv) (by simp[hw])) ⟨ho,ho2,h1 hw⟩
 ·refine concat_meets ⟨_,ho,rfl⟩ ⟨_,ho2,rfl⟩ noFill_tuple_add seq_tuple_add PySem.F.slot_tuple_add PySem.F.entry_tuple_add (PySem.F.args_tuple_add_2 _ _)
   (tuple_addW2 t b vs.toArray ws.toArray n n2 dd dd2 sl sl2 (by simpa using hv) (by simpa using hw) (by rw[F1,F1];exact hsz)) ⟨ho,ho2,?_⟩
  rw[e];exact h2 hw
noncomputable def sIx(n d:Nat):Option Int->Nat
 |none=>d
 |some v=>if v<0 then(v+(n:Int)).toNat else min v.toNat n
theorem sIx_none(n d:Nat):sIx n d none=d:=rfl
theorem sIx_nat(n d k:Nat):sIx n d (some (k:Int))=min k n:=by
 show(if(k:Int)<0 then((k:Int)+(n:Int)).toNat else min (k:Int).toNat n)=min k n;rw[if_neg (by lia),Int.toNat_natCast]
theorem AS(n d:Nat) (hd:d<=n) (o:Option Int):sIx n d o<=n:=by
 cases o with
 |none=>exact hd
 |some v =>
  show(if v<0 then(v+(n:Int)).toNat else min v.toNat n)<=n
  by_cases hv:v<0
  ·rw[if_pos hv];lia
  ·rw[if_neg hv];exact Nat.min_le_right _ _
theorem rD(v:Int) (n d:Nat):(if v<0 then max (v+(n:Int)) 0 else min v (n:Int))=((sIx n d (some v):Nat):Int):=by
 show(if v<0 then max (v+(n:Int)) 0 else min v (n:Int))=(((if v<0 then(v+(n:Int)).toNat else min v.toNat n):Nat):Int)
 by_cases hv:v<0
 ·simp only[if_pos hv];lia
 ·simp only[if_neg hv];lia
theorem qh(lo hi:Option Int) (n:Nat):K4.Slice.sliceAdjust lo hi 1 (n:Int)=(((sIx n 0 lo:Nat):Int),((sIx n n hi:Nat):Int)):=by
 have h1:¬ ((1:Int)<0):=by decide
 unfold K4.Slice.sliceAdjust;simp only[h1,if_false];refine Prod.ext ?_ ?_
 ·cases lo with
  |none=>rfl
  |some v=>exact rD v n 0
 ·cases hi with
  |none=>rfl
  |some v=>exact rD v n n
theorem p8(i j:Nat):P2 (i:Int) (j:Int) 1=j-i:=by
 unfold P2;have h1:(1:Int) > 0:=by decide
 simp only[h1,if_true,Int.ediv_one]
 split<;>lia
theorem lA{v:s0}{o:Option Int}{Q:Option Int->u8->Prop}(p:aa0 v o) (h:Q o s):J5 (J9 prog w) A (K4.Slice.slicePartIndex v) Q E s:=by
 cases p with
 |none=>exact slicePart_none h
 |int i t=>exact slicePart_int h
theorem dU{sl:F5}{vl vu:s0}{lo hi:Option Int}{n:Nat}{Q:Int×Int×Nat->u8->Prop}(hs:s.heap.IsSliceOf sl vl vu .none) (pl:aa0 vl lo) (pu:aa0 vu hi)
  (h:Q (((sIx n 0 lo:Nat):Int),1,sIx n n hi-sIx n 0 lo) s):J5 (J9 prog w) A (K4.Slice.sliceApplied (.ref sl) (U9 (n:Int))) Q E s:=by
 obtain⟨os,hos,hcs,hds⟩:=id hs;unfold K4.Slice.sliceApplied K4.Slice.sliceFields;refine F0 (F0 (wpAny_field hos hds (x:=vl) rfl (F0 (wpAny_field hos hds (x:=vu) rfl (F0 (wpAny_field hos hds (x:=.none) rfl (F9 ?_)))))));refine F0 (slicePart_none ?_);show J5 _ _ (if((1:Int)==0)=true then _ else _) _ _ s;rw[if_neg (by decide)];refine F0 (lA pl (F0 (lA pu (F0 (F9 ?_)))));show J5 _ _ (match K4.Slice.sliceAdjust lo hi 1 (n:Int)with|(lo,hi)=>U9 (lo,(1:Int),P2 lo hi 1)) _ _ s;rw[qh lo hi n];show J5 _ _ (U9 (((sIx n 0 lo:Nat):Int),(1:Int),P2 ((sIx n 0 lo:Nat):Int) ((sIx n n hi:Nat):Int) 1)) _ _ s;rw[p8];exact F9 h
theorem uD(xs:Array s0) (i k:Nat):((V3 k).filterMap fun(m:Nat)=>xs[((i:Int)+(m:Int)*1).toNat]?).toArray=((xs.toList.drop i).take k).toArray:=by
 have e:(fun(m:Nat)=>xs[((i:Int)+(m:Int)*1).toNat]?)=fun m=>xs[i+m]?:=by
  funext m;have:((i:Int)+(m:Int)*1).toNat=i+m:=by lia
  rw[this]
 rw[e];have:=pick_run xs i k;rw[List.filterMap_map]at this;have e2:((fun x=>xs[x]?)∘fun x=>i+x)=fun m=>xs[i+m]?:=rfl;rw[e2]at this;rw[this]
theorem getItem_tuple_cut{t sl:F5}{items:Array s0}{vl vu:s0}{lo hi:Option Int}{Q:s0->u8->Prop}(ht:ab0 s.heap t items) (hs:s.heap.IsSliceOf sl vl vu .none) (pl:aa0 vl lo) (pu:aa0 vu hi)
  (hw:¬ (sIx items.size 0 lo=0/\sIx items.size items.size hi=items.size))
  (h:Q (.ref s.heap.objs.size) { s with heap:=s.heap.push { cls:=.type "tuple",data:=.seq ((items.toList.drop (sIx items.size 0 lo)).take (sIx items.size items.size hi-sIx items.size 0 lo)).toArray } })
  (hsz:items.size<=E9):J5 (J9 prog w) A (W6 (.ref t) (.ref sl)) Q E s:=by
 have htake:sizeOk (.seq ((items.toList.drop (sIx items.size 0 lo)).take (sIx items.size items.size hi-sIx items.size 0 lo)).toArray):=by
  show((items.toList.drop (sIx items.size 0 lo)).take (sIx items.size items.size hi-sIx items.size 0 lo)).toArray.size<=E9;rw[F1,List.length_take,List.length_drop,Q8]
  lia
 have hj:sIx items.size items.size hi<=items.size:=AS _ _ (F3 _) hi;obtain⟨os,hos,hcs,hds⟩:=id hs;have hTs:s.TypeIs (.ref sl) "slice":=⟨os,hos,hcs⟩;unfold W6
 try with_reducible refine S1 ?_
 first|refine F0 (F9 ?_)|skip
 refine F0 (wpAny_sequenceKey ht.typeIs (by decide) ?_);refine F0 (wpAny_callSpecial?_slot (name:=Str.ofString "__getitem__") ht.typeIs K9
  (wpAny_call_entry K9 ht.typeIs entry_tuple_getitem ?_ (args_tuple_getitem _ _)))
 show J5 _ _ (K4.Tuple.tupleItemsOf (.ref t) >>= _) _ _ s;refine F0 (tupleItemsOf_ ht ?_);refine F0 (wpAny_typeOf hTs ?_);rw[if_pos (by decide)];refine F0 (dU hs pl pu ?_);have hno:¬ ((((sIx items.size 0 lo:Nat):Int)==0&&(1:Int)==1&&(sIx items.size items.size hi-sIx items.size 0 lo)==items.size)=true):=by
  intro q;rw[J8,J8]at q;have q1:((sIx items.size 0 lo:Nat):Int)=0:=eq_of_beq q.1.1;have q2:sIx items.size items.size hi-sIx items.size 0 lo=items.size:=eq_of_beq q.2;exact hw ⟨by lia,by lia⟩
 show J5 _ _ (if(((sIx items.size 0 lo:Nat):Int)==0&&(1:Int)==1&&(sIx items.size items.size hi-sIx items.size 0 lo)==items.size)=true then _ else _) _ _ s;rw[if_neg hno,uD]
 first
  |exact F0 (m:=L6 _) (N9 (F9 ⟨_,rfl,F9 h⟩) htake)
  |exact F0 (m:=L6 _) (N9 (F0 (F9 (F9 ⟨_,rfl,F9 h⟩))) htake)
  |exact F0 (F0 (m:=L6 _) (N9 (F9 (F9 ⟨_,rfl,F9 h⟩)) htake))
  |exact F0 (F0 (m:=L6 _) (N9 (F9 ⟨_,rfl,F9 h⟩) htake))
end
end HT
namespace L2
open PySem PySem.Spec PyProof.Rows
abbrev TO:=St->Hp->(Option Int->Hp->Prop)->Prop
def PO(X:Cx) (e:Option J0) (t:TO):Prop :=
 ∀(aa:List (F5×Obj)) (s:u8) (σ:St) (H:Hp) (Q:Option Int->Hp->Prop),Inv X aa σ H s->t σ H Q ->
  J5 (J9 X.prog X.w) X.A (evalPart e X.env) (fun u s'=>∃o H',Inv X aa σ H' s'/\aa0 u o/\Q o H') X.xe s
def xZ:TO:=fun _ H Q=>Q none H
def Dh(t:TE):TO:=fun σ H Q=>t σ H fun x H1=>∃i,x=.int i/\Q (some i) H1
section
variable{X:Cx}{e:J0}{te:TE}{lo hi:Option J0}{tl th:TO}{pos p2:Pos}
theorem yr:PO X none xZ:=by
 intro aa s σ H Q I h;rw[evalPart_none];exact F9 ⟨none,H,I,.none,h⟩
theorem xw(h:PE X e te):PO X (some e) (Dh te):=by
 intro aa s σ H Q I hw;rw[evalPart_some];refine thn (h aa s σ H _ I hw) fun u s1 hup=>hup.el fun x H1 I1 r1 q1=>?_;obtain⟨i,rfl,q⟩:=q1;obtain⟨t,rfl⟩:=r1;exact⟨some i,H1,I1,.int i t,q⟩
def SlR(X:Cx) (r:V->Option Int->Option Int->Hp->VK->Prop):Prop :=
 ∀(aa:List (F5×Obj)) (s:u8) (σ:St) (H:Hp) (x:V) (v vl vu:s0) (lo hi:Option Int) (sl:F5) (Q:VK),Inv X aa σ H s->aA x v->s.heap.IsSliceOf sl vl vu .none->aa0 vl lo->aa0 vu hi->r x lo hi H Q ->
  ∃T id,typeLookup (.type T) "__getitem__"=U9 (some (.builtin id))/\s.TypeIs v T/\J5 (J9 X.prog X.w) X.A (W6 v (.ref sl)) (EP X aa σ Q) X.xe s
theorem SlR.or{r r':V->Option Int->Option Int->Hp->VK->Prop}(h:SlR X r) (h':SlR X r'):SlR X (fun x lo hi H Q=>r x lo hi H Q∨r' x lo hi H Q):=by
 intro aa s σ H x v vl vu lo hi sl Q I rx hs pl pu q;rcases q with q|q
 ·exact h aa s σ H x v vl vu lo hi sl Q I rx hs pl pu q
 ·exact h' aa s σ H x v vl vu lo hi sl Q I rx hs pl pu q
def tSl(r:V->Option Int->Option Int->Hp->VK->Prop) (te:TE) (tl th:TO):TE:=fun σ H Q=>te σ H fun x H1=>tl σ H1 fun l H2=>th σ H2 fun u H3=>r x l u H3 Q
theorem uT{r:V->Option Int->Option Int->Hp->VK->Prop}(hr:SlR X r) (he:PE X e te) (hl:PO X lo tl) (hu:PO X hi th):PE X (.Subscript e (.Slice lo hi none p2) pos) (tSl r te tl th):=by
 intro aa s σ H Q I h;refine Subscript_ (thn (he aa s σ H _ I h) fun v s1 hup=>hup.el fun x H1 I1 r1 q1=>?_);refine wpAny_Slice (thn (hl aa s1 σ H1 _ I1 q1) fun vl s2 ⟨l,H2,I2,pl,q2⟩=>thn (hu aa s2 σ H2 _ I2 q2) fun vu s3 ⟨u,H3,I3,pu,q3⟩=>?_);rw[evalPart_none];refine F9 ?_;have I4:Inv X aa σ H3 { s3 with heap:=s3.heap.push { cls:=.type "slice",data:=.fields #[vl,vu,.none] } }:=I3.kept (t':=s3.toks) fun b ob q=>E8 _ q;obtain⟨T,id,hT,ht,hg⟩:=hr aa { s3 with heap:=s3.heap.push { cls:=.type "slice",data:=.fields #[vl,vu,.none] } } σ H3 x v vl vu l u s3.heap.objs.size Q I4 r1 (K3.IsSliceOf.new ..) pl pu q3;show J5 (J9 X.prog X.w) X.A (subscriptTail e (.Slice lo hi none p2) v (.ref s3.heap.objs.size)) (EP X aa σ Q) X.xe { s3 with heap:=s3.heap.push { cls:=.type "slice",data:=.fields #[vl,vu,.none] } };exact tail_any (ops:=[.ref s3.heap.objs.size,v]) ht hT hg (by with_unfolding_all rfl)
def mX(xs:List V) (lo hi:Option Int):List V:=(xs.drop (HT.sIx xs.length 0 lo)).take (HT.sIx xs.length xs.length hi-HT.sIx xs.length 0 lo)
theorem i7(xs:List V) (lo hi:Option Int):(mX xs lo hi).length<=xs.length:=by
 unfold mX;rw[List.length_take,List.length_drop]
 lia
def ER(K:o0):V->Option Int->Option Int->Hp->VK->Prop:=fun x lo hi H Q=>∃a xs,x=.ref a/\SqT K H a xs /\
 ¬ (HT.sIx xs.length 0 lo=0/\HT.sIx xs.length xs.length hi=xs.length)/\∀p,H p=none->Q (.ref p) (upd H p (.tup (mX xs lo hi)))
theorem A8:SlR X (ER X.K):=by
 intro aa s σ H x v vl vu lo hi sl Q I rx hs pl pu h;obtain⟨a,xs,rfl,hx,hw,q⟩:=h;cases rx;obtain⟨its,r,ht,hz⟩:=I.tuple hx;have bH:its.toArray.size=xs.length:=by rw[F1];exact r.length.symm
 refine⟨"tuple",_,K9.lookup,ht.typeIs,?_⟩;refine HT.getItem_tuple_cut ht hs pl pu (by rw[bH];exact hw) ?_ (by rw[bH];exact hz);rw[bH];refine⟨.ref s.heap.objs.size,_,I.laid (t':=s.toks) (o:=.tup (mX xs lo hi)) (fun b ob q=>E8 _ q) (F3 _) ?_,rfl,q _ (I.hok.fresh (F3 _))⟩;exact⟨K0 (i7 xs lo hi) hz,_,(r.drop (HT.sIx xs.length 0 lo)).take (HT.sIx xs.length xs.length hi-HT.sIx xs.length 0 lo),jr.new _ _⟩
def Ds(K:o0):R2:=fun x y H Q=>∃a b xs ys,x=.ref a/\y=.ref b/\SqT K H a xs/\SqT K H b ys/\xs≠[]/\xs.length+ys.length<=E9 /\
 (ys=[]->Q (.ref a) H)/\(ys≠[]->∀p,H p=none->Q (.ref p) (upd H p (.tup (xs++ys))))
theorem av.nil_iff{xs:List V}{us:List s0}(r:av xs us):us=[]↔xs=[]:=by
 cases r with
 |nil=>simp
 |cons _ _=>simp
theorem xD:OpR X (N5 .Add) (Ds X.K):=by
 intro aa s σ H x y v u Q I rx ry h;obtain⟨a,b,xs,ys,rfl,rfl,ha,hb,hx,hz,q1,q2⟩:=h;cases rx;cases ry;obtain⟨its,r1,p1,_⟩:=I.tuple ha;obtain⟨its2,r2,p2,_⟩:=I.tuple hb;refine HT.cat_tup p1 p2 (fun z=>hx (r1.nil_iff.mp z)) (fun z=>⟨.ref a,H,I,rfl,q1 (r2.nil_iff.mp z)⟩) (fun z=>?_) (by rw[<-r1.length,<-r2.length];exact hz);refine⟨.ref s.heap.objs.size,_,I.laid (t':=s.toks) (o:=.tup (xs++ys)) (fun b ob q=>E8 _ q) (F3 _) ?_,rfl,q2 (fun w=>z (r2.nil_iff.mpr w)) _ (I.hok.fresh (F3 _))⟩;exact⟨by rw[L1];exact hz,_,r1.append r2,jr.new _ _⟩
end
noncomputable def ixN(n:Nat) (i:Int):Option Nat:=if 0<=i then(if i<n then some i.toNat else none)else if -(n:Int)<=i then some (i+n).toNat else none
def atI{α:Type}(xs:List α) (i:Int):Option α:=(ixN xs.length i).bind fun j=>xs[j]?
theorem si{n:Nat}{i:Int}{j:Nat}(h:ixN n i=some j):seqIndex? i n=some j/\j<n/\-(n:Int)<=i/\i<n:=by
 unfold ixN at h
 by_cases h0:0<=i
 ·rw[if_pos h0]at h
  by_cases h1:i<n
  ·rw[if_pos h1]at h;have e:i.toNat=j:=J4 h;exact⟨by rw[seqIndex_of h0 h1,e],by lia,by lia,h1⟩
  ·rw[if_neg h1]at h;cases h
 ·rw[if_neg h0]at h
  by_cases h1:-(n:Int)<=i
  ·rw[if_pos h1]at h;have e:(i+n).toNat=j:=J4 h;exact⟨by rw[seqIndex_neg (by lia) h1,e],by lia,h1,by lia⟩
  ·rw[if_neg h1]at h;cases h
theorem nR{α:Type}{xs:List α}{i:Int}{v:α}(h:atI xs i=some v):∃j,seqIndex? i xs.length=some j/\xs[j]?=some v/\j<xs.length/\-(xs.length:Int)<=i/\i<xs.length:=by
 unfold atI at h;cases e:ixN xs.length i with
 |none=>rw[e]at h;cases h
 |some j =>
  rw[e]at h;obtain⟨h1,h2,h3,h4⟩:=si e;exact⟨j,h1,h,h2,h3,h4⟩
theorem cC{α:Type}{xs:List α}{j:Nat}{v:α}(h:xs[j]?=some v):atI xs (j:Int)=some v:=by
 have hj:j<xs.length:=(M7.mp h).1;have e:ixN xs.length (j:Int)=some j:=by
  unfold ixN;rw[if_pos (by lia),if_pos (by lia)];simp
 unfold atI;rw[e];exact h
def sA(b:J0):Prop:=∀o i,Z5 b false o i=operate [o,i] (W6 o i)
def IxR(X:Cx) (r:R2):Prop :=
 ∀(value slice:J0) (aa:List (F5×Obj)) (s:u8) (σ:St) (H:Hp) (x y:V) (v u:s0) (Q:VK),Inv X aa σ H s->aA x v->aA y u->r x y H Q ->
  Z5 slice false v u=operate [v,u] (W6 v u)->J5 (J9 X.prog X.w) X.A (subscriptTail value slice v u) (EP X aa σ Q) X.xe s
def MtR(X:Cx) (id:String) (r:V->List V->Hp->VK->Prop):Prop :=
 ∀(aa:List (F5×Obj)) (s:u8) (σ:St) (H:Hp) (x:V) (xs:List V) (v:s0) (us:List s0) (Q:VK),Inv X aa σ H s->aA x v->av xs us->r x xs H Q ->
  J5 (J9 X.prog X.w) X.A (call (.builtin id) (v::us)) (EP X aa σ Q) X.xe s
section
variable{X:Cx}{a b:J0}{ta tb:TE}{pos:Pos}
theorem DX{r:R2}(hr:IxR X r) (ha:PE X a ta) (hb:PE X b tb) (hs:sA b):PE X (.Subscript a b pos) (tOp r ta tb):=by
 intro aa s σ H Q I h;exact Subscript_ (AX ha hb I h fun v u s2 x y H2 I2 rx ry q=>hr a b aa s2 σ H2 x y v u Q I2 rx ry q (hs _ _))
def ES(K:o0):R2:=fun x y H Q=>∃p xs i v,x=.ref p/\y=.int i/\SqL K H p xs/\atI xs i=some v/\Q v H
def Ek(K:o0):R2:=fun x y H Q=>∃p xs i v,x=.ref p/\y=.int i/\SqT K H p xs/\atI xs i=some v/\Q v H
def E1:R2:=fun x y H Q=>∃z i c,x=.str z/\y=.int i/\z.length<=E9/\atI z.cps.toList i=some c/\Q (.str ⟨#[c]⟩) H
theorem sO:IxR X (ES X.K):=by
 intro value slice aa s σ H x y v u Q I rx ry h hs;obtain⟨p,xs,i,z,rfl,rfl,hq,he,q⟩:=h;cases rx;obtain⟨t,rfl⟩:=ry;obtain⟨its,r,pl,hz⟩:=I.list hq;obtain⟨j,h1,h2,h3,h4,h5⟩:=nR he;obtain⟨w,ew,rw'⟩:=r.get h2;have hl:=r.length;have hn:=iT;have fin:EP X aa σ Q w s:=⟨z,H,I,rw',q⟩
 by_cases h0:0<=i
 ·have hj:i.toNat=j:=by
   rw[seqIndex_of h0 h5]at h1;exact J4 h1
  exact item_listR pl.isList h0 (by lia) (by rw[hj];simpa using ew) fin hs
 ·have hj:(i+(its.toArray.size:Int)).toNat=j:=by
   rw[seqIndex_neg (by lia) h4]at h1;rw[F1,<-hl];exact J4 h1
  exact subscriptTail_builtinR (x:=w) pl.isList.typeIs slot_list_getitem.lookup
   (wpAny_getItem_list_neg (Q:=fun r s'=>r=w/\EP X aa σ Q r s') pl.isList (by lia) (by rw[F1]<;>lia) (by lia) (by rw[hj];simpa using ew) ⟨rfl,fin⟩) hs
theorem Ag:IxR X (Ek X.K):=by
 intro value slice aa s σ H x y v u Q I rx ry h hs;obtain⟨p,xs,i,z,rfl,rfl,hq,he,q⟩:=h;cases rx;obtain⟨t,rfl⟩:=ry;obtain⟨its,r,pl,hz⟩:=I.tuple hq;obtain⟨j,h1,h2,h3,h4,h5⟩:=nR he;obtain⟨w,ew,rw'⟩:=r.get h2;have hl:=r.length;have hn:=iT;have fin:EP X aa σ Q w s:=⟨z,H,I,rw',q⟩;exact subscriptTail_builtinR (x:=w) pl.typeIs slot_tuple_getitem.lookup
  (getItem_tuple (j:=j) (Q:=fun r s'=>r=w/\EP X aa σ Q r s') pl (by lia) (by lia) (by rw[F1,<-hl];exact h1) (by simpa using ew) ⟨rfl,fin⟩) hs
theorem BP:IxR X E1:=by
 intro value slice aa s σ H x y v u Q I rx ry h hs;obtain⟨z,i,c,rfl,rfl,hz,he,q⟩:=h;obtain⟨t,rfl⟩:=rx;obtain⟨t',rfl⟩:=ry;obtain⟨j,h1,h2,h3,h4,h5⟩:=nR he;have hl:z.cps.toList.length=z.length:=by simp[Str.length]
 rw[hl]at h1 h4 h5;have hn:=iT;exact tail_any (typeIs_str s z t) slot_str_getitem.lookup (getItem_str (c:=c) (by
  have e1:decide (i < -(2 ^ 63:Int))=false:=decide_eq_false (by lia);have e2:decide (i>=2 ^ 63)=false:=decide_eq_false (by lia);rw[e1,e2,Bool.or_false]) (by rw[h1];simpa using h2) ⟨.str ⟨#[c]⟩,H,I.tok _,⟨_,rfl⟩,q⟩) hs
theorem qO(its:List s0) (n j:Nat) (u:s0):X7 (·.setIfInBounds j u) { cls:=.type "list",data:=.seq its.toArray n }={ cls:=.type "list",data:=.seq (its.set j u).toArray n }:=by
 simp[X7]
theorem Inv.lst{aa:List (F5×Obj)}{σ:St}{H:Hp}{s:u8}{p:F5}{xs:List V}(I:Inv X aa σ H s) (h:H p=some (.lst xs)) :
  ∃(its:List s0) (n:Nat),av xs its/\s.heap.get? p=some { cls:=.type "list",data:=.seq its.toArray n }/\xs.length<=E9:=by
 obtain⟨z,its,n,r,e⟩:=I.hok p _ h;exact⟨its,n,r,e,z⟩
theorem Inv.lstUpd{aa:List (F5×Obj)}{σ:St}{H:Hp}{s:u8}{p:F5}{xs ys:List V}{its its':List s0}{n n':Nat}{f:Obj->Obj}(I:Inv X aa σ H s) (h:H p=some (.lst xs))
  (ho:s.heap.get? p=some { cls:=.type "list",data:=.seq its.toArray n }) (hf:f { cls:=.type "list",data:=.seq its.toArray n }={ cls:=.type "list",data:=.seq its'.toArray n' }) (r:av ys its') (hz:ys.length<=E9) (t:Nat) :
  Inv X aa σ (upd H p (.lst ys)) { s with heap:=s.heap.update p f,toks:=t }:=by
 have e:(s.heap.update p f).get? p=some { cls:=.type "list",data:=.seq its'.toArray n' }:=by
  rw[K3.get?_update_self f ho (by rw[hf]<;>rfl),hf]
 refine I.write (x:=p) (e:=p) (by rw[h];trivial) (.inl rfl) (fun b u hb q=>(K3.get?_update_other _ _ (W4 hb)).trans q) ⟨_,e⟩ ?_;exact⟨hz,its',n',r,e⟩
def D1:V->V->V->Hp->(Hp->Prop)->Prop:=fun o i v H Q=>∃p xs k j,o=.ref p/\i=.int k/\H p=some (.lst xs)/\ixN xs.length k=some j/\Q (upd H p (.lst (xs.set j v)))
theorem uG:CI X D1:=by
 intro aa s σ H o i v ov iv u Q I ro ri rv h;obtain⟨p,xs,k,j,rfl,rfl,hp,hj,q⟩:=h;cases ro;obtain⟨t,rfl⟩:=ri;obtain⟨its,n,r,ho,hz⟩:=I.lst hp;obtain⟨h1,h2,h3,h4⟩:=si hj;have hl:=r.length;have hn:=iT;have I':Inv X aa σ (upd H p (.lst (xs.set j v))) { s with heap:=s.heap.update p (X7 (·.setIfInBounds j u)) } :=
  I.lstUpd hp ho (qO its n j u) (r.set rv j) (by rw[List.length_set];exact hz) s.toks
 by_cases h0:0<=k
 ·have hk:k.toNat=j:=by
   rw[seqIndex_of h0 h4]at h1;exact J4 h1
  exact PySem.W.ki_setAt ho h0 (by lia) (by rw[F1,<-hl];exact h4) (by rw[hk];exact⟨_,I',q⟩)
 ·have hk:(k+(its.toArray.size:Int)).toNat=j:=by
   rw[seqIndex_neg (by lia) h3]at h1;rw[F1,<-hl];exact J4 h1
  exact PySem.W.ki_setBack ho (by lia) (by rw[F1,<-hl];exact h3) (by lia) (by rw[hk];exact⟨_,I',q⟩)
theorem nX(lo hi:Option Int) (n:Nat):(U1 lo hi none n).1=((HT.sIx n 0 lo:Nat):Int)/\(U1 lo hi none n).2.1=((HT.sIx n n hi:Nat):Int)/\(U1 lo hi none n).2.2=1:=by
 refine⟨?_,?_,rfl⟩
 ·cases lo with
  |none=>simp[U1,HT.sIx]
  |some i =>
   simp only[U1,HT.sIx,Option.getD_none,show(1:Int) > 0 by decide,if_true]
   by_cases h:i<0
   ·simp only[h,if_true]<;>lia
   ·simp only[h,if_false]<;>lia
 ·cases hi with
  |none=>simp[U1,HT.sIx]
  |some i =>
   simp only[U1,HT.sIx,Option.getD_none,show(1:Int) > 0 by decide,if_true]
   by_cases h:i<0
   ·simp only[h,if_true]<;>lia
   ·simp only[h,if_false]<;>lia
theorem lF(its:List s0) (lo hi:Option Int):slicePick its.toArray lo hi none=((its.drop (HT.sIx its.length 0 lo)).take (HT.sIx its.length its.length hi-HT.sIx its.length 0 lo)).toArray:=by
 obtain⟨h1,h2,h3⟩:=nX lo hi its.toArray.size;unfold slicePick;rw[h1,h2,h3];simp only[sliceRange_one,pick_run,F1]<;>rfl
def El(K:o0):V->Option Int->Option Int->Hp->VK->Prop:=fun x lo hi H Q=>∃a xs,x=.ref a/\SqL K H a xs/\∀p,H p=none->Q (.ref p) (upd H p (.lst (mX xs lo hi)))
theorem yN:SlR X (El X.K):=by
 intro aa s σ H x v vl vu lo hi sl Q I rx hs pl pu h;obtain⟨a,xs,rfl,hx,q⟩:=h;cases rx;obtain⟨its,r,ht,hz⟩:=I.list hx;have bH:=r.length;refine⟨"list",_,slot_list_getitem.lookup,ht.isList.typeIs,?_⟩;refine wpAny_getItem_list_slice ht.isList hs pl pu .none (by simp) ?_ (by rw[F1]<;>lia);rw[lF,<-bH];refine⟨.ref s.heap.objs.size,_,I.laid (t':=s.toks) (o:=.lst (mX xs lo hi)) (fun b ob q=>E8 _ q) (F3 _) ?_,rfl,q _ (I.hok.fresh (F3 _))⟩;exact⟨K0 (i7 xs lo hi) hz,_,0,(r.drop (HT.sIx xs.length 0 lo)).take (HT.sIx xs.length xs.length hi-HT.sIx xs.length 0 lo),H0 _ rfl⟩
def fD:V->Bool
 |.non=>true
 |.bl _=>true
 |.int _=>true
 |.str _=>true
 |_=>false
noncomputable def eqV:V->V->Bool
 |.non,.non=>true
 |.bl a,.bl b=>a==b
 |.bl a,.int b=>(if a then 1 else 0)==b
 |.int a,.bl b=>a==(if b then 1 else 0)
 |.int a,.int b=>a==b
 |.str a,.str b=>a==b
 |_,_=>false
theorem Ah{A:L8}{s:u8}{y x:V}{u v:s0}(ry:aA y u) (rx:aA x v) (fy:fD y=true) (fx:fD x=true):L7 A s u v (eqV y x):=by
 cases y with
 |non =>
  cases ry;cases x with
  |non=>cases rx;exact L7.same _
  |bl b=>cases rx;exact L7.none_bool b
  |int b=>obtain⟨t,rfl⟩:=rx;exact L7.none_int b t
  |str b=>obtain⟨t,rfl⟩:=rx;exact L7.none_str b t
  |_=>exact absurd (show false=true from fx) L9
 |bl a =>
  cases ry;cases x with
  |non=>cases rx;exact L7.bool_none a
  |bl b=>cases rx;exact L7.bool_bool a b
  |int b=>obtain⟨t,rfl⟩:=rx;exact L7.bool_int a b t
  |str b=>obtain⟨t,rfl⟩:=rx;exact L7.bool_str a b t
  |_=>exact absurd (show false=true from fx) L9
 |int a =>
  obtain⟨t',rfl⟩:=ry;cases x with
  |non=>cases rx;exact L7.int_none a t'
  |bl b=>cases rx;exact L7.int_bool a t' b
  |int b=>obtain⟨t,rfl⟩:=rx;exact L7.int_int a t' b t
  |str b=>obtain⟨t,rfl⟩:=rx;exact L7.int_str a t' b t
  |_=>exact absurd (show false=true from fx) L9
 |str a =>
  obtain⟨t',rfl⟩:=ry;cases x with
  |non=>cases rx;exact L7.str_none a t'
  |bl b=>cases rx;exact L7.str_bool a t' b
  |int b=>obtain⟨t,rfl⟩:=rx;exact L7.str_int a t' b t
  |str b=>obtain⟨t,rfl⟩:=rx;exact L7.str_str a t' b t
  |_=>exact absurd (show false=true from fx) L9
 |_=>exact absurd (show false=true from fy) L9
def eqU(x:V) (u:s0):Bool:=match u with
 |.none=>eqV .non x
 |.bool b=>eqV (.bl b) x
 |.int i _=>eqV (.int i) x
 |.str z _=>eqV (.str z) x
 |_=>false
theorem uK{x y:V}{u:s0}(r:aA y u) (f:fD y=true):eqU x u=eqV y x:=by
 cases y with
 |non=>cases r;rfl
 |bl b=>cases r;rfl
 |int i=>obtain⟨t,rfl⟩:=r;rfl
 |str z=>obtain⟨t,rfl⟩:=r;rfl
 |_=>exact absurd (show false=true from f) L9
theorem gH{x:V}:∀{xs:List V}{us:List s0},av xs us->xs.all fD=true->us.any (eqU x)=xs.any fun y=>eqV y x
 |_,_,.nil,_=>rfl
 |y::xs,u::us,.cons r t,f=>by
  rw[T9,J8]at f;rw[O1,O1,uK r f.1,gH t f.2]
theorem fk{A:L8}{s:u8}{x:V}{v:s0}(rx:aA x v) (fx:fD x=true):∀{xs:List V}{us:List s0},av xs us->xs.all fD=true->∀u∈us,L7 A s u v (eqU x u)
 |_,_,.nil,_=>fun u hu=>by cases hu
 |y::xs,u::us,.cons r t,f=>fun u' hu=>by
  rw[T9,J8]at f;rcases P0.mp hu with rfl|hu
  ·rw[uK r f.1];exact Ah r rx f.1 fx
  ·exact fk rx fx t f.2 u' hu
def inV(x:V) (xs:List V):Bool:=xs.any fun y=>eqV y x
def rIn(K:o0) (neg:Bool):R2:=fun x y H Q=>∃p xs,y=.ref p/\(SqL K H p xs∨SqT K H p xs)/\fD x=true/\xs.all fD=true/\Q (.bl (if neg then !inV x xs else inV x xs)) H
theorem t6:OpR X (L3 .In) (rIn X.K false):=by
 intro aa s σ H x y v u Q I rx ry h;obtain⟨p,xs,rfl,hq,fx,fs,q⟩:=h;cases ry;rcases hq with hq|hq
 ·obtain⟨its,r,pl,hz⟩:=I.list hq;refine SeqAt.in_listAt (eqU x) pl.isList (fun w hw=>fk rx fx r fs w (by simpa using hw)) ⟨.bl _,H,I,rfl,?_⟩;rw[show its.toArray.any (eqU x)=its.any (eqU x)by simp,gH r fs];exact q
 ·obtain⟨its,r,pl,hz⟩:=I.tuple hq;refine SeqAt.in_tupleAt (eqU x) pl (fun w hw=>fk rx fx r fs w (by simpa using hw)) ⟨.bl _,H,I,rfl,?_⟩;rw[show its.toArray.any (eqU x)=its.any (eqU x)by simp,gH r fs];exact q
theorem mW:OpR X (L3 .NotIn) (rIn X.K true):=by
 intro aa s σ H x y v u Q I rx ry h;obtain⟨p,xs,rfl,hq,fx,fs,q⟩:=h;cases ry;rcases hq with hq|hq
 ·obtain⟨its,r,pl,hz⟩:=I.list hq;refine SeqAt.notIn_listAt (eqU x) pl.isList (fun w hw=>fk rx fx r fs w (by simpa using hw)) ⟨.bl _,H,I,rfl,?_⟩;rw[show its.toArray.any (eqU x)=its.any (eqU x)by simp,gH r fs];exact q
 ·obtain⟨its,r,pl,hz⟩:=I.tuple hq;refine SeqAt.notIn_tupleAt (eqU x) pl (fun w hw=>fk rx fx r fs w (by simpa using hw)) ⟨.bl _,H,I,rfl,?_⟩;rw[show its.toArray.any (eqU x)=its.any (eqU x)by simp,gH r fs];exact q
theorem ni:cb X (.builtin "len") (fun xs H Q=>∃p ys,xs=[.ref p]/\(SqL X.K H p ys∨SqT X.K H p ys)/\Q (.int ys.length) H):=by
 intro aa s σ H xs us Q I r h;obtain⟨p,ys,rfl,hq,q⟩:=h;obtain⟨u,rfl,rx⟩:=o5 r;cases rx;have hn:=iT;rcases hq with hq|hq
 ·obtain⟨its,r',pl,hz⟩:=I.list hq;have bH:=r'.length;exact Calls.call_len_list pl.isList (by simp only[F1]<;>lia) ⟨.int ys.length,H,I.tok _,⟨s.toks+1,by rw[F1,bH]⟩,q⟩
 ·obtain⟨its,r',pl,hz⟩:=I.tuple hq;have bH:=r'.length;exact len_tuple pl (by simp only[F1]<;>lia) ⟨.int ys.length,H,I.tok _,⟨s.toks+1,by rw[F1,bH]⟩,q⟩
theorem nV:cb X (.builtin "len") (fun xs H Q=>∃z,xs=[.str z]/\z.length<=E9/\Q (.int z.length) H):=by
 intro aa s σ H xs us Q I r h;obtain⟨z,rfl,hz,q⟩:=h;obtain⟨u,rfl,t,rfl⟩:=o5 r;have hn:=iT;exact len_str (by lia) ⟨.int z.length,H,I.tok _,⟨_,rfl⟩,q⟩
theorem cb.or{f:s0}{r r':List V->Hp->VK->Prop}(h:cb X f r) (h':cb X f r'):cb X f (fun xs H Q=>r xs H Q∨r' xs H Q):=by
 intro aa s σ H xs us Q I rs q;rcases q with q|q
 ·exact h aa s σ H xs us Q I rs q
 ·exact h' aa s σ H xs us Q I rs q
theorem n4:cb X (.type "list") (fun xs H Q=>∃p ys,xs=[.ref p]/\(SqL X.K H p ys∨SqT X.K H p ys)/\∀l,H l=none->Q (.ref l) (upd H l (.lst ys))):=by
 intro aa s σ H xs us Q I r h;obtain⟨p,ys,rfl,hq,q⟩:=h;obtain⟨u,rfl,rx⟩:=o5 r;cases rx;have fin:∀(its:List s0),av ys its->ys.length<=E9->∀(h':K3) (c':Nat),(∀b o',s.heap.get? b=some o'->h'.get? b=some o') ->
   h'.get? s.heap.objs.size=some { cls:=.type "list",dict:=none,data:=.seq its.toArray c',slots:=#[] }->EP X aa σ Q (.ref s.heap.objs.size) { s with heap:=h' }:=fun its r' hz h' c' kp e =>
  ⟨.ref s.heap.objs.size,_,I.laid (t':=s.toks) kp (F3 _) (show bK X.prog X.w _ h' _ (.lst ys)from⟨hz,its,c',r',e⟩),rfl,q _ (I.hok.fresh (F3 _))⟩
 rcases hq with hq|hq
 ·obtain⟨its,r',pl,hz⟩:=I.list hq;have bH:=r'.length;obtain⟨o,ho,hc,n,hd⟩:=pl.isList;exact call_list_seq p (.inl rfl) ho hc hd (fun h' c' kp e=>fin its r' hz h' c' kp e) (by simp only[F1]<;>lia)
 ·obtain⟨its,r',pl,hz⟩:=I.tuple hq;have bH:=r'.length;obtain⟨o,ho,hc,n,hd⟩:=pl;exact call_list_seq p (.inr rfl) ho hc hd (fun h' c' kp e=>fin its r' hz h' c' kp e) (by simp only[F1]<;>lia)
theorem lN:cb X (.type "tuple") (fun xs H Q=>∃p ys,xs=[.ref p]/\((SqL X.K H p ys/\∀l,H l=none->Q (.ref l) (upd H l (.tup ys)))∨(SqT X.K H p ys/\Q (.ref p) H))):=by
 intro aa s σ H xs us Q I r h;obtain⟨p,ys,rfl,h⟩:=h;obtain⟨u,rfl,rx⟩:=o5 r;cases rx;rcases h with⟨hq,q⟩|⟨hq,q⟩
 ·obtain⟨its,r',pl,hz⟩:=I.list hq;have bH:=r'.length;refine call_tuple_list pl.isList (fun h' kp=>?_) (by simp only[F1]<;>lia);have I1:Inv X aa σ H { s with heap:=h' }:=I.kept (t':=s.toks) kp;have I2:Inv X aa σ (upd H h'.objs.size (.tup ys)) { s with heap:=h'.push { cls:=.type "tuple",data:=.seq its.toArray } } :=
   I1.laid (t':=s.toks) (fun b o e=>E8 _ e) (F3 _) (show bK X.prog X.w _ _ _ (.tup ys)from⟨hz,its,r',jr.new _ _⟩)
  exact⟨.ref h'.objs.size,_,I2,rfl,q _ (I1.hok.fresh (F3 _))⟩
 ·obtain⟨its,r',pl,hz⟩:=I.tuple hq;exact call_tuple_same pl ⟨.ref p,H,I,rfl,q⟩
def tyV(K:o0) (T:String) (x:V) (H:Hp):Prop:=match x with
 |.str _=>T="str"
 |.int _=>T="int"
 | .ref p => (T = "list" ∧ ∃ xs,SqL K H p xs) ∨ (T = "tuple" ∧ ∃ o,K.lookup p = some o ∧ o.cls = .type "tuple" ∧ o.dict = none) ∨
   (T="dict"/\((∃kvs,H p=some (.dK kvs))∨∃kvs,H p=some (.dT kvs)))∨(T="set"/\∃S n,H p=some (.set S n))
 |_=>False
theorem AA{aa:List (F5×Obj)}{σ:St}{H:Hp}{s:u8}{T:String}{x:V}{v:s0}(I:Inv X aa σ H s) (r:aA x v) (ty:tyV X.K T x H) :
  s.TypeIs v T/\∀a,v=.ref a->∃ob,s.heap.get? a=some ob/\ob.dict=none:=by
 cases x with
 |str z =>
  obtain⟨t,rfl⟩:=r;cases(show T="str" from ty);exact⟨typeIs_str s z t,fun _ e=>nomatch e⟩
 |int i =>
  obtain⟨t,rfl⟩:=r;cases(show T="int" from ty);exact⟨X8 s i t,fun _ e=>nomatch e⟩
 |ref p =>
  cases r;rcases ty with⟨rfl,xs,hq⟩|⟨rfl,o,hk,hc,hd⟩|⟨rfl,hk⟩|⟨rfl,S,n,hk⟩
  ·obtain⟨its,_,pl,_⟩:=I.list hq;refine⟨pl.isList.typeIs,fun a e=>?_⟩;cases e;obtain⟨o,n,e,c,hd,_⟩:=pl;exact⟨o,e,hd⟩
  ·refine⟨⟨o,I.kIn p o hk,hc⟩,fun a e=>?_⟩;cases e;exact⟨o,I.kIn _ o hk,hd⟩
  ·have z:∃o,s.heap.get? p=some o/\o.ExactDict:=by
    rcases hk with⟨kvs,hk⟩|⟨kvs,hk⟩
    ·obtain⟨_,_,_,_,o,_,_,e,ex,_⟩:=I.hok p _ hk;exact⟨o,e,ex⟩
    ·obtain⟨_,_,_,_,o,_,_,e,ex,_⟩:=I.hok p _ hk;exact⟨o,e,ex⟩
   obtain⟨o,e,ex⟩:=z;refine⟨⟨o,e,ex.1⟩,fun a e2=>?_⟩;cases e2;exact⟨o,e,ex.2.1⟩
  ·obtain⟨o,_,_,_,e,ex,_⟩:=I.hok p _ hk;refine⟨⟨o,e,ex.1⟩,fun a e2=>?_⟩;cases e2;exact⟨o,e,ex.2.1⟩
 |_=>exact P7 ty
def tBM(K:o0) (T:String) (r:V->List V->Hp->VK->Prop) (to:TE) (t:TA):TE:=fun σ H Q=>to σ H fun x H1=>tyV K T x H1/\t σ H1 fun xs H2=>r x xs H2 Q
variable{o e:J0}{es:List J0}{to:TE}{t:TA}{name:Str}{dv bP:Pos}{T id:String}{r:V->List V->Hp->VK->Prop}
theorem Cj(pa:PlainAttrs T) (slot:Slot T name id) (hty:typeOf (.builtin id)=U9 (.type "method_descriptor")) (hm:MtR X id r) (ho:PE X o to) (ha:PA X (e::es) t)
  (j8:W7 o name X.env (U0 o X.env)=U0 o X.env:=by rfl)
  (BZ:((T4 bP (I0 (e :: es) X.env)).all (fun x => !x.1) && (backToKw bP (Z6 [] X.env)).all (fun x => x.1.isSome)
  &&decide ((e::es).length+([]:List X4).length+(if([]:List X4).isEmpty then 0 else 1)<30))=true:=by rfl)
  (kC:(dv.endLine==bP.line)=true:=by rfl) (hs:I0 (e::es) X.env=(false,U0 e X.env)::I0 es X.env:=by rfl) (qQ:(T4 bP (I0 es X.env)).any (·.1)=false:=by rfl) :
  PE X (.Call (.Attribute o name dv) (e::es) [] bP) (tBM X.K T r to t):=by
 intro aa s σ H Q I h;refine wpAny_Call_method_late j8 BZ kC rfl (thn (ho aa s σ H _ I h) fun v s1 ⟨x,H1,I1,r1,ty,q1⟩=>?_);obtain⟨h1,h2⟩:=AA I1 r1 ty;refine⟨T,id,pa,slot,hty,h1,h2,?_⟩;have hA:=ha bP aa s1 σ H1 _ I1 q1;rw[hs]at hA ⊢;refine Calls.callWith_builtin (by show(false || (T4 bP (I0 es X.env)).any (·.1))=false;rw[qQ]<;>rfl) (Calls.evalArgs_plain ?_);exact thn hA fun us s2 hup=>hup.el fun vs H2 I2 r2 q2=>hm aa s2 σ H2 x vs v us Q I2 r1 r2 q2
end
def MtM(X:Cx) (id:String) (r:V->List V->Hp->VK->Prop):Prop :=
 ∀(aa:List (F5×Obj)) (s:u8) (σ:St) (H:Hp) (x:V) (xs:List V) (v:s0) (us:List s0) (Q:VK),Inv X aa σ H s->aA x v->av xs us->r x xs H Q ->
  J5 (J9 X.prog X.w) X.A (call (.builtin id) (v::us)) (EP X aa σ Q) X.xe s
theorem av.un{x:V}{xs:List V}{us:List s0}(h:av (x::xs) us):∃u vs,us=u::vs/\aA x u/\av xs vs:=by
 cases h with
 |cons r t=>exact⟨_,_,rfl,r,t⟩
theorem av.one{x:V}{us:List s0}(h:av [x] us):∃u,us=[u]/\aA x u:=by
 obtain⟨u,vs,rfl,r,t⟩:=h.un;cases t;exact⟨u,rfl,r⟩
theorem av.two{x y:V}{us:List s0}(h:av [x,y] us):∃u v,us=[u,v]/\aA x u/\aA y v:=by
 obtain⟨u,vs,rfl,r,t⟩:=h.un;obtain⟨v,rfl,q⟩:=t.one;exact⟨u,v,rfl,r,q⟩
theorem av.reverse{xs:List V}{us:List s0}(h:av xs us):av xs.reverse us.reverse:=by
 induction h with
 |nil=>exact .nil
 |cons r t ih=>rw[U2,U2];exact av.append ih (.cons r .nil)
theorem av.rep{xs:List V}{us:List s0}(h:av xs us):∀k:Nat,av (F8 k xs).flatten (F8 k us).flatten
 |0=>.nil
 |k+1=>by
  rw[O0,O0,P9,P9];exact av.append h (av.rep h k)
theorem iM(its:List s0):∀(k:Nat) (acc:List s0),
  aa1 (fun x1 x2=>x1++x2) acc.toArray (F8 k its.toArray)=(acc++(F8 k its).flatten).toArray
 |0,acc=>by simp
 |k+1,acc=>by
  have e:acc.toArray++its.toArray=(acc++its).toArray:=by simp
  have e2:(acc++its)++(F8 k its).flatten=acc++(F8 (k+1) its).flatten:=by
   rw[O0,P9,List.append_assoc]
  rw[<-e2,<-iM its k (acc++its),<-e,O0,List.foldl_cons]
section
variable{X:Cx}{aa:List (F5×Obj)}{σ:St}{H:Hp}{s:u8}{l b:F5}{xs ys zs:List V}
theorem Inv.lset{its its':List s0}{n:Nat}{f:Array s0->Array s0}{t':Nat}(I:Inv X aa σ H s) (hH:H l=some (.lst xs))
  (e:s.heap.get? l=some { cls:=.type "list",data:=.seq its.toArray n }) (hf:f its.toArray=its'.toArray) (hv:av ys its') (hz:ys.length<=E9) :
  Inv X aa σ (upd H l (.lst ys)) { s with heap:=s.heap.update l (X7 f),toks:=t' }:=by
 have q:=PySem.IsL.update e f;rw[hf]at q;refine I.write (x:=l) (e:=l) (by rw[hH];exact trivial) (.inl rfl) (fun b' u hb hu=>(K3.get?_update_other s.heap (X7 f) (W4 hb)).trans hu) ⟨_,q⟩ ?_;exact⟨hz,its',_,hv,q⟩
theorem Inv.lnew{its:List s0}{t':Nat}(I:Inv X aa σ H s) (hv:av ys its) (hz:ys.length<=E9) :
  Inv X aa σ (upd H s.heap.objs.size (.lst ys)) { s with heap:=s.heap.push { cls:=.type "list",data:=.seq its.toArray },toks:=t' } :=
 I.laid (fun _ _ q=>E8 _ q) (F3 _) ⟨hz,its,0,hv,H0 _ rfl⟩
theorem Inv.fresh(I:Inv X aa σ H s):H s.heap.objs.size=none:=I.hok.fresh (F3 _)
theorem Inv.lstM(I:Inv X aa σ H s) (hH:H l=some (.lst xs)):xs.length<=E9/\∃(its:List s0) (n:Nat),av xs its/\xs.length=its.length/\s.heap.get? l=some { cls:=.type "list",data:=.seq its.toArray n }:=by
 obtain⟨z,its,n,r,e⟩:=I.hok l _ hH;exact⟨z,its,n,r,r.length,e⟩
theorem wm{n:Nat}(h:n<=E9):K4.List.listTooLong n=false:=by
 unfold K4.List.listTooLong;exact decide_eq_false (by lia)
end
section
variable{X:Cx}
def su:V->List V->Hp->VK->Prop:=fun x vs H Q=>∃l xs y,x=.ref l/\vs=[y]/\H l=some (.lst xs)/\xs.length<E9/\Q .non (upd H l (.lst (xs++[y])))
theorem um:MtM X "list.append" su:=by
 intro aa s σ H x vs v us Q I rx rv h;obtain⟨l,xs,y,rfl,rfl,hH,hz,q⟩:=h;cases rx;obtain⟨u,rfl,ru⟩:=rv.one;obtain⟨z,its,n,r,hl,e⟩:=I.lstM hH;refine X9 F.slot_list_append ⟨_,e,rfl⟩ F.entry_list_append (F.args_list_append_2 _ _) (PySem.list_append l its.toArray n u (by rw[F1];lia)) ⟨e,?_⟩;refine⟨.non,_,I.lset (its':=its++[u]) hH e (by simp) (r.append (.cons ru .nil)) ?_,rfl,q⟩;rw[L1,List.length_singleton]
 assumption
def EK:R2:=fun x y H Q=>∃l b xs zs,x=.ref l/\y=.ref b/\H l=some (.lst xs)/\H b=some (.lst zs)/\xs.length+zs.length<=E9/\∀p,H p=none->Q (.ref p) (upd H p (.lst (xs++zs)))
theorem wf:OpR X (N5 .Add) EK:=by
 intro aa s σ H x y v u Q I rx ry h;obtain⟨l,b,xs,zs,rfl,rfl,hH,hB,hz,q⟩:=h;cases rx;cases ry;obtain⟨z,its,n,r,hl,e⟩:=I.lstM hH;obtain⟨z2,its2,n2,r2,hl2,e2⟩:=I.lstM hB;refine PySem.P.add_list e e2 ?_ (by rw[F1,F1];lia);have ea:its.toArray++its2.toArray=(its++its2).toArray:=by simp
 rw[ea];exact⟨.ref _,_,I.lnew (t':=s.toks) (r.append r2) (by rw[L1];assumption),rfl,q _ I.fresh⟩
def Ey:R2:=fun x y H Q=>∃l k xs,x=.ref l/\y=.int k/\H l=some (.lst xs)/\-(2 ^ 63)<=k/\k<2 ^ 63/\xs.length*k.toNat<=E9 /\
 ∀p,H p=none->Q (.ref p) (upd H p (.lst (F8 k.toNat xs).flatten))
theorem nJ{α:Type}(xs:List α) (k:Nat):(F8 k xs).flatten.length=k*xs.length:=by
 induction k with
 |zero=>simp
 |succ k ih=>rw[O0,P9,L1,ih,Nat.succ_mul,Nat.add_comm]
theorem Av:OpR X (N5 .Mult) Ey:=by
 intro aa s σ H x y v u Q I rx ry h;obtain⟨l,k,xs,rfl,rfl,hH,h1,h2,hz,q⟩:=h;cases rx;obtain⟨t,rfl⟩:=ry;obtain⟨z,its,n,r,hl,e⟩:=I.lstM hH;have bH:its.toArray.size*k.toNat<=E9:=by rw[F1,<-hl];exact hz
 have hcap:¬ its.toArray.size*k.toNat > (2 ^ 63-1) / 8:=by
  have:(E9:Nat)<=(2 ^ 63-1) / 8:=by decide
  lia
 have hfit:¬ (!Builtin.List.listFitsIndex k)=true:=by
  rw[fitsIndex_both h1 h2];exact L9
 have hlong:¬ K4.List.listTooLong (its.toArray.size*k.toNat)=true:=by
  rw[wm bH];exact L9
 have hnew:aa1 (fun x1 x2=>x1++x2) #[] (F8 (if its.toArray.isEmpty=true then 0 else k.toNat) its.toArray)=(F8 k.toNat its).flatten.toArray:=by
  have f0:∀m:Nat,aa1 (fun x1 x2=>x1++x2) #[] (F8 m its.toArray)=(F8 m its).flatten.toArray:=fun m=>by
   have:=iM its m [];rw[List.nil_append]at this;exact this
  rw[f0];cases its with
  |nil=>simp
  |cons a r'=>rw[if_neg (by simp)]
 refine wpAny_binaryOp_repeat_ref (T:="list") (U:="int") (by decide) ⟨_,e,rfl⟩ (fun s'=>X8 s' k t) noFill_list_mul F.fills_int_mul V8 repeat_list F.slot_int_index.lookup
  (X9 V8 (X8 s k t) F.entry_int_rmul (F.args_int_rmul_2 _ _) (int___rmul___int_list k t l its.toArray n)
   ⟨e,rfl,⟨_,e,rfl⟩,X9 F.slot_list_mul ⟨_,e,rfl⟩ F.entry_list_mul (F.args_list_mul_2 _ _) (AutoListH.list___mul___list_int_3 l its.toArray n k t hfit hcap hlong) ⟨e,?_⟩⟩)
 rw[hnew];exact⟨.ref _,_,I.lnew (t':=s.toks) (r.rep k.toNat) (by rw[nJ,Nat.mul_comm];exact hz),rfl,q _ I.fresh⟩
end
end L2
namespace Att
open PySem PySem.W PySem.Calls PyProof.Rows
theorem jn{P:Params}{h:K3}:∀(ns:List Int) (vs:List s0),WellAll P h vs (ns.map WData.int)->IntsAre vs ns:=by
 intro ns
 induction ns with
 |nil =>
  intro vs w;rw[List.map_nil]at w;cases w;exact .nil
 |cons n ns ih =>
  intro vs w;rw[K7]at w;cases w with
  |cons a b =>
   cases a;exact .cons _ _ (ih _ b)
theorem tM{l:OpenLaw}{n:Nat}(hn:l.most=some n) {P:Params}{h:K3}{args:List WData}{vals:List s0}
  (hpre:l.row.toRowW.claim.pre args=true) (hwl:WellAll P h vals args) :
  ∃a vs ns,vals=[P4 a]/\args=[WData.list (ns.map WData.int)]/\h.get? a=some { cls:=.type "list",data:=.seq vs.toArray }/\IntsAre vs ns/\ns.length<=n:=by
 have hsh:WShape.hasAll [] args [.list .int]=true:=(pre_splitW hpre).1;have hc:l.pre.holds [] { args:=args }=true:=(pre_splitW hpre).2;obtain⟨d,r,rfl,h1,h2⟩:=hasAllW_cons hsh;obtain rfl:=hasAllW_nil h2;obtain⟨xs,rfl,h3⟩:=hasW_list h1;obtain⟨ns,rfl⟩:=items_int h3;have bH:ns.length<=n:=by
  unfold OpenLaw.pre at hc;have h4:(WTm.not (.lt (.lit (.int (n:Int))) (.len (.arg 0)))).holds [] { args:=[.list (ns.map .int)] }=true:=by
   have h4:=(holds_andW hc).1;rw[hn]at h4;exact h4
  have h5:=condW_of h4 (w_not (w_lt w_lit (w_len_list (w_arg rfl))));rw[T8]at h5;refine Nat.le_of_not_lt fun q=>?_;have q':(n:Int)<((ns.length:Nat):Int):=by lia
  first
   |(rw[decide_eq_true q']at h5;exact absurd h5 (by decide))
   |(simp at h5;lia)
 cases hwl with
 |cons w1 w2 =>
  cases w2;cases w1 with
  |list ho hall=>exact⟨_,_,ns,rfl,rfl,ho,jn ns _ hall,bH⟩
theorem ue(l:OpenLaw) (args:List WData):l.row.toRowW.claim.post args (.bool true) args=true :=
 postW_of (r:=l.row.toRowW) (X:=(true==true))
  (show WShape.has [] (.bool true) .bool=true by first|rfl|decide|simp[WShape.has,WShape.arms,WShape.armsAll])
  (show(WTm.eq .res (.lit (.bool true))).value [] { args:=args,res:=some (.bool true),after:=args }=some (.bool (true==true))from w_eq_bool (w_res rfl) w_lit) rfl
theorem attach_call{l:OpenLaw}{n:Nat}{q:K2}{loose:List Str}{XP:(Str->Option s0)->K3->Prop}{YP:N4->K3->Prop}{d:DefRec}
  (hn:l.most=some n) (hdf:d.params.defaults=[])
  (call:∀ (w:N4) (s₀ s₁:u8) (mg mb:Str → Option s0) (fa:F5) (o:Obj) (pm cd doc:s0) (a:F5) (vs:List s0) (ns:List Int),
   Ground q loose [] XP w s₀ mg mb s₁.heap->YP w s₁.heap ->
   s₁.heap.get? fa=some o->o.data=.func (docDef d.name d.params d.body d.scope pm cd doc)->s₁.heap.CodeRec cd d.name->mg d.name=some (.ref fa) ->
   s₁.heap.get? a=some { cls:=.type "list",data:=.seq vs.toArray }->IntsAre vs ns->ns.length<=n->s₁.gens=#[] ->
   V0 (J9 l.prog w) Z7 (.call (.ref fa) ⟨[.ref a],[]⟩) (fun r s'=>r=.ok (.ret (.bool true))/\OldK s₁.heap s'.heap/\s'.os=s₁.os/\W1 s'.gens) s₁) :
  WalkO q loose XP YP l.row.toRowW d [] (fun f vs=>PySem.call f vs):=by
 intro w s₀ s₁ mg mb G Y fa o pm cd doc dV kV ho hd hcd hD hmg hg args vals as hpre hlay hrd hwl hlo;obtain rfl:dV=.none:=Dflts.none hD hdf;obtain rfl:kV=.none:=Dflts.noKw hD;obtain⟨a,vs,ns,rfl,rfl,hobj,hints,bH⟩:=tM hn hpre hwl;refine enter_call (codeAny_mono (call w s₀ s₁ mg mb fa o pm cd doc a vs ns G Y ho (fd_plain hd) hcd hmg hobj hints bH hg) fun r s' hq=>?_);obtain⟨rfl,h2,h3,h4⟩:=hq;exact⟨.inl ⟨.bool true,.bool true,[],rfl,fun _=>rfl,.bool true,ue l _,fun _=>⟨List.Pairwise.nil,fun _ hm=>(nomatch hm)⟩⟩,h2,h3,h4⟩
section
variable{prog:K2}{w:N4}{A:L8}{E:s0->u8->Prop}{s:u8}{K:Frag}
end
end Att
namespace L2
open PySem PySem.Spec PyProof.Rows
theorem mI:∀{vs:List s0}{ns:List Int},IntsAre vs ns->av (ns.map V.int) vs
 |_,_,.nil=>.nil
 |_,_,.cons n t h=>.cons ⟨t,rfl⟩ (mI h)
def xN(H:Hp):Prop:=∀b,H b=none∨∃o xs,H b=some (.frz o (.lst xs))
theorem vo{P:K2}{w:N4}{K:o0}{mg mb:Str->Option s0}{CX:CXT}{k:Nat}{fa a:F5}{fd:P3}{x:Str}{sp:Sp}{s₁:u8}{vs:List s0}{ns:List Int}
  (KX:K.In s₁.heap) (hns:s₁.heap.Ns Q5 mg) (hb:s₁.heap.Ns builtinsNs mb) (hbb:∀x:Str,x≠"__name__"->mb x=Q4 x) (hlim:s₁.heap.NoLimit) (hg:s₁.gens=#[])
  (ha:s₁.heap.get? a=some { cls:=.type "list",data:=.seq vs.toArray }) (hi:IntsAre vs ns) (hl:ns.length<=E9) (hr:cj k Z7)
  (F:∀base:K3,K.In base->base.Ns Q5 mg->bo P w K mg base CX k fa fd [x] sp) (hbind:∀(s:u8) (u:s0),aa8 s fd ⟨[u],[]⟩ [(x,u)])
  (hsp:∀H:Hp,xN H->SqL K H a (ns.map V.int)->sp [.ref a] H (fun v _=>v=.bl true) fun _ _ _=>False)
  (hCX:∀H e s',CX [] H s₁ (fun _ _ _=>False) e s'->False) :
  V0 (J9 P w) Z7 (.call (.ref fa) ⟨[.ref a],[]⟩) (fun r s'=>r=.ok (.ret (.bool true))/\OldK s₁.heap s'.heap/\s'.os=s₁.os/\W1 s'.gens) s₁:=by
 have rv:=mI hi;have lenV:=hi.length
 -- from an abstract heap in which nothing but the script may be tracked
 have core:∀H:Hp,xN H->SqL K H a (ns.map V.int)->HOk P w H s₁.heap->(∀b,H b≠none->b=a)->(H a≠none->K.lookup a=none) ->
   V0 (J9 P w) Z7 (.call (.ref fa) ⟨[.ref a],[]⟩) (fun r s'=>r=.ok (.ret (.bool true))/\OldK s₁.heap s'.heap/\s'.os=s₁.os/\W1 s'.gens) s₁:=by
  intro H hO hS hok hA hK;have base_of:∀{b:F5} {o:Obj},s₁.heap.get? b=some o->H b=none->(nk s₁.heap H).get? b=some o:=fun e n=>wB e n;have noA:∀{b:F5} {o:Obj} {es:Array DictEntry} {ep:Nat},s₁.heap.get? b=some o->o.data=.dict es ep->H b=none:=fun {b o es ep} e d=>by
   cases q:H b with
   |none=>rfl
   |some u =>
    have e':b=a:=hA b (by rw[q];simp);subst e';rw[ha]at e;cases e;have d':Data.seq vs.toArray _=Data.dict es ep:=d;cases d'
  have nsK:∀{b:F5} {m:Str->Option s0},s₁.heap.Ns b m->(nk s₁.heap H).Ns b m:=fun {b m} ⟨o,es,ep,e,d,r⟩=>⟨o,es,ep,base_of e (noA e d),d,r⟩;have hKb:K.In (nk s₁.heap H):=fun b o e=>base_of (KX b o e) (by
   cases q:H b with
   |none=>rfl
   |some u =>
    have e':b=a:=hA b (by rw[q];simp);subst e';rw[hK (by rw[q];simp)]at e;cases e)
  have hM:Mod K mg (nk s₁.heap H):=⟨hKb,nsK hns,⟨mb,nsK hb,hbb⟩,let⟨mc,h1,h2⟩:=hlim;⟨mc,nsK h1,h2⟩⟩;have e0:yY P w K mg (nk s₁.heap H) Z7 [] s₁ H:=⟨rfl,hM,fun b o e=>yV e,Nat.le_of_eq (tZ _ _),trivial,fun b hb=>absurd (show b∈([]:List F5)from hb) (by simp),hok,.of_eq hg⟩;refine codeAny_mono ((F _ hKb (nsK hns)).run Z7 [] s₁ H ⟨[.ref a],[]⟩ [.ref a] [.ref a] _ _ hr e0 (hbind s₁ (.ref a)) (.cons rfl .nil) (hsp H hO hS)) fun r s' h=>?_;cases r with
  |error e=>exact(hCX H e s' h).elim
  |ok fl =>
   cases fl with
   |next=>exact P7 h
   |brk=>exact P7 h
   |cont=>exact P7 h
   |ret u =>
    obtain⟨v,H',os,bare,un,hok',r',q⟩:=h;have q':v=.bl true:=q;subst q';obtain rfl:u=s0.bool true:=r';refine⟨rfl,OldK.of_keep fun b o e=>?_,os,bare⟩;cases q:H b with
    |none=>exact un.keep b o e q (by intro z;exact absurd (show b∈([]:List F5)from z) (by simp)) (by simp)
    |some u =>
     rcases hO b with z|⟨ob,xs,z⟩
     ·rw[q]at z;cases z
     ·have z2:=un.frzs b ob _ z;obtain⟨e1,_⟩:=hok b _ z;obtain⟨e2,_⟩:=hok' b _ z2;rw[e]at e1;cases e1;exact e2
 cases hk:K.lookup a with
 |some o =>
  -- the script is one of the module's own objects
  have e:=KX a o hk;rw[ha]at e;cases e;refine core (fun _=>none) (fun _=>.inl rfl) (.inr ⟨_,vs.toArray,_,hk,rfl,rfl,rfl,by rw[F1,lenV];exact hl,by simpa using rv⟩) (fun b u z=>by have z':(none:Option HO)=some u:=z;cases z') (fun b z=>absurd rfl z) fun z=>absurd rfl z
 |none =>
  refine core (fun b=>if b=a then some (.frz { cls:=.type "list",data:=.seq vs.toArray } (.lst (ns.map V.int)))else none) (fun b=>?_) (.inl (.inr ⟨{ cls:=.type "list",data:=.seq vs.toArray },if_pos rfl⟩)) (fun b u z=>?_) (fun b z=>?_) fun _=>hk
  ·by_cases hb:b=a
   ·exact .inr ⟨_,_,if_pos hb⟩
   ·exact .inl (if_neg hb)
  ·by_cases hb:b=a
   ·have z':=(if_pos hb).symm.trans z;cases z';subst hb;exact⟨ha,by rw[T8];exact hl,vs,_,rv,ha⟩
   ·have z':=(if_neg hb).symm.trans z;cases z'
  ·by_cases hb:b=a
   ·exact hb
   ·exact absurd (if_neg hb) z
theorem rO{l:PySem.W.OpenLaw}{n k:Nat}{q:K2}{loose:List Str}{XP:(Str->Option s0)->K3->Prop}{YP:N4->K3->Prop}{d:DefRec}{K:Params->o0}{CX:N4->CXT}{sp:N4->Sp}{x:Str}
  (hn:l.most=some n) (hn2:n<=E9) (hdf:d.params.defaults=[]) (hr:cj k Z7)
  (hY:∀(w:N4) (h:K3),YP w h->(K w.params).In h)
  (F:∀ (w:N4) (mg:Str → Option s0) (fa:F5) (h:K3),(K w.params).In h → h.Ns Q5 mg → mg d.name = some (.ref fa) →
   ∃fd:P3,(∀(s:u8) (u:s0),aa8 s fd ⟨[u],[]⟩ [(x,u)]) /\
    ∀base:K3,(K w.params).In base->base.Ns Q5 mg->bo l.prog w (K w.params) mg base (CX w) k fa fd [x] (sp w))
  (hsp:∀(w:N4) (H:Hp) (a:F5) (ns:List Int),ns.length<=n->xN H->SqL (K w.params) H a (ns.map V.int)->sp w [.ref a] H (fun v _=>v=.bl true) fun _ _ _=>False)
  (hCX:∀(w:N4) (H:Hp) (s:u8) (e:s0) (s':u8),CX w [] H s (fun _ _ _=>False) e s'->False) :
  PySem.W.WalkO q loose XP YP l.row.toRowW d [] (fun f vs=>PySem.call f vs):=by
 refine Att.attach_call hn hdf fun w s₀ s₁ mg mb fa o pm cd doc a vs ns G Y ho hd hcd hmg hobj hints bH hg=>?_;have KX:=hY w _ Y;obtain⟨fd,hb,hF⟩:=F w mg fa _ KX G.T.g hmg;exact vo KX G.T.g G.T.b G.T.builtins G.T.nolimit hg hobj hints (K0 bH hn2) hr hF hb (fun H hO hS=>hsp w H a ns bH hO hS) fun H e s'=>hCX w H s₁ e s'
end L2
/- THE LAST THEOREM (shape; LID,My.* are yours):
   My.Adr: a structure of the addresses that your layer names (classes,functions);My.Txt K t: a structure (Prop) of the equations over K;
   My.txt_mk:{K} {implicit addresses ..} (e1:nsIn K Q5 "law"=some (some (.ref f))) (e2:K.lookup f=some ⟨oc,od,.func (fnOf "law" "law" params body scope dV kV doc pm an cdv ct),sl⟩) (e3:codeIn K cdv "law"=true) ..:∃t,My.Txt K t
set_option maxRecDepth 100000 in
set_option maxHeartbeats 0 in
theorem PySem.Challenge.cw_LID_holds : PySem.Challenge.rw_LID.Holds := by
 w_on;o_law;k_head;(case hw=>w_witness2)
 k_fill
 refine L2.rO (l:=PySem.Challenge.rw_LID) (n:=63) (k:=40) (x:="script") (CX:=fun w=>..) (sp:=fun _=>My.sp_law) rfl (by decide) rfl ⟨rfl,by decide,by decide⟩ (fun w h Y=>PySem.W.kIn_of Y) ?F ?S ?C
 case F =>
  intro w mg fa h KX G hmg;have T:∃t,My.Txt (L2.KOf KX) t:=by
   dsimp only[L2.KOf]                          -- K must stand as «<heap const> w.params» for k_is
   refine' My.txt_mk ?e1 ?e2 ?e3 ..
   (case e1=>PySem.W.k_is)                    -- in the order: a name->its address->its object->its parts
   (case e2=>PySem.W.k_is)
   ..
  obtain⟨t,T⟩:=T;have e0:=hmg.symm.trans (PySem.W.mg_of KX G T.law);cases e0                                       -- fa is the law's own address;exact⟨_,fun s u=>.of_eq rfl,fun base kb nb=>My.law_fn T kb nb⟩     -- if «.of_eq rfl» comes too early: refine' ⟨_,?b,fun base kb nb=>My.law_fn T kb nb⟩;exact fun s u=>.of_eq rfl
 case S=>exact fun w H a ns hl hO hS=>..
 case C=>exact ..
(the tactic k_is has no namespace: write k_is) -/
namespace L2
open PySem PySem.Spec PyProof.Rows
def eO(s:X1):Arguments:=match s with
 |.FunctionDef _ a _ _ _ _ _ _ _ _=>a
 |_=>{ posonlyargs:=[],args:=[],vararg:=none,kwonlyargs:=[],kw_defaults:=[],kwarg:=none,defaults:=[] }
def cE(s:X1):List X1:=match s with
 |.FunctionDef _ _ b _ _ _ _ _ _ _=>b
 |_=>[]
def aj(s:X1):O9:=match s with
 |.FunctionDef _ _ _ _ _ _ sc _ _ _=>sc
 |_=>{ kind:=.function,names:=[],isGenerator:=false,isCoroutine:=false }
abbrev CX0:CXT:=fun _ _ _ _ _ _=>False
abbrev E0:XK:=fun _ _ _=>False
theorem Eb{X:Cx}:qS CX0 X E0:=fun _ _ _ _ _ _ _ h=>h.elim
structure Fun(K:o0) (x qual:Str) (st:X1) (f:F5) (fd:P3):Prop where
 ex:∃(oc:s0) (od:Option F5) (kV doc pm:s0) (an:Option F5) (cdv ct:s0) (osl:Array (Option s0)),
  fd=U8 x qual (eO st) (cE st) (aj st) .none kV doc pm an cdv ct/\K.lookup f=some ⟨oc,od,.func fd,osl⟩/\PySem.W.codeIn K cdv qual=true
 kp:S7 K (.ref f)=true
section
variable{P:K2}{w:N4}{K:o0}{mg:Str->Option s0}{base:K3}{f:F5}{fd:P3}
theorem Fun.ok{x qual:Str}{st:X1}{f:F5}{fd:P3}{N ps:List Str}{k:Nat}{sp:Sp}(F:Fun K x qual st f fd) (S:ay N ps (aj st)) (len:∀vs H Q E,sp vs H Q E->vs.length=ps.length)
  (hbody:∀ (cdv:s0) (A:L8) (outer:List Env) (s:u8) (H:Hp) (vs:List V) (Q:VK) (E:XK),cj k (A.deeper (Z9 qual (aj st) s.heap.objs.size f cdv)) → sp vs H Q E →
   ∃t,PSs (pN CX0 P w K mg base N qual (aj st) f cdv A outer s H E).nox (cE st) t/\t { nx:=fun _ H'=>Q .non H',rt:=Q } (fI N vs) H):bo P w K mg base CX0 (k+1) f fd ps sp:=by
 obtain⟨oc,od,kV,doc,pm,an,cdv,ct,osl,rfl,lk,hcd⟩:=F.ex;refine DG lk hcd S len fun A outer s H vs Q E hr hsp=>?_;obtain⟨t,h,q⟩:=hbody cdv A outer s H vs Q E hr hsp;exact⟨t,h.nox,q⟩
theorem Fun.binds{x qual:Str}{st:X1}{f:F5}{fd:P3}{ps:List Str}(F:Fun K x qual st f fd)
  (h:∀(kV doc pm:s0) (an:Option F5) (cdv ct:s0) (us:List s0),us.length=ps.length->bindArgs (U8 x qual (eO st) (cE st) (aj st) .none kV doc pm an cdv ct) ⟨us,[]⟩=U9 (ps.zip us)):cZ K fd ps []:=by
 obtain⟨oc,od,kV,doc,pm,an,cdv,ct,osl,rfl,lk,hcd⟩:=F.ex;exact .all (h kV doc pm an cdv ct)
theorem u5{x qual:Str}{st:X1}{f:F5}{oc:s0}{od an:Option F5}{osl:Array (Option s0)}{kV doc pm cdv ct:s0}(l:K.lookup f=some ⟨oc,od,.func (U8 x qual (eO st) (cE st) (aj st) .none kV doc pm an cdv ct),osl⟩)
  (c:PySem.W.codeIn K cdv qual=true) (k:S7 K (.ref f)=true):Fun K x qual st f (U8 x qual (eO st) (cE st) (aj st) .none kV doc pm an cdv ct):=⟨⟨oc,od,kV,doc,pm,an,cdv,ct,osl,rfl,l,c⟩,k⟩
end
theorem tS{n:Nat}(h:n<=1000):n<E9:=Nat.lt_of_le_of_lt h (by decide)
theorem cF{c A B:Prop} [Decidable c] (h1:c->A) (h2:¬ c->B):if c then A else B:=by
 by_cases h:c
 ·rw[if_pos h];exact h1 h
 ·rw[if_neg h];exact h2 h
def uf(H H':Hp):Prop:=∀b o,H b=some o->H' b=some o
theorem uf.refl(H:Hp):uf H H:=fun _ _ h=>h
theorem uf.trans{H H1 H2:Hp}(a:uf H H1) (b:uf H1 H2):uf H H2:=fun c o h=>b c o (a c o h)
section
variable{κ:Type} [DecidableEq κ]
noncomputable def e8(kvs:List (κ×V)) (k:κ):Option V:=(kvs.find? fun kv=>decide (kv.1=k)).map (·.2)
noncomputable def cN(kvs:List (κ×V)) (k:κ) (v:V):List (κ×V) :=
 if(kvs.any fun kv=>decide (kv.1=k))=true then kvs.map (fun kv=>if kv.1=k then(kv.1,v)else kv)else kvs++[(k,v)]
def E4(kvs:List (κ×V)) (k:κ):List (κ×V):=kvs.filter fun kv=>decide (kv.1≠k)
theorem iy{p:κ×V}{r:List (κ×V)}{k:κ}(e:p.1=k):e8 (p::r) k=some p.2:=by simp[e8,O5,e]
theorem gR{p:κ×V}{r:List (κ×V)}{k:κ}(e:¬ p.1=k):e8 (p::r) k=e8 r k:=by simp[e8,O5,e]
theorem oW(k:κ):∀kvs:List (κ×V),(kvs.any fun kv=>decide (kv.1=k))=(e8 kvs k).isSome
 |[]=>rfl
 |p::r=>by
  rw[O1]
  by_cases e:p.1=k
  ·simp only[iy e,decide_eq_true e,Bool.true_or,Option.isSome_some]
  ·rw[gR e,decide_eq_false e,Bool.false_or];exact oW k r
theorem dN(kvs:List (κ×V)) (k:κ) (v:V):(cN kvs k v).length<=kvs.length+1:=by
 unfold cN
 split
 ·rw[T8];lia
 ·rw[L1,R4,V5];exact F3 _
theorem jt.isSome_eq{o:Option V}{u:Option s0}(r:jt o u):o.isSome=u.isSome:=by
 cases o with
 |none=>cases u with
  |none=>rfl
  |some _=>exact(show False from r).elim
 |some _=>cases u with
  |none=>exact(show False from r).elim
  |some _=>rfl
theorem jt.getD{o:Option V}{u:Option s0}{d:V}{d':s0}(r:jt o u) (rd:aA d d'):aA (o.getD d) (u.getD d'):=by
 cases o with
 |none=>cases u with
  |none=>exact rd
  |some _=>exact(show False from r).elim
 |some _=>cases u with
  |none=>exact(show False from r).elim
  |some _=>exact r
theorem KV.val{kvs:List (κ×V)}{vs:List (κ×s0)}(r:KV kvs vs) (k:κ):jt (e8 kvs k) (aa2 vs k):=by
 unfold KV at r
 induction r with
 |nil=>exact U3
 |@cons p q ps qs h t ih =>
  obtain⟨h1,h2⟩:=h
  by_cases e:p.1=k
  ·have e':q.1=k:=h1.symm.trans e;have b:aa2 (q::qs) k=some q.2:=by simp[aa2,O5,e']
   rw[iy e,b];exact h2
  ·have e':¬ q.1=k:=fun z=>e (h1.trans z);have b:aa2 (q::qs) k=aa2 qs k:=by simp[aa2,O5,e']
   rw[gR e,b];exact ih
theorem KV.any{kvs:List (κ×V)}{vs:List (κ×s0)}(r:KV kvs vs) (k:κ):(kvs.any fun kv=>decide (kv.1=k))=vs.any fun kv=>decide (kv.1=k):=by
 unfold KV at r
 induction r with
 |nil=>rfl
 |cons h t ih=>rw[O1,O1,ih,h.1]
theorem KV.repl{kvs:List (κ×V)}{vs:List (κ×s0)}(r:KV kvs vs) (k:κ) {y:V}{u:s0}(ry:aA y u) :
  KV (kvs.map fun kv=>if kv.1=k then(kv.1,y)else kv) (vs.map fun kv=>if kv.1=k then(kv.1,u)else kv):=by
 unfold KV at r ⊢
 induction r with
 |nil=>exact .nil
 |@cons p q ps qs h t ih =>
  rw[K7,K7];refine .cons ?_ ih;obtain⟨h1,h2⟩:=h
  by_cases e:p.1=k
  ·rw[if_pos e,if_pos (h1.symm.trans e)];exact⟨h1,ry⟩
  ·rw[if_neg e,if_neg (fun z=>e (h1.trans z))];exact⟨h1,h2⟩
theorem KV.put{kvs:List (κ×V)}{vs:List (κ×s0)}(r:KV kvs vs) (k:κ) {y:V}{u:s0}(ry:aA y u):KV (cN kvs k y) (stored vs k u):=by
 unfold cN stored;rw[r.any k]
 by_cases e:(vs.any fun kv=>decide (kv.1=k))=true
 ·rw[if_pos e,if_pos e];exact r.repl k ry
 ·rw[if_neg e,if_neg e];exact O4.snoc r ⟨rfl,ry⟩
theorem KV.keys{kvs:List (κ×V)}{vs:List (κ×s0)}(r:KV kvs vs):kvs.map (·.1)=vs.map (·.1):=by
 unfold KV at r
 induction r with
 |nil=>rfl
 |cons h t ih=>rw[K7,K7,ih,h.1]
theorem KV.length{kvs:List (κ×V)}{vs:List (κ×s0)}(r:KV kvs vs):kvs.length=vs.length:=V1 r
end
theorem jj{P:K2}{w:N4}{k:Key}{u:s0}(r:aA (kV k) u):(aI P w).is k u=true:=by
 cases k with
 |inl i=>obtain⟨t,e⟩:=(show ∃t,u=s0.int i t from r);subst e;exact oP P w i t
 |inr x=>obtain⟨t,e⟩:=(show ∃t,u=s0.str x t from r);subst e;exact oO P w x t
theorem mM{P:K2}{w:N4}:∀{ks:List Key}{us:List s0},av (ks.map kV) us->ItemsAre (aI P w) ks us
 |[],_,r=>by rw[List.map_nil]at r;cases r;exact .nil
 |k::ks,_,r=>by
  rw[K7]at r;cases r with
  |cons h t=>exact .cons (jj h) (mM t)
abbrev KT(H:Hp):List (List Key×V)->List (List Key×F5×s0)->Prop:=O4 fun p q=>p.1=q.1/\H q.2.1=some (.tup (p.1.map kV))/\aA p.2 q.2.2
theorem KT.val{H:Hp}{kvs:List (List Key×V)}{xs:List (List Key×F5×s0)}(r:KT H kvs xs) (k:List Key):jt (e8 kvs k) ((atKey xs k).map (·.2)):=by
 induction r with
 |nil=>exact U3
 |@cons p q ps qs h t ih =>
  obtain⟨h1,_,h2⟩:=h
  by_cases e:p.1=k
  ·have e':q.1=k:=h1.symm.trans e;have b:atKey (q::qs) k=some q.2:=by simp[atKey,O5,e']
   rw[iy e,b];exact h2
  ·have e':¬ q.1=k:=fun z=>e (h1.trans z);have b:atKey (q::qs) k=atKey qs k:=by simp[atKey,O5,e']
   rw[gR e,b];exact ih
theorem KT.repl{H:Hp}{kvs:List (List Key×V)}{xs:List (List Key×F5×s0)}(r:KT H kvs xs) (k:List Key) {y:V}{u:s0}(ry:aA y u) :
  KT H (kvs.map fun kv=>if kv.1=k then(kv.1,y)else kv) (xs.map (putAt k u)):=by
 induction r with
 |nil=>exact .nil
 |@cons p q ps qs h t ih =>
  rw[K7,K7];refine .cons ?_ ih;obtain⟨h1,h2,h3⟩:=h;unfold putAt
  by_cases e:p.1=k
  ·rw[if_pos e,if_pos (h1.symm.trans e)];exact⟨h1,h2,ry⟩
  ·rw[if_neg e,if_neg (fun z=>e (h1.trans z))];exact⟨h1,h2,h3⟩
theorem KT.put{H:Hp}{kvs:List (List Key×V)}{xs:List (List Key×F5×s0)}(r:KT H kvs xs) (k:List Key) {b:F5}{y:V}{u:s0}(hb:H b=some (.tup (k.map kV))) (ry:aA y u) :
  KT H (cN kvs k y) (storedH xs k b u):=by
 have e:(kvs.any fun kv=>decide (kv.1=k))=(atKey xs k).isSome:=by
  rw[oW,(r.val k).isSome_eq,Option.isSome_map]
 unfold cN storedH;rw[e]
 by_cases q:(atKey xs k).isSome=true
 ·rw[if_pos q,if_pos q];exact r.repl k ry
 ·rw[if_neg q,if_neg q];exact O4.snoc r ⟨rfl,hb,ry⟩
theorem KT.keeps{H H':Hp}{kvs:List (List Key×V)}{xs:List (List Key×F5×s0)}(r:KT H kvs xs) (ht:∀b ys,H b=some (.tup ys)->H' b=some (.tup ys)):KT H' kvs xs :=
 O4.mapP r fun _ _ z=>⟨z.1,ht _ _ z.2.1,z.2.2⟩
section
variable{P:K2}{w:N4}{H:Hp}{h:K3}{a:F5}
theorem zX{u:HO}(ok:HOk P w H h) (e:Rd H a u):bK P w H h a u:=e.ok ok
theorem kR{kvs:List (Key×V)}(ok:HOk P w H h) (e:Rd H a (.dK kvs)):kvs.length<=E9/\(a==P5)=false/\∃vs,KV kvs vs/\h.DictOf (aI P w) a vs :=
 show bK P w H h a (.dK kvs)from zX ok e
theorem oU{kvs:List (Key×V)}(ok:HOk P w H h) (e:H a=some (.dK kvs)):kvs.length<=E9/\(a==P5)=false/\∃vs,KV kvs vs/\h.DictOf (aI P w) a vs:=kR ok (.inl e)
theorem gn{ks:List Key}(ok:HOk P w H h) (e:H a=some (.tup (ks.map kV))):(X0 (aI P w)).is h ks a:=by
 obtain⟨_,its,r,o,h1,h2,⟨n,h3⟩,_⟩:=(show bK P w H h a (.tup (ks.map kV))from ok a _ e);exact⟨o,its.toArray,n,h1,h2,h3,by simpa using mM r⟩
theorem k7{kvs:List (List Key×V)}(ok:HOk P w H h) (e:Rd H a (.dT kvs)):kvs.length<=E9/\(a==P5)=false /\
  ∃xs,KT H kvs xs/\h.DictOfH (X0 (aI P w)) a xs:=by
 obtain⟨z,y,xs,r,o,es,ep,h1,h2,h3,h4,h5⟩:=(show bK P w H h a (.dT kvs)from zX ok e);refine⟨z,y,xs,r,o,es,ep,h1,h2,h3,h4,fun x hx=>?_,h5⟩;have all:∀{l:List (List Key×V)} {m:List (List Key×F5×s0)},KT H l m->∀x∈m,(X0 (aI P w)).is h x.1 x.2.1:=by
  intro l m q
  induction q with
  |nil=>intro x hx;exact nomatch hx
  |@cons p q ps qs hq t ih =>
   intro x hx;rcases P0.mp hx with e|hx
   ·subst e;exact gn ok (by rw[<-hq.1];exact hq.2.1)
   ·exact ih x hx
 exact all r x hx
theorem zT{kvs:List (List Key×V)}(ok:HOk P w H h) (e:H a=some (.dT kvs)):kvs.length<=E9/\(a==P5)=false /\
  ∃xs,KT H kvs xs/\h.DictOfH (X0 (aI P w)) a xs:=k7 ok (.inl e)
end
def eN(H:Hp) (a:F5) (y:V) (r:Option V):Prop :=
 (∃kvs k,Rd H a (.dK kvs)/\y=kV k/\r=e8 kvs k)∨∃kvs k b,Rd H a (.dT kvs)/\y=.ref b/\H b=some (.tup (k.map kV))/\r=e8 kvs k
def oJ(H:Hp) (a:F5) (y v:V) (H':Hp):Prop :=
 (∃kvs k,H a=some (.dK kvs)/\y=kV k/\kvs.length<E9/\H'=upd H a (.dK (cN kvs k v))) ∨
 ∃kvs k b,H a=some (.dT kvs)/\y=.ref b/\H b=some (.tup (k.map kV))/\kvs.length<E9/\H'=upd H a (.dT (cN kvs k v))
theorem eN.k{H:Hp}{a:F5}{kvs:List (Key×V)}{k:Key}(e:H a=some (.dK kvs)):eN H a (kV k) (e8 kvs k):=.inl ⟨kvs,k,.inl e,rfl,rfl⟩
theorem eN.t{H:Hp}{a b:F5}{kvs:List (List Key×V)}{k:List Key}(e:H a=some (.dT kvs)) (eb:H b=some (.tup (k.map kV))):eN H a (.ref b) (e8 kvs k):=.inr ⟨kvs,k,b,.inl e,rfl,eb,rfl⟩
theorem oJ.k{H:Hp}{a:F5}{kvs:List (Key×V)}{k:Key}{v:V}(e:H a=some (.dK kvs)) (hl:kvs.length<E9):oJ H a (kV k) v (upd H a (.dK (cN kvs k v))):=.inl ⟨kvs,k,e,rfl,hl,rfl⟩
theorem oJ.t{H:Hp}{a b:F5}{kvs:List (List Key×V)}{k:List Key}{v:V}(e:H a=some (.dT kvs)) (eb:H b=some (.tup (k.map kV))) (hl:kvs.length<E9) :
  oJ H a (.ref b) v (upd H a (.dT (cN kvs k v))):=.inr ⟨kvs,k,b,e,rfl,eb,hl,rfl⟩
section
variable{X:Cx}{aa:List (F5×Obj)}{σ:St}{H:Hp}{s:u8}{a:F5}{y v:V}{u r:s0}{o:Option V}{A:L8}{E:s0->u8->Prop}
theorem Inv.big(I:Inv X aa σ H s):P5<s.heap.objs.size:=by
 have h:Q5<s.heap.objs.size:=(I.mod.glob.keeps I.bk).lt;exact Nat.lt_trans (by decide) h
theorem qV{Q:s0->u8->Prop}(hu:A.units+1<V6) (I:Inv X aa σ H s) (g:eN H a y (some v)) (ry:aA y u) (h:∀w' s',Inv X aa σ H s'->aA v w'->Q w' s') :
  J5 (J9 X.prog X.w) A (W6 (.ref a) u) Q E s:=by
 rcases g with⟨kvs,k,e,ey,l⟩|⟨kvs,k,b,e,ey,eb,l⟩
 ·subst ey;obtain⟨z,hd,vs,rel,dd⟩:=kR I.hok e;obtain⟨w',hw,rw'⟩:=jt.some_of (v:=v) (o:=aa2 vs k) (by rw[l];exact rel.val k);exact wpAny_getItem_of (jj ry) dd.mapOf hw (h w' _ (I.tok _) rw')
 ·subst ey;cases(show u=P4 b from ry);obtain⟨z,hd,xs,rel,dd⟩:=k7 I.hok e;obtain⟨w',hw,rw'⟩:=jt.some_of (v:=v) (o:=(atKey xs k).map (·.2)) (by rw[l];exact rel.val k);obtain⟨p,hp,hp2⟩:=Option.map_eq_some_iff.mp hw;refine wpAny_getItem_heap (R7 hu) (gn I.hok eb) dd hp ?_;rw[hp2];exact h w' _ (I.tok _) rw'
theorem Cr{Q:s0->u8->Prop}(hu:A.units+1<V6) (I:Inv X aa σ H s) (g:eN H a y o) (ry:aA y u) (h:∀s',Inv X aa σ H s'->Q (.bool o.isSome) s') :
  J5 (J9 X.prog X.w) A (L3 .In u (.ref a)) Q E s:=by
 rcases g with⟨kvs,k,e,ey,l⟩|⟨kvs,k,b,e,ey,eb,l⟩
 ·subst ey;obtain⟨z,hd,vs,rel,dd⟩:=kR I.hok e;refine wpAny_in_of (jj ry) hd dd.mapOf ?_;rw[<-(rel.val k).isSome_eq,<-l];exact h _ (I.tok _)
 ·subst ey;cases(show u=P4 b from ry);obtain⟨z,hd,xs,rel,dd⟩:=k7 I.hok e;refine wpAny_in_heap (R7 hu) (gn I.hok eb) hd dd ?_;have q:=(rel.val k).isSome_eq;rw[Option.isSome_map]at q;rw[<-q,<-l];exact h _ (I.tok _)
theorem wD{Q:s0->u8->Prop}(hu:A.units+1<V6) (I:Inv X aa σ H s) (g:eN H a y o) (ry:aA y u) (h:∀s',Inv X aa σ H s'->Q (.bool (!o.isSome)) s') :
  J5 (J9 X.prog X.w) A (L3 .NotIn u (.ref a)) Q E s:=by
 rcases g with⟨kvs,k,e,ey,l⟩|⟨kvs,k,b,e,ey,eb,l⟩
 ·subst ey;obtain⟨z,hd,vs,rel,dd⟩:=kR I.hok e;refine wpAny_notIn_of (jj ry) hd dd.mapOf ?_;rw[<-(rel.val k).isSome_eq,<-l];exact h _ (I.tok _)
 ·subst ey;cases(show u=P4 b from ry);obtain⟨z,hd,xs,rel,dd⟩:=k7 I.hok e;refine wpAny_notIn_heap (R7 hu) (gn I.hok eb) hd dd ?_;have q:=(rel.val k).isSome_eq;rw[Option.isSome_map]at q;rw[<-q,<-l];exact h _ (I.tok _)
theorem ir{h':K3}{t':Nat}{ob:HO}(I:Inv X aa σ H s) (mu:Mut (H a)) (hs:R8 a s.heap h') (he:∃q,h'.get? a=some q) (new:bK X.prog X.w (upd H a ob) h' a ob) :
  Inv X aa σ (upd H a ob) { s with heap:=h',toks:=t' } :=
 I.write (x:=a) (e:=a) mu (.inl rfl) (fun b q hb z=>(hs.2 b hb).trans z) he new
theorem wG{P:K2}{w:N4}{H':Hp}{h':K3}{kvs:List (Key×V)}{vs:List (Key×s0)}(z:kvs.length<=E9) (hd:(a==P5)=false) (rel:KV kvs vs) (dd:h'.DictOf (aI P w) a vs) :
  bK P w H' h' a (.dK kvs):=⟨z,hd,vs,rel,dd⟩
theorem qL{H':Hp}{Q:Unit->u8->Prop}(hu:A.units+1<V6) (I:Inv X aa σ H s) (g:oJ H a y v H') (ry:aA y u) (rv:aA v r) (h:∀s',Inv X aa σ H' s'->Q () s') :
  J5 (J9 X.prog X.w) A (setItem (.ref a) u r) Q E s:=by
 rcases g with⟨kvs,k,e,ey,l,eH⟩|⟨kvs,k,b,e,ey,eb,l,eH⟩
 ·subst ey eH;obtain⟨z,hd,vs,rel,dd⟩:=oU I.hok e;have hz:vs.length<=E9:=by rw[<-rel.length];exact z
  have hl:(cN kvs k v).length<=E9:=by have:=dN kvs k v;exact K0 (by assumption) (by assumption)
  refine wpAny_setItem_pairs (hsz:=hz) (jj ry) dd fun h' dd' hs=>h _ ?_;have he:∃q,h'.get? a=some q:=let⟨q,_,_,hq,_⟩:=dd';⟨q,hq⟩
  exact ir I (by rw[e];exact U3) hs he (wG hl hd (rel.put k rv) dd')
 ·subst ey eH;cases(show u=P4 b from ry);obtain⟨z,hd,xs,rel,dd⟩:=zT I.hok e;have hz:xs.length<=E9:=by rw[<-V1 rel];exact z
  have hl:(cN kvs k v).length<=E9:=by have:=dN kvs k v;exact K0 (by assumption) (by assumption)
  refine wpAny_setItem_heap (hsz:=hz) (R7 hu) (gn I.hok eb) dd fun h' dd' hs=>h _ ?_;obtain⟨q,es,ep,hq,h2,h3,h4,_,h5⟩:=dd';refine ir I (by rw[e];exact U3) hs ⟨q,hq⟩ ⟨hl,hd,_,(rel.put k eb rv).keeps fun c ys ec=>?_,q,es,ep,hq,h2,h3,h4,h5⟩;rw[aw (zI ec e (fun z=>nomatch z))];exact ec
end
def xA(i:J0):Prop:=∀ov iv,Z5 i false ov iv=operate [ov,iv] (W6 ov iv)
theorem yF{prog:K2}{w:N4}{A:L8}{E:s0->u8->Prop}{s:u8}{env:Env}{value slice:J0}{pos:Pos}{T id:String}{Q:s0->u8->Prop}
  (hl:typeLookup (.type T) "__getitem__"=U9 (some (.builtin id))) (hs:xA slice)
  (h:J5 (J9 prog w) A (U0 value env) (fun o s₁=>J5 (J9 prog w) A (U0 slice env) (fun i s₂=>s₂.TypeIs o T/\J5 (J9 prog w) A (W6 o i) Q E s₂) E s₁) E s) :
  J5 (J9 prog w) A (U0 (.Subscript value slice pos) env) Q E s:=by
 refine Subscript_ (L4 h (fun o s₁ h₁=>L4 h₁ (fun i s₂ h₂=>?_) fun _ _ x=>x) fun _ _ x=>x);obtain⟨hT,h₂⟩:=h₂;unfold subscriptTail;refine F0 ?_;rw[getitemInPython_of_ne hT.not_modules];refine F0 (wpAny_specialOf hT hl ?_);have fin:J5 (J9 prog w) A (Z5 slice false o i) (fun r s₃=>J5 (J9 prog w) A (letTemporaryGo value o r >>= fun _=>U9 r) Q E s₃) E s₂:=by
  rw[hs o i];exact wpAny_operating (L4 h₂ (fun r s₃ h₃=>F0 (wpAny_letTemporaryGo (F9 h₃))) fun _ _ x=>x)
 first
  |exact F9 (F0 fin)
  |exact F0 (F9 (F0 fin))
  |exact F0 fin
theorem pK{X:Cx}{aa:List (F5×Obj)}{σ:St}{H:Hp}{s:u8}{a:F5}{y:V}{o:Option V}(I:Inv X aa σ H s) (g:eN H a y o):s.TypeIs (.ref a) "dict":=by
 rcases g with⟨kvs,k,e,_,_⟩|⟨kvs,k,b,e,_,_,_⟩
 ·obtain⟨_,_,vs,_,dd⟩:=kR I.hok e;exact dd.typeIs
 ·obtain⟨_,_,xs,_,dd⟩:=k7 I.hok e;exact dd.typeIs
def D3(td ty:TE):TE:=fun σ H Q=>td σ H fun x H1=>ty σ H1 fun y H2=>∃a v,x=.ref a/\eN H2 a y (some v)/\Q v H2
def DS(ty td:TE):TE:=fun σ H Q=>ty σ H fun y H1=>td σ H1 fun x H2=>∃a o,x=.ref a/\eN H2 a y o/\Q (.bl o.isSome) H2
def rH(ty td:TE):TE:=fun σ H Q=>ty σ H fun y H1=>td σ H1 fun x H2=>∃a o,x=.ref a/\eN H2 a y o/\Q (.bl (!o.isSome)) H2
def Cf(td ty tv:TE):TS:=fun D σ H=>tv σ H fun v H1=>td σ H1 fun x H2=>ty σ H2 fun y H3=>∃a H4,x=.ref a/\oJ H3 a y v H4/\D.nx σ H4
section
variable{X:Cx}{o i e value:J0}{pos pos' tpos:Pos}{td ty tv:TE}
theorem sx(hu:X.A.units+1<V6) (ho:PE X o td) (hi:PE X i ty) (hs:xA i):PE X (.Subscript o i pos) (D3 td ty):=by
 intro aa s σ H Q I h;refine yF PySem.F.slot_dict_getitem.lookup hs (thn (ho aa s σ H _ I h) fun u s1 hup=>hup.el fun x H1 I1 rx q1=>thn (hi aa s1 σ H1 _ I1 q1) fun iv s2 ⟨y,H2,I2,ry,a,v,ex,g,q2⟩=>?_);subst ex;obtain rfl:u=P4 a:=rx;exact⟨pK I2 g,qV hu I2 g ry fun w' s3 I3 rw'=>⟨v,H2,I3,rw',q2⟩⟩
theorem BE(hu:X.A.units+1<V6) (hi:PE X i ty) (ho:PE X o td):PC X .In i o (DS ty td):=by
 intro aa s σ H Q I h;refine thn (hi aa s σ H _ I h) fun iv s1 hup=>hup.el fun y H1 I1 ry q1=>thn (ho aa s1 σ H1 _ I1 q1) fun u s2 ⟨x,H2,I2,rx,a,ov,ex,g,q2⟩=>?_;subst ex;obtain rfl:u=P4 a:=rx;exact Cr hu I2 g ry fun s3 I3=>⟨.bl ov.isSome,H2,I3,rfl,q2⟩
theorem uj(hu:X.A.units+1<V6) (hi:PE X i ty) (ho:PE X o td):PC X .NotIn i o (rH ty td):=by
 intro aa s σ H Q I h;refine thn (hi aa s σ H _ I h) fun iv s1 hup=>hup.el fun y H1 I1 ry q1=>thn (ho aa s1 σ H1 _ I1 q1) fun u s2 ⟨x,H2,I2,rx,a,ov,ex,g,q2⟩=>?_;subst ex;obtain rfl:u=P4 a:=rx;exact wD hu I2 g ry fun s3 I3=>⟨.bl (!ov.isSome),H2,I3,rfl,q2⟩
theorem sP(hu:X.A.units+1<V6) (ho:PE X o td) (hi:PE X i ty) (hv:PE X value tv) (hs:U6 value (some (.Subscript o i pos')) pos.line X.env=U9 false) :
  PS X (.Assign [.Subscript o i pos'] value pos) (Cf td ty tv):=by
 intro aa s σ H D I h;refine wpAny_Assign_Subscript (thn (hv aa s σ H _ I h) fun r s1 hup=>hup.el fun v H1 I1 rv q1=>thn (ho aa s1 σ H1 _ I1 q1) fun u s2 hup=>hup.el fun x H2 I2 rx q2=>thn (hi aa s2 σ H2 _ I2 q2) fun iv s3 ⟨y,H3,I3,ry,a,H4,ex,g,q3⟩=>?_) hs;subst ex;obtain rfl:u=P4 a:=rx;exact qL hu I3 g ry rv fun s4 I4=>⟨σ,H4,I4,q3⟩
end
theorem wj{P:K2}{w:N4}{H:Hp}(h:K3) (hb:P5<h.objs.size):bK P w H (h.push { cls:=.type "dict",data:=.dict #[] }) h.objs.size (.dK []) :=
 ⟨R1 _,beq_eq_false_iff_ne.mpr (W4 (F7 hb)),[],.nil,K3.DictOf.new h⟩
theorem oR{P:K2}{w:N4}{H:Hp}(h:K3) (hb:P5<h.objs.size):bK P w H (h.push { cls:=.type "dict",data:=.dict #[] }) h.objs.size (.dT []) :=
 ⟨R1 _,beq_eq_false_iff_ne.mpr (W4 (F7 hb)),[],.nil,_,#[],0,H0 _ rfl,⟨rfl,rfl,rfl⟩,rfl,rfl,List.nodup_nil⟩
def z7:TE:=fun _ H Q=>∀p,H p=none->Q (.ref p) (upd H p (.dT []))
section
variable{X:Cx}{pos:Pos}
theorem vD:PE X (.Dict [] [] pos) z7:=fun aa s σ H Q I h =>
 wpAny_Dict_empty ⟨.ref s.heap.objs.size,_,I.laid (a:=s.heap.objs.size) (o:=.dT []) (t':=s.toks) (fun _ _ q=>E8 _ q) (F3 _) (oR s.heap I.big),rfl,h _ (I.hok.fresh (F3 _))⟩
end
def qu:List (TE×TE)->St->Hp->(List (V×V)->Hp->Prop)->Prop
 |[],_,H,Q=>Q [] H
 |(tk,tv)::r,σ,H,Q=>tk σ H fun x H1=>tv σ H1 fun y H2=>qu r σ H2 fun ps H3=>Q ((x,y)::ps) H3
abbrev VV:List (V×V)->List (s0×s0)->Prop:=O4 fun p q=>aA p.1 q.1/\aA p.2 q.2
def PPs(X:Cx) (pos:Pos) (keys:List (Option J0)) (values:List J0) (trs:List (TE×TE)):Prop :=
 ∀(aa:List (F5×Obj)) (s:u8) (σ:St) (H:Hp) (Q:List (V×V)->Hp->Prop),Inv X aa σ H s->qu trs σ H Q ->
  J5 (J9 X.prog X.w) X.A (evalPairs (pairTrees keys values X.env pos)) (fun vs s'=>∃ps H',Inv X aa σ H' s'/\VV ps vs/\Q ps H') X.xe s
theorem yO{X:Cx}{pos:Pos}:PPs X pos [] [] []:=fun aa s σ H Q I h=>pairTrees_nil_walk ⟨[],H,I,.nil,h⟩
theorem uW{X:Cx}{pos:Pos}{k v:J0}{ks:List (Option J0)}{vs:List J0}{tk tv:TE}{trs:List (TE×TE)}(hk:PE X k tk) (hv:PE X v tv) (hr:PPs X pos ks vs trs) :
  PPs X pos (some k::ks) (v::vs) ((tk,tv)::trs):=fun aa s σ H Q I h =>
 pairTrees_cons_walk (thn (hk aa s σ H _ I h) fun u s1 hup=>hup.el fun x H1 I1 rx q1=>thn (hv aa s1 σ H1 _ I1 q1) fun w2 s2 hup=>hup.el fun y H2 I2 ry q2 =>
  thn (hr aa s2 σ H2 _ I2 q2) fun ws s3 ⟨ps,H3,I3,rel,q3⟩=>⟨(x,y)::ps,H3,I3,.cons ⟨rx,ry⟩ rel,q3⟩)
def gk(kvs more:List (Key×V)):List (Key×V):=more.foldl (fun acc kv=>cN acc kv.1 kv.2) kvs
theorem KV.merge:∀{more:List (Key×V)}{rs:List (Key×s0)}{kvs:List (Key×V)}{vs:List (Key×s0)},KV more rs->KV kvs vs->KV (gk kvs more) (merged vs rs):=by
 intro more rs kvs vs r;unfold KV at r
 induction r generalizing kvs vs with
 |nil=>intro q;exact q
 |@cons p q ps qs h t ih =>
  intro r0;have e:KV (cN kvs p.1 p.2) (stored vs q.1 q.2):=by
   have:=r0.put p.1 h.2;rw[<-h.1];exact this
  exact ih e
theorem gc:∀(more kvs:List (Key×V)),(gk kvs more).length<=kvs.length+more.length
 |[],kvs=>by show kvs.length<=kvs.length+0;exact F3 _
 |p::r,kvs=>by
  have h1:=gc r (cN kvs p.1 p.2);have h2:=dN kvs p.1 p.2;show(gk (cN kvs p.1 p.2) r).length<=_;rw[R4];lia
theorem j3{P:K2}{w:N4}:∀{kvs:List (Key×V)}{ws:List (s0×s0)},VV (kvs.map fun kv=>(kV kv.1,kv.2)) ws->∃rs,Carries (aI P w) ws rs/\KV kvs rs
 |[],_,r=>by rw[List.map_nil]at r;cases r;exact⟨[],U3,.nil⟩
 |p::kvs,_,r=>by
  rw[K7]at r;cases r with
  |@cons a b as bs h t =>
   obtain⟨rs,c,q⟩:=j3 (P:=P) (w:=w) t;obtain⟨b1,b2⟩:=b;exact⟨(p.1,b2)::rs,⟨jj h.1,rfl,c⟩,.cons ⟨rfl,h.2⟩ q⟩
def DQ(trs:List (TE×TE)):TE:=fun σ H Q=>∀p,H p=none->qu trs σ (upd H p (.dK [])) fun ps H2=>H2 p=some (.dK [])/\∃kvs:List (Key×V),ps=kvs.map (fun kv=>(kV kv.1,kv.2))/\kvs.length<=15/\Q (.ref p) (upd H2 p (.dK (gk [] kvs)))
theorem yp{X:Cx}{pos:Pos}{keys:List (Option J0)}{values:List J0}{trs:List (TE×TE)}(h:PPs X pos keys values trs) (hall:keys.all (·.isSome)=true) (hl:keys.length=values.length) (h0:keys≠[])
  (h15:keys.length<=15):PE X (.Dict keys values pos) (DQ trs):=by
 intro aa s σ H Q I q;have hn:=I.hok.fresh (F3 s.heap.objs.size);have I1:=I.laid (a:=s.heap.objs.size) (o:=.dK []) (h':=s.heap.push { cls:=.type "dict",data:=.dict #[] }) (t':=s.toks) (fun _ _ q=>E8 _ q) (F3 _) (wj s.heap I.big);refine wpAny_Dict_walk (knd:=aI X.prog X.w) hall hl h0 h15 (thn (h aa _ σ _ _ I1 (q _ hn)) fun ws s2 ⟨ps,H2,I2,rel,e,kvs,ep,lk,q2⟩=>?_);subst ep;obtain⟨rs,c,rk⟩:=j3 (P:=X.prog) (w:=X.w) rel;obtain⟨z,hd,vs0,r0,dd⟩:=oU I2.hok e;cases r0;refine⟨rs,c,dd,fun h' dd' hs=>⟨.ref s.heap.objs.size,_,?_,rfl,q2⟩⟩;have hz:(gk [] kvs).length<=E9:=by
  have h1:=gc kvs [];rw[V5]at h1;rw[sizeLine_eq];lia
 have he:∃q,h'.get? s.heap.objs.size=some q:=let⟨q,_,_,hq,_⟩:=dd';⟨q,hq⟩
 exact ir I2 (by rw[e];exact U3) hs he (wG hz hd (rk.merge .nil) dd')
structure M1(X:Cx) (o:J0) (m:Str) (dv:Pos) (e:J0) (bP:Pos):Prop where
 base:W7 o m X.env (U0 o X.env)=U0 o X.env
 few:((T4 bP (I0 [e] X.env)).all (fun x=>!x.1)&&(backToKw bP (Z6 [] X.env)).all (fun x=>x.1.isSome)
 &&decide (([e]:List J0).length+([]:List X4).length+(if([]:List X4).isEmpty then 0 else 1)<30))=true
 line:(dv.endLine==bP.line)=true
 trees:T4 bP (I0 [e] X.env)=[(false,U0 e X.env)]
structure M2(X:Cx) (o:J0) (m:Str) (dv:Pos) (e f:J0) (bP:Pos):Prop where
 base:W7 o m X.env (U0 o X.env)=U0 o X.env
 few:((T4 bP (I0 [e,f] X.env)).all (fun x=>!x.1)&&(backToKw bP (Z6 [] X.env)).all (fun x=>x.1.isSome)
 &&decide (([e,f]:List J0).length+([]:List X4).length+(if([]:List X4).isEmpty then 0 else 1)<30))=true
 line:(dv.endLine==bP.line)=true
 trees:T4 bP (I0 [e,f] X.env)=[(false,U0 e X.env),(false,U0 f X.env)]
def IsD(H:Hp) (a:F5):Prop:=(∃kvs,Rd H a (.dK kvs))∨∃kvs,Rd H a (.dT kvs)
theorem u7{X:Cx}{aa:List (F5×Obj)}{σ:St}{H:Hp}{s:u8}{a:F5}(I:Inv X aa σ H s) (d:IsD H a) :
  s.TypeIs (.ref a) "dict"/\(∀b,P4 a=.ref b->∃ob,s.heap.get? b=some ob/\ob.dict=none)/\(a==P5)=false:=by
 rcases d with⟨kvs,e⟩|⟨kvs,e⟩
 ·obtain⟨_,hd,vs,_,dd⟩:=kR I.hok e;refine⟨dd.typeIs,fun b q=>?_,hd⟩;cases q;obtain⟨ob,_,_,h1,h2,_⟩:=dd;exact⟨ob,h1,h2.2.1⟩
 ·obtain⟨_,hd,xs,_,dd⟩:=k7 I.hok e;refine⟨dd.typeIs,fun b q=>?_,hd⟩;cases q;obtain⟨ob,_,_,h1,h2,_⟩:=dd;exact⟨ob,h1,h2.2.1⟩
section
variable{X:Cx}{aa:List (F5×Obj)}{σ:St}{H:Hp}{s:u8}{a:F5}{y d:V}{u r:s0}{o:Option V}{A:L8}{E:s0->u8->Prop}
theorem xM{Q:s0->u8->Prop}(hu:A.units+1<V6) (I:Inv X aa σ H s) (g:eN H a y o) (ry:aA y u) (rd:aA d r) (h:∀w' s',Inv X aa σ H s'->aA (o.getD d) w'->Q w' s') :
  J5 (J9 X.prog X.w) A (call (.builtin "dict.get") [.ref a,u,r]) Q E s:=by
 rcases g with⟨kvs,k,e,ey,l⟩|⟨kvs,k,b,e,ey,eb,l⟩
 ·subst ey;obtain⟨z,hd,vs,rel,dd⟩:=kR I.hok e;refine call_meetsIn PySem.F.slot_dict_get dd.typeIs PySem.F.entry_dict_get (PySem.F.args_dict_get_3 _ _ _) (meets_dict_get_default (aI X.prog X.w) a (jj ry) hd r) ⟨_,dd.mapOf,h _ _ (I.tok _) ?_⟩;rw[l];exact(rel.val k).getD rd
 ·subst ey;cases(show u=P4 b from ry);obtain⟨z,hd,xs,rel,dd⟩:=k7 I.hok e;refine call_meetsIn PySem.F.slot_dict_get dd.typeIs PySem.F.entry_dict_get (PySem.F.args_dict_get_3 _ _ _) (meetsH_dict_get_default (X0 (aI X.prog X.w)) a b hd r) ⟨R7 hu,k,xs,gn I.hok eb,dd,h _ _ (I.tok _) ?_⟩;rw[l];exact(rel.val k).getD rd
end
def BF(td ty tx:TE):TE:=fun σ H Q=>td σ H fun x H1=>∃a,x=.ref a/\IsD H1 a/\ty σ H1 fun y H2=>tx σ H2 fun z H3=>∃o,eN H3 a y o/\Q (o.getD z) H3
section
variable{X:Cx}{o e f:J0}{dv bP:Pos}{td ty tx:TE}
theorem vh(hu:X.A.units+1<V6) (ho:PE X o td) (he:PE X e ty) (hf:PE X f tx) (m:M2 X o "get" dv e f bP):PE X (.Call (.Attribute o "get" dv) [e,f] [] bP) (BF td ty tx):=by
 intro aa s σ H Q I h;refine wpAny_Call_method m.base m.few m.line PySem.F.plainAttrs_dict PySem.F.slot_dict_get PySem.F.type_dict_get (thn (ho aa s σ H _ I h) fun u s1 ⟨x,H1,I1,rx,a,ex,d,q1⟩=>?_);subst ex;obtain rfl:u=P4 a:=rx;obtain⟨t1,t2,_⟩:=u7 I1 d;refine⟨t1,t2,?_⟩;rw[m.trees];refine Calls.callWith_builtin rfl (Calls.evalArgs_plain (Calls.spliced_cons (thn (he aa s1 σ H1 _ I1 q1) fun iv s2 hup=>hup.el fun y H2 I2 ry q2 =>
  Calls.spliced_cons (thn (hf aa s2 σ H2 _ I2 q2) fun fv s3 ⟨z,H3,I3,rz,ov,g,q3⟩=>Calls.spliced_nil ?_))))
 exact xM hu I3 g ry rz fun w' s4 I4 rw'=>⟨_,H3,I4,rw',q3⟩
end
noncomputable def ax(X:Cx) (scope:O9) (cl:List (Str×F5)) (N:List Str) (C:F5) (s:u8) (H:Hp) (ex:List F5):Cx where
 prog:=X.prog
 w:=X.w
 K:=X.K
 mg:=X.mg
 base:=X.base
 A:=X.A
 N:=N
 s₀:=s
 H₀:=H
 env:=aa4 scope cl C X.env
 outer:=X.stack
 stack:=X.stack
 ex:=ex
 calm:=X.calm
 fn:=fun _=>false
 pn:=[]
 xe:=fun _ _=>False
noncomputable def bB:List Bool->St->St
 |true::ms,v::σ=>v::bB ms σ
 |false::ms,_::σ=>none::bB ms σ
 |[],_::σ=>none::bB [] σ
 |_,[]=>[]
theorem bq:∀(ms:List Bool) (σ:St),(bB ms σ).length=σ.length
 |true::ms,v::σ=>by simp[bB,bq ms σ]
 |false::ms,_::σ=>by simp[bB,bq ms σ]
 |[],_::σ=>by simp[bB,bq [] σ]
 |[],[]=>by simp[bB]
 |true::_,[]=>by simp[bB]
 |false::_,[]=>by simp[bB]
theorem fN:∀{ms:List Bool}{σ:St}{i:Nat}{v:V},(bB ms σ)[i]?=some (some v)->ms[i]?=some true/\σ[i]?=some (some v)
 |true::ms,v::σ,0,x,h=>by simpa[bB]using h
 |true::ms,v::σ,i+1,x,h=>by
  have:=fN (ms:=ms) (σ:=σ) (i:=i) (v:=x) (by simpa[bB]using h);simpa using this
 |false::ms,_::σ,0,x,h=>by simp[bB]at h
 |false::ms,_::σ,i+1,x,h=>by
  have:=fN (ms:=ms) (σ:=σ) (i:=i) (v:=x) (by simpa[bB]using h);simpa using this
 |[],_::σ,0,x,h=>by simp[bB]at h
 |[],_::σ,i+1,x,h=>by
  have:=fN (ms:=[]) (σ:=σ) (i:=i) (v:=x) (by simpa[bB]using h);simpa using this
 |[],[],_,_,h=>by simp[bB]at h
 |true::_,[],_,_,h=>by simp[bB]at h
 |false::_,[],_,_,h=>by simp[bB]at h
def cH(ms:List Bool) (k:Nat) (σ:St):St:=bB ms σ++F8 k none
theorem lS{ms:List Bool}{k:Nat}{σ:St}{i:Nat}{v:V}(h:(cH ms k σ)[i]?=some (some v)):i<σ.length/\ms[i]?=some true/\σ[i]?=some (some v):=by
 unfold cH at h
 by_cases hi:i<(bB ms σ).length
 ·rw[K6 hi]at h;exact⟨by rwa [bq]at hi,fN h⟩
 ·rw[O7 (by lia),R0]at h
  split at h<;>cases h
structure cy(X:Cx) (scope:O9) (cl:List (Str×F5)) (ms:List Bool) (ag:List Str):Prop where
 kind:scope.kind=.function
 ncell:∀y∈scope.names,y.2≠.cell
 names:∀y∈scope.names,y.2=.local->scope.names.lookup y.1=some .local
 clos:closureFor scope X.env=U9 cl
 sub:∀x c,cl.lookup x=some c->X.env.cells.lookup x=some c
 has:∀x,scope.names.lookup x=some .free->∃c,cl.lookup x=some c
 fr:∀x,scope.names.lookup x=some .free->X.env.scope.names.lookup x=some .cell∨X.env.scope.names.lookup x=some .free
 mask:∀(i:Nat) (x:Str),ms[i]?=some true->X.N[i]?=some x->scope.names.lookup x=some .free
 mlen:ms.length<=X.N.length
theorem gS{env:Env}:∀{names:List (Str×J3)}{x:Str}{k:J3},
  (names.map fun(n,k)=>if(k==K1&&env.scope.kind==.function&&env.kindOf n==some .cell)then(n,O2)else(n,k)).lookup x=some k->(∀y∈names,y.2≠.cell)->k=.cell∨k=.free->names.lookup x=some .free
 |[],_,_,h,_,_=>by simp at h
 |(n,k0)::r,x,k,h,hc,hk=>by
  have ih:=@gS env r x k;have h:Z8 x ((if(k0==K1&&env.scope.kind==.function&&env.kindOf n==some .cell)=true then(n,O2)else(n,k0))::_)=some k:=h;cases hx:x==n with
  |true =>
   by_cases hq:(k0==K1&&env.scope.kind==.function&&env.kindOf n==some .cell)=true
   ·have:k0=.free:=by
     simp at hq;exact hq.1.1
    subst this;simp[J1,hx]
   ·rw[if_neg hq]at h;simp only[J1,hx]at h;cases h;rcases hk with rfl|rfl
    ·exact absurd rfl (hc (n,.cell) L5)
    ·simp[J1,hx]
  |false =>
   by_cases hq:(k0==K1&&env.scope.kind==.function&&env.kindOf n==some .cell)=true
   ·rw[if_pos hq]at h;simp only[J1,hx]at h ⊢;exact ih h (fun y hy=>hc y (K5 _ hy)) hk
   ·rw[if_neg hq]at h;simp only[J1,hx]at h ⊢;exact ih h (fun y hy=>hc y (K5 _ hy)) hk
theorem eG{env:Env}:∀{names:List (Str×J3)}{x:Str},names.lookup x=some .free ->
  (names.map fun(n,k)=>if(k==K1&&env.scope.kind==.function&&env.kindOf n==some .cell)then(n,O2)else(n,k)).lookup x=some .cell ∨
  (names.map fun(n,k)=>if(k==K1&&env.scope.kind==.function&&env.kindOf n==some .cell)then(n,O2)else(n,k)).lookup x=some .free
 |[],_,h=>by simp at h
 |(n,k0)::r,x,h=>by
  have ih:=@eG env r x;show Z8 x ((if(k0==K1&&env.scope.kind==.function&&env.kindOf n==some .cell)=true then(n,O2)else(n,k0))::_)=_∨Z8 x ((if(k0==K1&&env.scope.kind==.function&&env.kindOf n==some .cell)=true then(n,O2)else(n,k0))::_)=_;cases hx:x==n with
  |true =>
   simp only[J1,hx]at h;cases h
   split
   ·left;simp[J1,hx]
   ·right;simp[J1,hx]
  |false =>
   simp only[J1,hx]at h
   split<;>(simp only[J1,hx];exact ih h)
section
variable{X:Cx}{aa:List (F5×Obj)}{σ:St}{H H2:Hp}{s s2:u8}{scope:O9}{cl:List (Str×F5)}{ms:List Bool}{ag:List Str}
theorem qe(I:Inv X aa σ H s) (S:cy X scope cl ms ag) {fp:List F5}(hfp:∀b∈fp,cI X aa H b) (hlt:∀b∈fp,b<s.heap.objs.size) {C:F5}(hC:s.heap.objs.size<=C) :
  (ax X scope cl (X.N++ag) C s H fp).Ok where
 mod:=I.ok.mod
 kind:=S.kind
 glob:=I.ok.glob
 blt:=I.ok.blt
 above:=hC
 inj:=fun x y c h1 h2=>I.ok.inj x y c (S.sub x c h1) (S.sub y c h2)
 has:=fun x hx=>S.has x (gS (env:=X.env) (k:=if(ax X scope cl (X.N++ag) C s H fp).env.kindOf x=some .cell then .cell else .free) (by
  rcases hx with hx|hx
  ·rw[if_pos hx];exact hx
  ·rw[if_neg (by rw[hx];decide)];exact hx) S.ncell (by split<;>simp))
 cab:=fun x c h=>by cases h
 hd:=I.ok.hd
 frames:=I.ok.frames
 stk:=.inl rfl
 exf:=fun b hb=>⟨F7 (F4 (hlt b hb) hC),fun x c e=>(hfp b hb).2.2.2.2.1 x c (S.sub x c e)⟩
 bs:=I.bs
 bsz:=K0 I.ok.bsz I.sz
 noex:=fun b o e hb=>by
  rcases(hfp b hb).2.2.2.1 with z|z
  ·exact I.ok.noex b o e z
  ·exact absurd (F4 (F2 e) (K0 I.ok.bsz z)) (M8 _)
 exfs:=fun b hb z=>by
  rcases P0.mp (I.stkSub b z)with e|e
  ·exact(hfp b hb).2.1 e
  ·exact(hfp b hb).2.2.1 e
 funs:=I.stack
 frf:=I.stkFree
theorem rL(I:Inv X aa σ H s) (S:cy X scope cl ms ag) {fp:List F5}(hfp:∀b∈fp,cI X aa H b) (hlt:∀b∈fp,b<s.heap.objs.size) {C:F5}(hC:s.heap.objs.size<=C)
  (os:s2.os=s.os) (bare:W1 s2.gens) (keep:∀b o,s.heap.get? b=some o->s2.heap.get? b=some o) {m:Str->Option s0} (hn:s2.heap.Ns C m) :
  Inv (ax X scope cl (X.N++ag) C s H fp) [] (cH ms ag.length σ) H s2 where
 ok:=qe I S hfp hlt hC
 os:=os
 bare:=bare
 base:=Un.kept keep
 loc:=⟨m,hn,fun i x v h1 h2 h3=>by
  obtain⟨hi,hm,hv⟩:=lS h2;have hiN:i<X.N.length:=by rw[<-I.len];exact hi
  have hx:X.N[i]?=some x:=by
   have h1':(X.N++ag)[i]?=some x:=h1
   rwa [K6 hiN]at h1'
  have hf:=S.mask i x hm hx;obtain⟨m0,hn0,hl⟩:=I.loc;obtain⟨u,r,l⟩:=hl i x v hx hv (by rcases S.fr x hf with z|z<;>simp[Vis,z]);refine⟨u,r,.inr ⟨?_,?_⟩⟩
  ·exact eG (env:=X.env) hf
  ·obtain⟨c,hc⟩:=S.has x hf;have hc':=S.sub x c hc;rcases l with⟨k,_⟩|⟨_,c',e,z⟩
   ·rcases S.fr x hf with z|z<;>(have k':X.env.scope.names.lookup x=some .local:=k;rw[z]at k';cases k')
   ·rw[hc']at e;cases e;obtain⟨o,ho,hd⟩:=z;exact⟨c,hc,o,keep _ _ ho,hd⟩⟩
 cell:=fun x c e=>by
  obtain⟨v,o,ho,hd⟩:=I.cell x c (S.sub x c e);exact⟨v,o,keep _ _ ho,hd⟩
 free:=I.hok.fresh hC
 freeC:=fun x c e=>I.freeC x c (S.sub x c e)
 pin:=fun p hp=>absurd (show p∈([]:List (F5×Obj))from hp) (by simp)
 hok:=I.hok.kept keep
 len:=by
  unfold cH;rw[L1,bq,List.length_replicate,I.len];show _=(X.N++ag).length;rw[L1]
end
def PIf(X:Cx) (ifs:List J0) (t:TT):Prop :=
 ∀(aa:List (F5×Obj)) (s:u8) (σ:St) (H:Hp) (Q:Bool->Hp->Prop),Inv X aa σ H s->t σ H Q ->
  J5 (J9 X.prog X.w) X.A (forIn ifs true fun c r=>if r=true then do let ok <-isTrue c X.env (U0 c X.env);U9 (N2 ok)else U9 (N2 r)) (TP X aa σ Q) X.xe s
def Ew:TT:=fun _ H Q=>Q true H
theorem yU{X:Cx}:PIf X [] Ew:=fun _ _ _ H _ I h=>wpAny_tests_nil ⟨H,I,h⟩
theorem xf{X:Cx}{c:J0}{t:TT}(h:PT X c t):PIf X [c] t:=fun aa s σ H Q I q=>wpAny_tests_one (h aa s σ H Q I q)
abbrev cL(its:List s0) (n:Nat):Obj:={ cls:=.type "list",data:=.seq its.toArray n }
theorem thF{α:Type}{t:Sem α}{Q Q':α->u8->Prop}{M:Model}{A:L8}{E:s0->u8->Prop}{s:u8}(hE:E=fun _ _=>False) (h:J5 M A t Q E s) (hQ:∀a s,Q a s->Q' a s):J5 M A t Q' (fun _ _=>False) s:=L4 h hQ fun e s x=>by rw[hE]at x;exact x
abbrev lcE(el:J0) (gs:List V2) (sc:O9) (ps:Pos):J0:=.ListComp el gs sc ps
section
variable{prog:K2}{w:N4}{A:L8}{R:aa7->u8->Prop}{s:u8}{el tg elt i:J0}{fs:List J0}{k:Nat}{p:Pos}{it acc:s0}{env:Env}{gs:List V2}{sc:O9}{ps:Pos}
abbrev AWt:=(u8->Prop)->u8->Prop
def rF(prog:K2) (w:N4) (A:L8) (elt:J0) (acc:s0) (env:Env):AWt:=fun Ok s=>J5 (J9 prog w) A (U0 elt env) (fun x s₄=>J5 (J9 prog w) A (call (.builtin "list.append") [acc,x]) (fun _ s₅=>Ok s₅) (fun _ _=>False) s₄) (fun _ _=>False) s
def Bp(ce:J0) (k:Nat) (p:Pos) (tg:J0) (fs:List J0) (bd:s0->s0->Env->Sem Fin):Prop:=∀it acc env,compTurn ce k it acc env=(do
  standAt p
  let r <-pyNext it
  match r with
   |none=>U9 (Fin.done Flow.next)
   |some v=>do
    S0 tg it v
    T5 tg env v
    let ok <-forIn fs true fun c r=>if r=true then do let ok <-PySem.isTrue c env (U0 c env);U9 (N2 ok)else U9 (N2 r)
    if ok=true then bd it acc env else again (W8 ce k it acc env))
def z0(prog:K2) (w:N4) (A:L8) (ce:J0) (k:Nat) (bd:s0->s0->Env->Sem Fin) (it acc:s0) (env:Env) (AW:AWt):Prop :=
 ∀Ok s (R:aa7->u8->Prop) (E:s0->u8->Prop),AW Ok s->J5 (J9 prog w) A (bd it acc env) (fun fin s'=>match fin with|.done f=>R (.ok f) s'|.again c'=>c'=W8 ce k it acc env/\Ok s') E s
theorem lG{bd:s0->s0->Env->Sem Fin}{AW:AWt}(hT:Bp (lcE el gs sc ps) k p tg fs bd) (hq:(W8 (lcE el gs sc ps) k it acc env).quiet=true:=by rfl) (hb:z0 prog w A (lcE el gs sc ps) k bd it acc env AW) (I:Nat->u8->Prop)
  (turn:∀ n s,I n s → J5 (J9 prog w) A (pyNext it) (fun r s₁ => match r with
   |none=>R (.ok .next) s₁
   | some v => J5 (J9 prog w) A (S0 tg it v) (fun _ s₁ => J5 (J9 prog w) A (T5 tg env v) (fun _ s₂ =>
     J5 (J9 prog w) A (forIn fs true fun c r=>if r=true then do let ok <-isTrue c env (U0 c env);U9 (N2 ok)else U9 (N2 r)) (fun ok s₃ =>
      if ok=true then AW (fun s₅=>∃m,m<n/\I m s₅) s₃
      else ∃m,m<n/\I m s₃) (fun _ _=>False) s₂) (fun _ _=>False) s₁) (fun _ _=>False) s₁) (fun _ _=>False) s)
  (n:Nat) (h:I n s) :
  V0 (J9 prog w) A (.compLoop (lcE el gs sc ps) k it acc env) R s:=by
 refine codeAny_loop hq I (fun n s hI=>?_) n h;show J5 _ A ((compTurn (lcE el gs sc ps) k it acc env).onRaise (fun x=>do noteFrame x env;theTreesLotGoes x)) _ _ s;refine wpAny_noted ?_;rw[hT];refine F0 (T6 (F0 (L4 (turn n s hI) (fun r s₁ h₁=>?_) fun _ _ h'=>h'.elim)));cases r with
 |none=>exact F9 h₁
 |some v =>
  refine F0 (L4 h₁ (fun _ s1 h₁=>?_) fun _ _ h'=>h'.elim);refine F0 (L4 h₁ (fun _ s₂ h₂=>F0 (L4 h₂ (fun ok s₃ h₃=>?_) fun _ _ h'=>h'.elim)) fun _ _ h'=>h'.elim);cases ok with
  |false=>exact F9 ⟨rfl,h₃⟩
  |true=>exact hb _ _ _ _ h₃
noncomputable def zD(ce:J0) (k:Nat) (elt:J0):s0->s0->Env->Sem Fin:=fun it acc env=>bind (bind (U0 elt env) fun x=>bind (call (s0.builtin "list.append") [acc,x]) fun _=>U9 ()) fun(_:Unit)=>again (W8 ce k it acc env)
theorem yK:z0 prog w A (lcE el gs sc ps) k (zD (lcE el gs sc ps) k elt) it acc env (rF prog w A elt acc env):=fun Ok s R E h =>
 F0 (F0 (L4 h (fun x s₄ h₄=>F0 (L4 h₄ (fun _ s₅ h₅=>F9 (F9 ⟨rfl,h₅⟩)) fun _ _ h'=>h'.elim)) fun _ _ h'=>h'.elim))
end
abbrev BK:=List V->St->Hp->(List V->St->Hp->Prop)->Prop
def ku(J:It) (g:TG) (tc:TT) (B:BK) (W:Nat->Nat->List V->St->Hp->Prop) (Z:List V->St->Hp->Prop):Prop :=
 ∀i m ys σ H,W i m ys σ H->ys.length<=E9/\((J.stop i H/\Z ys σ H) ∨
  (J.go i H/\∀x H',J.yld i H x H'->g x σ H' fun σ2 H2=>tc σ2 H2 fun b H3=>if b=true then B ys σ2 H3 (fun ys' σ' H'=>∃m',m'<m/\W (i+1) m' ys' σ' H')else ∃m',m'<m/\W (i+1) m' ys σ2 H3))
def mz(te:TE):BK:=fun ys σ H Z=>te σ H fun y H'=>Z (ys++[y]) σ H'
section
variable{Y:Cx}{D:F5}{el tg elt i1:J0}{fs:List J0}{g:TG}{tc:TT}{te:TE}{wi:TI}{B:BK}{k:Nat}{p:Pos}{gs:List V2}{sc:O9}{ps:Pos}
def zm(Y:Cx) (D:F5) (AW:AWt) (B:BK):Prop:=∀(P:List (F5×Obj)) (its:List s0) (nn:Nat) (ys:List V) (σ:St) (H:Hp) (s:u8) (Z:List V->St->Hp->Prop),Inv Y ([(D,cL its nn)]++P) σ H s->av ys its->ys.length<=E9->(∀p∈P,p.1≠D)->B ys σ H Z ->
 AW (fun s'=>∃ys' its' n' σ' H',Inv Y ([(D,cL its' n')]++P) σ' H' s'/\av ys' its'/\Z ys' σ' H') s
structure j0(Y:Cx) (D:F5):Prop where
 pn:Y.pn=[]
 calm:Y.calm=true
 xe:Y.xe=fun _ _=>False
 ex:D∈Y.ex∨Y.s₀.heap.objs.size<=D
 cell:∀x c,Y.env.cells.lookup x=some c->c≠D
theorem AWt.mono_leaf{prog:K2}{w:N4}{A:L8}{acc:s0}{env:Env}{Ok Ok':u8->Prop}{s:u8}(h:rF prog w A elt acc env Ok s) (k:∀s,Ok s->Ok' s):rF prog w A elt acc env Ok' s :=
 L4 h (fun _ _ h1=>L4 h1 (fun _ _ h2=>k _ h2) fun _ _ x=>x) fun _ _ x=>x
theorem wK(c:j0 Y D) (he:PE Y elt te):zm Y D (rF Y.prog Y.w Y.A elt (.ref D) Y.env) (mz te):=by
 intro P its nn ys σ H s Z I rv hz hPD q;refine thF c.xe (he _ s σ H _ I q) fun v s9 hup=>hup.el fun y H9 I9 r9 q9=>?_;have pacc:=I9.pin (D,cL its nn) (F6 _ (List.mem_append_left _ L5));have hzi:its.toArray.size<=E9:=by rw[F1,<-rv.length];exact hz
 refine PySem.wpAny_list_append_plain (hsz:=hzi) ⟨nn,pacc.1⟩ fun h' hl' hs'=>?_;obtain⟨n',hl'⟩:=hl';have I10:Inv Y [] σ H9 { s9 with heap:=h' } :=
  Inv.turned (t':=s9.toks) (it:=D) (I9.pins_of fun p hp=>absurd hp (by simp)) (fun b o hb e=>(hs'.2 b hb).trans e) pacc.2.1 pacc.2.2.1 c.ex c.cell (fun p hp=>absurd (show p∈([]:List (F5×Obj))from by rw[c.pn]at hp;exact hp) (by simp))
 refine⟨ys++[y],its++[v],n',σ,H9,I10.pins_of fun p hp=>?_,rv.append (.cons r9 .nil),q9⟩;rcases T0.mp hp with z|z
 ·have e:p=(D,cL (its++[v]) n'):=P1.mp z;subst e;refine⟨?_,pacc.2.1,pacc.2.2.1,pacc.2.2.2.1,fun v z=>by cases z⟩;rw[hl'];simp[cL]
 ·obtain⟨b1,b2,b3,b4,b5⟩:=I9.pin p (F6 _ (F6 _ z));exact⟨(hs'.2 _ (hPD p z)).trans b1,b2,b3,b4,b5⟩
structure Lv(Y:Cx) (D:F5) (ce:J0) (k:Nat) (p:Pos) (tg:J0) (fs:List J0) (B:BK):Prop where
 ex:∃bd AW,Bp ce k p tg fs bd/\(∀it,z0 Y.prog Y.w Y.A ce k bd it (.ref D) Y.env AW)/\zm Y D AW B/\∀{Ok Ok':u8->Prop} {s:u8},AW Ok s->(∀s,Ok s->Ok' s)->AW Ok' s
theorem sC(c:j0 Y D) (he:PE Y elt te) (hT:Bp (lcE el gs sc ps) k p tg fs (zD (lcE el gs sc ps) k elt)):Lv Y D (lcE el gs sc ps) k p tg fs (mz te):=⟨_,_,hT,fun _=>yK,wK c he,AWt.mono_leaf⟩
theorem md(c:j0 Y D) (L:Lv Y D (lcE el gs sc ps) k p tg fs B) {it2:F5}
  (hg:PG Y tg g) (hif:PIf Y fs tc) {P:List (F5×Obj)} (hPD:∀p∈P,p.1≠D)
  {its0:List s0} {nn0:Nat} {ys0:List V} {σ:St} {H:Hp} {s:u8} (I:Inv Y ([(D,cL its0 nn0)]++P) σ H s) (rv0:av ys0 its0) {fp2:List F5} {tn2:Nat->K3->Prop} {J2:It} (T:iL Y.prog Y.w Y.K tg J2 fp2 it2 tn2) (st:tn2 0 s.heap)
  (f:∀b∈fp2,cI Y ([(D,cL its0 nn0)]++P) H b) {W2:Nat->Nat->List V->St->Hp->Prop} {Z2:List V->St->Hp->Prop} {m0:Nat} (w0:W2 0 m0 ys0 σ H) (turn:ku J2 g tc B W2 Z2) {R:aa7->u8->Prop}
  (hR:∀(s':u8) (ys:List V) (its:List s0) (n:Nat) (σ':St) (H':Hp),Inv Y ([(D,cL its n)]++P) σ' H' s'->av ys its->ys.length<=E9->Z2 ys σ' H'->R (.ok .next) s') :
  V0 (J9 Y.prog Y.w) Y.A (.compLoop (lcE el gs sc ps) k (.ref it2) (.ref D) Y.env) R s:=by
 obtain⟨bd,AW,hT,hb,hB,hAW⟩:=L.ex;have fpc:∀{H:Hp} {n:Nat} {its:List s0},(∀b∈fp2,H b=none)->∀b∈fp2,cI Y ([(D,cL its n)]++P) H b:=fun hn b hb=>by
  obtain⟨_,a1,a2,a3,a4,a5⟩:=f b hb;refine⟨hn b hb,a1,a2,a3,a4,fun p hp=>?_⟩;rw[c.pn,List.nil_append]at hp;rcases T0.mp hp with z|z
  ·obtain rfl:=P1.mp z;exact a5 (D,cL its0 nn0) (by rw[c.pn];simp)
  ·exact a5 p (by rw[c.pn];simp[z])
 refine lG hT rfl (hb _) (fun n s'=>∃i ys its nn σ' H',Inv Y ([(D,cL its nn)]++P) σ' H' s'/\av ys its/\tn2 i s'.heap/\(∀b∈fp2,H' b=none)/\W2 i n ys σ' H') ?_ m0
  ⟨0,ys0,its0,nn0,σ,H,I,rv0,st,fun b hb=>(f b hb).1,w0⟩
 rintro n s' ⟨i,ys,its,nn,σ',H',I4,rv,st4,fr4,w4⟩;obtain⟨hz,h⟩:=turn i n ys σ' H' w4;rcases h with⟨stop,hZ⟩|⟨go,step⟩
 ·refine thn (T.done Y rfl rfl rfl c.calm i _ s' _ H' (fun _ _=>False) I4 (fpc fr4) st4 stop) fun r s4 ⟨hr,I5⟩=>?_;subst hr;exact hR s4 ys its nn σ' H' I5 rv hz hZ
 ·refine thn (T.item Y rfl rfl rfl c.calm i _ s' _ H' (fun _ _=>False) I4 (fpc fr4) st4 go) fun r s5 ⟨u,hr,h5⟩=>?_;subst hr;refine thn h5 fun _ s6 ⟨x,H6,I6,r6,y6,st6,fr6⟩=>?_;have I6':=I6.pinned (fpc fr6) (T.obj _ _ st6);refine thF c.xe (hg _ s6 _ H6 x u _ I6' r6 (step x H6 y6)) fun _ s7 ⟨σ7,H7,I7,q7⟩=>?_;refine thF c.xe (hif _ s7 σ7 H7 _ I7 q7) fun ok s8 hup=>hup.el fun H8 I8 q8=>?_;have keepfp:∀{its:List s0} {nn:Nat} {σ9:St} {H9:Hp} {s9:u8},Inv Y (([(D,cL its nn)]++P)++gp fp2 s6.heap) σ9 H9 s9->tn2 (i+1) s9.heap/\∀b∈fp2,H9 b=none:=fun {its nn σ9 H9 s9} I9 =>
   ⟨T.keep _ _ _ st6 fun b hb o e=>(I9.pin (b,o) (F6 _ (F6 _ (cm hb e)))).1,fun b hb=>by
    obtain⟨o,e,d⟩:=T.obj _ _ st6 b hb;exact(I9.pin (b,o) (F6 _ (F6 _ (cm hb e)))).2.1⟩
  cases ok with
  |false =>
   obtain⟨m',hm,w8⟩:=q8;obtain⟨a8,b8⟩:=keepfp I8;exact⟨m',hm,i+1,ys,its,nn,σ7,H8,I8.unpinned,rv,a8,b8,w8⟩
  |true =>
   have hPD2:∀p∈P++gp fp2 s6.heap,p.1≠D:=fun p hp=>by
    rcases T0.mp hp with z|z
    ·exact hPD p z
    ·have hb:=(lX z).1;intro e;exact(f _ hb).2.2.2.2.2 (D,cL its0 nn0) (by rw[c.pn];simp) e.symm
   refine hAW (hB (P++gp fp2 s6.heap) its nn ys σ7 H8 s8 _ (by rw[<-List.append_assoc];exact I8) rv hz hPD2 q8) ?_;rintro s9 ⟨ys',its',n',σ',H',I',rv',m',hm,w'⟩;rw[<-List.append_assoc]at I';obtain⟨a9,b9⟩:=keepfp I';exact⟨m',hm,i+1,ys',its',n',σ',H',I'.unpinned,rv',a9,b9,w'⟩
end
section
variable{X:Cx}{aa:List (F5×Obj)}{σ σ':St}{H2 H':Hp}{s2 s':u8}{scope:O9}{cl:List (Str×F5)}{ms:List Bool}{ag:List Str}{elt t0 i0:J0}{f0:List J0}{gs:List V2}{g0:TG}{tc0:TT}{B:BK}{p pos:Pos}
theorem mP(S:cy X scope cl ms ag) (bJ:X.calm=true)
  (hg0:∀C s H ex,PG (ax X scope cl (X.N++ag) C s H ex) t0 g0) (hif0:∀C s H ex,PIf (ax X scope cl (X.N++ag) C s H ex) f0 tc0)
  (hL:∀C s H ex D,j0 (ax X scope cl (X.N++ag) C s H ex) D->Lv (ax X scope cl (X.N++ag) C s H ex) D (lcE elt (⟨t0,i0,f0,0⟩::gs) scope pos) 0 p t0 f0 B)
  (I2:Inv X aa σ H2 s2) {it:F5} {fp:List F5} {tn:Nat->K3->Prop} {J:It} (T:iL X.prog X.w X.K t0 J fp it tn) (st2:tn 0 s2.heap) (fz:∀b∈fp,cI X aa H2 b)
  {W:Nat->Nat->List V->St->Hp->Prop} {Z:List V->St->Hp->Prop} {m0:Nat} (w0:W 0 m0 [] (cH ms ag.length σ) H2) (turn:ku J g0 tc0 B W Z)
  {RR:s0->F5->aa7->u8->Prop} {E:s0->u8->Prop}
  (hRR:∀ (s':u8) (ys:List V) (its:List s0) (n:Nat) (σ':St) (H':Hp),Inv (ax X scope cl (X.N ++ ag) (s2.heap.objs.size + 1) s2 H2 fp) [(s2.heap.objs.size,cL its n)] σ' H' s' → av ys its → ys.length ≤ E9 → Z ys σ' H' →
   RR (.ref s2.heap.objs.size) (s2.heap.objs.size+1) (.ok .next) s') :
  J5 (J9 X.prog X.w) X.A (newList []) (fun acc s₃=>J5 (J9 X.prog X.w) X.A (U5 scope X.env.globals cl [] X.env.qual none .none (some X.env)) (fun cenv s₄ =>
   V0 (J9 X.prog X.w) X.A (.compStart (lcE elt (⟨t0,i0,f0,0⟩::gs) scope pos) 0 (.ref it) acc { cenv with scope:=V9 scope X.env }) (RR acc cenv.locals) s₄) E s₃) E s2:=by
 refine N9 (wpAny_newFunctionEnv S.ncell (by intro y hy;simp at hy) (fun h₁ hns₁ hsb₁=>?_) S.kind);dsimp only at hns₁ hsb₁ ⊢;have hsz:(s2.heap.push { cls:=.type "list",dict:=none,data:=.seq ([]:List s0).toArray }).objs.size=s2.heap.objs.size+1:=by rw[S8]
 rw[hsz]at hns₁ hsb₁ ⊢;have hlt:∀b∈fp,b<s2.heap.objs.size:=fun b hb=>by
  obtain⟨o,e,_⟩:=T.obj _ _ st2 b hb;exact F2 e
 have old:∀b o,s2.heap.get? b=some o->h₁.get? b=some o:=fun b o e=>hsb₁.extBut b o (F7 (J7 (F2 e))) (E8 _ (E8 _ e));have hacc:h₁.get? s2.heap.objs.size=some (cL [] 0):=hsb₁.extBut _ _ (F7 (O3 _)) (E8 _ (H0 _ rfl));have hDn:H2 s2.heap.objs.size=none:=I2.hok.fresh (F3 _);have hDfs:∀b,s2.heap.objs.size<=b->b∉(ax X scope cl (X.N++ag) (s2.heap.objs.size+1) s2 H2 fp).fs:=fun b hb z=>by
  rcases P0.mp (I2.stkSub b z)with e|e
  ·subst e;exact absurd (F4 I2.lt hb) (M8 _)
  ·exact I2.nofs hb e
 have loop:∀s₃:u8,s₃={ s2 with heap:=h₁,toks:=s2.toks+([]:List (Str×s0)).length } ->
   V0 (J9 X.prog X.w) X.A (.compLoop (lcE elt (⟨t0,i0,f0,0⟩::gs) scope pos) 0 (.ref it) (.ref s2.heap.objs.size) (aa4 scope cl (s2.heap.objs.size+1) X.env)) (RR (.ref s2.heap.objs.size) (s2.heap.objs.size+1)) s₃:=by
  rintro s₃ rfl;have I3:Inv (ax X scope cl (X.N++ag) (s2.heap.objs.size+1) s2 H2 fp) [] (cH ms ag.length σ) H2 { s2 with heap:=h₁,toks:=s2.toks+([]:List (Str×s0)).length } :=
   rL I2 S fz hlt (W9 _) rfl I2.bare old hns₁
  have c:j0 (ax X scope cl (X.N++ag) (s2.heap.objs.size+1) s2 H2 fp) s2.heap.objs.size:=⟨rfl,bJ,rfl,.inr (F3 _),fun x c e=>by
   obtain⟨v,o,ho,_⟩:=I2.cell x c (S.sub x c e);exact F7 (F2 ho)⟩
  refine md c (hL _ _ _ _ _ c) (hg0 _ _ _ _) (hif0 _ _ _ _) (P:=[]) (fun p hp=>nomatch hp) (its0:=[]) (nn0:=0) (I3.pins_of fun p hp=>?_) .nil T (T.keep _ _ _ st2 fun b _ o e=>old b o e) (fun b hb=>?_) w0 turn ?_
  ·have e:p=(s2.heap.objs.size,cL [] 0):=P1.mp hp;subst e;exact⟨hacc,hDn,F7 (O3 _),hDfs _ (F3 _),fun v z=>by cases z⟩
  ·exact⟨(fz b hb).1,F7 (J7 (hlt b hb)),(qe I2 S fz hlt (W9 _)).exfs b hb,.inl hb,fun x c e=>(fz b hb).2.2.2.2.1 x c (S.sub x c e),fun p hp=>by
    have:p=(s2.heap.objs.size,_):=P1.mp (show p∈[(s2.heap.objs.size,_)]from hp);subst this;exact R9 (hlt b hb)⟩
  ·exact fun s' ys its n σ' H' I' rv hz hZ=>hRR s' ys its n σ' H' I' rv hz hZ
 exact codeAny_compStart_list (loop _ rfl) (T.self _ 0 _ _ _ (T.keep _ _ _ st2 fun b _ o e=>old b o e) (loop _ rfl))
end
section
variable{X:Cx}{aa:List (F5×Obj)}{σ σ':St}{H2 H':Hp}{s2 s':u8}{scope:O9}{cl:List (Str×F5)}{ms:List Bool}{ag:List Str}{tg iter elt:J0}{ifs:List J0}{g:TG}{tc:TT}{te:TE}{pos p:Pos}{B:BK}{gs:List V2}
theorem mG(I2:Inv X aa σ H2 s2) {fp:List F5}(f2:∀b∈fp,cI X aa H2 b) {its:List s0}{n:Nat}{ys:List V}
  (I':Inv (ax X scope cl (X.N++ag) (s2.heap.objs.size+1) s2 H2 fp) [(s2.heap.objs.size,cL its n)] σ' H' s') (rv:av ys its) (hz:ys.length<=E9) {h':K3} (hs:R8 (s2.heap.objs.size+1) s'.heap h') :
  Inv X aa σ (upd H' s2.heap.objs.size (.lst ys)) { s' with heap:=h' }/\H' s2.heap.objs.size=none:=by
 have pacc:=I'.pin (s2.heap.objs.size,cL its n) (F6 _ L5);have hC:H' (s2.heap.objs.size+1)=none:=I'.free;have hD:H' s2.heap.objs.size=none:=pacc.2.1;have up:∀b o,b≠s2.heap.objs.size+1->s'.heap.get? b=some o->h'.get? b=some o:=fun b o hb e=>(hs.2 b hb).trans e;have nD:∀b u,H' b=some u->b≠s2.heap.objs.size:=fun b u e z=>by rw[z,hD]at e;cases e
 have nC:∀b u,H' b=some u->b≠s2.heap.objs.size+1:=fun b u e z=>by rw[z,hC]at e;cases e
 have hacc:h'.get? s2.heap.objs.size=some (cL its n):=up _ _ (F7 (O3 _)) pacc.1;have hok:HOk X.prog X.w (upd H' s2.heap.objs.size (.lst ys)) h':=fun b u e=>by
  by_cases hb:b=s2.heap.objs.size
  ·subst hb;rw[az]at e;cases e;exact⟨hz,its,n,rv,hacc⟩
  ·rw[aw hb]at e;refine(I'.hok b u e).stay (fun c v hc q=>up c v ?_ q) (fun c q=>by rw[aw (nD c _ q)];exact q) fun c xs q=>by rw[aw (nD c _ q)];exact q
   rcases hc with rfl|hc
   ·exact nC _ _ e
   ·exact nC _ _ hc
 have un:Un (frs X.stack) fp H2 (upd H' s2.heap.objs.size (.lst ys)) s2.heap h':=by
  have U:=I'.base;have ltD:∀b o,s2.heap.get? b=some o->b≠s2.heap.objs.size:=fun b o e=>F7 (F2 e);have ltC:∀b o,s2.heap.get? b=some o->b≠s2.heap.objs.size+1:=fun b o e=>F7 (J7 (F2 e));refine⟨fun b o e nb hb hx=>up b o (ltC b o e) (U.keep b o e nb hb hx),fun b o e nb hb hx=>?_,fun b o e nb hx=>by rw[aw (ltD b o e)];exact U.free b o e nb hx,fun b o e hx=>?_,
   fun b xs e=>by have q:=U.tups b xs e;rw[aw (nD b _ q)];exact q,fun b o u e=>by have q:=U.frzs b o u e;rw[aw (nD b _ q)];exact q,fun b ps e=>?_⟩
  ·obtain⟨sl,q⟩:=U.slot b o e nb hb hx;exact⟨sl,up b _ (ltC b o e) q⟩
  ·obtain⟨o',q⟩:=U.there b o e hx;exact⟨o',up b _ (ltC b o e) q⟩
  ·obtain⟨more,q⟩:=U.tbls b ps e;exact⟨more,by rw[aw (nD b _ q)];exact q⟩
 exact⟨I2.call' (s':={ s' with heap:=h' }) (ch:=fp) I'.os un hok I'.bare fun b hb=>⟨(f2 b hb).2.2.2.1,(f2 b hb).2.1,(f2 b hb).2.2.2.2.1,(f2 b hb).2.2.2.2.2⟩,hD⟩
def BS(ms:List Bool) (k:Nat) (wi:TI) (g:TG) (tc:TT) (B:BK):TE:=fun σ H Q=>wi σ H fun J H1=>∃(W:Nat->Nat->List V->St->Hp->Prop) (Z:List V->St->Hp->Prop),(∃m,W 0 m [] (cH ms k σ) H1)/\ku J g tc B W Z /\
 ∀ys σ' H p,Z ys σ' H->H p=none->Q (.ref p) (upd H p (.lst ys))
abbrev tLc(ms:List Bool) (k:Nat) (wi:TI) (g:TG) (tc:TT) (te:TE):TE:=BS ms k wi g tc (mz te)
abbrev LvC(X:Cx) (scope:O9) (cl:List (Str×F5)) (ag:List Str) (ce:J0) (p:Pos) (tg:J0) (ifs:List J0) (B:BK):Prop:=∀C s H ex D,j0 (ax X scope cl (X.N++ag) C s H ex) D->Lv (ax X scope cl (X.N++ag) C s H ex) D ce 0 p tg ifs B
theorem Bl(S:cy X scope cl ms ag) (bJ:X.calm=true) {wi:TI}(hi:PI X tg iter wi)
  (hg:∀C s H ex,PG (ax X scope cl (X.N++ag) C s H ex) tg g) (hif:∀C s H ex,PIf (ax X scope cl (X.N++ag) C s H ex) ifs tc) (hL:LvC X scope cl ag (lcE elt (⟨tg,iter,ifs,0⟩::gs) scope pos) p tg ifs B)
  (hs:∀x,M9 iter X.env x=U9 x:=by intro _;rfl):PE X (lcE elt (⟨tg,iter,ifs,0⟩::gs) scope pos) (BS ms ag.length wi g tc B):=by
 intro aa s σ H Q I h;rw[eval_ListComp];refine Q0 (use:=none) rfl hs S.clos S.kind S.names (thn (hi aa s σ H _ I h) fun v s1 h1=>thn h1 fun itv s2 h2=>?_);obtain⟨it,fp,tn,J,H2,e,I2,T,st2,f2,W,Z,⟨m0,w0⟩,turn,q⟩:=h2;subst e;refine mP S bJ hg hif hL I2 T st2 f2 w0 turn (RR:=fun acc C=>compPost (J9 X.prog X.w) X.A X.xe none (EP X aa σ Q) acc C) ?_;intro s' ys its n σ' H' I' rv hz hZ;obtain⟨m,hm,_⟩:=I'.loc;refine⟨m,hm,fun h' hs'=>?_⟩;obtain⟨I3,hD⟩:=mG I2 f2 I' rv hz hs';exact⟨.ref s2.heap.objs.size,_,I3,rfl,q ys _ H' _ hZ hD⟩
theorem lW{i:Nat}{x:Str}{spos pos':Pos}(hN:X.N.Nodup) (hix:X.N[i]?=some x) (hx:X.env.scope.names.lookup x=some .local)
  (hsw:U6 (lcE elt (⟨tg,iter,ifs,0⟩::gs) scope pos) (some (.Name x pos')) spos.line X.env=U9 true)
  (S:cy X scope cl ms ag) (bJ:X.calm=true) {wi:TI} (hi:PI X tg iter wi)
  (hg:∀C s H ex,PG (ax X scope cl (X.N++ag) C s H ex) tg g) (hif:∀C s H ex,PIf (ax X scope cl (X.N++ag) C s H ex) ifs tc) (hL:LvC X scope cl ag (lcE elt (⟨tg,iter,ifs,0⟩::gs) scope pos) p tg ifs B)
  (hs:∀x,M9 iter X.env x=U9 x:=by intro _;rfl):PS X (.Assign [.Name x pos'] (lcE elt (⟨tg,iter,ifs,0⟩::gs) scope pos) spos) (yW (BS ms ag.length wi g tc B) (jZ i)):=by
 intro aa s σ H D I h;rw[exec_Assign_Name_used _ _ _ _ hsw];refine F0 (T6 (F0 ?_));show J5 _ _ (do let _ <-comprehension (lcE elt (⟨tg,iter,ifs,0⟩::gs) scope pos) scope X.env _ (newList []) false (U0 iter X.env) (some (T5 (.Name x pos') X.env))) _ _ s;refine F0 (L4 (Q0 (use:=some (T5 (.Name x pos') X.env)) (Q:=fun _ s'=>SP X aa D .next s') rfl hs S.clos S.kind S.names
  (thn (hi aa s σ H _ I h) fun v s1 h1=>thn h1 fun itv s2 h2=>?_)) (fun _ s' hq=>F9 (F9 hq)) fun _ _ e=>e)
 obtain⟨it,fp,tn,J,H2,e,I2,T,st2,f2,W,Z,⟨m0,w0⟩,turn,q⟩:=h2;subst e;refine mP S bJ hg hif hL I2 T st2 f2 w0 turn (RR:=fun acc C=>compPost (J9 X.prog X.w) X.A X.xe (some (T5 (.Name x pos') X.env)) (fun _ s'=>SP X aa D .next s') acc C) ?_;intro s' ys its n σ' H' I' rv hz hZ;obtain⟨m,hm,_⟩:=I'.loc;obtain⟨I3,hD⟩:=mG I2 f2 I' rv hz (R8.refl (s2.heap.objs.size+1) s'.heap);have hq:=q ys _ H' _ hZ hD;show J5 _ _ (T5 (.Name x pos') X.env (.ref s2.heap.objs.size)) _ _ _;refine wpAny_assign_Name (iR I3 hN hix (.inl hx) (v:=.ref s2.heap.objs.size) rfl (fun s4 I4 hsame=>?_) (.inr hx));obtain⟨a,hsb,ha⟩:=hsame;have hLC:s2.heap.objs.size+1≠X.env.locals:=R9 (J7 I2.lt);have haC:s2.heap.objs.size+1≠a:=by
  rcases ha with rfl|ha
  ·exact hLC
  ·intro z;obtain⟨v,o,ho,_⟩:=I2.cell x a ha;exact absurd (J7 (F2 ho)) (by rw[<-z];exact M8 _)
 have hCn:upd H' s2.heap.objs.size (.lst ys) (s2.heap.objs.size+1)=none:=by rw[aw (R9 (O3 _))];exact I'.free
 refine⟨m,hm.sameBut hsb haC,fun h' hs'=>?_⟩;refine⟨_,_,?_,hq⟩;have hL:∀b o,b≠s2.heap.objs.size+1->s4.heap.get? b=some o->h'.get? b=some o:=fun b o hb e=>(hs'.2 b hb).trans e;have I5:=Inv.turned (t':=s4.toks) (h':=h') (it:=s2.heap.objs.size+1) I4 (fun b o hb e=>hL b o hb e) hCn hLC (.inr (Nat.le_succ_of_le I2.sz)) (fun y c e=>by
  obtain⟨v,o,ho,_⟩:=I2.cell y c e;exact F7 (J7 (F2 ho))) (fun p hp=>by
  exact F7 (J7 (F2 (I2.pin p hp).1)))
 exact I5
theorem qX(he:∀C s H ex,PE (ax X scope cl (X.N++ag) C s H ex) elt te):LvC X scope cl ag (lcE elt [⟨tg,iter,ifs,0⟩] scope pos) iter.pos tg ifs (mz te):=fun _ _ _ _ _ c=>sC c (he _ _ _ _) fun _ _ _=>rfl
end
inductive Bx where
 |dk (ks:List Key)|dt (ks:List (List Key))|ins (C:F5) (fs:List Str)|key
 deriving Inhabited
inductive D where
 |non|bl (b:Bool)|int (i:Int)|str (x:Str)|tup (ds:List D)|lst (ds:List D)|scr (ds:List D)|emp|ref (a:F5)|box (t:Bx) (ds:List D)
 deriving Inhabited
inductive HD where
 |lst (ds:List D)|dK (kvs:List (Key×D))|dT (kvs:List (List Key×D))|dKr (o:Obj) (ks:List (Key×V)) (kvs:List (Key×D))|ins (C:F5) (fs:List (Str×D))
 |ext (φ:List V->K3->Prop) (ds:List D)
 deriving Inhabited
abbrev DH:=F5->Option HD
def au(M:DH) (a:F5) (o:HD):DH:=fun b=>if b=a then some o else M b
def eY(M:DH) (a:F5):DH:=fun b=>if b=a then none else M b
abbrev noM:DH:=fun _=>none
theorem aq{M:DH}{a:F5}{o:HD}:au M a o a=some o:=if_pos rfl
theorem aJ{M:DH}{a b:F5}{o:HD}(h:b≠a):au M a o b=M b:=if_neg h
theorem aN{M:DH}{a:F5}{o u:HD}:au (au M a o) a u=au M a u:=by
 funext b;unfold au;split<;>rfl
theorem cT{M:DH}{a:F5}:eY M a a=none:=if_pos rfl
theorem jG{M:DH}{a b:F5}(h:b≠a):eY M a b=M b:=if_neg h
theorem eh{M:DH}{a:F5}{o:HD}(h:M a=none):eY (au M a o) a=M:=by
 funext b;unfold eY au;split
 ·rename_i e;rw[e,h]
 ·rfl
theorem mS{M:DH}{a:F5}{o:HD}(h:M a=some o):au M a o=M:=by
 funext b;unfold au;split
 ·rename_i e;rw[e,h]
 ·rfl
def mJ(K:o0) (M:DH) (H:Hp) (a:F5) (vs:List V):Prop:=(Rd H a (.tup vs)/\M a=none)∨SqT K (fun _=>none) a vs
def rZ(M:DH) (H:Hp) (a:F5) (vs:List V):Prop:=H a=some (.lst vs)/\M a=none
def mE(K:o0) (M:DH) (H:Hp) (a:F5) (vs:List V):Prop:=((∃o,H a=some (.frz o (.lst vs)))/\M a=none)∨SqL K (fun _=>none) a vs
def Cc(M:DH) (H:Hp) (a:F5):Prop:=H a=some (.dK [])/\M a=none
def rK(M:DH) (H:Hp) (a:F5):Bx->List V->Prop
 |.dk ks,vs=>ks.length=vs.length/\(∃o,H a=some (.frz o (.dK (ks.zip vs))))/\M a=none
 |.dt ks,vs=>ks.length=vs.length/\(∃o,H a=some (.frz o (.dT (ks.zip vs))))/\M a=none
 |.ins C fs,vs=>fs.length=vs.length/\(∃dx,H a=some (.ins C dx (fs.zip vs)))/\M a=none
 |.key,vs=>True/\(∃_u:Unit,H a=some (.tup vs))/\M a=none
mutual
def Rep(K:o0) (M:DH) (H:Hp):D->V->Prop
 |.non,v=>v=.non
 |.bl b,v=>v=.bl b
 |.int i,v=>v=.int i
 |.str x,v=>v=.str x
 |.tup ds,v=>∃a vs,v=.ref a/\mJ K M H a vs/\ak K M H ds vs
 |.lst ds,v=>∃a vs,v=.ref a/\rZ M H a vs/\ak K M H ds vs
 |.scr ds,v=>∃a vs,v=.ref a/\mE K M H a vs/\ak K M H ds vs
 |.emp,v=>∃a,v=.ref a/\Cc M H a
 |.ref a,v=>v=.ref a
 |.box t ds,v=>∃a vs,v=.ref a/\rK M H a t vs/\ak K M H ds vs
def ak(K:o0) (M:DH) (H:Hp):List D->List V->Prop
 |[],vs=>vs=[]
 |d::ds,vs=>∃v ws,vs=v::ws/\Rep K M H d v/\ak K M H ds ws
end
def Ext(M:DH) (H:Hp) (M':DH) (H':Hp):Prop:=∀a o,H a=some o->M a=none->H' a=some o/\M' a=none
theorem Ext.refl(M:DH) (H:Hp):Ext M H M H:=fun _ _ h n=>⟨h,n⟩
theorem Ext.trans{M M1 M2:DH}{H H1 H2:Hp}(a:Ext M H M1 H1) (b:Ext M1 H1 M2 H2):Ext M H M2 H2:=fun c o h n=>b c o (a c o h n).1 (a c o h n).2
variable{K:o0}{M M' M1 M2:DH}{H H' H1 H2:Hp}
theorem mJ.ext{a:F5}{vs:List V}(h:mJ K M H a vs) (e:Ext M H M' H'):mJ K M' H' a vs:=by
 rcases h with⟨r|⟨o,r⟩,n⟩|h
 ·exact .inl ⟨.inl (e a _ r n).1,(e a _ r n).2⟩
 ·exact .inl ⟨.inr ⟨o,(e a _ r n).1⟩,(e a _ r n).2⟩
 ·exact .inr h
theorem rZ.ext{a:F5}{vs:List V}(h:rZ M H a vs) (e:Ext M H M' H'):rZ M' H' a vs:=e a _ h.1 h.2
theorem mE.ext{a:F5}{vs:List V}(h:mE K M H a vs) (e:Ext M H M' H'):mE K M' H' a vs:=by
 rcases h with⟨⟨o,r⟩,n⟩|h
 ·exact .inl ⟨⟨o,(e a _ r n).1⟩,(e a _ r n).2⟩
 ·exact .inr h
theorem rK.ext{a:F5}{t:Bx}{vs:List V}(h:rK M H a t vs) (e:Ext M H M' H'):rK M' H' a t vs:=by
 cases t<;>(obtain⟨l,⟨o,r⟩,n⟩:=h;exact⟨l,⟨o,(e a _ r n).1⟩,(e a _ r n).2⟩)
mutual
theorem Rep.ext:∀{d:D}{v:V},Rep K M H d v->Ext M H M' H'->Rep K M' H' d v
 |.non,_,h,_=>h
 |.bl _,_,h,_=>h
 |.int _,_,h,_=>h
 |.str _,_,h,_=>h
 |.ref _,_,h,_=>h
 |.emp,_,h,e=>by
  simp only[Rep]at h ⊢;obtain⟨a,rfl,h1,h2⟩:=h;exact⟨a,rfl,e a _ h1 h2⟩
 |.tup ds,_,h,e=>by
  simp only[Rep]at h ⊢;obtain⟨a,vs,rfl,h1,h2⟩:=h;exact⟨a,vs,rfl,h1.ext e,ak.ext h2 e⟩
 |.lst ds,_,h,e=>by
  simp only[Rep]at h ⊢;obtain⟨a,vs,rfl,h1,h2⟩:=h;exact⟨a,vs,rfl,h1.ext e,ak.ext h2 e⟩
 |.scr ds,_,h,e=>by
  simp only[Rep]at h ⊢;obtain⟨a,vs,rfl,h1,h2⟩:=h;exact⟨a,vs,rfl,h1.ext e,ak.ext h2 e⟩
 |.box t ds,_,h,e=>by
  simp only[Rep]at h ⊢;obtain⟨a,vs,rfl,h1,h2⟩:=h;exact⟨a,vs,rfl,h1.ext e,ak.ext h2 e⟩
theorem ak.ext:∀{ds:List D}{vs:List V},ak K M H ds vs->Ext M H M' H'->ak K M' H' ds vs
 |[],_,h,_=>h
 |d::ds,_,h,e=>by
  simp only[ak]at h ⊢;obtain⟨v,ws,rfl,h1,h2⟩:=h;exact⟨v,ws,rfl,Rep.ext h1 e,ak.ext h2 e⟩
end
theorem ak.length:∀{ds:List D}{vs:List V},ak K M H ds vs->ds.length=vs.length
 |[],_,h=>by simp only[ak]at h;subst h;rfl
 |d::ds,_,h=>by
  simp only[ak]at h;obtain⟨v,ws,rfl,h1,h2⟩:=h;simp[ak.length h2]
theorem ak.nil:ak K M H [] []:=by simp[ak]
theorem ak.cons{d:D}{v:V}{ds:List D}{vs:List V}(h:Rep K M H d v) (t:ak K M H ds vs):ak K M H (d::ds) (v::vs):=by
 simp only[ak];exact⟨v,vs,rfl,h,t⟩
theorem ak.append:∀{ds es:List D}{vs ws:List V},ak K M H ds vs->ak K M H es ws->ak K M H (ds++es) (vs++ws)
 |[],_,_,_,h,t=>by simp only[ak]at h;subst h;exact t
 |d::ds,es,_,ws,h,t=>by
  simp only[ak]at h;obtain⟨v,us,rfl,h1,h2⟩:=h;exact ak.cons h1 (ak.append h2 t)
theorem ak.get:∀{ds:List D}{vs:List V}{i:Nat}{d:D},ak K M H ds vs->ds[i]?=some d->∃v,vs[i]?=some v/\Rep K M H d v
 |[],_,_,_,_,e=>by simp at e
 |d::ds,_,0,x,h,e=>by
  simp only[ak]at h;obtain⟨v,us,rfl,h1,h2⟩:=h;simp at e;subst e;exact⟨v,rfl,h1⟩
 |d::ds,_,i+1,x,h,e=>by
  simp only[ak]at h;obtain⟨v,us,rfl,h1,h2⟩:=h;obtain⟨w,a,b⟩:=ak.get (i:=i) (d:=x) h2 (by simpa using e);exact⟨w,by simpa using a,b⟩
theorem ak.take:∀{ds:List D}{vs:List V}(n:Nat),ak K M H ds vs->ak K M H (ds.take n) (vs.take n)
 |ds,vs,0,_=>by simp[ak]
 |[],_,n+1,h=>by simp only[ak]at h;subst h;simp[ak]
 |d::ds,_,n+1,h=>by
  simp only[ak]at h;obtain⟨v,us,rfl,h1,h2⟩:=h;exact ak.cons h1 (ak.take n h2)
theorem ak.drop:∀{ds:List D}{vs:List V}(n:Nat),ak K M H ds vs->ak K M H (ds.drop n) (vs.drop n)
 |ds,vs,0,h=>h
 |[],_,n+1,h=>by simp only[ak]at h;subst h;simp[ak]
 |d::ds,_,n+1,h=>by
  simp only[ak]at h;obtain⟨v,us,rfl,h1,h2⟩:=h;exact ak.drop n h2
theorem ak.set:∀{ds:List D}{vs:List V}{d:D}{v:V}(n:Nat),ak K M H ds vs->Rep K M H d v->ak K M H (ds.set n d) (vs.set n v)
 |[],_,_,_,n,h,r=>by simp only[ak]at h;subst h;simp[ak]
 |d::ds,_,_,_,0,h,r=>by
  simp only[ak]at h;obtain⟨v,us,rfl,h1,h2⟩:=h;exact ak.cons r h2
 |d::ds,_,_,_,n+1,h,r=>by
  simp only[ak]at h;obtain⟨v,us,rfl,h1,h2⟩:=h;exact ak.cons h1 (ak.set n h2 r)
theorem ak.one{d:D}{vs:List V}(h:ak K M H [d] vs):∃v,vs=[v]/\Rep K M H d v:=by
 simp only[ak]at h;obtain⟨v,us,rfl,h1,rfl⟩:=h;exact⟨v,rfl,h1⟩
def KR(K:o0) (M:DH) (H:Hp) {κ:Type}:List (κ×D)->List (κ×V)->Prop:=O4 fun p q=>p.1=q.1/\Rep K M H p.2 q.2
theorem KR.ext{κ:Type}{kvs:List (κ×D)}{ks:List (κ×V)}(h:KR K M H kvs ks) (e:Ext M H M' H'):KR K M' H' kvs ks:=O4.imp' (fun _ _ r=>⟨r.1,r.2.ext e⟩) h
def jL(K:o0) (M:DH) (H:Hp) (a:F5):HD->Prop
 |.lst ds=>∃vs,H a=some (.lst vs)/\ak K M H ds vs
 |.dK kvs=>∃ks,H a=some (.dK ks)/\KR K M H kvs ks
 |.dT kvs=>∃ks,H a=some (.dT ks)/\KR K M H kvs ks
 |.dKr o ks kvs=>∃_u:Unit,H a=some (.frz o (.dK ks))/\KR K M H kvs ks
 |.ins C fs=>∃gs,(∃dx,H a=some (.ins C dx gs))/\KR K M H fs gs
 |.ext φ ds=>∃vs,H a=some (.ext (φ vs))/\ak K M H ds vs
def HR(K:o0) (M:DH) (H:Hp):Prop:=∀a o,M a=some o->jL K M H a o
theorem jL.some{a:F5}{o:HD}(h:jL K M H a o):∃u,H a=K8 u/\∀xs,u≠.tup xs/\∀ob,u≠.frz ob (.tup xs):=by
 cases o with
 |ins C fs=>obtain⟨gs,⟨dx,r⟩,_⟩:=h;exact⟨_,r,fun xs=>⟨(by intro z;cases z),(by intro ob z;cases z)⟩⟩
 |_=>obtain⟨vs,r,_⟩:=h;exact⟨_,r,fun xs=>⟨(by intro z;cases z),(by intro ob z;cases z)⟩⟩
theorem jL.keep{a:F5}{o:HD}(h:jL K M H a o) (e:Ext M H M' H') (q:H' a=H a):jL K M' H' a o:=by
 cases o with
 |ins C fs=>obtain⟨gs,⟨dx,r⟩,t⟩:=h;exact⟨gs,⟨dx,by rw[q];exact r⟩,t.ext e⟩
 |_=>obtain⟨vs,r,t⟩:=h;exact⟨vs,by rw[q];exact r,t.ext e⟩
theorem HR.fresh(h:HR K M H) {p:F5}(e:H p=none):M p=none:=by
 cases q:M p with
 |none=>rfl
 |some o =>
  obtain⟨u,r,_⟩:=(h p _ q).some;rw[e]at r;cases r
theorem HR.nil:HR K noM H:=fun _ _ h=>nomatch h
theorem Ext.new{p:F5}{o:HO}(hr:HR K M H) (h:H p=none):Ext M H M (upd H p o):=fun a u e n=>by
 have:a≠p:=bD e h;rw[aw this];exact⟨e,n⟩
theorem HR.ext1(h:HR K M H) (e:Ext M H M H') (keep:∀a o,M a=some o->H' a=H a):HR K M H':=fun a o q=>(h a o q).keep e (keep a o q)
theorem HR.new{p:F5}{o:HO}(hr:HR K M H) (h:H p=none):HR K M (upd H p o):=hr.ext1 (Ext.new hr h) fun a u q=>by
 have:a≠p:=fun z=>by rw[z,hr.fresh h]at q;cases q
 rw[aw this]
theorem Ext.own{p:F5}{o:HO}{u:HD}(h:H p=none):Ext M H (au M p u) (upd H p o):=fun a x e n=>by
 have:a≠p:=bD e h;rw[aw this,aJ this];exact⟨e,n⟩
theorem HR.put{p:F5}{o:HO}{u:HD}(hr:HR K M H) (e:Ext M H (au M p u) (upd H p o)) (c:jL K (au M p u) (upd H p o) p u):HR K (au M p u) (upd H p o):=fun a w q=>by
 by_cases z:a=p
 ·subst z;rw[aq]at q;cases q;exact c
 ·rw[aJ z]at q;exact(hr a w q).keep e (aw z)
theorem HR.own{p:F5}{ds:List D}{vs:List V}(hr:HR K M H) (h:H p=none) (r:ak K M H ds vs):HR K (au M p (.lst ds)) (upd H p (.lst vs)) :=
 hr.put (Ext.own h) ⟨vs,az,r.ext (Ext.own h)⟩
theorem Ext.write{a:F5}{o:HO}{u w:HD}(h:M a=some w):Ext M H (au M a u) (upd H a o):=fun b x e n=>by
 have:b≠a:=fun z=>by rw[z,h]at n;cases n
 rw[aw this,aJ this];exact⟨e,n⟩
theorem HR.write{a:F5}{w:HD}{ds:List D}{vs:List V}(hr:HR K M H) (h:M a=some w) (r:ak K M H ds vs):HR K (au M a (.lst ds)) (upd H a (.lst vs)) :=
 hr.put (Ext.write h) ⟨vs,az,r.ext (Ext.write h)⟩
def LeM(M1 M:DH):Prop:=∀a o,M1 a=some o->M a=some o
theorem LeM.none(h:LeM M1 M) {a:F5}(n:M a=none):M1 a=none:=by
 cases q:M1 a with
 |none=>rfl
 |some o=>rw[h a o q]at n;cases n
theorem LeM.refl:LeM M M:=fun _ _ h=>h
theorem LeM.no:LeM noM M:=fun _ _ h=>nomatch h
theorem LeM.del{a:F5}:LeM (eY M a) M:=fun b o h=>by
 unfold eY at h;split at h
 ·cases h
 ·exact h
theorem Ext.le(h:LeM M1 M):Ext M H M1 H:=fun a o e n=>⟨e,h.none n⟩
theorem HR.le(hr:HR K M H) (h:LeM M1 M):HR K M1 H:=fun a o q=>(hr a o (h a o q)).keep (Ext.le h) rfl
theorem Rep.froze(hr:HR K M H) (h:LeM M1 M) {a:F5}{ds:List D}(e:M a=some (.lst ds)) (n:M1 a=none):Rep K M1 H (.lst ds) (.ref a):=by
 obtain⟨vs,r,t⟩:=hr a _ e;simp only[Rep];exact⟨a,vs,rfl,⟨r,n⟩,t.ext (Ext.le h)⟩
mutual
def noL:D->Bool
 |.tup ds=>yj ds
 |.lst _=>false
 |.scr _=>false
 |.emp=>false
 |.box _ _=>false
 |_=>true
def yj:List D->Bool
 |[]=>true
 |d::ds=>noL d&&yj ds
end
mutual
theorem Rep.hard:∀{d:D}{v:V},noL d=true->Rep K M H d v->(∀a xs,Rd H a (.tup xs)->M' a=none)->Rep K M' H d v
 |.non,_,_,h,_=>h
 |.bl _,_,_,h,_=>h
 |.int _,_,_,h,_=>h
 |.str _,_,_,h,_=>h
 |.ref _,_,_,h,_=>h
 |.emp,_,n,_,_=>by simp[noL]at n
 |.box _ _,_,n,_,_=>by simp[noL]at n
 |.lst _,_,n,_,_=>by simp[noL]at n
 |.scr _,_,n,_,_=>by simp[noL]at n
 |.tup ds,_,n,h,e=>by
  simp only[Rep]at h ⊢;obtain⟨a,vs,rfl,h1,h2⟩:=h;refine⟨a,vs,rfl,?_,ak.hard (by simpa[noL]using n) h2 e⟩;rcases h1 with⟨r,_⟩|r
  ·exact .inl ⟨r,e a vs r⟩
  ·exact .inr r
theorem ak.hard:∀{ds:List D}{vs:List V},yj ds=true->ak K M H ds vs->(∀a xs,Rd H a (.tup xs)->M' a=none)->ak K M' H ds vs
 |[],_,_,h,_=>h
 |d::ds,_,n,h,e=>by
  simp only[ak]at h ⊢;obtain⟨v,ws,rfl,h1,h2⟩:=h;simp only[yj,J8]at n;exact⟨v,ws,rfl,Rep.hard n.1 h1 e,ak.hard n.2 h2 e⟩
end
abbrev DE:=List (Option D)
def SR(K:o0) (M:DH) (H:Hp) (σ:St) (Δ:DE):Prop:=σ.length=Δ.length/\∀(i:Nat) (d:D),Δ[i]?=some (some d)->∃v,σ[i]?=some (some v)/\Rep K M H d v
theorem SR.ext{σ:St}{Δ:DE}(h:SR K M H σ Δ) (e:Ext M H M' H'):SR K M' H' σ Δ:=⟨h.1,fun i d q=>let⟨v,a,r⟩:=h.2 i d q;⟨v,a,r.ext e⟩⟩
theorem SR.set{σ:St}{Δ:DE}{d:D}{v:V}(h:SR K M H σ Δ) (i:Nat) (r:Rep K M H d v):SR K M H (σ.set i (some v)) (Δ.set i (some d)):=by
 refine⟨by simp[h.1],fun j e q=>?_⟩
 by_cases hj:j=i
 ·subst hj
  by_cases hl:j<Δ.length
  ·rw[O6 hl]at q;cases q;exact⟨v,O6 (by rw[h.1];exact hl),r⟩
  ·rw[List.getElem?_eq_none (by simp;lia)]at q;cases q
 ·rw[S6 (W4 hj)]at q ⊢;exact h.2 j e q
abbrev TEd:=DE->DH->(D->DH->Prop)->Prop
abbrev TAd:=DE->DH->(List D->DH->Prop)->Prop
abbrev TTd:=DE->DH->(Bool->DH->Prop)->Prop
structure gb where
 nx:DE->DH->Prop
 rt:D->DH->Prop
 bk:DE->DH->Prop:=fun _ _=>False
 ct:DE->DH->Prop:=fun _ _=>False
abbrev TSd:=gb->DE->DH->Prop
def up(K:o0) (t:TEd):TE:=fun σ H Q=>∃(Δ:DE) (M:DH) (R:D->DH->Prop),SR K M H σ Δ/\HR K M H/\t Δ M R /\
 ∀d M' v H',R d M'->Ext M H M' H'->HR K M' H'->Rep K M' H' d v->Q v H'
def upA(K:o0) (t:TAd):TA:=fun σ H Q=>∃(Δ:DE) (M:DH) (R:List D->DH->Prop),SR K M H σ Δ/\HR K M H/\t Δ M R /\
 ∀ds M' vs H',R ds M'->Ext M H M' H'->HR K M' H'->ak K M' H' ds vs->Q vs H'
def upT(K:o0) (t:TTd):TT:=fun σ H Q=>∃(Δ:DE) (M:DH) (R:Bool->DH->Prop),SR K M H σ Δ/\HR K M H/\t Δ M R /\
 ∀b M' H',R b M'->Ext M H M' H'->HR K M' H'->Q b H'
theorem upT.el{K:o0}{t:TTd}{σ:St}{H:Hp}{Q:Bool->Hp->Prop}{P:Prop}(h:upT K t σ H Q) (f:∀(Δ:DE) (M:DH) (R:Bool->DH->Prop),SR K M H σ Δ->HR K M H->t Δ M R->(∀b M' H',R b M'->Ext M H M' H'->HR K M' H'->Q b H')->P):P:=by
 obtain⟨x1,x2,x3,a,b,c,d⟩:=h;exact f x1 x2 x3 a b c d
theorem up.el{K:o0}{t:TEd}{σ:St}{H:Hp}{Q:VK}{P:Prop}(h:up K t σ H Q) (f:∀(Δ:DE) (M:DH) (R:D->DH->Prop),SR K M H σ Δ->HR K M H->t Δ M R->(∀d M' v H',R d M'->Ext M H M' H'->HR K M' H'->Rep K M' H' d v->Q v H')->P):P:=by
 obtain⟨x1,x2,x3,a,b,c,d⟩:=h;exact f x1 x2 x3 a b c d
theorem upA.el{K:o0}{t:TAd}{σ:St}{H:Hp}{Q:List V->Hp->Prop}{P:Prop}(h:upA K t σ H Q) (f:∀(Δ:DE) (M:DH) (R:List D->DH->Prop),SR K M H σ Δ->HR K M H->t Δ M R->(∀ds M' vs H',R ds M'->Ext M H M' H'->HR K M' H'->ak K M' H' ds vs->Q vs H')->P):P:=by
 obtain⟨x1,x2,x3,a,b,c,d⟩:=h;exact f x1 x2 x3 a b c d
structure UpE(K:o0) (E:gb) (D:oD) (M:DH) (H:Hp):Prop where
 nx:∀ Δ' M' σ' H',E.nx Δ' M'->Ext M H M' H'->HR K M' H'->SR K M' H' σ' Δ'->D.nx σ' H'
 bk:∀ Δ' M' σ' H',E.bk Δ' M'->Ext M H M' H'->HR K M' H'->SR K M' H' σ' Δ'->D.bk σ' H'
 ct:∀ Δ' M' σ' H',E.ct Δ' M'->Ext M H M' H'->HR K M' H'->SR K M' H' σ' Δ'->D.ct σ' H'
 rt:∀d M' v H',E.rt d M'->Ext M H M' H'->HR K M' H'->Rep K M' H' d v->D.rt v H'
theorem UpE.ext{E:gb}{D:oD}(u:UpE K E D M H) (e:Ext M H M' H'):UpE K E D M' H' :=
 ⟨fun a b c d h x=>u.nx a b c d h (e.trans x),fun a b c d h x=>u.bk a b c d h (e.trans x),fun a b c d h x=>u.ct a b c d h (e.trans x),fun a b c d h x=>u.rt a b c d h (e.trans x)⟩
def upS(K:o0) (t:TSd):TS:=fun D σ H=>∃(Δ:DE) (M:DH) (E:gb),SR K M H σ Δ/\HR K M H/\t E Δ M/\UpE K E D M H
theorem upS.el{K:o0}{t:TSd}{E:oD}{σ:St}{H:Hp}{P:Prop}(h:upS K t E σ H) (f:∀(Δ:DE) (M:DH) (R:gb),SR K M H σ Δ->HR K M H->t R Δ M->UpE K R E M H->P):P:=by
 obtain⟨x1,x2,x3,a,b,c,d⟩:=h;exact f x1 x2 x3 a b c d
def PEd(X:Cx) (e:J0) (t:TEd):Prop:=PE X e (up X.K t)
def PAd(X:Cx) (es:List J0) (t:TAd):Prop:=PA X es (upA X.K t)
def PTd(X:Cx) (e:J0) (t:TTd):Prop:=PT X e (upT X.K t)
def PWd(X:Cx) (e:J0) (t:TTd):Prop:=PW X e (upT X.K t)
def PSd(X:Cx) (st:X1) (t:TSd):Prop:=PS X st (upS X.K t)
def xR(X:Cx) (st:List X1) (t:TSd):Prop:=PSs X st (upS X.K t)
theorem PE.conv{X:Cx}{e:J0}{t t':TE}(h:PE X e t) (k:∀ σ H Q,t' σ H Q->t σ H Q):PE X e t':=fun p s σ H Q I q=>h p s σ H Q I (k σ H Q q)
theorem PT.conv{X:Cx}{e:J0}{t t':TT}(h:PT X e t) (k:∀ σ H Q,t' σ H Q->t σ H Q):PT X e t':=fun p s σ H Q I q=>h p s σ H Q I (k σ H Q q)
theorem PA.conv{X:Cx}{e:List J0}{t t':TA}(h:PA X e t) (k:∀ σ H Q,t' σ H Q->t σ H Q):PA X e t':=fun ps p s σ H Q I q=>h ps p s σ H Q I (k σ H Q q)
theorem PS.conv{X:Cx}{e:X1}{t t':TS}(h:PS X e t) (k:∀D σ H,t' D σ H->t D σ H):PS X e t':=fun p s σ H D I q=>h p s σ H D I (k D σ H q)
theorem PSs.conv{X:Cx}{e:List X1}{t t':TS}(h:PSs X e t) (k:∀D σ H,t' D σ H->t D σ H):PSs X e t':=fun p s σ H D I q=>h p s σ H D I (k D σ H q)
section
variable{X:Cx}{a b c:J0}{es:List J0}{ta tb:TEd}{pos:Pos}
def kS(i:Nat):TEd:=fun Δ M Q=>∃d,Δ[i]?=some (some d)/\Q d M
def dC(d:D):TEd:=fun _ M Q=>Q d M
def Bv:TAd:=fun _ M Q=>Q [] M
def sJ(ta:TEd) (tr:TAd):TAd:=fun Δ M Q=>ta Δ M fun x M1=>tr Δ M1 fun xs M2=>Q (x::xs) M2
def D7(t:TAd):TEd:=fun Δ M Q=>t Δ M fun ds M1=>ds.length<=E9/\Q (.tup ds) M1
def CU(t:TAd):TEd:=fun Δ M Q=>t Δ M fun ds M1=>ds.length<=E9/\Q (.lst ds) M1
def zF(t:TAd):TEd:=fun Δ M Q=>t Δ M fun ds M1=>ds.length<=E9/\∀p,M1 p=none->Q (.ref p) (au M1 p (.lst ds))
def rdM(M:DH):D->D
 |.ref a=>match M a with|some (.lst ds)=>.lst ds|_=>.ref a
 |d=>d
def aK(K:o0) (M:DH) (H:Hp) (d:D) (v:V):Prop:=match d with
 |.tup ds=>∃a vs,v=.ref a/\SqT K H a vs/\ak K M H ds vs
 |.lst ds=>∃a vs,v=.ref a/\H a=some (.lst vs)/\ak K M H ds vs
 |.scr ds=>∃a vs,v=.ref a/\SqL K H a vs/\ak K M H ds vs
 |d=>Rep K M H d v
theorem mJ.sq{K:o0}{M:DH}{H:Hp}{a:F5}{vs:List V}(h:mJ K M H a vs):SqT K H a vs:=by
 rcases h with⟨h,_⟩|h
 ·exact .inl h
 ·rcases h with(h|⟨_,h⟩)|h
  ·cases h
  ·cases h
  ·exact .inr h
theorem mE.sq{K:o0}{M:DH}{H:Hp}{a:F5}{vs:List V}(h:mE K M H a vs):SqL K H a vs:=by
 rcases h with⟨⟨o,h⟩,_⟩|h
 ·exact .inl (.inr ⟨o,h⟩)
 ·rcases h with(h|⟨_,h⟩)|h
  ·cases h
  ·cases h
  ·exact .inr h
theorem Rep.rd{K:o0}{M:DH}{H:Hp}{d:D}{v:V}(hr:HR K M H) (h:Rep K M H d v):aK K M H (rdM M d) v:=by
 cases d with
 |tup ds=>simp only[Rep]at h;obtain⟨a,vs,e,t,r⟩:=h;exact⟨a,vs,e,t.sq,r⟩
 |lst ds=>simp only[Rep]at h;obtain⟨a,vs,e,t,r⟩:=h;exact⟨a,vs,e,t.1,r⟩
 |scr ds=>simp only[Rep]at h;obtain⟨a,vs,e,t,r⟩:=h;exact⟨a,vs,e,t.sq,r⟩
 |ref a =>
  simp only[rdM];cases q:M a with
  |none=>exact h
  |some o =>
   cases o with
   |lst ds =>
    obtain⟨vs,e,r⟩:=hr a _ q;simp only[Rep]at h;exact⟨a,vs,h,e,r⟩
   |dK _=>exact h
   |dT _=>exact h
   |dKr _ _ _=>exact h
   |ins _ _=>exact h
   |ext _ _=>exact h
 |non=>exact h
 |bl b=>exact h
 |int i=>exact h
 |str x=>exact h
 |emp=>exact h
 |box _ _=>exact h
def bM(X:Cx) (f:s0->s0->Sem s0) (r:D->D->Option D):Prop :=
 ∀(aa:List (F5×Obj)) (s:u8) (σ:St) (H:Hp) (M:DH) (x y:V) (v u:s0) (dx dy dz:D) (Q:VK),Inv X aa σ H s->HR X.K M H->aA x v->aA y u->aK X.K M H dx x->aK X.K M H dy y->r dx dy=some dz ->
  (∀w H',Ext M H M H'->HR X.K M H'->Rep X.K M H' dz w->Q w H')->J5 (J9 X.prog X.w) X.A (f v u) (EP X aa σ Q) X.xe s
def Co(X:Cx) (f:s0->Sem s0) (r:D->Option D):Prop :=
 ∀(aa:List (F5×Obj)) (s:u8) (σ:St) (H:Hp) (M:DH) (x:V) (v:s0) (dx dz:D) (Q:VK),Inv X aa σ H s->HR X.K M H->aA x v->aK X.K M H dx x->r dx=some dz ->
  (∀w H',Ext M H M H'->HR X.K M H'->Rep X.K M H' dz w->Q w H')->J5 (J9 X.prog X.w) X.A (f v) (EP X aa σ Q) X.xe s
def ba(X:Cx) (f:s0) (r:List D->Option D):Prop :=
 ∀(aa:List (F5×Obj)) (s:u8) (σ:St) (H:Hp) (M:DH) (xs:List V) (us:List s0) (ds:List D) (dz:D) (Q:VK),Inv X aa σ H s->HR X.K M H->av xs us->O4 (aK X.K M H) ds xs->r ds=some dz ->
  (∀w H',Ext M H M H'->HR X.K M H'->Rep X.K M H' dz w->Q w H')->J5 (J9 X.prog X.w) X.A (call f us) (EP X aa σ Q) X.xe s
def dOp(r:D->D->Option D) (ta tb:TEd):TEd:=fun Δ M Q=>ta Δ M fun x M1=>tb Δ M1 fun y M2=>∃z,r (rdM M2 x) (rdM M2 y)=some z/\Q z M2
def dUn(r:D->Option D) (ta:TEd):TEd:=fun Δ M Q=>ta Δ M fun x M1=>∃z,r (rdM M1 x)=some z/\Q z M1
def opV(K:o0) (r:D->D->Option D):R2:=fun x y H Q=>∃dx dy dz M,HR K M H/\aK K M H dx x/\aK K M H dy y/\r dx dy=some dz/\∀w H',Ext M H M H'->HR K M H'->Rep K M H' dz w->Q w H'
theorem bM.v{f:s0->s0->Sem s0}{r:D->D->Option D}(h:bM X f r):OpR X f (opV X.K r):=fun aa s σ H x y v u Q I rx ry ⟨dx,dy,dz,M,hr,r1,r2,e,k⟩=>h aa s σ H M x y v u dx dy dz Q I hr rx ry r1 r2 e k
theorem uy{K:o0}{r:D->D->Option D}{ta tb:TEd}:∀ σ H Q,up K (dOp r ta tb) σ H Q->tOp (opV K r) (up K ta) (up K tb) σ H Q:=fun σ H Q hup=>hup.el fun Δ M R sr hr q k =>
 ⟨Δ,M,_,sr,hr,q,fun x M1 v H1 q1 e1 hr1 rv=>⟨Δ,M1,_,sr.ext e1,hr1,q1,fun y M2 u H2 ⟨z,ez,q2⟩ e2 hr2 ru=>⟨_,_,z,M2,hr2,(rv.ext e2).rd hr2,ru.rd hr2,ez,fun w H' e3 hr3 rw_=>k z M2 w H' q2 ((e1.trans e2).trans e3) hr3 rw_⟩⟩⟩
def lP(t:TEd):TTd:=fun Δ M Q=>t Δ M fun x M1=>∃k,x=.bl k/\Q k M1
theorem Dp{K:o0}{t:TEd}:∀ σ H Q,upT K (lP t) σ H Q->zQ (up K t) σ H Q:=fun σ H Q hup=>hup.el fun Δ M R sr hr q k =>
 ⟨Δ,M,_,sr,hr,q,fun d M1 v H1 ⟨b,e,q1⟩ e1 hr1 rv=>⟨b,by subst e;simpa only[Rep]using rv,k b M1 H1 q1 e1 hr1⟩⟩
def zP(t:TTd):TTd:=fun Δ M Q=>t Δ M fun c M1=>Q (!c) M1
def vi(t u:TTd):TTd:=fun Δ M Q=>t Δ M fun c M1=>if c=true then u Δ M1 Q else Q false M1
def Ci(t u:TTd):TTd:=fun Δ M Q=>t Δ M fun c M1=>if c=true then Q true M1 else u Δ M1 Q
variable{tA tB':TTd}{rest:List J0}
theorem PW.conv{X:Cx}{e:J0}{t t':TT}(h:PW X e t) (k:∀ σ H Q,t' σ H Q->t σ H Q):PW X e t':=fun w p s σ H Q I q=>h w p s σ H Q I (k σ H Q q)
theorem PWd.pt{e:J0}{t:TTd}(h:PWd X e t):PTd X e t:=PW.pt h
def Du(ta tb:TEd):TEd:=fun Δ M Q=>ta Δ M fun x M1=>∃c,x=.bl c/\if c=true then tb Δ M1 Q else Q (.bl false) M1
def C9(ta:TEd):TEd:=fun Δ M Q=>ta Δ M fun x M1=>∃c,x=.bl c/\Q (.bl (!c)) M1
def dIf(t:TTd) (ta tb:TEd):TEd:=fun Δ M Q=>t Δ M fun c M1=>if c=true then ta Δ M1 Q else tb Δ M1 Q
theorem rS{K:o0}{M:DH}{H:Hp}(hr:HR K M H):∀{ds:List D}{vs:List V},ak K M H ds vs->O4 (aK K M H) (ds.map (rdM M)) vs
 |[],_,h=>by simp only[ak]at h;subst h;exact .nil
 |d::ds,_,h=>by
  simp only[ak]at h;obtain⟨v,ws,rfl,h1,h2⟩:=h;exact .cons (h1.rd hr) (rS hr h2)
def dCB(r:List D->Option D) (t:TAd):TEd:=fun Δ M Q=>t Δ M fun ds M1=>∃z,r (ds.map (rdM M1))=some z/\Q z M1
theorem zp{K:o0}{r:List D->Option D}{t:TAd}:∀ σ H Q,up K (dCB r t) σ H Q->tCB (fun xs H Q=>∃ds dz M,HR K M H/\O4 (aK K M H) ds xs/\r ds=some dz/\∀w H',Ext M H M H'->HR K M H'->Rep K M H' dz w->Q w H') (upA K t) σ H Q:=fun σ H Q hup=>hup.el fun Δ M R sr hr q k =>
 ⟨Δ,M,_,sr,hr,q,fun ds M1 vs H1 ⟨z,ez,q1⟩ e1 hr1 rv=>⟨_,z,M1,hr1,rS hr1 rv,ez,fun w H' e2 hr2 r2=>k z M1 w H' q1 (e1.trans e2) hr2 r2⟩⟩
theorem ba.v{f:s0}{r:List D->Option D}(h:ba X f r):cb X f (fun xs H Q=>∃ds dz M,HR X.K M H/\O4 (aK X.K M H) ds xs/\r ds=some dz/\∀w H',Ext M H M H'->HR X.K M H'->Rep X.K M H' dz w->Q w H') :=
 fun aa s σ H xs us Q I rv ⟨ds,dz,M,hr,rr,e,k⟩=>h aa s σ H M xs us ds dz Q I hr rv rr e k
end
section
variable{X:Cx}
theorem bM.of{f:s0->s0->Sem s0}{r2:R2}{r:D->D->Option D}(h:OpR X f r2)
  (k:∀(H:Hp) (M:DH) (x y:V) (dx dy dz:D) (Q:VK),HR X.K M H->aK X.K M H dx x->aK X.K M H dy y->r dx dy=some dz->(∀w H',Ext M H M H'->HR X.K M H'->Rep X.K M H' dz w->Q w H')->r2 x y H Q):bM X f r :=
 fun aa s σ H M x y v u dx dy dz Q I hr rx ry r1 r2 e q=>h aa s σ H x y v u Q I rx ry (k H M x y dx dy dz Q hr r1 r2 e q)
theorem ba.of{f:s0}{r2:List V->Hp->VK->Prop}{r:List D->Option D}(h:cb X f r2)
  (k:∀(H:Hp) (M:DH) (xs:List V) (ds:List D) (dz:D) (Q:VK),HR X.K M H->O4 (aK X.K M H) ds xs->r ds=some dz->(∀w H',Ext M H M H'->HR X.K M H'->Rep X.K M H' dz w->Q w H')->r2 xs H Q):ba X f r :=
 fun aa s σ H M xs us ds dz Q I hr rv r1 e q=>h aa s σ H xs us Q I rv (k H M xs ds dz Q hr r1 e q)
theorem di{K:o0}{M:DH}{H:Hp}{i:Int}{v:V}(h:aK K M H (.int i) v):v=.int i:=by simpa[aK,Rep]using h
theorem lI{K:o0}{M:DH}{H:Hp}{i:Str}{v:V}(h:aK K M H (.str i) v):v=.str i:=by simpa[aK,Rep]using h
theorem EU{K:o0}{M:DH}{H:Hp}{v:V}(h:aK K M H .non v):v=.non:=by simpa[aK,Rep]using h
def iOp(f:Int->Int->Option D):D->D->Option D
 |.int a,.int b=>f a b
 |_,_=>none
theorem kJ{f:Int->Int->Option D}{x y z:D}(h:iOp f x y=some z):∃a b,x=.int a/\y=.int b/\f a b=some z:=by
 cases x<;>first|cases h|skip
 rename_i a;cases y<;>first|cases h|skip
 rename_i b;exact⟨a,b,rfl,rfl,h⟩
noncomputable def aY:D->Bool
 |.non=>true|.bl _=>true|.int _=>true|.str _=>true|_=>false
def toV:D->V
 |.bl b=>.bl b|.int i=>.int i|.str x=>.str x|_=>.non
theorem pP{K:o0}{M:DH}{H:Hp}{d:D}(h:aY d=true):Rep K M H d (toV d):=by
 cases d<;>first|(simp[Rep,toV];done)|cases h
theorem om{f:s0->s0->Sem s0}{C:Int->Int->Prop} [∀i j,Decidable (C i j)] {g:Int->Int->D}(hs:∀i j,aY (g i j)=true) (h:OpR X f (rI C fun i j=>toV (g i j))) :
  bM X f (iOp fun i j=>if C i j then some (g i j)else none) :=
 bM.of h fun H M x y dx dy dz Q hr r1 r2 e q=>by
  obtain⟨a,b,rfl,rfl,e'⟩:=kJ e;clear e;have e:=e'
  by_cases hc:C a b
  ·rw[if_pos hc]at e;cases e;exact⟨a,b,di r1,di r2,hc,q _ _ (Ext.refl _ _) hr (pP (hs a b))⟩
  ·rw[if_neg hc]at e;cases e
theorem j5{f:s0->s0->Sem s0}{g:Int->Int->D}(hs:∀i j,aY (g i j)=true) (h:OpR X f (rI0 fun i j=>toV (g i j))) :
  bM X f (iOp fun i j=>some (g i j)) :=
 bM.of h fun H M x y dx dy dz Q hr r1 r2 e q=>by
  obtain⟨a,b,rfl,rfl,e⟩:=kJ e;cases e;exact⟨a,b,di r1,di r2,q _ _ (Ext.refl _ _) hr (pP (hs a b))⟩
instance:∀i j,Decidable (jQ i j):=fun i j=>by unfold jQ;exact inferInstance
instance:∀i j,Decidable (iU i j):=fun i j=>by unfold iU;exact inferInstance
instance:∀i j,Decidable (oT i j):=fun i j=>by unfold oT;exact inferInstance
theorem pF:bM X (N5 .Sub) (iOp fun i j=>some (.int (i-j))):=j5 (fun _ _=>rfl) AU
theorem Ax:bM X (N5 .Mult) (iOp fun i j=>if iU i j then some (.int (i*j))else none):=om (fun _ _=>rfl) BC
theorem uB:bM X (N5 .FloorDiv) (iOp fun i j=>if jQ i j then some (.int (i / j))else none):=om (fun _ _=>rfl) yi
theorem ft:bM X (N5 .Mod) (iOp fun i j=>if 0<j then some (.int (i % j))else none):=om (C:=fun _ j=>0<j) (fun _ _=>rfl) Bo
theorem DU:bM X (N5 .Pow) (iOp fun i j=>if oT i j then some (.int (i ^ j.toNat))else none):=om (fun _ _=>rfl) z8
theorem wc:bM X (L3 .Lt) (iOp fun i j=>some (.bl (decide (i<j)))):=j5 (fun _ _=>rfl) D2
theorem AZ:bM X (L3 .LtE) (iOp fun i j=>some (.bl (decide (i<=j)))):=j5 (fun _ _=>rfl) D8
theorem y7:bM X (L3 .Gt) (iOp fun i j=>some (.bl (decide (j<i)))):=j5 (fun _ _=>rfl) Ca
theorem Eu:bM X (L3 .GtE) (iOp fun i j=>some (.bl (decide (j<=i)))):=j5 (fun _ _=>rfl) C6
theorem ak.at_{K:o0}{M:DH}{H:Hp}{ds:List D}{vs:List V}{i:Int}{d:D}(h:ak K M H ds vs) (e:atI ds i=some d):∃v,atI vs i=some v/\Rep K M H d v:=by
 unfold atI at e ⊢;rw[<-h.length];cases q:ixN ds.length i with
 |none=>rw[q]at e;cases e
 |some j =>
  rw[q]at e;have e':ds[j]?=some d:=e;obtain⟨v,a,b⟩:=h.get e';exact⟨v,a,b⟩
def ixD:D->D->Option D
 |.tup ds,.int i=>atI ds i
 |.lst ds,.int i=>atI ds i
 |.scr ds,.int i=>atI ds i
 |.str z,.int i=>if z.length<=E9 then(atI z.cps.toList i).map fun c=>.str ⟨#[c]⟩else none
 |_,_=>none
theorem a7:IxR X (opV X.K ixD):=by
 intro value slice aa s σ H x y v u Q I rx ry h hs;obtain⟨dx,dy,dz,M,hr,r1,r2,e,k⟩:=h;cases dx with
 |tup ds =>
  cases dy with
  |int i =>
   obtain⟨a,vs,rfl,sq,rl⟩:=r1;obtain⟨w,e2,rw_⟩:=rl.at_ e;exact Ag value slice aa s σ H _ _ v u Q I rx ry ⟨a,vs,i,w,rfl,di r2,sq,e2,k w H (Ext.refl _ _) hr rw_⟩ hs
  |_=>cases e
 |lst ds =>
  cases dy with
  |int i =>
   obtain⟨a,vs,rfl,sq,rl⟩:=r1;obtain⟨w,e2,rw_⟩:=rl.at_ e;exact sO value slice aa s σ H _ _ v u Q I rx ry ⟨a,vs,i,w,rfl,di r2,SqL.of sq,e2,k w H (Ext.refl _ _) hr rw_⟩ hs
  |_=>cases e
 |scr ds =>
  cases dy with
  |int i =>
   obtain⟨a,vs,rfl,sq,rl⟩:=r1;obtain⟨w,e2,rw_⟩:=rl.at_ e;exact sO value slice aa s σ H _ _ v u Q I rx ry ⟨a,vs,i,w,rfl,di r2,sq,e2,k w H (Ext.refl _ _) hr rw_⟩ hs
  |_=>cases e
 |str z =>
  cases dy with
  |int i =>
   simp only[ixD]at e
   by_cases hz:z.length<=E9
   ·rw[if_pos hz]at e;cases q:atI z.cps.toList i with
    |none=>rw[q]at e;cases e
    |some c =>
     rw[q]at e;cases e;exact BP value slice aa s σ H _ _ v u Q I rx ry ⟨z,i,c,lI r1,di r2,hz,q,k _ H (Ext.refl _ _) hr (by simp[Rep])⟩ hs
   ·rw[if_neg hz]at e;cases e
  |_=>cases e
 |_=>cases e
noncomputable def oF:D->D->Option D
 |.int a,.int b=>some (.int (a+b))
 |.str a,.str b=>if a.length+b.length<=E9 then some (.str (a++b))else none
 |.lst a,.lst b=>if a.length+b.length<=E9 then some (.lst (a++b))else none
 |.tup a,.tup b=>if a.length+b.length<=E9 then some (.tup (a++b))else none
 |_,_=>none
theorem dP{K:o0}{M:DH}{H:Hp}{p:F5}{ds:List D}{vs:List V}{Q:VK}(hr:HR K M H) (hp:H p=none) (r:ak K M H ds vs) (q:∀w H',Ext M H M H'->HR K M H'->Rep K M H' (.lst ds) w->Q w H'):Q (.ref p) (upd H p (.lst vs)) :=
 q _ _ (Ext.new hr hp) (hr.new hp) (by simp only[Rep];exact⟨p,vs,rfl,⟨az,hr.fresh hp⟩,r.ext (Ext.new hr hp)⟩)
theorem j7{K:o0}{M:DH}{H:Hp}{p:F5}{ds:List D}{vs:List V}{Q:VK}(hr:HR K M H) (hp:H p=none) (r:ak K M H ds vs) (q:∀w H',Ext M H M H'->HR K M H'->Rep K M H' (.tup ds) w->Q w H'):Q (.ref p) (upd H p (.tup vs)) :=
 q _ _ (Ext.new hr hp) (hr.new hp) (by simp only[Rep];exact⟨p,vs,rfl,.inl ⟨.inl az,hr.fresh hp⟩,r.ext (Ext.new hr hp)⟩)
theorem aK.tup{K:o0}{M:DH}{H:Hp}{ds:List D}{v:V}(hr:HR K M H) (h:aK K M H (.tup ds) v):Rep K M H (.tup ds) v:=by
 obtain⟨a,vs,rfl,sq,rl⟩:=h;simp only[Rep];refine⟨a,vs,rfl,?_,rl⟩;rcases sq with r|k
 ·refine .inl ⟨r,?_⟩;cases q:M a with
  |none=>rfl
  |some o =>
   obtain⟨u,z,m⟩:=(hr a _ q).some;rcases r with r|⟨ob,r⟩
   ·rw[z]at r;exact absurd (J4 r) (m _).1
   ·rw[z]at r;exact absurd (J4 r) ((m _).2 ob)
 ·exact .inr (.inr k)
theorem vS{prog:K2}{w:N4}{A:L8}{E:s0->u8->Prop}{s:u8}{t b:F5}{ws:List s0}{Q:s0->u8->Prop}(ht:ab0 s.heap t ([]:List s0).toArray) (hb:ab0 s.heap b ws.toArray)
  (h:Q (.ref b) s):J5 (J9 prog w) A (N5 .Add (.ref t) (.ref b)) Q E s:=by
 obtain⟨⟨cls,dd,data,sl⟩,ho,hc,n,hd⟩:=id ht;obtain⟨⟨cls2,dd2,data2,sl2⟩,ho2,hc2,n2,hd2⟩:=id hb;simp only at hc hd hc2 hd2;subst hc hd hc2 hd2;exact concat_meets ⟨_,ho,rfl⟩ ⟨_,ho2,rfl⟩ noFill_tuple_add seq_tuple_add PySem.F.slot_tuple_add PySem.F.entry_tuple_add (PySem.F.args_tuple_add_2 _ _)
   (tuple_addW0 t b ([]:List s0).toArray ws.toArray n n2 dd dd2 sl sl2 (by simp)) ⟨ho,ho2,h⟩
theorem aR:bM X (N5 .Add) oF:=by
 intro aa s σ H M x y v u dx dy dz Q I hr rx ry r1 r2 e k;cases dx with
 |int a =>
  cases dy with
  |int b =>
   cases e;exact BI aa s σ H x y v u Q I rx ry ⟨a,b,di r1,di r2,k _ H (Ext.refl _ _) hr (by simp[Rep])⟩
  |_=>cases e
 |str a =>
  cases dy with
  |str b =>
   simp only[oF]at e
   by_cases hz:a.length+b.length<=E9
   ·rw[if_pos hz]at e;cases e;exact qp aa s σ H x y v u Q I rx ry ⟨a,b,lI r1,lI r2,hz,k _ H (Ext.refl _ _) hr (by simp[Rep])⟩
   ·rw[if_neg hz]at e;cases e
  |_=>cases e
 |lst a =>
  cases dy with
  |lst b =>
   simp only[oF]at e
   by_cases hz:a.length+b.length<=E9
   ·rw[if_pos hz]at e;cases e;obtain⟨l1,vs,rfl,h1,l1r⟩:=r1;obtain⟨l2,ws,rfl,h2,l2r⟩:=r2;exact wf aa s σ H _ _ v u Q I rx ry ⟨l1,l2,vs,ws,rfl,rfl,h1,h2,by rw[<-l1r.length,<-l2r.length];exact hz,fun p hp=>dP hr hp (l1r.append l2r) k⟩
   ·rw[if_neg hz]at e;cases e
  |_=>cases e
 |tup a =>
  cases dy with
  |tup b =>
   simp only[oF]at e
   by_cases hz:a.length+b.length<=E9
   ·rw[if_pos hz]at e;cases e;have t1:=aK.tup hr r1;have t2:=aK.tup hr r2;obtain⟨l1,vs,rfl,h1,l1r⟩:=r1;obtain⟨l2,ws,rfl,h2,l2r⟩:=r2
    by_cases hv:vs=[]
    ·subst hv;have ea:a=[]:=by
      have:=l1r.length;cases a with
      |nil=>rfl
      |cons _ _=>simp at this
     subst ea;cases rx;cases ry;obtain⟨its,q1,p1,_⟩:=I.tuple h1;obtain⟨its2,q2,p2,_⟩:=I.tuple h2;cases q1;exact vS p1 p2 ⟨.ref l2,H,I,rfl,k _ H (Ext.refl _ _) hr t2⟩
    ·refine xD aa s σ H _ _ v u Q I rx ry ⟨l1,l2,vs,ws,rfl,rfl,h1,h2,hv,by rw[<-l1r.length,<-l2r.length];exact hz,fun hw=>?_,fun _ p hp=>j7 hr hp (l1r.append l2r) k⟩;subst hw;have eb:b=[]:=by
      have:=l2r.length;cases b with
      |nil=>rfl
      |cons _ _=>simp at this
     subst eb;rw[V7]at k;exact k _ H (Ext.refl _ _) hr t1
   ·rw[if_neg hz]at e;cases e
  |_=>cases e
 |_=>cases e
mutual
def eqD:D->D->Bool
 |.non,.non=>true
 |.bl a,.bl b=>a==b
 |.bl a,.int b=>(if a then 1 else 0)==b
 |.int a,.bl b=>a==(if b then 1 else 0)
 |.int a,.int b=>a==b
 |.str a,.str b=>a==b
 |.tup a,.tup b=>cS a b
 |.lst a,.lst b=>cS a b
 |_,_=>false
def cS:List D->List D->Bool
 |[],[]=>true
 |a::as,b::bs=>eqD a b&&cS as bs
 |_,_=>false
end
mutual
def dLe:D->Nat->Bool
 |.tup _,0=>false
 |.tup ds,n+1=>cM ds n
 |.lst _,0=>false
 |.lst ds,n+1=>cM ds n
 |.scr _,_=>false
 |.emp,_=>false
 |.box _ _,_=>false
 |.ref _,_=>false
 |_,_=>true
def cM:List D->Nat->Bool
 |[],_=>true
 |d::ds,n=>dLe d n&&cM ds n
end
theorem gU:∀{ds:List D}{n i:Nat}{d:D},cM ds n=true->ds[i]?=some d->dLe d n=true
 |[],_,_,_,_,e=>by simp at e
 |d::ds,n,0,x,h,e=>by
  simp only[cM,J8]at h;simp at e;subst e;exact h.1
 |d::ds,n,i+1,x,h,e=>by
  simp only[cM,J8]at h;exact gU h.2 (by simpa using e)
theorem ik:∀{ds:List D}{n:Nat},cM ds n=true↔∀d∈ds,dLe d n=true
 |[],n=>by simp[cM]
 |d::ds,n=>by simp[cM,ik (ds:=ds)]
def eqN(ds es:List D) (j:Nat):Bool:=match ds[j]?,es[j]? with|some a,some b=>eqD a b|_,_=>false
theorem oe:∀{ds es:List D},cS ds es=true->ds.length=es.length
 |[],[],_=>rfl
 |[],_::_,h=>by simp[cS]at h
 |_::_,[],h=>by simp[cS]at h
 |_::ds,_::es,h=>by
  simp only[cS,J8]at h;simp[oe h.2]
theorem jO:∀{ds es:List D},cS ds es=((V3 (min ds.length es.length)).all (eqN ds es)&&ds.length==es.length)
 |[],[]=>by simp[cS]
 |[],_::_=>by simp[cS]
 |_::_,[]=>by simp[cS]
 |a::ds,b::es=>by
  have ih:=@jO ds es;simp only[cS,R4,Nat.add_min_add_right,List.range_succ_eq_map,T9,List.all_map];have e0:eqN (a::ds) (b::es) 0=eqD a b:=by simp[eqN]
  have e1:(eqN (a::ds) (b::es))∘Nat.succ=eqN ds es:=by
   funext j;simp[eqN]
  rw[e0,e1,ih];have e2:(ds.length+1==es.length+1)=(ds.length==es.length):=by
   rw[Bool.eq_iff_iff];simp
  rw[e2,Bool.and_assoc]
theorem tN{ds es:List D}(h:ds.length=es.length):cS ds es=(V3 ds.length).all (eqN ds es):=by
 rw[jO,<-h,Nat.min_self];simp
theorem Rep.r{K:o0}{M:DH}{H:Hp}{d:D}{v:V}(h:Rep K M H d v):aK K M H d v:=by
 cases d with
 |tup ds=>simp only[Rep]at h;obtain⟨a,vs,e,t,r⟩:=h;exact⟨a,vs,e,t.sq,r⟩
 |lst ds=>simp only[Rep]at h;obtain⟨a,vs,e,t,r⟩:=h;exact⟨a,vs,e,t.1,r⟩
 |scr ds=>simp only[Rep]at h;obtain⟨a,vs,e,t,r⟩:=h;exact⟨a,vs,e,t.sq,r⟩
 |_=>exact h
theorem zM{aa:List (F5×Obj)}{σ:St}{H:Hp}{s:u8}{a:F5}{vs ws:List V}(I:Inv X aa σ H s) (h:SqT X.K H a vs) (h':H a=some (.lst ws)):False:=by
 obtain⟨its,r,⟨o,e,c,n,d⟩,_⟩:=I.tuple h;obtain⟨_,its',n',_,e'⟩:=I.hok a _ h';rw[e]at e';cases e';exact absurd (show s0.type "list"=s0.type "tuple" from c) (by decide)
theorem wo{aa:List (F5×Obj)}{σ:St}{H:Hp}{s:u8}(I:Inv X aa σ H s) {M M':DH}:∀(n:Nat) {d e:D}{v:V},dLe d n=true->dLe e n=true->aK X.K M H d v->aK X.K M' H e v->eqD d e=true:=by
  intro n
  induction n with
  | zero =>
    intro d e v hd he r1 r2;cases d<;>first|(simp[dLe]at hd;done)|skip
    all_goals cases e<;>first|(simp[dLe]at he;done)|skip
    all_goals (simp only[aK,Rep]at r1 r2;subst r1;first|(cases r2;simp[eqD];done)|cases r2)
  | succ n ih =>
    intro d e v hd he r1 r2;have lists:∀{ds es:List D} {vs:List V},cM ds n=true->cM es n=true->ak X.K M H ds vs->ak X.K M' H es vs->cS ds es=true:=by
      intro ds
      induction ds with
      | nil =>
        intro es vs _ _ h1 h2;simp only[ak]at h1;subst h1;cases es with
        |nil=>simp[cS]
        |cons _ _=>simp[ak]at h2
      | cons a ds ihl =>
        intro es vs d1 d2 h1 h2;simp only[ak]at h1;obtain⟨v,ws,rfl,h3,h4⟩:=h1;cases es with
        |nil=>simp[ak]at h2
        | cons b es =>
          simp only[ak]at h2;obtain⟨v',ws',e',h5,h6⟩:=h2;cases e';simp only[cM,J8]at d1 d2;simp only[cS,J8];exact⟨ih d1.1 d2.1 h3.r h5.r,ihl d1.2 d2.2 h4 h6⟩
    cases d with
    | tup ds =>
      obtain⟨a,vs,rfl,sq,rl⟩:=r1;cases e with
      | tup es =>
        obtain⟨b,ws,e',sq',rl'⟩:=r2;cases e';have:=I.tuple_inj sq sq';subst this;simp only[eqD];exact lists (by simpa[dLe]using hd) (by simpa[dLe]using he) rl rl'
      | lst es =>
        obtain⟨b,ws,e',sq',rl'⟩:=r2;cases e';exact(zM I sq sq').elim
      |_=>first|(simp[dLe]at he;done)|(simp only[aK,Rep]at r2;cases r2)
    | lst ds =>
      obtain⟨a,vs,rfl,sq,rl⟩:=r1;cases e with
      | lst es =>
        obtain⟨b,ws,e',sq',rl'⟩:=r2;cases e';rw[sq]at sq';cases sq';simp only[eqD];exact lists (by simpa[dLe]using hd) (by simpa[dLe]using he) rl rl'
      | tup es =>
        obtain⟨b,ws,e',sq',rl'⟩:=r2;cases e';exact(zM I sq' sq).elim
      |_=>first|(simp[dLe]at he;done)|(simp only[aK,Rep]at r2;cases r2)
    | _ =>
      first
      |(simp[dLe]at hd;done)
      | (cases e with
         |tup es=>(obtain⟨b,ws,e',sq',rl'⟩:=r2;subst e';simp only[aK,Rep]at r1;cases r1)
         |lst es=>(obtain⟨b,ws,e',sq',rl'⟩:=r2;subst e';simp only[aK,Rep]at r1;cases r1)
         |_=>first|(simp[dLe]at he;done)|(simp only[aK,Rep]at r1 r2;subst r1;first|(cases r2;simp[eqD];done)|cases r2))
theorem aK.at{K:o0}{M:DH}{H:Hp}{d:D}{v:V}{u:s0}(r:aK K M H d v) (q:aA v u):match d with|.non=>u=.none|.bl b=>u=.bool b|.int i=>∃t,u=.int i t|.str x=>∃t,u=.str x t|_=>True:=by
 cases d<;>first|trivial|(simp only[aK,Rep]at r;subst r;exact q)
open PySem.SeqAt in
theorem qM{aa:List (F5×Obj)}{σ:St}{H:Hp}{s:u8}(I:Inv X aa σ H s) {M M':DH}:∀(n:Nat) {A:L8}{d e:D}{v w:V}{u1 u2:s0},A.units+n<V6->dLe d n=true->dLe e n=true ->
  aK X.K M H d v->aK X.K M' H e w->aA v u1->aA w u2->EqAt A s u1 u2 (eqD d e)/\RcAt A s u1 u2 (eqD d e)/\RcNeAt A s u1 u2 (!(eqD d e)):=by
 intro n
 induction n with
 |zero =>
  intro A d e v w u1 u2 hu hd he r1 r2 q1 q2;have hu0:A.units<V6:=by assumption
  cases d<;>first|(simp[dLe]at hd;done)|skip
  all_goals cases e<;>first|(simp[dLe]at he;done)|skip
  all_goals simp only[aK,Rep]at r1 r2
  all_goals subst r1
  all_goals subst r2
  all_goals simp only[aA]at q1 q2
  all_goals first|(obtain⟨t1,rfl⟩:=q1)|subst q1
  all_goals first|(obtain⟨t2,rfl⟩:=q2)|subst q2
  all_goals simp only[eqD]
  ·exact⟨EqAt.same _,RcAt.none_none,RcNeAt.none_none⟩
  ·exact⟨EqAt.none_bool _,RcAt.none_bool _,RcNeAt.none_bool _⟩
  ·exact⟨EqAt.none_int _ _,RcAt.none_int _ _,RcNeAt.none_int _ _⟩
  ·exact⟨EqAt.none_str _ _,RcAt.none_str _ _,RcNeAt.none_str _ _⟩
  ·exact⟨EqAt.bool_none _,RcAt.bool_none _,RcNeAt.bool_none _⟩
  ·exact⟨EqAt.bool_bool _ _,RcAt.bool_bool _ _,RcNeAt.bool_bool _ _⟩
  ·exact⟨EqAt.bool_int _ _ _,RcAt.bool_int _ _ _,RcNeAt.bool_int _ _ _⟩
  ·exact⟨EqAt.bool_str _ _ _,RcAt.bool_str _ _ _,RcNeAt.bool_str _ _ _⟩
  ·exact⟨EqAt.int_none _ _,RcAt.int_none _ _,RcNeAt.int_none _ _⟩
  ·exact⟨EqAt.int_bool _ _ _,RcAt.int_bool _ _ _,RcNeAt.int_bool _ _ _⟩
  ·exact⟨EqAt.int_int _ _ _ _,RcAt.int_int _ _ _ _,RcNeAt.int_int _ _ _ _⟩
  ·exact⟨EqAt.int_str _ _ _ _,RcAt.int_str _ _ _ _,RcNeAt.int_str _ _ _ _⟩
  ·exact⟨EqAt.str_none _ _,RcAt.str_none _ _,RcNeAt.str_none _ _⟩
  ·exact⟨EqAt.str_bool _ _ _,RcAt.str_bool _ _ _,RcNeAt.str_bool _ _ _⟩
  ·exact⟨EqAt.str_int _ _ _ _,RcAt.str_int _ _ _ _,RcNeAt.str_int _ _ _ _⟩
  ·exact⟨EqAt.str_str _ _ _ _,RcAt.str_str _ _ _ _,RcNeAt.str_str _ _ _ _⟩
 |succ n ih =>
  intro A d e v w u1 u2 hu hd he r1 r2 q1 q2;have hu0:A.units<V6:=by lia
  have hu1:A.in1.units+n<V6:=by show A.units+1+n<V6;lia
  have item:∀{ds es:List D} {vs ws:List V} {us us2:List s0},cM ds n=true->cM es n=true->ak X.K M H ds vs->ak X.K M' H es ws->av vs us->av ws us2 ->
    ∀j (h1:j<us.toArray.size) (h2:j<us2.toArray.size),EqAt A.in1 s us.toArray[j] us2.toArray[j] (eqN ds es j):=by
   intro ds es vs ws us us2 d1 d2 h1 h2 h3 h4 j hj1 hj2;have l1:=h1.length;have l2:=h2.length;have l3:=h3.length;have l4:=h4.length;have j1:j<ds.length:=by simp at hj1;lia
   have j2:j<es.length:=by simp at hj2;lia
   obtain⟨v1,g1,p1⟩:=h1.get (i:=j) (d:=ds[j]) (by simp[j1]);obtain⟨v2,g2,p2⟩:=h2.get (i:=j) (d:=es[j]) (by simp[j2]);obtain⟨u1,k1,m1⟩:=h3.get g1;obtain⟨u2,k2,m2⟩:=h4.get g2;have e1:us.toArray[j]=u1:=by
    simp at hj1;simpa[List.getElem?_eq_getElem hj1]using k1
   have e2:us2.toArray[j]=u2:=by
    simp at hj2;simpa[List.getElem?_eq_getElem hj2]using k2
   rw[e1,e2];have e3:eqN ds es j=eqD ds[j] es[j]:=by simp[eqN,j1,j2]
   rw[e3];exact(ih hu1 (gU d1 (i:=j) (by simp[j1])) (gU d2 (i:=j) (by simp[j2])) p1.r p2.r m1 m2).1
  have both:∀{a b:F5},v=.ref a->w=.ref b->RcAt A s (.ref a) (.ref b) (eqD d e)->EqAt A s (.ref a) (.ref b) (eqD d e):=by
   intro a b ea eb rc
   by_cases hab:a=b
   ·subst hab;subst ea;subst eb;rw[wo I (n+1) hd he r1 r2];exact EqAt.same _
   ·exact EqAt.of_refs hab rc
  cases d with
  |tup ds =>
   obtain⟨a,vs,rfl,sq,rl⟩:=id r1;cases q1;obtain⟨its,rv,pt,_⟩:=I.tuple sq;have hd':cM ds n=true:=by simpa[dLe]using hd
   cases e with
   |tup es =>
    obtain⟨b,ws,rfl,sq',rl'⟩:=id r2;cases q2;obtain⟨its2,rv2,pt2,_⟩:=I.tuple sq';have he':cM es n=true:=by simpa[dLe]using he
    have it:=item hd' he' rl rl' rv rv2;have t1:=RcAt.tuples (e:=eqN ds es) pt pt2 hu0 it;have t2:=RcNeAt.tuples (e:=eqN ds es) pt pt2 hu0 it;rw[F1,F1,<-rv.length,<-rv2.length,<-rl.length,<-rl'.length,<-jO]at t1 t2;have rc:RcAt A s (.ref a) (.ref b) (eqD (.tup ds) (.tup es)):=by simpa only[eqD]using t1
    exact⟨both rfl rfl rc,rc,by simpa only[eqD]using t2⟩
   |lst es =>
    obtain⟨b,ws,rfl,sq',rl'⟩:=id r2;cases q2;obtain⟨its2,rv2,pt2,_⟩:=I.list (SqL.of sq');simp only[eqD];exact⟨EqAt.tuple_list pt pt2.isList hu0,RcAt.tuple_list pt pt2.isList hu0,RcNeAt.tuple_list pt pt2.isList hu0⟩
   |non=>obtain rfl:=r2.at q2;simp only[eqD];exact⟨EqAt.tuple_none pt hu0,RcAt.tuple_none pt hu0,RcNeAt.tuple_none pt hu0⟩
   |bl b=>obtain rfl:=r2.at q2;simp only[eqD];exact⟨EqAt.tuple_bool _ pt hu0,RcAt.tuple_bool _ pt hu0,RcNeAt.tuple_bool _ pt hu0⟩
   |int b=>obtain⟨t,rfl⟩:=r2.at q2;simp only[eqD];exact⟨EqAt.tuple_int _ _ pt hu0,RcAt.tuple_int _ _ pt hu0,RcNeAt.tuple_int _ _ pt hu0⟩
   |str b=>obtain⟨t,rfl⟩:=r2.at q2;simp only[eqD];exact⟨EqAt.tuple_str _ _ pt hu0,RcAt.tuple_str _ _ pt hu0,RcNeAt.tuple_str _ _ pt hu0⟩
   |_=>simp[dLe]at he
  |lst ds =>
   obtain⟨a,vs,rfl,sq,rl⟩:=id r1;cases q1;obtain⟨its,rv,pt,_⟩:=I.list (SqL.of sq);have hd':cM ds n=true:=by simpa[dLe]using hd
   cases e with
   |lst es =>
    obtain⟨b,ws,rfl,sq',rl'⟩:=id r2;cases q2;obtain⟨its2,rv2,pt2,_⟩:=I.list (SqL.of sq');have he':cM es n=true:=by simpa[dLe]using he
    have hs:its.toArray.size=ds.length/\its2.toArray.size=es.length:=by rw[F1,F1,<-rv.length,<-rv2.length,<-rl.length,<-rl'.length];exact⟨rfl,rfl⟩
    have rc:RcAt A s (.ref a) (.ref b) (eqD (.lst ds) (.lst es))/\RcNeAt A s (.ref a) (.ref b) (!(eqD (.lst ds) (.lst es))):=by
     by_cases hl:ds.length=es.length
     ·have hsz:its.toArray.size=its2.toArray.size:=by rw[hs.1,hs.2];exact hl
      have it:=item hd' he' rl rl' rv rv2;have t1:=RcAt.lists (e:=eqN ds es) pt.isList pt2.isList hsz hu0 it;have t2:=RcNeAt.lists (e:=eqN ds es) pt.isList pt2.isList hsz hu0 it;rw[hs.1,<-tN hl]at t1 t2;exact⟨by simpa only[eqD]using t1,by simpa only[eqD]using t2⟩
     ·have hsz:(its.toArray.size != its2.toArray.size)=true:=by rw[hs.1,hs.2];simpa using hl
      have e0:eqD (.lst ds) (.lst es)=false:=by
       simp only[eqD];cases q:cS ds es with
       |false=>rfl
       |true=>exact absurd (oe q) hl
      rw[e0];exact⟨RcAt.lists_lengths pt.isList pt2.isList hsz hu0,RcNeAt.lists_lengths pt.isList pt2.isList hsz hu0⟩
    exact⟨both rfl rfl rc.1,rc⟩
   |tup es =>
    obtain⟨b,ws,rfl,sq',rl'⟩:=id r2;cases q2;obtain⟨its2,rv2,pt2,_⟩:=I.tuple sq';simp only[eqD];exact⟨EqAt.list_tuple pt.isList pt2 hu0,RcAt.list_tuple pt.isList pt2 hu0,RcNeAt.list_tuple pt.isList pt2 hu0⟩
   |non=>obtain rfl:=r2.at q2;simp only[eqD];exact⟨EqAt.list_none pt.isList hu0,RcAt.list_none pt.isList hu0,RcNeAt.list_none pt.isList hu0⟩
   |bl b=>obtain rfl:=r2.at q2;simp only[eqD];exact⟨EqAt.list_bool _ pt.isList hu0,RcAt.list_bool _ pt.isList hu0,RcNeAt.list_bool _ pt.isList hu0⟩
   |int b=>obtain⟨t,rfl⟩:=r2.at q2;simp only[eqD];exact⟨EqAt.list_int _ _ pt.isList hu0,RcAt.list_int _ _ pt.isList hu0,RcNeAt.list_int _ _ pt.isList hu0⟩
   |str b=>obtain⟨t,rfl⟩:=r2.at q2;simp only[eqD];exact⟨EqAt.list_str _ _ pt.isList hu0,RcAt.list_str _ _ pt.isList hu0,RcNeAt.list_str _ _ pt.isList hu0⟩
   |_=>simp[dLe]at he
  |non =>
   cases e with
   |tup es =>
    obtain⟨b,ws,rfl,sq',rl'⟩:=id r2;cases q2;obtain⟨its2,rv2,pt2,_⟩:=I.tuple sq';obtain rfl:=r1.at q1;simp only[eqD];exact⟨EqAt.none_tuple pt2 hu0,RcAt.none_tuple pt2 hu0,RcNeAt.none_tuple pt2 hu0⟩
   |lst es =>
    obtain⟨b,ws,rfl,sq',rl'⟩:=id r2;cases q2;obtain⟨its2,rv2,pt2,_⟩:=I.list (SqL.of sq');obtain rfl:=r1.at q1;simp only[eqD];exact⟨EqAt.none_list pt2.isList hu0,RcAt.none_list pt2.isList hu0,RcNeAt.none_list pt2.isList hu0⟩
   |_=>first|(simp[dLe]at he;done)|exact ih (A:=A) (by exact S9 (by assumption)) (by simp[dLe]) (by simp[dLe]) r1 r2 q1 q2
  |bl a =>
   cases e with
   |tup es =>
    obtain⟨b,ws,rfl,sq',rl'⟩:=id r2;cases q2;obtain⟨its2,rv2,pt2,_⟩:=I.tuple sq';obtain rfl:=r1.at q1;simp only[eqD];exact⟨EqAt.bool_tuple _ pt2 hu0,RcAt.bool_tuple _ pt2 hu0,RcNeAt.bool_tuple _ pt2 hu0⟩
   |lst es =>
    obtain⟨b,ws,rfl,sq',rl'⟩:=id r2;cases q2;obtain⟨its2,rv2,pt2,_⟩:=I.list (SqL.of sq');obtain rfl:=r1.at q1;simp only[eqD];exact⟨EqAt.bool_list _ pt2.isList hu0,RcAt.bool_list _ pt2.isList hu0,RcNeAt.bool_list _ pt2.isList hu0⟩
   |_=>first|(simp[dLe]at he;done)|exact ih (A:=A) (by exact S9 (by assumption)) (by simp[dLe]) (by simp[dLe]) r1 r2 q1 q2
  |int a =>
   cases e with
   |tup es =>
    obtain⟨b,ws,rfl,sq',rl'⟩:=id r2;cases q2;obtain⟨its2,rv2,pt2,_⟩:=I.tuple sq';obtain⟨t,rfl⟩:=r1.at q1;simp only[eqD];exact⟨EqAt.int_tuple _ _ pt2 hu0,RcAt.int_tuple _ _ pt2 hu0,RcNeAt.int_tuple _ _ pt2 hu0⟩
   |lst es =>
    obtain⟨b,ws,rfl,sq',rl'⟩:=id r2;cases q2;obtain⟨its2,rv2,pt2,_⟩:=I.list (SqL.of sq');obtain⟨t,rfl⟩:=r1.at q1;simp only[eqD];exact⟨EqAt.int_list _ _ pt2.isList hu0,RcAt.int_list _ _ pt2.isList hu0,RcNeAt.int_list _ _ pt2.isList hu0⟩
   |_=>first|(simp[dLe]at he;done)|exact ih (A:=A) (by exact S9 (by assumption)) (by simp[dLe]) (by simp[dLe]) r1 r2 q1 q2
  |str a =>
   cases e with
   |tup es =>
    obtain⟨b,ws,rfl,sq',rl'⟩:=id r2;cases q2;obtain⟨its2,rv2,pt2,_⟩:=I.tuple sq';obtain⟨t,rfl⟩:=r1.at q1;simp only[eqD];exact⟨EqAt.str_tuple _ _ pt2 hu0,RcAt.str_tuple _ _ pt2 hu0,RcNeAt.str_tuple _ _ pt2 hu0⟩
   |lst es =>
    obtain⟨b,ws,rfl,sq',rl'⟩:=id r2;cases q2;obtain⟨its2,rv2,pt2,_⟩:=I.list (SqL.of sq');obtain⟨t,rfl⟩:=r1.at q1;simp only[eqD];exact⟨EqAt.str_list _ _ pt2.isList hu0,RcAt.str_list _ _ pt2.isList hu0,RcNeAt.str_list _ _ pt2.isList hu0⟩
   |_=>first|(simp[dLe]at he;done)|exact ih (A:=A) (by exact S9 (by assumption)) (by simp[dLe]) (by simp[dLe]) r1 r2 q1 q2
  |_=>simp[dLe]at hd
end
section
variable{X:Cx}{a b c e:J0}{es:List J0}{te ta tb:TEd}{pos:Pos}{st:X1}{rest:List X1}{t u:TSd}
def uF:TSd:=fun E Δ M=>E.nx Δ M
def CM(t u:TSd):TSd:=fun E Δ M=>t { E with nx:=u E } Δ M
def CC(te:TEd):TSd:=fun E Δ M=>te Δ M E.rt
def wu(te:TEd):TSd:=fun E Δ M=>te Δ M fun _ M1=>E.nx Δ M1
def Ac(c:TTd) (t u:TSd):TSd:=fun E Δ M=>c Δ M fun b M1=>if b=true then t E Δ M1 else u E Δ M1
def u9(i:Nat) (te:TEd):TSd:=fun E Δ M=>te Δ M fun d M1=>E.nx (Δ.set i (some d)) M1
def CJ(i:Nat) (te:TEd) (r:D->D->Option D):TSd:=fun E Δ M=>∃x,Δ[i]?=some (some x)/\te Δ M fun y M1=>∃z,r (rdM M1 x) (rdM M1 y)=some z/\E.nx (Δ.set i (some z)) M1
def vC(i:Nat) (t:TSd):TSd:=fun E Δ M=>∃a ds,Δ[i]?=some (some (.ref a))/\M a=some (.lst ds)/\t E (Δ.set i (some (.lst ds))) (eY M a)
abbrev GD:=D->DE->Option DE
def PGd(X:Cx) (tg:J0) (g:GD):Prop:=∃gv:TG,PG X tg gv/\∀(d:D) (v:V) (σ:St) (Δ Δ':DE) (M:DH) (H:Hp) (Q:St->Hp->Prop),SR X.K M H σ Δ->HR X.K M H->Rep X.K M H d v->g d Δ=some Δ'->(∀ σ',SR X.K M H σ' Δ'->Q σ' H)->gv v σ H Q
def aV(i:Nat):GD:=fun d Δ=>some (Δ.set i (some d))
theorem aW{i:Nat}{x:Str}(hN:X.N.Nodup) (hi:X.N[i]?=some x) (hx:Loc X.env.scope x) (hf:X.fn x=true∨X.env.scope.names.lookup x=some .local:=by first|exact .inl rfl|exact .inr rfl|assumption):PGd X (.Name x pos) (aV i) :=
 ⟨jZ i,nz hN hi hx hf,fun d v σ Δ Δ' M H Q sr hr rv e k=>by cases e;exact k _ (sr.set i rv)⟩
abbrev GDs:=List D->DE->Option DE
def xV(X:Cx) (tgs:List J0) (g:GDs):Prop:=∃gv:TGs,PGs X tgs gv/\∀(ds:List D) (vs:List V) (σ:St) (Δ Δ':DE) (M:DH) (H:Hp) (Q:St->Hp->Prop),SR X.K M H σ Δ->HR X.K M H->ak X.K M H ds vs->g ds Δ=some Δ'->(∀ σ',SR X.K M H σ' Δ'->Q σ' H)->gv vs σ H Q
def ic:GDs:=fun ds Δ=>match ds with|[]=>some Δ|_=>none
def cO(g:GD) (gs:GDs):GDs:=fun ds Δ=>match ds with|[]=>none|d::r=>(g d Δ).bind fun Δ1=>gs r Δ1
def fG(g:GDs) (n:Nat):GD:=fun d Δ=>match d with|.tup ds=>if ds.length=n then g ds Δ else none|_=>none
theorem mn:xV X [] ic:=⟨AJ,rV,fun ds vs σ Δ Δ' M H Q sr hr rv e k=>by
 cases ds with
 |nil=>simp only[ak]at rv;subst rv;cases e;exact⟨rfl,k _ sr⟩
 |cons _ _=>cases e⟩
theorem cJ{tg:J0}{tgs:List J0}{g:GD}{gs:GDs}(h1:PGd X tg g) (h2:xV X tgs gs)
  (hs:(N7 (tg::tgs) X.env).map (·.2)=T5 tg X.env::(N7 tgs X.env).map (·.2):=by rfl):xV X (tg::tgs) (cO g gs):=by
 obtain⟨g1,p1,k1⟩:=h1;obtain⟨g2,p2,k2⟩:=h2;refine⟨uq g1 g2,pU p1 p2 hs,fun ds vs σ Δ Δ' M H Q sr hr rv e k=>?_⟩;cases ds with
 |nil=>cases e
 |cons d r =>
  simp only[ak]at rv;obtain⟨v,ws,rfl,h3,h4⟩:=rv;simp only[cO]at e;cases q:g d Δ with
  |none=>rw[q]at e;cases e
  |some Δ1 =>
   rw[q]at e;exact⟨v,ws,rfl,k1 d v σ Δ Δ1 M H _ sr hr h3 q fun σ1 sr1=>k2 r ws σ1 Δ1 Δ' M H Q sr1 hr h4 e k⟩
theorem mO{tgs:List J0}{kx:Nat}{g:GDs}{n:Nat}(hc:X.calm=true) (h:xV X tgs g) (hn:(N7 tgs X.env).length=n:=by rfl) (hst:(N7 tgs X.env).findIdx? (·.1)=none:=by rfl):PGd X (.Tuple tgs kx pos) (fG g n):=by
 obtain⟨g1,p1,k1⟩:=h;refine⟨Bn X.K n g1,wX hc p1 hn hst,fun d v σ Δ Δ' M H Q sr hr rv e k=>?_⟩;cases d with
 |tup ds =>
  simp only[fG]at e
  by_cases hl:ds.length=n
  ·rw[if_pos hl]at e;simp only[Rep]at rv;obtain⟨a,vs,rfl,ta,rl⟩:=rv;exact⟨a,vs,rfl,ta.sq,by rw[<-rl.length];exact hl,k1 ds vs σ Δ Δ' M H Q sr hr rl e k⟩
  ·rw[if_neg hl]at e;cases e
 |_=>cases e
def C2(te:TEd) (g:GD):TSd:=fun E Δ M=>te Δ M fun d M1=>∃ Δ',g d Δ=some Δ'/\E.nx Δ' M1
abbrev TId:=DE->DH->(List D->DH->Prop)->Prop
def ItD(K:o0) (J:It) (ds:List D) (M1:DH) (H1:Hp):Prop:=∀M2 H2,Ext M1 H1 M2 H2->HR K M2 H2->∀i,(∀d,ds[i]?=some d->J.go i H2/\∀x H',J.yld i H2 x H'->Ext M2 H2 M2 H'/\HR K M2 H'/\Rep K M2 H' d x)/\(ds.length<=i->J.stop i H2)
def upI(K:o0) (wi:TId):TI:=fun σ H R=>∃(Δ:DE) (M:DH) (R':List D->DH->Prop),SR K M H σ Δ/\HR K M H/\wi Δ M R'/\∀ds M1 J H1,R' ds M1->Ext M H M1 H1->HR K M1 H1->ItD K J ds M1 H1->R J H1
theorem upI.el{K:o0}{t:TId}{σ:St}{H:Hp}{Q:It->Hp->Prop}{P:Prop}(h:upI K t σ H Q) (f:∀(Δ:DE) (M:DH) (R:List D->DH->Prop),SR K M H σ Δ->HR K M H->t Δ M R->(∀ds M1 J H1,R ds M1->Ext M H M1 H1->HR K M1 H1->ItD K J ds M1 H1->Q J H1)->P):P:=by
 obtain⟨x1,x2,x3,a,b,c,d⟩:=h;exact f x1 x2 x3 a b c d
def PId(X:Cx) (tg iter:J0) (wi:TId):Prop:=PI X tg iter (upI X.K wi)
theorem PI.conv{tg iter:J0}{w w':TI}(h:PI X tg iter w) (k:∀ σ H R,w' σ H R->w σ H R):PI X tg iter w':=fun p s σ H R I q=>h p s σ H R I (k σ H R q)
variable{tg iter:J0}
def gX(lo:Int) (n:Nat):List D:=(V3 n).map fun(k:Nat)=>.int (lo+(k:Int))
theorem eE{lo:Int}{n i:Nat}{d:D}(h:(gX lo n)[i]?=some d):i<n/\d=.int (lo+i):=by
 unfold gX at h;rw[N8]at h
 by_cases hi:i<n
 ·rw[List.getElem?_range hi]at h;cases h;exact⟨hi,rfl⟩
 ·rw[List.getElem?_eq_none (by simp;omega)]at h;cases h
theorem y9{K:o0}{lo:Int}{n:Nat}{M1:DH}{H1:Hp}:ItD K (Itr lo n) (gX lo n) M1 H1:=fun M2 H2 e2 hr2 i=>⟨fun d hd=>by
  obtain⟨h1,rfl⟩:=eE hd;refine⟨h1,fun x H' ⟨eH,y⟩=>?_⟩;subst eH;subst y;exact⟨Ext.refl _ _,hr2,by simp[Rep]⟩,fun hl=>by
  show n<=i;simpa[gX]using hl⟩
def va(ta:TAd):TId:=fun Δ M R=>ta Δ M fun ds M1=>∃j:Int,ds=[.int j]/\-(2 ^ 62)<=j/\j<2 ^ 62/\R (gX 0 j.toNat) M1
def cx(g:GD) (tb:TSd) (E:gb):List D->DE->DH->Prop
 |[],Δ,M=>E.nx Δ M
 |d::ds,Δ,M=>∃ Δ',g d Δ=some Δ'/\tb { E with nx:=cx g tb E ds,ct:=cx g tb E ds,bk:=E.nx } Δ' M
def Dt(wi:TId) (g:GD) (tb:TSd):TSd:=fun E Δ M=>wi Δ M fun ds M1=>cx g tb E ds Δ M1
def vq(c:TTd) (tb:TSd):TSd:=fun E Δ M=>∃W:Nat->DE->DH->Prop,(∃m,W m Δ M)/\∀m Δ M,W m Δ M->c Δ M fun b M1=>if b=true then tb { E with nx:=fun Δ' M'=>∃m',m'<m/\W m' Δ' M',ct:=fun Δ' M'=>∃m',m'<m/\W m' Δ' M',bk:=E.nx } Δ M1 else E.nx Δ M1
end
def sQ:D->Prop
 |.tup ds=>ds.length<=E9
 |.lst ds=>ds.length<=E9
 |.scr ds=>ds.length<=E9
 |_=>True
section
variable{X:Cx}{a b c e:J0}{es:List J0}{te ta tb:TEd}{pos:Pos}{tg iter elt:J0}
theorem aK.len{K:o0}{aa:List (F5×Obj)}{σ:St}{H:Hp}{s:u8}{M:DH}{d:D}{v:V}(I:Inv X aa σ H s) (h:Rep X.K M H d v):sQ d:=by
 cases d with
 |tup ds =>
  simp only[Rep]at h;obtain⟨a,vs,e,t,r⟩:=h;obtain⟨_,_,_,z⟩:=I.tuple t.sq;simp only[sQ];rw[r.length];exact z
 |lst ds =>
  simp only[Rep]at h;obtain⟨a,vs,e,t,r⟩:=h;obtain⟨_,_,_,z⟩:=I.list (SqL.of t.1);simp only[sQ];rw[r.length];exact z
 |scr ds =>
  simp only[Rep]at h;obtain⟨a,vs,e,t,r⟩:=h;obtain⟨_,_,_,z⟩:=I.list t.sq;simp only[sQ];rw[r.length];exact z
 |_=>trivial
noncomputable def bR:List Bool->DE->DE
 |true::ms,v::σ=>v::bR ms σ
 |false::ms,_::σ=>none::bR ms σ
 |[],_::σ=>none::bR [] σ
 |_,[]=>[]
def mL(ms:List Bool) (k:Nat) (Δ:DE):DE:=bR ms Δ++F8 k none
theorem cf:∀(ms:List Bool) (σ:DE),(bR ms σ).length=σ.length
 |true::ms,v::σ=>by simp[bR,cf ms σ]
 |false::ms,_::σ=>by simp[bR,cf ms σ]
 |[],_::σ=>by simp[bR,cf [] σ]
 |[],[]=>by simp[bR]
 |true::_,[]=>by simp[bR]
 |false::_,[]=>by simp[bR]
theorem fO:∀{ms:List Bool}{σ:DE}{i:Nat}{v:D},(bR ms σ)[i]?=some (some v)->ms[i]?=some true/\σ[i]?=some (some v)
 |true::ms,v::σ,0,x,h=>by simpa[bR]using h
 |true::ms,v::σ,i+1,x,h=>by
  have:=fO (ms:=ms) (σ:=σ) (i:=i) (v:=x) (by simpa[bR]using h);simpa using this
 |false::ms,_::σ,0,x,h=>by simp[bR]at h
 |false::ms,_::σ,i+1,x,h=>by
  have:=fO (ms:=ms) (σ:=σ) (i:=i) (v:=x) (by simpa[bR]using h);simpa using this
 |[],_::σ,0,x,h=>by simp[bR]at h
 |[],_::σ,i+1,x,h=>by
  have:=fO (ms:=[]) (σ:=σ) (i:=i) (v:=x) (by simpa[bR]using h);simpa using this
 |[],[],_,_,h=>by simp[bR]at h
 |true::_,[],_,_,h=>by simp[bR]at h
 |false::_,[],_,_,h=>by simp[bR]at h
theorem gf:∀{ms:List Bool}{σ:St}{i:Nat}{v:V},ms[i]?=some true->σ[i]?=some (some v)->(bB ms σ)[i]?=some (some v)
 |true::ms,v::σ,0,x,h,h2=>by simpa[bB]using h2
 |true::ms,v::σ,i+1,x,h,h2=>by
  have:=gf (ms:=ms) (σ:=σ) (i:=i) (v:=x) (by simpa using h) (by simpa using h2);simpa[bB]using this
 |false::ms,_::σ,0,x,h,h2=>by simp at h
 |false::ms,_::σ,i+1,x,h,h2=>by
  have:=gf (ms:=ms) (σ:=σ) (i:=i) (v:=x) (by simpa using h) (by simpa using h2);simpa[bB]using this
 |[],_,_,_,h,_=>by simp at h
 |_::_,[],_,_,_,h=>by simp at h
theorem SR.comp{K:o0}{M:DH}{H:Hp}{σ:St}{Δ:DE}(ms:List Bool) (k:Nat) (h:SR K M H σ Δ):SR K M H (cH ms k σ) (mL ms k Δ):=by
 refine⟨by simp[cH,mL,bq,cf,h.1],fun i d q=>?_⟩;unfold mL at q
 by_cases hi:i<(bR ms Δ).length
 ·rw[K6 hi]at q;obtain⟨m,e⟩:=fO q;obtain⟨v,ev,rv⟩:=h.2 i d e;refine⟨v,?_,rv⟩;have:=gf m ev;unfold cH;rw[K6 (by rw[bq,h.1,<-cf ms];exact hi)];exact this
 ·rw[O7 (by lia),R0]at q
  split at q<;>cases q
def cG(g:GD) (tc:TTd) (te:TEd):List D->DE->DH->List D->(List D->DH->Prop)->Prop
 |[],_,M,acc,Q=>Q acc M
 |d::ds,Δ,M,acc,Q=>∃ Δ',g d Δ=some Δ'/\tc Δ' M fun b M1=>if b=true then te Δ' M1 fun y M2=>cG g tc te ds Δ' M2 (acc++[y]) Q else cG g tc te ds Δ' M1 acc Q
def dLc(ms:List Bool) (k:Nat) (wi:TId) (g:GD) (tc:TTd) (te:TEd):TEd:=fun Δ M Q=>wi Δ M fun ds M1=>ds.length<=E9/\cG g tc te ds (mL ms k Δ) M1 [] fun ys M2=>Q (.lst ys) M2
def Eg(X:Cx) (ifs:List J0) (t:TTd):Prop:=PIf X ifs (upT X.K t)
def vQ:TTd:=fun _ M Q=>Q true M
abbrev rY(K:o0) (g:GD) (gv:TG):Prop:=∀(d:D) (v:V) (σ:St) (Δ Δ':DE) (M:DH) (H:Hp) (Q:St->Hp->Prop),SR K M H σ Δ->HR K M H->Rep K M H d v->g d Δ=some Δ'->(∀ σ',SR K M H σ' Δ'->Q σ' H)->gv v σ H Q
theorem sS{K:o0}{g:GD}{tc:TTd}{te:TEd}{gv:TG}(kg:rY K g gv) {J:It}{ds:List D}{M1:DH}{H1:Hp}(it:ItD K J ds M1 H1) (hr1:HR K M1 H1) (hz:ds.length<=E9) {R:List D->DH->Prop}{σ:St}{Δ:DE}(sr:SR K M1 H1 σ Δ) (q:cG g tc te ds Δ M1 [] R) :
  ∃(W:Nat->Nat->List V->St->Hp->Prop) (Z:List V->St->Hp->Prop),(∃m,W 0 m [] σ H1)/\ku J gv (upT K tc) (mz (up K te)) W Z/\∀ys σ' H',Z ys σ' H'->∃M' acc,Ext M1 H1 M' H'/\HR K M' H'/\ak K M' H' acc ys/\R acc M':=by
 refine⟨fun i m ys σ' H'=>∃ Δ' M' acc,m=ds.length-i/\i<=ds.length/\Ext M1 H1 M' H'/\HR K M' H'/\SR K M' H' σ' Δ'/\ak K M' H' acc ys/\acc.length<=i/\cG g tc te (ds.drop i) Δ' M' acc R,_,
  ⟨ds.length,_,M1,[],by simp,R1 _,Ext.refl _ _,hr1,sr,ak.nil,by simp,q⟩,?_,fun _ _ _ z=>z⟩
 rintro i m ys σ2 H2 ⟨Δ2,M2,acc,rfl,hi2,e2,hr2,sr2,ra,la,f2⟩;have hl:ys.length<=E9:=by rw[<-ra.length];lia
 refine⟨hl,?_⟩;obtain⟨go,stop⟩:=it M2 H2 e2 hr2 i
 by_cases hlt:i<ds.length
 ·have hd:ds[i]?=some ds[i]:=by simp[hlt]
  obtain⟨g1,y1⟩:=go _ hd;rw[List.drop_eq_getElem_cons hlt]at f2;simp only[cG]at f2;obtain⟨Δ3,eg,f3⟩:=f2;refine .inr ⟨g1,fun x H' hy=>?_⟩;obtain⟨e3,hr3,rx⟩:=y1 x H' hy;refine kg _ x σ2 Δ2 Δ3 M2 H' _ (sr2.ext e3) hr3 rx eg fun σ3 sr3=>?_;refine⟨Δ3,M2,_,sr3,hr3,f3,fun b M4 H4 q4 e4 hr4=>?_⟩;cases b with
  |true =>
   simp only[if_true]at q4 ⊢;refine⟨Δ3,M4,_,sr3.ext e4,hr4,q4,fun y M5 v5 H5 q5 e5 hr5 rv5=>?_⟩;refine⟨ds.length-(i+1),by lia,Δ3,M5,acc++[y],rfl,hlt,((e2.trans e3).trans e4).trans e5,hr5,(sr3.ext e4).ext e5,(((ra.ext e3).ext e4).ext e5).append (ak.cons rv5 ak.nil),by simp;assumption,q5⟩
  |false =>
   simp only[N3,if_false]at q4 ⊢;exact⟨ds.length-(i+1),by lia,Δ3,M4,acc,rfl,hlt,(e2.trans e3).trans e4,hr4,sr3.ext e4,(ra.ext e3).ext e4,by exact Nat.le_succ_of_le (by assumption),q4⟩
 ·rw[List.drop_eq_nil_of_le (by lia)]at f2;exact .inl ⟨stop (by lia),M2,acc,e2,hr2,ra,f2⟩
theorem nW{K:o0}{wi:TId}{g:GD}{tc:TTd}{te:TEd}{gv:TG}{ms:List Bool}{kk:Nat}(kg:rY K g gv) :
  ∀ σ H Q,up K (dLc ms kk wi g tc te) σ H Q->tLc ms kk (upI K wi) gv (upT K tc) (up K te) σ H Q:=by
 rintro σ H Q ⟨Δ,M,R,sr,hr,q,k⟩;refine⟨Δ,M,_,sr,hr,q,fun ds M1 J H1 ⟨hz,q1⟩ e1 hr1 it=>?_⟩;obtain⟨W,Z,hW,hC,hZ⟩:=sS kg it hr1 hz ((sr.ext e1).comp ms kk) q1;refine⟨W,Z,hW,hC,fun ys σ' H' p z hp=>?_⟩;obtain⟨M',acc,e',hr',ra,q'⟩:=hZ _ _ _ z;refine k _ M' _ _ q' ((e1.trans e').trans (Ext.new hr' hp)) (hr'.new hp) ?_;simp only[Rep];exact⟨p,ys,rfl,⟨az,hr'.fresh hp⟩,ra.ext (Ext.new hr' hp)⟩
variable{scope:O9}{cl:List (Str×F5)}{ms:List Bool}{ag:List Str}{ifs:List J0}
def PGa(X:Cx) (scope:O9) (cl:List (Str×F5)) (ag:List Str) (tg:J0) (g:GD):Prop:=∃gv:TG,(∀C s H ex,PG (ax X scope cl (X.N++ag) C s H ex) tg gv)/\rY X.K g gv
theorem aF{i:Nat}{x:Str}{pos:Pos}(hN:(X.N++ag).Nodup) (hi:(X.N++ag)[i]?=some x) (hx:(V9 scope X.env).names.lookup x=some .local):PGa X scope cl ag (.Name x pos) (aV i) :=
 ⟨jZ i,fun C s H ex=>nz hN hi (.inl hx) (.inr hx),fun d v σ Δ Δ' M H Q sr hr rv e k=>by cases e;exact k _ (sr.set i rv)⟩
end
abbrev SpD:=List D->DH->(D->DH->Prop)->Prop
def spD(K:o0) (n:Nat) (S:SpD):Sp:=fun vs H Q _=>∃(ds:List D) (M:DH) (R:D->DH->Prop),ds.length=n/\ak K M H ds vs/\HR K M H/\S ds M R/\∀d M' v H',R d M'->Ext M H M' H'->HR K M' H'->Rep K M' H' d v->Q v H'
theorem yx{K:o0}{n:Nat}{S:SpD}{vs:List V}{H:Hp}{Q:VK}{E:XK}(h:spD K n S vs H Q E):vs.length=n:=by
 obtain⟨ds,M,R,hl,r,_⟩:=h;rw[<-r.length];exact hl
def gj(N:List Str) (ds:List D):DE:=ds.map some++F8 (N.length-ds.length) none
theorem vM{K:o0}{M:DH}{H:Hp}{N:List Str}:∀{ds:List D}{vs:List V},ak K M H ds vs->SR K M H (fI N vs) (gj N ds):=by
 intro ds vs h;have hl:=h.length;refine⟨by simp[fI,gj,hl],fun i d q=>?_⟩;unfold gj at q
 by_cases hi:i<ds.length
 ·rw[K6 (by simpa using hi),N8]at q;cases e:ds[i]? with
  |none=>rw[e]at q;cases q
  |some d' =>
   rw[e]at q;cases q;obtain⟨v,gv,rv⟩:=h.get e;refine⟨v,?_,rv⟩;unfold fI;rw[K6 (by simp;lia),N8,gv];rfl
 ·rw[O7 (by simpa using hi),R0]at q
  split at q<;>cases q
section
variable{P:K2}{w:N4}{K:o0}{mg:Str->Option s0}{base:K3}{f:F5}{fd:P3}
theorem Fun.okD{x qual:Str}{st:X1}{f:F5}{fd:P3}{N ps:List Str}{k n:Nat}{S:SpD}(F:Fun K x qual st f fd) (hn:ps.length=n) (Sc:ay N ps (aj st))
  (hbody:∀ (cdv:s0) (A:L8) (outer:List Env) (s:u8) (H:Hp) (E:XK),cj k (A.deeper (Z9 qual (aj st) s.heap.objs.size f cdv)) →
   ∃t:TSd,xR (pN CX0 P w K mg base N qual (aj st) f cdv A outer s H E).nox (cE st) t/\∀ds M R,ds.length=n->S ds M R->t { nx:=fun _ M'=>R .non M',rt:=R } (gj N ds) M):bo P w K mg base CX0 (k+1) f fd ps (spD K n S):=by
 refine F.ok Sc (fun vs H Q E h=>by rw[hn];exact yx h) (fun cdv A outer s H vs Q E hr h=>?_);obtain⟨t,ht,hq⟩:=hbody cdv A outer s H E hr;obtain⟨ds,M,R,hl,r,hrr,q,k'⟩:=h;refine⟨_,ht,gj N ds,M,_,vM r,hrr,hq ds M R hl q,⟨fun Δ' M' σ' H' q' e' hr' _=>k' .non M' .non H' q' e' hr' (by simp[Rep]),fun _ _ _ _ q'=>P7 q',fun _ _ _ _ q'=>P7 q',fun d M' v H' q' e' hr' rv=>k' d M' v H' q' e' hr' rv⟩⟩
end
section
variable{X:Cx}{a b c e:J0}{es:List J0}{te ta tb:TEd}{t:TAd}{pos:Pos}
def pO(n:Nat) (S:SpD) (t:TAd):TEd:=fun Δ M Q=>t Δ M fun ds M1=>ds.length=n/\S ds M1 Q
theorem Ba{k:Nat}{f:F5}{fd:P3}{ps:List Str}{n:Nat}{S:SpD}{x:Str}{p:Pos}(F:bo X.prog X.w X.K X.mg X.base CX0 k f fd ps (spD X.K n S)) (hr:cj k X.A) (hg:Gl X x) (hm:X.mg x=some (.ref f)) (hk:S7 X.K (.ref f)=true) (hb:cZ X.K fd ps [])
  (ha:PAd X (e::es) t) (hdb:(x==("__debug__":Str))=false:=by decide) (he:I0 (e::es) X.env=(false,U0 e X.env)::I0 es X.env:=by rfl) (hpl:(T4 pos (I0 es X.env)).any (·.1)=false:=by rfl) :
  PEd X (.Call (.Name x p) (e::es) [] pos) (pO n S t) :=
 (ym F hr hg hm hk hb .nil Eb ha hdb he hpl).conv fun σ H Q hup => hup.el fun Δ M R sr hr q k => ⟨Δ,M,_,sr,hr,q,fun ds M1 vs H1 ⟨hl,q1⟩ e1 hr1 rv => by
  dsimp only;rw[V7];exact⟨ds,M1,R,hl,rv,hr1,q1,fun d M' v H' q' e' hr' rv'=>k d M' v H' q' (e1.trans e') hr' rv'⟩⟩
def Ck(to ti te:TEd):TSd:=fun E Δ M=>te Δ M fun d M1=>to Δ M1 fun o M2=>ti Δ M2 fun i M3=>∃a ds k j,o=.ref a/\i=.int k/\M3 a=some (.lst ds)/\ixN ds.length k=some j/\E.nx Δ (au M3 a (.lst (ds.set j d)))
def Ai(to te:TEd):TEd:=fun Δ M Q=>to Δ M fun o M1=>∃a l,o=.ref a/\M1 a=some (.lst l)/\te Δ M1 fun d M2=>∃ds,M2 a=some (.lst ds)/\ds.length<E9/\Q .non (au M2 a (.lst (ds++[d])))
end
def ItW(n:Nat) (Vp:Nat->V->Prop):It:=⟨fun i _=>i<n,fun i H x H'=>H'=H/\Vp i x,fun i _=>n<=i⟩
theorem tP{P:K2}{w:N4}{K:o0}{tg:J0}{it:F5}{n:Nat}{Pv:Nat->s0->Prop}{St:Nat->K3->Prop}{ty:String}{Vp:Nat->V->Prop}
  (W:∀A:L8,A.handled=none->Walks P w A it [it] [it] n Pv St) (ho:∀i h,St i h->∃o,h.get? it=some o/\o.cls=.type ty/\∃vs,o.data=.fields vs)
  (hn:["enumerate","zip","dict_itemiterator","dict_reverseitemiterator","odict_iterator","itertools.zip_longest","itertools.pairwise"].contains ty=false)
  (hv:∀i u,Pv i u->∃x,aA x u/\Vp i x) (hself:∀(A:L8) (i:Nat) (s:u8) (Q:s0->u8->Prop) (E:s0->u8->Prop),St i s.heap->Q (.ref it) s->J5 (J9 P w) A (pyIter (.ref it)) Q E s):iL P w K tg (ItW n Vp) [it] it (fun i h=>i<=n/\St i h) where
 mem:=by simp
 obj:=fun i h st b hb=>by
  have e:b=it:=by simpa using hb
  subst e;obtain⟨o,e,c,vs,d⟩:=ho i h st.2;exact⟨o,e,fun v z=>by rw[d]at z;cases z⟩
 keep:=fun i h h' st k=>⟨st.1,(W { handled:=none } rfl).frame i h h' st.2 k⟩
 item:=by
  intro X hP hw hK hc i aa s σ H E I hf st hg;subst hP hw hK;obtain⟨f0,f1,f2,f3,f4,f5⟩:=hf it (by simp);refine(W X.A (I.ok.hd hc)).item i s _ _ hg st.2 fun v h' tk pv st' kk=>?_;have I1:Inv X aa σ H { s with heap:=h',toks:=tk }:=I.turned (fun b o hb e=>kk b o (by simpa using hb) e) f0 f1 f3 f4 f5;obtain⟨x,rx,vx⟩:=hv i v pv;obtain⟨o,e,c,vs,d⟩:=ho _ _ st';exact⟨v,rfl,lY (s:={ s with heap:=h',toks:=tk }) e c d hn ⟨x,H,I1,rx,⟨rfl,vx⟩,⟨hg,st'⟩,fun b hb=>(hf b hb).1⟩⟩
 done:=by
  intro X hP hw hK hc i aa s σ H E I hf st hg;subst hP hw hK;obtain⟨f0,f1,f2,f3,f4,f5⟩:=hf it (by simp);have e:i=n:=Nat.le_antisymm st.1 hg;subst e;exact(W X.A (I.ok.hd hc)).done s _ _ st.2 fun h' tk kk=>⟨rfl,I.turned (fun b o hb e=>kk b o (by simpa using hb) e) f0 f1 f3 f4 f5⟩
 self:=fun A i s Q E st h=>hself A i s Q E st.2 h
section
variable{X:Cx}{a b c e:J0}{es:List J0}{te ta tb:TEd}{t:TAd}{pos:Pos}{tg iter:J0}
noncomputable def i8(x:Str):List D:=x.cps.toList.map fun c=>.str ⟨#[c]⟩
theorem rW{aa:List (F5×Obj)}{σ:St}{H:Hp}{s:u8}{x:Str}{t:Tok}{R:It->Hp->Prop}(I:Inv X aa σ H s) (ty:String) (hn:["enumerate","zip","dict_itemiterator","dict_reverseitemiterator","odict_iterator","itertools.zip_longest","itertools.pairwise"].contains ty=false)
  (W:∀A:L8,A.handled=none->Walks X.prog X.w A s.heap.objs.size [s.heap.objs.size] [s.heap.objs.size] x.cps.size (SignAt x) (fun i h=>h.IsStrIter s.heap.objs.size ty x t i))
  (hself:∀(A:L8) (i:Nat) (s':u8) (Q:s0->u8->Prop) (E:s0->u8->Prop),s'.heap.IsStrIter s.heap.objs.size ty x t i->Q (.ref s.heap.objs.size) s'->J5 (J9 X.prog X.w) A (pyIter (.ref s.heap.objs.size)) Q E s')
  (q:R (ItW x.cps.size fun i v=>∃c,x.cps[i]?=some c/\v=.str ⟨#[c]⟩) H):PIE X aa σ tg R (.ref s.heap.objs.size) { s with heap:=s.heap.push { cls:=.type ty,data:=.fields #[.str x t,.int 0 0] } }:=by
 have I1:Inv X aa σ H { s with heap:=s.heap.push { cls:=.type ty,data:=.fields #[.str x t,.int 0 0] } }:=I.kept (t':=s.toks) fun b o e=>E8 _ e;refine⟨s.heap.objs.size,[s.heap.objs.size],_,_,H,rfl,I1,tP W (fun i h st=>?_) hn (fun i u ⟨c,t',e,ev⟩=>⟨.str ⟨#[c]⟩,⟨t',ev⟩,c,e,rfl⟩) hself,⟨R1 _,_,H0 _ rfl,rfl,rfl⟩,fun b hb=>?_,q⟩
 ·obtain⟨o,e,c,d⟩:=st;exact⟨o,e,c,_,d⟩
 ·have e:b=s.heap.objs.size:=by simpa using hb
  subst e;exact I.fpOk (F3 _) (I.hok.fresh (F3 _))
end
section
variable{X:Cx}{a b c e:J0}{es:List J0}{te ta tb:TEd}{t:TAd}{pos:Pos}
def eqF(x y:D):Option D:=if dLe x 60=true/\dLe y 60=true then some (.bl (eqD x y))else none
theorem vd{x y z:D}(h:eqF x y=some z):dLe x 60=true/\dLe y 60=true/\z=.bl (eqD x y):=by
 unfold eqF at h
 by_cases hc:dLe x 60=true/\dLe y 60=true
 ·rw[if_pos hc]at h;cases h;exact⟨hc.1,hc.2,rfl⟩
 ·rw[if_neg hc]at h;cases h
theorem gq(hu:X.A.units+64<V6):bM X (L3 .Eq) eqF:=by
 intro aa s σ H M x y v u dx dy dz Q I hr rx ry r1 r2 e k;obtain⟨h1,h2,rfl⟩:=vd e;exact(qM I 60 (A:=X.A) (by lia) h1 h2 r1 r2 rx ry).2.1 X.prog X.w X.xe _ ⟨.bl (eqD dx dy),H,I,rfl,k _ H (Ext.refl _ _) hr (by simp[Rep])⟩
def inD(neg:Bool) (x y:D):Option D:=match y with
 |.lst ds=>if aY x=true/\ds.all aY=true then some (.bl (xor neg (ds.any fun d=>eqD d x)))else none
 |.tup ds=>if aY x=true/\ds.all aY=true then some (.bl (xor neg (ds.any fun d=>eqD d x)))else none
 |_=>none
theorem As{K:o0}{M:DH}{H:Hp}{d:D}{v:V}(h:aY d=true) (r:Rep K M H d v):v=toV d/\fD v=true:=by
 cases d<;>first|(simp only[Rep]at r;subst r;exact⟨rfl,rfl⟩)|cases h
theorem yn{x y:D}(hx:aY x=true) (hy:aY y=true):eqV (toV x) (toV y)=eqD x y:=by
 cases x<;>cases y<;>first|(simp[aY]at hx;done)|(simp[aY]at hy;done)|(simp[toV,eqV,eqD];done)
theorem fm{K:o0}{M:DH}{H:Hp}{x:D}(hx:aY x=true):∀{ds:List D}{vs:List V},ak K M H ds vs->ds.all aY=true->vs.all fD=true/\inV (toV x) vs=ds.any fun d=>eqD d x
 |[],_,h,_=>by simp only[ak]at h;subst h;simp[inV]
 |d::ds,_,h,ha=>by
  simp only[ak]at h;obtain⟨v,ws,rfl,h3,h4⟩:=h;rw[T9,J8]at ha;obtain⟨e1,e2⟩:=As ha.1 h3;obtain⟨e3,e4⟩:=fm hx h4 ha.2;subst e1;refine⟨by rw[T9,e2,e3];rfl,?_⟩;unfold inV at e4 ⊢;rw[O1,O1,e4,yn ha.1 hx]
theorem aK.scal{K:o0}{M:DH}{H:Hp}{d:D}{v:V}(h:aY d=true) (r:aK K M H d v):v=toV d/\fD v=true:=by
 cases d<;>first|(simp only[aK,Rep]at r;subst r;exact⟨rfl,rfl⟩)|cases h
theorem EE:bM X (L3 .In) (inD false):=bM.of t6 fun H M x y dx dy dz Q hr r1 r2 e q=>by
 cases dy with
 |lst ds =>
  simp only[inD]at e
  by_cases hc:aY dx=true/\ds.all aY=true
  ·rw[if_pos hc]at e;cases e;obtain⟨l,vs,rfl,sq,rl⟩:=r2;obtain⟨e1,e2⟩:=aK.scal hc.1 r1;obtain⟨e3,e4⟩:=fm hc.1 rl hc.2;subst e1;refine⟨l,vs,rfl,.inl (SqL.of sq),e2,e3,q _ H (Ext.refl _ _) hr ?_⟩;rw[e4];simp[Rep]
  ·rw[if_neg hc]at e;cases e
 |tup ds =>
  simp only[inD]at e
  by_cases hc:aY dx=true/\ds.all aY=true
  ·rw[if_pos hc]at e;cases e;obtain⟨l,vs,rfl,sq,rl⟩:=r2;obtain⟨e1,e2⟩:=aK.scal hc.1 r1;obtain⟨e3,e4⟩:=fm hc.1 rl hc.2;subst e1;refine⟨l,vs,rfl,.inr sq,e2,e3,q _ H (Ext.refl _ _) hr ?_⟩;rw[e4];simp[Rep]
  ·rw[if_neg hc]at e;cases e
 |_=>cases e
theorem yf:bM X (L3 .NotIn) (inD true):=bM.of mW fun H M x y dx dy dz Q hr r1 r2 e q=>by
 cases dy with
 |lst ds =>
  simp only[inD]at e
  by_cases hc:aY dx=true/\ds.all aY=true
  ·rw[if_pos hc]at e;cases e;obtain⟨l,vs,rfl,sq,rl⟩:=r2;obtain⟨e1,e2⟩:=aK.scal hc.1 r1;obtain⟨e3,e4⟩:=fm hc.1 rl hc.2;subst e1;refine⟨l,vs,rfl,.inl (SqL.of sq),e2,e3,q _ H (Ext.refl _ _) hr ?_⟩;rw[e4];simp[Rep]
  ·rw[if_neg hc]at e;cases e
 |tup ds =>
  simp only[inD]at e
  by_cases hc:aY dx=true/\ds.all aY=true
  ·rw[if_pos hc]at e;cases e;obtain⟨l,vs,rfl,sq,rl⟩:=r2;obtain⟨e1,e2⟩:=aK.scal hc.1 r1;obtain⟨e3,e4⟩:=fm hc.1 rl hc.2;subst e1;refine⟨l,vs,rfl,.inr sq,e2,e3,q _ H (Ext.refl _ _) hr ?_⟩;rw[e4];simp[Rep]
  ·rw[if_neg hc]at e;cases e
 |_=>cases e
def mY(f:D->Option D):List D->Option D
 |[d]=>f d
 |_=>none
theorem lw{K:o0}{M:DH}{H:Hp}{d:D}{xs:List V}(h:O4 (aK K M H) [d] xs):∃v,xs=[v]/\aK K M H d v:=by
 cases h with
 |cons r t=>cases t;exact⟨_,rfl,r⟩
theorem cu{f:D->Option D}{ds:List D}{z:D}(h:mY f ds=some z):∃d,ds=[d]/\f d=some z:=by
 match ds,h with
 |[d],h=>exact⟨d,rfl,h⟩
noncomputable def tW:D->Option D
 |.tup ds=>some (.int ds.length)
 |.lst ds=>some (.int ds.length)
 |.scr ds=>some (.int ds.length)
 |.str x=>if x.length<=E9 then some (.int x.length)else none
 |_=>none
theorem bY:ba X (.builtin "len") (mY tW):=ba.of (cb.or ni nV) fun H M xs ds dz Q hr rp e q=>by
 obtain⟨d,rfl,e0⟩:=cu e;clear e;have e:=e0;clear e0;obtain⟨v,rfl,r⟩:=lw rp;cases d with
 |tup ds=>cases e;obtain⟨l,vs,rfl,sq,rl⟩:=r;exact .inl ⟨l,vs,rfl,.inr sq,q _ H (Ext.refl _ _) hr (by rw[<-rl.length];simp[Rep])⟩
 |lst ds=>cases e;obtain⟨l,vs,rfl,sq,rl⟩:=r;exact .inl ⟨l,vs,rfl,.inl (SqL.of sq),q _ H (Ext.refl _ _) hr (by rw[<-rl.length];simp[Rep])⟩
 |scr ds=>cases e;obtain⟨l,vs,rfl,sq,rl⟩:=r;exact .inl ⟨l,vs,rfl,.inl sq,q _ H (Ext.refl _ _) hr (by rw[<-rl.length];simp[Rep])⟩
 |str x =>
  simp only[tW]at e
  by_cases hz:x.length<=E9
  ·rw[if_pos hz]at e;cases e;exact .inr ⟨x,by rw[lI r],hz,q _ H (Ext.refl _ _) hr (by simp[Rep])⟩
  ·rw[if_neg hz]at e;cases e
 |_=>cases e
def DK:D->Option D
 |.int i=>some (.int (if i<0 then -i else i))
 |_=>none
theorem Df:ba X (.builtin "abs") (mY DK):=ba.of wY fun H M xs ds dz Q hr rp e q=>by
 obtain⟨d,rfl,e0⟩:=cu e;clear e;have e:=e0;clear e0;obtain⟨v,rfl,r⟩:=lw rp;cases d with
 |int i=>cases e;exact⟨i,by rw[di r],q _ H (Ext.refl _ _) hr (by simp[Rep])⟩
 |_=>cases e
def BV:D->Option D
 |.lst ds=>some (.tup ds)
 |.tup ds=>some (.tup ds)
 |_=>none
theorem ig:ba X (.type "tuple") (mY BV):=ba.of lN fun H M xs ds dz Q hr rp e q=>by
 obtain⟨d,rfl,e0⟩:=cu e;clear e;have e:=e0;clear e0;obtain⟨v,rfl,r⟩:=lw rp;cases d with
 |lst ds=>cases e;obtain⟨l,vs,rfl,sq,rl⟩:=r;exact⟨l,vs,rfl,.inl ⟨SqL.of sq,fun p hp=>j7 hr hp rl q⟩⟩
 |tup ds=>cases e;have t1:=aK.tup hr r;obtain⟨l,vs,rfl,sq,rl⟩:=r;exact⟨l,vs,rfl,.inr ⟨sq,q _ H (Ext.refl _ _) hr t1⟩⟩
 |_=>cases e
def Ed:D->Option D
 |.lst ds=>some (.lst ds)
 |.scr ds=>some (.lst ds)
 |.tup ds=>some (.lst ds)
 |_=>none
theorem AC:ba X (.type "list") (mY Ed):=ba.of n4 fun H M xs ds dz Q hr rp e q=>by
 obtain⟨d,rfl,e0⟩:=cu e;clear e;have e:=e0;clear e0;obtain⟨v,rfl,r⟩:=lw rp;cases d with
 |lst ds=>cases e;obtain⟨l,vs,rfl,sq,rl⟩:=r;exact⟨l,vs,rfl,.inl (SqL.of sq),fun p hp=>dP hr hp rl q⟩
 |scr ds=>cases e;obtain⟨l,vs,rfl,sq,rl⟩:=r;exact⟨l,vs,rfl,.inl sq,fun p hp=>dP hr hp rl q⟩
 |tup ds=>cases e;obtain⟨l,vs,rfl,sq,rl⟩:=r;exact⟨l,vs,rfl,.inr sq,fun p hp=>dP hr hp rl q⟩
 |_=>cases e
def vm:D->Bool
 |.bl _=>true
 |_=>false
def tG:D->Bool
 |.bl b=>b
 |_=>false
def vB:D->Option D
 |.lst ds=>if ds.all vm=true then some (.bl (ds.all tG))else none
 |_=>none
theorem sW{p:Nat->Bool}{q:D->Bool}:∀{ds:List D},(∀i d,ds[i]?=some d->p i=q d)->(V3 ds.length).all p=ds.all q:=by
 intro ds h;rw[Bool.eq_iff_iff,O8,O8];constructor
 ·intro hh d hd;obtain⟨i,hi,e⟩:=List.mem_iff_getElem.mp hd;rw[<-h i d (by rw[List.getElem?_eq_getElem hi,e])];exact hh i (List.mem_range.mpr hi)
 ·intro hh i hi;have hi:=List.mem_range.mp hi;rw[h i ds[i] (by simp[hi])];exact hh _ (List.getElem_mem hi)
theorem wF{K:o0}{M:DH}{H:Hp}{ds:List D}{vs:List V}{us:List s0}(rl:ak K M H ds vs) (rv:av vs us) (hb:ds.all vm=true) {i:Nat}{u:s0}(h:us[i]?=some u):∃d,ds[i]?=some d/\u=.bool (tG d):=by
 have hi:i<ds.length:=by rw[rl.length,rv.length];exact(M7.mp h).1
 obtain⟨v,g,r⟩:=rl.get (i:=i) (d:=ds[i]) (by simp[hi]);obtain⟨u',g',r'⟩:=rv.get g;rw[h]at g';cases g';have hbi:=O8.mp hb ds[i] (List.getElem_mem hi);refine⟨ds[i],by simp[hi],?_⟩;cases q:ds[i]with
 |bl b=>rw[q]at r;simp only[Rep]at r;subst r;exact r'
 |_=>rw[q]at hbi;cases hbi
theorem oX(hc:X.calm=true):ba X (.builtin "all") (mY vB):=by
 intro aa s σ H M xs us ds dz Q I hr rv rp e k;obtain⟨d,rfl,e0⟩:=cu e;clear e;have e:=e0;clear e0;obtain⟨v,rfl,r⟩:=lw rp;obtain⟨u,rfl,ru⟩:=av.one rv;cases d with
 |lst ds =>
  simp only[vB]at e
  by_cases hb:ds.all vm=true
  ·rw[if_pos hb]at e;cases e;obtain⟨l,vs,rfl,sq,rl⟩:=r;cases ru;obtain⟨its,rv,pl,hz⟩:=I.list (SqL.of sq);have hne:l≠s.heap.objs.size:=F7 (I.hok.lt sq);refine call_all_walk (wpAny_pyIter_list pl.isList ⟨s.heap.objs.size,[s.heap.objs.size,l],[s.heap.objs.size],its.toArray.size,_,_,fun i=>(ds[i]?.map tG).getD false,rfl,Walks.list (A:=X.A.in1) (show X.A.in1.handled=none from I.ok.hd hc) s.heap.objs.size l hne its.toArray,⟨⟨_,H0 _ rfl,rfl,rfl⟩,?_⟩,fun i v s' Q' E' hv q=>?_,fun h' tk kk=>?_⟩)
   ·obtain⟨o,e,c⟩:=pl.isList;exact⟨o,E8 _ e,c⟩
   ·obtain⟨d,hd,rfl⟩:=wF rl rv hb (i:=i) (u:=v) (by simpa using hv);dsimp only at q;rw[hd]at q;exact P6 q
   ·have I1:Inv X aa σ H { s with heap:=h',toks:=tk }:=I.kept (t':=tk) fun b o e=>kk b o (by simpa using F7 (F2 e)) (E8 _ e);refine⟨.bl _,H,I1,rfl,k _ H (Ext.refl _ _) hr ?_⟩;rw[F1,<-rv.length,<-rl.length,sW (q:=tG) (fun i d hd=>by simp[hd])];simp[Rep]
  ·rw[if_neg hb]at e;cases e
 |_=>cases e
end
section
variable{X:Cx}{a b c e:J0}{es:List J0}{te ta tb:TEd}{t:TAd}{pos:Pos}
noncomputable def yT(T:String):D->Option Bool
 |.non=>some false
 |.bl _=>some (T=="bool" || T=="int")
 |.int _=>some (T=="int")
 |.str _=>some (T=="str")
 |.tup _=>some (T=="tuple")
 |.lst _=>some (T=="list")
 |.emp=>some (T=="dict")
 |_=>none
def okT(T:String):Bool:=T=="bool" || T=="int" || T=="str" || T=="tuple" || T=="list"
def CV(T:String) (te:TEd):TEd:=fun Δ M Q=>te Δ M fun d M1=>∃k,yT T (rdM M1 d)=some k/\Q (.bl k) M1
theorem tJ{T:String}(hT:okT T=true) {aa:List (F5×Obj)}{s:u8}{σ:St}{H:Hp}{M:DH}{v:V}{u:s0}{d:D}{k:Bool}{Q:VK}(I:Inv X aa σ H s) (r:aA v u) (rd:aK X.K M H d v) (e:yT T d=some k) (q:Q (.bl k) H) :
  J5 (J9 X.prog X.w) X.A (call (.builtin "isinstance") [u,.type T]) (EP X aa σ Q) X.xe s:=by
 have fin:∀{k'} ,k=k'->EP X aa σ Q (.bool k') s:=fun e=>by subst e;exact⟨.bl k,H,I,rfl,q⟩
 have fint:∀{k'} ,k=k'->EP X aa σ Q (.bool k') { s with toks:=s.toks+1 }:=fun e=>by subst e;exact⟨.bl k,H,I.tok _,rfl,q⟩
 have h5:T="bool"∨T="int"∨T="str"∨T="tuple"∨T="list":=by
  simp[okT]at hT;rcases hT with(((h|h)|h)|h)|h<;>simp[h]
 cases d with
 |non =>
  simp only[aK,Rep]at rd;subst rd;simp only[aA]at r;subst r;cases e;rcases h5 with rfl|rfl|rfl|rfl|rfl
  ·exact IsiPair.NoneType_bool (fint rfl)
  ·exact IsiPair.NoneType_int (fint rfl)
  ·exact IsiPair.NoneType_str (fint rfl)
  ·exact IsiPair.NoneType_tuple (fint rfl)
  ·exact IsiPair.NoneType_list (fint rfl)
 |bl b =>
  simp only[aK,Rep]at rd;subst rd;simp only[aA]at r;subst r;cases e;rcases h5 with rfl|rfl|rfl|rfl|rfl
  ·exact IsiPair.bool_bool (fin rfl)
  ·exact IsiPair.bool_int (fin rfl)
  ·exact IsiPair.bool_str (fint rfl)
  ·exact IsiPair.bool_tuple (fint rfl)
  ·exact IsiPair.bool_list (fint rfl)
 |int i =>
  simp only[aK,Rep]at rd;subst rd;obtain⟨t,rfl⟩:=r;cases e;rcases h5 with rfl|rfl|rfl|rfl|rfl
  ·exact IsiPair.int_bool (fint rfl)
  ·exact IsiPair.int_int (fin rfl)
  ·exact IsiPair.int_str (fint rfl)
  ·exact IsiPair.int_tuple (fint rfl)
  ·exact IsiPair.int_list (fint rfl)
 |str x =>
  simp only[aK,Rep]at rd;subst rd;obtain⟨t,rfl⟩:=r;cases e;rcases h5 with rfl|rfl|rfl|rfl|rfl
  ·exact IsiPair.str_bool (fint rfl)
  ·exact IsiPair.str_int (fint rfl)
  ·exact IsiPair.str_str (fin rfl)
  ·exact IsiPair.str_tuple (fint rfl)
  ·exact IsiPair.str_list (fint rfl)
 |tup ds =>
  obtain⟨a,vs,rfl,sq,rl⟩:=rd;cases r;cases e;obtain⟨its,rv,⟨o,ho,hc,_⟩,_⟩:=I.tuple sq;rcases h5 with rfl|rfl|rfl|rfl|rfl
  ·exact IsiPair.tuple_bool ho hc (fint rfl)
  ·exact IsiPair.tuple_int ho hc (fint rfl)
  ·exact IsiPair.tuple_str ho hc (fint rfl)
  ·exact IsiPair.tuple_tuple ho hc (fin rfl)
  ·exact IsiPair.tuple_list ho hc (fint rfl)
 |lst ds =>
  obtain⟨a,vs,rfl,sq,rl⟩:=rd;cases r;cases e;obtain⟨its,rv,⟨o,n,ho,hc,_⟩,_⟩:=I.list (SqL.of sq);rcases h5 with rfl|rfl|rfl|rfl|rfl
  ·exact IsiPair.list_bool ho hc (fint rfl)
  ·exact IsiPair.list_int ho hc (fint rfl)
  ·exact IsiPair.list_str ho hc (fint rfl)
  ·exact IsiPair.list_tuple ho hc (fint rfl)
  ·exact IsiPair.list_list ho hc (fin rfl)
 |emp =>
  simp only[aK,Rep]at rd;obtain⟨a,rfl,h1,_⟩:=rd;cases r;cases e;obtain⟨_,_,_,_,o,es,ep,ho,ex,_⟩:=I.hok a _ h1;rcases h5 with rfl|rfl|rfl|rfl|rfl
  ·exact IsiPair.dict_bool ho ex.1 (fint rfl)
  ·exact IsiPair.dict_int ho ex.1 (fint rfl)
  ·exact IsiPair.dict_str ho ex.1 (fint rfl)
  ·exact IsiPair.dict_tuple ho ex.1 (fint rfl)
  ·exact IsiPair.dict_list ho ex.1 (fint rfl)
 |_=>cases e
abbrev TOd:=DE->DH->(Option Int->DH->Prop)->Prop
def upO(K:o0) (t:TOd):TO:=fun σ H Q=>∃(Δ:DE) (M:DH) (R:Option Int->DH->Prop),SR K M H σ Δ/\HR K M H/\t Δ M R/\∀i M' H',R i M'->Ext M H M' H'->HR K M' H'->Q i H'
theorem upO.el{K:o0}{t:TOd}{σ:St}{H:Hp}{Q:Option Int->Hp->Prop}{P:Prop}(h:upO K t σ H Q) (f:∀(Δ:DE) (M:DH) (R:Option Int->DH->Prop),SR K M H σ Δ->HR K M H->t Δ M R->(∀i M' H',R i M'->Ext M H M' H'->HR K M' H'->Q i H')->P):P:=by
 obtain⟨x1,x2,x3,a,b,c,d⟩:=h;exact f x1 x2 x3 a b c d
def POd(X:Cx) (e:Option J0) (t:TOd):Prop:=PO X e (upO X.K t)
def nK:TOd:=fun _ M Q=>Q none M
def wV(t:TEd):TOd:=fun Δ M Q=>t Δ M fun d M1=>∃i,d=.int i/\Q (some i) M1
theorem PO.conv{e:Option J0}{t t':TO}(h:PO X e t) (k:∀ σ H Q,t' σ H Q->t σ H Q):PO X e t':=fun p s σ H Q I q=>h p s σ H Q I (k σ H Q q)
theorem xj:POd X none nK:=yr.conv fun σ H Q hup=>hup.el fun Δ M R sr hr q k=>k none M H q (Ext.refl _ _) hr
theorem xG(h:PEd X e te):POd X (some e) (wV te):=(xw h).conv fun σ H Q hup=>hup.el fun Δ M R sr hr q k=>⟨Δ,M,_,sr,hr,q,fun d M1 v H1 ⟨i,ed,q1⟩ e1 hr1 rv=>⟨i,by subst ed;simpa only[Rep]using rv,k _ M1 H1 q1 e1 hr1⟩⟩
def dS(xs:List D) (lo hi:Option Int):List D:=(xs.drop (HT.sIx xs.length 0 lo)).take (HT.sIx xs.length xs.length hi-HT.sIx xs.length 0 lo)
def slD:D->Option Int->Option Int->Option D
 |.lst ds,lo,hi=>some (.lst (dS ds lo hi))
 |.scr ds,lo,hi=>some (.lst (dS ds lo hi))
 |.str x,lo,hi=>if x.length<=E9 then some (.str (X5 x lo hi))else none
 |.tup ds,lo,hi=>if HT.sIx ds.length 0 lo=0/\HT.sIx ds.length ds.length hi=ds.length then none else some (.tup (dS ds lo hi))
 |_,_,_=>none
def ED:V->Option Int->Option Int->Hp->VK->Prop:=fun x lo hi H Q=>∃z,x=.str z/\z.length<=E9/\Q (.str (X5 z lo hi)) H
theorem A4:SlR X ED:=by
 intro aa s σ H x v vl vu lo hi sl Q I rx hs pl pu h;obtain⟨z,rfl,hz,q⟩:=h;obtain⟨t,rfl⟩:=rx;refine⟨"str",_,PySem.F.slot_str_getitem.lookup,typeIs_str _ _ _,?_⟩;have fin:∀(t':Tok) (k:Nat),EP X aa σ Q (.str (X5 z lo hi) t') { s with toks:=k }:=fun t' k=>⟨.str (X5 z lo hi),H,I.tok _,⟨t',rfl⟩,q⟩;cases pl with
 |none =>
  cases pu with
  |none=>exact R3 (l:=none) (u:=none) (st:=none) hs rfl (W0 ⟨K0 (X6 z _ _) hz,fin⟩)
  |int j tj=>exact R3 (l:=none) (u:=some (j,tj)) (st:=none) hs rfl (W0 ⟨K0 (X6 z _ _) hz,fin⟩)
 |int i ti =>
  cases pu with
  |none=>exact R3 (l:=some (i,ti)) (u:=none) (st:=none) hs rfl (W0 ⟨K0 (X6 z _ _) hz,fin⟩)
  |int j tj=>exact R3 (l:=some (i,ti)) (u:=some (j,tj)) (st:=none) hs rfl (W0 ⟨K0 (X6 z _ _) hz,fin⟩)
end
def bC(names:List (Str×J3)) (cells:List (Str×F5)):List (Str×F5):=(names.filterMap fun y=>if y.2==.free then(cells.lookup y.1).map fun c=>(y.1,c)else none).reverse
noncomputable def eA(env:Env) (y:Str×J3) (cs:List (Str×F5)):Sem (ForInStep (List (Str×F5))):=if(y.2==.free)=true then(do let c <-cellOf env y.1;U9 (N2 ((y.1,c)::cs)))else U9 (N2 cs)
theorem iE{env:Env}:∀(names:List (Str×J3)) (acc:List (Str×F5)),(∀y∈names,y.2=.free->(env.cells.lookup y.1).isSome=true) ->
  (forIn names acc (eA env):Sem (List (Str×F5)))=U9 (bC names env.cells++acc)
 |[],acc,_=>by simp[bC]
 |y::r,acc,h=>by
  rw[List.forIn_cons]
  by_cases hk:(y.2==K1)=true
  ·have hs:=h y L5 (by simpa using hk);obtain⟨c,hc⟩:=N0.mp hs;have e1:eA env y acc=U9 (N2 ((y.1,c)::acc)):=by
    unfold eA cellOf;rw[if_pos hk,hc];simp only[aa9]
   rw[e1];simp only[aa9];rw[iE r ((y.1,c)::acc) fun y hy=>h y (K5 _ hy)];have e2:bC (y::r) env.cells=bC r env.cells++[(y.1,c)]:=by
    unfold bC;rw[Q6,if_pos hk,hc];simp
   rw[e2];simp
  ·have e1:eA env y acc=U9 (N2 acc):=by
    unfold eA;rw[if_neg hk]
   rw[e1];simp only[aa9];rw[iE r acc fun y hy=>h y (K5 _ hy)];have e2:bC (y::r) env.cells=bC r env.cells:=by
    unfold bC;rw[Q6,if_neg hk]
   rw[e2]
theorem nv{scope:O9}{env:Env}(h:∀y∈scope.names,y.2=.free->(env.cells.lookup y.1).isSome=true):closureFor scope env=U9 (bC scope.names env.cells):=by
 have:=iE (env:=env) scope.names [] h;simp only[V7]at this;show(forIn scope.names [] (eA env) >>= fun cs=>U9 cs)=_;rw[this];simp only[aa9]
theorem ke{cells:List (Str×F5)}{names:List (Str×J3)}{x:Str}{c:F5}(h:(bC names cells).lookup x=some c):cells.lookup x=some c:=by
 have hm:=J6 h;unfold bC at hm;rw[List.mem_reverse,R6]at hm;obtain⟨y,_,e⟩:=hm
 split at e
 ·cases q:cells.lookup y.1 with
  |none=>rw[q]at e;cases e
  |some c'=>rw[q]at e;cases e;exact q
 ·cases e
theorem dj:∀{l:List (Str×F5)}{x:Str}{c:F5},(x,c)∈l->∃c',l.lookup x=some c'
 |(y,d)::l,x,c,h=>by
  rw[J1];cases q:x==y with
  |true=>exact⟨d,by simp⟩
  |false =>
   rcases P0.mp h with e|h
   ·cases e;simp at q
   ·simpa using dj h
theorem jM{cells:List (Str×F5)}{names:List (Str×J3)}{x:Str}(h:names.lookup x=some .free) (hs:(cells.lookup x).isSome=true):∃c,(bC names cells).lookup x=some c:=by
 obtain⟨c,hc⟩:=N0.mp hs;refine dj (c:=c) ?_;unfold bC;rw[List.mem_reverse,R6];exact⟨(x,.free),J6 h,by simp[hc]⟩
noncomputable def aO(fs:O9) (N:List Str) (scope:O9) (ms:List Bool):Bool :=
 scope.kind==.function&&scope.names.all (fun y=>y.2 != .cell)&&scope.names.all (fun y=>y.2 != .local || scope.names.lookup y.1==some .local) &&
 scope.names.all (fun y=>y.2 != .free || fs.names.lookup y.1==some .cell)&&(ms.zip N).all (fun y=>!y.1 || scope.names.lookup y.2==some .free)&&decide (ms.length<=N.length)
theorem aG{X:Cx}{scope:O9}{ms:List Bool}{ag:List Str}{n0:Nat}(hX:X.env.cells=N6 n0 X.env.scope.names []) (c:aO X.env.scope X.N scope ms=true):cy X scope (bC scope.names X.env.cells) ms ag:=by
 unfold aO at c;simp only[J8,O8,decide_eq_true_eq]at c;obtain⟨⟨⟨⟨⟨c1,c2⟩,c3⟩,c4⟩,c5⟩,c6⟩:=c;have fr:∀x,(x,K1)∈scope.names->X.env.scope.names.lookup x=some .cell:=fun x hx=>by
  have:=c4 _ hx;simpa using this
 have cs:∀x,(x,K1)∈scope.names->(X.env.cells.lookup x).isSome=true:=fun x hx=>by
  rw[hX];exact M0 _ _ _ (.inl (fr x hx))
 refine⟨by simpa using c1,fun y hy e=>?_,fun y hy e=>?_,nv fun y hy e=>?_,fun x c h=>ke h,fun x h=>jM h (cs x (J6 h)),fun x h=>.inl (fr x (J6 h)),fun i x h1 h2=>?_,c6⟩
 ·have:=c2 y hy;rw[e]at this;simp at this
 ·have:=c3 y hy;simpa[e]using this
 ·obtain⟨a,b⟩:=y;cases e;exact cs a hy
 ·have:=c5 (true,x) (by
   rw[List.mem_iff_getElem?];exact⟨i,by rw[List.getElem?_zip_eq_some];exact⟨h1,h2⟩⟩)
  simpa using this
structure FnD(P:K2) (w:N4) (K:o0) (mg:Str->Option s0) (base:K3) (x:Str) (k n:Nat) (S:SpD):Prop where
 ex:∃(f:F5) (fd:P3) (ps:List Str),bo P w K mg base CX0 k f fd ps (spD K n S)/\mg x=some (.ref f)/\S7 K (.ref f)=true/\cZ K fd ps []
section
variable{X:Cx}{e:J0}{es:List J0}{t:TAd}{pos p:Pos}{x:Str}{k n:Nat}{S:SpD}
theorem dc(F:FnD X.prog X.w X.K X.mg X.base x k n S) (hr:cj k X.A) (hg:Gl X x) (ha:PAd X (e::es) t) (hdb:(x==("__debug__":Str))=false:=by decide) (he:I0 (e::es) X.env=(false,U0 e X.env)::I0 es X.env:=by rfl) (hpl:(T4 pos (I0 es X.env)).any (·.1)=false:=by rfl) :
  PEd X (.Call (.Name x p) (e::es) [] pos) (pO n S t):=by
 obtain⟨f,fd,ps,h1,h2,h3,h4⟩:=F.ex;exact Ba h1 hr hg h2 h3 h4 ha hdb he hpl
end
section
variable{X:Cx}{a b c e:J0}{es:List J0}{te ta tb:TEd}{t:TAd}{pos:Pos}{tg iter:J0}
def zl(te:TEd):TSd:=fun E Δ M=>te Δ M fun d M1=>∃a ds,d=.ref a/\M1 a=some (.lst ds)/\E.rt (.lst ds) (eY M1 a)
theorem BO:bM X (aa5 .Add) (iOp fun i j=>some (.int (i+j))):=by
 intro aa s σ H M x y v u dx dy dz Q I hr rx ry r1 r2 e k;obtain⟨i,j,rfl,rfl,e'⟩:=kJ e;cases e';exact Bj aa s σ H x y v u Q I rx ry ⟨i,j,di r1,di r2,k _ H (Ext.refl _ _) hr (by simp[Rep])⟩
theorem AQ:Co X (unaryOp .USub) (fun d=>match d with|.int i=>some (.int (-i))|_=>none):=by
 intro aa s σ H M x v dx dz Q I hr rx r1 e k;cases dx with
 |int i=>cases e;exact A2 aa s σ H x v Q I rx ⟨i,di r1,k _ H (Ext.refl _ _) hr (by simp[Rep])⟩
 |_=>cases e
def gG:D->Option (List D)
 |.tup ds=>some ds
 |.lst ds=>some ds
 |.scr ds=>some ds
 |.str x=>if x.length<=E9 then some (i8 x)else none
 |_=>none
def zN(te:TEd):TId:=fun Δ M R=>te Δ M fun d M1=>∃ds,gG d=some ds/\(ds.length<=E9->R ds M1)
theorem p9{aa:List (F5×Obj)}{σ:St}{H:Hp}{s:u8}{o:Obj}(I:Inv X aa σ H s):∀b∈[s.heap.objs.size],cI X aa H b:=fun b hb=>by
 have e:b=s.heap.objs.size:=by simpa using hb
 subst e;exact I.fpOk (F3 _) (I.hok.fresh (F3 _))
theorem Ay{K:o0}{x:Str}{M1:DH}{H1:Hp}:ItD K (ItW x.cps.size fun i v=>∃c,x.cps[i]?=some c/\v=.str ⟨#[c]⟩) (i8 x) M1 H1:=fun M2 H2 e2 hr2 i=>⟨fun d hd=>by
  unfold i8 at hd;rw[N8]at hd;cases q:x.cps.toList[i]? with
  |none=>rw[q]at hd;cases hd
  |some c =>
   rw[q]at hd;cases hd;have hc:x.cps[i]?=some c:=by simpa using q
   refine⟨?_,fun y H' ⟨eH,c',hc',ey⟩=>?_⟩
   ·exact(Array.getElem?_eq_some_iff.mp hc).1
   ·subst eH;subst ey;rw[hc]at hc';cases hc';exact⟨Ext.refl _ _,hr2,by simp[Rep]⟩,fun hl=>by
  show x.cps.size<=i;simpa[i8]using hl⟩
end
section
variable{M:DH}
theorem yZ{i:Int}:rdM M (.int i)=.int i:=rfl
theorem B4{i:Bool}:rdM M (.bl i)=.bl i:=rfl
theorem yb{i:Str}:rdM M (.str i)=.str i:=rfl
theorem yQ:rdM M .non=.non:=rfl
theorem yz{i:List D}:rdM M (.tup i)=.tup i:=rfl
theorem xh{i:List D}:rdM M (.lst i)=.lst i:=rfl
theorem xU{i:List D}:rdM M (.scr i)=.scr i:=rfl
theorem m8{a:F5}{ds:List D}(h:M a=some (.lst ds)):rdM M (.ref a)=.lst ds:=by simp[rdM,h]
theorem xJ{a:F5}{ds:List D}:rdM (au M a (.lst ds)) (.ref a)=.lst ds:=m8 aq
theorem Bz{f:Int->Int->Option D}{a b:Int}:iOp f (.int a) (.int b)=f a b:=rfl
theorem yv{a b:Int}:oF (.int a) (.int b)=some (.int (a+b)):=rfl
theorem xr{a b:Str}:oF (.str a) (.str b)=if a.length+b.length<=E9 then some (.str (a++b))else none:=rfl
theorem xl{a b:List D}:oF (.lst a) (.lst b)=if a.length+b.length<=E9 then some (.lst (a++b))else none:=rfl
theorem xo{a b:List D}:oF (.tup a) (.tup b)=if a.length+b.length<=E9 then some (.tup (a++b))else none:=rfl
theorem Cd{a:List D}{b:Int}:ixD (.lst a) (.int b)=atI a b:=rfl
theorem D6{a:List D}{b:Int}:ixD (.scr a) (.int b)=atI a b:=rfl
theorem C5{a:List D}{b:Int}:ixD (.tup a) (.int b)=atI a b:=rfl
theorem Eh{z:Str}{i:Int}:ixD (.str z) (.int i)=if z.length<=E9 then(atI z.cps.toList i).map fun c=>.str ⟨#[c]⟩else none:=rfl
theorem CB{α:Type}{x:α}{xs:List α}:atI (x::xs) 0=some x:=cC (j:=0) rfl
theorem Ea{α:Type}{x y:α}{xs:List α}:atI (x::y::xs) 1=some y:=cC (j:=1) rfl
theorem Dq{α:Type}{x y z:α}{xs:List α}:atI (x::y::z::xs) 2=some z:=cC (j:=2) rfl
theorem vU{f:D->Option D}{d:D}:mY f [d]=f d:=rfl
theorem Ar{a:List D}:tW (.lst a)=some (.int a.length):=rfl
theorem Aj{a:List D}:tW (.tup a)=some (.int a.length):=rfl
theorem AY{a:List D}:tW (.scr a)=some (.int a.length):=rfl
theorem AM{x:Str}:tW (.str x)=if x.length<=E9 then some (.int x.length)else none:=rfl
theorem AF{i:Int}:DK (.int i)=some (.int (if i<0 then -i else i)):=rfl
theorem z5{a:List D}:BV (.lst a)=some (.tup a):=rfl
theorem BG{a:List D}:BV (.tup a)=some (.tup a):=rfl
theorem DO{b:Bool}{x:D}{ds:List D}:inD b x (.lst ds)=if aY x=true/\ds.all aY=true then some (.bl (xor b (ds.any fun d=>eqD d x)))else none:=rfl
theorem Di{b:Bool}{x:D}{ds:List D}:inD b x (.tup ds)=if aY x=true/\ds.all aY=true then some (.bl (xor b (ds.any fun d=>eqD d x)))else none:=rfl
theorem AN{a b:Int}:eqF (.int a) (.int b)=some (.bl (a==b)):=by simp[eqF,dLe,eqD]
theorem BA{a b:Str}:eqF (.str a) (.str b)=some (.bl (a==b)):=by simp[eqF,dLe,eqD]
theorem BJ{a b:Bool}:eqF (.bl a) (.bl b)=some (.bl (a==b)):=by simp[eqF,dLe,eqD]
theorem DP{ds:List D}{lo hi:Option Int}:slD (.scr ds) lo hi=some (.lst (dS ds lo hi)):=rfl
theorem Dy{ds:List D}{lo hi:Option Int}:slD (.lst ds) lo hi=some (.lst (dS ds lo hi)):=rfl
theorem DA{x:Str}{lo hi:Option Int}:slD (.str x) lo hi=if x.length<=E9 then some (.str (X5 x lo hi))else none:=rfl
theorem wH{a:List D}:gG (.lst a)=some a:=rfl
theorem vZ{a:List D}:gG (.tup a)=some a:=rfl
theorem vR{a:List D}:gG (.scr a)=some a:=rfl
theorem v8{x:Str}:gG (.str x)=if x.length<=E9 then some (i8 x)else none:=rfl
theorem DB{n:Nat}:ixN (n+1) 0=some 0:=by simp[ixN]<;>omega
theorem B8{n:Nat}:ixN (n+2) 1=some 1:=by simp[ixN]<;>omega
theorem CN{n:Nat}:ixN (n+3) 2=some 2:=by simp[ixN]<;>omega
theorem sz3(n:Nat) (h:n<=1000:=by decide):n<=E9:=K0 h (by decide)
theorem AK{b:Bool}:yT "bool" (.bl b)=some true:=rfl
end
end L2
namespace L2
theorem Cp{i j:Int}(h:-18446744073709551616<j/\j<18446744073709551616):iU i j=True:=by unfold iU;simp;right;assumption
theorem Dd{i j:Int}(h:-18446744073709551616<i/\i<18446744073709551616):iU i j=True:=by unfold iU;simp;left;assumption
theorem wA:oT 10 18=True:=by simp[oT]
theorem Cb{i j:Int}(h:0<j/\j<1073741824):jQ i j=True:=by unfold jQ;simp[h]
end L2
namespace L2
open PySem PySem.Spec PyProof.Rows
theorem xH{a b:Str}:eqD (.str a) (.str b)=(a==b):=by simp[eqD]
theorem iA{x:Str}:∀{ws:List Str},(ws.map D.str).any (fun d=>eqD d (.str x))=decide (x∈ws)
 |[]=>by simp
 |w::ws=>by
  rw[K7,O1,iA (ws:=ws),xH]
  by_cases h:w=x
  ·subst h;simp
  ·have h2:(w==x)=false:=by simpa using h
   have h3:¬ x=w:=fun e=>h e.symm;simp[h2,h3]
theorem jW{ws:List Str}:(ws.map D.str).all aY=true:=by
 induction ws with
 |nil=>rfl
 |cons w ws ih=>rw[K7,T9,ih];rfl
section
variable{X:Cx}{e:J0}{te:TEd}{pos:Pos}
def zV(te:TEd):TSd:=fun E Δ M=>te Δ M fun d M1=>∃M2,LeM M2 M1/\E.rt d M2
theorem eP{M:DH}{q:F5}{o:HD}(h:M q=none):LeM M (au M q o):=fun a u e=>by
 by_cases ha:a=q
 ·subst ha;rw[h]at e;cases e
 ·rw[aJ ha];exact e
end
end L2
namespace L2
open PySem PySem.Spec PyProof.Rows PySem.Builtin.Str
def tx(cs:List Nat):Str:=⟨cs.toArray⟩
theorem cw{α:Type} [DecidableEq α]:∀(V K:List α),V.Nodup->(∀x∈V,x∈K)->V.length<=K.length
 |[],_,_,_=>R1 _
 |x::V,K,hn,h=>by
  have hx:=h x L5;obtain⟨h1,h2⟩:=T7.mp hn;have:=cw V (K.erase x) h2 fun y hy=>(List.mem_erase_of_ne (by rintro rfl;exact h1 hy)).mpr (h y (K5 _ hy));rw[List.length_erase_of_mem hx]at this;have hp:0<K.length:=List.length_pos_of_mem hx;simp only[R4]
  lia
end L2
namespace L2
open PySem PySem.Spec PyProof.Rows
theorem lV{g:GD}{tb:TSd}{E:gb}{all:List D}(I:Nat->DE->DH->Prop)
  (step:∀(i:Nat) (d:D) (Δ:DE) (M:DH) (X:DE->DH->Prop),all[i]?=some d->I i Δ M->(∀ Δ' M',I (i+1) Δ' M'->X Δ' M')->∃ Δ',g d Δ=some Δ'/\tb { E with nx:=X,ct:=X,bk:=E.nx } Δ' M)
  (fin:∀ Δ M,I all.length Δ M->E.nx Δ M):∀(ds:List D) (i:Nat) (Δ:DE) (M:DH),all.drop i=ds->i<=all.length->I i Δ M->cx g tb E ds Δ M
 |[],i,Δ,M,e,hi,h=>by
  have:i=all.length:=by
   have:=congrArg W5 e;simp at this;lia
  subst this;simpa only[cx]using fin Δ M h
 |d::ds,i,Δ,M,e,hi,h=>by
  have hlt:i<all.length:=by
   have:=congrArg W5 e;simp at this;lia
  have hd:all[i]?=some d:=by
   have:=congrArg List.head? e;simpa using this
  have hn:all.drop (i+1)=ds:=by
   rw[<-List.tail_drop,e];rfl
  simp only[cx];exact step i d Δ M _ hd h fun Δ' M' h'=>lV I step fin ds (i+1) Δ' M' hn hlt h'
theorem aP{g:GD}{tb:TSd}{E:gb}{ds:List D}{Δ:DE}{M:DH}(I:Nat->DE->DH->Prop) (h0:I 0 Δ M)
  (step:∀(i:Nat) (d:D) (Δ:DE) (M:DH) (X:DE->DH->Prop),ds[i]?=some d->I i Δ M->(∀ Δ' M',I (i+1) Δ' M'->X Δ' M')->∃ Δ',g d Δ=some Δ'/\tb { E with nx:=X,ct:=X,bk:=E.nx } Δ' M)
  (fin:∀ Δ M,I ds.length Δ M->E.nx Δ M):cx g tb E ds Δ M:=lV I step fin ds 0 Δ M rfl (R1 _) h0
theorem pM{g:GD}{tc:TTd}{te:TEd}{all:List D}{Q:List D->DH->Prop}(I:Nat->List D->DE->DH->Prop)
  (step:∀ (i:Nat) (d:D) (acc:List D) (Δ:DE) (M:DH) (X:List D → DE → DH → Prop),all[i]? = some d → I i acc Δ M → (∀ acc' Δ' M',I (i + 1) acc' Δ' M' → X acc' Δ' M') →
   ∃ Δ',g d Δ=some Δ'/\tc Δ' M fun b M1=>if b=true then te Δ' M1 fun y M2=>X (acc++[y]) Δ' M2 else X acc Δ' M1)
  (fin:∀acc Δ M,I all.length acc Δ M->Q acc M):∀(ds:List D) (i:Nat) (acc:List D) (Δ:DE) (M:DH),all.drop i=ds->i<=all.length->I i acc Δ M->cG g tc te ds Δ M acc Q
 |[],i,acc,Δ,M,e,hi,h=>by
  have:i=all.length:=by
   have:=congrArg W5 e;simp at this;lia
  subst this;simpa only[cG]using fin acc Δ M h
 |d::ds,i,acc,Δ,M,e,hi,h=>by
  have hlt:i<all.length:=by
   have:=congrArg W5 e;simp at this;lia
  have hd:all[i]?=some d:=by
   have:=congrArg List.head? e;simpa using this
  have hn:all.drop (i+1)=ds:=by
   rw[<-List.tail_drop,e];rfl
  simp only[cG];exact step i d acc Δ M (fun acc' Δ' M'=>cG g tc te ds Δ' M' acc' Q) hd h fun acc' Δ' M' h'=>pM I step fin ds (i+1) acc' Δ' M' hn hlt h'
theorem kc{g:GD}{tc:TTd}{te:TEd}{ds:List D}{Δ:DE}{M:DH}{Q:List D->DH->Prop}(I:Nat->List D->DE->DH->Prop) (h0:I 0 [] Δ M)
  (step:∀ (i:Nat) (d:D) (acc:List D) (Δ:DE) (M:DH) (X:List D → DE → DH → Prop),ds[i]? = some d → I i acc Δ M → (∀ acc' Δ' M',I (i + 1) acc' Δ' M' → X acc' Δ' M') →
   ∃ Δ',g d Δ=some Δ'/\tc Δ' M fun b M1=>if b=true then te Δ' M1 fun y M2=>X (acc++[y]) Δ' M2 else X acc Δ' M1)
  (fin:∀acc Δ M,I ds.length acc Δ M->Q acc M):cG g tc te ds Δ M [] Q:=pM I step fin ds 0 [] Δ M rfl (R1 _) h0
theorem szB(n:Nat) (h:n<=16000000:=by decide):n<=E9:=K0 h (by decide)
theorem fT{α:Type}{f:α->D}{xs:List α}{i:Nat}{d:D}(h:(xs.map f)[i]?=some d):∃x,xs[i]?=some x/\d=f x:=by
 rw[N8]at h;cases e:xs[i]? with
 |none=>rw[e]at h;cases h
 |some x=>rw[e]at h;cases h;exact⟨x,rfl,rfl⟩
theorem pq{K:o0}{M:DH}{H:Hp}:∀ns:List Int,ak K M H (ns.map D.int) (ns.map V.int)
 |[]=>ak.nil
 |n::ns=>ak.cons (by simp[Rep]) (pq ns)
theorem tq{K:o0}{H:Hp}{a:F5}{ns:List Int}(hO:xN H) (hS:SqL K H a (ns.map V.int)):ak K noM H [.scr (ns.map D.int)] [.ref a]:=by
 refine ak.cons ?_ ak.nil;simp only[Rep];refine⟨a,ns.map V.int,rfl,?_,pq ns⟩;rcases hS with h|h
 ·left;rcases h with h|h
  ·rcases hO a with z|⟨o,xs,z⟩<;>(rw[h]at z;cases z)
  ·exact⟨h,rfl⟩
 ·right;exact .inr h
def CA(S:SpD):Prop:=∀(ns:List Int) (R:D->DH->Prop),ns.length<=63->(∀M',R (.bl true) M')->S [.scr (ns.map .int)] noM R
theorem C0{S:SpD}(hS:CA S) {k:Nat}{x:Str}{l:PySem.W.OpenLaw}{q:K2}{loose:List Str}{XP:(Str->Option s0)->K3->Prop}{YP:N4->K3->Prop}{d:DefRec}{K:Params->o0}(hr:cj k Z7) (hn:l.most=some 63) (hdf:d.params.defaults=[])
  (hY:∀(w:N4) (h:K3),YP w h->(K w.params).In h)
  (F:∀ (w:N4) (mg:Str → Option s0) (fa:F5) (h:K3),(K w.params).In h → h.Ns Q5 mg → mg d.name = some (.ref fa) →
   ∃fd:P3,(∀(s:u8) (u:s0),aa8 s fd ⟨[u],[]⟩ [(x,u)])/\∀base:K3,(K w.params).In base->base.Ns Q5 mg->bo l.prog w (K w.params) mg base CX0 k fa fd [x] (spD (K w.params) 1 S)) :
  PySem.W.WalkO q loose XP YP l.row.toRowW d [] (fun f vs=>PySem.call f vs) :=
 L2.rO (n:=63) (k:=k) (x:=x) (CX:=fun _=>CX0) (sp:=fun w=>spD (K w.params) 1 S) hn (by decide) hdf hr hY F
  (fun w H a ns hl hO hq=>⟨[.scr (ns.map .int)],noM,fun d _=>d=.bl true,rfl,tq hO hq,HR.nil,hS ns _ hl (fun _=>rfl),fun d M' v H' e _ _ rv=>by subst e;simpa only[Rep]using rv⟩) fun _ _ _ _ _ z=>z
section
variable{prog:K2}{w:N4}{A:L8}{E:s0->u8->Prop}{s:u8}
def qC(h:K3) (a l:F5) (i:Int):Prop:=∃o,h.get? a=some o/\o.cls=.type "reversed"/\o.data=.fields #[.ref l,rawInt i]
theorem qC.at{h h':K3}{a l:F5}{i:Int}(x:qC h a l i) (e:∀o,h.get? a=some o->h'.get? a=some o):qC h' a l i:=let⟨o,ho,r⟩:=x;⟨o,e _ ho,r⟩
end
section
variable{X:Cx}
def neF(x y:D):Option D:=if dLe x 60=true/\dLe y 60=true then some (.bl (!(eqD x y)))else none
theorem tU(hu:X.A.units+64<V6):bM X (L3 .NotEq) neF:=by
 intro aa s σ H M x y v u dx dy dz Q I hr rx ry r1 r2 e k;unfold neF at e
 by_cases hc:dLe dx 60=true/\dLe dy 60=true
 ·rw[if_pos hc]at e;cases e;exact(qM I 60 (A:=X.A) (by lia) hc.1 hc.2 r1 r2 rx ry).2.2 X.prog X.w X.xe _ ⟨.bl (!(eqD dx dy)),H,I,rfl,k _ H (Ext.refl _ _) hr (by simp[Rep])⟩
 ·rw[if_neg hc]at e;cases e
theorem lg{a b:Int}:neF (.int a) (.int b)=some (.bl (!(a==b))):=by simp[neF,dLe,eqD]
theorem AB{a b:Str}:neF (.str a) (.str b)=some (.bl (!(a==b))):=by simp[neF,dLe,eqD]
theorem Bg{a b:Bool}:neF (.bl a) (.bl b)=some (.bl (!(a==b))):=by simp[neF,dLe,eqD]
end
end L2
namespace HT
open PySem PyProof.Rows
section
variable{prog:K2}{w:N4}{A:L8}{E:s0->u8->Prop}{s:u8}
theorem lE{t:F5}{items:Array s0}{Q:Bool->u8->Prop}(ht:ab0 s.heap t items) (h:Q true s):J5 (J9 prog w) A (K4.Tuple.tupleIsExact (.ref t)) Q E s:=by
 unfold K4.Tuple.tupleIsExact;exact F0 (wpAny_typeOf ht.typeIs (F9 (by simpa using h)))
theorem getItem_tuple_whole{t sl:F5}{items:Array s0}{vl vu:s0}{lo hi:Option Int}{Q:s0->u8->Prop}(ht:ab0 s.heap t items) (hs:s.heap.IsSliceOf sl vl vu .none) (pl:aa0 vl lo) (pu:aa0 vu hi)
  (hw:sIx items.size 0 lo=0/\sIx items.size items.size hi=items.size) (h:Q (.ref t) s):J5 (J9 prog w) A (W6 (.ref t) (.ref sl)) Q E s:=by
 obtain⟨os,hos,hcs,hds⟩:=id hs;have hTs:s.TypeIs (.ref sl) "slice":=⟨os,hos,hcs⟩;unfold W6
 try with_reducible refine S1 ?_
 first|refine F0 (F9 ?_)|skip
 refine F0 (wpAny_sequenceKey ht.typeIs (by decide) ?_);refine F0 (wpAny_callSpecial?_slot (name:=Str.ofString "__getitem__") ht.typeIs K9
  (wpAny_call_entry K9 ht.typeIs entry_tuple_getitem ?_ (args_tuple_getitem _ _)))
 show J5 _ _ (K4.Tuple.tupleItemsOf (.ref t) >>= _) _ _ s;refine F0 (tupleItemsOf_ ht ?_);refine F0 (wpAny_typeOf hTs ?_);rw[if_pos (by decide)];refine F0 (dU hs pl pu ?_);show J5 _ _ (if(((sIx items.size 0 lo:Nat):Int)==0&&(1:Int)==1&&(sIx items.size items.size hi-sIx items.size 0 lo)==items.size)=true then _ else _) _ _ s;rw[if_pos (by rw[hw.1,hw.2];simp)];refine F0 (lE ht ?_);rw[if_pos rfl];refine F0 (wpAny_rule ?_)
 first
  |exact F9 ⟨_,rfl,F9 h⟩
  |exact F0 (F9 (F9 ⟨_,rfl,F9 h⟩))
end
end HT
namespace L2
open PySem PySem.Spec PyProof.Rows
section
variable{X:Cx}{a b c e:J0}{es:List J0}{te ta tb ts:TEd}{t:TAd}{pos:Pos}
def slE:D->Option Int->Option Int->Option D
 |.tup ds,lo,hi=>some (.tup (dS ds lo hi))
 |d,lo,hi=>slD d lo hi
def E2(K:o0):V->Option Int->Option Int->Hp->VK->Prop:=fun x lo hi H Q=>∃a xs,x=.ref a/\SqT K H a xs/\(HT.sIx xs.length 0 lo=0/\HT.sIx xs.length xs.length hi=xs.length)/\Q (.ref a) H
theorem wt:SlR X (E2 X.K):=by
 intro aa s σ H x v vl vu lo hi sl Q I rx hs pl pu h;obtain⟨a,xs,rfl,hx,hw,q⟩:=h;cases rx;obtain⟨its,r,ht,hz⟩:=I.tuple hx;have bH:its.toArray.size=xs.length:=by rw[F1];exact r.length.symm
 exact⟨"tuple",_,K9.lookup,ht.typeIs,HT.getItem_tuple_whole ht hs pl pu (by rw[bH];exact hw) ⟨.ref a,H,I,rfl,q⟩⟩
theorem qw{ds:List D}{lo hi:Option Int}(h:HT.sIx ds.length 0 lo=0/\HT.sIx ds.length ds.length hi=ds.length):dS ds lo hi=ds:=by
 unfold dS;rw[h.1,h.2];simp
def Dj(te:TEd) (tl th:TOd):TEd:=fun Δ M Q=>te Δ M fun x M1=>tl Δ M1 fun l M2=>th Δ M2 fun u M3=>∃z,slE (rdM M3 x) l u=some z/\Q z M3
theorem DI{ds:List D}{lo hi:Option Int}:slE (.tup ds) lo hi=some (.tup (dS ds lo hi)):=rfl
theorem DM{ds:List D}{lo hi:Option Int}:slE (.lst ds) lo hi=some (.lst (dS ds lo hi)):=rfl
theorem DL{ds:List D}{lo hi:Option Int}:slE (.scr ds) lo hi=some (.lst (dS ds lo hi)):=rfl
theorem CP{x:Str}{lo hi:Option Int}:slE (.str x) lo hi=if x.length<=E9 then some (.str (X5 x lo hi))else none:=rfl
theorem ak.reverse{K:o0}{M:DH}{H:Hp}:∀{ds:List D}{vs:List V},ak K M H ds vs->ak K M H ds.reverse vs.reverse
 |[],_,h=>by simp only[ak]at h;subst h;exact ak.nil
 |d::ds,_,h=>by
  simp only[ak]at h;obtain⟨v,ws,rfl,h1,h2⟩:=h;rw[U2,U2];exact(ak.reverse h2).append (ak.cons h1 ak.nil)
variable{scope:O9}{cl:List (Str×F5)}{ag:List Str}{tg:J0}
def yM(X:Cx) (scope:O9) (cl:List (Str×F5)) (ag:List Str) (tgs:List J0) (g:GDs):Prop:=∃gv:TGs,(∀C s H ex,PGs (ax X scope cl (X.N++ag) C s H ex) tgs gv)/\∀(ds:List D) (vs:List V) (σ:St) (Δ Δ':DE) (M:DH) (H:Hp) (Q:St->Hp->Prop),SR X.K M H σ Δ->HR X.K M H->ak X.K M H ds vs->g ds Δ=some Δ'->(∀ σ',SR X.K M H σ' Δ'->Q σ' H)->gv vs σ H Q
theorem iH:yM X scope cl ag [] ic:=⟨AJ,fun _ _ _ _=>rV,fun ds vs σ Δ Δ' M H Q sr hr rv e k=>by
 cases ds with
 |nil=>simp only[ak]at rv;subst rv;cases e;exact⟨rfl,k _ sr⟩
 |cons _ _=>cases e⟩
theorem bV{tgs:List J0}{g:GD}{gs:GDs}(h1:PGa X scope cl ag tg g) (h2:yM X scope cl ag tgs gs)
  (hs:∀env,(N7 (tg::tgs) env).map (·.2)=T5 tg env::(N7 tgs env).map (·.2):=by intro _;rfl):yM X scope cl ag (tg::tgs) (cO g gs):=by
 obtain⟨g1,p1,k1⟩:=h1;obtain⟨g2,p2,k2⟩:=h2;refine⟨uq g1 g2,fun C s H ex=>pU (p1 C s H ex) (p2 C s H ex) (hs _),fun ds vs σ Δ Δ' M H Q sr hr rv e k=>?_⟩;cases ds with
 |nil=>cases e
 |cons d r =>
  simp only[ak]at rv;obtain⟨v,ws,rfl,h3,h4⟩:=rv;simp only[cO]at e;cases q:g d Δ with
  |none=>rw[q]at e;cases e
  |some Δ1 =>
   rw[q]at e;exact⟨v,ws,rfl,k1 d v σ Δ Δ1 M H _ sr hr h3 q fun σ1 sr1=>k2 r ws σ1 Δ1 Δ' M H Q sr1 hr h4 e k⟩
theorem iQ{tgs:List J0}{kx:Nat}{g:GDs}{n:Nat}(hc:X.calm=true) (h:yM X scope cl ag tgs g) (hn:∀env,(N7 tgs env).length=n:=by intro _;rfl) (hst:∀env,(N7 tgs env).findIdx? (·.1)=none:=by intro _;rfl):PGa X scope cl ag (.Tuple tgs kx pos) (fG g n):=by
 obtain⟨g1,p1,k1⟩:=h;refine⟨Bn X.K n g1,fun C s H ex=>wX (X:=ax X scope cl (X.N++ag) C s H ex) hc (p1 C s H ex) (hn _) (hst _),fun d v σ Δ Δ' M H Q sr hr rv e k=>?_⟩;cases d with
 |tup ds =>
  simp only[fG]at e
  by_cases hl:ds.length=n
  ·rw[if_pos hl]at e;simp only[Rep]at rv;obtain⟨a,vs,rfl,ta,rl⟩:=rv;exact⟨a,vs,rfl,ta.sq,by rw[<-rl.length];exact hl,k1 ds vs σ Δ Δ' M H Q sr hr rl e k⟩
  ·rw[if_neg hl]at e;cases e
 |_=>cases e
end
section
variable{X:Cx}{a b c e:J0}{es:List J0}{te ta tb ts:TEd}{t:TAd}{pos:Pos}
def inE(neg:Bool) (x y:D):Option D:=match y with
 |.str j=>match x with
  |.str i=>some (.bl (xor neg (!(Q9 j i 0 j.length 1).isEmpty)))
  |_=>none
 |y=>inD neg x y
theorem zz:bM X (L3 .In) (inE false):=by
 intro aa s σ H M x y v u dx dy dz Q I hr rx ry r1 r2 e k;cases dy with
 |str j =>
  cases dx with
  |str i =>
   cases e;exact tX aa s σ H x y v u Q I rx ry ⟨i,j,lI r1,lI r2,k _ H (Ext.refl _ _) hr (by simp[Rep])⟩
  |_=>cases e
 |_=>exact EE aa s σ H M x y v u dx _ dz Q I hr rx ry r1 r2 e k
theorem vG:bM X (L3 .NotIn) (inE true):=by
 intro aa s σ H M x y v u dx dy dz Q I hr rx ry r1 r2 e k;cases dy with
 |str j =>
  cases dx with
  |str i =>
   cases e;exact nP aa s σ H x y v u Q I rx ry ⟨i,j,lI r1,lI r2,k _ H (Ext.refl _ _) hr (by simp[Rep])⟩
  |_=>cases e
 |_=>exact yf aa s σ H M x y v u dx _ dz Q I hr rx ry r1 r2 e k
theorem DW{b:Bool}{x:D}{ds:List D}:inE b x (.lst ds)=if aY x=true/\ds.all aY=true then some (.bl (xor b (ds.any fun d=>eqD d x)))else none:=rfl
theorem Dz{b:Bool}{x:D}{ds:List D}:inE b x (.tup ds)=if aY x=true/\ds.all aY=true then some (.bl (xor b (ds.any fun d=>eqD d x)))else none:=rfl
theorem CL{b:Bool}{c:Nat}{y:Str}:inE b (.str (tx [c])) (.str y)=some (.bl (xor b (decide (c∈y.cps.toList)))):=by
 show some (D.bl (xor b (!(Q9 y ⟨#[c]⟩ 0 y.length 1).isEmpty)))=_;rw[StrLaws.found_one]
theorem iV:fillsNumberSlot (.type "tuple") "mul"=U9 false :=
 PySem.fillsNumberSlot_seq (id:="tuple.__mul__") (r:=some (.builtin "tuple.__rmul__")) F.slot_tuple_mul.lookup (by decide +kernel) F.slot_tuple_rmul.lookup (by decide +kernel)
theorem nS:seqRepeat? (.type "tuple")=U9 (some (.builtin "tuple.__mul__")):=by
 unfold seqRepeat?;rw[PySem.seqSlot_of (T:="tuple") (name:="__mul__") (id:="tuple.__mul__") F.slot_tuple_mul.lookup (by decide +kernel),PySem.seqSlot_of (T:="tuple") (name:="__rmul__") (id:="tuple.__rmul__") F.slot_tuple_rmul.lookup (by decide +kernel)];rfl
theorem k9(a:Int) (t:Tok) (l:F5) (items:Array s0) :
  Meets (K4.«int.__rmul__» ⟨[.int a t,.ref l],[]⟩) (fun _ R s=>ab0 s.heap l items/\R (.ok (.ret s0.notImplemented)) s) :=
 .of_wp fun prog w A R s h=>by
  obtain⟨hp,g,d,tk,os⟩:=s;obtain⟨⟨⟨cls,dd,data,sl⟩,ho,hc,n,hd⟩,h⟩:=h;simp only at hc hd;subst hc hd
  wp_walk;exact⟨_,rfl,h⟩
theorem lJ(l:F5) (items:Array s0) (x:Int) (u:Tok) (hne:items.isEmpty=false) (hx:2<=x) (hx2:x<2 ^ 62) (hz:items.size*x.toNat<=E9) :
  Meets (K4.«tuple.__mul__» ⟨[.ref l,.int x u],[]⟩) (fun _ R s=>ab0 s.heap l items/\R (.ok (.ret (.ref s.heap.objs.size))) { s with heap:=s.heap.push { cls:=.type "tuple",data:=.seq (F8 x.toNat items.toList).flatten.toArray } }) :=
 .of_wp fun prog w A R s h=>by
  obtain⟨ht,h⟩:=h;show J5 _ _ (do
   let n <-asIndex (.int x u)
   if n < -(2 ^ 63) || n>=2 ^ 63 then
    rule "tuple.repeat.overflow";raiseError "OverflowError" s!"cannot fit '{← typeNameOf (.int x u)}' into an index-sized integer"
   let xs <-K4.Tuple.tupleItemsOf (.ref l)
   if xs.isEmpty || n==1 then
    if <-K4.Tuple.tupleIsExact (.ref l)then rule "tuple.repeat.same-object";return <-ret (.ref l)
   if n<=0 || xs.isEmpty then return <-ret (<-L6 #[])
   if xs.size*n > (2 ^ 63-1) / 8 then rule "tuple.repeat.no-memory";raiseNew (<-newExc (.type "MemoryError") [])
   if K4.Tuple.tupleTooMany (xs.size*n)then unsupported "tuple.__mul__:memory"
   ret (<-L6 ((F8 n.toNat xs).foldl (·++·) #[]))) _ _ s
  refine F0 (wpAny_of_eq (a:=x) rfl ?_);dsimp only;rw[if_neg (by simp only[Bool.or_eq_true,decide_eq_true_eq];lia)];refine F0 (tupleItemsOf_ ht ?_);rw[if_neg (by simp[hne];lia)];rw[if_neg (by simp[hne];exact U7 (by assumption))];have hxn:((x.toNat:Nat):Int)=x:=by lia
  have hm:(items.size:Int)*x=((items.size*x.toNat:Nat):Int):=by rw[Int.natCast_mul,hxn]
  have h16:E9=16777216:=rfl;rw[if_neg (by rw[hm];lia)];rw[if_neg (by unfold K4.Tuple.tupleTooMany;rw[hm];simp only[decide_eq_true_eq];lia)];have hf:aa1 (fun x1 x2=>x1++x2) #[] (F8 x.toNat items)=(F8 x.toNat items.toList).flatten.toArray:=by
   have:=iM items.toList x.toNat [];rw[List.nil_append]at this;simpa using this
  rw[hf];have hs:sizeOk (.seq (F8 x.toNat items.toList).flatten.toArray):=by
   show(F8 x.toNat items.toList).flatten.toArray.size<=E9;rw[F1,nJ,Q8,Nat.mul_comm];exact hz
  exact F0 (m:=L6 _) (N9 (F9 ⟨_,rfl,h⟩) hs)
theorem ak.rep{K:o0}{M:DH}{H:Hp}{ds:List D}{vs:List V}(h:ak K M H ds vs):∀k:Nat,ak K M H (F8 k ds).flatten (F8 k vs).flatten
 |0=>ak.nil
 |k+1=>by
  rw[O0,O0,P9,P9];exact h.append (ak.rep h k)
def vg:D->D->Option D
 |.int a,.int b=>if iU a b then some (.int (a*b))else none
 |.str x,.int n=>if x.length<=16777216/\-(2 ^ 63)<=n/\n<=16777216/\x.length*n.toNat<=16777216 then some (.str (Txt.mul x n))else none
 |.tup ds,.int n=>if 2<=n/\n<2 ^ 62/\ds≠[]/\ds.length*n.toNat<=E9 then some (.tup (F8 n.toNat ds).flatten)else none
 |.lst ds,.int n=>if -(2 ^ 63)<=n/\n<2 ^ 63/\ds.length*n.toNat<=E9 then some (.lst (F8 n.toNat ds).flatten)else none
 |_,_=>none
theorem c8:bM X (N5 .Mult) vg:=by
 intro aa s σ H M x y v u dx dy dz Q I hr rx ry r1 r2 e k;cases dx with
 |int a =>
  cases dy with
  |int b=>exact Ax aa s σ H M x y v u _ _ dz Q I hr rx ry r1 r2 e k
  |_=>cases e
 |str z =>
  cases dy with
  |int n =>
   simp only[vg]at e
   by_cases hc:z.length<=16777216/\-(2 ^ 63)<=n/\n<=16777216/\z.length*n.toNat<=16777216
   ·rw[if_pos hc]at e;cases e;have e1:=lI r1;have e2:=di r2;subst e1;subst e2;obtain⟨t1,rfl⟩:=rx;obtain⟨t2,rfl⟩:=ry;have hok:MulOk z n:=by
     by_cases hn:0<=n
     ·exact mulOk_of z.length n.toNat (F3 _) (by lia) hc.2.1 (by lia) hc.2.2.2
     ·exact mulOk_of z.length 0 (F3 _) (by lia) hc.2.1 (by decide) (by exact R1 _)
    exact SB.mul hok fun t' kk=>⟨.str _,H,I.tok _,⟨t',rfl⟩,k _ H (Ext.refl _ _) hr (by simp[Rep])⟩
   ·rw[if_neg hc]at e;cases e
  |_=>cases e
 |tup ds =>
  cases dy with
  |int n =>
   simp only[vg]at e
   by_cases hc:2<=n/\n<2 ^ 62/\ds≠[]/\ds.length*n.toNat<=E9
   ·rw[if_pos hc]at e;cases e;have e2:=di r2;subst e2;obtain⟨t2,rfl⟩:=ry;obtain⟨a,vs,rfl,sq,rl⟩:=r1;cases rx;obtain⟨its,rv,pt,hz⟩:=I.tuple sq;have hl1:=rv.length;have hl2:=rl.length;have hne:its.toArray.isEmpty=false:=by
     cases its with
     |nil =>
      have h0:ds.length=0:=by rw[hl2,hl1];rfl
      exact absurd (List.length_eq_zero_iff.mp h0) hc.2.2.1
     |cons _ _=>rfl
    have hzz:its.toArray.size*n.toNat<=E9:=by rw[F1,<-hl1,<-hl2];exact hc.2.2.2
    refine wpAny_binaryOp_repeat_ref (T:="tuple") (U:="int") (by decide) pt.typeIs (fun s'=>X8 s' n t2) iV F.fills_int_mul V8 nS F.slot_int_index.lookup
     (X9 V8 (X8 s n t2) F.entry_int_rmul (F.args_int_rmul_2 _ _) (k9 n t2 a its.toArray)
      ⟨pt,rfl,pt.typeIs,X9 F.slot_tuple_mul pt.typeIs F.entry_tuple_mul (F.args_tuple_mul_2 _ _) (lJ a its.toArray n t2 hne hc.1 hc.2.1 hzz) ⟨pt,?_⟩⟩)
    have rr:av (F8 n.toNat vs).flatten (F8 n.toNat its).flatten:=rv.rep n.toNat;refine⟨.ref s.heap.objs.size,_,I.laid (t':=s.toks) (o:=.tup (F8 n.toNat vs).flatten) (fun b ob q=>E8 _ q) (F3 _) ?_,rfl,?_⟩
    ·refine⟨?_,_,rr,by simpa using jr.new _ _⟩;rw[nJ,Nat.mul_comm,<-hl2];exact hc.2.2.2
    ·exact j7 hr (I.hok.fresh (F3 _)) (rl.rep n.toNat) k
   ·rw[if_neg hc]at e;cases e
  |_=>cases e
 |lst ds =>
  cases dy with
  |int n =>
   simp only[vg]at e
   by_cases hc:-(2 ^ 63)<=n/\n<2 ^ 63/\ds.length*n.toNat<=E9
   ·rw[if_pos hc]at e;cases e;obtain⟨a,vs,rfl,sq,rl⟩:=r1;exact Av aa s σ H _ _ v u Q I rx ry ⟨a,n,vs,rfl,di r2,sq,hc.1,hc.2.1,by rw[<-rl.length];exact hc.2.2,fun p hp=>dP hr hp (rl.rep n.toNat) k⟩
   ·rw[if_neg hc]at e;cases e
  |_=>cases e
 |_=>cases e
theorem zf{a b:Int}:vg (.int a) (.int b)=if iU a b then some (.int (a*b))else none:=rfl
def uU:D->Bool
 |.non=>true
 |_=>false
def sD(neg:Bool) (x y:D):Option D:=match y with|.non=>some (.bl (xor neg (uU x)))|_=>none
theorem zh{K:o0}{M:DH}{H:Hp}{d:D}{x:V}(r:aK K M H d x):decide (x=V.non)=uU d:=by
 cases d with
 |tup ds=>obtain⟨a,vs,rfl,_⟩:=r;rfl
 |lst ds=>obtain⟨a,vs,rfl,_⟩:=r;rfl
 |scr ds=>obtain⟨a,vs,rfl,_⟩:=r;rfl
 |emp=>simp only[aK,Rep]at r;obtain⟨a,rfl,_⟩:=r;rfl
 |box _ _=>simp only[aK,Rep]at r;obtain⟨a,_,rfl,_⟩:=r;rfl
 |_=>simp only[aK,Rep]at r;subst r;rfl
theorem EL:bM X (L3 .Is) (sD false):=by
 intro aa s σ H M x y v u dx dy dz Q I hr rx ry r1 r2 e k;cases dy with
 |non =>
  cases e;refine Af aa s σ H x y v u Q I rx ry ⟨EU r2,?_⟩;rw[zh r1];exact k _ H (Ext.refl _ _) hr (by simp[Rep])
 |_=>cases e
theorem sX{b:Bool}{x:D}:sD b x .non=some (.bl (xor b (uU x))):=rfl
def BN(ms:List Bool) (k:Nat) (wi:TId) (g:GD) (tc:TTd) (te:TEd):TEd:=fun Δ M Q=>wi Δ M fun ds M1=>ds.length<=E9/\cG g tc te ds (mL ms k Δ) M1 [] fun ys M2=>∀p,M2 p=none->Q (.ref p) (au M2 p (.lst ys))
theorem ur{K:o0}{wi:TId}{g:GD}{tc:TTd}{te:TEd}{gv:TG}{ms:List Bool}{kk:Nat}(kg:rY K g gv) :
  ∀ σ H Q,up K (BN ms kk wi g tc te) σ H Q->tLc ms kk (upI K wi) gv (upT K tc) (up K te) σ H Q:=by
 rintro σ H Q ⟨Δ,M,R,sr,hr,q,k⟩;refine⟨Δ,M,_,sr,hr,q,fun ds M1 J H1 ⟨hz,q1⟩ e1 hr1 it=>?_⟩;obtain⟨W,Z,hW,hC,hZ⟩:=sS kg it hr1 hz ((sr.ext e1).comp ms kk) q1;refine⟨W,Z,hW,hC,fun ys σ' H' p z hp=>?_⟩;obtain⟨M',acc,e',hr',ra,q'⟩:=hZ _ _ _ z;exact k _ _ _ _ (q' p (hr'.fresh hp)) ((e1.trans e').trans (Ext.own hp)) (hr'.own hp ra) (by simp only[Rep])
variable{scope:O9}{cl:List (Str×F5)}{ms:List Bool}{ag:List Str}{ifs:List J0}{tg iter elt:J0}
end
@[irreducible] def QEd(X:Cx) (e:J0) (t:TEd):Prop:=PEd X e t
theorem QEd.eq{X:Cx}{e:J0}{t:TEd}:QEd X e t=(PEd X e t):=by unfold QEd;rfl
@[irreducible] def QAd(X:Cx) (e:List J0) (t:TAd):Prop:=PAd X e t
theorem QAd.eq{X:Cx}{e:List J0}{t:TAd}:QAd X e t=(PAd X e t):=by unfold QAd;rfl
@[irreducible] def QTd(X:Cx) (e:J0) (t:TTd):Prop:=PTd X e t
theorem QTd.eq{X:Cx}{e:J0}{t:TTd}:QTd X e t=(PTd X e t):=by unfold QTd;rfl
@[irreducible] def QWd(X:Cx) (e:J0) (t:TTd):Prop:=PWd X e t
theorem QWd.eq{X:Cx}{e:J0}{t:TTd}:QWd X e t=(PWd X e t):=by unfold QWd;rfl
@[irreducible] def QSd(X:Cx) (e:X1) (t:TSd):Prop:=PSd X e t
theorem QSd.eq{X:Cx}{e:X1}{t:TSd}:QSd X e t=(PSd X e t):=by unfold QSd;rfl
@[irreducible] def QSs(X:Cx) (e:List X1) (t:TSd):Prop:=xR X e t
theorem QSs.eq{X:Cx}{e:List X1}{t:TSd}:QSs X e t=(xR X e t):=by unfold QSs;rfl
@[irreducible] def QId(X:Cx) (tg e:J0) (t:TId):Prop:=PId X tg e t
theorem QId.eq{X:Cx}{tg e:J0}{t:TId}:QId X tg e t=(PId X tg e t):=by unfold QId;rfl
@[irreducible] def QIf(X:Cx) (e:List J0) (t:TTd):Prop:=Eg X e t
theorem QIf.eq{X:Cx}{e:List J0}{t:TTd}:QIf X e t=(Eg X e t):=by unfold QIf;rfl
@[irreducible] def QOd(X:Cx) (e:Option J0) (t:TOd):Prop:=POd X e t
theorem QOd.eq{X:Cx}{e:Option J0}{t:TOd}:QOd X e t=(POd X e t):=by unfold QOd;rfl
theorem af{X:Cx}(i:Nat) {x:Str}{pos:Pos}(hN:X.N[i]?=some x:=by rfl) (hv:Vis X.env.scope x:=by first|exact Or.inl rfl|exact Or.inr (Or.inl rfl)|exact Or.inr (Or.inr rfl)) (hd:(x==("__debug__":Str))=false:=by decide)
  (hcd:(x==("__classdict__":Str))=false:=by decide):QEd X (.Name x pos) (kS i):=by
 simp only[QEd.eq]at *
 exact(AL hN hv hd hcd).conv fun σ H Q ⟨Δ,M,R,sr,hr,⟨d,e,q⟩,k⟩=>let⟨v,ev,rv⟩:=sr.2 i d e;⟨v,ev,k d M v H q (Ext.refl _ _) hr rv⟩
theorem ah{X:Cx}{i j pos}:QEd X (.Constant (.int i) j pos) (dC (.int i)):=by
 simp only[QEd.eq]at *
 exact B1.conv fun σ H Q hup=>hup.el fun Δ M R sr hr q k=>k _ M _ H q (Ext.refl _ _) hr (by simp[Rep])
theorem ie{X:Cx}{i j pos}:QEd X (.Constant (.bool i) j pos) (dC (.bl i)):=by
 simp only[QEd.eq]at *
 exact CD.conv fun σ H Q hup=>hup.el fun Δ M R sr hr q k=>k _ M _ H q (Ext.refl _ _) hr (by simp[Rep])
theorem oE{X:Cx}{i j pos}:QEd X (.Constant (.str i) j pos) (dC (.str i)):=by
 simp only[QEd.eq]at *
 exact Bw.conv fun σ H Q hup=>hup.el fun Δ M R sr hr q k=>k _ M _ H q (Ext.refl _ _) hr (by simp[Rep])
theorem zY{X:Cx}{j pos}:QEd X (.Constant .none j pos) (dC .non):=by
 simp only[QEd.eq]at *
 exact A5.conv fun σ H Q hup=>hup.el fun Δ M R sr hr q k=>k _ M _ H q (Ext.refl _ _) hr (by simp[Rep])
theorem ai{X:Cx}:QAd X [] Bv:=by
 simp only[QAd.eq]at *
 exact ql.conv fun σ H Q hup=>hup.el fun Δ M R sr hr q k=>k _ M _ H q (Ext.refl _ _) hr ak.nil
theorem ae{X:Cx}{a:J0}{es:List J0}{ta:TEd}{tr:TAd}(ha:QEd X a ta) (hr:QAd X es tr) (hs:I0 (a::es) X.env=(false,U0 a X.env)::I0 es X.env:=by rfl):QAd X (a::es) (sJ ta tr):=by
 simp only[QEd.eq,QAd.eq]at *
 exact(jw ha hr hs).conv fun σ H Q hup=>hup.el fun Δ M R sr hr q k=>⟨Δ,M,_,sr,hr,q,fun d M1 v H1 q1 e1 hr1 rv=>⟨Δ,M1,_,sr.ext e1,hr1,q1,fun ds M2 vs H2 q2 e2 hr2 rvs =>
   k _ M2 _ H2 q2 (e1.trans e2) hr2 (ak.cons (rv.ext e2) rvs)⟩⟩
theorem cY{X:Cx}{es:List J0}{pos:Pos}{x1}{t:TAd}(h:QAd X es t):QEd X (.Tuple es x1 pos) (D7 t):=by
 simp only[QEd.eq,QAd.eq]at *
 exact(gz h).conv fun σ H Q hup=>hup.el fun Δ M R sr hr q k=>⟨Δ,M,_,sr,hr,q,fun ds M1 vs H1 ⟨z,q1⟩ e1 hr1 rv=>⟨by rw[<-rv.length];exact z,fun p hp=>k _ M1 _ _ q1 (e1.trans (Ext.new hr1 hp)) (hr1.new hp) (by
   simp only[Rep];exact⟨p,vs,rfl,.inl ⟨.inl az,hr1.fresh hp⟩,rv.ext (Ext.new hr1 hp)⟩)⟩⟩
theorem ml{X:Cx}{es:List J0}{pos:Pos}{t:TAd}(h:QAd X es t):QEd X (.List es pos) (CU t):=by
 simp only[QEd.eq,QAd.eq]at *
 exact(vK h).conv fun σ H Q hup=>hup.el fun Δ M R sr hr q k=>⟨Δ,M,_,sr,hr,q,fun ds M1 vs H1 ⟨z,q1⟩ e1 hr1 rv=>⟨by rw[<-rv.length];exact z,fun p hp=>k _ M1 _ _ q1 (e1.trans (Ext.new hr1 hp)) (hr1.new hp) (by
   simp only[Rep];exact⟨p,vs,rfl,⟨az,hr1.fresh hp⟩,rv.ext (Ext.new hr1 hp)⟩)⟩⟩
theorem lu{X:Cx}{es:List J0}{pos:Pos}{t:TAd}(h:QAd X es t):QEd X (.List es pos) (zF t):=by
 simp only[QEd.eq,QAd.eq]at *
 exact(vK h).conv fun σ H Q hup=>hup.el fun Δ M R sr hr q k=>⟨Δ,M,_,sr,hr,q,fun ds M1 vs H1 ⟨z,q1⟩ e1 hr1 rv=>⟨by rw[<-rv.length];exact z,fun p hp=>k _ _ _ _ (q1 p (hr1.fresh hp)) (e1.trans (Ext.own hp)) (hr1.own hp rv) (by
   simp only[Rep])⟩⟩
theorem aD{X:Cx}{a:J0}{b:J0}{ta:TEd}{tb:TEd}{pos:Pos}{op:aa3}{r:D->D->Option D}(ho:bM X (N5 op) r) (ha:QEd X a ta) (hb:QEd X b tb):QEd X (.BinOp a op b pos) (dOp r ta tb):=by
 simp only[QEd.eq]at *
 exact(zt ho.v ha hb).conv uy
theorem fZ{X:Cx}{a:J0}{b:J0}{ta:TEd}{tb:TEd}{pos:Pos}{op:ab1}{r:D->D->Option D}(ho:bM X (L3 op) r) (ha:QEd X a ta) (hb:QEd X b tb) (hm:Q7 op b=false):QEd X (.Compare a [op] [b] pos) (dOp r ta tb):=by
 simp only[QEd.eq]at *
 exact(yh ho.v ha hb hm).conv uy
theorem bg{X:Cx}{a:J0}{b:J0}{ta:TEd}{tb:TEd}{pos:Pos}{r:D->D->Option D}(ho:IxR X (opV X.K r)) (ha:QEd X a ta) (hb:QEd X b tb) (hs:sA b):QEd X (.Subscript a b pos) (dOp r ta tb):=by
 simp only[QEd.eq]at *
 exact(DX ho ha hb hs).conv uy
theorem Al{X:Cx}{a:J0}{ta:TEd}{pos:Pos}{op:UnaryOp}{r:D->Option D}(ho:Co X (unaryOp op) r) (ha:QEd X a ta):QEd X (.UnaryOp op a pos) (dUn r ta):=by
 simp only[QEd.eq]at *
 have h:UnR X (unaryOp op) (fun x H Q=>∃dx dz M,HR X.K M H/\aK X.K M H dx x/\r dx=some dz/\∀w H',Ext M H M H'->HR X.K M H'->Rep X.K M H' dz w->Q w H'):=fun aa s σ H x v Q I rx ⟨dx,dz,M,hr,r1,e,k⟩=>ho aa s σ H M x v dx dz Q I hr rx r1 e k;exact(Dl h ha).conv fun σ H Q hup=>hup.el fun Δ M R sr hr q k=>⟨Δ,M,_,sr,hr,q,fun x M1 v H1 ⟨z,ez,q1⟩ e1 hr1 rv=>⟨_,z,M1,hr1,rv.rd hr1,ez,fun w H' e2 hr2 rw_=>k z M1 w H' q1 (e1.trans e2) hr2 rw_⟩⟩
theorem aQ{X:Cx}{a:J0}{b:J0}{ta:TEd}{tb:TEd}{pos:Pos}{op:ab1}{r:D->D->Option D}(ho:bM X (L3 op) r) (ha:QEd X a ta) (hb:QEd X b tb) (hm:Q7 op b=false):QTd X (.Compare a [op] [b] pos) (lP (dOp r ta tb)):=by
 simp only[QEd.eq,QTd.eq]at *
 refine(yH ho.v ha hb hm).conv fun σ H Q h=>?_;obtain⟨Δ,M,R,sr,hr,q,k⟩:=h;exact⟨Δ,M,_,sr,hr,q,fun x M1 v H1 q1 e1 hr1 rv=>⟨Δ,M1,_,sr.ext e1,hr1,q1,fun y M2 u H2 ⟨z,ez,b,eb,q2⟩ e2 hr2 ru=>⟨_,_,z,M2,hr2,(rv.ext e2).rd hr2,ru.rd hr2,ez,fun w H' e3 hr3 rw_ =>
  ⟨b,by subst eb;simpa only[Rep]using rw_,k b M2 H' q2 ((e1.trans e2).trans e3) hr3⟩⟩⟩⟩
theorem dO{X:Cx}{a:J0}{ta:TEd}(h:QEd X a ta) (he:∀whole,isTrue a X.env whole=(do let v <-whole;standAt a.pos;Z3 [v] (truthy v)):=by intro _;rfl):QTd X a (lP ta):=by
 simp only[QEd.eq,QTd.eq]at *
 exact(BX h he).conv Dp
theorem kF{X:Cx}{a:J0}{pos:Pos}{tA:TTd}(h:QTd X a tA):QTd X (.UnaryOp .Not a pos) (zP tA):=by
 simp only[QTd.eq]at *
 exact(Ab h).conv fun σ H Q hup=>hup.el fun Δ M R sr hr q k=>⟨Δ,M,_,sr,hr,q,fun b M1 H1 q1 e1 hr1=>k _ M1 H1 q1 e1 hr1⟩
theorem ij{X:Cx}{a:J0}{pos:Pos}{tA:TTd}(ha:QTd X a tA):QWd X (.BoolOp .And [a] pos) tA:=by
 simp only[QTd.eq,QWd.eq]at *
 exact yl ha
theorem ko{X:Cx}{a:J0}{pos:Pos}{tA:TTd}(ha:QTd X a tA):QWd X (.BoolOp .Or [a] pos) tA:=by
 simp only[QTd.eq,QWd.eq]at *
 exact Bq ha
theorem iB{X:Cx}{a:J0}{b:J0}{pos:Pos}{tA:TTd}{tB':TTd}{rest:List J0}(ha:QTd X a tA) (hb:QWd X (.BoolOp .And (b::rest) pos) tB'):QWd X (.BoolOp .And (a::b::rest) pos) (vi tA tB'):=by
 simp only[QTd.eq,QWd.eq]at *
 exact(Bt ha hb).conv fun σ H Q hup=>hup.el fun Δ M R sr hr q k=>⟨Δ,M,_,sr,hr,q,fun c M1 H1 q1 e1 hr1=>by
   cases c with
   |true=>simp only[if_true]at q1 ⊢;exact⟨Δ,M1,R,sr.ext e1,hr1,q1,fun b M2 H2 q2 e2 hr2=>k b M2 H2 q2 (e1.trans e2) hr2⟩
   |false=>simp only[N3,if_false]at q1 ⊢;exact k _ M1 H1 q1 e1 hr1⟩
theorem pR{X:Cx}{a:J0}{b:J0}{pos:Pos}{tA:TTd}{tB':TTd}{rest:List J0}(ha:QTd X a tA) (hb:QWd X (.BoolOp .Or (b::rest) pos) tB'):QWd X (.BoolOp .Or (a::b::rest) pos) (Ci tA tB'):=by
 simp only[QTd.eq,QWd.eq]at *
 exact(Dw ha hb).conv fun σ H Q hup=>hup.el fun Δ M R sr hr q k=>⟨Δ,M,_,sr,hr,q,fun c M1 H1 q1 e1 hr1=>by
   cases c with
   |false=>simp only[N3,if_false]at q1 ⊢;exact⟨Δ,M1,R,sr.ext e1,hr1,q1,fun b M2 H2 q2 e2 hr2=>k b M2 H2 q2 (e1.trans e2) hr2⟩
   |true=>simp only[if_true]at q1 ⊢;exact k _ M1 H1 q1 e1 hr1⟩
theorem oi{X:Cx}{a:J0}{ta:TEd}{pos:Pos}{op}(h:QEd X a ta):QEd X (.BoolOp op [a] pos) ta:=by
 simp only[QEd.eq]at *
 exact BB h
theorem jd{X:Cx}{a:J0}{b:J0}{ta:TEd}{tb:TEd}{pos:Pos}{rest:List J0}(ha:QEd X a ta) (hb:QEd X (.BoolOp .And (b::rest) pos) tb):QEd X (.BoolOp .And (a::b::rest) pos) (Du ta tb):=by
 simp only[QEd.eq]at *
 exact(Bi ha hb).conv fun σ H Q hup=>hup.el fun Δ M R sr hr q k=>⟨Δ,M,_,sr,hr,q,fun d M1 v H1 ⟨c,e,q1⟩ e1 hr1 rv=>⟨c,by subst e;simpa only[Rep]using rv,by
   cases c with
   |true=>simp only[if_true]at q1 ⊢;exact⟨Δ,M1,R,sr.ext e1,hr1,q1,fun b M2 v2 H2 q2 e2 hr2 r2=>k b M2 v2 H2 q2 (e1.trans e2) hr2 r2⟩
   |false=>simp only[N3,if_false]at q1 ⊢;exact k _ M1 _ H1 q1 e1 hr1 (by simp[Rep])⟩⟩
theorem Dg{X:Cx}{a:J0}{ta:TEd}{pos:Pos}(ha:QEd X a ta):QEd X (.UnaryOp .Not a pos) (C9 ta):=by
 simp only[QEd.eq]at *
 exact(Ap ha).conv fun σ H Q hup=>hup.el fun Δ M R sr hr q k=>⟨Δ,M,_,sr,hr,q,fun d M1 v H1 ⟨c,e,q1⟩ e1 hr1 rv =>
  ⟨c,by subst e;simpa only[Rep]using rv,k _ M1 _ H1 q1 e1 hr1 (by simp[Rep])⟩⟩
theorem Es{X:Cx}{a:J0}{b:J0}{c:J0}{ta:TEd}{tb:TEd}{pos:Pos}{tA:TTd}(hc:QTd X c tA) (ha:QEd X a ta) (hb:QEd X b tb):QEd X (.IfExp c a b pos) (dIf tA ta tb):=by
 simp only[QEd.eq,QTd.eq]at *
 exact(wL hc ha hb).conv fun σ H Q hup=>hup.el fun Δ M R sr hr q k=>⟨Δ,M,_,sr,hr,q,fun c M1 H1 q1 e1 hr1=>by
   cases c with
   |true=>simp only[if_true]at q1 ⊢;exact⟨Δ,M1,R,sr.ext e1,hr1,q1,fun b M2 v2 H2 q2 e2 hr2 r2=>k b M2 v2 H2 q2 (e1.trans e2) hr2 r2⟩
   |false=>simp only[N3,if_false]at q1 ⊢;exact⟨Δ,M1,R,sr.ext e1,hr1,q1,fun b M2 v2 H2 q2 e2 hr2 r2=>k b M2 v2 H2 q2 (e1.trans e2) hr2 r2⟩⟩
theorem aB{X:Cx}{pos:Pos}{x:Str}{p:Pos}{e:J0}{es:List J0}{t:TAd}{id:String}{r:List D->Option D}(hc:ba X (.builtin id) r) (hg:Gl X x) (hm:X.mg x=none) (hv:Q4 x=some (.builtin id)) (ha:QAd X (e::es) t) (hn:x≠"__name__":=by decide) (hdb:(x==("__debug__":Str))=false:=by decide)
  (he:I0 (e::es) X.env=(false,U0 e X.env)::I0 es X.env:=by rfl) (hpl:(T4 pos (I0 es X.env)).any (·.1)=false:=by rfl):QEd X (.Call (.Name x p) (e::es) [] pos) (dCB r t):=by
 simp only[QEd.eq,QAd.eq]at *
 exact(oz hc.v hg hm hv ha hn hdb he hpl).conv zp
theorem dY{X:Cx}{pos:Pos}{x:Str}{p:Pos}{e:J0}{es:List J0}{t:TAd}{id:String}{r:List D->Option D}(hc:ba X (.type id) r) (hg:Gl X x) (hm:X.mg x=none) (hv:Q4 x=some (.type id)) (ha:QAd X (e::es) t) (hn:x≠"__name__":=by decide) (hdb:(x==("__debug__":Str))=false:=by decide)
  (he:I0 (e::es) X.env=(false,U0 e X.env)::I0 es X.env:=by rfl) (hpl:(T4 pos (I0 es X.env)).any (·.1)=false:=by rfl):QEd X (.Call (.Name x p) (e::es) [] pos) (dCB r t):=by
 simp only[QEd.eq,QAd.eq]at *
 exact(sT hc.v hg hm hv ha hn hdb he hpl).conv zp
theorem aU{X:Cx}:QSs X [] uF:=by
 simp only[QSs.eq]at *
 exact ye.conv fun D σ H hup=>hup.el fun Δ M E sr hr q u=>u.nx Δ M σ H q (Ext.refl _ _) hr sr
theorem am{X:Cx}{st:X1}{rest:List X1}{t:TSd}{u:TSd}(h1:QSd X st t) (h2:QSs X rest u):QSs X (st::rest) (CM t u):=by
 simp only[QSd.eq,QSs.eq]at *
 exact(vj h1 h2).conv fun D σ H hup=>hup.el fun Δ M E sr hr q k=>⟨Δ,M,{ E with nx:=u E },sr,hr,q,⟨fun Δ' M' σ' H' q' e' hr' sr'=>⟨Δ',M',E,sr',hr',q',k.ext e'⟩,k.bk,k.ct,k.rt⟩⟩
theorem ar{X:Cx}{st:X1}{t:TSd}(h1:QSd X st t):QSs X [st] t:=by
 simp only[QSd.eq,QSs.eq]at *
 exact zc h1
theorem bu{X:Cx}{e:J0}{te:TEd}{pos:Pos}(he:QEd X e te):QSd X (.Return (some e) pos) (CC te):=by
 simp only[QEd.eq,QSd.eq]at *
 exact(qz he).conv fun D σ H hup=>hup.el fun Δ M E sr hr q k=>⟨Δ,M,_,sr,hr,q,k.rt⟩
theorem vy{X:Cx}{e:J0}{te:TEd}{pos:Pos}(he:QEd X e te) (hs:U6 e none pos.line X.env=U9 false:=by rfl):QSd X (.Expr e pos) (wu te):=by
 simp only[QEd.eq,QSd.eq]at *
 exact(yq he hs).conv fun D σ H hup=>hup.el fun Δ M E sr hr q k=>⟨Δ,M,_,sr,hr,q,fun d M1 v H1 q1 e1 hr1 _=>k.nx Δ M1 σ H1 q1 e1 hr1 (sr.ext e1)⟩
theorem bz{X:Cx}{c:J0}{pos:Pos}{t:TSd}{u:TSd}{sa sb:List X1}{tc:TTd}(hc:QTd X c tc) (ha:QSs X sa t) (hb:QSs X sb u):QSd X (.If c sa sb pos) (Ac tc t u):=by
 simp only[QTd.eq,QSd.eq,QSs.eq]at *
 exact(CO hc ha hb).conv fun D σ H hup=>hup.el fun Δ M E sr hr q k=>⟨Δ,M,_,sr,hr,q,fun b M1 H1 q1 e1 hr1=>by
   cases b with
   |true=>simp only[if_true]at q1 ⊢;exact⟨Δ,M1,E,sr.ext e1,hr1,q1,k.ext e1⟩
   |false=>simp only[N3,if_false]at q1 ⊢;exact⟨Δ,M1,E,sr.ext e1,hr1,q1,k.ext e1⟩⟩
theorem aS{X:Cx}{e:J0}{te:TEd}{pos:Pos}{i:Nat}{x:Str}{pos':Pos}(hN:X.N.Nodup) (hi:X.N[i]?=some x) (hx:Loc X.env.scope x) (he:QEd X e te) (hs:U6 e (some (.Name x pos')) pos.line X.env=U9 false:=by rfl) (hf:X.fn x=true∨X.env.scope.names.lookup x=some .local:=by first|exact .inl rfl|exact .inr rfl|assumption) :
  QSd X (.Assign [.Name x pos'] e pos) (u9 i te):=by
 simp only[QEd.eq,QSd.eq]at *
 exact(Bh hN hi hx he hs hf).conv fun D σ H hup=>hup.el fun Δ M E sr hr q k=>⟨Δ,M,_,sr,hr,q,fun d M1 v H1 q1 e1 hr1 rv=>k.nx _ M1 _ H1 q1 e1 hr1 ((sr.ext e1).set i rv)⟩
theorem Cz{X:Cx}{e:J0}{te:TEd}{pos:Pos}{i:Nat}{x:Str}{op:aa3}{r:D->D->Option D}{pos':Pos}(hN:X.N.Nodup) (hi:X.N[i]?=some x) (hx:Loc X.env.scope x) (he:QEd X e te) (ho:bM X (aa5 op) r) (hf:X.fn x=true∨X.env.scope.names.lookup x=some .local:=by first|exact .inl rfl|exact .inr rfl|assumption) :
  QSd X (.AugAssign (.Name x pos') op e pos) (CJ i te r):=by
 simp only[QEd.eq,QSd.eq]at *
 have h:PIp X op (opV X.K r):=fun aa s σ H x y v u Q I rx ry q=>ho.v aa s σ H x y v u Q I rx ry q;refine(B3 hN hi hx he h hf).conv fun D σ H hh=>?_;obtain⟨Δ,M,E,sr,hr,⟨d,ed,q⟩,k⟩:=hh;obtain⟨v,ev,rv⟩:=sr.2 i d ed;refine⟨v,ev,Δ,M,_,sr,hr,q,fun y M1 w H1 ⟨z,ez,q1⟩ e1 hr1 rw_=>⟨_,_,z,M1,hr1,(rv.ext e1).rd hr1,rw_.rd hr1,ez,fun w2 H2 e2 hr2 r2=>k.nx _ M1 _ H2 q1 (e1.trans e2) hr2 (((sr.ext e1).ext e2).set i r2)⟩⟩
theorem rP{X:Cx}{t:TSd}{sts:List X1}(i:Nat) (h:QSs X sts t):QSs X sts (vC i t):=by
 simp only[QSs.eq]at *
 exact PSs.conv h fun D σ H ⟨Δ,M,E,sr,hr,⟨a,ds,e1,e2,q⟩,k⟩=>by
  refine⟨_,eY M a,E,?_,hr.le LeM.del,q,k.ext (Ext.le LeM.del)⟩;obtain⟨v,ev,rv⟩:=sr.2 i _ e1;simp only[Rep]at rv;subst rv;have:=(sr.ext (Ext.le (M1:=eY M a) LeM.del)).set i (Rep.froze (M1:=eY M a) hr LeM.del e2 cT);have es:σ.set i (some (.ref a))=σ:=by
   apply List.ext_getElem?;intro j
   by_cases hj:j=i
   ·subst hj;have hl:j<σ.length:=(M7.mp ev).1;rw[O6 hl,ev]
   ·rw[S6 (W4 hj)]
  rw[es]at this;exact this
theorem De{X:Cx}{e:J0}{te:TEd}{pos:Pos}{tg:J0}{g:GD}(he:QEd X e te) (hg:PGd X tg g) (hs:swapsWithSole [tg] e pos.line X.env=U9 false:=by rfl) (hw:swappedStores [tg] e X.env=U9 none:=by rfl)
  (h1:(N7 [tg] X.env).map (·.2)=[T5 tg X.env]:=by rfl):QSd X (.Assign [tg] e pos) (C2 te g):=by
 simp only[QEd.eq,QSd.eq]at *
 obtain⟨gv,pg,kg⟩:=hg;exact(v7 he pg hs hw h1).conv fun D σ H hup=>hup.el fun Δ M E sr hr q k=>⟨Δ,M,_,sr,hr,q,fun d M1 v H1 ⟨Δ',eg,q1⟩ e1 hr1 rv=>kg d v σ Δ Δ' M1 H1 _ (sr.ext e1) hr1 rv eg fun σ' sr'=>k.nx Δ' M1 σ' H1 q1 e1 hr1 sr'⟩
theorem bw{X:Cx}{a:J0}{pos:Pos}{tg:J0}{ta:TAd}{p:Pos}(hg:Gl X "range") (hm:X.mg "range"=none) (ha:QAd X [a] ta) (hs:I0 [a] X.env=[(false,U0 a X.env)]:=by rfl):QId X tg (.Call (.Name "range" p) [a] [] pos) (va ta):=by
 simp only[QAd.eq,QId.eq]at *
 exact(sU hg hm ha hs).conv fun σ H R hup=>hup.el fun Δ M R' sr hr q k=>⟨Δ,M,_,sr,hr,q,fun ds M1 vs H1 ⟨j,ed,h1,h2,q1⟩ e1 hr1 rv=>by
   subst ed;obtain⟨v,ev,rv1⟩:=rv.one;have ev1:v=.int j:=by simpa only[Rep]using rv1
   subst ev1;subst ev;exact⟨j,rfl,h1,h2,k _ M1 _ H1 q1 e1 hr1 y9⟩⟩
theorem ck{X:Cx}{pos:Pos}{tg:J0}{iter:J0}{body:List X1}{wi:TId}{g:GD}{tb:TSd}(hp:aa6 (J9 X.prog X.w) X.A X.env X.xe) (hc:X.calm=true) (hi:QId X tg iter wi) (hg:PGd X tg g) (hb:QSs X body tb)
  (hs:∀x,M9 iter X.env x=U9 x:=by intro _;rfl):QSd X (.For tg iter body [] pos) (Dt wi g tb):=by
 simp only[QSd.eq,QSs.eq,QId.eq]at *
 obtain⟨gv,pg,kg⟩:=hg;refine(BD hp hc hi pg hb hs).conv fun D σ H hh=>?_;obtain⟨Δ,M,E,sr,hr,q,k⟩:=hh;refine⟨Δ,M,_,sr,hr,q,fun ds M1 J H1 q1 e1 hr1 it=>?_⟩;refine⟨fun i m σ' H'=>∃ Δ' M',m=ds.length-i/\i<=ds.length/\Ext M1 H1 M' H'/\HR X.K M' H'/\SR X.K M' H' σ' Δ'/\cx g tb E (ds.drop i) Δ' M',⟨ds.length,Δ,M1,by simp,R1 _,Ext.refl _ _,hr1,sr.ext e1,q1⟩,?_⟩;rintro i m σ2 H2 ⟨Δ2,M2,rfl,hi2,e2,hr2,sr2,f2⟩;obtain⟨go,stop⟩:=it M2 H2 e2 hr2 i
 by_cases hlt:i<ds.length
 ·have hd:ds[i]?=some ds[i]:=by simp[hlt]
  obtain⟨g1,y1⟩:=go _ hd;rw[List.drop_eq_getElem_cons hlt]at f2;simp only[cx]at f2;obtain⟨Δ3,eg,f3⟩:=f2;refine .inr ⟨g1,fun σ' H'=>∃m',m'<ds.length-i/\∃ Δ' M',m'=ds.length-(i+1)/\i+1<=ds.length/\Ext M1 H1 M' H'/\HR X.K M' H'/\SR X.K M' H' σ' Δ'/\cx g tb E (ds.drop (i+1)) Δ' M',fun σ' H' z=>z,fun x H' hy=>?_⟩;obtain⟨e3,hr3,rx⟩:=y1 x H' hy;refine kg _ x σ2 Δ2 Δ3 M2 H' _ (sr2.ext e3) hr3 rx eg fun σ3 sr3=>?_;refine⟨Δ3,M2,_,sr3,hr3,f3,⟨fun Δ' M' σ' H'' q' e' hr' sr'=>?_,fun Δ' M' σ' H'' q' e' hr' sr'=>?_,fun Δ' M' σ' H'' q' e' hr' sr'=>?_,fun d M' v H'' q' e' hr' rv'=>?_⟩⟩
  ·exact⟨_,by lia,Δ',M',rfl,hlt,(e2.trans e3).trans e',hr',sr',q'⟩
  ·exact k.nx Δ' M' σ' H'' q' (((e1.trans e2).trans e3).trans e') hr' sr'
  ·exact⟨_,by lia,Δ',M',rfl,hlt,(e2.trans e3).trans e',hr',sr',q'⟩
  ·exact k.rt d M' v H'' q' (((e1.trans e2).trans e3).trans e') hr' rv'
 ·rw[List.drop_eq_nil_of_le (by lia)]at f2;exact .inl ⟨stop (by lia),k.nx Δ2 M2 σ2 H2 f2 (e1.trans e2) hr2 sr2⟩
theorem yL{X:Cx}{c:J0}{pos:Pos}{body:List X1}{tc:TTd}{tb:TSd}(hp:aa6 (J9 X.prog X.w) X.A X.env X.xe) (hc:QTd X c tc) (hb:QSs X body tb):QSd X (.While c body [] pos) (vq tc tb):=by
 simp only[QTd.eq,QSd.eq,QSs.eq]at *
 refine(uR hp hc hb).conv fun D σ H hh=>?_;obtain⟨Δ,M,E,sr,hr,⟨W,⟨m0,w0⟩,turn⟩,k⟩:=hh;refine⟨fun m σ' H'=>∃ Δ' M',Ext M H M' H'/\HR X.K M' H'/\SR X.K M' H' σ' Δ'/\W m Δ' M',⟨m0,Δ,M,Ext.refl _ _,hr,sr,w0⟩,?_⟩;rintro m σ1 H1 ⟨Δ1,M1,e1,hr1,sr1,w1⟩;refine⟨Δ1,M1,_,sr1,hr1,turn m Δ1 M1 w1,fun b M2 H2 q2 e2 hr2=>?_⟩;cases b with
 |true =>
  simp only[if_true]at q2 ⊢;refine⟨fun σ' H'=>∃m',m'<m/\∃ Δ' M',Ext M H M' H'/\HR X.K M' H'/\SR X.K M' H' σ' Δ'/\W m' Δ' M',fun σ' H' z=>z,Δ1,M2,_,sr1.ext e2,hr2,q2,⟨fun Δ' M' σ' H'' ⟨m',hm,w'⟩ e' hr' sr'=>?_,fun Δ' M' σ' H'' q' e' hr' sr'=>?_,fun Δ' M' σ' H'' ⟨m',hm,w'⟩ e' hr' sr'=>?_,fun d M' v H'' q' e' hr' rv'=>?_⟩⟩
  ·exact⟨m',hm,Δ',M',(e1.trans e2).trans e',hr',sr',w'⟩
  ·exact k.nx Δ' M' σ' H'' q' ((e1.trans e2).trans e') hr' sr'
  ·exact⟨m',hm,Δ',M',(e1.trans e2).trans e',hr',sr',w'⟩
  ·exact k.rt d M' v H'' q' ((e1.trans e2).trans e') hr' rv'
 |false =>
  simp only[N3,if_false]at q2 ⊢;exact k.nx Δ1 M2 σ1 H2 q2 (e1.trans e2) hr2 (sr1.ext e2)
theorem bX{X:Cx}:QIf X [] vQ:=by
 simp only[QIf.eq]at *
 exact fun aa s σ H Q I ⟨Δ,M,R,sr,hr,q,k⟩=>yU aa s σ H Q I (k true M H q (Ext.refl _ _) hr)
theorem gF{X:Cx}{c:J0}{tc:TTd}(h:QTd X c tc):QIf X [c] tc:=by
 simp only[QTd.eq,QIf.eq]at *
 exact xf h
theorem e9{X:Cx}{pos:Pos}{tg:J0}{iter:J0}{elt:J0}{scope:O9}{cl:List (Str×F5)}{ms:List Bool}{ag:List Str}{ifs:List J0}{wi:TId}{g:GD}{tc:TTd}{te:TEd}(S:cy X scope cl ms ag) (bJ:X.calm=true) (hi:QId X tg iter wi) (hg:PGa X scope cl ag tg g)
  (hif:∀C s H ex,QIf (ax X scope cl (X.N++ag) C s H ex) ifs tc) (he:∀C s H ex,QEd (ax X scope cl (X.N++ag) C s H ex) elt te)
  (hs:∀x,M9 iter X.env x=U9 x:=by intro _;rfl):QEd X (.ListComp elt [⟨tg,iter,ifs,0⟩] scope pos) (dLc ms ag.length wi g tc te):=by
 simp only[QEd.eq,QId.eq,QIf.eq]at *
 obtain⟨gv,pg,kg⟩:=hg;exact(Bl (tc:=upT X.K tc) S bJ hi pg hif (qX (te:=up X.K te) he) hs).conv (nW kg)
theorem xv{X:Cx}{pos:Pos}{tg:J0}{iter:J0}{elt:J0}{scope:O9}{cl:List (Str×F5)}{ms:List Bool}{ag:List Str}{ifs:List J0}{i:Nat}{x:Str}{spos pos':Pos}{wi:TId}{g:GD}{tc:TTd}{te:TEd}(hN:X.N.Nodup) (hix:X.N[i]?=some x) (hx:X.env.scope.names.lookup x=some .local)
  (hsw:U6 (.ListComp elt [⟨tg,iter,ifs,0⟩] scope pos) (some (.Name x pos')) spos.line X.env=U9 true) (S:cy X scope cl ms ag) (bJ:X.calm=true) (hi:QId X tg iter wi) (hg:PGa X scope cl ag tg g)
  (hif:∀C s H ex,QIf (ax X scope cl (X.N++ag) C s H ex) ifs tc) (he:∀C s H ex,QEd (ax X scope cl (X.N++ag) C s H ex) elt te)
  (hs:∀x,M9 iter X.env x=U9 x:=by intro _;rfl):QSd X (.Assign [.Name x pos'] (.ListComp elt [⟨tg,iter,ifs,0⟩] scope pos) spos) (u9 i (dLc ms ag.length wi g tc te)):=by
 simp only[QEd.eq,QSd.eq,QId.eq,QIf.eq]at *
 obtain⟨gv,pg,kg⟩:=hg;refine(lW (tc:=upT X.K tc) hN hix hx hsw S bJ hi pg hif (qX (te:=up X.K te) he) hs).conv fun D σ H hh=>?_;obtain⟨Δ,M,E,sr,hr,q,k⟩:=hh;exact nW kg σ H _ ⟨Δ,M,_,sr,hr,q,fun d M1 v H1 q1 e1 hr1 rv=>k.nx _ M1 _ H1 q1 e1 hr1 ((sr.ext e1).set i rv)⟩
theorem w6{X:Cx}{e:J0}{te:TEd}{pos:Pos}{o i:J0}{to ti:TEd}{p:Pos}(ho:QEd X o to) (hi:QEd X i ti) (he:QEd X e te)
  (ha:∀ v,T5 (.Subscript o i p) X.env v = (do
   let ov <-Z3 [v] (U0 o X.env)
   let iv <-Z3 [v,ov] (U0 i X.env)
   standAt p
   Z3 [v,ov,iv] (setItem ov iv v)
   release [v,ov,iv] []):=by intro _;rfl) (hs:swapsWithSole [.Subscript o i p] e pos.line X.env=U9 false:=by rfl) (hw:swappedStores [.Subscript o i p] e X.env=U9 none:=by rfl)
  (h1:(N7 [.Subscript o i p] X.env).map (·.2)=[T5 (.Subscript o i p) X.env]:=by rfl):QSd X (.Assign [.Subscript o i p] e pos) (Ck to ti te):=by
 simp only[QEd.eq,QSd.eq]at *
 exact(v7 he (BM ho hi uG ha) hs hw h1).conv fun D σ H hup=>hup.el fun Δ M E sr hr q k=>⟨Δ,M,_,sr,hr,q,fun d M1 v H1 q1 e1 hr1 rv=>⟨Δ,M1,_,sr.ext e1,hr1,q1,fun o M2 ov H2 q2 e2 hr2 ro=>⟨Δ,M2,_,(sr.ext e1).ext e2,hr2,q2,fun i M3 iv H3 ⟨a,ds,kk,j,eo,ei,em,ej,q3⟩ e3 hr3 ri=>by
   subst eo;subst ei;simp only[Rep]at ro ri;subst ro;subst ri;obtain⟨vs,hv,rl⟩:=hr3 a _ em;refine⟨a,vs,kk,j,rfl,rfl,hv,by rw[<-rl.length];exact ej,?_⟩;exact k.nx Δ _ σ _ q3 (((e1.trans e2).trans e3).trans (Ext.write em)) (hr3.write em (rl.set j ((rv.ext e2).ext e3))) ((((sr.ext e1).ext e2).ext e3).ext (Ext.write em))⟩⟩⟩
theorem zH{X:Cx}{e:J0}{te:TEd}{o:J0}{to:TEd}{dv bP:Pos}(ho:QEd X o to) (he:QEd X e te) (j8:W7 o "append" X.env (U0 o X.env)=U0 o X.env:=by rfl)
  (hse:I0 [e] X.env=(false,U0 e X.env)::I0 [] X.env:=by rfl)
  (BZ:((T4 bP (I0 [e] X.env)).all (fun x => !x.1) && (backToKw bP (Z6 [] X.env)).all (fun x => x.1.isSome)
  &&decide ([e].length+([]:List X4).length+(if([]:List X4).isEmpty then 0 else 1)<30))=true:=by rfl)
  (kC:(dv.endLine==bP.line)=true:=by rfl) (qQ:(T4 bP (I0 [] X.env)).any (·.1)=false:=by rfl):QEd X (.Call (.Attribute o "append" dv) [e] [] bP) (Ai to te):=by
 simp only[QEd.eq]at *
 exact(Cj PySem.F.plainAttrs_list PySem.F.slot_list_append PySem.F.type_list_append (show MtR X "list.append" su from um) ho (jw he ql hse) j8 BZ kC hse qQ).conv fun σ H Q hup=>hup.el fun Δ M R sr hr q k=>⟨Δ,M,_,sr,hr,q,fun o M1 ov H1 ⟨a,l,eo,em,q1⟩ e1 hr1 ro=>by
   subst eo;simp only[Rep]at ro;subst ro;obtain⟨vs,hv,rl⟩:=hr1 a _ em;refine⟨.inl ⟨rfl,vs,SqL.of hv⟩,Δ,M1,_,sr.ext e1,hr1,q1,fun d M2 v H2 ⟨ds,em2,hz,q2⟩ e2 hr2 rv=>?_⟩;obtain⟨ws,hw,rl2⟩:=hr2 a _ em2;refine⟨a,ws,v,rfl,rfl,hw,by rw[<-rl2.length];exact hz,k _ _ _ _ q2 ((e1.trans e2).trans (Ext.write em2)) (hr2.write em2 (rl2.append (ak.cons rv ak.nil))) (by simp[Rep])⟩⟩
theorem pB{X:Cx}{a:J0}{ta:TEd}{pos:Pos}{T:Str}{Tn:String}{p p2:Pos}(hT:okT Tn=true) (hg:Gl X "isinstance") (hm:X.mg "isinstance"=none) (hg2:Gl X T) (hm2:X.mg T=none) (hv2:Q4 T=some (.type Tn)) (ha:QEd X a ta) (hn2:T≠"__name__":=by decide) (hd2:(T==("__debug__":Str))=false:=by decide)
  (hs:I0 [a,.Name T p2] X.env=(false,U0 a X.env)::I0 [.Name T p2] X.env:=by rfl) (hs2:I0 [.Name T p2] X.env=(false,U0 (.Name T p2) X.env)::I0 [] X.env:=by rfl) (hpl:(T4 pos (I0 [.Name T p2] X.env)).any (·.1)=false:=by rfl) :
  QEd X (.Call (.Name "isinstance" p) [a,.Name T p2] [] pos) (CV Tn ta):=by
 simp only[QEd.eq]at *
 have hc:cb X (.builtin "isinstance") (fun xs H Q=>∃v d k M,xs=[v,.ty Tn]/\aK X.K M H d v/\yT Tn d=some k/\Q (.bl k) H):=by
  intro aa s σ H xs us Q I rv h;obtain⟨v,d,k,M,rfl,rd,ek,q⟩:=h;obtain⟨u1,u2,rfl,r1,r2⟩:=av.two rv;cases r2;exact tJ hT I r1 rd ek q
 refine(oz hc hg hm (by kernel_rfl) (jw ha (jw (xt (v:=.ty Tn) hg2 hm2 hv2 rfl hn2 hd2) ql hs2) hs) (by decide) (by decide) hs hpl).conv fun σ H Q hh=>?_;obtain⟨Δ,M,R,sr,hr,q,k⟩:=hh;exact⟨Δ,M,_,sr,hr,q,fun d M1 v H1 ⟨kk,ek,q1⟩ e1 hr1 rv=>⟨v,_,kk,M1,rfl,rv.rd hr1,ek,k _ M1 _ H1 q1 e1 hr1 (by simp[Rep])⟩⟩
theorem jA{X:Cx}:QOd X none nK:=by
 simp only[QEd.eq,QAd.eq,QTd.eq,QWd.eq,QSd.eq,QSs.eq,QId.eq,QIf.eq,QOd.eq]at *
 exact xj 
theorem fS{X:Cx}{e:J0}{te:TEd}(h:QEd X e te):QOd X (some e) (wV te):=by
 simp only[QEd.eq,QAd.eq,QTd.eq,QWd.eq,QSd.eq,QSs.eq,QId.eq,QIf.eq,QOd.eq]at *
 exact xG (h:=h)
theorem qc{X:Cx}{e:J0}{es:List J0}{t:TAd}{pos:Pos}{p:Pos}{x:Str}{k:Nat}{n:Nat}{S:SpD}(F:FnD X.prog X.w X.K X.mg X.base x k n S) (hr:cj k X.A) (hg:Gl X x) (ha:QAd X (e::es) t) (hdb:(x==("__debug__":Str))=false:=by decide) (he:I0 (e::es) X.env=(false,U0 e X.env)::I0 es X.env:=by rfl) (hpl:(T4 pos (I0 es X.env)).any (·.1)=false:=by rfl) :
  QEd X (.Call (.Name x p) (e::es) [] pos) (pO n S t):=by
 simp only[QEd.eq,QAd.eq,QTd.eq,QWd.eq,QSd.eq,QSs.eq,QId.eq,QIf.eq,QOd.eq]at *
 exact dc (F:=F) (hr:=hr) (hg:=hg) (ha:=ha) (hdb:=hdb) (he:=he) (hpl:=hpl)
theorem uN{X:Cx}{e:J0}{te:TEd}{pos:Pos}(he:QEd X e te):QSd X (.Return (some e) pos) (zl te):=by
 simp only[QEd.eq,QSd.eq]at *
 exact(qz he).conv fun D σ H hup=>hup.el fun Δ M E sr hr q k=>⟨Δ,M,_,sr,hr,q,fun d M1 v H1 ⟨a,ds,ed,em,q1⟩ e1 hr1 rv=>by
  subst ed;simp only[Rep]at rv;subst rv;exact k.rt _ _ _ H1 q1 (e1.trans (Ext.le LeM.del)) (hr1.le LeM.del) (Rep.froze hr1 LeM.del em cT)⟩
theorem bI{X:Cx}{te:TEd}{tg:J0}{iter:J0}(h:QEd X iter te):QId X tg iter (zN te):=by
 simp only[QEd.eq,QId.eq]at *
 intro aa s σ H R I hh;obtain⟨Δ,M,R',sr,hr,q,k⟩:=hh;refine thn (h aa s σ H (fun v H1=>∃d ds M1,gG d=some ds/\(ds.length<=E9->R' ds M1)/\Ext M H M1 H1/\HR X.K M1 H1/\Rep X.K M1 H1 d v) I ⟨Δ,M,_,sr,hr,q,fun d M1 v H1 ⟨ds,ed,q1⟩ e1 hr1 rv=>⟨d,ds,M1,ed,q1,e1,hr1,rv⟩⟩) fun u s1 ⟨v,H1,I1,r1,d,ds,M1,ed,q1,e1,hr1,rv⟩=>?_;have lo:=aK.len (K:=X.K) I1 rv;cases d with
 |tup es =>
  cases ed;simp only[Rep]at rv;obtain⟨a,vs,rfl,ta,rl⟩:=rv;cases r1;obtain⟨its,rvv,p,hz⟩:=I1.tuple ta.sq;refine wpAny_pyIter_tuple (show s1.heap.IsTuple a its.toArray from p) ?_;refine⟨s1.heap.objs.size,[s1.heap.objs.size],_,_,H1,rfl,I1.kept (t':=s1.toks) fun b o e=>E8 _ e,qy a _,⟨_,H0 _ rfl,rfl,rfl⟩,p9 (o:=default) I1,?_⟩;refine k _ M1 _ H1 (q1 lo) e1 hr1 fun M2 H2 e2 hr2 i=>⟨fun d hd=>?_,fun hl=>⟨vs,(ta.ext e2).sq,by rw[<-rl.length];exact hl⟩⟩;obtain⟨v,gv,r⟩:=rl.get hd;refine⟨⟨vs,v,(ta.ext e2).sq,gv⟩,fun x H' ⟨eH,y⟩=>?_⟩;subst eH;have:=y vs (ta.ext e2).sq;rw[gv]at this;cases this;exact⟨Ext.refl _ _,hr2,r.ext e2⟩
 |lst es =>
  cases ed;simp only[Rep]at rv;obtain⟨a,vs,rfl,ta,rl⟩:=rv;cases r1;obtain⟨its,rvv,p,hz⟩:=I1.list (SqL.of ta.1);refine wpAny_pyIter_list p.isList ?_;refine⟨s1.heap.objs.size,[s1.heap.objs.size],_,_,H1,rfl,I1.kept (t':=s1.toks) fun b o e=>E8 _ e,mD a _,⟨_,H0 _ rfl,rfl,rfl⟩,p9 (o:=default) I1,?_⟩;refine k _ M1 _ H1 (q1 lo) e1 hr1 fun M2 H2 e2 hr2 i=>⟨fun d hd=>?_,fun hl=>⟨vs,SqL.of (ta.ext e2).1,by rw[<-rl.length];exact hl⟩⟩;obtain⟨v,gv,r⟩:=rl.get hd;refine⟨⟨vs,v,SqL.of (ta.ext e2).1,gv⟩,fun x H' ⟨eH,y⟩=>?_⟩;subst eH;have:=y vs (SqL.of (ta.ext e2).1);rw[gv]at this;cases this;exact⟨Ext.refl _ _,hr2,r.ext e2⟩
 |scr es =>
  cases ed;simp only[Rep]at rv;obtain⟨a,vs,rfl,ta,rl⟩:=rv;cases r1;obtain⟨its,rvv,p,hz⟩:=I1.list ta.sq;refine wpAny_pyIter_list p.isList ?_;refine⟨s1.heap.objs.size,[s1.heap.objs.size],_,_,H1,rfl,I1.kept (t':=s1.toks) fun b o e=>E8 _ e,mD a _,⟨_,H0 _ rfl,rfl,rfl⟩,p9 (o:=default) I1,?_⟩;refine k _ M1 _ H1 (q1 lo) e1 hr1 fun M2 H2 e2 hr2 i=>⟨fun d hd=>?_,fun hl=>⟨vs,(ta.ext e2).sq,by rw[<-rl.length];exact hl⟩⟩;obtain⟨v,gv,r⟩:=rl.get hd;refine⟨⟨vs,v,(ta.ext e2).sq,gv⟩,fun x H' ⟨eH,y⟩=>?_⟩;subst eH;have:=y vs (ta.ext e2).sq;rw[gv]at this;cases this;exact⟨Ext.refl _ _,hr2,r.ext e2⟩
 |str x =>
  simp only[gG]at ed
  by_cases hz:x.length<=E9
  ·rw[if_pos hz]at ed;cases ed;simp only[Rep]at rv;subst rv;obtain⟨t,rfl⟩:=r1;have hq:=k _ M1 _ H1 (q1 (by have hz2:x.cps.size<=E9:=hz;simpa[i8]using hz2)) e1 hr1 Ay;cases ha:x.cps.all (·<128)
   ·exact wpAny_pyIter_wide ha (rW I1 "str_iterator" (by decide) (fun A hA=>Walks.strWide hA _ x t) (fun A i s' Q E st q=>wpAny_pyIter_striter_wide st q) hq)
   ·exact wpAny_pyIter_ascii ha (rW I1 "str_ascii_iterator" (by decide) (fun A hA=>Walks.strAscii hA _ x t) (fun A i s' Q E st q=>wpAny_pyIter_striter_ascii st q) hq)
  ·rw[if_neg hz]at ed;cases ed
 |_=>cases ed
theorem bN{X:Cx}{e:J0}{te:TEd}{pos:Pos}(he:QEd X e te):QSd X (.Return (some e) pos) (zV te):=by
 simp only[QEd.eq,QSd.eq]at *
 exact(qz he).conv fun D σ H hup=>hup.el fun Δ M E sr hr q k=>⟨Δ,M,_,sr,hr,q,fun d M1 v H1 ⟨M2,hle,q1⟩ e1 hr1 rv =>
  k.rt _ _ _ H1 q1 (e1.trans (Ext.le hle)) (hr1.le hle) (rv.ext (Ext.le hle))⟩
theorem fE{X:Cx}{e:J0}{te:TEd}{pos:Pos}{lo hi:Option J0}{tl th:TOd}{p2:Pos}(he:QEd X e te) (hl:QOd X lo tl) (hu:QOd X hi th):QEd X (.Subscript e (.Slice lo hi none p2) pos) (Dj te tl th):=by
 simp only[QEd.eq,QOd.eq]at *
 refine(uT (SlR.or yN (SlR.or A8 (SlR.or A4 wt))) he hl hu).conv fun σ H Q hh=>?_;obtain⟨Δ,M,R,sr,hr,q,k⟩:=hh;refine⟨Δ,M,_,sr,hr,q,fun x M1 v H1 q1 e1 hr1 rv=>⟨Δ,M1,_,sr.ext e1,hr1,q1,fun l M2 H2 q2 e2 hr2=>⟨Δ,M2,_,(sr.ext e1).ext e2,hr2,q2,fun u M3 H3 ⟨z,ez,q3⟩ e3 hr3=>?_⟩⟩⟩;have rr:=((rv.ext e2).ext e3).rd hr3;have ee:=(e1.trans e2).trans e3;have kk:∀w H',Ext M3 H3 M3 H'->HR X.K M3 H'->Rep X.K M3 H' z w->Q w H':=fun w H' e4 hr4 r4=>k z M3 w H' q3 (ee.trans e4) hr4 r4;generalize rdM M3 x=d at rr ez;cases d with
 |lst ds =>
  cases ez;obtain⟨a,vs,rfl,sq,rl⟩:=rr;refine .inl ⟨a,vs,rfl,SqL.of sq,fun p hp=>dP hr3 hp ?_ kk⟩;unfold dS mX;rw[<-rl.length];exact(rl.drop _).take _
 |scr ds =>
  cases ez;obtain⟨a,vs,rfl,sq,rl⟩:=rr;refine .inl ⟨a,vs,rfl,sq,fun p hp=>dP hr3 hp ?_ kk⟩;unfold dS mX;rw[<-rl.length];exact(rl.drop _).take _
 |str s =>
  simp only[slE,slD]at ez
  by_cases hz:s.length<=E9
  ·rw[if_pos hz]at ez;cases ez;exact .inr (.inr (.inl ⟨s,lI rr,hz,kk _ H3 (Ext.refl _ _) hr3 (by simp[Rep])⟩))
  ·rw[if_neg hz]at ez;cases ez
 |tup ds =>
  cases ez;have rt:=aK.tup hr3 rr;obtain⟨a,vs,rfl,sq,rl⟩:=rr
  by_cases hw:HT.sIx ds.length 0 l=0/\HT.sIx ds.length ds.length u=ds.length
  ·refine .inr (.inr (.inr ⟨a,vs,rfl,sq,by rw[<-rl.length];exact hw,kk _ H3 (Ext.refl _ _) hr3 ?_⟩));rw[qw hw];exact rt
  ·refine .inr (.inl ⟨a,vs,rfl,sq,by rw[<-rl.length];exact hw,fun p hp=>j7 hr3 hp ?_ kk⟩);unfold dS mX;rw[<-rl.length];exact(rl.drop _).take _
 |_=>cases ez
theorem ux{X:Cx}{pos:Pos}{scope:O9}{cl:List (Str×F5)}{ms:List Bool}{ag:List Str}{ifs:List J0}{tg:J0}{iter:J0}{elt:J0}{i:Nat}{x:Str}{spos pos':Pos}{wi:TId}{g:GD}{tc:TTd}{te:TEd}(hN:X.N.Nodup) (hix:X.N[i]?=some x) (hx:X.env.scope.names.lookup x=some .local)
  (hsw:U6 (.ListComp elt [⟨tg,iter,ifs,0⟩] scope pos) (some (.Name x pos')) spos.line X.env=U9 true) (S:cy X scope cl ms ag) (bJ:X.calm=true) (hi:QId X tg iter wi) (hg:PGa X scope cl ag tg g)
  (hif:∀C s H ex,QIf (ax X scope cl (X.N++ag) C s H ex) ifs tc) (he:∀C s H ex,QEd (ax X scope cl (X.N++ag) C s H ex) elt te)
  (hs:∀x,M9 iter X.env x=U9 x:=by intro _;rfl):QSd X (.Assign [.Name x pos'] (.ListComp elt [⟨tg,iter,ifs,0⟩] scope pos) spos) (u9 i (BN ms ag.length wi g tc te)):=by
 simp only[QEd.eq,QSd.eq,QId.eq,QIf.eq]at *
 obtain⟨gv,pg,kg⟩:=hg;refine(lW (tc:=upT X.K tc) hN hix hx hsw S bJ hi pg hif (qX (te:=up X.K te) he) hs).conv fun D σ H hh=>?_;obtain⟨Δ,M,E,sr,hr,q,k⟩:=hh;exact ur kg σ H _ ⟨Δ,M,_,sr,hr,q,fun d M1 v H1 q1 e1 hr1 rv=>k.nx _ M1 _ H1 q1 e1 hr1 ((sr.ext e1).set i rv)⟩
section
variable{X:Cx}{rest:List X1}{t:TSd}{e:J0}{tt:TTd}
theorem xP(h:QSs X rest t):xR X rest t:=by
 rw[QSs.eq]at h;exact h
theorem lD(h:QWd X e tt):QTd X e tt:=by
 simp only[QWd.eq,QTd.eq]at *
 exact PWd.pt h
end
end L2
namespace L2
open PySem PySem.Spec PyProof.Rows PySem.Builtin.Str
end L2
namespace L2
open PySem PySem.Spec PyProof.Rows
def Few(n:Int):Prop:=K4.Int.intBits n<=2 ^ 20
end L2
namespace Att
open PySem PySem.W PySem.Calls PyProof.Rows
end Att
namespace L2
open PySem PySem.Spec PyProof.Rows
section
variable{X:Cx}{pos:Pos}
instance (n:Int):Decidable (Few n):=by unfold Few;exact inferInstance
def jf(i j:Int):Prop:=iU i j∨(Few i/\Few j)
instance:∀i j,Decidable (jf i j):=fun i j=>Classical.propDecidable _
theorem jf.ok{i j:Int}(h:jf i j):IntMulOk i j:=by
 rcases h with h|⟨a,b⟩
 ·exact h.ok
 ·exact .of_bits a b
theorem xq:OpR X (N5 .Mult) (rI jf fun i j=>.int (i*j)):=opI fun _ _ _ _ _ _ _ hc q=>mul_int q hc.ok
theorem vn:bM X (N5 .Mult) (iOp fun i j=>if jf i j then some (.int (i*j))else none):=om (fun _ _=>rfl) xq
theorem vY{K:o0}{M:DH}{H:Hp}{a b:D}{xs:List V}(h:O4 (aK K M H) [a,b] xs):∃v w,xs=[v,w]/\aK K M H a v/\aK K M H b w:=by
 cases h with
 |cons r t =>
  cases t with
  |cons r2 t2=>cases t2;exact⟨_,_,rfl,r,r2⟩
def dmD:List D->Option D
 |[.int i,.int j]=>if jQ i j then some (.tup [.int (i / j),.int (i % j)])else none
 |_=>none
theorem vT:ba X (.builtin "divmod") dmD:=ba.of oB fun H M xs ds dz Q hr rp e q=>by
 unfold dmD at e
 split at e
 ·rename_i i j
  by_cases hc:jQ i j
  ·rw[if_pos hc]at e;cases e;obtain⟨v,w,rfl,r1,r2⟩:=vY rp;rw[di r1,di r2];refine⟨i,j,rfl,hc,fun p hp=>?_⟩;exact j7 hr hp (ak.cons (by simp[Rep]) (ak.cons (by simp[Rep]) ak.nil)) q
  ·rw[if_neg hc]at e;cases e
 ·cases e
noncomputable def Au:List D->Option D
 |[.int i,.int j]=>some (.int (if j > i then j else i))
 |_=>none
theorem Dm(hc:X.calm=true):ba X (.builtin "max") Au:=ba.of (uc hc) fun H M xs ds dz Q hr rp e q=>by
 unfold Au at e
 split at e
 ·rename_i i j;cases e;obtain⟨v,w,rfl,r1,r2⟩:=vY rp;rw[di r1,di r2];exact⟨i,j,rfl,q _ H (Ext.refl _ _) hr (by simp[Rep])⟩
 ·cases e
end
open AutoSeq1 (wpAny_loadPart')
section
variable{prog:K2}{w:N4}{A:L8}{E:s0->u8->Prop}{s:u8}
end
def DY(b:Bool) (h:K3) (it a:F5) (i:Nat):Prop:=match b with|true=>h.IsTupleIter it a i|false=>h.IsListIter it a i
def EV(b:Bool):String:=match b with|true=>"tuple_iterator" |false=>"list_iterator"
theorem DY.of{b:Bool}{h:K3}{it a:F5}{i:Nat}(st:∃o,h.get? it=some o/\o.cls=.type (EV b)/\o.data=.fields #[.ref a,.int i 0]):DY b h it a i:=by
 cases b<;>exact st
theorem cI.upd{X:Cx}{aa:List (F5×Obj)}{H:Hp}{b T:F5}{o:HO}(f:cI X aa H b) (h:b≠T):cI X aa (upd H T o) b:=by
 obtain⟨f0,r⟩:=f;exact⟨by rw[aw h];exact f0,r⟩
section
variable{X:Cx}{pos:Pos}
theorem Be{i j:Int}:dmD [.int i,.int j]=if jQ i j then some (.tup [.int (i / j),.int (i % j)])else none:=rfl
theorem yy{i j:Int}:Au [.int i,.int j]=some (.int (if j > i then j else i)):=rfl
theorem vV:oT 10 60=True:=by simp[oT]
theorem A1{x:Int}(h0:-(10 ^ 60)<x) (h1:x<10 ^ 60):Few x:=by
 unfold Few;rw[intBits_le_iff];have h2:x.natAbs<10 ^ 60:=by lia
 exact F4 h2 (K0 (by decide:10 ^ 60<=2 ^ 200) (Nat.pow_le_pow_right (by decide) (by decide)))
theorem CQ{i j:Int}(h:Few i/\Few j):jf i j=True:=by simp[jf,h]
end
section
variable{X:Cx}{e:J0}{te ts:TEd}{pos:Pos}
end
section
variable{κ:Type} [DecidableEq κ]
noncomputable def bp(kvs:List (κ×D)) (k:κ):Option D:=(kvs.find? fun kv=>decide (kv.1=k)).map (·.2)
noncomputable def dR(kvs:List (κ×D)) (k:κ) (v:D):List (κ×D) :=
 if(kvs.any fun kv=>decide (kv.1=k))=true then kvs.map (fun kv=>if kv.1=k then(kv.1,v)else kv)else kvs++[(k,v)]
theorem vW{k:κ}:bp ([]:List (κ×D)) k=none:=rfl
theorem br{p:κ×D}{r:List (κ×D)}{k:κ}(e:p.1=k):bp (p::r) k=some p.2:=by simp[bp,O5,e]
theorem bt{p:κ×D}{r:List (κ×D)}{k:κ}(e:¬ p.1=k):bp (p::r) k=bp r k:=by simp[bp,O5,e]
theorem g7(k:κ):∀kvs:List (κ×D),(kvs.any fun kv=>decide (kv.1=k))=(bp kvs k).isSome
 |[]=>rfl
 |p::r=>by
  rw[O1]
  by_cases e:p.1=k
  ·simp only[br e,decide_eq_true e,Bool.true_or,Option.isSome_some]
  ·rw[bt e,decide_eq_false e,Bool.false_or];exact g7 k r
theorem oj(k j:κ) (y:D):∀kvs:List (κ×D),bp (kvs.map fun kv=>if kv.1=k then(kv.1,y)else kv) j=(bp kvs j).map fun x=>if j=k then y else x
 |[]=>rfl
 |p::r=>by
  have ih:=oj k j y r;rw[K7]
  by_cases h:p.1=k
  ·rw[if_pos h]
   by_cases e:p.1=j
   ·rw[br (p:=(p.1,y)) e,br e,Q3,if_pos (e.symm.trans h)]
   ·rw[bt (p:=(p.1,y)) e,bt e,ih]
  ·rw[if_neg h]
   by_cases e:p.1=j
   ·rw[br (p:=p) e,br e,Q3,if_neg (fun z=>h (e.trans z))]
   ·rw[bt (p:=p) e,bt e,ih]
theorem mC(k j:κ) (y:D):∀kvs:List (κ×D),bp kvs k=none->bp (kvs++[(k,y)]) j=if j=k then some y else bp kvs j
 |[],_=>by
  by_cases e:k=j
  ·rw[if_pos e.symm];exact br (p:=(k,y)) e
  ·rw[if_neg (fun z=>e z.symm)];exact bt (p:=(k,y)) e
 |p::r,hn=>by
  rw[List.cons_append];have hk:¬ p.1=k:=fun z=>by rw[br z]at hn;cases hn
  rw[bt hk]at hn;have ih:=mC k j y r hn
  by_cases e:p.1=j
  ·rw[br e,br e,if_neg (fun z=>hk (e.trans z))]
  ·rw[bt e,bt e,ih]
theorem fH(kvs:List (κ×D)) (k j:κ) (y:D):bp (dR kvs k y) j=if j=k then some y else bp kvs j:=by
 unfold dR
 by_cases a:(kvs.any fun kv=>decide (kv.1=k))=true
 ·rw[if_pos a,oj];rw[g7]at a
  by_cases e:j=k
  ·obtain⟨x,hx⟩:=N0.mp a;rw[if_pos e,e,hx,Q3,if_pos rfl]
  ·rw[if_neg e];cases bp kvs j with
   |none=>rfl
   |some x=>rw[Q3,if_neg e]
 ·rw[if_neg a];refine mC k j y kvs ?_;rw[g7]at a;cases q:bp kvs k with
  |none=>rfl
  |some x=>rw[q]at a;exact(a rfl).elim
theorem bZ(kvs:List (κ×D)) (k:κ) (v:D):(dR kvs k v).length<=kvs.length+1:=by
 unfold dR
 split
 ·rw[T8];lia
 ·rw[L1,R4,V5];exact F3 _
variable{K:o0}{M:DH}{H:Hp}
theorem KR.val{kvs:List (κ×D)}{ks:List (κ×V)}(h:KR K M H kvs ks) (k:κ):(∀d,bp kvs k=some d->∃v,e8 ks k=some v/\Rep K M H d v)/\(e8 ks k).isSome=(bp kvs k).isSome:=by
 unfold KR at h
 induction h with
 |nil=>exact⟨fun d e=>(nomatch e),rfl⟩
 |@cons p q ps qs r t ih =>
  by_cases e:p.1=k
  ·rw[br e,iy (r.1.symm.trans e)];exact⟨fun d z=>(by cases z;exact⟨_,rfl,r.2⟩),rfl⟩
  ·rw[bt e,gR (fun z=>e (r.1.trans z))];exact ih
theorem KR.any{kvs:List (κ×D)}{ks:List (κ×V)}(h:KR K M H kvs ks) (k:κ):(ks.any fun kv=>decide (kv.1=k))=kvs.any fun kv=>decide (kv.1=k):=by
 unfold KR at h
 induction h with
 |nil=>rfl
 |cons r _ ih=>rw[O1,O1,ih,r.1]
theorem KR.length{kvs:List (κ×D)}{ks:List (κ×V)}(h:KR K M H kvs ks):kvs.length=ks.length:=V1 h
theorem KR.put{kvs:List (κ×D)}{ks:List (κ×V)}(h:KR K M H kvs ks) (k:κ) {d:D}{v:V}(r:Rep K M H d v):KR K M H (dR kvs k d) (cN ks k v):=by
 unfold dR cN;rw[h.any k]
 by_cases e:(kvs.any fun kv=>decide (kv.1=k))=true
 ·rw[if_pos e,if_pos e];clear e;unfold KR at h ⊢
  induction h with
  |nil=>exact .nil
  |@cons p q ps qs r1 t ih =>
   rw[K7,K7];refine .cons ?_ ih
   by_cases e:p.1=k
   ·rw[if_pos e,if_pos (r1.1.symm.trans e)];exact⟨r1.1,r⟩
   ·rw[if_neg e,if_neg (fun z=>e (r1.1.trans z))];exact r1
 ·rw[if_neg e,if_neg e];exact O4.snoc h ⟨rfl,r⟩
end
def kD:Key->D
 |.inl i=>.int i
 |.inr x=>.str x
theorem jS{K:o0}{M:DH}{H:Hp}{k:Key}{v:V}(h:Rep K M H (kD k) v):v=kV k:=by
 cases k<;>simpa[kD,Rep,kV]using h
theorem eQ{K:o0}{M:DH}{H:Hp}:∀{ks:List Key}{vs:List V},ak K M H (ks.map kD) vs->vs=ks.map kV
 |[],_,h=>by simpa[ak]using h
 |k::ks,_,h=>by
  simp only[K7,ak]at h;obtain⟨v,ws,rfl,h1,h2⟩:=h;rw[jS h1,eQ h2];rfl
section
variable{X:Cx}{a b c e o i:J0}{es:List J0}{te to ti ta tb:TEd}{t:TAd}{pos:Pos}
def dDT:TEd:=fun _ M Q=>∀p,M p=none->Q (.ref p) (au M p (.dT []))
def wk(tk tv:TEd):TEd:=fun Δ M Q=>∀p,M p=none->tk Δ (au M p (.dK [])) fun x M1=>tv Δ M1 fun y M2=>∃k,x=kD k/\M2 p=some (.dK [])/\Q (.ref p) (au M2 p (.dK [(k,y)]))
def zC(to ti:TEd):TEd:=fun Δ M Q=>to Δ M fun x M1=>ti Δ M1 fun y M2=>∃a kvs k d,x=.ref a/\M2 a=some (.dK kvs)/\y=kD k/\bp kvs k=some d/\Q d M2
def zj(to:TEd) (t:TAd):TEd:=fun Δ M Q=>to Δ M fun x M1=>t Δ M1 fun ds M2=>∃a kvs ks d,x=.ref a/\M2 a=some (.dT kvs)/\ds=ks.map kD/\ds.length<=E9/\bp kvs ks=some d/\Q d M2
def A6(neg:Bool) (ti to:TEd):TEd:=fun Δ M Q=>ti Δ M fun y M1=>to Δ M1 fun x M2=>∃a kvs k,x=.ref a/\M2 a=some (.dK kvs)/\y=kD k/\Q (.bl (xor neg (bp kvs k).isSome)) M2
def xa(neg:Bool) (ty td:TE):TE:=fun σ H Q=>ty σ H fun y H1=>td σ H1 fun x H2=>∃a o,x=.ref a/\eN H2 a y o/\Q (.bl (xor neg o.isSome)) H2
theorem qE{ty td:TE}{op:ab1}{neg:Bool}(hop:op=(if neg then .NotIn else .In)) (hu:X.A.units+1<V6) (hi:PE X i ty) (ho:PE X o td):PC X op i o (xa neg ty td):=by
 subst hop;cases neg with
 |false =>
  intro aa s σ H Q I h;exact BE hu hi ho aa s σ H Q I (by simpa[xa,DS]using h)
 |true =>
  intro aa s σ H Q I h;exact uj hu hi ho aa s σ H Q I (by simpa[xa,rH]using h)
theorem uX{K:o0}{neg:Bool}:∀ σ H Q,up K (A6 neg ti to) σ H Q->xa neg (up K ti) (up K to) σ H Q:=fun σ H Q hup=>hup.el fun Δ M R sr hr q k=>⟨Δ,M,_,sr,hr,q,fun y M1 v H1 q1 e1 hr1 rv=>⟨Δ,M1,_,sr.ext e1,hr1,q1,fun x M2 u H2 ⟨a,kvs,ky,ex,em,ey,q2⟩ e2 hr2 ru=>by
  subst ex;subst ey;simp only[Rep]at ru;subst ru;obtain⟨ks,h2,kr⟩:=hr2 a _ em;refine⟨a,e8 ks ky,rfl,by rw[jS rv];exact eN.k h2,?_⟩;rw[(kr.val ky).2];exact k _ M2 _ H2 q2 (e1.trans e2) hr2 (by simp only[Rep])⟩⟩
def ze(neg:Bool) (t:TAd) (to:TEd):TEd:=fun Δ M Q=>t Δ M fun ds M1=>ds.length<=E9/\to Δ M1 fun x M2=>∃a kvs ks,x=.ref a/\M2 a=some (.dT kvs)/\ds=ks.map kD/\Q (.bl (xor neg (bp kvs ks).isSome)) M2
theorem pC{K:o0}{neg:Bool}:∀ σ H Q,up K (ze neg t to) σ H Q->xa neg (xm (upA K t)) (up K to) σ H Q:=fun σ H Q hup=>hup.el fun Δ M R sr hr q k=>⟨Δ,M,_,sr,hr,q,fun ds M1 vs H1 ⟨z,q1⟩ e1 hr1 rv=>⟨by rw[<-rv.length];exact z,fun p hp=>⟨Δ,M1,_,(sr.ext e1).ext (Ext.new hr1 hp),hr1.new hp,q1,fun x M2 u H2 ⟨a,kvs,ky,ex,em,ey,q2⟩ e2 hr2 ru=>by
  subst ex;subst ey;simp only[Rep]at ru;subst ru;obtain⟨ks,h2,kr⟩:=hr2 a _ em;have eb:=(e2 p _ az (hr1.fresh hp)).1;rw[eQ rv]at eb;refine⟨a,e8 ks ky,rfl,eN.t h2 eb,?_⟩;rw[(kr.val ky).2];exact k _ M2 _ H2 q2 ((e1.trans (Ext.new hr1 hp)).trans e2) hr2 (by simp only[Rep])⟩⟩⟩
theorem A9{K:o0}{te:TEd}{tv:TE}(h:∀ σ H Q,up K te σ H Q->tv σ H Q):∀ σ H Q,upT K (lP te) σ H Q->tB tv σ H Q:=fun σ H Q hup=>hup.el fun Δ M R sr hr q k =>
 h σ H _ ⟨Δ,M,_,sr,hr,q,fun d M1 v H1 ⟨b,e,q1⟩ e1 hr1 rv=>⟨b,by subst e;simpa only[Rep]using rv,k b M1 H1 q1 e1 hr1⟩⟩
def zZ(to ti te:TEd):TSd:=fun E Δ M=>te Δ M fun d M1=>to Δ M1 fun x M2=>ti Δ M2 fun y M3=>∃a kvs k,x=.ref a/\M3 a=some (.dK kvs)/\y=kD k/\kvs.length<E9/\E.nx Δ (au M3 a (.dK (dR kvs k d)))
def zw(to:TEd) (t:TAd) (te:TEd):TSd:=fun E Δ M=>te Δ M fun d M1=>to Δ M1 fun x M2=>t Δ M2 fun ds M3=>ds.length<=E9/\∃a kvs ks,x=.ref a/\M3 a=some (.dT kvs)/\ds=ks.map kD/\kvs.length<E9/\E.nx Δ (au M3 a (.dT (dR kvs ks d)))
def vP(to:TEd) (t:TAd) (te:TEd):TEd:=fun Δ M Q=>to Δ M fun x M1=>∃a kvs0,x=.ref a/\M1 a=some (.dT kvs0)/\t Δ M1 fun ds M2=>ds.length<=E9/\te Δ M2 fun z M3=>∃kvs ks,M3 a=some (.dT kvs)/\ds=ks.map kD/\Q ((bp kvs ks).getD z) M3
end
section
variable{X:Cx}{a b c e o:J0}{es:List J0}{te to:TEd}{t:TAd}{pos:Pos}{tg:J0}
noncomputable def Bs:List D->Option D
 |[.int i,.int j]=>some (.int (if j<i then j else i))
 |_=>none
theorem Dv(hc:X.calm=true):ba X (.builtin "min") Bs:=ba.of (tL hc) fun H M xs ds dz Q hr rp e q=>by
 unfold Bs at e
 split at e
 ·rename_i i j;cases e;obtain⟨v,w,rfl,r1,r2⟩:=vY rp;rw[di r1,di r2];exact⟨i,j,rfl,q _ H (Ext.refl _ _) hr (by simp[Rep])⟩
 ·cases e
noncomputable def eS:List D->Option (List Int)
 |[]=>some []
 |.int i::ds=>(eS ds).map (i::·)
 |_=>none
theorem ka:∀{ns:List Int},eS (ns.map D.int)=some ns
 |[]=>rfl
 |n::ns=>by simp[eS,ka (ns:=ns)]
def vt:D->Option D
 |.lst ds=>(eS ds).map fun ns=>.int ns.sum
 |_=>none
theorem qD{ns:List Int}:vt (.lst (ns.map D.int))=some (.int ns.sum):=by simp[vt,ka]
theorem l7{K:o0}{M:DH}{H:Hp}:∀{ds:List D}{ns:List Int}{vs:List V}{us:List s0},eS ds=some ns->ak K M H ds vs->av vs us->∃xs:Array (Int×Tok),us.toArray=intItems xs/\xs.toList.map (·.1)=ns
 |[],_,_,_,e,h,r=>by
  simp only[eS,K8.injEq]at e;subst e;simp only[ak]at h;subst h;cases r;exact⟨#[],by simp[intItems],rfl⟩
 |.int i::ds,ns,vs,us,e,h,r=>by
  simp only[eS]at e;cases q:eS ds with
  |none=>rw[q]at e;cases e
  |some ms =>
   rw[q]at e;cases e;simp only[ak]at h;obtain⟨v,ws,rfl,h1,h2⟩:=h;simp only[Rep]at h1;subst h1;cases r with
   |@cons x u xs' us' r1 r2 =>
    obtain⟨t,rfl⟩:=r1;obtain⟨ys,e1,e2⟩:=l7 q h2 r2;refine⟨(((i,t)::ys.toList)).toArray,?_,by simp[e2]⟩;have:us'=(intItems ys).toList:=by rw[<-e1]
    rw[this];simp[intItems]
 |.non::_,_,_,_,e,_,_=>by cases e
 |.bl _::_,_,_,_,e,_,_=>by cases e
 |.str _::_,_,_,_,e,_,_=>by cases e
 |.tup _::_,_,_,_,e,_,_=>by cases e
 |.lst _::_,_,_,_,e,_,_=>by cases e
 |.scr _::_,_,_,_,e,_,_=>by cases e
 |.emp::_,_,_,_,e,_,_=>by cases e
 |.box _ _::_,_,_,_,e,_,_=>by cases e
 |.ref _::_,_,_,_,e,_,_=>by cases e
theorem uY(hc:X.calm=true):ba X (.builtin "sum") (mY vt):=by
 intro aa s σ H M xs us ds dz Q I hr rv rp e k;obtain⟨d,rfl,e0⟩:=cu e;clear e;have e:=e0;clear e0;obtain⟨v,rfl,r⟩:=lw rp;obtain⟨u,rfl,ru⟩:=av.one rv;cases d with
 |lst ds =>
  simp only[vt]at e;cases q:eS ds with
  |none=>rw[q]at e;cases e
  |some ns =>
   rw[q]at e;cases e;obtain⟨l,vs,rfl,sq,rl⟩:=r;cases ru;obtain⟨its,rv,pl,hz⟩:=I.list (SqL.of sq);obtain⟨ys,e1,e2⟩:=l7 q rl rv;refine sum_intListG (xs:=ys) (I.ok.hd hc) (by rw[<-e1];exact pl.isList) fun h' tk t' kk=>?_;have I1:Inv X aa σ H { s with heap:=h',toks:=tk }:=I.kept (t':=tk) kk;refine⟨.int _,H,I1,⟨_,rfl⟩,k _ H (Ext.refl _ _) hr ?_⟩;have e3:preSum (numAt ys) ys.size=ns.sum:=by
    rw[preSum_eq,List.take_of_length_le (by simp),e2]
   rw[e3];simp[Rep]
 |_=>cases e
def A7(lo c:Int) (n:Nat):It:=⟨fun i _=>i<n,fun i H x H'=>H'=H/\x=.int (lo+i*c),fun i _=>n<=i⟩
theorem oG{P:K2}{w:N4}{K:o0}{tg:J0}(it:F5) (lo c:Int) (n:Nat):iL P w K tg (A7 lo c n) [it] it (fun i h=>Z4 h it (lo+(i:Nat)*c) ((n:Int)-(i:Nat)) c) where
 mem:=by simp
 obj:=fun i h st b hb=>by
  have e:b=it:=by simpa using hb
  subst e;exact⟨_,st,fun v z=>by
   have z':Data.fields _=Data.cell v:=z;cases z'⟩
 keep:=fun i h h' st k=>k it (by simp) _ st
 item:=by
  intro X hP hw hK hc i aa s σ H E I hf st hg;subst hP hw hK;obtain⟨f0,f1,f2,f3,f4,f5⟩:=hf it (by simp);have W:=Walks.range (prog:=X.prog) (w:=X.w) (I.ok.hd hc) it lo c n;refine W.item i s _ _ hg st fun v h' tk hv st' kk=>?_;obtain⟨t,rfl⟩:=hv;have I1:Inv X aa σ H { s with heap:=h',toks:=tk }:=I.turned (fun b o hb e=>kk b o (by simpa using hb) e) f0 f1 f3 f4 f5;exact⟨_,rfl,lY (s:={ s with heap:=h',toks:=tk }) (n:="range_iterator") st' rfl rfl (by decide) ⟨.int (lo+i*c),H,I1,⟨t,rfl⟩,⟨rfl,rfl⟩,st',fun b hb=>(hf b hb).1⟩⟩
 done:=by
  intro X hP hw hK hc i aa s σ H E I hf st hg;subst hP hw hK;obtain⟨f0,f1,f2,f3,f4,f5⟩:=hf it (by simp);exact wpAny_pyNext_range_end (I.ok.hd hc) st (by have:n<=i:=hg;omega) fun h' eb=>⟨rfl,I.turned (t':=s.toks) (fun b o hb e=>eb b o hb e) f0 f1 f3 f4 f5⟩
 self:=fun _ _ _ _ _ st h=>wpAny_pyIter_rangeiter st h
def szR(a b c:Int):Nat:=(N1 a b c).toNat
def Do(ta:TA):TI:=fun σ H R=>ta σ H fun vs H1=>∃i j c:Int,vs=[.int i,.int j,.int c]/\c≠0/\(-(2 ^ 20)<=i/\i<2 ^ 20/\-(2 ^ 20)<=j/\j<2 ^ 20/\-(2 ^ 20)<=c/\c<2 ^ 20)/\K4.Range.small i j c=true/\R (A7 i c (szR i j c)) H1
theorem xK{a b c:Int}(hc:c≠0):0<=N1 a b c:=by
 unfold N1
 split
 ·split
  ·have:=Int.ediv_nonneg (a:=b-a-1) (b:=c) (by omega) (by exact U7 (by assumption));omega
  ·decide
 ·split
  ·have:=Int.ediv_nonneg (a:=a-b-1) (b:=-c) (by omega) (by omega);omega
  ·decide
theorem tT{ta:TA}{p:Pos}(hg:Gl X "range") (hm:X.mg "range"=none) (ha:PA X [a,b,c] ta) (hs:I0 [a,b,c] X.env=[(false,U0 a X.env),(false,U0 b X.env),(false,U0 c X.env)]:=by rfl)
  (hs2:I0 [b,c] X.env=[(false,U0 b X.env),(false,U0 c X.env)]:=by rfl):PI X tg (.Call (.Name "range" p) [a,b,c] [] pos) (Do ta):=by
 intro aa s σ H R I h;refine Call_ (eI I hg hm boot_range (PyProof.Rows.callWith_type1 (thn (ha pos aa s σ H _ I h) fun us s1 hup=>hup.el fun vs H1 I1 r1 q1=>?_) (by rw[hs,hs2]) (by rw[hs2];rfl)));obtain⟨i,j,st,e,hc,⟨b1,b2,b3,b4,b5,b6⟩,hsm,q⟩:=q1;subst e;cases r1 with
 |cons r rr =>
  cases rr with
  |cons r' rr =>
   cases rr with
   |cons r'' rr =>
    cases rr;obtain⟨t,rfl⟩:=r;obtain⟨t',rfl⟩:=r';obtain⟨t'',rfl⟩:=r'';refine call_range_3 hc ?_ (Or.inl (PyProof.noPylong_small (by omega)));refine wpAny_pyIter_range (IsRange.new ..) hsm ?_;have I2:Inv X aa σ H1 { s1 with heap:=s1.heap.push { cls:=.type "range",data:=.fields #[.int i t,.int j t',.int st t''] },toks:=s1.toks }:=I1.kept fun b o e=>E8 _ e;refine⟨(s1.heap.push { cls:=.type "range",data:=.fields #[.int i t,.int j t',.int st t''] }).objs.size,[(s1.heap.push { cls:=.type "range",data:=.fields #[.int i t,.int j t',.int st t''] }).objs.size],_,_,H1,rfl,
     I2.kept (t':=s1.toks) fun b o e=>E8 _ e,oG _ i st (szR i j st),?_,fun b hb=>?_,q⟩
    ·have e1:i+((0:Nat):Int)*st=i:=by simp
     have e2:((szR i j st:Nat):Int)-((0:Nat):Int)=N1 i j st:=by
      unfold szR;have:=xK (a:=i) (b:=j) hc;omega
     show Z4 _ _ (i+((0:Nat):Int)*st) (((szR i j st:Nat):Int)-((0:Nat):Int)) st;rw[e1,e2];exact H0 _ rfl
    ·have e:b=(s1.heap.push { cls:=.type "range",data:=.fields #[.int i t,.int j t',.int st t''] }).objs.size:=by simpa using hb
     subst e;exact I2.fpOk (F3 _) (I2.hok.fresh (F3 _))
def gC(lo c:Int) (n:Nat):List D:=(V3 n).map fun(k:Nat)=>.int (lo+(k:Int)*c)
theorem fA{lo c:Int}{n i:Nat}{d:D}(h:(gC lo c n)[i]?=some d):i<n/\d=.int (lo+i*c):=by
 unfold gC at h;rw[N8]at h
 by_cases hi:i<n
 ·rw[List.getElem?_range hi]at h;cases h;exact⟨hi,rfl⟩
 ·rw[List.getElem?_eq_none (by simp;omega)]at h;cases h
theorem yE{K:o0}{lo c:Int}{n:Nat}{M1:DH}{H1:Hp}:ItD K (A7 lo c n) (gC lo c n) M1 H1:=fun M2 H2 e2 hr2 i=>⟨fun d hd=>by
  obtain⟨h1,rfl⟩:=fA hd;refine⟨h1,fun x H' ⟨eH,y⟩=>?_⟩;subst eH;subst y;exact⟨Ext.refl _ _,hr2,by simp[Rep]⟩,fun hl=>by
  show n<=i;simpa[gC]using hl⟩
def wN(ta:TAd):TId:=fun Δ M R=>ta Δ M fun ds M1=>∃i j c:Int,ds=[.int i,.int j,.int c]/\(c=2∨c=-1)/\(-(2 ^ 20)<=i/\i<2 ^ 20/\-(2 ^ 20)<=j/\j<2 ^ 20)/\R (gC i c (szR i j c)) M1
theorem tE{a b c:Int}(hc:c=2∨c=-1) (ha:-(2 ^ 20)<=a) (ha':a<2 ^ 20) (hb:-(2 ^ 20)<=b) (hb':b<2 ^ 20):K4.Range.small a b c=true:=by
 unfold K4.Range.small N1;rcases hc with rfl|rfl
 ·simp only[K4.Range.rangeFitsLong,J8,Bool.or_eq_true,decide_eq_true_eq,beq_iff_eq,show(2:Int) > 0 by decide,if_true]
  split<;>omega
 ·simp only[K4.Range.rangeFitsLong,J8,Bool.or_eq_true,decide_eq_true_eq,beq_iff_eq,show ¬ (-1:Int) > 0 by decide,if_false,show(- (-1:Int))=1 from rfl,Int.ediv_one]
  split<;>omega
theorem ak.three{K:o0}{M:DH}{H:Hp}{d e f:D}{vs:List V}(h:ak K M H [d,e,f] vs):∃v w z,vs=[v,w,z]/\Rep K M H d v/\Rep K M H e w/\Rep K M H f z:=by
 simp only[ak]at h;obtain⟨v,us,rfl,h1,w,ws,rfl,h2,z,zs,rfl,h3,rfl⟩:=h;exact⟨v,w,z,rfl,h1,h2,h3⟩
end
theorem eJ{x:Str}{c:F5}:∀{names:List (Str×J3)}{n:Nat}{acc:List (Str×F5)},(N6 n names acc).lookup x=some c->acc.lookup x=some c∨((x,O2)∈names/\n<=c)
 |[],_,_,h=>.inl h
 |(y,k)::r,n,acc,h=>by
  unfold N6 at h
  split at h
  ·rename_i hk;rcases eJ h with z|z
   ·rw[J1]at z;cases q:x==y with
    |true =>
     rw[q]at z;have e1:n=c:=J4 z;have e2:x=y:=by simpa using q
     have e3:k=.cell:=by simpa using hk
     subst e1;subst e2;subst e3;exact .inr ⟨L5,F3 _⟩
    |false=>rw[q]at z;exact .inl z
   ·exact .inr ⟨K5 _ z.1,U4 z.2⟩
  ·rcases eJ h with z|z
   ·exact .inl z
   ·exact .inr ⟨K5 _ z.1,z.2⟩
theorem qj:∀{names:List (Str×J3)}{n:Nat}{acc:List (Str×F5)},(∀x y c,acc.lookup x=some c->acc.lookup y=some c->x=y)->(∀x c,acc.lookup x=some c->c<n) ->
  ∀x y c,(N6 n names acc).lookup x=some c->(N6 n names acc).lookup y=some c->x=y
 |[],_,_,hi,_=>hi
 |(z,k)::r,n,acc,hi,hl=>by
  unfold N6
  split
  ·refine qj (fun x y c hx hy=>?_) (fun x c hx=>?_)
   ·rw[J1]at hx hy;cases q1:x==z with
    |true =>
     rw[q1]at hx;have e1:n=c:=J4 hx;subst e1;cases q2:y==z with
     |true=>exact(beq_iff_eq.mp q1).trans (beq_iff_eq.mp q2).symm
     |false=>rw[q2]at hy;exact absurd (hl y _ hy) (M8 _)
    |false =>
     rw[q1]at hx;cases q2:y==z with
     |true =>
      rw[q2]at hy;have e1:n=c:=J4 hy;subst e1;exact absurd (hl x _ hx) (M8 _)
     |false=>rw[q2]at hy;exact hi x y c hx hy
   ·rw[J1]at hx;cases q1:x==z with
    |true=>rw[q1]at hx;have e1:n=c:=J4 hx;exact e1▸O3 _
    |false=>rw[q1]at hx;exact J7 (hl x c hx)
  ·exact qj hi hl
theorem nF{x:Str}{c:F5}:∀{names:List (Str×J3)}{h:K3}{acc:List (Str×F5)},(N6 h.objs.size names acc).lookup x=some c->acc.lookup x=some c∨(pushCells h names).IsCell c none
 |[],_,_,e=>.inl e
 |(y,k)::r,h,acc,e=>by
  unfold N6 at e;unfold pushCells
  split at e
  ·rename_i hk;rw[if_pos hk];have e':(N6 (h.push { cls:=.type "cell",data:=.cell none }).objs.size r ((y,h.objs.size)::acc)).lookup x=some c:=by rw[S8];exact e
   rcases nF e' with z|z
   ·rw[J1]at z;cases q:x==y with
    |true =>
     rw[q]at z;have e1:h.objs.size=c:=J4 z;subst e1;exact .inr ⟨_,pushCells_keeps _ _ _ _ (H0 _ rfl),rfl⟩
    |false=>rw[q]at z;exact .inl z
   ·exact .inr z
  ·rename_i hk;rw[if_neg hk];exact nF e
theorem nc{M:Model}{A:L8}{E:s0->u8->Prop}{s:u8}{scope:O9}{globals:F5}{cl:List (Str×F5)}{qual:Str}{outer:Env}{builtins:F5}{Q:Env->u8->Prop}
  (hQ:∀ h',(∀ b o,s.heap.get? b = some o → h'.get? b = some o) → h'.Ns s.heap.objs.size (fun _ => none) →
   (∀x c,(N6 (s.heap.objs.size+1) scope.names cl).lookup x=some c->cl.lookup x=some c∨h'.IsCell c none) ->
   Q (newEnv scope s.heap.objs.size globals (N6 (s.heap.objs.size+1) scope.names cl) qual none .none (some outer) builtins) { s with heap:=h' }) :
  J5 M A (U5 scope globals cl [] qual none .none (some outer) builtins) Q E s:=by
 simp only[U5,Option.isSome_some,if_true];refine F0 (wpAny_alloc ?_);refine F0 (wpAny_layCells _ (fun name kind cells=>by cases hkc:kind==O2<;>simp[hkc]) _ _ _ _ ?_);have hsz:({ s with heap:=s.heap.push { cls:=.type "dict",data:=.dict #[] } }:u8).heap.objs.size=s.heap.objs.size+1:=S8 ..;rw[hsz];refine F0 ?_;rw[List.forIn_nil];refine F9 (F9 ?_);refine hQ _ (fun b o e=>pushCells_keeps _ _ b o (E8 _ e)) ((K3.Ns.new s.heap (.type "dict")).keeps (pushCells_keeps _ _)) fun x c e=>?_;refine nF (h:=s.heap.push { cls:=.type "dict",data:=.dict #[] }) ?_;rw[S8];exact e
def cxC(X:Cx) (scope:O9) (cl:List (Str×F5)) (N:List Str) (C:F5) (s:u8) (H:Hp) (ex:List F5):Cx :=
 { ax X scope (N6 (C+1) scope.names cl) N C s H ex with fn:=fun x=>scope.names.lookup x==some .cell }
theorem dh{env:Env}{x:Str}:∀{names:List (Str×J3)},(names.map fun(n,k)=>if(k==K1&&env.scope.kind==.function&&env.kindOf n==some .cell)then(n,O2)else(n,k)).lookup x =
  (names.lookup x).map fun k=>if(k==K1&&env.scope.kind==.function&&env.kindOf x==some .cell)=true then O2 else k
 |[]=>rfl
 |(n,k0)::r=>by
  have ih:=@dh env x r;show Z8 x ((if(k0==K1&&env.scope.kind==.function&&env.kindOf n==some .cell)=true then(n,O2)else(n,k0))::_)=_;cases hx:x==n with
  |true =>
   have e:x=n:=by simpa using hx
   subst e
   by_cases hq:(k0==K1&&env.scope.kind==.function&&env.kindOf x==some .cell)=true
   ·rw[if_pos hq];simp only[J1,hx,Q3,hq,if_true]
   ·rw[if_neg hq];simp only[J1,hx,Q3,hq,if_false,N3]
  |false =>
   by_cases hq:(k0==K1&&env.scope.kind==.function&&env.kindOf n==some .cell)=true
   ·rw[if_pos hq];simp only[J1,hx];exact ih
   ·rw[if_neg hq];simp only[J1,hx];exact ih
structure bU(X:Cx) (scope:O9) (cl:List (Str×F5)) (ms:List Bool) (ag:List Str):Prop where
 kind:scope.kind=.function
 names:∀y∈scope.names,y.2=.local->scope.names.lookup y.1=some .local
 cellN:∀y∈scope.names,y.2=.cell->scope.names.lookup y.1=some .cell
 clos:closureFor scope X.env=U9 cl
 sub:∀x c,cl.lookup x=some c->X.env.cells.lookup x=some c
 fre:∀x c,cl.lookup x=some c->scope.names.lookup x=some .free
 has:∀x,scope.names.lookup x=some .free->∃c,cl.lookup x=some c
 fr:∀x,scope.names.lookup x=some .free->X.env.scope.names.lookup x=some .cell∨X.env.scope.names.lookup x=some .free
 mask:∀(i:Nat) (x:Str),ms[i]?=some true->X.N[i]?=some x->scope.names.lookup x=some .free
 mlen:ms.length<=X.N.length
theorem yc{X:Cx}{scope:O9}{cl:List (Str×F5)}{ms:List Bool}{ag:List Str}(S:bU X scope cl ms ag) {n:Nat}{x:Str}{c:F5}(hf:scope.names.lookup x=some .free) (hc:cl.lookup x=some c):(N6 n scope.names cl).lookup x=some c:=by
 have h:=M0 (x:=x) scope.names n cl (.inr (by rw[hc];rfl));obtain⟨c',e⟩:=N0.mp h;rcases eJ e with z|z
 ·rw[hc]at z;cases z;exact e
 ·have:=S.cellN _ z.1 rfl;rw[hf]at this;cases this
section
variable{X:Cx}{aa:List (F5×Obj)}{σ:St}{H H2:Hp}{s s2:u8}{scope:O9}{cl:List (Str×F5)}{ms:List Bool}{ag:List Str}
theorem nY(I:Inv X aa σ H s) (S:bU X scope cl ms ag) {fp:List F5}(hfp:∀b∈fp,cI X aa H b) (hlt:∀b∈fp,b<s.heap.objs.size) {C:F5}(hC:s.heap.objs.size<=C) :
  (cxC X scope cl (X.N++ag) C s H fp).Ok where
 mod:=I.ok.mod
 kind:=S.kind
 glob:=I.ok.glob
 blt:=I.ok.blt
 above:=hC
 inj:=qj (fun x y c h1 h2=>I.ok.inj x y c (S.sub x c h1) (S.sub y c h2)) fun x c h=>by
  obtain⟨v,o,ho,_⟩:=I.cell x c (S.sub x c h);exact J7 (F4 (F2 ho) hC)
 has:=fun x hx=>by
  have hx':(V9 scope X.env).names.lookup x=some .cell∨(V9 scope X.env).names.lookup x=some .free:=hx;have e:(V9 scope X.env).names.lookup x=_:=dh (env:=X.env) (x:=x) (names:=scope.names);rw[e]at hx';refine N0.mp (M0 _ _ _ ?_);cases q:scope.names.lookup x with
  |none=>rw[q]at hx';simp at hx'
  |some k =>
   rw[q]at hx';cases k with
   |cell=>exact .inl rfl
   |free=>obtain⟨c,hc⟩:=S.has x q;exact .inr (by rw[hc];rfl)
   |_=>simp at hx'
 cab:=fun x c h e=>by
  have hq:scope.names.lookup x=some .cell:=by simpa[cxC]using h
  rcases eJ e with z|z
  ·rw[S.fre x c z]at hq;cases hq
  ·exact K0 hC (U4 z.2)
 hd:=I.ok.hd
 frames:=I.ok.frames
 stk:=.inl rfl
 exf:=fun b hb=>⟨F7 (F4 (hlt b hb) hC),fun x c e=>by
  rcases eJ e with z|z
  ·exact(hfp b hb).2.2.2.2.1 x c (S.sub x c z)
  ·exact R9 (F4 (F4 (hlt b hb) hC) (U4 z.2))⟩
 bs:=I.bs
 bsz:=K0 I.ok.bsz I.sz
 noex:=fun b o e hb=>by
  rcases(hfp b hb).2.2.2.1 with z|z
  ·exact I.ok.noex b o e z
  ·exact absurd (F4 (F2 e) (K0 I.ok.bsz z)) (M8 _)
 exfs:=fun b hb z=>by
  rcases P0.mp (I.stkSub b z)with e|e
  ·exact(hfp b hb).2.1 e
  ·exact(hfp b hb).2.2.1 e
 funs:=I.stack
 frf:=I.stkFree
theorem v9(I:Inv X aa σ H s) (S:bU X scope cl ms ag) {fp:List F5}(hfp:∀b∈fp,cI X aa H b) (hlt:∀b∈fp,b<s.heap.objs.size) {C:F5}(hC:s.heap.objs.size<=C)
  (os:s2.os=s.os) (bare:W1 s2.gens) (keep:∀b o,s.heap.get? b=some o->s2.heap.get? b=some o) {m:Str->Option s0} (hn:s2.heap.Ns C m)
  (hce:∀x c,(N6 (C+1) scope.names cl).lookup x=some c->cl.lookup x=some c∨s2.heap.IsCell c none) :
  Inv (cxC X scope cl (X.N++ag) C s H fp) [] (cH ms ag.length σ) H s2 where
 ok:=nY I S hfp hlt hC
 os:=os
 bare:=bare
 base:=Un.kept keep
 loc:=⟨m,hn,fun i x v h1 h2 h3=>by
  obtain⟨hi,hm,hv⟩:=lS h2;have hiN:i<X.N.length:=by rw[<-I.len];exact hi
  have hx:X.N[i]?=some x:=by
   have h1':(X.N++ag)[i]?=some x:=h1
   rwa [K6 hiN]at h1'
  have hf:=S.mask i x hm hx;obtain⟨m0,hn0,hl⟩:=I.loc;obtain⟨u,r,l⟩:=hl i x v hx hv (by rcases S.fr x hf with z|z<;>simp[Vis,z]);refine⟨u,r,.inr ⟨?_,?_⟩⟩
  ·exact eG (env:=X.env) hf
  ·obtain⟨c,hc⟩:=S.has x hf;have hc':=S.sub x c hc;rcases l with⟨k,_⟩|⟨_,c',e,z⟩
   ·rcases S.fr x hf with z|z<;>(have k':X.env.scope.names.lookup x=some .local:=k;rw[z]at k';cases k')
   ·rw[hc']at e;cases e;obtain⟨o,ho,hd⟩:=z;exact⟨c,yc S hf hc,o,keep _ _ ho,hd⟩⟩
 cell:=fun x c e=>by
  rcases hce x c e with z|z
  ·obtain⟨v,o,ho,hd⟩:=I.cell x c (S.sub x c z);exact⟨v,o,keep _ _ ho,hd⟩
  ·exact⟨none,z⟩
 free:=I.hok.fresh hC
 freeC:=fun x c e=>by
  rcases eJ e with z|z
  ·exact I.freeC x c (S.sub x c z)
  ·exact I.hok.fresh (K0 hC (U4 z.2))
 pin:=fun p hp=>absurd (show p∈([]:List (F5×Obj))from hp) (by simp)
 hok:=I.hok.kept keep
 len:=by
  unfold cH;rw[L1,bq,List.length_replicate,I.len];show _=(X.N++ag).length;rw[L1]
end
section
variable{X:Cx}{aa:List (F5×Obj)}{σ σ':St}{H2 H':Hp}{s2 s':u8}{scope:O9}{cl:List (Str×F5)}{ms:List Bool}{ag:List Str}{tg iter elt:J0}{ifs:List J0}{g:TG}{tc:TT}{te:TE}{pos:Pos}
theorem qG(S:bU X scope cl ms ag) (bJ:X.calm=true)
  (hg:∀C s H ex,PG (cxC X scope cl (X.N++ag) C s H ex) tg g) (hif:∀C s H ex,PIf (cxC X scope cl (X.N++ag) C s H ex) ifs tc) (he:∀C s H ex,PE (cxC X scope cl (X.N++ag) C s H ex) elt te)
  (I2:Inv X aa σ H2 s2) {it:F5} {fp:List F5} {tn:Nat->K3->Prop} {J:It} (T:iL X.prog X.w X.K tg J fp it tn) (st2:tn 0 s2.heap) (f2:∀b∈fp,cI X aa H2 b)
  {W:Nat->Nat->List V->St->Hp->Prop} {Z:List V->St->Hp->Prop} {m0:Nat} (w0:W 0 m0 [] (cH ms ag.length σ) H2) (turn:ku J g tc (mz te) W Z)
  {RR:s0->F5->aa7->u8->Prop} {E:s0->u8->Prop}
  (hRR:∀ (s':u8) (ys:List V) (its:List s0) (n:Nat) (σ':St) (H':Hp),Inv (cxC X scope cl (X.N ++ ag) (s2.heap.objs.size + 1) s2 H2 fp) [(s2.heap.objs.size,cL its n)] σ' H' s' → av ys its → ys.length ≤ E9 → Z ys σ' H' →
   RR (.ref s2.heap.objs.size) (s2.heap.objs.size+1) (.ok .next) s') :
  J5 (J9 X.prog X.w) X.A (newList []) (fun acc s₃=>J5 (J9 X.prog X.w) X.A (U5 scope X.env.globals cl [] X.env.qual none .none (some X.env)) (fun cenv s₄ =>
   V0 (J9 X.prog X.w) X.A (.compStart (.ListComp elt [⟨tg,iter,ifs,0⟩] scope pos) 0 (.ref it) acc { cenv with scope:=V9 scope X.env }) (RR acc cenv.locals) s₄) E s₃) E s2:=by
 refine N9 (nc fun h₁ kp₁ hns₁ hce₁=>?_);dsimp only at hns₁ kp₁ hce₁ ⊢;have hsz:(s2.heap.push { cls:=.type "list",dict:=none,data:=.seq ([]:List s0).toArray }).objs.size=s2.heap.objs.size+1:=by rw[S8]
 rw[hsz]at hns₁ hce₁ ⊢;have hlt:∀b∈fp,b<s2.heap.objs.size:=fun b hb=>by
  obtain⟨o,e,_⟩:=T.obj _ _ st2 b hb;exact F2 e
 have old:∀b o,s2.heap.get? b=some o->h₁.get? b=some o:=fun b o e=>kp₁ b o (E8 _ e);have hacc:h₁.get? s2.heap.objs.size=some (cL [] 0):=kp₁ _ _ (H0 _ rfl);have hDn:H2 s2.heap.objs.size=none:=I2.hok.fresh (F3 _);have hDfs:∀b,s2.heap.objs.size<=b->b∉(cxC X scope cl (X.N++ag) (s2.heap.objs.size+1) s2 H2 fp).fs:=fun b hb z=>by
  rcases P0.mp (I2.stkSub b z)with e|e
  ·subst e;exact absurd (F4 I2.lt hb) (M8 _)
  ·exact I2.nofs hb e
 have loop:∀s₃:u8,s₃={ s2 with heap:=h₁ } ->
   V0 (J9 X.prog X.w) X.A (.compLoop (.ListComp elt [⟨tg,iter,ifs,0⟩] scope pos) 0 (.ref it) (.ref s2.heap.objs.size) (aa4 scope (N6 (s2.heap.objs.size+1+1) scope.names cl) (s2.heap.objs.size+1) X.env)) (RR (.ref s2.heap.objs.size) (s2.heap.objs.size+1)) s₃:=by
  rintro s₃ rfl;have I3:Inv (cxC X scope cl (X.N++ag) (s2.heap.objs.size+1) s2 H2 fp) [] (cH ms ag.length σ) H2 { s2 with heap:=h₁ } :=
   v9 I2 S f2 hlt (W9 _) rfl I2.bare old hns₁ hce₁
  have hne:∀x c,(cxC X scope cl (X.N++ag) (s2.heap.objs.size+1) s2 H2 fp).env.cells.lookup x=some c->c≠s2.heap.objs.size:=fun x c e=>by
   rcases eJ e with z|z
   ·obtain⟨v,o,ho,_⟩:=I2.cell x c (S.sub x c z);exact F7 (F2 ho)
   ·exact R9 (F4 (J7 (O3 _)) z.2)
  have c:j0 (cxC X scope cl (X.N++ag) (s2.heap.objs.size+1) s2 H2 fp) s2.heap.objs.size:=⟨rfl,bJ,rfl,.inr (F3 _),hne⟩;refine md c (sC c (he _ _ _ _) fun _ _ _=>rfl) (hg _ _ _ _) (hif _ _ _ _) (P:=[]) (p:=iter.pos) (fun p hp=>nomatch hp) (its0:=[]) (nn0:=0) (I3.pins_of fun p hp=>?_) .nil T (T.keep _ _ _ st2 fun b _ o e=>old b o e) (fun b hb=>?_) w0 turn ?_
  ·have e:p=(s2.heap.objs.size,cL [] 0):=P1.mp hp;subst e;exact⟨hacc,hDn,F7 (O3 _),hDfs _ (F3 _),fun v z=>by cases z⟩
  ·exact⟨(f2 b hb).1,F7 (J7 (hlt b hb)),(nY I2 S f2 hlt (W9 _)).exfs b hb,.inl hb,fun x c e=>(nY I2 S f2 hlt (W9 _)).exf b hb |>.2 x c e,fun p hp=>by
    have:p=(s2.heap.objs.size,_):=P1.mp (show p∈[(s2.heap.objs.size,_)]from hp);subst this;exact R9 (hlt b hb)⟩
  ·exact fun s' ys its n σ' H' I' rv hz hZ=>hRR s' ys its n σ' H' I' rv hz hZ
 exact codeAny_compStart_list (loop _ rfl) (T.self _ 0 _ _ _ (T.keep _ _ _ st2 fun b _ o e=>old b o e) (loop _ rfl))
theorem qx(I2:Inv X aa σ H2 s2) {fp:List F5}(f2:∀b∈fp,cI X aa H2 b) {its:List s0}{n:Nat}{ys:List V}
  (I':Inv (cxC X scope cl (X.N++ag) (s2.heap.objs.size+1) s2 H2 fp) [(s2.heap.objs.size,cL its n)] σ' H' s') (rv:av ys its) (hz:ys.length<=E9) {h':K3} (hs:R8 (s2.heap.objs.size+1) s'.heap h') :
  Inv X aa σ (upd H' s2.heap.objs.size (.lst ys)) { s' with heap:=h' }/\H' s2.heap.objs.size=none:=by
 have pacc:=I'.pin (s2.heap.objs.size,cL its n) (F6 _ L5);have hC:H' (s2.heap.objs.size+1)=none:=I'.free;have hD:H' s2.heap.objs.size=none:=pacc.2.1;have up:∀b o,b≠s2.heap.objs.size+1->s'.heap.get? b=some o->h'.get? b=some o:=fun b o hb e=>(hs.2 b hb).trans e;have nD:∀b u,H' b=some u->b≠s2.heap.objs.size:=fun b u e z=>by rw[z,hD]at e;cases e
 have nC:∀b u,H' b=some u->b≠s2.heap.objs.size+1:=fun b u e z=>by rw[z,hC]at e;cases e
 have hacc:h'.get? s2.heap.objs.size=some (cL its n):=up _ _ (F7 (O3 _)) pacc.1;have hok:HOk X.prog X.w (upd H' s2.heap.objs.size (.lst ys)) h':=fun b u e=>by
  by_cases hb:b=s2.heap.objs.size
  ·subst hb;rw[az]at e;cases e;exact⟨hz,its,n,rv,hacc⟩
  ·rw[aw hb]at e;refine(I'.hok b u e).stay (fun c v hc q=>up c v ?_ q) (fun c q=>by rw[aw (nD c _ q)];exact q) fun c xs q=>by rw[aw (nD c _ q)];exact q
   rcases hc with rfl|hc
   ·exact nC _ _ e
   ·exact nC _ _ hc
 have un:Un (frs X.stack) fp H2 (upd H' s2.heap.objs.size (.lst ys)) s2.heap h':=by
  have U:=I'.base;have ltD:∀b o,s2.heap.get? b=some o->b≠s2.heap.objs.size:=fun b o e=>F7 (F2 e);have ltC:∀b o,s2.heap.get? b=some o->b≠s2.heap.objs.size+1:=fun b o e=>F7 (J7 (F2 e));refine⟨fun b o e nb hb hx=>up b o (ltC b o e) (U.keep b o e nb hb hx),fun b o e nb hb hx=>?_,fun b o e nb hx=>by rw[aw (ltD b o e)];exact U.free b o e nb hx,fun b o e hx=>?_,
   fun b xs e=>by have q:=U.tups b xs e;rw[aw (nD b _ q)];exact q,fun b o u e=>by have q:=U.frzs b o u e;rw[aw (nD b _ q)];exact q,fun b ps e=>?_⟩
  ·obtain⟨sl,q⟩:=U.slot b o e nb hb hx;exact⟨sl,up b _ (ltC b o e) q⟩
  ·obtain⟨o',q⟩:=U.there b o e hx;exact⟨o',up b _ (ltC b o e) q⟩
  ·obtain⟨more,q⟩:=U.tbls b ps e;exact⟨more,by rw[aw (nD b _ q)];exact q⟩
 exact⟨I2.call' (s':={ s' with heap:=h' }) (ch:=fp) I'.os un hok I'.bare fun b hb=>⟨(f2 b hb).2.2.2.1,(f2 b hb).2.1,(f2 b hb).2.2.2.2.1,(f2 b hb).2.2.2.2.2⟩,hD⟩
theorem A3(S:bU X scope cl ms ag) (bJ:X.calm=true) {wi:TI}(hi:PI X tg iter wi)
  (hg:∀C s H ex,PG (cxC X scope cl (X.N++ag) C s H ex) tg g) (hif:∀C s H ex,PIf (cxC X scope cl (X.N++ag) C s H ex) ifs tc) (he:∀C s H ex,PE (cxC X scope cl (X.N++ag) C s H ex) elt te)
  (hs:∀x,M9 iter X.env x=U9 x:=by intro _;rfl):PE X (.ListComp elt [⟨tg,iter,ifs,0⟩] scope pos) (tLc ms ag.length wi g tc te):=by
 intro aa s σ H Q I h;rw[eval_ListComp];refine Q0 (use:=none) rfl hs S.clos S.kind S.names (thn (hi aa s σ H _ I h) fun v s1 h1=>thn h1 fun itv s2 h2=>?_);obtain⟨it,fp,tn,J,H2,e,I2,T,st2,f2,W,Z,⟨m0,w0⟩,turn,q⟩:=h2;subst e;refine qG S bJ hg hif he I2 T st2 f2 w0 turn (RR:=fun acc C=>compPost (J9 X.prog X.w) X.A X.xe none (EP X aa σ Q) acc C) ?_;intro s' ys its n σ' H' I' rv hz hZ;obtain⟨m,hm,_⟩:=I'.loc;refine⟨m,hm,fun h' hs'=>?_⟩;obtain⟨I3,hD⟩:=qx I2 f2 I' rv hz hs';exact⟨.ref s2.heap.objs.size,_,I3,rfl,q ys _ H' _ hZ hD⟩
end
section
variable{X:Cx}{tg iter elt:J0}{pos:Pos}{scope:O9}{cl:List (Str×F5)}{ms:List Bool}{ag:List Str}{ifs:List J0}
def B9(X:Cx) (scope:O9) (cl:List (Str×F5)) (ag:List Str) (tg:J0) (g:GD):Prop:=∃gv:TG,(∀C s H ex,PG (cxC X scope cl (X.N++ag) C s H ex) tg gv)/\∀(d:D) (v:V) (σ:St) (Δ Δ':DE) (M:DH) (H:Hp) (Q:St->Hp->Prop),SR X.K M H σ Δ->HR X.K M H->Rep X.K M H d v->g d Δ=some Δ'->(∀ σ',SR X.K M H σ' Δ'->Q σ' H)->gv v σ H Q
theorem ou{i:Nat}{x:Str}{pos:Pos}(hN:(X.N++ag).Nodup) (hi:(X.N++ag)[i]?=some x) (hx:(V9 scope X.env).names.lookup x=some .cell) (hf:(scope.names.lookup x==some .cell)=true):B9 X scope cl ag (.Name x pos) (aV i) :=
 ⟨jZ i,fun C s H ex=>nz hN hi (.inr hx) (.inl hf),fun d v σ Δ Δ' M H Q sr hr rv e k=>by cases e;exact k _ (sr.set i rv)⟩
def iw(scope fs:O9):O9:={ scope with names:=scope.names.map fun(n,k)=>if(k==.free&&fs.kind==.function&&fs.names.lookup n==some .cell)then(n,.cell)else(n,k) }
theorem tm{env:Env}:V9 scope env=iw scope env.scope:=rfl
noncomputable def eB(fs:O9) (N:List Str) (scope:O9) (ms:List Bool):Bool :=
 scope.kind==.function&&scope.names.all (fun y=>y.2 != .cell || scope.names.lookup y.1==some .cell)&&scope.names.all (fun y=>y.2 != .local || scope.names.lookup y.1==some .local) &&
 scope.names.all (fun y=>y.2 != .free || fs.names.lookup y.1==some .cell)&&(ms.zip N).all (fun y=>!y.1 || scope.names.lookup y.2==some .free)&&decide (ms.length<=N.length)&&scope.names.all (fun y=>y.2 != .free || scope.names.lookup y.1==some .free)
theorem vk{cells:List (Str×F5)}{names:List (Str×J3)}{x:Str}{c:F5}(h:(bC names cells).lookup x=some c):(x,K1)∈names:=by
 have hm:=J6 h;unfold bC at hm;rw[List.mem_reverse,R6]at hm;obtain⟨y,hy,e⟩:=hm
 split at e
 ·rename_i hk;cases q:cells.lookup y.1 with
  |none=>rw[q]at e;cases e
  |some c' =>
   rw[q]at e;have e1:y.1=x:=(Prod.mk.inj (J4 e)).1;have e2:y.2=.free:=by simpa using hk
   obtain⟨a,b⟩:=y;simp only at e1 e2;subst e1;subst e2;exact hy
 ·cases e
theorem qJ(cs:∀x,(x,K1)∈scope.names->(X.env.cells.lookup x).isSome=true) (c:eB X.env.scope X.N scope ms=true):bU X scope (bC scope.names X.env.cells) ms ag:=by
 unfold eB at c;simp only[J8,O8,decide_eq_true_eq]at c;obtain⟨⟨⟨⟨⟨⟨c1,c2⟩,c3⟩,c4⟩,c5⟩,c6⟩,c7⟩:=c;have fr:∀x,(x,K1)∈scope.names->X.env.scope.names.lookup x=some .cell:=fun x hx=>by
  have:=c4 _ hx;simpa using this
 refine⟨by simpa using c1,fun y hy e=>?_,fun y hy e=>?_,nv fun y hy e=>?_,fun x c h=>ke h,fun x c h=>?_,fun x h=>jM h (cs x (J6 h)),fun x h=>.inl (fr x (J6 h)),fun i x h1 h2=>?_,c6⟩
 ·have:=c3 y hy;simpa[e]using this
 ·have:=c2 y hy;simpa[e]using this
 ·obtain⟨a,b⟩:=y;cases e;exact cs a hy
 ·have:=c7 _ (vk h);simpa using this
 ·have:=c5 (true,x) (by
   rw[List.mem_iff_getElem?];exact⟨i,by rw[List.getElem?_zip_eq_some];exact⟨h1,h2⟩⟩)
  simpa using this
theorem kG{n0:Nat}(hX:X.env.cells=N6 n0 X.env.scope.names []) (c:eB X.env.scope X.N scope ms=true):bU X scope (bC scope.names X.env.cells) ms ag:=by
 refine qJ (fun x hx=>?_) c;unfold eB at c;simp only[J8,O8]at c;have:=c.1.1.1.2 _ hx;rw[hX];exact M0 _ _ _ (.inl (by simpa using this))
theorem tD{C:F5}{s:u8}{H:Hp}{ex:List F5}{N:List Str}(S:bU X scope cl ms ag) {x:Str}(h:(V9 scope X.env).names.lookup x=some .cell):((cxC X scope cl N C s H ex).env.cells.lookup x).isSome=true:=by
 have e:(V9 scope X.env).names.lookup x=_:=dh (env:=X.env) (x:=x) (names:=scope.names);rw[e]at h;refine M0 _ _ _ ?_;cases q:scope.names.lookup x with
 |none=>rw[q]at h;simp at h
 |some k =>
  rw[q]at h;cases k with
  |cell=>exact .inl rfl
  |free=>obtain⟨c,hc⟩:=S.has x q;exact .inr (by rw[hc];rfl)
  |_=>simp at h
theorem mQ{C:F5}{s:u8}{H:Hp}{ex:List F5}{N:List Str}{scope2:O9}{ms2:List Bool}{extra2:List Str}(S:bU X scope cl ms ag) (c:aO (iw scope X.env.scope) N scope2 ms2=true) :
  cy (cxC X scope cl N C s H ex) scope2 (bC scope2.names (cxC X scope cl N C s H ex).env.cells) ms2 extra2:=by
 unfold aO at c;simp only[J8,O8,decide_eq_true_eq]at c;obtain⟨⟨⟨⟨⟨c1,c2⟩,c3⟩,c4⟩,c5⟩,c6⟩:=c;have fr:∀x,(x,K1)∈scope2.names->(V9 scope X.env).names.lookup x=some .cell:=fun x hx=>by
  have:=c4 _ hx;rw[tm];simpa using this
 have cs:∀x,(x,K1)∈scope2.names->((cxC X scope cl N C s H ex).env.cells.lookup x).isSome=true:=fun x hx=>tD S (fr x hx);refine⟨by simpa using c1,fun y hy e=>?_,fun y hy e=>?_,nv fun y hy e=>?_,fun x c h=>ke h,fun x h=>jM h (cs x (J6 h)),fun x h=>.inl (fr x (J6 h)),fun i x h1 h2=>?_,c6⟩
 ·have:=c2 y hy;rw[e]at this;simp at this
 ·have:=c3 y hy;simpa[e]using this
 ·obtain⟨a,b⟩:=y;cases e;exact cs a hy
 ·have:=c5 (true,x) (by
   rw[List.mem_iff_getElem?];exact⟨i,by rw[List.getElem?_zip_eq_some];exact⟨h1,h2⟩⟩)
  simpa using this
end
def Ce(a:F5) (o:Obj) (ks:List (Key×V)):It :=
 ⟨fun i H=>H a=some (.frz o (.dK ks))/\i<ks.length,fun i H x H'=>H'=H/\∃k v,ks[i]?=some (k,v)/\x=kV k,fun i H=>H a=some (.frz o (.dK ks))/\ks.length<=i⟩
theorem xC{P:K2}{w:N4}{k:Key}{v:s0}(h:(aI P w).is k v=true):aA (kV k) v:=by
 rcases aZ (show j4 k v=true from h)with⟨i,t,rfl,rfl⟩|⟨x,t,rfl,rfl⟩
 ·exact⟨t,rfl⟩
 ·exact⟨t,rfl⟩
section
variable{X:Cx}{aa:List (F5×Obj)}{σ:St}{H:Hp}{s:u8}{a:F5}{o:Obj}{ks:List (Key×V)}
theorem Inv.freeze(I:Inv X aa σ H s) (e:H a=some (.dK ks)):∃o,s.heap.get? a=some o/\Inv X aa σ (upd H a (.frz o (.dK ks))) s:=by
 obtain⟨o,he⟩:∃o,s.heap.get? a=some o:=by
  obtain⟨_,_,_,_,o,_,_,q,_⟩:=oU I.hok e;exact⟨o,q⟩
 refine⟨o,he,?_⟩;have:=I.write (x:=a) (e:=a) (o:=.frz o (.dK ks)) (h':=s.heap) (t':=s.toks) (by rw[e];exact U3) (.inl rfl) (fun b u _ q=>q) ⟨o,he⟩ ⟨he,oU I.hok e⟩;exact this
theorem rN{ep:Nat}{es:Array DictEntry}(I:Inv X aa σ H s) (e:H a=some (.frz o (.dK ks))) (hd:o.data=.dict es ep):∃vs,KV ks vs/\s.heap.DictAt (aI X.prog X.w) a vs ep/\(a==P5)=false:=by
 obtain⟨q,hz,hs,vs,rel,o',es',ep',q',c,d',r⟩:=I.hok a _ e;rw[q]at q';cases q';rw[hd]at d';cases d';exact⟨vs,rel,⟨o,es,q,c,hd,r⟩,hs⟩
theorem tI{P:K2}{w:N4}{K:o0}{tg:J0}(it:F5) {ep:Nat}{es:Array DictEntry}(hd:o.data=.dict es ep):iL P w K tg (Ce a o ks) [it] it (fun i h=>h.IsKeyIter it a i ks.length ep) where
 mem:=by simp
 obj:=fun i h st b hb=>by
  have e:b=it:=by simpa using hb
  subst e;obtain⟨o,e,c,d⟩:=st;exact⟨o,e,fun v z=>by rw[d]at z;cases z⟩
 keep:=fun i h h' st k=>st.at fun o e=>k it (by simp) o e
 item:=by
  intro X hP hw hK hc i aa s σ H E I hf st hg;subst hP hw hK;obtain⟨e,hi⟩:=hg;obtain⟨vs,rel,da,hs⟩:=rN I e hd;obtain⟨f0,f1,f2,f3,f4,f5⟩:=hf it (by simp);have hl:ks.length=vs.length:=rel.length;obtain⟨⟨k,x⟩,hx⟩:∃p,vs[i]?=some p:=⟨vs[i],by simp[show i<vs.length by lia]⟩;rw[hl]at st;refine wpAny_pyNext_dict_item st da hx fun key h' hkey hit' hs'=>?_;have I1:Inv X aa σ H { s with heap:=h' }:=I.turned (t':=s.toks) (fun b o hb e=>hs'.extBut b o hb e) f0 f1 f3 f4 f5;obtain⟨k',v',hk'⟩:∃k' v',ks[i]?=some (k',v'):=⟨ks[i].1,ks[i].2,by simp[hi]⟩;have ek:k'=k:=by
   have q:=rel.keys;have q1:=congrArg (fun l=>l[i]?) q;simp only[N8,hk',hx,Q3]at q1;exact J4 q1
  subst ek;obtain⟨ob,e1,c1,d1⟩:=id hit';rw[<-hl]at hit';exact⟨key,rfl,lY (s:={ s with heap:=h' }) e1 c1 d1 (by decide) ⟨kV k',H,I1,xC hkey,⟨rfl,k',v',hk',rfl⟩,hit',fun b hb=>(hf b hb).1⟩⟩
 done:=by
  intro X hP hw hK hc i aa s σ H E I hf st hg;subst hP hw hK;obtain⟨e,hi⟩:=hg;obtain⟨vs,rel,da,hs⟩:=rN I e hd;obtain⟨f0,f1,f2,f3,f4,f5⟩:=hf it (by simp);have hl:ks.length=vs.length:=rel.length;rw[hl]at st;exact wpAny_pyNext_dict_end (I.ok.hd hc) st da (by simp;lia) fun h' eb=>⟨rfl,I.turned (t':=s.toks) (fun b o hb e=>eb b o hb e) f0 f1 f3 f4 f5⟩
 self:=fun _ _ _ _ _ st h=>wpAny_pyIter_keyiter st h
end
section
variable{X:Cx}{tg l:J0}{tl:TE}{te:TEd}
def iDk(tl:TE):TI:=fun σ H R=>tl σ H fun x H1=>∃a ks,x=.ref a/\H1 a=some (.dK ks)/\∀o,R (Ce a o ks) (upd H1 a (.frz o (.dK ks)))
theorem CF(hl:PE X l tl):PI X tg l (iDk tl):=by
 intro aa s σ H R I h;refine thn (hl aa s σ H _ I h) fun v s1 hup=>hup.el fun x H1 I1 r1 q1=>?_;obtain⟨a,ks,e,ea,q⟩:=q1;subst e;cases r1;obtain⟨o,ho,I2⟩:=I1.freeze ea;obtain⟨_,hs,vs,rel,o',es,ep,q',c,hd,r⟩:=oU I1.hok ea;rw[ho]at q';cases q';have da:s1.heap.DictAt (aI X.prog X.w) a vs ep:=⟨o,es,ho,c,hd,r⟩;refine wpAny_pyIter_dict hs da ?_;have bH:vs.length=ks.length:=rel.length.symm;refine⟨s1.heap.objs.size,[s1.heap.objs.size],_,_,_,rfl,I2.kept (t':=s1.toks) fun b o e=>E8 _ e,tI _ hd,?_,fun b hb=>?_,q o⟩
 ·rw[bH];exact⟨_,H0 _ rfl,rfl,rfl⟩
 ·have e:b=s1.heap.objs.size:=by simpa using hb
  subst e;exact I2.fpOk (F3 _) (I2.hok.fresh (F3 _))
def Cv(te:TEd):TId:=fun Δ M R=>te Δ M fun d M1=>∃a kvs,d=.ref a/\M1 a=some (.dK kvs)/\R (kvs.map fun p=>kD p.1) (eY M1 a)
theorem KR.keys{K:o0}{M:DH}{H:Hp}{κ:Type}{kvs:List (κ×D)}{ks:List (κ×V)}(h:KR K M H kvs ks):kvs.map (·.1)=ks.map (·.1):=by
 unfold KR at h
 induction h with
 |nil=>rfl
 |cons r _ ih=>rw[K7,K7,ih,r.1]
theorem kB{K:o0}{M:DH}{H:Hp}{k:Key}:Rep K M H (kD k) (kV k):=by cases k<;>simp[kD,kV,Rep]
end
theorem eZ{prog:K2}{w:N4}{A:L8}{R:aa7->u8->Prop}{s:u8}{kx vx target iter:J0}{scope:O9}{pos:Pos}{it:s0}{D:F5}{env:Env}(I:Nat->u8->Prop)
  (turn:∀ n s,I n s → J5 (J9 prog w) A (pyNext it) (fun r s₁ => match r with
   |none=>R (.ok .next) s₁
   | some v => J5 (J9 prog w) A (S0 target it v) (fun _ s₁ => J5 (J9 prog w) A (T5 target env v) (fun _ s₂ =>
     J5 (J9 prog w) A (U0 kx env) (fun kv s₄=>J5 (J9 prog w) A (U0 vx env) (fun vv s₅ =>
       J5 (J9 prog w) A (dictSet D kv vv) (fun _ s₆=>∃m,m<n/\I m s₆) (fun _ _=>False) s₅) (fun _ _=>False) s₄) (fun _ _=>False) s₂) (fun _ _=>False) s₁) (fun _ _=>False) s₁) (fun _ _=>False) s)
  (n:Nat) (h:I n s) :
  V0 (J9 prog w) A (.compLoop (.DictComp kx vx [⟨target,iter,[],0⟩] scope pos) 0 it (.ref D) env) R s:=by
 refine codeAny_loop rfl I (fun n s hI=>?_) n h;show J5 _ A ((compTurn (.DictComp kx vx [⟨target,iter,[],0⟩] scope pos) 0 it (.ref D) env).onRaise (fun x=>do noteFrame x env;theTreesLotGoes x)) _ _ s;refine wpAny_noted ?_;rw[compTurn_dict];refine F0 (T6 (F0 (L4 (turn n s hI) (fun r s₁ h₁=>?_) fun _ _ h'=>h'.elim)));cases r with
 |none=>exact F9 h₁
 |some v =>
  refine F0 (L4 h₁ (fun _ s1 h₁=>?_) fun _ _ h'=>h'.elim);refine F0 (L4 h₁ (fun _ s₂ h₂=>F0 (wpAny_tests_nil ?_)) fun _ _ h'=>h'.elim);exact F0 (F0 (L4 h₂ (fun kv s₄ h₄=>F0 (S1 (L4 h₄ (fun vv s₅ h₅=>F0 (T6 (S1 (L4 h₅ (fun _ s₆ h₆=>F9 ⟨rfl,h₆⟩) fun _ _ h'=>h'.elim)))) fun _ _ h'=>h'.elim))) fun _ _ h'=>h'.elim))
section
variable{X:Cx}{aa:List (F5×Obj)}{σ σ':St}{H2 H':Hp}{s2 s':u8}{scope:O9}{cl:List (Str×F5)}{ms:List Bool}{ag:List Str}{tg iter kx vx:J0}{g:TG}{tk tv:TE}{pos:Pos}
def oM(D:F5) (J:It) (g:TG) (tk tv:TE) (W:Nat->Nat->St->Hp->Prop) (Z:Hp->Prop):Prop :=
 ∀i m σ H,W i m σ H->(J.stop i H/\Z H) ∨
  (J.go i H/\∀x H',J.yld i H x H'->g x σ H' fun σ2 H2=>tk σ2 H2 fun y H3=>tv σ2 H3 fun v H4=>∃H5,(∃kvs k b,H4 D=some (.dT kvs)/\y=.ref b/\H4 b=some (.tup (k.map kV))/\kvs.length<E9/\H5=upd H4 D (.dT (cN kvs k v)))/\∃m',m'<m/\W (i+1) m' σ2 H5)
theorem vF{E:s0->u8->Prop}{X:Cx}{A:L8}{aa:List (F5×Obj)}{σ:St}{H:Hp}{s:u8}{D b:F5}{kvs:List (List Key×V)}{k:List Key}{v:V}{r:s0}{Q:Unit->u8->Prop}(hu:A.units<V6) (I:Inv X aa σ H s) (e:H D=some (.dT kvs)) (eb:H b=some (.tup (k.map kV))) (l:kvs.length<E9)
  (rv:aA v r) (h:∀s',Inv X aa σ (upd H D (.dT (cN kvs k v))) s'->Q () s'):J5 (J9 X.prog X.w) A (dictSet D (.ref b) r) Q E s:=by
 obtain⟨z,hd,xs,rel,dd⟩:=zT I.hok e;have hz:xs.length<=E9:=by rw[<-V1 rel];exact z
 have hl:(cN kvs k v).length<=E9:=by have:=dN kvs k v;exact K0 (by assumption) (by assumption)
 refine wpAny_dictSet_heap (hsz:=hz) hu (gn I.hok eb) dd fun h' dd' hs=>h _ ?_;obtain⟨q,es,ep,hq,h2,h3,h4,_,h5⟩:=dd';refine ir I (by rw[e];exact U3) hs ⟨q,hq⟩ ⟨hl,hd,_,(rel.put k eb rv).keeps fun c ys ec=>?_,q,es,ep,hq,h2,h3,h4,h5⟩;rw[aw (zI ec e (fun z=>nomatch z))];exact ec
theorem qr(hu:X.A.units<V6) (S:cy X scope cl ms ag) (bJ:X.calm=true)
  (hg:∀C s H ex,PG (ax X scope cl (X.N++ag) C s H ex) tg g) (hk:∀C s H ex,PE (ax X scope cl (X.N++ag) C s H ex) kx tk) (hv:∀C s H ex,PE (ax X scope cl (X.N++ag) C s H ex) vx tv)
  (I2:Inv X aa σ H2 s2) {it:F5} {fp:List F5} {tn:Nat->K3->Prop} {J:It} (T:iL X.prog X.w X.K tg J fp it tn) (st2:tn 0 s2.heap) (f2:∀b∈fp,cI X aa H2 b)
  {D:F5} {W:Nat->Nat->St->Hp->Prop} {Z:Hp->Prop} {m0:Nat} (w0:W 0 m0 (cH ms ag.length σ) H2) (turn:oM D J g tk tv W Z)
  {RR:F5->aa7->u8->Prop} {E:s0->u8->Prop}
  (hRR:∀(s':u8) (σ':St) (H':Hp),Inv (ax X scope cl (X.N++ag) s2.heap.objs.size s2 H2 fp) [] σ' H' s'->Z H'->RR s2.heap.objs.size (.ok .next) s') :
  J5 (J9 X.prog X.w) X.A (U5 scope X.env.globals cl [] X.env.qual none .none (some X.env)) (fun cenv s₄ =>
   V0 (J9 X.prog X.w) X.A (.compStart (.DictComp kx vx [⟨tg,iter,[],0⟩] scope pos) 0 (.ref it) (.ref D) { cenv with scope:=V9 scope X.env }) (RR cenv.locals) s₄) E s2:=by
 refine wpAny_newFunctionEnv S.ncell (by intro y hy;simp at hy) (fun h₁ hns₁ hsb₁=>?_) S.kind
 try dsimp only at hns₁ hsb₁ ⊢
 have hlt:∀b∈fp,b<s2.heap.objs.size:=fun b hb=>by
  obtain⟨o,e,_⟩:=T.obj _ _ st2 b hb;exact F2 e
 have old:∀b o,s2.heap.get? b=some o->h₁.get? b=some o:=fun b o e=>hsb₁.extBut b o (F7 (F2 e)) (E8 _ e);have loop:∀s₃:u8,s₃={ s2 with heap:=h₁,toks:=s2.toks+([]:List (Str×s0)).length } ->
   V0 (J9 X.prog X.w) X.A (.compLoop (.DictComp kx vx [⟨tg,iter,[],0⟩] scope pos) 0 (.ref it) (.ref D) (aa4 scope cl s2.heap.objs.size X.env)) (RR s2.heap.objs.size) s₃:=by
  rintro s₃ rfl;have I3:Inv (ax X scope cl (X.N++ag) s2.heap.objs.size s2 H2 fp) [] (cH ms ag.length σ) H2 { s2 with heap:=h₁,toks:=s2.toks+([]:List (Str×s0)).length } :=
   rL I2 S f2 hlt (F3 _) rfl I2.bare old hns₁
  have fpc:∀{H:Hp},(∀b∈fp,H b=none)->∀b∈fp,cI (ax X scope cl (X.N++ag) s2.heap.objs.size s2 H2 fp) [] H b:=fun hn b hb =>
   ⟨hn b hb,F7 (hlt b hb),(qe I2 S f2 hlt (F3 _)).exfs b hb,.inl hb,fun x c e=>(f2 b hb).2.2.2.2.1 x c (S.sub x c e),fun p hp=>absurd (show p∈([]:List (F5×Obj))from hp) (by simp)⟩
  refine eZ (env:=aa4 scope cl s2.heap.objs.size X.env)
   (fun n s'=>∃i σ' H',Inv (ax X scope cl (X.N++ag) s2.heap.objs.size s2 H2 fp) [] σ' H' s'/\tn i s'.heap/\(∀b∈fp,H' b=none)/\W i n σ' H') ?_ m0
   ⟨0,_,H2,I3,T.keep _ _ _ st2 fun b _ o e=>old b o e,fun b hb=>(f2 b hb).1,w0⟩
  rintro n s' ⟨i,σ',H',I4,st4,fr4,w4⟩;rcases turn i n σ' H' w4 with⟨stop,hZ⟩|⟨go,step⟩
  ·refine thn (T.done (ax X scope cl (X.N++ag) s2.heap.objs.size s2 H2 fp) rfl rfl rfl bJ i _ s' _ H' (fun _ _=>False) I4 (fpc fr4) st4 stop) fun r s4 ⟨hr,I5⟩=>?_;subst hr;exact hRR s4 σ' H' I5 hZ
  ·refine thn (T.item (ax X scope cl (X.N++ag) s2.heap.objs.size s2 H2 fp) rfl rfl rfl bJ i _ s' _ H' (fun _ _=>False) I4 (fpc fr4) st4 go) fun r s5 ⟨u,hr,h5⟩=>?_;subst hr;refine thn h5 fun _ s6 ⟨x,H6,I6,r6,y6,st6,fr6⟩=>?_;have I6':=I6.pinned (fpc fr6) (T.obj _ _ st6);refine thn (hg _ _ _ _ _ s6 _ H6 x u _ I6' r6 (step x H6 y6)) fun _ s7 ⟨σ7,H7,I7,q7⟩=>?_;refine thn (hk _ _ _ _ _ s7 σ7 H7 _ I7 q7) fun kv s8 hup=>hup.el fun y H8 I8 r8 q8=>?_;refine thn (hv _ _ _ _ _ s8 σ7 H8 _ I8 q8) fun vv s9 hup=>hup.el fun v H9 I9 r9 q9=>?_;obtain⟨H10,⟨kvs,k,b,eD,ey,eb,hl,eH⟩,m',hm,w9⟩:=q9;subst ey;cases(show kv=P4 b from r8);refine vF (A:=X.A) (X:=ax X scope cl (X.N++ag) s2.heap.objs.size s2 H2 fp) hu I9 eD eb hl r9 fun s10 I10=>?_;rw[<-eH]at I10;have keepfp:tn (i+1) s10.heap/\∀b∈fp,H10 b=none :=
    ⟨T.keep _ _ _ st6 fun b hb o e=>(I10.pin (b,o) (F6 _ (F6 _ (cm hb e)))).1,fun b hb=>by
     obtain⟨o,e,d⟩:=T.obj _ _ st6 b hb;exact(I10.pin (b,o) (F6 _ (F6 _ (cm hb e)))).2.1⟩
   exact⟨m',hm,i+1,σ7,H10,I10.unpinned,keepfp.1,keepfp.2,w9⟩
 exact codeAny_compStart_dict (loop _ rfl) (T.self _ 0 _ _ _ (T.keep _ _ _ st2 fun b _ o e=>old b o e) (loop _ rfl))
theorem qg(I2:Inv X aa σ H2 s2) {fp:List F5}(f2:∀b∈fp,cI X aa H2 b)
  (I':Inv (ax X scope cl (X.N++ag) s2.heap.objs.size s2 H2 fp) [] σ' H' s') {h':K3} (hs:R8 s2.heap.objs.size s'.heap h') :
  Inv X aa σ H' { s' with heap:=h' }:=by
 have hC:H' s2.heap.objs.size=none:=I'.free;have up:∀b o,b≠s2.heap.objs.size->s'.heap.get? b=some o->h'.get? b=some o:=fun b o hb e=>(hs.2 b hb).trans e;have nC:∀b u,H' b=some u->b≠s2.heap.objs.size:=fun b u e z=>by rw[z,hC]at e;cases e
 have hok:HOk X.prog X.w H' h':=fun b u e=>(I'.hok b u e).stay (fun c v hc q=>up c v (by
   rcases hc with rfl|hc
   ·exact nC _ _ e
   ·exact nC _ _ hc) q) (fun c q=>q) fun c xs q=>q
 have un:Un (frs X.stack) fp H2 H' s2.heap h':=by
  have U:=I'.base;have ltC:∀b o,s2.heap.get? b=some o->b≠s2.heap.objs.size:=fun b o e=>F7 (F2 e);refine⟨fun b o e nb hb hx=>up b o (ltC b o e) (U.keep b o e nb hb hx),fun b o e nb hb hx=>?_,U.free,fun b o e hx=>?_,U.tups,U.frzs,U.tbls⟩
  ·obtain⟨sl,q⟩:=U.slot b o e nb hb hx;exact⟨sl,up b _ (ltC b o e) q⟩
  ·obtain⟨o',q⟩:=U.there b o e hx;exact⟨o',up b _ (ltC b o e) q⟩
 exact I2.call' (s':={ s' with heap:=h' }) (ch:=fp) I'.os un hok I'.bare fun b hb=>⟨(f2 b hb).2.2.2.1,(f2 b hb).2.1,(f2 b hb).2.2.2.2.1,(f2 b hb).2.2.2.2.2⟩
def tDc(ms:List Bool) (k:Nat) (wi:TI) (g:TG) (tk tv:TE):TE:=fun σ H Q=>wi σ H fun J H1=>∀p,H1 p=none->∃(W:Nat->Nat->St->Hp->Prop) (Z:Hp->Prop),(∃m,W 0 m (cH ms k σ) (upd H1 p (.dT [])))/\oM p J g tk tv W Z/\∀H,Z H->Q (.ref p) H
theorem wy{i:Nat}{x:Str}{spos pos':Pos}(hu:X.A.units<V6) (hN:X.N.Nodup) (hix:X.N[i]?=some x) (hx:X.env.scope.names.lookup x=some .local)
  (hsw:U6 (.DictComp kx vx [⟨tg,iter,[],0⟩] scope pos) (some (.Name x pos')) spos.line X.env=U9 true)
  (S:cy X scope cl ms ag) (bJ:X.calm=true) {wi:TI} (hi:PI X tg iter wi)
  (hg:∀C s H ex,PG (ax X scope cl (X.N++ag) C s H ex) tg g) (hk:∀C s H ex,PE (ax X scope cl (X.N++ag) C s H ex) kx tk) (hv:∀C s H ex,PE (ax X scope cl (X.N++ag) C s H ex) vx tv)
  (hs:∀x,M9 iter X.env x=U9 x:=by intro _;rfl):PS X (.Assign [.Name x pos'] (.DictComp kx vx [⟨tg,iter,[],0⟩] scope pos) spos) (yW (tDc ms ag.length wi g tk tv) (jZ i)):=by
 intro aa s σ H D I h;rw[exec_Assign_Name_used _ _ _ _ hsw];refine F0 (T6 (F0 ?_));show J5 _ _ (do let _ <-comprehension (.DictComp kx vx [⟨tg,iter,[],0⟩] scope pos) scope X.env _ newDict false (U0 iter X.env) (some (T5 (.Name x pos') X.env))) _ _ s;refine F0 (L4 (Q0 (use:=some (T5 (.Name x pos') X.env)) (Q:=fun _ s'=>SP X aa D .next s') rfl hs S.clos S.kind S.names
  (thn (hi aa s σ H _ I h) fun v s1 h1=>thn h1 fun itv s2 h2=>?_)) (fun _ s' hq=>F9 (F9 hq)) fun _ _ e=>e)
 obtain⟨it,fp,tn,J,H2,e,I2,T,st2,f2,q⟩:=h2;subst e;have hp:=I2.hok.fresh (F3 s2.heap.objs.size);obtain⟨W,Z,⟨m0,w0⟩,turn,q⟩:=q _ hp;refine N9 ?_;have I3:=I2.laid (a:=s2.heap.objs.size) (o:=.dT []) (h':=s2.heap.push { cls:=.type "dict",data:=.dict #[] }) (t':=s2.toks) (fun _ _ q=>E8 _ q) (F3 _) (oR s2.heap I2.big);have f3:∀b∈fp,cI X aa (upd H2 s2.heap.objs.size (.dT [])) b:=fun b hb=>by
  obtain⟨o,e,_⟩:=T.obj _ _ st2 b hb;have hne:b≠s2.heap.objs.size:=F7 (F2 e);obtain⟨a1,a2⟩:=f2 b hb;exact⟨by rw[aw hne];exact a1,a2⟩
 refine qr (s2:={ s2 with heap:=s2.heap.push { cls:=.type "dict",data:=.dict #[] } }) hu S bJ hg hk hv I3 T (T.keep _ _ _ st2 fun b _ o e=>E8 _ e) f3 w0 turn
  (RR:=fun C=>compPost (J9 X.prog X.w) X.A X.xe (some (T5 (.Name x pos') X.env)) (fun _ s'=>SP X aa D .next s') (.ref s2.heap.objs.size) C) ?_
 intro s' σ' H' I' hZ;obtain⟨m,hm,_⟩:=I'.loc;have I4:=qg I3 f3 I' (R8.refl _ s'.heap);have hq:=q H' hZ;show J5 _ _ (T5 (.Name x pos') X.env (.ref s2.heap.objs.size)) _ _ _;refine wpAny_assign_Name (iR I4 hN hix (.inl hx) (v:=.ref s2.heap.objs.size) rfl (fun s4 I5 hsame=>?_) (.inr hx));obtain⟨a,hsb,ha⟩:=hsame;have hsz:(s2.heap.push { cls:=.type "dict",data:=.dict #[] }).objs.size=s2.heap.objs.size+1:=S8 ..;have hLC:(s2.heap.push { cls:=.type "dict",data:=.dict #[] }).objs.size≠X.env.locals:=by rw[hsz];exact R9 (J7 I2.lt)
 have haC:(s2.heap.push { cls:=.type "dict",data:=.dict #[] }).objs.size≠a:=by
  rcases ha with rfl|ha
  ·exact hLC
  ·intro z;obtain⟨v,o,ho,_⟩:=I2.cell x a ha;rw[hsz]at z;exact absurd (J7 (F2 ho)) (by rw[<-z];exact M8 _)
 refine⟨m,hm.sameBut hsb haC,fun h' hs'=>?_⟩;refine⟨_,_,?_,hq⟩;exact Inv.turned (t':=s4.toks) (h':=h') (it:=(s2.heap.push { cls:=.type "dict",data:=.dict #[] }).objs.size) I5 (fun b o hb e=>(hs'.2 b hb).trans e) I'.free hLC (.inr (by rw[hsz];exact Nat.le_succ_of_le I2.sz)) (fun y c e=>by
  obtain⟨v,o,ho,_⟩:=I2.cell y c e;rw[hsz];exact F7 (J7 (F2 ho))) (fun p hp=>by
  rw[hsz];exact F7 (J7 (F2 (I2.pin p hp).1)))
end
section
variable{X:Cx}{tg iter vx:J0}{es:List J0}{pos:Pos}{scope:O9}{cl:List (Str×F5)}{ms:List Bool}{ag:List Str}
def j6(g:GD) (ta:TAd) (tv:TEd) (p:F5):List D->DE->DH->(DH->Prop)->Prop
 |[],_,M,Q=>Q M
 |d::ds,Δ,M,Q=>∃ Δ',g d Δ=some Δ'/\ta Δ' M fun kds M1=>kds.length<=E9/\tv Δ' M1 fun v M2=>∃kvs ks,M2 p=some (.dT kvs)/\kds=ks.map kD/\kvs.length<E9/\j6 g ta tv p ds Δ' (au M2 p (.dT (dR kvs ks v))) Q
def dDc(ms:List Bool) (k:Nat) (wi:TId) (g:GD) (ta:TAd) (tv:TEd):TEd:=fun Δ M Q=>wi Δ M fun ds M1=>∀p,M1 p=none->j6 g ta tv p ds (mL ms k Δ) (au M1 p (.dT [])) fun M2=>Q (.ref p) M2
theorem yo{K:o0}{wi:TId}{g:GD}{ta:TAd}{tv:TEd}{gv:TG}{ms:List Bool}{kk:Nat}
  (kg:∀(d:D) (v:V) (σ:St) (Δ Δ':DE) (M:DH) (H:Hp) (Q:St->Hp->Prop),SR K M H σ Δ->HR K M H->Rep K M H d v->g d Δ=some Δ'->(∀ σ',SR K M H σ' Δ'->Q σ' H)->gv v σ H Q) :
  ∀ σ H Q,up K (dDc ms kk wi g ta tv) σ H Q->tDc ms kk (upI K wi) gv (xm (upA K ta)) (up K tv) σ H Q:=by
 rintro σ H Q ⟨Δ,M,R,sr,hr,q,k⟩;refine⟨Δ,M,_,sr,hr,q,fun ds M1 J H1 q1 e1 hr1 it=>fun p hp=>?_⟩;have e0:Ext M1 H1 (au M1 p (.dT [])) (upd H1 p (.dT [])):=Ext.own hp;refine⟨fun i m σ' H'=>∃ Δ' M',m=ds.length-i/\i<=ds.length/\Ext M1 H1 M' H'/\HR K M' H'/\SR K M' H' σ' Δ'/\j6 g ta tv p (ds.drop i) Δ' M' fun M2=>R (.ref p) M2,
  fun H'=>∃M',Ext M1 H1 M' H'/\HR K M' H'/\R (.ref p) M',⟨ds.length,_,_,by simp,R1 _,e0,hr1.put e0 ⟨[],az,.nil⟩,((sr.ext e1).ext e0).comp ms kk,q1 p (hr1.fresh hp)⟩,?_,?_⟩
 ·rintro i m σ2 H2 ⟨Δ2,M2,rfl,hi2,e2,hr2,sr2,f2⟩;obtain⟨go,stop⟩:=it M2 H2 e2 hr2 i
  by_cases hlt:i<ds.length
  ·have hd:ds[i]?=some ds[i]:=by simp[hlt]
   obtain⟨g1,y1⟩:=go _ hd;rw[List.drop_eq_getElem_cons hlt]at f2;simp only[j6]at f2;obtain⟨Δ3,eg,f3⟩:=f2;refine .inr ⟨g1,fun x H' hy=>?_⟩;obtain⟨e3,hr3,rx⟩:=y1 x H' hy;refine kg _ x σ2 Δ2 Δ3 M2 H' _ (sr2.ext e3) hr3 rx eg fun σ3 sr3=>?_;refine⟨Δ3,M2,_,sr3,hr3,f3,fun kds M4 kvs' H4 ⟨hz,q4⟩ e4 hr4 rk=>⟨by rw[<-rk.length];exact hz,fun b hb=>?_⟩⟩;have e5:Ext M4 H4 M4 (upd H4 b (.tup kvs')):=Ext.new hr4 hb;refine⟨Δ3,M4,_,(sr3.ext e4).ext e5,hr4.new hb,q4,fun v M6 v6 H6 ⟨kvs,ks,em,ek,hl,q6⟩ e6 hr6 rv6=>?_⟩;subst ek;obtain⟨vs,h6,kr⟩:=hr6 p _ em;have eb:=(e6 b _ az (hr4.fresh hb)).1;rw[eQ rk]at eb;have ew:Ext M6 H6 (au M6 p (.dT (dR kvs ks v))) (upd H6 p (.dT (cN vs ks v6))):=Ext.write em;exact⟨_,⟨vs,ks,b,h6,rfl,eb,by rw[<-kr.length];exact hl,rfl⟩,ds.length-(i+1),by omega,Δ3,_,rfl,hlt,((((e2.trans e3).trans e4).trans e5).trans e6).trans ew,hr6.put ew ⟨_,az,(kr.put ks rv6).ext ew⟩,(((sr3.ext e4).ext e5).ext e6).ext ew,q6⟩
  ·rw[List.drop_eq_nil_of_le (by omega)]at f2;exact .inl ⟨stop (by omega),M2,e2,hr2,f2⟩
 ·rintro H' ⟨M',e',hr',q'⟩;exact k _ M' _ _ q' (e1.trans e') hr' (by simp only[Rep])
end
end L2
namespace L2
open PySem PySem.W PyProof.Rows
section
variable{α β:Type}
variable{O:KeyOrd}{key:Nat->O.α}{n:Nat}
noncomputable def kp(O:KeyOrd) (key:Nat->O.α) (p:Array Nat) (i:Nat):O.α:=key (p.getD i 0)
def E6(n:Nat) (p:Array Nat):Prop:=p.toList.Perm (List.range n)
def E5(O:KeyOrd) (key:Nat->O.α) (p:Array Nat) (k:Nat):Prop:=∀i j,i<=j->j<k->O.kle (kp O key p i) (kp O key p j)
def E3(O:KeyOrd) (key:Nat->O.α) (p:Array Nat) (k:Nat):Prop:=∀i j,i<=j->j<k->O.kle (kp O key p j) (kp O key p i)
end
end L2
namespace L2
open PySem PySem.W PySem.Calls PyProof.Rows
section
variable{prog:Program}{w:World}{A:Around}{E:Value->Shared->Prop}{O:KeyOrd}
def sh(x:Addr) (s t:Shared):Prop:=∀b o,b≠x->s.heap.get? b=some o->t.heap.get? b=some o
end
def pD(p:Int×Int):D:=.tup [.int p.1,.int p.2]
end L2
namespace L2
open PySem PySem.Spec PyProof.Rows
theorem C3{X:Cx}{pos:Pos}:QEd X (.Dict [] [] pos) dDT:=by
 simp only[QEd.eq]at *
 exact PE.conv vD fun σ H Q hup=>hup.el fun Δ M R sr hr q k=>fun p hp =>
  k _ _ _ _ (q p (hr.fresh hp)) (Ext.own hp) (hr.put (Ext.own hp) ⟨[],az,.nil⟩) (by simp only[Rep])
theorem rJ{X:Cx}{a:Expr}{b:Expr}{ta:TEd}{tb:TEd}{pos:Pos}(ha:QEd X a ta) (hb:QEd X b tb):QEd X (.Dict [some a] [b] pos) (wk ta tb):=by
 simp only[QEd.eq]at *
 exact PE.conv (yp (uW ha hb yO) rfl rfl (by simp) (by simp)) fun σ H Q hup=>hup.el fun Δ M R sr hr q k=>fun p hp=>by
   have e0:Ext M H (au M p (.dK [])) (upd H p (.dK [])):=Ext.own hp;refine⟨Δ,_,_,sr.ext e0,hr.put e0 ⟨[],az,.nil⟩,q p (hr.fresh hp),fun x M1 v H1 q1 e1 hr1 rv=>⟨Δ,M1,_,(sr.ext e0).ext e1,hr1,q1,fun y M2 u H2 ⟨ky,ex,em,q2⟩ e2 hr2 ru=>?_⟩⟩;obtain⟨ks,h2,kr⟩:=hr2 p _ em;cases kr;subst ex;refine⟨h2,[(ky,u)],?_,by simp,?_⟩
   ·rw[jS rv];rfl
   ·have em':gk [] [(ky,u)]=[(ky,u)]:=by simp[gk,cN]
    rw[em'];have ew:Ext M2 H2 (au M2 p (.dK [(ky,y)])) (upd H2 p (.dK [(ky,u)])):=Ext.write em;exact k _ _ _ _ q2 ((e0.trans (e1.trans e2)).trans ew) (hr2.put ew ⟨_,az,.cons ⟨rfl,ru.ext ew⟩ .nil⟩) (by simp only[Rep])
theorem zi{X:Cx}{o:Expr}{i:Expr}{to:TEd}{ti:TEd}{pos:Pos}(hu:X.A.units+1<cLine) (ho:QEd X o to) (hi:QEd X i ti) (hs:xA i):QEd X (.Subscript o i pos) (zC to ti):=by
 simp only[QEd.eq]at *
 exact PE.conv (sx hu ho hi hs) fun σ H Q hup=>hup.el fun Δ M R sr hr q k=>⟨Δ,M,_,sr,hr,q,fun x M1 v H1 q1 e1 hr1 rv=>⟨Δ,M1,_,sr.ext e1,hr1,q1,fun y M2 u H2 ⟨a,kvs,ky,d,ex,em,ey,ed,q2⟩ e2 hr2 ru=>by
   subst ex;subst ey;simp only[Rep]at rv;subst rv;obtain⟨ks,h2,kr⟩:=hr2 a _ em;obtain⟨w,hw,rw_⟩:=(kr.val ky).1 d ed;refine⟨a,w,rfl,?_,k d M2 w H2 q2 (e1.trans e2) hr2 rw_⟩;rw[jS ru,<-hw];exact eN.k h2⟩⟩
theorem jz{X:Cx}{o:Expr}{es:List Expr}{to:TEd}{t:TAd}{pos:Pos}{x1}{p:Pos}(hu:X.A.units+1<cLine) (ho:QEd X o to) (ht:QAd X es t) (hs:xA (.Tuple es x1 p)):QEd X (.Subscript o (.Tuple es x1 p) pos) (zj to t):=by
 simp only[QEd.eq,QAd.eq]at *
 exact PE.conv (sx hu ho (gz ht) hs) fun σ H Q hup=>hup.el fun Δ M R sr hr q k=>⟨Δ,M,_,sr,hr,q,fun x M1 v H1 q1 e1 hr1 rv=>⟨Δ,M1,_,sr.ext e1,hr1,q1,fun ds M2 us H2 ⟨a,kvs,ky,d,ex,em,ey,ez,ed,q2⟩ e2 hr2 ru=>by
   subst ex;subst ey;simp only[Rep]at rv;subst rv;refine⟨by rw[<-ru.length];exact ez,fun p hp=>?_⟩;obtain⟨ks,h2,kr⟩:=hr2 a _ em;obtain⟨w,hw,rw_⟩:=(kr.val ky).1 d ed;have hap:a≠p:=bD h2 hp;refine⟨a,w,rfl,?_,k d M2 w _ q2 ((e1.trans e2).trans (Ext.new hr2 hp)) (hr2.new hp) (rw_.ext (Ext.new hr2 hp))⟩;rw[<-hw];refine eN.t (by rw[aw hap];exact h2) ?_;rw[az,eQ ru]⟩⟩
theorem zA{X:Cx}{o:Expr}{es:List Expr}{to:TEd}{t:TAd}{pos:Pos}(neg:Bool) {x1}{p:Pos}{op:CmpOp}(hop:op=(if neg then .NotIn else .In)) (hu:X.A.units+1<cLine) (ht:QAd X es t) (ho:QEd X o to) (hm:behindInMarks op o=false):QEd X (.Compare (.Tuple es x1 p) [op] [o] pos) (ze neg t to):=by
 simp only[QEd.eq,QAd.eq]at *
 exact PE.conv (wI (qE hop hu (gz ht) ho) hm) pC
theorem nt{X:Cx}{o:Expr}{i:Expr}{to:TEd}{ti:TEd}{pos:Pos}(neg:Bool) {op:CmpOp}(hop:op=(if neg then .NotIn else .In)) (hu:X.A.units+1<cLine) (hi:QEd X i ti) (ho:QEd X o to) (hm:behindInMarks op o=false):QTd X (.Compare i [op] [o] pos) (lP (A6 neg ti to)):=by
 simp only[QEd.eq,QTd.eq]at *
 exact PT.conv (qi (qE hop hu hi ho) hm) (A9 uX)
theorem rj{X:Cx}{o:Expr}{es:List Expr}{to:TEd}{t:TAd}{pos:Pos}(neg:Bool) {x1}{p:Pos}{op:CmpOp}(hop:op=(if neg then .NotIn else .In)) (hu:X.A.units+1<cLine) (ht:QAd X es t) (ho:QEd X o to) (hm:behindInMarks op o=false):QTd X (.Compare (.Tuple es x1 p) [op] [o] pos) (lP (ze neg t to)):=by
 simp only[QEd.eq,QAd.eq,QTd.eq]at *
 exact PT.conv (qi (qE hop hu (gz ht) ho) hm) (A9 pC)
theorem qf{X:Cx}{e:Expr}{o:Expr}{i:Expr}{te:TEd}{to:TEd}{ti:TEd}{pos:Pos}{p:Pos}(hu:X.A.units+1<cLine) (ho:QEd X o to) (hi:QEd X i ti) (he:QEd X e te) (hs:swapsWith e (some (.Subscript o i p)) pos.line X.env=pure false:=by rfl):QSd X (.Assign [.Subscript o i p] e pos) (zZ to ti te):=by
 simp only[QEd.eq,QSd.eq]at *
 exact PS.conv (sP hu ho hi he hs) fun D σ H hup=>hup.el fun Δ M E sr hr q k=>⟨Δ,M,_,sr,hr,q,fun d M1 v H1 q1 e1 hr1 rv=>⟨Δ,M1,_,sr.ext e1,hr1,q1,fun x M2 u H2 q2 e2 hr2 ru=>⟨Δ,M2,_,(sr.ext e1).ext e2,hr2,q2,fun y M3 w H3 ⟨a,kvs,ky,ex,em,ey,hz,q3⟩ e3 hr3 rw_=>by
   subst ex;subst ey;simp only[Rep]at ru;subst ru;obtain⟨ks,h3,kr⟩:=hr3 a _ em;have ew:Ext M3 H3 (au M3 a (.dK (dR kvs ky d))) (upd H3 a (.dK (cN ks ky v))):=Ext.write em;refine⟨a,_,rfl,by rw[jS rw_];exact oJ.k h3 (by rw[<-kr.length];exact hz),?_⟩;exact k.nx Δ _ σ _ q3 (((e1.trans e2).trans e3).trans ew) (hr3.put ew ⟨_,az,(kr.put ky ((rv.ext e2).ext e3)).ext ew⟩) ((((sr.ext e1).ext e2).ext e3).ext ew)⟩⟩⟩
theorem nL{X:Cx}{e:Expr}{o:Expr}{es:List Expr}{te:TEd}{to:TEd}{t:TAd}{pos:Pos}{x1}{p p2:Pos}(hu:X.A.units+1<cLine) (ho:QEd X o to) (ht:QAd X es t) (he:QEd X e te) (hs:swapsWith e (some (.Subscript o (.Tuple es x1 p2) p)) pos.line X.env=pure false:=by rfl):QSd X (.Assign [.Subscript o (.Tuple es x1 p2) p] e pos) (zw to t te):=by
 simp only[QEd.eq,QAd.eq,QSd.eq]at *
 exact PS.conv (sP hu ho (gz ht) he hs) fun D σ H hup=>hup.el fun Δ M E sr hr q k=>⟨Δ,M,_,sr,hr,q,fun d M1 v H1 q1 e1 hr1 rv=>⟨Δ,M1,_,sr.ext e1,hr1,q1,fun x M2 u H2 q2 e2 hr2 ru=>⟨Δ,M2,_,(sr.ext e1).ext e2,hr2,q2,fun ds M3 ws H3 ⟨hl,a,kvs,ky,ex,em,ey,hz,q3⟩ e3 hr3 rw_=>by
   subst ex;subst ey;simp only[Rep]at ru;subst ru;refine⟨by rw[<-rw_.length];exact hl,fun p hp=>?_⟩;obtain⟨ks,h3,kr⟩:=hr3 a _ em;have hap:a≠p:=bD h3 hp;have e4:Ext M3 H3 M3 (upd H3 p (.tup ws)):=Ext.new hr3 hp;have hr4:=hr3.new (o:=.tup ws) hp;have ew:Ext M3 (upd H3 p (.tup ws)) (au M3 a (.dT (dR kvs ky d))) (upd (upd H3 p (.tup ws)) a (.dT (cN ks ky v))):=Ext.write em;have h4:upd H3 p (.tup ws) a=some (.dT ks):=by rw[aw hap];exact h3
   refine⟨a,_,rfl,oJ.t h4 (by rw[az,eQ rw_]) (by rw[<-kr.length];exact hz),?_⟩;exact k.nx Δ _ σ _ q3 ((((e1.trans e2).trans e3).trans e4).trans ew) (hr4.put ew ⟨_,az,((kr.ext e4).put ky (((rv.ext e2).ext e3).ext e4)).ext ew⟩) (((((sr.ext e1).ext e2).ext e3).ext e4).ext ew)⟩⟩⟩
theorem yt{X:Cx}{e:Expr}{o:Expr}{es:List Expr}{te:TEd}{to:TEd}{t:TAd}{x1}{p dv bP:Pos}(hu:X.A.units+1<cLine) (ho:QEd X o to) (ht:QAd X es t) (he:QEd X e te) (m:M2 X o "get" dv (.Tuple es x1 p) e bP):QEd X (.Call (.Attribute o "get" dv) [.Tuple es x1 p,e] [] bP) (vP to t te):=by
 simp only[QEd.eq,QAd.eq]at *
 exact PE.conv (vh hu ho (gz ht) he m) fun σ H Q hup=>hup.el fun Δ M R sr hr q k=>⟨Δ,M,_,sr,hr,q,fun x M1 v H1 ⟨a,kvs0,ex,em,q1⟩ e1 hr1 rv=>by
   subst ex;simp only[Rep]at rv;subst rv;obtain⟨ks0,h1,kr0⟩:=hr1 a _ em;refine⟨a,rfl,.inr ⟨ks0,.inl h1⟩,Δ,M1,_,sr.ext e1,hr1,q1,fun ds M2 us H2 ⟨hl,q2⟩ e2 hr2 ru=>⟨by rw[<-ru.length];exact hl,fun p hp=>?_⟩⟩;have e3:Ext M2 H2 M2 (upd H2 p (.tup us)):=Ext.new hr2 hp;refine⟨Δ,M2,_,((sr.ext e1).ext e2).ext e3,hr2.new hp,q2,fun z M3 w H3 ⟨kvs,ky,em3,ey,q3⟩ e4 hr4 rw_=>?_⟩;subst ey;obtain⟨ks,h3,kr⟩:=hr4 a _ em3;have eb:=(e4 p _ az (hr2.fresh hp)).1;rw[eQ ru]at eb;refine⟨e8 ks ky,eN.t h3 eb,?_⟩;cases ed:bp kvs ky with
   |some d =>
    obtain⟨w',hw,rw'⟩:=(kr.val ky).1 d ed;rw[hw];rw[ed]at q3;exact k _ M3 _ H3 q3 (((e1.trans e2).trans e3).trans e4) hr4 rw'
   |none =>
    have:=(kr.val ky).2;rw[ed]at this q3;have hn:e8 ks ky=none:=by simpa using this
    rw[hn];exact k _ M3 _ H3 q3 (((e1.trans e2).trans e3).trans e4) hr4 rw_⟩
theorem iu{X:Cx}{a:Expr}{b:Expr}{c:Expr}{pos:Pos}{tg:Expr}{ta:TAd}{p:Pos}(hg:Gl X "range") (hm:X.mg "range"=none) (ha:QAd X [a,b,c] ta) (hs:starEach [a,b,c] X.env=[(false,eval a X.env),(false,eval b X.env),(false,eval c X.env)]:=by rfl)
  (hs2:starEach [b,c] X.env=[(false,eval b X.env),(false,eval c X.env)]:=by rfl):QId X tg (.Call (.Name "range" p) [a,b,c] [] pos) (wN ta):=by
 simp only[QAd.eq,QId.eq]at *
 exact(tT hg hm ha hs hs2).conv fun σ H R hup=>hup.el fun Δ M R' sr hr q k=>⟨Δ,M,_,sr,hr,q,fun ds M1 vs H1 ⟨i,j,st,ed,h1,h2,q1⟩ e1 hr1 rv=>by
   subst ed;obtain⟨v,w,z,ev,rv1,rv2,rv3⟩:=rv.three;have ev1:v=.int i:=by simpa only[Rep]using rv1
   have ev2:w=.int j:=by simpa only[Rep]using rv2
   have ev3:z=.int st:=by simpa only[Rep]using rv3
   subst ev1;subst ev2;subst ev3;subst ev;exact⟨i,j,st,rfl,by lia,⟨h2.1,h2.2.1,h2.2.2.1,h2.2.2.2,by lia,by lia⟩,tE h1 h2.1 h2.2.1 h2.2.2.1 h2.2.2.2,k _ M1 _ H1 q1 e1 hr1 yE⟩⟩
theorem zO{X:Cx}{tg:Expr}{iter:Expr}{elt:Expr}{pos:Pos}{scope:Scope}{cl:List (Str×Addr)}{ms:List Bool}{ag:List Str}{ifs:List Expr}{wi:TId}{g:GD}{tc:TTd}{te:TEd}(S:bU X scope cl ms ag) (bJ:X.calm=true) (hi:QId X tg iter wi) (hg:B9 X scope cl ag tg g)
  (hif:bU X scope cl ms ag->∀C s H ex,QIf (cxC X scope cl (X.N++ag) C s H ex) ifs tc) (he:bU X scope cl ms ag->∀C s H ex,QEd (cxC X scope cl (X.N++ag) C s H ex) elt te)
  (hs:∀x,foldedSetIterable iter X.env x=pure x:=by intro _;rfl):QEd X (.ListComp elt [⟨tg,iter,ifs,0⟩] scope pos) (dLc ms ag.length wi g tc te):=by
 simp only[QEd.eq,QId.eq,QIf.eq]at *
 obtain⟨gv,pg,kg⟩:=hg;exact(A3 (tc:=upT X.K tc) (te:=up X.K te) S bJ hi pg (hif S) (he S) hs).conv (nW kg)
theorem CT{X:Cx}{tg:Expr}{l:Expr}{te:TEd}(he:QEd X l te):QId X tg l (Cv te):=by
 simp only[QEd.eq,QId.eq]at *
 exact fun aa s σ H R I h =>
  PI.conv (CF he) (fun σ H R hup=>hup.el fun Δ M R' sr hr q k=>⟨Δ,M,_,sr,hr,q,fun d M1 v H1 ⟨a,kvs,ed,em,q1⟩ e1 hr1 rv=>by
   subst ed;simp only[Rep]at rv;subst rv;obtain⟨ks,h1,kr⟩:=hr1 a _ em;refine⟨a,ks,rfl,h1,fun o=>?_⟩;have e2:Ext M1 H1 (eY M1 a) (upd H1 a (.frz o (.dK ks))):=fun b u z n=>by
    have hb:b≠a:=fun w=>by rw[w,em]at n;cases n
    rw[aw hb,jG hb];exact⟨z,n⟩
   have hr2:HR X.K (eY M1 a) (upd H1 a (.frz o (.dK ks))):=fun b u z=>by
    have hb:b≠a:=fun w=>by rw[w,cT]at z;cases z
    rw[jG hb]at z;exact(hr1 b u z).keep e2 (aw hb)
   refine k _ _ _ _ q1 (e1.trans e2) hr2 ?_
   ·intro M2 H2 e3 hr3 i;have ea:=(e3 a _ az cT).1;refine⟨fun d hd=>?_,fun hl=>⟨ea,?_⟩⟩
    ·rw[List.getElem?_map]at hd;cases q:kvs[i]? with
     |none=>rw[q]at hd;cases hd
     |some p =>
      rw[q]at hd;cases hd;have hi:i<kvs.length:=(List.getElem?_eq_some_iff.mp q).1;refine⟨⟨ea,by rw[<-kr.length];exact hi⟩,fun x H' ⟨eH,k',v',hk,ex⟩=>?_⟩;subst eH;subst ex;have q1:=congrArg (fun l=>l[i]?) kr.keys;simp only[List.getElem?_map,q,hk,Option.map_some]at q1;have q2:p.fst=k':=Option.some.inj q1;refine⟨Ext.refl _ _,hr3,?_⟩;show Rep X.K M2 _ (kD p.fst) (kV k');rw[q2];exact kB
    ·rw[<-kr.length];simpa using hl⟩) aa s σ H R I h
theorem zg{X:Cx}{tg:Expr}{iter:Expr}{vx:Expr}{es:List Expr}{pos:Pos}{scope:Scope}{cl:List (Str×Addr)}{ms:List Bool}{ag:List Str}{i:Nat}{x:Str}{spos pos' p2:Pos}{x1}{wi:TId}{g:GD}{ta:TAd}{tv:TEd}(hu:X.A.units<cLine) (hN:X.N.Nodup) (hix:X.N[i]?=some x) (hx:X.env.scope.names.lookup x=some .local)
  (hsw:swapsWith (.DictComp (.Tuple es x1 p2) vx [⟨tg,iter,[],0⟩] scope pos) (some (.Name x pos')) spos.line X.env=pure true) (S:cy X scope cl ms ag) (bJ:X.calm=true) (hi:QId X tg iter wi) (hg:PGa X scope cl ag tg g)
  (hk:∀C s H ex,QAd (ax X scope cl (X.N++ag) C s H ex) es ta) (hv:∀C s H ex,QEd (ax X scope cl (X.N++ag) C s H ex) vx tv)
  (hs:∀x,foldedSetIterable iter X.env x=pure x:=by intro _;rfl):QSd X (.Assign [.Name x pos'] (.DictComp (.Tuple es x1 p2) vx [⟨tg,iter,[],0⟩] scope pos) spos) (u9 i (dDc ms ag.length wi g ta tv)):=by
 simp only[QEd.eq,QAd.eq,QSd.eq,QId.eq]at *
 obtain⟨gv,pg,kg⟩:=hg;refine(wy (tk:=xm (upA X.K ta)) (tv:=up X.K tv) hu hN hix hx hsw S bJ hi pg (fun C s H ex=>gz (hk C s H ex)) hv hs).conv fun D σ H hh=>?_;obtain⟨Δ,M,E,sr,hr,q,k⟩:=hh;exact yo kg σ H _ ⟨Δ,M,_,sr,hr,q,fun d M1 v H1 q1 e1 hr1 rv=>k.nx _ M1 _ H1 q1 e1 hr1 ((sr.ext e1).set i rv)⟩
theorem cj.units1{k:Nat}{A:Around}(r:cj k A):A.units+1<cLine:=by have:=r.un;lia
theorem Da{i:Int}{P:Key->Prop}:(∃k,D.int i=kD k/\P k)↔P (.inl i) :=
 ⟨fun⟨k,e,h⟩=>match k,e with|.inl _,rfl=>h,fun h=>⟨_,rfl,h⟩⟩
theorem Ef{x:Str}{P:Key->Prop}:(∃k,D.str x=kD k/\P k)↔P (.inr x) :=
 ⟨fun⟨k,e,h⟩=>match k,e with|.inr _,rfl=>h,fun h=>⟨_,rfl,h⟩⟩
theorem z6:∀{a b:Key},kD a=kD b->a=b
 |.inl _,.inl _,h=>by cases h;rfl
 |.inr _,.inr _,h=>by cases h;rfl
 |.inl _,.inr _,h=>by cases h
 |.inr _,.inl _,h=>by cases h
theorem sm:∀{a b:List Key},a.map kD=b.map kD->a=b
 |[],[],_=>rfl
 |[],_::_,h=>by cases h
 |_::_,[],h=>by cases h
 |x::xs,y::ys,h=>by
  simp only[List.map_cons,List.cons.injEq]at h;rw[z6 h.1,sm h.2]
theorem zL{a b:Key}{P:List Key->Prop}:(∃ks:List Key,[kD a,kD b]=ks.map kD/\P ks)↔P [a,b] :=
 ⟨fun⟨ks,e,h⟩=>by rw[sm (a:=[a,b]) (b:=ks) (by simpa using e)];exact h,fun h=>⟨_,rfl,h⟩⟩
theorem Ad{i j:Int}{P:List Key->Prop}:(∃ks:List Key,[D.int i,D.int j]=ks.map kD/\P ks)↔P [.inl i,.inl j]:=zL (a:=.inl i) (b:=.inl j)
theorem B0{i j:Str}{P:List Key->Prop}:(∃ks:List Key,[D.str i,D.str j]=ks.map kD/\P ks)↔P [.inr i,.inr j]:=zL (a:=.inr i) (b:=.inr j)
theorem yu{i j:Int}:Bs [.int i,.int j]=some (.int (if j<i then j else i)):=rfl
section
variable{X:Cx}{a b:Expr}{ta tb:TEd}{pos:Pos}
def zk(ta tb:TEd):TEd:=fun Δ M Q=>ta Δ M fun x M1=>tb Δ M1 fun y M2=>∃xs ys,rdM M2 x=.lst xs/\rdM M2 y=.lst ys/\xs.length+ys.length<=sizeLine/\∀p,M2 p=none->Q (.ref p) (au M2 p (.lst (xs++ys)))
theorem Aw(ha:QEd X a ta) (hb:QEd X b tb):QEd X (.BinOp a .Add b pos) (zk ta tb):=by
 simp only[QEd.eq]at *
 exact(zt wf ha hb).conv fun σ H Q hup=>hup.el fun Δ M R sr hr q k=>⟨Δ,M,_,sr,hr,q,fun x M1 v H1 q1 e1 hr1 rv=>⟨Δ,M1,_,sr.ext e1,hr1,q1,fun y M2 u H2 ⟨xs,ys,ex,ey,hz,q2⟩ e2 hr2 ru=>by
   have r1:=(rv.ext e2).rd hr2;have r2:=ru.rd hr2;rw[ex]at r1;rw[ey]at r2;obtain⟨l1,vs,rfl,h1,l1r⟩:=r1;obtain⟨l2,ws,rfl,h2,l2r⟩:=r2;exact⟨l1,l2,vs,ws,rfl,rfl,h1,h2,by rw[<-l1r.length,<-l2r.length];exact hz,fun p hp=>k _ _ _ _ (q2 p (hr2.fresh hp)) ((e1.trans e2).trans (Ext.own hp)) (hr2.own hp (l1r.append l2r)) (by simp only[Rep])⟩⟩⟩
end
@[irreducible] def yw(t:TSd):TSd:=t
theorem rm{t:TSd}:yw t=t:=by unfold yw;rfl
theorem dJ{t:TSd}{E:gb}{Δ:DE}{M:DH}(h:t E Δ M):yw t E Δ M:=by rw[rm];exact h
theorem jh{X:Cx}{st:List Stmt}{t:TSd}(h:QSs X st t):QSs X st (yw t):=by rw[rm];exact h
theorem vN{K:Params->PySem.W.Frag}{as:List Addr}{n t:Nat}{q:Program}{loose:List Str}{XP:(Str->Option Value)->Heap->Prop}{r:PySem.W.RowW}{d:DefRec}{kwd:List (Str×Expr)}{run:Value->List Value->Sem Value}(hk:∀P,as=(K P).map (·.1))
  (h:PySem.W.WalkO q loose XP (fun w h=>(K w.params).In h) r d kwd run):PySem.W.WalkX q loose XP (PySem.W.X.obsZ as) (PySem.W.X.valZ K n t) r d kwd run:=by
 intro w s₀ s₁ mg mb G y a o pm cd doc dV kV ho hd hcd hD hmg hg args vals as' L hpre hlay hrd hwl hlo;refine h w s₀ s₁ mg mb G (fun b u hu=>L.keeps b u ?_) a o pm cd doc dV kV ho hd hcd hD hmg hg args vals as' hpre hlay hrd hwl hlo;have y1:as.map s₀.heap.get?=(K w.params).map fun p=>some p.2:=congrArg (·.1) y;rw[hk w.params,List.map_map]at y1;have key:∀(l:PySem.W.Frag),(l.map fun p=>s₀.heap.get? p.1)=l.map (fun p=>some p.2)->List.lookup b l=some u->s₀.heap.get? b=some u:=by
  intro l
  induction l with
  |nil=>intro _ z;cases z
  |cons p l ih =>
   intro e z;rw[List.map_cons,List.map_cons,List.cons.injEq]at e;rw[List.lookup_cons]at z
   by_cases c:b=p.1
   ·subst c;rw[beq_self_eq_true]at z;cases z;exact e.1
   ·rw[beq_eq_false_iff_ne.mpr c]at z;exact ih e.2 z
 exact key _ y1 hu
end L2
namespace L2
open PySem PySem.W PySem.Calls PyProof.Rows
end L2
namespace L2
open PySem PySem.Spec PyProof.Rows
section
variable{X:Cx}
end
theorem qo{prog:Program}{w:World}{A:Around}{E:Value->Shared->Prop}{s:Shared}{it d:Addr}{i ep:Nat}{es:Array DictEntry}{od:Obj}{ok ov:Value}{Q:Option Value->Shared->Prop}
  (hit:IsItemIter s.heap it d i es.size ep ok ov) (hod:s.heap.get? d=some od) (hdd:od.data=.dict es ep) (hlt:i<es.size)
  (hQ:∀ h':Heap,IsItemIterOut h' it d (i + 1) es.size ep es[i].key es[i].val s.heap.objs.size → h'.get? s.heap.objs.size = some { cls:=Value.type "tuple",data:=Data.seq #[es[i].key,es[i].val] } → h'.objs.size = s.heap.objs.size + 1 →
   (∀b o,b≠it->s.heap.get? b=some o->h'.get? b=some o)->Q (some (Value.ref s.heap.objs.size)) { s with heap:=h' }):wpAny (model prog w) A (pyNext (Value.ref it)) Q E s:=by
 obtain⟨hp,g,dr,tk,os⟩:=s;dsimp only at hit hod hQ;have hT:Shared.TypeIs { heap:=hp,gens:=g,drawn:=dr,toks:=tk,os:=os } (Value.ref it) "dict_itemiterator":=⟨_,hit,rfl⟩;refine wpAny_bind (wpAny_attempt (wpAny_callSpecial?_slot hT F.slot_dict_itemiterator_next (wpAny_call_entry F.slot_dict_itemiterator_next hT F.entry_dict_itemiterator_next ?_)));refine wpAny_bind (wpAny_pure (wpAny_bind (wpAny_bind (wpAny_bind (wpAny_typeNameOfWhole_itemiter hT (wpAny_pure (wpAny_bind (wpAny_fieldsOf hit rfl ?_))))))));have hown:Builtin.Dict_items.ownsTuple "dict_itemiterator"=true:=by decide
 simp only[hown,if_true,List.drop_succ_cons,List.drop_zero,List.take_succ_cons,List.take_zero];refine wpAny_ite_false (Eq.refl (decide ((Value.ref d==Value.none)=true))) ?_;refine wpAny_bind (wpAny_pure (wpAny_bind (wpAny_dictEntries hod hdd ?_)));refine wpAny_ite_false (by simp) ?_;refine wpAny_bind (wpAny_pure (wpAny_bind (wpAny_dictEpoch hod hdd ?_)));refine wpAny_ite_false (by simp) (wpAny_pure ?_);have e1:(if((i:Nat):Int)<0 then none else es[((i:Nat):Int).toNat]?)=some es[i]:=by
  rw[if_neg (by lia),Int.toNat_natCast,Array.getElem?_eq_getElem hlt]
 simp only[e1];refine wpAny_bind (wpAny_bind (wpAny_typeNameOfWhole_itemiter hT (wpAny_pure (wpAny_bind (wpAny_isOneOf_itemiter hT ?_)))));refine wpAny_bind ?_;refine wpAny_setField_rec (k:=3) (x:=Value.int ((i:Int)+1) 0) hit (by simp) fun h₁ he₁ hs₁=>?_;have he₁:IsItemIter h₁ it d (i+1) es.size ep ok ov:=by
  show h₁.get? it=_;rw[he₁];simp
 have hT₁:Shared.TypeIs { heap:=h₁,gens:=g,drawn:=dr,toks:=tk,os:=os } (Value.ref it) "dict_itemiterator":=⟨_,he₁,rfl⟩;refine wpAny_bind (wpAny_holding ?_);refine wpAny_bind (wpAny_isOneOf_itemiter hT₁ ?_);refine wpAny_bind (wpAny_isOneOf_itemiter hT₁ ?_);refine wpAny_bind (wpAny_newTuple ?_);dsimp only;have hz₁:h₁.objs.size=hp.objs.size:=hs₁.1;have kp₁:∀b o,b≠it->hp.get? b=some o->h₁.get? b=some o:=fun b o hb e=>hs₁.extBut b o hb e;have he₂:IsItemIter (h₁.push { cls:=Value.type "tuple",data:=Data.seq #[es[i].key,es[i].val] }) it d (i+1) es.size ep ok ov:=Heap.get?_push_of_some _ he₁;have ht₂:(h₁.push { cls:=Value.type "tuple",data:=Data.seq #[es[i].key,es[i].val] }).get? h₁.objs.size=some { cls:=Value.type "tuple",data:=Data.seq #[es[i].key,es[i].val] }:=Heap.get?_push_size _ rfl;have kp₂:∀b o,b≠it->hp.get? b=some o->(h₁.push { cls:=Value.type "tuple",data:=Data.seq #[es[i].key,es[i].val] }).get? b=some o:=fun b o hb e=>Heap.get?_push_of_some _ (kp₁ b o hb e);have hz₂:(h₁.push { cls:=Value.type "tuple",data:=Data.seq #[es[i].key,es[i].val] }).objs.size=hp.objs.size+1:=by rw[Heap.size_push,hz₁]
 rw[hz₁]at ht₂ ⊢;generalize h₁.push { cls:=Value.type "tuple",data:=Data.seq #[es[i].key,es[i].val] }=h₂ at *
 have hne:hp.objs.size≠it:=fun z=>by
  have h0:it<hp.objs.size:=Heap.lt_size hit;rw[z]at h0;exact Nat.lt_irrefl _ h0
 refine wpAny_bind ?_;refine wpAny_bind (wpAny_field he₂ rfl rfl (wpAny_pure ?_));refine wpAny_ite_true (Eq.refl (decide (true=true))) ?_;refine wpAny_bind (wpAny_field he₂ rfl rfl (wpAny_bind (wpAny_field he₂ rfl rfl ?_)));refine wpAny_bind (wpAny_setField_rec he₂ (by simp) fun h₃ he₃ hs₃=>?_);refine wpAny_bind (wpAny_setField_rec he₃ (by simp) fun h₄ he₄ hs₄=>?_);refine wpAny_bind (wpAny_setField_rec he₄ (by simp) fun h₅ he₅ hs₅=>?_);refine wpAny_bind (wpAny_setField_rec he₅ (by simp) fun h₆ he₆ hs₆=>?_);refine wpAny_bind (wpAny_letGo (wpAny_pure (wpAny_pure ⟨_,rfl,wpAny_pure ?_⟩)));refine hQ h₆ ?_ ?_ ?_ fun b o hb e=>?_
 ·show h₆.get? it=_;rw[he₆];simp
 ·exact hs₆.extBut _ _ hne (hs₅.extBut _ _ hne (hs₄.extBut _ _ hne (hs₃.extBut _ _ hne ht₂)))
 ·have e1:=hs₃.1;have e2:=hs₄.1;have e3:=hs₅.1;have e4:=hs₆.1;dsimp only at e1 e2 e3 e4
  lia
 ·exact hs₆.extBut _ _ hb (hs₅.extBut _ _ hb (hs₄.extBut _ _ hb (hs₃.extBut _ _ hb (kp₂ b o hb e))))
theorem kH{prog:Program}{w:World}{A:Around}{E:Value->Shared->Prop}{s:Shared}{it d:Addr}{i ep:Nat}{es:Array DictEntry}{od:Obj}{ok ov:Value}{Q:Option Value->Shared->Prop}
  (hA:A.handled=none) (hit:IsItemIter s.heap it d i es.size ep ok ov) (hod:s.heap.get? d=some od) (hdd:od.data=.dict es ep) (hlt:es.size<=i)
  (hQ:∀h':Heap,Heap.ExtBut it s.heap h'->Q none { s with heap:=h' }):wpAny (model prog w) A (pyNext (Value.ref it)) Q E s:=by
 obtain⟨hp,g,dr,tk,os⟩:=s;dsimp only at hit hod hQ;have hT:Shared.TypeIs { heap:=hp,gens:=g,drawn:=dr,toks:=tk,os:=os } (Value.ref it) "dict_itemiterator":=⟨_,hit,rfl⟩;refine wpAny_bind (wpAny_attempt (wpAny_callSpecial?_slot hT F.slot_dict_itemiterator_next (wpAny_call_entry F.slot_dict_itemiterator_next hT F.entry_dict_itemiterator_next ?_)));refine wpAny_bind (wpAny_pure (wpAny_bind (wpAny_bind (wpAny_bind (wpAny_typeNameOfWhole_itemiter hT (wpAny_pure (wpAny_bind (wpAny_fieldsOf hit rfl ?_))))))));have hown:Builtin.Dict_items.ownsTuple "dict_itemiterator"=true:=by decide
 simp only[hown,if_true,List.drop_succ_cons,List.drop_zero,List.take_succ_cons,List.take_zero];refine wpAny_ite_false (Eq.refl (decide ((Value.ref d==Value.none)=true))) ?_;refine wpAny_bind (wpAny_pure (wpAny_bind (wpAny_dictEntries hod hdd ?_)));refine wpAny_ite_false (by simp) ?_;refine wpAny_bind (wpAny_pure (wpAny_bind (wpAny_dictEpoch hod hdd ?_)));refine wpAny_ite_false (by simp) (wpAny_pure ?_);have e1:(if((i:Nat):Int)<0 then none else es[((i:Nat):Int).toNat]?)=none:=by
  rw[if_neg (by lia),Int.toNat_natCast,Array.getElem?_eq_none hlt]
 simp only[e1];refine wpAny_bind (wpAny_bind (wpAny_typeNameOfWhole_itemiter hT (wpAny_pure ?_)));refine wpAny_bind (wpAny_setField hit rfl (by simp[hown]) ?_);dsimp only;have kp:Heap.ExtBut it hp (hp.update it (Obj.mapFields fun x=>x.setIfInBounds (if Builtin.Dict_items.ownsTuple "dict_itemiterator"=true then 2 else 0) Value.none)):=(Heap.SameBut.update hp it _).extBut;generalize hp.update it (Obj.mapFields fun x=>x.setIfInBounds (if Builtin.Dict_items.ownsTuple "dict_itemiterator"=true then 2 else 0) Value.none)=h1 at kp;refine wpAny_bind ?_;unfold newExc;refine wpAny_bind (wpAny_newObj_type ?_ (show(#[]:Array Value).size<=_ by simp));refine wpAny_bind (wpAny_of_eq (Eq.refl (firstArgMember (Value.type "StopIteration") [])) ?_);refine wpAny_newObj_type ?_ (sizeOk_excFields _ _ _ _ _ _ _ _);refine wpAny_raiseNew_none hA ?_;refine wpAny_bind (wpAny_isInstance (T:="StopIteration") (b:=true) ⟨_,Heap.get?_push_size _ rfl,rfl⟩ rfl ?_);refine wpAny_ite_true (Eq.refl (decide (true=true))) (wpAny_pure ?_);exact hQ _ ((kp.push _).push _)
theorem rf{prog:Program}{w:World}{A:Around}{E:Value->Shared->Prop}{s:Shared}{d:Addr}{od:Obj}{es:Array DictEntry}{ep:Nat}{Q:Value->Shared->Prop}
  (hs:(d==sysModules)=false) (hod:s.heap.get? d=some od) (hx:od.ExactDict) (hdd:od.data=.dict es ep) 
  (hQ:Q (.ref s.heap.objs.size) { s with heap:=s.heap.push { cls:=.type "dict_items",data:=.fields #[.ref d] } }):wpAny (model prog w) A (call (.builtin "dict.items") [.ref d]) Q E s:=by
 have hT:s.TypeIs (.ref d) "dict":=⟨_,hod,hx.1⟩;refine wpAny_call_entry F.slot_dict_items hT F.entry_dict_items ?_ (F.args_dict_items_1 _);refine wpAny_bind ?_;show wpAny _ _ (Bind.bind _ _) _ _ _;refine wpAny_bind (wpAny_notOrdered_dict hT ?_);refine wpAny_pure ?_;show wpAny _ _ (do Builtin.Dict.showsAll d;let __do_lift <-newFields "dict_items" [Value.ref d];ret __do_lift) _ _ _;refine wpAny_bind (wpAny_ite_false (by simp[hs]) (wpAny_pure ?_));exact wpAny_bind (wpAny_newObj_type (wpAny_pure ⟨_,rfl,hQ⟩) (show(#[Value.ref d]:Array Value).size<=_ by simp))
theorem qZ{prog:Program}{w:World}{A:Around}{E:Value->Shared->Prop}{s:Shared}{v d:Addr}{od:Obj}{es:Array DictEntry}{ep:Nat}{Q:Value->Shared->Prop}
  (hv:s.heap.IsItemsView v d) (hod:s.heap.get? d=some od) (hdd:od.data=.dict es ep)
  (hQ:∀h',IsItemIter h' s.heap.objs.size d 0 es.size ep .none .none->(∀b o,s.heap.get? b=some o->h'.get? b=some o)->Q (.ref s.heap.objs.size) { s with heap:=h' }):wpAny (model prog w) A (pyIter (.ref v)) Q E s:=by
 obtain⟨ov,hov,hcv,hdv⟩:=id hv;refine wpAny_pyIter_slot hv.typeIs F.slot_dict_items_iter (wpAny_call_entry F.slot_dict_items_iter hv.typeIs F.entry_dict_items_iter ?_ (F.args_dict_items_iter_1 _));refine wpAny_bind (wpAny_pure (wpAny_bind ?_));show wpAny _ _ (Bind.bind _ _) _ _ _;refine wpAny_bind (wpAny_field hov hdv rfl (wpAny_pure (wpAny_bind ?_)));show wpAny _ _ (Bind.bind _ _) _ _ _;refine wpAny_bind (wpAny_dictEntries hod hdd (wpAny_bind (wpAny_dictEpoch hod hdd ?_)));have hown:Builtin.Dict_items.ownsTuple "dict_itemiterator"=true:=by decide
 simp only[hown,if_true];refine wpAny_newObj_type (wpAny_pure ⟨_,rfl,"dict_itemiterator",_,⟨_,Heap.get?_push_size _ rfl,rfl⟩,F.slot_dict_itemiterator_next.lookup,?_⟩) (show Array.size _<=_ by simp[Builtin.Dict_items.ownedTupleFields];exact Nat.le_of_lt (tS (by decide)));exact hQ _ (Heap.get?_push_size _ rfl) fun b o e=>Heap.get?_push_of_some _ e
def Dr(a:Addr) (o:Obj) (ks:List (List Key×V)):It :=
 ⟨fun i H=>H a=some (.frz o (.dT ks))/\i<ks.length,fun i H x H'=>∃T q k v,x=.ref T/\H T=none/\ks[i]?=some (k,v)/\H q=some (.tup (k.map kV))/\H'=upd H T (.tup [.ref q,v]),fun i H=>H a=some (.frz o (.dT ks))/\ks.length<=i⟩
section
variable{X:Cx}{aa:List (Addr×Obj)}{σ:St}{H:Hp}{s:Shared}{a:Addr}{o:Obj}{ks:List (List Key×V)}
theorem Inv.freezeT(I:Inv X aa σ H s) (e:H a=some (.dT ks)):∃o,s.heap.get? a=some o/\Inv X aa σ (upd H a (.frz o (.dT ks))) s:=by
 have q:=I.hok a _ e;obtain⟨_,_,_,_,o,_,_,he,_⟩:=id q;refine⟨o,he,?_⟩;have ne:∀{b},H b≠some (.dT ks)->b≠a:=fun {b} z w=>z (by rw[w];exact e);have:=I.write (x:=a) (e:=a) (o:=.frz o (.dT ks)) (h':=s.heap) (t':=s.toks) (by rw[e];exact True.intro) (.inl rfl) (fun b u _ q=>q) ⟨o,he⟩ ⟨he,q.stay (fun c v _ r=>r) (fun c r=>by rw[aw (ne (by rw[r];intro z;cases z))];exact r) fun c xs r=>by rw[aw (ne (by rw[r];intro z;cases z))];exact r⟩;exact this
theorem pH{ep:Nat}{es:Array DictEntry}(I:Inv X aa σ H s) (e:H a=some (.frz o (.dT ks))) (hd:o.data=.dict es ep):s.heap.get? a=some o/\∃xs:List (List Key×Addr×Value),Paired (fun(p:List Key×V) (q:List Key×Addr×Value)=>p.1=q.1/\H q.2.1=some (.tup (p.1.map kV))/\aA p.2 q.2.2) ks xs/\es.toList=xs.map (entryOfKey (tupleKind (aI X.prog X.w))):=by
 obtain⟨q,hz,hs,xs,rel,o',es',ep',q',c,d',r,_⟩:=I.hok a _ e;rw[q]at q';cases q';rw[hd]at d';cases d';exact⟨q,xs,rel,r⟩
theorem iD{α β:Type}{F:α->β->Prop}:∀{l₁:List α}{l₂:List β},Paired F l₁ l₂->∀(i:Nat) (x:α),l₁[i]?=some x->∃y,l₂[i]?=some y/\F x y
 |_,_,.cons r _,0,x,h=>by cases h;exact⟨_,rfl,r⟩
 |_,_,.cons _ t,i+1,x,h=>iD t i x h
theorem jU:entryFor table "dict_itemiterator.__iter__"=some Builtin.«dict_keyiterator.__iter__»:=by kernel_rfl
theorem t7{prog:Program}{w:World}{A:Around}{E:Value->Shared->Prop}{s:Shared}{it d:Addr}{i n ep:Nat}{ok ov:Value}{Q:Value->Shared->Prop}(q:IsItemIter s.heap it d i n ep ok ov) (h:Q (.ref it) s):wpAny (model prog w) A (pyIter (.ref it)) Q E s :=
 wpAny_pyIter_slot (T:="dict_itemiterator") ⟨_,q,rfl⟩ PySem.F.slot_dict_itemiterator_iter (wpAny_call_entry PySem.F.slot_dict_itemiterator_iter ⟨_,q,rfl⟩ jU (show wpAny _ _ (pure _) _ _ _ from wpAny_pure ⟨_,rfl,"dict_itemiterator",_,⟨_,q,rfl⟩,PySem.F.slot_dict_itemiterator_next.lookup,h⟩) (PySem.F.args_dict_itemiterator_iter_1 _))
theorem qm{P:Program}{w:World}{K:PySem.W.Frag}{elts:List Expr}{x1:Nat}{pt:Pos}(it:Addr) {ep:Nat}{es:Array DictEntry}(hd:o.data=.dict es ep) (hl:es.size=ks.length):iL P w K (.Tuple elts x1 pt) (Dr a o ks) [it] it (fun i h=>∃ok ov,IsItemIter h it a i es.size ep ok ov) where
 mem:=by simp
 obj:=fun i h st b hb=>by
  have e:b=it:=by simpa using hb
  subst e;obtain⟨ok,ov,q⟩:=st;exact⟨_,q,fun v z=>by cases z⟩
 keep:=fun i h h' ⟨ok,ov,q⟩ k=>⟨ok,ov,k it (by simp) _ q⟩
 item:=by
  intro X hP hw hK hc i aa s σ H E I hf st hg;subst hP hw hK;obtain⟨e,hi⟩:=hg;obtain⟨hget,xs,rel,hes⟩:=pH I e hd;obtain⟨ok,ov,hit⟩:=st;obtain⟨⟨k,v⟩,hkv⟩:∃p,ks[i]?=some p:=⟨ks[i],by simp[hi]⟩;obtain⟨⟨k',q,u⟩,hx,rk,hq,ru⟩:=iD rel i _ hkv;have hlt:i<es.size:=by lia
  have hei:es[i]=entryOfKey (tupleKind (aI X.prog X.w)) (k',q,u):=by
   have h1:es.toList[i]?=some es[i]:=by simp[hlt]
   rw[hes,List.getElem?_map,hx]at h1;exact(Option.some.inj h1).symm
  have hek:es[i].key=.ref q:=by rw[hei];rfl
  have hev:es[i].val=u:=by rw[hei];rfl
  refine qo hit hget hd hlt fun h1 hout hT hsz keep=>⟨_,rfl,?_⟩;rw[hek,hev]at hout hT;have fe:=hf it (by simp);have In:H s.heap.objs.size=none:=I.hok.fresh (Nat.le_refl _);have eT:it<s.heap.objs.size:=Heap.lt_size hit;have I1:Inv X aa σ (upd H s.heap.objs.size (.tup [.ref q,v])) { s with heap:=s.heap.push { cls:=.type "tuple",data:=.seq #[.ref q,u] } } :=
   I.laid (t':=s.toks) (fun b o q=>Heap.get?_push_of_some _ q) (Nat.le_refl _) ⟨by simp only[List.length_cons,List.length_nil];rw[sizeLine_eq];decide,[.ref q,u],.cons rfl (.cons ru .nil),⟨_,Heap.get?_push_size s.heap rfl,rfl,⟨0,rfl⟩,rfl⟩⟩
  have fe1:cI X aa (upd H s.heap.objs.size (.tup [.ref q,v])) it:=fe.upd (Nat.ne_of_lt eT);obtain⟨g0,g1,g2,g3,g4,g5⟩:=fe1;have I2:=I1.turned (t':=s.toks) (h':=h1) (it:=it) (fun b o hb q=>by
   rcases Heap.get?_push_cases q with z|z
   ·rw[z.1,z.2];exact hT
   ·exact keep b o hb z) g0 g1 g3 g4 g5
  refine wpAny_letOwnedTupleGo_items hout fun h2 he2 hs2=>?_;have I3:=I2.turned (t':=s.toks) (h':=h2) (it:=it) (fun b o hb q=>(hs2.2 b hb).trans q) g0 g1 g3 g4 g5;refine⟨.ref s.heap.objs.size,_,I3,rfl,⟨_,q,k,v,rfl,In,hkv,hq,rfl⟩,⟨_,_,he2⟩,fun b hb=>?_⟩;rw[show b=it by simpa using hb];exact g0
 done:=by
  intro X hP hw hK hc i aa s σ H E I hf st hg;subst hP hw hK;obtain⟨e,hi⟩:=hg;obtain⟨hget,xs,rel,hes⟩:=pH I e hd;obtain⟨ok,ov,hit⟩:=st;obtain⟨f0,f1,f2,f3,f4,f5⟩:=hf it (by simp);exact kH (I.ok.hd hc) hit hget hd (by lia) fun h' eb=>⟨rfl,I.turned (t':=s.toks) (fun b o hb q=>eb b o hb q) f0 f1 f3 f4 f5⟩
 self:=fun A i s Q E ⟨ok,ov,q⟩ h=>t7 q h
end
section
variable{X:Cx}{l:Expr}{tl:TE}{te:TEd}{elts:List Expr}{x1:Nat}{pt dv bP:Pos}
def iDi(tl:TE):TI:=fun σ H R=>tl σ H fun x H1=>∃a ks,x=.ref a/\H1 a=some (.dT ks)/\∀o,R (Dr a o ks) (upd H1 a (.frz o (.dT ks)))
theorem wO(hl:PE X l tl) (j8:attributeBase l "items" X.env (eval l X.env)=eval l X.env:=by rfl) (kC:(dv.endLine==bP.line)=true:=by rfl):PI X (.Tuple elts x1 pt) (.Call (.Attribute l "items" dv) [] [] bP) (iDi tl):=by
 intro aa s σ H R I h;refine wpAny_Call_method0_late j8 kC (thn (hl aa s σ H _ I h) fun v s1 hup=>hup.el fun x H1 I1 r1 q1=>?_);obtain⟨a,ks,e,ea,q⟩:=q1;subst e;cases r1;obtain⟨t1,t2,_⟩:=u7 I1 (.inr ⟨ks,.inl ea⟩);obtain⟨o,ho,I2⟩:=I1.freezeT ea;have hk:=I1.hok a _ ea;obtain⟨_,hs,xs,rel,o',es,ep,q',c,hd,r,_⟩:=hk;rw[ho]at q';cases q';refine⟨"dict","dict.items",PySem.F.plainAttrs_dict,PySem.F.slot_dict_items,PySem.F.type_dict_items,t1,t2,Calls.callWith_builtin rfl (PySem.evalArgs_none ?_)⟩;refine rf hs ho c hd ?_;have I3:=I2.kept (t':=s1.toks) (h':=s1.heap.push { cls:=.type "dict_items",data:=.fields #[.ref a] }) fun b o e=>Heap.get?_push_of_some _ e;refine qZ (d:=a) (od:=o) (es:=es) (ep:=ep) ⟨_,Heap.get?_push_size _ rfl,rfl,rfl⟩ (Heap.get?_push_of_some _ ho) hd fun h' hit keep=>?_;have I4:=I3.kept (t':=s1.toks) (h':=h') keep;have bH:es.size=ks.length:=by
  have h1:=congrArg List.length r;rw[Array.length_toList,List.length_map]at h1;rw[h1];exact(Paired.length rel).symm
 refine⟨_,[_],_,_,_,rfl,I4,qm _ hd bH,⟨_,_,hit⟩,fun b hb=>?_,q o⟩;have e:=List.mem_singleton.mp hb;rw[e];exact I3.fpOk (Nat.le_refl _) (I3.hok.fresh (Nat.le_refl _))
def Ee(te:TEd):TId:=fun Δ M R=>te Δ M fun d M1=>∃a kvs,d=.ref a/\M1 a=some (.dT kvs)/\R (kvs.map fun p=>.tup [.tup (p.1.map kD),p.2]) (eY M1 a)
theorem sN{K:PySem.W.Frag}{M:DH}{H:Hp}:∀ks:List Key,ak K M H (ks.map kD) (ks.map kV)
 |[]=>ak.nil
 |k::ks=>ak.cons kB (sN ks)
theorem uM(he:QEd X l te) (j8:attributeBase l "items" X.env (eval l X.env)=eval l X.env:=by rfl) (kC:(dv.endLine==bP.line)=true:=by rfl):QId X (.Tuple elts x1 pt) (.Call (.Attribute l "items" dv) [] [] bP) (Ee te):=by
 simp only[QEd.eq,QId.eq]at *
 exact fun aa s σ H R I h =>
  PI.conv (wO he j8 kC) (fun σ H R hup=>hup.el fun Δ M R' sr hr q k=>⟨Δ,M,_,sr,hr,q,fun d M1 v H1 ⟨a,kvs,ed,em,q1⟩ e1 hr1 rv=>by
   subst ed;simp only[Rep]at rv;subst rv;obtain⟨ks,h1,kr⟩:=hr1 a _ em;refine⟨a,ks,rfl,h1,fun o=>?_⟩;have e2:Ext M1 H1 (eY M1 a) (upd H1 a (.frz o (.dT ks))):=fun b u z n=>by
    have hb:b≠a:=fun w=>by rw[w,em]at n;cases n
    rw[aw hb,jG hb];exact⟨z,n⟩
   have hr2:HR X.K (eY M1 a) (upd H1 a (.frz o (.dT ks))):=fun b u z=>by
    have hb:b≠a:=fun w=>by rw[w,cT]at z;cases z
    rw[jG hb]at z;exact(hr1 b u z).keep e2 (aw hb)
   refine k _ _ _ _ q1 (e1.trans e2) hr2 ?_
   ·intro M2 H2 e3 hr3 i;have ea:=(e3 a _ az cT).1;refine⟨fun d hd=>?_,fun hl=>⟨ea,?_⟩⟩
    ·rw[List.getElem?_map]at hd;cases q:kvs[i]? with
     |none=>rw[q]at hd;cases hd
     |some p =>
      rw[q]at hd;cases hd;have hi:i<kvs.length:=(List.getElem?_eq_some_iff.mp q).1;refine⟨⟨ea,by rw[<-kr.length];exact hi⟩,fun x H' hy=>?_⟩;obtain⟨T,q',k',v',ex,hT,hk,hq,eH⟩:=hy;subst eH;subst ex;obtain⟨y,hy,ek,rv⟩:=iD ((kr.ext e2).ext e3) i p q;rw[hk]at hy;cases hy;have en:Ext M2 H2 M2 (upd H2 T (.tup [.ref q',v'])):=Ext.new hr3 hT;have hn:=hr3.new (o:=.tup [.ref q',v']) hT;refine⟨en,hn,?_⟩;have mq:M2 q'=none:=by
       cases hm:M2 q' with
       |none=>rfl
       |some u =>
        obtain⟨w,z,nw⟩:=(hr3 q' u hm).some;rw[hq]at z;cases z;exact absurd rfl (nw _).1
      have rk:Rep X.K M2 H2 (.tup (p.1.map kD)) (.ref q'):=by
       simp only[Rep];refine⟨q',_,rfl,.inl ⟨.inl hq,mq⟩,?_⟩;have:p.1=k':=ek;rw[this];exact sN _
      have rT:Rep X.K M2 (upd H2 T (.tup [.ref q',v'])) (.tup [.tup (p.1.map kD),p.2]) (.ref T):=by
       rw[Rep];exact⟨T,_,rfl,.inl ⟨.inl az,hr3.fresh hT⟩,ak.cons (rk.ext en) (ak.cons (Rep.ext rv en) ak.nil)⟩
      exact rT
    ·rw[<-kr.length];simpa using hl⟩) aa s σ H R I h
end
section
variable{X:Cx}
def inF(x y:D):Option D:=match y with
 |.lst ds=>if dLe x 59=true/\cM ds 59=true then some (.bl (ds.any fun d=>eqD d x))else none
 |_=>none
theorem C8{x:D}{ds:List D}:inF x (.lst ds)=if dLe x 59=true/\cM ds 59=true then some (.bl (ds.any fun d=>eqD d x))else none:=rfl
end
section
variable{X:Cx}{a b e:Expr}{ta tb te:TEd}{pos:Pos}
section
open PySem.SeqAt PySem.MeetsSeq AutoSeq1
end
end
section
variable{X:Cx}{scope:Scope}{cl:List (Str×Addr)}{ag:List Str}{tg:Expr}{pos:Pos}
end
section
variable{X:Cx}{e o:Expr}{es:List Expr}{te to:TEd}{t:TAd}{pos p pos':Pos}{f x:Str}{C:Addr}
structure MkD(P:Program) (w:World) (K:PySem.W.Frag) (mg:Str->Option Value) (base:Heap) (x:Str) (C:Addr) (k n:Nat) (S:SpD):Prop where
 ex:∃(f:Addr) (fd:FuncData) (ps:List Str),Mk K C f/\bo P w K mg base CX0 k f fd ps (spD K n S)/\mg x=some (.ref C)/\cZ K fd ps []
end
section
variable{X:Cx}{e:Expr}{te:TEd}
def EC(kvs:List (Key×D)):D:=.box (.dk (kvs.map (·.1))) (kvs.map (·.2))
end
section
variable{X:Cx}{a b c e o i:Expr}{es:List Expr}{te ta tb to ti:TEd}{t:TAd}{pos:Pos}{tg iter:Expr}
end
def CW:D->Option D
 |.box (.dk ks) _=>some (.lst (ks.map kD))
 |_=>none
theorem ya{kvs:List (Key×D)}:CW (EC kvs)=some (.lst (kvs.map fun p=>kD p.1)):=by
 show some (D.lst ((kvs.map (·.1)).map kD))=_;rw[List.map_map];rfl
noncomputable def EH:D->Option D
 |.int i=>some (.int i)
 |.bl k=>some (.int (if k then 1 else 0))
 |_=>none
theorem By{k:Bool}:EH (.bl k)=some (.int (if k then 1 else 0)):=rfl
noncomputable def ltS(a b:Str):Bool:=decide (a.cps.toList<b.cps.toList)
theorem vH{a b:Str}(h:a.cps.toList=b.cps.toList):a=b:=by
 cases a;cases b;simp only[Str.mk.injEq];exact Array.toList_inj.mp h
theorem xn(a:Str):ltS a a=false:=decide_eq_false (List.lt_irrefl _)
theorem tY{a b c:Str}(h1:ltS a b=true) (h2:ltS b c=true):ltS a c=true:=decide_eq_true (List.lt_trans (of_decide_eq_true h1) (of_decide_eq_true h2))
theorem yX{a b:Str}(h1:ltS a b=false) (h2:ltS b a=false):a=b :=
 vH (List.le_antisymm (List.not_lt.mp (of_decide_eq_false h2)) (List.not_lt.mp (of_decide_eq_false h1)))
section
variable{X:Cx}
theorem qq{h:Heap}{a:Addr}{xs:Array Value}(p:IsTup h a xs):h.IsTuple a xs:=by
 obtain⟨o,h1,h2,n,h3⟩:=p;exact⟨o,h1,h2,n,h3⟩
end
section
variable{X:Cx}{e:Expr}{t:TEd}
end
section
variable{P:Program}{w:World}{K:PySem.W.Frag}{h base:Heap}{mg:Str->Option Value}{x qual:Str}{st:Stmt}{f:Addr}{fd:FuncData}{k:Nat}{S:SpD}
structure bT(K:PySem.W.Frag) (x:Str) (st:Stmt) (f:Addr) (fd:FuncData):Prop where
 a:PySem.W.nsIn K mainGlobals x=some (some (.ref f))
 F:Fun K x x st f fd
theorem B7{oc:Value}{od an:Option Addr}{osl:Array (Option Value)}{kV doc pm cdv ct:Value}(a:PySem.W.nsIn K mainGlobals x=some (some (.ref f))) (l:K.lookup f=some ⟨oc,od,.func (PySem.W.fnOf x x (eO st) (cE st) (aj st) .none kV doc pm an cdv ct),osl⟩)
  (c:PySem.W.codeIn K cdv x=true) (k:PySem.W.keepIn K (.ref f)=true):bT K x st f (PySem.W.fnOf x x (eO st) (cE st) (aj st) .none kV doc pm an cdv ct):=⟨a,u5 l c k⟩
theorem usS{p:List Value->Prop}{n:Nat}(h:∀a us,us.length=n->p (a::us)):∀us:List Value,us.length=n+1->p us:=by
 intro us e;cases us with
 |nil=>cases e
 |cons a us=>exact h a us (Nat.succ.inj e)
theorem us0{p:List Value->Prop}(h:p []):∀us:List Value,us.length=0->p us:=by
 intro us e;cases us with
 |nil=>exact h
 |cons a us=>cases e
def Bd(x qual:Str) (st:Stmt) (ps:List Str) (us:List Value):Prop:=∀(kV doc pm:Value) (an:Option Addr) (cdv ct:Value),bindArgs (PySem.W.fnOf x qual (eO st) (cE st) (aj st) .none kV doc pm an cdv ct) ⟨us,[]⟩=pure (ps.zip us)
theorem pT{ps:List Str}(F:Fun K x qual st f fd) (b:∀us:List Value,us.length=ps.length->Bd x qual st ps us):cZ K fd ps []:=F.binds fun kV doc pm an cdv ct us hl=>b us hl kV doc pm an cdv ct
variable{p1 p2 p3 p4 p5:Str}
theorem bd1(F:Fun K x qual st f fd) (b:∀a,Bd x qual st [p1] [a]):cZ K fd [p1] []:=pT F (usS fun a=>us0 (b a))
theorem bd2(F:Fun K x qual st f fd) (b:∀a c,Bd x qual st [p1,p2] [a,c]):cZ K fd [p1,p2] []:=pT F (usS fun a=>usS fun c=>us0 (b a c))
theorem bd3(F:Fun K x qual st f fd) (b:∀a c d,Bd x qual st [p1,p2,p3] [a,c,d]):cZ K fd [p1,p2,p3] []:=pT F (usS fun a=>usS fun c=>usS fun d=>us0 (b a c d))
theorem bd4(F:Fun K x qual st f fd) (b:∀a c d e,Bd x qual st [p1,p2,p3,p4] [a,c,d,e]):cZ K fd [p1,p2,p3,p4] []:=pT F (usS fun a=>usS fun c=>usS fun d=>usS fun e=>us0 (b a c d e))
theorem bd5(F:Fun K x qual st f fd) (b:∀a c d e g,Bd x qual st [p1,p2,p3,p4,p5] [a,c,d,e,g]):cZ K fd [p1,p2,p3,p4,p5] []:=pT F (usS fun a=>usS fun c=>usS fun d=>usS fun e=>usS fun g=>us0 (b a c d e g))
theorem fg{ps:List Str}{n:Nat}(X:K.In h) (G:h.Ns mainGlobals mg) (i:bT K x st f fd) (o:bo P w K mg base CX0 k f fd ps (spD K n S)) (b:cZ K fd ps []):FnD P w K mg base x k n S:=⟨_,_,_,o,PySem.W.mg_of X G i.a,i.F.kp,b⟩
theorem AD{fa:Addr}{sp:Sp}{lp:Program}(X:K.In h) (G:h.Ns mainGlobals mg) (hfa:mg "law"=some (.ref fa)) (i:bT K "law" st f fd) (b:∀a,Bd "law" "law" st [p1] [a]) (o:∀base:Heap,bo lp w K mg base CX0 k f fd [p1] sp) :
  ∃fd:FuncData,(∀(s:Shared) (v:Value),BindsTo s fd ⟨[v],[]⟩ [(p1,v)])/\∀base:Heap,K.In base->base.Ns mainGlobals mg->bo lp w K mg base CX0 k fa fd [p1] sp:=by
 have e:=hfa.symm.trans (PySem.W.mg_of X G i.a);cases e;refine⟨fd,fun s v=>?_,fun base _ _=>o base⟩;obtain⟨oc,od,kV,doc,pm,an,cdv,ct,osl,rfl,lk,hcd⟩:=i.F.ex;exact .of_eq (b v kV doc pm an cdv ct)
end
theorem mV:entryFor table "dict.update.loop"=some Builtin.«dict.update.loop»:=entryFor_of_tree (by kernel_rfl)
theorem fP:plainId "dict.update.loop"=true:=by decide +kernel
section
variable{prog:Program}{w:World}{A:Around}{E:Value->Shared->Prop}{s:Shared}
theorem qF{b:Addr}{x y:Value}{Q:List Value->Shared->Prop}(ht:IsTup s.heap b #[x,y]) (h:Q [x,y] s):wpAny (model prog w) A (Builtin.Dict.pairItems (.ref b)) Q E s:=by
 obtain⟨o,h1,h2,n,h3⟩:=ht;unfold Builtin.Dict.pairItems;refine wpAny_bind (wpAny_typeOf (T:="tuple") ⟨o,h1,h2⟩ ?_);rw[if_pos (by decide)];refine wpAny_bind (wpAny_seqItems h1 h3 ?_);exact wpAny_pure h
variable{K:Type} [DecidableEq K] {knd:KeyKind prog w K}{R:Result->Shared->Prop}{I:Addr}{fp wr:List Addr}{G:Array GenState->Array GenState->Prop}{n:Nat}{P:Nat->Value->Prop}{St:Nat->Shared->Prop}
def qP(its:Array Value) (i:Nat):Addr:=match its[i]? with|some (.ref b)=>b|_=>0
end
section
variable{X:Cx}{aa:List (Addr×Obj)}{σ:St}{H:Hp}{s:Shared}{M:DH}
theorem wW{κ:Type}:∀{ks:List κ}{ws:List V}{us:List Value},av ws us->ks.length=us.length->KV (ks.zip ws) (ks.zip us)
 |[],_,_,_,_=>.nil
 |k::ks,_,_,.nil,h=>by simp at h
 |k::ks,_,_,.cons r rv,h=>.cons ⟨rfl,r⟩ (wW rv (by simpa using h))
end
theorem nbh{op:CmpOp}{b:Expr}(h:op≠.In:=by decide) (h2:op≠.NotIn:=by decide):behindInMarks op b=false:=j9 b h h2
theorem fsc{N P:List Str}{sc:Scope}(a:sc.kind=.function:=by exact rfl) (b:sc.isCoroutine=false:=by exact rfl) (c:sc.isGenerator=false:=by exact rfl) (d:N.Nodup:=by decide +kernel) (e:N.take P.length=P:=by exact rfl)
  (f:∀x∈P,sc.names.lookup x=some .local∨sc.names.lookup x=some .cell:=by decide +kernel) (g:∀y∈sc.names,y.2≠.free:=by decide +kernel):ay N P sc:=⟨a,b,c,d,e,f,g⟩
section
variable{X:Cx}{e:Expr}{es:List Expr}{t:TAd}{pos p:Pos}{x:Str}{j k n:Nat}{S:SpD}
theorem qd(F:FnD X.prog X.w X.K X.mg X.base x j n S) (hr:cj k X.A) (ha:QAd X (e::es) t) (h:j<=k:=by decide) (hg:Gl X x:=by exact rfl) (hdb:(x==("__debug__":Str))=false:=by decide) (he:starEach (e::es) X.env=(false,eval e X.env)::starEach es X.env:=by rfl) (hpl:(backTo pos (starEach es X.env)).any (·.1)=false:=by rfl) :
  QEd X (.Call (.Name x p) (e::es) [] pos) (pO n S t):=qc F (hr.mono h) hg ha hdb he hpl
end
def txt:Value->Str|.str x _=>x|_=>default
section
variable{prog:Program}{w:World}{A:Around}{E:Value->Shared->Prop}{s:Shared}
noncomputable def byT(w:World):Bool:=w.params.followText "set-order"
def ElT(prog:Program) (w:World) (l:List (Int×Value)):Prop:=∀e∈l,∃x t,e=((strKind prog w).hash x,.str x t)
theorem ElT.of{l:List (Int×Value)}(h:ElT prog w l):ElemsOf (strKind prog w) l:=fun e he=>by
 obtain⟨x,t,rfl⟩:=h e he;exact⟨⟨x,strKind_is _ _ _ _,rfl⟩,rfl⟩
structure uA(prog:Program) (w:World) (h:Heap) (a:Addr) (o:Obj) (es:Array (Int×Value)) (ep:Nat) (t:SetTable):Prop where
 get:h.get? a=some o
 ex:o.ExactSet
 data:o.data=.set es ep t
 el:ElT prog w es.toList
 nd:(es.toList.map fun e=>txt e.2).Nodup
 room:es.size<scanBound
 fit:t.fits es.size=true
 led:t.led=!byT w
 pl:es.size≠0->t.plain=false
def CY(prog:Program) (w:World) (h:Heap) (a:Addr) (xs:List Str):Prop:=∃o es ep t,uA prog w h a o es ep t/\(es.toList.map fun e=>txt e.2).Perm xs
theorem Am{x:Str}{v:Value}(h:(strKind prog w).is x v=true):∃t,v=.str x t:=by
 cases v<;>simp[PySem.strKind,Value.isStrOf]at h
 rename_i y t;exact⟨t,by rw[h]⟩
theorem uA.mem{h:Heap}{a:Addr}{o:Obj}{es:Array (Int×Value)}{ep:Nat}{t:SetTable}(p:uA prog w h a o es ep t) (x:Str) :
  (∃e∈es.toList,(strKind prog w).is x e.2=true)↔x∈es.toList.map fun e=>txt e.2:=by
 constructor
 ·rintro⟨e,he,q⟩;obtain⟨t,z⟩:=Am q;exact List.mem_map.mpr ⟨e,he,by rw[z];rfl⟩
 ·intro q;obtain⟨e,he,z⟩:=List.mem_map.mp q;obtain⟨y,t,rfl⟩:=p.el e he;have:y=x:=z;subst this;exact⟨_,he,strKind_is _ _ _ _⟩
end
section
variable{prog:Program}{w:World}{A:Around}{E:Value->Shared->Prop}{s:Shared}
abbrev lM(w:World):Obj:={ cls:=.type "set",dict:=none,data:=.set #[] 0 (.fresh 0 0 (!byT w)) }
theorem u6(a:Value) {Q₁:Value->Shared->Prop}(h:Q₁ (.ref s.heap.objs.size) { s with heap:=s.heap.push (lM w) }) :
  codeAny (model prog w) A (.call (.builtin "set.__new__") ⟨[.type "set",a],[]⟩) (wants Q₁ E) s:=by
 refine codeAny_of_tree ?_;show wpAny _ A.in1 (do checkBuiltinCall "set.__new__" ⟨[.type "set",a],[]⟩;again (.builtin "set.__new__" ⟨[.type "set",a],[]⟩)) _ _ s;refine wpAny_bind (wpAny_of_eq (PySem.F.newCall_set_1 a) (wpAny_pure ⟨plainId_quiet PySem.F.plain_set_new _,codeAny_builtin PySem.F.entry_set_new ?_⟩));rw[Around.under_plainId PySem.F.plain_set_new _];unfold Builtin.«set.__new__» Builtin.Frozenset.newClass;have hsub:=sub_set_self;obtain⟨hp,g,d,tk,os⟩:=s;dsimp only
 wp_walk
 refine wpAny_askSetting (wpAny_pure ?_);dsimp only;simp only[newObj];refine wpAny_bind (wpAny_alloc (wpAny_pure ?_));exact wpAny_pure h
end
theorem ji{α:Type}(f:Nat->Nat):∀(n k:Nat) (l:List α) (out:Array α),l.length=n->(pickOrder.go f n k l out).toList.Perm (out.toList++l)
 |0,k,l,out,h=>by
  have:l=[]:=List.length_eq_zero_iff.mp h;subst this;simp[pickOrder.go]
 |n+1,k,l,out,h=>by
  have hl:f k % l.length<l.length:=Nat.mod_lt _ (by lia);simp only[pickOrder.go,List.getElem?_eq_getElem hl];refine(ji f n (k+1) _ _ (by rw[List.length_eraseIdx_of_lt hl];lia)).trans ?_;rw[Array.toList_push,List.append_assoc];refine List.Perm.append_left _ ?_;have z:l=l.take (f k % l.length)++l[f k % l.length]::l.drop (f k % l.length+1):=by rw[List.getElem_cons_drop];simp
  have e:l.eraseIdx (f k % l.length)=l.take (f k % l.length)++l.drop (f k % l.length+1):=List.eraseIdx_eq_take_drop_succ l _;rw[e];generalize l[f k % l.length]=x at z ⊢
  conv=>rhs;rw[z]
  rw[List.singleton_append];exact List.perm_middle.symm
theorem iJ{α:Type}(f:Nat->Nat) (xs:Array α):(pickOrder f xs).toList.Perm xs.toList:=by
 have:=ji f xs.size 0 xs.toList #[] (by simp);simpa[pickOrder]using this
section
variable{prog:Program}{w:World}{A:Around}{E:Value->Shared->Prop}{s:Shared}
theorem jH{Q:Bool->Shared->Prop}(h:Q (byT w) s):wpAny (model prog w) A setsByText Q E s:=by
 unfold setsByText;exact wpAny_bind (wpAny_askSetting (wpAny_pure h))
end
end L2
namespace L2
open PySem
def f51(x:Nat):Nat:=5*x+1
def jo:Nat->Nat->Nat
 |0,x=>x
 |n+1,x=>jo n (f51 x)
theorem lh(m n x:Nat):jo (m+n) x=jo n (jo m x):=by
 induction m generalizing x with
 |zero=>simp[jo]
 |succ m ih=>rw[Nat.succ_add];simp only[jo];exact ih _
theorem wx(k:Nat):∃a c,∀z,jo (2 ^ k) z=z+2 ^ (k+2)*a*z+2 ^ k+2 ^ (k+1)*c:=by
 induction k with
 |zero=>exact⟨1,0,fun z=>by simp[jo,f51];lia⟩
 |succ k ih =>
  obtain⟨a,c,h⟩:=ih;generalize hp:2 ^ k=p at *
  have e1:2 ^ (k+1)=2*p:=by rw[Nat.pow_succ,hp,Nat.mul_comm]
  have e2:2 ^ (k+2)=4*p:=by rw[Nat.pow_add,hp];lia
  have e3:2 ^ (k+1+2)=8*p:=by rw[show k+1+2=k+3 by lia,Nat.pow_add,hp];lia
  have e4:2 ^ (k+1+1)=4*p:=e2;rw[e1,e3,e4];rw[e1,e2]at h;refine⟨a+2*p*a*a,c+p*a+2*p*a*c,fun z=>?_⟩;rw[show 2*p=p+p by lia,lh,h,h]
  grind
theorem uw(k:Nat):∀x j,j<2 ^ k->∃n,n<2 ^ k/\jo n x % 2 ^ k=j:=by
 induction k with
 |zero=>intro x j h;exact⟨0,by simp,by simp at h;simp[h,Nat.mod_one]⟩
 |succ k ih =>
  intro x j hj;obtain⟨a,c,hs⟩:=wx k;have pos:0<2 ^ k:=Nat.two_pow_pos k;have e1:2 ^ (k+1)=2*2 ^ k:=by rw[Nat.pow_succ,Nat.mul_comm]
  have e2:2 ^ (k+2)=2*(2*2 ^ k):=by rw[Nat.pow_add];lia
  obtain⟨n,hn,he⟩:=ih x (j % 2 ^ k) (Nat.mod_lt _ pos);generalize hy:jo n x=y at he;generalize hp:2 ^ k=p at *
  have hm:y % (2*p)=j∨(y+p) % (2*p)=j:=by
   rw[e1]at hj;have d1:=Nat.div_add_mod y (2*p);have d3:=Nat.mod_lt y (show 0<2*p by lia);have:y % (2*p) % p=y % p:=Nat.mod_mul_left_mod y 2 p;rw[he]at this;generalize y % (2*p)=r at *
   have q1:r=p*(r / p)+r % p:=(Nat.div_add_mod r p).symm;have q2:j=p*(j / p)+j % p:=(Nat.div_add_mod j p).symm;have r2:r / p<2:=Nat.div_lt_of_lt_mul (by lia);have j2:j / p<2:=Nat.div_lt_of_lt_mul (by lia);rw[this]at q1;have hy':(y+p) % (2*p)=(r+p) % (2*p):=by
    rw[<-d1,Nat.add_assoc,Nat.mul_add_mod]
   rw[hy'];have jl:j % p<p:=Nat.mod_lt _ pos;generalize j % p=u at *
   have two:∀q,q<2->q=0∨q=1:=fun q h=>by lia
   have c1:=two _ r2;have c2:=two _ j2;rcases c1 with c1|c1<;>rcases c2 with c2|c2<;>rw[c1]at q1<;>rw[c2]at q2<;>simp only[Nat.mul_zero,Nat.mul_one,Nat.zero_add]at q1 q2
   ·left;lia
   ·right;rw[Nat.mod_eq_of_lt (by lia)];lia
   ·right;rw[show r+p=u+1*(2*p)by lia,Nat.add_mul_mod_self_right,Nat.mod_eq_of_lt (by lia)];lia
   ·left;lia
  rcases hm with hm|hm
  ·exact⟨n,by lia,by rw[e1,hy];exact hm⟩
  ·refine⟨n+p,by lia,?_⟩;rw[lh,hy,hs y,e1,e2];have:y+2*(2*p)*a*y+p+2*p*c=(y+p)+(2*a*y+c)*(2*p):=by grind
   rw[this,Nat.add_mul_mod_self_right];exact hm
end L2
namespace L2
open PySem PySem.SetTable
def pS(mask:Nat) (h:Int):Probe:={ j:=bits h % (mask+1),more:=runEnd mask (bits h % (mask+1))-bits h % (mask+1),i:=bits h % (mask+1),perturb:=bits h,dummy:=none }
def pA(mask:Nat) (p:Probe):Probe :=
 if p.more > 0 then { p with j:=p.j+1,more:=p.more-1 }
 else { p with j:=(leap mask p.i p.perturb).1,more:=runEnd mask (leap mask p.i p.perturb).1-(leap mask p.i p.perturb).1,i:=(leap mask p.i p.perturb).1,perturb:=(leap mask p.i p.perturb).2 }
def pth(mask:Nat) (h:Int):Nat->Probe
 |0=>pS mask h
 |n+1=>pA mask (pth mask h n)
def rs(mask:Nat) (h:Int):Nat->Nat×Nat
 |0=>(bits h % (mask+1),bits h)
 |n+1=>leap mask (rs mask h n).1 (rs mask h n).2
def atR(mask:Nat) (r:Nat×Nat):Probe:={ j:=r.1,more:=runEnd mask r.1-r.1,i:=r.1,perturb:=r.2,dummy:=none }
variable{mask:Nat}{h:Int}
theorem z9(i:Nat):runEnd mask i-i<=9:=by unfold runEnd;split<;>lia
theorem nB{n:Nat}{r:Nat×Nat}(e:pth mask h n=atR mask r):∀q,q<=runEnd mask r.1-r.1->pth mask h (n+q)={ atR mask r with j:=r.1+q,more:=runEnd mask r.1-r.1-q }
 |0,_=>by rw[Nat.add_zero,e];rfl
 |q+1,hq=>by
  rw[<-Nat.add_assoc];show pA mask (pth mask h (n+q))=_;rw[nB e q (by exact Nat.le_of_lt (by assumption))];unfold pA;rw[if_pos (show runEnd mask r.1-r.1-q > 0 by lia)];rfl
theorem vL:∀m,∃n,n<=10*m/\pth mask h n=atR mask (rs mask h m)
 |0=>⟨0,by decide,rfl⟩
 |m+1=>by
  obtain⟨n,hn,e⟩:=vL m;have hl:=z9 (mask:=mask) (rs mask h m).1;refine⟨n+(runEnd mask (rs mask h m).1-(rs mask h m).1)+1,by lia,?_⟩;show pA mask (pth mask h (n+_))=_;rw[nB e _ (Nat.le_refl _)];unfold pA;rw[if_neg (by simp)];rfl
theorem xg:bits h<2 ^ 64:=by
 unfold bits;have:=Int.emod_lt_of_pos h (show(0:Int)<2 ^ 64 by decide);have:=Int.emod_nonneg h (show(2 ^ 64:Int)≠0 by decide)
 lia
theorem uQ:∀m,(rs mask h m).2=bits h / 32 ^ m
 |0=>by simp[rs]
 |m+1=>by
  show(rs mask h m).2 / 32=_;rw[uQ m,Nat.div_div_eq_div_mul,Nat.pow_succ]
theorem Ep(m:Nat):(rs mask h (13+m)).2=0:=by
 rw[uQ];refine Nat.div_eq_of_lt (Nat.lt_of_lt_of_le xg ?_);rw[Nat.pow_add];exact Nat.le_trans (by decide) (Nat.le_mul_of_pos_right (32 ^ 13) (Nat.pow_pos (by decide)))
theorem zW:∀m,(rs mask h (13+m)).1 % (mask+1)=jo m (rs mask h 13).1 % (mask+1)
 |0=>rfl
 |m+1=>by
  show(leap mask (rs mask h (13+m)).1 (rs mask h (13+m)).2).1 % _=_;unfold leap;rw[Ep,lh m 1];show((rs mask h (13+m)).1*5+1+0 / 32) % (mask+1) % (mask+1)=(5*jo m (rs mask h 13).1+1) % (mask+1);rw[Nat.mod_mod,Nat.zero_div,Nat.add_zero,Nat.add_mod,Nat.mul_mod,zW m,<-Nat.mul_mod,<-Nat.add_mod,Nat.mul_comm]
theorem zB(m:Nat):(rs mask h m).1<mask+1:=by
 cases m with
 |zero=>exact Nat.mod_lt _ (Nat.succ_pos _)
 |succ m=>exact Nat.mod_lt _ (Nat.succ_pos _)
theorem rR{k:Nat}(hk:mask+1=2 ^ k) {j:Nat}(hj:j<=mask):∃m n,m<=mask+13/\n<=10*m/\(rs mask h m).1=j/\(pth mask h n).j=j:=by
 obtain⟨m,hm,e⟩:=uw k (rs mask h 13).1 j (by lia);rw[<-hk]at hm e;have e2:=zW (mask:=mask) (h:=h) m;rw[e,Nat.mod_eq_of_lt (zB _)]at e2;obtain⟨n,hn,en⟩:=vL (mask:=mask) (h:=h) (13+m);exact⟨13+m,n,by lia,hn,e2,by rw[en];exact e2⟩
theorem qW(n:Nat):(pth mask h n).j<=mask:=by
 have key:∀n,(pth mask h n).j+(pth mask h n).more<=mask/\(pth mask h n).dummy=none:=fun n=>by
  have st:∀i,i<mask+1->i+(runEnd mask i-i)<=mask:=fun i hi=>by unfold runEnd;split<;>lia
  induction n with
  |zero=>exact⟨st _ (Nat.mod_lt _ (Nat.succ_pos _)),rfl⟩
  |succ n ih =>
   show(pA mask (pth mask h n)).j+(pA mask (pth mask h n)).more<=mask/\(pA mask (pth mask h n)).dummy=none;unfold pA
   split
   ·exact⟨by have:=ih.1;dsimp only;lia,ih.2⟩
   ·exact⟨st _ (Nat.mod_lt _ (Nat.succ_pos _)),ih.2⟩
 have:=(key n).1
 lia
theorem BW(n:Nat):(pth mask h n).dummy=none:=by
 induction n with
 |zero=>rfl
 |succ n ih =>
  show(pA mask (pth mask h n)).dummy=none;unfold pA
  split<;>exact ih
theorem Cw{P:Nat->Prop}{n:Nat}(h:P n):∃m,m<=n/\P m/\∀l,l<m->¬ P l:=by
 induction n using Nat.strongRecOn with
 |_ n ih =>
  by_cases c:∃l,l<n/\P l
  ·obtain⟨l,hl,pl⟩:=c;obtain⟨m,hm,a,b⟩:=ih l hl pl;exact⟨m,by lia,a,b⟩
  ·exact⟨n,Nat.le_refl _,h,fun l hl pl=>c ⟨l,hl,pl⟩⟩
def Ri(xs:Array Nat):Prop:=∀i j,i<j->j<xs.size->xs.getD i 0<xs.getD j 0
theorem xb{xs:Array Nat}{i:Nat}(h:i<xs.size) (a b:Nat):xs.getD i a=xs.getD i b:=by simp[Array.getD,h]
theorem jK{xs:Array Nat}(up:Ri xs) (j:Nat):∀f lo hi,hi-lo<=f->lo<=hi->hi<=xs.size->(∀i,i<lo->xs.getD i 0<j)->(∀i,hi<=i->i<xs.size->j<=xs.getD i 0) ->
  below.go xs j f lo hi<=xs.size/\(∀i,i<below.go xs j f lo hi->xs.getD i 0<j)/\∀i,below.go xs j f lo hi<=i->i<xs.size->j<=xs.getD i 0
 |0,lo,hi,h1,h2,h3,a,b=>by
  obtain rfl:lo=hi:=by lia
  exact⟨h3,a,b⟩
 |f+1,lo,hi,h1,h2,h3,a,b=>by
  unfold below.go
  by_cases c:lo<hi
  ·rw[if_pos c];dsimp only
   by_cases d:xs.getD ((lo+hi) / 2) j<j
   ·rw[if_pos d];rw[xb (by lia) j 0]at d;refine jK up j f _ _ (by lia) (by lia) h3 (fun i hi'=>?_) b;rcases Nat.lt_or_ge i ((lo+hi) / 2)with q|q
    ·exact Nat.lt_trans (up i _ q (by lia)) d
    ·obtain rfl:i=(lo+hi) / 2:=by lia
     exact d
   ·rw[if_neg d];rw[xb (by lia) j 0]at d;refine jK up j f _ _ (by lia) (by lia) (by lia) a (fun i h4 h5=>?_);rcases Nat.lt_or_ge ((lo+hi) / 2) i with q|q
    ·have:=up _ i q h5;lia
    ·obtain rfl:i=(lo+hi) / 2:=by lia
     lia
  ·rw[if_neg c];obtain rfl:lo=hi:=by lia
   exact⟨h3,a,b⟩
theorem ly{xs:Array Nat}(up:Ri xs) (j:Nat):below xs j<=xs.size/\(∀i,i<below xs j->xs.getD i 0<j)/\∀i,below xs j<=i->i<xs.size->j<=xs.getD i 0 :=
 jK up j _ _ _ (by exact Nat.le_refl _) (Nat.zero_le _) (Nat.le_refl _) (fun i h=>by lia) (fun i h1 h2=>by lia)
def Occ(xs:Array Nat) (j:Nat):Prop:=∃i,i<xs.size/\xs.getD i 0=j
theorem mN{t:SetTable}(up:Ri t.place) {i j:Nat}(hi:i<t.place.size) (e:t.place.getD i 0=j):t.slot j=.live i:=by
 obtain⟨h1,h2,h3⟩:=ly up j;have:below t.place j=i:=by
  rcases Nat.lt_trichotomy (below t.place j) i with q|q|q
  ·have a:=h3 _ (Nat.le_refl _) (by lia);have b:=up _ i q hi
   lia
  ·exact q
  ·have:=h2 i q;lia
 unfold slot;rw[this];have g:t.place[i]?=some j:=by rw[Array.getElem?_eq_getElem hi,<-e];simp[Array.getD,hi]
 simp[g]
theorem qR{t:SetTable}(dm:t.dummies=#[]) {j:Nat}(n:¬ Occ t.place j):t.slot j=.empty:=by
 unfold slot;have g:(t.place[below t.place j]?==some j)=false:=by
  cases q:t.place[below t.place j]? with
  |none=>rfl
  |some x =>
   obtain⟨hi,e⟩:=Array.getElem?_eq_some_iff.mp q;simp only[beq_eq_false_iff_ne,ne_eq,Option.some.injEq];intro z;exact n ⟨_,hi,by simp[Array.getD,hi,e,z]⟩
 rw[if_neg (by rw[g];decide),dm];rfl
theorem tQ{xs:Array Nat}(up:Ri xs) {mask:Nat}(few:xs.size<=mask):∃j,j<=mask/\¬ Occ xs j:=by
 refine Classical.byContradiction fun c=>?_;have all:∀j,j<=mask->Occ xs j:=fun j hj=>Classical.byContradiction fun d=>c ⟨j,hj,d⟩;have key:∀j,j<=mask+1->j<=xs.size/\∀i,i<j->xs.getD i 0=i:=fun j=>by
  induction j with
  |zero=>exact fun _=>⟨Nat.zero_le _,fun i h=>by lia⟩
  |succ j ih =>
   intro hj;obtain⟨h1,h2⟩:=ih (by exact Nat.le_of_lt (by assumption));obtain⟨i,hi,e⟩:=all j (by exact Nat.le_trans (by assumption) (by assumption));have a:¬ i<j:=fun q=>by have:=h2 i q;lia
   have b:i=j:=by
    rcases Nat.lt_or_ge j i with q|q
    ·have b1:=up j i q hi;rw[e]at b1;cases j with
     |zero=>lia
     |succ j =>
      have b2:=up j (j+1) (by exact Nat.le_refl _) (by lia);have b3:=h2 j (by exact Nat.le_refl _)
      lia
    ·lia
   subst b;refine⟨hi,fun l hl=>?_⟩;rcases Nat.lt_or_ge l i with q|q
   ·exact h2 l q
   ·obtain rfl:l=i:=by lia
    exact e
 have:=(key (mask+1) (Nat.le_refl _)).1
 lia
structure TB(t:SetTable) (hs:List Int):Prop where
 sz:t.place.size=hs.length
 up:Ri t.place
 le:∀i,i<t.place.size->t.place.getD i 0<=t.mask
 dm:t.dummies=#[]
 pw:∃k,3<=k/\t.mask+1=2 ^ k
 few:t.place.size<=t.mask
 pr:∀i h,hs[i]?=some h->∃n,(pth t.mask h n).j=t.place.getD i 0/\∀m,m<n->Occ t.place (pth t.mask h m).j
theorem TB.free{t:SetTable}{hs:List Int}(T:TB t hs) (h:Int):∃n,n<=10*(t.mask+13)/\¬ Occ t.place (pth t.mask h n).j/\∀m,m<n->Occ t.place (pth t.mask h m).j:=by
 obtain⟨j,hj,nj⟩:=tQ T.up T.few;obtain⟨k,_,hk⟩:=T.pw;obtain⟨m,n,hm,hn,_,e⟩:=rR (mask:=t.mask) (h:=h) hk hj;obtain⟨n0,h1,h2,h3⟩:=Cw (P:=fun n=>¬ Occ t.place (pth t.mask h n).j) (n:=n) (by rw[e];exact nj);exact⟨n0,by lia,h2,fun m hm=>Classical.byContradiction fun d=>h3 m hm d⟩
theorem oZ{t:SetTable}{hs:List Int}(T:TB t hs) {h:Int}{n0:Nat}(f0:¬ Occ t.place (pth t.mask h n0).j) (f1:∀m,m<n0->Occ t.place (pth t.mask h m).j) {ha:Nat->Int}:∀F n,n<=n0->n0-n<F ->
    ∃ m,n ≤ m ∧ m ≤ n0 ∧ (∀ l,n ≤ l → l < m → ∃ i,i < t.place.size ∧ t.place.getD i 0 = (pth t.mask h l).j ∧ ha i ≠ h) ∧
      ((m = n0 ∧ probe.go t ha h F (pth t.mask h n) = some (.empty (pth t.mask h n0).j none)) ∨
       (m<n0/\∃i,i<t.place.size/\t.place.getD i 0=(pth t.mask h m).j/\ha i=h/\probe.go t ha h F (pth t.mask h n)=some (.candidate (pth t.mask h m).j i (pth t.mask h (m+1)))))
  |0,n,h1,h2=>by lia
  | F + 1,n,h1,h2 => by
    rcases Nat.lt_or_ge n n0 with q|q
    · obtain ⟨i,hi,e⟩:=f1 n q;have es:=mN T.up hi e
      by_cases c:ha i=h
      · refine ⟨n,Nat.le_refl _,h1,fun l a b => by lia,.inr ⟨q,i,hi,e,c,?_⟩⟩;unfold probe.go;rw[es];dsimp only;rw[if_pos (by simpa using c)];rfl
      · obtain ⟨m,m1,m2,m3,m4⟩:=oZ T f0 f1 (ha:=ha) F (n + 1) (by assumption) (by lia);have eq:probe.go t ha h (F+1) (pth t.mask h n)=probe.go t ha h F (pth t.mask h (n+1)):=by
          rw[probe.go,es];dsimp only;rw[if_neg (by simpa using c)];rfl
        rw[eq];refine⟨m,by exact Nat.le_of_lt (by assumption),m2,fun l a b=>?_,m4⟩;rcases Nat.lt_or_ge n l with d|d
        · exact m3 l d b
        · obtain rfl:l = n:=by lia
          exact⟨i,hi,e,c⟩
    · obtain rfl:n = n0:=by lia
      refine⟨n,Nat.le_refl _,Nat.le_refl _,fun l a b=>by lia,.inl ⟨rfl,?_⟩⟩;unfold probe.go;rw[qR T.dm f0];dsimp only;rw[BW]
end L2
namespace L2
open PySem PySem.Spec PyProof.Rows
theorem aM:Slot "set_iterator" "__next__" "set_iterator.__next__" :=
 .of (owner:="set_iterator") (n:="__next__") (by rw[typeLookup_type,builtinLookup_eq_fast];kernel_rfl) (by decide +kernel) (by decide +kernel) (by decide +kernel)
  (by first|exact .inl (by decide +kernel)|exact .inr (by decide +kernel)) (by rw[isSubtype_type];kernel_rfl)
theorem cc:entryFor table "set_iterator.__next__"=some Builtin.«set_iterator.__next__»:=entryFor_of_tree (by kernel_rfl)
theorem cz(a:Value):argsOk "set_iterator.__next__" ⟨[a],[]⟩:=by unfold argsOk;kernel_rfl
noncomputable abbrev gM(f:Value) (i:Nat) (a:Addr) (n ep:Nat):Obj:={ cls:=.type "set_iterator",data:=.fields #[f,rawInt i,.ref a,rawInt n,rawInt ep] }
structure cR(w:World) (h:Heap) (a:Addr) (o:Obj) (es:Array (Int×Value)) (ep:Nat) (t:SetTable):Prop where
 get:h.get? a=some o
 ex:o.ExactSet
 data:o.data=.set es ep t
 room:es.size<scanBound
 fit:t.fits es.size=true
 led:t.led=!byT w
 go:(es.size≠0->t.plain=false)∨Ri t.place
theorem uA.b{prog:Program}{w:World}{h:Heap}{a:Addr}{o:Obj}{es:Array (Int×Value)}{ep:Nat}{t:SetTable}(p:uA prog w h a o es ep t):cR w h a o es ep t:=⟨p.get,p.ex,p.data,p.room,p.fit,p.led,.inl p.pl⟩
theorem cR.kept{w:World}{h h':Heap}{a:Addr}{o:Obj}{es:Array (Int×Value)}{ep:Nat}{t:SetTable}(p:cR w h a o es ep t) (k:h'.get? a=some o):cR w h' a o es ep t:=⟨k,p.ex,p.data,p.room,p.fit,p.led,p.go⟩
theorem cR.typeIs{w:World}{s:Shared}{a:Addr}{o:Obj}{es:Array (Int×Value)}{ep:Nat}{t:SetTable}(p:cR w s.heap a o es ep t):s.TypeIs (.ref a) "set":=⟨o,p.get,p.ex.1⟩
section
variable{prog:Program}{w:World}{A:Around}{E:Value->Shared->Prop}{s:Shared}
theorem cR.state{a:Addr}{o:Obj}{es:Array (Int×Value)}{ep:Nat}{t:SetTable}{Q:Array (Int×Value)×Nat×SetTable->Shared->Prop}(p:cR w s.heap a o es ep t) (h:Q (es,ep,t) s):wpAny (model prog w) A (setState a) Q E s:=wpAny_setState_of p.get p.data p.fit h
theorem wd{a:Addr}{o:Obj}{es:Array (Int×Value)}{ep:Nat}{t:SetTable}{Q:Nat->Shared->Prop}(p:cR w s.heap a o es ep t) (h:Q ep s):wpAny (model prog w) A (setEpoch a) Q E s :=
 wpAny_setEpoch_of p.get p.data p.fit h
theorem zo{I a:Addr}{k i n:Nat}{o:Obj}{es:Array (Int×Value)}{ep:Nat}{t:SetTable}{x:Value}{nx:Nat}{Q:Option Value->Shared->Prop}(hI:s.heap.get? I=some (gM (rawInt k) i a n ep)) (p:cR w s.heap a o es ep t) (hn:es.size=n)
  (hx:∀(Q':Option (Value×Nat)->Shared->Prop) E',Q' (some (x,nx)) s->wpAny (model prog w) A.in1 (setNext a k i ep) Q' E' s)
  (h:∀h',h'.get? I=some (gM (rawInt nx) (i+1) a n ep)->Heap.SameBut I s.heap h'->Q (some x) { s with heap:=h' }):wpAny (model prog w) A (pyNext (.ref I)) Q E s:=by
 have hT:s.TypeIs (.ref I) "set_iterator":=⟨_,hI,rfl⟩;unfold pyNext;refine wpAny_bind (wpAny_attempt (wpAny_callSpecial?_slot (name:=Str.ofString "__next__") hT aM
  (wpAny_call_entry aM hT cc ?_ (cz _))))
 unfold Builtin.«set_iterator.__next__»;refine wpAny_bind (m:=slotArgs "__next__" 0 ⟨[.ref I],[]⟩) (wpAny_pure ?_);refine wpAny_bind (wpAny_fieldsOf hI rfl ?_);dsimp only;simp only[rawInt,Int.toNat_natCast];refine wpAny_bind (wpAny_setEntries_of p.get p.data p.fit ?_);rw[if_neg (by rw[hn];simp)];refine wpAny_bind (hx _ _ ?_);dsimp only;refine wpAny_bind (wpAny_setField hI rfl (by simp) ?_);have h1:(s.heap.update I (Obj.mapFields (·.setIfInBounds 0 (rawInt nx)))).get? I=some (gM (rawInt nx) i a n ep):=Heap.get?_update_self _ hI rfl;refine wpAny_bind (wpAny_setField h1 rfl (by simp) ?_);have h2:((s.heap.update I (Obj.mapFields (·.setIfInBounds 0 (rawInt nx)))).update I (Obj.mapFields (·.setIfInBounds 1 (rawInt ((i:Int)+1))))).get? I=some (gM (rawInt nx) (i+1) a n ep):=Heap.get?_update_self _ h1 rfl;exact wpAny_pure ⟨_,rfl,wpAny_pure (h _ h2 ((Heap.SameBut.update ..).trans (Heap.SameBut.update ..)))⟩
theorem Ec{I a:Addr}{k i n:Nat}{o:Obj}{es:Array (Int×Value)}{ep:Nat}{t:SetTable}{Q:Option Value->Shared->Prop}(hh:A.handled=none) (hI:s.heap.get? I=some (gM (rawInt k) i a n ep)) (p:cR w s.heap a o es ep t) (hn:es.size=n)
  (hx:∀(Q':Option (Value×Nat)->Shared->Prop) E',Q' none s->wpAny (model prog w) A.in1 (setNext a k i ep) Q' E' s)
  (h:∀h',Heap.ExtBut I s.heap h'->Q none { s with heap:=h' }):wpAny (model prog w) A (pyNext (.ref I)) Q E s:=by
 have hT:s.TypeIs (.ref I) "set_iterator":=⟨_,hI,rfl⟩;unfold pyNext;refine wpAny_bind (wpAny_attempt (wpAny_callSpecial?_slot (name:=Str.ofString "__next__") hT aM
  (wpAny_call_entry aM hT cc ?_ (cz _))))
 unfold Builtin.«set_iterator.__next__»;refine wpAny_bind (m:=slotArgs "__next__" 0 ⟨[.ref I],[]⟩) (wpAny_pure ?_);refine wpAny_bind (wpAny_fieldsOf hI rfl ?_);dsimp only;simp only[rawInt,Int.toNat_natCast];refine wpAny_bind (wpAny_setEntries_of p.get p.data p.fit ?_);rw[if_neg (by rw[hn];simp)];refine wpAny_bind (hx _ _ ?_);dsimp only;refine wpAny_bind (wpAny_setField hI rfl (by simp) ?_);refine wpAny_bind ?_;simp only[newExc,newTuple];refine wpAny_bind (wpAny_newObj_type ?_ (by size_fits));refine wpAny_bind (m:=firstArgMember _ _) (wpAny_of_eq (a:=Value.none) (by first|rfl|(simp only[firstArgMember];rfl)) ?_);refine wpAny_newObj_type ?_ (by size_fits);simp only[raiseNew];refine wpAny_bind (wpAny_handled ?_);rw[show A.in1.handled=none from hh];refine wpAny_bind (wpAny_pure (wpAny_throw ?_));refine wpAny_bind (wpAny_isInstance (T:="StopIteration") (b:=true) ⟨_,Heap.get?_push_size _ rfl,rfl⟩ isSubtype_stop ?_);exact wpAny_pure (h _ (((Heap.SameBut.update ..).extBut.push _).push _))
end
section
variable{prog:Program}{w:World}{A:Around}{E:Value->Shared->Prop}{s:Shared}
noncomputable abbrev tpO(ps:List Nat):Obj:={ cls:=.type "tuple",data:=.seq (ps.map fun(i:Nat)=>rawInt i).toArray }
theorem Dx{tp:Addr}{ps:List Nat}{Q:Option (Array Value)->Shared->Prop}(hp:s.heap.get? tp=some (tpO ps)) (h:Q (some (ps.map fun(i:Nat)=>rawInt i).toArray) s):wpAny (model prog w) A (seqItems? (.ref tp)) Q E s:=by
 unfold seqItems?;exact wpAny_bind (wpAny_load hp (wpAny_pure h))
theorem Ei{I a tp:Addr}{i n pl:Nat}{ps:List Nat}{o:Obj}{es:Array (Int×Value)}{ep:Nat}{t:SetTable}{e:Int×Value}{Q:Option Value->Shared->Prop}(hI:s.heap.get? I=some (gM (.ref tp) i a n ep)) (hp:s.heap.get? tp=some (tpO ps)) (p:cR w s.heap a o es ep t) (hn:es.size=n)
  (hx:ps[i]?=some pl) (he:es[pl]?=some e)
  (h:∀h',h'.get? I=some (gM (.ref tp) (i+1) a n ep)->Heap.SameBut I s.heap h'->Q (some e.2) { s with heap:=h' }):wpAny (model prog w) A (pyNext (.ref I)) Q E s:=by
 have hT:s.TypeIs (.ref I) "set_iterator":=⟨_,hI,rfl⟩;unfold pyNext;refine wpAny_bind (wpAny_attempt (wpAny_callSpecial?_slot (name:=Str.ofString "__next__") hT aM
  (wpAny_call_entry aM hT cc ?_ (cz _))))
 unfold Builtin.«set_iterator.__next__»;refine wpAny_bind (m:=slotArgs "__next__" 0 ⟨[.ref I],[]⟩) (wpAny_pure ?_);refine wpAny_bind (wpAny_fieldsOf hI rfl ?_);dsimp only;simp only[rawInt,Int.toNat_natCast];refine wpAny_bind (wpAny_setEntries_of p.get p.data p.fit ?_);rw[if_neg (by rw[hn];simp)];refine wpAny_bind (Dx hp ?_);have hx':(ps.map fun(i:Nat)=>rawInt i).toArray[i]?=some (.int pl 0):=by simp[hx,rawInt]
 dsimp only;rw[hx'];dsimp only;refine wpAny_bind ?_;unfold setNextDrawn;refine wpAny_bind (p.state ?_);dsimp only;rw[if_neg (by simp),Int.toNat_natCast,he];refine wpAny_pure ?_;refine wpAny_bind (wpAny_setField hI rfl (by simp) ?_);have h2:(s.heap.update I (Obj.mapFields (·.setIfInBounds 1 (rawInt ((i:Int)+1))))).get? I=some (gM (.ref tp) (i+1) a n ep):=Heap.get?_update_self _ hI rfl;exact wpAny_pure ⟨_,rfl,wpAny_pure (h _ h2 (Heap.SameBut.update ..))⟩
theorem Ej{I a tp:Addr}{i n:Nat}{ps:List Nat}{o:Obj}{es:Array (Int×Value)}{ep:Nat}{t:SetTable}{Q:Option Value->Shared->Prop}(hh:A.handled=none) (hI:s.heap.get? I=some (gM (.ref tp) i a n ep)) (hp:s.heap.get? tp=some (tpO ps)) (p:cR w s.heap a o es ep t) (hn:es.size=n)
  (hx:ps[i]?=none)
  (h:∀h',Heap.ExtBut I s.heap h'->Q none { s with heap:=h' }):wpAny (model prog w) A (pyNext (.ref I)) Q E s:=by
 have hT:s.TypeIs (.ref I) "set_iterator":=⟨_,hI,rfl⟩;unfold pyNext;refine wpAny_bind (wpAny_attempt (wpAny_callSpecial?_slot (name:=Str.ofString "__next__") hT aM
  (wpAny_call_entry aM hT cc ?_ (cz _))))
 unfold Builtin.«set_iterator.__next__»;refine wpAny_bind (m:=slotArgs "__next__" 0 ⟨[.ref I],[]⟩) (wpAny_pure ?_);refine wpAny_bind (wpAny_fieldsOf hI rfl ?_);dsimp only;simp only[rawInt,Int.toNat_natCast];refine wpAny_bind (wpAny_setEntries_of p.get p.data p.fit ?_);rw[if_neg (by rw[hn];simp)];refine wpAny_bind (Dx hp ?_);have hx':(ps.map fun(i:Nat)=>rawInt i).toArray[i]?=none:=by simp[hx]
 dsimp only;rw[hx'];dsimp only;refine wpAny_bind (wpAny_setField hI rfl (by simp) ?_);have h1:(s.heap.update I (Obj.mapFields (·.setIfInBounds 0 (rawInt 0)))).get? I=some (gM (rawInt 0) i a n ep):=Heap.get?_update_self _ hI rfl;refine wpAny_bind (wpAny_setField h1 rfl (by simp) ?_);refine wpAny_bind ?_;simp only[newExc,newTuple];refine wpAny_bind (wpAny_newObj_type ?_ (by size_fits));refine wpAny_bind (m:=firstArgMember _ _) (wpAny_of_eq (a:=Value.none) (by first|rfl|(simp only[firstArgMember];rfl)) ?_);refine wpAny_newObj_type ?_ (by size_fits);simp only[raiseNew];refine wpAny_bind (wpAny_handled ?_);rw[show A.in1.handled=none from hh];refine wpAny_bind (wpAny_pure (wpAny_throw ?_));refine wpAny_bind (wpAny_isInstance (T:="StopIteration") (b:=true) ⟨_,Heap.get?_push_size _ rfl,rfl⟩ isSubtype_stop ?_);exact wpAny_pure (h _ (((((Heap.SameBut.update ..).trans (Heap.SameBut.update ..)).extBut).push _).push _))
theorem ut{a:Addr}{k i:Nat}{o:Obj}{es:Array (Int×Value)}{ep:Nat}{t:SetTable}{Q:Option (Value×Nat)->Shared->Prop}(p:cR w s.heap a o es ep t) (hb:byT w=true)
  (h:Q (((pickOrder (w.params.setOrder a ep) es)[i]?).map fun e=>(e.2,k)) s):wpAny (model prog w) A (setNext a k i ep) Q E s:=by
 unfold setNext;refine wpAny_bind (p.state ?_);dsimp only;refine wpAny_bind (jH ?_);rw[hb];simp only[if_true];rw[if_neg (by simp)];refine wpAny_bind ?_;unfold setWalk;refine wpAny_bind (p.state ?_);dsimp only;refine wpAny_bind (jH ?_);rw[hb];simp only[if_true];exact wpAny_bind (wpAny_askSetting (wpAny_pure (wpAny_pure h)))
theorem uO{a:Addr}{k i:Nat}{o:Obj}{es:Array (Int×Value)}{ep:Nat}{t:SetTable}{Q:Option (Value×Nat)->Shared->Prop}(p:cR w s.heap a o es ep t) (hb:byT w=false) (h2:(!t.plain&&decide (es.size > 1))=false)
  (h:Q (match es[SetTable.below t.place k]?,t.place[SetTable.below t.place k]? with|some (_,x),some j=>some (x,j+1)|_,_=>none) s):wpAny (model prog w) A (setNext a k i ep) Q E s:=by
 unfold setNext;refine wpAny_bind (p.state ?_);dsimp only;refine wpAny_bind (jH ?_);rw[hb];simp only[Bool.false_eq_true,if_false];show wpAny _ _ (if(!t.plain&&decide (es.size > 1))=true then _ else _) _ _ _;rw[if_neg (by rw[h2];simp)];refine wpAny_bind ?_;show wpAny _ _ (if(!t.led&&!es.isEmpty)=true then _ else _) _ _ _;rw[if_neg (by rw[p.led,hb];simp)];exact wpAny_pure (wpAny_pure h)
end
section
variable{prog:Program}{w:World}{A:Around}{E:Value->Shared->Prop}{s:Shared}
theorem yA{src:Source}{n:Nat}{Q:Nat->Shared->Prop}(hn:n≠0) (h:∀i d,i<n->Q i { s with drawn:=d }):wpAny (model prog w) A (choose src n) Q E s :=
 fun Γ p hΓ=>⟨hn,h _ _ (Nat.mod_lt _ (Nat.pos_of_ne_zero hn))⟩
theorem Cg{α:Type}(n:Nat):∀(xs:List α) (s:Shared) (Q:List α->Shared->Prop),xs.length=n->(∀ys d,ys.Perm xs->Q ys { s with drawn:=d })->wpAny (model prog w) A (drawOrder n xs) Q E s:=by
 induction n with
 |zero =>
  intro xs s Q hn h;have:xs=[]:=List.length_eq_zero_iff.mp hn;subst this;have e:s={ s with drawn:=s.drawn }:=by cases s;rfl
  rw[e];exact wpAny_pure (h [] s.drawn (.refl _))
 |succ n ih =>
  intro xs s Q hn h;cases xs with
  |nil=>simp at hn
  |cons x xs =>
   unfold drawOrder;refine wpAny_bind (yA (by simp) fun i d hi=>?_);rw[List.getElem?_eq_getElem hi];dsimp only;refine wpAny_bind (ih ((x::xs).eraseIdx i) _ _ (by rw[List.length_eraseIdx_of_lt hi];simp at hn ⊢;assumption) fun ys d' hp=>?_);refine wpAny_pure (h _ d' ?_);have z:(x::xs)=(x::xs).take i++(x::xs)[i]::(x::xs).drop (i+1):=by rw[List.getElem_cons_drop];simp
   have e:(x::xs).eraseIdx i=(x::xs).take i++(x::xs).drop (i+1):=List.eraseIdx_eq_take_drop_succ _ _;rw[e]at hp;refine(hp.cons _).trans ?_;generalize (x::xs)[i]=u at z ⊢
   conv=>rhs;rw[z]
   exact List.perm_middle.symm
theorem fY:Slot "set_iterator" "__iter__" "set_iterator.__iter__" :=
 .of (owner:="set_iterator") (n:="__iter__") (by rw[typeLookup_type,builtinLookup_eq_fast];kernel_rfl) (by decide +kernel) (by decide +kernel) (by decide +kernel)
  (by first|exact .inl (by decide +kernel)|exact .inr (by decide +kernel)) (by rw[isSubtype_type];kernel_rfl)
theorem jV:entryFor table "set_iterator.__iter__"=some Builtin.«dict_keyiterator.__iter__» :=
 entryFor_alias (id':="dict_keyiterator.__iter__") (by kernel_rfl) rfl (by decide +kernel) (by kernel_rfl)
theorem lH(a:Value):argsOk "set_iterator.__iter__" ⟨[a],[]⟩:=by unfold argsOk;kernel_rfl
theorem we{I a:Addr}{f:Value}{i n ep:Nat}{Q:Value->Shared->Prop}(hI:s.heap.get? I=some (gM f i a n ep)) (h:Q (.ref I) s):wpAny (model prog w) A (pyIter (.ref I)) Q E s:=by
 have hT:s.TypeIs (.ref I) "set_iterator":=⟨_,hI,rfl⟩;refine wpAny_pyIter_slot hT fY (wpAny_call_entry fY hT jV ?_ (lH _));show wpAny _ _ (ret (.ref I)) _ _ s;exact wpAny_pure ⟨_,rfl,"set_iterator",_,hT,aM.lookup,h⟩
end
def kI(xs:Array Nat) (i:Nat):Nat:=if i=0 then 0 else xs.getD (i-1) 0+1
theorem oA{xs:Array Nat}(up:Ri xs) {i:Nat}(hi:i<=xs.size):SetTable.below xs (kI xs i)=i:=by
 obtain⟨h1,h2,h3⟩:=ly up (kI xs i);rcases Nat.lt_trichotomy (SetTable.below xs (kI xs i)) i with q|q|q
 ·have a:=h3 (i-1) (by lia) (by lia);unfold kI at a;rw[if_neg (by lia)]at a;lia
 ·exact q
 ·have a:=h2 i q;unfold kI at a
  by_cases c:i=0
  ·rw[if_pos c]at a;lia
  ·rw[if_neg c]at a;have b:=up (i-1) i (by lia) (by exact Nat.lt_of_lt_of_le (by assumption) (by assumption))
   lia
section
variable{prog:Program}{w:World}{A:Around}{E:Value->Shared->Prop}{s:Shared}
abbrev PSe(es':Array (Int×Value)):Nat->Value->Prop:=fun i v=>∃e,es'[i]?=some e/\v=e.2
theorem AO(hh:A.handled=none) {I a:Addr}(hne:a≠I) {o:Obj}{es:Array (Int×Value)}{ep:Nat}{t:SetTable}(hb:byT w=true) :
  Walks prog w A I [I,a] [I] es.size (PSe (pickOrder (w.params.setOrder a ep) es)) (fun i h=>(∃k:Nat,h.get? I=some (gM (rawInt k) i a es.size ep))/\cR w h a o es ep t) where
 sub:=fun b hb=>by simp at hb;simp[hb]
 frame:=fun _ _ _ st hk=>⟨let⟨k,g⟩:=st.1;⟨k,hk I (by simp) _ g⟩,st.2.kept (hk a (by simp) _ st.2.get)⟩
 item:=fun i s Q E hi st hQ=>by
  obtain⟨⟨k,g⟩,p⟩:=st;have sz:(pickOrder (w.params.setOrder a ep) es).size=es.size:=by
   have:=(iJ (w.params.setOrder a ep) es).length_eq;simpa using this
  have hx:(pickOrder (w.params.setOrder a ep) es)[i]?=some ((pickOrder (w.params.setOrder a ep) es)[i]'(by lia)):=Array.getElem?_eq_getElem _;refine zo g p rfl (fun Q' E' q=>ut p hb (by rw[hx];exact q)) fun h' g' sb=>?_;exact hQ _ h' s.toks ⟨_,hx,rfl⟩ ⟨⟨_,g'⟩,p.kept (by rw[sb.2 a hne];exact p.get)⟩ fun b o hb e=>by rw[sb.2 b (fun h=>hb (by simp[h]))];exact e
 done:=fun s Q E st hQ=>by
  obtain⟨⟨k,g⟩,p⟩:=st;have sz:(pickOrder (w.params.setOrder a ep) es).size=es.size:=by
   have:=(iJ (w.params.setOrder a ep) es).length_eq;simpa using this
  have hx:(pickOrder (w.params.setOrder a ep) es)[es.size]?=none:=Array.getElem?_eq_none (by lia);exact Ec hh g p rfl (fun Q' E' q=>ut p hb (by rw[hx];exact q)) fun h' he'=>hQ h' s.toks fun b o hb e=>he' b o (fun h=>hb (by simp[h])) e
 self:=fun _ _ _ _ st hQ=>let⟨⟨_,g⟩,_⟩:=st;we g hQ
theorem Bk(hh:A.handled=none) {I a:Addr}(hne:a≠I) {o:Obj}{es:Array (Int×Value)}{ep:Nat}{t:SetTable}(hb:byT w=false) (h1:(!t.plain&&decide (es.size > 1))=false) (up:Ri t.place) (hf:t.place.size=es.size) :
  Walks prog w A I [I,a] [I] es.size (PSe es) (fun i h=>i<=es.size/\h.get? I=some (gM (rawInt (kI t.place i)) i a es.size ep)/\cR w h a o es ep t) where
 sub:=fun b hb=>by simp at hb;simp[hb]
 frame:=fun _ _ _ st hk=>⟨st.1,hk I (by simp) _ st.2.1,st.2.2.kept (hk a (by simp) _ st.2.2.get)⟩
 item:=fun i s Q E hi st hQ=>by
  obtain⟨_,g,p⟩:=st;have hx:es[i]?=some (es[i]'hi):=Array.getElem?_eq_getElem _;have hp:t.place[i]?=some (t.place.getD i 0):=by rw[Array.getElem?_eq_getElem (by lia)];simp[Array.getD,show i<t.place.size by lia]
  refine zo (x:=(es[i]'hi).2) (nx:=t.place.getD i 0+1) g p rfl (fun Q' E' q=>uO p hb h1 (by rw[oA up (by lia),hx,hp];exact q)) fun h' g' sb=>?_;refine hQ _ h' s.toks ⟨_,hx,rfl⟩ ⟨hi,?_,p.kept (by rw[sb.2 a hne];exact p.get)⟩ fun b o hb e=>by rw[sb.2 b (fun h=>hb (by simp[h]))];exact e
  rw[g'];rfl
 done:=fun s Q E st hQ=>by
  obtain⟨_,g,p⟩:=st;have e1:es[es.size]?=none:=Array.getElem?_eq_none (Nat.le_refl _);exact Ec hh g p rfl (fun Q' E' q=>uO p hb h1 (by rw[oA up (by lia),e1];exact q)) fun h' he'=>hQ h' s.toks fun b o hb e=>he' b o (fun h=>hb (by simp[h])) e
 self:=fun _ _ _ _ st hQ=>we st.2.1 hQ
theorem Bm(hh:A.handled=none) {I a tp:Addr}(hne:a≠I) (hnt:tp≠I) {o:Obj}{es:Array (Int×Value)}{ep:Nat}{t:SetTable}{ps:List Nat}(hp:ps.Perm (List.range es.size)) :
  Walks prog w A I [I,a,tp] [I] es.size (PSe (ps.map fun j=>es.getD j default).toArray) (fun i h=>h.get? I=some (gM (.ref tp) i a es.size ep)/\h.get? tp=some (tpO ps)/\cR w h a o es ep t) where
 sub:=fun b hb=>by simp at hb;simp[hb]
 frame:=fun _ _ _ st hk=>⟨hk I (by simp) _ st.1,hk tp (by simp) _ st.2.1,st.2.2.kept (hk a (by simp) _ st.2.2.get)⟩
 item:=fun i s Q E hi st hQ=>by
  obtain⟨g,gt,p⟩:=st;have sz:ps.length=es.size:=by rw[hp.length_eq,List.length_range]
  have hi':i<ps.length:=by lia
  have hx:ps[i]?=some ps[i]:=List.getElem?_eq_getElem hi';have hm:ps[i]<es.size:=List.mem_range.mp (hp.mem_iff.mp (List.getElem_mem hi'));have he:es[ps[i]]?=some es[ps[i]]:=Array.getElem?_eq_getElem hm;refine Ei g gt p rfl hx he fun h' g' sb=>?_;refine hQ _ h' s.toks ⟨es[ps[i]],?_,rfl⟩ ⟨g',by rw[sb.2 tp hnt];exact gt,p.kept (by rw[sb.2 a hne];exact p.get)⟩ fun b o hb e=>by rw[sb.2 b (fun h=>hb (by simp[h]))];exact e
  simp[hx,Array.getD,hm]
 done:=fun s Q E st hQ=>by
  obtain⟨g,gt,p⟩:=st;have sz:ps.length=es.size:=by rw[hp.length_eq,List.length_range]
  exact Ej hh g gt p rfl (List.getElem?_eq_none (by lia)) fun h' he'=>hQ h' s.toks fun b o hb e=>he' b o (fun h=>hb (by simp[h])) e
 self:=fun _ _ _ _ st hQ=>we st.1 hQ
end
theorem kX:entryFor table "set.__iter__"=some Builtin.«frozenset.__iter__» :=
 entryFor_alias (id':="frozenset.__iter__") (by kernel_rfl) rfl (by decide +kernel) (by kernel_rfl)
section
variable{prog:Program}{w:World}{A:Around}{E:Value->Shared->Prop}{s:Shared}
theorem vE(es:Array (Int×Value)):(List.range es.size).map (fun j=>es.getD j default)=es.toList:=by
 apply List.ext_getElem (by simp);intro i h1 h2;simp at h1;simp[Array.getD,h1]
theorem C4{a:Addr}{o:Obj}{es:Array (Int×Value)}{ep:Nat}{t:SetTable}{Q:Value->Shared->Prop}(hh:A.handled=none) (p:cR w s.heap a o es ep t)
  (h:∀ (I:Addr) (h':Heap) d' (es':Array (Int × Value)) (fp:List Addr) (St:Nat → Heap → Prop),es'.toList.Perm es.toList → (∀ b o,s.heap.get? b = some o → h'.get? b = some o) → Walks prog w A I fp [I] es.size (PSe es') St → St 0 h' → s.heap.objs.size ≤ I →
   (∀b∈fp,b=a∨s.heap.objs.size<=b)->Q (.ref I) { s with heap:=h',drawn:=d' }):wpAny (model prog w) A (pyIter (.ref a)) Q E s:=by
 have al:a<s.heap.objs.size:=Heap.lt_size p.get;refine wpAny_pyIter_slot p.typeIs PySem.F.slot_set_iter (wpAny_call_entry PySem.F.slot_set_iter p.typeIs kX ?_ (PySem.F.args_set_iter_1 _));unfold Builtin.«frozenset.__iter__»;refine wpAny_bind (m:=Builtin.Frozenset.slot0 "__iter__" ⟨[.ref a],[]⟩) (wpAny_pure ?_);unfold Builtin.Frozenset.sizeOf;refine wpAny_bind (wpAny_bind (wpAny_setEntries_of p.get p.data p.fit (wpAny_pure ?_)));refine wpAny_bind ?_;unfold setDrawn;refine wpAny_bind (p.state ?_);dsimp only;refine wpAny_bind (jH (wpAny_pure ?_));show wpAny _ _ (if(!byT w&&(!t.plain&&decide (es.size > 1)))=true then _ else _) _ _ _
 split
 ·rename_i hc;refine wpAny_bind (Cg es.size (List.range es.size) s _ (by simp) fun ps d hp=>?_);have bH:ps.length=es.size:=by rw[hp.length_eq,List.length_range]
  have hsz:=fits_of_scanBound p.room;refine wpAny_bind ?_;simp only[newTuple];refine wpAny_newObj_type ?_ (by show(ps.map _).toArray.size<=sizeLine;simp;lia);have g1:(s.heap.push (tpO ps)).get? s.heap.objs.size=some (tpO ps):=Heap.get?_push_size _ rfl;have p1:cR w (s.heap.push (tpO ps)) a o es ep t:=p.kept (Heap.get?_push_of_some _ p.get);refine wpAny_bind (wd (s:={ s with heap:=s.heap.push (tpO ps),drawn:=d }) p1 ?_);refine wpAny_bind ?_;unfold newFields;refine wpAny_newObj_type ?_;refine wpAny_pure ⟨_,rfl,"set_iterator",_,⟨_,Heap.get?_push_size _ rfl,rfl⟩,aM.lookup,?_⟩;refine h _ _ d (ps.map fun j=>es.getD j default).toArray [(s.heap.push (tpO ps)).objs.size,a,s.heap.objs.size] _ ?_ (fun b o e=>Heap.get?_push_of_some _ (Heap.get?_push_of_some _ e))
   (Bm hh (o:=o) (t:=t) (ep:=ep) (ps:=ps) (by rw[Heap.size_push];exact Nat.ne_of_lt (Nat.lt_succ_of_lt al)) (by rw[Heap.size_push];exact Nat.ne_of_lt (Nat.lt_succ_self _)) hp) ⟨Heap.get?_push_size _ rfl,Heap.get?_push_of_some _ g1,p1.kept (Heap.get?_push_of_some _ p1.get)⟩ (by rw[Heap.size_push];lia) fun b hb=>?_
  ·have:=hp.map fun j=>es.getD j default;rw[vE]at this;simpa using this
  ·rw[Heap.size_push]at hb;simp only[List.mem_cons,List.not_mem_nil,or_false]at hb;rcases hb with rfl|rfl|rfl
   ·exact .inr (Nat.le_succ _)
   ·exact .inl rfl
   ·exact .inr (Nat.le_refl _)
 ·rename_i hc;refine wpAny_bind (wpAny_pure ?_);refine wpAny_bind (wd p ?_);refine wpAny_bind ?_;unfold newFields;refine wpAny_newObj_type ?_;refine wpAny_pure ⟨_,rfl,"set_iterator",_,⟨_,Heap.get?_push_size _ rfl,rfl⟩,aM.lookup,?_⟩;have p1:∀oI,cR w (s.heap.push oI) a o es ep t:=fun oI=>p.kept (Heap.get?_push_of_some _ p.get);have fpok:∀b∈[s.heap.objs.size,a],b=a∨s.heap.objs.size<=b:=fun b hb=>by
   simp only[List.mem_cons,List.not_mem_nil,or_false]at hb;rcases hb with rfl|rfl
   ·exact .inr (Nat.le_refl _)
   ·exact .inl rfl
  cases hb:byT w with
  |true =>
   exact h _ _ s.drawn _ [s.heap.objs.size,a] _ (iJ (w.params.setOrder a ep) es) (fun b o e=>Heap.get?_push_of_some _ e) (AO hh (o:=o) (t:=t) (ep:=ep) (Nat.ne_of_lt al) hb) ⟨⟨0,Heap.get?_push_size _ rfl⟩,p1 _⟩ (Nat.le_refl _) fpok
  |false =>
   have hd:(!t.plain&&decide (es.size > 1))=false:=by
    rw[hb]at hc;simpa using hc
   have hf:t.place.size=es.size:=by
    have:=p.fit;simp[SetTable.fits]at this;lia
   have up:Ri t.place:=by
    rcases p.go with z|z
    ·intro i j hij hj;have:=z (by lia);rw[this]at hd;simp at hd
     lia
    ·exact z
   exact h _ _ s.drawn es [s.heap.objs.size,a] _ (.refl _) (fun b o e=>Heap.get?_push_of_some _ e) (Bk hh (o:=o) (t:=t) (ep:=ep) (Nat.ne_of_lt al) hb hd up hf) ⟨Nat.zero_le _,Heap.get?_push_size _ rfl,p1 _⟩ (Nat.le_refl _) fpok
end
section
variable{prog:Program}{w:World}{A:Around}{E:Value->Shared->Prop}{s:Shared}
theorem D4{r:Addr}{Q:Bool->Shared->Prop}(hT:s.TypeIs (.ref r) "set") (h:Q false s):wpAny (model prog w) A (Builtin.List.listLengthHint (.ref r)) Q E s:=by
 unfold Builtin.List.listLengthHint;refine wpAny_bind (wpAny_specialOf hT PySem.F.slot_set_len.lookup ?_);generalize hid:("set.__len__":String)=id0
 wp_delta
 rw[show splitId id0=some ("set","__len__")from by subst hid;decide +kernel];subst hid;refine wpAny_bind (wpAny_isInstance (T:="set") (b:=true) hT (by rw[isSubtype_type];kernel_rfl) ?_);refine wpAny_ite_split (fun hab=>absurd hab (by decide)) (fun _=>?_);refine wpAny_ite_split (fun _=>?_) (fun hab=>absurd (by decide +kernel) hab);refine wpAny_bind (wpAny_typeOf hT ?_);exact wpAny_pure h
abbrev xT(vs:Array Value) (c:Nat):Obj:={ cls:=.type "list",data:=.seq vs c }
theorem uv{a:Addr}{o:Obj}{es:Array (Int×Value)}{ep:Nat}{t:SetTable}{Q:List Value->Shared->Prop}(hh:A.handled=none) (p:cR w s.heap a o es ep t)
  (h:∀s' (es':Array (Int×Value)),es'.toList.Perm es.toList->(∀b o,s.heap.get? b=some o->s'.heap.get? b=some o)->s'.gens=s.gens->s'.os=s.os->Q (es'.toList.map (·.2)) s') :
  wpAny (model prog w) A (collect (.ref a)) Q E s:=by
 have al:a<s.heap.objs.size:=Heap.lt_size p.get;have hn:=fits_of_scanBound p.room;unfold collect;refine wpAny_bind (wpAny_runValue (codeAny_builtin PySem.F.entry_proto_collect ?_));rw[Around.under_plainId PySem.F.plain_proto_collect _];show wpAny _ A.in1 (newList [] >>= fun l=>again (.builtin "list.__iadd__" ⟨[l,.ref a],[]⟩)) _ _ s;refine wpAny_bind (wpAny_newObj_type ?_);refine wpAny_pure ⟨plainId_quiet PySem.F.plain_list_iadd _,codeAny_builtin PySem.F.entry_list_iadd ?_⟩;rw[Around.under_plainId PySem.F.plain_list_iadd _];generalize hH1:s.heap.push { cls:=.type "list",data:=.seq ([]:List Value).toArray }=H1;have k1:∀b o,s.heap.get? b=some o->H1.get? b=some o:=fun b o e=>by rw[<-hH1];exact Heap.get?_push_of_some _ e
 have hS:H1.get? s.heap.objs.size=some (xT #[] 0):=by rw[<-hH1];exact Heap.get?_push_size _ rfl
 have sz1:H1.objs.size=s.heap.objs.size+1:=by rw[<-hH1];exact Heap.size_push _ _
 have p1:cR w H1 a o es ep t:=p.kept (k1 _ _ p.get);show wpAny _ A.in1 (Builtin.List.listExtendWith (.ref s.heap.objs.size) (.ref a) (.ref s.heap.objs.size)) _ _ { s with heap:=H1 };unfold Builtin.List.listExtendWith;refine wpAny_bind (wpAny_typeOf (T:="set") (p1.typeIs (s:={ s with heap:=H1 })) ?_);have hne:s.heap.objs.size≠a:=Nat.ne_of_gt al;have h1:Builtin.List.listSameRef (.ref s.heap.objs.size) (.ref a)=false:=by simp[Builtin.List.listSameRef,hne]
 have h2:(Value.type "set"==Value.type "list")=false:=by decide
 have h3:(Value.type "set"==Value.type "tuple")=false:=by decide
 simp only[h1,h2,h3,Bool.or_false,Bool.false_eq_true,if_false];have hh1:A.in1.handled=none:=hh;refine wpAny_bind (C4 (s:={ s with heap:=H1 }) hh1 p1 fun I h' d' es' fp St hp k2 W st hI hfp=>?_);have hSf:s.heap.objs.size∉fp:=fun hm=>by
  rcases hfp _ hm with e|e
  ·exact hne e
  ·have e':H1.objs.size<=s.heap.objs.size:=e
   lia
 have szE:es'.size=es.size:=by have:=hp.length_eq;simpa using this
 have T2:Shared.TypeIs { s with heap:=h',drawn:=d' } (.ref a) "set":=(p1.kept (k2 _ _ p1.get)).typeIs (s:={ s with heap:=h',drawn:=d' });refine wpAny_bind (wpAny_holding (D4 T2 ?_));have post:∀s' (acc:Array Value) c',Moved (s.heap.objs.size::[I]) (fun a b=>b=a) { s with heap:=h',drawn:=d' } s'->s'.heap.get? s.heap.objs.size=some (xT acc c')->ItemsOf (PSe es') acc es.size ->
   wpAny (model prog w) A (do match (<-load s.heap.objs.size).data with|.seq xs _=>pure xs.toList|_=>unsupported "internal:collect") Q E s':=by
  intro s' acc c' hm hS' hacc;refine wpAny_bind (wpAny_load hS' (wpAny_pure ?_));have eacc:acc.toList=es'.toList.map (·.2):=by
   apply List.ext_getElem?;intro i;rcases Nat.lt_or_ge i es.size with hi|hi
   ·have:acc[i]?=some (acc[i]'(by rw[hacc.1];exact hi)):=Array.getElem?_eq_getElem _;obtain⟨e,e1,e2⟩:=hacc.2 i _ this;rw[Array.getElem?_toList,this,e2,List.getElem?_map,Array.getElem?_toList,e1];rfl
   ·rw[List.getElem?_eq_none (by simp[hacc.1];exact hi),List.getElem?_eq_none (by simp;lia)]
  rw[eacc];refine h s' es' hp (fun b o e=>hm.heap b o ?_ (k2 b o (k1 b o e))) hm.gens hm.os;have hb:=Heap.lt_size e;have hI':H1.objs.size<=I:=hI;rw[sz1]at hI';simp only[List.mem_cons,List.not_mem_nil,or_false,not_or];exact⟨Nat.ne_of_lt hb,Nat.ne_of_lt (Nat.lt_of_lt_of_le (Nat.lt_succ_of_lt hb) hI')⟩
 have key:∀(R:Result->Shared->Prop) (h2:Heap) (c:Nat),St 0 h2->(∀b o,b≠s.heap.objs.size->h'.get? b=some o->h2.get? b=some o)->h2.get? s.heap.objs.size=some (xT #[] c) ->
   (∀s' (acc:Array Value) c',Moved (s.heap.objs.size::[I]) (fun a b=>b=a) { s with heap:=h',drawn:=d' } s'->s'.heap.get? s.heap.objs.size=some (xT acc c')->ItemsOf (PSe es') acc es.size->R (.ok (.ret (.ref s.heap.objs.size))) s') ->
   codeAny (model prog w) A (.builtin "list.extend.loop" ⟨[.ref s.heap.objs.size,.ref I,.ref s.heap.objs.size],[]⟩) R { s with heap:=h2,drawn:=d' }:=by
  intro R h2 c st2 k3 hS2 hR;refine codeAny_extend_loopS W.toS hn _ hSf _ es.size 0 _ #[] c rfl (Nat.zero_le _) st2 hS2 (ItemsOf.nil _) fun s' acc c' hm hS' hacc=>hR s' acc c' ⟨fun b o hb e=>hm.heap b o hb (k3 b o (fun q=>hb (by simp[q])) e),hm.gens,hm.drawn,hm.os,hm.toks⟩ hS' hacc
 have hS1:=k2 _ _ hS;refine wpAny_ite_split (fun _=>?_) (fun _=>wpAny_pure ⟨plainId_quiet PySem.F.plain_extend_loop _,?_⟩)
 ·refine wpAny_bind (wpAny_rule ?_);refine wpAny_bind ?_;show wpAny _ _ (updateSeq s.heap.objs.size (·.push .none) >>= fun _=>updateSeq s.heap.objs.size (·.pop)) _ _ _;refine wpAny_bind (wpAny_updateSeq hS1 rfl ?_);have hS2:=Heap.get?_update_self (Obj.mapSeq (·.push Value.none)) hS1 rfl;refine wpAny_updateSeq hS2 rfl ?_;have hS3:=Heap.get?_update_self (Obj.mapSeq (·.pop)) hS2 rfl;have oth:∀b o,b≠s.heap.objs.size->h'.get? b=some o->((h'.update s.heap.objs.size (Obj.mapSeq (·.push Value.none))).update s.heap.objs.size (Obj.mapSeq (·.pop))).get? b=some o :=
   fun b o hb e=>(Heap.get?_update_other _ _ (Ne.symm hb)).trans ((Heap.get?_update_other _ _ (Ne.symm hb)).trans e)
  refine wpAny_pure ⟨plainId_quiet PySem.F.plain_extend_loop _,?_⟩;exact key _ _ _ (W.frame 0 h' _ st fun b hb o e=>oth b o (fun q=>hSf (q▸hb)) e) oth hS3 post
 ·exact key _ h' 0 st (fun b o _ e=>e) hS1 post
end
end L2
namespace L2
open PySem PySem.Spec PyProof.Rows PySem.Calls
section
variable{X:Cx}{aa:List (Addr×Obj)}{s:Shared}{σ:St}{H:Hp}{M:DH}
theorem CY.nd{prog:Program}{w:World}{h:Heap}{a:Addr}{xs:List Str}(z:CY prog w h a xs):xs.Nodup:=by
 obtain⟨o,es,ep,t,p,q⟩:=z;exact q.nodup_iff.mp p.nd
theorem Inv.with{s':Shared}(I:Inv X aa σ H s) (k:∀b u,s.heap.get? b=some u->s'.heap.get? b=some u) (g:s'.gens=s.gens) (o:s'.os=s.os):Inv X aa σ H s':=by
 have I1:Inv X aa σ H { s with heap:=s'.heap,toks:=s'.toks }:=I.kept k;exact⟨I1.ok,o.trans I1.os,by rw[g];exact I1.bare,I1.base,I1.loc,I1.cell,I1.free,I1.freeC,I1.pin,I1.hok,I1.len⟩
end
end L2
namespace L2
open PySem PySem.Spec PyProof.Rows
section
variable{X:Cx}{o i:Expr}{to ti:TEd}{pos:Pos}
end
section
variable{P:Program}{w:World}{K:PySem.W.Frag}{mg:Str->Option Value}{base:Heap}{f:Addr}{fd:FuncData}
theorem Fun.okR{x qual:Str}{st:Stmt}{f:Addr}{fd:FuncData}{N ps:List Str}{k n:Nat}{S:SpD}(F:Fun K x qual st f fd) (hn:ps.length=n) (Sc:ay N ps (aj st))
  (hbody:∀ (cdv:Value) (A:Around) (outer:List Env) (s:Shared) (H:Hp) (E:XK),cj k (A.deeper (envOfC qual (aj st) s.heap.objs.size f cdv)) →
   ∃t:TSd,QSs (pN CX0 P w K mg base N qual (aj st) f cdv A outer s H E).nox (cE st) t/\∀ds M R (G:Prop),S ds M R->(t { nx:=fun _ M'=>R .non M',rt:=R } (gj N ds) M->G)->G):bo P w K mg base CX0 (k+1) f fd ps (spD K n S):=by
 refine F.okD hn Sc fun cdv A outer s H E hr=>?_;obtain⟨t,h1,h2⟩:=hbody cdv A outer s H E hr;exact⟨t,xP h1,fun ds M R _ hS=>h2 ds M R _ hS id⟩
theorem shr{p:Prop}(h:∀q:Prop,(p->q)->q):p:=h p id
theorem nn{M:DH}{p q:Addr}{u:HD}(h1:M q=none) (h2:M p=some u):q≠p:=fun e=>by rw[e,h2]at h1;cases h1
end
end L2
namespace L2
open PySem PyProof.Rows
theorem bG{σ:Type}{M:Model}{A:Around}{E:Value->Shared->Prop}{s:Shared}{α:Type}{c:Prop} [Decidable c] {x y:StateT σ Sem α}{Q:α->σ->Prop}{st:σ}(h:c) (k:wpS M A E s x Q st):wpS M A E s (if c then x else y) Q st:=by rw[if_pos h];exact k
theorem bF{σ:Type}{M:Model}{A:Around}{E:Value->Shared->Prop}{s:Shared}{α:Type}{c:Prop} [Decidable c] {x y:StateT σ Sem α}{Q:α->σ->Prop}{st:σ}(h:¬ c) (k:wpS M A E s y Q st):wpS M A E s (if c then x else y) Q st:=by rw[if_neg h];exact k
theorem bL{p:Prop}(h:∀q:Prop,(p->q)->q):p:=h p id
abbrev SM(α:Type):=StateT SortSt Sem α
def gA(xs:Array Keyed) (i:Nat):Keyed:=xs[i]?.getD (.none,.none)
theorem pQ{xs ys:Array Keyed}{i j:Nat}(h:xs[i]?=ys[j]?):gA xs i=gA ys j:=by unfold gA;rw[h]
theorem vJ{xs:Array Keyed}{i:Nat}(h:i<xs.size):xs[i]?=some (gA xs i):=by unfold gA;rw[Array.getElem?_eq_getElem h];rfl
section
variable{prog:Program}{w:World}{A:Around}{E:Value->Shared->Prop}{s:Shared}{O:KeyOrd}{key:Keyed->O.α}{a0:List Keyed}{κ:SortKind}
def fV(prog:Program) (w:World) (A:Around) (s:Shared) (κ:SortKind) (key:Keyed->O.α) (a0:List Keyed):Prop :=
 ∀x∈a0,∀y∈a0,∀(Q:Bool->Shared->Prop),Q (O.blt (key x) (key y)) s->wpAny (model prog w) A (keyLt' κ x.1 y.1) Q (fun _ _=>False) s
structure SB(a0:List Keyed) (κ:SortKind) (st:SortSt):Prop where
 perm:(arrOf st).toList.Perm a0
 kind:kindOf st=κ
 fail:failedOf st=none
theorem SB.size{st:SortSt}(h:SB a0 κ st):(arrOf st).size=a0.length:=by rw[<-Array.length_toList];exact h.perm.length_eq
theorem SB.arr{st:SortSt}(h:SB a0 κ st) {xs:Array Keyed}(hp:xs.toList.Perm (arrOf st).toList):SB a0 κ (setArr st xs):=⟨hp.trans h.perm,h.kind,h.fail⟩
theorem SB.mem{st:SortSt}(h:SB a0 κ st) {i:Nat}(hi:i<a0.length):gA (arrOf st) i∈a0:=by
 have hi':i<(arrOf st).size:=by rw[h.size];exact hi
 have:gA (arrOf st) i=(arrOf st)[i]:=by unfold gA;rw[Array.getElem?_eq_getElem hi'];rfl
 rw[this];exact h.perm.mem_iff.mp (by simp)
def kA(key:Keyed->O.α) (xs:Array Keyed) (i:Nat):O.α:=key (gA xs i)
def Up(key:Keyed->O.α) (xs:Array Keyed) (lo hi:Nat):Prop:=∀i j,lo<=i->i<=j->j<hi->O.kle (kA key xs i) (kA key xs j)
def Dn(key:Keyed->O.α) (xs:Array Keyed) (lo hi:Nat):Prop:=∀i j,lo<=i->i<=j->j<hi->O.kle (kA key xs j) (kA key xs i)
def Out(lo hi:Nat) (xs ys:Array Keyed):Prop:=∀i,i<lo∨hi<=i->ys[i]?=xs[i]?
theorem Out.refl{lo hi:Nat}{xs:Array Keyed}:Out lo hi xs xs:=fun _ _=>rfl
theorem Out.trans{lo hi lo' hi':Nat}{xs ys zs:Array Keyed}(h1:Out lo hi xs ys) (h2:Out lo' hi' ys zs) (a:lo<=lo') (b:hi'<=hi):Out lo hi xs zs:=fun i hi=>(h2 i (by lia)).trans (h1 i hi)
theorem bx{xs ys:Array Keyed}{i j:Nat}(h:xs[i]?=ys[j]?):kA key xs i=kA key ys j:=by unfold kA;rw[pQ h]
theorem Up.one{xs:Array Keyed}{lo hi:Nat}(h:hi<=lo+1):Up key xs lo hi:=fun i j h1 h2 h3=>by
 obtain rfl:i=j:=by lia
 exact KeyOrd.kle_refl _
theorem Up.more{xs:Array Keyed}{lo x:Nat}(h:Up key xs lo x) (le:lo<x->O.kle (kA key xs (x-1)) (kA key xs x)):Up key xs lo (x+1):=fun i j h0 hij hj=>by
 rcases Nat.lt_or_ge j x with h1|h1
 ·exact h i j h0 hij h1
 ·obtain rfl:j=x:=by lia
  rcases Nat.lt_or_ge i j with h2|h2
  ·exact KeyOrd.kle_trans (h i (j-1) h0 (by lia) (by lia)) (le (by lia))
  ·obtain rfl:i=j:=by lia
   exact KeyOrd.kle_refl _
theorem Dn.more{xs:Array Keyed}{lo x:Nat}(h:Dn key xs lo x) (le:lo<x->O.kle (kA key xs x) (kA key xs (x-1))):Dn key xs lo (x+1):=fun i j h0 hij hj=>by
 rcases Nat.lt_or_ge j x with h1|h1
 ·exact h i j h0 hij h1
 ·obtain rfl:j=x:=by lia
  rcases Nat.lt_or_ge i j with h2|h2
  ·exact KeyOrd.kle_trans (le (by lia)) (h i (j-1) h0 (by lia) (by lia))
  ·obtain rfl:i=j:=by lia
   exact KeyOrd.kle_refl _
theorem Up.out{xs ys:Array Keyed}{lo hi a b:Nat}(h:Up key xs lo hi) (o:Out a b xs ys) (d:hi<=a∨b<=lo):Up key ys lo hi:=fun i j h1 h2 h3=>by
 rw[bx (o i (by lia)),bx (o j (by lia))];exact h i j h1 h2 h3
theorem bf{st:SortSt}{xs:Array Keyed}{i:Nat}{Q:Keyed->SortSt->Prop}(hi:i<xs.size) (h:Q (gA xs i) st):wpS (model prog w) A E s (elem' xs i) Q st:=by
 rw[elem'_eq,vJ hi];exact wpS_pure h
theorem vA{st:SortSt}{x y:Keyed}{Q:Option Bool->SortSt->Prop}(hA:fV prog w A s κ key a0) (hk:kindOf st=κ) (hx:x∈a0) (hy:y∈a0) (h:Q (some (O.blt (key x) (key y))) st):wpS (model prog w) A E s (lt' x y) Q st:=by
 rw[lt'_eq];refine wpS_bind (wpS_get ?_);rw[hk];refine wpS_bind (wpS_lift (wpAny_attempt (wpAny_mono (hA x hx y hy (fun b s'=>b=O.blt (key x) (key y)/\s'=s) ⟨rfl,rfl⟩) ?_ fun _ _ z=>z.elim)));rintro b s' ⟨rfl,rfl⟩;exact⟨rfl,wpS_pure h⟩
theorem jN{st:SortSt}{i j:Nat}{Q:Option Bool->SortSt->Prop}(hA:fV prog w A s κ key a0) (hB:SB a0 κ st) (hi:i<a0.length) (hj:j<a0.length)
  (h:Q (some (O.blt (kA key (arrOf st) i) (kA key (arrOf st) j))) st):wpS (model prog w) A E s (ltAt' i j) Q st:=by
 rw[ltAt'_eq];refine wpS_bind (wpS_get (wpS_bind (bf (by rw[hB.size];exact hi) (wpS_bind (bf (by rw[hB.size];exact hj) ?_)))));exact vA hA hB.kind (hB.mem hi) (hB.mem hj) h
theorem iX{xs:Array Keyed}{i j:Nat}(hj:j<=xs.size) (k:Nat):kA key (mirror xs i j ((j-i) / 2)) k=if i<=k/\k<j then kA key xs (i+j-1-k)else kA key xs k:=by
 have e:=getElem?_mirror_all (i:=i) hj k
 by_cases h:i<=k/\k<j
 ·rw[if_pos h]at e ⊢;exact bx e
 ·rw[if_neg h]at e ⊢;exact bx e
theorem eU{xs:Array Keyed}{i j:Nat}(hj:j<=xs.size):Out i j xs (mirror xs i j ((j-i) / 2)):=fun k hk=>by
 rw[getElem?_mirror_all hj,if_neg (by lia)]
theorem rq{st:SortSt}{i j:Nat}{Q:Unit->SortSt->Prop}(hB:SB a0 κ st) (h:SB a0 κ (setArr st (mirror (arrOf st) i j ((j-i) / 2)))->Q () (setArr st (mirror (arrOf st) i j ((j-i) / 2)))):wpS (model prog w) A E s (reverseSlice' i j) Q st:=by
 rw[reverseSlice'_eq];exact wpS_modify (h (hB.arr (Array.perm_iff_toList_perm.mp (mirror_perm _ _ _ _))))
theorem fj{xs:Array Keyed}{i j:Nat}(hj:j<=xs.size) (he:∀k,i<=k->k<j->kA key xs k=kA key xs (j-1)) (k:Nat):kA key (mirror xs i j ((j-i) / 2)) k=kA key xs k:=by
 rw[iX hj]
 split
 ·rename_i h;rw[he _ (by lia) (by lia),he k h.1 h.2]
 ·rfl
theorem ox{a b:O.α}(h:O.blt a b=false):O.kle b a:=h
theorem gZ{a b:O.α}(h:O.blt a b=true):O.kle a b:=KeyOrd.kle_of_klt h
def xc(lo a nrem:Nat):SM AscSt :=
 forIn [a:nrem] ((none,a):AscSt) fun _ r=>do
  match (<-ltAt' (lo+r.2) (lo+r.2-1))with
  |some smaller=>if smaller=true then pure (ForInStep.done (none,r.2))else pure (ForInStep.yield (none,r.2+1))
  |_=>pure (ForInStep.done (some none,r.2))
theorem zJ{st:SortSt}{lo a nrem:Nat}{Q:AscSt->SortSt->Prop}(hA:fV prog w A s κ key a0) (hB:SB a0 κ st) (hz:lo+nrem<=a0.length) (h1:1<=a) (h2:a<=nrem) (hs:Up key (arrOf st) lo (lo+a))
  (h:∀m,a<=m->m<=nrem->Up key (arrOf st) lo (lo+m)->(m=nrem∨O.blt (kA key (arrOf st) (lo+m)) (kA key (arrOf st) (lo+m-1))=true)->Q (none,m) st):wpS (model prog w) A E s (xc lo a nrem) Q st:=by
 unfold xc;refine wpS_forRange (I:=fun i c st'=>st'=st/\c=(none,i)/\Up key (arrOf st) lo (lo+i)) ?_ ?_ ⟨rfl,rfl,hs⟩
 ·rintro i c st' ha hb ⟨rfl,rfl,hu⟩;dsimp only;refine wpS_bind (jN hA hB (by lia) (by lia) ?_);dsimp only;cases q:O.blt (kA key (arrOf st') (lo+i)) (kA key (arrOf st') (lo+i-1))with
  |true=>exact wpS_pure (h i ha (by exact Nat.le_of_lt (by assumption)) hu (.inr q))
  |false=>exact wpS_pure ⟨rfl,rfl,hu.more fun _=>ox q⟩
 ·rintro c st' ⟨rfl,rfl,hu⟩;rw[show max a nrem=nrem by lia]at hu ⊢;exact h nrem h2 (Nat.le_refl _) hu (.inl rfl)
theorem wn{st:SortSt}{lo n nrem:Nat}{Q:Option Nat->SortSt->Prop}{f:AscSt->SM (Option Nat)}(hA:fV prog w A s κ key a0) (hB:SB a0 κ st) (hz:lo+nrem<=a0.length) (h1:1<=n) (h2:n<=nrem) (hd:Dn key (arrOf st) lo (lo+n))
  (h:∀m st',SB a0 κ st'->pendingOf st'=pendingOf st->1<=m->m<=nrem->Up key (arrOf st') lo (lo+m)->Out lo (lo+nrem) (arrOf st) (arrOf st')->wpS (model prog w) A E s (f (none,m)) Q st'):wpS (model prog w) A E s (do reverseSlice' lo (lo+n);let r <-xc lo n nrem;f r) Q st:=by
 have sz:=hB.size;refine wpS_bind (rq hB fun hB'=>wpS_bind (zJ hA hB' hz h1 h2 (fun i j a b c=>?_) fun m ha hb hu _=>?_))
 ·show O.kle (kA key (mirror _ _ _ _) _) (kA key (mirror _ _ _ _) _);rw[iX (by lia),iX (by lia),if_pos (by lia),if_pos (by lia)];exact hd _ _ (by lia) (by lia) (by lia)
 ·exact h m _ hB' rfl (by exact Nat.lt_of_lt_of_le (by assumption) (by assumption)) hb hu fun i hi=>eU (j:=lo+n) (by lia) i (by lia)
def w5(lo n nrem:Nat):SM DescSt :=
 forIn [n:nrem] ((none,n,0):DescSt) fun _ r=>do
  match (<-ltAt' (lo+r.2.1) (lo+r.2.1-1))with
  |some smaller =>
   if smaller=true then
    if r.2.2 > 0 then do
     reverseSlice' (lo+r.2.1-(r.2.2+1)) (lo+r.2.1)
     pure (ForInStep.yield (none,r.2.1+1,0))
    else pure (ForInStep.yield (none,r.2.1+1,0))
   else do
    match (<-ltAt' (lo+r.2.1-1) (lo+r.2.1))with
    |some larger =>
     if larger=true then pure (ForInStep.done (none,r.2.1,r.2.2))
     else pure (ForInStep.yield (none,r.2.1+1,r.2.2+1))
    |_=>pure (ForInStep.done (some none,r.2.1,r.2.2))
  |_=>pure (ForInStep.done (some none,r.2.1,r.2.2))
def Dk(key:Keyed->O.α) (xs:Array Keyed) (lo x q:Nat):Prop:=q+1<=x/\∀i,lo+x-(q+1)<=i->i<lo+x->kA key xs i=kA key xs (lo+x-1)
theorem AI{st:SortSt}{lo n nrem:Nat}{Q:DescSt->SortSt->Prop}(hA:fV prog w A s κ key a0) (hB:SB a0 κ st) (hz:lo+nrem<=a0.length) (h1:1<=n) (h2:n<=nrem) (hd:Dn key (arrOf st) lo (lo+n))
  (h:∀m q st',SB a0 κ st'->pendingOf st'=pendingOf st->1<=m->m<=nrem->Dn key (arrOf st') lo (lo+m)->Dk key (arrOf st') lo m q->Out lo (lo+nrem) (arrOf st) (arrOf st')->Q (none,m,q) st'):wpS (model prog w) A E s (w5 lo n nrem) Q st:=by
 unfold w5;refine wpS_forRange (I:=fun i c st'=>∃q,c=(none,i,q)/\SB a0 κ st'/\pendingOf st'=pendingOf st/\Dn key (arrOf st') lo (lo+i)/\Dk key (arrOf st') lo i q/\Out lo (lo+nrem) (arrOf st) (arrOf st')) ?_ ?_ ⟨0,rfl,hB,rfl,hd,⟨h1,fun i a b=>by obtain rfl:i=lo+n-1:=(by lia);rfl⟩,Out.refl⟩
 ·rintro i c st' ha hb ⟨q,rfl,hB',hp,hd',hl,ho⟩;have sz:=hB'.size;dsimp only;refine wpS_bind (jN hA hB' (by lia) (by lia) ?_);dsimp only;cases e:O.blt (kA key (arrOf st') (lo+i)) (kA key (arrOf st') (lo+i-1))with
  |true =>
   simp only[if_true]
   by_cases h0:q > 0
   ·rw[if_pos h0];refine wpS_bind (rq hB' fun hB2=>wpS_pure ⟨0,rfl,hB2,hp,?_,⟨by lia,fun k a b=>by obtain rfl:k=lo+(i+1)-1:=(by lia);rfl⟩,?_⟩)
    ·have same:=fj (key:=key) (xs:=arrOf st') (i:=lo+i-(q+1)) (j:=lo+i) (by lia) (fun k a b=>hl.2 k a b);refine Dn.more (x:=lo+i) (fun k j a b c=>?_) fun _=>?_
     ·show O.kle (kA key (mirror _ _ _ _) _) (kA key (mirror _ _ _ _) _);rw[same,same];exact hd' k j a b c
     ·show O.kle (kA key (mirror _ _ _ _) _) (kA key (mirror _ _ _ _) _);rw[same,same];exact gZ e
    ·exact ho.trans (eU (by lia)) (by have:=hl.1;lia) (by lia)
   ·rw[if_neg h0];exact wpS_pure ⟨0,rfl,hB',hp,Dn.more (x:=lo+i) hd' fun _=>gZ e,⟨by lia,fun k a b=>by obtain rfl:k=lo+(i+1)-1:=(by lia);rfl⟩,ho⟩
  |false =>
   simp only[Bool.false_eq_true,if_false];refine wpS_bind (jN hA hB' (by lia) (by lia) ?_);dsimp only;cases e2:O.blt (kA key (arrOf st') (lo+i-1)) (kA key (arrOf st') (lo+i))with
   |true=>exact wpS_pure (h i q st' hB' hp (by exact Nat.lt_of_lt_of_le (by assumption) (by assumption)) (by exact Nat.le_of_lt (by assumption)) hd' hl ho)
   |false =>
    simp only[Bool.false_eq_true,if_false];have eq:kA key (arrOf st') (lo+i)=kA key (arrOf st') (lo+i-1):=O.total _ _ e e2;refine wpS_pure ⟨q+1,rfl,hB',hp,Dn.more (x:=lo+i) hd' fun _=>ox e2,⟨by have:=hl.1;lia,fun k a b=>?_⟩,ho⟩;rw[show lo+(i+1)-1=lo+i by lia];rcases Nat.lt_or_ge k (lo+i)with h'|h'
    ·rw[eq];exact hl.2 k (by lia) h'
    ·obtain rfl:k=lo+i:=by lia
     rfl
 ·rintro c st' ⟨q,rfl,hB',hp,hd',hl,ho⟩;rw[show max n nrem=nrem by lia]at hd' hl ⊢;exact h nrem q st' hB' hp (by exact Nat.lt_of_lt_of_le (by assumption) (by assumption)) (Nat.le_refl _) hd' hl ho
theorem sM{st:SortSt}{lo n nrem:Nat}{Q:Option Nat->SortSt->Prop}{f:DescSt->SM (Option Nat)}{g:AscSt->SM (Option Nat)}(hA:fV prog w A s κ key a0) (hB:SB a0 κ st) (hz:lo+nrem<=a0.length) (h2:n+1<=nrem) (hd:Dn key (arrOf st) lo (lo+(n+1)))
  (hf:∀m q,f (none,m,q)=if q > 0 then(do reverseSlice' (lo+m-(q+1)) (lo+m);reverseSlice' lo (lo+m);let r <-xc lo m nrem;g r)else(do reverseSlice' lo (lo+m);let r <-xc lo m nrem;g r))
  (h:∀m st',SB a0 κ st'->pendingOf st'=pendingOf st->1<=m->m<=nrem->Up key (arrOf st') lo (lo+m)->Out lo (lo+nrem) (arrOf st) (arrOf st')->wpS (model prog w) A E s (g (none,m)) Q st') :
  wpS (model prog w) A E s (do liftM (rule "list.sort.descending-run");let r <-w5 lo (n+1) nrem;f r) Q st:=by
 refine wpS_bind (wpS_lift (wpAny_rule ⟨rfl,wpS_bind (AI hA hB hz (by lia) h2 hd fun m q st' hB' hp ha hb hd' hl ho=>?_)⟩));rw[hf];have sz:=hB'.size
 by_cases h0:q > 0
 ·rw[if_pos h0];refine wpS_bind (rq hB' fun hB2=>wn hA hB2 hz ha hb (fun i j a b c=>?_) fun m' st2 a b c d e f=>h m' st2 a (b.trans hp) c d e ((ho.trans (eU (by lia)) (by have:=hl.1;lia) (by lia)).trans f (Nat.le_refl _) (Nat.le_refl _)));have same:=fj (key:=key) (xs:=arrOf st') (i:=lo+m-(q+1)) (j:=lo+m) (by lia) (fun k a b=>hl.2 k a b);show O.kle (kA key (mirror _ _ _ _) _) (kA key (mirror _ _ _ _) _);rw[same,same];exact hd' i j a b c
 ·rw[if_neg h0];exact wn hA hB' hz ha hb hd' fun m' st2 a b c d e f=>h m' st2 a (b.trans hp) c d e (ho.trans f (Nat.le_refl _) (Nat.le_refl _))
theorem yk{st:SortSt}{lo nrem:Nat}{Q:Option Nat->SortSt->Prop}(hA:fV prog w A s κ key a0) (hB:SB a0 κ st) (hz:lo+nrem<=a0.length) (h1:1<=nrem)
  (h:∀m st',SB a0 κ st'->pendingOf st'=pendingOf st->1<=m->m<=nrem->Up key (arrOf st') lo (lo+m)->Out lo (lo+nrem) (arrOf st) (arrOf st')->Q (some m) st'):wpS (model prog w) A E s (countRun' lo nrem) Q st:=by
 have sz:=hB.size;rw[countRun'_eq];dsimp only;refine wpS_bind (zJ hA hB hz (Nat.le_refl 1) h1 (Up.one (by exact Nat.le_refl _)) fun m ha hb hu hm=>?_);dsimp only
 by_cases e:m=nrem
 ·rw[if_pos (by simpa using e)];exact wpS_pure (h m st hB rfl ha hb hu Out.refl)
 ·rw[if_neg (by simpa using e)];have lt:=hm.resolve_left e
  by_cases g:m > 1
  ·rw[if_pos g];refine wpS_bind (jN hA hB (by lia) (by lia) ?_);dsimp only;cases q:O.blt (kA key (arrOf st) lo) (kA key (arrOf st) (lo+m-1))with
   |true=>exact wpS_pure (h m st hB rfl ha hb hu Out.refl)
   |false =>
    simp only[Bool.false_eq_true,if_false];have like:∀i,lo<=i->i<lo+m->kA key (arrOf st) i=kA key (arrOf st) (lo+m-1):=fun i h0 hi =>
     KeyOrd.kle_antisymm (hu i (lo+m-1) h0 (by lia) (by lia)) (KeyOrd.kle_trans (ox q) (hu lo i (Nat.le_refl _) h0 hi))
    have same:=fj (key:=key) (xs:=arrOf st) (i:=lo) (j:=lo+m) (by lia) like;refine wpS_bind (rq hB fun hB'=>sM (n:=m) hA hB' hz (by lia) ?_ (fun m q=>rfl) ?_)
    rotate_left
    ·exact fun m' st2 a b c d e f=>wpS_pure (h m' st2 a b c d e fun i hi=>(f i hi).trans (eU (j:=lo+m) (by lia) i (by lia)))
    refine Dn.more (x:=lo+m) (fun i j a b c=>?_) fun _=>?_
    ·show O.kle (kA key (mirror _ _ _ _) _) (kA key (mirror _ _ _ _) _);rw[same,same,like i a (by lia),like j (by exact Nat.le_trans (by assumption) (by assumption)) c];exact KeyOrd.kle_refl _
    ·show O.kle (kA key (mirror _ _ _ _) _) (kA key (mirror _ _ _ _) _);rw[same,same];exact gZ lt
  ·rw[if_neg g];obtain rfl:m=1:=by lia
   refine sM (n:=1) hA hB hz (by lia) (Dn.more (x:=lo+1) (fun i j a b c=>?_) fun _=>gZ lt) (fun m q=>rfl) ?_
   rotate_left
   ·exact fun m' st2 a b c d e f=>wpS_pure (h m' st2 a b c d e f)
   obtain rfl:i=j:=by lia
   exact KeyOrd.kle_refl _
end
section
variable{prog:Program}{w:World}{A:Around}{E:Value->Shared->Prop}{s:Shared}{O:KeyOrd}{key:Keyed->O.α}{a0:List Keyed}{κ:SortKind}
theorem lT{xs:Array Keyed}{src d:Nat}(hs:src<xs.size) (hd:d<=src) (k:Nat):kA key (bubble xs src d) k=if k=src-d then kA key xs src else if src-d<k/\k<=src then kA key xs (k-1)else kA key xs k:=by
 have e:=getElem?_bubble hs d hd k
 by_cases h1:k=src-d
 ·rw[if_pos h1]at e ⊢;exact bx e
 ·rw[if_neg h1]at e ⊢
  by_cases h2:src-d<k/\k<=src
  ·rw[if_pos h2]at e ⊢;exact bx e
  ·rw[if_neg h2]at e ⊢;exact bx e
theorem DC{st:SortSt}{lo n ok:Nat}{Q:Bool->SortSt->Prop}(hA:fV prog w A s κ key a0) (hB:SB a0 κ st) (hz:lo+n<=a0.length) (hok:ok<=n) (hs:Up key (arrOf st) lo (lo+ok))
  (h:∀st',SB a0 κ st'->pendingOf st'=pendingOf st->Up key (arrOf st') lo (lo+n)->Out lo (lo+n) (arrOf st) (arrOf st')->Q true st'):wpS (model prog w) A E s (binarySort' lo n ok) Q st:=by
 rw[binarySort'_eq];refine wpS_bind (wpS_mono (wpS_forRange (I:=fun k c st'=>c=(none,())/\SB a0 κ st'/\pendingOf st'=pendingOf st/\Up key (arrOf st') lo (lo+min k n)/\Out lo (lo+n) (arrOf st) (arrOf st'))
  (Q:=fun c st'=>c=(none,())/\SB a0 κ st'/\pendingOf st'=pendingOf st/\Up key (arrOf st') lo (lo+n)/\Out lo (lo+n) (arrOf st) (arrOf st')) ?step ?fin ?init) ?post)
 case post =>
  intro c st' hI';refine bL fun _ bk=>?_;obtain⟨rfl,hB',hp,hs',ho⟩:=hI';refine bk ?_;clear bk;exact wpS_pure (h st' hB' hp hs' ho)
 case init =>
  refine⟨rfl,hB,rfl,fun i j h0 hij hj=>?_,Out.refl⟩
  by_cases h1:ok=0
  ·obtain rfl:i=j:=by lia
   exact KeyOrd.kle_refl _
  ·exact hs i j h0 hij (by lia)
 case fin =>
  intro c st' hI';refine bL fun _ bk=>?_;obtain⟨hc,hB',hp,hs',ho⟩:=hI';refine bk ?_;clear bk;refine⟨hc,hB',hp,?_,ho⟩
  rwa [show min (max (max ok 1) n) n=n by lia]at hs'
 case step =>
  intro k c st' hak hkn hI';refine bL fun _ bk=>?_;obtain⟨rfl,hB',hp,hs',ho⟩:=hI';refine bk ?_;clear bk;rw[show min k n=k by lia]at hs';refine wpS_bind (wpS_mono (wpS_forRange (I:=fun x c st''=>st''=st'/\∃l r,c=(none,l,r)/\l<=r/\r<=k/\r-l<=k-x /\
    (∀i,i<l->O.kle (kA key (arrOf st') (lo+i)) (kA key (arrOf st') (lo+k)))/\(∀i,r<=i->i<k->O.klt (kA key (arrOf st') (lo+k)) (kA key (arrOf st') (lo+i))))
   (Q:=fun c st'' => st'' = st' ∧ ∃ l r,c = (none,l,r) ∧ l ≤ k ∧
    (∀i,i<l->O.kle (kA key (arrOf st') (lo+i)) (kA key (arrOf st') (lo+k)))/\(∀i,l<=i->i<k->O.klt (kA key (arrOf st') (lo+k)) (kA key (arrOf st') (lo+i)))) ?istep ?ifin ?iinit) ?ipost)
  case iinit=>exact⟨rfl,0,k,rfl,by exact Nat.zero_le _,by exact Nat.le_refl _,by exact Nat.le_refl _,fun i hi=>by lia,fun i h1 h2=>by lia⟩
  case ifin =>
   intro c st'' hI';refine bL fun _ bk=>?_;obtain⟨rfl,l,r,rfl,hlr,hrk,hm,hlo,hhi⟩:=hI';refine bk ?_;clear bk;obtain rfl:l=r:=by lia
   exact⟨rfl,l,l,rfl,hrk,hlo,hhi⟩
  case istep =>
   intro x c st'' _ hxk hI';refine bL fun _ bk=>?_;obtain⟨rfl,l,r,rfl,hlr,hrk,hm,hlo,hhi⟩:=hI';refine bk ?_;clear bk;dsimp only
   by_cases hge:l>=r
   ·rw[if_pos hge];obtain rfl:l=r:=by lia
    exact wpS_pure ⟨rfl,l,l,rfl,hrk,hlo,hhi⟩
   ·rw[if_neg hge];refine wpS_bind (jN hA hB' (by lia) (by lia) ?_);dsimp only;cases q:O.blt (kA key (arrOf st'') (lo+k)) (kA key (arrOf st'') (lo+(l+r) / 2))with
    |true=>exact wpS_pure ⟨rfl,l,(l+r) / 2,rfl,by lia,by lia,by lia,hlo,fun i h1 h2=>KeyOrd.klt_of_klt_of_kle q (hs' _ _ (by lia) (by lia) (by lia))⟩
    |false=>exact wpS_pure ⟨rfl,(l+r) / 2+1,r,rfl,by lia,by assumption,by lia,fun i h1=>KeyOrd.kle_trans (hs' (lo+i) (lo+(l+r) / 2) (by lia) (by lia) (by lia)) q,hhi⟩
  case ipost =>
   intro c st'' hI';refine bL fun _ bk=>?_;obtain⟨rfl,l,r,rfl,hlk,hlo,hhi⟩:=hI';refine bk ?_;clear bk;show wpS _ _ _ _ (do moveDown' (lo+k) (lo+l);pure (ForInStep.yield (none,()))) _ _;rw[moveDown'_eq];have sz:=hB'.size;have hks:lo+k<(arrOf st'').size:=by lia
   refine wpS_bind (wpS_modify (wpS_pure ⟨rfl,hB'.arr (Array.perm_iff_toList_perm.mp (bubble_perm _ _ _)),hp,?_,?_⟩))
   ·rw[show min (k+1) n=k+1 by lia];intro i j h0 hij hj;show O.kle (kA key (bubble (arrOf st'') (lo+k) (lo+k-(lo+l))) i) (kA key (bubble (arrOf st'') (lo+k) (lo+k-(lo+l))) j);have hhi':∀i,lo+l<=i->i<lo+k->O.klt (kA key (arrOf st'') (lo+k)) (kA key (arrOf st'') i):=fun i a b=>by
     have:=hhi (i-lo) (by lia) (by lia)
     rwa [show lo+(i-lo)=i by lia]at this
    have hlo':∀i,lo<=i->i<lo+l->O.kle (kA key (arrOf st'') i) (kA key (arrOf st'') (lo+k)):=fun i a b=>by
     have:=hlo (i-lo) (by lia)
     rwa [show lo+(i-lo)=i by lia]at this
    rw[lT hks (by lia),lT hks (by lia),show lo+k-(lo+k-(lo+l))=lo+l by lia]
    repeat' split
    all_goals first
     |(exfalso;lia)
     |exact KeyOrd.kle_refl _
     |exact hlo' _ (by assumption) (by lia)
     |exact KeyOrd.kle_of_klt (hhi' _ (by lia) (by lia))
     |exact hs' _ _ (by lia) (by lia) (by lia)
   ·refine ho.trans (lo':=lo) (hi':=lo+n) (fun i hi=>?_) (Nat.le_refl _) (Nat.le_refl _);show(bubble (arrOf st'') (lo+k) (lo+k-(lo+l)))[i]?=_;rw[getElem?_bubble hks _ (by lia),if_neg (by lia),if_neg (by lia)]
def yB:Bool->Keyed->Array Keyed->Nat->Nat->Nat->SM (Option Nat):=sortPriv% PySem.Builtin.gallop
def Ahd(key:Keyed->O.α) (left:Bool) (y:Keyed) (x:Keyed):Bool:=if left then O.blt (key x) (key y)else !O.blt (key y) (key x)
theorem sj{left:Bool}{y:Keyed}{arr:Array Keyed}{k:Nat}{st:SortSt}{Q:Option Bool->SortSt->Prop}(hA:fV prog w A s κ key a0) (hk:kindOf st=κ) (hy:y∈a0) (hx:gA arr k∈a0) (hz:k<arr.size) (h:Q (some (Ahd key left y (gA arr k))) st) :
  wpS (model prog w) A E s (do let x <-elem' arr k;if left=true then lt' x y else do let r <-lt' y x;pure (Option.map (fun x=>!x) r)) Q st:=by
 refine wpS_bind (bf hz ?_);unfold Ahd at h;cases left with
 |true=>exact vA hA hk hx hy h
 |false=>exact wpS_bind (vA hA hk hy hx (wpS_pure h))
theorem dW{left:Bool}{y:Keyed}{arr:Array Keyed}{base n hint:Nat}{st:SortSt}{Q:Option Nat->SortSt->Prop}(hA:fV prog w A s κ key a0) (hk:kindOf st=κ) (hy:y∈a0) (hin:∀i,i<n->gA arr (base+i)∈a0) (hz:base+n<=arr.size) (hh:hint<n)
  (mono:∀i j,i<=j->j<n->Ahd key left y (gA arr (base+j))=true->Ahd key left y (gA arr (base+i))=true)
  (h:∀k,k<=n->(∀i,i<k->Ahd key left y (gA arr (base+i))=true)->(∀i,k<=i->i<n->Ahd key left y (gA arr (base+i))=false)->Q (some k) st):wpS (model prog w) A E s (yB left y arr base n hint) Q st:=by
 have nm:∀i j,i<=j->j<n->Ahd key left y (gA arr (base+i))=false->Ahd key left y (gA arr (base+j))=false:=fun i j hij hj e=>by
  cases q:Ahd key left y (gA arr (base+j))with
  |false=>rfl
  |true=>rw[mono i j hij hj q]at e;cases e
 have last:∀{f:Option (Option Nat)×Nat×Nat->SM (Option Nat)} {lo hi:Nat},(∀lo hi,f (none,lo,hi)=pure (some hi))->lo<=hi->hi<=n->(∀i,i<lo->Ahd key left y (gA arr (base+i))=true)->(∀i,hi<=i->i<n->Ahd key left y (gA arr (base+i))=false) ->
   wpS (model prog w) A E s (do
    let r <-forIn [:n] ((none,lo,hi):Option (Option Nat)×Nat×Nat) fun _ r=>if r.2.1>=r.2.2 then pure (ForInStep.done (none,r.2.1,r.2.2))else do
     let x <-(do let x <-elem' arr (base+(r.2.1+(r.2.2-r.2.1) / 2));if left=true then lt' x y else do let r <-lt' y x;pure (Option.map (fun x=>!x) r))
     match x with
     |some more=>if more=true then pure (ForInStep.yield (none,r.2.1+(r.2.2-r.2.1) / 2+1,r.2.2))else pure (ForInStep.yield (none,r.2.1,r.2.1+(r.2.2-r.2.1) / 2))
     |x=>pure (ForInStep.done (some none,r.2.1,r.2.2))
    f r) Q st:=by
  intro f lo hi hf h1 h2 h3 h4;refine wpS_bind (wpS_mono (wpS_forRange (I:=fun x c st'=>st'=st/\∃lo hi,c=(none,lo,hi)/\lo<=hi/\hi<=n/\hi-lo<=n-x/\(∀i,i<lo->Ahd key left y (gA arr (base+i))=true)/\(∀i,hi<=i->i<n->Ahd key left y (gA arr (base+i))=false))
   (Q:=fun c st'=>st'=st/\∃lo hi,c=(none,lo,hi)/\lo=hi/\hi<=n/\(∀i,i<lo->Ahd key left y (gA arr (base+i))=true)/\(∀i,hi<=i->i<n->Ahd key left y (gA arr (base+i))=false)) ?_ ?_ ⟨rfl,lo,hi,rfl,h1,h2,by lia,h3,h4⟩) ?_)
  ·intro x c st' _ hx hI';refine bL fun _ bk=>?_;obtain⟨rfl,lo,hi,rfl,g1,g2,g3,g4,g5⟩:=hI';refine bk ?_;clear bk;dsimp only
   by_cases hge:lo>=hi
   ·rw[if_pos hge];exact wpS_pure ⟨rfl,lo,hi,rfl,by lia,g2,g4,g5⟩
   ·rw[if_neg hge];refine wpS_bind (sj hA hk hy (hin _ (by lia)) (by lia) ?_);dsimp only;cases q:Ahd key left y (gA arr (base+(lo+(hi-lo) / 2)))with
    |true=>exact wpS_pure ⟨rfl,_,_,rfl,by lia,g2,by lia,fun i hi'=>mono i _ (by lia) (by lia) q,g5⟩
    |false=>exact wpS_pure ⟨rfl,_,_,rfl,by lia,by lia,by lia,g4,fun i a b=>nm _ i a b q⟩
  ·intro c st' hI';refine bL fun _ bk=>?_;obtain⟨rfl,lo,hi,rfl,g1,g2,g3,g4,g5⟩:=hI';refine bk ?_;clear bk;exact⟨rfl,lo,hi,rfl,by lia,g2,g4,g5⟩
  ·intro c st' hI';refine bL fun _ bk=>?_;obtain⟨rfl,lo,hi,rfl,rfl,g2,g4,g5⟩:=hI';refine bk ?_;clear bk;rw[hf];exact wpS_pure (h _ g2 g4 g5)
 show wpS _ _ _ _ (Bind.bind _ _) _ _;refine wpS_bind (sj hA hk hy (hin _ hh) (by lia) ?_);dsimp only;cases q:Ahd key left y (gA arr (base+hint))with
 |true =>
  simp only[if_true];refine wpS_bind (wpS_mono (wpS_forRange (I:=fun x c st'=>st'=st/\∃l o,c=(none,l,o)/\x+1<=o/\l<o/\l<n-hint/\Ahd key left y (gA arr (base+(hint+l)))=true)
   (Q:=fun c st'=>st'=st/\∃l o,c=(none,l,o)/\l<o/\l<n-hint/\Ahd key left y (gA arr (base+(hint+l)))=true/\(n-hint<=o∨o<n-hint/\Ahd key left y (gA arr (base+(hint+o)))=false)) ?_ ?_ ⟨rfl,0,1,rfl,by decide,by decide,by lia,q⟩) ?_)
  ·intro x c st' _ hx hI';refine bL fun _ bk=>?_;obtain⟨rfl,l,o,rfl,g1,g2,g3,g4⟩:=hI';refine bk ?_;clear bk;dsimp only
   by_cases hge:o>=n-hint
   ·rw[if_pos hge];exact wpS_pure ⟨rfl,l,o,rfl,g2,g3,g4,.inl hge⟩
   ·rw[if_neg hge];refine wpS_bind (sj hA hk hy (hin _ (by lia)) (by lia) ?_);dsimp only;cases q:Ahd key left y (gA arr (base+(hint+o)))with
    |true=>exact wpS_pure ⟨rfl,_,_,rfl,by lia,by lia,by lia,q⟩
    |false=>exact wpS_pure ⟨rfl,_,_,rfl,g2,g3,g4,.inr ⟨by lia,q⟩⟩
  ·intro c st' hI';refine bL fun _ bk=>?_;obtain⟨rfl,l,o,rfl,g1,g2,g3,g4⟩:=hI';refine bk ?_;clear bk;exact⟨rfl,l,o,rfl,g2,g3,g4,.inl (by lia)⟩
  ·intro c st' hI';refine bL fun _ bk=>?_;obtain⟨rfl,l,o,rfl,g2,g3,g4,g5⟩:=hI';refine bk ?_;clear bk;dsimp only;refine last (fun _ _=>rfl) (by lia) (by lia) (fun i hi=>mono i (hint+l) (by lia) (by lia) g4) fun i a b=>?_;rcases g5 with g5|⟨g5,g6⟩
   ·lia
   ·exact nm _ i (by lia) b g6
 |false =>
  simp only[Bool.false_eq_true,if_false];refine wpS_bind (wpS_mono (wpS_forRange (I:=fun x c st'=>st'=st/\∃l o,c=(none,l,o)/\x+1<=o/\l<o/\l<hint+1/\Ahd key left y (gA arr (base+(hint-l)))=false)
   (Q:=fun c st'=>st'=st/\∃l o,c=(none,l,o)/\l<o/\l<hint+1/\Ahd key left y (gA arr (base+(hint-l)))=false/\(hint+1<=o∨o<hint+1/\Ahd key left y (gA arr (base+(hint-o)))=true)) ?_ ?_ ⟨rfl,0,1,rfl,by decide,by decide,by lia,q⟩) ?_)
  ·intro x c st' _ hx hI';refine bL fun _ bk=>?_;obtain⟨rfl,l,o,rfl,g1,g2,g3,g4⟩:=hI';refine bk ?_;clear bk;dsimp only
   by_cases hge:o>=hint+1
   ·rw[if_pos hge];exact wpS_pure ⟨rfl,l,o,rfl,g2,g3,g4,.inl hge⟩
   ·rw[if_neg hge];refine wpS_bind (sj hA hk hy (hin _ (by lia)) (by lia) ?_);dsimp only;cases q:Ahd key left y (gA arr (base+(hint-o)))with
    |false=>exact wpS_pure ⟨rfl,_,_,rfl,by lia,by lia,by lia,q⟩
    |true=>exact wpS_pure ⟨rfl,_,_,rfl,g2,g3,g4,.inr ⟨by lia,q⟩⟩
  ·intro c st' hI';refine bL fun _ bk=>?_;obtain⟨rfl,l,o,rfl,g1,g2,g3,g4⟩:=hI';refine bk ?_;clear bk;exact⟨rfl,l,o,rfl,g2,g3,g4,.inl (by lia)⟩
  ·intro c st' hI';refine bL fun _ bk=>?_;obtain⟨rfl,l,o,rfl,g2,g3,g4,g5⟩:=hI';refine bk ?_;clear bk;dsimp only;refine last (fun _ _=>rfl) (by lia) (by lia) (fun i hi=>?_) fun i a b=>nm (hint-l) i (by assumption) b g4;rcases g5 with g5|⟨g5,g6⟩
   ·lia
   ·exact mono i _ (by lia) (by lia) g6
end
structure MS(R:Keyed->Keyed->Prop) (tot out ra rb:List Keyed):Prop where
 perm:(out++(ra++rb)).Perm tot
 so:out.Pairwise R
 la:∀z∈out,∀x∈ra,R z x
 lb:∀z∈out,∀x∈rb,R z x
 sa:ra.Pairwise R
 sb:rb.Pairwise R
theorem MS.swap{R:Keyed->Keyed->Prop}{tot out ra rb:List Keyed}(h:MS R tot out ra rb):MS R tot out rb ra :=
 ⟨(List.Perm.append_left _ List.perm_append_comm).trans h.perm,h.so,h.lb,h.la,h.sb,h.sa⟩
theorem MS.take{R:Keyed->Keyed->Prop}{tot out c ra rb:List Keyed}(h:MS R tot out (c++ra) rb) (k:∀x∈c,∀y∈rb,R x y):MS R tot (out++c) ra rb:=by
 have sa:=List.pairwise_append.mp h.sa;refine⟨by simpa using h.perm,List.pairwise_append.mpr ⟨h.so,sa.1,fun z hz x hx=>h.la z hz x (by simp[hx])⟩,fun z hz x hx=>?_,fun z hz y hy=>?_,sa.2.1,h.sb⟩
 ·rcases List.mem_append.mp hz with hz|hz
  ·exact h.la z hz x (by simp[hx])
  ·exact sa.2.2 z hz x hx
 ·rcases List.mem_append.mp hz with hz|hz
  ·exact h.lb z hz y hy
  ·exact k z hz y hy
def Fn(R:Keyed->Keyed->Prop) (tot r:List Keyed):Prop:=r.Perm tot/\r.Pairwise R
theorem MS.fin{R:Keyed->Keyed->Prop}{tot out ra rb:List Keyed}(h:MS R tot out ra rb) (k:∀x∈ra,∀y∈rb,R x y):Fn R tot (out++ra++rb):=by
 refine⟨by simpa using h.perm,List.pairwise_append.mpr ⟨List.pairwise_append.mpr ⟨h.so,h.sa,h.la⟩,h.sb,fun z hz y hy=>?_⟩⟩;rcases List.mem_append.mp hz with hz|hz
 ·exact h.lb z hz y hy
 ·exact k z hz y hy
theorem bW{a:Array Keyed}{i:Nat}(h:i<a.size):a.toList[i]?=some (gA a i):=by rw[Array.getElem?_toList,vJ h]
theorem xS{a:Array Keyed}{i:Nat}(h:i<a.size):a.toList.drop i=gA a i::a.toList.drop (i+1):=by
 have h':i<a.toList.length:=by simpa using h
 rw[List.drop_eq_getElem_cons h'];have:=bW h;rw[List.getElem?_eq_getElem h']at this;rw[Option.some.inj this]
theorem cW{a:Array Keyed}{i:Nat}{x:Keyed}(h:x∈a.toList.drop i):∃j,i<=j/\j<a.size/\x=gA a j:=by
 obtain⟨j,e⟩:=List.mem_iff_getElem?.mp h;have hj:=(List.getElem?_eq_some_iff.mp e).1;rw[List.getElem?_drop]at e;have lt:i+j<a.size:=by simpa using(List.getElem?_eq_some_iff.mp e).1
 rw[bW lt]at e;exact⟨i+j,by lia,lt,(Option.some.inj e).symm⟩
theorem fi{a:Array Keyed}{i k:Nat}(h:i+k<=a.size):a.toList.drop i=(a.extract i (i+k)).toList++a.toList.drop (i+k):=by
 rw[Array.toList_extract,List.extract_eq_take_drop,show i+k-i=k by lia,<-List.drop_drop,List.take_append_drop]
theorem dZ{a:Array Keyed}{i j:Nat}{x:Keyed}(hj:j<=a.size) (h:x∈(a.extract i j).toList):∃k,i<=k/\k<j/\x=gA a k:=by
 rw[Array.toList_extract,List.extract_eq_take_drop]at h;obtain⟨k,e⟩:=List.mem_iff_getElem?.mp h;have hk:=(List.getElem?_eq_some_iff.mp e).1;rw[List.length_take,List.length_drop]at hk;rw[List.getElem?_take_of_lt (by lia),List.getElem?_drop]at e;rw[bW (by lia)]at e;exact⟨i+k,by lia,by lia,(Option.some.inj e).symm⟩
section
variable{prog:Program}{w:World}{A:Around}{E:Value->Shared->Prop}{s:Shared}{O:KeyOrd}{key:Keyed->O.α}{a0:List Keyed}{κ:SortKind}
def kl(key:Keyed->O.α) (x y:Keyed):Prop:=O.kle (key x) (key y)
def ML(key:Keyed->O.α) (a b out:Array Keyed) (ia ib:Nat):Prop:=MS (kl key) (a.toList++b.toList) out.toList (a.toList.drop ia) (b.toList.drop ib)
abbrev FL(key:Keyed->O.α) (a b r:Array Keyed):Prop:=Fn (kl key) (a.toList++b.toList) r.toList
variable{a b out:Array Keyed}{ia ib k:Nat}
theorem ML.ua(h:ML key a b out ia ib) {i j:Nat}(h1:ia<=i) (h2:i<=j) (h3:j<a.size):kl key (gA a i) (gA a j):=by
 rcases Nat.lt_or_ge i j with lt|ge
 ·have:=List.pairwise_iff_getElem.mp h.sa (i-ia) (j-ia) (by simp;lia) (by simp;lia) (by lia);rw[List.getElem_drop,List.getElem_drop]at this;have e1:=bW (a:=a) (i:=i) (by lia);have e2:=bW (a:=a) (i:=j) h3;rw[List.getElem?_eq_getElem (by simp;lia)]at e1 e2;rw[<-Option.some.inj e1,<-Option.some.inj e2];simpa[show ia+(i-ia)=i by lia,show ia+(j-ia)=j by lia]using this
 ·obtain rfl:i=j:=by lia
  exact KeyOrd.kle_refl _
theorem ML.ub(h:ML key a b out ia ib) {i j:Nat}(h1:ib<=i) (h2:i<=j) (h3:j<b.size):kl key (gA b i) (gA b j):=by
 rcases Nat.lt_or_ge i j with lt|ge
 ·have:=List.pairwise_iff_getElem.mp h.sb (i-ib) (j-ib) (by simp;lia) (by simp;lia) (by lia);rw[List.getElem_drop,List.getElem_drop]at this;have e1:=bW (a:=b) (i:=i) (by lia);have e2:=bW (a:=b) (i:=j) h3;rw[List.getElem?_eq_getElem (by simp;lia)]at e1 e2;rw[<-Option.some.inj e1,<-Option.some.inj e2];simpa[show ib+(i-ib)=i by lia,show ib+(j-ib)=j by lia]using this
 ·obtain rfl:i=j:=by lia
  exact KeyOrd.kle_refl _
theorem ML.chA(h:ML key a b out ia ib) (hk:ia+k<=a.size) (q:ib<b.size->∀i,ia<=i->i<ia+k->kl key (gA a i) (gA b ib)):ML key a b (out++a.extract ia (ia+k)) (ia+k) ib:=by
 have h':=h;unfold ML at h' ⊢;rw[fi hk]at h';rw[Array.toList_append];refine h'.take fun x hx y hy=>?_;obtain⟨i,i1,i2,rfl⟩:=dZ hk hx;obtain⟨j,j1,j2,rfl⟩:=cW hy;exact KeyOrd.kle_trans (q (by lia) i i1 i2) (h.ub (Nat.le_refl _) j1 j2)
theorem ML.chB(h:ML key a b out ia ib) (hk:ib+k<=b.size) (q:ia<a.size->∀i,ib<=i->i<ib+k->kl key (gA b i) (gA a ia)):ML key a b (out++b.extract ib (ib+k)) ia (ib+k):=by
 have h':=h.swap;unfold ML at h ⊢;rw[fi hk]at h';rw[Array.toList_append];refine(h'.take fun x hx y hy=>?_).swap;obtain⟨i,i1,i2,rfl⟩:=dZ hk hx;obtain⟨j,j1,j2,rfl⟩:=cW hy;exact KeyOrd.kle_trans (q (by lia) i i1 i2) (ML.ua h (Nat.le_refl _) j1 j2)
theorem m5{a:Array Keyed}{i:Nat}(h:i<a.size):out++a.extract i (i+1)=out.push (gA a i):=by
 apply Array.toList_inj.mp;have:=fi (a:=a) (i:=i) (k:=1) (by assumption);rw[xS h]at this;rw[Array.toList_append,Array.toList_push];congr 1;have e:(a.extract i (i+1)).toList.length=1:=by simp;lia
 obtain⟨z,q⟩:=List.length_eq_one_iff.mp e;rw[q]at this ⊢;simp at this;rw[this]
theorem ML.puA(h:ML key a b out ia ib) (hk:ia<a.size) (q:ib<b.size->kl key (gA a ia) (gA b ib)):ML key a b (out.push (gA a ia)) (ia+1) ib:=by
 rw[<-m5 hk];exact h.chA hk fun hb i h1 h2=>by obtain rfl:i=ia:=(by lia);exact q hb
theorem ML.puB(h:ML key a b out ia ib) (hk:ib<b.size) (q:ia<a.size->kl key (gA b ib) (gA a ia)):ML key a b (out.push (gA b ib)) ia (ib+1):=by
 rw[<-m5 hk];exact h.chB hk fun hb i h1 h2=>by obtain rfl:i=ib:=(by lia);exact q hb
theorem jB{a:Array Keyed}{i:Nat}:(a.extract i a.size).toList=a.toList.drop i:=by
 rw[Array.toList_extract,List.extract_eq_take_drop,List.take_of_length_le (by simp)]
theorem ML.done(h:ML key a b out ia ib) (e:ib=b.size∨ia=a.size):FL key a b (out++a.extract ia a.size++b.extract ib b.size):=by
 unfold FL;rw[Array.toList_append,Array.toList_append,jB,jB];refine h.fin fun x hx y hy=>?_;obtain⟨i,i1,i2,rfl⟩:=cW hx;obtain⟨j,j1,j2,rfl⟩:=cW hy
 lia
theorem ML.lastA(h:ML key a b out ia ib) (e:ia+1=a.size) (hl:∀j,j<b.size->kl key (gA b j) (gA a (a.size-1))):FL key a b (out++b.extract ib b.size++a.extract ia a.size):=by
 unfold FL;rw[Array.toList_append,Array.toList_append,jB,jB];refine h.swap.fin fun x hx y hy=>?_;obtain⟨i,i1,i2,rfl⟩:=cW hy;obtain⟨j,j1,j2,rfl⟩:=cW hx;obtain rfl:i=a.size-1:=by lia
 exact hl j j2
end
section
variable{prog:Program}{w:World}{A:Around}{E:Value->Shared->Prop}{s:Shared}{O:KeyOrd}{key:Keyed->O.α}{a0:List Keyed}{κ:SortKind}{a b out:Array Keyed}{ia ib k:Nat}
structure Sg(st st':SortSt):Prop where
 k:kindOf st'=kindOf st
 a:arrOf st'=arrOf st
 p:pendingOf st'=pendingOf st
 f:failedOf st'=failedOf st
theorem hJ{x y:Keyed}:Ahd key false y x=true↔kl key x y:=by simp[Ahd,kl,KeyOrd.kle]
theorem p7{x y:Keyed}:Ahd key false y x=false↔O.blt (key y) (key x)=true:=by simp[Ahd]
theorem gK{x y:Keyed}:Ahd key true y x=true↔O.klt (key x) (key y):=by simp[Ahd,KeyOrd.klt]
theorem qv{x y:Keyed}:Ahd key true y x=false↔kl key y x:=by simp[Ahd,kl,KeyOrd.kle]
def uP:Array Keyed->Array Keyed->SM (Array Keyed):=sortPriv% PySem.Builtin.mergeLo
theorem B6{st:SortSt}{Q:Array Keyed->SortSt->Prop}(hA:fV prog w A s κ key a0) (hk:kindOf st=κ) (ha:∀i,i<a.size->gA a i∈a0) (hb:∀i,i<b.size->gA b i∈a0) (za:1<=a.size) (zb:1<=b.size)
  (h0:ML key a b #[] 0 0) (hf:kl key (gA b 0) (gA a 0)) (hl:∀j,j<b.size->kl key (gA b j) (gA a (a.size-1))) (h:∀r st',Sg st st'->FL key a b r->Q r st'):wpS (model prog w) A E s (uP a b) Q st:=by
 refine wpS_bind (wpS_lift (wpAny_rule ⟨rfl,?_⟩));dsimp only;refine wpS_bind (bf (by assumption) ?_);have h1:ML key a b #[gA b 0] 0 1:=h0.puB zb fun _=>hf
 by_cases e1:1=b.size
 ·first|refine bG (by simpa using e1) ?_|rw[if_pos (by simpa using e1)]
  exact wpS_pure (h _ _ ⟨rfl,rfl,rfl,rfl⟩ (h1.done (.inl e1)))
 ·first|refine bF (by simpa using e1) ?_|rw[if_neg (by simpa using e1)]
  by_cases e2:0+1=a.size
  ·first|refine bG (by simpa using e2) ?_|rw[if_pos (by simpa using e2)]
   exact wpS_pure (h _ _ ⟨rfl,rfl,rfl,rfl⟩ (h1.lastA e2 hl))
  ·first|refine bF (by simpa using e2) ?_|rw[if_neg (by simpa using e2)]
   refine wpS_bind (wpS_get ?_);refine wpS_bind (wpS_mono (wpS_forRange (I:=fun x c st'=>Sg st st'/\∃out ia ib g,c=(none,out,ia,ib,g)/\ML key a b out ia ib/\ia+1<a.size/\ib<b.size/\x<=ia+ib)
    (Q:=fun c st'=>Sg st st'/\∃r c',c=(some r,c')/\FL key a b r) ?_ ?_ ⟨⟨rfl,rfl,rfl,rfl⟩,_,_,_,_,rfl,h1,by lia,by lia,by decide⟩) ?_)
   ·intro x c st1 _ hx hI';refine bL fun _ bk=>?_;obtain⟨sg,out,ia,ib,g,rfl,m,la,lb,pr⟩:=hI';refine bk ?_;clear bk;dsimp only;refine wpS_bind (wpS_mono (wpS_forRange (I:=fun y c st'=>Sg st st'/\∃out ia ib ac bc,c=(none,out,ia,ib,ac,bc)/\ML key a b out ia ib/\ia+1<a.size/\ib<b.size/\x+min y 1<=ia+ib)
     (Q:=fun c st'=>Sg st st'/\((∃r c',c=(some r,c')/\FL key a b r)∨∃out ia ib ac bc,c=(none,out,ia,ib,ac,bc)/\ML key a b out ia ib/\ia+1<a.size/\ib<b.size/\x+1<=ia+ib)) ?_ ?_ ⟨sg,_,_,_,_,_,rfl,m,la,lb,by assumption⟩) ?_)
    ·intro y c st2 _ hy hI';refine bL fun _ bk=>?_;obtain⟨sg,out,ia,ib,ac,bc,rfl,m,la,lb,pr⟩:=hI';refine bk ?_;clear bk;dsimp only;refine wpS_bind (bf lb (wpS_bind (bf (by exact Nat.le_of_lt (by assumption)) (wpS_bind (vA hA (sg.k.trans hk) (hb ib lb) (ha ia (by exact Nat.le_of_lt (by assumption))) ?_)))));dsimp only;cases q:O.blt (key (gA b ib)) (key (gA a ia))with
     |true =>
      simp only[if_true];have m':=m.puB lb fun _=>gZ q;refine wpS_bind (bf lb ?_)
      by_cases e:ib+1=b.size
      ·first|refine bG (by simpa using e) ?_|rw[if_pos (by simpa using e)]
       exact wpS_pure ⟨sg,.inl ⟨_,_,rfl,m'.done (.inl e)⟩⟩
      ·first|refine bF (by simpa using e) ?_|rw[if_neg (by simpa using e)]
       split
       ·exact wpS_pure ⟨sg,.inr ⟨_,_,_,_,_,rfl,m',la,by lia,by lia⟩⟩
       ·exact wpS_pure ⟨sg,_,_,_,_,_,rfl,m',la,by lia,by lia⟩
     |false =>
      simp only[Bool.false_eq_true,if_false];have m':=m.puA (by exact Nat.le_of_lt (by assumption)) fun _=>ox q;refine wpS_bind (bf (by exact Nat.le_of_lt (by assumption)) ?_)
      by_cases e:ia+1+1=a.size
      ·first|refine bG (by simpa using e) ?_|rw[if_pos (by simpa using e)]
       exact wpS_pure ⟨sg,.inl ⟨_,_,rfl,m'.lastA e hl⟩⟩
      ·first|refine bF (by simpa using e) ?_|rw[if_neg (by simpa using e)]
       split
       ·exact wpS_pure ⟨sg,.inr ⟨_,_,_,_,_,rfl,m',by lia,lb,by lia⟩⟩
       ·exact wpS_pure ⟨sg,_,_,_,_,_,rfl,m',by lia,lb,by lia⟩
    ·intro c st2 hI';refine bL fun _ bk=>?_;obtain⟨sg,out,ia,ib,ac,bc,rfl,m,la,lb,pr⟩:=hI';refine bk ?_;clear bk;exact⟨sg,.inr ⟨_,_,_,_,_,rfl,m,la,lb,by lia⟩⟩
    ·rintro c st2 ⟨sg,⟨r,c',rfl,fl⟩|⟨out,ia,ib,ac,bc,rfl,m,la,lb,pr⟩⟩
     ·exact wpS_pure ⟨sg,r,_,rfl,fl⟩
     ·dsimp only;refine wpS_bind (wpS_lift (wpAny_rule ⟨rfl,?_⟩));refine wpS_bind (wpS_mono (wpS_forRange (I:=fun y c st'=>Sg st st'/\∃out ia ib mg ac bc,c=(none,out,ia,ib,mg,ac,bc)/\ML key a b out ia ib/\ia+1<a.size/\ib<b.size/\x+1<=ia+ib)
       (Q:=fun c st'=>Sg st st'/\((∃r c',c=(some r,c')/\FL key a b r)∨∃out ia ib mg ac bc,c=(none,out,ia,ib,mg,ac,bc)/\ML key a b out ia ib/\ia+1<a.size/\ib<b.size/\x+1<=ia+ib)) ?_ ?_ ⟨sg,_,_,_,_,_,_,rfl,m,la,lb,by assumption⟩) ?_)
      ·intro y c st2 _ hy hI';refine bL fun _ bk=>?_;obtain⟨sg,out,ia,ib,mg,ac,bc,rfl,m,la,lb,pr⟩:=hI';refine bk ?_;clear bk;dsimp only
       by_cases g0:mg > 1
       all_goals first|rw[if_pos g0]|rw[if_neg g0]
       all_goals
        refine wpS_bind (wpS_modify ?_);refine wpS_bind (bf lb (wpS_bind (dW hA (sg.k.trans hk) (hb ib lb) (fun i hi=>ha _ (by lia)) (by lia) (by lia) (fun i j hij hj z=>hJ.mpr (KeyOrd.kle_trans (m.ua (by lia) (by lia) (by lia)) (hJ.mp z))) fun k hk1 hlt hge=>?_)));have up:∀i,ia+k<=i->i<a.size->kl key (gA b ib) (gA a i):=fun i i1 i2=>by
         have:=hge (i-ia) (by lia) (by lia);rw[show ia+(i-ia)=i by lia]at this;exact gZ (p7.mp this)
        dsimp only
        by_cases k0:k > 0
        all_goals first
         |
          rw[if_pos k0];have m1:=m.chA (k:=k) (by lia) fun _ i i1 i2=>by
           have:=hlt (i-ia) (by lia);rw[show ia+(i-ia)=i by lia]at this;exact hJ.mp this
          by_cases e1:ia+k+1=a.size
          ·first|refine bG (by simpa using e1) ?_|rw[if_pos (by simpa using e1)]
           exact wpS_pure ⟨⟨sg.k,sg.a,sg.p,sg.f⟩,.inl ⟨_,_,rfl,m1.lastA e1 hl⟩⟩
          first|refine bF (by simpa using e1) ?_|rw[if_neg (by simpa using e1)]
          by_cases e2:ia+k=a.size
          ·first|refine bG (by simpa using e2) ?_|rw[if_pos (by simpa using e2)]
           exact wpS_pure ⟨⟨sg.k,sg.a,sg.p,sg.f⟩,.inl ⟨_,_,rfl,m1.done (.inr e2)⟩⟩
          first|refine bF (by simpa using e2) ?_|rw[if_neg (by simpa using e2)]
          have l1:ia+k+1<a.size:=by lia
         |
          rw[if_neg k0];obtain rfl:k=0:=by lia
          have m1:=m;have l1:=la
        all_goals
         have m2:=m1.puB lb fun z=>up _ (by exact Nat.le_refl _) z;refine wpS_bind (bf lb ?_)
         by_cases e3:ib+1=b.size
         ·first|refine bG (by simpa using e3) ?_|rw[if_pos (by simpa using e3)]
          exact wpS_pure ⟨⟨sg.k,sg.a,sg.p,sg.f⟩,.inl ⟨_,_,rfl,m2.done (.inl e3)⟩⟩
         ·first|refine bF (by simpa using e3) ?_|rw[if_neg (by simpa using e3)]
          refine wpS_bind (bf (by exact Nat.le_of_lt (by assumption)) (wpS_bind (dW hA (sg.k.trans hk) (ha _ (by exact Nat.le_of_lt (by assumption))) (fun i hi=>hb _ (by lia)) (by lia) (by lia) (fun i j hij hj z=>gK.mpr (KeyOrd.klt_of_kle_of_klt (m.ub (by lia) (by lia) (by lia)) (gK.mp z))) fun k' hk1' hlt' hge'=>?_)));dsimp only
          by_cases k0':k' > 0
          all_goals first
           |
            rw[if_pos k0'];have m3:=m2.chB (k:=k') (by lia) fun _ i i1 i2=>by
             have:=hlt' (i-(ib+1)) (by lia);rw[show ib+1+(i-(ib+1))=i by lia]at this;exact KeyOrd.kle_of_klt (gK.mp this)
            by_cases e4:ib+1+k'=b.size
            ·first|refine bG (by simpa using e4) ?_|rw[if_pos (by simpa using e4)]
             exact wpS_pure ⟨⟨sg.k,sg.a,sg.p,sg.f⟩,.inl ⟨_,_,rfl,m3.done (.inl e4)⟩⟩
            first|refine bF (by simpa using e4) ?_|rw[if_neg (by simpa using e4)]
            have l3:ib+1+k'<b.size:=by lia
           |
            rw[if_neg k0'];obtain rfl:k'=0:=by lia
            have m3:=m2;have l3:ib+1<b.size:=by lia
          all_goals
           have m4:=m3.puA (by exact Nat.le_of_lt (by assumption)) fun z=>qv.mp (hge' _ (Nat.le_refl _) (by lia));refine wpS_bind (bf (by exact Nat.le_of_lt (by assumption)) ?_)
           split
           ·rename_i e5;exact wpS_pure ⟨⟨sg.k,sg.a,sg.p,sg.f⟩,.inl ⟨_,_,rfl,m4.lastA (by simpa using e5) hl⟩⟩
           ·rename_i e5;simp only[beq_iff_eq]at e5
            split
            ·exact wpS_pure ⟨⟨sg.k,sg.a,sg.p,sg.f⟩,.inr ⟨_,_,_,_,_,_,rfl,m4,by lia,l3,by lia⟩⟩
            ·exact wpS_pure ⟨⟨sg.k,sg.a,sg.p,sg.f⟩,_,_,_,_,_,_,rfl,m4,by lia,l3,by lia⟩
      ·intro c st2 hI';refine bL fun _ bk=>?_;obtain⟨sg,out,ia,ib,mg,ac,bc,rfl,m,la,lb,pr⟩:=hI';refine bk ?_;clear bk;exact⟨sg,.inr ⟨_,_,_,_,_,_,rfl,m,la,lb,by assumption⟩⟩
      ·rintro c st2 ⟨sg,⟨r,c',rfl,fl⟩|⟨out,ia,ib,mg,ac,bc,rfl,m,la,lb,pr⟩⟩
       ·exact wpS_pure ⟨sg,r,_,rfl,fl⟩
       ·dsimp only;refine wpS_bind (wpS_modify (wpS_pure ⟨⟨sg.k,sg.a,sg.p,sg.f⟩,_,_,_,_,rfl,m,la,lb,by assumption⟩))
   ·intro c st1 hI';refine bL fun _ bk=>?_;obtain⟨sg,out,ia,ib,g,rfl,m,la,lb,pr⟩:=hI';refine bk ?_;clear bk
    lia
   ·intro c st1 hI';refine bL fun _ bk=>?_;obtain⟨sg,r,c',rfl,fl⟩:=hI';refine bk ?_;clear bk;exact wpS_pure (h r _ sg fl)
end
theorem cV{a:Array Keyed}{n:Nat}{x:Keyed}(hn:n<=a.size) (h:x∈(a.toList.take n).reverse):∃j,j<n/\x=gA a j:=by
 rw[List.mem_reverse]at h;obtain⟨j,e⟩:=List.mem_iff_getElem?.mp h;have hj:=(List.getElem?_eq_some_iff.mp e).1;rw[List.length_take]at hj;rw[List.getElem?_take_of_lt (by lia),bW (by lia)]at e;exact⟨j,by lia,(Option.some.inj e).symm⟩
theorem n6{a:Array Keyed}{c n:Nat}(h:c<=n):(a.toList.take n).reverse=(a.extract c n).reverse.toList++(a.toList.take c).reverse:=by
 rw[Array.toList_reverse,Array.toList_extract,List.extract_eq_take_drop,<-List.reverse_append];congr 1;rw[<-List.take_add,show c+(n-c)=n by lia]
section
variable{prog:Program}{w:World}{A:Around}{E:Value->Shared->Prop}{s:Shared}{O:KeyOrd}{key:Keyed->O.α}{a0:List Keyed}{κ:SortKind}{a b out:Array Keyed}{na nb c:Nat}
def MH(key:Keyed->O.α) (a b out:Array Keyed) (na nb:Nat):Prop:=MS (fun x y=>kl key y x) (a.toList++b.toList) out.toList (a.toList.take na).reverse (b.toList.take nb).reverse
theorem jF{a:Array Keyed}{n i j:Nat}(hn:n<=a.size) (h:(a.toList.take n).reverse.Pairwise fun x y=>kl key y x) (hij:i<=j) (hj:j<n):kl key (gA a i) (gA a j):=by
 rcases Nat.lt_or_ge i j with lt|ge
 ·have:=List.pairwise_iff_getElem.mp (List.pairwise_reverse.mp h) i j (by simp;lia) (by simp;lia) lt;rw[List.getElem_take,List.getElem_take]at this;have e1:=bW (a:=a) (i:=i) (by lia);have e2:=bW (a:=a) (i:=j) (by exact Nat.lt_of_lt_of_le (by assumption) (by assumption));rw[List.getElem?_eq_getElem (by simp;lia)]at e1 e2;rw[<-Option.some.inj e1,<-Option.some.inj e2];exact this
 ·obtain rfl:i=j:=by lia
  exact KeyOrd.kle_refl _
theorem MH.chA(h:MH key a b out na nb) (za:na<=a.size) (zb:nb<=b.size) (hc:c<=na) (q:0<nb->∀i,c<=i->i<na->kl key (gA b (nb-1)) (gA a i)):MH key a b (out++(a.extract c na).reverse) c nb:=by
 have h':=h;unfold MH at h' ⊢;rw[n6 hc]at h';rw[Array.toList_append];refine h'.take fun x hx y hy=>?_;rw[Array.toList_reverse,List.mem_reverse]at hx;obtain⟨i,i1,i2,rfl⟩:=dZ za hx;obtain⟨j,j1,rfl⟩:=cV zb hy;exact KeyOrd.kle_trans (jF zb h.sb (i:=j) (j:=nb-1) (by lia) (by lia)) (q (by lia) i i1 i2)
theorem MH.chB(h:MH key a b out na nb) (za:na<=a.size) (zb:nb<=b.size) (hc:c<=nb) (q:0<na->∀i,c<=i->i<nb->kl key (gA a (na-1)) (gA b i)):MH key a b (out++(b.extract c nb).reverse) na c:=by
 have h':=h.swap;unfold MH at h ⊢;rw[n6 hc]at h';rw[Array.toList_append];refine(h'.take fun x hx y hy=>?_).swap;rw[Array.toList_reverse,List.mem_reverse]at hx;obtain⟨i,i1,i2,rfl⟩:=dZ zb hx;obtain⟨j,j1,rfl⟩:=cV za hy;exact KeyOrd.kle_trans (jF za h.sa (i:=j) (j:=na-1) (by lia) (by lia)) (q (by lia) i i1 i2)
theorem pf{a:Array Keyed}{n:Nat}(h1:1<=n) (h:n<=a.size):out++(a.extract (n-1) n).reverse=out.push (gA a (n-1)):=by
 have:=m5 (out:=#[]) (a:=a) (i:=n-1) (by lia);rw[show n-1+1=n by lia,Array.empty_append]at this;rw[this];simp
theorem MH.puA(h:MH key a b out na nb) (h1:1<=na) (za:na<=a.size) (zb:nb<=b.size) (q:0<nb->kl key (gA b (nb-1)) (gA a (na-1))):MH key a b (out.push (gA a (na-1))) (na-1) nb:=by
 rw[<-pf h1 za];exact h.chA za zb (by lia) fun hb i i1 i2=>by obtain rfl:i=na-1:=(by lia);exact q hb
theorem MH.puB(h:MH key a b out na nb) (h1:1<=nb) (za:na<=a.size) (zb:nb<=b.size) (q:0<na->kl key (gA a (na-1)) (gA b (nb-1))):MH key a b (out.push (gA b (nb-1))) na (nb-1):=by
 rw[<-pf h1 zb];exact h.chB za zb (by lia) fun hb i i1 i2=>by obtain rfl:i=nb-1:=(by lia);exact q hb
theorem se{a:Array Keyed}{n:Nat}:(a.extract 0 n).toList=a.toList.take n:=by
 rw[Array.toList_extract,List.extract_eq_take_drop,List.drop_zero,Nat.sub_zero]
theorem wC{tot r:List Keyed}(h:Fn (fun x y=>kl key y x) tot r):Fn (kl key) tot r.reverse:=⟨(List.reverse_perm r).trans h.1,List.pairwise_reverse.mpr h.2⟩
theorem MH.done(h:MH key a b out na nb) (za:na<=a.size) (zb:nb<=b.size) (e:na=0∨nb=0):FL key a b (a.extract 0 na++b.extract 0 nb++out.reverse):=by
 have:=wC (h.swap.fin fun y hy x hx=>by
  obtain⟨j,j1,rfl⟩:=cV zb hy;obtain⟨i,i1,rfl⟩:=cV za hx
  lia)
 unfold FL;rw[Array.toList_append,Array.toList_append,se,se,Array.toList_reverse];simpa using this
theorem MH.firstB(h:MH key a b out na nb) (za:na<=a.size) (zb:nb<=b.size) (e:nb=1) (hf:∀i,i<a.size->kl key (gA b 0) (gA a i)):FL key a b (b.extract 0 nb++a.extract 0 na++out.reverse):=by
 have:=wC (h.fin fun x hx y hy=>by
  obtain⟨j,j1,rfl⟩:=cV zb hy;obtain⟨i,i1,rfl⟩:=cV za hx;obtain rfl:j=0:=by lia
  exact hf i (by exact Nat.lt_of_lt_of_le (by assumption) (by assumption)))
 unfold FL;rw[Array.toList_append,Array.toList_append,se,se,Array.toList_reverse];simpa using this
def uE:Array Keyed->Array Keyed->SM (Array Keyed):=sortPriv% PySem.Builtin.mergeHi
theorem CG{st:SortSt}{Q:Array Keyed->SortSt->Prop}(hA:fV prog w A s κ key a0) (hk:kindOf st=κ) (ha:∀i,i<a.size->gA a i∈a0) (hb:∀i,i<b.size->gA b i∈a0) (za:1<=a.size) (zb:1<=b.size)
  (h0:MH key a b #[] a.size b.size) (hf:∀i,i<a.size->kl key (gA b 0) (gA a i)) (hl:kl key (gA b (b.size-1)) (gA a (a.size-1))) (h:∀r st',Sg st st'->FL key a b r->Q r st'):wpS (model prog w) A E s (uE a b) Q st:=by
 refine wpS_bind (wpS_lift (wpAny_rule ⟨rfl,?_⟩));dsimp only;refine wpS_bind (bf (by lia) ?_);have h1:MH key a b #[gA a (a.size-1)] (a.size-1) b.size:=h0.puA za (Nat.le_refl _) (Nat.le_refl _) fun _=>hl
 by_cases e1:a.size-1=0
 ·first|refine bG (by simpa using e1) ?_|rw[if_pos (by simpa using e1)]
  exact wpS_pure (h _ _ ⟨rfl,rfl,rfl,rfl⟩ (h1.done (by lia) (by exact Nat.le_refl _) (.inl e1)))
 ·first|refine bF (by simpa using e1) ?_|rw[if_neg (by simpa using e1)]
  by_cases e2:b.size=1
  ·first|refine bG (by simpa using e2) ?_|rw[if_pos (by simpa using e2)]
   exact wpS_pure (h _ _ ⟨rfl,rfl,rfl,rfl⟩ (h1.firstB (by lia) (by exact Nat.le_refl _) e2 hf))
  ·first|refine bF (by simpa using e2) ?_|rw[if_neg (by simpa using e2)]
   refine wpS_bind (wpS_get ?_);refine wpS_bind (wpS_mono (wpS_forRange (I:=fun x c st'=>Sg st st'/\∃out na nb g,c=(none,na,nb,out,g)/\MH key a b out na nb/\1<=na/\na<=a.size/\1<nb/\nb<=b.size/\x+na+nb<=a.size+b.size)
    (Q:=fun c st'=>Sg st st'/\∃r c',c=(some r,c')/\FL key a b r) ?_ ?_ ⟨⟨rfl,rfl,rfl,rfl⟩,_,_,_,_,rfl,h1,by lia,by lia,by lia,by exact Nat.le_refl _,by lia⟩) ?_)
   ·intro x c st1 _ hx hI';refine bL fun _ bk=>?_;obtain⟨sg,out,na,nb,g,rfl,m,la,ua,lb,ub,pr⟩:=hI';refine bk ?_;clear bk;dsimp only;refine wpS_bind (wpS_mono (wpS_forRange (I:=fun y c st'=>Sg st st'/\∃out na nb ac bc,c=(none,na,nb,out,ac,bc)/\MH key a b out na nb/\1<=na/\na<=a.size/\1<nb/\nb<=b.size/\x+min y 1+na+nb<=a.size+b.size)
     (Q:=fun c st'=>Sg st st'/\((∃r c',c=(some r,c')/\FL key a b r)∨∃out na nb ac bc,c=(none,na,nb,out,ac,bc)/\MH key a b out na nb/\1<=na/\na<=a.size/\1<nb/\nb<=b.size/\x+1+na+nb<=a.size+b.size)) ?_ ?_ ⟨sg,_,_,_,_,_,rfl,m,la,ua,lb,ub,by assumption⟩) ?_)
    ·intro y c st2 _ hy hI';refine bL fun _ bk=>?_;obtain⟨sg,out,na,nb,ac,bc,rfl,m,la,ua,lb,ub,pr⟩:=hI';refine bk ?_;clear bk;dsimp only;refine wpS_bind (bf (by lia) (wpS_bind (bf (by lia) (wpS_bind (vA hA (sg.k.trans hk) (hb _ (by lia)) (ha _ (by lia)) ?_)))));dsimp only;cases q:O.blt (key (gA b (nb-1))) (key (gA a (na-1)))with
     |true =>
      simp only[if_true];have m':=m.puA la ua ub fun _=>gZ q;refine wpS_bind (bf (by lia) ?_)
      by_cases e:na-1=0
      ·first|refine bG (by simpa using e) ?_|rw[if_pos (by simpa using e)]
       exact wpS_pure ⟨sg,.inl ⟨_,_,rfl,m'.done (by lia) ub (.inl e)⟩⟩
      ·first|refine bF (by simpa using e) ?_|rw[if_neg (by simpa using e)]
       split
       ·exact wpS_pure ⟨sg,.inr ⟨_,_,_,_,_,rfl,m',by lia,by lia,lb,ub,by lia⟩⟩
       ·exact wpS_pure ⟨sg,_,_,_,_,_,rfl,m',by lia,by lia,lb,ub,by lia⟩
     |false =>
      simp only[Bool.false_eq_true,if_false];have m':=m.puB (by exact Nat.le_of_lt (by assumption)) ua ub fun _=>ox q;refine wpS_bind (bf (by lia) ?_)
      by_cases e:nb-1=1
      ·first|refine bG (by simpa using e) ?_|rw[if_pos (by simpa using e)]
       exact wpS_pure ⟨sg,.inl ⟨_,_,rfl,m'.firstB ua (by lia) e hf⟩⟩
      ·first|refine bF (by simpa using e) ?_|rw[if_neg (by simpa using e)]
       split
       ·exact wpS_pure ⟨sg,.inr ⟨_,_,_,_,_,rfl,m',la,ua,by lia,by lia,by lia⟩⟩
       ·exact wpS_pure ⟨sg,_,_,_,_,_,rfl,m',la,ua,by lia,by lia,by lia⟩
    ·intro c st2 hI';refine bL fun _ bk=>?_;obtain⟨sg,out,na,nb,ac,bc,rfl,m,la,ua,lb,ub,pr⟩:=hI';refine bk ?_;clear bk;exact⟨sg,.inr ⟨_,_,_,_,_,rfl,m,la,ua,lb,ub,by lia⟩⟩
    ·rintro c st2 ⟨sg,⟨r,c',rfl,fl⟩|⟨out,na,nb,ac,bc,rfl,m,la,ua,lb,ub,pr⟩⟩
     ·exact wpS_pure ⟨sg,r,_,rfl,fl⟩
     ·dsimp only;refine wpS_bind (wpS_lift (wpAny_rule ⟨rfl,?_⟩));refine wpS_bind (wpS_mono (wpS_forRange (I:=fun y c st'=>Sg st st'/\∃out na nb mg ac bc,c=(none,na,nb,out,mg,ac,bc)/\MH key a b out na nb/\1<=na/\na<=a.size/\1<nb/\nb<=b.size/\x+1+na+nb<=a.size+b.size)
       (Q:=fun c st'=>Sg st st'/\((∃r c',c=(some r,c')/\FL key a b r)∨∃out na nb mg ac bc,c=(none,na,nb,out,mg,ac,bc)/\MH key a b out na nb/\1<=na/\na<=a.size/\1<nb/\nb<=b.size/\x+1+na+nb<=a.size+b.size)) ?_ ?_ ⟨sg,_,_,_,_,_,_,rfl,m,la,ua,lb,ub,by assumption⟩) ?_)
      ·intro y c st2 _ hy hI';refine bL fun _ bk=>?_;obtain⟨sg,out,na,nb,mg,ac,bc,rfl,m,la,ua,lb,ub,pr⟩:=hI';refine bk ?_;clear bk;dsimp only
       by_cases g0:mg > 1
       all_goals first|rw[if_pos g0]|rw[if_neg g0]
       all_goals
        refine wpS_bind (wpS_modify ?_);refine wpS_bind (bf (by lia) (wpS_bind (dW hA (sg.k.trans hk) (hb _ (by lia)) (fun i hi=>ha _ (by lia)) (by lia) (by lia) (fun i j hij hj z=>hJ.mpr (KeyOrd.kle_trans (jF ua m.sa (by lia) (by lia)) (hJ.mp z))) fun c hc hlt hge=>?_)));simp only[Nat.zero_add]at hlt hge;dsimp only
        by_cases k0:na-c > 0
        all_goals first
         |
          rw[if_pos k0];have m1:=m.chA ua ub (c:=c) (by assumption) fun _ i i1 i2=>gZ (p7.mp (hge i i1 i2))
          by_cases e1:c=0
          ·first|refine bG (by simpa using e1) ?_|rw[if_pos (by simpa using e1)]
           exact wpS_pure ⟨⟨sg.k,sg.a,sg.p,sg.f⟩,.inl ⟨_,_,rfl,m1.done (by exact Nat.le_trans (by assumption) (by assumption)) ub (.inl e1)⟩⟩
          first|refine bF (by simpa using e1) ?_|rw[if_neg (by simpa using e1)]
          have l1:1<=c:=by lia
          have u1:c<=a.size:=by exact Nat.le_trans (by assumption) (by assumption)
         |
          rw[if_neg k0];obtain rfl:c=na:=by lia
          have m1:=m;have l1:=la;have u1:=ua
        all_goals
         have m2:=m1.puB (by exact Nat.le_of_lt (by assumption)) u1 ub fun z=>hJ.mp (hlt _ (by lia));refine wpS_bind (bf (by lia) ?_)
         by_cases e3:nb-1=1
         ·first|refine bG (by simpa using e3) ?_|rw[if_pos (by simpa using e3)]
          exact wpS_pure ⟨⟨sg.k,sg.a,sg.p,sg.f⟩,.inl ⟨_,_,rfl,m2.firstB u1 (by lia) e3 hf⟩⟩
         ·first|refine bF (by simpa using e3) ?_|rw[if_neg (by simpa using e3)]
          refine wpS_bind (bf (by lia) (wpS_bind (dW hA (sg.k.trans hk) (ha _ (by lia)) (fun i hi=>hb _ (by lia)) (by lia) (by lia) (fun i j hij hj z=>gK.mpr (KeyOrd.klt_of_kle_of_klt (jF ub m.sb (by lia) (by lia)) (gK.mp z))) fun c' hc' hlt' hge'=>?_)));simp only[Nat.zero_add]at hlt' hge';dsimp only
          by_cases k0':nb-1-c' > 0
          all_goals first
           |
            rw[if_pos k0'];have m3:=m2.chB u1 (by lia) (c:=c') (by assumption) fun _ i i1 i2=>qv.mp (hge' i i1 i2)
            by_cases e4:c'=1
            ·first|refine bG (by simpa using e4) ?_|rw[if_pos (by simpa using e4)]
             exact wpS_pure ⟨⟨sg.k,sg.a,sg.p,sg.f⟩,.inl ⟨_,_,rfl,m3.firstB u1 (by lia) e4 hf⟩⟩
            first|refine bF (by simpa using e4) ?_|rw[if_neg (by simpa using e4)]
            by_cases e5:c'=0
            ·first|refine bG (by simpa using e5) ?_|rw[if_pos (by simpa using e5)]
             exact wpS_pure ⟨⟨sg.k,sg.a,sg.p,sg.f⟩,.inl ⟨_,_,rfl,m3.done u1 (by lia) (.inr e5)⟩⟩
            first|refine bF (by simpa using e5) ?_|rw[if_neg (by simpa using e5)]
            have l3:1<c':=by lia
            have u3:c'<=b.size:=by lia
           |
            rw[if_neg k0'];obtain rfl:c'=nb-1:=by lia
            have m3:=m2;have l3:1<nb-1:=by lia
            have u3:nb-1<=b.size:=by lia
          all_goals
           have m4:=m3.puA l1 u1 u3 fun z=>KeyOrd.kle_of_klt (gK.mp (hlt' _ (by lia)));refine wpS_bind (bf (by lia) ?_)
           split
           ·rename_i e5;exact wpS_pure ⟨⟨sg.k,sg.a,sg.p,sg.f⟩,.inl ⟨_,_,rfl,m4.done (by lia) u3 (.inl (by simpa using e5))⟩⟩
           ·rename_i e5;simp only[beq_iff_eq]at e5
            split
            ·exact wpS_pure ⟨⟨sg.k,sg.a,sg.p,sg.f⟩,.inr ⟨_,_,_,_,_,_,rfl,m4,by lia,by lia,l3,u3,by lia⟩⟩
            ·exact wpS_pure ⟨⟨sg.k,sg.a,sg.p,sg.f⟩,_,_,_,_,_,_,rfl,m4,by lia,by lia,l3,u3,by lia⟩
      ·intro c st2 hI';refine bL fun _ bk=>?_;obtain⟨sg,out,na,nb,mg,ac,bc,rfl,m,la,ua,lb,ub,pr⟩:=hI';refine bk ?_;clear bk;exact⟨sg,.inr ⟨_,_,_,_,_,_,rfl,m,la,ua,lb,ub,by assumption⟩⟩
      ·rintro c st2 ⟨sg,⟨r,c',rfl,fl⟩|⟨out,na,nb,mg,ac,bc,rfl,m,la,ua,lb,ub,pr⟩⟩
       ·exact wpS_pure ⟨sg,r,_,rfl,fl⟩
       ·dsimp only;refine wpS_bind (wpS_modify (wpS_pure ⟨⟨sg.k,sg.a,sg.p,sg.f⟩,_,_,_,_,rfl,m,la,ua,lb,ub,by assumption⟩))
   ·intro c st1 hI';refine bL fun _ bk=>?_;obtain⟨sg,out,na,nb,g,rfl,m,la,ua,lb,ub,pr⟩:=hI';refine bk ?_;clear bk
    lia
   ·intro c st1 hI';refine bL fun _ bk=>?_;obtain⟨sg,r,c',rfl,fl⟩:=hI';refine bk ?_;clear bk;exact wpS_pure (h r _ sg fl)
end
theorem yd{M:Model}{A:Around}{E:Value->Shared->Prop}{s:Shared}{σ:Type}{v:σ}{Q:PUnit->σ->Prop}{st:σ}(h:Q ⟨⟩ v):wpS M A E s (set v:StateT σ Sem PUnit) Q st:=by
 unfold wpS;rw[StateT.run_set];exact wpAny_pure ⟨rfl,h⟩
abbrev cn(base:Nat) (l:List (Keyed×Nat)) (arr:Array Keyed):Array Keyed:=l.foldl (fun a x=>match x with|(p,j)=>a.setIfInBounds (base+j) p) arr
theorem gB{base:Nat}:∀{l:List Keyed}{n0:Nat}{arr:Array Keyed},base+n0+l.length<=arr.size->(cn base (l.zipIdx n0) arr).size=arr.size/\∀i,(cn base (l.zipIdx n0) arr)[i]?=if base+n0<=i/\i<base+n0+l.length then l[i-(base+n0)]? else arr[i]?
 |[],n0,arr,_=>⟨rfl,fun i=>by rw[if_neg (by simp)];rfl⟩
 |p::l,n0,arr,h=>by
  rw[List.length_cons]at h;obtain⟨h1,h2⟩:=gB (base:=base) (l:=l) (n0:=n0+1) (arr:=arr.setIfInBounds (base+n0) p) (by simp;lia);refine⟨by rw[List.zipIdx_cons];simpa using h1,fun i=>?_⟩;rw[List.zipIdx_cons];refine(h2 i).trans ?_;rw[List.length_cons,Array.getElem?_setIfInBounds]
  by_cases a:i=base+n0
  ·subst a;rw[if_neg (by lia),if_pos rfl,if_pos (by lia),if_pos (by lia)];simp
  ·by_cases b:base+(n0+1)<=i/\i<base+(n0+1)+l.length
   ·rw[if_pos b,if_pos (by lia)];obtain⟨m,hm⟩:∃m,i-(base+n0)=m+1:=⟨i-(base+n0)-1,by lia⟩;rw[hm,List.getElem?_cons_succ,show i-(base+(n0+1))=m by lia]
   ·rw[if_neg b,if_neg (fun z=>a z.symm),if_neg (by lia)]
theorem pJ{p:Nat}{l:List Keyed}{arr:Array Keyed}(h:p+l.length<=arr.size):(cn p l.zipIdx arr).toList=arr.toList.take p++(l++arr.toList.drop (p+l.length)):=by
 obtain⟨h1,h2⟩:=gB (base:=p) (l:=l) (n0:=0) (arr:=arr) (by assumption);have lt:(arr.toList.take p).length=p:=by rw[List.length_take,Array.length_toList];lia
 apply List.ext_getElem?;intro i;rw[Array.getElem?_toList,h2 i,Nat.add_zero,List.getElem?_append,List.getElem?_append,lt]
 by_cases a:i<p
 ·rw[if_neg (by lia),if_pos a,List.getElem?_take_of_lt a,Array.getElem?_toList]
 ·rw[if_neg a]
  by_cases b:i<p+l.length
  ·rw[if_pos (by lia),if_pos (by lia)]
  ·rw[if_neg (by lia),if_neg (by lia),List.getElem?_drop,Array.getElem?_toList];congr 1;lia
section
variable{prog:Program}{w:World}{A:Around}{E:Value->Shared->Prop}{s:Shared}{O:KeyOrd}{key:Keyed->O.α}{a0:List Keyed}{κ:SortKind}
theorem nH{arr:Array Keyed}{i j k:Nat}(h:i+k<j) (hj:j<=arr.size):gA (arr.extract i j) k=gA arr (i+k):=by
 refine pQ ?_;rw[Array.getElem?_extract,if_pos (by lia)]
theorem zq{arr:Array Keyed}{i j:Nat}(hj:j<=arr.size) (h:Up key arr i j):(arr.extract i j).toList.Pairwise (kl key):=by
 rw[List.pairwise_iff_getElem];intro x y hx hy hxy;simp only[Array.length_toList,Array.size_extract]at hx hy;have e1:=bW (a:=arr.extract i j) (i:=x) (by simp;assumption);have e2:=bW (a:=arr.extract i j) (i:=y) (by simp;assumption);rw[List.getElem?_eq_getElem (by simp;lia)]at e1 e2;rw[Option.some.inj e1,Option.some.inj e2,nH (by lia) hj,nH (by lia) hj];exact h _ _ (by lia) (by lia) (by lia)
theorem DV{st:SortSt}{i sa na pw sb nb pw2:Nat}{Q:Bool->SortSt->Prop}(hA:fV prog w A s κ key a0) (hB:SB a0 κ st) (h1:(pendingOf st)[i]?=some (sa,na,pw)) (h2:(pendingOf st)[i+1]?=some (sb,nb,pw2)) (e:sb=sa+na) (pa:1<=na) (pb:1<=nb) (hz:sb+nb<=a0.length)
  (ua:Up key (arrOf st) sa sb) (ub:Up key (arrOf st) sb (sb+nb))
  (h:∀st',SB a0 κ st'->pendingOf st'=((pendingOf st).setIfInBounds i (sa,na+nb,pw)).eraseIdxIfInBounds (i+1)->Up key (arrOf st') sa (sb+nb)->Out sa (sb+nb) (arrOf st) (arrOf st')->Q true st'):wpS (model prog w) A E s (mergeAt' i) Q st:=by
 have sz:=hB.size;show wpS _ _ _ _ (Bind.bind _ _) _ _;refine wpS_bind (wpS_get ?_);dsimp only;rw[show(sortPriv% PySem.Builtin.SortState.pending) st=pendingOf st from rfl,h1,h2];dsimp only;refine wpS_bind (yd ?_);have join:(∀i j,sa<=i->i<sb->sb<=j->j<sb+nb->O.kle (kA key (arrOf st) i) (kA key (arrOf st) j))->Up key (arrOf st) sa (sb+nb):=fun q x y h0 hxy hy=>by
  rcases Nat.lt_or_ge y sb with h3|h3
  ·exact ua x y h0 hxy h3
  ·rcases Nat.lt_or_ge x sb with h4|h4
   ·exact q x y h0 h4 h3 hy
   ·exact ub x y h4 hxy hy
 refine wpS_bind (bf (by show sb<(arrOf st).size;lia) (wpS_bind (dW hA hB.kind (hB.mem (by lia)) (fun j hj=>hB.mem (by lia)) (by show sa+na<=(arrOf st).size;lia) (by assumption) (fun x y hxy hy z=>hJ.mpr (KeyOrd.kle_trans (ua (sa+x) (sa+y) (by lia) (by lia) (by lia)) (hJ.mp z))) fun k hk hlt hge=>?_)));have lo:∀x,sa<=x->x<sa+k->kl key (gA (arrOf st) x) (gA (arrOf st) sb):=fun x x1 x2=>by
  have:=hJ.mp (hlt (x-sa) (by lia))
  rwa [show sa+(x-sa)=x by lia]at this
 have up:∀x,sa+k<=x->x<sb->kl key (gA (arrOf st) sb) (gA (arrOf st) x):=fun x x1 x2=>by
  have:=p7.mp (hge (x-sa) (by lia) (by lia));rw[show sa+(x-sa)=x by lia]at this;exact gZ this
 clear hlt hge;dsimp only
 by_cases e1:na-k=0
 ·first|refine bG (by simpa using e1) ?_|rw[if_pos (by simpa using e1)]
  exact wpS_pure (h _ ⟨hB.perm,hB.kind,hB.fail⟩ rfl (join fun x y a b c d=>KeyOrd.kle_trans (lo x a (by lia)) (ub sb y (Nat.le_refl _) c d)) Out.refl)
 ·first|refine bF (by simpa using e1) ?_|rw[if_neg (by simpa using e1)]
  have el:sa+k+(na-k)-1=sb-1:=by lia
  rw[el];refine wpS_bind (bf (by show sb-1<(arrOf st).size;lia) (wpS_bind (dW hA hB.kind (hB.mem (by lia)) (fun j hj=>hB.mem (by lia)) (by show sb+nb<=(arrOf st).size;lia) (by lia) (fun x y hxy hy z=>gK.mpr (KeyOrd.klt_of_kle_of_klt (ub (sb+x) (sb+y) (by lia) (by lia) (by lia)) (gK.mp z))) fun m hm hlt hge=>?_)));have lo2:∀x,sb<=x->x<sb+m->kl key (gA (arrOf st) x) (gA (arrOf st) (sb-1)):=fun x x1 x2=>by
   have:=gK.mp (hlt (x-sb) (by lia));rw[show sb+(x-sb)=x by lia]at this;exact KeyOrd.kle_of_klt this
  have up2:∀x,sb+m<=x->x<sb+nb->kl key (gA (arrOf st) (sb-1)) (gA (arrOf st) x):=fun x x1 x2=>by
   have:=qv.mp (hge (x-sb) (by lia) (by lia))
   rwa [show sb+(x-sb)=x by lia]at this
  clear hlt hge;dsimp only
  by_cases e2:m=0
  ·first|refine bG (by simpa using e2) ?_|rw[if_pos (by simpa using e2)]
   exact wpS_pure (h _ ⟨hB.perm,hB.kind,hB.fail⟩ rfl (join fun x y a b c d=>KeyOrd.kle_trans (ua x (sb-1) a (by lia) (by lia)) (up2 y (by lia) d)) Out.refl)
  ·first|refine bF (by simpa using e2) ?_|rw[if_neg (by simpa using e2)]
   have zx:((arrOf st).extract (sa+k) sb).size=sb-(sa+k):=by simp;lia
   have zy:((arrOf st).extract sb (sb+m)).size=m:=by simp;lia
   have px:=zq (i:=sa+k) (j:=sb) (by lia) (fun x y a b c=>ua x y (by lia) b c:Up key (arrOf st) (sa+k) sb);have py:=zq (i:=sb) (j:=sb+m) (by lia) (fun x y a b c=>ub x y a b (by lia):Up key (arrOf st) sb (sb+m));have gx:∀j,j<sb-(sa+k)->gA ((arrOf st).extract (sa+k) sb) j=gA (arrOf st) (sa+k+j):=fun j hj=>nH (by lia) (by lia);have gy:∀j,j<m->gA ((arrOf st).extract sb (sb+m)) j=gA (arrOf st) (sb+j):=fun j hj=>nH (by lia) (by lia);have mx:∀z∈((arrOf st).extract (sa+k) sb).toList,∃x,sa+k<=x/\x<sb/\z=gA (arrOf st) x:=fun z hz'=>dZ (by lia) hz';have my:∀z∈((arrOf st).extract sb (sb+m)).toList,∃x,sb<=x/\x<sb+m/\z=gA (arrOf st) x:=fun z hz'=>dZ (by lia) hz';have seg:((arrOf st).extract (sa+k) sb).toList++((arrOf st).extract sb (sb+m)).toList=((arrOf st).toList.drop (sa+k)).take (sb+m-(sa+k)):=by
    have d1:=fi (a:=arrOf st) (i:=sa+k) (k:=sb-(sa+k)) (by lia);have d2:=fi (a:=arrOf st) (i:=sb) (k:=m) (by lia);rw[show sa+k+(sb-(sa+k))=sb by lia]at d1;rw[d1,d2,<-List.append_assoc,List.take_append_of_le_length (by simp;lia),List.take_of_length_le (by simp;lia)]
   have fin:∀r st',Sg (SortSt.mk' (kindOf st) (arrOf st) (((pendingOf st).setIfInBounds i (sa,na+nb,pw)).eraseIdxIfInBounds (i+1)) (gallopOf st) (failedOf st)) st'->FL key ((arrOf st).extract (sa+k) sb) ((arrOf st).extract sb (sb+m)) r ->
     Q true (setArr st' (cn (sa+k) r.toList.zipIdx (arrOf st'))):=fun r st' sg fl=>by
    have ea:arrOf st'=arrOf st:=sg.a;have lr:r.toList.length=sb+m-(sa+k):=by
     rw[fl.1.length_eq,List.length_append,Array.length_toList,Array.length_toList,zx,zy];lia
    have pl:=pJ (p:=sa+k) (l:=r.toList) (arr:=arrOf st) (by lia);obtain⟨ps,pg⟩:=gB (base:=sa+k) (l:=r.toList) (n0:=0) (arr:=arrOf st) (by lia);have hi:∀x,sa+k<=x->x<sb+m->∃z,(cn (sa+k) r.toList.zipIdx (arrOf st))[x]?=some z/\r.toList[x-(sa+k)]?=some z/\(z∈((arrOf st).extract (sa+k) sb).toList∨z∈((arrOf st).extract sb (sb+m)).toList):=fun x x1 x2=>by
     have lt:x-(sa+k)<r.toList.length:=by lia
     refine⟨r.toList[x-(sa+k)],?_,List.getElem?_eq_getElem lt,List.mem_append.mp (fl.1.mem_iff.mp (List.getElem_mem lt))⟩;rw[pg x,if_pos (by lia),Nat.add_zero,List.getElem?_eq_getElem lt]
    have ho:∀x,x<sa+k∨sb+m<=x->(cn (sa+k) r.toList.zipIdx (arrOf st))[x]?=(arrOf st)[x]?:=fun x hx=>by rw[pg x,if_neg (by lia)]
    have kz:∀{x z},(cn (sa+k) r.toList.zipIdx (arrOf st))[x]?=some z->kA key (cn (sa+k) r.toList.zipIdx (arrOf st)) x=key z:=fun q=>by unfold kA gA;rw[q];rfl
    rw[ea];refine h _ ⟨?_,sg.k.trans hB.kind,sg.f.trans hB.fail⟩ sg.p (fun x y h0 hxy hy=>?_) fun x hx=>?_
    ·refine List.Perm.trans ?_ hB.perm;show(cn (sa+k) r.toList.zipIdx (arrOf st)).toList.Perm _;have dd:(arrOf st).toList=(arrOf st).toList.take (sa+k)++(((arrOf st).toList.drop (sa+k)).take (sb+m-(sa+k))++(arrOf st).toList.drop (sa+k+(sb+m-(sa+k)))):=by
      rw[show(arrOf st).toList.drop (sa+k+(sb+m-(sa+k)))=((arrOf st).toList.drop (sa+k)).drop (sb+m-(sa+k))from(List.drop_drop ..).symm,List.take_append_drop,List.take_append_drop]
     rw[pl,lr];refine List.Perm.trans ?_ (List.Perm.of_eq dd.symm);rw[<-seg];exact(List.Perm.append_left _ (List.Perm.append_right _ fl.1))
    ·show O.kle (kA key (cn (sa+k) r.toList.zipIdx (arrOf st)) x) (kA key (cn (sa+k) r.toList.zipIdx (arrOf st)) y);rcases Nat.lt_or_ge x (sa+k)with x1|x1
     ·rw[bx (ho x (.inl x1))];rcases Nat.lt_or_ge y (sa+k)with y1|y1
      ·rw[bx (ho y (.inl y1))];exact ua x y h0 hxy (by lia)
      rcases Nat.lt_or_ge y (sb+m)with y2|y2
      ·obtain⟨z,z1,z2,z3⟩:=hi y y1 y2;rw[kz z1];rcases z3 with z3|z3
       ·obtain⟨t,t1,t2,rfl⟩:=mx z z3;exact ua x t h0 (by lia) t2
       ·obtain⟨t,t1,t2,rfl⟩:=my z z3;exact KeyOrd.kle_trans (lo x h0 x1) (ub sb t (Nat.le_refl _) t1 (by lia))
      ·rw[bx (ho y (.inr y2))];exact KeyOrd.kle_trans (lo x h0 x1) (ub sb y (Nat.le_refl _) (by lia) hy)
     rcases Nat.lt_or_ge x (sb+m)with x2|x2
     ·obtain⟨z,z1,z2,z3⟩:=hi x x1 x2;rcases Nat.lt_or_ge y (sb+m)with y2|y2
      ·obtain⟨u,u1,u2,u3⟩:=hi y (by exact Nat.le_trans (by assumption) (by assumption)) y2;rw[kz z1,kz u1];rcases Nat.lt_or_ge x y with q|q
       ·have:=List.pairwise_iff_getElem.mp fl.2 (x-(sa+k)) (y-(sa+k)) (by lia) (by lia) (by lia);rw[List.getElem?_eq_getElem (by lia)]at z2 u2
        rwa [Option.some.inj z2,Option.some.inj u2]at this
       ·obtain rfl:x=y:=by lia
        rw[z1]at u1;cases u1;exact KeyOrd.kle_refl _
      ·rw[kz z1,bx (ho y (.inr y2))];rcases z3 with z3|z3
       ·obtain⟨t,t1,t2,rfl⟩:=mx z z3;exact KeyOrd.kle_trans (ua t (sb-1) (by lia) (by lia) (by lia)) (up2 y y2 hy)
       ·obtain⟨t,t1,t2,rfl⟩:=my z z3;exact ub t y t1 (by lia) hy
     ·rw[bx (ho x (.inr x2)),bx (ho y (.inr (by exact Nat.le_trans (by assumption) (by assumption))))];exact ub x y (by lia) hxy hy
    ·exact ho x (by lia)
   have last:∀(r:Array Keyed) (st':SortSt),Sg (SortSt.mk' (kindOf st) (arrOf st) (((pendingOf st).setIfInBounds i (sa,na+nb,pw)).eraseIdxIfInBounds (i+1)) (gallopOf st) (failedOf st)) st'->failedOf st'=none:=fun r st' sg=>sg.f.trans hB.fail
   by_cases e3:na-k<=m
   all_goals first|rw[if_pos e3]|rw[if_neg e3]
   all_goals refine wpS_bind ?_
   ·refine B6 (a:=(arrOf st).extract (sa+k) sb) (b:=(arrOf st).extract sb (sb+m)) hA hB.kind (fun j hj=>by rw[zx]at hj;rw[gx j hj];exact hB.mem (by lia)) (fun j hj=>by rw[zy]at hj;rw[gy j hj];exact hB.mem (by lia)) (by lia) (by lia) ⟨by simp,List.Pairwise.nil,by simp,by simp,by simpa using px,by simpa using py⟩ ?_ (fun j hj=>?_) fun r st' sg fl=>?_
    ·rw[gx 0 (by lia),gy 0 (by lia)];exact up _ (by exact Nat.le_refl _) (by lia)
    ·rw[zy]at hj;rw[zx,gx _ (by lia),gy j hj];have:=lo2 (sb+j) (by lia) (by lia)
     rwa [show sa+k+(sb-(sa+k)-1)=sb-1 by lia]
    ·refine wpS_bind (wpS_modify (wpS_bind (wpS_get (wpS_pure ?_))));have:=fin r st' sg fl;rw[show(failedOf (setArr st' (cn (sa+k) r.toList.zipIdx (arrOf st')))).isNone=true by rw[show failedOf (setArr st' _)=failedOf st' from rfl,last r st' sg];rfl];exact this
   ·refine CG (a:=(arrOf st).extract (sa+k) sb) (b:=(arrOf st).extract sb (sb+m)) hA hB.kind (fun j hj=>by rw[zx]at hj;rw[gx j hj];exact hB.mem (by lia)) (fun j hj=>by rw[zy]at hj;rw[gy j hj];exact hB.mem (by lia)) (by lia) (by lia) ⟨?_,List.Pairwise.nil,by simp,by simp,?_,?_⟩ (fun j hj=>?_) ?_ fun r st' sg fl=>?_
    ·rw[List.take_of_length_le (Nat.le_of_eq Array.length_toList),List.take_of_length_le (Nat.le_of_eq Array.length_toList)];exact(List.reverse_perm _).append (List.reverse_perm _)
    ·rw[List.take_of_length_le (Nat.le_of_eq Array.length_toList)];exact List.pairwise_reverse.mpr px
    ·rw[List.take_of_length_le (Nat.le_of_eq Array.length_toList)];exact List.pairwise_reverse.mpr py
    ·rw[zx]at hj;rw[gx j hj,gy 0 (by lia)];exact up _ (by lia) (by lia)
    ·rw[zx,zy,gx _ (by lia),gy _ (by lia)];have:=lo2 (sb+(m-1)) (by lia) (by lia)
     rwa [show sa+k+(sb-(sa+k)-1)=sb-1 by lia]
    ·refine wpS_bind (wpS_modify (wpS_bind (wpS_get (wpS_pure ?_))));have:=fin r st' sg fl;rw[show(failedOf (setArr st' (cn (sa+k) r.toList.zipIdx (arrOf st')))).isNone=true by rw[show failedOf (setArr st' _)=failedOf st' from rfl,last r st' sg];rfl];exact this
end
section
variable{prog:Program}{w:World}{A:Around}{E:Value->Shared->Prop}{s:Shared}{O:KeyOrd}{key:Keyed->O.α}{a0:List Keyed}{κ:SortKind}
def Stk(key:Keyed->O.α) (xs:Array Keyed):Nat->List (Nat×Nat×Nat)->Nat->Prop
 |b,[],e=>b=e
 |b,p::rest,e=>p.1=b/\1<=p.2.1/\Up key xs b (b+p.2.1)/\Stk key xs (b+p.2.1) rest e
theorem Stk.app{xs:Array Keyed}:∀{p q:List (Nat×Nat×Nat)}{b e:Nat},Stk key xs b (p++q) e↔∃m,Stk key xs b p m/\Stk key xs m q e
 |[],q,b,e=>⟨fun h=>⟨b,rfl,h⟩,fun⟨m,h1,h2⟩=>by cases h1;exact h2⟩
 |x::p,q,b,e=>by
  simp only[List.cons_append,Stk,Stk.app (p:=p)];exact⟨fun⟨a,b,c,m,d,e⟩=>⟨m,⟨a,b,c,d⟩,e⟩,fun⟨m,⟨a,b,c,d⟩,e⟩=>⟨a,b,c,m,d,e⟩⟩
theorem Stk.len{xs:Array Keyed}:∀{p:List (Nat×Nat×Nat)}{b e:Nat},Stk key xs b p e->b+p.length<=e
 |[],b,e,h=>by cases h;simp
 |x::p,b,e,h=>by
  have:=h.2.2.2.len;have:=h.2.1;simp only[List.length_cons];lia
theorem Stk.out{xs ys:Array Keyed}{lo hi:Nat}(o:Out lo hi xs ys):∀{p:List (Nat×Nat×Nat)}{b e:Nat},Stk key xs b p e->e<=lo∨hi<=b->Stk key ys b p e
 |[],b,e,h,_=>h
 |x::p,b,e,h,d=>by
  have l:=h.2.2.2.len;exact⟨h.1,h.2.1,h.2.2.1.out o (by lia),h.2.2.2.out o (by lia)⟩
def SRt(key:Keyed->O.α) (a0:List Keyed) (κ:SortKind) (lo:Nat) (st:SortSt):Prop:=SB a0 κ st/\Stk key (arrOf st) 0 (pendingOf st).toList lo/\lo<=a0.length
theorem vO{α:Type}:∀{l:List α}{i:Nat},i+1<l.length->∃p x y q,l=p++x::y::q/\p.length=i
 |x::y::l,0,_=>⟨[],x,y,l,rfl,rfl⟩
 |x::l,i+1,h=>by
  obtain⟨p,a,b,q,e,z⟩:=vO (l:=l) (i:=i) (by simpa using h);exact⟨x::p,a,b,q,by rw[e];rfl,by simp[z]⟩
theorem uJ{st:SortSt}{i lo:Nat}{Q:Bool->SortSt->Prop}(hA:fV prog w A s κ key a0) (hS:SRt key a0 κ lo st) (hi:i+1<(pendingOf st).size)
  (h:∀st',SRt key a0 κ lo st'->(pendingOf st').size+1=(pendingOf st).size->Out 0 lo (arrOf st) (arrOf st')->(pendingOf st').size=0∨True->Q true st'):wpS (model prog w) A E s (mergeAt' i) Q st:=by
 obtain⟨hB,hT,hl⟩:=hS;obtain⟨p,x,y,q,e,z⟩:=vO (l:=(pendingOf st).toList) (i:=i) (by simpa using hi);rw[e,Stk.app]at hT;obtain⟨m,t1,t2⟩:=hT;obtain⟨x1,x2,x3,y1,y2,y3,t3⟩:=t2;have l3:=t3.len;obtain⟨sa,na,pw⟩:=x;obtain⟨sb,nb,pw2⟩:=y;dsimp only at x1 x2 x3 y1 y2 y3 t3 l3;subst x1;have g1:(pendingOf st)[i]?=some (sa,na,pw):=by rw[<-Array.getElem?_toList,e,<-z];simp
 have g2:(pendingOf st)[i+1]?=some (sb,nb,pw2):=by rw[<-Array.getElem?_toList,e,<-z];simp
 refine DV hA hB g1 g2 y1 x2 y2 (by lia) (by rw[y1];exact x3) (by rw[y1];exact y3) fun st' hB' hp hu ho=>?_;have ep:(pendingOf st').toList=p++(sa,na+nb,pw)::q:=by
  rw[hp,Array.toList_eraseIdxIfInBounds,Array.toList_setIfInBounds,e,<-z];simp[List.set_append,List.eraseIdx_append];intro z';lia
 have l1:=t1.len;refine h st' ⟨hB',?_,hl⟩ ?_ (fun j hj=>ho j (by lia)) (.inr trivial)
 ·rw[ep,Stk.app];exact⟨sa,t1.out ho (by lia),rfl,by show 1<=na+nb;lia,by show Up key _ sa (sa+(na+nb));rw[<-Nat.add_assoc,<-y1];exact hu,by show Stk key _ (sa+(na+nb)) q lo;rw[<-Nat.add_assoc];exact t3.out ho (by lia)⟩
 ·have a1:=congrArg List.length ep;have a2:=congrArg List.length e;simp only[Array.length_toList,List.length_append,List.length_cons]at a1 a2
  lia
theorem Stk.cong{xs:Array Keyed}:∀{p q:List (Nat×Nat×Nat)}{b e:Nat},p.map (fun x=>(x.1,x.2.1))=q.map (fun x=>(x.1,x.2.1))->Stk key xs b p e->Stk key xs b q e
 |[],[],_,_,_,h=>h
 |x::p,y::q,b,e,z,h=>by
  simp only[List.map_cons,List.cons.injEq,Prod.mk.injEq]at z;simp only[Stk]at h ⊢;rw[<-z.1.1,<-z.1.2];exact⟨h.1,h.2.1,h.2.2.1,h.2.2.2.cong z.2⟩
 |[],_::_,_,_,z,_=>by simp at z
 |_::_,[],_,_,z,_=>by simp at z
theorem yG{p:Array (Nat×Nat×Nat)}{i:Nat}{f:Nat×Nat×Nat->Nat×Nat×Nat}(h:∀x,(f x).1=x.1/\(f x).2.1=x.2.1):p.toList.map (fun x=>(x.1,x.2.1))=(p.modify i f).toList.map (fun x=>(x.1,x.2.1)):=by
 rw[Array.toList_modify];apply List.ext_getElem?;intro j;rw[List.getElem?_map,List.getElem?_map,List.getElem?_modify];cases p.toList[j]? with
 |none=>rfl
 |some x=>by_cases e:i=j<;>simp[e,h]
theorem SRt.push{st:SortSt}{lo n:Nat}(hS:SRt key a0 κ lo st) (h1:1<=n) (h2:lo+n<=a0.length) (hu:Up key (arrOf st) lo (lo+n)):SRt key a0 κ (lo+n) (setPending st ((pendingOf st).push (lo,n,0))):=by
 refine⟨⟨hS.1.perm,hS.1.kind,hS.1.fail⟩,?_,h2⟩;show Stk key (arrOf st) 0 ((pendingOf st).push _).toList _;rw[Array.toList_push,Stk.app];exact⟨lo,hS.2.1,rfl,h1,hu,rfl⟩
theorem BQ{c:Prop} [Decidable c] {x y n:Nat}(h1:x+1<n) (h2:y+1<n):(if c then x else y)+1<n:=by split<;>assumption
theorem AR{st:SortSt}{Q:Unit->SortSt->Prop}(hA:fV prog w A s κ key a0) (hB:SB a0 κ st) (hp:pendingOf st=#[]) (h2:2<=a0.length)
  (h:∀st',SB a0 κ st'->Up key (arrOf st') 0 a0.length->Q () st'):wpS (model prog w) A E s sortRuns' Q st:=by
 rw[sortRuns'_eq];refine wpS_bind (wpS_get ?_);dsimp only;generalize minRun' (arrOf st).size (arrOf st).size 0=mr;rw[hB.size];refine wpS_bind (wpS_mono (wpS_forRange (I:=fun x c st'=>∃lo,c=(none,lo)/\SRt key a0 κ lo st'/\(x<=lo∨lo=a0.length)) (Q:=fun c st'=>c=(none,a0.length)/\SRt key a0 κ a0.length st') ?step ?fin ⟨0,rfl,⟨hB,by rw[hp];rfl,Nat.zero_le _⟩,.inl (Nat.le_refl _)⟩) ?post)
 case fin =>
  intro c st' hI';refine bL fun _ bk=>?_;obtain⟨lo,rfl,hS,q⟩:=hI';refine bk ?_;clear bk;obtain rfl:lo=a0.length:=by have:=hS.2.2;lia
  exact⟨rfl,hS⟩
 case step =>
  intro x c st' _ hx hI';refine bL fun _ bk=>?_;obtain⟨lo,rfl,hS,q⟩:=hI';refine bk ?_;clear bk;dsimp only;have hl:=hS.2.2
  by_cases e:lo>=a0.length
  ·rw[if_pos e];obtain rfl:lo=a0.length:=by lia
   exact wpS_pure ⟨rfl,hS⟩
  ·rw[if_neg e];refine wpS_bind (yk hA hS.1 (nrem:=a0.length-lo) (by lia) (by lia) fun m st2 hB2 hp2 m1 m2 hu2 ho2=>?_);have T2:Stk key (arrOf st2) 0 (pendingOf st2).toList lo:=by rw[hp2];exact hS.2.1.out ho2 (.inl (Nat.le_refl _))
   clear ho2 hp2 hS;dsimp only;have S2:SRt key a0 κ lo st2:=⟨hB2,T2,hl⟩
   by_cases g:m<mr
   all_goals first
    |
     rw[if_pos g];refine wpS_bind (wpS_lift (wpAny_rule ⟨rfl,wpS_bind (DC hA hB2 (n:=min (a0.length-lo) mr) (by lia) (by lia) hu2 fun st3 hB3 hp3 hu3 ho3=>?_)⟩));simp only[Bool.not_true,Bool.false_eq_true,if_false];have S3:SRt key a0 κ lo st3:=⟨hB3,by rw[hp3];exact T2.out ho3 (.inl (Nat.le_refl _)),hl⟩;have n1:1<=min (a0.length-lo) mr:=by lia
     have n2:lo+min (a0.length-lo) mr<=a0.length:=by lia
     clear ho3 hp3 hB3
    |
     rw[if_neg g];have S3:=S2;have hu3:=hu2;have n1:=m1;have n2:lo+m<=a0.length:=by lia
   all_goals
    clear T2 hB2 hu2 S2;refine wpS_bind (wpS_get ?_)
    split
    ·refine wpS_bind (wpS_mono (wpS_forRange (I:=fun _ c st'=>c=(none,())/\SRt key a0 κ lo st'/\Up key (arrOf st') lo (lo+_)) (Q:=fun c st'=>c=(none,())/\SRt key a0 κ lo st'/\Up key (arrOf st') lo (lo+_)) ?_ (fun _ _ z=>z) ⟨rfl,S3,hu3⟩) ?_)
     ·intro y c st4 _ _ hI';refine bL fun _ bk=>?_;obtain⟨rfl,S4,u4⟩:=hI';refine bk ?_;clear bk;refine wpS_bind (wpS_get ?_)
      by_cases e2:(pendingOf st4).size > 1
      ·rw[if_pos e2,Array.getElem?_eq_getElem (by lia)];dsimp only
       split
       ·exact wpS_pure ⟨rfl,S4,u4⟩
       ·refine wpS_bind (uJ hA S4 (by lia) fun st5 S5 _ ho _=>?_);simp only[Bool.not_true,Bool.false_eq_true,if_false];exact wpS_pure ⟨rfl,S5,u4.out ho (.inr (Nat.le_refl _))⟩
      ·rw[if_neg e2];exact wpS_pure ⟨rfl,S4,u4⟩
     ·intro c st4 hI';refine bL fun _ bk=>?_;obtain⟨rfl,S4,u4⟩:=hI';refine bk ?_;clear bk;dsimp only;refine wpS_bind (wpS_modify (wpS_bind (wpS_modify (wpS_pure ⟨_,rfl,SRt.push ⟨⟨S4.1.perm,S4.1.kind,S4.1.fail⟩,S4.2.1.cong (yG fun x=>⟨rfl,rfl⟩),hl⟩ n1 n2 u4,by lia⟩))))
    ·exact wpS_bind (wpS_modify (wpS_pure ⟨_,rfl,S3.push n1 n2 hu3,by lia⟩))
 case post =>
  rintro c st' ⟨rfl,hS⟩;dsimp only;refine wpS_bind (wpS_mono (wpS_forRange (I:=fun x c st'=>c=(none,())/\SRt key a0 κ a0.length st'/\((pendingOf st').size+x<=a0.length∨(pendingOf st').size<=1)) (Q:=fun c st'=>c=(none,())/\SRt key a0 κ a0.length st'/\(pendingOf st').size<=1) ?_ ?_ ⟨rfl,hS,.inl ?_⟩) ?_)
  ·intro x c st2 _ hx hI';refine bL fun _ bk=>?_;obtain⟨rfl,S2,q⟩:=hI';refine bk ?_;clear bk;refine wpS_bind (wpS_get ?_)
   by_cases e:(pendingOf st2).size<=1
   ·rw[if_pos e];exact wpS_pure ⟨rfl,S2,e⟩
   ·rw[if_neg e];refine wpS_bind (uJ hA S2 (BQ (by lia) (by lia)) fun st3 S3 z _ _=>?_);simp only[Bool.not_true,Bool.false_eq_true,if_false];exact wpS_pure ⟨rfl,S3,by lia⟩
  ·intro c st2 hI';refine bL fun _ bk=>?_;obtain⟨rfl,S2,q⟩:=hI';refine bk ?_;clear bk;exact⟨rfl,S2,by lia⟩
  ·have:=hS.2.1.len;rw[Array.length_toList]at this
   lia
  ·intro c st2 hI';refine bL fun _ bk=>?_;obtain⟨rfl,S2,q⟩:=hI';refine bk ?_;clear bk;refine wpS_pure (h st2 S2.1 ?_);have T:=S2.2.1;have l:(pendingOf st2).toList.length<=1:=by rw[Array.length_toList];exact q
   match e:(pendingOf st2).toList,l with
   |[],_=>rw[e]at T;have:0=a0.length:=T;lia
   |[x],_ =>
    rw[e]at T;obtain⟨_,_,t3,t4⟩:=T;have t5:0+x.2.1=a0.length:=t4;rw[t5]at t3;exact t3
end
end L2
namespace L2
open PySem PySem.SetTable
theorem gO{α:Type}(xs:Array α) (p:Nat) (x:α):(insertAt xs p x).toList=xs.toList.take p++x::xs.toList.drop p:=by
 unfold insertAt;rw[Array.toList_append,Array.toList_push,Array.toList_extract,Array.toList_extract,List.extract_eq_take_drop,List.extract_eq_take_drop];rw[List.drop_zero,Nat.sub_zero,List.take_of_length_le (l:=xs.toList.drop p) (by simp)];simp
theorem fU{xs:Array Nat}{i d:Nat}:xs.getD i d=xs.toList[i]?.getD d:=by
 rw[Array.getElem?_toList]
 by_cases h:i<xs.size
 ·simp[Array.getD,h]
 ·simp[Array.getD,h]
theorem pX{xs:Array Nat}{p x:Nat}(hp:p<=xs.size) (i:Nat):(insertAt xs p x).getD i 0=if i<p then xs.getD i 0 else if i=p then x else xs.getD (i-1) 0:=by
 have hl:(xs.toList.take p).length=p:=by simp;lia
 rw[fU,gO,List.getElem?_append,hl]
 by_cases a:i<p
 ·rw[if_pos a,if_pos a,List.getElem?_take_of_lt a,fU]
 ·rw[if_neg a,if_neg a]
  by_cases b:i=p
  ·rw[if_pos b,b];simp
  ·rw[if_neg b];obtain⟨m,hm⟩:∃m,i-p=m+1:=⟨i-p-1,by lia⟩;rw[hm,List.getElem?_cons_succ,List.getElem?_drop,fU];congr 2;lia
theorem fh{α:Type}(xs:Array α) (p:Nat) (x:α) (hp:p<=xs.size):(insertAt xs p x).size=xs.size+1:=by
 rw[<-Array.length_toList,gO];simp;lia
theorem rn{xs:Array Nat}{p x:Nat}(hp:p<=xs.size) {j:Nat}(h:Occ xs j):Occ (insertAt xs p x) j:=by
 obtain⟨i,hi,e⟩:=h
 by_cases a:i<p
 ·exact⟨i,by rw[fh _ _ _ hp];exact Nat.le_succ_of_le (by assumption),by rw[pX hp,if_pos a];exact e⟩
 ·exact⟨i+1,by rw[fh _ _ _ hp];lia,by rw[pX hp,if_neg (by lia),if_neg (by lia)];exact e⟩
theorem TB.put{t:SetTable}{hs:List Int}(T:TB t hs) {h:Int}{n:Nat}(f0:¬ Occ t.place (pth t.mask h n).j) (f1:∀m,m<n->Occ t.place (pth t.mask h m).j) (few:t.place.size+1<=t.mask) :
  ∃p,p<=hs.length/\(t.put (pth t.mask h n).j).2=p/\TB (t.put (pth t.mask h n).j).1 (hs.take p++h::hs.drop p)/\(t.put (pth t.mask h n).j).1.led=t.led/\(t.put (pth t.mask h n).j).1.plain=t.plain/\(t.put (pth t.mask h n).j).1.mask=t.mask/\(t.put (pth t.mask h n).j).1.place.size=t.place.size+1:=by
 generalize hj:(pth t.mask h n).j=j at *
 have hjm:j<=t.mask:=by rw[<-hj];exact qW n
 obtain⟨b1,b2,b3⟩:=ly T.up j;have sz:=T.sz;have hd:has t.dummies j=false:=by rw[T.dm];rfl
 have e:t.put j=({ t with place:=insertAt t.place (below t.place j) j,dummies:=t.dummies },below t.place j):=by unfold SetTable.put;rw[hd];rfl
 rw[e];dsimp only;generalize hp:below t.place j=p at *
 have b3':∀i,p<=i->i<t.place.size->j<t.place.getD i 0:=fun i h1 h2=>by
  have:=b3 i h1 h2;rcases Nat.lt_or_ge j (t.place.getD i 0)with q|q
  ·exact q
  ·exact absurd ⟨i,h2,by lia⟩ f0
 have isz:=fh t.place p j b1;refine⟨p,by lia,rfl,⟨?_,?_,?_,T.dm,T.pw,by rw[isz];exact few,?_⟩,rfl,rfl,rfl,isz⟩
 ·show(insertAt t.place p j).size=_;rw[isz,List.length_append,List.length_take,List.length_cons,List.length_drop];lia
 ·intro i k hik hk;have hk':k<t.place.size+1:=by rw[<-isz];exact hk
  show(insertAt t.place p j).getD i 0<(insertAt t.place p j).getD k 0;rw[pX b1,pX b1]
  by_cases c1:i<p
  ·rw[if_pos c1]
   by_cases c2:k<p
   ·rw[if_pos c2];exact T.up i k hik (by exact Nat.lt_of_lt_of_le (by assumption) (by assumption))
   ·rw[if_neg c2]
    by_cases c3:k=p
    ·rw[if_pos c3];exact b2 i c1
    ·rw[if_neg c3];exact T.up i (k-1) (by lia) (by lia)
  ·rw[if_neg c1,if_neg (show ¬ k<p by lia),if_neg (show ¬ k=p by lia)]
   by_cases c3:i=p
   ·rw[if_pos c3];exact b3' _ (by lia) (by lia)
   ·rw[if_neg c3];exact T.up (i-1) (k-1) (by lia) (by lia)
 ·intro i hi;have hi':i<t.place.size+1:=by rw[<-isz];exact hi
  show(insertAt t.place p j).getD i 0<=t.mask;rw[pX b1]
  by_cases c1:i<p
  ·rw[if_pos c1];exact T.le i (by exact Nat.lt_of_lt_of_le (by assumption) (by assumption))
  ·rw[if_neg c1]
   by_cases c3:i=p
   ·rw[if_pos c3];exact hjm
   ·rw[if_neg c3];exact T.le _ (by lia)
 ·intro i g hg;have hl:(hs.take p).length=p:=by simp;lia
  have old:∀i',hs[i']?=some g->(insertAt t.place p j).getD i 0=t.place.getD i' 0->∃n,(pth t.mask g n).j=(insertAt t.place p j).getD i 0/\∀m,m<n->Occ (insertAt t.place p j) (pth t.mask g m).j:=fun i' h1 h2=>by
   obtain⟨n',a,b⟩:=T.pr i' g h1;exact⟨n',by rw[a,h2],fun m hm=>rn b1 (b m hm)⟩
  rw[List.getElem?_append,hl]at hg
  by_cases c1:i<p
  ·rw[if_pos c1,List.getElem?_take_of_lt c1]at hg;exact old i hg (by rw[pX b1,if_pos c1])
  ·rw[if_neg c1]at hg
   by_cases c3:i=p
   ·rw[c3,Nat.sub_self,List.getElem?_cons_zero]at hg;cases hg;exact⟨n,by show _=(insertAt t.place p j).getD i 0;rw[pX b1,if_neg c1,if_pos c3];exact hj,fun m hm=>rn b1 (f1 m hm)⟩
   ·obtain⟨m,hm⟩:∃m,i-p=m+1:=⟨i-p-1,by lia⟩;rw[hm,List.getElem?_cons_succ,List.getElem?_drop]at hg;exact old _ hg (by rw[pX b1,if_neg c1,if_neg c3];congr 1;lia)
variable{mask:Nat}{h:Int}
abbrev Ow:=Array (Option Nat)
def ocO(ow:Ow) (j:Nat):Prop:=ow.getD j (some 0)≠none
theorem sL{ow:Ow}(hs:ow.size=mask+1) {M:Nat}(hM:ow.getD (rs mask h M).1 (some 0)=none):∀F m n,m<=M->M-m<F->pth mask h n=atR mask (rs mask h m)->(∀l,l<n->ocO ow (pth mask h l).j) ->
  ∃n',layClean.free mask ow F (rs mask h m).1 (rs mask h m).2=some (pth mask h n').j/\ow.getD (pth mask h n').j (some 0)=none/\∀l,l<n'->ocO ow (pth mask h l).j
 |0,m,n,h1,h2,_,_=>by lia
 |F+1,m,n,h1,h2,e,oc=>by
  have lt:=zB (mask:=mask) (h:=h) m;have len:runEnd mask (rs mask h m).1+1-(rs mask h m).1=runEnd mask (rs mask h m).1-(rs mask h m).1+1:=by
   have:(rs mask h m).1<=runEnd mask (rs mask h m).1:=by unfold runEnd;split<;>lia
   lia
  have jq:∀q,q<=runEnd mask (rs mask h m).1-(rs mask h m).1->(pth mask h (n+q)).j=(rs mask h m).1+q:=fun q hq=>by rw[nB e q hq]
  unfold layClean.free;rw[len];cases c:(List.range (runEnd mask (rs mask h m).1-(rs mask h m).1+1)).find? fun k=>(ow.getD ((rs mask h m).1+k) (some 0)).isNone with
  |some k =>
   dsimp only;have hk:=List.mem_range.mp (List.mem_of_find?_eq_some c);have hn:=List.find?_some c;refine⟨n+k,by rw[jq k (by lia)],by rw[jq k (by lia)];simpa using hn,fun l hl=>?_⟩;rcases Nat.lt_or_ge l n with a|a
   ·exact oc l a
   ·obtain⟨q,rfl⟩:∃q,l=n+q:=⟨l-n,by lia⟩;unfold ocO;rw[jq q (by lia)];intro z;obtain⟨as,bs,e1,e2⟩:=(List.find?_eq_some_iff_append.mp c).2;have:q∈as:=by
     have hq:q∈List.range (runEnd mask (rs mask h m).1-(rs mask h m).1+1):=List.mem_range.mpr (by lia);have srt:(as++k::bs).Pairwise (·<·):=by rw[<-e1];exact List.pairwise_lt_range
     rw[e1]at hq;rcases List.mem_append.mp hq with r|r
     ·exact r
     ·rw[List.pairwise_append]at srt;rcases List.mem_cons.mp r with r|r
      ·lia
      ·have:=(List.pairwise_cons.mp srt.2.1).1 q r;lia
    have:=e2 q this;rw[z]at this;simp at this
  |none =>
   dsimp only;have all:=List.find?_eq_none.mp c;have ne:m≠M:=fun z=>by
    subst z;have:=all 0 (List.mem_range.mpr (by lia));rw[Nat.add_zero,hM]at this;simp at this
   show ∃n',layClean.free mask ow F (rs mask h (m+1)).1 (rs mask h (m+1)).2=_/\_;refine sL hs hM F (m+1) (n+(runEnd mask (rs mask h m).1-(rs mask h m).1)+1) (by lia) (by lia) ?_ fun l hl=>?_
   ·show pA mask (pth mask h (n+_))=_;rw[nB e _ (Nat.le_refl _)];unfold pA;rw[if_neg (by simp)];rfl
   ·rcases Nat.lt_or_ge l n with a|a
    ·exact oc l a
    ·obtain⟨q,rfl⟩:∃q,l=n+q:=⟨l-n,by lia⟩;unfold ocO;rw[jq q (by lia)];intro z;have:=all q (List.mem_range.mpr (by lia));rw[z]at this;simp at this
def lv(mask:Nat) (ow:Ow):List (Nat×Nat):=(List.range (mask+1)).filterMap fun j=>(ow.getD j none).map (j,·)
theorem qH{ow:Ow}{j:Nat}(hj:j<ow.size) (a b:Option Nat):ow.getD j a=ow.getD j b:=by simp[Array.getD,hj]
theorem Aq{ow:Ow}(hs:ow.size=mask+1) {s k:Nat}(hl:s<=mask) (hn:ow.getD s none=none):(lv mask (ow.setIfInBounds s (some k))).Perm ((s,k)::lv mask ow):=by
 unfold lv;have sp:List.range (mask+1)=List.range s++s::(List.range' (s+1) (mask-s)):=by
  rw[List.range_eq_range',List.range_eq_range',show mask+1=s+(1+(mask-s))by lia,<-List.range'_append_1,<-List.range'_append_1];simp[Nat.add_comm]
 have same:∀l:List Nat,s∉l->(l.filterMap fun j=>((ow.setIfInBounds s (some k)).getD j none).map (j,·))=l.filterMap fun j=>(ow.getD j none).map (j,·):=fun l hl=>by
  induction l with
  |nil=>rfl
  |cons j l ih =>
   have this:s≠j:=fun z=>hl (z▸.head _);rw[List.filterMap_cons,List.filterMap_cons,ih fun z=>hl (.tail _ z)];simp only[Array.getD_eq_getD_getElem?,Array.getElem?_setIfInBounds,if_neg this]
 rw[sp,List.filterMap_append,List.filterMap_append,List.filterMap_cons,List.filterMap_cons,hn,same _ (by simp),same _ (fun z=>by obtain⟨x,_,z⟩:=List.mem_range'.mp z;lia)];have:(ow.setIfInBounds s (some k)).getD s none=some k:=by simp[Array.getD_eq_getD_getElem?,show s<ow.size by lia]
 rw[this];simp only[Option.map_some,Option.map_none];exact List.perm_middle
structure LC(mask:Nat) (hs:List Int) (ow:Ow) (k:Nat):Prop where
 sz:ow.size=mask+1
 perm:((lv mask ow).map (·.2)).Perm (List.range k)
 pr:∀j i h,ow.getD j none=some i->hs[i]?=some h->∃n,(pth mask h n).j=j/\∀m,m<n->ocO ow (pth mask h m).j
theorem BL{ow:Ow}(hs:ow.size=mask+1) {j i:Nat}(e:ow.getD j none=some i):(j,i)∈lv mask ow:=by
 have hj:j<ow.size:=by
  rcases Nat.lt_or_ge j ow.size with q|q
  ·exact q
  ·simp[Array.getD,show ¬ j<ow.size by lia]at e
 exact List.mem_filterMap.mpr ⟨j,List.mem_range.mpr (by lia),by rw[e];rfl⟩
theorem xu{ow:Ow}(hs:ow.size=mask+1) (few:(lv mask ow).length<=mask):∃j,j<=mask/\ow.getD j none=none:=by
 refine Classical.byContradiction fun c=>?_;have all:∀j∈List.range (mask+1),∃i,ow.getD j none=some i:=fun j hj=>by
  cases q:ow.getD j none with
  |none=>exact absurd ⟨j,by have:=List.mem_range.mp hj;lia,q⟩ c
  |some i=>exact⟨i,rfl⟩
 have:∀l:List Nat,(∀j∈l,∃i,ow.getD j none=some i)->(l.filterMap fun j=>(ow.getD j none).map (j,·)).length=l.length:=fun l=>by
  induction l with
  |nil=>exact fun _=>rfl
  |cons j l ih =>
   intro hl;obtain⟨i,e⟩:=hl j (.head _);rw[List.filterMap_cons,e];simp only[Option.map_some,List.length_cons];rw[ih fun x hx=>hl x (.tail _ hx)]
 have q:=this _ all;rw[List.length_range]at q;unfold lv at few
 lia
abbrev lcF(mask:Nat) (acc:Option (Ow×Nat)) (h:Int):Option (Ow×Nat):=do
 let(owner,k) <-acc
 let j <-layClean.free mask owner (turns mask) (bits h % (mask+1)) (bits h)
 pure (owner.setIfInBounds j (some k),k+1)
theorem zE{e:Nat}(hk:mask+1=2 ^ e) {hs:List Int}(few:hs.length<=mask):∀(todo done:List Int) (ow:Ow),hs=done++todo->LC mask hs ow done.length->∃ow',todo.foldl (lcF mask) (some (ow,done.length))=some (ow',hs.length)/\LC mask hs ow' hs.length
 |[],done,ow,h0,L=>⟨ow,by rw[h0];simp,by rw[h0];simpa[h0]using L⟩
 |h::todo,done,ow,h0,L=>by
  have ll:(lv mask ow).length=done.length:=by have:=L.perm.length_eq;simpa using this
  have lt:done.length<hs.length:=by rw[h0];simp
  obtain⟨j,hj,nj⟩:=xu L.sz (by lia);obtain⟨m,_,hm,_,em,_⟩:=rR (mask:=mask) (h:=h) hk hj;obtain⟨n',f1,f2,f3⟩:=sL (mask:=mask) (h:=h) (ow:=ow) L.sz (M:=m) (by rw[em,qH (by rw[L.sz];lia) (some 0) none];exact nj) (turns mask) 0 0 (Nat.zero_le _) (by unfold turns;lia) rfl (fun l hl=>by lia);have sl:=qW (mask:=mask) (h:=h) n';have st:lcF mask (some (ow,done.length)) h=some (ow.setIfInBounds (pth mask h n').j (some done.length),done.length+1):=by
   show(layClean.free mask ow (turns mask) (bits h % (mask+1)) (bits h) >>= fun j=>pure (ow.setIfInBounds j (some done.length),done.length+1))=_;have:layClean.free mask ow (turns mask) (bits h % (mask+1)) (bits h)=some (pth mask h n').j:=f1;rw[this];rfl
  rw[List.foldl_cons,st];generalize hsl:(pth mask h n').j=sl' at *
  have f2':ow.getD sl' none=none:=by rw[<-f2];exact qH (by rw[L.sz];lia) _ _
  have oc':∀j,ocO ow j->ocO (ow.setIfInBounds sl' (some done.length)) j:=fun j hj z=>by
   unfold ocO at hj;simp only[Array.getD_eq_getD_getElem?,Array.getElem?_setIfInBounds]at z hj
   split at z
   ·split at z<;>simp at z
   ·exact hj z
  have:=zE hk few todo (done++[h]) (ow.setIfInBounds sl' (some done.length)) (by rw[h0];simp) ⟨by rw[Array.size_setIfInBounds];exact L.sz,?_,?_⟩
  ·rw[List.length_append,List.length_singleton]at this;exact this
  ·rw[List.length_append,List.length_singleton,List.range_succ];refine((Aq L.sz sl f2').map _).trans ?_;rw[List.map_cons];exact(List.Perm.cons _ L.perm).trans (List.perm_append_singleton _ _).symm
  ·intro j i g hg hi
   by_cases c:sl'=j
   ·have:i=done.length:=by
     simp only[Array.getD_eq_getD_getElem?,Array.getElem?_setIfInBounds,if_pos c]at hg
     split at hg
     ·simpa using hg.symm
     ·simp at hg
    subst this;have:g=h:=by rw[h0,List.getElem?_append_right (Nat.le_refl _),Nat.sub_self,List.getElem?_cons_zero]at hi;exact(Option.some.inj hi).symm
    subst this;exact⟨n',by rw[hsl];exact c,fun m hm=>oc' _ (f3 m hm)⟩
   ·have hg':ow.getD j none=some i:=by
     simp only[Array.getD_eq_getD_getElem?,Array.getElem?_setIfInBounds,if_neg c]at hg ⊢;exact hg
    obtain⟨n,a,b⟩:=L.pr j i g hg' hi;exact⟨n,a,fun m hm=>oc' _ (b m hm)⟩
theorem o3(n:Nat):∀F k,n<2 ^ (k+F)->∃e,k<=e/\sizeAbove.go n F (2 ^ k)=2 ^ e/\n<2 ^ e/\(e=k∨2 ^ e<=2*n)
 |0,k,h=>⟨k,Nat.le_refl _,rfl,h,.inl rfl⟩
 |F+1,k,h=>by
  unfold sizeAbove.go
  by_cases c:2 ^ k<=n
  ·rw[if_pos c,show 2 ^ k*2=2 ^ (k+1)from(Nat.pow_succ ..).symm];obtain⟨e,h1,h2,h3,h4⟩:=o3 n F (k+1) (by rw[show k+1+F=k+(F+1)by lia];exact h);refine⟨e,by exact Nat.le_of_lt (by assumption),h2,h3,.inr ?_⟩;rcases h4 with h4|h4
   ·rw[h4,Nat.pow_succ];lia
   ·exact h4
  ·rw[if_neg c];exact⟨k,Nat.le_refl _,rfl,by lia,.inl rfl⟩
theorem ph{n:Nat}(h:n<2 ^ 60):∃e,3<=e/\sizeAbove n=2 ^ e/\n<2 ^ e/\(2 ^ e<=8∨2 ^ e<=2*n):=by
 obtain⟨e,h1,h2,h3,h4⟩:=o3 n 64 3 (Nat.lt_trans h (by decide));exact⟨e,h1,h2,h3,h4.imp (fun z=>by rw[z];decide) id⟩
variable{mask:Nat}
theorem CH(ow:Ow):((lv mask ow).map (·.1)).Pairwise (·<·):=by
 unfold lv;rw[List.map_filterMap,List.pairwise_filterMap];refine List.pairwise_lt_range.imp fun {a b} hab x hx y hy=>?_;cases qa:ow.getD a none with
 |none=>rw[qa]at hx;cases hx
 |some i =>
  cases qb:ow.getD b none with
  |none=>rw[qb]at hy;cases hy
  |some k =>
   rw[qa]at hx;rw[qb]at hy;cases hx;cases hy;exact hab
theorem zr{ow:Ow}{j i:Nat}(h:(j,i)∈lv mask ow):j<=mask/\ow.getD j none=some i:=by
 obtain⟨a,ha,e⟩:=List.mem_filterMap.mp h;have:=List.mem_range.mp ha;cases q:ow.getD a none with
 |none=>rw[q]at e;cases e
 |some k=>rw[q]at e;cases e;exact⟨by lia,q⟩
theorem yD{t:SetTable}{hs:List Int}{wanted:Nat}(h1:hs.length<=wanted) (h2:wanted<2 ^ 60) (h3:0<wanted):∃t' order,t.relaid hs.toArray wanted=some (t',order)/\t'.led=t.led/\t'.plain=t.plain/\t'.mask+1=sizeAbove wanted/\order.toList.Perm (List.range hs.length)/\t'.place.size=hs.length/\TB t' (order.toList.map fun k=>hs.getD k 0):=by
 obtain⟨e,e3,es,el,_⟩:=ph h2;have pos:0<2 ^ e:=Nat.two_pow_pos e;generalize hm:sizeAbove wanted-1=mask;have hk:mask+1=2 ^ e:=by lia
 have L0:LC mask hs (Array.replicate (mask+1) none) 0:=by
  have z:∀j,(Array.replicate (mask+1) (none:Option Nat)).getD j none=none:=fun j=>by
   rw[Array.getD_eq_getD_getElem?,Array.getElem?_replicate];split<;>rfl
  refine⟨by simp,?_,fun j i h q _=>by rw[z]at q;cases q⟩;have:lv mask (Array.replicate (mask+1) none)=[]:=by
   unfold lv;rw[List.filterMap_eq_nil_iff];intro j _;rw[z];rfl
  rw[this];exact .refl _
 obtain⟨ow,f,L⟩:=zE hk (hs:=hs) (by lia) hs [] _ rfl L0;have hl:layClean mask hs.toArray=some ow:=by
  unfold layClean;rw[<-Array.foldl_toList];show(hs.foldl (lcF mask) (some (Array.replicate (mask+1) none,0))).map (·.1)=_;rw[show(0:Nat)=([]:List Int).length from rfl,f];rfl
 have hr:t.relaid hs.toArray wanted=some ({ mask,place:=((lv mask ow).map (·.1)).toArray,dummies:=#[],finger:=t.finger,led:=t.led,moves:=t.movedTo mask,plain:=t.plain },((lv mask ow).map (·.2)).toArray):=by
  unfold relaid laid;rw[hm,hl];rfl
 have ll:(lv mask ow).length=hs.length:=by have:=L.perm.length_eq;simpa using this
 have gl:∀i,((lv mask ow).map (·.1)).toArray.getD i 0=((lv mask ow)[i]?.map (·.1)).getD 0:=fun i=>by rw[fU];simp
 have psz:((lv mask ow).map (·.1)).toArray.size=hs.length:=by simp[ll]
 have occ:∀j,j<=mask->ocO ow j->Occ ((lv mask ow).map (·.1)).toArray j:=fun j hj q=>by
  cases c:ow.getD j none with
  |none=>exact absurd (by rw[qH (by rw[L.sz];lia) (some 0) none];exact c) q
  |some i =>
   obtain⟨l,hl⟩:=List.mem_iff_getElem?.mp (BL L.sz c);exact⟨l,by rw[psz,<-ll];exact(List.getElem?_eq_some_iff.mp hl).1,by rw[gl,hl];rfl⟩
 refine⟨_,_,hr,rfl,rfl,by show mask+1=_;lia,by simpa using L.perm,psz,⟨by simp,?_,?_,rfl,⟨e,e3,hk⟩,by show((lv mask ow).map (·.1)).toArray.size<=mask;lia,?_⟩⟩
 ·intro i j hij hj;rw[psz]at hj;have:=List.pairwise_iff_getElem.mp (CH (mask:=mask) ow) i j (by simp;lia) (by simp;lia) hij;show((lv mask ow).map (·.1)).toArray.getD i 0<((lv mask ow).map (·.1)).toArray.getD j 0;rw[gl,gl,List.getElem?_eq_getElem (by lia),List.getElem?_eq_getElem (by lia)];simpa using this
 ·intro i hi;rw[psz]at hi;show((lv mask ow).map (·.1)).toArray.getD i 0<=mask;rw[gl,List.getElem?_eq_getElem (by lia)];exact(zr (List.getElem_mem (by lia))).1
 ·intro i h hi;show ∃n,(pth mask h n).j=((lv mask ow).map (·.1)).toArray.getD i 0/\∀m,m<n->Occ ((lv mask ow).map (·.1)).toArray (pth mask h m).j;simp only[List.getElem?_map]at hi;cases c:(lv mask ow)[i]? with
  |none=>rw[c]at hi;cases hi
  |some jk =>
   obtain⟨j,k⟩:=jk;rw[c]at hi;have mem:=List.mem_of_getElem? c;have hk':k<hs.length:=List.mem_range.mp (L.perm.mem_iff.mp (List.mem_map.mpr ⟨_,mem,rfl⟩));have hh:hs[k]?=some h:=by
    have:hs.getD k 0=h:=by simpa using hi
    rw[List.getElem?_eq_getElem hk',<-this];simp[hk']
   obtain⟨n,a,b⟩:=L.pr j k h (zr mem).2 hh;exact⟨n,by rw[gl,c];exact a,fun m hm=>occ _ (qW m) (b m hm)⟩
end L2
namespace L2
open PySem PySem.SetTable PySem.SeqAt
structure TK(prog:Program) (w:World) (τ:Type) where
 is:Heap->τ->Value->Prop
 hash:τ->Int
 room:Around->Prop
 pyHash:∀{A:Around} {E:Value->Shared->Prop} {s:Shared} {x:τ} {v:Value} {Q:Int->Shared->Prop},room A->is s.heap x v->(∀t,s.toks<=t->Q (hash x) { s with toks:=t })->wpAny (model prog w) A (PySem.pyHash v) Q E s
 eqB:∀{A:Around} {s:Shared} {x y:τ} {v u:Value},room A->is s.heap x v->is s.heap y u->∃b:Bool,(b=true↔x=y)/\EqAt A s v u b
 quiet:∀{A:Around} {E:Value->Shared->Prop} {s:Shared} {x:τ} {v:Value} {Q:Bool->Shared->Prop},room A->is s.heap x v->Q true s->wpAny (model prog w) A (eqIsQuiet 8 v) Q E s
 noCls:∀{A:Around} {E:Value->Shared->Prop} {s:Shared} {x:τ} {v:Value} {Q:Bool->Shared->Prop},room A->is s.heap x v->Q false s->wpAny (model prog w) A (ofAClassStatement 8 v) Q E s
 byV:∀{A:Around} {E:Value->Shared->Prop} {s:Shared} {x:τ} {v:Value} {Q:Bool->Shared->Prop},room A->is s.heap x v->(∀b,Q b s)->wpAny (model prog w) A (hashByValue 8 v) Q E s
 ref:∀{h:Heap} {x:τ} {v:Value},is h x v->∃a,v=.ref a
variable{prog:Program}{w:World}{τ:Type}{κ:TK prog w τ}{A:Around}{E:Value->Shared->Prop}{s:Shared}
structure Els(κ:TK prog w τ) (h:Heap) (es:Array (Int×Value)) (zs:List τ):Prop where
 len:es.size=zs.length
 at_:∀(i:Nat) z,zs[i]?=some z->∃v,es[i]?=some (κ.hash z,v)/\κ.is h z v
def cP(es:Array (Int×Value)):List Int:=es.toList.map (·.1)
theorem Els.of{h:Heap}{es:Array (Int×Value)}{zs:List τ}(L:Els κ h es zs) {i:Nat}{e:Int×Value}(g:es[i]?=some e):∃z,zs[i]?=some z/\e.1=κ.hash z/\κ.is h z e.2:=by
 have hi:i<zs.length:=by rw[<-L.len];exact(Array.getElem?_eq_some_iff.mp g).1
 obtain⟨v,g',q⟩:=L.at_ i zs[i] (List.getElem?_eq_getElem hi);rw[g]at g';cases g';exact⟨_,List.getElem?_eq_getElem hi,rfl,q⟩
theorem Cq{x:τ}{v:Value}(hr:κ.room A) (hx:κ.is s.heap x v) {Q:Bool->Shared->Prop}(h:Q false s):∀(l:List Value),(∀u∈l,∃y,κ.is s.heap y u)->wpAny (model prog w) A (searchCouldBeSeen v l) Q E s:=by
 intro l hl;unfold searchCouldBeSeen;refine wpAny_bind ?_;refine wpAny_forIn_list _ (fun rest b s'=>s'=s/\b=(none,())/\∀u∈rest,∃y,κ.is s.heap y u) _ ?_ ?_ _ _ ⟨rfl,rfl,hl⟩
 ·rintro u rest b s' ⟨rfl,rfl,hr'⟩;obtain⟨y,hy⟩:=hr' u (.head _);obtain⟨a,rfl⟩:=κ.ref hx;obtain⟨c,rfl⟩:=κ.ref hy;have rest':∀u∈rest,∃y,κ.is s'.heap y u:=fun u hu=>hr' u (.tail _ hu);dsimp only
  split
  ·exact wpAny_pure ⟨rfl,rfl,rest'⟩
  ·refine wpAny_bind (κ.quiet hr hx ?_);simp only[Bool.not_true,Bool.false_eq_true,if_false];refine wpAny_bind (κ.quiet hr hy ?_);simp only[Bool.not_true,Bool.false_eq_true,if_false];refine wpAny_bind (κ.noCls hr hx ?_);simp only[Bool.false_eq_true,if_false];refine wpAny_bind (κ.noCls hr hy ?_);simp only[Bool.false_eq_true,if_false];exact wpAny_pure ⟨rfl,rfl,rest'⟩
 ·rintro b s' ⟨rfl,rfl,_⟩;exact wpAny_pure h
theorem Br{a:Addr}{o:Obj}{es:Array (Int×Value)}{ep:Nat}{t:SetTable}{zs:List τ}{x:τ}{v:Value}{n0:Nat}(hr:κ.room A) (hx:κ.is s.heap x v) (ho:s.heap.get? a=some o) (hd:o.data=.set es ep t) (L:Els κ s.heap es zs) (T:TB t (cP es))
  (f0:¬ Occ t.place (pth t.mask (κ.hash x) n0).j) (f1:∀m,m<n0->Occ t.place (pth t.mask (κ.hash x) m).j) {Q:SetFound->Shared->Prop} (hy:x∈zs->∀i,Q (.there i) s) (hn:x∉zs->Q (.free (pth t.mask (κ.hash x) n0).j false) s) :
  ∀F n stand,stand.getD (t.probeStart (κ.hash x))=pth t.mask (κ.hash x) n->n<=n0->n0-n<F->n0<10*turns t.mask->(∀l,l<n->∀i,i<t.place.size->t.place.getD i 0=(pth t.mask (κ.hash x) l).j->zs[i]?≠some x)->wpAny (model prog w) A (setSearchFrom a v (κ.hash x) true F stand) Q E s:=by
 have lens:(cP es).length=es.size:=by simp[cP]
 have fit:t.fits es.size=true:=by
  unfold SetTable.fits fill;rw[T.dm,T.sz,lens];have:=T.few;rw[T.sz,lens]at this;simpa using this
 have gw:t.gaveWay=false:=by
  obtain⟨k,k3,hk⟩:=T.pw;unfold gaveWay;obtain⟨m,rfl⟩:∃m,k=m+1:=⟨k-1,by lia⟩;rw[Nat.pow_succ]at hk;have:t.mask % 2=1:=by lia
  rw[this];rfl
 have uniq:∀{i k},i<t.place.size->k<t.place.size->t.place.getD i 0=t.place.getD k 0->i=k:=fun {i k} hi hk e=>by
  rcases Nat.lt_trichotomy i k with q|q|q
  ·have:=T.up i k q hk;lia
  ·exact q
  ·have:=T.up k i q hi;lia
 intro F
 induction F with
 |zero=>intro n stand _ _ h3;lia
 |succ F ih =>
  intro n stand e h2 h3 h4 h5;unfold setSearchFrom;refine wpAny_bind (wpAny_setState_of ho hd fit ?_);dsimp only;rw[gw];simp only[Bool.false_eq_true,if_false];unfold SetTable.probe;rw[e];obtain⟨ha,hha⟩:∃ha:Nat->Int,ha=fun i=>(es[i]?.map (·.1)).getD 0:=⟨_,rfl⟩;obtain⟨m,m1,m2,m3,m4⟩:=oZ T f0 f1 (ha:=ha) (10*turns t.mask) n h2 (by lia);have hat:∀(i:Nat) z,zs[i]?=some z->ha i=κ.hash z:=fun i z hz=>by
   obtain⟨u,g,_⟩:=L.at_ i z hz;rw[hha];simp[g]
  have skip:∀l,l<m->∀i,i<t.place.size->t.place.getD i 0=(pth t.mask (κ.hash x) l).j->zs[i]?≠some x:=fun l hl i hi he hz=>by
   rcases Nat.lt_or_ge l n with q|q
   ·exact h5 l q i hi he hz
   ·obtain⟨k,k1,k2,k3⟩:=m3 l q hl;obtain rfl:=uniq hi k1 (he.trans k2.symm);exact k3 (hat _ _ hz)
  rcases m4 with⟨rfl,em⟩|⟨mlt,i,i1,i2,i3,em⟩
  ·have em2:∀f:Nat->Int,f=ha->probe.go t f (κ.hash x) (10*turns t.mask) (pth t.mask (κ.hash x) n)=probe.go t ha (κ.hash x) (10*turns t.mask) (pth t.mask (κ.hash x) n):=fun f hf=>by rw[hf]
   rw[em2 _ ?_,em]
   rotate_left
   ·rw[hha];rfl
   dsimp only;refine wpAny_pure (hn fun hz=>?_);obtain⟨i,hi⟩:=List.mem_iff_getElem?.mp hz;have hi':i<t.place.size:=by rw[T.sz,lens,L.len];exact(List.getElem?_eq_some_iff.mp hi).1
   obtain⟨u,g,_⟩:=L.at_ i x hi;obtain⟨nn,a1,a2⟩:=T.pr i (κ.hash x) (by rw[cP,List.getElem?_map,Array.getElem?_toList,g];rfl);have lt:nn<m:=by
    rcases Nat.lt_trichotomy nn m with q|q|q
    ·exact q
    ·subst q;exact absurd ⟨i,hi',a1.symm⟩ f0
    ·exact absurd (a2 m q) f0
   exact skip nn lt i hi' a1.symm hi
  ·have em2:∀f:Nat->Int,f=ha->probe.go t f (κ.hash x) (10*turns t.mask) (pth t.mask (κ.hash x) n)=probe.go t ha (κ.hash x) (10*turns t.mask) (pth t.mask (κ.hash x) n):=fun f hf=>by rw[hf]
   rw[em2 _ ?_,em]
   rotate_left
   ·rw[hha];rfl
   dsimp only;have iz:i<zs.length:=by rw[<-L.len,<-lens,<-T.sz];exact i1
   obtain⟨u,gu,hu⟩:=L.at_ i zs[i] (List.getElem?_eq_getElem iz);have main:wpAny (model prog w) A (do
     let some (_,y):=es[i]?|unsupported "internal:set-entry"
     let equal <-holding [y] (eqBool y v)
     let(es',_,t') <-setState a
     if true&&equal then return .there none
     let some same:=t'.sameMemory t.moves t.mask|unsupported "set.changed-during-lookup:is-the-new-block-at-the-old-address"
     let still <-match (if same then t'.slot (pth t.mask (κ.hash x) m).j else .empty)with
      |.live i'=>match es'[i']? with
       |some (_,y')=>do pure (if <-isSame y' y then some i' else none)
       |none=>pure none
      |_=>pure none
     match still with
     |none=>rule "set.search.anew";setSearchFrom a v (κ.hash x) true F none
     |some i'=>if equal then return .there (some i')else setSearchFrom a v (κ.hash x) true F (some (pth t.mask (κ.hash x) (m+1)))) Q E s:=by
    rw[gu];dsimp only;obtain⟨b,hb,eq⟩:=κ.eqB hr hu hx;refine wpAny_bind (wpAny_holding (eq prog w _ _ ?_));refine wpAny_bind (wpAny_setState_of ho hd fit ?_);dsimp only;cases b with
    |true =>
     have:zs[i]=x:=hb.mp rfl;exact wpAny_pure (hy (this▸List.getElem_mem iz) _)
    |false =>
     have ne:zs[i]≠x:=fun z=>by have:=hb.mpr z;cases this
     simp only[Bool.and_false,Bool.false_eq_true,if_false];rw[show t.sameMemory t.moves t.mask=some true by simp[sameMemory]];dsimp only;rw[mN T.up i1 i2];simp only[if_true];rw[gu];dsimp only;obtain⟨c,rfl⟩:=κ.ref hu;refine wpAny_bind (wpAny_isSame_ref_self (wpAny_bind (wpAny_pure ?_)));simp only[if_true];refine ih (m+1) _ rfl mlt (by lia) h4 fun l hl k k1 k2=>?_;rcases Nat.lt_or_ge l m with q|q
     ·exact skip l q k k1 k2
     ·obtain rfl:l=m:=by lia
      obtain rfl:=uniq k1 i1 (k2.trans i2.symm);rw[List.getElem?_eq_getElem iz];intro z;exact ne (Option.some.inj z)
   by_cases led:t.led=true
   ·rw[led];simp only[Bool.not_true,Bool.false_eq_true,if_false];exact main
   ·rw[show t.led=false by simpa using led];simp only[Bool.not_false,if_true];refine wpAny_bind (Cq hr hx ?_ _ fun u hu=>?_)
    ·simp only[Bool.false_eq_true,if_false];exact main
    ·obtain⟨e,he,rfl⟩:=List.mem_map.mp hu;have he':e∈es:=(Array.mem_filter.mp (Array.mem_def.mpr he)).1;obtain⟨k,hk,ek⟩:=Array.mem_iff_getElem.mp he';obtain⟨z,_,_,q⟩:=L.of (i:=k) (e:=e) (by rw[Array.getElem?_eq_getElem hk,ek]);exact⟨z,q⟩
variable{prog:Program}{w:World}{τ:Type}{κ:TK prog w τ}{A:Around}{E:Value->Shared->Prop}{s:Shared}
structure B5(κ:TK prog w τ) (h:Heap) (a:Addr) (o:Obj) (es:Array (Int×Value)) (ep:Nat) (t:SetTable) (zs:List τ):Prop where
 get:h.get? a=some o
 ex:o.ExactSet
 data:o.data=.set es ep t
 el:Els κ h es zs
 nd:zs.Nodup
 tb:TB t (cP es)
 led:t.led=!w.params.followText "set-order"
 roomy:es.size*5<t.mask*3
 small:t.mask<=7∨t.mask<=8*es.size
def iF(κ:TK prog w τ) (h:Heap) (a:Addr) (xs:List τ):Prop:=∃o es ep t zs,B5 κ h a o es ep t zs/\zs.Perm xs
theorem Els.keep{h h':Heap}{es:Array (Int×Value)}{zs:List τ}(L:Els κ h es zs) (k:∀z v,κ.is h z v->κ.is h' z v):Els κ h' es zs:=⟨L.len,fun i z hz=>by obtain⟨v,g,q⟩:=L.at_ i z hz;exact⟨v,g,k z v q⟩⟩
theorem iF.mono{h h':Heap}{a:Addr}{xs:List τ}(S:iF κ h a xs) (k:∀o,h.get? a=some o->h'.get? a=some o) (k2:∀z v,κ.is h z v->κ.is h' z v):iF κ h' a xs:=by
 obtain⟨o,es,ep,t,zs,q,p⟩:=S;exact⟨o,es,ep,t,zs,⟨k _ q.get,q.ex,q.data,q.el.keep k2,q.nd,q.tb,q.led,q.roomy,q.small⟩,p⟩
theorem sf{h:Heap}{es:Array (Int×Value)}{zs:List τ}{x:τ}{v:Value}{p:Nat}(L:Els κ h es zs) (hx:κ.is h x v) (hp:p<=zs.length):Els κ h (insertAt es p (κ.hash x,v)) (zs.take p++x::zs.drop p):=by
 have lt:(es.toList.take p).length=p:=by rw[List.length_take,Array.length_toList,L.len];lia
 have lz:(zs.take p).length=p:=by rw[List.length_take];lia
 refine⟨by rw[fh _ _ _ (by rw[L.len];exact hp),List.length_append,List.length_cons,lz,List.length_drop,L.len];lia,fun i z hz=>?_⟩;have gi:(insertAt es p (κ.hash x,v))[i]?=(es.toList.take p++(κ.hash x,v)::es.toList.drop p)[i]?:=by rw[<-gO,Array.getElem?_toList]
 rw[gi];rw[List.getElem?_append,lz]at hz;rw[List.getElem?_append,lt]
 by_cases c1:i<p
 ·rw[if_pos c1,List.getElem?_take_of_lt c1]at hz;rw[if_pos c1,List.getElem?_take_of_lt c1,Array.getElem?_toList];exact L.at_ i z hz
 ·rw[if_neg c1]at hz ⊢
  by_cases c2:i=p
  ·rw[c2,Nat.sub_self,List.getElem?_cons_zero]at hz ⊢;cases hz;exact⟨v,rfl,hx⟩
  ·obtain⟨m,hm⟩:∃m,i-p=m+1:=⟨i-p-1,by lia⟩;rw[hm,List.getElem?_cons_succ,List.getElem?_drop]at hz ⊢;rw[Array.getElem?_toList];exact L.at_ _ z hz
theorem TB.plain{t:SetTable}{hs:List Int}(T:TB t hs) (b:Bool):TB { t with plain:=b } hs:=⟨T.sz,T.up,T.le,T.dm,T.pw,T.few,T.pr⟩
theorem TB.fit{t:SetTable}{es:Array (Int×Value)}(T:TB t (cP es)):t.fits es.size=true:=by
 have lens:(cP es).length=es.size:=by simp[cP]
 unfold SetTable.fits fill;rw[T.dm,T.sz,lens];have:=T.few;rw[T.sz,lens]at this;simpa using this
theorem sI{h:Heap}{a:Addr}{o:Obj}{es:Array (Int×Value)}{ep:Nat}{t:SetTable}(ho:h.get? a=some o) (hd:o.data=.set es ep t) (es':Array (Int×Value)) (t':SetTable) :
  (h.update a (Obj.putSet es' t')).get? a=some { o with data:=.set es' (ep+1) t' }:=by
 have:=Heap.get?_update_self (Obj.putSet es' t') ho (by rw[putSet_of es' t' hd];rfl);rw[putSet_of es' t' hd]at this;exact this
theorem o6{es:Array (Int×Value)}:∀{l:List Nat},(∀k∈l,k<es.size)->(l.filterMap fun k=>es[k]?)=l.map fun k=>es.getD k (0,.none)
 |[],_=>rfl
 |k::l,h=>by
  have hk:=h k (.head _);rw[List.filterMap_cons,Array.getElem?_eq_getElem hk,List.map_cons,o6 fun j hj=>h j (.tail _ hj)];simp[Array.getD,hk]
theorem nG{l:List τ}{k:Nat}(h:k<l.length) (d:τ):l[k]?=some (l.getD k d):=by rw[List.getD_eq_getElem?_getD,List.getElem?_eq_getElem h];rfl
theorem kh(l:List τ) (d:τ):(List.range l.length).map (fun k=>l.getD k d)=l:=by
 refine List.ext_getElem? fun i=>?_;rw[List.getElem?_map];rcases Nat.lt_or_ge i l.length with q|q
 ·rw[List.getElem?_range q,nG q d];rfl
 ·rw[List.getElem?_eq_none (by rw[List.length_range];exact q),List.getElem?_eq_none q];rfl
theorem EF{a:Addr}{xs:List τ}{x:τ}{v:Value}{Q:Bool->Shared->Prop}(hr:κ.room A) (hx:κ.is s.heap x v) (hS:iF κ s.heap a xs) (few:xs.length<1000) (kp:∀h' z v,Heap.SameBut a s.heap h'->κ.is s.heap z v->κ.is h' z v)
  (h:∀b h',Heap.SameBut a s.heap h'->(x∈xs->iF κ h' a xs)->(x∉xs->iF κ h' a (xs++[x]))->Q b { s with heap:=h' }):wpAny (model prog w) A (setAddHashed a v (κ.hash x)) Q E s:=by
 obtain⟨o,es,ep,t,zs,q,pm⟩:=hS;have lens:(cP es).length=es.size:=by simp[cP]
 have lz:es.size=xs.length:=by rw[q.el.len,pm.length_eq]
 obtain⟨n0,n1,f0,f1⟩:=q.tb.free (κ.hash x);have hm:t.mask<=8000:=by have:=q.small;lia
 obtain⟨r,rfl⟩:=κ.ref hx;have es0:s={ s with heap:=s.heap }:=by cases s;rfl
 unfold setAddHashed setAddHashedIn;refine wpAny_holding (wpAny_bind (wpAny_setState_of q.get q.data q.tb.fit ?_));dsimp only;rw[show byScan (.ref r) es=false by unfold byScan;rfl];simp only[Bool.false_eq_true,if_false];unfold setSearch;refine wpAny_bind (Br hr hx q.get q.data q.el q.tb f0 f1 (fun hz i=>?_) (fun hz=>?_) 100000 0 none rfl (Nat.zero_le _) (by lia) (by unfold turns;lia) (fun l hl=>by lia))
 ·refine wpAny_pure ?_;rw[es0];exact h _ s.heap (Heap.SameBut.refl a s.heap) (fun _=>⟨o,es,ep,t,zs,q,pm⟩) fun hn=>absurd (pm.mem_iff.mp hz) hn
 ·have hn:x∉xs:=fun z=>hz (pm.mem_iff.mpr z);have fl:t.place.size+1<=t.mask:=by
   have:=q.roomy;have:=q.tb.sz;obtain⟨k,k3,hk⟩:=q.tb.pw;have:2 ^ 3<=2 ^ k:=Nat.pow_le_pow_right (by decide) k3
   lia
  obtain⟨p,hp,e2,T1,l1,_,m1,z1⟩:=q.tb.put f0 f1 fl;rw[lens]at hp;dsimp only;refine wpAny_bind (wpAny_setState_of q.get q.data q.tb.fit ?_);dsimp only;generalize ht:t.put (pth t.mask (κ.hash x) n0).j=tp at *
  obtain⟨t1,p'⟩:=tp;dsimp only at e2 T1 l1 m1 z1 ⊢;subst e2;have pz:p'<=zs.length:=by rw[<-q.el.len];exact hp
  have hso:cP (insertAt es p' (κ.hash x,.ref r))=(cP es).take p'++κ.hash x::(cP es).drop p':=by unfold cP;rw[gO];simp[List.map_take,List.map_drop]
  have iz:(insertAt es p' (κ.hash x,.ref r)).size=es.size+1:=fh _ _ _ hp;have nd1:(zs.take p'++x::zs.drop p').Nodup:=by
   rw[List.perm_middle.nodup_iff,List.take_append_drop,List.nodup_cons];exact⟨hz,q.nd⟩
  have pm1:(zs.take p'++x::zs.drop p').Perm (xs++[x]):=by
   refine List.perm_middle.trans ?_;rw[List.take_append_drop];exact(List.Perm.cons _ pm).trans (List.perm_append_singleton _ _).symm
  have go:∀t2:SetTable,TB t2 (cP (insertAt es p' (κ.hash x,.ref r)))->t2.led=t.led->t2.mask=t.mask->t2.place.size=t.place.size+1->wpAny (model prog w) A (do
     storeSet a (insertAt es p' (κ.hash x,.ref r)) t2
     if !false&&t2.tooFull then setRelay a (grown (es.size+1))
     return true) Q E s:=by
   intro t2 T2 ld mk sz2;refine wpAny_bind (wpAny_storeSet_of q.get q.data ?_ (fits_of_scanBound (by unfold scanBound;lia)));have ho1:=sI q.get q.data (insertAt es p' (κ.hash x,.ref r)) t2;have sb1:=Heap.SameBut.update s.heap a (Obj.putSet (insertAt es p' (κ.hash x,.ref r)) t2);generalize hh1:s.heap.update a (Obj.putSet (insertAt es p' (κ.hash x,.ref r)) t2)=h1 at *
   have el1:Els κ h1 (insertAt es p' (κ.hash x,.ref r)) (zs.take p'++x::zs.drop p'):=(sf q.el hx pz).keep fun z v hz=>kp _ z v sb1 hz;have tf:t2.tooFull=decide ((es.size+1)*5>=t.mask*3):=by
    unfold tooFull fill;rw[T2.dm,sz2,q.tb.sz,lens,mk];simp
   by_cases c:(es.size+1)*5>=t.mask*3
   ·rw[tf,decide_eq_true c];simp only[Bool.not_false,Bool.and_true,if_true];refine wpAny_bind ?_;unfold setRelay;refine wpAny_bind (wpAny_setState_of (s:={ s with heap:=h1 }) ho1 rfl T2.fit ?_);dsimp only;have gr:grown (es.size+1)=(es.size+1)*4:=by unfold grown;rw[if_neg (by lia)]
    rw[gr];obtain⟨e,e3,ee,el,eb⟩:=ph (n:=(es.size+1)*4) (by lia);obtain⟨t3,order,er,ld3,_,mk3,po,sz3,T3⟩:=yD (t:=t2) (hs:=cP (insertAt es p' (κ.hash x,.ref r))) (wanted:=(es.size+1)*4) (by simp only[cP,List.length_map,Array.length_toList];rw[iz];lia) (by lia) (by lia);have ls:(cP (insertAt es p' (κ.hash x,.ref r))).length=es.size+1:=by simp[cP,iz]
    rw[ls]at po sz3;rw[if_neg (by rw[ee,sizeLine_eq];lia)];have ea:(insertAt es p' (κ.hash x,.ref r)).map (·.1)=(cP (insertAt es p' (κ.hash x,.ref r))).toArray:=by apply Array.toList_inj.mp;simp[cP]
    rw[ea,er];have inr:∀k∈order.toList,k<(insertAt es p' (κ.hash x,.ref r)).size:=fun k hk=>by rw[iz];exact List.mem_range.mp (po.mem_iff.mp hk)
    have eo:(order.filterMap fun k=>(insertAt es p' (κ.hash x,.ref r))[k]?).toList=order.toList.map fun k=>(insertAt es p' (κ.hash x,.ref r)).getD k (0,.none):=by
     rw[Array.toList_filterMap,o6 inr]
    generalize he2:(order.filterMap fun k=>(insertAt es p' (κ.hash x,.ref r))[k]?)=es2 at *
    have z2:es2.size=es.size+1:=by rw[<-Array.length_toList,eo,List.length_map,po.length_eq,List.length_range]
    refine wpAny_bind ?_;show wpAny _ _ (do
     let es':=order.filterMap fun k=>(insertAt es p' (κ.hash x,.ref r))[k]?
     if es'.size != (insertAt es p' (κ.hash x,.ref r)).size then unsupported "internal:set-table-lost-an-element"
     pure (es',t3)) _ _ _
    dsimp only;rw[he2,if_neg (by rw[z2,iz];simp)];refine wpAny_pure ?_;dsimp only;refine wpAny_storeSet_of ho1 rfl ?_ (fits_of_scanBound (by unfold scanBound;lia));have ho2:=sI (h:=h1) ho1 rfl es2 t3;refine wpAny_pure (h _ _ (sb1.trans (Heap.SameBut.update _ a _)) (fun z=>absurd z hn) fun _=>⟨_,es2,_,t3,order.toList.map fun k=>(zs.take p'++x::zs.drop p').getD k x,⟨ho2,q.ex,rfl,?_,?_,?_,?_,?_,?_⟩,?_⟩)
    ·refine⟨by rw[z2,List.length_map,po.length_eq,List.length_range],fun i z hz'=>?_⟩;rw[List.getElem?_map]at hz';cases c2:order.toList[i]? with
     |none=>rw[c2]at hz';cases hz'
     |some k =>
      rw[c2]at hz';have hk:=inr k (List.mem_of_getElem? c2);have hk':k<(zs.take p'++x::zs.drop p').length:=by rw[<-el1.len];exact hk
      obtain⟨v2,g2,q2⟩:=el1.at_ k z (by rw[nG hk' x];exact hz');refine⟨v2,?_,kp _ z v2 (sb1.trans (Heap.SameBut.update _ a _)) ?_⟩
      ·rw[<-Array.getElem?_toList,eo,List.getElem?_map,c2];simp[Array.getD_eq_getD_getElem?,g2]
      ·obtain⟨v3,g3,q3⟩:=(sf q.el hx pz).at_ k z (by rw[nG hk' x];exact hz');rw[g2]at g3;cases g3;exact q3
    ·refine((po.map fun k=>(zs.take p'++x::zs.drop p').getD k x).nodup_iff).mpr ?_;rw[<-iz,el1.len,kh];exact nd1
    ·have:cP es2=order.toList.map fun k=>(cP (insertAt es p' (κ.hash x,.ref r))).getD k 0:=by
      unfold cP;rw[eo,List.map_map];refine List.map_congr_left fun k hk=>?_;have hk:=inr k hk;simp[Array.getD,hk,List.getD]
     rw[this];exact T3
    ·rw[ld3,ld];exact q.led
    ·have:=mk3;rw[ee]at this;rw[z2];lia
    ·right;have:=mk3;rw[ee]at this;rw[z2];rcases eb with eb|eb<;>lia
    ·refine(po.map _).trans ?_;rw[<-iz,el1.len,kh];exact pm1
   ·rw[tf,decide_eq_false c];simp only[Bool.not_false,Bool.and_false,Bool.false_eq_true,if_false];refine wpAny_pure (h _ _ sb1 (fun z=>absurd z hn) fun _=>⟨_,_,_,t2,_,⟨ho1,q.ex,rfl,el1,nd1,T2,by rw[ld];exact q.led,by rw[iz,mk];lia,?_⟩,pm1⟩);rw[mk,iz];have:=q.small;lia
  rw[<-hso]at T1
  by_cases pl:t1.plain=true
  ·rw[if_pos pl];refine wpAny_bind (κ.byV hr hx fun b=>?_);cases b with
   |true=>simp only[if_true];exact go t1 T1 l1 m1 z1
   |false=>simp only[Bool.false_eq_true,if_false];exact go _ (T1.plain false) l1 m1 z1
  ·rw[if_neg pl];refine wpAny_bind (wpAny_pure ?_);simp only[if_true];exact go t1 T1 l1 m1 z1
end L2
namespace L2
open PySem PySem.Spec PyProof.Rows PySem.SeqAt
inductive KD where
 |int (i:Int)|str (x:Str)|tup (ks:List KD)
 deriving Inhabited
def KAt(h:Heap):Nat->KD->Value->Prop
 |_,.int i,v=>∃t,v=.int i t
 |_,.str x,v=>∃t,v=.str x t
 |0,.tup _,_=>False
 |n+1,.tup ds,v=>∃(a:Addr) (its:Array Value),v=.ref a/\IsTup h a its/\its.size=ds.length/\∀(i:Nat) d u,ds[i]?=some d->its[i]?=some u->KAt h n d u
def hK(w:World):Nat->KD->Int
 |_,.int i=>hashInt i
 |_,.str x=>hashStr w x
 |0,.tup _=>0
 |n+1,.tup ds=>reduceHash (Builtin.Tuple.tupleHashOf (ds.map (hK w n)))
theorem kn{h:Heap}{n:Nat}{i:Int}{v:Value}:KAt h n (.int i) v↔∃t,v=.int i t:=by cases n<;>exact .rfl
theorem lC{h:Heap}{n:Nat}{i:Str}{v:Value}:KAt h n (.str i) v↔∃t,v=.str i t:=by cases n<;>exact .rfl
theorem wR{h h':Heap}{a:Addr}{its:Array Value}(t:IsTup h a its) (k:∀o,o.cls=.type "tuple"->h.get? a=some o->h'.get? a=some o):IsTup h' a its :=
 let⟨o,ho,hc,hd⟩:=t
 ⟨o,k _ hc ho,hc,hd⟩
theorem KAt.upT{h h':Heap}(k:∀b xs,IsTup h b xs->IsTup h' b xs):∀{n:Nat}{d:KD}{v:Value},KAt h n d v->KAt h' n d v:=by
 intro n
 induction n with
 |zero=>intro d v q;cases d<;>exact q
 |succ n ih =>
  intro d v q;cases d with
  |int _=>exact q
  |str _=>exact q
  |tup ds =>
   obtain⟨a,its,e,t,z,r⟩:=q;exact⟨a,its,e,k a _ t,z,fun i d u h1 h2=>ih (r i d u h1 h2)⟩
theorem KAt.up{h h':Heap}(k:∀b o,o.cls=.type "tuple"->h.get? b=some o->h'.get? b=some o) {n:Nat} {d:KD} {v:Value} (q:KAt h n d v):KAt h' n d v:=q.upT fun b xs t=>wR t (k b)
theorem KAt.same{h:Heap}:∀(n:Nat) {d e:KD}{v:Value},KAt h n d v->KAt h n e v->d=e:=by
 intro n
 induction n with
 |zero =>
  intro d e v h1 h2;cases d with
  |int i=>cases e with
   |int j=>obtain⟨_,rfl⟩:=h1;obtain⟨_,z⟩:=h2;cases z;rfl
   |str j=>obtain⟨_,rfl⟩:=h1;obtain⟨_,z⟩:=h2;cases z
   |tup _=>exact h2.elim
  |str i=>cases e with
   |int j=>obtain⟨_,rfl⟩:=h1;obtain⟨_,z⟩:=h2;cases z
   |str j=>obtain⟨_,rfl⟩:=h1;obtain⟨_,z⟩:=h2;cases z;rfl
   |tup _=>exact h2.elim
  |tup _=>exact h1.elim
 |succ n ih =>
  intro d e v h1 h2;cases d with
  |int i=>cases e with
   |int j=>obtain⟨_,rfl⟩:=h1;obtain⟨_,z⟩:=h2;cases z;rfl
   |str j=>obtain⟨_,rfl⟩:=h1;obtain⟨_,z⟩:=h2;cases z
   |tup _=>obtain⟨_,rfl⟩:=h1;obtain⟨_,_,z,_⟩:=h2;cases z
  |str i=>cases e with
   |int j=>obtain⟨_,rfl⟩:=h1;obtain⟨_,z⟩:=h2;cases z
   |str j=>obtain⟨_,rfl⟩:=h1;obtain⟨_,z⟩:=h2;cases z;rfl
   |tup _=>obtain⟨_,rfl⟩:=h1;obtain⟨_,_,z,_⟩:=h2;cases z
  |tup ds=>cases e with
   |int j=>obtain⟨_,rfl⟩:=h2;obtain⟨_,_,z,_⟩:=h1;cases z
   |str j=>obtain⟨_,rfl⟩:=h2;obtain⟨_,_,z,_⟩:=h1;cases z
   |tup es =>
    obtain⟨a1,its,e1,⟨o,ho,hc,c,hd⟩,z,r⟩:=h1;obtain⟨a2,its2,e2,⟨o2,ho2,hc2,c2,hd2⟩,z2,r2⟩:=h2;subst e1;cases e2;rw[ho]at ho2;cases ho2;rw[hd]at hd2;cases hd2;congr 1;refine List.ext_getElem? fun i=>?_;rcases Nat.lt_or_ge i ds.length with q|q
    ·have q2:i<es.length:=by lia
     rw[List.getElem?_eq_getElem q,List.getElem?_eq_getElem q2];have q3:i<its.size:=by lia
     exact congrArg some (ih (r i _ _ (List.getElem?_eq_getElem q) (Array.getElem?_eq_getElem q3)) (r2 i _ _ (List.getElem?_eq_getElem q2) (Array.getElem?_eq_getElem q3)))
    ·rw[List.getElem?_eq_none q,List.getElem?_eq_none (by lia)]
def drK:Nat->KD->Nat
 |_,.int _=>1
 |_,.str _=>1
 |0,.tup _=>0
 |n+1,.tup ds=>(ds.map (drK n)).sum+1
section
variable{prog:Program}{w:World}{A:Around}{E:Value->Shared->Prop}{s:Shared}
theorem KAt.eq:∀(n:Nat) {A:Around}{d e:KD}{v u:Value},A.units+n<cLine->KAt s.heap n d v->KAt s.heap n e u->∃b:Bool,(b=true↔d=e)/\EqAt A s v u b:=by
 intro n
 induction n with
 |zero =>
  intro A d e v u hu q1 q2;cases d with
  |tup _=>exact q1.elim
  |int i=>obtain⟨t,rfl⟩:=q1;cases e with
   |tup _=>exact q2.elim
   |int j=>obtain⟨t',rfl⟩:=q2;exact⟨i==j,by simp,EqAt.int_int _ _ _ _⟩
   |str j=>obtain⟨t',rfl⟩:=q2;exact⟨false,by simp,EqAt.int_str _ _ _ _⟩
  |str i=>obtain⟨t,rfl⟩:=q1;cases e with
   |tup _=>exact q2.elim
   |int j=>obtain⟨t',rfl⟩:=q2;exact⟨false,by simp,EqAt.str_int _ _ _ _⟩
   |str j=>obtain⟨t',rfl⟩:=q2;exact⟨i==j,by simp,EqAt.str_str _ _ _ _⟩
 |succ n ih =>
  intro A d e v u hu q1 q2;cases d with
  |int i=>obtain⟨t,rfl⟩:=q1;cases e with
   |int j=>obtain⟨t',rfl⟩:=q2;exact⟨i==j,by simp,EqAt.int_int _ _ _ _⟩
   |str j=>obtain⟨t',rfl⟩:=q2;exact⟨false,by simp,EqAt.int_str _ _ _ _⟩
   |tup _=>obtain⟨a,its,rfl,t,_⟩:=q2;exact⟨false,by simp,EqAt.int_tuple _ _ t (by lia)⟩
  |str i=>obtain⟨t,rfl⟩:=q1;cases e with
   |int j=>obtain⟨t',rfl⟩:=q2;exact⟨false,by simp,EqAt.str_int _ _ _ _⟩
   |str j=>obtain⟨t',rfl⟩:=q2;exact⟨i==j,by simp,EqAt.str_str _ _ _ _⟩
   |tup _=>obtain⟨a,its,rfl,t,_⟩:=q2;exact⟨false,by simp,EqAt.str_tuple _ _ t (by lia)⟩
  |tup ds =>
   obtain⟨a,its,rfl,t1,z1,r1⟩:=id q1;cases e with
   |int j=>obtain⟨t',rfl⟩:=q2;exact⟨false,by simp,EqAt.tuple_int _ _ t1 (by lia)⟩
   |str j=>obtain⟨t',rfl⟩:=q2;exact⟨false,by simp,EqAt.tuple_str _ _ t1 (by lia)⟩
   |tup es =>
    obtain⟨b,its2,rfl,t2,z2,r2⟩:=id q2
    by_cases ab:a=b
    ·subst ab;exact⟨true,by simp[KAt.same (n+1) q1 q2],EqAt.same _⟩
    ·have item:∀j,∃b:Bool,∀(h1:j<its.size) (h2:j<its2.size),(b=true↔ds[j]?=es[j]?)/\EqAt A.in1 s its[j] its2[j] b:=fun j=>by
      by_cases h1:j<its.size
      ·by_cases h2:j<its2.size
       ·obtain⟨b,b1,b2⟩:=ih (A:=A.in1) (show A.units+1+n<cLine by lia) (r1 j _ _ (List.getElem?_eq_getElem (by lia)) (Array.getElem?_eq_getElem h1)) (r2 j _ _ (List.getElem?_eq_getElem (by lia)) (Array.getElem?_eq_getElem h2));exact⟨b,fun _ _=>⟨by rw[List.getElem?_eq_getElem (by lia),List.getElem?_eq_getElem (by lia),b1];simp,b2⟩⟩
       ·exact⟨true,fun _ h=>absurd h h2⟩
      ·exact⟨true,fun h=>absurd h h1⟩
     have rc:=RcAt.tuples (A:=A) (s:=s) (e:=fun j=>(item j).choose) t1 t2 (by lia) fun j h1 h2=>((item j).choose_spec h1 h2).2;refine⟨_,?_,EqAt.of_refs ab rc⟩;rw[Bool.and_eq_true,List.all_eq_true,beq_iff_eq];constructor
     ·rintro⟨h1,h2⟩;congr 1;refine List.ext_getElem? fun i=>?_;rcases Nat.lt_or_ge i ds.length with q|q
      ·exact((item i).choose_spec (by lia) (by lia)).1.mp (h1 i (List.mem_range.mpr (by lia)))
      ·rw[List.getElem?_eq_none q,List.getElem?_eq_none (by lia)]
     ·intro z;cases z;refine⟨fun i hi=>?_,by lia⟩;have hi:=List.mem_range.mp hi;exact((item i).choose_spec (by lia) (by lia)).1.mpr rfl
theorem KAt.hash:∀(n:Nat) {A:Around}{s:Shared}{E:Value->Shared->Prop}{d:KD}{v:Value}{Q:Int->Shared->Prop},A.units+n<cLine->KAt s.heap n d v->Q (hK w n d) { s with toks:=s.toks+drK n d }->wpAny (model prog w) A (pyHash v) Q E s:=by
 intro n
 induction n with
 |zero =>
  intro A s E d v Q hu q h;cases d with
  |int i=>obtain⟨t,rfl⟩:=q;exact wpAny_pyHash_int h
  |str i=>obtain⟨t,rfl⟩:=q;exact wpAny_pyHash_str h
  |tup _=>exact q.elim
 |succ n ih =>
  intro A s E d v Q hu q h;cases d with
  |int i=>obtain⟨t,rfl⟩:=q;exact wpAny_pyHash_int h
  |str i=>obtain⟨t,rfl⟩:=q;exact wpAny_pyHash_str h
  |tup ks =>
   obtain⟨a,its,rfl,tp,z,r⟩:=q;obtain⟨o,ho,hc,c,hd⟩:=tp;have hT:s.TypeIs (.ref a) "tuple":=⟨o,ho,hc⟩;have hu0:A.units<cLine:=by lia
   unfold pyHash pyHashByItsType;refine wpAny_bind (wpAny_cRoomFor_or (.inr hu0) ?_);refine wpAny_bind (wpAny_specialOf hT F.slot_tuple_hash.lookup ?_);show wpAny _ _ (if(some (Value.builtin "tuple.__hash__")==some Value.none)=true then _ else _) Q E s;rw[if_neg (by rw[beq_builtin_none];exact Bool.false_ne_true)];refine wpAny_bind (wpAny_specialOf hT F.slot_tuple_hash.lookup ?_);show wpAny _ _ (callSpecialIfBoundUnlessNone? (.ref a) "__hash__" _ >>= _) Q E s;refine wpAny_bind (wpAny_callSpecialIfBoundUnlessNone?_slot hT F.slot_tuple_hash (wpAny_call_entry F.slot_tuple_hash hT F.entry_tuple_hash ?_ (F.args_tuple_hash_1 _)));show wpAny _ _ (Builtin.Tuple.tupleItemsOf (.ref a) >>= _) _ _ s;refine wpAny_bind (wpAny_tupleItemsOf ho hd ?_);refine wpAny_bind ?_;rw[<-Array.forIn_toList];refine wpAny_forIn_list _ (fun rest (b:Array Int) s'=>∃m,m<=ks.length/\rest=its.toList.drop m/\b.toList=(ks.take m).map (hK w n)/\s'={ s with toks:=s.toks+((ks.take m).map (drK n)).sum }) _ ?_ ?_ _ _ ⟨0,Nat.zero_le _,rfl,rfl,rfl⟩
   ·rintro x rest b s' ⟨m,hm,hr,hb,rfl⟩;have lt:m<its.size:=by
     rcases Nat.lt_or_ge m its.size with q|q
     ·exact q
     ·rw[List.drop_eq_nil_of_le (by rw[Array.length_toList];exact q)]at hr;cases hr
    rw[List.drop_eq_getElem_cons (by rw[Array.length_toList];exact lt)]at hr;obtain⟨rfl,rfl⟩:=List.cons.inj hr;have km:ks[m]?=some (ks[m]'(by lia)):=List.getElem?_eq_getElem _;refine wpAny_bind (ih (show A.in1.units+n<cLine by show A.units+1+n<cLine;lia) (r m _ _ km (by rw[Array.getElem?_eq_getElem lt];simp)) ?_);refine wpAny_pure ⟨m+1,by lia,rfl,?_,?_⟩
    ·rw[Array.toList_push,hb,List.take_add_one,km,List.map_append];rfl
    ·rw[List.take_add_one,km,List.map_append,List.sum_append,<-Nat.add_assoc];simp
   ·rintro b s' ⟨m,hm,hr,hb,rfl⟩;have:m=ks.length:=by
     rcases Nat.lt_or_ge m its.size with q|q
     ·rw[List.drop_eq_getElem_cons (by rw[Array.length_toList];exact q)]at hr;cases hr
     ·lia
    subst this;rw[List.take_length]at hb ⊢;show wpAny _ _ (retInt (Builtin.Tuple.tupleHashOf b.toList)) _ _ _;rw[hb];refine wpAny_ret_mkInt ?_;show wpAny _ _ (if(decide (-(2:Int) ^ 63<=Builtin.Tuple.tupleHashOf (ks.map (hK w n)))&&decide (Builtin.Tuple.tupleHashOf (ks.map (hK w n))<2 ^ 63))=true then _ else _) Q E _;have h':Q (reduceHash (Builtin.Tuple.tupleHashOf (ks.map (hK w n)))) { s with toks:=s.toks+((ks.map (drK n)).sum+1) }:=h;rw[<-Nat.add_assoc]at h';unfold reduceHash at h'
    by_cases hr2:(decide (-(2:Int) ^ 63<=Builtin.Tuple.tupleHashOf (ks.map (hK w n)))&&decide (Builtin.Tuple.tupleHashOf (ks.map (hK w n))<2 ^ 63))=true
    ·rw[if_pos hr2];rw[if_pos hr2]at h';exact wpAny_pure h'
    ·rw[if_neg hr2];rw[if_neg hr2]at h';exact wpAny_bind (wpAny_rule (wpAny_pure h'))
end
section
variable{prog:Program}{w:World}{A:Around}{E:Value->Shared->Prop}{s:Shared}
theorem qA{a:Addr}{its:Array Value}{Q:Option (Array Value)->Shared->Prop}(t:IsTup s.heap a its) (h:Q (some its) s):wpAny (model prog w) A (seqItems? (.ref a)) Q E s:=by
 obtain⟨o,ho,hc,c,hd⟩:=t;unfold seqItems?;refine wpAny_bind (wpAny_load ho ?_);rw[hd];exact wpAny_pure h
theorem KAt.item{h:Heap}{n:Nat}{ks:List KD}{its:Array Value}(z:its.size=ks.length) (r:∀(i:Nat) d u,ks[i]?=some d->its[i]?=some u->KAt h n d u) {x:Value}(hx:x∈its.toList):∃k,KAt h n k x:=by
 obtain⟨i,hi⟩:=List.mem_iff_getElem?.mp hx;rw[Array.getElem?_toList]at hi;have lt:=(Array.getElem?_eq_some_iff.mp hi).1;exact⟨_,r i _ _ (List.getElem?_eq_getElem (by lia)) hi⟩
theorem KAt.quiet:∀(f n:Nat) {k:KD}{v:Value}{Q:Bool->Shared->Prop},n<=f->KAt s.heap n k v->Q true s->wpAny (model prog w) A (eqIsQuiet f v) Q E s:=by
 intro f
 induction f with
 |zero =>
  intro n k v Q hn q h;obtain rfl:n=0:=by lia
  cases k with
  |int i=>obtain⟨t,rfl⟩:=q;exact wpAny_pure h
  |str i=>obtain⟨t,rfl⟩:=q;exact wpAny_pure h
  |tup _=>exact q.elim
 |succ f ih =>
  intro n k v Q hn q h;cases k with
  |int i=>obtain⟨t,rfl⟩:=kn.mp q;exact wpAny_pure h
  |str i=>obtain⟨t,rfl⟩:=lC.mp q;exact wpAny_pure h
  |tup ks =>
   cases n with
   |zero=>exact q.elim
   |succ n =>
    obtain⟨a,its,rfl,tp,z,r⟩:=q;have hT:s.TypeIs (.ref a) "tuple":=by obtain⟨o,ho,hc,_⟩:=tp;exact⟨o,ho,hc⟩
    unfold eqIsQuiet;refine wpAny_bind (wpAny_specialOf hT F.slot_tuple_eq.lookup ?_);show wpAny _ _ (isInstance (.ref a) (.type "tuple") >>= _) _ _ s;refine wpAny_bind (wpAny_isInstance hT isSubtype_tuple_tuple ?_);simp only[Bool.not_true,Bool.false_eq_true,if_false];refine wpAny_bind (qA tp ?_);refine wpAny_bind ?_;show wpAny _ _ (forIn its _ _) _ _ s;rw[<-Array.forIn_toList];refine wpAny_forIn_list _ (fun rest b s'=>s'=s/\b=(none,())/\∀x∈rest,x∈its.toList) _ ?_ ?_ _ _ ⟨rfl,rfl,fun _ z=>z⟩
    ·rintro x rest b s' ⟨rfl,rfl,hr⟩;obtain⟨k,hk⟩:=KAt.item z r (hr x (.head _));refine wpAny_bind (ih n (by lia) hk ?_);simp only[Bool.not_true,Bool.false_eq_true,if_false];exact wpAny_pure ⟨rfl,rfl,fun y hy=>hr y (.tail _ hy)⟩
    ·rintro b s' ⟨rfl,rfl,_⟩;exact wpAny_pure h
theorem KAt.noCls:∀(f n:Nat) {k:KD}{v:Value}{Q:Bool->Shared->Prop},n<=f->KAt s.heap n k v->Q false s->wpAny (model prog w) A (ofAClassStatement f v) Q E s:=by
 intro f
 induction f with
 |zero =>
  intro n k v Q hn q h;obtain rfl:n=0:=by lia
  cases k with
  |int i=>obtain⟨t,rfl⟩:=q;exact wpAny_pure h
  |str i=>obtain⟨t,rfl⟩:=q;exact wpAny_pure h
  |tup _=>exact q.elim
 |succ f ih =>
  intro n k v Q hn q h;cases k with
  |int i=>obtain⟨t,rfl⟩:=kn.mp q;exact wpAny_pure h
  |str i=>obtain⟨t,rfl⟩:=lC.mp q;exact wpAny_pure h
  |tup ks =>
   cases n with
   |zero=>exact q.elim
   |succ n =>
    obtain⟨a,its,rfl,tp,z,r⟩:=q;have hT:s.TypeIs (.ref a) "tuple":=by obtain⟨o,ho,hc,_⟩:=tp;exact⟨o,ho,hc⟩
    unfold ofAClassStatement;refine wpAny_bind (wpAny_typeOf hT ?_);dsimp only;rw[if_pos (by rfl)];refine wpAny_bind (wpAny_pure ?_);simp only[Bool.not_true,Bool.false_eq_true,if_false];refine wpAny_bind (qA tp ?_);dsimp only;refine wpAny_bind ?_;rw[<-Array.forIn_toList];refine wpAny_forIn_list _ (fun rest b s'=>s'=s/\b=(none,())/\∀x∈rest,x∈its.toList) _ ?_ ?_ _ _ ⟨rfl,rfl,fun _ z=>z⟩
    ·rintro x rest b s' ⟨rfl,rfl,hr⟩;obtain⟨k,hk⟩:=KAt.item z r (hr x (.head _));refine wpAny_bind (ih n (by lia) hk ?_);simp only[Bool.false_eq_true,if_false];exact wpAny_pure ⟨rfl,rfl,fun y hy=>hr y (.tail _ hy)⟩
    ·rintro b s' ⟨rfl,rfl,_⟩;exact wpAny_pure h
theorem KAt.byV:∀(f n:Nat) {k:KD}{v:Value}{Q:Bool->Shared->Prop},KAt s.heap n k v->(∀b,Q b s)->wpAny (model prog w) A (hashByValue f v) Q E s:=by
 intro f
 induction f with
 |zero =>
  intro n k v Q q h;cases k with
  |int i=>obtain⟨t,rfl⟩:=kn.mp q;exact wpAny_pure (h _)
  |str i=>obtain⟨t,rfl⟩:=lC.mp q;exact wpAny_pure (h _)
  |tup _=>cases n with
   |zero=>exact q.elim
   |succ n=>obtain⟨a,its,rfl,_⟩:=q;exact wpAny_pure (h _)
 |succ f ih =>
  intro n k v Q q h;cases k with
  |int i=>obtain⟨t,rfl⟩:=kn.mp q;exact wpAny_pure (h _)
  |str i=>obtain⟨t,rfl⟩:=lC.mp q;exact wpAny_pure (h _)
  |tup ks =>
   cases n with
   |zero=>exact q.elim
   |succ n =>
    obtain⟨a,its,rfl,tp,z,r⟩:=q;have hT:s.TypeIs (.ref a) "tuple":=by obtain⟨o,ho,hc,_⟩:=tp;exact⟨o,ho,hc⟩
    unfold hashByValue;refine wpAny_bind (wpAny_specialOf hT F.slot_tuple_hash.lookup ?_);dsimp only;refine wpAny_bind (qA tp ?_);refine wpAny_bind ?_;show wpAny _ _ (forIn its _ _) _ _ s;rw[<-Array.forIn_toList];refine wpAny_forIn_list _ (fun rest b s'=>s'=s/\b=(none,())/\∀x∈rest,x∈its.toList) _ ?_ ?_ _ _ ⟨rfl,rfl,fun _ z=>z⟩
    ·rintro x rest b s' ⟨rfl,rfl,hr⟩;obtain⟨k,hk⟩:=KAt.item z r (hr x (.head _));refine wpAny_bind (ih n hk fun b=>?_);cases b with
     |true =>
      simp only[Bool.not_true,Bool.false_eq_true,if_false];exact wpAny_pure ⟨rfl,rfl,fun y hy=>hr y (.tail _ hy)⟩
     |false =>
      simp only[Bool.not_false,if_true];exact wpAny_pure (wpAny_pure (h _))
    ·rintro b s' ⟨rfl,rfl,_⟩;exact wpAny_pure (h _)
end
def nr(h0 h:Heap):Prop:=∀b o,h0.get? b=some o->h.get? b=some o
theorem KAt.kept{h0 h:Heap}{n:Nat}{d:KD}{v:Value}(q:KAt h0 n d v) (k:nr h0 h):KAt h n d v:=q.up fun b o _ e=>k b o e
def tK(prog:Program) (w:World) (n:Nat) (hn:n<=8) (h0:Heap) (V:Value->Prop):TK prog w (List KD) where
 is h ks v:=nr h0 h/\KAt h0 n (.tup ks) v/\V v
 hash ks:=hK w n (.tup ks)
 room A:=A.units+n<cLine
 pyHash hr hx h:=KAt.hash n hr (hx.2.1.kept hx.1) (h _ (Nat.le_add_right _ _))
 eqB hr hx hy:=by
  obtain⟨b,h1,h2⟩:=KAt.eq n hr (hx.2.1.kept hx.1) (hy.2.1.kept hy.1);exact⟨b,by rw[h1];simp,h2⟩
 quiet _ hx h:=KAt.quiet 8 n hn (hx.2.1.kept hx.1) h
 noCls _ hx h:=KAt.noCls 8 n hn (hx.2.1.kept hx.1) h
 byV _ hx h:=KAt.byV 8 n (hx.2.1.kept hx.1) h
 ref {h x v} hx:=by
  obtain⟨_,hx,_⟩:=hx;cases n with
  |zero=>exact hx.elim
  |succ n=>obtain⟨a,_,e,_⟩:=hx;exact⟨a,e⟩
end L2
namespace L2
open PySem PySem.Spec PyProof.Rows
open Classical in
def eV{τ:Type}(xs:List τ) (x:τ):List τ:=if x∈xs then xs else xs++[x]
def e7{τ:Type}(xs:List τ):List τ:=xs.foldl eV []
section
variable{τ:Type}
theorem ud(xs:List τ) (x:τ):(eV xs x).length<=xs.length+1:=by unfold eV;split<;>simp
theorem t9(xs:List τ) (x y:τ):y∈eV xs x↔y∈xs∨y=x:=by
 unfold eV;split
 ·rename_i h;exact⟨.inl,fun q=>q.elim id fun e=>e▸h⟩
 ·simp
theorem mK:∀(xs zs:List τ),(xs.foldl eV zs).length<=zs.length+xs.length
 |[],_=>Nat.le_refl _
 |x::xs,zs=>by
  have:=mK xs (eV zs x);have:=ud zs x;simp only[List.foldl_cons,List.length_cons];lia
theorem mi:∀(xs zs:List τ) (y:τ),y∈xs.foldl eV zs↔y∈zs∨y∈xs
 |[],_,_=>by simp
 |x::xs,zs,y=>by
  rw[List.foldl_cons,mi xs,t9,List.mem_cons,or_assoc]
theorem uV(xs:List τ) (y:τ):y∈e7 xs↔y∈xs:=by rw[e7,mi];simp
theorem lq(xs:List τ):(e7 xs).length<=xs.length:=by have:=mK xs [];simpa[e7]using this
theorem tR(xs:List τ) (i:Nat) (h:i<xs.length):e7 (xs.take (i+1))=eV (e7 (xs.take i)) xs[i]:=by
 rw[List.take_succ_eq_append_getElem h,e7,List.foldl_append];rfl
end
section
variable{prog:Program}{w:World}{A:Around}{R:Result->Shared->Prop}{I:Addr}{fp wr:List Addr}{G:Array GenState->Array GenState->Prop}{P:Nat->Value->Prop}{St:Nat->Shared->Prop}
theorem EA{V:Value->Prop}{n:Nat}{hn:n<=8}{h0:Heap}{xs:List (List KD)}(W:WalksS prog w A.in1 I fp wr G xs.length P St) (S:Addr) (hSf:S∉fp)
  (hfr:∀b∈S::wr,h0.get? b=none) (hu:A.in1.units+n<cLine) (hval:∀i v (h:i<xs.length),P i v->KAt h0 n (.tup xs[i]) v/\V v) (hb:xs.length<1000) :
  ∀(k i:Nat) (s:Shared),xs.length-i=k->i<=xs.length->St i s->nr h0 s.heap->iF (tK prog w n hn h0 V) s.heap S (e7 (xs.take i)) ->
   (∀s',Moved (S::wr) G s s'->nr h0 s'.heap->iF (tK prog w n hn h0 V) s'.heap S (e7 xs)->R (.ok (.ret .none)) s') ->
   codeAny (model prog w) A (.builtin "set.update.loop" ⟨[.ref S,.ref I],[]⟩) R s:=by
 have hSw:S∉wr:=fun h=>hSf (W.sub _ h);have hsub:∀b∈wr,b∈S::wr:=fun b hb=>List.mem_cons_of_mem _ hb;intro k
 induction k with
 |zero =>
  intro i s hk hi hst hK hS hR;have hin:i=xs.length:=by lia
  subst hin;refine codeAny_builtin F.entry_set_update_loop ?_;rw[Around.under_plainId F.plain_set_update_loop _];show wpAny _ A.in1 (pyNext (.ref I) >>= _) _ _ s;refine wpAny_bind (W.done s _ _ hst fun s' hm=>?_);show wpAny _ A.in1 (ret Value.none) _ _ s';rw[List.take_length]at hS;have hK':nr h0 s'.heap:=fun b o e=>hm.heap b o (fun q=>by rw[hfr b (hsub b q)]at e;cases e) (hK b o e);exact wpAny_pure (hR s' (hm.mono hsub) hK' (hS.mono (fun o e=>hm.heap S _ hSw e) fun z v q=>⟨hK',q.2⟩))
 |succ k ih =>
  intro i s hk hi hst hK hS hR;have hlt:i<xs.length:=by lia
  refine codeAny_builtin F.entry_set_update_loop ?_;rw[Around.under_plainId F.plain_set_update_loop _];show wpAny _ A.in1 (pyNext (.ref I) >>= _) _ _ s;refine wpAny_bind (W.item i s _ _ hlt hst fun v s' hP hst' hm=>?_);have hx:=hval i v hlt hP;have hK':nr h0 s'.heap:=fun b o e=>hm.heap b o (fun q=>by rw[hfr b (hsub b q)]at e;cases e) (hK b o e);have hS':iF (tK prog w n hn h0 V) s'.heap S (e7 (xs.take i)):=hS.mono (fun o e=>hm.heap S _ hSw e) fun z v q=>⟨hK',q.2⟩;show wpAny _ A.in1 (holding [v] (setAdd S v) >>= _) _ _ s';refine wpAny_bind (wpAny_holding ?_);unfold setAdd;refine wpAny_holding ?_;refine wpAny_bind ((tK prog w n hn h0 V).pyHash (x:=xs[i]) hu ⟨hK',hx⟩ fun tk htk=>?_);have hroom:(e7 (xs.take i)).length<1000:=by have:=lq (xs.take i);rw[List.length_take]at this;lia
  have kpt:∀h',Heap.SameBut S s'.heap h'->nr h0 h':=fun h' sb b o e=>by
   rw[sb.2 b fun z=>by rw[z,hfr S (.head _)]at e;cases e];exact hK' b o e
  refine EF (s:={ s' with toks:=tk }) (κ:=tK prog w n hn h0 V) hu ⟨hK',hx⟩ hS' hroom (fun h' z v sb q=>⟨kpt h' sb,q.2⟩) fun b h' hsb y1 y2=>?_;have hSi:iF (tK prog w n hn h0 V) h' S (e7 (xs.take (i+1))):=by
   rw[tR xs i hlt];unfold eV
   split
   ·rename_i c;exact y1 c
   ·rename_i c;exact y2 c
  refine wpAny_pure ⟨plainId_quiet F.plain_set_update_loop _,ih (i+1) _ (by lia) hlt (W.frame _ s' _ _ hst' htk fun b hb o e=>?_) (kpt h' hsb) hSi fun s'' hm'' hK'' hS''=>?_⟩
  ·rw[hsb.2 b (fun h:b=S=>hSf (by rw[<-h];exact hb))];exact e
  ·refine hR s'' (Moved.trans W.gtrans ((hm.mono hsub).then_heap htk fun b o hb e=>?_) hm'') hK'' hS'';rw[hsb.2 b (fun h:b=S=>hb (by rw[h];exact List.mem_cons_self))];exact e
end
section
variable{prog:Program}{w:World}{A:Around}{E:Value->Shared->Prop}{s:Shared}
theorem BR{V:Value->Prop}{n:Nat}{hn:n<=8}{h0 h:Heap}{a:Addr}(g:h.get? a=some (lM w)):iF (tK prog w n hn h0 V) h a [] :=
 ⟨_,#[],0,_,[],⟨g,⟨rfl,rfl,rfl⟩,rfl,⟨rfl,fun i z hz=>by simp at hz⟩,.nil,⟨rfl,fun i j _ hj=>by simp[SetTable.fresh]at hj,fun i hi=>by simp[SetTable.fresh]at hi,rfl,⟨3,by decide,rfl⟩,by simp[SetTable.fresh],fun i h q=>by simp[cP]at q⟩,rfl,by simp[SetTable.fresh],.inl (by simp[SetTable.fresh])⟩,.refl _⟩
end
end L2
namespace L2
open PySem PySem.Spec PyProof.Rows PySem.SeqAt
open Classical in
mutual
def ltK:KD->KD->Bool
 |.int i,.int j=>decide (i<j)
 |.int _,.str _=>true
 |.int _,.tup _=>true
 |.str _,.int _=>false
 |.str a,.str b=>ltS a b
 |.str _,.tup _=>true
 |.tup _,.int _=>false
 |.tup _,.str _=>false
 |.tup a,.tup b=>bj a b
def bj:List KD->List KD->Bool
 |[],[]=>false
 |[],_::_=>true
 |_::_,[]=>false
 |a::as,b::bs=>if a=b then bj as bs else ltK a b
end
mutual
theorem xX:∀a:KD,ltK a a=false
 |.int i=>by simp[ltK]
 |.str a=>by simp only[ltK];exact xn a
 |.tup a=>by simp only[ltK];exact g8 a
theorem g8:∀a:List KD,bj a a=false
 |[]=>by simp[bj]
 |a::as=>by simp only[bj,if_true];exact g8 as
end
mutual
theorem yJ:∀a b:KD,ltK a b=false->ltK b a=false->a=b
 |.int i,.int j,h1,h2=>by simp[ltK]at h1 h2;congr 1;lia
 |.int _,.str _,h1,_=>by simp[ltK]at h1
 |.int _,.tup _,h1,_=>by simp[ltK]at h1
 |.str _,.int _,_,h1=>by simp[ltK]at h1
 |.str a,.str b,h1,h2=>by simp only[ltK]at h1 h2;rw[yX h1 h2]
 |.str _,.tup _,h1,_=>by simp[ltK]at h1
 |.tup _,.int _,_,h1=>by simp[ltK]at h1
 |.tup _,.str _,_,h1=>by simp[ltK]at h1
 |.tup a,.tup b,h1,h2=>by simp only[ltK]at h1 h2;rw[fo a b h1 h2]
theorem fo:∀a b:List KD,bj a b=false->bj b a=false->a=b
 |[],[],_,_=>rfl
 |[],_::_,h1,_=>by simp[bj]at h1
 |_::_,[],_,h1=>by simp[bj]at h1
 |a::as,b::bs,h1,h2=>by
  simp only[bj]at h1 h2
  by_cases c:a=b
  ·subst c;rw[if_pos rfl]at h1 h2;rw[fo as bs h1 h2]
  ·rw[if_neg c]at h1;rw[if_neg fun z=>c z.symm]at h2;exact absurd (yJ a b h1 h2) c
end
mutual
theorem AV:∀a b c:KD,ltK a b=true->ltK b c=true->ltK a c=true
 |.int i,.int j,.int k,h1,h2=>by simp[ltK]at h1 h2 ⊢;lia
 |.int _,.str _,.int _,_,h2=>by simp[ltK]at h2
 |.int _,.tup _,.int _,_,h2=>by simp[ltK]at h2
 |.int _,_,.str _,_,_=>by simp[ltK]
 |.int _,_,.tup _,_,_=>by simp[ltK]
 |.str _,.int _,_,h1,_=>by simp[ltK]at h1
 |.str a,.str b,.str c,h1,h2=>by simp only[ltK]at h1 h2 ⊢;exact tY h1 h2
 |.str _,.str _,.int _,_,h2=>by simp[ltK]at h2
 |.str _,.tup _,.int _,_,h2=>by simp[ltK]at h2
 |.str _,.tup _,.str _,_,h2=>by simp[ltK]at h2
 |.str _,_,.tup _,_,_=>by simp[ltK]
 |.tup _,.int _,_,h1,_=>by simp[ltK]at h1
 |.tup _,.str _,_,h1,_=>by simp[ltK]at h1
 |.tup _,.tup _,.int _,_,h2=>by simp[ltK]at h2
 |.tup _,.tup _,.str _,_,h2=>by simp[ltK]at h2
 |.tup a,.tup b,.tup c,h1,h2=>by simp only[ltK]at h1 h2 ⊢;exact gN a b c h1 h2
theorem gN:∀a b c:List KD,bj a b=true->bj b c=true->bj a c=true
 |_,[],[],_,h2=>by simp[bj]at h2
 |_,_::_,[],_,h2=>by simp[bj]at h2
 |[],_,_::_,_,_=>by simp[bj]
 |_::_,[],_::_,h1,_=>by simp[bj]at h1
 |a::as,b::bs,c::cs,h1,h2=>by
  simp only[bj]at h1 h2 ⊢
  by_cases e1:a=b
  ·subst e1;rw[if_pos rfl]at h1
   by_cases e2:a=c
   ·rw[if_pos e2]at h2 ⊢;exact gN as bs cs h1 h2
   ·rw[if_neg e2]at h2 ⊢;exact h2
  ·rw[if_neg e1]at h1
   by_cases e2:b=c
   ·subst e2;rw[if_neg e1];exact h1
   ·rw[if_neg e2]at h2;have h3:=AV a b c h1 h2
    by_cases e3:a=c
    ·subst e3;rw[xX]at h3;cases h3
    ·rw[if_neg e3];exact h3
end
def xF:KeyOrd where
 α:=List KD
 blt:=bj
 irrefl:=g8
 trans:=gN
 negTrans a b c h:=by
  cases h1:bj a b with
  |true=>exact .inl rfl
  |false =>
   refine .inr ?_;cases h2:bj b a with
   |true=>exact gN _ _ _ h2 h
   |false=>rw[<-fo _ _ h1 h2];exact h
 total:=fo
def leK(a b:List KD):Bool:=not (bj b a)
def df(ps:List (List KD)):List (List KD):=ps.mergeSort leK
theorem gD(ps:List (List KD)):(df ps).Perm ps:=List.mergeSort_perm _ _
theorem oY(ps:List (List KD)):(df ps).Pairwise fun a b=>leK a b=true :=
 List.pairwise_mergeSort (fun a b c h1 h2=>by
  simp only[leK,Bool.not_eq_true']at *
  cases h:bj c a with
  |false=>rfl
  |true =>
   rcases xF.negTrans _ b _ h with z|z
   ·exact absurd z (by rw[show xF.blt c b=bj c b from rfl,h2];simp)
   ·exact absurd z (by rw[show xF.blt b a=bj b a from rfl,h1];simp)) (fun a b=>by
  cases h:leK a b with
  |true=>rfl
  |false =>
   have h':bj b a=true:=by simpa[leK]using h
   cases h2:bj a b with
   |false=>simp[leK,h2]
   |true=>have:=gN _ _ _ h' h2;rw[g8]at this;cases this) ps
theorem n9{ps qs:List (List KD)}(h:qs.Perm ps) (hs:qs.Pairwise fun a b=>leK a b=true):qs=df ps :=
 List.Perm.eq_of_pairwise (le:=fun a b=>leK a b=true) (fun a b _ _ h1 h2=>fo _ _ (by simpa[leK]using h2) (by simpa[leK]using h1)) hs (oY ps) (h.trans (gD ps).symm)
mutual
def Cm:KD->KD->Prop
 |.int _,.int _=>True
 |.str _,.str _=>True
 |.tup a,.tup b=>Cms a b
 |_,_=>False
def Cms:List KD->List KD->Prop
 |a::as,b::bs=>Cm a b/\Cms as bs
 |_,_=>True
end
section
variable{prog:Program}{w:World}{A:Around}{E:Value->Shared->Prop}{s:Shared}
theorem uC{n:Nat}{ds es:List KD}{a b:Addr}{Q:Value->Shared->Prop}(hu:A.units+(n+1)<cLine) (q1:KAt s.heap (n+1) (.tup ds) (.ref a)) (q2:KAt s.heap (n+1) (.tup es) (.ref b)) (hc:Cms ds es)
  (ih:∀{A:Around} {E:Value->Shared->Prop} {d e:KD} {v u:Value} {Q:Value->Shared->Prop},A.units+n<cLine->KAt s.heap n d v->KAt s.heap n e u->Cm d e->Q (.bool (ltK d e)) s->wpAny (model prog w) A (richCompare .Lt v u) Q E s)
  (h:Q (.bool (bj ds es)) s):wpAny (model prog w) A (call (.builtin "tuple.__lt__") [.ref a,.ref b]) Q E s:=by
 obtain⟨_,its,e1,t1,z1,r1⟩:=q1;obtain⟨_,its2,e2,t2,z2,r2⟩:=q2;cases e1;cases e2;obtain⟨o1,g1,c1,n1,d1⟩:=id t1;obtain⟨o2,g2,c2,n2,d2⟩:=id t2;have T1:s.TypeIs (.ref a) "tuple":=⟨o1,g1,c1⟩;have T2:s.TypeIs (.ref b) "tuple":=⟨o2,g2,c2⟩;refine wpAny_call_entry F.slot_tuple_lt T1 F.entry_tuple_lt ?_ (F.args_tuple_lt_2 _ _);show wpAny _ _ (isInstance (.ref b) (.type "tuple") >>= _) _ _ s;refine wpAny_bind (wpAny_isInstance T2 isSubtype_tuple_tuple ?_);simp only[Bool.not_true,Bool.false_eq_true,if_false];refine wpAny_bind (wpAny_tupleItemsOf g1 d1 ?_);refine wpAny_bind (wpAny_tupleItemsOf g2 d2 ?_);refine wpAny_bind ?_;refine wpAny_forIn_list _ (fun rest r s'=>r.1=none/\s'=s/\∃m,m<=min its.size its2.size/\rest=(its.toList.zip its2.toList).drop m/\bj ds es=bj (ds.drop m) (es.drop m)/\Cms (ds.drop m) (es.drop m)) _ ?_ ?_ _ _ ⟨rfl,rfl,0,Nat.zero_le _,rfl,rfl,hc⟩
 ·rintro⟨x,y⟩ rest r s' ⟨hr,rfl,m,_,hz,hl,hcm⟩;have hlt:m<(its.toList.zip its2.toList).length:=by
   rcases Nat.lt_or_ge m (its.toList.zip its2.toList).length with q|q
   ·exact q
   ·rw[List.drop_eq_nil_of_le q]at hz;cases hz
  have hlt':m<its.size/\m<its2.size:=by
   rw[List.length_zip,Array.length_toList,Array.length_toList]at hlt;lia
  rw[List.drop_eq_getElem_cons hlt]at hz;injection hz with hxy hrest
  have hx:x=its[m]'hlt'.1:=by have:=congrArg Prod.fst hxy;simpa using this
  have hy:y=its2[m]'hlt'.2:=by have:=congrArg Prod.snd hxy;simpa using this
  subst hx hy;have m1:m<ds.length:=by lia
  have m2:m<es.length:=by lia
  have k1:=r1 m _ _ (List.getElem?_eq_getElem m1) (Array.getElem?_eq_getElem hlt'.1);have k2:=r2 m _ _ (List.getElem?_eq_getElem m2) (Array.getElem?_eq_getElem hlt'.2);rw[List.drop_eq_getElem_cons m1,List.drop_eq_getElem_cons m2]at hl hcm;simp only[bj,Cms]at hl hcm;obtain⟨bb,b1,b2⟩:=KAt.eq n (A:=A.in1) (show A.units+1+n<cLine by lia) k1 k2;refine wpAny_bind (b2 prog w _ _ ?_);cases bb with
  |true =>
   rw[if_pos (b1.mp rfl)]at hl;simp only[Bool.not_true,Bool.false_eq_true,if_false];exact wpAny_pure ⟨rfl,rfl,m+1,by lia,hrest,hl,hcm.2⟩
  |false =>
   have ne:¬ ds[m]=es[m]:=fun z=>by have:=b1.mpr z;cases this
   rw[if_neg ne]at hl;simp only[Bool.not_false,if_true];refine wpAny_bind (wpAny_rule ?_);refine wpAny_bind (ih (A:=A.in1) (show A.units+1+n<cLine by lia) k1 k2 hcm.1 ?_);rw[<-hl];exact wpAny_bind (wpAny_pure (wpAny_pure (wpAny_pure ⟨_,rfl,h⟩)))
 ·rintro⟨r1',r2'⟩ s' ⟨hr,rfl,m,hm,hz,hl,_⟩;simp only at hr;subst hr;have hge:min its.size its2.size<=m:=by
   rcases Nat.lt_or_ge m (its.toList.zip its2.toList).length with q|q
   ·rw[List.drop_eq_getElem_cons q]at hz;cases hz
   ·simpa[List.length_zip]using q
  refine wpAny_pure ⟨_,rfl,?_⟩;show Q (.bool (decide (its.size<its2.size))) s';have:bj ds es=decide (its.size<its2.size):=by
   rw[hl];rcases Nat.lt_or_ge its.size its2.size with q|q
   ·rw[decide_eq_true q,List.drop_eq_nil_of_le (by lia),List.drop_eq_getElem_cons (show m<es.length by lia)];simp[bj]
   ·rw[decide_eq_false (by lia),show es.drop m=[]from List.drop_eq_nil_of_le (by lia)];cases ds.drop m<;>simp[bj]
  rw[<-this];exact h
theorem Cu(n:Nat):∀{A:Around}{E:Value->Shared->Prop}{d e:KD}{v u:Value}{Q:Value->Shared->Prop},A.units+n<cLine->KAt s.heap n d v->KAt s.heap n e u->Cm d e->Q (.bool (ltK d e)) s->wpAny (model prog w) A (richCompare .Lt v u) Q E s:=by
 have hI:∀{A:Around} {E:Value->Shared->Prop} {i j:Int} {t t':Tok} {Q:Value->Shared->Prop},Q (.bool (decide (i<j))) s->wpAny (model prog w) A (richCompare .Lt (.int i t) (.int j t')) Q E s:=fun h=>wpAny_lt_int h;have hS:∀{A:Around} {E:Value->Shared->Prop} {i j:Str} {t t':Tok} {Q:Value->Shared->Prop},Q (.bool (ltS i j)) s->wpAny (model prog w) A (richCompare .Lt (.str i t) (.str j t')) Q E s:=fun {A E i j t t' Q} h =>
  wpAny_richCompare_same (op:=.Lt) (T:="str") (typeIs_str s i t) (typeIs_str s j t') slot_str_lt (call_str_lt ⟨fun z=>(by cases z),h⟩)
 induction n with
 |zero =>
  intro A E d e v u Q hu q1 q2 hc h;cases d<;>cases e<;>first|exact hc.elim|exact q1.elim|skip
  ·obtain⟨t,rfl⟩:=q1;obtain⟨t',rfl⟩:=q2;exact hI (by simpa only[ltK]using h)
  ·obtain⟨t,rfl⟩:=q1;obtain⟨t',rfl⟩:=q2;exact hS (by simpa only[ltK]using h)
 |succ n ih =>
  intro A E d e v u Q hu q1 q2 hc h;cases d<;>cases e<;>first|exact hc.elim|skip
  ·obtain⟨t,rfl⟩:=q1;obtain⟨t',rfl⟩:=q2;exact hI (by simpa only[ltK]using h)
  ·obtain⟨t,rfl⟩:=q1;obtain⟨t',rfl⟩:=q2;exact hS (by simpa only[ltK]using h)
  ·rename_i ds es;obtain⟨a,its,rfl,t1,_⟩:=id q1;obtain⟨b,its2,rfl,t2,_⟩:=id q2;have T1:s.TypeIs (.ref a) "tuple":=by obtain⟨o,ho,hc,_⟩:=t1;exact⟨o,ho,hc⟩
   have T2:s.TypeIs (.ref b) "tuple":=by obtain⟨o,ho,hc,_⟩:=t2;exact⟨o,ho,hc⟩
   exact wpAny_richCompare_same_room (op:=.Lt) T1 T2 F.slot_tuple_lt (uC hu q1 q2 (by simpa only[Cm]using hc) ih ⟨fun z=>(by cases z),by simpa only[ltK]using h⟩) (by lia)
end
end L2
namespace L2
open PySem PySem.W PySem.Calls PyProof.Rows PySem.SeqAt
section
variable{prog:Program}{w:World}{A:Around}{E:Value->Shared->Prop}{s:Shared}
theorem Cy{n:Nat}{k:KD}{v:Value}{Q:Value->Shared->Prop}(q:KAt s.heap n k v) (h:∀T,Q T s):wpAny (model prog w) A (typeOf v) Q E s:=by
 cases k with
 |int i=>obtain⟨t,rfl⟩:=kn.mp q;exact wpAny_pure (h _)
 |str i=>obtain⟨t,rfl⟩:=lC.mp q;exact wpAny_pure (h _)
 |tup ks=>cases n with
  |zero=>exact q.elim
  |succ n =>
   obtain⟨a,its,rfl,⟨o,ho,hc,_⟩,_⟩:=q;exact wpAny_typeOf ⟨o,ho,hc⟩ (h _)
theorem ve{n:Nat}{ds es:List KD}{v u:Value}{Q:Bool->Shared->Prop}(hu:A.units+(n+1)<cLine) (q1:KAt s.heap (n+1) (.tup ds) v) (q2:KAt s.heap (n+1) (.tup es) u) (hc:Cms ds es) (h:Q (bj ds es) s):wpAny (model prog w) A (oneLt' true v u) Q E s:=by
 obtain⟨a,its,rfl,t1,_⟩:=id q1;obtain⟨b,its2,rfl,t2,_⟩:=id q2;have T1:s.TypeIs (.ref a) "tuple":=by obtain⟨o,ho,hc,_⟩:=t1;exact⟨o,ho,hc⟩
 rw[oneLt'_eq];simp only[if_true];refine wpAny_bind (wpAny_cRoomFor_or (.inr (by lia)) ?_);refine wpAny_bind (wpAny_callSpecialIfBound?_slot T1 F.slot_tuple_lt (uC hu q1 q2 hc (Cu n) ?_));exact wpAny_truthy_bool h
theorem DN(f:Bool) {n:Nat}{d e:KD}{v u:Value}{Q:Bool->Shared->Prop}(hu:A.units+n<cLine) (q1:KAt s.heap n d v) (q2:KAt s.heap n e u) (hc:Cm d e) (h:Q (ltK d e) s):wpAny (model prog w) A (oneLt' f v u) Q E s:=by
 cases f with
 |false=>exact kat_one _ _ (Cu n hu q1 q2 hc h)
 |true =>
  cases d with
  |int i=>cases e with
   |int j=>obtain⟨t,rfl⟩:=kn.mp q1;obtain⟨t',rfl⟩:=kn.mp q2;exact oneLt_int (by simpa only[ltK]using h)
   |_=>exact hc.elim
  |str i=>cases e with
   |str j=>obtain⟨t,rfl⟩:=lC.mp q1;obtain⟨t',rfl⟩:=lC.mp q2;exact oneLt_str (by simpa only[ltK,ltS]using h)
   |_=>exact hc.elim
  |tup ds=>cases e with
   |tup es=>cases n with
    |zero=>exact q1.elim
    |succ n=>exact ve hu q1 q2 (by simpa only[Cm]using hc) (by simpa only[ltK]using h)
   |_=>exact hc.elim
def SKd(κ:SortKind):Prop:=κ=general'∨κ=oneType'∨∃b,κ=tuples' b
theorem EI{κ:SortKind}(hκ:SKd κ) {n:Nat}{ds es:List KD}{v u:Value}{Q:Bool->Shared->Prop}(hu:A.units+(n+1)<cLine) (q1:KAt s.heap (n+1) (.tup ds) v) (q2:KAt s.heap (n+1) (.tup es) u) (hc:Cms ds es) (h:Q (bj ds es) s):wpAny (model prog w) A (keyLt' κ v u) Q E s:=by
 rcases hκ with rfl|rfl|⟨b,rfl⟩
 ·show wpAny _ _ (oneLt' false v u) _ _ _;exact DN false (d:=.tup ds) (e:=.tup es) hu q1 q2 (by simpa only[Cm]using hc) (by simpa only[ltK]using h)
 ·rw[keyLt'_oneType];exact ve hu q1 q2 hc h
 ·obtain⟨a,its,rfl,⟨o1,g1,c1,n1,d1⟩,z1,r1⟩:=q1;obtain⟨c,its2,rfl,⟨o2,g2,c2,n2,d2⟩,z2,r2⟩:=q2;refine kat_lt g1 d1 g2 d2 ?_;have go:∀k m,ds.length-m=k->m<=min its.size its2.size->bj ds es=bj (ds.drop m) (es.drop m)->Cms (ds.drop m) (es.drop m)->KatLex prog w A b (decide (its.size<its2.size)) Q ((its.toList.zip its2.toList).drop m) m s:=by
   intro k
   induction k with
   |zero =>
    intro m hk hm hl _;rw[List.drop_eq_nil_of_le (by rw[List.length_zip,Array.length_toList,Array.length_toList];lia)];refine kat_nil ?_;have:decide (its.size<its2.size)=bj ds es:=by
     rw[hl,List.drop_eq_nil_of_le (show ds.length<=m by lia)];rcases Nat.lt_or_ge m es.length with q|q
     ·rw[List.drop_eq_getElem_cons q,decide_eq_true (by lia)];simp[bj]
     ·rw[List.drop_eq_nil_of_le q,decide_eq_false (by lia)];simp[bj]
    rw[this];exact h
   |succ k ih =>
    intro m hk hm hl hcm;have m1:m<ds.length:=by lia
    rcases Nat.lt_or_ge m es.length with m2|m2
    ·have hz:m<(its.toList.zip its2.toList).length:=by rw[List.length_zip,Array.length_toList,Array.length_toList];lia
     rw[List.drop_eq_getElem_cons hz];have i1:m<its.size:=by lia
     have i2:m<its2.size:=by lia
     have e:(its.toList.zip its2.toList)[m]=(its[m],its2[m]):=by simp
     rw[e];have k1:=r1 m _ _ (List.getElem?_eq_getElem m1) (Array.getElem?_eq_getElem i1);have k2:=r2 m _ _ (List.getElem?_eq_getElem m2) (Array.getElem?_eq_getElem i2);rw[List.drop_eq_getElem_cons m1,List.drop_eq_getElem_cons m2]at hl hcm;simp only[bj,Cms]at hl hcm;obtain⟨bb,b1,b2⟩:=KAt.eq n (A:=A) (by exact Nat.le_of_lt (by assumption)) k1 k2;refine kat_cons (b2 prog w _ _ ?_);cases bb with
     |true =>
      rw[if_pos (b1.mp rfl)]at hl;exact kat_yes (ih (m+1) (by lia) (by lia) hl hcm.2)
     |false =>
      have ne:¬ ds[m]=es[m]:=fun z=>by have:=b1.mpr z;cases this
      rw[if_neg ne]at hl;exact kat_no (DN _ (by exact Nat.le_of_lt (by assumption)) k1 k2 hcm.1 (by rw[<-hl];exact h))
    ·rw[List.drop_eq_nil_of_le (by rw[List.length_zip,Array.length_toList,Array.length_toList];lia)];refine kat_nil ?_;have:decide (its.size<its2.size)=bj ds es:=by
      rw[hl,List.drop_eq_nil_of_le m2,List.drop_eq_getElem_cons m1,decide_eq_false (by lia)];simp[bj]
     rw[this];exact h
  exact go _ 0 rfl (Nat.zero_le _) rfl hc
theorem kT{β:Type}{f:Value->Sem β}{R:β->Prop}:∀(l:List Value) {Q:List β->Shared->Prop},(∀v∈l,∀Q':β->Shared->Prop,(∀r,R r->Q' r s)->wpAny (model prog w) A (f v) Q' E s)->(∀rs,(∀r∈rs,R r)->Q rs s)->wpAny (model prog w) A (l.mapM f) Q E s
 |[],Q,_,h=>by rw[List.mapM_nil];exact wpAny_pure (h [] fun _ z=>nomatch z)
 |v::l,Q,hf,h=>by
  rw[List.mapM_cons];refine wpAny_bind (hf v (.head _) _ fun r hr=>wpAny_bind (kT l (fun u hu=>hf u (.tail _ hu)) fun rs hrs=>wpAny_pure (h _ fun x hx=>?_)));rcases List.mem_cons.mp hx with rfl|hx
  ·exact hr
  ·exact hrs x hx
theorem CZ{vs:List Value}{n:Nat}(hv:∀v∈vs,∃k,KAt s.heap (n+1) (.tup k) v) {Q:SortKind->Shared->Prop}(h:∀ κ,SKd κ->Q κ s):wpAny (model prog w) A (keyKind' vs.toArray) Q E s:=by
 have one:∀(l:List Value) (Q':Option Value->Shared->Prop),(∀v∈l,∃n k,KAt s.heap n k v)->(∀r,Q' r s)->wpAny (model prog w) A (oneTypeOnly' l.toArray) Q' E s:=fun l Q' hl hq=>by
  rw[oneTypeOnly'_eq,List.mapM_toArray,map_eq_pure_bind];refine wpAny_bind (wpAny_bind (kT (R:=fun _=>True) l (fun v hv Q' hq=>let⟨n,k,q⟩:=hl v hv;Cy q fun T=>hq T trivial) fun rs _=>wpAny_pure ?_))
  split
  ·exact wpAny_pure (hq _)
  ·exact wpAny_pure (hq _)
 rw[keyKind'_eq,List.mapM_toArray,map_eq_pure_bind];refine wpAny_bind (wpAny_bind (kT (R:=fun r:Option Value=>∀f,r=some f->∃n k,KAt s.heap n k f) vs (fun v hv' Q' hq=>?_) fun rs hrs=>wpAny_pure ?_))
 ·obtain⟨ks,a,its,rfl,⟨o,ho,hc,c,hd⟩,z,r⟩:=hv v hv';show wpAny _ _ (typeOf (.ref a) >>= _) _ _ _;refine wpAny_bind (wpAny_typeOf ⟨o,ho,hc⟩ ?_);rw[if_neg (by decide)];refine wpAny_bind (listItems_at ho hd (wpAny_pure (hq _ fun f hf=>?_)));have lt:=(Array.getElem?_eq_some_iff.mp hf).1;exact⟨n,_,r 0 _ _ (List.getElem?_eq_getElem (by lia)) hf⟩
 ·split
  ·refine wpAny_bind (wpAny_rule ?_);rw[show(rs.toArray.filterMap id)=(rs.filterMap id).toArray by simp];refine wpAny_bind (one _ _ (fun v hv=>?_) fun r=>wpAny_pure (h _ (.inr (.inr ⟨_,rfl⟩))));obtain⟨r,hr,e⟩:=List.mem_filterMap.mp hv;exact hrs r hr v e
  ·split
   ·exact wpAny_pure (h _ (.inl rfl))
   ·refine wpAny_bind (one _ _ (fun v hv'=>let⟨k,q⟩:=hv v hv';⟨_,_,q⟩) fun r=>?_)
    split
    ·exact wpAny_pure (h _ (.inr (.inl rfl)))
    ·exact wpAny_pure (h _ (.inl rfl))
end
section
variable{prog:Program}{w:World}{A:Around}{E:Value->Shared->Prop}{O:KeyOrd}
theorem uz(vs:List Value):vs.toArray.zip vs.toArray=(vs.map fun v=>(v,v)).toArray:=by
 apply Array.ext';rw[Array.toList_zip];show vs.zip vs=_
 induction vs with
 |nil=>rfl
 |cons a l ih=>rw[List.zip_cons_cons,ih];rfl
theorem xi{s:Shared}{x:Addr}{vs:List Value}{n:Nat}{key:Value->O.α}{J:SortKind->Prop}{P:PySem.Fin->Shared->Prop}(hx:s.heap.get? x=some (seqObj "list" vs.toArray n)) (hz:vs.length<=sizeLine)
  (hk:∀s1 Q,2<=vs.length->sh x s s1->(∀ κ,J κ->Q κ s1)->wpAny (model prog w) A (keyKind' vs.toArray) Q (fun _ _=>False) s1)
  (hc:∀ κ,J κ->∀u∈vs,∀v∈vs,∀s1 Q,sh x s s1->Q (O.blt (key u) (key v)) s1->wpAny (model prog w) A (keyLt' κ u v) Q (fun _ _=>False) s1)
  (k:∀(us:List Value) c h',us.Perm vs->us.Pairwise (fun a b=>O.kle (key a) (key b))->(∀b o,b≠x->s.heap.get? b=some o->h'.get? b=some o)->h'.get? x=some (seqObj "list" us.toArray c)->P (.done (.ret .none)) { s with heap:=h' }) :
  wpAny (model prog w) A (Builtin.«list.sort» ⟨[.ref x],[]⟩) P E s:=by
 have lx:x<s.heap.objs.size:=Heap.lt_size hx;obtain⟨c1,h1⟩:∃c,(s.heap.update x (Obj.mapSeq fun _=>#[])).get? x=some (seqObj "list" #[] c):=⟨_,get?_update_seq hx (fun _=>#[])⟩;rw[list_sort_plain];refine wpAny_bind (listItems_at hx rfl (wpAny_bind (listUpdate_at hx rfl (wpAny_bind (seqEpoch_at h1 rfl (wpAny_bind (wpAny_newTuple (wpAny_bind (wpAny_newList (wpAny_holding ?_) (Nat.zero_le _))) ?_)))) ?_ (Nat.zero_le _))))
 rotate_left
 ·exact hz
 ·rw[List.size_toArray];exact hz
 generalize hh:((s.heap.update x (Obj.mapSeq fun _=>#[])).push (seqObj "tuple" vs.toArray 0)).push (seqObj "list" #[] 0)=h2;show wpAny _ A _ P E { s with heap:=h2 };have g2:h2.get? x=some (seqObj "list" #[] c1):=by
  rw[<-hh];exact Heap.get?_push_of_some _ (Heap.get?_push_of_some _ h1)
 have st:sh x s { s with heap:=h2 }:=fun b o ne e=>by
  show h2.get? b=some o;rw[<-hh];exact Heap.get?_push_of_some _ (Heap.get?_push_of_some _ (by rw[Heap.get?_update_ne _ _ _ _ ne];exact e))
 have fin:∀us:List Value,us.Perm vs->us.Pairwise (fun a b=>O.kle (key a) (key b))->P (.done (.ret .none)) { s with heap:=h2.update x (Obj.mapSeq fun _=>us.toArray) }:=fun us hp hr =>
  k us _ _ hp hr (fun b o ne e=>by rw[Heap.get?_update_ne _ _ _ _ ne];exact st b o ne e) (get?_update_seq g2 fun _=>us.toArray)
 dsimp only;rw[uz]
 by_cases few:vs.toArray.size<2
 ·rw[if_pos few,if_pos few];refine wpAny_bind (wpAny_pure ?_);rw[StateT.run_pure];refine wpAny_bind (wpAny_pure ?_);dsimp only;have few':vs.length<2:=by rw[List.size_toArray]at few;exact few
  have e0:(arrOf (SortSt.mk' general' (vs.map fun v=>(v,v)).toArray #[] 7 none)).map (·.2)=vs.toArray:=by
   show(vs.map fun v=>(v,v)).toArray.map (·.2)=_;rw[List.map_toArray,List.map_map];congr 1;exact List.map_id _
  rw[e0];refine wpAny_bind (seqEpoch_at g2 rfl (wpAny_bind (listUpdate_at g2 rfl ?_ (Nat.zero_le _) (by rw[List.size_toArray];exact Nat.le_succ_of_le hz))));simp only[failedOf,bne_self_eq_false,Bool.false_eq_true,if_false];exact wpAny_pure (fin _ (List.Perm.refl _) (by
   rcases vs with _|⟨a,_|⟨b,l⟩⟩
   ·exact .nil
   ·exact .cons (fun _ z=>nomatch z) .nil
   ·exact absurd few' (by simp)))
 ·rw[if_neg few,if_neg few];have two:2<=vs.length:=by rw[List.size_toArray]at few;lia
  refine wpAny_bind (wpAny_mono (hk { s with heap:=h2 } (fun q t=>J q/\t=({ s with heap:=h2 }:Shared)) two st fun κ hκ=>⟨hκ,rfl⟩) ?_ fun _ _ z=>z.elim);rintro κ _ ⟨hκ,rfl⟩;generalize ea:(vs.map fun v=>((v,v):Keyed))=a0;have ma:∀p∈a0,p.1∈vs/\p.2=p.1:=fun p hp=>by
   rw[<-ea]at hp;obtain⟨v,hv,rfl⟩:=List.mem_map.mp hp;exact⟨hv,rfl⟩
  have la:a0.length=vs.length:=by rw[<-ea,List.length_map]
  have hA:fV prog w A { s with heap:=h2 } κ (fun p:Keyed=>key p.1) a0:=fun p hp q hq Q z=>hc κ hκ _ (ma p hp).1 _ (ma q hq).1 _ Q st z;have R:=AR (E:=E) (st:=SortSt.mk' κ a0.toArray #[] 7 none) (Q:=fun _ st'=>SB a0 κ st'/\Up (fun p:Keyed=>key p.1) (arrOf st') 0 a0.length) hA ⟨List.Perm.refl _,rfl,rfl⟩ rfl (by lia) fun st' a b=>⟨a,b⟩;refine wpAny_bind (wpAny_mono (show wpAny _ _ _ _ _ _ from R) ?_ fun _ _ z=>z);rintro⟨⟨⟩,u⟩ t ⟨rfl,hB,hU⟩;dsimp only;have hp:((arrOf u).toList.map (·.2)).Perm vs:=by
   have h:=hB.perm.map (fun p:Keyed=>p.2);rw[<-ea,List.map_map]at h;exact h.trans (.of_eq (List.map_id _))
  have hw:((arrOf u).toList.map (·.2)).Pairwise (fun a b=>O.kle (key a) (key b)):=by
   rw[List.pairwise_iff_getElem];intro i j hi hj hij;have sz:(arrOf u).size=a0.length:=hB.size;rw[List.length_map,Array.length_toList]at hi hj;have:=hU i j (Nat.zero_le _) (Nat.le_of_lt hij) (by lia);unfold kA at this;have e:∀i (h:i<(arrOf u).size),gA (arrOf u) i=(arrOf u)[i]/\((arrOf u)[i]).2=((arrOf u)[i]).1:=fun i h=>⟨by unfold gA;rw[Array.getElem?_eq_getElem h];rfl,(ma _ (hB.perm.mem_iff.mp (by simp))).2⟩;rw[(e i hi).1,(e j hj).1]at this;simp only[List.getElem_map,Array.getElem_toList,(e i hi).2,(e j hj).2];exact this
  have e0:(arrOf u).map (·.2)=((arrOf u).toList.map (·.2)).toArray:=by apply Array.ext';simp
  rw[e0];refine wpAny_bind (seqEpoch_at g2 rfl (wpAny_bind (listUpdate_at g2 rfl ?_ (Nat.zero_le _) ?_)))
  ·rw[hB.fail];simp only[bne_self_eq_false,Bool.false_eq_true,if_false];exact wpAny_pure (fin _ hp hw)
  ·rw[List.size_toArray,hp.length_eq];exact Nat.le_succ_of_le hz
theorem xW{s:Shared}{vs:List Value}{key:Value->O.α}{J:SortKind->Prop}{P:PySem.Fin->Shared->Prop}(hz:vs.length<=sizeLine)
  (hk:∀s1 Q,2<=vs.length->(∀b o,s.heap.get? b=some o->s1.heap.get? b=some o)->(∀ κ,J κ->Q κ s1)->wpAny (model prog w) A.in1 (keyKind' vs.toArray) Q (fun _ _=>False) s1)
  (hc:∀ κ,J κ->∀u∈vs,∀v∈vs,∀s1 Q,(∀b o,s.heap.get? b=some o->s1.heap.get? b=some o)->Q (O.blt (key u) (key v)) s1->wpAny (model prog w) A.in1 (keyLt' κ u v) Q (fun _ _=>False) s1)
  (k:∀(us:List Value) x c h',us.Perm vs->us.Pairwise (fun a b=>O.kle (key a) (key b))->s.heap.objs.size<=x->(∀b o,s.heap.get? b=some o->h'.get? b=some o)->h'.get? x=some (seqObj "list" us.toArray c)->P (.done (.ret (.ref x))) { s with heap:=h' }) :
  wpAny (model prog w) A (newList vs >>= fun l=>holding [l] (call (.builtin "list.sort") [l] []) >>= fun _=>ret l) P E s:=by
 refine wpAny_bind (wpAny_newList ?_ hz);have new:(s.heap.push (seqObj "list" vs.toArray 0)).get? s.heap.objs.size=some (seqObj "list" vs.toArray 0):=Heap.get?_push_size _ rfl;have kp2:∀b o,s.heap.get? b=some o->(s.heap.push (seqObj "list" vs.toArray 0)).get? b=some o:=fun b o e=>Heap.get?_push_of_some _ e;show wpAny _ _ _ _ _ { s with heap:=s.heap.push (seqObj "list" vs.toArray 0) };have go:∀(t:Shared),sh s.heap.objs.size { s with heap:=s.heap.push (seqObj "list" vs.toArray 0) } t->∀b o,s.heap.get? b=some o->t.heap.get? b=some o:=fun t ht b o e=>ht b o (Nat.ne_of_lt (Heap.lt_size e)) (kp2 b o e);refine wpAny_bind (wpAny_holding (wpAny_call_entry slot_list_sort ⟨_,new,rfl⟩ entry_list_sort ?_ (args_list_sort _)));refine xi (key:=key) (J:=J) new hz (fun t Q' two ht q=>hk t Q' two (go t ht) q) (fun κ hκ u hu v hv t Q ht q=>hc κ hκ u hu v hv t Q (go t ht) q) fun us c h' hp hr hs hx=>?_;exact⟨_,rfl,wpAny_pure (k us _ c h' hp hr (Nat.le_refl _) (fun b o e=>go { s with heap:=h' } hs b o e) hx)⟩
end
end L2
namespace L2
open PySem PySem.Spec PyProof.Rows PySem.Calls PySem.SeqAt
mutual
def kd:KD->D
 |.int i=>.int i
 |.str x=>.str x
 |.tup ks=>.tup (kds ks)
def kds:List KD->List D
 |[]=>[]
 |k::ks=>kd k::kds ks
end
theorem nN:∀ks,kds ks=ks.map kd
 |[]=>by simp[kds]
 |k::ks=>by simp[kds,nN ks]
mutual
theorem Bf:∀{a b:KD},kd a=kd b->a=b
 |.int _,.int _,h=>by simp[kd]at h;rw[h]
 |.int _,.str _,h=>by simp[kd]at h
 |.int _,.tup _,h=>by simp[kd]at h
 |.str _,.int _,h=>by simp[kd]at h
 |.str _,.str _,h=>by simp[kd]at h;rw[h]
 |.str _,.tup _,h=>by simp[kd]at h
 |.tup _,.int _,h=>by simp[kd]at h
 |.tup _,.str _,h=>by simp[kd]at h
 |.tup a,.tup b,h=>by simp only[kd,D.tup.injEq]at h;rw[nq h]
theorem nq:∀{a b:List KD},kds a=kds b->a=b
 |[],[],_=>rfl
 |[],_::_,h=>by simp[kds]at h
 |_::_,[],h=>by simp[kds]at h
 |a::as,b::bs,h=>by
  simp only[kds,List.cons.injEq]at h;rw[Bf h.1,nq h.2]
end
def bS(ks:List KD):D:=.tup (kds ks)
theorem wg{a b:List KD}(h:bS a=bS b):a=b:=nq (by simpa[bS]using h)
theorem uu{a b:List (List KD)}(h:a.map bS=b.map bS):a=b:=(List.map_inj_right fun _ _ h=>wg h).mp h
def dpK:Nat->KD->Prop
 |_,.int _=>True
 |_,.str _=>True
 |0,.tup _=>False
 |n+1,.tup ks=>∀k∈ks,dpK n k
open Classical in
def kOf(h:Heap) (n:Nat) (v:Value):List KD:=if q:∃ds,KAt h n (.tup ds) v then q.choose else[]
theorem m6{h:Heap}{n:Nat}{v:Value}{ds:List KD}(q:KAt h n (.tup ds) v):kOf h n v=ds:=by
 have e:∃ds,KAt h n (.tup ds) v:=⟨_,q⟩;unfold kOf;rw[dif_pos e];have:=KAt.same n e.choose_spec q;cases this;rfl
def Rws(ks:List (List KD)):Prop:=(∀k∈ks,dpK 9 (.tup k))/\∀a∈ks,∀b∈ks,Cms a b
theorem Rws.sub{ks js:List (List KD)}(h:Rws ks) (s:∀k∈js,k∈ks):Rws js:=⟨fun k hk=>h.1 k (s k hk),fun a ha b hb=>h.2 a (s a ha) b (s b hb)⟩
theorem ja{ps qs:List (List KD)}(h:ps.Perm qs):df ps=df qs:=n9 ((gD ps).trans h) (oY ps)
section
variable{X:Cx}{aa:List (Addr×Obj)}{s:Shared}{σ:St}{H:Hp}{M:DH}{K:PySem.W.Frag}
theorem rE(I:Inv X aa σ H s):∀(n:Nat) {k:KD}{v:V}{u:Value},dpK n k->Rep X.K M H (kd k) v->aA v u->KAt s.heap n k u:=by
 intro n
 induction n with
 |zero =>
  intro k v u hd r q;cases k with
  |int i=>simp only[kd,Rep]at r;subst r;exact q
  |str i=>simp only[kd,Rep]at r;subst r;exact q
  |tup _=>exact hd.elim
 |succ n ih =>
  intro k v u hd r q;cases k with
  |int i=>simp only[kd,Rep]at r;subst r;exact q
  |str i=>simp only[kd,Rep]at r;subst r;exact q
  |tup ks =>
   simp only[kd,Rep]at r;obtain⟨a,vs,rfl,t,rl⟩:=r;cases q;obtain⟨its,rv,tp,hz⟩:=I.tuple t.sq;refine⟨a,its.toArray,rfl,tp,?_,fun i d u h1 h2=>?_⟩
   ·rw[List.size_toArray,<-rv.length,<-rl.length,nN,List.length_map]
   ·obtain⟨v,g,r⟩:=rl.get (i:=i) (d:=kd d) (by rw[nN,List.getElem?_map,h1];rfl);obtain⟨u',g',r'⟩:=rv.get g;rw[List.getElem?_toArray,g']at h2;cases h2;exact ih (hd d (List.mem_of_getElem? h1)) r r'
theorem ef(I:Inv X aa σ H s) {n:Nat}{ks:List (List KD)}{vs:List V}{its:List Value}(hd:∀k∈ks,dpK n (.tup k)) (rl:ak X.K M H (ks.map bS) vs) (rv:av vs its) {i:Nat}{k:List KD}{u:Value}(h1:ks[i]?=some k) (h2:its[i]?=some u):KAt s.heap n (.tup k) u:=by
 obtain⟨v,g,r⟩:=rl.get (i:=i) (d:=bS k) (by rw[List.getElem?_map,h1];rfl);obtain⟨u',g',r'⟩:=rv.get g;rw[g']at h2;cases h2;exact rE I n (k:=.tup k) (hd k (List.mem_of_getElem? h1)) (by simp only[kd];exact r) r'
theorem oQ{τ:Type}{f:τ->D}{its us:List Value}(p:its.Perm us):∀{vs:List V}{ks:List τ},av vs its->ak K M H (ks.map f) vs->∃(vs':List V) (ks':List τ),av vs' us/\ak K M H (ks'.map f) vs'/\ks'.Perm ks:=by
 induction p with
 |nil=>intro vs ks rv rl;exact⟨vs,ks,rv,rl,.refl _⟩
 |cons x p ih =>
  intro vs ks rv rl;cases rv with
  |cons r t=>cases ks with
   |nil=>cases rl
   |cons k ks =>
    simp only[List.map_cons,ak]at rl;obtain⟨v,ws,e,r1,r2⟩:=rl;cases e;obtain⟨vs',ks',a,b,c⟩:=ih t r2;exact⟨_::vs',k::ks',.cons r a,ak.cons r1 b,c.cons _⟩
 |swap x y l =>
  intro vs ks rv rl;cases rv with
  |cons r t=>cases t with
   |cons r' t=>cases ks with
    |nil=>cases rl
    |cons k ks=>cases ks with
     |nil=>simp only[List.map_cons,List.map_nil,ak]at rl;obtain⟨v,ws,e,r1,r2⟩:=rl;cases e;cases r2
     |cons j ks =>
      simp only[List.map_cons,ak]at rl;obtain⟨v,ws,e,r1,v2,ws2,e2,r2,r3⟩:=rl;cases e;cases e2;exact⟨_::_::_,j::k::ks,.cons r' (.cons r t),ak.cons r2 (ak.cons r1 r3),.swap _ _ _⟩
 |trans _ _ ih1 ih2 =>
  intro vs ks rv rl;obtain⟨vs',ks',a,b,c⟩:=ih1 rv rl;obtain⟨vs2,ks2,a2,b2,c2⟩:=ih2 a b;exact⟨vs2,ks2,a2,b2,c2.trans c⟩
theorem evD{a:Expr}{ta:TEd}{Δ:DE}{R:D->DH->Prop}{Q:Value->Shared->Prop}(ha:PEd X a ta) (I:Inv X aa σ H s) (sr:SR X.K M H σ Δ) (hr:HR X.K M H) (q:ta Δ M R)
  (k:∀u s1 v H1 x M1,Inv X aa σ H1 s1->aA v u->R x M1->HR X.K M1 H1->Rep X.K M1 H1 x v->Ext M H M1 H1->Q u s1):wpAny (model X.prog X.w) X.A (eval a X.env) Q X.xe s :=
 thn (ha aa s σ H (fun v H1=>∃x M1,R x M1/\HR X.K M1 H1/\Rep X.K M1 H1 x v/\Ext M H M1 H1) I ⟨Δ,M,R,sr,hr,q,fun x M1 v H1 q1 e1 hr1 rv=>⟨x,M1,q1,hr1,rv,e1⟩⟩) fun u s1 ⟨v,H1,I1,r1,x,M1,q1,hr1,rv,e1⟩=>k u s1 v H1 x M1 I1 r1 q1 hr1 rv e1
theorem pZ{A:Around}{E:Value->Shared->Prop}{P:PySem.Fin->Shared->Prop}{Q:VK}{ks:List (List KD)}{vs:List V}{its:List Value}(hu:A.in1.units+9<cLine) (I:Inv X aa σ H s) (hr:HR X.K M H) (hk:Rws ks) (rl:ak X.K M H (ks.map bS) vs) (rv:av vs its) (hz:vs.length<=sizeLine)
  (q:∀x vs',H x=none->ak X.K M H ((df ks).map bS) vs'->Q (.ref x) (upd H x (.lst vs'))) (k:∀x s',EP X aa σ Q (.ref x) s'->P (.done (.ret (.ref x))) s') :
  wpAny (model X.prog X.w) A (newList its >>= fun l=>holding [l] (call (.builtin "list.sort") [l] []) >>= fun _=>ret l) P E s:=by
 have hlk:ks.length=its.length:=by rw[<-rv.length,<-rl.length,List.length_map]
 have at_:∀u∈its,∃k∈ks,KAt s.heap 9 (.tup k) u:=fun u hu=>by
  obtain⟨i,hi⟩:=List.mem_iff_getElem?.mp hu;have lt:i<ks.length:=by rw[hlk];exact(List.getElem?_eq_some_iff.mp hi).1
  exact⟨_,List.getElem_mem lt,ef I hk.1 rl rv (List.getElem?_eq_getElem lt) hi⟩
 refine xW (O:=xF) (key:=kOf s.heap 9) (J:=SKd) (by rw[<-rv.length];exact hz) (fun s1 Q' _ kp q'=>?_) (fun κ hκ u hu' v hv s1 Q' kp q'=>?_) fun us x c h' hp hw hx kp ho=>?_
 ·exact CZ (n:=8) (fun v hv=>let⟨k,_,z⟩:=at_ v hv;⟨k,z.up fun b o _ e=>kp b o e⟩) q'
 ·obtain⟨a,ha,qa⟩:=at_ u hu';obtain⟨b,hb,qb⟩:=at_ v hv;have q2:Q' (bj (kOf s.heap 9 u) (kOf s.heap 9 v)) s1:=q';rw[m6 qa,m6 qb]at q2;exact EI hκ (n:=8) hu (qa.up fun b o _ e=>kp b o e) (qb.up fun b o _ e=>kp b o e) (hk.2 a ha b hb) q2
 ·obtain⟨vs',ks',rv',rl',hk'⟩:=oQ hp.symm rv rl;have I2:=I.laid (t':=s.toks) (o:=.lst vs') kp hx (show bK X.prog X.w _ h' x (.lst _)from⟨by rw[rv'.length,hp.length_eq,<-rv.length];exact hz,us,c,rv',ho⟩);have es:ks'=df ks:=by
   refine n9 hk' ?_;have hl':ks'.length=us.length:=by rw[<-rv'.length,<-rl'.length,List.length_map]
   rw[List.pairwise_iff_getElem];intro i j hi hj hij;have:=List.pairwise_iff_getElem.mp hw i j (by lia) (by lia) hij;have d':∀k∈ks',dpK 9 (.tup k):=fun k hk2=>hk.1 k (hk'.mem_iff.mp hk2);have ki:=ef I d' rl' rv' (List.getElem?_eq_getElem hi) (List.getElem?_eq_getElem (show i<us.length by lia));have kj:=ef I d' rl' rv' (List.getElem?_eq_getElem hj) (List.getElem?_eq_getElem (show j<us.length by lia));rw[m6 ki,m6 kj]at this;have z:bj ks'[j] ks'[i]=false:=this;simp only[leK,z,Bool.not_false]
  subst es;exact k _ _ ⟨.ref x,_,I2,rfl,q x vs' (I.hok.fresh hx) rl'⟩
open Classical in
def kE:D->Option D
 |.lst ds=>if h:∃ks:List (List KD),ds=ks.map bS/\Rws ks then some (.lst ((df h.choose).map bS))else none
 |.tup ds=>if h:∃ks:List (List KD),ds=ks.map bS/\Rws ks then some (.lst ((df h.choose).map bS))else none
 |_=>none
theorem vc{ks:List (List KD)}(h:Rws ks):kE (.lst (ks.map bS))=some (.lst ((df ks).map bS)):=by
 have e:∃js:List (List KD),ks.map bS=js.map bS/\Rws js:=⟨ks,rfl,h⟩;simp only[kE];rw[dif_pos e,<-uu e.choose_spec.1]
theorem mU(hu:X.A.units+64<cLine) {T:String}{o:Obj}{n:Nat}{l:Addr}{ks:List (List KD)}{vs:List V}{its:List Value}{Q:VK}(I:Inv X aa σ H s) (hr:HR X.K M H) (hk:Rws ks) (rl:ak X.K M H (ks.map bS) vs) (rv:av vs its) (hz:vs.length<=sizeLine)
  (hT:T="list"∨T="tuple") (hg:s.heap.get? l=some o) (hcl:o.cls=.type T) (hd:o.data=.seq its.toArray n)
  (q:∀x vs',H x=none->ak X.K M H ((df ks).map bS) vs'->Q (.ref x) (upd H x (.lst vs'))):wpAny (model X.prog X.w) X.A (call (.builtin "sorted") [.ref l]) (EP X aa σ Q) X.xe s:=by
 refine call_function_entry kind_sorted plain_sorted entry_sorted (args_sorted1 _) ?_;unfold Builtin.«sorted»;refine wpAny_bind (m:=checkCount "sorted" 1 1 _) (wpAny_pure ?_);refine wpAny_bind (wpAny_collect_seq l hT hg hcl hd (fun h1 kp0=>?_) (by rw[rv.length]at hz;simpa using hz));have I1:Inv X aa σ H { s with heap:=h1,toks:=s.toks }:=I.kept kp0;exact pZ (show X.A.units+1+1+9<cLine by lia) I1 hr hk rl rv hz q fun x s' e=>⟨_,rfl,e⟩
theorem y0(hu:X.A.units+64<cLine):ba X (.builtin "sorted") (mY kE):=by
 intro aa s σ H M xs us ds dz Q I hr rv rp e k;obtain⟨d,rfl,e0⟩:=cu e;clear e;obtain⟨v,rfl,r⟩:=lw rp;obtain⟨u,rfl,ru⟩:=av.one rv;cases d with
 |lst ds =>
  simp only[kE]at e0
  by_cases h:∃ks:List (List KD),ds=ks.map bS/\Rws ks
  ·rw[dif_pos h]at e0;obtain⟨e1,e2⟩:=h.choose_spec;generalize h.choose=ks at e0 e1 e2;subst e1;cases e0;obtain⟨l,vs,rfl,sq,rl⟩:=r;cases ru;obtain⟨its,rv,pl,hz⟩:=I.list (SqL.of sq);obtain⟨o,hg,hcl,n,hd⟩:=pl.isList;exact mU hu I hr e2 rl rv hz (.inl rfl) hg hcl hd fun x vs' hx r=>dP hr hx r k
  ·rw[dif_neg h]at e0;cases e0
 |tup ds =>
  simp only[kE]at e0
  by_cases h:∃ks:List (List KD),ds=ks.map bS/\Rws ks
  ·rw[dif_pos h]at e0;obtain⟨e1,e2⟩:=h.choose_spec;generalize h.choose=ks at e0 e1 e2;subst e1;cases e0;obtain⟨l,vs,rfl,sq,rl⟩:=r;cases ru;obtain⟨its,rv,⟨o,hg,hcl,n,hd⟩,hz⟩:=I.tuple sq;exact mU hu I hr e2 rl rv hz (.inr rfl) hg hcl hd fun x vs' hx r=>dP hr hx r k
  ·rw[dif_neg h]at e0;cases e0
 |_=>cases e0
end
theorem B5.b{prog:Program}{w:World}{τ:Type}{κ:TK prog w τ}{h:Heap}{a:Addr}{o:Obj}{es:Array (Int×Value)}{ep:Nat}{t:SetTable}{zs:List τ}(q:B5 κ h a o es ep t zs) (hz:zs.length<1000):cR w h a o es ep t :=
 ⟨q.get,q.ex,q.data,by rw[q.el.len];unfold scanBound;exact Nat.le_trans (by assumption) (by decide),q.tb.fit,q.led,.inr q.tb.up⟩
section
variable{X:Cx}{aa:List (Addr×Obj)}{s:Shared}{σ:St}{H:Hp}{M:DH}{K:PySem.W.Frag}
theorem pW{h:Heap}{n:Nat}{ks:List (List KD)}{vs:List V}{its:List Value}(rv:av vs its) (rl:ak K M H (ks.map bS) vs) (hk:∀(i:Nat) k u,ks[i]?=some k->its[i]?=some u->KAt h n (.tup k) u) :
  ∀(zs:List (List KD)) (us:List Value),us.length=zs.length->(∀(i:Nat) z u,zs[i]?=some z->us[i]?=some u->u∈its/\KAt h n (.tup z) u)->∃vs',av vs' us/\ak K M H (zs.map bS) vs'
 |[],us,hl,_=>by
  have:us=[]:=List.length_eq_zero_iff.mp hl;subst this;exact⟨[],.nil,rfl⟩
 |_::_,[],hl,_=>by cases hl
 |z::zs,u::us,hl,h'=>by
  obtain⟨vs',a,b⟩:=pW rv rl hk zs us (Nat.succ.inj hl) fun i z u h1 h2=>h' (i+1) z u (by simpa using h1) (by simpa using h2);obtain⟨m,q⟩:=h' 0 z u rfl rfl;obtain⟨j,hj⟩:=List.mem_iff_getElem?.mp m;have hln:ks.length=its.length:=by rw[<-rv.length,<-rl.length,List.length_map]
  have lt:j<ks.length:=by rw[hln];exact(List.getElem?_eq_some_iff.mp hj).1
  have kj:=List.getElem?_eq_getElem lt;have e:=KAt.same n (hk j _ _ kj hj) q;obtain⟨v,g,r⟩:=rl.get (i:=j) (d:=bS ks[j]) (by rw[List.getElem?_map,kj];rfl);obtain⟨u',g',r'⟩:=rv.get g;rw[hj]at g';cases g';cases e;exact⟨v::vs',.cons r' a,ak.cons r b⟩
end
end L2
namespace L2
open PySem PySem.Spec PyProof.Rows PySem.Calls PySem.SeqAt PySem.W
def sY(h:Heap) (d:Addr) (es:Array DictEntry) (ep:Nat):Prop:=∃o,h.get? d=some o/\o.ExactDict/\o.data=.dict es ep
theorem sY.lt{h:Heap}{d:Addr}{es:Array DictEntry}{ep:Nat}(x:sY h d es ep):d<h.objs.size:=let⟨_,ho,_⟩:=x;Heap.lt_size ho
theorem sY.at'{h h':Heap}{d:Addr}{es:Array DictEntry}{ep:Nat}(x:sY h d es ep) (e:∀o,h.get? d=some o->h'.get? d=some o):sY h' d es ep:=let⟨o,ho,r⟩:=x;⟨o,e _ ho,r⟩
open Classical in
instance decKs:DecidableEq (List KD):=fun _ _=>propDecidable _
def dH(prog:Program) (w:World) (n:Nat) (hn:n<=8):HeapKind prog w (List KD) where
 is h ks a:=KAt h n (.tup ks) (.ref a)
 hash ks:=hK w n (.tup ks)
 draws ks:=drK n (.tup ks)
 room A:=A.units+n<cLine
 inj hx hy:=by have:=KAt.same n hx hy;cases this;rfl
 keeps {h h' k a d o es ep} q ho hd hs:=q.upT fun b xs ⟨o',g,hc,m,e⟩=>⟨o',by
  have ne:b≠d:=fun z=>by subst z;rw[ho]at g;cases g;rw[hd]at e;cases e
  rw[hs.2 b ne];exact g,hc,m,e⟩
 pyHash hr hx h:=KAt.hash n hr hx h
 eqBool {A E s x y a b Q} hr hx hy h:=by
  obtain⟨c,h1,h2⟩:=KAt.eq n hr hx hy;refine h2 prog w _ _ ?_;have:c=decide (x=y):=by
   rw[Bool.eq_iff_iff,h1];simp
  rw[this];exact h
 quiet hx h:=KAt.quiet 8 n hn hx h
end L2
namespace L2
open PySem PySem.Spec PyProof.Rows PySem.Calls PySem.SeqAt
def enR(w:World) (p:List KD×Value):DictEntry:=⟨hK w 8 (.tup p.1),p.2,.bool true⟩
def DrE(w:World) (a:Addr) (ks:List (List KD)) (vs:List V) (h:Heap):Prop :=
 (a==sysModules)=false/\ks.Nodup/\(∀k∈ks,dpK 8 (.tup k))/\∃its,av vs its/\∃es ep,sY h a es ep/\es.toList=(ks.zip its).map (enR w)
def dRw(w:World) (a:Addr) (ks:List (List KD)):HD:=.ext (DrE w a ks) (ks.map bS)
theorem DrE.ok{P:Program}{w w':World}{H:Hp}{a:Addr}{ks:List (List KD)}{vs:List V}{h:Heap}(x:DrE w a ks vs h):bK P w' H h a (.ext (DrE w a ks vs)):=by
 refine⟨x,?_,fun h1 h2 ⟨a1,a2,a3,its,a4,es,ep,a5,a6⟩ k=>⟨a1,a2,a3,its,a4,es,ep,a5.at' k,a6⟩⟩;obtain⟨_,_,_,its,_,es,ep,⟨o,ho,_⟩,_⟩:=x;exact⟨o,ho⟩
def wq:Value->Addr
 |.ref a=>a
 |_=>0
section
variable{X:Cx}{aa:List (Addr×Obj)}{s:Shared}{σ:St}{H:Hp}{M:DH}{a b:Addr}{ks:List (List KD)}{k:List KD}
theorem jy{α β:Type}:∀{l:List α}{m:List β},l.length=m.length->(l.zip m).map (·.1)=l
 |[],_,_=>by simp
 |_::_,[],h=>by cases h
 |x::l,y::m,h=>by simp[jy (l:=l) (m:=m) (Nat.succ.inj h)]
def xsR(p:List KD×Value):List KD×Addr×Value:=(p.1,wq p.2,.bool true)
variable{o i e:Expr}{to ti te:TEd}
end
end L2
namespace L2
open PySem PySem.Spec PyProof.Rows
theorem nO:typeLookup (.type "list") "keys"=pure none:=by rw[typeLookup_type,builtinLookup_eq_fast];kernel_rfl
section
variable{prog:Program}{w:World}{A:Around}{E:Value->Shared->Prop}{s:Shared}
theorem qY{a:Addr}{o:Obj}{xs:Array Value}{k:Nat}{Q:Option Value->Shared->Prop}(hx:s.heap.get? a=some o) (hc:o.cls=.type "list") (hdat:o.data=.seq xs k) (hd:o.dict=none) (hA:A.handled=none)
  (h:∀h' tk e,Heap.NewExcOf s.heap h' e "AttributeError"->Q none { s with heap:=h',toks:=tk }):wpAny (model prog w) A (getAttr? (.ref a) "keys") Q E s:=by
 obtain⟨c,dct,dat,sl⟩:=o;simp only at hc hdat hd;subst hc hdat hd;obtain⟨hp,g,d,tk,os⟩:=s;have hT:∀tk',(⟨hp,g,d,tk',os⟩:Shared).TypeIs (.ref a) "list":=fun _=>⟨_,hx,rfl⟩;have f1:=sub_AttributeError;have f3:=F.slot_list_getattribute.lookup;have f4:=F.slot_list_getattribute.bind (.ref a);have f5:=am_list_getattr_none;unfold getAttr? getAttrBy? getAttrBy
 repeat (any_goals (first|assumption|exact hT _|((with_reducible show wpAny _ _ (call (Value.builtin "list.__getattribute__") _ _) _ _ _);refine call_meets F.slot_list_getattribute (hT _) am_entry_list_getattribute (F.args_list_getattribute_2 _ _) (meets_getattribute_miss_list a xs k sl "keys" _ nO (by decide) (by decide)) ⟨hx,hA,fun h' tk' e hx'=>?_⟩)|wp_step))
 obtain⟨t',u',he⟩:=hx'.there;show wpAny _ _ (getattributeRaised _ _ _ _ _ _ _) _ _ _;unfold getattributeRaised
 repeat (any_goals (first|assumption|wp_step))
 exact h _ _ _ hx'.of
variable{R:Result->Shared->Prop}{I:Addr}{fp wr:List Addr}{G:Array GenState->Array GenState->Prop}{n:Nat}{P:Nat->Value->Prop}{St:Nat->Shared->Prop}
theorem yP(W:WalksS prog w A.in1 I fp wr G n P St) (d:Addr) (hdf:d∉fp) (bs:Nat->Addr) (kf vf:Nat->Value)
  (hP:∀i v,P i v->v=.ref (bs i)) (hbs:∀i,i<n->bs i∉d::wr) (Dst:Nat->Heap->Prop)
  (hD:∀i h h',Dst i h->(∀b o,b∉wr->h.get? b=some o->h'.get? b=some o)->Dst i h')
  (step:∀i (s:Shared) (E':Value->Shared->Prop) (Q:Unit->Shared->Prop),i<n->Dst i s.heap->(∀h' tk,s.toks<=tk->Dst (i+1) h'->Heap.SameBut d s.heap h'->Q () { s with heap:=h',toks:=tk })->wpAny (model prog w) A.in1 (dictSet d (kf i) (vf i)) Q E' s) :
  ∀(k i:Nat) (s:Shared) (t:Tok),n-i=k->i<=n->St i s->Dst i s.heap->(∀j,j<n->IsTup s.heap (bs j) #[kf j,vf j]) ->
   (∀s',Moved (d::wr) G s s'->Dst n s'.heap->R (.ok (.ret .none)) s') ->
   codeAny (model prog w) A (.builtin "dict.update.loop" ⟨[.ref d,.ref I,.int i t,.none],[]⟩) R s:=by
 have hSw:d∉wr:=fun h=>hdf (W.sub _ h);have hsub:∀b∈wr,b∈d::wr:=fun b hb=>List.mem_cons_of_mem _ hb;intro k
 induction k with
 |zero =>
  intro i s t hk hi hst hS hpa hR;have hin:i=n:=by omega
  subst hin;refine codeAny_builtin mV ?_;rw[Around.under_plainId fP _];show wpAny _ A.in1 (pyNext (.ref I) >>= _) _ _ s;refine wpAny_bind (W.done s _ _ hst fun s' hm=>?_);show wpAny _ A.in1 (Builtin.Dict.addKeywords d [] >>= _) _ _ s';exact wpAny_bind (wpAny_pure (wpAny_pure (hR s' (hm.mono hsub) (hD _ _ _ hS fun b o hb e=>hm.heap b o hb e))))
 |succ k ih =>
  intro i s t hk hi hst hS hpa hR;have hlt:i<n:=by omega
  refine codeAny_builtin mV ?_;rw[Around.under_plainId fP _];show wpAny _ A.in1 (pyNext (.ref I) >>= _) _ _ s;refine wpAny_bind (W.item i s _ _ hlt hst fun v s' hPi hst' hm=>?_);obtain rfl:=hP i v hPi;have hS':=hD _ _ s'.heap hS fun b o hb e=>hm.heap b o hb e;have hpa':∀j,j<n->IsTup s'.heap (bs j) #[kf j,vf j]:=fun j hj=>by
   obtain⟨o,h1,h2,m,h3⟩:=hpa j hj;exact⟨o,hm.heap _ _ (fun z=>hbs j hj (hsub _ z)) h1,h2,m,h3⟩
  show wpAny _ A.in1 (holding [Value.ref (bs i)] _ >>= _) _ _ s';refine wpAny_bind (wpAny_holding (wpAny_bind (wpAny_tryCatch (qF (hpa' i hlt) ?_))));refine wpAny_holding (step i s' _ _ hlt hS' fun h' tk htk hd' hs'=>?_);refine wpAny_pure ⟨plainId_quiet fP _,ih (i+1) _ _ (by omega) hlt (W.frame _ s' _ _ hst' htk fun b hb o e=>?_) hd' (fun j hj=>?_) fun s'' hm'' hS''=>?_⟩
  ·rw[hs'.2 b (fun h:b=d=>hdf (by rw[<-h];exact hb))];exact e
  ·obtain⟨o,h1,h2,m,h3⟩:=hpa' j hj;refine⟨o,?_,h2,m,h3⟩;show h'.get? (bs j)=_;rw[hs'.2 _ (fun z=>hbs j hj (by rw[z];exact List.mem_cons_self))];exact h1
  ·refine hR s'' (Moved.trans W.gtrans ((hm.mono hsub).then_heap htk fun b o hb e=>?_) hm'') hS'';rw[hs'.2 b (fun h:b=d=>hb (by rw[h];exact List.mem_cons_self))];exact e
theorem fq{l:Addr}{its:Array Value}{Q:Value->Shared->Prop}(kf vf:Nat->Value) (Dst:Nat->Heap->Prop) (hh:A.handled=none) (hl:PlainL s.heap l its)
  (hit:∀i,i<its.size->∃b,its[i]?=some (Value.ref b)/\IsTup s.heap b #[kf i,vf i])
  (h0:∀h',(∀b o,(s.heap.push { cls:=.type "dict",data:=.dict #[] }).get? b=some o->h'.get? b=some o)->Dst 0 h')
  (hD:∀i h h',Dst i h->(∀b o,b<s.heap.objs.size+1->h.get? b=some o->h'.get? b=some o)->Dst i h')
  (step:∀i (s1:Shared) (E':Value->Shared->Prop) (Q:Unit->Shared->Prop),i<its.size->Dst i s1.heap->(∀h' tk,s1.toks<=tk->Dst (i+1) h'->Heap.SameBut s.heap.objs.size s1.heap h'->Q () { s1 with heap:=h',toks:=tk })->wpAny (model prog w) A.in1.in1 (dictSet s.heap.objs.size (kf i) (vf i)) Q E' s1)
  (h:∀h' tk,Dst its.size h'->(∀b o,s.heap.get? b=some o->h'.get? b=some o)->Q (.ref s.heap.objs.size) { s with heap:=h',toks:=tk }) :
  wpAny (model prog w) A (call (.type "dict") [.ref l]) Q E s:=by
 refine callType_codes (Q₁:=fun(obj:Value) (s₁:Shared)=>obj=Value.ref s.heap.objs.size/\s₁={ s with heap:=s.heap.push { cls:=.type "dict",data:=.dict #[] } }) F.kt_called_dict (F.kt_typeCall_dict_1 _) F.entry_dict_init (kt_code_dict_new _ ⟨rfl,rfl⟩) ?_;rintro obj s₁ ⟨rfl,rfl⟩;have hnew:(s.heap.push { cls:=.type "dict",data:=.dict #[] }).DictOf (aI prog w) s.heap.objs.size []:=Heap.DictOf.new s.heap;obtain⟨o,m,ho,hc,hdict,hd⟩:=hl;have hlt:l<s.heap.objs.size:=Heap.lt_size ho;have ho':(s.heap.push { cls:=.type "dict",data:=.dict #[] }).get? l=some o:=Heap.get?_push_of_some _ ho;refine⟨hnew.typeIs,F.args_dict_init_2 _ _,?_⟩;unfold Builtin.«dict.__init__»;refine wpAny_bind ?_;unfold Builtin.Dict.selfAndRest;refine wpAny_bind (wpAny_notOrdered_dict hnew.typeIs ?_);show wpAny _ _ (pure (s.heap.objs.size,[Value.ref l])) _ _ _;refine wpAny_pure ?_;show wpAny _ _ (Builtin.Dict.updateFrom "dict.__init__" s.heap.objs.size (.ref l) [] .none) _ _ _;unfold Builtin.Dict.updateFrom;refine wpAny_bind (wpAny_typeOf (T:="list") ⟨o,ho',hc⟩ ?_);rw[if_pos (by decide)];have hh2:A.in1.in1.handled=none:=hh;refine wpAny_bind (qY ho' hc hd hdict hh2 fun h1 tk1 e1 hx=>?_);have ht1:h1.IsList l its:=⟨o,hx.keeps _ _ ho',hc,m,hd⟩;have hsz:s.heap.objs.size<h1.objs.size:=by
  obtain⟨q,es,ep,hq,rest⟩:=hnew;exact Heap.lt_size (hx.keeps _ _ hq)
 have hold:∀b q,s.heap.get? b=some q->h1.get? b=some q:=fun b q e=>hx.keeps _ _ (Heap.get?_push_of_some _ e);rw[if_pos (show(Option.isNone (none:Option Value))=true from rfl)];refine wpAny_bind (wpAny_rule (wpAny_bind (wpAny_pyIter_list ht1 ?_)));refine wpAny_pure ⟨plainId_quiet fP _,?_⟩;have hb:∀i,i<its.size->qP its i<s.heap.objs.size/\IsTup s.heap (qP its i) #[kf i,vf i]:=fun i hi=>by
  obtain⟨b,e,q⟩:=hit i hi;have eb:qP its i=b:=by unfold qP;rw[e]
  rw[eb];obtain⟨ob,g1,_⟩:=id q;exact⟨Heap.lt_size g1,q⟩
 refine yP (n:=its.size) ((Walks.list (A:=A.in1.in1) hh2 h1.objs.size l (Nat.ne_of_lt (Nat.lt_trans hlt hsz)) its).toS) s.heap.objs.size (by
  simp only[List.mem_cons,List.not_mem_nil,or_false,not_or];exact⟨Nat.ne_of_lt hsz,Nat.ne_of_gt hlt⟩) (qP its) kf vf (fun i v hi=>?_) (fun i hi=>?_) Dst (fun i ha hb' q k=>hD i ha hb' q fun b o hb e=>k b o ?_ e) step _ 0 _ 0 rfl (Nat.zero_le _) ⟨⟨_,Heap.get?_push_size _ rfl,rfl,rfl⟩,ht1.push _⟩ (h0 _ fun b o e=>Heap.get?_push_of_some _ (hx.keeps _ _ e)) (fun j hj=>?_) fun s' hm hS'=>?_
 ·have hi':i<its.size:=(Array.getElem?_eq_some_iff.mp hi).1;obtain⟨b,e,_⟩:=hit i hi';have e':its[i]?=some v:=hi;rw[e]at e';have eb:qP its i=b:=by unfold qP;rw[e]
  rw[eb];exact(Option.some.inj e').symm
 ·have:=(hb i hi).1;simp only[List.mem_cons,List.not_mem_nil,or_false,not_or];exact⟨Nat.ne_of_lt this,Nat.ne_of_lt (Nat.lt_trans this hsz)⟩
 ·intro z;simp only[List.mem_cons,List.not_mem_nil,or_false]at z;rw[z]at hb;omega
 ·obtain⟨ob,g1,g2,gm,g3⟩:=(hb j hj).2;exact⟨ob,Heap.get?_push_of_some _ (hold _ _ g1),g2,gm,g3⟩
 ·obtain⟨h',g',d',tk',os'⟩:=s';have eg:g'=s.gens:=hm.gens;have ed:d'=s.drawn:=hm.drawn;have eo:os'=s.os:=hm.os;subst eg;subst ed;subst eo;refine⟨rfl,h h' tk' hS' fun b q e=>?_⟩;have hbl:=Heap.lt_size e;exact hm.heap b q (by simp only[List.mem_cons,List.not_mem_nil,or_false,not_or];exact⟨Nat.ne_of_lt hbl,Nat.ne_of_lt (Nat.lt_trans hbl hsz)⟩) (Heap.get?_push_of_some _ (hold _ _ e))
end
end L2
namespace L2
open PySem PySem.Spec PyProof.Rows PySem.Calls PySem.SeqAt
section
variable{X:Cx}{aa:List (Addr×Obj)}{s:Shared}{σ:St}{H:Hp}{M:DH}{a:Expr}{ta:TEd}
theorem jX(I:Inv X aa σ H s) {τ:Type}{f g:τ->D}:∀{ts:List τ}{vs:List V}{its:List Value},ak X.K M H (ts.map fun t=>.tup [f t,g t]) vs->av vs its ->
  ∃(xs ys:List V) (us ws:List Value),ak X.K M H (ts.map f) xs/\ak X.K M H (ts.map g) ys/\av xs us/\av ys ws/\us.length=ts.length/\ws.length=ts.length/\its.length=ts.length/\∀(i:Nat) (u w:Value),us[i]?=some u->ws[i]?=some w->∃b,its[i]?=some (Value.ref b)/\IsTup s.heap b #[u,w]
 |[],vs,its,rl,rv=>by
  simp only[List.map_nil,ak]at rl;subst rl;cases rv;exact⟨[],[],[],[],ak.nil,ak.nil,.nil,.nil,rfl,rfl,rfl,fun i u w h=>by simp at h⟩
 |t::ts,vs,its,rl,rv=>by
  simp only[List.map_cons,ak]at rl;obtain⟨v,vs',rfl,r1,rl'⟩:=rl;cases rv with
  |@cons _ u _ its' ru rv' =>
   obtain⟨xs,ys,us,ws,h1,h2,h3,h4,h5,h6,h7,h8⟩:=jX I rl' rv';simp only[Rep]at r1;obtain⟨b,xs1,rfl,ta,rx⟩:=r1;simp only[ak]at rx;obtain⟨x1,_,rfl,rx1,x2,_,rfl,rx2,rfl⟩:=rx;cases(show u=Value.ref b from ru);obtain⟨its2,rv2,tn,_⟩:=I.tupN ta.sq;obtain⟨u1,u2,rfl,ru1,ru2⟩:=av.two rv2;refine⟨x1::xs,x2::ys,u1::us,u2::ws,ak.cons rx1 h1,ak.cons rx2 h2,.cons ru1 h3,.cons ru2 h4,by simp[h5],by simp[h6],by simp[h7],fun i u w hu hw=>?_⟩;cases i with
   |zero =>
    simp only[List.getElem?_cons_zero,Option.some.injEq]at hu hw;subst hu hw;exact⟨b,rfl,tn.tup⟩
   |succ i =>
    simp only[List.getElem?_cons_succ]at hu hw;obtain⟨c,g1,g2⟩:=h8 i u w hu hw;exact⟨c,by rw[List.getElem?_cons_succ];exact g1,g2⟩
def wQ(ta:TEd):TEd:=fun Δ M Q=>ta Δ M fun x M1=>∃kvs:List (Key×D),rdM M1 x=.lst (kvs.map fun kv=>.tup [kD kv.1,kv.2])/\(kvs.map (·.1)).Nodup/\∀p,M1 p=none->Q (.ref p) (au M1 p (.dK kvs))
def wa(w:World) (ta:TEd):TEd:=fun Δ M Q=>ta Δ M fun x M1=>∃ks:List (List KD),rdM M1 x=.lst (ks.map fun k=>.tup [bS k,.bl true])/\ks.Nodup/\(∀k∈ks,dpK 8 (.tup k))/\∀p,M1 p=none->Q (.ref p) (au M1 p (dRw w p ks))
theorem cD{α:Type}{l:List α}{i:Nat}(h:i<l.length):∃x,l[i]?=some x:=⟨_,List.getElem?_eq_getElem h⟩
theorem yI(kvs:List (Key×D)):kvs.map (fun kv=>kD kv.1)=(kvs.map (·.1)).map kD:=by rw[List.map_map];rfl
theorem rQ{α β:Type}{l:List α}{m:List β}{i:Nat}{x:α}{y:β}(h1:l[i]?=some x) (h2:m[i]?=some y):(l.zip m)[i]?=some (x,y):=List.getElem?_zip_eq_some.mpr ⟨h1,h2⟩
theorem sG{α:Type}{l:List α}{i:Nat}{x:α}(h:l[i]?=some x):l.take (i+1)=l.take i++[x]:=by rw[List.take_add_one,h];rfl
theorem rG{K:PySem.W.Frag}{M:DH}{H:Hp}:∀{kvs:List (Key×D)}{ys:List V},ak K M H (kvs.map fun kv=>kv.2) ys->KR K M H kvs ((kvs.map (·.1)).zip ys)
 |[],ys,h=>by
  simp only[List.map_nil,ak]at h;subst h;exact .nil
 |kv::kvs,ys,h=>by
  simp only[List.map_cons,ak]at h;obtain⟨v,vs,rfl,r1,r2⟩:=h;exact .cons ⟨rfl,r1⟩ (rG r2)
def yS(w:World) (neg:Bool) (ti to:TEd):TEd:=fun Δ M Q=>ti Δ M fun y M1=>to Δ M1 fun x M2=>∃a ks k,x=.ref a/\M2 a=some (dRw w a ks)/\y=bS k/\dpK 8 (.tup k)/\ks.length<1000000/\Q (.bl (xor neg (decide (k∈ks)))) M2
theorem rA{ks:List (List KD)}{us:List Value}{k:List KD}(hl:ks.length=us.length) (hn:ks.Nodup):(atKey ((ks.zip us).map xsR) k).isSome=decide (k∈ks):=by
 have e2:((ks.zip us).map xsR).map (·.1)=ks:=by rw[List.map_map];exact jy hl
 by_cases c:k∈ks
 ·rw[decide_eq_true c];have c':=c;rw[<-e2]at c';obtain⟨x,hx,e⟩:=List.mem_map.mp c';obtain⟨i,hi⟩:=List.mem_iff_getElem?.mp hx;obtain⟨x1,x2⟩:=x;subst e;rw[atKey_of_get (by rw[e2];exact hn) hi];rfl
 ·rw[decide_eq_false c,atKey_none_of_get fun j p hj=>c ?_]
  ·rfl
  ·rw[<-e2];exact List.mem_map.mpr ⟨_,List.mem_of_getElem? hj,rfl⟩
theorem vI{i o:Expr}{ti to:TEd}{op:CmpOp}{neg:Bool}(hop:op=(if neg then .NotIn else .In)) (hu:X.A.units+64<cLine) (hi:PEd X i ti) (ho:PEd X o to):PC X op i o (up X.K (yS X.w neg ti to)):=by
 intro aa s σ H Q I ⟨Δ,M,R,sr,hr,q,k⟩;refine evD hi I sr hr q fun iv s1 v1 H1 y M1 I1 r1 q1 hr1 rv1 e1=>evD ho I1 (sr.ext e1) hr1 q1 fun u s2 v2 H2 x M2 I2 r2 ⟨a,ks,kk,ex,em,ey,hd,hl,q2⟩ hr2 rv2 e2=>?_;subst ex ey;simp only[Rep]at rv2;subst rv2;obtain rfl:u=Value.ref a:=r2;obtain⟨vs,hH,rl⟩:=hr2 a _ em;obtain⟨⟨lo,nd,dp,its,rv,es,ep,⟨o,ho,hc,hdat⟩,he⟩,_,_⟩:=I2.hok a _ hH;have hkey:=rE I2 8 (k:=.tup kk) hd (by simp only[kd];exact rv1.ext e2) r1;have hkey0:=hkey;obtain⟨b,_,rfl,_⟩:=hkey0;have hln:ks.length=its.length:=by rw[<-rv.length,<-rl.length,List.length_map]
 have at_:∀p∈ks.zip its,KAt s2.heap 8 (.tup p.1) p.2/\p.2=.ref (wq p.2):=fun p hp=>by
  obtain⟨i,hi⟩:=List.mem_iff_getElem?.mp hp;rw[List.getElem?_zip_eq_some]at hi;have q:=ef I2 dp rl rv hi.1 hi.2;refine⟨q,?_⟩;obtain⟨c,_,e,_⟩:=q;rw[e];rfl
 have hm:s2.heap.DictOfH (dH X.prog X.w 8 (Nat.le_refl _)) a ((ks.zip its).map xsR):=⟨o,es,ep,ho,hc,hdat,by
  rw[he,List.map_map];refine List.map_congr_left fun p hp=>?_;show(⟨hK X.w 8 (.tup p.1),p.2,.bool true⟩:DictEntry)=⟨hK X.w 8 (.tup p.1),.ref (wq p.2),.bool true⟩;rw[<-(at_ p hp).2],fun x hx=>by
  obtain⟨p,hp,rfl⟩:=List.mem_map.mp hx;obtain⟨q,e⟩:=at_ p hp;rw[e]at q;exact q,by rw[List.map_map,show(Prod.fst∘xsR)=(·.1)from rfl,jy hln];exact nd⟩
 subst hop;have fin:∀t',EP X aa σ Q (.bool (xor neg (decide (kk∈ks)))) { s2 with toks:=t' }:=fun t'=>⟨.bl _,H2,I2.tok _,rfl,k _ _ _ _ q2 (e1.trans e2) hr2 (by simp only[Rep])⟩;cases neg with
 |false =>
  refine wpAny_in_heap (knd:=dH X.prog X.w 8 (Nat.le_refl _)) (show X.A.units+1+8<cLine by lia) hkey lo hm ?_;rw[rA hln nd];have:=fin (s2.toks+(dH X.prog X.w 8 (Nat.le_refl _)).draws kk);rw[Bool.false_xor]at this;exact this
 |true =>
  refine wpAny_notIn_heap (knd:=dH X.prog X.w 8 (Nat.le_refl _)) (show X.A.units+1+8<cLine by lia) hkey lo hm ?_;rw[rA hln nd];have:=fin (s2.toks+(dH X.prog X.w 8 (Nat.le_refl _)).draws kk);rw[Bool.true_xor]at this;exact this
variable{i o:Expr}{ti to:TEd}{pos:Pos}
theorem zU{w:World}(neg:Bool) {op:CmpOp}(hop:op=(if neg then .NotIn else .In)) (hu:X.A.units+64<cLine) (hi:QEd X i ti) (ho:QEd X o to) (hm:behindInMarks op o=false) (hw:X.w=w:=by rfl):QEd X (.Compare i [op] [o] pos) (yS w neg ti to):=by
 subst hw;simp only[QEd.eq]at *
 exact wI (vI hop hu hi ho) hm
theorem Az{w:World}(neg:Bool) {op:CmpOp}(hop:op=(if neg then .NotIn else .In)) (hu:X.A.units+64<cLine) (hi:QEd X i ti) (ho:QEd X o to) (hm:behindInMarks op o=false) (hw:X.w=w:=by rfl):QTd X (.Compare i [op] [o] pos) (lP (yS w neg ti to)):=by
 subst hw;simp only[QEd.eq,QTd.eq]at *
 exact PT.conv (qi (vI hop hu hi ho) hm) (A9 fun _ _ _ h=>h)
theorem xk{p0 q0:Pos}(hc:X.calm=true) (hgS:Gl X "dict") (hmS:X.mg "dict"=none) (ha:QEd X a ta)
  (he0:starEach [a] X.env=(false,eval a X.env)::starEach [] X.env:=by rfl) (hp0:(backTo q0 (starEach [] X.env)).any (·.1)=false:=by rfl) :
  QEd X (.Call (.Name "dict" p0) [a] [] q0) (wQ ta):=by
 simp only[QEd.eq]at *
 intro aa s σ H Q I ⟨Δ,M,R,sr,hr,q,k⟩;refine wpAny_Call_Name_kw (eI I hgS hmS (u:=.type "dict") (by kernel_rfl) ?_ (by decide) (by decide));refine PyProof.Rows.callWith_type1 ?_ he0 hp0;rw[he0];show wpAny _ _ (spliced ((false,eval _ X.env)::backTo q0 (starEach [] X.env))) _ _ s;refine Calls.spliced_cons (evD ha I sr hr q fun u s1 v H1 x M1 I1 r1 ⟨kvs,ex,hn,q2⟩ hr1 rv0 e1=>?_);have rv:=rv0.rd hr1;refine Calls.spliced_nil ?_;rw[ex]at rv;obtain⟨l,vs,rfl,sq,rl⟩:=rv;cases r1;obtain⟨its,rvs,pl,hz⟩:=I1.list (SqL.of sq);obtain⟨xs,ys,us,ws,h1,h2,h3,h4,h5,h6,h7,h8⟩:=jX I1 (f:=fun kv:Key×D=>kD kv.1) (g:=fun kv=>kv.2) rl rvs;rw[yI]at h1;obtain rfl:=eQ h1;have hks:∀(i:Nat) (kk:Key),(kvs.map (·.1))[i]?=some kk->∃u,us[i]?=some u/\(aI X.prog X.w).is kk u=true:=fun i kk hi=>by
  obtain⟨u,g,r⟩:=h3.get (show((kvs.map (·.1)).map kV)[i]?=some (kV kk)by rw[List.getElem?_map,hi];rfl);exact⟨u,g,jj r⟩
 have hlk:(kvs.map (·.1)).length=kvs.length:=List.length_map _;have hsz:its.toArray.size=kvs.length:=by rw[List.size_toArray,h7]
 obtain⟨zs,ez⟩:∃zs:List (Key×Value),zs=(kvs.map (·.1)).zip ws:=⟨_,rfl⟩;have hzl:kvs.length<=sizeLine:=by rw[<-rvs.length]at h7;lia
 refine fq (kf:=fun i=>us[i]?.getD .none) (vf:=fun i=>ws[i]?.getD .none) (Dst:=fun i h'=>h'.DictOf (aI X.prog X.w) s1.heap.objs.size (zs.take i)) (I1.ok.hd hc) pl (fun i hi=>?_) (fun h' kp=>?_) (fun i ha hb ⟨o,es,ep,ho,rest⟩ kp=>⟨o,es,ep,kp _ _ (Nat.lt_succ_self _) ho,rest⟩) (fun i s2 E' Q' hi hd k2=>?_) fun h' tk hd kp=>?_
 ·obtain⟨u,hu⟩:=cD (l:=us) (i:=i) (by lia);obtain⟨w,hw⟩:=cD (l:=ws) (i:=i) (by lia);obtain⟨b,g1,g2⟩:=h8 i u w hu hw;refine⟨b,by simpa using g1,?_⟩;simp only[hu,hw,Option.getD_some];exact g2
 ·obtain⟨o,es,ep,ho,rest⟩:=(Heap.DictOf.new s1.heap:(s1.heap.push { cls:=.type "dict",data:=.dict #[] }).DictOf (aI X.prog X.w) s1.heap.objs.size []);exact⟨o,es,ep,kp _ _ ho,rest⟩
 ·obtain⟨kk,hkk⟩:=cD (l:=kvs.map (·.1)) (i:=i) (by lia);obtain⟨u,hu,hk⟩:=hks i kk hkk;obtain⟨w,hw⟩:=cD (l:=ws) (i:=i) (by lia);subst ez;have hst:stored (((kvs.map (·.1)).zip ws).take i) kk w=((kvs.map (·.1)).zip ws).take (i+1):=by
   rw[sG (rQ hkk hw),stored,if_neg];rw[List.any_eq_true];rintro⟨⟨x1,x2⟩,hx,e⟩;have e':x1=kk:=by simpa using e
   obtain⟨j,hj⟩:=List.mem_iff_getElem?.mp hx;rw[List.getElem?_take]at hj
   split at hj
   ·rename_i hji;have hj1:=(List.getElem?_zip_eq_some.mp hj).1;subst e';have hjl:j<(kvs.map (·.1)).length:=(List.getElem?_eq_some_iff.mp hj1).1;have hil:i<(kvs.map (·.1)).length:=by lia
    have hd2:=List.pairwise_iff_getElem.mp hn j i hjl hil hji;rw[List.getElem?_eq_getElem hjl]at hj1;rw[List.getElem?_eq_getElem hil]at hkk;rw[Option.some.inj hj1,Option.some.inj hkk]at hd2;exact hd2 rfl
   ·cases hj
  simp only[hu,hw,Option.getD_some];refine wpAny_dictSet_pairs (hsz:=by rw[List.length_take,List.length_zip];lia) hk hd fun h' hd' hs'=>?_;rw[hst]at hd';exact k2 h' _ (Nat.le_succ _) hd' hs'
 ·subst ez;rw[hsz,List.take_of_length_le (by rw[List.length_zip];lia)]at hd;have hp:=I1.hok.fresh (Nat.le_refl s1.heap.objs.size);have hwl:ys.length=kvs.length:=by have:=h4.length;lia
  have I2:=I1.laid (a:=s1.heap.objs.size) (o:=.dK ((kvs.map (·.1)).zip ys)) (h':=h') (t':=tk) kp (Nat.le_refl _) ⟨by rw[List.length_zip];lia,by
   have:=I1.big;exact beq_false_of_ne (Nat.ne_of_gt this),_,wW h4 (by lia),hd⟩
  have e2:Ext M1 H1 (au M1 s1.heap.objs.size (.dK kvs)) (upd H1 s1.heap.objs.size (.dK ((kvs.map (·.1)).zip ys))):=Ext.own hp;refine⟨.ref s1.heap.objs.size,_,I2,rfl,k _ _ _ _ (q2 _ (hr1.fresh hp)) (e1.trans e2) (hr1.put e2 ⟨_,az,?_⟩) (by simp only[Rep])⟩;exact(rG h2).ext e2
theorem xQ{p0 q0:Pos}(hc:X.calm=true) (hu:X.A.units+64<cLine) (hgS:Gl X "dict") (hmS:X.mg "dict"=none) (ha:QEd X a ta)
  (he0:starEach [a] X.env=(false,eval a X.env)::starEach [] X.env:=by rfl) (hp0:(backTo q0 (starEach [] X.env)).any (·.1)=false:=by rfl) :
  QEd X (.Call (.Name "dict" p0) [a] [] q0) (wa X.w ta):=by
 simp only[QEd.eq]at *
 intro aa s σ H Q I ⟨Δ,M,R,sr,hr,q,k⟩;refine wpAny_Call_Name_kw (eI I hgS hmS (u:=.type "dict") (by kernel_rfl) ?_ (by decide) (by decide));refine PyProof.Rows.callWith_type1 ?_ he0 hp0;rw[he0];show wpAny _ _ (spliced ((false,eval _ X.env)::backTo q0 (starEach [] X.env))) _ _ s;refine Calls.spliced_cons (evD ha I sr hr q fun u s1 v H1 x M1 I1 r1 ⟨ks,ex,hn,hd8,q2⟩ hr1 rv0 e1=>?_);have rv:=rv0.rd hr1;refine Calls.spliced_nil ?_;rw[ex]at rv;obtain⟨l,vs,rfl,sq,rl⟩:=rv;cases r1;obtain⟨its,rvs,pl,hz⟩:=I1.list (SqL.of sq);obtain⟨xs,ys,us,ws,h1,h2,h3,h4,h5,h6,h7,h8⟩:=jX I1 (f:=bS) (g:=fun _:List KD=>D.bl true) rl rvs;have hks:∀(i:Nat) (kk:List KD) u,ks[i]?=some kk->us[i]?=some u->KAt s1.heap 8 (.tup kk) u/\u=.ref (wq u):=fun i kk u hi hu=>by
  have q:=ef I1 hd8 h1 h3 hi hu;refine⟨q,?_⟩;obtain⟨c,_,e,_⟩:=q;rw[e];rfl
 have hwt:∀(i:Nat) w,ws[i]?=some w->w=.bool true:=fun i w hw=>by
  have hil:i<ys.length:=by rw[h4.length];exact(List.getElem?_eq_some_iff.mp hw).1
  obtain⟨y,hy⟩:=cD hil;obtain⟨w',g,r⟩:=h4.get hy;rw[hw]at g;cases g;have hkl:i<ks.length:=by have:=h2.length;rw[List.length_map]at this;lia
  obtain⟨y',g',r'⟩:=h2.get (i:=i) (d:=.bl true) (by rw[List.getElem?_map,List.getElem?_eq_getElem hkl];rfl);rw[hy]at g';cases g';simp only[Rep]at r';subst r';exact r
 have hsz:its.toArray.size=ks.length:=by rw[List.size_toArray,h7]
 have hzl:ks.length<=sizeLine:=by rw[<-rvs.length]at h7;lia
 obtain⟨zs,ez⟩:∃zs:List (List KD×Value),zs=ks.zip us:=⟨_,rfl⟩;have e2:(zs.map xsR).map (·.1)=ks:=by rw[ez,List.map_map];exact jy (by lia)
 have hzz:zs.length=ks.length:=by rw[ez,List.length_zip];lia
 refine fq (kf:=fun i=>us[i]?.getD .none) (vf:=fun i=>ws[i]?.getD .none) (Dst:=fun i h'=>(∀b o,s1.heap.get? b=some o->h'.get? b=some o)/\∃o es ep,h'.get? s1.heap.objs.size=some o/\o.ExactDict/\o.data=.dict es ep/\es.toList=((zs.take i).map xsR).map (entryOfKey (dH X.prog X.w 8 (Nat.le_refl _)))) (I1.ok.hd hc) pl (fun i hi=>?_) (fun h' kp=>?_) (fun i ha hb ⟨g,o,es,ep,ho,rest⟩ kp=>⟨fun b o e=>kp b o (Nat.lt_succ_of_lt (Heap.lt_size e)) (g b o e),o,es,ep,kp _ _ (Nat.lt_succ_self _) ho,rest⟩) (fun i s2 E' Q' hi hd k2=>?_) fun h' tk hd kp=>?_
 ·obtain⟨u,hu⟩:=cD (l:=us) (i:=i) (by lia);obtain⟨w,hw⟩:=cD (l:=ws) (i:=i) (by lia);obtain⟨b,g1,g2⟩:=h8 i u w hu hw;refine⟨b,by simpa using g1,?_⟩;simp only[hu,hw,Option.getD_some];exact g2
 ·exact⟨fun b o e=>kp _ _ (Heap.get?_push_of_some _ e),_,#[],0,kp _ _ (Heap.get?_push_size _ rfl),⟨rfl,rfl,rfl⟩,rfl,rfl⟩
 ·obtain⟨kp,o,es,ep,ho,hc',hdat,he⟩:=hd;obtain⟨kk,hkk⟩:=cD (l:=ks) (i:=i) (by lia);obtain⟨u,hu'⟩:=cD (l:=us) (i:=i) (by lia);obtain⟨w,hw⟩:=cD (l:=ws) (i:=i) (by lia);obtain⟨hk,eu⟩:=hks i kk u hkk hu';obtain rfl:=hwt i w hw;have up:∀{kk:List KD} {u:Value},KAt s1.heap 8 (.tup kk) u->KAt s2.heap 8 (.tup kk) u:=fun q=>q.up fun b o _ e=>kp b o e;have hm:s2.heap.DictOfH (dH X.prog X.w 8 (Nat.le_refl _)) s1.heap.objs.size ((zs.take i).map xsR):=⟨o,es,ep,ho,hc',hdat,he,fun x hx=>by
   obtain⟨p,hp,rfl⟩:=List.mem_map.mp hx;obtain⟨j,hj⟩:=List.mem_iff_getElem?.mp (List.mem_of_mem_take hp);rw[ez]at hj;obtain⟨a1,a2⟩:=List.getElem?_zip_eq_some.mp hj;obtain⟨b1,b2⟩:=hks j _ _ a1 a2;rw[b2]at b1;exact up b1,by
   rw[List.map_take,List.map_take,e2];exact hn.sublist (List.take_sublist _ _)⟩
  simp only[hu',hw,Option.getD_some];rw[eu]at hk ⊢;refine wpAny_dictSet_heap (knd:=dH X.prog X.w 8 (Nat.le_refl _)) (k:=kk) (v:=.bool true) (show X.A.units+1+1+8<cLine by lia) (up hk) hm (fun h' hm' hs=>?_) (by rw[List.length_map,List.length_take];lia);obtain⟨o',es',ep',ho',hc2,hdat',he',_,_⟩:=hm';refine k2 h' _ (Nat.le_add_right _ _) ⟨fun b o e=>?_,o',es',ep',ho',hc2,hdat',?_⟩ hs
  ·rw[hs.2 b (Nat.ne_of_lt (Heap.lt_size e))];exact kp b o e
  ·rw[he',sG (show zs[i]?=some (kk,u)by rw[ez];exact rQ hkk hu'),storedH_new (atKey_none_of_get fun j p hj=>?_) _ _]
   ·simp only[List.map_append];rfl
   ·rw[List.getElem?_map]at hj;obtain⟨p',hp',e0⟩:=Option.map_eq_some_iff.mp hj;rw[List.getElem?_take]at hp'
    split at hp'
    ·rename_i hji;rw[ez]at hp';obtain⟨a1,_⟩:=List.getElem?_zip_eq_some.mp hp';have e3:p'.1=kk:=congrArg (·.1) e0;have hjl:j<ks.length:=(List.getElem?_eq_some_iff.mp a1).1;have hil:i<ks.length:=by lia
     have hd2:=List.pairwise_iff_getElem.mp hn j i hjl hil hji;rw[List.getElem?_eq_getElem hjl]at a1;rw[List.getElem?_eq_getElem hil]at hkk;rw[Option.some.inj a1,Option.some.inj hkk,e3]at hd2;exact hd2 rfl
    ·cases hp'
 ·obtain⟨_,o,es,ep,ho,hc',hdat,he⟩:=hd;rw[hsz,List.take_of_length_le (by lia)]at he;have hp:=I1.hok.fresh (Nat.le_refl s1.heap.objs.size);have I2:=I1.laid (a:=s1.heap.objs.size) (o:=.ext (DrE X.w s1.heap.objs.size ks xs)) (h':=h') (t':=tk) kp (Nat.le_refl _) (DrE.ok ⟨by
   have:=I1.big;exact beq_false_of_ne (Nat.ne_of_gt this),hn,hd8,us,h3,es,ep,⟨o,ho,hc',hdat⟩,by
   rw[he,List.map_map,ez];refine List.map_congr_left fun p hp=>?_;obtain⟨j,hj⟩:=List.mem_iff_getElem?.mp hp;obtain⟨a1,a2⟩:=List.getElem?_zip_eq_some.mp hj;have b2:=(hks j _ _ a1 a2).2;show(⟨hK X.w 8 (.tup p.1),.ref (wq p.2),.bool true⟩:DictEntry)=⟨hK X.w 8 (.tup p.1),p.2,.bool true⟩;rw[<-b2]⟩)
  have e3:Ext M1 H1 (au M1 s1.heap.objs.size (dRw X.w s1.heap.objs.size ks)) (upd H1 s1.heap.objs.size (.ext (DrE X.w s1.heap.objs.size ks xs))):=Ext.own hp;exact⟨.ref s1.heap.objs.size,_,I2,rfl,k _ _ _ _ (q2 _ (hr1.fresh hp)) (e1.trans e3) (hr1.put e3 ⟨xs,az,h1.ext e3⟩) (by simp only[Rep])⟩
end
end L2
namespace L2
open PySem PySem.Spec PyProof.Rows
section
variable{prog:Program}{w:World}{A:Around}{E:Value->Shared->Prop}{s:Shared}
theorem qI{n:Nat}{hn8:n<=8}{l:Addr}{items:Array Value}{xs:List (List KD)}{Q:Value->Shared->Prop}
  (hh:A.handled=none) (hu:A.units+n+8<cLine) (hl:s.heap.IsTuple l items) (hn:items.size=xs.length) (hi:∀(i:Nat) k u,xs[i]?=some k->items[i]?=some u->KAt s.heap n (.tup k) u) (hb:xs.length<1000)
  (h:∀(h':Heap) (tk:Nat),iF (tK prog w n hn8 s.heap (·∈items)) h' s.heap.objs.size (e7 xs)->nr s.heap h'->Q (.ref s.heap.objs.size) { s with heap:=h',toks:=tk }) :
  wpAny (model prog w) A (call (.type "set") [.ref l]) Q E s:=by
 obtain⟨c,tl,hmro⟩:=PySem.F.called_set.mro;have hmade:=PySem.F.called_set.made;have hsub:=PySem.F.called_set.sub;refine wpAny_call (codeAny_of_tree ?_);show wpAny _ _ (callAny (.type "set") _) _ _ _;refine wpAny_pure ⟨Code.quiet_builtin _ (by decide +kernel),codeAny_builtin PySem.F.entry_type_call ?_⟩;rw[Around.under_plain (weight_type_call_type "set" [.ref l] []) rfl];have h1:=PySem.F.called_set.notType;have h2:=PySem.F.called_set.canCreate;have hct:=PySem.F.typeCall_set_1 (.ref l)
 repeat (any_goals (first|assumption|wp_step))
 refine codeAny_mono (u6 (.ref l) (E:=E) (Q₁:=fun obj s₁=>obj=.ref s.heap.objs.size/\s₁={ s with heap:=s.heap.push (lM w) }) ⟨rfl,rfl⟩) fun r s₁ hr=>?_;cases r with
 |error e=>exact hr
 |ok fl =>
  cases fl with
  |ret obj =>
   obtain⟨rfl,rfl⟩:=hr;have hS:(s.heap.push (lM w)).get? s.heap.objs.size=some (lM w):=Heap.get?_push_size _ rfl;have hT:Shared.TypeIs { s with heap:=s.heap.push (lM w) } (.ref s.heap.objs.size) "set":=⟨_,hS,rfl⟩;have hli:=PySem.F.called_set.init.lookup;have hbi:=PySem.F.called_set.init.bind (.ref s.heap.objs.size)
   repeat (any_goals (first|assumption|wp_step))
   refine codeAny_mono (codeAny_call_builtin (R:=wants (fun r s₂=>r=.none/\∃h' tk,s₂={ s with heap:=h',toks:=tk } /\
     iF (tK prog w n hn8 s.heap (·∈items)) h' s.heap.objs.size (e7 xs)/\nr s.heap h') E) PySem.F.called_set.init.plain PySem.F.entry_set_init (check_set_init_1 hT ?_)) fun r₂ s₂ hr₂=>?_
   ·obtain⟨ol,hol,hcl,nl,hdl⟩:=hl;obtain⟨ocls,odict,odata,oslots⟩:=ol;simp only at hcl hdl;subst hcl;subst hdl;have hol':(s.heap.push (lM w)).get? l=some { cls:=.type "tuple",dict:=odict,data:=.seq items nl,slots:=oslots }:=Heap.get?_push_of_some _ hol;have hsls:=PySem.F.sub_tuple_set;have hslf:=PySem.F.sub_tuple_frozenset;have hne:(Value.type "tuple"==Value.type "dict")=false:=by decide
    have hl1:(s.heap.push (lM w)).IsTuple l items:=⟨_,hol',rfl,nl,rfl⟩;unfold Builtin.«set.__init__» noKeywords Builtin.Frozenset.updateFrom;generalize hPI:pyIter=PI
    wp_walk
    subst hPI;refine wpAny_pyIter_tuple hl1 ?_;refine wpAny_bind (wpAny_runValue ?_);have hlS:l<s.heap.objs.size:=Heap.lt_size hol;have hh3:A.in1.in1.in1.handled=none:=by simp[hh]
    have hneI:l≠(s.heap.push (lM w)).objs.size:=by
     rw[Heap.size_push];exact Nat.ne_of_lt (Nat.lt_succ_of_lt hlS)
    have hSf:s.heap.objs.size∉[(s.heap.push (lM w)).objs.size,l]:=by
     rw[Heap.size_push];simp only[List.mem_cons,List.mem_singleton,List.not_mem_nil,or_false,not_or];exact⟨Nat.ne_of_lt (Nat.lt_succ_self _),Nat.ne_of_gt hlS⟩
    have W:=(Walks.tuple (prog:=prog) (w:=w) hh3 _ l hneI items).toS;rw[hn]at W;have frs:∀b,s.heap.objs.size<=b->s.heap.get? b=none:=fun b hb=>Heap.get?_none_of_le hb;refine EA (V:=(·∈items)) (n:=n) (hn:=hn8) (h0:=s.heap) (xs:=xs) W s.heap.objs.size hSf (fun b hb=>?_) (show A.units+1+1+1+n<cLine by lia) (fun i v hlt hv=>⟨hi i _ _ (List.getElem?_eq_getElem hlt) hv,Array.mem_of_getElem? hv⟩) hb (xs.length-0) 0 _ (by lia) (Nat.zero_le _) ?St0 ?hK0 ?hS0 ?hR
    case St0=>exact⟨⟨_,Heap.get?_push_size _ rfl,rfl,rfl⟩,(hl1.push _)⟩
    ·rcases List.mem_cons.mp hb with rfl|hb
     ·exact frs _ (Nat.le_refl _)
     ·rw[List.mem_singleton.mp hb,Heap.size_push];exact frs _ (Nat.le_succ _)
    case hK0=>exact fun b o e=>Heap.get?_push_of_some _ (Heap.get?_push_of_some _ e)
    case hS0=>exact BR (Heap.get?_push_of_some _ hS)
    case hR =>
     intro s' hm hK' hS';obtain⟨h',g',d',tk',os'⟩:=s';have eg:g'=s.gens:=hm.gens;have ed:d'=s.drawn:=hm.drawn;have eo:os'=s.os:=hm.os;subst eg;subst ed;subst eo;show wpAny _ _ _ _ _ _;refine wpAny_pure ?_;show wpAny _ _ (ret Value.none) _ _ _;exact wpAny_pure ⟨rfl,h',tk',rfl,hS',hK'⟩
   ·cases r₂ with
    |error e=>exact hr₂
    |ok fl₂ =>
     cases fl₂ with
     |ret r =>
      obtain⟨rfl,h',tk,rfl,hS',hk'⟩:=hr₂
      repeat (any_goals (first|assumption|wp_step))
      exact h _ _ hS' hk'
     |_=>exact hr₂.elim
  |_=>exact hr.elim
end
section
open PySem.Calls PySem.SeqAt
variable{X:Cx}{aa:List (Addr×Obj)}{s:Shared}{σ:St}{H:Hp}{M:DH}{K:PySem.W.Frag}
def Cn(ta:TEd):TEd:=fun Δ M Q=>ta Δ M fun x M1=>∃ks:List (List KD),rdM M1 x=.tup (ks.map bS)/\Rws ks/\(∀k∈ks,dpK 8 (.tup k))/\ks.length<1000/\Q (.lst ((df (e7 ks)).map bS)) M1
theorem DJ{a:Expr}{ta:TEd}{p0 p1 q0 q1:Pos}(hc:X.calm=true) (hu:X.A.units+64<cLine) (hgS:Gl X "sorted") (hmS:X.mg "sorted"=none) (hg:Gl X "set") (hm:X.mg "set"=none) (ha:QEd X a ta)
  (he0:starEach [.Call (.Name "set" p1) [a] [] q1] X.env=(false,eval (.Call (.Name "set" p1) [a] [] q1) X.env)::starEach [] X.env:=by rfl)
  (he1:starEach [a] X.env=(false,eval a X.env)::starEach [] X.env:=by rfl)
  (hp0:(backTo q0 (starEach [] X.env)).any (·.1)=false:=by rfl) (hp1:(backTo q1 (starEach [] X.env)).any (·.1)=false:=by rfl) :
  QEd X (.Call (.Name "sorted" p0) [.Call (.Name "set" p1) [a] [] q1] [] q0) (Cn ta):=by
 simp only[QEd.eq]at *
 intro aa s σ H Q I ⟨Δ,M,R,sr,hr,q,k⟩;refine wpAny_Call_Name_kw (eI I hgS hmS (u:=.builtin "sorted") (by kernel_rfl) ?_ (by decide) (by decide));refine PyProof.Rows.callWith_builtin1 ?_ he0 hp0;rw[he0];show wpAny _ _ (spliced ((false,eval _ X.env)::backTo q0 (starEach [] X.env))) _ _ s;refine Calls.spliced_cons ?_;refine wpAny_Call_Name_kw (eI I hg hm (u:=.type "set") (by kernel_rfl) ?_ (by decide) (by decide));refine PyProof.Rows.callWith_type1 ?_ he1 hp1;rw[he1];show wpAny _ _ (spliced ((false,eval a X.env)::backTo q1 (starEach [] X.env))) _ _ s;refine Calls.spliced_cons (evD ha I sr hr q fun u s1 v H1 x M1 I1 r1 ⟨ks,ex,hk,hk8,hl,q2⟩ hr1 rv0 e1=>?_);have rv:=rv0.rd hr1;refine Calls.spliced_nil ?_;rw[ex]at rv;obtain⟨l,vs,rfl,sq,rl⟩:=rv;cases r1;obtain⟨its,rvs,pl,hz⟩:=I1.tuple sq;have hn:ks.length=its.length:=by rw[<-rvs.length,<-rl.length,List.length_map]
 have hat:∀(i:Nat) k u,ks[i]?=some k->its[i]?=some u->KAt s1.heap 8 (.tup k) u:=fun i k u h1 h2=>ef I1 hk8 rl rvs h1 h2;refine qI (n:=8) (hn8:=Nat.le_refl _) (I1.ok.hd hc) (by lia) pl (by simp[hn]) (fun i k u h1 h2=>hat i k u h1 (by simpa using h2)) hl fun h' tk hS kp=>?_;refine Calls.spliced_nil ?_;obtain⟨o,es,ep,t,zs,qs,pm⟩:=hS;have hzs:zs.length<1000:=by rw[pm.length_eq];exact Nat.lt_of_le_of_lt (lq ks) hl
 have I2:Inv X aa σ H1 { s1 with heap:=h',toks:=tk }:=I1.kept kp;refine call_function_entry kind_sorted plain_sorted entry_sorted (args_sorted1 _) ?_;unfold Builtin.«sorted»;refine wpAny_bind (m:=checkCount "sorted" 1 1 _) (wpAny_pure ?_);refine wpAny_bind (uv (A:=X.A.in1) (I1.ok.hd hc) (qs.b hzs) fun s3 es' hp kp0 eg eo=>?_);have I3:Inv X aa σ H1 s3:=I2.with kp0 eg eo
 obtain⟨vs2,rv2,rl2⟩:=pW rvs rl hat zs (es.toList.map (·.2)) (by rw[List.length_map,Array.length_toList,qs.el.len]) fun i z u h1 h2=>by
  obtain⟨v,g,_,k1,k2⟩:=qs.el.at_ i z h1;rw[List.getElem?_map,Array.getElem?_toList,g]at h2;cases h2;exact⟨by simpa using k2,k1⟩
 obtain⟨vs3,ks3,rv3,rl3,hp3⟩:=oQ (hp.symm.map (·.2)) rv2 rl2;have pk:ks3.Perm (e7 ks):=hp3.trans pm;have hk3:Rws ks3:=hk.sub fun k h=>(uV ks k).mp (pk.mem_iff.mp h);refine pZ (show X.A.units+1+1+9<cLine by lia) I3 hr1 hk3 rl3 rv3 ?_ (fun p vs' hp r=>?_) fun x s' e=>⟨_,rfl,e⟩
 ·rw[<-rl3.length,List.length_map,pk.length_eq,sizeLine_eq];have:=lq ks;lia
 ·rw[ja pk]at r;exact dP hr1 hp r fun w H' a b c=>k _ _ _ _ q2 (e1.trans a) b c
end
section
variable{X:Cx}
def xx(x y:D):Option D:=match y with
 |.tup ds=>if dLe x 59=true/\cM ds 59=true then some (.bl (ds.any fun d=>eqD d x))else none
 |_=>none
theorem BY{x:D}{ds:List D}:xx x (.tup ds)=if dLe x 59=true/\cM ds 59=true then some (.bl (ds.any fun d=>eqD d x))else none:=rfl
open Classical in
theorem BH(hu:X.A.units+64<cLine):bM X (compareOp .In) xx:=by
 intro aa s σ H M x y v u dx dy dz Q I hr rx ry r1 r2 e k;cases dy with
 |tup ds =>
  simp only[xx]at e
  by_cases hc:dLe dx 59=true/\cM ds 59=true
  ·rw[if_pos hc]at e;cases e;obtain⟨l,vs,rfl,sq,rl⟩:=r2;cases ry;obtain⟨its,r,pl,hz⟩:=I.tuple sq;have hl:ds.length=its.length:=rl.length.trans r.length;have at_:∀j (h:j<ds.length) (h':j<its.length),PySem.SeqAt.EqAt X.A.in1 s its[j] v (eqD ds[j] dx):=fun j h h'=>by
    obtain⟨v1,g1,p1⟩:=rl.get (i:=j) (d:=ds[j]) (by simp[h]);obtain⟨u1,k1,m1⟩:=r.get g1;have e1:its[j]=u1:=by simpa[List.getElem?_eq_getElem h']using k1
    rw[e1];exact(qM I 59 (by show X.A.units+1+59<cLine;omega) (gU hc.2 (i:=j) (by simp[h])) hc.1 p1.r r1 m1 rx).1
   refine SeqAt.in_tupleAt (fun w=>decide (∃j,∃h:j<ds.length,∃h':j<its.length,its[j]=w/\eqD ds[j] dx=true)) (qq pl) (fun w hw=>?_) ⟨.bl _,H,I,rfl,?_⟩
   ·obtain⟨i,hi,rfl⟩:=List.mem_iff_getElem.mp (show w∈its by simpa using hw)
    by_cases q:∃j,∃h:j<ds.length,∃h':j<its.length,its[j]=its[i]/\eqD ds[j] dx=true
    ·rw[decide_eq_true q];obtain⟨j,h,h',q1,q2⟩:=q;rw[<-q1,<-q2];exact at_ j h h'
    ·rw[decide_eq_false q];have:=at_ i (by omega) hi
     rwa [show eqD ds[i] dx=false from Bool.eq_false_iff.mpr fun z=>q ⟨i,by omega,hi,rfl,z⟩]at this
   ·have ea:its.toArray.any (fun w=>decide (∃j,∃h:j<ds.length,∃h':j<its.length,its[j]=w/\eqD ds[j] dx=true))=ds.any fun d=>eqD d dx:=by
     rw[Bool.eq_iff_iff,List.any_toArray,List.any_eq_true,List.any_eq_true];constructor
     ·rintro⟨w,_,h⟩;obtain⟨j,h1,_,_,h2⟩:=of_decide_eq_true h;exact⟨ds[j],List.getElem_mem _,h2⟩
     ·rintro⟨d,hd,h⟩;obtain⟨j,hj,rfl⟩:=List.mem_iff_getElem.mp hd;exact⟨its[j],List.getElem_mem _,decide_eq_true ⟨j,hj,by omega,rfl,h⟩⟩
    rw[ea];exact k _ H (Ext.refl _ _) hr (by simp[Rep])
  ·rw[if_neg hc]at e;cases e
 |_=>cases e
end
end L2
namespace My
open PySem PySem.Spec PyProof.Rows L2
noncomputable def top(i:Nat):Stmt:=PySem.Challenge.pw_wordwishes_k18_why_a_row_does_not_cancel.main.body.getD i (.Pass ⟨0,0,0,0⟩)
abbrev cq:Stmt:=top 1
abbrev fu:Stmt:=top 2
abbrev bQ:Stmt:=top 3
abbrev dg:Stmt:=top 5
abbrev gE:Stmt:=top 6
abbrev cg:Stmt:=top 8
abbrev eK:Stmt:=top 9
abbrev bh:Stmt:=top 10
abbrev cK:Stmt:=top 11
abbrev dB:Stmt:=top 12
abbrev dQ:Stmt:=top 13
abbrev dE:Stmt:=top 14
abbrev kY:Stmt:=top 16
abbrev lj:Stmt:=top 17
abbrev cX:Stmt:=top 18
abbrev fQ:Stmt:=top 19
abbrev iN:Stmt:=top 20
abbrev fB:Stmt:=top 21
abbrev fM:Stmt:=top 22
abbrev jJ:Stmt:=top 23
abbrev dD:Stmt:=top 24
abbrev fL:Stmt:=top 25
abbrev jD:Stmt:=top 26
abbrev jY:Stmt:=top 27
abbrev iO:Stmt:=top 28
abbrev bv:Stmt:=top 29
abbrev dA:Stmt:=top 30
abbrev iP:Stmt:=top 31
abbrev rM:Stmt:=top 32
noncomputable abbrev iC:List Str:=["pairs","mark","reached","at","low","high"]
theorem dM:ay iC ["pairs","mark"] (aj cq):=fsc
abbrev og:List Str:=["order","one","other"]
theorem gI:ay og ["order","one","other"] (aj fu):=fsc
abbrev bO:List Str:=["order","mark"]
theorem dG:ay bO ["order","mark"] (aj bQ):=fsc
abbrev kK:List Str:=["order","turn","one","other"]
theorem eX:ay kK ["order","turn","one","other"] (aj dg):=fsc
abbrev rg:List Str:=["order","one","other"]
theorem i5:ay rg ["order","one","other"] (aj gE):=fsc
abbrev b7:List Str:=["order","row","many"]
theorem gd:ay b7 ["order","row"] (aj cg):=fsc
abbrev gh:List Str:=["mates","counts","begin","end"]
theorem jc:ay gh ["mates","counts","begin","end"] (aj eK):=fsc
abbrev aT:List Str:=["mates","many","counts","length","begin","end"]
theorem cQ:ay aT ["mates"] (aj bh):=fsc
abbrev jv:List Str:=["counts","row"]
theorem eF:ay jv ["counts","row"] (aj cK):=fsc
abbrev dw:List Str:=["marks","row"]
theorem g9:ay dw ["marks","row"] (aj dB):=fsc
abbrev lK:List Str:=["order","row","mark"]
theorem fw:ay lK ["order","row","mark"] (aj dQ):=fsc
abbrev dI:List Str:=["order","row","counts","mark","turn"]
theorem hV:ay dI ["order","row"] (aj dE):=fsc
noncomputable abbrev uH:List Str:=["_law_script","_law_place_here","_law_cell","_law_one"]
theorem lU:ay uH ["_law_script","_law_place_here"] (aj kY):=fsc
noncomputable abbrev uL:List Str:=["_law_well_here","_law_top","_law_found","_law_turn","_law_upper","_law_lower"]
theorem mj:ay uL ["_law_well_here","_law_top"] (aj lj):=fsc
noncomputable abbrev cv:List Str:=["_law_well_here","_law_signs","_law_first","_law_size","_law_pick"]
theorem kU:ay cv ["_law_well_here"] (aj cX):=fsc
abbrev iG:List Str:=["_law_well_here","_law_marks_here","_law_found","_law_start","_law_turn"]
theorem kZ:ay iG ["_law_well_here","_law_marks_here"] (aj fQ):=fsc
noncomputable abbrev sZ:List Str:=["_law_order_here","_law_marks_here","_law_found","_law_low","_law_met","_law_turn","_law_one","_law_other","_law_high"]
theorem jP:ay sZ ["_law_order_here","_law_marks_here"] (aj iN):=fsc
abbrev oN:List Str:=["_law_above_here","_law_one","_law_other"]
theorem gY:ay oN ["_law_above_here","_law_one","_law_other"] (aj fB):=fsc
abbrev oa:List Str:=["_law_above_here","_law_row_here","_law_found","_law_begin","_law_end","_law_some","_law_place_here"]
theorem ip:ay oa ["_law_above_here","_law_row_here"] (aj fM):=fsc
abbrev wb:List Str:=["_law_well_here","_law_marks_here","_law_wide"]
theorem lR:ay wb ["_law_well_here","_law_marks_here","_law_wide"] (aj jJ):=fsc
noncomputable abbrev fF:List Str:=["_law_well_here","_law_above_here","_law_marks_here","_law_sign_here","_law_some"]
theorem gW:ay fF ["_law_well_here","_law_above_here","_law_marks_here","_law_sign_here"] (aj dD):=fsc
abbrev ot:List Str:=["_law_well_here","_law_above_here","_law_marks_here","_law_pairs","_law_wide","_law_found","_law_turn","_law_at","_law_sign_here"]
theorem iq:ay ot ["_law_well_here","_law_above_here","_law_marks_here","_law_pairs","_law_wide"] (aj fL):=fsc
abbrev ny:List Str:=["_law_well_here","_law_above_here","_law_marks_here","_law_size","_law_wide","_law_pick","_law_found"]
theorem oC:ay ny ["_law_well_here","_law_above_here","_law_marks_here"] (aj jD):=fsc
abbrev wM:List Str:=["_law_order_here","_law_mark","_law_found","_law_turn","_law_low","_law_high"]
theorem mT:ay wM ["_law_order_here","_law_mark"] (aj jY):=fsc
abbrev tH:List Str:=["_law_thing","_law_size"]
theorem jT:ay tH ["_law_thing","_law_size"] (aj iO):=fsc
abbrev aE:List Str:=["_law_above_here","_law_row_here","_law_pairs","_law_size","_law_one","_law_other","_law_known","_law_ends"]
theorem i6:ay aE ["_law_above_here","_law_row_here","_law_pairs"] (aj bv):=fsc
abbrev fJ:List Str:=["_law_order_here","_law_row_here","_law_mark","_law_hang_here"]
theorem ix:ay fJ ["_law_order_here","_law_row_here","_law_mark"] (aj dA):=fsc
noncomputable abbrev tO:List Str:=["_law_well_here","_law_marks_here","_law_order_here","_law_above_here","_law_row_here","_law_found"]
theorem kW:ay tO ["_law_well_here"] (aj iP):=fsc
abbrev u0:List Str:=["_law_script"]
theorem uZ:ay u0 ["_law_script"] (aj rM):=fsc
structure Txt(mg:Str->Option Value):Prop where
 b_len:mg "len"=none
 b_tuple:mg "tuple"=none
 b_range:mg "range"=none
 b_sum:mg "sum"=none
 b_sorted:mg "sorted"=none
 b_abs:mg "abs"=none
 b_divmod:mg "divmod"=none
 b_isinstance:mg "isinstance"=none
 b_int:mg "int"=none
 b_bool:mg "bool"=none
 b_dict:mg "dict"=none
 b_all:mg "all"=none
 b_list:mg "list"=none
 b_set:mg "set"=none
 b_max:mg "max"=none
 b_min:mg "min"=none
set_option hygiene false in
local macro_rules|`(tactic| walk_at "rd")=>`(tactic| simp only[Cn,yS,wQ,wa,ya,By,CM,u9,kS,dC,Ac,uF,CC,zl,zV,dOp,dUn,lP,Ci,vi,zP,dCB,sJ,Bv,CU,zF,D7,Ck,Ai,wu,CJ,Du,C9,dIf,pO,Dt,va,zN,vq,CV,Dj,Be,yy,vV,BN,dDT,wk,zC,zj,A6,ze,zZ,zw,vP,wN,HD.dKr.injEq,zk,Cv,Ee,dDc,yu,HD.dT.injEq,HD.dK.injEq,Da,Ef,Ad,B0,nK,wV,dLc,vC,C2,
 yZ,B4,yb,yQ,yz,xh,xU,xJ,Bz,yv,xr,xl,xo,Cd,C5,D6,CB,Ea,Dq,vU,Ar,Aj,AY,AM,AF,z5,BG,AN,lg,AB,Bg,DI,DM,DL,CP,BA,BJ,DP,Dy,DA,wH,vZ,vR,v8,DB,B8,CN,DO,Di,DW,Dz,CL,C8,zf,sX,AK,aq,aN,
 gj,List.map_cons,List.map_nil,List.cons_append,List.nil_append,List.length_cons,List.length_nil,List.replicate,List.set_cons_zero,List.set_cons_succ,List.getElem?_cons_zero,List.getElem?_cons_succ,Option.some.injEq,exists_eq_left',exists_eq_left,D.int.injEq,D.bl.injEq,D.str.injEq,D.ref.injEq,D.tup.injEq,D.lst.injEq,true_and,and_true,if_true,decide_eq_true_eq,exists_and_left,Nat.zero_add,Nat.reduceAdd,Nat.reduceSub,Cp,Dd,wA,Cb,HD.lst.injEq,List.cons.injEq,or_true,true_or,and_self,↓reduceIte,Int.reduceLT,Int.reduceLE,Int.reducePow,Int.reduceNeg,Int.reduceToNat,Nat.reducePow,Nat.reduceLT,Nat.reduceLeDiff,Int.reduceAdd,Int.reduceMul,Int.reduceSub,Bool.false_eq_true,Bool.true_eq_false,if_false])
section
variable{P:Program}{w:World}{K:PySem.W.Frag}{mg:Str->Option Value}{base:Heap}{f:Addr}{fd:FuncData}
def bA(l:List D):Prop:=∃a b:Int,l=[.int a,.int b]
def oo:SpD:=fun ds M R=>∃(ns:List Int) (k:Int),ds=[.scr (ns.map .int),.int k]/\ns.length<=63/\0<=k/\k<=100/\∀p l,M p=none->bA l->R (.ref p) (au M p (.lst l))
def dq:SpD:=fun ds M R=>∃p l n,ds=[.ref p,.int n]/\M p=some (.lst l)/\bA l/\0<n/\n<1073741824/\∀v l',0<=v->v<n->bA l'->R (.int v) (au M p (.lst l'))
theorem vb{ms:List Int}{i:Nat}{d:D}(h:(ms.map D.int)[i]?=some d):∃c,c∈ms/\d=.int c:=by
 rw[List.getElem?_map]at h;cases q:ms[i]? with
 |none=>rw[q]at h;cases h
 |some c=>rw[q]at h;cases h;exact⟨c,List.mem_of_getElem? q,rfl⟩
theorem xE{ns:List Int}{lo hi:Option Int}:∃ms:List Int,L2.dS (ns.map D.int) lo hi=ms.map D.int/\ms.length<=ns.length:=by
 refine⟨(ns.drop (HT.sIx (ns.map D.int).length 0 lo)).take (HT.sIx (ns.map D.int).length (ns.map D.int).length hi-HT.sIx (ns.map D.int).length 0 lo),?_,?_⟩
 ·unfold L2.dS;rw[List.map_take,List.map_drop]
 ·simp;lia
theorem ui(F:Fun K "_law_well" "_law_well" kY f fd) (T:Txt mg) :bo P w K mg base CX0 1 f fd ["_law_script","_law_place_here"] (spD K 2 oo):=by
 have nd:=lU.nd;refine F.okR rfl lU (fun cdv A outer s H E hr=>⟨_,(am (aS (i:=2) nd rfl (Or.inl rfl) ah)
   (am (ck PassesOwn.never rfl (bI (fE (af 0) (fS (af 1)) (fS (aD aR (af 1) ah)))) (aW (i:=3) nd rfl (Or.inl rfl)) (ar (aS (i:=2) nd rfl (Or.inl rfl) (af 3))))
   (am (bz (lD (pR (aQ wc (af 2) ah nbh) (ko (aQ Eu (af 2) (aD DU ah ah) nbh)))) (ar (bu (lu (ae ah (ae (aB Df rfl T.b_abs (by kernel_rfl) (ae (af 2) ai)) ai))))) aU)
   (ar (bu (lu (ae ah (ae (aD aR (aD ft (aD aR (aD ft (af 2) ah) (aD c8 ah (af 1))) ah) ah) ai)))))))),fun ds M R _ hS bk=>?_⟩)
 obtain⟨ns,k0,rfl,hl,h0,h1,k⟩:=hS;refine bk ?_;clear bk;walk_at "rd";obtain⟨ms,hms,hml⟩:=xE (ns:=ns) (lo:=some k0) (hi:=some (k0+1));rw[hms];intro hz;refine aP (fun i Δ M'=>∃(x:Int) (y:Option D),Δ=[some (D.scr (List.map D.int ns)),some (D.int k0),some (D.int x),y]/\M'=M) ⟨0,none,rfl,rfl⟩ ?_ ?_
 ·intro i d Δ M' X hd hI' k';refine shr fun _ bk=>?_;obtain⟨x,y,rfl,rfl⟩:=hI';refine bk ?_;clear bk;obtain⟨c,hc,rfl⟩:=vb hd;simp only[aV];walk_at "rd";exact k' _ _ ⟨_,_,rfl,rfl⟩
 ·intro Δ M' hI';refine shr fun _ bk=>?_;obtain⟨x,y,rfl,rfl⟩:=hI';refine bk ?_;clear bk;walk_at "rd";exact cF (fun _=>⟨sz3 2,fun p hp=>k p _ hp ⟨_,_,rfl⟩⟩) (fun _=>cF (fun _=>⟨sz3 2,fun p hp=>k p _ hp ⟨_,_,rfl⟩⟩) (fun _=>⟨sz3 2,fun p hp=>k p _ hp ⟨_,_,rfl⟩⟩))
theorem sV(F:Fun K "_law_draw" "_law_draw" lj f fd) (T:Txt mg) :bo P w K mg base CX0 1 f fd ["_law_well_here","_law_top"] (spD K 2 dq):=by
 have nd:=mj.nd;refine F.okR rfl mj (fun cdv A outer s H E hr=>⟨_,(am (bz (aQ (gq hr.units) (bg a7 (af 0) ah (fun _ _=>rfl)) ah nbh) (am (aS (i:=2) nd rfl (Or.inl rfl) (aD ft (bg a7 (af 0) ah (fun _ _=>rfl)) (af 1)))
   (am (w6 (af 0) ah (aD uB (bg a7 (af 0) ah (fun _ _=>rfl)) (af 1)))
   (ar (bu (af 2))))) aU)
   (am (ck PassesOwn.never rfl (bw rfl T.b_range (ae ah ai)) (aW (i:=3) nd rfl (Or.inl rfl)) (am (De (aB vT rfl T.b_divmod (by kernel_rfl) (ae (bg a7 (af 0) ah (fun _ _=>rfl)) (ae ah ai))) (mO rfl (cJ (aW (i:=4) nd rfl (Or.inl rfl)) (cJ (aW (i:=5) nd rfl (Or.inl rfl)) mn))))
   (ar (w6 (af 0) ah (aD ft (aD aR (aD aR (aD c8 (af 5) ah) (aD c8 (af 4) ah)) ah) ah)))))
   (ar (bu (aD ft (aD uB (bg a7 (af 0) ah (fun _ _=>rfl)) ah) (af 1)))))),fun ds M R _ hS bk=>?_⟩)
 obtain⟨p,l,n,rfl,hM,⟨a,b,rfl⟩,h0,h1,k⟩:=hS;refine bk ?_;clear bk;have hrd:=m8 hM;have hcd:∀x,jQ x n:=fun x=>⟨h0,h1⟩;walk_at "rd";simp only[hrd,hM,hcd];walk_at "rd";have m1:∀x:Int,0<=x % n:=fun x=>Int.emod_nonneg _ (by lia);have m2:∀x:Int,x % n<n:=fun x=>Int.emod_lt_of_pos _ h0;refine cF (fun _=>⟨_,if_pos h0,_,if_pos (hcd b),k _ _ (m1 _) (m2 _) ⟨_,_,rfl⟩⟩) (fun _=>?_);refine aP (fun i Δ M'=>∃(x3 x4 x5:Option D) (b':Int),Δ=[some (D.ref p),some (D.int n),none,x3,x4,x5]/\M'=au M p (.lst [.int a,.int b'])) ⟨_,_,_,b,rfl,(mS hM).symm⟩ ?_ ?_
 ·intro i d Δ M' X hd hI' k';refine shr fun _ bk=>?_;obtain⟨x3,x4,x5,b',rfl,rfl⟩:=hI';refine bk ?_;clear bk;simp only[aV];walk_at "rd";simp only[fG,cO,aV,ic,Option.bind_some];refine⟨_,if_pos rfl,?_⟩;walk_at "rd";exact k' _ _ ⟨_,_,_,_,rfl,rfl⟩
 ·intro Δ M' hI';refine shr fun _ bk=>?_;obtain⟨x3,x4,x5,b',rfl,rfl⟩:=hI';refine bk ?_;clear bk;walk_at "rd";refine⟨_,if_pos h0,k _ _ (m1 _) (m2 _) ⟨_,_,rfl⟩⟩
def aH(x:Str×Str):D:=.tup [.str x.1,.str x.2]
theorem hG{ao:List Str}{v:Int}(h0:0<=v) (h1:v<(ao.length:Int)):∃m∈ao,atI (ao.map D.str) v=some (.str m):=by
 obtain⟨n,rfl⟩:=Int.eq_ofNat_of_zero_le h0;have hn:n<ao.length:=by lia
 exact⟨ao[n],List.getElem_mem hn,cC (by simp[hn])⟩
theorem cU{M:DH}{p q:Addr}{a b:HD}(h:p≠q):au (au M p a) q b=au (au M q b) p a:=by
 funext c;unfold au
 by_cases h1:c=q
 ·subst h1;simp[Ne.symm h]
 ·by_cases h2:c=p
  ·subst h2;simp[h]
  ·simp[h1,h2]
theorem wU{xs:List D}{n:Nat}:L2.dS xs none (some (n:Int))=xs.take n:=by
 unfold L2.dS;rw[HT.sIx_none,HT.sIx_nat,List.drop_zero,Nat.sub_zero]
 by_cases h:n<=xs.length
 ·rw[Nat.min_eq_left h]
 ·rw[Nat.min_eq_right (by lia),List.take_length,List.take_of_length_le (by lia)]
theorem pY{xs:List D}{n:Nat}:L2.dS xs (some (n:Int)) none=xs.drop n:=by
 unfold L2.dS;rw[HT.sIx_none,HT.sIx_nat]
 by_cases h:n<=xs.length
 ·rw[Nat.min_eq_left h,List.take_of_length_le (by simp)]
 ·rw[Nat.min_eq_right (by lia),Nat.sub_self,List.take_zero,List.drop_of_length_le (by lia)]
theorem bE{lo:Int}{n:Nat}:(gX lo n).length=n:=by simp[gX]
section
variable{σ:Type}
noncomputable def gg:List σ->List (List σ×σ×List σ)
 |[]=>[]
 |y::ys=>([],y,ys)::(gg ys).map fun c=>(y::c.1,c.2.1,c.2.2)
theorem c9{xs:List σ}:∀{c:List σ×σ×List σ},c∈gg xs->c.1.length+c.2.2.length+1=xs.length:=by
 induction xs with
 |nil=>intro c h;cases h
 |cons y ys ih =>
  intro c h;rcases List.mem_cons.mp h with rfl|h
  ·simp
  ·obtain⟨d,hd,rfl⟩:=List.mem_map.mp h;have:=ih hd;simp;lia
theorem fb(xs ys:List σ):gg (xs++ys)=((gg xs).map fun c=>(c.1,c.2.1,c.2.2++ys))++(gg ys).map fun c=>(xs++c.1,c.2.1,c.2.2):=by
 induction xs with
 |nil=>simp[gg]
 |cons x xs ih=>simp[gg,ih,List.map_map,Function.comp_def]
def Wf(R:σ->σ->Bool):Nat->List σ->Nat
 |_,[]=>1
 |0,_::_=>0
 |k+1,x::xs=>((gg xs).map fun c=>if R x c.2.1 then Wf R k c.1*Wf R k c.2.2 else 0).sum
def W(R:σ->σ->Bool) (xs:List σ):Nat:=Wf R xs.length xs
theorem zG{R:σ->σ->Bool}:∀{k:Nat}{xs:List σ},xs.length<=k->Wf R k xs=W R xs:=by
 have key:∀(n k j:Nat) (xs:List σ),xs.length<=n->xs.length<=k->xs.length<=j->Wf R k xs=Wf R j xs:=by
  intro n
  induction n with
  |zero =>
   intro k j xs h _ _;have:xs=[]:=List.eq_nil_of_length_eq_zero (by lia);subst this;simp[Wf]
  |succ n ih =>
   intro k j xs h hk hj;cases xs with
   |nil=>simp[Wf]
   |cons x xs =>
    simp only[List.length_cons]at h hk hj;obtain⟨k,rfl⟩:∃m,k=m+1:=⟨k-1,by lia⟩;obtain⟨j,rfl⟩:∃m,j=m+1:=⟨j-1,by lia⟩;simp only[Wf];congr 1;apply List.map_congr_left;intro c hc;have:=c9 hc;rw[ih k j c.1 (by lia) (by lia) (by lia),ih k j c.2.2 (by lia) (by lia) (by lia)]
 intro k xs h;exact key k k xs.length xs h h (Nat.le_refl _)
theorem gJ{R:σ->σ->Bool}:W R []=1:=by simp[W,Wf]
theorem fc{R:σ->σ->Bool}{x:σ}{xs:List σ}:W R (x::xs)=((gg xs).map fun c=>if R x c.2.1 then W R c.1*W R c.2.2 else 0).sum:=by
 show Wf R (xs.length+1) (x::xs)=_;simp only[Wf];congr 1;apply List.map_congr_left;intro c hc;have:=c9 hc;rw[zG (by lia),zG (by lia)]
theorem mZ{α:Type}{f g:α->Nat}:∀{l:List α},(∀x∈l,f x<=g x)->(l.map f).sum<=(l.map g).sum
 |[],_=>by simp
 |x::l,h=>by
  simp only[List.map_cons,List.sum_cons];exact Nat.add_le_add (h x (.head _)) (mZ fun y hy=>h y (.tail _ hy))
theorem kM{α:Type}{f:α->Nat}{m:Nat}:∀{l:List α},(l.map f).sum*m=(l.map fun x=>f x*m).sum
 |[]=>by simp
 |x::l=>by simp only[List.map_cons,List.sum_cons,Nat.add_mul,kM (l:=l)]
theorem oy{α:Type}{f:α->Nat}{m:Nat}:∀{l:List α},m*(l.map f).sum=(l.map fun x=>m*f x).sum
 |[]=>by simp
 |x::l=>by simp only[List.map_cons,List.sum_cons,Nat.mul_add,oy (l:=l)]
theorem o8{α:Type}{f:α->Nat}:∀{l:List α},(∀x∈l,f x=0)->(l.map f).sum=0
 |[],_=>by simp
 |x::l,h=>by
  simp only[List.map_cons,List.sum_cons,h x (.head _),o8 fun y hy=>h y (.tail _ hy)]
theorem Eo{R:σ->σ->Bool}(ys:List σ):∀(n:Nat) (as bs:List σ),as.length+bs.length<=n->W R (as++bs)*W R ys<=W R (as++(ys++bs)):=by
 intro n
 induction n with
 |zero =>
  intro as bs h;have h1:as=[]:=List.eq_nil_of_length_eq_zero (by lia);have h2:bs=[]:=List.eq_nil_of_length_eq_zero (by lia);subst h1;subst h2;simp[gJ]
 |succ n ih =>
  intro as bs h;cases as with
  |nil =>
   -- behind the other
   have key:∀(m:Nat) (zs:List σ),zs.length<=m->W R bs*W R zs<=W R (zs++bs):=by
    intro m
    induction m with
    |zero =>
     intro zs hz;have:zs=[]:=List.eq_nil_of_length_eq_zero (by lia);subst this;simp[gJ]
    |succ m ihm =>
     intro zs hz;cases zs with
     |nil=>simp[gJ]
     |cons z zs =>
      simp only[List.length_cons]at hz;rw[List.cons_append,fc,fc,fb,List.map_append,List.sum_append,List.map_map,oy];refine Nat.le_trans (mZ fun c hc=>?_) (Nat.le_add_right _ _);have:=c9 hc;simp only[Function.comp_def]
      by_cases e:R z c.2.1=true
      ·rw[if_pos e,if_pos e];have:=ihm c.2.2 (by lia)
       calc W R bs*(W R c.1*W R c.2.2)=W R c.1*(W R bs*W R c.2.2):=by rw[Nat.mul_left_comm]
        _<=W R c.1*W R (c.2.2++bs):=Nat.mul_le_mul_left _ this
      ·rw[if_neg e];simp
   simpa using key ys.length ys (Nat.le_refl _)
  |cons a as =>
   simp only[List.length_cons]at h;rw[List.cons_append,List.cons_append,fc,fc,fb,fb,fb,List.map_append,List.map_append,List.sum_append,List.sum_append,List.map_append,List.map_append,List.sum_append,Nat.add_mul];refine Nat.add_le_add ?_ (Nat.le_trans ?_ (Nat.le_add_left _ _))
   ·rw[List.map_map,List.map_map,kM];refine mZ fun c hc=>?_;have:=c9 hc;simp only[Function.comp_def]
    by_cases e:R a c.2.1=true
    ·rw[if_pos e,if_pos e,Nat.mul_assoc];exact Nat.mul_le_mul_left _ (ih c.2.2 bs (by lia))
    ·rw[if_neg e];simp
   ·rw[List.map_map,List.map_map,List.map_map,kM];refine mZ fun c hc=>?_;have:=c9 hc;simp only[Function.comp_def]
    by_cases e:R a c.2.1=true
    ·rw[if_pos e,if_pos e,Nat.mul_right_comm];exact Nat.mul_le_mul_right _ (ih as c.1 (by lia))
    ·rw[if_neg e];simp
theorem me{R:σ->σ->Bool}:∀(n:Nat) (xs:List σ),xs.length<=n->xs.length % 2=1->W R xs=0:=by
 intro n
 induction n with
 |zero=>intro xs h o;lia
 |succ n ih =>
  intro xs h o;cases xs with
  |nil=>simp at o
  |cons x xs =>
   simp only[List.length_cons]at h o;rw[fc];refine o8 fun c hc=>?_;have:=c9 hc
   by_cases e:c.1.length % 2=1
   ·rw[ih c.1 (by lia) e];simp
   ·rw[ih c.2.2 (by lia) (by lia)];simp
theorem mh{α:Type}{f:α->Nat}{m:Nat}:∀{l:List α},(∀x∈l,f x<=m)->(l.map f).sum<=l.length*m
 |[],_=>by simp
 |x::l,h=>by
  simp only[List.map_cons,List.sum_cons,List.length_cons,Nat.add_mul,Nat.one_mul];have:=mh (l:=l) fun y hy=>h y (.tail _ hy);have:=h x (.head _)
  lia
theorem o4{xs:List σ}:(gg xs).length=xs.length:=by
 induction xs with
 |nil=>rfl
 |cons x xs ih=>simp[gg,ih]
theorem CK{R:σ->σ->Bool}:∀(n:Nat) (xs:List σ),xs.length<=n->n<=100->W R xs<=100 ^ xs.length:=by
 intro n
 induction n with
 |zero =>
  intro xs h _;have:xs=[]:=List.eq_nil_of_length_eq_zero (by lia);subst this;simp[gJ]
 |succ n ih =>
  intro xs h hn;cases xs with
  |nil=>simp[gJ]
  |cons x xs =>
   simp only[List.length_cons]at h ⊢;rw[fc];refine Nat.le_trans (mh (m:=100 ^ xs.length) fun c hc=>?_) ?_
   ·have:=c9 hc
    by_cases e:R x c.2.1=true
    ·rw[if_pos e];refine Nat.le_trans (Nat.mul_le_mul (ih c.1 (by lia) (by exact Nat.le_of_lt (by assumption))) (ih c.2.2 (by lia) (by exact Nat.le_of_lt (by assumption)))) ?_;rw[<-Nat.pow_add];exact Nat.pow_le_pow_right (by decide) (by lia)
    ·rw[if_neg e];exact Nat.zero_le _
   ·rw[o4,Nat.pow_succ,Nat.mul_comm];exact Nat.mul_le_mul_left _ (by lia)
end
inductive aX (ord:List (Str×Str)) (a:Str):Str->Prop
 |refl:aX ord a a
 |step {b c:Str}:aX ord a b->(b,c)∈ord->aX ord a c
theorem eC{ord:List (Str×Str)}{a x:Str}{L:List Str}(h0:a∈L) (hc:∀y∈ord,y.1∈L->y.2∈L) (h:aX ord a x):x∈L:=by
 induction h with
 |refl=>exact h0
 |step _ hm ih=>exact hc _ hm ih
def cp:SpD:=fun ds M R=>∃(ord:List (Str×Str)) (a:Str),ds=[.tup (ord.map aH),.str a]/\ord.length<=500 /\
 ∀L:List Str,a∈L->(∀y∈ord,y.1∈L->y.2∈L)->(∀x∈L,aX ord a x)->L.length<=ord.length+1->R (.lst (L.map .str)) M
abbrev tIn:TSd:=Ac (vi (lP (dOp eqF (kS 4) (dOp ixD (kS 2) (kS 3)))) (lP (dOp (inE true) (kS 5) (kS 2)))) (wu (Ai (kS 2) (kS 5))) uF
theorem fR{q:Addr}{E:gb}{M:DH}(hq:M q=none) (ps:D) (a:Str) (ord:List (Str×Str)) (hord:ord.length<=500) (i:Nat) (L0:List Str) (hi:i<L0.length):∀(todo done:List (Str×Str)) (x4 x5:Option D) (L:List Str),ord=done++todo->(∃t,L=L0++t)->L.Nodup->(∀x∈L,aX ord a x)->(∀x∈L,x∈a::ord.map (·.2))->(∀y∈done,y.1=L0[i]->y.2∈L) ->
  (∀(y4 y5:Option D) (L':List Str),(∃t,L'=L0++t)->L'.Nodup->(∀x∈L',aX ord a x)->(∀x∈L',x∈a::ord.map (·.2))->(∀y∈ord,y.1=L0[i]->y.2∈L')->E.nx [some ps,some (.str a),some (.ref q),some (.int i),y4,y5] (au M q (.lst (L'.map .str)))) ->
  cx (fG (cO (aV 4) (cO (aV 5) ic)) 2) tIn E (todo.map aH) [some ps,some (.str a),some (.ref q),some (.int i),x4,x5] (au M q (.lst (L.map .str)))
 |[],done,x4,x5,L,ho,ht,hn,hs,hb,hd,k=>by
  simp only[List.map_nil,cx];exact k x4 x5 L ht hn hs hb (by rw[ho,List.append_nil];exact hd)
 |(b,c)::todo,done,x4,x5,L,ho,⟨t,ht⟩,hn,hs,hb,hd,k=>by
  have hiL:i<L.length:=by rw[ht];simp;lia
  have eL:L[i]=L0[i]:=by subst ht;simp[hi]
  have eat:atI (L.map D.str) (i:Int)=some (.str L[i]):=cC (by simp[hiL]);have bH:L.length<=ord.length+1:=by
   have:=cw L (a::ord.map (·.2)) hn hb;simpa using this
  simp only[List.map_cons,aH,cx,fG,cO,aV,ic,Option.bind_some];refine⟨_,rfl,?_⟩;walk_at "rd";refine⟨_,eat,?_⟩;walk_at "rd";have ho':ord=(done++[(b,c)])++todo:=by rw[ho];simp
  have hmem:(b,c)∈ord:=by rw[ho];simp
  refine cF (fun h=>?_) (fun h=>?_)
  ·have hbe:b=L0[i]:=by rw[<-eL];simpa using h
   refine⟨_,if_pos ⟨rfl,jW⟩,_,rfl,?_⟩;rw[iA]
   by_cases hc:c∈L
   ·simp only[hc,decide_true,Bool.xor_true,Bool.not_true,Bool.false_eq_true,if_false];exact fR hq ps a ord hord i L0 hi todo (done++[(b,c)]) _ _ L ho' ⟨t,ht⟩ hn hs hb (fun y hy hy1=>by
     rcases List.mem_append.mp hy with h|h
     ·exact hd y h hy1
     ·have:y=(b,c):=by simpa using h
      subst this;exact hc) k
   ·simp only[hc,decide_false,Bool.xor_false,if_true];refine⟨by rw[List.length_map];exact Nat.lt_of_lt_of_le (by lia:L.length<1000) (sz3 1000),?_⟩;have ea:L.map D.str++[D.str c]=(L++[c]).map D.str:=by simp
    rw[ea];refine fR hq ps a ord hord i L0 hi todo (done++[(b,c)]) _ _ (L++[c]) ho' ⟨t++[c],by rw[ht];simp⟩ ?_ (fun x hx=>?_) (fun x hx=>?_) (fun y hy hy1=>?_) k
    ·rw[List.nodup_append];refine⟨hn,by simp,fun u hu v hv=>?_⟩;have:v=c:=by simpa using hv
     subst this;rintro rfl;exact hc hu
    ·rcases List.mem_append.mp hx with h|h
     ·exact hs x h
     ·have:x=c:=by simpa using h
      subst this;exact aX.step (hs b (by rw[hbe,<-eL];exact List.getElem_mem hiL)) hmem
    ·rcases List.mem_append.mp hx with h|h
     ·exact hb x h
     ·have:x=c:=by simpa using h
      subst this;exact List.mem_cons_of_mem _ (List.mem_map.mpr ⟨_,hmem,rfl⟩)
    ·rcases List.mem_append.mp hy with h|h
     ·exact List.mem_append_left _ (hd y h hy1)
     ·have:y=(b,c):=by simpa using h
      subst this;simp
  ·exact fR hq ps a ord hord i L0 hi todo (done++[(b,c)]) _ _ L ho' ⟨t,ht⟩ hn hs hb (fun y hy hy1=>by
    rcases List.mem_append.mp hy with h'|h'
    ·exact hd y h' hy1
    ·have:y=(b,c):=by simpa using h'
     subst this;exact absurd (by rw[eL];simpa using hy1) h) k
theorem gT(F:Fun K "reached_from" "reached_from" cq f fd) (T:Txt mg) :bo P w K mg base CX0 1 f fd ["pairs","mark"] (spD K 2 cp):=by
 have nd:=dM.nd;refine F.okR rfl dM (fun cdv A outer s H E hr=>⟨_,(am (aS (i:=2) nd rfl (Or.inl rfl) (lu (ae (af 1) ai)))
   (am (aS (i:=3) nd rfl (Or.inl rfl) ah)
   (am (yL PassesOwn.never (aQ wc (af 3) (aB bY rfl T.b_len (by kernel_rfl) (ae (af 2) ai)) nbh) (am (ck PassesOwn.never rfl (bI (af 0)) (mO rfl (cJ (aW (i:=4) nd rfl (Or.inl rfl)) (cJ (aW (i:=5) nd rfl (Or.inl rfl)) mn))) (ar (bz (lD (iB (aQ (gq hr.units) (af 4) (bg a7 (af 2) (af 3) (fun _ _=>rfl)) nbh) (ij (aQ vG (af 5) (af 2) rfl)))) (ar (vy (zH (af 2) (af 5)))) aU)))
   (ar (Cz (i:=3) nd rfl (Or.inl rfl) ah BO))))
   (ar (uN (af 2)))))),fun ds M R _ hS bk=>?_⟩)
 obtain⟨ord,a,rfl,ho,k⟩:=hS;refine bk ?_;clear bk;walk_at "rd";refine⟨sz3 1,fun q hq=>?_⟩;refine⟨fun m Δ M'=>∃(i:Nat) (L:List Str) (x4 x5:Option D),Δ=[some (D.tup (ord.map aH)),some (D.str a),some (D.ref q),some (D.int i),x4,x5]/\M'=au M q (.lst (L.map .str))/\i<=L.length/\L.Nodup/\a∈L/\(∀x∈L,aX ord a x)/\(∀x∈L,x∈a::ord.map (·.2))/\(∀y∈ord,∀j,j<i->L[j]?=some y.1->y.2∈L)/\m=ord.length+1-i,
  ⟨_,0,[a],none,none,rfl,rfl,Nat.zero_le _,by simp,by simp,fun x hx=>by
   have:x=a:=by simpa using hx
   subst this;exact aX.refl,fun x hx=>by
   have:x=a:=by simpa using hx
   subst this;simp,fun y _ j hj=>absurd hj (by lia),rfl⟩,?_⟩
 intro m Δ M' hI;refine shr fun _ bk=>?_;obtain⟨i,L,x4,x5,rfl,rfl,hiL,hn,ha,hs,hb,hp,rfl⟩:=hI;refine bk ?_;clear bk;have bH:L.length<=ord.length+1:=by
  have:=cw L (a::ord.map (·.2)) hn hb;simpa using this
 walk_at "rd";rw[List.length_map];refine cF (fun h=>?_) (fun h=>?_)
 ·have hi:i<L.length:=by lia
  intro hz;refine fR hq _ a ord ho i L hi ord [] x4 x5 L rfl ⟨[],by simp⟩ hn hs hb (fun y hy=>absurd hy (by simp)) (fun y4 y5 L' hL' hn' hs' hb' hd'=>?_);obtain⟨t,rfl⟩:=hL';walk_at "rd";refine⟨ord.length+1-(i+1),by lia,i+1,L++t,y4,y5,?_,rfl,by simp;lia,hn',List.mem_append_left _ ha,hs',hb',fun y hy j hj hjy=>?_,rfl⟩
  ·simp
  ·by_cases hji:j=i
   ·subst hji;refine hd' y hy ?_;rw[List.getElem?_append_left hi,List.getElem?_eq_getElem hi]at hjy;exact(Option.some.inj hjy).symm
   ·rw[List.getElem?_append_left (by exact Nat.lt_of_lt_of_le (by assumption) (by assumption))]at hjy;exact List.mem_append_left _ (hp y hy j (by lia) hjy)
 ·rw[eh hq];refine k L ha (fun y hy hy1=>?_) hs bH;obtain⟨j,hj,e⟩:=List.mem_iff_getElem.mp hy1;exact hp y hy j (by lia) (by rw[List.getElem?_eq_getElem hj,e])
def aC(x:Str×Int):D:=.tup [.str x.1,.int x.2]
theorem jx{α:Type}{f:α->D}(hf:∀x y,f x=f y->x=y):∀{xs ys:List α},xs.map f=ys.map f->xs=ys
 |[],[],_=>rfl
 |[],_::_,h=>by simp at h
 |_::_,[],h=>by simp at h
 |x::xs,y::ys,h=>by
  simp only[List.map_cons,List.cons.injEq]at h;rw[hf _ _ h.1,jx hf h.2]
theorem iI:∀x y,aH x=aH y->x=y:=fun⟨a,b⟩ ⟨c,d⟩ h=>by simpa[aH]using h
def oV(ord:List (Str×Str)) (t:Int) (a b:Str):Prop:=if t % 2=0 then aX ord a b else aX ord b a
open Classical in
def rB(ord:List (Str×Str)) (a b:Str):Bool:=decide (aX ord a b)
open Classical in
def lB(ord:List (Str×Str)) (t:Int) (a b:Str):Bool:=decide (oV ord t a b)
theorem iY{ord:List (Str×Str)}{a b:Str}:rB ord a b=true↔aX ord a b:=by simp[rB]
theorem qN{ord:List (Str×Str)}{t:Int}{a b:Str}:lB ord t a b=true↔oV ord t a b:=by simp[lB]
theorem sR{ord:List (Str×Str)}{t:Int}{a b:Str}(h:t % 2=0):lB ord t a b=rB ord a b:=by rw[Bool.eq_iff_iff,qN,iY,oV,if_pos h]
theorem wZ{ord:List (Str×Str)}{t:Int}{a b:Str}(h:¬ t % 2=0):lB ord t a b=rB ord b a:=by rw[Bool.eq_iff_iff,qN,iY,oV,if_neg h]
def ff:SpD:=fun ds M R=>∃(ord:List (Str×Str)) (a b:Str),ds=[.tup (ord.map aH),.str a,.str b]/\ord.length<=500/\R (.bl (rB ord a b)) M
def dn:SpD:=fun ds M R=>∃(ord:List (Str×Str)) (t:Int) (a b:Str),ds=[.tup (ord.map aH),.int t,.str a,.str b]/\ord.length<=500/\R (.bl (lB ord t a b)) M
def eR:SpD:=fun ds M R=>∃(ord:List (Str×Str)) (x y:Str×Int),ds=[.tup (ord.map aH),aC x,aC y]/\ord.length<=500/\R (.bl (x.2+1==y.2&&lB ord x.2 x.1 y.1)) M
theorem lO{ord:List (Str×Str)}{a b:Str}{M:DH}{R:D->DH->Prop}:ff [.tup (ord.map aH),.str a,.str b] M R↔ord.length<=500/\R (.bl (rB ord a b)) M :=
 ⟨fun⟨o,c,d,e,h1,h2⟩=>by
  simp only[List.cons.injEq,D.tup.injEq,D.str.injEq,and_true]at e;obtain⟨e1,e2,e3⟩:=e;rw[jx iI e1,e2,e3];exact⟨h1,h2⟩,fun h=>⟨ord,a,b,rfl,h⟩⟩
theorem iW{ord:List (Str×Str)}{t:Int}{a b:Str}{M:DH}{R:D->DH->Prop}:dn [.tup (ord.map aH),.int t,.str a,.str b] M R↔ord.length<=500/\R (.bl (lB ord t a b)) M :=
 ⟨fun⟨o,u,c,d,e,h1,h2⟩=>by
  simp only[List.cons.injEq,D.tup.injEq,D.str.injEq,D.int.injEq,and_true]at e;obtain⟨e1,e0,e2,e3⟩:=e;rw[jx iI e1,e0,e2,e3];exact⟨h1,h2⟩,fun h=>⟨ord,t,a,b,rfl,h⟩⟩
theorem nU{ord:List (Str×Str)}{a b:Str}{t u:Int}{M:DH}{R:D->DH->Prop}:eR [.tup (ord.map aH),.tup [.str a,.int t],.tup [.str b,.int u]] M R↔ord.length<=500/\R (.bl (t+1==u&&lB ord t a b)) M :=
 ⟨fun⟨o,⟨c,v⟩,⟨d,w⟩,e,h1,h2⟩=>by
  simp only[aC,List.cons.injEq,D.tup.injEq,D.str.injEq,D.int.injEq,and_true]at e;obtain⟨e1,⟨e2,e3⟩,e4,e5⟩:=e;rw[jx iI e1,e2,e3,e4,e5];exact⟨h1,h2⟩,fun h=>⟨ord,(a,t),(b,u),rfl,h⟩⟩
theorem m9(F:Fun K "at_most" "at_most" fu f fd) (T:Txt mg) (G1:FnD P w K mg base "reached_from" 1 2 cp):bo P w K mg base CX0 2 f fd ["order","one","other"] (spD K 3 ff):=by
 have nd:=gI.nd;refine F.okR rfl gI (fun cdv A outer s H E hr=>⟨_,(ar (bu (fZ zz (af 2) (qd G1 hr (ae (af 0) (ae (af 1) ai))) rfl))),fun ds M R _ hS bk=>?_⟩);obtain⟨ord,a,b,rfl,ho,k⟩:=hS;refine bk ?_;clear bk;walk_at "rd";refine⟨ord,a,rfl,ho,fun L h1 h2 h3 h4=>?_⟩;refine⟨_,if_pos ⟨rfl,jW⟩,?_⟩;rw[iA];have e:(false ^^ decide (b∈L))=rB ord a b:=by
  rw[Bool.false_xor,Bool.eq_iff_iff,iY,decide_eq_true_eq];exact⟨fun h=>h3 b h,fun h=>eC h1 h2 h⟩
 rw[e];exact k
theorem ju(F:Fun K "mark_leads" "mark_leads" dg f fd) (T:Txt mg) (G8:FnD P w K mg base "at_most" 2 3 ff):bo P w K mg base CX0 3 f fd ["order","turn","one","other"] (spD K 4 dn):=by
 have nd:=eX.nd;refine F.okR rfl eX (fun cdv A outer s H E hr=>⟨_,(am (bz (aQ (gq hr.units) (aD ft (af 1) ah) ah nbh) (ar (bu (qd G8 hr (ae (af 0) (ae (af 2) (ae (af 3) ai)))))) aU)
   (ar (bu (qd G8 hr (ae (af 0) (ae (af 3) (ae (af 2) ai))))))),fun ds M R _ hS bk=>?_⟩)
 obtain⟨ord,t,a,b,rfl,ho,k⟩:=hS;refine bk ?_;clear bk;walk_at "rd";simp only[lO];refine cF (fun h=>?_) (fun h=>?_)
 ·have h':t % 2=0:=by simpa using h
  rw[sR h']at k;exact⟨ho,k⟩
 ·have h':¬ t % 2=0:=by simpa using h
  rw[wZ h']at k;exact⟨ho,k⟩
theorem oH(F:Fun K "cancel" "cancel" gE f fd) (T:Txt mg) (G7:FnD P w K mg base "mark_leads" 3 4 dn):bo P w K mg base CX0 4 f fd ["order","one","other"] (spD K 3 eR):=by
 have nd:=i5.nd;refine F.okR rfl i5 (fun cdv A outer s H E hr=>⟨_,(ar (bu (jd (fZ (gq hr.units) (aD aR (bg a7 (af 1) ah (fun _ _=>rfl)) ah) (bg a7 (af 2) ah (fun _ _=>rfl)) nbh) (oi (qd G7 hr (ae (af 0) (ae (bg a7 (af 1) ah (fun _ _=>rfl)) (ae (bg a7 (af 1) ah (fun _ _=>rfl)) (ae (bg a7 (af 2) ah (fun _ _=>rfl)) ai))))))))),fun ds M R _ hS bk=>?_⟩);obtain⟨ord,⟨a,t⟩,⟨b,u⟩,rfl,ho,k⟩:=hS;refine bk ?_;clear bk;simp only[aC];walk_at "rd";simp only[iW];refine cF (fun h=>?_) (fun h=>?_)
 ·simp only[h,Bool.true_and]at k;exact⟨ho,k⟩
 ·simp only[h,Bool.false_and]at k;exact k
theorem yR{ord:List (Str×Str)}{t:Int}{a:Str}:lB ord t a a=true:=by
 rw[qN,oV];split<;>exact aX.refl
theorem aL{α:Type}{g:GD}{tc:TTd}{te:TEd}{M:DH}{Q:List D->DH->Prop}(enc:α->D) (b:α->Bool) (y:α->D) (Ok:DE->Prop):∀(xs:List α) (Δ:DE) (acc:List D),
  (∀x∈xs,∀ Δ,Ok Δ->∃ Δ',g (enc x) Δ=some Δ'/\Ok Δ'/\(∀Q1:Bool->DH->Prop,Q1 (b x) M->tc Δ' M Q1)/\(b x=true->∀Q2:D->DH->Prop,Q2 (y x) M->te Δ' M Q2))->Ok Δ ->
  Q (acc++(xs.filter b).map y) M->cG g tc te (xs.map enc) Δ M acc Q
 |[],Δ,acc,_,_,q=>by simpa[cG]using q
 |x::xs,Δ,acc,h,hΔ,q=>by
  rw[List.map_cons];simp only[cG];obtain⟨Δ',e,hΔ',h1,h2⟩:=h x (.head _) Δ hΔ;refine⟨Δ',e,h1 _ ?_⟩;have ih:=fun acc' q'=>aL (Q:=Q) enc b y Ok xs Δ' acc' (fun z hz=>h z (.tail _ hz)) hΔ' q';cases hb:b x with
  |true =>
   simp only[if_true];refine h2 hb _ (ih _ ?_);rw[List.filter_cons_of_pos hb]at q;simpa using q
  |false =>
   simp only[Bool.false_eq_true,if_false];refine ih _ ?_;rw[List.filter_cons_of_neg (by simp[hb])]at q;exact q
theorem sH{α:Type} [DecidableEq α] (f:α->D) (hf:∀x y,eqD (f x) (f y)=decide (x=y)):∀{a b:List α},cS (a.map f) (b.map f)=decide (a=b)
 |[],[]=>by simp[cS]
 |[],_::_=>by simp[cS]
 |_::_,[]=>by simp[cS]
 |x::a,y::b=>by
  rw[List.map_cons,List.map_cons,cS,sH f hf (a:=a) (b:=b),hf];simp
theorem oS{α:Type}(f:α->D) (hf:∀x,dLe (f x) 59=true) {a:List α}:cM (a.map f) 59=true:=by
 rw[ik];intro d hd;obtain⟨x,_,rfl⟩:=List.mem_map.mp hd;exact hf x
def cB(ord:List (Str×Str)) (x y:Str×Int):Bool:=x.2+1==y.2&&lB ord x.2 x.1 y.1
theorem pd{ord:List (Str×Str)}{x y:Str×Int}{M:DH}{R:D->DH->Prop}:eR [.tup (ord.map aH),aC x,aC y] M R↔ord.length<=500/\R (.bl (cB ord x y)) M:=nU (a:=x.1) (b:=y.1) (t:=x.2) (u:=y.2)
def sg(row:List (Str×Int)) (i:Nat):Str×Int:=row.getD i ("",0)
theorem mB{row:List (Str×Int)}{i:Nat}(h:i<row.length):atI (row.map aC) (i:Int)=some (aC (sg row i)):=by
 refine cC ?_;rw[List.getElem?_map,List.getElem?_eq_getElem h];simp[sg,h]
def nE(n i:Nat):List Nat:=(List.range ((n-i) / 2)).map fun k=>i+1+2*k
def mts(R:Str×Int->Str×Int->Bool) (row:List (Str×Int)) (i:Nat):List Nat:=(nE row.length i).filter fun m=>R (sg row i) (sg row m)
def jg(l:List Nat):D:=.lst (l.map fun(m:Nat)=>D.int (m:Int))
def vw(ms:List (List Nat)):D:=.lst (ms.map jg)
def gP:SpD:=fun ds M R=>∃(ord:List (Str×Str)) (row:List (Str×Int)),ds=[.tup (ord.map aH),.tup (row.map aC)]/\ord.length<=500/\row.length<=24/\R (vw ((List.range row.length).map (mts (cB ord) row))) M
theorem xp{n i m:Nat}(h:m∈nE n i):m<n:=by
 unfold nE at h;obtain⟨k,hk,rfl⟩:=List.mem_map.mp h;have:=List.mem_range.mp hk
 lia
theorem EM{i n:Nat}(h:i<n):szR ((i:Int)+1) n 2=(n-i) / 2:=by
 unfold szR Builtin.Range.rangeSize;simp
 lia
theorem tu{i n:Nat}(h:i<n):gC ((i:Int)+1) 2 (szR ((i:Int)+1) n 2)=(nE n i).map fun(m:Nat)=>D.int (m:Int):=by
 rw[EM h];unfold gC nE;rw[List.map_map];apply List.map_congr_left;intro k _;simp;lia
theorem lL(F:Fun K "mates_in" "mates_in" cg f fd) (T:Txt mg) (Y9:FnD P w K mg base "cancel" 4 3 eR):bo P w K mg base CX0 5 f fd ["order","row"] (spD K 2 gP):=by
 have nd:=gd.nd;refine F.okR rfl gd (fun cdv A outer s H E hr=>⟨_,(am (aS (i:=2) nd rfl (Or.inr rfl) (aB bY rfl T.b_len (by kernel_rfl) (ae (af 1) ai)))
   (ar (bu (zO (ms:=[true,true,true]) (ag:=["at"]) (kG rfl (show eB (aj cg) b7 _ _=true from by decide +kernel)) rfl (bw rfl T.b_range (ae (af 2) ai)) (ou (i:=3) (show(b7++_).Nodup from by decide +kernel) rfl rfl rfl) (fun S _ _ _ _=>bX) (fun S _ _ _ _=>(e9 (ms:=[true,true,false,true]) (ag:=["mate"]) (mQ S (show aO (iw _ (aj cg)) (b7++(["at"]:List Str)) _ _=true from by decide +kernel)) rfl (iu rfl T.b_range (ae (aD aR (af 3) ah) (ae (af 2) (ae ah ai)))) (aF (i:=4) (show((b7++(["at"]:List Str))++_).Nodup from by decide +kernel) rfl rfl) (fun _ _ _ _=>(gF (dO (qd Y9 hr (ae (af 0) (ae (bg a7 (af 1) (af 3) (fun _ _=>rfl)) (ae (bg a7 (af 1) (af 4) (fun _ _=>rfl)) ai))))))) (fun _ _ _ _=>(af 4)))))))),fun ds M R _ hS bk=>?_⟩)
 obtain⟨ord,row,rfl,ho,hl,k⟩:=hS;refine bk ?_;clear bk;walk_at "rd";rw[List.length_map];have hl':(gX 0 (row.length:Int).toNat)=(List.range row.length).map fun(k:Nat)=>D.int (0+(k:Int)):=rfl;rw[hl'];refine⟨by lia,by lia,by rw[List.length_map,List.length_range];exact sz3 _ (by exact Nat.le_trans (by assumption) (by decide)),?_⟩;refine aL (fun(k:Nat)=>D.int (0+(k:Int))) (fun _=>true) (fun i=>jg (mts (cB ord) row i)) (fun Δ=>∃x,Δ=[some (D.tup (ord.map aH)),some (D.tup (row.map aC)),some (D.int row.length),x]) _ _ _ (fun i hi Δ hΔ=>?_) ⟨none,rfl⟩ ?_
 ·obtain⟨x,rfl⟩:=hΔ;have hi':=List.mem_range.mp hi;refine⟨_,rfl,⟨_,rfl⟩,fun Q1 q=>q,fun _ Q2 q=>?_⟩;rw[Int.zero_add];walk_at "rd";refine⟨_,_,_,⟨rfl,rfl,rfl⟩,Or.inl rfl,⟨by lia,by lia,by lia,by lia⟩,?_⟩;rw[tu hi'];refine⟨by rw[List.length_map];unfold nE;rw[List.length_map,List.length_range];exact sz3 _ (by lia),?_⟩;refine aL (fun(m:Nat)=>D.int (m:Int)) (fun m=>cB ord (sg row i) (sg row m)) (fun(m:Nat)=>D.int (m:Int)) (fun Δ=>∃x,Δ=[some (D.tup (ord.map aH)),some (D.tup (row.map aC)),none,some (D.int i),x]) _ _ _ (fun m hm Δ hΔ=>?_) ⟨none,rfl⟩ q;obtain⟨y,rfl⟩:=hΔ;have hm':m<row.length:=xp hm;refine⟨_,rfl,⟨_,rfl⟩,fun Q1 q1=>?_,fun _ Q2 q2=>?_⟩
  ·walk_at "rd";refine⟨_,mB hi',_,mB hm',?_⟩;exact pd.mpr ⟨ho,_,rfl,q1⟩
  ·walk_at "rd";exact q2
 ·rw[List.nil_append,List.filter_eq_self.mpr (fun _ _=>rfl)];have e:(List.range row.length).map (fun i=>jg (mts (cB ord) row i))=((List.range row.length).map (mts (cB ord) row)).map jg:=by rw[List.map_map];rfl
  rw[e];exact k
def jI:SpD:=fun ds M R=>∃(ms:List (List Nat)) (p:Addr) (kvs:List (List Key×D)) (b e:Nat) (C:Nat->Nat->Nat),ds=[vw ms,.ref p,.int b,.int e]/\M p=some (.dT kvs) /\
 ∃hb:b<ms.length,(∀m∈ms[b],m<e->bp kvs [.inl ((b:Int)+1),.inl (m:Int)]=some (.int (C (b+1) m))/\bp kvs [.inl ((m:Int)+1),.inl (e:Int)]=some (.int (C (m+1) e))/\Few (C (b+1) m:Nat)/\Few (C (m+1) e:Nat))/\ms[b].length<=1000 /\
 R (.lst ((ms[b].filter fun m=>decide (m<e)).map fun(m:Nat)=>pD ((m:Int),(C (b+1) m*C (m+1) e:Nat)))) M
theorem o9(F:Fun K "splits" "splits" eK f fd) (T:Txt mg) :bo P w K mg base CX0 1 f fd ["mates","counts","begin","end"] (spD K 4 jI):=by
 have nd:=jc.nd;refine F.okR rfl jc (fun cdv A outer s H E hr=>⟨_,(ar (bu (e9 (ms:=[false,true,true,true]) (ag:=["mate"]) (aG rfl (show aO (aj eK) gh _ _=true from by decide +kernel)) rfl (bI (bg a7 (af 0) (af 2) (fun _ _=>rfl))) (aF (i:=4) (show(gh++_).Nodup from by decide +kernel) rfl rfl) (fun _ _ _ _=>(gF (aQ wc (af 4) (af 3) nbh))) (fun _ _ _ _=>(cY (ae (af 4) (ae (aD vn (jz hr.units1 (af 1) (ae (aD aR (af 2) ah) (ae (af 4) ai)) (fun _ _=>rfl)) (jz hr.units1 (af 1) (ae (aD aR (af 4) ah) (ae (af 3) ai)) (fun _ _=>rfl))) ai))))))),fun ds M R _ hS bk=>?_⟩);obtain⟨ms,p,kvs,b,e,C,rfl,hM,hb,hC,hlb,k⟩:=hS;refine bk ?_;clear bk;walk_at "rd";have e1:ixD (rdM M (vw ms)) (D.int b)=some (jg ms[b]):=by
  show atI (ms.map jg) (b:Int)=_;exact cC (by rw[List.getElem?_map,List.getElem?_eq_getElem hb];rfl)
 refine⟨_,e1,_,rfl,fun hz=>⟨hz,?_⟩⟩;refine aL (fun(m:Nat)=>D.int (m:Int)) (fun m=>decide (m<e)) (fun(m:Nat)=>pD ((m:Int),(C (b+1) m*C (m+1) e:Nat))) (fun Δ=>∃x,Δ=[none,some (D.ref p),some (D.int b),some (D.int e),x]) _ _ _ (fun m hm Δ hΔ=>?_) ⟨none,rfl⟩ ?_
 ·obtain⟨x,rfl⟩:=hΔ;refine⟨_,rfl,⟨_,rfl⟩,fun Q1 q=>?_,fun hme Q2 q=>?_⟩
  ·walk_at "rd";have:decide ((m:Int)<(e:Int))=decide (m<e):=by simp
   rw[this];exact q
  ·obtain⟨c1,c2,c3,c4⟩:=hC m hm (by simpa using hme);walk_at "rd";simp only[hM];walk_at "rd";simp only[c1,c2];walk_at "rd";have hcm:jf (C (b+1) m:Int) (C (m+1) e:Int)=True:=CQ ⟨c3,c4⟩;simp only[hcm];walk_at "rd";refine⟨sz3 2,sz3 2,sz3 2,?_⟩;rw[Int.natCast_mul]at q;exact q
 ·exact k
theorem eM{α:Type}{p:α->Bool}{g:α->Nat}:∀{l:List α},((l.filter p).map g).sum=(l.map fun x=>if p x=true then g x else 0).sum
 |[]=>rfl
 |x::l=>by
  cases h:p x with
  |true=>rw[List.filter_cons_of_pos h];simp[h,eM (l:=l)]
  |false=>rw[List.filter_cons_of_neg (by simp[h])];simp[h,eM (l:=l)]
theorem fK{f:Nat->Nat}{a:Nat}:∀{d:Nat},(∀k,a<=k->k<a+d->f k=0)->((List.range (a+d)).map f).sum=((List.range a).map f).sum
 |0,_=>rfl
 |d+1,h=>by
  rw[<-Nat.add_assoc,List.range_succ,List.map_append,List.sum_append,fK (d:=d) fun k h1 h2=>h k h1 (by exact Nat.le_succ_of_le (by assumption))];simp[h (a+d) (by lia) (by exact Nat.le_refl _)]
theorem pj{f:Nat->Nat}:∀(L:Nat),(∀k,k<L->k % 2=1->f k=0)->((List.range L).map f).sum=((List.range ((L+1) / 2)).map fun j=>f (2*j)).sum
 |0,_=>rfl
 |1,_=>by simp
 |L+2,h=>by
  rw[List.range_succ,List.range_succ,List.map_append,List.map_append,List.sum_append,List.sum_append,pj L fun k h1 h2=>h k (by lia) h2];rw[show(L+2+1) / 2=(L+1) / 2+1 by lia,List.range_succ,List.map_append,List.sum_append];simp only[List.map_cons,List.map_nil,List.sum_cons,List.sum_nil,Nat.add_zero]
  by_cases e:L % 2=1
  ·rw[h L (by lia) e,show 2*((L+1) / 2)=L+1 by lia];lia
  ·rw[h (L+1) (by exact Nat.le_refl _) (by lia),show 2*((L+1) / 2)=L by lia];lia
theorem kL{σ:Type}(d:σ):∀(xs:List σ),gg xs=(List.range xs.length).map fun k=>(xs.take k,xs.getD k d,xs.drop (k+1))
 |[]=>rfl
 |x::xs=>by
  rw[gg,kL d xs,List.length_cons,List.range_succ_eq_map,List.map_cons,List.map_map,List.map_map];rfl
def seg(row:List (Str×Int)) (b e:Nat):List (Str×Int):=(row.drop b).take (e-b)
theorem cA{row:List (Str×Int)}{b e:Nat}(h:e<=row.length):(seg row b e).length=e-b:=by
 unfold seg;rw[List.length_take,List.length_drop];lia
theorem gL{row:List (Str×Int)}{b:Nat}:seg row b b=[]:=by unfold seg;simp
theorem n5{row:List (Str×Int)}:seg row 0 row.length=row:=by unfold seg;simp
theorem kN{row:List (Str×Int)}{b e:Nat}(h:b<e) (he:e<=row.length):seg row b e=sg row b::seg row (b+1) e:=by
 unfold seg;have hb:b<row.length:=by exact Nat.lt_of_lt_of_le (by assumption) (by assumption)
 rw[List.drop_eq_getElem_cons hb,show e-b=(e-(b+1))+1 by lia,List.take_succ_cons];simp[sg,hb]
theorem oK{row:List (Str×Int)}{b e k:Nat}(h:b+k<=e):(seg row b e).take k=seg row b (b+k):=by
 unfold seg;rw[List.take_take,Nat.min_eq_left (by lia),show b+k-b=k by lia]
theorem pI{row:List (Str×Int)}{b e k:Nat}:(seg row b e).drop k=seg row (b+k) e:=by
 unfold seg;rw[List.drop_take,List.drop_drop,show e-b-k=e-(b+k)by lia]
theorem Ae{row:List (Str×Int)}{b e k:Nat}(h:b+k<e):(seg row b e).getD k ("",0)=sg row (b+k):=by
 unfold seg sg;rw[List.getD_eq_getElem?_getD,List.getElem?_take,if_pos (by lia),List.getElem?_drop,List.getD_eq_getElem?_getD]
section
variable{R:Str×Int->Str×Int->Bool}{row:List (Str×Int)}
theorem zS{b e:Nat}(h:b<e) (he:e<=row.length):W R (seg row b e)=((List.range ((e-b) / 2)).map fun j=>if R (sg row b) (sg row (b+1+2*j))=true then W R (seg row (b+1) (b+1+2*j))*W R (seg row (b+1+2*j+1) e)else 0).sum:=by
 rw[kN h he,fc,kL (σ:=Str×Int) ("",0),List.map_map,cA he];have e1:((List.range (e-(b+1))).map ((fun c=>if R (sg row b) c.2.1=true then W R c.1*W R c.2.2 else 0)∘fun k=>((seg row (b+1) e).take k,(seg row (b+1) e).getD k ("",0),(seg row (b+1) e).drop (k+1)))).sum
  =((List.range (e-(b+1))).map fun k=>if R (sg row b) (sg row (b+1+k))=true then W R (seg row (b+1) (b+1+k))*W R (seg row (b+1+k+1) e)else 0).sum:=by
  congr 1;apply List.map_congr_left;intro k hk;have hk':=List.mem_range.mp hk;simp only[Function.comp_def];rw[Ae (by lia),oK (by lia),pI];rfl
 rw[e1,pj _ fun k hk ho=>?_,show(e-(b+1)+1) / 2=(e-b) / 2 by lia]
 by_cases c:R (sg row b) (sg row (b+1+k))=true
 ·rw[if_pos c,me _ (seg row (b+1) (b+1+k)) (Nat.le_refl _) (by rw[cA (by lia)];lia),Nat.zero_mul]
 ·rw[if_neg c]
theorem yg{b e:Nat}(h:b<e) (he:e<=row.length):(((mts R row b).filter fun m=>decide (m<e)).map fun m=>W R (seg row (b+1) m)*W R (seg row (m+1) e)).sum=W R (seg row b e):=by
 rw[zS h he,eM];unfold mts;rw[eM];unfold nE;rw[List.map_map];rw[show(row.length-b) / 2=(e-b) / 2+((row.length-b) / 2-(e-b) / 2)by lia,fK fun k h1 h2=>?_]
 ·congr 1;apply List.map_congr_left;intro k hk;have hk':=List.mem_range.mp hk;simp only[Function.comp_def];rw[if_pos (show decide (b+1+2*k<e)=true by simp;lia)]
 ·simp only[Function.comp_def];rw[if_neg (show ¬ decide (b+1+2*k<e)=true by simp;lia),ite_self]
end
def tab(R:Str×Int->Str×Int->Bool) (row:List (Str×Int)) (L j b e:Nat):Option D:=if b<=e/\e<=row.length/\(e-b) % 2=0/\(e-b<L∨(e-b=L/\b<j))then some (.int (W R (seg row b e):Nat))else none
def Tab(R:Str×Int->Str×Int->Bool) (row:List (Str×Int)) (L j:Nat) (kvs:List (List Key×D)):Prop:=∀b e:Nat,bp kvs [.inl (b:Int),.inl (e:Int)]=tab R row L j b e
def il(kvs:List (List Key×D)):Prop:=(kvs.map (·.1)).Nodup/\∀x∈kvs,∃(b e:Nat) (v:Int),x=([.inl (b:Int),.inl (e:Int)],.int v)
theorem il.nil:il []:=⟨by simp,fun x h=>absurd h (by simp)⟩
theorem il.put{kvs:List (List Key×D)}{b e:Nat}{v:Int}(h:il kvs):il (dR kvs [.inl (b:Int),.inl (e:Int)] (.int v)):=by
 unfold dR
 split
 ·refine⟨?_,fun x hx=>?_⟩
  ·rw[List.map_map];have e1:((fun x:List Key×D=>x.1)∘fun kv:List Key×D=>if kv.1=[Sum.inl (b:Int),Sum.inl (e:Int)]then(kv.1,D.int v)else kv)=fun x=>x.1:=by
    funext kv;simp only[Function.comp_def]
    split<;>rfl
   rw[e1];exact h.1
  ·obtain⟨y,hy,rfl⟩:=List.mem_map.mp hx;obtain⟨b',e',v',rfl⟩:=h.2 y hy
   split
   ·exact⟨_,_,_,rfl⟩
   ·exact⟨_,_,_,rfl⟩
 ·rename_i hn;refine⟨?_,fun x hx=>?_⟩
  ·rw[List.map_append,List.nodup_append];refine⟨h.1,by simp,fun u hu w hw=>?_⟩;obtain rfl:w=[Sum.inl (b:Int),Sum.inl (e:Int)]:=by simpa using hw
   rintro rfl;obtain⟨y,hy,ey⟩:=List.mem_map.mp hu;exact hn (List.any_eq_true.mpr ⟨y,hy,by simpa using ey⟩)
  ·rcases List.mem_append.mp hx with z|z
   ·exact h.2 x z
   ·exact⟨b,e,v,by simpa using z⟩
def du:SpD:=fun ds M Q=>∃(R:Str×Int->Str×Int->Bool) (row:List (Str×Int)),ds=[vw ((List.range row.length).map (mts R row))]/\row.length<=24 /\
 ∀p kvs,M p=none->Tab R row (row.length+1) 0 kvs->il kvs/\kvs.length<=325->Q (.ref p) (au M p (.dT kvs))
theorem iS{R:Str×Int->Str×Int->Bool}{row:List (Str×Int)}{L j L' j' b e:Nat}(h:∀d,d=e-b->b+d<=row.length->d % 2=0->((d<L∨(d=L/\b<j))↔(d<L'∨(d=L'/\b<j')))):tab R row L j b e=tab R row L' j' b e:=by
 unfold tab;have q:b<=e->e<=row.length->b+(e-b)<=row.length:=fun h1 h2=>by rw[Nat.add_sub_cancel' h1];exact h2
 exact ite_congr (propext ⟨fun⟨x,y,z,d⟩=>⟨x,y,z,(h _ rfl (q x y) z).mp d⟩,fun⟨x,y,z,d⟩=>⟨x,y,z,(h _ rfl (q x y) z).mpr d⟩⟩) (fun _=>rfl) fun _=>rfl
theorem A0{R:Str×Int->Str×Int->Bool}{row:List (Str×Int)}{L b:Nat}(h1:b+L<=row.length) (h2:L % 2=0):tab R row L (b+1) b (b+L)=some (.int (W R (seg row b (b+L)):Nat)):=by
 unfold tab;have e:b+L-b=L:=Nat.add_sub_cancel_left ..;exact if_pos ⟨Nat.le_add_right _ _,h1,by rw[e];exact h2,.inr ⟨e,Nat.lt_succ_self b⟩⟩
theorem fC{b e b' e':Nat}:([Sum.inl (b:Int),Sum.inl (e:Int)]:List Key)=[Sum.inl (b':Int),Sum.inl (e':Int)]↔b=b'/\e=e':=by
 simp only[List.cons.injEq,Sum.inl.injEq,and_true,Int.natCast_inj]
theorem o7{α:Type}{f:α->Nat}:∀{l:List α},(l.map fun x=>((f x:Nat):Int)).sum=(((l.map f).sum:Nat):Int)
 |[]=>rfl
 |x::l=>by simp only[List.map_cons,List.sum_cons,o7 (l:=l),Int.natCast_add]
theorem yC{R:Str×Int->Str×Int->Bool}{row:List (Str×Int)}{i m:Nat}(h:m∈mts R row i):i+1<=m/\m<row.length/\(m-i) % 2=1:=by
 unfold mts nE at h;obtain⟨k,hk,rfl⟩:=List.mem_map.mp (List.mem_filter.mp h).1;have:=List.mem_range.mp hk
 lia
theorem zd{R:Str×Int->Str×Int->Bool}{row:List (Str×Int)}{i:Nat}:(mts R row i).length<=row.length:=by
 unfold mts;refine Nat.le_trans (List.length_filter_le _ _) ?_;unfold nE;rw[List.length_map,List.length_range]
 lia
theorem rC{R:Str×Int->Str×Int->Bool}{xs:List (Str×Int)}(h:xs.length<=24):Few (W R xs:Nat):=by
 have h1:=CK (R:=R) 24 xs h (by decide);have h2:(100:Nat) ^ xs.length<=100 ^ 24:=Nat.pow_le_pow_right (by decide) h;have h3:W R xs<10 ^ 60:=Nat.lt_of_le_of_lt (Nat.le_trans h1 h2) (by decide);exact A1 (by lia) (by lia)
theorem sE{p:Addr}{M:DH}{Q:DH->Prop}:∀(k done:Nat) (x:Option D) (kvs:List (List Key×D)),(∀b e:Nat,bp kvs [.inl (b:Int),.inl (e:Int)]=if b=e/\b<done then some (.int 1)else none)->kvs.length<=done->il kvs->done+k<=100 ->
  (∀kvs',(∀b e:Nat,bp kvs' [.inl (b:Int),.inl (e:Int)]=if b=e/\b<done+k then some (.int 1)else none)->kvs'.length<=done+k->il kvs'->Q (au M p (.dT kvs'))) ->
  j6 (aV 6) (sJ (kS 6) (sJ (kS 6) Bv)) (dC (D.int 1)) p ((List.range' done k).map fun(j:Nat)=>D.int (0+(j:Int))) [none,none,none,none,none,none,x] (au M p (.dT kvs)) Q
 |0,done,x,kvs,h,hl,hk,hz,q=>by simpa[j6]using q kvs h hl hk
 |k+1,done,x,kvs,h,hl,hk,hz,q=>by
  rw[List.range'_succ,List.map_cons];simp only[j6];refine⟨_,rfl,?_⟩;rw[Int.zero_add];walk_at "rd";refine⟨sz3 2,Nat.lt_of_lt_of_le (by lia:kvs.length<1000) (sz3 1000),?_⟩;refine sE k (done+1) _ _ (fun b e=>?_) (Nat.le_trans (bZ _ _ _) (by lia)) hk.put (by lia) fun kvs' h' hl' hk'=>q kvs' (fun b e=>by rw[h' b e,show done+1+k=done+(k+1)by lia]) (by lia) hk';rw[fH,h b e]
  by_cases c:b=done/\e=done
  ·rw[if_pos (fC.mpr c),if_pos (by lia)]
  ·rw[if_neg (fun z=>c (fC.mp z))]
   by_cases g:b=e/\b<done
   ·rw[if_pos g,if_pos (by lia)]
   ·rw[if_neg g,if_neg (by lia)]
theorem fW(F:Fun K "stretch_counts" "stretch_counts" bh f fd) (T:Txt mg) (Y8:FnD P w K mg base "splits" 1 4 jI):bo P w K mg base CX0 2 f fd ["mates"] (spD K 1 du):=by
 have nd:=cQ.nd;refine F.okR rfl cQ (fun cdv A outer s H E hr=>⟨_,(am (aS (i:=1) nd rfl (Or.inl rfl) (aB bY rfl T.b_len (by kernel_rfl) (ae (af 0) ai)))
   (am (zg (i:=2) (ms:=[false,false,false,false,false,false]) (ag:=["at"]) hr.units0 nd rfl rfl rfl (aG (n0:=0) rfl (show aO (aj bh) aT _ _=true from by decide +kernel)) rfl (bw rfl T.b_range (ae (aD aR (af 1) ah) ai)) (aF (i:=6) (show(aT++_).Nodup from by decide +kernel) rfl rfl) (fun _ _ _ _=>(ae (af 6) (ae (af 6) ai))) (fun _ _ _ _=>ah))
   (am (ck PassesOwn.never rfl (iu rfl T.b_range (ae ah (ae (aD aR (af 1) ah) (ae ah ai)))) (aW (i:=3) nd rfl (Or.inl rfl)) (ar (ck PassesOwn.never rfl (bw rfl T.b_range (ae (aD aR (aD pF (af 1) (af 3)) ah) ai)) (aW (i:=4) nd rfl (Or.inl rfl)) (am (aS (i:=5) nd rfl (Or.inl rfl) (aD aR (af 4) (af 3)))
   (ar (nL hr.units1 (af 2) (ae (af 4) (ae (af 5) ai)) (aB (uY rfl) rfl T.b_sum (by kernel_rfl) (ae (e9 (ms:=[false,false,false,false,false,false]) (ag:=["mate","count"]) (aG (n0:=0) rfl (show aO (aj bh) aT _ _=true from by decide +kernel)) rfl (bI (qd Y8 hr (ae (af 0) (ae (af 2) (ae (af 4) (ae (af 5) ai)))))) (iQ (n:=2) rfl (bV (aF (i:=6) (show(aT++_).Nodup from by decide +kernel) rfl rfl) (bV (aF (i:=7) (show(aT++_).Nodup from by decide +kernel) rfl rfl) iH))) (fun _ _ _ _=>bX) (fun _ _ _ _=>(af 7))) ai))))))))
   (ar (bu (af 2)))))),fun ds M R _ hS bk=>?_⟩)
 obtain⟨r,row,rfl,hl,k⟩:=hS;refine bk ?_;clear bk;simp only[vw];walk_at "rd";simp only[List.length_map,List.length_range];refine⟨by lia,by lia,fun p hp=>?_⟩;have e0:gX 0 ((row.length:Int)+1).toNat=(List.range' 0 (row.length+1)).map fun(j:Nat)=>D.int (0+(j:Int)):=by
  rw[<-List.range_eq_range'];rfl
 rw[e0];refine sE (row.length+1) 0 none [] (fun b e=>by rw[if_neg (by lia)];rfl) (Nat.le_refl _) il.nil (by lia) fun kvs h0 hl0 hk0=>?_;refine⟨_,_,_,⟨rfl,rfl,rfl⟩,Or.inl rfl,⟨by decide,by decide,by lia,by lia⟩,?_⟩;have hsz:szR 2 ((row.length:Int)+1) 2=row.length / 2:=by
  unfold szR Builtin.Range.rangeSize;simp
  lia
 rw[hsz];have hms:∀b,b<row.length->∃hb:b<((List.range row.length).map (mts r row)).length,((List.range row.length).map (mts r row))[b]=mts r row b:=fun b hb=>⟨by simpa using hb,by simp⟩;refine aP (fun i Δ M'=>∃(kvs:List (List Key×D)) (x3 x4 x5:Option D),Δ=[some (D.lst (((List.range row.length).map (mts r row)).map jg)),some (D.int row.length),some (D.ref p),x3,x4,x5]/\M'=au M p (.dT kvs)/\Tab r row (2+2*i) 0 kvs/\kvs.length<=25+25*i/\il kvs)
  ⟨kvs,none,none,none,rfl,rfl,fun b e=>?_,by lia,hk0⟩ ?_ ?_
 ·rw[h0 b e];unfold tab
  by_cases c:b=e/\b<0+(row.length+1)
  ·rw[if_pos c,if_pos (by lia),c.1,gL,gJ];rfl
  ·rw[if_neg c,if_neg (by lia)]
 ·intro i d Δ M' X hd hI' k';refine shr fun _ bk=>?_;obtain⟨kvs,x3,x4,x5,rfl,rfl,hT,hkl,hki⟩:=hI';refine bk ?_;clear bk;obtain⟨hi,rfl⟩:=fA hd;have eL:(2:Int)+(i:Int)*2=((2+2*i:Nat):Int):=by lia
  rw[eL];generalize hL:2+2*i=L at *
  have hLn:L<=row.length:=by lia
  simp only[aV];walk_at "rd";refine⟨by lia,by lia,?_⟩;have e1:((row.length:Int)-(L:Int)+1).toNat=row.length-L+1:=by lia
  rw[e1];refine aP (fun j Δ M'=>∃(kvs:List (List Key×D)) (x4 x5:Option D),Δ=[some (D.lst (((List.range row.length).map (mts r row)).map jg)),some (D.int row.length),some (D.ref p),some (D.int L),x4,x5]/\M'=au M p (.dT kvs)/\Tab r row L j kvs/\kvs.length<=25+25*i+j/\il kvs)
   ⟨kvs,_,_,rfl,rfl,hT,hkl,hki⟩ ?_ ?_
  ·intro j d Δ M' X' hd2 hI' k2;refine shr fun _ bk=>?_;obtain⟨kvs,x4,x5,rfl,rfl,hT,hkl,hki⟩:=hI';refine bk ?_;clear bk;obtain⟨hj,rfl⟩:=eE hd2;rw[Int.zero_add];simp only[aV];walk_at "rd";have ej:(j:Int)+(L:Int)=((j+L:Nat):Int):=by lia
   rw[ej];obtain⟨hb,em⟩:=hms j (by lia);refine⟨_,p,kvs,j,j+L,fun b e=>W r (seg row b e),rfl,aq,hb,?_,?_,?_⟩
   ·intro m hm hme;rw[em]at hm;obtain⟨m1,m2,m3⟩:=yC hm;refine⟨?_,?_,rC (by rw[cA (by exact Nat.le_of_lt (by assumption))];lia),rC (by rw[cA (by lia)];lia)⟩
    ·have h:=hT (j+1) m;rw[Int.natCast_add]at h;refine h.trans ?_;unfold tab;rw[if_pos (by lia)]
    ·have h:=hT (m+1) (j+L);rw[Int.natCast_add]at h;refine h.trans ?_;unfold tab;rw[if_pos (by lia)]
   ·rw[em];exact Nat.le_trans zd (by exact Nat.le_trans (by assumption) (by decide))
   ·rw[em];refine⟨_,rfl,fun hz=>⟨hz,?_⟩⟩;refine aL (fun(m:Nat)=>pD ((m:Int),(W r (seg row (j+1) m)*W r (seg row (m+1) (j+L)):Nat))) (fun _=>true) (fun(m:Nat)=>D.int (W r (seg row (j+1) m)*W r (seg row (m+1) (j+L)):Nat)) (fun Δ=>∃x y,Δ=[none,none,none,none,none,none,x,y]) _ _ _ (fun m hm Δ hΔ=>?_) ⟨none,none,rfl⟩ ?_
    ·obtain⟨x,y,rfl⟩:=hΔ;refine⟨_,rfl,⟨_,_,rfl⟩,fun Q1 q=>q,fun _ Q2 q=>?_⟩;walk_at "rd";exact q
    ·rw[List.nil_append,List.filter_eq_self.mpr (fun _ _=>rfl)];have es:vt (.lst (((mts r row j).filter fun m=>decide (m<j+L)).map fun(m:Nat)=>D.int (W r (seg row (j+1) m)*W r (seg row (m+1) (j+L)):Nat)))=some (.int (W r (seg row j (j+L)):Nat)):=by
      rw[<-yg (show j<j+L by lia) (show j+L<=row.length by lia),<-o7,<-qD,List.map_map];rfl
     refine⟨_,es,sz3 2,kvs,aq,Nat.lt_of_lt_of_le (by lia:kvs.length<16000000) (szB 16000000),?_⟩;rw[aN];refine k2 _ _ ⟨_,_,_,rfl,rfl,fun b e=>?_,Nat.le_trans (bZ _ _ _) (by lia),hki.put⟩;rw[fH,hT b e]
     by_cases c:b=j/\e=j+L
     ·rw[if_pos (fC.mpr c)];obtain⟨rfl,rfl⟩:=c;exact(A0 (by lia) (by lia)).symm
     ·rw[if_neg (fun z=>c (fC.mp z))];exact iS fun d hd _ _=>or_congr_right (and_congr_right fun h=>⟨fun h'=>Nat.lt_succ_of_lt h',fun h'=>Nat.lt_of_le_of_ne (Nat.le_of_lt_succ h') fun z=>c ⟨z,by clear c;lia⟩⟩)
  ·intro Δ M' hI';refine shr fun _ bk=>?_;obtain⟨kvs,x4,x5,rfl,rfl,hT,hkl,hki⟩:=hI';refine bk ?_;clear bk;have e2:(gX 0 (row.length-L+1)).length=row.length-L+1:=by simp[gX]
   rw[e2]at hT hkl;refine k' _ _ ⟨kvs,_,_,_,rfl,rfl,fun b e=>?_,by lia,hki⟩;rw[hT b e];refine iS fun d hd hb h2=>⟨fun h=>.inl ?_,fun h=>?_⟩
   ·rcases h with h|⟨h,_⟩<;>lia
   ·rcases h with h|⟨_,h⟩
    ·rcases Nat.lt_or_ge d L with z|z
     ·exact .inl z
     ·have hdL:d=L:=by clear hd;lia
      exact .inr ⟨hdL,by clear hd h2 h;lia⟩
    ·exact absurd h (Nat.not_lt_zero _)
 ·intro Δ M' hI';refine shr fun _ bk=>?_;obtain⟨kvs,x3,x4,x5,rfl,rfl,hT,hkl,hki⟩:=hI';refine bk ?_;clear bk;walk_at "rd";have e2:(gC 2 2 (row.length / 2)).length=row.length / 2:=by simp[gC]
  rw[e2]at hT hkl;refine k p kvs hp (fun b e=>?_) ⟨hki,by lia⟩;rw[hT b e];refine iS fun d hd hb h2=>⟨fun h=>.inl (Nat.lt_succ_of_le (Nat.le_trans (Nat.le_add_left _ _) hb)),fun h=>.inl (by clear hd h hkl;lia)⟩
def eW:SpD:=fun ds M Q=>∃(R:Str×Int->Str×Int->Bool) (row:List (Str×Int)) (p:Addr) (kvs:List (List Key×D)),ds=[.ref p,.tup (row.map aC)]/\M p=some (.dT kvs)/\row.length<=24/\Tab R row (row.length+1) 0 kvs/\Q (.int (W R row:Nat)) M
theorem iK(F:Fun K "whole_count" "whole_count" cK f fd) (T:Txt mg) :bo P w K mg base CX0 1 f fd ["counts","row"] (spD K 2 eW):=by
 have nd:=eF.nd;refine F.okR rfl eF (fun cdv A outer s H E hr=>⟨_,(ar (bu (yt hr.units1 (af 0) (ae ah (ae (aB bY rfl T.b_len (by kernel_rfl) (ae (af 1) ai)) ai)) ah ⟨rfl,rfl,rfl,rfl⟩))),fun ds M R _ hS bk=>?_⟩);obtain⟨r,row,p,kvs,rfl,hM,hl,hT,k⟩:=hS;refine bk ?_;clear bk;walk_at "rd";refine⟨kvs,hM,sz3 2,kvs,hM,?_⟩;rw[List.length_map];have h:=hT 0 row.length;have e:tab r row (row.length+1) 0 0 row.length=if row.length % 2=0 then some (.int (W r row:Nat))else none:=by
  unfold tab;rw[n5]
  by_cases c:row.length % 2=0
  ·rw[if_pos c,if_pos (by lia)]
  ·rw[if_neg c,if_neg (by lia)]
 have h':bp kvs [Sum.inl 0,Sum.inl (row.length:Int)]=_:=h.trans e;rw[h']
 by_cases c:row.length % 2=0
 ·rw[if_pos c];exact k
 ·rw[if_neg c];rw[me _ row (Nat.le_refl _) (by lia)]at k;exact k
def sw(ord:List (Str×Str)):List (Str×Str):=ord++ord.map fun y=>(y.2,y.1)
def dX:SpD:=fun ds M R=>∃(ord:List (Str×Str)) (a:Str),ds=[.tup (ord.map aH),.str a]/\ord.length<=200/\∀L:List Str,L.length<=401->(∀x,x∈L↔aX (sw ord) a x)->R (.lst (L.map .str)) M
theorem gQ(F:Fun K "hanging_with" "hanging_with" bQ f fd) (T:Txt mg) (G1:FnD P w K mg base "reached_from" 1 2 cp):bo P w K mg base CX0 2 f fd ["order","mark"] (spD K 2 dX):=by
 have nd:=dG.nd;refine F.okR rfl dG (fun cdv A outer s H E hr=>⟨_,(ar (bu (qd G1 hr (ae (aD aR (af 0) (dY ig rfl T.b_tuple (by kernel_rfl) (ae (e9 (ms:=[false,false]) (ag:=["low","high"]) (aG (n0:=0) rfl (show aO (aj bQ) bO _ _=true from by decide +kernel)) rfl (bI (af 0)) (iQ (n:=2) rfl (bV (aF (i:=2) (show(bO++_).Nodup from by decide +kernel) rfl rfl) (bV (aF (i:=3) (show(bO++_).Nodup from by decide +kernel) rfl rfl) iH))) (fun _ _ _ _=>bX) (fun _ _ _ _=>(cY (ae (af 3) (ae (af 2) ai))))) ai))) (ae (af 1) ai))))),fun ds M R _ hS bk=>?_⟩);obtain⟨ord,a,rfl,ho,k⟩:=hS;refine bk ?_;clear bk;walk_at "rd";refine fun hz=>⟨hz,aL aH (fun _=>true) (fun y=>aH (y.2,y.1)) (fun Δ=>∃x y,Δ=[none,none,x,y]) _ _ _ (fun y hy Δ hΔ=>?_) ⟨none,none,rfl⟩ ?_⟩
 ·obtain⟨x,z,rfl⟩:=hΔ;refine⟨_,rfl,⟨_,_,rfl⟩,fun Q1 q=>q,fun _ Q2 q=>?_⟩;walk_at "rd";exact⟨sz3 2,q⟩
 ·rw[List.nil_append,List.filter_eq_self.mpr (fun _ _=>rfl)];have e:ord.map (fun y=>aH (y.2,y.1))=(ord.map fun y=>(y.2,y.1)).map aH:=by rw[List.map_map];rfl
  rw[e,<-List.map_append,List.length_map,List.length_map,List.length_map];refine⟨_,if_pos (sz3 _ (by lia)),_,a,rfl,by simp;lia,fun L h1 h2 h3 hL=>k L ?_ fun x=>⟨h3 x,eC h1 h2⟩⟩;simp at hL;lia
def hs(ord:List (Str×Str)) (row:List (Str×Int)) (a:Str):Int:=((row.filter fun y=>rB (sw ord) a y.1).map fun y=>if y.2 % 2=1 then(1:Int)else -1).sum
def iZ:SpD:=fun ds M R=>∃(ord:List (Str×Str)) (a:Str) (L:List Str) (row:List (Str×Int)),ds=[.lst (L.map .str),.tup (row.map aC)]/\L.length<=401/\row.length<=24/\(∀x,x∈L↔aX (sw ord) a x)/\R (.int (hs ord row a)) M
theorem nZ(F:Fun K "surplus" "surplus" dB f fd) (T:Txt mg) :bo P w K mg base CX0 1 f fd ["marks","row"] (spD K 2 iZ):=by
 have nd:=g9.nd;refine F.okR rfl g9 (fun cdv A outer s H E hr=>⟨_,(ar (bu (aB (uY rfl) rfl T.b_sum (by kernel_rfl) (ae (e9 (ms:=[true,false]) (ag:=["mark","turn"]) (aG rfl (show aO (aj dB) dw _ _=true from by decide +kernel)) rfl (bI (af 1)) (iQ (n:=2) rfl (bV (aF (i:=2) (show(dw++_).Nodup from by decide +kernel) rfl rfl) (bV (aF (i:=3) (show(dw++_).Nodup from by decide +kernel) rfl rfl) iH))) (fun _ _ _ _=>(gF (aQ zz (af 2) (af 0) rfl))) (fun _ _ _ _=>(Es (aQ (gq hr.units) (aD ft (af 3) ah) ah nbh) ah (Al AQ ah)))) ai)))),fun ds M R _ hS bk=>?_⟩);obtain⟨ord,a,L,row,rfl,hL,hl,hm,k⟩:=hS;refine bk ?_;clear bk;walk_at "rd";refine fun hz=>⟨hz,aL aC (fun y=>decide (y.1∈L)) (fun y=>D.int (if y.2 % 2=1 then 1 else -1)) (fun Δ=>∃x y,Δ=[some (D.lst (L.map .str)),none,x,y]) _ _ _ (fun y hy Δ hΔ=>?_) ⟨none,none,rfl⟩ ?_⟩
 ·obtain⟨x,z,rfl⟩:=hΔ;refine⟨_,rfl,⟨_,_,rfl⟩,fun Q1 q=>?_,fun _ Q2 q=>?_⟩
  ·walk_at "rd";refine⟨_,if_pos ⟨rfl,jW⟩,_,rfl,?_⟩;rw[iA,Bool.false_xor];exact q
  ·walk_at "rd"
   by_cases c:y.2 % 2=1
   ·rw[if_pos c]at q;rw[if_pos (by simpa using c)];exact q
   ·rw[if_neg c]at q;rw[if_neg (by simpa using c)];exact q
 ·rw[List.nil_append];have e:∀l:List (Str×Int),l.map (fun y=>D.int (if y.2 % 2=1 then 1 else -1))=(l.map fun y=>if y.2 % 2=1 then(1:Int)else -1).map D.int:=fun l=>by rw[List.map_map];rfl
  have e2:(fun y:Str×Int=>decide (y.1∈L))=fun y=>rB (sw ord) a y.1:=by
   funext y;rw[Bool.eq_iff_iff,decide_eq_true_eq,iY,hm]
  rw[e,e2];exact⟨_,qD,k⟩
def fX:SpD:=fun ds M R=>∃(ord:List (Str×Str)) (row:List (Str×Int)) (a:Str),ds=[.tup (ord.map aH),.tup (row.map aC),.str a]/\ord.length<=200/\row.length<=24/\R (.bl (!decide (hs ord row a=0))) M
theorem kQ(F:Fun K "is_uneven" "is_uneven" dQ f fd) (T:Txt mg) (Y6:FnD P w K mg base "surplus" 1 2 iZ) (G5:FnD P w K mg base "hanging_with" 2 2 dX):bo P w K mg base CX0 3 f fd ["order","row","mark"] (spD K 3 fX):=by
 have nd:=fw.nd;refine F.okR rfl fw (fun cdv A outer s H E hr=>⟨_,(ar (bu (fZ (tU hr.units) (qd Y6 hr (ae (qd G5 hr (ae (af 0) (ae (af 2) ai))) (ae (af 1) ai))) ah nbh))),fun ds M R _ hS bk=>?_⟩);obtain⟨ord,row,a,rfl,ho,hl,k⟩:=hS;refine bk ?_;clear bk;walk_at "rd";refine⟨ord,a,rfl,ho,fun L hL hm=>⟨ord,a,L,row,rfl,hL,hl,hm,_,lg,?_⟩⟩;have e:(!(hs ord row a==0))=!decide (hs ord row a=0):=by rfl
 first|exact k|(rw[e];exact k)|(simpa using k)
def nD(x:Nat×Nat):D:=.tup [.int x.1,.int x.2]
def kP(x:Nat×Nat):List KD:=[.int x.1,.int x.2]
theorem nM{x y:Nat×Nat}(h:kP x=kP y):x=y:=by
 obtain⟨a,b⟩:=x;obtain⟨c,d⟩:=y;simp only[kP,List.cons.injEq,KD.int.injEq,Int.natCast_inj,and_true]at h;rw[h.1,h.2]
theorem vp(ps:List (Nat×Nat)):Rws (ps.map kP):=by
 refine⟨fun k hk=>?_,fun a ha b hb=>?_⟩
 ·obtain⟨x,_,rfl⟩:=List.mem_map.mp hk;intro z hz;simp only[kP,List.mem_cons,List.not_mem_nil,or_false]at hz;rcases hz with rfl|rfl<;>simp[dpK]
 ·obtain⟨x,_,rfl⟩:=List.mem_map.mp ha;obtain⟨y,_,rfl⟩:=List.mem_map.mp hb;simp[kP,Cms,Cm]
theorem DF{ks:List (List KD)}(h:∀k∈ks,∃r,k=kP r):∃rs:List (Nat×Nat),ks=rs.map kP:=by
 induction ks with
 |nil=>exact⟨[],rfl⟩
 |cons k ks ih =>
  obtain⟨r,rfl⟩:=h k (.head _);obtain⟨rs,rfl⟩:=ih fun k hk=>h k (.tail _ hk);exact⟨r::rs,rfl⟩
def Clo(R:Str×Int->Str×Int->Bool) (row:List (Str×Int)) (ps:List (Nat×Nat)):Prop:=ps.Nodup/\df (ps.map kP)=ps.map kP/\(∀b e,(b,e)∈ps↔b<=e/\e<=row.length/\0<W R (seg row b e))/\ps.length<=325
def i9:SpD:=fun ds M Q=>∃(ord:List (Str×Str)) (row:List (Str×Int)),ds=[.tup (ord.map aH),.tup (row.map aC)]/\ord.length<=200/\row.length<=24/\(0<W (cB ord) row->Q .non M) /\
 (W (cB ord) row=0->(∀m,¬ hs ord row m=0->Q (.tup [.str "counted",.str m]) M)/\∀ps,Clo (cB ord) row ps->Q (.tup [.str "closed",.tup (ps.map nD)]) M)
def stV(t:(Nat×Nat)×Int):List Key×D:=([.inl (t.1.1:Int),.inl (t.1.2:Int)],.int t.2)
theorem il.list:∀{kvs:List (List Key×D)},(∀x∈kvs,∃(b e:Nat) (v:Int),x=([.inl (b:Int),.inl (e:Int)],.int v))->∃ts:List ((Nat×Nat)×Int),kvs=ts.map stV
 |[],_=>⟨[],rfl⟩
 |x::kvs,h=>by
  obtain⟨b,e,v,rfl⟩:=h x (.head _);obtain⟨ts,rfl⟩:=il.list (kvs:=kvs) fun y hy=>h y (.tail _ hy);exact⟨((b,e),v)::ts,rfl⟩
theorem xy{kvs:List (List Key×D)}(hn:(kvs.map (·.1)).Nodup) {x:List Key×D}(h:x∈kvs):bp kvs x.1=some x.2:=by
 induction kvs with
 |nil=>cases h
 |cons y kvs ih =>
  rw[List.map_cons,List.nodup_cons]at hn;rcases List.mem_cons.mp h with rfl|h
  ·exact br rfl
  ·rw[bt (fun e=>hn.1 (by rw[e];exact List.mem_map_of_mem h)),ih hn.2 h]
theorem xI{kvs:List (List Key×D)}{k:List Key}{d:D}(h:bp kvs k=some d):(k,d)∈kvs:=by
 induction kvs with
 |nil=>cases h
 |cons y kvs ih =>
  by_cases e:y.1=k
  ·rw[br e]at h;cases h;rw[<-e];exact .head _
  ·rw[bt e]at h;exact .tail _ (ih h)
theorem AG{R:Str×Int->Str×Int->Bool}{row:List (Str×Int)}{ts:List ((Nat×Nat)×Int)}(hT:Tab R row (row.length+1) 0 (ts.map stV)) (hn:((ts.map stV).map (·.1)).Nodup) (hl:ts.length<=325) :
  ∃ps,df (((ts.filter fun t=>decide (0<t.2)).map fun t=>t.1).map kP)=ps.map kP/\Clo R row ps:=by
 have hn1:(ts.map fun t=>t.1).Nodup:=by
  rw[List.map_map]at hn;rw[List.nodup_iff_pairwise_ne,List.pairwise_map]at hn ⊢;exact hn.imp fun h e=>h (by simp[stV,e])
 have hmem:∀b e,(b,e)∈((ts.filter fun t=>decide (0<t.2)).map fun t=>t.1)↔b<=e/\e<=row.length/\0<W R (seg row b e):=fun b e=>by
  have h:=hT b e;unfold tab at h;constructor
  ·intro hm;obtain⟨⟨x,v⟩,hx,ex⟩:=List.mem_map.mp hm;obtain⟨h1,h2⟩:=List.mem_filter.mp hx;simp only at ex;subst ex;have hv:=xy hn (List.mem_map_of_mem (f:=stV) h1);simp only[stV]at hv;rw[h]at hv
   split at hv
   ·rename_i c;simp only[Option.some.injEq,D.int.injEq]at hv;have h3:0<v:=by simpa using h2
    exact⟨c.1,c.2.1,by lia⟩
   ·cases hv
  ·intro hI';refine shr fun _ bk=>?_;obtain⟨h1,h2,h3⟩:=hI';refine bk ?_;clear bk;have hev:(e-b) % 2=0:=by
    rcases Nat.mod_two_eq_zero_or_one (e-b)with z|z
    ·exact z
    ·rw[me _ (seg row b e) (Nat.le_refl _) (by rw[cA h2];exact z)]at h3
     lia
   rw[if_pos ⟨h1,h2,hev,.inl (by lia)⟩]at h;obtain⟨t,ht,et⟩:=List.mem_map.mp (xI h);obtain⟨⟨b',e'⟩,v⟩:=t;simp only[stV,Prod.mk.injEq,List.cons.injEq,Sum.inl.injEq,Int.natCast_inj,and_true,D.int.injEq]at et;obtain⟨⟨rfl,rfl⟩,rfl⟩:=et;exact List.mem_map.mpr ⟨_,List.mem_filter.mpr ⟨ht,by simpa using h3⟩,rfl⟩
 have hnd:((ts.filter fun t=>decide (0<t.2)).map fun t=>t.1).Nodup:=hn1.sublist (List.filter_sublist.map _);have hln:((ts.filter fun t=>decide (0<t.2)).map fun t=>t.1).length<=325:=by
  rw[List.length_map];exact Nat.le_trans (List.length_filter_le _ _) hl
 generalize ((ts.filter fun t=>decide (0<t.2)).map fun t=>t.1)=qs at hmem hnd hln;have hp:=gD (qs.map kP);obtain⟨ps,eps⟩:=DF (ks:=df (qs.map kP)) fun k hk=>by
  obtain⟨r,_,rfl⟩:=List.mem_map.mp (hp.mem_iff.mp hk);exact⟨r,rfl⟩
 have hpm:∀x,x∈ps↔x∈qs:=fun x=>by
  have:=hp.mem_iff (a:=kP x);rw[eps]at this;constructor
  ·intro h;obtain⟨r,hr,e2⟩:=List.mem_map.mp (this.mp (List.mem_map_of_mem h));exact nM e2▸hr
  ·intro h;obtain⟨r,hr,e2⟩:=List.mem_map.mp (this.mpr (List.mem_map_of_mem h));exact nM e2▸hr
 refine⟨ps,eps,?_,?_,fun b e=>(hpm _).trans (hmem b e),?_⟩
 ·have h1:(qs.map kP).Nodup:=by
   rw[List.nodup_iff_pairwise_ne,List.pairwise_map];exact(List.nodup_iff_pairwise_ne.mp hnd).imp fun h e=>h (nM e)
  have h2:=hp.nodup_iff.mpr h1;rw[eps,List.nodup_iff_pairwise_ne,List.pairwise_map]at h2;exact List.nodup_iff_pairwise_ne.mpr (h2.imp fun h e=>h (by rw[e]))
 ·rw[<-eps];exact ja hp
 ·have:=hp.length_eq;rw[eps,List.length_map,List.length_map]at this
  lia
theorem ng(F:Fun K "why_not" "why_not" dE f fd) (T:Txt mg) (G3:FnD P w K mg base "stretch_counts" 2 1 du) (Y0:FnD P w K mg base "mates_in" 5 2 gP) (G6:FnD P w K mg base "whole_count" 1 2 eW) (G9:FnD P w K mg base "is_uneven" 3 3 fX):bo P w K mg base CX0 6 f fd ["order","row"] (spD K 2 i9):=by
 have nd:=hV.nd;refine F.okR rfl hV (fun cdv A outer s H E hr=>⟨_,(am (aS (i:=2) nd rfl (Or.inl rfl) (qd G3 hr (ae (qd Y0 hr (ae (af 0) (ae (af 1) ai))) ai)))
   (am (bz (aQ y7 (qd G6 hr (ae (af 2) (ae (af 1) ai))) ah nbh) (ar (bN zY)) aU)
   (am (ck PassesOwn.never rfl (bI (af 1)) (mO rfl (cJ (aW (i:=3) nd rfl (Or.inl rfl)) (cJ (aW (i:=4) nd rfl (Or.inl rfl)) mn))) (ar (bz (dO (qd G9 hr (ae (af 0) (ae (af 1) (ae (af 3) ai))))) (ar (bN (cY (ae oE (ae (af 3) ai))))) aU)))
   (ar (bN (cY (ae oE (ae (dY ig rfl T.b_tuple (by kernel_rfl) (ae (aB (y0 hr.units) rfl T.b_sorted (by kernel_rfl) (ae (e9 (ms:=[false,false,false,false,false]) (ag:=["stretch","count"]) (aG (n0:=0) rfl (show aO (aj dE) dI _ _=true from by decide +kernel)) rfl (uM (af 2)) (iQ (n:=2) rfl (bV (aF (i:=5) (show(dI++_).Nodup from by decide +kernel) rfl rfl) (bV (aF (i:=6) (show(dI++_).Nodup from by decide +kernel) rfl rfl) iH))) (fun _ _ _ _=>(gF (aQ y7 (af 6) ah nbh))) (fun _ _ _ _=>(af 5))) ai)) ai)) ai)))))))),fun ds M R _ hS bk=>?_⟩)
 obtain⟨ord,row,rfl,ho,hl,k0,k1⟩:=hS;refine bk ?_;clear bk;walk_at "rd";refine⟨ord,row,rfl,by exact Nat.le_trans (by assumption) (by decide),by assumption,cB ord,row,rfl,by assumption,fun p kvs hp hT hk=>⟨cB ord,row,p,kvs,rfl,aq,by assumption,hT,_,rfl,_,rfl,?_⟩⟩;refine cF (fun h=>⟨M,eP hp,k0 (by simpa using h)⟩) (fun h hz=>?_);have hW:W (cB ord) row=0:=by
  have:¬ (0:Int)<((W (cB ord) row:Nat):Int):=by simpa using h
  lia
 refine aP (fun i Δ M'=>∃x3 x4:Option D,Δ=[some (D.tup (ord.map aH)),some (D.tup (row.map aC)),some (D.ref p),x3,x4]/\M'=au M p (.dT kvs)) ⟨_,_,rfl,rfl⟩ ?_ ?_
 ·intro i d Δ M' X hd hI' k';refine shr fun _ bk=>?_;obtain⟨x3,x4,rfl,rfl⟩:=hI';refine bk ?_;clear bk;obtain⟨⟨a,t⟩,hy,rfl⟩:=fT hd;simp only[aC,fG,cO,aV,ic,Option.bind_some];refine⟨_,rfl,?_⟩;walk_at "rd";refine⟨ord,row,a,rfl,ho,by assumption,_,rfl,?_⟩;refine cF (fun h=>⟨sz3 2,M,eP hp,(k1 hW).1 a (by simpa using h)⟩) (fun h=>k' _ _ ⟨_,_,rfl,rfl⟩)
 ·intro Δ M' hI';refine shr fun _ bk=>?_;obtain⟨x3,x4,rfl,rfl⟩:=hI';refine bk ?_;clear bk;walk_at "rd";obtain⟨ts,rfl⟩:=il.list hk.1.2;have hlt:ts.length<=325:=by have:=hk.2;simpa using this
  obtain⟨ps,eps,hps⟩:=AG hT hk.1.1 hlt;rw[List.length_map,List.length_map,List.map_map,eh hp];refine⟨sz3 _ (by exact Nat.le_trans (by assumption) (by decide)),aL (fun(t:(Nat×Nat)×Int)=>D.tup [D.tup [D.int t.1.1,D.int t.1.2],D.int t.2]) (fun t=>decide (0<t.2)) (fun t=>nD t.1) (fun Δ=>∃x y,Δ=[none,none,none,none,none,x,y]) ts _ _ (fun t ht Δ hΔ=>?_) ⟨none,none,rfl⟩ ?_⟩
  ·obtain⟨x,y,rfl⟩:=hΔ;refine⟨_,rfl,⟨_,_,rfl⟩,fun Q1 q=>?_,fun _ Q2 q=>?_⟩
   ·walk_at "rd";exact q
   ·walk_at "rd";exact q
  ·rw[List.nil_append];have e:∀l:List ((Nat×Nat)×Int),l.map (fun t=>nD t.1)=((l.map fun t=>t.1).map kP).map bS:=fun l=>by rw[List.map_map,List.map_map];rfl
   rw[e];refine⟨_,vc (vp _),?_⟩;rw[eps];have e2:(ps.map kP).map bS=ps.map nD:=by rw[List.map_map];rfl
   rw[e2];exact⟨_,rfl,sz3 2,M,LeM.refl,(k1 hW).2 ps hps⟩
def mf:SpD:=fun ds M R=>∃p l,ds=[.ref p]/\M p=some (.lst l)/\bA l/\∀(ws:List Str) l',ws≠[]->ws.length<=9->bA l'->R (.lst (ws.map .str)) (au M p (.lst l'))
theorem AH{v:Int}(h0:0<=v) (h1:v<26):∃y:Str,y.length=1/\ixD (.str (Str.ofString "nsabcdefghijklmopqrtuvwxyz")) (.int v)=some (.str y):=by
 obtain⟨n,rfl⟩:=Int.eq_ofNat_of_zero_le h0;have bH:(Str.ofString "nsabcdefghijklmopqrtuvwxyz").cps.toList.length=26:=by decide +kernel
 have hn:n<(Str.ofString "nsabcdefghijklmopqrtuvwxyz").cps.toList.length:=by lia
 refine⟨⟨#[(Str.ofString "nsabcdefghijklmopqrtuvwxyz").cps.toList[n]]⟩,rfl,?_⟩;rw[Eh,if_pos (show(Str.ofString "nsabcdefghijklmopqrtuvwxyz").length<=sizeLine from by decide +kernel),cC (List.getElem?_eq_getElem hn)];rfl
theorem nT{te:TEd}{n:Nat}{S v1:D}{x:Option D}{M:DH}{Q:List D->DH->Prop}(h:∀(i:Nat) (X:D->DH->Prop),i<n->(∀y:Str,X (.str y) M)->te [none,some S,some v1,none,none,some (.int (0+(i:Int)))] M X)
  (q:∀ws:List Str,ws.length=n->Q (ws.map .str) M):cG (aV 5) vQ te (gX 0 n) [none,some S,some v1,none,none,x] M [] Q:=by
 refine kc (fun i acc Δ M'=>∃(x:Option D) (ws:List Str),Δ=[none,some S,some v1,none,none,x]/\M'=M/\acc=ws.map .str/\ws.length=i) ⟨_,[],rfl,rfl,rfl,rfl⟩ ?_ ?_
 ·intro i d acc Δ M' X hd hI' k';refine shr fun _ bk=>?_;obtain⟨x,ws,rfl,rfl,rfl,hw⟩:=hI';refine bk ?_;clear bk;obtain⟨hi,rfl⟩:=eE hd;refine⟨_,rfl,?_⟩;simp only[vQ,if_true];exact h i _ hi fun y=>k' _ _ _ ⟨_,ws++[y],rfl,rfl,by simp,by simp[hw]⟩
 ·intro acc Δ M' hI';refine shr fun _ bk=>?_;obtain⟨x,ws,rfl,rfl,rfl,hw⟩:=hI';refine bk ?_;clear bk;rw[bE]at hw;exact q ws hw
theorem vX{l:List Nat}{v:Int}(h0:0<=v) (h1:v<(l.length:Int)):∃n∈l,ixD (.lst (l.map fun(n:Nat)=>D.int (n:Int))) (.int v)=some (.int ((n:Nat):Int)):=by
 obtain⟨n,rfl⟩:=Int.eq_ofNat_of_zero_le h0;have hn:n<l.length:=by lia
 exact⟨l[n],List.getElem_mem hn,(show atI _ _=_ from cC (by simp[hn]))⟩
theorem t8{c d:Prop} [Decidable c] [Decidable d] {A B:Prop}(hB:B) (hA:A):if c then(if d then A else B)else B:=by
 split
 ·split
  ·exact hA
  ·exact hB
 ·exact hB
theorem qK(F:Fun K "_law_marks" "_law_marks" cX f fd) (T:Txt mg) (G0:FnD P w K mg base "_law_draw" 1 2 dq):bo P w K mg base CX0 2 f fd ["_law_well_here"] (spD K 1 mf):=by
 have nd:=kU.nd;refine F.okR rfl kU (fun cdv A outer s H E hr=>⟨_,(am (aS (i:=1) nd rfl (Or.inr rfl) oE)
   (am (aS (i:=2) nd rfl (Or.inr rfl) (qd G0 hr (ae (af 0) (ae ah ai))))
   (am (aS (i:=3) nd rfl (Or.inl rfl) (bg a7 (ml (ae ah (ae ah (ae ah (ae ah (ae ah (ae ah (ae ah (ae ah ai))))))))) (qd G0 hr (ae (af 0) (ae ah ai))) (fun _ _=>rfl)))
   (am (aS (i:=4) nd rfl (Or.inl rfl) (qd G0 hr (ae (af 0) (ae ah ai))))
   (am (bz (lD (iB (aQ (gq hr.units) (af 4) ah nbh) (ij (aQ wc (af 3) ah nbh)))) (ar (bu (e9 (ms:=[false,true,true,false,false]) (ag:=["_law_k"]) (aG rfl (show aO (aj cX) cv _ _=true from by decide +kernel)) rfl (bw rfl T.b_range (ae (af 3) ai)) (aF (i:=5) (show(cv++_).Nodup from by decide +kernel) rfl rfl) (fun _ _ _ _=>bX) (fun _ _ _ _=>(aD c8 (bg a7 (af 1) (af 2) (fun _ _=>rfl)) (aD aR (af 5) ah)))))) aU)
   (am (bz (aQ (gq hr.units) (af 4) ah nbh) (ar (bu (e9 (ms:=[false,true,true,false,false]) (ag:=["_law_k"]) (aG rfl (show aO (aj cX) cv _ _=true from by decide +kernel)) rfl (bw rfl T.b_range (ae (af 3) ai)) (aF (i:=5) (show(cv++_).Nodup from by decide +kernel) rfl rfl) (fun _ _ _ _=>bX) (fun _ _ _ _=>(bg a7 (af 1) (aD ft (aD aR (af 2) (aD c8 ah (af 5))) ah) (fun _ _=>rfl)))))) aU)
   (ar (bu (e9 (ms:=[false,true,true,false,false]) (ag:=["_law_k"]) (aG rfl (show aO (aj cX) cv _ _=true from by decide +kernel)) rfl (bw rfl T.b_range (ae (af 3) ai)) (aF (i:=5) (show(cv++_).Nodup from by decide +kernel) rfl rfl) (fun _ _ _ _=>bX) (fun _ _ _ _=>(aD aR (bg a7 (af 1) (aD ft (aD aR (af 2) (aD c8 ah (af 5))) ah) (fun _ _=>rfl)) (aD c8 (bg a7 (af 1) (af 2) (fun _ _=>rfl)) ah)))))))))))),fun ds M R _ hS bk=>?_⟩)
 obtain⟨p,l,rfl,hM,hP,k⟩:=hS;refine bk ?_;clear bk;walk_at "rd";refine⟨p,l,26,rfl,hM,hP,by decide,by decide,fun v1 l1 a0 a1 hP1=>?_⟩;walk_at "rd";refine⟨sz3 8,p,l1,8,rfl,aq,hP1,by decide,by decide,fun v2 l2 b0 b1 hP2=>?_⟩;obtain⟨n,hn,en⟩:=vX (l:=[1,2,3,4,2,3,4,9]) b0 (by simpa using b1);have hn1:1<=n/\n<=9:=by
  simp only[List.mem_cons,List.not_mem_nil,or_false]at hn;lia
 refine⟨_,en,?_⟩;rw[aN];walk_at "rd";refine⟨p,l2,3,rfl,aq,hP2,by decide,by decide,fun v3 l3 c0 c1 hP3=>?_⟩;rw[aN];walk_at "rd";have en:(n:Int).toNat=n:=by lia
 rw[en];obtain⟨y1,hy1,e1⟩:=AH a0 a1;have fin:∀ws:List Str,ws.length=n->R (.lst (ws.map .str)) (au M p (.lst l3)):=fun ws hw=>k ws l3 (by rintro rfl;simp at hw;lia) (by lia) hP3;have hz:(gX 0 n).length<=sizeLine:=by rw[bE];exact sz3 _ (by lia)
 refine t8 (cF (fun _=>⟨by lia,by lia,hz,nT (fun i X hi q=>?_) fin⟩) (fun _=>⟨by lia,by lia,hz,nT (fun i X hi q=>?_) fin⟩)) ⟨by lia,by lia,hz,nT (fun i X hi q=>?_) fin⟩
 ·walk_at "rd";obtain⟨y,hy,e⟩:=AH (v:=(v1+3*(0+(i:Int))) % 26) (by lia) (by lia);exact⟨_,e,q y⟩
 ·walk_at "rd";obtain⟨y,hy,e⟩:=AH (v:=(v1+5*(0+(i:Int))) % 26) (by lia) (by lia);refine⟨_,e,_,e1,_,if_pos ⟨by lia,by decide,by decide,by rw[hy1];decide⟩,_,if_pos ?_,q _⟩;have hlm:=len_mul y1 7;simp at hlm;exact sz3 _ (by rw[hy];lia)
 ·walk_at "rd";refine⟨_,e1,?_⟩;walk_at "rd";exact⟨_,if_pos ⟨by lia,by lia,by lia,by rw[hy1];lia⟩,q _⟩
def mw:SpD:=fun ds M R=>∃(p:Addr) (l:List D) (ao:List Str),ds=[.ref p,.lst (ao.map .str)]/\M p=some (.lst l)/\bA l/\ao≠[]/\ao.length<=9 /\
 ∀(ord:List (Str×Str)) l',ord.length<=8->(∀x∈ord,x.1∈ao/\x.2∈ao)->bA l'->R (.tup (ord.map aH)) (au M p (.lst l'))
theorem qt(F:Fun K "_law_order" "_law_order" fQ f fd) (T:Txt mg) (G0:FnD P w K mg base "_law_draw" 1 2 dq):bo P w K mg base CX0 2 f fd ["_law_well_here","_law_marks_here"] (spD K 2 mw):=by
 have nd:=kZ.nd;refine F.okR rfl kZ (fun cdv A outer s H E hr=>⟨_,(am (aS (i:=2) nd rfl (Or.inl rfl) (lu ai))
   (am (bz (aQ (gq hr.units) (aB bY rfl T.b_len (by kernel_rfl) (ae (af 1) ai)) ah nbh) (am (aS (i:=3) nd rfl (Or.inl rfl) (qd G0 hr (ae (af 0) (ae ah ai))))
   (am (ux (i:=2) nd rfl rfl rfl (ms:=[false,true,false,false,false]) (ag:=["_law_k"]) (aG rfl (show aO (aj fQ) iG _ _=true from by decide +kernel)) rfl (bw rfl T.b_range (ae ah ai)) (aF (i:=5) (show(iG++_).Nodup from by decide +kernel) rfl rfl) (fun _ _ _ _=>bX) (fun _ _ _ _=>(cY (ae (bg a7 (af 1) (af 5) (fun _ _=>rfl)) (ae (bg a7 (af 1) (aD aR (af 5) ah) (fun _ _=>rfl)) ai)))))
   (rP 2 (ar (bN (dY ig rfl T.b_tuple (by kernel_rfl) (ae (aD aR (fE (af 2) (fS (af 3)) jA) (fE (af 2) jA (fS (af 3)))) ai))))))) aU)
   (am (ck PassesOwn.never rfl (bw rfl T.b_range (ae (bg a7 (ml (ae ah (ae ah (ae ah (ae ah ai))))) (qd G0 hr (ae (af 0) (ae ah ai))) (fun _ _=>rfl)) ai)) (aW (i:=4) nd rfl (Or.inl rfl)) (ar (vy (zH (af 2) (cY (ae (bg a7 (af 1) (qd G0 hr (ae (af 0) (ae (aB bY rfl T.b_len (by kernel_rfl) (ae (af 1) ai)) ai))) (fun _ _=>rfl)) (ae (bg a7 (af 1) (qd G0 hr (ae (af 0) (ae (aB bY rfl T.b_len (by kernel_rfl) (ae (af 1) ai)) ai))) (fun _ _=>rfl)) ai)))))))
   (ar (bN (dY ig rfl T.b_tuple (by kernel_rfl) (ae (af 2) ai))))))),fun ds M R _ hS bk=>?_⟩)
 obtain⟨p,l,ao,rfl,hM,hP,hm,hml,k⟩:=hS;refine bk ?_;clear bk;walk_at "rd";refine⟨sz3 0,fun q hq=>?_⟩;have hpq:p≠q:=(nn hq hM).symm;have hmp:=List.length_pos_iff.mpr hm;rw[List.length_map];refine cF (fun h9=>?_) (fun h9=>?_)
 ·have h9':ao.length=9:=by
   have:(ao.length:Int)=9:=by simpa using h9
   lia
  refine⟨p,l,8,rfl,by rw[aJ hpq];exact hM,hP,by decide,by decide,fun v l1 h2 h3 hP1=>⟨by rw[bE];exact sz3 8,?_⟩⟩;have em:∀k:Nat,k<9->atI (ao.map D.str) (k:Int)=some (.str (ao.getD k "")):=fun k hk=>cC (by rw[List.getElem?_map,List.getElem?_eq_getElem (by lia)];simp[List.getD_eq_getElem?_getD,List.getElem?_eq_getElem (show k<ao.length by lia)]);have mm:∀k:Nat,k<9->ao.getD k ""∈ao:=fun k hk=>by
   rw[List.getD_eq_getElem?_getD,List.getElem?_eq_getElem (show k<ao.length by lia)];exact List.getElem_mem _
  refine aL (fun(k:Nat)=>D.int (0+(k:Int))) (fun _=>true) (fun k=>aH (ao.getD k "",ao.getD (k+1) "")) (fun Δ=>∃x,Δ=[none,some (D.lst (ao.map .str)),none,none,none,x]) (List.range 8) _ _ (fun i hi Δ hΔ=>?_) ⟨none,rfl⟩ ?_
  ·obtain⟨x,rfl⟩:=hΔ;have hi':=List.mem_range.mp hi;refine⟨_,rfl,⟨_,rfl⟩,fun Q1 q=>q,fun _ Q2 q=>?_⟩;rw[Int.zero_add];walk_at "rd";have e1:=em (i+1) (by lia);rw[Int.natCast_add]at e1;exact⟨_,em i (by exact Nat.le_trans (by assumption) (by decide)),_,e1,sz3 2,q⟩
  ·rw[List.nil_append,List.filter_eq_self.mpr (fun _ _=>rfl)];obtain⟨n,rfl⟩:=Int.eq_ofNat_of_zero_le h2;intro r hr;have hqp:q≠p:=Ne.symm hpq;have el:∀l:List Nat,l.map (fun k=>aH (ao.getD k "",ao.getD (k+1) ""))=(l.map fun k=>(ao.getD k "",ao.getD (k+1) "")).map aH:=fun l=>by rw[List.map_map];rfl
   refine⟨_,rfl,_,rfl,?_⟩;rw[pY,wU,<-List.map_drop,<-List.map_take,<-List.map_append];refine⟨_,if_pos (sz3 _ (by simp;lia)),_,rfl,au M p (.lst l1),?_,(el _▸k ((List.drop n (List.range 8)++List.take n (List.range 8)).map fun k=>(ao.getD k "",ao.getD (k+1) "")) l1 (by simp;lia) (fun x hx=>?_) hP1)⟩
   ·rw[eh hr,cU hqp];exact eP (by rw[aJ hqp];exact hq)
   ·obtain⟨j,hj,rfl⟩:=List.mem_map.mp hx;have hj8:j<8:=by
     rcases List.mem_append.mp hj with z|z
     ·exact List.mem_range.mp (List.mem_of_mem_drop z)
     ·exact List.mem_range.mp (List.mem_of_mem_take z)
    exact⟨mm _ (by exact Nat.le_trans (by assumption) (by decide)),mm _ (by lia)⟩
 ·refine⟨sz3 4,p,l,4,rfl,by rw[aJ hpq];exact hM,hP,by decide,by decide,fun v l1 h2 h3 hP1=>?_⟩;obtain⟨n,hn,en⟩:∃n:Nat,n<=8/\ixD (D.lst [D.int 0,D.int 2,D.int 4,D.int 8]) (.int v)=some (.int (n:Int)):=by
   have:v=0∨v=1∨v=2∨v=3:=by lia
   rcases this with rfl|rfl|rfl|rfl
   ·exact⟨0,by decide,rfl⟩
   ·exact⟨2,by decide,rfl⟩
   ·exact⟨4,by decide,rfl⟩
   ·exact⟨8,by decide,rfl⟩
  refine⟨_,en,_,rfl,by lia,by lia,?_⟩;refine aP (fun i Δ M'=>∃(x3:Option D) (l2:List D) (ord:List (Str×Str)),Δ=[some (D.ref p),some (D.lst (ao.map D.str)),some (D.ref q),none,x3]/\M'=au (au M p (.lst l2)) q (.lst (ord.map aH))/\bA l2/\ord.length=i/\∀x∈ord,x.1∈ao/\x.2∈ao)
   ⟨_,l1,[],rfl,cU (Ne.symm hpq),hP1,rfl,fun x hx=>absurd hx (by simp)⟩ ?_ ?_
  ·intro i d Δ M' X hd hI k';refine shr fun _ bk=>?_;obtain⟨x3,l2,ord,rfl,rfl,hP2,hol,ho⟩:=hI;refine bk ?_;clear bk;have hi:i<8:=by have:=(eE hd).1;exact Nat.lt_of_lt_of_le (by assumption) (by assumption)
   simp only[aV];walk_at "rd";rw[List.length_map];refine⟨p,l2,_,rfl,by rw[aJ hpq,aq],hP2,by lia,by lia,fun v1 l3 a0 a1 hP3=>?_⟩;obtain⟨m1,hm1,e1⟩:=hG a0 a1;refine⟨_,e1,p,l3,_,rfl,aq,hP3,by lia,by lia,fun v2 l4 b0 b1 hP4=>?_⟩;obtain⟨m2,hm2,e2⟩:=hG b0 b1;refine⟨_,e2,sz3 2,?_⟩;have em:au (au (au (au M p (.lst l2)) q (.lst (ord.map aH))) p (.lst l3)) p (.lst l4)=au (au M p (.lst l4)) q (.lst (ord.map aH)):=by
    rw[aN,<-cU hpq,aN]
   rw[em];refine⟨_,aq,by rw[List.length_map];exact Nat.lt_of_lt_of_le (by lia:ord.length<1000) (sz3 1000),?_⟩;rw[aN];refine k' _ _ ⟨_,l4,ord++[(m1,m2)],rfl,by simp[aH],hP4,by simp;assumption,fun x hx=>?_⟩;rcases List.mem_append.mp hx with h|h
   ·exact ho x h
   ·have:x=(m1,m2):=by simpa using h
    subst this;exact⟨hm1,hm2⟩
  ·intro Δ M' hI;refine shr fun _ bk=>?_;obtain⟨x3,l2,ord,rfl,rfl,hP2,hol,ho⟩:=hI;refine bk ?_;clear bk;rw[bE]at hol;walk_at "rd";exact⟨_,eP (by rw[aJ (Ne.symm hpq)];exact hq),k ord l2 (by lia) ho hP2⟩
def Abv(ord:List (Str×Str)) (ao:List Str) (kvs:List (List Key×D)):Prop:=∀a b:Str,a∈ao->(bp kvs [.inr a,.inr b]).isSome=rB ord a b
def lQ:SpD:=fun ds M Q=>∃(ord:List (Str×Str)) (ao:List Str),ds=[.tup (ord.map aH),.lst (ao.map .str)]/\ord.length<=20/\ao.length<=9 /\
 ∀p kvs,M p=none->Abv ord ao kvs->Q (.ref p) (au M p (.dT kvs))
def de(L:List Str):List (Key×D):=L.map fun x=>(.inr x,.bl true)
theorem jC{L:List Str}{x:Str}:(bp (de L) (.inr x)).isSome=decide (x∈L):=by
 induction L with
 |nil=>rfl
 |cons y L ih =>
  unfold de at *
  rw[List.map_cons]
  by_cases e:y=x
  ·rw[br (by rw[e])];simp[e]
  ·rw[bt (by simpa using e),ih];simp[Ne.symm e]
theorem sy{L:List Str}{x:Str}:dR (de L) (.inr x) (.bl true)=if x∈L then de L else de (L++[x]):=by
 unfold dR;rw[g7,jC]
 by_cases h:x∈L
 ·rw[if_pos (by simp[h]),if_pos h];unfold de;rw[List.map_map];apply List.map_congr_left;intro y _;simp only[Function.comp_def]
  split<;>rfl
 ·rw[if_neg (by simp[h]),if_neg h];simp[de]
theorem lZ{L S:List Str}(hn:L.Nodup) (hs:∀x∈L,x∈S) (hl:S.length<=L.length):∀x∈S,x∈L:=fun x hx=>by
 by_cases h:x∈L
 ·exact h
 ·have:=cw (x::L) S (List.nodup_cons.mpr ⟨h,hn⟩) (fun y hy=>by
   rcases List.mem_cons.mp hy with rfl|hy
   ·exact hx
   ·exact hs y hy)
  simp at this;lia
theorem qT(F:Fun K "_law_above" "_law_above" iN f fd) (T:Txt mg) :bo P w K mg base CX0 1 f fd ["_law_order_here","_law_marks_here"] (spD K 2 lQ):=by
 have nd:=jP.nd;refine F.okR rfl jP (fun cdv A outer s H E hr=>⟨_,(am (aS (i:=2) nd rfl (Or.inl rfl) C3)
   (am (ck PassesOwn.never rfl (bI (af 1)) (aW (i:=3) nd rfl (Or.inl rfl)) (am (aS (i:=4) nd rfl (Or.inl rfl) (rJ (af 3) ie))
   (am (ck PassesOwn.never rfl (bw rfl T.b_range (ae (aB bY rfl T.b_len (by kernel_rfl) (ae (af 0) ai)) ai)) (aW (i:=5) nd rfl (Or.inl rfl)) (ar (ck PassesOwn.never rfl (bI (af 0)) (mO rfl (cJ (aW (i:=6) nd rfl (Or.inl rfl)) (cJ (aW (i:=7) nd rfl (Or.inl rfl)) mn))) (ar (bz (nt false rfl hr.units1 (af 6) (af 4) rfl) (ar (qf hr.units1 (af 4) (af 7) ie)) aU)))))
   (ar (ck PassesOwn.never rfl (CT (af 4)) (aW (i:=8) nd rfl (Or.inl rfl)) (ar (nL hr.units1 (af 2) (ae (af 3) (ae (af 8) ai)) ie)))))))
   (ar (bu (af 2))))),fun ds M R _ hS bk=>?_⟩)
 obtain⟨ord,ao,rfl,ho,hm,k⟩:=hS;refine bk ?_;clear bk;walk_at "rd";intro p hp hz;refine aP (fun i Δ M'=>∃(kvs:List (List Key×D)) (x3 x4 x5 x6 x7 x8:Option D),Δ=[some (D.tup (ord.map aH)),some (D.lst (ao.map .str)),some (D.ref p),x3,x4,x5,x6,x7,x8]/\M'=au M p (.dT kvs)/\(∀a b:Str,(bp kvs [.inr a,.inr b]).isSome=(decide (a∈ao.take i)&&rB ord a b))/\kvs.length<=50*i)
  ⟨[],_,_,_,_,_,_,rfl,rfl,fun a b=>by simp[vW],Nat.zero_le _⟩ ?_ ?_
 ·intro i d Δ M' X hd hI' k';refine shr fun _ bk=>?_;obtain⟨kvs,x3,x4,x5,x6,x7,x8,rfl,rfl,hk,hkl⟩:=hI';refine bk ?_;clear bk;obtain⟨a,ha,rfl⟩:=fT hd;have hi:i<ao.length:=(List.getElem?_eq_some_iff.mp ha).1;have hai:ao[i]=a:=(List.getElem?_eq_some_iff.mp ha).2;simp only[aV];walk_at "rd";intro r hr2;have hpr:r≠p:=by rintro rfl;rw[aq]at hr2;cases hr2
  have hMr:M r=none:=by rw[aJ hpr]at hr2;exact hr2
  rw[List.length_map];refine⟨by lia,by lia,?_⟩;refine aP (fun t Δ M'=>∃(L:List Str) (x5 x6 x7:Option D),Δ=[some (D.tup (ord.map aH)),some (D.lst (ao.map .str)),some (D.ref p),some (D.str a),some (D.ref r),x5,x6,x7,x8]/\M'=au (au M p (.dT kvs)) r (.dK (de L))/\L.Nodup/\a∈L/\(∀x∈L,aX ord a x)/\(∀x∈L,x∈a::ord.map (·.2))/\((∀y∈ord,y.1∈L->y.2∈L)∨t+1<=L.length))
   ⟨[a],_,_,_,rfl,rfl,by simp,by simp,fun x hx=>?_,fun x hx=>?_,.inr (by simp)⟩ ?_ ?_
  ·obtain rfl:x=a:=by simpa using hx
   exact aX.refl
  ·obtain rfl:x=a:=by simpa using hx
   simp
  ·intro t d Δ M' X2 hd2 hI' k2;refine shr fun _ bk=>?_;obtain⟨L0,x5,x6,x7,rfl,rfl,hn0,ha0,hs0,hb0,hc0⟩:=hI';refine bk ?_;clear bk;simp only[aV];walk_at "rd";intro hz2;refine aP (fun j Δ M'=>∃(L:List Str) (x5 x6 x7:Option D),Δ=[some (D.tup (ord.map aH)),some (D.lst (ao.map .str)),some (D.ref p),some (D.str a),some (D.ref r),x5,x6,x7,x8]/\M'=au (au M p (.dT kvs)) r (.dK (de L))/\(∃s,L=L0++s)/\L.Nodup/\(∀x∈L,aX ord a x)/\(∀x∈L,x∈a::ord.map (·.2))/\(∀y∈ord.take j,y.1∈L0->y.2∈L))
    ⟨L0,_,_,_,rfl,rfl,⟨[],by simp⟩,hn0,hs0,hb0,fun y hy=>absurd hy (by simp)⟩ ?_ ?_
   ·intro j d Δ M' X3 hd3 hI' k3;refine shr fun _ bk=>?_;obtain⟨L,x5,x6,x7,rfl,rfl,⟨s2,hs2⟩,hn,hs,hb,hc⟩:=hI';refine bk ?_;clear bk;obtain⟨⟨y1,y2⟩,hy,rfl⟩:=fT hd3;have hjy:ord[j]?=some (y1,y2):=hy;have hmem:(y1,y2)∈ord:=List.mem_of_getElem? hjy;have htk:ord.take (j+1)=ord.take j++[(y1,y2)]:=by rw[List.take_add_one,hjy];rfl
    have bH:L.length<=ord.length+1:=by
     have:=cw L (a::ord.map (·.2)) hn hb;simpa using this
    simp only[aH,fG,cO,aV,ic,Option.bind_some];refine⟨_,rfl,?_⟩;walk_at "rd";rw[Bool.false_xor,jC];refine cF (fun h=>?_) (fun h=>?_)
    ·have hy1:y1∈L:=by simpa using h
     refine⟨by unfold de;rw[List.length_map];exact Nat.lt_of_lt_of_le (by lia:L.length<1000) (sz3 1000),?_⟩;rw[sy]
     by_cases h2:y2∈L
     ·rw[if_pos h2];refine k3 _ _ ⟨L,_,_,_,rfl,rfl,⟨s2,hs2⟩,hn,hs,hb,fun y hy hy0=>?_⟩;rw[htk]at hy;rcases List.mem_append.mp hy with z|z
      ·exact hc y z hy0
      ·obtain rfl:y=(y1,y2):=by simpa using z
       exact h2
     ·rw[if_neg h2];refine k3 _ _ ⟨L++[y2],_,_,_,rfl,rfl,⟨s2++[y2],by rw[hs2,List.append_assoc]⟩,?_,fun x hx=>?_,fun x hx=>?_,fun y hy hy0=>?_⟩
      ·rw[List.nodup_append];refine⟨hn,by simp,fun u hu v hv=>?_⟩;obtain rfl:v=y2:=by simpa using hv
       rintro rfl;exact h2 hu
      ·rcases List.mem_append.mp hx with z|z
       ·exact hs x z
       ·obtain rfl:x=y2:=by simpa using z
        exact aX.step (hs y1 hy1) hmem
      ·rcases List.mem_append.mp hx with z|z
       ·exact hb x z
       ·obtain rfl:x=y2:=by simpa using z
        exact List.mem_cons_of_mem _ (List.mem_map.mpr ⟨_,hmem,rfl⟩)
      ·rw[htk]at hy;rcases List.mem_append.mp hy with z|z
       ·exact List.mem_append_left _ (hc y z hy0)
       ·obtain rfl:y=(y1,y2):=by simpa using z
        simp
    ·have hy1:y1∉L:=by simpa using h
     refine k3 _ _ ⟨L,_,_,_,rfl,rfl,⟨s2,hs2⟩,hn,hs,hb,fun y hy hy0=>?_⟩;rw[htk]at hy;rcases List.mem_append.mp hy with z|z
     ·exact hc y z hy0
     ·obtain rfl:y=(y1,y2):=by simpa using z
      exact absurd (by rw[hs2];exact List.mem_append_left _ hy0) hy1
   ·intro Δ M' hI';refine shr fun _ bk=>?_;obtain⟨L,x5,x6,x7,rfl,rfl,⟨s2,hs2⟩,hn,hs,hb,hc⟩:=hI';refine bk ?_;clear bk;rw[List.length_map,List.take_length]at hc;refine k2 _ _ ⟨L,_,_,_,rfl,rfl,hn,by rw[hs2];exact List.mem_append_left _ ha0,hs,hb,?_⟩;cases s2 with
    |nil =>
     rw[List.append_nil]at hs2;subst hs2;exact .inl hc
    |cons u us =>
     rcases hc0 with h|h
     ·refine .inl fun y hy hy1=>?_;have cl:∀x,aX ord a x->x∈L0:=fun x hx=>eC ha0 h hx;exact hc y hy (cl _ (hs _ hy1))
     ·right;rw[hs2];simp;lia
  ·intro Δ M' hI';refine shr fun _ bk=>?_;obtain⟨L,x5,x6,x7,rfl,rfl,hn,haL,hs,hb,hc⟩:=hI';refine bk ?_;clear bk;rw[bE]at hc;have hcl:∀y∈ord,y.1∈L->y.2∈L:=by
    rcases hc with h|h
    ·exact h
    ·intro y hy _;refine lZ hn hb (by simpa using h) y.2 (List.mem_cons_of_mem _ (List.mem_map.mpr ⟨y,hy,rfl⟩))
   have bH:L.length<=ord.length+1:=by
    have:=cw L (a::ord.map (·.2)) hn hb;simpa using this
   walk_at "rd";rw[eh hr2];have em:List.map (fun p=>kD p.fst) (de L)=L.map D.str:=by unfold de;rw[List.map_map];rfl
   rw[em];refine aP (fun j Δ M'=>∃(kvs2:List (List Key×D)) (y8:Option D),Δ=[some (D.tup (ord.map aH)),some (D.lst (ao.map .str)),some (D.ref p),some (D.str a),some (D.ref r),x5,x6,x7,y8]/\M'=au M p (.dT kvs2)/\(∀c b:Str,(bp kvs2 [.inr c,.inr b]).isSome=((decide (c∈ao.take i)&&rB ord c b) || (decide (c=a)&&decide (b∈L.take j))))/\kvs2.length<=50*i+j)
    ⟨kvs,_,rfl,rfl,fun c b=>by rw[hk c b];simp,by assumption⟩ ?_ ?_
   ·intro j d Δ M' X3 hd3 hI' k3;refine shr fun _ bk=>?_;obtain⟨kvs2,y8,rfl,rfl,hk2,hkl2⟩:=hI';refine bk ?_;clear bk;obtain⟨b,hb2,rfl⟩:=fT hd3;have hj:j<L.length:=(List.getElem?_eq_some_iff.mp hb2).1;have htk:L.take (j+1)=L.take j++[b]:=by rw[List.take_add_one,hb2];rfl
    simp only[aV];walk_at "rd";refine⟨sz3 2,Nat.lt_of_lt_of_le (by lia:kvs2.length<1000) (sz3 1000),?_⟩;refine k3 _ _ ⟨_,_,rfl,rfl,fun c e=>?_,Nat.le_trans (bZ _ _ _) (by lia)⟩;rw[fH,htk]
    by_cases h:c=a/\e=b
    ·obtain⟨rfl,rfl⟩:=h;rw[if_pos rfl];simp
    ·rw[if_neg (by simpa using h),hk2 c e]
     by_cases h1:c=a
     ·have h2:¬ e=b:=fun z=>h ⟨h1,z⟩;simp[h1,h2]
     ·simp[h1]
   ·intro Δ M' hI';refine shr fun _ bk=>?_;obtain⟨kvs2,y8,rfl,rfl,hk2,hkl2⟩:=hI';refine bk ?_;clear bk;rw[List.length_map]at hk2 hkl2;rw[List.take_length]at hk2;refine k' _ _ ⟨kvs2,_,_,_,_,_,_,rfl,rfl,fun c b=>?_,by lia⟩;have htk:ao.take (i+1)=ao.take i++[a]:=by rw[List.take_add_one,ha];rfl
    have hL:decide (b∈L)=rB ord a b:=by
     rw[Bool.eq_iff_iff,iY,decide_eq_true_eq];exact⟨hs b,fun z=>eC haL hcl z⟩
    rw[hk2 c b,htk]
    by_cases h1:c=a
    ·subst h1;rw[hL];cases rB ord c b<;>simp
    ·simp[h1]
 ·intro Δ M' hI';refine shr fun _ bk=>?_;obtain⟨kvs,x3,x4,x5,x6,x7,x8,rfl,rfl,hk,hkl⟩:=hI';refine bk ?_;clear bk;rw[List.length_map,List.take_length]at hk;walk_at "rd";exact k p kvs hp fun a b ha=>by rw[hk a b];simp[ha]
def dF:SpD:=fun ds M Q=>∃(ord:List (Str×Str)) (ao:List Str) (p:Addr) (kvs:List (List Key×D)) (x y:Str×Int),ds=[.ref p,aC x,aC y]/\M p=some (.dT kvs)/\Abv ord ao kvs/\x.1∈ao/\y.1∈ao/\Q (.bl (cB ord x y)) M
theorem nu(F:Fun K "_law_cancels" "_law_cancels" fB f fd) (T:Txt mg) :bo P w K mg base CX0 1 f fd ["_law_above_here","_law_one","_law_other"] (spD K 3 dF):=by
 have nd:=gY.nd;refine F.okR rfl gY (fun cdv A outer s H E hr=>⟨_,(am (bz (aQ (tU hr.units) (bg a7 (af 2) ah (fun _ _=>rfl)) (aD aR (bg a7 (af 1) ah (fun _ _=>rfl)) ah) nbh) (ar (bu ie)) aU)
   (am (bz (aQ (gq hr.units) (aD ft (bg a7 (af 1) ah (fun _ _=>rfl)) ah) ah nbh) (ar (bu (zA false rfl hr.units1 (ae (bg a7 (af 1) ah (fun _ _=>rfl)) (ae (bg a7 (af 2) ah (fun _ _=>rfl)) ai)) (af 0) rfl))) aU)
   (ar (bu (zA false rfl hr.units1 (ae (bg a7 (af 2) ah (fun _ _=>rfl)) (ae (bg a7 (af 1) ah (fun _ _=>rfl)) ai)) (af 0) rfl))))),fun ds M R _ hS bk=>?_⟩)
 obtain⟨ord,ao,p,kvs,⟨a,t⟩,⟨b,u⟩,rfl,hM,hA,ha,hb,k⟩:=hS;refine bk ?_;clear bk;simp only[aC];walk_at "rd";refine cF (fun h=>?_) (fun h=>?_)
 ·have hne:¬ t+1=u:=fun z=>by simp[z]at h
  have e:cB ord (a,t) (b,u)=false:=by simp[cB,hne]
  rw[e]at k;exact k
 ·have heq:t+1=u:=by
   have:u=t+1:=by simpa using h
   exact this.symm
  refine cF (fun h'=>⟨sz3 2,kvs,hM,?_⟩) (fun h'=>⟨sz3 2,kvs,hM,?_⟩)
  ·have e:cB ord (a,t) (b,u)=rB ord a b:=by simp[cB,heq,sR (ord:=ord) (a:=a) (b:=b) (show t % 2=0 by simpa using h')]
   rw[Bool.false_xor,hA a b ha,<-e];exact k
  ·have e:cB ord (a,t) (b,u)=rB ord b a:=by simp[cB,heq,wZ (ord:=ord) (a:=a) (b:=b) (show ¬ t % 2=0 by simpa using h')]
   rw[Bool.false_xor,hA b a hb,<-e];exact k
def je:SpD:=fun ds M Q=>∃(ord:List (Str×Str)) (ao:List Str) (p:Addr) (kvs:List (List Key×D)) (row:List (Str×Int)),ds=[.ref p,.tup (row.map aC)]/\M p=some (.dT kvs)/\Abv ord ao kvs/\row.length<=24/\(∀x∈row,x.1∈ao) /\
 ∀q tb,M q=none->(bp tb [.inl 0,.inl (row.length:Int)]).isSome=decide (0<W (cB ord) row)->Q (.ref q) (au M q (.dT tb))
theorem zK{α:Type}{p q:Prop} [Decidable p] [Decidable q] {a b:α}(h:p↔q):(if p then a else b)=if q then a else b:=by
 by_cases hp:p
 ·rw[if_pos hp,if_pos (h.mp hp)]
 ·rw[if_neg hp,if_neg (fun z=>hp (h.mpr z))]
theorem DT{R:Str×Int->Str×Int->Bool}{row:List (Str×Int)}{b e:Nat}{o:Option D}(h:o=if 0<W R (seg row b e)then some (.int (W R (seg row b e):Nat))else none):o.isSome=decide (0<W R (seg row b e)):=by
 rw[h]
 by_cases c:0<W R (seg row b e)
 ·rw[if_pos c];simp[c]
 ·rw[if_neg c];simp[c]
theorem EY{n:Nat}:szR (n:Int) (-1) (-1)=n+1:=by
 unfold szR Builtin.Range.rangeSize;simp
 lia
theorem zu{a b:Nat}:szR (a:Int) (b:Int) 2=(b-a+1) / 2:=by
 unfold szR Builtin.Range.rangeSize;simp
 lia
theorem nA(F:Fun K "_law_between" "_law_between" fM f fd) (T:Txt mg) (G2:FnD P w K mg base "_law_cancels" 1 3 dF):bo P w K mg base CX0 2 f fd ["_law_above_here","_law_row_here"] (spD K 2 je):=by
 have nd:=ip.nd;refine F.okR rfl ip (fun cdv A outer s H E hr=>⟨_,(am (aS (i:=2) nd rfl (Or.inl rfl) C3)
   (am (ck PassesOwn.never rfl (iu rfl T.b_range (ae (aB bY rfl T.b_len (by kernel_rfl) (ae (af 1) ai)) (ae (Al AQ ah) (ae (Al AQ ah) ai)))) (aW (i:=3) nd rfl (Or.inl rfl)) (am (nL hr.units1 (af 2) (ae (af 3) (ae (af 3) ai)) ah)
   (ar (ck PassesOwn.never rfl (iu rfl T.b_range (ae (aD aR (af 3) ah) (ae (aD aR (aB bY rfl T.b_len (by kernel_rfl) (ae (af 1) ai)) ah) (ae ah ai)))) (aW (i:=4) nd rfl (Or.inl rfl)) (am (aS (i:=5) nd rfl (Or.inl rfl) ah)
   (am (ck PassesOwn.never rfl (iu rfl T.b_range (ae (aD aR (af 3) ah) (ae (af 4) (ae ah ai)))) (aW (i:=6) nd rfl (Or.inl rfl)) (ar (bz (lD (iB (rj false rfl hr.units1 (ae (aD aR (af 3) ah) (ae (af 6) ai)) (af 2) rfl) (ij (rj false rfl hr.units1 (ae (aD aR (af 6) ah) (ae (af 4) ai)) (af 2) rfl)))) (ar (bz (dO (qd G2 hr (ae (af 0) (ae (bg a7 (af 1) (af 3) (fun _ _=>rfl)) (ae (bg a7 (af 1) (af 6) (fun _ _=>rfl)) ai))))) (ar (aS (i:=5) nd rfl (Or.inl rfl) (aD aR (af 5) (aD vn (jz hr.units1 (af 2) (ae (aD aR (af 3) ah) (ae (af 6) ai)) (fun _ _=>rfl)) (jz hr.units1 (af 2) (ae (aD aR (af 6) ah) (ae (af 4) ai)) (fun _ _=>rfl)))))) aU)) aU)))
   (ar (bz (aQ y7 (af 5) ah nbh) (ar (nL hr.units1 (af 2) (ae (af 3) (ae (af 4) ai)) (af 5))) aU))))))))
   (ar (bu (af 2))))),fun ds M R _ hS bk=>?_⟩)
 obtain⟨ord,ao,p,kvs,row,rfl,hM,hA,hl,hr2,k⟩:=hS;refine bk ?_;clear bk;walk_at "rd";intro q hq;have hpq:p≠q:=by rintro rfl;rw[hM]at hq;cases hq
 rw[List.length_map];refine⟨_,_,_,⟨rfl,rfl,rfl⟩,Or.inr rfl,⟨by lia,by lia,by decide,by decide⟩,?_⟩;rw[EY];have hsg:∀i,i<row.length->(sg row i).1∈ao:=fun i hi=>by
  have:sg row i=row[i]:=by simp[sg,hi]
  rw[this];exact hr2 _ (List.getElem_mem hi)
 refine aP (fun i Δ M'=>∃(tb:List (List Key×D)) (x3 x4 x5 x6:Option D),Δ=[some (D.ref p),some (D.tup (row.map aC)),some (D.ref q),x3,x4,x5,x6]/\M'=au M q (.dT tb)/\(∀b e:Nat,bp tb [.inl (b:Int),.inl (e:Int)]=if row.length<b+i/\b<=e/\e<=row.length/\0<W (cB ord) (seg row b e)then some (.int (W (cB ord) (seg row b e):Nat))else none)/\tb.length<=100*i)
  ⟨[],_,_,_,_,rfl,rfl,fun b e=>by rw[if_neg (by lia)];rfl,Nat.zero_le _⟩ ?_ ?_
 ·intro i d Δ M' X hd hI' k';refine shr fun _ bk=>?_;obtain⟨tb,x3,x4,x5,x6,rfl,rfl,hT,htl⟩:=hI';refine bk ?_;clear bk;obtain⟨hi,rfl⟩:=fA hd;obtain⟨b0,hb0⟩:∃b0:Nat,b0+i=row.length:=⟨row.length-i,by lia⟩;have eb:(row.length:Int)+(i:Int)*(-1)=(b0:Int):=by lia
  rw[eb];simp only[aV];walk_at "rd";rw[List.length_map];refine⟨sz3 2,Nat.lt_of_lt_of_le (by lia:tb.length<16000000) (szB 16000000),_,_,_,⟨rfl,rfl,rfl⟩,Or.inl rfl,⟨by lia,by lia,by lia,by lia⟩,?_⟩;have c1:(b0:Int)+2=((b0+2:Nat):Int):=by lia
  have c2:(row.length:Int)+1=((row.length+1:Nat):Int):=by lia
  rw[c1,c2,zu];refine aP (fun m Δ M'=>∃(tb:List (List Key×D)) (x4 x5 x6:Option D),Δ=[some (D.ref p),some (D.tup (row.map aC)),some (D.ref q),some (D.int b0),x4,x5,x6]/\M'=au M q (.dT tb)/\(∀b e:Nat,bp tb [.inl (b:Int),.inl (e:Int)]=if(row.length<b+i∨(b=b0/\e<b0+2+2*m))/\b<=e/\e<=row.length/\0<W (cB ord) (seg row b e)then some (.int (W (cB ord) (seg row b e):Nat))else none)/\tb.length<=100*i+1+m)
   ⟨_,_,_,_,rfl,rfl,fun b e=>?_,Nat.le_trans (bZ _ _ _) (by lia)⟩ ?_ ?_
  ·rw[fH]
   by_cases c:b=b0/\e=b0
   ·rw[if_pos (fC.mpr c)];obtain⟨rfl,rfl⟩:=c;rw[gL,gJ,if_pos ⟨by lia,by exact Nat.le_refl _,by lia,by decide⟩];rfl
   ·rw[if_neg (fun z=>c (fC.mp z)),hT b e]
    by_cases g:row.length<b+i/\b<=e/\e<=row.length/\0<W (cB ord) (seg row b e)
    ·rw[if_pos g,if_pos ⟨.inl g.1,g.2⟩]
    ·rw[if_neg g,if_neg ?_];intro hI';refine shr fun _ bk=>?_;obtain⟨h1,h2,h3,h4⟩:=hI';refine bk ?_;clear bk;rcases h1 with h1|h1
     ·exact g ⟨h1,h2,h3,h4⟩
     ·have he:e=b0+1:=by lia
      rw[me _ _ (Nat.le_refl _) (by rw[cA h3];lia)]at h4
      lia
  ·intro m d Δ M' X2 hd2 hI' k2;refine shr fun _ bk=>?_;obtain⟨tb,x4,x5,x6,rfl,rfl,hT,htl⟩:=hI';refine bk ?_;clear bk;obtain⟨hm,rfl⟩:=fA hd2;obtain⟨e0,he0⟩:∃e0:Nat,e0=b0+2+2*m:=⟨_,rfl⟩;have ee:((b0+2:Nat):Int)+(m:Int)*2=(e0:Int):=by lia
   rw[ee];have hen:e0<=row.length:=by lia
   simp only[aV];walk_at "rd";refine⟨_,_,_,⟨rfl,rfl,rfl⟩,Or.inl rfl,⟨by lia,by lia,by lia,by lia⟩,?_⟩;have c3:(b0:Int)+1=((b0+1:Nat):Int):=by lia
   rw[c3,zu,show(e0-(b0+1)+1) / 2=(e0-b0) / 2 by lia];refine aP (fun j Δ M'=>∃x6:Option D,Δ=[some (D.ref p),some (D.tup (row.map aC)),some (D.ref q),some (D.int b0),some (D.int e0),some (D.int (((List.range j).map fun j=>if cB ord (sg row b0) (sg row (b0+1+2*j))=true then W (cB ord) (seg row (b0+1) (b0+1+2*j))*W (cB ord) (seg row (b0+1+2*j+1) e0)else 0).sum:Nat)),x6]/\M'=au M q (.dT tb))
    ⟨_,rfl,rfl⟩ ?_ ?_
   ·intro j d Δ M' X3 hd3 hI' k3;refine shr fun _ bk=>?_;obtain⟨x6,rfl,rfl⟩:=hI';refine bk ?_;clear bk;obtain⟨hj,rfl⟩:=fA hd3;obtain⟨pl,hpl⟩:∃pl:Nat,pl=b0+1+2*j:=⟨_,rfl⟩;have ep:((b0+1:Nat):Int)+(j:Int)*2=(pl:Int):=by lia
    rw[ep];have hpe:pl<e0:=by lia
    have g1:=hT (b0+1) pl;have g2:=hT (pl+1) e0;rw[Int.natCast_add]at g1 g2;have g1':bp tb [Sum.inl ((b0:Int)+1),Sum.inl (pl:Int)]=if 0<W (cB ord) (seg row (b0+1) pl)then some (.int (W (cB ord) (seg row (b0+1) pl):Nat))else none :=
     g1.trans (zK ⟨fun z=>z.2.2.2,fun z=>⟨.inl (by lia),by lia,by lia,z⟩⟩)
    have g2':bp tb [Sum.inl ((pl:Int)+1),Sum.inl (e0:Int)]=if 0<W (cB ord) (seg row (pl+1) e0)then some (.int (W (cB ord) (seg row (pl+1) e0):Nat))else none :=
     g2.trans (zK ⟨fun z=>z.2.2.2,fun z=>⟨.inl (by lia),by assumption,by assumption,z⟩⟩)
    have es:((List.range (j+1)).map fun j=>if cB ord (sg row b0) (sg row (b0+1+2*j))=true then W (cB ord) (seg row (b0+1) (b0+1+2*j))*W (cB ord) (seg row (b0+1+2*j+1) e0)else 0).sum=((List.range j).map fun j=>if cB ord (sg row b0) (sg row (b0+1+2*j))=true then W (cB ord) (seg row (b0+1) (b0+1+2*j))*W (cB ord) (seg row (b0+1+2*j+1) e0)else 0).sum+(if cB ord (sg row b0) (sg row pl)=true then W (cB ord) (seg row (b0+1) pl)*W (cB ord) (seg row (pl+1) e0)else 0):=by
     rw[List.range_succ,List.map_append,List.sum_append,hpl];simp
    have k4:=fun(x:Option D)=>k3 _ _ ⟨x,rfl,rfl⟩;rw[es]at k4;clear k3 es;simp only[aV];walk_at "rd";rw[Bool.false_xor,Bool.false_xor,DT g1',DT g2'];refine⟨sz3 2,cF (fun h1=>⟨sz3 2,cF (fun h2=>?_) (fun h2=>?_)⟩) (fun h1=>?_)⟩
    ·have w1:0<W (cB ord) (seg row (b0+1) pl):=by simpa using h1
     have w2:0<W (cB ord) (seg row (pl+1) e0):=by simpa using h2
     refine⟨_,mB (by lia),_,mB (by exact Nat.lt_of_lt_of_le (by assumption) (by assumption)),ord,ao,p,kvs,sg row b0,sg row pl,rfl,by rw[aJ hpq];exact hM,hA,hsg _ (by lia),hsg _ (by exact Nat.lt_of_lt_of_le (by assumption) (by assumption)),_,rfl,cF (fun hc=>?_) (fun hc=>?_)⟩
     ·refine⟨tb,aq,sz3 2,_,g1'.trans (if_pos w1),tb,aq,sz3 2,_,g2'.trans (if_pos w2),_,if_pos (Or.inr ⟨rC (by rw[cA (by lia)];lia),rC (by rw[cA (by assumption)];lia)⟩),_,rfl,?_⟩;have k5:=k4 (some (D.int pl));rw[if_pos hc,Int.natCast_add,Int.natCast_mul]at k5;exact k5
     ·have k5:=k4 (some (D.int pl));rw[if_neg hc,Nat.add_zero]at k5;exact k5
    ·have w2:W (cB ord) (seg row (pl+1) e0)=0:=by
      have:¬ 0<W (cB ord) (seg row (pl+1) e0):=by simpa using h2
      lia
     have k5:=k4 (some (D.int pl));rw[w2,Nat.mul_zero,ite_self,Nat.add_zero]at k5;exact k5
    ·have w1:W (cB ord) (seg row (b0+1) pl)=0:=by
      have:¬ 0<W (cB ord) (seg row (b0+1) pl):=by simpa using h1
      lia
     have k5:=k4 (some (D.int pl));rw[w1,Nat.zero_mul,ite_self,Nat.add_zero]at k5;exact k5
   ·intro Δ M' hI';refine shr fun _ bk=>?_;obtain⟨x6,rfl,rfl⟩:=hI';refine bk ?_;clear bk;have e2:(gC ((b0+1:Nat):Int) 2 ((e0-b0) / 2)).length=(e0-b0) / 2:=by simp[gC]
    rw[e2,<-zS (by lia) hen];walk_at "rd";refine cF (fun h=>⟨sz3 2,Nat.lt_of_lt_of_le (by lia:tb.length<16000000) (szB 16000000),?_⟩) (fun h=>?_)
    ·refine k2 _ _ ⟨_,_,_,_,rfl,rfl,fun b e=>?_,Nat.le_trans (bZ _ _ _) (by lia)⟩;rw[fH]
     by_cases c:b=b0/\e=e0
     ·rw[if_pos (fC.mpr c)];obtain⟨rfl,rfl⟩:=c;rw[if_pos ⟨.inr ⟨rfl,by lia⟩,by lia,by assumption,by lia⟩]
     ·rw[if_neg (fun z=>c (fC.mp z)),hT b e]
      by_cases g:(row.length<b+i∨(b=b0/\e<b0+2+2*m))/\b<=e/\e<=row.length/\0<W (cB ord) (seg row b e)
      ·rw[if_pos g,if_pos ⟨by lia,g.2⟩]
      ·rw[if_neg g,if_neg ?_];intro hI';refine shr fun _ bk=>?_;obtain⟨z1,z2,z3,z4⟩:=hI';refine bk ?_;clear bk
       by_cases ho2:(e-b) % 2=1
       ·rw[me _ _ (Nat.le_refl _) (by rw[cA z3];exact ho2)]at z4;lia
       ·exact g ⟨by lia,z2,z3,z4⟩
    ·have w0:W (cB ord) (seg row b0 e0)=0:=by lia
     refine k2 _ _ ⟨_,_,_,_,rfl,rfl,fun b e=>?_,by exact Nat.le_succ_of_le (by assumption)⟩;rw[hT b e]
     by_cases g:(row.length<b+i∨(b=b0/\e<b0+2+2*m))/\b<=e/\e<=row.length/\0<W (cB ord) (seg row b e)
     ·rw[if_pos g,if_pos ⟨by lia,g.2⟩]
     ·rw[if_neg g,if_neg ?_];intro hI';refine shr fun _ bk=>?_;obtain⟨z1,z2,z3,z4⟩:=hI';refine bk ?_;clear bk
      by_cases ho2:(e-b) % 2=1
      ·rw[me _ _ (Nat.le_refl _) (by rw[cA z3];exact ho2)]at z4;lia
      ·by_cases c:b=b0/\e=e0
       ·rw[c.1,c.2,w0]at z4;lia
       ·exact g ⟨by lia,z2,z3,z4⟩
  ·intro Δ M' hI';refine shr fun _ bk=>?_;obtain⟨tb,x4,x5,x6,rfl,rfl,hT,htl⟩:=hI';refine bk ?_;clear bk;have e2:(gC ((b0+2:Nat):Int) 2 ((row.length+1-(b0+2)+1) / 2)).length=(row.length+1-(b0+2)+1) / 2:=by simp[gC]
   rw[e2]at hT htl;refine k' _ _ ⟨tb,_,_,_,_,rfl,rfl,fun b e=>?_,by lia⟩;rw[hT b e]
   by_cases g:row.length<b+(i+1)/\b<=e/\e<=row.length/\0<W (cB ord) (seg row b e)
   ·rw[if_pos g,if_pos ⟨by lia,g.2⟩]
   ·rw[if_neg g,if_neg (fun z=>g ⟨by lia,z.2⟩)]
 ·intro Δ M' hI';refine shr fun _ bk=>?_;obtain⟨tb,x3,x4,x5,x6,rfl,rfl,hT,htl⟩:=hI';refine bk ?_;clear bk;have e2:(gC (row.length:Int) (-1) (row.length+1)).length=row.length+1:=by simp[gC]
  rw[e2]at hT;walk_at "rd";refine k q tb hq ?_;have h:=hT 0 row.length;rw[n5]at h;have h':bp tb [Sum.inl 0,Sum.inl (row.length:Int)]=_:=h;rw[h']
  by_cases c:0<W (cB ord) row
  ·rw[if_pos ⟨by lia,by exact Nat.zero_le _,by exact Nat.le_refl _,c⟩];simp[c]
  ·rw[if_neg (fun z=>c z.2.2.2)];simp[c]
def kq:SpD:=fun ds M Q=>∃(p:Addr) (l:List D) (ao:List Str) (w:Int),ds=[.ref p,.lst (ao.map .str),.int w]/\M p=some (.lst l)/\bA l/\ao≠[]/\ao.length<=9/\0<=w/\w<=100/\∀(m:Str) (t:Int) l',m∈ao->bA l'->Q (aC (m,t)) (au M p (.lst l'))
theorem tV(F:Fun K "_law_sign" "_law_sign" jJ f fd) (T:Txt mg) (G0:FnD P w K mg base "_law_draw" 1 2 dq):bo P w K mg base CX0 2 f fd ["_law_well_here","_law_marks_here","_law_wide"] (spD K 3 kq):=by
 have nd:=lR.nd;refine F.okR rfl lR (fun cdv A outer s H E hr=>⟨_,(ar (bu (cY (ae (bg a7 (af 1) (qd G0 hr (ae (af 0) (ae (aB bY rfl T.b_len (by kernel_rfl) (ae (af 1) ai)) ai))) (fun _ _=>rfl)) (ae (aD pF (qd G0 hr (ae (af 0) (ae (aD aR (aD c8 ah (af 2)) ah) ai))) (af 2)) ai))))),fun ds M R _ hS bk=>?_⟩);obtain⟨p,l,ao,w,rfl,hM,hP,hm,hml,h0,h1,k⟩:=hS;refine bk ?_;clear bk;walk_at "rd";rw[List.length_map];have hmp:=List.length_pos_iff.mpr hm;refine⟨p,l,_,rfl,hM,hP,by lia,by lia,fun v l1 a0 a1 hP1=>?_⟩;obtain⟨m,hm1,e1⟩:=hG a0 a1;refine⟨_,e1,p,l1,_,rfl,aq,hP1,by lia,by lia,fun v2 l2 b0 b1 hP2=>?_⟩;rw[aN];exact⟨_,rfl,sz3 2,k m _ l2 hm1 hP2⟩
def jb:SpD:=fun ds M Q=>∃(ord:List (Str×Str)) (p pa:Addr) (l:List D) (kvs:List (List Key×D)) (ao:List Str) (x:Str×Int),ds=[.ref p,.ref pa,.lst (ao.map .str),aC x]/\M p=some (.lst l)/\M pa=some (.dT kvs)/\bA l/\Abv ord ao kvs/\ao.length<=9/\x.1∈ao /\
 ∀(y:Str×Int) l',y.1∈ao->bA l'->Q (aC y) (au M p (.lst l'))
theorem nI(F:Fun K "_law_partner" "_law_partner" dD f fd) (T:Txt mg) (G2:FnD P w K mg base "_law_cancels" 1 3 dF) (G0:FnD P w K mg base "_law_draw" 1 2 dq):bo P w K mg base CX0 2 f fd ["_law_well_here","_law_above_here","_law_marks_here","_law_sign_here"] (spD K 4 jb):=by
 have nd:=gW.nd;refine F.okR rfl gW (fun cdv A outer s H E hr=>⟨_,(am (xv (i:=4) nd rfl rfl rfl (ms:=[false,true,false,true,false]) (ag:=["_law_mark"]) (aG rfl (show aO (aj dD) fF _ _=true from by decide +kernel)) rfl (bI (af 2)) (aF (i:=5) (show(fF++_).Nodup from by decide +kernel) rfl rfl) (fun _ _ _ _=>(gF (dO (qd G2 hr (ae (af 1) (ae (af 3) (ae (cY (ae (af 5) (ae (aD aR (bg a7 (af 3) ah (fun _ _=>rfl)) ah) ai))) ai))))))) (fun _ _ _ _=>(af 5)))
   (ar (bN (cY (ae (bg a7 (af 4) (qd G0 hr (ae (af 0) (ae (aB bY rfl T.b_len (by kernel_rfl) (ae (af 4) ai)) ai))) (fun _ _=>rfl)) (ae (aD aR (bg a7 (af 3) ah (fun _ _=>rfl)) ah) ai)))))),fun ds M R _ hS bk=>?_⟩)
 obtain⟨ord,p,pa,l,kvs,ao,⟨a,t⟩,rfl,hM,hMa,hP,hA,hml,hx,k⟩:=hS;refine bk ?_;clear bk;simp only[aC];walk_at "rd";intro hz;refine⟨hz,aL D.str (fun m=>cB ord (a,t) (m,t+1)) D.str (fun Δ=>∃x,Δ=[none,some (D.ref pa),none,some (D.tup [D.str a,D.int t]),none,x]) ao _ _ (fun m hm Δ hΔ=>?_) ⟨none,rfl⟩ ?_⟩
 ·obtain⟨x,rfl⟩:=hΔ;refine⟨_,rfl,⟨_,rfl⟩,fun Q1 q=>?_,fun _ Q2 q=>?_⟩
  ·walk_at "rd";exact⟨sz3 2,ord,ao,pa,kvs,(a,t),(m,t+1),rfl,hMa,hA,hx,hm,_,rfl,q⟩
  ·walk_at "rd";exact q
 ·rw[List.nil_append];have hmem:a∈ao.filter (fun m=>cB ord (a,t) (m,t+1)):=List.mem_filter.mpr ⟨hx,by simp[cB,yR]⟩;have hsub:∀m∈ao.filter (fun m=>cB ord (a,t) (m,t+1)),m∈ao:=fun m h=>(List.mem_filter.mp h).1;have bH:(ao.filter (fun m=>cB ord (a,t) (m,t+1))).length<=ao.length:=List.length_filter_le _ _;generalize ao.filter (fun m=>cB ord (a,t) (m,t+1))=F at hmem hsub bH;have hpos:=List.length_pos_of_mem hmem;rw[List.length_map];refine⟨p,l,_,rfl,hM,hP,by lia,by lia,fun v l1 a0 a1 hP1=>?_⟩;obtain⟨m,hm1,e1⟩:=hG a0 a1;exact⟨_,e1,sz3 2,_,LeM.refl,k (m,t+1) l1 (hsub m hm1) hP1⟩
def i4:SpD:=fun ds M Q=>∃(ord:List (Str×Str)) (p pa:Addr) (l:List D) (kvs:List (List Key×D)) (ao:List Str) (n w:Int),ds=[.ref p,.ref pa,.lst (ao.map .str),.int n,.int w]/\M p=some (.lst l)/\M pa=some (.dT kvs)/\bA l/\Abv ord ao kvs/\ao≠[]/\ao.length<=9/\0<=n/\n<=12/\0<=w/\w<=100 /\
 ∀q (row:List (Str×Int)) l',M q=none->row.length<=24->(∀x∈row,x.1∈ao)->bA l'->Q (.ref q) (au (au M p (.lst l')) q (.lst (row.map aC)))
theorem nh(F:Fun K "_law_planted" "_law_planted" fL f fd) (T:Txt mg) (G0:FnD P w K mg base "_law_draw" 1 2 dq) (G4:FnD P w K mg base "_law_sign" 2 3 kq) (Y7:FnD P w K mg base "_law_partner" 2 4 jb):bo P w K mg base CX0 3 f fd ["_law_well_here","_law_above_here","_law_marks_here","_law_pairs","_law_wide"] (spD K 5 i4):=by
 have nd:=iq.nd;refine F.okR rfl iq (fun cdv A outer s H E hr=>⟨_,(am (aS (i:=5) nd rfl (Or.inl rfl) (lu ai))
   (am (ck PassesOwn.never rfl (bw rfl T.b_range (ae (af 3) ai)) (aW (i:=6) nd rfl (Or.inl rfl)) (am (aS (i:=7) nd rfl (Or.inl rfl) (qd G0 hr (ae (af 0) (ae (aD aR (aB bY rfl T.b_len (by kernel_rfl) (ae (af 5) ai)) ah) ai))))
   (am (aS (i:=8) nd rfl (Or.inl rfl) (qd G4 hr (ae (af 0) (ae (af 2) (ae (af 4) ai)))))
   (rP 5 (ar (aS (i:=5) nd rfl (Or.inl rfl) (Aw (aD aR (fE (af 5) jA (fS (af 7))) (ml (ae (af 8) (ae (qd Y7 hr (ae (af 0) (ae (af 1) (ae (af 2) (ae (af 8) ai))))) ai)))) (fE (af 5) (fS (af 7)) jA))))))))
   (ar (bu (af 5))))),fun ds M R _ hS bk=>?_⟩)
 obtain⟨ord,p,pa,l,kvs,ao,n,w,rfl,hM,hMa,hP,hA,hm,hml,h0,h1,h2,h3,k⟩:=hS;refine bk ?_;clear bk;walk_at "rd";have hap:pa≠p:=by rintro rfl;rw[hM]at hMa;cases hMa
 refine⟨sz3 0,fun q0 hq0=>⟨by lia,by lia,?_⟩⟩;refine aP (fun i Δ M'=>∃(q:Addr) (row:List (Str×Int)) (l':List D) (x6 x7 x8:Option D),Δ=[some (D.ref p),some (D.ref pa),some (D.lst (ao.map D.str)),some (D.int n),some (D.int w),some (D.ref q),x6,x7,x8]/\M'=au (au M p (.lst l')) q (.lst (row.map aC))/\M q=none/\bA l'/\row.length=2*i/\∀x∈row,x.1∈ao)
  ⟨q0,[],l,_,_,_,rfl,by rw[mS hM];rfl,hq0,hP,rfl,fun x hx=>absurd hx (by simp)⟩ ?_ ?_
 ·intro i d Δ M' X hd hI' k';refine shr fun _ bk=>?_;obtain⟨q,row,l1,x6,x7,x8,rfl,rfl,hMq,hP1,hrl,hrm⟩:=hI';refine bk ?_;clear bk;have hi:i<12:=by have:=(eE hd).1;lia
  have hpq:p≠q:=by rintro rfl;rw[hM]at hMq;cases hMq
  have haq:pa≠q:=by rintro rfl;rw[hMa]at hMq;cases hMq
  simp only[aV];walk_at "rd";rw[List.length_map];refine⟨p,l1,_,rfl,by rw[aJ hpq,aq],hP1,by lia,by lia,fun v l2 a0 a1 hP2=>?_⟩;refine⟨p,l2,ao,w,rfl,aq,hP2,hm,hml,h2,h3,fun m t l3 hmm hP3=>?_⟩;have em:au (au (au (au M p (.lst l1)) q (.lst (row.map aC))) p (.lst l2)) p (.lst l3)=au (au M p (.lst l3)) q (.lst (row.map aC)):=by
   rw[aN,<-cU hpq,aN]
  rw[em];walk_at "rd";rw[eh (by rw[aJ (Ne.symm hpq)];exact hMq)];refine⟨ord,p,pa,l3,kvs,ao,(m,t),rfl,aq,by rw[aJ hap];exact hMa,hP3,hA,hml,hmm,fun y l4 hy hP4=>?_⟩;rw[aN];obtain⟨n',rfl⟩:=Int.eq_ofNat_of_zero_le a0;rw[wU,pY];have lt:((row.map aC).take n').length<=24:=by rw[List.length_take,List.length_map];lia
  have ld:((row.map aC).drop n').length<=24:=by rw[List.length_drop,List.length_map];lia
  refine⟨sz3 2,_,if_pos (sz3 _ (by lia)),_,rfl,sz3 _ (by rw[List.length_append,List.length_cons,List.length_cons,List.length_nil];lia),fun r hr=>?_⟩;have hrp:r≠p:=by rintro rfl;rw[aq]at hr;cases hr
  refine k' _ _ ⟨r,row.take n'++[(m,t),y]++row.drop n',l4,_,_,_,rfl,?_,by rw[aJ hrp]at hr;exact hr,hP4,?_,fun x hx=>?_⟩
  ·rw[List.map_append,List.map_append,List.map_take,List.map_drop];rfl
  ·simp;lia
  ·rcases List.mem_append.mp hx with z|z
   ·rcases List.mem_append.mp z with z|z
    ·exact hrm x (List.mem_of_mem_take z)
    ·have:x=(m,t)∨x=y:=by simpa using z
     rcases this with rfl|rfl
     ·exact hmm
     ·exact hy
   ·exact hrm x (List.mem_of_mem_drop z)
 ·intro Δ M' hI';refine shr fun _ bk=>?_;obtain⟨q,row,l1,x6,x7,x8,rfl,rfl,hMq,hP1,hrl,hrm⟩:=hI';refine bk ?_;clear bk;rw[bE]at hrl;walk_at "rd";exact k q row l1 hMq (by lia) hrm hP1
theorem Cs{row:List (Str×Int)}:neF (.lst (row.map aC)) (.lst [])=some (.bl (!decide (row=[]))):=by
 have h1:cM (row.map aC) 59=true:=by
  rw[ik];intro d hd;obtain⟨x,_,rfl⟩:=List.mem_map.mp hd;rfl
 have h2:dLe (.lst (row.map aC)) 60=true:=h1;have h3:dLe (.lst []) 60=true:=rfl;simp only[neF,h2,h3,and_self,if_true,eqD];cases row with
 |nil=>rfl
 |cons a r=>simp[cS]
def sF:SpD:=fun ds M Q=>∃(ord:List (Str×Str)) (p pa:Addr) (l:List D) (kvs:List (List Key×D)) (ao:List Str),ds=[.ref p,.ref pa,.lst (ao.map .str)]/\M p=some (.lst l)/\M pa=some (.dT kvs)/\bA l/\Abv ord ao kvs/\ao≠[]/\ao.length<=9 /\
 ∀(row:List (Str×Int)) l',row.length<=24->(∀x∈row,x.1∈ao)->bA l'->Q (.lst (row.map aC)) (au M p (.lst l'))
theorem wz(F:Fun K "_law_row" "_law_row" jD f fd) (T:Txt mg) (G0:FnD P w K mg base "_law_draw" 1 2 dq) (Y4:FnD P w K mg base "_law_planted" 3 5 i4) (G4:FnD P w K mg base "_law_sign" 2 3 kq):bo P w K mg base CX0 4 f fd ["_law_well_here","_law_above_here","_law_marks_here"] (spD K 3 sF):=by
 have nd:=oC.nd;refine F.okR rfl oC (fun cdv A outer s H E hr=>⟨_,(am (aS (i:=3) nd rfl (Or.inl rfl) (bg a7 (ml (ae ah (ae ah (ae ah (ae ah (ae ah (ae ah (ae ah (ae ah ai))))))))) (qd G0 hr (ae (af 0) (ae ah ai))) (fun _ _=>rfl)))
   (am (aS (i:=4) nd rfl (Or.inr rfl) (bg a7 (ml (ae ah (ae ah (ae ah (ae ah ai))))) (qd G0 hr (ae (af 0) (ae ah ai))) (fun _ _=>rfl)))
   (am (aS (i:=5) nd rfl (Or.inl rfl) (qd G0 hr (ae (af 0) (ae ah ai))))
   (am (bz (aQ (gq hr.units) (af 5) ah nbh) (ar (bu (e9 (ms:=[true,false,true,false,true,false,false]) (ag:=["_law_k"]) (aG rfl (show aO (aj jD) ny _ _=true from by decide +kernel)) rfl (bw rfl T.b_range (ae (qd G0 hr (ae (af 0) (ae (aD aR (aD c8 ah (af 3)) ah) ai))) ai)) (aF (i:=7) (show(ny++_).Nodup from by decide +kernel) rfl rfl) (fun _ _ _ _=>bX) (fun _ _ _ _=>(qd G4 hr (ae (af 0) (ae (af 2) (ae (af 4) ai)))))))) aU)
   (am (aS (i:=6) nd rfl (Or.inl rfl) (qd Y4 hr (ae (af 0) (ae (af 1) (ae (af 2) (ae (qd G0 hr (ae (af 0) (ae (aD aR (af 3) ah) ai))) (ae (af 4) ai)))))))
   (am (bz (lD (iB (aQ (gq hr.units) (af 5) ah nbh) (ij (aQ (tU hr.units) (af 6) (ml ai) nbh)))) (ar (w6 (af 6) (qd G0 hr (ae (af 0) (ae (aB bY rfl T.b_len (by kernel_rfl) (ae (af 6) ai)) ai))) (qd G4 hr (ae (af 0) (ae (af 2) (ae (af 4) ai)))))) aU)
   (ar (uN (af 6))))))))),fun ds M R _ hS bk=>?_⟩)
 obtain⟨ord,p,pa,l,kvs,ao,rfl,hM,hMa,hP,hA,hm,hml,k⟩:=hS;refine bk ?_;clear bk;walk_at "rd";have hap:pa≠p:=by rintro rfl;rw[hM]at hMa;cases hMa
 refine⟨sz3 8,p,l,8,rfl,hM,hP,by decide,by decide,fun v1 l1 a0 a1 hP1=>?_⟩;obtain⟨sz,hsz,ez⟩:=vX (l:=[6,6,8,8,8,8,8,12]) a0 (by simpa using a1);have hs12:sz<=12:=by simp only[List.mem_cons,List.not_mem_nil,or_false]at hsz;lia
 refine⟨_,ez,?_⟩;refine⟨sz3 4,p,l1,4,rfl,aq,hP1,by decide,by decide,fun v0 l0 a0' a1' hP0=>?_⟩;obtain⟨w,hw,ew⟩:=vX (l:=[1,1,1,98]) a0' (by simpa using a1');have hw1:(w:Int)<=100:=by simp only[List.mem_cons,List.not_mem_nil,or_false]at hw;lia
 have hw0:(0:Int)<=w:=by lia
 refine⟨_,ew,?_⟩;rw[aN];walk_at "rd";refine⟨p,l0,3,rfl,aq,hP0,by decide,by decide,fun v2 l2 b0 b1 hP2=>?_⟩;rw[aN];walk_at "rd";refine cF (fun h=>?_) (fun h=>?_)
 ·refine⟨p,l2,2*(sz:Int)+1,rfl,aq,hP2,by lia,by lia,fun v3 l3 c0 c1 hP3=>?_⟩;rw[aN];refine⟨v3,rfl,by lia,by lia,by rw[bE];exact sz3 _ (by lia),?_⟩;refine kc (fun i acc Δ M'=>∃(x:Option D) (row:List (Str×Int)) (l':List D),Δ=[some (D.ref p),none,some (D.lst (ao.map .str)),none,some (D.int w),none,none,x]/\M'=au M p (.lst l')/\bA l'/\acc=row.map aC/\row.length=i/\∀x∈row,x.1∈ao) ⟨_,[],l3,rfl,rfl,hP3,rfl,rfl,fun x hx=>absurd hx (by simp)⟩ ?_ ?_
  ·intro i d acc Δ M' X hd hI' k';refine shr fun _ bk=>?_;obtain⟨x,row,l',rfl,rfl,hP',rfl,hrl,hrm⟩:=hI';refine bk ?_;clear bk;refine⟨_,rfl,?_⟩;walk_at "rd";simp only[vQ,if_true];refine⟨p,l',ao,w,rfl,aq,hP',hm,hml,hw0,hw1,fun m t l4 hmm hP4=>?_⟩;rw[aN];refine k' _ _ _ ⟨_,row++[(m,t)],l4,rfl,rfl,hP4,by simp,by simp;assumption,fun x hx=>?_⟩;rcases List.mem_append.mp hx with z|z
   ·exact hrm x z
   ·obtain rfl:x=(m,t):=by simpa using z
    exact hmm
  ·intro acc Δ M' hI';refine shr fun _ bk=>?_;obtain⟨x,row,l',rfl,rfl,hP',rfl,hrl,hrm⟩:=hI';refine bk ?_;clear bk;rw[bE]at hrl;exact k row l' (by lia) hrm hP'
 ·refine⟨p,l2,(sz:Int)+1,rfl,aq,hP2,by lia,by lia,fun v3 l3 c0 c1 hP3=>?_⟩;rw[aN];refine⟨ord,p,pa,l3,kvs,ao,v3,w,rfl,aq,by rw[aJ hap];exact hMa,hP3,hA,hm,hml,c0,by lia,hw0,hw1,fun q row l4 hq hrl hrm hP4=>?_⟩;have hpq:q≠p:=by rintro rfl;rw[aq]at hq;cases hq
  have hMq:M q=none:=by rw[aJ hpq]at hq;exact hq
  rw[aN];have hrd:∀l r,rdM (au (au M p (.lst l)) q (.lst r)) (.ref q)=.lst r:=fun l r=>m8 aq;have hcm:∀l r l',au (au (au M p (.lst l)) q (.lst r)) p (.lst l')=au (au M p (.lst l')) q (.lst r):=fun l r l'=>by rw[<-cU (Ne.symm hpq),aN]
  have fin:∀(l:List D) (r:List (Str×Int)),bA l->r.length<=24->(∀x∈r,x.1∈ao)->R (.lst (r.map aC)) (eY (au (au M p (.lst l)) q (.lst (r.map aC))) q):=fun l r a b c=>by
   rw[eh (by rw[aJ hpq];exact hMq)];exact k r l b c a
  walk_at "rd";refine cF (fun _=>⟨sz3 0,_,Cs,_,rfl,cF (fun hn=>?_) (fun _=>fin l4 row hP4 hrl hrm)⟩) (fun _=>fin l4 row hP4 hrl hrm);have hne:row≠[]:=by simpa using hn
  have hrp:=List.length_pos_iff.mpr hne;refine⟨p,l4,ao,w,rfl,by rw[aJ (Ne.symm hpq),aq],hP4,hm,hml,hw0,hw1,fun m t l5 hmm hP5=>?_⟩;rw[hcm];walk_at "rd";rw[List.length_map];refine⟨p,l5,_,rfl,by rw[aJ (Ne.symm hpq),aq],hP5,by lia,by lia,fun v4 l6 d0 d1 hP6=>?_⟩;rw[hcm];obtain⟨n',rfl⟩:=Int.eq_ofNat_of_zero_le d0;have hn':n'<row.length:=by lia
  refine⟨_,_,rfl,aq,n',by rw[List.length_map];unfold ixN;simp[hn'],?_⟩;have es:(row.map aC).set n' (aC (m,t))=(row.set n' (m,t)).map aC:=by rw[List.map_set]
  rw[aN,es];refine fin l6 _ hP6 (by rw[List.length_set];exact hrl) (fun x hx=>?_);rcases List.mem_or_eq_of_mem_set hx with z|z
  ·exact hrm x z
  ·rw[z];exact hmm
theorem oq{ord:List (Str×Str)}{a x y:Str}(h:aX (sw ord) a x) (hm:(x,y)∈ord∨(y,x)∈ord):aX (sw ord) a y:=by
 refine aX.step h ?_;unfold sw;rcases hm with z|z
 ·exact List.mem_append_left _ z
 ·exact List.mem_append_right _ (List.mem_map.mpr ⟨_,z,rfl⟩)
def Two(ord:List (Str×Str)) (L0 L:List Str):Prop:=∀y∈ord,(y.1∈L0∨y.2∈L0)->y.1∈L/\y.2∈L
theorem uI{ord:List (Str×Str)}{L:List Str}(h:Two ord L L):∀y∈sw ord,y.1∈L->y.2∈L:=fun y hy h1=>by
 unfold sw at hy;rcases List.mem_append.mp hy with z|z
 ·exact(h y z (.inl h1)).2
 ·obtain⟨x,hx,rfl⟩:=List.mem_map.mp z;exact(h x hx (.inr h1)).1
def bth(ord:List (Str×Str)):List Str:=ord.flatMap fun y=>[y.1,y.2]
theorem rX(ord:List (Str×Str)):(bth ord).length=2*ord.length:=by
 unfold bth
 induction ord with
 |nil=>rfl
 |cons y ord ih=>rw[List.flatMap_cons,List.length_append,ih];simp;lia
theorem jE{ord:List (Str×Str)}{y:Str×Str}(h:y∈ord):y.1∈bth ord/\y.2∈bth ord:=⟨List.mem_flatMap.mpr ⟨y,h,by simp⟩,List.mem_flatMap.mpr ⟨y,h,by simp⟩⟩
def k6(L:List Str) (x:Str):List Str:=if x∈L then L else L++[x]
theorem pE{L:List Str}{x y:Str}:y∈k6 L x↔y∈L∨y=x:=by
 unfold k6
 split
 ·rename_i h;exact⟨.inl,fun z=>z.elim id fun e=>e▸h⟩
 ·simp
theorem sd{L:List Str}{x:Str}(h:L.Nodup):(k6 L x).Nodup:=by
 unfold k6
 split
 ·exact h
 ·rename_i hx;rw[List.nodup_append];refine⟨h,by simp,fun u hu v hv=>?_⟩;obtain rfl:v=x:=by simpa using hv
  rintro rfl;exact hx hu
theorem n8{L:List Str}{x:Str}:∃s,k6 L x=L++s:=by
 unfold k6
 split
 ·exact⟨[],by simp⟩
 ·exact⟨[x],rfl⟩
theorem p6{L:List Str}{x:Str}:dR (de L) (.inr x) (.bl true)=de (k6 L x):=by
 rw[sy];unfold k6;split<;>rfl
def pL:SpD:=fun ds M Q=>∃(ord:List (Str×Str)) (a:Str),ds=[.tup (ord.map aH),.str a]/\ord.length<=20 /\
 ∀p L,M p=none->(∀x,x∈L↔aX (sw ord) a x)->Q (.ref p) (au M p (.dK (de L)))
theorem uo(F:Fun K "_law_hang" "_law_hang" jY f fd) (T:Txt mg) :bo P w K mg base CX0 1 f fd ["_law_order_here","_law_mark"] (spD K 2 pL):=by
 have nd:=mT.nd;refine F.okR rfl mT (fun cdv A outer s H E hr=>⟨_,(am (aS (i:=2) nd rfl (Or.inl rfl) (rJ (af 1) ie))
   (am (ck PassesOwn.never rfl (bw rfl T.b_range (ae (aD c8 ah (aB bY rfl T.b_len (by kernel_rfl) (ae (af 0) ai))) ai)) (aW (i:=3) nd rfl (Or.inl rfl)) (ar (ck PassesOwn.never rfl (bI (af 0)) (mO rfl (cJ (aW (i:=4) nd rfl (Or.inl rfl)) (cJ (aW (i:=5) nd rfl (Or.inl rfl)) mn))) (ar (bz (lD (pR (nt false rfl hr.units1 (af 4) (af 2) rfl) (ko (nt false rfl hr.units1 (af 5) (af 2) rfl)))) (am (qf hr.units1 (af 2) (af 4) ie)
   (ar (qf hr.units1 (af 2) (af 5) ie))) aU)))))
   (ar (bu (af 2))))),fun ds M R _ hS bk=>?_⟩)
 obtain⟨ord,a,rfl,ho,k⟩:=hS;refine bk ?_;clear bk;walk_at "rd";intro r hr;rw[List.length_map];refine⟨by lia,by lia,?_⟩;refine aP (fun t Δ M'=>∃(L:List Str) (x3 x4 x5:Option D),Δ=[some (D.tup (ord.map aH)),some (D.str a),some (D.ref r),x3,x4,x5]/\M'=au M r (.dK (de L))/\L.Nodup/\a∈L/\(∀x∈L,aX (sw ord) a x)/\(∀x∈L,x∈a::bth ord)/\(Two ord L L∨t+1<=L.length))
   ⟨[a],_,_,_,rfl,rfl,by simp,by simp,fun x hx=>?_,fun x hx=>?_,.inr (by simp)⟩ ?_ ?_
 ·obtain rfl:x=a:=by simpa using hx
  exact aX.refl
 ·obtain rfl:x=a:=by simpa using hx
  simp
 ·intro t d Δ M' X2 hd2 hI' k2;refine shr fun _ bk=>?_;obtain⟨L0,x3,x4,x5,rfl,rfl,hn0,ha0,hs0,hb0,hc0⟩:=hI';refine bk ?_;clear bk;simp only[aV];walk_at "rd";intro hz2;refine aP (fun j Δ M'=>∃(L:List Str) (x3 x4 x5:Option D),Δ=[some (D.tup (ord.map aH)),some (D.str a),some (D.ref r),x3,x4,x5]/\M'=au M r (.dK (de L))/\(∃s,L=L0++s)/\L.Nodup/\(∀x∈L,aX (sw ord) a x)/\(∀x∈L,x∈a::bth ord)/\(∀y∈ord.take j,(y.1∈L0∨y.2∈L0)->y.1∈L/\y.2∈L))
    ⟨L0,_,_,_,rfl,rfl,⟨[],by simp⟩,hn0,hs0,hb0,fun y hy=>absurd hy (by simp)⟩ ?_ ?_
  ·intro j d Δ M' X3 hd3 hI' k3;refine shr fun _ bk=>?_;obtain⟨L,x3,x4,x5,rfl,rfl,⟨s2,hs2⟩,hn,hs,hb,hc⟩:=hI';refine bk ?_;clear bk;obtain⟨⟨y1,y2⟩,hy,rfl⟩:=fT hd3;have hjy:ord[j]?=some (y1,y2):=hy;have hmem:(y1,y2)∈ord:=List.mem_of_getElem? hjy;have htk:ord.take (j+1)=ord.take j++[(y1,y2)]:=by rw[List.take_add_one,hjy];rfl
   have bH:L.length<=2*ord.length+1:=by
    have:=cw L (a::bth ord) hn hb;rw[List.length_cons,rX]at this;exact this
   simp only[aH,fG,cO,aV,ic,Option.bind_some];refine⟨_,rfl,?_⟩;walk_at "rd";simp only[Bool.false_xor,jC];have hput:(y1∈L∨y2∈L)->(de L).length<sizeLine/\(dR (de L) (Sum.inr y1) (D.bl true)).length<sizeLine/\X3 [some (D.tup (ord.map aH)),some (D.str a),some (D.ref r),x3,some (D.str y1),some (D.str y2)] (au M r (.dK (dR (dR (de L) (.inr y1) (.bl true)) (.inr y2) (.bl true)))):=fun hin=>by
    have hl1:(de L).length=L.length:=by unfold de;rw[List.length_map]
    have hl2:=bZ (de L) (Sum.inr y1) (D.bl true);refine⟨Nat.lt_of_lt_of_le (by lia:_<1000) (sz3 1000),Nat.lt_of_lt_of_le (by lia:_<1000) (sz3 1000),?_⟩;rw[p6,p6];obtain⟨s3,e3⟩:=n8 (L:=L) (x:=y1);obtain⟨s4,e4⟩:=n8 (L:=k6 L y1) (x:=y2);have hmm:∀x,x∈k6 (k6 L y1) y2↔(x∈L∨x=y1)∨x=y2:=fun x=>by rw[pE,pE]
    have hr1:aX (sw ord) a y1/\aX (sw ord) a y2:=by
     rcases hin with z|z
     ·exact⟨hs _ z,oq (hs _ z) (.inl hmem)⟩
     ·exact⟨oq (hs _ z) (.inr hmem),hs _ z⟩
    refine k3 _ _ ⟨_,_,_,_,rfl,rfl,⟨s2++s3++s4,by rw[e4,e3,hs2];simp⟩,sd (sd hn),fun x hx=>?_,fun x hx=>?_,fun y hy hy0=>?_⟩
    ·rcases(hmm x).mp hx with(z|rfl)|rfl
     ·exact hs x z
     ·exact hr1.1
     ·exact hr1.2
    ·rcases(hmm x).mp hx with(z|rfl)|rfl
     ·exact hb x z
     ·exact List.mem_cons_of_mem _ (jE hmem).1
     ·exact List.mem_cons_of_mem _ (jE hmem).2
    ·rw[htk]at hy;rcases List.mem_append.mp hy with z|z
     ·obtain⟨h1,h2⟩:=hc y z hy0;exact⟨(hmm _).mpr (.inl (.inl h1)),(hmm _).mpr (.inl (.inl h2))⟩
     ·obtain rfl:y=(y1,y2):=by simpa using z
      exact⟨(hmm _).mpr (.inl (.inr rfl)),(hmm _).mpr (.inr rfl)⟩
   refine cF (fun h=>hput (.inl (by simpa using h))) (fun h=>cF (fun h'=>hput (.inr (by simpa using h'))) (fun h'=>?_));refine k3 _ _ ⟨L,_,_,_,rfl,rfl,⟨s2,hs2⟩,hn,hs,hb,fun y hy hy0=>?_⟩;rw[htk]at hy;rcases List.mem_append.mp hy with z|z
   ·exact hc y z hy0
   ·obtain rfl:y=(y1,y2):=by simpa using z
    rcases hy0 with z|z
    ·exact absurd (by rw[hs2];exact List.mem_append_left _ z) (show y1∉L by simpa using h)
    ·exact absurd (by rw[hs2];exact List.mem_append_left _ z) (show y2∉L by simpa using h')
  ·intro Δ M' hI';refine shr fun _ bk=>?_;obtain⟨L,x3,x4,x5,rfl,rfl,⟨s2,hs2⟩,hn,hs,hb,hc⟩:=hI';refine bk ?_;clear bk;rw[List.length_map,List.take_length]at hc;refine k2 _ _ ⟨L,_,_,_,rfl,rfl,hn,by rw[hs2];exact List.mem_append_left _ ha0,hs,hb,?_⟩;cases s2 with
   |nil =>
    rw[List.append_nil]at hs2;subst hs2;exact .inl hc
   |cons u us =>
    rcases hc0 with h|h
    ·refine .inl fun y hy hy1=>?_;have cl:∀x,aX (sw ord) a x->x∈L0:=fun x hx=>eC ha0 (uI h) hx;exact hc y hy (hy1.imp (fun z=>cl _ (hs _ z)) fun z=>cl _ (hs _ z))
    ·right;rw[hs2];simp;lia
 ·intro Δ M' hI';refine shr fun _ bk=>?_;obtain⟨L,x3,x4,x5,rfl,rfl,hn,haL,hs,hb,hc⟩:=hI';refine bk ?_;clear bk;rw[bE]at hc;have hcl:Two ord L L:=by
   rcases hc with h|h
   ·exact h
   ·intro y hy _;have all:=lZ hn hb (by rw[List.length_cons,rX];assumption);exact⟨all _ (List.mem_cons_of_mem _ (jE hy).1),all _ (List.mem_cons_of_mem _ (jE hy).2)⟩
  walk_at "rd";exact k r L hr fun x=>⟨hs x,eC haL (uI hcl)⟩
theorem Bc{ord:List (Str×Str)}{row:List (Str×Int)}{a:Str}:((row.filter fun y=>rB (sw ord) a y.1).map fun y=>1-2*(y.2 % 2)).sum=- hs ord row a:=by
 unfold hs;generalize (row.filter fun y=>rB (sw ord) a y.1)=l
 induction l with
 |nil=>rfl
 |cons y l ih =>
  rw[List.map_cons,List.map_cons,List.sum_cons,List.sum_cons,ih]
  split<;>lia
def jm:SpD:=fun ds M Q=>∃(ord:List (Str×Str)) (row:List (Str×Int)) (a:Str),ds=[.tup (ord.map aH),.tup (row.map aC),.str a]/\ord.length<=20/\row.length<=24/\Q (.bl (!decide (hs ord row a=0))) M
theorem m7(F:Fun K "_law_counted" "_law_counted" dA f fd) (T:Txt mg) (ga5:FnD P w K mg base "_law_hang" 1 2 pL):bo P w K mg base CX0 2 f fd ["_law_order_here","_law_row_here","_law_mark"] (spD K 3 jm):=by
 have nd:=ix.nd;refine F.okR rfl ix (fun cdv A outer s H E hr=>⟨_,(am (aS (i:=3) nd rfl (Or.inr rfl) (qd ga5 hr (ae (af 0) (ae (af 2) ai))))
   (ar (bN (fZ (tU hr.units) (aB (uY rfl) rfl T.b_sum (by kernel_rfl) (ae (e9 (ms:=[false,false,false,true]) (ag:=["_law_sign_here"]) (aG rfl (show aO (aj dA) fJ _ _=true from by decide +kernel)) rfl (bI (af 1)) (aF (i:=4) (show(fJ++_).Nodup from by decide +kernel) rfl rfl) (fun _ _ _ _=>(gF (nt false rfl hr.units1 (bg a7 (af 4) ah (fun _ _=>rfl)) (af 3) rfl))) (fun _ _ _ _=>(aD pF ah (aD c8 ah (aD ft (bg a7 (af 4) ah (fun _ _=>rfl)) ah))))) ai)) ah nbh)))),fun ds M R _ hS bk=>?_⟩)
 obtain⟨ord,row,a,rfl,ho,hl,k⟩:=hS;refine bk ?_;clear bk;walk_at "rd";refine⟨ord,a,rfl,ho,fun p L hp hL hz=>⟨hz,aL aC (fun y=>rB (sw ord) a y.1) (fun y=>D.int (1-2*(y.2 % 2))) (fun Δ=>∃x,Δ=[none,none,none,some (D.ref p),x]) row _ _ (fun y hy Δ hΔ=>?_) ⟨none,rfl⟩ ?_⟩⟩
 ·obtain⟨x,rfl⟩:=hΔ;obtain⟨y1,y2⟩:=y;refine⟨_,rfl,⟨_,rfl⟩,fun Q1 q=>?_,fun _ Q2 q=>?_⟩
  ·simp only[aC];walk_at "rd";rw[Bool.false_xor,jC];have e:decide (y1∈L)=rB (sw ord) a y1:=by rw[Bool.eq_iff_iff,decide_eq_true_eq,iY,hL]
   rw[e];exact q
  ·simp only[aC];walk_at "rd";exact q
 ·rw[List.nil_append];have e:∀l:List (Str×Int),l.map (fun y=>D.int (1-2*(y.2 % 2)))=(l.map fun y=>1-2*(y.2 % 2)).map D.int:=fun l=>by rw[List.map_map];rfl
  rw[e];refine⟨_,qD,_,lg,M,eP hp,?_⟩;rw[Bc];have e2:(!(-hs ord row a==0))=!decide (hs ord row a=0):=by
   by_cases c:hs ord row a=0
   ·simp[c]
   ·simp[c]
  rw[e2];exact k
def l8:SpD:=fun ds M Q=>∃(x n:Nat),ds=[.int x,.int n]/\Q (.bl (decide (x<=n))) M
theorem qU(F:Fun K "_law_place" "_law_place" iO f fd) (T:Txt mg) :bo P w K mg base CX0 1 f fd ["_law_thing","_law_size"] (spD K 2 l8):=by
 have nd:=jT.nd;refine F.okR rfl jT (fun cdv A outer s H E hr=>⟨_,(ar (bu (jd (pB (Tn:="int") (by decide) rfl T.b_isinstance rfl T.b_int (by kernel_rfl) (af 0)) (jd (Dg (pB (Tn:="bool") (by decide) rfl T.b_isinstance rfl T.b_bool (by kernel_rfl) (af 0))) (jd (fZ AZ ah (af 0) nbh) (oi (fZ AZ (af 0) (af 1) nbh))))))),fun ds M R _ hS bk=>?_⟩);obtain⟨x,n,rfl,k⟩:=hS;refine bk ?_;clear bk;walk_at "rd";refine⟨true,rfl,?_⟩;rw[if_pos rfl];refine⟨false,rfl,?_⟩;rw[if_pos (show(!false)=true from rfl),if_pos (by lia)];have e:decide ((x:Int)<=(n:Int))=decide (x<=n):=by simp
 rw[e];exact k
theorem uS{α:Type}{f:α->Nat}:∀{l:List α}{x:α},x∈l->f x<=(l.map f).sum
 |[],x,h=>by cases h
 |y::l,x,h=>by
  rw[List.map_cons,List.sum_cons];rcases List.mem_cons.mp h with rfl|h
  ·lia
  ·have:=uS (f:=f) h;lia
theorem sv{row:List (Str×Int)}{a b c:Nat}(h:a<=b) (h':b<=c):seg row a c=seg row a b++seg row b c:=by
 have e:=List.take_append_drop (b-a) (seg row a c);rw[oK (by lia),pI,show a+(b-a)=b by lia]at e;exact e.symm
section
variable{R:Str×Int->Str×Int->Bool}{row:List (Str×Int)}{ps:List (Nat×Nat)}
theorem Clo.join(h:Clo R row ps) {a b c:Nat}(h1:(a,b)∈ps) (h2:(b,c)∈ps):(a,c)∈ps:=by
 obtain⟨p1,p2,p3⟩:=(h.2.2.1 a b).mp h1;obtain⟨q1,q2,q3⟩:=(h.2.2.1 b c).mp h2;refine(h.2.2.1 a c).mpr ⟨by exact Nat.le_trans (by assumption) (by assumption),q2,?_⟩;rw[sv p1 q1];have:=Eo (R:=R) (seg row a b) _ [] (seg row b c) (Nat.le_refl _);rw[List.nil_append,List.nil_append]at this;exact Nat.lt_of_lt_of_le (Nat.mul_pos q3 p3) this
theorem Clo.round(h:Clo R row ps) {a b:Nat}(h1:(a,b)∈ps) (ha:0<a) (hb:b<row.length) (hc:R (sg row (a-1)) (sg row b)=true):(a-1,b+1)∈ps:=by
 obtain⟨p1,p2,p3⟩:=(h.2.2.1 a b).mp h1;refine(h.2.2.1 _ _).mpr ⟨by lia,hb,?_⟩;have e:seg row (a-1) (b+1)=sg row (a-1)::(seg row a b++[sg row b]):=by
  rw[kN (by lia) hb,show a-1+1=a by lia,sv p1 (Nat.le_succ b),kN (Nat.lt_succ_self b) hb,gL]
 rw[e,fc];have hm:(seg row a b,sg row b,([]:List (Str×Int)))∈gg (seg row a b++[sg row b]):=by
  rw[fb];refine List.mem_append_right _ (List.mem_map.mpr ⟨([],sg row b,[]),?_,by simp⟩);simp[gg]
 have:=uS (f:=fun c:List (Str×Int)×(Str×Int)×List (Str×Int)=>if R (sg row (a-1)) c.2.1 then W R c.1*W R c.2.2 else 0) hm;simp only[hc,if_true,gJ,Nat.mul_one]at this;exact Nat.lt_of_lt_of_le (by assumption) (by assumption)
theorem Clo.diag(h:Clo R row ps) {p:Nat}(hp:p<=row.length):(p,p)∈ps:=(h.2.2.1 p p).mpr ⟨Nat.le_refl _,hp,by rw[gL,gJ];decide⟩
theorem Clo.whole(h:Clo R row ps) (hW:W R row=0):(0,row.length)∉ps:=fun z=>by
 have:=((h.2.2.1 _ _).mp z).2.2;rw[n5,hW]at this;lia
theorem Clo.le(h:Clo R row ps) {a b:Nat}(h1:(a,b)∈ps):a<=b/\b<=row.length:=let q:=(h.2.2.1 a b).mp h1;⟨q.1,q.2.1⟩
end
theorem ug{τ:Type}:∀{xs:List τ},xs.Nodup->e7 xs=xs:=by
 intro xs hn;have key:∀(xs zs:List τ),(zs++xs).Nodup->xs.foldl eV zs=zs++xs:=by
  intro xs
  induction xs with
  |nil=>intro zs _;simp
  |cons x xs ih =>
   intro zs h;have hx:x∉zs:=fun z=>by
    rw[List.nodup_append]at h;exact h.2.2 x z x (.head _) rfl
   rw[List.foldl_cons,show eV zs x=zs++[x]from if_neg hx,ih _ (by simpa using h)];simp
 have:=key xs [] (by simpa using hn);simpa[e7]using this
theorem eqN:∀x y:Nat×Nat,eqD (nD x) (nD y)=decide (x=y):=fun⟨a,b⟩ ⟨c,d⟩=>by
 rw[Bool.eq_iff_iff];simp[nD,eqD,cS];lia
theorem C7(x:Nat×Nat):dLe (nD x) 59=true:=rfl
theorem zR{ps:List (Nat×Nat)}(h:ps.Nodup):(ps.map kP).Nodup:=by
 rw[List.nodup_iff_pairwise_ne,List.pairwise_map];exact(List.nodup_iff_pairwise_ne.mp h).imp fun h e=>h (nM e)
theorem dpN{ps:List (Nat×Nat)}:∀k∈ps.map kP,dpK 8 (.tup k):=fun k hk=>by
 obtain⟨x,_,rfl⟩:=List.mem_map.mp hk;intro z hz;simp only[kP,List.mem_cons,List.not_mem_nil,or_false]at hz;rcases hz with rfl|rfl<;>simp[dpK]
theorem D5(ps:List (Nat×Nat)):ps.map nD=(ps.map kP).map bS:=by rw[List.map_map];rfl
theorem nQ{α:Type}(l:List α):vB (.lst (l.map fun _=>D.bl true))=some (.bl true):=by
 have h1:(l.map fun _=>D.bl true).all vm=true:=by
  rw[List.all_eq_true];intro d hd;obtain⟨_,_,rfl⟩:=List.mem_map.mp hd;rfl
 have h2:(l.map fun _=>D.bl true).all tG=true:=by
  rw[List.all_eq_true];intro d hd;obtain⟨_,_,rfl⟩:=List.mem_map.mp hd;rfl
 simp only[vB,h1,h2,if_true]
theorem xO{α:Type} [DecidableEq α] (f:α->D) (hf:∀x y,eqD (f x) (f y)=decide (x=y)) (hl:∀x,dLe (f x) 59=true) {a b:List α}:neF (.lst (a.map f)) (.lst (b.map f))=some (.bl (!decide (a=b))):=by
 have h1:dLe (.lst (a.map f)) 60=true:=oS f hl;have h2:dLe (.lst (b.map f)) 60=true:=oS f hl;simp only[neF,h1,h2,and_self,if_true,eqD,sH f hf]
theorem sk{g:Nat->D}{k:Nat}:∀{l:List Nat},k∈l->bp (l.map fun(k:Nat)=>((Sum.inl (k:Int):Key),g k)) (.inl (k:Int))=some (g k)
 |[],h=>by cases h
 |j::l,h=>by
  rw[List.map_cons]
  by_cases e:j=k
  ·subst e;exact br rfl
  ·rw[bt (fun z=>e (Int.ofNat.inj (Sum.inl.inj z)))];exact sk ((List.mem_cons.mp h).resolve_left (Ne.symm e))
theorem uh{g:Nat->D}{n k:Nat}(h:k<n):bp ((List.range n).map fun(k:Nat)=>((Sum.inl (k:Int):Key),g k)) (.inl (k:Int))=some (g k):=sk (List.mem_range.mpr h)
def kO:SpD:=fun ds M Q=>∃(ord:List (Str×Str)) (ao:List Str) (pa:Addr) (kvs:List (List Key×D)) (row:List (Str×Int)) (ps:List (Nat×Nat)),ds=[.ref pa,.tup (row.map aC),.tup (ps.map nD)]/\M pa=some (.dT kvs)/\Abv ord ao kvs/\row.length<=24/\(∀x∈row,x.1∈ao)/\Clo (cB ord) row ps/\W (cB ord) row=0/\Q (.bl true) M
theorem pG(F:Fun K "_law_closed" "_law_closed" bv f fd) (T:Txt mg) (G2:FnD P w K mg base "_law_cancels" 1 3 dF) (Y1:FnD P w K mg base "_law_place" 1 2 l8):bo P w K mg base CX0 2 f fd ["_law_above_here","_law_row_here","_law_pairs"] (spD K 3 kO):=by
 have nd:=i6.nd;refine F.okR rfl i6 (fun cdv A outer s H E hr=>⟨_,(am (aS (i:=3) nd rfl (Or.inr rfl) (aB bY rfl T.b_len (by kernel_rfl) (ae (af 1) ai)))
   (jh (am (bz (lD (pR (kF (dO (pB (Tn:="tuple") (by decide) rfl T.b_isinstance rfl T.b_tuple (by kernel_rfl) (af 2)))) (ko (kF (dO (aB (oX rfl) rfl T.b_all (by kernel_rfl) (ae (e9 (ms:=[false,false,false,false,false,false,false,false]) (ag:=["_law_pair"]) (aG rfl (show aO (aj bv) aE _ _=true from by decide +kernel)) rfl (bI (af 2)) (aF (i:=8) (show(aE++_).Nodup from by decide +kernel) rfl rfl) (fun _ _ _ _=>bX) (fun _ _ _ _=>(jd (pB (Tn:="tuple") (by decide) rfl T.b_isinstance rfl T.b_tuple (by kernel_rfl) (af 8)) (oi (fZ (gq hr.units) (aB bY rfl T.b_len (by kernel_rfl) (ae (af 8) ai)) ah nbh))))) ai))))))) (ar (bN ie)) aU)
   (jh (am (bz (kF (dO (aB (oX rfl) rfl T.b_all (by kernel_rfl) (ae (e9 (ms:=[false,false,false,true,false,false,false,false]) (ag:=[]) (aG rfl (show aO (aj bv) aE _ _=true from by decide +kernel)) rfl (bI (af 2)) (iQ (n:=2) rfl (bV (aF (i:=4) (show(aE++_).Nodup from by decide +kernel) rfl rfl) (bV (aF (i:=5) (show(aE++_).Nodup from by decide +kernel) rfl rfl) iH))) (fun _ _ _ _=>bX) (fun _ _ _ _=>(jd (qd Y1 hr (ae (af 4) (ae (af 3) ai))) (jd (qd Y1 hr (ae (af 5) (ae (af 3) ai))) (oi (fZ AZ (af 4) (af 5) nbh)))))) ai)))) (ar (bN ie)) aU)
   (jh (am (bz (lD (pR (aQ (tU hr.units) (dY AC rfl T.b_list (by kernel_rfl) (ae (af 2) ai)) (DJ rfl hr.units rfl T.b_sorted rfl T.b_set (af 2)) nbh) (ko (aQ (BH hr.units) (cY (ae ah (ae (af 3) ai))) (af 2) rfl)))) (ar (bN ie)) aU)
   (jh (am (aS (i:=6) nd rfl (Or.inr rfl) (xQ rfl hr.units rfl T.b_dict (e9 (ms:=[false,false,false,false,false,false,false,false]) (ag:=["_law_pair"]) (aG rfl (show aO (aj bv) aE _ _=true from by decide +kernel)) rfl (bI (af 2)) (aF (i:=8) (show(aE++_).Nodup from by decide +kernel) rfl rfl) (fun _ _ _ _=>bX) (fun _ _ _ _=>(cY (ae (af 8) (ae ie ai)))))))
   (jh (am (aS (i:=7) nd rfl (Or.inl rfl) (xk rfl rfl T.b_dict (zO (ms:=[false,false,true,false,false,false,false,false]) (ag:=["_law_place_here"]) (kG rfl (show eB (aj bv) aE _ _=true from by decide +kernel)) rfl (bw rfl T.b_range (ae (aD aR (af 3) ah) ai)) (ou (i:=8) (show(aE++_).Nodup from by decide +kernel) rfl rfl rfl) (fun S _ _ _ _=>bX) (fun S _ _ _ _=>(cY (ae (af 8) (ae (e9 (ms:=[false,false,false,false,false,false,false,false,true]) (ag:=[]) (mQ S (show aO (iw _ (aj bv)) (aE++(["_law_place_here"]:List Str)) _ _=true from by decide +kernel)) rfl (bI (af 2)) (iQ (n:=2) rfl (bV (aF (i:=4) (show((aE++(["_law_place_here"]:List Str))++_).Nodup from by decide +kernel) rfl rfl) (bV (aF (i:=5) (show((aE++(["_law_place_here"]:List Str))++_).Nodup from by decide +kernel) rfl rfl) iH))) (fun _ _ _ _=>(gF (aQ (gq hr.units) (af 4) (af 8) nbh))) (fun _ _ _ _=>(af 5))) ai)))))))
   (jh (am (ck PassesOwn.never rfl (bI (af 2)) (mO rfl (cJ (aW (i:=4) nd rfl (Or.inr rfl)) (cJ (aW (i:=5) nd rfl (Or.inl rfl)) mn))) (am (bz (kF (dO (aB (oX rfl) rfl T.b_all (by kernel_rfl) (ae (e9 (ms:=[false,false,false,false,true,false,true,false]) (ag:=["_law_end"]) (aG rfl (show aO (aj bv) aE _ _=true from by decide +kernel)) rfl (bI (zi hr.units1 (af 7) (af 5) (fun _ _=>rfl))) (aF (i:=8) (show(aE++_).Nodup from by decide +kernel) rfl rfl) (fun _ _ _ _=>bX) (fun _ _ _ _=>(zU (w:=w) false rfl hr.units (cY (ae (af 4) (ae (af 8) ai))) (af 6) rfl))) ai)))) (ar (bN ie)) aU)
   (jh (ar (bz (lD (iB (aQ y7 (af 4) ah nbh) (iB (aQ wc (af 5) (af 3) nbh) (ij (dO (qd G2 hr (ae (af 0) (ae (bg a7 (af 1) (aD pF (af 4) ah) (fun _ _=>rfl)) (ae (bg a7 (af 1) (af 5) (fun _ _=>rfl)) ai))))))))) (ar (bz (Az (w:=w) true rfl hr.units (cY (ae (aD pF (af 4) ah) (ae (aD aR (af 5) ah) ai))) (af 6) rfl) (ar (bN ie)) aU)) aU)))))
   (jh (ar (bN (aB (oX rfl) rfl T.b_all (by kernel_rfl) (ae (e9 (ms:=[false,false,false,false,false,false,true,false]) (ag:=["_law_place_here"]) (aG rfl (show aO (aj bv) aE _ _=true from by decide +kernel)) rfl (bw rfl T.b_range (ae (aD aR (af 3) ah) ai)) (aF (i:=8) (show(aE++_).Nodup from by decide +kernel) rfl rfl) (fun _ _ _ _=>bX) (fun _ _ _ _=>(zU (w:=w) false rfl hr.units (cY (ae (af 8) (ae (af 8) ai))) (af 6) rfl))) ai)))))))))))))))))),fun ds M R _ hS bk=>?_⟩)
 obtain⟨ord,ao,pa,kvs,row,ps,rfl,hM,hA,hl,hrm,hC,hW,k⟩:=hS;have hn:=hC.1;have hlp:=hC.2.2.2;refine bk ?_;clear bk;walk_at "rd";refine dJ ?_;walk_at "rd";refine⟨true,rfl,?_⟩;rw[if_neg (by simp)];refine fun hz=>⟨hz,aL nD (fun _=>true) (fun _=>D.bl true) (fun Δ=>∃x,Δ=[none,none,none,none,none,none,none,none,x]) ps _ _ (fun y hy Δ hΔ=>?_) ⟨none,rfl⟩ ?_⟩
 ·obtain⟨x,rfl⟩:=hΔ;refine⟨_,rfl,⟨_,rfl⟩,fun Q1 q=>q,fun _ Q2 q=>?_⟩;simp only[nD];walk_at "rd";exact⟨true,rfl,by rw[if_pos rfl];exact q⟩
 rw[List.nil_append,List.filter_eq_self.mpr (fun _ _=>rfl)];refine⟨_,nQ ps,_,rfl,?_⟩;rw[if_neg (by simp)];refine dJ ?_;walk_at "rd";refine fun hz=>⟨hz,aL nD (fun _=>true) (fun _=>D.bl true) (fun Δ=>∃x y,Δ=[none,none,none,some (D.int ((row.map aC).length:Nat)),x,y,none,none]) ps _ _ (fun y hy Δ hΔ=>?_) ⟨none,none,rfl⟩ ?_⟩
 ·obtain⟨x,z,rfl⟩:=hΔ;obtain⟨a,b⟩:=y;obtain⟨h1,h2⟩:=hC.le hy;refine⟨_,rfl,⟨_,_,rfl⟩,fun Q1 q=>q,fun _ Q2 q=>?_⟩;walk_at "rd";rw[List.length_map];refine⟨a,row.length,rfl,_,rfl,?_⟩;rw[if_pos (by simp;exact Nat.le_trans (by assumption) (by assumption))];refine⟨b,row.length,rfl,_,rfl,?_⟩;rw[if_pos (by simp;assumption)];rw[show decide ((a:Int)<=(b:Int))=true by simp;assumption];exact q
 rw[List.nil_append,List.filter_eq_self.mpr (fun _ _=>rfl)];refine⟨_,nQ ps,_,rfl,?_⟩;rw[if_neg (by simp)];refine dJ ?_;walk_at "rd";refine⟨_,rfl,ps.map kP,D5 ps,vp _,dpN,by rw[List.length_map];lia,?_⟩;rw[ug (zR hn),hC.2.1,<-D5];refine⟨_,xO nD eqN C7,_,rfl,?_⟩;rw[if_neg (by simp)];have hin:xx (D.tup [D.int 0,D.int ((row.map aC).length:Nat)]) (D.tup (ps.map nD))=some (.bl false):=by
  rw[List.length_map,show(D.tup [D.int 0,D.int (row.length:Nat)])=nD (0,row.length)from rfl,BY,if_pos ⟨C7 _,by rw[ik];intro d hd;obtain⟨y,_,rfl⟩:=List.mem_map.mp hd;rfl⟩];congr 2;rw[Bool.eq_false_iff];intro z;obtain⟨d,hd,e⟩:=List.any_eq_true.mp z;obtain⟨y,hy,rfl⟩:=List.mem_map.mp hd;rw[eqN,decide_eq_true_eq]at e;subst e;exact hC.whole hW hy
 refine⟨sz3 2,_,hin,_,rfl,?_⟩;rw[if_neg (by simp)];refine dJ ?_;walk_at "rd";refine fun hz=>⟨hz,aL nD (fun _=>true) (fun y=>D.tup [nD y,.bl true]) (fun Δ=>∃x,Δ=[none,none,none,none,none,none,none,none,x]) ps _ _ (fun y hy Δ hΔ=>?_) ⟨none,rfl⟩ ?_⟩
 ·obtain⟨x,rfl⟩:=hΔ;refine⟨_,rfl,⟨_,rfl⟩,fun Q1 q=>q,fun _ Q2 q=>?_⟩;walk_at "rd";exact⟨sz3 2,q⟩
 rw[List.nil_append,List.filter_eq_self.mpr (fun _ _=>rfl)];refine⟨ps.map kP,by rw[List.map_map];rfl,zR hn,dpN,fun pk hpk=>?_⟩;refine dJ ?_;walk_at "rd";obtain⟨Mk,eMk⟩:∃Mk,Mk=au M pk (dRw w pk (ps.map kP)):=⟨_,rfl⟩;have hk:Mk pk=some (dRw w pk (ps.map kP)):=by rw[eMk];exact aq
 have hpa:pa≠pk:=(nn hpk hM).symm;have hMa:Mk pa=some (.dT kvs):=by rw[eMk,aJ hpa];exact hM
 have hle:LeM M Mk:=by rw[eMk];exact eP hpk
 have to:∀(G:DH->Prop),G Mk->G (au M pk (dRw w pk (ps.map kP))):=fun G h=>by rw[<-eMk];exact h
 rw[List.length_map];refine⟨by lia,by lia,by rw[bE];exact sz3 _ (by lia),?_⟩;refine to (fun X=>cG _ _ _ _ _ X _ _) ?_;clear to eMk;have er:gX 0 ((row.length:Int)+1).toNat=(List.range (row.length+1)).map fun(k:Nat)=>D.int (0+(k:Int)):=rfl;rw[er];refine aL (fun(k:Nat)=>D.int (0+(k:Int))) (fun _=>true) (fun k=>D.tup [kD (Sum.inl (k:Int)),.lst ((ps.filter fun y=>decide (y.1=k)).map fun y=>D.int (y.2:Nat))]) (fun Δ=>∃x,Δ=[none,none,some (D.tup (ps.map nD)),none,none,none,none,none,x]) _ _ _ (fun i hi Δ hΔ=>?_) ⟨none,rfl⟩ ?_
 ·obtain⟨x,rfl⟩:=hΔ;refine⟨_,rfl,⟨_,rfl⟩,fun Q1 q=>q,fun _ Q2 q=>?_⟩;rw[Int.zero_add];walk_at "rd";refine fun hz=>⟨hz,aL nD (fun y=>decide (y.1=i)) (fun y=>D.int (y.2:Nat)) (fun Δ=>∃x y,Δ=[none,none,none,none,x,y,none,none,some (D.int (i:Int))]) ps _ _ (fun y hy Δ hΔ=>?_) ⟨none,none,rfl⟩ ?_⟩
  ·obtain⟨x,z,rfl⟩:=hΔ;refine⟨_,rfl,⟨_,_,rfl⟩,fun Q1 q=>?_,fun _ Q2 q=>?_⟩
   ·walk_at "rd";have e:((y.1:Int)==(i:Int))=decide (y.1=i):=by rw[Bool.eq_iff_iff];simp;lia
    rw[e];exact q
   ·walk_at "rd";exact q
  ·rw[List.nil_append];exact⟨sz3 2,q⟩
 rw[List.nil_append,List.filter_eq_self.mpr (fun _ _=>rfl)];refine⟨(List.range (row.length+1)).map fun(k:Nat)=>((Sum.inl (k:Int):Key),D.lst ((ps.filter fun y=>decide (y.1=k)).map fun y=>D.int (y.2:Nat))),by rw[List.map_map];rfl,?_,fun pe hpe=>?_⟩
 ·rw[List.map_map,List.nodup_iff_pairwise_ne,List.pairwise_map];refine(List.nodup_iff_pairwise_ne.mp List.nodup_range).imp fun h e=>h ?_;exact Int.ofNat.inj (Sum.inl.inj e)
 have hve:∀k:Nat,k<=row.length->bp ((List.range (row.length+1)).map fun(k:Nat)=>((Sum.inl (k:Int):Key),D.lst ((ps.filter fun y=>decide (y.1=k)).map fun y=>D.int (y.2:Nat)))) (.inl (k:Int))=some (.lst ((ps.filter fun y=>decide (y.1=k)).map fun y=>D.int (y.2:Nat))):=fun k hk=>uh (g:=fun k=>D.lst ((ps.filter fun y=>decide (y.1=k)).map fun y=>D.int (y.2:Nat))) (by lia);generalize ((List.range (row.length+1)).map fun(k:Nat)=>((Sum.inl (k:Int):Key),D.lst ((ps.filter fun y=>decide (y.1=k)).map fun y=>D.int (y.2:Nat))))=eks at hve;have hek:pe≠pk:=nn hpe hk;have hea:pe≠pa:=nn hpe hMa;obtain⟨Me,eMe⟩:∃Me,Me=au Mk pe (.dK eks):=⟨_,rfl⟩;rw[<-eMe];have hk2:Me pk=some (dRw w pk (ps.map kP)):=by rw[eMe,aJ (Ne.symm hek)];exact hk
 have hMa2:Me pa=some (.dT kvs):=by rw[eMe,aJ (Ne.symm hea)];exact hMa
 have hE:Me pe=some (.dK eks):=by rw[eMe];exact aq
 have hle2:LeM M Me:=by rw[eMe];exact fun a o h=>eP hpe a o (hle a o h)
 clear eMe;refine dJ ?_;walk_at "rd";refine fun hz=>?_;refine aP (fun i Δ M'=>∃x4 x5:Option D,Δ=[some (D.ref pa),some (D.tup (row.map aC)),some (D.tup (ps.map nD)),some (D.int (row.length:Nat)),x4,x5,some (D.ref pk),some (D.ref pe)]/\M'=Me) ⟨_,_,rfl,rfl⟩ ?_ ?_
 ·intro i d Δ M' X hd hI' k';refine shr fun _ bk=>?_;obtain⟨x4,x5,rfl,rfl⟩:=hI';refine bk ?_;clear bk;obtain⟨⟨a,b⟩,hy,rfl⟩:=fT hd;have hab:=List.mem_of_getElem? hy;obtain⟨h1,h2⟩:=hC.le hab;simp only[nD,fG,cO,aV,ic,Option.bind_some];refine⟨_,rfl,?_⟩;walk_at "rd";refine⟨_,hE,_,hve b (by assumption),_,rfl,fun hz2=>⟨hz2,aL (fun y:Nat×Nat=>D.int (y.2:Nat)) (fun _=>true) (fun _=>D.bl true) (fun Δ=>∃x,Δ=[none,none,none,none,some (D.int (a:Nat)),none,some (D.ref pk),none,x]) _ _ _ (fun y hy Δ hΔ=>?_) ⟨none,rfl⟩ ?_⟩⟩
  ·obtain⟨x,rfl⟩:=hΔ;obtain⟨hy1,hy2⟩:=List.mem_filter.mp hy;obtain⟨y1,y2⟩:=y;obtain rfl:y1=b:=by simpa using hy2
   refine⟨_,rfl,⟨_,rfl⟩,fun Q1 q=>q,fun _ Q2 q=>?_⟩;walk_at "rd";refine⟨sz3 2,_,hk2,kP (a,y2),rfl,dpN (ps:=[(a,y2)]) _ (by simp),by rw[List.length_map];lia,?_⟩;rw[Bool.false_xor,decide_eq_true (List.mem_map_of_mem (hC.join hab hy1))];exact q
  rw[List.nil_append,List.filter_eq_self.mpr (fun _ _=>rfl)];refine⟨_,nQ _,_,rfl,?_⟩;rw[if_neg (by simp)];refine dJ ?_;walk_at "rd";have nx:=k' [some (D.ref pa),some (D.tup (row.map aC)),some (D.tup (ps.map nD)),some (D.int (row.length:Nat)),some (D.int (a:Nat)),some (D.int (b:Nat)),some (D.ref pk),some (D.ref pe)] M' ⟨_,_,rfl,rfl⟩;refine cF (fun ha=>cF (fun hb=>?_) (fun _=>nx)) (fun _=>nx);have ha':0<a:=by lia
  have hb':b<row.length:=by lia
  have e1:((a:Int)-1)=((a-1:Nat):Int):=by lia
  have mem:∀j,j<row.length->(sg row j).1∈ao:=fun j hj=>hrm _ (by unfold sg;rw[List.getD_eq_getElem?_getD,List.getElem?_eq_getElem hj];exact List.getElem_mem hj);rw[e1];refine⟨_,mB (by lia),_,mB hb',ord,ao,pa,kvs,_,_,rfl,hMa2,hA,mem _ (by lia),mem _ hb',_,rfl,?_⟩;refine cF (fun hc=>⟨sz3 2,_,hk2,kP (a-1,b+1),rfl,dpN (ps:=[(a-1,b+1)]) _ (by simp),by rw[List.length_map];lia,?_⟩) (fun _=>nx);rw[decide_eq_true (List.mem_map_of_mem (hC.round hab ha' hb' hc)),if_neg (by simp)];exact nx
 ·intro Δ M' hI';refine shr fun _ bk=>?_;obtain⟨x4,x5,rfl,rfl⟩:=hI';refine bk ?_;clear bk;refine dJ ?_;walk_at "rd";refine⟨by lia,by lia,by rw[bE];exact sz3 _ (by lia),?_⟩;rw[er];refine aL (fun(k:Nat)=>D.int (0+(k:Int))) (fun _=>true) (fun _=>D.bl true) (fun Δ=>∃x,Δ=[none,none,none,none,none,none,some (D.ref pk),none,x]) _ _ _ (fun i hi Δ hΔ=>?_) ⟨none,rfl⟩ ?_
  ·obtain⟨x,rfl⟩:=hΔ;have hi':=List.mem_range.mp hi;refine⟨_,rfl,⟨_,rfl⟩,fun Q1 q=>q,fun _ Q2 q=>?_⟩;rw[Int.zero_add];walk_at "rd";refine⟨sz3 2,_,hk2,kP (i,i),rfl,dpN (ps:=[(i,i)]) _ (by simp),by rw[List.length_map];lia,?_⟩;rw[Bool.false_xor,decide_eq_true (List.mem_map_of_mem (hC.diag (by lia)))];exact q
  ·rw[List.nil_append,List.filter_eq_self.mpr (fun _ _=>rfl)];exact⟨_,nQ _,M,hle2,k⟩
def mH:SpD:=fun ds M Q=>∃(p:Addr) (l:List D),ds=[.ref p]/\M p=some (.lst l)/\bA l/\Q (.bl true) noM
theorem rh(F:Fun K "_law_right" "_law_right" iP f fd) (T:Txt mg) (ga4:FnD P w K mg base "_law_marks" 2 1 mf) (ga2:FnD P w K mg base "_law_order" 2 2 mw) (ga1:FnD P w K mg base "_law_above" 1 2 lQ) (Y5:FnD P w K mg base "why_not" 6 2 i9) (ga7:FnD P w K mg base "_law_row" 4 3 sF) (Y3:FnD P w K mg base "_law_between" 2 2 je) (Y2:FnD P w K mg base "_law_counted" 2 3 jm) (ga0:FnD P w K mg base "_law_closed" 2 3 kO):bo P w K mg base CX0 7 f fd ["_law_well_here"] (spD K 1 mH):=by
 have nd:=kW.nd;refine F.okR rfl kW (fun cdv A outer s H E hr=>⟨_,(am (aS (i:=1) nd rfl (Or.inl rfl) (qd ga4 hr (ae (af 0) ai)))
   (am (aS (i:=2) nd rfl (Or.inl rfl) (qd ga2 hr (ae (af 0) (ae (af 1) ai))))
   (am (aS (i:=3) nd rfl (Or.inl rfl) (qd ga1 hr (ae (af 2) (ae (af 1) ai))))
   (am (aS (i:=4) nd rfl (Or.inl rfl) (dY ig rfl T.b_tuple (by kernel_rfl) (ae (qd ga7 hr (ae (af 0) (ae (af 3) (ae (af 1) ai)))) ai)))
   (am (aS (i:=5) nd rfl (Or.inl rfl) (qd Y5 hr (ae (af 2) (ae (af 4) ai))))
   (am (bz (rj false rfl hr.units1 (ae ah (ae (aB bY rfl T.b_len (by kernel_rfl) (ae (af 4) ai)) ai)) (qd Y3 hr (ae (af 3) (ae (af 4) ai))) rfl) (ar (bN (fZ EL (af 5) zY nbh))) aU)
   (am (bz (lD (pR (kF (dO (pB (Tn:="tuple") (by decide) rfl T.b_isinstance rfl T.b_tuple (by kernel_rfl) (af 5)))) (ko (aQ (tU hr.units) (aB bY rfl T.b_len (by kernel_rfl) (ae (af 5) ai)) ah nbh)))) (ar (bN ie)) aU)
   (am (bz (aQ (gq hr.units) (bg a7 (af 5) ah (fun _ _=>rfl)) oE nbh) (ar (bN (qd Y2 hr (ae (af 2) (ae (af 4) (ae (bg a7 (af 5) ah (fun _ _=>rfl)) ai)))))) aU)
   (ar (bN (jd (fZ (gq hr.units) (bg a7 (af 5) ah (fun _ _=>rfl)) oE nbh) (oi (qd ga0 hr (ae (af 3) (ae (af 4) (ae (bg a7 (af 5) ah (fun _ _=>rfl)) ai)))))))))))))))),fun ds M R _ hS bk=>?_⟩)
 obtain⟨p,l,rfl,hM,hP,k⟩:=hS;refine bk ?_;clear bk;walk_at "rd";refine⟨p,l,rfl,hM,hP,fun ao l1 hm hml hP1=>?_⟩;walk_at "rd";refine⟨p,l1,ao,rfl,aq,hP1,hm,by assumption,fun ord l2 hol hom hP2=>?_⟩;rw[aN];walk_at "rd";refine⟨ord,ao,rfl,by exact Nat.le_trans (by assumption) (by decide),by assumption,fun pa kvs hpa hA=>?_⟩;have hap:pa≠p:=by rintro rfl;rw[aq]at hpa;cases hpa
 have hMpa:M pa=none:=by rw[aJ hap]at hpa;exact hpa
 have c1:∀l l',au (au (au M p (.lst l)) pa (.dT kvs)) p (.lst l')=au (au M p (.lst l')) pa (.dT kvs):=fun l l'=>by rw[<-cU (Ne.symm hap),aN]
 have c2:∀l,au (au M p (.lst l)) pa (.dT kvs) p=some (.lst l):=fun l=>by rw[aJ (Ne.symm hap),aq]
 refine⟨ord,p,pa,l2,kvs,ao,rfl,c2 _,aq,hP2,hA,hm,by assumption,fun row l3 hrl hrm hP3=>?_⟩;rw[c1];walk_at "rd";refine⟨ord,row,rfl,by exact Nat.le_trans (by assumption) (by decide),hrl,fun hW=>?_,fun hW=>⟨fun m hm=>?_,fun ps hps=>?_⟩⟩
 ·refine⟨sz3 2,ord,ao,pa,kvs,row,rfl,aq,hA,hrl,hrm,fun q tb hq hv=>⟨q,rfl,tb,aq,?_⟩⟩;rw[List.length_map,hv,Bool.false_xor,if_pos (by simpa using hW)];exact⟨noM,LeM.no,k⟩
 ·refine⟨sz3 2,ord,ao,pa,kvs,row,rfl,aq,hA,hrl,hrm,fun q tb hq hv=>⟨q,rfl,tb,aq,?_⟩⟩;rw[List.length_map,hv,Bool.false_xor,if_neg (by simp;assumption)];refine⟨true,rfl,?_⟩;rw[if_neg (by simp)];refine⟨_,rfl,_,lg,_,rfl,?_⟩;rw[if_neg (by simp)];refine⟨.str "counted",rfl,.bl true,rfl,_,rfl,?_⟩;rw[if_pos rfl];refine⟨_,rfl,ord,row,m,rfl,by exact Nat.le_trans (by assumption) (by decide),hrl,noM,LeM.no,?_⟩;rw[decide_eq_false hm];exact k
 ·refine⟨sz3 2,ord,ao,pa,kvs,row,rfl,aq,hA,hrl,hrm,fun q tb hq hv=>⟨q,rfl,tb,aq,?_⟩⟩;have hqa:pa≠q:=by rintro rfl;rw[aq]at hq;cases hq
  rw[List.length_map,hv,Bool.false_xor,if_neg (by simp;assumption)];refine⟨true,rfl,?_⟩;rw[if_neg (by simp)];refine⟨_,rfl,_,lg,_,rfl,?_⟩;rw[if_neg (by simp)];refine⟨.str "closed",rfl,.bl false,rfl,_,rfl,?_⟩;rw[if_neg (by simp)];refine⟨.str "closed",rfl,.bl true,rfl,_,rfl,?_⟩;rw[if_pos rfl];exact⟨_,rfl,ord,ao,pa,kvs,row,ps,rfl,by rw[aJ hqa];exact aq,hA,hrl,hrm,hps,hW,noM,LeM.no,k⟩
def S_law:SpD:=fun ds M R=>∃ns:List Int,ds=[.scr (ns.map .int)]/\M=noM/\ns.length<=63/\∀M',R (.bl true) M'
theorem BU(F:Fun K "law" "law" rM f fd) (T:Txt mg) (ga3:FnD P w K mg base "_law_right" 7 1 mH) (ga6:FnD P w K mg base "_law_well" 1 2 oo):bo P w K mg base CX0 8 f fd ["_law_script"] (spD K 1 S_law):=by
 have nd:=uZ.nd;refine F.okR rfl uZ (fun cdv A outer s H E hr=>⟨_,(ar (bu (aB (oX rfl) rfl T.b_all (by kernel_rfl) (ae (e9 (ms:=[true]) (ag:=["_law_k"]) (aG rfl (show aO (aj rM) u0 _ _=true from by decide +kernel)) rfl (bw rfl T.b_range (ae (aB (Dm rfl) rfl T.b_max (by kernel_rfl) (ae ah (ae (aB (Dv rfl) rfl T.b_min (by kernel_rfl) (ae (aB bY rfl T.b_len (by kernel_rfl) (ae (af 0) ai)) (ae ah ai))) ai))) ai)) (aF (i:=1) (show(u0++_).Nodup from by decide +kernel) rfl rfl) (fun _ _ _ _=>bX) (fun _ _ _ _=>(qd ga3 hr (ae (qd ga6 hr (ae (af 0) (ae (af 1) ai))) ai)))) ai)))),fun ds M R _ hS bk=>?_⟩);obtain⟨ns,rfl,rfl,hn,k⟩:=hS;refine bk ?_;clear bk;walk_at "rd";rw[List.length_map];obtain⟨c,hc,ec⟩:∃c:Nat,c<=3/\(if(if 3<(ns.length:Int)then 3 else(ns.length:Int)) > 1 then if 3<(ns.length:Int)then 3 else(ns.length:Int)else 1)=(c:Int):=by
  by_cases h1:3<(ns.length:Int)
  ·exact⟨3,by decide,by simp[h1]⟩
  ·by_cases h2:(ns.length:Int) > 1
   ·exact⟨ns.length,by lia,by rw[if_neg h1,if_pos h2]⟩
   ·exact⟨1,by decide,by rw[if_neg h1,if_neg h2];rfl⟩
 rw[ec];refine⟨by lia,by lia,by rw[bE];exact sz3 _ (by exact Nat.le_trans (by assumption) (by decide)),?_⟩;refine kc (fun i acc Δ M'=>∃x:Option D,Δ=[some (D.scr (ns.map .int)),x]/\M'=noM/\acc=List.replicate i (D.bl true)) ⟨_,rfl,rfl,rfl⟩ ?_ ?_
 ·intro i d acc Δ M' X hd hI' k';refine shr fun _ bk=>?_;obtain⟨x,rfl,rfl,rfl⟩:=hI';refine bk ?_;clear bk;obtain⟨hi,rfl⟩:=eE hd;refine⟨_,rfl,?_⟩;walk_at "rd";simp only[vQ,if_true];refine⟨ns,_,rfl,hn,by lia,by lia,fun p l hp hP=>?_⟩;exact⟨p,l,rfl,aq,hP,k' _ _ _ ⟨_,rfl,rfl,by rw[List.replicate_succ']⟩⟩
 ·intro acc Δ M' hI';refine shr fun _ bk=>?_;obtain⟨x,rfl,rfl,rfl⟩:=hI';refine bk ?_;clear bk;refine⟨_,?_,k _⟩;have h1:∀n,(List.replicate n (D.bl true)).all vm=true:=fun n=>by rw[List.all_eq_true];intro d hd;rw[List.eq_of_mem_replicate hd];rfl
  have h2:∀n,(List.replicate n (D.bl true)).all tG=true:=fun n=>by rw[List.all_eq_true];intro d hd;rw[List.eq_of_mem_replicate hd];rfl
  simp only[vB,h1,h2,if_true]
end
theorem C1:CA S_law:=fun ns R hn hR=>⟨ns,rfl,rfl,hn,hR⟩
theorem Bb{l:PySem.W.OpenLaw}{w:World}{K:PySem.W.Frag}{h:Heap}{mg:Str->Option Value}{fa:Addr}(X:K.In h) (G:h.Ns mainGlobals mg) (hfa:mg "law"=some (.ref fa))
  {f0:Addr} {d0:FuncData}
  {f1:Addr} {d1:FuncData}
  {f2:Addr} {d2:FuncData}
  {f3:Addr} {d3:FuncData}
  {f4:Addr} {d4:FuncData}
  {f5:Addr} {d5:FuncData}
  {f6:Addr} {d6:FuncData}
  {f7:Addr} {d7:FuncData}
  {f8:Addr} {d8:FuncData}
  {f9:Addr} {d9:FuncData}
  {f10:Addr} {d10:FuncData}
  {f11:Addr} {d11:FuncData}
  {f12:Addr} {d12:FuncData}
  {f13:Addr} {d13:FuncData}
  {f14:Addr} {d14:FuncData}
  {f15:Addr} {d15:FuncData}
  {f16:Addr} {d16:FuncData}
  {f17:Addr} {d17:FuncData}
  {f18:Addr} {d18:FuncData}
  {f19:Addr} {d19:FuncData}
  {f20:Addr} {d20:FuncData}
  {f21:Addr} {d21:FuncData}
  {f22:Addr} {d22:FuncData}
  {f23:Addr} {d23:FuncData}
  {f24:Addr} {d24:FuncData}
  {f25:Addr} {d25:FuncData}
  {f26:Addr} {d26:FuncData}
  {f27:Addr} {d27:FuncData}
  {f28:Addr} {d28:FuncData}
  (x0:bT K "reached_from" cq f0 d0)
  (x1:bT K "splits" eK f1 d1)
  (x2:bT K "whole_count" cK f2 d2)
  (x3:bT K "surplus" dB f3 d3)
  (x4:bT K "_law_well" kY f4 d4)
  (x5:bT K "_law_draw" lj f5 d5)
  (x6:bT K "_law_above" iN f6 d6)
  (x7:bT K "_law_cancels" fB f7 d7)
  (x8:bT K "_law_hang" jY f8 d8)
  (x9:bT K "_law_place" iO f9 d9)
  (x10:bT K "at_most" fu f10 d10)
  (x11:bT K "hanging_with" bQ f11 d11)
  (x12:bT K "stretch_counts" bh f12 d12)
  (x13:bT K "_law_marks" cX f13 d13)
  (x14:bT K "_law_order" fQ f14 d14)
  (x15:bT K "_law_between" fM f15 d15)
  (x16:bT K "_law_sign" jJ f16 d16)
  (x17:bT K "_law_partner" dD f17 d17)
  (x18:bT K "_law_closed" bv f18 d18)
  (x19:bT K "_law_counted" dA f19 d19)
  (x20:bT K "mark_leads" dg f20 d20)
  (x21:bT K "is_uneven" dQ f21 d21)
  (x22:bT K "_law_planted" fL f22 d22)
  (x23:bT K "cancel" gE f23 d23)
  (x24:bT K "_law_row" jD f24 d24)
  (x25:bT K "mates_in" cg f25 d25)
  (x26:bT K "why_not" dE f26 d26)
  (x27:bT K "_law_right" iP f27 d27)
  (x28:bT K "law" rM f28 d28)
  (z_len:PySem.W.nsIn K mainGlobals "len"=some none)
  (z_tuple:PySem.W.nsIn K mainGlobals "tuple"=some none)
  (z_range:PySem.W.nsIn K mainGlobals "range"=some none)
  (z_sum:PySem.W.nsIn K mainGlobals "sum"=some none)
  (z_sorted:PySem.W.nsIn K mainGlobals "sorted"=some none)
  (z_abs:PySem.W.nsIn K mainGlobals "abs"=some none)
  (z_divmod:PySem.W.nsIn K mainGlobals "divmod"=some none)
  (z_isinstance:PySem.W.nsIn K mainGlobals "isinstance"=some none)
  (z_int:PySem.W.nsIn K mainGlobals "int"=some none)
  (z_bool:PySem.W.nsIn K mainGlobals "bool"=some none)
  (z_dict:PySem.W.nsIn K mainGlobals "dict"=some none)
  (z_all:PySem.W.nsIn K mainGlobals "all"=some none)
  (z_list:PySem.W.nsIn K mainGlobals "list"=some none)
  (z_set:PySem.W.nsIn K mainGlobals "set"=some none)
  (z_max:PySem.W.nsIn K mainGlobals "max"=some none)
  (z_min:PySem.W.nsIn K mainGlobals "min"=some none)
 :∃fd:FuncData,(∀(s:Shared) (v:Value),BindsTo s fd ⟨[v],[]⟩ [("_law_script",v)])/\∀base:Heap,K.In base->base.Ns mainGlobals mg->bo l.prog w K mg base CX0 8 fa fd ["_law_script"] (spD K 1 S_law):=by
 have T:Txt mg:=⟨PySem.W.mg_none_of X G z_len,PySem.W.mg_none_of X G z_tuple,PySem.W.mg_none_of X G z_range,PySem.W.mg_none_of X G z_sum,PySem.W.mg_none_of X G z_sorted,PySem.W.mg_none_of X G z_abs,PySem.W.mg_none_of X G z_divmod,PySem.W.mg_none_of X G z_isinstance,PySem.W.mg_none_of X G z_int,PySem.W.mg_none_of X G z_bool,PySem.W.mg_none_of X G z_dict,PySem.W.mg_none_of X G z_all,PySem.W.mg_none_of X G z_list,PySem.W.mg_none_of X G z_set,PySem.W.mg_none_of X G z_max,PySem.W.mg_none_of X G z_min⟩;refine AD X G hfa x28 (fun _ _ _ _ _ _ _=>rfl) fun base=>?_;have G1:=fg X G x0 (gT (P:=l.prog) (w:=w) (base:=base) x0.F T ) (bd2 x0.F fun _ _ _ _ _ _ _ _=>rfl);have Y8:=fg X G x1 (o9 (P:=l.prog) (w:=w) (base:=base) x1.F T ) (bd4 x1.F fun _ _ _ _ _ _ _ _ _ _=>rfl);have G6:=fg X G x2 (iK (P:=l.prog) (w:=w) (base:=base) x2.F T ) (bd2 x2.F fun _ _ _ _ _ _ _ _=>rfl);have Y6:=fg X G x3 (nZ (P:=l.prog) (w:=w) (base:=base) x3.F T ) (bd2 x3.F fun _ _ _ _ _ _ _ _=>rfl);have ga6:=fg X G x4 (ui (P:=l.prog) (w:=w) (base:=base) x4.F T ) (bd2 x4.F fun _ _ _ _ _ _ _ _=>rfl);have G0:=fg X G x5 (sV (P:=l.prog) (w:=w) (base:=base) x5.F T ) (bd2 x5.F fun _ _ _ _ _ _ _ _=>rfl);have ga1:=fg X G x6 (qT (P:=l.prog) (w:=w) (base:=base) x6.F T ) (bd2 x6.F fun _ _ _ _ _ _ _ _=>rfl);have G2:=fg X G x7 (nu (P:=l.prog) (w:=w) (base:=base) x7.F T ) (bd3 x7.F fun _ _ _ _ _ _ _ _ _=>rfl);have ga5:=fg X G x8 (uo (P:=l.prog) (w:=w) (base:=base) x8.F T ) (bd2 x8.F fun _ _ _ _ _ _ _ _=>rfl);have Y1:=fg X G x9 (qU (P:=l.prog) (w:=w) (base:=base) x9.F T ) (bd2 x9.F fun _ _ _ _ _ _ _ _=>rfl);have G8:=fg X G x10 (m9 (P:=l.prog) (w:=w) (base:=base) x10.F T G1) (bd3 x10.F fun _ _ _ _ _ _ _ _ _=>rfl);have G5:=fg X G x11 (gQ (P:=l.prog) (w:=w) (base:=base) x11.F T G1) (bd2 x11.F fun _ _ _ _ _ _ _ _=>rfl);have G3:=fg X G x12 (fW (P:=l.prog) (w:=w) (base:=base) x12.F T Y8) (bd1 x12.F fun _ _ _ _ _ _ _=>rfl);have ga4:=fg X G x13 (qK (P:=l.prog) (w:=w) (base:=base) x13.F T G0) (bd1 x13.F fun _ _ _ _ _ _ _=>rfl);have ga2:=fg X G x14 (qt (P:=l.prog) (w:=w) (base:=base) x14.F T G0) (bd2 x14.F fun _ _ _ _ _ _ _ _=>rfl);have Y3:=fg X G x15 (nA (P:=l.prog) (w:=w) (base:=base) x15.F T G2) (bd2 x15.F fun _ _ _ _ _ _ _ _=>rfl);have G4:=fg X G x16 (tV (P:=l.prog) (w:=w) (base:=base) x16.F T G0) (bd3 x16.F fun _ _ _ _ _ _ _ _ _=>rfl);have Y7:=fg X G x17 (nI (P:=l.prog) (w:=w) (base:=base) x17.F T G2 G0) (bd4 x17.F fun _ _ _ _ _ _ _ _ _ _=>rfl);have ga0:=fg X G x18 (pG (P:=l.prog) (w:=w) (base:=base) x18.F T G2 Y1) (bd3 x18.F fun _ _ _ _ _ _ _ _ _=>rfl);have Y2:=fg X G x19 (m7 (P:=l.prog) (w:=w) (base:=base) x19.F T ga5) (bd3 x19.F fun _ _ _ _ _ _ _ _ _=>rfl);have G7:=fg X G x20 (ju (P:=l.prog) (w:=w) (base:=base) x20.F T G8) (bd4 x20.F fun _ _ _ _ _ _ _ _ _ _=>rfl);have G9:=fg X G x21 (kQ (P:=l.prog) (w:=w) (base:=base) x21.F T Y6 G5) (bd3 x21.F fun _ _ _ _ _ _ _ _ _=>rfl);have Y4:=fg X G x22 (nh (P:=l.prog) (w:=w) (base:=base) x22.F T G0 G4 Y7) (bd5 x22.F fun _ _ _ _ _ _ _ _ _ _ _=>rfl);have Y9:=fg X G x23 (oH (P:=l.prog) (w:=w) (base:=base) x23.F T G7) (bd3 x23.F fun _ _ _ _ _ _ _ _ _=>rfl);have ga7:=fg X G x24 (wz (P:=l.prog) (w:=w) (base:=base) x24.F T G0 Y4 G4) (bd3 x24.F fun _ _ _ _ _ _ _ _ _=>rfl);have Y0:=fg X G x25 (lL (P:=l.prog) (w:=w) (base:=base) x25.F T Y9) (bd2 x25.F fun _ _ _ _ _ _ _ _=>rfl);have Y5:=fg X G x26 (ng (P:=l.prog) (w:=w) (base:=base) x26.F T G3 Y0 G6 G9) (bd2 x26.F fun _ _ _ _ _ _ _ _=>rfl);have ga3:=fg X G x27 (rh (P:=l.prog) (w:=w) (base:=base) x27.F T ga4 ga2 ga1 Y5 ga7 Y3 Y2 ga0) (bd1 x27.F fun _ _ _ _ _ _ _=>rfl);exact BU x28.F T ga3 ga6
end My
namespace PySem.W.Fast
def tw10372879087781251762:=Nat
def tw10529944321199881879:=Nat
def tw10639774789994349569:=Nat
def tw10840256429337232333:=Nat
def tw10905350685095895584:=Nat
def tw11042060890398666596:=Nat
def tw11055518720424265599:=Nat
def tw11080957175254682057:=Nat
def tw11095101890256479264:=Nat
def tw11107645937333492747:=Nat
def tw11186481183346950651:=Nat
def tw11208320750684284204:=Nat
def tw11730615200975810177:=Nat
def tw11945643294543462638:=Nat
def tw11967615128757667682:=Nat
def tw12254619136584259395:=Nat
def tw12260420500027696900:=Nat
def tw12300623850155854004:=Nat
def tw12451106826168673552:=Nat
def tw12589203702907557549:=Nat
def tw13522480394371230892:=Nat
def tw14175636698161763668:=Nat
def tw14301874561939806949:=Nat
def tw1445861102304361592:=Nat
def tw1466918191657440199:=Nat
def tw14853022896774463154:=Nat
def tw14867765510894042882:=Nat
def tw14880239062096745426:=Nat
def tw15092066559041544710:=Nat
def tw15093095136443269514:=Nat
def tw15189959623421879729:=Nat
def tw15259531508560940106:=Nat
def tw15409736283964609955:=Nat
def tw15474689133919843210:=Nat
def tw15523886636882145832:=Nat
def tw15620899964012243734:=Nat
def tw1584355718666683456:=Nat
def tw16031123592093437243:=Nat
def tw16374826193400770068:=Nat
def tw16380215658944471530:=Nat
def tw16386949987240663357:=Nat
def tw16439181115216131222:=Nat
def tw16498135838207616097:=Nat
def tw16529459754035306132:=Nat
def tw1654755911955018649:=Nat
def tw16657347634357194874:=Nat
def tw1666128443866466767:=Nat
def tw16959033858448536446:=Nat
def tw16980145021909533911:=Nat
def tw1706170371171674489:=Nat
def tw17154144480378974416:=Nat
def tw17288925286354647431:=Nat
def tw17504633477573849221:=Nat
def tw17508003995739428502:=Nat
def tw17731298371180300160:=Nat
def tw17819044732347619374:=Nat
def tw17939213720264768293:=Nat
def tw18069198738314923773:=Nat
def tw18154532727511868388:=Nat
def tw18205387604749763922:=Nat
def tw18328897785640334436:=Nat
def tw1874639912365825392:=Nat
def tw2000827579568549610:=Nat
def tw2173761624050207447:=Nat
def tw2353446997166608703:=Nat
def tw2682124756079436747:=Nat
def tw2701843762571172588:=Nat
def tw2709644179976569137:=Nat
def tw271750424361361725:=Nat
def tw2746436959250839040:=Nat
def tw2980756184673557532:=Nat
def tw299253950903564484:=Nat
def tw3357778675794249246:=Nat
def tw3413278541447765365:=Nat
def tw3555689513867524713:=Nat
def tw3594522673237894235:=Nat
def tw3683400915336818214:=Nat
def tw3936193489726577488:=Nat
def tw3948534371489907085:=Nat
def tw4153027812056155383:=Nat
def tw4261876426151230044:=Nat
def tw4328489678568962093:=Nat
def tw4599173872080343079:=Nat
def tw4725265455735240751:=Nat
def tw5253434288742437530:=Nat
def tw5260852383225126774:=Nat
def tw5314655018933449637:=Nat
def tw5414926996696477856:=Nat
def tw5457575536404324614:=Nat
def tw5487286392061934662:=Nat
def tw54975952261144696:=Nat
def tw5625509412926587725:=Nat
def tw5660023799746283531:=Nat
def tw5853750149217532460:=Nat
def tw5945197888736365892:=Nat
def tw6060052336731827786:=Nat
def tw6174276109008759913:=Nat
def tw6224933990733519561:=Nat
def tw6240010581835568530:=Nat
def tw628024858185196204:=Nat
def tw671578206765024432:=Nat
def tw6844076952003388040:=Nat
def tw6870865769346886954:=Nat
def tw6938006968160393691:=Nat
def tw7286165622800137219:=Nat
def tw7467318407323098066:=Nat
def tw7756984937874822698:=Nat
def tw778721803564908840:=Nat
def tw836851382755294775:=Nat
def tw8424328224832425679:=Nat
def tw8472826743599198265:=Nat
def tw8537746115478508648:=Nat
def tw8622127322206853036:=Nat
def tw8717063294354978942:=Nat
def tw8804241968458234840:=Nat
def tw909993304735736387:=Nat
def tw9549365644447508757:=Nat
def tw9584628499152711388:=Nat
def tw970264295505542423:=Nat
def tw9941612585456070076:=Nat
def tw9966974298234764793:=Nat
end PySem.W.Fast
open PySem PySem.W PyProof.Rows
set_option maxRecDepth 100000 in
set_option maxHeartbeats 0 in
theorem PySem.Challenge.cw_wordwishes_k18_why_a_row_does_not_cancel_holds : PySem.Challenge.rw_wordwishes_k18_why_a_row_does_not_cancel.Holds := by
 w_on;o_law;z_head;(case hw=>w_witness2)
 k_fill
 refine L2.vN (fun _=>rfl) ?_;refine L2.C0 (S:=My.S_law) My.C1 (k:=8) (x:="_law_script") (l:=PySem.Challenge.rw_wordwishes_k18_why_a_row_does_not_cancel) ⟨rfl,by decide,by decide⟩ rfl rfl (fun w h Y=>Y) ?F
 case F =>
  intro w mg fa h KX G hmg
  refine' My.Bb KX G hmg ?_ ?_ ?_ ?_ ?_ ?_ ?_ ?_ ?_ ?_ ?_ ?_ ?_ ?_ ?_ ?_ ?_ ?_ ?_ ?_ ?_ ?_ ?_ ?_ ?_ ?_ ?_ ?_ ?_ ?_ ?_ ?_ ?_ ?_ ?_ ?_ ?_ ?_ ?_ ?_ ?_ ?_ ?_ ?_ ?_
  all_goals try first|exact L2.B7 (by k_is) (by k_is) (by k_is) (by k_is)|exact L2.u5 (by k_is) (by k_is) (by k_is)|k_is
