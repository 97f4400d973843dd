import PyProof.Rows.All
import Wide.All
import OpenK.AllK
import Wide.FinOn
import Lean
import PyProof.EqAt
import PyProof.EqKinds
import PyProof.TupleCall
import KE.KRevIter
import PyProof.NeKinds
import PyProof.Draws
import PyProof.EnumMake
import KE.KSortTup
import PyProof.ZipIter
import KE.KDictList
import PyProof.AttrMissHeap
import KE.KDictOf
import PyProof.Rows.SetFrom
import PyProof.Rows.SortRunsK
import PyProof.IsRules
import PySem.Challenge.RW_wordwishes_k39_plain_rows
set_option Elab.async false
set_option linter.all false
set_option maxRecDepth 100000
set_option maxHeartbeats 4000000
set_option bootstrap.genMatcherCode false
set_option compiler.extract_closed false
noncomputable section
open PySem.W renaming Frag->o0,keepIn->K6,fnOf->N5
open PySem renaming Value->u8,Shared->v0,sizeLine->A0,wpAny_bind->A5,Addr->A8,wpAny_pure->A9,starEach->B1,Expr->B4,wpAny->B7,model->B8,Program->B9,Heap->C5,Builtin->C6,wpAny_mono->C9,NameKind->D1,mem_of_lookup->D3,Around->D7,foldedSetIterable->D8,compareOp->E2,binaryOp->E4,World->E6,Paired->F2,FuncData->F6,wpAny_passesOwn->F8,wpAny_newObj_type->I0,bootBuiltins->J4,mainGlobals->J6,wpAny_getItem_str_slice->K0,Spec->K1,wpAny_truthy_bool->K4,sysModules->K8,assignEach->K9,backTo->L3,behindInMarks->L4,letOwnedTupleGo->L5,Scope->M9,sliceBounds->N1,wpAny_pyIter_list->N3,eval->N6,Comprehension->O0,wpAny_execs_nil->O1,codeAny->O2,post_val_or_str->O5,codeAny_mono->O8,swapsWith->P0,call_meets->P2,getItem->P6,attributeBase->P7,wpAny_standAt->P8,Keyword->Q3,Stmt->Q7,typeIs_int->Q8,subscripted->R1,keywordEach->R3,callerA->R4,tupleKind->R5,IsPart->R7,valueAt->S0,assign->S6,pyIter->S7,cLine->S8,Operator->S9,standAt->T0,inplaceOp->T4,PassesOwn->T5,BindsTo->T6,cellsFrom->T7
open List renaming size_toArray->A3,replicate->A7,mem_append_right->B3,getElem?_append_left->C3,mem_cons_of_mem->C4,length_append->C8,lookup_cons->D4,map_cons->D6,mem_cons_self->E1,replicate_succ->E5,getElem?_eq_some_iff->E7,any_cons->E8,find?_cons->F1,getElem?_append_right->F3,getElem?_map->H0,flatten_cons->J0,getElem?_eq_getElem->J3,filterMap_cons->J7,getElem?_replicate->J9,getElem?_set_self->K2,mem_cons->K3,mem_append->L1,mem_filterMap->L6,nodup_cons->L7,length_map->L8,all_cons->L9,mem_singleton->M7,range->N0,mem_range->N4,length_cons->N7,all_eq_true->N9,append_nil->O3,length->P5,foldl->R9
open PySem.Heap renaming get?_push_of_some->A4,lt_size->A6,get?_push_size->B6,SameBut->O7
open Nat renaming le_refl->B0,lt_of_lt_of_le->B2,ne_of_lt->B5,le_trans->D2,lt_succ_of_lt->F0,lt_irrefl->J5,zero_le->N2,lt_succ_self->N8,ne_of_gt->Q0
open Bool renaming and_eq_true->C0,false_ne_true->C7,false_eq_true->F4
open Option.some renaming inj->C1
open PyProof.Rows renaming slot_tuple_getitem->C2,kindOf->P1,AllBare->P4,envOfC->R6,IsTup->T9
open PySem.Builtin.Tuple renaming tupleExact->D0
open PySem.SeqAt renaming EqAt->D5
open Option renaming some->D9,isSome_iff_exists->F9,map_some->O6
open ForInStep renaming yield->E3
open PySem.NameKind renaming free->E9,cell->M0
open PySem.Builtin.Slice renaming slicePlaces->F5
open False renaming elim->F7
open PySem.Builtin.List renaming listTooLong->J1
open PySem.Builtin.Str renaming occurrences->J8
open PySem.Code renaming compLoop->K5
open Array renaming length_toList->K7
open PySem.F renaming slot_int_rmul->O4
open Pure renaming pure->O9
open PySem.Paired renaming length->P3
open PySem.Value renaming ref->P9
open PySem.Txt renaming slice->Q5,slice_le->Q6
open Sum renaming inl->Q9,inr->R0
open Ne renaming symm->R8
open True renaming intro->S1
open LawfulMonad renaming pure_bind->T8
set_option compiler.extract_closed false
namespace L2
open PySem PySem.Spec PyProof.Rows
abbrev Key:=Sum Int Str
def je:Key->u8->Bool
 |.inl k,v=>u8.isInt k v
 |.inr x,v=>u8.isStrOf x v
noncomputable def Ar(w:E6):Key->Int
 |.inl k=>hashInt k
 |.inr x=>hashStr w x
theorem aL:∀{k:Key}{v:u8},je k v=true->(∃i t,k=Q9 i/\v=u8.int i t)∨(∃x t,k=R0 x/\v=u8.str x t)
 |.inl i,v,h=>by
  obtain⟨t,e⟩:=u8.isInt_shape (k:=i) (v:=v) h;exact .inl ⟨i,t,rfl,e⟩
 |.inr x,v,h=>by
  obtain⟨t,e⟩:=u8.isStrOf_shape (x:=x) (v:=v) h;exact .inr ⟨x,t,rfl,e⟩
theorem oT(i:Int) (t:Tok):je (.inl i) (.int i t)=true:=by simp[je,u8.isInt]
theorem oK(x:Str) (t:Tok):je (.inr x) (.str x t)=true:=by simp[je,u8.isStrOf]
theorem v6(a b:Int):decide ((Q9 a:Key)=Q9 b)=(a==b):=by
 by_cases e:a=b
 ·subst e;simp
 ·have h:¬ (Q9 a:Key)=Q9 b:=fun q=>e (Q9.inj q);rw[decide_eq_false h];exact(beq_eq_false_iff_ne.mpr e).symm
theorem vR(a b:Str):decide ((R0 a:Key)=R0 b)=decide (a=b):=by
 by_cases e:a=b
 ·subst e;simp
 ·have h:¬ (R0 a:Key)=R0 b:=fun q=>e (R0.inj q);rw[decide_eq_false h,decide_eq_false e]
theorem vX(a:Int) (b:Str):decide ((Q9 a:Key)=R0 b)=false:=decide_eq_false (fun q=>nomatch q)
theorem wD(a:Str) (b:Int):decide ((R0 a:Key)=Q9 b)=false:=decide_eq_false (fun q=>nomatch q)
def br(prog:B9) (w:E6):PySem.KeyKind prog w Key where
 is:=je
 hash:=Ar w
 inj:=fun v a b ha hb=>by
  rcases aL ha with⟨i,t,rfl,rfl⟩|⟨x,t,rfl,rfl⟩
  ·rcases aL hb with⟨j,u,rfl,e⟩|⟨y,u,rfl,e⟩
   ·injection e with e1 _;rw[e1]
   ·exact nomatch e
  ·rcases aL hb with⟨j,u,rfl,e⟩|⟨y,u,rfl,e⟩
   ·exact nomatch e
   ·injection e with e1 _;rw[e1]
 byValue:=fun k v h=>by
  rcases aL h with⟨i,t,rfl,rfl⟩|⟨x,t,rfl,rfl⟩<;>rfl
 pyHash:=fun hv h=>by
  rcases aL hv with⟨i,t,rfl,rfl⟩|⟨x,t,rfl,rfl⟩
  ·exact wpAny_pyHash_int h
  ·exact wpAny_pyHash_str h
 eqBool:=fun hu hv h=>by
  rcases aL hu with⟨i,t,rfl,rfl⟩|⟨x,t,rfl,rfl⟩
  ·rcases aL hv with⟨j,u,rfl,rfl⟩|⟨y,u,rfl,rfl⟩
   ·rw[v6]at h;exact wpAny_eqBool_int h
   ·rw[vX]at h;exact D5.int_str i t y u _ _ _ _ h
  ·rcases aL hv with⟨j,u,rfl,rfl⟩|⟨y,u,rfl,rfl⟩
   ·rw[wD]at h;exact D5.str_int x t j u _ _ _ _ h
   ·rw[vR]at h;exact wpAny_eqBool_str h
 «strs»:=fun k x t v h=>by
  rcases aL h with⟨i,u,rfl,e⟩|⟨y,u,rfl,e⟩
  ·exact nomatch e
  ·injection e with e1 _
   subst e1;cases v<;>rfl
theorem lq(prog:B9) (w:E6) (i:Int) (t:Tok):(br prog w).is (.inl i) (.int i t)=true:=oT i t
theorem lO(prog:B9) (w:E6) (x:Str) (t:Tok):(br prog w).is (.inr x) (.str x t)=true:=oK x t
inductive V where
 |non|bl (b:Bool)|int (i:Int)|str (x:Str)|byt (b:Array UInt8)|flt (b:UInt64)|ref (a:A8)|ty (n:String)
 deriving DecidableEq
def ar:V->u8->Prop
 |.non,u=>u=u8.none
 |.bl b,u=>u=u8.bool b
 |.int i,u=>∃t,u=u8.int i t
 |.str x,u=>∃t,u=u8.str x t
 |.byt b,u=>∃t,u=u8.bytes b t
 |.flt b,u=>∃t,u=u8.float b t
 |.ref a,u=>u=P9 a
 |.ty n,u=>u=u8.type n
abbrev ao:List V->List u8->Prop:=F2 ar
theorem ao.length{xs:List V}{us:List u8}(r:ao xs us):xs.length=us.length:=P3 r
theorem ao.get:∀{xs:List V}{us:List u8}{i:Nat}{x:V},ao xs us->xs[i]?=some x->∃u,us[i]?=some u/\ar x u
 |_,_,_,_,.nil,e=>by simp at e
 |_,_,0,_,.cons r _,e=>by simp at e;subst e;exact⟨_,rfl,r⟩
 |_,_,i+1,x,.cons _ t,e=>by
  obtain⟨u,h1,h2⟩:=ao.get (i:=i) (x:=x) t (by simpa using e);exact⟨u,by simpa using h1,h2⟩
theorem ao.set{x:V}{u:u8}(r:ar x u):∀{xs:List V}{us:List u8}(i:Nat),ao xs us->ao (xs.set i x) (us.set i u)
 |_,_,_,.nil=>.nil
 |_,_,0,.cons _ t=>.cons r t
 |_,_,i+1,.cons q t=>.cons q (ao.set r i t)
theorem ao.append:∀{xs ys:List V}{us ws:List u8},ao xs us->ao ys ws->ao (xs++ys) (us++ws)
 |_,_,_,_,.nil,s=>s
 |_,_,_,_,.cons r t,s=>.cons r (ao.append t s)
theorem ao.take:∀{xs:List V}{us:List u8}(n:Nat),ao xs us->ao (xs.take n) (us.take n)
 |_,_,0,_=>.nil
 |_,_,_+1,.nil=>.nil
 |_,_,n+1,.cons r t=>.cons r (ao.take n t)
theorem ao.drop:∀{xs:List V}{us:List u8}(n:Nat),ao xs us->ao (xs.drop n) (us.drop n)
 |_,_,0,r=>r
 |_,_,_+1,.nil=>.nil
 |_,_,n+1,.cons _ t=>ao.drop n t
def gC:Option V->Option u8->Prop
 |some v,some u=>ar v u
 |none,none=>True
 |_,_=>False
def KV{κ:Type}:List (κ×V)->List (κ×u8)->Prop:=F2 fun(p:κ×V) (q:κ×u8)=>p.1=q.1/\ar p.2 q.2
def kV:Key->V
 |.inl i=>.int i
 |.inr x=>.str x
inductive HO where
 |lst (xs:List V)
 |tup (xs:List V)
 |dK (kvs:List (Key×V))|dT (kvs:List (List Key×V))
 |set (S:Int->Bool) (n:Nat)
 |ins (C dx:A8) (fs:List (Str×V))
 |own (x:A8)
 |xd (fs:List (Str×V))
 |met (f x:A8)
 |rng (lo hi:Int)
 |frz (o:Obj) (u:HO)
 |tbl (ps:Array u8)
 |ext (φ:C5->Prop)
abbrev Hp:=A8->Option HO
def upd(H:Hp) (a:A8) (o:HO):Hp:=fun b=>if b=a then some o else H b
theorem aC{H:Hp}{a:A8}{o:HO}:upd H a o a=some o:=by unfold upd;rw[if_pos rfl]
theorem ax{H:Hp}{a b:A8}{o:HO}(h:b≠a):upd H a o b=H b:=by unfold upd;rw[if_neg h]
theorem zi{H:Hp}{a b:A8}{o u:HO}(h:H a=some o) (h':H b=some u) (d:o≠u):a≠b:=by
 intro e;subst e;rw[h]at h';exact d (C1 h')
theorem aX{H:Hp}{a b:A8}{o:HO}(h:H a=some o) (h':H b=none):a≠b:=by
 intro e;subst e;rw[h]at h';cases h'
def iF(h:C5) (a:A8) (xs:Array u8):Prop:=∃o,h.get? a=some o/\o.cls=.type "tuple"/\(∃n,o.data=.seq xs n)/\o.dict=none
theorem iF.tup{h:C5}{a:A8}{xs:Array u8}(x:iF h a xs):T9 h a xs:=let⟨o,e,c,d,_⟩:=x;⟨o,e,c,d⟩
theorem iF.lt{h:C5}{a:A8}{xs:Array u8}(x:iF h a xs):a<h.objs.size:=let⟨_,e,_⟩:=x;A6 e
theorem iF.new(h:C5) (xs:Array u8):iF (h.push { cls:=.type "tuple",data:=.seq xs }) h.objs.size xs:=⟨_,B6 h rfl,rfl,⟨_,rfl⟩,rfl⟩
section
variable(P:B9) (w:E6)
def bf(H:Hp) (h:C5) (a:A8):HO->Prop
 |.lst xs=>xs.length<=A0/\∃(its:List u8) (n:Nat),ao xs its/\h.get? a=some { cls:=.type "list",data:=.seq its.toArray n }
 |.tup xs=>xs.length<=A0/\∃its:List u8,ao xs its/\iF h a its.toArray
 |.dK kvs=>kvs.length<=A0/\(a==K8)=false/\∃vs,KV kvs vs/\h.DictOf (br P w) a vs
 | .dT kvs => kvs.length ≤ A0 ∧ (a == K8) = false ∧ ∃ xs:List (List Key × A8 × u8),
   F2 (fun(p:List Key×V) (q:List Key×A8×u8)=>p.1=q.1/\H q.2.1=some (.tup (p.1.map kV))/\ar p.2 q.2.2) kvs xs /\
   ∃o es ep,h.get? a=some o/\o.ExactDict/\o.data=.dict es ep/\es.toList=xs.map (entryOfKey (R5 (br P w)))/\(xs.map (·.1)).Nodup
 |.set S n=>h.SetOf (intKind P w) a S n
 | .ins C dx fs => H dx = some (.own a) ∧ fs.length ≤ 1000 ∧ dx ≠ a ∧ h.get? a = some (PySem.W.instObj C dx) ∧
   ∃mA,h.Ns1 dx mA/\(∀f,gC (fs.lookup f) (mA f))/\PySem.Within mA (fs.map (·.1))
 |.own _=>∃o,h.get? a=some o
 |.xd fs=>∃mA,h.Ns1 a mA/\∀f,gC (fs.lookup f) (mA f)
 |.rng lo hi=>∃t u v,h.get? a=some { cls:=.type "range",data:=.fields #[.int lo t,.int hi u,.int 1 v] }
 |.frz o u=>h.get? a=some o/\bf H h a u
 |.tbl ps=>h.get? a=some { cls:=.none,data:=.fields ps }
 |.met f x=>h.get? a=some (PySem.W.methodObj (.ref f) (.ref x))
 |.ext φ=>φ h/\(∃o,h.get? a=some o)/\∀h1 h2:C5,φ h1->(∀o,h1.get? a=some o->h2.get? a=some o)->φ h2
def HOk(H:Hp) (h:C5):Prop:=∀a o,H a=some o->bf P w H h a o
end
section
variable{P:B9}{w:E6}{H H':Hp}{h h':C5}{a:A8}{o:HO}
theorem bf.lt(x:bf P w H h a o):a<h.objs.size:=by
 cases o with
 |lst xs=>obtain⟨_,_,_,_,e⟩:=x;exact A6 e
 |tup xs=>obtain⟨_,_,_,p⟩:=x;exact p.lt
 |dK kvs=>obtain⟨_,_,_,_,o,_,_,e,_⟩:=x;exact A6 e
 |dT kvs=>obtain⟨_,_,_,_,o,_,_,e,_⟩:=x;exact A6 e
 |set S n=>obtain⟨o,_,_,_,e,_⟩:=x;exact A6 e
 |ins C dx fs=>obtain⟨_,_,_,e,_⟩:=x;exact A6 e
 |own y=>obtain⟨_,e⟩:=x;exact A6 e
 |xd fs=>obtain⟨_,⟨_,_,_,e,_⟩,_⟩:=x;exact A6 e
 |rng lo hi=>obtain⟨_,_,_,e⟩:=x;exact A6 e
 |frz ob u=>obtain⟨e,_⟩:=x;exact A6 e
 |tbl ps=>exact A6 (show h.get? a=some _ from x)
 |met f y=>exact A6 (show h.get? a=some _ from x)
 |ext φ=>obtain⟨_,⟨_,e⟩,_⟩:=x;exact A6 e
theorem F2.mapP{α β:Type}{F G:α->β->Prop}:∀{l₁:List α}{l₂:List β},F2 F l₁ l₂->(∀a b,F a b->G a b)->F2 G l₁ l₂
 |_,_,.nil,_=>.nil
 |_,_,.cons r t,f=>.cons (f _ _ r) (F2.mapP t f)
theorem F2.imp'{α β:Type}{F G:α->β->Prop}(f:∀a b,F a b->G a b) {l₁:List α}{l₂:List β}(r:F2 F l₁ l₂):F2 G l₁ l₂:=F2.mapP r f
theorem bf.stay(x:bf P w H h a o) (k:∀b u,(b=a∨H b=some (.own a))->h.get? b=some u->h'.get? b=some u)
  (ho:∀b,H b=some (.own a)->H' b=some (.own a)) (ht:∀b xs,H b=some (.tup xs)->H' b=some (.tup xs)):bf P w H' h' a o:=by
 induction o with
 |lst xs=>obtain⟨z,its,n,r,e⟩:=x;exact⟨z,its,n,r,k _ _ (.inl rfl) e⟩
 |tup xs=>obtain⟨z,its,r,ob,e,c⟩:=x;exact⟨z,its,r,ob,k _ _ (.inl rfl) e,c⟩
 |dK kvs=>obtain⟨z,y,vs,r,ob,es,ep,e,c⟩:=x;exact⟨z,y,vs,r,ob,es,ep,k _ _ (.inl rfl) e,c⟩
 |dT kvs =>
  obtain⟨z,y,xs,r,ob,es,ep,e,c⟩:=x;exact⟨z,y,xs,F2.mapP r fun p q z=>⟨z.1,ht _ _ z.2.1,z.2.2⟩,ob,es,ep,k _ _ (.inl rfl) e,c⟩
 |set S n=>obtain⟨ob,es,ep,t,e,c⟩:=x;exact⟨ob,es,ep,t,k _ _ (.inl rfl) e,c⟩
 |ins C dx fs =>
  obtain⟨d,z,ne,e,mA,⟨od,es,ep,e2,c⟩,r⟩:=x;exact⟨ho _ d,z,ne,k _ _ (.inl rfl) e,mA,⟨od,es,ep,k _ _ (.inr d) e2,c⟩,r⟩
 |own y=>obtain⟨ob,e⟩:=x;exact⟨ob,k _ _ (.inl rfl) e⟩
 |xd fs=>obtain⟨mA,⟨od,es,ep,e,c⟩,r⟩:=x;exact⟨mA,⟨od,es,ep,k _ _ (.inl rfl) e,c⟩,r⟩
 |rng lo hi=>obtain⟨t,u,v,e⟩:=x;exact⟨t,u,v,k _ _ (.inl rfl) e⟩
 |frz ob u ih=>obtain⟨e,q⟩:=x;exact⟨k _ _ (.inl rfl) e,ih q⟩
 |tbl ps =>
  have e:h.get? a=some { cls:=.none,data:=.fields ps }:=x;show h'.get? a=some { cls:=.none,data:=.fields ps };exact k a _ (.inl rfl) e
 |met f y =>
  have e:h.get? a=some (PySem.W.methodObj (.ref f) (.ref y)):=x;show h'.get? a=some (PySem.W.methodObj (.ref f) (.ref y));exact k a _ (.inl rfl) e
 |ext φ=>obtain⟨p,⟨o,e⟩,st⟩:=x;exact⟨st _ _ p fun o q=>k _ _ (.inl rfl) q,⟨o,k _ _ (.inl rfl) e⟩,st⟩
theorem HOk.lt(x:HOk P w H h) (e:H a=some o):a<h.objs.size:=(x a o e).lt
theorem HOk.fresh(x:HOk P w H h) (e:h.objs.size<=a):H a=none:=by
 cases q:H a with
 |none=>rfl
 |some u=>exact absurd (B2 (x.lt q) e) (J5 _)
theorem HOk.kept(x:HOk P w H h) (k:∀b u,h.get? b=some u->h'.get? b=some u):HOk P w H h':=fun a o e =>
 (x a o e).stay (fun b u _ q=>k b u q) (fun _ q=>q) fun _ _ q=>q
theorem HOk.laid(x:HOk P w H h) (k:∀b u,h.get? b=some u->h'.get? b=some u) (hp:h.objs.size<=a) (new:bf P w (upd H a o) h' a o):HOk P w (upd H a o) h':=fun b u e=>by
 have hn:=x.fresh hp
 by_cases hb:b=a
 ·subst hb;rw[aC]at e;cases e;exact new
 ·rw[ax hb]at e;exact(x b u e).stay (fun c v _ q=>k c v q) (fun c q=>by rw[ax (aX q hn)];exact q) fun c xs q=>by rw[ax (aX q hn)];exact q
end
def Rd(H:Hp) (a:A8) (u:HO):Prop:=H a=some u∨∃o,H a=some (.frz o u)
theorem Rd.of{H:Hp}{a:A8}{u:HO}(h:H a=some u):Rd H a u:=.inl h
theorem Rd.ok{P:B9}{w:E6}{H:Hp}{h:C5}{a:A8}{u:HO}(r:Rd H a u) (x:HOk P w H h):bf P w H h a u:=by
 rcases r with r|⟨o,r⟩
 ·exact x a u r
 ·obtain⟨_,q⟩:=x a _ r;exact q
def Mut:Option HO->Prop
 |some (.lst _)=>True
 |some (.dK _)=>True
 |some (.dT _)=>True
 |some (.set _ _)=>True
 |some (.ins _ _ _)=>True
 |some (.ext _)=>True
 |_=>False
section
variable{P:B9}{w:E6}{H:Hp}{h h':C5}{x e:A8}{o':HO}
theorem HOk.write(ok:HOk P w H h) (mu:Mut (H x)) (he:e=x∨H e=some (.own x)) (k:∀b u,b≠e->h.get? b=some u->h'.get? b=some u) (heo:∃u,h'.get? e=some u)
  (new:bf P w (upd H x o') h' x o'):HOk P w (upd H x o') h':=fun b u q=>by
 have nown:∀c y,H c=some (.own y)->c≠x:=fun c y r z=>by subst z;rw[r]at mu;exact mu
 have ntup:∀c xs,H c=some (.tup xs)->c≠x:=fun c xs r z=>by subst z;rw[r]at mu;exact mu
 by_cases hb:b=x
 ·subst hb;rw[aC]at q;cases q;exact new
 ·rw[ax hb]at q
  by_cases hbe:b=e
  ·have q':H b=some (.own x):=by
    rcases he with z|z
    ·exact absurd (hbe.trans z) hb
    ·rw[hbe];exact z
   rw[q]at q';cases q';obtain⟨v,hv⟩:=heo;exact⟨v,by rw[hbe];exact hv⟩
  ·refine(ok b u q).stay (fun c v hc r=>k c v ?_ r) (fun c r=>by rw[ax (nown c b r)];exact r) fun c xs r=>by rw[ax (ntup c xs r)];exact r
   rcases hc with rfl|hc
   ·exact hbe
   ·rintro rfl;rcases he with z|z
    ·exact nown c b hc z
    ·rw[hc]at z;cases z;exact hb rfl
end
structure Un(fs ex:List A8) (H H':Hp) (h h':C5):Prop where
 keep:∀b o,h.get? b=some o->H b=none->b∉fs->b∉ex->h'.get? b=some o
 slot:∀b o,h.get? b=some o->H b=none->b∈fs->b∉ex->∃sl,h'.get? b=some { o with slots:=sl }
 free:∀b o,h.get? b=some o->H b=none->b∉ex->H' b=none
 there:∀b o,h.get? b=some o->b∉ex->∃o',h'.get? b=some o'
 tups:∀b xs,H b=some (.tup xs)->H' b=some (.tup xs)
 frzs:∀b o u,H b=some (.frz o u)->H' b=some (.frz o u)
 tbls:∀b ps,H b=some (.tbl ps)->∃more,H' b=some (.tbl (ps++more))
section
variable{fs fs' ex ex':List A8}{H H1 H2:Hp}{h h1 h2 h':C5}{a x e:A8}{o:HO}
theorem Un.any(u:Un fs ex H H1 h h1) {b:A8}{ob:Obj}(q:h.get? b=some ob) (n:H b=none) (hx:b∉ex):∃sl,h1.get? b=some { ob with slots:=sl }:=by
 by_cases hb:b∈fs
 ·exact u.slot b ob q n hb hx
 ·exact⟨ob.slots,u.keep b ob q n hb hx⟩
theorem Un.kept(k:∀b u,h.get? b=some u->h'.get? b=some u):Un fs ex H H h h' :=
 ⟨fun b ob q _ _ _=>k b ob q,fun b ob q _ _ _=>⟨ob.slots,k b ob q⟩,fun _ _ _ n _=>n,fun b ob q _=>⟨ob,k b ob q⟩,fun _ _ q=>q,fun _ _ _ q=>q,fun _ ps q=>⟨#[],by rw[q];simp⟩⟩
theorem Un.refl:Un fs ex H H h h:=Un.kept fun _ _ q=>q
theorem Un.laid(k:∀b u,h.get? b=some u->h'.get? b=some u) (hp:h.objs.size<=a) (hn:H a=none):Un fs ex H (upd H a o) h h' where
 keep:=fun b u q _ _ _=>k b u q
 slot:=fun b u q _ _ _=>⟨u.slots,k b u q⟩
 free:=fun b u q n _=>by rw[ax (B5 (B2 (A6 q) hp))];exact n
 there:=fun b u q _=>⟨u,k b u q⟩
 tups:=fun b xs q=>by rw[ax (aX q hn)];exact q
 frzs:=fun b u xs q=>by rw[ax (aX q hn)];exact q
 tbls:=fun b ps q=>⟨#[],by rw[ax (aX q hn),q];simp⟩
theorem Un.write(mu:Mut (H x)) (he:e=x∨H e=some (.own x)) (k:∀b u,b≠e->h.get? b=some u->h'.get? b=some u) (heo:∃u,h'.get? e=some u):Un fs ex H (upd H x o) h h':=by
 have hx:∀b,H b=none->b≠x:=fun b n z=>by subst z;rw[n]at mu;exact mu
 have hb:∀b,H b=none->b≠e:=fun b n z=>by
  subst z;rcases he with r|r
  ·exact hx b n r
  ·rw[n]at r;cases r
 have hm:∀b u,H b=some u->¬ Mut (some u)->b≠x:=fun b u q nm z=>by subst z;rw[q]at mu;exact nm mu
 refine⟨fun b u q n _ _=>k b u (hb b n) q,fun b u q n _ _=>⟨u.slots,k b u (hb b n) q⟩,fun b u q n _=>by rw[ax (hx b n)];exact n,fun b u q _=>?_,
  fun b xs q=>by rw[ax (hm b _ q fun z=>z)];exact q,fun b u xs q=>by rw[ax (hm b _ q fun z=>z)];exact q,fun b ps q=>⟨#[],by rw[ax (hm b _ q fun z=>z),q];simp⟩⟩
 by_cases hbe:b=e
 ·subst hbe;exact heo
 ·exact⟨u,k b u hbe q⟩
end
def trk(h:C5) (H:Hp):List A8:=(N0 h.objs.size).filter fun a=>(H a).isSome
def jJ(h:C5) (H:Hp):C5:=PySem.W.hideAll h (trk h H)
theorem pd(h:C5) (H:Hp):(jJ h H).objs.size=h.objs.size:=PySem.W.hideAll_size _ _
theorem qw{h:C5}{H:Hp}{b:A8}{o:Obj}(e:h.get? b=some o) (n:H b=none):(jJ h H).get? b=some o :=
 PySem.W.hideAll_get _ e fun hm=>by
  have q:(H b).isSome=true:=(List.mem_filter.mp hm).2;rw[n]at q;simp at q
theorem uL{h:C5}{H:Hp}{b:A8}{o:Obj}(e:(jJ h H).get? b=some o):h.get? b=some o/\H b=none:=by
 have e':h.get? b=some o:=PySem.W.of_hideAll (trk h H) e;refine⟨e',?_⟩;cases q:H b with
 |none=>rfl
 |some x =>
  have hm:b∈trk h H:=List.mem_filter.mpr ⟨N4.mpr (A6 e'),by simp[q]⟩;have z:(jJ h H).get? b=none:=PySem.W.hideAll_none (trk h H) hm;rw[z]at e;cases e
noncomputable def uz(g h:C5) (L:A8):List (A8×Obj):=(N0 h.objs.size).filterMap fun a=>if a=L∨(g.get? a).isSome=true then none else(h.get? a).map fun o=>(a,o)
def ay(g h:C5) (L d:A8):List (A8×Obj):=(uz g h L).filter fun p=>decide (p.1≠d)
structure Mod(K:o0) (mg:Str->Option u8) (base:C5):Prop where
 kin:K.In base
 glob:base.Ns J6 mg
 blt:∃mb,base.Ns builtinsNs mb/\∀x:Str,x≠"__name__"->mb x=J4 x
 nolimit:base.NoLimit
structure Cx where
 prog:B9
 w:E6
 K:o0
 mg:Str->Option u8
 base:C5
 A:D7
 N:List Str
 s₀:v0
 H₀:Hp
 env:Env
 outer:List Env
 stack:List Env
 ex:List A8
 fn:Str->Bool
 calm:Bool
 pn:List (A8×Obj)
 xe:u8->v0->Prop
def frs(l:List Env):List A8:=l.filterMap (·.frame)
abbrev Cx.fs(X:Cx):List A8:=frs X.outer
def Vis(sc:M9) (x:Str):Prop:=sc.names.lookup x=some .local∨sc.names.lookup x=some .cell∨sc.names.lookup x=some .free
def Loc(sc:M9) (x:Str):Prop:=sc.names.lookup x=some .local∨sc.names.lookup x=some .cell
def AD(env:Env) (h:C5) (m:Str->Option u8) (x:Str) (u:u8):Prop :=
 (env.kindOf x=some .local/\m x=some u)∨((env.kindOf x=some .cell∨env.kindOf x=some .free)/\∃c,env.cells.lookup x=some c/\h.IsCell c (some u))
structure Cx.Ok(X:Cx):Prop where
 mod:Mod X.K X.mg X.base
 kind:X.env.scope.kind=.function
 glob:X.env.globals=J6
 blt:X.env.builtins=builtinsNs
 above:X.s₀.heap.objs.size<=X.env.locals
 inj:∀x y c,X.env.cells.lookup x=some c->X.env.cells.lookup y=some c->x=y
 has:∀x,(X.env.kindOf x=some .cell∨X.env.kindOf x=some .free)->∃c,X.env.cells.lookup x=some c
 cab:∀x c,X.fn x=true->X.env.cells.lookup x=some c->X.s₀.heap.objs.size<=c
 hd:X.calm=true->X.A.handled=none
 frames:X.A.frames=some X.stack
 stk:X.stack=X.outer∨(X.stack=X.env::X.outer/\X.env.frame=some X.env.locals)
 exf:∀b∈X.ex,b≠X.env.locals/\∀x c,X.env.cells.lookup x=some c->c≠b
 bs:∀b o,X.base.get? b=some o->X.s₀.heap.get? b=some o/\X.H₀ b=none
 bsz:X.base.objs.size<=X.s₀.heap.objs.size
 noex:∀b o,X.base.get? b=some o->b∉X.ex
 exfs:∀b∈X.ex,b∉X.fs
 funs:X.s₀.heap.FunFrames X.base X.outer
 frf:∀b∈X.fs,X.H₀ b=none
structure Inv(X:Cx) (aa:List (A8×Obj)) (σ:List (Option V)) (H:Hp) (s:v0):Prop where
 ok:X.Ok
 os:s.os=X.s₀.os
 bare:P4 s.gens
 base:Un X.fs X.ex X.H₀ H X.s₀.heap s.heap
 loc:∃m,s.heap.Ns X.env.locals m/\∀(i:Nat) (x:Str) (v:V),X.N[i]?=some x->σ[i]?=some (some v)->Vis X.env.scope x->∃u,ar v u/\AD X.env s.heap m x u
 cell:∀x c,X.env.cells.lookup x=some c->∃v,s.heap.IsCell c v
 free:H X.env.locals=none
 freeC:∀x c,X.env.cells.lookup x=some c->H c=none
 pin:∀p∈X.pn++aa,s.heap.get? p.1=some p.2/\H p.1=none/\p.1≠X.env.locals/\p.1∉X.fs/\∀v,p.2.data≠.cell v
 hok:HOk X.prog X.w H s.heap
 len:σ.length=X.N.length
section
variable{X:Cx}{aa:List (A8×Obj)}{σ:List (Option V)}{H H':Hp}{s:v0}{h':C5}
theorem Cx.Ok.nofr(ok:X.Ok) {b:A8}{o:Obj}(e:X.base.get? b=some o):b∉X.fs:=fun hb=>by
 have:=(ok.funs.mem hb).1;rw[e]at this;cases this
theorem Inv.bs(I:Inv X aa σ H s):∀b o,X.base.get? b=some o->s.heap.get? b=some o/\H b=none:=fun b o e =>
 ⟨I.base.keep b o (I.ok.bs b o e).1 (I.ok.bs b o e).2 (I.ok.nofr e) (I.ok.noex b o e),I.base.free b o (I.ok.bs b o e).1 (I.ok.bs b o e).2 (I.ok.noex b o e)⟩
theorem Inv.bk(I:Inv X aa σ H s):∀b o,X.base.get? b=some o->s.heap.get? b=some o:=fun b o e=>(I.bs b o e).1
theorem Inv.mod(I:Inv X aa σ H s):Mod X.K X.mg X.base:=I.ok.mod
theorem Inv.kIn(I:Inv X aa σ H s):X.K.In s.heap:=I.ok.mod.kin.keeps I.bk
theorem Inv.lt(I:Inv X aa σ H s):X.env.locals<s.heap.objs.size:=let⟨_,hn,_⟩:=I.loc;hn.lt
theorem Inv.sz(I:Inv X aa σ H s):X.s₀.heap.objs.size<=s.heap.objs.size:=D2 I.ok.above (Nat.le_of_lt I.lt)
theorem Inv.nofs(I:Inv X aa σ H s) {a:A8}(h:s.heap.objs.size<=a):a∉X.fs:=fun hb=>by
 obtain⟨_,o,ho,_⟩:=I.ok.funs.mem hb;exact absurd (B2 (A6 ho) (D2 I.sz h)) (J5 _)
theorem Inv.cne(I:Inv X aa σ H s):∀x c,X.env.cells.lookup x=some c->c≠X.env.locals:=fun x c e z=>by
 obtain⟨v,o,ho,hd⟩:=I.cell x c e;obtain⟨m,⟨o',es,ep,ho',hd',_⟩,_⟩:=I.loc;rw[z,ho']at ho;cases ho;rw[hd']at hd;cases hd
theorem Inv.funs(I:Inv X aa σ H s):s.heap.FunFrames X.base X.outer:=by
 have all:∀(l:List Env),(∀b∈frs l,b∈X.fs)->X.s₀.heap.FunFrames X.base l->s.heap.FunFrames X.base l:=by
  intro l
  induction l with
  |nil=>intro _ _;trivial
  |cons env r ih =>
   intro hs hl;obtain⟨hk,⟨L,o,hf,hn,ho,hd⟩,hr⟩:=hl;have hL:L∈X.fs:=hs L (by unfold frs;rw[J7,hf];exact E1);obtain⟨sl,e⟩:=I.base.slot L o ho (I.ok.frf L hL) hL fun z=>I.ok.exfs L z hL;exact⟨hk,⟨L,_,hf,hn,e,hd⟩,ih (fun b hb=>hs b (by unfold frs;rw[J7,hf];exact C4 _ hb)) hr⟩
 exact all X.outer (fun _ hb=>hb) I.ok.funs
theorem Inv.stack(I:Inv X aa σ H s):s.heap.FunFrames X.base X.stack:=by
 rcases I.ok.stk with e|⟨e,hf⟩
 ·rw[e];exact I.funs
 ·rw[e];obtain⟨m,hn,_⟩:=I.loc;refine .cons (by rw[I.ok.kind];decide) hf hn ?_ I.funs;exact C5.get?_none_of_le (D2 I.ok.bsz I.ok.above)
theorem Inv.stkSub(I:Inv X aa σ H s):∀b∈frs X.stack,b∈X.env.locals::X.fs:=fun b hb=>by
 rcases I.ok.stk with e|⟨e,hf⟩
 ·rw[e]at hb;exact C4 _ hb
 ·rw[e]at hb;unfold frs at hb;rw[J7,hf]at hb;exact hb
theorem Inv.stkFree(I:Inv X aa σ H s):∀b∈frs X.stack,H b=none:=fun b hb=>by
 rcases K3.mp (I.stkSub b hb)with e|hb
 ·rw[e];exact I.free
 ·obtain⟨_,o,ho,_⟩:=I.ok.funs.mem hb;exact I.base.free b o ho (I.ok.frf b hb) fun z=>I.ok.exfs b z hb
theorem Inv.step{g':Array GenState}{t':Nat}{d':Drawn}{ch:List A8}(I:Inv X aa σ H s)
  (hch:∀b∈ch,(b∈X.ex∨X.s₀.heap.objs.size<=b)/\b≠X.env.locals/\(∀x c,X.env.cells.lookup x=some c->c≠b)/\∀p∈X.pn++aa,p.1≠b)
  (keep:∀b o,b≠X.env.locals->b∉X.fs->b∉ch->s.heap.get? b=some o->H b=none->h'.get? b=some o)
  (slot:∀b o,b≠X.env.locals->b∈X.fs->b∉ch->s.heap.get? b=some o->H b=none->∃sl,h'.get? b=some { o with slots:=sl }) (free:∀b o,b∉ch->s.heap.get? b=some o->H b=none->H' b=none)
  (there:∀b o,b∉ch->s.heap.get? b=some o->∃o',h'.get? b=some o')
  (tups:∀b xs,H b=some (.tup xs)->H' b=some (.tup xs)) (frzs:∀b o u,H b=some (.frz o u)->H' b=some (.frz o u)) (tbls:∀b ps,H b=some (.tbl ps)->∃more,H' b=some (.tbl (ps++more)))
  (ns:∀m,s.heap.Ns X.env.locals m->h'.Ns X.env.locals m) (hok:HOk X.prog X.w H' h') (hg:P4 g') :
  Inv X aa σ H' { s with heap:=h',gens:=g',drawn:=d',toks:=t' }:=by
 have neL:∀b o,X.s₀.heap.get? b=some o->b≠X.env.locals:=fun b o e=>B5 (B2 (A6 e) I.ok.above);have neC:∀b o,X.s₀.heap.get? b=some o->b∉X.ex->b∉ch:=fun b o e hx hb=>by
  rcases(hch b hb).1 with z|z
  ·exact hx z
  ·exact absurd (B2 (A6 e) z) (J5 _)
 have cellK:∀x c,X.env.cells.lookup x=some c->∀v,s.heap.IsCell c v->h'.IsCell c v:=fun x c e v ⟨o,ho,hd⟩=>by
  have nch:c∉ch:=fun z=>(hch c z).2.2.1 x c e rfl
  by_cases hc:c∈X.fs
  ·obtain⟨sl,q⟩:=slot c o (I.cne x c e) hc nch ho (I.freeC x c e);exact⟨_,q,hd⟩
  ·exact⟨o,keep c o (I.cne x c e) hc nch ho (I.freeC x c e),hd⟩
 refine⟨I.ok,I.os,hg,⟨fun b o e n hb hx=>?_,fun b o e n hb hx=>?_,fun b o e n hx=>?_,fun b o e hx=>?_,fun b xs e=>tups b xs (I.base.tups b xs e),fun b o xs e=>frzs b o xs (I.base.frzs b o xs e),fun b ps e=>?_⟩,?_,fun x c e=>?_,?_,fun x c e=>?_,fun p hp=>?_,hok,I.len⟩
 ·exact keep b o (neL b o e) hb (neC b o e hx) (I.base.keep b o e n hb hx) (I.base.free b o e n hx)
 ·obtain⟨sl,e1⟩:=I.base.slot b o e n hb hx;obtain⟨sl',e2⟩:=slot b _ (neL b o e) hb (neC b o e hx) e1 (I.base.free b o e n hx);exact⟨sl',e2⟩
 ·obtain⟨o',e1⟩:=I.base.there b o e hx;exact free b o' (neC b o e hx) e1 (I.base.free b o e n hx)
 ·obtain⟨o',e1⟩:=I.base.there b o e hx;exact there b o' (neC b o e hx) e1
 ·obtain⟨m1,e1⟩:=I.base.tbls b ps e;obtain⟨m2,e2⟩:=tbls b _ e1;exact⟨m1++m2,by rw[e2,Array.append_assoc]⟩
 ·obtain⟨m,hn,hl⟩:=I.loc;refine⟨m,ns m hn,fun i x v e1 e2 e3=>?_⟩;obtain⟨u,r,l⟩:=hl i x v e1 e2 e3;refine⟨u,r,?_⟩;rcases l with l|⟨k,c,e,z⟩
  ·exact .inl l
  ·exact .inr ⟨k,c,e,cellK x c e _ z⟩
 ·obtain⟨v,z⟩:=I.cell x c e;exact⟨v,cellK x c e v z⟩
 ·obtain⟨m,⟨o,_,_,ho,_⟩,_⟩:=I.loc;exact free _ o (fun z=>(hch _ z).2.1 rfl) ho I.free
 ·obtain⟨v,o,ho,hd⟩:=I.cell x c e;exact free c o (fun z=>(hch c z).2.2.1 x c e rfl) ho (I.freeC x c e)
 ·obtain⟨e,n,ne,nf,d⟩:=I.pin p hp;have nch:p.1∉ch:=fun z=>(hch p.1 z).2.2.2 p hp rfl;exact⟨keep p.1 p.2 ne nf nch e n,free p.1 p.2 nch e n,ne,nf,d⟩
theorem Inv.un{t':Nat}(I:Inv X aa σ H s) (u:Un X.fs [] H H' s.heap h') (hok:HOk X.prog X.w H' h'):Inv X aa σ H' { s with heap:=h',toks:=t' }:=by
 obtain⟨m,⟨o,es,ep,ho,r⟩,_⟩:=id I.loc;obtain⟨sl,hL⟩:=u.any ho I.free (by simp);exact I.step (g':=s.gens) (d':=s.drawn) (ch:=[]) (fun _ z=>nomatch z) (fun b o _ hb _ e n=>u.keep b o e n hb (by simp)) (fun b o _ hb _ e n=>u.slot b o e n hb (by simp)) (fun b o _ e n=>u.free b o e n (by simp)) (fun b o _ e=>u.there b o e (by simp)) u.tups u.frzs u.tbls (fun m' hm=>by
  obtain⟨o',es',ep',ho',r'⟩:=hm;rw[ho]at ho';cases ho';exact⟨_,es',ep',hL,r'⟩) hok I.bare
theorem Inv.call{g':Array GenState}{t':Nat}{d':Drawn}{ch:List A8}(I:Inv X aa σ H s) (u:Un (frs X.stack) ch H H' s.heap h') (hok:HOk X.prog X.w H' h') (hg:P4 g')
  (hch:∀b∈ch,(b∈X.ex∨X.s₀.heap.objs.size<=b)/\b≠X.env.locals/\(∀x c,X.env.cells.lookup x=some c->c≠b)/\∀p∈X.pn++aa,p.1≠b) :
  Inv X aa σ H' { s with heap:=h',gens:=g',drawn:=d',toks:=t' }:=by
 obtain⟨m,⟨o,es,ep,ho,r⟩,_⟩:=id I.loc;obtain⟨sl,hL⟩:=u.any ho I.free fun z=>(hch _ z).2.1 rfl;exact I.step (ch:=ch) hch (fun b o hL hb hc e n=>u.keep b o e n (fun z=>(K3.mp (I.stkSub b z)).elim hL hb) hc) (fun b o _ _ hc e n=>u.any e n hc) (fun b o hc e n=>u.free b o e n hc) (fun b o hc e=>u.there b o e hc) u.tups u.frzs u.tbls (fun m' hm=>by
  obtain⟨o',es',ep',ho',r'⟩:=hm;rw[ho]at ho';cases ho';exact⟨_,es',ep',hL,r'⟩) hok hg
theorem Inv.turned{t':Nat}{it:A8}(I:Inv X aa σ H s) (k:∀b o,b≠it->s.heap.get? b=some o->h'.get? b=some o) (hn:H it=none) (hL:it≠X.env.locals)
  (h1:it∈X.ex∨X.s₀.heap.objs.size<=it) (h2:∀x c,X.env.cells.lookup x=some c->c≠it) (h3:∀p∈X.pn++aa,p.1≠it):Inv X aa σ H { s with heap:=h',toks:=t' }:=by
 have nit:∀b u,H b=some u->b≠it:=fun b u e z=>by rw[z,hn]at e;cases e
 refine I.step (g':=s.gens) (d':=s.drawn) (ch:=[it]) (fun b hb=>?_) (fun b o _ _ hc e _=>k b o (fun z=>hc (by simp[z])) e) (fun b o _ _ hc e _=>⟨o.slots,k b o (fun z=>hc (by simp[z])) e⟩) (fun _ _ _ _ n=>n)
  (fun b o hc e=>⟨o,k b o (fun z=>hc (by simp[z])) e⟩) (fun _ _ e=>e) (fun _ _ _ e=>e) (fun b ps e=>⟨#[],by rw[e];simp⟩) (fun m hm=>?_) (fun b u e=>?_) I.bare
 ·have e:b=it:=by simpa using hb
  subst e;exact⟨h1,hL,h2,h3⟩
 ·obtain⟨o,es,ep,ho,r⟩:=hm;exact⟨o,es,ep,k _ o (R8 hL) ho,r⟩
 ·refine(I.hok b u e).stay (fun c v hc q=>k c v ?_ q) (fun _ q=>q) fun _ _ q=>q;rcases hc with z|z
  ·rw[z];exact nit b u e
  ·exact nit c _ z
theorem Inv.tok(I:Inv X aa σ H s) (t:Nat):Inv X aa σ H { s with toks:=t }:=I.un (h':=s.heap) (t':=t) Un.refl I.hok
theorem Inv.kept{t':Nat}(I:Inv X aa σ H s) (k:∀b u,s.heap.get? b=some u->h'.get? b=some u):Inv X aa σ H { s with heap:=h',toks:=t' }:=I.un (Un.kept k) (I.hok.kept k)
theorem Inv.laid{a:A8}{o:HO}{t':Nat}(I:Inv X aa σ H s) (k:∀b u,s.heap.get? b=some u->h'.get? b=some u) (hp:s.heap.objs.size<=a) (new:bf X.prog X.w (upd H a o) h' a o) :
  Inv X aa σ (upd H a o) { s with heap:=h',toks:=t' }:=I.un (Un.laid k hp (I.hok.fresh hp)) (I.hok.laid k hp new)
theorem Inv.write{x e:A8}{o:HO}{t':Nat}(I:Inv X aa σ H s) (mu:Mut (H x)) (he:e=x∨H e=some (.own x)) (k:∀b u,b≠e->s.heap.get? b=some u->h'.get? b=some u) (heo:∃u,h'.get? e=some u)
  (new:bf X.prog X.w (upd H x o) h' x o):Inv X aa σ (upd H x o) { s with heap:=h',toks:=t' }:=I.un (Un.write mu he k heo) (I.hok.write mu he k heo new)
theorem Inv.pins_of{pins':List (A8×Obj)}(I:Inv X aa σ H s) (h:∀p∈pins',s.heap.get? p.1=some p.2/\H p.1=none/\p.1≠X.env.locals/\p.1∉X.fs/\∀v,p.2.data≠.cell v):Inv X pins' σ H s :=
 ⟨I.ok,I.os,I.bare,I.base,I.loc,I.cell,I.free,I.freeC,fun p hp=>(L1.mp hp).elim (fun z=>I.pin p (List.mem_append_left _ z)) (h p),I.hok,I.len⟩
theorem lu{N:List Str}(hN:N.Nodup) {i j:Nat}{x:Str}(a:N[i]?=some x) (b:N[j]?=some x):i=j:=by
 obtain⟨h1,e1⟩:=E7.mp a;obtain⟨h2,e2⟩:=E7.mp b;exact(List.getElem_inj hN).mp (e1.trans e2.symm)
theorem jh{M:Model}{A:D7}{E:u8->v0->Prop}{i:Nat}{x:Str}{v:V}{u:u8}{Q:Unit->v0->Prop}(I:Inv X aa σ H s) (hN:X.N.Nodup) (hi:X.N[i]?=some x) (hx:Loc X.env.scope x) (r:ar v u)
  (h:∀s',Inv X aa (σ.set i (some v)) H s'->(∃a,O7 a s.heap s'.heap/\(a=X.env.locals∨X.env.cells.lookup x=some a))->Q () s') (hf:X.fn x=true∨X.env.scope.names.lookup x=some .local:=by first|exact .inl rfl|exact .inr rfl|assumption):B7 M A (storeName X.env x u) Q E s:=by
 obtain⟨m,hn,hl⟩:=id I.loc;have hcls:(X.env.scope.kind==.class || (X.env.scope.kind==.module&&X.env.locals != X.env.globals))=false:=by rw[I.ok.kind];rfl
 have hiσ:i<σ.length:=by rw[I.len];exact(E7.mp hi).1
 have cne:=I.cne;have tracked:∀{a:A8} {h':C5},(∃o,s.heap.get? a=some o/\H a=none)->O7 a s.heap h'->HOk X.prog X.w H h':=fun {a h'} ha hs b ob e=>by
  obtain⟨_,_,hfree⟩:=ha;refine(I.hok b ob e).stay (fun c w' hc q=>(hs.2 c ?_).trans q) (fun _ q=>q) fun _ _ q=>q;rintro rfl;rcases hc with rfl|hc
  ·rw[hfree]at e;cases e
  ·rw[hfree]at hc;cases hc
 rcases hx with hk|hk
 ·refine wpAny_storeName_local hk hn (fun h' hn' hs=>?_) hcls;obtain⟨oL,_,_,hoL,_⟩:=id hn;refine h _ ⟨I.ok,I.os,I.bare,⟨fun b o e n hb hx=>?_,fun b o e n hb hx=>?_,I.base.free,fun b o e hx=>?_,I.base.tups,I.base.frzs,I.base.tbls⟩,⟨_,hn',fun j y v' e1 e2 e3=>?_⟩,fun y c e=>?_,I.free,I.freeC,fun p hp=>?_,tracked ⟨oL,hoL,I.free⟩ hs,by simpa using I.len⟩ ⟨_,hs,.inl rfl⟩
  ·exact(hs.2 b (B5 (B2 (A6 e) I.ok.above))).trans (I.base.keep b o e n hb hx)
  ·obtain⟨sl,e1⟩:=I.base.slot b o e n hb hx;exact⟨sl,(hs.2 b (B5 (B2 (A6 e) I.ok.above))).trans e1⟩
  ·obtain⟨o',e1⟩:=I.base.there b o e hx;exact⟨o',(hs.2 b (B5 (B2 (A6 e) I.ok.above))).trans e1⟩
  ·by_cases hj:j=i
   ·subst hj;rw[hi]at e1;cases e1;rw[K2 hiσ]at e2;cases e2;exact⟨u,r,.inl ⟨hk,by simp⟩⟩
   ·rw[List.getElem?_set_ne (R8 hj)]at e2;obtain⟨u',r',q⟩:=hl j y v' e1 e2 e3;refine⟨u',r',?_⟩;rcases q with⟨k,e⟩|⟨k,c,e,z⟩
    ·refine .inl ⟨k,?_⟩;have:y≠x:=fun e=>hj (lu hN e1 (e▸hi));simp[this,e]
    ·exact .inr ⟨k,c,e,z.sameBut hs (cne y c e)⟩
  ·obtain⟨w',z⟩:=I.cell y c e;exact⟨w',z.sameBut hs (cne y c e)⟩
  ·obtain⟨e,n,ne,nf,d⟩:=I.pin p hp;exact⟨(hs.2 p.1 ne).trans e,n,ne,nf,d⟩
 ·have hfn:X.fn x=true:=by
   rcases hf with z|z
   ·exact z
   ·rw[z]at hk;cases hk
  obtain⟨c,hc⟩:=I.ok.has x (.inl hk);obtain⟨w',z⟩:=I.cell x c hc;refine wpAny_storeName_cell I.ok.kind hk hc z (fun h' hc' hs=>?_);obtain⟨oc,hoc,hocd⟩:=id z;refine h { s with heap:=h' } ⟨I.ok,I.os,I.bare,⟨fun b o e n hb hx=>?_,fun b o e n hb hx=>?_,I.base.free,fun b o e hx=>?_,I.base.tups,I.base.frzs,I.base.tbls⟩,⟨m,hn.sameBut hs (R8 (cne x c hc)),fun j y v' e1 e2 e3=>?_⟩,fun y c' e=>?_,I.free,I.freeC,fun p hp=>?_,tracked ⟨oc,hoc,I.freeC x c hc⟩ hs,by simpa using I.len⟩ ⟨c,hs,.inr hc⟩
  ·exact(hs.2 b (B5 (B2 (A6 e) (I.ok.cab x c hfn hc)))).trans (I.base.keep b o e n hb hx)
  ·obtain⟨sl,e1⟩:=I.base.slot b o e n hb hx;exact⟨sl,(hs.2 b (B5 (B2 (A6 e) (I.ok.cab x c hfn hc)))).trans e1⟩
  ·obtain⟨o',e1⟩:=I.base.there b o e hx;exact⟨o',(hs.2 b (B5 (B2 (A6 e) (I.ok.cab x c hfn hc)))).trans e1⟩
  ·by_cases hj:j=i
   ·subst hj;rw[hi]at e1;cases e1;rw[K2 hiσ]at e2;cases e2;exact⟨u,r,.inr ⟨.inl hk,c,hc,hc'⟩⟩
   ·rw[List.getElem?_set_ne (R8 hj)]at e2;obtain⟨u',r',q⟩:=hl j y v' e1 e2 e3;refine⟨u',r',?_⟩;rcases q with q|⟨k,c',e,z'⟩
    ·exact .inl q
    ·refine .inr ⟨k,c',e,z'.sameBut hs ?_⟩;rintro rfl;exact hj (lu hN e1 (I.ok.inj _ _ _ e hc▸hi))
  ·by_cases hcc:c'=c
   ·subst hcc;exact⟨_,hc'⟩
   ·obtain⟨w2,z2⟩:=I.cell y c' e;exact⟨w2,z2.sameBut hs hcc⟩
  ·obtain⟨e,n,ne,nf,d⟩:=I.pin p hp;refine⟨(hs.2 p.1 ?_).trans e,n,ne,nf,d⟩;intro q;rw[q,hoc]at e;have q':oc=p.2:=C1 e;exact d w' (by rw[<-q'];exact hocd)
theorem ip{M:Model}{A:D7}{E:u8->v0->Prop}{i:Nat}{x:Str}{v:V}{u:u8}{Q:Unit->v0->Prop}(I:Inv X aa σ H s) (hN:X.N.Nodup) (hi:X.N[i]?=some x) (hx:Loc X.env.scope x) (r:ar v u)
  (h:∀s',Inv X aa (σ.set i (some v)) H s'->Q () s') (hf:X.fn x=true∨X.env.scope.names.lookup x=some .local:=by first|exact .inl rfl|exact .inr rfl|assumption):B7 M A (storeName X.env x u) Q E s :=
 jh I hN hi hx r (fun s' I' _=>h s' I') hf
theorem Inv.call'{s':v0}{ch:List A8}(I:Inv X aa σ H s) (ho:s'.os=s.os) (u:Un (frs X.stack) ch H H' s.heap s'.heap) (hok:HOk X.prog X.w H' s'.heap) (hg:P4 s'.gens)
  (hch:∀b∈ch,(b∈X.ex∨X.s₀.heap.objs.size<=b)/\b≠X.env.locals/\(∀x c,X.env.cells.lookup x=some c->c≠b)/\∀p∈X.pn++aa,p.1≠b):Inv X aa σ H' s':=by
 obtain⟨h',g',d',t',o'⟩:=s';have e:o'=s.os:=ho;subst e;exact I.call (g':=g') (t':=t') (d':=d') u hok hg hch
end
abbrev XK:=u8->Option A8->Hp->Prop
noncomputable abbrev St:=List (Option V)
abbrev VK:=V->Hp->Prop
abbrev TE:=St->Hp->VK->Prop
abbrev TT:=St->Hp->(Bool->Hp->Prop)->Prop
abbrev TA:=St->Hp->(List V->Hp->Prop)->Prop
structure kU where
 nx:St->Hp->Prop
 rt:VK
 bk:St->Hp->Prop:=fun _ _=>False
 ct:St->Hp->Prop:=fun _ _=>False
abbrev TS:=kU->St->Hp->Prop
def EP(X:Cx) (aa:List (A8×Obj)) (σ:St) (Q:VK) (u:u8) (s':v0):Prop:=∃v H',Inv X aa σ H' s'/\ar v u/\Q v H'
def TP(X:Cx) (aa:List (A8×Obj)) (σ:St) (Q:Bool->Hp->Prop) (b:Bool) (s':v0):Prop:=∃H',Inv X aa σ H' s'/\Q b H'
def AP(X:Cx) (aa:List (A8×Obj)) (σ:St) (Q:List V->Hp->Prop) (us:List u8) (s':v0):Prop:=∃vs H',Inv X aa σ H' s'/\ao vs us/\Q vs H'
theorem EP.el{X:Cx}{aa:List (A8×Obj)}{σ:St}{Q:VK}{u:u8}{s:v0}{P:Prop}(h:EP X aa σ Q u s) (f:∀(v:V) (H:Hp),Inv X aa σ H s->ar v u->Q v H->P):P:=by
 obtain⟨x1,x2,a,b,c⟩:=h;exact f x1 x2 a b c
theorem AP.el{X:Cx}{aa:List (A8×Obj)}{σ:St}{Q:List V->Hp->Prop}{u:List u8}{s:v0}{P:Prop}(h:AP X aa σ Q u s) (f:∀(v:List V) (H:Hp),Inv X aa σ H s->ao v u->Q v H->P):P:=by
 obtain⟨x1,x2,a,b,c⟩:=h;exact f x1 x2 a b c
theorem TP.el{X:Cx}{aa:List (A8×Obj)}{σ:St}{Q:Bool->Hp->Prop}{u:Bool}{s:v0}{P:Prop}(h:TP X aa σ Q u s) (f:∀(H:Hp),Inv X aa σ H s->Q u H->P):P:=by
 obtain⟨x1,a,b⟩:=h;exact f x1 a b
def SP(X:Cx) (aa:List (A8×Obj)) (D:kU) (f:Flow) (s':v0):Prop :=
 match f with
 |.next=>∃ σ' H',Inv X aa σ' H' s'/\D.nx σ' H'
 |.brk=>∃ σ' H',Inv X aa σ' H' s'/\D.bk σ' H'
 |.cont=>∃ σ' H',Inv X aa σ' H' s'/\D.ct σ' H'
 |.ret u=>∃v σ' H',Inv X aa σ' H' s'/\ar v u/\D.rt v H'
def PE(X:Cx) (e:B4) (t:TE):Prop :=
 ∀(aa:List (A8×Obj)) (s:v0) (σ:St) (H:Hp) (Q:VK),Inv X aa σ H s->t σ H Q->B7 (B8 X.prog X.w) X.A (N6 e X.env) (EP X aa σ Q) X.xe s
def PT(X:Cx) (e:B4) (t:TT):Prop :=
 ∀(aa:List (A8×Obj)) (s:v0) (σ:St) (H:Hp) (Q:Bool->Hp->Prop),Inv X aa σ H s->t σ H Q->B7 (B8 X.prog X.w) X.A (isTrue e X.env (N6 e X.env)) (TP X aa σ Q) X.xe s
def PW(X:Cx) (e:B4) (t:TT):Prop :=
 ∀(whole:Sem u8) (aa:List (A8×Obj)) (s:v0) (σ:St) (H:Hp) (Q:Bool->Hp->Prop),Inv X aa σ H s->t σ H Q->B7 (B8 X.prog X.w) X.A (isTrue e X.env whole) (TP X aa σ Q) X.xe s
theorem PW.pt{X:Cx}{e:B4}{t:TT}(h:PW X e t):PT X e t:=h _
def PA(X:Cx) (es:List B4) (t:TA):Prop :=
 ∀(pos:Pos) (aa:List (A8×Obj)) (s:v0) (σ:St) (H:Hp) (Q:List V->Hp->Prop),Inv X aa σ H s->t σ H Q->B7 (B8 X.prog X.w) X.A (spliced (L3 pos (B1 es X.env))) (AP X aa σ Q) X.xe s
def PS(X:Cx) (st:Q7) (t:TS):Prop :=
 ∀(aa:List (A8×Obj)) (s:v0) (σ:St) (H:Hp) (D:kU),Inv X aa σ H s->t D σ H->B7 (B8 X.prog X.w) X.A (exec st X.env) (SP X aa D) X.xe s
def PSs(X:Cx) (st:List Q7) (t:TS):Prop :=
 ∀(aa:List (A8×Obj)) (s:v0) (σ:St) (H:Hp) (D:kU),Inv X aa σ H s->t D σ H->B7 (B8 X.prog X.w) X.A (execs st X.env) (SP X aa D) X.xe s
theorem thn{α:Type}{t:Sem α}{Q Q':α->v0->Prop}{M:Model}{A:D7}{E:u8->v0->Prop}{s:v0}(h:B7 M A t Q E s) (hQ:∀a s,Q a s->Q' a s):B7 M A t Q' E s:=C9 h hQ fun _ _ x=>x
section
variable{X:Cx}
def AX(i:Nat):TE:=fun σ H Q=>∃v,σ[i]?=some (some v)/\Q v H
def tC(v:V):TE:=fun _ H Q=>Q v H
theorem vW{i:Nat}{x:Str}{pos:Pos}(hN:X.N[i]?=some x) (hv:Vis X.env.scope x) (hd:(x==("__debug__":Str))=false:=by decide) (hcd:(x==("__classdict__":Str))=false:=by decide):PE X (.Name x pos) (AX i):=by
 intro aa s σ H Q I h;obtain⟨v,e,h⟩:=h;obtain⟨m,hn,hl⟩:=I.loc;obtain⟨u,r,l⟩:=hl i x v hN e hv;have fin:EP X aa σ Q u s:=⟨v,H,I,r,h⟩;rcases l with⟨hk,hm⟩|⟨hk,c,hc,hcell⟩
 ·exact wpAny_Name (wpAny_loadName_local I.ok.kind hk hn hm fin) hd
 ·rcases hk with hk|hk
  ·exact wpAny_Name (wpAny_loadName_cell I.ok.kind hk hc hcell fin) hd
  ·exact wpAny_Name (wpAny_loadName_free I.ok.kind hk hc hcell fin hcd) hd
theorem xp{i j pos}:PE X (.Constant (.int i) j pos) (tC (.int i)):=fun _ _ _ H _ I h=>wpAny_Constant_int ⟨.int i,H,I.tok _,⟨_,rfl⟩,h⟩
theorem xU{b j pos}:PE X (.Constant (.bool b) j pos) (tC (.bl b)):=fun _ _ _ H _ I h=>Constant_bool ⟨.bl b,H,I,rfl,h⟩
theorem v8{x j pos}:PE X (.Constant (.str x) j pos) (tC (.str x)):=fun _ _ _ H _ I h=>Calls.Constant_str ⟨.str x,H,I.tok _,⟨_,rfl⟩,h⟩
def Gl(X:Cx) (x:Str):Prop:=X.env.kindOf x=some .globalImplicit
theorem um{E:u8->v0->Prop}{aa:List (A8×Obj)}{s:v0}{σ:St}{H:Hp}{x:Str}{u:u8}{pos:Pos}{Q:u8->v0->Prop}(I:Inv X aa σ H s) (hg:Gl X x) (hm:X.mg x=some u) (h:Q u s)
  (hd:(x==("__debug__":Str))=false:=by decide):B7 (B8 X.prog X.w) X.A (N6 (.Name x pos) X.env) Q E s :=
 Calls.Name_function_global I.ok.kind hg (Calls.loadGlobal_global (by rw[I.ok.glob];exact I.mod.glob.keeps I.bk) hm h) hd
theorem c7{E:u8->v0->Prop}{aa:List (A8×Obj)}{s:v0}{σ:St}{H:Hp}{x:Str}{u:u8}{pos:Pos}{Q:u8->v0->Prop}(I:Inv X aa σ H s) (hg:Gl X x) (hm:X.mg x=none) (hv:J4 x=some u) (h:Q u s)
  (hn:x≠"__name__":=by decide) (hd:(x==("__debug__":Str))=false:=by decide):B7 (B8 X.prog X.w) X.A (N6 (.Name x pos) X.env) Q E s:=by
 obtain⟨mb,h1,h2⟩:=I.mod.blt;exact Calls.Name_function_global I.ok.kind hg (Calls.loadGlobal_builtin (by rw[I.ok.glob];exact I.mod.glob.keeps I.bk) hm (by rw[I.ok.blt];exact h1.keeps I.bk) ((h2 x hn).trans hv) h) hd
theorem t8{x:Str}{v:V}{u:u8}{pos:Pos}(hg:Gl X x) (hm:X.mg x=none) (hv:J4 x=some u) (r:ar v u) (hn:x≠"__name__":=by decide) (hd:(x==("__debug__":Str))=false:=by decide):PE X (.Name x pos) (tC v) :=
 fun _ _ _ H _ I h=>c7 I hg hm hv ⟨v,H,I,r,h⟩ hn hd
variable{a b:B4}{ta tb:TE}{pos:Pos}
theorem rH(b:B4) {op:CmpOp}(h:op≠.In) (h2:op≠.NotIn):L4 op b=false:=by
 have e1:(op==CmpOp.In)=false:=by cases op<;>first|rfl|exact absurd rfl h
 have e2:(op==CmpOp.NotIn)=false:=by cases op<;>first|rfl|exact absurd rfl h2
 cases b<;>simp[L4,e1,e2]
def tB(t:TE):TT:=fun σ H Q=>t σ H fun x H1=>∃c,x=.bl c/\Q c H1
theorem xq{e:B4}{t:TE}(h:PE X e t) (he:∀whole,isTrue e X.env whole=(do let v <-whole;T0 e.pos;holding [v] (truthy v)):=by intro _;rfl):PT X e (tB t):=by
 intro aa s σ H Q I hw;refine isTrue_plain (thn (h aa s σ H _ I hw) fun v s1 hup=>hup.el fun x H1 I1 r1 q1=>?_) (he _);obtain⟨d,rfl,q⟩:=q1;cases r1;exact K4 ⟨H1,I1,q⟩
variable{tA tB':TT}{ay:List B4}
def Az(t u:TT):TT:=fun σ H Q=>t σ H fun c H1=>if c=true then u σ H1 Q else Q false H1
def tOr(t u:TT):TT:=fun σ H Q=>t σ H fun c H1=>if c=true then Q true H1 else u σ H1 Q
def z6(t:TT):TT:=fun σ H Q=>t σ H fun c H1=>Q (!c) H1
theorem uj(ha:PT X a tA):PW X (.BoolOp .And [a] pos) tA:=by
 intro wh aa s σ H Q I h;refine isTrue_and (thn (ha aa s σ H Q I h) fun c s1 e=>?_);cases c with
 |true=>exact isTrue_and_nil e
 |false=>exact e
theorem wg(ha:PT X a tA):PW X (.BoolOp .Or [a] pos) tA:=by
 intro wh aa s σ H Q I h;refine isTrue_or (thn (ha aa s σ H Q I h) fun c s1 e=>?_);cases c with
 |false=>exact isTrue_or_nil e
 |true=>exact e
theorem vQ(ha:PT X a tA) (hb:PW X (.BoolOp .And (b::ay) pos) tB'):PW X (.BoolOp .And (a::b::ay) pos) (Az tA tB'):=by
 intro wh aa s σ H Q I h;refine isTrue_and (thn (ha aa s σ H _ I h) fun c s1 hup=>hup.el fun H1 I1 q1=>?_);cases c with
 |true=>exact hb wh aa s1 σ H1 Q I1 q1
 |false=>exact⟨H1,I1,q1⟩
theorem yM(ha:PT X a tA) (hb:PW X (.BoolOp .Or (b::ay) pos) tB'):PW X (.BoolOp .Or (a::b::ay) pos) (tOr tA tB'):=by
 intro wh aa s σ H Q I h;refine isTrue_or (thn (ha aa s σ H _ I h) fun c s1 hup=>hup.el fun H1 I1 q1=>?_);cases c with
 |true=>exact⟨H1,I1,q1⟩
 |false=>exact hb wh aa s1 σ H1 Q I1 q1
theorem wM(ha:PT X a tA):PT X (.UnaryOp .Not a pos) (z6 tA):=by
 intro aa s σ H Q I h;exact isTrue_not (ha aa s σ H (fun c H1=>Q (!c) H1) I h)
def xX(ta tb:TE):TE:=fun σ H Q=>ta σ H fun x H1=>∃c,x=.bl c/\if c=true then tb σ H1 Q else Q (.bl false) H1
theorem wW{op}{t:TE}(h:PE X a t):PE X (.BoolOp op [a] pos) t:=fun aa s σ H Q I hw=>BoolOp_one (h aa s σ H Q I hw)
theorem wV(ha:PE X a ta) (hb:PE X (.BoolOp .And (b::ay) pos) tb):PE X (.BoolOp .And (a::b::ay) pos) (xX ta tb):=by
 intro aa s σ H Q I h;refine BoolOp_and (thn (ha aa s σ H _ I h) fun v s1 hup=>hup.el fun x H1 I1 r1 q1=>?_);obtain⟨c,rfl,q1⟩:=q1;cases r1;refine K4 ?_;cases c with
 |true=>exact hb aa s1 σ H1 Q I1 q1
 |false=>exact⟨.bl false,H1,I1,rfl,q1⟩
end
def SqL(K:o0) (H:Hp) (a:A8) (xs:List V):Prop :=
 Rd H a (.lst xs) ∨
  ∃(o:Obj) (its:Array u8) (n:Nat),K.lookup a=some o/\o.cls=.type "list"/\o.dict=none/\o.data=.seq its n/\its.size<=A0/\ao xs its.toList
def SqT(K:o0) (H:Hp) (a:A8) (xs:List V):Prop :=
 Rd H a (.tup xs) ∨
  ∃(o:Obj) (its:Array u8) (n:Nat),K.lookup a=some o/\(o.cls=.type "tuple"/\o.dict=none)/\o.data=.seq its n/\its.size<=A0/\ao xs its.toList
noncomputable def Ap:u8->Option V
 |.none=>some .non
 |.bool b=>some (.bl b)
 |.int i _=>some (.int i)
 |.str x _=>some (.str x)
 |.bytes b _=>some (.byt b)
 |.float b _=>some (.flt b)
 |.ref a=>some (.ref a)
 |.type n=>some (.ty n)
 |_=>none
theorem ar.abs{x:V}{u:u8}(r:ar x u):Ap u=some x:=by
 cases x with
 |non=>cases r;rfl
 |bl _=>cases r;rfl
 |int _=>obtain⟨t,rfl⟩:=r;rfl
 |str _=>obtain⟨t,rfl⟩:=r;rfl
 |byt _=>obtain⟨t,rfl⟩:=r;rfl
 |flt _=>obtain⟨t,rfl⟩:=r;rfl
 |ref _=>cases r;rfl
 |ty _=>cases r;rfl
theorem ar.inj{x y:V}{u:u8}(r:ar x u) (q:ar y u):x=y:=C1 (r.abs.symm.trans q.abs)
theorem ao.inj:∀{xs ys:List V}{us:List u8},ao xs us->ao ys us->xs=ys
 |_,_,_,.nil,.nil=>rfl
 |_,_,_,.cons r t,.cons r' t'=>by rw[r.inj r',ao.inj t t']
section
variable{X:Cx}{aa:List (A8×Obj)}{σ:St}{H:Hp}{s:v0}{a:A8}{xs ys:List V}
theorem SqL.of{K:o0}(h:H a=some (.lst xs)):SqL K H a xs:=.inl (.inl h)
theorem SqT.of{K:o0}(h:H a=some (.tup xs)):SqT K H a xs:=.inl (.inl h)
theorem Inv.list(I:Inv X aa σ H s) (h:SqL X.K H a xs):∃its:List u8,ao xs its/\PlainL s.heap a its.toArray/\xs.length<=A0:=by
 rcases h with h|⟨o,its,n,hk,hc,hd,hs,hz,r⟩
 ·obtain⟨z,its,n,r,e⟩:=h.ok I.hok;exact⟨its,r,⟨_,n,e,rfl,rfl,rfl⟩,z⟩
 ·refine⟨its.toList,r,⟨o,n,I.kIn a o hk,hc,hd,by simpa using hs⟩,?_⟩;have e:=r.length;simp only[K7]at e;omega
theorem Inv.tuple(I:Inv X aa σ H s) (h:SqT X.K H a xs):∃its:List u8,ao xs its/\T9 s.heap a its.toArray/\xs.length<=A0:=by
 rcases h with h|⟨o,its,n,hk,hc,hs,hz,r⟩
 ·obtain⟨z,its,r,p⟩:=h.ok I.hok;exact⟨its,r,p.tup,z⟩
 ·refine⟨its.toList,r,⟨o,I.kIn a o hk,hc.1,n,by simpa using hs⟩,?_⟩;have e:=r.length;simp only[K7]at e;omega
theorem Inv.list_inj(I:Inv X aa σ H s) (h:SqL X.K H a xs) (h':SqL X.K H a ys):xs=ys:=by
 obtain⟨its,r,⟨o,n,e,_,_,d⟩,_⟩:=I.list h;obtain⟨its',r',⟨o',n',e',_,_,d'⟩,_⟩:=I.list h';rw[e]at e';cases e';rw[d]at d';injection d' with d1 _
 have:its=its':=by simpa using congrArg Array.toList d1
 subst this;exact r.inj r'
theorem Inv.tuple_inj(I:Inv X aa σ H s) (h:SqT X.K H a xs) (h':SqT X.K H a ys):xs=ys:=by
 obtain⟨its,r,⟨o,e,_,n,d⟩,_⟩:=I.tuple h;obtain⟨its',r',⟨o',e',_,n',d'⟩,_⟩:=I.tuple h';rw[e]at e';cases e';rw[d]at d';injection d' with d1 _
 have:its=its':=by simpa using congrArg Array.toList d1
 subst this;exact r.inj r'
end
abbrev Cx.wish(X:Cx) (E:u8->v0->Prop):Cx:={ X with xe:=E }
abbrev Cx.nox(X:Cx):Cx:=X.wish fun _ _=>False
theorem Cx.Ok.wish{X:Cx}(ok:X.Ok) (E:u8->v0->Prop):(X.wish E).Ok :=
 ⟨ok.mod,ok.kind,ok.glob,ok.blt,ok.above,ok.inj,ok.has,ok.cab,ok.hd,ok.frames,ok.stk,ok.exf,ok.bs,ok.bsz,ok.noex,ok.exfs,ok.funs,ok.frf⟩
theorem Cx.Ok.unwish{X:Cx}{E:u8->v0->Prop}(ok:(X.wish E).Ok):X.Ok :=
 ⟨ok.mod,ok.kind,ok.glob,ok.blt,ok.above,ok.inj,ok.has,ok.cab,ok.hd,ok.frames,ok.stk,ok.exf,ok.bs,ok.bsz,ok.noex,ok.exfs,ok.funs,ok.frf⟩
section
variable{X:Cx}{aa:List (A8×Obj)}{σ:St}{H:Hp}{s:v0}{E:u8->v0->Prop}
theorem Inv.wish(I:Inv X aa σ H s) (E:u8->v0->Prop):Inv (X.wish E) aa σ H s:=⟨I.ok.wish E,I.os,I.bare,I.base,I.loc,I.cell,I.free,I.freeC,I.pin,I.hok,I.len⟩
theorem Inv.unwish(I:Inv (X.wish E) aa σ H s):Inv X aa σ H s:=⟨I.ok.unwish,I.os,I.bare,I.base,I.loc,I.cell,I.free,I.freeC,I.pin,I.hok,I.len⟩
theorem SP.unwish{D:kU}{f:Flow}{s':v0}(h:SP (X.wish E) aa D f s'):SP X aa D f s':=by
 cases f with
 |next=>obtain⟨σ',H',I,q⟩:=h;exact⟨σ',H',I.unwish,q⟩
 |brk=>obtain⟨σ',H',I,q⟩:=h;exact⟨σ',H',I.unwish,q⟩
 |cont=>obtain⟨σ',H',I,q⟩:=h;exact⟨σ',H',I.unwish,q⟩
 |ret u=>obtain⟨v,σ',H',I,r,q⟩:=h;exact⟨v,σ',H',I.unwish,r,q⟩
theorem PSs.nox{st:List Q7}{t:TS}(h:PSs X.nox st t):PSs X st t:=fun aa s σ H D I hw =>
 C9 (h aa s σ H D (I.wish _) hw) (fun _ _ q=>q.unwish) fun _ _ z=>F7 z
end
section
variable{X:Cx}{st:Q7}{ay:List Q7}{t u:TS}{e:B4}{te:TE}{pos:Pos}
def yZ:TS:=fun D σ H=>D.nx σ H
def AI(t u:TS):TS:=fun D σ H=>t { D with nx:=u D } σ H
theorem uk:PSs X [] yZ:=fun _ _ σ H _ I h=>O1 ⟨σ,H,I,h⟩
theorem qu(h1:PS X st t) (h2:PSs X ay u):PSs X (st::ay) (AI t u):=by
 intro aa s σ H D I h;refine wpAny_execs_cons (thn (h1 aa s σ H { D with nx:=u D } I h) fun f s1 q=>?_);cases f with
 |next =>
  obtain⟨σ',H',I',q⟩:=q;exact h2 aa s1 σ' H' D I' q
 |ret v=>exact q
 |brk=>exact q
 |cont=>exact q
theorem tq(h1:PS X st t):PSs X [st] t:=by
 intro aa s σ H D I h;refine wpAny_execs_cons (thn (h1 aa s σ H D I h) fun f s1 q=>?_);cases f with
 |next=>exact O1 q
 |ret v=>exact q
 |brk=>exact q
 |cont=>exact q
theorem Inv.quiet{aa:List (A8×Obj)}{σ:St}{H:Hp}{s:v0}(I:Inv X aa σ H s):interactive X.env=false:=by simp[interactive,I.ok.kind]
def y9(te:TE):TS:=fun D σ H=>te σ H fun _ H1=>D.nx σ H1
theorem ut(he:PE X e te) (hs:P0 e none pos.line X.env=O9 false:=by rfl):PS X (.Expr e pos) (y9 te):=by
 intro aa s σ H D I h;exact wpAny_Expr_any (thn (he aa s σ H _ I h) fun v s1 hup=>hup.el fun x H1 I1 r1 q1=>⟨σ,H1,I1,q1⟩) I.quiet hs
def AK(te:TE):TS:=fun D σ H=>te σ H D.rt
theorem m8(he:PE X e te):PS X (.Return (some e) pos) (AK te):=by
 intro aa s σ H D I h;exact wpAny_Return_some (thn (he aa s σ H _ I h) fun v s1 hup=>hup.el fun x H1 I1 r1 q1=>⟨x,σ,H1,I1,r1,q1⟩)
def AJ(c:TT) (t u:TS):TS:=fun D σ H=>c σ H fun b H1=>if b=true then t D σ H1 else u D σ H1
theorem yP{c:B4}{a b:List Q7}{tc:TT}(hc:PT X c tc) (ha:PSs X a t) (hb:PSs X b u):PS X (.If c a b pos) (AJ tc t u):=by
 intro aa s σ H D I h;refine wpAny_If (thn (hc aa s σ H _ I h) fun d s1 hup=>hup.el fun H1 I1 q1=>?_);cases d with
 |true=>exact ha aa s1 σ H1 D I1 q1
 |false=>exact hb aa s1 σ H1 D I1 q1
end
abbrev TG:=V->St->Hp->(St->Hp->Prop)->Prop
abbrev TGs:=List V->St->Hp->(St->Hp->Prop)->Prop
def PG(X:Cx) (target:B4) (t:TG):Prop :=
 ∀(aa:List (A8×Obj)) (s:v0) (σ:St) (H:Hp) (v:V) (u:u8) (Q:St->Hp->Prop),Inv X aa σ H s->ar v u->t v σ H Q ->
  B7 (B8 X.prog X.w) X.A (S6 target X.env u) (fun _ s'=>∃ σ' H',Inv X aa σ' H' s'/\Q σ' H') X.xe s
def PGs(X:Cx) (ts:List B4) (t:TGs):Prop :=
 ∀(aa:List (A8×Obj)) (s:v0) (σ:St) (H:Hp) (vs:List V) (us:List u8) (Q:St->Hp->Prop),Inv X aa σ H s->ao vs us->t vs σ H Q ->
  B7 (B8 X.prog X.w) X.A (assignInOrder ((K9 ts X.env).map (·.2)) us) (fun _ s'=>∃ σ' H',Inv X aa σ' H' s'/\Q σ' H') X.xe s
abbrev TIp:=V->V->Hp->VK->Prop
def PIp(X:Cx) (op:S9) (t:TIp):Prop :=
 ∀(aa:List (A8×Obj)) (s:v0) (σ:St) (H:Hp) (x y:V) (v u:u8) (Q:VK),Inv X aa σ H s->ar x v->ar y u->t x y H Q ->
  B7 (B8 X.prog X.w) X.A (T4 op v u) (EP X aa σ Q) X.xe s
section
variable{X:Cx}{pos:Pos}
def lR(i:Nat):TG:=fun v σ H Q=>Q (σ.set i (some v)) H
theorem nM{i:Nat}{x:Str}(hN:X.N.Nodup) (hi:X.N[i]?=some x) (hx:Loc X.env.scope x) (hf:X.fn x=true∨X.env.scope.names.lookup x=some .local:=by first|exact .inl rfl|exact .inr rfl|assumption):PG X (.Name x pos) (lR i):=by
 intro aa s σ H v u Q I r h;exact wpAny_assign_Name (ip I hN hi hx r (fun s' I'=>⟨_,H,I',h⟩) hf)
def xO:TGs:=fun vs σ H Q=>vs=[]/\Q σ H
def vj(t:TG) (u:TGs):TGs:=fun vs σ H Q=>∃v r,vs=v::r/\t v σ H fun σ' H'=>u r σ' H' Q
theorem tS:PGs X [] xO:=by
 intro aa s σ H vs us Q I r h;obtain⟨e,h⟩:=h;subst e;cases r;exact assignInOrder_nil ⟨σ,H,I,h⟩
theorem pU{e:B4}{es:List B4}{t:TG}{u:TGs}(h1:PG X e t) (h2:PGs X es u)
  (hs:(K9 (e::es) X.env).map (·.2)=S6 e X.env::(K9 es X.env).map (·.2):=by rfl):PGs X (e::es) (vj t u):=by
 intro aa s σ H vs us Q I r h;obtain⟨v,vr,e1,h⟩:=h;subst e1;cases r with
 |cons r rr =>
  rw[hs];refine assignInOrder_cons (thn (h1 aa s σ H _ _ _ I r h) fun _ s1 ⟨σ1,H1,I1,q1⟩=>?_);exact h2 aa s1 σ1 H1 _ _ Q I1 rr q1
def xW(K:o0) (n:Nat) (t:TGs):TG:=fun v σ H Q=>∃a xs,v=.ref a/\SqT K H a xs/\xs.length=n/\t xs σ H Q
theorem v7{es:List B4}{k:Nat}{t:TGs}{n:Nat}(hc:X.calm=true) (h:PGs X es t)
  (hn:(K9 es X.env).length=n:=by rfl) (hst:(K9 es X.env).findIdx? (·.1)=none:=by rfl):PG X (.Tuple es k pos) (xW X.K n t):=by
 intro aa s σ H v u Q I r hw;obtain⟨a,xs,e1,hq,hl,hw⟩:=hw;subst e1;cases r;obtain⟨its,rv,ht,hz⟩:=I.tuple hq;refine assign_Tuple_tuple (I.ok.hd hc) ht (by simp[hn,<-hl,rv.length]) hst fun h' hx=>?_;have I1:Inv X aa σ H { s with heap:=h' }:=I.kept (t':=s.toks) fun b o e=>hx b o (B5 (A6 e)) e;exact h aa _ σ H xs _ Q I1 (by simpa using rv) hw
def xT(te:TE) (g:TG):TS:=fun D σ H=>te σ H fun x H1=>g x σ H1 D.nx
theorem xt{i:Nat}{x:Str}{e:B4}{te:TE}{pos':Pos}(hN:X.N.Nodup) (hi:X.N[i]?=some x) (hx:Loc X.env.scope x) (he:PE X e te) (hs:P0 e (some (.Name x pos')) pos.line X.env=O9 false:=by rfl) (hf:X.fn x=true∨X.env.scope.names.lookup x=some .local:=by first|exact .inl rfl|exact .inr rfl|assumption) :
  PS X (.Assign [.Name x pos'] e pos) (xT te (lR i)):=by
 intro aa s σ H D I h;refine wpAny_Assign_Name (thn (he aa s σ H _ I h) fun v s1 hup=>hup.el fun y H1 I1 r1 q1=>?_) hs;exact ip I1 hN hi hx r1 (fun s2 I2=>⟨_,H1,I2,q1⟩) hf
def AL(i:Nat) (te:TE) (ti:TIp):TS:=fun D σ H=>∃x,σ[i]?=some (some x)/\te σ H fun y H1=>ti x y H1 fun z H2=>D.nx (σ.set i (some z)) H2
theorem xD{i:Nat}{x:Str}{e:B4}{te:TE}{op:S9}{ti:TIp}{pos':Pos}(hN:X.N.Nodup) (hi:X.N[i]?=some x) (hx:Loc X.env.scope x) (he:PE X e te) (ho:PIp X op ti) (hf:X.fn x=true∨X.env.scope.names.lookup x=some .local:=by first|exact .inl rfl|exact .inr rfl|assumption) :
  PS X (.AugAssign (.Name x pos') op e pos) (AL i te ti):=by
 intro aa s σ H D I h;obtain⟨v,e1,h⟩:=h;obtain⟨m,hn,hl⟩:=I.loc;have vis:Vis X.env.scope x:=by rcases hx with k|k;exact .inl k;exact .inr (.inl k)
 obtain⟨u,r,l⟩:=hl i x v hi e1 vis;refine wpAny_AugAssign_Name ?_;have go:B7 (B8 X.prog X.w) X.A (N6 e X.env) (fun w s₂=>B7 (B8 X.prog X.w) X.A (T4 op u w) (fun r s₃=>B7 (B8 X.prog X.w) X.A (storeName X.env x r) (fun _=>SP X aa D .next) X.xe s₃) X.xe s₂) X.xe s:=by
  refine thn (he aa s σ H _ I h) fun w s1 hup=>hup.el fun y H1 I1 r1 q1=>?_;refine thn (ho aa s1 σ H1 v y u w _ I1 r r1 q1) fun z s2 hup=>hup.el fun zv H2 I2 r2 q2=>?_;exact ip I2 hN hi hx r2 (fun s3 I3=>⟨_,H2,I3,q2⟩) hf
 rcases l with⟨hk,hm⟩|⟨hk,c,hc,hcell⟩
 ·exact wpAny_loadName_local I.ok.kind hk hn hm go
 ·rcases hk with hk|hk
  ·exact wpAny_loadName_cell I.ok.kind hk hc hcell go
  ·rcases hx with k|k
   ·have:X.env.scope.names.lookup x=some .free:=hk;rw[k]at this;cases this
   ·have:X.env.scope.names.lookup x=some .free:=hk;rw[k]at this;cases this
def ipI(f:Int->Int->Int):TIp:=fun x y H Q=>∃i j,x=.int i/\y=.int j/\Q (.int (f i j)) H
theorem vP:PIp X .Add (ipI fun i j=>i+j):=by
 intro aa s σ H x y v u Q I r1 r2 h;obtain⟨i,j,e1,e2,q⟩:=h;subst e1;subst e2;obtain⟨t,rfl⟩:=r1;obtain⟨t',rfl⟩:=r2;exact iadd_int ⟨.int _,H,I.tok _,⟨_,rfl⟩,q⟩
end
section
variable{X:Cx}{pos:Pos}
def wQ(c:TT) (tb:TS):TS:=fun D σ H=>∃W:Nat->St->Hp->Prop,(∃m,W m σ H)/\∀m σ H,W m σ H ->
 c σ H fun b H1=>if b=true then ∃N:St->Hp->Prop,(∀ σ' H',N σ' H'->∃m',m'<m/\W m' σ' H')/\tb { D with nx:=N,ct:=N,bk:=D.nx } σ H1 else D.nx σ H1
theorem qT{c:B4}{body:List Q7}{tc:TT}{tb:TS}(hp:T5 (B8 X.prog X.w) X.A X.env X.xe) (hc:PT X c tc) (hb:PSs X body tb):PS X (.While c body [] pos) (wQ tc tb):=by
 intro aa s σ H D I h;obtain⟨W,⟨m0,w0⟩,turn⟩:=h;refine wpAny_While (codeAny_whileLoop (fun n s'=>∃ σ' H',Inv X aa σ' H' s'/\W n σ' H') ?_ m0 ⟨σ,H,I,w0⟩);rintro n s1 ⟨σ1,H1,I1,w1⟩;refine F8 hp (thn (hc aa s1 σ1 H1 _ I1 (turn n σ1 H1 w1)) fun b s2 hup=>hup.el fun H2 I2 q2=>?_);cases b with
 |true =>
  obtain⟨N,hN,q2⟩:=q2;rw[if_pos rfl];refine F8 hp (thn (hb aa s2 σ1 H2 _ I2 q2) fun f s3 q3=>?_);cases f with
  |next =>
   obtain⟨σ3,H3,I3,n3⟩:=q3;obtain⟨m',hm,w3⟩:=hN σ3 H3 n3;exact⟨m',hm,σ3,H3,I3,w3⟩
  |cont =>
   obtain⟨σ3,H3,I3,n3⟩:=q3;obtain⟨m',hm,w3⟩:=hN σ3 H3 n3;exact⟨m',hm,σ3,H3,I3,w3⟩
  |brk=>exact q3
  |ret v=>exact q3
 |false =>
  rw[if_neg C7];exact O1 ⟨σ1,H2,I2,q2⟩
end
structure It where
 go:Nat->Hp->Prop
 yld:Nat->Hp->V->Hp->Prop
 stop:Nat->Hp->Prop
def dY(X:Cx) (aa:List (A8×Obj)) (H:Hp) (b:A8):Prop :=
 H b=none/\b≠X.env.locals/\b∉X.fs/\(b∈X.ex∨X.s₀.heap.objs.size<=b)/\(∀x c,X.env.cells.lookup x=some c->c≠b)/\∀p∈X.pn++aa,p.1≠b
theorem Inv.fpOk{X:Cx}{aa:List (A8×Obj)}{σ:St}{H H':Hp}{s:v0}{b:A8}(I:Inv X aa σ H s) (hb:s.heap.objs.size<=b) (hn:H' b=none):dY X aa H' b:=by
 refine⟨hn,Q0 (B2 I.lt hb),I.nofs hb,.inr (D2 I.sz hb),fun x c e z=>?_,fun p hp z=>?_⟩
 ·obtain⟨v,q⟩:=I.cell x c e;exact absurd (B2 q.lt (by rw[z];exact hb)) (J5 _)
 ·exact absurd (B2 (A6 (I.pin p hp).1) (by rw[z];exact hb)) (J5 _)
structure lj(P:B9) (w:E6) (K:o0) (tg:B4) (J:It) (fp:List A8) (it:A8) (tn:Nat->C5->Prop):Prop where
 mem:it∈fp
 obj:∀i h,tn i h->∀b∈fp,∃o,h.get? b=some o/\∀v,o.data≠.cell v
 keep:∀i h h',tn i h->(∀b∈fp,∀o,h.get? b=some o->h'.get? b=some o)->tn i h'
 item:∀(X:Cx),X.prog=P->X.w=w->X.K=K->X.calm=true->∀(i:Nat) (aa:List (A8×Obj)) (s:v0) (σ:St) (H:Hp) (E:u8->v0->Prop),Inv X aa σ H s->(∀b∈fp,dY X aa H b)->tn i s.heap->J.go i H ->
  B7 (B8 P w) X.A (pyNext (.ref it)) (fun r s1=>∃u,r=some u /\
   B7 (B8 P w) X.A (L5 tg (.ref it) u) (fun _ s2=>∃x H',Inv X aa σ H' s2/\ar x u/\J.yld i H x H'/\tn (i+1) s2.heap/\∀b∈fp,H' b=none) E s1) E s
 done:∀(X:Cx),X.prog=P->X.w=w->X.K=K->X.calm=true->∀(i:Nat) (aa:List (A8×Obj)) (s:v0) (σ:St) (H:Hp) (E:u8->v0->Prop),Inv X aa σ H s->(∀b∈fp,dY X aa H b)->tn i s.heap->J.stop i H ->
  B7 (B8 P w) X.A (pyNext (.ref it)) (fun r s1=>r=none/\Inv X aa σ H s1) E s
 self:∀(A:D7) (i:Nat) (s:v0) (Q:u8->v0->Prop) (E:u8->v0->Prop),tn i s.heap->Q (.ref it) s->B7 (B8 P w) A (S7 (.ref it)) Q E s
abbrev TI:=St->Hp->(It->Hp->Prop)->Prop
def PIE(X:Cx) (aa:List (A8×Obj)) (σ:St) (tg:B4) (R:It->Hp->Prop) (itv:u8) (s2:v0):Prop :=
 ∃(it:A8) (fp:List A8) (tn:Nat->C5->Prop) (J:It) (H':Hp),itv=.ref it/\Inv X aa σ H' s2/\lj X.prog X.w X.K tg J fp it tn/\tn 0 s2.heap/\(∀b∈fp,dY X aa H' b)/\R J H'
def PI(X:Cx) (tg iter:B4) (wi:TI):Prop :=
 ∀(aa:List (A8×Obj)) (s:v0) (σ:St) (H:Hp) (R:It->Hp->Prop),Inv X aa σ H s->wi σ H R ->
  B7 (B8 X.prog X.w) X.A (N6 iter X.env) (fun v s1=>B7 (B8 X.prog X.w) X.A (S7 v) (PIE X aa σ tg R) X.xe s1) X.xe s
theorem ou{M:Model}{A:D7}{E:u8->v0->Prop}{s:v0}{tg:B4}{it:A8}{u:u8}{o:Obj}{n:String}{vs:Array u8}{Q:Unit->v0->Prop}(ho:s.heap.get? it=some o) (hc:o.cls=.type n) (hd:o.data=.fields vs)
    (hn:["enumerate","zip","dict_itemiterator","dict_reverseitemiterator","odict_iterator","itertools.zip_longest","itertools.pairwise"].contains n=false) (hQ:Q () s):B7 M A (L5 tg (.ref it) u) Q E s:=by
  unfold L5;cases tg<;>first
    |exact A9 hQ
    |(cases u<;>first
        |exact A9 hQ
        | (refine A5 (wpAny_load ho ?_)
           rw[hc,hd];show B7 M A (if(["enumerate","zip","dict_itemiterator","dict_reverseitemiterator","odict_iterator","itertools.zip_longest","itertools.pairwise"].contains n&&vs[0]?==some (rawInt _))=true then _ else _) Q E s;rw[if_neg (by intro h;rw[hn,Bool.false_and]at h;cases h)];exact A9 hQ))
def Itl(K:o0) (a:A8):It :=
 ⟨fun i H=>∃xs x,SqL K H a xs/\xs[i]?=some x,fun i H x H'=>H'=H/\∀xs,SqL K H a xs->xs[i]?=some x,fun i H=>∃xs,SqL K H a xs/\xs.length<=i⟩
def Itt(K:o0) (a:A8):It :=
 ⟨fun i H=>∃xs x,SqT K H a xs/\xs[i]?=some x,fun i H x H'=>H'=H/\∀xs,SqT K H a xs->xs[i]?=some x,fun i H=>∃xs,SqT K H a xs/\xs.length<=i⟩
def Itr(lo:Int) (n:Nat):It:=⟨fun i _=>i<n,fun i H x H'=>H'=H/\x=.int (lo+i),fun i _=>n<=i⟩
theorem iY{P:B9}{w:E6}{K:o0}{tg:B4}(a it:A8):lj P w K tg (Itl K a) [it] it (fun i h=>h.IsListIter it a i) where
 mem:=by simp
 obj:=fun i h st b hb=>by
  have e:b=it:=by simpa using hb
  subst e;obtain⟨o,e,c,d⟩:=st;exact⟨o,e,fun v z=>by rw[d]at z;cases z⟩
 keep:=fun i h h' st k=>st.at fun o e=>k it (by simp) o e
 item:=by
  intro X hP hw hK hc i aa s σ H E I hf st hg;subst hP hw hK;obtain⟨xs,x,hq,hx⟩:=hg;obtain⟨its,rv,p,hz⟩:=I.list hq;obtain⟨u,hu,ru⟩:=rv.get hx;obtain⟨f0,f1,f2,f3,f4,f5⟩:=hf it (by simp);refine wpAny_pyNext_list_item st p.isList (x:=u) (by simpa using hu) fun h' st' sb=>?_;have I1:Inv X aa σ H { s with heap:=h' }:=I.turned (t':=s.toks) (fun b o hb e=>(sb.2 b hb).trans e) f0 f1 f3 f4 f5;obtain⟨o,e,c,d⟩:=id st';exact⟨u,rfl,ou (s:={ s with heap:=h' }) e c d (by decide) ⟨x,H,I1,ru,⟨rfl,fun ys hy=>by rw[I.list_inj hy hq];exact hx⟩,st',fun b hb=>(hf b hb).1⟩⟩
 done:=by
  intro X hP hw hK hc i aa s σ H E I hf st hg;subst hP hw hK;obtain⟨xs,hq,hx⟩:=hg;obtain⟨its,rv,p,hz⟩:=I.list hq;obtain⟨f0,f1,f2,f3,f4,f5⟩:=hf it (by simp);have hl:=rv.length;exact wpAny_pyNext_list_end (I.ok.hd hc) st p.isList (by simp;omega) fun h' eb=>⟨rfl,I.turned (t':=s.toks) (fun b o hb e=>eb b o hb e) f0 f1 f3 f4 f5⟩
 self:=fun _ _ _ _ _ st h=>wpAny_pyIter_listiter st h
theorem m5{P:B9}{w:E6}{K:o0}{tg:B4}(a it:A8):lj P w K tg (Itt K a) [it] it (fun i h=>h.IsTupleIter it a i) where
 mem:=by simp
 obj:=fun i h st b hb=>by
  have e:b=it:=by simpa using hb
  subst e;obtain⟨o,e,c,d⟩:=st;exact⟨o,e,fun v z=>by rw[d]at z;cases z⟩
 keep:=fun i h h' st k=>st.at fun o e=>k it (by simp) o e
 item:=by
  intro X hP hw hK hc i aa s σ H E I hf st hg;subst hP hw hK;obtain⟨xs,x,hq,hx⟩:=hg;obtain⟨its,rv,p,hz⟩:=I.tuple hq;obtain⟨u,hu,ru⟩:=rv.get hx;obtain⟨f0,f1,f2,f3,f4,f5⟩:=hf it (by simp);refine wpAny_pyNext_tuple_item st (show s.heap.IsTuple a its.toArray from p) (x:=u) (by simpa using hu) fun h' st' sb=>?_;have I1:Inv X aa σ H { s with heap:=h' }:=I.turned (t':=s.toks) (fun b o hb e=>(sb.2 b hb).trans e) f0 f1 f3 f4 f5;obtain⟨o,e,c,d⟩:=id st';exact⟨u,rfl,ou (s:={ s with heap:=h' }) e c d (by decide) ⟨x,H,I1,ru,⟨rfl,fun ys hy=>by rw[I.tuple_inj hy hq];exact hx⟩,st',fun b hb=>(hf b hb).1⟩⟩
 done:=by
  intro X hP hw hK hc i aa s σ H E I hf st hg;subst hP hw hK;obtain⟨xs,hq,hx⟩:=hg;obtain⟨its,rv,p,hz⟩:=I.tuple hq;obtain⟨f0,f1,f2,f3,f4,f5⟩:=hf it (by simp);have hl:=rv.length;exact wpAny_pyNext_tuple_end (I.ok.hd hc) st (show s.heap.IsTuple a its.toArray from p) (by simp;omega) fun h' eb=>⟨rfl,I.turned (t':=s.toks) (fun b o hb e=>eb b o hb e) f0 f1 f3 f4 f5⟩
 self:=fun _ _ _ _ _ st h=>wpAny_pyIter_tupleiter st h
theorem mD{P:B9}{w:E6}{K:o0}{tg:B4}(it:A8) (lo:Int) (n:Nat):lj P w K tg (Itr lo n) [it] it (fun i h=>IsRangeIter h it (lo+(i:Nat)*1) ((n:Int)-(i:Nat)) 1) where
 mem:=by simp
 obj:=fun i h st b hb=>by
  have e:b=it:=by simpa using hb
  subst e;exact⟨_,st,fun v z=>by
   have z':Data.fields _=Data.cell v:=z;cases z'⟩
 keep:=fun i h h' st k=>k it (by simp) _ st
 item:=by
  intro X hP hw hK hc i aa s σ H E I hf st hg;subst hP hw hK;obtain⟨f0,f1,f2,f3,f4,f5⟩:=hf it (by simp);have W:=Walks.range (prog:=X.prog) (w:=X.w) (I.ok.hd hc) it lo 1 n;refine W.item i s _ _ hg st fun v h' tk hv st' kk=>?_;obtain⟨t,rfl⟩:=hv;have I1:Inv X aa σ H { s with heap:=h',toks:=tk }:=I.turned (fun b o hb e=>kk b o (by simpa using hb) e) f0 f1 f3 f4 f5;refine⟨_,rfl,ou (s:={ s with heap:=h',toks:=tk }) (n:="range_iterator") st' rfl rfl (by decide) ⟨.int (lo+i),H,I1,⟨t,?_⟩,⟨rfl,rfl⟩,st',fun b hb=>(hf b hb).1⟩⟩;rw[Int.mul_one]
 done:=by
  intro X hP hw hK hc i aa s σ H E I hf st hg;subst hP hw hK;obtain⟨f0,f1,f2,f3,f4,f5⟩:=hf it (by simp);exact wpAny_pyNext_range_end (I.ok.hd hc) st (by have:n<=i:=hg;omega) fun h' eb=>⟨rfl,I.turned (t':=s.toks) (fun b o hb e=>eb b o hb e) f0 f1 f3 f4 f5⟩
 self:=fun _ _ _ _ _ st h=>wpAny_pyIter_rangeiter st h
section
variable{X:Cx}{tg:B4}
theorem k9{aa:List (A8×Obj)}{σ:St}{H:Hp}{s:v0}{R:It->Hp->Prop}{E:u8->v0->Prop}{lo hi:Int}{t u v:Tok}{tk:Nat}(I:Inv X aa σ H s) (h1:-(2 ^ 62)<=lo) (h2:lo<2 ^ 62) (h3:-(2 ^ 62)<=hi) (h4:hi<2 ^ 62)
  (q:R (Itr lo (hi-lo).toNat) H):B7 (B8 X.prog X.w) X.A (S7 (.ref s.heap.objs.size)) (PIE X aa σ tg R) E { s with heap:=s.heap.push { cls:=.type "range",data:=.fields #[.int lo t,.int hi u,.int 1 v] },toks:=tk }:=by
 refine wpAny_pyIter_range (IsRange.new ..) (small_one h1 h2 h3 h4) ?_;have I1:Inv X aa σ H { s with heap:=s.heap.push { cls:=.type "range",data:=.fields #[.int lo t,.int hi u,.int 1 v] },toks:=tk }:=I.kept fun b o e=>A4 _ e;refine⟨(s.heap.push { cls:=.type "range",data:=.fields #[.int lo t,.int hi u,.int 1 v] }).objs.size,[(s.heap.push { cls:=.type "range",data:=.fields #[.int lo t,.int hi u,.int 1 v] }).objs.size],_,_,H,rfl,
  I1.kept (t':=tk) fun b o e=>A4 _ e,mD _ lo (hi-lo).toNat,?_,fun b hb=>?_,q⟩
 ·have e1:lo+((0:Nat):Int)*1=lo:=by simp
  have e2:(((hi-lo).toNat:Nat):Int)-((0:Nat):Int)=C6.Range.rangeSize lo hi 1:=by rw[rangeSize_one];split<;>omega
  show IsRangeIter _ _ (lo+((0:Nat):Int)*1) ((((hi-lo).toNat:Nat):Int)-((0:Nat):Int)) 1;rw[e1,e2];exact B6 _ rfl
 ·have e:b=(s.heap.push { cls:=.type "range",data:=.fields #[.int lo t,.int hi u,.int 1 v] }).objs.size:=by simpa using hb
  subst e;exact I1.fpOk (B0 _) (I1.hok.fresh (B0 _))
def yz(ta:TA):TI:=fun σ H R=>ta σ H fun vs H1=>∃j:Int,vs=[.int j]/\-(2 ^ 62)<=j/\j<2 ^ 62/\R (Itr 0 j.toNat) H1
def yS(ta:TA):TI:=fun σ H R=>ta σ H fun vs H1=>∃i j:Int,vs=[.int i,.int j]/\(-(2 ^ 62)<=i/\i<2 ^ 62/\-(2 ^ 62)<=j/\j<2 ^ 62)/\R (Itr i (j-i).toNat) H1
theorem oM{a:B4}{ta:TA}{p pos:Pos}(hg:Gl X "range") (hm:X.mg "range"=none) (ha:PA X [a] ta) (hs:B1 [a] X.env=[(false,N6 a X.env)]:=by rfl):PI X tg (.Call (.Name "range" p) [a] [] pos) (yz ta):=by
 intro aa s σ H R I h;refine Call_ (c7 I hg hm boot_range (PyProof.Rows.callWith_type1 (thn (ha pos aa s σ H _ I h) fun us s1 hup=>hup.el fun vs H1 I1 r1 q1=>?_) hs rfl));obtain⟨j,e,q1,q2,q⟩:=q1;subst e;cases r1 with
 |cons r rr =>
  cases rr;obtain⟨t,rfl⟩:=r;exact call_range_1 (k9 I1 (by omega) (by omega) q1 q2 (by simpa using q))
theorem pC{a b:B4}{ta:TA}{p pos:Pos}(hg:Gl X "range") (hm:X.mg "range"=none) (ha:PA X [a,b] ta) (hs:B1 [a,b] X.env=[(false,N6 a X.env),(false,N6 b X.env)]:=by rfl) (hs2:B1 [b] X.env=[(false,N6 b X.env)]:=by rfl) :
  PI X tg (.Call (.Name "range" p) [a,b] [] pos) (yS ta):=by
 intro aa s σ H R I h;refine Call_ (c7 I hg hm boot_range (PyProof.Rows.callWith_type1 (thn (ha pos aa s σ H _ I h) fun us s1 hup=>hup.el fun vs H1 I1 r1 q1=>?_) (by rw[hs,hs2]) (by rw[hs2];rfl)));obtain⟨i,j,e,⟨q1,q2,q3,q4⟩,q⟩:=q1;subst e;cases r1 with
 |cons r rr =>
  cases rr with
  |cons r' rr =>
   cases rr;obtain⟨t,rfl⟩:=r;obtain⟨t',rfl⟩:=r';exact call_range_2 (k9 I1 q1 q2 q3 q4 q)
def z9(wi:TI) (g:TG) (tb:TS):TS:=fun D σ H=>wi σ H fun J H1=>∃W:Nat->Nat->St->Hp->Prop,(∃m,W 0 m σ H1)/\∀i m σ H,W i m σ H ->
 (J.stop i H/\D.nx σ H)∨(J.go i H/\∃N:St->Hp->Prop,(∀ σ' H',N σ' H'->∃m',m'<m/\W (i+1) m' σ' H')/\∀x H',J.yld i H x H'->g x σ H' fun σ2 H2=>tb { D with nx:=N,ct:=N,bk:=D.nx } σ2 H2)
def eG(fp:List A8) (h:C5):List (A8×Obj):=fp.filterMap fun b=>(h.get? b).map fun o=>(b,o)
theorem c9{fp:List A8}{h:C5}{b:A8}{o:Obj}(hb:b∈fp) (e:h.get? b=some o):(b,o)∈eG fp h:=L6.mpr ⟨b,hb,by rw[e];rfl⟩
theorem jf{fp:List A8}{h:C5}{p:A8×Obj}(hp:p∈eG fp h):p.1∈fp/\h.get? p.1=some p.2:=by
 obtain⟨b,hb,e⟩:=L6.mp hp;cases q:h.get? b with
 |none=>rw[q]at e;cases e
 |some o =>
  rw[q]at e;have e':(b,o)=p:=C1 e;subst e';exact⟨hb,q⟩
theorem Inv.pinned{aa:List (A8×Obj)}{σ:St}{H:Hp}{s:v0}{fp:List A8}(I:Inv X aa σ H s) (hf:∀b∈fp,dY X aa H b) (ho:∀b∈fp,∃o,s.heap.get? b=some o/\∀v,o.data≠.cell v):Inv X (aa++eG fp s.heap) σ H s :=
 I.pins_of fun p hp=>(L1.mp hp).elim (fun z=>I.pin p (B3 _ z)) fun z=>by
  obtain⟨hb,e⟩:=jf z;obtain⟨f0,f1,f2,_⟩:=hf p.1 hb;obtain⟨o,e',d⟩:=ho p.1 hb;rw[e]at e';cases e';exact⟨e,f0,f1,f2,d⟩
theorem Inv.unpinned{aa pl:List (A8×Obj)}{σ:St}{H:Hp}{s:v0}(I:Inv X (aa++pl) σ H s):Inv X aa σ H s:=I.pins_of fun p hp=>I.pin p (B3 _ (List.mem_append_left _ hp))
theorem wJ{iter:B4}{body:List Q7}{wi:TI}{g:TG}{tb:TS}{pos:Pos}(hp:T5 (B8 X.prog X.w) X.A X.env X.xe) (hc:X.calm=true) (hi:PI X tg iter wi) (hg:PG X tg g) (hb:PSs X body tb)
  (hs:∀x,D8 iter X.env x=O9 x:=by intro _;rfl):PS X (.For tg iter body [] pos) (z9 wi g tb):=by
 intro aa s σ H D I h;refine wpAny_For (thn (hi aa s σ H _ I h) fun v s1 h1=>thn h1 fun itv s2 h2=>?_) hs;obtain⟨it,fp,tn,J,H2,e,I2,T,st2,f2,W,⟨m0,w0⟩,turn⟩:=h2;subst e
 -- what stays true of the iterator's objects through the loop
 have stat:∀{H':Hp},(∀b∈fp,H' b=none)->∀b∈fp,dY X aa H' b:=fun hn b hb=>⟨hn b hb,(f2 b hb).2⟩;refine codeAny_forLoop_any (fun n s'=>∃i σ' H',Inv X aa σ' H' s'/\tn i s'.heap/\(∀b∈fp,H' b=none)/\W i n σ' H') ?_ m0 ⟨0,σ,H2,I2,st2,fun b hb=>(f2 b hb).1,w0⟩;rintro n s3 ⟨i,σ3,H3,I3,st3,fr3,w3⟩;rcases turn i n σ3 H3 w3 with⟨stop,qn⟩|⟨go,N,hN,step⟩
 ·refine F8 hp (thn (T.done X rfl rfl rfl hc i aa s3 σ3 H3 X.xe I3 (stat fr3) st3 stop) fun r s4 ⟨hr,I4⟩=>?_);subst hr;exact O1 ⟨σ3,H3,I4,qn⟩
 ·refine F8 hp (thn (T.item X rfl rfl rfl hc i aa s3 σ3 H3 X.xe I3 (stat fr3) st3 go) fun r s4 ⟨u,hr,h4⟩=>?_);subst hr;refine F8 hp (thn h4 fun _ s5 ⟨x,H5,I5,r5,y5,st5,fr5⟩=>?_);have I5':=I5.pinned (stat fr5) (T.obj _ _ st5);refine F8 hp (thn (hg _ s5 σ3 H5 x u _ I5' r5 (step x H5 y5)) fun _ s6 ⟨σ6,H6,I6,q6⟩=>?_);refine F8 hp (thn (hb _ s6 σ6 H6 _ I6 q6) fun f s7 q7=>?_);have again:∀{σ7:St} {H7:Hp},Inv X (aa++eG fp s5.heap) σ7 H7 s7->N σ7 H7->∃m,m<n/\∃i σ' H',Inv X aa σ' H' s7/\tn i s7.heap/\(∀b∈fp,H' b=none)/\W i m σ' H':=fun {σ7 H7} I7 n7=>by
   obtain⟨m',hm,w7⟩:=hN σ7 H7 n7;refine⟨m',hm,i+1,σ7,H7,I7.unpinned,T.keep _ _ _ st5 fun b hb o e=>(I7.pin (b,o) (B3 _ (B3 _ (c9 hb e)))).1,fun b hb=>?_,w7⟩;obtain⟨o,e,d⟩:=T.obj _ _ st5 b hb;exact(I7.pin (b,o) (B3 _ (B3 _ (c9 hb e)))).2.1
  cases f with
  |next=>obtain⟨σ7,H7,I7,n7⟩:=q7;exact again I7 n7
  |cont=>obtain⟨σ7,H7,I7,n7⟩:=q7;exact again I7 n7
  |brk=>obtain⟨σ7,H7,I7,q7⟩:=q7;exact⟨σ7,H7,I7.unpinned,q7⟩
  |ret v=>obtain⟨x7,σ7,H7,I7,r7,q7⟩:=q7;exact⟨x7,σ7,H7,I7.unpinned,r7,q7⟩
end
abbrev R2:=V->V->Hp->VK->Prop
def OpR(X:Cx) (f:u8->u8->Sem u8) (r:R2):Prop :=
 ∀(aa:List (A8×Obj)) (s:v0) (σ:St) (H:Hp) (x y:V) (v u:u8) (Q:VK),Inv X aa σ H s->ar x v->ar y u->r x y H Q ->
  B7 (B8 X.prog X.w) X.A (f v u) (EP X aa σ Q) X.xe s
def UnR(X:Cx) (f:u8->Sem u8) (r:V->Hp->VK->Prop):Prop :=
 ∀(aa:List (A8×Obj)) (s:v0) (σ:St) (H:Hp) (x:V) (v:u8) (Q:VK),Inv X aa σ H s->ar x v->r x H Q ->
  B7 (B8 X.prog X.w) X.A (f v) (EP X aa σ Q) X.xe s
def cv(X:Cx) (f:u8) (r:List V->Hp->VK->Prop):Prop :=
 ∀(aa:List (A8×Obj)) (s:v0) (σ:St) (H:Hp) (xs:List V) (us:List u8) (Q:VK),Inv X aa σ H s->ao xs us->r xs H Q ->
  B7 (B8 X.prog X.w) X.A (call f us) (EP X aa σ Q) X.xe s
def tOp(r:R2) (ta tb:TE):TE:=fun σ H Q=>ta σ H fun x H1=>tb σ H1 fun y H2=>r x y H2 Q
def tUn(r:V->Hp->VK->Prop) (ta:TE):TE:=fun σ H Q=>ta σ H fun x H1=>r x H1 Q
def rI(C:Int->Int->Prop) (g:Int->Int->V):R2:=fun x y H Q=>∃i j,x=.int i/\y=.int j/\C i j/\Q (g i j) H
def rI0(g:Int->Int->V):R2:=fun x y H Q=>∃i j,x=.int i/\y=.int j/\Q (g i j) H
def rU(g:Int->V):V->Hp->VK->Prop:=fun x H Q=>∃i,x=.int i/\Q (g i) H
section
variable{X:Cx}{a b c:B4}{ta tb tc:TE}{pos:Pos}
theorem vG(ha:PE X a ta) (hb:PE X b tb) {aa:List (A8×Obj)}{s:v0}{σ:St}{H:Hp}{R:V->V->Hp->Prop}(I:Inv X aa σ H s)
  (h:ta σ H fun x H1=>tb σ H1 fun y H2=>R x y H2) {Q:u8->v0->Prop} {f:u8->u8->Sem u8}
  (hf:∀v u s2 x y H2,Inv X aa σ H2 s2->ar x v->ar y u->R x y H2->B7 (B8 X.prog X.w) X.A (f v u) Q X.xe s2) :
  B7 (B8 X.prog X.w) X.A (N6 a X.env) (fun v s₁=>B7 (B8 X.prog X.w) X.A (N6 b X.env) (fun u s₂=>B7 (B8 X.prog X.w) X.A (f v u) Q X.xe s₂) X.xe s₁) X.xe s:=by
 refine thn (ha aa s σ H _ I h) fun v s1 hup=>hup.el fun x H1 I1 r1 q1=>?_;refine thn (hb aa s1 σ H1 _ I1 q1) fun u s2 hup=>hup.el fun y H2 I2 r2 q2=>?_;exact hf v u s2 x y H2 I2 r1 r2 q2
theorem zh{op:S9}{r:R2}(ho:OpR X (E4 op) r) (ha:PE X a ta) (hb:PE X b tb):PE X (.BinOp a op b pos) (tOp r ta tb):=by
 intro aa s σ H Q I h;exact wpAny_BinOp (vG ha hb I h fun v u s2 x y H2 I2 rx ry q=>ho aa s2 σ H2 x y v u Q I2 rx ry q)
theorem zu{op:UnaryOp}{r:V->Hp->VK->Prop}(ho:UnR X (unaryOp op) r) (ha:PE X a ta):PE X (.UnaryOp op a pos) (tUn r ta):=by
 intro aa s σ H Q I h;exact UnaryOp_ (thn (ha aa s σ H _ I h) fun v s1 hup=>hup.el fun x H1 I1 r1 q1=>ho aa s1 σ H1 x v Q I1 r1 q1)
theorem opI{f:u8->u8->Sem u8}{C:Int->Int->Prop}{g:Int->Int->Int}
  (rule:∀(i j:Int) (t u:Tok) (s:v0) (Q:u8->v0->Prop) (E:u8->v0->Prop),C i j->Q (.int (g i j) s.toks) { s with toks:=s.toks+1 }->B7 (B8 X.prog X.w) X.A (f (.int i t) (.int j u)) Q E s) :
  OpR X f (rI C fun i j=>.int (g i j)):=by
 intro aa s σ H x y v u Q I rx ry h;obtain⟨i,j,rfl,rfl,hc,q⟩:=h;obtain⟨t,rfl⟩:=rx;obtain⟨t',rfl⟩:=ry;exact rule i j t t' s _ _ hc ⟨.int (g i j),H,I.tok _,⟨_,rfl⟩,q⟩
theorem yj{f:u8->u8->Sem u8}{g:Int->Int->Int}
  (rule:∀(i j:Int) (t u:Tok) (s:v0) (Q:u8->v0->Prop) (E:u8->v0->Prop),Q (.int (g i j) s.toks) { s with toks:=s.toks+1 }->B7 (B8 X.prog X.w) X.A (f (.int i t) (.int j u)) Q E s) :
  OpR X f (rI0 fun i j=>.int (g i j)):=by
 intro aa s σ H x y v u Q I rx ry h;obtain⟨i,j,rfl,rfl,q⟩:=h;obtain⟨t,rfl⟩:=rx;obtain⟨t',rfl⟩:=ry;exact rule i j t t' s _ _ ⟨.int (g i j),H,I.tok _,⟨_,rfl⟩,q⟩
theorem v9{f:u8->u8->Sem u8}{g:Int->Int->Bool}
  (rule:∀(i j:Int) (t u:Tok) (s:v0) (Q:u8->v0->Prop) (E:u8->v0->Prop),Q (.bool (g i j)) s->B7 (B8 X.prog X.w) X.A (f (.int i t) (.int j u)) Q E s) :
  OpR X f (rI0 fun i j=>.bl (g i j)):=by
 intro aa s σ H x y v u Q I rx ry h;obtain⟨i,j,rfl,rfl,q⟩:=h;obtain⟨t,rfl⟩:=rx;obtain⟨t',rfl⟩:=ry;exact rule i j t t' s _ _ ⟨.bl (g i j),H,I,rfl,q⟩
def kP(i j:Int):Prop:=0<j/\j<1073741824
def iO(i j:Int):Prop:=0<=j/\j<=1000000/\i.natAbs<2 ^ 64
def fS(i j:Int):Prop:=(-(2 ^ 64)<i/\i<2 ^ 64)∨(-(2 ^ 64)<j/\j<2 ^ 64)
theorem fS.ok{i j:Int}(h:fS i j):IntMulOk i j:=by
 rcases h with⟨h1,h2⟩|⟨h1,h2⟩
 ·exact .of_left (intBits_le_64 h1 h2)
 ·exact .of_right (intBits_le_64 h1 h2)
theorem mX(k:Nat):(0:Int)<=2 ^ k:=by
 rw[two_pow_cast];exact Int.natCast_nonneg _
theorem xc:OpR X (E4 .Add) (rI0 fun i j=>.int (i+j)):=yj fun _ _ _ _ _ _ _ q=>add_int q
theorem vL:OpR X (E4 .Sub) (rI0 fun i j=>.int (i-j)):=yj fun _ _ _ _ _ _ _ q=>sub_int q
theorem xi:OpR X (E4 .Mult) (rI fS fun i j=>.int (i*j)):=opI fun _ _ _ _ _ _ _ hc q=>mul_int q hc.ok
theorem ue:OpR X (E4 .FloorDiv) (rI kP fun i j=>.int (i / j)):=opI fun i j _ _ _ _ _ hc q=>by
 have h1:(0:Int)<j:=hc.1;have h2:j<1073741824:=hc.2;exact floordiv_int (by omega) (by rw[Int.fdiv_eq_ediv_of_nonneg i (by omega)];exact q) (.inl (PyProof.noPylong_small (by omega)))
theorem vO:OpR X (E4 .Mod) (rI (fun _ j=>0<j) fun i j=>.int (i % j)):=opI fun i j _ _ _ _ _ hc q=>by
 have h1:(0:Int)<j:=hc;exact mod_int' (by omega) (by rw[Int.fmod_eq_emod_of_nonneg i (by omega)];exact q)
theorem xH:OpR X (E4 .Pow) (rI iO fun i j=>.int (i ^ j.toNat)):=opI fun _ _ _ _ _ _ _ hc q=>pow_int_small hc.1 hc.2.1 hc.2.2 q
theorem wG:OpR X (E4 .LShift) (rI iO fun i j=>.int (i*2 ^ j.toNat)):=opI fun _ _ _ _ _ _ _ hc q=>lshift_int_small hc.1 hc.2.1 hc.2.2 q
theorem xb:OpR X (E4 .RShift) (rI (fun _ j=>0<=j) fun i j=>.int (i / 2 ^ j.toNat)):=opI fun i j _ _ _ _ _ hc q =>
 rshift_int hc (by rw[Int.fdiv_eq_ediv_of_nonneg i (mX _)];exact q)
theorem unI{f:u8->Sem u8}{g:Int->Int}
  (rule:∀(i:Int) (t:Tok) (s:v0) (Q:u8->v0->Prop) (E:u8->v0->Prop),Q (.int (g i) s.toks) { s with toks:=s.toks+1 }->B7 (B8 X.prog X.w) X.A (f (.int i t)) Q E s) :
  UnR X f (rU fun i=>.int (g i)):=by
 intro aa s σ H x v Q I rx h;obtain⟨i,rfl,q⟩:=h;obtain⟨t,rfl⟩:=rx;exact rule i t s _ _ ⟨.int (g i),H,I.tok _,⟨_,rfl⟩,q⟩
theorem vK:UnR X (unaryOp .USub) (rU fun i=>.int (-i)):=unI fun _ _ _ _ _ q=>neg_int q
end
section
variable{X:Cx}{a b c:B4}{ta tb tc:TE}{pos:Pos}
theorem pT{aa:List (A8×Obj)}{σ:St}{H:Hp}{s:v0}{Q:VK}{k k':Bool}(I:Inv X aa σ H s) (q:Q (.bl k) H) (e:k=k'):EP X aa σ Q (.bool k') s:=by
 subst e;exact⟨.bl k,H,I,rfl,q⟩
theorem yD:OpR X (E2 .Lt) (rI0 fun i j=>.bl (decide (i<j))):=v9 fun _ _ _ _ _ _ _ q=>lt_int q
theorem zW:OpR X (E2 .Gt) (rI0 fun i j=>.bl (decide (j<i))):=v9 fun _ _ _ _ _ _ _ q=>gt_int q
theorem yc:OpR X (E2 .GtE) (rI0 fun i j=>.bl (decide (j<=i))):=v9 fun _ _ _ _ _ _ _ q=>ge_int q
theorem oF:OpR X (E2 .In) (fun x y H Q=>∃i j,x=.str i/\y=.str j/\Q (.bl (!(J8 j i 0 j.length 1).isEmpty)) H):=by
 intro aa s σ H x y v u Q I rx ry h;obtain⟨i,j,rfl,rfl,q⟩:=h;obtain⟨t,rfl⟩:=rx;obtain⟨t',rfl⟩:=ry;exact in_str (pT I q rfl)
theorem jG:OpR X (E2 .NotIn) (fun x y H Q=>∃i j,x=.str i/\y=.str j/\Q (.bl (!(!(J8 j i 0 j.length 1).isEmpty))) H):=by
 intro aa s σ H x y v u Q I rx ry h;obtain⟨i,j,rfl,rfl,q⟩:=h;obtain⟨t,rfl⟩:=rx;obtain⟨t',rfl⟩:=ry;exact notIn_str (pT I q rfl)
theorem sX{op:CmpOp}{r:R2}(ho:OpR X (E2 op) r) (ha:PE X a ta) (hb:PE X b tb) (hm:L4 op b=false):PE X (.Compare a [op] [b] pos) (tOp r ta tb):=by
 intro aa s σ H Q I h;exact wpAny_Compare1 (vG ha hb I h fun v u s2 x y H2 I2 rx ry q=>ho aa s2 σ H2 x y v u Q I2 rx ry q) hm
def uV(t:TE):TT:=fun σ H Q=>t σ H fun x H'=>∃k,x=.bl k/\Q k H'
theorem sA{op:CmpOp}{r:R2}(ho:OpR X (E2 op) r) (ha:PE X a ta) (hb:PE X b tb) (hm:L4 op b=false):PT X (.Compare a [op] [b] pos) (uV (tOp r ta tb)):=by
 intro aa s σ H Q I h;refine wpAny_isTrue_Compare1 (thn (ha aa s σ H _ I h) fun v s1 hup=>hup.el fun x H1 I1 r1 q1=>thn (hb aa s1 σ H1 _ I1 q1) fun u s2 hup=>hup.el fun y H2 I2 r2 q2 =>
  thn (ho aa s2 σ H2 x y v u _ I2 r1 r2 q2) fun c s3 ⟨z,H3,I3,r3,k,e,q3⟩=>?_) hm
 subst e;cases r3;exact K4 ⟨H3,I3,q3⟩
theorem gX:(A0:Nat)<2 ^ 63:=by rw[sizeLine_eq];decide
theorem mz:OpR X (E4 .Add) (fun x y H Q=>∃i j,x=.str i/\y=.str j/\i.length+j.length<=A0/\Q (.str (i++j)) H):=by
 intro aa s σ H x y v u Q I rx ry h;obtain⟨i,j,rfl,rfl,hz,q⟩:=h;obtain⟨t,rfl⟩:=rx;obtain⟨t',rfl⟩:=ry;exact add_str (fun t' tk=>⟨.str (i++j),H,I.tok _,⟨_,rfl⟩,q⟩) hz
theorem nK{x:V}{us:List u8}(r:ao [x] us):∃u,us=[u]/\ar x u:=by
 cases r with
 |cons r1 r2=>cases r2;exact⟨_,rfl,r1⟩
end
structure AZ(h:C5) (x dx C:A8) (mA:Str->Option u8):Prop where
 obj:h.get? x=some (PySem.W.instObj C dx)
 ns:h.Ns1 dx mA
 ne:dx≠x
theorem gC.some_of{v:V}{o:Option u8}(r:gC (some v) o):∃u,o=some u/\ar v u:=by
 cases o with
 |none=>exact(show False from r).elim
 |some u=>exact⟨u,rfl,r⟩
structure Cls(K:o0) (C:A8):Prop where
 pg:PySem.W.plainGet K C Str.empty=true
 hd:PySem.W.hasDictIn K C=true
 po:PySem.W.plainOver K C=true
 sa:PySem.W.findIn K (.ref C) "__setattr__"=some (some (.builtin "object.__setattr__"))
theorem Cls.get{K:o0}{C:A8}(c:Cls K C) (f:Str):PySem.W.plainGet K C f=true:=c.pg
section
variable{X:Cx}{aa:List (A8×Obj)}{σ:St}{H:Hp}{s:v0}{A:D7}{E:u8->v0->Prop}{Q:u8->v0->Prop}{c:u8}{b:Bool}
inductive g7 (K:o0) (H:Hp):V->u8->Prop where
 |non:g7 K H .non (.type "NoneType")
 |bl (x:Bool):g7 K H (.bl x) (.type "bool")
 |int (i:Int):g7 K H (.int i) (.type "int")
 |str (x:Str):g7 K H (.str x) (.type "str")
 |flt (x:UInt64):g7 K H (.flt x) (.type "float")
 |lst {a:A8} {xs:List V} (e:H a=some (.lst xs)):g7 K H (.ref a) (.type "list")
 |frz {a:A8} {o:Obj} {xs:List V} (e:H a=some (.frz o (.lst xs))):g7 K H (.ref a) (.type "list")
 |tup {a:A8} {xs:List V} (e:H a=some (.tup xs)):g7 K H (.ref a) (.type "tuple")
 |dK {a:A8} {kvs:List (Key×V)} (e:H a=some (.dK kvs)):g7 K H (.ref a) (.type "dict")
 |dT {a:A8} {kvs:List (List Key×V)} (e:H a=some (.dT kvs)):g7 K H (.ref a) (.type "dict")
 | ins {a C dx:A8} {fs:List (Str × V)} (e:H a = some (.ins C dx fs)) (cl:Cls K C) (ha:PySem.W.findIn K (.ref C) "__class__" = some (some (.builtin "object.__class__")))
   (hn:PySem.W.specialIn K (.builtin "object.__class__") "__get__"=some (some (.builtin "getset_descriptor.__get__"))) (htk:PySem.W.takesIn K (.builtin "object.__class__")=some true)
   (hm:PySem.W.mroIn K C (.type "object")=some true):g7 K H (.ref a) (.ref C)
end
structure bY(k:Nat) (A:D7):Prop where
 hd:A.handled=none
 dp:A.depth+3*k+5<recursionLimit
 un:A.units+16*k+200<S8
theorem bY.mono{j k:Nat}{A:D7}(r:bY k A) (h:j<=k):bY j A:=⟨r.hd,by have:=r.dp;omega,by have:=r.un;omega⟩
theorem bY.deeper{k:Nat}{A:D7}(r:bY (k+1) A) (env:Env):bY k (A.deeper env) :=
 ⟨r.hd,by have:=r.dp;show A.depth+1+3*k+5<_;omega,by have:=r.un;show A.units+3+16*k+200<_;omega⟩
theorem bY.depth{k:Nat}{A:D7}(r:bY k A):A.depth<recursionLimit:=by have:=r.dp;omega
theorem bY.units{k:Nat}{A:D7}(r:bY k A):A.units+64<S8:=by have:=r.un;omega
def z7:TA:=fun _ H Q=>Q [] H
def zt(ta:TE) (tr:TA):TA:=fun σ H Q=>ta σ H fun x H1=>tr σ H1 fun xs H2=>Q (x::xs) H2
section
variable{X:Cx}{e:B4}{es:List B4}{te:TE}{t:TA}{pos:Pos}
theorem kc:PA X [] z7:=fun _ _ _ _ H Q I h=>Calls.spliced_nil ⟨[],H,I,.nil,h⟩
theorem eZ(ha:PE X e te) (hr:PA X es t) (hs:B1 (e::es) X.env=(false,N6 e X.env)::B1 es X.env:=by rfl):PA X (e::es) (zt te t):=by
 intro pos aa s σ H Q I h;rw[hs];show B7 _ _ (spliced ((false,N6 e X.env)::L3 pos (B1 es X.env))) _ _ s;refine Calls.spliced_cons (thn (ha aa s σ H _ I h) fun u s1 hup=>hup.el fun x H1 I1 r1 q1=>?_);exact thn (hr pos aa s1 σ H1 _ I1 q1) fun us s2 hup=>hup.el fun xs H2 I2 r2 q2=>⟨x::xs,H2,I2,.cons r1 r2,q2⟩
def AM(t:TA):TE:=fun σ H Q=>t σ H fun xs H1=>xs.length<=A0/\∀p,H1 p=none->Q (.ref p) (upd H1 p (.tup xs))
def AB(t:TA):TE:=fun σ H Q=>t σ H fun xs H1=>xs.length<=A0/\∀p,H1 p=none->Q (.ref p) (upd H1 p (.lst xs))
theorem nc{x1}(h:PA X es t):PE X (.Tuple es x1 pos) (AM t):=by
 intro aa s σ H Q I hq;refine wpAny_Tuple_spliced (thn (h pos aa s σ H _ I hq) fun us s1 ⟨xs,H1,I1,r,z,q⟩=>⟨by rw[<-r.length];exact z,?_⟩);have hf:H1 s1.heap.objs.size=none:=I1.hok.fresh (B0 _);refine⟨.ref s1.heap.objs.size,upd H1 s1.heap.objs.size (.tup xs),I1.laid (t':=s1.toks) (fun b u e=>A4 _ e) (B0 _) ?_,rfl,q _ hf⟩;exact⟨z,us,r,⟨_,B6 _ rfl,rfl,⟨_,rfl⟩,rfl⟩⟩
theorem qS(h:PA X es t):PE X (.List es pos) (AB t):=by
 intro aa s σ H Q I hq;refine wpAny_List_spliced (thn (h pos aa s σ H _ I hq) fun us s1 ⟨xs,H1,I1,r,z,q⟩=>⟨by rw[<-r.length];exact z,?_⟩);have hf:H1 s1.heap.objs.size=none:=I1.hok.fresh (B0 _);refine⟨.ref s1.heap.objs.size,upd H1 s1.heap.objs.size (.lst xs),I1.laid (t':=s1.toks) (fun b u e=>A4 _ e) (B0 _) ?_,rfl,q _ hf⟩;exact⟨z,us,0,r,B6 _ rfl⟩
end
abbrev Sp:=List V->Hp->VK->XK->Prop
abbrev CXT:=List Env->Hp->v0->XK->u8->v0->Prop
structure sI(P:B9) (w:E6) (K:o0) (mg:Str->Option u8) (base:C5) (A:D7) (outer:List Env) (s:v0) (H:Hp):Prop where
 frames:A.frames=some outer
 mod:Mod K mg base
 bs:∀b o,base.get? b=some o->s.heap.get? b=some o/\H b=none
 bsz:base.objs.size<=s.heap.objs.size
 funs:s.heap.FunFrames base outer
 frf:∀b∈frs outer,H b=none
 hok:HOk P w H s.heap
 bare:P4 s.gens
def CE(outer:List Env) (P:B9) (w:E6) (H:Hp) (s:v0) (Q:VK) (u:u8) (s':v0):Prop :=
 ∃v H',s'.os=s.os/\P4 s'.gens/\Un (frs outer) [] H H' s.heap s'.heap/\HOk P w H' s'.heap/\ar v u/\Q v H'
def CR(CX:CXT) (outer:List Env) (P:B9) (w:E6) (H:Hp) (s:v0) (Q:VK) (E:XK) (r:Result) (s':v0):Prop :=
 match r with
 |.ok (.ret u)=>CE outer P w H s Q u s'
 |.ok _=>False
 |.error e=>CX outer H s E e s'
structure bw(P:B9) (w:E6) (K:o0) (mg:Str->Option u8) (base:C5) (CX:CXT) (k:Nat) (f:A8) (fd:F6) (ps:List Str) (sp:Sp):Prop where
 len:∀vs H Q E,sp vs H Q E->vs.length=ps.length
 run:∀(A:D7) (outer:List Env) (s:v0) (H:Hp) (args:Args) (us:List u8) (vs:List V) (Q:VK) (E:XK),bY k A->sI P w K mg base A outer s H->T6 s fd args (ps.zip us)->ao vs us->sp vs H Q E ->
  O2 (B8 P w) A (.call (.ref f) args) (CR CX outer P w H s Q E) s
section
variable{X:Cx}{aa:List (A8×Obj)}{σ:St}{H:Hp}{s s':v0}
theorem Inv.env0(I:Inv X aa σ H s):sI X.prog X.w X.K X.mg X.base X.A X.stack s H :=
 ⟨I.ok.frames,I.ok.mod,I.bs,D2 I.ok.bsz I.sz,I.stack,I.stkFree,I.hok,I.bare⟩
theorem Inv.after{Q:VK}{u:u8}(I:Inv X aa σ H s) (h:CE X.stack X.prog X.w H s Q u s'):EP X aa σ Q u s':=by
 obtain⟨v,H',os,bare,un,hok,r,q⟩:=h;obtain⟨hh,g,d,t,os'⟩:=s';obtain rfl:os'=s.os:=os;exact⟨v,H',I.call (h':=hh) (g':=g) (d':=d) (t':=t) (ch:=[]) un hok bare (fun b z=>absurd z (by simp)),r,q⟩
end
def yR(sp:Sp) (dvs:List V) (E:XK) (t:TA):TE:=fun σ H Q=>t σ H fun vs H1=>sp (vs++dvs) H1 Q E
def cS(K:o0) (fd:F6) (ps:List Str) (ds:List u8):Prop :=
 ∀(s:v0) (us:List u8),K.In s.heap->(us++ds).length=ps.length->T6 s fd ⟨us,[]⟩ (ps.zip (us++ds))
theorem cS.all{K:o0}{fd:F6}{ps:List Str}(h:∀us:List u8,us.length=ps.length->bindArgs fd ⟨us,[]⟩=O9 (ps.zip us)):cS K fd ps []:=fun s us _ hl=>by
 rw[O3]at hl ⊢;exact .of_eq (h us hl)
def mI(CX:CXT) (X:Cx) (E:XK):Prop:=∀(aa:List (A8×Obj)) (σ:St) (H:Hp) (s:v0) (e:u8) (s':v0),Inv X aa σ H s->CX X.stack H s E e s'->X.xe e s'
section
variable{X:Cx}{CX:CXT}{k:Nat}{f C:A8}{fd:F6}{ps:List Str}{sp:Sp}{dvs:List V}{ds:List u8}{E:XK}{x m:Str}{p pos fw:Pos}{e o:B4}{es:List B4}{ta:TE}{t:TA}
theorem wx{aa:List (A8×Obj)}{σ:St}{H:Hp}{s:v0}{Q:VK}{us:List u8}{vs:List V}(F:bw X.prog X.w X.K X.mg X.base CX k f fd ps sp) (hr:bY k X.A) (hb:cS X.K fd ps ds) (hd:ao dvs ds) (hx:mI CX X E)
  (I:Inv X aa σ H s) (r:ao vs us) (h:sp (vs++dvs) H Q E):B7 (B8 X.prog X.w) X.A (call (.ref f) us) (EP X aa σ Q) X.xe s:=by
 have r2:ao (vs++dvs) (us++ds):=r.append hd;have hl:(us++ds).length=ps.length:=by rw[<-r2.length];exact F.len _ _ _ _ h
 refine wpAny_call (O8 (F.run X.A X.stack s H ⟨us,[]⟩ (us++ds) (vs++dvs) Q E hr I.env0 (hb s us I.kIn hl) r2 h) fun r s' hq=>?_);cases r with
 |error e=>exact hx aa σ H s e s' I hq
 |ok fl =>
  cases fl with
  |ret u=>exact I.after hq
  |next=>exact F7 hq
  |brk=>exact F7 hq
  |cont=>exact F7 hq
theorem uK(F:bw X.prog X.w X.K X.mg X.base CX k f fd ps sp) (hr:bY k X.A) (hg:Gl X x) (hm:X.mg x=some (.ref f)) (hk:K6 X.K (.ref f)=true) (hb:cS X.K fd ps ds) (hd:ao dvs ds) (hx:mI CX X E)
  (ha:PA X (e::es) t) (hdb:(x==("__debug__":Str))=false:=by decide) (he:B1 (e::es) X.env=(false,N6 e X.env)::B1 es X.env:=by rfl) (hpl:(L3 pos (B1 es X.env)).any (·.1)=false:=by rfl) :
  PE X (.Call (.Name x p) (e::es) [] pos) (yR sp dvs E t):=by
 intro aa s σ H Q I h;refine wpAny_Call_Name_kw (um I hg hm ?_ hdb);refine PySem.W.callWith_K (h₀:=X.base) I.ok.mod.kin hk (thn (ha pos aa s σ H _ I h) fun us s1 hup=>hup.el fun vs H1 I1 r q=>⟨I1.kIn,?_⟩) he hpl;exact wx F hr hb hd hx I1 r q
structure Mk(K:o0) (C f:A8):Prop where
 makes:PySem.W.makesIn K C=true
 init:PySem.W.findIn K (.ref C) "__init__"=some (some (.ref f))
 fn:PySem.W.isFn K (.ref f)=true
 kp:K6 K (.ref C)=true
end
section
variable{X:Cx}{CX:CXT}{k:Nat}{f C:A8}{fd:F6}{ps ks:List Str}{sp:Sp}{E:XK}{x m:Str}{p pos fw kpos:Pos}{e o:B4}{es:List B4}{kws:List Q3}{te ta:TE}{t tk:TA}{nm:Option Str}
structure Ad(K:o0) (fd:F6) (ps ks:List Str) (g:List u8->List u8->List u8) (gV:List V->List V->List V):Prop where
 to:∀(s:v0) (us ws:List u8),K.In s.heap->(g us ws).length=ps.length->T6 s fd ⟨us,ks.zip ws⟩ (ps.zip (g us ws))
 rel:∀{vs:List V} {us:List u8} {zs:List V} {ws:List u8},ao vs us->ao zs ws->ao (gV vs zs) (g us ws)
variable{g:List u8->List u8->List u8}{gV:List V->List V->List V}
end
structure aB(N P:List Str) (sc:M9):Prop where
 kind:sc.kind=.function
 co:sc.isCoroutine=false
 gen:sc.isGenerator=false
 nd:N.Nodup
 pre:N.take P.length=P
 par:∀x∈P,sc.names.lookup x=some .local∨sc.names.lookup x=some .cell
 nofree:∀y∈sc.names,y.2≠.free
theorem i7{P1:Str->Option D1}{x:Str}:∀{binds:List (Str×u8)}{m:Str->Option u8},(∀v,(x,v)∉binds)->bindL P1 binds m x=m x
 |[],_,_=>rfl
 |(n,v)::r,m,h=>by
  unfold bindL;rw[i7 fun w hw=>h w (C4 _ hw)]
  split
  ·have:x≠n:=by rintro rfl;exact h v E1
   simp[this]
  ·rfl
theorem jz{P1:Str->Option D1}{x:Str}:∀{binds:List (Str×u8)}{m:Str->Option u8},(∀v,(x,v)∉binds)->bindC P1 binds m x=m x
 |[],_,_=>rfl
 |(n,v)::r,m,h=>by
  unfold bindC;rw[jz fun w hw=>h w (C4 _ hw)]
  split
  ·rfl
  ·have:x≠n:=by rintro rfl;exact h v E1
   simp[this]
theorem jA{P1:Str->Option D1}{x:Str}{v:u8}:∀{P:List Str}{vs:List u8}{i:Nat}{m:Str->Option u8},P.Nodup->P[i]?=some x->vs[i]?=some v->P1 x=some .local ->
  bindL P1 (P.zip vs) m x=some v
 |[],_,_,_,_,h,_,_=>by simp at h
 |_::_,[],_,_,_,_,h,_=>by simp at h
 |p::P,w::vs,0,m,nd,h1,h2,hk=>by
  simp at h1 h2;subst h1;subst h2;show bindL P1 ((p,w)::P.zip vs) m p=_;unfold bindL;rw[i7 fun v hv=>(L7.mp nd).1 (List.of_mem_zip hv).1,if_pos hk];simp
 |p::P,w::vs,i+1,m,nd,h1,h2,hk=>by
  show bindL P1 ((p,w)::P.zip vs) m x=_;unfold bindL;exact jA (i:=i) (L7.mp nd).2 (by simpa using h1) (by simpa using h2) hk
theorem i8{P1:Str->Option D1}{x:Str}{v:u8}:∀{P:List Str}{vs:List u8}{i:Nat}{m:Str->Option u8},P.Nodup->P[i]?=some x->vs[i]?=some v->P1 x≠some .local ->
  bindC P1 (P.zip vs) m x=some v
 |[],_,_,_,_,h,_,_=>by simp at h
 |_::_,[],_,_,_,_,h,_=>by simp at h
 |p::P,w::vs,0,m,nd,h1,h2,hk=>by
  simp at h1 h2;subst h1;subst h2;show bindC P1 ((p,w)::P.zip vs) m p=_;unfold bindC;rw[jz fun v hv=>(L7.mp nd).1 (List.of_mem_zip hv).1,if_neg hk];simp
 |p::P,w::vs,i+1,m,nd,h1,h2,hk=>by
  show bindC P1 ((p,w)::P.zip vs) m x=_;unfold bindC;exact i8 (i:=i) (L7.mp nd).2 (by simpa using h1) (by simpa using h2) hk
def du(N:List Str) (vs:List V):St:=vs.map some++A7 (N.length-vs.length) none
noncomputable def jQ(CX:CXT) (P:B9) (w:E6) (K:o0) (mg:Str->Option u8) (base:C5) (N:List Str) (qual:Str) (scope:M9) (f:A8) (cd:u8) (A:D7) (outer:List Env) (s:v0) (H:Hp) (E:XK):Cx where
 prog:=P
 w:=w
 K:=K
 mg:=mg
 base:=base
 A:=A.deeper (R6 qual scope s.heap.objs.size f cd)
 N:=N
 s₀:=s
 H₀:=H
 env:=R6 qual scope s.heap.objs.size f cd
 outer:=outer
 stack:=R6 qual scope s.heap.objs.size f cd::outer
 ex:=[]
 calm:=true
 fn:=fun _=>true
 pn:=[]
 xe:=fun e s'=>B7 (B8 P w) (A.deeper (R6 qual scope s.heap.objs.size f cd)) (leaving (R6 qual scope s.heap.objs.size f cd) e) (fun _ s''=>CX outer H s E e s'') (fun e' s''=>CX outer H s E e' s'') s'
theorem kY{sc:M9}{n:Nat}{x:Str}(h:sc.names.lookup x=some .cell):∃c,(T7 n sc.names []).lookup x=some c:=by
 have q:=PySem.W.cellsFrom_some sc.names n [] (.inl h);exact F9.mp q
theorem oD{CX:CXT}{P:B9}{w:E6}{K:o0}{mg:Str->Option u8}{base:C5}{N ps:List Str}{qual:Str}{scope:M9}{f:A8}{cd:u8}{A:D7}{outer:List Env}{s s1:v0}{H:Hp}{E:XK}{us:List u8}{vs:List V}
  (S:aB N ps scope) (hd:A.handled=none) (e0:sI P w K mg base A outer s H) (hl:vs.length=ps.length) (r:ao vs us)
  (x:InCallC s s.heap.objs.size (bindL (R6 qual scope s.heap.objs.size f cd).kindOf (ps.zip us) fun _=>none) (T7 (s.heap.objs.size+1) scope.names []) (bindC (R6 qual scope s.heap.objs.size f cd).kindOf (ps.zip us) fun _=>none) s1) :
  Inv (jQ CX P w K mg base N qual scope f cd A outer s H E) [] (du N vs) H s1:=by
 have hpl:ps.length<=N.length:=by have:=congrArg P5 S.pre;rw[List.length_take]at this;omega
 obtain⟨h1,tk,rfl,hk⟩:=x.done;have noA:∀b:A8,b∉(jQ CX P w K mg base N qual scope f cd A outer s H E).ex:=fun b z=>absurd (show b∈([]:List A8)from z) (by simp);refine⟨⟨e0.mod,S.kind,rfl,rfl,B0 _,fun y z c h1 h2=>?_,fun y hy=>?_,fun y c _ h=>?_,fun _=>hd,D7.frames_deeper e0.frames,.inr ⟨rfl,rfl⟩,fun b z=>absurd z (noA b),e0.bs,e0.bsz,fun b _ _=>noA b,fun b z=>absurd z (noA b),e0.funs,e0.frf⟩,
  rfl,e0.bare,Un.kept hk,⟨_,x.toInCall.ns,fun i y v h1 h2 h3=>?_⟩,fun y c h=>⟨_,x.cell y c h⟩,e0.hok.fresh (B0 _),fun y c h=>?_,fun p hp=>absurd (show p∈([]:List (A8×Obj))from hp) (by simp),e0.hok.kept hk,?_⟩
 ·exact name_of_addr x.apart (D3 h1) (D3 h2)
 ·have hy:scope.names.lookup y=some .cell∨scope.names.lookup y=some .free:=hy;rcases hy with hy|hy
  ·exact kY hy
  ·exact absurd rfl (S.nofree _ (D3 hy))
 ·exact Nat.le_of_lt (x.above y c (D3 h))
 ·have hi:i<vs.length:=by
   unfold du at h2
   by_cases hi:i<vs.length
   ·exact hi
   ·rw[F3 (by simpa using hi)]at h2;rw[J9]at h2
    split at h2<;>cases h2
  have ha:vs[i]?=some v:=by
   unfold du at h2;rw[C3 (by simpa using hi),H0]at h2;cases e:vs[i]? with
   |none=>rw[e]at h2;cases h2
   |some a=>rw[e]at h2;cases h2;rfl
  obtain⟨u,hu,rv⟩:=r.get ha;have hp:ps[i]?=some y:=by
   rw[<-S.pre,List.getElem?_take_of_lt (by omega)];exact h1
  have ndP:ps.Nodup:=by rw[<-S.pre];exact S.nd.sublist (List.take_sublist _ _)
  refine⟨u,rv,?_⟩;rcases S.par y (List.mem_of_getElem? hp)with k|k
  ·exact .inl ⟨k,jA ndP hp hu k⟩
  ·obtain⟨c,e⟩:=kY (n:=s.heap.objs.size+1) k;refine .inr ⟨.inl k,c,e,?_⟩;have q:=x.cell y c e;rw[i8 ndP hp hu (by show scope.names.lookup y≠_;rw[k];decide)]at q;exact q
 ·exact e0.hok.fresh (Nat.le_of_lt (x.above y c (D3 h)))
 ·unfold du;show _=N.length;rw[C8,L8,List.length_replicate];omega
theorem yK{CX:CXT}{P:B9}{w:E6}{K:o0}{mg:Str->Option u8}{base:C5}{k:Nat}{f:A8}{name qual:Str}{params:Arguments}{body:List Q7}{scope:M9}{dV kV doc pm cdv ct oc:u8}{an od:Option A8}
  {osl:Array (Option u8)} {N ps:List Str} {sp:Sp} (lk:K.lookup f=some ⟨oc,od,.func (N5 name qual params body scope dV kV doc pm an cdv ct),osl⟩) (hcd:PySem.W.codeIn K cdv qual=true) (S:aB N ps scope)
  (len:∀vs H Q E,sp vs H Q E->vs.length=ps.length)
  (hbody:∀ (A:D7) (outer:List Env) (s:v0) (H:Hp) (vs:List V) (Q:VK) (E:XK),bY k (A.deeper (R6 qual scope s.heap.objs.size f cdv)) → sp vs H Q E →
   ∃t,PSs (jQ CX P w K mg base N qual scope f cdv A outer s H E) body t/\t { nx:=fun _ H'=>Q .non H',rt:=Q } (du N vs) H) :
  bw P w K mg base CX (k+1) f (N5 name qual params body scope dV kV doc pm an cdv ct) ps sp:=by
 refine⟨len,fun A outer s H args us vs Q E hr e0 hb r hsp=>?_⟩;have hl:=len _ _ _ _ hsp;have KX:K.In s.heap:=e0.mod.kin.keeps fun b o e=>(e0.bs b o e).1;have lim:s.heap.NoLimit:=e0.mod.nolimit.keeps fun b o e=>(e0.bs b o e).1;have hkind:∀y∈ps.zip us,scope.names.lookup y.1=some .local∨(scope.names.lookup y.1=some .cell/\((T7 (s.heap.objs.size+1) scope.names []).lookup y.1).isSome=true):=fun⟨n,v⟩ hy=>by
  rcases S.par n (List.of_mem_zip hy).1 with q|q
  ·exact .inl q
  ·exact .inr ⟨q,PySem.W.cellsFrom_some _ _ _ (.inl q)⟩
 refine codeAny_call_function hr.depth (KX _ _ lk) rfl S.co S.gen rfl (PySem.W.codeRec_of KX hcd) (hb _ _ _ _ ?_);refine wpAny_newFunctionEnv_cells S.kind hkind fun env he s1 x=>?_;subst he;refine⟨lim.keeps x.toInCall.keep,codeAny_func ?_⟩;obtain⟨t,ht,hq⟩:=hbody A outer s H vs Q E (hr.deeper _) hsp;have I:Inv (jQ CX P w K mg base N qual scope f cdv A outer s H E) [] (du N vs) H s1:=oD S hr.hd e0 hl r x;refine C9 (ht [] s1 (du N vs) H _ I hq) (fun fl s' hs=>?_) fun e s' hs=>hs;have fin:∀{σ':St} {H':Hp} {v:V} {u:u8},Inv (jQ CX P w K mg base N qual scope f cdv A outer s H E) [] σ' H' s'->ar v u->Q v H'->CE outer P w H s Q u s' :=
  fun {σ' H' v u} J rv q=>⟨v,H',J.os,J.bare,J.base,J.hok,rv,q⟩
 cases fl with
 |ret u =>
  obtain⟨v,σ',H',J,rv,q⟩:=hs;exact fin J rv q
 |next =>
  obtain⟨σ',H',J,q⟩:=hs;exact fin (v:=V.non) (u:=u8.none) J rfl q
 |brk =>
  obtain⟨_,_,_,q⟩:=hs;exact F7 q
 |cont =>
  obtain⟨_,_,_,q⟩:=hs;exact F7 q
section
variable{X:Cx}{x:Str}{p pos:Pos}{e:B4}{es:List B4}{t:TA}{id T:String}{r:List V->Hp->VK->Prop}
def tCB(r:List V->Hp->VK->Prop) (t:TA):TE:=fun σ H Q=>t σ H fun vs H1=>r vs H1 Q
theorem k8(hc:cv X (.builtin id) r) (hg:Gl X x) (hm:X.mg x=none) (hv:J4 x=some (.builtin id)) (ha:PA X (e::es) t) (hn:x≠"__name__":=by decide) (hdb:(x==("__debug__":Str))=false:=by decide)
  (he:B1 (e::es) X.env=(false,N6 e X.env)::B1 es X.env:=by rfl) (hpl:(L3 pos (B1 es X.env)).any (·.1)=false:=by rfl):PE X (.Call (.Name x p) (e::es) [] pos) (tCB r t):=by
 intro aa s σ H Q I h;refine wpAny_Call_Name_kw (c7 I hg hm hv ?_ hn hdb);exact PyProof.Rows.callWith_builtin1 (thn (ha pos aa s σ H _ I h) fun us s1 hup=>hup.el fun vs H1 I1 r1 q1=>hc aa s1 σ H1 vs us Q I1 r1 q1) he hpl
theorem pE(hc:cv X (.type T) r) (hg:Gl X x) (hm:X.mg x=none) (hv:J4 x=some (.type T)) (ha:PA X (e::es) t) (hn:x≠"__name__":=by decide) (hdb:(x==("__debug__":Str))=false:=by decide)
  (he:B1 (e::es) X.env=(false,N6 e X.env)::B1 es X.env:=by rfl) (hpl:(L3 pos (B1 es X.env)).any (·.1)=false:=by rfl):PE X (.Call (.Name x p) (e::es) [] pos) (tCB r t):=by
 intro aa s σ H Q I h;refine wpAny_Call_Name_kw (c7 I hg hm hv ?_ hn hdb);exact PyProof.Rows.callWith_type1 (thn (ha pos aa s σ H _ I h) fun us s1 hup=>hup.el fun vs H1 I1 r1 q1=>hc aa s1 σ H1 vs us Q I1 r1 q1) he hpl
end
end L2
namespace HT
open PySem PyProof.Rows
section
open PySem.SeqAt
open PySem.AutoSeq1 (wpAny_loadPart')
open PySem.MeetsSeq PySem.MeetsSeq2 PySem.MeetsSeq3
end
section
variable{prog:B9}{w:E6}{A:D7}{E:u8->v0->Prop}{s:v0}
theorem cat_tup{t b:A8}{vs ws:List u8}{Q:u8->v0->Prop}(ht:T9 s.heap t vs.toArray) (hb:T9 s.heap b ws.toArray) (hv:vs≠[])
  (h1:ws=[]->Q (.ref t) s) (h2:ws≠[]->Q (.ref s.heap.objs.size) { s with heap:=s.heap.push { cls:=.type "tuple",data:=.seq (vs++ws).toArray } })
  (hsz:vs.length+ws.length<=A0):B7 (B8 prog w) A (E4 .Add (.ref t) (.ref b)) Q E s:=by
 obtain⟨⟨cls,dd,data,sl⟩,ho,hc,n,hd⟩:=id ht;obtain⟨⟨cls2,dd2,data2,sl2⟩,ho2,hc2,n2,hd2⟩:=id hb;simp only at hc hd hc2 hd2;subst hc hd hc2 hd2;have e:vs.toArray++ws.toArray=(vs++ws).toArray:=by simp
 by_cases hw:ws=[]
 ·exact concat_meets ⟨_,ho,rfl⟩ ⟨_,ho2,rfl⟩ noFill_tuple_add seq_tuple_add PySem.F.slot_tuple_add PySem.F.entry_tuple_add (PySem.F.args_tuple_add_2 _ _)
   (tuple_addW1 t b vs.toArray ws.toArray n n2 dd dd2 sl sl2 (by simpa using hv) (by simp[hw])) ⟨ho,ho2,h1 hw⟩
 ·refine concat_meets ⟨_,ho,rfl⟩ ⟨_,ho2,rfl⟩ noFill_tuple_add seq_tuple_add PySem.F.slot_tuple_add PySem.F.entry_tuple_add (PySem.F.args_tuple_add_2 _ _)
   (tuple_addW2 t b vs.toArray ws.toArray n n2 dd dd2 sl sl2 (by simpa using hv) (by simpa using hw) (by rw[A3,A3];exact hsz)) ⟨ho,ho2,?_⟩
  rw[e];exact h2 hw
noncomputable def sIx(n d:Nat):Option Int->Nat
 |none=>d
 |some v=>if v<0 then(v+(n:Int)).toNat else min v.toNat n
theorem sIx_none(n d:Nat):sIx n d none=d:=rfl
theorem sIx_nat(n d k:Nat):sIx n d (some (k:Int))=min k n:=by
 show(if(k:Int)<0 then((k:Int)+(n:Int)).toNat else min (k:Int).toNat n)=min k n;rw[if_neg (by omega),Int.toNat_natCast]
theorem wU(n d:Nat) (hd:d<=n) (o:Option Int):sIx n d o<=n:=by
 cases o with
 |none=>exact hd
 |some v =>
  show(if v<0 then(v+(n:Int)).toNat else min v.toNat n)<=n
  by_cases hv:v<0
  ·rw[if_pos hv];omega
  ·rw[if_neg hv];exact Nat.min_le_right _ _
theorem oe(v:Int) (n d:Nat):(if v<0 then max (v+(n:Int)) 0 else min v (n:Int))=((sIx n d (some v):Nat):Int):=by
 show(if v<0 then max (v+(n:Int)) 0 else min v (n:Int))=(((if v<0 then(v+(n:Int)).toNat else min v.toNat n):Nat):Int)
 by_cases hv:v<0
 ·simp only[if_pos hv];omega
 ·simp only[if_neg hv];omega
theorem mU(lo hi:Option Int) (n:Nat):C6.Slice.sliceAdjust lo hi 1 (n:Int)=(((sIx n 0 lo:Nat):Int),((sIx n n hi:Nat):Int)):=by
 have h1:¬ ((1:Int)<0):=by omega
 unfold C6.Slice.sliceAdjust;simp only[h1,if_false];refine Prod.ext ?_ ?_
 ·cases lo with
  |none=>rfl
  |some v=>exact oe v n 0
 ·cases hi with
  |none=>rfl
  |some v=>exact oe v n n
theorem ng(i j:Nat):F5 (i:Int) (j:Int) 1=j-i:=by
 unfold F5;have h1:(1:Int) > 0:=by omega
 simp only[h1,if_true,Int.ediv_one]
 split<;>omega
theorem gQ{v:u8}{o:Option Int}{Q:Option Int->v0->Prop}(p:R7 v o) (h:Q o s):B7 (B8 prog w) A (C6.Slice.slicePartIndex v) Q E s:=by
 cases p with
 |none=>exact slicePart_none h
 |int i t=>exact slicePart_int h
theorem cM{sl:A8}{vl vu:u8}{lo hi:Option Int}{n:Nat}{Q:Int×Int×Nat->v0->Prop}(hs:s.heap.IsSliceOf sl vl vu .none) (pl:R7 vl lo) (pu:R7 vu hi)
  (h:Q (((sIx n 0 lo:Nat):Int),1,sIx n n hi-sIx n 0 lo) s):B7 (B8 prog w) A (C6.Slice.sliceApplied (.ref sl) (O9 (n:Int))) Q E s:=by
 obtain⟨os,hos,hcs,hds⟩:=id hs;unfold C6.Slice.sliceApplied C6.Slice.sliceFields;refine A5 (A5 (wpAny_field hos hds (x:=vl) rfl (A5 (wpAny_field hos hds (x:=vu) rfl (A5 (wpAny_field hos hds (x:=.none) rfl (A9 ?_)))))));refine A5 (slicePart_none ?_);show B7 _ _ (if((1:Int)==0)=true then _ else _) _ _ s;rw[if_neg (by decide)];refine A5 (gQ pl (A5 (gQ pu (A5 (A9 ?_)))));show B7 _ _ (match C6.Slice.sliceAdjust lo hi 1 (n:Int)with|(lo,hi)=>O9 (lo,(1:Int),F5 lo hi 1)) _ _ s;rw[mU lo hi n];show B7 _ _ (O9 (((sIx n 0 lo:Nat):Int),(1:Int),F5 ((sIx n 0 lo:Nat):Int) ((sIx n n hi:Nat):Int) 1)) _ _ s;rw[ng];exact A9 h
theorem rG(xs:Array u8) (i k:Nat):((N0 k).filterMap fun(m:Nat)=>xs[((i:Int)+(m:Int)*1).toNat]?).toArray=((xs.toList.drop i).take k).toArray:=by
 have e:(fun(m:Nat)=>xs[((i:Int)+(m:Int)*1).toNat]?)=fun m=>xs[i+m]?:=by
  funext m;have:((i:Int)+(m:Int)*1).toNat=i+m:=by omega
  rw[this]
 rw[e];have:=pick_run xs i k;rw[List.filterMap_map]at this;have e2:((fun x=>xs[x]?)∘fun x=>i+x)=fun m=>xs[i+m]?:=rfl;rw[e2]at this;rw[this]
theorem getItem_tuple_cut{t sl:A8}{items:Array u8}{vl vu:u8}{lo hi:Option Int}{Q:u8->v0->Prop}(ht:T9 s.heap t items) (hs:s.heap.IsSliceOf sl vl vu .none) (pl:R7 vl lo) (pu:R7 vu hi)
  (hw:¬ (sIx items.size 0 lo=0/\sIx items.size items.size hi=items.size))
  (h:Q (.ref s.heap.objs.size) { s with heap:=s.heap.push { cls:=.type "tuple",data:=.seq ((items.toList.drop (sIx items.size 0 lo)).take (sIx items.size items.size hi-sIx items.size 0 lo)).toArray } })
  (hsz:items.size<=A0):B7 (B8 prog w) A (P6 (.ref t) (.ref sl)) Q E s:=by
 have htake:sizeOk (.seq ((items.toList.drop (sIx items.size 0 lo)).take (sIx items.size items.size hi-sIx items.size 0 lo)).toArray):=by
  show((items.toList.drop (sIx items.size 0 lo)).take (sIx items.size items.size hi-sIx items.size 0 lo)).toArray.size<=A0;rw[A3,List.length_take,List.length_drop,K7];omega
 have hj:sIx items.size items.size hi<=items.size:=wU _ _ (B0 _) hi;obtain⟨os,hos,hcs,hds⟩:=id hs;have hTs:s.TypeIs (.ref sl) "slice":=⟨os,hos,hcs⟩;unfold P6
 try with_reducible refine wpAny_holding ?_
 first|refine A5 (A9 ?_)|skip
 refine A5 (wpAny_sequenceKey ht.typeIs (by decide) ?_);refine A5 (wpAny_callSpecial?_slot (name:=Str.ofString "__getitem__") ht.typeIs C2
  (wpAny_call_entry C2 ht.typeIs entry_tuple_getitem ?_ (args_tuple_getitem _ _)))
 show B7 _ _ (C6.Tuple.tupleItemsOf (.ref t) >>= _) _ _ s;refine A5 (tupleItemsOf_ ht ?_);refine A5 (wpAny_typeOf hTs ?_);rw[if_pos (by decide)];refine A5 (cM hs pl pu ?_);have hno:¬ ((((sIx items.size 0 lo:Nat):Int)==0&&(1:Int)==1&&(sIx items.size items.size hi-sIx items.size 0 lo)==items.size)=true):=by
  intro q;rw[C0,C0]at q;have q1:((sIx items.size 0 lo:Nat):Int)=0:=eq_of_beq q.1.1;have q2:sIx items.size items.size hi-sIx items.size 0 lo=items.size:=eq_of_beq q.2;exact hw ⟨by omega,by omega⟩
 show B7 _ _ (if(((sIx items.size 0 lo:Nat):Int)==0&&(1:Int)==1&&(sIx items.size items.size hi-sIx items.size 0 lo)==items.size)=true then _ else _) _ _ s;rw[if_neg hno,rG]
 first
  |exact A5 (m:=D0 _) (I0 (A9 ⟨_,rfl,A9 h⟩) htake)
  |exact A5 (m:=D0 _) (I0 (A5 (A9 (A9 ⟨_,rfl,A9 h⟩))) htake)
  |exact A5 (A5 (m:=D0 _) (I0 (A9 (A9 ⟨_,rfl,A9 h⟩)) htake))
  |exact A5 (A5 (m:=D0 _) (I0 (A9 ⟨_,rfl,A9 h⟩) htake))
end
end HT
namespace L2
open PySem PySem.Spec PyProof.Rows
abbrev TO:=St->Hp->(Option Int->Hp->Prop)->Prop
def PO(X:Cx) (e:Option B4) (t:TO):Prop :=
 ∀(aa:List (A8×Obj)) (s:v0) (σ:St) (H:Hp) (Q:Option Int->Hp->Prop),Inv X aa σ H s->t σ H Q ->
  B7 (B8 X.prog X.w) X.A (evalPart e X.env) (fun u s'=>∃o H',Inv X aa σ H' s'/\R7 u o/\Q o H') X.xe s
def sM:TO:=fun _ H Q=>Q none H
def zd(t:TE):TO:=fun σ H Q=>t σ H fun x H1=>∃i,x=.int i/\Q (some i) H1
section
variable{X:Cx}{e:B4}{te:TE}{lo hi:Option B4}{tl th:TO}{pos p2:Pos}
theorem uA:PO X none sM:=by
 intro aa s σ H Q I h;rw[evalPart_none];exact A9 ⟨none,H,I,.none,h⟩
theorem sC(h:PE X e te):PO X (some e) (zd te):=by
 intro aa s σ H Q I hw;rw[evalPart_some];refine thn (h aa s σ H _ I hw) fun u s1 hup=>hup.el fun x H1 I1 r1 q1=>?_;obtain⟨i,rfl,q⟩:=q1;obtain⟨t,rfl⟩:=r1;exact⟨some i,H1,I1,.int i t,q⟩
def SlR(X:Cx) (r:V->Option Int->Option Int->Hp->VK->Prop):Prop :=
 ∀(aa:List (A8×Obj)) (s:v0) (σ:St) (H:Hp) (x:V) (v vl vu:u8) (lo hi:Option Int) (sl:A8) (Q:VK),Inv X aa σ H s->ar x v->s.heap.IsSliceOf sl vl vu .none->R7 vl lo->R7 vu hi->r x lo hi H Q ->
  ∃T id,typeLookup (.type T) "__getitem__"=O9 (some (.builtin id))/\s.TypeIs v T/\B7 (B8 X.prog X.w) X.A (P6 v (.ref sl)) (EP X aa σ Q) X.xe s
theorem SlR.or{r r':V->Option Int->Option Int->Hp->VK->Prop}(h:SlR X r) (h':SlR X r'):SlR X (fun x lo hi H Q=>r x lo hi H Q∨r' x lo hi H Q):=by
 intro aa s σ H x v vl vu lo hi sl Q I rx hs pl pu q;rcases q with q|q
 ·exact h aa s σ H x v vl vu lo hi sl Q I rx hs pl pu q
 ·exact h' aa s σ H x v vl vu lo hi sl Q I rx hs pl pu q
def tSl(r:V->Option Int->Option Int->Hp->VK->Prop) (te:TE) (tl th:TO):TE:=fun σ H Q=>te σ H fun x H1=>tl σ H1 fun l H2=>th σ H2 fun u H3=>r x l u H3 Q
theorem rZ{r:V->Option Int->Option Int->Hp->VK->Prop}(hr:SlR X r) (he:PE X e te) (hl:PO X lo tl) (hu:PO X hi th):PE X (.Subscript e (.Slice lo hi none p2) pos) (tSl r te tl th):=by
 intro aa s σ H Q I h;refine Subscript_ (thn (he aa s σ H _ I h) fun v s1 hup=>hup.el fun x H1 I1 r1 q1=>?_);refine wpAny_Slice (thn (hl aa s1 σ H1 _ I1 q1) fun vl s2 ⟨l,H2,I2,pl,q2⟩=>thn (hu aa s2 σ H2 _ I2 q2) fun vu s3 ⟨u,H3,I3,pu,q3⟩=>?_);rw[evalPart_none];refine A9 ?_;have I4:Inv X aa σ H3 { s3 with heap:=s3.heap.push { cls:=.type "slice",data:=.fields #[vl,vu,.none] } }:=I3.kept (t':=s3.toks) fun b ob q=>A4 _ q;obtain⟨T,id,hT,ht,hg⟩:=hr aa { s3 with heap:=s3.heap.push { cls:=.type "slice",data:=.fields #[vl,vu,.none] } } σ H3 x v vl vu l u s3.heap.objs.size Q I4 r1 (C5.IsSliceOf.new ..) pl pu q3;show B7 (B8 X.prog X.w) X.A (subscriptTail e (.Slice lo hi none p2) v (.ref s3.heap.objs.size)) (EP X aa σ Q) X.xe { s3 with heap:=s3.heap.push { cls:=.type "slice",data:=.fields #[vl,vu,.none] } };exact tail_any (ops:=[.ref s3.heap.objs.size,v]) ht hT hg (by with_unfolding_all rfl)
def jD(xs:List V) (lo hi:Option Int):List V:=(xs.drop (HT.sIx xs.length 0 lo)).take (HT.sIx xs.length xs.length hi-HT.sIx xs.length 0 lo)
theorem gh(xs:List V) (lo hi:Option Int):(jD xs lo hi).length<=xs.length:=by
 unfold jD;rw[List.length_take,List.length_drop];omega
def AE(K:o0):V->Option Int->Option Int->Hp->VK->Prop:=fun x lo hi H Q=>∃a xs,x=.ref a/\SqT K H a xs /\
 ¬ (HT.sIx xs.length 0 lo=0/\HT.sIx xs.length xs.length hi=xs.length)/\∀p,H p=none->Q (.ref p) (upd H p (.tup (jD xs lo hi)))
theorem wY:SlR X (AE X.K):=by
 intro aa s σ H x v vl vu lo hi sl Q I rx hs pl pu h;obtain⟨a,xs,rfl,hx,hw,q⟩:=h;cases rx;obtain⟨its,r,ht,hz⟩:=I.tuple hx;have a7:its.toArray.size=xs.length:=by rw[A3];exact r.length.symm
 refine⟨"tuple",_,C2.lookup,ht.typeIs,?_⟩;refine HT.getItem_tuple_cut ht hs pl pu (by rw[a7];exact hw) ?_ (by rw[a7];exact hz);rw[a7];refine⟨.ref s.heap.objs.size,_,I.laid (t':=s.toks) (o:=.tup (jD xs lo hi)) (fun b ob q=>A4 _ q) (B0 _) ?_,rfl,q _ (I.hok.fresh (B0 _))⟩;exact⟨D2 (gh xs lo hi) hz,_,(r.drop (HT.sIx xs.length 0 lo)).take (HT.sIx xs.length xs.length hi-HT.sIx xs.length 0 lo),iF.new _ _⟩
def yU(K:o0):R2:=fun x y H Q=>∃a b xs ys,x=.ref a/\y=.ref b/\SqT K H a xs/\SqT K H b ys/\xs≠[]/\xs.length+ys.length<=A0 /\
 (ys=[]->Q (.ref a) H)/\(ys≠[]->∀p,H p=none->Q (.ref p) (upd H p (.tup (xs++ys))))
theorem ao.nil_iff{xs:List V}{us:List u8}(r:ao xs us):us=[]↔xs=[]:=by
 cases r with
 |nil=>simp
 |cons _ _=>simp
theorem tG:OpR X (E4 .Add) (yU X.K):=by
 intro aa s σ H x y v u Q I rx ry h;obtain⟨a,b,xs,ys,rfl,rfl,ha,hb,hx,hz,q1,q2⟩:=h;cases rx;cases ry;obtain⟨its,r1,p1,_⟩:=I.tuple ha;obtain⟨its2,r2,p2,_⟩:=I.tuple hb;refine HT.cat_tup p1 p2 (fun z=>hx (r1.nil_iff.mp z)) (fun z=>⟨.ref a,H,I,rfl,q1 (r2.nil_iff.mp z)⟩) (fun z=>?_) (by rw[<-r1.length,<-r2.length];exact hz);refine⟨.ref s.heap.objs.size,_,I.laid (t':=s.toks) (o:=.tup (xs++ys)) (fun b ob q=>A4 _ q) (B0 _) ?_,rfl,q2 (fun w=>z (r2.nil_iff.mpr w)) _ (I.hok.fresh (B0 _))⟩;exact⟨by rw[C8];exact hz,_,r1.append r2,iF.new _ _⟩
end
noncomputable def ixN(n:Nat) (i:Int):Option Nat:=if 0<=i then(if i<n then some i.toNat else none)else if -(n:Int)<=i then some (i+n).toNat else none
def atI{α:Type}(xs:List α) (i:Int):Option α:=(ixN xs.length i).bind fun j=>xs[j]?
theorem uD{n:Nat}{i:Int}{j:Nat}(h:ixN n i=some j):seqIndex? i n=some j/\j<n/\-(n:Int)<=i/\i<n:=by
 unfold ixN at h
 by_cases h0:0<=i
 ·rw[if_pos h0]at h
  by_cases h1:i<n
  ·rw[if_pos h1]at h;have e:i.toNat=j:=C1 h;exact⟨by rw[seqIndex_of h0 h1,e],by omega,by omega,h1⟩
  ·rw[if_neg h1]at h;cases h
 ·rw[if_neg h0]at h
  by_cases h1:-(n:Int)<=i
  ·rw[if_pos h1]at h;have e:(i+n).toNat=j:=C1 h;exact⟨by rw[seqIndex_neg (by omega) h1,e],by omega,h1,by omega⟩
  ·rw[if_neg h1]at h;cases h
theorem jX{α:Type}{xs:List α}{i:Int}{v:α}(h:atI xs i=some v):∃j,seqIndex? i xs.length=some j/\xs[j]?=some v/\j<xs.length/\-(xs.length:Int)<=i/\i<xs.length:=by
 unfold atI at h;cases e:ixN xs.length i with
 |none=>rw[e]at h;cases h
 |some j =>
  rw[e]at h;obtain⟨h1,h2,h3,h4⟩:=uD e;exact⟨j,h1,h,h2,h3,h4⟩
theorem aP{α:Type}{xs:List α}{j:Nat}{v:α}(h:xs[j]?=some v):atI xs (j:Int)=some v:=by
 have hj:j<xs.length:=(E7.mp h).1;have e:ixN xs.length (j:Int)=some j:=by
  unfold ixN;rw[if_pos (by omega),if_pos (by omega)];simp
 unfold atI;rw[e];exact h
def nA(b:B4):Prop:=∀o i,R1 b false o i=operate [o,i] (P6 o i)
def IxR(X:Cx) (r:R2):Prop :=
 ∀(value slice:B4) (aa:List (A8×Obj)) (s:v0) (σ:St) (H:Hp) (x y:V) (v u:u8) (Q:VK),Inv X aa σ H s->ar x v->ar y u->r x y H Q ->
  R1 slice false v u=operate [v,u] (P6 v u)->B7 (B8 X.prog X.w) X.A (subscriptTail value slice v u) (EP X aa σ Q) X.xe s
def MtR(X:Cx) (id:String) (r:V->List V->Hp->VK->Prop):Prop :=
 ∀(aa:List (A8×Obj)) (s:v0) (σ:St) (H:Hp) (x:V) (xs:List V) (v:u8) (us:List u8) (Q:VK),Inv X aa σ H s->ar x v->ao xs us->r x xs H Q ->
  B7 (B8 X.prog X.w) X.A (call (.builtin id) (v::us)) (EP X aa σ Q) X.xe s
section
variable{X:Cx}{a b:B4}{ta tb:TE}{pos:Pos}
theorem xM{r:R2}(hr:IxR X r) (ha:PE X a ta) (hb:PE X b tb) (hs:nA b):PE X (.Subscript a b pos) (tOp r ta tb):=by
 intro aa s σ H Q I h;exact Subscript_ (vG ha hb I h fun v u s2 x y H2 I2 rx ry q=>hr a b aa s2 σ H2 x y v u Q I2 rx ry q (hs _ _))
def An(K:o0):R2:=fun x y H Q=>∃p xs i v,x=.ref p/\y=.int i/\SqL K H p xs/\atI xs i=some v/\Q v H
def AC(K:o0):R2:=fun x y H Q=>∃p xs i v,x=.ref p/\y=.int i/\SqT K H p xs/\atI xs i=some v/\Q v H
def z5:R2:=fun x y H Q=>∃z i c,x=.str z/\y=.int i/\z.length<=A0/\atI z.cps.toList i=some c/\Q (.str ⟨#[c]⟩) H
theorem oo:IxR X (An X.K):=by
 intro value slice aa s σ H x y v u Q I rx ry h hs;obtain⟨p,xs,i,z,rfl,rfl,hq,he,q⟩:=h;cases rx;obtain⟨t,rfl⟩:=ry;obtain⟨its,r,pl,hz⟩:=I.list hq;obtain⟨j,h1,h2,h3,h4,h5⟩:=jX he;obtain⟨w,ew,rw'⟩:=r.get h2;have hl:=r.length;have hn:=gX;have fin:EP X aa σ Q w s:=⟨z,H,I,rw',q⟩
 by_cases h0:0<=i
 ·have hj:i.toNat=j:=by
   rw[seqIndex_of h0 h5]at h1;exact C1 h1
  exact item_listR pl.isList h0 (by omega) (by rw[hj];simpa using ew) fin hs
 ·have hj:(i+(its.toArray.size:Int)).toNat=j:=by
   rw[seqIndex_neg (by omega) h4]at h1;rw[A3,<-hl];exact C1 h1
  exact subscriptTail_builtinR (x:=w) pl.isList.typeIs slot_list_getitem.lookup
   (wpAny_getItem_list_neg (Q:=fun r s'=>r=w/\EP X aa σ Q r s') pl.isList (by omega) (by rw[A3]<;>omega) (by omega) (by rw[hj];simpa using ew) ⟨rfl,fin⟩) hs
theorem wR:IxR X (AC X.K):=by
 intro value slice aa s σ H x y v u Q I rx ry h hs;obtain⟨p,xs,i,z,rfl,rfl,hq,he,q⟩:=h;cases rx;obtain⟨t,rfl⟩:=ry;obtain⟨its,r,pl,hz⟩:=I.tuple hq;obtain⟨j,h1,h2,h3,h4,h5⟩:=jX he;obtain⟨w,ew,rw'⟩:=r.get h2;have hl:=r.length;have hn:=gX;have fin:EP X aa σ Q w s:=⟨z,H,I,rw',q⟩;exact subscriptTail_builtinR (x:=w) pl.typeIs slot_tuple_getitem.lookup
  (getItem_tuple (j:=j) (Q:=fun r s'=>r=w/\EP X aa σ Q r s') pl (by omega) (by omega) (by rw[A3,<-hl];exact h1) (by simpa using ew) ⟨rfl,fin⟩) hs
theorem vV:IxR X z5:=by
 intro value slice aa s σ H x y v u Q I rx ry h hs;obtain⟨z,i,c,rfl,rfl,hz,he,q⟩:=h;obtain⟨t,rfl⟩:=rx;obtain⟨t',rfl⟩:=ry;obtain⟨j,h1,h2,h3,h4,h5⟩:=jX he;have hl:z.cps.toList.length=z.length:=by simp[Str.length]
 rw[hl]at h1 h4 h5;have hn:=gX;exact tail_any (typeIs_str s z t) slot_str_getitem.lookup (getItem_str (c:=c) (by
  have e1:decide (i < -(2 ^ 63:Int))=false:=decide_eq_false (by omega);have e2:decide (i>=2 ^ 63)=false:=decide_eq_false (by omega);rw[e1,e2,Bool.or_false]) (by rw[h1];simpa using h2) ⟨.str ⟨#[c]⟩,H,I.tok _,⟨_,rfl⟩,q⟩) hs
theorem Inv.lst{aa:List (A8×Obj)}{σ:St}{H:Hp}{s:v0}{p:A8}{xs:List V}(I:Inv X aa σ H s) (h:H p=some (.lst xs)) :
  ∃(its:List u8) (n:Nat),ao xs its/\s.heap.get? p=some { cls:=.type "list",data:=.seq its.toArray n }/\xs.length<=A0:=by
 obtain⟨z,its,n,r,e⟩:=I.hok p _ h;exact⟨its,n,r,e,z⟩
theorem kf(lo hi:Option Int) (n:Nat):(N1 lo hi none n).1=((HT.sIx n 0 lo:Nat):Int)/\(N1 lo hi none n).2.1=((HT.sIx n n hi:Nat):Int)/\(N1 lo hi none n).2.2=1:=by
 refine⟨?_,?_,rfl⟩
 ·cases lo with
  |none=>simp[N1,HT.sIx]
  |some i =>
   simp only[N1,HT.sIx,Option.getD_none,show(1:Int) > 0 by decide,if_true]
   by_cases h:i<0
   ·simp only[h,if_true]<;>omega
   ·simp only[h,if_false]<;>omega
 ·cases hi with
  |none=>simp[N1,HT.sIx]
  |some i =>
   simp only[N1,HT.sIx,Option.getD_none,show(1:Int) > 0 by decide,if_true]
   by_cases h:i<0
   ·simp only[h,if_true]<;>omega
   ·simp only[h,if_false]<;>omega
theorem iT(its:List u8) (lo hi:Option Int):slicePick its.toArray lo hi none=((its.drop (HT.sIx its.length 0 lo)).take (HT.sIx its.length its.length hi-HT.sIx its.length 0 lo)).toArray:=by
 obtain⟨h1,h2,h3⟩:=kf lo hi its.toArray.size;unfold slicePick;rw[h1,h2,h3];simp only[sliceRange_one,pick_run,A3]<;>rfl
def Ae(K:o0):V->Option Int->Option Int->Hp->VK->Prop:=fun x lo hi H Q=>∃a xs,x=.ref a/\SqL K H a xs/\∀p,H p=none->Q (.ref p) (upd H p (.lst (jD xs lo hi)))
theorem sj:SlR X (Ae X.K):=by
 intro aa s σ H x v vl vu lo hi sl Q I rx hs pl pu h;obtain⟨a,xs,rfl,hx,q⟩:=h;cases rx;obtain⟨its,r,ht,hz⟩:=I.list hx;have a7:=r.length;refine⟨"list",_,slot_list_getitem.lookup,ht.isList.typeIs,?_⟩;refine wpAny_getItem_list_slice ht.isList hs pl pu .none (by simp) ?_ (by rw[A3]<;>omega);rw[iT,<-a7];refine⟨.ref s.heap.objs.size,_,I.laid (t':=s.toks) (o:=.lst (jD xs lo hi)) (fun b ob q=>A4 _ q) (B0 _) ?_,rfl,q _ (I.hok.fresh (B0 _))⟩;exact⟨D2 (gh xs lo hi) hz,_,0,(r.drop (HT.sIx xs.length 0 lo)).take (HT.sIx xs.length xs.length hi-HT.sIx xs.length 0 lo),B6 _ rfl⟩
def dJ:V->Bool
 |.non=>true
 |.bl _=>true
 |.int _=>true
 |.str _=>true
 |_=>false
noncomputable def eqV:V->V->Bool
 |.non,.non=>true
 |.bl a,.bl b=>a==b
 |.bl a,.int b=>(if a then 1 else 0)==b
 |.int a,.bl b=>a==(if b then 1 else 0)
 |.int a,.int b=>a==b
 |.str a,.str b=>a==b
 |_,_=>false
theorem wn{A:D7}{s:v0}{y x:V}{u v:u8}(ry:ar y u) (rx:ar x v) (fy:dJ y=true) (fx:dJ x=true):D5 A s u v (eqV y x):=by
 cases y with
 |non =>
  cases ry;cases x with
  |non=>cases rx;exact D5.same _
  |bl b=>cases rx;exact D5.none_bool b
  |int b=>obtain⟨t,rfl⟩:=rx;exact D5.none_int b t
  |str b=>obtain⟨t,rfl⟩:=rx;exact D5.none_str b t
  |_=>exact absurd (show false=true from fx) C7
 |bl a =>
  cases ry;cases x with
  |non=>cases rx;exact D5.bool_none a
  |bl b=>cases rx;exact D5.bool_bool a b
  |int b=>obtain⟨t,rfl⟩:=rx;exact D5.bool_int a b t
  |str b=>obtain⟨t,rfl⟩:=rx;exact D5.bool_str a b t
  |_=>exact absurd (show false=true from fx) C7
 |int a =>
  obtain⟨t',rfl⟩:=ry;cases x with
  |non=>cases rx;exact D5.int_none a t'
  |bl b=>cases rx;exact D5.int_bool a t' b
  |int b=>obtain⟨t,rfl⟩:=rx;exact D5.int_int a t' b t
  |str b=>obtain⟨t,rfl⟩:=rx;exact D5.int_str a t' b t
  |_=>exact absurd (show false=true from fx) C7
 |str a =>
  obtain⟨t',rfl⟩:=ry;cases x with
  |non=>cases rx;exact D5.str_none a t'
  |bl b=>cases rx;exact D5.str_bool a t' b
  |int b=>obtain⟨t,rfl⟩:=rx;exact D5.str_int a t' b t
  |str b=>obtain⟨t,rfl⟩:=rx;exact D5.str_str a t' b t
  |_=>exact absurd (show false=true from fx) C7
 |_=>exact absurd (show false=true from fy) C7
def eqU(x:V) (u:u8):Bool:=match u with
 |.none=>eqV .non x
 |.bool b=>eqV (.bl b) x
 |.int i _=>eqV (.int i) x
 |.str z _=>eqV (.str z) x
 |_=>false
theorem p6{x y:V}{u:u8}(r:ar y u) (f:dJ y=true):eqU x u=eqV y x:=by
 cases y with
 |non=>cases r;rfl
 |bl b=>cases r;rfl
 |int i=>obtain⟨t,rfl⟩:=r;rfl
 |str z=>obtain⟨t,rfl⟩:=r;rfl
 |_=>exact absurd (show false=true from f) C7
theorem fi{x:V}:∀{xs:List V}{us:List u8},ao xs us->xs.all dJ=true->us.any (eqU x)=xs.any fun y=>eqV y x
 |_,_,.nil,_=>rfl
 |y::xs,u::us,.cons r t,f=>by
  rw[L9,C0]at f;rw[E8,E8,p6 r f.1,fi t f.2]
theorem dE{A:D7}{s:v0}{x:V}{v:u8}(rx:ar x v) (fx:dJ x=true):∀{xs:List V}{us:List u8},ao xs us->xs.all dJ=true->∀u∈us,D5 A s u v (eqU x u)
 |_,_,.nil,_=>fun u hu=>by cases hu
 |y::xs,u::us,.cons r t,f=>fun u' hu=>by
  rw[L9,C0]at f;rcases K3.mp hu with rfl|hu
  ·rw[p6 r f.1];exact wn r rx f.1 fx
  ·exact dE rx fx t f.2 u' hu
def inV(x:V) (xs:List V):Bool:=xs.any fun y=>eqV y x
def rIn(K:o0) (neg:Bool):R2:=fun x y H Q=>∃p xs,y=.ref p/\(SqL K H p xs∨SqT K H p xs)/\dJ x=true/\xs.all dJ=true/\Q (.bl (if neg then !inV x xs else inV x xs)) H
theorem oz:OpR X (E2 .In) (rIn X.K false):=by
 intro aa s σ H x y v u Q I rx ry h;obtain⟨p,xs,rfl,hq,fx,fs,q⟩:=h;cases ry;rcases hq with hq|hq
 ·obtain⟨its,r,pl,hz⟩:=I.list hq;refine SeqAt.in_listAt (eqU x) pl.isList (fun w hw=>dE rx fx r fs w (by simpa using hw)) ⟨.bl _,H,I,rfl,?_⟩;rw[show its.toArray.any (eqU x)=its.any (eqU x)by simp,fi r fs];exact q
 ·obtain⟨its,r,pl,hz⟩:=I.tuple hq;refine SeqAt.in_tupleAt (eqU x) pl (fun w hw=>dE rx fx r fs w (by simpa using hw)) ⟨.bl _,H,I,rfl,?_⟩;rw[show its.toArray.any (eqU x)=its.any (eqU x)by simp,fi r fs];exact q
theorem ka:OpR X (E2 .NotIn) (rIn X.K true):=by
 intro aa s σ H x y v u Q I rx ry h;obtain⟨p,xs,rfl,hq,fx,fs,q⟩:=h;cases ry;rcases hq with hq|hq
 ·obtain⟨its,r,pl,hz⟩:=I.list hq;refine SeqAt.notIn_listAt (eqU x) pl.isList (fun w hw=>dE rx fx r fs w (by simpa using hw)) ⟨.bl _,H,I,rfl,?_⟩;rw[show its.toArray.any (eqU x)=its.any (eqU x)by simp,fi r fs];exact q
 ·obtain⟨its,r,pl,hz⟩:=I.tuple hq;refine SeqAt.notIn_tupleAt (eqU x) pl (fun w hw=>dE rx fx r fs w (by simpa using hw)) ⟨.bl _,H,I,rfl,?_⟩;rw[show its.toArray.any (eqU x)=its.any (eqU x)by simp,fi r fs];exact q
theorem jT:cv X (.builtin "len") (fun xs H Q=>∃p ys,xs=[.ref p]/\(SqL X.K H p ys∨SqT X.K H p ys)/\Q (.int ys.length) H):=by
 intro aa s σ H xs us Q I r h;obtain⟨p,ys,rfl,hq,q⟩:=h;obtain⟨u,rfl,rx⟩:=nK r;cases rx;have hn:=gX;rcases hq with hq|hq
 ·obtain⟨its,r',pl,hz⟩:=I.list hq;have a7:=r'.length;exact Calls.call_len_list pl.isList (by simp only[A3]<;>omega) ⟨.int ys.length,H,I.tok _,⟨s.toks+1,by rw[A3,a7]⟩,q⟩
 ·obtain⟨its,r',pl,hz⟩:=I.tuple hq;have a7:=r'.length;exact len_tuple pl (by simp only[A3]<;>omega) ⟨.int ys.length,H,I.tok _,⟨s.toks+1,by rw[A3,a7]⟩,q⟩
theorem j5:cv X (.builtin "len") (fun xs H Q=>∃z,xs=[.str z]/\z.length<=A0/\Q (.int z.length) H):=by
 intro aa s σ H xs us Q I r h;obtain⟨z,rfl,hz,q⟩:=h;obtain⟨u,rfl,t,rfl⟩:=nK r;have hn:=gX;exact len_str (by omega) ⟨.int z.length,H,I.tok _,⟨_,rfl⟩,q⟩
theorem cv.or{f:u8}{r r':List V->Hp->VK->Prop}(h:cv X f r) (h':cv X f r'):cv X f (fun xs H Q=>r xs H Q∨r' xs H Q):=by
 intro aa s σ H xs us Q I rs q;rcases q with q|q
 ·exact h aa s σ H xs us Q I rs q
 ·exact h' aa s σ H xs us Q I rs q
theorem jS:cv X (.type "list") (fun xs H Q=>∃p ys,xs=[.ref p]/\(SqL X.K H p ys∨SqT X.K H p ys)/\∀l,H l=none->Q (.ref l) (upd H l (.lst ys))):=by
 intro aa s σ H xs us Q I r h;obtain⟨p,ys,rfl,hq,q⟩:=h;obtain⟨u,rfl,rx⟩:=nK r;cases rx;have fin:∀(its:List u8),ao ys its->ys.length<=A0->∀(h':C5) (c':Nat),(∀b o',s.heap.get? b=some o'->h'.get? b=some o') ->
   h'.get? s.heap.objs.size=some { cls:=.type "list",dict:=none,data:=.seq its.toArray c',slots:=#[] }->EP X aa σ Q (.ref s.heap.objs.size) { s with heap:=h' }:=fun its r' hz h' c' kp e =>
  ⟨.ref s.heap.objs.size,_,I.laid (t':=s.toks) kp (B0 _) (show bf X.prog X.w _ h' _ (.lst ys)from⟨hz,its,c',r',e⟩),rfl,q _ (I.hok.fresh (B0 _))⟩
 rcases hq with hq|hq
 ·obtain⟨its,r',pl,hz⟩:=I.list hq;have a7:=r'.length;obtain⟨o,ho,hc,n,hd⟩:=pl.isList;exact call_list_seq p (.inl rfl) ho hc hd (fun h' c' kp e=>fin its r' hz h' c' kp e) (by simp only[A3]<;>omega)
 ·obtain⟨its,r',pl,hz⟩:=I.tuple hq;have a7:=r'.length;obtain⟨o,ho,hc,n,hd⟩:=pl;exact call_list_seq p (.inr rfl) ho hc hd (fun h' c' kp e=>fin its r' hz h' c' kp e) (by simp only[A3]<;>omega)
theorem iS:cv X (.type "tuple") (fun xs H Q=>∃p ys,xs=[.ref p]/\((SqL X.K H p ys/\∀l,H l=none->Q (.ref l) (upd H l (.tup ys)))∨(SqT X.K H p ys/\Q (.ref p) H))):=by
 intro aa s σ H xs us Q I r h;obtain⟨p,ys,rfl,h⟩:=h;obtain⟨u,rfl,rx⟩:=nK r;cases rx;rcases h with⟨hq,q⟩|⟨hq,q⟩
 ·obtain⟨its,r',pl,hz⟩:=I.list hq;have a7:=r'.length;refine call_tuple_list pl.isList (fun h' kp=>?_) (by simp only[A3]<;>omega);have I1:Inv X aa σ H { s with heap:=h' }:=I.kept (t':=s.toks) kp;have I2:Inv X aa σ (upd H h'.objs.size (.tup ys)) { s with heap:=h'.push { cls:=.type "tuple",data:=.seq its.toArray } } :=
   I1.laid (t':=s.toks) (fun b o e=>A4 _ e) (B0 _) (show bf X.prog X.w _ _ _ (.tup ys)from⟨hz,its,r',iF.new _ _⟩)
  exact⟨.ref h'.objs.size,_,I2,rfl,q _ (I1.hok.fresh (B0 _))⟩
 ·obtain⟨its,r',pl,hz⟩:=I.tuple hq;exact call_tuple_same pl ⟨.ref p,H,I,rfl,q⟩
def tyV(K:o0) (T:String) (x:V) (H:Hp):Prop:=match x with
 |.str _=>T="str"
 |.int _=>T="int"
 | .ref p => (T = "list" ∧ ∃ xs,SqL K H p xs) ∨ (T = "tuple" ∧ ∃ o,K.lookup p = some o ∧ o.cls = .type "tuple" ∧ o.dict = none) ∨
   (T="dict"/\((∃kvs,H p=some (.dK kvs))∨∃kvs,H p=some (.dT kvs)))∨(T="set"/\∃S n,H p=some (.set S n))
 |_=>False
theorem w6{aa:List (A8×Obj)}{σ:St}{H:Hp}{s:v0}{T:String}{x:V}{v:u8}(I:Inv X aa σ H s) (r:ar x v) (ty:tyV X.K T x H) :
  s.TypeIs v T/\∀a,v=.ref a->∃ob,s.heap.get? a=some ob/\ob.dict=none:=by
 cases x with
 |str z =>
  obtain⟨t,rfl⟩:=r;cases(show T="str" from ty);exact⟨typeIs_str s z t,fun _ e=>nomatch e⟩
 |int i =>
  obtain⟨t,rfl⟩:=r;cases(show T="int" from ty);exact⟨Q8 s i t,fun _ e=>nomatch e⟩
 |ref p =>
  cases r;rcases ty with⟨rfl,xs,hq⟩|⟨rfl,o,hk,hc,hd⟩|⟨rfl,hk⟩|⟨rfl,S,n,hk⟩
  ·obtain⟨its,_,pl,_⟩:=I.list hq;refine⟨pl.isList.typeIs,fun a e=>?_⟩;cases e;obtain⟨o,n,e,c,hd,_⟩:=pl;exact⟨o,e,hd⟩
  ·refine⟨⟨o,I.kIn p o hk,hc⟩,fun a e=>?_⟩;cases e;exact⟨o,I.kIn _ o hk,hd⟩
  ·have z:∃o,s.heap.get? p=some o/\o.ExactDict:=by
    rcases hk with⟨kvs,hk⟩|⟨kvs,hk⟩
    ·obtain⟨_,_,_,_,o,_,_,e,ex,_⟩:=I.hok p _ hk;exact⟨o,e,ex⟩
    ·obtain⟨_,_,_,_,o,_,_,e,ex,_⟩:=I.hok p _ hk;exact⟨o,e,ex⟩
   obtain⟨o,e,ex⟩:=z;refine⟨⟨o,e,ex.1⟩,fun a e2=>?_⟩;cases e2;exact⟨o,e,ex.2.1⟩
  ·obtain⟨o,_,_,_,e,ex,_⟩:=I.hok p _ hk;refine⟨⟨o,e,ex.1⟩,fun a e2=>?_⟩;cases e2;exact⟨o,e,ex.2.1⟩
 |_=>exact F7 ty
def tBM(K:o0) (T:String) (r:V->List V->Hp->VK->Prop) (to:TE) (t:TA):TE:=fun σ H Q=>to σ H fun x H1=>tyV K T x H1/\t σ H1 fun xs H2=>r x xs H2 Q
variable{o e:B4}{es:List B4}{to:TE}{t:TA}{name:Str}{fw bI:Pos}{T id:String}{r:V->List V->Hp->VK->Prop}
theorem vp(pa:PlainAttrs T) (slot:Slot T name id) (hty:typeOf (.builtin id)=O9 (.type "method_descriptor")) (hm:MtR X id r) (ho:PE X o to) (ha:PA X (e::es) t)
  (lw:P7 o name X.env (N6 o X.env)=N6 o X.env:=by rfl)
  (qr:((L3 bI (B1 (e :: es) X.env)).all (fun x => !x.1) && (backToKw bI (R3 [] X.env)).all (fun x => x.1.isSome)
  &&decide ((e::es).length+([]:List Q3).length+(if([]:List Q3).isEmpty then 0 else 1)<30))=true:=by rfl)
  (lF:(fw.endLine==bI.line)=true:=by rfl) (hs:B1 (e::es) X.env=(false,N6 e X.env)::B1 es X.env:=by rfl) (ig:(L3 bI (B1 es X.env)).any (·.1)=false:=by rfl) :
  PE X (.Call (.Attribute o name fw) (e::es) [] bI) (tBM X.K T r to t):=by
 intro aa s σ H Q I h;refine wpAny_Call_method_late lw qr lF rfl (thn (ho aa s σ H _ I h) fun v s1 ⟨x,H1,I1,r1,ty,q1⟩=>?_);obtain⟨h1,h2⟩:=w6 I1 r1 ty;refine⟨T,id,pa,slot,hty,h1,h2,?_⟩;have hA:=ha bI aa s1 σ H1 _ I1 q1;rw[hs]at hA ⊢;refine Calls.callWith_builtin (by show(false || (L3 bI (B1 es X.env)).any (·.1))=false;rw[ig]<;>rfl) (Calls.evalArgs_plain ?_);exact thn hA fun us s2 hup=>hup.el fun vs H2 I2 r2 q2=>hm aa s2 σ H2 x vs v us Q I2 r1 r2 q2
end
def MtM(X:Cx) (id:String) (r:V->List V->Hp->VK->Prop):Prop :=
 ∀(aa:List (A8×Obj)) (s:v0) (σ:St) (H:Hp) (x:V) (xs:List V) (v:u8) (us:List u8) (Q:VK),Inv X aa σ H s->ar x v->ao xs us->r x xs H Q ->
  B7 (B8 X.prog X.w) X.A (call (.builtin id) (v::us)) (EP X aa σ Q) X.xe s
theorem ao.un{x:V}{xs:List V}{us:List u8}(h:ao (x::xs) us):∃u vs,us=u::vs/\ar x u/\ao xs vs:=by
 cases h with
 |cons r t=>exact⟨_,_,rfl,r,t⟩
theorem ao.one{x:V}{us:List u8}(h:ao [x] us):∃u,us=[u]/\ar x u:=by
 obtain⟨u,vs,rfl,r,t⟩:=h.un;cases t;exact⟨u,rfl,r⟩
theorem ao.two{x y:V}{us:List u8}(h:ao [x,y] us):∃u v,us=[u,v]/\ar x u/\ar y v:=by
 obtain⟨u,vs,rfl,r,t⟩:=h.un;obtain⟨v,rfl,q⟩:=t.one;exact⟨u,v,rfl,r,q⟩
theorem ao.rep{xs:List V}{us:List u8}(h:ao xs us):∀k:Nat,ao (A7 k xs).flatten (A7 k us).flatten
 |0=>.nil
 |k+1=>by
  rw[E5,E5,J0,J0];exact ao.append h (ao.rep h k)
theorem fQ(its:List u8):∀(k:Nat) (acc:List u8),
  R9 (fun x1 x2=>x1++x2) acc.toArray (A7 k its.toArray)=(acc++(A7 k its).flatten).toArray
 |0,acc=>by simp
 |k+1,acc=>by
  have e:acc.toArray++its.toArray=(acc++its).toArray:=by simp
  have e2:(acc++its)++(A7 k its).flatten=acc++(A7 (k+1) its).flatten:=by
   rw[E5,J0,List.append_assoc]
  rw[<-e2,<-fQ its k (acc++its),<-e,E5,List.foldl_cons]
section
variable{X:Cx}{aa:List (A8×Obj)}{σ:St}{H:Hp}{s:v0}{l b:A8}{xs ys zs:List V}
theorem Inv.lset{its its':List u8}{n:Nat}{f:Array u8->Array u8}{t':Nat}(I:Inv X aa σ H s) (hH:H l=some (.lst xs))
  (e:s.heap.get? l=some { cls:=.type "list",data:=.seq its.toArray n }) (hf:f its.toArray=its'.toArray) (hv:ao ys its') (hz:ys.length<=A0) :
  Inv X aa σ (upd H l (.lst ys)) { s with heap:=s.heap.update l (Obj.mapSeq f),toks:=t' }:=by
 have q:=PySem.IsL.update e f;rw[hf]at q;refine I.write (x:=l) (e:=l) (by rw[hH];exact trivial) (.inl rfl) (fun b' u hb hu=>(C5.get?_update_other s.heap (Obj.mapSeq f) (R8 hb)).trans hu) ⟨_,q⟩ ?_;exact⟨hz,its',_,hv,q⟩
theorem Inv.lnew{its:List u8}{t':Nat}(I:Inv X aa σ H s) (hv:ao ys its) (hz:ys.length<=A0) :
  Inv X aa σ (upd H s.heap.objs.size (.lst ys)) { s with heap:=s.heap.push { cls:=.type "list",data:=.seq its.toArray },toks:=t' } :=
 I.laid (fun _ _ q=>A4 _ q) (B0 _) ⟨hz,its,0,hv,B6 _ rfl⟩
theorem Inv.fresh(I:Inv X aa σ H s):H s.heap.objs.size=none:=I.hok.fresh (B0 _)
theorem Inv.lstM(I:Inv X aa σ H s) (hH:H l=some (.lst xs)):xs.length<=A0/\∃(its:List u8) (n:Nat),ao xs its/\xs.length=its.length/\s.heap.get? l=some { cls:=.type "list",data:=.seq its.toArray n }:=by
 obtain⟨z,its,n,r,e⟩:=I.hok l _ hH;exact⟨z,its,n,r,r.length,e⟩
theorem kK{n:Nat}(h:n<=A0):J1 n=false:=by
 unfold J1;exact decide_eq_false (by omega)
end
section
variable{X:Cx}
def nt:V->List V->Hp->VK->Prop:=fun x vs H Q=>∃l xs y,x=.ref l/\vs=[y]/\H l=some (.lst xs)/\xs.length<A0/\Q .non (upd H l (.lst (xs++[y])))
theorem oR:MtM X "list.append" nt:=by
 intro aa s σ H x vs v us Q I rx rv h;obtain⟨l,xs,y,rfl,rfl,hH,hz,q⟩:=h;cases rx;obtain⟨u,rfl,ru⟩:=rv.one;obtain⟨z,its,n,r,hl,e⟩:=I.lstM hH;refine P2 F.slot_list_append ⟨_,e,rfl⟩ F.entry_list_append (F.args_list_append_2 _ _) (PySem.list_append l its.toArray n u (by rw[A3];omega)) ⟨e,?_⟩;refine⟨.non,_,I.lset (its':=its++[u]) hH e (by simp) (r.append (.cons ru .nil)) ?_,rfl,q⟩;rw[C8,List.length_singleton];omega
def om:V->List V->Hp->VK->Prop:=fun x vs H Q=>∃l b xs zs,x=.ref l/\vs=[.ref b]/\H l=some (.lst xs)/\H b=some (.lst zs)/\xs.length+zs.length<=A0/\Q .non (upd H l (.lst (xs++zs)))
theorem pF:MtM X "list.extend" om:=by
 intro aa s σ H x vs v us Q I rx rv h;obtain⟨l,b,xs,zs,rfl,rfl,hH,hB,hz,q⟩:=h;cases rx;obtain⟨u,rfl,ru⟩:=rv.one;cases ru;obtain⟨z,its,n,r,hl,e⟩:=I.lstM hH;obtain⟨z2,its2,n2,r2,hl2,e2⟩:=I.lstM hB;have hsz:its.toArray.size+its2.toArray.size<=A0:=by rw[A3,A3];omega
 have hlong:¬ (!its.toArray.isEmpty&&J1 (its.toArray.size+its2.toArray.size))=true:=by
  rw[kK hsz,Bool.and_false];exact C7
 refine P2 F.slot_list_extend ⟨_,e,rfl⟩ F.entry_list_extend (F.args_list_extend_2 _ _)
  (AutoSeq1.list_extend_list_list_0 l its.toArray n b its2.toArray n2 hlong (by rw[A3];omega) (by omega)) ⟨e,e2,?_⟩
 refine⟨.non,_,I.lset (its':=its++its2) hH e (by simp) (r.append r2) ?_,rfl,q⟩;rw[C8];omega
def Al:R2:=fun x y H Q=>∃l b xs zs,x=.ref l/\y=.ref b/\H l=some (.lst xs)/\H b=some (.lst zs)/\xs.length+zs.length<=A0/\∀p,H p=none->Q (.ref p) (upd H p (.lst (xs++zs)))
theorem wd:OpR X (E4 .Add) Al:=by
 intro aa s σ H x y v u Q I rx ry h;obtain⟨l,b,xs,zs,rfl,rfl,hH,hB,hz,q⟩:=h;cases rx;cases ry;obtain⟨z,its,n,r,hl,e⟩:=I.lstM hH;obtain⟨z2,its2,n2,r2,hl2,e2⟩:=I.lstM hB;refine PySem.P.add_list e e2 ?_ (by rw[A3,A3];omega);have ea:its.toArray++its2.toArray=(its++its2).toArray:=by simp
 rw[ea];exact⟨.ref _,_,I.lnew (t':=s.toks) (r.append r2) (by rw[C8];omega),rfl,q _ I.fresh⟩
def Ai:R2:=fun x y H Q=>∃l k xs,x=.ref l/\y=.int k/\H l=some (.lst xs)/\-(2 ^ 63)<=k/\k<2 ^ 63/\xs.length*k.toNat<=A0 /\
 ∀p,H p=none->Q (.ref p) (upd H p (.lst (A7 k.toNat xs).flatten))
theorem kE{α:Type}(xs:List α) (k:Nat):(A7 k xs).flatten.length=k*xs.length:=by
 induction k with
 |zero=>simp
 |succ k ih=>rw[E5,J0,C8,ih,Nat.succ_mul,Nat.add_comm]
theorem wk:OpR X (E4 .Mult) Ai:=by
 intro aa s σ H x y v u Q I rx ry h;obtain⟨l,k,xs,rfl,rfl,hH,h1,h2,hz,q⟩:=h;cases rx;obtain⟨t,rfl⟩:=ry;obtain⟨z,its,n,r,hl,e⟩:=I.lstM hH;have a7:its.toArray.size*k.toNat<=A0:=by rw[A3,<-hl];exact hz
 have hcap:¬ its.toArray.size*k.toNat > (2 ^ 63-1) / 8:=by
  have:(A0:Nat)<=(2 ^ 63-1) / 8:=by decide
  omega
 have hfit:¬ (!Builtin.List.listFitsIndex k)=true:=by
  rw[fitsIndex_both h1 h2];exact C7
 have hlong:¬ J1 (its.toArray.size*k.toNat)=true:=by
  rw[kK a7];exact C7
 have hnew:R9 (fun x1 x2=>x1++x2) #[] (A7 (if its.toArray.isEmpty=true then 0 else k.toNat) its.toArray)=(A7 k.toNat its).flatten.toArray:=by
  have f0:∀m:Nat,R9 (fun x1 x2=>x1++x2) #[] (A7 m its.toArray)=(A7 m its).flatten.toArray:=fun m=>by
   have:=fQ its m [];rw[List.nil_append]at this;exact this
  rw[f0];cases its with
  |nil=>simp
  |cons a r'=>rw[if_neg (by simp)]
 refine wpAny_binaryOp_repeat_ref (T:="list") (U:="int") (by decide) ⟨_,e,rfl⟩ (fun s'=>Q8 s' k t) noFill_list_mul F.fills_int_mul O4 repeat_list F.slot_int_index.lookup
  (P2 O4 (Q8 s k t) F.entry_int_rmul (F.args_int_rmul_2 _ _) (int___rmul___int_list k t l its.toArray n)
   ⟨e,rfl,⟨_,e,rfl⟩,P2 F.slot_list_mul ⟨_,e,rfl⟩ F.entry_list_mul (F.args_list_mul_2 _ _) (AutoListH.list___mul___list_int_3 l its.toArray n k t hfit hcap hlong) ⟨e,?_⟩⟩)
 rw[hnew];exact⟨.ref _,_,I.lnew (t':=s.toks) (r.rep k.toNat) (by rw[kE,Nat.mul_comm];exact hz),rfl,q _ I.fresh⟩
end
end L2
namespace Att
open PySem PySem.W PySem.Calls PyProof.Rows
theorem gk{P:Params}{h:C5}:∀(ns:List Int) (vs:List u8),WellAll P h vs (ns.map WData.int)->IntsAre vs ns:=by
 intro ns
 induction ns with
 |nil =>
  intro vs w;rw[List.map_nil]at w;cases w;exact .nil
 |cons n ns ih =>
  intro vs w;rw[D6]at w;cases w with
  |cons a b =>
   cases a;exact .cons _ _ (ih _ b)
theorem pq{l:OpenLaw}{n:Nat}(hn:l.most=some n) {P:Params}{h:C5}{args:List WData}{vals:List u8}
  (hpre:l.row.toRowW.claim.pre args=true) (hwl:WellAll P h vals args) :
  ∃a vs ns,vals=[P9 a]/\args=[WData.list (ns.map WData.int)]/\h.get? a=some { cls:=.type "list",data:=.seq vs.toArray }/\IntsAre vs ns/\ns.length<=n:=by
 have hsh:WShape.hasAll [] args [.list .int]=true:=(pre_splitW hpre).1;have hc:l.pre.holds [] { args:=args }=true:=(pre_splitW hpre).2;obtain⟨d,r,rfl,h1,h2⟩:=hasAllW_cons hsh;obtain rfl:=hasAllW_nil h2;obtain⟨xs,rfl,h3⟩:=hasW_list h1;obtain⟨ns,rfl⟩:=items_int h3;have a7:ns.length<=n:=by
  unfold OpenLaw.pre at hc;have h4:(WTm.not (.lt (.lit (.int (n:Int))) (.len (.arg 0)))).holds [] { args:=[.list (ns.map .int)] }=true:=by
   have h4:=(holds_andW hc).1;rw[hn]at h4;exact h4
  have h5:=condW_of h4 (w_not (w_lt w_lit (w_len_list (w_arg rfl))));rw[L8]at h5;refine Nat.le_of_not_lt fun q=>?_;have q':(n:Int)<((ns.length:Nat):Int):=by omega
  first
   |(rw[decide_eq_true q']at h5;exact absurd h5 (by decide))
   |(simp at h5;omega)
 cases hwl with
 |cons w1 w2 =>
  cases w2;cases w1 with
  |list ho hall=>exact⟨_,_,ns,rfl,rfl,ho,gk ns _ hall,a7⟩
theorem oY(l:OpenLaw) (args:List WData):l.row.toRowW.claim.post args (.bool true) args=true :=
 postW_of (r:=l.row.toRowW) (X:=(true==true))
  (show WShape.has [] (.bool true) .bool=true by first|rfl|decide|simp[WShape.has,WShape.arms,WShape.armsAll])
  (show(WTm.eq .res (.lit (.bool true))).value [] { args:=args,res:=some (.bool true),after:=args }=some (.bool (true==true))from w_eq_bool (w_res rfl) w_lit) rfl
theorem attach_call{l:OpenLaw}{n:Nat}{q:B9}{loose:List Str}{XP:(Str->Option u8)->C5->Prop}{YP:E6->C5->Prop}{d:DefRec}
  (hn:l.most=some n) (hdf:d.params.defaults=[])
  (call:∀ (w:E6) (s₀ s₁:v0) (mg mb:Str → Option u8) (fa:A8) (o:Obj) (pm cd doc:u8) (a:A8) (vs:List u8) (ns:List Int),
   Ground q loose [] XP w s₀ mg mb s₁.heap->YP w s₁.heap ->
   s₁.heap.get? fa=some o->o.data=.func (docDef d.name d.params d.body d.scope pm cd doc)->s₁.heap.CodeRec cd d.name->mg d.name=some (.ref fa) ->
   s₁.heap.get? a=some { cls:=.type "list",data:=.seq vs.toArray }->IntsAre vs ns->ns.length<=n->s₁.gens=#[] ->
   O2 (B8 l.prog w) R4 (.call (.ref fa) ⟨[.ref a],[]⟩) (fun r s'=>r=.ok (.ret (.bool true))/\OldK s₁.heap s'.heap/\s'.os=s₁.os/\P4 s'.gens) s₁) :
  WalkO q loose XP YP l.row.toRowW d [] (fun f vs=>PySem.call f vs):=by
 intro w s₀ s₁ mg mb G Y fa o pm cd doc dV kV ho hd hcd hD hmg hg args vals as hpre hlay hrd hwl hlo;obtain rfl:dV=.none:=Dflts.none hD hdf;obtain rfl:kV=.none:=Dflts.noKw hD;obtain⟨a,vs,ns,rfl,rfl,hobj,hints,a7⟩:=pq hn hpre hwl;refine enter_call (O8 (call w s₀ s₁ mg mb fa o pm cd doc a vs ns G Y ho (fd_plain hd) hcd hmg hobj hints a7 hg) fun r s' hq=>?_);obtain⟨rfl,h2,h3,h4⟩:=hq;exact⟨.inl ⟨.bool true,.bool true,[],rfl,fun _=>rfl,.bool true,oY l _,fun _=>⟨List.Pairwise.nil,fun _ hm=>(nomatch hm)⟩⟩,h2,h3,h4⟩
section
variable{prog:B9}{w:E6}{A:D7}{E:u8->v0->Prop}{s:v0}{K:Frag}
end
end Att
namespace L2
open PySem PySem.Spec PyProof.Rows
theorem jr:∀{vs:List u8}{ns:List Int},IntsAre vs ns->ao (ns.map V.int) vs
 |_,_,.nil=>.nil
 |_,_,.cons n t h=>.cons ⟨t,rfl⟩ (jr h)
def uH(H:Hp):Prop:=∀b,H b=none∨∃o xs,H b=some (.frz o (.lst xs))
theorem sh{P:B9}{w:E6}{K:o0}{mg mb:Str->Option u8}{CX:CXT}{k:Nat}{fa a:A8}{fd:F6}{x:Str}{sp:Sp}{s₁:v0}{vs:List u8}{ns:List Int}
  (KX:K.In s₁.heap) (hns:s₁.heap.Ns J6 mg) (hb:s₁.heap.Ns builtinsNs mb) (hbb:∀x:Str,x≠"__name__"->mb x=J4 x) (hlim:s₁.heap.NoLimit) (hg:s₁.gens=#[])
  (ha:s₁.heap.get? a=some { cls:=.type "list",data:=.seq vs.toArray }) (hi:IntsAre vs ns) (hl:ns.length<=A0) (hr:bY k R4)
  (F:∀base:C5,K.In base->base.Ns J6 mg->bw P w K mg base CX k fa fd [x] sp) (hbind:∀(s:v0) (u:u8),T6 s fd ⟨[u],[]⟩ [(x,u)])
  (hsp:∀H:Hp,uH H->SqL K H a (ns.map V.int)->sp [.ref a] H (fun v _=>v=.bl true) fun _ _ _=>False)
  (hCX:∀H e s',CX [] H s₁ (fun _ _ _=>False) e s'->False) :
  O2 (B8 P w) R4 (.call (.ref fa) ⟨[.ref a],[]⟩) (fun r s'=>r=.ok (.ret (.bool true))/\OldK s₁.heap s'.heap/\s'.os=s₁.os/\P4 s'.gens) s₁:=by
 have rv:=jr hi;have lenV:=hi.length
 -- from an abstract heap in which nothing but the script may be tracked
 have core:∀H:Hp,uH H->SqL K H a (ns.map V.int)->HOk P w H s₁.heap->(∀b,H b≠none->b=a)->(H a≠none->K.lookup a=none) ->
   O2 (B8 P w) R4 (.call (.ref fa) ⟨[.ref a],[]⟩) (fun r s'=>r=.ok (.ret (.bool true))/\OldK s₁.heap s'.heap/\s'.os=s₁.os/\P4 s'.gens) s₁:=by
  intro H hO hS hok hA hK;have base_of:∀{b:A8} {o:Obj},s₁.heap.get? b=some o->H b=none->(jJ s₁.heap H).get? b=some o:=fun e n=>qw e n;have noA:∀{b:A8} {o:Obj} {es:Array DictEntry} {ep:Nat},s₁.heap.get? b=some o->o.data=.dict es ep->H b=none:=fun {b o es ep} e d=>by
   cases q:H b with
   |none=>rfl
   |some u =>
    have e':b=a:=hA b (by rw[q];simp);subst e';rw[ha]at e;cases e;have d':Data.seq vs.toArray _=Data.dict es ep:=d;cases d'
  have nsK:∀{b:A8} {m:Str->Option u8},s₁.heap.Ns b m->(jJ s₁.heap H).Ns b m:=fun {b m} ⟨o,es,ep,e,d,r⟩=>⟨o,es,ep,base_of e (noA e d),d,r⟩;have hKb:K.In (jJ s₁.heap H):=fun b o e=>base_of (KX b o e) (by
   cases q:H b with
   |none=>rfl
   |some u =>
    have e':b=a:=hA b (by rw[q];simp);subst e';rw[hK (by rw[q];simp)]at e;cases e)
  have hM:Mod K mg (jJ s₁.heap H):=⟨hKb,nsK hns,⟨mb,nsK hb,hbb⟩,let⟨mc,h1,h2⟩:=hlim;⟨mc,nsK h1,h2⟩⟩;have e0:sI P w K mg (jJ s₁.heap H) R4 [] s₁ H:=⟨rfl,hM,fun b o e=>uL e,Nat.le_of_eq (pd _ _),trivial,fun b hb=>absurd (show b∈([]:List A8)from hb) (by simp),hok,.of_eq hg⟩;refine O8 ((F _ hKb (nsK hns)).run R4 [] s₁ H ⟨[.ref a],[]⟩ [.ref a] [.ref a] _ _ hr e0 (hbind s₁ (.ref a)) (.cons rfl .nil) (hsp H hO hS)) fun r s' h=>?_;cases r with
  |error e=>exact(hCX H e s' h).elim
  |ok fl =>
   cases fl with
   |next=>exact F7 h
   |brk=>exact F7 h
   |cont=>exact F7 h
   |ret u =>
    obtain⟨v,H',os,bare,un,hok',r',q⟩:=h;have q':v=.bl true:=q;subst q';obtain rfl:u=u8.bool true:=r';refine⟨rfl,OldK.of_keep fun b o e=>?_,os,bare⟩;cases q:H b with
    |none=>exact un.keep b o e q (by intro z;exact absurd (show b∈([]:List A8)from z) (by simp)) (by simp)
    |some u =>
     rcases hO b with z|⟨ob,xs,z⟩
     ·rw[q]at z;cases z
     ·have z2:=un.frzs b ob _ z;obtain⟨e1,_⟩:=hok b _ z;obtain⟨e2,_⟩:=hok' b _ z2;rw[e]at e1;cases e1;exact e2
 cases hk:K.lookup a with
 |some o =>
  -- the script is one of the module's own objects
  have e:=KX a o hk;rw[ha]at e;cases e;refine core (fun _=>none) (fun _=>.inl rfl) (.inr ⟨_,vs.toArray,_,hk,rfl,rfl,rfl,by rw[A3,lenV];exact hl,by simpa using rv⟩) (fun b u z=>by have z':(none:Option HO)=some u:=z;cases z') (fun b z=>absurd rfl z) fun z=>absurd rfl z
 |none =>
  refine core (fun b=>if b=a then some (.frz { cls:=.type "list",data:=.seq vs.toArray } (.lst (ns.map V.int)))else none) (fun b=>?_) (.inl (.inr ⟨{ cls:=.type "list",data:=.seq vs.toArray },if_pos rfl⟩)) (fun b u z=>?_) (fun b z=>?_) fun _=>hk
  ·by_cases hb:b=a
   ·exact .inr ⟨_,_,if_pos hb⟩
   ·exact .inl (if_neg hb)
  ·by_cases hb:b=a
   ·have z':=(if_pos hb).symm.trans z;cases z';subst hb;exact⟨ha,by rw[L8];exact hl,vs,_,rv,ha⟩
   ·have z':=(if_neg hb).symm.trans z;cases z'
  ·by_cases hb:b=a
   ·exact hb
   ·exact absurd (if_neg hb) z
theorem nB{l:PySem.W.OpenLaw}{n k:Nat}{q:B9}{loose:List Str}{XP:(Str->Option u8)->C5->Prop}{YP:E6->C5->Prop}{d:DefRec}{K:Params->o0}{CX:E6->CXT}{sp:E6->Sp}{x:Str}
  (hn:l.most=some n) (hn2:n<=A0) (hdf:d.params.defaults=[]) (hr:bY k R4)
  (hY:∀(w:E6) (h:C5),YP w h->(K w.params).In h)
  (F:∀ (w:E6) (mg:Str → Option u8) (fa:A8) (h:C5),(K w.params).In h → h.Ns J6 mg → mg d.name = some (.ref fa) →
   ∃fd:F6,(∀(s:v0) (u:u8),T6 s fd ⟨[u],[]⟩ [(x,u)]) /\
    ∀base:C5,(K w.params).In base->base.Ns J6 mg->bw l.prog w (K w.params) mg base (CX w) k fa fd [x] (sp w))
  (hsp:∀(w:E6) (H:Hp) (a:A8) (ns:List Int),ns.length<=n->uH H->SqL (K w.params) H a (ns.map V.int)->sp w [.ref a] H (fun v _=>v=.bl true) fun _ _ _=>False)
  (hCX:∀(w:E6) (H:Hp) (s:v0) (e:u8) (s':v0),CX w [] H s (fun _ _ _=>False) e s'->False) :
  PySem.W.WalkO q loose XP YP l.row.toRowW d [] (fun f vs=>PySem.call f vs):=by
 refine Att.attach_call hn hdf fun w s₀ s₁ mg mb fa o pm cd doc a vs ns G Y ho hd hcd hmg hobj hints a7 hg=>?_;have KX:=hY w _ Y;obtain⟨fd,hb,hF⟩:=F w mg fa _ KX G.T.g hmg;exact sh KX G.T.g G.T.b G.T.builtins G.T.nolimit hg hobj hints (D2 a7 hn2) hr hF hb (fun H hO hS=>hsp w H a ns a7 hO hS) fun H e s'=>hCX w H s₁ e s'
end L2
/- THE LAST THEOREM (shape; LID,My.* are yours):
   My.Adr: a structure of the addresses that your layer names (classes,functions);My.Txt K t: a structure (Prop) of the equations over K;
   My.txt_mk:{K} {implicit addresses ..} (e1:nsIn K J6 "law"=some (some (.ref f))) (e2:K.lookup f=some ⟨oc,od,.func (fnOf "law" "law" params body scope dV kV doc pm an cdv ct),sl⟩) (e3:codeIn K cdv "law"=true) ..:∃t,My.Txt K t
set_option maxRecDepth 100000 in
set_option maxHeartbeats 0 in
theorem PySem.Challenge.cw_LID_holds : PySem.Challenge.rw_LID.Holds := by
 w_on;o_law;k_head;(case hw=>w_witness2)
 k_fill
 refine L2.nB (l:=PySem.Challenge.rw_LID) (n:=63) (k:=40) (x:="script") (CX:=fun w=>..) (sp:=fun _=>My.sp_law) rfl (by decide) rfl ⟨rfl,by decide,by decide⟩ (fun w h Y=>PySem.W.kIn_of Y) ?F ?S ?C
 case F =>
  intro w mg fa h KX G hmg;have T:∃t,My.Txt (L2.KOf KX) t:=by
   dsimp only[L2.KOf]                          -- K must stand as «<heap const> w.params» for k_is
   refine' My.txt_mk ?e1 ?e2 ?e3 ..
   (case e1=>PySem.W.k_is)                    -- in the order: a name->its address->its object->its parts
   (case e2=>PySem.W.k_is)
   ..
  obtain⟨t,T⟩:=T;have e0:=hmg.symm.trans (PySem.W.mg_of KX G T.law);cases e0                                       -- fa is the law's own address;exact⟨_,fun s u=>.of_eq rfl,fun base kb nb=>My.law_fn T kb nb⟩     -- if «.of_eq rfl» comes too early: refine' ⟨_,?b,fun base kb nb=>My.law_fn T kb nb⟩;exact fun s u=>.of_eq rfl
 case S=>exact fun w H a ns hl hO hS=>..
 case C=>exact ..
(the tactic k_is has no namespace: write k_is) -/
namespace L2
open PySem PySem.Spec PyProof.Rows
def cX(s:Q7):Arguments:=match s with
 |.FunctionDef _ a _ _ _ _ _ _ _ _=>a
 |_=>{ posonlyargs:=[],args:=[],vararg:=none,kwonlyargs:=[],kw_defaults:=[],kwarg:=none,defaults:=[] }
def bW(s:Q7):List Q7:=match s with
 |.FunctionDef _ _ b _ _ _ _ _ _ _=>b
 |_=>[]
def ah(s:Q7):M9:=match s with
 |.FunctionDef _ _ _ _ _ _ sc _ _ _=>sc
 |_=>{ kind:=.function,names:=[],isGenerator:=false,isCoroutine:=false }
abbrev CX0:CXT:=fun _ _ _ _ _ _=>False
abbrev E0:XK:=fun _ _ _=>False
theorem zr{X:Cx}:mI CX0 X E0:=fun _ _ _ _ _ _ _ h=>h.elim
structure Fun(K:o0) (x qual:Str) (st:Q7) (f:A8) (fd:F6):Prop where
 ex:∃(oc:u8) (od:Option A8) (kV doc pm:u8) (an:Option A8) (cdv ct:u8) (osl:Array (Option u8)),
  fd=N5 x qual (cX st) (bW st) (ah st) .none kV doc pm an cdv ct/\K.lookup f=some ⟨oc,od,.func fd,osl⟩/\PySem.W.codeIn K cdv qual=true
 kp:K6 K (.ref f)=true
section
variable{P:B9}{w:E6}{K:o0}{mg:Str->Option u8}{base:C5}{f:A8}{fd:F6}
theorem Fun.ok{x qual:Str}{st:Q7}{f:A8}{fd:F6}{N ps:List Str}{k:Nat}{sp:Sp}(F:Fun K x qual st f fd) (S:aB N ps (ah st)) (len:∀vs H Q E,sp vs H Q E->vs.length=ps.length)
  (hbody:∀ (cdv:u8) (A:D7) (outer:List Env) (s:v0) (H:Hp) (vs:List V) (Q:VK) (E:XK),bY k (A.deeper (R6 qual (ah st) s.heap.objs.size f cdv)) → sp vs H Q E →
   ∃t,PSs (jQ CX0 P w K mg base N qual (ah st) f cdv A outer s H E).nox (bW st) t/\t { nx:=fun _ H'=>Q .non H',rt:=Q } (du N vs) H):bw P w K mg base CX0 (k+1) f fd ps sp:=by
 obtain⟨oc,od,kV,doc,pm,an,cdv,ct,osl,rfl,lk,hcd⟩:=F.ex;refine yK lk hcd S len fun A outer s H vs Q E hr hsp=>?_;obtain⟨t,h,q⟩:=hbody cdv A outer s H vs Q E hr hsp;exact⟨t,h.nox,q⟩
theorem Fun.binds{x qual:Str}{st:Q7}{f:A8}{fd:F6}{ps:List Str}(F:Fun K x qual st f fd)
  (h:∀(kV doc pm:u8) (an:Option A8) (cdv ct:u8) (us:List u8),us.length=ps.length->bindArgs (N5 x qual (cX st) (bW st) (ah st) .none kV doc pm an cdv ct) ⟨us,[]⟩=O9 (ps.zip us)):cS K fd ps []:=by
 obtain⟨oc,od,kV,doc,pm,an,cdv,ct,osl,rfl,lk,hcd⟩:=F.ex;exact .all (h kV doc pm an cdv ct)
theorem qA{x qual:Str}{st:Q7}{f:A8}{oc:u8}{od an:Option A8}{osl:Array (Option u8)}{kV doc pm cdv ct:u8}(l:K.lookup f=some ⟨oc,od,.func (N5 x qual (cX st) (bW st) (ah st) .none kV doc pm an cdv ct),osl⟩)
  (c:PySem.W.codeIn K cdv qual=true) (k:K6 K (.ref f)=true):Fun K x qual st f (N5 x qual (cX st) (bW st) (ah st) .none kV doc pm an cdv ct):=⟨⟨oc,od,kV,doc,pm,an,cdv,ct,osl,rfl,l,c⟩,k⟩
end
theorem fG{c A B:Prop} [Decidable c] (h1:c->A) (h2:¬ c->B):if c then A else B:=by
 by_cases h:c
 ·rw[if_pos h];exact h1 h
 ·rw[if_neg h];exact h2 h
def oN(H H':Hp):Prop:=∀b o,H b=some o->H' b=some o
theorem oN.refl(H:Hp):oN H H:=fun _ _ h=>h
theorem oN.trans{H H1 H2:Hp}(a:oN H H1) (b:oN H1 H2):oN H H2:=fun c o h=>b c o (a c o h)
section
variable{κ:Type} [DecidableEq κ]
noncomputable def eR(kvs:List (κ×V)) (k:κ):Option V:=(kvs.find? fun kv=>decide (kv.1=k)).map (·.2)
noncomputable def eK(kvs:List (κ×V)) (k:κ) (v:V):List (κ×V) :=
 if(kvs.any fun kv=>decide (kv.1=k))=true then kvs.map (fun kv=>if kv.1=k then(kv.1,v)else kv)else kvs++[(k,v)]
def AY(kvs:List (κ×V)) (k:κ):List (κ×V):=kvs.filter fun kv=>decide (kv.1≠k)
theorem eT{p:κ×V}{r:List (κ×V)}{k:κ}(e:p.1=k):eR (p::r) k=some p.2:=by simp[eR,F1,e]
theorem fh{p:κ×V}{r:List (κ×V)}{k:κ}(e:¬ p.1=k):eR (p::r) k=eR r k:=by simp[eR,F1,e]
theorem md(k:κ):∀kvs:List (κ×V),(kvs.any fun kv=>decide (kv.1=k))=(eR kvs k).isSome
 |[]=>rfl
 |p::r=>by
  rw[E8]
  by_cases e:p.1=k
  ·simp only[eT e,decide_eq_true e,Bool.true_or,Option.isSome_some]
  ·rw[fh e,decide_eq_false e,Bool.false_or];exact md k r
theorem gf(kvs:List (κ×V)) (k:κ) (v:V):(eK kvs k v).length<=kvs.length+1:=by
 unfold eK
 split
 ·rw[L8];omega
 ·rw[C8,N7,List.length_nil];omega
theorem gC.isSome_eq{o:Option V}{u:Option u8}(r:gC o u):o.isSome=u.isSome:=by
 cases o with
 |none=>cases u with
  |none=>rfl
  |some _=>exact(show False from r).elim
 |some _=>cases u with
  |none=>exact(show False from r).elim
  |some _=>rfl
theorem gC.getD{o:Option V}{u:Option u8}{d:V}{d':u8}(r:gC o u) (rd:ar d d'):ar (o.getD d) (u.getD d'):=by
 cases o with
 |none=>cases u with
  |none=>exact rd
  |some _=>exact(show False from r).elim
 |some _=>cases u with
  |none=>exact(show False from r).elim
  |some _=>exact r
theorem KV.val{kvs:List (κ×V)}{vs:List (κ×u8)}(r:KV kvs vs) (k:κ):gC (eR kvs k) (S0 vs k):=by
 unfold KV at r
 induction r with
 |nil=>exact S1
 |@cons p q ps qs h t ih =>
  obtain⟨h1,h2⟩:=h
  by_cases e:p.1=k
  ·have e':q.1=k:=h1.symm.trans e;have b:S0 (q::qs) k=some q.2:=by simp[S0,F1,e']
   rw[eT e,b];exact h2
  ·have e':¬ q.1=k:=fun z=>e (h1.trans z);have b:S0 (q::qs) k=S0 qs k:=by simp[S0,F1,e']
   rw[fh e,b];exact ih
theorem KV.any{kvs:List (κ×V)}{vs:List (κ×u8)}(r:KV kvs vs) (k:κ):(kvs.any fun kv=>decide (kv.1=k))=vs.any fun kv=>decide (kv.1=k):=by
 unfold KV at r
 induction r with
 |nil=>rfl
 |cons h t ih=>rw[E8,E8,ih,h.1]
theorem KV.repl{kvs:List (κ×V)}{vs:List (κ×u8)}(r:KV kvs vs) (k:κ) {y:V}{u:u8}(ry:ar y u) :
  KV (kvs.map fun kv=>if kv.1=k then(kv.1,y)else kv) (vs.map fun kv=>if kv.1=k then(kv.1,u)else kv):=by
 unfold KV at r ⊢
 induction r with
 |nil=>exact .nil
 |@cons p q ps qs h t ih =>
  rw[D6,D6];refine .cons ?_ ih;obtain⟨h1,h2⟩:=h
  by_cases e:p.1=k
  ·rw[if_pos e,if_pos (h1.symm.trans e)];exact⟨h1,ry⟩
  ·rw[if_neg e,if_neg (fun z=>e (h1.trans z))];exact⟨h1,h2⟩
theorem KV.put{kvs:List (κ×V)}{vs:List (κ×u8)}(r:KV kvs vs) (k:κ) {y:V}{u:u8}(ry:ar y u):KV (eK kvs k y) (stored vs k u):=by
 unfold eK stored;rw[r.any k]
 by_cases e:(vs.any fun kv=>decide (kv.1=k))=true
 ·rw[if_pos e,if_pos e];exact r.repl k ry
 ·rw[if_neg e,if_neg e];exact F2.snoc r ⟨rfl,ry⟩
theorem KV.length{kvs:List (κ×V)}{vs:List (κ×u8)}(r:KV kvs vs):kvs.length=vs.length:=P3 r
end
theorem qf{P:B9}{w:E6}{k:Key}{u:u8}(r:ar (kV k) u):(br P w).is k u=true:=by
 cases k with
 |inl i=>obtain⟨t,e⟩:=(show ∃t,u=u8.int i t from r);subst e;exact lq P w i t
 |inr x=>obtain⟨t,e⟩:=(show ∃t,u=u8.str x t from r);subst e;exact lO P w x t
theorem jB{P:B9}{w:E6}:∀{ks:List Key}{us:List u8},ao (ks.map kV) us->ItemsAre (br P w) ks us
 |[],_,r=>by rw[List.map_nil]at r;cases r;exact .nil
 |k::ks,_,r=>by
  rw[D6]at r;cases r with
  |cons h t=>exact .cons (qf h) (jB t)
abbrev KT(H:Hp):List (List Key×V)->List (List Key×A8×u8)->Prop:=F2 fun p q=>p.1=q.1/\H q.2.1=some (.tup (p.1.map kV))/\ar p.2 q.2.2
theorem KT.val{H:Hp}{kvs:List (List Key×V)}{xs:List (List Key×A8×u8)}(r:KT H kvs xs) (k:List Key):gC (eR kvs k) ((atKey xs k).map (·.2)):=by
 induction r with
 |nil=>exact S1
 |@cons p q ps qs h t ih =>
  obtain⟨h1,_,h2⟩:=h
  by_cases e:p.1=k
  ·have e':q.1=k:=h1.symm.trans e;have b:atKey (q::qs) k=some q.2:=by simp[atKey,F1,e']
   rw[eT e,b];exact h2
  ·have e':¬ q.1=k:=fun z=>e (h1.trans z);have b:atKey (q::qs) k=atKey qs k:=by simp[atKey,F1,e']
   rw[fh e,b];exact ih
theorem KT.repl{H:Hp}{kvs:List (List Key×V)}{xs:List (List Key×A8×u8)}(r:KT H kvs xs) (k:List Key) {y:V}{u:u8}(ry:ar y u) :
  KT H (kvs.map fun kv=>if kv.1=k then(kv.1,y)else kv) (xs.map (putAt k u)):=by
 induction r with
 |nil=>exact .nil
 |@cons p q ps qs h t ih =>
  rw[D6,D6];refine .cons ?_ ih;obtain⟨h1,h2,h3⟩:=h;unfold putAt
  by_cases e:p.1=k
  ·rw[if_pos e,if_pos (h1.symm.trans e)];exact⟨h1,h2,ry⟩
  ·rw[if_neg e,if_neg (fun z=>e (h1.trans z))];exact⟨h1,h2,h3⟩
theorem KT.put{H:Hp}{kvs:List (List Key×V)}{xs:List (List Key×A8×u8)}(r:KT H kvs xs) (k:List Key) {b:A8}{y:V}{u:u8}(hb:H b=some (.tup (k.map kV))) (ry:ar y u) :
  KT H (eK kvs k y) (storedH xs k b u):=by
 have e:(kvs.any fun kv=>decide (kv.1=k))=(atKey xs k).isSome:=by
  rw[md,(r.val k).isSome_eq,Option.isSome_map]
 unfold eK storedH;rw[e]
 by_cases q:(atKey xs k).isSome=true
 ·rw[if_pos q,if_pos q];exact r.repl k ry
 ·rw[if_neg q,if_neg q];exact F2.snoc r ⟨rfl,hb,ry⟩
theorem KT.keeps{H H':Hp}{kvs:List (List Key×V)}{xs:List (List Key×A8×u8)}(r:KT H kvs xs) (ht:∀b ys,H b=some (.tup ys)->H' b=some (.tup ys)):KT H' kvs xs :=
 F2.mapP r fun _ _ z=>⟨z.1,ht _ _ z.2.1,z.2.2⟩
section
variable{P:B9}{w:E6}{H:Hp}{h:C5}{a:A8}
theorem vg{u:HO}(ok:HOk P w H h) (e:Rd H a u):bf P w H h a u:=e.ok ok
theorem qi{kvs:List (Key×V)}(ok:HOk P w H h) (e:Rd H a (.dK kvs)):kvs.length<=A0/\(a==K8)=false/\∃vs,KV kvs vs/\h.DictOf (br P w) a vs :=
 show bf P w H h a (.dK kvs)from vg ok e
theorem yL{kvs:List (Key×V)}(ok:HOk P w H h) (e:H a=some (.dK kvs)):kvs.length<=A0/\(a==K8)=false/\∃vs,KV kvs vs/\h.DictOf (br P w) a vs:=qi ok (.inl e)
theorem mR{ks:List Key}(ok:HOk P w H h) (e:H a=some (.tup (ks.map kV))):(R5 (br P w)).is h ks a:=by
 obtain⟨_,its,r,o,h1,h2,⟨n,h3⟩,_⟩:=(show bf P w H h a (.tup (ks.map kV))from ok a _ e);exact⟨o,its.toArray,n,h1,h2,h3,by simpa using jB r⟩
theorem pQ{kvs:List (List Key×V)}(ok:HOk P w H h) (e:Rd H a (.dT kvs)):kvs.length<=A0/\(a==K8)=false /\
  ∃xs,KT H kvs xs/\h.DictOfH (R5 (br P w)) a xs:=by
 obtain⟨z,y,xs,r,o,es,ep,h1,h2,h3,h4,h5⟩:=(show bf P w H h a (.dT kvs)from vg ok e);refine⟨z,y,xs,r,o,es,ep,h1,h2,h3,h4,fun x hx=>?_,h5⟩;have all:∀{l:List (List Key×V)} {m:List (List Key×A8×u8)},KT H l m->∀x∈m,(R5 (br P w)).is h x.1 x.2.1:=by
  intro l m q
  induction q with
  |nil=>intro x hx;exact nomatch hx
  |@cons p q ps qs hq t ih =>
   intro x hx;rcases K3.mp hx with e|hx
   ·subst e;exact mR ok (by rw[<-hq.1];exact hq.2.1)
   ·exact ih x hx
 exact all r x hx
theorem zO{kvs:List (List Key×V)}(ok:HOk P w H h) (e:H a=some (.dT kvs)):kvs.length<=A0/\(a==K8)=false /\
  ∃xs,KT H kvs xs/\h.DictOfH (R5 (br P w)) a xs:=pQ ok (.inl e)
end
def kL(H:Hp) (a:A8) (y:V) (r:Option V):Prop :=
 (∃kvs k,Rd H a (.dK kvs)/\y=kV k/\r=eR kvs k)∨∃kvs k b,Rd H a (.dT kvs)/\y=.ref b/\H b=some (.tup (k.map kV))/\r=eR kvs k
def mG(H:Hp) (a:A8) (y v:V) (H':Hp):Prop :=
 (∃kvs k,H a=some (.dK kvs)/\y=kV k/\kvs.length<A0/\H'=upd H a (.dK (eK kvs k v))) ∨
 ∃kvs k b,H a=some (.dT kvs)/\y=.ref b/\H b=some (.tup (k.map kV))/\kvs.length<A0/\H'=upd H a (.dT (eK kvs k v))
theorem kL.k{H:Hp}{a:A8}{kvs:List (Key×V)}{k:Key}(e:H a=some (.dK kvs)):kL H a (kV k) (eR kvs k):=.inl ⟨kvs,k,.inl e,rfl,rfl⟩
theorem kL.t{H:Hp}{a b:A8}{kvs:List (List Key×V)}{k:List Key}(e:H a=some (.dT kvs)) (eb:H b=some (.tup (k.map kV))):kL H a (.ref b) (eR kvs k):=.inr ⟨kvs,k,b,.inl e,rfl,eb,rfl⟩
theorem mG.k{H:Hp}{a:A8}{kvs:List (Key×V)}{k:Key}{v:V}(e:H a=some (.dK kvs)) (hl:kvs.length<A0):mG H a (kV k) v (upd H a (.dK (eK kvs k v))):=.inl ⟨kvs,k,e,rfl,hl,rfl⟩
theorem mG.t{H:Hp}{a b:A8}{kvs:List (List Key×V)}{k:List Key}{v:V}(e:H a=some (.dT kvs)) (eb:H b=some (.tup (k.map kV))) (hl:kvs.length<A0) :
  mG H a (.ref b) v (upd H a (.dT (eK kvs k v))):=.inr ⟨kvs,k,b,e,rfl,eb,hl,rfl⟩
section
variable{X:Cx}{aa:List (A8×Obj)}{σ:St}{H:Hp}{s:v0}{a:A8}{y v:V}{u r:u8}{o:Option V}{A:D7}{E:u8->v0->Prop}
theorem Inv.big(I:Inv X aa σ H s):K8<s.heap.objs.size:=by
 have h:J6<s.heap.objs.size:=(I.mod.glob.keeps I.bk).lt;exact Nat.lt_trans (by decide) h
theorem mL{Q:u8->v0->Prop}(hu:A.units+1<S8) (I:Inv X aa σ H s) (g:kL H a y (some v)) (ry:ar y u) (h:∀w' s',Inv X aa σ H s'->ar v w'->Q w' s') :
  B7 (B8 X.prog X.w) A (P6 (.ref a) u) Q E s:=by
 rcases g with⟨kvs,k,e,ey,l⟩|⟨kvs,k,b,e,ey,eb,l⟩
 ·subst ey;obtain⟨z,hd,vs,rel,dd⟩:=qi I.hok e;obtain⟨w',hw,rw'⟩:=gC.some_of (v:=v) (o:=S0 vs k) (by rw[l];exact rel.val k);exact wpAny_getItem_of (qf ry) dd.mapOf hw (h w' _ (I.tok _) rw')
 ·subst ey;cases(show u=P9 b from ry);obtain⟨z,hd,xs,rel,dd⟩:=pQ I.hok e;obtain⟨w',hw,rw'⟩:=gC.some_of (v:=v) (o:=(atKey xs k).map (·.2)) (by rw[l];exact rel.val k);obtain⟨p,hp,hp2⟩:=Option.map_eq_some_iff.mp hw;refine wpAny_getItem_heap (tupleKind_room_in1 hu) (mR I.hok eb) dd hp ?_;rw[hp2];exact h w' _ (I.tok _) rw'
theorem eU{h':C5}{t':Nat}{ob:HO}(I:Inv X aa σ H s) (mu:Mut (H a)) (hs:O7 a s.heap h') (he:∃q,h'.get? a=some q) (new:bf X.prog X.w (upd H a ob) h' a ob) :
  Inv X aa σ (upd H a ob) { s with heap:=h',toks:=t' } :=
 I.write (x:=a) (e:=a) mu (.inl rfl) (fun b q hb z=>(hs.2 b hb).trans z) he new
theorem xf{P:B9}{w:E6}{H':Hp}{h':C5}{kvs:List (Key×V)}{vs:List (Key×u8)}(z:kvs.length<=A0) (hd:(a==K8)=false) (rel:KV kvs vs) (dd:h'.DictOf (br P w) a vs) :
  bf P w H' h' a (.dK kvs):=⟨z,hd,vs,rel,dd⟩
theorem mm{H':Hp}{Q:Unit->v0->Prop}(hu:A.units+1<S8) (I:Inv X aa σ H s) (g:mG H a y v H') (ry:ar y u) (rv:ar v r) (h:∀s',Inv X aa σ H' s'->Q () s') :
  B7 (B8 X.prog X.w) A (setItem (.ref a) u r) Q E s:=by
 rcases g with⟨kvs,k,e,ey,l,eH⟩|⟨kvs,k,b,e,ey,eb,l,eH⟩
 ·subst ey eH;obtain⟨z,hd,vs,rel,dd⟩:=yL I.hok e;have hz:vs.length<=A0:=by rw[<-rel.length];exact z
  have hl:(eK kvs k v).length<=A0:=by have:=gf kvs k v;omega
  refine wpAny_setItem_pairs (hsz:=hz) (qf ry) dd fun h' dd' hs=>h _ ?_;have he:∃q,h'.get? a=some q:=let⟨q,_,_,hq,_⟩:=dd';⟨q,hq⟩
  exact eU I (by rw[e];exact S1) hs he (xf hl hd (rel.put k rv) dd')
 ·subst ey eH;cases(show u=P9 b from ry);obtain⟨z,hd,xs,rel,dd⟩:=zO I.hok e;have hz:xs.length<=A0:=by rw[<-P3 rel];exact z
  have hl:(eK kvs k v).length<=A0:=by have:=gf kvs k v;omega
  refine wpAny_setItem_heap (hsz:=hz) (tupleKind_room_in1 hu) (mR I.hok eb) dd fun h' dd' hs=>h _ ?_;obtain⟨q,es,ep,hq,h2,h3,h4,_,h5⟩:=dd';refine eU I (by rw[e];exact S1) hs ⟨q,hq⟩ ⟨hl,hd,_,(rel.put k eb rv).keeps fun c ys ec=>?_,q,es,ep,hq,h2,h3,h4,h5⟩;rw[ax (zi ec e (fun z=>nomatch z))];exact ec
end
def vw(i:B4):Prop:=∀ov iv,R1 i false ov iv=operate [ov,iv] (P6 ov iv)
theorem sD{prog:B9}{w:E6}{A:D7}{E:u8->v0->Prop}{s:v0}{env:Env}{value slice:B4}{pos:Pos}{T id:String}{Q:u8->v0->Prop}
  (hl:typeLookup (.type T) "__getitem__"=O9 (some (.builtin id))) (hs:vw slice)
  (h:B7 (B8 prog w) A (N6 value env) (fun o s₁=>B7 (B8 prog w) A (N6 slice env) (fun i s₂=>s₂.TypeIs o T/\B7 (B8 prog w) A (P6 o i) Q E s₂) E s₁) E s) :
  B7 (B8 prog w) A (N6 (.Subscript value slice pos) env) Q E s:=by
 refine Subscript_ (C9 h (fun o s₁ h₁=>C9 h₁ (fun i s₂ h₂=>?_) fun _ _ x=>x) fun _ _ x=>x);obtain⟨hT,h₂⟩:=h₂;unfold subscriptTail;refine A5 ?_;rw[getitemInPython_of_ne hT.not_modules];refine A5 (wpAny_specialOf hT hl ?_);have fin:B7 (B8 prog w) A (R1 slice false o i) (fun r s₃=>B7 (B8 prog w) A (letTemporaryGo value o r >>= fun _=>O9 r) Q E s₃) E s₂:=by
  rw[hs o i];exact wpAny_operating (C9 h₂ (fun r s₃ h₃=>A5 (wpAny_letTemporaryGo (A9 h₃))) fun _ _ x=>x)
 first
  |exact A9 (A5 fin)
  |exact A5 (A9 (A5 fin))
  |exact A5 fin
theorem lT{X:Cx}{aa:List (A8×Obj)}{σ:St}{H:Hp}{s:v0}{a:A8}{y:V}{o:Option V}(I:Inv X aa σ H s) (g:kL H a y o):s.TypeIs (.ref a) "dict":=by
 rcases g with⟨kvs,k,e,_,_⟩|⟨kvs,k,b,e,_,_,_⟩
 ·obtain⟨_,_,vs,_,dd⟩:=qi I.hok e;exact dd.typeIs
 ·obtain⟨_,_,xs,_,dd⟩:=pQ I.hok e;exact dd.typeIs
def yY(td ty:TE):TE:=fun σ H Q=>td σ H fun x H1=>ty σ H1 fun y H2=>∃a v,x=.ref a/\kL H2 a y (some v)/\Q v H2
def zM(td ty tv:TE):TS:=fun D σ H=>tv σ H fun v H1=>td σ H1 fun x H2=>ty σ H2 fun y H3=>∃a H4,x=.ref a/\mG H3 a y v H4/\D.nx σ H4
section
variable{X:Cx}{o i e value:B4}{pos pos' tpos:Pos}{td ty tv:TE}
theorem sR(hu:X.A.units+1<S8) (ho:PE X o td) (hi:PE X i ty) (hs:vw i):PE X (.Subscript o i pos) (yY td ty):=by
 intro aa s σ H Q I h;refine sD PySem.F.slot_dict_getitem.lookup hs (thn (ho aa s σ H _ I h) fun u s1 hup=>hup.el fun x H1 I1 rx q1=>thn (hi aa s1 σ H1 _ I1 q1) fun iv s2 ⟨y,H2,I2,ry,a,v,ex,g,q2⟩=>?_);subst ex;obtain rfl:u=P9 a:=rx;exact⟨lT I2 g,mL hu I2 g ry fun w' s3 I3 rw'=>⟨v,H2,I3,rw',q2⟩⟩
theorem uq(hu:X.A.units+1<S8) (ho:PE X o td) (hi:PE X i ty) (hv:PE X value tv) (hs:P0 value (some (.Subscript o i pos')) pos.line X.env=O9 false) :
  PS X (.Assign [.Subscript o i pos'] value pos) (zM td ty tv):=by
 intro aa s σ H D I h;refine wpAny_Assign_Subscript (thn (hv aa s σ H _ I h) fun r s1 hup=>hup.el fun v H1 I1 rv q1=>thn (ho aa s1 σ H1 _ I1 q1) fun u s2 hup=>hup.el fun x H2 I2 rx q2=>thn (hi aa s2 σ H2 _ I2 q2) fun iv s3 ⟨y,H3,I3,ry,a,H4,ex,g,q3⟩=>?_) hs;subst ex;obtain rfl:u=P9 a:=rx;exact mm hu I3 g ry rv fun s4 I4=>⟨σ,H4,I4,q3⟩
end
theorem kO{P:B9}{w:E6}{H:Hp}(h:C5) (hb:K8<h.objs.size):bf P w H (h.push { cls:=.type "dict",data:=.dict #[] }) h.objs.size (.dT []) :=
 ⟨N2 _,beq_eq_false_iff_ne.mpr (R8 (B5 hb)),[],.nil,_,#[],0,B6 _ rfl,⟨rfl,rfl,rfl⟩,rfl,rfl,List.nodup_nil⟩
def wq:TE:=fun _ H Q=>∀p,H p=none->Q (.ref p) (upd H p (.dT []))
section
variable{X:Cx}{pos:Pos}
theorem qp:PE X (.Dict [] [] pos) wq:=fun aa s σ H Q I h =>
 wpAny_Dict_empty ⟨.ref s.heap.objs.size,_,I.laid (a:=s.heap.objs.size) (o:=.dT []) (t':=s.toks) (fun _ _ q=>A4 _ q) (B0 _) (kO s.heap I.big),rfl,h _ (I.hok.fresh (B0 _))⟩
end
structure M1(X:Cx) (o:B4) (m:Str) (fw:Pos) (e:B4) (bI:Pos):Prop where
 base:P7 o m X.env (N6 o X.env)=N6 o X.env
 few:((L3 bI (B1 [e] X.env)).all (fun x=>!x.1)&&(backToKw bI (R3 [] X.env)).all (fun x=>x.1.isSome)
 &&decide (([e]:List B4).length+([]:List Q3).length+(if([]:List Q3).isEmpty then 0 else 1)<30))=true
 line:(fw.endLine==bI.line)=true
 trees:L3 bI (B1 [e] X.env)=[(false,N6 e X.env)]
structure M2(X:Cx) (o:B4) (m:Str) (fw:Pos) (e f:B4) (bI:Pos):Prop where
 base:P7 o m X.env (N6 o X.env)=N6 o X.env
 few:((L3 bI (B1 [e,f] X.env)).all (fun x=>!x.1)&&(backToKw bI (R3 [] X.env)).all (fun x=>x.1.isSome)
 &&decide (([e,f]:List B4).length+([]:List Q3).length+(if([]:List Q3).isEmpty then 0 else 1)<30))=true
 line:(fw.endLine==bI.line)=true
 trees:L3 bI (B1 [e,f] X.env)=[(false,N6 e X.env),(false,N6 f X.env)]
noncomputable def av(X:Cx) (scope:M9) (cl:List (Str×A8)) (N:List Str) (C:A8) (s:v0) (H:Hp) (ex:List A8):Cx where
 prog:=X.prog
 w:=X.w
 K:=X.K
 mg:=X.mg
 base:=X.base
 A:=X.A
 N:=N
 s₀:=s
 H₀:=H
 env:=compEnvC scope cl C X.env
 outer:=X.stack
 stack:=X.stack
 ex:=ex
 calm:=X.calm
 fn:=fun _=>false
 pn:=[]
 xe:=fun _ _=>False
noncomputable def aU:List Bool->St->St
 |true::ms,v::σ=>v::aU ms σ
 |false::ms,_::σ=>none::aU ms σ
 |[],_::σ=>none::aU [] σ
 |_,[]=>[]
theorem aW:∀(ms:List Bool) (σ:St),(aU ms σ).length=σ.length
 |true::ms,v::σ=>by simp[aU,aW ms σ]
 |false::ms,_::σ=>by simp[aU,aW ms σ]
 |[],_::σ=>by simp[aU,aW [] σ]
 |[],[]=>by simp[aU]
 |true::_,[]=>by simp[aU]
 |false::_,[]=>by simp[aU]
theorem dO:∀{ms:List Bool}{σ:St}{i:Nat}{v:V},(aU ms σ)[i]?=some (some v)->ms[i]?=some true/\σ[i]?=some (some v)
 |true::ms,v::σ,0,x,h=>by simpa[aU]using h
 |true::ms,v::σ,i+1,x,h=>by
  have:=dO (ms:=ms) (σ:=σ) (i:=i) (v:=x) (by simpa[aU]using h);simpa using this
 |false::ms,_::σ,0,x,h=>by simp[aU]at h
 |false::ms,_::σ,i+1,x,h=>by
  have:=dO (ms:=ms) (σ:=σ) (i:=i) (v:=x) (by simpa[aU]using h);simpa using this
 |[],_::σ,0,x,h=>by simp[aU]at h
 |[],_::σ,i+1,x,h=>by
  have:=dO (ms:=[]) (σ:=σ) (i:=i) (v:=x) (by simpa[aU]using h);simpa using this
 |[],[],_,_,h=>by simp[aU]at h
 |true::_,[],_,_,h=>by simp[aU]at h
 |false::_,[],_,_,h=>by simp[aU]at h
def ej(ms:List Bool) (k:Nat) (σ:St):St:=aU ms σ++A7 k none
theorem oy{ms:List Bool}{k:Nat}{σ:St}{i:Nat}{v:V}(h:(ej ms k σ)[i]?=some (some v)):i<σ.length/\ms[i]?=some true/\σ[i]?=some (some v):=by
 unfold ej at h
 by_cases hi:i<(aU ms σ).length
 ·rw[C3 hi]at h;exact⟨by rwa [aW]at hi,dO h⟩
 ·rw[F3 (by omega),J9]at h
  split at h<;>cases h
structure c8(X:Cx) (scope:M9) (cl:List (Str×A8)) (ms:List Bool) (ai:List Str):Prop where
 kind:scope.kind=.function
 ncell:∀y∈scope.names,y.2≠.cell
 names:∀y∈scope.names,y.2=.local->scope.names.lookup y.1=some .local
 clos:closureFor scope X.env=O9 cl
 sub:∀x c,cl.lookup x=some c->X.env.cells.lookup x=some c
 has:∀x,scope.names.lookup x=some .free->∃c,cl.lookup x=some c
 fr:∀x,scope.names.lookup x=some .free->X.env.scope.names.lookup x=some .cell∨X.env.scope.names.lookup x=some .free
 mask:∀(i:Nat) (x:Str),ms[i]?=some true->X.N[i]?=some x->scope.names.lookup x=some .free
 mlen:ms.length<=X.N.length
theorem fI{env:Env}:∀{names:List (Str×D1)}{x:Str}{k:D1},
  (names.map fun(n,k)=>if(k==E9&&env.scope.kind==.function&&env.kindOf n==some .cell)then(n,M0)else(n,k)).lookup x=some k->(∀y∈names,y.2≠.cell)->k=.cell∨k=.free->names.lookup x=some .free
 |[],_,_,h,_,_=>by simp at h
 |(n,k0)::r,x,k,h,hc,hk=>by
  have ih:=@fI env r x k;have h:List.lookup x ((if(k0==E9&&env.scope.kind==.function&&env.kindOf n==some .cell)=true then(n,M0)else(n,k0))::_)=some k:=h;cases hx:x==n with
  |true =>
   by_cases hq:(k0==E9&&env.scope.kind==.function&&env.kindOf n==some .cell)=true
   ·have:k0=.free:=by
     simp at hq;exact hq.1.1
    subst this;simp[D4,hx]
   ·rw[if_neg hq]at h;simp only[D4,hx]at h;cases h;rcases hk with rfl|rfl
    ·exact absurd rfl (hc (n,.cell) E1)
    ·simp[D4,hx]
  |false =>
   by_cases hq:(k0==E9&&env.scope.kind==.function&&env.kindOf n==some .cell)=true
   ·rw[if_pos hq]at h;simp only[D4,hx]at h ⊢;exact ih h (fun y hy=>hc y (C4 _ hy)) hk
   ·rw[if_neg hq]at h;simp only[D4,hx]at h ⊢;exact ih h (fun y hy=>hc y (C4 _ hy)) hk
theorem fv{env:Env}:∀{names:List (Str×D1)}{x:Str},names.lookup x=some .free ->
  (names.map fun(n,k)=>if(k==E9&&env.scope.kind==.function&&env.kindOf n==some .cell)then(n,M0)else(n,k)).lookup x=some .cell ∨
  (names.map fun(n,k)=>if(k==E9&&env.scope.kind==.function&&env.kindOf n==some .cell)then(n,M0)else(n,k)).lookup x=some .free
 |[],_,h=>by simp at h
 |(n,k0)::r,x,h=>by
  have ih:=@fv env r x;show List.lookup x ((if(k0==E9&&env.scope.kind==.function&&env.kindOf n==some .cell)=true then(n,M0)else(n,k0))::_)=_∨List.lookup x ((if(k0==E9&&env.scope.kind==.function&&env.kindOf n==some .cell)=true then(n,M0)else(n,k0))::_)=_;cases hx:x==n with
  |true =>
   simp only[D4,hx]at h;cases h
   split
   ·left;simp[D4,hx]
   ·right;simp[D4,hx]
  |false =>
   simp only[D4,hx]at h
   split<;>(simp only[D4,hx];exact ih h)
section
variable{X:Cx}{aa:List (A8×Obj)}{σ:St}{H H2:Hp}{s s2:v0}{scope:M9}{cl:List (Str×A8)}{ms:List Bool}{ai:List Str}
theorem qZ(I:Inv X aa σ H s) (S:c8 X scope cl ms ai) {fp:List A8}(hfp:∀b∈fp,dY X aa H b) (hlt:∀b∈fp,b<s.heap.objs.size) {C:A8}(hC:s.heap.objs.size<=C) :
  (av X scope cl (X.N++ai) C s H fp).Ok where
 mod:=I.ok.mod
 kind:=S.kind
 glob:=I.ok.glob
 blt:=I.ok.blt
 above:=hC
 inj:=fun x y c h1 h2=>I.ok.inj x y c (S.sub x c h1) (S.sub y c h2)
 has:=fun x hx=>S.has x (fI (env:=X.env) (k:=if(av X scope cl (X.N++ai) C s H fp).env.kindOf x=some .cell then .cell else .free) (by
  rcases hx with hx|hx
  ·rw[if_pos hx];exact hx
  ·rw[if_neg (by rw[hx];decide)];exact hx) S.ncell (by split<;>simp))
 cab:=fun x c h=>by cases h
 hd:=I.ok.hd
 frames:=I.ok.frames
 stk:=.inl rfl
 exf:=fun b hb=>⟨B5 (B2 (hlt b hb) hC),fun x c e=>(hfp b hb).2.2.2.2.1 x c (S.sub x c e)⟩
 bs:=I.bs
 bsz:=D2 I.ok.bsz I.sz
 noex:=fun b o e hb=>by
  rcases(hfp b hb).2.2.2.1 with z|z
  ·exact I.ok.noex b o e z
  ·exact absurd (B2 (A6 e) (D2 I.ok.bsz z)) (J5 _)
 exfs:=fun b hb z=>by
  rcases K3.mp (I.stkSub b z)with e|e
  ·exact(hfp b hb).2.1 e
  ·exact(hfp b hb).2.2.1 e
 funs:=I.stack
 frf:=I.stkFree
theorem sx(I:Inv X aa σ H s) (S:c8 X scope cl ms ai) {fp:List A8}(hfp:∀b∈fp,dY X aa H b) (hlt:∀b∈fp,b<s.heap.objs.size) {C:A8}(hC:s.heap.objs.size<=C)
  (os:s2.os=s.os) (bare:P4 s2.gens) (keep:∀b o,s.heap.get? b=some o->s2.heap.get? b=some o) {m:Str->Option u8} (hn:s2.heap.Ns C m) :
  Inv (av X scope cl (X.N++ai) C s H fp) [] (ej ms ai.length σ) H s2 where
 ok:=qZ I S hfp hlt hC
 os:=os
 bare:=bare
 base:=Un.kept keep
 loc:=⟨m,hn,fun i x v h1 h2 h3=>by
  obtain⟨hi,hm,hv⟩:=oy h2;have hiN:i<X.N.length:=by rw[<-I.len];exact hi
  have hx:X.N[i]?=some x:=by
   have h1':(X.N++ai)[i]?=some x:=h1
   rwa [C3 hiN]at h1'
  have hf:=S.mask i x hm hx;obtain⟨m0,hn0,hl⟩:=I.loc;obtain⟨u,r,l⟩:=hl i x v hx hv (by rcases S.fr x hf with z|z<;>simp[Vis,z]);refine⟨u,r,.inr ⟨?_,?_⟩⟩
  ·exact fv (env:=X.env) hf
  ·obtain⟨c,hc⟩:=S.has x hf;have hc':=S.sub x c hc;rcases l with⟨k,_⟩|⟨_,c',e,z⟩
   ·rcases S.fr x hf with z|z<;>(have k':X.env.scope.names.lookup x=some .local:=k;rw[z]at k';cases k')
   ·rw[hc']at e;cases e;obtain⟨o,ho,hd⟩:=z;exact⟨c,hc,o,keep _ _ ho,hd⟩⟩
 cell:=fun x c e=>by
  obtain⟨v,o,ho,hd⟩:=I.cell x c (S.sub x c e);exact⟨v,o,keep _ _ ho,hd⟩
 free:=I.hok.fresh hC
 freeC:=fun x c e=>I.freeC x c (S.sub x c e)
 pin:=fun p hp=>absurd (show p∈([]:List (A8×Obj))from hp) (by simp)
 hok:=I.hok.kept keep
 len:=by
  unfold ej;rw[C8,aW,List.length_replicate,I.len];show _=(X.N++ai).length;rw[C8]
end
def PIf(X:Cx) (ifs:List B4) (t:TT):Prop :=
 ∀(aa:List (A8×Obj)) (s:v0) (σ:St) (H:Hp) (Q:Bool->Hp->Prop),Inv X aa σ H s->t σ H Q ->
  B7 (B8 X.prog X.w) X.A (forIn ifs true fun c r=>if r=true then do let ok <-isTrue c X.env (N6 c X.env);O9 (E3 ok)else O9 (E3 r)) (TP X aa σ Q) X.xe s
def Ac:TT:=fun _ H Q=>Q true H
theorem sU{X:Cx}:PIf X [] Ac:=fun _ _ _ H _ I h=>wpAny_tests_nil ⟨H,I,h⟩
theorem uI{X:Cx}{c:B4}{t:TT}(h:PT X c t):PIf X [c] t:=fun aa s σ H Q I q=>wpAny_tests_one (h aa s σ H Q I q)
abbrev cT(its:List u8) (n:Nat):Obj:={ cls:=.type "list",data:=.seq its.toArray n }
theorem thF{α:Type}{t:Sem α}{Q Q':α->v0->Prop}{M:Model}{A:D7}{E:u8->v0->Prop}{s:v0}(hE:E=fun _ _=>False) (h:B7 M A t Q E s) (hQ:∀a s,Q a s->Q' a s):B7 M A t Q' (fun _ _=>False) s:=C9 h hQ fun e s x=>by rw[hE]at x;exact x
abbrev lcE(el:B4) (gs:List O0) (sc:M9) (ps:Pos):B4:=.ListComp el gs sc ps
section
variable{prog:B9}{w:E6}{A:D7}{R:Result->v0->Prop}{s:v0}{el tg elt i:B4}{fs:List B4}{k:Nat}{p:Pos}{it acc:u8}{env:Env}{gs:List O0}{sc:M9}{ps:Pos}
abbrev AWt:=(v0->Prop)->v0->Prop
def nu(prog:B9) (w:E6) (A:D7) (elt:B4) (acc:u8) (env:Env):AWt:=fun Ok s=>B7 (B8 prog w) A (N6 elt env) (fun x s₄=>B7 (B8 prog w) A (call (.builtin "list.append") [acc,x]) (fun _ s₅=>Ok s₅) (fun _ _=>False) s₄) (fun _ _=>False) s
def rS(prog:B9) (w:E6) (A:D7) (ce:B4) (k:Nat) (i:B4) (acc:u8) (env:Env):AWt:=fun Ok s=>B7 (B8 prog w) A (N6 i env) (fun x s₄=>B7 (B8 prog w) A (S7 x) (fun it2 s₅ =>
 O2 (B8 prog w) A (.compStart ce k it2 acc env) (fun r s₆=>(∃f,r=.ok f)/\Ok s₆) s₅) (fun _ _=>False) s₄) (fun _ _=>False) s
def ud(ce:B4) (k:Nat) (p:Pos) (tg:B4) (fs:List B4) (bd:u8->u8->Env->Sem Fin):Prop:=∀it acc env,compTurn ce k it acc env=(do
  T0 p
  let r <-pyNext it
  match r with
   |none=>O9 (Fin.done Flow.next)
   |some v=>do
    L5 tg it v
    S6 tg env v
    let ok <-forIn fs true fun c r=>if r=true then do let ok <-PySem.isTrue c env (N6 c env);O9 (E3 ok)else O9 (E3 r)
    if ok=true then bd it acc env else again (K5 ce k it acc env))
def tM(prog:B9) (w:E6) (A:D7) (ce:B4) (k:Nat) (bd:u8->u8->Env->Sem Fin) (it acc:u8) (env:Env) (AW:AWt):Prop :=
 ∀Ok s (R:Result->v0->Prop) (E:u8->v0->Prop),AW Ok s->B7 (B8 prog w) A (bd it acc env) (fun fin s'=>match fin with|.done f=>R (.ok f) s'|.again c'=>c'=K5 ce k it acc env/\Ok s') E s
theorem iV{bd:u8->u8->Env->Sem Fin}{AW:AWt}(hT:ud (lcE el gs sc ps) k p tg fs bd) (hq:(K5 (lcE el gs sc ps) k it acc env).quiet=true:=by rfl) (hb:tM prog w A (lcE el gs sc ps) k bd it acc env AW) (I:Nat->v0->Prop)
  (turn:∀ n s,I n s → B7 (B8 prog w) A (pyNext it) (fun r s₁ => match r with
   |none=>R (.ok .next) s₁
   | some v => B7 (B8 prog w) A (L5 tg it v) (fun _ s₁ => B7 (B8 prog w) A (S6 tg env v) (fun _ s₂ =>
     B7 (B8 prog w) A (forIn fs true fun c r=>if r=true then do let ok <-isTrue c env (N6 c env);O9 (E3 ok)else O9 (E3 r)) (fun ok s₃ =>
      if ok=true then AW (fun s₅=>∃m,m<n/\I m s₅) s₃
      else ∃m,m<n/\I m s₃) (fun _ _=>False) s₂) (fun _ _=>False) s₁) (fun _ _=>False) s₁) (fun _ _=>False) s)
  (n:Nat) (h:I n s) :
  O2 (B8 prog w) A (.compLoop (lcE el gs sc ps) k it acc env) R s:=by
 refine codeAny_loop hq I (fun n s hI=>?_) n h;show B7 _ A ((compTurn (lcE el gs sc ps) k it acc env).onRaise (fun x=>do noteFrame x env;theTreesLotGoes x)) _ _ s;refine wpAny_noted ?_;rw[hT];refine A5 (P8 (A5 (C9 (turn n s hI) (fun r s₁ h₁=>?_) fun _ _ h'=>h'.elim)));cases r with
 |none=>exact A9 h₁
 |some v =>
  refine A5 (C9 h₁ (fun _ s1 h₁=>?_) fun _ _ h'=>h'.elim);refine A5 (C9 h₁ (fun _ s₂ h₂=>A5 (C9 h₂ (fun ok s₃ h₃=>?_) fun _ _ h'=>h'.elim)) fun _ _ h'=>h'.elim);cases ok with
  |false=>exact A9 ⟨rfl,h₃⟩
  |true=>exact hb _ _ _ _ h₃
noncomputable def vc(ce:B4) (k:Nat) (elt:B4):u8->u8->Env->Sem Fin:=fun it acc env=>bind (bind (N6 elt env) fun x=>bind (call (u8.builtin "list.append") [acc,x]) fun _=>O9 ()) fun(_:Unit)=>again (K5 ce k it acc env)
noncomputable def uZ(ce:B4) (k:Nat) (i:B4):u8->u8->Env->Sem Fin:=fun it acc env=>do
 let x <-N6 i env
 T0 i.pos
 let x <-D8 i env x
 let it2 <-holding [x] (S7 x)
 let _ <-runOwn (Code.compStart ce (k+1) it2 acc env) env
 again (K5 ce k it acc env)
theorem sm:tM prog w A (lcE el gs sc ps) k (vc (lcE el gs sc ps) k elt) it acc env (nu prog w A elt acc env):=fun Ok s R E h =>
 A5 (A5 (C9 h (fun x s₄ h₄=>A5 (C9 h₄ (fun _ s₅ h₅=>A9 (A9 ⟨rfl,h₅⟩)) fun _ _ h'=>h'.elim)) fun _ _ h'=>h'.elim))
theorem tN(hs:∀x,D8 i env x=O9 x):tM prog w A (lcE el gs sc ps) k (uZ (lcE el gs sc ps) k i) it acc env (rS prog w A (lcE el gs sc ps) (k+1) i acc env):=fun Ok s R E h=>by
 refine A5 (C9 h (fun x s₄ h₄=>A5 (P8 ?_)) fun _ _ h'=>h'.elim);rw[hs x];refine A5 (A9 (A5 (wpAny_holding (C9 h₄ (fun it2 s₅ h₅=>?_) fun _ _ h'=>h'.elim))));refine A5 (wpAny_runOwn (O8 h₅ fun r s₆ h₆=>?_));obtain⟨⟨f,rfl⟩,h₆⟩:=h₆;exact A9 ⟨rfl,h₆⟩
def rh(ce:B4) (k:Nat) (p:Pos):Prop:=∀it acc env,compStart ce k it acc env=(do
  let r <-ask
  if r.params.followText "comprehension-iter-twice"=true then again (K5 ce k it acc env)
   else do
    rule "comprehension.iter-twice"
    T0 p
    let i <-S7 it
    again (K5 ce k i acc env))
theorem gZ(hS:rh (lcE el gs sc ps) k p) (h:O2 (B8 prog w) A (.compLoop (lcE el gs sc ps) k it acc env) R s)
  (h2:B7 (B8 prog w) A (S7 it) (fun it' s'=>O2 (B8 prog w) A (.compLoop (lcE el gs sc ps) k it' acc env) R s') (fun _ _=>False) s) :
  O2 (B8 prog w) A (.compStart (lcE el gs sc ps) k it acc env) R s:=by
 refine codeAny_of_tree ?_;show B7 _ A ((compStart (lcE el gs sc ps) k it acc env).onRaise (fun x=>do noteFrame x env;T0 theWindowsPlace)) _ _ s;refine wpAny_onRaise ?_;rw[hS];refine A5 (wpAny_askSetting ?_);dsimp only
 split
 ·exact A9 ⟨rfl,h⟩
 ·exact A5 (wpAny_rule (A5 (P8 (A5 (C9 h2 (fun it' s' h'=>A9 ⟨rfl,h'⟩) fun _ _ h'=>h'.elim)))))
end
abbrev BK:=List V->St->Hp->(List V->St->Hp->Prop)->Prop
def fM(J:It) (g:TG) (tc:TT) (B:BK) (W:Nat->Nat->List V->St->Hp->Prop) (Z:List V->St->Hp->Prop):Prop :=
 ∀i m ys σ H,W i m ys σ H->ys.length<=A0/\((J.stop i H/\Z ys σ H) ∨
  (J.go i H/\∀x H',J.yld i H x H'->g x σ H' fun σ2 H2=>tc σ2 H2 fun b H3=>if b=true then B ys σ2 H3 (fun ys' σ' H'=>∃m',m'<m/\W (i+1) m' ys' σ' H')else ∃m',m'<m/\W (i+1) m' ys σ2 H3))
def ik(te:TE):BK:=fun ys σ H Z=>te σ H fun y H'=>Z (ys++[y]) σ H'
def qV(wi:TI) (g:TG) (tc:TT) (B:BK):BK:=fun ys σ H Z=>wi σ H fun J H'=>∃W:Nat->Nat->List V->St->Hp->Prop,(∃m,W 0 m ys σ H')/\fM J g tc B W Z
section
variable{Y:Cx}{D:A8}{el tg elt i1:B4}{fs:List B4}{g:TG}{tc:TT}{te:TE}{wi:TI}{B:BK}{k:Nat}{p:Pos}{gs:List O0}{sc:M9}{ps:Pos}
def uQ(Y:Cx) (D:A8) (AW:AWt) (B:BK):Prop:=∀(P:List (A8×Obj)) (its:List u8) (nn:Nat) (ys:List V) (σ:St) (H:Hp) (s:v0) (Z:List V->St->Hp->Prop),Inv Y ([(D,cT its nn)]++P) σ H s->ao ys its->ys.length<=A0->(∀p∈P,p.1≠D)->B ys σ H Z ->
 AW (fun s'=>∃ys' its' n' σ' H',Inv Y ([(D,cT its' n')]++P) σ' H' s'/\ao ys' its'/\Z ys' σ' H') s
structure g9(Y:Cx) (D:A8):Prop where
 pn:Y.pn=[]
 calm:Y.calm=true
 xe:Y.xe=fun _ _=>False
 ex:D∈Y.ex∨Y.s₀.heap.objs.size<=D
 cell:∀x c,Y.env.cells.lookup x=some c->c≠D
theorem AWt.mono_leaf{prog:B9}{w:E6}{A:D7}{acc:u8}{env:Env}{Ok Ok':v0->Prop}{s:v0}(h:nu prog w A elt acc env Ok s) (k:∀s,Ok s->Ok' s):nu prog w A elt acc env Ok' s :=
 C9 h (fun _ _ h1=>C9 h1 (fun _ _ h2=>k _ h2) fun _ _ x=>x) fun _ _ x=>x
theorem qg(c:g9 Y D) (he:PE Y elt te):uQ Y D (nu Y.prog Y.w Y.A elt (.ref D) Y.env) (ik te):=by
 intro P its nn ys σ H s Z I rv hz hPD q;refine thF c.xe (he _ s σ H _ I q) fun v s9 hup=>hup.el fun y H9 I9 r9 q9=>?_;have pacc:=I9.pin (D,cT its nn) (B3 _ (List.mem_append_left _ E1));have hzi:its.toArray.size<=A0:=by rw[A3,<-rv.length];exact hz
 refine PySem.wpAny_list_append_plain (hsz:=hzi) ⟨nn,pacc.1⟩ fun h' hl' hs'=>?_;obtain⟨n',hl'⟩:=hl';have I10:Inv Y [] σ H9 { s9 with heap:=h' } :=
  Inv.turned (t':=s9.toks) (it:=D) (I9.pins_of fun p hp=>absurd hp (by simp)) (fun b o hb e=>(hs'.2 b hb).trans e) pacc.2.1 pacc.2.2.1 c.ex c.cell (fun p hp=>absurd (show p∈([]:List (A8×Obj))from by rw[c.pn]at hp;exact hp) (by simp))
 refine⟨ys++[y],its++[v],n',σ,H9,I10.pins_of fun p hp=>?_,rv.append (.cons r9 .nil),q9⟩;rcases L1.mp hp with z|z
 ·have e:p=(D,cT (its++[v]) n'):=M7.mp z;subst e;refine⟨?_,pacc.2.1,pacc.2.2.1,pacc.2.2.2.1,fun v z=>by cases z⟩;rw[hl'];simp[cT]
 ·obtain⟨b1,b2,b3,b4,b5⟩:=I9.pin p (B3 _ (B3 _ z));exact⟨(hs'.2 _ (hPD p z)).trans b1,b2,b3,b4,b5⟩
structure Lv(Y:Cx) (D:A8) (ce:B4) (k:Nat) (p:Pos) (tg:B4) (fs:List B4) (B:BK):Prop where
 ex:∃bd AW,ud ce k p tg fs bd/\(∀it,tM Y.prog Y.w Y.A ce k bd it (.ref D) Y.env AW)/\uQ Y D AW B/\∀{Ok Ok':v0->Prop} {s:v0},AW Ok s->(∀s,Ok s->Ok' s)->AW Ok' s
theorem nr(c:g9 Y D) (he:PE Y elt te) (hT:ud (lcE el gs sc ps) k p tg fs (vc (lcE el gs sc ps) k elt)):Lv Y D (lcE el gs sc ps) k p tg fs (ik te):=⟨_,_,hT,fun _=>sm,qg c he,AWt.mono_leaf⟩
theorem jy(c:g9 Y D) (L:Lv Y D (lcE el gs sc ps) k p tg fs B) {it2:A8}
  (hg:PG Y tg g) (hif:PIf Y fs tc) {P:List (A8×Obj)} (hPD:∀p∈P,p.1≠D)
  {its0:List u8} {nn0:Nat} {ys0:List V} {σ:St} {H:Hp} {s:v0} (I:Inv Y ([(D,cT its0 nn0)]++P) σ H s) (rv0:ao ys0 its0) {fp2:List A8} {tn2:Nat->C5->Prop} {J2:It} (T:lj Y.prog Y.w Y.K tg J2 fp2 it2 tn2) (st:tn2 0 s.heap)
  (f:∀b∈fp2,dY Y ([(D,cT its0 nn0)]++P) H b) {W2:Nat->Nat->List V->St->Hp->Prop} {Z2:List V->St->Hp->Prop} {m0:Nat} (w0:W2 0 m0 ys0 σ H) (turn:fM J2 g tc B W2 Z2) {R:Result->v0->Prop}
  (hR:∀(s':v0) (ys:List V) (its:List u8) (n:Nat) (σ':St) (H':Hp),Inv Y ([(D,cT its n)]++P) σ' H' s'->ao ys its->ys.length<=A0->Z2 ys σ' H'->R (.ok .next) s') :
  O2 (B8 Y.prog Y.w) Y.A (.compLoop (lcE el gs sc ps) k (.ref it2) (.ref D) Y.env) R s:=by
 obtain⟨bd,AW,hT,hb,hB,hAW⟩:=L.ex;have fpc:∀{H:Hp} {n:Nat} {its:List u8},(∀b∈fp2,H b=none)->∀b∈fp2,dY Y ([(D,cT its n)]++P) H b:=fun hn b hb=>by
  obtain⟨_,a1,a2,a3,a4,a5⟩:=f b hb;refine⟨hn b hb,a1,a2,a3,a4,fun p hp=>?_⟩;rw[c.pn,List.nil_append]at hp;rcases L1.mp hp with z|z
  ·obtain rfl:=M7.mp z;exact a5 (D,cT its0 nn0) (by rw[c.pn];simp)
  ·exact a5 p (by rw[c.pn];simp[z])
 refine iV hT rfl (hb _) (fun n s'=>∃i ys its nn σ' H',Inv Y ([(D,cT its nn)]++P) σ' H' s'/\ao ys its/\tn2 i s'.heap/\(∀b∈fp2,H' b=none)/\W2 i n ys σ' H') ?_ m0
  ⟨0,ys0,its0,nn0,σ,H,I,rv0,st,fun b hb=>(f b hb).1,w0⟩
 rintro n s' ⟨i,ys,its,nn,σ',H',I4,rv,st4,fr4,w4⟩;obtain⟨hz,h⟩:=turn i n ys σ' H' w4;rcases h with⟨stop,hZ⟩|⟨go,step⟩
 ·refine thn (T.done Y rfl rfl rfl c.calm i _ s' _ H' (fun _ _=>False) I4 (fpc fr4) st4 stop) fun r s4 ⟨hr,I5⟩=>?_;subst hr;exact hR s4 ys its nn σ' H' I5 rv hz hZ
 ·refine thn (T.item Y rfl rfl rfl c.calm i _ s' _ H' (fun _ _=>False) I4 (fpc fr4) st4 go) fun r s5 ⟨u,hr,h5⟩=>?_;subst hr;refine thn h5 fun _ s6 ⟨x,H6,I6,r6,y6,st6,fr6⟩=>?_;have I6':=I6.pinned (fpc fr6) (T.obj _ _ st6);refine thF c.xe (hg _ s6 _ H6 x u _ I6' r6 (step x H6 y6)) fun _ s7 ⟨σ7,H7,I7,q7⟩=>?_;refine thF c.xe (hif _ s7 σ7 H7 _ I7 q7) fun ok s8 hup=>hup.el fun H8 I8 q8=>?_;have keepfp:∀{its:List u8} {nn:Nat} {σ9:St} {H9:Hp} {s9:v0},Inv Y (([(D,cT its nn)]++P)++eG fp2 s6.heap) σ9 H9 s9->tn2 (i+1) s9.heap/\∀b∈fp2,H9 b=none:=fun {its nn σ9 H9 s9} I9 =>
   ⟨T.keep _ _ _ st6 fun b hb o e=>(I9.pin (b,o) (B3 _ (B3 _ (c9 hb e)))).1,fun b hb=>by
    obtain⟨o,e,d⟩:=T.obj _ _ st6 b hb;exact(I9.pin (b,o) (B3 _ (B3 _ (c9 hb e)))).2.1⟩
  cases ok with
  |false =>
   obtain⟨m',hm,w8⟩:=q8;obtain⟨a8,b8⟩:=keepfp I8;exact⟨m',hm,i+1,ys,its,nn,σ7,H8,I8.unpinned,rv,a8,b8,w8⟩
  |true =>
   have hPD2:∀p∈P++eG fp2 s6.heap,p.1≠D:=fun p hp=>by
    rcases L1.mp hp with z|z
    ·exact hPD p z
    ·have hb:=(jf z).1;intro e;exact(f _ hb).2.2.2.2.2 (D,cT its0 nn0) (by rw[c.pn];simp) e.symm
   refine hAW (hB (P++eG fp2 s6.heap) its nn ys σ7 H8 s8 _ (by rw[<-List.append_assoc];exact I8) rv hz hPD2 q8) ?_;rintro s9 ⟨ys',its',n',σ',H',I',rv',m',hm,w'⟩;rw[<-List.append_assoc]at I';obtain⟨a9,b9⟩:=keepfp I';exact⟨m',hm,i+1,ys',its',n',σ',H',I'.unpinned,rv',a9,b9,w'⟩
theorem mO{prog:B9}{w:E6}{A:D7}{acc:u8}{env:Env}{Ok Ok':v0->Prop}{s:v0}(h:rS prog w A (lcE el gs sc ps) k i1 acc env Ok s) (h':∀s,Ok s->Ok' s):rS prog w A (lcE el gs sc ps) k i1 acc env Ok' s :=
 C9 h (fun _ _ h1=>C9 h1 (fun _ _ h2=>O8 h2 fun _ _ h3=>⟨h3.1,h' _ h3.2⟩) fun _ _ x=>x) fun _ _ x=>x
theorem tR{tg1:B4}{fs1:List B4}{p1:Pos}(c:g9 Y D) (L:Lv Y D (lcE el gs sc ps) (k+1) p1 tg1 fs1 B) (hS:rh (lcE el gs sc ps) (k+1) p1) (hs:∀x,D8 i1 Y.env x=O9 x) (hi:PI Y tg1 i1 wi) (hg:PG Y tg1 g) (hif:PIf Y fs1 tc)
  (hT:ud (lcE el gs sc ps) k p tg fs (uZ (lcE el gs sc ps) k i1)):Lv Y D (lcE el gs sc ps) k p tg fs (qV wi g tc B):=by
 refine⟨_,_,hT,fun _=>tN hs,?_,mO⟩;intro P its nn ys σ H s Z I rv hz hPD q;refine thF c.xe (hi _ s σ H _ I q) fun v s9 h9=>thF c.xe h9 fun itv s10 h10=>?_;obtain⟨it2,fp2,tn2,J2,H10,e,I10,T2,st10,f10,W2,⟨m2,w2⟩,cin⟩:=h10;subst e;have loop:=jy c L hg hif hPD I10 rv T2 st10 f10 w2 cin (R:=fun r s₆=>(∃f,r=.ok f)/\∃ys' its' n' σ' H',Inv Y ([(D,cT its' n')]++P) σ' H' s₆/\ao ys' its'/\Z ys' σ' H')
  (fun s' ys its n σ' H' I' rv' _ hZ=>⟨⟨_,rfl⟩,ys,its,n,σ',H',I',rv',hZ⟩)
 exact gZ hS loop (T2.self _ 0 _ _ _ st10 loop)
end
section
variable{X:Cx}{aa:List (A8×Obj)}{σ σ':St}{H2 H':Hp}{s2 s':v0}{scope:M9}{cl:List (Str×A8)}{ms:List Bool}{ai:List Str}{elt t0 i0:B4}{f0:List B4}{gs:List O0}{g0:TG}{tc0:TT}{B:BK}{p pos:Pos}
theorem jC(S:c8 X scope cl ms ai) (dj:X.calm=true)
  (hg0:∀C s H ex,PG (av X scope cl (X.N++ai) C s H ex) t0 g0) (hif0:∀C s H ex,PIf (av X scope cl (X.N++ai) C s H ex) f0 tc0)
  (hL:∀C s H ex D,g9 (av X scope cl (X.N++ai) C s H ex) D->Lv (av X scope cl (X.N++ai) C s H ex) D (lcE elt (⟨t0,i0,f0,0⟩::gs) scope pos) 0 p t0 f0 B)
  (I2:Inv X aa σ H2 s2) {it:A8} {fp:List A8} {tn:Nat->C5->Prop} {J:It} (T:lj X.prog X.w X.K t0 J fp it tn) (st2:tn 0 s2.heap) (fz:∀b∈fp,dY X aa H2 b)
  {W:Nat->Nat->List V->St->Hp->Prop} {Z:List V->St->Hp->Prop} {m0:Nat} (w0:W 0 m0 [] (ej ms ai.length σ) H2) (turn:fM J g0 tc0 B W Z)
  {RR:u8->A8->Result->v0->Prop} {E:u8->v0->Prop}
  (hRR:∀ (s':v0) (ys:List V) (its:List u8) (n:Nat) (σ':St) (H':Hp),Inv (av X scope cl (X.N ++ ai) (s2.heap.objs.size + 1) s2 H2 fp) [(s2.heap.objs.size,cT its n)] σ' H' s' → ao ys its → ys.length ≤ A0 → Z ys σ' H' →
   RR (.ref s2.heap.objs.size) (s2.heap.objs.size+1) (.ok .next) s') :
  B7 (B8 X.prog X.w) X.A (newList []) (fun acc s₃=>B7 (B8 X.prog X.w) X.A (newFunctionEnv scope X.env.globals cl [] X.env.qual none .none (some X.env)) (fun cenv s₄ =>
   O2 (B8 X.prog X.w) X.A (.compStart (lcE elt (⟨t0,i0,f0,0⟩::gs) scope pos) 0 (.ref it) acc { cenv with scope:=relabel scope X.env }) (RR acc cenv.locals) s₄) E s₃) E s2:=by
 refine I0 (wpAny_newFunctionEnv S.ncell (by intro y hy;simp at hy) (fun h₁ hns₁ hsb₁=>?_) S.kind);dsimp only at hns₁ hsb₁ ⊢;have hsz:(s2.heap.push { cls:=.type "list",dict:=none,data:=.seq ([]:List u8).toArray }).objs.size=s2.heap.objs.size+1:=by rw[C5.size_push]
 rw[hsz]at hns₁ hsb₁ ⊢;have hlt:∀b∈fp,b<s2.heap.objs.size:=fun b hb=>by
  obtain⟨o,e,_⟩:=T.obj _ _ st2 b hb;exact A6 e
 have old:∀b o,s2.heap.get? b=some o->h₁.get? b=some o:=fun b o e=>hsb₁.extBut b o (B5 (F0 (A6 e))) (A4 _ (A4 _ e));have hacc:h₁.get? s2.heap.objs.size=some (cT [] 0):=hsb₁.extBut _ _ (B5 (N8 _)) (A4 _ (B6 _ rfl));have hDn:H2 s2.heap.objs.size=none:=I2.hok.fresh (B0 _);have hDfs:∀b,s2.heap.objs.size<=b->b∉(av X scope cl (X.N++ai) (s2.heap.objs.size+1) s2 H2 fp).fs:=fun b hb z=>by
  rcases K3.mp (I2.stkSub b z)with e|e
  ·subst e;exact absurd (B2 I2.lt hb) (J5 _)
  ·exact I2.nofs hb e
 have loop:∀s₃:v0,s₃={ s2 with heap:=h₁,toks:=s2.toks+([]:List (Str×u8)).length } ->
   O2 (B8 X.prog X.w) X.A (.compLoop (lcE elt (⟨t0,i0,f0,0⟩::gs) scope pos) 0 (.ref it) (.ref s2.heap.objs.size) (compEnvC scope cl (s2.heap.objs.size+1) X.env)) (RR (.ref s2.heap.objs.size) (s2.heap.objs.size+1)) s₃:=by
  rintro s₃ rfl;have I3:Inv (av X scope cl (X.N++ai) (s2.heap.objs.size+1) s2 H2 fp) [] (ej ms ai.length σ) H2 { s2 with heap:=h₁,toks:=s2.toks+([]:List (Str×u8)).length } :=
   sx I2 S fz hlt (Nat.le_succ _) rfl I2.bare old hns₁
  have c:g9 (av X scope cl (X.N++ai) (s2.heap.objs.size+1) s2 H2 fp) s2.heap.objs.size:=⟨rfl,dj,rfl,.inr (B0 _),fun x c e=>by
   obtain⟨v,o,ho,_⟩:=I2.cell x c (S.sub x c e);exact B5 (A6 ho)⟩
  refine jy c (hL _ _ _ _ _ c) (hg0 _ _ _ _) (hif0 _ _ _ _) (P:=[]) (fun p hp=>nomatch hp) (its0:=[]) (nn0:=0) (I3.pins_of fun p hp=>?_) .nil T (T.keep _ _ _ st2 fun b _ o e=>old b o e) (fun b hb=>?_) w0 turn ?_
  ·have e:p=(s2.heap.objs.size,cT [] 0):=M7.mp hp;subst e;exact⟨hacc,hDn,B5 (N8 _),hDfs _ (B0 _),fun v z=>by cases z⟩
  ·exact⟨(fz b hb).1,B5 (F0 (hlt b hb)),(qZ I2 S fz hlt (Nat.le_succ _)).exfs b hb,.inl hb,fun x c e=>(fz b hb).2.2.2.2.1 x c (S.sub x c e),fun p hp=>by
    have:p=(s2.heap.objs.size,_):=M7.mp (show p∈[(s2.heap.objs.size,_)]from hp);subst this;exact Q0 (hlt b hb)⟩
  ·exact fun s' ys its n σ' H' I' rv hz hZ=>hRR s' ys its n σ' H' I' rv hz hZ
 exact codeAny_compStart_list (loop _ rfl) (T.self _ 0 _ _ _ (T.keep _ _ _ st2 fun b _ o e=>old b o e) (loop _ rfl))
end
section
variable{X:Cx}{aa:List (A8×Obj)}{σ σ':St}{H2 H':Hp}{s2 s':v0}{scope:M9}{cl:List (Str×A8)}{ms:List Bool}{ai:List Str}{tg iter elt:B4}{ifs:List B4}{g:TG}{tc:TT}{te:TE}{pos p:Pos}{B:BK}{gs:List O0}
theorem jc(I2:Inv X aa σ H2 s2) {fp:List A8}(f2:∀b∈fp,dY X aa H2 b) {its:List u8}{n:Nat}{ys:List V}
  (I':Inv (av X scope cl (X.N++ai) (s2.heap.objs.size+1) s2 H2 fp) [(s2.heap.objs.size,cT its n)] σ' H' s') (rv:ao ys its) (hz:ys.length<=A0) {h':C5} (hs:O7 (s2.heap.objs.size+1) s'.heap h') :
  Inv X aa σ (upd H' s2.heap.objs.size (.lst ys)) { s' with heap:=h' }/\H' s2.heap.objs.size=none:=by
 have pacc:=I'.pin (s2.heap.objs.size,cT its n) (B3 _ E1);have hC:H' (s2.heap.objs.size+1)=none:=I'.free;have hD:H' s2.heap.objs.size=none:=pacc.2.1;have up:∀b o,b≠s2.heap.objs.size+1->s'.heap.get? b=some o->h'.get? b=some o:=fun b o hb e=>(hs.2 b hb).trans e;have nD:∀b u,H' b=some u->b≠s2.heap.objs.size:=fun b u e z=>by rw[z,hD]at e;cases e
 have nC:∀b u,H' b=some u->b≠s2.heap.objs.size+1:=fun b u e z=>by rw[z,hC]at e;cases e
 have hacc:h'.get? s2.heap.objs.size=some (cT its n):=up _ _ (B5 (N8 _)) pacc.1;have hok:HOk X.prog X.w (upd H' s2.heap.objs.size (.lst ys)) h':=fun b u e=>by
  by_cases hb:b=s2.heap.objs.size
  ·subst hb;rw[aC]at e;cases e;exact⟨hz,its,n,rv,hacc⟩
  ·rw[ax hb]at e;refine(I'.hok b u e).stay (fun c v hc q=>up c v ?_ q) (fun c q=>by rw[ax (nD c _ q)];exact q) fun c xs q=>by rw[ax (nD c _ q)];exact q
   rcases hc with rfl|hc
   ·exact nC _ _ e
   ·exact nC _ _ hc
 have un:Un (frs X.stack) fp H2 (upd H' s2.heap.objs.size (.lst ys)) s2.heap h':=by
  have U:=I'.base;have ltD:∀b o,s2.heap.get? b=some o->b≠s2.heap.objs.size:=fun b o e=>B5 (A6 e);have ltC:∀b o,s2.heap.get? b=some o->b≠s2.heap.objs.size+1:=fun b o e=>B5 (F0 (A6 e));refine⟨fun b o e nb hb hx=>up b o (ltC b o e) (U.keep b o e nb hb hx),fun b o e nb hb hx=>?_,fun b o e nb hx=>by rw[ax (ltD b o e)];exact U.free b o e nb hx,fun b o e hx=>?_,
   fun b xs e=>by have q:=U.tups b xs e;rw[ax (nD b _ q)];exact q,fun b o u e=>by have q:=U.frzs b o u e;rw[ax (nD b _ q)];exact q,fun b ps e=>?_⟩
  ·obtain⟨sl,q⟩:=U.slot b o e nb hb hx;exact⟨sl,up b _ (ltC b o e) q⟩
  ·obtain⟨o',q⟩:=U.there b o e hx;exact⟨o',up b _ (ltC b o e) q⟩
  ·obtain⟨more,q⟩:=U.tbls b ps e;exact⟨more,by rw[ax (nD b _ q)];exact q⟩
 exact⟨I2.call' (s':={ s' with heap:=h' }) (ch:=fp) I'.os un hok I'.bare fun b hb=>⟨(f2 b hb).2.2.2.1,(f2 b hb).2.1,(f2 b hb).2.2.2.2.1,(f2 b hb).2.2.2.2.2⟩,hD⟩
def tO(ms:List Bool) (k:Nat) (wi:TI) (g:TG) (tc:TT) (B:BK):TE:=fun σ H Q=>wi σ H fun J H1=>∃(W:Nat->Nat->List V->St->Hp->Prop) (Z:List V->St->Hp->Prop),(∃m,W 0 m [] (ej ms k σ) H1)/\fM J g tc B W Z /\
 ∀ys σ' H p,Z ys σ' H->H p=none->Q (.ref p) (upd H p (.lst ys))
abbrev tLc(ms:List Bool) (k:Nat) (wi:TI) (g:TG) (tc:TT) (te:TE):TE:=tO ms k wi g tc (ik te)
abbrev LvC(X:Cx) (scope:M9) (cl:List (Str×A8)) (ai:List Str) (ce:B4) (p:Pos) (tg:B4) (ifs:List B4) (B:BK):Prop:=∀C s H ex D,g9 (av X scope cl (X.N++ai) C s H ex) D->Lv (av X scope cl (X.N++ai) C s H ex) D ce 0 p tg ifs B
theorem rm(S:c8 X scope cl ms ai) (dj:X.calm=true) {wi:TI}(hi:PI X tg iter wi)
  (hg:∀C s H ex,PG (av X scope cl (X.N++ai) C s H ex) tg g) (hif:∀C s H ex,PIf (av X scope cl (X.N++ai) C s H ex) ifs tc) (hL:LvC X scope cl ai (lcE elt (⟨tg,iter,ifs,0⟩::gs) scope pos) p tg ifs B)
  (hs:∀x,D8 iter X.env x=O9 x:=by intro _;rfl):PE X (lcE elt (⟨tg,iter,ifs,0⟩::gs) scope pos) (tO ms ai.length wi g tc B):=by
 intro aa s σ H Q I h;rw[eval_ListComp];refine wpAny_comprehension_free (use:=none) rfl hs S.clos S.kind S.names (thn (hi aa s σ H _ I h) fun v s1 h1=>thn h1 fun itv s2 h2=>?_);obtain⟨it,fp,tn,J,H2,e,I2,T,st2,f2,W,Z,⟨m0,w0⟩,turn,q⟩:=h2;subst e;refine jC S dj hg hif hL I2 T st2 f2 w0 turn (RR:=fun acc C=>compPost (B8 X.prog X.w) X.A X.xe none (EP X aa σ Q) acc C) ?_;intro s' ys its n σ' H' I' rv hz hZ;obtain⟨m,hm,_⟩:=I'.loc;refine⟨m,hm,fun h' hs'=>?_⟩;obtain⟨I3,hD⟩:=jc I2 f2 I' rv hz hs';exact⟨.ref s2.heap.objs.size,_,I3,rfl,q ys _ H' _ hZ hD⟩
theorem oC{i:Nat}{x:Str}{spos pos':Pos}(hN:X.N.Nodup) (hix:X.N[i]?=some x) (hx:X.env.scope.names.lookup x=some .local)
  (hsw:P0 (lcE elt (⟨tg,iter,ifs,0⟩::gs) scope pos) (some (.Name x pos')) spos.line X.env=O9 true)
  (S:c8 X scope cl ms ai) (dj:X.calm=true) {wi:TI} (hi:PI X tg iter wi)
  (hg:∀C s H ex,PG (av X scope cl (X.N++ai) C s H ex) tg g) (hif:∀C s H ex,PIf (av X scope cl (X.N++ai) C s H ex) ifs tc) (hL:LvC X scope cl ai (lcE elt (⟨tg,iter,ifs,0⟩::gs) scope pos) p tg ifs B)
  (hs:∀x,D8 iter X.env x=O9 x:=by intro _;rfl):PS X (.Assign [.Name x pos'] (lcE elt (⟨tg,iter,ifs,0⟩::gs) scope pos) spos) (xT (tO ms ai.length wi g tc B) (lR i)):=by
 intro aa s σ H D I h;rw[exec_Assign_Name_used _ _ _ _ hsw];refine A5 (P8 (A5 ?_));show B7 _ _ (do let _ <-comprehension (lcE elt (⟨tg,iter,ifs,0⟩::gs) scope pos) scope X.env _ (newList []) false (N6 iter X.env) (some (S6 (.Name x pos') X.env))) _ _ s;refine A5 (C9 (wpAny_comprehension_free (use:=some (S6 (.Name x pos') X.env)) (Q:=fun _ s'=>SP X aa D .next s') rfl hs S.clos S.kind S.names
  (thn (hi aa s σ H _ I h) fun v s1 h1=>thn h1 fun itv s2 h2=>?_)) (fun _ s' hq=>A9 (A9 hq)) fun _ _ e=>e)
 obtain⟨it,fp,tn,J,H2,e,I2,T,st2,f2,W,Z,⟨m0,w0⟩,turn,q⟩:=h2;subst e;refine jC S dj hg hif hL I2 T st2 f2 w0 turn (RR:=fun acc C=>compPost (B8 X.prog X.w) X.A X.xe (some (S6 (.Name x pos') X.env)) (fun _ s'=>SP X aa D .next s') acc C) ?_;intro s' ys its n σ' H' I' rv hz hZ;obtain⟨m,hm,_⟩:=I'.loc;obtain⟨I3,hD⟩:=jc I2 f2 I' rv hz (O7.refl (s2.heap.objs.size+1) s'.heap);have hq:=q ys _ H' _ hZ hD;show B7 _ _ (S6 (.Name x pos') X.env (.ref s2.heap.objs.size)) _ _ _;refine wpAny_assign_Name (jh I3 hN hix (.inl hx) (v:=.ref s2.heap.objs.size) rfl (fun s4 I4 hsame=>?_) (.inr hx));obtain⟨a,hsb,ha⟩:=hsame;have hLC:s2.heap.objs.size+1≠X.env.locals:=Q0 (F0 I2.lt);have haC:s2.heap.objs.size+1≠a:=by
  rcases ha with rfl|ha
  ·exact hLC
  ·intro z;obtain⟨v,o,ho,_⟩:=I2.cell x a ha;exact absurd (F0 (A6 ho)) (by rw[<-z];exact J5 _)
 have hCn:upd H' s2.heap.objs.size (.lst ys) (s2.heap.objs.size+1)=none:=by rw[ax (Q0 (N8 _))];exact I'.free
 refine⟨m,hm.sameBut hsb haC,fun h' hs'=>?_⟩;refine⟨_,_,?_,hq⟩;have hL:∀b o,b≠s2.heap.objs.size+1->s4.heap.get? b=some o->h'.get? b=some o:=fun b o hb e=>(hs'.2 b hb).trans e;have I5:=Inv.turned (t':=s4.toks) (h':=h') (it:=s2.heap.objs.size+1) I4 (fun b o hb e=>hL b o hb e) hCn hLC (.inr (Nat.le_succ_of_le I2.sz)) (fun y c e=>by
  obtain⟨v,o,ho,_⟩:=I2.cell y c e;exact B5 (F0 (A6 ho))) (fun p hp=>by
  exact B5 (F0 (A6 (I2.pin p hp).1)))
 exact I5
theorem qO(he:∀C s H ex,PE (av X scope cl (X.N++ai) C s H ex) elt te):LvC X scope cl ai (lcE elt [⟨tg,iter,ifs,0⟩] scope pos) iter.pos tg ifs (ik te):=fun _ _ _ _ _ c=>nr c (he _ _ _ _) fun _ _ _=>rfl
end
inductive Bx where
 |dk (ks:List Key)|dt (ks:List (List Key))|ins (C:A8) (fs:List Str)|key
 deriving Inhabited
inductive D where
 |non|bl (b:Bool)|int (i:Int)|str (x:Str)|tup (ds:List D)|lst (ds:List D)|scr (ds:List D)|emp|ref (a:A8)|box (t:Bx) (ds:List D)
 deriving Inhabited
inductive HD where
 |lst (ds:List D)|dK (kvs:List (Key×D))|dT (kvs:List (List Key×D))|dKr (o:Obj) (ks:List (Key×V)) (kvs:List (Key×D))|ins (C:A8) (fs:List (Str×D))
 |ext (φ:List V->C5->Prop) (ds:List D)
 deriving Inhabited
abbrev DH:=A8->Option HD
def aD(M:DH) (a:A8) (o:HD):DH:=fun b=>if b=a then some o else M b
def o8(M:DH) (a:A8):DH:=fun b=>if b=a then none else M b
abbrev noM:DH:=fun _=>none
theorem bp{M:DH}{a:A8}{o:HD}:aD M a o a=some o:=if_pos rfl
theorem da{M:DH}{a b:A8}{o:HD}(h:b≠a):aD M a o b=M b:=if_neg h
theorem fH{M:DH}{a:A8}{o u:HD}:aD (aD M a o) a u=aD M a u:=by
 funext b;unfold aD;split<;>rfl
theorem o7{M:DH}{a:A8}:o8 M a a=none:=if_pos rfl
theorem fk{M:DH}{a:A8}{o:HD}(h:M a=none):o8 (aD M a o) a=M:=by
 funext b;unfold o8 aD;split
 ·rename_i e;rw[e,h]
 ·rfl
def iX(K:o0) (M:DH) (H:Hp) (a:A8) (vs:List V):Prop:=(Rd H a (.tup vs)/\M a=none)∨SqT K (fun _=>none) a vs
def nT(M:DH) (H:Hp) (a:A8) (vs:List V):Prop:=H a=some (.lst vs)/\M a=none
def ji(K:o0) (M:DH) (H:Hp) (a:A8) (vs:List V):Prop:=((∃o,H a=some (.frz o (.lst vs)))/\M a=none)∨SqL K (fun _=>none) a vs
def yO(M:DH) (H:Hp) (a:A8):Prop:=H a=some (.dK [])/\M a=none
def oq(M:DH) (H:Hp) (a:A8):Bx->List V->Prop
 |.dk ks,vs=>ks.length=vs.length/\(∃o,H a=some (.frz o (.dK (ks.zip vs))))/\M a=none
 |.dt ks,vs=>ks.length=vs.length/\(∃o,H a=some (.frz o (.dT (ks.zip vs))))/\M a=none
 |.ins C fs,vs=>fs.length=vs.length/\(∃dx,H a=some (.ins C dx (fs.zip vs)))/\M a=none
 |.key,vs=>True/\(∃_u:Unit,H a=some (.tup vs))/\M a=none
mutual
def Rep(K:o0) (M:DH) (H:Hp):D->V->Prop
 |.non,v=>v=.non
 |.bl b,v=>v=.bl b
 |.int i,v=>v=.int i
 |.str x,v=>v=.str x
 |.tup ds,v=>∃a vs,v=.ref a/\iX K M H a vs/\ag K M H ds vs
 |.lst ds,v=>∃a vs,v=.ref a/\nT M H a vs/\ag K M H ds vs
 |.scr ds,v=>∃a vs,v=.ref a/\ji K M H a vs/\ag K M H ds vs
 |.emp,v=>∃a,v=.ref a/\yO M H a
 |.ref a,v=>v=.ref a
 |.box t ds,v=>∃a vs,v=.ref a/\oq M H a t vs/\ag K M H ds vs
def ag(K:o0) (M:DH) (H:Hp):List D->List V->Prop
 |[],vs=>vs=[]
 |d::ds,vs=>∃v ws,vs=v::ws/\Rep K M H d v/\ag K M H ds ws
end
def Ext(M:DH) (H:Hp) (M':DH) (H':Hp):Prop:=∀a o,H a=some o->M a=none->H' a=some o/\M' a=none
theorem Ext.refl(M:DH) (H:Hp):Ext M H M H:=fun _ _ h n=>⟨h,n⟩
theorem Ext.trans{M M1 M2:DH}{H H1 H2:Hp}(a:Ext M H M1 H1) (b:Ext M1 H1 M2 H2):Ext M H M2 H2:=fun c o h n=>b c o (a c o h n).1 (a c o h n).2
variable{K:o0}{M M' M1 M2:DH}{H H' H1 H2:Hp}
theorem iX.ext{a:A8}{vs:List V}(h:iX K M H a vs) (e:Ext M H M' H'):iX K M' H' a vs:=by
 rcases h with⟨r|⟨o,r⟩,n⟩|h
 ·exact .inl ⟨.inl (e a _ r n).1,(e a _ r n).2⟩
 ·exact .inl ⟨.inr ⟨o,(e a _ r n).1⟩,(e a _ r n).2⟩
 ·exact .inr h
theorem nT.ext{a:A8}{vs:List V}(h:nT M H a vs) (e:Ext M H M' H'):nT M' H' a vs:=e a _ h.1 h.2
theorem ji.ext{a:A8}{vs:List V}(h:ji K M H a vs) (e:Ext M H M' H'):ji K M' H' a vs:=by
 rcases h with⟨⟨o,r⟩,n⟩|h
 ·exact .inl ⟨⟨o,(e a _ r n).1⟩,(e a _ r n).2⟩
 ·exact .inr h
theorem oq.ext{a:A8}{t:Bx}{vs:List V}(h:oq M H a t vs) (e:Ext M H M' H'):oq M' H' a t vs:=by
 cases t<;>(obtain⟨l,⟨o,r⟩,n⟩:=h;exact⟨l,⟨o,(e a _ r n).1⟩,(e a _ r n).2⟩)
mutual
theorem Rep.ext:∀{d:D}{v:V},Rep K M H d v->Ext M H M' H'->Rep K M' H' d v
 |.non,_,h,_=>h
 |.bl _,_,h,_=>h
 |.int _,_,h,_=>h
 |.str _,_,h,_=>h
 |.ref _,_,h,_=>h
 |.emp,_,h,e=>by
  simp only[Rep]at h ⊢;obtain⟨a,rfl,h1,h2⟩:=h;exact⟨a,rfl,e a _ h1 h2⟩
 |.tup ds,_,h,e=>by
  simp only[Rep]at h ⊢;obtain⟨a,vs,rfl,h1,h2⟩:=h;exact⟨a,vs,rfl,h1.ext e,ag.ext h2 e⟩
 |.lst ds,_,h,e=>by
  simp only[Rep]at h ⊢;obtain⟨a,vs,rfl,h1,h2⟩:=h;exact⟨a,vs,rfl,h1.ext e,ag.ext h2 e⟩
 |.scr ds,_,h,e=>by
  simp only[Rep]at h ⊢;obtain⟨a,vs,rfl,h1,h2⟩:=h;exact⟨a,vs,rfl,h1.ext e,ag.ext h2 e⟩
 |.box t ds,_,h,e=>by
  simp only[Rep]at h ⊢;obtain⟨a,vs,rfl,h1,h2⟩:=h;exact⟨a,vs,rfl,h1.ext e,ag.ext h2 e⟩
theorem ag.ext:∀{ds:List D}{vs:List V},ag K M H ds vs->Ext M H M' H'->ag K M' H' ds vs
 |[],_,h,_=>h
 |d::ds,_,h,e=>by
  simp only[ag]at h ⊢;obtain⟨v,ws,rfl,h1,h2⟩:=h;exact⟨v,ws,rfl,Rep.ext h1 e,ag.ext h2 e⟩
end
theorem ag.length:∀{ds:List D}{vs:List V},ag K M H ds vs->ds.length=vs.length
 |[],_,h=>by simp only[ag]at h;subst h;rfl
 |d::ds,_,h=>by
  simp only[ag]at h;obtain⟨v,ws,rfl,h1,h2⟩:=h;simp[ag.length h2]
theorem ag.nil:ag K M H [] []:=by simp[ag]
theorem ag.cons{d:D}{v:V}{ds:List D}{vs:List V}(h:Rep K M H d v) (t:ag K M H ds vs):ag K M H (d::ds) (v::vs):=by
 simp only[ag];exact⟨v,vs,rfl,h,t⟩
theorem ag.append:∀{ds es:List D}{vs ws:List V},ag K M H ds vs->ag K M H es ws->ag K M H (ds++es) (vs++ws)
 |[],_,_,_,h,t=>by simp only[ag]at h;subst h;exact t
 |d::ds,es,_,ws,h,t=>by
  simp only[ag]at h;obtain⟨v,us,rfl,h1,h2⟩:=h;exact ag.cons h1 (ag.append h2 t)
theorem ag.get:∀{ds:List D}{vs:List V}{i:Nat}{d:D},ag K M H ds vs->ds[i]?=some d->∃v,vs[i]?=some v/\Rep K M H d v
 |[],_,_,_,_,e=>by simp at e
 |d::ds,_,0,x,h,e=>by
  simp only[ag]at h;obtain⟨v,us,rfl,h1,h2⟩:=h;simp at e;subst e;exact⟨v,rfl,h1⟩
 |d::ds,_,i+1,x,h,e=>by
  simp only[ag]at h;obtain⟨v,us,rfl,h1,h2⟩:=h;obtain⟨w,a,b⟩:=ag.get (i:=i) (d:=x) h2 (by simpa using e);exact⟨w,by simpa using a,b⟩
theorem ag.take:∀{ds:List D}{vs:List V}(n:Nat),ag K M H ds vs->ag K M H (ds.take n) (vs.take n)
 |ds,vs,0,_=>by simp[ag]
 |[],_,n+1,h=>by simp only[ag]at h;subst h;simp[ag]
 |d::ds,_,n+1,h=>by
  simp only[ag]at h;obtain⟨v,us,rfl,h1,h2⟩:=h;exact ag.cons h1 (ag.take n h2)
theorem ag.drop:∀{ds:List D}{vs:List V}(n:Nat),ag K M H ds vs->ag K M H (ds.drop n) (vs.drop n)
 |ds,vs,0,h=>h
 |[],_,n+1,h=>by simp only[ag]at h;subst h;simp[ag]
 |d::ds,_,n+1,h=>by
  simp only[ag]at h;obtain⟨v,us,rfl,h1,h2⟩:=h;exact ag.drop n h2
theorem ag.set:∀{ds:List D}{vs:List V}{d:D}{v:V}(n:Nat),ag K M H ds vs->Rep K M H d v->ag K M H (ds.set n d) (vs.set n v)
 |[],_,_,_,n,h,r=>by simp only[ag]at h;subst h;simp[ag]
 |d::ds,_,_,_,0,h,r=>by
  simp only[ag]at h;obtain⟨v,us,rfl,h1,h2⟩:=h;exact ag.cons r h2
 |d::ds,_,_,_,n+1,h,r=>by
  simp only[ag]at h;obtain⟨v,us,rfl,h1,h2⟩:=h;exact ag.cons h1 (ag.set n h2 r)
theorem ag.one{d:D}{vs:List V}(h:ag K M H [d] vs):∃v,vs=[v]/\Rep K M H d v:=by
 simp only[ag]at h;obtain⟨v,us,rfl,h1,rfl⟩:=h;exact⟨v,rfl,h1⟩
theorem ag.two{d e:D}{vs:List V}(h:ag K M H [d,e] vs):∃v w,vs=[v,w]/\Rep K M H d v/\Rep K M H e w:=by
 simp only[ag]at h;obtain⟨v,us,rfl,h1,w,ws,rfl,h2,rfl⟩:=h;exact⟨v,w,rfl,h1,h2⟩
def KR(K:o0) (M:DH) (H:Hp) {κ:Type}:List (κ×D)->List (κ×V)->Prop:=F2 fun p q=>p.1=q.1/\Rep K M H p.2 q.2
theorem KR.ext{κ:Type}{kvs:List (κ×D)}{ks:List (κ×V)}(h:KR K M H kvs ks) (e:Ext M H M' H'):KR K M' H' kvs ks:=F2.imp' (fun _ _ r=>⟨r.1,r.2.ext e⟩) h
def gP(K:o0) (M:DH) (H:Hp) (a:A8):HD->Prop
 |.lst ds=>∃vs,H a=some (.lst vs)/\ag K M H ds vs
 |.dK kvs=>∃ks,H a=some (.dK ks)/\KR K M H kvs ks
 |.dT kvs=>∃ks,H a=some (.dT ks)/\KR K M H kvs ks
 |.dKr o ks kvs=>∃_u:Unit,H a=some (.frz o (.dK ks))/\KR K M H kvs ks
 |.ins C fs=>∃gs,(∃dx,H a=some (.ins C dx gs))/\KR K M H fs gs
 |.ext φ ds=>∃vs,H a=some (.ext (φ vs))/\ag K M H ds vs
def HR(K:o0) (M:DH) (H:Hp):Prop:=∀a o,M a=some o->gP K M H a o
theorem gP.some{a:A8}{o:HD}(h:gP K M H a o):∃u,H a=D9 u/\∀xs,u≠.tup xs/\∀ob,u≠.frz ob (.tup xs):=by
 cases o with
 |ins C fs=>obtain⟨gs,⟨dx,r⟩,_⟩:=h;exact⟨_,r,fun xs=>⟨(by intro z;cases z),(by intro ob z;cases z)⟩⟩
 |_=>obtain⟨vs,r,_⟩:=h;exact⟨_,r,fun xs=>⟨(by intro z;cases z),(by intro ob z;cases z)⟩⟩
theorem gP.keep{a:A8}{o:HD}(h:gP K M H a o) (e:Ext M H M' H') (q:H' a=H a):gP K M' H' a o:=by
 cases o with
 |ins C fs=>obtain⟨gs,⟨dx,r⟩,t⟩:=h;exact⟨gs,⟨dx,by rw[q];exact r⟩,t.ext e⟩
 |_=>obtain⟨vs,r,t⟩:=h;exact⟨vs,by rw[q];exact r,t.ext e⟩
theorem HR.fresh(h:HR K M H) {p:A8}(e:H p=none):M p=none:=by
 cases q:M p with
 |none=>rfl
 |some o =>
  obtain⟨u,r,_⟩:=(h p _ q).some;rw[e]at r;cases r
theorem HR.nil:HR K noM H:=fun _ _ h=>nomatch h
theorem Ext.new{p:A8}{o:HO}(hr:HR K M H) (h:H p=none):Ext M H M (upd H p o):=fun a u e n=>by
 have:a≠p:=aX e h;rw[ax this];exact⟨e,n⟩
theorem HR.ext1(h:HR K M H) (e:Ext M H M H') (keep:∀a o,M a=some o->H' a=H a):HR K M H':=fun a o q=>(h a o q).keep e (keep a o q)
theorem HR.new{p:A8}{o:HO}(hr:HR K M H) (h:H p=none):HR K M (upd H p o):=hr.ext1 (Ext.new hr h) fun a u q=>by
 have:a≠p:=fun z=>by rw[z,hr.fresh h]at q;cases q
 rw[ax this]
theorem Ext.own{p:A8}{o:HO}{u:HD}(h:H p=none):Ext M H (aD M p u) (upd H p o):=fun a x e n=>by
 have:a≠p:=aX e h;rw[ax this,da this];exact⟨e,n⟩
theorem HR.put{p:A8}{o:HO}{u:HD}(hr:HR K M H) (e:Ext M H (aD M p u) (upd H p o)) (c:gP K (aD M p u) (upd H p o) p u):HR K (aD M p u) (upd H p o):=fun a w q=>by
 by_cases z:a=p
 ·subst z;rw[bp]at q;cases q;exact c
 ·rw[da z]at q;exact(hr a w q).keep e (ax z)
theorem HR.own{p:A8}{ds:List D}{vs:List V}(hr:HR K M H) (h:H p=none) (r:ag K M H ds vs):HR K (aD M p (.lst ds)) (upd H p (.lst vs)) :=
 hr.put (Ext.own h) ⟨vs,aC,r.ext (Ext.own h)⟩
theorem Ext.write{a:A8}{o:HO}{u w:HD}(h:M a=some w):Ext M H (aD M a u) (upd H a o):=fun b x e n=>by
 have:b≠a:=fun z=>by rw[z,h]at n;cases n
 rw[ax this,da this];exact⟨e,n⟩
theorem HR.write{a:A8}{w:HD}{ds:List D}{vs:List V}(hr:HR K M H) (h:M a=some w) (r:ag K M H ds vs):HR K (aD M a (.lst ds)) (upd H a (.lst vs)) :=
 hr.put (Ext.write h) ⟨vs,aC,r.ext (Ext.write h)⟩
def LeM(M1 M:DH):Prop:=∀a o,M1 a=some o->M a=some o
theorem LeM.none(h:LeM M1 M) {a:A8}(n:M a=none):M1 a=none:=by
 cases q:M1 a with
 |none=>rfl
 |some o=>rw[h a o q]at n;cases n
theorem LeM.refl:LeM M M:=fun _ _ h=>h
theorem LeM.no:LeM noM M:=fun _ _ h=>nomatch h
theorem LeM.del{a:A8}:LeM (o8 M a) M:=fun b o h=>by
 unfold o8 at h;split at h
 ·cases h
 ·exact h
theorem Ext.le(h:LeM M1 M):Ext M H M1 H:=fun a o e n=>⟨e,h.none n⟩
theorem HR.le(hr:HR K M H) (h:LeM M1 M):HR K M1 H:=fun a o q=>(hr a o (h a o q)).keep (Ext.le h) rfl
theorem Rep.froze(hr:HR K M H) (h:LeM M1 M) {a:A8}{ds:List D}(e:M a=some (.lst ds)) (n:M1 a=none):Rep K M1 H (.lst ds) (.ref a):=by
 obtain⟨vs,r,t⟩:=hr a _ e;simp only[Rep];exact⟨a,vs,rfl,⟨r,n⟩,t.ext (Ext.le h)⟩
def dZ(M M1 M2:DH):DH:=fun a=>match M2 a with|some o=>some o|none=>if M1 a=none then M a else none
theorem qm:dZ M noM noM=M:=by
 funext a;simp[dZ]
theorem Ext.back(h:LeM M1 M) (e:Ext M1 H M2 H2):Ext M H (dZ M M1 M2) H2:=fun a o q n=>by
 obtain⟨h1,h2⟩:=e a o q (h.none n);refine⟨h1,?_⟩;unfold dZ;rw[h2];simp[h.none n,n]
mutual
def noL:D->Bool
 |.tup ds=>gq ds
 |.lst _=>false
 |.scr _=>false
 |.emp=>false
 |.box _ _=>false
 |_=>true
def gq:List D->Bool
 |[]=>true
 |d::ds=>noL d&&gq ds
end
mutual
theorem Rep.hard:∀{d:D}{v:V},noL d=true->Rep K M H d v->(∀a xs,Rd H a (.tup xs)->M' a=none)->Rep K M' H d v
 |.non,_,_,h,_=>h
 |.bl _,_,_,h,_=>h
 |.int _,_,_,h,_=>h
 |.str _,_,_,h,_=>h
 |.ref _,_,_,h,_=>h
 |.emp,_,n,_,_=>by simp[noL]at n
 |.box _ _,_,n,_,_=>by simp[noL]at n
 |.lst _,_,n,_,_=>by simp[noL]at n
 |.scr _,_,n,_,_=>by simp[noL]at n
 |.tup ds,_,n,h,e=>by
  simp only[Rep]at h ⊢;obtain⟨a,vs,rfl,h1,h2⟩:=h;refine⟨a,vs,rfl,?_,ag.hard (by simpa[noL]using n) h2 e⟩;rcases h1 with⟨r,_⟩|r
  ·exact .inl ⟨r,e a vs r⟩
  ·exact .inr r
theorem ag.hard:∀{ds:List D}{vs:List V},gq ds=true->ag K M H ds vs->(∀a xs,Rd H a (.tup xs)->M' a=none)->ag K M' H ds vs
 |[],_,_,h,_=>h
 |d::ds,_,n,h,e=>by
  simp only[ag]at h ⊢;obtain⟨v,ws,rfl,h1,h2⟩:=h;simp only[gq,C0]at n;exact⟨v,ws,rfl,Rep.hard n.1 h1 e,ag.hard n.2 h2 e⟩
end
theorem bC(hr:HR K M H) (h:LeM M1 M) (e:Ext M1 H M2 H2) (h2:HR K M2 H2):∀a xs,Rd H2 a (.tup xs)->dZ M M1 M2 a=none:=by
 intro a xs r;unfold dZ;cases q:M2 a with
 |some o =>
  obtain⟨u,z,n⟩:=(h2 a _ q).some;rcases r with r|⟨o,r⟩
  ·rw[z]at r;exact absurd (C1 r) (n xs).1
  ·rw[z]at r;exact absurd (C1 r) ((n xs).2 o)
 |none =>
  by_cases n:M1 a=none
  ·simp only[n,if_true];cases q2:M a with
   |none=>rfl
   |some o =>
    obtain⟨u,z,m⟩:=(hr a _ q2).some;have z2:=(e a _ z n).1;rcases r with r|⟨o,r⟩
    ·rw[z2]at r;exact absurd (C1 r) (m xs).1
    ·rw[z2]at r;exact absurd (C1 r) ((m xs).2 o)
  ·simp[n]
def noC:HD->Bool
 |.lst ds=>gq ds
 |.dK kvs=>gq (kvs.map (·.2))
 |.dT kvs=>gq (kvs.map (·.2))
 |.dKr _ _ kvs=>gq (kvs.map (·.2))
 |.ins _ fs=>gq (fs.map (·.2))
 |.ext _ ds=>gq ds
theorem KR.hard{κ:Type}{kvs:List (κ×D)}{ks:List (κ×V)}(h:KR K M H kvs ks) (n:gq (kvs.map (·.2))=true) (e:∀a xs,Rd H a (.tup xs)->M' a=none):KR K M' H kvs ks:=by
 unfold KR at h ⊢
 induction h with
 |nil=>exact .nil
 |cons r _ ih =>
  simp only[D6,gq,C0]at n;exact .cons ⟨r.1,Rep.hard n.1 r.2 e⟩ (ih n.2)
theorem HR.back(hr:HR K M H) (h:LeM M1 M) (e:Ext M1 H M2 H2) (h2:HR K M2 H2) (hd:∀a o,M2 a=some o->noC o=true):HR K (dZ M M1 M2) H2:=by
 have eb:Ext M H (dZ M M1 M2) H2:=Ext.back h e;intro a o q;unfold dZ at q;cases q2:M2 a with
 |some o2 =>
  rw[q2]at q;cases q;have c:=h2 a _ q2;have n:=hd a _ q2;cases o with
  |lst ds=>obtain⟨vs,z,t⟩:=c;exact⟨vs,z,ag.hard n t (bC hr h e h2)⟩
  |ext φ ds=>obtain⟨vs,z,t⟩:=c;exact⟨vs,z,ag.hard n t (bC hr h e h2)⟩
  |dK kvs=>obtain⟨vs,z,t⟩:=c;exact⟨vs,z,KR.hard t n (bC hr h e h2)⟩
  |dT kvs=>obtain⟨vs,z,t⟩:=c;exact⟨vs,z,KR.hard t n (bC hr h e h2)⟩
  |ins C fs=>obtain⟨vs,z,t⟩:=c;exact⟨vs,z,KR.hard t n (bC hr h e h2)⟩
  |dKr o ks kvs=>obtain⟨vs,z,t⟩:=c;exact⟨vs,z,KR.hard t n (bC hr h e h2)⟩
 |none =>
  rw[q2]at q
  by_cases n:M1 a=none
  ·simp only[n,if_true]at q;have c:=hr a _ q;obtain⟨u,z,_⟩:=c.some;exact c.keep eb (by rw[z];exact(e a _ z n).1)
  ·simp[n]at q
abbrev DE:=List (Option D)
def SR(K:o0) (M:DH) (H:Hp) (σ:St) (Δ:DE):Prop:=σ.length=Δ.length/\∀(i:Nat) (d:D),Δ[i]?=some (some d)->∃v,σ[i]?=some (some v)/\Rep K M H d v
theorem SR.ext{σ:St}{Δ:DE}(h:SR K M H σ Δ) (e:Ext M H M' H'):SR K M' H' σ Δ:=⟨h.1,fun i d q=>let⟨v,a,r⟩:=h.2 i d q;⟨v,a,r.ext e⟩⟩
theorem SR.set{σ:St}{Δ:DE}{d:D}{v:V}(h:SR K M H σ Δ) (i:Nat) (r:Rep K M H d v):SR K M H (σ.set i (some v)) (Δ.set i (some d)):=by
 refine⟨by simp[h.1],fun j e q=>?_⟩
 by_cases hj:j=i
 ·subst hj
  by_cases hl:j<Δ.length
  ·rw[K2 hl]at q;cases q;exact⟨v,K2 (by rw[h.1];exact hl),r⟩
  ·rw[List.getElem?_eq_none (by simp;omega)]at q;cases q
 ·rw[List.getElem?_set_ne (R8 hj)]at q ⊢;exact h.2 j e q
abbrev TEd:=DE->DH->(D->DH->Prop)->Prop
abbrev TAd:=DE->DH->(List D->DH->Prop)->Prop
abbrev TTd:=DE->DH->(Bool->DH->Prop)->Prop
structure dv where
 nx:DE->DH->Prop
 rt:D->DH->Prop
 bk:DE->DH->Prop:=fun _ _=>False
 ct:DE->DH->Prop:=fun _ _=>False
abbrev TSd:=dv->DE->DH->Prop
def up(K:o0) (t:TEd):TE:=fun σ H Q=>∃(Δ:DE) (M:DH) (R:D->DH->Prop),SR K M H σ Δ/\HR K M H/\t Δ M R /\
 ∀d M' v H',R d M'->Ext M H M' H'->HR K M' H'->Rep K M' H' d v->Q v H'
def upA(K:o0) (t:TAd):TA:=fun σ H Q=>∃(Δ:DE) (M:DH) (R:List D->DH->Prop),SR K M H σ Δ/\HR K M H/\t Δ M R /\
 ∀ds M' vs H',R ds M'->Ext M H M' H'->HR K M' H'->ag K M' H' ds vs->Q vs H'
def upT(K:o0) (t:TTd):TT:=fun σ H Q=>∃(Δ:DE) (M:DH) (R:Bool->DH->Prop),SR K M H σ Δ/\HR K M H/\t Δ M R /\
 ∀b M' H',R b M'->Ext M H M' H'->HR K M' H'->Q b H'
theorem upT.el{K:o0}{t:TTd}{σ:St}{H:Hp}{Q:Bool->Hp->Prop}{P:Prop}(h:upT K t σ H Q) (f:∀(Δ:DE) (M:DH) (R:Bool->DH->Prop),SR K M H σ Δ->HR K M H->t Δ M R->(∀b M' H',R b M'->Ext M H M' H'->HR K M' H'->Q b H')->P):P:=by
 obtain⟨x1,x2,x3,a,b,c,d⟩:=h;exact f x1 x2 x3 a b c d
theorem up.el{K:o0}{t:TEd}{σ:St}{H:Hp}{Q:VK}{P:Prop}(h:up K t σ H Q) (f:∀(Δ:DE) (M:DH) (R:D->DH->Prop),SR K M H σ Δ->HR K M H->t Δ M R->(∀d M' v H',R d M'->Ext M H M' H'->HR K M' H'->Rep K M' H' d v->Q v H')->P):P:=by
 obtain⟨x1,x2,x3,a,b,c,d⟩:=h;exact f x1 x2 x3 a b c d
theorem upA.el{K:o0}{t:TAd}{σ:St}{H:Hp}{Q:List V->Hp->Prop}{P:Prop}(h:upA K t σ H Q) (f:∀(Δ:DE) (M:DH) (R:List D->DH->Prop),SR K M H σ Δ->HR K M H->t Δ M R->(∀ds M' vs H',R ds M'->Ext M H M' H'->HR K M' H'->ag K M' H' ds vs->Q vs H')->P):P:=by
 obtain⟨x1,x2,x3,a,b,c,d⟩:=h;exact f x1 x2 x3 a b c d
structure UpE(K:o0) (E:dv) (D:kU) (M:DH) (H:Hp):Prop where
 nx:∀ Δ' M' σ' H',E.nx Δ' M'->Ext M H M' H'->HR K M' H'->SR K M' H' σ' Δ'->D.nx σ' H'
 bk:∀ Δ' M' σ' H',E.bk Δ' M'->Ext M H M' H'->HR K M' H'->SR K M' H' σ' Δ'->D.bk σ' H'
 ct:∀ Δ' M' σ' H',E.ct Δ' M'->Ext M H M' H'->HR K M' H'->SR K M' H' σ' Δ'->D.ct σ' H'
 rt:∀d M' v H',E.rt d M'->Ext M H M' H'->HR K M' H'->Rep K M' H' d v->D.rt v H'
theorem UpE.ext{E:dv}{D:kU}(u:UpE K E D M H) (e:Ext M H M' H'):UpE K E D M' H' :=
 ⟨fun a b c d h x=>u.nx a b c d h (e.trans x),fun a b c d h x=>u.bk a b c d h (e.trans x),fun a b c d h x=>u.ct a b c d h (e.trans x),fun a b c d h x=>u.rt a b c d h (e.trans x)⟩
def upS(K:o0) (t:TSd):TS:=fun D σ H=>∃(Δ:DE) (M:DH) (E:dv),SR K M H σ Δ/\HR K M H/\t E Δ M/\UpE K E D M H
theorem upS.el{K:o0}{t:TSd}{E:kU}{σ:St}{H:Hp}{P:Prop}(h:upS K t E σ H) (f:∀(Δ:DE) (M:DH) (R:dv),SR K M H σ Δ->HR K M H->t R Δ M->UpE K R E M H->P):P:=by
 obtain⟨x1,x2,x3,a,b,c,d⟩:=h;exact f x1 x2 x3 a b c d
def PEd(X:Cx) (e:B4) (t:TEd):Prop:=PE X e (up X.K t)
def PAd(X:Cx) (es:List B4) (t:TAd):Prop:=PA X es (upA X.K t)
def PTd(X:Cx) (e:B4) (t:TTd):Prop:=PT X e (upT X.K t)
def PWd(X:Cx) (e:B4) (t:TTd):Prop:=PW X e (upT X.K t)
def PSd(X:Cx) (st:Q7) (t:TSd):Prop:=PS X st (upS X.K t)
def uB(X:Cx) (st:List Q7) (t:TSd):Prop:=PSs X st (upS X.K t)
theorem PE.conv{X:Cx}{e:B4}{t t':TE}(h:PE X e t) (k:∀ σ H Q,t' σ H Q->t σ H Q):PE X e t':=fun p s σ H Q I q=>h p s σ H Q I (k σ H Q q)
theorem PT.conv{X:Cx}{e:B4}{t t':TT}(h:PT X e t) (k:∀ σ H Q,t' σ H Q->t σ H Q):PT X e t':=fun p s σ H Q I q=>h p s σ H Q I (k σ H Q q)
theorem PA.conv{X:Cx}{e:List B4}{t t':TA}(h:PA X e t) (k:∀ σ H Q,t' σ H Q->t σ H Q):PA X e t':=fun ps p s σ H Q I q=>h ps p s σ H Q I (k σ H Q q)
theorem PS.conv{X:Cx}{e:Q7}{t t':TS}(h:PS X e t) (k:∀D σ H,t' D σ H->t D σ H):PS X e t':=fun p s σ H D I q=>h p s σ H D I (k D σ H q)
theorem PSs.conv{X:Cx}{e:List Q7}{t t':TS}(h:PSs X e t) (k:∀D σ H,t' D σ H->t D σ H):PSs X e t':=fun p s σ H D I q=>h p s σ H D I (k D σ H q)
section
variable{X:Cx}{a b c:B4}{es:List B4}{ta tb:TEd}{pos:Pos}
def dW(i:Nat):TEd:=fun Δ M Q=>∃d,Δ[i]?=some (some d)/\Q d M
def dC(d:D):TEd:=fun _ M Q=>Q d M
def zX:TAd:=fun _ M Q=>Q [] M
def uT(ta:TEd) (tr:TAd):TAd:=fun Δ M Q=>ta Δ M fun x M1=>tr Δ M1 fun xs M2=>Q (x::xs) M2
def zw(t:TAd):TEd:=fun Δ M Q=>t Δ M fun ds M1=>ds.length<=A0/\Q (.tup ds) M1
def yd(t:TAd):TEd:=fun Δ M Q=>t Δ M fun ds M1=>ds.length<=A0/\Q (.lst ds) M1
def vh(t:TAd):TEd:=fun Δ M Q=>t Δ M fun ds M1=>ds.length<=A0/\∀p,M1 p=none->Q (.ref p) (aD M1 p (.lst ds))
def rdM(M:DH):D->D
 |.ref a=>match M a with|some (.lst ds)=>.lst ds|_=>.ref a
 |d=>d
def aA(K:o0) (M:DH) (H:Hp) (d:D) (v:V):Prop:=match d with
 |.tup ds=>∃a vs,v=.ref a/\SqT K H a vs/\ag K M H ds vs
 |.lst ds=>∃a vs,v=.ref a/\H a=some (.lst vs)/\ag K M H ds vs
 |.scr ds=>∃a vs,v=.ref a/\SqL K H a vs/\ag K M H ds vs
 |d=>Rep K M H d v
theorem iX.sq{K:o0}{M:DH}{H:Hp}{a:A8}{vs:List V}(h:iX K M H a vs):SqT K H a vs:=by
 rcases h with⟨h,_⟩|h
 ·exact .inl h
 ·rcases h with(h|⟨_,h⟩)|h
  ·cases h
  ·cases h
  ·exact .inr h
theorem ji.sq{K:o0}{M:DH}{H:Hp}{a:A8}{vs:List V}(h:ji K M H a vs):SqL K H a vs:=by
 rcases h with⟨⟨o,h⟩,_⟩|h
 ·exact .inl (.inr ⟨o,h⟩)
 ·rcases h with(h|⟨_,h⟩)|h
  ·cases h
  ·cases h
  ·exact .inr h
theorem Rep.rd{K:o0}{M:DH}{H:Hp}{d:D}{v:V}(hr:HR K M H) (h:Rep K M H d v):aA K M H (rdM M d) v:=by
 cases d with
 |tup ds=>simp only[Rep]at h;obtain⟨a,vs,e,t,r⟩:=h;exact⟨a,vs,e,t.sq,r⟩
 |lst ds=>simp only[Rep]at h;obtain⟨a,vs,e,t,r⟩:=h;exact⟨a,vs,e,t.1,r⟩
 |scr ds=>simp only[Rep]at h;obtain⟨a,vs,e,t,r⟩:=h;exact⟨a,vs,e,t.sq,r⟩
 |ref a =>
  simp only[rdM];cases q:M a with
  |none=>exact h
  |some o =>
   cases o with
   |lst ds =>
    obtain⟨vs,e,r⟩:=hr a _ q;simp only[Rep]at h;exact⟨a,vs,h,e,r⟩
   |dK _=>exact h
   |dT _=>exact h
   |dKr _ _ _=>exact h
   |ins _ _=>exact h
   |ext _ _=>exact h
 |non=>exact h
 |bl b=>exact h
 |int i=>exact h
 |str x=>exact h
 |emp=>exact h
 |box _ _=>exact h
def bv(X:Cx) (f:u8->u8->Sem u8) (r:D->D->Option D):Prop :=
 ∀(aa:List (A8×Obj)) (s:v0) (σ:St) (H:Hp) (M:DH) (x y:V) (v u:u8) (dx dy dz:D) (Q:VK),Inv X aa σ H s->HR X.K M H->ar x v->ar y u->aA X.K M H dx x->aA X.K M H dy y->r dx dy=some dz ->
  (∀w H',Ext M H M H'->HR X.K M H'->Rep X.K M H' dz w->Q w H')->B7 (B8 X.prog X.w) X.A (f v u) (EP X aa σ Q) X.xe s
def zG(X:Cx) (f:u8->Sem u8) (r:D->Option D):Prop :=
 ∀(aa:List (A8×Obj)) (s:v0) (σ:St) (H:Hp) (M:DH) (x:V) (v:u8) (dx dz:D) (Q:VK),Inv X aa σ H s->HR X.K M H->ar x v->aA X.K M H dx x->r dx=some dz ->
  (∀w H',Ext M H M H'->HR X.K M H'->Rep X.K M H' dz w->Q w H')->B7 (B8 X.prog X.w) X.A (f v) (EP X aa σ Q) X.xe s
def bJ(X:Cx) (f:u8) (r:List D->Option D):Prop :=
 ∀(aa:List (A8×Obj)) (s:v0) (σ:St) (H:Hp) (M:DH) (xs:List V) (us:List u8) (ds:List D) (dz:D) (Q:VK),Inv X aa σ H s->HR X.K M H->ao xs us->F2 (aA X.K M H) ds xs->r ds=some dz ->
  (∀w H',Ext M H M H'->HR X.K M H'->Rep X.K M H' dz w->Q w H')->B7 (B8 X.prog X.w) X.A (call f us) (EP X aa σ Q) X.xe s
def dOp(r:D->D->Option D) (ta tb:TEd):TEd:=fun Δ M Q=>ta Δ M fun x M1=>tb Δ M1 fun y M2=>∃z,r (rdM M2 x) (rdM M2 y)=some z/\Q z M2
def dUn(r:D->Option D) (ta:TEd):TEd:=fun Δ M Q=>ta Δ M fun x M1=>∃z,r (rdM M1 x)=some z/\Q z M1
def opV(K:o0) (r:D->D->Option D):R2:=fun x y H Q=>∃dx dy dz M,HR K M H/\aA K M H dx x/\aA K M H dy y/\r dx dy=some dz/\∀w H',Ext M H M H'->HR K M H'->Rep K M H' dz w->Q w H'
theorem bv.v{f:u8->u8->Sem u8}{r:D->D->Option D}(h:bv X f r):OpR X f (opV X.K r):=fun aa s σ H x y v u Q I rx ry ⟨dx,dy,dz,M,hr,r1,r2,e,k⟩=>h aa s σ H M x y v u dx dy dz Q I hr rx ry r1 r2 e k
theorem qo{K:o0}{r:D->D->Option D}{ta tb:TEd}:∀ σ H Q,up K (dOp r ta tb) σ H Q->tOp (opV K r) (up K ta) (up K tb) σ H Q:=fun σ H Q hup=>hup.el fun Δ M R sr hr q k =>
 ⟨Δ,M,_,sr,hr,q,fun x M1 v H1 q1 e1 hr1 rv=>⟨Δ,M1,_,sr.ext e1,hr1,q1,fun y M2 u H2 ⟨z,ez,q2⟩ e2 hr2 ru=>⟨_,_,z,M2,hr2,(rv.ext e2).rd hr2,ru.rd hr2,ez,fun w H' e3 hr3 rw_=>k z M2 w H' q2 ((e1.trans e2).trans e3) hr3 rw_⟩⟩⟩
def l7(t:TEd):TTd:=fun Δ M Q=>t Δ M fun x M1=>∃k,x=.bl k/\Q k M1
theorem yf{K:o0}{t:TEd}:∀ σ H Q,upT K (l7 t) σ H Q->uV (up K t) σ H Q:=fun σ H Q hup=>hup.el fun Δ M R sr hr q k =>
 ⟨Δ,M,_,sr,hr,q,fun d M1 v H1 ⟨b,e,q1⟩ e1 hr1 rv=>⟨b,by subst e;simpa only[Rep]using rv,k b M1 H1 q1 e1 hr1⟩⟩
def u5(t:TTd):TTd:=fun Δ M Q=>t Δ M fun c M1=>Q (!c) M1
def og(t u:TTd):TTd:=fun Δ M Q=>t Δ M fun c M1=>if c=true then u Δ M1 Q else Q false M1
def yJ(t u:TTd):TTd:=fun Δ M Q=>t Δ M fun c M1=>if c=true then Q true M1 else u Δ M1 Q
variable{tA tB':TTd}{ay:List B4}
theorem PW.conv{X:Cx}{e:B4}{t t':TT}(h:PW X e t) (k:∀ σ H Q,t' σ H Q->t σ H Q):PW X e t':=fun w p s σ H Q I q=>h w p s σ H Q I (k σ H Q q)
theorem PWd.pt{e:B4}{t:TTd}(h:PWd X e t):PTd X e t:=PW.pt h
def yw(ta tb:TEd):TEd:=fun Δ M Q=>ta Δ M fun x M1=>∃c,x=.bl c/\if c=true then tb Δ M1 Q else Q (.bl false) M1
theorem nq{K:o0}{M:DH}{H:Hp}(hr:HR K M H):∀{ds:List D}{vs:List V},ag K M H ds vs->F2 (aA K M H) (ds.map (rdM M)) vs
 |[],_,h=>by simp only[ag]at h;subst h;exact .nil
 |d::ds,_,h=>by
  simp only[ag]at h;obtain⟨v,ws,rfl,h1,h2⟩:=h;exact .cons (h1.rd hr) (nq hr h2)
def dCB(r:List D->Option D) (t:TAd):TEd:=fun Δ M Q=>t Δ M fun ds M1=>∃z,r (ds.map (rdM M1))=some z/\Q z M1
theorem uS{K:o0}{r:List D->Option D}{t:TAd}:∀ σ H Q,up K (dCB r t) σ H Q->tCB (fun xs H Q=>∃ds dz M,HR K M H/\F2 (aA K M H) ds xs/\r ds=some dz/\∀w H',Ext M H M H'->HR K M H'->Rep K M H' dz w->Q w H') (upA K t) σ H Q:=fun σ H Q hup=>hup.el fun Δ M R sr hr q k =>
 ⟨Δ,M,_,sr,hr,q,fun ds M1 vs H1 ⟨z,ez,q1⟩ e1 hr1 rv=>⟨_,z,M1,hr1,nq hr1 rv,ez,fun w H' e2 hr2 r2=>k z M1 w H' q1 (e1.trans e2) hr2 r2⟩⟩
theorem bJ.v{f:u8}{r:List D->Option D}(h:bJ X f r):cv X f (fun xs H Q=>∃ds dz M,HR X.K M H/\F2 (aA X.K M H) ds xs/\r ds=some dz/\∀w H',Ext M H M H'->HR X.K M H'->Rep X.K M H' dz w->Q w H') :=
 fun aa s σ H xs us Q I rv ⟨ds,dz,M,hr,rr,e,k⟩=>h aa s σ H M xs us ds dz Q I hr rv rr e k
end
section
variable{X:Cx}
theorem bv.of{f:u8->u8->Sem u8}{r2:R2}{r:D->D->Option D}(h:OpR X f r2)
  (k:∀(H:Hp) (M:DH) (x y:V) (dx dy dz:D) (Q:VK),HR X.K M H->aA X.K M H dx x->aA X.K M H dy y->r dx dy=some dz->(∀w H',Ext M H M H'->HR X.K M H'->Rep X.K M H' dz w->Q w H')->r2 x y H Q):bv X f r :=
 fun aa s σ H M x y v u dx dy dz Q I hr rx ry r1 r2 e q=>h aa s σ H x y v u Q I rx ry (k H M x y dx dy dz Q hr r1 r2 e q)
theorem bJ.of{f:u8}{r2:List V->Hp->VK->Prop}{r:List D->Option D}(h:cv X f r2)
  (k:∀(H:Hp) (M:DH) (xs:List V) (ds:List D) (dz:D) (Q:VK),HR X.K M H->F2 (aA X.K M H) ds xs->r ds=some dz->(∀w H',Ext M H M H'->HR X.K M H'->Rep X.K M H' dz w->Q w H')->r2 xs H Q):bJ X f r :=
 fun aa s σ H M xs us ds dz Q I hr rv r1 e q=>h aa s σ H xs us Q I rv (k H M xs ds dz Q hr r1 e q)
theorem dU{K:o0}{M:DH}{H:Hp}{i:Int}{v:V}(h:aA K M H (.int i) v):v=.int i:=by simpa[aA,Rep]using h
theorem iW{K:o0}{M:DH}{H:Hp}{i:Str}{v:V}(h:aA K M H (.str i) v):v=.str i:=by simpa[aA,Rep]using h
def iOp(f:Int->Int->Option D):D->D->Option D
 |.int a,.int b=>f a b
 |_,_=>none
theorem hV{f:Int->Int->Option D}{x y z:D}(h:iOp f x y=some z):∃a b,x=.int a/\y=.int b/\f a b=some z:=by
 cases x<;>first|cases h|skip
 rename_i a;cases y<;>first|cases h|skip
 rename_i b;exact⟨a,b,rfl,rfl,h⟩
noncomputable def aI:D->Bool
 |.non=>true|.bl _=>true|.int _=>true|.str _=>true|_=>false
def toV:D->V
 |.bl b=>.bl b|.int i=>.int i|.str x=>.str x|_=>.non
theorem lK{K:o0}{M:DH}{H:Hp}{d:D}(h:aI d=true):Rep K M H d (toV d):=by
 cases d<;>first|(simp[Rep,toV];done)|cases h
theorem iZ{f:u8->u8->Sem u8}{C:Int->Int->Prop} [∀i j,Decidable (C i j)] {g:Int->Int->D}(hs:∀i j,aI (g i j)=true) (h:OpR X f (rI C fun i j=>toV (g i j))) :
  bv X f (iOp fun i j=>if C i j then some (g i j)else none) :=
 bv.of h fun H M x y dx dy dz Q hr r1 r2 e q=>by
  obtain⟨a,b,rfl,rfl,e'⟩:=hV e;clear e;have e:=e'
  by_cases hc:C a b
  ·rw[if_pos hc]at e;cases e;exact⟨a,b,dU r1,dU r2,hc,q _ _ (Ext.refl _ _) hr (lK (hs a b))⟩
  ·rw[if_neg hc]at e;cases e
theorem j9{f:u8->u8->Sem u8}{g:Int->Int->D}(hs:∀i j,aI (g i j)=true) (h:OpR X f (rI0 fun i j=>toV (g i j))) :
  bv X f (iOp fun i j=>some (g i j)) :=
 bv.of h fun H M x y dx dy dz Q hr r1 r2 e q=>by
  obtain⟨a,b,rfl,rfl,e⟩:=hV e;cases e;exact⟨a,b,dU r1,dU r2,q _ _ (Ext.refl _ _) hr (lK (hs a b))⟩
instance:∀i j,Decidable (kP i j):=fun i j=>by unfold kP;exact inferInstance
instance:∀i j,Decidable (fS i j):=fun i j=>by unfold fS;exact inferInstance
instance:∀i j,Decidable (iO i j):=fun i j=>by unfold iO;exact inferInstance
theorem lQ:bv X (E4 .Sub) (iOp fun i j=>some (.int (i-j))):=j9 (fun _ _=>rfl) vL
theorem vY:bv X (E4 .Mult) (iOp fun i j=>if fS i j then some (.int (i*j))else none):=iZ (fun _ _=>rfl) xi
theorem eA:bv X (E4 .FloorDiv) (iOp fun i j=>if kP i j then some (.int (i / j))else none):=iZ (fun _ _=>rfl) ue
theorem bK:bv X (E4 .Mod) (iOp fun i j=>if 0<j then some (.int (i % j))else none):=iZ (C:=fun _ j=>0<j) (fun _ _=>rfl) vO
theorem yv:bv X (E4 .Pow) (iOp fun i j=>if iO i j then some (.int (i ^ j.toNat))else none):=iZ (fun _ _=>rfl) xH
theorem vC:bv X (E2 .Lt) (iOp fun i j=>some (.bl (decide (i<j)))):=j9 (fun _ _=>rfl) yD
theorem Ab:bv X (E2 .Gt) (iOp fun i j=>some (.bl (decide (j<i)))):=j9 (fun _ _=>rfl) zW
theorem Av:bv X (E2 .GtE) (iOp fun i j=>some (.bl (decide (j<=i)))):=j9 (fun _ _=>rfl) yc
theorem ag.at_{K:o0}{M:DH}{H:Hp}{ds:List D}{vs:List V}{i:Int}{d:D}(h:ag K M H ds vs) (e:atI ds i=some d):∃v,atI vs i=some v/\Rep K M H d v:=by
 unfold atI at e ⊢;rw[<-h.length];cases q:ixN ds.length i with
 |none=>rw[q]at e;cases e
 |some j =>
  rw[q]at e;have e':ds[j]?=some d:=e;obtain⟨v,a,b⟩:=h.get e';exact⟨v,a,b⟩
def ixD:D->D->Option D
 |.tup ds,.int i=>atI ds i
 |.lst ds,.int i=>atI ds i
 |.scr ds,.int i=>atI ds i
 |.str z,.int i=>if z.length<=A0 then(atI z.cps.toList i).map fun c=>.str ⟨#[c]⟩else none
 |_,_=>none
theorem bo:IxR X (opV X.K ixD):=by
 intro value slice aa s σ H x y v u Q I rx ry h hs;obtain⟨dx,dy,dz,M,hr,r1,r2,e,k⟩:=h;cases dx with
 |tup ds =>
  cases dy with
  |int i =>
   obtain⟨a,vs,rfl,sq,rl⟩:=r1;obtain⟨w,e2,rw_⟩:=rl.at_ e;exact wR value slice aa s σ H _ _ v u Q I rx ry ⟨a,vs,i,w,rfl,dU r2,sq,e2,k w H (Ext.refl _ _) hr rw_⟩ hs
  |_=>cases e
 |lst ds =>
  cases dy with
  |int i =>
   obtain⟨a,vs,rfl,sq,rl⟩:=r1;obtain⟨w,e2,rw_⟩:=rl.at_ e;exact oo value slice aa s σ H _ _ v u Q I rx ry ⟨a,vs,i,w,rfl,dU r2,SqL.of sq,e2,k w H (Ext.refl _ _) hr rw_⟩ hs
  |_=>cases e
 |scr ds =>
  cases dy with
  |int i =>
   obtain⟨a,vs,rfl,sq,rl⟩:=r1;obtain⟨w,e2,rw_⟩:=rl.at_ e;exact oo value slice aa s σ H _ _ v u Q I rx ry ⟨a,vs,i,w,rfl,dU r2,sq,e2,k w H (Ext.refl _ _) hr rw_⟩ hs
  |_=>cases e
 |str z =>
  cases dy with
  |int i =>
   simp only[ixD]at e
   by_cases hz:z.length<=A0
   ·rw[if_pos hz]at e;cases q:atI z.cps.toList i with
    |none=>rw[q]at e;cases e
    |some c =>
     rw[q]at e;cases e;exact vV value slice aa s σ H _ _ v u Q I rx ry ⟨z,i,c,iW r1,dU r2,hz,q,k _ H (Ext.refl _ _) hr (by simp[Rep])⟩ hs
   ·rw[if_neg hz]at e;cases e
  |_=>cases e
 |_=>cases e
noncomputable def jR:D->D->Option D
 |.int a,.int b=>some (.int (a+b))
 |.str a,.str b=>if a.length+b.length<=A0 then some (.str (a++b))else none
 |.lst a,.lst b=>if a.length+b.length<=A0 then some (.lst (a++b))else none
 |.tup a,.tup b=>if a.length+b.length<=A0 then some (.tup (a++b))else none
 |_,_=>none
theorem cU{K:o0}{M:DH}{H:Hp}{p:A8}{ds:List D}{vs:List V}{Q:VK}(hr:HR K M H) (hp:H p=none) (r:ag K M H ds vs) (q:∀w H',Ext M H M H'->HR K M H'->Rep K M H' (.lst ds) w->Q w H'):Q (.ref p) (upd H p (.lst vs)) :=
 q _ _ (Ext.new hr hp) (hr.new hp) (by simp only[Rep];exact⟨p,vs,rfl,⟨aC,hr.fresh hp⟩,r.ext (Ext.new hr hp)⟩)
theorem jN{K:o0}{M:DH}{H:Hp}{p:A8}{ds:List D}{vs:List V}{Q:VK}(hr:HR K M H) (hp:H p=none) (r:ag K M H ds vs) (q:∀w H',Ext M H M H'->HR K M H'->Rep K M H' (.tup ds) w->Q w H'):Q (.ref p) (upd H p (.tup vs)) :=
 q _ _ (Ext.new hr hp) (hr.new hp) (by simp only[Rep];exact⟨p,vs,rfl,.inl ⟨.inl aC,hr.fresh hp⟩,r.ext (Ext.new hr hp)⟩)
theorem aA.tup{K:o0}{M:DH}{H:Hp}{ds:List D}{v:V}(hr:HR K M H) (h:aA K M H (.tup ds) v):Rep K M H (.tup ds) v:=by
 obtain⟨a,vs,rfl,sq,rl⟩:=h;simp only[Rep];refine⟨a,vs,rfl,?_,rl⟩;rcases sq with r|k
 ·refine .inl ⟨r,?_⟩;cases q:M a with
  |none=>rfl
  |some o =>
   obtain⟨u,z,m⟩:=(hr a _ q).some;rcases r with r|⟨ob,r⟩
   ·rw[z]at r;exact absurd (C1 r) (m _).1
   ·rw[z]at r;exact absurd (C1 r) ((m _).2 ob)
 ·exact .inr (.inr k)
theorem rK{prog:B9}{w:E6}{A:D7}{E:u8->v0->Prop}{s:v0}{t b:A8}{ws:List u8}{Q:u8->v0->Prop}(ht:T9 s.heap t ([]:List u8).toArray) (hb:T9 s.heap b ws.toArray)
  (h:Q (.ref b) s):B7 (B8 prog w) A (E4 .Add (.ref t) (.ref b)) Q E s:=by
 obtain⟨⟨cls,dd,data,sl⟩,ho,hc,n,hd⟩:=id ht;obtain⟨⟨cls2,dd2,data2,sl2⟩,ho2,hc2,n2,hd2⟩:=id hb;simp only at hc hd hc2 hd2;subst hc hd hc2 hd2;exact concat_meets ⟨_,ho,rfl⟩ ⟨_,ho2,rfl⟩ noFill_tuple_add seq_tuple_add PySem.F.slot_tuple_add PySem.F.entry_tuple_add (PySem.F.args_tuple_add_2 _ _)
   (tuple_addW0 t b ([]:List u8).toArray ws.toArray n n2 dd dd2 sl sl2 (by simp)) ⟨ho,ho2,h⟩
theorem aO:bv X (E4 .Add) jR:=by
 intro aa s σ H M x y v u dx dy dz Q I hr rx ry r1 r2 e k;cases dx with
 |int a =>
  cases dy with
  |int b =>
   cases e;exact xc aa s σ H x y v u Q I rx ry ⟨a,b,dU r1,dU r2,k _ H (Ext.refl _ _) hr (by simp[Rep])⟩
  |_=>cases e
 |str a =>
  cases dy with
  |str b =>
   simp only[jR]at e
   by_cases hz:a.length+b.length<=A0
   ·rw[if_pos hz]at e;cases e;exact mz aa s σ H x y v u Q I rx ry ⟨a,b,iW r1,iW r2,hz,k _ H (Ext.refl _ _) hr (by simp[Rep])⟩
   ·rw[if_neg hz]at e;cases e
  |_=>cases e
 |lst a =>
  cases dy with
  |lst b =>
   simp only[jR]at e
   by_cases hz:a.length+b.length<=A0
   ·rw[if_pos hz]at e;cases e;obtain⟨l1,vs,rfl,h1,l1r⟩:=r1;obtain⟨l2,ws,rfl,h2,l2r⟩:=r2;exact wd aa s σ H _ _ v u Q I rx ry ⟨l1,l2,vs,ws,rfl,rfl,h1,h2,by rw[<-l1r.length,<-l2r.length];exact hz,fun p hp=>cU hr hp (l1r.append l2r) k⟩
   ·rw[if_neg hz]at e;cases e
  |_=>cases e
 |tup a =>
  cases dy with
  |tup b =>
   simp only[jR]at e
   by_cases hz:a.length+b.length<=A0
   ·rw[if_pos hz]at e;cases e;have t1:=aA.tup hr r1;have t2:=aA.tup hr r2;obtain⟨l1,vs,rfl,h1,l1r⟩:=r1;obtain⟨l2,ws,rfl,h2,l2r⟩:=r2
    by_cases hv:vs=[]
    ·subst hv;have ea:a=[]:=by
      have:=l1r.length;cases a with
      |nil=>rfl
      |cons _ _=>simp at this
     subst ea;cases rx;cases ry;obtain⟨its,q1,p1,_⟩:=I.tuple h1;obtain⟨its2,q2,p2,_⟩:=I.tuple h2;cases q1;exact rK p1 p2 ⟨.ref l2,H,I,rfl,k _ H (Ext.refl _ _) hr t2⟩
    ·refine tG aa s σ H _ _ v u Q I rx ry ⟨l1,l2,vs,ws,rfl,rfl,h1,h2,hv,by rw[<-l1r.length,<-l2r.length];exact hz,fun hw=>?_,fun _ p hp=>jN hr hp (l1r.append l2r) k⟩;subst hw;have eb:b=[]:=by
      have:=l2r.length;cases b with
      |nil=>rfl
      |cons _ _=>simp at this
     subst eb;rw[O3]at k;exact k _ H (Ext.refl _ _) hr t1
   ·rw[if_neg hz]at e;cases e
  |_=>cases e
 |_=>cases e
mutual
def eqD:D->D->Bool
 |.non,.non=>true
 |.bl a,.bl b=>a==b
 |.bl a,.int b=>(if a then 1 else 0)==b
 |.int a,.bl b=>a==(if b then 1 else 0)
 |.int a,.int b=>a==b
 |.str a,.str b=>a==b
 |.tup a,.tup b=>cA a b
 |.lst a,.lst b=>cA a b
 |_,_=>false
def cA:List D->List D->Bool
 |[],[]=>true
 |a::as,b::bs=>eqD a b&&cA as bs
 |_,_=>false
end
mutual
def dLe:D->Nat->Bool
 |.tup _,0=>false
 |.tup ds,n+1=>cE ds n
 |.lst _,0=>false
 |.lst ds,n+1=>cE ds n
 |.scr _,_=>false
 |.emp,_=>false
 |.box _ _,_=>false
 |.ref _,_=>false
 |_,_=>true
def cE:List D->Nat->Bool
 |[],_=>true
 |d::ds,n=>dLe d n&&cE ds n
end
theorem il:∀{ds:List D}{n i:Nat}{d:D},cE ds n=true->ds[i]?=some d->dLe d n=true
 |[],_,_,_,_,e=>by simp at e
 |d::ds,n,0,x,h,e=>by
  simp only[cE,C0]at h;simp at e;subst e;exact h.1
 |d::ds,n,i+1,x,h,e=>by
  simp only[cE,C0]at h;exact il h.2 (by simpa using e)
theorem gO:∀{ds:List D}{n:Nat},cE ds n=true↔∀d∈ds,dLe d n=true
 |[],n=>by simp[cE]
 |d::ds,n=>by simp[cE,gO (ds:=ds)]
def eqN(ds es:List D) (j:Nat):Bool:=match ds[j]?,es[j]? with|some a,some b=>eqD a b|_,_=>false
theorem lI:∀{ds es:List D},cA ds es=true->ds.length=es.length
 |[],[],_=>rfl
 |[],_::_,h=>by simp[cA]at h
 |_::_,[],h=>by simp[cA]at h
 |_::ds,_::es,h=>by
  simp only[cA,C0]at h;simp[lI h.2]
theorem gU:∀{ds es:List D},cA ds es=((N0 (min ds.length es.length)).all (eqN ds es)&&ds.length==es.length)
 |[],[]=>by simp[cA]
 |[],_::_=>by simp[cA]
 |_::_,[]=>by simp[cA]
 |a::ds,b::es=>by
  have ih:=@gU ds es;simp only[cA,N7,Nat.add_min_add_right,List.range_succ_eq_map,L9,List.all_map];have e0:eqN (a::ds) (b::es) 0=eqD a b:=by simp[eqN]
  have e1:(eqN (a::ds) (b::es))∘Nat.succ=eqN ds es:=by
   funext j;simp[eqN]
  rw[e0,e1,ih];have e2:(ds.length+1==es.length+1)=(ds.length==es.length):=by
   rw[Bool.eq_iff_iff];simp
  rw[e2,Bool.and_assoc]
theorem o5{ds es:List D}(h:ds.length=es.length):cA ds es=(N0 ds.length).all (eqN ds es):=by
 rw[gU,<-h,Nat.min_self];simp
theorem Rep.r{K:o0}{M:DH}{H:Hp}{d:D}{v:V}(h:Rep K M H d v):aA K M H d v:=by
 cases d with
 |tup ds=>simp only[Rep]at h;obtain⟨a,vs,e,t,r⟩:=h;exact⟨a,vs,e,t.sq,r⟩
 |lst ds=>simp only[Rep]at h;obtain⟨a,vs,e,t,r⟩:=h;exact⟨a,vs,e,t.1,r⟩
 |scr ds=>simp only[Rep]at h;obtain⟨a,vs,e,t,r⟩:=h;exact⟨a,vs,e,t.sq,r⟩
 |_=>exact h
theorem uU{aa:List (A8×Obj)}{σ:St}{H:Hp}{s:v0}{a:A8}{vs ws:List V}(I:Inv X aa σ H s) (h:SqT X.K H a vs) (h':H a=some (.lst ws)):False:=by
 obtain⟨its,r,⟨o,e,c,n,d⟩,_⟩:=I.tuple h;obtain⟨_,its',n',_,e'⟩:=I.hok a _ h';rw[e]at e';cases e';exact absurd (show u8.type "list"=u8.type "tuple" from c) (by decide)
theorem r8{aa:List (A8×Obj)}{σ:St}{H:Hp}{s:v0}(I:Inv X aa σ H s) {M M':DH}:∀(n:Nat) {d e:D}{v:V},dLe d n=true->dLe e n=true->aA X.K M H d v->aA X.K M' H e v->eqD d e=true:=by
  intro n
  induction n with
  | zero =>
    intro d e v hd he r1 r2;cases d<;>first|(simp[dLe]at hd;done)|skip
    all_goals cases e<;>first|(simp[dLe]at he;done)|skip
    all_goals (simp only[aA,Rep]at r1 r2;subst r1;first|(cases r2;simp[eqD];done)|cases r2)
  | succ n ih =>
    intro d e v hd he r1 r2;have lists:∀{ds es:List D} {vs:List V},cE ds n=true->cE es n=true->ag X.K M H ds vs->ag X.K M' H es vs->cA ds es=true:=by
      intro ds
      induction ds with
      | nil =>
        intro es vs _ _ h1 h2;simp only[ag]at h1;subst h1;cases es with
        |nil=>simp[cA]
        |cons _ _=>simp[ag]at h2
      | cons a ds ihl =>
        intro es vs d1 d2 h1 h2;simp only[ag]at h1;obtain⟨v,ws,rfl,h3,h4⟩:=h1;cases es with
        |nil=>simp[ag]at h2
        | cons b es =>
          simp only[ag]at h2;obtain⟨v',ws',e',h5,h6⟩:=h2;cases e';simp only[cE,C0]at d1 d2;simp only[cA,C0];exact⟨ih d1.1 d2.1 h3.r h5.r,ihl d1.2 d2.2 h4 h6⟩
    cases d with
    | tup ds =>
      obtain⟨a,vs,rfl,sq,rl⟩:=r1;cases e with
      | tup es =>
        obtain⟨b,ws,e',sq',rl'⟩:=r2;cases e';have:=I.tuple_inj sq sq';subst this;simp only[eqD];exact lists (by simpa[dLe]using hd) (by simpa[dLe]using he) rl rl'
      | lst es =>
        obtain⟨b,ws,e',sq',rl'⟩:=r2;cases e';exact(uU I sq sq').elim
      |_=>first|(simp[dLe]at he;done)|(simp only[aA,Rep]at r2;cases r2)
    | lst ds =>
      obtain⟨a,vs,rfl,sq,rl⟩:=r1;cases e with
      | lst es =>
        obtain⟨b,ws,e',sq',rl'⟩:=r2;cases e';rw[sq]at sq';cases sq';simp only[eqD];exact lists (by simpa[dLe]using hd) (by simpa[dLe]using he) rl rl'
      | tup es =>
        obtain⟨b,ws,e',sq',rl'⟩:=r2;cases e';exact(uU I sq' sq).elim
      |_=>first|(simp[dLe]at he;done)|(simp only[aA,Rep]at r2;cases r2)
    | _ =>
      first
      |(simp[dLe]at hd;done)
      | (cases e with
         |tup es=>(obtain⟨b,ws,e',sq',rl'⟩:=r2;subst e';simp only[aA,Rep]at r1;cases r1)
         |lst es=>(obtain⟨b,ws,e',sq',rl'⟩:=r2;subst e';simp only[aA,Rep]at r1;cases r1)
         |_=>first|(simp[dLe]at he;done)|(simp only[aA,Rep]at r1 r2;subst r1;first|(cases r2;simp[eqD];done)|cases r2))
theorem aA.at{K:o0}{M:DH}{H:Hp}{d:D}{v:V}{u:u8}(r:aA K M H d v) (q:ar v u):match d with|.non=>u=.none|.bl b=>u=.bool b|.int i=>∃t,u=.int i t|.str x=>∃t,u=.str x t|_=>True:=by
 cases d<;>first|trivial|(simp only[aA,Rep]at r;subst r;exact q)
open PySem.SeqAt in
theorem rA{aa:List (A8×Obj)}{σ:St}{H:Hp}{s:v0}(I:Inv X aa σ H s) {M M':DH}:∀(n:Nat) {A:D7}{d e:D}{v w:V}{u1 u2:u8},A.units+n<S8->dLe d n=true->dLe e n=true ->
  aA X.K M H d v->aA X.K M' H e w->ar v u1->ar w u2->EqAt A s u1 u2 (eqD d e)/\RcAt A s u1 u2 (eqD d e)/\RcNeAt A s u1 u2 (!(eqD d e)):=by
 intro n
 induction n with
 |zero =>
  intro A d e v w u1 u2 hu hd he r1 r2 q1 q2;have hu0:A.units<S8:=by omega
  cases d<;>first|(simp[dLe]at hd;done)|skip
  all_goals cases e<;>first|(simp[dLe]at he;done)|skip
  all_goals simp only[aA,Rep]at r1 r2
  all_goals subst r1
  all_goals subst r2
  all_goals simp only[ar]at q1 q2
  all_goals first|(obtain⟨t1,rfl⟩:=q1)|subst q1
  all_goals first|(obtain⟨t2,rfl⟩:=q2)|subst q2
  all_goals simp only[eqD]
  ·exact⟨EqAt.same _,RcAt.none_none,RcNeAt.none_none⟩
  ·exact⟨EqAt.none_bool _,RcAt.none_bool _,RcNeAt.none_bool _⟩
  ·exact⟨EqAt.none_int _ _,RcAt.none_int _ _,RcNeAt.none_int _ _⟩
  ·exact⟨EqAt.none_str _ _,RcAt.none_str _ _,RcNeAt.none_str _ _⟩
  ·exact⟨EqAt.bool_none _,RcAt.bool_none _,RcNeAt.bool_none _⟩
  ·exact⟨EqAt.bool_bool _ _,RcAt.bool_bool _ _,RcNeAt.bool_bool _ _⟩
  ·exact⟨EqAt.bool_int _ _ _,RcAt.bool_int _ _ _,RcNeAt.bool_int _ _ _⟩
  ·exact⟨EqAt.bool_str _ _ _,RcAt.bool_str _ _ _,RcNeAt.bool_str _ _ _⟩
  ·exact⟨EqAt.int_none _ _,RcAt.int_none _ _,RcNeAt.int_none _ _⟩
  ·exact⟨EqAt.int_bool _ _ _,RcAt.int_bool _ _ _,RcNeAt.int_bool _ _ _⟩
  ·exact⟨EqAt.int_int _ _ _ _,RcAt.int_int _ _ _ _,RcNeAt.int_int _ _ _ _⟩
  ·exact⟨EqAt.int_str _ _ _ _,RcAt.int_str _ _ _ _,RcNeAt.int_str _ _ _ _⟩
  ·exact⟨EqAt.str_none _ _,RcAt.str_none _ _,RcNeAt.str_none _ _⟩
  ·exact⟨EqAt.str_bool _ _ _,RcAt.str_bool _ _ _,RcNeAt.str_bool _ _ _⟩
  ·exact⟨EqAt.str_int _ _ _ _,RcAt.str_int _ _ _ _,RcNeAt.str_int _ _ _ _⟩
  ·exact⟨EqAt.str_str _ _ _ _,RcAt.str_str _ _ _ _,RcNeAt.str_str _ _ _ _⟩
 |succ n ih =>
  intro A d e v w u1 u2 hu hd he r1 r2 q1 q2;have hu0:A.units<S8:=by omega
  have hu1:A.in1.units+n<S8:=by show A.units+1+n<S8;omega
  have item:∀{ds es:List D} {vs ws:List V} {us us2:List u8},cE ds n=true->cE es n=true->ag X.K M H ds vs->ag X.K M' H es ws->ao vs us->ao ws us2 ->
    ∀j (h1:j<us.toArray.size) (h2:j<us2.toArray.size),EqAt A.in1 s us.toArray[j] us2.toArray[j] (eqN ds es j):=by
   intro ds es vs ws us us2 d1 d2 h1 h2 h3 h4 j hj1 hj2;have l1:=h1.length;have l2:=h2.length;have l3:=h3.length;have l4:=h4.length;have j1:j<ds.length:=by simp at hj1;omega
   have j2:j<es.length:=by simp at hj2;omega
   obtain⟨v1,g1,p1⟩:=h1.get (i:=j) (d:=ds[j]) (by simp[j1]);obtain⟨v2,g2,p2⟩:=h2.get (i:=j) (d:=es[j]) (by simp[j2]);obtain⟨u1,k1,m1⟩:=h3.get g1;obtain⟨u2,k2,m2⟩:=h4.get g2;have e1:us.toArray[j]=u1:=by
    simp at hj1;simpa[J3 hj1]using k1
   have e2:us2.toArray[j]=u2:=by
    simp at hj2;simpa[J3 hj2]using k2
   rw[e1,e2];have e3:eqN ds es j=eqD ds[j] es[j]:=by simp[eqN,j1,j2]
   rw[e3];exact(ih hu1 (il d1 (i:=j) (by simp[j1])) (il d2 (i:=j) (by simp[j2])) p1.r p2.r m1 m2).1
  have both:∀{a b:A8},v=.ref a->w=.ref b->RcAt A s (.ref a) (.ref b) (eqD d e)->EqAt A s (.ref a) (.ref b) (eqD d e):=by
   intro a b ea eb rc
   by_cases hab:a=b
   ·subst hab;subst ea;subst eb;rw[r8 I (n+1) hd he r1 r2];exact EqAt.same _
   ·exact EqAt.of_refs hab rc
  cases d with
  |tup ds =>
   obtain⟨a,vs,rfl,sq,rl⟩:=id r1;cases q1;obtain⟨its,rv,pt,_⟩:=I.tuple sq;have hd':cE ds n=true:=by simpa[dLe]using hd
   cases e with
   |tup es =>
    obtain⟨b,ws,rfl,sq',rl'⟩:=id r2;cases q2;obtain⟨its2,rv2,pt2,_⟩:=I.tuple sq';have he':cE es n=true:=by simpa[dLe]using he
    have it:=item hd' he' rl rl' rv rv2;have t1:=RcAt.tuples (e:=eqN ds es) pt pt2 hu0 it;have t2:=RcNeAt.tuples (e:=eqN ds es) pt pt2 hu0 it;rw[A3,A3,<-rv.length,<-rv2.length,<-rl.length,<-rl'.length,<-gU]at t1 t2;have rc:RcAt A s (.ref a) (.ref b) (eqD (.tup ds) (.tup es)):=by simpa only[eqD]using t1
    exact⟨both rfl rfl rc,rc,by simpa only[eqD]using t2⟩
   |lst es =>
    obtain⟨b,ws,rfl,sq',rl'⟩:=id r2;cases q2;obtain⟨its2,rv2,pt2,_⟩:=I.list (SqL.of sq');simp only[eqD];exact⟨EqAt.tuple_list pt pt2.isList hu0,RcAt.tuple_list pt pt2.isList hu0,RcNeAt.tuple_list pt pt2.isList hu0⟩
   |non=>obtain rfl:=r2.at q2;simp only[eqD];exact⟨EqAt.tuple_none pt hu0,RcAt.tuple_none pt hu0,RcNeAt.tuple_none pt hu0⟩
   |bl b=>obtain rfl:=r2.at q2;simp only[eqD];exact⟨EqAt.tuple_bool _ pt hu0,RcAt.tuple_bool _ pt hu0,RcNeAt.tuple_bool _ pt hu0⟩
   |int b=>obtain⟨t,rfl⟩:=r2.at q2;simp only[eqD];exact⟨EqAt.tuple_int _ _ pt hu0,RcAt.tuple_int _ _ pt hu0,RcNeAt.tuple_int _ _ pt hu0⟩
   |str b=>obtain⟨t,rfl⟩:=r2.at q2;simp only[eqD];exact⟨EqAt.tuple_str _ _ pt hu0,RcAt.tuple_str _ _ pt hu0,RcNeAt.tuple_str _ _ pt hu0⟩
   |_=>simp[dLe]at he
  |lst ds =>
   obtain⟨a,vs,rfl,sq,rl⟩:=id r1;cases q1;obtain⟨its,rv,pt,_⟩:=I.list (SqL.of sq);have hd':cE ds n=true:=by simpa[dLe]using hd
   cases e with
   |lst es =>
    obtain⟨b,ws,rfl,sq',rl'⟩:=id r2;cases q2;obtain⟨its2,rv2,pt2,_⟩:=I.list (SqL.of sq');have he':cE es n=true:=by simpa[dLe]using he
    have hs:its.toArray.size=ds.length/\its2.toArray.size=es.length:=by rw[A3,A3,<-rv.length,<-rv2.length,<-rl.length,<-rl'.length];exact⟨rfl,rfl⟩
    have rc:RcAt A s (.ref a) (.ref b) (eqD (.lst ds) (.lst es))/\RcNeAt A s (.ref a) (.ref b) (!(eqD (.lst ds) (.lst es))):=by
     by_cases hl:ds.length=es.length
     ·have hsz:its.toArray.size=its2.toArray.size:=by rw[hs.1,hs.2];exact hl
      have it:=item hd' he' rl rl' rv rv2;have t1:=RcAt.lists (e:=eqN ds es) pt.isList pt2.isList hsz hu0 it;have t2:=RcNeAt.lists (e:=eqN ds es) pt.isList pt2.isList hsz hu0 it;rw[hs.1,<-o5 hl]at t1 t2;exact⟨by simpa only[eqD]using t1,by simpa only[eqD]using t2⟩
     ·have hsz:(its.toArray.size != its2.toArray.size)=true:=by rw[hs.1,hs.2];simpa using hl
      have e0:eqD (.lst ds) (.lst es)=false:=by
       simp only[eqD];cases q:cA ds es with
       |false=>rfl
       |true=>exact absurd (lI q) hl
      rw[e0];exact⟨RcAt.lists_lengths pt.isList pt2.isList hsz hu0,RcNeAt.lists_lengths pt.isList pt2.isList hsz hu0⟩
    exact⟨both rfl rfl rc.1,rc⟩
   |tup es =>
    obtain⟨b,ws,rfl,sq',rl'⟩:=id r2;cases q2;obtain⟨its2,rv2,pt2,_⟩:=I.tuple sq';simp only[eqD];exact⟨EqAt.list_tuple pt.isList pt2 hu0,RcAt.list_tuple pt.isList pt2 hu0,RcNeAt.list_tuple pt.isList pt2 hu0⟩
   |non=>obtain rfl:=r2.at q2;simp only[eqD];exact⟨EqAt.list_none pt.isList hu0,RcAt.list_none pt.isList hu0,RcNeAt.list_none pt.isList hu0⟩
   |bl b=>obtain rfl:=r2.at q2;simp only[eqD];exact⟨EqAt.list_bool _ pt.isList hu0,RcAt.list_bool _ pt.isList hu0,RcNeAt.list_bool _ pt.isList hu0⟩
   |int b=>obtain⟨t,rfl⟩:=r2.at q2;simp only[eqD];exact⟨EqAt.list_int _ _ pt.isList hu0,RcAt.list_int _ _ pt.isList hu0,RcNeAt.list_int _ _ pt.isList hu0⟩
   |str b=>obtain⟨t,rfl⟩:=r2.at q2;simp only[eqD];exact⟨EqAt.list_str _ _ pt.isList hu0,RcAt.list_str _ _ pt.isList hu0,RcNeAt.list_str _ _ pt.isList hu0⟩
   |_=>simp[dLe]at he
  |non =>
   cases e with
   |tup es =>
    obtain⟨b,ws,rfl,sq',rl'⟩:=id r2;cases q2;obtain⟨its2,rv2,pt2,_⟩:=I.tuple sq';obtain rfl:=r1.at q1;simp only[eqD];exact⟨EqAt.none_tuple pt2 hu0,RcAt.none_tuple pt2 hu0,RcNeAt.none_tuple pt2 hu0⟩
   |lst es =>
    obtain⟨b,ws,rfl,sq',rl'⟩:=id r2;cases q2;obtain⟨its2,rv2,pt2,_⟩:=I.list (SqL.of sq');obtain rfl:=r1.at q1;simp only[eqD];exact⟨EqAt.none_list pt2.isList hu0,RcAt.none_list pt2.isList hu0,RcNeAt.none_list pt2.isList hu0⟩
   |_=>first|(simp[dLe]at he;done)|exact ih (A:=A) (by omega) (by simp[dLe]) (by simp[dLe]) r1 r2 q1 q2
  |bl a =>
   cases e with
   |tup es =>
    obtain⟨b,ws,rfl,sq',rl'⟩:=id r2;cases q2;obtain⟨its2,rv2,pt2,_⟩:=I.tuple sq';obtain rfl:=r1.at q1;simp only[eqD];exact⟨EqAt.bool_tuple _ pt2 hu0,RcAt.bool_tuple _ pt2 hu0,RcNeAt.bool_tuple _ pt2 hu0⟩
   |lst es =>
    obtain⟨b,ws,rfl,sq',rl'⟩:=id r2;cases q2;obtain⟨its2,rv2,pt2,_⟩:=I.list (SqL.of sq');obtain rfl:=r1.at q1;simp only[eqD];exact⟨EqAt.bool_list _ pt2.isList hu0,RcAt.bool_list _ pt2.isList hu0,RcNeAt.bool_list _ pt2.isList hu0⟩
   |_=>first|(simp[dLe]at he;done)|exact ih (A:=A) (by omega) (by simp[dLe]) (by simp[dLe]) r1 r2 q1 q2
  |int a =>
   cases e with
   |tup es =>
    obtain⟨b,ws,rfl,sq',rl'⟩:=id r2;cases q2;obtain⟨its2,rv2,pt2,_⟩:=I.tuple sq';obtain⟨t,rfl⟩:=r1.at q1;simp only[eqD];exact⟨EqAt.int_tuple _ _ pt2 hu0,RcAt.int_tuple _ _ pt2 hu0,RcNeAt.int_tuple _ _ pt2 hu0⟩
   |lst es =>
    obtain⟨b,ws,rfl,sq',rl'⟩:=id r2;cases q2;obtain⟨its2,rv2,pt2,_⟩:=I.list (SqL.of sq');obtain⟨t,rfl⟩:=r1.at q1;simp only[eqD];exact⟨EqAt.int_list _ _ pt2.isList hu0,RcAt.int_list _ _ pt2.isList hu0,RcNeAt.int_list _ _ pt2.isList hu0⟩
   |_=>first|(simp[dLe]at he;done)|exact ih (A:=A) (by omega) (by simp[dLe]) (by simp[dLe]) r1 r2 q1 q2
  |str a =>
   cases e with
   |tup es =>
    obtain⟨b,ws,rfl,sq',rl'⟩:=id r2;cases q2;obtain⟨its2,rv2,pt2,_⟩:=I.tuple sq';obtain⟨t,rfl⟩:=r1.at q1;simp only[eqD];exact⟨EqAt.str_tuple _ _ pt2 hu0,RcAt.str_tuple _ _ pt2 hu0,RcNeAt.str_tuple _ _ pt2 hu0⟩
   |lst es =>
    obtain⟨b,ws,rfl,sq',rl'⟩:=id r2;cases q2;obtain⟨its2,rv2,pt2,_⟩:=I.list (SqL.of sq');obtain⟨t,rfl⟩:=r1.at q1;simp only[eqD];exact⟨EqAt.str_list _ _ pt2.isList hu0,RcAt.str_list _ _ pt2.isList hu0,RcNeAt.str_list _ _ pt2.isList hu0⟩
   |_=>first|(simp[dLe]at he;done)|exact ih (A:=A) (by omega) (by simp[dLe]) (by simp[dLe]) r1 r2 q1 q2
  |_=>simp[dLe]at hd
end
section
variable{X:Cx}{a b c e:B4}{es:List B4}{te ta tb:TEd}{pos:Pos}{st:Q7}{ay:List Q7}{t u:TSd}
def nX:TSd:=fun E Δ M=>E.nx Δ M
def yA(t u:TSd):TSd:=fun E Δ M=>t { E with nx:=u E } Δ M
def zc(te:TEd):TSd:=fun E Δ M=>te Δ M E.rt
def nE(te:TEd):TSd:=fun E Δ M=>te Δ M fun _ M1=>E.nx Δ M1
def uF(c:TTd) (t u:TSd):TSd:=fun E Δ M=>c Δ M fun b M1=>if b=true then t E Δ M1 else u E Δ M1
def xC(i:Nat) (te:TEd):TSd:=fun E Δ M=>te Δ M fun d M1=>E.nx (Δ.set i (some d)) M1
def yn(i:Nat) (te:TEd) (r:D->D->Option D):TSd:=fun E Δ M=>∃x,Δ[i]?=some (some x)/\te Δ M fun y M1=>∃z,r (rdM M1 x) (rdM M1 y)=some z/\E.nx (Δ.set i (some z)) M1
abbrev GD:=D->DE->Option DE
def PGd(X:Cx) (tg:B4) (g:GD):Prop:=∃gv:TG,PG X tg gv/\∀(d:D) (v:V) (σ:St) (Δ Δ':DE) (M:DH) (H:Hp) (Q:St->Hp->Prop),SR X.K M H σ Δ->HR X.K M H->Rep X.K M H d v->g d Δ=some Δ'->(∀ σ',SR X.K M H σ' Δ'->Q σ' H)->gv v σ H Q
def bR(i:Nat):GD:=fun d Δ=>some (Δ.set i (some d))
theorem b7{i:Nat}{x:Str}(hN:X.N.Nodup) (hi:X.N[i]?=some x) (hx:Loc X.env.scope x) (hf:X.fn x=true∨X.env.scope.names.lookup x=some .local:=by first|exact .inl rfl|exact .inr rfl|assumption):PGd X (.Name x pos) (bR i) :=
 ⟨lR i,nM hN hi hx hf,fun d v σ Δ Δ' M H Q sr hr rv e k=>by cases e;exact k _ (sr.set i rv)⟩
abbrev GDs:=List D->DE->Option DE
def tE(X:Cx) (tgs:List B4) (g:GDs):Prop:=∃gv:TGs,PGs X tgs gv/\∀(ds:List D) (vs:List V) (σ:St) (Δ Δ':DE) (M:DH) (H:Hp) (Q:St->Hp->Prop),SR X.K M H σ Δ->HR X.K M H->ag X.K M H ds vs->g ds Δ=some Δ'->(∀ σ',SR X.K M H σ' Δ'->Q σ' H)->gv vs σ H Q
def l0:GDs:=fun ds Δ=>match ds with|[]=>some Δ|_=>none
def dN(g:GD) (gs:GDs):GDs:=fun ds Δ=>match ds with|[]=>none|d::r=>(g d Δ).bind fun Δ1=>gs r Δ1
def jt(g:GDs) (n:Nat):GD:=fun d Δ=>match d with|.tup ds=>if ds.length=n then g ds Δ else none|_=>none
theorem uR:tE X [] l0:=⟨xO,tS,fun ds vs σ Δ Δ' M H Q sr hr rv e k=>by
 cases ds with
 |nil=>simp only[ag]at rv;subst rv;cases e;exact⟨rfl,k _ sr⟩
 |cons _ _=>cases e⟩
theorem jF{tg:B4}{tgs:List B4}{g:GD}{gs:GDs}(h1:PGd X tg g) (h2:tE X tgs gs)
  (hs:(K9 (tg::tgs) X.env).map (·.2)=S6 tg X.env::(K9 tgs X.env).map (·.2):=by rfl):tE X (tg::tgs) (dN g gs):=by
 obtain⟨g1,p1,k1⟩:=h1;obtain⟨g2,p2,k2⟩:=h2;refine⟨vj g1 g2,pU p1 p2 hs,fun ds vs σ Δ Δ' M H Q sr hr rv e k=>?_⟩;cases ds with
 |nil=>cases e
 |cons d r =>
  simp only[ag]at rv;obtain⟨v,ws,rfl,h3,h4⟩:=rv;simp only[dN]at e;cases q:g d Δ with
  |none=>rw[q]at e;cases e
  |some Δ1 =>
   rw[q]at e;exact⟨v,ws,rfl,k1 d v σ Δ Δ1 M H _ sr hr h3 q fun σ1 sr1=>k2 r ws σ1 Δ1 Δ' M H Q sr1 hr h4 e k⟩
theorem uO{tgs:List B4}{kx:Nat}{g:GDs}{n:Nat}(hc:X.calm=true) (h:tE X tgs g) (hn:(K9 tgs X.env).length=n:=by rfl) (hst:(K9 tgs X.env).findIdx? (·.1)=none:=by rfl):PGd X (.Tuple tgs kx pos) (jt g n):=by
 obtain⟨g1,p1,k1⟩:=h;refine⟨xW X.K n g1,v7 hc p1 hn hst,fun d v σ Δ Δ' M H Q sr hr rv e k=>?_⟩;cases d with
 |tup ds =>
  simp only[jt]at e
  by_cases hl:ds.length=n
  ·rw[if_pos hl]at e;simp only[Rep]at rv;obtain⟨a,vs,rfl,ta,rl⟩:=rv;exact⟨a,vs,rfl,ta.sq,by rw[<-rl.length];exact hl,k1 ds vs σ Δ Δ' M H Q sr hr rl e k⟩
  ·rw[if_neg hl]at e;cases e
 |_=>cases e
def Am(te:TEd) (g:GD):TSd:=fun E Δ M=>te Δ M fun d M1=>∃ Δ',g d Δ=some Δ'/\E.nx Δ' M1
abbrev TId:=DE->DH->(List D->DH->Prop)->Prop
def ItD(K:o0) (J:It) (ds:List D) (M1:DH) (H1:Hp):Prop:=∀M2 H2,Ext M1 H1 M2 H2->HR K M2 H2->∀i,(∀d,ds[i]?=some d->J.go i H2/\∀x H',J.yld i H2 x H'->Ext M2 H2 M2 H'/\HR K M2 H'/\Rep K M2 H' d x)/\(ds.length<=i->J.stop i H2)
def upI(K:o0) (wi:TId):TI:=fun σ H R=>∃(Δ:DE) (M:DH) (R':List D->DH->Prop),SR K M H σ Δ/\HR K M H/\wi Δ M R'/\∀ds M1 J H1,R' ds M1->Ext M H M1 H1->HR K M1 H1->ItD K J ds M1 H1->R J H1
theorem upI.el{K:o0}{t:TId}{σ:St}{H:Hp}{Q:It->Hp->Prop}{P:Prop}(h:upI K t σ H Q) (f:∀(Δ:DE) (M:DH) (R:List D->DH->Prop),SR K M H σ Δ->HR K M H->t Δ M R->(∀ds M1 J H1,R ds M1->Ext M H M1 H1->HR K M1 H1->ItD K J ds M1 H1->Q J H1)->P):P:=by
 obtain⟨x1,x2,x3,a,b,c,d⟩:=h;exact f x1 x2 x3 a b c d
def PId(X:Cx) (tg iter:B4) (wi:TId):Prop:=PI X tg iter (upI X.K wi)
theorem PI.conv{tg iter:B4}{w w':TI}(h:PI X tg iter w) (k:∀ σ H R,w' σ H R->w σ H R):PI X tg iter w':=fun p s σ H R I q=>h p s σ H R I (k σ H R q)
variable{tg iter:B4}
def iN(lo:Int) (n:Nat):List D:=(N0 n).map fun(k:Nat)=>.int (lo+(k:Int))
theorem bZ{lo:Int}{n i:Nat}{d:D}(h:(iN lo n)[i]?=some d):i<n/\d=.int (lo+i):=by
 unfold iN at h;rw[H0]at h
 by_cases hi:i<n
 ·rw[List.getElem?_range hi]at h;cases h;exact⟨hi,rfl⟩
 ·rw[List.getElem?_eq_none (by simp;omega)]at h;cases h
theorem nz{K:o0}{lo:Int}{n:Nat}{M1:DH}{H1:Hp}:ItD K (Itr lo n) (iN lo n) M1 H1:=fun M2 H2 e2 hr2 i=>⟨fun d hd=>by
  obtain⟨h1,rfl⟩:=bZ hd;refine⟨h1,fun x H' ⟨eH,y⟩=>?_⟩;subst eH;subst y;exact⟨Ext.refl _ _,hr2,by simp[Rep]⟩,fun hl=>by
  show n<=i;simpa[iN]using hl⟩
def rj(ta:TAd):TId:=fun Δ M R=>ta Δ M fun ds M1=>∃j:Int,ds=[.int j]/\-(2 ^ 62)<=j/\j<2 ^ 62/\R (iN 0 j.toNat) M1
def qt(ta:TAd):TId:=fun Δ M R=>ta Δ M fun ds M1=>∃i j:Int,ds=[.int i,.int j]/\(-(2 ^ 62)<=i/\i<2 ^ 62/\-(2 ^ 62)<=j/\j<2 ^ 62)/\R (iN i (j-i).toNat) M1
def bu(g:GD) (tb:TSd) (E:dv):List D->DE->DH->Prop
 |[],Δ,M=>E.nx Δ M
 |d::ds,Δ,M=>∃ Δ',g d Δ=some Δ'/\tb { E with nx:=bu g tb E ds,ct:=bu g tb E ds,bk:=E.nx } Δ' M
def yg(wi:TId) (g:GD) (tb:TSd):TSd:=fun E Δ M=>wi Δ M fun ds M1=>bu g tb E ds Δ M1
def pO(c:TTd) (tb:TSd):TSd:=fun E Δ M=>∃W:Nat->DE->DH->Prop,(∃m,W m Δ M)/\∀m Δ M,W m Δ M->c Δ M fun b M1=>if b=true then tb { E with nx:=fun Δ' M'=>∃m',m'<m/\W m' Δ' M',ct:=fun Δ' M'=>∃m',m'<m/\W m' Δ' M',bk:=E.nx } Δ M1 else E.nx Δ M1
end
def nH:D->Prop
 |.tup ds=>ds.length<=A0
 |.lst ds=>ds.length<=A0
 |.scr ds=>ds.length<=A0
 |_=>True
section
variable{X:Cx}{a b c e:B4}{es:List B4}{te ta tb:TEd}{pos:Pos}{tg iter elt:B4}
theorem aA.len{K:o0}{aa:List (A8×Obj)}{σ:St}{H:Hp}{s:v0}{M:DH}{d:D}{v:V}(I:Inv X aa σ H s) (h:Rep X.K M H d v):nH d:=by
 cases d with
 |tup ds =>
  simp only[Rep]at h;obtain⟨a,vs,e,t,r⟩:=h;obtain⟨_,_,_,z⟩:=I.tuple t.sq;simp only[nH];rw[r.length];exact z
 |lst ds =>
  simp only[Rep]at h;obtain⟨a,vs,e,t,r⟩:=h;obtain⟨_,_,_,z⟩:=I.list (SqL.of t.1);simp only[nH];rw[r.length];exact z
 |scr ds =>
  simp only[Rep]at h;obtain⟨a,vs,e,t,r⟩:=h;obtain⟨_,_,_,z⟩:=I.list t.sq;simp only[nH];rw[r.length];exact z
 |_=>trivial
noncomputable def bt:List Bool->DE->DE
 |true::ms,v::σ=>v::bt ms σ
 |false::ms,_::σ=>none::bt ms σ
 |[],_::σ=>none::bt [] σ
 |_,[]=>[]
def me(ms:List Bool) (k:Nat) (Δ:DE):DE:=bt ms Δ++A7 k none
theorem bN:∀(ms:List Bool) (σ:DE),(bt ms σ).length=σ.length
 |true::ms,v::σ=>by simp[bt,bN ms σ]
 |false::ms,_::σ=>by simp[bt,bN ms σ]
 |[],_::σ=>by simp[bt,bN [] σ]
 |[],[]=>by simp[bt]
 |true::_,[]=>by simp[bt]
 |false::_,[]=>by simp[bt]
theorem dR:∀{ms:List Bool}{σ:DE}{i:Nat}{v:D},(bt ms σ)[i]?=some (some v)->ms[i]?=some true/\σ[i]?=some (some v)
 |true::ms,v::σ,0,x,h=>by simpa[bt]using h
 |true::ms,v::σ,i+1,x,h=>by
  have:=dR (ms:=ms) (σ:=σ) (i:=i) (v:=x) (by simpa[bt]using h);simpa using this
 |false::ms,_::σ,0,x,h=>by simp[bt]at h
 |false::ms,_::σ,i+1,x,h=>by
  have:=dR (ms:=ms) (σ:=σ) (i:=i) (v:=x) (by simpa[bt]using h);simpa using this
 |[],_::σ,0,x,h=>by simp[bt]at h
 |[],_::σ,i+1,x,h=>by
  have:=dR (ms:=[]) (σ:=σ) (i:=i) (v:=x) (by simpa[bt]using h);simpa using this
 |[],[],_,_,h=>by simp[bt]at h
 |true::_,[],_,_,h=>by simp[bt]at h
 |false::_,[],_,_,h=>by simp[bt]at h
theorem eJ:∀{ms:List Bool}{σ:St}{i:Nat}{v:V},ms[i]?=some true->σ[i]?=some (some v)->(aU ms σ)[i]?=some (some v)
 |true::ms,v::σ,0,x,h,h2=>by simpa[aU]using h2
 |true::ms,v::σ,i+1,x,h,h2=>by
  have:=eJ (ms:=ms) (σ:=σ) (i:=i) (v:=x) (by simpa using h) (by simpa using h2);simpa[aU]using this
 |false::ms,_::σ,0,x,h,h2=>by simp at h
 |false::ms,_::σ,i+1,x,h,h2=>by
  have:=eJ (ms:=ms) (σ:=σ) (i:=i) (v:=x) (by simpa using h) (by simpa using h2);simpa[aU]using this
 |[],_,_,_,h,_=>by simp at h
 |_::_,[],_,_,_,h=>by simp at h
theorem SR.comp{K:o0}{M:DH}{H:Hp}{σ:St}{Δ:DE}(ms:List Bool) (k:Nat) (h:SR K M H σ Δ):SR K M H (ej ms k σ) (me ms k Δ):=by
 refine⟨by simp[ej,me,aW,bN,h.1],fun i d q=>?_⟩;unfold me at q
 by_cases hi:i<(bt ms Δ).length
 ·rw[C3 hi]at q;obtain⟨m,e⟩:=dR q;obtain⟨v,ev,rv⟩:=h.2 i d e;refine⟨v,?_,rv⟩;have:=eJ m ev;unfold ej;rw[C3 (by rw[aW,h.1,<-bN ms];exact hi)];exact this
 ·rw[F3 (by omega),J9]at q
  split at q<;>cases q
def cH(g:GD) (tc:TTd) (te:TEd):List D->DE->DH->List D->(List D->DH->Prop)->Prop
 |[],_,M,acc,Q=>Q acc M
 |d::ds,Δ,M,acc,Q=>∃ Δ',g d Δ=some Δ'/\tc Δ' M fun b M1=>if b=true then te Δ' M1 fun y M2=>cH g tc te ds Δ' M2 (acc++[y]) Q else cH g tc te ds Δ' M1 acc Q
def dLc(ms:List Bool) (k:Nat) (wi:TId) (g:GD) (tc:TTd) (te:TEd):TEd:=fun Δ M Q=>wi Δ M fun ds M1=>ds.length<=A0/\cH g tc te ds (me ms k Δ) M1 [] fun ys M2=>Q (.lst ys) M2
def yq(X:Cx) (ifs:List B4) (t:TTd):Prop:=PIf X ifs (upT X.K t)
def mZ:TTd:=fun _ M Q=>Q true M
abbrev i9(K:o0) (g:GD) (gv:TG):Prop:=∀(d:D) (v:V) (σ:St) (Δ Δ':DE) (M:DH) (H:Hp) (Q:St->Hp->Prop),SR K M H σ Δ->HR K M H->Rep K M H d v->g d Δ=some Δ'->(∀ σ',SR K M H σ' Δ'->Q σ' H)->gv v σ H Q
theorem uf{K:o0}{g:GD}{tc:TTd}{te:TEd}{gv:TG}(kg:i9 K g gv) {J:It}{ds:List D}{M1:DH}{H1:Hp}(it:ItD K J ds M1 H1) (hr1:HR K M1 H1) (hz:ds.length<=A0) {R:List D->DH->Prop}{σ:St}{Δ:DE}(sr:SR K M1 H1 σ Δ) (q:cH g tc te ds Δ M1 [] R) :
  ∃(W:Nat->Nat->List V->St->Hp->Prop) (Z:List V->St->Hp->Prop),(∃m,W 0 m [] σ H1)/\fM J gv (upT K tc) (ik (up K te)) W Z/\∀ys σ' H',Z ys σ' H'->∃M' acc,Ext M1 H1 M' H'/\HR K M' H'/\ag K M' H' acc ys/\R acc M':=by
 refine⟨fun i m ys σ' H'=>∃ Δ' M' acc,m=ds.length-i/\i<=ds.length/\Ext M1 H1 M' H'/\HR K M' H'/\SR K M' H' σ' Δ'/\ag K M' H' acc ys/\acc.length<=i/\cH g tc te (ds.drop i) Δ' M' acc R,_,
  ⟨ds.length,_,M1,[],by simp,N2 _,Ext.refl _ _,hr1,sr,ag.nil,by simp,q⟩,?_,fun _ _ _ z=>z⟩
 rintro i m ys σ2 H2 ⟨Δ2,M2,acc,rfl,hi2,e2,hr2,sr2,ra,la,f2⟩;have hl:ys.length<=A0:=by rw[<-ra.length];omega
 refine⟨hl,?_⟩;obtain⟨go,stop⟩:=it M2 H2 e2 hr2 i
 by_cases hlt:i<ds.length
 ·have hd:ds[i]?=some ds[i]:=by simp[hlt]
  obtain⟨g1,y1⟩:=go _ hd;rw[List.drop_eq_getElem_cons hlt]at f2;simp only[cH]at f2;obtain⟨Δ3,eg,f3⟩:=f2;refine .inr ⟨g1,fun x H' hy=>?_⟩;obtain⟨e3,hr3,rx⟩:=y1 x H' hy;refine kg _ x σ2 Δ2 Δ3 M2 H' _ (sr2.ext e3) hr3 rx eg fun σ3 sr3=>?_;refine⟨Δ3,M2,_,sr3,hr3,f3,fun b M4 H4 q4 e4 hr4=>?_⟩;cases b with
  |true =>
   simp only[if_true]at q4 ⊢;refine⟨Δ3,M4,_,sr3.ext e4,hr4,q4,fun y M5 v5 H5 q5 e5 hr5 rv5=>?_⟩;refine⟨ds.length-(i+1),by omega,Δ3,M5,acc++[y],rfl,hlt,((e2.trans e3).trans e4).trans e5,hr5,(sr3.ext e4).ext e5,(((ra.ext e3).ext e4).ext e5).append (ag.cons rv5 ag.nil),by simp;omega,q5⟩
  |false =>
   simp only[F4,if_false]at q4 ⊢;exact⟨ds.length-(i+1),by omega,Δ3,M4,acc,rfl,hlt,(e2.trans e3).trans e4,hr4,sr3.ext e4,(ra.ext e3).ext e4,by omega,q4⟩
 ·rw[List.drop_eq_nil_of_le (by omega)]at f2;exact .inl ⟨stop (by omega),M2,acc,e2,hr2,ra,f2⟩
theorem nh{K:o0}{wi:TId}{g:GD}{tc:TTd}{te:TEd}{gv:TG}{ms:List Bool}{kk:Nat}(kg:i9 K g gv) :
  ∀ σ H Q,up K (dLc ms kk wi g tc te) σ H Q->tLc ms kk (upI K wi) gv (upT K tc) (up K te) σ H Q:=by
 rintro σ H Q ⟨Δ,M,R,sr,hr,q,k⟩;refine⟨Δ,M,_,sr,hr,q,fun ds M1 J H1 ⟨hz,q1⟩ e1 hr1 it=>?_⟩;obtain⟨W,Z,hW,hC,hZ⟩:=uf kg it hr1 hz ((sr.ext e1).comp ms kk) q1;refine⟨W,Z,hW,hC,fun ys σ' H' p z hp=>?_⟩;obtain⟨M',acc,e',hr',ra,q'⟩:=hZ _ _ _ z;refine k _ M' _ _ q' ((e1.trans e').trans (Ext.new hr' hp)) (hr'.new hp) ?_;simp only[Rep];exact⟨p,ys,rfl,⟨aC,hr'.fresh hp⟩,ra.ext (Ext.new hr' hp)⟩
variable{scope:M9}{cl:List (Str×A8)}{ms:List Bool}{ai:List Str}{ifs:List B4}
def PGa(X:Cx) (scope:M9) (cl:List (Str×A8)) (ai:List Str) (tg:B4) (g:GD):Prop:=∃gv:TG,(∀C s H ex,PG (av X scope cl (X.N++ai) C s H ex) tg gv)/\i9 X.K g gv
theorem aQ{i:Nat}{x:Str}{pos:Pos}(hN:(X.N++ai).Nodup) (hi:(X.N++ai)[i]?=some x) (hx:(relabel scope X.env).names.lookup x=some .local):PGa X scope cl ai (.Name x pos) (bR i) :=
 ⟨lR i,fun C s H ex=>nM hN hi (.inl hx) (.inr hx),fun d v σ Δ Δ' M H Q sr hr rv e k=>by cases e;exact k _ (sr.set i rv)⟩
end
abbrev SpD:=List D->DH->(D->DH->Prop)->Prop
def spD(K:o0) (n:Nat) (S:SpD):Sp:=fun vs H Q _=>∃(ds:List D) (M:DH) (R:D->DH->Prop),ds.length=n/\ag K M H ds vs/\HR K M H/\S ds M R/\∀d M' v H',R d M'->Ext M H M' H'->HR K M' H'->Rep K M' H' d v->Q v H'
theorem uE{K:o0}{n:Nat}{S:SpD}{vs:List V}{H:Hp}{Q:VK}{E:XK}(h:spD K n S vs H Q E):vs.length=n:=by
 obtain⟨ds,M,R,hl,r,_⟩:=h;rw[<-r.length];exact hl
def eC(N:List Str) (ds:List D):DE:=ds.map some++A7 (N.length-ds.length) none
theorem rN{K:o0}{M:DH}{H:Hp}{N:List Str}:∀{ds:List D}{vs:List V},ag K M H ds vs->SR K M H (du N vs) (eC N ds):=by
 intro ds vs h;have hl:=h.length;refine⟨by simp[du,eC,hl],fun i d q=>?_⟩;unfold eC at q
 by_cases hi:i<ds.length
 ·rw[C3 (by simpa using hi),H0]at q;cases e:ds[i]? with
  |none=>rw[e]at q;cases q
  |some d' =>
   rw[e]at q;cases q;obtain⟨v,gv,rv⟩:=h.get e;refine⟨v,?_,rv⟩;unfold du;rw[C3 (by simp;omega),H0,gv];rfl
 ·rw[F3 (by simpa using hi),J9]at q
  split at q<;>cases q
section
variable{P:B9}{w:E6}{K:o0}{mg:Str->Option u8}{base:C5}{f:A8}{fd:F6}
theorem Fun.okD{x qual:Str}{st:Q7}{f:A8}{fd:F6}{N ps:List Str}{k n:Nat}{S:SpD}(F:Fun K x qual st f fd) (hn:ps.length=n) (Sc:aB N ps (ah st))
  (hbody:∀ (cdv:u8) (A:D7) (outer:List Env) (s:v0) (H:Hp) (E:XK),bY k (A.deeper (R6 qual (ah st) s.heap.objs.size f cdv)) →
   ∃t:TSd,uB (jQ CX0 P w K mg base N qual (ah st) f cdv A outer s H E).nox (bW st) t/\∀ds M R,ds.length=n->S ds M R->t { nx:=fun _ M'=>R .non M',rt:=R } (eC N ds) M):bw P w K mg base CX0 (k+1) f fd ps (spD K n S):=by
 refine F.ok Sc (fun vs H Q E h=>by rw[hn];exact uE h) (fun cdv A outer s H vs Q E hr h=>?_);obtain⟨t,ht,hq⟩:=hbody cdv A outer s H E hr;obtain⟨ds,M,R,hl,r,hrr,q,k'⟩:=h;refine⟨_,ht,eC N ds,M,_,rN r,hrr,hq ds M R hl q,⟨fun Δ' M' σ' H' q' e' hr' _=>k' .non M' .non H' q' e' hr' (by simp[Rep]),fun _ _ _ _ q'=>F7 q',fun _ _ _ _ q'=>F7 q',fun d M' v H' q' e' hr' rv=>k' d M' v H' q' e' hr' rv⟩⟩
end
section
variable{X:Cx}{a b c e:B4}{es:List B4}{te ta tb:TEd}{t:TAd}{pos:Pos}
def lJ(n:Nat) (S:SpD) (t:TAd):TEd:=fun Δ M Q=>t Δ M fun ds M1=>ds.length=n/\S ds M1 Q
theorem vU{k:Nat}{f:A8}{fd:F6}{ps:List Str}{n:Nat}{S:SpD}{x:Str}{p:Pos}(F:bw X.prog X.w X.K X.mg X.base CX0 k f fd ps (spD X.K n S)) (hr:bY k X.A) (hg:Gl X x) (hm:X.mg x=some (.ref f)) (hk:K6 X.K (.ref f)=true) (hb:cS X.K fd ps [])
  (ha:PAd X (e::es) t) (hdb:(x==("__debug__":Str))=false:=by decide) (he:B1 (e::es) X.env=(false,N6 e X.env)::B1 es X.env:=by rfl) (hpl:(L3 pos (B1 es X.env)).any (·.1)=false:=by rfl) :
  PEd X (.Call (.Name x p) (e::es) [] pos) (lJ n S t) :=
 (uK F hr hg hm hk hb .nil zr ha hdb he hpl).conv fun σ H Q hup => hup.el fun Δ M R sr hr q k => ⟨Δ,M,_,sr,hr,q,fun ds M1 vs H1 ⟨hl,q1⟩ e1 hr1 rv => by
  dsimp only;rw[O3];exact⟨ds,M1,R,hl,rv,hr1,q1,fun d M' v H' q' e' hr' rv'=>k d M' v H' q' (e1.trans e') hr' rv'⟩⟩
def uP(M1 M2:DH) (d d2:D):Prop:=d2=d∨∃a l,d=.ref a/\M1 a=some (.lst l)/\M2 a=none/\d2=.lst l
theorem lZ{K:o0}{M1 M2:DH}{H:Hp}(hr:HR K M1 H) (hle:LeM M2 M1):∀{ds ds2:List D}{vs:List V},F2 (uP M1 M2) ds ds2->ag K M1 H ds vs->ag K M2 H ds2 vs
 |_,_,_,.nil,h=>by simp only[ag]at h ⊢;exact h
 |_,_,_,.cons h1 t,h=>by
  simp only[ag]at h;obtain⟨v,ws,rfl,h3,h4⟩:=h;refine ag.cons ?_ (lZ hr hle t h4);rcases h1 with rfl|⟨a,l,rfl,e1,e2,rfl⟩
  ·exact h3.ext (Ext.le hle)
  ·simp only[Rep]at h3;subst h3;exact Rep.froze hr hle e1 e2
theorem k7{M1:DH}:∀{ds:List D},F2 (uP M1 noM) ds (ds.map (rdM M1))
 |[]=>.nil
 | d :: ds => .cons (by
   cases d with
   |ref a =>
    simp only[rdM];cases q:M1 a with
    |none=>exact .inl rfl
    |some o=>cases o with|lst l=>exact .inr ⟨a,l,rfl,q,rfl,rfl⟩|dK _=>exact .inl rfl|dT _=>exact .inl rfl|dKr _ _ _=>exact .inl rfl|ins _ _=>exact .inl rfl|ext _ _=>exact .inl rfl
   |_=>exact .inl rfl) k7
def t6(to te:TEd):TEd:=fun Δ M Q=>to Δ M fun o M1=>∃a l,o=.ref a/\M1 a=some (.lst l)/\te Δ M1 fun d M2=>∃ds,M2 a=some (.lst ds)/\ds.length<A0/\Q .non (aD M2 a (.lst (ds++[d])))
end
def ItW(n:Nat) (Vp:Nat->V->Prop):It:=⟨fun i _=>i<n,fun i H x H'=>H'=H/\Vp i x,fun i _=>n<=i⟩
theorem pB{P:B9}{w:E6}{K:o0}{tg:B4}{it:A8}{n:Nat}{Pv:Nat->u8->Prop}{St:Nat->C5->Prop}{ty:String}{Vp:Nat->V->Prop}
  (W:∀A:D7,A.handled=none->Walks P w A it [it] [it] n Pv St) (ho:∀i h,St i h->∃o,h.get? it=some o/\o.cls=.type ty/\∃vs,o.data=.fields vs)
  (hn:["enumerate","zip","dict_itemiterator","dict_reverseitemiterator","odict_iterator","itertools.zip_longest","itertools.pairwise"].contains ty=false)
  (hv:∀i u,Pv i u->∃x,ar x u/\Vp i x) (hself:∀(A:D7) (i:Nat) (s:v0) (Q:u8->v0->Prop) (E:u8->v0->Prop),St i s.heap->Q (.ref it) s->B7 (B8 P w) A (S7 (.ref it)) Q E s):lj P w K tg (ItW n Vp) [it] it (fun i h=>i<=n/\St i h) where
 mem:=by simp
 obj:=fun i h st b hb=>by
  have e:b=it:=by simpa using hb
  subst e;obtain⟨o,e,c,vs,d⟩:=ho i h st.2;exact⟨o,e,fun v z=>by rw[d]at z;cases z⟩
 keep:=fun i h h' st k=>⟨st.1,(W { handled:=none } rfl).frame i h h' st.2 k⟩
 item:=by
  intro X hP hw hK hc i aa s σ H E I hf st hg;subst hP hw hK;obtain⟨f0,f1,f2,f3,f4,f5⟩:=hf it (by simp);refine(W X.A (I.ok.hd hc)).item i s _ _ hg st.2 fun v h' tk pv st' kk=>?_;have I1:Inv X aa σ H { s with heap:=h',toks:=tk }:=I.turned (fun b o hb e=>kk b o (by simpa using hb) e) f0 f1 f3 f4 f5;obtain⟨x,rx,vx⟩:=hv i v pv;obtain⟨o,e,c,vs,d⟩:=ho _ _ st';exact⟨v,rfl,ou (s:={ s with heap:=h',toks:=tk }) e c d hn ⟨x,H,I1,rx,⟨rfl,vx⟩,⟨hg,st'⟩,fun b hb=>(hf b hb).1⟩⟩
 done:=by
  intro X hP hw hK hc i aa s σ H E I hf st hg;subst hP hw hK;obtain⟨f0,f1,f2,f3,f4,f5⟩:=hf it (by simp);have e:i=n:=Nat.le_antisymm st.1 hg;subst e;exact(W X.A (I.ok.hd hc)).done s _ _ st.2 fun h' tk kk=>⟨rfl,I.turned (fun b o hb e=>kk b o (by simpa using hb) e) f0 f1 f3 f4 f5⟩
 self:=fun A i s Q E st h=>hself A i s Q E st.2 h
section
variable{X:Cx}{a b c e:B4}{es:List B4}{te ta tb:TEd}{t:TAd}{pos:Pos}{tg iter:B4}
noncomputable def ef(x:Str):List D:=x.cps.toList.map fun c=>.str ⟨#[c]⟩
theorem nS{aa:List (A8×Obj)}{σ:St}{H:Hp}{s:v0}{x:Str}{t:Tok}{R:It->Hp->Prop}(I:Inv X aa σ H s) (ty:String) (hn:["enumerate","zip","dict_itemiterator","dict_reverseitemiterator","odict_iterator","itertools.zip_longest","itertools.pairwise"].contains ty=false)
  (W:∀A:D7,A.handled=none->Walks X.prog X.w A s.heap.objs.size [s.heap.objs.size] [s.heap.objs.size] x.cps.size (SignAt x) (fun i h=>h.IsStrIter s.heap.objs.size ty x t i))
  (hself:∀(A:D7) (i:Nat) (s':v0) (Q:u8->v0->Prop) (E:u8->v0->Prop),s'.heap.IsStrIter s.heap.objs.size ty x t i->Q (.ref s.heap.objs.size) s'->B7 (B8 X.prog X.w) A (S7 (.ref s.heap.objs.size)) Q E s')
  (q:R (ItW x.cps.size fun i v=>∃c,x.cps[i]?=some c/\v=.str ⟨#[c]⟩) H):PIE X aa σ tg R (.ref s.heap.objs.size) { s with heap:=s.heap.push { cls:=.type ty,data:=.fields #[.str x t,.int 0 0] } }:=by
 have I1:Inv X aa σ H { s with heap:=s.heap.push { cls:=.type ty,data:=.fields #[.str x t,.int 0 0] } }:=I.kept (t':=s.toks) fun b o e=>A4 _ e;refine⟨s.heap.objs.size,[s.heap.objs.size],_,_,H,rfl,I1,pB W (fun i h st=>?_) hn (fun i u ⟨c,t',e,ev⟩=>⟨.str ⟨#[c]⟩,⟨t',ev⟩,c,e,rfl⟩) hself,⟨N2 _,_,B6 _ rfl,rfl,rfl⟩,fun b hb=>?_,q⟩
 ·obtain⟨o,e,c,d⟩:=st;exact⟨o,e,c,_,d⟩
 ·have e:b=s.heap.objs.size:=by simpa using hb
  subst e;exact I.fpOk (B0 _) (I.hok.fresh (B0 _))
end
section
variable{X:Cx}{a b c e:B4}{es:List B4}{te ta tb:TEd}{t:TAd}{pos:Pos}
def eqF(x y:D):Option D:=if dLe x 60=true/\dLe y 60=true then some (.bl (eqD x y))else none
theorem p7{x y z:D}(h:eqF x y=some z):dLe x 60=true/\dLe y 60=true/\z=.bl (eqD x y):=by
 unfold eqF at h
 by_cases hc:dLe x 60=true/\dLe y 60=true
 ·rw[if_pos hc]at h;cases h;exact⟨hc.1,hc.2,rfl⟩
 ·rw[if_neg hc]at h;cases h
theorem iR(hu:X.A.units+64<S8):bv X (E2 .Eq) eqF:=by
 intro aa s σ H M x y v u dx dy dz Q I hr rx ry r1 r2 e k;obtain⟨h1,h2,rfl⟩:=p7 e;exact(rA I 60 (A:=X.A) (by omega) h1 h2 r1 r2 rx ry).2.1 X.prog X.w X.xe _ ⟨.bl (eqD dx dy),H,I,rfl,k _ H (Ext.refl _ _) hr (by simp[Rep])⟩
def inD(neg:Bool) (x y:D):Option D:=match y with
 |.lst ds=>if aI x=true/\ds.all aI=true then some (.bl (xor neg (ds.any fun d=>eqD d x)))else none
 |.tup ds=>if aI x=true/\ds.all aI=true then some (.bl (xor neg (ds.any fun d=>eqD d x)))else none
 |_=>none
theorem vv{K:o0}{M:DH}{H:Hp}{d:D}{v:V}(h:aI d=true) (r:Rep K M H d v):v=toV d/\dJ v=true:=by
 cases d<;>first|(simp only[Rep]at r;subst r;exact⟨rfl,rfl⟩)|cases h
theorem ux{x y:D}(hx:aI x=true) (hy:aI y=true):eqV (toV x) (toV y)=eqD x y:=by
 cases x<;>cases y<;>first|(simp[aI]at hx;done)|(simp[aI]at hy;done)|(simp[toV,eqV,eqD];done)
theorem dn{K:o0}{M:DH}{H:Hp}{x:D}(hx:aI x=true):∀{ds:List D}{vs:List V},ag K M H ds vs->ds.all aI=true->vs.all dJ=true/\inV (toV x) vs=ds.any fun d=>eqD d x
 |[],_,h,_=>by simp only[ag]at h;subst h;simp[inV]
 |d::ds,_,h,ha=>by
  simp only[ag]at h;obtain⟨v,ws,rfl,h3,h4⟩:=h;rw[L9,C0]at ha;obtain⟨e1,e2⟩:=vv ha.1 h3;obtain⟨e3,e4⟩:=dn hx h4 ha.2;subst e1;refine⟨by rw[L9,e2,e3];rfl,?_⟩;unfold inV at e4 ⊢;rw[E8,E8,e4,ux ha.1 hx]
theorem aA.scal{K:o0}{M:DH}{H:Hp}{d:D}{v:V}(h:aI d=true) (r:aA K M H d v):v=toV d/\dJ v=true:=by
 cases d<;>first|(simp only[aA,Rep]at r;subst r;exact⟨rfl,rfl⟩)|cases h
theorem Aq:bv X (E2 .In) (inD false):=bv.of oz fun H M x y dx dy dz Q hr r1 r2 e q=>by
 cases dy with
 |lst ds =>
  simp only[inD]at e
  by_cases hc:aI dx=true/\ds.all aI=true
  ·rw[if_pos hc]at e;cases e;obtain⟨l,vs,rfl,sq,rl⟩:=r2;obtain⟨e1,e2⟩:=aA.scal hc.1 r1;obtain⟨e3,e4⟩:=dn hc.1 rl hc.2;subst e1;refine⟨l,vs,rfl,.inl (SqL.of sq),e2,e3,q _ H (Ext.refl _ _) hr ?_⟩;rw[e4];simp[Rep]
  ·rw[if_neg hc]at e;cases e
 |tup ds =>
  simp only[inD]at e
  by_cases hc:aI dx=true/\ds.all aI=true
  ·rw[if_pos hc]at e;cases e;obtain⟨l,vs,rfl,sq,rl⟩:=r2;obtain⟨e1,e2⟩:=aA.scal hc.1 r1;obtain⟨e3,e4⟩:=dn hc.1 rl hc.2;subst e1;refine⟨l,vs,rfl,.inr sq,e2,e3,q _ H (Ext.refl _ _) hr ?_⟩;rw[e4];simp[Rep]
  ·rw[if_neg hc]at e;cases e
 |_=>cases e
theorem sG:bv X (E2 .NotIn) (inD true):=bv.of ka fun H M x y dx dy dz Q hr r1 r2 e q=>by
 cases dy with
 |lst ds =>
  simp only[inD]at e
  by_cases hc:aI dx=true/\ds.all aI=true
  ·rw[if_pos hc]at e;cases e;obtain⟨l,vs,rfl,sq,rl⟩:=r2;obtain⟨e1,e2⟩:=aA.scal hc.1 r1;obtain⟨e3,e4⟩:=dn hc.1 rl hc.2;subst e1;refine⟨l,vs,rfl,.inl (SqL.of sq),e2,e3,q _ H (Ext.refl _ _) hr ?_⟩;rw[e4];simp[Rep]
  ·rw[if_neg hc]at e;cases e
 |tup ds =>
  simp only[inD]at e
  by_cases hc:aI dx=true/\ds.all aI=true
  ·rw[if_pos hc]at e;cases e;obtain⟨l,vs,rfl,sq,rl⟩:=r2;obtain⟨e1,e2⟩:=aA.scal hc.1 r1;obtain⟨e3,e4⟩:=dn hc.1 rl hc.2;subst e1;refine⟨l,vs,rfl,.inr sq,e2,e3,q _ H (Ext.refl _ _) hr ?_⟩;rw[e4];simp[Rep]
  ·rw[if_neg hc]at e;cases e
 |_=>cases e
def mT(f:D->Option D):List D->Option D
 |[d]=>f d
 |_=>none
theorem kH{K:o0}{M:DH}{H:Hp}{d:D}{xs:List V}(h:F2 (aA K M H) [d] xs):∃v,xs=[v]/\aA K M H d v:=by
 cases h with
 |cons r t=>cases t;exact⟨_,rfl,r⟩
theorem cJ{f:D->Option D}{ds:List D}{z:D}(h:mT f ds=some z):∃d,ds=[d]/\f d=some z:=by
 match ds,h with
 |[d],h=>exact⟨d,rfl,h⟩
noncomputable def oW:D->Option D
 |.tup ds=>some (.int ds.length)
 |.lst ds=>some (.int ds.length)
 |.scr ds=>some (.int ds.length)
 |.str x=>if x.length<=A0 then some (.int x.length)else none
 |_=>none
theorem b0:bJ X (.builtin "len") (mT oW):=bJ.of (cv.or jT j5) fun H M xs ds dz Q hr rp e q=>by
 obtain⟨d,rfl,e0⟩:=cJ e;clear e;have e:=e0;clear e0;obtain⟨v,rfl,r⟩:=kH rp;cases d with
 |tup ds=>cases e;obtain⟨l,vs,rfl,sq,rl⟩:=r;exact .inl ⟨l,vs,rfl,.inr sq,q _ H (Ext.refl _ _) hr (by rw[<-rl.length];simp[Rep])⟩
 |lst ds=>cases e;obtain⟨l,vs,rfl,sq,rl⟩:=r;exact .inl ⟨l,vs,rfl,.inl (SqL.of sq),q _ H (Ext.refl _ _) hr (by rw[<-rl.length];simp[Rep])⟩
 |scr ds=>cases e;obtain⟨l,vs,rfl,sq,rl⟩:=r;exact .inl ⟨l,vs,rfl,.inl sq,q _ H (Ext.refl _ _) hr (by rw[<-rl.length];simp[Rep])⟩
 |str x =>
  simp only[oW]at e
  by_cases hz:x.length<=A0
  ·rw[if_pos hz]at e;cases e;exact .inr ⟨x,by rw[iW r],hz,q _ H (Ext.refl _ _) hr (by simp[Rep])⟩
  ·rw[if_neg hz]at e;cases e
 |_=>cases e
def Ag:D->Option D
 |.int i=>some (.int (if i<0 then -i else i))
 |_=>none
def vF:D->Option D
 |.lst ds=>some (.tup ds)
 |.tup ds=>some (.tup ds)
 |_=>none
theorem jW:bJ X (.type "tuple") (mT vF):=bJ.of iS fun H M xs ds dz Q hr rp e q=>by
 obtain⟨d,rfl,e0⟩:=cJ e;clear e;have e:=e0;clear e0;obtain⟨v,rfl,r⟩:=kH rp;cases d with
 |lst ds=>cases e;obtain⟨l,vs,rfl,sq,rl⟩:=r;exact⟨l,vs,rfl,.inl ⟨SqL.of sq,fun p hp=>jN hr hp rl q⟩⟩
 |tup ds=>cases e;have t1:=aA.tup hr r;obtain⟨l,vs,rfl,sq,rl⟩:=r;exact⟨l,vs,rfl,.inr ⟨sq,q _ H (Ext.refl _ _) hr t1⟩⟩
 |_=>cases e
def yb:D->Option D
 |.lst ds=>some (.lst ds)
 |.scr ds=>some (.lst ds)
 |.tup ds=>some (.lst ds)
 |_=>none
theorem wB:bJ X (.type "list") (mT yb):=bJ.of jS fun H M xs ds dz Q hr rp e q=>by
 obtain⟨d,rfl,e0⟩:=cJ e;clear e;have e:=e0;clear e0;obtain⟨v,rfl,r⟩:=kH rp;cases d with
 |lst ds=>cases e;obtain⟨l,vs,rfl,sq,rl⟩:=r;exact⟨l,vs,rfl,.inl (SqL.of sq),fun p hp=>cU hr hp rl q⟩
 |scr ds=>cases e;obtain⟨l,vs,rfl,sq,rl⟩:=r;exact⟨l,vs,rfl,.inl sq,fun p hp=>cU hr hp rl q⟩
 |tup ds=>cases e;obtain⟨l,vs,rfl,sq,rl⟩:=r;exact⟨l,vs,rfl,.inr sq,fun p hp=>cU hr hp rl q⟩
 |_=>cases e
def m7:D->Bool
 |.bl _=>true
 |_=>false
def mv:D->Bool
 |.bl b=>b
 |_=>false
def ui:D->Option D
 |.lst ds=>if ds.all m7=true then some (.bl (ds.all mv))else none
 |_=>none
def tW:D->Option D
 |.lst ds=>if ds.all m7=true then some (.bl (ds.any mv))else none
 |_=>none
theorem oZ{p:Nat->Bool}{q:D->Bool}:∀{ds:List D},(∀i d,ds[i]?=some d->p i=q d)->(N0 ds.length).all p=ds.all q:=by
 intro ds h;rw[Bool.eq_iff_iff,N9,N9];constructor
 ·intro hh d hd;obtain⟨i,hi,e⟩:=List.mem_iff_getElem.mp hd;rw[<-h i d (by rw[J3 hi,e])];exact hh i (N4.mpr hi)
 ·intro hh i hi;have hi:=N4.mp hi;rw[h i ds[i] (by simp[hi])];exact hh _ (List.getElem_mem hi)
theorem o4{p:Nat->Bool}{q:D->Bool}:∀{ds:List D},(∀i d,ds[i]?=some d->p i=q d)->(N0 ds.length).any p=ds.any q:=by
 intro ds h;rw[Bool.eq_iff_iff,List.any_eq_true,List.any_eq_true];constructor
 ·rintro⟨i,hi,hp⟩;have hi:=N4.mp hi;exact⟨ds[i],List.getElem_mem hi,by rw[<-h i ds[i] (by simp[hi])];exact hp⟩
 ·rintro⟨d,hd,hq⟩;obtain⟨i,hi,e⟩:=List.mem_iff_getElem.mp hd;exact⟨i,N4.mpr hi,by rw[h i d (by rw[J3 hi,e])];exact hq⟩
theorem k6{K:o0}{M:DH}{H:Hp}{ds:List D}{vs:List V}{us:List u8}(rl:ag K M H ds vs) (rv:ao vs us) (hb:ds.all m7=true) {i:Nat}{u:u8}(h:us[i]?=some u):∃d,ds[i]?=some d/\u=.bool (mv d):=by
 have hi:i<ds.length:=by rw[rl.length,rv.length];exact(E7.mp h).1
 obtain⟨v,g,r⟩:=rl.get (i:=i) (d:=ds[i]) (by simp[hi]);obtain⟨u',g',r'⟩:=rv.get g;rw[h]at g';cases g';have hbi:=N9.mp hb ds[i] (List.getElem_mem hi);refine⟨ds[i],by simp[hi],?_⟩;cases q:ds[i]with
 |bl b=>rw[q]at r;simp only[Rep]at r;subst r;exact r'
 |_=>rw[q]at hbi;cases hbi
theorem p8(hc:X.calm=true):bJ X (.builtin "all") (mT ui):=by
 intro aa s σ H M xs us ds dz Q I hr rv rp e k;obtain⟨d,rfl,e0⟩:=cJ e;clear e;have e:=e0;clear e0;obtain⟨v,rfl,r⟩:=kH rp;obtain⟨u,rfl,ru⟩:=ao.one rv;cases d with
 |lst ds =>
  simp only[ui]at e
  by_cases hb:ds.all m7=true
  ·rw[if_pos hb]at e;cases e;obtain⟨l,vs,rfl,sq,rl⟩:=r;cases ru;obtain⟨its,rv,pl,hz⟩:=I.list (SqL.of sq);have hne:l≠s.heap.objs.size:=B5 (I.hok.lt sq);refine call_all_walk (N3 pl.isList ⟨s.heap.objs.size,[s.heap.objs.size,l],[s.heap.objs.size],its.toArray.size,_,_,fun i=>(ds[i]?.map mv).getD false,rfl,Walks.list (A:=X.A.in1) (show X.A.in1.handled=none from I.ok.hd hc) s.heap.objs.size l hne its.toArray,⟨⟨_,B6 _ rfl,rfl,rfl⟩,?_⟩,fun i v s' Q' E' hv q=>?_,fun h' tk kk=>?_⟩)
   ·obtain⟨o,e,c⟩:=pl.isList;exact⟨o,A4 _ e,c⟩
   ·obtain⟨d,hd,rfl⟩:=k6 rl rv hb (i:=i) (u:=v) (by simpa using hv);dsimp only at q;rw[hd]at q;exact K4 q
   ·have I1:Inv X aa σ H { s with heap:=h',toks:=tk }:=I.kept (t':=tk) fun b o e=>kk b o (by simpa using B5 (A6 e)) (A4 _ e);refine⟨.bl _,H,I1,rfl,k _ H (Ext.refl _ _) hr ?_⟩;rw[A3,<-rv.length,<-rl.length,oZ (q:=mv) (fun i d hd=>by simp[hd])];simp[Rep]
  ·rw[if_neg hb]at e;cases e
 |_=>cases e
theorem xZ(hc:X.calm=true):bJ X (.builtin "any") (mT tW):=by
 intro aa s σ H M xs us ds dz Q I hr rv rp e k;obtain⟨d,rfl,e0⟩:=cJ e;clear e;have e:=e0;clear e0;obtain⟨v,rfl,r⟩:=kH rp;obtain⟨u,rfl,ru⟩:=ao.one rv;cases d with
 |lst ds =>
  simp only[tW]at e
  by_cases hb:ds.all m7=true
  ·rw[if_pos hb]at e;cases e;obtain⟨l,vs,rfl,sq,rl⟩:=r;cases ru;obtain⟨its,rv,pl,hz⟩:=I.list (SqL.of sq);have hne:l≠s.heap.objs.size:=B5 (I.hok.lt sq);refine call_any_walk (N3 pl.isList ⟨s.heap.objs.size,[s.heap.objs.size,l],[s.heap.objs.size],its.toArray.size,_,_,fun i=>(ds[i]?.map mv).getD false,rfl,Walks.list (A:=X.A.in1) (show X.A.in1.handled=none from I.ok.hd hc) s.heap.objs.size l hne its.toArray,⟨⟨_,B6 _ rfl,rfl,rfl⟩,?_⟩,fun i v s' Q' E' hv q=>?_,fun h' tk kk=>?_⟩)
   ·obtain⟨o,e,c⟩:=pl.isList;exact⟨o,A4 _ e,c⟩
   ·obtain⟨d,hd,rfl⟩:=k6 rl rv hb (i:=i) (u:=v) (by simpa using hv);dsimp only at q;rw[hd]at q;exact K4 q
   ·have I1:Inv X aa σ H { s with heap:=h',toks:=tk }:=I.kept (t':=tk) fun b o e=>kk b o (by simpa using B5 (A6 e)) (A4 _ e);refine⟨.bl _,H,I1,rfl,k _ H (Ext.refl _ _) hr ?_⟩;rw[A3,<-rv.length,<-rl.length,o4 (q:=mv) (fun i d hd=>by simp[hd])];simp[Rep]
  ·rw[if_neg hb]at e;cases e
 |_=>cases e
end
section
variable{X:Cx}{a b c e:B4}{es:List B4}{te ta tb:TEd}{t:TAd}{pos:Pos}
noncomputable def t7(T:String):D->Option Bool
 |.non=>some false
 |.bl _=>some (T=="bool" || T=="int")
 |.int _=>some (T=="int")
 |.str _=>some (T=="str")
 |.tup _=>some (T=="tuple")
 |.lst _=>some (T=="list")
 |.emp=>some (T=="dict")
 |_=>none
def okT(T:String):Bool:=T=="bool" || T=="int" || T=="str" || T=="tuple" || T=="list"
def ym(T:String) (te:TEd):TEd:=fun Δ M Q=>te Δ M fun d M1=>∃k,t7 T (rdM M1 d)=some k/\Q (.bl k) M1
theorem oS{T:String}(hT:okT T=true) {aa:List (A8×Obj)}{s:v0}{σ:St}{H:Hp}{M:DH}{v:V}{u:u8}{d:D}{k:Bool}{Q:VK}(I:Inv X aa σ H s) (r:ar v u) (rd:aA X.K M H d v) (e:t7 T d=some k) (q:Q (.bl k) H) :
  B7 (B8 X.prog X.w) X.A (call (.builtin "isinstance") [u,.type T]) (EP X aa σ Q) X.xe s:=by
 have fin:∀{k'} ,k=k'->EP X aa σ Q (.bool k') s:=fun e=>by subst e;exact⟨.bl k,H,I,rfl,q⟩
 have fint:∀{k'} ,k=k'->EP X aa σ Q (.bool k') { s with toks:=s.toks+1 }:=fun e=>by subst e;exact⟨.bl k,H,I.tok _,rfl,q⟩
 have h5:T="bool"∨T="int"∨T="str"∨T="tuple"∨T="list":=by
  simp[okT]at hT;rcases hT with(((h|h)|h)|h)|h<;>simp[h]
 cases d with
 |non =>
  simp only[aA,Rep]at rd;subst rd;simp only[ar]at r;subst r;cases e;rcases h5 with rfl|rfl|rfl|rfl|rfl
  ·exact IsiPair.NoneType_bool (fint rfl)
  ·exact IsiPair.NoneType_int (fint rfl)
  ·exact IsiPair.NoneType_str (fint rfl)
  ·exact IsiPair.NoneType_tuple (fint rfl)
  ·exact IsiPair.NoneType_list (fint rfl)
 |bl b =>
  simp only[aA,Rep]at rd;subst rd;simp only[ar]at r;subst r;cases e;rcases h5 with rfl|rfl|rfl|rfl|rfl
  ·exact IsiPair.bool_bool (fin rfl)
  ·exact IsiPair.bool_int (fin rfl)
  ·exact IsiPair.bool_str (fint rfl)
  ·exact IsiPair.bool_tuple (fint rfl)
  ·exact IsiPair.bool_list (fint rfl)
 |int i =>
  simp only[aA,Rep]at rd;subst rd;obtain⟨t,rfl⟩:=r;cases e;rcases h5 with rfl|rfl|rfl|rfl|rfl
  ·exact IsiPair.int_bool (fint rfl)
  ·exact IsiPair.int_int (fin rfl)
  ·exact IsiPair.int_str (fint rfl)
  ·exact IsiPair.int_tuple (fint rfl)
  ·exact IsiPair.int_list (fint rfl)
 |str x =>
  simp only[aA,Rep]at rd;subst rd;obtain⟨t,rfl⟩:=r;cases e;rcases h5 with rfl|rfl|rfl|rfl|rfl
  ·exact IsiPair.str_bool (fint rfl)
  ·exact IsiPair.str_int (fint rfl)
  ·exact IsiPair.str_str (fin rfl)
  ·exact IsiPair.str_tuple (fint rfl)
  ·exact IsiPair.str_list (fint rfl)
 |tup ds =>
  obtain⟨a,vs,rfl,sq,rl⟩:=rd;cases r;cases e;obtain⟨its,rv,⟨o,ho,hc,_⟩,_⟩:=I.tuple sq;rcases h5 with rfl|rfl|rfl|rfl|rfl
  ·exact IsiPair.tuple_bool ho hc (fint rfl)
  ·exact IsiPair.tuple_int ho hc (fint rfl)
  ·exact IsiPair.tuple_str ho hc (fint rfl)
  ·exact IsiPair.tuple_tuple ho hc (fin rfl)
  ·exact IsiPair.tuple_list ho hc (fint rfl)
 |lst ds =>
  obtain⟨a,vs,rfl,sq,rl⟩:=rd;cases r;cases e;obtain⟨its,rv,⟨o,n,ho,hc,_⟩,_⟩:=I.list (SqL.of sq);rcases h5 with rfl|rfl|rfl|rfl|rfl
  ·exact IsiPair.list_bool ho hc (fint rfl)
  ·exact IsiPair.list_int ho hc (fint rfl)
  ·exact IsiPair.list_str ho hc (fint rfl)
  ·exact IsiPair.list_tuple ho hc (fint rfl)
  ·exact IsiPair.list_list ho hc (fin rfl)
 |emp =>
  simp only[aA,Rep]at rd;obtain⟨a,rfl,h1,_⟩:=rd;cases r;cases e;obtain⟨_,_,_,_,o,es,ep,ho,ex,_⟩:=I.hok a _ h1;rcases h5 with rfl|rfl|rfl|rfl|rfl
  ·exact IsiPair.dict_bool ho ex.1 (fint rfl)
  ·exact IsiPair.dict_int ho ex.1 (fint rfl)
  ·exact IsiPair.dict_str ho ex.1 (fint rfl)
  ·exact IsiPair.dict_tuple ho ex.1 (fint rfl)
  ·exact IsiPair.dict_list ho ex.1 (fint rfl)
 |_=>cases e
abbrev TOd:=DE->DH->(Option Int->DH->Prop)->Prop
def upO(K:o0) (t:TOd):TO:=fun σ H Q=>∃(Δ:DE) (M:DH) (R:Option Int->DH->Prop),SR K M H σ Δ/\HR K M H/\t Δ M R/\∀i M' H',R i M'->Ext M H M' H'->HR K M' H'->Q i H'
theorem upO.el{K:o0}{t:TOd}{σ:St}{H:Hp}{Q:Option Int->Hp->Prop}{P:Prop}(h:upO K t σ H Q) (f:∀(Δ:DE) (M:DH) (R:Option Int->DH->Prop),SR K M H σ Δ->HR K M H->t Δ M R->(∀i M' H',R i M'->Ext M H M' H'->HR K M' H'->Q i H')->P):P:=by
 obtain⟨x1,x2,x3,a,b,c,d⟩:=h;exact f x1 x2 x3 a b c d
def POd(X:Cx) (e:Option B4) (t:TOd):Prop:=PO X e (upO X.K t)
def j0:TOd:=fun _ M Q=>Q none M
def rJ(t:TEd):TOd:=fun Δ M Q=>t Δ M fun d M1=>∃i,d=.int i/\Q (some i) M1
theorem PO.conv{e:Option B4}{t t':TO}(h:PO X e t) (k:∀ σ H Q,t' σ H Q->t σ H Q):PO X e t':=fun p s σ H Q I q=>h p s σ H Q I (k σ H Q q)
theorem tD:POd X none j0:=uA.conv fun σ H Q hup=>hup.el fun Δ M R sr hr q k=>k none M H q (Ext.refl _ _) hr
theorem ug(h:PEd X e te):POd X (some e) (rJ te):=(sC h).conv fun σ H Q hup=>hup.el fun Δ M R sr hr q k=>⟨Δ,M,_,sr,hr,q,fun d M1 v H1 ⟨i,ed,q1⟩ e1 hr1 rv=>⟨i,by subst ed;simpa only[Rep]using rv,k _ M1 H1 q1 e1 hr1⟩⟩
def cD(xs:List D) (lo hi:Option Int):List D:=(xs.drop (HT.sIx xs.length 0 lo)).take (HT.sIx xs.length xs.length hi-HT.sIx xs.length 0 lo)
def slD:D->Option Int->Option Int->Option D
 |.lst ds,lo,hi=>some (.lst (cD ds lo hi))
 |.scr ds,lo,hi=>some (.lst (cD ds lo hi))
 |.str x,lo,hi=>if x.length<=A0 then some (.str (Q5 x lo hi))else none
 |.tup ds,lo,hi=>if HT.sIx ds.length 0 lo=0/\HT.sIx ds.length ds.length hi=ds.length then none else some (.tup (cD ds lo hi))
 |_,_,_=>none
def AO:V->Option Int->Option Int->Hp->VK->Prop:=fun x lo hi H Q=>∃z,x=.str z/\z.length<=A0/\Q (.str (Q5 z lo hi)) H
theorem xm:SlR X AO:=by
 intro aa s σ H x v vl vu lo hi sl Q I rx hs pl pu h;obtain⟨z,rfl,hz,q⟩:=h;obtain⟨t,rfl⟩:=rx;refine⟨"str",_,PySem.F.slot_str_getitem.lookup,typeIs_str _ _ _,?_⟩;have fin:∀(t':Tok) (k:Nat),EP X aa σ Q (.str (Q5 z lo hi) t') { s with toks:=k }:=fun t' k=>⟨.str (Q5 z lo hi),H,I.tok _,⟨t',rfl⟩,q⟩;cases pl with
 |none =>
  cases pu with
  |none=>exact K0 (l:=none) (u:=none) (st:=none) hs rfl (O5 ⟨D2 (Q6 z _ _) hz,fin⟩)
  |int j tj=>exact K0 (l:=none) (u:=some (j,tj)) (st:=none) hs rfl (O5 ⟨D2 (Q6 z _ _) hz,fin⟩)
 |int i ti =>
  cases pu with
  |none=>exact K0 (l:=some (i,ti)) (u:=none) (st:=none) hs rfl (O5 ⟨D2 (Q6 z _ _) hz,fin⟩)
  |int j tj=>exact K0 (l:=some (i,ti)) (u:=some (j,tj)) (st:=none) hs rfl (O5 ⟨D2 (Q6 z _ _) hz,fin⟩)
end
def bL(names:List (Str×D1)) (cells:List (Str×A8)):List (Str×A8):=(names.filterMap fun y=>if y.2==.free then(cells.lookup y.1).map fun c=>(y.1,c)else none).reverse
noncomputable def cQ(env:Env) (y:Str×D1) (cs:List (Str×A8)):Sem (ForInStep (List (Str×A8))):=if(y.2==.free)=true then(do let c <-cellOf env y.1;O9 (E3 ((y.1,c)::cs)))else O9 (E3 cs)
theorem fK{env:Env}:∀(names:List (Str×D1)) (acc:List (Str×A8)),(∀y∈names,y.2=.free->(env.cells.lookup y.1).isSome=true) ->
  (forIn names acc (cQ env):Sem (List (Str×A8)))=O9 (bL names env.cells++acc)
 |[],acc,_=>by simp[bL]
 |y::r,acc,h=>by
  rw[List.forIn_cons]
  by_cases hk:(y.2==E9)=true
  ·have hs:=h y E1 (by simpa using hk);obtain⟨c,hc⟩:=F9.mp hs;have e1:cQ env y acc=O9 (E3 ((y.1,c)::acc)):=by
    unfold cQ cellOf;rw[if_pos hk,hc];simp only[T8]
   rw[e1];simp only[T8];rw[fK r ((y.1,c)::acc) fun y hy=>h y (C4 _ hy)];have e2:bL (y::r) env.cells=bL r env.cells++[(y.1,c)]:=by
    unfold bL;rw[J7,if_pos hk,hc];simp
   rw[e2];simp
  ·have e1:cQ env y acc=O9 (E3 acc):=by
    unfold cQ;rw[if_neg hk]
   rw[e1];simp only[T8];rw[fK r acc fun y hy=>h y (C4 _ hy)];have e2:bL (y::r) env.cells=bL r env.cells:=by
    unfold bL;rw[J7,if_neg hk]
   rw[e2]
theorem uo{scope:M9}{env:Env}(h:∀y∈scope.names,y.2=.free->(env.cells.lookup y.1).isSome=true):closureFor scope env=O9 (bL scope.names env.cells):=by
 have:=fK (env:=env) scope.names [] h;simp only[O3]at this;show(forIn scope.names [] (cQ env) >>= fun cs=>O9 cs)=_;rw[this];simp only[T8]
theorem qC{cells:List (Str×A8)}{names:List (Str×D1)}{x:Str}{c:A8}(h:(bL names cells).lookup x=some c):cells.lookup x=some c:=by
 have hm:=D3 h;unfold bL at hm;rw[List.mem_reverse,L6]at hm;obtain⟨y,_,e⟩:=hm
 split at e
 ·cases q:cells.lookup y.1 with
  |none=>rw[q]at e;cases e
  |some c'=>rw[q]at e;cases e;exact q
 ·cases e
theorem cw:∀{l:List (Str×A8)}{x:Str}{c:A8},(x,c)∈l->∃c',l.lookup x=some c'
 |(y,d)::l,x,c,h=>by
  rw[D4];cases q:x==y with
  |true=>exact⟨d,by simp⟩
  |false =>
   rcases K3.mp h with e|h
   ·cases e;simp at q
   ·simpa using cw h
theorem pI{cells:List (Str×A8)}{names:List (Str×D1)}{x:Str}(h:names.lookup x=some .free) (hs:(cells.lookup x).isSome=true):∃c,(bL names cells).lookup x=some c:=by
 obtain⟨c,hc⟩:=F9.mp hs;refine cw (c:=c) ?_;unfold bL;rw[List.mem_reverse,L6];exact⟨(x,.free),D3 h,by simp[hc]⟩
noncomputable def aM(fs:M9) (N:List Str) (scope:M9) (ms:List Bool):Bool :=
 scope.kind==.function&&scope.names.all (fun y=>y.2 != .cell)&&scope.names.all (fun y=>y.2 != .local || scope.names.lookup y.1==some .local) &&
 scope.names.all (fun y=>y.2 != .free || fs.names.lookup y.1==some .cell)&&(ms.zip N).all (fun y=>!y.1 || scope.names.lookup y.2==some .free)&&decide (ms.length<=N.length)
theorem aF{X:Cx}{scope:M9}{ms:List Bool}{ai:List Str}{n0:Nat}(hX:X.env.cells=T7 n0 X.env.scope.names []) (c:aM X.env.scope X.N scope ms=true):c8 X scope (bL scope.names X.env.cells) ms ai:=by
 unfold aM at c;simp only[C0,N9,decide_eq_true_eq]at c;obtain⟨⟨⟨⟨⟨c1,c2⟩,c3⟩,c4⟩,c5⟩,c6⟩:=c;have fr:∀x,(x,E9)∈scope.names->X.env.scope.names.lookup x=some .cell:=fun x hx=>by
  have:=c4 _ hx;simpa using this
 have cs:∀x,(x,E9)∈scope.names->(X.env.cells.lookup x).isSome=true:=fun x hx=>by
  rw[hX];exact PySem.W.cellsFrom_some _ _ _ (.inl (fr x hx))
 refine⟨by simpa using c1,fun y hy e=>?_,fun y hy e=>?_,uo fun y hy e=>?_,fun x c h=>qC h,fun x h=>pI h (cs x (D3 h)),fun x h=>.inl (fr x (D3 h)),fun i x h1 h2=>?_,c6⟩
 ·have:=c2 y hy;rw[e]at this;simp at this
 ·have:=c3 y hy;simpa[e]using this
 ·obtain⟨a,b⟩:=y;cases e;exact cs a hy
 ·have:=c5 (true,x) (by
   rw[List.mem_iff_getElem?];exact⟨i,by rw[List.getElem?_zip_eq_some];exact⟨h1,h2⟩⟩)
  simpa using this
structure FnD(P:B9) (w:E6) (K:o0) (mg:Str->Option u8) (base:C5) (x:Str) (k n:Nat) (S:SpD):Prop where
 ex:∃(f:A8) (fd:F6) (ps:List Str),bw P w K mg base CX0 k f fd ps (spD K n S)/\mg x=some (.ref f)/\K6 K (.ref f)=true/\cS K fd ps []
section
variable{X:Cx}{e:B4}{es:List B4}{t:TAd}{pos p:Pos}{x:Str}{k n:Nat}{S:SpD}
theorem dc(F:FnD X.prog X.w X.K X.mg X.base x k n S) (hr:bY k X.A) (hg:Gl X x) (ha:PAd X (e::es) t) (hdb:(x==("__debug__":Str))=false:=by decide) (he:B1 (e::es) X.env=(false,N6 e X.env)::B1 es X.env:=by rfl) (hpl:(L3 pos (B1 es X.env)).any (·.1)=false:=by rfl) :
  PEd X (.Call (.Name x p) (e::es) [] pos) (lJ n S t):=by
 obtain⟨f,fd,ps,h1,h2,h3,h4⟩:=F.ex;exact vU h1 hr hg h2 h3 h4 ha hdb he hpl
end
section
variable{X:Cx}{a b c e:B4}{es:List B4}{te ta tb:TEd}{t:TAd}{pos:Pos}{tg iter:B4}
def ve(te:TEd):TSd:=fun E Δ M=>te Δ M fun d M1=>∃a ds,d=.ref a/\M1 a=some (.lst ds)/\E.rt (.lst ds) (o8 M1 a)
theorem xF:bv X (T4 .Add) (iOp fun i j=>some (.int (i+j))):=by
 intro aa s σ H M x y v u dx dy dz Q I hr rx ry r1 r2 e k;obtain⟨i,j,rfl,rfl,e'⟩:=hV e;cases e';exact vP aa s σ H x y v u Q I rx ry ⟨i,j,dU r1,dU r2,k _ H (Ext.refl _ _) hr (by simp[Rep])⟩
theorem AH:zG X (unaryOp .USub) (fun d=>match d with|.int i=>some (.int (-i))|_=>none):=by
 intro aa s σ H M x v dx dz Q I hr rx r1 e k;cases dx with
 |int i=>cases e;exact vK aa s σ H x v Q I rx ⟨i,dU r1,k _ H (Ext.refl _ _) hr (by simp[Rep])⟩
 |_=>cases e
def eE:D->Option (List D)
 |.tup ds=>some ds
 |.lst ds=>some ds
 |.scr ds=>some ds
 |.str x=>if x.length<=A0 then some (ef x)else none
 |_=>none
def vb(te:TEd):TId:=fun Δ M R=>te Δ M fun d M1=>∃ds,eE d=some ds/\(ds.length<=A0->R ds M1)
theorem mN{aa:List (A8×Obj)}{σ:St}{H:Hp}{s:v0}{o:Obj}(I:Inv X aa σ H s):∀b∈[s.heap.objs.size],dY X aa H b:=fun b hb=>by
 have e:b=s.heap.objs.size:=by simpa using hb
 subst e;exact I.fpOk (B0 _) (I.hok.fresh (B0 _))
theorem we{K:o0}{x:Str}{M1:DH}{H1:Hp}:ItD K (ItW x.cps.size fun i v=>∃c,x.cps[i]?=some c/\v=.str ⟨#[c]⟩) (ef x) M1 H1:=fun M2 H2 e2 hr2 i=>⟨fun d hd=>by
  unfold ef at hd;rw[H0]at hd;cases q:x.cps.toList[i]? with
  |none=>rw[q]at hd;cases hd
  |some c =>
   rw[q]at hd;cases hd;have hc:x.cps[i]?=some c:=by simpa using q
   refine⟨?_,fun y H' ⟨eH,c',hc',ey⟩=>?_⟩
   ·exact(Array.getElem?_eq_some_iff.mp hc).1
   ·subst eH;subst ey;rw[hc]at hc';cases hc';exact⟨Ext.refl _ _,hr2,by simp[Rep]⟩,fun hl=>by
  show x.cps.size<=i;simpa[ef]using hl⟩
end
section
variable{M:DH}
theorem sS{i:Int}:rdM M (.int i)=.int i:=rfl
theorem wz{i:Bool}:rdM M (.bl i)=.bl i:=rfl
theorem sv{i:Str}:rdM M (.str i)=.str i:=rfl
theorem sE:rdM M .non=.non:=rfl
theorem sT{i:List D}:rdM M (.tup i)=.tup i:=rfl
theorem sZ{i:List D}:rdM M (.lst i)=.lst i:=rfl
theorem tQ{i:List D}:rdM M (.scr i)=.scr i:=rfl
theorem uM{a:A8}{ds:List D}(h:M a=some (.lst ds)):rdM M (.ref a)=.lst ds:=by simp[rdM,h]
theorem jP{a:A8}{ds:List D}:rdM (aD M a (.lst ds)) (.ref a)=.lst ds:=uM bp
theorem xo{f:Int->Int->Option D}{a b:Int}:iOp f (.int a) (.int b)=f a b:=rfl
theorem uC{a b:Int}:jR (.int a) (.int b)=some (.int (a+b)):=rfl
theorem tU{a b:Str}:jR (.str a) (.str b)=if a.length+b.length<=A0 then some (.str (a++b))else none:=rfl
theorem uJ{a b:List D}:jR (.lst a) (.lst b)=if a.length+b.length<=A0 then some (.lst (a++b))else none:=rfl
theorem tX{a b:List D}:jR (.tup a) (.tup b)=if a.length+b.length<=A0 then some (.tup (a++b))else none:=rfl
theorem zN{a:List D}{b:Int}:ixD (.lst a) (.int b)=atI a b:=rfl
theorem xR{a:List D}{b:Int}:ixD (.scr a) (.int b)=atI a b:=rfl
theorem zz{a:List D}{b:Int}:ixD (.tup a) (.int b)=atI a b:=rfl
theorem xP{α:Type}{x:α}{xs:List α}:atI (x::xs) 0=some x:=aP (j:=0) rfl
theorem yE{α:Type}{x y:α}{xs:List α}:atI (x::y::xs) 1=some y:=aP (j:=1) rfl
theorem zT{α:Type}{x y z:α}{xs:List α}:atI (x::y::z::xs) 2=some z:=aP (j:=2) rfl
theorem rn{f:D->Option D}{d:D}:mT f [d]=f d:=rfl
theorem xn{a:List D}:oW (.lst a)=some (.int a.length):=rfl
theorem xu{a:List D}:oW (.tup a)=some (.int a.length):=rfl
theorem vM{a:List D}:oW (.scr a)=some (.int a.length):=rfl
theorem xI{x:Str}:oW (.str x)=if x.length<=A0 then some (.int x.length)else none:=rfl
theorem wN{i:Int}:Ag (.int i)=some (.int (if i<0 then -i else i)):=rfl
theorem xk{a:List D}:vF (.lst a)=some (.tup a):=rfl
theorem v4{a:List D}:vF (.tup a)=some (.tup a):=rfl
theorem zI{b:Bool}{x:D}{ds:List D}:inD b x (.lst ds)=if aI x=true/\ds.all aI=true then some (.bl (xor b (ds.any fun d=>eqD d x)))else none:=rfl
theorem zp{b:Bool}{x:D}{ds:List D}:inD b x (.tup ds)=if aI x=true/\ds.all aI=true then some (.bl (xor b (ds.any fun d=>eqD d x)))else none:=rfl
theorem xg{a b:Int}:eqF (.int a) (.int b)=some (.bl (a==b)):=by simp[eqF,dLe,eqD]
theorem xv{a b:Str}:eqF (.str a) (.str b)=some (.bl (a==b)):=by simp[eqF,dLe,eqD]
theorem vH{a b:Bool}:eqF (.bl a) (.bl b)=some (.bl (a==b)):=by simp[eqF,dLe,eqD]
theorem zE{ds:List D}{lo hi:Option Int}:slD (.scr ds) lo hi=some (.lst (cD ds lo hi)):=rfl
theorem yx{ds:List D}{lo hi:Option Int}:slD (.lst ds) lo hi=some (.lst (cD ds lo hi)):=rfl
theorem yi{x:Str}{lo hi:Option Int}:slD (.str x) lo hi=if x.length<=A0 then some (.str (Q5 x lo hi))else none:=rfl
theorem qv{a:List D}:eE (.lst a)=some a:=rfl
theorem rT{a:List D}:eE (.tup a)=some a:=rfl
theorem pX{a:List D}:eE (.scr a)=some a:=rfl
theorem pL{x:Str}:eE (.str x)=if x.length<=A0 then some (ef x)else none:=rfl
theorem zA{n:Nat}:ixN (n+1) 0=some 0:=by simp[ixN]<;>omega
theorem yl{n:Nat}:ixN (n+2) 1=some 1:=by simp[ixN]<;>omega
theorem yV{n:Nat}:ixN (n+3) 2=some 2:=by simp[ixN]<;>omega
theorem sz3(n:Nat) (h:n<=1000:=by decide):n<=A0:=D2 h (by decide)
theorem wu{b:Bool}:t7 "bool" (.bl b)=some true:=rfl
end
end L2
namespace L2
theorem zH{i j:Int}(h:-18446744073709551616<j/\j<18446744073709551616):fS i j=True:=by unfold fS;simp;right;omega
theorem ya{i j:Int}(h:-18446744073709551616<i/\i<18446744073709551616):fS i j=True:=by unfold fS;simp;left;omega
theorem rV:iO 10 18=True:=by simp[iO]
theorem zQ{i j:Int}(h:0<j/\j<1073741824):kP i j=True:=by unfold kP;simp[h]
end L2
namespace L2
open PySem PySem.Spec PyProof.Rows
theorem sP{a b:Str}:eqD (.str a) (.str b)=(a==b):=by simp[eqD]
theorem dM{x:Str}:∀{ws:List Str},(ws.map D.str).any (fun d=>eqD d (.str x))=decide (x∈ws)
 |[]=>by simp
 |w::ws=>by
  rw[D6,E8,dM (ws:=ws),sP]
  by_cases h:w=x
  ·subst h;simp
  ·have h2:(w==x)=false:=by simpa using h
   have h3:¬ x=w:=fun e=>h e.symm;simp[h2,h3]
theorem eP{ws:List Str}:(ws.map D.str).all aI=true:=by
 induction ws with
 |nil=>rfl
 |cons w ws ih=>rw[D6,L9,ih];rfl
section
variable{X:Cx}{e:B4}{te:TEd}{pos:Pos}
def vk(te:TEd):TSd:=fun E Δ M=>te Δ M fun d M1=>∃M2,LeM M2 M1/\E.rt d M2
theorem tT{M:DH}{q:A8}{o:HD}(h:M q=none):LeM M (aD M q o):=fun a u e=>by
 by_cases ha:a=q
 ·subst ha;rw[h]at e;cases e
 ·rw[da ha];exact e
end
end L2
namespace L2
open PySem PySem.Spec PyProof.Rows PySem.Builtin.Str
def tx(cs:List Nat):Str:=⟨cs.toArray⟩
theorem ni(cs:List Nat):(tx cs).cps.toList=cs:=by simp[tx]
theorem rP(cs:List Nat):(tx cs).length=cs.length:=by show(tx cs).cps.size=_;simp[tx]
theorem bT{α:Type} [DecidableEq α]:∀(V K:List α),V.Nodup->(∀x∈V,x∈K)->V.length<=K.length
 |[],_,_,_=>N2 _
 |x::V,K,hn,h=>by
  have hx:=h x E1;obtain⟨h1,h2⟩:=L7.mp hn;have:=bT V (K.erase x) h2 fun y hy=>(List.mem_erase_of_ne (by rintro rfl;exact h1 hy)).mpr (h y (C4 _ hy));rw[List.length_erase_of_mem hx]at this;have hp:0<K.length:=List.length_pos_of_mem hx;simp only[N7];omega
abbrev abc:Str:=Str.ofString "abcdefghijklmnopqrstuvwxyz"
def gz:List Nat:=List.range' 97 26
theorem pN:abc=tx gz:=by decide +kernel
theorem oA:ef abc=gz.map fun c=>D.str (tx [c]):=by
 unfold ef;rw[pN,ni];rfl
end L2
namespace L2
open PySem PySem.Spec PyProof.Rows
theorem i4{g:GD}{tb:TSd}{E:dv}{all:List D}(I:Nat->DE->DH->Prop)
  (step:∀(i:Nat) (d:D) (Δ:DE) (M:DH) (X:DE->DH->Prop),all[i]?=some d->I i Δ M->(∀ Δ' M',I (i+1) Δ' M'->X Δ' M')->∃ Δ',g d Δ=some Δ'/\tb { E with nx:=X,ct:=X,bk:=E.nx } Δ' M)
  (fin:∀ Δ M,I all.length Δ M->E.nx Δ M):∀(ds:List D) (i:Nat) (Δ:DE) (M:DH),all.drop i=ds->i<=all.length->I i Δ M->bu g tb E ds Δ M
 |[],i,Δ,M,e,hi,h=>by
  have:i=all.length:=by
   have:=congrArg P5 e;simp at this;omega
  subst this;simpa only[bu]using fin Δ M h
 |d::ds,i,Δ,M,e,hi,h=>by
  have hlt:i<all.length:=by
   have:=congrArg P5 e;simp at this;omega
  have hd:all[i]?=some d:=by
   have:=congrArg List.head? e;simpa using this
  have hn:all.drop (i+1)=ds:=by
   rw[<-List.tail_drop,e];rfl
  simp only[bu];exact step i d Δ M _ hd h fun Δ' M' h'=>i4 I step fin ds (i+1) Δ' M' hn hlt h'
theorem bD{g:GD}{tb:TSd}{E:dv}{ds:List D}{Δ:DE}{M:DH}(I:Nat->DE->DH->Prop) (h0:I 0 Δ M)
  (step:∀(i:Nat) (d:D) (Δ:DE) (M:DH) (X:DE->DH->Prop),ds[i]?=some d->I i Δ M->(∀ Δ' M',I (i+1) Δ' M'->X Δ' M')->∃ Δ',g d Δ=some Δ'/\tb { E with nx:=X,ct:=X,bk:=E.nx } Δ' M)
  (fin:∀ Δ M,I ds.length Δ M->E.nx Δ M):bu g tb E ds Δ M:=i4 I step fin ds 0 Δ M rfl (N2 _) h0
theorem l8{g:GD}{tc:TTd}{te:TEd}{all:List D}{Q:List D->DH->Prop}(I:Nat->List D->DE->DH->Prop)
  (step:∀ (i:Nat) (d:D) (acc:List D) (Δ:DE) (M:DH) (X:List D → DE → DH → Prop),all[i]? = some d → I i acc Δ M → (∀ acc' Δ' M',I (i + 1) acc' Δ' M' → X acc' Δ' M') →
   ∃ Δ',g d Δ=some Δ'/\tc Δ' M fun b M1=>if b=true then te Δ' M1 fun y M2=>X (acc++[y]) Δ' M2 else X acc Δ' M1)
  (fin:∀acc Δ M,I all.length acc Δ M->Q acc M):∀(ds:List D) (i:Nat) (acc:List D) (Δ:DE) (M:DH),all.drop i=ds->i<=all.length->I i acc Δ M->cH g tc te ds Δ M acc Q
 |[],i,acc,Δ,M,e,hi,h=>by
  have:i=all.length:=by
   have:=congrArg P5 e;simp at this;omega
  subst this;simpa only[cH]using fin acc Δ M h
 |d::ds,i,acc,Δ,M,e,hi,h=>by
  have hlt:i<all.length:=by
   have:=congrArg P5 e;simp at this;omega
  have hd:all[i]?=some d:=by
   have:=congrArg List.head? e;simpa using this
  have hn:all.drop (i+1)=ds:=by
   rw[<-List.tail_drop,e];rfl
  simp only[cH];exact step i d acc Δ M (fun acc' Δ' M'=>cH g tc te ds Δ' M' acc' Q) hd h fun acc' Δ' M' h'=>l8 I step fin ds (i+1) acc' Δ' M' hn hlt h'
theorem ff{g:GD}{tc:TTd}{te:TEd}{ds:List D}{Δ:DE}{M:DH}{Q:List D->DH->Prop}(I:Nat->List D->DE->DH->Prop) (h0:I 0 [] Δ M)
  (step:∀ (i:Nat) (d:D) (acc:List D) (Δ:DE) (M:DH) (X:List D → DE → DH → Prop),ds[i]? = some d → I i acc Δ M → (∀ acc' Δ' M',I (i + 1) acc' Δ' M' → X acc' Δ' M') →
   ∃ Δ',g d Δ=some Δ'/\tc Δ' M fun b M1=>if b=true then te Δ' M1 fun y M2=>X (acc++[y]) Δ' M2 else X acc Δ' M1)
  (fin:∀acc Δ M,I ds.length acc Δ M->Q acc M):cH g tc te ds Δ M [] Q:=l8 I step fin ds 0 [] Δ M rfl (N2 _) h0
theorem szB(n:Nat) (h:n<=16000000:=by decide):n<=A0:=D2 h (by decide)
theorem fb{α:Type}{f:α->D}{xs:List α}{i:Nat}{d:D}(h:(xs.map f)[i]?=some d):∃x,xs[i]?=some x/\d=f x:=by
 rw[H0]at h;cases e:xs[i]? with
 |none=>rw[e]at h;cases h
 |some x=>rw[e]at h;cases h;exact⟨x,rfl,rfl⟩
theorem lA{K:o0}{M:DH}{H:Hp}:∀ns:List Int,ag K M H (ns.map D.int) (ns.map V.int)
 |[]=>ag.nil
 |n::ns=>ag.cons (by simp[Rep]) (lA ns)
theorem o9{K:o0}{H:Hp}{a:A8}{ns:List Int}(hO:uH H) (hS:SqL K H a (ns.map V.int)):ag K noM H [.scr (ns.map D.int)] [.ref a]:=by
 refine ag.cons ?_ ag.nil;simp only[Rep];refine⟨a,ns.map V.int,rfl,?_,lA ns⟩;rcases hS with h|h
 ·left;rcases h with h|h
  ·rcases hO a with z|⟨o,xs,z⟩<;>(rw[h]at z;cases z)
  ·exact⟨h,rfl⟩
 ·right;exact .inr h
def zj(S:SpD):Prop:=∀(ns:List Int) (R:D->DH->Prop),ns.length<=63->(∀M',R (.bl true) M')->S [.scr (ns.map .int)] noM R
theorem xQ{S:SpD}(hS:zj S) {k:Nat}{x:Str}{l:PySem.W.OpenLaw}{q:B9}{loose:List Str}{XP:(Str->Option u8)->C5->Prop}{YP:E6->C5->Prop}{d:DefRec}{K:Params->o0}(hr:bY k R4) (hn:l.most=some 63) (hdf:d.params.defaults=[])
  (hY:∀(w:E6) (h:C5),YP w h->(K w.params).In h)
  (F:∀ (w:E6) (mg:Str → Option u8) (fa:A8) (h:C5),(K w.params).In h → h.Ns J6 mg → mg d.name = some (.ref fa) →
   ∃fd:F6,(∀(s:v0) (u:u8),T6 s fd ⟨[u],[]⟩ [(x,u)])/\∀base:C5,(K w.params).In base->base.Ns J6 mg->bw l.prog w (K w.params) mg base CX0 k fa fd [x] (spD (K w.params) 1 S)) :
  PySem.W.WalkO q loose XP YP l.row.toRowW d [] (fun f vs=>PySem.call f vs) :=
 L2.nB (n:=63) (k:=k) (x:=x) (CX:=fun _=>CX0) (sp:=fun w=>spD (K w.params) 1 S) hn (by decide) hdf hr hY F
  (fun w H a ns hl hO hq=>⟨[.scr (ns.map .int)],noM,fun d _=>d=.bl true,rfl,o9 hO hq,HR.nil,hS ns _ hl (fun _=>rfl),fun d M' v H' e _ _ rv=>by subst e;simpa only[Rep]using rv⟩) fun _ _ _ _ _ z=>z
section
variable{prog:B9}{w:E6}{A:D7}{E:u8->v0->Prop}{s:v0}
def mB(h:C5) (a l:A8) (i:Int):Prop:=∃o,h.get? a=some o/\o.cls=.type "reversed"/\o.data=.fields #[.ref l,rawInt i]
theorem mB.at{h h':C5}{a l:A8}{i:Int}(x:mB h a l i) (e:∀o,h.get? a=some o->h'.get? a=some o):mB h' a l i:=let⟨o,ho,r⟩:=x;⟨o,e _ ho,r⟩
end
section
variable{X:Cx}
def neF(x y:D):Option D:=if dLe x 60=true/\dLe y 60=true then some (.bl (!(eqD x y)))else none
theorem wc(hu:X.A.units+64<S8):bv X (E2 .NotEq) neF:=by
 intro aa s σ H M x y v u dx dy dz Q I hr rx ry r1 r2 e k;unfold neF at e
 by_cases hc:dLe dx 60=true/\dLe dy 60=true
 ·rw[if_pos hc]at e;cases e;exact(rA I 60 (A:=X.A) (by omega) hc.1 hc.2 r1 r2 rx ry).2.2 X.prog X.w X.xe _ ⟨.bl (!(eqD dx dy)),H,I,rfl,k _ H (Ext.refl _ _) hr (by simp[Rep])⟩
 ·rw[if_neg hc]at e;cases e
theorem wI{a b:Int}:neF (.int a) (.int b)=some (.bl (!(a==b))):=by simp[neF,dLe,eqD]
theorem xw{a b:Str}:neF (.str a) (.str b)=some (.bl (!(a==b))):=by simp[neF,dLe,eqD]
theorem wL{a b:Bool}:neF (.bl a) (.bl b)=some (.bl (!(a==b))):=by simp[neF,dLe,eqD]
end
end L2
namespace HT
open PySem PyProof.Rows
section
variable{prog:B9}{w:E6}{A:D7}{E:u8->v0->Prop}{s:v0}
theorem iP{t:A8}{items:Array u8}{Q:Bool->v0->Prop}(ht:T9 s.heap t items) (h:Q true s):B7 (B8 prog w) A (C6.Tuple.tupleIsExact (.ref t)) Q E s:=by
 unfold C6.Tuple.tupleIsExact;exact A5 (wpAny_typeOf ht.typeIs (A9 (by simpa using h)))
theorem getItem_tuple_whole{t sl:A8}{items:Array u8}{vl vu:u8}{lo hi:Option Int}{Q:u8->v0->Prop}(ht:T9 s.heap t items) (hs:s.heap.IsSliceOf sl vl vu .none) (pl:R7 vl lo) (pu:R7 vu hi)
  (hw:sIx items.size 0 lo=0/\sIx items.size items.size hi=items.size) (h:Q (.ref t) s):B7 (B8 prog w) A (P6 (.ref t) (.ref sl)) Q E s:=by
 obtain⟨os,hos,hcs,hds⟩:=id hs;have hTs:s.TypeIs (.ref sl) "slice":=⟨os,hos,hcs⟩;unfold P6
 try with_reducible refine wpAny_holding ?_
 first|refine A5 (A9 ?_)|skip
 refine A5 (wpAny_sequenceKey ht.typeIs (by decide) ?_);refine A5 (wpAny_callSpecial?_slot (name:=Str.ofString "__getitem__") ht.typeIs C2
  (wpAny_call_entry C2 ht.typeIs entry_tuple_getitem ?_ (args_tuple_getitem _ _)))
 show B7 _ _ (C6.Tuple.tupleItemsOf (.ref t) >>= _) _ _ s;refine A5 (tupleItemsOf_ ht ?_);refine A5 (wpAny_typeOf hTs ?_);rw[if_pos (by decide)];refine A5 (cM hs pl pu ?_);show B7 _ _ (if(((sIx items.size 0 lo:Nat):Int)==0&&(1:Int)==1&&(sIx items.size items.size hi-sIx items.size 0 lo)==items.size)=true then _ else _) _ _ s;rw[if_pos (by rw[hw.1,hw.2];simp)];refine A5 (iP ht ?_);rw[if_pos rfl];refine A5 (wpAny_rule ?_)
 first
  |exact A9 ⟨_,rfl,A9 h⟩
  |exact A5 (A9 (A9 ⟨_,rfl,A9 h⟩))
end
end HT
namespace L2
open PySem PySem.Spec PyProof.Rows
section
variable{X:Cx}{a b c e:B4}{es:List B4}{te ta tb ts:TEd}{t:TAd}{pos:Pos}
def slE:D->Option Int->Option Int->Option D
 |.tup ds,lo,hi=>some (.tup (cD ds lo hi))
 |d,lo,hi=>slD d lo hi
def AS(K:o0):V->Option Int->Option Int->Hp->VK->Prop:=fun x lo hi H Q=>∃a xs,x=.ref a/\SqT K H a xs/\(HT.sIx xs.length 0 lo=0/\HT.sIx xs.length xs.length hi=xs.length)/\Q (.ref a) H
theorem ri:SlR X (AS X.K):=by
 intro aa s σ H x v vl vu lo hi sl Q I rx hs pl pu h;obtain⟨a,xs,rfl,hx,hw,q⟩:=h;cases rx;obtain⟨its,r,ht,hz⟩:=I.tuple hx;have a7:its.toArray.size=xs.length:=by rw[A3];exact r.length.symm
 exact⟨"tuple",_,C2.lookup,ht.typeIs,HT.getItem_tuple_whole ht hs pl pu (by rw[a7];exact hw) ⟨.ref a,H,I,rfl,q⟩⟩
theorem mH{ds:List D}{lo hi:Option Int}(h:HT.sIx ds.length 0 lo=0/\HT.sIx ds.length ds.length hi=ds.length):cD ds lo hi=ds:=by
 unfold cD;rw[h.1,h.2];simp
def zg(te:TEd) (tl th:TOd):TEd:=fun Δ M Q=>te Δ M fun x M1=>tl Δ M1 fun l M2=>th Δ M2 fun u M3=>∃z,slE (rdM M3 x) l u=some z/\Q z M3
theorem zF{ds:List D}{lo hi:Option Int}:slE (.tup ds) lo hi=some (.tup (cD ds lo hi)):=rfl
theorem zf{ds:List D}{lo hi:Option Int}:slE (.lst ds) lo hi=some (.lst (cD ds lo hi)):=rfl
theorem ye{ds:List D}{lo hi:Option Int}:slE (.scr ds) lo hi=some (.lst (cD ds lo hi)):=rfl
theorem zl{x:Str}{lo hi:Option Int}:slE (.str x) lo hi=if x.length<=A0 then some (.str (Q5 x lo hi))else none:=rfl
variable{scope:M9}{cl:List (Str×A8)}{ai:List Str}{tg:B4}
end
section
variable{X:Cx}{a b c e:B4}{es:List B4}{te ta tb ts:TEd}{t:TAd}{pos:Pos}
def inE(neg:Bool) (x y:D):Option D:=match y with
 |.str j=>match x with
  |.str i=>some (.bl (xor neg (!(J8 j i 0 j.length 1).isEmpty)))
  |_=>none
 |y=>inD neg x y
theorem vo:bv X (E2 .In) (inE false):=by
 intro aa s σ H M x y v u dx dy dz Q I hr rx ry r1 r2 e k;cases dy with
 |str j =>
  cases dx with
  |str i =>
   cases e;exact oF aa s σ H x y v u Q I rx ry ⟨i,j,iW r1,iW r2,k _ H (Ext.refl _ _) hr (by simp[Rep])⟩
  |_=>cases e
 |_=>exact Aq aa s σ H M x y v u dx _ dz Q I hr rx ry r1 r2 e k
theorem gS:bv X (E2 .NotIn) (inE true):=by
 intro aa s σ H M x y v u dx dy dz Q I hr rx ry r1 r2 e k;cases dy with
 |str j =>
  cases dx with
  |str i =>
   cases e;exact jG aa s σ H x y v u Q I rx ry ⟨i,j,iW r1,iW r2,k _ H (Ext.refl _ _) hr (by simp[Rep])⟩
  |_=>cases e
 |_=>exact sG aa s σ H M x y v u dx _ dz Q I hr rx ry r1 r2 e k
theorem yt{b:Bool}{x:D}{ds:List D}:inE b x (.lst ds)=if aI x=true/\ds.all aI=true then some (.bl (xor b (ds.any fun d=>eqD d x)))else none:=rfl
theorem yu{b:Bool}{x:D}{ds:List D}:inE b x (.tup ds)=if aI x=true/\ds.all aI=true then some (.bl (xor b (ds.any fun d=>eqD d x)))else none:=rfl
theorem zY{b:Bool}{c:Nat}{y:Str}:inE b (.str (tx [c])) (.str y)=some (.bl (xor b (decide (c∈y.cps.toList)))):=by
 show some (D.bl (xor b (!(J8 y ⟨#[c]⟩ 0 y.length 1).isEmpty)))=_;rw[StrLaws.found_one]
theorem fT:fillsNumberSlot (.type "tuple") "mul"=O9 false :=
 PySem.fillsNumberSlot_seq (id:="tuple.__mul__") (r:=some (.builtin "tuple.__rmul__")) F.slot_tuple_mul.lookup (by decide +kernel) F.slot_tuple_rmul.lookup (by decide +kernel)
theorem jZ:seqRepeat? (.type "tuple")=O9 (some (.builtin "tuple.__mul__")):=by
 unfold seqRepeat?;rw[PySem.seqSlot_of (T:="tuple") (name:="__mul__") (id:="tuple.__mul__") F.slot_tuple_mul.lookup (by decide +kernel),PySem.seqSlot_of (T:="tuple") (name:="__rmul__") (id:="tuple.__rmul__") F.slot_tuple_rmul.lookup (by decide +kernel)];rfl
theorem hJ(a:Int) (t:Tok) (l:A8) (items:Array u8) :
  Meets (C6.«int.__rmul__» ⟨[.int a t,.ref l],[]⟩) (fun _ R s=>T9 s.heap l items/\R (.ok (.ret u8.notImplemented)) s) :=
 .of_wp fun prog w A R s h=>by
  obtain⟨hp,g,d,tk,os⟩:=s;obtain⟨⟨⟨cls,dd,data,sl⟩,ho,hc,n,hd⟩,h⟩:=h;simp only at hc hd;subst hc hd
  wp_walk;exact⟨_,rfl,h⟩
theorem iM(l:A8) (items:Array u8) (x:Int) (u:Tok) (hne:items.isEmpty=false) (hx:2<=x) (hx2:x<2 ^ 62) (hz:items.size*x.toNat<=A0) :
  Meets (C6.«tuple.__mul__» ⟨[.ref l,.int x u],[]⟩) (fun _ R s=>T9 s.heap l items/\R (.ok (.ret (.ref s.heap.objs.size))) { s with heap:=s.heap.push { cls:=.type "tuple",data:=.seq (A7 x.toNat items.toList).flatten.toArray } }) :=
 .of_wp fun prog w A R s h=>by
  obtain⟨ht,h⟩:=h;show B7 _ _ (do
   let n <-asIndex (.int x u)
   if n < -(2 ^ 63) || n>=2 ^ 63 then
    rule "tuple.repeat.overflow";raiseError "OverflowError" s!"cannot fit '{← typeNameOf (.int x u)}' into an index-sized integer"
   let xs <-C6.Tuple.tupleItemsOf (.ref l)
   if xs.isEmpty || n==1 then
    if <-C6.Tuple.tupleIsExact (.ref l)then rule "tuple.repeat.same-object";return <-ret (.ref l)
   if n<=0 || xs.isEmpty then return <-ret (<-D0 #[])
   if xs.size*n > (2 ^ 63-1) / 8 then rule "tuple.repeat.no-memory";raiseNew (<-newExc (.type "MemoryError") [])
   if C6.Tuple.tupleTooMany (xs.size*n)then unsupported "tuple.__mul__:memory"
   ret (<-D0 ((A7 n.toNat xs).foldl (·++·) #[]))) _ _ s
  refine A5 (wpAny_of_eq (a:=x) rfl ?_);dsimp only;rw[if_neg (by simp only[Bool.or_eq_true,decide_eq_true_eq];omega)];refine A5 (tupleItemsOf_ ht ?_);rw[if_neg (by simp[hne];omega)];rw[if_neg (by simp[hne];omega)];have hxn:((x.toNat:Nat):Int)=x:=by omega
  have hm:(items.size:Int)*x=((items.size*x.toNat:Nat):Int):=by rw[Int.natCast_mul,hxn]
  have h16:A0=16777216:=rfl;rw[if_neg (by rw[hm];omega)];rw[if_neg (by unfold C6.Tuple.tupleTooMany;rw[hm];simp only[decide_eq_true_eq];omega)];have hf:R9 (fun x1 x2=>x1++x2) #[] (A7 x.toNat items)=(A7 x.toNat items.toList).flatten.toArray:=by
   have:=fQ items.toList x.toNat [];rw[List.nil_append]at this;simpa using this
  rw[hf];have hs:sizeOk (.seq (A7 x.toNat items.toList).flatten.toArray):=by
   show(A7 x.toNat items.toList).flatten.toArray.size<=A0;rw[A3,kE,K7,Nat.mul_comm];exact hz
  exact A5 (m:=D0 _) (I0 (A9 ⟨_,rfl,h⟩) hs)
theorem ag.rep{K:o0}{M:DH}{H:Hp}{ds:List D}{vs:List V}(h:ag K M H ds vs):∀k:Nat,ag K M H (A7 k ds).flatten (A7 k vs).flatten
 |0=>ag.nil
 |k+1=>by
  rw[E5,E5,J0,J0];exact h.append (ag.rep h k)
def j8:D->D->Option D
 |.int a,.int b=>if fS a b then some (.int (a*b))else none
 |.str x,.int n=>if x.length<=16777216/\-(2 ^ 63)<=n/\n<=16777216/\x.length*n.toNat<=16777216 then some (.str (Txt.mul x n))else none
 |.tup ds,.int n=>if 2<=n/\n<2 ^ 62/\ds≠[]/\ds.length*n.toNat<=A0 then some (.tup (A7 n.toNat ds).flatten)else none
 |.lst ds,.int n=>if -(2 ^ 63)<=n/\n<2 ^ 63/\ds.length*n.toNat<=A0 then some (.lst (A7 n.toNat ds).flatten)else none
 |_,_=>none
theorem iD:bv X (E4 .Mult) j8:=by
 intro aa s σ H M x y v u dx dy dz Q I hr rx ry r1 r2 e k;cases dx with
 |int a =>
  cases dy with
  |int b=>exact vY aa s σ H M x y v u _ _ dz Q I hr rx ry r1 r2 e k
  |_=>cases e
 |str z =>
  cases dy with
  |int n =>
   simp only[j8]at e
   by_cases hc:z.length<=16777216/\-(2 ^ 63)<=n/\n<=16777216/\z.length*n.toNat<=16777216
   ·rw[if_pos hc]at e;cases e;have e1:=iW r1;have e2:=dU r2;subst e1;subst e2;obtain⟨t1,rfl⟩:=rx;obtain⟨t2,rfl⟩:=ry;have hok:MulOk z n:=by
     by_cases hn:0<=n
     ·exact mulOk_of z.length n.toNat (B0 _) (by omega) hc.2.1 (by omega) hc.2.2.2
     ·exact mulOk_of z.length 0 (B0 _) (by omega) hc.2.1 (by omega) (by omega)
    exact SB.mul hok fun t' kk=>⟨.str _,H,I.tok _,⟨t',rfl⟩,k _ H (Ext.refl _ _) hr (by simp[Rep])⟩
   ·rw[if_neg hc]at e;cases e
  |_=>cases e
 |tup ds =>
  cases dy with
  |int n =>
   simp only[j8]at e
   by_cases hc:2<=n/\n<2 ^ 62/\ds≠[]/\ds.length*n.toNat<=A0
   ·rw[if_pos hc]at e;cases e;have e2:=dU r2;subst e2;obtain⟨t2,rfl⟩:=ry;obtain⟨a,vs,rfl,sq,rl⟩:=r1;cases rx;obtain⟨its,rv,pt,hz⟩:=I.tuple sq;have hl1:=rv.length;have hl2:=rl.length;have hne:its.toArray.isEmpty=false:=by
     cases its with
     |nil =>
      have h0:ds.length=0:=by rw[hl2,hl1];rfl
      exact absurd (List.length_eq_zero_iff.mp h0) hc.2.2.1
     |cons _ _=>rfl
    have hzz:its.toArray.size*n.toNat<=A0:=by rw[A3,<-hl1,<-hl2];exact hc.2.2.2
    refine wpAny_binaryOp_repeat_ref (T:="tuple") (U:="int") (by decide) pt.typeIs (fun s'=>Q8 s' n t2) fT F.fills_int_mul O4 jZ F.slot_int_index.lookup
     (P2 O4 (Q8 s n t2) F.entry_int_rmul (F.args_int_rmul_2 _ _) (hJ n t2 a its.toArray)
      ⟨pt,rfl,pt.typeIs,P2 F.slot_tuple_mul pt.typeIs F.entry_tuple_mul (F.args_tuple_mul_2 _ _) (iM a its.toArray n t2 hne hc.1 hc.2.1 hzz) ⟨pt,?_⟩⟩)
    have rr:ao (A7 n.toNat vs).flatten (A7 n.toNat its).flatten:=rv.rep n.toNat;refine⟨.ref s.heap.objs.size,_,I.laid (t':=s.toks) (o:=.tup (A7 n.toNat vs).flatten) (fun b ob q=>A4 _ q) (B0 _) ?_,rfl,?_⟩
    ·refine⟨?_,_,rr,by simpa using iF.new _ _⟩;rw[kE,Nat.mul_comm,<-hl2];exact hc.2.2.2
    ·exact jN hr (I.hok.fresh (B0 _)) (rl.rep n.toNat) k
   ·rw[if_neg hc]at e;cases e
  |_=>cases e
 |lst ds =>
  cases dy with
  |int n =>
   simp only[j8]at e
   by_cases hc:-(2 ^ 63)<=n/\n<2 ^ 63/\ds.length*n.toNat<=A0
   ·rw[if_pos hc]at e;cases e;obtain⟨a,vs,rfl,sq,rl⟩:=r1;exact wk aa s σ H _ _ v u Q I rx ry ⟨a,n,vs,rfl,dU r2,sq,hc.1,hc.2.1,by rw[<-rl.length];exact hc.2.2,fun p hp=>cU hr hp (rl.rep n.toNat) k⟩
   ·rw[if_neg hc]at e;cases e
  |_=>cases e
 |_=>cases e
theorem sL{a b:Int}:j8 (.int a) (.int b)=if fS a b then some (.int (a*b))else none:=rfl
def vf:D->Bool
 |.non=>true
 |_=>false
def sy(neg:Bool) (x y:D):Option D:=match y with|.non=>some (.bl (xor neg (vf x)))|_=>none
theorem oJ{b:Bool}{x:D}:sy b x .non=some (.bl (xor b (vf x))):=rfl
variable{scope:M9}{cl:List (Str×A8)}{ms:List Bool}{ai:List Str}{ifs:List B4}{tg iter elt:B4}
end
@[irreducible] def QEd(X:Cx) (e:B4) (t:TEd):Prop:=PEd X e t
theorem QEd.eq{X:Cx}{e:B4}{t:TEd}:QEd X e t=(PEd X e t):=by unfold QEd;rfl
@[irreducible] def QAd(X:Cx) (e:List B4) (t:TAd):Prop:=PAd X e t
theorem QAd.eq{X:Cx}{e:List B4}{t:TAd}:QAd X e t=(PAd X e t):=by unfold QAd;rfl
@[irreducible] def QTd(X:Cx) (e:B4) (t:TTd):Prop:=PTd X e t
theorem QTd.eq{X:Cx}{e:B4}{t:TTd}:QTd X e t=(PTd X e t):=by unfold QTd;rfl
@[irreducible] def QWd(X:Cx) (e:B4) (t:TTd):Prop:=PWd X e t
theorem QWd.eq{X:Cx}{e:B4}{t:TTd}:QWd X e t=(PWd X e t):=by unfold QWd;rfl
@[irreducible] def QSd(X:Cx) (e:Q7) (t:TSd):Prop:=PSd X e t
theorem QSd.eq{X:Cx}{e:Q7}{t:TSd}:QSd X e t=(PSd X e t):=by unfold QSd;rfl
@[irreducible] def QSs(X:Cx) (e:List Q7) (t:TSd):Prop:=uB X e t
theorem QSs.eq{X:Cx}{e:List Q7}{t:TSd}:QSs X e t=(uB X e t):=by unfold QSs;rfl
@[irreducible] def QId(X:Cx) (tg e:B4) (t:TId):Prop:=PId X tg e t
theorem QId.eq{X:Cx}{tg e:B4}{t:TId}:QId X tg e t=(PId X tg e t):=by unfold QId;rfl
@[irreducible] def QIf(X:Cx) (e:List B4) (t:TTd):Prop:=yq X e t
theorem QIf.eq{X:Cx}{e:List B4}{t:TTd}:QIf X e t=(yq X e t):=by unfold QIf;rfl
@[irreducible] def QOd(X:Cx) (e:Option B4) (t:TOd):Prop:=POd X e t
theorem QOd.eq{X:Cx}{e:Option B4}{t:TOd}:QOd X e t=(POd X e t):=by unfold QOd;rfl
theorem ae{X:Cx}(i:Nat) {x:Str}{pos:Pos}(hN:X.N[i]?=some x:=by rfl) (hv:Vis X.env.scope x:=by first|exact Or.inl rfl|exact Or.inr (Or.inl rfl)|exact Or.inr (Or.inr rfl)) (hd:(x==("__debug__":Str))=false:=by decide)
  (hcd:(x==("__classdict__":Str))=false:=by decide):QEd X (.Name x pos) (dW i):=by
 simp only[QEd.eq]at *
 exact(vW hN hv hd hcd).conv fun σ H Q ⟨Δ,M,R,sr,hr,⟨d,e,q⟩,k⟩=>let⟨v,ev,rv⟩:=sr.2 i d e;⟨v,ev,k d M v H q (Ext.refl _ _) hr rv⟩
theorem aj{X:Cx}{i j pos}:QEd X (.Constant (.int i) j pos) (dC (.int i)):=by
 simp only[QEd.eq]at *
 exact xp.conv fun σ H Q hup=>hup.el fun Δ M R sr hr q k=>k _ M _ H q (Ext.refl _ _) hr (by simp[Rep])
theorem pG{X:Cx}{i j pos}:QEd X (.Constant (.bool i) j pos) (dC (.bl i)):=by
 simp only[QEd.eq]at *
 exact xU.conv fun σ H Q hup=>hup.el fun Δ M R sr hr q k=>k _ M _ H q (Ext.refl _ _) hr (by simp[Rep])
theorem zU{X:Cx}{i j pos}:QEd X (.Constant (.str i) j pos) (dC (.str i)):=by
 simp only[QEd.eq]at *
 exact v8.conv fun σ H Q hup=>hup.el fun Δ M R sr hr q k=>k _ M _ H q (Ext.refl _ _) hr (by simp[Rep])
theorem am{X:Cx}:QAd X [] zX:=by
 simp only[QAd.eq]at *
 exact kc.conv fun σ H Q hup=>hup.el fun Δ M R sr hr q k=>k _ M _ H q (Ext.refl _ _) hr ag.nil
theorem af{X:Cx}{a:B4}{es:List B4}{ta:TEd}{tr:TAd}(ha:QEd X a ta) (hr:QAd X es tr) (hs:B1 (a::es) X.env=(false,N6 a X.env)::B1 es X.env:=by rfl):QAd X (a::es) (uT ta tr):=by
 simp only[QEd.eq,QAd.eq]at *
 exact(eZ ha hr hs).conv fun σ H Q hup=>hup.el fun Δ M R sr hr q k=>⟨Δ,M,_,sr,hr,q,fun d M1 v H1 q1 e1 hr1 rv=>⟨Δ,M1,_,sr.ext e1,hr1,q1,fun ds M2 vs H2 q2 e2 hr2 rvs =>
   k _ M2 _ H2 q2 (e1.trans e2) hr2 (ag.cons (rv.ext e2) rvs)⟩⟩
theorem rg{X:Cx}{es:List B4}{pos:Pos}{x1}{t:TAd}(h:QAd X es t):QEd X (.Tuple es x1 pos) (zw t):=by
 simp only[QEd.eq,QAd.eq]at *
 exact(nc h).conv fun σ H Q hup=>hup.el fun Δ M R sr hr q k=>⟨Δ,M,_,sr,hr,q,fun ds M1 vs H1 ⟨z,q1⟩ e1 hr1 rv=>⟨by rw[<-rv.length];exact z,fun p hp=>k _ M1 _ _ q1 (e1.trans (Ext.new hr1 hp)) (hr1.new hp) (by
   simp only[Rep];exact⟨p,vs,rfl,.inl ⟨.inl aC,hr1.fresh hp⟩,rv.ext (Ext.new hr1 hp)⟩)⟩⟩
theorem jn{X:Cx}{es:List B4}{pos:Pos}{t:TAd}(h:QAd X es t):QEd X (.List es pos) (yd t):=by
 simp only[QEd.eq,QAd.eq]at *
 exact(qS h).conv fun σ H Q hup=>hup.el fun Δ M R sr hr q k=>⟨Δ,M,_,sr,hr,q,fun ds M1 vs H1 ⟨z,q1⟩ e1 hr1 rv=>⟨by rw[<-rv.length];exact z,fun p hp=>k _ M1 _ _ q1 (e1.trans (Ext.new hr1 hp)) (hr1.new hp) (by
   simp only[Rep];exact⟨p,vs,rfl,⟨aC,hr1.fresh hp⟩,rv.ext (Ext.new hr1 hp)⟩)⟩⟩
theorem iE{X:Cx}{es:List B4}{pos:Pos}{t:TAd}(h:QAd X es t):QEd X (.List es pos) (vh t):=by
 simp only[QEd.eq,QAd.eq]at *
 exact(qS h).conv fun σ H Q hup=>hup.el fun Δ M R sr hr q k=>⟨Δ,M,_,sr,hr,q,fun ds M1 vs H1 ⟨z,q1⟩ e1 hr1 rv=>⟨by rw[<-rv.length];exact z,fun p hp=>k _ _ _ _ (q1 p (hr1.fresh hp)) (e1.trans (Ext.own hp)) (hr1.own hp rv) (by
   simp only[Rep])⟩⟩
theorem au{X:Cx}{a:B4}{b:B4}{ta:TEd}{tb:TEd}{pos:Pos}{op:S9}{r:D->D->Option D}(ho:bv X (E4 op) r) (ha:QEd X a ta) (hb:QEd X b tb):QEd X (.BinOp a op b pos) (dOp r ta tb):=by
 simp only[QEd.eq]at *
 exact(zh ho.v ha hb).conv qo
theorem kN{X:Cx}{a:B4}{b:B4}{ta:TEd}{tb:TEd}{pos:Pos}{op:CmpOp}{r:D->D->Option D}(ho:bv X (E2 op) r) (ha:QEd X a ta) (hb:QEd X b tb) (hm:L4 op b=false):QEd X (.Compare a [op] [b] pos) (dOp r ta tb):=by
 simp only[QEd.eq]at *
 exact(sX ho.v ha hb hm).conv qo
theorem bj{X:Cx}{a:B4}{b:B4}{ta:TEd}{tb:TEd}{pos:Pos}{r:D->D->Option D}(ho:IxR X (opV X.K r)) (ha:QEd X a ta) (hb:QEd X b tb) (hs:nA b):QEd X (.Subscript a b pos) (dOp r ta tb):=by
 simp only[QEd.eq]at *
 exact(xM ho ha hb hs).conv qo
theorem Aj{X:Cx}{a:B4}{ta:TEd}{pos:Pos}{op:UnaryOp}{r:D->Option D}(ho:zG X (unaryOp op) r) (ha:QEd X a ta):QEd X (.UnaryOp op a pos) (dUn r ta):=by
 simp only[QEd.eq]at *
 have h:UnR X (unaryOp op) (fun x H Q=>∃dx dz M,HR X.K M H/\aA X.K M H dx x/\r dx=some dz/\∀w H',Ext M H M H'->HR X.K M H'->Rep X.K M H' dz w->Q w H'):=fun aa s σ H x v Q I rx ⟨dx,dz,M,hr,r1,e,k⟩=>ho aa s σ H M x v dx dz Q I hr rx r1 e k;exact(zu h ha).conv fun σ H Q hup=>hup.el fun Δ M R sr hr q k=>⟨Δ,M,_,sr,hr,q,fun x M1 v H1 ⟨z,ez,q1⟩ e1 hr1 rv=>⟨_,z,M1,hr1,rv.rd hr1,ez,fun w H' e2 hr2 rw_=>k z M1 w H' q1 (e1.trans e2) hr2 rw_⟩⟩
theorem ba{X:Cx}{a:B4}{b:B4}{ta:TEd}{tb:TEd}{pos:Pos}{op:CmpOp}{r:D->D->Option D}(ho:bv X (E2 op) r) (ha:QEd X a ta) (hb:QEd X b tb) (hm:L4 op b=false):QTd X (.Compare a [op] [b] pos) (l7 (dOp r ta tb)):=by
 simp only[QEd.eq,QTd.eq]at *
 refine(sA ho.v ha hb hm).conv fun σ H Q h=>?_;obtain⟨Δ,M,R,sr,hr,q,k⟩:=h;exact⟨Δ,M,_,sr,hr,q,fun x M1 v H1 q1 e1 hr1 rv=>⟨Δ,M1,_,sr.ext e1,hr1,q1,fun y M2 u H2 ⟨z,ez,b,eb,q2⟩ e2 hr2 ru=>⟨_,_,z,M2,hr2,(rv.ext e2).rd hr2,ru.rd hr2,ez,fun w H' e3 hr3 rw_ =>
  ⟨b,by subst eb;simpa only[Rep]using rw_,k b M2 H' q2 ((e1.trans e2).trans e3) hr3⟩⟩⟩⟩
theorem cV{X:Cx}{a:B4}{ta:TEd}(h:QEd X a ta) (he:∀whole,isTrue a X.env whole=(do let v <-whole;T0 a.pos;holding [v] (truthy v)):=by intro _;rfl):QTd X a (l7 ta):=by
 simp only[QEd.eq,QTd.eq]at *
 exact(xq h he).conv yf
theorem jK{X:Cx}{a:B4}{pos:Pos}{tA:TTd}(h:QTd X a tA):QTd X (.UnaryOp .Not a pos) (u5 tA):=by
 simp only[QTd.eq]at *
 exact(wM h).conv fun σ H Q hup=>hup.el fun Δ M R sr hr q k=>⟨Δ,M,_,sr,hr,q,fun b M1 H1 q1 e1 hr1=>k _ M1 H1 q1 e1 hr1⟩
theorem j4{X:Cx}{a:B4}{pos:Pos}{tA:TTd}(ha:QTd X a tA):QWd X (.BoolOp .And [a] pos) tA:=by
 simp only[QTd.eq,QWd.eq]at *
 exact uj ha
theorem mW{X:Cx}{a:B4}{pos:Pos}{tA:TTd}(ha:QTd X a tA):QWd X (.BoolOp .Or [a] pos) tA:=by
 simp only[QTd.eq,QWd.eq]at *
 exact wg ha
theorem ke{X:Cx}{a:B4}{b:B4}{pos:Pos}{tA:TTd}{tB':TTd}{ay:List B4}(ha:QTd X a tA) (hb:QWd X (.BoolOp .And (b::ay) pos) tB'):QWd X (.BoolOp .And (a::b::ay) pos) (og tA tB'):=by
 simp only[QTd.eq,QWd.eq]at *
 exact(vQ ha hb).conv fun σ H Q hup=>hup.el fun Δ M R sr hr q k=>⟨Δ,M,_,sr,hr,q,fun c M1 H1 q1 e1 hr1=>by
   cases c with
   |true=>simp only[if_true]at q1 ⊢;exact⟨Δ,M1,R,sr.ext e1,hr1,q1,fun b M2 H2 q2 e2 hr2=>k b M2 H2 q2 (e1.trans e2) hr2⟩
   |false=>simp only[F4,if_false]at q1 ⊢;exact k _ M1 H1 q1 e1 hr1⟩
theorem n9{X:Cx}{a:B4}{b:B4}{pos:Pos}{tA:TTd}{tB':TTd}{ay:List B4}(ha:QTd X a tA) (hb:QWd X (.BoolOp .Or (b::ay) pos) tB'):QWd X (.BoolOp .Or (a::b::ay) pos) (yJ tA tB'):=by
 simp only[QTd.eq,QWd.eq]at *
 exact(yM ha hb).conv fun σ H Q hup=>hup.el fun Δ M R sr hr q k=>⟨Δ,M,_,sr,hr,q,fun c M1 H1 q1 e1 hr1=>by
   cases c with
   |false=>simp only[F4,if_false]at q1 ⊢;exact⟨Δ,M1,R,sr.ext e1,hr1,q1,fun b M2 H2 q2 e2 hr2=>k b M2 H2 q2 (e1.trans e2) hr2⟩
   |true=>simp only[if_true]at q1 ⊢;exact k _ M1 H1 q1 e1 hr1⟩
theorem y0{X:Cx}{a:B4}{ta:TEd}{pos:Pos}{op}(h:QEd X a ta):QEd X (.BoolOp op [a] pos) ta:=by
 simp only[QEd.eq]at *
 exact wW h
theorem zB{X:Cx}{a:B4}{b:B4}{ta:TEd}{tb:TEd}{pos:Pos}{ay:List B4}(ha:QEd X a ta) (hb:QEd X (.BoolOp .And (b::ay) pos) tb):QEd X (.BoolOp .And (a::b::ay) pos) (yw ta tb):=by
 simp only[QEd.eq]at *
 exact(wV ha hb).conv fun σ H Q hup=>hup.el fun Δ M R sr hr q k=>⟨Δ,M,_,sr,hr,q,fun d M1 v H1 ⟨c,e,q1⟩ e1 hr1 rv=>⟨c,by subst e;simpa only[Rep]using rv,by
   cases c with
   |true=>simp only[if_true]at q1 ⊢;exact⟨Δ,M1,R,sr.ext e1,hr1,q1,fun b M2 v2 H2 q2 e2 hr2 r2=>k b M2 v2 H2 q2 (e1.trans e2) hr2 r2⟩
   |false=>simp only[F4,if_false]at q1 ⊢;exact k _ M1 _ H1 q1 e1 hr1 (by simp[Rep])⟩⟩
theorem aG{X:Cx}{pos:Pos}{x:Str}{p:Pos}{e:B4}{es:List B4}{t:TAd}{id:String}{r:List D->Option D}(hc:bJ X (.builtin id) r) (hg:Gl X x) (hm:X.mg x=none) (hv:J4 x=some (.builtin id)) (ha:QAd X (e::es) t) (hn:x≠"__name__":=by decide) (hdb:(x==("__debug__":Str))=false:=by decide)
  (he:B1 (e::es) X.env=(false,N6 e X.env)::B1 es X.env:=by rfl) (hpl:(L3 pos (B1 es X.env)).any (·.1)=false:=by rfl):QEd X (.Call (.Name x p) (e::es) [] pos) (dCB r t):=by
 simp only[QEd.eq,QAd.eq]at *
 exact(k8 hc.v hg hm hv ha hn hdb he hpl).conv uS
theorem fD{X:Cx}{pos:Pos}{x:Str}{p:Pos}{e:B4}{es:List B4}{t:TAd}{id:String}{r:List D->Option D}(hc:bJ X (.type id) r) (hg:Gl X x) (hm:X.mg x=none) (hv:J4 x=some (.type id)) (ha:QAd X (e::es) t) (hn:x≠"__name__":=by decide) (hdb:(x==("__debug__":Str))=false:=by decide)
  (he:B1 (e::es) X.env=(false,N6 e X.env)::B1 es X.env:=by rfl) (hpl:(L3 pos (B1 es X.env)).any (·.1)=false:=by rfl):QEd X (.Call (.Name x p) (e::es) [] pos) (dCB r t):=by
 simp only[QEd.eq,QAd.eq]at *
 exact(pE hc.v hg hm hv ha hn hdb he hpl).conv uS
theorem cf{X:Cx}:QSs X [] nX:=by
 simp only[QSs.eq]at *
 exact uk.conv fun D σ H hup=>hup.el fun Δ M E sr hr q u=>u.nx Δ M σ H q (Ext.refl _ _) hr sr
theorem ak{X:Cx}{st:Q7}{ay:List Q7}{t:TSd}{u:TSd}(h1:QSd X st t) (h2:QSs X ay u):QSs X (st::ay) (yA t u):=by
 simp only[QSd.eq,QSs.eq]at *
 exact(qu h1 h2).conv fun D σ H hup=>hup.el fun Δ M E sr hr q k=>⟨Δ,M,{ E with nx:=u E },sr,hr,q,⟨fun Δ' M' σ' H' q' e' hr' sr'=>⟨Δ',M',E,sr',hr',q',k.ext e'⟩,k.bk,k.ct,k.rt⟩⟩
theorem aq{X:Cx}{st:Q7}{t:TSd}(h1:QSd X st t):QSs X [st] t:=by
 simp only[QSd.eq,QSs.eq]at *
 exact tq h1
theorem cy{X:Cx}{e:B4}{te:TEd}{pos:Pos}(he:QEd X e te):QSd X (.Return (some e) pos) (zc te):=by
 simp only[QEd.eq,QSd.eq]at *
 exact(m8 he).conv fun D σ H hup=>hup.el fun Δ M E sr hr q k=>⟨Δ,M,_,sr,hr,q,k.rt⟩
theorem eN{X:Cx}{e:B4}{te:TEd}{pos:Pos}(he:QEd X e te) (hs:P0 e none pos.line X.env=O9 false:=by rfl):QSd X (.Expr e pos) (nE te):=by
 simp only[QEd.eq,QSd.eq]at *
 exact(ut he hs).conv fun D σ H hup=>hup.el fun Δ M E sr hr q k=>⟨Δ,M,_,sr,hr,q,fun d M1 v H1 q1 e1 hr1 _=>k.nx Δ M1 σ H1 q1 e1 hr1 (sr.ext e1)⟩
theorem di{X:Cx}{c:B4}{pos:Pos}{t:TSd}{u:TSd}{sa sb:List Q7}{tc:TTd}(hc:QTd X c tc) (ha:QSs X sa t) (hb:QSs X sb u):QSd X (.If c sa sb pos) (uF tc t u):=by
 simp only[QTd.eq,QSd.eq,QSs.eq]at *
 exact(yP hc ha hb).conv fun D σ H hup=>hup.el fun Δ M E sr hr q k=>⟨Δ,M,_,sr,hr,q,fun b M1 H1 q1 e1 hr1=>by
   cases b with
   |true=>simp only[if_true]at q1 ⊢;exact⟨Δ,M1,E,sr.ext e1,hr1,q1,k.ext e1⟩
   |false=>simp only[F4,if_false]at q1 ⊢;exact⟨Δ,M1,E,sr.ext e1,hr1,q1,k.ext e1⟩⟩
theorem aV{X:Cx}{e:B4}{te:TEd}{pos:Pos}{i:Nat}{x:Str}{pos':Pos}(hN:X.N.Nodup) (hi:X.N[i]?=some x) (hx:Loc X.env.scope x) (he:QEd X e te) (hs:P0 e (some (.Name x pos')) pos.line X.env=O9 false:=by rfl) (hf:X.fn x=true∨X.env.scope.names.lookup x=some .local:=by first|exact .inl rfl|exact .inr rfl|assumption) :
  QSd X (.Assign [.Name x pos'] e pos) (xC i te):=by
 simp only[QEd.eq,QSd.eq]at *
 exact(xt hN hi hx he hs hf).conv fun D σ H hup=>hup.el fun Δ M E sr hr q k=>⟨Δ,M,_,sr,hr,q,fun d M1 v H1 q1 e1 hr1 rv=>k.nx _ M1 _ H1 q1 e1 hr1 ((sr.ext e1).set i rv)⟩
theorem zP{X:Cx}{e:B4}{te:TEd}{pos:Pos}{i:Nat}{x:Str}{op:S9}{r:D->D->Option D}{pos':Pos}(hN:X.N.Nodup) (hi:X.N[i]?=some x) (hx:Loc X.env.scope x) (he:QEd X e te) (ho:bv X (T4 op) r) (hf:X.fn x=true∨X.env.scope.names.lookup x=some .local:=by first|exact .inl rfl|exact .inr rfl|assumption) :
  QSd X (.AugAssign (.Name x pos') op e pos) (yn i te r):=by
 simp only[QEd.eq,QSd.eq]at *
 have h:PIp X op (opV X.K r):=fun aa s σ H x y v u Q I rx ry q=>ho.v aa s σ H x y v u Q I rx ry q;refine(xD hN hi hx he h hf).conv fun D σ H hh=>?_;obtain⟨Δ,M,E,sr,hr,⟨d,ed,q⟩,k⟩:=hh;obtain⟨v,ev,rv⟩:=sr.2 i d ed;refine⟨v,ev,Δ,M,_,sr,hr,q,fun y M1 w H1 ⟨z,ez,q1⟩ e1 hr1 rw_=>⟨_,_,z,M1,hr1,(rv.ext e1).rd hr1,rw_.rd hr1,ez,fun w2 H2 e2 hr2 r2=>k.nx _ M1 _ H2 q1 (e1.trans e2) hr2 (((sr.ext e1).ext e2).set i r2)⟩⟩
theorem bX{X:Cx}{a:B4}{pos:Pos}{tg:B4}{ta:TAd}{p:Pos}(hg:Gl X "range") (hm:X.mg "range"=none) (ha:QAd X [a] ta) (hs:B1 [a] X.env=[(false,N6 a X.env)]:=by rfl):QId X tg (.Call (.Name "range" p) [a] [] pos) (rj ta):=by
 simp only[QAd.eq,QId.eq]at *
 exact(oM hg hm ha hs).conv fun σ H R hup=>hup.el fun Δ M R' sr hr q k=>⟨Δ,M,_,sr,hr,q,fun ds M1 vs H1 ⟨j,ed,h1,h2,q1⟩ e1 hr1 rv=>by
   subst ed;obtain⟨v,ev,rv1⟩:=rv.one;have ev1:v=.int j:=by simpa only[Rep]using rv1
   subst ev1;subst ev;exact⟨j,rfl,h1,h2,k _ M1 _ H1 q1 e1 hr1 nz⟩⟩
theorem uy{X:Cx}{a:B4}{b:B4}{pos:Pos}{tg:B4}{ta:TAd}{p:Pos}(hg:Gl X "range") (hm:X.mg "range"=none) (ha:QAd X [a,b] ta) (hs:B1 [a,b] X.env=[(false,N6 a X.env),(false,N6 b X.env)]:=by rfl) (hs2:B1 [b] X.env=[(false,N6 b X.env)]:=by rfl):QId X tg (.Call (.Name "range" p) [a,b] [] pos) (qt ta):=by
 simp only[QAd.eq,QId.eq]at *
 exact(pC hg hm ha hs hs2).conv fun σ H R hup=>hup.el fun Δ M R' sr hr q k=>⟨Δ,M,_,sr,hr,q,fun ds M1 vs H1 ⟨i,j,ed,h1,q1⟩ e1 hr1 rv=>by
   subst ed;obtain⟨v,w,ev,rv1,rv2⟩:=rv.two;have ev1:v=.int i:=by simpa only[Rep]using rv1
   have ev2:w=.int j:=by simpa only[Rep]using rv2
   subst ev1;subst ev2;subst ev;exact⟨i,j,rfl,h1,k _ M1 _ H1 q1 e1 hr1 nz⟩⟩
theorem eu{X:Cx}{pos:Pos}{tg:B4}{iter:B4}{body:List Q7}{wi:TId}{g:GD}{tb:TSd}(hp:T5 (B8 X.prog X.w) X.A X.env X.xe) (hc:X.calm=true) (hi:QId X tg iter wi) (hg:PGd X tg g) (hb:QSs X body tb)
  (hs:∀x,D8 iter X.env x=O9 x:=by intro _;rfl):QSd X (.For tg iter body [] pos) (yg wi g tb):=by
 simp only[QSd.eq,QSs.eq,QId.eq]at *
 obtain⟨gv,pg,kg⟩:=hg;refine(wJ hp hc hi pg hb hs).conv fun D σ H hh=>?_;obtain⟨Δ,M,E,sr,hr,q,k⟩:=hh;refine⟨Δ,M,_,sr,hr,q,fun ds M1 J H1 q1 e1 hr1 it=>?_⟩;refine⟨fun i m σ' H'=>∃ Δ' M',m=ds.length-i/\i<=ds.length/\Ext M1 H1 M' H'/\HR X.K M' H'/\SR X.K M' H' σ' Δ'/\bu g tb E (ds.drop i) Δ' M',⟨ds.length,Δ,M1,by simp,N2 _,Ext.refl _ _,hr1,sr.ext e1,q1⟩,?_⟩;rintro i m σ2 H2 ⟨Δ2,M2,rfl,hi2,e2,hr2,sr2,f2⟩;obtain⟨go,stop⟩:=it M2 H2 e2 hr2 i
 by_cases hlt:i<ds.length
 ·have hd:ds[i]?=some ds[i]:=by simp[hlt]
  obtain⟨g1,y1⟩:=go _ hd;rw[List.drop_eq_getElem_cons hlt]at f2;simp only[bu]at f2;obtain⟨Δ3,eg,f3⟩:=f2;refine .inr ⟨g1,fun σ' H'=>∃m',m'<ds.length-i/\∃ Δ' M',m'=ds.length-(i+1)/\i+1<=ds.length/\Ext M1 H1 M' H'/\HR X.K M' H'/\SR X.K M' H' σ' Δ'/\bu g tb E (ds.drop (i+1)) Δ' M',fun σ' H' z=>z,fun x H' hy=>?_⟩;obtain⟨e3,hr3,rx⟩:=y1 x H' hy;refine kg _ x σ2 Δ2 Δ3 M2 H' _ (sr2.ext e3) hr3 rx eg fun σ3 sr3=>?_;refine⟨Δ3,M2,_,sr3,hr3,f3,⟨fun Δ' M' σ' H'' q' e' hr' sr'=>?_,fun Δ' M' σ' H'' q' e' hr' sr'=>?_,fun Δ' M' σ' H'' q' e' hr' sr'=>?_,fun d M' v H'' q' e' hr' rv'=>?_⟩⟩
  ·exact⟨_,by omega,Δ',M',rfl,hlt,(e2.trans e3).trans e',hr',sr',q'⟩
  ·exact k.nx Δ' M' σ' H'' q' (((e1.trans e2).trans e3).trans e') hr' sr'
  ·exact⟨_,by omega,Δ',M',rfl,hlt,(e2.trans e3).trans e',hr',sr',q'⟩
  ·exact k.rt d M' v H'' q' (((e1.trans e2).trans e3).trans e') hr' rv'
 ·rw[List.drop_eq_nil_of_le (by omega)]at f2;exact .inl ⟨stop (by omega),k.nx Δ2 M2 σ2 H2 f2 (e1.trans e2) hr2 sr2⟩
theorem kn{X:Cx}{c:B4}{pos:Pos}{body:List Q7}{tc:TTd}{tb:TSd}(hp:T5 (B8 X.prog X.w) X.A X.env X.xe) (hc:QTd X c tc) (hb:QSs X body tb):QSd X (.While c body [] pos) (pO tc tb):=by
 simp only[QTd.eq,QSd.eq,QSs.eq]at *
 refine(qT hp hc hb).conv fun D σ H hh=>?_;obtain⟨Δ,M,E,sr,hr,⟨W,⟨m0,w0⟩,turn⟩,k⟩:=hh;refine⟨fun m σ' H'=>∃ Δ' M',Ext M H M' H'/\HR X.K M' H'/\SR X.K M' H' σ' Δ'/\W m Δ' M',⟨m0,Δ,M,Ext.refl _ _,hr,sr,w0⟩,?_⟩;rintro m σ1 H1 ⟨Δ1,M1,e1,hr1,sr1,w1⟩;refine⟨Δ1,M1,_,sr1,hr1,turn m Δ1 M1 w1,fun b M2 H2 q2 e2 hr2=>?_⟩;cases b with
 |true =>
  simp only[if_true]at q2 ⊢;refine⟨fun σ' H'=>∃m',m'<m/\∃ Δ' M',Ext M H M' H'/\HR X.K M' H'/\SR X.K M' H' σ' Δ'/\W m' Δ' M',fun σ' H' z=>z,Δ1,M2,_,sr1.ext e2,hr2,q2,⟨fun Δ' M' σ' H'' ⟨m',hm,w'⟩ e' hr' sr'=>?_,fun Δ' M' σ' H'' q' e' hr' sr'=>?_,fun Δ' M' σ' H'' ⟨m',hm,w'⟩ e' hr' sr'=>?_,fun d M' v H'' q' e' hr' rv'=>?_⟩⟩
  ·exact⟨m',hm,Δ',M',(e1.trans e2).trans e',hr',sr',w'⟩
  ·exact k.nx Δ' M' σ' H'' q' ((e1.trans e2).trans e') hr' sr'
  ·exact⟨m',hm,Δ',M',(e1.trans e2).trans e',hr',sr',w'⟩
  ·exact k.rt d M' v H'' q' ((e1.trans e2).trans e') hr' rv'
 |false =>
  simp only[F4,if_false]at q2 ⊢;exact k.nx Δ1 M2 σ1 H2 q2 (e1.trans e2) hr2 (sr1.ext e2)
theorem cb{X:Cx}:QIf X [] mZ:=by
 simp only[QIf.eq]at *
 exact fun aa s σ H Q I ⟨Δ,M,R,sr,hr,q,k⟩=>sU aa s σ H Q I (k true M H q (Ext.refl _ _) hr)
theorem jL{X:Cx}{c:B4}{tc:TTd}(h:QTd X c tc):QIf X [c] tc:=by
 simp only[QTd.eq,QIf.eq]at *
 exact uI h
theorem jO{X:Cx}{pos:Pos}{tg:B4}{iter:B4}{elt:B4}{scope:M9}{cl:List (Str×A8)}{ms:List Bool}{ai:List Str}{ifs:List B4}{wi:TId}{g:GD}{tc:TTd}{te:TEd}(S:c8 X scope cl ms ai) (dj:X.calm=true) (hi:QId X tg iter wi) (hg:PGa X scope cl ai tg g)
  (hif:∀C s H ex,QIf (av X scope cl (X.N++ai) C s H ex) ifs tc) (he:∀C s H ex,QEd (av X scope cl (X.N++ai) C s H ex) elt te)
  (hs:∀x,D8 iter X.env x=O9 x:=by intro _;rfl):QEd X (.ListComp elt [⟨tg,iter,ifs,0⟩] scope pos) (dLc ms ai.length wi g tc te):=by
 simp only[QEd.eq,QId.eq,QIf.eq]at *
 obtain⟨gv,pg,kg⟩:=hg;exact(rm (tc:=upT X.K tc) S dj hi pg hif (qO (te:=up X.K te) he) hs).conv (nh kg)
theorem fB{X:Cx}{pos:Pos}{tg:B4}{iter:B4}{elt:B4}{scope:M9}{cl:List (Str×A8)}{ms:List Bool}{ai:List Str}{ifs:List B4}{i:Nat}{x:Str}{spos pos':Pos}{wi:TId}{g:GD}{tc:TTd}{te:TEd}(hN:X.N.Nodup) (hix:X.N[i]?=some x) (hx:X.env.scope.names.lookup x=some .local)
  (hsw:P0 (.ListComp elt [⟨tg,iter,ifs,0⟩] scope pos) (some (.Name x pos')) spos.line X.env=O9 true) (S:c8 X scope cl ms ai) (dj:X.calm=true) (hi:QId X tg iter wi) (hg:PGa X scope cl ai tg g)
  (hif:∀C s H ex,QIf (av X scope cl (X.N++ai) C s H ex) ifs tc) (he:∀C s H ex,QEd (av X scope cl (X.N++ai) C s H ex) elt te)
  (hs:∀x,D8 iter X.env x=O9 x:=by intro _;rfl):QSd X (.Assign [.Name x pos'] (.ListComp elt [⟨tg,iter,ifs,0⟩] scope pos) spos) (xC i (dLc ms ai.length wi g tc te)):=by
 simp only[QEd.eq,QSd.eq,QId.eq,QIf.eq]at *
 obtain⟨gv,pg,kg⟩:=hg;refine(oC (tc:=upT X.K tc) hN hix hx hsw S dj hi pg hif (qO (te:=up X.K te) he) hs).conv fun D σ H hh=>?_;obtain⟨Δ,M,E,sr,hr,q,k⟩:=hh;exact nh kg σ H _ ⟨Δ,M,_,sr,hr,q,fun d M1 v H1 q1 e1 hr1 rv=>k.nx _ M1 _ H1 q1 e1 hr1 ((sr.ext e1).set i rv)⟩
theorem jm{X:Cx}{e:B4}{te:TEd}{o:B4}{to:TEd}{fw bI:Pos}(ho:QEd X o to) (he:QEd X e te) (lw:P7 o "append" X.env (N6 o X.env)=N6 o X.env:=by rfl)
  (hse:B1 [e] X.env=(false,N6 e X.env)::B1 [] X.env:=by rfl)
  (qr:((L3 bI (B1 [e] X.env)).all (fun x => !x.1) && (backToKw bI (R3 [] X.env)).all (fun x => x.1.isSome)
  &&decide ([e].length+([]:List Q3).length+(if([]:List Q3).isEmpty then 0 else 1)<30))=true:=by rfl)
  (lF:(fw.endLine==bI.line)=true:=by rfl) (ig:(L3 bI (B1 [] X.env)).any (·.1)=false:=by rfl):QEd X (.Call (.Attribute o "append" fw) [e] [] bI) (t6 to te):=by
 simp only[QEd.eq]at *
 exact(vp PySem.F.plainAttrs_list PySem.F.slot_list_append PySem.F.type_list_append (show MtR X "list.append" nt from oR) ho (eZ he kc hse) lw qr lF hse ig).conv fun σ H Q hup=>hup.el fun Δ M R sr hr q k=>⟨Δ,M,_,sr,hr,q,fun o M1 ov H1 ⟨a,l,eo,em,q1⟩ e1 hr1 ro=>by
   subst eo;simp only[Rep]at ro;subst ro;obtain⟨vs,hv,rl⟩:=hr1 a _ em;refine⟨.inl ⟨rfl,vs,SqL.of hv⟩,Δ,M1,_,sr.ext e1,hr1,q1,fun d M2 v H2 ⟨ds,em2,hz,q2⟩ e2 hr2 rv=>?_⟩;obtain⟨ws,hw,rl2⟩:=hr2 a _ em2;refine⟨a,ws,v,rfl,rfl,hw,by rw[<-rl2.length];exact hz,k _ _ _ _ q2 ((e1.trans e2).trans (Ext.write em2)) (hr2.write em2 (rl2.append (ag.cons rv ag.nil))) (by simp[Rep])⟩⟩
theorem vi{X:Cx}{a:B4}{ta:TEd}{pos:Pos}{T:Str}{Tn:String}{p p2:Pos}(hT:okT Tn=true) (hg:Gl X "isinstance") (hm:X.mg "isinstance"=none) (hg2:Gl X T) (hm2:X.mg T=none) (hv2:J4 T=some (.type Tn)) (ha:QEd X a ta) (hn2:T≠"__name__":=by decide) (hd2:(T==("__debug__":Str))=false:=by decide)
  (hs:B1 [a,.Name T p2] X.env=(false,N6 a X.env)::B1 [.Name T p2] X.env:=by rfl) (hs2:B1 [.Name T p2] X.env=(false,N6 (.Name T p2) X.env)::B1 [] X.env:=by rfl) (hpl:(L3 pos (B1 [.Name T p2] X.env)).any (·.1)=false:=by rfl) :
  QEd X (.Call (.Name "isinstance" p) [a,.Name T p2] [] pos) (ym Tn ta):=by
 simp only[QEd.eq]at *
 have hc:cv X (.builtin "isinstance") (fun xs H Q=>∃v d k M,xs=[v,.ty Tn]/\aA X.K M H d v/\t7 Tn d=some k/\Q (.bl k) H):=by
  intro aa s σ H xs us Q I rv h;obtain⟨v,d,k,M,rfl,rd,ek,q⟩:=h;obtain⟨u1,u2,rfl,r1,r2⟩:=ao.two rv;cases r2;exact oS hT I r1 rd ek q
 refine(k8 hc hg hm (by kernel_rfl) (eZ ha (eZ (t8 (v:=.ty Tn) hg2 hm2 hv2 rfl hn2 hd2) kc hs2) hs) (by decide) (by decide) hs hpl).conv fun σ H Q hh=>?_;obtain⟨Δ,M,R,sr,hr,q,k⟩:=hh;exact⟨Δ,M,_,sr,hr,q,fun d M1 v H1 ⟨kk,ek,q1⟩ e1 hr1 rv=>⟨v,_,kk,M1,rfl,rv.rd hr1,ek,k _ M1 _ H1 q1 e1 hr1 (by simp[Rep])⟩⟩
theorem c0{X:Cx}:QOd X none j0:=by
 simp only[QEd.eq,QAd.eq,QTd.eq,QWd.eq,QSd.eq,QSs.eq,QId.eq,QIf.eq,QOd.eq]at *
 exact tD 
theorem ck{X:Cx}{e:B4}{te:TEd}(h:QEd X e te):QOd X (some e) (rJ te):=by
 simp only[QEd.eq,QAd.eq,QTd.eq,QWd.eq,QSd.eq,QSs.eq,QId.eq,QIf.eq,QOd.eq]at *
 exact ug (h:=h)
theorem qc{X:Cx}{e:B4}{es:List B4}{t:TAd}{pos:Pos}{p:Pos}{x:Str}{k:Nat}{n:Nat}{S:SpD}(F:FnD X.prog X.w X.K X.mg X.base x k n S) (hr:bY k X.A) (hg:Gl X x) (ha:QAd X (e::es) t) (hdb:(x==("__debug__":Str))=false:=by decide) (he:B1 (e::es) X.env=(false,N6 e X.env)::B1 es X.env:=by rfl) (hpl:(L3 pos (B1 es X.env)).any (·.1)=false:=by rfl) :
  QEd X (.Call (.Name x p) (e::es) [] pos) (lJ n S t):=by
 simp only[QEd.eq,QAd.eq,QTd.eq,QWd.eq,QSd.eq,QSs.eq,QId.eq,QIf.eq,QOd.eq]at *
 exact dc (F:=F) (hr:=hr) (hg:=hg) (ha:=ha) (hdb:=hdb) (he:=he) (hpl:=hpl)
theorem kB{X:Cx}{e:B4}{te:TEd}{pos:Pos}(he:QEd X e te):QSd X (.Return (some e) pos) (ve te):=by
 simp only[QEd.eq,QSd.eq]at *
 exact(m8 he).conv fun D σ H hup=>hup.el fun Δ M E sr hr q k=>⟨Δ,M,_,sr,hr,q,fun d M1 v H1 ⟨a,ds,ed,em,q1⟩ e1 hr1 rv=>by
  subst ed;simp only[Rep]at rv;subst rv;exact k.rt _ _ _ H1 q1 (e1.trans (Ext.le LeM.del)) (hr1.le LeM.del) (Rep.froze hr1 LeM.del em o7)⟩
theorem bB{X:Cx}{te:TEd}{tg:B4}{iter:B4}(h:QEd X iter te):QId X tg iter (vb te):=by
 simp only[QEd.eq,QId.eq]at *
 intro aa s σ H R I hh;obtain⟨Δ,M,R',sr,hr,q,k⟩:=hh;refine thn (h aa s σ H (fun v H1=>∃d ds M1,eE d=some ds/\(ds.length<=A0->R' ds M1)/\Ext M H M1 H1/\HR X.K M1 H1/\Rep X.K M1 H1 d v) I ⟨Δ,M,_,sr,hr,q,fun d M1 v H1 ⟨ds,ed,q1⟩ e1 hr1 rv=>⟨d,ds,M1,ed,q1,e1,hr1,rv⟩⟩) fun u s1 ⟨v,H1,I1,r1,d,ds,M1,ed,q1,e1,hr1,rv⟩=>?_;have lo:=aA.len (K:=X.K) I1 rv;cases d with
 |tup es =>
  cases ed;simp only[Rep]at rv;obtain⟨a,vs,rfl,ta,rl⟩:=rv;cases r1;obtain⟨its,rvv,p,hz⟩:=I1.tuple ta.sq;refine wpAny_pyIter_tuple (show s1.heap.IsTuple a its.toArray from p) ?_;refine⟨s1.heap.objs.size,[s1.heap.objs.size],_,_,H1,rfl,I1.kept (t':=s1.toks) fun b o e=>A4 _ e,m5 a _,⟨_,B6 _ rfl,rfl,rfl⟩,mN (o:=default) I1,?_⟩;refine k _ M1 _ H1 (q1 lo) e1 hr1 fun M2 H2 e2 hr2 i=>⟨fun d hd=>?_,fun hl=>⟨vs,(ta.ext e2).sq,by rw[<-rl.length];exact hl⟩⟩;obtain⟨v,gv,r⟩:=rl.get hd;refine⟨⟨vs,v,(ta.ext e2).sq,gv⟩,fun x H' ⟨eH,y⟩=>?_⟩;subst eH;have:=y vs (ta.ext e2).sq;rw[gv]at this;cases this;exact⟨Ext.refl _ _,hr2,r.ext e2⟩
 |lst es =>
  cases ed;simp only[Rep]at rv;obtain⟨a,vs,rfl,ta,rl⟩:=rv;cases r1;obtain⟨its,rvv,p,hz⟩:=I1.list (SqL.of ta.1);refine N3 p.isList ?_;refine⟨s1.heap.objs.size,[s1.heap.objs.size],_,_,H1,rfl,I1.kept (t':=s1.toks) fun b o e=>A4 _ e,iY a _,⟨_,B6 _ rfl,rfl,rfl⟩,mN (o:=default) I1,?_⟩;refine k _ M1 _ H1 (q1 lo) e1 hr1 fun M2 H2 e2 hr2 i=>⟨fun d hd=>?_,fun hl=>⟨vs,SqL.of (ta.ext e2).1,by rw[<-rl.length];exact hl⟩⟩;obtain⟨v,gv,r⟩:=rl.get hd;refine⟨⟨vs,v,SqL.of (ta.ext e2).1,gv⟩,fun x H' ⟨eH,y⟩=>?_⟩;subst eH;have:=y vs (SqL.of (ta.ext e2).1);rw[gv]at this;cases this;exact⟨Ext.refl _ _,hr2,r.ext e2⟩
 |scr es =>
  cases ed;simp only[Rep]at rv;obtain⟨a,vs,rfl,ta,rl⟩:=rv;cases r1;obtain⟨its,rvv,p,hz⟩:=I1.list ta.sq;refine N3 p.isList ?_;refine⟨s1.heap.objs.size,[s1.heap.objs.size],_,_,H1,rfl,I1.kept (t':=s1.toks) fun b o e=>A4 _ e,iY a _,⟨_,B6 _ rfl,rfl,rfl⟩,mN (o:=default) I1,?_⟩;refine k _ M1 _ H1 (q1 lo) e1 hr1 fun M2 H2 e2 hr2 i=>⟨fun d hd=>?_,fun hl=>⟨vs,(ta.ext e2).sq,by rw[<-rl.length];exact hl⟩⟩;obtain⟨v,gv,r⟩:=rl.get hd;refine⟨⟨vs,v,(ta.ext e2).sq,gv⟩,fun x H' ⟨eH,y⟩=>?_⟩;subst eH;have:=y vs (ta.ext e2).sq;rw[gv]at this;cases this;exact⟨Ext.refl _ _,hr2,r.ext e2⟩
 |str x =>
  simp only[eE]at ed
  by_cases hz:x.length<=A0
  ·rw[if_pos hz]at ed;cases ed;simp only[Rep]at rv;subst rv;obtain⟨t,rfl⟩:=r1;have hq:=k _ M1 _ H1 (q1 (by have hz2:x.cps.size<=A0:=hz;simpa[ef]using hz2)) e1 hr1 we;cases ha:x.cps.all (·<128)
   ·exact wpAny_pyIter_wide ha (nS I1 "str_iterator" (by decide) (fun A hA=>Walks.strWide hA _ x t) (fun A i s' Q E st q=>wpAny_pyIter_striter_wide st q) hq)
   ·exact wpAny_pyIter_ascii ha (nS I1 "str_ascii_iterator" (by decide) (fun A hA=>Walks.strAscii hA _ x t) (fun A i s' Q E st q=>wpAny_pyIter_striter_ascii st q) hq)
  ·rw[if_neg hz]at ed;cases ed
 |_=>cases ed
theorem mq{X:Cx}{e:B4}{te:TEd}{pos:Pos}(he:QEd X e te):QSd X (.Return (some e) pos) (vk te):=by
 simp only[QEd.eq,QSd.eq]at *
 exact(m8 he).conv fun D σ H hup=>hup.el fun Δ M E sr hr q k=>⟨Δ,M,_,sr,hr,q,fun d M1 v H1 ⟨M2,hle,q1⟩ e1 hr1 rv =>
  k.rt _ _ _ H1 q1 (e1.trans (Ext.le hle)) (hr1.le hle) (rv.ext (Ext.le hle))⟩
theorem b6{X:Cx}{e:B4}{te:TEd}{pos:Pos}{lo hi:Option B4}{tl th:TOd}{p2:Pos}(he:QEd X e te) (hl:QOd X lo tl) (hu:QOd X hi th):QEd X (.Subscript e (.Slice lo hi none p2) pos) (zg te tl th):=by
 simp only[QEd.eq,QOd.eq]at *
 refine(rZ (SlR.or sj (SlR.or wY (SlR.or xm ri))) he hl hu).conv fun σ H Q hh=>?_;obtain⟨Δ,M,R,sr,hr,q,k⟩:=hh;refine⟨Δ,M,_,sr,hr,q,fun x M1 v H1 q1 e1 hr1 rv=>⟨Δ,M1,_,sr.ext e1,hr1,q1,fun l M2 H2 q2 e2 hr2=>⟨Δ,M2,_,(sr.ext e1).ext e2,hr2,q2,fun u M3 H3 ⟨z,ez,q3⟩ e3 hr3=>?_⟩⟩⟩;have rr:=((rv.ext e2).ext e3).rd hr3;have ee:=(e1.trans e2).trans e3;have kk:∀w H',Ext M3 H3 M3 H'->HR X.K M3 H'->Rep X.K M3 H' z w->Q w H':=fun w H' e4 hr4 r4=>k z M3 w H' q3 (ee.trans e4) hr4 r4;generalize rdM M3 x=d at rr ez;cases d with
 |lst ds =>
  cases ez;obtain⟨a,vs,rfl,sq,rl⟩:=rr;refine .inl ⟨a,vs,rfl,SqL.of sq,fun p hp=>cU hr3 hp ?_ kk⟩;unfold cD jD;rw[<-rl.length];exact(rl.drop _).take _
 |scr ds =>
  cases ez;obtain⟨a,vs,rfl,sq,rl⟩:=rr;refine .inl ⟨a,vs,rfl,sq,fun p hp=>cU hr3 hp ?_ kk⟩;unfold cD jD;rw[<-rl.length];exact(rl.drop _).take _
 |str s =>
  simp only[slE,slD]at ez
  by_cases hz:s.length<=A0
  ·rw[if_pos hz]at ez;cases ez;exact .inr (.inr (.inl ⟨s,iW rr,hz,kk _ H3 (Ext.refl _ _) hr3 (by simp[Rep])⟩))
  ·rw[if_neg hz]at ez;cases ez
 |tup ds =>
  cases ez;have rt:=aA.tup hr3 rr;obtain⟨a,vs,rfl,sq,rl⟩:=rr
  by_cases hw:HT.sIx ds.length 0 l=0/\HT.sIx ds.length ds.length u=ds.length
  ·refine .inr (.inr (.inr ⟨a,vs,rfl,sq,by rw[<-rl.length];exact hw,kk _ H3 (Ext.refl _ _) hr3 ?_⟩));rw[mH hw];exact rt
  ·refine .inr (.inl ⟨a,vs,rfl,sq,by rw[<-rl.length];exact hw,fun p hp=>jN hr3 hp ?_ kk⟩);unfold cD jD;rw[<-rl.length];exact(rl.drop _).take _
 |_=>cases ez
section
variable{X:Cx}{ay:List Q7}{t:TSd}{e:B4}{tt:TTd}
theorem sO(h:QSs X ay t):uB X ay t:=by
 rw[QSs.eq]at h;exact h
theorem oO(h:QWd X e tt):QTd X e tt:=by
 simp only[QWd.eq,QTd.eq]at *
 exact PWd.pt h
end
end L2
namespace L2
open PySem PySem.Spec PyProof.Rows PySem.Builtin.Str
end L2
namespace L2
open PySem PySem.Spec PyProof.Rows
def Few(n:Int):Prop:=C6.Int.intBits n<=2 ^ 20
end L2
namespace Att
open PySem PySem.W PySem.Calls PyProof.Rows
end Att
namespace L2
open PySem PySem.Spec PyProof.Rows
section
variable{X:Cx}{pos:Pos}
instance (n:Int):Decidable (Few n):=by unfold Few;exact inferInstance
def rM(i j:Int):Prop:=fS i j∨(Few i/\Few j)
instance:∀i j,Decidable (rM i j):=fun i j=>Classical.propDecidable _
theorem rM.ok{i j:Int}(h:rM i j):IntMulOk i j:=by
 rcases h with h|⟨a,b⟩
 ·exact h.ok
 ·exact .of_bits a b
def dmD:List D->Option D
 |[.int i,.int j]=>if kP i j then some (.tup [.int (i / j),.int (i % j)])else none
 |_=>none
noncomputable def Aw:List D->Option D
 |[.int i,.int j]=>some (.int (if j > i then j else i))
 |_=>none
end
open AutoSeq1 (wpAny_loadPart')
section
variable{prog:B9}{w:E6}{A:D7}{E:u8->v0->Prop}{s:v0}
end
def yT(b:Bool) (h:C5) (it a:A8) (i:Nat):Prop:=match b with|true=>h.IsTupleIter it a i|false=>h.IsListIter it a i
def AQ(b:Bool):String:=match b with|true=>"tuple_iterator" |false=>"list_iterator"
theorem yT.of{b:Bool}{h:C5}{it a:A8}{i:Nat}(st:∃o,h.get? it=some o/\o.cls=.type (AQ b)/\o.data=.fields #[.ref a,.int i 0]):yT b h it a i:=by
 cases b<;>exact st
theorem dY.upd{X:Cx}{aa:List (A8×Obj)}{H:Hp}{b T:A8}{o:HO}(f:dY X aa H b) (h:b≠T):dY X aa (upd H T o) b:=by
 obtain⟨f0,r⟩:=f;exact⟨by rw[ax h];exact f0,r⟩
section
variable{X:Cx}{pos:Pos}
theorem vZ{i j:Int}:dmD [.int i,.int j]=if kP i j then some (.tup [.int (i / j),.int (i % j)])else none:=rfl
theorem sV{i j:Int}:Aw [.int i,.int j]=some (.int (if j > i then j else i)):=rfl
theorem qW:iO 10 60=True:=by simp[iO]
end
section
variable{X:Cx}{e:B4}{te ts:TEd}{pos:Pos}
end
section
variable{κ:Type} [DecidableEq κ]
noncomputable def cj(kvs:List (κ×D)) (k:κ):Option D:=(kvs.find? fun kv=>decide (kv.1=k)).map (·.2)
noncomputable def mf(kvs:List (κ×D)) (k:κ) (v:D):List (κ×D) :=
 if(kvs.any fun kv=>decide (kv.1=k))=true then kvs.map (fun kv=>if kv.1=k then(kv.1,v)else kv)else kvs++[(k,v)]
theorem bz{p:κ×D}{r:List (κ×D)}{k:κ}(e:p.1=k):cj (p::r) k=some p.2:=by simp[cj,F1,e]
theorem bx{p:κ×D}{r:List (κ×D)}{k:κ}(e:¬ p.1=k):cj (p::r) k=cj r k:=by simp[cj,F1,e]
theorem iu(k:κ):∀kvs:List (κ×D),(kvs.any fun kv=>decide (kv.1=k))=(cj kvs k).isSome
 |[]=>rfl
 |p::r=>by
  rw[E8]
  by_cases e:p.1=k
  ·simp only[bz e,decide_eq_true e,Bool.true_or,Option.isSome_some]
  ·rw[bx e,decide_eq_false e,Bool.false_or];exact iu k r
theorem kG(k j:κ) (y:D):∀kvs:List (κ×D),cj (kvs.map fun kv=>if kv.1=k then(kv.1,y)else kv) j=(cj kvs j).map fun x=>if j=k then y else x
 |[]=>rfl
 |p::r=>by
  have ih:=kG k j y r;rw[D6]
  by_cases h:p.1=k
  ·rw[if_pos h]
   by_cases e:p.1=j
   ·rw[bz (p:=(p.1,y)) e,bz e,O6,if_pos (e.symm.trans h)]
   ·rw[bx (p:=(p.1,y)) e,bx e,ih]
  ·rw[if_neg h]
   by_cases e:p.1=j
   ·rw[bz (p:=p) e,bz e,O6,if_neg (fun z=>h (e.trans z))]
   ·rw[bx (p:=p) e,bx e,ih]
theorem jo(k j:κ) (y:D):∀kvs:List (κ×D),cj kvs k=none->cj (kvs++[(k,y)]) j=if j=k then some y else cj kvs j
 |[],_=>by
  by_cases e:k=j
  ·rw[if_pos e.symm];exact bz (p:=(k,y)) e
  ·rw[if_neg (fun z=>e z.symm)];exact bx (p:=(k,y)) e
 |p::r,hn=>by
  rw[List.cons_append];have hk:¬ p.1=k:=fun z=>by rw[bz z]at hn;cases hn
  rw[bx hk]at hn;have ih:=jo k j y r hn
  by_cases e:p.1=j
  ·rw[bz e,bz e,if_neg (fun z=>hk (e.trans z))]
  ·rw[bx e,bx e,ih]
theorem eV(kvs:List (κ×D)) (k j:κ) (y:D):cj (mf kvs k y) j=if j=k then some y else cj kvs j:=by
 unfold mf
 by_cases a:(kvs.any fun kv=>decide (kv.1=k))=true
 ·rw[if_pos a,kG];rw[iu]at a
  by_cases e:j=k
  ·obtain⟨x,hx⟩:=F9.mp a;rw[if_pos e,e,hx,O6,if_pos rfl]
  ·rw[if_neg e];cases cj kvs j with
   |none=>rfl
   |some x=>rw[O6,if_neg e]
 ·rw[if_neg a];refine jo k j y kvs ?_;rw[iu]at a;cases q:cj kvs k with
  |none=>rfl
  |some x=>rw[q]at a;exact(a rfl).elim
theorem gj(kvs:List (κ×D)) (k:κ) (v:D):(mf kvs k v).length<=kvs.length+1:=by
 unfold mf
 split
 ·rw[L8];omega
 ·rw[C8,N7,List.length_nil];omega
variable{K:o0}{M:DH}{H:Hp}
theorem KR.val{kvs:List (κ×D)}{ks:List (κ×V)}(h:KR K M H kvs ks) (k:κ):(∀d,cj kvs k=some d->∃v,eR ks k=some v/\Rep K M H d v)/\(eR ks k).isSome=(cj kvs k).isSome:=by
 unfold KR at h
 induction h with
 |nil=>exact⟨fun d e=>(nomatch e),rfl⟩
 |@cons p q ps qs r t ih =>
  by_cases e:p.1=k
  ·rw[bz e,eT (r.1.symm.trans e)];exact⟨fun d z=>(by cases z;exact⟨_,rfl,r.2⟩),rfl⟩
  ·rw[bx e,fh (fun z=>e (r.1.trans z))];exact ih
theorem KR.any{kvs:List (κ×D)}{ks:List (κ×V)}(h:KR K M H kvs ks) (k:κ):(ks.any fun kv=>decide (kv.1=k))=kvs.any fun kv=>decide (kv.1=k):=by
 unfold KR at h
 induction h with
 |nil=>rfl
 |cons r _ ih=>rw[E8,E8,ih,r.1]
theorem KR.length{kvs:List (κ×D)}{ks:List (κ×V)}(h:KR K M H kvs ks):kvs.length=ks.length:=P3 h
theorem KR.put{kvs:List (κ×D)}{ks:List (κ×V)}(h:KR K M H kvs ks) (k:κ) {d:D}{v:V}(r:Rep K M H d v):KR K M H (mf kvs k d) (eK ks k v):=by
 unfold mf eK;rw[h.any k]
 by_cases e:(kvs.any fun kv=>decide (kv.1=k))=true
 ·rw[if_pos e,if_pos e];clear e;unfold KR at h ⊢
  induction h with
  |nil=>exact .nil
  |@cons p q ps qs r1 t ih =>
   rw[D6,D6];refine .cons ?_ ih
   by_cases e:p.1=k
   ·rw[if_pos e,if_pos (r1.1.symm.trans e)];exact⟨r1.1,r⟩
   ·rw[if_neg e,if_neg (fun z=>e (r1.1.trans z))];exact r1
 ·rw[if_neg e,if_neg e];exact F2.snoc h ⟨rfl,r⟩
end
def kD:Key->D
 |.inl i=>.int i
 |.inr x=>.str x
theorem xy{K:o0}{M:DH}{H:Hp}{k:Key}{v:V}(h:Rep K M H (kD k) v):v=kV k:=by
 cases k<;>simpa[kD,Rep,kV]using h
theorem jU{K:o0}{M:DH}{H:Hp}:∀{ks:List Key}{vs:List V},ag K M H (ks.map kD) vs->vs=ks.map kV
 |[],_,h=>by simpa[ag]using h
 |k::ks,_,h=>by
  simp only[D6,ag]at h;obtain⟨v,ws,rfl,h1,h2⟩:=h;rw[xy h1,jU h2];rfl
section
variable{X:Cx}{a b c e o i:B4}{es:List B4}{te to ti ta tb:TEd}{t:TAd}{pos:Pos}
def dDT:TEd:=fun _ M Q=>∀p,M p=none->Q (.ref p) (aD M p (.dT []))
def uX(to:TEd) (t:TAd):TEd:=fun Δ M Q=>to Δ M fun x M1=>t Δ M1 fun ds M2=>∃a kvs ks d,x=.ref a/\M2 a=some (.dT kvs)/\ds=ks.map kD/\ds.length<=A0/\cj kvs ks=some d/\Q d M2
def u9(to:TEd) (t:TAd) (te:TEd):TSd:=fun E Δ M=>te Δ M fun d M1=>to Δ M1 fun x M2=>t Δ M2 fun ds M3=>ds.length<=A0/\∃a kvs ks,x=.ref a/\M3 a=some (.dT kvs)/\ds=ks.map kD/\kvs.length<A0/\E.nx Δ (aD M3 a (.dT (mf kvs ks d)))
end
section
variable{X:Cx}{a b c e o:B4}{es:List B4}{te to:TEd}{t:TAd}{pos:Pos}{tg:B4}
noncomputable def Ah:List D->Option D
 |[.int i,.int j]=>some (.int (if j<i then j else i))
 |_=>none
def zZ(to te:TEd):TEd:=fun Δ M Q=>to Δ M fun o M1=>∃a l,o=.ref a/\M1 a=some (.lst l)/\te Δ M1 fun d M2=>∃ds ys,d=.lst ys/\M2 a=some (.lst ds)/\ds.length+ys.length<=A0/\Q .non (aD M2 a (.lst (ds++ys)))
end
structure z0(X:Cx) (scope:M9) (cl:List (Str×A8)) (ms:List Bool) (ai:List Str):Prop where
 kind:scope.kind=.function
 names:∀y∈scope.names,y.2=.local->scope.names.lookup y.1=some .local
 cellN:∀y∈scope.names,y.2=.cell->scope.names.lookup y.1=some .cell
 clos:closureFor scope X.env=O9 cl
 sub:∀x c,cl.lookup x=some c->X.env.cells.lookup x=some c
 fre:∀x c,cl.lookup x=some c->scope.names.lookup x=some .free
 has:∀x,scope.names.lookup x=some .free->∃c,cl.lookup x=some c
 fr:∀x,scope.names.lookup x=some .free->X.env.scope.names.lookup x=some .cell∨X.env.scope.names.lookup x=some .free
 mask:∀(i:Nat) (x:Str),ms[i]?=some true->X.N[i]?=some x->scope.names.lookup x=some .free
 mlen:ms.length<=X.N.length
section
variable{X:Cx}{tg iter elt:B4}{pos:Pos}{scope:M9}{cl:List (Str×A8)}{ms:List Bool}{ai:List Str}{ifs:List B4}
end
end L2
namespace L2
open PySem PySem.W PyProof.Rows
section
variable{α β:Type}
variable{O:KeyOrd}{key:Nat->O.α}{n:Nat}
noncomputable def kp(O:KeyOrd) (key:Nat->O.α) (p:Array Nat) (i:Nat):O.α:=key (p.getD i 0)
def A2(n:Nat) (p:Array Nat):Prop:=p.toList.Perm (List.range n)
end
end L2
namespace L2
open PySem PySem.W PySem.Calls PyProof.Rows
section
variable{prog:Program}{w:World}{A:Around}{E:Value->Shared->Prop}{O:KeyOrd}
def nU(x:Addr) (s t:Shared):Prop:=∀b o,b≠x->s.heap.get? b=some o->t.heap.get? b=some o
end
end L2
namespace L2
open PySem PySem.Spec PyProof.Rows
theorem Ak{X:Cx}{pos:Pos}:QEd X (.Dict [] [] pos) dDT:=by
 simp only[QEd.eq]at *
 exact PE.conv qp fun σ H Q hup=>hup.el fun Δ M R sr hr q k=>fun p hp =>
  k _ _ _ _ (q p (hr.fresh hp)) (Ext.own hp) (hr.put (Ext.own hp) ⟨[],aC,.nil⟩) (by simp only[Rep])
theorem jY{X:Cx}{o:Expr}{es:List Expr}{to:TEd}{t:TAd}{pos:Pos}{x1}{p:Pos}(hu:X.A.units+1<cLine) (ho:QEd X o to) (ht:QAd X es t) (hs:vw (.Tuple es x1 p)):QEd X (.Subscript o (.Tuple es x1 p) pos) (uX to t):=by
 simp only[QEd.eq,QAd.eq]at *
 exact PE.conv (sR hu ho (nc ht) hs) fun σ H Q hup=>hup.el fun Δ M R sr hr q k=>⟨Δ,M,_,sr,hr,q,fun x M1 v H1 q1 e1 hr1 rv=>⟨Δ,M1,_,sr.ext e1,hr1,q1,fun ds M2 us H2 ⟨a,kvs,ky,d,ex,em,ey,ez,ed,q2⟩ e2 hr2 ru=>by
   subst ex;subst ey;simp only[Rep]at rv;subst rv;refine⟨by rw[<-ru.length];exact ez,fun p hp=>?_⟩;obtain⟨ks,h2,kr⟩:=hr2 a _ em;obtain⟨w,hw,rw_⟩:=(kr.val ky).1 d ed;have hap:a≠p:=aX h2 hp;refine⟨a,w,rfl,?_,k d M2 w _ q2 ((e1.trans e2).trans (Ext.new hr2 hp)) (hr2.new hp) (rw_.ext (Ext.new hr2 hp))⟩;rw[<-hw];refine kL.t (by rw[ax hap];exact h2) ?_;rw[aC,jU ru]⟩⟩
theorem qD{X:Cx}{e:Expr}{o:Expr}{es:List Expr}{te:TEd}{to:TEd}{t:TAd}{pos:Pos}{x1}{p p2:Pos}(hu:X.A.units+1<cLine) (ho:QEd X o to) (ht:QAd X es t) (he:QEd X e te) (hs:swapsWith e (some (.Subscript o (.Tuple es x1 p2) p)) pos.line X.env=pure false:=by rfl):QSd X (.Assign [.Subscript o (.Tuple es x1 p2) p] e pos) (u9 to t te):=by
 simp only[QEd.eq,QAd.eq,QSd.eq]at *
 exact PS.conv (uq hu ho (nc ht) he hs) fun D σ H hup=>hup.el fun Δ M E sr hr q k=>⟨Δ,M,_,sr,hr,q,fun d M1 v H1 q1 e1 hr1 rv=>⟨Δ,M1,_,sr.ext e1,hr1,q1,fun x M2 u H2 q2 e2 hr2 ru=>⟨Δ,M2,_,(sr.ext e1).ext e2,hr2,q2,fun ds M3 ws H3 ⟨hl,a,kvs,ky,ex,em,ey,hz,q3⟩ e3 hr3 rw_=>by
   subst ex;subst ey;simp only[Rep]at ru;subst ru;refine⟨by rw[<-rw_.length];exact hl,fun p hp=>?_⟩;obtain⟨ks,h3,kr⟩:=hr3 a _ em;have hap:a≠p:=aX h3 hp;have e4:Ext M3 H3 M3 (upd H3 p (.tup ws)):=Ext.new hr3 hp;have hr4:=hr3.new (o:=.tup ws) hp;have ew:Ext M3 (upd H3 p (.tup ws)) (aD M3 a (.dT (mf kvs ky d))) (upd (upd H3 p (.tup ws)) a (.dT (eK ks ky v))):=Ext.write em;have h4:upd H3 p (.tup ws) a=some (.dT ks):=by rw[ax hap];exact h3
   refine⟨a,_,rfl,mG.t h4 (by rw[aC,jU rw_]) (by rw[<-kr.length];exact hz),?_⟩;exact k.nx Δ _ σ _ q3 ((((e1.trans e2).trans e3).trans e4).trans ew) (hr4.put ew ⟨_,aC,((kr.ext e4).put ky (((rv.ext e2).ext e3).ext e4)).ext ew⟩) (((((sr.ext e1).ext e2).ext e3).ext e4).ext ew)⟩⟩⟩
theorem yh{X:Cx}{e:Expr}{o:Expr}{te:TEd}{to:TEd}{fw bI:Pos}(ho:QEd X o to) (he:QEd X e te) (lw:attributeBase o "extend" X.env (eval o X.env)=eval o X.env:=by rfl)
  (hse:starEach [e] X.env=(false,eval e X.env)::starEach [] X.env:=by rfl)
  (qr:((backTo bI (starEach [e] X.env)).all (fun x => !x.1) && (backToKw bI (keywordEach [] X.env)).all (fun x => x.1.isSome)
  &&decide ([e].length+([]:List Keyword).length+(if([]:List Keyword).isEmpty then 0 else 1)<30))=true:=by rfl)
  (lF:(fw.endLine==bI.line)=true:=by rfl) (ig:(backTo bI (starEach [] X.env)).any (·.1)=false:=by rfl):QEd X (.Call (.Attribute o "extend" fw) [e] [] bI) (zZ to te):=by
 simp only[QEd.eq]at *
 exact(vp PySem.F.plainAttrs_list PySem.F.slot_list_extend PySem.F.type_list_extend (show MtR X "list.extend" om from pF) ho (eZ he kc hse) lw qr lF hse ig).conv fun σ H Q hup=>hup.el fun Δ M R sr hr q k=>⟨Δ,M,_,sr,hr,q,fun o M1 ov H1 ⟨a,l,eo,em,q1⟩ e1 hr1 ro=>by
   subst eo;simp only[Rep]at ro;subst ro;obtain⟨vs,hv,rl⟩:=hr1 a _ em;refine⟨.inl ⟨rfl,vs,SqL.of hv⟩,Δ,M1,_,sr.ext e1,hr1,q1,fun d M2 v H2 ⟨ds,ys,ed,em2,hz,q2⟩ e2 hr2 rv=>?_⟩;subst ed;simp only[Rep]at rv;obtain⟨b,zs,rfl,hb,rz⟩:=rv;obtain⟨ws,hw,rl2⟩:=hr2 a _ em2;refine⟨a,b,ws,zs,rfl,rfl,hw,hb.1,by rw[<-rl2.length,<-rz.length];exact hz,k _ _ _ _ q2 ((e1.trans e2).trans (Ext.write em2)) (hr2.write em2 (rl2.append rz)) (by simp[Rep])⟩⟩
theorem bY.units1{k:Nat}{A:Around}(r:bY k A):A.units+1<cLine:=by have:=r.un;omega
theorem zR{i:Int}{P:Key->Prop}:(∃k,D.int i=kD k/\P k)↔P (.inl i) :=
 ⟨fun⟨k,e,h⟩=>match k,e with|.inl _,rfl=>h,fun h=>⟨_,rfl,h⟩⟩
theorem y8{x:Str}{P:Key->Prop}:(∃k,D.str x=kD k/\P k)↔P (.inr x) :=
 ⟨fun⟨k,e,h⟩=>match k,e with|.inr _,rfl=>h,fun h=>⟨_,rfl,h⟩⟩
theorem xa:∀{a b:Key},kD a=kD b->a=b
 |.inl _,.inl _,h=>by cases h;rfl
 |.inr _,.inr _,h=>by cases h;rfl
 |.inl _,.inr _,h=>by cases h
 |.inr _,.inl _,h=>by cases h
theorem oi:∀{a b:List Key},a.map kD=b.map kD->a=b
 |[],[],_=>rfl
 |[],_::_,h=>by cases h
 |_::_,[],h=>by cases h
 |x::xs,y::ys,h=>by
  simp only[List.map_cons,List.cons.injEq]at h;rw[xa h.1,oi h.2]
theorem uN{a b:Key}{P:List Key->Prop}:(∃ks:List Key,[kD a,kD b]=ks.map kD/\P ks)↔P [a,b] :=
 ⟨fun⟨ks,e,h⟩=>by rw[oi (a:=[a,b]) (b:=ks) (by simpa using e)];exact h,fun h=>⟨_,rfl,h⟩⟩
theorem vN{i j:Int}{P:List Key->Prop}:(∃ks:List Key,[D.int i,D.int j]=ks.map kD/\P ks)↔P [.inl i,.inl j]:=uN (a:=.inl i) (b:=.inl j)
theorem xj{i j:Str}{P:List Key->Prop}:(∃ks:List Key,[D.str i,D.str j]=ks.map kD/\P ks)↔P [.inr i,.inr j]:=uN (a:=.inr i) (b:=.inr j)
theorem sN{i j:Int}:Ah [.int i,.int j]=some (.int (if j<i then j else i)):=rfl
abbrev BKd:=DE->DH->List D->(List D->DE->DH->Prop)->Prop
def dq(g:GD) (tc:TTd) (B:BKd):List D->DE->DH->List D->(List D->DE->DH->Prop)->Prop
 |[],Δ,M,acc,Q=>Q acc Δ M
 |d::ds,Δ,M,acc,Q=>∃ Δ',g d Δ=some Δ'/\tc Δ' M fun b M1=>if b=true then B Δ' M1 acc fun acc' Δ'' M2=>acc'.length<=sizeLine/\dq g tc B ds Δ'' M2 acc' Q else dq g tc B ds Δ' M1 acc Q
def mw(te:TEd):BKd:=fun Δ M acc Q=>te Δ M fun y M2=>Q (acc++[y]) Δ M2
def mC(wi:TId) (g:GD) (tc:TTd) (B:BKd):BKd:=fun Δ M acc Q=>wi Δ M fun es M2=>dq g tc B es Δ M2 acc Q
def upB(K:PySem.W.Frag) (b:BKd):BK:=fun ys σ H Z=>∃(Δ:DE) (M:DH) (acc:List D) (R:List D->DE->DH->Prop),SR K M H σ Δ/\HR K M H/\ag K M H acc ys/\acc.length<=sizeLine/\b Δ M acc R /\
 ∀acc' Δ' M' ys' σ' H',R acc' Δ' M'->Ext M H M' H'->HR K M' H'->SR K M' H' σ' Δ'->ag K M' H' acc' ys'->Z ys' σ' H'
section
variable{K:PySem.W.Frag}{g:GD}{gv:TG}{tc:TTd}{te:TEd}{wi:TId}{Bd:BKd}{B:BK}
theorem uw{ys:List V}{σ:St}{H:Hp}{Z:List V->St->Hp->Prop}(h:upB K (mw te) ys σ H Z):ik (up K te) ys σ H Z:=by
 obtain⟨Δ,M,acc,R,sr,hr,ra,_,q,k⟩:=h;exact⟨Δ,M,_,sr,hr,q,fun d M' v H' q1 e1 hr1 rv=>k _ _ _ _ _ _ q1 e1 hr1 (sr.ext e1) ((ra.ext e1).append (ag.cons rv ag.nil))⟩
theorem nI(kg:i9 K g gv) (hB:∀{ys σ H Z},upB K Bd ys σ H Z->B ys σ H Z) {J:It}{es:List D}{M5:DH}{H5:Hp}(it5:ItD K J es M5 H5) (hr5:HR K M5 H5) {Δ:DE}{acc:List D}{R:List D->DE->DH->Prop}{ys:List V}{σ:St}{Z:List V->St->Hp->Prop}
  (sr:SR K M5 H5 σ Δ) (ra:ag K M5 H5 acc ys) (la:acc.length<=sizeLine) (q:dq g tc Bd es Δ M5 acc R)
  (k:∀acc' Δ' M' ys' σ' H',R acc' Δ' M'->Ext M5 H5 M' H'->HR K M' H'->SR K M' H' σ' Δ'->ag K M' H' acc' ys'->Z ys' σ' H') :
  ∃W:Nat->Nat->List V->St->Hp->Prop,(∃m,W 0 m ys σ H5)/\fM J gv (upT K tc) B W Z:=by
 refine⟨fun j m ys' σ' H'=>∃ Δ' M' acc',m=es.length-j/\j<=es.length/\Ext M5 H5 M' H'/\HR K M' H'/\SR K M' H' σ' Δ'/\ag K M' H' acc' ys'/\acc'.length<=sizeLine/\dq g tc Bd (es.drop j) Δ' M' acc' R,
  ⟨es.length,Δ,M5,acc,by simp,Nat.zero_le _,Ext.refl _ _,hr5,sr,ra,la,q⟩,?_⟩
 rintro j m ys' σ6 H6 ⟨Δ6,M6,acc6,rfl,hj,e6,hr6,sr6,ra6,la6,f6⟩;refine⟨by rw[<-ra6.length];exact la6,?_⟩;obtain⟨go2,stop2⟩:=it5 M6 H6 e6 hr6 j
 by_cases hlt2:j<es.length
 ·have hd2:es[j]?=some es[j]:=by simp[hlt2]
  obtain⟨g2,y2⟩:=go2 _ hd2;rw[List.drop_eq_getElem_cons hlt2]at f6;simp only[dq]at f6;obtain⟨Δ7,eg7,f7⟩:=f6;refine .inr ⟨g2,fun x7 H7 hy7=>?_⟩;obtain⟨e7,hr7,rx7⟩:=y2 x7 H7 hy7;refine kg _ x7 σ6 Δ6 Δ7 M6 H7 _ (sr6.ext e7) hr7 rx7 eg7 fun σ7 sr7=>?_;refine⟨Δ7,M6,_,sr7,hr7,f7,fun b M8 H8 q8 e8 hr8=>?_⟩;cases b with
  |true =>
   simp only[if_true]at q8 ⊢;refine hB ⟨Δ7,M8,acc6,_,sr7.ext e8,hr8,(ra6.ext e7).ext e8,la6,q8,?_⟩;rintro acc' Δ' M' ys9 σ' H' ⟨hz9,q9⟩ e9 hr9 sr9 ra9;exact⟨es.length-(j+1),by omega,Δ',M',acc',rfl,hlt2,((e6.trans e7).trans e8).trans e9,hr9,sr9,ra9,hz9,q9⟩
  |false =>
   simp only[Bool.false_eq_true,if_false]at q8 ⊢;exact⟨es.length-(j+1),by omega,Δ7,M8,acc6,rfl,hlt2,(e6.trans e7).trans e8,hr8,sr7.ext e8,(ra6.ext e7).ext e8,la6,q8⟩
 ·rw[List.drop_eq_nil_of_le (by omega)]at f6;simp only[dq]at f6;exact .inl ⟨stop2 (by omega),k _ _ _ _ _ _ f6 e6 hr6 sr6 ra6⟩
theorem tu(kg:i9 K g gv) (hB:∀{ys σ H Z},upB K Bd ys σ H Z->B ys σ H Z) {ys:List V}{σ:St}{H:Hp}{Z:List V->St->Hp->Prop}(h:upB K (mC wi g tc Bd) ys σ H Z):qV (upI K wi) gv (upT K tc) B ys σ H Z:=by
 obtain⟨Δ,M,acc,R,sr,hr,ra,la,q,k⟩:=h;exact⟨Δ,M,_,sr,hr,q,fun es M2 J H2 q2 e2 hr2 it2=>nI kg hB it2 hr2 (sr.ext e2) (ra.ext e2) la q2 fun a1 a2 a3 a4 a5 a6 b1 b2=>k a1 a2 a3 a4 a5 a6 b1 (e2.trans b2)⟩
end
def w9(ms:List Bool) (k:Nat) (w0:TId) (g0:GD) (tc0:TTd) (B:BKd):TEd:=fun Δ M Q=>w0 Δ M fun ds M1=>dq g0 tc0 B ds (me ms k Δ) M1 [] fun ys _ M2=>Q (.lst ys) M2
theorem r0{K:PySem.W.Frag}{w0:TId}{g0:GD}{tc0:TTd}{gv0:TG}{Bd:BKd}{B:BK}{ms:List Bool}{kk:Nat}(kg:i9 K g0 gv0) (hB:∀{ys σ H Z},upB K Bd ys σ H Z->B ys σ H Z):∀ σ H Q,up K (w9 ms kk w0 g0 tc0 Bd) σ H Q->tO ms kk (upI K w0) gv0 (upT K tc0) B σ H Q:=by
 rintro σ H Q ⟨Δ,M,R,sr,hr,q,k⟩;refine⟨Δ,M,_,sr,hr,q,fun ds M1 J H1 q1 e1 hr1 it=>?_⟩;obtain⟨W,hW,hC⟩:=nI (Z:=fun ys' _ H'=>∃M' acc,Ext M1 H1 M' H'/\HR K M' H'/\ag K M' H' acc ys'/\R (.lst acc) M') kg hB it hr1 ((sr.ext e1).comp ms kk) ag.nil (Nat.zero_le _) q1
  (fun acc' Δ' M' ys' σ' H' q' e' hr' _ ra'=>⟨M',acc',e',hr',ra',q'⟩)
 refine⟨W,_,hW,hC,?_⟩;rintro ys σ' H' p ⟨M',acc,e',hr',ra,q'⟩ hp;refine k _ M' _ _ q' ((e1.trans e').trans (Ext.new hr' hp)) (hr'.new hp) ?_;simp only[Rep];exact⟨p,ys,rfl,⟨aC,hr'.fresh hp⟩,ra.ext (Ext.new hr' hp)⟩
abbrev A1(elt t0 i0 t1 i1:Expr) (f0 f1:List Expr) (scope:Scope) (pos:Pos):Expr:=.ListComp elt [⟨t0,i0,f0,0⟩,⟨t1,i1,f1,0⟩] scope pos
def xK(ms:List Bool) (k:Nat) (w0:TId) (g0:GD) (tc0:TTd) (wi:TId) (g:GD) (tc:TTd) (te:TEd):TEd:=w9 ms k w0 g0 tc0 (mC wi g tc (mw te))
section
variable{X:Cx}{scope:Scope}{cl:List (Str×Addr)}{ms:List Bool}{ai:List Str}{elt t0 i0 t1 i1:Expr}{f0 f1:List Expr}{pos:Pos}
theorem wX{w1:TI}{g1:TG}{tc1:TT}{te:TE}(hi1:∀C s H ex,PI (av X scope cl (X.N++ai) C s H ex) t1 i1 w1) (hg1:∀C s H ex,PG (av X scope cl (X.N++ai) C s H ex) t1 g1) (hif1:∀C s H ex,PIf (av X scope cl (X.N++ai) C s H ex) f1 tc1) (he:∀C s H ex,PE (av X scope cl (X.N++ai) C s H ex) elt te)
  (hs1:∀C x,foldedSetIterable i1 (compEnvC scope cl C X.env) x=pure x):LvC X scope cl ai (lcE elt [⟨t0,i0,f0,0⟩,⟨t1,i1,f1,0⟩] scope pos) i0.pos t0 f0 (qV w1 g1 tc1 (ik te)):=fun _ _ _ _ _ c =>
 tR c (nr (k:=1) (p:=i1.pos) c (he _ _ _ _) fun _ _ _=>rfl) (fun _ _ _=>rfl) (hs1 _) (hi1 _ _ _ _) (hg1 _ _ _ _) (hif1 _ _ _ _) fun _ _ _=>rfl
end
theorem yy{X:Cx}{scope:Scope}{cl:List (Str×Addr)}{ms:List Bool}{ai:List Str}{elt t0 i0 t1 i1:Expr}{f0 f1:List Expr}{pos:Pos}{w0 wi:TId}{g0 g:GD}{tc0 tc:TTd}{te:TEd}(S:c8 X scope cl ms ai) (dj:X.calm=true) (hi:QId X t0 i0 w0) (hg0:PGa X scope cl ai t0 g0)
  (hif0:∀C s H ex,QIf (av X scope cl (X.N++ai) C s H ex) f0 tc0) (hi1:∀C s H ex,QId (av X scope cl (X.N++ai) C s H ex) t1 i1 wi) (hg:PGa X scope cl ai t1 g) (hif:∀C s H ex,QIf (av X scope cl (X.N++ai) C s H ex) f1 tc) (he:∀C s H ex,QEd (av X scope cl (X.N++ai) C s H ex) elt te)
  (hs:∀x,foldedSetIterable i0 X.env x=pure x:=by intro _;rfl) (hs1:∀C x,foldedSetIterable i1 (compEnvC scope cl C X.env) x=pure x:=by intro _ _;rfl):QEd X (.ListComp elt [⟨t0,i0,f0,0⟩,⟨t1,i1,f1,0⟩] scope pos) (xK ms ai.length w0 g0 tc0 wi g tc te):=by
 simp only[QEd.eq,QId.eq,QIf.eq]at *
 obtain⟨gv0,pg0,kg0⟩:=hg0;obtain⟨gv,pg,kg⟩:=hg;exact(rm (tc:=upT X.K tc0) S dj hi pg0 hif0 (wX (w1:=upI X.K wi) (tc1:=upT X.K tc) (te:=up X.K te) hi1 pg hif he hs1) hs).conv (r0 kg0 fun h=>tu kg uw h)
@[irreducible] def tH(t:TSd):TSd:=t
theorem n5{t:TSd}:tH t=t:=by unfold tH;rfl
theorem cm{t:TSd}{E:dv}{Δ:DE}{M:DH}(h:t E Δ M):tH t E Δ M:=by rw[n5];exact h
theorem fq{X:Cx}{st:List Stmt}{t:TSd}(h:QSs X st t):QSs X st (tH t):=by rw[n5];exact h
theorem qX{K:Params->PySem.W.Frag}{as:List Addr}{n t:Nat}{q:Program}{loose:List Str}{XP:(Str->Option Value)->Heap->Prop}{r:PySem.W.RowW}{d:DefRec}{kwd:List (Str×Expr)}{run:Value->List Value->Sem Value}(hk:∀P,as=(K P).map (·.1))
  (h:PySem.W.WalkO q loose XP (fun w h=>(K w.params).In h) r d kwd run):PySem.W.WalkX q loose XP (PySem.W.X.obsZ as) (PySem.W.X.valZ K n t) r d kwd run:=by
 intro w s₀ s₁ mg mb G y a o pm cd doc dV kV ho hd hcd hD hmg hg args vals as' L hpre hlay hrd hwl hlo;refine h w s₀ s₁ mg mb G (fun b u hu=>L.keeps b u ?_) a o pm cd doc dV kV ho hd hcd hD hmg hg args vals as' hpre hlay hrd hwl hlo;have y1:as.map s₀.heap.get?=(K w.params).map fun p=>some p.2:=congrArg (·.1) y;rw[hk w.params,List.map_map]at y1;have key:∀(l:PySem.W.Frag),(l.map fun p=>s₀.heap.get? p.1)=l.map (fun p=>some p.2)->List.lookup b l=some u->s₀.heap.get? b=some u:=by
  intro l
  induction l with
  |nil=>intro _ z;cases z
  |cons p l ih =>
   intro e z;rw[List.map_cons,List.map_cons,List.cons.injEq]at e;rw[List.lookup_cons]at z
   by_cases c:b=p.1
   ·subst c;rw[beq_self_eq_true]at z;cases z;exact e.1
   ·rw[beq_eq_false_iff_ne.mpr c]at z;exact ih e.2 z
 exact key _ y1 hu
end L2
namespace L2
open PySem PySem.W PySem.Calls PyProof.Rows
end L2
namespace L2
open PySem PySem.Spec PyProof.Rows
section
variable{X:Cx}
end
section
variable{X:Cx}
def inF(x y:D):Option D:=match y with
 |.lst ds=>if dLe x 59=true/\cE ds 59=true then some (.bl (ds.any fun d=>eqD d x))else none
 |_=>none
theorem zK{x:D}{ds:List D}:inF x (.lst ds)=if dLe x 59=true/\cE ds 59=true then some (.bl (ds.any fun d=>eqD d x))else none:=rfl
end
section
variable{X:Cx}{a b e:Expr}{ta tb te:TEd}{pos:Pos}
section
open PySem.SeqAt PySem.MeetsSeq AutoSeq1
end
end
noncomputable def itN:Bool->String
 |true=>"tuple_iterator"
 |false=>"list_iterator"
def sqN:Bool->String
 |true=>"tuple"
 |false=>"list"
def xx(b:Bool) (h:Heap) (i l:Addr) (k:Nat):Prop:=∃o,h.get? i=some o/\o.cls=.type (itN b)/\o.data=.fields #[.ref l,.int k 0]
def wH(b:Bool) (h:Heap) (l:Addr) (xs:Array Value):Prop:=∃o,h.get? l=some o/\o.cls=.type (sqN b)/\∃n,o.data=.seq xs n
section
variable{prog:Program}{w:World}{A:Around}{E:Value->Shared->Prop}{s:Shared}{b c:Bool}
theorem xx.go{h h':Heap}{i l:Addr}{k:Nat}(x:xx b h i l k) (f:∀o,h.get? i=some o->h'.get? i=some o):xx b h' i l k:=let⟨o,e,r⟩:=x;⟨o,f o e,r⟩
theorem wH.go{h h':Heap}{l:Addr}{xs:Array Value}(x:wH b h l xs) (f:∀o,h.get? l=some o->h'.get? l=some o):wH b h' l xs:=let⟨o,e,r⟩:=x;⟨o,f o e,r⟩
end
section
variable{X:Cx}{scope:Scope}{cl:List (Str×Addr)}{ai:List Str}{tg:Expr}{pos:Pos}
end
section
variable{X:Cx}{e o:Expr}{es:List Expr}{te to:TEd}{t:TAd}{pos p pos':Pos}{f x:Str}{C:Addr}
structure MkD(P:Program) (w:World) (K:PySem.W.Frag) (mg:Str->Option Value) (base:Heap) (x:Str) (C:Addr) (k n:Nat) (S:SpD):Prop where
 ex:∃(f:Addr) (fd:FuncData) (ps:List Str),Mk K C f/\bw P w K mg base CX0 k f fd ps (spD K n S)/\mg x=some (.ref C)/\cS K fd ps []
end
section
variable{X:Cx}{e:Expr}{te:TEd}
def AN(kvs:List (Key×D)):D:=.box (.dk (kvs.map (·.1))) (kvs.map (·.2))
end
section
variable{X:Cx}{a b c e o i:Expr}{es:List Expr}{te ta tb to ti:TEd}{t:TAd}{pos:Pos}{tg iter:Expr}
end
def yN:D->Option D
 |.box (.dk ks) _=>some (.lst (ks.map kD))
 |_=>none
theorem uv{kvs:List (Key×D)}:yN (AN kvs)=some (.lst (kvs.map fun p=>kD p.1)):=by
 show some (D.lst ((kvs.map (·.1)).map kD))=_;rw[List.map_map];rfl
noncomputable def Ax:D->Option D
 |.int i=>some (.int i)
 |.bl k=>some (.int (if k then 1 else 0))
 |_=>none
theorem vA{k:Bool}:Ax (.bl k)=some (.int (if k then 1 else 0)):=rfl
noncomputable def ltS(a b:Str):Bool:=decide (a.cps.toList<b.cps.toList)
theorem rX{a b:Str}(h:a.cps.toList=b.cps.toList):a=b:=by
 cases a;cases b;simp only[Str.mk.injEq];exact Array.toList_inj.mp h
theorem tJ(a:Str):ltS a a=false:=decide_eq_false (List.lt_irrefl _)
theorem o3{a b c:Str}(h1:ltS a b=true) (h2:ltS b c=true):ltS a c=true:=decide_eq_true (List.lt_trans (of_decide_eq_true h1) (of_decide_eq_true h2))
theorem tZ{a b:Str}(h1:ltS a b=false) (h2:ltS b a=false):a=b :=
 rX (List.le_antisymm (List.not_lt.mp (of_decide_eq_false h2)) (List.not_lt.mp (of_decide_eq_false h1)))
section
variable{X:Cx}
end
section
variable{X:Cx}{e:Expr}{t:TEd}
def u0(t:TEd):TEd:=fun Δ M Q=>t (Δ.map (Option.map (rdM M))) noM fun d M2=>noL d=true/\M2=noM/\Q d M
theorem SR.lend{K:PySem.W.Frag}{M:DH}{H:Hp}{σ:St}{Δ:DE}(sr:SR K M H σ Δ) (hr:HR K M H):SR K noM H σ (Δ.map (Option.map (rdM M))):=by
 refine⟨by rw[List.length_map];exact sr.1,fun i d hd=>?_⟩;rw[List.getElem?_map]at hd;cases hx:Δ[i]? with
 |none=>rw[hx]at hd;cases hd
 |some o =>
  rw[hx]at hd;cases o with
  |none=>cases hd
  |some d0 =>
   have e0:rdM M d0=d:=by simpa using hd
   subst e0;obtain⟨v,ev,rv⟩:=sr.2 i d0 hx;refine⟨v,ev,?_⟩;have:=lZ hr LeM.no (k7 (ds:=[d0])) (ag.cons rv ag.nil);simp only[List.map_cons,List.map_nil,ag]at this;obtain⟨w,ws,q,h1,_⟩:=this;cases q;exact h1
theorem xl(h:QEd X e t):QEd X e (u0 t):=by
 simp only[QEd.eq]at *
 exact PE.conv h fun σ H Q hup=>hup.el fun Δ M R sr hr q k=>⟨_,noM,_,sr.lend hr,HR.nil,q,fun d M2 v H' ⟨hn,hM,q'⟩ e' hr' rv'=>by
  subst hM;have:=k d (dZ M noM noM) v H' (by rw[qm];exact q') (Ext.back LeM.no e') (hr.back LeM.no e' hr' (fun a l z=>nomatch z)) (Rep.hard hn rv' (bC hr LeM.no e' hr'));exact this⟩
end
section
variable{P:Program}{w:World}{K:PySem.W.Frag}{h base:Heap}{mg:Str->Option Value}{x qual:Str}{st:Stmt}{f:Addr}{fd:FuncData}{k:Nat}{S:SpD}
structure cW(K:PySem.W.Frag) (x:Str) (st:Stmt) (f:Addr) (fd:FuncData):Prop where
 a:PySem.W.nsIn K mainGlobals x=some (some (.ref f))
 F:Fun K x x st f fd
theorem zq{oc:Value}{od an:Option Addr}{osl:Array (Option Value)}{kV doc pm cdv ct:Value}(a:PySem.W.nsIn K mainGlobals x=some (some (.ref f))) (l:K.lookup f=some ⟨oc,od,.func (PySem.W.fnOf x x (cX st) (bW st) (ah st) .none kV doc pm an cdv ct),osl⟩)
  (c:PySem.W.codeIn K cdv x=true) (k:PySem.W.keepIn K (.ref f)=true):cW K x st f (PySem.W.fnOf x x (cX st) (bW st) (ah st) .none kV doc pm an cdv ct):=⟨a,qA l c k⟩
theorem usS{p:List Value->Prop}{n:Nat}(h:∀a us,us.length=n->p (a::us)):∀us:List Value,us.length=n+1->p us:=by
 intro us e;cases us with
 |nil=>cases e
 |cons a us=>exact h a us (Nat.succ.inj e)
theorem us0{p:List Value->Prop}(h:p []):∀us:List Value,us.length=0->p us:=by
 intro us e;cases us with
 |nil=>exact h
 |cons a us=>cases e
def Bd(x qual:Str) (st:Stmt) (ps:List Str) (us:List Value):Prop:=∀(kV doc pm:Value) (an:Option Addr) (cdv ct:Value),bindArgs (PySem.W.fnOf x qual (cX st) (bW st) (ah st) .none kV doc pm an cdv ct) ⟨us,[]⟩=pure (ps.zip us)
theorem qP{ps:List Str}(F:Fun K x qual st f fd) (b:∀us:List Value,us.length=ps.length->Bd x qual st ps us):cS K fd ps []:=F.binds fun kV doc pm an cdv ct us hl=>b us hl kV doc pm an cdv ct
variable{p1 p2 p3 p4 p5:Str}
theorem bd2(F:Fun K x qual st f fd) (b:∀a c,Bd x qual st [p1,p2] [a,c]):cS K fd [p1,p2] []:=qP F (usS fun a=>usS fun c=>us0 (b a c))
theorem bd3(F:Fun K x qual st f fd) (b:∀a c d,Bd x qual st [p1,p2,p3] [a,c,d]):cS K fd [p1,p2,p3] []:=qP F (usS fun a=>usS fun c=>usS fun d=>us0 (b a c d))
theorem bd4(F:Fun K x qual st f fd) (b:∀a c d e,Bd x qual st [p1,p2,p3,p4] [a,c,d,e]):cS K fd [p1,p2,p3,p4] []:=qP F (usS fun a=>usS fun c=>usS fun d=>usS fun e=>us0 (b a c d e))
theorem fg{ps:List Str}{n:Nat}(X:K.In h) (G:h.Ns mainGlobals mg) (i:cW K x st f fd) (o:bw P w K mg base CX0 k f fd ps (spD K n S)) (b:cS K fd ps []):FnD P w K mg base x k n S:=⟨_,_,_,o,PySem.W.mg_of X G i.a,i.F.kp,b⟩
theorem xE{fa:Addr}{sp:Sp}{lp:Program}(X:K.In h) (G:h.Ns mainGlobals mg) (hfa:mg "law"=some (.ref fa)) (i:cW K "law" st f fd) (b:∀a,Bd "law" "law" st [p1] [a]) (o:∀base:Heap,bw lp w K mg base CX0 k f fd [p1] sp) :
  ∃fd:FuncData,(∀(s:Shared) (v:Value),BindsTo s fd ⟨[v],[]⟩ [(p1,v)])/\∀base:Heap,K.In base->base.Ns mainGlobals mg->bw lp w K mg base CX0 k fa fd [p1] sp:=by
 have e:=hfa.symm.trans (PySem.W.mg_of X G i.a);cases e;refine⟨fd,fun s v=>?_,fun base _ _=>o base⟩;obtain⟨oc,od,kV,doc,pm,an,cdv,ct,osl,rfl,lk,hcd⟩:=i.F.ex;exact .of_eq (b v kV doc pm an cdv ct)
end
theorem nbh{op:CmpOp}{b:Expr}(h:op≠.In:=by decide) (h2:op≠.NotIn:=by decide):behindInMarks op b=false:=rH b h h2
theorem fsc{N P:List Str}{sc:Scope}(a:sc.kind=.function:=by exact rfl) (b:sc.isCoroutine=false:=by exact rfl) (c:sc.isGenerator=false:=by exact rfl) (d:N.Nodup:=by decide +kernel) (e:N.take P.length=P:=by exact rfl)
  (f:∀x∈P,sc.names.lookup x=some .local∨sc.names.lookup x=some .cell:=by decide +kernel) (g:∀y∈sc.names,y.2≠.free:=by decide +kernel):aB N P sc:=⟨a,b,c,d,e,f,g⟩
section
variable{X:Cx}{e:Expr}{es:List Expr}{t:TAd}{pos p:Pos}{x:Str}{j k n:Nat}{S:SpD}
theorem qd(F:FnD X.prog X.w X.K X.mg X.base x j n S) (hr:bY k X.A) (ha:QAd X (e::es) t) (h:j<=k:=by decide) (hg:Gl X x:=by exact rfl) (hdb:(x==("__debug__":Str))=false:=by decide) (he:starEach (e::es) X.env=(false,eval e X.env)::starEach es X.env:=by rfl) (hpl:(backTo pos (starEach es X.env)).any (·.1)=false:=by rfl) :
  QEd X (.Call (.Name x p) (e::es) [] pos) (lJ n S t):=qc F (hr.mono h) hg ha hdb he hpl
end
def txt:Value->Str|.str x _=>x|_=>default
section
variable{prog:Program}{w:World}{A:Around}{E:Value->Shared->Prop}{s:Shared}
noncomputable def byT(w:World):Bool:=w.params.followText "set-order"
def ElT(prog:Program) (w:World) (l:List (Int×Value)):Prop:=∀e∈l,∃x t,e=((strKind prog w).hash x,.str x t)
theorem ElT.of{l:List (Int×Value)}(h:ElT prog w l):ElemsOf (strKind prog w) l:=fun e he=>by
 obtain⟨x,t,rfl⟩:=h e he;exact⟨⟨x,strKind_is _ _ _ _,rfl⟩,rfl⟩
structure wm(prog:Program) (w:World) (h:Heap) (a:Addr) (o:Obj) (es:Array (Int×Value)) (ep:Nat) (t:SetTable):Prop where
 get:h.get? a=some o
 ex:o.ExactSet
 data:o.data=.set es ep t
 el:ElT prog w es.toList
 nd:(es.toList.map fun e=>txt e.2).Nodup
 room:es.size<scanBound
 fit:t.fits es.size=true
 led:t.led=!byT w
 pl:es.size≠0->t.plain=false
def yC(prog:Program) (w:World) (h:Heap) (a:Addr) (xs:List Str):Prop:=∃o es ep t,wm prog w h a o es ep t/\(es.toList.map fun e=>txt e.2).Perm xs
end
section
variable{prog:Program}{w:World}{A:Around}{E:Value->Shared->Prop}{s:Shared}
abbrev iU(w:World):Obj:={ cls:=.type "set",dict:=none,data:=.set #[] 0 (.fresh 0 0 (!byT w)) }
theorem qE(a:Value) {Q₁:Value->Shared->Prop}(h:Q₁ (.ref s.heap.objs.size) { s with heap:=s.heap.push (iU w) }) :
  codeAny (model prog w) A (.call (.builtin "set.__new__") ⟨[.type "set",a],[]⟩) (wants Q₁ E) s:=by
 refine codeAny_of_tree ?_;show wpAny _ A.in1 (do checkBuiltinCall "set.__new__" ⟨[.type "set",a],[]⟩;again (.builtin "set.__new__" ⟨[.type "set",a],[]⟩)) _ _ s;refine wpAny_bind (wpAny_of_eq (PySem.F.newCall_set_1 a) (wpAny_pure ⟨plainId_quiet PySem.F.plain_set_new _,codeAny_builtin PySem.F.entry_set_new ?_⟩));rw[Around.under_plainId PySem.F.plain_set_new _];unfold Builtin.«set.__new__» Builtin.Frozenset.newClass;have hsub:=sub_set_self;obtain⟨hp,g,d,tk,os⟩:=s;dsimp only
 wp_walk
 refine wpAny_askSetting (wpAny_pure ?_);dsimp only;simp only[newObj];refine wpAny_bind (wpAny_alloc (wpAny_pure ?_));exact wpAny_pure h
end
theorem fZ{α:Type}(f:Nat->Nat):∀(n k:Nat) (l:List α) (out:Array α),l.length=n->(pickOrder.go f n k l out).toList.Perm (out.toList++l)
 |0,k,l,out,h=>by
  have:l=[]:=List.length_eq_zero_iff.mp h;subst this;simp[pickOrder.go]
 |n+1,k,l,out,h=>by
  have hl:f k % l.length<l.length:=Nat.mod_lt _ (by omega);simp only[pickOrder.go,List.getElem?_eq_getElem hl];refine(fZ f n (k+1) _ _ (by rw[List.length_eraseIdx_of_lt hl];omega)).trans ?_;rw[Array.toList_push,List.append_assoc];refine List.Perm.append_left _ ?_;have z:l=l.take (f k % l.length)++l[f k % l.length]::l.drop (f k % l.length+1):=by rw[List.getElem_cons_drop];simp
  have e:l.eraseIdx (f k % l.length)=l.take (f k % l.length)++l.drop (f k % l.length+1):=List.eraseIdx_eq_take_drop_succ l _;rw[e];generalize l[f k % l.length]=x at z ⊢
  conv=>rhs;rw[z]
  rw[List.singleton_append];exact List.perm_middle.symm
theorem fN{α:Type}(f:Nat->Nat) (xs:Array α):(pickOrder f xs).toList.Perm xs.toList:=by
 have:=fZ f xs.size 0 xs.toList #[] (by simp);simpa[pickOrder]using this
section
variable{prog:Program}{w:World}{A:Around}{E:Value->Shared->Prop}{s:Shared}
theorem gI{Q:Bool->Shared->Prop}(h:Q (byT w) s):wpAny (model prog w) A setsByText Q E s:=by
 unfold setsByText;exact wpAny_bind (wpAny_askSetting (wpAny_pure h))
end
end L2
namespace L2
open PySem
def f51(x:Nat):Nat:=5*x+1
def gm:Nat->Nat->Nat
 |0,x=>x
 |n+1,x=>gm n (f51 x)
theorem gY(m n x:Nat):gm (m+n) x=gm n (gm m x):=by
 induction m generalizing x with
 |zero=>simp[gm]
 |succ m ih=>rw[Nat.succ_add];simp only[gm];exact ih _
theorem p9(k:Nat):∃a c,∀z,gm (2 ^ k) z=z+2 ^ (k+2)*a*z+2 ^ k+2 ^ (k+1)*c:=by
 induction k with
 |zero=>exact⟨1,0,fun z=>by simp[gm,f51];omega⟩
 |succ k ih =>
  obtain⟨a,c,h⟩:=ih;generalize hp:2 ^ k=p at *
  have e1:2 ^ (k+1)=2*p:=by rw[Nat.pow_succ,hp,Nat.mul_comm]
  have e2:2 ^ (k+2)=4*p:=by rw[Nat.pow_add,hp];omega
  have e3:2 ^ (k+1+2)=8*p:=by rw[show k+1+2=k+3 by omega,Nat.pow_add,hp];omega
  have e4:2 ^ (k+1+1)=4*p:=e2;rw[e1,e3,e4];rw[e1,e2]at h;refine⟨a+2*p*a*a,c+p*a+2*p*a*c,fun z=>?_⟩;rw[show 2*p=p+p by omega,gY,h,h]
  grind
theorem qz(k:Nat):∀x j,j<2 ^ k->∃n,n<2 ^ k/\gm n x % 2 ^ k=j:=by
 induction k with
 |zero=>intro x j h;exact⟨0,by simp,by simp at h;simp[h,Nat.mod_one]⟩
 |succ k ih =>
  intro x j hj;obtain⟨a,c,hs⟩:=p9 k;have pos:0<2 ^ k:=Nat.two_pow_pos k;have e1:2 ^ (k+1)=2*2 ^ k:=by rw[Nat.pow_succ,Nat.mul_comm]
  have e2:2 ^ (k+2)=2*(2*2 ^ k):=by rw[Nat.pow_add];omega
  obtain⟨n,hn,he⟩:=ih x (j % 2 ^ k) (Nat.mod_lt _ pos);generalize hy:gm n x=y at he;generalize hp:2 ^ k=p at *
  have hm:y % (2*p)=j∨(y+p) % (2*p)=j:=by
   rw[e1]at hj;have d1:=Nat.div_add_mod y (2*p);have d3:=Nat.mod_lt y (show 0<2*p by omega);have:y % (2*p) % p=y % p:=Nat.mod_mul_left_mod y 2 p;rw[he]at this;generalize y % (2*p)=r at *
   have q1:r=p*(r / p)+r % p:=(Nat.div_add_mod r p).symm;have q2:j=p*(j / p)+j % p:=(Nat.div_add_mod j p).symm;have r2:r / p<2:=Nat.div_lt_of_lt_mul (by omega);have j2:j / p<2:=Nat.div_lt_of_lt_mul (by omega);rw[this]at q1;have hy':(y+p) % (2*p)=(r+p) % (2*p):=by
    rw[<-d1,Nat.add_assoc,Nat.mul_add_mod]
   rw[hy'];have jl:j % p<p:=Nat.mod_lt _ pos;generalize j % p=u at *
   have two:∀q,q<2->q=0∨q=1:=fun q h=>by omega
   have c1:=two _ r2;have c2:=two _ j2;rcases c1 with c1|c1<;>rcases c2 with c2|c2<;>rw[c1]at q1<;>rw[c2]at q2<;>simp only[Nat.mul_zero,Nat.mul_one,Nat.zero_add]at q1 q2
   ·left;omega
   ·right;rw[Nat.mod_eq_of_lt (by omega)];omega
   ·right;rw[show r+p=u+1*(2*p)by omega,Nat.add_mul_mod_self_right,Nat.mod_eq_of_lt (by omega)];omega
   ·left;omega
  rcases hm with hm|hm
  ·exact⟨n,by omega,by rw[e1,hy];exact hm⟩
  ·refine⟨n+p,by omega,?_⟩;rw[gY,hy,hs y,e1,e2];have:y+2*(2*p)*a*y+p+2*p*c=(y+p)+(2*a*y+c)*(2*p):=by grind
   rw[this,Nat.add_mul_mod_self_right];exact hm
end L2
namespace L2
open PySem PySem.SetTable
def pS(mask:Nat) (h:Int):Probe:={ j:=bits h % (mask+1),more:=runEnd mask (bits h % (mask+1))-bits h % (mask+1),i:=bits h % (mask+1),perturb:=bits h,dummy:=none }
def pA(mask:Nat) (p:Probe):Probe :=
 if p.more > 0 then { p with j:=p.j+1,more:=p.more-1 }
 else { p with j:=(leap mask p.i p.perturb).1,more:=runEnd mask (leap mask p.i p.perturb).1-(leap mask p.i p.perturb).1,i:=(leap mask p.i p.perturb).1,perturb:=(leap mask p.i p.perturb).2 }
def pth(mask:Nat) (h:Int):Nat->Probe
 |0=>pS mask h
 |n+1=>pA mask (pth mask h n)
def rs(mask:Nat) (h:Int):Nat->Nat×Nat
 |0=>(bits h % (mask+1),bits h)
 |n+1=>leap mask (rs mask h n).1 (rs mask h n).2
def atR(mask:Nat) (r:Nat×Nat):Probe:={ j:=r.1,more:=runEnd mask r.1-r.1,i:=r.1,perturb:=r.2,dummy:=none }
variable{mask:Nat}{h:Int}
theorem wK(i:Nat):runEnd mask i-i<=9:=by unfold runEnd;split<;>omega
theorem jI{n:Nat}{r:Nat×Nat}(e:pth mask h n=atR mask r):∀q,q<=runEnd mask r.1-r.1->pth mask h (n+q)={ atR mask r with j:=r.1+q,more:=runEnd mask r.1-r.1-q }
 |0,_=>by rw[Nat.add_zero,e];rfl
 |q+1,hq=>by
  rw[<-Nat.add_assoc];show pA mask (pth mask h (n+q))=_;rw[jI e q (by omega)];unfold pA;rw[if_pos (show runEnd mask r.1-r.1-q > 0 by omega)];rfl
theorem qe:∀m,∃n,n<=10*m/\pth mask h n=atR mask (rs mask h m)
 |0=>⟨0,by omega,rfl⟩
 |m+1=>by
  obtain⟨n,hn,e⟩:=qe m;have hl:=wK (mask:=mask) (rs mask h m).1;refine⟨n+(runEnd mask (rs mask h m).1-(rs mask h m).1)+1,by omega,?_⟩;show pA mask (pth mask h (n+_))=_;rw[jI e _ (Nat.le_refl _)];unfold pA;rw[if_neg (by simp)];rfl
theorem su:bits h<2 ^ 64:=by
 unfold bits;have:=Int.emod_lt_of_pos h (show(0:Int)<2 ^ 64 by decide);have:=Int.emod_nonneg h (show(2 ^ 64:Int)≠0 by decide);omega
theorem qG:∀m,(rs mask h m).2=bits h / 32 ^ m
 |0=>by simp[rs]
 |m+1=>by
  show(rs mask h m).2 / 32=_;rw[qG m,Nat.div_div_eq_div_mul,Nat.pow_succ]
theorem As(m:Nat):(rs mask h (13+m)).2=0:=by
 rw[qG];refine Nat.div_eq_of_lt (Nat.lt_of_lt_of_le su ?_);rw[Nat.pow_add];exact Nat.le_trans (by decide) (Nat.le_mul_of_pos_right (32 ^ 13) (Nat.pow_pos (by decide)))
theorem u7:∀m,(rs mask h (13+m)).1 % (mask+1)=gm m (rs mask h 13).1 % (mask+1)
 |0=>rfl
 |m+1=>by
  show(leap mask (rs mask h (13+m)).1 (rs mask h (13+m)).2).1 % _=_;unfold leap;rw[As,gY m 1];show((rs mask h (13+m)).1*5+1+0 / 32) % (mask+1) % (mask+1)=(5*gm m (rs mask h 13).1+1) % (mask+1);rw[Nat.mod_mod,Nat.zero_div,Nat.add_zero,Nat.add_mod,Nat.mul_mod,u7 m,<-Nat.mul_mod,<-Nat.add_mod,Nat.mul_comm]
theorem vq(m:Nat):(rs mask h m).1<mask+1:=by
 cases m with
 |zero=>exact Nat.mod_lt _ (Nat.succ_pos _)
 |succ m=>exact Nat.mod_lt _ (Nat.succ_pos _)
theorem ny{k:Nat}(hk:mask+1=2 ^ k) {j:Nat}(hj:j<=mask):∃m n,m<=mask+13/\n<=10*m/\(rs mask h m).1=j/\(pth mask h n).j=j:=by
 obtain⟨m,hm,e⟩:=qz k (rs mask h 13).1 j (by omega);rw[<-hk]at hm e;have e2:=u7 (mask:=mask) (h:=h) m;rw[e,Nat.mod_eq_of_lt (vq _)]at e2;obtain⟨n,hn,en⟩:=qe (mask:=mask) (h:=h) (13+m);exact⟨13+m,n,by omega,hn,e2,by rw[en];exact e2⟩
theorem mE(n:Nat):(pth mask h n).j<=mask:=by
 have key:∀n,(pth mask h n).j+(pth mask h n).more<=mask/\(pth mask h n).dummy=none:=fun n=>by
  have st:∀i,i<mask+1->i+(runEnd mask i-i)<=mask:=fun i hi=>by unfold runEnd;split<;>omega
  induction n with
  |zero=>exact⟨st _ (Nat.mod_lt _ (Nat.succ_pos _)),rfl⟩
  |succ n ih =>
   show(pA mask (pth mask h n)).j+(pA mask (pth mask h n)).more<=mask/\(pA mask (pth mask h n)).dummy=none;unfold pA
   split
   ·exact⟨by have:=ih.1;dsimp only;omega,ih.2⟩
   ·exact⟨st _ (Nat.mod_lt _ (Nat.succ_pos _)),ih.2⟩
 have:=(key n).1;omega
theorem w5(n:Nat):(pth mask h n).dummy=none:=by
 induction n with
 |zero=>rfl
 |succ n ih =>
  show(pA mask (pth mask h n)).dummy=none;unfold pA
  split<;>exact ih
theorem yk{P:Nat->Prop}{n:Nat}(h:P n):∃m,m<=n/\P m/\∀l,l<m->¬ P l:=by
 induction n using Nat.strongRecOn with
 |_ n ih =>
  by_cases c:∃l,l<n/\P l
  ·obtain⟨l,hl,pl⟩:=c;obtain⟨m,hm,a,b⟩:=ih l hl pl;exact⟨m,by omega,a,b⟩
  ·exact⟨n,Nat.le_refl _,h,fun l hl pl=>c ⟨l,hl,pl⟩⟩
def Ri(xs:Array Nat):Prop:=∀i j,i<j->j<xs.size->xs.getD i 0<xs.getD j 0
theorem qk{xs:Array Nat}{i:Nat}(h:i<xs.size) (a b:Nat):xs.getD i a=xs.getD i b:=by simp[Array.getD,h]
theorem gM{xs:Array Nat}(up:Ri xs) (j:Nat):∀f lo hi,hi-lo<=f->lo<=hi->hi<=xs.size->(∀i,i<lo->xs.getD i 0<j)->(∀i,hi<=i->i<xs.size->j<=xs.getD i 0) ->
  below.go xs j f lo hi<=xs.size/\(∀i,i<below.go xs j f lo hi->xs.getD i 0<j)/\∀i,below.go xs j f lo hi<=i->i<xs.size->j<=xs.getD i 0
 |0,lo,hi,h1,h2,h3,a,b=>by
  obtain rfl:lo=hi:=by omega
  exact⟨h3,a,b⟩
 |f+1,lo,hi,h1,h2,h3,a,b=>by
  unfold below.go
  by_cases c:lo<hi
  ·rw[if_pos c];dsimp only
   by_cases d:xs.getD ((lo+hi) / 2) j<j
   ·rw[if_pos d];rw[qk (by omega) j 0]at d;refine gM up j f _ _ (by omega) (by omega) h3 (fun i hi'=>?_) b;rcases Nat.lt_or_ge i ((lo+hi) / 2)with q|q
    ·exact Nat.lt_trans (up i _ q (by omega)) d
    ·obtain rfl:i=(lo+hi) / 2:=by omega
     exact d
   ·rw[if_neg d];rw[qk (by omega) j 0]at d;refine gM up j f _ _ (by omega) (by omega) (by omega) a (fun i h4 h5=>?_);rcases Nat.lt_or_ge ((lo+hi) / 2) i with q|q
    ·have:=up _ i q h5;omega
    ·obtain rfl:i=(lo+hi) / 2:=by omega
     omega
  ·rw[if_neg c];obtain rfl:lo=hi:=by omega
   exact⟨h3,a,b⟩
theorem iH{xs:Array Nat}(up:Ri xs) (j:Nat):below xs j<=xs.size/\(∀i,i<below xs j->xs.getD i 0<j)/\∀i,below xs j<=i->i<xs.size->j<=xs.getD i 0 :=
 gM up j _ _ _ (by omega) (Nat.zero_le _) (Nat.le_refl _) (fun i h=>by omega) (fun i h1 h2=>by omega)
def Occ(xs:Array Nat) (j:Nat):Prop:=∃i,i<xs.size/\xs.getD i 0=j
theorem jw{t:SetTable}(up:Ri t.place) {i j:Nat}(hi:i<t.place.size) (e:t.place.getD i 0=j):t.slot j=.live i:=by
 obtain⟨h1,h2,h3⟩:=iH up j;have:below t.place j=i:=by
  rcases Nat.lt_trichotomy (below t.place j) i with q|q|q
  ·have a:=h3 _ (Nat.le_refl _) (by omega);have b:=up _ i q hi;omega
  ·exact q
  ·have:=h2 i q;omega
 unfold slot;rw[this];have g:t.place[i]?=some j:=by rw[Array.getElem?_eq_getElem hi,<-e];simp[Array.getD,hi]
 simp[g]
theorem mP{t:SetTable}(dm:t.dummies=#[]) {j:Nat}(n:¬ Occ t.place j):t.slot j=.empty:=by
 unfold slot;have g:(t.place[below t.place j]?==some j)=false:=by
  cases q:t.place[below t.place j]? with
  |none=>rfl
  |some x =>
   obtain⟨hi,e⟩:=Array.getElem?_eq_some_iff.mp q;simp only[beq_eq_false_iff_ne,ne_eq,Option.some.injEq];intro z;exact n ⟨_,hi,by simp[Array.getD,hi,e,z]⟩
 rw[if_neg (by rw[g];decide),dm];rfl
theorem oV{xs:Array Nat}(up:Ri xs) {mask:Nat}(few:xs.size<=mask):∃j,j<=mask/\¬ Occ xs j:=by
 refine Classical.byContradiction fun c=>?_;have all:∀j,j<=mask->Occ xs j:=fun j hj=>Classical.byContradiction fun d=>c ⟨j,hj,d⟩;have key:∀j,j<=mask+1->j<=xs.size/\∀i,i<j->xs.getD i 0=i:=fun j=>by
  induction j with
  |zero=>exact fun _=>⟨Nat.zero_le _,fun i h=>by omega⟩
  |succ j ih =>
   intro hj;obtain⟨h1,h2⟩:=ih (by omega);obtain⟨i,hi,e⟩:=all j (by omega);have a:¬ i<j:=fun q=>by have:=h2 i q;omega
   have b:i=j:=by
    rcases Nat.lt_or_ge j i with q|q
    ·have b1:=up j i q hi;rw[e]at b1;cases j with
     |zero=>omega
     |succ j =>
      have b2:=up j (j+1) (by omega) (by omega);have b3:=h2 j (by omega);omega
    ·omega
   subst b;refine⟨hi,fun l hl=>?_⟩;rcases Nat.lt_or_ge l i with q|q
   ·exact h2 l q
   ·obtain rfl:l=i:=by omega
    exact e
 have:=(key (mask+1) (Nat.le_refl _)).1;omega
structure TB(t:SetTable) (hs:List Int):Prop where
 sz:t.place.size=hs.length
 up:Ri t.place
 le:∀i,i<t.place.size->t.place.getD i 0<=t.mask
 dm:t.dummies=#[]
 pw:∃k,3<=k/\t.mask+1=2 ^ k
 few:t.place.size<=t.mask
 pr:∀i h,hs[i]?=some h->∃n,(pth t.mask h n).j=t.place.getD i 0/\∀m,m<n->Occ t.place (pth t.mask h m).j
theorem TB.free{t:SetTable}{hs:List Int}(T:TB t hs) (h:Int):∃n,n<=10*(t.mask+13)/\¬ Occ t.place (pth t.mask h n).j/\∀m,m<n->Occ t.place (pth t.mask h m).j:=by
 obtain⟨j,hj,nj⟩:=oV T.up T.few;obtain⟨k,_,hk⟩:=T.pw;obtain⟨m,n,hm,hn,_,e⟩:=ny (mask:=t.mask) (h:=h) hk hj;obtain⟨n0,h1,h2,h3⟩:=yk (P:=fun n=>¬ Occ t.place (pth t.mask h n).j) (n:=n) (by rw[e];exact nj);exact⟨n0,by omega,h2,fun m hm=>Classical.byContradiction fun d=>h3 m hm d⟩
theorem lS{t:SetTable}{hs:List Int}(T:TB t hs) {h:Int}{n0:Nat}(f0:¬ Occ t.place (pth t.mask h n0).j) (f1:∀m,m<n0->Occ t.place (pth t.mask h m).j) {ha:Nat->Int}:∀F n,n<=n0->n0-n<F ->
    ∃ m,n ≤ m ∧ m ≤ n0 ∧ (∀ l,n ≤ l → l < m → ∃ i,i < t.place.size ∧ t.place.getD i 0 = (pth t.mask h l).j ∧ ha i ≠ h) ∧
      ((m = n0 ∧ probe.go t ha h F (pth t.mask h n) = some (.empty (pth t.mask h n0).j none)) ∨
       (m<n0/\∃i,i<t.place.size/\t.place.getD i 0=(pth t.mask h m).j/\ha i=h/\probe.go t ha h F (pth t.mask h n)=some (.candidate (pth t.mask h m).j i (pth t.mask h (m+1)))))
  |0,n,h1,h2=>by omega
  | F + 1,n,h1,h2 => by
    rcases Nat.lt_or_ge n n0 with q|q
    · obtain ⟨i,hi,e⟩:=f1 n q;have es:=jw T.up hi e
      by_cases c:ha i=h
      · refine ⟨n,Nat.le_refl _,h1,fun l a b => by omega,.inr ⟨q,i,hi,e,c,?_⟩⟩;unfold probe.go;rw[es];dsimp only;rw[if_pos (by simpa using c)];rfl
      · obtain ⟨m,m1,m2,m3,m4⟩:=lS T f0 f1 (ha:=ha) F (n + 1) (by omega) (by omega);have eq:probe.go t ha h (F+1) (pth t.mask h n)=probe.go t ha h F (pth t.mask h (n+1)):=by
          rw[probe.go,es];dsimp only;rw[if_neg (by simpa using c)];rfl
        rw[eq];refine⟨m,by omega,m2,fun l a b=>?_,m4⟩;rcases Nat.lt_or_ge n l with d|d
        · exact m3 l d b
        · obtain rfl:l = n:=by omega
          exact⟨i,hi,e,c⟩
    · obtain rfl:n = n0:=by omega
      refine⟨n,Nat.le_refl _,Nat.le_refl _,fun l a b=>by omega,.inl ⟨rfl,?_⟩⟩;unfold probe.go;rw[mP T.dm f0];dsimp only;rw[w5]
end L2
namespace L2
open PySem PySem.Spec PyProof.Rows
theorem aw:Slot "set_iterator" "__next__" "set_iterator.__next__" :=
 .of (owner:="set_iterator") (n:="__next__") (by rw[typeLookup_type,builtinLookup_eq_fast];kernel_rfl) (by decide +kernel) (by decide +kernel) (by decide +kernel)
  (by first|exact .inl (by decide +kernel)|exact .inr (by decide +kernel)) (by rw[isSubtype_type];kernel_rfl)
theorem bG:entryFor table "set_iterator.__next__"=some Builtin.«set_iterator.__next__»:=entryFor_of_tree (by kernel_rfl)
theorem bV(a:Value):argsOk "set_iterator.__next__" ⟨[a],[]⟩:=by unfold argsOk;kernel_rfl
noncomputable abbrev fm(f:Value) (i:Nat) (a:Addr) (n ep:Nat):Obj:={ cls:=.type "set_iterator",data:=.fields #[f,rawInt i,.ref a,rawInt n,rawInt ep] }
structure cn(w:World) (h:Heap) (a:Addr) (o:Obj) (es:Array (Int×Value)) (ep:Nat) (t:SetTable):Prop where
 get:h.get? a=some o
 ex:o.ExactSet
 data:o.data=.set es ep t
 room:es.size<scanBound
 fit:t.fits es.size=true
 led:t.led=!byT w
 go:(es.size≠0->t.plain=false)∨Ri t.place
theorem wm.b{prog:Program}{w:World}{h:Heap}{a:Addr}{o:Obj}{es:Array (Int×Value)}{ep:Nat}{t:SetTable}(p:wm prog w h a o es ep t):cn w h a o es ep t:=⟨p.get,p.ex,p.data,p.room,p.fit,p.led,.inl p.pl⟩
theorem cn.kept{w:World}{h h':Heap}{a:Addr}{o:Obj}{es:Array (Int×Value)}{ep:Nat}{t:SetTable}(p:cn w h a o es ep t) (k:h'.get? a=some o):cn w h' a o es ep t:=⟨k,p.ex,p.data,p.room,p.fit,p.led,p.go⟩
theorem cn.typeIs{w:World}{s:Shared}{a:Addr}{o:Obj}{es:Array (Int×Value)}{ep:Nat}{t:SetTable}(p:cn w s.heap a o es ep t):s.TypeIs (.ref a) "set":=⟨o,p.get,p.ex.1⟩
section
variable{prog:Program}{w:World}{A:Around}{E:Value->Shared->Prop}{s:Shared}
theorem cn.state{a:Addr}{o:Obj}{es:Array (Int×Value)}{ep:Nat}{t:SetTable}{Q:Array (Int×Value)×Nat×SetTable->Shared->Prop}(p:cn w s.heap a o es ep t) (h:Q (es,ep,t) s):wpAny (model prog w) A (setState a) Q E s:=wpAny_setState_of p.get p.data p.fit h
theorem pZ{a:Addr}{o:Obj}{es:Array (Int×Value)}{ep:Nat}{t:SetTable}{Q:Nat->Shared->Prop}(p:cn w s.heap a o es ep t) (h:Q ep s):wpAny (model prog w) A (setEpoch a) Q E s :=
 wpAny_setEpoch_of p.get p.data p.fit h
theorem vn{I a:Addr}{k i n:Nat}{o:Obj}{es:Array (Int×Value)}{ep:Nat}{t:SetTable}{x:Value}{nx:Nat}{Q:Option Value->Shared->Prop}(hI:s.heap.get? I=some (fm (rawInt k) i a n ep)) (p:cn w s.heap a o es ep t) (hn:es.size=n)
  (hx:∀(Q':Option (Value×Nat)->Shared->Prop) E',Q' (some (x,nx)) s->wpAny (model prog w) A.in1 (setNext a k i ep) Q' E' s)
  (h:∀h',h'.get? I=some (fm (rawInt nx) (i+1) a n ep)->Heap.SameBut I s.heap h'->Q (some x) { s with heap:=h' }):wpAny (model prog w) A (pyNext (.ref I)) Q E s:=by
 have hT:s.TypeIs (.ref I) "set_iterator":=⟨_,hI,rfl⟩;unfold pyNext;refine wpAny_bind (wpAny_attempt (wpAny_callSpecial?_slot (name:=Str.ofString "__next__") hT aw
  (wpAny_call_entry aw hT bG ?_ (bV _))))
 unfold Builtin.«set_iterator.__next__»;refine wpAny_bind (m:=slotArgs "__next__" 0 ⟨[.ref I],[]⟩) (wpAny_pure ?_);refine wpAny_bind (wpAny_fieldsOf hI rfl ?_);dsimp only;simp only[rawInt,Int.toNat_natCast];refine wpAny_bind (wpAny_setEntries_of p.get p.data p.fit ?_);rw[if_neg (by rw[hn];simp)];refine wpAny_bind (hx _ _ ?_);dsimp only;refine wpAny_bind (wpAny_setField hI rfl (by simp) ?_);have h1:(s.heap.update I (Obj.mapFields (·.setIfInBounds 0 (rawInt nx)))).get? I=some (fm (rawInt nx) i a n ep):=Heap.get?_update_self _ hI rfl;refine wpAny_bind (wpAny_setField h1 rfl (by simp) ?_);have h2:((s.heap.update I (Obj.mapFields (·.setIfInBounds 0 (rawInt nx)))).update I (Obj.mapFields (·.setIfInBounds 1 (rawInt ((i:Int)+1))))).get? I=some (fm (rawInt nx) (i+1) a n ep):=Heap.get?_update_self _ h1 rfl;exact wpAny_pure ⟨_,rfl,wpAny_pure (h _ h2 ((Heap.SameBut.update ..).trans (Heap.SameBut.update ..)))⟩
theorem xN{I a:Addr}{k i n:Nat}{o:Obj}{es:Array (Int×Value)}{ep:Nat}{t:SetTable}{Q:Option Value->Shared->Prop}(hh:A.handled=none) (hI:s.heap.get? I=some (fm (rawInt k) i a n ep)) (p:cn w s.heap a o es ep t) (hn:es.size=n)
  (hx:∀(Q':Option (Value×Nat)->Shared->Prop) E',Q' none s->wpAny (model prog w) A.in1 (setNext a k i ep) Q' E' s)
  (h:∀h',Heap.ExtBut I s.heap h'->Q none { s with heap:=h' }):wpAny (model prog w) A (pyNext (.ref I)) Q E s:=by
 have hT:s.TypeIs (.ref I) "set_iterator":=⟨_,hI,rfl⟩;unfold pyNext;refine wpAny_bind (wpAny_attempt (wpAny_callSpecial?_slot (name:=Str.ofString "__next__") hT aw
  (wpAny_call_entry aw hT bG ?_ (bV _))))
 unfold Builtin.«set_iterator.__next__»;refine wpAny_bind (m:=slotArgs "__next__" 0 ⟨[.ref I],[]⟩) (wpAny_pure ?_);refine wpAny_bind (wpAny_fieldsOf hI rfl ?_);dsimp only;simp only[rawInt,Int.toNat_natCast];refine wpAny_bind (wpAny_setEntries_of p.get p.data p.fit ?_);rw[if_neg (by rw[hn];simp)];refine wpAny_bind (hx _ _ ?_);dsimp only;refine wpAny_bind (wpAny_setField hI rfl (by simp) ?_);refine wpAny_bind ?_;simp only[newExc,newTuple];refine wpAny_bind (wpAny_newObj_type ?_ (by size_fits));refine wpAny_bind (m:=firstArgMember _ _) (wpAny_of_eq (a:=Value.none) (by first|rfl|(simp only[firstArgMember];rfl)) ?_);refine wpAny_newObj_type ?_ (by size_fits);simp only[raiseNew];refine wpAny_bind (wpAny_handled ?_);rw[show A.in1.handled=none from hh];refine wpAny_bind (wpAny_pure (wpAny_throw ?_));refine wpAny_bind (wpAny_isInstance (T:="StopIteration") (b:=true) ⟨_,Heap.get?_push_size _ rfl,rfl⟩ isSubtype_stop ?_);exact wpAny_pure (h _ (((Heap.SameBut.update ..).extBut.push _).push _))
end
section
variable{prog:Program}{w:World}{A:Around}{E:Value->Shared->Prop}{s:Shared}
noncomputable abbrev tpO(ps:List Nat):Obj:={ cls:=.type "tuple",data:=.seq (ps.map fun(i:Nat)=>rawInt i).toArray }
theorem xJ{tp:Addr}{ps:List Nat}{Q:Option (Array Value)->Shared->Prop}(hp:s.heap.get? tp=some (tpO ps)) (h:Q (some (ps.map fun(i:Nat)=>rawInt i).toArray) s):wpAny (model prog w) A (seqItems? (.ref tp)) Q E s:=by
 unfold seqItems?;exact wpAny_bind (wpAny_load hp (wpAny_pure h))
theorem yW{I a tp:Addr}{i n pl:Nat}{ps:List Nat}{o:Obj}{es:Array (Int×Value)}{ep:Nat}{t:SetTable}{e:Int×Value}{Q:Option Value->Shared->Prop}(hI:s.heap.get? I=some (fm (.ref tp) i a n ep)) (hp:s.heap.get? tp=some (tpO ps)) (p:cn w s.heap a o es ep t) (hn:es.size=n)
  (hx:ps[i]?=some pl) (he:es[pl]?=some e)
  (h:∀h',h'.get? I=some (fm (.ref tp) (i+1) a n ep)->Heap.SameBut I s.heap h'->Q (some e.2) { s with heap:=h' }):wpAny (model prog w) A (pyNext (.ref I)) Q E s:=by
 have hT:s.TypeIs (.ref I) "set_iterator":=⟨_,hI,rfl⟩;unfold pyNext;refine wpAny_bind (wpAny_attempt (wpAny_callSpecial?_slot (name:=Str.ofString "__next__") hT aw
  (wpAny_call_entry aw hT bG ?_ (bV _))))
 unfold Builtin.«set_iterator.__next__»;refine wpAny_bind (m:=slotArgs "__next__" 0 ⟨[.ref I],[]⟩) (wpAny_pure ?_);refine wpAny_bind (wpAny_fieldsOf hI rfl ?_);dsimp only;simp only[rawInt,Int.toNat_natCast];refine wpAny_bind (wpAny_setEntries_of p.get p.data p.fit ?_);rw[if_neg (by rw[hn];simp)];refine wpAny_bind (xJ hp ?_);have hx':(ps.map fun(i:Nat)=>rawInt i).toArray[i]?=some (.int pl 0):=by simp[hx,rawInt]
 dsimp only;rw[hx'];dsimp only;refine wpAny_bind ?_;unfold setNextDrawn;refine wpAny_bind (p.state ?_);dsimp only;rw[if_neg (by simp),Int.toNat_natCast,he];refine wpAny_pure ?_;refine wpAny_bind (wpAny_setField hI rfl (by simp) ?_);have h2:(s.heap.update I (Obj.mapFields (·.setIfInBounds 1 (rawInt ((i:Int)+1))))).get? I=some (fm (.ref tp) (i+1) a n ep):=Heap.get?_update_self _ hI rfl;exact wpAny_pure ⟨_,rfl,wpAny_pure (h _ h2 (Heap.SameBut.update ..))⟩
theorem Ay{I a tp:Addr}{i n:Nat}{ps:List Nat}{o:Obj}{es:Array (Int×Value)}{ep:Nat}{t:SetTable}{Q:Option Value->Shared->Prop}(hh:A.handled=none) (hI:s.heap.get? I=some (fm (.ref tp) i a n ep)) (hp:s.heap.get? tp=some (tpO ps)) (p:cn w s.heap a o es ep t) (hn:es.size=n)
  (hx:ps[i]?=none)
  (h:∀h',Heap.ExtBut I s.heap h'->Q none { s with heap:=h' }):wpAny (model prog w) A (pyNext (.ref I)) Q E s:=by
 have hT:s.TypeIs (.ref I) "set_iterator":=⟨_,hI,rfl⟩;unfold pyNext;refine wpAny_bind (wpAny_attempt (wpAny_callSpecial?_slot (name:=Str.ofString "__next__") hT aw
  (wpAny_call_entry aw hT bG ?_ (bV _))))
 unfold Builtin.«set_iterator.__next__»;refine wpAny_bind (m:=slotArgs "__next__" 0 ⟨[.ref I],[]⟩) (wpAny_pure ?_);refine wpAny_bind (wpAny_fieldsOf hI rfl ?_);dsimp only;simp only[rawInt,Int.toNat_natCast];refine wpAny_bind (wpAny_setEntries_of p.get p.data p.fit ?_);rw[if_neg (by rw[hn];simp)];refine wpAny_bind (xJ hp ?_);have hx':(ps.map fun(i:Nat)=>rawInt i).toArray[i]?=none:=by simp[hx]
 dsimp only;rw[hx'];dsimp only;refine wpAny_bind (wpAny_setField hI rfl (by simp) ?_);have h1:(s.heap.update I (Obj.mapFields (·.setIfInBounds 0 (rawInt 0)))).get? I=some (fm (rawInt 0) i a n ep):=Heap.get?_update_self _ hI rfl;refine wpAny_bind (wpAny_setField h1 rfl (by simp) ?_);refine wpAny_bind ?_;simp only[newExc,newTuple];refine wpAny_bind (wpAny_newObj_type ?_ (by size_fits));refine wpAny_bind (m:=firstArgMember _ _) (wpAny_of_eq (a:=Value.none) (by first|rfl|(simp only[firstArgMember];rfl)) ?_);refine wpAny_newObj_type ?_ (by size_fits);simp only[raiseNew];refine wpAny_bind (wpAny_handled ?_);rw[show A.in1.handled=none from hh];refine wpAny_bind (wpAny_pure (wpAny_throw ?_));refine wpAny_bind (wpAny_isInstance (T:="StopIteration") (b:=true) ⟨_,Heap.get?_push_size _ rfl,rfl⟩ isSubtype_stop ?_);exact wpAny_pure (h _ (((((Heap.SameBut.update ..).trans (Heap.SameBut.update ..)).extBut).push _).push _))
theorem qH{a:Addr}{k i:Nat}{o:Obj}{es:Array (Int×Value)}{ep:Nat}{t:SetTable}{Q:Option (Value×Nat)->Shared->Prop}(p:cn w s.heap a o es ep t) (hb:byT w=true)
  (h:Q (((pickOrder (w.params.setOrder a ep) es)[i]?).map fun e=>(e.2,k)) s):wpAny (model prog w) A (setNext a k i ep) Q E s:=by
 unfold setNext;refine wpAny_bind (p.state ?_);dsimp only;refine wpAny_bind (gI ?_);rw[hb];simp only[if_true];rw[if_neg (by simp)];refine wpAny_bind ?_;unfold setWalk;refine wpAny_bind (p.state ?_);dsimp only;refine wpAny_bind (gI ?_);rw[hb];simp only[if_true];exact wpAny_bind (wpAny_askSetting (wpAny_pure (wpAny_pure h)))
theorem sf{a:Addr}{k i:Nat}{o:Obj}{es:Array (Int×Value)}{ep:Nat}{t:SetTable}{Q:Option (Value×Nat)->Shared->Prop}(p:cn w s.heap a o es ep t) (hb:byT w=false) (h2:(!t.plain&&decide (es.size > 1))=false)
  (h:Q (match es[SetTable.below t.place k]?,t.place[SetTable.below t.place k]? with|some (_,x),some j=>some (x,j+1)|_,_=>none) s):wpAny (model prog w) A (setNext a k i ep) Q E s:=by
 unfold setNext;refine wpAny_bind (p.state ?_);dsimp only;refine wpAny_bind (gI ?_);rw[hb];simp only[Bool.false_eq_true,if_false];show wpAny _ _ (if(!t.plain&&decide (es.size > 1))=true then _ else _) _ _ _;rw[if_neg (by rw[h2];simp)];refine wpAny_bind ?_;show wpAny _ _ (if(!t.led&&!es.isEmpty)=true then _ else _) _ _ _;rw[if_neg (by rw[p.led,hb];simp)];exact wpAny_pure (wpAny_pure h)
end
section
variable{prog:Program}{w:World}{A:Around}{E:Value->Shared->Prop}{s:Shared}
theorem uc{src:Source}{n:Nat}{Q:Nat->Shared->Prop}(hn:n≠0) (h:∀i d,i<n->Q i { s with drawn:=d }):wpAny (model prog w) A (choose src n) Q E s :=
 fun Γ p hΓ=>⟨hn,h _ _ (Nat.mod_lt _ (Nat.pos_of_ne_zero hn))⟩
theorem yX{α:Type}(n:Nat):∀(xs:List α) (s:Shared) (Q:List α->Shared->Prop),xs.length=n->(∀ys d,ys.Perm xs->Q ys { s with drawn:=d })->wpAny (model prog w) A (drawOrder n xs) Q E s:=by
 induction n with
 |zero =>
  intro xs s Q hn h;have:xs=[]:=List.length_eq_zero_iff.mp hn;subst this;have e:s={ s with drawn:=s.drawn }:=by cases s;rfl
  rw[e];exact wpAny_pure (h [] s.drawn (.refl _))
 |succ n ih =>
  intro xs s Q hn h;cases xs with
  |nil=>simp at hn
  |cons x xs =>
   unfold drawOrder;refine wpAny_bind (uc (by simp) fun i d hi=>?_);rw[List.getElem?_eq_getElem hi];dsimp only;refine wpAny_bind (ih ((x::xs).eraseIdx i) _ _ (by rw[List.length_eraseIdx_of_lt hi];simp at hn ⊢;omega) fun ys d' hp=>?_);refine wpAny_pure (h _ d' ?_);have z:(x::xs)=(x::xs).take i++(x::xs)[i]::(x::xs).drop (i+1):=by rw[List.getElem_cons_drop];simp
   have e:(x::xs).eraseIdx i=(x::xs).take i++(x::xs).drop (i+1):=List.eraseIdx_eq_take_drop_succ _ _;rw[e]at hp;refine(hp.cons _).trans ?_;generalize (x::xs)[i]=u at z ⊢
   conv=>rhs;rw[z]
   exact List.perm_middle.symm
theorem ei:Slot "set_iterator" "__iter__" "set_iterator.__iter__" :=
 .of (owner:="set_iterator") (n:="__iter__") (by rw[typeLookup_type,builtinLookup_eq_fast];kernel_rfl) (by decide +kernel) (by decide +kernel) (by decide +kernel)
  (by first|exact .inl (by decide +kernel)|exact .inr (by decide +kernel)) (by rw[isSubtype_type];kernel_rfl)
theorem iI:entryFor table "set_iterator.__iter__"=some Builtin.«dict_keyiterator.__iter__» :=
 entryFor_alias (id':="dict_keyiterator.__iter__") (by kernel_rfl) rfl (by decide +kernel) (by kernel_rfl)
theorem iL(a:Value):argsOk "set_iterator.__iter__" ⟨[a],[]⟩:=by unfold argsOk;kernel_rfl
theorem rD{I a:Addr}{f:Value}{i n ep:Nat}{Q:Value->Shared->Prop}(hI:s.heap.get? I=some (fm f i a n ep)) (h:Q (.ref I) s):wpAny (model prog w) A (pyIter (.ref I)) Q E s:=by
 have hT:s.TypeIs (.ref I) "set_iterator":=⟨_,hI,rfl⟩;refine wpAny_pyIter_slot hT ei (wpAny_call_entry ei hT iI ?_ (iL _));show wpAny _ _ (ret (.ref I)) _ _ s;exact wpAny_pure ⟨_,rfl,"set_iterator",_,hT,aw.lookup,h⟩
end
def kI(xs:Array Nat) (i:Nat):Nat:=if i=0 then 0 else xs.getD (i-1) 0+1
theorem lL{xs:Array Nat}(up:Ri xs) {i:Nat}(hi:i<=xs.size):SetTable.below xs (kI xs i)=i:=by
 obtain⟨h1,h2,h3⟩:=iH up (kI xs i);rcases Nat.lt_trichotomy (SetTable.below xs (kI xs i)) i with q|q|q
 ·have a:=h3 (i-1) (by omega) (by omega);unfold kI at a;rw[if_neg (by omega)]at a;omega
 ·exact q
 ·have a:=h2 i q;unfold kI at a
  by_cases c:i=0
  ·rw[if_pos c]at a;omega
  ·rw[if_neg c]at a;have b:=up (i-1) i (by omega) (by omega);omega
section
variable{prog:Program}{w:World}{A:Around}{E:Value->Shared->Prop}{s:Shared}
abbrev PSe(es':Array (Int×Value)):Nat->Value->Prop:=fun i v=>∃e,es'[i]?=some e/\v=e.2
theorem wC(hh:A.handled=none) {I a:Addr}(hne:a≠I) {o:Obj}{es:Array (Int×Value)}{ep:Nat}{t:SetTable}(hb:byT w=true) :
  Walks prog w A I [I,a] [I] es.size (PSe (pickOrder (w.params.setOrder a ep) es)) (fun i h=>(∃k:Nat,h.get? I=some (fm (rawInt k) i a es.size ep))/\cn w h a o es ep t) where
 sub:=fun b hb=>by simp at hb;simp[hb]
 frame:=fun _ _ _ st hk=>⟨let⟨k,g⟩:=st.1;⟨k,hk I (by simp) _ g⟩,st.2.kept (hk a (by simp) _ st.2.get)⟩
 item:=fun i s Q E hi st hQ=>by
  obtain⟨⟨k,g⟩,p⟩:=st;have sz:(pickOrder (w.params.setOrder a ep) es).size=es.size:=by
   have:=(fN (w.params.setOrder a ep) es).length_eq;simpa using this
  have hx:(pickOrder (w.params.setOrder a ep) es)[i]?=some ((pickOrder (w.params.setOrder a ep) es)[i]'(by omega)):=Array.getElem?_eq_getElem _;refine vn g p rfl (fun Q' E' q=>qH p hb (by rw[hx];exact q)) fun h' g' sb=>?_;exact hQ _ h' s.toks ⟨_,hx,rfl⟩ ⟨⟨_,g'⟩,p.kept (by rw[sb.2 a hne];exact p.get)⟩ fun b o hb e=>by rw[sb.2 b (fun h=>hb (by simp[h]))];exact e
 done:=fun s Q E st hQ=>by
  obtain⟨⟨k,g⟩,p⟩:=st;have sz:(pickOrder (w.params.setOrder a ep) es).size=es.size:=by
   have:=(fN (w.params.setOrder a ep) es).length_eq;simpa using this
  have hx:(pickOrder (w.params.setOrder a ep) es)[es.size]?=none:=Array.getElem?_eq_none (by omega);exact xN hh g p rfl (fun Q' E' q=>qH p hb (by rw[hx];exact q)) fun h' he'=>hQ h' s.toks fun b o hb e=>he' b o (fun h=>hb (by simp[h])) e
 self:=fun _ _ _ _ st hQ=>let⟨⟨_,g⟩,_⟩:=st;rD g hQ
theorem xh(hh:A.handled=none) {I a:Addr}(hne:a≠I) {o:Obj}{es:Array (Int×Value)}{ep:Nat}{t:SetTable}(hb:byT w=false) (h1:(!t.plain&&decide (es.size > 1))=false) (up:Ri t.place) (hf:t.place.size=es.size) :
  Walks prog w A I [I,a] [I] es.size (PSe es) (fun i h=>i<=es.size/\h.get? I=some (fm (rawInt (kI t.place i)) i a es.size ep)/\cn w h a o es ep t) where
 sub:=fun b hb=>by simp at hb;simp[hb]
 frame:=fun _ _ _ st hk=>⟨st.1,hk I (by simp) _ st.2.1,st.2.2.kept (hk a (by simp) _ st.2.2.get)⟩
 item:=fun i s Q E hi st hQ=>by
  obtain⟨_,g,p⟩:=st;have hx:es[i]?=some (es[i]'hi):=Array.getElem?_eq_getElem _;have hp:t.place[i]?=some (t.place.getD i 0):=by rw[Array.getElem?_eq_getElem (by omega)];simp[Array.getD,show i<t.place.size by omega]
  refine vn (x:=(es[i]'hi).2) (nx:=t.place.getD i 0+1) g p rfl (fun Q' E' q=>sf p hb h1 (by rw[lL up (by omega),hx,hp];exact q)) fun h' g' sb=>?_;refine hQ _ h' s.toks ⟨_,hx,rfl⟩ ⟨hi,?_,p.kept (by rw[sb.2 a hne];exact p.get)⟩ fun b o hb e=>by rw[sb.2 b (fun h=>hb (by simp[h]))];exact e
  rw[g'];rfl
 done:=fun s Q E st hQ=>by
  obtain⟨_,g,p⟩:=st;have e1:es[es.size]?=none:=Array.getElem?_eq_none (Nat.le_refl _);exact xN hh g p rfl (fun Q' E' q=>sf p hb h1 (by rw[lL up (by omega),e1];exact q)) fun h' he'=>hQ h' s.toks fun b o hb e=>he' b o (fun h=>hb (by simp[h])) e
 self:=fun _ _ _ _ st hQ=>rD st.2.1 hQ
theorem xr(hh:A.handled=none) {I a tp:Addr}(hne:a≠I) (hnt:tp≠I) {o:Obj}{es:Array (Int×Value)}{ep:Nat}{t:SetTable}{ps:List Nat}(hp:ps.Perm (List.range es.size)) :
  Walks prog w A I [I,a,tp] [I] es.size (PSe (ps.map fun j=>es.getD j default).toArray) (fun i h=>h.get? I=some (fm (.ref tp) i a es.size ep)/\h.get? tp=some (tpO ps)/\cn w h a o es ep t) where
 sub:=fun b hb=>by simp at hb;simp[hb]
 frame:=fun _ _ _ st hk=>⟨hk I (by simp) _ st.1,hk tp (by simp) _ st.2.1,st.2.2.kept (hk a (by simp) _ st.2.2.get)⟩
 item:=fun i s Q E hi st hQ=>by
  obtain⟨g,gt,p⟩:=st;have sz:ps.length=es.size:=by rw[hp.length_eq,List.length_range]
  have hi':i<ps.length:=by omega
  have hx:ps[i]?=some ps[i]:=List.getElem?_eq_getElem hi';have hm:ps[i]<es.size:=List.mem_range.mp (hp.mem_iff.mp (List.getElem_mem hi'));have he:es[ps[i]]?=some es[ps[i]]:=Array.getElem?_eq_getElem hm;refine yW g gt p rfl hx he fun h' g' sb=>?_;refine hQ _ h' s.toks ⟨es[ps[i]],?_,rfl⟩ ⟨g',by rw[sb.2 tp hnt];exact gt,p.kept (by rw[sb.2 a hne];exact p.get)⟩ fun b o hb e=>by rw[sb.2 b (fun h=>hb (by simp[h]))];exact e
  simp[hx,Array.getD,hm]
 done:=fun s Q E st hQ=>by
  obtain⟨g,gt,p⟩:=st;have sz:ps.length=es.size:=by rw[hp.length_eq,List.length_range]
  exact Ay hh g gt p rfl (List.getElem?_eq_none (by omega)) fun h' he'=>hQ h' s.toks fun b o hb e=>he' b o (fun h=>hb (by simp[h])) e
 self:=fun _ _ _ _ st hQ=>rD st.1 hQ
end
theorem h7:entryFor table "set.__iter__"=some Builtin.«frozenset.__iter__» :=
 entryFor_alias (id':="frozenset.__iter__") (by kernel_rfl) rfl (by decide +kernel) (by kernel_rfl)
section
variable{prog:Program}{w:World}{A:Around}{E:Value->Shared->Prop}{s:Shared}
theorem rF(es:Array (Int×Value)):(List.range es.size).map (fun j=>es.getD j default)=es.toList:=by
 apply List.ext_getElem (by simp);intro i h1 h2;simp at h1;simp[Array.getD,h1]
theorem yH{a:Addr}{o:Obj}{es:Array (Int×Value)}{ep:Nat}{t:SetTable}{Q:Value->Shared->Prop}(hh:A.handled=none) (p:cn w s.heap a o es ep t)
  (h:∀ (I:Addr) (h':Heap) d' (es':Array (Int × Value)) (fp:List Addr) (St:Nat → Heap → Prop),es'.toList.Perm es.toList → (∀ b o,s.heap.get? b = some o → h'.get? b = some o) → Walks prog w A I fp [I] es.size (PSe es') St → St 0 h' → s.heap.objs.size ≤ I →
   (∀b∈fp,b=a∨s.heap.objs.size<=b)->Q (.ref I) { s with heap:=h',drawn:=d' }):wpAny (model prog w) A (pyIter (.ref a)) Q E s:=by
 have al:a<s.heap.objs.size:=Heap.lt_size p.get;refine wpAny_pyIter_slot p.typeIs PySem.F.slot_set_iter (wpAny_call_entry PySem.F.slot_set_iter p.typeIs h7 ?_ (PySem.F.args_set_iter_1 _));unfold Builtin.«frozenset.__iter__»;refine wpAny_bind (m:=Builtin.Frozenset.slot0 "__iter__" ⟨[.ref a],[]⟩) (wpAny_pure ?_);unfold Builtin.Frozenset.sizeOf;refine wpAny_bind (wpAny_bind (wpAny_setEntries_of p.get p.data p.fit (wpAny_pure ?_)));refine wpAny_bind ?_;unfold setDrawn;refine wpAny_bind (p.state ?_);dsimp only;refine wpAny_bind (gI (wpAny_pure ?_));show wpAny _ _ (if(!byT w&&(!t.plain&&decide (es.size > 1)))=true then _ else _) _ _ _
 split
 ·rename_i hc;refine wpAny_bind (yX es.size (List.range es.size) s _ (by simp) fun ps d hp=>?_);have a7:ps.length=es.size:=by rw[hp.length_eq,List.length_range]
  have hsz:=fits_of_scanBound p.room;refine wpAny_bind ?_;simp only[newTuple];refine wpAny_newObj_type ?_ (by show(ps.map _).toArray.size<=sizeLine;simp;omega);have g1:(s.heap.push (tpO ps)).get? s.heap.objs.size=some (tpO ps):=Heap.get?_push_size _ rfl;have p1:cn w (s.heap.push (tpO ps)) a o es ep t:=p.kept (Heap.get?_push_of_some _ p.get);refine wpAny_bind (pZ (s:={ s with heap:=s.heap.push (tpO ps),drawn:=d }) p1 ?_);refine wpAny_bind ?_;unfold newFields;refine wpAny_newObj_type ?_;refine wpAny_pure ⟨_,rfl,"set_iterator",_,⟨_,Heap.get?_push_size _ rfl,rfl⟩,aw.lookup,?_⟩;refine h _ _ d (ps.map fun j=>es.getD j default).toArray [(s.heap.push (tpO ps)).objs.size,a,s.heap.objs.size] _ ?_ (fun b o e=>Heap.get?_push_of_some _ (Heap.get?_push_of_some _ e))
   (xr hh (o:=o) (t:=t) (ep:=ep) (ps:=ps) (by rw[Heap.size_push];exact Nat.ne_of_lt (Nat.lt_succ_of_lt al)) (by rw[Heap.size_push];exact Nat.ne_of_lt (Nat.lt_succ_self _)) hp) ⟨Heap.get?_push_size _ rfl,Heap.get?_push_of_some _ g1,p1.kept (Heap.get?_push_of_some _ p1.get)⟩ (by rw[Heap.size_push];omega) fun b hb=>?_
  ·have:=hp.map fun j=>es.getD j default;rw[rF]at this;simpa using this
  ·rw[Heap.size_push]at hb;simp only[List.mem_cons,List.not_mem_nil,or_false]at hb;rcases hb with rfl|rfl|rfl
   ·exact .inr (Nat.le_succ _)
   ·exact .inl rfl
   ·exact .inr (Nat.le_refl _)
 ·rename_i hc;refine wpAny_bind (wpAny_pure ?_);refine wpAny_bind (pZ p ?_);refine wpAny_bind ?_;unfold newFields;refine wpAny_newObj_type ?_;refine wpAny_pure ⟨_,rfl,"set_iterator",_,⟨_,Heap.get?_push_size _ rfl,rfl⟩,aw.lookup,?_⟩;have p1:∀oI,cn w (s.heap.push oI) a o es ep t:=fun oI=>p.kept (Heap.get?_push_of_some _ p.get);have fpok:∀b∈[s.heap.objs.size,a],b=a∨s.heap.objs.size<=b:=fun b hb=>by
   simp only[List.mem_cons,List.not_mem_nil,or_false]at hb;rcases hb with rfl|rfl
   ·exact .inr (Nat.le_refl _)
   ·exact .inl rfl
  cases hb:byT w with
  |true =>
   exact h _ _ s.drawn _ [s.heap.objs.size,a] _ (fN (w.params.setOrder a ep) es) (fun b o e=>Heap.get?_push_of_some _ e) (wC hh (o:=o) (t:=t) (ep:=ep) (Nat.ne_of_lt al) hb) ⟨⟨0,Heap.get?_push_size _ rfl⟩,p1 _⟩ (Nat.le_refl _) fpok
  |false =>
   have hd:(!t.plain&&decide (es.size > 1))=false:=by
    rw[hb]at hc;simpa using hc
   have hf:t.place.size=es.size:=by
    have:=p.fit;simp[SetTable.fits]at this;omega
   have up:Ri t.place:=by
    rcases p.go with z|z
    ·intro i j hij hj;have:=z (by omega);rw[this]at hd;simp at hd;omega
    ·exact z
   exact h _ _ s.drawn es [s.heap.objs.size,a] _ (.refl _) (fun b o e=>Heap.get?_push_of_some _ e) (xh hh (o:=o) (t:=t) (ep:=ep) (Nat.ne_of_lt al) hb hd up hf) ⟨Nat.zero_le _,Heap.get?_push_size _ rfl,p1 _⟩ (Nat.le_refl _) fpok
end
section
variable{prog:Program}{w:World}{A:Around}{E:Value->Shared->Prop}{s:Shared}
theorem zo{r:Addr}{Q:Bool->Shared->Prop}(hT:s.TypeIs (.ref r) "set") (h:Q false s):wpAny (model prog w) A (Builtin.List.listLengthHint (.ref r)) Q E s:=by
 unfold Builtin.List.listLengthHint;refine wpAny_bind (wpAny_specialOf hT PySem.F.slot_set_len.lookup ?_);generalize hid:("set.__len__":String)=id0
 wp_delta
 rw[show splitId id0=some ("set","__len__")from by subst hid;decide +kernel];subst hid;refine wpAny_bind (wpAny_isInstance (T:="set") (b:=true) hT (by rw[isSubtype_type];kernel_rfl) ?_);refine wpAny_ite_split (fun hab=>absurd hab (by decide)) (fun _=>?_);refine wpAny_ite_split (fun _=>?_) (fun hab=>absurd (by decide +kernel) hab);refine wpAny_bind (wpAny_typeOf hT ?_);exact wpAny_pure h
abbrev qh(vs:Array Value) (c:Nat):Obj:={ cls:=.type "list",data:=.seq vs c }
theorem pR{a:Addr}{o:Obj}{es:Array (Int×Value)}{ep:Nat}{t:SetTable}{Q:List Value->Shared->Prop}(hh:A.handled=none) (p:cn w s.heap a o es ep t)
  (h:∀s' (es':Array (Int×Value)),es'.toList.Perm es.toList->(∀b o,s.heap.get? b=some o->s'.heap.get? b=some o)->s'.gens=s.gens->s'.os=s.os->Q (es'.toList.map (·.2)) s') :
  wpAny (model prog w) A (collect (.ref a)) Q E s:=by
 have al:a<s.heap.objs.size:=Heap.lt_size p.get;have hn:=fits_of_scanBound p.room;unfold collect;refine wpAny_bind (wpAny_runValue (codeAny_builtin PySem.F.entry_proto_collect ?_));rw[Around.under_plainId PySem.F.plain_proto_collect _];show wpAny _ A.in1 (newList [] >>= fun l=>again (.builtin "list.__iadd__" ⟨[l,.ref a],[]⟩)) _ _ s;refine wpAny_bind (wpAny_newObj_type ?_);refine wpAny_pure ⟨plainId_quiet PySem.F.plain_list_iadd _,codeAny_builtin PySem.F.entry_list_iadd ?_⟩;rw[Around.under_plainId PySem.F.plain_list_iadd _];generalize hH1:s.heap.push { cls:=.type "list",data:=.seq ([]:List Value).toArray }=H1;have k1:∀b o,s.heap.get? b=some o->H1.get? b=some o:=fun b o e=>by rw[<-hH1];exact Heap.get?_push_of_some _ e
 have hS:H1.get? s.heap.objs.size=some (qh #[] 0):=by rw[<-hH1];exact Heap.get?_push_size _ rfl
 have sz1:H1.objs.size=s.heap.objs.size+1:=by rw[<-hH1];exact Heap.size_push _ _
 have p1:cn w H1 a o es ep t:=p.kept (k1 _ _ p.get);show wpAny _ A.in1 (Builtin.List.listExtendWith (.ref s.heap.objs.size) (.ref a) (.ref s.heap.objs.size)) _ _ { s with heap:=H1 };unfold Builtin.List.listExtendWith;refine wpAny_bind (wpAny_typeOf (T:="set") (p1.typeIs (s:={ s with heap:=H1 })) ?_);have hne:s.heap.objs.size≠a:=Nat.ne_of_gt al;have h1:Builtin.List.listSameRef (.ref s.heap.objs.size) (.ref a)=false:=by simp[Builtin.List.listSameRef,hne]
 have h2:(Value.type "set"==Value.type "list")=false:=by decide
 have h3:(Value.type "set"==Value.type "tuple")=false:=by decide
 simp only[h1,h2,h3,Bool.or_false,Bool.false_eq_true,if_false];have hh1:A.in1.handled=none:=hh;refine wpAny_bind (yH (s:={ s with heap:=H1 }) hh1 p1 fun I h' d' es' fp St hp k2 W st hI hfp=>?_);have hSf:s.heap.objs.size∉fp:=fun hm=>by
  rcases hfp _ hm with e|e
  ·exact hne e
  ·have e':H1.objs.size<=s.heap.objs.size:=e;omega
 have szE:es'.size=es.size:=by have:=hp.length_eq;simpa using this
 have T2:Shared.TypeIs { s with heap:=h',drawn:=d' } (.ref a) "set":=(p1.kept (k2 _ _ p1.get)).typeIs (s:={ s with heap:=h',drawn:=d' });refine wpAny_bind (wpAny_holding (zo T2 ?_));have post:∀s' (acc:Array Value) c',Moved (s.heap.objs.size::[I]) (fun a b=>b=a) { s with heap:=h',drawn:=d' } s'->s'.heap.get? s.heap.objs.size=some (qh acc c')->ItemsOf (PSe es') acc es.size ->
   wpAny (model prog w) A (do match (<-load s.heap.objs.size).data with|.seq xs _=>pure xs.toList|_=>unsupported "internal:collect") Q E s':=by
  intro s' acc c' hm hS' hacc;refine wpAny_bind (wpAny_load hS' (wpAny_pure ?_));have eacc:acc.toList=es'.toList.map (·.2):=by
   apply List.ext_getElem?;intro i;rcases Nat.lt_or_ge i es.size with hi|hi
   ·have:acc[i]?=some (acc[i]'(by rw[hacc.1];exact hi)):=Array.getElem?_eq_getElem _;obtain⟨e,e1,e2⟩:=hacc.2 i _ this;rw[Array.getElem?_toList,this,e2,List.getElem?_map,Array.getElem?_toList,e1];rfl
   ·rw[List.getElem?_eq_none (by simp[hacc.1];exact hi),List.getElem?_eq_none (by simp;omega)]
  rw[eacc];refine h s' es' hp (fun b o e=>hm.heap b o ?_ (k2 b o (k1 b o e))) hm.gens hm.os;have hb:=Heap.lt_size e;have hI':H1.objs.size<=I:=hI;rw[sz1]at hI';simp only[List.mem_cons,List.not_mem_nil,or_false,not_or];exact⟨Nat.ne_of_lt hb,Nat.ne_of_lt (Nat.lt_of_lt_of_le (Nat.lt_succ_of_lt hb) hI')⟩
 have key:∀(R:Result->Shared->Prop) (h2:Heap) (c:Nat),St 0 h2->(∀b o,b≠s.heap.objs.size->h'.get? b=some o->h2.get? b=some o)->h2.get? s.heap.objs.size=some (qh #[] c) ->
   (∀s' (acc:Array Value) c',Moved (s.heap.objs.size::[I]) (fun a b=>b=a) { s with heap:=h',drawn:=d' } s'->s'.heap.get? s.heap.objs.size=some (qh acc c')->ItemsOf (PSe es') acc es.size->R (.ok (.ret (.ref s.heap.objs.size))) s') ->
   codeAny (model prog w) A (.builtin "list.extend.loop" ⟨[.ref s.heap.objs.size,.ref I,.ref s.heap.objs.size],[]⟩) R { s with heap:=h2,drawn:=d' }:=by
  intro R h2 c st2 k3 hS2 hR;refine codeAny_extend_loopS W.toS hn _ hSf _ es.size 0 _ #[] c rfl (Nat.zero_le _) st2 hS2 (ItemsOf.nil _) fun s' acc c' hm hS' hacc=>hR s' acc c' ⟨fun b o hb e=>hm.heap b o hb (k3 b o (fun q=>hb (by simp[q])) e),hm.gens,hm.drawn,hm.os,hm.toks⟩ hS' hacc
 have hS1:=k2 _ _ hS;refine wpAny_ite_split (fun _=>?_) (fun _=>wpAny_pure ⟨plainId_quiet PySem.F.plain_extend_loop _,?_⟩)
 ·refine wpAny_bind (wpAny_rule ?_);refine wpAny_bind ?_;show wpAny _ _ (updateSeq s.heap.objs.size (·.push .none) >>= fun _=>updateSeq s.heap.objs.size (·.pop)) _ _ _;refine wpAny_bind (wpAny_updateSeq hS1 rfl ?_);have hS2:=Heap.get?_update_self (Obj.mapSeq (·.push Value.none)) hS1 rfl;refine wpAny_updateSeq hS2 rfl ?_;have hS3:=Heap.get?_update_self (Obj.mapSeq (·.pop)) hS2 rfl;have oth:∀b o,b≠s.heap.objs.size->h'.get? b=some o->((h'.update s.heap.objs.size (Obj.mapSeq (·.push Value.none))).update s.heap.objs.size (Obj.mapSeq (·.pop))).get? b=some o :=
   fun b o hb e=>(Heap.get?_update_other _ _ (Ne.symm hb)).trans ((Heap.get?_update_other _ _ (Ne.symm hb)).trans e)
  refine wpAny_pure ⟨plainId_quiet PySem.F.plain_extend_loop _,?_⟩;exact key _ _ _ (W.frame 0 h' _ st fun b hb o e=>oth b o (fun q=>hSf (q▸hb)) e) oth hS3 post
 ·exact key _ h' 0 st (fun b o _ e=>e) hS1 post
end
end L2
namespace L2
open PySem PySem.Spec PyProof.Rows PySem.Calls
section
variable{X:Cx}{aa:List (Addr×Obj)}{s:Shared}{σ:St}{H:Hp}{M:DH}
theorem yC.nd{prog:Program}{w:World}{h:Heap}{a:Addr}{xs:List Str}(z:yC prog w h a xs):xs.Nodup:=by
 obtain⟨o,es,ep,t,p,q⟩:=z;exact q.nodup_iff.mp p.nd
theorem Inv.with{s':Shared}(I:Inv X aa σ H s) (k:∀b u,s.heap.get? b=some u->s'.heap.get? b=some u) (g:s'.gens=s.gens) (o:s'.os=s.os):Inv X aa σ H s':=by
 have I1:Inv X aa σ H { s with heap:=s'.heap,toks:=s'.toks }:=I.kept k;exact⟨I1.ok,o.trans I1.os,by rw[g];exact I1.bare,I1.base,I1.loc,I1.cell,I1.free,I1.freeC,I1.pin,I1.hok,I1.len⟩
end
end L2
namespace L2
open PySem PySem.Spec PyProof.Rows
section
variable{X:Cx}{o i:Expr}{to ti:TEd}{pos:Pos}
end
section
variable{P:Program}{w:World}{K:PySem.W.Frag}{mg:Str->Option Value}{base:Heap}{f:Addr}{fd:FuncData}
theorem Fun.okR{x qual:Str}{st:Stmt}{f:Addr}{fd:FuncData}{N ps:List Str}{k n:Nat}{S:SpD}(F:Fun K x qual st f fd) (hn:ps.length=n) (Sc:aB N ps (ah st))
  (hbody:∀ (cdv:Value) (A:Around) (outer:List Env) (s:Shared) (H:Hp) (E:XK),bY k (A.deeper (envOfC qual (ah st) s.heap.objs.size f cdv)) →
   ∃t:TSd,QSs (jQ CX0 P w K mg base N qual (ah st) f cdv A outer s H E).nox (bW st) t/\∀ds M R (G:Prop),S ds M R->(t { nx:=fun _ M'=>R .non M',rt:=R } (eC N ds) M->G)->G):bw P w K mg base CX0 (k+1) f fd ps (spD K n S):=by
 refine F.okD hn Sc fun cdv A outer s H E hr=>?_;obtain⟨t,h1,h2⟩:=hbody cdv A outer s H E hr;exact⟨t,sO h1,fun ds M R _ hS=>h2 ds M R _ hS id⟩
theorem shr{p:Prop}(h:∀q:Prop,(p->q)->q):p:=h p id
end
end L2
namespace L2
open PySem PyProof.Rows
abbrev SM(α:Type):=StateT SortSt Sem α
def gA(xs:Array Keyed) (i:Nat):Keyed:=xs[i]?.getD (.none,.none)
theorem kF{xs ys:Array Keyed}{i j:Nat}(h:xs[i]?=ys[j]?):gA xs i=gA ys j:=by unfold gA;rw[h]
theorem rO{xs:Array Keyed}{i:Nat}(h:i<xs.size):xs[i]?=some (gA xs i):=by unfold gA;rw[Array.getElem?_eq_getElem h];rfl
section
variable{prog:Program}{w:World}{A:Around}{E:Value->Shared->Prop}{s:Shared}{O:KeyOrd}{key:Keyed->O.α}{a0:List Keyed}{κ:SortKind}
def dX(prog:Program) (w:World) (A:Around) (s:Shared) (κ:SortKind) (key:Keyed->O.α) (a0:List Keyed):Prop :=
 ∀x∈a0,∀y∈a0,∀(Q:Bool->Shared->Prop),Q (O.blt (key x) (key y)) s->wpAny (model prog w) A (keyLt' κ x.1 y.1) Q (fun _ _=>False) s
structure SB(a0:List Keyed) (κ:SortKind) (st:SortSt):Prop where
 perm:(arrOf st).toList.Perm a0
 kind:kindOf st=κ
 fail:failedOf st=none
theorem SB.size{st:SortSt}(h:SB a0 κ st):(arrOf st).size=a0.length:=by rw[<-Array.length_toList];exact h.perm.length_eq
theorem SB.arr{st:SortSt}(h:SB a0 κ st) {xs:Array Keyed}(hp:xs.toList.Perm (arrOf st).toList):SB a0 κ (setArr st xs):=⟨hp.trans h.perm,h.kind,h.fail⟩
theorem SB.mem{st:SortSt}(h:SB a0 κ st) {i:Nat}(hi:i<a0.length):gA (arrOf st) i∈a0:=by
 have hi':i<(arrOf st).size:=by rw[h.size];exact hi
 have:gA (arrOf st) i=(arrOf st)[i]:=by unfold gA;rw[Array.getElem?_eq_getElem hi'];rfl
 rw[this];exact h.perm.mem_iff.mp (by simp)
def kA(key:Keyed->O.α) (xs:Array Keyed) (i:Nat):O.α:=key (gA xs i)
def Up(key:Keyed->O.α) (xs:Array Keyed) (lo hi:Nat):Prop:=∀i j,lo<=i->i<=j->j<hi->O.kle (kA key xs i) (kA key xs j)
def Dn(key:Keyed->O.α) (xs:Array Keyed) (lo hi:Nat):Prop:=∀i j,lo<=i->i<=j->j<hi->O.kle (kA key xs j) (kA key xs i)
def Out(lo hi:Nat) (xs ys:Array Keyed):Prop:=∀i,i<lo∨hi<=i->ys[i]?=xs[i]?
theorem Out.refl{lo hi:Nat}{xs:Array Keyed}:Out lo hi xs xs:=fun _ _=>rfl
theorem Out.trans{lo hi lo' hi':Nat}{xs ys zs:Array Keyed}(h1:Out lo hi xs ys) (h2:Out lo' hi' ys zs) (a:lo<=lo') (b:hi'<=hi):Out lo hi xs zs:=fun i hi=>(h2 i (by omega)).trans (h1 i hi)
theorem aT{xs ys:Array Keyed}{i j:Nat}(h:xs[i]?=ys[j]?):kA key xs i=kA key ys j:=by unfold kA;rw[kF h]
theorem Up.one{xs:Array Keyed}{lo hi:Nat}(h:hi<=lo+1):Up key xs lo hi:=fun i j h1 h2 h3=>by
 obtain rfl:i=j:=by omega
 exact KeyOrd.kle_refl _
theorem Up.more{xs:Array Keyed}{lo x:Nat}(h:Up key xs lo x) (le:lo<x->O.kle (kA key xs (x-1)) (kA key xs x)):Up key xs lo (x+1):=fun i j h0 hij hj=>by
 rcases Nat.lt_or_ge j x with h1|h1
 ·exact h i j h0 hij h1
 ·obtain rfl:j=x:=by omega
  rcases Nat.lt_or_ge i j with h2|h2
  ·exact KeyOrd.kle_trans (h i (j-1) h0 (by omega) (by omega)) (le (by omega))
  ·obtain rfl:i=j:=by omega
   exact KeyOrd.kle_refl _
theorem Dn.more{xs:Array Keyed}{lo x:Nat}(h:Dn key xs lo x) (le:lo<x->O.kle (kA key xs x) (kA key xs (x-1))):Dn key xs lo (x+1):=fun i j h0 hij hj=>by
 rcases Nat.lt_or_ge j x with h1|h1
 ·exact h i j h0 hij h1
 ·obtain rfl:j=x:=by omega
  rcases Nat.lt_or_ge i j with h2|h2
  ·exact KeyOrd.kle_trans (le (by omega)) (h i (j-1) h0 (by omega) (by omega))
  ·obtain rfl:i=j:=by omega
   exact KeyOrd.kle_refl _
theorem Up.out{xs ys:Array Keyed}{lo hi a b:Nat}(h:Up key xs lo hi) (o:Out a b xs ys) (d:hi<=a∨b<=lo):Up key ys lo hi:=fun i j h1 h2 h3=>by
 rw[aT (o i (by omega)),aT (o j (by omega))];exact h i j h1 h2 h3
theorem aJ{st:SortSt}{xs:Array Keyed}{i:Nat}{Q:Keyed->SortSt->Prop}(hi:i<xs.size) (h:Q (gA xs i) st):wpS (model prog w) A E s (elem' xs i) Q st:=by
 rw[elem'_eq,rO hi];exact wpS_pure h
theorem se{st:SortSt}{x y:Keyed}{Q:Option Bool->SortSt->Prop}(hA:dX prog w A s κ key a0) (hk:kindOf st=κ) (hx:x∈a0) (hy:y∈a0) (h:Q (some (O.blt (key x) (key y))) st):wpS (model prog w) A E s (lt' x y) Q st:=by
 rw[lt'_eq];refine wpS_bind (wpS_get ?_);rw[hk];refine wpS_bind (wpS_lift (wpAny_attempt (wpAny_mono (hA x hx y hy (fun b s'=>b=O.blt (key x) (key y)/\s'=s) ⟨rfl,rfl⟩) ?_ fun _ _ z=>z.elim)));rintro b s' ⟨rfl,rfl⟩;exact⟨rfl,wpS_pure h⟩
theorem iC{st:SortSt}{i j:Nat}{Q:Option Bool->SortSt->Prop}(hA:dX prog w A s κ key a0) (hB:SB a0 κ st) (hi:i<a0.length) (hj:j<a0.length)
  (h:Q (some (O.blt (kA key (arrOf st) i) (kA key (arrOf st) j))) st):wpS (model prog w) A E s (ltAt' i j) Q st:=by
 rw[ltAt'_eq];refine wpS_bind (wpS_get (wpS_bind (aJ (by rw[hB.size];exact hi) (wpS_bind (aJ (by rw[hB.size];exact hj) ?_)))));exact se hA hB.kind (hB.mem hi) (hB.mem hj) h
theorem fR{xs:Array Keyed}{i j:Nat}(hj:j<=xs.size) (k:Nat):kA key (mirror xs i j ((j-i) / 2)) k=if i<=k/\k<j then kA key xs (i+j-1-k)else kA key xs k:=by
 have e:=getElem?_mirror_all (i:=i) hj k
 by_cases h:i<=k/\k<j
 ·rw[if_pos h]at e ⊢;exact aT e
 ·rw[if_neg h]at e ⊢;exact aT e
theorem cZ{xs:Array Keyed}{i j:Nat}(hj:j<=xs.size):Out i j xs (mirror xs i j ((j-i) / 2)):=fun k hk=>by
 rw[getElem?_mirror_all hj,if_neg (by omega)]
theorem nY{st:SortSt}{i j:Nat}{Q:Unit->SortSt->Prop}(hB:SB a0 κ st) (h:SB a0 κ (setArr st (mirror (arrOf st) i j ((j-i) / 2)))->Q () (setArr st (mirror (arrOf st) i j ((j-i) / 2)))):wpS (model prog w) A E s (reverseSlice' i j) Q st:=by
 rw[reverseSlice'_eq];exact wpS_modify (h (hB.arr (Array.perm_iff_toList_perm.mp (mirror_perm _ _ _ _))))
theorem dI{xs:Array Keyed}{i j:Nat}(hj:j<=xs.size) (he:∀k,i<=k->k<j->kA key xs k=kA key xs (j-1)) (k:Nat):kA key (mirror xs i j ((j-i) / 2)) k=kA key xs k:=by
 rw[fR hj]
 split
 ·rename_i h;rw[he _ (by omega) (by omega),he k h.1 h.2]
 ·rfl
theorem ly{a b:O.α}(h:O.blt a b=false):O.kle b a:=h
theorem fo{a b:O.α}(h:O.blt a b=true):O.kle a b:=KeyOrd.kle_of_klt h
def qx(lo a nrem:Nat):SM AscSt :=
 forIn [a:nrem] ((none,a):AscSt) fun _ r=>do
  match (<-ltAt' (lo+r.2) (lo+r.2-1))with
  |some smaller=>if smaller=true then pure (ForInStep.done (none,r.2))else pure (ForInStep.yield (none,r.2+1))
  |_=>pure (ForInStep.done (some none,r.2))
theorem vm{st:SortSt}{lo a nrem:Nat}{Q:AscSt->SortSt->Prop}(hA:dX prog w A s κ key a0) (hB:SB a0 κ st) (hz:lo+nrem<=a0.length) (h1:1<=a) (h2:a<=nrem) (hs:Up key (arrOf st) lo (lo+a))
  (h:∀m,a<=m->m<=nrem->Up key (arrOf st) lo (lo+m)->(m=nrem∨O.blt (kA key (arrOf st) (lo+m)) (kA key (arrOf st) (lo+m-1))=true)->Q (none,m) st):wpS (model prog w) A E s (qx lo a nrem) Q st:=by
 unfold qx;refine wpS_forRange (I:=fun i c st'=>st'=st/\c=(none,i)/\Up key (arrOf st) lo (lo+i)) ?_ ?_ ⟨rfl,rfl,hs⟩
 ·rintro i c st' ha hb ⟨rfl,rfl,hu⟩;dsimp only;refine wpS_bind (iC hA hB (by omega) (by omega) ?_);dsimp only;cases q:O.blt (kA key (arrOf st') (lo+i)) (kA key (arrOf st') (lo+i-1))with
  |true=>exact wpS_pure (h i ha (by omega) hu (.inr q))
  |false=>exact wpS_pure ⟨rfl,rfl,hu.more fun _=>ly q⟩
 ·rintro c st' ⟨rfl,rfl,hu⟩;rw[show max a nrem=nrem by omega]at hu ⊢;exact h nrem h2 (Nat.le_refl _) hu (.inl rfl)
theorem qy{st:SortSt}{lo n nrem:Nat}{Q:Option Nat->SortSt->Prop}{f:AscSt->SM (Option Nat)}(hA:dX prog w A s κ key a0) (hB:SB a0 κ st) (hz:lo+nrem<=a0.length) (h1:1<=n) (h2:n<=nrem) (hd:Dn key (arrOf st) lo (lo+n))
  (h:∀m st',SB a0 κ st'->pendingOf st'=pendingOf st->1<=m->m<=nrem->Up key (arrOf st') lo (lo+m)->Out lo (lo+nrem) (arrOf st) (arrOf st')->wpS (model prog w) A E s (f (none,m)) Q st'):wpS (model prog w) A E s (do reverseSlice' lo (lo+n);let r <-qx lo n nrem;f r) Q st:=by
 have sz:=hB.size;refine wpS_bind (nY hB fun hB'=>wpS_bind (vm hA hB' hz h1 h2 (fun i j a b c=>?_) fun m ha hb hu _=>?_))
 ·show O.kle (kA key (mirror _ _ _ _) _) (kA key (mirror _ _ _ _) _);rw[fR (by omega),fR (by omega),if_pos (by omega),if_pos (by omega)];exact hd _ _ (by omega) (by omega) (by omega)
 ·exact h m _ hB' rfl (by omega) hb hu fun i hi=>cZ (j:=lo+n) (by omega) i (by omega)
def qU(lo n nrem:Nat):SM DescSt :=
 forIn [n:nrem] ((none,n,0):DescSt) fun _ r=>do
  match (<-ltAt' (lo+r.2.1) (lo+r.2.1-1))with
  |some smaller =>
   if smaller=true then
    if r.2.2 > 0 then do
     reverseSlice' (lo+r.2.1-(r.2.2+1)) (lo+r.2.1)
     pure (ForInStep.yield (none,r.2.1+1,0))
    else pure (ForInStep.yield (none,r.2.1+1,0))
   else do
    match (<-ltAt' (lo+r.2.1-1) (lo+r.2.1))with
    |some larger =>
     if larger=true then pure (ForInStep.done (none,r.2.1,r.2.2))
     else pure (ForInStep.yield (none,r.2.1+1,r.2.2+1))
    |_=>pure (ForInStep.done (some none,r.2.1,r.2.2))
  |_=>pure (ForInStep.done (some none,r.2.1,r.2.2))
def zV(key:Keyed->O.α) (xs:Array Keyed) (lo x q:Nat):Prop:=q+1<=x/\∀i,lo+x-(q+1)<=i->i<lo+x->kA key xs i=kA key xs (lo+x-1)
theorem wa{st:SortSt}{lo n nrem:Nat}{Q:DescSt->SortSt->Prop}(hA:dX prog w A s κ key a0) (hB:SB a0 κ st) (hz:lo+nrem<=a0.length) (h1:1<=n) (h2:n<=nrem) (hd:Dn key (arrOf st) lo (lo+n))
  (h:∀m q st',SB a0 κ st'->pendingOf st'=pendingOf st->1<=m->m<=nrem->Dn key (arrOf st') lo (lo+m)->zV key (arrOf st') lo m q->Out lo (lo+nrem) (arrOf st) (arrOf st')->Q (none,m,q) st'):wpS (model prog w) A E s (qU lo n nrem) Q st:=by
 unfold qU;refine wpS_forRange (I:=fun i c st'=>∃q,c=(none,i,q)/\SB a0 κ st'/\pendingOf st'=pendingOf st/\Dn key (arrOf st') lo (lo+i)/\zV key (arrOf st') lo i q/\Out lo (lo+nrem) (arrOf st) (arrOf st')) ?_ ?_ ⟨0,rfl,hB,rfl,hd,⟨h1,fun i a b=>by obtain rfl:i=lo+n-1:=(by omega);rfl⟩,Out.refl⟩
 ·rintro i c st' ha hb ⟨q,rfl,hB',hp,hd',hl,ho⟩;have sz:=hB'.size;dsimp only;refine wpS_bind (iC hA hB' (by omega) (by omega) ?_);dsimp only;cases e:O.blt (kA key (arrOf st') (lo+i)) (kA key (arrOf st') (lo+i-1))with
  |true =>
   simp only[if_true]
   by_cases h0:q > 0
   ·rw[if_pos h0];refine wpS_bind (nY hB' fun hB2=>wpS_pure ⟨0,rfl,hB2,hp,?_,⟨by omega,fun k a b=>by obtain rfl:k=lo+(i+1)-1:=(by omega);rfl⟩,?_⟩)
    ·have same:=dI (key:=key) (xs:=arrOf st') (i:=lo+i-(q+1)) (j:=lo+i) (by omega) (fun k a b=>hl.2 k a b);refine Dn.more (x:=lo+i) (fun k j a b c=>?_) fun _=>?_
     ·show O.kle (kA key (mirror _ _ _ _) _) (kA key (mirror _ _ _ _) _);rw[same,same];exact hd' k j a b c
     ·show O.kle (kA key (mirror _ _ _ _) _) (kA key (mirror _ _ _ _) _);rw[same,same];exact fo e
    ·exact ho.trans (cZ (by omega)) (by have:=hl.1;omega) (by omega)
   ·rw[if_neg h0];exact wpS_pure ⟨0,rfl,hB',hp,Dn.more (x:=lo+i) hd' fun _=>fo e,⟨by omega,fun k a b=>by obtain rfl:k=lo+(i+1)-1:=(by omega);rfl⟩,ho⟩
  |false =>
   simp only[Bool.false_eq_true,if_false];refine wpS_bind (iC hA hB' (by omega) (by omega) ?_);dsimp only;cases e2:O.blt (kA key (arrOf st') (lo+i-1)) (kA key (arrOf st') (lo+i))with
   |true=>exact wpS_pure (h i q st' hB' hp (by omega) (by omega) hd' hl ho)
   |false =>
    simp only[Bool.false_eq_true,if_false];have eq:kA key (arrOf st') (lo+i)=kA key (arrOf st') (lo+i-1):=O.total _ _ e e2;refine wpS_pure ⟨q+1,rfl,hB',hp,Dn.more (x:=lo+i) hd' fun _=>ly e2,⟨by have:=hl.1;omega,fun k a b=>?_⟩,ho⟩;rw[show lo+(i+1)-1=lo+i by omega];rcases Nat.lt_or_ge k (lo+i)with h'|h'
    ·rw[eq];exact hl.2 k (by omega) h'
    ·obtain rfl:k=lo+i:=by omega
     rfl
 ·rintro c st' ⟨q,rfl,hB',hp,hd',hl,ho⟩;rw[show max n nrem=nrem by omega]at hd' hl ⊢;exact h nrem q st' hB' hp (by omega) (Nat.le_refl _) hd' hl ho
theorem nv{st:SortSt}{lo n nrem:Nat}{Q:Option Nat->SortSt->Prop}{f:DescSt->SM (Option Nat)}{g:AscSt->SM (Option Nat)}(hA:dX prog w A s κ key a0) (hB:SB a0 κ st) (hz:lo+nrem<=a0.length) (h2:n+1<=nrem) (hd:Dn key (arrOf st) lo (lo+(n+1)))
  (hf:∀m q,f (none,m,q)=if q > 0 then(do reverseSlice' (lo+m-(q+1)) (lo+m);reverseSlice' lo (lo+m);let r <-qx lo m nrem;g r)else(do reverseSlice' lo (lo+m);let r <-qx lo m nrem;g r))
  (h:∀m st',SB a0 κ st'->pendingOf st'=pendingOf st->1<=m->m<=nrem->Up key (arrOf st') lo (lo+m)->Out lo (lo+nrem) (arrOf st) (arrOf st')->wpS (model prog w) A E s (g (none,m)) Q st') :
  wpS (model prog w) A E s (do liftM (rule "list.sort.descending-run");let r <-qU lo (n+1) nrem;f r) Q st:=by
 refine wpS_bind (wpS_lift (wpAny_rule ⟨rfl,wpS_bind (wa hA hB hz (by omega) h2 hd fun m q st' hB' hp ha hb hd' hl ho=>?_)⟩));rw[hf];have sz:=hB'.size
 by_cases h0:q > 0
 ·rw[if_pos h0];refine wpS_bind (nY hB' fun hB2=>qy hA hB2 hz ha hb (fun i j a b c=>?_) fun m' st2 a b c d e f=>h m' st2 a (b.trans hp) c d e ((ho.trans (cZ (by omega)) (by have:=hl.1;omega) (by omega)).trans f (Nat.le_refl _) (Nat.le_refl _)));have same:=dI (key:=key) (xs:=arrOf st') (i:=lo+m-(q+1)) (j:=lo+m) (by omega) (fun k a b=>hl.2 k a b);show O.kle (kA key (mirror _ _ _ _) _) (kA key (mirror _ _ _ _) _);rw[same,same];exact hd' i j a b c
 ·rw[if_neg h0];exact qy hA hB' hz ha hb hd' fun m' st2 a b c d e f=>h m' st2 a (b.trans hp) c d e (ho.trans f (Nat.le_refl _) (Nat.le_refl _))
theorem sF{st:SortSt}{lo nrem:Nat}{Q:Option Nat->SortSt->Prop}(hA:dX prog w A s κ key a0) (hB:SB a0 κ st) (hz:lo+nrem<=a0.length) (h1:1<=nrem)
  (h:∀m st',SB a0 κ st'->pendingOf st'=pendingOf st->1<=m->m<=nrem->Up key (arrOf st') lo (lo+m)->Out lo (lo+nrem) (arrOf st) (arrOf st')->Q (some m) st'):wpS (model prog w) A E s (countRun' lo nrem) Q st:=by
 have sz:=hB.size;rw[countRun'_eq];dsimp only;refine wpS_bind (vm hA hB hz (Nat.le_refl 1) h1 (Up.one (by omega)) fun m ha hb hu hm=>?_);dsimp only
 by_cases e:m=nrem
 ·rw[if_pos (by simpa using e)];exact wpS_pure (h m st hB rfl ha hb hu Out.refl)
 ·rw[if_neg (by simpa using e)];have lt:=hm.resolve_left e
  by_cases g:m > 1
  ·rw[if_pos g];refine wpS_bind (iC hA hB (by omega) (by omega) ?_);dsimp only;cases q:O.blt (kA key (arrOf st) lo) (kA key (arrOf st) (lo+m-1))with
   |true=>exact wpS_pure (h m st hB rfl ha hb hu Out.refl)
   |false =>
    simp only[Bool.false_eq_true,if_false];have like:∀i,lo<=i->i<lo+m->kA key (arrOf st) i=kA key (arrOf st) (lo+m-1):=fun i h0 hi =>
     KeyOrd.kle_antisymm (hu i (lo+m-1) h0 (by omega) (by omega)) (KeyOrd.kle_trans (ly q) (hu lo i (Nat.le_refl _) h0 hi))
    have same:=dI (key:=key) (xs:=arrOf st) (i:=lo) (j:=lo+m) (by omega) like;refine wpS_bind (nY hB fun hB'=>nv (n:=m) hA hB' hz (by omega) ?_ (fun m q=>rfl) ?_)
    rotate_left
    ·exact fun m' st2 a b c d e f=>wpS_pure (h m' st2 a b c d e fun i hi=>(f i hi).trans (cZ (j:=lo+m) (by omega) i (by omega)))
    refine Dn.more (x:=lo+m) (fun i j a b c=>?_) fun _=>?_
    ·show O.kle (kA key (mirror _ _ _ _) _) (kA key (mirror _ _ _ _) _);rw[same,same,like i a (by omega),like j (by omega) c];exact KeyOrd.kle_refl _
    ·show O.kle (kA key (mirror _ _ _ _) _) (kA key (mirror _ _ _ _) _);rw[same,same];exact fo lt
  ·rw[if_neg g];obtain rfl:m=1:=by omega
   refine nv (n:=1) hA hB hz (by omega) (Dn.more (x:=lo+1) (fun i j a b c=>?_) fun _=>fo lt) (fun m q=>rfl) ?_
   rotate_left
   ·exact fun m' st2 a b c d e f=>wpS_pure (h m' st2 a b c d e f)
   obtain rfl:i=j:=by omega
   exact KeyOrd.kle_refl _
end
section
variable{prog:Program}{w:World}{A:Around}{E:Value->Shared->Prop}{s:Shared}{O:KeyOrd}{key:Keyed->O.α}{a0:List Keyed}{κ:SortKind}
theorem i5{xs:Array Keyed}{src d:Nat}(hs:src<xs.size) (hd:d<=src) (k:Nat):kA key (bubble xs src d) k=if k=src-d then kA key xs src else if src-d<k/\k<=src then kA key xs (k-1)else kA key xs k:=by
 have e:=getElem?_bubble hs d hd k
 by_cases h1:k=src-d
 ·rw[if_pos h1]at e ⊢;exact aT e
 ·rw[if_neg h1]at e ⊢
  by_cases h2:src-d<k/\k<=src
  ·rw[if_pos h2]at e ⊢;exact aT e
  ·rw[if_neg h2]at e ⊢;exact aT e
theorem zk{st:SortSt}{lo n ok:Nat}{Q:Bool->SortSt->Prop}(hA:dX prog w A s κ key a0) (hB:SB a0 κ st) (hz:lo+n<=a0.length) (hok:ok<=n) (hs:Up key (arrOf st) lo (lo+ok))
  (h:∀st',SB a0 κ st'->pendingOf st'=pendingOf st->Up key (arrOf st') lo (lo+n)->Out lo (lo+n) (arrOf st) (arrOf st')->Q true st'):wpS (model prog w) A E s (binarySort' lo n ok) Q st:=by
 rw[binarySort'_eq];refine wpS_bind (wpS_mono (wpS_forRange (I:=fun k c st'=>c=(none,())/\SB a0 κ st'/\pendingOf st'=pendingOf st/\Up key (arrOf st') lo (lo+min k n)/\Out lo (lo+n) (arrOf st) (arrOf st'))
  (Q:=fun c st'=>c=(none,())/\SB a0 κ st'/\pendingOf st'=pendingOf st/\Up key (arrOf st') lo (lo+n)/\Out lo (lo+n) (arrOf st) (arrOf st')) ?step ?fin ?init) ?post)
 case post =>
  rintro c st' ⟨rfl,hB',hp,hs',ho⟩;exact wpS_pure (h st' hB' hp hs' ho)
 case init =>
  refine⟨rfl,hB,rfl,fun i j h0 hij hj=>?_,Out.refl⟩
  by_cases h1:ok=0
  ·obtain rfl:i=j:=by omega
   exact KeyOrd.kle_refl _
  ·exact hs i j h0 hij (by omega)
 case fin =>
  rintro c st' ⟨hc,hB',hp,hs',ho⟩;refine⟨hc,hB',hp,?_,ho⟩
  rwa [show min (max (max ok 1) n) n=n by omega]at hs'
 case step =>
  rintro k c st' hak hkn ⟨rfl,hB',hp,hs',ho⟩;rw[show min k n=k by omega]at hs';refine wpS_bind (wpS_mono (wpS_forRange (I:=fun x c st''=>st''=st'/\∃l r,c=(none,l,r)/\l<=r/\r<=k/\r-l<=k-x /\
    (∀i,i<l->O.kle (kA key (arrOf st') (lo+i)) (kA key (arrOf st') (lo+k)))/\(∀i,r<=i->i<k->O.klt (kA key (arrOf st') (lo+k)) (kA key (arrOf st') (lo+i))))
   (Q:=fun c st'' => st'' = st' ∧ ∃ l r,c = (none,l,r) ∧ l ≤ k ∧
    (∀i,i<l->O.kle (kA key (arrOf st') (lo+i)) (kA key (arrOf st') (lo+k)))/\(∀i,l<=i->i<k->O.klt (kA key (arrOf st') (lo+k)) (kA key (arrOf st') (lo+i)))) ?istep ?ifin ?iinit) ?ipost)
  case iinit=>exact⟨rfl,0,k,rfl,by omega,by omega,by omega,fun i hi=>by omega,fun i h1 h2=>by omega⟩
  case ifin =>
   rintro c st'' ⟨rfl,l,r,rfl,hlr,hrk,hm,hlo,hhi⟩;obtain rfl:l=r:=by omega
   exact⟨rfl,l,l,rfl,hrk,hlo,hhi⟩
  case istep =>
   rintro x c st'' _ hxk ⟨rfl,l,r,rfl,hlr,hrk,hm,hlo,hhi⟩;dsimp only
   by_cases hge:l>=r
   ·rw[if_pos hge];obtain rfl:l=r:=by omega
    exact wpS_pure ⟨rfl,l,l,rfl,hrk,hlo,hhi⟩
   ·rw[if_neg hge];refine wpS_bind (iC hA hB' (by omega) (by omega) ?_);dsimp only;cases q:O.blt (kA key (arrOf st'') (lo+k)) (kA key (arrOf st'') (lo+(l+r) / 2))with
    |true=>exact wpS_pure ⟨rfl,l,(l+r) / 2,rfl,by omega,by omega,by omega,hlo,fun i h1 h2=>KeyOrd.klt_of_klt_of_kle q (hs' _ _ (by omega) (by omega) (by omega))⟩
    |false=>exact wpS_pure ⟨rfl,(l+r) / 2+1,r,rfl,by omega,by omega,by omega,fun i h1=>KeyOrd.kle_trans (hs' (lo+i) (lo+(l+r) / 2) (by omega) (by omega) (by omega)) q,hhi⟩
  case ipost =>
   rintro c st'' ⟨rfl,l,r,rfl,hlk,hlo,hhi⟩;show wpS _ _ _ _ (do moveDown' (lo+k) (lo+l);pure (ForInStep.yield (none,()))) _ _;rw[moveDown'_eq];have sz:=hB'.size;have hks:lo+k<(arrOf st'').size:=by omega
   refine wpS_bind (wpS_modify (wpS_pure ⟨rfl,hB'.arr (Array.perm_iff_toList_perm.mp (bubble_perm _ _ _)),hp,?_,?_⟩))
   ·rw[show min (k+1) n=k+1 by omega];intro i j h0 hij hj;show O.kle (kA key (bubble (arrOf st'') (lo+k) (lo+k-(lo+l))) i) (kA key (bubble (arrOf st'') (lo+k) (lo+k-(lo+l))) j);have hhi':∀i,lo+l<=i->i<lo+k->O.klt (kA key (arrOf st'') (lo+k)) (kA key (arrOf st'') i):=fun i a b=>by
     have:=hhi (i-lo) (by omega) (by omega)
     rwa [show lo+(i-lo)=i by omega]at this
    have hlo':∀i,lo<=i->i<lo+l->O.kle (kA key (arrOf st'') i) (kA key (arrOf st'') (lo+k)):=fun i a b=>by
     have:=hlo (i-lo) (by omega)
     rwa [show lo+(i-lo)=i by omega]at this
    rw[i5 hks (by omega),i5 hks (by omega),show lo+k-(lo+k-(lo+l))=lo+l by omega]
    repeat' split
    all_goals first
     |(exfalso;omega)
     |exact KeyOrd.kle_refl _
     |exact hlo' _ (by omega) (by omega)
     |exact KeyOrd.kle_of_klt (hhi' _ (by omega) (by omega))
     |exact hs' _ _ (by omega) (by omega) (by omega)
   ·refine ho.trans (lo':=lo) (hi':=lo+n) (fun i hi=>?_) (Nat.le_refl _) (Nat.le_refl _);show(bubble (arrOf st'') (lo+k) (lo+k-(lo+l)))[i]?=_;rw[getElem?_bubble hks _ (by omega),if_neg (by omega),if_neg (by omega)]
def tY:Bool->Keyed->Array Keyed->Nat->Nat->Nat->SM (Option Nat):=sortPriv% PySem.Builtin.gallop
def Ahd(key:Keyed->O.α) (left:Bool) (y:Keyed) (x:Keyed):Bool:=if left then O.blt (key x) (key y)else !O.blt (key y) (key x)
theorem n4{left:Bool}{y:Keyed}{arr:Array Keyed}{k:Nat}{st:SortSt}{Q:Option Bool->SortSt->Prop}(hA:dX prog w A s κ key a0) (hk:kindOf st=κ) (hy:y∈a0) (hx:gA arr k∈a0) (hz:k<arr.size) (h:Q (some (Ahd key left y (gA arr k))) st) :
  wpS (model prog w) A E s (do let x <-elem' arr k;if left=true then lt' x y else do let r <-lt' y x;pure (Option.map (fun x=>!x) r)) Q st:=by
 refine wpS_bind (aJ hz ?_);unfold Ahd at h;cases left with
 |true=>exact se hA hk hx hy h
 |false=>exact wpS_bind (se hA hk hy hx (wpS_pure h))
theorem cK{left:Bool}{y:Keyed}{arr:Array Keyed}{base n hint:Nat}{st:SortSt}{Q:Option Nat->SortSt->Prop}(hA:dX prog w A s κ key a0) (hk:kindOf st=κ) (hy:y∈a0) (hin:∀i,i<n->gA arr (base+i)∈a0) (hz:base+n<=arr.size) (hh:hint<n)
  (mono:∀i j,i<=j->j<n->Ahd key left y (gA arr (base+j))=true->Ahd key left y (gA arr (base+i))=true)
  (h:∀k,k<=n->(∀i,i<k->Ahd key left y (gA arr (base+i))=true)->(∀i,k<=i->i<n->Ahd key left y (gA arr (base+i))=false)->Q (some k) st):wpS (model prog w) A E s (tY left y arr base n hint) Q st:=by
 have nm:∀i j,i<=j->j<n->Ahd key left y (gA arr (base+i))=false->Ahd key left y (gA arr (base+j))=false:=fun i j hij hj e=>by
  cases q:Ahd key left y (gA arr (base+j))with
  |false=>rfl
  |true=>rw[mono i j hij hj q]at e;cases e
 have last:∀{f:Option (Option Nat)×Nat×Nat->SM (Option Nat)} {lo hi:Nat},(∀lo hi,f (none,lo,hi)=pure (some hi))->lo<=hi->hi<=n->(∀i,i<lo->Ahd key left y (gA arr (base+i))=true)->(∀i,hi<=i->i<n->Ahd key left y (gA arr (base+i))=false) ->
   wpS (model prog w) A E s (do
    let r <-forIn [:n] ((none,lo,hi):Option (Option Nat)×Nat×Nat) fun _ r=>if r.2.1>=r.2.2 then pure (ForInStep.done (none,r.2.1,r.2.2))else do
     let x <-(do let x <-elem' arr (base+(r.2.1+(r.2.2-r.2.1) / 2));if left=true then lt' x y else do let r <-lt' y x;pure (Option.map (fun x=>!x) r))
     match x with
     |some more=>if more=true then pure (ForInStep.yield (none,r.2.1+(r.2.2-r.2.1) / 2+1,r.2.2))else pure (ForInStep.yield (none,r.2.1,r.2.1+(r.2.2-r.2.1) / 2))
     |x=>pure (ForInStep.done (some none,r.2.1,r.2.2))
    f r) Q st:=by
  intro f lo hi hf h1 h2 h3 h4;refine wpS_bind (wpS_mono (wpS_forRange (I:=fun x c st'=>st'=st/\∃lo hi,c=(none,lo,hi)/\lo<=hi/\hi<=n/\hi-lo<=n-x/\(∀i,i<lo->Ahd key left y (gA arr (base+i))=true)/\(∀i,hi<=i->i<n->Ahd key left y (gA arr (base+i))=false))
   (Q:=fun c st'=>st'=st/\∃lo hi,c=(none,lo,hi)/\lo=hi/\hi<=n/\(∀i,i<lo->Ahd key left y (gA arr (base+i))=true)/\(∀i,hi<=i->i<n->Ahd key left y (gA arr (base+i))=false)) ?_ ?_ ⟨rfl,lo,hi,rfl,h1,h2,by omega,h3,h4⟩) ?_)
  ·rintro x c st' _ hx ⟨rfl,lo,hi,rfl,g1,g2,g3,g4,g5⟩;dsimp only
   by_cases hge:lo>=hi
   ·rw[if_pos hge];exact wpS_pure ⟨rfl,lo,hi,rfl,by omega,g2,g4,g5⟩
   ·rw[if_neg hge];refine wpS_bind (n4 hA hk hy (hin _ (by omega)) (by omega) ?_);dsimp only;cases q:Ahd key left y (gA arr (base+(lo+(hi-lo) / 2)))with
    |true=>exact wpS_pure ⟨rfl,_,_,rfl,by omega,g2,by omega,fun i hi'=>mono i _ (by omega) (by omega) q,g5⟩
    |false=>exact wpS_pure ⟨rfl,_,_,rfl,by omega,by omega,by omega,g4,fun i a b=>nm _ i a b q⟩
  ·rintro c st' ⟨rfl,lo,hi,rfl,g1,g2,g3,g4,g5⟩;exact⟨rfl,lo,hi,rfl,by omega,g2,g4,g5⟩
  ·rintro c st' ⟨rfl,lo,hi,rfl,rfl,g2,g4,g5⟩;rw[hf];exact wpS_pure (h _ g2 g4 g5)
 show wpS _ _ _ _ (Bind.bind _ _) _ _;refine wpS_bind (n4 hA hk hy (hin _ hh) (by omega) ?_);dsimp only;cases q:Ahd key left y (gA arr (base+hint))with
 |true =>
  simp only[if_true];refine wpS_bind (wpS_mono (wpS_forRange (I:=fun x c st'=>st'=st/\∃l o,c=(none,l,o)/\x+1<=o/\l<o/\l<n-hint/\Ahd key left y (gA arr (base+(hint+l)))=true)
   (Q:=fun c st'=>st'=st/\∃l o,c=(none,l,o)/\l<o/\l<n-hint/\Ahd key left y (gA arr (base+(hint+l)))=true/\(n-hint<=o∨o<n-hint/\Ahd key left y (gA arr (base+(hint+o)))=false)) ?_ ?_ ⟨rfl,0,1,rfl,by omega,by omega,by omega,q⟩) ?_)
  ·rintro x c st' _ hx ⟨rfl,l,o,rfl,g1,g2,g3,g4⟩;dsimp only
   by_cases hge:o>=n-hint
   ·rw[if_pos hge];exact wpS_pure ⟨rfl,l,o,rfl,g2,g3,g4,.inl hge⟩
   ·rw[if_neg hge];refine wpS_bind (n4 hA hk hy (hin _ (by omega)) (by omega) ?_);dsimp only;cases q:Ahd key left y (gA arr (base+(hint+o)))with
    |true=>exact wpS_pure ⟨rfl,_,_,rfl,by omega,by omega,by omega,q⟩
    |false=>exact wpS_pure ⟨rfl,_,_,rfl,g2,g3,g4,.inr ⟨by omega,q⟩⟩
  ·rintro c st' ⟨rfl,l,o,rfl,g1,g2,g3,g4⟩;exact⟨rfl,l,o,rfl,g2,g3,g4,.inl (by omega)⟩
  ·rintro c st' ⟨rfl,l,o,rfl,g2,g3,g4,g5⟩;dsimp only;refine last (fun _ _=>rfl) (by omega) (by omega) (fun i hi=>mono i (hint+l) (by omega) (by omega) g4) fun i a b=>?_;rcases g5 with g5|⟨g5,g6⟩
   ·omega
   ·exact nm _ i (by omega) b g6
 |false =>
  simp only[Bool.false_eq_true,if_false];refine wpS_bind (wpS_mono (wpS_forRange (I:=fun x c st'=>st'=st/\∃l o,c=(none,l,o)/\x+1<=o/\l<o/\l<hint+1/\Ahd key left y (gA arr (base+(hint-l)))=false)
   (Q:=fun c st'=>st'=st/\∃l o,c=(none,l,o)/\l<o/\l<hint+1/\Ahd key left y (gA arr (base+(hint-l)))=false/\(hint+1<=o∨o<hint+1/\Ahd key left y (gA arr (base+(hint-o)))=true)) ?_ ?_ ⟨rfl,0,1,rfl,by omega,by omega,by omega,q⟩) ?_)
  ·rintro x c st' _ hx ⟨rfl,l,o,rfl,g1,g2,g3,g4⟩;dsimp only
   by_cases hge:o>=hint+1
   ·rw[if_pos hge];exact wpS_pure ⟨rfl,l,o,rfl,g2,g3,g4,.inl hge⟩
   ·rw[if_neg hge];refine wpS_bind (n4 hA hk hy (hin _ (by omega)) (by omega) ?_);dsimp only;cases q:Ahd key left y (gA arr (base+(hint-o)))with
    |false=>exact wpS_pure ⟨rfl,_,_,rfl,by omega,by omega,by omega,q⟩
    |true=>exact wpS_pure ⟨rfl,_,_,rfl,g2,g3,g4,.inr ⟨by omega,q⟩⟩
  ·rintro c st' ⟨rfl,l,o,rfl,g1,g2,g3,g4⟩;exact⟨rfl,l,o,rfl,g2,g3,g4,.inl (by omega)⟩
  ·rintro c st' ⟨rfl,l,o,rfl,g2,g3,g4,g5⟩;dsimp only;refine last (fun _ _=>rfl) (by omega) (by omega) (fun i hi=>?_) fun i a b=>nm (hint-l) i (by omega) b g4;rcases g5 with g5|⟨g5,g6⟩
   ·omega
   ·exact mono i _ (by omega) (by omega) g6
end
structure MS(R:Keyed->Keyed->Prop) (tot out ra rb:List Keyed):Prop where
 perm:(out++(ra++rb)).Perm tot
 so:out.Pairwise R
 la:∀z∈out,∀x∈ra,R z x
 lb:∀z∈out,∀x∈rb,R z x
 sa:ra.Pairwise R
 sb:rb.Pairwise R
theorem MS.swap{R:Keyed->Keyed->Prop}{tot out ra rb:List Keyed}(h:MS R tot out ra rb):MS R tot out rb ra :=
 ⟨(List.Perm.append_left _ List.perm_append_comm).trans h.perm,h.so,h.lb,h.la,h.sb,h.sa⟩
theorem MS.take{R:Keyed->Keyed->Prop}{tot out c ra rb:List Keyed}(h:MS R tot out (c++ra) rb) (k:∀x∈c,∀y∈rb,R x y):MS R tot (out++c) ra rb:=by
 have sa:=List.pairwise_append.mp h.sa;refine⟨by simpa using h.perm,List.pairwise_append.mpr ⟨h.so,sa.1,fun z hz x hx=>h.la z hz x (by simp[hx])⟩,fun z hz x hx=>?_,fun z hz y hy=>?_,sa.2.1,h.sb⟩
 ·rcases List.mem_append.mp hz with hz|hz
  ·exact h.la z hz x (by simp[hx])
  ·exact sa.2.2 z hz x hx
 ·rcases List.mem_append.mp hz with hz|hz
  ·exact h.lb z hz y hy
  ·exact k z hz y hy
def Fn(R:Keyed->Keyed->Prop) (tot r:List Keyed):Prop:=r.Perm tot/\r.Pairwise R
theorem MS.fin{R:Keyed->Keyed->Prop}{tot out ra rb:List Keyed}(h:MS R tot out ra rb) (k:∀x∈ra,∀y∈rb,R x y):Fn R tot (out++ra++rb):=by
 refine⟨by simpa using h.perm,List.pairwise_append.mpr ⟨List.pairwise_append.mpr ⟨h.so,h.sa,h.la⟩,h.sb,fun z hz y hy=>?_⟩⟩;rcases List.mem_append.mp hz with hz|hz
 ·exact h.lb z hz y hy
 ·exact k z hz y hy
theorem bA{a:Array Keyed}{i:Nat}(h:i<a.size):a.toList[i]?=some (gA a i):=by rw[Array.getElem?_toList,rO h]
theorem tw{a:Array Keyed}{i:Nat}(h:i<a.size):a.toList.drop i=gA a i::a.toList.drop (i+1):=by
 have h':i<a.toList.length:=by simpa using h
 rw[List.drop_eq_getElem_cons h'];have:=bA h;rw[List.getElem?_eq_getElem h']at this;rw[Option.some.inj this]
theorem cp{a:Array Keyed}{i:Nat}{x:Keyed}(h:x∈a.toList.drop i):∃j,i<=j/\j<a.size/\x=gA a j:=by
 obtain⟨j,e⟩:=List.mem_iff_getElem?.mp h;have hj:=(List.getElem?_eq_some_iff.mp e).1;rw[List.getElem?_drop]at e;have lt:i+j<a.size:=by simpa using(List.getElem?_eq_some_iff.mp e).1
 rw[bA lt]at e;exact⟨i+j,by omega,lt,(Option.some.inj e).symm⟩
theorem dB{a:Array Keyed}{i k:Nat}(h:i+k<=a.size):a.toList.drop i=(a.extract i (i+k)).toList++a.toList.drop (i+k):=by
 rw[Array.toList_extract,List.extract_eq_take_drop,show i+k-i=k by omega,<-List.drop_drop,List.take_append_drop]
theorem cL{a:Array Keyed}{i j:Nat}{x:Keyed}(hj:j<=a.size) (h:x∈(a.extract i j).toList):∃k,i<=k/\k<j/\x=gA a k:=by
 rw[Array.toList_extract,List.extract_eq_take_drop]at h;obtain⟨k,e⟩:=List.mem_iff_getElem?.mp h;have hk:=(List.getElem?_eq_some_iff.mp e).1;rw[List.length_take,List.length_drop]at hk;rw[List.getElem?_take_of_lt (by omega),List.getElem?_drop]at e;rw[bA (by omega)]at e;exact⟨i+k,by omega,by omega,(Option.some.inj e).symm⟩
section
variable{prog:Program}{w:World}{A:Around}{E:Value->Shared->Prop}{s:Shared}{O:KeyOrd}{key:Keyed->O.α}{a0:List Keyed}{κ:SortKind}
def kl(key:Keyed->O.α) (x y:Keyed):Prop:=O.kle (key x) (key y)
def ML(key:Keyed->O.α) (a b out:Array Keyed) (ia ib:Nat):Prop:=MS (kl key) (a.toList++b.toList) out.toList (a.toList.drop ia) (b.toList.drop ib)
abbrev FL(key:Keyed->O.α) (a b r:Array Keyed):Prop:=Fn (kl key) (a.toList++b.toList) r.toList
variable{a b out:Array Keyed}{ia ib k:Nat}
theorem ML.ua(h:ML key a b out ia ib) {i j:Nat}(h1:ia<=i) (h2:i<=j) (h3:j<a.size):kl key (gA a i) (gA a j):=by
 rcases Nat.lt_or_ge i j with lt|ge
 ·have:=List.pairwise_iff_getElem.mp h.sa (i-ia) (j-ia) (by simp;omega) (by simp;omega) (by omega);rw[List.getElem_drop,List.getElem_drop]at this;have e1:=bA (a:=a) (i:=i) (by omega);have e2:=bA (a:=a) (i:=j) h3;rw[List.getElem?_eq_getElem (by simp;omega)]at e1 e2;rw[<-Option.some.inj e1,<-Option.some.inj e2];simpa[show ia+(i-ia)=i by omega,show ia+(j-ia)=j by omega]using this
 ·obtain rfl:i=j:=by omega
  exact KeyOrd.kle_refl _
theorem ML.ub(h:ML key a b out ia ib) {i j:Nat}(h1:ib<=i) (h2:i<=j) (h3:j<b.size):kl key (gA b i) (gA b j):=by
 rcases Nat.lt_or_ge i j with lt|ge
 ·have:=List.pairwise_iff_getElem.mp h.sb (i-ib) (j-ib) (by simp;omega) (by simp;omega) (by omega);rw[List.getElem_drop,List.getElem_drop]at this;have e1:=bA (a:=b) (i:=i) (by omega);have e2:=bA (a:=b) (i:=j) h3;rw[List.getElem?_eq_getElem (by simp;omega)]at e1 e2;rw[<-Option.some.inj e1,<-Option.some.inj e2];simpa[show ib+(i-ib)=i by omega,show ib+(j-ib)=j by omega]using this
 ·obtain rfl:i=j:=by omega
  exact KeyOrd.kle_refl _
theorem ML.chA(h:ML key a b out ia ib) (hk:ia+k<=a.size) (q:ib<b.size->∀i,ia<=i->i<ia+k->kl key (gA a i) (gA b ib)):ML key a b (out++a.extract ia (ia+k)) (ia+k) ib:=by
 have h':=h;unfold ML at h' ⊢;rw[dB hk]at h';rw[Array.toList_append];refine h'.take fun x hx y hy=>?_;obtain⟨i,i1,i2,rfl⟩:=cL hk hx;obtain⟨j,j1,j2,rfl⟩:=cp hy;exact KeyOrd.kle_trans (q (by omega) i i1 i2) (h.ub (Nat.le_refl _) j1 j2)
theorem ML.chB(h:ML key a b out ia ib) (hk:ib+k<=b.size) (q:ia<a.size->∀i,ib<=i->i<ib+k->kl key (gA b i) (gA a ia)):ML key a b (out++b.extract ib (ib+k)) ia (ib+k):=by
 have h':=h.swap;unfold ML at h ⊢;rw[dB hk]at h';rw[Array.toList_append];refine(h'.take fun x hx y hy=>?_).swap;obtain⟨i,i1,i2,rfl⟩:=cL hk hx;obtain⟨j,j1,j2,rfl⟩:=cp hy;exact KeyOrd.kle_trans (q (by omega) i i1 i2) (ML.ua h (Nat.le_refl _) j1 j2)
theorem j7{a:Array Keyed}{i:Nat}(h:i<a.size):out++a.extract i (i+1)=out.push (gA a i):=by
 apply Array.toList_inj.mp;have:=dB (a:=a) (i:=i) (k:=1) (by omega);rw[tw h]at this;rw[Array.toList_append,Array.toList_push];congr 1;have e:(a.extract i (i+1)).toList.length=1:=by simp;omega
 match q:(a.extract i (i+1)).toList,e with
 |[z],_=>rw[q]at this;simp at this;rw[this]
theorem ML.puA(h:ML key a b out ia ib) (hk:ia<a.size) (q:ib<b.size->kl key (gA a ia) (gA b ib)):ML key a b (out.push (gA a ia)) (ia+1) ib:=by
 rw[<-j7 hk];exact h.chA hk fun hb i h1 h2=>by obtain rfl:i=ia:=(by omega);exact q hb
theorem ML.puB(h:ML key a b out ia ib) (hk:ib<b.size) (q:ia<a.size->kl key (gA b ib) (gA a ia)):ML key a b (out.push (gA b ib)) ia (ib+1):=by
 rw[<-j7 hk];exact h.chB hk fun hb i h1 h2=>by obtain rfl:i=ib:=(by omega);exact q hb
theorem gF{a:Array Keyed}{i:Nat}:(a.extract i a.size).toList=a.toList.drop i:=by
 rw[Array.toList_extract,List.extract_eq_take_drop,List.take_of_length_le (by simp)]
theorem ML.done(h:ML key a b out ia ib) (e:ib=b.size∨ia=a.size):FL key a b (out++a.extract ia a.size++b.extract ib b.size):=by
 unfold FL;rw[Array.toList_append,Array.toList_append,gF,gF];refine h.fin fun x hx y hy=>?_;obtain⟨i,i1,i2,rfl⟩:=cp hx;obtain⟨j,j1,j2,rfl⟩:=cp hy;omega
theorem ML.lastA(h:ML key a b out ia ib) (e:ia+1=a.size) (hl:∀j,j<b.size->kl key (gA b j) (gA a (a.size-1))):FL key a b (out++b.extract ib b.size++a.extract ia a.size):=by
 unfold FL;rw[Array.toList_append,Array.toList_append,gF,gF];refine h.swap.fin fun x hx y hy=>?_;obtain⟨i,i1,i2,rfl⟩:=cp hy;obtain⟨j,j1,j2,rfl⟩:=cp hx;obtain rfl:i=a.size-1:=by omega
 exact hl j j2
end
section
variable{prog:Program}{w:World}{A:Around}{E:Value->Shared->Prop}{s:Shared}{O:KeyOrd}{key:Keyed->O.α}{a0:List Keyed}{κ:SortKind}{a b out:Array Keyed}{ia ib k:Nat}
structure Sg(st st':SortSt):Prop where
 k:kindOf st'=kindOf st
 a:arrOf st'=arrOf st
 p:pendingOf st'=pendingOf st
 f:failedOf st'=failedOf st
theorem fc{x y:Keyed}:Ahd key false y x=true↔kl key x y:=by simp[Ahd,kl,KeyOrd.kle]
theorem mK{x y:Keyed}:Ahd key false y x=false↔O.blt (key y) (key x)=true:=by simp[Ahd]
theorem fu{x y:Keyed}:Ahd key true y x=true↔O.klt (key x) (key y):=by simp[Ahd,KeyOrd.klt]
theorem ml{x y:Keyed}:Ahd key true y x=false↔kl key y x:=by simp[Ahd,kl,KeyOrd.kle]
def qJ:Array Keyed->Array Keyed->SM (Array Keyed):=sortPriv% PySem.Builtin.mergeLo
theorem yo{st:SortSt}{Q:Array Keyed->SortSt->Prop}(hA:dX prog w A s κ key a0) (hk:kindOf st=κ) (ha:∀i,i<a.size->gA a i∈a0) (hb:∀i,i<b.size->gA b i∈a0) (za:1<=a.size) (zb:1<=b.size)
  (h0:ML key a b #[] 0 0) (hf:kl key (gA b 0) (gA a 0)) (hl:∀j,j<b.size->kl key (gA b j) (gA a (a.size-1))) (h:∀r st',Sg st st'->FL key a b r->Q r st'):wpS (model prog w) A E s (qJ a b) Q st:=by
 refine wpS_bind (wpS_lift (wpAny_rule ⟨rfl,?_⟩));dsimp only;refine wpS_bind (aJ (by omega) ?_);have h1:ML key a b #[gA b 0] 0 1:=h0.puB zb fun _=>hf
 by_cases e1:1=b.size
 ·rw[if_pos (by simpa using e1)];exact wpS_pure (h _ _ ⟨rfl,rfl,rfl,rfl⟩ (h1.done (.inl e1)))
 ·rw[if_neg (by simpa using e1)]
  by_cases e2:0+1=a.size
  ·rw[if_pos (by simpa using e2)];exact wpS_pure (h _ _ ⟨rfl,rfl,rfl,rfl⟩ (h1.lastA e2 hl))
  ·rw[if_neg (by simpa using e2)];refine wpS_bind (wpS_get ?_);refine wpS_bind (wpS_mono (wpS_forRange (I:=fun x c st'=>Sg st st'/\∃out ia ib g,c=(none,out,ia,ib,g)/\ML key a b out ia ib/\ia+1<a.size/\ib<b.size/\x<=ia+ib)
    (Q:=fun c st'=>Sg st st'/\∃r c',c=(some r,c')/\FL key a b r) ?_ ?_ ⟨⟨rfl,rfl,rfl,rfl⟩,_,_,_,_,rfl,h1,by omega,by omega,by omega⟩) ?_)
   ·rintro x c st1 _ hx ⟨sg,out,ia,ib,g,rfl,m,la,lb,pr⟩;dsimp only;refine wpS_bind (wpS_mono (wpS_forRange (I:=fun y c st'=>Sg st st'/\∃out ia ib ac bc,c=(none,out,ia,ib,ac,bc)/\ML key a b out ia ib/\ia+1<a.size/\ib<b.size/\x+min y 1<=ia+ib)
     (Q:=fun c st'=>Sg st st'/\((∃r c',c=(some r,c')/\FL key a b r)∨∃out ia ib ac bc,c=(none,out,ia,ib,ac,bc)/\ML key a b out ia ib/\ia+1<a.size/\ib<b.size/\x+1<=ia+ib)) ?_ ?_ ⟨sg,_,_,_,_,_,rfl,m,la,lb,by omega⟩) ?_)
    ·rintro y c st2 _ hy ⟨sg,out,ia,ib,ac,bc,rfl,m,la,lb,pr⟩;dsimp only;refine wpS_bind (aJ lb (wpS_bind (aJ (by omega) (wpS_bind (se hA (sg.k.trans hk) (hb ib lb) (ha ia (by omega)) ?_)))));dsimp only;cases q:O.blt (key (gA b ib)) (key (gA a ia))with
     |true =>
      simp only[if_true];have m':=m.puB lb fun _=>fo q;refine wpS_bind (aJ lb ?_)
      by_cases e:ib+1=b.size
      ·rw[if_pos (by simpa using e)];exact wpS_pure ⟨sg,.inl ⟨_,_,rfl,m'.done (.inl e)⟩⟩
      ·rw[if_neg (by simpa using e)]
       split
       ·exact wpS_pure ⟨sg,.inr ⟨_,_,_,_,_,rfl,m',la,by omega,by omega⟩⟩
       ·exact wpS_pure ⟨sg,_,_,_,_,_,rfl,m',la,by omega,by omega⟩
     |false =>
      simp only[Bool.false_eq_true,if_false];have m':=m.puA (by omega) fun _=>ly q;refine wpS_bind (aJ (by omega) ?_)
      by_cases e:ia+1+1=a.size
      ·rw[if_pos (by simpa using e)];exact wpS_pure ⟨sg,.inl ⟨_,_,rfl,m'.lastA e hl⟩⟩
      ·rw[if_neg (by simpa using e)]
       split
       ·exact wpS_pure ⟨sg,.inr ⟨_,_,_,_,_,rfl,m',by omega,lb,by omega⟩⟩
       ·exact wpS_pure ⟨sg,_,_,_,_,_,rfl,m',by omega,lb,by omega⟩
    ·rintro c st2 ⟨sg,out,ia,ib,ac,bc,rfl,m,la,lb,pr⟩;exact⟨sg,.inr ⟨_,_,_,_,_,rfl,m,la,lb,by omega⟩⟩
    ·rintro c st2 ⟨sg,⟨r,c',rfl,fl⟩|⟨out,ia,ib,ac,bc,rfl,m,la,lb,pr⟩⟩
     ·exact wpS_pure ⟨sg,r,_,rfl,fl⟩
     ·dsimp only;refine wpS_bind (wpS_lift (wpAny_rule ⟨rfl,?_⟩));refine wpS_bind (wpS_mono (wpS_forRange (I:=fun y c st'=>Sg st st'/\∃out ia ib mg ac bc,c=(none,out,ia,ib,mg,ac,bc)/\ML key a b out ia ib/\ia+1<a.size/\ib<b.size/\x+1<=ia+ib)
       (Q:=fun c st'=>Sg st st'/\((∃r c',c=(some r,c')/\FL key a b r)∨∃out ia ib mg ac bc,c=(none,out,ia,ib,mg,ac,bc)/\ML key a b out ia ib/\ia+1<a.size/\ib<b.size/\x+1<=ia+ib)) ?_ ?_ ⟨sg,_,_,_,_,_,_,rfl,m,la,lb,by omega⟩) ?_)
      ·rintro y c st2 _ hy ⟨sg,out,ia,ib,mg,ac,bc,rfl,m,la,lb,pr⟩;dsimp only
       by_cases g0:mg > 1
       all_goals first|rw[if_pos g0]|rw[if_neg g0]
       all_goals
        refine wpS_bind (wpS_modify ?_);refine wpS_bind (aJ lb (wpS_bind (cK hA (sg.k.trans hk) (hb ib lb) (fun i hi=>ha _ (by omega)) (by omega) (by omega) (fun i j hij hj z=>fc.mpr (KeyOrd.kle_trans (m.ua (by omega) (by omega) (by omega)) (fc.mp z))) fun k hk1 hlt hge=>?_)));have up:∀i,ia+k<=i->i<a.size->kl key (gA b ib) (gA a i):=fun i i1 i2=>by
         have:=hge (i-ia) (by omega) (by omega);rw[show ia+(i-ia)=i by omega]at this;exact fo (mK.mp this)
        dsimp only
        by_cases k0:k > 0
        all_goals first
         |
          rw[if_pos k0];have m1:=m.chA (k:=k) (by omega) fun _ i i1 i2=>by
           have:=hlt (i-ia) (by omega);rw[show ia+(i-ia)=i by omega]at this;exact fc.mp this
          by_cases e1:ia+k+1=a.size
          ·rw[if_pos (by simpa using e1)];exact wpS_pure ⟨⟨sg.k,sg.a,sg.p,sg.f⟩,.inl ⟨_,_,rfl,m1.lastA e1 hl⟩⟩
          rw[if_neg (by simpa using e1)]
          by_cases e2:ia+k=a.size
          ·rw[if_pos (by simpa using e2)];exact wpS_pure ⟨⟨sg.k,sg.a,sg.p,sg.f⟩,.inl ⟨_,_,rfl,m1.done (.inr e2)⟩⟩
          rw[if_neg (by simpa using e2)];have l1:ia+k+1<a.size:=by omega
         |
          rw[if_neg k0];obtain rfl:k=0:=by omega
          have m1:=m;have l1:=la
        all_goals
         have m2:=m1.puB lb fun z=>up _ (by omega) z;refine wpS_bind (aJ lb ?_)
         by_cases e3:ib+1=b.size
         ·rw[if_pos (by simpa using e3)];exact wpS_pure ⟨⟨sg.k,sg.a,sg.p,sg.f⟩,.inl ⟨_,_,rfl,m2.done (.inl e3)⟩⟩
         ·rw[if_neg (by simpa using e3)];refine wpS_bind (aJ (by omega) (wpS_bind (cK hA (sg.k.trans hk) (ha _ (by omega)) (fun i hi=>hb _ (by omega)) (by omega) (by omega) (fun i j hij hj z=>fu.mpr (KeyOrd.klt_of_kle_of_klt (m.ub (by omega) (by omega) (by omega)) (fu.mp z))) fun k' hk1' hlt' hge'=>?_)));dsimp only
          by_cases k0':k' > 0
          all_goals first
           |
            rw[if_pos k0'];have m3:=m2.chB (k:=k') (by omega) fun _ i i1 i2=>by
             have:=hlt' (i-(ib+1)) (by omega);rw[show ib+1+(i-(ib+1))=i by omega]at this;exact KeyOrd.kle_of_klt (fu.mp this)
            by_cases e4:ib+1+k'=b.size
            ·rw[if_pos (by simpa using e4)];exact wpS_pure ⟨⟨sg.k,sg.a,sg.p,sg.f⟩,.inl ⟨_,_,rfl,m3.done (.inl e4)⟩⟩
            rw[if_neg (by simpa using e4)];have l3:ib+1+k'<b.size:=by omega
           |
            rw[if_neg k0'];obtain rfl:k'=0:=by omega
            have m3:=m2;have l3:ib+1<b.size:=by omega
          all_goals
           have m4:=m3.puA (by omega) fun z=>ml.mp (hge' _ (Nat.le_refl _) (by omega));refine wpS_bind (aJ (by omega) ?_)
           split
           ·rename_i e5;exact wpS_pure ⟨⟨sg.k,sg.a,sg.p,sg.f⟩,.inl ⟨_,_,rfl,m4.lastA (by simpa using e5) hl⟩⟩
           ·rename_i e5;simp only[beq_iff_eq]at e5
            split
            ·exact wpS_pure ⟨⟨sg.k,sg.a,sg.p,sg.f⟩,.inr ⟨_,_,_,_,_,_,rfl,m4,by omega,l3,by omega⟩⟩
            ·exact wpS_pure ⟨⟨sg.k,sg.a,sg.p,sg.f⟩,_,_,_,_,_,_,rfl,m4,by omega,l3,by omega⟩
      ·rintro c st2 ⟨sg,out,ia,ib,mg,ac,bc,rfl,m,la,lb,pr⟩;exact⟨sg,.inr ⟨_,_,_,_,_,_,rfl,m,la,lb,by omega⟩⟩
      ·rintro c st2 ⟨sg,⟨r,c',rfl,fl⟩|⟨out,ia,ib,mg,ac,bc,rfl,m,la,lb,pr⟩⟩
       ·exact wpS_pure ⟨sg,r,_,rfl,fl⟩
       ·dsimp only;refine wpS_bind (wpS_modify (wpS_pure ⟨⟨sg.k,sg.a,sg.p,sg.f⟩,_,_,_,_,rfl,m,la,lb,by omega⟩))
   ·rintro c st1 ⟨sg,out,ia,ib,g,rfl,m,la,lb,pr⟩;omega
   ·rintro c st1 ⟨sg,r,c',rfl,fl⟩;exact wpS_pure (h r _ sg fl)
end
theorem cq{a:Array Keyed}{n:Nat}{x:Keyed}(hn:n<=a.size) (h:x∈(a.toList.take n).reverse):∃j,j<n/\x=gA a j:=by
 rw[List.mem_reverse]at h;obtain⟨j,e⟩:=List.mem_iff_getElem?.mp h;have hj:=(List.getElem?_eq_some_iff.mp e).1;rw[List.length_take]at hj;rw[List.getElem?_take_of_lt (by omega),bA (by omega)]at e;exact⟨j,by omega,(Option.some.inj e).symm⟩
theorem lH{a:Array Keyed}{c n:Nat}(h:c<=n):(a.toList.take n).reverse=(a.extract c n).reverse.toList++(a.toList.take c).reverse:=by
 rw[Array.toList_reverse,Array.toList_extract,List.extract_eq_take_drop,<-List.reverse_append];congr 1;rw[<-List.take_add,show c+(n-c)=n by omega]
section
variable{prog:Program}{w:World}{A:Around}{E:Value->Shared->Prop}{s:Shared}{O:KeyOrd}{key:Keyed->O.α}{a0:List Keyed}{κ:SortKind}{a b out:Array Keyed}{na nb c:Nat}
def MH(key:Keyed->O.α) (a b out:Array Keyed) (na nb:Nat):Prop:=MS (fun x y=>kl key y x) (a.toList++b.toList) out.toList (a.toList.take na).reverse (b.toList.take nb).reverse
theorem gJ{a:Array Keyed}{n i j:Nat}(hn:n<=a.size) (h:(a.toList.take n).reverse.Pairwise fun x y=>kl key y x) (hij:i<=j) (hj:j<n):kl key (gA a i) (gA a j):=by
 rcases Nat.lt_or_ge i j with lt|ge
 ·have:=List.pairwise_iff_getElem.mp (List.pairwise_reverse.mp h) i j (by simp;omega) (by simp;omega) lt;rw[List.getElem_take,List.getElem_take]at this;have e1:=bA (a:=a) (i:=i) (by omega);have e2:=bA (a:=a) (i:=j) (by omega);rw[List.getElem?_eq_getElem (by simp;omega)]at e1 e2;rw[<-Option.some.inj e1,<-Option.some.inj e2];exact this
 ·obtain rfl:i=j:=by omega
  exact KeyOrd.kle_refl _
theorem MH.chA(h:MH key a b out na nb) (za:na<=a.size) (zb:nb<=b.size) (hc:c<=na) (q:0<nb->∀i,c<=i->i<na->kl key (gA b (nb-1)) (gA a i)):MH key a b (out++(a.extract c na).reverse) c nb:=by
 have h':=h;unfold MH at h' ⊢;rw[lH hc]at h';rw[Array.toList_append];refine h'.take fun x hx y hy=>?_;rw[Array.toList_reverse,List.mem_reverse]at hx;obtain⟨i,i1,i2,rfl⟩:=cL za hx;obtain⟨j,j1,rfl⟩:=cq zb hy;exact KeyOrd.kle_trans (gJ zb h.sb (i:=j) (j:=nb-1) (by omega) (by omega)) (q (by omega) i i1 i2)
theorem MH.chB(h:MH key a b out na nb) (za:na<=a.size) (zb:nb<=b.size) (hc:c<=nb) (q:0<na->∀i,c<=i->i<nb->kl key (gA a (na-1)) (gA b i)):MH key a b (out++(b.extract c nb).reverse) na c:=by
 have h':=h.swap;unfold MH at h ⊢;rw[lH hc]at h';rw[Array.toList_append];refine(h'.take fun x hx y hy=>?_).swap;rw[Array.toList_reverse,List.mem_reverse]at hx;obtain⟨i,i1,i2,rfl⟩:=cL zb hx;obtain⟨j,j1,rfl⟩:=cq za hy;exact KeyOrd.kle_trans (gJ za h.sa (i:=j) (j:=na-1) (by omega) (by omega)) (q (by omega) i i1 i2)
theorem kM{a:Array Keyed}{n:Nat}(h1:1<=n) (h:n<=a.size):out++(a.extract (n-1) n).reverse=out.push (gA a (n-1)):=by
 have:=j7 (out:=#[]) (a:=a) (i:=n-1) (by omega);rw[show n-1+1=n by omega,Array.empty_append]at this;rw[this];simp
theorem MH.puA(h:MH key a b out na nb) (h1:1<=na) (za:na<=a.size) (zb:nb<=b.size) (q:0<nb->kl key (gA b (nb-1)) (gA a (na-1))):MH key a b (out.push (gA a (na-1))) (na-1) nb:=by
 rw[<-kM h1 za];exact h.chA za zb (by omega) fun hb i i1 i2=>by obtain rfl:i=na-1:=(by omega);exact q hb
theorem MH.puB(h:MH key a b out na nb) (h1:1<=nb) (za:na<=a.size) (zb:nb<=b.size) (q:0<na->kl key (gA a (na-1)) (gA b (nb-1))):MH key a b (out.push (gA b (nb-1))) na (nb-1):=by
 rw[<-kM h1 zb];exact h.chB za zb (by omega) fun hb i i1 i2=>by obtain rfl:i=nb-1:=(by omega);exact q hb
theorem nN{a:Array Keyed}{n:Nat}:(a.extract 0 n).toList=a.toList.take n:=by
 rw[Array.toList_extract,List.extract_eq_take_drop,List.drop_zero,Nat.sub_zero]
theorem pH{tot r:List Keyed}(h:Fn (fun x y=>kl key y x) tot r):Fn (kl key) tot r.reverse:=⟨(List.reverse_perm r).trans h.1,List.pairwise_reverse.mpr h.2⟩
theorem MH.done(h:MH key a b out na nb) (za:na<=a.size) (zb:nb<=b.size) (e:na=0∨nb=0):FL key a b (a.extract 0 na++b.extract 0 nb++out.reverse):=by
 have:=pH (h.swap.fin fun y hy x hx=>by
  obtain⟨j,j1,rfl⟩:=cq zb hy;obtain⟨i,i1,rfl⟩:=cq za hx;omega)
 unfold FL;rw[Array.toList_append,Array.toList_append,nN,nN,Array.toList_reverse];simpa using this
theorem MH.firstB(h:MH key a b out na nb) (za:na<=a.size) (zb:nb<=b.size) (e:nb=1) (hf:∀i,i<a.size->kl key (gA b 0) (gA a i)):FL key a b (b.extract 0 nb++a.extract 0 na++out.reverse):=by
 have:=pH (h.fin fun x hx y hy=>by
  obtain⟨j,j1,rfl⟩:=cq zb hy;obtain⟨i,i1,rfl⟩:=cq za hx;obtain rfl:j=0:=by omega
  exact hf i (by omega))
 unfold FL;rw[Array.toList_append,Array.toList_append,nN,nN,Array.toList_reverse];simpa using this
def pM:Array Keyed->Array Keyed->SM (Array Keyed):=sortPriv% PySem.Builtin.mergeHi
theorem zD{st:SortSt}{Q:Array Keyed->SortSt->Prop}(hA:dX prog w A s κ key a0) (hk:kindOf st=κ) (ha:∀i,i<a.size->gA a i∈a0) (hb:∀i,i<b.size->gA b i∈a0) (za:1<=a.size) (zb:1<=b.size)
  (h0:MH key a b #[] a.size b.size) (hf:∀i,i<a.size->kl key (gA b 0) (gA a i)) (hl:kl key (gA b (b.size-1)) (gA a (a.size-1))) (h:∀r st',Sg st st'->FL key a b r->Q r st'):wpS (model prog w) A E s (pM a b) Q st:=by
 refine wpS_bind (wpS_lift (wpAny_rule ⟨rfl,?_⟩));dsimp only;refine wpS_bind (aJ (by omega) ?_);have h1:MH key a b #[gA a (a.size-1)] (a.size-1) b.size:=h0.puA za (Nat.le_refl _) (Nat.le_refl _) fun _=>hl
 by_cases e1:a.size-1=0
 ·rw[if_pos (by simpa using e1)];exact wpS_pure (h _ _ ⟨rfl,rfl,rfl,rfl⟩ (h1.done (by omega) (by omega) (.inl e1)))
 ·rw[if_neg (by simpa using e1)]
  by_cases e2:b.size=1
  ·rw[if_pos (by simpa using e2)];exact wpS_pure (h _ _ ⟨rfl,rfl,rfl,rfl⟩ (h1.firstB (by omega) (by omega) e2 hf))
  ·rw[if_neg (by simpa using e2)];refine wpS_bind (wpS_get ?_);refine wpS_bind (wpS_mono (wpS_forRange (I:=fun x c st'=>Sg st st'/\∃out na nb g,c=(none,na,nb,out,g)/\MH key a b out na nb/\1<=na/\na<=a.size/\1<nb/\nb<=b.size/\x+na+nb<=a.size+b.size)
    (Q:=fun c st'=>Sg st st'/\∃r c',c=(some r,c')/\FL key a b r) ?_ ?_ ⟨⟨rfl,rfl,rfl,rfl⟩,_,_,_,_,rfl,h1,by omega,by omega,by omega,by omega,by omega⟩) ?_)
   ·rintro x c st1 _ hx ⟨sg,out,na,nb,g,rfl,m,la,ua,lb,ub,pr⟩;dsimp only;refine wpS_bind (wpS_mono (wpS_forRange (I:=fun y c st'=>Sg st st'/\∃out na nb ac bc,c=(none,na,nb,out,ac,bc)/\MH key a b out na nb/\1<=na/\na<=a.size/\1<nb/\nb<=b.size/\x+min y 1+na+nb<=a.size+b.size)
     (Q:=fun c st'=>Sg st st'/\((∃r c',c=(some r,c')/\FL key a b r)∨∃out na nb ac bc,c=(none,na,nb,out,ac,bc)/\MH key a b out na nb/\1<=na/\na<=a.size/\1<nb/\nb<=b.size/\x+1+na+nb<=a.size+b.size)) ?_ ?_ ⟨sg,_,_,_,_,_,rfl,m,la,ua,lb,ub,by omega⟩) ?_)
    ·rintro y c st2 _ hy ⟨sg,out,na,nb,ac,bc,rfl,m,la,ua,lb,ub,pr⟩;dsimp only;refine wpS_bind (aJ (by omega) (wpS_bind (aJ (by omega) (wpS_bind (se hA (sg.k.trans hk) (hb _ (by omega)) (ha _ (by omega)) ?_)))));dsimp only;cases q:O.blt (key (gA b (nb-1))) (key (gA a (na-1)))with
     |true =>
      simp only[if_true];have m':=m.puA la ua ub fun _=>fo q;refine wpS_bind (aJ (by omega) ?_)
      by_cases e:na-1=0
      ·rw[if_pos (by simpa using e)];exact wpS_pure ⟨sg,.inl ⟨_,_,rfl,m'.done (by omega) ub (.inl e)⟩⟩
      ·rw[if_neg (by simpa using e)]
       split
       ·exact wpS_pure ⟨sg,.inr ⟨_,_,_,_,_,rfl,m',by omega,by omega,lb,ub,by omega⟩⟩
       ·exact wpS_pure ⟨sg,_,_,_,_,_,rfl,m',by omega,by omega,lb,ub,by omega⟩
     |false =>
      simp only[Bool.false_eq_true,if_false];have m':=m.puB (by omega) ua ub fun _=>ly q;refine wpS_bind (aJ (by omega) ?_)
      by_cases e:nb-1=1
      ·rw[if_pos (by simpa using e)];exact wpS_pure ⟨sg,.inl ⟨_,_,rfl,m'.firstB ua (by omega) e hf⟩⟩
      ·rw[if_neg (by simpa using e)]
       split
       ·exact wpS_pure ⟨sg,.inr ⟨_,_,_,_,_,rfl,m',la,ua,by omega,by omega,by omega⟩⟩
       ·exact wpS_pure ⟨sg,_,_,_,_,_,rfl,m',la,ua,by omega,by omega,by omega⟩
    ·rintro c st2 ⟨sg,out,na,nb,ac,bc,rfl,m,la,ua,lb,ub,pr⟩;exact⟨sg,.inr ⟨_,_,_,_,_,rfl,m,la,ua,lb,ub,by omega⟩⟩
    ·rintro c st2 ⟨sg,⟨r,c',rfl,fl⟩|⟨out,na,nb,ac,bc,rfl,m,la,ua,lb,ub,pr⟩⟩
     ·exact wpS_pure ⟨sg,r,_,rfl,fl⟩
     ·dsimp only;refine wpS_bind (wpS_lift (wpAny_rule ⟨rfl,?_⟩));refine wpS_bind (wpS_mono (wpS_forRange (I:=fun y c st'=>Sg st st'/\∃out na nb mg ac bc,c=(none,na,nb,out,mg,ac,bc)/\MH key a b out na nb/\1<=na/\na<=a.size/\1<nb/\nb<=b.size/\x+1+na+nb<=a.size+b.size)
       (Q:=fun c st'=>Sg st st'/\((∃r c',c=(some r,c')/\FL key a b r)∨∃out na nb mg ac bc,c=(none,na,nb,out,mg,ac,bc)/\MH key a b out na nb/\1<=na/\na<=a.size/\1<nb/\nb<=b.size/\x+1+na+nb<=a.size+b.size)) ?_ ?_ ⟨sg,_,_,_,_,_,_,rfl,m,la,ua,lb,ub,by omega⟩) ?_)
      ·rintro y c st2 _ hy ⟨sg,out,na,nb,mg,ac,bc,rfl,m,la,ua,lb,ub,pr⟩;dsimp only
       by_cases g0:mg > 1
       all_goals first|rw[if_pos g0]|rw[if_neg g0]
       all_goals
        refine wpS_bind (wpS_modify ?_);refine wpS_bind (aJ (by omega) (wpS_bind (cK hA (sg.k.trans hk) (hb _ (by omega)) (fun i hi=>ha _ (by omega)) (by omega) (by omega) (fun i j hij hj z=>fc.mpr (KeyOrd.kle_trans (gJ ua m.sa (by omega) (by omega)) (fc.mp z))) fun c hc hlt hge=>?_)));simp only[Nat.zero_add]at hlt hge;dsimp only
        by_cases k0:na-c > 0
        all_goals first
         |
          rw[if_pos k0];have m1:=m.chA ua ub (c:=c) (by omega) fun _ i i1 i2=>fo (mK.mp (hge i i1 i2))
          by_cases e1:c=0
          ·rw[if_pos (by simpa using e1)];exact wpS_pure ⟨⟨sg.k,sg.a,sg.p,sg.f⟩,.inl ⟨_,_,rfl,m1.done (by omega) ub (.inl e1)⟩⟩
          rw[if_neg (by simpa using e1)];have l1:1<=c:=by omega
          have u1:c<=a.size:=by omega
         |
          rw[if_neg k0];obtain rfl:c=na:=by omega
          have m1:=m;have l1:=la;have u1:=ua
        all_goals
         have m2:=m1.puB (by omega) u1 ub fun z=>fc.mp (hlt _ (by omega));refine wpS_bind (aJ (by omega) ?_)
         by_cases e3:nb-1=1
         ·rw[if_pos (by simpa using e3)];exact wpS_pure ⟨⟨sg.k,sg.a,sg.p,sg.f⟩,.inl ⟨_,_,rfl,m2.firstB u1 (by omega) e3 hf⟩⟩
         ·rw[if_neg (by simpa using e3)];refine wpS_bind (aJ (by omega) (wpS_bind (cK hA (sg.k.trans hk) (ha _ (by omega)) (fun i hi=>hb _ (by omega)) (by omega) (by omega) (fun i j hij hj z=>fu.mpr (KeyOrd.klt_of_kle_of_klt (gJ ub m.sb (by omega) (by omega)) (fu.mp z))) fun c' hc' hlt' hge'=>?_)));simp only[Nat.zero_add]at hlt' hge';dsimp only
          by_cases k0':nb-1-c' > 0
          all_goals first
           |
            rw[if_pos k0'];have m3:=m2.chB u1 (by omega) (c:=c') (by omega) fun _ i i1 i2=>ml.mp (hge' i i1 i2)
            by_cases e4:c'=1
            ·rw[if_pos (by simpa using e4)];exact wpS_pure ⟨⟨sg.k,sg.a,sg.p,sg.f⟩,.inl ⟨_,_,rfl,m3.firstB u1 (by omega) e4 hf⟩⟩
            rw[if_neg (by simpa using e4)]
            by_cases e5:c'=0
            ·rw[if_pos (by simpa using e5)];exact wpS_pure ⟨⟨sg.k,sg.a,sg.p,sg.f⟩,.inl ⟨_,_,rfl,m3.done u1 (by omega) (.inr e5)⟩⟩
            rw[if_neg (by simpa using e5)];have l3:1<c':=by omega
            have u3:c'<=b.size:=by omega
           |
            rw[if_neg k0'];obtain rfl:c'=nb-1:=by omega
            have m3:=m2;have l3:1<nb-1:=by omega
            have u3:nb-1<=b.size:=by omega
          all_goals
           have m4:=m3.puA l1 u1 u3 fun z=>KeyOrd.kle_of_klt (fu.mp (hlt' _ (by omega)));refine wpS_bind (aJ (by omega) ?_)
           split
           ·rename_i e5;exact wpS_pure ⟨⟨sg.k,sg.a,sg.p,sg.f⟩,.inl ⟨_,_,rfl,m4.done (by omega) u3 (.inl (by simpa using e5))⟩⟩
           ·rename_i e5;simp only[beq_iff_eq]at e5
            split
            ·exact wpS_pure ⟨⟨sg.k,sg.a,sg.p,sg.f⟩,.inr ⟨_,_,_,_,_,_,rfl,m4,by omega,by omega,l3,u3,by omega⟩⟩
            ·exact wpS_pure ⟨⟨sg.k,sg.a,sg.p,sg.f⟩,_,_,_,_,_,_,rfl,m4,by omega,by omega,l3,u3,by omega⟩
      ·rintro c st2 ⟨sg,out,na,nb,mg,ac,bc,rfl,m,la,ua,lb,ub,pr⟩;exact⟨sg,.inr ⟨_,_,_,_,_,_,rfl,m,la,ua,lb,ub,by omega⟩⟩
      ·rintro c st2 ⟨sg,⟨r,c',rfl,fl⟩|⟨out,na,nb,mg,ac,bc,rfl,m,la,ua,lb,ub,pr⟩⟩
       ·exact wpS_pure ⟨sg,r,_,rfl,fl⟩
       ·dsimp only;refine wpS_bind (wpS_modify (wpS_pure ⟨⟨sg.k,sg.a,sg.p,sg.f⟩,_,_,_,_,rfl,m,la,ua,lb,ub,by omega⟩))
   ·rintro c st1 ⟨sg,out,na,nb,g,rfl,m,la,ua,lb,ub,pr⟩;omega
   ·rintro c st1 ⟨sg,r,c',rfl,fl⟩;exact wpS_pure (h r _ sg fl)
end
theorem sH{M:Model}{A:Around}{E:Value->Shared->Prop}{s:Shared}{σ:Type}{v:σ}{Q:PUnit->σ->Prop}{st:σ}(h:Q ⟨⟩ v):wpS M A E s (set v:StateT σ Sem PUnit) Q st:=by
 unfold wpS;rw[StateT.run_set];exact wpAny_pure ⟨rfl,h⟩
abbrev bQ(base:Nat) (l:List (Keyed×Nat)) (arr:Array Keyed):Array Keyed:=l.foldl (fun a x=>match x with|(p,j)=>a.setIfInBounds (base+j) p) arr
theorem eD{base:Nat}:∀{l:List Keyed}{n0:Nat}{arr:Array Keyed},base+n0+l.length<=arr.size->(bQ base (l.zipIdx n0) arr).size=arr.size/\∀i,(bQ base (l.zipIdx n0) arr)[i]?=if base+n0<=i/\i<base+n0+l.length then l[i-(base+n0)]? else arr[i]?
 |[],n0,arr,_=>⟨rfl,fun i=>by rw[if_neg (by simp)];rfl⟩
 |p::l,n0,arr,h=>by
  rw[List.length_cons]at h;obtain⟨h1,h2⟩:=eD (base:=base) (l:=l) (n0:=n0+1) (arr:=arr.setIfInBounds (base+n0) p) (by simp;omega);refine⟨by rw[List.zipIdx_cons];simpa using h1,fun i=>?_⟩;rw[List.zipIdx_cons];refine(h2 i).trans ?_;rw[List.length_cons,Array.getElem?_setIfInBounds]
  by_cases a:i=base+n0
  ·subst a;rw[if_neg (by omega),if_pos rfl,if_pos (by omega),if_pos (by omega)];simp
  ·by_cases b:base+(n0+1)<=i/\i<base+(n0+1)+l.length
   ·rw[if_pos b,if_pos (by omega)];obtain⟨m,hm⟩:∃m,i-(base+n0)=m+1:=⟨i-(base+n0)-1,by omega⟩;rw[hm,List.getElem?_cons_succ,show i-(base+(n0+1))=m by omega]
   ·rw[if_neg b,if_neg (fun z=>a z.symm),if_neg (by omega)]
theorem l9{p:Nat}{l:List Keyed}{arr:Array Keyed}(h:p+l.length<=arr.size):(bQ p l.zipIdx arr).toList=arr.toList.take p++(l++arr.toList.drop (p+l.length)):=by
 obtain⟨h1,h2⟩:=eD (base:=p) (l:=l) (n0:=0) (arr:=arr) (by omega);have lt:(arr.toList.take p).length=p:=by rw[List.length_take,Array.length_toList];omega
 apply List.ext_getElem?;intro i;rw[Array.getElem?_toList,h2 i,Nat.add_zero,List.getElem?_append,List.getElem?_append,lt]
 by_cases a:i<p
 ·rw[if_neg (by omega),if_pos a,List.getElem?_take_of_lt a,Array.getElem?_toList]
 ·rw[if_neg a]
  by_cases b:i<p+l.length
  ·rw[if_pos (by omega),if_pos (by omega)]
  ·rw[if_neg (by omega),if_neg (by omega),List.getElem?_drop,Array.getElem?_toList];congr 1;omega
section
variable{prog:Program}{w:World}{A:Around}{E:Value->Shared->Prop}{s:Shared}{O:KeyOrd}{key:Keyed->O.α}{a0:List Keyed}{κ:SortKind}
theorem ko{arr:Array Keyed}{i j k:Nat}(h:i+k<j) (hj:j<=arr.size):gA (arr.extract i j) k=gA arr (i+k):=by
 refine kF ?_;rw[Array.getElem?_extract,if_pos (by omega)]
theorem vd{arr:Array Keyed}{i j:Nat}(hj:j<=arr.size) (h:Up key arr i j):(arr.extract i j).toList.Pairwise (kl key):=by
 rw[List.pairwise_iff_getElem];intro x y hx hy hxy;simp only[Array.length_toList,Array.size_extract]at hx hy;have e1:=bA (a:=arr.extract i j) (i:=x) (by simp;omega);have e2:=bA (a:=arr.extract i j) (i:=y) (by simp;omega);rw[List.getElem?_eq_getElem (by simp;omega)]at e1 e2;rw[Option.some.inj e1,Option.some.inj e2,ko (by omega) hj,ko (by omega) hj];exact h _ _ (by omega) (by omega) (by omega)
theorem zC{st:SortSt}{i sa na pw sb nb pw2:Nat}{Q:Bool->SortSt->Prop}(hA:dX prog w A s κ key a0) (hB:SB a0 κ st) (h1:(pendingOf st)[i]?=some (sa,na,pw)) (h2:(pendingOf st)[i+1]?=some (sb,nb,pw2)) (e:sb=sa+na) (pa:1<=na) (pb:1<=nb) (hz:sb+nb<=a0.length)
  (ua:Up key (arrOf st) sa sb) (ub:Up key (arrOf st) sb (sb+nb))
  (h:∀st',SB a0 κ st'->pendingOf st'=((pendingOf st).setIfInBounds i (sa,na+nb,pw)).eraseIdxIfInBounds (i+1)->Up key (arrOf st') sa (sb+nb)->Out sa (sb+nb) (arrOf st) (arrOf st')->Q true st'):wpS (model prog w) A E s (mergeAt' i) Q st:=by
 have sz:=hB.size;show wpS _ _ _ _ (Bind.bind _ _) _ _;refine wpS_bind (wpS_get ?_);dsimp only;rw[show(sortPriv% PySem.Builtin.SortState.pending) st=pendingOf st from rfl,h1,h2];dsimp only;refine wpS_bind (sH ?_);have join:(∀i j,sa<=i->i<sb->sb<=j->j<sb+nb->O.kle (kA key (arrOf st) i) (kA key (arrOf st) j))->Up key (arrOf st) sa (sb+nb):=fun q x y h0 hxy hy=>by
  rcases Nat.lt_or_ge y sb with h3|h3
  ·exact ua x y h0 hxy h3
  ·rcases Nat.lt_or_ge x sb with h4|h4
   ·exact q x y h0 h4 h3 hy
   ·exact ub x y h4 hxy hy
 refine wpS_bind (aJ (by show sb<(arrOf st).size;omega) (wpS_bind (cK hA hB.kind (hB.mem (by omega)) (fun j hj=>hB.mem (by omega)) (by show sa+na<=(arrOf st).size;omega) (by omega) (fun x y hxy hy z=>fc.mpr (KeyOrd.kle_trans (ua (sa+x) (sa+y) (by omega) (by omega) (by omega)) (fc.mp z))) fun k hk hlt hge=>?_)));have lo:∀x,sa<=x->x<sa+k->kl key (gA (arrOf st) x) (gA (arrOf st) sb):=fun x x1 x2=>by
  have:=fc.mp (hlt (x-sa) (by omega))
  rwa [show sa+(x-sa)=x by omega]at this
 have up:∀x,sa+k<=x->x<sb->kl key (gA (arrOf st) sb) (gA (arrOf st) x):=fun x x1 x2=>by
  have:=mK.mp (hge (x-sa) (by omega) (by omega));rw[show sa+(x-sa)=x by omega]at this;exact fo this
 clear hlt hge;dsimp only
 by_cases e1:na-k=0
 ·rw[if_pos (by simpa using e1)];exact wpS_pure (h _ ⟨hB.perm,hB.kind,hB.fail⟩ rfl (join fun x y a b c d=>KeyOrd.kle_trans (lo x a (by omega)) (ub sb y (Nat.le_refl _) c d)) Out.refl)
 ·rw[if_neg (by simpa using e1)];have el:sa+k+(na-k)-1=sb-1:=by omega
  rw[el];refine wpS_bind (aJ (by show sb-1<(arrOf st).size;omega) (wpS_bind (cK hA hB.kind (hB.mem (by omega)) (fun j hj=>hB.mem (by omega)) (by show sb+nb<=(arrOf st).size;omega) (by omega) (fun x y hxy hy z=>fu.mpr (KeyOrd.klt_of_kle_of_klt (ub (sb+x) (sb+y) (by omega) (by omega) (by omega)) (fu.mp z))) fun m hm hlt hge=>?_)));have lo2:∀x,sb<=x->x<sb+m->kl key (gA (arrOf st) x) (gA (arrOf st) (sb-1)):=fun x x1 x2=>by
   have:=fu.mp (hlt (x-sb) (by omega));rw[show sb+(x-sb)=x by omega]at this;exact KeyOrd.kle_of_klt this
  have up2:∀x,sb+m<=x->x<sb+nb->kl key (gA (arrOf st) (sb-1)) (gA (arrOf st) x):=fun x x1 x2=>by
   have:=ml.mp (hge (x-sb) (by omega) (by omega))
   rwa [show sb+(x-sb)=x by omega]at this
  clear hlt hge;dsimp only
  by_cases e2:m=0
  ·rw[if_pos (by simpa using e2)];exact wpS_pure (h _ ⟨hB.perm,hB.kind,hB.fail⟩ rfl (join fun x y a b c d=>KeyOrd.kle_trans (ua x (sb-1) a (by omega) (by omega)) (up2 y (by omega) d)) Out.refl)
  ·rw[if_neg (by simpa using e2)];have zx:((arrOf st).extract (sa+k) sb).size=sb-(sa+k):=by simp;omega
   have zy:((arrOf st).extract sb (sb+m)).size=m:=by simp;omega
   have px:=vd (i:=sa+k) (j:=sb) (by omega) (fun x y a b c=>ua x y (by omega) b c:Up key (arrOf st) (sa+k) sb);have py:=vd (i:=sb) (j:=sb+m) (by omega) (fun x y a b c=>ub x y a b (by omega):Up key (arrOf st) sb (sb+m));have gx:∀j,j<sb-(sa+k)->gA ((arrOf st).extract (sa+k) sb) j=gA (arrOf st) (sa+k+j):=fun j hj=>ko (by omega) (by omega);have gy:∀j,j<m->gA ((arrOf st).extract sb (sb+m)) j=gA (arrOf st) (sb+j):=fun j hj=>ko (by omega) (by omega);have mx:∀z∈((arrOf st).extract (sa+k) sb).toList,∃x,sa+k<=x/\x<sb/\z=gA (arrOf st) x:=fun z hz'=>cL (by omega) hz';have my:∀z∈((arrOf st).extract sb (sb+m)).toList,∃x,sb<=x/\x<sb+m/\z=gA (arrOf st) x:=fun z hz'=>cL (by omega) hz';have seg:((arrOf st).extract (sa+k) sb).toList++((arrOf st).extract sb (sb+m)).toList=((arrOf st).toList.drop (sa+k)).take (sb+m-(sa+k)):=by
    have d1:=dB (a:=arrOf st) (i:=sa+k) (k:=sb-(sa+k)) (by omega);have d2:=dB (a:=arrOf st) (i:=sb) (k:=m) (by omega);rw[show sa+k+(sb-(sa+k))=sb by omega]at d1;rw[d1,d2,<-List.append_assoc,List.take_append_of_le_length (by simp;omega),List.take_of_length_le (by simp;omega)]
   have fin:∀r st',Sg (SortSt.mk' (kindOf st) (arrOf st) (((pendingOf st).setIfInBounds i (sa,na+nb,pw)).eraseIdxIfInBounds (i+1)) (gallopOf st) (failedOf st)) st'->FL key ((arrOf st).extract (sa+k) sb) ((arrOf st).extract sb (sb+m)) r ->
     Q true (setArr st' (bQ (sa+k) r.toList.zipIdx (arrOf st'))):=fun r st' sg fl=>by
    have ea:arrOf st'=arrOf st:=sg.a;have lr:r.toList.length=sb+m-(sa+k):=by
     rw[fl.1.length_eq,List.length_append,Array.length_toList,Array.length_toList,zx,zy];omega
    have pl:=l9 (p:=sa+k) (l:=r.toList) (arr:=arrOf st) (by omega);obtain⟨ps,pg⟩:=eD (base:=sa+k) (l:=r.toList) (n0:=0) (arr:=arrOf st) (by omega);have hi:∀x,sa+k<=x->x<sb+m->∃z,(bQ (sa+k) r.toList.zipIdx (arrOf st))[x]?=some z/\r.toList[x-(sa+k)]?=some z/\(z∈((arrOf st).extract (sa+k) sb).toList∨z∈((arrOf st).extract sb (sb+m)).toList):=fun x x1 x2=>by
     have lt:x-(sa+k)<r.toList.length:=by omega
     refine⟨r.toList[x-(sa+k)],?_,List.getElem?_eq_getElem lt,List.mem_append.mp (fl.1.mem_iff.mp (List.getElem_mem lt))⟩;rw[pg x,if_pos (by omega),Nat.add_zero,List.getElem?_eq_getElem lt]
    have ho:∀x,x<sa+k∨sb+m<=x->(bQ (sa+k) r.toList.zipIdx (arrOf st))[x]?=(arrOf st)[x]?:=fun x hx=>by rw[pg x,if_neg (by omega)]
    have kz:∀{x z},(bQ (sa+k) r.toList.zipIdx (arrOf st))[x]?=some z->kA key (bQ (sa+k) r.toList.zipIdx (arrOf st)) x=key z:=fun q=>by unfold kA gA;rw[q];rfl
    rw[ea];refine h _ ⟨?_,sg.k.trans hB.kind,sg.f.trans hB.fail⟩ sg.p (fun x y h0 hxy hy=>?_) fun x hx=>?_
    ·refine List.Perm.trans ?_ hB.perm;show(bQ (sa+k) r.toList.zipIdx (arrOf st)).toList.Perm _;have dd:(arrOf st).toList=(arrOf st).toList.take (sa+k)++(((arrOf st).toList.drop (sa+k)).take (sb+m-(sa+k))++(arrOf st).toList.drop (sa+k+(sb+m-(sa+k)))):=by
      rw[show(arrOf st).toList.drop (sa+k+(sb+m-(sa+k)))=((arrOf st).toList.drop (sa+k)).drop (sb+m-(sa+k))from(List.drop_drop ..).symm,List.take_append_drop,List.take_append_drop]
     rw[pl,lr];refine List.Perm.trans ?_ (List.Perm.of_eq dd.symm);rw[<-seg];exact(List.Perm.append_left _ (List.Perm.append_right _ fl.1))
    ·show O.kle (kA key (bQ (sa+k) r.toList.zipIdx (arrOf st)) x) (kA key (bQ (sa+k) r.toList.zipIdx (arrOf st)) y);rcases Nat.lt_or_ge x (sa+k)with x1|x1
     ·rw[aT (ho x (.inl x1))];rcases Nat.lt_or_ge y (sa+k)with y1|y1
      ·rw[aT (ho y (.inl y1))];exact ua x y h0 hxy (by omega)
      rcases Nat.lt_or_ge y (sb+m)with y2|y2
      ·obtain⟨z,z1,z2,z3⟩:=hi y y1 y2;rw[kz z1];rcases z3 with z3|z3
       ·obtain⟨t,t1,t2,rfl⟩:=mx z z3;exact ua x t h0 (by omega) t2
       ·obtain⟨t,t1,t2,rfl⟩:=my z z3;exact KeyOrd.kle_trans (lo x h0 x1) (ub sb t (Nat.le_refl _) t1 (by omega))
      ·rw[aT (ho y (.inr y2))];exact KeyOrd.kle_trans (lo x h0 x1) (ub sb y (Nat.le_refl _) (by omega) hy)
     rcases Nat.lt_or_ge x (sb+m)with x2|x2
     ·obtain⟨z,z1,z2,z3⟩:=hi x x1 x2;rcases Nat.lt_or_ge y (sb+m)with y2|y2
      ·obtain⟨u,u1,u2,u3⟩:=hi y (by omega) y2;rw[kz z1,kz u1];rcases Nat.lt_or_ge x y with q|q
       ·have:=List.pairwise_iff_getElem.mp fl.2 (x-(sa+k)) (y-(sa+k)) (by omega) (by omega) (by omega);rw[List.getElem?_eq_getElem (by omega)]at z2 u2
        rwa [Option.some.inj z2,Option.some.inj u2]at this
       ·obtain rfl:x=y:=by omega
        rw[z1]at u1;cases u1;exact KeyOrd.kle_refl _
      ·rw[kz z1,aT (ho y (.inr y2))];rcases z3 with z3|z3
       ·obtain⟨t,t1,t2,rfl⟩:=mx z z3;exact KeyOrd.kle_trans (ua t (sb-1) (by omega) (by omega) (by omega)) (up2 y y2 hy)
       ·obtain⟨t,t1,t2,rfl⟩:=my z z3;exact ub t y t1 (by omega) hy
     ·rw[aT (ho x (.inr x2)),aT (ho y (.inr (by omega)))];exact ub x y (by omega) hxy hy
    ·exact ho x (by omega)
   have last:∀(r:Array Keyed) (st':SortSt),Sg (SortSt.mk' (kindOf st) (arrOf st) (((pendingOf st).setIfInBounds i (sa,na+nb,pw)).eraseIdxIfInBounds (i+1)) (gallopOf st) (failedOf st)) st'->failedOf st'=none:=fun r st' sg=>sg.f.trans hB.fail
   by_cases e3:na-k<=m
   all_goals first|rw[if_pos e3]|rw[if_neg e3]
   all_goals refine wpS_bind ?_
   ·refine yo (a:=(arrOf st).extract (sa+k) sb) (b:=(arrOf st).extract sb (sb+m)) hA hB.kind (fun j hj=>by rw[zx]at hj;rw[gx j hj];exact hB.mem (by omega)) (fun j hj=>by rw[zy]at hj;rw[gy j hj];exact hB.mem (by omega)) (by omega) (by omega) ⟨by simp,List.Pairwise.nil,by simp,by simp,by simpa using px,by simpa using py⟩ ?_ (fun j hj=>?_) fun r st' sg fl=>?_
    ·rw[gx 0 (by omega),gy 0 (by omega)];exact up _ (by omega) (by omega)
    ·rw[zy]at hj;rw[zx,gx _ (by omega),gy j hj];have:=lo2 (sb+j) (by omega) (by omega)
     rwa [show sa+k+(sb-(sa+k)-1)=sb-1 by omega]
    ·refine wpS_bind (wpS_modify (wpS_bind (wpS_get (wpS_pure ?_))));have:=fin r st' sg fl;rw[show(failedOf (setArr st' (bQ (sa+k) r.toList.zipIdx (arrOf st')))).isNone=true by rw[show failedOf (setArr st' _)=failedOf st' from rfl,last r st' sg];rfl];exact this
   ·refine zD (a:=(arrOf st).extract (sa+k) sb) (b:=(arrOf st).extract sb (sb+m)) hA hB.kind (fun j hj=>by rw[zx]at hj;rw[gx j hj];exact hB.mem (by omega)) (fun j hj=>by rw[zy]at hj;rw[gy j hj];exact hB.mem (by omega)) (by omega) (by omega) ⟨?_,List.Pairwise.nil,by simp,by simp,?_,?_⟩ (fun j hj=>?_) ?_ fun r st' sg fl=>?_
    ·rw[List.take_of_length_le (Nat.le_of_eq Array.length_toList),List.take_of_length_le (Nat.le_of_eq Array.length_toList)];exact(List.reverse_perm _).append (List.reverse_perm _)
    ·rw[List.take_of_length_le (Nat.le_of_eq Array.length_toList)];exact List.pairwise_reverse.mpr px
    ·rw[List.take_of_length_le (Nat.le_of_eq Array.length_toList)];exact List.pairwise_reverse.mpr py
    ·rw[zx]at hj;rw[gx j hj,gy 0 (by omega)];exact up _ (by omega) (by omega)
    ·rw[zx,zy,gx _ (by omega),gy _ (by omega)];have:=lo2 (sb+(m-1)) (by omega) (by omega)
     rwa [show sa+k+(sb-(sa+k)-1)=sb-1 by omega]
    ·refine wpS_bind (wpS_modify (wpS_bind (wpS_get (wpS_pure ?_))));have:=fin r st' sg fl;rw[show(failedOf (setArr st' (bQ (sa+k) r.toList.zipIdx (arrOf st')))).isNone=true by rw[show failedOf (setArr st' _)=failedOf st' from rfl,last r st' sg];rfl];exact this
end
section
variable{prog:Program}{w:World}{A:Around}{E:Value->Shared->Prop}{s:Shared}{O:KeyOrd}{key:Keyed->O.α}{a0:List Keyed}{κ:SortKind}
def Stk(key:Keyed->O.α) (xs:Array Keyed):Nat->List (Nat×Nat×Nat)->Nat->Prop
 |b,[],e=>b=e
 |b,p::ay,e=>p.1=b/\1<=p.2.1/\Up key xs b (b+p.2.1)/\Stk key xs (b+p.2.1) ay e
theorem Stk.app{xs:Array Keyed}:∀{p q:List (Nat×Nat×Nat)}{b e:Nat},Stk key xs b (p++q) e↔∃m,Stk key xs b p m/\Stk key xs m q e
 |[],q,b,e=>⟨fun h=>⟨b,rfl,h⟩,fun⟨m,h1,h2⟩=>by cases h1;exact h2⟩
 |x::p,q,b,e=>by
  simp only[List.cons_append,Stk,Stk.app (p:=p)];exact⟨fun⟨a,b,c,m,d,e⟩=>⟨m,⟨a,b,c,d⟩,e⟩,fun⟨m,⟨a,b,c,d⟩,e⟩=>⟨a,b,c,m,d,e⟩⟩
theorem Stk.len{xs:Array Keyed}:∀{p:List (Nat×Nat×Nat)}{b e:Nat},Stk key xs b p e->b+p.length<=e
 |[],b,e,h=>by cases h;simp
 |x::p,b,e,h=>by
  have:=h.2.2.2.len;have:=h.2.1;simp only[List.length_cons];omega
theorem Stk.out{xs ys:Array Keyed}{lo hi:Nat}(o:Out lo hi xs ys):∀{p:List (Nat×Nat×Nat)}{b e:Nat},Stk key xs b p e->e<=lo∨hi<=b->Stk key ys b p e
 |[],b,e,h,_=>h
 |x::p,b,e,h,d=>by
  have l:=h.2.2.2.len;exact⟨h.1,h.2.1,h.2.2.1.out o (by omega),h.2.2.2.out o (by omega)⟩
def SRt(key:Keyed->O.α) (a0:List Keyed) (κ:SortKind) (lo:Nat) (st:SortSt):Prop:=SB a0 κ st/\Stk key (arrOf st) 0 (pendingOf st).toList lo/\lo<=a0.length
theorem qq{α:Type}:∀{l:List α}{i:Nat},i+1<l.length->∃p x y q,l=p++x::y::q/\p.length=i
 |x::y::l,0,_=>⟨[],x,y,l,rfl,rfl⟩
 |x::l,i+1,h=>by
  obtain⟨p,a,b,q,e,z⟩:=qq (l:=l) (i:=i) (by simpa using h);exact⟨x::p,a,b,q,by rw[e];rfl,by simp[z]⟩
theorem pJ{st:SortSt}{i lo:Nat}{Q:Bool->SortSt->Prop}(hA:dX prog w A s κ key a0) (hS:SRt key a0 κ lo st) (hi:i+1<(pendingOf st).size)
  (h:∀st',SRt key a0 κ lo st'->(pendingOf st').size+1=(pendingOf st).size->Out 0 lo (arrOf st) (arrOf st')->(pendingOf st').size=0∨True->Q true st'):wpS (model prog w) A E s (mergeAt' i) Q st:=by
 obtain⟨hB,hT,hl⟩:=hS;obtain⟨p,x,y,q,e,z⟩:=qq (l:=(pendingOf st).toList) (i:=i) (by simpa using hi);rw[e,Stk.app]at hT;obtain⟨m,t1,t2⟩:=hT;obtain⟨x1,x2,x3,y1,y2,y3,t3⟩:=t2;have l3:=t3.len;obtain⟨sa,na,pw⟩:=x;obtain⟨sb,nb,pw2⟩:=y;dsimp only at x1 x2 x3 y1 y2 y3 t3 l3;subst x1;have g1:(pendingOf st)[i]?=some (sa,na,pw):=by rw[<-Array.getElem?_toList,e,<-z];simp
 have g2:(pendingOf st)[i+1]?=some (sb,nb,pw2):=by rw[<-Array.getElem?_toList,e,<-z];simp
 refine zC hA hB g1 g2 y1 x2 y2 (by omega) (by rw[y1];exact x3) (by rw[y1];exact y3) fun st' hB' hp hu ho=>?_;have ep:(pendingOf st').toList=p++(sa,na+nb,pw)::q:=by
  rw[hp,Array.toList_eraseIdxIfInBounds,Array.toList_setIfInBounds,e,<-z];simp[List.set_append,List.eraseIdx_append];intro z';omega
 have l1:=t1.len;refine h st' ⟨hB',?_,hl⟩ ?_ (fun j hj=>ho j (by omega)) (.inr trivial)
 ·rw[ep,Stk.app];exact⟨sa,t1.out ho (by omega),rfl,by show 1<=na+nb;omega,by show Up key _ sa (sa+(na+nb));rw[<-Nat.add_assoc,<-y1];exact hu,by show Stk key _ (sa+(na+nb)) q lo;rw[<-Nat.add_assoc];exact t3.out ho (by omega)⟩
 ·have a1:=congrArg List.length ep;have a2:=congrArg List.length e;simp only[Array.length_toList,List.length_append,List.length_cons]at a1 a2;omega
theorem Stk.cong{xs:Array Keyed}:∀{p q:List (Nat×Nat×Nat)}{b e:Nat},p.map (fun x=>(x.1,x.2.1))=q.map (fun x=>(x.1,x.2.1))->Stk key xs b p e->Stk key xs b q e
 |[],[],_,_,_,h=>h
 |x::p,y::q,b,e,z,h=>by
  simp only[List.map_cons,List.cons.injEq,Prod.mk.injEq]at z;simp only[Stk]at h ⊢;rw[<-z.1.1,<-z.1.2];exact⟨h.1,h.2.1,h.2.2.1,h.2.2.2.cong z.2⟩
 |[],_::_,_,_,z,_=>by simp at z
 |_::_,[],_,_,z,_=>by simp at z
theorem tm{p:Array (Nat×Nat×Nat)}{i:Nat}{f:Nat×Nat×Nat->Nat×Nat×Nat}(h:∀x,(f x).1=x.1/\(f x).2.1=x.2.1):p.toList.map (fun x=>(x.1,x.2.1))=(p.modify i f).toList.map (fun x=>(x.1,x.2.1)):=by
 rw[Array.toList_modify];apply List.ext_getElem?;intro j;rw[List.getElem?_map,List.getElem?_map,List.getElem?_modify];cases p.toList[j]? with
 |none=>rfl
 |some x=>by_cases e:i=j<;>simp[e,h]
theorem SRt.push{st:SortSt}{lo n:Nat}(hS:SRt key a0 κ lo st) (h1:1<=n) (h2:lo+n<=a0.length) (hu:Up key (arrOf st) lo (lo+n)):SRt key a0 κ (lo+n) (setPending st ((pendingOf st).push (lo,n,0))):=by
 refine⟨⟨hS.1.perm,hS.1.kind,hS.1.fail⟩,?_,h2⟩;show Stk key (arrOf st) 0 ((pendingOf st).push _).toList _;rw[Array.toList_push,Stk.app];exact⟨lo,hS.2.1,rfl,h1,hu,rfl⟩
theorem vD{c:Prop} [Decidable c] {x y n:Nat}(h1:x+1<n) (h2:y+1<n):(if c then x else y)+1<n:=by split<;>assumption
theorem vz{st:SortSt}{Q:Unit->SortSt->Prop}(hA:dX prog w A s κ key a0) (hB:SB a0 κ st) (hp:pendingOf st=#[]) (h2:2<=a0.length)
  (h:∀st',SB a0 κ st'->Up key (arrOf st') 0 a0.length->Q () st'):wpS (model prog w) A E s sortRuns' Q st:=by
 rw[sortRuns'_eq];refine wpS_bind (wpS_get ?_);dsimp only;generalize minRun' (arrOf st).size (arrOf st).size 0=mr;rw[hB.size];refine wpS_bind (wpS_mono (wpS_forRange (I:=fun x c st'=>∃lo,c=(none,lo)/\SRt key a0 κ lo st'/\(x<=lo∨lo=a0.length)) (Q:=fun c st'=>c=(none,a0.length)/\SRt key a0 κ a0.length st') ?step ?fin ⟨0,rfl,⟨hB,by rw[hp];rfl,Nat.zero_le _⟩,.inl (Nat.le_refl _)⟩) ?post)
 case fin =>
  rintro c st' ⟨lo,rfl,hS,q⟩;obtain rfl:lo=a0.length:=by have:=hS.2.2;omega
  exact⟨rfl,hS⟩
 case step =>
  rintro x c st' _ hx ⟨lo,rfl,hS,q⟩;dsimp only;have hl:=hS.2.2
  by_cases e:lo>=a0.length
  ·rw[if_pos e];obtain rfl:lo=a0.length:=by omega
   exact wpS_pure ⟨rfl,hS⟩
  ·rw[if_neg e];refine wpS_bind (sF hA hS.1 (nrem:=a0.length-lo) (by omega) (by omega) fun m st2 hB2 hp2 m1 m2 hu2 ho2=>?_);have T2:Stk key (arrOf st2) 0 (pendingOf st2).toList lo:=by rw[hp2];exact hS.2.1.out ho2 (.inl (Nat.le_refl _))
   clear ho2 hp2 hS;dsimp only;have S2:SRt key a0 κ lo st2:=⟨hB2,T2,hl⟩
   by_cases g:m<mr
   all_goals first
    |
     rw[if_pos g];refine wpS_bind (wpS_lift (wpAny_rule ⟨rfl,wpS_bind (zk hA hB2 (n:=min (a0.length-lo) mr) (by omega) (by omega) hu2 fun st3 hB3 hp3 hu3 ho3=>?_)⟩));simp only[Bool.not_true,Bool.false_eq_true,if_false];have S3:SRt key a0 κ lo st3:=⟨hB3,by rw[hp3];exact T2.out ho3 (.inl (Nat.le_refl _)),hl⟩;have n1:1<=min (a0.length-lo) mr:=by omega
     have n2:lo+min (a0.length-lo) mr<=a0.length:=by omega
     clear ho3 hp3 hB3
    |
     rw[if_neg g];have S3:=S2;have hu3:=hu2;have n1:=m1;have n2:lo+m<=a0.length:=by omega
   all_goals
    clear T2 hB2 hu2 S2;refine wpS_bind (wpS_get ?_)
    split
    ·refine wpS_bind (wpS_mono (wpS_forRange (I:=fun _ c st'=>c=(none,())/\SRt key a0 κ lo st'/\Up key (arrOf st') lo (lo+_)) (Q:=fun c st'=>c=(none,())/\SRt key a0 κ lo st'/\Up key (arrOf st') lo (lo+_)) ?_ (fun _ _ z=>z) ⟨rfl,S3,hu3⟩) ?_)
     ·rintro y c st4 _ _ ⟨rfl,S4,u4⟩;refine wpS_bind (wpS_get ?_)
      by_cases e2:(pendingOf st4).size > 1
      ·rw[if_pos e2,Array.getElem?_eq_getElem (by omega)];dsimp only
       split
       ·exact wpS_pure ⟨rfl,S4,u4⟩
       ·refine wpS_bind (pJ hA S4 (by omega) fun st5 S5 _ ho _=>?_);simp only[Bool.not_true,Bool.false_eq_true,if_false];exact wpS_pure ⟨rfl,S5,u4.out ho (.inr (Nat.le_refl _))⟩
      ·rw[if_neg e2];exact wpS_pure ⟨rfl,S4,u4⟩
     ·rintro c st4 ⟨rfl,S4,u4⟩;dsimp only;refine wpS_bind (wpS_modify (wpS_bind (wpS_modify (wpS_pure ⟨_,rfl,SRt.push ⟨⟨S4.1.perm,S4.1.kind,S4.1.fail⟩,S4.2.1.cong (tm fun x=>⟨rfl,rfl⟩),hl⟩ n1 n2 u4,by omega⟩))))
    ·exact wpS_bind (wpS_modify (wpS_pure ⟨_,rfl,S3.push n1 n2 hu3,by omega⟩))
 case post =>
  rintro c st' ⟨rfl,hS⟩;dsimp only;refine wpS_bind (wpS_mono (wpS_forRange (I:=fun x c st'=>c=(none,())/\SRt key a0 κ a0.length st'/\((pendingOf st').size+x<=a0.length∨(pendingOf st').size<=1)) (Q:=fun c st'=>c=(none,())/\SRt key a0 κ a0.length st'/\(pendingOf st').size<=1) ?_ ?_ ⟨rfl,hS,.inl ?_⟩) ?_)
  ·rintro x c st2 _ hx ⟨rfl,S2,q⟩;refine wpS_bind (wpS_get ?_)
   by_cases e:(pendingOf st2).size<=1
   ·rw[if_pos e];exact wpS_pure ⟨rfl,S2,e⟩
   ·rw[if_neg e];refine wpS_bind (pJ hA S2 (vD (by omega) (by omega)) fun st3 S3 z _ _=>?_);simp only[Bool.not_true,Bool.false_eq_true,if_false];exact wpS_pure ⟨rfl,S3,by omega⟩
  ·rintro c st2 ⟨rfl,S2,q⟩;exact⟨rfl,S2,by omega⟩
  ·have:=hS.2.1.len;rw[Array.length_toList]at this;omega
  ·rintro c st2 ⟨rfl,S2,q⟩;refine wpS_pure (h st2 S2.1 ?_);have T:=S2.2.1;have l:(pendingOf st2).toList.length<=1:=by rw[Array.length_toList];exact q
   match e:(pendingOf st2).toList,l with
   |[],_=>rw[e]at T;have:0=a0.length:=T;omega
   |[x],_ =>
    rw[e]at T;obtain⟨_,_,t3,t4⟩:=T;have t5:0+x.2.1=a0.length:=t4;rw[t5]at t3;exact t3
end
end L2
namespace L2
open PySem PySem.SetTable
theorem fA{α:Type}(xs:Array α) (p:Nat) (x:α):(insertAt xs p x).toList=xs.toList.take p++x::xs.toList.drop p:=by
 unfold insertAt;rw[Array.toList_append,Array.toList_push,Array.toList_extract,Array.toList_extract,List.extract_eq_take_drop,List.extract_eq_take_drop];rw[List.drop_zero,Nat.sub_zero,List.take_of_length_le (l:=xs.toList.drop p) (by simp)];simp
theorem dS{xs:Array Nat}{i d:Nat}:xs.getD i d=xs.toList[i]?.getD d:=by
 rw[Array.getElem?_toList]
 by_cases h:i<xs.size
 ·simp[Array.getD,h]
 ·simp[Array.getD,h]
theorem kZ{xs:Array Nat}{p x:Nat}(hp:p<=xs.size) (i:Nat):(insertAt xs p x).getD i 0=if i<p then xs.getD i 0 else if i=p then x else xs.getD (i-1) 0:=by
 have hl:(xs.toList.take p).length=p:=by simp;omega
 rw[dS,fA,List.getElem?_append,hl]
 by_cases a:i<p
 ·rw[if_pos a,if_pos a,List.getElem?_take_of_lt a,dS]
 ·rw[if_neg a,if_neg a]
  by_cases b:i=p
  ·rw[if_pos b,b];simp
  ·rw[if_neg b];obtain⟨m,hm⟩:∃m,i-p=m+1:=⟨i-p-1,by omega⟩;rw[hm,List.getElem?_cons_succ,List.getElem?_drop,dS];congr 2;omega
theorem dw{α:Type}(xs:Array α) (p:Nat) (x:α) (hp:p<=xs.size):(insertAt xs p x).size=xs.size+1:=by
 rw[<-Array.length_toList,fA];simp;omega
theorem nZ{xs:Array Nat}{p x:Nat}(hp:p<=xs.size) {j:Nat}(h:Occ xs j):Occ (insertAt xs p x) j:=by
 obtain⟨i,hi,e⟩:=h
 by_cases a:i<p
 ·exact⟨i,by rw[dw _ _ _ hp];omega,by rw[kZ hp,if_pos a];exact e⟩
 ·exact⟨i+1,by rw[dw _ _ _ hp];omega,by rw[kZ hp,if_neg (by omega),if_neg (by omega)];exact e⟩
theorem TB.put{t:SetTable}{hs:List Int}(T:TB t hs) {h:Int}{n:Nat}(f0:¬ Occ t.place (pth t.mask h n).j) (f1:∀m,m<n->Occ t.place (pth t.mask h m).j) (few:t.place.size+1<=t.mask) :
  ∃p,p<=hs.length/\(t.put (pth t.mask h n).j).2=p/\TB (t.put (pth t.mask h n).j).1 (hs.take p++h::hs.drop p)/\(t.put (pth t.mask h n).j).1.led=t.led/\(t.put (pth t.mask h n).j).1.plain=t.plain/\(t.put (pth t.mask h n).j).1.mask=t.mask/\(t.put (pth t.mask h n).j).1.place.size=t.place.size+1:=by
 generalize hj:(pth t.mask h n).j=j at *
 have hjm:j<=t.mask:=by rw[<-hj];exact mE n
 obtain⟨b1,b2,b3⟩:=iH T.up j;have sz:=T.sz;have hd:has t.dummies j=false:=by rw[T.dm];rfl
 have e:t.put j=({ t with place:=insertAt t.place (below t.place j) j,dummies:=t.dummies },below t.place j):=by unfold SetTable.put;rw[hd];rfl
 rw[e];dsimp only;generalize hp:below t.place j=p at *
 have b3':∀i,p<=i->i<t.place.size->j<t.place.getD i 0:=fun i h1 h2=>by
  have:=b3 i h1 h2;rcases Nat.lt_or_ge j (t.place.getD i 0)with q|q
  ·exact q
  ·exact absurd ⟨i,h2,by omega⟩ f0
 have isz:=dw t.place p j b1;refine⟨p,by omega,rfl,⟨?_,?_,?_,T.dm,T.pw,by rw[isz];exact few,?_⟩,rfl,rfl,rfl,isz⟩
 ·show(insertAt t.place p j).size=_;rw[isz,List.length_append,List.length_take,List.length_cons,List.length_drop];omega
 ·intro i k hik hk;have hk':k<t.place.size+1:=by rw[<-isz];exact hk
  show(insertAt t.place p j).getD i 0<(insertAt t.place p j).getD k 0;rw[kZ b1,kZ b1]
  by_cases c1:i<p
  ·rw[if_pos c1]
   by_cases c2:k<p
   ·rw[if_pos c2];exact T.up i k hik (by omega)
   ·rw[if_neg c2]
    by_cases c3:k=p
    ·rw[if_pos c3];exact b2 i c1
    ·rw[if_neg c3];exact T.up i (k-1) (by omega) (by omega)
  ·rw[if_neg c1,if_neg (show ¬ k<p by omega),if_neg (show ¬ k=p by omega)]
   by_cases c3:i=p
   ·rw[if_pos c3];exact b3' _ (by omega) (by omega)
   ·rw[if_neg c3];exact T.up (i-1) (k-1) (by omega) (by omega)
 ·intro i hi;have hi':i<t.place.size+1:=by rw[<-isz];exact hi
  show(insertAt t.place p j).getD i 0<=t.mask;rw[kZ b1]
  by_cases c1:i<p
  ·rw[if_pos c1];exact T.le i (by omega)
  ·rw[if_neg c1]
   by_cases c3:i=p
   ·rw[if_pos c3];exact hjm
   ·rw[if_neg c3];exact T.le _ (by omega)
 ·intro i g hg;have hl:(hs.take p).length=p:=by simp;omega
  have old:∀i',hs[i']?=some g->(insertAt t.place p j).getD i 0=t.place.getD i' 0->∃n,(pth t.mask g n).j=(insertAt t.place p j).getD i 0/\∀m,m<n->Occ (insertAt t.place p j) (pth t.mask g m).j:=fun i' h1 h2=>by
   obtain⟨n',a,b⟩:=T.pr i' g h1;exact⟨n',by rw[a,h2],fun m hm=>nZ b1 (b m hm)⟩
  rw[List.getElem?_append,hl]at hg
  by_cases c1:i<p
  ·rw[if_pos c1,List.getElem?_take_of_lt c1]at hg;exact old i hg (by rw[kZ b1,if_pos c1])
  ·rw[if_neg c1]at hg
   by_cases c3:i=p
   ·rw[c3,Nat.sub_self,List.getElem?_cons_zero]at hg;cases hg;exact⟨n,by show _=(insertAt t.place p j).getD i 0;rw[kZ b1,if_neg c1,if_pos c3];exact hj,fun m hm=>nZ b1 (f1 m hm)⟩
   ·obtain⟨m,hm⟩:∃m,i-p=m+1:=⟨i-p-1,by omega⟩;rw[hm,List.getElem?_cons_succ,List.getElem?_drop]at hg;exact old _ hg (by rw[kZ b1,if_neg c1,if_neg c3];congr 1;omega)
variable{mask:Nat}{h:Int}
abbrev Ow:=Array (Option Nat)
def ocO(ow:Ow) (j:Nat):Prop:=ow.getD j (some 0)≠none
theorem n8{ow:Ow}(hs:ow.size=mask+1) {M:Nat}(hM:ow.getD (rs mask h M).1 (some 0)=none):∀F m n,m<=M->M-m<F->pth mask h n=atR mask (rs mask h m)->(∀l,l<n->ocO ow (pth mask h l).j) ->
  ∃n',layClean.free mask ow F (rs mask h m).1 (rs mask h m).2=some (pth mask h n').j/\ow.getD (pth mask h n').j (some 0)=none/\∀l,l<n'->ocO ow (pth mask h l).j
 |0,m,n,h1,h2,_,_=>by omega
 |F+1,m,n,h1,h2,e,oc=>by
  have lt:=vq (mask:=mask) (h:=h) m;have len:runEnd mask (rs mask h m).1+1-(rs mask h m).1=runEnd mask (rs mask h m).1-(rs mask h m).1+1:=by
   have:(rs mask h m).1<=runEnd mask (rs mask h m).1:=by unfold runEnd;split<;>omega
   omega
  have jq:∀q,q<=runEnd mask (rs mask h m).1-(rs mask h m).1->(pth mask h (n+q)).j=(rs mask h m).1+q:=fun q hq=>by rw[jI e q hq]
  unfold layClean.free;rw[len];cases c:(List.range (runEnd mask (rs mask h m).1-(rs mask h m).1+1)).find? fun k=>(ow.getD ((rs mask h m).1+k) (some 0)).isNone with
  |some k =>
   dsimp only;have hk:=List.mem_range.mp (List.mem_of_find?_eq_some c);have hn:=List.find?_some c;refine⟨n+k,by rw[jq k (by omega)],by rw[jq k (by omega)];simpa using hn,fun l hl=>?_⟩;rcases Nat.lt_or_ge l n with a|a
   ·exact oc l a
   ·obtain⟨q,rfl⟩:∃q,l=n+q:=⟨l-n,by omega⟩;unfold ocO;rw[jq q (by omega)];intro z;obtain⟨as,bs,e1,e2⟩:=(List.find?_eq_some_iff_append.mp c).2;have:q∈as:=by
     have hq:q∈List.range (runEnd mask (rs mask h m).1-(rs mask h m).1+1):=List.mem_range.mpr (by omega);have srt:(as++k::bs).Pairwise (·<·):=by rw[<-e1];exact List.pairwise_lt_range
     rw[e1]at hq;rcases List.mem_append.mp hq with r|r
     ·exact r
     ·rw[List.pairwise_append]at srt;rcases List.mem_cons.mp r with r|r
      ·omega
      ·have:=(List.pairwise_cons.mp srt.2.1).1 q r;omega
    have:=e2 q this;rw[z]at this;simp at this
  |none =>
   dsimp only;have all:=List.find?_eq_none.mp c;have ne:m≠M:=fun z=>by
    subst z;have:=all 0 (List.mem_range.mpr (by omega));rw[Nat.add_zero,hM]at this;simp at this
   show ∃n',layClean.free mask ow F (rs mask h (m+1)).1 (rs mask h (m+1)).2=_/\_;refine n8 hs hM F (m+1) (n+(runEnd mask (rs mask h m).1-(rs mask h m).1)+1) (by omega) (by omega) ?_ fun l hl=>?_
   ·show pA mask (pth mask h (n+_))=_;rw[jI e _ (Nat.le_refl _)];unfold pA;rw[if_neg (by simp)];rfl
   ·rcases Nat.lt_or_ge l n with a|a
    ·exact oc l a
    ·obtain⟨q,rfl⟩:∃q,l=n+q:=⟨l-n,by omega⟩;unfold ocO;rw[jq q (by omega)];intro z;have:=all q (List.mem_range.mpr (by omega));rw[z]at this;simp at this
def lv(mask:Nat) (ow:Ow):List (Nat×Nat):=(List.range (mask+1)).filterMap fun j=>(ow.getD j none).map (j,·)
theorem mQ{ow:Ow}{j:Nat}(hj:j<ow.size) (a b:Option Nat):ow.getD j a=ow.getD j b:=by simp[Array.getD,hj]
theorem vt{ow:Ow}(hs:ow.size=mask+1) {s k:Nat}(hl:s<=mask) (hn:ow.getD s none=none):(lv mask (ow.setIfInBounds s (some k))).Perm ((s,k)::lv mask ow):=by
 unfold lv;have sp:List.range (mask+1)=List.range s++s::(List.range' (s+1) (mask-s)):=by
  rw[List.range_eq_range',List.range_eq_range',show mask+1=s+(1+(mask-s))by omega,<-List.range'_append_1,<-List.range'_append_1];simp[Nat.add_comm]
 have same:∀l:List Nat,s∉l->(l.filterMap fun j=>((ow.setIfInBounds s (some k)).getD j none).map (j,·))=l.filterMap fun j=>(ow.getD j none).map (j,·):=fun l hl=>by
  induction l with
  |nil=>rfl
  |cons j l ih =>
   have this:s≠j:=fun z=>hl (z▸.head _);rw[List.filterMap_cons,List.filterMap_cons,ih fun z=>hl (.tail _ z)];simp only[Array.getD_eq_getD_getElem?,Array.getElem?_setIfInBounds,if_neg this]
 rw[sp,List.filterMap_append,List.filterMap_append,List.filterMap_cons,List.filterMap_cons,hn,same _ (by simp),same _ (fun z=>by obtain⟨x,_,z⟩:=List.mem_range'.mp z;omega)];have:(ow.setIfInBounds s (some k)).getD s none=some k:=by simp[Array.getD_eq_getD_getElem?,show s<ow.size by omega]
 rw[this];simp only[Option.map_some,Option.map_none];exact List.perm_middle
structure LC(mask:Nat) (hs:List Int) (ow:Ow) (k:Nat):Prop where
 sz:ow.size=mask+1
 perm:((lv mask ow).map (·.2)).Perm (List.range k)
 pr:∀j i h,ow.getD j none=some i->hs[i]?=some h->∃n,(pth mask h n).j=j/\∀m,m<n->ocO ow (pth mask h m).j
theorem wO{ow:Ow}(hs:ow.size=mask+1) {j i:Nat}(e:ow.getD j none=some i):(j,i)∈lv mask ow:=by
 have hj:j<ow.size:=by
  rcases Nat.lt_or_ge j ow.size with q|q
  ·exact q
  ·simp[Array.getD,show ¬ j<ow.size by omega]at e
 exact List.mem_filterMap.mpr ⟨j,List.mem_range.mpr (by omega),by rw[e];rfl⟩
theorem sk{ow:Ow}(hs:ow.size=mask+1) (few:(lv mask ow).length<=mask):∃j,j<=mask/\ow.getD j none=none:=by
 refine Classical.byContradiction fun c=>?_;have all:∀j∈List.range (mask+1),∃i,ow.getD j none=some i:=fun j hj=>by
  cases q:ow.getD j none with
  |none=>exact absurd ⟨j,by have:=List.mem_range.mp hj;omega,q⟩ c
  |some i=>exact⟨i,rfl⟩
 have:∀l:List Nat,(∀j∈l,∃i,ow.getD j none=some i)->(l.filterMap fun j=>(ow.getD j none).map (j,·)).length=l.length:=fun l=>by
  induction l with
  |nil=>exact fun _=>rfl
  |cons j l ih =>
   intro hl;obtain⟨i,e⟩:=hl j (.head _);rw[List.filterMap_cons,e];simp only[Option.map_some,List.length_cons];rw[ih fun x hx=>hl x (.tail _ hx)]
 have q:=this _ all;rw[List.length_range]at q;unfold lv at few;omega
abbrev lcF(mask:Nat) (acc:Option (Ow×Nat)) (h:Int):Option (Ow×Nat):=do
 let(owner,k) <-acc
 let j <-layClean.free mask owner (turns mask) (bits h % (mask+1)) (bits h)
 pure (owner.setIfInBounds j (some k),k+1)
theorem u6{e:Nat}(hk:mask+1=2 ^ e) {hs:List Int}(few:hs.length<=mask):∀(todo done:List Int) (ow:Ow),hs=done++todo->LC mask hs ow done.length->∃ow',todo.foldl (lcF mask) (some (ow,done.length))=some (ow',hs.length)/\LC mask hs ow' hs.length
 |[],done,ow,h0,L=>⟨ow,by rw[h0];simp,by rw[h0];simpa[h0]using L⟩
 |h::todo,done,ow,h0,L=>by
  have ll:(lv mask ow).length=done.length:=by have:=L.perm.length_eq;simpa using this
  have lt:done.length<hs.length:=by rw[h0];simp
  obtain⟨j,hj,nj⟩:=sk L.sz (by omega);obtain⟨m,_,hm,_,em,_⟩:=ny (mask:=mask) (h:=h) hk hj;obtain⟨n',f1,f2,f3⟩:=n8 (mask:=mask) (h:=h) (ow:=ow) L.sz (M:=m) (by rw[em,mQ (by rw[L.sz];omega) (some 0) none];exact nj) (turns mask) 0 0 (Nat.zero_le _) (by unfold turns;omega) rfl (fun l hl=>by omega);have sl:=mE (mask:=mask) (h:=h) n';have st:lcF mask (some (ow,done.length)) h=some (ow.setIfInBounds (pth mask h n').j (some done.length),done.length+1):=by
   show(layClean.free mask ow (turns mask) (bits h % (mask+1)) (bits h) >>= fun j=>pure (ow.setIfInBounds j (some done.length),done.length+1))=_;have:layClean.free mask ow (turns mask) (bits h % (mask+1)) (bits h)=some (pth mask h n').j:=f1;rw[this];rfl
  rw[List.foldl_cons,st];generalize hsl:(pth mask h n').j=sl' at *
  have f2':ow.getD sl' none=none:=by rw[<-f2];exact mQ (by rw[L.sz];omega) _ _
  have oc':∀j,ocO ow j->ocO (ow.setIfInBounds sl' (some done.length)) j:=fun j hj z=>by
   unfold ocO at hj;simp only[Array.getD_eq_getD_getElem?,Array.getElem?_setIfInBounds]at z hj
   split at z
   ·split at z<;>simp at z
   ·exact hj z
  have:=u6 hk few todo (done++[h]) (ow.setIfInBounds sl' (some done.length)) (by rw[h0];simp) ⟨by rw[Array.size_setIfInBounds];exact L.sz,?_,?_⟩
  ·rw[List.length_append,List.length_singleton]at this;exact this
  ·rw[List.length_append,List.length_singleton,List.range_succ];refine((vt L.sz sl f2').map _).trans ?_;rw[List.map_cons];exact(List.Perm.cons _ L.perm).trans (List.perm_append_singleton _ _).symm
  ·intro j i g hg hi
   by_cases c:sl'=j
   ·have:i=done.length:=by
     simp only[Array.getD_eq_getD_getElem?,Array.getElem?_setIfInBounds,if_pos c]at hg
     split at hg
     ·simpa using hg.symm
     ·simp at hg
    subst this;have:g=h:=by rw[h0,List.getElem?_append_right (Nat.le_refl _),Nat.sub_self,List.getElem?_cons_zero]at hi;exact(Option.some.inj hi).symm
    subst this;exact⟨n',by rw[hsl];exact c,fun m hm=>oc' _ (f3 m hm)⟩
   ·have hg':ow.getD j none=some i:=by
     simp only[Array.getD_eq_getD_getElem?,Array.getElem?_setIfInBounds,if_neg c]at hg ⊢;exact hg
    obtain⟨n,a,b⟩:=L.pr j i g hg' hi;exact⟨n,a,fun m hm=>oc' _ (b m hm)⟩
theorem kQ(n:Nat):∀F k,n<2 ^ (k+F)->∃e,k<=e/\sizeAbove.go n F (2 ^ k)=2 ^ e/\n<2 ^ e/\(e=k∨2 ^ e<=2*n)
 |0,k,h=>⟨k,Nat.le_refl _,rfl,h,.inl rfl⟩
 |F+1,k,h=>by
  unfold sizeAbove.go
  by_cases c:2 ^ k<=n
  ·rw[if_pos c,show 2 ^ k*2=2 ^ (k+1)from(Nat.pow_succ ..).symm];obtain⟨e,h1,h2,h3,h4⟩:=kQ n F (k+1) (by rw[show k+1+F=k+(F+1)by omega];exact h);refine⟨e,by omega,h2,h3,.inr ?_⟩;rcases h4 with h4|h4
   ·rw[h4,Nat.pow_succ];omega
   ·exact h4
  ·rw[if_neg c];exact⟨k,Nat.le_refl _,rfl,by omega,.inl rfl⟩
theorem lM{n:Nat}(h:n<2 ^ 60):∃e,3<=e/\sizeAbove n=2 ^ e/\n<2 ^ e/\(2 ^ e<=8∨2 ^ e<=2*n):=by
 obtain⟨e,h1,h2,h3,h4⟩:=kQ n 64 3 (Nat.lt_trans h (by decide));exact⟨e,h1,h2,h3,h4.imp (fun z=>by rw[z];decide) id⟩
variable{mask:Nat}
theorem yI(ow:Ow):((lv mask ow).map (·.1)).Pairwise (·<·):=by
 unfold lv;rw[List.map_filterMap,List.pairwise_filterMap];refine List.pairwise_lt_range.imp fun {a b} hab x hx y hy=>?_;cases qa:ow.getD a none with
 |none=>rw[qa]at hx;cases hx
 |some i =>
  cases qb:ow.getD b none with
  |none=>rw[qb]at hy;cases hy
  |some k =>
   rw[qa]at hx;rw[qb]at hy;cases hx;cases hy;exact hab
theorem va{ow:Ow}{j i:Nat}(h:(j,i)∈lv mask ow):j<=mask/\ow.getD j none=some i:=by
 obtain⟨a,ha,e⟩:=List.mem_filterMap.mp h;have:=List.mem_range.mp ha;cases q:ow.getD a none with
 |none=>rw[q]at e;cases e
 |some k=>rw[q]at e;cases e;exact⟨by omega,q⟩
theorem tV{t:SetTable}{hs:List Int}{wanted:Nat}(h1:hs.length<=wanted) (h2:wanted<2 ^ 60) (h3:0<wanted):∃t' order,t.relaid hs.toArray wanted=some (t',order)/\t'.led=t.led/\t'.plain=t.plain/\t'.mask+1=sizeAbove wanted/\order.toList.Perm (List.range hs.length)/\t'.place.size=hs.length/\TB t' (order.toList.map fun k=>hs.getD k 0):=by
 obtain⟨e,e3,es,el,_⟩:=lM h2;have pos:0<2 ^ e:=Nat.two_pow_pos e;generalize hm:sizeAbove wanted-1=mask;have hk:mask+1=2 ^ e:=by omega
 have L0:LC mask hs (Array.replicate (mask+1) none) 0:=by
  have z:∀j,(Array.replicate (mask+1) (none:Option Nat)).getD j none=none:=fun j=>by
   rw[Array.getD_eq_getD_getElem?,Array.getElem?_replicate];split<;>rfl
  refine⟨by simp,?_,fun j i h q _=>by rw[z]at q;cases q⟩;have:lv mask (Array.replicate (mask+1) none)=[]:=by
   unfold lv;rw[List.filterMap_eq_nil_iff];intro j _;rw[z];rfl
  rw[this];exact .refl _
 obtain⟨ow,f,L⟩:=u6 hk (hs:=hs) (by omega) hs [] _ rfl L0;have hl:layClean mask hs.toArray=some ow:=by
  unfold layClean;rw[<-Array.foldl_toList];show(hs.foldl (lcF mask) (some (Array.replicate (mask+1) none,0))).map (·.1)=_;rw[show(0:Nat)=([]:List Int).length from rfl,f];rfl
 have hr:t.relaid hs.toArray wanted=some ({ mask,place:=((lv mask ow).map (·.1)).toArray,dummies:=#[],finger:=t.finger,led:=t.led,moves:=t.movedTo mask,plain:=t.plain },((lv mask ow).map (·.2)).toArray):=by
  unfold relaid laid;rw[hm,hl];rfl
 have ll:(lv mask ow).length=hs.length:=by have:=L.perm.length_eq;simpa using this
 have gl:∀i,((lv mask ow).map (·.1)).toArray.getD i 0=((lv mask ow)[i]?.map (·.1)).getD 0:=fun i=>by rw[dS];simp
 have psz:((lv mask ow).map (·.1)).toArray.size=hs.length:=by simp[ll]
 have occ:∀j,j<=mask->ocO ow j->Occ ((lv mask ow).map (·.1)).toArray j:=fun j hj q=>by
  cases c:ow.getD j none with
  |none=>exact absurd (by rw[mQ (by rw[L.sz];omega) (some 0) none];exact c) q
  |some i =>
   obtain⟨l,hl⟩:=List.mem_iff_getElem?.mp (wO L.sz c);exact⟨l,by rw[psz,<-ll];exact(List.getElem?_eq_some_iff.mp hl).1,by rw[gl,hl];rfl⟩
 refine⟨_,_,hr,rfl,rfl,by show mask+1=_;omega,by simpa using L.perm,psz,⟨by simp,?_,?_,rfl,⟨e,e3,hk⟩,by show((lv mask ow).map (·.1)).toArray.size<=mask;omega,?_⟩⟩
 ·intro i j hij hj;rw[psz]at hj;have:=List.pairwise_iff_getElem.mp (yI (mask:=mask) ow) i j (by simp;omega) (by simp;omega) hij;show((lv mask ow).map (·.1)).toArray.getD i 0<((lv mask ow).map (·.1)).toArray.getD j 0;rw[gl,gl,List.getElem?_eq_getElem (by omega),List.getElem?_eq_getElem (by omega)];simpa using this
 ·intro i hi;rw[psz]at hi;show((lv mask ow).map (·.1)).toArray.getD i 0<=mask;rw[gl,List.getElem?_eq_getElem (by omega)];exact(va (List.getElem_mem (by omega))).1
 ·intro i h hi;show ∃n,(pth mask h n).j=((lv mask ow).map (·.1)).toArray.getD i 0/\∀m,m<n->Occ ((lv mask ow).map (·.1)).toArray (pth mask h m).j;simp only[List.getElem?_map]at hi;cases c:(lv mask ow)[i]? with
  |none=>rw[c]at hi;cases hi
  |some jk =>
   obtain⟨j,k⟩:=jk;rw[c]at hi;have mem:=List.mem_of_getElem? c;have hk':k<hs.length:=List.mem_range.mp (L.perm.mem_iff.mp (List.mem_map.mpr ⟨_,mem,rfl⟩));have hh:hs[k]?=some h:=by
    have:hs.getD k 0=h:=by simpa using hi
    rw[List.getElem?_eq_getElem hk',<-this];simp[hk']
   obtain⟨n,a,b⟩:=L.pr j k h (va mem).2 hh;exact⟨n,by rw[gl,c];exact a,fun m hm=>occ _ (mE m) (b m hm)⟩
end L2
namespace L2
open PySem PySem.SetTable PySem.SeqAt
structure TK(prog:Program) (w:World) (τ:Type) where
 is:Heap->τ->Value->Prop
 hash:τ->Int
 room:Around->Prop
 pyHash:∀{A:Around} {E:Value->Shared->Prop} {s:Shared} {x:τ} {v:Value} {Q:Int->Shared->Prop},room A->is s.heap x v->(∀t,s.toks<=t->Q (hash x) { s with toks:=t })->wpAny (model prog w) A (PySem.pyHash v) Q E s
 eqB:∀{A:Around} {s:Shared} {x y:τ} {v u:Value},room A->is s.heap x v->is s.heap y u->∃b:Bool,(b=true↔x=y)/\EqAt A s v u b
 quiet:∀{A:Around} {E:Value->Shared->Prop} {s:Shared} {x:τ} {v:Value} {Q:Bool->Shared->Prop},room A->is s.heap x v->Q true s->wpAny (model prog w) A (eqIsQuiet 8 v) Q E s
 noCls:∀{A:Around} {E:Value->Shared->Prop} {s:Shared} {x:τ} {v:Value} {Q:Bool->Shared->Prop},room A->is s.heap x v->Q false s->wpAny (model prog w) A (ofAClassStatement 8 v) Q E s
 byV:∀{A:Around} {E:Value->Shared->Prop} {s:Shared} {x:τ} {v:Value} {Q:Bool->Shared->Prop},room A->is s.heap x v->(∀b,Q b s)->wpAny (model prog w) A (hashByValue 8 v) Q E s
 ref:∀{h:Heap} {x:τ} {v:Value},is h x v->∃a,v=.ref a
variable{prog:Program}{w:World}{τ:Type}{κ:TK prog w τ}{A:Around}{E:Value->Shared->Prop}{s:Shared}
structure Els(κ:TK prog w τ) (h:Heap) (es:Array (Int×Value)) (zs:List τ):Prop where
 len:es.size=zs.length
 at_:∀(i:Nat) z,zs[i]?=some z->∃v,es[i]?=some (κ.hash z,v)/\κ.is h z v
def cg(es:Array (Int×Value)):List Int:=es.toList.map (·.1)
theorem Els.of{h:Heap}{es:Array (Int×Value)}{zs:List τ}(L:Els κ h es zs) {i:Nat}{e:Int×Value}(g:es[i]?=some e):∃z,zs[i]?=some z/\e.1=κ.hash z/\κ.is h z e.2:=by
 have hi:i<zs.length:=by rw[<-L.len];exact(Array.getElem?_eq_some_iff.mp g).1
 obtain⟨v,g',q⟩:=L.at_ i zs[i] (List.getElem?_eq_getElem hi);rw[g]at g';cases g';exact⟨_,List.getElem?_eq_getElem hi,rfl,q⟩
theorem xS{x:τ}{v:Value}(hr:κ.room A) (hx:κ.is s.heap x v) {Q:Bool->Shared->Prop}(h:Q false s):∀(l:List Value),(∀u∈l,∃y,κ.is s.heap y u)->wpAny (model prog w) A (searchCouldBeSeen v l) Q E s:=by
 intro l hl;unfold searchCouldBeSeen;refine wpAny_bind ?_;refine wpAny_forIn_list _ (fun ay b s'=>s'=s/\b=(none,())/\∀u∈ay,∃y,κ.is s.heap y u) _ ?_ ?_ _ _ ⟨rfl,rfl,hl⟩
 ·rintro u ay b s' ⟨rfl,rfl,hr'⟩;obtain⟨y,hy⟩:=hr' u (.head _);obtain⟨a,rfl⟩:=κ.ref hx;obtain⟨c,rfl⟩:=κ.ref hy;have rest':∀u∈ay,∃y,κ.is s'.heap y u:=fun u hu=>hr' u (.tail _ hu);dsimp only
  split
  ·exact wpAny_pure ⟨rfl,rfl,rest'⟩
  ·refine wpAny_bind (κ.quiet hr hx ?_);simp only[Bool.not_true,Bool.false_eq_true,if_false];refine wpAny_bind (κ.quiet hr hy ?_);simp only[Bool.not_true,Bool.false_eq_true,if_false];refine wpAny_bind (κ.noCls hr hx ?_);simp only[Bool.false_eq_true,if_false];refine wpAny_bind (κ.noCls hr hy ?_);simp only[Bool.false_eq_true,if_false];exact wpAny_pure ⟨rfl,rfl,rest'⟩
 ·rintro b s' ⟨rfl,rfl,_⟩;exact wpAny_pure h
theorem vE{a:Addr}{o:Obj}{es:Array (Int×Value)}{ep:Nat}{t:SetTable}{zs:List τ}{x:τ}{v:Value}{n0:Nat}(hr:κ.room A) (hx:κ.is s.heap x v) (ho:s.heap.get? a=some o) (hd:o.data=.set es ep t) (L:Els κ s.heap es zs) (T:TB t (cg es))
  (f0:¬ Occ t.place (pth t.mask (κ.hash x) n0).j) (f1:∀m,m<n0->Occ t.place (pth t.mask (κ.hash x) m).j) {Q:SetFound->Shared->Prop} (hy:x∈zs->∀i,Q (.there i) s) (hn:x∉zs->Q (.free (pth t.mask (κ.hash x) n0).j false) s) :
  ∀F n stand,stand.getD (t.probeStart (κ.hash x))=pth t.mask (κ.hash x) n->n<=n0->n0-n<F->n0<10*turns t.mask->(∀l,l<n->∀i,i<t.place.size->t.place.getD i 0=(pth t.mask (κ.hash x) l).j->zs[i]?≠some x)->wpAny (model prog w) A (setSearchFrom a v (κ.hash x) true F stand) Q E s:=by
 have lens:(cg es).length=es.size:=by simp[cg]
 have fit:t.fits es.size=true:=by
  unfold SetTable.fits fill;rw[T.dm,T.sz,lens];have:=T.few;rw[T.sz,lens]at this;simpa using this
 have gw:t.gaveWay=false:=by
  obtain⟨k,k3,hk⟩:=T.pw;unfold gaveWay;obtain⟨m,rfl⟩:∃m,k=m+1:=⟨k-1,by omega⟩;rw[Nat.pow_succ]at hk;have:t.mask % 2=1:=by omega
  rw[this];rfl
 have uniq:∀{i k},i<t.place.size->k<t.place.size->t.place.getD i 0=t.place.getD k 0->i=k:=fun {i k} hi hk e=>by
  rcases Nat.lt_trichotomy i k with q|q|q
  ·have:=T.up i k q hk;omega
  ·exact q
  ·have:=T.up k i q hi;omega
 intro F
 induction F with
 |zero=>intro n stand _ _ h3;omega
 |succ F ih =>
  intro n stand e h2 h3 h4 h5;unfold setSearchFrom;refine wpAny_bind (wpAny_setState_of ho hd fit ?_);dsimp only;rw[gw];simp only[Bool.false_eq_true,if_false];unfold SetTable.probe;rw[e];obtain⟨ha,hha⟩:∃ha:Nat->Int,ha=fun i=>(es[i]?.map (·.1)).getD 0:=⟨_,rfl⟩;obtain⟨m,m1,m2,m3,m4⟩:=lS T f0 f1 (ha:=ha) (10*turns t.mask) n h2 (by omega);have hat:∀(i:Nat) z,zs[i]?=some z->ha i=κ.hash z:=fun i z hz=>by
   obtain⟨u,g,_⟩:=L.at_ i z hz;rw[hha];simp[g]
  have skip:∀l,l<m->∀i,i<t.place.size->t.place.getD i 0=(pth t.mask (κ.hash x) l).j->zs[i]?≠some x:=fun l hl i hi he hz=>by
   rcases Nat.lt_or_ge l n with q|q
   ·exact h5 l q i hi he hz
   ·obtain⟨k,k1,k2,k3⟩:=m3 l q hl;obtain rfl:=uniq hi k1 (he.trans k2.symm);exact k3 (hat _ _ hz)
  rcases m4 with⟨rfl,em⟩|⟨mlt,i,i1,i2,i3,em⟩
  ·have em2:∀f:Nat->Int,f=ha->probe.go t f (κ.hash x) (10*turns t.mask) (pth t.mask (κ.hash x) n)=probe.go t ha (κ.hash x) (10*turns t.mask) (pth t.mask (κ.hash x) n):=fun f hf=>by rw[hf]
   rw[em2 _ ?_,em]
   rotate_left
   ·rw[hha];rfl
   dsimp only;refine wpAny_pure (hn fun hz=>?_);obtain⟨i,hi⟩:=List.mem_iff_getElem?.mp hz;have hi':i<t.place.size:=by rw[T.sz,lens,L.len];exact(List.getElem?_eq_some_iff.mp hi).1
   obtain⟨u,g,_⟩:=L.at_ i x hi;obtain⟨nn,a1,a2⟩:=T.pr i (κ.hash x) (by rw[cg,List.getElem?_map,Array.getElem?_toList,g];rfl);have lt:nn<m:=by
    rcases Nat.lt_trichotomy nn m with q|q|q
    ·exact q
    ·subst q;exact absurd ⟨i,hi',a1.symm⟩ f0
    ·exact absurd (a2 m q) f0
   exact skip nn lt i hi' a1.symm hi
  ·have em2:∀f:Nat->Int,f=ha->probe.go t f (κ.hash x) (10*turns t.mask) (pth t.mask (κ.hash x) n)=probe.go t ha (κ.hash x) (10*turns t.mask) (pth t.mask (κ.hash x) n):=fun f hf=>by rw[hf]
   rw[em2 _ ?_,em]
   rotate_left
   ·rw[hha];rfl
   dsimp only;have iz:i<zs.length:=by rw[<-L.len,<-lens,<-T.sz];exact i1
   obtain⟨u,gu,hu⟩:=L.at_ i zs[i] (List.getElem?_eq_getElem iz);have main:wpAny (model prog w) A (do
     let some (_,y):=es[i]?|unsupported "internal:set-entry"
     let equal <-holding [y] (eqBool y v)
     let(es',_,t') <-setState a
     if true&&equal then return .there none
     let some same:=t'.sameMemory t.moves t.mask|unsupported "set.changed-during-lookup:is-the-new-block-at-the-old-address"
     let still <-match (if same then t'.slot (pth t.mask (κ.hash x) m).j else .empty)with
      |.live i'=>match es'[i']? with
       |some (_,y')=>do pure (if <-isSame y' y then some i' else none)
       |none=>pure none
      |_=>pure none
     match still with
     |none=>rule "set.search.anew";setSearchFrom a v (κ.hash x) true F none
     |some i'=>if equal then return .there (some i')else setSearchFrom a v (κ.hash x) true F (some (pth t.mask (κ.hash x) (m+1)))) Q E s:=by
    rw[gu];dsimp only;obtain⟨b,hb,eq⟩:=κ.eqB hr hu hx;refine wpAny_bind (wpAny_holding (eq prog w _ _ ?_));refine wpAny_bind (wpAny_setState_of ho hd fit ?_);dsimp only;cases b with
    |true =>
     have:zs[i]=x:=hb.mp rfl;exact wpAny_pure (hy (this▸List.getElem_mem iz) _)
    |false =>
     have ne:zs[i]≠x:=fun z=>by have:=hb.mpr z;cases this
     simp only[Bool.and_false,Bool.false_eq_true,if_false];rw[show t.sameMemory t.moves t.mask=some true by simp[sameMemory]];dsimp only;rw[jw T.up i1 i2];simp only[if_true];rw[gu];dsimp only;obtain⟨c,rfl⟩:=κ.ref hu;refine wpAny_bind (wpAny_isSame_ref_self (wpAny_bind (wpAny_pure ?_)));simp only[if_true];refine ih (m+1) _ rfl mlt (by omega) h4 fun l hl k k1 k2=>?_;rcases Nat.lt_or_ge l m with q|q
     ·exact skip l q k k1 k2
     ·obtain rfl:l=m:=by omega
      obtain rfl:=uniq k1 i1 (k2.trans i2.symm);rw[List.getElem?_eq_getElem iz];intro z;exact ne (Option.some.inj z)
   by_cases led:t.led=true
   ·rw[led];simp only[Bool.not_true,Bool.false_eq_true,if_false];exact main
   ·rw[show t.led=false by simpa using led];simp only[Bool.not_false,if_true];refine wpAny_bind (xS hr hx ?_ _ fun u hu=>?_)
    ·simp only[Bool.false_eq_true,if_false];exact main
    ·obtain⟨e,he,rfl⟩:=List.mem_map.mp hu;have he':e∈es:=(Array.mem_filter.mp (Array.mem_def.mpr he)).1;obtain⟨k,hk,ek⟩:=Array.mem_iff_getElem.mp he';obtain⟨z,_,_,q⟩:=L.of (i:=k) (e:=e) (by rw[Array.getElem?_eq_getElem hk,ek]);exact⟨z,q⟩
variable{prog:Program}{w:World}{τ:Type}{κ:TK prog w τ}{A:Around}{E:Value->Shared->Prop}{s:Shared}
structure vS(κ:TK prog w τ) (h:Heap) (a:Addr) (o:Obj) (es:Array (Int×Value)) (ep:Nat) (t:SetTable) (zs:List τ):Prop where
 get:h.get? a=some o
 ex:o.ExactSet
 data:o.data=.set es ep t
 el:Els κ h es zs
 nd:zs.Nodup
 tb:TB t (cg es)
 led:t.led=!w.params.followText "set-order"
 roomy:es.size*5<t.mask*3
 small:t.mask<=7∨t.mask<=8*es.size
def fP(κ:TK prog w τ) (h:Heap) (a:Addr) (xs:List τ):Prop:=∃o es ep t zs,vS κ h a o es ep t zs/\zs.Perm xs
theorem Els.keep{h h':Heap}{es:Array (Int×Value)}{zs:List τ}(L:Els κ h es zs) (k:∀z v,κ.is h z v->κ.is h' z v):Els κ h' es zs:=⟨L.len,fun i z hz=>by obtain⟨v,g,q⟩:=L.at_ i z hz;exact⟨v,g,k z v q⟩⟩
theorem fP.mono{h h':Heap}{a:Addr}{xs:List τ}(S:fP κ h a xs) (k:∀o,h.get? a=some o->h'.get? a=some o) (k2:∀z v,κ.is h z v->κ.is h' z v):fP κ h' a xs:=by
 obtain⟨o,es,ep,t,zs,q,p⟩:=S;exact⟨o,es,ep,t,zs,⟨k _ q.get,q.ex,q.data,q.el.keep k2,q.nd,q.tb,q.led,q.roomy,q.small⟩,p⟩
theorem nO{h:Heap}{es:Array (Int×Value)}{zs:List τ}{x:τ}{v:Value}{p:Nat}(L:Els κ h es zs) (hx:κ.is h x v) (hp:p<=zs.length):Els κ h (insertAt es p (κ.hash x,v)) (zs.take p++x::zs.drop p):=by
 have lt:(es.toList.take p).length=p:=by rw[List.length_take,Array.length_toList,L.len];omega
 have lz:(zs.take p).length=p:=by rw[List.length_take];omega
 refine⟨by rw[dw _ _ _ (by rw[L.len];exact hp),List.length_append,List.length_cons,lz,List.length_drop,L.len];omega,fun i z hz=>?_⟩;have gi:(insertAt es p (κ.hash x,v))[i]?=(es.toList.take p++(κ.hash x,v)::es.toList.drop p)[i]?:=by rw[<-fA,Array.getElem?_toList]
 rw[gi];rw[List.getElem?_append,lz]at hz;rw[List.getElem?_append,lt]
 by_cases c1:i<p
 ·rw[if_pos c1,List.getElem?_take_of_lt c1]at hz;rw[if_pos c1,List.getElem?_take_of_lt c1,Array.getElem?_toList];exact L.at_ i z hz
 ·rw[if_neg c1]at hz ⊢
  by_cases c2:i=p
  ·rw[c2,Nat.sub_self,List.getElem?_cons_zero]at hz ⊢;cases hz;exact⟨v,rfl,hx⟩
  ·obtain⟨m,hm⟩:∃m,i-p=m+1:=⟨i-p-1,by omega⟩;rw[hm,List.getElem?_cons_succ,List.getElem?_drop]at hz ⊢;rw[Array.getElem?_toList];exact L.at_ _ z hz
theorem TB.plain{t:SetTable}{hs:List Int}(T:TB t hs) (b:Bool):TB { t with plain:=b } hs:=⟨T.sz,T.up,T.le,T.dm,T.pw,T.few,T.pr⟩
theorem TB.fit{t:SetTable}{es:Array (Int×Value)}(T:TB t (cg es)):t.fits es.size=true:=by
 have lens:(cg es).length=es.size:=by simp[cg]
 unfold SetTable.fits fill;rw[T.dm,T.sz,lens];have:=T.few;rw[T.sz,lens]at this;simpa using this
theorem ox{h:Heap}{a:Addr}{o:Obj}{es:Array (Int×Value)}{ep:Nat}{t:SetTable}(ho:h.get? a=some o) (hd:o.data=.set es ep t) (es':Array (Int×Value)) (t':SetTable) :
  (h.update a (Obj.putSet es' t')).get? a=some { o with data:=.set es' (ep+1) t' }:=by
 have:=Heap.get?_update_self (Obj.putSet es' t') ho (by rw[putSet_of es' t' hd];rfl);rw[putSet_of es' t' hd]at this;exact this
theorem lN{es:Array (Int×Value)}:∀{l:List Nat},(∀k∈l,k<es.size)->(l.filterMap fun k=>es[k]?)=l.map fun k=>es.getD k (0,.none)
 |[],_=>rfl
 |k::l,h=>by
  have hk:=h k (.head _);rw[List.filterMap_cons,Array.getElem?_eq_getElem hk,List.map_cons,lN fun j hj=>h j (.tail _ hj)];simp[Array.getD,hk]
theorem jM{l:List τ}{k:Nat}(h:k<l.length) (d:τ):l[k]?=some (l.getD k d):=by rw[List.getD_eq_getElem?_getD,List.getElem?_eq_getElem h];rfl
theorem gL(l:List τ) (d:τ):(List.range l.length).map (fun k=>l.getD k d)=l:=by
 refine List.ext_getElem? fun i=>?_;rw[List.getElem?_map];rcases Nat.lt_or_ge i l.length with q|q
 ·rw[List.getElem?_range q,jM q d];rfl
 ·rw[List.getElem?_eq_none (by rw[List.length_range];exact q),List.getElem?_eq_none q];rfl
theorem AV{a:Addr}{xs:List τ}{x:τ}{v:Value}{Q:Bool->Shared->Prop}(hr:κ.room A) (hx:κ.is s.heap x v) (hS:fP κ s.heap a xs) (few:xs.length<1000) (kp:∀h' z v,Heap.SameBut a s.heap h'->κ.is s.heap z v->κ.is h' z v)
  (h:∀b h',Heap.SameBut a s.heap h'->(x∈xs->fP κ h' a xs)->(x∉xs->fP κ h' a (xs++[x]))->Q b { s with heap:=h' }):wpAny (model prog w) A (setAddHashed a v (κ.hash x)) Q E s:=by
 obtain⟨o,es,ep,t,zs,q,pm⟩:=hS;have lens:(cg es).length=es.size:=by simp[cg]
 have lz:es.size=xs.length:=by rw[q.el.len,pm.length_eq]
 obtain⟨n0,n1,f0,f1⟩:=q.tb.free (κ.hash x);have hm:t.mask<=8000:=by have:=q.small;omega
 obtain⟨r,rfl⟩:=κ.ref hx;have es0:s={ s with heap:=s.heap }:=by cases s;rfl
 unfold setAddHashed setAddHashedIn;refine wpAny_holding (wpAny_bind (wpAny_setState_of q.get q.data q.tb.fit ?_));dsimp only;rw[show byScan (.ref r) es=false by unfold byScan;rfl];simp only[Bool.false_eq_true,if_false];unfold setSearch;refine wpAny_bind (vE hr hx q.get q.data q.el q.tb f0 f1 (fun hz i=>?_) (fun hz=>?_) 100000 0 none rfl (Nat.zero_le _) (by omega) (by unfold turns;omega) (fun l hl=>by omega))
 ·refine wpAny_pure ?_;rw[es0];exact h _ s.heap (Heap.SameBut.refl a s.heap) (fun _=>⟨o,es,ep,t,zs,q,pm⟩) fun hn=>absurd (pm.mem_iff.mp hz) hn
 ·have hn:x∉xs:=fun z=>hz (pm.mem_iff.mpr z);have fl:t.place.size+1<=t.mask:=by
   have:=q.roomy;have:=q.tb.sz;obtain⟨k,k3,hk⟩:=q.tb.pw;have:2 ^ 3<=2 ^ k:=Nat.pow_le_pow_right (by decide) k3;omega
  obtain⟨p,hp,e2,T1,l1,_,m1,z1⟩:=q.tb.put f0 f1 fl;rw[lens]at hp;dsimp only;refine wpAny_bind (wpAny_setState_of q.get q.data q.tb.fit ?_);dsimp only;generalize ht:t.put (pth t.mask (κ.hash x) n0).j=tp at *
  obtain⟨t1,p'⟩:=tp;dsimp only at e2 T1 l1 m1 z1 ⊢;subst e2;have pz:p'<=zs.length:=by rw[<-q.el.len];exact hp
  have hso:cg (insertAt es p' (κ.hash x,.ref r))=(cg es).take p'++κ.hash x::(cg es).drop p':=by unfold cg;rw[fA];simp[List.map_take,List.map_drop]
  have iz:(insertAt es p' (κ.hash x,.ref r)).size=es.size+1:=dw _ _ _ hp;have nd1:(zs.take p'++x::zs.drop p').Nodup:=by
   rw[List.perm_middle.nodup_iff,List.take_append_drop,List.nodup_cons];exact⟨hz,q.nd⟩
  have pm1:(zs.take p'++x::zs.drop p').Perm (xs++[x]):=by
   refine List.perm_middle.trans ?_;rw[List.take_append_drop];exact(List.Perm.cons _ pm).trans (List.perm_append_singleton _ _).symm
  have go:∀t2:SetTable,TB t2 (cg (insertAt es p' (κ.hash x,.ref r)))->t2.led=t.led->t2.mask=t.mask->t2.place.size=t.place.size+1->wpAny (model prog w) A (do
     storeSet a (insertAt es p' (κ.hash x,.ref r)) t2
     if !false&&t2.tooFull then setRelay a (grown (es.size+1))
     return true) Q E s:=by
   intro t2 T2 ld mk sz2;refine wpAny_bind (wpAny_storeSet_of q.get q.data ?_ (fits_of_scanBound (by unfold scanBound;omega)));have ho1:=ox q.get q.data (insertAt es p' (κ.hash x,.ref r)) t2;have sb1:=Heap.SameBut.update s.heap a (Obj.putSet (insertAt es p' (κ.hash x,.ref r)) t2);generalize hh1:s.heap.update a (Obj.putSet (insertAt es p' (κ.hash x,.ref r)) t2)=h1 at *
   have el1:Els κ h1 (insertAt es p' (κ.hash x,.ref r)) (zs.take p'++x::zs.drop p'):=(nO q.el hx pz).keep fun z v hz=>kp _ z v sb1 hz;have tf:t2.tooFull=decide ((es.size+1)*5>=t.mask*3):=by
    unfold tooFull fill;rw[T2.dm,sz2,q.tb.sz,lens,mk];simp
   by_cases c:(es.size+1)*5>=t.mask*3
   ·rw[tf,decide_eq_true c];simp only[Bool.not_false,Bool.and_true,if_true];refine wpAny_bind ?_;unfold setRelay;refine wpAny_bind (wpAny_setState_of (s:={ s with heap:=h1 }) ho1 rfl T2.fit ?_);dsimp only;have gr:grown (es.size+1)=(es.size+1)*4:=by unfold grown;rw[if_neg (by omega)]
    rw[gr];obtain⟨e,e3,ee,el,eb⟩:=lM (n:=(es.size+1)*4) (by omega);obtain⟨t3,order,er,ld3,_,mk3,po,sz3,T3⟩:=tV (t:=t2) (hs:=cg (insertAt es p' (κ.hash x,.ref r))) (wanted:=(es.size+1)*4) (by simp only[cg,List.length_map,Array.length_toList];rw[iz];omega) (by omega) (by omega);have ls:(cg (insertAt es p' (κ.hash x,.ref r))).length=es.size+1:=by simp[cg,iz]
    rw[ls]at po sz3;rw[if_neg (by rw[ee,sizeLine_eq];omega)];have ea:(insertAt es p' (κ.hash x,.ref r)).map (·.1)=(cg (insertAt es p' (κ.hash x,.ref r))).toArray:=by apply Array.toList_inj.mp;simp[cg]
    rw[ea,er];have inr:∀k∈order.toList,k<(insertAt es p' (κ.hash x,.ref r)).size:=fun k hk=>by rw[iz];exact List.mem_range.mp (po.mem_iff.mp hk)
    have eo:(order.filterMap fun k=>(insertAt es p' (κ.hash x,.ref r))[k]?).toList=order.toList.map fun k=>(insertAt es p' (κ.hash x,.ref r)).getD k (0,.none):=by
     rw[Array.toList_filterMap,lN inr]
    generalize he2:(order.filterMap fun k=>(insertAt es p' (κ.hash x,.ref r))[k]?)=es2 at *
    have z2:es2.size=es.size+1:=by rw[<-Array.length_toList,eo,List.length_map,po.length_eq,List.length_range]
    refine wpAny_bind ?_;show wpAny _ _ (do
     let es':=order.filterMap fun k=>(insertAt es p' (κ.hash x,.ref r))[k]?
     if es'.size != (insertAt es p' (κ.hash x,.ref r)).size then unsupported "internal:set-table-lost-an-element"
     pure (es',t3)) _ _ _
    dsimp only;rw[he2,if_neg (by rw[z2,iz];simp)];refine wpAny_pure ?_;dsimp only;refine wpAny_storeSet_of ho1 rfl ?_ (fits_of_scanBound (by unfold scanBound;omega));have ho2:=ox (h:=h1) ho1 rfl es2 t3;refine wpAny_pure (h _ _ (sb1.trans (Heap.SameBut.update _ a _)) (fun z=>absurd z hn) fun _=>⟨_,es2,_,t3,order.toList.map fun k=>(zs.take p'++x::zs.drop p').getD k x,⟨ho2,q.ex,rfl,?_,?_,?_,?_,?_,?_⟩,?_⟩)
    ·refine⟨by rw[z2,List.length_map,po.length_eq,List.length_range],fun i z hz'=>?_⟩;rw[List.getElem?_map]at hz';cases c2:order.toList[i]? with
     |none=>rw[c2]at hz';cases hz'
     |some k =>
      rw[c2]at hz';have hk:=inr k (List.mem_of_getElem? c2);have hk':k<(zs.take p'++x::zs.drop p').length:=by rw[<-el1.len];exact hk
      obtain⟨v2,g2,q2⟩:=el1.at_ k z (by rw[jM hk' x];exact hz');refine⟨v2,?_,kp _ z v2 (sb1.trans (Heap.SameBut.update _ a _)) ?_⟩
      ·rw[<-Array.getElem?_toList,eo,List.getElem?_map,c2];simp[Array.getD_eq_getD_getElem?,g2]
      ·obtain⟨v3,g3,q3⟩:=(nO q.el hx pz).at_ k z (by rw[jM hk' x];exact hz');rw[g2]at g3;cases g3;exact q3
    ·refine((po.map fun k=>(zs.take p'++x::zs.drop p').getD k x).nodup_iff).mpr ?_;rw[<-iz,el1.len,gL];exact nd1
    ·have:cg es2=order.toList.map fun k=>(cg (insertAt es p' (κ.hash x,.ref r))).getD k 0:=by
      unfold cg;rw[eo,List.map_map];refine List.map_congr_left fun k hk=>?_;have hk:=inr k hk;simp[Array.getD,hk,List.getD]
     rw[this];exact T3
    ·rw[ld3,ld];exact q.led
    ·have:=mk3;rw[ee]at this;rw[z2];omega
    ·right;have:=mk3;rw[ee]at this;rw[z2];rcases eb with eb|eb<;>omega
    ·refine(po.map _).trans ?_;rw[<-iz,el1.len,gL];exact pm1
   ·rw[tf,decide_eq_false c];simp only[Bool.not_false,Bool.and_false,Bool.false_eq_true,if_false];refine wpAny_pure (h _ _ sb1 (fun z=>absurd z hn) fun _=>⟨_,_,_,t2,_,⟨ho1,q.ex,rfl,el1,nd1,T2,by rw[ld];exact q.led,by rw[iz,mk];omega,?_⟩,pm1⟩);rw[mk,iz];have:=q.small;omega
  rw[<-hso]at T1
  by_cases pl:t1.plain=true
  ·rw[if_pos pl];refine wpAny_bind (κ.byV hr hx fun b=>?_);cases b with
   |true=>simp only[if_true];exact go t1 T1 l1 m1 z1
   |false=>simp only[Bool.false_eq_true,if_false];exact go _ (T1.plain false) l1 m1 z1
  ·rw[if_neg pl];refine wpAny_bind (wpAny_pure ?_);simp only[if_true];exact go t1 T1 l1 m1 z1
end L2
namespace L2
open PySem PySem.Spec PyProof.Rows PySem.SeqAt
inductive KD where
 |int (i:Int)|str (x:Str)|tup (ks:List KD)
 deriving Inhabited
def KAt(h:Heap):Nat->KD->Value->Prop
 |_,.int i,v=>∃t,v=.int i t
 |_,.str x,v=>∃t,v=.str x t
 |0,.tup _,_=>False
 |n+1,.tup ds,v=>∃(a:Addr) (its:Array Value),v=.ref a/\IsTup h a its/\its.size=ds.length/\∀(i:Nat) d u,ds[i]?=some d->its[i]?=some u->KAt h n d u
def hK(w:World):Nat->KD->Int
 |_,.int i=>hashInt i
 |_,.str x=>hashStr w x
 |0,.tup _=>0
 |n+1,.tup ds=>reduceHash (Builtin.Tuple.tupleHashOf (ds.map (hK w n)))
theorem iA{h:Heap}{n:Nat}{i:Int}{v:Value}:KAt h n (.int i) v↔∃t,v=.int i t:=by cases n<;>exact .rfl
theorem g8{h:Heap}{n:Nat}{i:Str}{v:Value}:KAt h n (.str i) v↔∃t,v=.str i t:=by cases n<;>exact .rfl
theorem rW{h h':Heap}{a:Addr}{its:Array Value}(t:IsTup h a its) (k:∀o,o.cls=.type "tuple"->h.get? a=some o->h'.get? a=some o):IsTup h' a its :=
 let⟨o,ho,hc,hd⟩:=t
 ⟨o,k _ hc ho,hc,hd⟩
theorem KAt.upT{h h':Heap}(k:∀b xs,IsTup h b xs->IsTup h' b xs):∀{n:Nat}{d:KD}{v:Value},KAt h n d v->KAt h' n d v:=by
 intro n
 induction n with
 |zero=>intro d v q;cases d<;>exact q
 |succ n ih =>
  intro d v q;cases d with
  |int _=>exact q
  |str _=>exact q
  |tup ds =>
   obtain⟨a,its,e,t,z,r⟩:=q;exact⟨a,its,e,k a _ t,z,fun i d u h1 h2=>ih (r i d u h1 h2)⟩
theorem KAt.up{h h':Heap}(k:∀b o,o.cls=.type "tuple"->h.get? b=some o->h'.get? b=some o) {n:Nat} {d:KD} {v:Value} (q:KAt h n d v):KAt h' n d v:=q.upT fun b xs t=>rW t (k b)
theorem KAt.same{h:Heap}:∀(n:Nat) {d e:KD}{v:Value},KAt h n d v->KAt h n e v->d=e:=by
 intro n
 induction n with
 |zero =>
  intro d e v h1 h2;cases d with
  |int i=>cases e with
   |int j=>obtain⟨_,rfl⟩:=h1;obtain⟨_,z⟩:=h2;cases z;rfl
   |str j=>obtain⟨_,rfl⟩:=h1;obtain⟨_,z⟩:=h2;cases z
   |tup _=>exact h2.elim
  |str i=>cases e with
   |int j=>obtain⟨_,rfl⟩:=h1;obtain⟨_,z⟩:=h2;cases z
   |str j=>obtain⟨_,rfl⟩:=h1;obtain⟨_,z⟩:=h2;cases z;rfl
   |tup _=>exact h2.elim
  |tup _=>exact h1.elim
 |succ n ih =>
  intro d e v h1 h2;cases d with
  |int i=>cases e with
   |int j=>obtain⟨_,rfl⟩:=h1;obtain⟨_,z⟩:=h2;cases z;rfl
   |str j=>obtain⟨_,rfl⟩:=h1;obtain⟨_,z⟩:=h2;cases z
   |tup _=>obtain⟨_,rfl⟩:=h1;obtain⟨_,_,z,_⟩:=h2;cases z
  |str i=>cases e with
   |int j=>obtain⟨_,rfl⟩:=h1;obtain⟨_,z⟩:=h2;cases z
   |str j=>obtain⟨_,rfl⟩:=h1;obtain⟨_,z⟩:=h2;cases z;rfl
   |tup _=>obtain⟨_,rfl⟩:=h1;obtain⟨_,_,z,_⟩:=h2;cases z
  |tup ds=>cases e with
   |int j=>obtain⟨_,rfl⟩:=h2;obtain⟨_,_,z,_⟩:=h1;cases z
   |str j=>obtain⟨_,rfl⟩:=h2;obtain⟨_,_,z,_⟩:=h1;cases z
   |tup es =>
    obtain⟨a1,its,e1,⟨o,ho,hc,c,hd⟩,z,r⟩:=h1;obtain⟨a2,its2,e2,⟨o2,ho2,hc2,c2,hd2⟩,z2,r2⟩:=h2;subst e1;cases e2;rw[ho]at ho2;cases ho2;rw[hd]at hd2;cases hd2;congr 1;refine List.ext_getElem? fun i=>?_;rcases Nat.lt_or_ge i ds.length with q|q
    ·have q2:i<es.length:=by omega
     rw[List.getElem?_eq_getElem q,List.getElem?_eq_getElem q2];have q3:i<its.size:=by omega
     exact congrArg some (ih (r i _ _ (List.getElem?_eq_getElem q) (Array.getElem?_eq_getElem q3)) (r2 i _ _ (List.getElem?_eq_getElem q2) (Array.getElem?_eq_getElem q3)))
    ·rw[List.getElem?_eq_none q,List.getElem?_eq_none (by omega)]
def drK:Nat->KD->Nat
 |_,.int _=>1
 |_,.str _=>1
 |0,.tup _=>0
 |n+1,.tup ds=>(ds.map (drK n)).sum+1
section
variable{prog:Program}{w:World}{A:Around}{E:Value->Shared->Prop}{s:Shared}
theorem KAt.eq:∀(n:Nat) {A:Around}{d e:KD}{v u:Value},A.units+n<cLine->KAt s.heap n d v->KAt s.heap n e u->∃b:Bool,(b=true↔d=e)/\EqAt A s v u b:=by
 intro n
 induction n with
 |zero =>
  intro A d e v u hu q1 q2;cases d with
  |tup _=>exact q1.elim
  |int i=>obtain⟨t,rfl⟩:=q1;cases e with
   |tup _=>exact q2.elim
   |int j=>obtain⟨t',rfl⟩:=q2;exact⟨i==j,by simp,EqAt.int_int _ _ _ _⟩
   |str j=>obtain⟨t',rfl⟩:=q2;exact⟨false,by simp,EqAt.int_str _ _ _ _⟩
  |str i=>obtain⟨t,rfl⟩:=q1;cases e with
   |tup _=>exact q2.elim
   |int j=>obtain⟨t',rfl⟩:=q2;exact⟨false,by simp,EqAt.str_int _ _ _ _⟩
   |str j=>obtain⟨t',rfl⟩:=q2;exact⟨i==j,by simp,EqAt.str_str _ _ _ _⟩
 |succ n ih =>
  intro A d e v u hu q1 q2;cases d with
  |int i=>obtain⟨t,rfl⟩:=q1;cases e with
   |int j=>obtain⟨t',rfl⟩:=q2;exact⟨i==j,by simp,EqAt.int_int _ _ _ _⟩
   |str j=>obtain⟨t',rfl⟩:=q2;exact⟨false,by simp,EqAt.int_str _ _ _ _⟩
   |tup _=>obtain⟨a,its,rfl,t,_⟩:=q2;exact⟨false,by simp,EqAt.int_tuple _ _ t (by omega)⟩
  |str i=>obtain⟨t,rfl⟩:=q1;cases e with
   |int j=>obtain⟨t',rfl⟩:=q2;exact⟨false,by simp,EqAt.str_int _ _ _ _⟩
   |str j=>obtain⟨t',rfl⟩:=q2;exact⟨i==j,by simp,EqAt.str_str _ _ _ _⟩
   |tup _=>obtain⟨a,its,rfl,t,_⟩:=q2;exact⟨false,by simp,EqAt.str_tuple _ _ t (by omega)⟩
  |tup ds =>
   obtain⟨a,its,rfl,t1,z1,r1⟩:=id q1;cases e with
   |int j=>obtain⟨t',rfl⟩:=q2;exact⟨false,by simp,EqAt.tuple_int _ _ t1 (by omega)⟩
   |str j=>obtain⟨t',rfl⟩:=q2;exact⟨false,by simp,EqAt.tuple_str _ _ t1 (by omega)⟩
   |tup es =>
    obtain⟨b,its2,rfl,t2,z2,r2⟩:=id q2
    by_cases ab:a=b
    ·subst ab;exact⟨true,by simp[KAt.same (n+1) q1 q2],EqAt.same _⟩
    ·have item:∀j,∃b:Bool,∀(h1:j<its.size) (h2:j<its2.size),(b=true↔ds[j]?=es[j]?)/\EqAt A.in1 s its[j] its2[j] b:=fun j=>by
      by_cases h1:j<its.size
      ·by_cases h2:j<its2.size
       ·obtain⟨b,b1,b2⟩:=ih (A:=A.in1) (show A.units+1+n<cLine by omega) (r1 j _ _ (List.getElem?_eq_getElem (by omega)) (Array.getElem?_eq_getElem h1)) (r2 j _ _ (List.getElem?_eq_getElem (by omega)) (Array.getElem?_eq_getElem h2));exact⟨b,fun _ _=>⟨by rw[List.getElem?_eq_getElem (by omega),List.getElem?_eq_getElem (by omega),b1];simp,b2⟩⟩
       ·exact⟨true,fun _ h=>absurd h h2⟩
      ·exact⟨true,fun h=>absurd h h1⟩
     have rc:=RcAt.tuples (A:=A) (s:=s) (e:=fun j=>(item j).choose) t1 t2 (by omega) fun j h1 h2=>((item j).choose_spec h1 h2).2;refine⟨_,?_,EqAt.of_refs ab rc⟩;rw[Bool.and_eq_true,List.all_eq_true,beq_iff_eq];constructor
     ·rintro⟨h1,h2⟩;congr 1;refine List.ext_getElem? fun i=>?_;rcases Nat.lt_or_ge i ds.length with q|q
      ·exact((item i).choose_spec (by omega) (by omega)).1.mp (h1 i (List.mem_range.mpr (by omega)))
      ·rw[List.getElem?_eq_none q,List.getElem?_eq_none (by omega)]
     ·intro z;cases z;refine⟨fun i hi=>?_,by omega⟩;have hi:=List.mem_range.mp hi;exact((item i).choose_spec (by omega) (by omega)).1.mpr rfl
theorem KAt.hash:∀(n:Nat) {A:Around}{s:Shared}{E:Value->Shared->Prop}{d:KD}{v:Value}{Q:Int->Shared->Prop},A.units+n<cLine->KAt s.heap n d v->Q (hK w n d) { s with toks:=s.toks+drK n d }->wpAny (model prog w) A (pyHash v) Q E s:=by
 intro n
 induction n with
 |zero =>
  intro A s E d v Q hu q h;cases d with
  |int i=>obtain⟨t,rfl⟩:=q;exact wpAny_pyHash_int h
  |str i=>obtain⟨t,rfl⟩:=q;exact wpAny_pyHash_str h
  |tup _=>exact q.elim
 |succ n ih =>
  intro A s E d v Q hu q h;cases d with
  |int i=>obtain⟨t,rfl⟩:=q;exact wpAny_pyHash_int h
  |str i=>obtain⟨t,rfl⟩:=q;exact wpAny_pyHash_str h
  |tup ks =>
   obtain⟨a,its,rfl,tp,z,r⟩:=q;obtain⟨o,ho,hc,c,hd⟩:=tp;have hT:s.TypeIs (.ref a) "tuple":=⟨o,ho,hc⟩;have hu0:A.units<cLine:=by omega
   unfold pyHash pyHashByItsType;refine wpAny_bind (wpAny_cRoomFor_or (.inr hu0) ?_);refine wpAny_bind (wpAny_specialOf hT F.slot_tuple_hash.lookup ?_);show wpAny _ _ (if(some (Value.builtin "tuple.__hash__")==some Value.none)=true then _ else _) Q E s;rw[if_neg (by rw[beq_builtin_none];exact Bool.false_ne_true)];refine wpAny_bind (wpAny_specialOf hT F.slot_tuple_hash.lookup ?_);show wpAny _ _ (callSpecialIfBoundUnlessNone? (.ref a) "__hash__" _ >>= _) Q E s;refine wpAny_bind (wpAny_callSpecialIfBoundUnlessNone?_slot hT F.slot_tuple_hash (wpAny_call_entry F.slot_tuple_hash hT F.entry_tuple_hash ?_ (F.args_tuple_hash_1 _)));show wpAny _ _ (Builtin.Tuple.tupleItemsOf (.ref a) >>= _) _ _ s;refine wpAny_bind (wpAny_tupleItemsOf ho hd ?_);refine wpAny_bind ?_;rw[<-Array.forIn_toList];refine wpAny_forIn_list _ (fun ay (b:Array Int) s'=>∃m,m<=ks.length/\ay=its.toList.drop m/\b.toList=(ks.take m).map (hK w n)/\s'={ s with toks:=s.toks+((ks.take m).map (drK n)).sum }) _ ?_ ?_ _ _ ⟨0,Nat.zero_le _,rfl,rfl,rfl⟩
   ·rintro x ay b s' ⟨m,hm,hr,hb,rfl⟩;have lt:m<its.size:=by
     rcases Nat.lt_or_ge m its.size with q|q
     ·exact q
     ·rw[List.drop_eq_nil_of_le (by rw[Array.length_toList];exact q)]at hr;cases hr
    rw[List.drop_eq_getElem_cons (by rw[Array.length_toList];exact lt)]at hr;obtain⟨rfl,rfl⟩:=List.cons.inj hr;have km:ks[m]?=some (ks[m]'(by omega)):=List.getElem?_eq_getElem _;refine wpAny_bind (ih (show A.in1.units+n<cLine by show A.units+1+n<cLine;omega) (r m _ _ km (by rw[Array.getElem?_eq_getElem lt];simp)) ?_);refine wpAny_pure ⟨m+1,by omega,rfl,?_,?_⟩
    ·rw[Array.toList_push,hb,List.take_add_one,km,List.map_append];rfl
    ·rw[List.take_add_one,km,List.map_append,List.sum_append,<-Nat.add_assoc];simp
   ·rintro b s' ⟨m,hm,hr,hb,rfl⟩;have:m=ks.length:=by
     rcases Nat.lt_or_ge m its.size with q|q
     ·rw[List.drop_eq_getElem_cons (by rw[Array.length_toList];exact q)]at hr;cases hr
     ·omega
    subst this;rw[List.take_length]at hb ⊢;show wpAny _ _ (retInt (Builtin.Tuple.tupleHashOf b.toList)) _ _ _;rw[hb];refine wpAny_ret_mkInt ?_;show wpAny _ _ (if(decide (-(2:Int) ^ 63<=Builtin.Tuple.tupleHashOf (ks.map (hK w n)))&&decide (Builtin.Tuple.tupleHashOf (ks.map (hK w n))<2 ^ 63))=true then _ else _) Q E _;have h':Q (reduceHash (Builtin.Tuple.tupleHashOf (ks.map (hK w n)))) { s with toks:=s.toks+((ks.map (drK n)).sum+1) }:=h;rw[<-Nat.add_assoc]at h';unfold reduceHash at h'
    by_cases hr2:(decide (-(2:Int) ^ 63<=Builtin.Tuple.tupleHashOf (ks.map (hK w n)))&&decide (Builtin.Tuple.tupleHashOf (ks.map (hK w n))<2 ^ 63))=true
    ·rw[if_pos hr2];rw[if_pos hr2]at h';exact wpAny_pure h'
    ·rw[if_neg hr2];rw[if_neg hr2]at h';exact wpAny_bind (wpAny_rule (wpAny_pure h'))
end
section
variable{prog:Program}{w:World}{A:Around}{E:Value->Shared->Prop}{s:Shared}
theorem m9{a:Addr}{its:Array Value}{Q:Option (Array Value)->Shared->Prop}(t:IsTup s.heap a its) (h:Q (some its) s):wpAny (model prog w) A (seqItems? (.ref a)) Q E s:=by
 obtain⟨o,ho,hc,c,hd⟩:=t;unfold seqItems?;refine wpAny_bind (wpAny_load ho ?_);rw[hd];exact wpAny_pure h
theorem KAt.item{h:Heap}{n:Nat}{ks:List KD}{its:Array Value}(z:its.size=ks.length) (r:∀(i:Nat) d u,ks[i]?=some d->its[i]?=some u->KAt h n d u) {x:Value}(hx:x∈its.toList):∃k,KAt h n k x:=by
 obtain⟨i,hi⟩:=List.mem_iff_getElem?.mp hx;rw[Array.getElem?_toList]at hi;have lt:=(Array.getElem?_eq_some_iff.mp hi).1;exact⟨_,r i _ _ (List.getElem?_eq_getElem (by omega)) hi⟩
theorem KAt.quiet:∀(f n:Nat) {k:KD}{v:Value}{Q:Bool->Shared->Prop},n<=f->KAt s.heap n k v->Q true s->wpAny (model prog w) A (eqIsQuiet f v) Q E s:=by
 intro f
 induction f with
 |zero =>
  intro n k v Q hn q h;obtain rfl:n=0:=by omega
  cases k with
  |int i=>obtain⟨t,rfl⟩:=q;exact wpAny_pure h
  |str i=>obtain⟨t,rfl⟩:=q;exact wpAny_pure h
  |tup _=>exact q.elim
 |succ f ih =>
  intro n k v Q hn q h;cases k with
  |int i=>obtain⟨t,rfl⟩:=iA.mp q;exact wpAny_pure h
  |str i=>obtain⟨t,rfl⟩:=g8.mp q;exact wpAny_pure h
  |tup ks =>
   cases n with
   |zero=>exact q.elim
   |succ n =>
    obtain⟨a,its,rfl,tp,z,r⟩:=q;have hT:s.TypeIs (.ref a) "tuple":=by obtain⟨o,ho,hc,_⟩:=tp;exact⟨o,ho,hc⟩
    unfold eqIsQuiet;refine wpAny_bind (wpAny_specialOf hT F.slot_tuple_eq.lookup ?_);show wpAny _ _ (isInstance (.ref a) (.type "tuple") >>= _) _ _ s;refine wpAny_bind (wpAny_isInstance hT isSubtype_tuple_tuple ?_);simp only[Bool.not_true,Bool.false_eq_true,if_false];refine wpAny_bind (m9 tp ?_);refine wpAny_bind ?_;show wpAny _ _ (forIn its _ _) _ _ s;rw[<-Array.forIn_toList];refine wpAny_forIn_list _ (fun ay b s'=>s'=s/\b=(none,())/\∀x∈ay,x∈its.toList) _ ?_ ?_ _ _ ⟨rfl,rfl,fun _ z=>z⟩
    ·rintro x ay b s' ⟨rfl,rfl,hr⟩;obtain⟨k,hk⟩:=KAt.item z r (hr x (.head _));refine wpAny_bind (ih n (by omega) hk ?_);simp only[Bool.not_true,Bool.false_eq_true,if_false];exact wpAny_pure ⟨rfl,rfl,fun y hy=>hr y (.tail _ hy)⟩
    ·rintro b s' ⟨rfl,rfl,_⟩;exact wpAny_pure h
theorem KAt.noCls:∀(f n:Nat) {k:KD}{v:Value}{Q:Bool->Shared->Prop},n<=f->KAt s.heap n k v->Q false s->wpAny (model prog w) A (ofAClassStatement f v) Q E s:=by
 intro f
 induction f with
 |zero =>
  intro n k v Q hn q h;obtain rfl:n=0:=by omega
  cases k with
  |int i=>obtain⟨t,rfl⟩:=q;exact wpAny_pure h
  |str i=>obtain⟨t,rfl⟩:=q;exact wpAny_pure h
  |tup _=>exact q.elim
 |succ f ih =>
  intro n k v Q hn q h;cases k with
  |int i=>obtain⟨t,rfl⟩:=iA.mp q;exact wpAny_pure h
  |str i=>obtain⟨t,rfl⟩:=g8.mp q;exact wpAny_pure h
  |tup ks =>
   cases n with
   |zero=>exact q.elim
   |succ n =>
    obtain⟨a,its,rfl,tp,z,r⟩:=q;have hT:s.TypeIs (.ref a) "tuple":=by obtain⟨o,ho,hc,_⟩:=tp;exact⟨o,ho,hc⟩
    unfold ofAClassStatement;refine wpAny_bind (wpAny_typeOf hT ?_);dsimp only;rw[if_pos (by rfl)];refine wpAny_bind (wpAny_pure ?_);simp only[Bool.not_true,Bool.false_eq_true,if_false];refine wpAny_bind (m9 tp ?_);dsimp only;refine wpAny_bind ?_;rw[<-Array.forIn_toList];refine wpAny_forIn_list _ (fun ay b s'=>s'=s/\b=(none,())/\∀x∈ay,x∈its.toList) _ ?_ ?_ _ _ ⟨rfl,rfl,fun _ z=>z⟩
    ·rintro x ay b s' ⟨rfl,rfl,hr⟩;obtain⟨k,hk⟩:=KAt.item z r (hr x (.head _));refine wpAny_bind (ih n (by omega) hk ?_);simp only[Bool.false_eq_true,if_false];exact wpAny_pure ⟨rfl,rfl,fun y hy=>hr y (.tail _ hy)⟩
    ·rintro b s' ⟨rfl,rfl,_⟩;exact wpAny_pure h
theorem KAt.byV:∀(f n:Nat) {k:KD}{v:Value}{Q:Bool->Shared->Prop},KAt s.heap n k v->(∀b,Q b s)->wpAny (model prog w) A (hashByValue f v) Q E s:=by
 intro f
 induction f with
 |zero =>
  intro n k v Q q h;cases k with
  |int i=>obtain⟨t,rfl⟩:=iA.mp q;exact wpAny_pure (h _)
  |str i=>obtain⟨t,rfl⟩:=g8.mp q;exact wpAny_pure (h _)
  |tup _=>cases n with
   |zero=>exact q.elim
   |succ n=>obtain⟨a,its,rfl,_⟩:=q;exact wpAny_pure (h _)
 |succ f ih =>
  intro n k v Q q h;cases k with
  |int i=>obtain⟨t,rfl⟩:=iA.mp q;exact wpAny_pure (h _)
  |str i=>obtain⟨t,rfl⟩:=g8.mp q;exact wpAny_pure (h _)
  |tup ks =>
   cases n with
   |zero=>exact q.elim
   |succ n =>
    obtain⟨a,its,rfl,tp,z,r⟩:=q;have hT:s.TypeIs (.ref a) "tuple":=by obtain⟨o,ho,hc,_⟩:=tp;exact⟨o,ho,hc⟩
    unfold hashByValue;refine wpAny_bind (wpAny_specialOf hT F.slot_tuple_hash.lookup ?_);dsimp only;refine wpAny_bind (m9 tp ?_);refine wpAny_bind ?_;show wpAny _ _ (forIn its _ _) _ _ s;rw[<-Array.forIn_toList];refine wpAny_forIn_list _ (fun ay b s'=>s'=s/\b=(none,())/\∀x∈ay,x∈its.toList) _ ?_ ?_ _ _ ⟨rfl,rfl,fun _ z=>z⟩
    ·rintro x ay b s' ⟨rfl,rfl,hr⟩;obtain⟨k,hk⟩:=KAt.item z r (hr x (.head _));refine wpAny_bind (ih n hk fun b=>?_);cases b with
     |true =>
      simp only[Bool.not_true,Bool.false_eq_true,if_false];exact wpAny_pure ⟨rfl,rfl,fun y hy=>hr y (.tail _ hy)⟩
     |false =>
      simp only[Bool.not_false,if_true];exact wpAny_pure (wpAny_pure (h _))
    ·rintro b s' ⟨rfl,rfl,_⟩;exact wpAny_pure (h _)
end
def j3(h0 h:Heap):Prop:=∀b o,h0.get? b=some o->h.get? b=some o
theorem KAt.kept{h0 h:Heap}{n:Nat}{d:KD}{v:Value}(q:KAt h0 n d v) (k:j3 h0 h):KAt h n d v:=q.up fun b o _ e=>k b o e
def tK(prog:Program) (w:World) (n:Nat) (hn:n<=8) (h0:Heap) (V:Value->Prop):TK prog w (List KD) where
 is h ks v:=j3 h0 h/\KAt h0 n (.tup ks) v/\V v
 hash ks:=hK w n (.tup ks)
 room A:=A.units+n<cLine
 pyHash hr hx h:=KAt.hash n hr (hx.2.1.kept hx.1) (h _ (Nat.le_add_right _ _))
 eqB hr hx hy:=by
  obtain⟨b,h1,h2⟩:=KAt.eq n hr (hx.2.1.kept hx.1) (hy.2.1.kept hy.1);exact⟨b,by rw[h1];simp,h2⟩
 quiet _ hx h:=KAt.quiet 8 n hn (hx.2.1.kept hx.1) h
 noCls _ hx h:=KAt.noCls 8 n hn (hx.2.1.kept hx.1) h
 byV _ hx h:=KAt.byV 8 n (hx.2.1.kept hx.1) h
 ref {h x v} hx:=by
  obtain⟨_,hx,_⟩:=hx;cases n with
  |zero=>exact hx.elim
  |succ n=>obtain⟨a,_,e,_⟩:=hx;exact⟨a,e⟩
end L2
namespace L2
open PySem PySem.Spec PyProof.Rows
open Classical in
def aZ{τ:Type}(xs:List τ) (x:τ):List τ:=if x∈xs then xs else xs++[x]
def cI{τ:Type}(xs:List τ):List τ:=xs.foldl aZ []
section
variable{τ:Type}
theorem o6(xs:List τ) (x:τ):(aZ xs x).length<=xs.length+1:=by unfold aZ;split<;>simp
theorem ph(xs:List τ) (x y:τ):y∈aZ xs x↔y∈xs∨y=x:=by
 unfold aZ;split
 ·rename_i h;exact⟨.inl,fun q=>q.elim id fun e=>e▸h⟩
 ·simp
theorem ja:∀(xs zs:List τ),(xs.foldl aZ zs).length<=zs.length+xs.length
 |[],_=>Nat.le_refl _
 |x::xs,zs=>by
  have:=ja xs (aZ zs x);have:=o6 zs x;simp only[List.foldl_cons,List.length_cons];omega
theorem jg:∀(xs zs:List τ) (y:τ),y∈xs.foldl aZ zs↔y∈zs∨y∈xs
 |[],_,_=>by simp
 |x::xs,zs,y=>by
  rw[List.foldl_cons,jg xs,ph,List.mem_cons,or_assoc]
theorem lG(xs:List τ) (y:τ):y∈cI xs↔y∈xs:=by rw[cI,jg];simp
theorem fF(xs:List τ):(cI xs).length<=xs.length:=by have:=ja xs [];simpa[cI]using this
theorem pj(xs:List τ) (i:Nat) (h:i<xs.length):cI (xs.take (i+1))=aZ (cI (xs.take i)) xs[i]:=by
 rw[List.take_succ_eq_append_getElem h,cI,List.foldl_append];rfl
theorem l6{xs:List τ}(h:xs.Nodup) (x:τ):(aZ xs x).Nodup:=by
 unfold aZ;split
 ·exact h
 ·rename_i c;rw[List.nodup_append];exact⟨h,by simp,fun a ha b hb=>by rw[List.mem_singleton]at hb;rintro rfl;exact c (hb▸ha)⟩
theorem mi:∀(xs zs:List τ),zs.Nodup->(xs.foldl aZ zs).Nodup
 |[],_,h=>h
 |x::xs,zs,h=>mi xs _ (l6 h x)
theorem tF(xs:List τ):(cI xs).Nodup:=mi xs [] .nil
end
section
variable{prog:Program}{w:World}{A:Around}{R:Result->Shared->Prop}{I:Addr}{fp wr:List Addr}{G:Array GenState->Array GenState->Prop}{P:Nat->Value->Prop}{St:Nat->Shared->Prop}
theorem AA{V:Value->Prop}{n:Nat}{hn:n<=8}{h0:Heap}{xs:List (List KD)}(W:WalksS prog w A.in1 I fp wr G xs.length P St) (S:Addr) (hSf:S∉fp)
  (hfr:∀b∈S::wr,h0.get? b=none) (hu:A.in1.units+n<cLine) (hval:∀i v (h:i<xs.length),P i v->KAt h0 n (.tup xs[i]) v/\V v) (hb:xs.length<1000) :
  ∀(k i:Nat) (s:Shared),xs.length-i=k->i<=xs.length->St i s->j3 h0 s.heap->fP (tK prog w n hn h0 V) s.heap S (cI (xs.take i)) ->
   (∀s',Moved (S::wr) G s s'->j3 h0 s'.heap->fP (tK prog w n hn h0 V) s'.heap S (cI xs)->R (.ok (.ret .none)) s') ->
   codeAny (model prog w) A (.builtin "set.update.loop" ⟨[.ref S,.ref I],[]⟩) R s:=by
 have hSw:S∉wr:=fun h=>hSf (W.sub _ h);have hsub:∀b∈wr,b∈S::wr:=fun b hb=>List.mem_cons_of_mem _ hb;intro k
 induction k with
 |zero =>
  intro i s hk hi hst hK hS hR;have hin:i=xs.length:=by omega
  subst hin;refine codeAny_builtin F.entry_set_update_loop ?_;rw[Around.under_plainId F.plain_set_update_loop _];show wpAny _ A.in1 (pyNext (.ref I) >>= _) _ _ s;refine wpAny_bind (W.done s _ _ hst fun s' hm=>?_);show wpAny _ A.in1 (ret Value.none) _ _ s';rw[List.take_length]at hS;have hK':j3 h0 s'.heap:=fun b o e=>hm.heap b o (fun q=>by rw[hfr b (hsub b q)]at e;cases e) (hK b o e);exact wpAny_pure (hR s' (hm.mono hsub) hK' (hS.mono (fun o e=>hm.heap S _ hSw e) fun z v q=>⟨hK',q.2⟩))
 |succ k ih =>
  intro i s hk hi hst hK hS hR;have hlt:i<xs.length:=by omega
  refine codeAny_builtin F.entry_set_update_loop ?_;rw[Around.under_plainId F.plain_set_update_loop _];show wpAny _ A.in1 (pyNext (.ref I) >>= _) _ _ s;refine wpAny_bind (W.item i s _ _ hlt hst fun v s' hP hst' hm=>?_);have hx:=hval i v hlt hP;have hK':j3 h0 s'.heap:=fun b o e=>hm.heap b o (fun q=>by rw[hfr b (hsub b q)]at e;cases e) (hK b o e);have hS':fP (tK prog w n hn h0 V) s'.heap S (cI (xs.take i)):=hS.mono (fun o e=>hm.heap S _ hSw e) fun z v q=>⟨hK',q.2⟩;show wpAny _ A.in1 (holding [v] (setAdd S v) >>= _) _ _ s';refine wpAny_bind (wpAny_holding ?_);unfold setAdd;refine wpAny_holding ?_;refine wpAny_bind ((tK prog w n hn h0 V).pyHash (x:=xs[i]) hu ⟨hK',hx⟩ fun tk htk=>?_);have hroom:(cI (xs.take i)).length<1000:=by have:=fF (xs.take i);rw[List.length_take]at this;omega
  have kpt:∀h',Heap.SameBut S s'.heap h'->j3 h0 h':=fun h' sb b o e=>by
   rw[sb.2 b fun z=>by rw[z,hfr S (.head _)]at e;cases e];exact hK' b o e
  refine AV (s:={ s' with toks:=tk }) (κ:=tK prog w n hn h0 V) hu ⟨hK',hx⟩ hS' hroom (fun h' z v sb q=>⟨kpt h' sb,q.2⟩) fun b h' hsb y1 y2=>?_;have hSi:fP (tK prog w n hn h0 V) h' S (cI (xs.take (i+1))):=by
   rw[pj xs i hlt];unfold aZ
   split
   ·rename_i c;exact y1 c
   ·rename_i c;exact y2 c
  refine wpAny_pure ⟨plainId_quiet F.plain_set_update_loop _,ih (i+1) _ (by omega) hlt (W.frame _ s' _ _ hst' htk fun b hb o e=>?_) (kpt h' hsb) hSi fun s'' hm'' hK'' hS''=>?_⟩
  ·rw[hsb.2 b (fun h:b=S=>hSf (by rw[<-h];exact hb))];exact e
  ·refine hR s'' (Moved.trans W.gtrans ((hm.mono hsub).then_heap htk fun b o hb e=>?_) hm'') hK'' hS'';rw[hsb.2 b (fun h:b=S=>hb (by rw[h];exact List.mem_cons_self))];exact e
end
section
variable{prog:Program}{w:World}{A:Around}{E:Value->Shared->Prop}{s:Shared}
theorem xG{V:Value->Prop}{n:Nat}{hn:n<=8}{h0 h:Heap}{a:Addr}(g:h.get? a=some (iU w)):fP (tK prog w n hn h0 V) h a [] :=
 ⟨_,#[],0,_,[],⟨g,⟨rfl,rfl,rfl⟩,rfl,⟨rfl,fun i z hz=>by simp at hz⟩,.nil,⟨rfl,fun i j _ hj=>by simp[SetTable.fresh]at hj,fun i hi=>by simp[SetTable.fresh]at hi,rfl,⟨3,by omega,rfl⟩,by simp[SetTable.fresh],fun i h q=>by simp[cg]at q⟩,rfl,by simp[SetTable.fresh],.inl (by simp[SetTable.fresh])⟩,.refl _⟩
set_option maxHeartbeats 3200000 in
theorem pf{n:Nat}{hn8:n<=8}{l:Addr}{items:Array Value}{xs:List (List KD)}{Q:Value->Shared->Prop}
  (hh:A.handled=none) (hu:A.units+n+8<cLine) (hl:s.heap.IsList l items) (hn:items.size=xs.length) (hi:∀(i:Nat) k u,xs[i]?=some k->items[i]?=some u->KAt s.heap n (.tup k) u) (hb:xs.length<1000)
  (h:∀(h':Heap) (tk:Nat),fP (tK prog w n hn8 s.heap (·∈items)) h' s.heap.objs.size (cI xs)->j3 s.heap h'->Q (.ref s.heap.objs.size) { s with heap:=h',toks:=tk }) :
  wpAny (model prog w) A (call (.type "set") [.ref l]) Q E s:=by
 obtain⟨c,tl,hmro⟩:=PySem.F.called_set.mro;have hmade:=PySem.F.called_set.made;have hsub:=PySem.F.called_set.sub;refine wpAny_call (codeAny_of_tree ?_);show wpAny _ _ (callAny (.type "set") _) _ _ _;refine wpAny_pure ⟨Code.quiet_builtin _ (by decide +kernel),codeAny_builtin PySem.F.entry_type_call ?_⟩;rw[Around.under_plain (weight_type_call_type "set" [.ref l] []) rfl];have h1:=PySem.F.called_set.notType;have h2:=PySem.F.called_set.canCreate;have hct:=PySem.F.typeCall_set_1 (.ref l)
 repeat (any_goals (first|assumption|wp_step))
 refine codeAny_mono (qE (.ref l) (E:=E) (Q₁:=fun obj s₁=>obj=.ref s.heap.objs.size/\s₁={ s with heap:=s.heap.push (iU w) }) ⟨rfl,rfl⟩) fun r s₁ hr=>?_;cases r with
 |error e=>exact hr
 |ok fl =>
  cases fl with
  |ret obj =>
   obtain⟨rfl,rfl⟩:=hr;have hS:(s.heap.push (iU w)).get? s.heap.objs.size=some (iU w):=Heap.get?_push_size _ rfl;have hT:Shared.TypeIs { s with heap:=s.heap.push (iU w) } (.ref s.heap.objs.size) "set":=⟨_,hS,rfl⟩;have hli:=PySem.F.called_set.init.lookup;have hbi:=PySem.F.called_set.init.bind (.ref s.heap.objs.size)
   repeat (any_goals (first|assumption|wp_step))
   refine codeAny_mono (codeAny_call_builtin (R:=wants (fun r s₂=>r=.none/\∃h' tk,s₂={ s with heap:=h',toks:=tk } /\
     fP (tK prog w n hn8 s.heap (·∈items)) h' s.heap.objs.size (cI xs)/\j3 s.heap h') E) PySem.F.called_set.init.plain PySem.F.entry_set_init (check_set_init_1 hT ?_)) fun r₂ s₂ hr₂=>?_
   ·obtain⟨ol,hol,hcl,nl,hdl⟩:=hl;obtain⟨ocls,odict,odata,oslots⟩:=ol;simp only at hcl hdl;subst hcl;subst hdl;have hol':(s.heap.push (iU w)).get? l=some { cls:=.type "list",dict:=odict,data:=.seq items nl,slots:=oslots }:=Heap.get?_push_of_some _ hol;have hsls:=PySem.F.sub_list_set;have hslf:=PySem.F.sub_list_frozenset;have hne:(Value.type "list"==Value.type "dict")=false:=by decide
    have hl1:(s.heap.push (iU w)).IsList l items:=⟨_,hol',rfl,nl,rfl⟩;unfold Builtin.«set.__init__» noKeywords Builtin.Frozenset.updateFrom;generalize hPI:pyIter=PI
    wp_walk
    subst hPI;refine wpAny_pyIter_list hl1 ?_;refine wpAny_bind (wpAny_runValue ?_);have hlS:l<s.heap.objs.size:=Heap.lt_size hol;have hh3:A.in1.in1.in1.handled=none:=by simp[hh]
    have hneI:l≠(s.heap.push (iU w)).objs.size:=by
     rw[Heap.size_push];exact Nat.ne_of_lt (Nat.lt_succ_of_lt hlS)
    have hSf:s.heap.objs.size∉[(s.heap.push (iU w)).objs.size,l]:=by
     rw[Heap.size_push];simp only[List.mem_cons,List.mem_singleton,List.not_mem_nil,or_false,not_or];exact⟨Nat.ne_of_lt (Nat.lt_succ_self _),Nat.ne_of_gt hlS⟩
    have W:=(Walks.list (prog:=prog) (w:=w) hh3 _ l hneI items).toS;rw[hn]at W;have frs:∀b,s.heap.objs.size<=b->s.heap.get? b=none:=fun b hb=>Heap.get?_none_of_le hb;refine AA (V:=(·∈items)) (n:=n) (hn:=hn8) (h0:=s.heap) (xs:=xs) W s.heap.objs.size hSf (fun b hb=>?_) (show A.units+1+1+1+n<cLine by omega) (fun i v hlt hv=>⟨hi i _ _ (List.getElem?_eq_getElem hlt) hv,Array.mem_of_getElem? hv⟩) hb (xs.length-0) 0 _ (by omega) (Nat.zero_le _) ?St0 ?hK0 ?hS0 ?hR
    case St0=>exact⟨⟨_,Heap.get?_push_size _ rfl,rfl,rfl⟩,(hl1.push _)⟩
    ·rcases List.mem_cons.mp hb with rfl|hb
     ·exact frs _ (Nat.le_refl _)
     ·rw[List.mem_singleton.mp hb,Heap.size_push];exact frs _ (Nat.le_succ _)
    case hK0=>exact fun b o e=>Heap.get?_push_of_some _ (Heap.get?_push_of_some _ e)
    case hS0=>exact xG (Heap.get?_push_of_some _ hS)
    case hR =>
     intro s' hm hK' hS';obtain⟨h',g',d',tk',os'⟩:=s';have eg:g'=s.gens:=hm.gens;have ed:d'=s.drawn:=hm.drawn;have eo:os'=s.os:=hm.os;subst eg;subst ed;subst eo;show wpAny _ _ _ _ _ _;refine wpAny_pure ?_;show wpAny _ _ (ret Value.none) _ _ _;exact wpAny_pure ⟨rfl,h',tk',rfl,hS',hK'⟩
   ·cases r₂ with
    |error e=>exact hr₂
    |ok fl₂ =>
     cases fl₂ with
     |ret r =>
      obtain⟨rfl,h',tk,rfl,hS',hk'⟩:=hr₂
      repeat (any_goals (first|assumption|wp_step))
      exact h _ _ hS' hk'
     |_=>exact hr₂.elim
  |_=>exact hr.elim
end
end L2
namespace L2
open PySem PySem.Spec PyProof.Rows PySem.SeqAt
open Classical in
mutual
def ltK:KD->KD->Bool
 |.int i,.int j=>decide (i<j)
 |.int _,.str _=>true
 |.int _,.tup _=>true
 |.str _,.int _=>false
 |.str a,.str b=>ltS a b
 |.str _,.tup _=>true
 |.tup _,.int _=>false
 |.tup _,.str _=>false
 |.tup a,.tup b=>aK a b
def aK:List KD->List KD->Bool
 |[],[]=>false
 |[],_::_=>true
 |_::_,[]=>false
 |a::as,b::bs=>if a=b then aK as bs else ltK a b
end
mutual
theorem si:∀a:KD,ltK a a=false
 |.int i=>by simp[ltK]
 |.str a=>by simp only[ltK];exact tJ a
 |.tup a=>by simp only[ltK];exact eS a
theorem eS:∀a:List KD,aK a a=false
 |[]=>by simp[aK]
 |a::as=>by simp only[aK,if_true];exact eS as
end
mutual
theorem uh:∀a b:KD,ltK a b=false->ltK b a=false->a=b
 |.int i,.int j,h1,h2=>by simp[ltK]at h1 h2;congr 1;omega
 |.int _,.str _,h1,_=>by simp[ltK]at h1
 |.int _,.tup _,h1,_=>by simp[ltK]at h1
 |.str _,.int _,_,h1=>by simp[ltK]at h1
 |.str a,.str b,h1,h2=>by simp only[ltK]at h1 h2;rw[tZ h1 h2]
 |.str _,.tup _,h1,_=>by simp[ltK]at h1
 |.tup _,.int _,_,h1=>by simp[ltK]at h1
 |.tup _,.str _,_,h1=>by simp[ltK]at h1
 |.tup a,.tup b,h1,h2=>by simp only[ltK]at h1 h2;rw[dF a b h1 h2]
theorem dF:∀a b:List KD,aK a b=false->aK b a=false->a=b
 |[],[],_,_=>rfl
 |[],_::_,h1,_=>by simp[aK]at h1
 |_::_,[],_,h1=>by simp[aK]at h1
 |a::as,b::bs,h1,h2=>by
  simp only[aK]at h1 h2
  by_cases c:a=b
  ·subst c;rw[if_pos rfl]at h1 h2;rw[dF as bs h1 h2]
  ·rw[if_neg c]at h1;rw[if_neg fun z=>c z.symm]at h2;exact absurd (uh a b h1 h2) c
end
mutual
theorem vJ:∀a b c:KD,ltK a b=true->ltK b c=true->ltK a c=true
 |.int i,.int j,.int k,h1,h2=>by simp[ltK]at h1 h2 ⊢;omega
 |.int _,.str _,.int _,_,h2=>by simp[ltK]at h2
 |.int _,.tup _,.int _,_,h2=>by simp[ltK]at h2
 |.int _,_,.str _,_,_=>by simp[ltK]
 |.int _,_,.tup _,_,_=>by simp[ltK]
 |.str _,.int _,_,h1,_=>by simp[ltK]at h1
 |.str a,.str b,.str c,h1,h2=>by simp only[ltK]at h1 h2 ⊢;exact o3 h1 h2
 |.str _,.str _,.int _,_,h2=>by simp[ltK]at h2
 |.str _,.tup _,.int _,_,h2=>by simp[ltK]at h2
 |.str _,.tup _,.str _,_,h2=>by simp[ltK]at h2
 |.str _,_,.tup _,_,_=>by simp[ltK]
 |.tup _,.int _,_,h1,_=>by simp[ltK]at h1
 |.tup _,.str _,_,h1,_=>by simp[ltK]at h1
 |.tup _,.tup _,.int _,_,h2=>by simp[ltK]at h2
 |.tup _,.tup _,.str _,_,h2=>by simp[ltK]at h2
 |.tup a,.tup b,.tup c,h1,h2=>by simp only[ltK]at h1 h2 ⊢;exact fe a b c h1 h2
theorem fe:∀a b c:List KD,aK a b=true->aK b c=true->aK a c=true
 |_,[],[],_,h2=>by simp[aK]at h2
 |_,_::_,[],_,h2=>by simp[aK]at h2
 |[],_,_::_,_,_=>by simp[aK]
 |_::_,[],_::_,h1,_=>by simp[aK]at h1
 |a::as,b::bs,c::cs,h1,h2=>by
  simp only[aK]at h1 h2 ⊢
  by_cases e1:a=b
  ·subst e1;rw[if_pos rfl]at h1
   by_cases e2:a=c
   ·rw[if_pos e2]at h2 ⊢;exact fe as bs cs h1 h2
   ·rw[if_neg e2]at h2 ⊢;exact h2
  ·rw[if_neg e1]at h1
   by_cases e2:b=c
   ·subst e2;rw[if_neg e1];exact h1
   ·rw[if_neg e2]at h2;have h3:=vJ a b c h1 h2
    by_cases e3:a=c
    ·subst e3;rw[si]at h3;cases h3
    ·rw[if_neg e3];exact h3
end
def uG:KeyOrd where
 α:=List KD
 blt:=aK
 irrefl:=eS
 trans:=fe
 negTrans a b c h:=by
  cases h1:aK a b with
  |true=>exact .inl rfl
  |false =>
   refine .inr ?_;cases h2:aK b a with
   |true=>exact fe _ _ _ h2 h
   |false=>rw[<-dF _ _ h1 h2];exact h
 total:=dF
def leK(a b:List KD):Bool:=not (aK b a)
def aN(ps:List (List KD)):List (List KD):=ps.mergeSort leK
theorem bh(ps:List (List KD)):(aN ps).Perm ps:=List.mergeSort_perm _ _
theorem lV(ps:List (List KD)):(aN ps).Pairwise fun a b=>leK a b=true :=
 List.pairwise_mergeSort (fun a b c h1 h2=>by
  simp only[leK,Bool.not_eq_true']at *
  cases h:aK c a with
  |false=>rfl
  |true =>
   rcases uG.negTrans _ b _ h with z|z
   ·exact absurd z (by rw[show uG.blt c b=aK c b from rfl,h2];simp)
   ·exact absurd z (by rw[show uG.blt b a=aK b a from rfl,h1];simp)) (fun a b=>by
  cases h:leK a b with
  |true=>rfl
  |false =>
   have h':aK b a=true:=by simpa[leK]using h
   cases h2:aK a b with
   |false=>simp[leK,h2]
   |true=>have:=fe _ _ _ h' h2;rw[eS]at this;cases this) ps
theorem lW{ps qs:List (List KD)}(h:qs.Perm ps) (hs:qs.Pairwise fun a b=>leK a b=true):qs=aN ps :=
 List.Perm.eq_of_pairwise (le:=fun a b=>leK a b=true) (fun a b _ _ h1 h2=>dF _ _ (by simpa[leK]using h2) (by simpa[leK]using h1)) hs (lV ps) (h.trans (bh ps).symm)
mutual
def Cm:KD->KD->Prop
 |.int _,.int _=>True
 |.str _,.str _=>True
 |.tup a,.tup b=>Cms a b
 |_,_=>False
def Cms:List KD->List KD->Prop
 |a::as,b::bs=>Cm a b/\Cms as bs
 |_,_=>True
end
section
variable{prog:Program}{w:World}{A:Around}{E:Value->Shared->Prop}{s:Shared}
theorem rL{n:Nat}{ds es:List KD}{a b:Addr}{Q:Value->Shared->Prop}(hu:A.units+(n+1)<cLine) (q1:KAt s.heap (n+1) (.tup ds) (.ref a)) (q2:KAt s.heap (n+1) (.tup es) (.ref b)) (hc:Cms ds es)
  (ih:∀{A:Around} {E:Value->Shared->Prop} {d e:KD} {v u:Value} {Q:Value->Shared->Prop},A.units+n<cLine->KAt s.heap n d v->KAt s.heap n e u->Cm d e->Q (.bool (ltK d e)) s->wpAny (model prog w) A (richCompare .Lt v u) Q E s)
  (h:Q (.bool (aK ds es)) s):wpAny (model prog w) A (call (.builtin "tuple.__lt__") [.ref a,.ref b]) Q E s:=by
 obtain⟨_,its,e1,t1,z1,r1⟩:=q1;obtain⟨_,its2,e2,t2,z2,r2⟩:=q2;cases e1;cases e2;obtain⟨o1,g1,c1,n1,d1⟩:=id t1;obtain⟨o2,g2,c2,n2,d2⟩:=id t2;have T1:s.TypeIs (.ref a) "tuple":=⟨o1,g1,c1⟩;have T2:s.TypeIs (.ref b) "tuple":=⟨o2,g2,c2⟩;refine wpAny_call_entry F.slot_tuple_lt T1 F.entry_tuple_lt ?_ (F.args_tuple_lt_2 _ _);show wpAny _ _ (isInstance (.ref b) (.type "tuple") >>= _) _ _ s;refine wpAny_bind (wpAny_isInstance T2 isSubtype_tuple_tuple ?_);simp only[Bool.not_true,Bool.false_eq_true,if_false];refine wpAny_bind (wpAny_tupleItemsOf g1 d1 ?_);refine wpAny_bind (wpAny_tupleItemsOf g2 d2 ?_);refine wpAny_bind ?_;refine wpAny_forIn_list _ (fun ay r s'=>r.1=none/\s'=s/\∃m,m<=min its.size its2.size/\ay=(its.toList.zip its2.toList).drop m/\aK ds es=aK (ds.drop m) (es.drop m)/\Cms (ds.drop m) (es.drop m)) _ ?_ ?_ _ _ ⟨rfl,rfl,0,Nat.zero_le _,rfl,rfl,hc⟩
 ·rintro⟨x,y⟩ ay r s' ⟨hr,rfl,m,_,hz,hl,hcm⟩;have hlt:m<(its.toList.zip its2.toList).length:=by
   rcases Nat.lt_or_ge m (its.toList.zip its2.toList).length with q|q
   ·exact q
   ·rw[List.drop_eq_nil_of_le q]at hz;cases hz
  have hlt':m<its.size/\m<its2.size:=by
   rw[List.length_zip,Array.length_toList,Array.length_toList]at hlt;omega
  rw[List.drop_eq_getElem_cons hlt]at hz;injection hz with hxy hrest
  have hx:x=its[m]'hlt'.1:=by have:=congrArg Prod.fst hxy;simpa using this
  have hy:y=its2[m]'hlt'.2:=by have:=congrArg Prod.snd hxy;simpa using this
  subst hx hy;have m1:m<ds.length:=by omega
  have m2:m<es.length:=by omega
  have k1:=r1 m _ _ (List.getElem?_eq_getElem m1) (Array.getElem?_eq_getElem hlt'.1);have k2:=r2 m _ _ (List.getElem?_eq_getElem m2) (Array.getElem?_eq_getElem hlt'.2);rw[List.drop_eq_getElem_cons m1,List.drop_eq_getElem_cons m2]at hl hcm;simp only[aK,Cms]at hl hcm;obtain⟨bb,b1,b2⟩:=KAt.eq n (A:=A.in1) (show A.units+1+n<cLine by omega) k1 k2;refine wpAny_bind (b2 prog w _ _ ?_);cases bb with
  |true =>
   rw[if_pos (b1.mp rfl)]at hl;simp only[Bool.not_true,Bool.false_eq_true,if_false];exact wpAny_pure ⟨rfl,rfl,m+1,by omega,hrest,hl,hcm.2⟩
  |false =>
   have ne:¬ ds[m]=es[m]:=fun z=>by have:=b1.mpr z;cases this
   rw[if_neg ne]at hl;simp only[Bool.not_false,if_true];refine wpAny_bind (wpAny_rule ?_);refine wpAny_bind (ih (A:=A.in1) (show A.units+1+n<cLine by omega) k1 k2 hcm.1 ?_);rw[<-hl];exact wpAny_bind (wpAny_pure (wpAny_pure (wpAny_pure ⟨_,rfl,h⟩)))
 ·rintro⟨r1',r2'⟩ s' ⟨hr,rfl,m,hm,hz,hl,_⟩;simp only at hr;subst hr;have hge:min its.size its2.size<=m:=by
   rcases Nat.lt_or_ge m (its.toList.zip its2.toList).length with q|q
   ·rw[List.drop_eq_getElem_cons q]at hz;cases hz
   ·simpa[List.length_zip]using q
  refine wpAny_pure ⟨_,rfl,?_⟩;show Q (.bool (decide (its.size<its2.size))) s';have:aK ds es=decide (its.size<its2.size):=by
   rw[hl];rcases Nat.lt_or_ge its.size its2.size with q|q
   ·rw[decide_eq_true q,List.drop_eq_nil_of_le (by omega),List.drop_eq_getElem_cons (show m<es.length by omega)];simp[aK]
   ·rw[decide_eq_false (by omega),show es.drop m=[]from List.drop_eq_nil_of_le (by omega)];cases ds.drop m<;>simp[aK]
  rw[<-this];exact h
theorem yF(n:Nat):∀{A:Around}{E:Value->Shared->Prop}{d e:KD}{v u:Value}{Q:Value->Shared->Prop},A.units+n<cLine->KAt s.heap n d v->KAt s.heap n e u->Cm d e->Q (.bool (ltK d e)) s->wpAny (model prog w) A (richCompare .Lt v u) Q E s:=by
 have hI:∀{A:Around} {E:Value->Shared->Prop} {i j:Int} {t t':Tok} {Q:Value->Shared->Prop},Q (.bool (decide (i<j))) s->wpAny (model prog w) A (richCompare .Lt (.int i t) (.int j t')) Q E s:=fun h=>wpAny_lt_int h;have hS:∀{A:Around} {E:Value->Shared->Prop} {i j:Str} {t t':Tok} {Q:Value->Shared->Prop},Q (.bool (ltS i j)) s->wpAny (model prog w) A (richCompare .Lt (.str i t) (.str j t')) Q E s:=fun {A E i j t t' Q} h =>
  wpAny_richCompare_same (op:=.Lt) (T:="str") (typeIs_str s i t) (typeIs_str s j t') slot_str_lt (call_str_lt ⟨fun z=>(by cases z),h⟩)
 induction n with
 |zero =>
  intro A E d e v u Q hu q1 q2 hc h;cases d<;>cases e<;>first|exact hc.elim|exact q1.elim|skip
  ·obtain⟨t,rfl⟩:=q1;obtain⟨t',rfl⟩:=q2;exact hI (by simpa only[ltK]using h)
  ·obtain⟨t,rfl⟩:=q1;obtain⟨t',rfl⟩:=q2;exact hS (by simpa only[ltK]using h)
 |succ n ih =>
  intro A E d e v u Q hu q1 q2 hc h;cases d<;>cases e<;>first|exact hc.elim|skip
  ·obtain⟨t,rfl⟩:=q1;obtain⟨t',rfl⟩:=q2;exact hI (by simpa only[ltK]using h)
  ·obtain⟨t,rfl⟩:=q1;obtain⟨t',rfl⟩:=q2;exact hS (by simpa only[ltK]using h)
  ·rename_i ds es;obtain⟨a,its,rfl,t1,_⟩:=id q1;obtain⟨b,its2,rfl,t2,_⟩:=id q2;have T1:s.TypeIs (.ref a) "tuple":=by obtain⟨o,ho,hc,_⟩:=t1;exact⟨o,ho,hc⟩
   have T2:s.TypeIs (.ref b) "tuple":=by obtain⟨o,ho,hc,_⟩:=t2;exact⟨o,ho,hc⟩
   exact wpAny_richCompare_same_room (op:=.Lt) T1 T2 F.slot_tuple_lt (rL hu q1 q2 (by simpa only[Cm]using hc) ih ⟨fun z=>(by cases z),by simpa only[ltK]using h⟩) (by omega)
end
end L2
namespace L2
open PySem PySem.W PySem.Calls PyProof.Rows PySem.SeqAt
section
variable{prog:Program}{w:World}{A:Around}{E:Value->Shared->Prop}{s:Shared}
theorem zJ{n:Nat}{k:KD}{v:Value}{Q:Value->Shared->Prop}(q:KAt s.heap n k v) (h:∀T,Q T s):wpAny (model prog w) A (typeOf v) Q E s:=by
 cases k with
 |int i=>obtain⟨t,rfl⟩:=iA.mp q;exact wpAny_pure (h _)
 |str i=>obtain⟨t,rfl⟩:=g8.mp q;exact wpAny_pure (h _)
 |tup ks=>cases n with
  |zero=>exact q.elim
  |succ n =>
   obtain⟨a,its,rfl,⟨o,ho,hc,_⟩,_⟩:=q;exact wpAny_typeOf ⟨o,ho,hc⟩ (h _)
theorem qB{n:Nat}{ds es:List KD}{v u:Value}{Q:Bool->Shared->Prop}(hu:A.units+(n+1)<cLine) (q1:KAt s.heap (n+1) (.tup ds) v) (q2:KAt s.heap (n+1) (.tup es) u) (hc:Cms ds es) (h:Q (aK ds es) s):wpAny (model prog w) A (oneLt' true v u) Q E s:=by
 obtain⟨a,its,rfl,t1,_⟩:=id q1;obtain⟨b,its2,rfl,t2,_⟩:=id q2;have T1:s.TypeIs (.ref a) "tuple":=by obtain⟨o,ho,hc,_⟩:=t1;exact⟨o,ho,hc⟩
 rw[oneLt'_eq];simp only[if_true];refine wpAny_bind (wpAny_cRoomFor_or (.inr (by omega)) ?_);refine wpAny_bind (wpAny_callSpecialIfBound?_slot T1 F.slot_tuple_lt (rL hu q1 q2 hc (yF n) ?_));exact wpAny_truthy_bool h
theorem xY(f:Bool) {n:Nat}{d e:KD}{v u:Value}{Q:Bool->Shared->Prop}(hu:A.units+n<cLine) (q1:KAt s.heap n d v) (q2:KAt s.heap n e u) (hc:Cm d e) (h:Q (ltK d e) s):wpAny (model prog w) A (oneLt' f v u) Q E s:=by
 cases f with
 |false=>exact kat_one _ _ (yF n hu q1 q2 hc h)
 |true =>
  cases d with
  |int i=>cases e with
   |int j=>obtain⟨t,rfl⟩:=iA.mp q1;obtain⟨t',rfl⟩:=iA.mp q2;exact oneLt_int (by simpa only[ltK]using h)
   |_=>exact hc.elim
  |str i=>cases e with
   |str j=>obtain⟨t,rfl⟩:=g8.mp q1;obtain⟨t',rfl⟩:=g8.mp q2;exact oneLt_str (by simpa only[ltK,ltS]using h)
   |_=>exact hc.elim
  |tup ds=>cases e with
   |tup es=>cases n with
    |zero=>exact q1.elim
    |succ n=>exact qB hu q1 q2 (by simpa only[Cm]using hc) (by simpa only[ltK]using h)
   |_=>exact hc.elim
def SKd(κ:SortKind):Prop:=κ=general'∨κ=oneType'∨∃b,κ=tuples' b
theorem AR{κ:SortKind}(hκ:SKd κ) {n:Nat}{ds es:List KD}{v u:Value}{Q:Bool->Shared->Prop}(hu:A.units+(n+1)<cLine) (q1:KAt s.heap (n+1) (.tup ds) v) (q2:KAt s.heap (n+1) (.tup es) u) (hc:Cms ds es) (h:Q (aK ds es) s):wpAny (model prog w) A (keyLt' κ v u) Q E s:=by
 rcases hκ with rfl|rfl|⟨b,rfl⟩
 ·show wpAny _ _ (oneLt' false v u) _ _ _;exact xY false (d:=.tup ds) (e:=.tup es) hu q1 q2 (by simpa only[Cm]using hc) (by simpa only[ltK]using h)
 ·rw[keyLt'_oneType];exact qB hu q1 q2 hc h
 ·obtain⟨a,its,rfl,⟨o1,g1,c1,n1,d1⟩,z1,r1⟩:=q1;obtain⟨c,its2,rfl,⟨o2,g2,c2,n2,d2⟩,z2,r2⟩:=q2;refine kat_lt g1 d1 g2 d2 ?_;have go:∀k m,ds.length-m=k->m<=min its.size its2.size->aK ds es=aK (ds.drop m) (es.drop m)->Cms (ds.drop m) (es.drop m)->KatLex prog w A b (decide (its.size<its2.size)) Q ((its.toList.zip its2.toList).drop m) m s:=by
   intro k
   induction k with
   |zero =>
    intro m hk hm hl _;rw[List.drop_eq_nil_of_le (by rw[List.length_zip,Array.length_toList,Array.length_toList];omega)];refine kat_nil ?_;have:decide (its.size<its2.size)=aK ds es:=by
     rw[hl,List.drop_eq_nil_of_le (show ds.length<=m by omega)];rcases Nat.lt_or_ge m es.length with q|q
     ·rw[List.drop_eq_getElem_cons q,decide_eq_true (by omega)];simp[aK]
     ·rw[List.drop_eq_nil_of_le q,decide_eq_false (by omega)];simp[aK]
    rw[this];exact h
   |succ k ih =>
    intro m hk hm hl hcm;have m1:m<ds.length:=by omega
    rcases Nat.lt_or_ge m es.length with m2|m2
    ·have hz:m<(its.toList.zip its2.toList).length:=by rw[List.length_zip,Array.length_toList,Array.length_toList];omega
     rw[List.drop_eq_getElem_cons hz];have i1:m<its.size:=by omega
     have i2:m<its2.size:=by omega
     have e:(its.toList.zip its2.toList)[m]=(its[m],its2[m]):=by simp
     rw[e];have k1:=r1 m _ _ (List.getElem?_eq_getElem m1) (Array.getElem?_eq_getElem i1);have k2:=r2 m _ _ (List.getElem?_eq_getElem m2) (Array.getElem?_eq_getElem i2);rw[List.drop_eq_getElem_cons m1,List.drop_eq_getElem_cons m2]at hl hcm;simp only[aK,Cms]at hl hcm;obtain⟨bb,b1,b2⟩:=KAt.eq n (A:=A) (by omega) k1 k2;refine kat_cons (b2 prog w _ _ ?_);cases bb with
     |true =>
      rw[if_pos (b1.mp rfl)]at hl;exact kat_yes (ih (m+1) (by omega) (by omega) hl hcm.2)
     |false =>
      have ne:¬ ds[m]=es[m]:=fun z=>by have:=b1.mpr z;cases this
      rw[if_neg ne]at hl;exact kat_no (xY _ (by omega) k1 k2 hcm.1 (by rw[<-hl];exact h))
    ·rw[List.drop_eq_nil_of_le (by rw[List.length_zip,Array.length_toList,Array.length_toList];omega)];refine kat_nil ?_;have:decide (its.size<its2.size)=aK ds es:=by
      rw[hl,List.drop_eq_nil_of_le m2,List.drop_eq_getElem_cons m1,decide_eq_false (by omega)];simp[aK]
     rw[this];exact h
  exact go _ 0 rfl (Nat.zero_le _) rfl hc
theorem iy{β:Type}{f:Value->Sem β}{R:β->Prop}:∀(l:List Value) {Q:List β->Shared->Prop},(∀v∈l,∀Q':β->Shared->Prop,(∀r,R r->Q' r s)->wpAny (model prog w) A (f v) Q' E s)->(∀rs,(∀r∈rs,R r)->Q rs s)->wpAny (model prog w) A (l.mapM f) Q E s
 |[],Q,_,h=>by rw[List.mapM_nil];exact wpAny_pure (h [] fun _ z=>nomatch z)
 |v::l,Q,hf,h=>by
  rw[List.mapM_cons];refine wpAny_bind (hf v (.head _) _ fun r hr=>wpAny_bind (iy l (fun u hu=>hf u (.tail _ hu)) fun rs hrs=>wpAny_pure (h _ fun x hx=>?_)));rcases List.mem_cons.mp hx with rfl|hx
  ·exact hr
  ·exact hrs x hx
theorem zS{vs:List Value}{n:Nat}(hv:∀v∈vs,∃k,KAt s.heap (n+1) (.tup k) v) {Q:SortKind->Shared->Prop}(h:∀ κ,SKd κ->Q κ s):wpAny (model prog w) A (keyKind' vs.toArray) Q E s:=by
 have one:∀(l:List Value) (Q':Option Value->Shared->Prop),(∀v∈l,∃n k,KAt s.heap n k v)->(∀r,Q' r s)->wpAny (model prog w) A (oneTypeOnly' l.toArray) Q' E s:=fun l Q' hl hq=>by
  rw[oneTypeOnly'_eq,List.mapM_toArray,map_eq_pure_bind];refine wpAny_bind (wpAny_bind (iy (R:=fun _=>True) l (fun v hv Q' hq=>let⟨n,k,q⟩:=hl v hv;zJ q fun T=>hq T trivial) fun rs _=>wpAny_pure ?_))
  split
  ·exact wpAny_pure (hq _)
  ·exact wpAny_pure (hq _)
 rw[keyKind'_eq,List.mapM_toArray,map_eq_pure_bind];refine wpAny_bind (wpAny_bind (iy (R:=fun r:Option Value=>∀f,r=some f->∃n k,KAt s.heap n k f) vs (fun v hv' Q' hq=>?_) fun rs hrs=>wpAny_pure ?_))
 ·obtain⟨ks,a,its,rfl,⟨o,ho,hc,c,hd⟩,z,r⟩:=hv v hv';show wpAny _ _ (typeOf (.ref a) >>= _) _ _ _;refine wpAny_bind (wpAny_typeOf ⟨o,ho,hc⟩ ?_);rw[if_neg (by decide)];refine wpAny_bind (listItems_at ho hd (wpAny_pure (hq _ fun f hf=>?_)));have lt:=(Array.getElem?_eq_some_iff.mp hf).1;exact⟨n,_,r 0 _ _ (List.getElem?_eq_getElem (by omega)) hf⟩
 ·split
  ·refine wpAny_bind (wpAny_rule ?_);rw[show(rs.toArray.filterMap id)=(rs.filterMap id).toArray by simp];refine wpAny_bind (one _ _ (fun v hv=>?_) fun r=>wpAny_pure (h _ (.inr (.inr ⟨_,rfl⟩))));obtain⟨r,hr,e⟩:=List.mem_filterMap.mp hv;exact hrs r hr v e
  ·split
   ·exact wpAny_pure (h _ (.inl rfl))
   ·refine wpAny_bind (one _ _ (fun v hv'=>let⟨k,q⟩:=hv v hv';⟨_,_,q⟩) fun r=>?_)
    split
    ·exact wpAny_pure (h _ (.inr (.inl rfl)))
    ·exact wpAny_pure (h _ (.inl rfl))
end
section
variable{prog:Program}{w:World}{A:Around}{E:Value->Shared->Prop}{O:KeyOrd}
theorem qF(vs:List Value):vs.toArray.zip vs.toArray=(vs.map fun v=>(v,v)).toArray:=by
 apply Array.ext';rw[Array.toList_zip];show vs.zip vs=_
 induction vs with
 |nil=>rfl
 |cons a l ih=>rw[List.zip_cons_cons,ih];rfl
theorem tL{s:Shared}{x:Addr}{vs:List Value}{n:Nat}{key:Value->O.α}{J:SortKind->Prop}{P:PySem.Fin->Shared->Prop}(hx:s.heap.get? x=some (seqObj "list" vs.toArray n)) (hz:vs.length<=sizeLine)
  (hk:∀s1 Q,2<=vs.length->nU x s s1->(∀ κ,J κ->Q κ s1)->wpAny (model prog w) A (keyKind' vs.toArray) Q (fun _ _=>False) s1)
  (hc:∀ κ,J κ->∀u∈vs,∀v∈vs,∀s1 Q,nU x s s1->Q (O.blt (key u) (key v)) s1->wpAny (model prog w) A (keyLt' κ u v) Q (fun _ _=>False) s1)
  (k:∀(us:List Value) c h',us.Perm vs->us.Pairwise (fun a b=>O.kle (key a) (key b))->(∀b o,b≠x->s.heap.get? b=some o->h'.get? b=some o)->h'.get? x=some (seqObj "list" us.toArray c)->P (.done (.ret .none)) { s with heap:=h' }) :
  wpAny (model prog w) A (Builtin.«list.sort» ⟨[.ref x],[]⟩) P E s:=by
 have lx:x<s.heap.objs.size:=Heap.lt_size hx;obtain⟨c1,h1⟩:∃c,(s.heap.update x (Obj.mapSeq fun _=>#[])).get? x=some (seqObj "list" #[] c):=⟨_,get?_update_seq hx (fun _=>#[])⟩;rw[list_sort_plain];refine wpAny_bind (listItems_at hx rfl (wpAny_bind (listUpdate_at hx rfl (wpAny_bind (seqEpoch_at h1 rfl (wpAny_bind (wpAny_newTuple (wpAny_bind (wpAny_newList (wpAny_holding ?_) (Nat.zero_le _))) ?_)))) ?_ (Nat.zero_le _))))
 rotate_left
 ·exact hz
 ·rw[List.size_toArray];exact hz
 generalize hh:((s.heap.update x (Obj.mapSeq fun _=>#[])).push (seqObj "tuple" vs.toArray 0)).push (seqObj "list" #[] 0)=h2;show wpAny _ A _ P E { s with heap:=h2 };have g2:h2.get? x=some (seqObj "list" #[] c1):=by
  rw[<-hh];exact Heap.get?_push_of_some _ (Heap.get?_push_of_some _ h1)
 have st:nU x s { s with heap:=h2 }:=fun b o ne e=>by
  show h2.get? b=some o;rw[<-hh];exact Heap.get?_push_of_some _ (Heap.get?_push_of_some _ (by rw[Heap.get?_update_ne _ _ _ _ ne];exact e))
 have fin:∀us:List Value,us.Perm vs->us.Pairwise (fun a b=>O.kle (key a) (key b))->P (.done (.ret .none)) { s with heap:=h2.update x (Obj.mapSeq fun _=>us.toArray) }:=fun us hp hr =>
  k us _ _ hp hr (fun b o ne e=>by rw[Heap.get?_update_ne _ _ _ _ ne];exact st b o ne e) (get?_update_seq g2 fun _=>us.toArray)
 dsimp only;rw[qF]
 by_cases few:vs.toArray.size<2
 ·rw[if_pos few,if_pos few];refine wpAny_bind (wpAny_pure ?_);rw[StateT.run_pure];refine wpAny_bind (wpAny_pure ?_);dsimp only;have few':vs.length<2:=by rw[List.size_toArray]at few;exact few
  have e0:(arrOf (SortSt.mk' general' (vs.map fun v=>(v,v)).toArray #[] 7 none)).map (·.2)=vs.toArray:=by
   show(vs.map fun v=>(v,v)).toArray.map (·.2)=_;rw[List.map_toArray,List.map_map];congr 1;exact List.map_id _
  rw[e0];refine wpAny_bind (seqEpoch_at g2 rfl (wpAny_bind (listUpdate_at g2 rfl ?_ (Nat.zero_le _) (by rw[List.size_toArray];exact Nat.le_succ_of_le hz))));simp only[failedOf,bne_self_eq_false,Bool.false_eq_true,if_false];exact wpAny_pure (fin _ (List.Perm.refl _) (match vs,few' with
   |[],_=>.nil
   |[a],_=>.cons (fun _ z=>nomatch z) .nil))
 ·rw[if_neg few,if_neg few];have two:2<=vs.length:=by rw[List.size_toArray]at few;omega
  refine wpAny_bind (wpAny_mono (hk { s with heap:=h2 } (fun q t=>J q/\t=({ s with heap:=h2 }:Shared)) two st fun κ hκ=>⟨hκ,rfl⟩) ?_ fun _ _ z=>z.elim);rintro κ _ ⟨hκ,rfl⟩;generalize ea:(vs.map fun v=>((v,v):Keyed))=a0;have ma:∀p∈a0,p.1∈vs/\p.2=p.1:=fun p hp=>by
   rw[<-ea]at hp;obtain⟨v,hv,rfl⟩:=List.mem_map.mp hp;exact⟨hv,rfl⟩
  have la:a0.length=vs.length:=by rw[<-ea,List.length_map]
  have hA:dX prog w A { s with heap:=h2 } κ (fun p:Keyed=>key p.1) a0:=fun p hp q hq Q z=>hc κ hκ _ (ma p hp).1 _ (ma q hq).1 _ Q st z;have R:=vz (E:=E) (st:=SortSt.mk' κ a0.toArray #[] 7 none) (Q:=fun _ st'=>SB a0 κ st'/\Up (fun p:Keyed=>key p.1) (arrOf st') 0 a0.length) hA ⟨List.Perm.refl _,rfl,rfl⟩ rfl (by omega) fun st' a b=>⟨a,b⟩;refine wpAny_bind (wpAny_mono (show wpAny _ _ _ _ _ _ from R) ?_ fun _ _ z=>z);rintro⟨⟨⟩,u⟩ t ⟨rfl,hB,hU⟩;dsimp only;have hp:((arrOf u).toList.map (·.2)).Perm vs:=by
   have h:=hB.perm.map (fun p:Keyed=>p.2);rw[<-ea,List.map_map]at h;exact h.trans (.of_eq (List.map_id _))
  have hw:((arrOf u).toList.map (·.2)).Pairwise (fun a b=>O.kle (key a) (key b)):=by
   rw[List.pairwise_iff_getElem];intro i j hi hj hij;have sz:(arrOf u).size=a0.length:=hB.size;rw[List.length_map,Array.length_toList]at hi hj;have:=hU i j (Nat.zero_le _) (Nat.le_of_lt hij) (by omega);unfold kA at this;have e:∀i (h:i<(arrOf u).size),gA (arrOf u) i=(arrOf u)[i]/\((arrOf u)[i]).2=((arrOf u)[i]).1:=fun i h=>⟨by unfold gA;rw[Array.getElem?_eq_getElem h];rfl,(ma _ (hB.perm.mem_iff.mp (by simp))).2⟩;rw[(e i hi).1,(e j hj).1]at this;simp only[List.getElem_map,Array.getElem_toList,(e i hi).2,(e j hj).2];exact this
  have e0:(arrOf u).map (·.2)=((arrOf u).toList.map (·.2)).toArray:=by apply Array.ext';simp
  rw[e0];refine wpAny_bind (seqEpoch_at g2 rfl (wpAny_bind (listUpdate_at g2 rfl ?_ (Nat.zero_le _) ?_)))
  ·rw[hB.fail];simp only[bne_self_eq_false,Bool.false_eq_true,if_false];exact wpAny_pure (fin _ hp hw)
  ·rw[List.size_toArray,hp.length_eq];exact Nat.le_succ_of_le hz
theorem sW{s:Shared}{vs:List Value}{key:Value->O.α}{J:SortKind->Prop}{P:PySem.Fin->Shared->Prop}(hz:vs.length<=sizeLine)
  (hk:∀s1 Q,2<=vs.length->(∀b o,s.heap.get? b=some o->s1.heap.get? b=some o)->(∀ κ,J κ->Q κ s1)->wpAny (model prog w) A.in1 (keyKind' vs.toArray) Q (fun _ _=>False) s1)
  (hc:∀ κ,J κ->∀u∈vs,∀v∈vs,∀s1 Q,(∀b o,s.heap.get? b=some o->s1.heap.get? b=some o)->Q (O.blt (key u) (key v)) s1->wpAny (model prog w) A.in1 (keyLt' κ u v) Q (fun _ _=>False) s1)
  (k:∀(us:List Value) x c h',us.Perm vs->us.Pairwise (fun a b=>O.kle (key a) (key b))->s.heap.objs.size<=x->(∀b o,s.heap.get? b=some o->h'.get? b=some o)->h'.get? x=some (seqObj "list" us.toArray c)->P (.done (.ret (.ref x))) { s with heap:=h' }) :
  wpAny (model prog w) A (newList vs >>= fun l=>holding [l] (call (.builtin "list.sort") [l] []) >>= fun _=>ret l) P E s:=by
 refine wpAny_bind (wpAny_newList ?_ hz);have new:(s.heap.push (seqObj "list" vs.toArray 0)).get? s.heap.objs.size=some (seqObj "list" vs.toArray 0):=Heap.get?_push_size _ rfl;have kp2:∀b o,s.heap.get? b=some o->(s.heap.push (seqObj "list" vs.toArray 0)).get? b=some o:=fun b o e=>Heap.get?_push_of_some _ e;show wpAny _ _ _ _ _ { s with heap:=s.heap.push (seqObj "list" vs.toArray 0) };have go:∀(t:Shared),nU s.heap.objs.size { s with heap:=s.heap.push (seqObj "list" vs.toArray 0) } t->∀b o,s.heap.get? b=some o->t.heap.get? b=some o:=fun t ht b o e=>ht b o (Nat.ne_of_lt (Heap.lt_size e)) (kp2 b o e);refine wpAny_bind (wpAny_holding (wpAny_call_entry slot_list_sort ⟨_,new,rfl⟩ entry_list_sort ?_ (args_list_sort _)));refine tL (key:=key) (J:=J) new hz (fun t Q' two ht q=>hk t Q' two (go t ht) q) (fun κ hκ u hu v hv t Q ht q=>hc κ hκ u hu v hv t Q (go t ht) q) fun us c h' hp hr hs hx=>?_;exact⟨_,rfl,wpAny_pure (k us _ c h' hp hr (Nat.le_refl _) (fun b o e=>go { s with heap:=h' } hs b o e) hx)⟩
end
end L2
namespace L2
open PySem PySem.Spec PyProof.Rows PySem.Calls PySem.SeqAt
mutual
def kd:KD->D
 |.int i=>.int i
 |.str x=>.str x
 |.tup ks=>.tup (kds ks)
def kds:List KD->List D
 |[]=>[]
 |k::ks=>kd k::kds ks
end
theorem gH:∀ks,kds ks=ks.map kd
 |[]=>by simp[kds]
 |k::ks=>by simp[kds,gH ks]
mutual
theorem vy:∀{a b:KD},kd a=kd b->a=b
 |.int _,.int _,h=>by simp[kd]at h;rw[h]
 |.int _,.str _,h=>by simp[kd]at h
 |.int _,.tup _,h=>by simp[kd]at h
 |.str _,.int _,h=>by simp[kd]at h
 |.str _,.str _,h=>by simp[kd]at h;rw[h]
 |.str _,.tup _,h=>by simp[kd]at h
 |.tup _,.int _,h=>by simp[kd]at h
 |.tup _,.str _,h=>by simp[kd]at h
 |.tup a,.tup b,h=>by simp only[kd,D.tup.injEq]at h;rw[nG h]
theorem nG:∀{a b:List KD},kds a=kds b->a=b
 |[],[],_=>rfl
 |[],_::_,h=>by simp[kds]at h
 |_::_,[],h=>by simp[kds]at h
 |a::as,b::bs,h=>by
  simp only[kds,List.cons.injEq]at h;rw[vy h.1,nG h.2]
end
def bP(ks:List KD):D:=.tup (kds ks)
def dpK:Nat->KD->Prop
 |_,.int _=>True
 |_,.str _=>True
 |0,.tup _=>False
 |n+1,.tup ks=>∀k∈ks,dpK n k
open Classical in
def kOf(h:Heap) (n:Nat) (v:Value):List KD:=if q:∃ds,KAt h n (.tup ds) v then q.choose else[]
theorem kq{h:Heap}{n:Nat}{v:Value}{ds:List KD}(q:KAt h n (.tup ds) v):kOf h n v=ds:=by
 have e:∃ds,KAt h n (.tup ds) v:=⟨_,q⟩;unfold kOf;rw[dif_pos e];have:=KAt.same n e.choose_spec q;cases this;rfl
def Rws(ks:List (List KD)):Prop:=(∀k∈ks,dpK 9 (.tup k))/\∀a∈ks,∀b∈ks,Cms a b
theorem Rws.sub{ks js:List (List KD)}(h:Rws ks) (s:∀k∈js,k∈ks):Rws js:=⟨fun k hk=>h.1 k (s k hk),fun a ha b hb=>h.2 a (s a ha) b (s b hb)⟩
theorem gd{ps qs:List (List KD)}(h:ps.Perm qs):aN ps=aN qs:=lW ((bh ps).trans h) (lV ps)
section
variable{X:Cx}{aa:List (Addr×Obj)}{s:Shared}{σ:St}{H:Hp}{M:DH}{K:PySem.W.Frag}
theorem nV(I:Inv X aa σ H s):∀(n:Nat) {k:KD}{v:V}{u:Value},dpK n k->Rep X.K M H (kd k) v->ar v u->KAt s.heap n k u:=by
 intro n
 induction n with
 |zero =>
  intro k v u hd r q;cases k with
  |int i=>simp only[kd,Rep]at r;subst r;exact q
  |str i=>simp only[kd,Rep]at r;subst r;exact q
  |tup _=>exact hd.elim
 |succ n ih =>
  intro k v u hd r q;cases k with
  |int i=>simp only[kd,Rep]at r;subst r;exact q
  |str i=>simp only[kd,Rep]at r;subst r;exact q
  |tup ks =>
   simp only[kd,Rep]at r;obtain⟨a,vs,rfl,t,rl⟩:=r;cases q;obtain⟨its,rv,tp,hz⟩:=I.tuple t.sq;refine⟨a,its.toArray,rfl,tp,?_,fun i d u h1 h2=>?_⟩
   ·rw[List.size_toArray,<-rv.length,<-rl.length,gH,List.length_map]
   ·obtain⟨v,g,r⟩:=rl.get (i:=i) (d:=kd d) (by rw[gH,List.getElem?_map,h1];rfl);obtain⟨u',g',r'⟩:=rv.get g;rw[List.getElem?_toArray,g']at h2;cases h2;exact ih (hd d (List.mem_of_getElem? h1)) r r'
theorem dA(I:Inv X aa σ H s) {n:Nat}{ks:List (List KD)}{vs:List V}{its:List Value}(hd:∀k∈ks,dpK n (.tup k)) (rl:ag X.K M H (ks.map bP) vs) (rv:ao vs its) {i:Nat}{k:List KD}{u:Value}(h1:ks[i]?=some k) (h2:its[i]?=some u):KAt s.heap n (.tup k) u:=by
 obtain⟨v,g,r⟩:=rl.get (i:=i) (d:=bP k) (by rw[List.getElem?_map,h1];rfl);obtain⟨u',g',r'⟩:=rv.get g;rw[g']at h2;cases h2;exact nV I n (k:=.tup k) (hd k (List.mem_of_getElem? h1)) (by simp only[kd];exact r) r'
theorem mh{τ:Type}{f:τ->D}{its us:List Value}(p:its.Perm us):∀{vs:List V}{ks:List τ},ao vs its->ag K M H (ks.map f) vs->∃(vs':List V) (ks':List τ),ao vs' us/\ag K M H (ks'.map f) vs'/\ks'.Perm ks:=by
 induction p with
 |nil=>intro vs ks rv rl;exact⟨vs,ks,rv,rl,.refl _⟩
 |cons x p ih =>
  intro vs ks rv rl;cases rv with
  |cons r t=>cases ks with
   |nil=>cases rl
   |cons k ks =>
    simp only[List.map_cons,ag]at rl;obtain⟨v,ws,e,r1,r2⟩:=rl;cases e;obtain⟨vs',ks',a,b,c⟩:=ih t r2;exact⟨_::vs',k::ks',.cons r a,ag.cons r1 b,c.cons _⟩
 |swap x y l =>
  intro vs ks rv rl;cases rv with
  |cons r t=>cases t with
   |cons r' t=>cases ks with
    |nil=>cases rl
    |cons k ks=>cases ks with
     |nil=>simp only[List.map_cons,List.map_nil,ag]at rl;obtain⟨v,ws,e,r1,r2⟩:=rl;cases e;cases r2
     |cons j ks =>
      simp only[List.map_cons,ag]at rl;obtain⟨v,ws,e,r1,v2,ws2,e2,r2,r3⟩:=rl;cases e;cases e2;exact⟨_::_::_,j::k::ks,.cons r' (.cons r t),ag.cons r2 (ag.cons r1 r3),.swap _ _ _⟩
 |trans _ _ ih1 ih2 =>
  intro vs ks rv rl;obtain⟨vs',ks',a,b,c⟩:=ih1 rv rl;obtain⟨vs2,ks2,a2,b2,c2⟩:=ih2 a b;exact⟨vs2,ks2,a2,b2,c2.trans c⟩
theorem evD{a:Expr}{ta:TEd}{Δ:DE}{R:D->DH->Prop}{Q:Value->Shared->Prop}(ha:PEd X a ta) (I:Inv X aa σ H s) (sr:SR X.K M H σ Δ) (hr:HR X.K M H) (q:ta Δ M R)
  (k:∀u s1 v H1 x M1,Inv X aa σ H1 s1->ar v u->R x M1->HR X.K M1 H1->Rep X.K M1 H1 x v->Ext M H M1 H1->Q u s1):wpAny (model X.prog X.w) X.A (eval a X.env) Q X.xe s :=
 thn (ha aa s σ H (fun v H1=>∃x M1,R x M1/\HR X.K M1 H1/\Rep X.K M1 H1 x v/\Ext M H M1 H1) I ⟨Δ,M,R,sr,hr,q,fun x M1 v H1 q1 e1 hr1 rv=>⟨x,M1,q1,hr1,rv,e1⟩⟩) fun u s1 ⟨v,H1,I1,r1,x,M1,q1,hr1,rv,e1⟩=>k u s1 v H1 x M1 I1 r1 q1 hr1 rv e1
theorem gW{A:Around}{E:Value->Shared->Prop}{P:PySem.Fin->Shared->Prop}{Q:VK}{ks:List (List KD)}{vs:List V}{its:List Value}(hu:A.in1.units+9<cLine) (I:Inv X aa σ H s) (hr:HR X.K M H) (hk:Rws ks) (rl:ag X.K M H (ks.map bP) vs) (rv:ao vs its) (hz:vs.length<=sizeLine)
  (q:∀x vs',H x=none->ag X.K M H ((aN ks).map bP) vs'->Q (.ref x) (upd H x (.lst vs'))) (k:∀x s',EP X aa σ Q (.ref x) s'->P (.done (.ret (.ref x))) s') :
  wpAny (model X.prog X.w) A (newList its >>= fun l=>holding [l] (call (.builtin "list.sort") [l] []) >>= fun _=>ret l) P E s:=by
 have hlk:ks.length=its.length:=by rw[<-rv.length,<-rl.length,List.length_map]
 have at_:∀u∈its,∃k∈ks,KAt s.heap 9 (.tup k) u:=fun u hu=>by
  obtain⟨i,hi⟩:=List.mem_iff_getElem?.mp hu;have lt:i<ks.length:=by rw[hlk];exact(List.getElem?_eq_some_iff.mp hi).1
  exact⟨_,List.getElem_mem lt,dA I hk.1 rl rv (List.getElem?_eq_getElem lt) hi⟩
 refine sW (O:=uG) (key:=kOf s.heap 9) (J:=SKd) (by rw[<-rv.length];exact hz) (fun s1 Q' _ kp q'=>?_) (fun κ hκ u hu' v hv s1 Q' kp q'=>?_) fun us x c h' hp hw hx kp ho=>?_
 ·exact zS (n:=8) (fun v hv=>let⟨k,_,z⟩:=at_ v hv;⟨k,z.up fun b o _ e=>kp b o e⟩) q'
 ·obtain⟨a,ha,qa⟩:=at_ u hu';obtain⟨b,hb,qb⟩:=at_ v hv;have q2:Q' (aK (kOf s.heap 9 u) (kOf s.heap 9 v)) s1:=q';rw[kq qa,kq qb]at q2;exact AR hκ (n:=8) hu (qa.up fun b o _ e=>kp b o e) (qb.up fun b o _ e=>kp b o e) (hk.2 a ha b hb) q2
 ·obtain⟨vs',ks',rv',rl',hk'⟩:=mh hp.symm rv rl;have I2:=I.laid (t':=s.toks) (o:=.lst vs') kp hx (show bf X.prog X.w _ h' x (.lst _)from⟨by rw[rv'.length,hp.length_eq,<-rv.length];exact hz,us,c,rv',ho⟩);have es:ks'=aN ks:=by
   refine lW hk' ?_;have hl':ks'.length=us.length:=by rw[<-rv'.length,<-rl'.length,List.length_map]
   rw[List.pairwise_iff_getElem];intro i j hi hj hij;have:=List.pairwise_iff_getElem.mp hw i j (by omega) (by omega) hij;have d':∀k∈ks',dpK 9 (.tup k):=fun k hk2=>hk.1 k (hk'.mem_iff.mp hk2);have ki:=dA I d' rl' rv' (List.getElem?_eq_getElem hi) (List.getElem?_eq_getElem (show i<us.length by omega));have kj:=dA I d' rl' rv' (List.getElem?_eq_getElem hj) (List.getElem?_eq_getElem (show j<us.length by omega));rw[kq ki,kq kj]at this;have z:aK ks'[j] ks'[i]=false:=this;simp only[leK,z,Bool.not_false]
  subst es;exact k _ _ ⟨.ref x,_,I2,rfl,q x vs' (I.hok.fresh hx) rl'⟩
open Classical in
theorem oE(hu:X.A.units+64<cLine) {T:String}{o:Obj}{n:Nat}{l:Addr}{ks:List (List KD)}{vs:List V}{its:List Value}{Q:VK}(I:Inv X aa σ H s) (hr:HR X.K M H) (hk:Rws ks) (rl:ag X.K M H (ks.map bP) vs) (rv:ao vs its) (hz:vs.length<=sizeLine)
  (hT:T="list"∨T="tuple") (hg:s.heap.get? l=some o) (hcl:o.cls=.type T) (hd:o.data=.seq its.toArray n)
  (q:∀x vs',H x=none->ag X.K M H ((aN ks).map bP) vs'->Q (.ref x) (upd H x (.lst vs'))):wpAny (model X.prog X.w) X.A (call (.builtin "sorted") [.ref l]) (EP X aa σ Q) X.xe s:=by
 refine call_function_entry kind_sorted plain_sorted entry_sorted (args_sorted1 _) ?_;unfold Builtin.«sorted»;refine wpAny_bind (m:=checkCount "sorted" 1 1 _) (wpAny_pure ?_);refine wpAny_bind (wpAny_collect_seq l hT hg hcl hd (fun h1 kp0=>?_) (by rw[rv.length]at hz;simpa using hz));have I1:Inv X aa σ H { s with heap:=h1,toks:=s.toks }:=I.kept kp0;exact gW (show X.A.units+1+1+9<cLine by omega) I1 hr hk rl rv hz q fun x s' e=>⟨_,rfl,e⟩
def rY(ta:TEd):TEd:=fun Δ M Q=>ta Δ M fun x M1=>∃ks:List (List KD),rdM M1 x=.lst (ks.map bP)/\Rws ks/\∀p,M1 p=none->Q (.ref p) (aD M1 p (.lst ((aN ks).map bP)))
theorem sJ{a:Expr}{ta:TEd}{p0 q0:Pos}(hu:X.A.units+64<cLine) (hgS:Gl X "sorted") (hmS:X.mg "sorted"=none) (ha:QEd X a ta)
  (he0:starEach [a] X.env=(false,eval a X.env)::starEach [] X.env:=by rfl) (hp0:(backTo q0 (starEach [] X.env)).any (·.1)=false:=by rfl) :
  QEd X (.Call (.Name "sorted" p0) [a] [] q0) (rY ta):=by
 simp only[QEd.eq]at *
 intro aa s σ H Q I ⟨Δ,M,R,sr,hr,q,k⟩;refine wpAny_Call_Name_kw (c7 I hgS hmS (u:=.builtin "sorted") (by kernel_rfl) ?_ (by decide) (by decide));refine PyProof.Rows.callWith_builtin1 ?_ he0 hp0;rw[he0];show wpAny _ _ (spliced ((false,eval _ X.env)::backTo q0 (starEach [] X.env))) _ _ s;refine Calls.spliced_cons (evD ha I sr hr q fun u s1 v H1 x M1 I1 r1 ⟨ks,ex,hk,q2⟩ hr1 rv0 e1=>?_);have rv:=rv0.rd hr1;refine Calls.spliced_nil ?_;rw[ex]at rv;obtain⟨l,vs,rfl,sq,rl⟩:=rv;cases r1;obtain⟨its,rvs,pl,hz⟩:=I1.list (SqL.of sq);obtain⟨o,hg,hcl,n,hd⟩:=pl.isList;refine oE hu I1 hr1 hk rl rvs hz (.inl rfl) hg hcl hd fun p vs' hp r=>?_;have hp':=hr1.fresh hp;exact k _ _ _ _ (q2 p hp') (e1.trans (Ext.own hp)) (hr1.put (Ext.own hp) ⟨vs',aC,r.ext (Ext.own hp)⟩) (by simp only[Rep])
end
theorem vS.b{prog:Program}{w:World}{τ:Type}{κ:TK prog w τ}{h:Heap}{a:Addr}{o:Obj}{es:Array (Int×Value)}{ep:Nat}{t:SetTable}{zs:List τ}(q:vS κ h a o es ep t zs) (hz:zs.length<1000):cn w h a o es ep t :=
 ⟨q.get,q.ex,q.data,by rw[q.el.len];unfold scanBound;omega,q.tb.fit,q.led,.inr q.tb.up⟩
section
variable{X:Cx}{aa:List (Addr×Obj)}{s:Shared}{σ:St}{H:Hp}{M:DH}{K:PySem.W.Frag}
theorem lP{h:Heap}{n:Nat}{ks:List (List KD)}{vs:List V}{its:List Value}(rv:ao vs its) (rl:ag K M H (ks.map bP) vs) (hk:∀(i:Nat) k u,ks[i]?=some k->its[i]?=some u->KAt h n (.tup k) u) :
  ∀(zs:List (List KD)) (us:List Value),us.length=zs.length->(∀(i:Nat) z u,zs[i]?=some z->us[i]?=some u->u∈its/\KAt h n (.tup z) u)->∃vs',ao vs' us/\ag K M H (zs.map bP) vs'
 |[],us,hl,_=>by
  have:us=[]:=List.length_eq_zero_iff.mp hl;subst this;exact⟨[],.nil,rfl⟩
 |_::_,[],hl,_=>by cases hl
 |z::zs,u::us,hl,h'=>by
  obtain⟨vs',a,b⟩:=lP rv rl hk zs us (Nat.succ.inj hl) fun i z u h1 h2=>h' (i+1) z u (by simpa using h1) (by simpa using h2);obtain⟨m,q⟩:=h' 0 z u rfl rfl;obtain⟨j,hj⟩:=List.mem_iff_getElem?.mp m;have hln:ks.length=its.length:=by rw[<-rv.length,<-rl.length,List.length_map]
  have lt:j<ks.length:=by rw[hln];exact(List.getElem?_eq_some_iff.mp hj).1
  have kj:=List.getElem?_eq_getElem lt;have e:=KAt.same n (hk j _ _ kj hj) q;obtain⟨v,g,r⟩:=rl.get (i:=j) (d:=bP ks[j]) (by rw[List.getElem?_map,kj];rfl);obtain⟨u',g',r'⟩:=rv.get g;rw[hj]at g';cases g';cases e;exact⟨v::vs',.cons r' a,ag.cons r b⟩
def dSU(ta:TEd):TEd:=fun Δ M Q=>ta Δ M fun x M1=>∃ks:List (List KD),rdM M1 x=.lst (ks.map bP)/\Rws ks/\(∀k∈ks,dpK 8 (.tup k))/\ks.length<1000/\Q (.lst ((aN (cI ks)).map bP)) M1
theorem AF{a:Expr}{ta:TEd}{p0 p1 q0 q1:Pos}(hc:X.calm=true) (hu:X.A.units+64<cLine) (hgS:Gl X "sorted") (hmS:X.mg "sorted"=none) (hg:Gl X "set") (hm:X.mg "set"=none) (ha:QEd X a ta)
  (he0:starEach [.Call (.Name "set" p1) [a] [] q1] X.env=(false,eval (.Call (.Name "set" p1) [a] [] q1) X.env)::starEach [] X.env:=by rfl)
  (he1:starEach [a] X.env=(false,eval a X.env)::starEach [] X.env:=by rfl)
  (hp0:(backTo q0 (starEach [] X.env)).any (·.1)=false:=by rfl) (hp1:(backTo q1 (starEach [] X.env)).any (·.1)=false:=by rfl) :
  QEd X (.Call (.Name "sorted" p0) [.Call (.Name "set" p1) [a] [] q1] [] q0) (dSU ta):=by
 simp only[QEd.eq]at *
 intro aa s σ H Q I ⟨Δ,M,R,sr,hr,q,k⟩;refine wpAny_Call_Name_kw (c7 I hgS hmS (u:=.builtin "sorted") (by kernel_rfl) ?_ (by decide) (by decide));refine PyProof.Rows.callWith_builtin1 ?_ he0 hp0;rw[he0];show wpAny _ _ (spliced ((false,eval _ X.env)::backTo q0 (starEach [] X.env))) _ _ s;refine Calls.spliced_cons ?_;refine wpAny_Call_Name_kw (c7 I hg hm (u:=.type "set") (by kernel_rfl) ?_ (by decide) (by decide));refine PyProof.Rows.callWith_type1 ?_ he1 hp1;rw[he1];show wpAny _ _ (spliced ((false,eval a X.env)::backTo q1 (starEach [] X.env))) _ _ s;refine Calls.spliced_cons (evD ha I sr hr q fun u s1 v H1 x M1 I1 r1 ⟨ks,ex,hk,hk8,hl,q2⟩ hr1 rv0 e1=>?_);have rv:=rv0.rd hr1;refine Calls.spliced_nil ?_;rw[ex]at rv;obtain⟨l,vs,rfl,sq,rl⟩:=rv;cases r1;obtain⟨its,rvs,pl,hz⟩:=I1.list (SqL.of sq);have hn:ks.length=its.length:=by rw[<-rvs.length,<-rl.length,List.length_map]
 have hat:∀(i:Nat) k u,ks[i]?=some k->its[i]?=some u->KAt s1.heap 8 (.tup k) u:=fun i k u h1 h2=>dA I1 hk8 rl rvs h1 h2;refine pf (n:=8) (hn8:=Nat.le_refl _) (I1.ok.hd hc) (by omega) pl.isList (by simp[hn]) (fun i k u h1 h2=>hat i k u h1 (by simpa using h2)) hl fun h' tk hS kp=>?_;refine Calls.spliced_nil ?_;obtain⟨o,es,ep,t,zs,qs,pm⟩:=hS;have hzs:zs.length<1000:=by rw[pm.length_eq];exact Nat.lt_of_le_of_lt (fF ks) hl
 have I2:Inv X aa σ H1 { s1 with heap:=h',toks:=tk }:=I1.kept kp;refine call_function_entry kind_sorted plain_sorted entry_sorted (args_sorted1 _) ?_;unfold Builtin.«sorted»;refine wpAny_bind (m:=checkCount "sorted" 1 1 _) (wpAny_pure ?_);refine wpAny_bind (pR (A:=X.A.in1) (I1.ok.hd hc) (qs.b hzs) fun s3 es' hp kp0 eg eo=>?_);have I3:Inv X aa σ H1 s3:=I2.with kp0 eg eo
 obtain⟨vs2,rv2,rl2⟩:=lP rvs rl hat zs (es.toList.map (·.2)) (by rw[List.length_map,Array.length_toList,qs.el.len]) fun i z u h1 h2=>by
  obtain⟨v,g,_,k1,k2⟩:=qs.el.at_ i z h1;rw[List.getElem?_map,Array.getElem?_toList,g]at h2;cases h2;exact⟨by simpa using k2,k1⟩
 obtain⟨vs3,ks3,rv3,rl3,hp3⟩:=mh (hp.symm.map (·.2)) rv2 rl2;have pk:ks3.Perm (cI ks):=hp3.trans pm;have hk3:Rws ks3:=hk.sub fun k h=>(lG ks k).mp (pk.mem_iff.mp h);refine gW (show X.A.units+1+1+9<cLine by omega) I3 hr1 hk3 rl3 rv3 ?_ (fun p vs' hp r=>?_) fun x s' e=>⟨_,rfl,e⟩
 ·rw[<-rl3.length,List.length_map,pk.length_eq,sizeLine_eq];have:=fF ks;omega
 ·rw[gd pk]at r;exact cU hr1 hp r fun w H' a b c=>k _ _ _ _ q2 (e1.trans a) b c
end
end L2
namespace L2
open PySem PySem.Spec PyProof.Rows PySem.Calls PySem.SeqAt PySem.W
def fC(h:Heap) (d:Addr) (es:Array DictEntry) (ep:Nat):Prop:=∃o,h.get? d=some o/\o.ExactDict/\o.data=.dict es ep
theorem fC.typeIs{s:Shared}{d:Addr}{es:Array DictEntry}{ep:Nat}(x:fC s.heap d es ep):s.TypeIs (.ref d) "dict":=let⟨o,ho,hc,_⟩:=x;⟨o,ho,hc.1⟩
theorem fC.lt{h:Heap}{d:Addr}{es:Array DictEntry}{ep:Nat}(x:fC h d es ep):d<h.objs.size:=let⟨_,ho,_⟩:=x;Heap.lt_size ho
theorem fC.at'{h h':Heap}{d:Addr}{es:Array DictEntry}{ep:Nat}(x:fC h d es ep) (e:∀o,h.get? d=some o->h'.get? d=some o):fC h' d es ep:=let⟨o,ho,r⟩:=x;⟨o,e _ ho,r⟩
section
variable{prog:Program}{w:World}{A:Around}{E:Value->Shared->Prop}{s:Shared}{it d:Addr}{es:Array DictEntry}{ep i:Nat}
theorem zL{Q:Value->Shared->Prop}(hd:(d==sysModules)=false) (hm:fC s.heap d es ep)
  (hQ:Q (.ref s.heap.objs.size) { s with heap:=s.heap.push { cls:=.type "dict_keyiterator",data:=.fields #[.ref d,.int 0 0,.int es.size 0,.int ep 0] } }) :
  wpAny (model prog w) A (pyIter (.ref d)) Q E s:=by
 have hT:s.TypeIs (.ref d) "dict":=hm.typeIs;obtain⟨o,ho,hc,hdat⟩:=hm;refine wpAny_pyIter_slot hT F.slot_dict_iter (wpAny_call_entry F.slot_dict_iter hT F.entry_dict_iter ?_ (F.args_dict_iter_1 _));unfold Builtin.«dict.__iter__»;refine wpAny_bind ?_;unfold Builtin.Dict.dictSlotNone;refine wpAny_bind (wpAny_notOrdered_dict hT ?_);show wpAny _ _ (pure (Value.ref d)) _ _ s;refine wpAny_pure ?_;show wpAny _ _ (Builtin.Dict.showsAll d >>= _) _ _ s;unfold Builtin.Dict.showsAll;rw[if_neg (by rw[hd];exact Bool.false_ne_true)];refine wpAny_bind (wpAny_pure (wpAny_bind (wpAny_dictEntries ho hdat (wpAny_bind (wpAny_dictEpoch ho hdat ?_)))));refine wpAny_bind (wpAny_newObj_type (wpAny_pure ⟨_,rfl,"dict_keyiterator",_,⟨_,Heap.get?_push_size _ rfl,rfl⟩,F.slot_dict_keyiterator_next.lookup,?_⟩));simpa[rawInt]using hQ
theorem ze{Q:Option Value->Shared->Prop}(hit:s.heap.IsKeyIter it d i es.size ep) (hm:fC s.heap d es ep) (hlt:i<es.size)
  (hQ:∀h',h'.IsKeyIter it d (i+1) es.size ep->Heap.SameBut it s.heap h'->Q (some es[i].key) { s with heap:=h' }) :
  wpAny (model prog w) A (pyNext (.ref it)) Q E s:=by
 obtain⟨o,ho,hc,hd⟩:=id hit;obtain⟨od,hod,hcd,hdd⟩:=id hm;unfold pyNext;refine wpAny_bind (wpAny_attempt (wpAny_callSpecial?_slot (name:=Str.ofString "__next__") hit.typeIs F.slot_dict_keyiterator_next
  (wpAny_call_entry F.slot_dict_keyiterator_next hit.typeIs F.entry_dict_keyiterator_next ?_ (F.args_dict_keyiterator_next_1 _))))
 refine wpAny_bind (wpAny_pure (wpAny_bind (wpAny_bind (wpAny_bind (wpAny_typeNameOfWhole_keyiter hit.typeIs (wpAny_pure (wpAny_bind (wpAny_fieldsOf ho hd ?_))))))));have hown:Builtin.Dict_items.ownsTuple "dict_keyiterator"=false:=by decide
 simp only[hown,Bool.false_eq_true,if_false];show wpAny _ _ (if(Value.ref d==Value.none)=true then _ else _) _ _ s;rw[if_neg (show ¬ ((Value.ref d==Value.none)=true)from Bool.false_ne_true)];refine wpAny_bind (wpAny_pure (wpAny_bind (wpAny_dictEntries hod hdd ?_)));rw[if_neg (by simp)];refine wpAny_bind (wpAny_pure (wpAny_bind (wpAny_dictEpoch hod hdd ?_)));rw[if_neg (by simp)];refine wpAny_pure ?_;simp only[show ¬ ((i:Int)<0)from by omega,if_false,Int.toNat_natCast,Array.getElem?_eq_getElem hlt];refine wpAny_bind (wpAny_bind (wpAny_typeNameOfWhole_keyiter hit.typeIs (wpAny_pure (wpAny_bind (wpAny_isOneOf_keyiter hit.typeIs ?_)))));show wpAny _ _ (setField (.ref it) 1 (rawInt ((i:Int)+1)) >>= _) _ _ s;refine wpAny_bind (wpAny_setField ho hd (by simp) ?_);have hit':(s.heap.update it (Obj.mapFields (·.setIfInBounds 1 (rawInt ((i:Int)+1))))).IsKeyIter it d (i+1) es.size ep :=
  ⟨_,Heap.get?_update_self _ ho (Obj.isFreed_of_fields (Obj.data_mapFields hd _)),(Obj.cls_mapFields ..).trans hc,by rw[Obj.data_mapFields hd];simp[rawInt]⟩
 refine wpAny_bind (wpAny_holding ?_);refine wpAny_bind (wpAny_isOneOf_keyiter (s:={ s with heap:=s.heap.update it (Obj.mapFields (·.setIfInBounds 1 (rawInt ((i:Int)+1)))) }) hit'.typeIs ?_);show wpAny _ _ (pure es[i].key) _ _ _;exact wpAny_pure (wpAny_pure ⟨_,rfl,wpAny_pure (hQ _ hit' (Heap.SameBut.update ..))⟩)
theorem AG{Q:Option Value->Shared->Prop}(hh:A.handled=none) (hit:s.heap.IsKeyIter it d i es.size ep) (hm:fC s.heap d es ep) (hge:es.size<=i)
  (hQ:∀h',Heap.ExtBut it s.heap h'->Q none { s with heap:=h' }):wpAny (model prog w) A (pyNext (.ref it)) Q E s:=by
 obtain⟨o,ho,hc,hd⟩:=id hit;obtain⟨od,hod,hcd,hdd⟩:=id hm;unfold pyNext;refine wpAny_bind (wpAny_attempt (wpAny_callSpecial?_slot (name:=Str.ofString "__next__") hit.typeIs F.slot_dict_keyiterator_next
  (wpAny_call_entry F.slot_dict_keyiterator_next hit.typeIs F.entry_dict_keyiterator_next ?_ (F.args_dict_keyiterator_next_1 _))))
 refine wpAny_bind (wpAny_pure (wpAny_bind (wpAny_bind (wpAny_bind (wpAny_typeNameOfWhole_keyiter hit.typeIs (wpAny_pure (wpAny_bind (wpAny_fieldsOf ho hd ?_))))))));have hown:Builtin.Dict_items.ownsTuple "dict_keyiterator"=false:=by decide
 simp only[hown,Bool.false_eq_true,if_false];show wpAny _ _ (if(Value.ref d==Value.none)=true then _ else _) _ _ s;rw[if_neg (show ¬ ((Value.ref d==Value.none)=true)from Bool.false_ne_true)];refine wpAny_bind (wpAny_pure (wpAny_bind (wpAny_dictEntries hod hdd ?_)));rw[if_neg (by simp)];refine wpAny_bind (wpAny_pure (wpAny_bind (wpAny_dictEpoch hod hdd ?_)));rw[if_neg (by simp)];refine wpAny_pure ?_;simp only[show ¬ ((i:Int)<0)from by omega,if_false,Int.toNat_natCast,Array.getElem?_eq_none hge];refine wpAny_bind (wpAny_bind (wpAny_typeNameOfWhole_keyiter hit.typeIs (wpAny_pure ?_)));show wpAny _ _ (setField (.ref it) 0 .none >>= _) _ _ s;refine wpAny_bind (wpAny_setField ho hd (by simp) ?_);show wpAny _ _ (newExc (.type "StopIteration") [] >>= _) _ _ _;refine wpAny_bind ?_;simp only[newExc,newTuple];refine wpAny_bind (wpAny_newObj_type ?_ (by size_fits));refine wpAny_bind (m:=firstArgMember _ _) (wpAny_of_eq (a:=Value.none) (by first|rfl|(simp only[firstArgMember];rfl)) ?_);refine wpAny_newObj_type ?_ (by size_fits);simp only[raiseNew];refine wpAny_bind (wpAny_handled ?_);rw[show A.in1.handled=none from hh];refine wpAny_bind (wpAny_pure (wpAny_throw ?_));refine wpAny_bind (wpAny_isInstance (T:="StopIteration") (b:=true) ⟨_,Heap.get?_push_size _ rfl,rfl⟩ isSubtype_stop ?_);exact wpAny_pure (hQ _ (((Heap.SameBut.update ..).extBut.push _).push _))
theorem xV(hh:A.handled=none) (I d:Addr) (hne:d≠I) (es:Array DictEntry) (ep:Nat) :
  Walks prog w A I [I,d] [I] es.size (fun i v=>∃e,es[i]?=some e/\v=e.key) (fun i h=>h.IsKeyIter I d i es.size ep/\fC h d es ep) where
 sub:=fun b hb=>by simp at hb;simp[hb]
 frame:=fun _ _ _ st hk=>⟨st.1.at fun o e=>hk I (by simp) o e,st.2.at' fun o e=>hk d (by simp) o e⟩
 item:=fun i s Q E hi st hQ=>by
  refine ze st.1 st.2 hi fun h' hit' hs'=>?_;exact hQ _ h' s.toks ⟨es[i],by simp[hi],rfl⟩ ⟨hit',st.2.at' fun o e=>hs'.extBut d o hne e⟩ fun b o hb e=>hs'.extBut b o (fun h=>hb (by simp[h])) e
 done:=fun s Q E st hQ=>AG hh st.1 st.2 (Nat.le_refl _) fun h' he'=>hQ h' s.toks fun b o hb e=>he' b o (fun h=>hb (by simp[h])) e
 self:=fun _ _ _ _ st hQ=>wpAny_pyIter_keyiter st.1 hQ
theorem Ao(lo:(d==sysModules)=false):KdlSrc prog w "dict" d d es.size (fun i v=>∃e,es[i]?=some e/\v=e.key) (fun h=>fC h d es ep) where
 type:=fun _ hm=>hm.typeIs
 there:=fun _ hm=>⟨hm.lt,hm.lt⟩
 keep:=fun _ _ hm hk=>hm.at' fun o e=>hk d (.inl rfl) o e
 notList:=by decide
 notTuple:=by decide
 hint:=fun _ _ _ _ hm hq=>kdl_hint_dict hm.typeIs hq
 iter:=fun _ _ hh hm=>⟨_,_,(fun _ _ hq=>zL lo hm hq),xV hh _ d (Nat.ne_of_lt hm.lt) es ep,⟨⟨_,Heap.get?_push_size _ rfl,rfl,rfl⟩,hm.at' fun _ e=>Heap.get?_push_of_some _ e⟩⟩
theorem qL{Q:List Value->Shared->Prop}(hh:A.handled=none) (lo:(d==sysModules)=false) (hm:fC s.heap d es ep) (hn:es.size<=sizeLine)
  (h:∀h' tk,(∀b o,s.heap.get? b=some o->h'.get? b=some o)->Q (es.toList.map (·.key)) { s with heap:=h',toks:=tk }):wpAny (model prog w) A (collect (.ref d)) Q E s:=by
 unfold collect;refine wpAny_bind (wpAny_runValue (codeAny_builtin PySem.F.entry_proto_collect ?_));rw[Around.under_plainId PySem.F.plain_proto_collect _];show wpAny _ A.in1 (newList [] >>= fun l=>again (.builtin "list.__iadd__" ⟨[l,.ref d],[]⟩)) _ _ s;refine wpAny_bind (wpAny_newObj_type ?_);refine wpAny_pure ⟨plainId_quiet PySem.F.plain_list_iadd _,codeAny_builtin PySem.F.entry_list_iadd ?_⟩;rw[Around.under_plainId PySem.F.plain_list_iadd _];have ne:s.heap.objs.size≠d:=Nat.ne_of_gt hm.lt;show wpAny _ A.in1 (Builtin.List.listExtendWith (.ref s.heap.objs.size) (.ref d) (.ref s.heap.objs.size)) _ _ _;have hS:(s.heap.push { cls:=.type "list",data:=.seq #[] }).get? s.heap.objs.size=some { cls:=.type "list",data:=.seq #[] }:=Heap.get?_push_size _ rfl;have K:=kdl_extend (prog:=prog) (w:=w) (A:=A) (R:=fun r s'=>∃h' tk acc' c',r=.ok (.ret (.ref s.heap.objs.size))/\s'={ s with heap:=h',toks:=tk }/\(∀b o,s.heap.get? b=some o->h'.get? b=some o)/\h'.get? s.heap.objs.size=some (qh acc' c')/\acc'.toList=es.toList.map (·.key)) (s:={ s with heap:=s.heap.push { cls:=.type "list",data:=.seq #[] } }) (Ao (ep:=ep) lo) hh (hm.at' fun _ e=>Heap.get?_push_of_some _ e) s.heap.objs.size ne ne (.ref s.heap.objs.size) 0 hS (fun h' tk acc' c' hk hS' hacc=>⟨h',tk,acc',c',rfl,rfl,fun b o q=>hk b o (Nat.ne_of_lt (Heap.lt_size q)) (Heap.get?_push_of_some _ q),hS',by
  apply List.ext_getElem?;intro i;rcases Nat.lt_or_ge i es.size with hi|hi
  ·have g:acc'[i]?=some (acc'[i]'(by rw[hacc.1];exact hi)):=Array.getElem?_eq_getElem _;obtain⟨e,e1,e2⟩:=hacc.2 i _ g;rw[Array.getElem?_toList,g,e2,List.getElem?_map,Array.getElem?_toList,e1];rfl
  ·rw[List.getElem?_eq_none (by simp[hacc.1];exact hi),List.getElem?_eq_none (by simp;omega)]⟩) hn
 refine wpAny_mono K (fun fin s' hf=>?_) fun e s' ⟨h',tk,acc',c',q,_⟩=>nomatch q
 cases fin with
 |done f =>
  obtain⟨h',tk,acc',c',q,rfl,kp,hS',ea⟩:=hf;cases q;show wpAny _ A _ Q E _;refine wpAny_bind (wpAny_load hS' (wpAny_pure ?_));rw[ea];exact h h' tk kp
 |again c =>
  refine⟨hf.1,codeAny_mono hf.2 fun r s' ⟨h',tk,acc',c',q,e2,kp,hS',ea⟩=>?_⟩;subst q e2;show wpAny _ A _ Q E _;refine wpAny_bind (wpAny_load hS' (wpAny_pure ?_));rw[ea];exact h h' tk kp
end
open Classical in
instance decKs:DecidableEq (List KD):=fun _ _=>propDecidable _
def nW(prog:Program) (w:World) (n:Nat) (hn:n<=8):HeapKind prog w (List KD) where
 is h ks a:=KAt h n (.tup ks) (.ref a)
 hash ks:=hK w n (.tup ks)
 draws ks:=drK n (.tup ks)
 room A:=A.units+n<cLine
 inj hx hy:=by have:=KAt.same n hx hy;cases this;rfl
 keeps {h h' k a d o es ep} q ho hd hs:=q.upT fun b xs ⟨o',g,hc,m,e⟩=>⟨o',by
  have ne:b≠d:=fun z=>by subst z;rw[ho]at g;cases g;rw[hd]at e;cases e
  rw[hs.2 b ne];exact g,hc,m,e⟩
 pyHash hr hx h:=KAt.hash n hr hx h
 eqBool {A E s x y a b Q} hr hx hy h:=by
  obtain⟨c,h1,h2⟩:=KAt.eq n hr hx hy;refine h2 prog w _ _ ?_;have:c=decide (x=y):=by
   rw[Bool.eq_iff_iff,h1];simp
  rw[this];exact h
 quiet hx h:=KAt.quiet 8 n hn hx h
end L2
namespace L2
open PySem PySem.Spec PyProof.Rows PySem.Calls PySem.SeqAt
def enR(w:World) (p:List KD×Value):DictEntry:=⟨hK w 8 (.tup p.1),p.2,.bool true⟩
def DrE(w:World) (a:Addr) (ks:List (List KD)) (vs:List V) (h:Heap):Prop :=
 (a==sysModules)=false/\ks.Nodup/\(∀k∈ks,dpK 8 (.tup k))/\∃its,ao vs its/\∃es ep,fC h a es ep/\es.toList=(ks.zip its).map (enR w)
def dRw(w:World) (a:Addr) (ks:List (List KD)):HD:=.ext (DrE w a ks) (ks.map bP)
theorem DrE.ok{P:Program}{w w':World}{H:Hp}{a:Addr}{ks:List (List KD)}{vs:List V}{h:Heap}(x:DrE w a ks vs h):bf P w' H h a (.ext (DrE w a ks vs)):=by
 refine⟨x,?_,fun h1 h2 ⟨a1,a2,a3,its,a4,es,ep,a5,a6⟩ k=>⟨a1,a2,a3,its,a4,es,ep,a5.at' k,a6⟩⟩;obtain⟨_,_,_,its,_,es,ep,⟨o,ho,_⟩,_⟩:=x;exact⟨o,ho⟩
def vI:Value->Addr
 |.ref a=>a
 |_=>0
section
variable{X:Cx}{aa:List (Addr×Obj)}{s:Shared}{σ:St}{H:Hp}{M:DH}{a b:Addr}{ks:List (List KD)}{k:List KD}
theorem oj{α β:Type}:∀{l:List α}{m:List β},l.length=m.length->(l.zip m).map (·.1)=l
 |[],_,_=>by simp
 |_::_,[],h=>by cases h
 |x::l,y::m,h=>by simp[oj (l:=l) (m:=m) (Nat.succ.inj h)]
theorem n6{α β:Type}:∀{l:List α}{m:List β},l.length=m.length->(l.zip m).map (·.2)=m
 |[],[],_=>rfl
 |[],_::_,h=>by cases h
 |_::_,[],h=>by cases h
 |x::l,y::m,h=>by simp[n6 (l:=l) (m:=m) (Nat.succ.inj h)]
def xsR(p:List KD×Value):List KD×Addr×Value:=(p.1,vI p.2,.bool true)
theorem t9{A:Around}{E:Value->Shared->Prop}{y:V}{u:Value}{Q:Unit->Shared->Prop}(hu:A.units+16<cLine) (I:Inv X aa σ H s) (hr:HR X.K M H) (em:M a=some (dRw X.w a ks)) (rk:Rep X.K M H (bP k) y) (ry:ar y u) (hd:dpK 8 (.tup k)) (hl:ks.length<1000000)
  (h:∀vs' s',ag X.K M H ((aZ ks k).map bP) vs'->Inv X aa σ (upd H a (.ext (DrE X.w a (aZ ks k) vs'))) s'->Q () s'):wpAny (model X.prog X.w) A (setItem (.ref a) u (.bool true)) Q E s:=by
 obtain⟨vs,hH,rl⟩:=hr a _ em;obtain⟨⟨lo,nd,dp,its,rv,es,ep,⟨o,ho,hc,hdat⟩,he⟩,_,_⟩:=I.hok a _ hH;have hkey:=nV I 8 (k:=.tup k) hd (by simp only[kd];exact rk) ry;have hkey0:=hkey;obtain⟨b,_,rfl,_⟩:=hkey0;have hln:ks.length=its.length:=by rw[<-rv.length,<-rl.length,List.length_map]
 have at_:∀p∈ks.zip its,KAt s.heap 8 (.tup p.1) p.2/\p.2=.ref (vI p.2):=fun p hp=>by
  obtain⟨i,hi⟩:=List.mem_iff_getElem?.mp hp;rw[List.getElem?_zip_eq_some]at hi;have q:=dA I dp rl rv hi.1 hi.2;refine⟨q,?_⟩;obtain⟨c,_,e,_⟩:=q;rw[e];rfl
 have e1:es.toList=((ks.zip its).map xsR).map (entryOfKey (nW X.prog X.w 8 (Nat.le_refl _))):=by
  rw[he,List.map_map];refine List.map_congr_left fun p hp=>?_;show(⟨hK X.w 8 (.tup p.1),p.2,.bool true⟩:DictEntry)=⟨hK X.w 8 (.tup p.1),.ref (vI p.2),.bool true⟩;rw[<-(at_ p hp).2]
 have e2:((ks.zip its).map xsR).map (·.1)=ks:=by rw[List.map_map];exact oj hln
 have hm:s.heap.DictOfH (nW X.prog X.w 8 (Nat.le_refl _)) a ((ks.zip its).map xsR):=⟨o,es,ep,ho,hc,hdat,e1,fun x hx=>by
  obtain⟨p,hp,rfl⟩:=List.mem_map.mp hx;obtain⟨q,e⟩:=at_ p hp;rw[e]at q;exact q,by rw[e2];exact nd⟩
 refine wpAny_setItem_heap (k:=k) (v:=.bool true) (show A.units+1+8<cLine by omega) hkey hm (fun h' hm' hs=>?_) (by rw[List.length_map,List.length_zip,sizeLine_eq];omega);obtain⟨o',es',ep',ho',hc',hdat',he',_,nd'⟩:=hm';have mu:Mut (H a):=by rw[hH];exact True.intro
 by_cases c:k∈ks
 ·have e3:aZ ks k=ks:=if_pos c;have st:storedH ((ks.zip its).map xsR) k b (.bool true)=(ks.zip its).map xsR:=by
   unfold storedH;have all:((ks.zip its).map xsR).map (putAt k (.bool true))=(ks.zip its).map xsR:=by
    rw[List.map_map];refine List.map_congr_left fun p hp=>?_;show putAt k (.bool true) (xsR p)=xsR p;unfold putAt;split<;>rfl
   split
   ·exact all
   ·rename_i n;exfalso;rw[<-e2]at c;obtain⟨x,hx,e⟩:=List.mem_map.mp c;obtain⟨i,hi⟩:=List.mem_iff_getElem?.mp hx;obtain⟨x1,x2⟩:=x;subst e;exact n (by rw[atKey_of_get (by rw[e2];exact nd) hi];rfl)
  rw[st]at he';rw[<-e1,he]at he';refine h vs _ (by rw[e3];exact rl) (eU I mu hs ⟨_,ho'⟩ (DrE.ok ?_));rw[e3];exact⟨lo,nd,dp,its,rv,es',ep',⟨o',ho',hc',hdat'⟩,he'⟩
 ·have e3:aZ ks k=ks++[k]:=if_neg c;have st:storedH ((ks.zip its).map xsR) k b (.bool true)=(ks.zip its).map xsR++[(k,b,.bool true)]:=by
   refine storedH_new (atKey_none_of_get fun j p hj=>c ?_) _ _;rw[<-e2];exact List.mem_map.mpr ⟨_,List.mem_of_getElem? hj,rfl⟩
  rw[st,List.map_append,<-e1,he]at he';obtain⟨v,ev,rkv⟩:∃v,v=y/\Rep X.K M H (bP k) v:=⟨y,rfl,rk⟩;subst ev;refine h (vs++[v]) _ (by rw[e3,List.map_append];exact rl.append (ag.cons rkv ag.nil)) (eU I mu hs ⟨_,ho'⟩ (DrE.ok ?_));rw[e3];refine⟨lo,?_,fun j hj=>?_,its++[.ref b],rv.append (.cons ry .nil),es',ep',⟨o',ho',hc',hdat'⟩,?_⟩
  ·rw[<-e3];exact l6 nd k
  ·rcases List.mem_append.mp hj with z|z
   ·exact dp j z
   ·rw[List.mem_singleton.mp z];exact hd
  ·rw[he',List.zip_append hln,List.map_append];rfl
def dDR(w:World):TEd:=fun _ M Q=>∀p,M p=none->Q (.ref p) (aD M p (dRw w p []))
theorem Af{pos:Pos}:PEd X (.Dict [] [] pos) (dDR X.w):=fun aa s σ H Q I ⟨Δ,M,R,sr,hr,q,k⟩=>by
 have hp:H s.heap.objs.size=none:=I.hok.fresh (Nat.le_refl _);have hp':=hr.fresh hp;refine wpAny_Dict_empty ⟨.ref s.heap.objs.size,_,I.laid (a:=s.heap.objs.size) (o:=.ext (DrE X.w s.heap.objs.size [] [])) (t':=s.toks) (fun _ _ q=>Heap.get?_push_of_some _ q) (Nat.le_refl _) (DrE.ok ⟨?_,.nil,fun _ z=>(nomatch z),[],.nil,#[],0,⟨_,Heap.get?_push_size _ rfl,⟨rfl,rfl,rfl⟩,rfl⟩,rfl⟩),rfl,?_⟩
 ·have:=kO (P:=X.prog) (w:=X.w) (H:=H) s.heap I.big;exact this.2.1
 ·exact k _ _ _ _ (q _ hp') (Ext.own hp) (hr.put (Ext.own hp) ⟨[],aC,ag.nil⟩) (by simp only[Rep])
variable{o i e:Expr}{to ti te:TEd}
def uY(w:World) (to ti te:TEd):TSd:=fun E Δ M=>te Δ M fun d M1=>to Δ M1 fun x M2=>ti Δ M2 fun y M3=>∃a ks k,d=.bl true/\x=.ref a/\M3 a=some (dRw w a ks)/\y=bP k/\dpK 8 (.tup k)/\ks.length<1000000/\E.nx Δ (aD M3 a (dRw w a (aZ ks k)))
def qY(w:World) (to:TEd):TEd:=fun Δ M Q=>to Δ M fun x M1=>∃a ks,x=.ref a/\M1 a=some (dRw w a ks)/\Rws ks/\ks.length<1000000/\Q (.lst ((aN ks).map bP)) M1
theorem Au{pos:Pos}:QEd X (.Dict [] [] pos) (dDR X.w):=by simp only[QEd.eq];exact Af
theorem wZ{p pos:Pos}(hu:X.A.units+64<cLine) (ho:QEd X o to) (hi:QEd X i ti) (he:QEd X e te) (hs:swapsWith e (some (.Subscript o i p)) pos.line X.env=pure false:=by rfl):QSd X (.Assign [.Subscript o i p] e pos) (uY X.w to ti te):=by
 simp only[QEd.eq,QSd.eq]at *
 intro aa s σ H D I ⟨Δ,M,E,sr,hr,q,k⟩;refine wpAny_Assign_Subscript (thn (he aa s σ H (fun v H1=>up X.K to σ H1 fun x H2=>up X.K ti σ H2 fun y H3=>∃a ks ky M3,v=.bl true/\x=.ref a/\HR X.K M3 H3/\M3 a=some (dRw X.w a ks)/\Rep X.K M3 H3 (bP ky) y/\dpK 8 (.tup ky)/\ks.length<1000000/\∀vs',ag X.K M3 H3 ((aZ ks ky).map bP) vs'->D.nx σ (upd H3 a (.ext (DrE X.w a (aZ ks ky) vs')))) I
  ⟨Δ,M,_,sr,hr,q,fun d M1 v H1 q1 e1 hr1 rv=>⟨Δ,M1,_,sr.ext e1,hr1,q1,fun x M2 u H2 q2 e2 hr2 ru=>⟨Δ,M2,_,(sr.ext e1).ext e2,hr2,q2,fun y M3 w3 H3 ⟨a,ks,ky,ed,ex,em,ey,hd,hl,q3⟩ e3 hr3 rw3=>?_⟩⟩⟩) fun r s1 hup=>hup.el fun v H1 I1 rv q1=>thn (ho aa s1 σ H1 _ I1 q1) fun u s2 hup=>hup.el fun x H2 I2 rx q2=>thn (hi aa s2 σ H2 _ I2 q2) fun iv s3 ⟨y,H3,I3,ry,a,ks,ky,M3,ev,ex,hr3,em,rk,hd,hl,q3⟩=>?_) hs
 ·subst ed ex ey;simp only[Rep]at rv ru;refine⟨a,ks,ky,M3,rv,ru,hr3,em,rw3,hd,hl,fun vs' rl=>?_⟩;have ew:Ext M3 H3 (aD M3 a (dRw X.w a (aZ ks ky))) (upd H3 a (.ext (DrE X.w a (aZ ks ky) vs'))):=Ext.write em;exact k.nx Δ _ σ _ q3 (((e1.trans e2).trans e3).trans ew) (hr3.put ew ⟨vs',aC,rl.ext ew⟩) ((((sr.ext e1).ext e2).ext e3).ext ew)
 ·subst ev ex;obtain rfl:u=Value.ref a:=rx;obtain rfl:r=Value.bool true:=rv;exact t9 (by omega) I3 hr3 em rk ry hd hl fun vs' s4 rl I4=>⟨σ,_,I4,q3 vs' rl⟩
theorem ur{p0 q0:Pos}(hc:X.calm=true) (hu:X.A.units+64<cLine) (hgS:Gl X "sorted") (hmS:X.mg "sorted"=none) (ho:QEd X o to)
  (he0:starEach [o] X.env=(false,eval o X.env)::starEach [] X.env:=by rfl) (hp0:(backTo q0 (starEach [] X.env)).any (·.1)=false:=by rfl) :
  QEd X (.Call (.Name "sorted" p0) [o] [] q0) (qY X.w to):=by
 simp only[QEd.eq]at *
 intro aa s σ H Q I ⟨Δ,M,R,sr,hr,q,k⟩;refine wpAny_Call_Name_kw (c7 I hgS hmS (u:=.builtin "sorted") (by kernel_rfl) ?_ (by decide) (by decide));refine PyProof.Rows.callWith_builtin1 ?_ he0 hp0;rw[he0];show wpAny _ _ (spliced ((false,eval _ X.env)::backTo q0 (starEach [] X.env))) _ _ s;refine Calls.spliced_cons (evD ho I sr hr q fun u s1 v H1 x M1 I1 r1 ⟨a,ks,ex,em,hk,hl,q2⟩ hr1 rv e1=>?_);refine Calls.spliced_nil ?_;subst ex;simp only[Rep]at rv;subst rv;obtain rfl:u=Value.ref a:=r1;obtain⟨vs,hH,rl⟩:=hr1 a _ em;obtain⟨⟨lo,nd,dp,its,rvs,es,ep,de,he⟩,_,_⟩:=I1.hok a _ hH;have hln:ks.length=its.length:=by rw[<-rvs.length,<-rl.length,List.length_map]
 have hsz:es.size=ks.length:=by rw[<-Array.length_toList,he,List.length_map,List.length_zip];omega
 have ek:es.toList.map (·.key)=its:=by rw[he,List.map_map];exact n6 hln
 refine call_function_entry kind_sorted plain_sorted entry_sorted (args_sorted1 _) ?_;unfold Builtin.«sorted»;refine wpAny_bind (m:=checkCount "sorted" 1 1 _) (wpAny_pure ?_);refine wpAny_bind (qL (A:=X.A.in1) (I1.ok.hd hc) lo de (by rw[hsz,sizeLine_eq];omega) fun h' tk kp=>?_);rw[ek];have I2:Inv X aa σ H1 { s1 with heap:=h',toks:=tk }:=I1.kept kp;refine gW (show X.A.units+1+1+9<cLine by omega) I2 hr1 hk rl rvs ?_ (fun p vs' hp r=>?_) fun x s' e=>⟨_,rfl,e⟩
 ·rw[<-rl.length,List.length_map,sizeLine_eq];omega
 ·exact cU hr1 hp r fun w H' a b c=>k _ _ _ _ q2 (e1.trans a) b c
end
end L2
namespace L2
open PySem PySem.Spec PyProof.Rows
section
variable{X:Cx}
theorem yQ:bv X (binaryOp .LShift) (iOp fun i j=>if iO i j then some (.int (i*2 ^ j.toNat))else none):=iZ (fun _ _=>rfl) wG
theorem yp:bv X (binaryOp .RShift) (iOp fun i j=>if 0<=j then some (.int (i / 2 ^ j.toNat))else none):=iZ (C:=fun _ j=>0<=j) (fun _ _=>rfl) xb
def uW(t:TEd):TEd:=fun Δ M Q=>t (Δ.map (Option.map (rdM M))) noM fun d _=>noL d=true/\Q d M
theorem wf{e:Expr}{t:TEd}(h:QEd X e t):QEd X e (uW t):=by
 simp only[QEd.eq]at *
 exact PE.conv h fun σ H Q hup=>hup.el fun Δ M R sr hr q k=>⟨_,noM,_,sr.lend hr,HR.nil,q,fun d M2 v H' ⟨hn,q'⟩ e' hr' rv'=>by
  have eM:Ext M H M H':=fun a o h1 h2=>⟨(e' a o h1 rfl).1,h2⟩;have hrM:HR X.K M H':=hr.ext1 eM fun a o q=>by
   obtain⟨u,hu,_⟩:=(hr a o q).some;rw[hu];exact(e' a u hu rfl).1
  refine k d M v H' q' eM hrM (Rep.hard hn rv' fun a xs r=>?_);cases q:M a with
  |none=>rfl
  |some o =>
   obtain⟨u,z,n⟩:=(hrM a o q).some;rcases r with r|⟨ob,r⟩
   ·rw[z]at r;exact absurd (Option.some.inj r) (n xs).1
   ·rw[z]at r;exact absurd (Option.some.inj r) ((n xs).2 ob)⟩
end
end L2
namespace My
open PySem PySem.Spec PyProof.Rows L2
noncomputable def top(i:Nat):Stmt:=PySem.Challenge.pw_wordwishes_k39_plain_rows.main.body.getD i (.Pass ⟨0,0,0,0⟩)
abbrev bU:Stmt:=top 1
abbrev dG:Stmt:=top 2
abbrev cu:Stmt:=top 4
abbrev eB:Stmt:=top 5
abbrev bO:Stmt:=top 7
abbrev aH:Stmt:=top 9
abbrev bg:Stmt:=top 10
abbrev fU:Stmt:=top 12
abbrev cG:Stmt:=top 13
abbrev cN:Stmt:=top 14
abbrev gR:Stmt:=top 15
abbrev gK:Stmt:=top 16
abbrev eO:Stmt:=top 17
abbrev ix:Stmt:=top 18
abbrev bS:Stmt:=top 19
abbrev jd:Stmt:=top 20
noncomputable abbrev fO:List Str:=["pairs","mark","reached","at","low","high"]
theorem cF:aB fO ["pairs","mark"] (ah bU):=fsc
abbrev lC:List Str:=["order","one","other"]
theorem fj:aB lC ["order","one","other"] (ah dG):=fsc
abbrev ij:List Str:=["order","turn","one","other"]
theorem dh:aB ij ["order","turn","one","other"] (ah cu):=fsc
abbrev mS:List Str:=["order","one","other"]
theorem gb:aB mS ["order","one","other"] (ah eB):=fsc
abbrev cz:List Str:=["order","row"]
theorem dg:aB cz ["order","row"] (ah bO):=fsc
abbrev aY:List Str:=["order","row"]
theorem bE:aB aY ["order","row"] (ah aH):=fsc
abbrev aS:List Str:=["order","row","plain","rows"]
theorem df:aB aS ["order","row"] (ah bg):=fsc
abbrev oX:List Str:=["_law_cell","_law_sizes","_law_found","_law_size","_law_seed"]
theorem ie:aB oX ["_law_cell","_law_sizes"] (ah fU):=fsc
abbrev dr:List Str:=["_law_xs","_law_amount","_law_alphabet","_law_found","_law_k","_law_rest"]
theorem eY:aB dr ["_law_xs","_law_amount"] (ah cG):=fsc
noncomputable abbrev cR:List Str:=["_law_letters_here","_law_x","_law_found"]
theorem iw:aB cR ["_law_letters_here","_law_x"] (ah cN):=fsc
abbrev qK:List Str:=["_law_order","_law_one","_law_other","_law_found","_law_at","_law_low","_law_high"]
theorem i6:aB qK ["_law_order","_law_one","_law_other"] (ah gR):=fsc
abbrev kC:List Str:=["_law_xs","_law_marks_here","_law_most_here"]
theorem kJ:aB kC ["_law_xs","_law_marks_here","_law_most_here"] (ah gK):=fsc
abbrev mY:List Str:=["_law_order","_law_one","_law_other"]
theorem gc:aB mY ["_law_order","_law_one","_law_other"] (ah eO):=fsc
abbrev rC:List Str:=["_law_order","_law_row_here","_law_found","_law_size","_law_low","_law_high","_law_k"]
theorem jv:aB rC ["_law_order","_law_row_here"] (ah ix):=fsc
abbrev bq:List Str:=["_law_order","_law_row_here","_law_gaps_here","_law_found","_law_mask","_law_kept","_law_ends","_law_told"]
theorem ir:aB bq ["_law_order","_law_row_here"] (ah bS):=fsc
abbrev iK:List Str:=["_law_script","_law_cell","_law_xs","_law_marks_here","_law_pairs","_law_order","_law_row_here","_law_due","_law_found"]
theorem rq:aB iK ["_law_script"] (ah jd):=fsc
structure Txt(mg:Str->Option Value):Prop where
 b_len:mg "len"=none
 b_range:mg "range"=none
 b_sorted:mg "sorted"=none
 b_set:mg "set"=none
 b_tuple:mg "tuple"=none
 b_all:mg "all"=none
 b_any:mg "any"=none
 b_list:mg "list"=none
 b_isinstance:mg "isinstance"=none
set_option hygiene false in
local macro_rules|`(tactic| walk_at "rd")=>`(tactic| simp only[uW,u0,dSU,rY,qY,dDR,uY,w9,uv,vA,yA,xC,dW,dC,uF,nX,zc,ve,vk,dOp,dUn,l7,yJ,og,u5,dCB,uT,zX,yd,vh,zw,t6,nE,yn,yw,lJ,yg,rj,qt,vb,pO,ym,zg,vZ,sV,qW,dDT,uX,u9,zZ,HD.dKr.injEq,sN,HD.dT.injEq,HD.dK.injEq,zR,y8,vN,xj,j0,rJ,dLc,xK,Am,
 sS,wz,sv,sE,sT,sZ,tQ,jP,xo,uC,tU,uJ,tX,zN,zz,xR,xP,yE,zT,rn,xn,xu,vM,xI,wN,xk,v4,xg,wI,xw,wL,zF,zf,ye,zl,xv,vH,zE,yx,yi,qv,rT,pX,pL,zA,yl,yV,zI,zp,yt,yu,zY,zK,sL,oJ,wu,bp,fH,
 eC,List.map_cons,List.map_nil,List.cons_append,List.nil_append,List.length_cons,List.length_nil,List.replicate,List.set_cons_zero,List.set_cons_succ,List.getElem?_cons_zero,List.getElem?_cons_succ,Option.some.injEq,exists_eq_left',exists_eq_left,D.int.injEq,D.bl.injEq,D.str.injEq,D.ref.injEq,D.tup.injEq,D.lst.injEq,true_and,and_true,if_true,decide_eq_true_eq,exists_and_left,Nat.zero_add,Nat.reduceAdd,Nat.reduceSub,zH,ya,rV,zQ,HD.lst.injEq,List.cons.injEq,or_true,true_or,and_self,↓reduceIte,Int.reduceLT,Int.reduceLE,Int.reducePow,Int.reduceNeg,Int.reduceToNat,Nat.reducePow,Nat.reduceLT,Nat.reduceLeDiff,Int.reduceAdd,Int.reduceMul,Int.reduceSub,Bool.false_eq_true,Bool.true_eq_false,if_false])
section
variable{P:Program}{w:World}{K:PySem.W.Frag}{mg:Str->Option Value}{base:Heap}{f:Addr}{fd:FuncData}
def az(x:Str×Str):D:=.tup [.str x.1,.str x.2]
theorem gT{gg:List Str}{v:Int}(h0:0<=v) (h1:v<(gg.length:Int)):∃m∈gg,atI (gg.map D.str) v=some (.str m):=by
 obtain⟨n,rfl⟩:=Int.eq_ofNat_of_zero_le h0;have hn:n<gg.length:=by omega
 exact⟨gg[n],List.getElem_mem hn,aP (by simp[hn])⟩
theorem iB{xs:List D}{n:Nat}:L2.cD xs none (some (n:Int))=xs.take n:=by
 unfold L2.cD;rw[HT.sIx_none,HT.sIx_nat,List.drop_zero,Nat.sub_zero]
 by_cases h:n<=xs.length
 ·rw[Nat.min_eq_left h]
 ·rw[Nat.min_eq_right (by omega),List.take_length,List.take_of_length_le (by omega)]
theorem l5{xs:List D}{n:Nat}:L2.cD xs (some (n:Int)) none=xs.drop n:=by
 unfold L2.cD;rw[HT.sIx_none,HT.sIx_nat]
 by_cases h:n<=xs.length
 ·rw[Nat.min_eq_left h,List.take_of_length_le (by simp)]
 ·rw[Nat.min_eq_right (by omega),Nat.sub_self,List.take_zero,List.drop_of_length_le (by omega)]
theorem bH{lo:Int}{n:Nat}:(iN lo n).length=n:=by simp[iN]
inductive bF (ord:List (Str×Str)) (a:Str):Str->Prop
 |refl:bF ord a a
 |step {b c:Str}:bF ord a b->(b,c)∈ord->bF ord a c
theorem lD{ord:List (Str×Str)}{a x:Str}{L:List Str}(h0:a∈L) (hc:∀y∈ord,y.1∈L->y.2∈L) (h:bF ord a x):x∈L:=by
 induction h with
 |refl=>exact h0
 |step _ hm ih=>exact hc _ hm ih
def cO:SpD:=fun ds M R=>∃(ord:List (Str×Str)) (a:Str),ds=[.tup (ord.map az),.str a]/\ord.length<=500 /\
 ∀L:List Str,a∈L->(∀y∈ord,y.1∈L->y.2∈L)->(∀x∈L,bF ord a x)->L.length<=ord.length+1->R (.lst (L.map .str)) M
abbrev tIn:TSd:=uF (og (l7 (dOp eqF (dW 4) (dOp ixD (dW 2) (dW 3)))) (l7 (dOp (inE true) (dW 5) (dW 2)))) (nE (t6 (dW 2) (dW 5))) nX
theorem dP{q:Addr}{E:dv}{M:DH}(hq:M q=none) (ps:D) (a:Str) (ord:List (Str×Str)) (hord:ord.length<=500) (i:Nat) (L0:List Str) (hi:i<L0.length):∀(todo done:List (Str×Str)) (x4 x5:Option D) (L:List Str),ord=done++todo->(∃t,L=L0++t)->L.Nodup->(∀x∈L,bF ord a x)->(∀x∈L,x∈a::ord.map (·.2))->(∀y∈done,y.1=L0[i]->y.2∈L) ->
  (∀(y4 y5:Option D) (L':List Str),(∃t,L'=L0++t)->L'.Nodup->(∀x∈L',bF ord a x)->(∀x∈L',x∈a::ord.map (·.2))->(∀y∈ord,y.1=L0[i]->y.2∈L')->E.nx [some ps,some (.str a),some (.ref q),some (.int i),y4,y5] (aD M q (.lst (L'.map .str)))) ->
  bu (jt (dN (bR 4) (dN (bR 5) l0)) 2) tIn E (todo.map az) [some ps,some (.str a),some (.ref q),some (.int i),x4,x5] (aD M q (.lst (L.map .str)))
 |[],done,x4,x5,L,ho,ht,hn,hs,hb,hd,k=>by
  simp only[List.map_nil,bu];exact k x4 x5 L ht hn hs hb (by rw[ho,List.append_nil];exact hd)
 |(b,c)::todo,done,x4,x5,L,ho,⟨t,ht⟩,hn,hs,hb,hd,k=>by
  have hiL:i<L.length:=by rw[ht];simp;omega
  have eL:L[i]=L0[i]:=by subst ht;simp[hi]
  have eat:atI (L.map D.str) (i:Int)=some (.str L[i]):=aP (by simp[hiL]);have a7:L.length<=ord.length+1:=by
   have:=bT L (a::ord.map (·.2)) hn hb;simpa using this
  simp only[List.map_cons,az,bu,jt,dN,bR,l0,Option.bind_some];refine⟨_,rfl,?_⟩;walk_at "rd";refine⟨_,eat,?_⟩;walk_at "rd";have ho':ord=(done++[(b,c)])++todo:=by rw[ho];simp
  have hmem:(b,c)∈ord:=by rw[ho];simp
  refine fG (fun h=>?_) (fun h=>?_)
  ·have hbe:b=L0[i]:=by rw[<-eL];simpa using h
   refine⟨_,if_pos ⟨rfl,eP⟩,_,rfl,?_⟩;rw[dM]
   by_cases hc:c∈L
   ·simp only[hc,decide_true,Bool.xor_true,Bool.not_true,Bool.false_eq_true,if_false];exact dP hq ps a ord hord i L0 hi todo (done++[(b,c)]) _ _ L ho' ⟨t,ht⟩ hn hs hb (fun y hy hy1=>by
     rcases List.mem_append.mp hy with h|h
     ·exact hd y h hy1
     ·have:y=(b,c):=by simpa using h
      subst this;exact hc) k
   ·simp only[hc,decide_false,Bool.xor_false,if_true];refine⟨by rw[List.length_map];exact Nat.lt_of_lt_of_le (by omega:L.length<1000) (sz3 1000),?_⟩;have ea:L.map D.str++[D.str c]=(L++[c]).map D.str:=by simp
    rw[ea];refine dP hq ps a ord hord i L0 hi todo (done++[(b,c)]) _ _ (L++[c]) ho' ⟨t++[c],by rw[ht];simp⟩ ?_ (fun x hx=>?_) (fun x hx=>?_) (fun y hy hy1=>?_) k
    ·rw[List.nodup_append];refine⟨hn,by simp,fun u hu v hv=>?_⟩;have:v=c:=by simpa using hv
     subst this;rintro rfl;exact hc hu
    ·rcases List.mem_append.mp hx with h|h
     ·exact hs x h
     ·have:x=c:=by simpa using h
      subst this;exact bF.step (hs b (by rw[hbe,<-eL];exact List.getElem_mem hiL)) hmem
    ·rcases List.mem_append.mp hx with h|h
     ·exact hb x h
     ·have:x=c:=by simpa using h
      subst this;exact List.mem_cons_of_mem _ (List.mem_map.mpr ⟨_,hmem,rfl⟩)
    ·rcases List.mem_append.mp hy with h|h
     ·exact List.mem_append_left _ (hd y h hy1)
     ·have:y=(b,c):=by simpa using h
      subst this;simp
  ·exact dP hq ps a ord hord i L0 hi todo (done++[(b,c)]) _ _ L ho' ⟨t,ht⟩ hn hs hb (fun y hy hy1=>by
    rcases List.mem_append.mp hy with h'|h'
    ·exact hd y h' hy1
    ·have:y=(b,c):=by simpa using h'
     subst this;exact absurd (by rw[eL];simpa using hy1) h) k
theorem eW(F:Fun K "reached_from" "reached_from" bU f fd) (T:Txt mg) :bw P w K mg base CX0 1 f fd ["pairs","mark"] (spD K 2 cO):=by
 have nd:=cF.nd;refine F.okR rfl cF (fun cdv A outer s H E hr=>⟨_,(ak (aV (i:=2) nd rfl (Or.inl rfl) (iE (af (ae 1) am)))
   (ak (aV (i:=3) nd rfl (Or.inl rfl) aj)
   (ak (kn PassesOwn.never (ba vC (ae 3) (aG b0 rfl T.b_len (by kernel_rfl) (af (ae 2) am)) nbh) (ak (eu PassesOwn.never rfl (bB (ae 0)) (uO rfl (jF (b7 (i:=4) nd rfl (Or.inl rfl)) (jF (b7 (i:=5) nd rfl (Or.inl rfl)) uR))) (aq (di (oO (ke (ba (iR hr.units) (ae 4) (bj bo (ae 2) (ae 3) (fun _ _=>rfl)) nbh) (j4 (ba gS (ae 5) (ae 2) rfl)))) (aq (eN (jm (ae 2) (ae 5)))) cf)))
   (aq (zP (i:=3) nd rfl (Or.inl rfl) aj xF))))
   (aq (kB (ae 2)))))),fun ds M R _ hS bk=>?_⟩)
 obtain⟨ord,a,rfl,ho,k⟩:=hS;refine bk ?_;clear bk;walk_at "rd";refine⟨sz3 1,fun q hq=>?_⟩;refine⟨fun m Δ M'=>∃(i:Nat) (L:List Str) (x4 x5:Option D),Δ=[some (D.tup (ord.map az)),some (D.str a),some (D.ref q),some (D.int i),x4,x5]/\M'=aD M q (.lst (L.map .str))/\i<=L.length/\L.Nodup/\a∈L/\(∀x∈L,bF ord a x)/\(∀x∈L,x∈a::ord.map (·.2))/\(∀y∈ord,∀j,j<i->L[j]?=some y.1->y.2∈L)/\m=ord.length+1-i,
  ⟨_,0,[a],none,none,rfl,rfl,Nat.zero_le _,by simp,by simp,fun x hx=>by
   have:x=a:=by simpa using hx
   subst this;exact bF.refl,fun x hx=>by
   have:x=a:=by simpa using hx
   subst this;simp,fun y _ j hj=>absurd hj (by omega),rfl⟩,?_⟩
 intro m Δ M' hI;refine shr fun _ bk=>?_;obtain⟨i,L,x4,x5,rfl,rfl,hiL,hn,ha,hs,hb,hp,rfl⟩:=hI;refine bk ?_;clear bk;have a7:L.length<=ord.length+1:=by
  have:=bT L (a::ord.map (·.2)) hn hb;simpa using this
 walk_at "rd";rw[List.length_map];refine fG (fun h=>?_) (fun h=>?_)
 ·have hi:i<L.length:=by omega
  intro hz;refine dP hq _ a ord ho i L hi ord [] x4 x5 L rfl ⟨[],by simp⟩ hn hs hb (fun y hy=>absurd hy (by simp)) (fun y4 y5 L' hL' hn' hs' hb' hd'=>?_);obtain⟨t,rfl⟩:=hL';walk_at "rd";refine⟨ord.length+1-(i+1),by omega,i+1,L++t,y4,y5,?_,rfl,by simp;omega,hn',List.mem_append_left _ ha,hs',hb',fun y hy j hj hjy=>?_,rfl⟩
  ·simp
  ·by_cases hji:j=i
   ·subst hji;refine hd' y hy ?_;rw[List.getElem?_append_left hi,List.getElem?_eq_getElem hi]at hjy;exact(Option.some.inj hjy).symm
   ·rw[List.getElem?_append_left (by omega)]at hjy;exact List.mem_append_left _ (hp y hy j (by omega) hjy)
 ·rw[fk hq];refine k L ha (fun y hy hy1=>?_) hs a7;obtain⟨j,hj,e⟩:=List.mem_iff_getElem.mp hy1;exact hp y hy j (by omega) (by rw[List.getElem?_eq_getElem hj,e])
def aE(x:Str×Int):D:=.tup [.str x.1,.int x.2]
theorem gG{α:Type}{f:α->D}(hf:∀x y,f x=f y->x=y):∀{xs ys:List α},xs.map f=ys.map f->xs=ys
 |[],[],_=>rfl
 |[],_::_,h=>by simp at h
 |_::_,[],h=>by simp at h
 |x::xs,y::ys,h=>by
  simp only[List.map_cons,List.cons.injEq]at h;rw[hf _ _ h.1,gG hf h.2]
theorem fJ:∀x y,az x=az y->x=y:=fun⟨a,b⟩ ⟨c,d⟩ h=>by simpa[az]using h
def nR(ord:List (Str×Str)) (t:Int) (a b:Str):Prop:=if t % 2=0 then bF ord a b else bF ord b a
open Classical in
def rB(ord:List (Str×Str)) (a b:Str):Bool:=decide (bF ord a b)
open Classical in
def lB(ord:List (Str×Str)) (t:Int) (a b:Str):Bool:=decide (nR ord t a b)
theorem jV{ord:List (Str×Str)}{a b:Str}:rB ord a b=true↔bF ord a b:=by simp[rB]
theorem pP{ord:List (Str×Str)}{t:Int}{a b:Str}:lB ord t a b=true↔nR ord t a b:=by simp[lB]
theorem oa{ord:List (Str×Str)}{t:Int}{a b:Str}(h:t % 2=0):lB ord t a b=rB ord a b:=by rw[Bool.eq_iff_iff,pP,jV,nR,if_pos h]
theorem qj{ord:List (Str×Str)}{t:Int}{a b:Str}(h:¬ t % 2=0):lB ord t a b=rB ord b a:=by rw[Bool.eq_iff_iff,pP,jV,nR,if_neg h]
def dH:SpD:=fun ds M R=>∃(ord:List (Str×Str)) (a b:Str),ds=[.tup (ord.map az),.str a,.str b]/\ord.length<=500/\R (.bl (rB ord a b)) M
def cx:SpD:=fun ds M R=>∃(ord:List (Str×Str)) (t:Int) (a b:Str),ds=[.tup (ord.map az),.int t,.str a,.str b]/\ord.length<=500/\R (.bl (lB ord t a b)) M
def cY:SpD:=fun ds M R=>∃(ord:List (Str×Str)) (x y:Str×Int),ds=[.tup (ord.map az),aE x,aE y]/\ord.length<=500/\R (.bl (x.2+1==y.2&&lB ord x.2 x.1 y.1)) M
theorem iQ{ord:List (Str×Str)}{a b:Str}{M:DH}{R:D->DH->Prop}:dH [.tup (ord.map az),.str a,.str b] M R↔ord.length<=500/\R (.bl (rB ord a b)) M :=
 ⟨fun⟨o,c,d,e,h1,h2⟩=>by
  simp only[List.cons.injEq,D.tup.injEq,D.str.injEq,and_true]at e;obtain⟨e1,e2,e3⟩:=e;rw[gG fJ e1,e2,e3];exact⟨h1,h2⟩,fun h=>⟨ord,a,b,rfl,h⟩⟩
theorem fW{ord:List (Str×Str)}{t:Int}{a b:Str}{M:DH}{R:D->DH->Prop}:cx [.tup (ord.map az),.int t,.str a,.str b] M R↔ord.length<=500/\R (.bl (lB ord t a b)) M :=
 ⟨fun⟨o,u,c,d,e,h1,h2⟩=>by
  simp only[List.cons.injEq,D.tup.injEq,D.str.injEq,D.int.injEq,and_true]at e;obtain⟨e1,e0,e2,e3⟩:=e;rw[gG fJ e1,e0,e2,e3];exact⟨h1,h2⟩,fun h=>⟨ord,t,a,b,rfl,h⟩⟩
theorem jE{ord:List (Str×Str)}{a b:Str}{t u:Int}{M:DH}{R:D->DH->Prop}:cY [.tup (ord.map az),.tup [.str a,.int t],.tup [.str b,.int u]] M R↔ord.length<=500/\R (.bl (t+1==u&&lB ord t a b)) M :=
 ⟨fun⟨o,⟨c,v⟩,⟨d,w⟩,e,h1,h2⟩=>by
  simp only[aE,List.cons.injEq,D.tup.injEq,D.str.injEq,D.int.injEq,and_true]at e;obtain⟨e1,⟨e2,e3⟩,e4,e5⟩:=e;rw[gG fJ e1,e2,e3,e4,e5];exact⟨h1,h2⟩,fun h=>⟨ord,(a,t),(b,u),rfl,h⟩⟩
theorem ku(F:Fun K "at_most" "at_most" dG f fd) (T:Txt mg) (G5:FnD P w K mg base "reached_from" 1 2 cO):bw P w K mg base CX0 2 f fd ["order","one","other"] (spD K 3 dH):=by
 have nd:=fj.nd;refine F.okR rfl fj (fun cdv A outer s H E hr=>⟨_,(aq (cy (kN vo (ae 2) (qd G5 hr (af (ae 0) (af (ae 1) am))) rfl))),fun ds M R _ hS bk=>?_⟩);obtain⟨ord,a,b,rfl,ho,k⟩:=hS;refine bk ?_;clear bk;walk_at "rd";refine⟨ord,a,rfl,ho,fun L h1 h2 h3 h4=>?_⟩;refine⟨_,if_pos ⟨rfl,eP⟩,?_⟩;rw[dM];have e:(false ^^ decide (b∈L))=rB ord a b:=by
  rw[Bool.false_xor,Bool.eq_iff_iff,jV,decide_eq_true_eq];exact⟨fun h=>h3 b h,fun h=>lD h1 h2 h⟩
 rw[e];exact k
theorem gn(F:Fun K "mark_leads" "mark_leads" cu f fd) (T:Txt mg) (G7:FnD P w K mg base "at_most" 2 3 dH):bw P w K mg base CX0 3 f fd ["order","turn","one","other"] (spD K 4 cx):=by
 have nd:=dh.nd;refine F.okR rfl dh (fun cdv A outer s H E hr=>⟨_,(ak (di (ba (iR hr.units) (au bK (ae 1) aj) aj nbh) (aq (cy (qd G7 hr (af (ae 0) (af (ae 2) (af (ae 3) am)))))) cf)
   (aq (cy (qd G7 hr (af (ae 0) (af (ae 3) (af (ae 2) am))))))),fun ds M R _ hS bk=>?_⟩)
 obtain⟨ord,t,a,b,rfl,ho,k⟩:=hS;refine bk ?_;clear bk;walk_at "rd";simp only[iQ];refine fG (fun h=>?_) (fun h=>?_)
 ·have h':t % 2=0:=by simpa using h
  rw[oa h']at k;exact⟨ho,k⟩
 ·have h':¬ t % 2=0:=by simpa using h
  rw[qj h']at k;exact⟨ho,k⟩
theorem kX(F:Fun K "cancel" "cancel" eB f fd) (T:Txt mg) (G6:FnD P w K mg base "mark_leads" 3 4 cx):bw P w K mg base CX0 4 f fd ["order","one","other"] (spD K 3 cY):=by
 have nd:=gb.nd;refine F.okR rfl gb (fun cdv A outer s H E hr=>⟨_,(aq (cy (zB (kN (iR hr.units) (au aO (bj bo (ae 1) aj (fun _ _=>rfl)) aj) (bj bo (ae 2) aj (fun _ _=>rfl)) nbh) (y0 (qd G6 hr (af (ae 0) (af (bj bo (ae 1) aj (fun _ _=>rfl)) (af (bj bo (ae 1) aj (fun _ _=>rfl)) (af (bj bo (ae 2) aj (fun _ _=>rfl)) am))))))))),fun ds M R _ hS bk=>?_⟩);obtain⟨ord,⟨a,t⟩,⟨b,u⟩,rfl,ho,k⟩:=hS;refine bk ?_;clear bk;simp only[aE];walk_at "rd";simp only[fW];refine fG (fun h=>?_) (fun h=>?_)
 ·simp only[h,Bool.true_and]at k;exact⟨ho,k⟩
 ·simp only[h,Bool.false_and]at k;exact k
theorem aR{α:Type}{g:GD}{tc:TTd}{te:TEd}{M:DH}{Q:List D->DH->Prop}(enc:α->D) (b:α->Bool) (y:α->D) (Ok:DE->Prop):∀(xs:List α) (Δ:DE) (acc:List D),
  (∀x∈xs,∀ Δ,Ok Δ->∃ Δ',g (enc x) Δ=some Δ'/\Ok Δ'/\(∀Q1:Bool->DH->Prop,Q1 (b x) M->tc Δ' M Q1)/\(b x=true->∀Q2:D->DH->Prop,Q2 (y x) M->te Δ' M Q2))->Ok Δ ->
  Q (acc++(xs.filter b).map y) M->cH g tc te (xs.map enc) Δ M acc Q
 |[],Δ,acc,_,_,q=>by simpa[cH]using q
 |x::xs,Δ,acc,h,hΔ,q=>by
  rw[List.map_cons];simp only[cH];obtain⟨Δ',e,hΔ',h1,h2⟩:=h x (.head _) Δ hΔ;refine⟨Δ',e,h1 _ ?_⟩;have ih:=fun acc' q'=>aR (Q:=Q) enc b y Ok xs Δ' acc' (fun z hz=>h z (.tail _ hz)) hΔ' q';cases hb:b x with
  |true =>
   simp only[if_true];refine h2 hb _ (ih _ ?_);rw[List.filter_cons_of_pos hb]at q;simpa using q
  |false =>
   simp only[Bool.false_eq_true,if_false];refine ih _ ?_;rw[List.filter_cons_of_neg (by simp[hb])]at q;exact q
theorem gE{α:Type} [DecidableEq α] (f:α->D) (hf:∀x y,eqD (f x) (f y)=decide (x=y)):∀{a b:List α},cA (a.map f) (b.map f)=decide (a=b)
 |[],[]=>by simp[cA]
 |[],_::_=>by simp[cA]
 |_::_,[]=>by simp[cA]
 |x::a,y::b=>by
  rw[List.map_cons,List.map_cons,cA,gE f hf (a:=a) (b:=b),hf];simp
theorem ft{α:Type}(f:α->D) (hf:∀x,dLe (f x) 59=true) {a:List α}:cE (a.map f) 59=true:=by
 rw[gO];intro d hd;obtain⟨x,_,rfl⟩:=List.mem_map.mp hd;exact hf x
theorem sY{α:Type} [DecidableEq α] (f:α->D) (hf:∀x y,eqD (f x) (f y)=decide (x=y)) (hl:∀x,dLe (f x) 59=true) {a b:List α}:eqF (.lst (a.map f)) (.lst (b.map f))=some (.bl (decide (a=b))):=by
 have h1:dLe (.lst (a.map f)) 60=true:=ft f hl;have h2:dLe (.lst (b.map f)) 60=true:=ft f hl;simp only[eqF,h1,h2,and_self,if_true,eqD,gE f hf]
def cB(ord:List (Str×Str)) (x y:Str×Int):Bool:=x.2+1==y.2&&lB ord x.2 x.1 y.1
theorem lE{ord:List (Str×Str)}{x y:Str×Int}{M:DH}{R:D->DH->Prop}:cY [.tup (ord.map az),aE x,aE y] M R↔ord.length<=500/\R (.bl (cB ord x y)) M:=jE (a:=x.1) (b:=y.1) (t:=x.2) (u:=y.2)
def sg(row:List (Str×Int)) (i:Nat):Str×Int:=row.getD i ("",0)
theorem iJ{row:List (Str×Int)}{i:Nat}(h:i<row.length):atI (row.map aE) (i:Int)=some (aE (sg row i)):=by
 refine aP ?_;rw[List.getElem?_map,List.getElem?_eq_getElem h];simp[sg,h]
inductive Gp {T:Type}(c:T->T->Bool):List T->Prop
 |nil:Gp c []
 |step {a b:T} {xs ys:List T}:c a b=true->Gp c xs->Gp c ys->Gp c (a::(xs++b::ys))
inductive Kp {T:Type}(c:T->T->Bool):List T->List T->Prop
 |nil {g:List T}:Gp c g->Kp c g []
 |cons {t:T} {g r ts:List T}:Gp c g->Kp c r ts->Kp c (g++t::r) (t::ts)
def Cn{T:Type}(c:T->T->Bool) (r s:List T):Prop:=∃xs a b ys,r=xs++a::b::ys/\c a b=true/\s=xs++ys
def Rt{T:Type}(c:T->T->Bool):Nat->List T->List T->Prop
 |0,r,s=>r=s
 |n+1,r,s=>∃m,Rt c n r m/\Cn c m s
section
variable{T:Type}{c:T->T->Bool}
theorem jx{α:Type}{p q xs ys:List α}(h:p++q=xs++ys):(∃z,p=xs++z/\ys=z++q)∨∃z,xs=p++z/\q=z++ys:=by
 rcases List.append_eq_append_iff.mp h with⟨z,h1,h2⟩|⟨z,h1,h2⟩
 ·exact .inr ⟨z,h1,h2⟩
 ·exact .inl ⟨z,h1,h2⟩
theorem Gp.ins{a b:T}(hc:c a b=true):∀{g:List T},Gp c g->∀xs ys,g=xs++ys->Gp c (xs++a::b::ys):=by
 intro g hg
 induction hg with
 |nil =>
  intro xs ys e;obtain⟨rfl,rfl⟩:=List.append_eq_nil_iff.mp e.symm;exact Gp.step (xs:=[]) (ys:=[]) hc .nil .nil
 |@step u v p q huv hp hq ihp ihq =>
  intro xs ys e;cases xs with
  |nil =>
   rw[List.nil_append]at e ⊢;rw[<-e];exact Gp.step (xs:=[]) hc .nil (.step huv hp hq)
  |cons x xs =>
   rw[List.cons_append]at e;obtain⟨rfl,e1⟩:=List.cons.inj e;rcases jx e1 with⟨z,rfl,rfl⟩|⟨z,rfl,e2⟩
   ·have:=Gp.step huv (ihp xs z rfl) hq;simpa using this
   ·cases z with
    |nil =>
     rw[List.nil_append]at e2;subst e2;have:=Gp.step huv (ihp p [] (by simp)) hq;simpa using this
    |cons y z =>
     rw[List.cons_append]at e2;obtain⟨rfl,e3⟩:=List.cons.inj e2;have:=Gp.step huv hp (ihq z ys e3);simpa using this
theorem Kp.ins{a b:T}(hc:c a b=true):∀{r told:List T},Kp c r told->∀xs ys,r=xs++ys->Kp c (xs++a::b::ys) told:=by
 intro r told h
 induction h with
 |nil hg=>intro xs ys e;exact .nil (hg.ins hc xs ys e)
 |@cons t g r ts hg hr ih =>
  intro xs ys e;rcases jx e with⟨z,rfl,rfl⟩|⟨z,rfl,e2⟩
  ·have:=Kp.cons (t:=t) (hg.ins hc xs z rfl) hr;simpa using this
  ·cases z with
   |nil =>
    rw[List.nil_append]at e2;subst e2;have:=Kp.cons (t:=t) (hg.ins hc g [] (by simp)) hr;simpa using this
   |cons y z =>
    rw[List.cons_append]at e2;obtain⟨rfl,e3⟩:=List.cons.inj e2;have:=Kp.cons (t:=t) hg (ih z ys e3);simpa using this
theorem Kp.self:∀r:List T,Kp c r r
 |[]=>.nil .nil
 |t::r=>Kp.cons (g:=[]) .nil (Kp.self r)
theorem Rt.kp:∀{n:Nat}{r m told:List T},Rt c n r m->Kp c m told->Kp c r told
 |0,r,m,told,h,k=>by cases h;exact k
 |n+1,r,m,told,⟨m',h1,xs,a,b,ys,e1,hc,e2⟩,k=>by
  subst e1;exact h1.kp (k.ins hc xs ys e2)
theorem Rt.trans:∀{n m:Nat}{r s t:List T},Rt c n r s->Rt c m s t->Rt c (n+m) r t
 |n,0,r,s,t,h1,h2=>by cases h2;exact h1
 |n,m+1,r,s,t,h1,⟨x,h2,h3⟩=>⟨x,Rt.trans h1 h2,h3⟩
theorem Rt.ctx(xs ys:List T):∀{n:Nat}{r s:List T},Rt c n r s->Rt c n (xs++r++ys) (xs++s++ys)
 |0,r,s,h=>by cases h;rfl
 |n+1,r,s,⟨m,h1,us,a,b,vs,e1,hc,e2⟩=>⟨_,Rt.ctx xs ys h1,xs++us,a,b,vs++ys,by rw[e1];simp,hc,by rw[e2];simp⟩
theorem Gp.rt{g:List T}(h:Gp c g):∃n,Rt c n g []:=by
 induction h with
 |nil=>exact⟨0,rfl⟩
 |@step a b p q hc hp hq ihp ihq =>
  obtain⟨n,h1⟩:=ihp;obtain⟨m,h2⟩:=ihq;have r1:=h1.ctx [a] (b::q);have r2:Rt c 1 ([a]++[]++b::q) q:=⟨_,rfl,[],a,b,q,rfl,hc,rfl⟩;have e:a::(p++b::q)=[a]++p++b::q:=by simp
  exact⟨_,e▸(r1.trans r2).trans h2⟩
theorem Kp.rt{r told:List T}(h:Kp c r told):∃n,Rt c n r told:=by
 induction h with
 |nil hg=>exact hg.rt
 |@cons t g r ts hg hr ih =>
  obtain⟨n,h1⟩:=hg.rt;obtain⟨m,h2⟩:=ih;have r1:=h1.ctx [] (t::r);have r2:=h2.ctx [t] [];rw[List.append_nil,List.append_nil]at r2;exact⟨n+m,Rt.trans (s:=t::r) (by simpa using r1) (by simpa using r2)⟩
theorem vT{r told:List T}:(∃n,Rt c n r told)↔Kp c r told:=⟨fun⟨_,h⟩=>h.kp (Kp.self told),Kp.rt⟩
theorem Cn.len{r s:List T}(h:Cn c r s):r.length=s.length+2:=by
 obtain⟨xs,a,b,ys,rfl,_,rfl⟩:=h;simp;omega
theorem Rt.len:∀{n:Nat}{r s:List T},Rt c n r s->r.length=s.length+2*n
 |0,_,_,h=>by cases h;rfl
 |n+1,_,_,⟨m,h1,h2⟩=>by have:=h1.len;have:=h2.len;omega
def KpP(c:T->T->Bool) (row:List T) (lo:Nat):List Nat->Prop
 |[]=>Gp c (row.drop lo)
 |p::ps=>lo<=p/\p<row.length/\Gp c ((row.drop lo).take (p-lo))/\KpP c row (p+1) ps
theorem ic{row:List T}{lo p:Nat}{x:T}(h1:lo<=p) (hx:row[p]?=some x):row.drop lo=(row.drop lo).take (p-lo)++x::row.drop (p+1):=by
 have lt:p<row.length:=(List.getElem?_eq_some_iff.mp hx).1;have e:row.drop p=x::row.drop (p+1):=by
  rw[List.drop_eq_getElem_cons lt];rw[List.getElem?_eq_getElem lt]at hx;rw[Option.some.inj hx]
 have e2:row.drop lo=(row.drop lo).take (p-lo)++(row.drop lo).drop (p-lo):=(List.take_append_drop _ _).symm;rw[List.drop_drop,show lo+(p-lo)=p by omega,e]at e2;exact e2
theorem KpP.kp{row:List T}:∀{ps:List Nat}{lo:Nat},KpP c row lo ps->∀told,told.map some=ps.map (row[·]?)->Kp c (row.drop lo) told
 |[],lo,h,told,e=>by
  have:told=[]:=by simpa using e
  subst this;exact .nil h
 |p::ps,lo,⟨h1,h2,h3,h4⟩,told,e=>by
  cases told with
  |nil=>simp at e
  |cons t told =>
   simp only[List.map_cons,List.cons.injEq]at e;rw[ic h1 e.1.symm];exact .cons h3 (KpP.kp h4 told e.2)
theorem Kp.places{row:List T}{r told:List T}(h:Kp c r told):∀lo,r=row.drop lo->lo<=row.length->∃ps,KpP c row lo ps/\told.map some=ps.map (row[·]?)/\ps.Pairwise (·<·)/\∀p∈ps,lo<=p/\p<row.length:=by
 induction h with
 |nil hg=>intro lo e _;exact⟨[],by subst e;exact hg,rfl,.nil,fun _ z=>by cases z⟩
 |@cons t g r ts hg hr ih =>
  intro lo e hlo;have hx:row[lo+g.length]?=some t:=by
   have:(row.drop lo)[g.length]?=some t:=by rw[<-e];simp
   rwa [List.getElem?_drop]at this
  have lt:=(List.getElem?_eq_some_iff.mp hx).1;have er:r=row.drop (lo+g.length+1):=by
   have:=congrArg (List.drop (g.length+1)) e;rw[List.drop_drop]at this;rw[show lo+g.length+1=lo+(g.length+1)by omega,<-this,List.drop_append,List.drop_of_length_le (by omega)];simp
  obtain⟨ps,h1,h2,h3,h4⟩:=ih _ er (by omega);refine⟨(lo+g.length)::ps,⟨by omega,lt,?_,h1⟩,?_,?_,?_⟩
  ·have:=congrArg (List.take g.length) e;rw[List.take_left]at this;rw[show lo+g.length-lo=g.length by omega,<-this];exact hg
  ·simp only[List.map_cons,hx,h2]
  ·rw[List.pairwise_cons];exact⟨fun p hp=>by have:=(h4 p hp).1;omega,h3⟩
  ·intro p hp;rcases List.mem_cons.mp hp with rfl|hp
   ·exact⟨by omega,lt⟩
   ·have:=h4 p hp;omega
theorem ot(f:Nat->Bool):∀n,∃m,m<2 ^ n/\∀k,k<n->(m / 2 ^ k % 2=1↔f k=true)
 |0=>⟨0,by simp,fun k h=>by omega⟩
 |n+1=>by
  obtain⟨m,h1,h2⟩:=ot f n;have p2:2 ^ (n+1)=2*2 ^ n:=by rw[Nat.pow_succ];omega
  cases hf:f n with
  |false =>
   refine⟨m,by omega,fun k hk=>?_⟩;rcases Nat.lt_or_ge k n with q|q
   ·exact h2 k q
   ·obtain rfl:k=n:=by omega
    rw[Nat.div_eq_of_lt h1,hf];simp
  |true =>
   refine⟨2 ^ n+m,by omega,fun k hk=>?_⟩;rcases Nat.lt_or_ge k n with q|q
   ·rw[<-h2 k q];have e:2 ^ n=2 ^ k*(2*2 ^ (n-k-1)):=by
     rw[<-Nat.mul_assoc,<-Nat.pow_succ,<-Nat.pow_add];congr 1;omega
    rw[e,Nat.mul_add_div (Nat.two_pow_pos k),Nat.mul_add_mod]
   ·obtain rfl:k=n:=by omega
    rw[Nat.add_div_left _ (Nat.two_pow_pos k),Nat.div_eq_of_lt h1,hf];simp
theorem oH{n:Nat}{ps:List Nat}(h1:ps.Pairwise (·<·)) (h2:∀p∈ps,p<n):(List.range n).filter (fun k=>decide (k∈ps))=ps:=by
 have hp:((List.range n).filter (fun k=>decide (k∈ps))).Pairwise (·<·):=List.pairwise_lt_range.sublist List.filter_sublist;refine List.Perm.eq_of_pairwise (le:=(·<·)) (fun a b _ _ x y=>by omega) hp h1 ?_;rw[List.perm_iff_count];intro a;have n1:((List.range n).filter (fun k=>decide (k∈ps))).Nodup:=hp.imp fun h=>by omega
 have n2:ps.Nodup:=h1.imp fun h=>by omega
 rw[n1.count,n2.count];have:a∈(List.range n).filter (fun k=>decide (k∈ps))↔a∈ps:=by
  rw[List.mem_filter,List.mem_range,decide_eq_true_eq];exact⟨fun h=>h.2,fun h=>⟨h2 a h,h⟩⟩
 simp only[this]
end
abbrev z8:TSd:=uF (og (l7 (dOp eqF (dW 5) (dOp ixD (dW 3) (dW 4)))) (l7 (dOp (inE true) (dW 6) (dW 3)))) (nE (t6 (dW 3) (dW 6))) nX
theorem eQ{q:Addr}{E:dv}{M:DH}(hq:M q=none) (ps oth:D) (a:Str) (ord:List (Str×Str)) (hord:ord.length<=500) (i:Nat) (L0:List Str) (hi:i<L0.length):∀(todo done:List (Str×Str)) (x4 x5:Option D) (L:List Str),ord=done++todo->(∃t,L=L0++t)->L.Nodup->(∀x∈L,bF ord a x)->(∀x∈L,x∈a::ord.map (·.2))->(∀y∈done,y.1=L0[i]->y.2∈L) ->
  (∀(y4 y5:Option D) (L':List Str),(∃t,L'=L0++t)->L'.Nodup->(∀x∈L',bF ord a x)->(∀x∈L',x∈a::ord.map (·.2))->(∀y∈ord,y.1=L0[i]->y.2∈L')->E.nx [some ps,some (.str a),some oth,some (.ref q),some (.int i),y4,y5] (aD M q (.lst (L'.map .str)))) ->
  bu (jt (dN (bR 5) (dN (bR 6) l0)) 2) z8 E (todo.map az) [some ps,some (.str a),some oth,some (.ref q),some (.int i),x4,x5] (aD M q (.lst (L.map .str)))
 |[],done,x4,x5,L,ho,ht,hn,hs,hb,hd,k=>by
  simp only[List.map_nil,bu];exact k x4 x5 L ht hn hs hb (by rw[ho,List.append_nil];exact hd)
 |(b,c)::todo,done,x4,x5,L,ho,⟨t,ht⟩,hn,hs,hb,hd,k=>by
  have hiL:i<L.length:=by rw[ht];simp;omega
  have eL:L[i]=L0[i]:=by subst ht;simp[hi]
  have eat:atI (L.map D.str) (i:Int)=some (.str L[i]):=aP (by simp[hiL]);have a7:L.length<=ord.length+1:=by
   have:=bT L (a::ord.map (·.2)) hn hb;simpa using this
  simp only[List.map_cons,az,bu,jt,dN,bR,l0,Option.bind_some];refine⟨_,rfl,?_⟩;walk_at "rd";refine⟨_,eat,?_⟩;walk_at "rd";have ho':ord=(done++[(b,c)])++todo:=by rw[ho];simp
  have hmem:(b,c)∈ord:=by rw[ho];simp
  refine fG (fun h=>?_) (fun h=>?_)
  ·have hbe:b=L0[i]:=by rw[<-eL];simpa using h
   refine⟨_,if_pos ⟨rfl,eP⟩,_,rfl,?_⟩;rw[dM]
   by_cases hc:c∈L
   ·simp only[hc,decide_true,Bool.xor_true,Bool.not_true,Bool.false_eq_true,if_false];exact eQ hq ps oth a ord hord i L0 hi todo (done++[(b,c)]) _ _ L ho' ⟨t,ht⟩ hn hs hb (fun y hy hy1=>by
     rcases List.mem_append.mp hy with h|h
     ·exact hd y h hy1
     ·have:y=(b,c):=by simpa using h
      subst this;exact hc) k
   ·simp only[hc,decide_false,Bool.xor_false,if_true];refine⟨by rw[List.length_map];exact Nat.lt_of_lt_of_le (by omega:L.length<1000) (sz3 1000),?_⟩;have ea:L.map D.str++[D.str c]=(L++[c]).map D.str:=by simp
    rw[ea];refine eQ hq ps oth a ord hord i L0 hi todo (done++[(b,c)]) _ _ (L++[c]) ho' ⟨t++[c],by rw[ht];simp⟩ ?_ (fun x hx=>?_) (fun x hx=>?_) (fun y hy hy1=>?_) k
    ·rw[List.nodup_append];refine⟨hn,by simp,fun u hu v hv=>?_⟩;have:v=c:=by simpa using hv
     subst this;rintro rfl;exact hc hu
    ·rcases List.mem_append.mp hx with h|h
     ·exact hs x h
     ·have:x=c:=by simpa using h
      subst this;exact bF.step (hs b (by rw[hbe,<-eL];exact List.getElem_mem hiL)) hmem
    ·rcases List.mem_append.mp hx with h|h
     ·exact hb x h
     ·have:x=c:=by simpa using h
      subst this;exact List.mem_cons_of_mem _ (List.mem_map.mpr ⟨_,hmem,rfl⟩)
    ·rcases List.mem_append.mp hy with h|h
     ·exact List.mem_append_left _ (hd y h hy1)
     ·have:y=(b,c):=by simpa using h
      subst this;simp
  ·exact eQ hq ps oth a ord hord i L0 hi todo (done++[(b,c)]) _ _ L ho' ⟨t,ht⟩ hn hs hb (fun y hy hy1=>by
    rcases List.mem_append.mp hy with h'|h'
    ·exact hd y h' hy1
    ·have:y=(b,c):=by simpa using h'
     subst this;exact absurd (by rw[eL];simpa using hy1) h) k
def lX:SpD:=fun ds M R=>∃(ord:List (Str×Str)) (a b:Str),ds=[.tup (ord.map az),.str a,.str b]/\ord.length<=500/\R (.bl (rB ord a b)) M
theorem oB(F:Fun K "_law_most" "_law_most" gR f fd) (T:Txt mg) :bw P w K mg base CX0 1 f fd ["_law_order","_law_one","_law_other"] (spD K 3 lX):=by
 have nd:=i6.nd;refine F.okR rfl i6 (fun cdv A outer s H E hr=>⟨_,(ak (aV (i:=3) nd rfl (Or.inl rfl) (iE (af (ae 1) am)))
   (ak (aV (i:=4) nd rfl (Or.inl rfl) aj)
   (ak (kn PassesOwn.never (ba vC (ae 4) (aG b0 rfl T.b_len (by kernel_rfl) (af (ae 3) am)) nbh) (ak (eu PassesOwn.never rfl (bB (ae 0)) (uO rfl (jF (b7 (i:=5) nd rfl (Or.inl rfl)) (jF (b7 (i:=6) nd rfl (Or.inl rfl)) uR))) (aq (di (oO (ke (ba (iR hr.units) (ae 5) (bj bo (ae 3) (ae 4) (fun _ _=>rfl)) nbh) (j4 (ba gS (ae 6) (ae 3) rfl)))) (aq (eN (jm (ae 3) (ae 6)))) cf)))
   (aq (aV (i:=4) nd rfl (Or.inl rfl) (au aO (ae 4) aj)))))
   (aq (mq (kN vo (ae 2) (ae 3) rfl)))))),fun ds M R _ hS bk=>?_⟩)
 obtain⟨ord,a,b,rfl,ho,k⟩:=hS;refine bk ?_;clear bk;walk_at "rd";refine⟨sz3 1,fun q hq=>?_⟩;refine⟨fun m Δ M'=>∃(i:Nat) (L:List Str) (x4 x5:Option D),Δ=[some (D.tup (ord.map az)),some (D.str a),some (D.str b),some (D.ref q),some (D.int i),x4,x5]/\M'=aD M q (.lst (L.map .str))/\i<=L.length/\L.Nodup/\a∈L/\(∀x∈L,bF ord a x)/\(∀x∈L,x∈a::ord.map (·.2))/\(∀y∈ord,∀j,j<i->L[j]?=some y.1->y.2∈L)/\m=ord.length+1-i,
  ⟨_,0,[a],none,none,rfl,rfl,Nat.zero_le _,by simp,by simp,fun x hx=>by
   have:x=a:=by simpa using hx
   subst this;exact bF.refl,fun x hx=>by
   have:x=a:=by simpa using hx
   subst this;simp,fun y _ j hj=>absurd hj (by omega),rfl⟩,?_⟩
 rintro m Δ M' ⟨i,L,x4,x5,rfl,rfl,hiL,hn,ha,hs,hb,hp,rfl⟩;have a7:L.length<=ord.length+1:=by
  have:=bT L (a::ord.map (·.2)) hn hb;simpa using this
 walk_at "rd";rw[List.length_map];refine fG (fun h=>?_) (fun h=>?_)
 ·have hi:i<L.length:=by omega
  intro hz;refine eQ hq _ _ a ord ho i L hi ord [] x4 x5 L rfl ⟨[],by simp⟩ hn hs hb (fun y hy=>absurd hy (by simp)) (fun y4 y5 L' hL' hn' hs' hb' hd'=>?_);obtain⟨t,rfl⟩:=hL';walk_at "rd";refine⟨ord.length+1-(i+1),by omega,i+1,L++t,y4,y5,?_,rfl,by simp;omega,hn',List.mem_append_left _ ha,hs',hb',fun y hy j hj hjy=>?_,rfl⟩
  ·simp
  ·by_cases hji:j=i
   ·subst hji;refine hd' y hy ?_;rw[List.getElem?_append_left hi,List.getElem?_eq_getElem hi]at hjy;exact(Option.some.inj hjy).symm
   ·rw[List.getElem?_append_left (by omega)]at hjy;exact List.mem_append_left _ (hp y hy j (by omega) hjy)
 ·have hin:(b∈L)↔bF ord a b:=⟨hs b,fun h=>lD ha (fun y hy hy1=>by
   obtain⟨j,hj,e⟩:=List.mem_iff_getElem.mp hy1;exact hp y hy j (by omega) (by rw[List.getElem?_eq_getElem hj,e])) h⟩
  refine⟨_,if_pos ⟨rfl,eP⟩,M,tT hq,?_⟩;rw[dM,Bool.false_xor];have e:decide (b∈L)=rB ord a b:=by rw[Bool.eq_iff_iff,decide_eq_true_eq,jV];exact hin
  rw[e];exact k
theorem nQ{α:Type} [DecidableEq α] (f:α->D) (hf:∀x y,eqD (f x) (f y)=decide (x=y)) (hl:∀x,dLe (f x) 59=true) {a b:List α}:neF (.lst (a.map f)) (.lst (b.map f))=some (.bl (!decide (a=b))):=by
 have h1:dLe (.lst (a.map f)) 60=true:=ft f hl;have h2:dLe (.lst (b.map f)) 60=true:=ft f hl;simp only[neF,h1,h2,and_self,if_true,eqD,gE f hf]
def eF:SpD:=fun ds M R=>∃(ord:List (Str×Str)) (x y:Str×Int),ds=[.tup (ord.map az),aE x,aE y]/\ord.length<=500/\R (.bl (cB ord x y)) M
theorem kW(F:Fun K "_law_cancel" "_law_cancel" eO f fd) (T:Txt mg) (G9:FnD P w K mg base "_law_most" 1 3 lX):bw P w K mg base CX0 2 f fd ["_law_order","_law_one","_law_other"] (spD K 3 eF):=by
 have nd:=gc.nd;refine F.okR rfl gc (fun cdv A outer s H E hr=>⟨_,(ak (di (ba (wc hr.units) (bj bo (ae 2) aj (fun _ _=>rfl)) (au aO (bj bo (ae 1) aj (fun _ _=>rfl)) aj) nbh) (aq (cy pG)) cf)
   (ak (di (ba (iR hr.units) (au bK (bj bo (ae 1) aj (fun _ _=>rfl)) aj) aj nbh) (aq (cy (qd G9 hr (af (ae 0) (af (bj bo (ae 1) aj (fun _ _=>rfl)) (af (bj bo (ae 2) aj (fun _ _=>rfl)) am)))))) cf)
   (aq (cy (qd G9 hr (af (ae 0) (af (bj bo (ae 2) aj (fun _ _=>rfl)) (af (bj bo (ae 1) aj (fun _ _=>rfl)) am)))))))),fun ds M R _ hS bk=>?_⟩)
 obtain⟨ord,x,y,rfl,ho,k⟩:=hS;refine bk ?_;clear bk;simp only[aE];walk_at "rd"
 by_cases h:y.2=x.2+1
 ·rw[if_neg (by simp[h])];have e0:cB ord x y=lB ord x.2 x.1 y.1:=by simp[cB,h]
  rw[e0]at k;refine fG (fun h2=>?_) (fun h2=>?_)
  ·rw[oa (beq_iff_eq.mp h2)]at k;exact⟨ord,_,_,rfl,ho,k⟩
  ·rw[qj (fun q=>h2 (by rw[q];rfl))]at k;exact⟨ord,_,_,rfl,ho,k⟩
 ·rw[if_pos (by simp[h])];have e0:cB ord x y=false:=by
   have:(x.2+1==y.2)=false:=by simpa using fun q:x.2+1=y.2=>h q.symm
   simp only[cB,this,Bool.false_and]
  rw[e0]at k;exact k
theorem Aa{M:DH}{p q:Addr}{a b:HD}(h1:M p=none) (h2:M q=none):LeM M (aD (aD M p a) q b):=fun c o e=>by
 unfold aD
 split
 ·rename_i z;rw[z,h2]at e;cases e
 ·split
  ·rename_i z;rw[z,h1]at e;cases e
  ·exact e
def oG(n:Nat) (xs:List Int):Prop:=xs.length=n/\∀x∈xs,0<=x/\x<720720
theorem oG.snoc{n:Nat}{xs:List Int}{x:Int}(h:oG n xs) (h0:0<=x) (h1:x<720720):oG (n+1) (xs++[x]):=by
 refine⟨by rw[List.length_append,h.1];rfl,fun y hy=>?_⟩;rcases List.mem_append.mp hy with q|q
 ·exact h.2 y q
 ·have:y=x:=by simpa using q
  subst this;exact⟨h0,h1⟩
theorem xA{cs:List Nat}{c:Nat}:((cs.map fun c=>D.str (tx [c])).any fun d=>eqD d (.str (tx [c])))=decide (c∈cs):=by
 rw[Bool.eq_iff_iff,List.any_map,List.any_eq_true,decide_eq_true_eq];constructor
 ·rintro⟨e,he,h⟩;have:tx [e]=tx [c]:=by simpa[eqD]using h
  have h2:=congrArg (fun z:Str=>z.cps.toList) this;simp only[ni]at h2;obtain rfl:e=c:=by simpa using h2
  exact he
 ·intro h;exact⟨c,h,by simp[eqD]⟩
theorem qR{cs:List Nat}(h:cs.length<26):0<(gz.filter fun c=>!decide (c∈cs)).length:=by
 rw[List.length_pos_iff];intro e;have h2:gz.length<=cs.length:=bT gz cs (by decide) fun c hc=>by
  rw[List.filter_eq_nil_iff]at e;simpa using e c hc
 have:gz.length=26:=by decide
 omega
theorem oU{a b:Prop} [Decidable a] [Decidable b] {P Q:Prop}(h1:P) (h2:Q):if a then P else if b then P else Q:=by
 split
 ·exact h1
 ·split
  ·exact h1
  ·exact h2
def ju:SpD:=fun ds M R=>∃(c:Int) (n:Nat),ds=[.int c,.lst ((List.replicate n (720720:Int)).map D.int)]/\n<=500/\∀xs,oG n xs->R (.lst (xs.map D.int)) M
theorem m6(F:Fun K "_law_parts" "_law_parts" fU f fd) (T:Txt mg) :bw P w K mg base CX0 1 f fd ["_law_cell","_law_sizes"] (spD K 2 ju):=by
 have nd:=ie.nd;refine F.okR rfl ie (fun cdv A outer s H E hr=>⟨_,(ak (aV (i:=2) nd rfl (Or.inl rfl) (iE am))
   (fq (ak (di (oO (n9 (ba vC (ae 0) aj nbh) (mW (ba Av (ae 0) (au yv aj aj) nbh)))) (fq (ak (eu PassesOwn.never rfl (bB (ae 1)) (b7 (i:=3) nd rfl (Or.inl rfl)) (ak (eN (jm (ae 2) (au bK (ae 0) (ae 3))))
   (aq (aV (i:=0) nd rfl (Or.inl rfl) (au eA (ae 0) (ae 3))))))
   (fq (aq (kB (ae 2)))))) cf)
   (fq (ak (aV (i:=4) nd rfl (Or.inl rfl) (au aO (au bK (ae 0) aj) aj))
   (fq (ak (eu PassesOwn.never rfl (bB (ae 1)) (b7 (i:=3) nd rfl (Or.inl rfl)) (ak (aV (i:=4) nd rfl (Or.inl rfl) (au bK (au aO (au iD (ae 4) aj) aj) aj))
   (aq (eN (jm (ae 2) (au bK (au eA (au bK (au iD (ae 4) aj) aj) aj) (ae 3)))))))
   (fq (aq (kB (ae 2))))))))))),fun ds M R _ hS bk=>?_⟩)
 obtain⟨c,n,rfl,hn,k⟩:=hS;refine bk ?_;clear bk;walk_at "rd";refine⟨sz3 0,fun p hp=>cm ?_⟩;walk_at "rd";refine oU (cm ?_) (cm ?_)
 ·walk_at "rd";intro hz;refine bD (fun i Δ M'=>∃(c':Int) (acc:List Int) (x3:Option D),Δ=[some (D.int c'),some (D.lst (List.map D.int (List.replicate n 720720))),some (D.ref p),x3,none]/\M'=aD M p (.lst (acc.map D.int))/\oG i acc) ⟨c,[],none,rfl,rfl,rfl,fun _ h=>by cases h⟩ ?_ ?_
  ·rintro i d Δ M' X hd ⟨c',acc,x3,rfl,rfl,hN⟩ k';obtain⟨x,hx,rfl⟩:=fb hd;obtain rfl:x=720720:=List.eq_of_mem_replicate (List.mem_of_getElem? hx);have hi:i<n:=by have:=(List.getElem?_eq_some_iff.mp hx).1;simpa using this
   simp only[bR];walk_at "rd";refine⟨?_,k' _ _ ⟨_,acc++[c' % 720720],_,rfl,by rw[List.map_append];rfl,hN.snoc (by omega) (by omega)⟩⟩;rw[List.length_map,hN.1];exact Nat.lt_of_lt_of_le (by omega:i<1000) (sz3 1000)
  ·rintro Δ M' ⟨c',acc,x3,rfl,rfl,hN⟩;refine cm ?_;walk_at "rd";rw[fk hp];rw[List.length_map,List.length_replicate]at hN;exact k acc hN
 ·walk_at "rd";refine cm ?_;walk_at "rd";intro hz;refine bD (fun i Δ M'=>∃(sd:Int) (acc:List Int) (x3:Option D),Δ=[some (D.int c),some (D.lst (List.map D.int (List.replicate n 720720))),some (D.ref p),x3,some (D.int sd)]/\M'=aD M p (.lst (acc.map D.int))/\oG i acc/\0<=sd/\sd<2147483700) ⟨_,[],none,rfl,rfl,⟨rfl,fun _ h=>by cases h⟩,by omega,by omega⟩ ?_ ?_
  ·rintro i d Δ M' X hd ⟨sd,acc,x3,rfl,rfl,hN,s0,s1⟩ k';obtain⟨x,hx,rfl⟩:=fb hd;obtain rfl:x=720720:=List.eq_of_mem_replicate (List.mem_of_getElem? hx);have hi:i<n:=by have:=(List.getElem?_eq_some_iff.mp hx).1;simpa using this
   refine⟨_,rfl,?_⟩;walk_at "rd";refine⟨?_,k' _ _ ⟨_,acc++[(sd*69069+12345) % 2147483587*40503 % 2147483563 / 11 % 720720],_,rfl,by rw[List.map_append];rfl,hN.snoc (by omega) (by omega),by omega,by omega⟩⟩;rw[List.length_map,hN.1];exact Nat.lt_of_lt_of_le (by omega:i<1000) (sz3 1000)
  ·rintro Δ M' ⟨sd,acc,x3,rfl,rfl,hN,s0,s1⟩;refine cm ?_;walk_at "rd";rw[fk hp];rw[List.length_map,List.length_replicate]at hN;exact k acc hN
def fY:SpD:=fun ds M R=>∃(xs:List Int) (n:Nat),ds=[.lst (xs.map D.int),.int n]/\n<=xs.length/\n<=10/\(∀x∈xs,0<=x/\x<720720)/\∀cs:List Nat,cs.length=n->cs.Nodup->(∀c∈cs,c∈gz)->R (.lst (cs.map fun c=>D.str (tx [c]))) M
theorem j6(F:Fun K "_law_letters" "_law_letters" cG f fd) (T:Txt mg) :bw P w K mg base CX0 1 f fd ["_law_xs","_law_amount"] (spD K 2 fY):=by
 have nd:=eY.nd;refine F.okR rfl eY (fun cdv A outer s H E hr=>⟨_,(ak (aV (i:=2) nd rfl (Or.inl rfl) zU)
   (ak (aV (i:=3) nd rfl (Or.inr rfl) (iE am))
   (fq (ak (eu PassesOwn.never rfl (bX rfl T.b_range (af (ae 1) am)) (b7 (i:=4) nd rfl (Or.inl rfl)) (ak (fB (i:=5) nd rfl rfl rfl (ms:=[false,false,false,true,false,false]) (ai:=["_law_sign"]) (aF rfl (show aM (ah cG) dr _ _=true from by decide +kernel)) rfl (bB (ae 2)) (aQ (i:=6) (show(dr++_).Nodup from by decide +kernel) rfl rfl) (fun _ _ _ _=>(jL (ba gS (ae 6) (ae 3) rfl))) (fun _ _ _ _=>(ae 6)))
   (fq (aq (eN (jm (ae 3) (bj bo (ae 5) (au bK (bj bo (ae 0) (ae 4) (fun _ _=>rfl)) (aG b0 rfl T.b_len (by kernel_rfl) (af (ae 5) am))) (fun _ _=>rfl))))))))
   (fq (aq (kB (ae 3)))))))),fun ds M R _ hS bk=>?_⟩)
 obtain⟨xs,n,rfl,hn,hn10,hx,k⟩:=hS;refine bk ?_;clear bk;walk_at "rd";refine⟨sz3 0,fun p hp=>cm ?_⟩;walk_at "rd";rw[Int.toNat_natCast];refine⟨by omega,by omega,?_⟩;refine bD (fun i Δ M'=>∃(cs:List Nat) (x4 x5:Option D),Δ=[some (D.lst (xs.map D.int)),some (D.int n),some (D.str abc),some (D.ref p),x4,x5]/\M'=aD M p (.lst (cs.map fun c=>D.str (tx [c])))/\cs.length=i/\cs.Nodup/\∀c∈cs,c∈gz) ⟨[],none,none,rfl,rfl,rfl,List.nodup_nil,fun _ h=>by cases h⟩ ?_ ?_
 ·rintro i d Δ M' X hd ⟨cs,x4,x5,rfl,rfl,hl,hnd,hab⟩ k';obtain⟨hi,rfl⟩:=bZ hd;refine⟨_,rfl,?_⟩;walk_at "rd";refine⟨_,if_pos (by rw[pN,rP];exact sz3 _),fun hz=>⟨hz,?_⟩⟩;rw[oA];refine aR (fun(c:Nat)=>D.str (tx [c])) (fun c=>!decide (c∈cs)) (fun c=>D.str (tx [c])) (fun Δ=>∃x,Δ=[none,none,none,some (D.ref p),none,none,x]) gz _ _ (fun c hc Δ hΔ=>?_) ⟨none,rfl⟩ ?_
  ·obtain⟨x,rfl⟩:=hΔ;refine⟨_,rfl,⟨_,rfl⟩,fun Q1 q=>?_,fun _ Q2 q=>?_⟩
   ·walk_at "rd";refine⟨_,if_pos ⟨rfl,by rw[List.all_map,List.all_eq_true];intro _ _;rfl⟩,_,rfl,?_⟩;rw[xA,Bool.true_xor];exact q
   ·walk_at "rd";exact q
  rw[List.nil_append];have hne:=qR (by omega:cs.length<26);have hin:∀c∈gz.filter (fun c=>!decide (c∈cs)),c∈gz/\c∉cs:=fun c hc=>by
   have:=List.mem_filter.mp hc;exact⟨this.1,by simpa using this.2⟩
  generalize gz.filter (fun c=>!decide (c∈cs))=ay at hne hin;refine cm ?_;walk_at "rd";rw[Int.zero_add];obtain⟨x,hx'⟩:∃x,xs[i]?=some x:=⟨_,List.getElem?_eq_getElem (by omega)⟩;have hx2:=hx x (List.mem_of_getElem? hx');have hm0:0<=x % (ay.length:Int):=Int.emod_nonneg _ (by omega);have hm1:x % (ay.length:Int)<(ay.length:Int):=Int.emod_lt_of_pos _ (by omega);obtain⟨v,hv⟩:∃v:Nat,x % (ay.length:Int)=(v:Int):=⟨_,(Int.toNat_of_nonneg hm0).symm⟩;have hvl:v<ay.length:=by omega
  refine⟨_,aP (by rw[List.getElem?_map,hx'];rfl),?_⟩;walk_at "rd";rw[List.length_map];refine⟨_,if_pos (by omega),?_⟩;walk_at "rd";rw[hv];have hr:=hin ay[v] (List.getElem_mem _);refine⟨_,aP (by rw[List.getElem?_map,List.getElem?_eq_getElem hvl];rfl),?_,k' _ _ ⟨cs++[ay[v]],_,_,rfl,by rw[List.map_append];rfl,by rw[List.length_append,hl];rfl,?_,fun c hc=>?_⟩⟩
  ·rw[List.length_map];exact Nat.lt_of_lt_of_le (by omega:cs.length<1000) (sz3 1000)
  ·rw[List.nodup_append];refine⟨hnd,by simp,fun u hu w hw=>?_⟩;obtain rfl:w=ay[v]:=by simpa using hw
   rintro rfl;exact hr.2 hu
  ·rcases List.mem_append.mp hc with z|z
   ·exact hab c z
   ·obtain rfl:c=ay[v]:=by simpa using z
    exact hr.1
 ·rintro Δ M' ⟨cs,x4,x5,rfl,rfl,hl,hnd,hab⟩;refine cm ?_;walk_at "rd";rw[fk hp];rw[bH]at hl;exact k cs hl hnd hab
theorem nF{c:Nat}{n:Int}(h0:0<=n) (h1:n<=100):j8 (.str (tx [c])) (.int n)=some (.str (Txt.mul (tx [c]) n)):=by
 have l:(tx [c]).length=1:=by rw[rP];rfl
 simp only[j8];rw[if_pos ⟨by omega,by omega,by omega,by rw[l];omega⟩]
def jb:SpD:=fun ds M R=>∃(cs:List Nat) (x:Int),ds=[.lst (cs.map fun c=>D.str (tx [c])),.int x]/\cs.length=3/\0<=x/\x<720720/\∀ms:List Str,1<=ms.length->ms.length<=3->R (.lst (ms.map D.str)) M
theorem qM{ms:List Str}{x:Int}(h:0<=x):L2.cD (ms.map D.str) none (some (1+x % 3))=(ms.take (1+x % 3).toNat).map D.str:=by
 obtain⟨n,e⟩:∃n:Nat,1+x % 3=(n:Int):=⟨(1+x % 3).toNat,by omega⟩;rw[e,iB,Int.toNat_natCast,List.map_take]
theorem mn(F:Fun K "_law_marks" "_law_marks" cN f fd) (T:Txt mg) :bw P w K mg base CX0 1 f fd ["_law_letters_here","_law_x"] (spD K 2 jb):=by
 have nd:=iw.nd;refine F.okR rfl iw (fun cdv A outer s H E hr=>⟨_,(ak (fB (i:=2) nd rfl rfl rfl (ms:=[false,true,false]) (ai:=["_law_sign"]) (aF rfl (show aM (ah cN) cR _ _=true from by decide +kernel)) rfl (bB (ae 0)) (aQ (i:=3) (show(cR++_).Nodup from by decide +kernel) rfl rfl) (fun _ _ _ _=>cb) (fun _ _ _ _=>(au iD (ae 3) (au aO aj (au bK (au eA (ae 1) aj) aj)))))
   (ak (di (ba (iR hr.units) (au bK (au eA (ae 1) aj) aj) aj nbh) (aq (fB (i:=2) nd rfl rfl rfl (ms:=[true,true,false]) (ai:=["_law_k"]) (aF rfl (show aM (ah cN) cR _ _=true from by decide +kernel)) rfl (bX rfl T.b_range (af (aG b0 rfl T.b_len (by kernel_rfl) (af (ae 0) am)) am)) (aQ (i:=3) (show(cR++_).Nodup from by decide +kernel) rfl rfl) (fun _ _ _ _=>cb) (fun _ _ _ _=>(au iD (bj bo (ae 0) aj (fun _ _=>rfl)) (au aO (au aO aj (ae 3)) (au bK (au eA (ae 1) aj) aj)))))) cf)
   (aq (cy (b6 (ae 2) c0 (ck (au aO aj (au bK (ae 1) aj)))))))),fun ds M R _ hS bk=>?_⟩)
 obtain⟨cs,x,rfl,hl,h0,h1,k⟩:=hS;refine bk ?_;clear bk;walk_at "rd";have fin:∀ms:List Str,ms.length=3->R (D.lst (L2.cD (ms.map D.str) none (some (1+x % 3)))) M:=fun ms h=>by
  rw[qM h0];exact k _ (by rw[List.length_take];omega) (by rw[List.length_take];omega)
 intro hz;refine⟨hz,ff (fun i acc Δ M'=>M'=M/\(∃y,Δ=[none,some (.int x),none,y])/\∃ms:List Str,acc=ms.map D.str/\ms.length=i) ⟨rfl,⟨none,rfl⟩,[],rfl,rfl⟩ ?_ ?_⟩
 ·rintro i d acc Δ M' X hd ⟨rfl,⟨y,rfl⟩,ms,rfl,hm⟩ k';obtain⟨c,hc,rfl⟩:=fb hd;refine⟨_,rfl,?_⟩;simp only[mZ];walk_at "rd";exact⟨_,nF (by omega) (by omega),k' _ _ _ ⟨rfl,⟨_,rfl⟩,ms++[Txt.mul (tx [c]) (1+x / 3 % 8)],by rw[List.map_append];rfl,by rw[List.length_append,hm];rfl⟩⟩
 ·rintro acc Δ M' ⟨rfl,⟨y,rfl⟩,ms,rfl,hm⟩;rw[List.length_map,hl]at hm;refine fG (fun hb=>?_) (fun _=>fin ms hm);rw[List.length_map,hl];refine⟨by omega,by omega,by rw[bH];exact szB _ (by decide),ff (fun i acc Δ M2=>M2=M'/\(∃y,Δ=[some (.lst (cs.map fun c=>D.str (tx [c]))),some (.int x),none,y])/\∃ms:List Str,acc=ms.map D.str/\ms.length=i) ⟨rfl,⟨none,rfl⟩,[],rfl,rfl⟩ ?_ ?_⟩
  ·rintro i d acc Δ M' X hd ⟨rfl,⟨y,rfl⟩,ms,rfl,hm⟩ k';obtain⟨hi,rfl⟩:=bZ hd;have hi3:i<3:=by simpa using hi
   have h00:atI (cs.map fun c=>D.str (tx [c])) ((0:Nat):Int)=some (D.str (tx [cs[0]])):=aP (by rw[List.getElem?_map,List.getElem?_eq_getElem (by omega)];rfl);refine⟨_,rfl,?_⟩;simp only[mZ];walk_at "rd";refine⟨_,h00,?_⟩;walk_at "rd";exact⟨_,nF (by omega) (by omega),k' _ _ _ ⟨rfl,⟨_,rfl⟩,ms++[_],by rw[List.map_append];rfl,by rw[List.length_append,hm];rfl⟩⟩
  ·rintro acc Δ M' ⟨rfl,⟨y,rfl⟩,ms,rfl,hm⟩;rw[bH]at hm;exact fin ms (by simpa using hm)
def nJ:SpD:=fun ds M R=>∃(xs:List Int) (ms:List Str),ds=[.lst (xs.map D.int),.lst (ms.map D.str),.int 10]/\xs.length=14/\(∀x∈xs,0<=x/\x<720720)/\1<=ms.length/\∀row:List (Str×Int),row.length<=10->R (.tup (row.map aE)) M
theorem qI(F:Fun K "_law_row" "_law_row" gK f fd) (T:Txt mg) :bw P w K mg base CX0 1 f fd ["_law_xs","_law_marks_here","_law_most_here"] (spD K 3 nJ):=by
 have nd:=kJ.nd;refine F.okR rfl kJ (fun cdv A outer s H E hr=>⟨_,(aq (cy (fD jW rfl T.b_tuple (by kernel_rfl) (af (jO (ms:=[false,true,false]) (ai:=["_law_x"]) (aF rfl (show aM (ah gK) kC _ _=true from by decide +kernel)) rfl (bB (b6 (ae 0) (ck aj) (ck (au aO aj (au bK (bj bo (ae 0) aj (fun _ _=>rfl)) (au aO (ae 2) aj)))))) (aQ (i:=3) (show(kC++_).Nodup from by decide +kernel) rfl rfl) (fun _ _ _ _=>cb) (fun _ _ _ _=>(rg (af (bj bo (ae 1) (au bK (ae 3) (aG b0 rfl T.b_len (by kernel_rfl) (af (ae 1) am))) (fun _ _=>rfl)) (af (au lQ (au bK (au eA (ae 3) aj) aj) aj) am))))) am)))),fun ds M R _ hS bk=>?_⟩);obtain⟨xs,ms,rfl,hl,hx,hm,k⟩:=hS;obtain⟨x0,h0⟩:∃x,xs[0]?=some x:=⟨_,List.getElem?_eq_getElem (by omega)⟩;refine bk ?_;clear bk;have hx0:=hx x0 (List.mem_of_getElem? h0);walk_at "rd";refine⟨_,(show atI (xs.map D.int) ((0:Nat):Int)=some (D.int x0)from aP (by rw[List.getElem?_map,h0];rfl)),?_⟩;walk_at "rd";obtain⟨n,en⟩:∃n:Nat,1+x0 % 11=((n+1:Nat):Int):=⟨(x0 % 11).toNat,by omega⟩;have ec:L2.cD (xs.map D.int) (some 1) (some (1+x0 % 11))=((xs.take (n+1)).drop 1).map D.int:=by
  rw[en];unfold L2.cD;rw[show(1:Int)=((1:Nat):Int)from rfl,HT.sIx_nat,HT.sIx_nat,Nat.min_eq_left (by rw[List.length_map];omega),Nat.min_eq_left (by rw[List.length_map];omega),List.map_drop,List.map_take,List.drop_take]
 rw[ec];have lt:((xs.take (n+1)).drop 1).length=n:=by rw[List.length_drop,List.length_take];omega
 have hn:n<=10:=by omega
 intro hz;refine⟨hz,ff (fun i acc Δ M'=>M'=M/\(∃y,Δ=[none,some (.lst (ms.map D.str)),none,y])/\∃row:List (Str×Int),acc=row.map aE/\row.length=i) ⟨rfl,⟨none,rfl⟩,[],rfl,rfl⟩ ?_ ?_⟩
 ·rintro i d acc Δ M' X hd ⟨rfl,⟨y,rfl⟩,row,rfl,hr'⟩ k';obtain⟨x,hx',rfl⟩:=fb hd;have hxx:=hx x (List.mem_of_mem_take (List.mem_of_mem_drop (List.mem_of_getElem? hx')));obtain⟨m,_,hm'⟩:=gT (gg:=ms) (v:=x % (ms.length:Int)) (Int.emod_nonneg _ (by omega)) (Int.emod_lt_of_pos _ (by omega));refine⟨_,rfl,?_⟩;simp only[mZ];walk_at "rd";rw[List.length_map];refine⟨_,if_pos (by omega),?_⟩;walk_at "rd";exact⟨_,hm',sz3 2,k' _ _ _ ⟨rfl,⟨_,rfl⟩,row++[(m,x / 8 % 4-1)],by rw[List.map_append];rfl,by rw[List.length_append,hr'];rfl⟩⟩
 ·rintro acc Δ M' ⟨rfl,⟨y,rfl⟩,row,rfl,hr'⟩;rw[List.length_map,lt]at hr';exact k row (by omega)
def seg(row:List (Str×Int)) (b e:Nat):List (Str×Int):=(row.drop b).take (e-b)
open Classical in
def gB(ord:List (Str×Str)) (l:List (Str×Int)):Bool:=decide (Gp (cB ord) l)
theorem eI{ord:List (Str×Str)}{l:List (Str×Int)}:gB ord l=true↔Gp (cB ord) l:=by simp[gB]
theorem pW{row:List (Str×Int)}{i:Nat}(h:i<row.length):row[i]?=some (sg row i):=by simp[sg,h]
theorem fL{row:List (Str×Int)}{b k e:Nat}(h1:b<=k) (h2:k<e) (h3:e<=row.length):seg row b e=seg row b k++sg row k::seg row (k+1) e:=by
 unfold seg;rw[ic h1 (pW (by omega)),List.take_append,List.length_take,List.length_drop,List.take_take,Nat.min_eq_right (by omega),show min (k-b) (row.length-b)=k-b by omega,show e-b-(k-b)=(e-(k+1))+1 by omega,List.take_succ_cons,List.take_append];have:(List.take (k-b) (row.drop b)).length=k-b:=by rw[List.length_take,List.length_drop];omega
 rw[this,Nat.sub_self,List.take_zero,List.append_nil,List.take_take,Nat.min_self]
theorem lg{row:List (Str×Int)}{b:Nat}:seg row b b=[]:=by simp[seg]
theorem nL{row:List (Str×Int)}{b e:Nat}(h:e<=row.length):(seg row b e).length=e-b:=by unfold seg;rw[List.length_take,List.length_drop];omega
theorem wt{c:Str×Int->Str×Int->Bool}{row:List (Str×Int)}{b e:Nat}(h1:b<e) (h2:e<=row.length):Gp c (seg row b e)↔∃k,b<k/\k<e/\Gp c (seg row (b+1) k)/\Gp c (seg row (k+1) e)/\c (sg row b) (sg row k)=true:=by
 have e0:seg row b e=sg row b::seg row (b+1) e:=by rw[fL (Nat.le_refl b) h1 h2,lg,List.nil_append]
 constructor
 ·intro h;rw[e0]at h;generalize hx:sg row b=x at h;generalize hg:seg row (b+1) e=g at h;cases h with
  |@step _ y xs ys hc hp hq =>
   have hl:(seg row (b+1) e).length=xs.length+1+ys.length:=by rw[hg];simp;omega
   rw[nL h2]at hl;have sp:=fL (row:=row) (b:=b+1) (k:=b+1+xs.length) (e:=e) (by omega) (by omega) h2;rw[hg]at sp;have l1:(seg row (b+1) (b+1+xs.length)).length=xs.length:=by rw[nL (by omega)];omega
   obtain⟨z1,z2⟩:=List.append_inj sp l1.symm;obtain⟨z3,z4⟩:=List.cons.inj z2;exact⟨b+1+xs.length,by omega,by omega,by rw[<-z1];exact hp,by rw[<-z4];exact hq,by rw[<-z3];exact hc⟩
 ·rintro⟨k,k1,k2,k3,k4,k5⟩;rw[e0,fL (b:=b+1) (k:=k) (by omega) k2 h2];exact .step k5 k3 k4
theorem ql{a b c d:Nat}:([Sum.inl (a:Int),Sum.inl (b:Int)]:List Key)=[Sum.inl (c:Int),Sum.inl (d:Int)]↔a=c/\b=d:=by
 simp only[List.cons.injEq,Sum.inl.injEq,and_true];omega
def AU(ord:List (Str×Str)) (row:List (Str×Int)) (tb:List (List Key×D)):Prop:=∀b e:Nat,b<=e->e<=row.length->cj tb [.inl (b:Int),.inl (e:Int)]=some (.bl (gB ord (seg row b e)))
def kT:SpD:=fun ds M R=>∃(ord:List (Str×Str)) (row:List (Str×Int)),ds=[.tup (ord.map az),.tup (row.map aE)]/\ord.length<=500/\row.length<=10/\∀q tb,M q=none->AU ord row tb->R (.ref q) (aD M q (.dT tb))
theorem pD(F:Fun K "_law_gaps" "_law_gaps" ix f fd) (T:Txt mg) (G4:FnD P w K mg base "_law_cancel" 2 3 eF):bw P w K mg base CX0 3 f fd ["_law_order","_law_row_here"] (spD K 2 kT):=by
 have nd:=jv.nd;refine F.okR rfl jv (fun cdv A outer s H E hr=>⟨_,(ak (aV (i:=2) nd rfl (Or.inl rfl) Ak)
   (ak (eu PassesOwn.never rfl (bX rfl T.b_range (af (au aO (aG b0 rfl T.b_len (by kernel_rfl) (af (ae 1) am)) aj) am)) (b7 (i:=3) nd rfl (Or.inl rfl)) (aq (eu PassesOwn.never rfl (bX rfl T.b_range (af (au lQ (au aO (aG b0 rfl T.b_len (by kernel_rfl) (af (ae 1) am)) aj) (ae 3)) am)) (b7 (i:=4) nd rfl (Or.inl rfl)) (ak (aV (i:=5) nd rfl (Or.inl rfl) (au aO (ae 4) (ae 3)))
   (ak (qD hr.units1 (ae 2) (af (ae 4) (af (ae 5) am)) (kN (iR hr.units) (ae 3) aj nbh))
   (aq (eu PassesOwn.never rfl (uy rfl T.b_range (af (au aO (ae 4) aj) (af (ae 5) am))) (b7 (i:=6) nd rfl (Or.inl rfl)) (aq (di (oO (ke (cV (jY hr.units1 (ae 2) (af (au aO (ae 4) aj) (af (ae 6) am)) (fun _ _=>rfl))) (ke (cV (jY hr.units1 (ae 2) (af (au aO (ae 6) aj) (af (ae 5) am)) (fun _ _=>rfl))) (j4 (cV (qd G4 hr (af (ae 0) (af (bj bo (ae 1) (ae 4) (fun _ _=>rfl)) (af (bj bo (ae 1) (ae 6) (fun _ _=>rfl)) am))))))))) (aq (qD hr.units1 (ae 2) (af (ae 4) (af (ae 5) am)) pG)) cf)))))))))
   (aq (cy (ae 2))))),fun ds M R _ hS bk=>?_⟩)
 obtain⟨ord,row,rfl,ho,hl,k⟩:=hS;refine bk ?_;clear bk;walk_at "rd";intro q hq;rw[List.length_map];refine⟨by omega,by omega,?_⟩;rw[show((row.length:Int)+1).toNat=row.length+1 by omega];refine bD (fun i Δ M'=>∃(tb:List (List Key×D)) (x3 x4 x5 x6:Option D),Δ=[some (D.tup (ord.map az)),some (D.tup (row.map aE)),some (D.ref q),x3,x4,x5,x6]/\M'=aD M q (.dT tb)/\(∀b e:Nat,b<=e->e<=row.length->e<b+i->cj tb [.inl (b:Int),.inl (e:Int)]=some (.bl (gB ord (seg row b e))))/\tb.length<=1000*i)
  ⟨[],_,_,_,_,rfl,rfl,fun b e _ _ h=>by omega,Nat.zero_le _⟩ ?_ ?_
 ·rintro i d Δ M' X hd ⟨tb,x3,x4,x5,x6,rfl,rfl,hT,htl⟩ k';obtain⟨hi,rfl⟩:=bZ hd;simp only[bR,Int.zero_add];walk_at "rd";rw[List.length_map];refine⟨by omega,by omega,?_⟩;rw[show((row.length:Int)+1-(i:Int)).toNat=row.length+1-i by omega];refine bD (fun m Δ M'=>∃(tb:List (List Key×D)) (x4 x5 x6:Option D),Δ=[some (D.tup (ord.map az)),some (D.tup (row.map aE)),some (D.ref q),some (D.int i),x4,x5,x6]/\M'=aD M q (.dT tb)/\(∀b e:Nat,b<=e->e<=row.length->(e<b+i∨(e=b+i/\b<m))->cj tb [.inl (b:Int),.inl (e:Int)]=some (.bl (gB ord (seg row b e))))/\tb.length<=1000*i+20*m)
   ⟨tb,_,_,_,rfl,rfl,fun b e h1 h2 h3=>hT b e h1 h2 (by omega),by omega⟩ ?_ ?_
  ·rintro m d Δ M' X2 hd2 ⟨tb,x4,x5,x6,rfl,rfl,hT,htl⟩ k2;obtain⟨hm,rfl⟩:=bZ hd2;simp only[bR,Int.zero_add];walk_at "rd";refine⟨sz3 2,Nat.lt_of_lt_of_le (by omega:tb.length<16000000) (szB 16000000),_,_,⟨rfl,rfl⟩,⟨by omega,by omega,by omega,by omega⟩,?_⟩;have eh:(m:Int)+(i:Int)=((m+i:Nat):Int):=by omega
   have e1:(m:Int)+1=((m+1:Nat):Int):=by omega
   rw[eh,e1,show(((m+i:Nat):Int)-((m+1:Nat):Int)).toNat=i-1 by omega];have hmi:m+i<=row.length:=by omega
   refine bD (fun j Δ M'=>∃(tb':List (List Key×D)) (x6:Option D) (y:Bool),Δ=[some (D.tup (ord.map az)),some (D.tup (row.map aE)),some (D.ref q),some (D.int i),some (D.int m),some (D.int ((m+i:Nat):Int)),x6]/\M'=aD M q (.dT tb')/\(∀b e:Nat,¬ (b=m/\e=m+i)->cj tb' [.inl (b:Int),.inl (e:Int)]=cj tb [.inl (b:Int),.inl (e:Int)])/\cj tb' [.inl (m:Int),.inl ((m+i:Nat):Int)]=some (.bl y)/\(y=true↔i=0∨∃k,m<k/\k<m+1+j/\Gp (cB ord) (seg row (m+1) k)/\Gp (cB ord) (seg row (k+1) (m+i))/\cB ord (sg row m) (sg row k)=true)/\tb'.length<=1000*i+20*m+1+j)
    ⟨_,_,_,rfl,rfl,fun b e h=>by rw[eV,if_neg (fun z=>h (ql.mp z))],by rw[eV,if_pos rfl],⟨fun z=>.inl (by simpa using z),fun z=>?_⟩,Nat.le_trans (gj _ _ _) (by omega)⟩ ?_ ?_
   ·rcases z with z|⟨k,k1,k2,_⟩
    ·simp[z]
    ·omega
   ·rintro j d Δ M' X3 hd3 ⟨tb',x6,y,rfl,rfl,hO,hY,hy,a7⟩ k3;obtain⟨hj,rfl⟩:=bZ hd3;have e2:((m+1:Nat):Int)+(j:Int)=((m+1+j:Nat):Int):=by omega
    have e3:((m+1+j:Nat):Int)+1=((m+1+j+1:Nat):Int):=by omega
    have g1:=(hO (m+1) (m+1+j) (by omega)).trans (hT (m+1) (m+1+j) (by omega) (by omega) (by omega));have g2:=(hO (m+1+j+1) (m+i) (by omega)).trans (hT (m+1+j+1) (m+i) (by omega) (by omega) (by omega));simp only[bR];rw[e2];walk_at "rd";rw[e1,e3];have no:¬ (Gp (cB ord) (seg row (m+1) (m+1+j))/\Gp (cB ord) (seg row (m+1+j+1) (m+i))/\cB ord (sg row m) (sg row (m+1+j))=true)->X3 [some (D.tup (ord.map az)),some (D.tup (row.map aE)),some (D.ref q),some (D.int i),some (D.int m),some (D.int ((m+i:Nat):Int)),some (D.int ((m+1+j:Nat):Int))] (aD M q (.dT tb')):=fun hn =>
     k3 _ _ ⟨tb',_,y,rfl,rfl,hO,hY,by
      rw[hy];constructor
      ·rintro(z|⟨k,k1,k2,k3⟩)
       ·exact .inl z
       ·exact .inr ⟨k,k1,by omega,k3⟩
      ·rintro(z|⟨k,k1,k2,k3⟩)
       ·exact .inl z
       ·by_cases e:k=m+1+j
        ·subst e;exact absurd k3 hn
        ·exact .inr ⟨k,k1,by omega,k3⟩,by omega⟩
    refine⟨sz3 2,_,g1,_,rfl,fG (fun h1=>⟨sz3 2,_,g2,_,rfl,fG (fun h2=>⟨_,iJ (by omega),_,iJ (by omega),ord,_,_,rfl,ho,_,rfl,fG (fun h3=>⟨sz3 2,tb',bp,Nat.lt_of_lt_of_le (by omega:tb'.length<16000000) (szB 16000000),?_⟩) (fun h3=>no fun z=>h3 z.2.2)⟩) (fun h2=>no fun z=>h2 (eI.mpr z.2.1))⟩) (fun h1=>no fun z=>h1 (eI.mpr z.1))⟩;rw[fH];refine k3 _ _ ⟨_,_,true,rfl,rfl,fun b e h=>?_,by rw[eV,if_pos rfl],⟨fun _=>.inr ⟨m+1+j,by omega,by omega,eI.mp h1,eI.mp h2,h3⟩,fun _=>rfl⟩,Nat.le_trans (gj _ _ _) (by omega)⟩;rw[eV,if_neg (fun z=>h (ql.mp z))];exact hO b e h
   ·rintro Δ M' ⟨tb',x6,y,rfl,rfl,hO,hY,hy,a7⟩;rw[bH]at hy a7;refine k2 _ _ ⟨tb',_,_,_,rfl,rfl,fun b e h1 h2 h3=>?_,by omega⟩
    by_cases c:b=m/\e=m+i
    ·obtain⟨rfl,rfl⟩:=c;rw[hY];congr 2;rw[Bool.eq_iff_iff,hy,eI]
     by_cases i0:i=0
     ·subst i0;simp only[Nat.add_zero,lg,true_or,true_iff];exact .nil
     ·rw[wt (by omega) hmi];constructor
      ·rintro(z|⟨k,k1,k2,k3⟩)
       ·exact absurd z i0
       ·exact⟨k,k1,by omega,k3⟩
      ·rintro⟨k,k1,k2,k3⟩;exact .inr ⟨k,k1,by omega,k3⟩
    ·rw[hO b e c];exact hT b e h1 h2 (by omega)
  ·rintro Δ M' ⟨tb,x4,x5,x6,rfl,rfl,hT,htl⟩;rw[bH]at hT htl;exact k' _ _ ⟨tb,_,_,_,_,rfl,rfl,fun b e h1 h2 h3=>hT b e h1 h2 (by omega),by omega⟩
 ·rintro Δ M' ⟨tb,x3,x4,x5,x6,rfl,rfl,hT,htl⟩;rw[bH]at hT;walk_at "rd";exact k q tb hq fun b e h1 h2=>hT b e h1 h2 (by omega)
abbrev Sg:=Str×Int
def kS(x:Sg):KD:=.tup [.str x.1,.int x.2]
def kR(r:List Sg):List KD:=r.map kS
theorem nk{r:List Sg}:bP (kR r)=.tup (r.map aE):=by
 unfold bP kR;rw[gH,List.map_map];congr 1
theorem wb:∀{x y:Sg},kS x=kS y->x=y:=fun {x y} h=>by
 obtain⟨a,b⟩:=x;obtain⟨c,d⟩:=y;simpa[kS]using h
theorem iq{a b:List Sg}(h:kR a=kR b):a=b:=(List.map_inj_right fun _ _ h=>wb h).mp h
theorem pK{r:List Sg}{n:Nat}:dpK (n+2) (.tup (kR r)):=by
 intro k hk;obtain⟨x,_,rfl⟩:=List.mem_map.mp hk;intro j hj;simp only[List.mem_cons,List.not_mem_nil,or_false]at hj;rcases hj with rfl|rfl
 ·cases n<;>trivial
 ·cases n<;>trivial
theorem rE:∀{a b:List Sg},Cms (kR a) (kR b)
 |[],_=>by simp[kR,Cms]
 |_::_,[]=>by simp[kR,Cms]
 |x::a,y::b=>by
  have ih:=rE (a:=a) (b:=b);simp only[kR,List.map_cons,Cms,kS,Cm,and_true]at ih ⊢;simpa[kS]using ih
theorem mj{rs:List (List Sg)}:Rws (rs.map kR):=⟨fun k hk=>by
 obtain⟨r,_,rfl⟩:=List.mem_map.mp hk;exact pK,fun a ha b hb=>by
 obtain⟨r,_,rfl⟩:=List.mem_map.mp ha;obtain⟨s,_,rfl⟩:=List.mem_map.mp hb;exact rE⟩
theorem oQ{rs qs:List (List Sg)}(h1:rs.Nodup) (h2:qs.Nodup) (e:∀t,t∈rs↔t∈qs):rs.Perm qs:=by
 rw[List.perm_iff_count];intro a;rw[h1.count,h2.count];simp only[e a]
theorem fX{rs qs:List (List Sg)}(h1:rs.Nodup) (h2:qs.Nodup) (e:∀t,t∈rs↔t∈qs):aN (rs.map kR)=aN (qs.map kR):=gd ((oQ h1 h2 e).map kR)
theorem jH:∀{ks:List (List KD)},(∀k∈ks,∃r,k=kR r)->∃rs:List (List Sg),ks=rs.map kR
 |[],_=>⟨[],rfl⟩
 |k::ks,h=>by
  obtain⟨r,rfl⟩:=h k (.head _);obtain⟨rs,rfl⟩:=jH fun k hk=>h k (.tail _ hk);exact⟨r::rs,rfl⟩
theorem pe{rs:List (List Sg)}:(rs.map kR).map bP=rs.map fun r=>D.tup (r.map aE):=by
 rw[List.map_map];exact List.map_congr_left fun r _=>nk
def plB(ord:List (Str×Str)) (t:List Sg):Bool:=(List.range (t.length-1)).all fun i=>!cB ord (sg t i) (sg t (i+1))
theorem wj{CX:CXT}{P:Program}{w:World}{K:PySem.W.Frag}{mg:Str->Option Value}{base:Heap}{N:List Str}{qual:Str}{scope:Scope}{f:Addr}{cd:Value}{A:Around}{outer:List Env}{s:Shared}{H:Hp}{E:XK}:(jQ CX P w K mg base N qual scope f cd A outer s H E).w=w:=rfl
def cc(k:Nat):D:=.int (k:Int)
theorem fE{n:Nat}:iN 0 n=(List.range n).map cc:=by
 unfold iN cc;refine List.map_congr_left fun i _=>?_;rw[Int.zero_add]
def kpt(n mask:Nat):List Nat:=(List.range n).filter fun k=>mask / 2 ^ k % 2==1
theorem vB{i k:Nat}:((i:Int) / 2 ^ k % 2==1)=(i / 2 ^ k % 2==1):=by
 have e:(i:Int) / 2 ^ k % 2=((i / 2 ^ k % 2:Nat):Int):=by simp
 rw[e,Bool.eq_iff_iff];simp only[beq_iff_eq];omega
theorem wy{n mask:Nat}:(kpt n mask).Pairwise (·<·):=List.pairwise_lt_range.sublist List.filter_sublist
theorem rQ{n mask p:Nat}(h:p∈kpt n mask):p<n:=List.mem_range.mp (List.mem_filter.mp h).1
def loL(ps:List Nat):List Nat:=0::ps.map (·+1)
theorem lY{c:Sg->Sg->Bool}{row:List Sg}:∀{ps:List Nat}{lo:Nat},ps.Pairwise (·<·)->(∀p∈ps,lo<=p/\p<row.length)->lo<=row.length ->
  (KpP c row lo ps↔∀(k a b:Nat),(lo::ps.map (·+1))[k]?=some a->(ps++[row.length])[k]?=some b->Gp c (seg row a b))
 |[],lo,_,_,hlo=>by
  constructor
  ·intro h k a b h1 h2;cases k with
   |zero =>
    simp at h1 h2;subst h1 h2;unfold seg;rw[List.take_of_length_le (by rw[List.length_drop];exact Nat.le_refl _)];exact h
   |succ k=>simp at h1
  ·intro h;have:=h 0 lo row.length rfl rfl;unfold seg at this;rw[List.take_of_length_le (by rw[List.length_drop];exact Nat.le_refl _)]at this;exact this
 |p::ps,lo,hp,hb,hlo=>by
  rw[List.pairwise_cons]at hp;have hpb:=hb p (.head _);have ih:=lY (c:=c) (row:=row) (ps:=ps) (lo:=p+1) hp.2 (fun x hx=>⟨hp.1 x hx,(hb x (.tail _ hx)).2⟩) (by omega);constructor
  ·rintro⟨_,_,h3,h4⟩ k a b h1 h2;cases k with
   |zero=>simp at h1 h2;subst h1 h2;exact h3
   |succ k=>exact ih.mp h4 k a b (by simpa using h1) (by simpa using h2)
  ·intro h;exact⟨hpb.1,hpb.2,h 0 lo p rfl rfl,ih.mpr fun k a b h1 h2=>h (k+1) a b (by simpa using h1) (by simpa using h2)⟩
def Tld(ord:List (Str×Str)) (row:List Sg) (mask:Nat) (t:List Sg):Prop:=t=(kpt row.length mask).map (sg row)/\KpP (cB ord) row 0 (kpt row.length mask)/\plB ord t=true
theorem rf{row:List Sg}{ps:List Nat}(h:∀p∈ps,p<row.length):(ps.map (sg row)).map some=ps.map (row[·]?):=by
 rw[List.map_map];exact List.map_congr_left fun p hp=>(pW (h p hp)).symm
theorem sQ{ord:List (Str×Str)}{row t:List Sg}:(∃mask,mask<2 ^ row.length/\Tld ord row mask t)↔Kp (cB ord) row t/\plB ord t=true:=by
 constructor
 ·rintro⟨m,_,rfl,h2,h3⟩;exact⟨by have:=h2.kp _ (rf fun p hp=>rQ hp);rwa [List.drop_zero]at this,h3⟩
 ·rintro⟨h1,h2⟩;obtain⟨ps,p1,p2,p3,p4⟩:=h1.places (row:=row) 0 rfl (Nat.zero_le _);obtain⟨m,m1,m2⟩:=ot (fun k=>decide (k∈ps)) row.length;have e:kpt row.length m=ps:=by
   refine Eq.trans (List.filter_congr fun k hk=>?_) (oH p3 fun p hp=>(p4 p hp).2);rw[Bool.eq_iff_iff,beq_iff_eq];exact m2 k (List.mem_range.mp hk)
  refine⟨m,m1,?_,by rw[e];exact p1,h2⟩;rw[e];have q:=rf fun p hp=>(p4 p hp).2;exact(List.map_inj_right fun a b z=>Option.some.inj z).mp (p2.trans q.symm)
def lh(ps:List Nat) (n:Nat):List D:=D.int (-1)::ps.map cc++[D.int (n:Int)]
def loK(ps:List Nat) (k:Nat):Nat:=(loL ps).getD k 0
def hiK(ps:List Nat) (n k:Nat):Nat:=(ps++[n]).getD k 0
theorem uu{ps:List Nat}{n k:Nat}(h:k<=ps.length):(lh ps n)[k]?=some (D.int ((loK ps k:Int)-1)):=by
 cases k with
 |zero=>rfl
 |succ k =>
  have hk:k<ps.length:=h;simp[lh,loK,loL,cc,List.getElem?_append_left,hk]
theorem tI{ps:List Nat}{n k:Nat}(h:k<=ps.length):(lh ps n)[k+1]?=some (D.int (hiK ps n k:Int)):=by
 have e:ps.map cc++[D.int (n:Int)]=(ps++[n]).map cc:=by simp[cc]
 have hk:k<(ps++[n]).length:=by simp;omega
 unfold lh hiK;rw[List.cons_append,List.getElem?_cons_succ,e,List.getElem?_map,List.getD_eq_getElem?_getD,List.getElem?_eq_getElem hk];rfl
theorem yr{ps:List Nat}{n k:Nat}(hup:ps.Pairwise (·<·)) (hlt:∀p,p∈ps->p<n) (h:k<=ps.length):loK ps k<=hiK ps n k/\hiK ps n k<=n:=by
 have hb:hiK ps n k<=n:=by
  unfold hiK;rw[List.getD_eq_getElem?_getD];rcases Nat.lt_or_ge k ps.length with q|q
  ·rw[List.getElem?_append_left q,List.getElem?_eq_getElem q];exact Nat.le_of_lt (hlt _ (List.getElem_mem q))
  ·obtain rfl:k=ps.length:=by omega
   simp
 refine⟨?_,hb⟩;cases k with
 |zero=>exact Nat.zero_le _
 |succ k =>
  have hk:k<ps.length:=h;have e1:loK ps (k+1)=ps[k]+1:=by simp[loK,loL,hk]
  rw[e1];unfold hiK;rw[List.getD_eq_getElem?_getD];rcases Nat.lt_or_ge (k+1) ps.length with q|q
  ·rw[List.getElem?_append_left q,List.getElem?_eq_getElem q];exact List.pairwise_iff_getElem.mp hup k (k+1) hk q (by omega)
  ·obtain e:k+1=ps.length:=by omega
   rw[e];simp;exact hlt _ (List.getElem_mem hk)
theorem nP{ord:List (Str×Str)}{row:List Sg}{ps:List Nat}(hup:ps.Pairwise (·<·)) (hlt:∀p,p∈ps->p<row.length):((List.range (ps.length+1)).all fun k=>gB ord (seg row (loK ps k) (hiK ps row.length k)))=true↔KpP (cB ord) row 0 ps:=by
 rw[lY hup (fun p hp=>⟨Nat.zero_le _,hlt p hp⟩) (Nat.zero_le _),List.all_eq_true];constructor
 ·intro h k a b h1 h2;have hk:k<ps.length+1:=by have:=(List.getElem?_eq_some_iff.mp h1).1;simpa using this
  have:=eI.mp (h k (List.mem_range.mpr hk));have e1:loK ps k=a:=by unfold loK loL;rw[List.getD_eq_getElem?_getD,h1];rfl
  have e2:hiK ps row.length k=b:=by unfold hiK;rw[List.getD_eq_getElem?_getD,h2];rfl
  rwa [e1,e2]at this
 ·intro h k hk;have hk:=List.mem_range.mp hk;refine eI.mpr (h k _ _ ?_ ?_)
  ·unfold loK loL;have:k<(0::ps.map (·+1)).length:=by simpa using hk
   rw[List.getD_eq_getElem?_getD,List.getElem?_eq_getElem this];rfl
  ·unfold hiK;have:k<(ps++[row.length]).length:=by simpa using hk
   rw[List.getD_eq_getElem?_getD,List.getElem?_eq_getElem this];rfl
theorem mF{α:Type}{xs:List α}{f:α->Bool}:ui (.lst (xs.map fun x=>D.bl (f x)))=some (.bl (xs.all f)):=by
 have h1:(xs.map fun x=>D.bl (f x)).all m7=true:=by rw[List.all_map,List.all_eq_true];intro _ _;rfl
 simp only[ui,h1,if_true,List.all_map];rfl
theorem wA{α:Type}{xs:List α}{f:α->Bool}:tW (.lst (xs.map fun x=>D.bl (f x)))=some (.bl (xs.any f)):=by
 have h1:(xs.map fun x=>D.bl (f x)).all m7=true:=by rw[List.all_map,List.all_eq_true];intro _ _;rfl
 simp only[tW,h1,if_true,List.any_map];rfl
def jj:SpD:=fun ds M R=>∃(ord:List (Str×Str)) (row:List Sg),ds=[.tup (ord.map az),.tup (row.map aE)]/\ord.length<=500/\row.length<=10/\∀rs:List (List Sg),rs.Nodup->(∀t,t∈rs↔Kp (cB ord) row t/\plB ord t=true)->R (.lst ((aN (rs.map kR)).map bP)) M
theorem mV(F:Fun K "_law_plain" "_law_plain" bS f fd) (T:Txt mg) (Y3:FnD P w K mg base "_law_gaps" 3 2 kT) (G4:FnD P w K mg base "_law_cancel" 2 3 eF):bw P w K mg base CX0 4 f fd ["_law_order","_law_row_here"] (spD K 2 jj):=by
 have nd:=ir.nd;refine F.okR rfl ir (fun cdv A outer s H E hr=>⟨_,(ak (aV (i:=2) nd rfl (Or.inr rfl) (qd Y3 hr (af (ae 0) (af (ae 1) am))))
   (ak (aV (i:=3) nd rfl (Or.inl rfl) Au)
   (ak (eu PassesOwn.never rfl (bX rfl T.b_range (af (au yQ aj (aG b0 rfl T.b_len (by kernel_rfl) (af (ae 1) am))) am)) (b7 (i:=4) nd rfl (Or.inr rfl)) (ak (fB (i:=5) nd rfl rfl rfl (ms:=[false,false,false,false,true,false,false,false]) (ai:=["_law_k"]) (aF rfl (show aM (ah bS) bq _ _=true from by decide +kernel)) rfl (bX rfl T.b_range (af (aG b0 rfl T.b_len (by kernel_rfl) (af (ae 1) am)) am)) (aQ (i:=8) (show(bq++_).Nodup from by decide +kernel) rfl rfl) (fun _ _ _ _=>(jL (ba (iR hr.units) (au bK (au yp (ae 4) (ae 8)) aj) aj nbh))) (fun _ _ _ _=>(ae 8)))
   (ak (aV (i:=6) nd rfl (Or.inr rfl) (au aO (au aO (jn (af (Aj AH aj) am)) (ae 5)) (jn (af (aG b0 rfl T.b_len (by kernel_rfl) (af (ae 1) am)) am))))
   (aq (di (cV (aG (p8 rfl) rfl T.b_all (by kernel_rfl) (af (jO (ms:=[false,false,true,false,false,false,true,false]) (ai:=["_law_k"]) (aF rfl (show aM (ah bS) bq _ _=true from by decide +kernel)) rfl (bX rfl T.b_range (af (au lQ (aG b0 rfl T.b_len (by kernel_rfl) (af (ae 6) am)) aj) am)) (aQ (i:=8) (show(bq++_).Nodup from by decide +kernel) rfl rfl) (fun _ _ _ _=>cb) (fun _ _ _ _=>(jY hr.units1 (ae 2) (af (au aO (bj bo (ae 6) (ae 8) (fun _ _=>rfl)) aj) (af (bj bo (ae 6) (au aO (ae 8) aj) (fun _ _=>rfl)) am)) (fun _ _=>rfl)))) am))) (ak (aV (i:=7) nd rfl (Or.inr rfl) (fD jW rfl T.b_tuple (by kernel_rfl) (af (jO (ms:=[false,true,false,false,false,false,false,false]) (ai:=["_law_k"]) (aF rfl (show aM (ah bS) bq _ _=true from by decide +kernel)) rfl (bB (ae 5)) (aQ (i:=8) (show(bq++_).Nodup from by decide +kernel) rfl rfl) (fun _ _ _ _=>cb) (fun _ _ _ _=>(bj bo (ae 1) (ae 8) (fun _ _=>rfl)))) am)))
   (aq (di (jK (cV (aG (xZ rfl) rfl T.b_any (by kernel_rfl) (af (jO (ms:=[true,false,false,false,false,false,false,true]) (ai:=["_law_k"]) (aF rfl (show aM (ah bS) bq _ _=true from by decide +kernel)) rfl (bX rfl T.b_range (af (au lQ (aG b0 rfl T.b_len (by kernel_rfl) (af (ae 7) am)) aj) am)) (aQ (i:=8) (show(bq++_).Nodup from by decide +kernel) rfl rfl) (fun _ _ _ _=>cb) (fun _ _ _ _=>(qd G4 hr (af (ae 0) (af (bj bo (ae 7) (ae 8) (fun _ _=>rfl)) (af (bj bo (ae 7) (au aO (ae 8) aj) (fun _ _=>rfl)) am)))))) am)))) (aq (wZ hr.units (ae 3) (ae 7) pG)) cf))) cf)))))
   (aq (mq (ur rfl hr.units rfl T.b_sorted (ae 3))))))),fun ds M R _ hS bk=>?_⟩)
 obtain⟨ord,row,rfl,ho,hl,k⟩:=hS;refine bk ?_;clear bk;walk_at "rd";refine⟨ord,row,rfl,ho,hl,fun g tb hg hG=>?_⟩;walk_at "rd";intro d hd;have hgd:g≠d:=by rintro rfl;rw[bp]at hd;cases hd
 have hMd:M d=none:=by rw[da (Ne.symm hgd)]at hd;exact hd
 simp only[wj];rw[List.length_map];obtain⟨N,hN⟩:∃N:Nat,N=2 ^ row.length:=⟨_,rfl⟩;have h2:N<=1024:=by rw[hN];exact Nat.le_trans (Nat.pow_le_pow_right (by decide) hl) (by decide)
 have e2:(1:Int)*2 ^ ((row.length:Int)).toNat=(N:Int):=by rw[hN,Int.toNat_natCast];simp
 refine⟨_,if_pos ⟨by omega,by omega,by decide⟩,_,rfl,?_⟩;rw[e2,Int.toNat_natCast];refine⟨by omega,by omega,?_⟩;refine bD (fun i Δ M'=>∃(rs:List (List Sg)) (x4 x5 x6 x7:Option D),Δ=[some (D.tup (ord.map az)),some (D.tup (row.map aE)),some (D.ref g),some (D.ref d),x4,x5,x6,x7]/\M'=aD (aD M g (.dT tb)) d (dRw w d (rs.map kR))/\rs.Nodup/\rs.length<=i/\∀t,t∈rs↔∃mask,mask<i/\Tld ord row mask t)
  ⟨[],_,_,_,_,rfl,rfl,.nil,Nat.zero_le _,fun t=>⟨fun z=>(nomatch z),fun⟨m,z,_⟩=>absurd z (Nat.not_lt_zero m)⟩⟩ ?_ ?_
 ·rintro i dd Δ M' X hdd ⟨rs,x4,x5,x6,x7,rfl,rfl,hnd,hle,hrs⟩ k';obtain⟨hi,rfl⟩:=bZ hdd;rw[Int.zero_add];simp only[bR];walk_at "rd";rw[List.length_map,Int.toNat_natCast,fE];refine⟨by omega,by omega,by rw[List.length_map,List.length_range];exact szB _ (by omega),?_⟩;refine aR cc (fun k=>i / 2 ^ k % 2==1) cc (fun Δ=>∃x,Δ=[none,none,none,none,some (D.int (i:Int)),none,none,none,x]) (List.range row.length) _ _ (fun k' hk Δ hΔ=>?_) ⟨none,rfl⟩ ?_
  ·obtain⟨x,rfl⟩:=hΔ;refine⟨_,rfl,⟨_,rfl⟩,fun Q1 q=>?_,fun _ Q2 q=>?_⟩
   ·simp only[cc];walk_at "rd";refine⟨_,if_pos (by omega),?_⟩;walk_at "rd";rw[Int.toNat_natCast,vB];exact q
   ·simp only[cc]at q ⊢;walk_at "rd";exact q
  rw[List.nil_append,show(List.range row.length).filter (fun k=>i / 2 ^ k % 2==1)=kpt row.length i from rfl];have hup:=wy (n:=row.length) (mask:=i);have hlt:=fun p=>rQ (n:=row.length) (mask:=i) (p:=p);have hT:∀t,Tld ord row i t↔t=(kpt row.length i).map (sg row)/\KpP (cB ord) row 0 (kpt row.length i)/\plB ord t=true:=fun t=>Iff.rfl;generalize kpt row.length i=ps at hup hlt hT;have hpl:ps.length<=10:=by
   have:=bT ps (List.range row.length) (hup.imp fun h=>by omega) fun p hp=>List.mem_range.mpr (hlt p hp);rw[List.length_range]at this;omega
  have Lm:(ps.map cc).length=ps.length:=List.length_map ..;have Le:(lh ps row.length).length=ps.length+2:=by simp[lh]
  have eM:(aD (aD M g (.dT tb)) d (dRw w d (rs.map kR))) g=some (.dT tb):=by rw[da hgd,bp]
  have no:¬ (KpP (cB ord) row 0 ps/\plB ord (ps.map (sg row))=true)->∀y4 y5 y6 y7,X [some (D.tup (ord.map az)),some (D.tup (row.map aE)),some (D.ref g),some (D.ref d),y4,y5,y6,y7] (aD (aD M g (.dT tb)) d (dRw w d (rs.map kR))):=fun hn y4 y5 y6 y7 =>
   k' _ _ ⟨rs,y4,y5,y6,y7,rfl,rfl,hnd,by omega,fun t=>by
    rw[hrs t];constructor
    ·rintro⟨m,m1,m2⟩;exact⟨m,by omega,m2⟩
    ·rintro⟨m,m1,m2⟩
     by_cases e:m=i
     ·subst e;obtain⟨z1,z2,z3⟩:=(hT t).mp m2;exact absurd ⟨z2,z1▸z3⟩ hn
     ·exact⟨m,by omega,m2⟩⟩
  refine⟨sz3 1,_,if_pos (by rw[Lm];exact szB _ (by omega)),sz3 1,_,(show jR _ _=some (D.lst (lh ps row.length))from if_pos (by simp;exact szB _ (by omega))),_,rfl,_,rfl,_,rfl,?_⟩;rw[Le,show(((ps.length+2:Nat):Int)-1).toNat=ps.length+1 by omega,fE];refine⟨by omega,by omega,by rw[List.length_map,List.length_range];exact szB _ (by omega),?_⟩;refine aR cc (fun _=>true) (fun k=>D.bl (gB ord (seg row (loK ps k) (hiK ps row.length k)))) (fun Δ=>∃x,Δ=[none,none,some (D.ref g),none,none,none,some (D.lst (lh ps row.length)),none,x]) (List.range (ps.length+1)) _ _ (fun k hk Δ hΔ=>?_) ⟨none,rfl⟩ ?_
  ·obtain⟨x,rfl⟩:=hΔ;have hk:=List.mem_range.mp hk;refine⟨_,rfl,⟨_,rfl⟩,fun Q1 q=>q,fun _ Q2 q=>?_⟩;simp only[cc];walk_at "rd";rw[show((k:Int)+1)=((k+1:Nat):Int)by omega];refine⟨_,aP (uu (by omega)),D.int (loK ps k:Int),?_,_,aP (tI (by omega)),tb,eM,[.inl (loK ps k:Int),.inl (hiK ps row.length k:Int)],rfl,sz3 2,_,hG _ _ (yr hup hlt (by omega)).1 (yr hup hlt (by omega)).2,q⟩;show some (D.int ((loK ps k:Int)-1+1))=_;rw[Int.sub_add_cancel]
  ·rw[List.nil_append,List.filter_eq_self.mpr (fun _ _=>rfl)];refine⟨_,mF,_,rfl,fG (fun hb=>?_) (fun hb=>no (fun z=>hb ((nP hup hlt).mpr z.1)) _ _ _ _)⟩;have hK:=(nP hup hlt).mp hb;intro hz;refine⟨hz,?_⟩;refine aR cc (fun _=>true) (fun k=>aE (sg row k)) (fun Δ=>∃x,Δ=[none,some (D.tup (row.map aE)),none,none,none,none,none,none,x]) ps _ _ (fun k hk Δ hΔ=>?_) ⟨none,rfl⟩ ?_
   ·obtain⟨x,rfl⟩:=hΔ;refine⟨_,rfl,⟨_,rfl⟩,fun Q1 q=>q,fun _ Q2 q=>?_⟩;simp only[cc];walk_at "rd";exact⟨_,iJ (hlt k hk),q⟩
   have et:(ps.map fun k=>aE (sg row k))=(ps.map (sg row)).map aE:=by rw[List.map_map];rfl
   rw[List.nil_append,List.filter_eq_self.mpr (fun _ _=>rfl),et];have htl:(ps.map (sg row)).length=ps.length:=List.length_map ..;clear et;generalize ps.map (sg row)=t at hT no htl;rw[List.length_map,show((t.length:Int)-1).toNat=t.length-1 by omega,fE];refine⟨by omega,by omega,by rw[List.length_map,List.length_range];exact szB _ (by omega),?_⟩;refine aR cc (fun _=>true) (fun k=>D.bl (cB ord (sg t k) (sg t (k+1)))) (fun Δ=>∃x,Δ=[some (D.tup (ord.map az)),none,none,none,none,none,none,some (D.tup (t.map aE)),x]) (List.range (t.length-1)) _ _ (fun k hk Δ hΔ=>?_) ⟨none,rfl⟩ ?_
   ·obtain⟨x,rfl⟩:=hΔ;have hk:=List.mem_range.mp hk;refine⟨_,rfl,⟨_,rfl⟩,fun Q1 q=>q,fun _ Q2 q=>?_⟩;simp only[cc];walk_at "rd";rw[show((k:Int)+1)=((k+1:Nat):Int)by omega];exact⟨_,iJ (by omega),_,iJ (by omega),ord,_,_,rfl,ho,q⟩
   rw[List.nil_append,List.filter_eq_self.mpr (fun _ _=>rfl)];have hp:(!(List.range (t.length-1)).any fun k=>cB ord (sg t k) (sg t (k+1)))=plB ord t:=by unfold plB;rw[List.not_any_eq_all_not]
   refine⟨_,wA,_,rfl,?_⟩;rw[hp];refine fG (fun h=>⟨rs.map kR,bp,kR t,nk.symm,pK,by rw[List.length_map];omega,?_⟩) (fun h=>no (fun z=>h z.2) _ _ _ _);rw[fH];have fin:∀rs':List (List Sg),aZ (rs.map kR) (kR t)=rs'.map kR->rs'.Nodup->rs'.length<=i+1->(∀u,u∈rs'↔u∈rs∨u=t)->∀y4 y5 y6 y7,X [some (D.tup (ord.map az)),some (D.tup (row.map aE)),some (D.ref g),some (D.ref d),y4,y5,y6,y7] (aD (aD M g (.dT tb)) d (dRw w d (aZ (rs.map kR) (kR t)))):=fun rs' e n1 n2 n3 y4 y5 y6 y7 =>
    k' _ _ ⟨rs',y4,y5,y6,y7,rfl,by rw[e],n1,n2,fun u=>by
     rw[n3 u,hrs u];constructor
     ·rintro(⟨m,m1,m2⟩|rfl)
      ·exact⟨m,by omega,m2⟩
      ·exact⟨i,by omega,(hT u).mpr ⟨rfl,hK,h⟩⟩
     ·rintro⟨m,m1,m2⟩
      by_cases e:m=i
      ·subst e;exact .inr ((hT u).mp m2).1
      ·exact .inl ⟨m,by omega,m2⟩⟩
   by_cases c:t∈rs
   ·exact fin rs (if_pos (List.mem_map_of_mem c)) hnd (by omega) (fun u=>⟨.inl,fun z=>z.elim id fun z=>z▸c⟩) _ _ _ _
   ·refine fin (rs++[t]) ?_ ?_ (by rw[List.length_append];simp;omega) (fun u=>by simp) _ _ _ _
    ·unfold aZ;rw[if_neg,List.map_append];rfl;intro z;obtain⟨r,hr,e⟩:=List.mem_map.mp z;exact c (iq e▸hr)
    ·rw[List.nodup_append];exact⟨hnd,by simp,fun a ha b hb=>by rw[List.mem_singleton]at hb;rintro rfl;exact c (hb▸ha)⟩
 ·rintro Δ M' ⟨rs,x4,x5,x6,x7,rfl,rfl,hnd,hle,hrs⟩;rw[bH]at hle hrs;walk_at "rd";refine⟨rs.map kR,rfl,mj,by rw[List.length_map];omega,M,Aa hg hMd,k rs hnd fun t=>?_⟩;rw[hrs,hN,sQ]
def cns(ord:List (Str×Str)) (row:List Sg):List Nat:=(List.range (row.length-1)).filter fun i=>cB ord (sg row i) (sg row (i+1))
def oh(row:List Sg) (p:Nat):List Sg:=row.take p++row.drop (p+2)
def eX(ord:List (Str×Str)) (row:List Sg):List (List Sg):=(cns ord row).map (oh row)
def rwD(r:List Sg):D:=.tup (r.map aE)
theorem dQ{rs:List (List Sg)}:(rs.map kR).map bP=rs.map rwD:=pe
theorem wF{row:List Sg}{p:Nat}(h:p+1<row.length):row=row.take p++sg row p::sg row (p+1)::row.drop (p+2):=by
 have e1:row.drop p=sg row p::row.drop (p+1):=by rw[List.drop_eq_getElem_cons (by omega)];simp[sg,show p<row.length by omega]
 have e2:row.drop (p+1)=sg row (p+1)::row.drop (p+2):=by rw[List.drop_eq_getElem_cons h];simp[sg,h]
 rw[<-e2,<-e1,List.take_append_drop]
theorem gN{ord:List (Str×Str)}{row t:List Sg}:t∈eX ord row↔Cn (cB ord) row t:=by
 unfold eX cns;rw[List.mem_map];constructor
 ·rintro⟨p,hp,rfl⟩;rw[List.mem_filter,List.mem_range]at hp;exact⟨row.take p,sg row p,sg row (p+1),row.drop (p+2),wF (by omega),hp.2,rfl⟩
 ·rintro⟨xs,a,b,ys,rfl,hc,rfl⟩;have g1:sg (xs++a::b::ys) xs.length=a:=by simp[sg]
  have g2:sg (xs++a::b::ys) (xs.length+1)=b:=by
   unfold sg;rw[List.getD_eq_getElem?_getD,List.getElem?_append_right (by omega),show xs.length+1-xs.length=1 by omega];rfl
  refine⟨xs.length,?_,?_⟩
  ·rw[List.mem_filter,List.mem_range,g1,g2];exact⟨by simp,hc⟩
  ·unfold oh;rw[List.take_left',List.drop_append,List.drop_of_length_le (by omega),show xs.length+2-xs.length=2 by omega]
   ·rfl
   ·rfl
theorem qQ{ord:List (Str×Str)}{row:List Sg}:((cns ord row).length==0)=plB ord row:=by
 rw[Bool.eq_iff_iff,beq_iff_eq,List.length_eq_zero_iff,cns,List.filter_eq_nil_iff,plB,List.all_eq_true];simp
theorem pV{ord:List (Str×Str)}{row:List Sg}:(eX ord row).length<=row.length-1:=by
 unfold eX cns;rw[List.length_map];exact Nat.le_trans (List.length_filter_le _ _) (by rw[List.length_range];exact Nat.le_refl _)
def cC:SpD:=fun ds M R=>∃(ord:List (Str×Str)) (row:List Sg),ds=[.tup (ord.map az),rwD row]/\ord.length<=500/\row.length<=10/\R (.lst ((cns ord row).map cc)) M
theorem gp(F:Fun K "cancels_in" "cancels_in" bO f fd) (T:Txt mg) (G0:FnD P w K mg base "cancel" 4 3 cY):bw P w K mg base CX0 5 f fd ["order","row"] (spD K 2 cC):=by
 have nd:=dg.nd;refine F.okR rfl dg (fun cdv A outer s H E hr=>⟨_,(aq (cy (jO (ms:=[true,true]) (ai:=["place"]) (aF rfl (show aM (ah bO) cz _ _=true from by decide +kernel)) rfl (bX rfl T.b_range (af (au lQ (aG b0 rfl T.b_len (by kernel_rfl) (af (ae 1) am)) aj) am)) (aQ (i:=2) (show(cz++_).Nodup from by decide +kernel) rfl rfl) (fun _ _ _ _=>(jL (cV (qd G0 hr (af (ae 0) (af (bj bo (ae 1) (ae 2) (fun _ _=>rfl)) (af (bj bo (ae 1) (au aO (ae 2) aj) (fun _ _=>rfl)) am))))))) (fun _ _ _ _=>(ae 2))))),fun ds M R _ hS bk=>?_⟩);obtain⟨ord,row,rfl,ho,hl,k⟩:=hS;refine bk ?_;clear bk;simp only[rwD];walk_at "rd";rw[List.length_map,show((row.length:Int)-1).toNat=row.length-1 by omega,fE];refine⟨by omega,by omega,by rw[List.length_map,List.length_range];exact szB _ (by omega),?_⟩;refine aR cc (fun i=>cB ord (sg row i) (sg row (i+1))) cc (fun Δ=>∃x,Δ=[some (D.tup (ord.map az)),some (D.tup (row.map aE)),x]) (List.range (row.length-1)) _ _ (fun i hi Δ hΔ=>?_) ⟨none,rfl⟩ k;obtain⟨x,rfl⟩:=hΔ;have hi:=List.mem_range.mp hi;refine⟨_,rfl,⟨_,rfl⟩,fun Q1 q=>?_,fun _ Q2 q=>?_⟩
 ·simp only[cc];walk_at "rd";rw[show((i:Int)+1)=((i+1:Nat):Int)by omega];refine⟨_,iJ (by omega),_,iJ (by omega),?_⟩;rw[lE];exact⟨ho,_,rfl,q⟩
 ·simp only[cc]at q ⊢;walk_at "rd";exact q
def bM:SpD:=fun ds M R=>∃(ord:List (Str×Str)) (row:List Sg),ds=[.tup (ord.map az),rwD row]/\ord.length<=500/\row.length<=10/\R (.lst ((eX ord row).map rwD)) M
theorem cP(F:Fun K "rows_by_one_cancel" "rows_by_one_cancel" aH f fd) (T:Txt mg) (G1:FnD P w K mg base "cancels_in" 5 2 cC):bw P w K mg base CX0 6 f fd ["order","row"] (spD K 2 bM):=by
 have nd:=bE.nd;refine F.okR rfl bE (fun cdv A outer s H E hr=>⟨_,(aq (cy (jO (ms:=[false,true]) (ai:=["place"]) (aF rfl (show aM (ah aH) aY _ _=true from by decide +kernel)) rfl (bB (qd G1 hr (af (ae 0) (af (ae 1) am)))) (aQ (i:=2) (show(aY++_).Nodup from by decide +kernel) rfl rfl) (fun _ _ _ _=>cb) (fun _ _ _ _=>(au aO (b6 (ae 1) c0 (ck (ae 2))) (b6 (ae 1) (ck (au aO (ae 2) aj)) c0)))))),fun ds M R _ hS bk=>?_⟩);obtain⟨ord,row,rfl,ho,hl,k⟩:=hS;refine bk ?_;clear bk;simp only[rwD];walk_at "rd";refine⟨ord,row,rfl,ho,hl,?_⟩;walk_at "rd";intro hz;refine⟨hz,aR cc (fun _=>true) (fun p=>rwD (oh row p)) (fun Δ=>∃x,Δ=[none,some (D.tup (row.map aE)),x]) (cns ord row) _ _ (fun p hp Δ hΔ=>?_) ⟨none,rfl⟩ ?_⟩
 ·obtain⟨x,rfl⟩:=hΔ;refine⟨_,rfl,⟨_,rfl⟩,fun Q1 q=>q,fun _ Q2 q=>?_⟩;simp only[cc];walk_at "rd";rw[show((p:Int)+2)=((p+2:Nat):Int)by omega,iB,l5,<-List.map_take,<-List.map_drop];refine⟨_,if_pos (by rw[List.length_map,List.length_map,List.length_take,List.length_drop];exact szB _ (by omega)),?_⟩;rw[<-List.map_append];exact q
 ·rw[List.nil_append,List.filter_eq_self.mpr (fun _ _=>rfl)];have e:((cns ord row).map fun p=>rwD (oh row p))=(eX ord row).map rwD:=by unfold eX;rw[List.map_map];rfl
  rw[e];exact k
theorem fV{α:Type}{g:GD}{B:BKd}{M:DH}(enc:α->D) (out:α->List D) (Ok:DE->Prop):∀(xs:List α) (Δ:DE) (acc:List D) (Q:List D->DE->DH->Prop),
  (∀x∈xs,∀ Δ,Ok Δ->∃ Δ',g (enc x) Δ=some Δ'/\∀(acc:List D) (Q2:List D->DE->DH->Prop),acc.length+(out x).length<=sizeLine->(∀ Δ'',Ok Δ''->Q2 (acc++out x) Δ'' M)->B Δ' M acc Q2)->Ok Δ ->
  acc.length+(xs.flatMap out).length<=sizeLine->(∀ Δ',Ok Δ'->Q (acc++xs.flatMap out) Δ' M)->dq g mZ B (xs.map enc) Δ M acc Q
 |[],Δ,acc,Q,_,ok,_,q=>by
  simp only[List.map_nil,dq];have:=q Δ ok
  rwa [List.flatMap_nil,List.append_nil]at this
 |x::xs,Δ,acc,Q,h,ok,hz,q=>by
  rw[List.flatMap_cons,List.length_append]at hz;rw[List.map_cons];simp only[dq,mZ,if_true];obtain⟨Δ',e,h1⟩:=h x (.head _) Δ ok;refine⟨Δ',e,h1 acc _ (by omega) fun Δ'' ok'=>⟨by rw[List.length_append];omega,?_⟩⟩;refine fV enc out Ok xs Δ'' _ Q (fun z hz=>h z (.tail _ hz)) ok' (by rw[List.length_append];omega) fun Δ3 ok3=>?_;have:=q Δ3 ok3
  rwa [List.flatMap_cons,<-List.append_assoc]at this
theorem iG{α β:Type}{f:α->β}:∀l:List α,(l.flatMap fun a=>[f a])=l.map f
 |[]=>rfl
 |a::l=>by rw[List.flatMap_cons,iG l];rfl
def bdR:Nat->Nat
 |0=>1
 |k+1=>bdR k*(9-2*k)
theorem qN:∀k,bdR k<1000
 |0=>by decide
 |1=>by decide
 |2=>by decide
 |3=>by decide
 |4=>by decide
 |5=>by decide
 |k+6=>by
  have:∀j,bdR (j+6)=0:=fun j=>by
   induction j with
   |zero=>decide
   |succ j ih=>show bdR (j+6)*_=0;rw[ih,Nat.zero_mul]
  rw[this];decide
theorem Rt.pre{T:Type}{c:T->T->Bool}{a:Nat}:∀{b:Nat}{r t:List T},Rt c (a+b) r t->∃m,Rt c a r m
 |0,_,t,h=>⟨t,h⟩
 |b+1,_,_,⟨m,h,_⟩=>Rt.pre (b:=b) h
theorem lU{α β:Type}{f:α->List β}{n:Nat}:∀{l:List α},(∀x∈l,(f x).length<=n)->(l.flatMap f).length<=l.length*n
 |[],_=>by simp
 |x::l,h=>by
  rw[List.flatMap_cons,List.length_append,List.length_cons,Nat.succ_mul];have:=h x (.head _);have:=lU (l:=l) fun y hy=>h y (.tail _ hy);omega
theorem pY{rs:List (List Sg)}(h:(rs.map kR).Nodup):rs.Nodup:=by
 unfold List.Nodup at h ⊢;rw[List.pairwise_map]at h;exact h.imp fun ne e=>ne (congrArg kR e)
theorem oP(L:List (List Sg)):∃rs:List (List Sg),aN (cI (L.map kR))=rs.map kR/\rs.Nodup/\(∀t,t∈rs↔t∈L)/\rs.length<=L.length:=by
 have hm:∀k,k∈aN (cI (L.map kR))↔k∈L.map kR:=fun k=>by rw[(bh _).mem_iff,lG]
 obtain⟨rs,e⟩:=jH (ks:=aN (cI (L.map kR))) fun k hk=>by
  obtain⟨r,_,rfl⟩:=List.mem_map.mp ((hm k).mp hk);exact⟨r,rfl⟩
 refine⟨rs,e,pY ?_,fun t=>?_,?_⟩
 ·rw[<-e];exact(bh _).nodup_iff.mpr (tF _)
 ·have:=hm (kR t);rw[e]at this;constructor
  ·intro h;obtain⟨r,hr,e2⟩:=List.mem_map.mp (this.mp (List.mem_map_of_mem h));exact iq e2▸hr
  ·intro h;obtain⟨r,hr,e2⟩:=List.mem_map.mp (this.mpr (List.mem_map_of_mem h));exact iq e2▸hr
 ·have h1:rs.length=(cI (L.map kR)).length:=by rw[<-(bh _).length_eq,e,List.length_map]
  have h2:=fF (L.map kR);rw[List.length_map]at h2;omega
def dD:SpD:=fun ds M R=>∃(ord:List (Str×Str)) (row:List Sg),ds=[.tup (ord.map az),rwD row]/\ord.length<=500/\row.length<=10/\∀pl:List (List Sg),pl.Nodup->(∀t,t∈pl↔Kp (cB ord) row t/\plB ord t=true)->pl.length<=20000->∀p,M p=none->R (.ref p) (aD M p (.lst ((aN (pl.map kR)).map bP)))
theorem gD(F:Fun K "plain_rows" "plain_rows" bg f fd) (T:Txt mg) (G2:FnD P w K mg base "rows_by_one_cancel" 6 2 bM) (G1:FnD P w K mg base "cancels_in" 5 2 cC):bw P w K mg base CX0 7 f fd ["order","row"] (spD K 2 dD):=by
 have nd:=df.nd;refine F.okR rfl df (fun cdv A outer s H E hr=>⟨_,(ak (aV (i:=2) nd rfl (Or.inl rfl) (iE am))
   (ak (aV (i:=3) nd rfl (Or.inl rfl) (jn (af (ae 1) am)))
   (ak (kn PassesOwn.never (ba Ab (aG b0 rfl T.b_len (by kernel_rfl) (af (ae 3) am)) aj nbh) (ak (eN (yh (ae 2) (jO (ms:=[true,false,false,false]) (ai:=["one"]) (aF rfl (show aM (ah bg) aS _ _=true from by decide +kernel)) rfl (bB (ae 3)) (aQ (i:=4) (show(aS++_).Nodup from by decide +kernel) rfl rfl) (fun _ _ _ _=>(jL (ba (iR hr.units) (aG b0 rfl T.b_len (by kernel_rfl) (af (qd G1 hr (af (ae 0) (af (ae 4) am))) am)) aj nbh))) (fun _ _ _ _=>(ae 4)))))
   (aq (aV (i:=3) nd rfl (Or.inl rfl) (AF rfl hr.units rfl T.b_sorted rfl T.b_set (yy (ms:=[true,false,false,false]) (ai:=["one","shorter"]) (aF rfl (show aM (ah bg) aS _ _=true from by decide +kernel)) rfl (bB (ae 3)) (aQ (i:=4) (show(aS++_).Nodup from by decide +kernel) rfl rfl) (fun _ _ _ _=>cb) (fun _ _ _ _=>(bB (qd G2 hr (af (ae 0) (af (ae 4) am))))) (aQ (i:=5) (show(aS++_).Nodup from by decide +kernel) rfl rfl) (fun _ _ _ _=>cb) (fun _ _ _ _=>(ae 5))))))))
   (aq (mq (sJ hr.units rfl T.b_sorted (ae 2))))))),fun ds M R _ hS bk=>?_⟩)
 obtain⟨ord,row,rfl,ho,hl,k⟩:=hS;refine bk ?_;clear bk;walk_at "rd";refine⟨sz3 0,fun q hq=>⟨sz3 1,?_⟩⟩;refine⟨fun m Δ M'=>∃(kk:Nat) (rs pl:List (List Sg)),Δ=[some (D.tup (ord.map az)),some (rwD row),some (D.ref q),some (D.lst (rs.map rwD))]/\M'=aD M q (.lst (pl.map rwD))/\rs.Nodup/\(∀t,t∈rs↔Rt (cB ord) kk row t)/\pl.Nodup/\(∀t,t∈pl↔plB ord t=true/\∃j,j<kk/\Rt (cB ord) j row t)/\rs.length<=bdR kk/\pl.length<=1000*kk/\2*kk<=row.length+2/\m=row.length+2-2*kk,
  ⟨_,0,[row],[],rfl,rfl,by simp,fun t=>by simp[Rt,eq_comm],.nil,fun t=>by simp,Nat.le_refl 1,by simp,by omega,rfl⟩,?_⟩
 intro m Δ M' hI;refine shr fun _ bk=>?_;obtain⟨kk,rs,pl,rfl,rfl,hn,hr',hpn,hp,hb,hpl,hk2,rfl⟩:=hI;refine bk ?_;clear bk;walk_at "rd";rw[List.length_map];refine fG (fun h=>?_) (fun h=>?_)
 ·have a7:∀r∈rs,r.length+2*kk=row.length:=fun r hr=>((hr' r).mp hr).len.symm;have h2k:2*kk<=row.length:=by
   obtain⟨r,hr⟩:∃r,r∈rs:=by
    cases rs with
    |nil=>simp at h
    |cons r rs=>exact⟨r,.head _⟩
   have:=a7 r hr;omega
  have hbl:=qN kk;intro hz;refine⟨hz,aR rwD (plB ord) rwD (fun Δ=>∃x,Δ=[some (D.tup (ord.map az)),none,none,none,x]) rs _ _ (fun r hr Δ hΔ=>?_) ⟨none,rfl⟩ ?_⟩
  ·obtain⟨x,rfl⟩:=hΔ;refine⟨_,rfl,⟨_,rfl⟩,fun Q1 q=>?_,fun _ Q2 q=>?_⟩
   ·have:=a7 r hr;walk_at "rd";refine⟨ord,r,rfl,ho,by omega,?_⟩;walk_at "rd";rw[List.length_map];have e:(((cns ord r).length:Int)==0)=plB ord r:=by
     rw[<-qQ,Bool.eq_iff_iff,beq_iff_eq,beq_iff_eq];omega
    rw[e];exact q
   ·walk_at "rd";exact q
  ·rw[List.nil_append];have hfl:=List.length_filter_le (plB ord) rs;refine⟨pl.map rwD,bp,by rw[List.length_map,List.length_map];exact szB _ (by omega),fun _=>?_⟩;rw[fH,<-List.map_append];have hol:(rs.flatMap (eX ord)).length<=bdR (kk+1):=by
    refine Nat.le_trans (lU (n:=9-2*kk) fun r hr=>Nat.le_trans pV (by have:=a7 r hr;omega)) ?_;exact Nat.mul_le_mul_right _ hb
   have hbl2:=qN (kk+1);have eo:(rs.flatMap fun r=>(eX ord r).map rwD)=(rs.flatMap (eX ord)).map rwD:=by rw[List.map_flatMap]
   refine fV rwD (fun r=>(eX ord r).map rwD) (fun Δ=>∃a b,Δ=[some (D.tup (ord.map az)),none,none,none,a,b]) _ _ _ _ ?_ ⟨_,_,rfl⟩ (by rw[eo,List.length_map,List.length_nil,Nat.zero_add];exact szB _ (by omega)) ?_
   ·rintro r hr Δ ⟨a,b,rfl⟩;have hlr:=a7 r hr;refine⟨_,rfl,fun acc Q2 hz2 k2=>?_⟩;simp only[mC];walk_at "rd";refine⟨ord,r,rfl,ho,by omega,?_⟩;walk_at "rd";intro hz3;refine fV rwD (fun t=>[rwD t]) (fun Δ=>∃b,Δ=[some (D.tup (ord.map az)),none,none,none,some (rwD r),b]) _ _ _ _ ?_ ⟨_,rfl⟩ (by rw[iG];exact hz2) (by rintro Δ' ⟨b,rfl⟩;rw[iG];exact k2 _ ⟨_,_,rfl⟩);rintro t ht Δ ⟨b,rfl⟩;refine⟨_,rfl,fun acc4 Q4 hz5 k4=>?_⟩;simp only[mw];walk_at "rd";exact k4 _ ⟨_,rfl⟩
   ·rintro Δ' -
    rw[List.nil_append,eo];obtain⟨rs',e1,n1,n2,n3⟩:=oP (rs.flatMap (eX ord));refine⟨(rs.flatMap (eX ord)).map kR,dQ.symm,mj,fun k hk=>?_,by rw[List.length_map];omega,row.length+2-2*(kk+1),by omega,kk+1,rs',by rw[e1,dQ],pl++rs.filter (plB ord),rfl,n1,fun t=>?_,?_,fun t=>?_,by omega,by rw[List.length_append];omega,by omega,rfl⟩
    ·obtain⟨r,_,rfl⟩:=List.mem_map.mp hk;exact pK
    ·rw[n2 t,List.mem_flatMap];constructor
     ·rintro⟨r,hr,ht⟩;exact⟨r,(hr' r).mp hr,gN.mp ht⟩
     ·rintro⟨r,hr,ht⟩;exact⟨r,(hr' r).mpr hr,gN.mpr ht⟩
    ·rw[List.nodup_append];refine⟨hpn,hn.filter _,fun a ha b hb=>?_⟩;rintro rfl;obtain⟨_,j,j1,j2⟩:=(hp a).mp ha;have l1:=j2.len;have l2:=a7 a (List.mem_filter.mp hb).1;omega
    ·rw[List.mem_append,hp t,List.mem_filter,hr' t];constructor
     ·rintro(⟨z,j,j1,j2⟩|⟨z1,z2⟩)
      ·exact⟨z,j,by omega,j2⟩
      ·exact⟨z2,kk,by omega,z1⟩
     ·rintro⟨z,j,j1,j2⟩
      by_cases e:j=kk
      ·subst e;exact .inr ⟨j2,z⟩
      ·exact .inl ⟨z,j,by omega,j2⟩
 ·have hr0:rs=[]:=by
   cases rs with
   |nil=>rfl
   |cons r rs=>exact absurd (by simp) h
  subst hr0;refine⟨pl.map kR,dQ.symm,mj,fun p hp'=>?_⟩;have hpq:p≠q:=by rintro rfl;rw[bp]at hp';cases hp'
  have hMp:M p=none:=by rw[da hpq]at hp';exact hp'
  refine⟨aD M p (.lst ((aN (pl.map kR)).map bP)),?_,k pl hpn (fun t=>?_) (by omega) p hMp⟩
  ·intro a o e;unfold aD at e ⊢
   split
   ·rename_i z;rw[if_pos z]at e;exact e
   ·rename_i z;rw[if_neg z]at e
    split
    ·rename_i z2;rw[z2,hq]at e;cases e
    ·exact e
  ·rw[hp t,<-vT,and_comm];constructor
   ·rintro⟨⟨j,_,j2⟩,z⟩;exact⟨⟨j,j2⟩,z⟩
   ·rintro⟨⟨j,j2⟩,z⟩;refine⟨⟨j,?_,j2⟩,z⟩;rcases Nat.lt_or_ge j kk with c|c
    ·exact c
    ·obtain⟨b,rfl⟩:∃b,j=kk+b:=⟨j-kk,by omega⟩;obtain⟨m,hm⟩:=j2.pre;exact absurd ((hr' m).mpr hm) (by simp)
theorem yG:∀x y:Sg,eqD (aE x) (aE y)=decide (x=y):=fun⟨a,b⟩ ⟨c,d⟩=>by
 rw[Bool.eq_iff_iff];simp[aE,eqD,cA]
theorem mJ:∀x y:List Sg,eqD (rwD x) (rwD y)=decide (x=y):=fun x y=>by
 simp only[rwD,eqD];exact gE aE yG
theorem kh(x:List Sg):dLe (rwD x) 59=true:=by
 show cE (x.map aE) 58=true;rw[gO];intro d hd;obtain⟨y,_,rfl⟩:=List.mem_map.mp hd;rfl
theorem tP{pl:List (List Sg)}:∃qs:List (List Sg),aN (pl.map kR)=qs.map kR/\(∀t,t∈qs↔t∈pl)/\qs.length=pl.length:=by
 have hm:∀k,k∈aN (pl.map kR)↔k∈pl.map kR:=fun k=>(bh _).mem_iff;obtain⟨qs,e⟩:=jH (ks:=aN (pl.map kR)) fun k hk=>by
  obtain⟨r,_,rfl⟩:=List.mem_map.mp ((hm k).mp hk);exact⟨r,rfl⟩
 refine⟨qs,e,fun t=>?_,?_⟩
 ·have:=hm (kR t);rw[e]at this;constructor
  ·intro h;obtain⟨r,hr,e2⟩:=List.mem_map.mp (this.mp (List.mem_map_of_mem h));exact iq e2▸hr
  ·intro h;obtain⟨r,hr,e2⟩:=List.mem_map.mp (this.mpr (List.mem_map_of_mem h));exact iq e2▸hr
 ·have:=(bh (pl.map kR)).length_eq;rw[e,List.length_map,List.length_map]at this;exact this
theorem mM{ord:List (Str×Str)}{r t:List Sg}(h:plB ord r=true):Kp (cB ord) r t↔t=r:=by
 constructor
 ·intro k;obtain⟨n,hn⟩:=k.rt;cases n with
  |zero=>exact Eq.symm hn
  |succ n =>
   rw[Nat.add_comm]at hn;obtain⟨m,_,e,hc⟩:=hn.pre;cases e;have hm:=gN.mpr hc;rw[<-qQ,beq_iff_eq,List.length_eq_zero_iff]at h;unfold eX at hm;rw[h]at hm;cases hm
 ·rintro rfl;exact Kp.self _
theorem rR{r:List Sg}{pl:List (List Sg)}(h1:pl.Nodup) (h2:∀t,t∈pl↔t=r):aN (pl.map kR)=[r].map kR:=by
 rw[fX h1 (qs:=[r]) (by simp) fun t=>by rw[h2];simp];exact List.perm_singleton.mp (bh _)
theorem yB:j8 (.lst [.int 720720]) (.int 23)=some (.lst ((List.replicate 23 (720720:Int)).map D.int)):=by
 have e:j8 (.lst [.int 720720]) (.int 23)=if -(2 ^ 63)<=(23:Int)/\(23:Int)<2 ^ 63/\[D.int 720720].length*(23:Int).toNat<=sizeLine then some (.lst (List.replicate (23:Int).toNat [D.int 720720]).flatten)else none:=rfl
 rw[e,if_pos ⟨by decide,by decide,sz3 23⟩];rfl
def S_law:SpD:=fun ds M R=>∃ns:List Int,ds=[.scr (ns.map .int)]/\M=noM/\ns.length<=63/\∀M',R (.bl true) M'
theorem wo(F:Fun K "law" "law" jd f fd) (T:Txt mg) (Y2:FnD P w K mg base "_law_parts" 1 2 ju) (Y1:FnD P w K mg base "_law_marks" 1 2 jb) (Y4:FnD P w K mg base "_law_row" 1 3 nJ) (Y0:FnD P w K mg base "_law_plain" 4 2 jj) (G3:FnD P w K mg base "plain_rows" 7 2 dD) (G8:FnD P w K mg base "_law_letters" 1 2 fY):bw P w K mg base CX0 8 f fd ["_law_script"] (spD K 1 S_law):=by
 have nd:=rq.nd;refine F.okR rfl rq (fun cdv A outer s H E hr=>⟨_,(ak (eu PassesOwn.never rfl (bB (au aO (fD wB rfl T.b_list (by kernel_rfl) (af (b6 (ae 0) c0 (ck aj)) am)) (jn (af aj am)))) (b7 (i:=1) nd rfl (Or.inl rfl)) (ak (aV (i:=2) nd rfl (Or.inr rfl) (qd Y2 hr (af (ae 1) (af (au iD (jn (af aj am)) aj) am))))
   (ak (aV (i:=3) nd rfl (Or.inr rfl) (qd Y1 hr (af (qd G8 hr (af (ae 2) (af aj am))) (af (bj bo (ae 2) aj (fun _ _=>rfl)) am))))
   (ak (fB (i:=4) nd rfl rfl rfl (ms:=[false,false,true,true,false,false,false,false,false]) (ai:=["_law_k"]) (aF rfl (show aM (ah jd) iK _ _=true from by decide +kernel)) rfl (bX rfl T.b_range (af aj am)) (aQ (i:=9) (show(iK++_).Nodup from by decide +kernel) rfl rfl) (fun _ _ _ _=>cb) (fun _ _ _ _=>(rg (af (bj bo (ae 3) (au bK (bj bo (ae 2) (au aO aj (ae 9)) (fun _ _=>rfl)) (aG b0 rfl T.b_len (by kernel_rfl) (af (ae 3) am))) (fun _ _=>rfl)) (af (bj bo (ae 3) (au bK (au eA (bj bo (ae 2) (au aO aj (ae 9)) (fun _ _=>rfl)) aj) (aG b0 rfl T.b_len (by kernel_rfl) (af (ae 3) am))) (fun _ _=>rfl)) am)))))
   (ak (aV (i:=5) nd rfl (Or.inr rfl) (fD jW rfl T.b_tuple (by kernel_rfl) (af (b6 (ae 4) c0 (ck (au bK (bj bo (ae 2) aj (fun _ _=>rfl)) aj))) am)))
   (ak (aV (i:=6) nd rfl (Or.inl rfl) (qd Y4 hr (af (b6 (ae 2) (ck aj) c0) (af (ae 3) (af aj am)))))
   (ak (aV (i:=7) nd rfl (Or.inl rfl) (qd Y0 hr (af (ae 5) (af (ae 6) am))))
   (ak (aV (i:=8) nd rfl (Or.inl rfl) (qd G3 hr (af (ae 5) (af (ae 6) am))))
   (ak (di (oO (n9 (jK (cV (vi (Tn:="list") (by decide) rfl T.b_isinstance rfl T.b_list (by kernel_rfl) (ae 8)))) (n9 (ba (wc hr.units) (ae 8) (ae 7) nbh) (mW (jK (cV (xl (aG (p8 rfl) rfl T.b_all (by kernel_rfl) (af (jO (ms:=[false,false,false,false,false,false,false,false,false]) (ai:=["_law_one"]) (aF rfl (show aM (ah jd) iK _ _=true from by decide +kernel)) rfl (bB (ae 8)) (aQ (i:=9) (show(iK++_).Nodup from by decide +kernel) rfl rfl) (fun _ _ _ _=>cb) (fun _ _ _ _=>(vi (Tn:="tuple") (by decide) rfl T.b_isinstance rfl T.b_tuple (by kernel_rfl) (ae 9)))) am))))))))) (aq (cy pG)) cf)
   (ak (eN (jm (ae 8) (rg am)))
   (aq (di (oO (n9 (ba (wc hr.units) (qd G3 hr (af (ae 5) (af (ae 6) am))) (ae 7) nbh) (mW (jK (cV (aG (p8 rfl) rfl T.b_all (by kernel_rfl) (af (jO (ms:=[false,false,false,false,false,true,false,false,false]) (ai:=["_law_one"]) (aF rfl (show aM (ah jd) iK _ _=true from by decide +kernel)) rfl (bB (b6 (ae 7) c0 (ck aj))) (aQ (i:=9) (show(iK++_).Nodup from by decide +kernel) rfl rfl) (fun _ _ _ _=>cb) (fun _ _ _ _=>(wf (kN (iR hr.units) (qd G3 hr (af (ae 5) (af (ae 9) am))) (jn (af (ae 9) am)) nbh)))) am))))))) (aq (cy pG)) cf))))))))))))
   (aq (cy pG))),fun ds M R _ hS bk=>?_⟩)
 obtain⟨ns,rfl,rfl,hn,k⟩:=hS;refine bk ?_;clear bk;walk_at "rd";obtain⟨ys,hys,hyl⟩:∃ys:List Int,L2.cD (ns.map D.int) none (some 8)=ys.map D.int/\ys.length<=8:=⟨ns.take 8,by rw[show(8:Int)=((8:Nat):Int)from rfl,iB,List.map_take],by rw[List.length_take];omega⟩;rw[hys];refine⟨_,rfl,sz3 1,_,if_pos (sz3 _ (by simp;omega)),_,rfl,fun hz=>?_⟩;rw[show ys.map D.int++[D.int 0]=(ys++[0]).map D.int by rw[List.map_append];rfl];refine bD (fun i Δ M'=>∃x1 x2 x3 x4 x5 x6 x7 x8,Δ=[some (D.scr (ns.map D.int)),x1,x2,x3,x4,x5,x6,x7,x8]) ⟨_,_,_,_,_,_,_,_,rfl⟩ ?_ ?_
 ·rintro i d Δ M X hd ⟨x1,x2,x3,x4,x5,x6,x7,x8,rfl⟩ k';obtain⟨c,hc,rfl⟩:=fb hd;refine⟨_,rfl,?_⟩;walk_at "rd";refine⟨sz3 1,_,yB,c,23,rfl,by decide,fun xs hX=>?_⟩;have at_:∀n:Nat,n<23->∃x,xs[n]?=some x/\0<=x/\x<720720:=fun n hn=>by
   have lt:n<xs.length:=by rw[hX.1];exact hn
   exact⟨_,List.getElem?_eq_getElem lt,hX.2 _ (List.getElem_mem lt)⟩
  walk_at "rd";refine⟨xs,3,rfl,by rw[hX.1];decide,by decide,hX.2,fun cs hcs _ _=>?_⟩;obtain⟨x3',h3,h30,h31⟩:=at_ 3 (by decide);refine⟨_,(show atI (xs.map D.int) ((3:Nat):Int)=some (D.int x3')from aP (by rw[List.getElem?_map,h3];rfl)),cs,x3',rfl,hcs,h30,h31,fun ms hm1 hm3=>?_⟩;walk_at "rd";refine⟨by rw[bH];exact sz3 4,ff (fun i acc Δ M'=>M'=M/\(∃y,Δ=[none,none,some (.lst (xs.map D.int)),some (.lst (ms.map D.str)),none,none,none,none,none,y])/\∃ps:List (Str×Str),acc=ps.map az/\ps.length=i) ⟨rfl,⟨none,rfl⟩,[],rfl,rfl⟩ ?_ ?_⟩
  ·rintro j d acc Δ M' X' hd' ⟨rfl,⟨y,rfl⟩,ps,rfl,hps⟩ k2;obtain⟨hj,rfl⟩:=bZ hd';obtain⟨x,hx,hx0,hx1⟩:=at_ (4+j) (by omega);obtain⟨m1,_,hm1'⟩:=gT (gg:=ms) (v:=x % (ms.length:Int)) (Int.emod_nonneg _ (by omega)) (Int.emod_lt_of_pos _ (by omega));obtain⟨m2,_,hm2'⟩:=gT (gg:=ms) (v:=x / 8 % (ms.length:Int)) (Int.emod_nonneg _ (by omega)) (Int.emod_lt_of_pos _ (by omega));have ex:atI (xs.map D.int) ((4+j:Nat):Int)=some (D.int x):=aP (by rw[List.getElem?_map,hx];rfl);refine⟨_,rfl,?_⟩;simp only[mZ];walk_at "rd";rw[show(4:Int)+(0+(j:Int))=((4+j:Nat):Int)by omega];refine⟨_,ex,?_⟩;walk_at "rd";rw[List.length_map];refine⟨_,if_pos (by omega),_,hm1',_,ex,?_⟩;walk_at "rd";refine⟨_,if_pos (by omega),_,hm2',sz3 2,k2 _ _ _ ⟨rfl,⟨_,rfl⟩,ps++[(m1,m2)],by rw[List.map_append];rfl,by rw[List.length_append,hps];rfl⟩⟩
  rintro acc Δ M' ⟨rfl,⟨y,rfl⟩,ps,rfl,hps⟩;rw[bH]at hps;obtain⟨x8',h8,h80,h81⟩:=at_ 8 (by decide);refine⟨_,(show atI (xs.map D.int) ((8:Nat):Int)=some (D.int x8')from aP (by rw[List.getElem?_map,h8];rfl)),?_⟩;walk_at "rd";obtain⟨no,eno⟩:∃n:Nat,x8' % 5=(n:Int):=⟨(x8' % 5).toNat,by omega⟩;rw[eno,iB,<-List.map_take,show(9:Int)=((9:Nat):Int)from rfl,l5,<-List.map_drop];have hol:(ps.take no).length<=500:=by rw[List.length_take];omega
  generalize ps.take no=ord at hol;refine⟨xs.drop 9,ms,rfl,by rw[List.length_drop,hX.1],fun x hx=>hX.2 x (List.mem_of_mem_drop hx),hm1,fun row hrow=>?_⟩;walk_at "rd";refine⟨ord,row,rfl,hol,hrow,fun rs hrn hrs=>?_⟩;walk_at "rd";refine⟨ord,row,rfl,hol,hrow,fun pl hpn hpl hplen p hp=>?_⟩;walk_at "rd";have es:aN (pl.map kR)=aN (rs.map kR):=fX hpn hrn fun t=>by rw[hpl,hrs]
  obtain⟨qs,eq,hq,hql⟩:=tP (pl:=pl);rw[<-es,eq,dQ];refine⟨true,rfl,?_⟩;rw[if_neg (by simp)];refine⟨_,nQ rwD mJ kh,_,rfl,?_⟩;rw[if_neg (by simp)];refine⟨_,(show Option.map _ _=some (D.lst (qs.map rwD))by rw[Option.map_some,jP]),_,rfl,fun hz2=>⟨hz2,?_⟩⟩;refine aR rwD (fun _=>true) (fun _=>D.bl true) (fun Δ=>∃x,Δ=[none,none,none,none,none,none,none,none,none,x]) qs _ _ (fun r hr Δ hΔ=>?_) ⟨none,rfl⟩ ?_
  ·obtain⟨x,rfl⟩:=hΔ;refine⟨_,rfl,⟨_,rfl⟩,fun Q1 q=>q,fun _ Q2 q=>?_⟩;walk_at "rd";exact⟨true,rfl,q⟩
  rw[List.nil_append,List.filter_eq_self.mpr (fun _ _=>rfl)];have ea:∀l:List (List Sg),(l.all fun _=>true)=true:=fun l=>by simp
  refine⟨_,mF,rfl,rfl,_,rfl,?_⟩;rw[ea,if_neg (by simp)];refine⟨sz3 0,by rw[List.length_map,hql];exact Nat.lt_of_lt_of_le (by omega:pl.length<16000000) (szB 16000000),ord,row,rfl,hol,hrow,fun pl2 h1 h2 h3 p2 hp2=>?_⟩;have es2:aN (pl2.map kR)=aN (pl.map kR):=fX h1 hpn fun t=>by rw[hpl,h2]
  rw[es2,eq,dQ];walk_at "rd";refine⟨_,nQ rwD mJ kh,_,rfl,?_⟩;rw[if_neg (by simp),show(4:Int)=((4:Nat):Int)from rfl,iB,<-List.map_take];intro hz3;refine⟨hz3,aR rwD (fun _=>true) (fun _=>D.bl true) (fun Δ=>∃x,Δ=[none,none,none,none,none,some (D.tup (ord.map az)),none,none,none,x]) (qs.take 4) _ _ (fun r hr Δ hΔ=>?_) ⟨none,rfl⟩ ?_⟩
  ·obtain⟨x,rfl⟩:=hΔ;have hr':=(hpl r).mp ((hq r).mp (List.mem_of_mem_take hr));have hrl:r.length<=10:=by
    obtain⟨n,hn⟩:=hr'.1.rt;have:=hn.len;omega
   refine⟨_,rfl,⟨_,rfl⟩,fun Q1 q=>q,fun _ Q2 q=>?_⟩;walk_at "rd";refine⟨_,rfl,_,rfl,ord,r,rfl,hol,hrl,fun pl3 g1 g2 g3 p3 hp3=>⟨_,rfl,sz3 1,?_⟩⟩;have e3:aN (pl3.map kR)=[r].map kR:=rR g1 fun t=>by
    rw[g2,mM hr'.2];exact⟨fun z=>z.1,fun z=>⟨z,z▸hr'.2⟩⟩
   rw[e3,dQ,jP];have e4:eqF (D.lst ([r].map rwD)) (D.lst ([r].map rwD))=some (.bl true):=(sY rwD mJ kh).trans (by simp);exact⟨_,e4,rfl,q⟩
  rw[List.nil_append,List.filter_eq_self.mpr (fun _ _=>rfl)];refine⟨_,mF,_,rfl,?_⟩;rw[ea,if_neg (by simp)];exact k' _ _ ⟨_,_,_,_,_,_,_,_,rfl⟩
 ·rintro Δ M ⟨x1,x2,x3,x4,x5,x6,x7,x8,rfl⟩;walk_at "rd";exact k _
end
theorem zm:zj S_law:=fun ns R hn hR=>⟨ns,rfl,rfl,hn,hR⟩
theorem xB{l:PySem.W.OpenLaw}{w:World}{K:PySem.W.Frag}{h:Heap}{mg:Str->Option Value}{fa:Addr}(X:K.In h) (G:h.Ns mainGlobals mg) (hfa:mg "law"=some (.ref fa))
  {f0:Addr} {d0:FuncData}
  {f1:Addr} {d1:FuncData}
  {f2:Addr} {d2:FuncData}
  {f3:Addr} {d3:FuncData}
  {f4:Addr} {d4:FuncData}
  {f5:Addr} {d5:FuncData}
  {f6:Addr} {d6:FuncData}
  {f7:Addr} {d7:FuncData}
  {f8:Addr} {d8:FuncData}
  {f9:Addr} {d9:FuncData}
  {f10:Addr} {d10:FuncData}
  {f11:Addr} {d11:FuncData}
  {f12:Addr} {d12:FuncData}
  {f13:Addr} {d13:FuncData}
  {f14:Addr} {d14:FuncData}
  {f15:Addr} {d15:FuncData}
  (x0:cW K "reached_from" bU f0 d0)
  (x1:cW K "_law_parts" fU f1 d1)
  (x2:cW K "_law_letters" cG f2 d2)
  (x3:cW K "_law_marks" cN f3 d3)
  (x4:cW K "_law_most" gR f4 d4)
  (x5:cW K "_law_row" gK f5 d5)
  (x6:cW K "at_most" dG f6 d6)
  (x7:cW K "_law_cancel" eO f7 d7)
  (x8:cW K "mark_leads" cu f8 d8)
  (x9:cW K "_law_gaps" ix f9 d9)
  (x10:cW K "cancel" eB f10 d10)
  (x11:cW K "_law_plain" bS f11 d11)
  (x12:cW K "cancels_in" bO f12 d12)
  (x13:cW K "rows_by_one_cancel" aH f13 d13)
  (x14:cW K "plain_rows" bg f14 d14)
  (x15:cW K "law" jd f15 d15)
  (z_len:PySem.W.nsIn K mainGlobals "len"=some none)
  (z_range:PySem.W.nsIn K mainGlobals "range"=some none)
  (z_sorted:PySem.W.nsIn K mainGlobals "sorted"=some none)
  (z_set:PySem.W.nsIn K mainGlobals "set"=some none)
  (z_tuple:PySem.W.nsIn K mainGlobals "tuple"=some none)
  (z_all:PySem.W.nsIn K mainGlobals "all"=some none)
  (z_any:PySem.W.nsIn K mainGlobals "any"=some none)
  (z_list:PySem.W.nsIn K mainGlobals "list"=some none)
  (z_isinstance:PySem.W.nsIn K mainGlobals "isinstance"=some none)
 :∃fd:FuncData,(∀(s:Shared) (v:Value),BindsTo s fd ⟨[v],[]⟩ [("_law_script",v)])/\∀base:Heap,K.In base->base.Ns mainGlobals mg->bw l.prog w K mg base CX0 8 fa fd ["_law_script"] (spD K 1 S_law):=by
 have T:Txt mg:=⟨PySem.W.mg_none_of X G z_len,PySem.W.mg_none_of X G z_range,PySem.W.mg_none_of X G z_sorted,PySem.W.mg_none_of X G z_set,PySem.W.mg_none_of X G z_tuple,PySem.W.mg_none_of X G z_all,PySem.W.mg_none_of X G z_any,PySem.W.mg_none_of X G z_list,PySem.W.mg_none_of X G z_isinstance⟩;refine xE X G hfa x15 (fun _ _ _ _ _ _ _=>rfl) fun base=>?_;have G5:=fg X G x0 (eW (P:=l.prog) (w:=w) (base:=base) x0.F T ) (bd2 x0.F fun _ _ _ _ _ _ _ _=>rfl);have Y2:=fg X G x1 (m6 (P:=l.prog) (w:=w) (base:=base) x1.F T ) (bd2 x1.F fun _ _ _ _ _ _ _ _=>rfl);have G8:=fg X G x2 (j6 (P:=l.prog) (w:=w) (base:=base) x2.F T ) (bd2 x2.F fun _ _ _ _ _ _ _ _=>rfl);have Y1:=fg X G x3 (mn (P:=l.prog) (w:=w) (base:=base) x3.F T ) (bd2 x3.F fun _ _ _ _ _ _ _ _=>rfl);have G9:=fg X G x4 (oB (P:=l.prog) (w:=w) (base:=base) x4.F T ) (bd3 x4.F fun _ _ _ _ _ _ _ _ _=>rfl);have Y4:=fg X G x5 (qI (P:=l.prog) (w:=w) (base:=base) x5.F T ) (bd3 x5.F fun _ _ _ _ _ _ _ _ _=>rfl);have G7:=fg X G x6 (ku (P:=l.prog) (w:=w) (base:=base) x6.F T G5) (bd3 x6.F fun _ _ _ _ _ _ _ _ _=>rfl);have G4:=fg X G x7 (kW (P:=l.prog) (w:=w) (base:=base) x7.F T G9) (bd3 x7.F fun _ _ _ _ _ _ _ _ _=>rfl);have G6:=fg X G x8 (gn (P:=l.prog) (w:=w) (base:=base) x8.F T G7) (bd4 x8.F fun _ _ _ _ _ _ _ _ _ _=>rfl);have Y3:=fg X G x9 (pD (P:=l.prog) (w:=w) (base:=base) x9.F T G4) (bd2 x9.F fun _ _ _ _ _ _ _ _=>rfl);have G0:=fg X G x10 (kX (P:=l.prog) (w:=w) (base:=base) x10.F T G6) (bd3 x10.F fun _ _ _ _ _ _ _ _ _=>rfl);have Y0:=fg X G x11 (mV (P:=l.prog) (w:=w) (base:=base) x11.F T Y3 G4) (bd2 x11.F fun _ _ _ _ _ _ _ _=>rfl);have G1:=fg X G x12 (gp (P:=l.prog) (w:=w) (base:=base) x12.F T G0) (bd2 x12.F fun _ _ _ _ _ _ _ _=>rfl);have G2:=fg X G x13 (cP (P:=l.prog) (w:=w) (base:=base) x13.F T G1) (bd2 x13.F fun _ _ _ _ _ _ _ _=>rfl);have G3:=fg X G x14 (gD (P:=l.prog) (w:=w) (base:=base) x14.F T G2 G1) (bd2 x14.F fun _ _ _ _ _ _ _ _=>rfl);exact wo x15.F T Y2 Y1 Y4 Y0 G3 G8
end My
namespace PySem.W.Fast
def tw10021672755090597814:=Nat
def tw10038370905492815020:=Nat
def tw10106245400181151542:=Nat
def tw1027605665329549834:=Nat
def tw10380434873375024277:=Nat
def tw10383885709365820848:=Nat
def tw10461573204041876409:=Nat
def tw10755159443825436351:=Nat
def tw10981380130227703429:=Nat
def tw11181611452416972005:=Nat
def tw11211995845604392142:=Nat
def tw11630772159883641034:=Nat
def tw11633368486721908783:=Nat
def tw11852856075190566793:=Nat
def tw11937753379498103176:=Nat
def tw12069612932902381563:=Nat
def tw12256202767582686469:=Nat
def tw12271621823225513828:=Nat
def tw12317770710974065049:=Nat
def tw12338890758870757913:=Nat
def tw12730237312614710559:=Nat
def tw12795185016076234404:=Nat
def tw13278266442253708594:=Nat
def tw13363110321202834582:=Nat
def tw13478514418295669758:=Nat
def tw13574443547247044160:=Nat
def tw13970603146744660776:=Nat
def tw14013165219701335410:=Nat
def tw14027285361905604527:=Nat
def tw14036224625030434823:=Nat
def tw14504502750924335895:=Nat
def tw14596424032414014113:=Nat
def tw15052165142573459492:=Nat
def tw15272070250279310821:=Nat
def tw15595150124941323754:=Nat
def tw16547243699906016085:=Nat
def tw16720185194363927641:=Nat
def tw1676020069545004329:=Nat
def tw16765775186906755773:=Nat
def tw16778491358019020957:=Nat
def tw16898173259243097889:=Nat
def tw17868711969086574415:=Nat
def tw1907160234785846118:=Nat
def tw2044853371293745607:=Nat
def tw2280405826464319050:=Nat
def tw2338048002764339479:=Nat
def tw2742868712568112870:=Nat
def tw2952229622900207043:=Nat
def tw3580609859464216206:=Nat
def tw4125913797233897156:=Nat
def tw4152813829731023750:=Nat
def tw4789953006633089842:=Nat
def tw4942228699685826121:=Nat
def tw5102695901787002886:=Nat
def tw593683872170705389:=Nat
def tw6108448100199557428:=Nat
def tw6398441189610233196:=Nat
def tw6869262893350069175:=Nat
def tw734030183301492925:=Nat
def tw7380240038384403493:=Nat
def tw7467564175797789284:=Nat
def tw7727696994634496673:=Nat
def tw777367975135007541:=Nat
def tw7880413244002892789:=Nat
def tw807218894216397898:=Nat
def tw8131680128108556860:=Nat
def tw8391632174256239474:=Nat
def tw8682707449271147972:=Nat
def tw8687636585834195310:=Nat
def tw8735474844536829879:=Nat
def tw889096581322738864:=Nat
def tw956897302905329981:=Nat
end PySem.W.Fast
open PySem PySem.W PyProof.Rows
set_option maxRecDepth 100000 in
set_option maxHeartbeats 0 in
theorem PySem.Challenge.cw_wordwishes_k39_plain_rows_holds : PySem.Challenge.rw_wordwishes_k39_plain_rows.Holds := by
 w_on;o_law;z_head;(case hw=>w_witness2)
 k_fill
 refine L2.qX (fun _=>rfl) ?_;refine L2.xQ (S:=My.S_law) My.zm (k:=8) (x:="_law_script") (l:=PySem.Challenge.rw_wordwishes_k39_plain_rows) ⟨rfl,by decide,by decide⟩ rfl rfl (fun w h Y=>Y) ?F
 case F =>
  intro w mg fa h KX G hmg
  refine' My.xB KX G hmg ?_ ?_ ?_ ?_ ?_ ?_ ?_ ?_ ?_ ?_ ?_ ?_ ?_ ?_ ?_ ?_ ?_ ?_ ?_ ?_ ?_ ?_ ?_ ?_ ?_
  all_goals try first|exact L2.zq (by k_is) (by k_is) (by k_is) (by k_is)|exact L2.qA (by k_is) (by k_is) (by k_is)|k_is
