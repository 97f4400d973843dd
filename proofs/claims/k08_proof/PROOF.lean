import PyProof.Rows.All
import Wide.All
import OpenK.AllK
import Wide.FinOn
import Lean
import PyProof.EqAt
import PyProof.EqKinds
import PyProof.TupleCall
import KE.KRevIter
import PyProof.NeKinds
import PyProof.Draws
import PyProof.EnumMake
import KE.KSortTup
import PyProof.ZipIter
import KE.KDictList
import PyProof.AttrMissHeap
import KE.KDictOf
import PyProof.Rows.SetFrom
import PyProof.Rows.SortRunsK
import PyProof.IsRules
import PyProof.SetRoads
import PySem.Challenge.RW_wordwishes_k08_lexicons_written
set_option Elab.async false
set_option linter.all false
set_option maxRecDepth 100000
set_option maxHeartbeats 4000000
set_option bootstrap.genMatcherCode false
set_option compiler.extract_closed false
noncomputable section
open PySem.W renaming Frag->o0,keepIn->K4,fnOf->N5
open PySem renaming Value->s0,Shared->u8,sizeLine->A3,wpAny_bind->A4,starEach->A8,Addr->B0,wpAny_pure->B2,Expr->B5,wpAny->B9,compareOp->C2,Builtin->C4,Heap->C7,model->C8,Program->D0,NameKind->D2,mem_of_lookup->D4,Around->D9,assignEach->E3,wpAny_newObj_type->E4,binaryOp->E8,World->F2,wpAny_mono->F5,bootBuiltins->F7,FuncData->F8,backTo->J0,wpAny_truthy_bool->J1,foldedSetIterable->J3,wpAny_callSpecial?_slot->K0,wpAny_getItem_str_slice->K1,Spec->K2,Paired->K6,mainGlobals->K8,attributeBase->L1,Scope->L5,behindInMarks->L6,letOwnedTupleGo->L7,wpAny_passesOwn->L9,Keyword->M6,eval->N0,wpAny_field->N1,sliceBounds->N2,keywordEach->N3,call_meets->N4,wpAny_call_entry->N7,wpAny_holding->O0,Comprehension->O1,post_val_or_str->O7,assign->O9,typeIs_str->P2,swapsWith->P8,typeIs_int->Q4,backToKw->Q5,Stmt->Q6,holding->Q9,codeAny->R0,callerA->R1,IsPart->R4,getItem->R5,BindsTo->R7,cellsFrom->R8
open List renaming size_toArray->A5,replicate->A7,mem_append_right->B3,mem_cons_of_mem->B7,replicate_succ->C5,getElem?_append_left->C6,lookup_cons->D5,mem_cons_self->D7,getElem?_eq_some_iff->E5,map_cons->E6,length_append->E9,getElem?_map->F0,getElem?_append_right->F3,any_cons->F9,flatten_cons->J4,filterMap_cons->J6,mem_cons->J7,getElem?_replicate->J9,range->K3,getElem?_set_self->K5,mem_singleton->K7,mem_append->K9,mem_filterMap->L8,append_nil->M0,nodup_cons->M7,all_cons->M8,all_eq_true->N9,length_map->O4,foldl->R6
open PySem.Heap renaming get?_push_of_some->A6,lt_size->A9,get?_push_size->B6,SameBut->L4
open Nat renaming lt_of_lt_of_le->B1,le_refl->B4,ne_of_lt->B8,le_trans->D3,lt_succ_of_lt->F1,lt_irrefl->J5,lt_succ_self->N8,zero_le->P5,ne_of_gt->P9
open Option.some renaming inj->C0
open Bool renaming and_eq_true->C1,false_ne_true->C9,false_eq_true->E2
open PyProof.Rows renaming slot_tuple_getitem->C3,kindOf->P1,AllBare->P3,envOfC->R3,IsTup->S0
open PySem.Builtin.Tuple renaming tupleExact->D1
open PySem.SeqAt renaming EqAt->D6
open Option renaming some->D8
open ForInStep renaming yield->E1
open PySem.NameKind renaming free->E7,cell->M9
open PySem.F renaming slot_tuple_iterator_next->F4,slot_int_rmul->O5
open False renaming elim->F6
open PySem.Builtin.Slice renaming slicePlaces->H0
open PySem.Builtin.SmallTypes renaming nextOf->I0
open PySem.Builtin.Str renaming occurrences->J8
open Array renaming length_toList->L3
open PySem.Str renaming ofString->N6,join->O2
open PySem.Value renaming none->O3,ref->P6
open PySem.Txt renaming slice->O6,split->O8,slice_le->Q0
open Pure renaming pure->P0
open PySem.Code renaming compLoop->P4
open Ne renaming symm->P7
open PySem.Obj renaming mapSeq->Q3
open Sum renaming inl->Q7,inr->Q8
open LawfulMonad renaming pure_bind->R9
set_option compiler.extract_closed false
namespace L2
open PySem PySem.Spec PyProof.Rows
abbrev Key:=Sum Int Str
def wA:Key->s0->Bool
 |.inl k,v=>s0.isInt k v
 |.inr x,v=>s0.isStrOf x v
noncomputable def Ak(w:F2):Key->Int
 |.inl k=>hashInt k
 |.inr x=>hashStr w x
theorem bg:∀{k:Key}{v:s0},wA k v=true->(∃i t,k=Q7 i/\v=s0.int i t)∨(∃x t,k=Q8 x/\v=s0.str x t)
 |.inl i,v,h=>by
  obtain⟨t,e⟩:=s0.isInt_shape (k:=i) (v:=v) h;exact .inl ⟨i,t,rfl,e⟩
 |.inr x,v,h=>by
  obtain⟨t,e⟩:=s0.isStrOf_shape (x:=x) (v:=v) h;exact .inr ⟨x,t,rfl,e⟩
theorem wV(a b:Int):decide ((Q7 a:Key)=Q7 b)=(a==b):=by
 by_cases e:a=b
 ·subst e;simp
 ·have h:¬ (Q7 a:Key)=Q7 b:=fun q=>e (Q7.inj q);rw[decide_eq_false h];exact(beq_eq_false_iff_ne.mpr e).symm
theorem xm(a b:Str):decide ((Q8 a:Key)=Q8 b)=decide (a=b):=by
 by_cases e:a=b
 ·subst e;simp
 ·have h:¬ (Q8 a:Key)=Q8 b:=fun q=>e (Q8.inj q);rw[decide_eq_false h,decide_eq_false e]
theorem yn(a:Int) (b:Str):decide ((Q7 a:Key)=Q8 b)=false:=decide_eq_false (fun q=>nomatch q)
theorem wF(a:Str) (b:Int):decide ((Q8 a:Key)=Q7 b)=false:=decide_eq_false (fun q=>nomatch q)
def qe(prog:D0) (w:F2):PySem.KeyKind prog w Key where
 is:=wA
 hash:=Ak w
 inj:=fun v a b ha hb=>by
  rcases bg ha with⟨i,t,rfl,rfl⟩|⟨x,t,rfl,rfl⟩
  ·rcases bg hb with⟨j,u,rfl,e⟩|⟨y,u,rfl,e⟩
   ·injection e with e1 _;rw[e1]
   ·exact nomatch e
  ·rcases bg hb with⟨j,u,rfl,e⟩|⟨y,u,rfl,e⟩
   ·exact nomatch e
   ·injection e with e1 _;rw[e1]
 byValue:=fun k v h=>by
  rcases bg h with⟨i,t,rfl,rfl⟩|⟨x,t,rfl,rfl⟩<;>rfl
 pyHash:=fun hv h=>by
  rcases bg hv with⟨i,t,rfl,rfl⟩|⟨x,t,rfl,rfl⟩
  ·exact wpAny_pyHash_int h
  ·exact wpAny_pyHash_str h
 eqBool:=fun hu hv h=>by
  rcases bg hu with⟨i,t,rfl,rfl⟩|⟨x,t,rfl,rfl⟩
  ·rcases bg hv with⟨j,u,rfl,rfl⟩|⟨y,u,rfl,rfl⟩
   ·rw[wV]at h;exact wpAny_eqBool_int h
   ·rw[yn]at h;exact D6.int_str i t y u _ _ _ _ h
  ·rcases bg hv with⟨j,u,rfl,rfl⟩|⟨y,u,rfl,rfl⟩
   ·rw[wF]at h;exact D6.str_int x t j u _ _ _ _ h
   ·rw[xm]at h;exact wpAny_eqBool_str h
 «strs»:=fun k x t v h=>by
  rcases bg h with⟨i,u,rfl,e⟩|⟨y,u,rfl,e⟩
  ·exact nomatch e
  ·injection e with e1 _
   subst e1;cases v<;>rfl
inductive V where
 |non|bl (b:Bool)|int (i:Int)|str (x:Str)|byt (b:Array UInt8)|flt (b:UInt64)|ref (a:B0)|ty (n:String)
 deriving DecidableEq
def aG:V->s0->Prop
 |.non,u=>u=O3
 |.bl b,u=>u=s0.bool b
 |.int i,u=>∃t,u=s0.int i t
 |.str x,u=>∃t,u=s0.str x t
 |.byt b,u=>∃t,u=s0.bytes b t
 |.flt b,u=>∃t,u=s0.float b t
 |.ref a,u=>u=P6 a
 |.ty n,u=>u=s0.type n
abbrev ay:List V->List s0->Prop:=K6 aG
theorem ay.length{xs:List V}{us:List s0}(r:ay xs us):xs.length=us.length:=K6.length r
theorem ay.get:∀{xs:List V}{us:List s0}{i:Nat}{x:V},ay xs us->xs[i]?=some x->∃u,us[i]?=some u/\aG x u
 |_,_,_,_,.nil,e=>by simp at e
 |_,_,0,_,.cons r _,e=>by simp at e;subst e;exact⟨_,rfl,r⟩
 |_,_,i+1,x,.cons _ t,e=>by
  obtain⟨u,h1,h2⟩:=ay.get (i:=i) (x:=x) t (by simpa using e);exact⟨u,by simpa using h1,h2⟩
theorem ay.set{x:V}{u:s0}(r:aG x u):∀{xs:List V}{us:List s0}(i:Nat),ay xs us->ay (xs.set i x) (us.set i u)
 |_,_,_,.nil=>.nil
 |_,_,0,.cons _ t=>.cons r t
 |_,_,i+1,.cons q t=>.cons q (ay.set r i t)
theorem ay.append:∀{xs ys:List V}{us ws:List s0},ay xs us->ay ys ws->ay (xs++ys) (us++ws)
 |_,_,_,_,.nil,s=>s
 |_,_,_,_,.cons r t,s=>.cons r (ay.append t s)
theorem ay.take:∀{xs:List V}{us:List s0}(n:Nat),ay xs us->ay (xs.take n) (us.take n)
 |_,_,0,_=>.nil
 |_,_,_+1,.nil=>.nil
 |_,_,n+1,.cons r t=>.cons r (ay.take n t)
theorem ay.drop:∀{xs:List V}{us:List s0}(n:Nat),ay xs us->ay (xs.drop n) (us.drop n)
 |_,_,0,r=>r
 |_,_,_+1,.nil=>.nil
 |_,_,n+1,.cons _ t=>ay.drop n t
def u5:Option V->Option s0->Prop
 |some v,some u=>aG v u
 |none,none=>True
 |_,_=>False
def KV{κ:Type}:List (κ×V)->List (κ×s0)->Prop:=K6 fun(p:κ×V) (q:κ×s0)=>p.1=q.1/\aG p.2 q.2
def kV:Key->V
 |.inl i=>.int i
 |.inr x=>.str x
inductive HO where
 |lst (xs:List V)
 |tup (xs:List V)
 |dK (kvs:List (Key×V))|dT (kvs:List (List Key×V))
 |set (S:Int->Bool) (n:Nat)
 |ins (C dx:B0) (fs:List (Str×V))
 |own (x:B0)
 |xd (fs:List (Str×V))
 |met (f x:B0)
 |rng (lo hi:Int)
 |frz (o:Obj) (u:HO)
 |tbl (ps:Array s0)
 |ext (φ:C7->Prop)
abbrev Hp:=B0->Option HO
def upd(H:Hp) (a:B0) (o:HO):Hp:=fun b=>if b=a then some o else H b
theorem bK{H:Hp}{a:B0}{o:HO}:upd H a o a=some o:=by unfold upd;rw[if_pos rfl]
theorem aM{H:Hp}{a b:B0}{o:HO}(h:b≠a):upd H a o b=H b:=by unfold upd;rw[if_neg h]
theorem bW{H:Hp}{a b:B0}{o:HO}(h:H a=some o) (h':H b=none):a≠b:=by
 intro e;subst e;rw[h]at h';cases h'
def kz(h:C7) (a:B0) (xs:Array s0):Prop:=∃o,h.get? a=some o/\o.cls=.type "tuple"/\(∃n,o.data=.seq xs n)/\o.dict=none
theorem kz.tup{h:C7}{a:B0}{xs:Array s0}(x:kz h a xs):S0 h a xs:=let⟨o,e,c,d,_⟩:=x;⟨o,e,c,d⟩
theorem kz.lt{h:C7}{a:B0}{xs:Array s0}(x:kz h a xs):a<h.objs.size:=let⟨_,e,_⟩:=x;A9 e
theorem kz.new(h:C7) (xs:Array s0):kz (h.push { cls:=.type "tuple",data:=.seq xs }) h.objs.size xs:=⟨_,B6 h rfl,rfl,⟨_,rfl⟩,rfl⟩
section
variable(P:D0) (w:F2)
def dR(H:Hp) (h:C7) (a:B0):HO->Prop
 |.lst xs=>xs.length<=A3/\∃(its:List s0) (n:Nat),ay xs its/\h.get? a=some { cls:=.type "list",data:=.seq its.toArray n }
 |.tup xs=>xs.length<=A3/\∃its:List s0,ay xs its/\kz h a its.toArray
 |.dK kvs=>kvs.length<=A3/\(a==sysModules)=false/\∃vs,KV kvs vs/\h.DictOf (qe P w) a vs
 | .dT kvs => kvs.length ≤ A3 ∧ (a == sysModules) = false ∧ ∃ xs:List (List Key × B0 × s0),
   K6 (fun(p:List Key×V) (q:List Key×B0×s0)=>p.1=q.1/\H q.2.1=some (.tup (p.1.map kV))/\aG p.2 q.2.2) kvs xs /\
   ∃o es ep,h.get? a=some o/\o.ExactDict/\o.data=.dict es ep/\es.toList=xs.map (entryOfKey (tupleKind (qe P w)))/\(xs.map (·.1)).Nodup
 |.set S n=>h.SetOf (intKind P w) a S n
 | .ins C dx fs => H dx = some (.own a) ∧ fs.length ≤ 1000 ∧ dx ≠ a ∧ h.get? a = some (PySem.W.instObj C dx) ∧
   ∃mA,h.Ns1 dx mA/\(∀f,u5 (fs.lookup f) (mA f))/\PySem.Within mA (fs.map (·.1))
 |.own _=>∃o,h.get? a=some o
 |.xd fs=>∃mA,h.Ns1 a mA/\∀f,u5 (fs.lookup f) (mA f)
 |.rng lo hi=>∃t u v,h.get? a=some { cls:=.type "range",data:=.fields #[.int lo t,.int hi u,.int 1 v] }
 |.frz o u=>h.get? a=some o/\dR H h a u
 |.tbl ps=>h.get? a=some { cls:=.none,data:=.fields ps }
 |.met f x=>h.get? a=some (PySem.W.methodObj (.ref f) (.ref x))
 |.ext φ=>φ h/\(∃o,h.get? a=some o)/\∀h1 h2:C7,φ h1->(∀o,h1.get? a=some o->h2.get? a=some o)->φ h2
def HOk(H:Hp) (h:C7):Prop:=∀a o,H a=some o->dR P w H h a o
end
section
variable{P:D0}{w:F2}{H H':Hp}{h h':C7}{a:B0}{o:HO}
theorem dR.lt(x:dR P w H h a o):a<h.objs.size:=by
 cases o with
 |lst xs=>obtain⟨_,_,_,_,e⟩:=x;exact A9 e
 |tup xs=>obtain⟨_,_,_,p⟩:=x;exact p.lt
 |dK kvs=>obtain⟨_,_,_,_,o,_,_,e,_⟩:=x;exact A9 e
 |dT kvs=>obtain⟨_,_,_,_,o,_,_,e,_⟩:=x;exact A9 e
 |set S n=>obtain⟨o,_,_,_,e,_⟩:=x;exact A9 e
 |ins C dx fs=>obtain⟨_,_,_,e,_⟩:=x;exact A9 e
 |own y=>obtain⟨_,e⟩:=x;exact A9 e
 |xd fs=>obtain⟨_,⟨_,_,_,e,_⟩,_⟩:=x;exact A9 e
 |rng lo hi=>obtain⟨_,_,_,e⟩:=x;exact A9 e
 |frz ob u=>obtain⟨e,_⟩:=x;exact A9 e
 |tbl ps=>exact A9 (show h.get? a=some _ from x)
 |met f y=>exact A9 (show h.get? a=some _ from x)
 |ext φ=>obtain⟨_,⟨_,e⟩,_⟩:=x;exact A9 e
theorem K6.mapP{α β:Type}{F G:α->β->Prop}:∀{l₁:List α}{l₂:List β},K6 F l₁ l₂->(∀a b,F a b->G a b)->K6 G l₁ l₂
 |_,_,.nil,_=>.nil
 |_,_,.cons r t,f=>.cons (f _ _ r) (K6.mapP t f)
theorem K6.imp'{α β:Type}{F G:α->β->Prop}(f:∀a b,F a b->G a b) {l₁:List α}{l₂:List β}(r:K6 F l₁ l₂):K6 G l₁ l₂:=K6.mapP r f
theorem dR.stay(x:dR P w H h a o) (k:∀b u,(b=a∨H b=some (.own a))->h.get? b=some u->h'.get? b=some u)
  (ho:∀b,H b=some (.own a)->H' b=some (.own a)) (ht:∀b xs,H b=some (.tup xs)->H' b=some (.tup xs)):dR P w H' h' a o:=by
 induction o with
 |lst xs=>obtain⟨z,its,n,r,e⟩:=x;exact⟨z,its,n,r,k _ _ (.inl rfl) e⟩
 |tup xs=>obtain⟨z,its,r,ob,e,c⟩:=x;exact⟨z,its,r,ob,k _ _ (.inl rfl) e,c⟩
 |dK kvs=>obtain⟨z,y,vs,r,ob,es,ep,e,c⟩:=x;exact⟨z,y,vs,r,ob,es,ep,k _ _ (.inl rfl) e,c⟩
 |dT kvs =>
  obtain⟨z,y,xs,r,ob,es,ep,e,c⟩:=x;exact⟨z,y,xs,K6.mapP r fun p q z=>⟨z.1,ht _ _ z.2.1,z.2.2⟩,ob,es,ep,k _ _ (.inl rfl) e,c⟩
 |set S n=>obtain⟨ob,es,ep,t,e,c⟩:=x;exact⟨ob,es,ep,t,k _ _ (.inl rfl) e,c⟩
 |ins C dx fs =>
  obtain⟨d,z,ne,e,mA,⟨od,es,ep,e2,c⟩,r⟩:=x;exact⟨ho _ d,z,ne,k _ _ (.inl rfl) e,mA,⟨od,es,ep,k _ _ (.inr d) e2,c⟩,r⟩
 |own y=>obtain⟨ob,e⟩:=x;exact⟨ob,k _ _ (.inl rfl) e⟩
 |xd fs=>obtain⟨mA,⟨od,es,ep,e,c⟩,r⟩:=x;exact⟨mA,⟨od,es,ep,k _ _ (.inl rfl) e,c⟩,r⟩
 |rng lo hi=>obtain⟨t,u,v,e⟩:=x;exact⟨t,u,v,k _ _ (.inl rfl) e⟩
 |frz ob u ih=>obtain⟨e,q⟩:=x;exact⟨k _ _ (.inl rfl) e,ih q⟩
 |tbl ps =>
  have e:h.get? a=some { cls:=.none,data:=.fields ps }:=x;show h'.get? a=some { cls:=.none,data:=.fields ps };exact k a _ (.inl rfl) e
 |met f y =>
  have e:h.get? a=some (PySem.W.methodObj (.ref f) (.ref y)):=x;show h'.get? a=some (PySem.W.methodObj (.ref f) (.ref y));exact k a _ (.inl rfl) e
 |ext φ=>obtain⟨p,⟨o,e⟩,st⟩:=x;exact⟨st _ _ p fun o q=>k _ _ (.inl rfl) q,⟨o,k _ _ (.inl rfl) e⟩,st⟩
theorem HOk.lt(x:HOk P w H h) (e:H a=some o):a<h.objs.size:=(x a o e).lt
theorem HOk.fresh(x:HOk P w H h) (e:h.objs.size<=a):H a=none:=by
 cases q:H a with
 |none=>rfl
 |some u=>exact absurd (B1 (x.lt q) e) (J5 _)
theorem HOk.kept(x:HOk P w H h) (k:∀b u,h.get? b=some u->h'.get? b=some u):HOk P w H h':=fun a o e =>
 (x a o e).stay (fun b u _ q=>k b u q) (fun _ q=>q) fun _ _ q=>q
theorem HOk.laid(x:HOk P w H h) (k:∀b u,h.get? b=some u->h'.get? b=some u) (hp:h.objs.size<=a) (new:dR P w (upd H a o) h' a o):HOk P w (upd H a o) h':=fun b u e=>by
 have hn:=x.fresh hp
 by_cases hb:b=a
 ·subst hb;rw[bK]at e;cases e;exact new
 ·rw[aM hb]at e;exact(x b u e).stay (fun c v _ q=>k c v q) (fun c q=>by rw[aM (bW q hn)];exact q) fun c xs q=>by rw[aM (bW q hn)];exact q
end
def Rd(H:Hp) (a:B0) (u:HO):Prop:=H a=some u∨∃o,H a=some (.frz o u)
theorem Rd.of{H:Hp}{a:B0}{u:HO}(h:H a=some u):Rd H a u:=.inl h
theorem Rd.ok{P:D0}{w:F2}{H:Hp}{h:C7}{a:B0}{u:HO}(r:Rd H a u) (x:HOk P w H h):dR P w H h a u:=by
 rcases r with r|⟨o,r⟩
 ·exact x a u r
 ·obtain⟨_,q⟩:=x a _ r;exact q
def Mut:Option HO->Prop
 |some (.lst _)=>True
 |some (.dK _)=>True
 |some (.dT _)=>True
 |some (.set _ _)=>True
 |some (.ins _ _ _)=>True
 |some (.ext _)=>True
 |_=>False
section
variable{P:D0}{w:F2}{H:Hp}{h h':C7}{x e:B0}{o':HO}
theorem HOk.write(ok:HOk P w H h) (mu:Mut (H x)) (he:e=x∨H e=some (.own x)) (k:∀b u,b≠e->h.get? b=some u->h'.get? b=some u) (heo:∃u,h'.get? e=some u)
  (new:dR P w (upd H x o') h' x o'):HOk P w (upd H x o') h':=fun b u q=>by
 have nown:∀c y,H c=some (.own y)->c≠x:=fun c y r z=>by subst z;rw[r]at mu;exact mu
 have ntup:∀c xs,H c=some (.tup xs)->c≠x:=fun c xs r z=>by subst z;rw[r]at mu;exact mu
 by_cases hb:b=x
 ·subst hb;rw[bK]at q;cases q;exact new
 ·rw[aM hb]at q
  by_cases hbe:b=e
  ·have q':H b=some (.own x):=by
    rcases he with z|z
    ·exact absurd (hbe.trans z) hb
    ·rw[hbe];exact z
   rw[q]at q';cases q';obtain⟨v,hv⟩:=heo;exact⟨v,by rw[hbe];exact hv⟩
  ·refine(ok b u q).stay (fun c v hc r=>k c v ?_ r) (fun c r=>by rw[aM (nown c b r)];exact r) fun c xs r=>by rw[aM (ntup c xs r)];exact r
   rcases hc with rfl|hc
   ·exact hbe
   ·rintro rfl;rcases he with z|z
    ·exact nown c b hc z
    ·rw[hc]at z;cases z;exact hb rfl
end
structure Un(fs ex:List B0) (H H':Hp) (h h':C7):Prop where
 keep:∀b o,h.get? b=some o->H b=none->b∉fs->b∉ex->h'.get? b=some o
 slot:∀b o,h.get? b=some o->H b=none->b∈fs->b∉ex->∃sl,h'.get? b=some { o with slots:=sl }
 free:∀b o,h.get? b=some o->H b=none->b∉ex->H' b=none
 there:∀b o,h.get? b=some o->b∉ex->∃o',h'.get? b=some o'
 tups:∀b xs,H b=some (.tup xs)->H' b=some (.tup xs)
 frzs:∀b o u,H b=some (.frz o u)->H' b=some (.frz o u)
 tbls:∀b ps,H b=some (.tbl ps)->∃more,H' b=some (.tbl (ps++more))
section
variable{fs fs' ex ex':List B0}{H H1 H2:Hp}{h h1 h2 h':C7}{a x e:B0}{o:HO}
theorem Un.any(u:Un fs ex H H1 h h1) {b:B0}{ob:Obj}(q:h.get? b=some ob) (n:H b=none) (hx:b∉ex):∃sl,h1.get? b=some { ob with slots:=sl }:=by
 by_cases hb:b∈fs
 ·exact u.slot b ob q n hb hx
 ·exact⟨ob.slots,u.keep b ob q n hb hx⟩
theorem Un.kept(k:∀b u,h.get? b=some u->h'.get? b=some u):Un fs ex H H h h' :=
 ⟨fun b ob q _ _ _=>k b ob q,fun b ob q _ _ _=>⟨ob.slots,k b ob q⟩,fun _ _ _ n _=>n,fun b ob q _=>⟨ob,k b ob q⟩,fun _ _ q=>q,fun _ _ _ q=>q,fun _ ps q=>⟨#[],by rw[q];simp⟩⟩
theorem Un.refl:Un fs ex H H h h:=Un.kept fun _ _ q=>q
theorem Un.laid(k:∀b u,h.get? b=some u->h'.get? b=some u) (hp:h.objs.size<=a) (hn:H a=none):Un fs ex H (upd H a o) h h' where
 keep:=fun b u q _ _ _=>k b u q
 slot:=fun b u q _ _ _=>⟨u.slots,k b u q⟩
 free:=fun b u q n _=>by rw[aM (B8 (B1 (A9 q) hp))];exact n
 there:=fun b u q _=>⟨u,k b u q⟩
 tups:=fun b xs q=>by rw[aM (bW q hn)];exact q
 frzs:=fun b u xs q=>by rw[aM (bW q hn)];exact q
 tbls:=fun b ps q=>⟨#[],by rw[aM (bW q hn),q];simp⟩
theorem Un.write(mu:Mut (H x)) (he:e=x∨H e=some (.own x)) (k:∀b u,b≠e->h.get? b=some u->h'.get? b=some u) (heo:∃u,h'.get? e=some u):Un fs ex H (upd H x o) h h':=by
 have hx:∀b,H b=none->b≠x:=fun b n z=>by subst z;rw[n]at mu;exact mu
 have hb:∀b,H b=none->b≠e:=fun b n z=>by
  subst z;rcases he with r|r
  ·exact hx b n r
  ·rw[n]at r;cases r
 have hm:∀b u,H b=some u->¬ Mut (some u)->b≠x:=fun b u q nm z=>by subst z;rw[q]at mu;exact nm mu
 refine⟨fun b u q n _ _=>k b u (hb b n) q,fun b u q n _ _=>⟨u.slots,k b u (hb b n) q⟩,fun b u q n _=>by rw[aM (hx b n)];exact n,fun b u q _=>?_,
  fun b xs q=>by rw[aM (hm b _ q fun z=>z)];exact q,fun b u xs q=>by rw[aM (hm b _ q fun z=>z)];exact q,fun b ps q=>⟨#[],by rw[aM (hm b _ q fun z=>z),q];simp⟩⟩
 by_cases hbe:b=e
 ·subst hbe;exact heo
 ·exact⟨u,k b u hbe q⟩
end
def trk(h:C7) (H:Hp):List B0:=(K3 h.objs.size).filter fun a=>(H a).isSome
def mi(h:C7) (H:Hp):C7:=PySem.W.hideAll h (trk h H)
theorem qN(h:C7) (H:Hp):(mi h H).objs.size=h.objs.size:=PySem.W.hideAll_size _ _
theorem rV{h:C7}{H:Hp}{b:B0}{o:Obj}(e:h.get? b=some o) (n:H b=none):(mi h H).get? b=some o :=
 PySem.W.hideAll_get _ e fun hm=>by
  have q:(H b).isSome=true:=(List.mem_filter.mp hm).2;rw[n]at q;simp at q
theorem vq{h:C7}{H:Hp}{b:B0}{o:Obj}(e:(mi h H).get? b=some o):h.get? b=some o/\H b=none:=by
 have e':h.get? b=some o:=PySem.W.of_hideAll (trk h H) e;refine⟨e',?_⟩;cases q:H b with
 |none=>rfl
 |some x =>
  have hm:b∈trk h H:=List.mem_filter.mpr ⟨List.mem_range.mpr (A9 e'),by simp[q]⟩;have z:(mi h H).get? b=none:=PySem.W.hideAll_none (trk h H) hm;rw[z]at e;cases e
noncomputable def vF(g h:C7) (L:B0):List (B0×Obj):=(K3 h.objs.size).filterMap fun a=>if a=L∨(g.get? a).isSome=true then none else(h.get? a).map fun o=>(a,o)
def aU(g h:C7) (L d:B0):List (B0×Obj):=(vF g h L).filter fun p=>decide (p.1≠d)
structure Mod(K:o0) (mg:Str->Option s0) (base:C7):Prop where
 kin:K.In base
 glob:base.Ns K8 mg
 blt:∃mb,base.Ns builtinsNs mb/\∀x:Str,x≠"__name__"->mb x=F7 x
 nolimit:base.NoLimit
structure Cx where
 prog:D0
 w:F2
 K:o0
 mg:Str->Option s0
 base:C7
 A:D9
 N:List Str
 s₀:u8
 H₀:Hp
 env:Env
 outer:List Env
 stack:List Env
 ex:List B0
 fn:Str->Bool
 calm:Bool
 pn:List (B0×Obj)
 xe:s0->u8->Prop
def frs(l:List Env):List B0:=l.filterMap (·.frame)
abbrev Cx.fs(X:Cx):List B0:=frs X.outer
def Vis(sc:L5) (x:Str):Prop:=sc.names.lookup x=some .local∨sc.names.lookup x=some .cell∨sc.names.lookup x=some .free
def Loc(sc:L5) (x:Str):Prop:=sc.names.lookup x=some .local∨sc.names.lookup x=some .cell
def Ar(env:Env) (h:C7) (m:Str->Option s0) (x:Str) (u:s0):Prop :=
 (env.kindOf x=some .local/\m x=some u)∨((env.kindOf x=some .cell∨env.kindOf x=some .free)/\∃c,env.cells.lookup x=some c/\h.IsCell c (some u))
structure Cx.Ok(X:Cx):Prop where
 mod:Mod X.K X.mg X.base
 kind:X.env.scope.kind=.function
 glob:X.env.globals=K8
 blt:X.env.builtins=builtinsNs
 above:X.s₀.heap.objs.size<=X.env.locals
 inj:∀x y c,X.env.cells.lookup x=some c->X.env.cells.lookup y=some c->x=y
 has:∀x,(X.env.kindOf x=some .cell∨X.env.kindOf x=some .free)->∃c,X.env.cells.lookup x=some c
 cab:∀x c,X.fn x=true->X.env.cells.lookup x=some c->X.s₀.heap.objs.size<=c
 hd:X.calm=true->X.A.handled=none
 frames:X.A.frames=some X.stack
 stk:X.stack=X.outer∨(X.stack=X.env::X.outer/\X.env.frame=some X.env.locals)
 exf:∀b∈X.ex,b≠X.env.locals/\∀x c,X.env.cells.lookup x=some c->c≠b
 bs:∀b o,X.base.get? b=some o->X.s₀.heap.get? b=some o/\X.H₀ b=none
 bsz:X.base.objs.size<=X.s₀.heap.objs.size
 noex:∀b o,X.base.get? b=some o->b∉X.ex
 exfs:∀b∈X.ex,b∉X.fs
 funs:X.s₀.heap.FunFrames X.base X.outer
 frf:∀b∈X.fs,X.H₀ b=none
structure Inv(X:Cx) (aa:List (B0×Obj)) (σ:List (Option V)) (H:Hp) (s:u8):Prop where
 ok:X.Ok
 os:s.os=X.s₀.os
 bare:P3 s.gens
 base:Un X.fs X.ex X.H₀ H X.s₀.heap s.heap
 loc:∃m,s.heap.Ns X.env.locals m/\∀(i:Nat) (x:Str) (v:V),X.N[i]?=some x->σ[i]?=some (some v)->Vis X.env.scope x->∃u,aG v u/\Ar X.env s.heap m x u
 cell:∀x c,X.env.cells.lookup x=some c->∃v,s.heap.IsCell c v
 free:H X.env.locals=none
 freeC:∀x c,X.env.cells.lookup x=some c->H c=none
 pin:∀p∈X.pn++aa,s.heap.get? p.1=some p.2/\H p.1=none/\p.1≠X.env.locals/\p.1∉X.fs/\∀v,p.2.data≠.cell v
 hok:HOk X.prog X.w H s.heap
 len:σ.length=X.N.length
section
variable{X:Cx}{aa:List (B0×Obj)}{σ:List (Option V)}{H H':Hp}{s:u8}{h':C7}
theorem Cx.Ok.nofr(ok:X.Ok) {b:B0}{o:Obj}(e:X.base.get? b=some o):b∉X.fs:=fun hb=>by
 have:=(ok.funs.mem hb).1;rw[e]at this;cases this
theorem Inv.bs(I:Inv X aa σ H s):∀b o,X.base.get? b=some o->s.heap.get? b=some o/\H b=none:=fun b o e =>
 ⟨I.base.keep b o (I.ok.bs b o e).1 (I.ok.bs b o e).2 (I.ok.nofr e) (I.ok.noex b o e),I.base.free b o (I.ok.bs b o e).1 (I.ok.bs b o e).2 (I.ok.noex b o e)⟩
theorem Inv.bk(I:Inv X aa σ H s):∀b o,X.base.get? b=some o->s.heap.get? b=some o:=fun b o e=>(I.bs b o e).1
theorem Inv.mod(I:Inv X aa σ H s):Mod X.K X.mg X.base:=I.ok.mod
theorem Inv.kIn(I:Inv X aa σ H s):X.K.In s.heap:=I.ok.mod.kin.keeps I.bk
theorem Inv.lt(I:Inv X aa σ H s):X.env.locals<s.heap.objs.size:=let⟨_,hn,_⟩:=I.loc;hn.lt
theorem Inv.sz(I:Inv X aa σ H s):X.s₀.heap.objs.size<=s.heap.objs.size:=D3 I.ok.above (Nat.le_of_lt I.lt)
theorem Inv.nofs(I:Inv X aa σ H s) {a:B0}(h:s.heap.objs.size<=a):a∉X.fs:=fun hb=>by
 obtain⟨_,o,ho,_⟩:=I.ok.funs.mem hb;exact absurd (B1 (A9 ho) (D3 I.sz h)) (J5 _)
theorem Inv.cne(I:Inv X aa σ H s):∀x c,X.env.cells.lookup x=some c->c≠X.env.locals:=fun x c e z=>by
 obtain⟨v,o,ho,hd⟩:=I.cell x c e;obtain⟨m,⟨o',es,ep,ho',hd',_⟩,_⟩:=I.loc;rw[z,ho']at ho;cases ho;rw[hd']at hd;cases hd
theorem Inv.funs(I:Inv X aa σ H s):s.heap.FunFrames X.base X.outer:=by
 have all:∀(l:List Env),(∀b∈frs l,b∈X.fs)->X.s₀.heap.FunFrames X.base l->s.heap.FunFrames X.base l:=by
  intro l
  induction l with
  |nil=>intro _ _;trivial
  |cons env r ih =>
   intro hs hl;obtain⟨hk,⟨L,o,hf,hn,ho,hd⟩,hr⟩:=hl;have hL:L∈X.fs:=hs L (by unfold frs;rw[J6,hf];exact D7);obtain⟨sl,e⟩:=I.base.slot L o ho (I.ok.frf L hL) hL fun z=>I.ok.exfs L z hL;exact⟨hk,⟨L,_,hf,hn,e,hd⟩,ih (fun b hb=>hs b (by unfold frs;rw[J6,hf];exact B7 _ hb)) hr⟩
 exact all X.outer (fun _ hb=>hb) I.ok.funs
theorem Inv.stack(I:Inv X aa σ H s):s.heap.FunFrames X.base X.stack:=by
 rcases I.ok.stk with e|⟨e,hf⟩
 ·rw[e];exact I.funs
 ·rw[e];obtain⟨m,hn,_⟩:=I.loc;refine .cons (by rw[I.ok.kind];decide) hf hn ?_ I.funs;exact C7.get?_none_of_le (D3 I.ok.bsz I.ok.above)
theorem Inv.stkSub(I:Inv X aa σ H s):∀b∈frs X.stack,b∈X.env.locals::X.fs:=fun b hb=>by
 rcases I.ok.stk with e|⟨e,hf⟩
 ·rw[e]at hb;exact B7 _ hb
 ·rw[e]at hb;unfold frs at hb;rw[J6,hf]at hb;exact hb
theorem Inv.stkFree(I:Inv X aa σ H s):∀b∈frs X.stack,H b=none:=fun b hb=>by
 rcases J7.mp (I.stkSub b hb)with e|hb
 ·rw[e];exact I.free
 ·obtain⟨_,o,ho,_⟩:=I.ok.funs.mem hb;exact I.base.free b o ho (I.ok.frf b hb) fun z=>I.ok.exfs b z hb
theorem Inv.step{g':Array GenState}{t':Nat}{d':Drawn}{ch:List B0}(I:Inv X aa σ H s)
  (hch:∀b∈ch,(b∈X.ex∨X.s₀.heap.objs.size<=b)/\b≠X.env.locals/\(∀x c,X.env.cells.lookup x=some c->c≠b)/\∀p∈X.pn++aa,p.1≠b)
  (keep:∀b o,b≠X.env.locals->b∉X.fs->b∉ch->s.heap.get? b=some o->H b=none->h'.get? b=some o)
  (slot:∀b o,b≠X.env.locals->b∈X.fs->b∉ch->s.heap.get? b=some o->H b=none->∃sl,h'.get? b=some { o with slots:=sl }) (free:∀b o,b∉ch->s.heap.get? b=some o->H b=none->H' b=none)
  (there:∀b o,b∉ch->s.heap.get? b=some o->∃o',h'.get? b=some o')
  (tups:∀b xs,H b=some (.tup xs)->H' b=some (.tup xs)) (frzs:∀b o u,H b=some (.frz o u)->H' b=some (.frz o u)) (tbls:∀b ps,H b=some (.tbl ps)->∃more,H' b=some (.tbl (ps++more)))
  (ns:∀m,s.heap.Ns X.env.locals m->h'.Ns X.env.locals m) (hok:HOk X.prog X.w H' h') (hg:P3 g') :
  Inv X aa σ H' { s with heap:=h',gens:=g',drawn:=d',toks:=t' }:=by
 have neL:∀b o,X.s₀.heap.get? b=some o->b≠X.env.locals:=fun b o e=>B8 (B1 (A9 e) I.ok.above);have neC:∀b o,X.s₀.heap.get? b=some o->b∉X.ex->b∉ch:=fun b o e hx hb=>by
  rcases(hch b hb).1 with z|z
  ·exact hx z
  ·exact absurd (B1 (A9 e) z) (J5 _)
 have cellK:∀x c,X.env.cells.lookup x=some c->∀v,s.heap.IsCell c v->h'.IsCell c v:=fun x c e v ⟨o,ho,hd⟩=>by
  have nch:c∉ch:=fun z=>(hch c z).2.2.1 x c e rfl
  by_cases hc:c∈X.fs
  ·obtain⟨sl,q⟩:=slot c o (I.cne x c e) hc nch ho (I.freeC x c e);exact⟨_,q,hd⟩
  ·exact⟨o,keep c o (I.cne x c e) hc nch ho (I.freeC x c e),hd⟩
 refine⟨I.ok,I.os,hg,⟨fun b o e n hb hx=>?_,fun b o e n hb hx=>?_,fun b o e n hx=>?_,fun b o e hx=>?_,fun b xs e=>tups b xs (I.base.tups b xs e),fun b o xs e=>frzs b o xs (I.base.frzs b o xs e),fun b ps e=>?_⟩,?_,fun x c e=>?_,?_,fun x c e=>?_,fun p hp=>?_,hok,I.len⟩
 ·exact keep b o (neL b o e) hb (neC b o e hx) (I.base.keep b o e n hb hx) (I.base.free b o e n hx)
 ·obtain⟨sl,e1⟩:=I.base.slot b o e n hb hx;obtain⟨sl',e2⟩:=slot b _ (neL b o e) hb (neC b o e hx) e1 (I.base.free b o e n hx);exact⟨sl',e2⟩
 ·obtain⟨o',e1⟩:=I.base.there b o e hx;exact free b o' (neC b o e hx) e1 (I.base.free b o e n hx)
 ·obtain⟨o',e1⟩:=I.base.there b o e hx;exact there b o' (neC b o e hx) e1
 ·obtain⟨m1,e1⟩:=I.base.tbls b ps e;obtain⟨m2,e2⟩:=tbls b _ e1;exact⟨m1++m2,by rw[e2,Array.append_assoc]⟩
 ·obtain⟨m,hn,hl⟩:=I.loc;refine⟨m,ns m hn,fun i x v e1 e2 e3=>?_⟩;obtain⟨u,r,l⟩:=hl i x v e1 e2 e3;refine⟨u,r,?_⟩;rcases l with l|⟨k,c,e,z⟩
  ·exact .inl l
  ·exact .inr ⟨k,c,e,cellK x c e _ z⟩
 ·obtain⟨v,z⟩:=I.cell x c e;exact⟨v,cellK x c e v z⟩
 ·obtain⟨m,⟨o,_,_,ho,_⟩,_⟩:=I.loc;exact free _ o (fun z=>(hch _ z).2.1 rfl) ho I.free
 ·obtain⟨v,o,ho,hd⟩:=I.cell x c e;exact free c o (fun z=>(hch c z).2.2.1 x c e rfl) ho (I.freeC x c e)
 ·obtain⟨e,n,ne,nf,d⟩:=I.pin p hp;have nch:p.1∉ch:=fun z=>(hch p.1 z).2.2.2 p hp rfl;exact⟨keep p.1 p.2 ne nf nch e n,free p.1 p.2 nch e n,ne,nf,d⟩
theorem Inv.un{t':Nat}(I:Inv X aa σ H s) (u:Un X.fs [] H H' s.heap h') (hok:HOk X.prog X.w H' h'):Inv X aa σ H' { s with heap:=h',toks:=t' }:=by
 obtain⟨m,⟨o,es,ep,ho,r⟩,_⟩:=id I.loc;obtain⟨sl,hL⟩:=u.any ho I.free (by simp);exact I.step (g':=s.gens) (d':=s.drawn) (ch:=[]) (fun _ z=>nomatch z) (fun b o _ hb _ e n=>u.keep b o e n hb (by simp)) (fun b o _ hb _ e n=>u.slot b o e n hb (by simp)) (fun b o _ e n=>u.free b o e n (by simp)) (fun b o _ e=>u.there b o e (by simp)) u.tups u.frzs u.tbls (fun m' hm=>by
  obtain⟨o',es',ep',ho',r'⟩:=hm;rw[ho]at ho';cases ho';exact⟨_,es',ep',hL,r'⟩) hok I.bare
theorem Inv.call{g':Array GenState}{t':Nat}{d':Drawn}{ch:List B0}(I:Inv X aa σ H s) (u:Un (frs X.stack) ch H H' s.heap h') (hok:HOk X.prog X.w H' h') (hg:P3 g')
  (hch:∀b∈ch,(b∈X.ex∨X.s₀.heap.objs.size<=b)/\b≠X.env.locals/\(∀x c,X.env.cells.lookup x=some c->c≠b)/\∀p∈X.pn++aa,p.1≠b) :
  Inv X aa σ H' { s with heap:=h',gens:=g',drawn:=d',toks:=t' }:=by
 obtain⟨m,⟨o,es,ep,ho,r⟩,_⟩:=id I.loc;obtain⟨sl,hL⟩:=u.any ho I.free fun z=>(hch _ z).2.1 rfl;exact I.step (ch:=ch) hch (fun b o hL hb hc e n=>u.keep b o e n (fun z=>(J7.mp (I.stkSub b z)).elim hL hb) hc) (fun b o _ _ hc e n=>u.any e n hc) (fun b o hc e n=>u.free b o e n hc) (fun b o hc e=>u.there b o e hc) u.tups u.frzs u.tbls (fun m' hm=>by
  obtain⟨o',es',ep',ho',r'⟩:=hm;rw[ho]at ho';cases ho';exact⟨_,es',ep',hL,r'⟩) hok hg
theorem Inv.turned{t':Nat}{it:B0}(I:Inv X aa σ H s) (k:∀b o,b≠it->s.heap.get? b=some o->h'.get? b=some o) (hn:H it=none) (hL:it≠X.env.locals)
  (h1:it∈X.ex∨X.s₀.heap.objs.size<=it) (h2:∀x c,X.env.cells.lookup x=some c->c≠it) (h3:∀p∈X.pn++aa,p.1≠it):Inv X aa σ H { s with heap:=h',toks:=t' }:=by
 have nit:∀b u,H b=some u->b≠it:=fun b u e z=>by rw[z,hn]at e;cases e
 refine I.step (g':=s.gens) (d':=s.drawn) (ch:=[it]) (fun b hb=>?_) (fun b o _ _ hc e _=>k b o (fun z=>hc (by simp[z])) e) (fun b o _ _ hc e _=>⟨o.slots,k b o (fun z=>hc (by simp[z])) e⟩) (fun _ _ _ _ n=>n)
  (fun b o hc e=>⟨o,k b o (fun z=>hc (by simp[z])) e⟩) (fun _ _ e=>e) (fun _ _ _ e=>e) (fun b ps e=>⟨#[],by rw[e];simp⟩) (fun m hm=>?_) (fun b u e=>?_) I.bare
 ·have e:b=it:=by simpa using hb
  subst e;exact⟨h1,hL,h2,h3⟩
 ·obtain⟨o,es,ep,ho,r⟩:=hm;exact⟨o,es,ep,k _ o (P7 hL) ho,r⟩
 ·refine(I.hok b u e).stay (fun c v hc q=>k c v ?_ q) (fun _ q=>q) fun _ _ q=>q;rcases hc with z|z
  ·rw[z];exact nit b u e
  ·exact nit c _ z
theorem Inv.tok(I:Inv X aa σ H s) (t:Nat):Inv X aa σ H { s with toks:=t }:=I.un (h':=s.heap) (t':=t) Un.refl I.hok
theorem Inv.kept{t':Nat}(I:Inv X aa σ H s) (k:∀b u,s.heap.get? b=some u->h'.get? b=some u):Inv X aa σ H { s with heap:=h',toks:=t' }:=I.un (Un.kept k) (I.hok.kept k)
theorem Inv.laid{a:B0}{o:HO}{t':Nat}(I:Inv X aa σ H s) (k:∀b u,s.heap.get? b=some u->h'.get? b=some u) (hp:s.heap.objs.size<=a) (new:dR X.prog X.w (upd H a o) h' a o) :
  Inv X aa σ (upd H a o) { s with heap:=h',toks:=t' }:=I.un (Un.laid k hp (I.hok.fresh hp)) (I.hok.laid k hp new)
theorem Inv.write{x e:B0}{o:HO}{t':Nat}(I:Inv X aa σ H s) (mu:Mut (H x)) (he:e=x∨H e=some (.own x)) (k:∀b u,b≠e->s.heap.get? b=some u->h'.get? b=some u) (heo:∃u,h'.get? e=some u)
  (new:dR X.prog X.w (upd H x o) h' x o):Inv X aa σ (upd H x o) { s with heap:=h',toks:=t' }:=I.un (Un.write mu he k heo) (I.hok.write mu he k heo new)
theorem Inv.pins_of{pins':List (B0×Obj)}(I:Inv X aa σ H s) (h:∀p∈pins',s.heap.get? p.1=some p.2/\H p.1=none/\p.1≠X.env.locals/\p.1∉X.fs/\∀v,p.2.data≠.cell v):Inv X pins' σ H s :=
 ⟨I.ok,I.os,I.bare,I.base,I.loc,I.cell,I.free,I.freeC,fun p hp=>(K9.mp hp).elim (fun z=>I.pin p (List.mem_append_left _ z)) (h p),I.hok,I.len⟩
theorem nR{N:List Str}(hN:N.Nodup) {i j:Nat}{x:Str}(a:N[i]?=some x) (b:N[j]?=some x):i=j:=by
 obtain⟨h1,e1⟩:=E5.mp a;obtain⟨h2,e2⟩:=E5.mp b;exact(List.getElem_inj hN).mp (e1.trans e2.symm)
theorem lX{M:Model}{A:D9}{E:s0->u8->Prop}{i:Nat}{x:Str}{v:V}{u:s0}{Q:Unit->u8->Prop}(I:Inv X aa σ H s) (hN:X.N.Nodup) (hi:X.N[i]?=some x) (hx:Loc X.env.scope x) (r:aG v u)
  (h:∀s',Inv X aa (σ.set i (some v)) H s'->(∃a,L4 a s.heap s'.heap/\(a=X.env.locals∨X.env.cells.lookup x=some a))->Q () s') (hf:X.fn x=true∨X.env.scope.names.lookup x=some .local:=by first|exact .inl rfl|exact .inr rfl|assumption):B9 M A (storeName X.env x u) Q E s:=by
 obtain⟨m,hn,hl⟩:=id I.loc;have hcls:(X.env.scope.kind==.class || (X.env.scope.kind==.module&&X.env.locals != X.env.globals))=false:=by rw[I.ok.kind];rfl
 have hiσ:i<σ.length:=by rw[I.len];exact(E5.mp hi).1
 have cne:=I.cne;have tracked:∀{a:B0} {h':C7},(∃o,s.heap.get? a=some o/\H a=none)->L4 a s.heap h'->HOk X.prog X.w H h':=fun {a h'} ha hs b ob e=>by
  obtain⟨_,_,hfree⟩:=ha;refine(I.hok b ob e).stay (fun c w' hc q=>(hs.2 c ?_).trans q) (fun _ q=>q) fun _ _ q=>q;rintro rfl;rcases hc with rfl|hc
  ·rw[hfree]at e;cases e
  ·rw[hfree]at hc;cases hc
 rcases hx with hk|hk
 ·refine wpAny_storeName_local hk hn (fun h' hn' hs=>?_) hcls;obtain⟨oL,_,_,hoL,_⟩:=id hn;refine h _ ⟨I.ok,I.os,I.bare,⟨fun b o e n hb hx=>?_,fun b o e n hb hx=>?_,I.base.free,fun b o e hx=>?_,I.base.tups,I.base.frzs,I.base.tbls⟩,⟨_,hn',fun j y v' e1 e2 e3=>?_⟩,fun y c e=>?_,I.free,I.freeC,fun p hp=>?_,tracked ⟨oL,hoL,I.free⟩ hs,by simpa using I.len⟩ ⟨_,hs,.inl rfl⟩
  ·exact(hs.2 b (B8 (B1 (A9 e) I.ok.above))).trans (I.base.keep b o e n hb hx)
  ·obtain⟨sl,e1⟩:=I.base.slot b o e n hb hx;exact⟨sl,(hs.2 b (B8 (B1 (A9 e) I.ok.above))).trans e1⟩
  ·obtain⟨o',e1⟩:=I.base.there b o e hx;exact⟨o',(hs.2 b (B8 (B1 (A9 e) I.ok.above))).trans e1⟩
  ·by_cases hj:j=i
   ·subst hj;rw[hi]at e1;cases e1;rw[K5 hiσ]at e2;cases e2;exact⟨u,r,.inl ⟨hk,by simp⟩⟩
   ·rw[List.getElem?_set_ne (P7 hj)]at e2;obtain⟨u',r',q⟩:=hl j y v' e1 e2 e3;refine⟨u',r',?_⟩;rcases q with⟨k,e⟩|⟨k,c,e,z⟩
    ·refine .inl ⟨k,?_⟩;have:y≠x:=fun e=>hj (nR hN e1 (e▸hi));simp[this,e]
    ·exact .inr ⟨k,c,e,z.sameBut hs (cne y c e)⟩
  ·obtain⟨w',z⟩:=I.cell y c e;exact⟨w',z.sameBut hs (cne y c e)⟩
  ·obtain⟨e,n,ne,nf,d⟩:=I.pin p hp;exact⟨(hs.2 p.1 ne).trans e,n,ne,nf,d⟩
 ·have hfn:X.fn x=true:=by
   rcases hf with z|z
   ·exact z
   ·rw[z]at hk;cases hk
  obtain⟨c,hc⟩:=I.ok.has x (.inl hk);obtain⟨w',z⟩:=I.cell x c hc;refine wpAny_storeName_cell I.ok.kind hk hc z (fun h' hc' hs=>?_);obtain⟨oc,hoc,hocd⟩:=id z;refine h { s with heap:=h' } ⟨I.ok,I.os,I.bare,⟨fun b o e n hb hx=>?_,fun b o e n hb hx=>?_,I.base.free,fun b o e hx=>?_,I.base.tups,I.base.frzs,I.base.tbls⟩,⟨m,hn.sameBut hs (P7 (cne x c hc)),fun j y v' e1 e2 e3=>?_⟩,fun y c' e=>?_,I.free,I.freeC,fun p hp=>?_,tracked ⟨oc,hoc,I.freeC x c hc⟩ hs,by simpa using I.len⟩ ⟨c,hs,.inr hc⟩
  ·exact(hs.2 b (B8 (B1 (A9 e) (I.ok.cab x c hfn hc)))).trans (I.base.keep b o e n hb hx)
  ·obtain⟨sl,e1⟩:=I.base.slot b o e n hb hx;exact⟨sl,(hs.2 b (B8 (B1 (A9 e) (I.ok.cab x c hfn hc)))).trans e1⟩
  ·obtain⟨o',e1⟩:=I.base.there b o e hx;exact⟨o',(hs.2 b (B8 (B1 (A9 e) (I.ok.cab x c hfn hc)))).trans e1⟩
  ·by_cases hj:j=i
   ·subst hj;rw[hi]at e1;cases e1;rw[K5 hiσ]at e2;cases e2;exact⟨u,r,.inr ⟨.inl hk,c,hc,hc'⟩⟩
   ·rw[List.getElem?_set_ne (P7 hj)]at e2;obtain⟨u',r',q⟩:=hl j y v' e1 e2 e3;refine⟨u',r',?_⟩;rcases q with q|⟨k,c',e,z'⟩
    ·exact .inl q
    ·refine .inr ⟨k,c',e,z'.sameBut hs ?_⟩;rintro rfl;exact hj (nR hN e1 (I.ok.inj _ _ _ e hc▸hi))
  ·by_cases hcc:c'=c
   ·subst hcc;exact⟨_,hc'⟩
   ·obtain⟨w2,z2⟩:=I.cell y c' e;exact⟨w2,z2.sameBut hs hcc⟩
  ·obtain⟨e,n,ne,nf,d⟩:=I.pin p hp;refine⟨(hs.2 p.1 ?_).trans e,n,ne,nf,d⟩;intro q;rw[q,hoc]at e;have q':oc=p.2:=C0 e;exact d w' (by rw[<-q'];exact hocd)
theorem oe{M:Model}{A:D9}{E:s0->u8->Prop}{i:Nat}{x:Str}{v:V}{u:s0}{Q:Unit->u8->Prop}(I:Inv X aa σ H s) (hN:X.N.Nodup) (hi:X.N[i]?=some x) (hx:Loc X.env.scope x) (r:aG v u)
  (h:∀s',Inv X aa (σ.set i (some v)) H s'->Q () s') (hf:X.fn x=true∨X.env.scope.names.lookup x=some .local:=by first|exact .inl rfl|exact .inr rfl|assumption):B9 M A (storeName X.env x u) Q E s :=
 lX I hN hi hx r (fun s' I' _=>h s' I') hf
theorem Inv.call'{s':u8}{ch:List B0}(I:Inv X aa σ H s) (ho:s'.os=s.os) (u:Un (frs X.stack) ch H H' s.heap s'.heap) (hok:HOk X.prog X.w H' s'.heap) (hg:P3 s'.gens)
  (hch:∀b∈ch,(b∈X.ex∨X.s₀.heap.objs.size<=b)/\b≠X.env.locals/\(∀x c,X.env.cells.lookup x=some c->c≠b)/\∀p∈X.pn++aa,p.1≠b):Inv X aa σ H' s':=by
 obtain⟨h',g',d',t',o'⟩:=s';have e:o'=s.os:=ho;subst e;exact I.call (g':=g') (t':=t') (d':=d') u hok hg hch
end
abbrev XK:=s0->Option B0->Hp->Prop
noncomputable abbrev St:=List (Option V)
abbrev VK:=V->Hp->Prop
abbrev TE:=St->Hp->VK->Prop
abbrev TT:=St->Hp->(Bool->Hp->Prop)->Prop
abbrev TA:=St->Hp->(List V->Hp->Prop)->Prop
structure oi where
 nx:St->Hp->Prop
 rt:VK
 bk:St->Hp->Prop:=fun _ _=>False
 ct:St->Hp->Prop:=fun _ _=>False
abbrev TS:=oi->St->Hp->Prop
def EP(X:Cx) (aa:List (B0×Obj)) (σ:St) (Q:VK) (u:s0) (s':u8):Prop:=∃v H',Inv X aa σ H' s'/\aG v u/\Q v H'
def TP(X:Cx) (aa:List (B0×Obj)) (σ:St) (Q:Bool->Hp->Prop) (b:Bool) (s':u8):Prop:=∃H',Inv X aa σ H' s'/\Q b H'
def AP(X:Cx) (aa:List (B0×Obj)) (σ:St) (Q:List V->Hp->Prop) (us:List s0) (s':u8):Prop:=∃vs H',Inv X aa σ H' s'/\ay vs us/\Q vs H'
theorem EP.el{X:Cx}{aa:List (B0×Obj)}{σ:St}{Q:VK}{u:s0}{s:u8}{P:Prop}(h:EP X aa σ Q u s) (f:∀(v:V) (H:Hp),Inv X aa σ H s->aG v u->Q v H->P):P:=by
 obtain⟨x1,x2,a,b,c⟩:=h;exact f x1 x2 a b c
theorem AP.el{X:Cx}{aa:List (B0×Obj)}{σ:St}{Q:List V->Hp->Prop}{u:List s0}{s:u8}{P:Prop}(h:AP X aa σ Q u s) (f:∀(v:List V) (H:Hp),Inv X aa σ H s->ay v u->Q v H->P):P:=by
 obtain⟨x1,x2,a,b,c⟩:=h;exact f x1 x2 a b c
theorem TP.el{X:Cx}{aa:List (B0×Obj)}{σ:St}{Q:Bool->Hp->Prop}{u:Bool}{s:u8}{P:Prop}(h:TP X aa σ Q u s) (f:∀(H:Hp),Inv X aa σ H s->Q u H->P):P:=by
 obtain⟨x1,a,b⟩:=h;exact f x1 a b
def SP(X:Cx) (aa:List (B0×Obj)) (D:oi) (f:Flow) (s':u8):Prop :=
 match f with
 |.next=>∃ σ' H',Inv X aa σ' H' s'/\D.nx σ' H'
 |.brk=>∃ σ' H',Inv X aa σ' H' s'/\D.bk σ' H'
 |.cont=>∃ σ' H',Inv X aa σ' H' s'/\D.ct σ' H'
 |.ret u=>∃v σ' H',Inv X aa σ' H' s'/\aG v u/\D.rt v H'
def PE(X:Cx) (e:B5) (t:TE):Prop :=
 ∀(aa:List (B0×Obj)) (s:u8) (σ:St) (H:Hp) (Q:VK),Inv X aa σ H s->t σ H Q->B9 (C8 X.prog X.w) X.A (N0 e X.env) (EP X aa σ Q) X.xe s
def PT(X:Cx) (e:B5) (t:TT):Prop :=
 ∀(aa:List (B0×Obj)) (s:u8) (σ:St) (H:Hp) (Q:Bool->Hp->Prop),Inv X aa σ H s->t σ H Q->B9 (C8 X.prog X.w) X.A (isTrue e X.env (N0 e X.env)) (TP X aa σ Q) X.xe s
def PW(X:Cx) (e:B5) (t:TT):Prop :=
 ∀(whole:Sem s0) (aa:List (B0×Obj)) (s:u8) (σ:St) (H:Hp) (Q:Bool->Hp->Prop),Inv X aa σ H s->t σ H Q->B9 (C8 X.prog X.w) X.A (isTrue e X.env whole) (TP X aa σ Q) X.xe s
theorem PW.pt{X:Cx}{e:B5}{t:TT}(h:PW X e t):PT X e t:=h _
def PA(X:Cx) (es:List B5) (t:TA):Prop :=
 ∀(pos:Pos) (aa:List (B0×Obj)) (s:u8) (σ:St) (H:Hp) (Q:List V->Hp->Prop),Inv X aa σ H s->t σ H Q->B9 (C8 X.prog X.w) X.A (spliced (J0 pos (A8 es X.env))) (AP X aa σ Q) X.xe s
def PS(X:Cx) (st:Q6) (t:TS):Prop :=
 ∀(aa:List (B0×Obj)) (s:u8) (σ:St) (H:Hp) (D:oi),Inv X aa σ H s->t D σ H->B9 (C8 X.prog X.w) X.A (exec st X.env) (SP X aa D) X.xe s
def PSs(X:Cx) (st:List Q6) (t:TS):Prop :=
 ∀(aa:List (B0×Obj)) (s:u8) (σ:St) (H:Hp) (D:oi),Inv X aa σ H s->t D σ H->B9 (C8 X.prog X.w) X.A (execs st X.env) (SP X aa D) X.xe s
theorem thn{α:Type}{t:Sem α}{Q Q':α->u8->Prop}{M:Model}{A:D9}{E:s0->u8->Prop}{s:u8}(h:B9 M A t Q E s) (hQ:∀a s,Q a s->Q' a s):B9 M A t Q' E s:=F5 h hQ fun _ _ x=>x
section
variable{X:Cx}
def AL(i:Nat):TE:=fun σ H Q=>∃v,σ[i]?=some (some v)/\Q v H
def tC(v:V):TE:=fun _ H Q=>Q v H
theorem yC{i:Nat}{x:Str}{pos:Pos}(hN:X.N[i]?=some x) (hv:Vis X.env.scope x) (hd:(x==("__debug__":Str))=false:=by decide) (hcd:(x==("__classdict__":Str))=false:=by decide):PE X (.Name x pos) (AL i):=by
 intro aa s σ H Q I h;obtain⟨v,e,h⟩:=h;obtain⟨m,hn,hl⟩:=I.loc;obtain⟨u,r,l⟩:=hl i x v hN e hv;have fin:EP X aa σ Q u s:=⟨v,H,I,r,h⟩;rcases l with⟨hk,hm⟩|⟨hk,c,hc,hcell⟩
 ·exact wpAny_Name (wpAny_loadName_local I.ok.kind hk hn hm fin) hd
 ·rcases hk with hk|hk
  ·exact wpAny_Name (wpAny_loadName_cell I.ok.kind hk hc hcell fin) hd
  ·exact wpAny_Name (wpAny_loadName_free I.ok.kind hk hc hcell fin hcd) hd
theorem wO{i j pos}:PE X (.Constant (.int i) j pos) (tC (.int i)):=fun _ _ _ H _ I h=>wpAny_Constant_int ⟨.int i,H,I.tok _,⟨_,rfl⟩,h⟩
theorem zK{b j pos}:PE X (.Constant (.bool b) j pos) (tC (.bl b)):=fun _ _ _ H _ I h=>Constant_bool ⟨.bl b,H,I,rfl,h⟩
theorem xo{j pos}:PE X (.Constant .none j pos) (tC .non):=fun _ _ _ H _ I h=>Constant_none ⟨.non,H,I,rfl,h⟩
theorem yk{x j pos}:PE X (.Constant (.str x) j pos) (tC (.str x)):=fun _ _ _ H _ I h=>Calls.Constant_str ⟨.str x,H,I.tok _,⟨_,rfl⟩,h⟩
def Gl(X:Cx) (x:Str):Prop:=X.env.kindOf x=some .globalImplicit
theorem qu{E:s0->u8->Prop}{aa:List (B0×Obj)}{s:u8}{σ:St}{H:Hp}{x:Str}{u:s0}{pos:Pos}{Q:s0->u8->Prop}(I:Inv X aa σ H s) (hg:Gl X x) (hm:X.mg x=some u) (h:Q u s)
  (hd:(x==("__debug__":Str))=false:=by decide):B9 (C8 X.prog X.w) X.A (N0 (.Name x pos) X.env) Q E s :=
 Calls.Name_function_global I.ok.kind hg (Calls.loadGlobal_global (by rw[I.ok.glob];exact I.mod.glob.keeps I.bk) hm h) hd
theorem gI{E:s0->u8->Prop}{aa:List (B0×Obj)}{s:u8}{σ:St}{H:Hp}{x:Str}{u:s0}{pos:Pos}{Q:s0->u8->Prop}(I:Inv X aa σ H s) (hg:Gl X x) (hm:X.mg x=none) (hv:F7 x=some u) (h:Q u s)
  (hn:x≠"__name__":=by decide) (hd:(x==("__debug__":Str))=false:=by decide):B9 (C8 X.prog X.w) X.A (N0 (.Name x pos) X.env) Q E s:=by
 obtain⟨mb,h1,h2⟩:=I.mod.blt;exact Calls.Name_function_global I.ok.kind hg (Calls.loadGlobal_builtin (by rw[I.ok.glob];exact I.mod.glob.keeps I.bk) hm (by rw[I.ok.blt];exact h1.keeps I.bk) ((h2 x hn).trans hv) h) hd
theorem pU{x:Str}{v:V}{u:s0}{pos:Pos}(hg:Gl X x) (hm:X.mg x=some u) (r:aG v u) (hd:(x==("__debug__":Str))=false:=by decide):PE X (.Name x pos) (tC v) :=
 fun _ _ _ H _ I h=>qu I hg hm ⟨v,H,I,r,h⟩ hd
theorem vS{x:Str}{v:V}{u:s0}{pos:Pos}(hg:Gl X x) (hm:X.mg x=none) (hv:F7 x=some u) (r:aG v u) (hn:x≠"__name__":=by decide) (hd:(x==("__debug__":Str))=false:=by decide):PE X (.Name x pos) (tC v) :=
 fun _ _ _ H _ I h=>gI I hg hm hv ⟨v,H,I,r,h⟩ hn hd
variable{a b:B5}{ta tb:TE}{pos:Pos}
theorem uv(b:B5) {op:CmpOp}(h:op≠.In) (h2:op≠.NotIn):L6 op b=false:=by
 have e1:(op==CmpOp.In)=false:=by cases op<;>first|rfl|exact absurd rfl h
 have e2:(op==CmpOp.NotIn)=false:=by cases op<;>first|rfl|exact absurd rfl h2
 cases b<;>simp[L6,e1,e2]
def tB(t:TE):TT:=fun σ H Q=>t σ H fun x H1=>∃c,x=.bl c/\Q c H1
theorem xf{e:B5}{t:TE}(h:PE X e t) (he:∀whole,isTrue e X.env whole=(do let v <-whole;standAt e.pos;Q9 [v] (truthy v)):=by intro _;rfl):PT X e (tB t):=by
 intro aa s σ H Q I hw;refine isTrue_plain (thn (h aa s σ H _ I hw) fun v s1 hup=>hup.el fun x H1 I1 r1 q1=>?_) (he _);obtain⟨d,rfl,q⟩:=q1;cases r1;exact J1 ⟨H1,I1,q⟩
variable{tA tB':TT}{aU:List B5}
def As(t u:TT):TT:=fun σ H Q=>t σ H fun c H1=>if c=true then u σ H1 Q else Q false H1
def tOr(t u:TT):TT:=fun σ H Q=>t σ H fun c H1=>if c=true then Q true H1 else u σ H1 Q
def Af(t:TT):TT:=fun σ H Q=>t σ H fun c H1=>Q (!c) H1
theorem vv(ha:PT X a tA):PW X (.BoolOp .And [a] pos) tA:=by
 intro wh aa s σ H Q I h;refine isTrue_and (thn (ha aa s σ H Q I h) fun c s1 e=>?_);cases c with
 |true=>exact isTrue_and_nil e
 |false=>exact e
theorem yv(ha:PT X a tA):PW X (.BoolOp .Or [a] pos) tA:=by
 intro wh aa s σ H Q I h;refine isTrue_or (thn (ha aa s σ H Q I h) fun c s1 e=>?_);cases c with
 |false=>exact isTrue_or_nil e
 |true=>exact e
theorem w9(ha:PT X a tA) (hb:PW X (.BoolOp .And (b::aU) pos) tB'):PW X (.BoolOp .And (a::b::aU) pos) (As tA tB'):=by
 intro wh aa s σ H Q I h;refine isTrue_and (thn (ha aa s σ H _ I h) fun c s1 hup=>hup.el fun H1 I1 q1=>?_);cases c with
 |true=>exact hb wh aa s1 σ H1 Q I1 q1
 |false=>exact⟨H1,I1,q1⟩
theorem yN(ha:PT X a tA) (hb:PW X (.BoolOp .Or (b::aU) pos) tB'):PW X (.BoolOp .Or (a::b::aU) pos) (tOr tA tB'):=by
 intro wh aa s σ H Q I h;refine isTrue_or (thn (ha aa s σ H _ I h) fun c s1 hup=>hup.el fun H1 I1 q1=>?_);cases c with
 |true=>exact⟨H1,I1,q1⟩
 |false=>exact hb wh aa s1 σ H1 Q I1 q1
theorem xx(ha:PT X a tA):PT X (.UnaryOp .Not a pos) (Af tA):=by
 intro aa s σ H Q I h;exact isTrue_not (ha aa s σ H (fun c H1=>Q (!c) H1) I h)
def zh(ta tb:TE):TE:=fun σ H Q=>ta σ H fun x H1=>∃c,x=.bl c/\if c=true then tb σ H1 Q else Q (.bl false) H1
def zL(ta:TE):TE:=fun σ H Q=>ta σ H fun x H1=>∃c,x=.bl c/\Q (.bl (!c)) H1
theorem wW{op}{t:TE}(h:PE X a t):PE X (.BoolOp op [a] pos) t:=fun aa s σ H Q I hw=>BoolOp_one (h aa s σ H Q I hw)
theorem yz(ha:PE X a ta) (hb:PE X (.BoolOp .And (b::aU) pos) tb):PE X (.BoolOp .And (a::b::aU) pos) (zh ta tb):=by
 intro aa s σ H Q I h;refine BoolOp_and (thn (ha aa s σ H _ I h) fun v s1 hup=>hup.el fun x H1 I1 r1 q1=>?_);obtain⟨c,rfl,q1⟩:=q1;cases r1;refine J1 ?_;cases c with
 |true=>exact hb aa s1 σ H1 Q I1 q1
 |false=>exact⟨.bl false,H1,I1,rfl,q1⟩
theorem ym(ha:PE X a ta):PE X (.UnaryOp .Not a pos) (zL ta):=by
 intro aa s σ H Q I h;refine UnaryOp_ (thn (ha aa s σ H _ I h) fun v s1 hup=>hup.el fun x H1 I1 r1 q1=>?_);obtain⟨c,rfl,q1⟩:=q1;cases r1;exact not_of (J1 ⟨.bl (!c),H1,I1,rfl,q1⟩)
def tIf(t:TT) (ta tb:TE):TE:=fun σ H Q=>t σ H fun c H1=>if c=true then ta σ H1 Q else tb σ H1 Q
theorem tm{c:B5}(hc:PT X c tA) (ha:PE X a ta) (hb:PE X b tb):PE X (.IfExp c a b pos) (tIf tA ta tb):=by
 intro aa s σ H Q I h;refine wpAny_IfExp (thn (hc aa s σ H _ I h) fun d s1 hup=>hup.el fun H1 I1 q1=>?_);cases d with
 |true=>exact ha aa s1 σ H1 Q I1 q1
 |false=>exact hb aa s1 σ H1 Q I1 q1
end
def SqL(K:o0) (H:Hp) (a:B0) (xs:List V):Prop :=
 Rd H a (.lst xs) ∨
  ∃(o:Obj) (its:Array s0) (n:Nat),K.lookup a=some o/\o.cls=.type "list"/\o.dict=none/\o.data=.seq its n/\its.size<=A3/\ay xs its.toList
def SqT(K:o0) (H:Hp) (a:B0) (xs:List V):Prop :=
 Rd H a (.tup xs) ∨
  ∃(o:Obj) (its:Array s0) (n:Nat),K.lookup a=some o/\(o.cls=.type "tuple"/\o.dict=none)/\o.data=.seq its n/\its.size<=A3/\ay xs its.toList
noncomputable def Al:s0->Option V
 |.none=>some .non
 |.bool b=>some (.bl b)
 |.int i _=>some (.int i)
 |.str x _=>some (.str x)
 |.bytes b _=>some (.byt b)
 |.float b _=>some (.flt b)
 |.ref a=>some (.ref a)
 |.type n=>some (.ty n)
 |_=>none
theorem aG.abs{x:V}{u:s0}(r:aG x u):Al u=some x:=by
 cases x with
 |non=>cases r;rfl
 |bl _=>cases r;rfl
 |int _=>obtain⟨t,rfl⟩:=r;rfl
 |str _=>obtain⟨t,rfl⟩:=r;rfl
 |byt _=>obtain⟨t,rfl⟩:=r;rfl
 |flt _=>obtain⟨t,rfl⟩:=r;rfl
 |ref _=>cases r;rfl
 |ty _=>cases r;rfl
theorem aG.inj{x y:V}{u:s0}(r:aG x u) (q:aG y u):x=y:=C0 (r.abs.symm.trans q.abs)
theorem ay.inj:∀{xs ys:List V}{us:List s0},ay xs us->ay ys us->xs=ys
 |_,_,_,.nil,.nil=>rfl
 |_,_,_,.cons r t,.cons r' t'=>by rw[r.inj r',ay.inj t t']
section
variable{X:Cx}{aa:List (B0×Obj)}{σ:St}{H:Hp}{s:u8}{a:B0}{xs ys:List V}
theorem SqL.of{K:o0}(h:H a=some (.lst xs)):SqL K H a xs:=.inl (.inl h)
theorem SqT.of{K:o0}(h:H a=some (.tup xs)):SqT K H a xs:=.inl (.inl h)
theorem Inv.list(I:Inv X aa σ H s) (h:SqL X.K H a xs):∃its:List s0,ay xs its/\PlainL s.heap a its.toArray/\xs.length<=A3:=by
 rcases h with h|⟨o,its,n,hk,hc,hd,hs,hz,r⟩
 ·obtain⟨z,its,n,r,e⟩:=h.ok I.hok;exact⟨its,r,⟨_,n,e,rfl,rfl,rfl⟩,z⟩
 ·refine⟨its.toList,r,⟨o,n,I.kIn a o hk,hc,hd,by simpa using hs⟩,?_⟩;have e:=r.length;simp only[L3]at e
  lia
theorem Inv.tuple(I:Inv X aa σ H s) (h:SqT X.K H a xs):∃its:List s0,ay xs its/\S0 s.heap a its.toArray/\xs.length<=A3:=by
 rcases h with h|⟨o,its,n,hk,hc,hs,hz,r⟩
 ·obtain⟨z,its,r,p⟩:=h.ok I.hok;exact⟨its,r,p.tup,z⟩
 ·refine⟨its.toList,r,⟨o,I.kIn a o hk,hc.1,n,by simpa using hs⟩,?_⟩;have e:=r.length;simp only[L3]at e
  lia
theorem Inv.list_inj(I:Inv X aa σ H s) (h:SqL X.K H a xs) (h':SqL X.K H a ys):xs=ys:=by
 obtain⟨its,r,⟨o,n,e,_,_,d⟩,_⟩:=I.list h;obtain⟨its',r',⟨o',n',e',_,_,d'⟩,_⟩:=I.list h';rw[e]at e';cases e';rw[d]at d';injection d' with d1 _
 have:its=its':=by simpa using congrArg Array.toList d1
 subst this;exact r.inj r'
theorem Inv.tuple_inj(I:Inv X aa σ H s) (h:SqT X.K H a xs) (h':SqT X.K H a ys):xs=ys:=by
 obtain⟨its,r,⟨o,e,_,n,d⟩,_⟩:=I.tuple h;obtain⟨its',r',⟨o',e',_,n',d'⟩,_⟩:=I.tuple h';rw[e]at e';cases e';rw[d]at d';injection d' with d1 _
 have:its=its':=by simpa using congrArg Array.toList d1
 subst this;exact r.inj r'
end
abbrev Cx.wish(X:Cx) (E:s0->u8->Prop):Cx:={ X with xe:=E }
abbrev Cx.nox(X:Cx):Cx:=X.wish fun _ _=>False
theorem Cx.Ok.wish{X:Cx}(ok:X.Ok) (E:s0->u8->Prop):(X.wish E).Ok :=
 ⟨ok.mod,ok.kind,ok.glob,ok.blt,ok.above,ok.inj,ok.has,ok.cab,ok.hd,ok.frames,ok.stk,ok.exf,ok.bs,ok.bsz,ok.noex,ok.exfs,ok.funs,ok.frf⟩
theorem Cx.Ok.unwish{X:Cx}{E:s0->u8->Prop}(ok:(X.wish E).Ok):X.Ok :=
 ⟨ok.mod,ok.kind,ok.glob,ok.blt,ok.above,ok.inj,ok.has,ok.cab,ok.hd,ok.frames,ok.stk,ok.exf,ok.bs,ok.bsz,ok.noex,ok.exfs,ok.funs,ok.frf⟩
section
variable{X:Cx}{aa:List (B0×Obj)}{σ:St}{H:Hp}{s:u8}{E:s0->u8->Prop}
theorem Inv.wish(I:Inv X aa σ H s) (E:s0->u8->Prop):Inv (X.wish E) aa σ H s:=⟨I.ok.wish E,I.os,I.bare,I.base,I.loc,I.cell,I.free,I.freeC,I.pin,I.hok,I.len⟩
theorem Inv.unwish(I:Inv (X.wish E) aa σ H s):Inv X aa σ H s:=⟨I.ok.unwish,I.os,I.bare,I.base,I.loc,I.cell,I.free,I.freeC,I.pin,I.hok,I.len⟩
theorem SP.unwish{D:oi}{f:Flow}{s':u8}(h:SP (X.wish E) aa D f s'):SP X aa D f s':=by
 cases f with
 |next=>obtain⟨σ',H',I,q⟩:=h;exact⟨σ',H',I.unwish,q⟩
 |brk=>obtain⟨σ',H',I,q⟩:=h;exact⟨σ',H',I.unwish,q⟩
 |cont=>obtain⟨σ',H',I,q⟩:=h;exact⟨σ',H',I.unwish,q⟩
 |ret u=>obtain⟨v,σ',H',I,r,q⟩:=h;exact⟨v,σ',H',I.unwish,r,q⟩
theorem PSs.nox{st:List Q6}{t:TS}(h:PSs X.nox st t):PSs X st t:=fun aa s σ H D I hw =>
 F5 (h aa s σ H D (I.wish _) hw) (fun _ _ q=>q.unwish) fun _ _ z=>F6 z
end
section
variable{X:Cx}{st:Q6}{aU:List Q6}{t u:TS}{e:B5}{te:TE}{pos:Pos}
def zN:TS:=fun D σ H=>D.nx σ H
def AJ(t u:TS):TS:=fun D σ H=>t { D with nx:=u D } σ H
theorem vQ:PSs X [] zN:=fun _ _ σ H _ I h=>wpAny_execs_nil ⟨σ,H,I,h⟩
theorem uu(h1:PS X st t) (h2:PSs X aU u):PSs X (st::aU) (AJ t u):=by
 intro aa s σ H D I h;refine wpAny_execs_cons (thn (h1 aa s σ H { D with nx:=u D } I h) fun f s1 q=>?_);cases f with
 |next =>
  obtain⟨σ',H',I',q⟩:=q;exact h2 aa s1 σ' H' D I' q
 |ret v=>exact q
 |brk=>exact q
 |cont=>exact q
theorem uw(h1:PS X st t):PSs X [st] t:=by
 intro aa s σ H D I h;refine wpAny_execs_cons (thn (h1 aa s σ H D I h) fun f s1 q=>?_);cases f with
 |next=>exact wpAny_execs_nil q
 |ret v=>exact q
 |brk=>exact q
 |cont=>exact q
theorem Inv.quiet{aa:List (B0×Obj)}{σ:St}{H:Hp}{s:u8}(I:Inv X aa σ H s):interactive X.env=false:=by simp[interactive,I.ok.kind]
def y7(te:TE):TS:=fun D σ H=>te σ H fun _ H1=>D.nx σ H1
theorem uK(he:PE X e te) (hs:P8 e none pos.line X.env=P0 false:=by rfl):PS X (.Expr e pos) (y7 te):=by
 intro aa s σ H D I h;exact wpAny_Expr_any (thn (he aa s σ H _ I h) fun v s1 hup=>hup.el fun x H1 I1 r1 q1=>⟨σ,H1,I1,q1⟩) I.quiet hs
def AO(te:TE):TS:=fun D σ H=>te σ H D.rt
theorem oK(he:PE X e te):PS X (.Return (some e) pos) (AO te):=by
 intro aa s σ H D I h;exact wpAny_Return_some (thn (he aa s σ H _ I h) fun v s1 hup=>hup.el fun x H1 I1 r1 q1=>⟨x,σ,H1,I1,r1,q1⟩)
def AC(c:TT) (t u:TS):TS:=fun D σ H=>c σ H fun b H1=>if b=true then t D σ H1 else u D σ H1
theorem z7{c:B5}{a b:List Q6}{tc:TT}(hc:PT X c tc) (ha:PSs X a t) (hb:PSs X b u):PS X (.If c a b pos) (AC tc t u):=by
 intro aa s σ H D I h;refine wpAny_If (thn (hc aa s σ H _ I h) fun d s1 hup=>hup.el fun H1 I1 q1=>?_);cases d with
 |true=>exact ha aa s1 σ H1 D I1 q1
 |false=>exact hb aa s1 σ H1 D I1 q1
end
abbrev TG:=V->St->Hp->(St->Hp->Prop)->Prop
abbrev TGs:=List V->St->Hp->(St->Hp->Prop)->Prop
def PG(X:Cx) (target:B5) (t:TG):Prop :=
 ∀(aa:List (B0×Obj)) (s:u8) (σ:St) (H:Hp) (v:V) (u:s0) (Q:St->Hp->Prop),Inv X aa σ H s->aG v u->t v σ H Q ->
  B9 (C8 X.prog X.w) X.A (O9 target X.env u) (fun _ s'=>∃ σ' H',Inv X aa σ' H' s'/\Q σ' H') X.xe s
def PGs(X:Cx) (ts:List B5) (t:TGs):Prop :=
 ∀(aa:List (B0×Obj)) (s:u8) (σ:St) (H:Hp) (vs:List V) (us:List s0) (Q:St->Hp->Prop),Inv X aa σ H s->ay vs us->t vs σ H Q ->
  B9 (C8 X.prog X.w) X.A (assignInOrder ((E3 ts X.env).map (·.2)) us) (fun _ s'=>∃ σ' H',Inv X aa σ' H' s'/\Q σ' H') X.xe s
abbrev wU:=V->V->V->Hp->(Hp->Prop)->Prop
def zd(X:Cx) (t:wU):Prop :=
 ∀(aa:List (B0×Obj)) (s:u8) (σ:St) (H:Hp) (o i v:V) (ov iv u:s0) (Q:Hp->Prop),Inv X aa σ H s->aG o ov->aG i iv->aG v u->t o i v H Q ->
  B9 (C8 X.prog X.w) X.A (setItem ov iv u) (fun _ s'=>∃H',Inv X aa σ H' s'/\Q H') X.xe s
section
variable{X:Cx}{pos:Pos}
def nN(i:Nat):TG:=fun v σ H Q=>Q (σ.set i (some v)) H
theorem qy{i:Nat}{x:Str}(hN:X.N.Nodup) (hi:X.N[i]?=some x) (hx:Loc X.env.scope x) (hf:X.fn x=true∨X.env.scope.names.lookup x=some .local:=by first|exact .inl rfl|exact .inr rfl|assumption):PG X (.Name x pos) (nN i):=by
 intro aa s σ H v u Q I r h;exact wpAny_assign_Name (oe I hN hi hx r (fun s' I'=>⟨_,H,I',h⟩) hf)
def xS:TGs:=fun vs σ H Q=>vs=[]/\Q σ H
def sd(t:TG) (u:TGs):TGs:=fun vs σ H Q=>∃v r,vs=v::r/\t v σ H fun σ' H'=>u r σ' H' Q
theorem qo:PGs X [] xS:=by
 intro aa s σ H vs us Q I r h;obtain⟨e,h⟩:=h;subst e;cases r;exact assignInOrder_nil ⟨σ,H,I,h⟩
theorem nX{e:B5}{es:List B5}{t:TG}{u:TGs}(h1:PG X e t) (h2:PGs X es u)
  (hs:(E3 (e::es) X.env).map (·.2)=O9 e X.env::(E3 es X.env).map (·.2):=by rfl):PGs X (e::es) (sd t u):=by
 intro aa s σ H vs us Q I r h;obtain⟨v,vr,e1,h⟩:=h;subst e1;cases r with
 |cons r rr =>
  rw[hs];refine assignInOrder_cons (thn (h1 aa s σ H _ _ _ I r h) fun _ s1 ⟨σ1,H1,I1,q1⟩=>?_);exact h2 aa s1 σ1 H1 _ _ Q I1 rr q1
def yh(K:o0) (n:Nat) (t:TGs):TG:=fun v σ H Q=>∃a xs,v=.ref a/\SqT K H a xs/\xs.length=n/\t xs σ H Q
theorem tF{es:List B5}{k:Nat}{t:TGs}{n:Nat}(hc:X.calm=true) (h:PGs X es t)
  (hn:(E3 es X.env).length=n:=by rfl) (hst:(E3 es X.env).findIdx? (·.1)=none:=by rfl):PG X (.Tuple es k pos) (yh X.K n t):=by
 intro aa s σ H v u Q I r hw;obtain⟨a,xs,e1,hq,hl,hw⟩:=hw;subst e1;cases r;obtain⟨its,rv,ht,hz⟩:=I.tuple hq;refine assign_Tuple_tuple (I.ok.hd hc) ht (by simp[hn,<-hl,rv.length]) hst fun h' hx=>?_;have I1:Inv X aa σ H { s with heap:=h' }:=I.kept (t':=s.toks) fun b o e=>hx b o (B8 (A9 e)) e;exact h aa _ σ H xs _ Q I1 (by simpa using rv) hw
def Ax(to ti:TE) (t:wU):TG:=fun v σ H Q=>to σ H fun o H1=>ti σ H1 fun i H2=>t o i v H2 fun H3=>Q σ H3
theorem ye{o i:B5}{to ti:TE}{t:wU}(ho:PE X o to) (hi:PE X i ti) (hs:zd X t)
  (ha:∀ v,O9 (.Subscript o i pos) X.env v = (do
   let ov <-Q9 [v] (N0 o X.env)
   let iv <-Q9 [v,ov] (N0 i X.env)
   standAt pos
   Q9 [v,ov,iv] (setItem ov iv v)
   release [v,ov,iv] []):=by intro _;rfl):PG X (.Subscript o i pos) (Ax to ti t):=by
 intro aa s σ H v u Q I r h;rw[ha];refine A4 (O0 (thn (ho aa s σ H _ I h) fun ov s1 hup=>hup.el fun x H1 I1 r1 q1=>?_));refine A4 (O0 (thn (hi aa s1 σ H1 _ I1 q1) fun iv s2 hup=>hup.el fun y H2 I2 r2 q2=>?_));refine A4 (wpAny_standAt (A4 (O0 (thn (hs aa s2 σ H2 x y v ov iv u _ I2 r1 r2 r q2) fun _ s3 ⟨H3,I3,q3⟩=>?_))));exact wpAny_release ⟨σ,H3,I3,q3⟩
def xJ(te:TE) (g:TG):TS:=fun D σ H=>te σ H fun x H1=>g x σ H1 D.nx
theorem tv{tg e:B5}{te:TE}{g:TG}(he:PE X e te) (hg:PG X tg g) (hs:swapsWithSole [tg] e pos.line X.env=P0 false:=by rfl) (hw:swappedStores [tg] e X.env=P0 none:=by rfl)
  (h1:(E3 [tg] X.env).map (·.2)=[O9 tg X.env]:=by rfl):PS X (.Assign [tg] e pos) (xJ te g):=by
 intro aa s σ H D I h;refine wpAny_Assign_stores (thn (he aa s σ H _ I h) fun v s1 hup=>hup.el fun x H1 I1 r1 q1=>?_) hs hw;rw[h1];exact thn (hg aa s1 σ H1 x v _ I1 r1 q1) fun _ s2 q=>q
theorem xu{i:Nat}{x:Str}{e:B5}{te:TE}{pos':Pos}(hN:X.N.Nodup) (hi:X.N[i]?=some x) (hx:Loc X.env.scope x) (he:PE X e te) (hs:P8 e (some (.Name x pos')) pos.line X.env=P0 false:=by rfl) (hf:X.fn x=true∨X.env.scope.names.lookup x=some .local:=by first|exact .inl rfl|exact .inr rfl|assumption) :
  PS X (.Assign [.Name x pos'] e pos) (xJ te (nN i)):=by
 intro aa s σ H D I h;refine wpAny_Assign_Name (thn (he aa s σ H _ I h) fun v s1 hup=>hup.el fun y H1 I1 r1 q1=>?_) hs;exact oe I1 hN hi hx r1 (fun s2 I2=>⟨_,H1,I2,q1⟩) hf
end
structure It where
 go:Nat->Hp->Prop
 yld:Nat->Hp->V->Hp->Prop
 stop:Nat->Hp->Prop
def dG(X:Cx) (aa:List (B0×Obj)) (H:Hp) (b:B0):Prop :=
 H b=none/\b≠X.env.locals/\b∉X.fs/\(b∈X.ex∨X.s₀.heap.objs.size<=b)/\(∀x c,X.env.cells.lookup x=some c->c≠b)/\∀p∈X.pn++aa,p.1≠b
theorem Inv.fpOk{X:Cx}{aa:List (B0×Obj)}{σ:St}{H H':Hp}{s:u8}{b:B0}(I:Inv X aa σ H s) (hb:s.heap.objs.size<=b) (hn:H' b=none):dG X aa H' b:=by
 refine⟨hn,P9 (B1 I.lt hb),I.nofs hb,.inr (D3 I.sz hb),fun x c e z=>?_,fun p hp z=>?_⟩
 ·obtain⟨v,q⟩:=I.cell x c e;exact absurd (B1 q.lt (by rw[z];exact hb)) (J5 _)
 ·exact absurd (B1 (A9 (I.pin p hp).1) (by rw[z];exact hb)) (J5 _)
structure lY(P:D0) (w:F2) (K:o0) (tg:B5) (J:It) (fp:List B0) (it:B0) (tn:Nat->C7->Prop):Prop where
 mem:it∈fp
 obj:∀i h,tn i h->∀b∈fp,∃o,h.get? b=some o/\∀v,o.data≠.cell v
 keep:∀i h h',tn i h->(∀b∈fp,∀o,h.get? b=some o->h'.get? b=some o)->tn i h'
 item:∀(X:Cx),X.prog=P->X.w=w->X.K=K->X.calm=true->∀(i:Nat) (aa:List (B0×Obj)) (s:u8) (σ:St) (H:Hp) (E:s0->u8->Prop),Inv X aa σ H s->(∀b∈fp,dG X aa H b)->tn i s.heap->J.go i H ->
  B9 (C8 P w) X.A (pyNext (.ref it)) (fun r s1=>∃u,r=some u /\
   B9 (C8 P w) X.A (L7 tg (.ref it) u) (fun _ s2=>∃x H',Inv X aa σ H' s2/\aG x u/\J.yld i H x H'/\tn (i+1) s2.heap/\∀b∈fp,H' b=none) E s1) E s
 done:∀(X:Cx),X.prog=P->X.w=w->X.K=K->X.calm=true->∀(i:Nat) (aa:List (B0×Obj)) (s:u8) (σ:St) (H:Hp) (E:s0->u8->Prop),Inv X aa σ H s->(∀b∈fp,dG X aa H b)->tn i s.heap->J.stop i H ->
  B9 (C8 P w) X.A (pyNext (.ref it)) (fun r s1=>r=none/\Inv X aa σ H s1) E s
 self:∀(A:D9) (i:Nat) (s:u8) (Q:s0->u8->Prop) (E:s0->u8->Prop),tn i s.heap->Q (.ref it) s->B9 (C8 P w) A (pyIter (.ref it)) Q E s
abbrev TI:=St->Hp->(It->Hp->Prop)->Prop
def PIE(X:Cx) (aa:List (B0×Obj)) (σ:St) (tg:B5) (R:It->Hp->Prop) (itv:s0) (s2:u8):Prop :=
 ∃(it:B0) (fp:List B0) (tn:Nat->C7->Prop) (J:It) (H':Hp),itv=.ref it/\Inv X aa σ H' s2/\lY X.prog X.w X.K tg J fp it tn/\tn 0 s2.heap/\(∀b∈fp,dG X aa H' b)/\R J H'
def PI(X:Cx) (tg iter:B5) (wi:TI):Prop :=
 ∀(aa:List (B0×Obj)) (s:u8) (σ:St) (H:Hp) (R:It->Hp->Prop),Inv X aa σ H s->wi σ H R ->
  B9 (C8 X.prog X.w) X.A (N0 iter X.env) (fun v s1=>B9 (C8 X.prog X.w) X.A (pyIter v) (PIE X aa σ tg R) X.xe s1) X.xe s
theorem p6{M:Model}{A:D9}{E:s0->u8->Prop}{s:u8}{tg:B5}{it:B0}{u:s0}{o:Obj}{n:String}{vs:Array s0}{Q:Unit->u8->Prop}(ho:s.heap.get? it=some o) (hc:o.cls=.type n) (hd:o.data=.fields vs)
    (hn:["enumerate","zip","dict_itemiterator","dict_reverseitemiterator","odict_iterator","itertools.zip_longest","itertools.pairwise"].contains n=false) (hQ:Q () s):B9 M A (L7 tg (.ref it) u) Q E s:=by
  unfold L7;cases tg<;>first
    |exact B2 hQ
    |(cases u<;>first
        |exact B2 hQ
        | (refine A4 (wpAny_load ho ?_)
           rw[hc,hd];show B9 M A (if(["enumerate","zip","dict_itemiterator","dict_reverseitemiterator","odict_iterator","itertools.zip_longest","itertools.pairwise"].contains n&&vs[0]?==some (rawInt _))=true then _ else _) Q E s;rw[if_neg (by intro h;rw[hn,Bool.false_and]at h;cases h)];exact B2 hQ))
def Itl(K:o0) (a:B0):It :=
 ⟨fun i H=>∃xs x,SqL K H a xs/\xs[i]?=some x,fun i H x H'=>H'=H/\∀xs,SqL K H a xs->xs[i]?=some x,fun i H=>∃xs,SqL K H a xs/\xs.length<=i⟩
def Itt(K:o0) (a:B0):It :=
 ⟨fun i H=>∃xs x,SqT K H a xs/\xs[i]?=some x,fun i H x H'=>H'=H/\∀xs,SqT K H a xs->xs[i]?=some x,fun i H=>∃xs,SqT K H a xs/\xs.length<=i⟩
def Itr(lo:Int) (n:Nat):It:=⟨fun i _=>i<n,fun i H x H'=>H'=H/\x=.int (lo+i),fun i _=>n<=i⟩
theorem lq{P:D0}{w:F2}{K:o0}{tg:B5}(a it:B0):lY P w K tg (Itl K a) [it] it (fun i h=>h.IsListIter it a i) where
 mem:=by simp
 obj:=fun i h st b hb=>by
  have e:b=it:=by simpa using hb
  subst e;obtain⟨o,e,c,d⟩:=st;exact⟨o,e,fun v z=>by rw[d]at z;cases z⟩
 keep:=fun i h h' st k=>st.at fun o e=>k it (by simp) o e
 item:=by
  intro X hP hw hK hc i aa s σ H E I hf st hg;subst hP hw hK;obtain⟨xs,x,hq,hx⟩:=hg;obtain⟨its,rv,p,hz⟩:=I.list hq;obtain⟨u,hu,ru⟩:=rv.get hx;obtain⟨f0,f1,f2,f3,f4,f5⟩:=hf it (by simp);refine wpAny_pyNext_list_item st p.isList (x:=u) (by simpa using hu) fun h' st' sb=>?_;have I1:Inv X aa σ H { s with heap:=h' }:=I.turned (t':=s.toks) (fun b o hb e=>(sb.2 b hb).trans e) f0 f1 f3 f4 f5;obtain⟨o,e,c,d⟩:=id st';exact⟨u,rfl,p6 (s:={ s with heap:=h' }) e c d (by decide) ⟨x,H,I1,ru,⟨rfl,fun ys hy=>by rw[I.list_inj hy hq];exact hx⟩,st',fun b hb=>(hf b hb).1⟩⟩
 done:=by
  intro X hP hw hK hc i aa s σ H E I hf st hg;subst hP hw hK;obtain⟨xs,hq,hx⟩:=hg;obtain⟨its,rv,p,hz⟩:=I.list hq;obtain⟨f0,f1,f2,f3,f4,f5⟩:=hf it (by simp);have hl:=rv.length;exact wpAny_pyNext_list_end (I.ok.hd hc) st p.isList (by simp;lia) fun h' eb=>⟨rfl,I.turned (t':=s.toks) (fun b o hb e=>eb b o hb e) f0 f1 f3 f4 f5⟩
 self:=fun _ _ _ _ _ st h=>wpAny_pyIter_listiter st h
theorem oN{P:D0}{w:F2}{K:o0}{tg:B5}(a it:B0):lY P w K tg (Itt K a) [it] it (fun i h=>h.IsTupleIter it a i) where
 mem:=by simp
 obj:=fun i h st b hb=>by
  have e:b=it:=by simpa using hb
  subst e;obtain⟨o,e,c,d⟩:=st;exact⟨o,e,fun v z=>by rw[d]at z;cases z⟩
 keep:=fun i h h' st k=>st.at fun o e=>k it (by simp) o e
 item:=by
  intro X hP hw hK hc i aa s σ H E I hf st hg;subst hP hw hK;obtain⟨xs,x,hq,hx⟩:=hg;obtain⟨its,rv,p,hz⟩:=I.tuple hq;obtain⟨u,hu,ru⟩:=rv.get hx;obtain⟨f0,f1,f2,f3,f4,f5⟩:=hf it (by simp);refine wpAny_pyNext_tuple_item st (show s.heap.IsTuple a its.toArray from p) (x:=u) (by simpa using hu) fun h' st' sb=>?_;have I1:Inv X aa σ H { s with heap:=h' }:=I.turned (t':=s.toks) (fun b o hb e=>(sb.2 b hb).trans e) f0 f1 f3 f4 f5;obtain⟨o,e,c,d⟩:=id st';exact⟨u,rfl,p6 (s:={ s with heap:=h' }) e c d (by decide) ⟨x,H,I1,ru,⟨rfl,fun ys hy=>by rw[I.tuple_inj hy hq];exact hx⟩,st',fun b hb=>(hf b hb).1⟩⟩
 done:=by
  intro X hP hw hK hc i aa s σ H E I hf st hg;subst hP hw hK;obtain⟨xs,hq,hx⟩:=hg;obtain⟨its,rv,p,hz⟩:=I.tuple hq;obtain⟨f0,f1,f2,f3,f4,f5⟩:=hf it (by simp);have hl:=rv.length;exact wpAny_pyNext_tuple_end (I.ok.hd hc) st (show s.heap.IsTuple a its.toArray from p) (by simp;lia) fun h' eb=>⟨rfl,I.turned (t':=s.toks) (fun b o hb e=>eb b o hb e) f0 f1 f3 f4 f5⟩
 self:=fun _ _ _ _ _ st h=>wpAny_pyIter_tupleiter st h
theorem pH{P:D0}{w:F2}{K:o0}{tg:B5}(it:B0) (lo:Int) (n:Nat):lY P w K tg (Itr lo n) [it] it (fun i h=>IsRangeIter h it (lo+(i:Nat)*1) ((n:Int)-(i:Nat)) 1) where
 mem:=by simp
 obj:=fun i h st b hb=>by
  have e:b=it:=by simpa using hb
  subst e;exact⟨_,st,fun v z=>by
   have z':Data.fields _=Data.cell v:=z;cases z'⟩
 keep:=fun i h h' st k=>k it (by simp) _ st
 item:=by
  intro X hP hw hK hc i aa s σ H E I hf st hg;subst hP hw hK;obtain⟨f0,f1,f2,f3,f4,f5⟩:=hf it (by simp);have W:=Walks.range (prog:=X.prog) (w:=X.w) (I.ok.hd hc) it lo 1 n;refine W.item i s _ _ hg st fun v h' tk hv st' kk=>?_;obtain⟨t,rfl⟩:=hv;have I1:Inv X aa σ H { s with heap:=h',toks:=tk }:=I.turned (fun b o hb e=>kk b o (by simpa using hb) e) f0 f1 f3 f4 f5;refine⟨_,rfl,p6 (s:={ s with heap:=h',toks:=tk }) (n:="range_iterator") st' rfl rfl (by decide) ⟨.int (lo+i),H,I1,⟨t,?_⟩,⟨rfl,rfl⟩,st',fun b hb=>(hf b hb).1⟩⟩;rw[Int.mul_one]
 done:=by
  intro X hP hw hK hc i aa s σ H E I hf st hg;subst hP hw hK;obtain⟨f0,f1,f2,f3,f4,f5⟩:=hf it (by simp);exact wpAny_pyNext_range_end (I.ok.hd hc) st (by have:n<=i:=hg;lia) fun h' eb=>⟨rfl,I.turned (t':=s.toks) (fun b o hb e=>eb b o hb e) f0 f1 f3 f4 f5⟩
 self:=fun _ _ _ _ _ st h=>wpAny_pyIter_rangeiter st h
section
variable{X:Cx}{tg:B5}
theorem ud{aa:List (B0×Obj)}{σ:St}{H:Hp}{s:u8}{R:It->Hp->Prop}{E:s0->u8->Prop}{lo hi:Int}{t u v:Tok}{tk:Nat}(I:Inv X aa σ H s) (h1:-(2 ^ 62)<=lo) (h2:lo<2 ^ 62) (h3:-(2 ^ 62)<=hi) (h4:hi<2 ^ 62)
  (q:R (Itr lo (hi-lo).toNat) H):B9 (C8 X.prog X.w) X.A (pyIter (.ref s.heap.objs.size)) (PIE X aa σ tg R) E { s with heap:=s.heap.push { cls:=.type "range",data:=.fields #[.int lo t,.int hi u,.int 1 v] },toks:=tk }:=by
 refine wpAny_pyIter_range (IsRange.new ..) (small_one h1 h2 h3 h4) ?_;have I1:Inv X aa σ H { s with heap:=s.heap.push { cls:=.type "range",data:=.fields #[.int lo t,.int hi u,.int 1 v] },toks:=tk }:=I.kept fun b o e=>A6 _ e;refine⟨(s.heap.push { cls:=.type "range",data:=.fields #[.int lo t,.int hi u,.int 1 v] }).objs.size,[(s.heap.push { cls:=.type "range",data:=.fields #[.int lo t,.int hi u,.int 1 v] }).objs.size],_,_,H,rfl,
  I1.kept (t':=tk) fun b o e=>A6 _ e,pH _ lo (hi-lo).toNat,?_,fun b hb=>?_,q⟩
 ·have e1:lo+((0:Nat):Int)*1=lo:=by simp
  have e2:(((hi-lo).toNat:Nat):Int)-((0:Nat):Int)=C4.Range.rangeSize lo hi 1:=by rw[rangeSize_one];split<;>lia
  show IsRangeIter _ _ (lo+((0:Nat):Int)*1) ((((hi-lo).toNat:Nat):Int)-((0:Nat):Int)) 1;rw[e1,e2];exact B6 _ rfl
 ·have e:b=(s.heap.push { cls:=.type "range",data:=.fields #[.int lo t,.int hi u,.int 1 v] }).objs.size:=by simpa using hb
  subst e;exact I1.fpOk (B4 _) (I1.hok.fresh (B4 _))
def zj(ta:TA):TI:=fun σ H R=>ta σ H fun vs H1=>∃j:Int,vs=[.int j]/\-(2 ^ 62)<=j/\j<2 ^ 62/\R (Itr 0 j.toNat) H1
theorem qJ{a:B5}{ta:TA}{p pos:Pos}(hg:Gl X "range") (hm:X.mg "range"=none) (ha:PA X [a] ta) (hs:A8 [a] X.env=[(false,N0 a X.env)]:=by rfl):PI X tg (.Call (.Name "range" p) [a] [] pos) (zj ta):=by
 intro aa s σ H R I h;refine Call_ (gI I hg hm boot_range (PyProof.Rows.callWith_type1 (thn (ha pos aa s σ H _ I h) fun us s1 hup=>hup.el fun vs H1 I1 r1 q1=>?_) hs rfl));obtain⟨j,e,q1,q2,q⟩:=q1;subst e;cases r1 with
 |cons r rr =>
  cases rr;obtain⟨t,rfl⟩:=r;exact call_range_1 (ud I1 (by lia) (by lia) q1 q2 (by simpa using q))
def Ag(wi:TI) (g:TG) (tb:TS):TS:=fun D σ H=>wi σ H fun J H1=>∃W:Nat->Nat->St->Hp->Prop,(∃m,W 0 m σ H1)/\∀i m σ H,W i m σ H ->
 (J.stop i H/\D.nx σ H)∨(J.go i H/\∃N:St->Hp->Prop,(∀ σ' H',N σ' H'->∃m',m'<m/\W (i+1) m' σ' H')/\∀x H',J.yld i H x H'->g x σ H' fun σ2 H2=>tb { D with nx:=N,ct:=N,bk:=D.nx } σ2 H2)
def gD(fp:List B0) (h:C7):List (B0×Obj):=fp.filterMap fun b=>(h.get? b).map fun o=>(b,o)
theorem eA{fp:List B0}{h:C7}{b:B0}{o:Obj}(hb:b∈fp) (e:h.get? b=some o):(b,o)∈gD fp h:=L8.mpr ⟨b,hb,by rw[e];rfl⟩
theorem lV{fp:List B0}{h:C7}{p:B0×Obj}(hp:p∈gD fp h):p.1∈fp/\h.get? p.1=some p.2:=by
 obtain⟨b,hb,e⟩:=L8.mp hp;cases q:h.get? b with
 |none=>rw[q]at e;cases e
 |some o =>
  rw[q]at e;have e':(b,o)=p:=C0 e;subst e';exact⟨hb,q⟩
theorem Inv.pinned{aa:List (B0×Obj)}{σ:St}{H:Hp}{s:u8}{fp:List B0}(I:Inv X aa σ H s) (hf:∀b∈fp,dG X aa H b) (ho:∀b∈fp,∃o,s.heap.get? b=some o/\∀v,o.data≠.cell v):Inv X (aa++gD fp s.heap) σ H s :=
 I.pins_of fun p hp=>(K9.mp hp).elim (fun z=>I.pin p (B3 _ z)) fun z=>by
  obtain⟨hb,e⟩:=lV z;obtain⟨f0,f1,f2,_⟩:=hf p.1 hb;obtain⟨o,e',d⟩:=ho p.1 hb;rw[e]at e';cases e';exact⟨e,f0,f1,f2,d⟩
theorem Inv.unpinned{aa pl:List (B0×Obj)}{σ:St}{H:Hp}{s:u8}(I:Inv X (aa++pl) σ H s):Inv X aa σ H s:=I.pins_of fun p hp=>I.pin p (B3 _ (List.mem_append_left _ hp))
theorem wG{iter:B5}{body:List Q6}{wi:TI}{g:TG}{tb:TS}{pos:Pos}(hp:PassesOwn (C8 X.prog X.w) X.A X.env X.xe) (hc:X.calm=true) (hi:PI X tg iter wi) (hg:PG X tg g) (hb:PSs X body tb)
  (hs:∀x,J3 iter X.env x=P0 x:=by intro _;rfl):PS X (.For tg iter body [] pos) (Ag wi g tb):=by
 intro aa s σ H D I h;refine wpAny_For (thn (hi aa s σ H _ I h) fun v s1 h1=>thn h1 fun itv s2 h2=>?_) hs;obtain⟨it,fp,tn,J,H2,e,I2,T,st2,f2,W,⟨m0,w0⟩,turn⟩:=h2;subst e
 -- what stays true of the iterator's objects through the loop
 have stat:∀{H':Hp},(∀b∈fp,H' b=none)->∀b∈fp,dG X aa H' b:=fun hn b hb=>⟨hn b hb,(f2 b hb).2⟩;refine codeAny_forLoop_any (fun n s'=>∃i σ' H',Inv X aa σ' H' s'/\tn i s'.heap/\(∀b∈fp,H' b=none)/\W i n σ' H') ?_ m0 ⟨0,σ,H2,I2,st2,fun b hb=>(f2 b hb).1,w0⟩;rintro n s3 ⟨i,σ3,H3,I3,st3,fr3,w3⟩;rcases turn i n σ3 H3 w3 with⟨stop,qn⟩|⟨go,N,hN,step⟩
 ·refine L9 hp (thn (T.done X rfl rfl rfl hc i aa s3 σ3 H3 X.xe I3 (stat fr3) st3 stop) fun r s4 ⟨hr,I4⟩=>?_);subst hr;exact wpAny_execs_nil ⟨σ3,H3,I4,qn⟩
 ·refine L9 hp (thn (T.item X rfl rfl rfl hc i aa s3 σ3 H3 X.xe I3 (stat fr3) st3 go) fun r s4 ⟨u,hr,h4⟩=>?_);subst hr;refine L9 hp (thn h4 fun _ s5 ⟨x,H5,I5,r5,y5,st5,fr5⟩=>?_);have I5':=I5.pinned (stat fr5) (T.obj _ _ st5);refine L9 hp (thn (hg _ s5 σ3 H5 x u _ I5' r5 (step x H5 y5)) fun _ s6 ⟨σ6,H6,I6,q6⟩=>?_);refine L9 hp (thn (hb _ s6 σ6 H6 _ I6 q6) fun f s7 q7=>?_);have again:∀{σ7:St} {H7:Hp},Inv X (aa++gD fp s5.heap) σ7 H7 s7->N σ7 H7->∃m,m<n/\∃i σ' H',Inv X aa σ' H' s7/\tn i s7.heap/\(∀b∈fp,H' b=none)/\W i m σ' H':=fun {σ7 H7} I7 n7=>by
   obtain⟨m',hm,w7⟩:=hN σ7 H7 n7;refine⟨m',hm,i+1,σ7,H7,I7.unpinned,T.keep _ _ _ st5 fun b hb o e=>(I7.pin (b,o) (B3 _ (B3 _ (eA hb e)))).1,fun b hb=>?_,w7⟩;obtain⟨o,e,d⟩:=T.obj _ _ st5 b hb;exact(I7.pin (b,o) (B3 _ (B3 _ (eA hb e)))).2.1
  cases f with
  |next=>obtain⟨σ7,H7,I7,n7⟩:=q7;exact again I7 n7
  |cont=>obtain⟨σ7,H7,I7,n7⟩:=q7;exact again I7 n7
  |brk=>obtain⟨σ7,H7,I7,q7⟩:=q7;exact⟨σ7,H7,I7.unpinned,q7⟩
  |ret v=>obtain⟨x7,σ7,H7,I7,r7,q7⟩:=q7;exact⟨x7,σ7,H7,I7.unpinned,r7,q7⟩
end
abbrev R2:=V->V->Hp->VK->Prop
def OpR(X:Cx) (f:s0->s0->Sem s0) (r:R2):Prop :=
 ∀(aa:List (B0×Obj)) (s:u8) (σ:St) (H:Hp) (x y:V) (v u:s0) (Q:VK),Inv X aa σ H s->aG x v->aG y u->r x y H Q ->
  B9 (C8 X.prog X.w) X.A (f v u) (EP X aa σ Q) X.xe s
def UnR(X:Cx) (f:s0->Sem s0) (r:V->Hp->VK->Prop):Prop :=
 ∀(aa:List (B0×Obj)) (s:u8) (σ:St) (H:Hp) (x:V) (v:s0) (Q:VK),Inv X aa σ H s->aG x v->r x H Q ->
  B9 (C8 X.prog X.w) X.A (f v) (EP X aa σ Q) X.xe s
def cO(X:Cx) (f:s0) (r:List V->Hp->VK->Prop):Prop :=
 ∀(aa:List (B0×Obj)) (s:u8) (σ:St) (H:Hp) (xs:List V) (us:List s0) (Q:VK),Inv X aa σ H s->ay xs us->r xs H Q ->
  B9 (C8 X.prog X.w) X.A (call f us) (EP X aa σ Q) X.xe s
def tOp(r:R2) (ta tb:TE):TE:=fun σ H Q=>ta σ H fun x H1=>tb σ H1 fun y H2=>r x y H2 Q
def tUn(r:V->Hp->VK->Prop) (ta:TE):TE:=fun σ H Q=>ta σ H fun x H1=>r x H1 Q
def rI(C:Int->Int->Prop) (g:Int->Int->V):R2:=fun x y H Q=>∃i j,x=.int i/\y=.int j/\C i j/\Q (g i j) H
def rI0(g:Int->Int->V):R2:=fun x y H Q=>∃i j,x=.int i/\y=.int j/\Q (g i j) H
def rU(g:Int->V):V->Hp->VK->Prop:=fun x H Q=>∃i,x=.int i/\Q (g i) H
section
variable{X:Cx}{a b c:B5}{ta tb tc:TE}{pos:Pos}
theorem yD(ha:PE X a ta) (hb:PE X b tb) {aa:List (B0×Obj)}{s:u8}{σ:St}{H:Hp}{R:V->V->Hp->Prop}(I:Inv X aa σ H s)
  (h:ta σ H fun x H1=>tb σ H1 fun y H2=>R x y H2) {Q:s0->u8->Prop} {f:s0->s0->Sem s0}
  (hf:∀v u s2 x y H2,Inv X aa σ H2 s2->aG x v->aG y u->R x y H2->B9 (C8 X.prog X.w) X.A (f v u) Q X.xe s2) :
  B9 (C8 X.prog X.w) X.A (N0 a X.env) (fun v s₁=>B9 (C8 X.prog X.w) X.A (N0 b X.env) (fun u s₂=>B9 (C8 X.prog X.w) X.A (f v u) Q X.xe s₂) X.xe s₁) X.xe s:=by
 refine thn (ha aa s σ H _ I h) fun v s1 hup=>hup.el fun x H1 I1 r1 q1=>?_;refine thn (hb aa s1 σ H1 _ I1 q1) fun u s2 hup=>hup.el fun y H2 I2 r2 q2=>?_;exact hf v u s2 x y H2 I2 r1 r2 q2
theorem zu{op:Operator}{r:R2}(ho:OpR X (E8 op) r) (ha:PE X a ta) (hb:PE X b tb):PE X (.BinOp a op b pos) (tOp r ta tb):=by
 intro aa s σ H Q I h;exact wpAny_BinOp (yD ha hb I h fun v u s2 x y H2 I2 rx ry q=>ho aa s2 σ H2 x y v u Q I2 rx ry q)
theorem zr{op:UnaryOp}{r:V->Hp->VK->Prop}(ho:UnR X (unaryOp op) r) (ha:PE X a ta):PE X (.UnaryOp op a pos) (tUn r ta):=by
 intro aa s σ H Q I h;exact UnaryOp_ (thn (ha aa s σ H _ I h) fun v s1 hup=>hup.el fun x H1 I1 r1 q1=>ho aa s1 σ H1 x v Q I1 r1 q1)
theorem opI{f:s0->s0->Sem s0}{C:Int->Int->Prop}{g:Int->Int->Int}
  (rule:∀(i j:Int) (t u:Tok) (s:u8) (Q:s0->u8->Prop) (E:s0->u8->Prop),C i j->Q (.int (g i j) s.toks) { s with toks:=s.toks+1 }->B9 (C8 X.prog X.w) X.A (f (.int i t) (.int j u)) Q E s) :
  OpR X f (rI C fun i j=>.int (g i j)):=by
 intro aa s σ H x y v u Q I rx ry h;obtain⟨i,j,rfl,rfl,hc,q⟩:=h;obtain⟨t,rfl⟩:=rx;obtain⟨t',rfl⟩:=ry;exact rule i j t t' s _ _ hc ⟨.int (g i j),H,I.tok _,⟨_,rfl⟩,q⟩
theorem zM{f:s0->s0->Sem s0}{g:Int->Int->Int}
  (rule:∀(i j:Int) (t u:Tok) (s:u8) (Q:s0->u8->Prop) (E:s0->u8->Prop),Q (.int (g i j) s.toks) { s with toks:=s.toks+1 }->B9 (C8 X.prog X.w) X.A (f (.int i t) (.int j u)) Q E s) :
  OpR X f (rI0 fun i j=>.int (g i j)):=by
 intro aa s σ H x y v u Q I rx ry h;obtain⟨i,j,rfl,rfl,q⟩:=h;obtain⟨t,rfl⟩:=rx;obtain⟨t',rfl⟩:=ry;exact rule i j t t' s _ _ ⟨.int (g i j),H,I.tok _,⟨_,rfl⟩,q⟩
theorem vP{f:s0->s0->Sem s0}{g:Int->Int->Bool}
  (rule:∀(i j:Int) (t u:Tok) (s:u8) (Q:s0->u8->Prop) (E:s0->u8->Prop),Q (.bool (g i j)) s->B9 (C8 X.prog X.w) X.A (f (.int i t) (.int j u)) Q E s) :
  OpR X f (rI0 fun i j=>.bl (g i j)):=by
 intro aa s σ H x y v u Q I rx ry h;obtain⟨i,j,rfl,rfl,q⟩:=h;obtain⟨t,rfl⟩:=rx;obtain⟨t',rfl⟩:=ry;exact rule i j t t' s _ _ ⟨.bl (g i j),H,I,rfl,q⟩
def mX(i j:Int):Prop:=0<j/\j<1073741824
def nE(i j:Int):Prop:=0<=j/\j<=1000000/\i.natAbs<2 ^ 64
def jn(i j:Int):Prop:=(-(2 ^ 64)<i/\i<2 ^ 64)∨(-(2 ^ 64)<j/\j<2 ^ 64)
theorem jn.ok{i j:Int}(h:jn i j):IntMulOk i j:=by
 rcases h with⟨h1,h2⟩|⟨h1,h2⟩
 ·exact .of_left (intBits_le_64 h1 h2)
 ·exact .of_right (intBits_le_64 h1 h2)
theorem xQ:OpR X (E8 .Add) (rI0 fun i j=>.int (i+j)):=zM fun _ _ _ _ _ _ _ q=>add_int q
theorem xj:OpR X (E8 .Sub) (rI0 fun i j=>.int (i-j)):=zM fun _ _ _ _ _ _ _ q=>sub_int q
theorem xY:OpR X (E8 .Mult) (rI jn fun i j=>.int (i*j)):=opI fun _ _ _ _ _ _ _ hc q=>mul_int q hc.ok
theorem u6:OpR X (E8 .FloorDiv) (rI mX fun i j=>.int (i / j)):=opI fun i j _ _ _ _ _ hc q=>by
 have h1:(0:Int)<j:=hc.1;have h2:j<1073741824:=hc.2;exact floordiv_int (by lia) (by rw[Int.fdiv_eq_ediv_of_nonneg i (by lia)];exact q) (.inl (PyProof.noPylong_small (by lia)))
theorem wI:OpR X (E8 .Mod) (rI (fun _ j=>0<j) fun i j=>.int (i % j)):=opI fun i j _ _ _ _ _ hc q=>by
 have h1:(0:Int)<j:=hc;exact mod_int' (by lia) (by rw[Int.fmod_eq_emod_of_nonneg i (by lia)];exact q)
theorem yb:OpR X (E8 .Pow) (rI nE fun i j=>.int (i ^ j.toNat)):=opI fun _ _ _ _ _ _ _ hc q=>pow_int_small hc.1 hc.2.1 hc.2.2 q
theorem unI{f:s0->Sem s0}{g:Int->Int}
  (rule:∀(i:Int) (t:Tok) (s:u8) (Q:s0->u8->Prop) (E:s0->u8->Prop),Q (.int (g i) s.toks) { s with toks:=s.toks+1 }->B9 (C8 X.prog X.w) X.A (f (.int i t)) Q E s) :
  UnR X f (rU fun i=>.int (g i)):=by
 intro aa s σ H x v Q I rx h;obtain⟨i,rfl,q⟩:=h;obtain⟨t,rfl⟩:=rx;exact rule i t s _ _ ⟨.int (g i),H,I.tok _,⟨_,rfl⟩,q⟩
theorem xI:UnR X (unaryOp .USub) (rU fun i=>.int (-i)):=unI fun _ _ _ _ _ q=>neg_int q
end
section
variable{X:Cx}{a b c:B5}{ta tb tc:TE}{pos:Pos}
theorem oS{aa:List (B0×Obj)}{σ:St}{H:Hp}{s:u8}{Q:VK}{k k':Bool}(I:Inv X aa σ H s) (q:Q (.bl k) H) (e:k=k'):EP X aa σ Q (.bool k') s:=by
 subst e;exact⟨.bl k,H,I,rfl,q⟩
theorem zW:OpR X (C2 .Lt) (rI0 fun i j=>.bl (decide (i<j))):=vP fun _ _ _ _ _ _ _ q=>lt_int q
theorem zO:OpR X (C2 .LtE) (rI0 fun i j=>.bl (decide (i<=j))):=vP fun _ _ _ _ _ _ _ q=>le_int q
theorem zv:OpR X (C2 .Gt) (rI0 fun i j=>.bl (decide (j<i))):=vP fun _ _ _ _ _ _ _ q=>gt_int q
theorem yZ:OpR X (C2 .GtE) (rI0 fun i j=>.bl (decide (j<=i))):=vP fun _ _ _ _ _ _ _ q=>ge_int q
theorem rn:OpR X (C2 .In) (fun x y H Q=>∃i j,x=.str i/\y=.str j/\Q (.bl (!(J8 j i 0 j.length 1).isEmpty)) H):=by
 intro aa s σ H x y v u Q I rx ry h;obtain⟨i,j,rfl,rfl,q⟩:=h;obtain⟨t,rfl⟩:=rx;obtain⟨t',rfl⟩:=ry;exact in_str (oS I q rfl)
theorem yG:OpR X (C2 .Is) (fun x y H Q=>y=.non/\Q (.bl (decide (x=.non))) H):=by
 intro aa s σ H x y v u Q I rx ry h;obtain⟨rfl,q⟩:=h;cases ry;refine is_none_gen (oS I q ?_);cases x<;>first
  |(cases rx;rfl)
  |(obtain⟨t,rfl⟩:=rx;rfl)
theorem mR:OpR X (C2 .NotIn) (fun x y H Q=>∃i j,x=.str i/\y=.str j/\Q (.bl (!(!(J8 j i 0 j.length 1).isEmpty))) H):=by
 intro aa s σ H x y v u Q I rx ry h;obtain⟨i,j,rfl,rfl,q⟩:=h;obtain⟨t,rfl⟩:=rx;obtain⟨t',rfl⟩:=ry;exact notIn_str (oS I q rfl)
theorem vA{op:CmpOp}{r:R2}(ho:OpR X (C2 op) r) (ha:PE X a ta) (hb:PE X b tb) (hm:L6 op b=false):PE X (.Compare a [op] [b] pos) (tOp r ta tb):=by
 intro aa s σ H Q I h;exact wpAny_Compare1 (yD ha hb I h fun v u s2 x y H2 I2 rx ry q=>ho aa s2 σ H2 x y v u Q I2 rx ry q) hm
def wm(t:TE):TT:=fun σ H Q=>t σ H fun x H'=>∃k,x=.bl k/\Q k H'
theorem vg{op:CmpOp}{r:R2}(ho:OpR X (C2 op) r) (ha:PE X a ta) (hb:PE X b tb) (hm:L6 op b=false):PT X (.Compare a [op] [b] pos) (wm (tOp r ta tb)):=by
 intro aa s σ H Q I h;refine wpAny_isTrue_Compare1 (thn (ha aa s σ H _ I h) fun v s1 hup=>hup.el fun x H1 I1 r1 q1=>thn (hb aa s1 σ H1 _ I1 q1) fun u s2 hup=>hup.el fun y H2 I2 r2 q2 =>
  thn (ho aa s2 σ H2 x y v u _ I2 r1 r2 q2) fun c s3 ⟨z,H3,I3,r3,k,e,q3⟩=>?_) hm
 subst e;cases r3;exact J1 ⟨H3,I3,q3⟩
def yl(r r':R2) (ta tb tc:TE):TE:=fun σ H Q=>ta σ H fun x H1=>tb σ H1 fun y H2=>r x y H2 fun z H3=>∃k,z=.bl k /\
 (if k=true then tc σ H3 fun w' H4=>r' y w' H4 Q else Q (.bl false) H3)
theorem sZ{op op':CmpOp}{r r':R2}(ho:OpR X (C2 op) r) (ho':OpR X (C2 op') r') (ha:PE X a ta) (hb:PE X b tb) (hc:PE X c tc)
  (hm:lastMarks [op,op'] [b,c]=false:=by with_unfolding_all rfl):PE X (.Compare a [op,op'] [b,c] pos) (yl r r' ta tb tc):=by
 intro aa s σ H Q I h;refine Compare_chain (thn (ha aa s σ H _ I h) fun v s1 hup=>hup.el fun x H1 I1 r1 q1=>chain_link (thn (hb aa s1 σ H1 _ I1 q1) fun u s2 hup=>hup.el fun y H2 I2 r2 q2 =>
  thn (ho aa s2 σ H2 x y v u _ I2 r1 r2 q2) fun d s3 ⟨z,H3,I3,r3,k,e,q3⟩=>?_)) hm
 subst e;cases r3;refine J1 ?_;cases k with
 |false=>exact ite_ff ⟨.bl false,H3,I3,rfl,q3⟩
 |true=>exact ite_tt (chain_last (thn (hc aa s3 σ H3 _ I3 q3) fun w' s4 ⟨z',H4,I4,r4,q4⟩=>ho' aa s4 σ H4 y z' u w' Q I4 r2 r4 q4))
theorem iG:(A3:Nat)<2 ^ 63:=by rw[sizeLine_eq];decide
theorem o4:OpR X (E8 .Add) (fun x y H Q=>∃i j,x=.str i/\y=.str j/\i.length+j.length<=A3/\Q (.str (i++j)) H):=by
 intro aa s σ H x y v u Q I rx ry h;obtain⟨i,j,rfl,rfl,hz,q⟩:=h;obtain⟨t,rfl⟩:=rx;obtain⟨t',rfl⟩:=ry;exact add_str (fun t' tk=>⟨.str (i++j),H,I.tok _,⟨_,rfl⟩,q⟩) hz
theorem pV{x:V}{us:List s0}(r:ay [x] us):∃u,us=[u]/\aG x u:=by
 cases r with
 |cons r1 r2=>cases r2;exact⟨_,rfl,r1⟩
theorem sL:cO X (.builtin "abs") (fun xs H Q=>∃i,xs=[.int i]/\Q (.int (if i<0 then -i else i)) H):=by
 intro aa s σ H xs us Q I r h;obtain⟨i,rfl,q⟩:=h;obtain⟨u,rfl,t,rfl⟩:=pV r;exact call_abs_int fun u tk=>⟨.int (if i<0 then -i else i),H,I.tok _,⟨_,rfl⟩,q⟩
end
structure A1(h:C7) (x dx C:B0) (mA:Str->Option s0):Prop where
 obj:h.get? x=some (PySem.W.instObj C dx)
 ns:h.Ns1 dx mA
 ne:dx≠x
structure Cls(K:o0) (C:B0):Prop where
 pg:PySem.W.plainGet K C Str.empty=true
 hd:PySem.W.hasDictIn K C=true
 po:PySem.W.plainOver K C=true
 sa:PySem.W.findIn K (.ref C) "__setattr__"=some (some (.builtin "object.__setattr__"))
theorem Cls.get{K:o0}{C:B0}(c:Cls K C) (f:Str):PySem.W.plainGet K C f=true:=c.pg
section
variable{X:Cx}{aa:List (B0×Obj)}{σ:St}{H:Hp}{s:u8}{A:D9}{E:s0->u8->Prop}{Q:s0->u8->Prop}{c:s0}{b:Bool}
inductive jU (K:o0) (H:Hp):V->s0->Prop where
 |non:jU K H .non (.type "NoneType")
 |bl (x:Bool):jU K H (.bl x) (.type "bool")
 |int (i:Int):jU K H (.int i) (.type "int")
 |str (x:Str):jU K H (.str x) (.type "str")
 |flt (x:UInt64):jU K H (.flt x) (.type "float")
 |lst {a:B0} {xs:List V} (e:H a=some (.lst xs)):jU K H (.ref a) (.type "list")
 |frz {a:B0} {o:Obj} {xs:List V} (e:H a=some (.frz o (.lst xs))):jU K H (.ref a) (.type "list")
 |tup {a:B0} {xs:List V} (e:H a=some (.tup xs)):jU K H (.ref a) (.type "tuple")
 |dK {a:B0} {kvs:List (Key×V)} (e:H a=some (.dK kvs)):jU K H (.ref a) (.type "dict")
 |dT {a:B0} {kvs:List (List Key×V)} (e:H a=some (.dT kvs)):jU K H (.ref a) (.type "dict")
 | ins {a C dx:B0} {fs:List (Str × V)} (e:H a = some (.ins C dx fs)) (cl:Cls K C) (ha:PySem.W.findIn K (.ref C) "__class__" = some (some (.builtin "object.__class__")))
   (hn:PySem.W.specialIn K (.builtin "object.__class__") "__get__"=some (some (.builtin "getset_descriptor.__get__"))) (htk:PySem.W.takesIn K (.builtin "object.__class__")=some true)
   (hm:PySem.W.mroIn K C (.type "object")=some true):jU K H (.ref a) (.ref C)
end
structure cv(k:Nat) (A:D9):Prop where
 hd:A.handled=none
 dp:A.depth+3*k+5<recursionLimit
 un:A.units+16*k+200<cLine
theorem cv.mono{j k:Nat}{A:D9}(r:cv k A) (h:j<=k):cv j A:=⟨r.hd,by have:=r.dp;lia,by have:=r.un;lia⟩
theorem cv.deeper{k:Nat}{A:D9}(r:cv (k+1) A) (env:Env):cv k (A.deeper env) :=
 ⟨r.hd,by have:=r.dp;show A.depth+1+3*k+5<_;lia,by have:=r.un;show A.units+3+16*k+200<_;lia⟩
theorem cv.depth{k:Nat}{A:D9}(r:cv k A):A.depth<recursionLimit:=by have:=r.dp;lia
theorem cv.units{k:Nat}{A:D9}(r:cv k A):A.units+64<cLine:=by have:=r.un;lia
def Av:TA:=fun _ H Q=>Q [] H
def yS(ta:TE) (tr:TA):TA:=fun σ H Q=>ta σ H fun x H1=>tr σ H1 fun xs H2=>Q (x::xs) H2
section
variable{X:Cx}{e:B5}{es:List B5}{te:TE}{t:TA}{pos:Pos}
theorem iB:PA X [] Av:=fun _ _ _ _ H Q I h=>Calls.spliced_nil ⟨[],H,I,.nil,h⟩
theorem eJ(ha:PE X e te) (hr:PA X es t) (hs:A8 (e::es) X.env=(false,N0 e X.env)::A8 es X.env:=by rfl):PA X (e::es) (yS te t):=by
 intro pos aa s σ H Q I h;rw[hs];show B9 _ _ (spliced ((false,N0 e X.env)::J0 pos (A8 es X.env))) _ _ s;refine Calls.spliced_cons (thn (ha aa s σ H _ I h) fun u s1 hup=>hup.el fun x H1 I1 r1 q1=>?_);exact thn (hr pos aa s1 σ H1 _ I1 q1) fun us s2 hup=>hup.el fun xs H2 I2 r2 q2=>⟨x::xs,H2,I2,.cons r1 r2,q2⟩
def AA(t:TA):TE:=fun σ H Q=>t σ H fun xs H1=>xs.length<=A3/\∀p,H1 p=none->Q (.ref p) (upd H1 p (.tup xs))
def AH(t:TA):TE:=fun σ H Q=>t σ H fun xs H1=>xs.length<=A3/\∀p,H1 p=none->Q (.ref p) (upd H1 p (.lst xs))
theorem yx{x1}(h:PA X es t):PE X (.Tuple es x1 pos) (AA t):=by
 intro aa s σ H Q I hq;refine wpAny_Tuple_spliced (thn (h pos aa s σ H _ I hq) fun us s1 ⟨xs,H1,I1,r,z,q⟩=>⟨by rw[<-r.length];exact z,?_⟩);have hf:H1 s1.heap.objs.size=none:=I1.hok.fresh (B4 _);refine⟨.ref s1.heap.objs.size,upd H1 s1.heap.objs.size (.tup xs),I1.laid (t':=s1.toks) (fun b u e=>A6 _ e) (B4 _) ?_,rfl,q _ hf⟩;exact⟨z,us,r,⟨_,B6 _ rfl,rfl,⟨_,rfl⟩,rfl⟩⟩
theorem sE(h:PA X es t):PE X (.List es pos) (AH t):=by
 intro aa s σ H Q I hq;refine wpAny_List_spliced (thn (h pos aa s σ H _ I hq) fun us s1 ⟨xs,H1,I1,r,z,q⟩=>⟨by rw[<-r.length];exact z,?_⟩);have hf:H1 s1.heap.objs.size=none:=I1.hok.fresh (B4 _);refine⟨.ref s1.heap.objs.size,upd H1 s1.heap.objs.size (.lst xs),I1.laid (t':=s1.toks) (fun b u e=>A6 _ e) (B4 _) ?_,rfl,q _ hf⟩;exact⟨z,us,0,r,B6 _ rfl⟩
end
abbrev Sp:=List V->Hp->VK->XK->Prop
abbrev CXT:=List Env->Hp->u8->XK->s0->u8->Prop
structure uM(P:D0) (w:F2) (K:o0) (mg:Str->Option s0) (base:C7) (A:D9) (outer:List Env) (s:u8) (H:Hp):Prop where
 frames:A.frames=some outer
 mod:Mod K mg base
 bs:∀b o,base.get? b=some o->s.heap.get? b=some o/\H b=none
 bsz:base.objs.size<=s.heap.objs.size
 funs:s.heap.FunFrames base outer
 frf:∀b∈frs outer,H b=none
 hok:HOk P w H s.heap
 bare:P3 s.gens
def CE(outer:List Env) (P:D0) (w:F2) (H:Hp) (s:u8) (Q:VK) (u:s0) (s':u8):Prop :=
 ∃v H',s'.os=s.os/\P3 s'.gens/\Un (frs outer) [] H H' s.heap s'.heap/\HOk P w H' s'.heap/\aG v u/\Q v H'
def CR(CX:CXT) (outer:List Env) (P:D0) (w:F2) (H:Hp) (s:u8) (Q:VK) (E:XK) (r:Result) (s':u8):Prop :=
 match r with
 |.ok (.ret u)=>CE outer P w H s Q u s'
 |.ok _=>False
 |.error e=>CX outer H s E e s'
structure aO(P:D0) (w:F2) (K:o0) (mg:Str->Option s0) (base:C7) (CX:CXT) (k:Nat) (f:B0) (fd:F8) (ps:List Str) (sp:Sp):Prop where
 len:∀vs H Q E,sp vs H Q E->vs.length=ps.length
 run:∀(A:D9) (outer:List Env) (s:u8) (H:Hp) (args:Args) (us:List s0) (vs:List V) (Q:VK) (E:XK),cv k A->uM P w K mg base A outer s H->R7 s fd args (ps.zip us)->ay vs us->sp vs H Q E ->
  R0 (C8 P w) A (.call (.ref f) args) (CR CX outer P w H s Q E) s
section
variable{X:Cx}{aa:List (B0×Obj)}{σ:St}{H:Hp}{s s':u8}
theorem Inv.env0(I:Inv X aa σ H s):uM X.prog X.w X.K X.mg X.base X.A X.stack s H :=
 ⟨I.ok.frames,I.ok.mod,I.bs,D3 I.ok.bsz I.sz,I.stack,I.stkFree,I.hok,I.bare⟩
theorem Inv.after{Q:VK}{u:s0}(I:Inv X aa σ H s) (h:CE X.stack X.prog X.w H s Q u s'):EP X aa σ Q u s':=by
 obtain⟨v,H',os,bare,un,hok,r,q⟩:=h;obtain⟨hh,g,d,t,os'⟩:=s';obtain rfl:os'=s.os:=os;exact⟨v,H',I.call (h':=hh) (g':=g) (d':=d) (t':=t) (ch:=[]) un hok bare (fun b z=>absurd z (by simp)),r,q⟩
end
def zi(sp:Sp) (dvs:List V) (E:XK) (t:TA):TE:=fun σ H Q=>t σ H fun vs H1=>sp (vs++dvs) H1 Q E
def de(K:o0) (fd:F8) (ps:List Str) (ds:List s0):Prop :=
 ∀(s:u8) (us:List s0),K.In s.heap->(us++ds).length=ps.length->R7 s fd ⟨us,[]⟩ (ps.zip (us++ds))
theorem de.all{K:o0}{fd:F8}{ps:List Str}(h:∀us:List s0,us.length=ps.length->bindArgs fd ⟨us,[]⟩=P0 (ps.zip us)):de K fd ps []:=fun s us _ hl=>by
 rw[M0]at hl ⊢;exact .of_eq (h us hl)
def pf(CX:CXT) (X:Cx) (E:XK):Prop:=∀(aa:List (B0×Obj)) (σ:St) (H:Hp) (s:u8) (e:s0) (s':u8),Inv X aa σ H s->CX X.stack H s E e s'->X.xe e s'
section
variable{X:Cx}{CX:CXT}{k:Nat}{f C:B0}{fd:F8}{ps:List Str}{sp:Sp}{dvs:List V}{ds:List s0}{E:XK}{x m:Str}{p pos dI:Pos}{e o:B5}{es:List B5}{ta:TE}{t:TA}
theorem xN{aa:List (B0×Obj)}{σ:St}{H:Hp}{s:u8}{Q:VK}{us:List s0}{vs:List V}(F:aO X.prog X.w X.K X.mg X.base CX k f fd ps sp) (hr:cv k X.A) (hb:de X.K fd ps ds) (hd:ay dvs ds) (hx:pf CX X E)
  (I:Inv X aa σ H s) (r:ay vs us) (h:sp (vs++dvs) H Q E):B9 (C8 X.prog X.w) X.A (call (.ref f) us) (EP X aa σ Q) X.xe s:=by
 have r2:ay (vs++dvs) (us++ds):=r.append hd;have hl:(us++ds).length=ps.length:=by rw[<-r2.length];exact F.len _ _ _ _ h
 refine wpAny_call (codeAny_mono (F.run X.A X.stack s H ⟨us,[]⟩ (us++ds) (vs++dvs) Q E hr I.env0 (hb s us I.kIn hl) r2 h) fun r s' hq=>?_);cases r with
 |error e=>exact hx aa σ H s e s' I hq
 |ok fl =>
  cases fl with
  |ret u=>exact I.after hq
  |next=>exact F6 hq
  |brk=>exact F6 hq
  |cont=>exact F6 hq
theorem qk(F:aO X.prog X.w X.K X.mg X.base CX k f fd ps sp) (hr:cv k X.A) (hg:Gl X x) (hm:X.mg x=some (.ref f)) (hk:K4 X.K (.ref f)=true) (hb:de X.K fd ps ds) (hd:ay dvs ds) (hx:pf CX X E)
  (ha:PA X (e::es) t) (hdb:(x==("__debug__":Str))=false:=by decide) (he:A8 (e::es) X.env=(false,N0 e X.env)::A8 es X.env:=by rfl) (hpl:(J0 pos (A8 es X.env)).any (·.1)=false:=by rfl) :
  PE X (.Call (.Name x p) (e::es) [] pos) (zi sp dvs E t):=by
 intro aa s σ H Q I h;refine wpAny_Call_Name_kw (qu I hg hm ?_ hdb);refine PySem.W.callWith_K (h₀:=X.base) I.ok.mod.kin hk (thn (ha pos aa s σ H _ I h) fun us s1 hup=>hup.el fun vs H1 I1 r q=>⟨I1.kIn,?_⟩) he hpl;exact xN F hr hb hd hx I1 r q
structure Mk(K:o0) (C f:B0):Prop where
 makes:PySem.W.makesIn K C=true
 init:PySem.W.findIn K (.ref C) "__init__"=some (some (.ref f))
 fn:PySem.W.isFn K (.ref f)=true
 kp:K4 K (.ref C)=true
end
section
variable{X:Cx}{CX:CXT}{k:Nat}{f C:B0}{fd:F8}{ps ks:List Str}{sp:Sp}{E:XK}{x m:Str}{p pos dI kpos:Pos}{e o:B5}{es:List B5}{kws:List M6}{te ta:TE}{t tk:TA}{nm:Option Str}
structure AX(K:o0) (fd:F8) (ps ks:List Str) (g:List s0->List s0->List s0) (gV:List V->List V->List V):Prop where
 to:∀(s:u8) (us ws:List s0),K.In s.heap->(g us ws).length=ps.length->R7 s fd ⟨us,ks.zip ws⟩ (ps.zip (g us ws))
 rel:∀{vs:List V} {us:List s0} {zs:List V} {ws:List s0},ay vs us->ay zs ws->ay (gV vs zs) (g us ws)
variable{g:List s0->List s0->List s0}{gV:List V->List V->List V}
end
structure av(N P:List Str) (sc:L5):Prop where
 kind:sc.kind=.function
 co:sc.isCoroutine=false
 gen:sc.isGenerator=false
 nd:N.Nodup
 pre:N.take P.length=P
 par:∀x∈P,sc.names.lookup x=some .local∨sc.names.lookup x=some .cell
 nofree:∀y∈sc.names,y.2≠.free
theorem lS{P1:Str->Option D2}{x:Str}:∀{binds:List (Str×s0)}{m:Str->Option s0},(∀v,(x,v)∉binds)->bindL P1 binds m x=m x
 |[],_,_=>rfl
 |(n,v)::r,m,h=>by
  unfold bindL;rw[lS fun w hw=>h w (B7 _ hw)]
  split
  ·have:x≠n:=by rintro rfl;exact h v D7
   simp[this]
  ·rfl
theorem lU{P1:Str->Option D2}{x:Str}:∀{binds:List (Str×s0)}{m:Str->Option s0},(∀v,(x,v)∉binds)->bindC P1 binds m x=m x
 |[],_,_=>rfl
 |(n,v)::r,m,h=>by
  unfold bindC;rw[lU fun w hw=>h w (B7 _ hw)]
  split
  ·rfl
  ·have:x≠n:=by rintro rfl;exact h v D7
   simp[this]
theorem lI{P1:Str->Option D2}{x:Str}{v:s0}:∀{P:List Str}{vs:List s0}{i:Nat}{m:Str->Option s0},P.Nodup->P[i]?=some x->vs[i]?=some v->P1 x=some .local ->
  bindL P1 (P.zip vs) m x=some v
 |[],_,_,_,_,h,_,_=>by simp at h
 |_::_,[],_,_,_,_,h,_=>by simp at h
 |p::P,w::vs,0,m,nd,h1,h2,hk=>by
  simp at h1 h2;subst h1;subst h2;show bindL P1 ((p,w)::P.zip vs) m p=_;unfold bindL;rw[lS fun v hv=>(M7.mp nd).1 (List.of_mem_zip hv).1,if_pos hk];simp
 |p::P,w::vs,i+1,m,nd,h1,h2,hk=>by
  show bindL P1 ((p,w)::P.zip vs) m x=_;unfold bindL;exact lI (i:=i) (M7.mp nd).2 (by simpa using h1) (by simpa using h2) hk
theorem lD{P1:Str->Option D2}{x:Str}{v:s0}:∀{P:List Str}{vs:List s0}{i:Nat}{m:Str->Option s0},P.Nodup->P[i]?=some x->vs[i]?=some v->P1 x≠some .local ->
  bindC P1 (P.zip vs) m x=some v
 |[],_,_,_,_,h,_,_=>by simp at h
 |_::_,[],_,_,_,_,h,_=>by simp at h
 |p::P,w::vs,0,m,nd,h1,h2,hk=>by
  simp at h1 h2;subst h1;subst h2;show bindC P1 ((p,w)::P.zip vs) m p=_;unfold bindC;rw[lU fun v hv=>(M7.mp nd).1 (List.of_mem_zip hv).1,if_neg hk];simp
 |p::P,w::vs,i+1,m,nd,h1,h2,hk=>by
  show bindC P1 ((p,w)::P.zip vs) m x=_;unfold bindC;exact lD (i:=i) (M7.mp nd).2 (by simpa using h1) (by simpa using h2) hk
def eX(N:List Str) (vs:List V):St:=vs.map some++A7 (N.length-vs.length) none
noncomputable def nI(CX:CXT) (P:D0) (w:F2) (K:o0) (mg:Str->Option s0) (base:C7) (N:List Str) (qual:Str) (scope:L5) (f:B0) (cd:s0) (A:D9) (outer:List Env) (s:u8) (H:Hp) (E:XK):Cx where
 prog:=P
 w:=w
 K:=K
 mg:=mg
 base:=base
 A:=A.deeper (R3 qual scope s.heap.objs.size f cd)
 N:=N
 s₀:=s
 H₀:=H
 env:=R3 qual scope s.heap.objs.size f cd
 outer:=outer
 stack:=R3 qual scope s.heap.objs.size f cd::outer
 ex:=[]
 calm:=true
 fn:=fun _=>true
 pn:=[]
 xe:=fun e s'=>B9 (C8 P w) (A.deeper (R3 qual scope s.heap.objs.size f cd)) (leaving (R3 qual scope s.heap.objs.size f cd) e) (fun _ s''=>CX outer H s E e s'') (fun e' s''=>CX outer H s E e' s'') s'
theorem oA{sc:L5}{n:Nat}{x:Str}(h:sc.names.lookup x=some .cell):∃c,(R8 n sc.names []).lookup x=some c:=by
 have q:=PySem.W.cellsFrom_some sc.names n [] (.inl h);exact Option.isSome_iff_exists.mp q
theorem rf{CX:CXT}{P:D0}{w:F2}{K:o0}{mg:Str->Option s0}{base:C7}{N ps:List Str}{qual:Str}{scope:L5}{f:B0}{cd:s0}{A:D9}{outer:List Env}{s s1:u8}{H:Hp}{E:XK}{us:List s0}{vs:List V}
  (S:av N ps scope) (hd:A.handled=none) (e0:uM P w K mg base A outer s H) (hl:vs.length=ps.length) (r:ay vs us)
  (x:InCallC s s.heap.objs.size (bindL (R3 qual scope s.heap.objs.size f cd).kindOf (ps.zip us) fun _=>none) (R8 (s.heap.objs.size+1) scope.names []) (bindC (R3 qual scope s.heap.objs.size f cd).kindOf (ps.zip us) fun _=>none) s1) :
  Inv (nI CX P w K mg base N qual scope f cd A outer s H E) [] (eX N vs) H s1:=by
 have hpl:ps.length<=N.length:=by have:=congrArg List.length S.pre;rw[List.length_take]at this;lia
 obtain⟨h1,tk,rfl,hk⟩:=x.done;have noA:∀b:B0,b∉(nI CX P w K mg base N qual scope f cd A outer s H E).ex:=fun b z=>absurd (show b∈([]:List B0)from z) (by simp);refine⟨⟨e0.mod,S.kind,rfl,rfl,B4 _,fun y z c h1 h2=>?_,fun y hy=>?_,fun y c _ h=>?_,fun _=>hd,D9.frames_deeper e0.frames,.inr ⟨rfl,rfl⟩,fun b z=>absurd z (noA b),e0.bs,e0.bsz,fun b _ _=>noA b,fun b z=>absurd z (noA b),e0.funs,e0.frf⟩,
  rfl,e0.bare,Un.kept hk,⟨_,x.toInCall.ns,fun i y v h1 h2 h3=>?_⟩,fun y c h=>⟨_,x.cell y c h⟩,e0.hok.fresh (B4 _),fun y c h=>?_,fun p hp=>absurd (show p∈([]:List (B0×Obj))from hp) (by simp),e0.hok.kept hk,?_⟩
 ·exact name_of_addr x.apart (D4 h1) (D4 h2)
 ·have hy:scope.names.lookup y=some .cell∨scope.names.lookup y=some .free:=hy;rcases hy with hy|hy
  ·exact oA hy
  ·exact absurd rfl (S.nofree _ (D4 hy))
 ·exact Nat.le_of_lt (x.above y c (D4 h))
 ·have hi:i<vs.length:=by
   unfold eX at h2
   by_cases hi:i<vs.length
   ·exact hi
   ·rw[F3 (by simpa using hi)]at h2;rw[J9]at h2
    split at h2<;>cases h2
  have ha:vs[i]?=some v:=by
   unfold eX at h2;rw[C6 (by simpa using hi),F0]at h2;cases e:vs[i]? with
   |none=>rw[e]at h2;cases h2
   |some a=>rw[e]at h2;cases h2;rfl
  obtain⟨u,hu,rv⟩:=r.get ha;have hp:ps[i]?=some y:=by
   rw[<-S.pre,List.getElem?_take_of_lt (by lia)];exact h1
  have ndP:ps.Nodup:=by rw[<-S.pre];exact S.nd.sublist (List.take_sublist _ _)
  refine⟨u,rv,?_⟩;rcases S.par y (List.mem_of_getElem? hp)with k|k
  ·exact .inl ⟨k,lI ndP hp hu k⟩
  ·obtain⟨c,e⟩:=oA (n:=s.heap.objs.size+1) k;refine .inr ⟨.inl k,c,e,?_⟩;have q:=x.cell y c e;rw[lD ndP hp hu (by show scope.names.lookup y≠_;rw[k];decide)]at q;exact q
 ·exact e0.hok.fresh (Nat.le_of_lt (x.above y c (D4 h)))
 ·unfold eX;show _=N.length;rw[E9,O4,List.length_replicate]
  lia
theorem yH{CX:CXT}{P:D0}{w:F2}{K:o0}{mg:Str->Option s0}{base:C7}{k:Nat}{f:B0}{name qual:Str}{params:Arguments}{body:List Q6}{scope:L5}{dV kV doc pm cdv ct oc:s0}{an od:Option B0}
  {osl:Array (Option s0)} {N ps:List Str} {sp:Sp} (lk:K.lookup f=some ⟨oc,od,.func (N5 name qual params body scope dV kV doc pm an cdv ct),osl⟩) (hcd:PySem.W.codeIn K cdv qual=true) (S:av N ps scope)
  (len:∀vs H Q E,sp vs H Q E->vs.length=ps.length)
  (hbody:∀ (A:D9) (outer:List Env) (s:u8) (H:Hp) (vs:List V) (Q:VK) (E:XK),cv k (A.deeper (R3 qual scope s.heap.objs.size f cdv)) → sp vs H Q E →
   ∃t,PSs (nI CX P w K mg base N qual scope f cdv A outer s H E) body t/\t { nx:=fun _ H'=>Q .non H',rt:=Q } (eX N vs) H) :
  aO P w K mg base CX (k+1) f (N5 name qual params body scope dV kV doc pm an cdv ct) ps sp:=by
 refine⟨len,fun A outer s H args us vs Q E hr e0 hb r hsp=>?_⟩;have hl:=len _ _ _ _ hsp;have KX:K.In s.heap:=e0.mod.kin.keeps fun b o e=>(e0.bs b o e).1;have lim:s.heap.NoLimit:=e0.mod.nolimit.keeps fun b o e=>(e0.bs b o e).1;have hkind:∀y∈ps.zip us,scope.names.lookup y.1=some .local∨(scope.names.lookup y.1=some .cell/\((R8 (s.heap.objs.size+1) scope.names []).lookup y.1).isSome=true):=fun⟨n,v⟩ hy=>by
  rcases S.par n (List.of_mem_zip hy).1 with q|q
  ·exact .inl q
  ·exact .inr ⟨q,PySem.W.cellsFrom_some _ _ _ (.inl q)⟩
 refine codeAny_call_function hr.depth (KX _ _ lk) rfl S.co S.gen rfl (PySem.W.codeRec_of KX hcd) (hb _ _ _ _ ?_);refine wpAny_newFunctionEnv_cells S.kind hkind fun env he s1 x=>?_;subst he;refine⟨lim.keeps x.toInCall.keep,codeAny_func ?_⟩;obtain⟨t,ht,hq⟩:=hbody A outer s H vs Q E (hr.deeper _) hsp;have I:Inv (nI CX P w K mg base N qual scope f cdv A outer s H E) [] (eX N vs) H s1:=rf S hr.hd e0 hl r x;refine F5 (ht [] s1 (eX N vs) H _ I hq) (fun fl s' hs=>?_) fun e s' hs=>hs;have fin:∀{σ':St} {H':Hp} {v:V} {u:s0},Inv (nI CX P w K mg base N qual scope f cdv A outer s H E) [] σ' H' s'->aG v u->Q v H'->CE outer P w H s Q u s' :=
  fun {σ' H' v u} J rv q=>⟨v,H',J.os,J.bare,J.base,J.hok,rv,q⟩
 cases fl with
 |ret u =>
  obtain⟨v,σ',H',J,rv,q⟩:=hs;exact fin J rv q
 |next =>
  obtain⟨σ',H',J,q⟩:=hs;exact fin (v:=V.non) (u:=O3) J rfl q
 |brk =>
  obtain⟨_,_,_,q⟩:=hs;exact F6 q
 |cont =>
  obtain⟨_,_,_,q⟩:=hs;exact F6 q
section
variable{X:Cx}{x:Str}{p pos:Pos}{e:B5}{es:List B5}{t:TA}{id T:String}{r:List V->Hp->VK->Prop}
def tCB(r:List V->Hp->VK->Prop) (t:TA):TE:=fun σ H Q=>t σ H fun vs H1=>r vs H1 Q
theorem om(hc:cO X (.builtin id) r) (hg:Gl X x) (hm:X.mg x=none) (hv:F7 x=some (.builtin id)) (ha:PA X (e::es) t) (hn:x≠"__name__":=by decide) (hdb:(x==("__debug__":Str))=false:=by decide)
  (he:A8 (e::es) X.env=(false,N0 e X.env)::A8 es X.env:=by rfl) (hpl:(J0 pos (A8 es X.env)).any (·.1)=false:=by rfl):PE X (.Call (.Name x p) (e::es) [] pos) (tCB r t):=by
 intro aa s σ H Q I h;refine wpAny_Call_Name_kw (gI I hg hm hv ?_ hn hdb);exact PyProof.Rows.callWith_builtin1 (thn (ha pos aa s σ H _ I h) fun us s1 hup=>hup.el fun vs H1 I1 r1 q1=>hc aa s1 σ H1 vs us Q I1 r1 q1) he hpl
theorem qP(hc:cO X (.type T) r) (hg:Gl X x) (hm:X.mg x=none) (hv:F7 x=some (.type T)) (ha:PA X (e::es) t) (hn:x≠"__name__":=by decide) (hdb:(x==("__debug__":Str))=false:=by decide)
  (he:A8 (e::es) X.env=(false,N0 e X.env)::A8 es X.env:=by rfl) (hpl:(J0 pos (A8 es X.env)).any (·.1)=false:=by rfl):PE X (.Call (.Name x p) (e::es) [] pos) (tCB r t):=by
 intro aa s σ H Q I h;refine wpAny_Call_Name_kw (gI I hg hm hv ?_ hn hdb);exact PyProof.Rows.callWith_type1 (thn (ha pos aa s σ H _ I h) fun us s1 hup=>hup.el fun vs H1 I1 r1 q1=>hc aa s1 σ H1 vs us Q I1 r1 q1) he hpl
end
end L2
namespace HT
open PySem PyProof.Rows
section
open PySem.SeqAt
open PySem.AutoSeq1 (wpAny_loadPart')
open PySem.MeetsSeq PySem.MeetsSeq2 PySem.MeetsSeq3
end
section
variable{prog:D0}{w:F2}{A:D9}{E:s0->u8->Prop}{s:u8}
theorem cat_tup{t b:B0}{vs ws:List s0}{Q:s0->u8->Prop}(ht:S0 s.heap t vs.toArray) (hb:S0 s.heap b ws.toArray) (hv:vs≠[])
  (h1:ws=[]->Q (.ref t) s) (h2:ws≠[]->Q (.ref s.heap.objs.size) { s with heap:=s.heap.push { cls:=.type "tuple",data:=.seq (vs++ws).toArray } })
  (hsz:vs.length+ws.length<=A3):B9 (C8 prog w) A (E8 .Add (.ref t) (.ref b)) Q E s:=by
 obtain⟨⟨cls,dd,data,sl⟩,ho,hc,n,hd⟩:=id ht;obtain⟨⟨cls2,dd2,data2,sl2⟩,ho2,hc2,n2,hd2⟩:=id hb;simp only at hc hd hc2 hd2;subst hc hd hc2 hd2;have e:vs.toArray++ws.toArray=(vs++ws).toArray:=by simp
 by_cases hw:ws=[]
 ·exact concat_meets ⟨_,ho,rfl⟩ ⟨_,ho2,rfl⟩ noFill_tuple_add seq_tuple_add PySem.F.slot_tuple_add PySem.F.entry_tuple_add (PySem.F.args_tuple_add_2 _ _)
   (tuple_addW1 t b vs.toArray ws.toArray n n2 dd dd2 sl sl2 (by simpa using hv) (by simp[hw])) ⟨ho,ho2,h1 hw⟩
 ·refine concat_meets ⟨_,ho,rfl⟩ ⟨_,ho2,rfl⟩ noFill_tuple_add seq_tuple_add PySem.F.slot_tuple_add PySem.F.entry_tuple_add (PySem.F.args_tuple_add_2 _ _)
   (tuple_addW2 t b vs.toArray ws.toArray n n2 dd dd2 sl sl2 (by simpa using hv) (by simpa using hw) (by rw[A5,A5];exact hsz)) ⟨ho,ho2,?_⟩
  rw[e];exact h2 hw
noncomputable def sIx(n d:Nat):Option Int->Nat
 |none=>d
 |some v=>if v<0 then(v+(n:Int)).toNat else min v.toNat n
theorem sIx_none(n d:Nat):sIx n d none=d:=rfl
theorem sIx_nat(n d k:Nat):sIx n d (some (k:Int))=min k n:=by
 show(if(k:Int)<0 then((k:Int)+(n:Int)).toNat else min (k:Int).toNat n)=min k n;rw[if_neg (by lia),Int.toNat_natCast]
theorem wY(n d:Nat) (hd:d<=n) (o:Option Int):sIx n d o<=n:=by
 cases o with
 |none=>exact hd
 |some v =>
  show(if v<0 then(v+(n:Int)).toNat else min v.toNat n)<=n
  by_cases hv:v<0
  ·rw[if_pos hv];lia
  ·rw[if_neg hv];exact Nat.min_le_right _ _
theorem qh(v:Int) (n d:Nat):(if v<0 then max (v+(n:Int)) 0 else min v (n:Int))=((sIx n d (some v):Nat):Int):=by
 show(if v<0 then max (v+(n:Int)) 0 else min v (n:Int))=(((if v<0 then(v+(n:Int)).toNat else min v.toNat n):Nat):Int)
 by_cases hv:v<0
 ·simp only[if_pos hv];lia
 ·simp only[if_neg hv];lia
theorem oW(lo hi:Option Int) (n:Nat):C4.Slice.sliceAdjust lo hi 1 (n:Int)=(((sIx n 0 lo:Nat):Int),((sIx n n hi:Nat):Int)):=by
 have h1:¬ ((1:Int)<0):=by lia
 unfold C4.Slice.sliceAdjust;simp only[h1,if_false];refine Prod.ext ?_ ?_
 ·cases lo with
  |none=>rfl
  |some v=>exact qh v n 0
 ·cases hi with
  |none=>rfl
  |some v=>exact qh v n n
theorem o7(i j:Nat):H0 (i:Int) (j:Int) 1=j-i:=by
 unfold H0;have h1:(1:Int) > 0:=by lia
 simp only[h1,if_true,Int.ediv_one]
 split<;>lia
theorem jW{v:s0}{o:Option Int}{Q:Option Int->u8->Prop}(p:R4 v o) (h:Q o s):B9 (C8 prog w) A (C4.Slice.slicePartIndex v) Q E s:=by
 cases p with
 |none=>exact slicePart_none h
 |int i t=>exact slicePart_int h
theorem dB{sl:B0}{vl vu:s0}{lo hi:Option Int}{n:Nat}{Q:Int×Int×Nat->u8->Prop}(hs:s.heap.IsSliceOf sl vl vu .none) (pl:R4 vl lo) (pu:R4 vu hi)
  (h:Q (((sIx n 0 lo:Nat):Int),1,sIx n n hi-sIx n 0 lo) s):B9 (C8 prog w) A (C4.Slice.sliceApplied (.ref sl) (P0 (n:Int))) Q E s:=by
 obtain⟨os,hos,hcs,hds⟩:=id hs;unfold C4.Slice.sliceApplied C4.Slice.sliceFields;refine A4 (A4 (N1 hos hds (x:=vl) rfl (A4 (N1 hos hds (x:=vu) rfl (A4 (N1 hos hds (x:=.none) rfl (B2 ?_)))))));refine A4 (slicePart_none ?_);show B9 _ _ (if((1:Int)==0)=true then _ else _) _ _ s;rw[if_neg (by decide)];refine A4 (jW pl (A4 (jW pu (A4 (B2 ?_)))));show B9 _ _ (match C4.Slice.sliceAdjust lo hi 1 (n:Int)with|(lo,hi)=>P0 (lo,(1:Int),H0 lo hi 1)) _ _ s;rw[oW lo hi n];show B9 _ _ (P0 (((sIx n 0 lo:Nat):Int),(1:Int),H0 ((sIx n 0 lo:Nat):Int) ((sIx n n hi:Nat):Int) 1)) _ _ s;rw[o7];exact B2 h
theorem sh(xs:Array s0) (i k:Nat):((K3 k).filterMap fun(m:Nat)=>xs[((i:Int)+(m:Int)*1).toNat]?).toArray=((xs.toList.drop i).take k).toArray:=by
 have e:(fun(m:Nat)=>xs[((i:Int)+(m:Int)*1).toNat]?)=fun m=>xs[i+m]?:=by
  funext m;have:((i:Int)+(m:Int)*1).toNat=i+m:=by lia
  rw[this]
 rw[e];have:=pick_run xs i k;rw[List.filterMap_map]at this;have e2:((fun x=>xs[x]?)∘fun x=>i+x)=fun m=>xs[i+m]?:=rfl;rw[e2]at this;rw[this]
theorem getItem_tuple_cut{t sl:B0}{items:Array s0}{vl vu:s0}{lo hi:Option Int}{Q:s0->u8->Prop}(ht:S0 s.heap t items) (hs:s.heap.IsSliceOf sl vl vu .none) (pl:R4 vl lo) (pu:R4 vu hi)
  (hw:¬ (sIx items.size 0 lo=0/\sIx items.size items.size hi=items.size))
  (h:Q (.ref s.heap.objs.size) { s with heap:=s.heap.push { cls:=.type "tuple",data:=.seq ((items.toList.drop (sIx items.size 0 lo)).take (sIx items.size items.size hi-sIx items.size 0 lo)).toArray } })
  (hsz:items.size<=A3):B9 (C8 prog w) A (R5 (.ref t) (.ref sl)) Q E s:=by
 have htake:sizeOk (.seq ((items.toList.drop (sIx items.size 0 lo)).take (sIx items.size items.size hi-sIx items.size 0 lo)).toArray):=by
  show((items.toList.drop (sIx items.size 0 lo)).take (sIx items.size items.size hi-sIx items.size 0 lo)).toArray.size<=A3;rw[A5,List.length_take,List.length_drop,L3]
  lia
 have hj:sIx items.size items.size hi<=items.size:=wY _ _ (B4 _) hi;obtain⟨os,hos,hcs,hds⟩:=id hs;have hTs:s.TypeIs (.ref sl) "slice":=⟨os,hos,hcs⟩;unfold R5
 try with_reducible refine O0 ?_
 first|refine A4 (B2 ?_)|skip
 refine A4 (wpAny_sequenceKey ht.typeIs (by decide) ?_);refine A4 (K0 (name:=N6 "__getitem__") ht.typeIs C3
  (N7 C3 ht.typeIs entry_tuple_getitem ?_ (args_tuple_getitem _ _)))
 show B9 _ _ (C4.Tuple.tupleItemsOf (.ref t) >>= _) _ _ s;refine A4 (tupleItemsOf_ ht ?_);refine A4 (wpAny_typeOf hTs ?_);rw[if_pos (by decide)];refine A4 (dB hs pl pu ?_);have hno:¬ ((((sIx items.size 0 lo:Nat):Int)==0&&(1:Int)==1&&(sIx items.size items.size hi-sIx items.size 0 lo)==items.size)=true):=by
  intro q;rw[C1,C1]at q;have q1:((sIx items.size 0 lo:Nat):Int)=0:=eq_of_beq q.1.1;have q2:sIx items.size items.size hi-sIx items.size 0 lo=items.size:=eq_of_beq q.2;exact hw ⟨by lia,by lia⟩
 show B9 _ _ (if(((sIx items.size 0 lo:Nat):Int)==0&&(1:Int)==1&&(sIx items.size items.size hi-sIx items.size 0 lo)==items.size)=true then _ else _) _ _ s;rw[if_neg hno,sh]
 first
  |exact A4 (m:=D1 _) (E4 (B2 ⟨_,rfl,B2 h⟩) htake)
  |exact A4 (m:=D1 _) (E4 (A4 (B2 (B2 ⟨_,rfl,B2 h⟩))) htake)
  |exact A4 (A4 (m:=D1 _) (E4 (B2 (B2 ⟨_,rfl,B2 h⟩)) htake))
  |exact A4 (A4 (m:=D1 _) (E4 (B2 ⟨_,rfl,B2 h⟩) htake))
end
end HT
namespace L2
open PySem PySem.Spec PyProof.Rows
abbrev TO:=St->Hp->(Option Int->Hp->Prop)->Prop
def PO(X:Cx) (e:Option B5) (t:TO):Prop :=
 ∀(aa:List (B0×Obj)) (s:u8) (σ:St) (H:Hp) (Q:Option Int->Hp->Prop),Inv X aa σ H s->t σ H Q ->
  B9 (C8 X.prog X.w) X.A (evalPart e X.env) (fun u s'=>∃o H',Inv X aa σ H' s'/\R4 u o/\Q o H') X.xe s
def vf:TO:=fun _ H Q=>Q none H
def zy(t:TE):TO:=fun σ H Q=>t σ H fun x H1=>∃i,x=.int i/\Q (some i) H1
section
variable{X:Cx}{e:B5}{te:TE}{lo hi:Option B5}{tl th:TO}{pos p2:Pos}
theorem vJ:PO X none vf:=by
 intro aa s σ H Q I h;rw[evalPart_none];exact B2 ⟨none,H,I,.none,h⟩
theorem uD(h:PE X e te):PO X (some e) (zy te):=by
 intro aa s σ H Q I hw;rw[evalPart_some];refine thn (h aa s σ H _ I hw) fun u s1 hup=>hup.el fun x H1 I1 r1 q1=>?_;obtain⟨i,rfl,q⟩:=q1;obtain⟨t,rfl⟩:=r1;exact⟨some i,H1,I1,.int i t,q⟩
def SlR(X:Cx) (r:V->Option Int->Option Int->Hp->VK->Prop):Prop :=
 ∀(aa:List (B0×Obj)) (s:u8) (σ:St) (H:Hp) (x:V) (v vl vu:s0) (lo hi:Option Int) (sl:B0) (Q:VK),Inv X aa σ H s->aG x v->s.heap.IsSliceOf sl vl vu .none->R4 vl lo->R4 vu hi->r x lo hi H Q ->
  ∃T id,typeLookup (.type T) "__getitem__"=P0 (some (.builtin id))/\s.TypeIs v T/\B9 (C8 X.prog X.w) X.A (R5 v (.ref sl)) (EP X aa σ Q) X.xe s
theorem SlR.or{r r':V->Option Int->Option Int->Hp->VK->Prop}(h:SlR X r) (h':SlR X r'):SlR X (fun x lo hi H Q=>r x lo hi H Q∨r' x lo hi H Q):=by
 intro aa s σ H x v vl vu lo hi sl Q I rx hs pl pu q;rcases q with q|q
 ·exact h aa s σ H x v vl vu lo hi sl Q I rx hs pl pu q
 ·exact h' aa s σ H x v vl vu lo hi sl Q I rx hs pl pu q
def tSl(r:V->Option Int->Option Int->Hp->VK->Prop) (te:TE) (tl th:TO):TE:=fun σ H Q=>te σ H fun x H1=>tl σ H1 fun l H2=>th σ H2 fun u H3=>r x l u H3 Q
theorem sJ{r:V->Option Int->Option Int->Hp->VK->Prop}(hr:SlR X r) (he:PE X e te) (hl:PO X lo tl) (hu:PO X hi th):PE X (.Subscript e (.Slice lo hi none p2) pos) (tSl r te tl th):=by
 intro aa s σ H Q I h;refine Subscript_ (thn (he aa s σ H _ I h) fun v s1 hup=>hup.el fun x H1 I1 r1 q1=>?_);refine wpAny_Slice (thn (hl aa s1 σ H1 _ I1 q1) fun vl s2 ⟨l,H2,I2,pl,q2⟩=>thn (hu aa s2 σ H2 _ I2 q2) fun vu s3 ⟨u,H3,I3,pu,q3⟩=>?_);rw[evalPart_none];refine B2 ?_;have I4:Inv X aa σ H3 { s3 with heap:=s3.heap.push { cls:=.type "slice",data:=.fields #[vl,vu,.none] } }:=I3.kept (t':=s3.toks) fun b ob q=>A6 _ q;obtain⟨T,id,hT,ht,hg⟩:=hr aa { s3 with heap:=s3.heap.push { cls:=.type "slice",data:=.fields #[vl,vu,.none] } } σ H3 x v vl vu l u s3.heap.objs.size Q I4 r1 (C7.IsSliceOf.new ..) pl pu q3;show B9 (C8 X.prog X.w) X.A (subscriptTail e (.Slice lo hi none p2) v (.ref s3.heap.objs.size)) (EP X aa σ Q) X.xe { s3 with heap:=s3.heap.push { cls:=.type "slice",data:=.fields #[vl,vu,.none] } };exact tail_any (ops:=[.ref s3.heap.objs.size,v]) ht hT hg (by with_unfolding_all rfl)
def mm(xs:List V) (lo hi:Option Int):List V:=(xs.drop (HT.sIx xs.length 0 lo)).take (HT.sIx xs.length xs.length hi-HT.sIx xs.length 0 lo)
theorem jb(xs:List V) (lo hi:Option Int):(mm xs lo hi).length<=xs.length:=by
 unfold mm;rw[List.length_take,List.length_drop]
 lia
def Ah(K:o0):V->Option Int->Option Int->Hp->VK->Prop:=fun x lo hi H Q=>∃a xs,x=.ref a/\SqT K H a xs /\
 ¬ (HT.sIx xs.length 0 lo=0/\HT.sIx xs.length xs.length hi=xs.length)/\∀p,H p=none->Q (.ref p) (upd H p (.tup (mm xs lo hi)))
theorem yi:SlR X (Ah X.K):=by
 intro aa s σ H x v vl vu lo hi sl Q I rx hs pl pu h;obtain⟨a,xs,rfl,hx,hw,q⟩:=h;cases rx;obtain⟨its,r,ht,hz⟩:=I.tuple hx;have bE:its.toArray.size=xs.length:=by rw[A5];exact r.length.symm
 refine⟨"tuple",_,C3.lookup,ht.typeIs,?_⟩;refine HT.getItem_tuple_cut ht hs pl pu (by rw[bE];exact hw) ?_ (by rw[bE];exact hz);rw[bE];refine⟨.ref s.heap.objs.size,_,I.laid (t':=s.toks) (o:=.tup (mm xs lo hi)) (fun b ob q=>A6 _ q) (B4 _) ?_,rfl,q _ (I.hok.fresh (B4 _))⟩;exact⟨D3 (jb xs lo hi) hz,_,(r.drop (HT.sIx xs.length 0 lo)).take (HT.sIx xs.length xs.length hi-HT.sIx xs.length 0 lo),kz.new _ _⟩
def y0(K:o0):R2:=fun x y H Q=>∃a b xs ys,x=.ref a/\y=.ref b/\SqT K H a xs/\SqT K H b ys/\xs≠[]/\xs.length+ys.length<=A3 /\
 (ys=[]->Q (.ref a) H)/\(ys≠[]->∀p,H p=none->Q (.ref p) (upd H p (.tup (xs++ys))))
theorem ay.nil_iff{xs:List V}{us:List s0}(r:ay xs us):us=[]↔xs=[]:=by
 cases r with
 |nil=>simp
 |cons _ _=>simp
theorem uU:OpR X (E8 .Add) (y0 X.K):=by
 intro aa s σ H x y v u Q I rx ry h;obtain⟨a,b,xs,ys,rfl,rfl,ha,hb,hx,hz,q1,q2⟩:=h;cases rx;cases ry;obtain⟨its,r1,p1,_⟩:=I.tuple ha;obtain⟨its2,r2,p2,_⟩:=I.tuple hb;refine HT.cat_tup p1 p2 (fun z=>hx (r1.nil_iff.mp z)) (fun z=>⟨.ref a,H,I,rfl,q1 (r2.nil_iff.mp z)⟩) (fun z=>?_) (by rw[<-r1.length,<-r2.length];exact hz);refine⟨.ref s.heap.objs.size,_,I.laid (t':=s.toks) (o:=.tup (xs++ys)) (fun b ob q=>A6 _ q) (B4 _) ?_,rfl,q2 (fun w=>z (r2.nil_iff.mpr w)) _ (I.hok.fresh (B4 _))⟩;exact⟨by rw[E9];exact hz,_,r1.append r2,kz.new _ _⟩
end
noncomputable def ixN(n:Nat) (i:Int):Option Nat:=if 0<=i then(if i<n then some i.toNat else none)else if -(n:Int)<=i then some (i+n).toNat else none
def atI{α:Type}(xs:List α) (i:Int):Option α:=(ixN xs.length i).bind fun j=>xs[j]?
theorem pR{n:Nat}{i:Int}{j:Nat}(h:ixN n i=some j):seqIndex? i n=some j/\j<n/\-(n:Int)<=i/\i<n:=by
 unfold ixN at h
 by_cases h0:0<=i
 ·rw[if_pos h0]at h
  by_cases h1:i<n
  ·rw[if_pos h1]at h;have e:i.toNat=j:=C0 h;exact⟨by rw[seqIndex_of h0 h1,e],by lia,by lia,h1⟩
  ·rw[if_neg h1]at h;cases h
 ·rw[if_neg h0]at h
  by_cases h1:-(n:Int)<=i
  ·rw[if_pos h1]at h;have e:(i+n).toNat=j:=C0 h;exact⟨by rw[seqIndex_neg (by lia) h1,e],by lia,h1,by lia⟩
  ·rw[if_neg h1]at h;cases h
theorem mH{α:Type}{xs:List α}{i:Int}{v:α}(h:atI xs i=some v):∃j,seqIndex? i xs.length=some j/\xs[j]?=some v/\j<xs.length/\-(xs.length:Int)<=i/\i<xs.length:=by
 unfold atI at h;cases e:ixN xs.length i with
 |none=>rw[e]at h;cases h
 |some j =>
  rw[e]at h;obtain⟨h1,h2,h3,h4⟩:=pR e;exact⟨j,h1,h,h2,h3,h4⟩
theorem fQ{α:Type}{xs:List α}{j:Nat}{v:α}(h:xs[j]?=some v):atI xs (j:Int)=some v:=by
 have hj:j<xs.length:=(E5.mp h).1;have e:ixN xs.length (j:Int)=some j:=by
  unfold ixN;rw[if_pos (by lia),if_pos (by lia)];simp
 unfold atI;rw[e];exact h
def pQ(b:B5):Prop:=∀o i,subscripted b false o i=operate [o,i] (R5 o i)
def IxR(X:Cx) (r:R2):Prop :=
 ∀(value slice:B5) (aa:List (B0×Obj)) (s:u8) (σ:St) (H:Hp) (x y:V) (v u:s0) (Q:VK),Inv X aa σ H s->aG x v->aG y u->r x y H Q ->
  subscripted slice false v u=operate [v,u] (R5 v u)->B9 (C8 X.prog X.w) X.A (subscriptTail value slice v u) (EP X aa σ Q) X.xe s
def MtR(X:Cx) (id:String) (r:V->List V->Hp->VK->Prop):Prop :=
 ∀(aa:List (B0×Obj)) (s:u8) (σ:St) (H:Hp) (x:V) (xs:List V) (v:s0) (us:List s0) (Q:VK),Inv X aa σ H s->aG x v->ay xs us->r x xs H Q ->
  B9 (C8 X.prog X.w) X.A (call (.builtin id) (v::us)) (EP X aa σ Q) X.xe s
section
variable{X:Cx}{a b:B5}{ta tb:TE}{pos:Pos}
theorem yJ{r:R2}(hr:IxR X r) (ha:PE X a ta) (hb:PE X b tb) (hs:pQ b):PE X (.Subscript a b pos) (tOp r ta tb):=by
 intro aa s σ H Q I h;exact Subscript_ (yD ha hb I h fun v u s2 x y H2 I2 rx ry q=>hr a b aa s2 σ H2 x y v u Q I2 rx ry q (hs _ _))
def AG(K:o0):R2:=fun x y H Q=>∃p xs i v,x=.ref p/\y=.int i/\SqL K H p xs/\atI xs i=some v/\Q v H
def Ai(K:o0):R2:=fun x y H Q=>∃p xs i v,x=.ref p/\y=.int i/\SqT K H p xs/\atI xs i=some v/\Q v H
def Aw:R2:=fun x y H Q=>∃z i c,x=.str z/\y=.int i/\z.length<=A3/\atI z.cps.toList i=some c/\Q (.str ⟨#[c]⟩) H
theorem qA:IxR X (AG X.K):=by
 intro value slice aa s σ H x y v u Q I rx ry h hs;obtain⟨p,xs,i,z,rfl,rfl,hq,he,q⟩:=h;cases rx;obtain⟨t,rfl⟩:=ry;obtain⟨its,r,pl,hz⟩:=I.list hq;obtain⟨j,h1,h2,h3,h4,h5⟩:=mH he;obtain⟨w,ew,rw'⟩:=r.get h2;have hl:=r.length;have hn:=iG;have fin:EP X aa σ Q w s:=⟨z,H,I,rw',q⟩
 by_cases h0:0<=i
 ·have hj:i.toNat=j:=by
   rw[seqIndex_of h0 h5]at h1;exact C0 h1
  exact item_listR pl.isList h0 (by lia) (by rw[hj];simpa using ew) fin hs
 ·have hj:(i+(its.toArray.size:Int)).toNat=j:=by
   rw[seqIndex_neg (by lia) h4]at h1;rw[A5,<-hl];exact C0 h1
  exact subscriptTail_builtinR (x:=w) pl.isList.typeIs slot_list_getitem.lookup
   (wpAny_getItem_list_neg (Q:=fun r s'=>r=w/\EP X aa σ Q r s') pl.isList (by lia) (by rw[A5]<;>lia) (by lia) (by rw[hj];simpa using ew) ⟨rfl,fin⟩) hs
theorem xw:IxR X (Ai X.K):=by
 intro value slice aa s σ H x y v u Q I rx ry h hs;obtain⟨p,xs,i,z,rfl,rfl,hq,he,q⟩:=h;cases rx;obtain⟨t,rfl⟩:=ry;obtain⟨its,r,pl,hz⟩:=I.tuple hq;obtain⟨j,h1,h2,h3,h4,h5⟩:=mH he;obtain⟨w,ew,rw'⟩:=r.get h2;have hl:=r.length;have hn:=iG;have fin:EP X aa σ Q w s:=⟨z,H,I,rw',q⟩;exact subscriptTail_builtinR (x:=w) pl.typeIs slot_tuple_getitem.lookup
  (getItem_tuple (j:=j) (Q:=fun r s'=>r=w/\EP X aa σ Q r s') pl (by lia) (by lia) (by rw[A5,<-hl];exact h1) (by simpa using ew) ⟨rfl,fin⟩) hs
theorem xD:IxR X Aw:=by
 intro value slice aa s σ H x y v u Q I rx ry h hs;obtain⟨z,i,c,rfl,rfl,hz,he,q⟩:=h;obtain⟨t,rfl⟩:=rx;obtain⟨t',rfl⟩:=ry;obtain⟨j,h1,h2,h3,h4,h5⟩:=mH he;have hl:z.cps.toList.length=z.length:=by simp[Str.length]
 rw[hl]at h1 h4 h5;have hn:=iG;exact tail_any (P2 s z t) slot_str_getitem.lookup (getItem_str (c:=c) (by
  have e1:decide (i < -(2 ^ 63:Int))=false:=decide_eq_false (by lia);have e2:decide (i>=2 ^ 63)=false:=decide_eq_false (by lia);rw[e1,e2,Bool.or_false]) (by rw[h1];simpa using h2) ⟨.str ⟨#[c]⟩,H,I.tok _,⟨_,rfl⟩,q⟩) hs
theorem oP(its:List s0) (n j:Nat) (u:s0):Q3 (·.setIfInBounds j u) { cls:=.type "list",data:=.seq its.toArray n }={ cls:=.type "list",data:=.seq (its.set j u).toArray n }:=by
 simp[Q3]
theorem Inv.lst{aa:List (B0×Obj)}{σ:St}{H:Hp}{s:u8}{p:B0}{xs:List V}(I:Inv X aa σ H s) (h:H p=some (.lst xs)) :
  ∃(its:List s0) (n:Nat),ay xs its/\s.heap.get? p=some { cls:=.type "list",data:=.seq its.toArray n }/\xs.length<=A3:=by
 obtain⟨z,its,n,r,e⟩:=I.hok p _ h;exact⟨its,n,r,e,z⟩
theorem Inv.lstUpd{aa:List (B0×Obj)}{σ:St}{H:Hp}{s:u8}{p:B0}{xs ys:List V}{its its':List s0}{n n':Nat}{f:Obj->Obj}(I:Inv X aa σ H s) (h:H p=some (.lst xs))
  (ho:s.heap.get? p=some { cls:=.type "list",data:=.seq its.toArray n }) (hf:f { cls:=.type "list",data:=.seq its.toArray n }={ cls:=.type "list",data:=.seq its'.toArray n' }) (r:ay ys its') (hz:ys.length<=A3) (t:Nat) :
  Inv X aa σ (upd H p (.lst ys)) { s with heap:=s.heap.update p f,toks:=t }:=by
 have e:(s.heap.update p f).get? p=some { cls:=.type "list",data:=.seq its'.toArray n' }:=by
  rw[C7.get?_update_self f ho (by rw[hf]<;>rfl),hf]
 refine I.write (x:=p) (e:=p) (by rw[h];trivial) (.inl rfl) (fun b u hb q=>(C7.get?_update_other _ _ (P7 hb)).trans q) ⟨_,e⟩ ?_;exact⟨hz,its',n',r,e⟩
def yV:V->V->V->Hp->(Hp->Prop)->Prop:=fun o i v H Q=>∃p xs k j,o=.ref p/\i=.int k/\H p=some (.lst xs)/\ixN xs.length k=some j/\Q (upd H p (.lst (xs.set j v)))
theorem r8:zd X yV:=by
 intro aa s σ H o i v ov iv u Q I ro ri rv h;obtain⟨p,xs,k,j,rfl,rfl,hp,hj,q⟩:=h;cases ro;obtain⟨t,rfl⟩:=ri;obtain⟨its,n,r,ho,hz⟩:=I.lst hp;obtain⟨h1,h2,h3,h4⟩:=pR hj;have hl:=r.length;have hn:=iG;have I':Inv X aa σ (upd H p (.lst (xs.set j v))) { s with heap:=s.heap.update p (Q3 (·.setIfInBounds j u)) } :=
  I.lstUpd hp ho (oP its n j u) (r.set rv j) (by rw[List.length_set];exact hz) s.toks
 by_cases h0:0<=k
 ·have hk:k.toNat=j:=by
   rw[seqIndex_of h0 h4]at h1;exact C0 h1
  exact PySem.W.ki_setAt ho h0 (by lia) (by rw[A5,<-hl];exact h4) (by rw[hk];exact⟨_,I',q⟩)
 ·have hk:(k+(its.toArray.size:Int)).toNat=j:=by
   rw[seqIndex_neg (by lia) h3]at h1;rw[A5,<-hl];exact C0 h1
  exact PySem.W.ki_setBack ho (by lia) (by rw[A5,<-hl];exact h3) (by lia) (by rw[hk];exact⟨_,I',q⟩)
theorem m6(lo hi:Option Int) (n:Nat):(N2 lo hi none n).1=((HT.sIx n 0 lo:Nat):Int)/\(N2 lo hi none n).2.1=((HT.sIx n n hi:Nat):Int)/\(N2 lo hi none n).2.2=1:=by
 refine⟨?_,?_,rfl⟩
 ·cases lo with
  |none=>simp[N2,HT.sIx]
  |some i =>
   simp only[N2,HT.sIx,Option.getD_none,show(1:Int) > 0 by decide,if_true]
   by_cases h:i<0
   ·simp only[h,if_true]<;>lia
   ·simp only[h,if_false]<;>lia
 ·cases hi with
  |none=>simp[N2,HT.sIx]
  |some i =>
   simp only[N2,HT.sIx,Option.getD_none,show(1:Int) > 0 by decide,if_true]
   by_cases h:i<0
   ·simp only[h,if_true]<;>lia
   ·simp only[h,if_false]<;>lia
theorem kZ(its:List s0) (lo hi:Option Int):slicePick its.toArray lo hi none=((its.drop (HT.sIx its.length 0 lo)).take (HT.sIx its.length its.length hi-HT.sIx its.length 0 lo)).toArray:=by
 obtain⟨h1,h2,h3⟩:=m6 lo hi its.toArray.size;unfold slicePick;rw[h1,h2,h3];simp only[sliceRange_one,pick_run,A5]<;>rfl
def AM(K:o0):V->Option Int->Option Int->Hp->VK->Prop:=fun x lo hi H Q=>∃a xs,x=.ref a/\SqL K H a xs/\∀p,H p=none->Q (.ref p) (upd H p (.lst (mm xs lo hi)))
theorem vj:SlR X (AM X.K):=by
 intro aa s σ H x v vl vu lo hi sl Q I rx hs pl pu h;obtain⟨a,xs,rfl,hx,q⟩:=h;cases rx;obtain⟨its,r,ht,hz⟩:=I.list hx;have bE:=r.length;refine⟨"list",_,slot_list_getitem.lookup,ht.isList.typeIs,?_⟩;refine wpAny_getItem_list_slice ht.isList hs pl pu .none (by simp) ?_ (by rw[A5]<;>lia);rw[kZ,<-bE];refine⟨.ref s.heap.objs.size,_,I.laid (t':=s.toks) (o:=.lst (mm xs lo hi)) (fun b ob q=>A6 _ q) (B4 _) ?_,rfl,q _ (I.hok.fresh (B4 _))⟩;exact⟨D3 (jb xs lo hi) hz,_,0,(r.drop (HT.sIx xs.length 0 lo)).take (HT.sIx xs.length xs.length hi-HT.sIx xs.length 0 lo),B6 _ rfl⟩
def fw:V->Bool
 |.non=>true
 |.bl _=>true
 |.int _=>true
 |.str _=>true
 |_=>false
noncomputable def eqV:V->V->Bool
 |.non,.non=>true
 |.bl a,.bl b=>a==b
 |.bl a,.int b=>(if a then 1 else 0)==b
 |.int a,.bl b=>a==(if b then 1 else 0)
 |.int a,.int b=>a==b
 |.str a,.str b=>a==b
 |_,_=>false
theorem yg{A:D9}{s:u8}{y x:V}{u v:s0}(ry:aG y u) (rx:aG x v) (fy:fw y=true) (fx:fw x=true):D6 A s u v (eqV y x):=by
 cases y with
 |non =>
  cases ry;cases x with
  |non=>cases rx;exact D6.same _
  |bl b=>cases rx;exact D6.none_bool b
  |int b=>obtain⟨t,rfl⟩:=rx;exact D6.none_int b t
  |str b=>obtain⟨t,rfl⟩:=rx;exact D6.none_str b t
  |_=>exact absurd (show false=true from fx) C9
 |bl a =>
  cases ry;cases x with
  |non=>cases rx;exact D6.bool_none a
  |bl b=>cases rx;exact D6.bool_bool a b
  |int b=>obtain⟨t,rfl⟩:=rx;exact D6.bool_int a b t
  |str b=>obtain⟨t,rfl⟩:=rx;exact D6.bool_str a b t
  |_=>exact absurd (show false=true from fx) C9
 |int a =>
  obtain⟨t',rfl⟩:=ry;cases x with
  |non=>cases rx;exact D6.int_none a t'
  |bl b=>cases rx;exact D6.int_bool a t' b
  |int b=>obtain⟨t,rfl⟩:=rx;exact D6.int_int a t' b t
  |str b=>obtain⟨t,rfl⟩:=rx;exact D6.int_str a t' b t
  |_=>exact absurd (show false=true from fx) C9
 |str a =>
  obtain⟨t',rfl⟩:=ry;cases x with
  |non=>cases rx;exact D6.str_none a t'
  |bl b=>cases rx;exact D6.str_bool a t' b
  |int b=>obtain⟨t,rfl⟩:=rx;exact D6.str_int a t' b t
  |str b=>obtain⟨t,rfl⟩:=rx;exact D6.str_str a t' b t
  |_=>exact absurd (show false=true from fx) C9
 |_=>exact absurd (show false=true from fy) C9
def eqU(x:V) (u:s0):Bool:=match u with
 |.none=>eqV .non x
 |.bool b=>eqV (.bl b) x
 |.int i _=>eqV (.int i) x
 |.str z _=>eqV (.str z) x
 |_=>false
theorem sC{x y:V}{u:s0}(r:aG y u) (f:fw y=true):eqU x u=eqV y x:=by
 cases y with
 |non=>cases r;rfl
 |bl b=>cases r;rfl
 |int i=>obtain⟨t,rfl⟩:=r;rfl
 |str z=>obtain⟨t,rfl⟩:=r;rfl
 |_=>exact absurd (show false=true from f) C9
theorem gO{x:V}:∀{xs:List V}{us:List s0},ay xs us->xs.all fw=true->us.any (eqU x)=xs.any fun y=>eqV y x
 |_,_,.nil,_=>rfl
 |y::xs,u::us,.cons r t,f=>by
  rw[M8,C1]at f;rw[F9,F9,sC r f.1,gO t f.2]
theorem e7{A:D9}{s:u8}{x:V}{v:s0}(rx:aG x v) (fx:fw x=true):∀{xs:List V}{us:List s0},ay xs us->xs.all fw=true->∀u∈us,D6 A s u v (eqU x u)
 |_,_,.nil,_=>fun u hu=>by cases hu
 |y::xs,u::us,.cons r t,f=>fun u' hu=>by
  rw[M8,C1]at f;rcases J7.mp hu with rfl|hu
  ·rw[sC r f.1];exact yg r rx f.1 fx
  ·exact e7 rx fx t f.2 u' hu
def inV(x:V) (xs:List V):Bool:=xs.any fun y=>eqV y x
def rIn(K:o0) (neg:Bool):R2:=fun x y H Q=>∃p xs,y=.ref p/\(SqL K H p xs∨SqT K H p xs)/\fw x=true/\xs.all fw=true/\Q (.bl (if neg then !inV x xs else inV x xs)) H
theorem rG:OpR X (C2 .In) (rIn X.K false):=by
 intro aa s σ H x y v u Q I rx ry h;obtain⟨p,xs,rfl,hq,fx,fs,q⟩:=h;cases ry;rcases hq with hq|hq
 ·obtain⟨its,r,pl,hz⟩:=I.list hq;refine SeqAt.in_listAt (eqU x) pl.isList (fun w hw=>e7 rx fx r fs w (by simpa using hw)) ⟨.bl _,H,I,rfl,?_⟩;rw[show its.toArray.any (eqU x)=its.any (eqU x)by simp,gO r fs];exact q
 ·obtain⟨its,r,pl,hz⟩:=I.tuple hq;refine SeqAt.in_tupleAt (eqU x) pl (fun w hw=>e7 rx fx r fs w (by simpa using hw)) ⟨.bl _,H,I,rfl,?_⟩;rw[show its.toArray.any (eqU x)=its.any (eqU x)by simp,gO r fs];exact q
theorem mZ:OpR X (C2 .NotIn) (rIn X.K true):=by
 intro aa s σ H x y v u Q I rx ry h;obtain⟨p,xs,rfl,hq,fx,fs,q⟩:=h;cases ry;rcases hq with hq|hq
 ·obtain⟨its,r,pl,hz⟩:=I.list hq;refine SeqAt.notIn_listAt (eqU x) pl.isList (fun w hw=>e7 rx fx r fs w (by simpa using hw)) ⟨.bl _,H,I,rfl,?_⟩;rw[show its.toArray.any (eqU x)=its.any (eqU x)by simp,gO r fs];exact q
 ·obtain⟨its,r,pl,hz⟩:=I.tuple hq;refine SeqAt.notIn_tupleAt (eqU x) pl (fun w hw=>e7 rx fx r fs w (by simpa using hw)) ⟨.bl _,H,I,rfl,?_⟩;rw[show its.toArray.any (eqU x)=its.any (eqU x)by simp,gO r fs];exact q
theorem l0:cO X (.builtin "len") (fun xs H Q=>∃p ys,xs=[.ref p]/\(SqL X.K H p ys∨SqT X.K H p ys)/\Q (.int ys.length) H):=by
 intro aa s σ H xs us Q I r h;obtain⟨p,ys,rfl,hq,q⟩:=h;obtain⟨u,rfl,rx⟩:=pV r;cases rx;have hn:=iG;rcases hq with hq|hq
 ·obtain⟨its,r',pl,hz⟩:=I.list hq;have bE:=r'.length;exact Calls.call_len_list pl.isList (by simp only[A5]<;>lia) ⟨.int ys.length,H,I.tok _,⟨s.toks+1,by rw[A5,bE]⟩,q⟩
 ·obtain⟨its,r',pl,hz⟩:=I.tuple hq;have bE:=r'.length;exact len_tuple pl (by simp only[A5]<;>lia) ⟨.int ys.length,H,I.tok _,⟨s.toks+1,by rw[A5,bE]⟩,q⟩
theorem mw:cO X (.builtin "len") (fun xs H Q=>∃z,xs=[.str z]/\z.length<=A3/\Q (.int z.length) H):=by
 intro aa s σ H xs us Q I r h;obtain⟨z,rfl,hz,q⟩:=h;obtain⟨u,rfl,t,rfl⟩:=pV r;have hn:=iG;exact len_str (by lia) ⟨.int z.length,H,I.tok _,⟨_,rfl⟩,q⟩
theorem cO.or{f:s0}{r r':List V->Hp->VK->Prop}(h:cO X f r) (h':cO X f r'):cO X f (fun xs H Q=>r xs H Q∨r' xs H Q):=by
 intro aa s σ H xs us Q I rs q;rcases q with q|q
 ·exact h aa s σ H xs us Q I rs q
 ·exact h' aa s σ H xs us Q I rs q
theorem kT:cO X (.type "tuple") (fun xs H Q=>∃p ys,xs=[.ref p]/\((SqL X.K H p ys/\∀l,H l=none->Q (.ref l) (upd H l (.tup ys)))∨(SqT X.K H p ys/\Q (.ref p) H))):=by
 intro aa s σ H xs us Q I r h;obtain⟨p,ys,rfl,h⟩:=h;obtain⟨u,rfl,rx⟩:=pV r;cases rx;rcases h with⟨hq,q⟩|⟨hq,q⟩
 ·obtain⟨its,r',pl,hz⟩:=I.list hq;have bE:=r'.length;refine call_tuple_list pl.isList (fun h' kp=>?_) (by simp only[A5]<;>lia);have I1:Inv X aa σ H { s with heap:=h' }:=I.kept (t':=s.toks) kp;have I2:Inv X aa σ (upd H h'.objs.size (.tup ys)) { s with heap:=h'.push { cls:=.type "tuple",data:=.seq its.toArray } } :=
   I1.laid (t':=s.toks) (fun b o e=>A6 _ e) (B4 _) (show dR X.prog X.w _ _ _ (.tup ys)from⟨hz,its,r',kz.new _ _⟩)
  exact⟨.ref h'.objs.size,_,I2,rfl,q _ (I1.hok.fresh (B4 _))⟩
 ·obtain⟨its,r',pl,hz⟩:=I.tuple hq;exact call_tuple_same pl ⟨.ref p,H,I,rfl,q⟩
def tyV(K:o0) (T:String) (x:V) (H:Hp):Prop:=match x with
 |.str _=>T="str"
 |.int _=>T="int"
 | .ref p => (T = "list" ∧ ∃ xs,SqL K H p xs) ∨ (T = "tuple" ∧ ∃ o,K.lookup p = some o ∧ o.cls = .type "tuple" ∧ o.dict = none) ∨
   (T="dict"/\((∃kvs,H p=some (.dK kvs))∨∃kvs,H p=some (.dT kvs)))∨(T="set"/\∃S n,H p=some (.set S n))
 |_=>False
theorem yA{aa:List (B0×Obj)}{σ:St}{H:Hp}{s:u8}{T:String}{x:V}{v:s0}(I:Inv X aa σ H s) (r:aG x v) (ty:tyV X.K T x H) :
  s.TypeIs v T/\∀a,v=.ref a->∃ob,s.heap.get? a=some ob/\ob.dict=none:=by
 cases x with
 |str z =>
  obtain⟨t,rfl⟩:=r;cases(show T="str" from ty);exact⟨P2 s z t,fun _ e=>nomatch e⟩
 |int i =>
  obtain⟨t,rfl⟩:=r;cases(show T="int" from ty);exact⟨Q4 s i t,fun _ e=>nomatch e⟩
 |ref p =>
  cases r;rcases ty with⟨rfl,xs,hq⟩|⟨rfl,o,hk,hc,hd⟩|⟨rfl,hk⟩|⟨rfl,S,n,hk⟩
  ·obtain⟨its,_,pl,_⟩:=I.list hq;refine⟨pl.isList.typeIs,fun a e=>?_⟩;cases e;obtain⟨o,n,e,c,hd,_⟩:=pl;exact⟨o,e,hd⟩
  ·refine⟨⟨o,I.kIn p o hk,hc⟩,fun a e=>?_⟩;cases e;exact⟨o,I.kIn _ o hk,hd⟩
  ·have z:∃o,s.heap.get? p=some o/\o.ExactDict:=by
    rcases hk with⟨kvs,hk⟩|⟨kvs,hk⟩
    ·obtain⟨_,_,_,_,o,_,_,e,ex,_⟩:=I.hok p _ hk;exact⟨o,e,ex⟩
    ·obtain⟨_,_,_,_,o,_,_,e,ex,_⟩:=I.hok p _ hk;exact⟨o,e,ex⟩
   obtain⟨o,e,ex⟩:=z;refine⟨⟨o,e,ex.1⟩,fun a e2=>?_⟩;cases e2;exact⟨o,e,ex.2.1⟩
  ·obtain⟨o,_,_,_,e,ex,_⟩:=I.hok p _ hk;refine⟨⟨o,e,ex.1⟩,fun a e2=>?_⟩;cases e2;exact⟨o,e,ex.2.1⟩
 |_=>exact F6 ty
def tBM(K:o0) (T:String) (r:V->List V->Hp->VK->Prop) (to:TE) (t:TA):TE:=fun σ H Q=>to σ H fun x H1=>tyV K T x H1/\t σ H1 fun xs H2=>r x xs H2 Q
variable{o e:B5}{es:List B5}{to:TE}{t:TA}{name:Str}{dI bj:Pos}{T id:String}{r:V->List V->Hp->VK->Prop}
theorem qC(pa:PlainAttrs T) (slot:Slot T name id) (hty:typeOf (.builtin id)=P0 (.type "method_descriptor")) (hm:MtR X id r) (ho:PE X o to) (ha:PA X (e::es) t)
  (gW:L1 o name X.env (N0 o X.env)=N0 o X.env:=by rfl)
  (nc:((J0 bj (A8 (e :: es) X.env)).all (fun x => !x.1) && (Q5 bj (N3 [] X.env)).all (fun x => x.1.isSome)
  &&decide ((e::es).length+([]:List M6).length+(if([]:List M6).isEmpty then 0 else 1)<30))=true:=by rfl)
  (gP:(dI.endLine==bj.line)=true:=by rfl) (hs:A8 (e::es) X.env=(false,N0 e X.env)::A8 es X.env:=by rfl) (cT:(J0 bj (A8 es X.env)).any (·.1)=false:=by rfl) :
  PE X (.Call (.Attribute o name dI) (e::es) [] bj) (tBM X.K T r to t):=by
 intro aa s σ H Q I h;refine wpAny_Call_method_late gW nc gP rfl (thn (ho aa s σ H _ I h) fun v s1 ⟨x,H1,I1,r1,ty,q1⟩=>?_);obtain⟨h1,h2⟩:=yA I1 r1 ty;refine⟨T,id,pa,slot,hty,h1,h2,?_⟩;have hA:=ha bj aa s1 σ H1 _ I1 q1;rw[hs]at hA ⊢;refine Calls.callWith_builtin (by show(false || (J0 bj (A8 es X.env)).any (·.1))=false;rw[cT]<;>rfl) (Calls.evalArgs_plain ?_);exact thn hA fun us s2 hup=>hup.el fun vs H2 I2 r2 q2=>hm aa s2 σ H2 x vs v us Q I2 r1 r2 q2
end
def MtM(X:Cx) (id:String) (r:V->List V->Hp->VK->Prop):Prop :=
 ∀(aa:List (B0×Obj)) (s:u8) (σ:St) (H:Hp) (x:V) (xs:List V) (v:s0) (us:List s0) (Q:VK),Inv X aa σ H s->aG x v->ay xs us->r x xs H Q ->
  B9 (C8 X.prog X.w) X.A (call (.builtin id) (v::us)) (EP X aa σ Q) X.xe s
theorem ay.un{x:V}{xs:List V}{us:List s0}(h:ay (x::xs) us):∃u vs,us=u::vs/\aG x u/\ay xs vs:=by
 cases h with
 |cons r t=>exact⟨_,_,rfl,r,t⟩
theorem ay.one{x:V}{us:List s0}(h:ay [x] us):∃u,us=[u]/\aG x u:=by
 obtain⟨u,vs,rfl,r,t⟩:=h.un;cases t;exact⟨u,rfl,r⟩
theorem ay.two{x y:V}{us:List s0}(h:ay [x,y] us):∃u v,us=[u,v]/\aG x u/\aG y v:=by
 obtain⟨u,vs,rfl,r,t⟩:=h.un;obtain⟨v,rfl,q⟩:=t.one;exact⟨u,v,rfl,r,q⟩
theorem ay.rep{xs:List V}{us:List s0}(h:ay xs us):∀k:Nat,ay (A7 k xs).flatten (A7 k us).flatten
 |0=>.nil
 |k+1=>by
  rw[C5,C5,J4,J4];exact ay.append h (ay.rep h k)
theorem iH(its:List s0):∀(k:Nat) (acc:List s0),
  R6 (fun x1 x2=>x1++x2) acc.toArray (A7 k its.toArray)=(acc++(A7 k its).flatten).toArray
 |0,acc=>by simp
 |k+1,acc=>by
  have e:acc.toArray++its.toArray=(acc++its).toArray:=by simp
  have e2:(acc++its)++(A7 k its).flatten=acc++(A7 (k+1) its).flatten:=by
   rw[C5,J4,List.append_assoc]
  rw[<-e2,<-iH its k (acc++its),<-e,C5,List.foldl_cons]
section
variable{X:Cx}{aa:List (B0×Obj)}{σ:St}{H:Hp}{s:u8}{l b:B0}{xs ys zs:List V}
theorem Inv.lset{its its':List s0}{n:Nat}{f:Array s0->Array s0}{t':Nat}(I:Inv X aa σ H s) (hH:H l=some (.lst xs))
  (e:s.heap.get? l=some { cls:=.type "list",data:=.seq its.toArray n }) (hf:f its.toArray=its'.toArray) (hv:ay ys its') (hz:ys.length<=A3) :
  Inv X aa σ (upd H l (.lst ys)) { s with heap:=s.heap.update l (Q3 f),toks:=t' }:=by
 have q:=PySem.IsL.update e f;rw[hf]at q;refine I.write (x:=l) (e:=l) (by rw[hH];exact trivial) (.inl rfl) (fun b' u hb hu=>(C7.get?_update_other s.heap (Q3 f) (P7 hb)).trans hu) ⟨_,q⟩ ?_;exact⟨hz,its',_,hv,q⟩
theorem Inv.lnew{its:List s0}{t':Nat}(I:Inv X aa σ H s) (hv:ay ys its) (hz:ys.length<=A3) :
  Inv X aa σ (upd H s.heap.objs.size (.lst ys)) { s with heap:=s.heap.push { cls:=.type "list",data:=.seq its.toArray },toks:=t' } :=
 I.laid (fun _ _ q=>A6 _ q) (B4 _) ⟨hz,its,0,hv,B6 _ rfl⟩
theorem Inv.fresh(I:Inv X aa σ H s):H s.heap.objs.size=none:=I.hok.fresh (B4 _)
theorem Inv.lstM(I:Inv X aa σ H s) (hH:H l=some (.lst xs)):xs.length<=A3/\∃(its:List s0) (n:Nat),ay xs its/\xs.length=its.length/\s.heap.get? l=some { cls:=.type "list",data:=.seq its.toArray n }:=by
 obtain⟨z,its,n,r,e⟩:=I.hok l _ hH;exact⟨z,its,n,r,r.length,e⟩
theorem tL{n:Nat}(h:n<=A3):C4.List.listTooLong n=false:=by
 unfold C4.List.listTooLong;exact decide_eq_false (by lia)
end
section
variable{X:Cx}
def qG:V->List V->Hp->VK->Prop:=fun x vs H Q=>∃l xs y,x=.ref l/\vs=[y]/\H l=some (.lst xs)/\xs.length<A3/\Q .non (upd H l (.lst (xs++[y])))
theorem qZ:MtM X "list.append" qG:=by
 intro aa s σ H x vs v us Q I rx rv h;obtain⟨l,xs,y,rfl,rfl,hH,hz,q⟩:=h;cases rx;obtain⟨u,rfl,ru⟩:=rv.one;obtain⟨z,its,n,r,hl,e⟩:=I.lstM hH;refine N4 F.slot_list_append ⟨_,e,rfl⟩ F.entry_list_append (F.args_list_append_2 _ _) (PySem.list_append l its.toArray n u (by rw[A5];lia)) ⟨e,?_⟩;refine⟨.non,_,I.lset (its':=its++[u]) hH e (by simp) (r.append (.cons ru .nil)) ?_,rfl,q⟩;rw[E9,List.length_singleton]
 lia
def AQ:R2:=fun x y H Q=>∃l b xs zs,x=.ref l/\y=.ref b/\H l=some (.lst xs)/\H b=some (.lst zs)/\xs.length+zs.length<=A3/\∀p,H p=none->Q (.ref p) (upd H p (.lst (xs++zs)))
theorem wK:OpR X (E8 .Add) AQ:=by
 intro aa s σ H x y v u Q I rx ry h;obtain⟨l,b,xs,zs,rfl,rfl,hH,hB,hz,q⟩:=h;cases rx;cases ry;obtain⟨z,its,n,r,hl,e⟩:=I.lstM hH;obtain⟨z2,its2,n2,r2,hl2,e2⟩:=I.lstM hB;refine PySem.P.add_list e e2 ?_ (by rw[A5,A5];lia);have ea:its.toArray++its2.toArray=(its++its2).toArray:=by simp
 rw[ea];exact⟨.ref _,_,I.lnew (t':=s.toks) (r.append r2) (by rw[E9];lia),rfl,q _ I.fresh⟩
def AY:R2:=fun x y H Q=>∃l k xs,x=.ref l/\y=.int k/\H l=some (.lst xs)/\-(2 ^ 63)<=k/\k<2 ^ 63/\xs.length*k.toNat<=A3 /\
 ∀p,H p=none->Q (.ref p) (upd H p (.lst (A7 k.toNat xs).flatten))
theorem mQ{α:Type}(xs:List α) (k:Nat):(A7 k xs).flatten.length=k*xs.length:=by
 induction k with
 |zero=>simp
 |succ k ih=>rw[C5,J4,E9,ih,Nat.succ_mul,Nat.add_comm]
theorem xh:OpR X (E8 .Mult) AY:=by
 intro aa s σ H x y v u Q I rx ry h;obtain⟨l,k,xs,rfl,rfl,hH,h1,h2,hz,q⟩:=h;cases rx;obtain⟨t,rfl⟩:=ry;obtain⟨z,its,n,r,hl,e⟩:=I.lstM hH;have bE:its.toArray.size*k.toNat<=A3:=by rw[A5,<-hl];exact hz
 have hcap:¬ its.toArray.size*k.toNat > (2 ^ 63-1) / 8:=by
  have:(A3:Nat)<=(2 ^ 63-1) / 8:=by decide
  lia
 have hfit:¬ (!Builtin.List.listFitsIndex k)=true:=by
  rw[fitsIndex_both h1 h2];exact C9
 have hlong:¬ C4.List.listTooLong (its.toArray.size*k.toNat)=true:=by
  rw[tL bE];exact C9
 have hnew:R6 (fun x1 x2=>x1++x2) #[] (A7 (if its.toArray.isEmpty=true then 0 else k.toNat) its.toArray)=(A7 k.toNat its).flatten.toArray:=by
  have f0:∀m:Nat,R6 (fun x1 x2=>x1++x2) #[] (A7 m its.toArray)=(A7 m its).flatten.toArray:=fun m=>by
   have:=iH its m [];rw[List.nil_append]at this;exact this
  rw[f0];cases its with
  |nil=>simp
  |cons a r'=>rw[if_neg (by simp)]
 refine wpAny_binaryOp_repeat_ref (T:="list") (U:="int") (by decide) ⟨_,e,rfl⟩ (fun s'=>Q4 s' k t) noFill_list_mul F.fills_int_mul O5 repeat_list F.slot_int_index.lookup
  (N4 O5 (Q4 s k t) F.entry_int_rmul (F.args_int_rmul_2 _ _) (int___rmul___int_list k t l its.toArray n)
   ⟨e,rfl,⟨_,e,rfl⟩,N4 F.slot_list_mul ⟨_,e,rfl⟩ F.entry_list_mul (F.args_list_mul_2 _ _) (AutoListH.list___mul___list_int_3 l its.toArray n k t hfit hcap hlong) ⟨e,?_⟩⟩)
 rw[hnew];exact⟨.ref _,_,I.lnew (t':=s.toks) (r.rep k.toNat) (by rw[mQ,Nat.mul_comm];exact hz),rfl,q _ I.fresh⟩
end
end L2
namespace Att
open PySem PySem.W PySem.Calls PyProof.Rows
theorem jm{P:Params}{h:C7}:∀(ns:List Int) (vs:List s0),WellAll P h vs (ns.map WData.int)->IntsAre vs ns:=by
 intro ns
 induction ns with
 |nil =>
  intro vs w;rw[List.map_nil]at w;cases w;exact .nil
 |cons n ns ih =>
  intro vs w;rw[E6]at w;cases w with
  |cons a b =>
   cases a;exact .cons _ _ (ih _ b)
theorem rm{l:OpenLaw}{n:Nat}(hn:l.most=some n) {P:Params}{h:C7}{args:List WData}{vals:List s0}
  (hpre:l.row.toRowW.claim.pre args=true) (hwl:WellAll P h vals args) :
  ∃a vs ns,vals=[P6 a]/\args=[WData.list (ns.map WData.int)]/\h.get? a=some { cls:=.type "list",data:=.seq vs.toArray }/\IntsAre vs ns/\ns.length<=n:=by
 have hsh:WShape.hasAll [] args [.list .int]=true:=(pre_splitW hpre).1;have hc:l.pre.holds [] { args:=args }=true:=(pre_splitW hpre).2;obtain⟨d,r,rfl,h1,h2⟩:=hasAllW_cons hsh;obtain rfl:=hasAllW_nil h2;obtain⟨xs,rfl,h3⟩:=hasW_list h1;obtain⟨ns,rfl⟩:=items_int h3;have bE:ns.length<=n:=by
  unfold OpenLaw.pre at hc;have h4:(WTm.not (.lt (.lit (.int (n:Int))) (.len (.arg 0)))).holds [] { args:=[.list (ns.map .int)] }=true:=by
   have h4:=(holds_andW hc).1;rw[hn]at h4;exact h4
  have h5:=condW_of h4 (w_not (w_lt w_lit (w_len_list (w_arg rfl))));rw[O4]at h5;refine Nat.le_of_not_lt fun q=>?_;have q':(n:Int)<((ns.length:Nat):Int):=by lia
  first
   |(rw[decide_eq_true q']at h5;exact absurd h5 (by decide))
   |(simp at h5;lia)
 cases hwl with
 |cons w1 w2 =>
  cases w2;cases w1 with
  |list ho hall=>exact⟨_,_,ns,rfl,rfl,ho,jm ns _ hall,bE⟩
theorem rB(l:OpenLaw) (args:List WData):l.row.toRowW.claim.post args (.bool true) args=true :=
 postW_of (r:=l.row.toRowW) (X:=(true==true))
  (show WShape.has [] (.bool true) .bool=true by first|rfl|decide|simp[WShape.has,WShape.arms,WShape.armsAll])
  (show(WTm.eq .res (.lit (.bool true))).value [] { args:=args,res:=some (.bool true),after:=args }=some (.bool (true==true))from w_eq_bool (w_res rfl) w_lit) rfl
theorem attach_call{l:OpenLaw}{n:Nat}{q:D0}{loose:List Str}{XP:(Str->Option s0)->C7->Prop}{YP:F2->C7->Prop}{d:DefRec}
  (hn:l.most=some n) (hdf:d.params.defaults=[])
  (call:∀ (w:F2) (s₀ s₁:u8) (mg mb:Str → Option s0) (fa:B0) (o:Obj) (pm cd doc:s0) (a:B0) (vs:List s0) (ns:List Int),
   Ground q loose [] XP w s₀ mg mb s₁.heap->YP w s₁.heap ->
   s₁.heap.get? fa=some o->o.data=.func (docDef d.name d.params d.body d.scope pm cd doc)->s₁.heap.CodeRec cd d.name->mg d.name=some (.ref fa) ->
   s₁.heap.get? a=some { cls:=.type "list",data:=.seq vs.toArray }->IntsAre vs ns->ns.length<=n->s₁.gens=#[] ->
   R0 (C8 l.prog w) R1 (.call (.ref fa) ⟨[.ref a],[]⟩) (fun r s'=>r=.ok (.ret (.bool true))/\OldK s₁.heap s'.heap/\s'.os=s₁.os/\P3 s'.gens) s₁) :
  WalkO q loose XP YP l.row.toRowW d [] (fun f vs=>PySem.call f vs):=by
 intro w s₀ s₁ mg mb G Y fa o pm cd doc dV kV ho hd hcd hD hmg hg args vals as hpre hlay hrd hwl hlo;obtain rfl:dV=.none:=Dflts.none hD hdf;obtain rfl:kV=.none:=Dflts.noKw hD;obtain⟨a,vs,ns,rfl,rfl,hobj,hints,bE⟩:=rm hn hpre hwl;refine enter_call (codeAny_mono (call w s₀ s₁ mg mb fa o pm cd doc a vs ns G Y ho (fd_plain hd) hcd hmg hobj hints bE hg) fun r s' hq=>?_);obtain⟨rfl,h2,h3,h4⟩:=hq;exact⟨.inl ⟨.bool true,.bool true,[],rfl,fun _=>rfl,.bool true,rB l _,fun _=>⟨List.Pairwise.nil,fun _ hm=>(nomatch hm)⟩⟩,h2,h3,h4⟩
section
variable{prog:D0}{w:F2}{A:D9}{E:s0->u8->Prop}{s:u8}{K:Frag}
end
end Att
namespace L2
open PySem PySem.Spec PyProof.Rows
theorem lR:∀{vs:List s0}{ns:List Int},IntsAre vs ns->ay (ns.map V.int) vs
 |_,_,.nil=>.nil
 |_,_,.cons n t h=>.cons ⟨t,rfl⟩ (lR h)
def vk(H:Hp):Prop:=∀b,H b=none∨∃o xs,H b=some (.frz o (.lst xs))
theorem tN{P:D0}{w:F2}{K:o0}{mg mb:Str->Option s0}{CX:CXT}{k:Nat}{fa a:B0}{fd:F8}{x:Str}{sp:Sp}{s₁:u8}{vs:List s0}{ns:List Int}
  (KX:K.In s₁.heap) (hns:s₁.heap.Ns K8 mg) (hb:s₁.heap.Ns builtinsNs mb) (hbb:∀x:Str,x≠"__name__"->mb x=F7 x) (hlim:s₁.heap.NoLimit) (hg:s₁.gens=#[])
  (ha:s₁.heap.get? a=some { cls:=.type "list",data:=.seq vs.toArray }) (hi:IntsAre vs ns) (hl:ns.length<=A3) (hr:cv k R1)
  (F:∀base:C7,K.In base->base.Ns K8 mg->aO P w K mg base CX k fa fd [x] sp) (hbind:∀(s:u8) (u:s0),R7 s fd ⟨[u],[]⟩ [(x,u)])
  (hsp:∀H:Hp,vk H->SqL K H a (ns.map V.int)->sp [.ref a] H (fun v _=>v=.bl true) fun _ _ _=>False)
  (hCX:∀H e s',CX [] H s₁ (fun _ _ _=>False) e s'->False) :
  R0 (C8 P w) R1 (.call (.ref fa) ⟨[.ref a],[]⟩) (fun r s'=>r=.ok (.ret (.bool true))/\OldK s₁.heap s'.heap/\s'.os=s₁.os/\P3 s'.gens) s₁:=by
 have rv:=lR hi;have lenV:=hi.length
 -- from an abstract heap in which nothing but the script may be tracked
 have core:∀H:Hp,vk H->SqL K H a (ns.map V.int)->HOk P w H s₁.heap->(∀b,H b≠none->b=a)->(H a≠none->K.lookup a=none) ->
   R0 (C8 P w) R1 (.call (.ref fa) ⟨[.ref a],[]⟩) (fun r s'=>r=.ok (.ret (.bool true))/\OldK s₁.heap s'.heap/\s'.os=s₁.os/\P3 s'.gens) s₁:=by
  intro H hO hS hok hA hK;have base_of:∀{b:B0} {o:Obj},s₁.heap.get? b=some o->H b=none->(mi s₁.heap H).get? b=some o:=fun e n=>rV e n;have noA:∀{b:B0} {o:Obj} {es:Array DictEntry} {ep:Nat},s₁.heap.get? b=some o->o.data=.dict es ep->H b=none:=fun {b o es ep} e d=>by
   cases q:H b with
   |none=>rfl
   |some u =>
    have e':b=a:=hA b (by rw[q];simp);subst e';rw[ha]at e;cases e;have d':Data.seq vs.toArray _=Data.dict es ep:=d;cases d'
  have nsK:∀{b:B0} {m:Str->Option s0},s₁.heap.Ns b m->(mi s₁.heap H).Ns b m:=fun {b m} ⟨o,es,ep,e,d,r⟩=>⟨o,es,ep,base_of e (noA e d),d,r⟩;have hKb:K.In (mi s₁.heap H):=fun b o e=>base_of (KX b o e) (by
   cases q:H b with
   |none=>rfl
   |some u =>
    have e':b=a:=hA b (by rw[q];simp);subst e';rw[hK (by rw[q];simp)]at e;cases e)
  have hM:Mod K mg (mi s₁.heap H):=⟨hKb,nsK hns,⟨mb,nsK hb,hbb⟩,let⟨mc,h1,h2⟩:=hlim;⟨mc,nsK h1,h2⟩⟩;have e0:uM P w K mg (mi s₁.heap H) R1 [] s₁ H:=⟨rfl,hM,fun b o e=>vq e,Nat.le_of_eq (qN _ _),trivial,fun b hb=>absurd (show b∈([]:List B0)from hb) (by simp),hok,.of_eq hg⟩;refine codeAny_mono ((F _ hKb (nsK hns)).run R1 [] s₁ H ⟨[.ref a],[]⟩ [.ref a] [.ref a] _ _ hr e0 (hbind s₁ (.ref a)) (.cons rfl .nil) (hsp H hO hS)) fun r s' h=>?_;cases r with
  |error e=>exact(hCX H e s' h).elim
  |ok fl =>
   cases fl with
   |next=>exact F6 h
   |brk=>exact F6 h
   |cont=>exact F6 h
   |ret u =>
    obtain⟨v,H',os,bare,un,hok',r',q⟩:=h;have q':v=.bl true:=q;subst q';obtain rfl:u=s0.bool true:=r';refine⟨rfl,OldK.of_keep fun b o e=>?_,os,bare⟩;cases q:H b with
    |none=>exact un.keep b o e q (by intro z;exact absurd (show b∈([]:List B0)from z) (by simp)) (by simp)
    |some u =>
     rcases hO b with z|⟨ob,xs,z⟩
     ·rw[q]at z;cases z
     ·have z2:=un.frzs b ob _ z;obtain⟨e1,_⟩:=hok b _ z;obtain⟨e2,_⟩:=hok' b _ z2;rw[e]at e1;cases e1;exact e2
 cases hk:K.lookup a with
 |some o =>
  -- the script is one of the module's own objects
  have e:=KX a o hk;rw[ha]at e;cases e;refine core (fun _=>none) (fun _=>.inl rfl) (.inr ⟨_,vs.toArray,_,hk,rfl,rfl,rfl,by rw[A5,lenV];exact hl,by simpa using rv⟩) (fun b u z=>by have z':(none:Option HO)=some u:=z;cases z') (fun b z=>absurd rfl z) fun z=>absurd rfl z
 |none =>
  refine core (fun b=>if b=a then some (.frz { cls:=.type "list",data:=.seq vs.toArray } (.lst (ns.map V.int)))else none) (fun b=>?_) (.inl (.inr ⟨{ cls:=.type "list",data:=.seq vs.toArray },if_pos rfl⟩)) (fun b u z=>?_) (fun b z=>?_) fun _=>hk
  ·by_cases hb:b=a
   ·exact .inr ⟨_,_,if_pos hb⟩
   ·exact .inl (if_neg hb)
  ·by_cases hb:b=a
   ·have z':=(if_pos hb).symm.trans z;cases z';subst hb;exact⟨ha,by rw[O4];exact hl,vs,_,rv,ha⟩
   ·have z':=(if_neg hb).symm.trans z;cases z'
  ·by_cases hb:b=a
   ·exact hb
   ·exact absurd (if_neg hb) z
theorem pZ{l:PySem.W.OpenLaw}{n k:Nat}{q:D0}{loose:List Str}{XP:(Str->Option s0)->C7->Prop}{YP:F2->C7->Prop}{d:DefRec}{K:Params->o0}{CX:F2->CXT}{sp:F2->Sp}{x:Str}
  (hn:l.most=some n) (hn2:n<=A3) (hdf:d.params.defaults=[]) (hr:cv k R1)
  (hY:∀(w:F2) (h:C7),YP w h->(K w.params).In h)
  (F:∀ (w:F2) (mg:Str → Option s0) (fa:B0) (h:C7),(K w.params).In h → h.Ns K8 mg → mg d.name = some (.ref fa) →
   ∃fd:F8,(∀(s:u8) (u:s0),R7 s fd ⟨[u],[]⟩ [(x,u)]) /\
    ∀base:C7,(K w.params).In base->base.Ns K8 mg->aO l.prog w (K w.params) mg base (CX w) k fa fd [x] (sp w))
  (hsp:∀(w:F2) (H:Hp) (a:B0) (ns:List Int),ns.length<=n->vk H->SqL (K w.params) H a (ns.map V.int)->sp w [.ref a] H (fun v _=>v=.bl true) fun _ _ _=>False)
  (hCX:∀(w:F2) (H:Hp) (s:u8) (e:s0) (s':u8),CX w [] H s (fun _ _ _=>False) e s'->False) :
  PySem.W.WalkO q loose XP YP l.row.toRowW d [] (fun f vs=>PySem.call f vs):=by
 refine Att.attach_call hn hdf fun w s₀ s₁ mg mb fa o pm cd doc a vs ns G Y ho hd hcd hmg hobj hints bE hg=>?_;have KX:=hY w _ Y;obtain⟨fd,hb,hF⟩:=F w mg fa _ KX G.T.g hmg;exact tN KX G.T.g G.T.b G.T.builtins G.T.nolimit hg hobj hints (D3 bE hn2) hr hF hb (fun H hO hS=>hsp w H a ns bE hO hS) fun H e s'=>hCX w H s₁ e s'
end L2
/- THE LAST THEOREM (shape; LID,My.* are yours):
   My.Adr: a structure of the addresses that your layer names (classes,functions);My.Txt K t: a structure (Prop) of the equations over K;
   My.txt_mk:{K} {implicit addresses ..} (e1:nsIn K K8 "law"=some (some (.ref f))) (e2:K.lookup f=some ⟨oc,od,.func (fnOf "law" "law" params body scope dV kV doc pm an cdv ct),sl⟩) (e3:codeIn K cdv "law"=true) ..:∃t,My.Txt K t
set_option maxRecDepth 100000 in
set_option maxHeartbeats 0 in
theorem PySem.Challenge.cw_LID_holds : PySem.Challenge.rw_LID.Holds := by
 w_on;o_law;k_head;(case hw=>w_witness2)
 k_fill
 refine L2.pZ (l:=PySem.Challenge.rw_LID) (n:=63) (k:=40) (x:="script") (CX:=fun w=>..) (sp:=fun _=>My.sp_law) rfl (by decide) rfl ⟨rfl,by decide,by decide⟩ (fun w h Y=>PySem.W.kIn_of Y) ?F ?S ?C
 case F =>
  intro w mg fa h KX G hmg;have T:∃t,My.Txt (L2.KOf KX) t:=by
   dsimp only[L2.KOf]                          -- K must stand as «<heap const> w.params» for k_is
   refine' My.txt_mk ?e1 ?e2 ?e3 ..
   (case e1=>PySem.W.k_is)                    -- in the order: a name->its address->its object->its parts
   (case e2=>PySem.W.k_is)
   ..
  obtain⟨t,T⟩:=T;have e0:=hmg.symm.trans (PySem.W.mg_of KX G T.law);cases e0                                       -- fa is the law's own address;exact⟨_,fun s u=>.of_eq rfl,fun base kb nb=>My.law_fn T kb nb⟩     -- if «.of_eq rfl» comes too early: refine' ⟨_,?b,fun base kb nb=>My.law_fn T kb nb⟩;exact fun s u=>.of_eq rfl
 case S=>exact fun w H a ns hl hO hS=>..
 case C=>exact ..
(the tactic k_is has no namespace: write k_is) -/
namespace L2
open PySem PySem.Spec PyProof.Rows
def eM(s:Q6):Arguments:=match s with
 |.FunctionDef _ a _ _ _ _ _ _ _ _=>a
 |_=>{ posonlyargs:=[],args:=[],vararg:=none,kwonlyargs:=[],kw_defaults:=[],kwarg:=none,defaults:=[] }
def cy(s:Q6):List Q6:=match s with
 |.FunctionDef _ _ b _ _ _ _ _ _ _=>b
 |_=>[]
def ag(s:Q6):L5:=match s with
 |.FunctionDef _ _ _ _ _ _ sc _ _ _=>sc
 |_=>{ kind:=.function,names:=[],isGenerator:=false,isCoroutine:=false }
abbrev CX0:CXT:=fun _ _ _ _ _ _=>False
abbrev E0:XK:=fun _ _ _=>False
theorem wq{X:Cx}:pf CX0 X E0:=fun _ _ _ _ _ _ _ h=>h.elim
structure Fun(K:o0) (x qual:Str) (st:Q6) (f:B0) (fd:F8):Prop where
 ex:∃(oc:s0) (od:Option B0) (kV doc pm:s0) (an:Option B0) (cdv ct:s0) (osl:Array (Option s0)),
  fd=N5 x qual (eM st) (cy st) (ag st) .none kV doc pm an cdv ct/\K.lookup f=some ⟨oc,od,.func fd,osl⟩/\PySem.W.codeIn K cdv qual=true
 kp:K4 K (.ref f)=true
section
variable{P:D0}{w:F2}{K:o0}{mg:Str->Option s0}{base:C7}{f:B0}{fd:F8}
theorem Fun.ok{x qual:Str}{st:Q6}{f:B0}{fd:F8}{N ps:List Str}{k:Nat}{sp:Sp}(F:Fun K x qual st f fd) (S:av N ps (ag st)) (len:∀vs H Q E,sp vs H Q E->vs.length=ps.length)
  (hbody:∀ (cdv:s0) (A:D9) (outer:List Env) (s:u8) (H:Hp) (vs:List V) (Q:VK) (E:XK),cv k (A.deeper (R3 qual (ag st) s.heap.objs.size f cdv)) → sp vs H Q E →
   ∃t,PSs (nI CX0 P w K mg base N qual (ag st) f cdv A outer s H E).nox (cy st) t/\t { nx:=fun _ H'=>Q .non H',rt:=Q } (eX N vs) H):aO P w K mg base CX0 (k+1) f fd ps sp:=by
 obtain⟨oc,od,kV,doc,pm,an,cdv,ct,osl,rfl,lk,hcd⟩:=F.ex;refine yH lk hcd S len fun A outer s H vs Q E hr hsp=>?_;obtain⟨t,h,q⟩:=hbody cdv A outer s H vs Q E hr hsp;exact⟨t,h.nox,q⟩
theorem Fun.binds{x qual:Str}{st:Q6}{f:B0}{fd:F8}{ps:List Str}(F:Fun K x qual st f fd)
  (h:∀(kV doc pm:s0) (an:Option B0) (cdv ct:s0) (us:List s0),us.length=ps.length->bindArgs (N5 x qual (eM st) (cy st) (ag st) .none kV doc pm an cdv ct) ⟨us,[]⟩=P0 (ps.zip us)):de K fd ps []:=by
 obtain⟨oc,od,kV,doc,pm,an,cdv,ct,osl,rfl,lk,hcd⟩:=F.ex;exact .all (h kV doc pm an cdv ct)
theorem t9{x qual:Str}{st:Q6}{f:B0}{oc:s0}{od an:Option B0}{osl:Array (Option s0)}{kV doc pm cdv ct:s0}(l:K.lookup f=some ⟨oc,od,.func (N5 x qual (eM st) (cy st) (ag st) .none kV doc pm an cdv ct),osl⟩)
  (c:PySem.W.codeIn K cdv qual=true) (k:K4 K (.ref f)=true):Fun K x qual st f (N5 x qual (eM st) (cy st) (ag st) .none kV doc pm an cdv ct):=⟨⟨oc,od,kV,doc,pm,an,cdv,ct,osl,rfl,l,c⟩,k⟩
end
theorem eN{c A B:Prop} [Decidable c] (h1:c->A) (h2:¬ c->B):if c then A else B:=by
 by_cases h:c
 ·rw[if_pos h];exact h1 h
 ·rw[if_neg h];exact h2 h
def uX(H H':Hp):Prop:=∀b o,H b=some o->H' b=some o
theorem uX.trans{H H1 H2:Hp}(a:uX H H1) (b:uX H1 H2):uX H H2:=fun c o h=>b c o (a c o h)
section
variable{κ:Type} [DecidableEq κ]
noncomputable def vM(kvs:List (κ×V)) (k:κ):Option V:=(kvs.find? fun kv=>decide (kv.1=k)).map (·.2)
noncomputable def vz(kvs:List (κ×V)) (k:κ) (v:V):List (κ×V) :=
 if(kvs.any fun kv=>decide (kv.1=k))=true then kvs.map (fun kv=>if kv.1=k then(kv.1,v)else kv)else kvs++[(k,v)]
def A0(kvs:List (κ×V)) (k:κ):List (κ×V):=kvs.filter fun kv=>decide (kv.1≠k)
theorem u5.getD{o:Option V}{u:Option s0}{d:V}{d':s0}(r:u5 o u) (rd:aG d d'):aG (o.getD d) (u.getD d'):=by
 cases o with
 |none=>cases u with
  |none=>exact rd
  |some _=>exact(show False from r).elim
 |some _=>cases u with
  |none=>exact(show False from r).elim
  |some _=>exact r
theorem KV.any{kvs:List (κ×V)}{vs:List (κ×s0)}(r:KV kvs vs) (k:κ):(kvs.any fun kv=>decide (kv.1=k))=vs.any fun kv=>decide (kv.1=k):=by
 unfold KV at r
 induction r with
 |nil=>rfl
 |cons h t ih=>rw[F9,F9,ih,h.1]
theorem KV.keys{kvs:List (κ×V)}{vs:List (κ×s0)}(r:KV kvs vs):kvs.map (·.1)=vs.map (·.1):=by
 unfold KV at r
 induction r with
 |nil=>rfl
 |cons h t ih=>rw[E6,E6,ih,h.1]
theorem KV.length{kvs:List (κ×V)}{vs:List (κ×s0)}(r:KV kvs vs):kvs.length=vs.length:=K6.length r
end
def vG(H:Hp) (a:B0) (y:V) (r:Option V):Prop :=
 (∃kvs k,Rd H a (.dK kvs)/\y=kV k/\r=vM kvs k)∨∃kvs k b,Rd H a (.dT kvs)/\y=.ref b/\H b=some (.tup (k.map kV))/\r=vM kvs k
def uV(H:Hp) (a:B0) (y v:V) (H':Hp):Prop :=
 (∃kvs k,H a=some (.dK kvs)/\y=kV k/\kvs.length<A3/\H'=upd H a (.dK (vz kvs k v))) ∨
 ∃kvs k b,H a=some (.dT kvs)/\y=.ref b/\H b=some (.tup (k.map kV))/\kvs.length<A3/\H'=upd H a (.dT (vz kvs k v))
theorem vG.k{H:Hp}{a:B0}{kvs:List (Key×V)}{k:Key}(e:H a=some (.dK kvs)):vG H a (kV k) (vM kvs k):=.inl ⟨kvs,k,.inl e,rfl,rfl⟩
theorem vG.t{H:Hp}{a b:B0}{kvs:List (List Key×V)}{k:List Key}(e:H a=some (.dT kvs)) (eb:H b=some (.tup (k.map kV))):vG H a (.ref b) (vM kvs k):=.inr ⟨kvs,k,b,.inl e,rfl,eb,rfl⟩
theorem uV.k{H:Hp}{a:B0}{kvs:List (Key×V)}{k:Key}{v:V}(e:H a=some (.dK kvs)) (hl:kvs.length<A3):uV H a (kV k) v (upd H a (.dK (vz kvs k v))):=.inl ⟨kvs,k,e,rfl,hl,rfl⟩
theorem uV.t{H:Hp}{a b:B0}{kvs:List (List Key×V)}{k:List Key}{v:V}(e:H a=some (.dT kvs)) (eb:H b=some (.tup (k.map kV))) (hl:kvs.length<A3) :
  uV H a (.ref b) v (upd H a (.dT (vz kvs k v))):=.inr ⟨kvs,k,b,e,rfl,eb,hl,rfl⟩
structure M1(X:Cx) (o:B5) (m:Str) (dI:Pos) (e:B5) (bj:Pos):Prop where
 base:L1 o m X.env (N0 o X.env)=N0 o X.env
 few:((J0 bj (A8 [e] X.env)).all (fun x=>!x.1)&&(Q5 bj (N3 [] X.env)).all (fun x=>x.1.isSome)
 &&decide (([e]:List B5).length+([]:List M6).length+(if([]:List M6).isEmpty then 0 else 1)<30))=true
 line:(dI.endLine==bj.line)=true
 trees:J0 bj (A8 [e] X.env)=[(false,N0 e X.env)]
structure M2(X:Cx) (o:B5) (m:Str) (dI:Pos) (e f:B5) (bj:Pos):Prop where
 base:L1 o m X.env (N0 o X.env)=N0 o X.env
 few:((J0 bj (A8 [e,f] X.env)).all (fun x=>!x.1)&&(Q5 bj (N3 [] X.env)).all (fun x=>x.1.isSome)
 &&decide (([e,f]:List B5).length+([]:List M6).length+(if([]:List M6).isEmpty then 0 else 1)<30))=true
 line:(dI.endLine==bj.line)=true
 trees:J0 bj (A8 [e,f] X.env)=[(false,N0 e X.env),(false,N0 f X.env)]
noncomputable def aP(X:Cx) (scope:L5) (cl:List (Str×B0)) (N:List Str) (C:B0) (s:u8) (H:Hp) (ex:List B0):Cx where
 prog:=X.prog
 w:=X.w
 K:=X.K
 mg:=X.mg
 base:=X.base
 A:=X.A
 N:=N
 s₀:=s
 H₀:=H
 env:=compEnvC scope cl C X.env
 outer:=X.stack
 stack:=X.stack
 ex:=ex
 calm:=X.calm
 fn:=fun _=>false
 pn:=[]
 xe:=fun _ _=>False
noncomputable def bq:List Bool->St->St
 |true::ms,v::σ=>v::bq ms σ
 |false::ms,_::σ=>none::bq ms σ
 |[],_::σ=>none::bq [] σ
 |_,[]=>[]
theorem br:∀(ms:List Bool) (σ:St),(bq ms σ).length=σ.length
 |true::ms,v::σ=>by simp[bq,br ms σ]
 |false::ms,_::σ=>by simp[bq,br ms σ]
 |[],_::σ=>by simp[bq,br [] σ]
 |[],[]=>by simp[bq]
 |true::_,[]=>by simp[bq]
 |false::_,[]=>by simp[bq]
theorem fV:∀{ms:List Bool}{σ:St}{i:Nat}{v:V},(bq ms σ)[i]?=some (some v)->ms[i]?=some true/\σ[i]?=some (some v)
 |true::ms,v::σ,0,x,h=>by simpa[bq]using h
 |true::ms,v::σ,i+1,x,h=>by
  have:=fV (ms:=ms) (σ:=σ) (i:=i) (v:=x) (by simpa[bq]using h);simpa using this
 |false::ms,_::σ,0,x,h=>by simp[bq]at h
 |false::ms,_::σ,i+1,x,h=>by
  have:=fV (ms:=ms) (σ:=σ) (i:=i) (v:=x) (by simpa[bq]using h);simpa using this
 |[],_::σ,0,x,h=>by simp[bq]at h
 |[],_::σ,i+1,x,h=>by
  have:=fV (ms:=[]) (σ:=σ) (i:=i) (v:=x) (by simpa[bq]using h);simpa using this
 |[],[],_,_,h=>by simp[bq]at h
 |true::_,[],_,_,h=>by simp[bq]at h
 |false::_,[],_,_,h=>by simp[bq]at h
def gm(ms:List Bool) (k:Nat) (σ:St):St:=bq ms σ++A7 k none
theorem qQ{ms:List Bool}{k:Nat}{σ:St}{i:Nat}{v:V}(h:(gm ms k σ)[i]?=some (some v)):i<σ.length/\ms[i]?=some true/\σ[i]?=some (some v):=by
 unfold gm at h
 by_cases hi:i<(bq ms σ).length
 ·rw[C6 hi]at h;exact⟨by rwa [br]at hi,fV h⟩
 ·rw[F3 (by lia),J9]at h
  split at h<;>cases h
structure fh(X:Cx) (scope:L5) (cl:List (Str×B0)) (ms:List Bool) (ao:List Str):Prop where
 kind:scope.kind=.function
 ncell:∀y∈scope.names,y.2≠.cell
 names:∀y∈scope.names,y.2=.local->scope.names.lookup y.1=some .local
 clos:closureFor scope X.env=P0 cl
 sub:∀x c,cl.lookup x=some c->X.env.cells.lookup x=some c
 has:∀x,scope.names.lookup x=some .free->∃c,cl.lookup x=some c
 fr:∀x,scope.names.lookup x=some .free->X.env.scope.names.lookup x=some .cell∨X.env.scope.names.lookup x=some .free
 mask:∀(i:Nat) (x:Str),ms[i]?=some true->X.N[i]?=some x->scope.names.lookup x=some .free
 mlen:ms.length<=X.N.length
theorem gY{env:Env}:∀{names:List (Str×D2)}{x:Str}{k:D2},
  (names.map fun(n,k)=>if(k==E7&&env.scope.kind==.function&&env.kindOf n==some .cell)then(n,M9)else(n,k)).lookup x=some k->(∀y∈names,y.2≠.cell)->k=.cell∨k=.free->names.lookup x=some .free
 |[],_,_,h,_,_=>by simp at h
 |(n,k0)::r,x,k,h,hc,hk=>by
  have ih:=@gY env r x k;have h:List.lookup x ((if(k0==E7&&env.scope.kind==.function&&env.kindOf n==some .cell)=true then(n,M9)else(n,k0))::_)=some k:=h;cases hx:x==n with
  |true =>
   by_cases hq:(k0==E7&&env.scope.kind==.function&&env.kindOf n==some .cell)=true
   ·have:k0=.free:=by
     simp at hq;exact hq.1.1
    subst this;simp[D5,hx]
   ·rw[if_neg hq]at h;simp only[D5,hx]at h;cases h;rcases hk with rfl|rfl
    ·exact absurd rfl (hc (n,.cell) D7)
    ·simp[D5,hx]
  |false =>
   by_cases hq:(k0==E7&&env.scope.kind==.function&&env.kindOf n==some .cell)=true
   ·rw[if_pos hq]at h;simp only[D5,hx]at h ⊢;exact ih h (fun y hy=>hc y (B7 _ hy)) hk
   ·rw[if_neg hq]at h;simp only[D5,hx]at h ⊢;exact ih h (fun y hy=>hc y (B7 _ hy)) hk
theorem ig{env:Env}:∀{names:List (Str×D2)}{x:Str},names.lookup x=some .free ->
  (names.map fun(n,k)=>if(k==E7&&env.scope.kind==.function&&env.kindOf n==some .cell)then(n,M9)else(n,k)).lookup x=some .cell ∨
  (names.map fun(n,k)=>if(k==E7&&env.scope.kind==.function&&env.kindOf n==some .cell)then(n,M9)else(n,k)).lookup x=some .free
 |[],_,h=>by simp at h
 |(n,k0)::r,x,h=>by
  have ih:=@ig env r x;show List.lookup x ((if(k0==E7&&env.scope.kind==.function&&env.kindOf n==some .cell)=true then(n,M9)else(n,k0))::_)=_∨List.lookup x ((if(k0==E7&&env.scope.kind==.function&&env.kindOf n==some .cell)=true then(n,M9)else(n,k0))::_)=_;cases hx:x==n with
  |true =>
   simp only[D5,hx]at h;cases h
   split
   ·left;simp[D5,hx]
   ·right;simp[D5,hx]
  |false =>
   simp only[D5,hx]at h
   split<;>(simp only[D5,hx];exact ih h)
section
variable{X:Cx}{aa:List (B0×Obj)}{σ:St}{H H2:Hp}{s s2:u8}{scope:L5}{cl:List (Str×B0)}{ms:List Bool}{ao:List Str}
theorem tS(I:Inv X aa σ H s) (S:fh X scope cl ms ao) {fp:List B0}(hfp:∀b∈fp,dG X aa H b) (hlt:∀b∈fp,b<s.heap.objs.size) {C:B0}(hC:s.heap.objs.size<=C) :
  (aP X scope cl (X.N++ao) C s H fp).Ok where
 mod:=I.ok.mod
 kind:=S.kind
 glob:=I.ok.glob
 blt:=I.ok.blt
 above:=hC
 inj:=fun x y c h1 h2=>I.ok.inj x y c (S.sub x c h1) (S.sub y c h2)
 has:=fun x hx=>S.has x (gY (env:=X.env) (k:=if(aP X scope cl (X.N++ao) C s H fp).env.kindOf x=some .cell then .cell else .free) (by
  rcases hx with hx|hx
  ·rw[if_pos hx];exact hx
  ·rw[if_neg (by rw[hx];decide)];exact hx) S.ncell (by split<;>simp))
 cab:=fun x c h=>by cases h
 hd:=I.ok.hd
 frames:=I.ok.frames
 stk:=.inl rfl
 exf:=fun b hb=>⟨B8 (B1 (hlt b hb) hC),fun x c e=>(hfp b hb).2.2.2.2.1 x c (S.sub x c e)⟩
 bs:=I.bs
 bsz:=D3 I.ok.bsz I.sz
 noex:=fun b o e hb=>by
  rcases(hfp b hb).2.2.2.1 with z|z
  ·exact I.ok.noex b o e z
  ·exact absurd (B1 (A9 e) (D3 I.ok.bsz z)) (J5 _)
 exfs:=fun b hb z=>by
  rcases J7.mp (I.stkSub b z)with e|e
  ·exact(hfp b hb).2.1 e
  ·exact(hfp b hb).2.2.1 e
 funs:=I.stack
 frf:=I.stkFree
theorem u0(I:Inv X aa σ H s) (S:fh X scope cl ms ao) {fp:List B0}(hfp:∀b∈fp,dG X aa H b) (hlt:∀b∈fp,b<s.heap.objs.size) {C:B0}(hC:s.heap.objs.size<=C)
  (os:s2.os=s.os) (bare:P3 s2.gens) (keep:∀b o,s.heap.get? b=some o->s2.heap.get? b=some o) {m:Str->Option s0} (hn:s2.heap.Ns C m) :
  Inv (aP X scope cl (X.N++ao) C s H fp) [] (gm ms ao.length σ) H s2 where
 ok:=tS I S hfp hlt hC
 os:=os
 bare:=bare
 base:=Un.kept keep
 loc:=⟨m,hn,fun i x v h1 h2 h3=>by
  obtain⟨hi,hm,hv⟩:=qQ h2;have hiN:i<X.N.length:=by rw[<-I.len];exact hi
  have hx:X.N[i]?=some x:=by
   have h1':(X.N++ao)[i]?=some x:=h1
   rwa [C6 hiN]at h1'
  have hf:=S.mask i x hm hx;obtain⟨m0,hn0,hl⟩:=I.loc;obtain⟨u,r,l⟩:=hl i x v hx hv (by rcases S.fr x hf with z|z<;>simp[Vis,z]);refine⟨u,r,.inr ⟨?_,?_⟩⟩
  ·exact ig (env:=X.env) hf
  ·obtain⟨c,hc⟩:=S.has x hf;have hc':=S.sub x c hc;rcases l with⟨k,_⟩|⟨_,c',e,z⟩
   ·rcases S.fr x hf with z|z<;>(have k':X.env.scope.names.lookup x=some .local:=k;rw[z]at k';cases k')
   ·rw[hc']at e;cases e;obtain⟨o,ho,hd⟩:=z;exact⟨c,hc,o,keep _ _ ho,hd⟩⟩
 cell:=fun x c e=>by
  obtain⟨v,o,ho,hd⟩:=I.cell x c (S.sub x c e);exact⟨v,o,keep _ _ ho,hd⟩
 free:=I.hok.fresh hC
 freeC:=fun x c e=>I.freeC x c (S.sub x c e)
 pin:=fun p hp=>absurd (show p∈([]:List (B0×Obj))from hp) (by simp)
 hok:=I.hok.kept keep
 len:=by
  unfold gm;rw[E9,br,List.length_replicate,I.len];show _=(X.N++ao).length;rw[E9]
end
def PIf(X:Cx) (ifs:List B5) (t:TT):Prop :=
 ∀(aa:List (B0×Obj)) (s:u8) (σ:St) (H:Hp) (Q:Bool->Hp->Prop),Inv X aa σ H s->t σ H Q ->
  B9 (C8 X.prog X.w) X.A (forIn ifs true fun c r=>if r=true then do let ok <-isTrue c X.env (N0 c X.env);P0 (E1 ok)else P0 (E1 r)) (TP X aa σ Q) X.xe s
def AE:TT:=fun _ H Q=>Q true H
theorem vI{X:Cx}:PIf X [] AE:=fun _ _ _ H _ I h=>wpAny_tests_nil ⟨H,I,h⟩
theorem vn{X:Cx}{c:B5}{t:TT}(h:PT X c t):PIf X [c] t:=fun aa s σ H Q I q=>wpAny_tests_one (h aa s σ H Q I q)
abbrev eC(its:List s0) (n:Nat):Obj:={ cls:=.type "list",data:=.seq its.toArray n }
theorem thF{α:Type}{t:Sem α}{Q Q':α->u8->Prop}{M:Model}{A:D9}{E:s0->u8->Prop}{s:u8}(hE:E=fun _ _=>False) (h:B9 M A t Q E s) (hQ:∀a s,Q a s->Q' a s):B9 M A t Q' (fun _ _=>False) s:=F5 h hQ fun e s x=>by rw[hE]at x;exact x
abbrev lcE(el:B5) (gs:List O1) (sc:L5) (ps:Pos):B5:=.ListComp el gs sc ps
section
variable{prog:D0}{w:F2}{A:D9}{R:Result->u8->Prop}{s:u8}{el tg elt i:B5}{fs:List B5}{k:Nat}{p:Pos}{it acc:s0}{env:Env}{gs:List O1}{sc:L5}{ps:Pos}
abbrev AWt:=(u8->Prop)->u8->Prop
def qv(prog:D0) (w:F2) (A:D9) (elt:B5) (acc:s0) (env:Env):AWt:=fun Ok s=>B9 (C8 prog w) A (N0 elt env) (fun x s₄=>B9 (C8 prog w) A (call (.builtin "list.append") [acc,x]) (fun _ s₅=>Ok s₅) (fun _ _=>False) s₄) (fun _ _=>False) s
def ya(ce:B5) (k:Nat) (p:Pos) (tg:B5) (fs:List B5) (bd:s0->s0->Env->Sem Fin):Prop:=∀it acc env,compTurn ce k it acc env=(do
  standAt p
  let r <-pyNext it
  match r with
   |none=>P0 (Fin.done Flow.next)
   |some v=>do
    L7 tg it v
    O9 tg env v
    let ok <-forIn fs true fun c r=>if r=true then do let ok <-PySem.isTrue c env (N0 c env);P0 (E1 ok)else P0 (E1 r)
    if ok=true then bd it acc env else again (P4 ce k it acc env))
def xF(prog:D0) (w:F2) (A:D9) (ce:B5) (k:Nat) (bd:s0->s0->Env->Sem Fin) (it acc:s0) (env:Env) (AW:AWt):Prop :=
 ∀Ok s (R:Result->u8->Prop) (E:s0->u8->Prop),AW Ok s->B9 (C8 prog w) A (bd it acc env) (fun fin s'=>match fin with|.done f=>R (.ok f) s'|.again c'=>c'=P4 ce k it acc env/\Ok s') E s
theorem kQ{bd:s0->s0->Env->Sem Fin}{AW:AWt}(hT:ya (lcE el gs sc ps) k p tg fs bd) (hq:(P4 (lcE el gs sc ps) k it acc env).quiet=true:=by rfl) (hb:xF prog w A (lcE el gs sc ps) k bd it acc env AW) (I:Nat->u8->Prop)
  (turn:∀ n s,I n s → B9 (C8 prog w) A (pyNext it) (fun r s₁ => match r with
   |none=>R (.ok .next) s₁
   | some v => B9 (C8 prog w) A (L7 tg it v) (fun _ s₁ => B9 (C8 prog w) A (O9 tg env v) (fun _ s₂ =>
     B9 (C8 prog w) A (forIn fs true fun c r=>if r=true then do let ok <-isTrue c env (N0 c env);P0 (E1 ok)else P0 (E1 r)) (fun ok s₃ =>
      if ok=true then AW (fun s₅=>∃m,m<n/\I m s₅) s₃
      else ∃m,m<n/\I m s₃) (fun _ _=>False) s₂) (fun _ _=>False) s₁) (fun _ _=>False) s₁) (fun _ _=>False) s)
  (n:Nat) (h:I n s) :
  R0 (C8 prog w) A (.compLoop (lcE el gs sc ps) k it acc env) R s:=by
 refine codeAny_loop hq I (fun n s hI=>?_) n h;show B9 _ A ((compTurn (lcE el gs sc ps) k it acc env).onRaise (fun x=>do noteFrame x env;theTreesLotGoes x)) _ _ s;refine wpAny_noted ?_;rw[hT];refine A4 (wpAny_standAt (A4 (F5 (turn n s hI) (fun r s₁ h₁=>?_) fun _ _ h'=>h'.elim)));cases r with
 |none=>exact B2 h₁
 |some v =>
  refine A4 (F5 h₁ (fun _ s1 h₁=>?_) fun _ _ h'=>h'.elim);refine A4 (F5 h₁ (fun _ s₂ h₂=>A4 (F5 h₂ (fun ok s₃ h₃=>?_) fun _ _ h'=>h'.elim)) fun _ _ h'=>h'.elim);cases ok with
  |false=>exact B2 ⟨rfl,h₃⟩
  |true=>exact hb _ _ _ _ h₃
noncomputable def wb(ce:B5) (k:Nat) (elt:B5):s0->s0->Env->Sem Fin:=fun it acc env=>bind (bind (N0 elt env) fun x=>bind (call (s0.builtin "list.append") [acc,x]) fun _=>P0 ()) fun(_:Unit)=>again (P4 ce k it acc env)
theorem ve:xF prog w A (lcE el gs sc ps) k (wb (lcE el gs sc ps) k elt) it acc env (qv prog w A elt acc env):=fun Ok s R E h =>
 A4 (A4 (F5 h (fun x s₄ h₄=>A4 (F5 h₄ (fun _ s₅ h₅=>B2 (B2 ⟨rfl,h₅⟩)) fun _ _ h'=>h'.elim)) fun _ _ h'=>h'.elim))
end
abbrev BK:=List V->St->Hp->(List V->St->Hp->Prop)->Prop
def m5(J:It) (g:TG) (tc:TT) (B:BK) (W:Nat->Nat->List V->St->Hp->Prop) (Z:List V->St->Hp->Prop):Prop :=
 ∀i m ys σ H,W i m ys σ H->ys.length<=A3/\((J.stop i H/\Z ys σ H) ∨
  (J.go i H/\∀x H',J.yld i H x H'->g x σ H' fun σ2 H2=>tc σ2 H2 fun b H3=>if b=true then B ys σ2 H3 (fun ys' σ' H'=>∃m',m'<m/\W (i+1) m' ys' σ' H')else ∃m',m'<m/\W (i+1) m' ys σ2 H3))
def nU(te:TE):BK:=fun ys σ H Z=>te σ H fun y H'=>Z (ys++[y]) σ H'
section
variable{Y:Cx}{D:B0}{el tg elt i1:B5}{fs:List B5}{g:TG}{tc:TT}{te:TE}{wi:TI}{B:BK}{k:Nat}{p:Pos}{gs:List O1}{sc:L5}{ps:Pos}
def wj(Y:Cx) (D:B0) (AW:AWt) (B:BK):Prop:=∀(P:List (B0×Obj)) (its:List s0) (nn:Nat) (ys:List V) (σ:St) (H:Hp) (s:u8) (Z:List V->St->Hp->Prop),Inv Y ([(D,eC its nn)]++P) σ H s->ay ys its->ys.length<=A3->(∀p∈P,p.1≠D)->B ys σ H Z ->
 AW (fun s'=>∃ys' its' n' σ' H',Inv Y ([(D,eC its' n')]++P) σ' H' s'/\ay ys' its'/\Z ys' σ' H') s
structure lg(Y:Cx) (D:B0):Prop where
 pn:Y.pn=[]
 calm:Y.calm=true
 xe:Y.xe=fun _ _=>False
 ex:D∈Y.ex∨Y.s₀.heap.objs.size<=D
 cell:∀x c,Y.env.cells.lookup x=some c->c≠D
theorem AWt.mono_leaf{prog:D0}{w:F2}{A:D9}{acc:s0}{env:Env}{Ok Ok':u8->Prop}{s:u8}(h:qv prog w A elt acc env Ok s) (k:∀s,Ok s->Ok' s):qv prog w A elt acc env Ok' s :=
 F5 h (fun _ _ h1=>F5 h1 (fun _ _ h2=>k _ h2) fun _ _ x=>x) fun _ _ x=>x
theorem sj(c:lg Y D) (he:PE Y elt te):wj Y D (qv Y.prog Y.w Y.A elt (.ref D) Y.env) (nU te):=by
 intro P its nn ys σ H s Z I rv hz hPD q;refine thF c.xe (he _ s σ H _ I q) fun v s9 hup=>hup.el fun y H9 I9 r9 q9=>?_;have pacc:=I9.pin (D,eC its nn) (B3 _ (List.mem_append_left _ D7));have hzi:its.toArray.size<=A3:=by rw[A5,<-rv.length];exact hz
 refine PySem.wpAny_list_append_plain (hsz:=hzi) ⟨nn,pacc.1⟩ fun h' hl' hs'=>?_;obtain⟨n',hl'⟩:=hl';have I10:Inv Y [] σ H9 { s9 with heap:=h' } :=
  Inv.turned (t':=s9.toks) (it:=D) (I9.pins_of fun p hp=>absurd hp (by simp)) (fun b o hb e=>(hs'.2 b hb).trans e) pacc.2.1 pacc.2.2.1 c.ex c.cell (fun p hp=>absurd (show p∈([]:List (B0×Obj))from by rw[c.pn]at hp;exact hp) (by simp))
 refine⟨ys++[y],its++[v],n',σ,H9,I10.pins_of fun p hp=>?_,rv.append (.cons r9 .nil),q9⟩;rcases K9.mp hp with z|z
 ·have e:p=(D,eC (its++[v]) n'):=K7.mp z;subst e;refine⟨?_,pacc.2.1,pacc.2.2.1,pacc.2.2.2.1,fun v z=>by cases z⟩;rw[hl'];simp[eC]
 ·obtain⟨b1,b2,b3,b4,b5⟩:=I9.pin p (B3 _ (B3 _ z));exact⟨(hs'.2 _ (hPD p z)).trans b1,b2,b3,b4,b5⟩
structure Lv(Y:Cx) (D:B0) (ce:B5) (k:Nat) (p:Pos) (tg:B5) (fs:List B5) (B:BK):Prop where
 ex:∃bd AW,ya ce k p tg fs bd/\(∀it,xF Y.prog Y.w Y.A ce k bd it (.ref D) Y.env AW)/\wj Y D AW B/\∀{Ok Ok':u8->Prop} {s:u8},AW Ok s->(∀s,Ok s->Ok' s)->AW Ok' s
theorem uZ(c:lg Y D) (he:PE Y elt te) (hT:ya (lcE el gs sc ps) k p tg fs (wb (lcE el gs sc ps) k elt)):Lv Y D (lcE el gs sc ps) k p tg fs (nU te):=⟨_,_,hT,fun _=>ve,sj c he,AWt.mono_leaf⟩
theorem rA(c:lg Y D) (L:Lv Y D (lcE el gs sc ps) k p tg fs B) {it2:B0}
  (hg:PG Y tg g) (hif:PIf Y fs tc) {P:List (B0×Obj)} (hPD:∀p∈P,p.1≠D)
  {its0:List s0} {nn0:Nat} {ys0:List V} {σ:St} {H:Hp} {s:u8} (I:Inv Y ([(D,eC its0 nn0)]++P) σ H s) (rv0:ay ys0 its0) {fp2:List B0} {tn2:Nat->C7->Prop} {J2:It} (T:lY Y.prog Y.w Y.K tg J2 fp2 it2 tn2) (st:tn2 0 s.heap)
  (f:∀b∈fp2,dG Y ([(D,eC its0 nn0)]++P) H b) {W2:Nat->Nat->List V->St->Hp->Prop} {Z2:List V->St->Hp->Prop} {m0:Nat} (w0:W2 0 m0 ys0 σ H) (turn:m5 J2 g tc B W2 Z2) {R:Result->u8->Prop}
  (hR:∀(s':u8) (ys:List V) (its:List s0) (n:Nat) (σ':St) (H':Hp),Inv Y ([(D,eC its n)]++P) σ' H' s'->ay ys its->ys.length<=A3->Z2 ys σ' H'->R (.ok .next) s') :
  R0 (C8 Y.prog Y.w) Y.A (.compLoop (lcE el gs sc ps) k (.ref it2) (.ref D) Y.env) R s:=by
 obtain⟨bd,AW,hT,hb,hB,hAW⟩:=L.ex;have fpc:∀{H:Hp} {n:Nat} {its:List s0},(∀b∈fp2,H b=none)->∀b∈fp2,dG Y ([(D,eC its n)]++P) H b:=fun hn b hb=>by
  obtain⟨_,a1,a2,a3,a4,a5⟩:=f b hb;refine⟨hn b hb,a1,a2,a3,a4,fun p hp=>?_⟩;rw[c.pn,List.nil_append]at hp;rcases K9.mp hp with z|z
  ·obtain rfl:=K7.mp z;exact a5 (D,eC its0 nn0) (by rw[c.pn];simp)
  ·exact a5 p (by rw[c.pn];simp[z])
 refine kQ hT rfl (hb _) (fun n s'=>∃i ys its nn σ' H',Inv Y ([(D,eC its nn)]++P) σ' H' s'/\ay ys its/\tn2 i s'.heap/\(∀b∈fp2,H' b=none)/\W2 i n ys σ' H') ?_ m0
  ⟨0,ys0,its0,nn0,σ,H,I,rv0,st,fun b hb=>(f b hb).1,w0⟩
 rintro n s' ⟨i,ys,its,nn,σ',H',I4,rv,st4,fr4,w4⟩;obtain⟨hz,h⟩:=turn i n ys σ' H' w4;rcases h with⟨stop,hZ⟩|⟨go,step⟩
 ·refine thn (T.done Y rfl rfl rfl c.calm i _ s' _ H' (fun _ _=>False) I4 (fpc fr4) st4 stop) fun r s4 ⟨hr,I5⟩=>?_;subst hr;exact hR s4 ys its nn σ' H' I5 rv hz hZ
 ·refine thn (T.item Y rfl rfl rfl c.calm i _ s' _ H' (fun _ _=>False) I4 (fpc fr4) st4 go) fun r s5 ⟨u,hr,h5⟩=>?_;subst hr;refine thn h5 fun _ s6 ⟨x,H6,I6,r6,y6,st6,fr6⟩=>?_;have I6':=I6.pinned (fpc fr6) (T.obj _ _ st6);refine thF c.xe (hg _ s6 _ H6 x u _ I6' r6 (step x H6 y6)) fun _ s7 ⟨σ7,H7,I7,q7⟩=>?_;refine thF c.xe (hif _ s7 σ7 H7 _ I7 q7) fun ok s8 hup=>hup.el fun H8 I8 q8=>?_;have keepfp:∀{its:List s0} {nn:Nat} {σ9:St} {H9:Hp} {s9:u8},Inv Y (([(D,eC its nn)]++P)++gD fp2 s6.heap) σ9 H9 s9->tn2 (i+1) s9.heap/\∀b∈fp2,H9 b=none:=fun {its nn σ9 H9 s9} I9 =>
   ⟨T.keep _ _ _ st6 fun b hb o e=>(I9.pin (b,o) (B3 _ (B3 _ (eA hb e)))).1,fun b hb=>by
    obtain⟨o,e,d⟩:=T.obj _ _ st6 b hb;exact(I9.pin (b,o) (B3 _ (B3 _ (eA hb e)))).2.1⟩
  cases ok with
  |false =>
   obtain⟨m',hm,w8⟩:=q8;obtain⟨a8,b8⟩:=keepfp I8;exact⟨m',hm,i+1,ys,its,nn,σ7,H8,I8.unpinned,rv,a8,b8,w8⟩
  |true =>
   have hPD2:∀p∈P++gD fp2 s6.heap,p.1≠D:=fun p hp=>by
    rcases K9.mp hp with z|z
    ·exact hPD p z
    ·have hb:=(lV z).1;intro e;exact(f _ hb).2.2.2.2.2 (D,eC its0 nn0) (by rw[c.pn];simp) e.symm
   refine hAW (hB (P++gD fp2 s6.heap) its nn ys σ7 H8 s8 _ (by rw[<-List.append_assoc];exact I8) rv hz hPD2 q8) ?_;rintro s9 ⟨ys',its',n',σ',H',I',rv',m',hm,w'⟩;rw[<-List.append_assoc]at I';obtain⟨a9,b9⟩:=keepfp I';exact⟨m',hm,i+1,ys',its',n',σ',H',I'.unpinned,rv',a9,b9,w'⟩
end
section
variable{X:Cx}{aa:List (B0×Obj)}{σ σ':St}{H2 H':Hp}{s2 s':u8}{scope:L5}{cl:List (Str×B0)}{ms:List Bool}{ao:List Str}{elt t0 i0:B5}{f0:List B5}{gs:List O1}{g0:TG}{tc0:TT}{B:BK}{p pos:Pos}
theorem lK(S:fh X scope cl ms ao) (g6:X.calm=true)
  (hg0:∀C s H ex,PG (aP X scope cl (X.N++ao) C s H ex) t0 g0) (hif0:∀C s H ex,PIf (aP X scope cl (X.N++ao) C s H ex) f0 tc0)
  (hL:∀C s H ex D,lg (aP X scope cl (X.N++ao) C s H ex) D->Lv (aP X scope cl (X.N++ao) C s H ex) D (lcE elt (⟨t0,i0,f0,0⟩::gs) scope pos) 0 p t0 f0 B)
  (I2:Inv X aa σ H2 s2) {it:B0} {fp:List B0} {tn:Nat->C7->Prop} {J:It} (T:lY X.prog X.w X.K t0 J fp it tn) (st2:tn 0 s2.heap) (fz:∀b∈fp,dG X aa H2 b)
  {W:Nat->Nat->List V->St->Hp->Prop} {Z:List V->St->Hp->Prop} {m0:Nat} (w0:W 0 m0 [] (gm ms ao.length σ) H2) (turn:m5 J g0 tc0 B W Z)
  {RR:s0->B0->Result->u8->Prop} {E:s0->u8->Prop}
  (hRR:∀ (s':u8) (ys:List V) (its:List s0) (n:Nat) (σ':St) (H':Hp),Inv (aP X scope cl (X.N ++ ao) (s2.heap.objs.size + 1) s2 H2 fp) [(s2.heap.objs.size,eC its n)] σ' H' s' → ay ys its → ys.length ≤ A3 → Z ys σ' H' →
   RR (.ref s2.heap.objs.size) (s2.heap.objs.size+1) (.ok .next) s') :
  B9 (C8 X.prog X.w) X.A (newList []) (fun acc s₃=>B9 (C8 X.prog X.w) X.A (newFunctionEnv scope X.env.globals cl [] X.env.qual none .none (some X.env)) (fun cenv s₄ =>
   R0 (C8 X.prog X.w) X.A (.compStart (lcE elt (⟨t0,i0,f0,0⟩::gs) scope pos) 0 (.ref it) acc { cenv with scope:=relabel scope X.env }) (RR acc cenv.locals) s₄) E s₃) E s2:=by
 refine E4 (wpAny_newFunctionEnv S.ncell (by intro y hy;simp at hy) (fun h₁ hns₁ hsb₁=>?_) S.kind);dsimp only at hns₁ hsb₁ ⊢;have hsz:(s2.heap.push { cls:=.type "list",dict:=none,data:=.seq ([]:List s0).toArray }).objs.size=s2.heap.objs.size+1:=by rw[C7.size_push]
 rw[hsz]at hns₁ hsb₁ ⊢;have hlt:∀b∈fp,b<s2.heap.objs.size:=fun b hb=>by
  obtain⟨o,e,_⟩:=T.obj _ _ st2 b hb;exact A9 e
 have old:∀b o,s2.heap.get? b=some o->h₁.get? b=some o:=fun b o e=>hsb₁.extBut b o (B8 (F1 (A9 e))) (A6 _ (A6 _ e));have hacc:h₁.get? s2.heap.objs.size=some (eC [] 0):=hsb₁.extBut _ _ (B8 (N8 _)) (A6 _ (B6 _ rfl));have hDn:H2 s2.heap.objs.size=none:=I2.hok.fresh (B4 _);have hDfs:∀b,s2.heap.objs.size<=b->b∉(aP X scope cl (X.N++ao) (s2.heap.objs.size+1) s2 H2 fp).fs:=fun b hb z=>by
  rcases J7.mp (I2.stkSub b z)with e|e
  ·subst e;exact absurd (B1 I2.lt hb) (J5 _)
  ·exact I2.nofs hb e
 have loop:∀s₃:u8,s₃={ s2 with heap:=h₁,toks:=s2.toks+([]:List (Str×s0)).length } ->
   R0 (C8 X.prog X.w) X.A (.compLoop (lcE elt (⟨t0,i0,f0,0⟩::gs) scope pos) 0 (.ref it) (.ref s2.heap.objs.size) (compEnvC scope cl (s2.heap.objs.size+1) X.env)) (RR (.ref s2.heap.objs.size) (s2.heap.objs.size+1)) s₃:=by
  rintro s₃ rfl;have I3:Inv (aP X scope cl (X.N++ao) (s2.heap.objs.size+1) s2 H2 fp) [] (gm ms ao.length σ) H2 { s2 with heap:=h₁,toks:=s2.toks+([]:List (Str×s0)).length } :=
   u0 I2 S fz hlt (Nat.le_succ _) rfl I2.bare old hns₁
  have c:lg (aP X scope cl (X.N++ao) (s2.heap.objs.size+1) s2 H2 fp) s2.heap.objs.size:=⟨rfl,g6,rfl,.inr (B4 _),fun x c e=>by
   obtain⟨v,o,ho,_⟩:=I2.cell x c (S.sub x c e);exact B8 (A9 ho)⟩
  refine rA c (hL _ _ _ _ _ c) (hg0 _ _ _ _) (hif0 _ _ _ _) (P:=[]) (fun p hp=>nomatch hp) (its0:=[]) (nn0:=0) (I3.pins_of fun p hp=>?_) .nil T (T.keep _ _ _ st2 fun b _ o e=>old b o e) (fun b hb=>?_) w0 turn ?_
  ·have e:p=(s2.heap.objs.size,eC [] 0):=K7.mp hp;subst e;exact⟨hacc,hDn,B8 (N8 _),hDfs _ (B4 _),fun v z=>by cases z⟩
  ·exact⟨(fz b hb).1,B8 (F1 (hlt b hb)),(tS I2 S fz hlt (Nat.le_succ _)).exfs b hb,.inl hb,fun x c e=>(fz b hb).2.2.2.2.1 x c (S.sub x c e),fun p hp=>by
    have:p=(s2.heap.objs.size,_):=K7.mp (show p∈[(s2.heap.objs.size,_)]from hp);subst this;exact P9 (hlt b hb)⟩
  ·exact fun s' ys its n σ' H' I' rv hz hZ=>hRR s' ys its n σ' H' I' rv hz hZ
 exact codeAny_compStart_list (loop _ rfl) (T.self _ 0 _ _ _ (T.keep _ _ _ st2 fun b _ o e=>old b o e) (loop _ rfl))
end
section
variable{X:Cx}{aa:List (B0×Obj)}{σ σ':St}{H2 H':Hp}{s2 s':u8}{scope:L5}{cl:List (Str×B0)}{ms:List Bool}{ao:List Str}{tg iter elt:B5}{ifs:List B5}{g:TG}{tc:TT}{te:TE}{pos p:Pos}{B:BK}{gs:List O1}
theorem lH(I2:Inv X aa σ H2 s2) {fp:List B0}(f2:∀b∈fp,dG X aa H2 b) {its:List s0}{n:Nat}{ys:List V}
  (I':Inv (aP X scope cl (X.N++ao) (s2.heap.objs.size+1) s2 H2 fp) [(s2.heap.objs.size,eC its n)] σ' H' s') (rv:ay ys its) (hz:ys.length<=A3) {h':C7} (hs:L4 (s2.heap.objs.size+1) s'.heap h') :
  Inv X aa σ (upd H' s2.heap.objs.size (.lst ys)) { s' with heap:=h' }/\H' s2.heap.objs.size=none:=by
 have pacc:=I'.pin (s2.heap.objs.size,eC its n) (B3 _ D7);have hC:H' (s2.heap.objs.size+1)=none:=I'.free;have hD:H' s2.heap.objs.size=none:=pacc.2.1;have up:∀b o,b≠s2.heap.objs.size+1->s'.heap.get? b=some o->h'.get? b=some o:=fun b o hb e=>(hs.2 b hb).trans e;have nD:∀b u,H' b=some u->b≠s2.heap.objs.size:=fun b u e z=>by rw[z,hD]at e;cases e
 have nC:∀b u,H' b=some u->b≠s2.heap.objs.size+1:=fun b u e z=>by rw[z,hC]at e;cases e
 have hacc:h'.get? s2.heap.objs.size=some (eC its n):=up _ _ (B8 (N8 _)) pacc.1;have hok:HOk X.prog X.w (upd H' s2.heap.objs.size (.lst ys)) h':=fun b u e=>by
  by_cases hb:b=s2.heap.objs.size
  ·subst hb;rw[bK]at e;cases e;exact⟨hz,its,n,rv,hacc⟩
  ·rw[aM hb]at e;refine(I'.hok b u e).stay (fun c v hc q=>up c v ?_ q) (fun c q=>by rw[aM (nD c _ q)];exact q) fun c xs q=>by rw[aM (nD c _ q)];exact q
   rcases hc with rfl|hc
   ·exact nC _ _ e
   ·exact nC _ _ hc
 have un:Un (frs X.stack) fp H2 (upd H' s2.heap.objs.size (.lst ys)) s2.heap h':=by
  have U:=I'.base;have ltD:∀b o,s2.heap.get? b=some o->b≠s2.heap.objs.size:=fun b o e=>B8 (A9 e);have ltC:∀b o,s2.heap.get? b=some o->b≠s2.heap.objs.size+1:=fun b o e=>B8 (F1 (A9 e));refine⟨fun b o e nb hb hx=>up b o (ltC b o e) (U.keep b o e nb hb hx),fun b o e nb hb hx=>?_,fun b o e nb hx=>by rw[aM (ltD b o e)];exact U.free b o e nb hx,fun b o e hx=>?_,
   fun b xs e=>by have q:=U.tups b xs e;rw[aM (nD b _ q)];exact q,fun b o u e=>by have q:=U.frzs b o u e;rw[aM (nD b _ q)];exact q,fun b ps e=>?_⟩
  ·obtain⟨sl,q⟩:=U.slot b o e nb hb hx;exact⟨sl,up b _ (ltC b o e) q⟩
  ·obtain⟨o',q⟩:=U.there b o e hx;exact⟨o',up b _ (ltC b o e) q⟩
  ·obtain⟨more,q⟩:=U.tbls b ps e;exact⟨more,by rw[aM (nD b _ q)];exact q⟩
 exact⟨I2.call' (s':={ s' with heap:=h' }) (ch:=fp) I'.os un hok I'.bare fun b hb=>⟨(f2 b hb).2.2.2.1,(f2 b hb).2.1,(f2 b hb).2.2.2.2.1,(f2 b hb).2.2.2.2.2⟩,hD⟩
def xl(ms:List Bool) (k:Nat) (wi:TI) (g:TG) (tc:TT) (B:BK):TE:=fun σ H Q=>wi σ H fun J H1=>∃(W:Nat->Nat->List V->St->Hp->Prop) (Z:List V->St->Hp->Prop),(∃m,W 0 m [] (gm ms k σ) H1)/\m5 J g tc B W Z /\
 ∀ys σ' H p,Z ys σ' H->H p=none->Q (.ref p) (upd H p (.lst ys))
abbrev tLc(ms:List Bool) (k:Nat) (wi:TI) (g:TG) (tc:TT) (te:TE):TE:=xl ms k wi g tc (nU te)
abbrev LvC(X:Cx) (scope:L5) (cl:List (Str×B0)) (ao:List Str) (ce:B5) (p:Pos) (tg:B5) (ifs:List B5) (B:BK):Prop:=∀C s H ex D,lg (aP X scope cl (X.N++ao) C s H ex) D->Lv (aP X scope cl (X.N++ao) C s H ex) D ce 0 p tg ifs B
theorem xM(S:fh X scope cl ms ao) (g6:X.calm=true) {wi:TI}(hi:PI X tg iter wi)
  (hg:∀C s H ex,PG (aP X scope cl (X.N++ao) C s H ex) tg g) (hif:∀C s H ex,PIf (aP X scope cl (X.N++ao) C s H ex) ifs tc) (hL:LvC X scope cl ao (lcE elt (⟨tg,iter,ifs,0⟩::gs) scope pos) p tg ifs B)
  (hs:∀x,J3 iter X.env x=P0 x:=by intro _;rfl):PE X (lcE elt (⟨tg,iter,ifs,0⟩::gs) scope pos) (xl ms ao.length wi g tc B):=by
 intro aa s σ H Q I h;rw[eval_ListComp];refine wpAny_comprehension_free (use:=none) rfl hs S.clos S.kind S.names (thn (hi aa s σ H _ I h) fun v s1 h1=>thn h1 fun itv s2 h2=>?_);obtain⟨it,fp,tn,J,H2,e,I2,T,st2,f2,W,Z,⟨m0,w0⟩,turn,q⟩:=h2;subst e;refine lK S g6 hg hif hL I2 T st2 f2 w0 turn (RR:=fun acc C=>compPost (C8 X.prog X.w) X.A X.xe none (EP X aa σ Q) acc C) ?_;intro s' ys its n σ' H' I' rv hz hZ;obtain⟨m,hm,_⟩:=I'.loc;refine⟨m,hm,fun h' hs'=>?_⟩;obtain⟨I3,hD⟩:=lH I2 f2 I' rv hz hs';exact⟨.ref s2.heap.objs.size,_,I3,rfl,q ys _ H' _ hZ hD⟩
theorem qS{i:Nat}{x:Str}{spos pos':Pos}(hN:X.N.Nodup) (hix:X.N[i]?=some x) (hx:X.env.scope.names.lookup x=some .local)
  (hsw:P8 (lcE elt (⟨tg,iter,ifs,0⟩::gs) scope pos) (some (.Name x pos')) spos.line X.env=P0 true)
  (S:fh X scope cl ms ao) (g6:X.calm=true) {wi:TI} (hi:PI X tg iter wi)
  (hg:∀C s H ex,PG (aP X scope cl (X.N++ao) C s H ex) tg g) (hif:∀C s H ex,PIf (aP X scope cl (X.N++ao) C s H ex) ifs tc) (hL:LvC X scope cl ao (lcE elt (⟨tg,iter,ifs,0⟩::gs) scope pos) p tg ifs B)
  (hs:∀x,J3 iter X.env x=P0 x:=by intro _;rfl):PS X (.Assign [.Name x pos'] (lcE elt (⟨tg,iter,ifs,0⟩::gs) scope pos) spos) (xJ (xl ms ao.length wi g tc B) (nN i)):=by
 intro aa s σ H D I h;rw[exec_Assign_Name_used _ _ _ _ hsw];refine A4 (wpAny_standAt (A4 ?_));show B9 _ _ (do let _ <-comprehension (lcE elt (⟨tg,iter,ifs,0⟩::gs) scope pos) scope X.env _ (newList []) false (N0 iter X.env) (some (O9 (.Name x pos') X.env))) _ _ s;refine A4 (F5 (wpAny_comprehension_free (use:=some (O9 (.Name x pos') X.env)) (Q:=fun _ s'=>SP X aa D .next s') rfl hs S.clos S.kind S.names
  (thn (hi aa s σ H _ I h) fun v s1 h1=>thn h1 fun itv s2 h2=>?_)) (fun _ s' hq=>B2 (B2 hq)) fun _ _ e=>e)
 obtain⟨it,fp,tn,J,H2,e,I2,T,st2,f2,W,Z,⟨m0,w0⟩,turn,q⟩:=h2;subst e;refine lK S g6 hg hif hL I2 T st2 f2 w0 turn (RR:=fun acc C=>compPost (C8 X.prog X.w) X.A X.xe (some (O9 (.Name x pos') X.env)) (fun _ s'=>SP X aa D .next s') acc C) ?_;intro s' ys its n σ' H' I' rv hz hZ;obtain⟨m,hm,_⟩:=I'.loc;obtain⟨I3,hD⟩:=lH I2 f2 I' rv hz (L4.refl (s2.heap.objs.size+1) s'.heap);have hq:=q ys _ H' _ hZ hD;show B9 _ _ (O9 (.Name x pos') X.env (.ref s2.heap.objs.size)) _ _ _;refine wpAny_assign_Name (lX I3 hN hix (.inl hx) (v:=.ref s2.heap.objs.size) rfl (fun s4 I4 hsame=>?_) (.inr hx));obtain⟨a,hsb,ha⟩:=hsame;have hLC:s2.heap.objs.size+1≠X.env.locals:=P9 (F1 I2.lt);have haC:s2.heap.objs.size+1≠a:=by
  rcases ha with rfl|ha
  ·exact hLC
  ·intro z;obtain⟨v,o,ho,_⟩:=I2.cell x a ha;exact absurd (F1 (A9 ho)) (by rw[<-z];exact J5 _)
 have hCn:upd H' s2.heap.objs.size (.lst ys) (s2.heap.objs.size+1)=none:=by rw[aM (P9 (N8 _))];exact I'.free
 refine⟨m,hm.sameBut hsb haC,fun h' hs'=>?_⟩;refine⟨_,_,?_,hq⟩;have hL:∀b o,b≠s2.heap.objs.size+1->s4.heap.get? b=some o->h'.get? b=some o:=fun b o hb e=>(hs'.2 b hb).trans e;have I5:=Inv.turned (t':=s4.toks) (h':=h') (it:=s2.heap.objs.size+1) I4 (fun b o hb e=>hL b o hb e) hCn hLC (.inr (Nat.le_succ_of_le I2.sz)) (fun y c e=>by
  obtain⟨v,o,ho,_⟩:=I2.cell y c e;exact B8 (F1 (A9 ho))) (fun p hp=>by
  exact B8 (F1 (A9 (I2.pin p hp).1)))
 exact I5
theorem se(he:∀C s H ex,PE (aP X scope cl (X.N++ao) C s H ex) elt te):LvC X scope cl ao (lcE elt [⟨tg,iter,ifs,0⟩] scope pos) iter.pos tg ifs (nU te):=fun _ _ _ _ _ c=>uZ c (he _ _ _ _) fun _ _ _=>rfl
end
inductive Bx where
 |dk (ks:List Key)|dt (ks:List (List Key))|ins (C:B0) (fs:List Str)|key
 deriving Inhabited
inductive D where
 |non|bl (b:Bool)|int (i:Int)|str (x:Str)|tup (ds:List D)|lst (ds:List D)|scr (ds:List D)|emp|ref (a:B0)|box (t:Bx) (ds:List D)
 deriving Inhabited
inductive HD where
 |lst (ds:List D)|dK (kvs:List (Key×D))|dT (kvs:List (List Key×D))|dKr (o:Obj) (ks:List (Key×V)) (kvs:List (Key×D))|ins (C:B0) (fs:List (Str×D))
 |ext (φ:List V->C7->Prop) (ds:List D)
 deriving Inhabited
abbrev DH:=B0->Option HD
def ar(M:DH) (a:B0) (o:HD):DH:=fun b=>if b=a then some o else M b
def jo(M:DH) (a:B0):DH:=fun b=>if b=a then none else M b
abbrev noM:DH:=fun _=>none
theorem aq{M:DH}{a:B0}{o:HD}:ar M a o a=some o:=if_pos rfl
theorem aw{M:DH}{a b:B0}{o:HD}(h:b≠a):ar M a o b=M b:=if_neg h
theorem aZ{M:DH}{a:B0}{o u:HD}:ar (ar M a o) a u=ar M a u:=by
 funext b;unfold ar;split<;>rfl
theorem fU{M:DH}{a:B0}:jo M a a=none:=if_pos rfl
theorem mC{M:DH}{a b:B0}(h:b≠a):jo M a b=M b:=if_neg h
theorem sN{M:DH}{a:B0}{o:HD}(h:M a=none):jo (ar M a o) a=M:=by
 funext b;unfold jo ar;split
 ·rename_i e;rw[e,h]
 ·rfl
theorem ly{M:DH}{a:B0}{o:HD}(h:M a=some o):ar M a o=M:=by
 funext b;unfold ar;split
 ·rename_i e;rw[e,h]
 ·rfl
def lr(K:o0) (M:DH) (H:Hp) (a:B0) (vs:List V):Prop:=(Rd H a (.tup vs)/\M a=none)∨SqT K (fun _=>none) a vs
def ql(M:DH) (H:Hp) (a:B0) (vs:List V):Prop:=H a=some (.lst vs)/\M a=none
def lC(K:o0) (M:DH) (H:Hp) (a:B0) (vs:List V):Prop:=((∃o,H a=some (.frz o (.lst vs)))/\M a=none)∨SqL K (fun _=>none) a vs
def zp(M:DH) (H:Hp) (a:B0):Prop:=H a=some (.dK [])/\M a=none
def qz(M:DH) (H:Hp) (a:B0):Bx->List V->Prop
 |.dk ks,vs=>ks.length=vs.length/\(∃o,H a=some (.frz o (.dK (ks.zip vs))))/\M a=none
 |.dt ks,vs=>ks.length=vs.length/\(∃o,H a=some (.frz o (.dT (ks.zip vs))))/\M a=none
 |.ins C fs,vs=>fs.length=vs.length/\(∃dx,H a=some (.ins C dx (fs.zip vs)))/\M a=none
 |.key,vs=>True/\(∃_u:Unit,H a=some (.tup vs))/\M a=none
mutual
def Rep(K:o0) (M:DH) (H:Hp):D->V->Prop
 |.non,v=>v=.non
 |.bl b,v=>v=.bl b
 |.int i,v=>v=.int i
 |.str x,v=>v=.str x
 |.tup ds,v=>∃a vs,v=.ref a/\lr K M H a vs/\aj K M H ds vs
 |.lst ds,v=>∃a vs,v=.ref a/\ql M H a vs/\aj K M H ds vs
 |.scr ds,v=>∃a vs,v=.ref a/\lC K M H a vs/\aj K M H ds vs
 |.emp,v=>∃a,v=.ref a/\zp M H a
 |.ref a,v=>v=.ref a
 |.box t ds,v=>∃a vs,v=.ref a/\qz M H a t vs/\aj K M H ds vs
def aj(K:o0) (M:DH) (H:Hp):List D->List V->Prop
 |[],vs=>vs=[]
 |d::ds,vs=>∃v ws,vs=v::ws/\Rep K M H d v/\aj K M H ds ws
end
def Ext(M:DH) (H:Hp) (M':DH) (H':Hp):Prop:=∀a o,H a=some o->M a=none->H' a=some o/\M' a=none
theorem Ext.refl(M:DH) (H:Hp):Ext M H M H:=fun _ _ h n=>⟨h,n⟩
theorem Ext.trans{M M1 M2:DH}{H H1 H2:Hp}(a:Ext M H M1 H1) (b:Ext M1 H1 M2 H2):Ext M H M2 H2:=fun c o h n=>b c o (a c o h n).1 (a c o h n).2
variable{K:o0}{M M' M1 M2:DH}{H H' H1 H2:Hp}
theorem lr.ext{a:B0}{vs:List V}(h:lr K M H a vs) (e:Ext M H M' H'):lr K M' H' a vs:=by
 rcases h with⟨r|⟨o,r⟩,n⟩|h
 ·exact .inl ⟨.inl (e a _ r n).1,(e a _ r n).2⟩
 ·exact .inl ⟨.inr ⟨o,(e a _ r n).1⟩,(e a _ r n).2⟩
 ·exact .inr h
theorem ql.ext{a:B0}{vs:List V}(h:ql M H a vs) (e:Ext M H M' H'):ql M' H' a vs:=e a _ h.1 h.2
theorem lC.ext{a:B0}{vs:List V}(h:lC K M H a vs) (e:Ext M H M' H'):lC K M' H' a vs:=by
 rcases h with⟨⟨o,r⟩,n⟩|h
 ·exact .inl ⟨⟨o,(e a _ r n).1⟩,(e a _ r n).2⟩
 ·exact .inr h
theorem qz.ext{a:B0}{t:Bx}{vs:List V}(h:qz M H a t vs) (e:Ext M H M' H'):qz M' H' a t vs:=by
 cases t<;>(obtain⟨l,⟨o,r⟩,n⟩:=h;exact⟨l,⟨o,(e a _ r n).1⟩,(e a _ r n).2⟩)
mutual
theorem Rep.ext:∀{d:D}{v:V},Rep K M H d v->Ext M H M' H'->Rep K M' H' d v
 |.non,_,h,_=>h
 |.bl _,_,h,_=>h
 |.int _,_,h,_=>h
 |.str _,_,h,_=>h
 |.ref _,_,h,_=>h
 |.emp,_,h,e=>by
  simp only[Rep]at h ⊢;obtain⟨a,rfl,h1,h2⟩:=h;exact⟨a,rfl,e a _ h1 h2⟩
 |.tup ds,_,h,e=>by
  simp only[Rep]at h ⊢;obtain⟨a,vs,rfl,h1,h2⟩:=h;exact⟨a,vs,rfl,h1.ext e,aj.ext h2 e⟩
 |.lst ds,_,h,e=>by
  simp only[Rep]at h ⊢;obtain⟨a,vs,rfl,h1,h2⟩:=h;exact⟨a,vs,rfl,h1.ext e,aj.ext h2 e⟩
 |.scr ds,_,h,e=>by
  simp only[Rep]at h ⊢;obtain⟨a,vs,rfl,h1,h2⟩:=h;exact⟨a,vs,rfl,h1.ext e,aj.ext h2 e⟩
 |.box t ds,_,h,e=>by
  simp only[Rep]at h ⊢;obtain⟨a,vs,rfl,h1,h2⟩:=h;exact⟨a,vs,rfl,h1.ext e,aj.ext h2 e⟩
theorem aj.ext:∀{ds:List D}{vs:List V},aj K M H ds vs->Ext M H M' H'->aj K M' H' ds vs
 |[],_,h,_=>h
 |d::ds,_,h,e=>by
  simp only[aj]at h ⊢;obtain⟨v,ws,rfl,h1,h2⟩:=h;exact⟨v,ws,rfl,Rep.ext h1 e,aj.ext h2 e⟩
end
theorem aj.length:∀{ds:List D}{vs:List V},aj K M H ds vs->ds.length=vs.length
 |[],_,h=>by simp only[aj]at h;subst h;rfl
 |d::ds,_,h=>by
  simp only[aj]at h;obtain⟨v,ws,rfl,h1,h2⟩:=h;simp[aj.length h2]
theorem aj.nil:aj K M H [] []:=by simp[aj]
theorem aj.cons{d:D}{v:V}{ds:List D}{vs:List V}(h:Rep K M H d v) (t:aj K M H ds vs):aj K M H (d::ds) (v::vs):=by
 simp only[aj];exact⟨v,vs,rfl,h,t⟩
theorem aj.append:∀{ds es:List D}{vs ws:List V},aj K M H ds vs->aj K M H es ws->aj K M H (ds++es) (vs++ws)
 |[],_,_,_,h,t=>by simp only[aj]at h;subst h;exact t
 |d::ds,es,_,ws,h,t=>by
  simp only[aj]at h;obtain⟨v,us,rfl,h1,h2⟩:=h;exact aj.cons h1 (aj.append h2 t)
theorem aj.get:∀{ds:List D}{vs:List V}{i:Nat}{d:D},aj K M H ds vs->ds[i]?=some d->∃v,vs[i]?=some v/\Rep K M H d v
 |[],_,_,_,_,e=>by simp at e
 |d::ds,_,0,x,h,e=>by
  simp only[aj]at h;obtain⟨v,us,rfl,h1,h2⟩:=h;simp at e;subst e;exact⟨v,rfl,h1⟩
 |d::ds,_,i+1,x,h,e=>by
  simp only[aj]at h;obtain⟨v,us,rfl,h1,h2⟩:=h;obtain⟨w,a,b⟩:=aj.get (i:=i) (d:=x) h2 (by simpa using e);exact⟨w,by simpa using a,b⟩
theorem aj.take:∀{ds:List D}{vs:List V}(n:Nat),aj K M H ds vs->aj K M H (ds.take n) (vs.take n)
 |ds,vs,0,_=>by simp[aj]
 |[],_,n+1,h=>by simp only[aj]at h;subst h;simp[aj]
 |d::ds,_,n+1,h=>by
  simp only[aj]at h;obtain⟨v,us,rfl,h1,h2⟩:=h;exact aj.cons h1 (aj.take n h2)
theorem aj.drop:∀{ds:List D}{vs:List V}(n:Nat),aj K M H ds vs->aj K M H (ds.drop n) (vs.drop n)
 |ds,vs,0,h=>h
 |[],_,n+1,h=>by simp only[aj]at h;subst h;simp[aj]
 |d::ds,_,n+1,h=>by
  simp only[aj]at h;obtain⟨v,us,rfl,h1,h2⟩:=h;exact aj.drop n h2
theorem aj.set:∀{ds:List D}{vs:List V}{d:D}{v:V}(n:Nat),aj K M H ds vs->Rep K M H d v->aj K M H (ds.set n d) (vs.set n v)
 |[],_,_,_,n,h,r=>by simp only[aj]at h;subst h;simp[aj]
 |d::ds,_,_,_,0,h,r=>by
  simp only[aj]at h;obtain⟨v,us,rfl,h1,h2⟩:=h;exact aj.cons r h2
 |d::ds,_,_,_,n+1,h,r=>by
  simp only[aj]at h;obtain⟨v,us,rfl,h1,h2⟩:=h;exact aj.cons h1 (aj.set n h2 r)
theorem aj.one{d:D}{vs:List V}(h:aj K M H [d] vs):∃v,vs=[v]/\Rep K M H d v:=by
 simp only[aj]at h;obtain⟨v,us,rfl,h1,rfl⟩:=h;exact⟨v,rfl,h1⟩
def KR(K:o0) (M:DH) (H:Hp) {κ:Type}:List (κ×D)->List (κ×V)->Prop:=K6 fun p q=>p.1=q.1/\Rep K M H p.2 q.2
theorem KR.ext{κ:Type}{kvs:List (κ×D)}{ks:List (κ×V)}(h:KR K M H kvs ks) (e:Ext M H M' H'):KR K M' H' kvs ks:=K6.imp' (fun _ _ r=>⟨r.1,r.2.ext e⟩) h
def j9(K:o0) (M:DH) (H:Hp) (a:B0):HD->Prop
 |.lst ds=>∃vs,H a=some (.lst vs)/\aj K M H ds vs
 |.dK kvs=>∃ks,H a=some (.dK ks)/\KR K M H kvs ks
 |.dT kvs=>∃ks,H a=some (.dT ks)/\KR K M H kvs ks
 |.dKr o ks kvs=>∃_u:Unit,H a=some (.frz o (.dK ks))/\KR K M H kvs ks
 |.ins C fs=>∃gs,(∃dx,H a=some (.ins C dx gs))/\KR K M H fs gs
 |.ext φ ds=>∃vs,H a=some (.ext (φ vs))/\aj K M H ds vs
def HR(K:o0) (M:DH) (H:Hp):Prop:=∀a o,M a=some o->j9 K M H a o
theorem j9.some{a:B0}{o:HD}(h:j9 K M H a o):∃u,H a=D8 u/\∀xs,u≠.tup xs/\∀ob,u≠.frz ob (.tup xs):=by
 cases o with
 |ins C fs=>obtain⟨gs,⟨dx,r⟩,_⟩:=h;exact⟨_,r,fun xs=>⟨(by intro z;cases z),(by intro ob z;cases z)⟩⟩
 |_=>obtain⟨vs,r,_⟩:=h;exact⟨_,r,fun xs=>⟨(by intro z;cases z),(by intro ob z;cases z)⟩⟩
theorem j9.keep{a:B0}{o:HD}(h:j9 K M H a o) (e:Ext M H M' H') (q:H' a=H a):j9 K M' H' a o:=by
 cases o with
 |ins C fs=>obtain⟨gs,⟨dx,r⟩,t⟩:=h;exact⟨gs,⟨dx,by rw[q];exact r⟩,t.ext e⟩
 |_=>obtain⟨vs,r,t⟩:=h;exact⟨vs,by rw[q];exact r,t.ext e⟩
theorem HR.fresh(h:HR K M H) {p:B0}(e:H p=none):M p=none:=by
 cases q:M p with
 |none=>rfl
 |some o =>
  obtain⟨u,r,_⟩:=(h p _ q).some;rw[e]at r;cases r
theorem HR.nil:HR K noM H:=fun _ _ h=>nomatch h
theorem Ext.new{p:B0}{o:HO}(hr:HR K M H) (h:H p=none):Ext M H M (upd H p o):=fun a u e n=>by
 have:a≠p:=bW e h;rw[aM this];exact⟨e,n⟩
theorem HR.ext1(h:HR K M H) (e:Ext M H M H') (keep:∀a o,M a=some o->H' a=H a):HR K M H':=fun a o q=>(h a o q).keep e (keep a o q)
theorem HR.new{p:B0}{o:HO}(hr:HR K M H) (h:H p=none):HR K M (upd H p o):=hr.ext1 (Ext.new hr h) fun a u q=>by
 have:a≠p:=fun z=>by rw[z,hr.fresh h]at q;cases q
 rw[aM this]
theorem Ext.own{p:B0}{o:HO}{u:HD}(h:H p=none):Ext M H (ar M p u) (upd H p o):=fun a x e n=>by
 have:a≠p:=bW e h;rw[aM this,aw this];exact⟨e,n⟩
theorem HR.put{p:B0}{o:HO}{u:HD}(hr:HR K M H) (e:Ext M H (ar M p u) (upd H p o)) (c:j9 K (ar M p u) (upd H p o) p u):HR K (ar M p u) (upd H p o):=fun a w q=>by
 by_cases z:a=p
 ·subst z;rw[aq]at q;cases q;exact c
 ·rw[aw z]at q;exact(hr a w q).keep e (aM z)
theorem HR.own{p:B0}{ds:List D}{vs:List V}(hr:HR K M H) (h:H p=none) (r:aj K M H ds vs):HR K (ar M p (.lst ds)) (upd H p (.lst vs)) :=
 hr.put (Ext.own h) ⟨vs,bK,r.ext (Ext.own h)⟩
theorem Ext.write{a:B0}{o:HO}{u w:HD}(h:M a=some w):Ext M H (ar M a u) (upd H a o):=fun b x e n=>by
 have:b≠a:=fun z=>by rw[z,h]at n;cases n
 rw[aM this,aw this];exact⟨e,n⟩
theorem HR.write{a:B0}{w:HD}{ds:List D}{vs:List V}(hr:HR K M H) (h:M a=some w) (r:aj K M H ds vs):HR K (ar M a (.lst ds)) (upd H a (.lst vs)) :=
 hr.put (Ext.write h) ⟨vs,bK,r.ext (Ext.write h)⟩
def LeM(M1 M:DH):Prop:=∀a o,M1 a=some o->M a=some o
theorem LeM.none(h:LeM M1 M) {a:B0}(n:M a=none):M1 a=none:=by
 cases q:M1 a with
 |none=>rfl
 |some o=>rw[h a o q]at n;cases n
theorem LeM.del{a:B0}:LeM (jo M a) M:=fun b o h=>by
 unfold jo at h;split at h
 ·cases h
 ·exact h
theorem Ext.le(h:LeM M1 M):Ext M H M1 H:=fun a o e n=>⟨e,h.none n⟩
theorem HR.le(hr:HR K M H) (h:LeM M1 M):HR K M1 H:=fun a o q=>(hr a o (h a o q)).keep (Ext.le h) rfl
theorem Rep.froze(hr:HR K M H) (h:LeM M1 M) {a:B0}{ds:List D}(e:M a=some (.lst ds)) (n:M1 a=none):Rep K M1 H (.lst ds) (.ref a):=by
 obtain⟨vs,r,t⟩:=hr a _ e;simp only[Rep];exact⟨a,vs,rfl,⟨r,n⟩,t.ext (Ext.le h)⟩
def gb(M M1 M2:DH):DH:=fun a=>match M2 a with|some o=>some o|none=>if M1 a=none then M a else none
theorem Ext.back(h:LeM M1 M) (e:Ext M1 H M2 H2):Ext M H (gb M M1 M2) H2:=fun a o q n=>by
 obtain⟨h1,h2⟩:=e a o q (h.none n);refine⟨h1,?_⟩;unfold gb;rw[h2];simp[h.none n,n]
mutual
def noL:D->Bool
 |.tup ds=>gn ds
 |.lst _=>false
 |.scr _=>false
 |.emp=>false
 |.box _ _=>false
 |_=>true
def gn:List D->Bool
 |[]=>true
 |d::ds=>noL d&&gn ds
end
mutual
theorem Rep.hard:∀{d:D}{v:V},noL d=true->Rep K M H d v->(∀a xs,Rd H a (.tup xs)->M' a=none)->Rep K M' H d v
 |.non,_,_,h,_=>h
 |.bl _,_,_,h,_=>h
 |.int _,_,_,h,_=>h
 |.str _,_,_,h,_=>h
 |.ref _,_,_,h,_=>h
 |.emp,_,n,_,_=>by simp[noL]at n
 |.box _ _,_,n,_,_=>by simp[noL]at n
 |.lst _,_,n,_,_=>by simp[noL]at n
 |.scr _,_,n,_,_=>by simp[noL]at n
 |.tup ds,_,n,h,e=>by
  simp only[Rep]at h ⊢;obtain⟨a,vs,rfl,h1,h2⟩:=h;refine⟨a,vs,rfl,?_,aj.hard (by simpa[noL]using n) h2 e⟩;rcases h1 with⟨r,_⟩|r
  ·exact .inl ⟨r,e a vs r⟩
  ·exact .inr r
theorem aj.hard:∀{ds:List D}{vs:List V},gn ds=true->aj K M H ds vs->(∀a xs,Rd H a (.tup xs)->M' a=none)->aj K M' H ds vs
 |[],_,_,h,_=>h
 |d::ds,_,n,h,e=>by
  simp only[aj]at h ⊢;obtain⟨v,ws,rfl,h1,h2⟩:=h;simp only[gn,C1]at n;exact⟨v,ws,rfl,Rep.hard n.1 h1 e,aj.hard n.2 h2 e⟩
end
theorem bV(hr:HR K M H) (h:LeM M1 M) (e:Ext M1 H M2 H2) (h2:HR K M2 H2):∀a xs,Rd H2 a (.tup xs)->gb M M1 M2 a=none:=by
 intro a xs r;unfold gb;cases q:M2 a with
 |some o =>
  obtain⟨u,z,n⟩:=(h2 a _ q).some;rcases r with r|⟨o,r⟩
  ·rw[z]at r;exact absurd (C0 r) (n xs).1
  ·rw[z]at r;exact absurd (C0 r) ((n xs).2 o)
 |none =>
  by_cases n:M1 a=none
  ·simp only[n,if_true];cases q2:M a with
   |none=>rfl
   |some o =>
    obtain⟨u,z,m⟩:=(hr a _ q2).some;have z2:=(e a _ z n).1;rcases r with r|⟨o,r⟩
    ·rw[z2]at r;exact absurd (C0 r) (m xs).1
    ·rw[z2]at r;exact absurd (C0 r) ((m xs).2 o)
  ·simp[n]
def noC:HD->Bool
 |.lst ds=>gn ds
 |.dK kvs=>gn (kvs.map (·.2))
 |.dT kvs=>gn (kvs.map (·.2))
 |.dKr _ _ kvs=>gn (kvs.map (·.2))
 |.ins _ fs=>gn (fs.map (·.2))
 |.ext _ ds=>gn ds
theorem KR.hard{κ:Type}{kvs:List (κ×D)}{ks:List (κ×V)}(h:KR K M H kvs ks) (n:gn (kvs.map (·.2))=true) (e:∀a xs,Rd H a (.tup xs)->M' a=none):KR K M' H kvs ks:=by
 unfold KR at h ⊢
 induction h with
 |nil=>exact .nil
 |cons r _ ih =>
  simp only[E6,gn,C1]at n;exact .cons ⟨r.1,Rep.hard n.1 r.2 e⟩ (ih n.2)
theorem HR.back(hr:HR K M H) (h:LeM M1 M) (e:Ext M1 H M2 H2) (h2:HR K M2 H2) (hd:∀a o,M2 a=some o->noC o=true):HR K (gb M M1 M2) H2:=by
 have eb:Ext M H (gb M M1 M2) H2:=Ext.back h e;intro a o q;unfold gb at q;cases q2:M2 a with
 |some o2 =>
  rw[q2]at q;cases q;have c:=h2 a _ q2;have n:=hd a _ q2;cases o with
  |lst ds=>obtain⟨vs,z,t⟩:=c;exact⟨vs,z,aj.hard n t (bV hr h e h2)⟩
  |ext φ ds=>obtain⟨vs,z,t⟩:=c;exact⟨vs,z,aj.hard n t (bV hr h e h2)⟩
  |dK kvs=>obtain⟨vs,z,t⟩:=c;exact⟨vs,z,KR.hard t n (bV hr h e h2)⟩
  |dT kvs=>obtain⟨vs,z,t⟩:=c;exact⟨vs,z,KR.hard t n (bV hr h e h2)⟩
  |ins C fs=>obtain⟨vs,z,t⟩:=c;exact⟨vs,z,KR.hard t n (bV hr h e h2)⟩
  |dKr o ks kvs=>obtain⟨vs,z,t⟩:=c;exact⟨vs,z,KR.hard t n (bV hr h e h2)⟩
 |none =>
  rw[q2]at q
  by_cases n:M1 a=none
  ·simp only[n,if_true]at q;have c:=hr a _ q;obtain⟨u,z,_⟩:=c.some;exact c.keep eb (by rw[z];exact(e a _ z n).1)
  ·simp[n]at q
abbrev DE:=List (Option D)
def SR(K:o0) (M:DH) (H:Hp) (σ:St) (Δ:DE):Prop:=σ.length=Δ.length/\∀(i:Nat) (d:D),Δ[i]?=some (some d)->∃v,σ[i]?=some (some v)/\Rep K M H d v
theorem SR.ext{σ:St}{Δ:DE}(h:SR K M H σ Δ) (e:Ext M H M' H'):SR K M' H' σ Δ:=⟨h.1,fun i d q=>let⟨v,a,r⟩:=h.2 i d q;⟨v,a,r.ext e⟩⟩
theorem SR.set{σ:St}{Δ:DE}{d:D}{v:V}(h:SR K M H σ Δ) (i:Nat) (r:Rep K M H d v):SR K M H (σ.set i (some v)) (Δ.set i (some d)):=by
 refine⟨by simp[h.1],fun j e q=>?_⟩
 by_cases hj:j=i
 ·subst hj
  by_cases hl:j<Δ.length
  ·rw[K5 hl]at q;cases q;exact⟨v,K5 (by rw[h.1];exact hl),r⟩
  ·rw[List.getElem?_eq_none (by simp;lia)]at q;cases q
 ·rw[List.getElem?_set_ne (P7 hj)]at q ⊢;exact h.2 j e q
abbrev TEd:=DE->DH->(D->DH->Prop)->Prop
abbrev TAd:=DE->DH->(List D->DH->Prop)->Prop
abbrev TTd:=DE->DH->(Bool->DH->Prop)->Prop
structure gh where
 nx:DE->DH->Prop
 rt:D->DH->Prop
 bk:DE->DH->Prop:=fun _ _=>False
 ct:DE->DH->Prop:=fun _ _=>False
abbrev TSd:=gh->DE->DH->Prop
def up(K:o0) (t:TEd):TE:=fun σ H Q=>∃(Δ:DE) (M:DH) (R:D->DH->Prop),SR K M H σ Δ/\HR K M H/\t Δ M R /\
 ∀d M' v H',R d M'->Ext M H M' H'->HR K M' H'->Rep K M' H' d v->Q v H'
def upA(K:o0) (t:TAd):TA:=fun σ H Q=>∃(Δ:DE) (M:DH) (R:List D->DH->Prop),SR K M H σ Δ/\HR K M H/\t Δ M R /\
 ∀ds M' vs H',R ds M'->Ext M H M' H'->HR K M' H'->aj K M' H' ds vs->Q vs H'
def upT(K:o0) (t:TTd):TT:=fun σ H Q=>∃(Δ:DE) (M:DH) (R:Bool->DH->Prop),SR K M H σ Δ/\HR K M H/\t Δ M R /\
 ∀b M' H',R b M'->Ext M H M' H'->HR K M' H'->Q b H'
theorem upT.el{K:o0}{t:TTd}{σ:St}{H:Hp}{Q:Bool->Hp->Prop}{P:Prop}(h:upT K t σ H Q) (f:∀(Δ:DE) (M:DH) (R:Bool->DH->Prop),SR K M H σ Δ->HR K M H->t Δ M R->(∀b M' H',R b M'->Ext M H M' H'->HR K M' H'->Q b H')->P):P:=by
 obtain⟨x1,x2,x3,a,b,c,d⟩:=h;exact f x1 x2 x3 a b c d
theorem up.el{K:o0}{t:TEd}{σ:St}{H:Hp}{Q:VK}{P:Prop}(h:up K t σ H Q) (f:∀(Δ:DE) (M:DH) (R:D->DH->Prop),SR K M H σ Δ->HR K M H->t Δ M R->(∀d M' v H',R d M'->Ext M H M' H'->HR K M' H'->Rep K M' H' d v->Q v H')->P):P:=by
 obtain⟨x1,x2,x3,a,b,c,d⟩:=h;exact f x1 x2 x3 a b c d
theorem upA.el{K:o0}{t:TAd}{σ:St}{H:Hp}{Q:List V->Hp->Prop}{P:Prop}(h:upA K t σ H Q) (f:∀(Δ:DE) (M:DH) (R:List D->DH->Prop),SR K M H σ Δ->HR K M H->t Δ M R->(∀ds M' vs H',R ds M'->Ext M H M' H'->HR K M' H'->aj K M' H' ds vs->Q vs H')->P):P:=by
 obtain⟨x1,x2,x3,a,b,c,d⟩:=h;exact f x1 x2 x3 a b c d
structure UpE(K:o0) (E:gh) (D:oi) (M:DH) (H:Hp):Prop where
 nx:∀ Δ' M' σ' H',E.nx Δ' M'->Ext M H M' H'->HR K M' H'->SR K M' H' σ' Δ'->D.nx σ' H'
 bk:∀ Δ' M' σ' H',E.bk Δ' M'->Ext M H M' H'->HR K M' H'->SR K M' H' σ' Δ'->D.bk σ' H'
 ct:∀ Δ' M' σ' H',E.ct Δ' M'->Ext M H M' H'->HR K M' H'->SR K M' H' σ' Δ'->D.ct σ' H'
 rt:∀d M' v H',E.rt d M'->Ext M H M' H'->HR K M' H'->Rep K M' H' d v->D.rt v H'
theorem UpE.ext{E:gh}{D:oi}(u:UpE K E D M H) (e:Ext M H M' H'):UpE K E D M' H' :=
 ⟨fun a b c d h x=>u.nx a b c d h (e.trans x),fun a b c d h x=>u.bk a b c d h (e.trans x),fun a b c d h x=>u.ct a b c d h (e.trans x),fun a b c d h x=>u.rt a b c d h (e.trans x)⟩
def upS(K:o0) (t:TSd):TS:=fun D σ H=>∃(Δ:DE) (M:DH) (E:gh),SR K M H σ Δ/\HR K M H/\t E Δ M/\UpE K E D M H
theorem upS.el{K:o0}{t:TSd}{E:oi}{σ:St}{H:Hp}{P:Prop}(h:upS K t E σ H) (f:∀(Δ:DE) (M:DH) (R:gh),SR K M H σ Δ->HR K M H->t R Δ M->UpE K R E M H->P):P:=by
 obtain⟨x1,x2,x3,a,b,c,d⟩:=h;exact f x1 x2 x3 a b c d
def PEd(X:Cx) (e:B5) (t:TEd):Prop:=PE X e (up X.K t)
def PAd(X:Cx) (es:List B5) (t:TAd):Prop:=PA X es (upA X.K t)
def PTd(X:Cx) (e:B5) (t:TTd):Prop:=PT X e (upT X.K t)
def PWd(X:Cx) (e:B5) (t:TTd):Prop:=PW X e (upT X.K t)
def PSd(X:Cx) (st:Q6) (t:TSd):Prop:=PS X st (upS X.K t)
def ux(X:Cx) (st:List Q6) (t:TSd):Prop:=PSs X st (upS X.K t)
theorem PE.conv{X:Cx}{e:B5}{t t':TE}(h:PE X e t) (k:∀ σ H Q,t' σ H Q->t σ H Q):PE X e t':=fun p s σ H Q I q=>h p s σ H Q I (k σ H Q q)
theorem PT.conv{X:Cx}{e:B5}{t t':TT}(h:PT X e t) (k:∀ σ H Q,t' σ H Q->t σ H Q):PT X e t':=fun p s σ H Q I q=>h p s σ H Q I (k σ H Q q)
theorem PA.conv{X:Cx}{e:List B5}{t t':TA}(h:PA X e t) (k:∀ σ H Q,t' σ H Q->t σ H Q):PA X e t':=fun ps p s σ H Q I q=>h ps p s σ H Q I (k σ H Q q)
theorem PS.conv{X:Cx}{e:Q6}{t t':TS}(h:PS X e t) (k:∀D σ H,t' D σ H->t D σ H):PS X e t':=fun p s σ H D I q=>h p s σ H D I (k D σ H q)
theorem PSs.conv{X:Cx}{e:List Q6}{t t':TS}(h:PSs X e t) (k:∀D σ H,t' D σ H->t D σ H):PSs X e t':=fun p s σ H D I q=>h p s σ H D I (k D σ H q)
section
variable{X:Cx}{a b c:B5}{es:List B5}{ta tb:TEd}{pos:Pos}
def js(i:Nat):TEd:=fun Δ M Q=>∃d,Δ[i]?=some (some d)/\Q d M
def dC(d:D):TEd:=fun _ M Q=>Q d M
theorem uy{x:Str}{i:Int}{t:Tok}{pos:Pos}(hg:Gl X x) (hm:X.mg x=some (.int i t)) (hd:(x==("__debug__":Str))=false:=by decide):PEd X (.Name x pos) (dC (.int i)) :=
 (pU (v:=.int i) hg hm ⟨t,rfl⟩ hd).conv fun σ H Q hup=>hup.el fun Δ M R sr hr q k=>k _ M _ H q (Ext.refl _ _) hr (by simp[Rep])
theorem uI{x y:Str}{t:Tok}{pos:Pos}(hg:Gl X x) (hm:X.mg x=some (.str y t)) (hd:(x==("__debug__":Str))=false:=by decide):PEd X (.Name x pos) (dC (.str y)) :=
 (pU (v:=.str y) hg hm ⟨t,rfl⟩ hd).conv fun σ H Q hup=>hup.el fun Δ M R sr hr q k=>k _ M _ H q (Ext.refl _ _) hr (by simp[Rep])
def oJ:TAd:=fun _ M Q=>Q [] M
def fG(ta:TEd) (tr:TAd):TAd:=fun Δ M Q=>ta Δ M fun x M1=>tr Δ M1 fun xs M2=>Q (x::xs) M2
def xC(t:TAd):TEd:=fun Δ M Q=>t Δ M fun ds M1=>ds.length<=A3/\Q (.tup ds) M1
def Ab(t:TAd):TEd:=fun Δ M Q=>t Δ M fun ds M1=>ds.length<=A3/\Q (.lst ds) M1
def wc(t:TAd):TEd:=fun Δ M Q=>t Δ M fun ds M1=>ds.length<=A3/\∀p,M1 p=none->Q (.ref p) (ar M1 p (.lst ds))
def rdM(M:DH):D->D
 |.ref a=>match M a with|some (.lst ds)=>.lst ds|_=>.ref a
 |d=>d
def aF(K:o0) (M:DH) (H:Hp) (d:D) (v:V):Prop:=match d with
 |.tup ds=>∃a vs,v=.ref a/\SqT K H a vs/\aj K M H ds vs
 |.lst ds=>∃a vs,v=.ref a/\H a=some (.lst vs)/\aj K M H ds vs
 |.scr ds=>∃a vs,v=.ref a/\SqL K H a vs/\aj K M H ds vs
 |d=>Rep K M H d v
theorem lr.sq{K:o0}{M:DH}{H:Hp}{a:B0}{vs:List V}(h:lr K M H a vs):SqT K H a vs:=by
 rcases h with⟨h,_⟩|h
 ·exact .inl h
 ·rcases h with(h|⟨_,h⟩)|h
  ·cases h
  ·cases h
  ·exact .inr h
theorem lC.sq{K:o0}{M:DH}{H:Hp}{a:B0}{vs:List V}(h:lC K M H a vs):SqL K H a vs:=by
 rcases h with⟨⟨o,h⟩,_⟩|h
 ·exact .inl (.inr ⟨o,h⟩)
 ·rcases h with(h|⟨_,h⟩)|h
  ·cases h
  ·cases h
  ·exact .inr h
theorem Rep.rd{K:o0}{M:DH}{H:Hp}{d:D}{v:V}(hr:HR K M H) (h:Rep K M H d v):aF K M H (rdM M d) v:=by
 cases d with
 |tup ds=>simp only[Rep]at h;obtain⟨a,vs,e,t,r⟩:=h;exact⟨a,vs,e,t.sq,r⟩
 |lst ds=>simp only[Rep]at h;obtain⟨a,vs,e,t,r⟩:=h;exact⟨a,vs,e,t.1,r⟩
 |scr ds=>simp only[Rep]at h;obtain⟨a,vs,e,t,r⟩:=h;exact⟨a,vs,e,t.sq,r⟩
 |ref a =>
  simp only[rdM];cases q:M a with
  |none=>exact h
  |some o =>
   cases o with
   |lst ds =>
    obtain⟨vs,e,r⟩:=hr a _ q;simp only[Rep]at h;exact⟨a,vs,h,e,r⟩
   |dK _=>exact h
   |dT _=>exact h
   |dKr _ _ _=>exact h
   |ins _ _=>exact h
   |ext _ _=>exact h
 |non=>exact h
 |bl b=>exact h
 |int i=>exact h
 |str x=>exact h
 |emp=>exact h
 |box _ _=>exact h
def bO(X:Cx) (f:s0->s0->Sem s0) (r:D->D->Option D):Prop :=
 ∀(aa:List (B0×Obj)) (s:u8) (σ:St) (H:Hp) (M:DH) (x y:V) (v u:s0) (dx dy dz:D) (Q:VK),Inv X aa σ H s->HR X.K M H->aG x v->aG y u->aF X.K M H dx x->aF X.K M H dy y->r dx dy=some dz ->
  (∀w H',Ext M H M H'->HR X.K M H'->Rep X.K M H' dz w->Q w H')->B9 (C8 X.prog X.w) X.A (f v u) (EP X aa σ Q) X.xe s
def zD(X:Cx) (f:s0->Sem s0) (r:D->Option D):Prop :=
 ∀(aa:List (B0×Obj)) (s:u8) (σ:St) (H:Hp) (M:DH) (x:V) (v:s0) (dx dz:D) (Q:VK),Inv X aa σ H s->HR X.K M H->aG x v->aF X.K M H dx x->r dx=some dz ->
  (∀w H',Ext M H M H'->HR X.K M H'->Rep X.K M H' dz w->Q w H')->B9 (C8 X.prog X.w) X.A (f v) (EP X aa σ Q) X.xe s
def cw(X:Cx) (f:s0) (r:List D->Option D):Prop :=
 ∀(aa:List (B0×Obj)) (s:u8) (σ:St) (H:Hp) (M:DH) (xs:List V) (us:List s0) (ds:List D) (dz:D) (Q:VK),Inv X aa σ H s->HR X.K M H->ay xs us->K6 (aF X.K M H) ds xs->r ds=some dz ->
  (∀w H',Ext M H M H'->HR X.K M H'->Rep X.K M H' dz w->Q w H')->B9 (C8 X.prog X.w) X.A (call f us) (EP X aa σ Q) X.xe s
def dOp(r:D->D->Option D) (ta tb:TEd):TEd:=fun Δ M Q=>ta Δ M fun x M1=>tb Δ M1 fun y M2=>∃z,r (rdM M2 x) (rdM M2 y)=some z/\Q z M2
def dUn(r:D->Option D) (ta:TEd):TEd:=fun Δ M Q=>ta Δ M fun x M1=>∃z,r (rdM M1 x)=some z/\Q z M1
def opV(K:o0) (r:D->D->Option D):R2:=fun x y H Q=>∃dx dy dz M,HR K M H/\aF K M H dx x/\aF K M H dy y/\r dx dy=some dz/\∀w H',Ext M H M H'->HR K M H'->Rep K M H' dz w->Q w H'
theorem bO.v{f:s0->s0->Sem s0}{r:D->D->Option D}(h:bO X f r):OpR X f (opV X.K r):=fun aa s σ H x y v u Q I rx ry ⟨dx,dy,dz,M,hr,r1,r2,e,k⟩=>h aa s σ H M x y v u dx dy dz Q I hr rx ry r1 r2 e k
theorem tV{K:o0}{r:D->D->Option D}{ta tb:TEd}:∀ σ H Q,up K (dOp r ta tb) σ H Q->tOp (opV K r) (up K ta) (up K tb) σ H Q:=fun σ H Q hup=>hup.el fun Δ M R sr hr q k =>
 ⟨Δ,M,_,sr,hr,q,fun x M1 v H1 q1 e1 hr1 rv=>⟨Δ,M1,_,sr.ext e1,hr1,q1,fun y M2 u H2 ⟨z,ez,q2⟩ e2 hr2 ru=>⟨_,_,z,M2,hr2,(rv.ext e2).rd hr2,ru.rd hr2,ez,fun w H' e3 hr3 rw_=>k z M2 w H' q2 ((e1.trans e2).trans e3) hr3 rw_⟩⟩⟩
def vL(t:TEd):TTd:=fun Δ M Q=>t Δ M fun x M1=>∃k,x=.bl k/\Q k M1
theorem yT{K:o0}{t:TEd}:∀ σ H Q,upT K (vL t) σ H Q->wm (up K t) σ H Q:=fun σ H Q hup=>hup.el fun Δ M R sr hr q k =>
 ⟨Δ,M,_,sr,hr,q,fun d M1 v H1 ⟨b,e,q1⟩ e1 hr1 rv=>⟨b,by subst e;simpa only[Rep]using rv,k b M1 H1 q1 e1 hr1⟩⟩
def wo(t:TTd):TTd:=fun Δ M Q=>t Δ M fun c M1=>Q (!c) M1
def wu(t u:TTd):TTd:=fun Δ M Q=>t Δ M fun c M1=>if c=true then u Δ M1 Q else Q false M1
def zP(t u:TTd):TTd:=fun Δ M Q=>t Δ M fun c M1=>if c=true then Q true M1 else u Δ M1 Q
variable{tA tB':TTd}{aU:List B5}
theorem PW.conv{X:Cx}{e:B5}{t t':TT}(h:PW X e t) (k:∀ σ H Q,t' σ H Q->t σ H Q):PW X e t':=fun w p s σ H Q I q=>h w p s σ H Q I (k σ H Q q)
theorem PWd.pt{e:B5}{t:TTd}(h:PWd X e t):PTd X e t:=PW.pt h
def zV(ta tb:TEd):TEd:=fun Δ M Q=>ta Δ M fun x M1=>∃c,x=.bl c/\if c=true then tb Δ M1 Q else Q (.bl false) M1
def zB(ta:TEd):TEd:=fun Δ M Q=>ta Δ M fun x M1=>∃c,x=.bl c/\Q (.bl (!c)) M1
def dIf(t:TTd) (ta tb:TEd):TEd:=fun Δ M Q=>t Δ M fun c M1=>if c=true then ta Δ M1 Q else tb Δ M1 Q
def tW(r r':D->D->Option D) (ta tb tc:TEd):TEd:=fun Δ M Q=>ta Δ M fun x M1=>tb Δ M1 fun y M2=>∃k,r (rdM M2 x) (rdM M2 y)=some (.bl k)/\if k=true then tc Δ M2 fun z M3=>∃w,r' (rdM M3 y) (rdM M3 z)=some w/\Q w M3 else Q (.bl false) M2
theorem qg{K:o0}{M:DH}{H:Hp}(hr:HR K M H):∀{ds:List D}{vs:List V},aj K M H ds vs->K6 (aF K M H) (ds.map (rdM M)) vs
 |[],_,h=>by simp only[aj]at h;subst h;exact .nil
 |d::ds,_,h=>by
  simp only[aj]at h;obtain⟨v,ws,rfl,h1,h2⟩:=h;exact .cons (h1.rd hr) (qg hr h2)
def dCB(r:List D->Option D) (t:TAd):TEd:=fun Δ M Q=>t Δ M fun ds M1=>∃z,r (ds.map (rdM M1))=some z/\Q z M1
theorem v6{K:o0}{r:List D->Option D}{t:TAd}:∀ σ H Q,up K (dCB r t) σ H Q->tCB (fun xs H Q=>∃ds dz M,HR K M H/\K6 (aF K M H) ds xs/\r ds=some dz/\∀w H',Ext M H M H'->HR K M H'->Rep K M H' dz w->Q w H') (upA K t) σ H Q:=fun σ H Q hup=>hup.el fun Δ M R sr hr q k =>
 ⟨Δ,M,_,sr,hr,q,fun ds M1 vs H1 ⟨z,ez,q1⟩ e1 hr1 rv=>⟨_,z,M1,hr1,qg hr1 rv,ez,fun w H' e2 hr2 r2=>k z M1 w H' q1 (e1.trans e2) hr2 r2⟩⟩
theorem cw.v{f:s0}{r:List D->Option D}(h:cw X f r):cO X f (fun xs H Q=>∃ds dz M,HR X.K M H/\K6 (aF X.K M H) ds xs/\r ds=some dz/\∀w H',Ext M H M H'->HR X.K M H'->Rep X.K M H' dz w->Q w H') :=
 fun aa s σ H xs us Q I rv ⟨ds,dz,M,hr,rr,e,k⟩=>h aa s σ H M xs us ds dz Q I hr rv rr e k
end
section
variable{X:Cx}
theorem bO.of{f:s0->s0->Sem s0}{r2:R2}{r:D->D->Option D}(h:OpR X f r2)
  (k:∀(H:Hp) (M:DH) (x y:V) (dx dy dz:D) (Q:VK),HR X.K M H->aF X.K M H dx x->aF X.K M H dy y->r dx dy=some dz->(∀w H',Ext M H M H'->HR X.K M H'->Rep X.K M H' dz w->Q w H')->r2 x y H Q):bO X f r :=
 fun aa s σ H M x y v u dx dy dz Q I hr rx ry r1 r2 e q=>h aa s σ H x y v u Q I rx ry (k H M x y dx dy dz Q hr r1 r2 e q)
theorem cw.of{f:s0}{r2:List V->Hp->VK->Prop}{r:List D->Option D}(h:cO X f r2)
  (k:∀(H:Hp) (M:DH) (xs:List V) (ds:List D) (dz:D) (Q:VK),HR X.K M H->K6 (aF X.K M H) ds xs->r ds=some dz->(∀w H',Ext M H M H'->HR X.K M H'->Rep X.K M H' dz w->Q w H')->r2 xs H Q):cw X f r :=
 fun aa s σ H M xs us ds dz Q I hr rv r1 e q=>h aa s σ H xs us Q I rv (k H M xs ds dz Q hr r1 e q)
theorem gx{K:o0}{M:DH}{H:Hp}{i:Int}{v:V}(h:aF K M H (.int i) v):v=.int i:=by simpa[aF,Rep]using h
theorem kL{K:o0}{M:DH}{H:Hp}{i:Str}{v:V}(h:aF K M H (.str i) v):v=.str i:=by simpa[aF,Rep]using h
theorem Am{K:o0}{M:DH}{H:Hp}{v:V}(h:aF K M H .non v):v=.non:=by simpa[aF,Rep]using h
def iOp(f:Int->Int->Option D):D->D->Option D
 |.int a,.int b=>f a b
 |_,_=>none
theorem n8{f:Int->Int->Option D}{x y z:D}(h:iOp f x y=some z):∃a b,x=.int a/\y=.int b/\f a b=some z:=by
 cases x<;>first|cases h|skip
 rename_i a;cases y<;>first|cases h|skip
 rename_i b;exact⟨a,b,rfl,rfl,h⟩
noncomputable def aW:D->Bool
 |.non=>true|.bl _=>true|.int _=>true|.str _=>true|_=>false
def toV:D->V
 |.bl b=>.bl b|.int i=>.int i|.str x=>.str x|_=>.non
theorem ox{K:o0}{M:DH}{H:Hp}{d:D}(h:aW d=true):Rep K M H d (toV d):=by
 cases d<;>first|(simp[Rep,toV];done)|cases h
theorem qB{f:s0->s0->Sem s0}{C:Int->Int->Prop} [∀i j,Decidable (C i j)] {g:Int->Int->D}(hs:∀i j,aW (g i j)=true) (h:OpR X f (rI C fun i j=>toV (g i j))) :
  bO X f (iOp fun i j=>if C i j then some (g i j)else none) :=
 bO.of h fun H M x y dx dy dz Q hr r1 r2 e q=>by
  obtain⟨a,b,rfl,rfl,e'⟩:=n8 e;clear e;have e:=e'
  by_cases hc:C a b
  ·rw[if_pos hc]at e;cases e;exact⟨a,b,gx r1,gx r2,hc,q _ _ (Ext.refl _ _) hr (ox (hs a b))⟩
  ·rw[if_neg hc]at e;cases e
theorem j0{f:s0->s0->Sem s0}{g:Int->Int->D}(hs:∀i j,aW (g i j)=true) (h:OpR X f (rI0 fun i j=>toV (g i j))) :
  bO X f (iOp fun i j=>some (g i j)) :=
 bO.of h fun H M x y dx dy dz Q hr r1 r2 e q=>by
  obtain⟨a,b,rfl,rfl,e⟩:=n8 e;cases e;exact⟨a,b,gx r1,gx r2,q _ _ (Ext.refl _ _) hr (ox (hs a b))⟩
instance:∀i j,Decidable (mX i j):=fun i j=>by unfold mX;exact inferInstance
instance:∀i j,Decidable (jn i j):=fun i j=>by unfold jn;exact inferInstance
instance:∀i j,Decidable (nE i j):=fun i j=>by unfold nE;exact inferInstance
theorem wn:bO X (E8 .Sub) (iOp fun i j=>some (.int (i-j))):=j0 (fun _ _=>rfl) xj
theorem xy:bO X (E8 .Mult) (iOp fun i j=>if jn i j then some (.int (i*j))else none):=qB (fun _ _=>rfl) xY
theorem sD:bO X (E8 .FloorDiv) (iOp fun i j=>if mX i j then some (.int (i / j))else none):=qB (fun _ _=>rfl) u6
theorem jN:bO X (E8 .Mod) (iOp fun i j=>if 0<j then some (.int (i % j))else none):=qB (C:=fun _ j=>0<j) (fun _ _=>rfl) wI
theorem yW:bO X (E8 .Pow) (iOp fun i j=>if nE i j then some (.int (i ^ j.toNat))else none):=qB (fun _ _=>rfl) yb
theorem xZ:bO X (C2 .Lt) (iOp fun i j=>some (.bl (decide (i<j)))):=j0 (fun _ _=>rfl) zW
theorem k4:bO X (C2 .LtE) (iOp fun i j=>some (.bl (decide (i<=j)))):=j0 (fun _ _=>rfl) zO
theorem td:bO X (C2 .Gt) (iOp fun i j=>some (.bl (decide (j<i)))):=j0 (fun _ _=>rfl) zv
theorem Ay:bO X (C2 .GtE) (iOp fun i j=>some (.bl (decide (j<=i)))):=j0 (fun _ _=>rfl) yZ
theorem aj.at_{K:o0}{M:DH}{H:Hp}{ds:List D}{vs:List V}{i:Int}{d:D}(h:aj K M H ds vs) (e:atI ds i=some d):∃v,atI vs i=some v/\Rep K M H d v:=by
 unfold atI at e ⊢;rw[<-h.length];cases q:ixN ds.length i with
 |none=>rw[q]at e;cases e
 |some j =>
  rw[q]at e;have e':ds[j]?=some d:=e;obtain⟨v,a,b⟩:=h.get e';exact⟨v,a,b⟩
def ixD:D->D->Option D
 |.tup ds,.int i=>atI ds i
 |.lst ds,.int i=>atI ds i
 |.scr ds,.int i=>atI ds i
 |.str z,.int i=>if z.length<=A3 then(atI z.cps.toList i).map fun c=>.str ⟨#[c]⟩else none
 |_,_=>none
theorem bL:IxR X (opV X.K ixD):=by
 intro value slice aa s σ H x y v u Q I rx ry h hs;obtain⟨dx,dy,dz,M,hr,r1,r2,e,k⟩:=h;cases dx with
 |tup ds =>
  cases dy with
  |int i =>
   obtain⟨a,vs,rfl,sq,rl⟩:=r1;obtain⟨w,e2,rw_⟩:=rl.at_ e;exact xw value slice aa s σ H _ _ v u Q I rx ry ⟨a,vs,i,w,rfl,gx r2,sq,e2,k w H (Ext.refl _ _) hr rw_⟩ hs
  |_=>cases e
 |lst ds =>
  cases dy with
  |int i =>
   obtain⟨a,vs,rfl,sq,rl⟩:=r1;obtain⟨w,e2,rw_⟩:=rl.at_ e;exact qA value slice aa s σ H _ _ v u Q I rx ry ⟨a,vs,i,w,rfl,gx r2,SqL.of sq,e2,k w H (Ext.refl _ _) hr rw_⟩ hs
  |_=>cases e
 |scr ds =>
  cases dy with
  |int i =>
   obtain⟨a,vs,rfl,sq,rl⟩:=r1;obtain⟨w,e2,rw_⟩:=rl.at_ e;exact qA value slice aa s σ H _ _ v u Q I rx ry ⟨a,vs,i,w,rfl,gx r2,sq,e2,k w H (Ext.refl _ _) hr rw_⟩ hs
  |_=>cases e
 |str z =>
  cases dy with
  |int i =>
   simp only[ixD]at e
   by_cases hz:z.length<=A3
   ·rw[if_pos hz]at e;cases q:atI z.cps.toList i with
    |none=>rw[q]at e;cases e
    |some c =>
     rw[q]at e;cases e;exact xD value slice aa s σ H _ _ v u Q I rx ry ⟨z,i,c,kL r1,gx r2,hz,q,k _ H (Ext.refl _ _) hr (by simp[Rep])⟩ hs
   ·rw[if_neg hz]at e;cases e
  |_=>cases e
 |_=>cases e
noncomputable def mh:D->D->Option D
 |.int a,.int b=>some (.int (a+b))
 |.str a,.str b=>if a.length+b.length<=A3 then some (.str (a++b))else none
 |.lst a,.lst b=>if a.length+b.length<=A3 then some (.lst (a++b))else none
 |.tup a,.tup b=>if a.length+b.length<=A3 then some (.tup (a++b))else none
 |_,_=>none
theorem jH{K:o0}{M:DH}{H:Hp}{p:B0}{ds:List D}{vs:List V}{Q:VK}(hr:HR K M H) (hp:H p=none) (r:aj K M H ds vs) (q:∀w H',Ext M H M H'->HR K M H'->Rep K M H' (.lst ds) w->Q w H'):Q (.ref p) (upd H p (.lst vs)) :=
 q _ _ (Ext.new hr hp) (hr.new hp) (by simp only[Rep];exact⟨p,vs,rfl,⟨bK,hr.fresh hp⟩,r.ext (Ext.new hr hp)⟩)
theorem mM{K:o0}{M:DH}{H:Hp}{p:B0}{ds:List D}{vs:List V}{Q:VK}(hr:HR K M H) (hp:H p=none) (r:aj K M H ds vs) (q:∀w H',Ext M H M H'->HR K M H'->Rep K M H' (.tup ds) w->Q w H'):Q (.ref p) (upd H p (.tup vs)) :=
 q _ _ (Ext.new hr hp) (hr.new hp) (by simp only[Rep];exact⟨p,vs,rfl,.inl ⟨.inl bK,hr.fresh hp⟩,r.ext (Ext.new hr hp)⟩)
theorem aF.tup{K:o0}{M:DH}{H:Hp}{ds:List D}{v:V}(hr:HR K M H) (h:aF K M H (.tup ds) v):Rep K M H (.tup ds) v:=by
 obtain⟨a,vs,rfl,sq,rl⟩:=h;simp only[Rep];refine⟨a,vs,rfl,?_,rl⟩;rcases sq with r|k
 ·refine .inl ⟨r,?_⟩;cases q:M a with
  |none=>rfl
  |some o =>
   obtain⟨u,z,m⟩:=(hr a _ q).some;rcases r with r|⟨ob,r⟩
   ·rw[z]at r;exact absurd (C0 r) (m _).1
   ·rw[z]at r;exact absurd (C0 r) ((m _).2 ob)
 ·exact .inr (.inr k)
theorem ua{prog:D0}{w:F2}{A:D9}{E:s0->u8->Prop}{s:u8}{t b:B0}{ws:List s0}{Q:s0->u8->Prop}(ht:S0 s.heap t ([]:List s0).toArray) (hb:S0 s.heap b ws.toArray)
  (h:Q (.ref b) s):B9 (C8 prog w) A (E8 .Add (.ref t) (.ref b)) Q E s:=by
 obtain⟨⟨cls,dd,data,sl⟩,ho,hc,n,hd⟩:=id ht;obtain⟨⟨cls2,dd2,data2,sl2⟩,ho2,hc2,n2,hd2⟩:=id hb;simp only at hc hd hc2 hd2;subst hc hd hc2 hd2;exact concat_meets ⟨_,ho,rfl⟩ ⟨_,ho2,rfl⟩ noFill_tuple_add seq_tuple_add PySem.F.slot_tuple_add PySem.F.entry_tuple_add (PySem.F.args_tuple_add_2 _ _)
   (tuple_addW0 t b ([]:List s0).toArray ws.toArray n n2 dd dd2 sl sl2 (by simp)) ⟨ho,ho2,h⟩
theorem aK:bO X (E8 .Add) mh:=by
 intro aa s σ H M x y v u dx dy dz Q I hr rx ry r1 r2 e k;cases dx with
 |int a =>
  cases dy with
  |int b =>
   cases e;exact xQ aa s σ H x y v u Q I rx ry ⟨a,b,gx r1,gx r2,k _ H (Ext.refl _ _) hr (by simp[Rep])⟩
  |_=>cases e
 |str a =>
  cases dy with
  |str b =>
   simp only[mh]at e
   by_cases hz:a.length+b.length<=A3
   ·rw[if_pos hz]at e;cases e;exact o4 aa s σ H x y v u Q I rx ry ⟨a,b,kL r1,kL r2,hz,k _ H (Ext.refl _ _) hr (by simp[Rep])⟩
   ·rw[if_neg hz]at e;cases e
  |_=>cases e
 |lst a =>
  cases dy with
  |lst b =>
   simp only[mh]at e
   by_cases hz:a.length+b.length<=A3
   ·rw[if_pos hz]at e;cases e;obtain⟨l1,vs,rfl,h1,l1r⟩:=r1;obtain⟨l2,ws,rfl,h2,l2r⟩:=r2;exact wK aa s σ H _ _ v u Q I rx ry ⟨l1,l2,vs,ws,rfl,rfl,h1,h2,by rw[<-l1r.length,<-l2r.length];exact hz,fun p hp=>jH hr hp (l1r.append l2r) k⟩
   ·rw[if_neg hz]at e;cases e
  |_=>cases e
 |tup a =>
  cases dy with
  |tup b =>
   simp only[mh]at e
   by_cases hz:a.length+b.length<=A3
   ·rw[if_pos hz]at e;cases e;have t1:=aF.tup hr r1;have t2:=aF.tup hr r2;obtain⟨l1,vs,rfl,h1,l1r⟩:=r1;obtain⟨l2,ws,rfl,h2,l2r⟩:=r2
    by_cases hv:vs=[]
    ·subst hv;have ea:a=[]:=by
      have:=l1r.length;cases a with
      |nil=>rfl
      |cons _ _=>simp at this
     subst ea;cases rx;cases ry;obtain⟨its,q1,p1,_⟩:=I.tuple h1;obtain⟨its2,q2,p2,_⟩:=I.tuple h2;cases q1;exact ua p1 p2 ⟨.ref l2,H,I,rfl,k _ H (Ext.refl _ _) hr t2⟩
    ·refine uU aa s σ H _ _ v u Q I rx ry ⟨l1,l2,vs,ws,rfl,rfl,h1,h2,hv,by rw[<-l1r.length,<-l2r.length];exact hz,fun hw=>?_,fun _ p hp=>mM hr hp (l1r.append l2r) k⟩;subst hw;have eb:b=[]:=by
      have:=l2r.length;cases b with
      |nil=>rfl
      |cons _ _=>simp at this
     subst eb;rw[M0]at k;exact k _ H (Ext.refl _ _) hr t1
   ·rw[if_neg hz]at e;cases e
  |_=>cases e
 |_=>cases e
mutual
def eqD:D->D->Bool
 |.non,.non=>true
 |.bl a,.bl b=>a==b
 |.bl a,.int b=>(if a then 1 else 0)==b
 |.int a,.bl b=>a==(if b then 1 else 0)
 |.int a,.int b=>a==b
 |.str a,.str b=>a==b
 |.tup a,.tup b=>bZ a b
 |.lst a,.lst b=>bZ a b
 |_,_=>false
def bZ:List D->List D->Bool
 |[],[]=>true
 |a::as,b::bs=>eqD a b&&bZ as bs
 |_,_=>false
end
mutual
def dLe:D->Nat->Bool
 |.tup _,0=>false
 |.tup ds,n+1=>bu ds n
 |.lst _,0=>false
 |.lst ds,n+1=>bu ds n
 |.scr _,_=>false
 |.emp,_=>false
 |.box _ _,_=>false
 |.ref _,_=>false
 |_,_=>true
def bu:List D->Nat->Bool
 |[],_=>true
 |d::ds,n=>dLe d n&&bu ds n
end
theorem fu:∀{ds:List D}{n i:Nat}{d:D},bu ds n=true->ds[i]?=some d->dLe d n=true
 |[],_,_,_,_,e=>by simp at e
 |d::ds,n,0,x,h,e=>by
  simp only[bu,C1]at h;simp at e;subst e;exact h.1
 |d::ds,n,i+1,x,h,e=>by
  simp only[bu,C1]at h;exact fu h.2 (by simpa using e)
theorem cg:∀{ds:List D}{n:Nat},bu ds n=true↔∀d∈ds,dLe d n=true
 |[],n=>by simp[bu]
 |d::ds,n=>by simp[bu,cg (ds:=ds)]
def eqN(ds es:List D) (j:Nat):Bool:=match ds[j]?,es[j]? with|some a,some b=>eqD a b|_,_=>false
theorem oh:∀{ds es:List D},bZ ds es=true->ds.length=es.length
 |[],[],_=>rfl
 |[],_::_,h=>by simp[bZ]at h
 |_::_,[],h=>by simp[bZ]at h
 |_::ds,_::es,h=>by
  simp only[bZ,C1]at h;simp[oh h.2]
theorem kh:∀{ds es:List D},bZ ds es=((K3 (min ds.length es.length)).all (eqN ds es)&&ds.length==es.length)
 |[],[]=>by simp[bZ]
 |[],_::_=>by simp[bZ]
 |_::_,[]=>by simp[bZ]
 |a::ds,b::es=>by
  have ih:=@kh ds es;simp only[bZ,List.length_cons,Nat.add_min_add_right,List.range_succ_eq_map,M8,List.all_map];have e0:eqN (a::ds) (b::es) 0=eqD a b:=by simp[eqN]
  have e1:(eqN (a::ds) (b::es))∘Nat.succ=eqN ds es:=by
   funext j;simp[eqN]
  rw[e0,e1,ih];have e2:(ds.length+1==es.length+1)=(ds.length==es.length):=by
   rw[Bool.eq_iff_iff];simp
  rw[e2,Bool.and_assoc]
theorem rz{ds es:List D}(h:ds.length=es.length):bZ ds es=(K3 ds.length).all (eqN ds es):=by
 rw[kh,<-h,Nat.min_self];simp
theorem Rep.r{K:o0}{M:DH}{H:Hp}{d:D}{v:V}(h:Rep K M H d v):aF K M H d v:=by
 cases d with
 |tup ds=>simp only[Rep]at h;obtain⟨a,vs,e,t,r⟩:=h;exact⟨a,vs,e,t.sq,r⟩
 |lst ds=>simp only[Rep]at h;obtain⟨a,vs,e,t,r⟩:=h;exact⟨a,vs,e,t.1,r⟩
 |scr ds=>simp only[Rep]at h;obtain⟨a,vs,e,t,r⟩:=h;exact⟨a,vs,e,t.sq,r⟩
 |_=>exact h
theorem wk{aa:List (B0×Obj)}{σ:St}{H:Hp}{s:u8}{a:B0}{vs ws:List V}(I:Inv X aa σ H s) (h:SqT X.K H a vs) (h':H a=some (.lst ws)):False:=by
 obtain⟨its,r,⟨o,e,c,n,d⟩,_⟩:=I.tuple h;obtain⟨_,its',n',_,e'⟩:=I.hok a _ h';rw[e]at e';cases e';exact absurd (show s0.type "list"=s0.type "tuple" from c) (by decide)
theorem tI{aa:List (B0×Obj)}{σ:St}{H:Hp}{s:u8}(I:Inv X aa σ H s) {M M':DH}:∀(n:Nat) {d e:D}{v:V},dLe d n=true->dLe e n=true->aF X.K M H d v->aF X.K M' H e v->eqD d e=true:=by
  intro n
  induction n with
  | zero =>
    intro d e v hd he r1 r2;cases d<;>first|(simp[dLe]at hd;done)|skip
    all_goals cases e<;>first|(simp[dLe]at he;done)|skip
    all_goals (simp only[aF,Rep]at r1 r2;subst r1;first|(cases r2;simp[eqD];done)|cases r2)
  | succ n ih =>
    intro d e v hd he r1 r2;have lists:∀{ds es:List D} {vs:List V},bu ds n=true->bu es n=true->aj X.K M H ds vs->aj X.K M' H es vs->bZ ds es=true:=by
      intro ds
      induction ds with
      | nil =>
        intro es vs _ _ h1 h2;simp only[aj]at h1;subst h1;cases es with
        |nil=>simp[bZ]
        |cons _ _=>simp[aj]at h2
      | cons a ds ihl =>
        intro es vs d1 d2 h1 h2;simp only[aj]at h1;obtain⟨v,ws,rfl,h3,h4⟩:=h1;cases es with
        |nil=>simp[aj]at h2
        | cons b es =>
          simp only[aj]at h2;obtain⟨v',ws',e',h5,h6⟩:=h2;cases e';simp only[bu,C1]at d1 d2;simp only[bZ,C1];exact⟨ih d1.1 d2.1 h3.r h5.r,ihl d1.2 d2.2 h4 h6⟩
    cases d with
    | tup ds =>
      obtain⟨a,vs,rfl,sq,rl⟩:=r1;cases e with
      | tup es =>
        obtain⟨b,ws,e',sq',rl'⟩:=r2;cases e';have:=I.tuple_inj sq sq';subst this;simp only[eqD];exact lists (by simpa[dLe]using hd) (by simpa[dLe]using he) rl rl'
      | lst es =>
        obtain⟨b,ws,e',sq',rl'⟩:=r2;cases e';exact(wk I sq sq').elim
      |_=>first|(simp[dLe]at he;done)|(simp only[aF,Rep]at r2;cases r2)
    | lst ds =>
      obtain⟨a,vs,rfl,sq,rl⟩:=r1;cases e with
      | lst es =>
        obtain⟨b,ws,e',sq',rl'⟩:=r2;cases e';rw[sq]at sq';cases sq';simp only[eqD];exact lists (by simpa[dLe]using hd) (by simpa[dLe]using he) rl rl'
      | tup es =>
        obtain⟨b,ws,e',sq',rl'⟩:=r2;cases e';exact(wk I sq' sq).elim
      |_=>first|(simp[dLe]at he;done)|(simp only[aF,Rep]at r2;cases r2)
    | _ =>
      first
      |(simp[dLe]at hd;done)
      | (cases e with
         |tup es=>(obtain⟨b,ws,e',sq',rl'⟩:=r2;subst e';simp only[aF,Rep]at r1;cases r1)
         |lst es=>(obtain⟨b,ws,e',sq',rl'⟩:=r2;subst e';simp only[aF,Rep]at r1;cases r1)
         |_=>first|(simp[dLe]at he;done)|(simp only[aF,Rep]at r1 r2;subst r1;first|(cases r2;simp[eqD];done)|cases r2))
theorem aF.at{K:o0}{M:DH}{H:Hp}{d:D}{v:V}{u:s0}(r:aF K M H d v) (q:aG v u):match d with|.non=>u=.none|.bl b=>u=.bool b|.int i=>∃t,u=.int i t|.str x=>∃t,u=.str x t|_=>True:=by
 cases d<;>first|trivial|(simp only[aF,Rep]at r;subst r;exact q)
open PySem.SeqAt in
theorem my{aa:List (B0×Obj)}{σ:St}{H:Hp}{s:u8}(I:Inv X aa σ H s) {M M':DH}:∀(n:Nat) {A:D9}{d e:D}{v w:V}{u1 u2:s0},A.units+n<cLine->dLe d n=true->dLe e n=true ->
  aF X.K M H d v->aF X.K M' H e w->aG v u1->aG w u2->EqAt A s u1 u2 (eqD d e)/\RcAt A s u1 u2 (eqD d e)/\RcNeAt A s u1 u2 (!(eqD d e)):=by
 intro n
 induction n with
 |zero =>
  intro A d e v w u1 u2 hu hd he r1 r2 q1 q2;have hu0:A.units<cLine:=by lia
  cases d<;>first|(simp[dLe]at hd;done)|skip
  all_goals cases e<;>first|(simp[dLe]at he;done)|skip
  all_goals simp only[aF,Rep]at r1 r2
  all_goals subst r1
  all_goals subst r2
  all_goals simp only[aG]at q1 q2
  all_goals first|(obtain⟨t1,rfl⟩:=q1)|subst q1
  all_goals first|(obtain⟨t2,rfl⟩:=q2)|subst q2
  all_goals simp only[eqD]
  ·exact⟨EqAt.same _,RcAt.none_none,RcNeAt.none_none⟩
  ·exact⟨EqAt.none_bool _,RcAt.none_bool _,RcNeAt.none_bool _⟩
  ·exact⟨EqAt.none_int _ _,RcAt.none_int _ _,RcNeAt.none_int _ _⟩
  ·exact⟨EqAt.none_str _ _,RcAt.none_str _ _,RcNeAt.none_str _ _⟩
  ·exact⟨EqAt.bool_none _,RcAt.bool_none _,RcNeAt.bool_none _⟩
  ·exact⟨EqAt.bool_bool _ _,RcAt.bool_bool _ _,RcNeAt.bool_bool _ _⟩
  ·exact⟨EqAt.bool_int _ _ _,RcAt.bool_int _ _ _,RcNeAt.bool_int _ _ _⟩
  ·exact⟨EqAt.bool_str _ _ _,RcAt.bool_str _ _ _,RcNeAt.bool_str _ _ _⟩
  ·exact⟨EqAt.int_none _ _,RcAt.int_none _ _,RcNeAt.int_none _ _⟩
  ·exact⟨EqAt.int_bool _ _ _,RcAt.int_bool _ _ _,RcNeAt.int_bool _ _ _⟩
  ·exact⟨EqAt.int_int _ _ _ _,RcAt.int_int _ _ _ _,RcNeAt.int_int _ _ _ _⟩
  ·exact⟨EqAt.int_str _ _ _ _,RcAt.int_str _ _ _ _,RcNeAt.int_str _ _ _ _⟩
  ·exact⟨EqAt.str_none _ _,RcAt.str_none _ _,RcNeAt.str_none _ _⟩
  ·exact⟨EqAt.str_bool _ _ _,RcAt.str_bool _ _ _,RcNeAt.str_bool _ _ _⟩
  ·exact⟨EqAt.str_int _ _ _ _,RcAt.str_int _ _ _ _,RcNeAt.str_int _ _ _ _⟩
  ·exact⟨EqAt.str_str _ _ _ _,RcAt.str_str _ _ _ _,RcNeAt.str_str _ _ _ _⟩
 |succ n ih =>
  intro A d e v w u1 u2 hu hd he r1 r2 q1 q2;have hu0:A.units<cLine:=by lia
  have hu1:A.in1.units+n<cLine:=by show A.units+1+n<cLine;lia
  have item:∀{ds es:List D} {vs ws:List V} {us us2:List s0},bu ds n=true->bu es n=true->aj X.K M H ds vs->aj X.K M' H es ws->ay vs us->ay ws us2 ->
    ∀j (h1:j<us.toArray.size) (h2:j<us2.toArray.size),EqAt A.in1 s us.toArray[j] us2.toArray[j] (eqN ds es j):=by
   intro ds es vs ws us us2 d1 d2 h1 h2 h3 h4 j hj1 hj2;have l1:=h1.length;have l2:=h2.length;have l3:=h3.length;have l4:=h4.length;have j1:j<ds.length:=by simp at hj1;lia
   have j2:j<es.length:=by simp at hj2;lia
   obtain⟨v1,g1,p1⟩:=h1.get (i:=j) (d:=ds[j]) (by simp[j1]);obtain⟨v2,g2,p2⟩:=h2.get (i:=j) (d:=es[j]) (by simp[j2]);obtain⟨u1,k1,m1⟩:=h3.get g1;obtain⟨u2,k2,m2⟩:=h4.get g2;have e1:us.toArray[j]=u1:=by
    simp at hj1;simpa[List.getElem?_eq_getElem hj1]using k1
   have e2:us2.toArray[j]=u2:=by
    simp at hj2;simpa[List.getElem?_eq_getElem hj2]using k2
   rw[e1,e2];have e3:eqN ds es j=eqD ds[j] es[j]:=by simp[eqN,j1,j2]
   rw[e3];exact(ih hu1 (fu d1 (i:=j) (by simp[j1])) (fu d2 (i:=j) (by simp[j2])) p1.r p2.r m1 m2).1
  have both:∀{a b:B0},v=.ref a->w=.ref b->RcAt A s (.ref a) (.ref b) (eqD d e)->EqAt A s (.ref a) (.ref b) (eqD d e):=by
   intro a b ea eb rc
   by_cases hab:a=b
   ·subst hab;subst ea;subst eb;rw[tI I (n+1) hd he r1 r2];exact EqAt.same _
   ·exact EqAt.of_refs hab rc
  cases d with
  |tup ds =>
   obtain⟨a,vs,rfl,sq,rl⟩:=id r1;cases q1;obtain⟨its,rv,pt,_⟩:=I.tuple sq;have hd':bu ds n=true:=by simpa[dLe]using hd
   cases e with
   |tup es =>
    obtain⟨b,ws,rfl,sq',rl'⟩:=id r2;cases q2;obtain⟨its2,rv2,pt2,_⟩:=I.tuple sq';have he':bu es n=true:=by simpa[dLe]using he
    have it:=item hd' he' rl rl' rv rv2;have t1:=RcAt.tuples (e:=eqN ds es) pt pt2 hu0 it;have t2:=RcNeAt.tuples (e:=eqN ds es) pt pt2 hu0 it;rw[A5,A5,<-rv.length,<-rv2.length,<-rl.length,<-rl'.length,<-kh]at t1 t2;have rc:RcAt A s (.ref a) (.ref b) (eqD (.tup ds) (.tup es)):=by simpa only[eqD]using t1
    exact⟨both rfl rfl rc,rc,by simpa only[eqD]using t2⟩
   |lst es =>
    obtain⟨b,ws,rfl,sq',rl'⟩:=id r2;cases q2;obtain⟨its2,rv2,pt2,_⟩:=I.list (SqL.of sq');simp only[eqD];exact⟨EqAt.tuple_list pt pt2.isList hu0,RcAt.tuple_list pt pt2.isList hu0,RcNeAt.tuple_list pt pt2.isList hu0⟩
   |non=>obtain rfl:=r2.at q2;simp only[eqD];exact⟨EqAt.tuple_none pt hu0,RcAt.tuple_none pt hu0,RcNeAt.tuple_none pt hu0⟩
   |bl b=>obtain rfl:=r2.at q2;simp only[eqD];exact⟨EqAt.tuple_bool _ pt hu0,RcAt.tuple_bool _ pt hu0,RcNeAt.tuple_bool _ pt hu0⟩
   |int b=>obtain⟨t,rfl⟩:=r2.at q2;simp only[eqD];exact⟨EqAt.tuple_int _ _ pt hu0,RcAt.tuple_int _ _ pt hu0,RcNeAt.tuple_int _ _ pt hu0⟩
   |str b=>obtain⟨t,rfl⟩:=r2.at q2;simp only[eqD];exact⟨EqAt.tuple_str _ _ pt hu0,RcAt.tuple_str _ _ pt hu0,RcNeAt.tuple_str _ _ pt hu0⟩
   |_=>simp[dLe]at he
  |lst ds =>
   obtain⟨a,vs,rfl,sq,rl⟩:=id r1;cases q1;obtain⟨its,rv,pt,_⟩:=I.list (SqL.of sq);have hd':bu ds n=true:=by simpa[dLe]using hd
   cases e with
   |lst es =>
    obtain⟨b,ws,rfl,sq',rl'⟩:=id r2;cases q2;obtain⟨its2,rv2,pt2,_⟩:=I.list (SqL.of sq');have he':bu es n=true:=by simpa[dLe]using he
    have hs:its.toArray.size=ds.length/\its2.toArray.size=es.length:=by rw[A5,A5,<-rv.length,<-rv2.length,<-rl.length,<-rl'.length];exact⟨rfl,rfl⟩
    have rc:RcAt A s (.ref a) (.ref b) (eqD (.lst ds) (.lst es))/\RcNeAt A s (.ref a) (.ref b) (!(eqD (.lst ds) (.lst es))):=by
     by_cases hl:ds.length=es.length
     ·have hsz:its.toArray.size=its2.toArray.size:=by rw[hs.1,hs.2];exact hl
      have it:=item hd' he' rl rl' rv rv2;have t1:=RcAt.lists (e:=eqN ds es) pt.isList pt2.isList hsz hu0 it;have t2:=RcNeAt.lists (e:=eqN ds es) pt.isList pt2.isList hsz hu0 it;rw[hs.1,<-rz hl]at t1 t2;exact⟨by simpa only[eqD]using t1,by simpa only[eqD]using t2⟩
     ·have hsz:(its.toArray.size != its2.toArray.size)=true:=by rw[hs.1,hs.2];simpa using hl
      have e0:eqD (.lst ds) (.lst es)=false:=by
       simp only[eqD];cases q:bZ ds es with
       |false=>rfl
       |true=>exact absurd (oh q) hl
      rw[e0];exact⟨RcAt.lists_lengths pt.isList pt2.isList hsz hu0,RcNeAt.lists_lengths pt.isList pt2.isList hsz hu0⟩
    exact⟨both rfl rfl rc.1,rc⟩
   |tup es =>
    obtain⟨b,ws,rfl,sq',rl'⟩:=id r2;cases q2;obtain⟨its2,rv2,pt2,_⟩:=I.tuple sq';simp only[eqD];exact⟨EqAt.list_tuple pt.isList pt2 hu0,RcAt.list_tuple pt.isList pt2 hu0,RcNeAt.list_tuple pt.isList pt2 hu0⟩
   |non=>obtain rfl:=r2.at q2;simp only[eqD];exact⟨EqAt.list_none pt.isList hu0,RcAt.list_none pt.isList hu0,RcNeAt.list_none pt.isList hu0⟩
   |bl b=>obtain rfl:=r2.at q2;simp only[eqD];exact⟨EqAt.list_bool _ pt.isList hu0,RcAt.list_bool _ pt.isList hu0,RcNeAt.list_bool _ pt.isList hu0⟩
   |int b=>obtain⟨t,rfl⟩:=r2.at q2;simp only[eqD];exact⟨EqAt.list_int _ _ pt.isList hu0,RcAt.list_int _ _ pt.isList hu0,RcNeAt.list_int _ _ pt.isList hu0⟩
   |str b=>obtain⟨t,rfl⟩:=r2.at q2;simp only[eqD];exact⟨EqAt.list_str _ _ pt.isList hu0,RcAt.list_str _ _ pt.isList hu0,RcNeAt.list_str _ _ pt.isList hu0⟩
   |_=>simp[dLe]at he
  |non =>
   cases e with
   |tup es =>
    obtain⟨b,ws,rfl,sq',rl'⟩:=id r2;cases q2;obtain⟨its2,rv2,pt2,_⟩:=I.tuple sq';obtain rfl:=r1.at q1;simp only[eqD];exact⟨EqAt.none_tuple pt2 hu0,RcAt.none_tuple pt2 hu0,RcNeAt.none_tuple pt2 hu0⟩
   |lst es =>
    obtain⟨b,ws,rfl,sq',rl'⟩:=id r2;cases q2;obtain⟨its2,rv2,pt2,_⟩:=I.list (SqL.of sq');obtain rfl:=r1.at q1;simp only[eqD];exact⟨EqAt.none_list pt2.isList hu0,RcAt.none_list pt2.isList hu0,RcNeAt.none_list pt2.isList hu0⟩
   |_=>first|(simp[dLe]at he;done)|exact ih (A:=A) (by lia) (by simp[dLe]) (by simp[dLe]) r1 r2 q1 q2
  |bl a =>
   cases e with
   |tup es =>
    obtain⟨b,ws,rfl,sq',rl'⟩:=id r2;cases q2;obtain⟨its2,rv2,pt2,_⟩:=I.tuple sq';obtain rfl:=r1.at q1;simp only[eqD];exact⟨EqAt.bool_tuple _ pt2 hu0,RcAt.bool_tuple _ pt2 hu0,RcNeAt.bool_tuple _ pt2 hu0⟩
   |lst es =>
    obtain⟨b,ws,rfl,sq',rl'⟩:=id r2;cases q2;obtain⟨its2,rv2,pt2,_⟩:=I.list (SqL.of sq');obtain rfl:=r1.at q1;simp only[eqD];exact⟨EqAt.bool_list _ pt2.isList hu0,RcAt.bool_list _ pt2.isList hu0,RcNeAt.bool_list _ pt2.isList hu0⟩
   |_=>first|(simp[dLe]at he;done)|exact ih (A:=A) (by lia) (by simp[dLe]) (by simp[dLe]) r1 r2 q1 q2
  |int a =>
   cases e with
   |tup es =>
    obtain⟨b,ws,rfl,sq',rl'⟩:=id r2;cases q2;obtain⟨its2,rv2,pt2,_⟩:=I.tuple sq';obtain⟨t,rfl⟩:=r1.at q1;simp only[eqD];exact⟨EqAt.int_tuple _ _ pt2 hu0,RcAt.int_tuple _ _ pt2 hu0,RcNeAt.int_tuple _ _ pt2 hu0⟩
   |lst es =>
    obtain⟨b,ws,rfl,sq',rl'⟩:=id r2;cases q2;obtain⟨its2,rv2,pt2,_⟩:=I.list (SqL.of sq');obtain⟨t,rfl⟩:=r1.at q1;simp only[eqD];exact⟨EqAt.int_list _ _ pt2.isList hu0,RcAt.int_list _ _ pt2.isList hu0,RcNeAt.int_list _ _ pt2.isList hu0⟩
   |_=>first|(simp[dLe]at he;done)|exact ih (A:=A) (by lia) (by simp[dLe]) (by simp[dLe]) r1 r2 q1 q2
  |str a =>
   cases e with
   |tup es =>
    obtain⟨b,ws,rfl,sq',rl'⟩:=id r2;cases q2;obtain⟨its2,rv2,pt2,_⟩:=I.tuple sq';obtain⟨t,rfl⟩:=r1.at q1;simp only[eqD];exact⟨EqAt.str_tuple _ _ pt2 hu0,RcAt.str_tuple _ _ pt2 hu0,RcNeAt.str_tuple _ _ pt2 hu0⟩
   |lst es =>
    obtain⟨b,ws,rfl,sq',rl'⟩:=id r2;cases q2;obtain⟨its2,rv2,pt2,_⟩:=I.list (SqL.of sq');obtain⟨t,rfl⟩:=r1.at q1;simp only[eqD];exact⟨EqAt.str_list _ _ pt2.isList hu0,RcAt.str_list _ _ pt2.isList hu0,RcNeAt.str_list _ _ pt2.isList hu0⟩
   |_=>first|(simp[dLe]at he;done)|exact ih (A:=A) (by lia) (by simp[dLe]) (by simp[dLe]) r1 r2 q1 q2
  |_=>simp[dLe]at hd
end
section
variable{X:Cx}{a b c e:B5}{es:List B5}{te ta tb:TEd}{pos:Pos}{st:Q6}{aU:List Q6}{t u:TSd}
def wB:TSd:=fun E Δ M=>E.nx Δ M
def wJ(t u:TSd):TSd:=fun E Δ M=>t { E with nx:=u E } Δ M
def yI(te:TEd):TSd:=fun E Δ M=>te Δ M E.rt
def qr(te:TEd):TSd:=fun E Δ M=>te Δ M fun _ M1=>E.nx Δ M1
def zE(c:TTd) (t u:TSd):TSd:=fun E Δ M=>c Δ M fun b M1=>if b=true then t E Δ M1 else u E Δ M1
def va(i:Nat) (te:TEd):TSd:=fun E Δ M=>te Δ M fun d M1=>E.nx (Δ.set i (some d)) M1
abbrev GD:=D->DE->Option DE
def PGd(X:Cx) (tg:B5) (g:GD):Prop:=∃gv:TG,PG X tg gv/\∀(d:D) (v:V) (σ:St) (Δ Δ':DE) (M:DH) (H:Hp) (Q:St->Hp->Prop),SR X.K M H σ Δ->HR X.K M H->Rep X.K M H d v->g d Δ=some Δ'->(∀ σ',SR X.K M H σ' Δ'->Q σ' H)->gv v σ H Q
def bT(i:Nat):GD:=fun d Δ=>some (Δ.set i (some d))
theorem aV{i:Nat}{x:Str}(hN:X.N.Nodup) (hi:X.N[i]?=some x) (hx:Loc X.env.scope x) (hf:X.fn x=true∨X.env.scope.names.lookup x=some .local:=by first|exact .inl rfl|exact .inr rfl|assumption):PGd X (.Name x pos) (bT i) :=
 ⟨nN i,qy hN hi hx hf,fun d v σ Δ Δ' M H Q sr hr rv e k=>by cases e;exact k _ (sr.set i rv)⟩
abbrev GDs:=List D->DE->Option DE
def uz(X:Cx) (tgs:List B5) (g:GDs):Prop:=∃gv:TGs,PGs X tgs gv/\∀(ds:List D) (vs:List V) (σ:St) (Δ Δ':DE) (M:DH) (H:Hp) (Q:St->Hp->Prop),SR X.K M H σ Δ->HR X.K M H->aj X.K M H ds vs->g ds Δ=some Δ'->(∀ σ',SR X.K M H σ' Δ'->Q σ' H)->gv vs σ H Q
def og:GDs:=fun ds Δ=>match ds with|[]=>some Δ|_=>none
def gC(g:GD) (gs:GDs):GDs:=fun ds Δ=>match ds with|[]=>none|d::r=>(g d Δ).bind fun Δ1=>gs r Δ1
def kC(g:GDs) (n:Nat):GD:=fun d Δ=>match d with|.tup ds=>if ds.length=n then g ds Δ else none|_=>none
theorem iS:uz X [] og:=⟨xS,qo,fun ds vs σ Δ Δ' M H Q sr hr rv e k=>by
 cases ds with
 |nil=>simp only[aj]at rv;subst rv;cases e;exact⟨rfl,k _ sr⟩
 |cons _ _=>cases e⟩
theorem bz{tg:B5}{tgs:List B5}{g:GD}{gs:GDs}(h1:PGd X tg g) (h2:uz X tgs gs)
  (hs:(E3 (tg::tgs) X.env).map (·.2)=O9 tg X.env::(E3 tgs X.env).map (·.2):=by rfl):uz X (tg::tgs) (gC g gs):=by
 obtain⟨g1,p1,k1⟩:=h1;obtain⟨g2,p2,k2⟩:=h2;refine⟨sd g1 g2,nX p1 p2 hs,fun ds vs σ Δ Δ' M H Q sr hr rv e k=>?_⟩;cases ds with
 |nil=>cases e
 |cons d r =>
  simp only[aj]at rv;obtain⟨v,ws,rfl,h3,h4⟩:=rv;simp only[gC]at e;cases q:g d Δ with
  |none=>rw[q]at e;cases e
  |some Δ1 =>
   rw[q]at e;exact⟨v,ws,rfl,k1 d v σ Δ Δ1 M H _ sr hr h3 q fun σ1 sr1=>k2 r ws σ1 Δ1 Δ' M H Q sr1 hr h4 e k⟩
theorem iY{tgs:List B5}{kx:Nat}{g:GDs}{n:Nat}(hc:X.calm=true) (h:uz X tgs g) (hn:(E3 tgs X.env).length=n:=by rfl) (hst:(E3 tgs X.env).findIdx? (·.1)=none:=by rfl):PGd X (.Tuple tgs kx pos) (kC g n):=by
 obtain⟨g1,p1,k1⟩:=h;refine⟨yh X.K n g1,tF hc p1 hn hst,fun d v σ Δ Δ' M H Q sr hr rv e k=>?_⟩;cases d with
 |tup ds =>
  simp only[kC]at e
  by_cases hl:ds.length=n
  ·rw[if_pos hl]at e;simp only[Rep]at rv;obtain⟨a,vs,rfl,ta,rl⟩:=rv;exact⟨a,vs,rfl,ta.sq,by rw[<-rl.length];exact hl,k1 ds vs σ Δ Δ' M H Q sr hr rl e k⟩
  ·rw[if_neg hl]at e;cases e
 |_=>cases e
def zU(te:TEd) (g:GD):TSd:=fun E Δ M=>te Δ M fun d M1=>∃ Δ',g d Δ=some Δ'/\E.nx Δ' M1
abbrev TId:=DE->DH->(List D->DH->Prop)->Prop
def ItD(K:o0) (J:It) (ds:List D) (M1:DH) (H1:Hp):Prop:=∀M2 H2,Ext M1 H1 M2 H2->HR K M2 H2->∀i,(∀d,ds[i]?=some d->J.go i H2/\∀x H',J.yld i H2 x H'->Ext M2 H2 M2 H'/\HR K M2 H'/\Rep K M2 H' d x)/\(ds.length<=i->J.stop i H2)
def upI(K:o0) (wi:TId):TI:=fun σ H R=>∃(Δ:DE) (M:DH) (R':List D->DH->Prop),SR K M H σ Δ/\HR K M H/\wi Δ M R'/\∀ds M1 J H1,R' ds M1->Ext M H M1 H1->HR K M1 H1->ItD K J ds M1 H1->R J H1
theorem upI.el{K:o0}{t:TId}{σ:St}{H:Hp}{Q:It->Hp->Prop}{P:Prop}(h:upI K t σ H Q) (f:∀(Δ:DE) (M:DH) (R:List D->DH->Prop),SR K M H σ Δ->HR K M H->t Δ M R->(∀ds M1 J H1,R ds M1->Ext M H M1 H1->HR K M1 H1->ItD K J ds M1 H1->Q J H1)->P):P:=by
 obtain⟨x1,x2,x3,a,b,c,d⟩:=h;exact f x1 x2 x3 a b c d
def PId(X:Cx) (tg iter:B5) (wi:TId):Prop:=PI X tg iter (upI X.K wi)
theorem PI.conv{tg iter:B5}{w w':TI}(h:PI X tg iter w) (k:∀ σ H R,w' σ H R->w σ H R):PI X tg iter w':=fun p s σ H R I q=>h p s σ H R I (k σ H R q)
variable{tg iter:B5}
def nM(lo:Int) (n:Nat):List D:=(K3 n).map fun(k:Nat)=>.int (lo+(k:Int))
theorem kl{lo:Int}{n i:Nat}{d:D}(h:(nM lo n)[i]?=some d):i<n/\d=.int (lo+i):=by
 unfold nM at h;rw[F0]at h
 by_cases hi:i<n
 ·rw[List.getElem?_range hi]at h;cases h;exact⟨hi,rfl⟩
 ·rw[List.getElem?_eq_none (by simp;omega)]at h;cases h
theorem uQ{K:o0}{lo:Int}{n:Nat}{M1:DH}{H1:Hp}:ItD K (Itr lo n) (nM lo n) M1 H1:=fun M2 H2 e2 hr2 i=>⟨fun d hd=>by
  obtain⟨h1,rfl⟩:=kl hd;refine⟨h1,fun x H' ⟨eH,y⟩=>?_⟩;subst eH;subst y;exact⟨Ext.refl _ _,hr2,by simp[Rep]⟩,fun hl=>by
  show n<=i;simpa[nM]using hl⟩
def sv(ta:TAd):TId:=fun Δ M R=>ta Δ M fun ds M1=>∃j:Int,ds=[.int j]/\-(2 ^ 62)<=j/\j<2 ^ 62/\R (nM 0 j.toNat) M1
def bS(g:GD) (tb:TSd) (E:gh):List D->DE->DH->Prop
 |[],Δ,M=>E.nx Δ M
 |d::ds,Δ,M=>∃ Δ',g d Δ=some Δ'/\tb { E with nx:=bS g tb E ds,ct:=bS g tb E ds,bk:=E.nx } Δ' M
def yK(wi:TId) (g:GD) (tb:TSd):TSd:=fun E Δ M=>wi Δ M fun ds M1=>bS g tb E ds Δ M1
end
def pL:D->Prop
 |.tup ds=>ds.length<=A3
 |.lst ds=>ds.length<=A3
 |.scr ds=>ds.length<=A3
 |_=>True
section
variable{X:Cx}{a b c e:B5}{es:List B5}{te ta tb:TEd}{pos:Pos}{tg iter elt:B5}
theorem aF.len{K:o0}{aa:List (B0×Obj)}{σ:St}{H:Hp}{s:u8}{M:DH}{d:D}{v:V}(I:Inv X aa σ H s) (h:Rep X.K M H d v):pL d:=by
 cases d with
 |tup ds =>
  simp only[Rep]at h;obtain⟨a,vs,e,t,r⟩:=h;obtain⟨_,_,_,z⟩:=I.tuple t.sq;simp only[pL];rw[r.length];exact z
 |lst ds =>
  simp only[Rep]at h;obtain⟨a,vs,e,t,r⟩:=h;obtain⟨_,_,_,z⟩:=I.list (SqL.of t.1);simp only[pL];rw[r.length];exact z
 |scr ds =>
  simp only[Rep]at h;obtain⟨a,vs,e,t,r⟩:=h;obtain⟨_,_,_,z⟩:=I.list t.sq;simp only[pL];rw[r.length];exact z
 |_=>trivial
noncomputable def bP:List Bool->DE->DE
 |true::ms,v::σ=>v::bP ms σ
 |false::ms,_::σ=>none::bP ms σ
 |[],_::σ=>none::bP [] σ
 |_,[]=>[]
def qF(ms:List Bool) (k:Nat) (Δ:DE):DE:=bP ms Δ++A7 k none
theorem cf:∀(ms:List Bool) (σ:DE),(bP ms σ).length=σ.length
 |true::ms,v::σ=>by simp[bP,cf ms σ]
 |false::ms,_::σ=>by simp[bP,cf ms σ]
 |[],_::σ=>by simp[bP,cf [] σ]
 |[],[]=>by simp[bP]
 |true::_,[]=>by simp[bP]
 |false::_,[]=>by simp[bP]
theorem fT:∀{ms:List Bool}{σ:DE}{i:Nat}{v:D},(bP ms σ)[i]?=some (some v)->ms[i]?=some true/\σ[i]?=some (some v)
 |true::ms,v::σ,0,x,h=>by simpa[bP]using h
 |true::ms,v::σ,i+1,x,h=>by
  have:=fT (ms:=ms) (σ:=σ) (i:=i) (v:=x) (by simpa[bP]using h);simpa using this
 |false::ms,_::σ,0,x,h=>by simp[bP]at h
 |false::ms,_::σ,i+1,x,h=>by
  have:=fT (ms:=ms) (σ:=σ) (i:=i) (v:=x) (by simpa[bP]using h);simpa using this
 |[],_::σ,0,x,h=>by simp[bP]at h
 |[],_::σ,i+1,x,h=>by
  have:=fT (ms:=[]) (σ:=σ) (i:=i) (v:=x) (by simpa[bP]using h);simpa using this
 |[],[],_,_,h=>by simp[bP]at h
 |true::_,[],_,_,h=>by simp[bP]at h
 |false::_,[],_,_,h=>by simp[bP]at h
theorem gH:∀{ms:List Bool}{σ:St}{i:Nat}{v:V},ms[i]?=some true->σ[i]?=some (some v)->(bq ms σ)[i]?=some (some v)
 |true::ms,v::σ,0,x,h,h2=>by simpa[bq]using h2
 |true::ms,v::σ,i+1,x,h,h2=>by
  have:=gH (ms:=ms) (σ:=σ) (i:=i) (v:=x) (by simpa using h) (by simpa using h2);simpa[bq]using this
 |false::ms,_::σ,0,x,h,h2=>by simp at h
 |false::ms,_::σ,i+1,x,h,h2=>by
  have:=gH (ms:=ms) (σ:=σ) (i:=i) (v:=x) (by simpa using h) (by simpa using h2);simpa[bq]using this
 |[],_,_,_,h,_=>by simp at h
 |_::_,[],_,_,_,h=>by simp at h
theorem SR.comp{K:o0}{M:DH}{H:Hp}{σ:St}{Δ:DE}(ms:List Bool) (k:Nat) (h:SR K M H σ Δ):SR K M H (gm ms k σ) (qF ms k Δ):=by
 refine⟨by simp[gm,qF,br,cf,h.1],fun i d q=>?_⟩;unfold qF at q
 by_cases hi:i<(bP ms Δ).length
 ·rw[C6 hi]at q;obtain⟨m,e⟩:=fT q;obtain⟨v,ev,rv⟩:=h.2 i d e;refine⟨v,?_,rv⟩;have:=gH m ev;unfold gm;rw[C6 (by rw[br,h.1,<-cf ms];exact hi)];exact this
 ·rw[F3 (by lia),J9]at q
  split at q<;>cases q
def cH(g:GD) (tc:TTd) (te:TEd):List D->DE->DH->List D->(List D->DH->Prop)->Prop
 |[],_,M,acc,Q=>Q acc M
 |d::ds,Δ,M,acc,Q=>∃ Δ',g d Δ=some Δ'/\tc Δ' M fun b M1=>if b=true then te Δ' M1 fun y M2=>cH g tc te ds Δ' M2 (acc++[y]) Q else cH g tc te ds Δ' M1 acc Q
def dLc(ms:List Bool) (k:Nat) (wi:TId) (g:GD) (tc:TTd) (te:TEd):TEd:=fun Δ M Q=>wi Δ M fun ds M1=>ds.length<=A3/\cH g tc te ds (qF ms k Δ) M1 [] fun ys M2=>Q (.lst ys) M2
def zo(X:Cx) (ifs:List B5) (t:TTd):Prop:=PIf X ifs (upT X.K t)
def uT:TTd:=fun _ M Q=>Q true M
abbrev sT(K:o0) (g:GD) (gv:TG):Prop:=∀(d:D) (v:V) (σ:St) (Δ Δ':DE) (M:DH) (H:Hp) (Q:St->Hp->Prop),SR K M H σ Δ->HR K M H->Rep K M H d v->g d Δ=some Δ'->(∀ σ',SR K M H σ' Δ'->Q σ' H)->gv v σ H Q
theorem vo{K:o0}{g:GD}{tc:TTd}{te:TEd}{gv:TG}(kg:sT K g gv) {J:It}{ds:List D}{M1:DH}{H1:Hp}(it:ItD K J ds M1 H1) (hr1:HR K M1 H1) (hz:ds.length<=A3) {R:List D->DH->Prop}{σ:St}{Δ:DE}(sr:SR K M1 H1 σ Δ) (q:cH g tc te ds Δ M1 [] R) :
  ∃(W:Nat->Nat->List V->St->Hp->Prop) (Z:List V->St->Hp->Prop),(∃m,W 0 m [] σ H1)/\m5 J gv (upT K tc) (nU (up K te)) W Z/\∀ys σ' H',Z ys σ' H'->∃M' acc,Ext M1 H1 M' H'/\HR K M' H'/\aj K M' H' acc ys/\R acc M':=by
 refine⟨fun i m ys σ' H'=>∃ Δ' M' acc,m=ds.length-i/\i<=ds.length/\Ext M1 H1 M' H'/\HR K M' H'/\SR K M' H' σ' Δ'/\aj K M' H' acc ys/\acc.length<=i/\cH g tc te (ds.drop i) Δ' M' acc R,_,
  ⟨ds.length,_,M1,[],by simp,P5 _,Ext.refl _ _,hr1,sr,aj.nil,by simp,q⟩,?_,fun _ _ _ z=>z⟩
 rintro i m ys σ2 H2 ⟨Δ2,M2,acc,rfl,hi2,e2,hr2,sr2,ra,la,f2⟩;have hl:ys.length<=A3:=by rw[<-ra.length];lia
 refine⟨hl,?_⟩;obtain⟨go,stop⟩:=it M2 H2 e2 hr2 i
 by_cases hlt:i<ds.length
 ·have hd:ds[i]?=some ds[i]:=by simp[hlt]
  obtain⟨g1,y1⟩:=go _ hd;rw[List.drop_eq_getElem_cons hlt]at f2;simp only[cH]at f2;obtain⟨Δ3,eg,f3⟩:=f2;refine .inr ⟨g1,fun x H' hy=>?_⟩;obtain⟨e3,hr3,rx⟩:=y1 x H' hy;refine kg _ x σ2 Δ2 Δ3 M2 H' _ (sr2.ext e3) hr3 rx eg fun σ3 sr3=>?_;refine⟨Δ3,M2,_,sr3,hr3,f3,fun b M4 H4 q4 e4 hr4=>?_⟩;cases b with
  |true =>
   simp only[if_true]at q4 ⊢;refine⟨Δ3,M4,_,sr3.ext e4,hr4,q4,fun y M5 v5 H5 q5 e5 hr5 rv5=>?_⟩;refine⟨ds.length-(i+1),by lia,Δ3,M5,acc++[y],rfl,hlt,((e2.trans e3).trans e4).trans e5,hr5,(sr3.ext e4).ext e5,(((ra.ext e3).ext e4).ext e5).append (aj.cons rv5 aj.nil),by simp;lia,q5⟩
  |false =>
   simp only[E2,if_false]at q4 ⊢;exact⟨ds.length-(i+1),by lia,Δ3,M4,acc,rfl,hlt,(e2.trans e3).trans e4,hr4,sr3.ext e4,(ra.ext e3).ext e4,by lia,q4⟩
 ·rw[List.drop_eq_nil_of_le (by lia)]at f2;exact .inl ⟨stop (by lia),M2,acc,e2,hr2,ra,f2⟩
theorem p7{K:o0}{wi:TId}{g:GD}{tc:TTd}{te:TEd}{gv:TG}{ms:List Bool}{kk:Nat}(kg:sT K g gv) :
  ∀ σ H Q,up K (dLc ms kk wi g tc te) σ H Q->tLc ms kk (upI K wi) gv (upT K tc) (up K te) σ H Q:=by
 rintro σ H Q ⟨Δ,M,R,sr,hr,q,k⟩;refine⟨Δ,M,_,sr,hr,q,fun ds M1 J H1 ⟨hz,q1⟩ e1 hr1 it=>?_⟩;obtain⟨W,Z,hW,hC,hZ⟩:=vo kg it hr1 hz ((sr.ext e1).comp ms kk) q1;refine⟨W,Z,hW,hC,fun ys σ' H' p z hp=>?_⟩;obtain⟨M',acc,e',hr',ra,q'⟩:=hZ _ _ _ z;refine k _ M' _ _ q' ((e1.trans e').trans (Ext.new hr' hp)) (hr'.new hp) ?_;simp only[Rep];exact⟨p,ys,rfl,⟨bK,hr'.fresh hp⟩,ra.ext (Ext.new hr' hp)⟩
variable{scope:L5}{cl:List (Str×B0)}{ms:List Bool}{ao:List Str}{ifs:List B5}
def PGa(X:Cx) (scope:L5) (cl:List (Str×B0)) (ao:List Str) (tg:B5) (g:GD):Prop:=∃gv:TG,(∀C s H ex,PG (aP X scope cl (X.N++ao) C s H ex) tg gv)/\sT X.K g gv
theorem aR{i:Nat}{x:Str}{pos:Pos}(hN:(X.N++ao).Nodup) (hi:(X.N++ao)[i]?=some x) (hx:(relabel scope X.env).names.lookup x=some .local):PGa X scope cl ao (.Name x pos) (bT i) :=
 ⟨nN i,fun C s H ex=>qy hN hi (.inl hx) (.inr hx),fun d v σ Δ Δ' M H Q sr hr rv e k=>by cases e;exact k _ (sr.set i rv)⟩
end
abbrev SpD:=List D->DH->(D->DH->Prop)->Prop
def spD(K:o0) (n:Nat) (S:SpD):Sp:=fun vs H Q _=>∃(ds:List D) (M:DH) (R:D->DH->Prop),ds.length=n/\aj K M H ds vs/\HR K M H/\S ds M R/\∀d M' v H',R d M'->Ext M H M' H'->HR K M' H'->Rep K M' H' d v->Q v H'
theorem u9{K:o0}{n:Nat}{S:SpD}{vs:List V}{H:Hp}{Q:VK}{E:XK}(h:spD K n S vs H Q E):vs.length=n:=by
 obtain⟨ds,M,R,hl,r,_⟩:=h;rw[<-r.length];exact hl
def gq(N:List Str) (ds:List D):DE:=ds.map some++A7 (N.length-ds.length) none
theorem sH{K:o0}{M:DH}{H:Hp}{N:List Str}:∀{ds:List D}{vs:List V},aj K M H ds vs->SR K M H (eX N vs) (gq N ds):=by
 intro ds vs h;have hl:=h.length;refine⟨by simp[eX,gq,hl],fun i d q=>?_⟩;unfold gq at q
 by_cases hi:i<ds.length
 ·rw[C6 (by simpa using hi),F0]at q;cases e:ds[i]? with
  |none=>rw[e]at q;cases q
  |some d' =>
   rw[e]at q;cases q;obtain⟨v,gv,rv⟩:=h.get e;refine⟨v,?_,rv⟩;unfold eX;rw[C6 (by simp;lia),F0,gv];rfl
 ·rw[F3 (by simpa using hi),J9]at q
  split at q<;>cases q
section
variable{P:D0}{w:F2}{K:o0}{mg:Str->Option s0}{base:C7}{f:B0}{fd:F8}
theorem Fun.okD{x qual:Str}{st:Q6}{f:B0}{fd:F8}{N ps:List Str}{k n:Nat}{S:SpD}(F:Fun K x qual st f fd) (hn:ps.length=n) (Sc:av N ps (ag st))
  (hbody:∀ (cdv:s0) (A:D9) (outer:List Env) (s:u8) (H:Hp) (E:XK),cv k (A.deeper (R3 qual (ag st) s.heap.objs.size f cdv)) →
   ∃t:TSd,ux (nI CX0 P w K mg base N qual (ag st) f cdv A outer s H E).nox (cy st) t/\∀ds M R,ds.length=n->S ds M R->t { nx:=fun _ M'=>R .non M',rt:=R } (gq N ds) M):aO P w K mg base CX0 (k+1) f fd ps (spD K n S):=by
 refine F.ok Sc (fun vs H Q E h=>by rw[hn];exact u9 h) (fun cdv A outer s H vs Q E hr h=>?_);obtain⟨t,ht,hq⟩:=hbody cdv A outer s H E hr;obtain⟨ds,M,R,hl,r,hrr,q,k'⟩:=h;refine⟨_,ht,gq N ds,M,_,sH r,hrr,hq ds M R hl q,⟨fun Δ' M' σ' H' q' e' hr' _=>k' .non M' .non H' q' e' hr' (by simp[Rep]),fun _ _ _ _ q'=>F6 q',fun _ _ _ _ q'=>F6 q',fun d M' v H' q' e' hr' rv=>k' d M' v H' q' e' hr' rv⟩⟩
end
section
variable{X:Cx}{a b c e:B5}{es:List B5}{te ta tb:TEd}{t:TAd}{pos:Pos}
def kB(n:Nat) (S:SpD) (t:TAd):TEd:=fun Δ M Q=>t Δ M fun ds M1=>ds.length=n/\S ds M1 Q
theorem xU{k:Nat}{f:B0}{fd:F8}{ps:List Str}{n:Nat}{S:SpD}{x:Str}{p:Pos}(F:aO X.prog X.w X.K X.mg X.base CX0 k f fd ps (spD X.K n S)) (hr:cv k X.A) (hg:Gl X x) (hm:X.mg x=some (.ref f)) (hk:K4 X.K (.ref f)=true) (hb:de X.K fd ps [])
  (ha:PAd X (e::es) t) (hdb:(x==("__debug__":Str))=false:=by decide) (he:A8 (e::es) X.env=(false,N0 e X.env)::A8 es X.env:=by rfl) (hpl:(J0 pos (A8 es X.env)).any (·.1)=false:=by rfl) :
  PEd X (.Call (.Name x p) (e::es) [] pos) (kB n S t) :=
 (qk F hr hg hm hk hb .nil wq ha hdb he hpl).conv fun σ H Q hup => hup.el fun Δ M R sr hr q k => ⟨Δ,M,_,sr,hr,q,fun ds M1 vs H1 ⟨hl,q1⟩ e1 hr1 rv => by
  dsimp only;rw[M0];exact⟨ds,M1,R,hl,rv,hr1,q1,fun d M' v H' q' e' hr' rv'=>k d M' v H' q' (e1.trans e') hr' rv'⟩⟩
def vY(M1 M2:DH) (d d2:D):Prop:=d2=d∨∃a l,d=.ref a/\M1 a=some (.lst l)/\M2 a=none/\d2=.lst l
theorem n5{K:o0}{M1 M2:DH}{H:Hp}(hr:HR K M1 H) (hle:LeM M2 M1):∀{ds ds2:List D}{vs:List V},K6 (vY M1 M2) ds ds2->aj K M1 H ds vs->aj K M2 H ds2 vs
 |_,_,_,.nil,h=>by simp only[aj]at h ⊢;exact h
 |_,_,_,.cons h1 t,h=>by
  simp only[aj]at h;obtain⟨v,ws,rfl,h3,h4⟩:=h;refine aj.cons ?_ (n5 hr hle t h4);rcases h1 with rfl|⟨a,l,rfl,e1,e2,rfl⟩
  ·exact h3.ext (Ext.le hle)
  ·simp only[Rep]at h3;subst h3;exact Rep.froze hr hle e1 e2
def lZ(n:Nat) (S:SpD) (t:TAd):TEd:=fun Δ M Q=>t Δ M fun ds M1=>∃(M2:DH) (ds2:List D) (R:D->DH->Prop),LeM M2 M1/\K6 (vY M1 M2) ds ds2/\ds2.length=n/\S ds2 M2 R /\
 ∀d M3,R d M3->noL d=true/\(∀a o,M3 a=some o->noC o=true)/\Q d (gb M1 M2 M3)
theorem uC{k:Nat}{f:B0}{fd:F8}{ps:List Str}{n:Nat}{S:SpD}{x:Str}{p:Pos}(F:aO X.prog X.w X.K X.mg X.base CX0 k f fd ps (spD X.K n S)) (hr:cv k X.A) (hg:Gl X x) (hm:X.mg x=some (.ref f)) (hk:K4 X.K (.ref f)=true) (hb:de X.K fd ps [])
  (ha:PAd X (e::es) t) (hdb:(x==("__debug__":Str))=false:=by decide) (he:A8 (e::es) X.env=(false,N0 e X.env)::A8 es X.env:=by rfl) (hpl:(J0 pos (A8 es X.env)).any (·.1)=false:=by rfl) :
  PEd X (.Call (.Name x p) (e::es) [] pos) (lZ n S t) :=
 (qk F hr hg hm hk hb .nil wq ha hdb he hpl).conv fun σ H Q hup => hup.el fun Δ M R sr hr q k => ⟨Δ,M,_,sr,hr,q,fun ds M1 vs H1 ⟨M2,ds2,R2,hle,hp,hl,q1,q2⟩ e1 hr1 rv => by
  dsimp only;rw[M0];refine⟨ds2,M2,R2,hl,n5 hr1 hle hp rv,hr1.le hle,q1,fun d M3 v H' q' e' hr' rv'=>?_⟩;obtain⟨n1,n2,q3⟩:=q2 d M3 q';exact k d _ v H' q3 (e1.trans (Ext.back hle e')) (hr1.back hle e' hr' n2) (Rep.hard n1 rv' (bV hr1 hle e' hr'))⟩
def zJ(to ti te:TEd):TSd:=fun E Δ M=>te Δ M fun d M1=>to Δ M1 fun o M2=>ti Δ M2 fun i M3=>∃a ds k j,o=.ref a/\i=.int k/\M3 a=some (.lst ds)/\ixN ds.length k=some j/\E.nx Δ (ar M3 a (.lst (ds.set j d)))
def vR(to te:TEd):TEd:=fun Δ M Q=>to Δ M fun o M1=>∃a l,o=.ref a/\M1 a=some (.lst l)/\te Δ M1 fun d M2=>∃ds,M2 a=some (.lst ds)/\ds.length<A3/\Q .non (ar M2 a (.lst (ds++[d])))
end
def ItW(n:Nat) (Vp:Nat->V->Prop):It:=⟨fun i _=>i<n,fun i H x H'=>H'=H/\Vp i x,fun i _=>n<=i⟩
theorem rR{P:D0}{w:F2}{K:o0}{tg:B5}{it:B0}{n:Nat}{Pv:Nat->s0->Prop}{St:Nat->C7->Prop}{ty:String}{Vp:Nat->V->Prop}
  (W:∀A:D9,A.handled=none->Walks P w A it [it] [it] n Pv St) (ho:∀i h,St i h->∃o,h.get? it=some o/\o.cls=.type ty/\∃vs,o.data=.fields vs)
  (hn:["enumerate","zip","dict_itemiterator","dict_reverseitemiterator","odict_iterator","itertools.zip_longest","itertools.pairwise"].contains ty=false)
  (hv:∀i u,Pv i u->∃x,aG x u/\Vp i x) (hself:∀(A:D9) (i:Nat) (s:u8) (Q:s0->u8->Prop) (E:s0->u8->Prop),St i s.heap->Q (.ref it) s->B9 (C8 P w) A (pyIter (.ref it)) Q E s):lY P w K tg (ItW n Vp) [it] it (fun i h=>i<=n/\St i h) where
 mem:=by simp
 obj:=fun i h st b hb=>by
  have e:b=it:=by simpa using hb
  subst e;obtain⟨o,e,c,vs,d⟩:=ho i h st.2;exact⟨o,e,fun v z=>by rw[d]at z;cases z⟩
 keep:=fun i h h' st k=>⟨st.1,(W { handled:=none } rfl).frame i h h' st.2 k⟩
 item:=by
  intro X hP hw hK hc i aa s σ H E I hf st hg;subst hP hw hK;obtain⟨f0,f1,f2,f3,f4,f5⟩:=hf it (by simp);refine(W X.A (I.ok.hd hc)).item i s _ _ hg st.2 fun v h' tk pv st' kk=>?_;have I1:Inv X aa σ H { s with heap:=h',toks:=tk }:=I.turned (fun b o hb e=>kk b o (by simpa using hb) e) f0 f1 f3 f4 f5;obtain⟨x,rx,vx⟩:=hv i v pv;obtain⟨o,e,c,vs,d⟩:=ho _ _ st';exact⟨v,rfl,p6 (s:={ s with heap:=h',toks:=tk }) e c d hn ⟨x,H,I1,rx,⟨rfl,vx⟩,⟨hg,st'⟩,fun b hb=>(hf b hb).1⟩⟩
 done:=by
  intro X hP hw hK hc i aa s σ H E I hf st hg;subst hP hw hK;obtain⟨f0,f1,f2,f3,f4,f5⟩:=hf it (by simp);have e:i=n:=Nat.le_antisymm st.1 hg;subst e;exact(W X.A (I.ok.hd hc)).done s _ _ st.2 fun h' tk kk=>⟨rfl,I.turned (fun b o hb e=>kk b o (by simpa using hb) e) f0 f1 f3 f4 f5⟩
 self:=fun A i s Q E st h=>hself A i s Q E st.2 h
section
variable{X:Cx}{a b c e:B5}{es:List B5}{te ta tb:TEd}{t:TAd}{pos:Pos}{tg iter:B5}
noncomputable def bB(x:Str):List D:=x.cps.toList.map fun c=>.str ⟨#[c]⟩
theorem pY{aa:List (B0×Obj)}{σ:St}{H:Hp}{s:u8}{x:Str}{t:Tok}{R:It->Hp->Prop}(I:Inv X aa σ H s) (ty:String) (hn:["enumerate","zip","dict_itemiterator","dict_reverseitemiterator","odict_iterator","itertools.zip_longest","itertools.pairwise"].contains ty=false)
  (W:∀A:D9,A.handled=none->Walks X.prog X.w A s.heap.objs.size [s.heap.objs.size] [s.heap.objs.size] x.cps.size (SignAt x) (fun i h=>h.IsStrIter s.heap.objs.size ty x t i))
  (hself:∀(A:D9) (i:Nat) (s':u8) (Q:s0->u8->Prop) (E:s0->u8->Prop),s'.heap.IsStrIter s.heap.objs.size ty x t i->Q (.ref s.heap.objs.size) s'->B9 (C8 X.prog X.w) A (pyIter (.ref s.heap.objs.size)) Q E s')
  (q:R (ItW x.cps.size fun i v=>∃c,x.cps[i]?=some c/\v=.str ⟨#[c]⟩) H):PIE X aa σ tg R (.ref s.heap.objs.size) { s with heap:=s.heap.push { cls:=.type ty,data:=.fields #[.str x t,.int 0 0] } }:=by
 have I1:Inv X aa σ H { s with heap:=s.heap.push { cls:=.type ty,data:=.fields #[.str x t,.int 0 0] } }:=I.kept (t':=s.toks) fun b o e=>A6 _ e;refine⟨s.heap.objs.size,[s.heap.objs.size],_,_,H,rfl,I1,rR W (fun i h st=>?_) hn (fun i u ⟨c,t',e,ev⟩=>⟨.str ⟨#[c]⟩,⟨t',ev⟩,c,e,rfl⟩) hself,⟨P5 _,_,B6 _ rfl,rfl,rfl⟩,fun b hb=>?_,q⟩
 ·obtain⟨o,e,c,d⟩:=st;exact⟨o,e,c,_,d⟩
 ·have e:b=s.heap.objs.size:=by simpa using hb
  subst e;exact I.fpOk (B4 _) (I.hok.fresh (B4 _))
end
section
variable{X:Cx}{a b c e:B5}{es:List B5}{te ta tb:TEd}{t:TAd}{pos:Pos}
def eqF(x y:D):Option D:=if dLe x 60=true/\dLe y 60=true then some (.bl (eqD x y))else none
theorem t6{x y z:D}(h:eqF x y=some z):dLe x 60=true/\dLe y 60=true/\z=.bl (eqD x y):=by
 unfold eqF at h
 by_cases hc:dLe x 60=true/\dLe y 60=true
 ·rw[if_pos hc]at h;cases h;exact⟨hc.1,hc.2,rfl⟩
 ·rw[if_neg hc]at h;cases h
theorem iM(hu:X.A.units+64<cLine):bO X (C2 .Eq) eqF:=by
 intro aa s σ H M x y v u dx dy dz Q I hr rx ry r1 r2 e k;obtain⟨h1,h2,rfl⟩:=t6 e;exact(my I 60 (A:=X.A) (by lia) h1 h2 r1 r2 rx ry).2.1 X.prog X.w X.xe _ ⟨.bl (eqD dx dy),H,I,rfl,k _ H (Ext.refl _ _) hr (by simp[Rep])⟩
def inD(neg:Bool) (x y:D):Option D:=match y with
 |.lst ds=>if aW x=true/\ds.all aW=true then some (.bl (xor neg (ds.any fun d=>eqD d x)))else none
 |.tup ds=>if aW x=true/\ds.all aW=true then some (.bl (xor neg (ds.any fun d=>eqD d x)))else none
 |_=>none
theorem yu{K:o0}{M:DH}{H:Hp}{d:D}{v:V}(h:aW d=true) (r:Rep K M H d v):v=toV d/\fw v=true:=by
 cases d<;>first|(simp only[Rep]at r;subst r;exact⟨rfl,rfl⟩)|cases h
theorem uY{x y:D}(hx:aW x=true) (hy:aW y=true):eqV (toV x) (toV y)=eqD x y:=by
 cases x<;>cases y<;>first|(simp[aW]at hx;done)|(simp[aW]at hy;done)|(simp[toV,eqV,eqD];done)
theorem e9{K:o0}{M:DH}{H:Hp}{x:D}(hx:aW x=true):∀{ds:List D}{vs:List V},aj K M H ds vs->ds.all aW=true->vs.all fw=true/\inV (toV x) vs=ds.any fun d=>eqD d x
 |[],_,h,_=>by simp only[aj]at h;subst h;simp[inV]
 |d::ds,_,h,ha=>by
  simp only[aj]at h;obtain⟨v,ws,rfl,h3,h4⟩:=h;rw[M8,C1]at ha;obtain⟨e1,e2⟩:=yu ha.1 h3;obtain⟨e3,e4⟩:=e9 hx h4 ha.2;subst e1;refine⟨by rw[M8,e2,e3];rfl,?_⟩;unfold inV at e4 ⊢;rw[F9,F9,e4,uY ha.1 hx]
theorem aF.scal{K:o0}{M:DH}{H:Hp}{d:D}{v:V}(h:aW d=true) (r:aF K M H d v):v=toV d/\fw v=true:=by
 cases d<;>first|(simp only[aF,Rep]at r;subst r;exact⟨rfl,rfl⟩)|cases h
theorem AD:bO X (C2 .In) (inD false):=bO.of rG fun H M x y dx dy dz Q hr r1 r2 e q=>by
 cases dy with
 |lst ds =>
  simp only[inD]at e
  by_cases hc:aW dx=true/\ds.all aW=true
  ·rw[if_pos hc]at e;cases e;obtain⟨l,vs,rfl,sq,rl⟩:=r2;obtain⟨e1,e2⟩:=aF.scal hc.1 r1;obtain⟨e3,e4⟩:=e9 hc.1 rl hc.2;subst e1;refine⟨l,vs,rfl,.inl (SqL.of sq),e2,e3,q _ H (Ext.refl _ _) hr ?_⟩;rw[e4];simp[Rep]
  ·rw[if_neg hc]at e;cases e
 |tup ds =>
  simp only[inD]at e
  by_cases hc:aW dx=true/\ds.all aW=true
  ·rw[if_pos hc]at e;cases e;obtain⟨l,vs,rfl,sq,rl⟩:=r2;obtain⟨e1,e2⟩:=aF.scal hc.1 r1;obtain⟨e3,e4⟩:=e9 hc.1 rl hc.2;subst e1;refine⟨l,vs,rfl,.inr sq,e2,e3,q _ H (Ext.refl _ _) hr ?_⟩;rw[e4];simp[Rep]
  ·rw[if_neg hc]at e;cases e
 |_=>cases e
theorem vi:bO X (C2 .NotIn) (inD true):=bO.of mZ fun H M x y dx dy dz Q hr r1 r2 e q=>by
 cases dy with
 |lst ds =>
  simp only[inD]at e
  by_cases hc:aW dx=true/\ds.all aW=true
  ·rw[if_pos hc]at e;cases e;obtain⟨l,vs,rfl,sq,rl⟩:=r2;obtain⟨e1,e2⟩:=aF.scal hc.1 r1;obtain⟨e3,e4⟩:=e9 hc.1 rl hc.2;subst e1;refine⟨l,vs,rfl,.inl (SqL.of sq),e2,e3,q _ H (Ext.refl _ _) hr ?_⟩;rw[e4];simp[Rep]
  ·rw[if_neg hc]at e;cases e
 |tup ds =>
  simp only[inD]at e
  by_cases hc:aW dx=true/\ds.all aW=true
  ·rw[if_pos hc]at e;cases e;obtain⟨l,vs,rfl,sq,rl⟩:=r2;obtain⟨e1,e2⟩:=aF.scal hc.1 r1;obtain⟨e3,e4⟩:=e9 hc.1 rl hc.2;subst e1;refine⟨l,vs,rfl,.inr sq,e2,e3,q _ H (Ext.refl _ _) hr ?_⟩;rw[e4];simp[Rep]
  ·rw[if_neg hc]at e;cases e
 |_=>cases e
def pe(f:D->Option D):List D->Option D
 |[d]=>f d
 |_=>none
theorem qD{K:o0}{M:DH}{H:Hp}{d:D}{xs:List V}(h:K6 (aF K M H) [d] xs):∃v,xs=[v]/\aF K M H d v:=by
 cases h with
 |cons r t=>cases t;exact⟨_,rfl,r⟩
theorem fO{f:D->Option D}{ds:List D}{z:D}(h:pe f ds=some z):∃d,ds=[d]/\f d=some z:=by
 match ds,h with
 |[d],h=>exact⟨d,rfl,h⟩
noncomputable def pd:D->Option D
 |.tup ds=>some (.int ds.length)
 |.lst ds=>some (.int ds.length)
 |.scr ds=>some (.int ds.length)
 |.str x=>if x.length<=A3 then some (.int x.length)else none
 |_=>none
theorem cm:cw X (.builtin "len") (pe pd):=cw.of (cO.or l0 mw) fun H M xs ds dz Q hr rp e q=>by
 obtain⟨d,rfl,e0⟩:=fO e;clear e;have e:=e0;clear e0;obtain⟨v,rfl,r⟩:=qD rp;cases d with
 |tup ds=>cases e;obtain⟨l,vs,rfl,sq,rl⟩:=r;exact .inl ⟨l,vs,rfl,.inr sq,q _ H (Ext.refl _ _) hr (by rw[<-rl.length];simp[Rep])⟩
 |lst ds=>cases e;obtain⟨l,vs,rfl,sq,rl⟩:=r;exact .inl ⟨l,vs,rfl,.inl (SqL.of sq),q _ H (Ext.refl _ _) hr (by rw[<-rl.length];simp[Rep])⟩
 |scr ds=>cases e;obtain⟨l,vs,rfl,sq,rl⟩:=r;exact .inl ⟨l,vs,rfl,.inl sq,q _ H (Ext.refl _ _) hr (by rw[<-rl.length];simp[Rep])⟩
 |str x =>
  simp only[pd]at e
  by_cases hz:x.length<=A3
  ·rw[if_pos hz]at e;cases e;exact .inr ⟨x,by rw[kL r],hz,q _ H (Ext.refl _ _) hr (by simp[Rep])⟩
  ·rw[if_neg hz]at e;cases e
 |_=>cases e
def zc:D->Option D
 |.int i=>some (.int (if i<0 then -i else i))
 |_=>none
theorem za:cw X (.builtin "abs") (pe zc):=cw.of sL fun H M xs ds dz Q hr rp e q=>by
 obtain⟨d,rfl,e0⟩:=fO e;clear e;have e:=e0;clear e0;obtain⟨v,rfl,r⟩:=qD rp;cases d with
 |int i=>cases e;exact⟨i,by rw[gx r],q _ H (Ext.refl _ _) hr (by simp[Rep])⟩
 |_=>cases e
def tZ:D->Option D
 |.lst ds=>some (.tup ds)
 |.tup ds=>some (.tup ds)
 |_=>none
theorem dj:cw X (.type "tuple") (pe tZ):=cw.of kT fun H M xs ds dz Q hr rp e q=>by
 obtain⟨d,rfl,e0⟩:=fO e;clear e;have e:=e0;clear e0;obtain⟨v,rfl,r⟩:=qD rp;cases d with
 |lst ds=>cases e;obtain⟨l,vs,rfl,sq,rl⟩:=r;exact⟨l,vs,rfl,.inl ⟨SqL.of sq,fun p hp=>mM hr hp rl q⟩⟩
 |tup ds=>cases e;have t1:=aF.tup hr r;obtain⟨l,vs,rfl,sq,rl⟩:=r;exact⟨l,vs,rfl,.inr ⟨sq,q _ H (Ext.refl _ _) hr t1⟩⟩
 |_=>cases e
def ub:D->Bool
 |.bl _=>true
 |_=>false
def qR:D->Bool
 |.bl b=>b
 |_=>false
def rj:D->Option D
 |.lst ds=>if ds.all ub=true then some (.bl (ds.all qR))else none
 |_=>none
theorem rD{p:Nat->Bool}{q:D->Bool}:∀{ds:List D},(∀i d,ds[i]?=some d->p i=q d)->(K3 ds.length).all p=ds.all q:=by
 intro ds h;rw[Bool.eq_iff_iff,N9,N9];constructor
 ·intro hh d hd;obtain⟨i,hi,e⟩:=List.mem_iff_getElem.mp hd;rw[<-h i d (by rw[List.getElem?_eq_getElem hi,e])];exact hh i (List.mem_range.mpr hi)
 ·intro hh i hi;have hi:=List.mem_range.mp hi;rw[h i ds[i] (by simp[hi])];exact hh _ (List.getElem_mem hi)
theorem uc{K:o0}{M:DH}{H:Hp}{ds:List D}{vs:List V}{us:List s0}(rl:aj K M H ds vs) (rv:ay vs us) (hb:ds.all ub=true) {i:Nat}{u:s0}(h:us[i]?=some u):∃d,ds[i]?=some d/\u=.bool (qR d):=by
 have hi:i<ds.length:=by rw[rl.length,rv.length];exact(E5.mp h).1
 obtain⟨v,g,r⟩:=rl.get (i:=i) (d:=ds[i]) (by simp[hi]);obtain⟨u',g',r'⟩:=rv.get g;rw[h]at g';cases g';have hbi:=N9.mp hb ds[i] (List.getElem_mem hi);refine⟨ds[i],by simp[hi],?_⟩;cases q:ds[i]with
 |bl b=>rw[q]at r;simp only[Rep]at r;subst r;exact r'
 |_=>rw[q]at hbi;cases hbi
theorem jB(hc:X.calm=true):cw X (.builtin "all") (pe rj):=by
 intro aa s σ H M xs us ds dz Q I hr rv rp e k;obtain⟨d,rfl,e0⟩:=fO e;clear e;have e:=e0;clear e0;obtain⟨v,rfl,r⟩:=qD rp;obtain⟨u,rfl,ru⟩:=ay.one rv;cases d with
 |lst ds =>
  simp only[rj]at e
  by_cases hb:ds.all ub=true
  ·rw[if_pos hb]at e;cases e;obtain⟨l,vs,rfl,sq,rl⟩:=r;cases ru;obtain⟨its,rv,pl,hz⟩:=I.list (SqL.of sq);have hne:l≠s.heap.objs.size:=B8 (I.hok.lt sq);refine call_all_walk (wpAny_pyIter_list pl.isList ⟨s.heap.objs.size,[s.heap.objs.size,l],[s.heap.objs.size],its.toArray.size,_,_,fun i=>(ds[i]?.map qR).getD false,rfl,Walks.list (A:=X.A.in1) (show X.A.in1.handled=none from I.ok.hd hc) s.heap.objs.size l hne its.toArray,⟨⟨_,B6 _ rfl,rfl,rfl⟩,?_⟩,fun i v s' Q' E' hv q=>?_,fun h' tk kk=>?_⟩)
   ·obtain⟨o,e,c⟩:=pl.isList;exact⟨o,A6 _ e,c⟩
   ·obtain⟨d,hd,rfl⟩:=uc rl rv hb (i:=i) (u:=v) (by simpa using hv);dsimp only at q;rw[hd]at q;exact J1 q
   ·have I1:Inv X aa σ H { s with heap:=h',toks:=tk }:=I.kept (t':=tk) fun b o e=>kk b o (by simpa using B8 (A9 e)) (A6 _ e);refine⟨.bl _,H,I1,rfl,k _ H (Ext.refl _ _) hr ?_⟩;rw[A5,<-rv.length,<-rl.length,rD (q:=qR) (fun i d hd=>by simp[hd])];simp[Rep]
  ·rw[if_neg hb]at e;cases e
 |_=>cases e
end
section
variable{X:Cx}{a b c e:B5}{es:List B5}{te ta tb:TEd}{t:TAd}{pos:Pos}
noncomputable def uJ(T:String):D->Option Bool
 |.non=>some false
 |.bl _=>some (T=="bool" || T=="int")
 |.int _=>some (T=="int")
 |.str _=>some (T=="str")
 |.tup _=>some (T=="tuple")
 |.lst _=>some (T=="list")
 |.emp=>some (T=="dict")
 |_=>none
def okT(T:String):Bool:=T=="bool" || T=="int" || T=="str" || T=="tuple" || T=="list"
def zC(T:String) (te:TEd):TEd:=fun Δ M Q=>te Δ M fun d M1=>∃k,uJ T (rdM M1 d)=some k/\Q (.bl k) M1
theorem rN{T:String}(hT:okT T=true) {aa:List (B0×Obj)}{s:u8}{σ:St}{H:Hp}{M:DH}{v:V}{u:s0}{d:D}{k:Bool}{Q:VK}(I:Inv X aa σ H s) (r:aG v u) (rd:aF X.K M H d v) (e:uJ T d=some k) (q:Q (.bl k) H) :
  B9 (C8 X.prog X.w) X.A (call (.builtin "isinstance") [u,.type T]) (EP X aa σ Q) X.xe s:=by
 have fin:∀{k'} ,k=k'->EP X aa σ Q (.bool k') s:=fun e=>by subst e;exact⟨.bl k,H,I,rfl,q⟩
 have fint:∀{k'} ,k=k'->EP X aa σ Q (.bool k') { s with toks:=s.toks+1 }:=fun e=>by subst e;exact⟨.bl k,H,I.tok _,rfl,q⟩
 have h5:T="bool"∨T="int"∨T="str"∨T="tuple"∨T="list":=by
  simp[okT]at hT;rcases hT with(((h|h)|h)|h)|h<;>simp[h]
 cases d with
 |non =>
  simp only[aF,Rep]at rd;subst rd;simp only[aG]at r;subst r;cases e;rcases h5 with rfl|rfl|rfl|rfl|rfl
  ·exact IsiPair.NoneType_bool (fint rfl)
  ·exact IsiPair.NoneType_int (fint rfl)
  ·exact IsiPair.NoneType_str (fint rfl)
  ·exact IsiPair.NoneType_tuple (fint rfl)
  ·exact IsiPair.NoneType_list (fint rfl)
 |bl b =>
  simp only[aF,Rep]at rd;subst rd;simp only[aG]at r;subst r;cases e;rcases h5 with rfl|rfl|rfl|rfl|rfl
  ·exact IsiPair.bool_bool (fin rfl)
  ·exact IsiPair.bool_int (fin rfl)
  ·exact IsiPair.bool_str (fint rfl)
  ·exact IsiPair.bool_tuple (fint rfl)
  ·exact IsiPair.bool_list (fint rfl)
 |int i =>
  simp only[aF,Rep]at rd;subst rd;obtain⟨t,rfl⟩:=r;cases e;rcases h5 with rfl|rfl|rfl|rfl|rfl
  ·exact IsiPair.int_bool (fint rfl)
  ·exact IsiPair.int_int (fin rfl)
  ·exact IsiPair.int_str (fint rfl)
  ·exact IsiPair.int_tuple (fint rfl)
  ·exact IsiPair.int_list (fint rfl)
 |str x =>
  simp only[aF,Rep]at rd;subst rd;obtain⟨t,rfl⟩:=r;cases e;rcases h5 with rfl|rfl|rfl|rfl|rfl
  ·exact IsiPair.str_bool (fint rfl)
  ·exact IsiPair.str_int (fint rfl)
  ·exact IsiPair.str_str (fin rfl)
  ·exact IsiPair.str_tuple (fint rfl)
  ·exact IsiPair.str_list (fint rfl)
 |tup ds =>
  obtain⟨a,vs,rfl,sq,rl⟩:=rd;cases r;cases e;obtain⟨its,rv,⟨o,ho,hc,_⟩,_⟩:=I.tuple sq;rcases h5 with rfl|rfl|rfl|rfl|rfl
  ·exact IsiPair.tuple_bool ho hc (fint rfl)
  ·exact IsiPair.tuple_int ho hc (fint rfl)
  ·exact IsiPair.tuple_str ho hc (fint rfl)
  ·exact IsiPair.tuple_tuple ho hc (fin rfl)
  ·exact IsiPair.tuple_list ho hc (fint rfl)
 |lst ds =>
  obtain⟨a,vs,rfl,sq,rl⟩:=rd;cases r;cases e;obtain⟨its,rv,⟨o,n,ho,hc,_⟩,_⟩:=I.list (SqL.of sq);rcases h5 with rfl|rfl|rfl|rfl|rfl
  ·exact IsiPair.list_bool ho hc (fint rfl)
  ·exact IsiPair.list_int ho hc (fint rfl)
  ·exact IsiPair.list_str ho hc (fint rfl)
  ·exact IsiPair.list_tuple ho hc (fint rfl)
  ·exact IsiPair.list_list ho hc (fin rfl)
 |emp =>
  simp only[aF,Rep]at rd;obtain⟨a,rfl,h1,_⟩:=rd;cases r;cases e;obtain⟨_,_,_,_,o,es,ep,ho,ex,_⟩:=I.hok a _ h1;rcases h5 with rfl|rfl|rfl|rfl|rfl
  ·exact IsiPair.dict_bool ho ex.1 (fint rfl)
  ·exact IsiPair.dict_int ho ex.1 (fint rfl)
  ·exact IsiPair.dict_str ho ex.1 (fint rfl)
  ·exact IsiPair.dict_tuple ho ex.1 (fint rfl)
  ·exact IsiPair.dict_list ho ex.1 (fint rfl)
 |_=>cases e
abbrev TOd:=DE->DH->(Option Int->DH->Prop)->Prop
def upO(K:o0) (t:TOd):TO:=fun σ H Q=>∃(Δ:DE) (M:DH) (R:Option Int->DH->Prop),SR K M H σ Δ/\HR K M H/\t Δ M R/\∀i M' H',R i M'->Ext M H M' H'->HR K M' H'->Q i H'
theorem upO.el{K:o0}{t:TOd}{σ:St}{H:Hp}{Q:Option Int->Hp->Prop}{P:Prop}(h:upO K t σ H Q) (f:∀(Δ:DE) (M:DH) (R:Option Int->DH->Prop),SR K M H σ Δ->HR K M H->t Δ M R->(∀i M' H',R i M'->Ext M H M' H'->HR K M' H'->Q i H')->P):P:=by
 obtain⟨x1,x2,x3,a,b,c,d⟩:=h;exact f x1 x2 x3 a b c d
def POd(X:Cx) (e:Option B5) (t:TOd):Prop:=PO X e (upO X.K t)
def mO:TOd:=fun _ M Q=>Q none M
def ui(t:TEd):TOd:=fun Δ M Q=>t Δ M fun d M1=>∃i,d=.int i/\Q (some i) M1
theorem PO.conv{e:Option B5}{t t':TO}(h:PO X e t) (k:∀ σ H Q,t' σ H Q->t σ H Q):PO X e t':=fun p s σ H Q I q=>h p s σ H Q I (k σ H Q q)
theorem vt:POd X none mO:=vJ.conv fun σ H Q hup=>hup.el fun Δ M R sr hr q k=>k none M H q (Ext.refl _ _) hr
theorem uR(h:PEd X e te):POd X (some e) (ui te):=(uD h).conv fun σ H Q hup=>hup.el fun Δ M R sr hr q k=>⟨Δ,M,_,sr,hr,q,fun d M1 v H1 ⟨i,ed,q1⟩ e1 hr1 rv=>⟨i,by subst ed;simpa only[Rep]using rv,k _ M1 H1 q1 e1 hr1⟩⟩
def dF(xs:List D) (lo hi:Option Int):List D:=(xs.drop (HT.sIx xs.length 0 lo)).take (HT.sIx xs.length xs.length hi-HT.sIx xs.length 0 lo)
def slD:D->Option Int->Option Int->Option D
 |.lst ds,lo,hi=>some (.lst (dF ds lo hi))
 |.scr ds,lo,hi=>some (.lst (dF ds lo hi))
 |.str x,lo,hi=>if x.length<=A3 then some (.str (O6 x lo hi))else none
 |.tup ds,lo,hi=>if HT.sIx ds.length 0 lo=0/\HT.sIx ds.length ds.length hi=ds.length then none else some (.tup (dF ds lo hi))
 |_,_,_=>none
def AS:V->Option Int->Option Int->Hp->VK->Prop:=fun x lo hi H Q=>∃z,x=.str z/\z.length<=A3/\Q (.str (O6 z lo hi)) H
theorem wN:SlR X AS:=by
 intro aa s σ H x v vl vu lo hi sl Q I rx hs pl pu h;obtain⟨z,rfl,hz,q⟩:=h;obtain⟨t,rfl⟩:=rx;refine⟨"str",_,PySem.F.slot_str_getitem.lookup,P2 _ _ _,?_⟩;have fin:∀(t':Tok) (k:Nat),EP X aa σ Q (.str (O6 z lo hi) t') { s with toks:=k }:=fun t' k=>⟨.str (O6 z lo hi),H,I.tok _,⟨t',rfl⟩,q⟩;cases pl with
 |none =>
  cases pu with
  |none=>exact K1 (l:=none) (u:=none) (st:=none) hs rfl (O7 ⟨D3 (Q0 z _ _) hz,fin⟩)
  |int j tj=>exact K1 (l:=none) (u:=some (j,tj)) (st:=none) hs rfl (O7 ⟨D3 (Q0 z _ _) hz,fin⟩)
 |int i ti =>
  cases pu with
  |none=>exact K1 (l:=some (i,ti)) (u:=none) (st:=none) hs rfl (O7 ⟨D3 (Q0 z _ _) hz,fin⟩)
  |int j tj=>exact K1 (l:=some (i,ti)) (u:=some (j,tj)) (st:=none) hs rfl (O7 ⟨D3 (Q0 z _ _) hz,fin⟩)
noncomputable def eK:List D->Option (List Str)
 |[]=>some []
 |.str x::ds=>(eK ds).map (x::·)
 |_=>none
theorem j8{K:o0}{M:DH}{H:Hp}:∀{ds:List D}{vs:List V}{us:List s0}{ys:List Str},aj K M H ds vs->ay vs us->eK ds=some ys->StrsAre us ys
 |[],_,_,_,h,rv,e=>by
  simp only[aj]at h;subst h;cases rv;cases e;exact .nil
 |d::ds,_,_,ys,h,rv,e=>by
  simp only[aj]at h;obtain⟨v,ws,rfl,h3,h4⟩:=h;cases d with
  |str x =>
   simp only[eK]at e;cases q:eK ds with
   |none=>rw[q]at e;cases e
   |some zs =>
    rw[q]at e;cases e;simp only[Rep]at h3;subst h3;cases rv with
    |cons r1 r2 =>
     obtain⟨t,rfl⟩:=r1;exact .cons x t (j8 h4 r2 q)
  |_=>cases e
def ij(sep:Str):D->Option D
 |.lst ds=>match eK ds with|some ys=>if(ys.map (·.length)).sum+ys.length*sep.length<=16777216 then some (.str (Txt.join sep ys))else none|none=>none
 |_=>none
def v8(to te:TEd):TEd:=fun Δ M Q=>to Δ M fun o M1=>∃sep,o=.str sep/\te Δ M1 fun d M2=>∃z,ij sep (rdM M2 d)=some z/\Q z M2
end
def cj(names:List (Str×D2)) (cells:List (Str×B0)):List (Str×B0):=(names.filterMap fun y=>if y.2==.free then(cells.lookup y.1).map fun c=>(y.1,c)else none).reverse
noncomputable def dM(env:Env) (y:Str×D2) (cs:List (Str×B0)):Sem (ForInStep (List (Str×B0))):=if(y.2==.free)=true then(do let c <-cellOf env y.1;P0 (E1 ((y.1,c)::cs)))else P0 (E1 cs)
theorem iL{env:Env}:∀(names:List (Str×D2)) (acc:List (Str×B0)),(∀y∈names,y.2=.free->(env.cells.lookup y.1).isSome=true) ->
  (forIn names acc (dM env):Sem (List (Str×B0)))=P0 (cj names env.cells++acc)
 |[],acc,_=>by simp[cj]
 |y::r,acc,h=>by
  rw[List.forIn_cons]
  by_cases hk:(y.2==E7)=true
  ·have hs:=h y D7 (by simpa using hk);obtain⟨c,hc⟩:=Option.isSome_iff_exists.mp hs;have e1:dM env y acc=P0 (E1 ((y.1,c)::acc)):=by
    unfold dM cellOf;rw[if_pos hk,hc];simp only[R9]
   rw[e1];simp only[R9];rw[iL r ((y.1,c)::acc) fun y hy=>h y (B7 _ hy)];have e2:cj (y::r) env.cells=cj r env.cells++[(y.1,c)]:=by
    unfold cj;rw[J6,if_pos hk,hc];simp
   rw[e2];simp
  ·have e1:dM env y acc=P0 (E1 acc):=by
    unfold dM;rw[if_neg hk]
   rw[e1];simp only[R9];rw[iL r acc fun y hy=>h y (B7 _ hy)];have e2:cj (y::r) env.cells=cj r env.cells:=by
    unfold cj;rw[J6,if_neg hk]
   rw[e2]
theorem vw{scope:L5}{env:Env}(h:∀y∈scope.names,y.2=.free->(env.cells.lookup y.1).isSome=true):closureFor scope env=P0 (cj scope.names env.cells):=by
 have:=iL (env:=env) scope.names [] h;simp only[M0]at this;show(forIn scope.names [] (dM env) >>= fun cs=>P0 cs)=_;rw[this];simp only[R9]
theorem tM{cells:List (Str×B0)}{names:List (Str×D2)}{x:Str}{c:B0}(h:(cj names cells).lookup x=some c):cells.lookup x=some c:=by
 have hm:=D4 h;unfold cj at hm;rw[List.mem_reverse,L8]at hm;obtain⟨y,_,e⟩:=hm
 split at e
 ·cases q:cells.lookup y.1 with
  |none=>rw[q]at e;cases e
  |some c'=>rw[q]at e;cases e;exact q
 ·cases e
theorem cW:∀{l:List (Str×B0)}{x:Str}{c:B0},(x,c)∈l->∃c',l.lookup x=some c'
 |(y,d)::l,x,c,h=>by
  rw[D5];cases q:x==y with
  |true=>exact⟨d,by simp⟩
  |false =>
   rcases J7.mp h with e|h
   ·cases e;simp at q
   ·simpa using cW h
theorem ut{cells:List (Str×B0)}{names:List (Str×D2)}{x:Str}(h:names.lookup x=some .free) (hs:(cells.lookup x).isSome=true):∃c,(cj names cells).lookup x=some c:=by
 obtain⟨c,hc⟩:=Option.isSome_iff_exists.mp hs;refine cW (c:=c) ?_;unfold cj;rw[List.mem_reverse,L8];exact⟨(x,.free),D4 h,by simp[hc]⟩
noncomputable def aS(fs:L5) (N:List Str) (scope:L5) (ms:List Bool):Bool :=
 scope.kind==.function&&scope.names.all (fun y=>y.2 != .cell)&&scope.names.all (fun y=>y.2 != .local || scope.names.lookup y.1==some .local) &&
 scope.names.all (fun y=>y.2 != .free || fs.names.lookup y.1==some .cell)&&(ms.zip N).all (fun y=>!y.1 || scope.names.lookup y.2==some .free)&&decide (ms.length<=N.length)
theorem aD{X:Cx}{scope:L5}{ms:List Bool}{ao:List Str}{n0:Nat}(hX:X.env.cells=R8 n0 X.env.scope.names []) (c:aS X.env.scope X.N scope ms=true):fh X scope (cj scope.names X.env.cells) ms ao:=by
 unfold aS at c;simp only[C1,N9,decide_eq_true_eq]at c;obtain⟨⟨⟨⟨⟨c1,c2⟩,c3⟩,c4⟩,c5⟩,c6⟩:=c;have fr:∀x,(x,E7)∈scope.names->X.env.scope.names.lookup x=some .cell:=fun x hx=>by
  have:=c4 _ hx;simpa using this
 have cs:∀x,(x,E7)∈scope.names->(X.env.cells.lookup x).isSome=true:=fun x hx=>by
  rw[hX];exact PySem.W.cellsFrom_some _ _ _ (.inl (fr x hx))
 refine⟨by simpa using c1,fun y hy e=>?_,fun y hy e=>?_,vw fun y hy e=>?_,fun x c h=>tM h,fun x h=>ut h (cs x (D4 h)),fun x h=>.inl (fr x (D4 h)),fun i x h1 h2=>?_,c6⟩
 ·have:=c2 y hy;rw[e]at this;simp at this
 ·have:=c3 y hy;simpa[e]using this
 ·obtain⟨a,b⟩:=y;cases e;exact cs a hy
 ·have:=c5 (true,x) (by
   rw[List.mem_iff_getElem?];exact⟨i,by rw[List.getElem?_zip_eq_some];exact⟨h1,h2⟩⟩)
  simpa using this
structure FnD(P:D0) (w:F2) (K:o0) (mg:Str->Option s0) (base:C7) (x:Str) (k n:Nat) (S:SpD):Prop where
 ex:∃(f:B0) (fd:F8) (ps:List Str),aO P w K mg base CX0 k f fd ps (spD K n S)/\mg x=some (.ref f)/\K4 K (.ref f)=true/\de K fd ps []
section
variable{X:Cx}{e:B5}{es:List B5}{t:TAd}{pos p:Pos}{x:Str}{k n:Nat}{S:SpD}
theorem dc(F:FnD X.prog X.w X.K X.mg X.base x k n S) (hr:cv k X.A) (hg:Gl X x) (ha:PAd X (e::es) t) (hdb:(x==("__debug__":Str))=false:=by decide) (he:A8 (e::es) X.env=(false,N0 e X.env)::A8 es X.env:=by rfl) (hpl:(J0 pos (A8 es X.env)).any (·.1)=false:=by rfl) :
  PEd X (.Call (.Name x p) (e::es) [] pos) (kB n S t):=by
 obtain⟨f,fd,ps,h1,h2,h3,h4⟩:=F.ex;exact xU h1 hr hg h2 h3 h4 ha hdb he hpl
theorem dcL(F:FnD X.prog X.w X.K X.mg X.base x k n S) (hr:cv k X.A) (hg:Gl X x) (ha:PAd X (e::es) t) (hdb:(x==("__debug__":Str))=false:=by decide) (he:A8 (e::es) X.env=(false,N0 e X.env)::A8 es X.env:=by rfl) (hpl:(J0 pos (A8 es X.env)).any (·.1)=false:=by rfl) :
  PEd X (.Call (.Name x p) (e::es) [] pos) (lZ n S t):=by
 obtain⟨f,fd,ps,h1,h2,h3,h4⟩:=F.ex;exact uC h1 hr hg h2 h3 h4 ha hdb he hpl
end
section
variable{X:Cx}{a b c e:B5}{es:List B5}{te ta tb:TEd}{t:TAd}{pos:Pos}{tg iter:B5}
def wy(te:TEd):TSd:=fun E Δ M=>te Δ M fun d M1=>∃a ds,d=.ref a/\M1 a=some (.lst ds)/\E.rt (.lst ds) (jo M1 a)
theorem xi:zD X (unaryOp .USub) (fun d=>match d with|.int i=>some (.int (-i))|_=>none):=by
 intro aa s σ H M x v dx dz Q I hr rx r1 e k;cases dx with
 |int i=>cases e;exact xI aa s σ H x v Q I rx ⟨i,gx r1,k _ H (Ext.refl _ _) hr (by simp[Rep])⟩
 |_=>cases e
def gz:D->Option (List D)
 |.tup ds=>some ds
 |.lst ds=>some ds
 |.scr ds=>some ds
 |.str x=>if x.length<=A3 then some (bB x)else none
 |_=>none
def wt(te:TEd):TId:=fun Δ M R=>te Δ M fun d M1=>∃ds,gz d=some ds/\(ds.length<=A3->R ds M1)
theorem o8{aa:List (B0×Obj)}{σ:St}{H:Hp}{s:u8}{o:Obj}(I:Inv X aa σ H s):∀b∈[s.heap.objs.size],dG X aa H b:=fun b hb=>by
 have e:b=s.heap.objs.size:=by simpa using hb
 subst e;exact I.fpOk (B4 _) (I.hok.fresh (B4 _))
theorem wL{K:o0}{x:Str}{M1:DH}{H1:Hp}:ItD K (ItW x.cps.size fun i v=>∃c,x.cps[i]?=some c/\v=.str ⟨#[c]⟩) (bB x) M1 H1:=fun M2 H2 e2 hr2 i=>⟨fun d hd=>by
  unfold bB at hd;rw[F0]at hd;cases q:x.cps.toList[i]? with
  |none=>rw[q]at hd;cases hd
  |some c =>
   rw[q]at hd;cases hd;have hc:x.cps[i]?=some c:=by simpa using q
   refine⟨?_,fun y H' ⟨eH,c',hc',ey⟩=>?_⟩
   ·exact(Array.getElem?_eq_some_iff.mp hc).1
   ·subst eH;subst ey;rw[hc]at hc';cases hc';exact⟨Ext.refl _ _,hr2,by simp[Rep]⟩,fun hl=>by
  show x.cps.size<=i;simpa[bB]using hl⟩
end
section
variable{M:DH}
theorem uN{i:Int}:rdM M (.int i)=.int i:=rfl
theorem yc{i:Bool}:rdM M (.bl i)=.bl i:=rfl
theorem uA{i:Str}:rdM M (.str i)=.str i:=rfl
theorem vy:rdM M .non=.non:=rfl
theorem vH{i:List D}:rdM M (.tup i)=.tup i:=rfl
theorem uS{i:List D}:rdM M (.lst i)=.lst i:=rfl
theorem vc{i:List D}:rdM M (.scr i)=.scr i:=rfl
theorem mB{a:B0}{ds:List D}(h:M a=some (.lst ds)):rdM M (.ref a)=.lst ds:=by simp[rdM,h]
theorem vd{a:B0}{ds:List D}:rdM (ar M a (.lst ds)) (.ref a)=.lst ds:=mB aq
theorem xW{f:Int->Int->Option D}{a b:Int}:iOp f (.int a) (.int b)=f a b:=rfl
theorem uW{a b:Int}:mh (.int a) (.int b)=some (.int (a+b)):=rfl
theorem vN{a b:Str}:mh (.str a) (.str b)=if a.length+b.length<=A3 then some (.str (a++b))else none:=rfl
theorem uF{a b:List D}:mh (.lst a) (.lst b)=if a.length+b.length<=A3 then some (.lst (a++b))else none:=rfl
theorem vD{a b:List D}:mh (.tup a) (.tup b)=if a.length+b.length<=A3 then some (.tup (a++b))else none:=rfl
theorem zt{a:List D}{b:Int}:ixD (.lst a) (.int b)=atI a b:=rfl
theorem yL{a:List D}{b:Int}:ixD (.scr a) (.int b)=atI a b:=rfl
theorem yU{a:List D}{b:Int}:ixD (.tup a) (.int b)=atI a b:=rfl
theorem yY{z:Str}{i:Int}:ixD (.str z) (.int i)=if z.length<=A3 then(atI z.cps.toList i).map fun c=>.str ⟨#[c]⟩else none:=rfl
theorem wf{α:Type}{x:α}{xs:List α}:atI (x::xs) 0=some x:=fQ (j:=0) rfl
theorem zI{α:Type}{x y:α}{xs:List α}:atI (x::y::xs) 1=some y:=fQ (j:=1) rfl
theorem z5{α:Type}{x y z:α}{xs:List α}:atI (x::y::z::xs) 2=some z:=fQ (j:=2) rfl
theorem sm{f:D->Option D}{d:D}:pe f [d]=f d:=rfl
theorem yF{a:List D}:pd (.lst a)=some (.int a.length):=rfl
theorem wZ{a:List D}:pd (.tup a)=some (.int a.length):=rfl
theorem xn{a:List D}:pd (.scr a)=some (.int a.length):=rfl
theorem wQ{x:Str}:pd (.str x)=if x.length<=A3 then some (.int x.length)else none:=rfl
theorem xG{i:Int}:zc (.int i)=some (.int (if i<0 then -i else i)):=rfl
theorem xv{a:List D}:tZ (.lst a)=some (.tup a):=rfl
theorem yd{a:List D}:tZ (.tup a)=some (.tup a):=rfl
theorem zT{b:Bool}{x:D}{ds:List D}:inD b x (.lst ds)=if aW x=true/\ds.all aW=true then some (.bl (xor b (ds.any fun d=>eqD d x)))else none:=rfl
theorem zz{b:Bool}{x:D}{ds:List D}:inD b x (.tup ds)=if aW x=true/\ds.all aW=true then some (.bl (xor b (ds.any fun d=>eqD d x)))else none:=rfl
theorem yy{a b:Int}:eqF (.int a) (.int b)=some (.bl (a==b)):=by simp[eqF,dLe,eqD]
theorem yE{a b:Str}:eqF (.str a) (.str b)=some (.bl (a==b)):=by simp[eqF,dLe,eqD]
theorem xH{a b:Bool}:eqF (.bl a) (.bl b)=some (.bl (a==b)):=by simp[eqF,dLe,eqD]
theorem z0{ds:List D}{lo hi:Option Int}:slD (.scr ds) lo hi=some (.lst (dF ds lo hi)):=rfl
theorem zb{ds:List D}{lo hi:Option Int}:slD (.lst ds) lo hi=some (.lst (dF ds lo hi)):=rfl
theorem zX{x:Str}{lo hi:Option Int}:slD (.str x) lo hi=if x.length<=A3 then some (.str (O6 x lo hi))else none:=rfl
theorem sf{a:List D}:gz (.lst a)=some a:=rfl
theorem uf{a:List D}:gz (.tup a)=some a:=rfl
theorem sx{a:List D}:gz (.scr a)=some a:=rfl
theorem tE{x:Str}:gz (.str x)=if x.length<=A3 then some (bB x)else none:=rfl
theorem zm{n:Nat}:ixN (n+1) 0=some 0:=by simp[ixN]<;>omega
theorem zA{n:Nat}:ixN (n+2) 1=some 1:=by simp[ixN]<;>omega
theorem zQ{n:Nat}:ixN (n+3) 2=some 2:=by simp[ixN]<;>omega
theorem sz3(n:Nat) (h:n<=1000:=by decide):n<=A3:=D3 h (by decide)
theorem wR{b:Bool}:uJ "bool" (.bl b)=some true:=rfl
end
end L2
namespace L2
theorem zg{i j:Int}(h:-18446744073709551616<j/\j<18446744073709551616):jn i j=True:=by unfold jn;simp;right;omega
theorem vW{i j:Int}(h:-18446744073709551616<i/\i<18446744073709551616):jn i j=True:=by unfold jn;simp;left;omega
theorem sY:nE 10 18=True:=by simp[nE]
theorem Ac{i j:Int}(h:0<j/\j<1073741824):mX i j=True:=by unfold mX;simp[h]
end L2
namespace L2
open PySem PySem.Spec PyProof.Rows
theorem bM{g:GD}{tc:TTd}{te:TEd}{M:DH}{Q:List D->DH->Prop}(b:D->Bool) (y:D->D) (Ok:DE->Prop):∀(ds:List D) (Δ:DE) (acc:List D),
  (∀d∈ds,∀ Δ,Ok Δ->∃ Δ',g d Δ=some Δ'/\Ok Δ'/\(∀Q1:Bool->DH->Prop,Q1 (b d) M->tc Δ' M Q1)/\(b d=true->∀Q2:D->DH->Prop,Q2 (y d) M->te Δ' M Q2))->Ok Δ ->
  Q (acc++(ds.filter b).map y) M->cH g tc te ds Δ M acc Q
 |[],Δ,acc,_,_,q=>by simpa[cH]using q
 |d::ds,Δ,acc,h,hΔ,q=>by
  simp only[cH];obtain⟨Δ',eg,ok,h1,h2⟩:=h d D7 Δ hΔ;refine⟨Δ',eg,h1 _ ?_⟩;have hr:∀d∈ds,∀ Δ,Ok Δ->∃ Δ',g d Δ=some Δ'/\Ok Δ'/\(∀Q1:Bool->DH->Prop,Q1 (b d) M->tc Δ' M Q1)/\(b d=true->∀Q2:D->DH->Prop,Q2 (y d) M->te Δ' M Q2):=fun x hx=>h x (B7 _ hx);cases hb:b d with
  |true =>
   simp only[if_true];refine h2 hb _ (bM b y Ok ds Δ' (acc++[y d]) hr ok ?_);simpa[List.filter_cons,hb]using q
  |false =>
   simp only[E2,if_false];refine bM b y Ok ds Δ' acc hr ok ?_;simpa[List.filter_cons,hb]using q
theorem uE{a b:Str}:eqD (.str a) (.str b)=(a==b):=by simp[eqD]
theorem nq{x:Str}:∀{ws:List Str},(ws.map D.str).any (fun d=>eqD d (.str x))=decide (x∈ws)
 |[]=>by simp
 |w::ws=>by
  rw[E6,F9,nq (ws:=ws),uE]
  by_cases h:w=x
  ·subst h;simp
  ·have h2:(w==x)=false:=by simpa using h
   have h3:¬ x=w:=fun e=>h e.symm;simp[h2,h3]
theorem tD{ws:List Str}:(ws.map D.str).all aW=true:=by
 induction ws with
 |nil=>rfl
 |cons w ws ih=>rw[E6,M8,ih];rfl
theorem eE:∀{ws:List Str},eK (ws.map D.str)=some ws
 |[]=>rfl
 |w::ws=>by rw[E6];simp only[eK];rw[eE];rfl
section
variable{X:Cx}{e:B5}{te:TEd}{pos:Pos}
def wx(te:TEd):TSd:=fun E Δ M=>te Δ M fun d M1=>∃M2,LeM M2 M1/\E.rt d M2
theorem hV{M:DH}{q:B0}{o:HD}(h:M q=none):LeM M (ar M q o):=fun a u e=>by
 by_cases ha:a=q
 ·subst ha;rw[h]at e;cases e
 ·rw[aw ha];exact e
end
end L2
namespace L2
open PySem PySem.Spec PyProof.Rows PySem.Builtin.Str
def tx(cs:List Nat):Str:=⟨cs.toArray⟩
theorem pT(x:Str):x=tx x.cps.toList:=by cases x;simp[tx]
theorem xB{a b:List Nat}:tx a=tx b↔a=b:=by
 unfold tx;constructor
 ·intro h;injection h with h;simpa using congrArg Array.toList h
 ·intro h;rw[h]
theorem az(cs:List Nat):(tx cs).cps.toList=cs:=by simp[tx]
theorem aA(cs:List Nat):(tx cs).length=cs.length:=by show(tx cs).cps.size=_;simp[tx]
theorem iO(a b:List Nat):tx a++tx b=tx (a++b):=by
 show Str.mk (a.toArray++b.toArray)=_;simp[tx]
theorem yO:(N6 "":Str)=tx []:=by decide +kernel
theorem mq:∀cs:List Nat,Txt.join (tx []) (cs.map fun c=>tx [c])=tx cs:=by
 intro cs;unfold Txt.join;rw[StrLaws.glued_eq_join]
 induction cs with
 |nil=>rfl
 |cons c cs ih =>
  cases cs with
  |nil=>rfl
  |cons d cs =>
   rw[E6]at ih ⊢;rw[E6];show tx [c]++tx []++O2 (tx []) (tx [d]::cs.map fun c=>tx [c])=_;rw[ih,iO,iO];rfl
theorem qK{x:Array Nat}:∀k,k<=x.size->(K3 k).filterMap (x[·]?)=x.toList.take k:=by
 intro k
 induction k with
 |zero=>intro _;simp
 |succ k ih =>
  intro h;rw[List.range_succ,List.filterMap_append,ih (by lia)];have hk:x[k]?=some x[k]:=by simp[show k<x.size by lia]
  rw[List.take_add_one];simp[hk,show k<x.size by lia]
theorem oI(cs:List Nat) (k:Nat):O6 (tx cs) none (some (k:Int))=tx (cs.take k):=by
 have hi:strSliceIndices none (some (k:Int)) 1 (tx cs).length=K3 (min k cs.length):=by
  unfold strSliceIndices sliceRange;rw[aA];have h1:(max 0 (min (if(k:Int)<0 then(k:Int)+(cs.length:Int)else(k:Int)) (cs.length:Int)))=((min k cs.length:Nat):Int):=by
   rw[if_neg (by lia)];lia
  simp only[show(1:Int) > 0 by decide,if_true];rw[h1];have h2:(if(0:Int)<((min k cs.length:Nat):Int)then(((min k cs.length:Nat):Int)-0+1-1) / 1 else 0).toNat=min k cs.length:=by
   split<;>lia
  rw[h2];apply List.ext_getElem?;intro j;rw[F0]
  by_cases hj:j<min k cs.length
  ·rw[List.getElem?_range hj];simp
  ·rw[List.getElem?_eq_none (by simp;lia)];rfl
 unfold O6;rw[hi]
 by_cases hl:(((1:Int)==1&&(K3 (min k cs.length)).length==(tx cs).length))=true
 ·rw[if_pos hl];have:cs.length<=k:=by
   simp[aA]at hl
   lia
  rw[List.take_of_length_le this]
 ·rw[if_neg hl];have e:(K3 (min k cs.length)).filterMap ((tx cs).cps[·]?)=cs.take k:=by
   rw[qK _ (by simp[tx];lia),az];rw[List.take_eq_take_iff]
   lia
  rw[e];rfl
theorem lQ{α:Type} [DecidableEq α]:∀(V K:List α),V.Nodup->(∀x∈V,x∈K)->V.length<=K.length
 |[],_,_,_=>P5 _
 |x::V,K,hn,h=>by
  have hx:=h x D7;obtain⟨h1,h2⟩:=M7.mp hn;have:=lQ V (K.erase x) h2 fun y hy=>(List.mem_erase_of_ne (by rintro rfl;exact h1 hy)).mpr (h y (B7 _ hy));rw[List.length_erase_of_mem hx]at this;have hp:0<K.length:=List.length_pos_of_mem hx;simp only[List.length_cons]
  lia
def fA(c:Nat):Prop:=97<=c/\c<=122
def au(w:Str):Prop:=1<=w.cps.toList.length/\w.cps.toList.length<=8/\∀c∈w.cps.toList,fA c
abbrev abc:Str:=N6 "abcdefghijklmnopqrstuvwxyz"
def cq:List Nat:=List.range' 97 26
theorem jG:abc=tx cq:=by decide +kernel
theorem xR{v:Int}(h0:0<=v) (h1:v<26):∃c,fA c/\ixD (.str abc) (.int v)=some (.str (tx [c])):=by
 obtain⟨n,rfl⟩:=Int.eq_ofNat_of_zero_le h0;have hn:n<26:=by lia
 refine⟨97+n,⟨by lia,by lia⟩,?_⟩;have hl:abc.length<=A3:=by rw[jG,aA];exact sz3 _
 have ha:atI abc.cps.toList (n:Int)=some (97+n):=by
  rw[jG,az];exact fQ (by unfold cq;rw[List.getElem?_range' hn];simp)
 rw[yY,if_pos hl,ha];rfl
theorem lO:bB abc=cq.map fun c=>D.str (tx [c]):=by
 unfold bB;rw[jG,az];rfl
theorem sk{w:Str}{known:List Str}(hk:known.length<=25):∃c∈cq,tx (w.cps.toList.take 7++[c])∉known:=by
 refine Classical.byContradiction fun h=>?_;have h':∀c∈cq,tx (w.cps.toList.take 7++[c])∈known:=fun c hc=>Classical.byContradiction fun hn=>h ⟨c,hc,hn⟩;have hn:(cq.map fun c=>tx (w.cps.toList.take 7++[c])).Nodup:=by
  rw[List.nodup_iff_pairwise_ne,List.pairwise_map];have:cq.Nodup:=by decide
  exact List.Pairwise.imp (fun {a b} hab e=>hab (by rw[xB]at e;simpa using e)) this
 have:=lQ _ known hn (fun x hx=>by
  obtain⟨c,hc,rfl⟩:=List.mem_map.mp hx;exact h' c hc)
 simp[cq]at this
 lia
theorem oH{w:Str}{c:Nat}(hw:au w) (hc:fA c):au (tx (w.cps.toList.take 7++[c])):=by
 obtain⟨h1,h2,h3⟩:=hw;unfold au;rw[az];refine⟨by simp,by simp;lia,fun x hx=>?_⟩;rcases K9.mp hx with h|h
 ·exact h3 x (List.mem_of_mem_take h)
 ·have:x=c:=by simpa using h
  subst this;exact hc
theorem ue{c:Nat}(h:c∈cq):fA c:=by
 unfold cq at h;rw[List.mem_range'_1]at h;exact⟨by lia,by lia⟩
end L2
namespace L2
open PySem PySem.Spec PyProof.Rows
theorem lJ{g:GD}{tb:TSd}{E:gh}{all:List D}(I:Nat->DE->DH->Prop)
  (step:∀(i:Nat) (d:D) (Δ:DE) (M:DH) (X:DE->DH->Prop),all[i]?=some d->I i Δ M->(∀ Δ' M',I (i+1) Δ' M'->X Δ' M')->∃ Δ',g d Δ=some Δ'/\tb { E with nx:=X,ct:=X,bk:=E.nx } Δ' M)
  (fin:∀ Δ M,I all.length Δ M->E.nx Δ M):∀(ds:List D) (i:Nat) (Δ:DE) (M:DH),all.drop i=ds->i<=all.length->I i Δ M->bS g tb E ds Δ M
 |[],i,Δ,M,e,hi,h=>by
  have:i=all.length:=by
   have:=congrArg List.length e;simp at this;lia
  subst this;simpa only[bS]using fin Δ M h
 |d::ds,i,Δ,M,e,hi,h=>by
  have hlt:i<all.length:=by
   have:=congrArg List.length e;simp at this;lia
  have hd:all[i]?=some d:=by
   have:=congrArg List.head? e;simpa using this
  have hn:all.drop (i+1)=ds:=by
   rw[<-List.tail_drop,e];rfl
  simp only[bS];exact step i d Δ M _ hd h fun Δ' M' h'=>lJ I step fin ds (i+1) Δ' M' hn hlt h'
theorem bY{g:GD}{tb:TSd}{E:gh}{ds:List D}{Δ:DE}{M:DH}(I:Nat->DE->DH->Prop) (h0:I 0 Δ M)
  (step:∀(i:Nat) (d:D) (Δ:DE) (M:DH) (X:DE->DH->Prop),ds[i]?=some d->I i Δ M->(∀ Δ' M',I (i+1) Δ' M'->X Δ' M')->∃ Δ',g d Δ=some Δ'/\tb { E with nx:=X,ct:=X,bk:=E.nx } Δ' M)
  (fin:∀ Δ M,I ds.length Δ M->E.nx Δ M):bS g tb E ds Δ M:=lJ I step fin ds 0 Δ M rfl (P5 _) h0
theorem szB(n:Nat) (h:n<=16000000:=by decide):n<=A3:=D3 h (by decide)
theorem il{α:Type}{f:α->D}{xs:List α}{i:Nat}{d:D}(h:(xs.map f)[i]?=some d):∃x,xs[i]?=some x/\d=f x:=by
 rw[F0]at h;cases e:xs[i]? with
 |none=>rw[e]at h;cases h
 |some x=>rw[e]at h;cases h;exact⟨x,rfl,rfl⟩
theorem nt{K:o0}{M:DH}{H:Hp}:∀ns:List Int,aj K M H (ns.map D.int) (ns.map V.int)
 |[]=>aj.nil
 |n::ns=>aj.cons (by simp[Rep]) (nt ns)
theorem qO{K:o0}{H:Hp}{a:B0}{ns:List Int}(hO:vk H) (hS:SqL K H a (ns.map V.int)):aj K noM H [.scr (ns.map D.int)] [.ref a]:=by
 refine aj.cons ?_ aj.nil;simp only[Rep];refine⟨a,ns.map V.int,rfl,?_,nt ns⟩;rcases hS with h|h
 ·left;rcases h with h|h
  ·rcases hO a with z|⟨o,xs,z⟩<;>(rw[h]at z;cases z)
  ·exact⟨h,rfl⟩
 ·right;exact .inr h
def yM(S:SpD):Prop:=∀(ns:List Int) (R:D->DH->Prop),ns.length<=63->(∀M',R (.bl true) M')->S [.scr (ns.map .int)] noM R
theorem zx{S:SpD}(hS:yM S) {k:Nat}{x:Str}{l:PySem.W.OpenLaw}{q:D0}{loose:List Str}{XP:(Str->Option s0)->C7->Prop}{YP:F2->C7->Prop}{d:DefRec}{K:Params->o0}(hr:cv k R1) (hn:l.most=some 63) (hdf:d.params.defaults=[])
  (hY:∀(w:F2) (h:C7),YP w h->(K w.params).In h)
  (F:∀ (w:F2) (mg:Str → Option s0) (fa:B0) (h:C7),(K w.params).In h → h.Ns K8 mg → mg d.name = some (.ref fa) →
   ∃fd:F8,(∀(s:u8) (u:s0),R7 s fd ⟨[u],[]⟩ [(x,u)])/\∀base:C7,(K w.params).In base->base.Ns K8 mg->aO l.prog w (K w.params) mg base CX0 k fa fd [x] (spD (K w.params) 1 S)) :
  PySem.W.WalkO q loose XP YP l.row.toRowW d [] (fun f vs=>PySem.call f vs) :=
 L2.pZ (n:=63) (k:=k) (x:=x) (CX:=fun _=>CX0) (sp:=fun w=>spD (K w.params) 1 S) hn (by decide) hdf hr hY F
  (fun w H a ns hl hO hq=>⟨[.scr (ns.map .int)],noM,fun d _=>d=.bl true,rfl,qO hO hq,HR.nil,hS ns _ hl (fun _=>rfl),fun d M' v H' e _ _ rv=>by subst e;simpa only[Rep]using rv⟩) fun _ _ _ _ _ z=>z
section
variable{prog:D0}{w:F2}{A:D9}{E:s0->u8->Prop}{s:u8}
def oY(h:C7) (a l:B0) (i:Int):Prop:=∃o,h.get? a=some o/\o.cls=.type "reversed"/\o.data=.fields #[.ref l,rawInt i]
theorem oY.at{h h':C7}{a l:B0}{i:Int}(x:oY h a l i) (e:∀o,h.get? a=some o->h'.get? a=some o):oY h' a l i:=let⟨o,ho,r⟩:=x;⟨o,e _ ho,r⟩
end
section
variable{X:Cx}
def neF(x y:D):Option D:=if dLe x 60=true/\dLe y 60=true then some (.bl (!(eqD x y)))else none
theorem sM(hu:X.A.units+64<cLine):bO X (C2 .NotEq) neF:=by
 intro aa s σ H M x y v u dx dy dz Q I hr rx ry r1 r2 e k;unfold neF at e
 by_cases hc:dLe dx 60=true/\dLe dy 60=true
 ·rw[if_pos hc]at e;cases e;exact(my I 60 (A:=X.A) (by lia) hc.1 hc.2 r1 r2 rx ry).2.2 X.prog X.w X.xe _ ⟨.bl (!(eqD dx dy)),H,I,rfl,k _ H (Ext.refl _ _) hr (by simp[Rep])⟩
 ·rw[if_neg hc]at e;cases e
theorem wM{a b:Int}:neF (.int a) (.int b)=some (.bl (!(a==b))):=by simp[neF,dLe,eqD]
theorem oF{a b:Str}:neF (.str a) (.str b)=some (.bl (!(a==b))):=by simp[neF,dLe,eqD]
theorem yj{a b:Bool}:neF (.bl a) (.bl b)=some (.bl (!(a==b))):=by simp[neF,dLe,eqD]
end
end L2
namespace HT
open PySem PyProof.Rows
section
variable{prog:D0}{w:F2}{A:D9}{E:s0->u8->Prop}{s:u8}
theorem kU{t:B0}{items:Array s0}{Q:Bool->u8->Prop}(ht:S0 s.heap t items) (h:Q true s):B9 (C8 prog w) A (C4.Tuple.tupleIsExact (.ref t)) Q E s:=by
 unfold C4.Tuple.tupleIsExact;exact A4 (wpAny_typeOf ht.typeIs (B2 (by simpa using h)))
theorem getItem_tuple_whole{t sl:B0}{items:Array s0}{vl vu:s0}{lo hi:Option Int}{Q:s0->u8->Prop}(ht:S0 s.heap t items) (hs:s.heap.IsSliceOf sl vl vu .none) (pl:R4 vl lo) (pu:R4 vu hi)
  (hw:sIx items.size 0 lo=0/\sIx items.size items.size hi=items.size) (h:Q (.ref t) s):B9 (C8 prog w) A (R5 (.ref t) (.ref sl)) Q E s:=by
 obtain⟨os,hos,hcs,hds⟩:=id hs;have hTs:s.TypeIs (.ref sl) "slice":=⟨os,hos,hcs⟩;unfold R5
 try with_reducible refine O0 ?_
 first|refine A4 (B2 ?_)|skip
 refine A4 (wpAny_sequenceKey ht.typeIs (by decide) ?_);refine A4 (K0 (name:=N6 "__getitem__") ht.typeIs C3
  (N7 C3 ht.typeIs entry_tuple_getitem ?_ (args_tuple_getitem _ _)))
 show B9 _ _ (C4.Tuple.tupleItemsOf (.ref t) >>= _) _ _ s;refine A4 (tupleItemsOf_ ht ?_);refine A4 (wpAny_typeOf hTs ?_);rw[if_pos (by decide)];refine A4 (dB hs pl pu ?_);show B9 _ _ (if(((sIx items.size 0 lo:Nat):Int)==0&&(1:Int)==1&&(sIx items.size items.size hi-sIx items.size 0 lo)==items.size)=true then _ else _) _ _ s;rw[if_pos (by rw[hw.1,hw.2];simp)];refine A4 (kU ht ?_);rw[if_pos rfl];refine A4 (wpAny_rule ?_)
 first
  |exact B2 ⟨_,rfl,B2 h⟩
  |exact A4 (B2 (B2 ⟨_,rfl,B2 h⟩))
end
end HT
namespace L2
open PySem PySem.Spec PyProof.Rows
section
variable{X:Cx}{a b c e:B5}{es:List B5}{te ta tb ts:TEd}{t:TAd}{pos:Pos}
def slE:D->Option Int->Option Int->Option D
 |.tup ds,lo,hi=>some (.tup (dF ds lo hi))
 |d,lo,hi=>slD d lo hi
def AV(K:o0):V->Option Int->Option Int->Hp->VK->Prop:=fun x lo hi H Q=>∃a xs,x=.ref a/\SqT K H a xs/\(HT.sIx xs.length 0 lo=0/\HT.sIx xs.length xs.length hi=xs.length)/\Q (.ref a) H
theorem rY:SlR X (AV X.K):=by
 intro aa s σ H x v vl vu lo hi sl Q I rx hs pl pu h;obtain⟨a,xs,rfl,hx,hw,q⟩:=h;cases rx;obtain⟨its,r,ht,hz⟩:=I.tuple hx;have bE:its.toArray.size=xs.length:=by rw[A5];exact r.length.symm
 exact⟨"tuple",_,C3.lookup,ht.typeIs,HT.getItem_tuple_whole ht hs pl pu (by rw[bE];exact hw) ⟨.ref a,H,I,rfl,q⟩⟩
theorem px{ds:List D}{lo hi:Option Int}(h:HT.sIx ds.length 0 lo=0/\HT.sIx ds.length ds.length hi=ds.length):dF ds lo hi=ds:=by
 unfold dF;rw[h.1,h.2];simp
def y3(te:TEd) (tl th:TOd):TEd:=fun Δ M Q=>te Δ M fun x M1=>tl Δ M1 fun l M2=>th Δ M2 fun u M3=>∃z,slE (rdM M3 x) l u=some z/\Q z M3
theorem z8{ds:List D}{lo hi:Option Int}:slE (.tup ds) lo hi=some (.tup (dF ds lo hi)):=rfl
theorem z9{ds:List D}{lo hi:Option Int}:slE (.lst ds) lo hi=some (.lst (dF ds lo hi)):=rfl
theorem zF{ds:List D}{lo hi:Option Int}:slE (.scr ds) lo hi=some (.lst (dF ds lo hi)):=rfl
theorem zR{x:Str}{lo hi:Option Int}:slE (.str x) lo hi=if x.length<=A3 then some (.str (O6 x lo hi))else none:=rfl
def sP:TSd:=fun _ _ _=>False
variable{scope:L5}{cl:List (Str×B0)}{ao:List Str}{tg:B5}
def uL(X:Cx) (scope:L5) (cl:List (Str×B0)) (ao:List Str) (tgs:List B5) (g:GDs):Prop:=∃gv:TGs,(∀C s H ex,PGs (aP X scope cl (X.N++ao) C s H ex) tgs gv)/\∀(ds:List D) (vs:List V) (σ:St) (Δ Δ':DE) (M:DH) (H:Hp) (Q:St->Hp->Prop),SR X.K M H σ Δ->HR X.K M H->aj X.K M H ds vs->g ds Δ=some Δ'->(∀ σ',SR X.K M H σ' Δ'->Q σ' H)->gv vs σ H Q
theorem tP:uL X scope cl ao [] og:=⟨xS,fun _ _ _ _=>qo,fun ds vs σ Δ Δ' M H Q sr hr rv e k=>by
 cases ds with
 |nil=>simp only[aj]at rv;subst rv;cases e;exact⟨rfl,k _ sr⟩
 |cons _ _=>cases e⟩
theorem jv{tgs:List B5}{g:GD}{gs:GDs}(h1:PGa X scope cl ao tg g) (h2:uL X scope cl ao tgs gs)
  (hs:∀env,(E3 (tg::tgs) env).map (·.2)=O9 tg env::(E3 tgs env).map (·.2):=by intro _;rfl):uL X scope cl ao (tg::tgs) (gC g gs):=by
 obtain⟨g1,p1,k1⟩:=h1;obtain⟨g2,p2,k2⟩:=h2;refine⟨sd g1 g2,fun C s H ex=>nX (p1 C s H ex) (p2 C s H ex) (hs _),fun ds vs σ Δ Δ' M H Q sr hr rv e k=>?_⟩;cases ds with
 |nil=>cases e
 |cons d r =>
  simp only[aj]at rv;obtain⟨v,ws,rfl,h3,h4⟩:=rv;simp only[gC]at e;cases q:g d Δ with
  |none=>rw[q]at e;cases e
  |some Δ1 =>
   rw[q]at e;exact⟨v,ws,rfl,k1 d v σ Δ Δ1 M H _ sr hr h3 q fun σ1 sr1=>k2 r ws σ1 Δ1 Δ' M H Q sr1 hr h4 e k⟩
theorem tG{tgs:List B5}{kx:Nat}{g:GDs}{n:Nat}(hc:X.calm=true) (h:uL X scope cl ao tgs g) (hn:∀env,(E3 tgs env).length=n:=by intro _;rfl) (hst:∀env,(E3 tgs env).findIdx? (·.1)=none:=by intro _;rfl):PGa X scope cl ao (.Tuple tgs kx pos) (kC g n):=by
 obtain⟨g1,p1,k1⟩:=h;refine⟨yh X.K n g1,fun C s H ex=>tF (X:=aP X scope cl (X.N++ao) C s H ex) hc (p1 C s H ex) (hn _) (hst _),fun d v σ Δ Δ' M H Q sr hr rv e k=>?_⟩;cases d with
 |tup ds =>
  simp only[kC]at e
  by_cases hl:ds.length=n
  ·rw[if_pos hl]at e;simp only[Rep]at rv;obtain⟨a,vs,rfl,ta,rl⟩:=rv;exact⟨a,vs,rfl,ta.sq,by rw[<-rl.length];exact hl,k1 ds vs σ Δ Δ' M H Q sr hr rl e k⟩
  ·rw[if_neg hl]at e;cases e
 |_=>cases e
end
section
variable{X:Cx}{a b c e:B5}{es:List B5}{te ta tb ts:TEd}{t:TAd}{pos:Pos}
def inE(neg:Bool) (x y:D):Option D:=match y with
 |.str j=>match x with
  |.str i=>some (.bl (xor neg (!(J8 j i 0 j.length 1).isEmpty)))
  |_=>none
 |y=>inD neg x y
theorem zk:bO X (C2 .In) (inE false):=by
 intro aa s σ H M x y v u dx dy dz Q I hr rx ry r1 r2 e k;cases dy with
 |str j =>
  cases dx with
  |str i =>
   cases e;exact rn aa s σ H x y v u Q I rx ry ⟨i,j,kL r1,kL r2,k _ H (Ext.refl _ _) hr (by simp[Rep])⟩
  |_=>cases e
 |_=>exact AD aa s σ H M x y v u dx _ dz Q I hr rx ry r1 r2 e k
theorem sQ:bO X (C2 .NotIn) (inE true):=by
 intro aa s σ H M x y v u dx dy dz Q I hr rx ry r1 r2 e k;cases dy with
 |str j =>
  cases dx with
  |str i =>
   cases e;exact mR aa s σ H x y v u Q I rx ry ⟨i,j,kL r1,kL r2,k _ H (Ext.refl _ _) hr (by simp[Rep])⟩
  |_=>cases e
 |_=>exact vi aa s σ H M x y v u dx _ dz Q I hr rx ry r1 r2 e k
theorem z4{b:Bool}{x:D}{ds:List D}:inE b x (.lst ds)=if aW x=true/\ds.all aW=true then some (.bl (xor b (ds.any fun d=>eqD d x)))else none:=rfl
theorem yR{b:Bool}{x:D}{ds:List D}:inE b x (.tup ds)=if aW x=true/\ds.all aW=true then some (.bl (xor b (ds.any fun d=>eqD d x)))else none:=rfl
theorem vZ{b:Bool}{c:Nat}{y:Str}:inE b (.str (tx [c])) (.str y)=some (.bl (xor b (decide (c∈y.cps.toList)))):=by
 show some (D.bl (xor b (!(J8 y ⟨#[c]⟩ 0 y.length 1).isEmpty)))=_;rw[StrLaws.found_one]
theorem iK:fillsNumberSlot (.type "tuple") "mul"=P0 false :=
 PySem.fillsNumberSlot_seq (id:="tuple.__mul__") (r:=some (.builtin "tuple.__rmul__")) F.slot_tuple_mul.lookup (by decide +kernel) F.slot_tuple_rmul.lookup (by decide +kernel)
theorem mW:seqRepeat? (.type "tuple")=P0 (some (.builtin "tuple.__mul__")):=by
 unfold seqRepeat?;rw[PySem.seqSlot_of (T:="tuple") (name:="__mul__") (id:="tuple.__mul__") F.slot_tuple_mul.lookup (by decide +kernel),PySem.seqSlot_of (T:="tuple") (name:="__rmul__") (id:="tuple.__rmul__") F.slot_tuple_rmul.lookup (by decide +kernel)];rfl
theorem kr(a:Int) (t:Tok) (l:B0) (items:Array s0) :
  Meets (C4.«int.__rmul__» ⟨[.int a t,.ref l],[]⟩) (fun _ R s=>S0 s.heap l items/\R (.ok (.ret s0.notImplemented)) s) :=
 .of_wp fun prog w A R s h=>by
  obtain⟨hp,g,d,tk,os⟩:=s;obtain⟨⟨⟨cls,dd,data,sl⟩,ho,hc,n,hd⟩,h⟩:=h;simp only at hc hd;subst hc hd
  wp_walk;exact⟨_,rfl,h⟩
theorem kX(l:B0) (items:Array s0) (x:Int) (u:Tok) (hne:items.isEmpty=false) (hx:2<=x) (hx2:x<2 ^ 62) (hz:items.size*x.toNat<=A3) :
  Meets (C4.«tuple.__mul__» ⟨[.ref l,.int x u],[]⟩) (fun _ R s=>S0 s.heap l items/\R (.ok (.ret (.ref s.heap.objs.size))) { s with heap:=s.heap.push { cls:=.type "tuple",data:=.seq (A7 x.toNat items.toList).flatten.toArray } }) :=
 .of_wp fun prog w A R s h=>by
  obtain⟨ht,h⟩:=h;show B9 _ _ (do
   let n <-asIndex (.int x u)
   if n < -(2 ^ 63) || n>=2 ^ 63 then
    rule "tuple.repeat.overflow";raiseError "OverflowError" s!"cannot fit '{← typeNameOf (.int x u)}' into an index-sized integer"
   let xs <-C4.Tuple.tupleItemsOf (.ref l)
   if xs.isEmpty || n==1 then
    if <-C4.Tuple.tupleIsExact (.ref l)then rule "tuple.repeat.same-object";return <-ret (.ref l)
   if n<=0 || xs.isEmpty then return <-ret (<-D1 #[])
   if xs.size*n > (2 ^ 63-1) / 8 then rule "tuple.repeat.no-memory";raiseNew (<-newExc (.type "MemoryError") [])
   if C4.Tuple.tupleTooMany (xs.size*n)then unsupported "tuple.__mul__:memory"
   ret (<-D1 ((A7 n.toNat xs).foldl (·++·) #[]))) _ _ s
  refine A4 (wpAny_of_eq (a:=x) rfl ?_);dsimp only;rw[if_neg (by simp only[Bool.or_eq_true,decide_eq_true_eq];lia)];refine A4 (tupleItemsOf_ ht ?_);rw[if_neg (by simp[hne];lia)];rw[if_neg (by simp[hne];lia)];have hxn:((x.toNat:Nat):Int)=x:=by lia
  have hm:(items.size:Int)*x=((items.size*x.toNat:Nat):Int):=by rw[Int.natCast_mul,hxn]
  have h16:A3=16777216:=rfl;rw[if_neg (by rw[hm];lia)];rw[if_neg (by unfold C4.Tuple.tupleTooMany;rw[hm];simp only[decide_eq_true_eq];lia)];have hf:R6 (fun x1 x2=>x1++x2) #[] (A7 x.toNat items)=(A7 x.toNat items.toList).flatten.toArray:=by
   have:=iH items.toList x.toNat [];rw[List.nil_append]at this;simpa using this
  rw[hf];have hs:sizeOk (.seq (A7 x.toNat items.toList).flatten.toArray):=by
   show(A7 x.toNat items.toList).flatten.toArray.size<=A3;rw[A5,mQ,L3,Nat.mul_comm];exact hz
  exact A4 (m:=D1 _) (E4 (B2 ⟨_,rfl,h⟩) hs)
theorem aj.rep{K:o0}{M:DH}{H:Hp}{ds:List D}{vs:List V}(h:aj K M H ds vs):∀k:Nat,aj K M H (A7 k ds).flatten (A7 k vs).flatten
 |0=>aj.nil
 |k+1=>by
  rw[C5,C5,J4,J4];exact h.append (aj.rep h k)
def o3:D->D->Option D
 |.int a,.int b=>if jn a b then some (.int (a*b))else none
 |.str x,.int n=>if x.length<=16777216/\-(2 ^ 63)<=n/\n<=16777216/\x.length*n.toNat<=16777216 then some (.str (Txt.mul x n))else none
 |.tup ds,.int n=>if 2<=n/\n<2 ^ 62/\ds≠[]/\ds.length*n.toNat<=A3 then some (.tup (A7 n.toNat ds).flatten)else none
 |.lst ds,.int n=>if -(2 ^ 63)<=n/\n<2 ^ 63/\ds.length*n.toNat<=A3 then some (.lst (A7 n.toNat ds).flatten)else none
 |_,_=>none
theorem dv:bO X (E8 .Mult) o3:=by
 intro aa s σ H M x y v u dx dy dz Q I hr rx ry r1 r2 e k;cases dx with
 |int a =>
  cases dy with
  |int b=>exact xy aa s σ H M x y v u _ _ dz Q I hr rx ry r1 r2 e k
  |_=>cases e
 |str z =>
  cases dy with
  |int n =>
   simp only[o3]at e
   by_cases hc:z.length<=16777216/\-(2 ^ 63)<=n/\n<=16777216/\z.length*n.toNat<=16777216
   ·rw[if_pos hc]at e;cases e;have e1:=kL r1;have e2:=gx r2;subst e1;subst e2;obtain⟨t1,rfl⟩:=rx;obtain⟨t2,rfl⟩:=ry;have hok:MulOk z n:=by
     by_cases hn:0<=n
     ·exact mulOk_of z.length n.toNat (B4 _) (by lia) hc.2.1 (by lia) hc.2.2.2
     ·exact mulOk_of z.length 0 (B4 _) (by lia) hc.2.1 (by lia) (by lia)
    exact SB.mul hok fun t' kk=>⟨.str _,H,I.tok _,⟨t',rfl⟩,k _ H (Ext.refl _ _) hr (by simp[Rep])⟩
   ·rw[if_neg hc]at e;cases e
  |_=>cases e
 |tup ds =>
  cases dy with
  |int n =>
   simp only[o3]at e
   by_cases hc:2<=n/\n<2 ^ 62/\ds≠[]/\ds.length*n.toNat<=A3
   ·rw[if_pos hc]at e;cases e;have e2:=gx r2;subst e2;obtain⟨t2,rfl⟩:=ry;obtain⟨a,vs,rfl,sq,rl⟩:=r1;cases rx;obtain⟨its,rv,pt,hz⟩:=I.tuple sq;have hl1:=rv.length;have hl2:=rl.length;have hne:its.toArray.isEmpty=false:=by
     cases its with
     |nil =>
      have h0:ds.length=0:=by rw[hl2,hl1];rfl
      exact absurd (List.length_eq_zero_iff.mp h0) hc.2.2.1
     |cons _ _=>rfl
    have hzz:its.toArray.size*n.toNat<=A3:=by rw[A5,<-hl1,<-hl2];exact hc.2.2.2
    refine wpAny_binaryOp_repeat_ref (T:="tuple") (U:="int") (by decide) pt.typeIs (fun s'=>Q4 s' n t2) iK F.fills_int_mul O5 mW F.slot_int_index.lookup
     (N4 O5 (Q4 s n t2) F.entry_int_rmul (F.args_int_rmul_2 _ _) (kr n t2 a its.toArray)
      ⟨pt,rfl,pt.typeIs,N4 F.slot_tuple_mul pt.typeIs F.entry_tuple_mul (F.args_tuple_mul_2 _ _) (kX a its.toArray n t2 hne hc.1 hc.2.1 hzz) ⟨pt,?_⟩⟩)
    have rr:ay (A7 n.toNat vs).flatten (A7 n.toNat its).flatten:=rv.rep n.toNat;refine⟨.ref s.heap.objs.size,_,I.laid (t':=s.toks) (o:=.tup (A7 n.toNat vs).flatten) (fun b ob q=>A6 _ q) (B4 _) ?_,rfl,?_⟩
    ·refine⟨?_,_,rr,by simpa using kz.new _ _⟩;rw[mQ,Nat.mul_comm,<-hl2];exact hc.2.2.2
    ·exact mM hr (I.hok.fresh (B4 _)) (rl.rep n.toNat) k
   ·rw[if_neg hc]at e;cases e
  |_=>cases e
 |lst ds =>
  cases dy with
  |int n =>
   simp only[o3]at e
   by_cases hc:-(2 ^ 63)<=n/\n<2 ^ 63/\ds.length*n.toNat<=A3
   ·rw[if_pos hc]at e;cases e;obtain⟨a,vs,rfl,sq,rl⟩:=r1;exact xh aa s σ H _ _ v u Q I rx ry ⟨a,n,vs,rfl,gx r2,sq,hc.1,hc.2.1,by rw[<-rl.length];exact hc.2.2,fun p hp=>jH hr hp (rl.rep n.toNat) k⟩
   ·rw[if_neg hc]at e;cases e
  |_=>cases e
 |_=>cases e
theorem u7{a b:Int}:o3 (.int a) (.int b)=if jn a b then some (.int (a*b))else none:=rfl
def qE:D->Bool
 |.non=>true
 |_=>false
def p8(neg:Bool) (x y:D):Option D:=match y with|.non=>some (.bl (xor neg (qE x)))|_=>none
theorem vp{K:o0}{M:DH}{H:Hp}{d:D}{x:V}(r:aF K M H d x):decide (x=V.non)=qE d:=by
 cases d with
 |tup ds=>obtain⟨a,vs,rfl,_⟩:=r;rfl
 |lst ds=>obtain⟨a,vs,rfl,_⟩:=r;rfl
 |scr ds=>obtain⟨a,vs,rfl,_⟩:=r;rfl
 |emp=>simp only[aF,Rep]at r;obtain⟨a,rfl,_⟩:=r;rfl
 |box _ _=>simp only[aF,Rep]at r;obtain⟨a,_,rfl,_⟩:=r;rfl
 |_=>simp only[aF,Rep]at r;subst r;rfl
theorem AN:bO X (C2 .Is) (p8 false):=by
 intro aa s σ H M x y v u dx dy dz Q I hr rx ry r1 r2 e k;cases dy with
 |non =>
  cases e;refine yG aa s σ H x y v u Q I rx ry ⟨Am r2,?_⟩;rw[vp r1];exact k _ H (Ext.refl _ _) hr (by simp[Rep])
 |_=>cases e
theorem rQ{b:Bool}{x:D}:p8 b x .non=some (.bl (xor b (qE x))):=rfl
variable{scope:L5}{cl:List (Str×B0)}{ms:List Bool}{ao:List Str}{ifs:List B5}{tg iter elt:B5}
end
@[irreducible] def QEd(X:Cx) (e:B5) (t:TEd):Prop:=PEd X e t
theorem QEd.eq{X:Cx}{e:B5}{t:TEd}:QEd X e t=(PEd X e t):=by unfold QEd;rfl
@[irreducible] def QAd(X:Cx) (e:List B5) (t:TAd):Prop:=PAd X e t
theorem QAd.eq{X:Cx}{e:List B5}{t:TAd}:QAd X e t=(PAd X e t):=by unfold QAd;rfl
@[irreducible] def QTd(X:Cx) (e:B5) (t:TTd):Prop:=PTd X e t
theorem QTd.eq{X:Cx}{e:B5}{t:TTd}:QTd X e t=(PTd X e t):=by unfold QTd;rfl
@[irreducible] def QWd(X:Cx) (e:B5) (t:TTd):Prop:=PWd X e t
theorem QWd.eq{X:Cx}{e:B5}{t:TTd}:QWd X e t=(PWd X e t):=by unfold QWd;rfl
@[irreducible] def QSd(X:Cx) (e:Q6) (t:TSd):Prop:=PSd X e t
theorem QSd.eq{X:Cx}{e:Q6}{t:TSd}:QSd X e t=(PSd X e t):=by unfold QSd;rfl
@[irreducible] def QSs(X:Cx) (e:List Q6) (t:TSd):Prop:=ux X e t
theorem QSs.eq{X:Cx}{e:List Q6}{t:TSd}:QSs X e t=(ux X e t):=by unfold QSs;rfl
@[irreducible] def QId(X:Cx) (tg e:B5) (t:TId):Prop:=PId X tg e t
theorem QId.eq{X:Cx}{tg e:B5}{t:TId}:QId X tg e t=(PId X tg e t):=by unfold QId;rfl
@[irreducible] def QIf(X:Cx) (e:List B5) (t:TTd):Prop:=zo X e t
theorem QIf.eq{X:Cx}{e:List B5}{t:TTd}:QIf X e t=(zo X e t):=by unfold QIf;rfl
@[irreducible] def QOd(X:Cx) (e:Option B5) (t:TOd):Prop:=POd X e t
theorem QOd.eq{X:Cx}{e:Option B5}{t:TOd}:QOd X e t=(POd X e t):=by unfold QOd;rfl
theorem ae{X:Cx}(i:Nat) {x:Str}{pos:Pos}(hN:X.N[i]?=some x:=by rfl) (hv:Vis X.env.scope x:=by first|exact Or.inl rfl|exact Or.inr (Or.inl rfl)|exact Or.inr (Or.inr rfl)) (hd:(x==("__debug__":Str))=false:=by decide)
  (hcd:(x==("__classdict__":Str))=false:=by decide):QEd X (.Name x pos) (js i):=by
 simp only[QEd.eq]at *
 exact(yC hN hv hd hcd).conv fun σ H Q ⟨Δ,M,R,sr,hr,⟨d,e,q⟩,k⟩=>let⟨v,ev,rv⟩:=sr.2 i d e;⟨v,ev,k d M v H q (Ext.refl _ _) hr rv⟩
theorem am{X:Cx}{i j pos}:QEd X (.Constant (.int i) j pos) (dC (.int i)):=by
 simp only[QEd.eq]at *
 exact wO.conv fun σ H Q hup=>hup.el fun Δ M R sr hr q k=>k _ M _ H q (Ext.refl _ _) hr (by simp[Rep])
theorem vb{X:Cx}{i j pos}:QEd X (.Constant (.bool i) j pos) (dC (.bl i)):=by
 simp only[QEd.eq]at *
 exact zK.conv fun σ H Q hup=>hup.el fun Δ M R sr hr q k=>k _ M _ H q (Ext.refl _ _) hr (by simp[Rep])
theorem bw{X:Cx}{i j pos}:QEd X (.Constant (.str i) j pos) (dC (.str i)):=by
 simp only[QEd.eq]at *
 exact yk.conv fun σ H Q hup=>hup.el fun Δ M R sr hr q k=>k _ M _ H q (Ext.refl _ _) hr (by simp[Rep])
theorem k7{X:Cx}{j pos}:QEd X (.Constant .none j pos) (dC .non):=by
 simp only[QEd.eq]at *
 exact xo.conv fun σ H Q hup=>hup.el fun Δ M R sr hr q k=>k _ M _ H q (Ext.refl _ _) hr (by simp[Rep])
theorem cZ{X:Cx}{x:Str}{i:Int}{pos:Pos}(hg:Gl X x) (hm:∃tk,X.mg x=some (.int i tk)) (hd:(x==("__debug__":Str))=false:=by decide):QEd X (.Name x pos) (dC (.int i)):=by
 simp only[QEd.eq]at *
 obtain⟨t,ht⟩:=hm;exact uy hg ht hd
theorem bG{X:Cx}{x y:Str}{pos:Pos}(hg:Gl X x) (hm:∃tk,X.mg x=some (.str y tk)) (hd:(x==("__debug__":Str))=false:=by decide):QEd X (.Name x pos) (dC (.str y)):=by
 simp only[QEd.eq]at *
 obtain⟨t,ht⟩:=hm;exact uI hg ht hd
theorem ah{X:Cx}:QAd X [] oJ:=by
 simp only[QAd.eq]at *
 exact iB.conv fun σ H Q hup=>hup.el fun Δ M R sr hr q k=>k _ M _ H q (Ext.refl _ _) hr aj.nil
theorem af{X:Cx}{a:B5}{es:List B5}{ta:TEd}{tr:TAd}(ha:QEd X a ta) (hr:QAd X es tr) (hs:A8 (a::es) X.env=(false,N0 a X.env)::A8 es X.env:=by rfl):QAd X (a::es) (fG ta tr):=by
 simp only[QEd.eq,QAd.eq]at *
 exact(eJ ha hr hs).conv fun σ H Q hup=>hup.el fun Δ M R sr hr q k=>⟨Δ,M,_,sr,hr,q,fun d M1 v H1 q1 e1 hr1 rv=>⟨Δ,M1,_,sr.ext e1,hr1,q1,fun ds M2 vs H2 q2 e2 hr2 rvs =>
   k _ M2 _ H2 q2 (e1.trans e2) hr2 (aj.cons (rv.ext e2) rvs)⟩⟩
theorem cQ{X:Cx}{es:List B5}{pos:Pos}{x1}{t:TAd}(h:QAd X es t):QEd X (.Tuple es x1 pos) (xC t):=by
 simp only[QEd.eq,QAd.eq]at *
 exact(yx h).conv fun σ H Q hup=>hup.el fun Δ M R sr hr q k=>⟨Δ,M,_,sr,hr,q,fun ds M1 vs H1 ⟨z,q1⟩ e1 hr1 rv=>⟨by rw[<-rv.length];exact z,fun p hp=>k _ M1 _ _ q1 (e1.trans (Ext.new hr1 hp)) (hr1.new hp) (by
   simp only[Rep];exact⟨p,vs,rfl,.inl ⟨.inl bK,hr1.fresh hp⟩,rv.ext (Ext.new hr1 hp)⟩)⟩⟩
theorem n6{X:Cx}{es:List B5}{pos:Pos}{t:TAd}(h:QAd X es t):QEd X (.List es pos) (Ab t):=by
 simp only[QEd.eq,QAd.eq]at *
 exact(sE h).conv fun σ H Q hup=>hup.el fun Δ M R sr hr q k=>⟨Δ,M,_,sr,hr,q,fun ds M1 vs H1 ⟨z,q1⟩ e1 hr1 rv=>⟨by rw[<-rv.length];exact z,fun p hp=>k _ M1 _ _ q1 (e1.trans (Ext.new hr1 hp)) (hr1.new hp) (by
   simp only[Rep];exact⟨p,vs,rfl,⟨bK,hr1.fresh hp⟩,rv.ext (Ext.new hr1 hp)⟩)⟩⟩
theorem fM{X:Cx}{es:List B5}{pos:Pos}{t:TAd}(h:QAd X es t):QEd X (.List es pos) (wc t):=by
 simp only[QEd.eq,QAd.eq]at *
 exact(sE h).conv fun σ H Q hup=>hup.el fun Δ M R sr hr q k=>⟨Δ,M,_,sr,hr,q,fun ds M1 vs H1 ⟨z,q1⟩ e1 hr1 rv=>⟨by rw[<-rv.length];exact z,fun p hp=>k _ _ _ _ (q1 p (hr1.fresh hp)) (e1.trans (Ext.own hp)) (hr1.own hp rv) (by
   simp only[Rep])⟩⟩
theorem aI{X:Cx}{a:B5}{b:B5}{ta:TEd}{tb:TEd}{pos:Pos}{op:Operator}{r:D->D->Option D}(ho:bO X (E8 op) r) (ha:QEd X a ta) (hb:QEd X b tb):QEd X (.BinOp a op b pos) (dOp r ta tb):=by
 simp only[QEd.eq]at *
 exact(zu ho.v ha hb).conv tV
theorem nY{X:Cx}{a:B5}{b:B5}{ta:TEd}{tb:TEd}{pos:Pos}{op:CmpOp}{r:D->D->Option D}(ho:bO X (C2 op) r) (ha:QEd X a ta) (hb:QEd X b tb) (hm:L6 op b=false):QEd X (.Compare a [op] [b] pos) (dOp r ta tb):=by
 simp only[QEd.eq]at *
 exact(vA ho.v ha hb hm).conv tV
theorem bJ{X:Cx}{a:B5}{b:B5}{ta:TEd}{tb:TEd}{pos:Pos}{r:D->D->Option D}(ho:IxR X (opV X.K r)) (ha:QEd X a ta) (hb:QEd X b tb) (hs:pQ b):QEd X (.Subscript a b pos) (dOp r ta tb):=by
 simp only[QEd.eq]at *
 exact(yJ ho ha hb hs).conv tV
theorem xb{X:Cx}{a:B5}{ta:TEd}{pos:Pos}{op:UnaryOp}{r:D->Option D}(ho:zD X (unaryOp op) r) (ha:QEd X a ta):QEd X (.UnaryOp op a pos) (dUn r ta):=by
 simp only[QEd.eq]at *
 have h:UnR X (unaryOp op) (fun x H Q=>∃dx dz M,HR X.K M H/\aF X.K M H dx x/\r dx=some dz/\∀w H',Ext M H M H'->HR X.K M H'->Rep X.K M H' dz w->Q w H'):=fun aa s σ H x v Q I rx ⟨dx,dz,M,hr,r1,e,k⟩=>ho aa s σ H M x v dx dz Q I hr rx r1 e k;exact(zr h ha).conv fun σ H Q hup=>hup.el fun Δ M R sr hr q k=>⟨Δ,M,_,sr,hr,q,fun x M1 v H1 ⟨z,ez,q1⟩ e1 hr1 rv=>⟨_,z,M1,hr1,rv.rd hr1,ez,fun w H' e2 hr2 rw_=>k z M1 w H' q1 (e1.trans e2) hr2 rw_⟩⟩
theorem aL{X:Cx}{a:B5}{b:B5}{ta:TEd}{tb:TEd}{pos:Pos}{op:CmpOp}{r:D->D->Option D}(ho:bO X (C2 op) r) (ha:QEd X a ta) (hb:QEd X b tb) (hm:L6 op b=false):QTd X (.Compare a [op] [b] pos) (vL (dOp r ta tb)):=by
 simp only[QEd.eq,QTd.eq]at *
 refine(vg ho.v ha hb hm).conv fun σ H Q h=>?_;obtain⟨Δ,M,R,sr,hr,q,k⟩:=h;exact⟨Δ,M,_,sr,hr,q,fun x M1 v H1 q1 e1 hr1 rv=>⟨Δ,M1,_,sr.ext e1,hr1,q1,fun y M2 u H2 ⟨z,ez,b,eb,q2⟩ e2 hr2 ru=>⟨_,_,z,M2,hr2,(rv.ext e2).rd hr2,ru.rd hr2,ez,fun w H' e3 hr3 rw_ =>
  ⟨b,by subst eb;simpa only[Rep]using rw_,k b M2 H' q2 ((e1.trans e2).trans e3) hr3⟩⟩⟩⟩
theorem eB{X:Cx}{a:B5}{ta:TEd}(h:QEd X a ta) (he:∀whole,isTrue a X.env whole=(do let v <-whole;standAt a.pos;Q9 [v] (truthy v)):=by intro _;rfl):QTd X a (vL ta):=by
 simp only[QEd.eq,QTd.eq]at *
 exact(xf h he).conv yT
theorem kn{X:Cx}{a:B5}{pos:Pos}{tA:TTd}(h:QTd X a tA):QTd X (.UnaryOp .Not a pos) (wo tA):=by
 simp only[QTd.eq]at *
 exact(xx h).conv fun σ H Q hup=>hup.el fun Δ M R sr hr q k=>⟨Δ,M,_,sr,hr,q,fun b M1 H1 q1 e1 hr1=>k _ M1 H1 q1 e1 hr1⟩
theorem jy{X:Cx}{a:B5}{pos:Pos}{tA:TTd}(ha:QTd X a tA):QWd X (.BoolOp .And [a] pos) tA:=by
 simp only[QTd.eq,QWd.eq]at *
 exact vv ha
theorem mD{X:Cx}{a:B5}{pos:Pos}{tA:TTd}(ha:QTd X a tA):QWd X (.BoolOp .Or [a] pos) tA:=by
 simp only[QTd.eq,QWd.eq]at *
 exact yv ha
theorem jE{X:Cx}{a:B5}{b:B5}{pos:Pos}{tA:TTd}{tB':TTd}{aU:List B5}(ha:QTd X a tA) (hb:QWd X (.BoolOp .And (b::aU) pos) tB'):QWd X (.BoolOp .And (a::b::aU) pos) (wu tA tB'):=by
 simp only[QTd.eq,QWd.eq]at *
 exact(w9 ha hb).conv fun σ H Q hup=>hup.el fun Δ M R sr hr q k=>⟨Δ,M,_,sr,hr,q,fun c M1 H1 q1 e1 hr1=>by
   cases c with
   |true=>simp only[if_true]at q1 ⊢;exact⟨Δ,M1,R,sr.ext e1,hr1,q1,fun b M2 H2 q2 e2 hr2=>k b M2 H2 q2 (e1.trans e2) hr2⟩
   |false=>simp only[E2,if_false]at q1 ⊢;exact k _ M1 H1 q1 e1 hr1⟩
theorem lE{X:Cx}{a:B5}{b:B5}{pos:Pos}{tA:TTd}{tB':TTd}{aU:List B5}(ha:QTd X a tA) (hb:QWd X (.BoolOp .Or (b::aU) pos) tB'):QWd X (.BoolOp .Or (a::b::aU) pos) (zP tA tB'):=by
 simp only[QTd.eq,QWd.eq]at *
 exact(yN ha hb).conv fun σ H Q hup=>hup.el fun Δ M R sr hr q k=>⟨Δ,M,_,sr,hr,q,fun c M1 H1 q1 e1 hr1=>by
   cases c with
   |false=>simp only[E2,if_false]at q1 ⊢;exact⟨Δ,M1,R,sr.ext e1,hr1,q1,fun b M2 H2 q2 e2 hr2=>k b M2 H2 q2 (e1.trans e2) hr2⟩
   |true=>simp only[if_true]at q1 ⊢;exact k _ M1 H1 q1 e1 hr1⟩
theorem dX{X:Cx}{a:B5}{ta:TEd}{pos:Pos}{op}(h:QEd X a ta):QEd X (.BoolOp op [a] pos) ta:=by
 simp only[QEd.eq]at *
 exact wW h
theorem bQ{X:Cx}{a:B5}{b:B5}{ta:TEd}{tb:TEd}{pos:Pos}{aU:List B5}(ha:QEd X a ta) (hb:QEd X (.BoolOp .And (b::aU) pos) tb):QEd X (.BoolOp .And (a::b::aU) pos) (zV ta tb):=by
 simp only[QEd.eq]at *
 exact(yz ha hb).conv fun σ H Q hup=>hup.el fun Δ M R sr hr q k=>⟨Δ,M,_,sr,hr,q,fun d M1 v H1 ⟨c,e,q1⟩ e1 hr1 rv=>⟨c,by subst e;simpa only[Rep]using rv,by
   cases c with
   |true=>simp only[if_true]at q1 ⊢;exact⟨Δ,M1,R,sr.ext e1,hr1,q1,fun b M2 v2 H2 q2 e2 hr2 r2=>k b M2 v2 H2 q2 (e1.trans e2) hr2 r2⟩
   |false=>simp only[E2,if_false]at q1 ⊢;exact k _ M1 _ H1 q1 e1 hr1 (by simp[Rep])⟩⟩
theorem z6{X:Cx}{a:B5}{ta:TEd}{pos:Pos}(ha:QEd X a ta):QEd X (.UnaryOp .Not a pos) (zB ta):=by
 simp only[QEd.eq]at *
 exact(ym ha).conv fun σ H Q hup=>hup.el fun Δ M R sr hr q k=>⟨Δ,M,_,sr,hr,q,fun d M1 v H1 ⟨c,e,q1⟩ e1 hr1 rv =>
  ⟨c,by subst e;simpa only[Rep]using rv,k _ M1 _ H1 q1 e1 hr1 (by simp[Rep])⟩⟩
theorem Ap{X:Cx}{a:B5}{b:B5}{c:B5}{ta:TEd}{tb:TEd}{pos:Pos}{tA:TTd}(hc:QTd X c tA) (ha:QEd X a ta) (hb:QEd X b tb):QEd X (.IfExp c a b pos) (dIf tA ta tb):=by
 simp only[QEd.eq,QTd.eq]at *
 exact(tm hc ha hb).conv fun σ H Q hup=>hup.el fun Δ M R sr hr q k=>⟨Δ,M,_,sr,hr,q,fun c M1 H1 q1 e1 hr1=>by
   cases c with
   |true=>simp only[if_true]at q1 ⊢;exact⟨Δ,M1,R,sr.ext e1,hr1,q1,fun b M2 v2 H2 q2 e2 hr2 r2=>k b M2 v2 H2 q2 (e1.trans e2) hr2 r2⟩
   |false=>simp only[E2,if_false]at q1 ⊢;exact⟨Δ,M1,R,sr.ext e1,hr1,q1,fun b M2 v2 H2 q2 e2 hr2 r2=>k b M2 v2 H2 q2 (e1.trans e2) hr2 r2⟩⟩
theorem jx{X:Cx}{a:B5}{b:B5}{c:B5}{ta:TEd}{tb:TEd}{pos:Pos}{tc:TEd}{op op':CmpOp}{r r':D->D->Option D}(ho:bO X (C2 op) r) (ho':bO X (C2 op') r') (ha:QEd X a ta) (hb:QEd X b tb) (hc:QEd X c tc)
  (hm:lastMarks [op,op'] [b,c]=false:=by with_unfolding_all rfl):QEd X (.Compare a [op,op'] [b,c] pos) (tW r r' ta tb tc):=by
 simp only[QEd.eq]at *
 refine(sZ ho.v ho'.v ha hb hc hm).conv fun σ H Q h=>?_;obtain⟨Δ,M,R,sr,hr,q,k⟩:=h;refine⟨Δ,M,_,sr,hr,q,fun x M1 v H1 q1 e1 hr1 rv=>⟨Δ,M1,_,sr.ext e1,hr1,q1,fun y M2 u H2 ⟨b,eb,q2⟩ e2 hr2 ru=>⟨_,_,.bl b,M2,hr2,(rv.ext e2).rd hr2,ru.rd hr2,eb,fun w H3 e3 hr3 rw_ =>
  ⟨b,by simpa only[Rep]using rw_,?_⟩⟩⟩⟩
 cases b with
 |true =>
  simp only[if_true]at q2 ⊢;exact⟨Δ,M2,_,(sr.ext (e1.trans e2)).ext e3,hr3,q2,fun z M4 w4 H4 ⟨d,ed,q4⟩ e4 hr4 r4=>⟨_,_,d,M4,hr4,((ru.ext e3).ext e4).rd hr4,r4.rd hr4,ed,fun w5 H5 e5 hr5 r5=>k d M4 w5 H5 q4 ((((e1.trans e2).trans e3).trans e4).trans e5) hr5 r5⟩⟩
 |false =>
  simp only[E2,if_false]at q2 ⊢;exact k _ M2 _ H3 q2 ((e1.trans e2).trans e3) hr3 (by simp[Rep])
theorem aB{X:Cx}{pos:Pos}{x:Str}{p:Pos}{e:B5}{es:List B5}{t:TAd}{id:String}{r:List D->Option D}(hc:cw X (.builtin id) r) (hg:Gl X x) (hm:X.mg x=none) (hv:F7 x=some (.builtin id)) (ha:QAd X (e::es) t) (hn:x≠"__name__":=by decide) (hdb:(x==("__debug__":Str))=false:=by decide)
  (he:A8 (e::es) X.env=(false,N0 e X.env)::A8 es X.env:=by rfl) (hpl:(J0 pos (A8 es X.env)).any (·.1)=false:=by rfl):QEd X (.Call (.Name x p) (e::es) [] pos) (dCB r t):=by
 simp only[QEd.eq,QAd.eq]at *
 exact(om hc.v hg hm hv ha hn hdb he hpl).conv v6
theorem cB{X:Cx}{pos:Pos}{x:Str}{p:Pos}{e:B5}{es:List B5}{t:TAd}{id:String}{r:List D->Option D}(hc:cw X (.type id) r) (hg:Gl X x) (hm:X.mg x=none) (hv:F7 x=some (.type id)) (ha:QAd X (e::es) t) (hn:x≠"__name__":=by decide) (hdb:(x==("__debug__":Str))=false:=by decide)
  (he:A8 (e::es) X.env=(false,N0 e X.env)::A8 es X.env:=by rfl) (hpl:(J0 pos (A8 es X.env)).any (·.1)=false:=by rfl):QEd X (.Call (.Name x p) (e::es) [] pos) (dCB r t):=by
 simp only[QEd.eq,QAd.eq]at *
 exact(qP hc.v hg hm hv ha hn hdb he hpl).conv v6
theorem bb{X:Cx}:QSs X [] wB:=by
 simp only[QSs.eq]at *
 exact vQ.conv fun D σ H hup=>hup.el fun Δ M E sr hr q u=>u.nx Δ M σ H q (Ext.refl _ _) hr sr
theorem ai{X:Cx}{st:Q6}{aU:List Q6}{t:TSd}{u:TSd}(h1:QSd X st t) (h2:QSs X aU u):QSs X (st::aU) (wJ t u):=by
 simp only[QSd.eq,QSs.eq]at *
 exact(uu h1 h2).conv fun D σ H hup=>hup.el fun Δ M E sr hr q k=>⟨Δ,M,{ E with nx:=u E },sr,hr,q,⟨fun Δ' M' σ' H' q' e' hr' sr'=>⟨Δ',M',E,sr',hr',q',k.ext e'⟩,k.bk,k.ct,k.rt⟩⟩
theorem ak{X:Cx}{st:Q6}{t:TSd}(h1:QSd X st t):QSs X [st] t:=by
 simp only[QSd.eq,QSs.eq]at *
 exact uw h1
theorem aC{X:Cx}{e:B5}{te:TEd}{pos:Pos}(he:QEd X e te):QSd X (.Return (some e) pos) (yI te):=by
 simp only[QEd.eq,QSd.eq]at *
 exact(oK he).conv fun D σ H hup=>hup.el fun Δ M E sr hr q k=>⟨Δ,M,_,sr,hr,q,k.rt⟩
theorem fo{X:Cx}{e:B5}{te:TEd}{pos:Pos}(he:QEd X e te) (hs:P8 e none pos.line X.env=P0 false:=by rfl):QSd X (.Expr e pos) (qr te):=by
 simp only[QEd.eq,QSd.eq]at *
 exact(uK he hs).conv fun D σ H hup=>hup.el fun Δ M E sr hr q k=>⟨Δ,M,_,sr,hr,q,fun d M1 v H1 q1 e1 hr1 _=>k.nx Δ M1 σ H1 q1 e1 hr1 (sr.ext e1)⟩
theorem bD{X:Cx}{c:B5}{pos:Pos}{t:TSd}{u:TSd}{sa sb:List Q6}{tc:TTd}(hc:QTd X c tc) (ha:QSs X sa t) (hb:QSs X sb u):QSd X (.If c sa sb pos) (zE tc t u):=by
 simp only[QTd.eq,QSd.eq,QSs.eq]at *
 exact(z7 hc ha hb).conv fun D σ H hup=>hup.el fun Δ M E sr hr q k=>⟨Δ,M,_,sr,hr,q,fun b M1 H1 q1 e1 hr1=>by
   cases b with
   |true=>simp only[if_true]at q1 ⊢;exact⟨Δ,M1,E,sr.ext e1,hr1,q1,k.ext e1⟩
   |false=>simp only[E2,if_false]at q1 ⊢;exact⟨Δ,M1,E,sr.ext e1,hr1,q1,k.ext e1⟩⟩
theorem aN{X:Cx}{e:B5}{te:TEd}{pos:Pos}{i:Nat}{x:Str}{pos':Pos}(hN:X.N.Nodup) (hi:X.N[i]?=some x) (hx:Loc X.env.scope x) (he:QEd X e te) (hs:P8 e (some (.Name x pos')) pos.line X.env=P0 false:=by rfl) (hf:X.fn x=true∨X.env.scope.names.lookup x=some .local:=by first|exact .inl rfl|exact .inr rfl|assumption) :
  QSd X (.Assign [.Name x pos'] e pos) (va i te):=by
 simp only[QEd.eq,QSd.eq]at *
 exact(xu hN hi hx he hs hf).conv fun D σ H hup=>hup.el fun Δ M E sr hr q k=>⟨Δ,M,_,sr,hr,q,fun d M1 v H1 q1 e1 hr1 rv=>k.nx _ M1 _ H1 q1 e1 hr1 ((sr.ext e1).set i rv)⟩
theorem pO{X:Cx}{e:B5}{te:TEd}{pos:Pos}{tg:B5}{g:GD}(he:QEd X e te) (hg:PGd X tg g) (hs:swapsWithSole [tg] e pos.line X.env=P0 false:=by rfl) (hw:swappedStores [tg] e X.env=P0 none:=by rfl)
  (h1:(E3 [tg] X.env).map (·.2)=[O9 tg X.env]:=by rfl):QSd X (.Assign [tg] e pos) (zU te g):=by
 simp only[QEd.eq,QSd.eq]at *
 obtain⟨gv,pg,kg⟩:=hg;exact(tv he pg hs hw h1).conv fun D σ H hup=>hup.el fun Δ M E sr hr q k=>⟨Δ,M,_,sr,hr,q,fun d M1 v H1 ⟨Δ',eg,q1⟩ e1 hr1 rv=>kg d v σ Δ Δ' M1 H1 _ (sr.ext e1) hr1 rv eg fun σ' sr'=>k.nx Δ' M1 σ' H1 q1 e1 hr1 sr'⟩
theorem gZ{X:Cx}{a:B5}{pos:Pos}{tg:B5}{ta:TAd}{p:Pos}(hg:Gl X "range") (hm:X.mg "range"=none) (ha:QAd X [a] ta) (hs:A8 [a] X.env=[(false,N0 a X.env)]:=by rfl):QId X tg (.Call (.Name "range" p) [a] [] pos) (sv ta):=by
 simp only[QAd.eq,QId.eq]at *
 exact(qJ hg hm ha hs).conv fun σ H R hup=>hup.el fun Δ M R' sr hr q k=>⟨Δ,M,_,sr,hr,q,fun ds M1 vs H1 ⟨j,ed,h1,h2,q1⟩ e1 hr1 rv=>by
   subst ed;obtain⟨v,ev,rv1⟩:=rv.one;have ev1:v=.int j:=by simpa only[Rep]using rv1
   subst ev1;subst ev;exact⟨j,rfl,h1,h2,k _ M1 _ H1 q1 e1 hr1 uQ⟩⟩
theorem gk{X:Cx}{pos:Pos}{tg:B5}{iter:B5}{body:List Q6}{wi:TId}{g:GD}{tb:TSd}(hp:PassesOwn (C8 X.prog X.w) X.A X.env X.xe) (hc:X.calm=true) (hi:QId X tg iter wi) (hg:PGd X tg g) (hb:QSs X body tb)
  (hs:∀x,J3 iter X.env x=P0 x:=by intro _;rfl):QSd X (.For tg iter body [] pos) (yK wi g tb):=by
 simp only[QSd.eq,QSs.eq,QId.eq]at *
 obtain⟨gv,pg,kg⟩:=hg;refine(wG hp hc hi pg hb hs).conv fun D σ H hh=>?_;obtain⟨Δ,M,E,sr,hr,q,k⟩:=hh;refine⟨Δ,M,_,sr,hr,q,fun ds M1 J H1 q1 e1 hr1 it=>?_⟩;refine⟨fun i m σ' H'=>∃ Δ' M',m=ds.length-i/\i<=ds.length/\Ext M1 H1 M' H'/\HR X.K M' H'/\SR X.K M' H' σ' Δ'/\bS g tb E (ds.drop i) Δ' M',⟨ds.length,Δ,M1,by simp,P5 _,Ext.refl _ _,hr1,sr.ext e1,q1⟩,?_⟩;rintro i m σ2 H2 ⟨Δ2,M2,rfl,hi2,e2,hr2,sr2,f2⟩;obtain⟨go,stop⟩:=it M2 H2 e2 hr2 i
 by_cases hlt:i<ds.length
 ·have hd:ds[i]?=some ds[i]:=by simp[hlt]
  obtain⟨g1,y1⟩:=go _ hd;rw[List.drop_eq_getElem_cons hlt]at f2;simp only[bS]at f2;obtain⟨Δ3,eg,f3⟩:=f2;refine .inr ⟨g1,fun σ' H'=>∃m',m'<ds.length-i/\∃ Δ' M',m'=ds.length-(i+1)/\i+1<=ds.length/\Ext M1 H1 M' H'/\HR X.K M' H'/\SR X.K M' H' σ' Δ'/\bS g tb E (ds.drop (i+1)) Δ' M',fun σ' H' z=>z,fun x H' hy=>?_⟩;obtain⟨e3,hr3,rx⟩:=y1 x H' hy;refine kg _ x σ2 Δ2 Δ3 M2 H' _ (sr2.ext e3) hr3 rx eg fun σ3 sr3=>?_;refine⟨Δ3,M2,_,sr3,hr3,f3,⟨fun Δ' M' σ' H'' q' e' hr' sr'=>?_,fun Δ' M' σ' H'' q' e' hr' sr'=>?_,fun Δ' M' σ' H'' q' e' hr' sr'=>?_,fun d M' v H'' q' e' hr' rv'=>?_⟩⟩
  ·exact⟨_,by lia,Δ',M',rfl,hlt,(e2.trans e3).trans e',hr',sr',q'⟩
  ·exact k.nx Δ' M' σ' H'' q' (((e1.trans e2).trans e3).trans e') hr' sr'
  ·exact⟨_,by lia,Δ',M',rfl,hlt,(e2.trans e3).trans e',hr',sr',q'⟩
  ·exact k.rt d M' v H'' q' (((e1.trans e2).trans e3).trans e') hr' rv'
 ·rw[List.drop_eq_nil_of_le (by lia)]at f2;exact .inl ⟨stop (by lia),k.nx Δ2 M2 σ2 H2 f2 (e1.trans e2) hr2 sr2⟩
theorem bH{X:Cx}:QIf X [] uT:=by
 simp only[QIf.eq]at *
 exact fun aa s σ H Q I ⟨Δ,M,R,sr,hr,q,k⟩=>vI aa s σ H Q I (k true M H q (Ext.refl _ _) hr)
theorem xA{X:Cx}{c:B5}{tc:TTd}(h:QTd X c tc):QIf X [c] tc:=by
 simp only[QTd.eq,QIf.eq]at *
 exact vn h
theorem ff{X:Cx}{pos:Pos}{tg:B5}{iter:B5}{elt:B5}{scope:L5}{cl:List (Str×B0)}{ms:List Bool}{ao:List Str}{ifs:List B5}{wi:TId}{g:GD}{tc:TTd}{te:TEd}(S:fh X scope cl ms ao) (g6:X.calm=true) (hi:QId X tg iter wi) (hg:PGa X scope cl ao tg g)
  (hif:∀C s H ex,QIf (aP X scope cl (X.N++ao) C s H ex) ifs tc) (he:∀C s H ex,QEd (aP X scope cl (X.N++ao) C s H ex) elt te)
  (hs:∀x,J3 iter X.env x=P0 x:=by intro _;rfl):QEd X (.ListComp elt [⟨tg,iter,ifs,0⟩] scope pos) (dLc ms ao.length wi g tc te):=by
 simp only[QEd.eq,QId.eq,QIf.eq]at *
 obtain⟨gv,pg,kg⟩:=hg;exact(xM (tc:=upT X.K tc) S g6 hi pg hif (se (te:=up X.K te) he) hs).conv (p7 kg)
theorem vO{X:Cx}{pos:Pos}{tg:B5}{iter:B5}{elt:B5}{scope:L5}{cl:List (Str×B0)}{ms:List Bool}{ao:List Str}{ifs:List B5}{i:Nat}{x:Str}{spos pos':Pos}{wi:TId}{g:GD}{tc:TTd}{te:TEd}(hN:X.N.Nodup) (hix:X.N[i]?=some x) (hx:X.env.scope.names.lookup x=some .local)
  (hsw:P8 (.ListComp elt [⟨tg,iter,ifs,0⟩] scope pos) (some (.Name x pos')) spos.line X.env=P0 true) (S:fh X scope cl ms ao) (g6:X.calm=true) (hi:QId X tg iter wi) (hg:PGa X scope cl ao tg g)
  (hif:∀C s H ex,QIf (aP X scope cl (X.N++ao) C s H ex) ifs tc) (he:∀C s H ex,QEd (aP X scope cl (X.N++ao) C s H ex) elt te)
  (hs:∀x,J3 iter X.env x=P0 x:=by intro _;rfl):QSd X (.Assign [.Name x pos'] (.ListComp elt [⟨tg,iter,ifs,0⟩] scope pos) spos) (va i (dLc ms ao.length wi g tc te)):=by
 simp only[QEd.eq,QSd.eq,QId.eq,QIf.eq]at *
 obtain⟨gv,pg,kg⟩:=hg;refine(qS (tc:=upT X.K tc) hN hix hx hsw S g6 hi pg hif (se (te:=up X.K te) he) hs).conv fun D σ H hh=>?_;obtain⟨Δ,M,E,sr,hr,q,k⟩:=hh;exact p7 kg σ H _ ⟨Δ,M,_,sr,hr,q,fun d M1 v H1 q1 e1 hr1 rv=>k.nx _ M1 _ H1 q1 e1 hr1 ((sr.ext e1).set i rv)⟩
theorem t8{X:Cx}{e:B5}{te:TEd}{pos:Pos}{o i:B5}{to ti:TEd}{p:Pos}(ho:QEd X o to) (hi:QEd X i ti) (he:QEd X e te)
  (ha:∀ v,O9 (.Subscript o i p) X.env v = (do
   let ov <-Q9 [v] (N0 o X.env)
   let iv <-Q9 [v,ov] (N0 i X.env)
   standAt p
   Q9 [v,ov,iv] (setItem ov iv v)
   release [v,ov,iv] []):=by intro _;rfl) (hs:swapsWithSole [.Subscript o i p] e pos.line X.env=P0 false:=by rfl) (hw:swappedStores [.Subscript o i p] e X.env=P0 none:=by rfl)
  (h1:(E3 [.Subscript o i p] X.env).map (·.2)=[O9 (.Subscript o i p) X.env]:=by rfl):QSd X (.Assign [.Subscript o i p] e pos) (zJ to ti te):=by
 simp only[QEd.eq,QSd.eq]at *
 exact(tv he (ye ho hi r8 ha) hs hw h1).conv fun D σ H hup=>hup.el fun Δ M E sr hr q k=>⟨Δ,M,_,sr,hr,q,fun d M1 v H1 q1 e1 hr1 rv=>⟨Δ,M1,_,sr.ext e1,hr1,q1,fun o M2 ov H2 q2 e2 hr2 ro=>⟨Δ,M2,_,(sr.ext e1).ext e2,hr2,q2,fun i M3 iv H3 ⟨a,ds,kk,j,eo,ei,em,ej,q3⟩ e3 hr3 ri=>by
   subst eo;subst ei;simp only[Rep]at ro ri;subst ro;subst ri;obtain⟨vs,hv,rl⟩:=hr3 a _ em;refine⟨a,vs,kk,j,rfl,rfl,hv,by rw[<-rl.length];exact ej,?_⟩;exact k.nx Δ _ σ _ q3 (((e1.trans e2).trans e3).trans (Ext.write em)) (hr3.write em (rl.set j ((rv.ext e2).ext e3))) ((((sr.ext e1).ext e2).ext e3).ext (Ext.write em))⟩⟩⟩
theorem ja{X:Cx}{e:B5}{te:TEd}{o:B5}{to:TEd}{dI bj:Pos}(ho:QEd X o to) (he:QEd X e te) (gW:L1 o "append" X.env (N0 o X.env)=N0 o X.env:=by rfl)
  (hse:A8 [e] X.env=(false,N0 e X.env)::A8 [] X.env:=by rfl)
  (nc:((J0 bj (A8 [e] X.env)).all (fun x => !x.1) && (Q5 bj (N3 [] X.env)).all (fun x => x.1.isSome)
  &&decide ([e].length+([]:List M6).length+(if([]:List M6).isEmpty then 0 else 1)<30))=true:=by rfl)
  (gP:(dI.endLine==bj.line)=true:=by rfl) (cT:(J0 bj (A8 [] X.env)).any (·.1)=false:=by rfl):QEd X (.Call (.Attribute o "append" dI) [e] [] bj) (vR to te):=by
 simp only[QEd.eq]at *
 exact(qC PySem.F.plainAttrs_list PySem.F.slot_list_append PySem.F.type_list_append (show MtR X "list.append" qG from qZ) ho (eJ he iB hse) gW nc gP hse cT).conv fun σ H Q hup=>hup.el fun Δ M R sr hr q k=>⟨Δ,M,_,sr,hr,q,fun o M1 ov H1 ⟨a,l,eo,em,q1⟩ e1 hr1 ro=>by
   subst eo;simp only[Rep]at ro;subst ro;obtain⟨vs,hv,rl⟩:=hr1 a _ em;refine⟨.inl ⟨rfl,vs,SqL.of hv⟩,Δ,M1,_,sr.ext e1,hr1,q1,fun d M2 v H2 ⟨ds,em2,hz,q2⟩ e2 hr2 rv=>?_⟩;obtain⟨ws,hw,rl2⟩:=hr2 a _ em2;refine⟨a,ws,v,rfl,rfl,hw,by rw[<-rl2.length];exact hz,k _ _ _ _ q2 ((e1.trans e2).trans (Ext.write em2)) (hr2.write em2 (rl2.append (aj.cons rv aj.nil))) (by simp[Rep])⟩⟩
theorem dg{X:Cx}{a:B5}{ta:TEd}{pos:Pos}{T:Str}{Tn:String}{p p2:Pos}(hT:okT Tn=true) (hg:Gl X "isinstance") (hm:X.mg "isinstance"=none) (hg2:Gl X T) (hm2:X.mg T=none) (hv2:F7 T=some (.type Tn)) (ha:QEd X a ta) (hn2:T≠"__name__":=by decide) (hd2:(T==("__debug__":Str))=false:=by decide)
  (hs:A8 [a,.Name T p2] X.env=(false,N0 a X.env)::A8 [.Name T p2] X.env:=by rfl) (hs2:A8 [.Name T p2] X.env=(false,N0 (.Name T p2) X.env)::A8 [] X.env:=by rfl) (hpl:(J0 pos (A8 [.Name T p2] X.env)).any (·.1)=false:=by rfl) :
  QEd X (.Call (.Name "isinstance" p) [a,.Name T p2] [] pos) (zC Tn ta):=by
 simp only[QEd.eq]at *
 have hc:cO X (.builtin "isinstance") (fun xs H Q=>∃v d k M,xs=[v,.ty Tn]/\aF X.K M H d v/\uJ Tn d=some k/\Q (.bl k) H):=by
  intro aa s σ H xs us Q I rv h;obtain⟨v,d,k,M,rfl,rd,ek,q⟩:=h;obtain⟨u1,u2,rfl,r1,r2⟩:=ay.two rv;cases r2;exact rN hT I r1 rd ek q
 refine(om hc hg hm (by kernel_rfl) (eJ ha (eJ (vS (v:=.ty Tn) hg2 hm2 hv2 rfl hn2 hd2) iB hs2) hs) (by decide) (by decide) hs hpl).conv fun σ H Q hh=>?_;obtain⟨Δ,M,R,sr,hr,q,k⟩:=hh;exact⟨Δ,M,_,sr,hr,q,fun d M1 v H1 ⟨kk,ek,q1⟩ e1 hr1 rv=>⟨v,_,kk,M1,rfl,rv.rd hr1,ek,k _ M1 _ H1 q1 e1 hr1 (by simp[Rep])⟩⟩
theorem mL{X:Cx}:QOd X none mO:=by
 simp only[QEd.eq,QAd.eq,QTd.eq,QWd.eq,QSd.eq,QSs.eq,QId.eq,QIf.eq,QOd.eq]at *
 exact vt 
theorem md{X:Cx}{e:B5}{te:TEd}(h:QEd X e te):QOd X (some e) (ui te):=by
 simp only[QEd.eq,QAd.eq,QTd.eq,QWd.eq,QSd.eq,QSs.eq,QId.eq,QIf.eq,QOd.eq]at *
 exact uR (h:=h)
theorem gL{X:Cx}{e:B5}{te:TEd}{o:B5}{to:TEd}{dI bj:Pos}(ho:QEd X o to) (he:QEd X e te) (gW:L1 o "join" X.env (N0 o X.env)=N0 o X.env:=by rfl)
  (hse:A8 [e] X.env=(false,N0 e X.env)::A8 [] X.env:=by rfl)
  (nc:((J0 bj (A8 [e] X.env)).all (fun x => !x.1) && (Q5 bj (N3 [] X.env)).all (fun x => x.1.isSome)
  &&decide ([e].length+([]:List M6).length+(if([]:List M6).isEmpty then 0 else 1)<30))=true:=by rfl)
  (gP:(dI.endLine==bj.line)=true:=by rfl) (cT:(J0 bj (A8 [] X.env)).any (·.1)=false:=by rfl):QEd X (.Call (.Attribute o "join" dI) [e] [] bj) (v8 to te):=by
 simp only[QEd.eq]at *
 have hm:MtR X "str.join" (fun x xs H Q=>∃sep a vs ds ys M,x=.str sep/\xs=[.ref a]/\H a=some (.lst vs)/\aj X.K M H ds vs/\eK ds=some ys/\(ys.map (·.length)).sum+ys.length*sep.length<=16777216/\Q (.str (Txt.join sep ys)) H):=by
  intro aa s σ H x xs v us Q I rx rv h;obtain⟨sep,a,vs,ds,ys,M,rfl,rfl,hH,rl,es,hz,q⟩:=h;obtain⟨t,rfl⟩:=rx;obtain⟨u,rfl,ru⟩:=ay.one rv;cases ru;obtain⟨its,r,pl,_⟩:=I.list (SqL.of hH);exact join_list pl.isList (by simpa using j8 rl r es) hz fun t' k=>⟨.str _,H,I.tok _,⟨t',rfl⟩,q⟩
 refine(qC PySem.F.plainAttrs_str PySem.F.slot_str_join PySem.F.type_str_join hm ho (eJ he iB hse) gW nc gP hse cT).conv fun σ H Q hh=>?_;obtain⟨Δ,M,R,sr,hr,q,k⟩:=hh;refine⟨Δ,M,_,sr,hr,q,fun o M1 ov H1 ⟨sep,eo,q1⟩ e1 hr1 ro=>?_⟩;subst eo;simp only[Rep]at ro;subst ro;refine⟨rfl,Δ,M1,_,sr.ext e1,hr1,q1,fun d M2 v H2 ⟨z,ez,q2⟩ e2 hr2 rv=>?_⟩;have rr:=rv.rd hr2;generalize rdM M2 d=d' at rr ez;cases d' with
 |lst ds =>
  obtain⟨a,vs,rfl,sq,rl⟩:=rr;simp only[ij]at ez;cases qs:eK ds with
  |none=>rw[qs]at ez;cases ez
  |some ys =>
   rw[qs]at ez;dsimp only at ez
   by_cases hz:(ys.map (·.length)).sum+ys.length*sep.length<=16777216
   ·rw[if_pos hz]at ez;cases ez;exact⟨sep,a,vs,ds,ys,M2,rfl,rfl,sq,rl,qs,hz,k _ M2 _ H2 q2 (e1.trans e2) hr2 (by simp[Rep])⟩
   ·rw[if_neg hz]at ez;cases ez
 |_=>cases ez
theorem qc{X:Cx}{e:B5}{es:List B5}{t:TAd}{pos:Pos}{p:Pos}{x:Str}{k:Nat}{n:Nat}{S:SpD}(F:FnD X.prog X.w X.K X.mg X.base x k n S) (hr:cv k X.A) (hg:Gl X x) (ha:QAd X (e::es) t) (hdb:(x==("__debug__":Str))=false:=by decide) (he:A8 (e::es) X.env=(false,N0 e X.env)::A8 es X.env:=by rfl) (hpl:(J0 pos (A8 es X.env)).any (·.1)=false:=by rfl) :
  QEd X (.Call (.Name x p) (e::es) [] pos) (kB n S t):=by
 simp only[QEd.eq,QAd.eq,QTd.eq,QWd.eq,QSd.eq,QSs.eq,QId.eq,QIf.eq,QOd.eq]at *
 exact dc (F:=F) (hr:=hr) (hg:=hg) (ha:=ha) (hdb:=hdb) (he:=he) (hpl:=hpl)
theorem qcL{X:Cx}{e:B5}{es:List B5}{t:TAd}{pos:Pos}{p:Pos}{x:Str}{k:Nat}{n:Nat}{S:SpD}(F:FnD X.prog X.w X.K X.mg X.base x k n S) (hr:cv k X.A) (hg:Gl X x) (ha:QAd X (e::es) t) (hdb:(x==("__debug__":Str))=false:=by decide) (he:A8 (e::es) X.env=(false,N0 e X.env)::A8 es X.env:=by rfl) (hpl:(J0 pos (A8 es X.env)).any (·.1)=false:=by rfl) :
  QEd X (.Call (.Name x p) (e::es) [] pos) (lZ n S t):=by
 simp only[QEd.eq,QAd.eq,QTd.eq,QWd.eq,QSd.eq,QSs.eq,QId.eq,QIf.eq,QOd.eq]at *
 exact dcL (F:=F) (hr:=hr) (hg:=hg) (ha:=ha) (hdb:=hdb) (he:=he) (hpl:=hpl)
theorem yr{X:Cx}{e:B5}{te:TEd}{pos:Pos}(he:QEd X e te):QSd X (.Return (some e) pos) (wy te):=by
 simp only[QEd.eq,QSd.eq]at *
 exact(oK he).conv fun D σ H hup=>hup.el fun Δ M E sr hr q k=>⟨Δ,M,_,sr,hr,q,fun d M1 v H1 ⟨a,ds,ed,em,q1⟩ e1 hr1 rv=>by
  subst ed;simp only[Rep]at rv;subst rv;exact k.rt _ _ _ H1 q1 (e1.trans (Ext.le LeM.del)) (hr1.le LeM.del) (Rep.froze hr1 LeM.del em fU)⟩
theorem ba{X:Cx}{te:TEd}{tg:B5}{iter:B5}(h:QEd X iter te):QId X tg iter (wt te):=by
 simp only[QEd.eq,QId.eq]at *
 intro aa s σ H R I hh;obtain⟨Δ,M,R',sr,hr,q,k⟩:=hh;refine thn (h aa s σ H (fun v H1=>∃d ds M1,gz d=some ds/\(ds.length<=A3->R' ds M1)/\Ext M H M1 H1/\HR X.K M1 H1/\Rep X.K M1 H1 d v) I ⟨Δ,M,_,sr,hr,q,fun d M1 v H1 ⟨ds,ed,q1⟩ e1 hr1 rv=>⟨d,ds,M1,ed,q1,e1,hr1,rv⟩⟩) fun u s1 ⟨v,H1,I1,r1,d,ds,M1,ed,q1,e1,hr1,rv⟩=>?_;have lo:=aF.len (K:=X.K) I1 rv;cases d with
 |tup es =>
  cases ed;simp only[Rep]at rv;obtain⟨a,vs,rfl,ta,rl⟩:=rv;cases r1;obtain⟨its,rvv,p,hz⟩:=I1.tuple ta.sq;refine wpAny_pyIter_tuple (show s1.heap.IsTuple a its.toArray from p) ?_;refine⟨s1.heap.objs.size,[s1.heap.objs.size],_,_,H1,rfl,I1.kept (t':=s1.toks) fun b o e=>A6 _ e,oN a _,⟨_,B6 _ rfl,rfl,rfl⟩,o8 (o:=default) I1,?_⟩;refine k _ M1 _ H1 (q1 lo) e1 hr1 fun M2 H2 e2 hr2 i=>⟨fun d hd=>?_,fun hl=>⟨vs,(ta.ext e2).sq,by rw[<-rl.length];exact hl⟩⟩;obtain⟨v,gv,r⟩:=rl.get hd;refine⟨⟨vs,v,(ta.ext e2).sq,gv⟩,fun x H' ⟨eH,y⟩=>?_⟩;subst eH;have:=y vs (ta.ext e2).sq;rw[gv]at this;cases this;exact⟨Ext.refl _ _,hr2,r.ext e2⟩
 |lst es =>
  cases ed;simp only[Rep]at rv;obtain⟨a,vs,rfl,ta,rl⟩:=rv;cases r1;obtain⟨its,rvv,p,hz⟩:=I1.list (SqL.of ta.1);refine wpAny_pyIter_list p.isList ?_;refine⟨s1.heap.objs.size,[s1.heap.objs.size],_,_,H1,rfl,I1.kept (t':=s1.toks) fun b o e=>A6 _ e,lq a _,⟨_,B6 _ rfl,rfl,rfl⟩,o8 (o:=default) I1,?_⟩;refine k _ M1 _ H1 (q1 lo) e1 hr1 fun M2 H2 e2 hr2 i=>⟨fun d hd=>?_,fun hl=>⟨vs,SqL.of (ta.ext e2).1,by rw[<-rl.length];exact hl⟩⟩;obtain⟨v,gv,r⟩:=rl.get hd;refine⟨⟨vs,v,SqL.of (ta.ext e2).1,gv⟩,fun x H' ⟨eH,y⟩=>?_⟩;subst eH;have:=y vs (SqL.of (ta.ext e2).1);rw[gv]at this;cases this;exact⟨Ext.refl _ _,hr2,r.ext e2⟩
 |scr es =>
  cases ed;simp only[Rep]at rv;obtain⟨a,vs,rfl,ta,rl⟩:=rv;cases r1;obtain⟨its,rvv,p,hz⟩:=I1.list ta.sq;refine wpAny_pyIter_list p.isList ?_;refine⟨s1.heap.objs.size,[s1.heap.objs.size],_,_,H1,rfl,I1.kept (t':=s1.toks) fun b o e=>A6 _ e,lq a _,⟨_,B6 _ rfl,rfl,rfl⟩,o8 (o:=default) I1,?_⟩;refine k _ M1 _ H1 (q1 lo) e1 hr1 fun M2 H2 e2 hr2 i=>⟨fun d hd=>?_,fun hl=>⟨vs,(ta.ext e2).sq,by rw[<-rl.length];exact hl⟩⟩;obtain⟨v,gv,r⟩:=rl.get hd;refine⟨⟨vs,v,(ta.ext e2).sq,gv⟩,fun x H' ⟨eH,y⟩=>?_⟩;subst eH;have:=y vs (ta.ext e2).sq;rw[gv]at this;cases this;exact⟨Ext.refl _ _,hr2,r.ext e2⟩
 |str x =>
  simp only[gz]at ed
  by_cases hz:x.length<=A3
  ·rw[if_pos hz]at ed;cases ed;simp only[Rep]at rv;subst rv;obtain⟨t,rfl⟩:=r1;have hq:=k _ M1 _ H1 (q1 (by have hz2:x.cps.size<=A3:=hz;simpa[bB]using hz2)) e1 hr1 wL;cases ha:x.cps.all (·<128)
   ·exact wpAny_pyIter_wide ha (pY I1 "str_iterator" (by decide) (fun A hA=>Walks.strWide hA _ x t) (fun A i s' Q E st q=>wpAny_pyIter_striter_wide st q) hq)
   ·exact wpAny_pyIter_ascii ha (pY I1 "str_ascii_iterator" (by decide) (fun A hA=>Walks.strAscii hA _ x t) (fun A i s' Q E st q=>wpAny_pyIter_striter_ascii st q) hq)
  ·rw[if_neg hz]at ed;cases ed
 |_=>cases ed
theorem iP{X:Cx}{e:B5}{te:TEd}{pos:Pos}(he:QEd X e te):QSd X (.Return (some e) pos) (wx te):=by
 simp only[QEd.eq,QSd.eq]at *
 exact(oK he).conv fun D σ H hup=>hup.el fun Δ M E sr hr q k=>⟨Δ,M,_,sr,hr,q,fun d M1 v H1 ⟨M2,hle,q1⟩ e1 hr1 rv =>
  k.rt _ _ _ H1 q1 (e1.trans (Ext.le hle)) (hr1.le hle) (rv.ext (Ext.le hle))⟩
theorem jO{X:Cx}{e:B5}{te:TEd}{pos:Pos}{lo hi:Option B5}{tl th:TOd}{p2:Pos}(he:QEd X e te) (hl:QOd X lo tl) (hu:QOd X hi th):QEd X (.Subscript e (.Slice lo hi none p2) pos) (y3 te tl th):=by
 simp only[QEd.eq,QOd.eq]at *
 refine(sJ (SlR.or vj (SlR.or yi (SlR.or wN rY))) he hl hu).conv fun σ H Q hh=>?_;obtain⟨Δ,M,R,sr,hr,q,k⟩:=hh;refine⟨Δ,M,_,sr,hr,q,fun x M1 v H1 q1 e1 hr1 rv=>⟨Δ,M1,_,sr.ext e1,hr1,q1,fun l M2 H2 q2 e2 hr2=>⟨Δ,M2,_,(sr.ext e1).ext e2,hr2,q2,fun u M3 H3 ⟨z,ez,q3⟩ e3 hr3=>?_⟩⟩⟩;have rr:=((rv.ext e2).ext e3).rd hr3;have ee:=(e1.trans e2).trans e3;have kk:∀w H',Ext M3 H3 M3 H'->HR X.K M3 H'->Rep X.K M3 H' z w->Q w H':=fun w H' e4 hr4 r4=>k z M3 w H' q3 (ee.trans e4) hr4 r4;generalize rdM M3 x=d at rr ez;cases d with
 |lst ds =>
  cases ez;obtain⟨a,vs,rfl,sq,rl⟩:=rr;refine .inl ⟨a,vs,rfl,SqL.of sq,fun p hp=>jH hr3 hp ?_ kk⟩;unfold dF mm;rw[<-rl.length];exact(rl.drop _).take _
 |scr ds =>
  cases ez;obtain⟨a,vs,rfl,sq,rl⟩:=rr;refine .inl ⟨a,vs,rfl,sq,fun p hp=>jH hr3 hp ?_ kk⟩;unfold dF mm;rw[<-rl.length];exact(rl.drop _).take _
 |str s =>
  simp only[slE,slD]at ez
  by_cases hz:s.length<=A3
  ·rw[if_pos hz]at ez;cases ez;exact .inr (.inr (.inl ⟨s,kL rr,hz,kk _ H3 (Ext.refl _ _) hr3 (by simp[Rep])⟩))
  ·rw[if_neg hz]at ez;cases ez
 |tup ds =>
  cases ez;have rt:=aF.tup hr3 rr;obtain⟨a,vs,rfl,sq,rl⟩:=rr
  by_cases hw:HT.sIx ds.length 0 l=0/\HT.sIx ds.length ds.length u=ds.length
  ·refine .inr (.inr (.inr ⟨a,vs,rfl,sq,by rw[<-rl.length];exact hw,kk _ H3 (Ext.refl _ _) hr3 ?_⟩));rw[px hw];exact rt
  ·refine .inr (.inl ⟨a,vs,rfl,sq,by rw[<-rl.length];exact hw,fun p hp=>mM hr3 hp ?_ kk⟩);unfold dF mm;rw[<-rl.length];exact(rl.drop _).take _
 |_=>cases ez
theorem ju{X:Cx}{st:Q6}:QSd X st sP:=by
 simp only[QSd.eq]at *
 exact fun aa s σ H D I ⟨_,_,_,_,_,q,_⟩=>F6 q
section
variable{X:Cx}{aU:List Q6}{t:TSd}{e:B5}{tt:TTd}
theorem uG(h:QSs X aU t):ux X aU t:=by
 rw[QSs.eq]at h;exact h
theorem nB(h:QWd X e tt):QTd X e tt:=by
 simp only[QWd.eq,QTd.eq]at *
 exact PWd.pt h
end
end L2
namespace L2
open PySem PySem.Spec PyProof.Rows PySem.Builtin.Str
section
variable{prog:D0}{w:F2}{A:D9}{E:s0->u8->Prop}{s:u8}
theorem pb{x y:Str}{t u:Tok}{Q:s0->u8->Prop}(hy:(y.length==0)=false)
  (h:∀(l:List (Str×Tok)) k,l.map (·.1)=O8 x y->Q (.ref s.heap.objs.size) { s with heap:=s.heap.push { cls:=.type "list",data:=.seq (strValues l).toArray },toks:=k })
  (hsz:x.length+2<=A3):B9 (C8 prog w) A (call (.builtin "str.split") [.str x t,.str y u]) Q E s:=by
 have hn:(partsBetween x (occurrences x y 0 x.length (x.length+1)) y.length).length<=A3:=by
  have e1:=StrLaws.occ_length_le x y 0 x.length (x.length+1);rw[length_partsBetween];lia
 cases h1:(decide (x.length<y.length) || decide (strKind x<strKind y))
 ·cases hf:(occurrences x y 0 x.length (x.length+1)).isEmpty
  ·refine N4 F.slot_str_split (P2 _ _ _) F.entry_str_split (F.args_str_split_2 _ _) (meets_str_split_sep x y t u h1 hy hf (by lia) hn) ?_;show wants Q E _ { s with toks:=_,heap:=s.heap.push { cls:=.type "list",data:=.seq (strsFrom s.toks (partsBetween x (occurrences x y 0 x.length (x.length+1)) y.length)).toArray } };rw[strsFrom_eq];exact h (numbered s.toks _) _ ((numbered_texts _ _).trans ((if_neg (ne_true_of_eq_false h1)).trans (if_neg (ne_true_of_eq_false hf))).symm)
  ·exact N4 F.slot_str_split (P2 _ _ _) F.entry_str_split (F.args_str_split_2 _ _) (meets_str_split_not_found x y t u h1 hy hf)
    (h [(x,t)] s.toks ((if_neg (ne_true_of_eq_false h1)).trans (if_pos hf)).symm)
 ·exact N4 F.slot_str_split (P2 _ _ _) F.entry_str_split (F.args_str_split_2 _ _) (meets_str_split_cannot_occur x y t u h1)
   (h [(x,t)] s.toks (if_pos h1).symm)
end
theorem lG:∀(l:List (Str×Tok)),ay ((l.map (·.1)).map V.str) (strValues l)
 |[]=>.nil
 |(x,t)::l=>.cons ⟨t,rfl⟩ (lG l)
theorem nL{K:o0}{M:DH}{H:Hp}:∀xs:List Str,aj K M H (xs.map D.str) (xs.map V.str)
 |[]=>aj.nil
 |x::xs=>aj.cons (by simp[Rep]) (nL xs)
section
variable{X:Cx}{e:B5}{te:TEd}{pos:Pos}
def sW(to te:TEd):TEd:=fun Δ M Q=>to Δ M fun o M1=>∃x,o=.str x/\te Δ M1 fun d M2=>∃y,d=.str y/\(y.length==0)=false/\x.length+2<=A3/\Q (.lst ((O8 x y).map .str)) M2
theorem eF{o:B5}{to:TEd}{dI bj:Pos}(ho:QEd X o to) (he:QEd X e te) (gW:L1 o "split" X.env (N0 o X.env)=N0 o X.env:=by rfl)
  (hse:A8 [e] X.env=(false,N0 e X.env)::A8 [] X.env:=by rfl)
  (nc:((J0 bj (A8 [e] X.env)).all (fun x => !x.1) && (Q5 bj (N3 [] X.env)).all (fun x => x.1.isSome)
  &&decide ([e].length+([]:List M6).length+(if([]:List M6).isEmpty then 0 else 1)<30))=true:=by rfl)
  (gP:(dI.endLine==bj.line)=true:=by rfl) (cT:(J0 bj (A8 [] X.env)).any (·.1)=false:=by rfl):QEd X (.Call (.Attribute o "split" dI) [e] [] bj) (sW to te):=by
 rw[QEd.eq]at *
 have hm:MtR X "str.split" (fun x xs H Q=>∃z y,x=.str z/\xs=[.str y]/\(y.length==0)=false/\z.length+2<=A3/\(O8 z y).length<=A3/\∀p,H p=none->Q (.ref p) (upd H p (.lst ((O8 z y).map V.str)))):=by
  intro aa s σ H x xs v us Q I rx rv h;obtain⟨z,y,rfl,rfl,hy,hz,hl,q⟩:=h;obtain⟨t,rfl⟩:=rx;obtain⟨u,rfl,ru⟩:=ay.one rv;obtain⟨t2,rfl⟩:=ru;refine pb hy (fun l k hl2=>?_) hz;have rr:ay ((O8 z y).map V.str) (strValues l):=by rw[<-hl2];exact lG l
  exact⟨.ref s.heap.objs.size,_,I.lnew (t':=k) rr (by rw[O4];exact hl),rfl,q _ I.fresh⟩
 refine(qC PySem.F.plainAttrs_str PySem.F.slot_str_split PySem.F.type_str_split hm ho (eJ he iB hse) gW nc gP hse cT).conv fun σ H Q hh=>?_;obtain⟨Δ,M,R,sr,hr,q,k⟩:=hh;refine⟨Δ,M,_,sr,hr,q,fun o M1 ov H1 ⟨z,eo,q1⟩ e1 hr1 ro=>?_⟩;subst eo;simp only[Rep]at ro;subst ro;refine⟨rfl,Δ,M1,_,sr.ext e1,hr1,q1,fun d M2 v H2 ⟨y,ed,hy,hz,q2⟩ e2 hr2 rv=>?_⟩;subst ed;simp only[Rep]at rv;subst rv;have hl:(O8 z y).length<=A3:=by
  have h1:1<=y.length:=by
   have:¬ y.length=0:=by simpa using hy
   lia
  have:=split_weight z y h1
  lia
 exact⟨z,y,rfl,rfl,hy,hz,hl,fun p hp=>jH hr2 hp (nL _) fun w H' e3 hr3 rw_=>k _ M2 w H' q2 ((e1.trans e2).trans e3) hr3 rw_⟩
def zH(to te:TEd):TEd:=fun Δ M Q=>to Δ M fun o M1=>∃x,o=.str x/\te Δ M1 fun d M2=>∃y,d=.str y/\Q (.int (Txt.count x y)) M2
theorem qt{o:B5}{to:TEd}{dI bj:Pos}(ho:QEd X o to) (he:QEd X e te) (gW:L1 o "count" X.env (N0 o X.env)=N0 o X.env:=by rfl)
  (hse:A8 [e] X.env=(false,N0 e X.env)::A8 [] X.env:=by rfl)
  (nc:((J0 bj (A8 [e] X.env)).all (fun x => !x.1) && (Q5 bj (N3 [] X.env)).all (fun x => x.1.isSome)
  &&decide ([e].length+([]:List M6).length+(if([]:List M6).isEmpty then 0 else 1)<30))=true:=by rfl)
  (gP:(dI.endLine==bj.line)=true:=by rfl) (cT:(J0 bj (A8 [] X.env)).any (·.1)=false:=by rfl):QEd X (.Call (.Attribute o "count" dI) [e] [] bj) (zH to te):=by
 rw[QEd.eq]at *
 have hm:MtR X "str.count" (fun x xs H Q=>∃z y,x=.str z/\xs=[.str y]/\Q (.int (Txt.count z y)) H):=by
  intro aa s σ H x xs v us Q I rx rv h;obtain⟨z,y,rfl,rfl,q⟩:=h;obtain⟨t,rfl⟩:=rx;obtain⟨u,rfl,ru⟩:=ay.one rv;obtain⟨t2,rfl⟩:=ru;exact SC.count ⟨.int _,H,I.tok _,⟨_,rfl⟩,q⟩
 refine(qC PySem.F.plainAttrs_str PySem.F.slot_str_count PySem.F.type_str_count hm ho (eJ he iB hse) gW nc gP hse cT).conv fun σ H Q hh=>?_;obtain⟨Δ,M,R,sr,hr,q,k⟩:=hh;refine⟨Δ,M,_,sr,hr,q,fun o M1 ov H1 ⟨z,eo,q1⟩ e1 hr1 ro=>?_⟩;subst eo;simp only[Rep]at ro;subst ro;refine⟨rfl,Δ,M1,_,sr.ext e1,hr1,q1,fun d M2 v H2 ⟨y,ed,q2⟩ e2 hr2 rv=>?_⟩;subst ed;simp only[Rep]at rv;subst rv;exact⟨z,y,rfl,rfl,k _ M2 _ H2 q2 (e1.trans e2) hr2 (by simp[Rep])⟩
end
theorem gU(c:Nat):∀(p q:Str) (r:List Str),(O2 ⟨#[c]⟩ (p::q::r)).cps.toList=p.cps.toList++c::(O2 ⟨#[c]⟩ (q::r)).cps.toList:=fun p q r=>by
 show(p++⟨#[c]⟩++O2 ⟨#[c]⟩ (q::r)).cps.toList=_;show((p.cps++#[c])++(O2 ⟨#[c]⟩ (q::r)).cps).toList=_;simp
theorem fN{a b:Str}(h:a.cps.toList=b.cps.toList):a=b:=by
 cases a;cases b;simp at h;simp[h]
theorem gM{c:Nat}:∀{a b:List Nat}{x y:List Nat},c∉a->c∉b->a++c::x=b++c::y->a=b/\x=y
 |[],[],x,y,_,_,h=>by simpa using h
 |[],b::bs,x,y,_,hb,h=>by
  simp at h;exact absurd (by simp[h.1]) hb
 |a::as,[],x,y,ha,_,h=>by
  simp at h;exact absurd (by simp[h.1]) ha
 |a::as,b::bs,x,y,ha,hb,h=>by
  simp only[List.cons_append,List.cons.injEq]at h;simp only[J7,not_or]at ha hb;obtain⟨e1,e2⟩:=gM ha.2 hb.2 h.2;exact⟨by rw[h.1,e1],e2⟩
theorem nT{c:Nat}:∀{ps qs:List Str},ps≠[]->qs≠[]->(∀p∈ps,c∉p.cps.toList)->(∀q∈qs,c∉q.cps.toList)->O2 ⟨#[c]⟩ ps=O2 ⟨#[c]⟩ qs->ps=qs
 |[],_,h,_,_,_,_=>absurd rfl h
 |_,[],_,h,_,_,_=>absurd rfl h
 |[p],[q],_,_,_,_,h=>by
  have:p=q:=h;rw[this]
 |[p],q::q2::r,_,_,hp,hq,h=>by
  have h2:=congrArg (fun z:Str=>z.cps.toList) h;simp only[gU]at h2;have h3:p.cps.toList=q.cps.toList++c::(O2 ⟨#[c]⟩ (q2::r)).cps.toList:=h2;exact absurd (by rw[h3];simp) (hp p (by simp))
 |p::p2::r,[q],_,_,hp,hq,h=>by
  have h2:=congrArg (fun z:Str=>z.cps.toList) h;simp only[gU]at h2;have h3:p.cps.toList++c::(O2 ⟨#[c]⟩ (p2::r)).cps.toList=q.cps.toList:=h2;exact absurd (by rw[<-h3];simp) (hq q (by simp))
 |p::p2::r,q::q2::r',_,_,hp,hq,h=>by
  have h2:=congrArg (fun z:Str=>z.cps.toList) h;simp only[gU]at h2;obtain⟨e1,e2⟩:=gM (hp p (by simp)) (hq q (by simp)) h2;rw[fN e1,nT (c:=c) (ps:=p2::r) (qs:=q2::r') (by simp) (by simp) (fun x hx=>hp x (B7 _ hx)) (fun x hx=>hq x (B7 _ hx)) (fN e2)]
theorem t4(x:Str) (c:Nat):O8 x ⟨#[c]⟩≠[]:=by
 intro h;have:=split_len x c;rw[h]at this;have h2:∀l:List Nat,0<=cnt c l:=fun l=>by
  induction l with
  |nil=>exact Int.le_refl _
  |cons a l ih=>rw[cnt_cons];split<;>lia
 have:=h2 x.cps.toList;simp at *
 lia
theorem eO{c:Nat}{ps:List Str}(hne:ps≠[]) (hp:∀p∈ps,c∉p.cps.toList):O8 (O2 ⟨#[c]⟩ ps) ⟨#[c]⟩=ps :=
 nT (t4 _ _) hne (StrLaws.split_free _ _) hp (StrLaws.join_split _ _)
theorem oO(c:Nat) (n:Nat):Txt.mul (tx [c]) (n:Int)=tx (A7 n c):=by
 have f:∀(k:Nat) (acc:Array Nat),(A7 k #[c]).foldl (·++·) acc=acc++(A7 k c).toArray:=by
  intro k
  induction k with
  |zero=>intro acc;simp
  |succ k ih =>
   intro acc;rw[C5,List.foldl_cons,ih,C5];apply Array.ext';simp
 unfold Txt.mul
 by_cases h0:n=0
 ·subst h0;rfl
 ·rw[if_neg (by lia)]
  by_cases h1:n=1
  ·subst h1;rfl
  ·rw[if_neg (by simp[aA];lia)];show(⟨(A7 (n:Int).toNat #[c]).foldl (·++·) #[]⟩:Str)=_;rw[f];simp[tx]
theorem qI(x:Str) (c:Nat):Txt.count x ⟨#[c]⟩=cnt c x.cps.toList:=count_is x c
theorem jw(c d:Nat):∀n:Nat,cnt c (A7 n d)=if d=c then(n:Int)else 0
 |0=>by simp[cnt_nil]
 |n+1=>by
  rw[C5,cnt_cons,jw c d n]
  by_cases h:d=c
  ·simp[h];lia
  ·simp[h]
end L2
namespace L2
open PySem PySem.Spec PyProof.Rows
end L2
namespace Att
open PySem PySem.W PySem.Calls PyProof.Rows
end Att
namespace L2
open PySem PySem.Spec PyProof.Rows
section
variable{X:Cx}{pos:Pos}
def dmD:List D->Option D
 |[.int i,.int j]=>if mX i j then some (.tup [.int (i / j),.int (i % j)])else none
 |_=>none
noncomputable def AF:List D->Option D
 |[.int i,.int j]=>some (.int (if j > i then j else i))
 |_=>none
end
open AutoSeq1 (wpAny_loadPart')
section
variable{prog:D0}{w:F2}{A:D9}{E:s0->u8->Prop}{s:u8}
theorem je{it t:B0}{i:Nat}{its}{x:s0}{Q:s0->u8->Prop}(hit:s.heap.IsTupleIter it t i) (ht:s.heap.IsTuple t its) (hx:its[i]?=some x)
  (hQ:∀h',h'.IsTupleIter it t (i+1)->L4 it s.heap h'->Q x { s with heap:=h' }):B9 (C8 prog w) A (I0 (.ref it)) Q E s:=by
 obtain⟨o,ho,hc,hd⟩:=id hit;obtain⟨ol,hol,_,nl,hdl⟩:=ht;unfold I0;refine A4 (K0 (name:=N6 "__next__") hit.typeIs F4 (N7 F4 hit.typeIs F.entry_tuple_iterator_next ?_ (F.args_tuple_iterator_next_1 _)));show B9 _ _ (field (.ref it) 0 >>= _) _ _ s;refine A4 (N1 ho hd (x:=.ref t) rfl ?_);show B9 _ _ (if(P6 t==O3)=true then _ else _) _ _ s;rw[if_neg (show ¬ ((P6 t==O3)=true)from C9)];show B9 _ _ (field (.ref it) 1 >>= _) _ _ s;refine A4 (N1 ho hd (x:=.int i 0) rfl ?_);show B9 _ _ (seqItems? (.ref t) >>= _) _ _ s;refine A4 (wpAny_seqItems hol hdl ?_);simp only[Int.toNat_natCast,hx];refine A4 (wpAny_setField ho hd (by simp) (B2 ⟨x,rfl,B2 (hQ _ ?_ (L4.update ..))⟩));exact⟨_,C7.get?_update_self _ ho (Obj.isFreed_of_fields (Obj.data_mapFields hd _)),(Obj.cls_mapFields ..).trans hc,by rw[Obj.data_mapFields hd];simp[rawInt]⟩
theorem jT{it t:B0}{i:Nat}{its}{Q:s0->u8->Prop}(hh:A.handled=none) (hit:s.heap.IsTupleIter it t i) (ht:s.heap.IsTuple t its) (hx:its[i]?=none)
  (hE:∀h' e,C7.ExtBut it s.heap h'->(∃o,h'.get? e=some o/\o.cls=.type "StopIteration")->E (.ref e) { s with heap:=h' }):B9 (C8 prog w) A (I0 (.ref it)) Q E s:=by
 obtain⟨o,ho,hc,hd⟩:=id hit;obtain⟨ol,hol,_,nl,hdl⟩:=ht;unfold I0;refine A4 (K0 (name:=N6 "__next__") hit.typeIs F4 (N7 F4 hit.typeIs F.entry_tuple_iterator_next ?_ (F.args_tuple_iterator_next_1 _)));show B9 _ _ (field (.ref it) 0 >>= _) _ _ s;refine A4 (N1 ho hd (x:=.ref t) rfl ?_);show B9 _ _ (if(P6 t==O3)=true then _ else _) _ _ s;rw[if_neg (show ¬ ((P6 t==O3)=true)from C9)];show B9 _ _ (field (.ref it) 1 >>= _) _ _ s;refine A4 (N1 ho hd (x:=.int i 0) rfl ?_);show B9 _ _ (seqItems? (.ref t) >>= _) _ _ s;refine A4 (wpAny_seqItems hol hdl ?_);simp only[Int.toNat_natCast,hx];refine A4 (wpAny_rule (A4 (wpAny_setField ho hd (by simp) ?_)));show B9 _ _ (newExc (.type "StopIteration") [] >>= _) _ _ _;refine A4 ?_;simp only[newExc,newTuple];refine A4 (E4 ?_ (by size_fits));refine A4 (m:=firstArgMember _ _) (wpAny_of_eq (a:=O3) (by first|rfl|(simp only[firstArgMember];rfl)) ?_);refine E4 ?_ (by size_fits);simp only[raiseNew];refine A4 (wpAny_handled ?_)
 first|rw[show A.in1.handled=none from hh]|rw[hh]
 refine A4 (B2 (wpAny_throw ?_));exact hE _ _ (((L4.update ..).extBut.push _).push _) ⟨_,B6 _ rfl,rfl⟩
theorem rJ{prog:D0}{w:F2}{A:D9}(hh:A.handled=none) (it l:B0) (hne:l≠it) (its:Array s0) :
  Draws prog w A it [it,l] its.size (fun i v=>its[i]?=some v) (fun i h=>h.IsTupleIter it l i/\h.IsTuple l its) where
 live:=fun _ _ st=>let⟨o,ho,_⟩:=st.1;⟨o,ho⟩
 frame:=fun _ _ _ st hk=>⟨let⟨o,ho,r⟩:=st.1;⟨o,hk it (by simp) o ho,r⟩,let⟨o,ho,r⟩:=st.2;⟨o,hk l (by simp) o ho,r⟩⟩
 item:=fun i s Q E hi st hQ=>je st.1 st.2 (x:=its[i]) (by simp[hi]) fun h' hit' hs'=>hQ _ h' s.toks (by simp[hi]) ⟨hit',st.2.extBut hs'.extBut hne⟩ hs'
 done:=fun s Q E st hE=>jT hh st.1 st.2 (by simp) hE
end
section
variable{X:Cx}{aa:List (B0×Obj)}{σ:St}{H:Hp}{s:u8}{h':C7}
theorem Inv.turned2{t':Nat}{e it:B0}(I:Inv X aa σ H s) (k:∀b o,b≠e->b≠it->s.heap.get? b=some o->h'.get? b=some o) (f1:dG X aa H e) (f2:dG X aa H it):Inv X aa σ H { s with heap:=h',toks:=t' }:=by
 obtain⟨a0,a1,a2,a3,a4,a5⟩:=f1;obtain⟨b0,b1,b2,b3,b4,b5⟩:=f2;have nit:∀b u,H b=some u->b≠e/\b≠it:=fun b u q=>⟨fun z=>(by rw[z,a0]at q;cases q),fun z=>(by rw[z,b0]at q;cases q)⟩;have kk:∀b o,b∉[e,it]->s.heap.get? b=some o->h'.get? b=some o:=fun b o hc q=>k b o (fun z=>hc (by simp[z])) (fun z=>hc (by simp[z])) q;refine I.step (g':=s.gens) (d':=s.drawn) (ch:=[e,it]) (fun b hb=>?_) (fun b o _ _ hc q _=>kk b o hc q) (fun b o _ _ hc q _=>⟨o.slots,kk b o hc q⟩) (fun _ _ _ _ n=>n)
  (fun b o hc q=>⟨o,kk b o hc q⟩) (fun _ _ q=>q) (fun _ _ _ q=>q) (fun b ps q=>⟨#[],by rw[q];simp⟩) (fun m hm=>?_) (fun b u q=>?_) I.bare
 ·rcases J7.mp hb with z|z
  ·subst z;exact⟨a3,a1,a4,a5⟩
  ·have z:=K7.mp z;subst z;exact⟨b3,b1,b4,b5⟩
 ·obtain⟨o,es,ep,ho,r⟩:=hm;exact⟨o,es,ep,k _ o (P7 a1) (P7 b1) ho,r⟩
 ·refine(I.hok b u q).stay (fun c v hc q'=>?_) (fun _ q=>q) fun _ _ q=>q;rcases hc with z|z
  ·rw[z]at q' ⊢;exact k _ _ (nit b u q).1 (nit b u q).2 q'
  ·exact k c v (nit c _ z).1 (nit c _ z).2 q'
end
def me(b:Bool) (K:o0) (H:Hp) (a:B0) (xs:List V):Prop:=match b with|true=>SqT K H a xs|false=>SqL K H a xs
def pj(b:Bool) (h:C7) (it a:B0) (i:Nat):Prop:=match b with|true=>h.IsTupleIter it a i|false=>h.IsListIter it a i
def zq(b:Bool):String:=match b with|true=>"tuple_iterator" |false=>"list_iterator"
theorem pj.obj{b:Bool}{h:C7}{it a:B0}{i:Nat}(st:pj b h it a i):∃o,h.get? it=some o/\o.cls=.type (zq b)/\o.data=.fields #[.ref a,.int i 0]:=by
 cases b<;>exact st
theorem pj.of{b:Bool}{h:C7}{it a:B0}{i:Nat}(st:∃o,h.get? it=some o/\o.cls=.type (zq b)/\o.data=.fields #[.ref a,.int i 0]):pj b h it a i:=by
 cases b<;>exact st
theorem nA{X:Cx}{aa:List (B0×Obj)}{σ:St}{H:Hp}{s:u8}{b:Bool}{a it:B0}{i:Nat}{xs:List V}(hc:X.calm=true) (I:Inv X aa σ H s) (hq:me b X.K H a xs) (hit:pj b s.heap it a i) :
  ∃(its:List s0) (St:Nat->C7->Prop),ay xs its/\Draws X.prog X.w X.A.in1 it [it,a] its.toArray.size (fun i v=>its.toArray[i]?=some v) St/\St i s.heap/\(∀j h,St j h->pj b h it a j)/\∃o,s.heap.get? a=some o/\o.cls≠.type "enumerate":=by
 cases b with
 |true =>
  obtain⟨its,rv,p,hz⟩:=I.tuple hq;have hT:s.heap.IsTuple a its.toArray:=p;have hal:a≠it:=fun z=>by
   obtain⟨o,q,c,_⟩:=hT;obtain⟨o',q',c',_⟩:=hit;rw[z,q']at q;cases q;rw[c']at c;exact absurd c (by decide)
  obtain⟨o,q,c,_⟩:=id hT;exact⟨its,_,rv,rJ (A:=X.A.in1) (I.ok.hd hc) it a hal its.toArray,⟨hit,hT⟩,fun j h st=>st.1,o,q,by rw[c];decide⟩
 |false =>
  obtain⟨its,rv,p,hz⟩:=I.list hq;have hT:s.heap.IsList a its.toArray:=p.isList;have hal:a≠it:=fun z=>by
   obtain⟨o,q,c,_⟩:=hT;obtain⟨o',q',c',_⟩:=hit;rw[z,q']at q;cases q;rw[c']at c;exact absurd c (by decide)
  obtain⟨o,q,c,_⟩:=id hT;exact⟨its,_,rv,Draws.list (A:=X.A.in1) (I.ok.hd hc) it a hal its.toArray,⟨hit,hT⟩,fun j h st=>st.1,o,q,by rw[c];decide⟩
theorem me.inj{X:Cx}{aa:List (B0×Obj)}{σ:St}{H:Hp}{s:u8}{b:Bool}{a:B0}{xs ys:List V}(I:Inv X aa σ H s) (h:me b X.K H a xs) (h':me b X.K H a ys):xs=ys:=by
 cases b with
 |true=>exact I.tuple_inj h h'
 |false=>exact I.list_inj h h'
theorem dG.upd{X:Cx}{aa:List (B0×Obj)}{H:Hp}{b T:B0}{o:HO}(f:dG X aa H b) (h:b≠T):dG X aa (upd H T o) b:=by
 obtain⟨f0,r⟩:=f;exact⟨by rw[aM h];exact f0,r⟩
section
variable{X:Cx}{a:B5}{t:TAd}{pos:Pos}
def mj(n:Nat):List D->List D
 |[]=>[]
 |d::r=>.tup [.int n,d]::mj (n+1) r
theorem jR:∀(ds:List D) (n i:Nat),(mj n ds)[i]?=(ds[i]?).map fun d=>.tup [.int ((n+i:Nat):Int),d]
 |[],n,i=>by simp[mj]
 |d::r,n,0=>by simp[mj]
 |d::r,n,i+1=>by
  simp only[mj,List.getElem?_cons_succ];rw[jR r (n+1) i];have:n+1+i=n+(i+1):=by lia
  rw[this]
theorem ki:∀(ds:List D) (n:Nat),(mj n ds).length=ds.length
 |[],_=>rfl
 |d::r,n=>by simp[mj,ki r (n+1)]
def sqD(b:Bool) (es:List D):D:=match b with|true=>.tup es|false=>.lst es
theorem xT{K:o0}{M:DH}{H:Hp}{b:Bool}{es:List D}{v:V}(h:Rep K M H (sqD b es) v):∃a vs,v=.ref a/\aj K M H es vs/\∀M2 H2,Ext M H M2 H2->me b K H2 a vs:=by
 cases b with
 |true =>
  simp only[sqD,Rep]at h;obtain⟨a,vs,e,ta,rl⟩:=h;exact⟨a,vs,e,rl,fun M2 H2 x=>(ta.ext x).sq⟩
 |false =>
  simp only[sqD,Rep]at h;obtain⟨a,vs,e,ta,rl⟩:=h;exact⟨a,vs,e,rl,fun M2 H2 x=>SqL.of (x _ _ ta.1 ta.2).1⟩
theorem jZ:F7 "enumerate"=some (.type "enumerate"):=by kernel_rfl
end
section
variable{X:Cx}{pos:Pos}
theorem wX{i j:Int}:dmD [.int i,.int j]=if mX i j then some (.tup [.int (i / j),.int (i % j)])else none:=rfl
theorem uO{i j:Int}:AF [.int i,.int j]=some (.int (if j > i then j else i)):=rfl
theorem sU:nE 10 60=True:=by simp[nE]
end
section
variable{X:Cx}{e:B5}{te ts:TEd}{pos:Pos}
end
section
variable{κ:Type} [DecidableEq κ]
variable{K:o0}{M:DH}{H:Hp}
theorem KR.any{kvs:List (κ×D)}{ks:List (κ×V)}(h:KR K M H kvs ks) (k:κ):(ks.any fun kv=>decide (kv.1=k))=kvs.any fun kv=>decide (kv.1=k):=by
 unfold KR at h
 induction h with
 |nil=>rfl
 |cons r _ ih=>rw[F9,F9,ih,r.1]
theorem KR.length{kvs:List (κ×D)}{ks:List (κ×V)}(h:KR K M H kvs ks):kvs.length=ks.length:=K6.length h
end
def kD:Key->D
 |.inl i=>.int i
 |.inr x=>.str x
section
variable{X:Cx}{a b c e o i:B5}{es:List B5}{te to ti ta tb:TEd}{t:TAd}{pos:Pos}
end
section
variable{X:Cx}{a b c e o:B5}{es:List B5}{te to:TEd}{t:TAd}{pos:Pos}{tg:B5}
noncomputable def AU:List D->Option D
 |[.int i,.int j]=>some (.int (if j<i then j else i))
 |_=>none
end
structure Ad(X:Cx) (scope:L5) (cl:List (Str×B0)) (ms:List Bool) (ao:List Str):Prop where
 kind:scope.kind=.function
 names:∀y∈scope.names,y.2=.local->scope.names.lookup y.1=some .local
 cellN:∀y∈scope.names,y.2=.cell->scope.names.lookup y.1=some .cell
 clos:closureFor scope X.env=P0 cl
 sub:∀x c,cl.lookup x=some c->X.env.cells.lookup x=some c
 fre:∀x c,cl.lookup x=some c->scope.names.lookup x=some .free
 has:∀x,scope.names.lookup x=some .free->∃c,cl.lookup x=some c
 fr:∀x,scope.names.lookup x=some .free->X.env.scope.names.lookup x=some .cell∨X.env.scope.names.lookup x=some .free
 mask:∀(i:Nat) (x:Str),ms[i]?=some true->X.N[i]?=some x->scope.names.lookup x=some .free
 mlen:ms.length<=X.N.length
section
variable{X:Cx}{tg iter elt:B5}{pos:Pos}{scope:L5}{cl:List (Str×B0)}{ms:List Bool}{ao:List Str}{ifs:List B5}
end
section
variable{X:Cx}{tg l:B5}{tl:TE}{te:TEd}
theorem KR.keys{K:o0}{M:DH}{H:Hp}{κ:Type}{kvs:List (κ×D)}{ks:List (κ×V)}(h:KR K M H kvs ks):kvs.map (·.1)=ks.map (·.1):=by
 unfold KR at h
 induction h with
 |nil=>rfl
 |cons r _ ih=>rw[E6,E6,ih,r.1]
end
end L2
namespace L2
open PySem PySem.W PyProof.Rows
section
variable{α β:Type}
variable{O:KeyOrd}{key:Nat->O.α}{n:Nat}
def A2(n:Nat) (p:Array Nat):Prop:=p.toList.Perm (List.range n)
end
end L2
namespace L2
open PySem PySem.W PySem.Calls PyProof.Rows
end L2
namespace L2
open PySem PySem.Spec PyProof.Rows
theorem Aa{i:Int}{P:Key->Prop}:(∃k,D.int i=kD k/\P k)↔P (.inl i) :=
 ⟨fun⟨k,e,h⟩=>match k,e with|.inl _,rfl=>h,fun h=>⟨_,rfl,h⟩⟩
theorem zl{x:Str}{P:Key->Prop}:(∃k,D.str x=kD k/\P k)↔P (.inr x) :=
 ⟨fun⟨k,e,h⟩=>match k,e with|.inr _,rfl=>h,fun h=>⟨_,rfl,h⟩⟩
theorem uB{i j:Int}:AU [.int i,.int j]=some (.int (if j<i then j else i)):=rfl
theorem tq{K:Params->PySem.W.Frag}{as:List Addr}{n t:Nat}{q:Program}{loose:List Str}{XP:(Str->Option Value)->Heap->Prop}{r:PySem.W.RowW}{d:DefRec}{kwd:List (Str×Expr)}{run:Value->List Value->Sem Value}(hk:∀P,as=(K P).map (·.1))
  (h:PySem.W.WalkO q loose XP (fun w h=>(K w.params).In h) r d kwd run):PySem.W.WalkX q loose XP (PySem.W.X.obsZ as) (PySem.W.X.valZ K n t) r d kwd run:=by
 intro w s₀ s₁ mg mb G y a o pm cd doc dV kV ho hd hcd hD hmg hg args vals as' L hpre hlay hrd hwl hlo;refine h w s₀ s₁ mg mb G (fun b u hu=>L.keeps b u ?_) a o pm cd doc dV kV ho hd hcd hD hmg hg args vals as' hpre hlay hrd hwl hlo;have y1:as.map s₀.heap.get?=(K w.params).map fun p=>some p.2:=congrArg (·.1) y;rw[hk w.params,List.map_map]at y1;have key:∀(l:PySem.W.Frag),(l.map fun p=>s₀.heap.get? p.1)=l.map (fun p=>some p.2)->List.lookup b l=some u->s₀.heap.get? b=some u:=by
  intro l
  induction l with
  |nil=>intro _ z;cases z
  |cons p l ih =>
   intro e z;rw[List.map_cons,List.map_cons,List.cons.injEq]at e;rw[List.lookup_cons]at z
   by_cases c:b=p.1
   ·subst c;rw[beq_self_eq_true]at z;cases z;exact e.1
   ·rw[beq_eq_false_iff_ne.mpr c]at z;exact ih e.2 z
 exact key _ y1 hu
end L2
namespace L2
open PySem PySem.W PySem.Calls PyProof.Rows
end L2
namespace L2
open PySem PySem.Spec PyProof.Rows
section
variable{X:Cx}
end
section
variable{X:Cx}
def inF(x y:D):Option D:=match y with
 |.lst ds=>if dLe x 59=true/\bu ds 59=true then some (.bl (ds.any fun d=>eqD d x))else none
 |_=>none
theorem yX{x:D}{ds:List D}:inF x (.lst ds)=if dLe x 59=true/\bu ds 59=true then some (.bl (ds.any fun d=>eqD d x))else none:=rfl
end
section
variable{X:Cx}{a b e:Expr}{ta tb te:TEd}{pos:Pos}
section
open PySem.SeqAt PySem.MeetsSeq AutoSeq1
end
end
section
variable{X:Cx}{scope:Scope}{cl:List (Str×Addr)}{ao:List Str}{tg:Expr}{pos:Pos}
end
section
variable{X:Cx}{e o:Expr}{es:List Expr}{te to:TEd}{t:TAd}{pos p pos':Pos}{f x:Str}{C:Addr}
structure MkD(P:Program) (w:World) (K:PySem.W.Frag) (mg:Str->Option Value) (base:Heap) (x:Str) (C:Addr) (k n:Nat) (S:SpD):Prop where
 ex:∃(f:Addr) (fd:FuncData) (ps:List Str),Mk K C f/\aO P w K mg base CX0 k f fd ps (spD K n S)/\mg x=some (.ref C)/\de K fd ps []
end
section
variable{X:Cx}{e:Expr}{te:TEd}
def AZ(kvs:List (Key×D)):D:=.box (.dk (kvs.map (·.1))) (kvs.map (·.2))
end
section
variable{X:Cx}{a b c e o i:Expr}{es:List Expr}{te ta tb to ti:TEd}{t:TAd}{pos:Pos}{tg iter:Expr}
end
def zG:D->Option D
 |.box (.dk ks) _=>some (.lst (ks.map kD))
 |_=>none
theorem vB{kvs:List (Key×D)}:zG (AZ kvs)=some (.lst (kvs.map fun p=>kD p.1)):=by
 show some (D.lst ((kvs.map (·.1)).map kD))=_;rw[List.map_map];rfl
noncomputable def AB:D->Option D
 |.int i=>some (.int i)
 |.bl k=>some (.int (if k then 1 else 0))
 |_=>none
theorem xr{k:Bool}:AB (.bl k)=some (.int (if k then 1 else 0)):=rfl
section
variable{X:Cx}
def ko(x y:D):Option D:=match y with
 |.lst ds=>if dLe x 59=true/\bu ds 59=true then some (.bl (!(ds.any fun d=>eqD d x)))else none
 |.tup ds=>if dLe x 59=true/\bu ds 59=true then some (.bl (!(ds.any fun d=>eqD d x)))else none
 |_=>none
theorem sS{x:D}{ds:List D}:ko x (.lst ds)=if dLe x 59=true/\bu ds 59=true then some (.bl (!(ds.any fun d=>eqD d x)))else none:=rfl
theorem oE{h:Heap}{a:Addr}{xs:Array Value}(p:IsTup h a xs):h.IsTuple a xs:=by
 obtain⟨o,h1,h2,n,h3⟩:=p;exact⟨o,h1,h2,n,h3⟩
open Classical in
theorem tQ(hu:X.A.units+64<cLine):bO X (compareOp .NotIn) ko:=by
 intro aa s σ H M x y v u dx dy dz Q I hr rx ry r1 r2 e k;cases dy with
 |lst ds =>
  simp only[ko]at e
  by_cases hc:dLe dx 59=true/\bu ds 59=true
  ·rw[if_pos hc]at e;cases e;obtain⟨l,vs,rfl,sq,rl⟩:=r2;cases ry;obtain⟨its,r,pl,hz⟩:=I.list (SqL.of sq);have hl:ds.length=its.length:=rl.length.trans r.length;have at_:∀j (h:j<ds.length) (h':j<its.length),PySem.SeqAt.EqAt X.A.in1 s its[j] v (eqD ds[j] dx):=fun j h h'=>by
    obtain⟨v1,g1,p1⟩:=rl.get (i:=j) (d:=ds[j]) (by simp[h]);obtain⟨u1,k1,m1⟩:=r.get g1;have e1:its[j]=u1:=by simpa[List.getElem?_eq_getElem h']using k1
    rw[e1];exact(my I 59 (by show X.A.units+1+59<cLine;omega) (fu hc.2 (i:=j) (by simp[h])) hc.1 p1.r r1 m1 rx).1
   refine SeqAt.notIn_listAt (fun w=>decide (∃j,∃h:j<ds.length,∃h':j<its.length,its[j]=w/\eqD ds[j] dx=true)) pl.isList (fun w hw=>?_) ⟨.bl _,H,I,rfl,?_⟩
   ·obtain⟨i,hi,rfl⟩:=List.mem_iff_getElem.mp (show w∈its by simpa using hw)
    by_cases q:∃j,∃h:j<ds.length,∃h':j<its.length,its[j]=its[i]/\eqD ds[j] dx=true
    ·rw[decide_eq_true q];obtain⟨j,h,h',q1,q2⟩:=q;rw[<-q1,<-q2];exact at_ j h h'
    ·rw[decide_eq_false q];have:=at_ i (by omega) hi
     rwa [show eqD ds[i] dx=false from Bool.eq_false_iff.mpr fun z=>q ⟨i,by omega,hi,rfl,z⟩]at this
   ·have ea:its.toArray.any (fun w=>decide (∃j,∃h:j<ds.length,∃h':j<its.length,its[j]=w/\eqD ds[j] dx=true))=ds.any fun d=>eqD d dx:=by
     rw[Bool.eq_iff_iff,List.any_toArray,List.any_eq_true,List.any_eq_true];constructor
     ·rintro⟨w,_,h⟩;obtain⟨j,h1,_,_,h2⟩:=of_decide_eq_true h;exact⟨ds[j],List.getElem_mem _,h2⟩
     ·rintro⟨d,hd,h⟩;obtain⟨j,hj,rfl⟩:=List.mem_iff_getElem.mp hd;exact⟨its[j],List.getElem_mem _,decide_eq_true ⟨j,hj,by omega,rfl,h⟩⟩
    rw[ea];exact k _ H (Ext.refl _ _) hr (by simp[Rep])
  ·rw[if_neg hc]at e;cases e
 |tup ds =>
  simp only[ko]at e
  by_cases hc:dLe dx 59=true/\bu ds 59=true
  ·rw[if_pos hc]at e;cases e;obtain⟨l,vs,rfl,sq,rl⟩:=r2;cases ry;obtain⟨its,r,pl,hz⟩:=I.tuple sq;have hl:ds.length=its.length:=rl.length.trans r.length;have at_:∀j (h:j<ds.length) (h':j<its.length),PySem.SeqAt.EqAt X.A.in1 s its[j] v (eqD ds[j] dx):=fun j h h'=>by
    obtain⟨v1,g1,p1⟩:=rl.get (i:=j) (d:=ds[j]) (by simp[h]);obtain⟨u1,k1,m1⟩:=r.get g1;have e1:its[j]=u1:=by simpa[List.getElem?_eq_getElem h']using k1
    rw[e1];exact(my I 59 (by show X.A.units+1+59<cLine;omega) (fu hc.2 (i:=j) (by simp[h])) hc.1 p1.r r1 m1 rx).1
   refine SeqAt.notIn_tupleAt (fun w=>decide (∃j,∃h:j<ds.length,∃h':j<its.length,its[j]=w/\eqD ds[j] dx=true)) (oE pl) (fun w hw=>?_) ⟨.bl _,H,I,rfl,?_⟩
   ·obtain⟨i,hi,rfl⟩:=List.mem_iff_getElem.mp (show w∈its by simpa using hw)
    by_cases q:∃j,∃h:j<ds.length,∃h':j<its.length,its[j]=its[i]/\eqD ds[j] dx=true
    ·rw[decide_eq_true q];obtain⟨j,h,h',q1,q2⟩:=q;rw[<-q1,<-q2];exact at_ j h h'
    ·rw[decide_eq_false q];have:=at_ i (by omega) hi
     rwa [show eqD ds[i] dx=false from Bool.eq_false_iff.mpr fun z=>q ⟨i,by omega,hi,rfl,z⟩]at this
   ·have ea:its.toArray.any (fun w=>decide (∃j,∃h:j<ds.length,∃h':j<its.length,its[j]=w/\eqD ds[j] dx=true))=ds.any fun d=>eqD d dx:=by
     rw[Bool.eq_iff_iff,List.any_toArray,List.any_eq_true,List.any_eq_true];constructor
     ·rintro⟨w,_,h⟩;obtain⟨j,h1,_,_,h2⟩:=of_decide_eq_true h;exact⟨ds[j],List.getElem_mem _,h2⟩
     ·rintro⟨d,hd,h⟩;obtain⟨j,hj,rfl⟩:=List.mem_iff_getElem.mp hd;exact⟨its[j],List.getElem_mem _,decide_eq_true ⟨j,hj,by omega,rfl,h⟩⟩
    rw[ea];exact k _ H (Ext.refl _ _) hr (by simp[Rep])
  ·rw[if_neg hc]at e;cases e
 |_=>cases e
end
section
variable{X:Cx}{e:Expr}{t:TEd}
end
section
variable{P:Program}{w:World}{K:PySem.W.Frag}{h base:Heap}{mg:Str->Option Value}{x qual:Str}{st:Stmt}{f:Addr}{fd:FuncData}{k:Nat}{S:SpD}
structure bt(K:PySem.W.Frag) (x:Str) (st:Stmt) (f:Addr) (fd:FuncData):Prop where
 a:PySem.W.nsIn K mainGlobals x=some (some (.ref f))
 F:Fun K x x st f fd
theorem zY{oc:Value}{od an:Option Addr}{osl:Array (Option Value)}{kV doc pm cdv ct:Value}(a:PySem.W.nsIn K mainGlobals x=some (some (.ref f))) (l:K.lookup f=some ⟨oc,od,.func (PySem.W.fnOf x x (eM st) (cy st) (ag st) .none kV doc pm an cdv ct),osl⟩)
  (c:PySem.W.codeIn K cdv x=true) (k:PySem.W.keepIn K (.ref f)=true):bt K x st f (PySem.W.fnOf x x (eM st) (cy st) (ag st) .none kV doc pm an cdv ct):=⟨a,t9 l c k⟩
theorem usS{p:List Value->Prop}{n:Nat}(h:∀a us,us.length=n->p (a::us)):∀us:List Value,us.length=n+1->p us:=by
 intro us e;cases us with
 |nil=>cases e
 |cons a us=>exact h a us (Nat.succ.inj e)
theorem us0{p:List Value->Prop}(h:p []):∀us:List Value,us.length=0->p us:=by
 intro us e;cases us with
 |nil=>exact h
 |cons a us=>cases e
def Bd(x qual:Str) (st:Stmt) (ps:List Str) (us:List Value):Prop:=∀(kV doc pm:Value) (an:Option Addr) (cdv ct:Value),bindArgs (PySem.W.fnOf x qual (eM st) (cy st) (ag st) .none kV doc pm an cdv ct) ⟨us,[]⟩=pure (ps.zip us)
theorem pN{ps:List Str}(F:Fun K x qual st f fd) (b:∀us:List Value,us.length=ps.length->Bd x qual st ps us):de K fd ps []:=F.binds fun kV doc pm an cdv ct us hl=>b us hl kV doc pm an cdv ct
variable{p1 p2 p3 p4 p5:Str}
theorem bd1(F:Fun K x qual st f fd) (b:∀a,Bd x qual st [p1] [a]):de K fd [p1] []:=pN F (usS fun a=>us0 (b a))
theorem bd2(F:Fun K x qual st f fd) (b:∀a c,Bd x qual st [p1,p2] [a,c]):de K fd [p1,p2] []:=pN F (usS fun a=>usS fun c=>us0 (b a c))
theorem bd3(F:Fun K x qual st f fd) (b:∀a c d,Bd x qual st [p1,p2,p3] [a,c,d]):de K fd [p1,p2,p3] []:=pN F (usS fun a=>usS fun c=>usS fun d=>us0 (b a c d))
theorem bd5(F:Fun K x qual st f fd) (b:∀a c d e g,Bd x qual st [p1,p2,p3,p4,p5] [a,c,d,e,g]):de K fd [p1,p2,p3,p4,p5] []:=pN F (usS fun a=>usS fun c=>usS fun d=>usS fun e=>usS fun g=>us0 (b a c d e g))
theorem fg{ps:List Str}{n:Nat}(X:K.In h) (G:h.Ns mainGlobals mg) (i:bt K x st f fd) (o:aO P w K mg base CX0 k f fd ps (spD K n S)) (b:de K fd ps []):FnD P w K mg base x k n S:=⟨_,_,_,o,PySem.W.mg_of X G i.a,i.F.kp,b⟩
theorem yB{fa:Addr}{sp:Sp}{lp:Program}(X:K.In h) (G:h.Ns mainGlobals mg) (hfa:mg "law"=some (.ref fa)) (i:bt K "law" st f fd) (b:∀a,Bd "law" "law" st [p1] [a]) (o:∀base:Heap,aO lp w K mg base CX0 k f fd [p1] sp) :
  ∃fd:FuncData,(∀(s:Shared) (v:Value),BindsTo s fd ⟨[v],[]⟩ [(p1,v)])/\∀base:Heap,K.In base->base.Ns mainGlobals mg->aO lp w K mg base CX0 k fa fd [p1] sp:=by
 have e:=hfa.symm.trans (PySem.W.mg_of X G i.a);cases e;refine⟨fd,fun s v=>?_,fun base _ _=>o base⟩;obtain⟨oc,od,kV,doc,pm,an,cdv,ct,osl,rfl,lk,hcd⟩:=i.F.ex;exact .of_eq (b v kV doc pm an cdv ct)
end
theorem nbh{op:CmpOp}{b:Expr}(h:op≠.In:=by decide) (h2:op≠.NotIn:=by decide):behindInMarks op b=false:=uv b h h2
theorem fsc{N P:List Str}{sc:Scope}(a:sc.kind=.function:=by exact rfl) (b:sc.isCoroutine=false:=by exact rfl) (c:sc.isGenerator=false:=by exact rfl) (d:N.Nodup:=by decide +kernel) (e:N.take P.length=P:=by exact rfl)
  (f:∀x∈P,sc.names.lookup x=some .local∨sc.names.lookup x=some .cell:=by decide +kernel) (g:∀y∈sc.names,y.2≠.free:=by decide +kernel):av N P sc:=⟨a,b,c,d,e,f,g⟩
section
variable{X:Cx}{e:Expr}{es:List Expr}{t:TAd}{pos p:Pos}{x:Str}{j k n:Nat}{S:SpD}
theorem qd(F:FnD X.prog X.w X.K X.mg X.base x j n S) (hr:cv k X.A) (ha:QAd X (e::es) t) (h:j<=k:=by decide) (hg:Gl X x:=by exact rfl) (hdb:(x==("__debug__":Str))=false:=by decide) (he:starEach (e::es) X.env=(false,eval e X.env)::starEach es X.env:=by rfl) (hpl:(backTo pos (starEach es X.env)).any (·.1)=false:=by rfl) :
  QEd X (.Call (.Name x p) (e::es) [] pos) (kB n S t):=qc F (hr.mono h) hg ha hdb he hpl
end
def txt:Value->Str|.str x _=>x|_=>default
theorem rZ(t:SetTable) (n:Nat):(t.orStandIn n).led=t.led:=by unfold SetTable.orStandIn;split<;>rfl
theorem oD(t:SetTable) (es:Array (Int×Value)) (h:Int) (x:Value):(layNew t es h x).2.1.led=t.led:=by
 unfold layNew
 split
 ·exact rZ _ _
 ·rfl
theorem j7{t t':SetTable}{hs:Array Int}{n:Nat}{o:Array Nat}(e:t.relaid hs n=some (t',o)):t'.led=t.led/\t'.plain=t.plain:=by
 unfold SetTable.relaid SetTable.laid at e;cases q:SetTable.layClean (SetTable.sizeAbove n-1) hs with
 |none=>rw[q]at e;cases e
 |some w=>rw[q]at e;cases e;exact⟨rfl,rfl⟩
theorem ml(t:SetTable) (es:Array (Int×Value)) (n:Nat):(relayAll t es n).2.1.led=t.led:=by
 unfold relayAll
 split
 ·rename_i e;dsimp only;split
  ·exact(j7 e).1
  ·rfl
 ·rfl
theorem jL(t:SetTable) (es:Array (Int×Value)) (n:Nat) (z:t.plain=false):(relayAll t es n).2.1.plain=false:=by
 unfold relayAll
 split
 ·rename_i e;dsimp only;split
  ·rw[(j7 e).2];exact z
  ·rfl
 ·rfl
section
variable{prog:Program}{w:World}{A:Around}{E:Value->Shared->Prop}{s:Shared}
noncomputable def byT(w:World):Bool:=w.params.followText "set-order"
def ElT(prog:Program) (w:World) (l:List (Int×Value)):Prop:=∀e∈l,∃x t,e=((strKind prog w).hash x,.str x t)
theorem ElT.of{l:List (Int×Value)}(h:ElT prog w l):ElemsOf (strKind prog w) l:=fun e he=>by
 obtain⟨x,t,rfl⟩:=h e he;exact⟨⟨x,strKind_is _ _ _ _,rfl⟩,rfl⟩
structure oM(prog:Program) (w:World) (h:Heap) (a:Addr) (o:Obj) (es:Array (Int×Value)) (ep:Nat) (t:SetTable):Prop where
 get:h.get? a=some o
 ex:o.ExactSet
 data:o.data=.set es ep t
 el:ElT prog w es.toList
 nd:(es.toList.map fun e=>txt e.2).Nodup
 room:es.size<scanBound
 fit:t.fits es.size=true
 led:t.led=!byT w
 pl:es.size≠0->t.plain=false
def fv(prog:Program) (w:World) (h:Heap) (a:Addr) (xs:List Str):Prop:=∃o es ep t,oM prog w h a o es ep t/\(es.toList.map fun e=>txt e.2).Perm xs
theorem fv.mono{h h':Heap}{a:Addr}{xs:List Str}(z:fv prog w h a xs) (k:∀o,h.get? a=some o->h'.get? a=some o):fv prog w h' a xs:=by
 obtain⟨o,es,ep,t,p,q⟩:=z;exact⟨o,es,ep,t,⟨k _ p.get,p.ex,p.data,p.el,p.nd,p.room,p.fit,p.led,p.pl⟩,q⟩
theorem fv.perm{h:Heap}{a:Addr}{xs ys:List Str}(z:fv prog w h a xs) (k:xs.Perm ys):fv prog w h a ys:=by
 obtain⟨o,es,ep,t,p,q⟩:=z;exact⟨o,es,ep,t,p,q.trans k⟩
theorem xt{x:Str}{v:Value}(h:(strKind prog w).is x v=true):∃t,v=.str x t:=by
 cases v<;>simp[PySem.strKind,Value.isStrOf]at h
 rename_i y t;exact⟨t,by rw[h]⟩
theorem oM.mem{h:Heap}{a:Addr}{o:Obj}{es:Array (Int×Value)}{ep:Nat}{t:SetTable}(p:oM prog w h a o es ep t) (x:Str) :
  (∃e∈es.toList,(strKind prog w).is x e.2=true)↔x∈es.toList.map fun e=>txt e.2:=by
 constructor
 ·rintro⟨e,he,q⟩;obtain⟨t,z⟩:=xt q;exact List.mem_map.mpr ⟨e,he,by rw[z];rfl⟩
 ·intro q;obtain⟨e,he,z⟩:=List.mem_map.mp q;obtain⟨y,t,rfl⟩:=p.el e he;have:y=x:=z;subst this;exact⟨_,he,strKind_is _ _ _ _⟩
theorem k9{h:Heap}{a:Addr}{o:Obj}{es:Array (Int×Value)}{ep:Nat}{t:SetTable}(ho:h.get? a=some o) (hd:o.data=.set es ep t) (es':Array (Int×Value)) (t':SetTable) :
  (h.update a (Obj.putSet es' t')).get? a=some { o with data:=.set es' (ep+1) t' }:=by
 have:=Heap.get?_update_self (Obj.putSet es' t') ho (by rw[putSet_of es' t' hd];rfl);rw[putSet_of es' t' hd]at this;exact this
theorem ku{l l':List (Int×Value)}(h:l.Perm l'):(l.map fun e=>txt e.2).Perm (l'.map fun e=>txt e.2):=h.map _
theorem oM.laid{h h':Heap}{a:Addr}{o:Obj}{es es':Array (Int×Value)}{ep ep':Nat}{t t':SetTable}(p:oM prog w h a o es ep t)
  (g:h'.get? a=some { o with data:=.set es' ep' t' }) (q:es'.toList.Perm es.toList) (f:t'.fits es'.size=true) (l:t'.led=t.led) (z:es'.size≠0->t'.plain=false):oM prog w h' a { o with data:=.set es' ep' t' } es' ep' t':=by
 have sz:es'.size=es.size:=by rw[<-Array.length_toList,q.length_eq,Array.length_toList]
 exact⟨g,p.ex,rfl,fun e he=>p.el e (q.mem_iff.mp he),((ku q).nodup_iff).mpr p.nd,by rw[sz];exact p.room,f,l.trans p.led,z⟩
theorem vV{g:Bool->Sem Unit}(hg:∀(b:Bool) (s₁:Shared) (Q':Unit->Shared->Prop),Q' () s₁->wpAny (model prog w) A (g b) Q' E s₁)
  {a:Addr} {o:Obj} {es:Array (Int×Value)} {ep:Nat} {t:SetTable} (ho:s.heap.get? a=some o) (hex:o.ExactSet) (hd:o.data=.set es ep t)
  {es1:Array (Int×Value)} {t2:SetTable} (el:ElT prog w es1.toList) (nd:(es1.toList.map fun e=>txt e.2).Nodup) (hb1:es1.size<scanBound) (hf2:t2.fits es1.size=true) (ld:t2.led=!byT w) (pl:t2.plain=false)
  {wasDummy:Bool} {R:Option Bool->Shared->Prop}
  (h:∀h',Heap.SameBut a s.heap h'->fv prog w h' a (es1.toList.map fun e=>txt e.2)->R (some true) { s with heap:=h' }) :
  wpAny (model prog w) A (do
    storeSet a es1 t2
    if(!wasDummy&&t2.tooFull)=true then do
      g (relayAll t2 es1 (SetTable.grown es1.size)).2.2
      storeSet a (relayAll t2 es1 (SetTable.grown es1.size)).1 (relayAll t2 es1 (SetTable.grown es1.size)).2.1
      pure (some true)
     else pure (some true)) R E s:=by
 refine wpAny_bind (wpAny_storeSet_of ho hd ?_ (fits_of_scanBound hb1));have ho1:=k9 ho hd es1 t2;have hS1:oM prog w (s.heap.update a (Obj.putSet es1 t2)) a { o with data:=.set es1 (ep+1) t2 } es1 (ep+1) t2:=⟨ho1,hex,rfl,el,nd,hb1,hf2,ld,fun _=>pl⟩;have hsb1:=Heap.SameBut.update s.heap a (Obj.putSet es1 t2)
 split
 ·have hp:=relayAll_perm t2 es1 (SetTable.grown es1.size);have hfr:=relayAll_fits t2 es1 (SetTable.grown es1.size);have hl:=ml t2 es1 (SetTable.grown es1.size);have hpl:=jL t2 es1 (SetTable.grown es1.size) pl;generalize hRl:relayAll t2 es1 (SetTable.grown es1.size)=Rl at hp hfr hl hpl ⊢;obtain⟨es2,t3,gave2⟩:=Rl;dsimp only at hp hfr hl hpl ⊢;have hsz:es2.size=es1.size:=by rw[<-Array.length_toList,hp.length_eq,Array.length_toList]
  have hb2:es2.size<scanBound:=by rw[hsz];exact hb1
  refine wpAny_bind (hg _ _ _ ?_);refine wpAny_bind (wpAny_storeSet_of ho1 rfl ?_ (fits_of_scanBound hb2));have ho2:=k9 (h:=s.heap.update a (Obj.putSet es1 t2)) ho1 rfl es2 t3;exact wpAny_pure (h _ (hsb1.trans (Heap.SameBut.update _ a _)) ⟨_,_,_,_,hS1.laid ho2 hp hfr hl (fun _=>hpl),ku hp⟩)
 ·exact wpAny_pure (h _ hsb1 ⟨_,_,_,_,hS1,.refl _⟩)
theorem An{a:Addr}{xs:List Str}{x:Str}{tk:Tok}{Q:Bool->Shared->Prop}(hS:fv prog w s.heap a xs) (hroom:xs.length+1<scanBound)
  (h:∀b h',Heap.SameBut a s.heap h'->fv prog w h' a (if x∈xs then xs else xs++[x])->Q b { s with heap:=h' }) :
  wpAny (model prog w) A (setAddHashed a (.str x tk) ((strKind prog w).hash x)) Q E s:=by
 obtain⟨o,es,ep,t,p,pm⟩:=hS;have hkey:=strKind_is prog w x tk;have hel:=p.el.of;have hn:es.size=xs.length:=by rw[<-Array.length_toList,<-pm.length_eq,List.length_map]
 have hb1:es.size+1<scanBound:=by rw[hn];exact hroom
 unfold setAddHashed setAddHashedIn;refine wpAny_holding (wpAny_bind (wpAny_setState_of p.get p.data p.fit ?_));dsimp only;rw[byScan_of rfl p.room hel];simp only[↓reduceIte];unfold setAddByScan;refine wpAny_bind ?_;refine wpAny_bind (wpAny_rule ?_);refine wpAny_bind (wpAny_setScan_of hkey p.get p.data p.fit hel ?_);cases hr:List.findIdx? (fun e=>(strKind prog w).is x e.2) es.toList with
 |some j =>
  dsimp only;obtain⟨hj,hpj,_⟩:=List.findIdx?_eq_some_iff_getElem.mp hr;have hx:x∈xs:=pm.mem_iff.mp ((p.mem x).mp ⟨es.toList[j],List.getElem_mem hj,hpj⟩);refine wpAny_pure (wpAny_pure ?_);have e:s={ s with heap:=s.heap }:=by cases s;rfl
  rw[e];exact h _ s.heap (Heap.SameBut.refl a s.heap) (by rw[if_pos hx];exact⟨o,es,ep,t,p,pm⟩)
 |none =>
  dsimp only;have hx:x∉es.toList.map fun e=>txt e.2:=fun q=>by
   obtain⟨e,he,z⟩:=(p.mem x).mpr q;have:=List.findIdx?_eq_none_iff.mp hr e he;rw[z]at this;exact Bool.noConfusion this
  have hx':x∉xs:=fun q=>hx (pm.mem_iff.mpr q);have hgw:∀(b:Bool) {s₁:Shared} {Q':Unit->Shared->Prop},Q' () s₁->wpAny (model prog w) A (match b with|true=>rule "set.scan.the-table-gave-way" |false=>pure ()) Q' E s₁ :=
   fun b s₁ Q' hq=>by cases b<;>first|exact wpAny_pure hq|exact wpAny_rule hq
  have hperm:=layNew_perm t es ((strKind prog w).hash x) (.str x tk);have hfits:=layNew_fits t es ((strKind prog w).hash x) (.str x tk);have hled:=oD t es ((strKind prog w).hash x) (.str x tk);generalize hL:layNew t es ((strKind prog w).hash x) (.str x tk)=L at hperm hfits hled ⊢;obtain⟨es1,t1,wasDummy,gave⟩:=L;dsimp only at hperm hfits hled ⊢;rw[Array.toList_push]at hperm;have hel1:ElT prog w es1.toList:=fun e he=>by
   rcases List.mem_append.mp (hperm.mem_iff.mp he)with he|he
   ·exact p.el e he
   ·rw[List.mem_singleton]at he;exact⟨x,tk,he⟩
  have hm:(es1.toList.map fun e=>txt e.2).Perm ((es.toList.map fun e=>txt e.2)++[x]):=by
   have:=ku hperm
   rwa [List.map_append]at this
  have hnd:(es1.toList.map fun e=>txt e.2).Nodup:=by
   rw[hm.nodup_iff,List.nodup_append];exact⟨p.nd,by simp,fun a ha b hb=>by rw[List.mem_singleton]at hb;subst hb;intro q;subst q;exact hx ha⟩
  have hb1':es1.size<scanBound:=by rw[<-Array.length_toList,hperm.length_eq,List.length_append,Array.length_toList];simpa using hb1
  refine wpAny_bind (hgw _ ?_);have hend:∀h',Heap.SameBut a s.heap h'->fv prog w h' a (es1.toList.map fun e=>txt e.2)->Q true { s with heap:=h' }:=fun h' hsb hS' =>
   h _ h' hsb (by rw[if_neg hx'];exact hS'.perm (hm.trans (pm.append_right _)))
  split
  ·refine wpAny_bind ?_;rw[hashByValue_scannable 8 rfl];refine wpAny_pure ?_;refine vV (t2:={ t1 with plain:=false }) ?_ p.get p.ex p.data hel1 hnd hb1' (SetTable.fits_plain_off hfits) (hled.trans p.led) rfl ?_
   ·intro b s₁ Q' hq;cases b<;>first|exact wpAny_pure hq|exact wpAny_rule hq
   ·intro h' hsb hS';dsimp only;exact wpAny_pure (hend h' hsb hS')
  ·rename_i hp;refine wpAny_bind (wpAny_pure ?_);simp only[↓reduceIte];refine vV ?_ p.get p.ex p.data hel1 hnd hb1' hfits (hled.trans p.led) (by simpa using hp) ?_
   ·intro b s₁ Q' hq;cases b<;>first|exact wpAny_pure hq|exact wpAny_rule hq
   ·intro h' hsb hS';dsimp only;exact wpAny_pure (hend h' hsb hS')
end
def i4(xs:List Str) (x:Str):List Str:=if x∈xs then xs else xs++[x]
def eY(xs:List Str):List Str:=xs.foldl i4 []
theorem qY(xs:List Str) (x:Str):(i4 xs x).length<=xs.length+1:=by unfold i4;split<;>simp
theorem iA:∀(xs zs:List Str),(xs.foldl i4 zs).length<=zs.length+xs.length
 |[],_=>Nat.le_refl _
 |x::xs,zs=>by
  have:=iA xs (i4 zs x);have:=qY zs x;simp only[List.foldl_cons,List.length_cons];lia
theorem uq(xs:List Str):(eY xs).length<=xs.length:=by have:=iA xs [];simpa[eY]using this
theorem rh(xs:List Str) (i:Nat) (h:i<xs.length):eY (xs.take (i+1))=i4 (eY (xs.take i)) xs[i]:=by
 rw[List.take_succ_eq_append_getElem h,eY,List.foldl_append];rfl
section
variable{prog:Program}{w:World}{A:Around}{R:Result->Shared->Prop}{I:Addr}{fp wr:List Addr}{G:Array GenState->Array GenState->Prop}{P:Nat->Value->Prop}{St:Nat->Shared->Prop}
theorem Ao{xs:List Str}(W:WalksS prog w A.in1 I fp wr G xs.length P St) (S:Addr) (hSf:S∉fp)
  (hval:∀i v (h:i<xs.length),P i v->∃t,v=.str xs[i] t) (hb:xs.length+1<scanBound) :
  ∀(k i:Nat) (s:Shared),xs.length-i=k->i<=xs.length->St i s->fv prog w s.heap S (eY (xs.take i)) ->
   (∀s',Moved (S::wr) G s s'->fv prog w s'.heap S (eY xs)->R (.ok (.ret .none)) s') ->
   codeAny (model prog w) A (.builtin "set.update.loop" ⟨[.ref S,.ref I],[]⟩) R s:=by
 have hSw:S∉wr:=fun h=>hSf (W.sub _ h);have hsub:∀b∈wr,b∈S::wr:=fun b hb=>List.mem_cons_of_mem _ hb;intro k
 induction k with
 |zero =>
  intro i s hk hi hst hS hR;have hin:i=xs.length:=by lia
  subst hin;refine codeAny_builtin F.entry_set_update_loop ?_;rw[Around.under_plainId F.plain_set_update_loop _];show wpAny _ A.in1 (pyNext (.ref I) >>= _) _ _ s;refine wpAny_bind (W.done s _ _ hst fun s' hm=>?_);show wpAny _ A.in1 (ret Value.none) _ _ s';rw[List.take_length]at hS;exact wpAny_pure (hR s' (hm.mono hsub) (hS.mono fun o e=>hm.heap S _ hSw e))
 |succ k ih =>
  intro i s hk hi hst hS hR;have hlt:i<xs.length:=by lia
  refine codeAny_builtin F.entry_set_update_loop ?_;rw[Around.under_plainId F.plain_set_update_loop _];show wpAny _ A.in1 (pyNext (.ref I) >>= _) _ _ s;refine wpAny_bind (W.item i s _ _ hlt hst fun v s' hP hst' hm=>?_);obtain⟨t,rfl⟩:=hval i v hlt hP;have hS':fv prog w s'.heap S (eY (xs.take i)):=hS.mono fun o e=>hm.heap S _ hSw e;show wpAny _ A.in1 (holding [Value.str xs[i] t] (setAdd S (.str xs[i] t)) >>= _) _ _ s';refine wpAny_bind (wpAny_holding ?_);unfold setAdd;refine wpAny_holding ?_;refine wpAny_bind ((strKind prog w).pyHash (k:=xs[i]) (strKind_is _ _ _ _) ?_);have hroom:(eY (xs.take i)).length+1<scanBound:=by have:=uq (xs.take i);rw[List.length_take]at this;lia
  refine An (s:={ s' with toks:=s'.toks+1 }) hS' hroom fun b h' hsb hS2=>?_;have hSi:fv prog w h' S (eY (xs.take (i+1))):=by rw[rh xs i hlt];exact hS2
  refine wpAny_pure ⟨plainId_quiet F.plain_set_update_loop _,ih (i+1) _ (by lia) hlt (W.frame _ s' _ _ hst' (Nat.le_succ _) fun b hb o e=>?_) hSi fun s'' hm'' hS''=>?_⟩
  ·rw[hsb.2 b (fun h:b=S=>hSf (by rw[<-h];exact hb))];exact e
  ·refine hR s'' (Moved.trans W.gtrans ((hm.mono hsub).then_heap (Nat.le_succ _) fun b o hb e=>?_) hm'') hS'';rw[hsb.2 b (fun h:b=S=>hb (by rw[h];exact List.mem_cons_self))];exact e
end
section
variable{prog:Program}{w:World}{A:Around}{E:Value->Shared->Prop}{s:Shared}
abbrev dQ(w:World):Obj:={ cls:=.type "set",dict:=none,data:=.set #[] 0 (.fresh 0 0 (!byT w)) }
theorem xV{h:Heap}{a:Addr}(g:h.get? a=some (dQ w)):fv prog w h a [] :=
 ⟨_,#[],0,_,⟨g,⟨rfl,rfl,rfl⟩,rfl,fun e he=>by simp at he,by simp,by decide,rfl,rfl,fun q=>absurd rfl q⟩,by simp⟩
theorem oC(a:Value) {Q₁:Value->Shared->Prop}(h:Q₁ (.ref s.heap.objs.size) { s with heap:=s.heap.push (dQ w) }) :
  codeAny (model prog w) A (.call (.builtin "set.__new__") ⟨[.type "set",a],[]⟩) (wants Q₁ E) s:=by
 refine codeAny_of_tree ?_;show wpAny _ A.in1 (do checkBuiltinCall "set.__new__" ⟨[.type "set",a],[]⟩;again (.builtin "set.__new__" ⟨[.type "set",a],[]⟩)) _ _ s;refine wpAny_bind (wpAny_of_eq (PySem.F.newCall_set_1 a) (wpAny_pure ⟨plainId_quiet PySem.F.plain_set_new _,codeAny_builtin PySem.F.entry_set_new ?_⟩));rw[Around.under_plainId PySem.F.plain_set_new _];unfold Builtin.«set.__new__» Builtin.Frozenset.newClass;have hsub:=sub_set_self;obtain⟨hp,g,d,tk,os⟩:=s;dsimp only
 wp_walk
 refine wpAny_askSetting (wpAny_pure ?_);dsimp only;simp only[newObj];refine wpAny_bind (wpAny_alloc (wpAny_pure ?_));exact wpAny_pure h
set_option maxHeartbeats 3200000 in
theorem qM{l:Addr}{items:Array Value}{xs:List Str}{Q:Value->Shared->Prop}
  (hh:A.handled=none) (hl:s.heap.IsList l items) (hn:items.size=xs.length) (hi:∀i (h:i<xs.length),∃t,items[i]?=some (.str xs[i] t)) (hb:xs.length+1<scanBound)
  (h:∀(h':Heap) (tk:Nat),fv prog w h' s.heap.objs.size (eY xs)->(∀b o,s.heap.get? b=some o->h'.get? b=some o)->Q (.ref s.heap.objs.size) { s with heap:=h',toks:=tk }) :
  wpAny (model prog w) A (call (.type "set") [.ref l]) Q E s:=by
 obtain⟨c,tl,hmro⟩:=PySem.F.called_set.mro;have hmade:=PySem.F.called_set.made;have hsub:=PySem.F.called_set.sub;refine wpAny_call (codeAny_of_tree ?_);show wpAny _ _ (callAny (.type "set") _) _ _ _;refine wpAny_pure ⟨Code.quiet_builtin _ (by decide +kernel),codeAny_builtin PySem.F.entry_type_call ?_⟩;rw[Around.under_plain (weight_type_call_type "set" [.ref l] []) rfl];have h1:=PySem.F.called_set.notType;have h2:=PySem.F.called_set.canCreate;have hct:=PySem.F.typeCall_set_1 (.ref l)
 repeat (any_goals (first|assumption|wp_step))
 refine codeAny_mono (oC (.ref l) (E:=E) (Q₁:=fun obj s₁=>obj=.ref s.heap.objs.size/\s₁={ s with heap:=s.heap.push (dQ w) }) ⟨rfl,rfl⟩) fun r s₁ hr=>?_;cases r with
 |error e=>exact hr
 |ok fl =>
  cases fl with
  |ret obj =>
   obtain⟨rfl,rfl⟩:=hr;have hS:(s.heap.push (dQ w)).get? s.heap.objs.size=some (dQ w):=Heap.get?_push_size _ rfl;have hT:Shared.TypeIs { s with heap:=s.heap.push (dQ w) } (.ref s.heap.objs.size) "set":=⟨_,hS,rfl⟩;have hli:=PySem.F.called_set.init.lookup;have hbi:=PySem.F.called_set.init.bind (.ref s.heap.objs.size)
   repeat (any_goals (first|assumption|wp_step))
   refine codeAny_mono (codeAny_call_builtin (R:=wants (fun r s₂=>r=.none/\∃h' tk,s₂={ s with heap:=h',toks:=tk } /\
     fv prog w h' s.heap.objs.size (eY xs)/\(∀b o,s.heap.get? b=some o->h'.get? b=some o)) E) PySem.F.called_set.init.plain PySem.F.entry_set_init (check_set_init_1 hT ?_)) fun r₂ s₂ hr₂=>?_
   ·obtain⟨ol,hol,hcl,nl,hdl⟩:=hl;obtain⟨ocls,odict,odata,oslots⟩:=ol;simp only at hcl hdl;subst hcl;subst hdl;have hol':(s.heap.push (dQ w)).get? l=some { cls:=.type "list",dict:=odict,data:=.seq items nl,slots:=oslots }:=Heap.get?_push_of_some _ hol;have hsls:=PySem.F.sub_list_set;have hslf:=PySem.F.sub_list_frozenset;have hne:(Value.type "list"==Value.type "dict")=false:=by decide
    have hl1:(s.heap.push (dQ w)).IsList l items:=⟨_,hol',rfl,nl,rfl⟩;unfold Builtin.«set.__init__» noKeywords Builtin.Frozenset.updateFrom;generalize hPI:pyIter=PI
    wp_walk
    subst hPI;refine wpAny_pyIter_list hl1 ?_;refine wpAny_bind (wpAny_runValue ?_);have hlS:l<s.heap.objs.size:=Heap.lt_size hol;have hh3:A.in1.in1.in1.handled=none:=by simp[hh]
    have hneI:l≠(s.heap.push (dQ w)).objs.size:=by
     rw[Heap.size_push];exact Nat.ne_of_lt (Nat.lt_succ_of_lt hlS)
    have hSf:s.heap.objs.size∉[(s.heap.push (dQ w)).objs.size,l]:=by
     rw[Heap.size_push];simp only[List.mem_cons,List.mem_singleton,List.not_mem_nil,or_false,not_or];exact⟨Nat.ne_of_lt (Nat.lt_succ_self _),Nat.ne_of_gt hlS⟩
    have W:=(Walks.list (prog:=prog) (w:=w) hh3 _ l hneI items).toS;rw[hn]at W;refine Ao (xs:=xs) W s.heap.objs.size hSf (fun i v hlt hv=>?_) hb (xs.length-0) 0 _ (by lia) (Nat.zero_le _) ?St0 ?hS0 ?hR
    case St0=>exact⟨⟨_,Heap.get?_push_size _ rfl,rfl,rfl⟩,(hl1.push _)⟩
    ·obtain⟨t,g⟩:=hi i hlt;have hv':items[i]?=some v:=hv;rw[g]at hv';exact⟨t,(Option.some.inj hv').symm⟩
    case hS0=>exact xV (Heap.get?_push_of_some _ hS)
    case hR =>
     intro s' hm hS';obtain⟨h',g',d',tk',os'⟩:=s';have eg:g'=s.gens:=hm.gens;have ed:d'=s.drawn:=hm.drawn;have eo:os'=s.os:=hm.os;subst eg;subst ed;subst eo;show wpAny _ _ _ _ _ _;refine wpAny_pure ?_;show wpAny _ _ (ret Value.none) _ _ _;refine wpAny_pure ⟨rfl,h',tk',rfl,hS',fun b o e=>?_⟩;have hb:=Heap.lt_size e;have hb1:b≠s.heap.objs.size:=Nat.ne_of_lt hb;have hb2:b≠(s.heap.push (dQ w)).objs.size:=by
      rw[Heap.size_push];exact Nat.ne_of_lt (Nat.lt_succ_of_lt hb)
     exact hm.heap b o (by simp only[List.mem_cons,List.mem_singleton,List.not_mem_nil,or_false,not_or];exact⟨hb1,hb2⟩) (Heap.get?_push_of_some _ (Heap.get?_push_of_some _ e))
   ·cases r₂ with
    |error e=>exact hr₂
    |ok fl₂ =>
     cases fl₂ with
     |ret r =>
      obtain⟨rfl,h',tk,rfl,hS',hk'⟩:=hr₂
      repeat (any_goals (first|assumption|wp_step))
      exact h _ _ hS' hk'
     |_=>exact hr₂.elim
  |_=>exact hr.elim
end
end L2
namespace L2
open PySem
def f51(x:Nat):Nat:=5*x+1
def jh:Nat->Nat->Nat
 |0,x=>x
 |n+1,x=>jh n (f51 x)
theorem jF(m n x:Nat):jh (m+n) x=jh n (jh m x):=by
 induction m generalizing x with
 |zero=>simp[jh]
 |succ m ih=>rw[Nat.succ_add];simp only[jh];exact ih _
theorem sy(k:Nat):∃a c,∀z,jh (2 ^ k) z=z+2 ^ (k+2)*a*z+2 ^ k+2 ^ (k+1)*c:=by
 induction k with
 |zero=>exact⟨1,0,fun z=>by simp[jh,f51];lia⟩
 |succ k ih =>
  obtain⟨a,c,h⟩:=ih;generalize hp:2 ^ k=p at *
  have e1:2 ^ (k+1)=2*p:=by rw[Nat.pow_succ,hp,Nat.mul_comm]
  have e2:2 ^ (k+2)=4*p:=by rw[Nat.pow_add,hp];lia
  have e3:2 ^ (k+1+2)=8*p:=by rw[show k+1+2=k+3 by lia,Nat.pow_add,hp];lia
  have e4:2 ^ (k+1+1)=4*p:=e2;rw[e1,e3,e4];rw[e1,e2]at h;refine⟨a+2*p*a*a,c+p*a+2*p*a*c,fun z=>?_⟩;rw[show 2*p=p+p by lia,jF,h,h]
  grind
theorem uk(k:Nat):∀x j,j<2 ^ k->∃n,n<2 ^ k/\jh n x % 2 ^ k=j:=by
 induction k with
 |zero=>intro x j h;exact⟨0,by simp,by simp at h;simp[h,Nat.mod_one]⟩
 |succ k ih =>
  intro x j hj;obtain⟨a,c,hs⟩:=sy k;have pos:0<2 ^ k:=Nat.two_pow_pos k;have e1:2 ^ (k+1)=2*2 ^ k:=by rw[Nat.pow_succ,Nat.mul_comm]
  have e2:2 ^ (k+2)=2*(2*2 ^ k):=by rw[Nat.pow_add];lia
  obtain⟨n,hn,he⟩:=ih x (j % 2 ^ k) (Nat.mod_lt _ pos);generalize hy:jh n x=y at he;generalize hp:2 ^ k=p at *
  have hm:y % (2*p)=j∨(y+p) % (2*p)=j:=by
   rw[e1]at hj;have d1:=Nat.div_add_mod y (2*p);have d3:=Nat.mod_lt y (show 0<2*p by lia);have:y % (2*p) % p=y % p:=Nat.mod_mul_left_mod y 2 p;rw[he]at this;generalize y % (2*p)=r at *
   have q1:r=p*(r / p)+r % p:=(Nat.div_add_mod r p).symm;have q2:j=p*(j / p)+j % p:=(Nat.div_add_mod j p).symm;have r2:r / p<2:=Nat.div_lt_of_lt_mul (by lia);have j2:j / p<2:=Nat.div_lt_of_lt_mul (by lia);rw[this]at q1;have hy':(y+p) % (2*p)=(r+p) % (2*p):=by
    rw[<-d1,Nat.add_assoc,Nat.mul_add_mod]
   rw[hy'];have jl:j % p<p:=Nat.mod_lt _ pos;generalize j % p=u at *
   have two:∀q,q<2->q=0∨q=1:=fun q h=>by lia
   have c1:=two _ r2;have c2:=two _ j2;rcases c1 with c1|c1<;>rcases c2 with c2|c2<;>rw[c1]at q1<;>rw[c2]at q2<;>simp only[Nat.mul_zero,Nat.mul_one,Nat.zero_add]at q1 q2
   ·left;lia
   ·right;rw[Nat.mod_eq_of_lt (by lia)];lia
   ·right;rw[show r+p=u+1*(2*p)by lia,Nat.add_mul_mod_self_right,Nat.mod_eq_of_lt (by lia)];lia
   ·left;lia
  rcases hm with hm|hm
  ·exact⟨n,by lia,by rw[e1,hy];exact hm⟩
  ·refine⟨n+p,by lia,?_⟩;rw[jF,hy,hs y,e1,e2];have:y+2*(2*p)*a*y+p+2*p*c=(y+p)+(2*a*y+c)*(2*p):=by grind
   rw[this,Nat.add_mul_mod_self_right];exact hm
end L2
namespace L2
open PySem PySem.SetTable
def pS(mask:Nat) (h:Int):Probe:={ j:=bits h % (mask+1),more:=runEnd mask (bits h % (mask+1))-bits h % (mask+1),i:=bits h % (mask+1),perturb:=bits h,dummy:=none }
def pA(mask:Nat) (p:Probe):Probe :=
 if p.more > 0 then { p with j:=p.j+1,more:=p.more-1 }
 else { p with j:=(leap mask p.i p.perturb).1,more:=runEnd mask (leap mask p.i p.perturb).1-(leap mask p.i p.perturb).1,i:=(leap mask p.i p.perturb).1,perturb:=(leap mask p.i p.perturb).2 }
def pth(mask:Nat) (h:Int):Nat->Probe
 |0=>pS mask h
 |n+1=>pA mask (pth mask h n)
def rs(mask:Nat) (h:Int):Nat->Nat×Nat
 |0=>(bits h % (mask+1),bits h)
 |n+1=>leap mask (rs mask h n).1 (rs mask h n).2
def atR(mask:Nat) (r:Nat×Nat):Probe:={ j:=r.1,more:=runEnd mask r.1-r.1,i:=r.1,perturb:=r.2,dummy:=none }
variable{mask:Nat}{h:Int}
theorem w6(i:Nat):runEnd mask i-i<=9:=by unfold runEnd;split<;>lia
theorem mz{n:Nat}{r:Nat×Nat}(e:pth mask h n=atR mask r):∀q,q<=runEnd mask r.1-r.1->pth mask h (n+q)={ atR mask r with j:=r.1+q,more:=runEnd mask r.1-r.1-q }
 |0,_=>by rw[Nat.add_zero,e];rfl
 |q+1,hq=>by
  rw[<-Nat.add_assoc];show pA mask (pth mask h (n+q))=_;rw[mz e q (by lia)];unfold pA;rw[if_pos (show runEnd mask r.1-r.1-q > 0 by lia)];rfl
theorem sg:∀m,∃n,n<=10*m/\pth mask h n=atR mask (rs mask h m)
 |0=>⟨0,by lia,rfl⟩
 |m+1=>by
  obtain⟨n,hn,e⟩:=sg m;have hl:=w6 (mask:=mask) (rs mask h m).1;refine⟨n+(runEnd mask (rs mask h m).1-(rs mask h m).1)+1,by lia,?_⟩;show pA mask (pth mask h (n+_))=_;rw[mz e _ (Nat.le_refl _)];unfold pA;rw[if_neg (by simp)];rfl
theorem uP:bits h<2 ^ 64:=by
 unfold bits;have:=Int.emod_lt_of_pos h (show(0:Int)<2 ^ 64 by decide);have:=Int.emod_nonneg h (show(2 ^ 64:Int)≠0 by decide)
 lia
theorem tT:∀m,(rs mask h m).2=bits h / 32 ^ m
 |0=>by simp[rs]
 |m+1=>by
  show(rs mask h m).2 / 32=_;rw[tT m,Nat.div_div_eq_div_mul,Nat.pow_succ]
theorem Aq(m:Nat):(rs mask h (13+m)).2=0:=by
 rw[tT];refine Nat.div_eq_of_lt (Nat.lt_of_lt_of_le uP ?_);rw[Nat.pow_add];exact Nat.le_trans (by decide) (Nat.le_mul_of_pos_right (32 ^ 13) (Nat.pow_pos (by decide)))
theorem wa:∀m,(rs mask h (13+m)).1 % (mask+1)=jh m (rs mask h 13).1 % (mask+1)
 |0=>rfl
 |m+1=>by
  show(leap mask (rs mask h (13+m)).1 (rs mask h (13+m)).2).1 % _=_;unfold leap;rw[Aq,jF m 1];show((rs mask h (13+m)).1*5+1+0 / 32) % (mask+1) % (mask+1)=(5*jh m (rs mask h 13).1+1) % (mask+1);rw[Nat.mod_mod,Nat.zero_div,Nat.add_zero,Nat.add_mod,Nat.mul_mod,wa m,<-Nat.mul_mod,<-Nat.add_mod,Nat.mul_comm]
theorem vX(m:Nat):(rs mask h m).1<mask+1:=by
 cases m with
 |zero=>exact Nat.mod_lt _ (Nat.succ_pos _)
 |succ m=>exact Nat.mod_lt _ (Nat.succ_pos _)
theorem pP{k:Nat}(hk:mask+1=2 ^ k) {j:Nat}(hj:j<=mask):∃m n,m<=mask+13/\n<=10*m/\(rs mask h m).1=j/\(pth mask h n).j=j:=by
 obtain⟨m,hm,e⟩:=uk k (rs mask h 13).1 j (by lia);rw[<-hk]at hm e;have e2:=wa (mask:=mask) (h:=h) m;rw[e,Nat.mod_eq_of_lt (vX _)]at e2;obtain⟨n,hn,en⟩:=sg (mask:=mask) (h:=h) (13+m);exact⟨13+m,n,by lia,hn,e2,by rw[en];exact e2⟩
theorem pJ(n:Nat):(pth mask h n).j<=mask:=by
 have key:∀n,(pth mask h n).j+(pth mask h n).more<=mask/\(pth mask h n).dummy=none:=fun n=>by
  have st:∀i,i<mask+1->i+(runEnd mask i-i)<=mask:=fun i hi=>by unfold runEnd;split<;>lia
  induction n with
  |zero=>exact⟨st _ (Nat.mod_lt _ (Nat.succ_pos _)),rfl⟩
  |succ n ih =>
   show(pA mask (pth mask h n)).j+(pA mask (pth mask h n)).more<=mask/\(pA mask (pth mask h n)).dummy=none;unfold pA
   split
   ·exact⟨by have:=ih.1;dsimp only;lia,ih.2⟩
   ·exact⟨st _ (Nat.mod_lt _ (Nat.succ_pos _)),ih.2⟩
 have:=(key n).1
 lia
theorem yp(n:Nat):(pth mask h n).dummy=none:=by
 induction n with
 |zero=>rfl
 |succ n ih =>
  show(pA mask (pth mask h n)).dummy=none;unfold pA
  split<;>exact ih
theorem zS{P:Nat->Prop}{n:Nat}(h:P n):∃m,m<=n/\P m/\∀l,l<m->¬ P l:=by
 induction n using Nat.strongRecOn with
 |_ n ih =>
  by_cases c:∃l,l<n/\P l
  ·obtain⟨l,hl,pl⟩:=c;obtain⟨m,hm,a,b⟩:=ih l hl pl;exact⟨m,by lia,a,b⟩
  ·exact⟨n,Nat.le_refl _,h,fun l hl pl=>c ⟨l,hl,pl⟩⟩
def Ri(xs:Array Nat):Prop:=∀i j,i<j->j<xs.size->xs.getD i 0<xs.getD j 0
theorem uj{xs:Array Nat}{i:Nat}(h:i<xs.size) (a b:Nat):xs.getD i a=xs.getD i b:=by simp[Array.getD,h]
theorem ky{xs:Array Nat}(up:Ri xs) (j:Nat):∀f lo hi,hi-lo<=f->lo<=hi->hi<=xs.size->(∀i,i<lo->xs.getD i 0<j)->(∀i,hi<=i->i<xs.size->j<=xs.getD i 0) ->
  below.go xs j f lo hi<=xs.size/\(∀i,i<below.go xs j f lo hi->xs.getD i 0<j)/\∀i,below.go xs j f lo hi<=i->i<xs.size->j<=xs.getD i 0
 |0,lo,hi,h1,h2,h3,a,b=>by
  obtain rfl:lo=hi:=by lia
  exact⟨h3,a,b⟩
 |f+1,lo,hi,h1,h2,h3,a,b=>by
  unfold below.go
  by_cases c:lo<hi
  ·rw[if_pos c];dsimp only
   by_cases d:xs.getD ((lo+hi) / 2) j<j
   ·rw[if_pos d];rw[uj (by lia) j 0]at d;refine ky up j f _ _ (by lia) (by lia) h3 (fun i hi'=>?_) b;rcases Nat.lt_or_ge i ((lo+hi) / 2)with q|q
    ·exact Nat.lt_trans (up i _ q (by lia)) d
    ·obtain rfl:i=(lo+hi) / 2:=by lia
     exact d
   ·rw[if_neg d];rw[uj (by lia) j 0]at d;refine ky up j f _ _ (by lia) (by lia) (by lia) a (fun i h4 h5=>?_);rcases Nat.lt_or_ge ((lo+hi) / 2) i with q|q
    ·have:=up _ i q h5;lia
    ·obtain rfl:i=(lo+hi) / 2:=by lia
     lia
  ·rw[if_neg c];obtain rfl:lo=hi:=by lia
   exact⟨h3,a,b⟩
theorem n9{xs:Array Nat}(up:Ri xs) (j:Nat):below xs j<=xs.size/\(∀i,i<below xs j->xs.getD i 0<j)/\∀i,below xs j<=i->i<xs.size->j<=xs.getD i 0 :=
 ky up j _ _ _ (by lia) (Nat.zero_le _) (Nat.le_refl _) (fun i h=>by lia) (fun i h1 h2=>by lia)
def Occ(xs:Array Nat) (j:Nat):Prop:=∃i,i<xs.size/\xs.getD i 0=j
theorem lT{t:SetTable}(up:Ri t.place) {i j:Nat}(hi:i<t.place.size) (e:t.place.getD i 0=j):t.slot j=.live i:=by
 obtain⟨h1,h2,h3⟩:=n9 up j;have:below t.place j=i:=by
  rcases Nat.lt_trichotomy (below t.place j) i with q|q|q
  ·have a:=h3 _ (Nat.le_refl _) (by lia);have b:=up _ i q hi
   lia
  ·exact q
  ·have:=h2 i q;lia
 unfold slot;rw[this];have g:t.place[i]?=some j:=by rw[Array.getElem?_eq_getElem hi,<-e];simp[Array.getD,hi]
 simp[g]
theorem o5{t:SetTable}(dm:t.dummies=#[]) {j:Nat}(n:¬ Occ t.place j):t.slot j=.empty:=by
 unfold slot;have g:(t.place[below t.place j]?==some j)=false:=by
  cases q:t.place[below t.place j]? with
  |none=>rfl
  |some x =>
   obtain⟨hi,e⟩:=Array.getElem?_eq_some_iff.mp q;simp only[beq_eq_false_iff_ne,ne_eq,Option.some.injEq];intro z;exact n ⟨_,hi,by simp[Array.getD,hi,e,z]⟩
 rw[if_neg (by rw[g];decide),dm];rfl
theorem qT{xs:Array Nat}(up:Ri xs) {mask:Nat}(few:xs.size<=mask):∃j,j<=mask/\¬ Occ xs j:=by
 refine Classical.byContradiction fun c=>?_;have all:∀j,j<=mask->Occ xs j:=fun j hj=>Classical.byContradiction fun d=>c ⟨j,hj,d⟩;have key:∀j,j<=mask+1->j<=xs.size/\∀i,i<j->xs.getD i 0=i:=fun j=>by
  induction j with
  |zero=>exact fun _=>⟨Nat.zero_le _,fun i h=>by lia⟩
  |succ j ih =>
   intro hj;obtain⟨h1,h2⟩:=ih (by lia);obtain⟨i,hi,e⟩:=all j (by lia);have a:¬ i<j:=fun q=>by have:=h2 i q;lia
   have b:i=j:=by
    rcases Nat.lt_or_ge j i with q|q
    ·have b1:=up j i q hi;rw[e]at b1;cases j with
     |zero=>lia
     |succ j =>
      have b2:=up j (j+1) (by lia) (by lia);have b3:=h2 j (by lia)
      lia
    ·lia
   subst b;refine⟨hi,fun l hl=>?_⟩;rcases Nat.lt_or_ge l i with q|q
   ·exact h2 l q
   ·obtain rfl:l=i:=by lia
    exact e
 have:=(key (mask+1) (Nat.le_refl _)).1
 lia
structure TB(t:SetTable) (hs:List Int):Prop where
 sz:t.place.size=hs.length
 up:Ri t.place
 le:∀i,i<t.place.size->t.place.getD i 0<=t.mask
 dm:t.dummies=#[]
 pw:∃k,3<=k/\t.mask+1=2 ^ k
 few:t.place.size<=t.mask
 pr:∀i h,hs[i]?=some h->∃n,(pth t.mask h n).j=t.place.getD i 0/\∀m,m<n->Occ t.place (pth t.mask h m).j
theorem TB.free{t:SetTable}{hs:List Int}(T:TB t hs) (h:Int):∃n,n<=10*(t.mask+13)/\¬ Occ t.place (pth t.mask h n).j/\∀m,m<n->Occ t.place (pth t.mask h m).j:=by
 obtain⟨j,hj,nj⟩:=qT T.up T.few;obtain⟨k,_,hk⟩:=T.pw;obtain⟨m,n,hm,hn,_,e⟩:=pP (mask:=t.mask) (h:=h) hk hj;obtain⟨n0,h1,h2,h3⟩:=zS (P:=fun n=>¬ Occ t.place (pth t.mask h n).j) (n:=n) (by rw[e];exact nj);exact⟨n0,by lia,h2,fun m hm=>Classical.byContradiction fun d=>h3 m hm d⟩
theorem nK{t:SetTable}{hs:List Int}(T:TB t hs) {h:Int}{n0:Nat}(f0:¬ Occ t.place (pth t.mask h n0).j) (f1:∀m,m<n0->Occ t.place (pth t.mask h m).j) {ha:Nat->Int}:∀F n,n<=n0->n0-n<F ->
    ∃ m,n ≤ m ∧ m ≤ n0 ∧ (∀ l,n ≤ l → l < m → ∃ i,i < t.place.size ∧ t.place.getD i 0 = (pth t.mask h l).j ∧ ha i ≠ h) ∧
      ((m = n0 ∧ probe.go t ha h F (pth t.mask h n) = some (.empty (pth t.mask h n0).j none)) ∨
       (m<n0/\∃i,i<t.place.size/\t.place.getD i 0=(pth t.mask h m).j/\ha i=h/\probe.go t ha h F (pth t.mask h n)=some (.candidate (pth t.mask h m).j i (pth t.mask h (m+1)))))
  |0,n,h1,h2=>by lia
  | F + 1,n,h1,h2 => by
    rcases Nat.lt_or_ge n n0 with q|q
    · obtain ⟨i,hi,e⟩:=f1 n q;have es:=lT T.up hi e
      by_cases c:ha i=h
      · refine ⟨n,Nat.le_refl _,h1,fun l a b => by lia,.inr ⟨q,i,hi,e,c,?_⟩⟩;unfold probe.go;rw[es];dsimp only;rw[if_pos (by simpa using c)];rfl
      · obtain ⟨m,m1,m2,m3,m4⟩:=nK T f0 f1 (ha:=ha) F (n + 1) (by lia) (by lia);have eq:probe.go t ha h (F+1) (pth t.mask h n)=probe.go t ha h F (pth t.mask h (n+1)):=by
          rw[probe.go,es];dsimp only;rw[if_neg (by simpa using c)];rfl
        rw[eq];refine⟨m,by lia,m2,fun l a b=>?_,m4⟩;rcases Nat.lt_or_ge n l with d|d
        · exact m3 l d b
        · obtain rfl:l = n:=by lia
          exact⟨i,hi,e,c⟩
    · obtain rfl:n = n0:=by lia
      refine⟨n,Nat.le_refl _,Nat.le_refl _,fun l a b=>by lia,.inl ⟨rfl,?_⟩⟩;unfold probe.go;rw[o5 T.dm f0];dsimp only;rw[yp]
end L2
namespace L2
open PySem PySem.Spec PyProof.Rows
section
variable{X:Cx}{o i:Expr}{to ti:TEd}{pos:Pos}
end
section
variable{P:Program}{w:World}{K:PySem.W.Frag}{mg:Str->Option Value}{base:Heap}{f:Addr}{fd:FuncData}
theorem Fun.okR{x qual:Str}{st:Stmt}{f:Addr}{fd:FuncData}{N ps:List Str}{k n:Nat}{S:SpD}(F:Fun K x qual st f fd) (hn:ps.length=n) (Sc:av N ps (ag st))
  (hbody:∀ (cdv:Value) (A:Around) (outer:List Env) (s:Shared) (H:Hp) (E:XK),cv k (A.deeper (envOfC qual (ag st) s.heap.objs.size f cdv)) →
   ∃t:TSd,QSs (nI CX0 P w K mg base N qual (ag st) f cdv A outer s H E).nox (cy st) t/\∀ds M R (G:Prop),S ds M R->(t { nx:=fun _ M'=>R .non M',rt:=R } (gq N ds) M->G)->G):aO P w K mg base CX0 (k+1) f fd ps (spD K n S):=by
 refine F.okD hn Sc fun cdv A outer s H E hr=>?_;obtain⟨t,h1,h2⟩:=hbody cdv A outer s H E hr;exact⟨t,uG h1,fun ds M R _ hS=>h2 ds M R _ hS id⟩
theorem shr{p:Prop}(h:∀q:Prop,(p->q)->q):p:=h p id
end
end L2
namespace L2
open PySem PyProof.Rows
def gA(xs:Array Keyed) (i:Nat):Keyed:=xs[i]?.getD (.none,.none)
theorem tR{xs ys:Array Keyed}{i j:Nat}(h:xs[i]?=ys[j]?):gA xs i=gA ys j:=by unfold gA;rw[h]
section
variable{prog:Program}{w:World}{A:Around}{E:Value->Shared->Prop}{s:Shared}{O:KeyOrd}{key:Keyed->O.α}{a0:List Keyed}{κ:SortKind}
structure SB(a0:List Keyed) (κ:SortKind) (st:SortSt):Prop where
 perm:(arrOf st).toList.Perm a0
 kind:kindOf st=κ
 fail:failedOf st=none
theorem SB.size{st:SortSt}(h:SB a0 κ st):(arrOf st).size=a0.length:=by rw[<-Array.length_toList];exact h.perm.length_eq
def kA(key:Keyed->O.α) (xs:Array Keyed) (i:Nat):O.α:=key (gA xs i)
def Up(key:Keyed->O.α) (xs:Array Keyed) (lo hi:Nat):Prop:=∀i j,lo<=i->i<=j->j<hi->O.kle (kA key xs i) (kA key xs j)
def Out(lo hi:Nat) (xs ys:Array Keyed):Prop:=∀i,i<lo∨hi<=i->ys[i]?=xs[i]?
theorem Out.trans{lo hi lo' hi':Nat}{xs ys zs:Array Keyed}(h1:Out lo hi xs ys) (h2:Out lo' hi' ys zs) (a:lo<=lo') (b:hi'<=hi):Out lo hi xs zs:=fun i hi=>(h2 i (by lia)).trans (h1 i hi)
theorem nW{xs ys:Array Keyed}{i j:Nat}(h:xs[i]?=ys[j]?):kA key xs i=kA key ys j:=by unfold kA;rw[tR h]
theorem Up.one{xs:Array Keyed}{lo hi:Nat}(h:hi<=lo+1):Up key xs lo hi:=fun i j h1 h2 h3=>by
 obtain rfl:i=j:=by lia
 exact KeyOrd.kle_refl _
theorem Up.out{xs ys:Array Keyed}{lo hi a b:Nat}(h:Up key xs lo hi) (o:Out a b xs ys) (d:hi<=a∨b<=lo):Up key ys lo hi:=fun i j h1 h2 h3=>by
 rw[nW (o i (by lia)),nW (o j (by lia))];exact h i j h1 h2 h3
end
structure MS(R:Keyed->Keyed->Prop) (tot out ra rb:List Keyed):Prop where
 perm:(out++(ra++rb)).Perm tot
 so:out.Pairwise R
 la:∀z∈out,∀x∈ra,R z x
 lb:∀z∈out,∀x∈rb,R z x
 sa:ra.Pairwise R
 sb:rb.Pairwise R
theorem MS.take{R:Keyed->Keyed->Prop}{tot out c ra rb:List Keyed}(h:MS R tot out (c++ra) rb) (k:∀x∈c,∀y∈rb,R x y):MS R tot (out++c) ra rb:=by
 have sa:=List.pairwise_append.mp h.sa;refine⟨by simpa using h.perm,List.pairwise_append.mpr ⟨h.so,sa.1,fun z hz x hx=>h.la z hz x (by simp[hx])⟩,fun z hz x hx=>?_,fun z hz y hy=>?_,sa.2.1,h.sb⟩
 ·rcases List.mem_append.mp hz with hz|hz
  ·exact h.la z hz x (by simp[hx])
  ·exact sa.2.2 z hz x hx
 ·rcases List.mem_append.mp hz with hz|hz
  ·exact h.lb z hz y hy
  ·exact k z hz y hy
def Fn(R:Keyed->Keyed->Prop) (tot r:List Keyed):Prop:=r.Perm tot/\r.Pairwise R
theorem MS.fin{R:Keyed->Keyed->Prop}{tot out ra rb:List Keyed}(h:MS R tot out ra rb) (k:∀x∈ra,∀y∈rb,R x y):Fn R tot (out++ra++rb):=by
 refine⟨by simpa using h.perm,List.pairwise_append.mpr ⟨List.pairwise_append.mpr ⟨h.so,h.sa,h.la⟩,h.sb,fun z hz y hy=>?_⟩⟩;rcases List.mem_append.mp hz with hz|hz
 ·exact h.lb z hz y hy
 ·exact k z hz y hy
section
variable{prog:Program}{w:World}{A:Around}{E:Value->Shared->Prop}{s:Shared}{O:KeyOrd}{key:Keyed->O.α}{a0:List Keyed}{κ:SortKind}{a b out:Array Keyed}{ia ib k:Nat}
structure Sg(st st':SortSt):Prop where
 k:kindOf st'=kindOf st
 a:arrOf st'=arrOf st
 p:pendingOf st'=pendingOf st
 f:failedOf st'=failedOf st
end
section
variable{prog:Program}{w:World}{A:Around}{E:Value->Shared->Prop}{s:Shared}{O:KeyOrd}{key:Keyed->O.α}{a0:List Keyed}{κ:SortKind}
def Stk(key:Keyed->O.α) (xs:Array Keyed):Nat->List (Nat×Nat×Nat)->Nat->Prop
 |b,[],e=>b=e
 |b,p::aU,e=>p.1=b/\1<=p.2.1/\Up key xs b (b+p.2.1)/\Stk key xs (b+p.2.1) aU e
theorem Stk.len{xs:Array Keyed}:∀{p:List (Nat×Nat×Nat)}{b e:Nat},Stk key xs b p e->b+p.length<=e
 |[],b,e,h=>by cases h;simp
 |x::p,b,e,h=>by
  have:=h.2.2.2.len;have:=h.2.1;simp only[List.length_cons];lia
theorem Stk.out{xs ys:Array Keyed}{lo hi:Nat}(o:Out lo hi xs ys):∀{p:List (Nat×Nat×Nat)}{b e:Nat},Stk key xs b p e->e<=lo∨hi<=b->Stk key ys b p e
 |[],b,e,h,_=>h
 |x::p,b,e,h,d=>by
  have l:=h.2.2.2.len;exact⟨h.1,h.2.1,h.2.2.1.out o (by lia),h.2.2.2.out o (by lia)⟩
end
end L2
namespace L2
open PySem PySem.SetTable
theorem iw{α:Type}(xs:Array α) (p:Nat) (x:α):(insertAt xs p x).toList=xs.toList.take p++x::xs.toList.drop p:=by
 unfold insertAt;rw[Array.toList_append,Array.toList_push,Array.toList_extract,Array.toList_extract,List.extract_eq_take_drop,List.extract_eq_take_drop];rw[List.drop_zero,Nat.sub_zero,List.take_of_length_le (l:=xs.toList.drop p) (by simp)];simp
theorem fP{xs:Array Nat}{i d:Nat}:xs.getD i d=xs.toList[i]?.getD d:=by
 rw[Array.getElem?_toList]
 by_cases h:i<xs.size
 ·simp[Array.getD,h]
 ·simp[Array.getD,h]
theorem nk{xs:Array Nat}{p x:Nat}(hp:p<=xs.size) (i:Nat):(insertAt xs p x).getD i 0=if i<p then xs.getD i 0 else if i=p then x else xs.getD (i-1) 0:=by
 have hl:(xs.toList.take p).length=p:=by simp;lia
 rw[fP,iw,List.getElem?_append,hl]
 by_cases a:i<p
 ·rw[if_pos a,if_pos a,List.getElem?_take_of_lt a,fP]
 ·rw[if_neg a,if_neg a]
  by_cases b:i=p
  ·rw[if_pos b,b];simp
  ·rw[if_neg b];obtain⟨m,hm⟩:∃m,i-p=m+1:=⟨i-p-1,by lia⟩;rw[hm,List.getElem?_cons_succ,List.getElem?_drop,fP];congr 2;lia
theorem fm{α:Type}(xs:Array α) (p:Nat) (x:α) (hp:p<=xs.size):(insertAt xs p x).size=xs.size+1:=by
 rw[<-Array.length_toList,iw];simp;lia
theorem pM{xs:Array Nat}{p x:Nat}(hp:p<=xs.size) {j:Nat}(h:Occ xs j):Occ (insertAt xs p x) j:=by
 obtain⟨i,hi,e⟩:=h
 by_cases a:i<p
 ·exact⟨i,by rw[fm _ _ _ hp];lia,by rw[nk hp,if_pos a];exact e⟩
 ·exact⟨i+1,by rw[fm _ _ _ hp];lia,by rw[nk hp,if_neg (by lia),if_neg (by lia)];exact e⟩
theorem TB.put{t:SetTable}{hs:List Int}(T:TB t hs) {h:Int}{n:Nat}(f0:¬ Occ t.place (pth t.mask h n).j) (f1:∀m,m<n->Occ t.place (pth t.mask h m).j) (few:t.place.size+1<=t.mask) :
  ∃p,p<=hs.length/\(t.put (pth t.mask h n).j).2=p/\TB (t.put (pth t.mask h n).j).1 (hs.take p++h::hs.drop p)/\(t.put (pth t.mask h n).j).1.led=t.led/\(t.put (pth t.mask h n).j).1.plain=t.plain/\(t.put (pth t.mask h n).j).1.mask=t.mask/\(t.put (pth t.mask h n).j).1.place.size=t.place.size+1:=by
 generalize hj:(pth t.mask h n).j=j at *
 have hjm:j<=t.mask:=by rw[<-hj];exact pJ n
 obtain⟨b1,b2,b3⟩:=n9 T.up j;have sz:=T.sz;have hd:has t.dummies j=false:=by rw[T.dm];rfl
 have e:t.put j=({ t with place:=insertAt t.place (below t.place j) j,dummies:=t.dummies },below t.place j):=by unfold SetTable.put;rw[hd];rfl
 rw[e];dsimp only;generalize hp:below t.place j=p at *
 have b3':∀i,p<=i->i<t.place.size->j<t.place.getD i 0:=fun i h1 h2=>by
  have:=b3 i h1 h2;rcases Nat.lt_or_ge j (t.place.getD i 0)with q|q
  ·exact q
  ·exact absurd ⟨i,h2,by lia⟩ f0
 have isz:=fm t.place p j b1;refine⟨p,by lia,rfl,⟨?_,?_,?_,T.dm,T.pw,by rw[isz];exact few,?_⟩,rfl,rfl,rfl,isz⟩
 ·show(insertAt t.place p j).size=_;rw[isz,List.length_append,List.length_take,List.length_cons,List.length_drop];lia
 ·intro i k hik hk;have hk':k<t.place.size+1:=by rw[<-isz];exact hk
  show(insertAt t.place p j).getD i 0<(insertAt t.place p j).getD k 0;rw[nk b1,nk b1]
  by_cases c1:i<p
  ·rw[if_pos c1]
   by_cases c2:k<p
   ·rw[if_pos c2];exact T.up i k hik (by lia)
   ·rw[if_neg c2]
    by_cases c3:k=p
    ·rw[if_pos c3];exact b2 i c1
    ·rw[if_neg c3];exact T.up i (k-1) (by lia) (by lia)
  ·rw[if_neg c1,if_neg (show ¬ k<p by lia),if_neg (show ¬ k=p by lia)]
   by_cases c3:i=p
   ·rw[if_pos c3];exact b3' _ (by lia) (by lia)
   ·rw[if_neg c3];exact T.up (i-1) (k-1) (by lia) (by lia)
 ·intro i hi;have hi':i<t.place.size+1:=by rw[<-isz];exact hi
  show(insertAt t.place p j).getD i 0<=t.mask;rw[nk b1]
  by_cases c1:i<p
  ·rw[if_pos c1];exact T.le i (by lia)
  ·rw[if_neg c1]
   by_cases c3:i=p
   ·rw[if_pos c3];exact hjm
   ·rw[if_neg c3];exact T.le _ (by lia)
 ·intro i g hg;have hl:(hs.take p).length=p:=by simp;lia
  have old:∀i',hs[i']?=some g->(insertAt t.place p j).getD i 0=t.place.getD i' 0->∃n,(pth t.mask g n).j=(insertAt t.place p j).getD i 0/\∀m,m<n->Occ (insertAt t.place p j) (pth t.mask g m).j:=fun i' h1 h2=>by
   obtain⟨n',a,b⟩:=T.pr i' g h1;exact⟨n',by rw[a,h2],fun m hm=>pM b1 (b m hm)⟩
  rw[List.getElem?_append,hl]at hg
  by_cases c1:i<p
  ·rw[if_pos c1,List.getElem?_take_of_lt c1]at hg;exact old i hg (by rw[nk b1,if_pos c1])
  ·rw[if_neg c1]at hg
   by_cases c3:i=p
   ·rw[c3,Nat.sub_self,List.getElem?_cons_zero]at hg;cases hg;exact⟨n,by show _=(insertAt t.place p j).getD i 0;rw[nk b1,if_neg c1,if_pos c3];exact hj,fun m hm=>pM b1 (f1 m hm)⟩
   ·obtain⟨m,hm⟩:∃m,i-p=m+1:=⟨i-p-1,by lia⟩;rw[hm,List.getElem?_cons_succ,List.getElem?_drop]at hg;exact old _ hg (by rw[nk b1,if_neg c1,if_neg c3];congr 1;lia)
variable{mask:Nat}{h:Int}
abbrev Ow:=Array (Option Nat)
def ocO(ow:Ow) (j:Nat):Prop:=ow.getD j (some 0)≠none
theorem qH{ow:Ow}(hs:ow.size=mask+1) {M:Nat}(hM:ow.getD (rs mask h M).1 (some 0)=none):∀F m n,m<=M->M-m<F->pth mask h n=atR mask (rs mask h m)->(∀l,l<n->ocO ow (pth mask h l).j) ->
  ∃n',layClean.free mask ow F (rs mask h m).1 (rs mask h m).2=some (pth mask h n').j/\ow.getD (pth mask h n').j (some 0)=none/\∀l,l<n'->ocO ow (pth mask h l).j
 |0,m,n,h1,h2,_,_=>by lia
 |F+1,m,n,h1,h2,e,oc=>by
  have lt:=vX (mask:=mask) (h:=h) m;have len:runEnd mask (rs mask h m).1+1-(rs mask h m).1=runEnd mask (rs mask h m).1-(rs mask h m).1+1:=by
   have:(rs mask h m).1<=runEnd mask (rs mask h m).1:=by unfold runEnd;split<;>lia
   lia
  have jq:∀q,q<=runEnd mask (rs mask h m).1-(rs mask h m).1->(pth mask h (n+q)).j=(rs mask h m).1+q:=fun q hq=>by rw[mz e q hq]
  unfold layClean.free;rw[len];cases c:(List.range (runEnd mask (rs mask h m).1-(rs mask h m).1+1)).find? fun k=>(ow.getD ((rs mask h m).1+k) (some 0)).isNone with
  |some k =>
   dsimp only;have hk:=List.mem_range.mp (List.mem_of_find?_eq_some c);have hn:=List.find?_some c;refine⟨n+k,by rw[jq k (by lia)],by rw[jq k (by lia)];simpa using hn,fun l hl=>?_⟩;rcases Nat.lt_or_ge l n with a|a
   ·exact oc l a
   ·obtain⟨q,rfl⟩:∃q,l=n+q:=⟨l-n,by lia⟩;unfold ocO;rw[jq q (by lia)];intro z;obtain⟨as,bs,e1,e2⟩:=(List.find?_eq_some_iff_append.mp c).2;have:q∈as:=by
     have hq:q∈List.range (runEnd mask (rs mask h m).1-(rs mask h m).1+1):=List.mem_range.mpr (by lia);have srt:(as++k::bs).Pairwise (·<·):=by rw[<-e1];exact List.pairwise_lt_range
     rw[e1]at hq;rcases List.mem_append.mp hq with r|r
     ·exact r
     ·rw[List.pairwise_append]at srt;rcases List.mem_cons.mp r with r|r
      ·lia
      ·have:=(List.pairwise_cons.mp srt.2.1).1 q r;lia
    have:=e2 q this;rw[z]at this;simp at this
  |none =>
   dsimp only;have all:=List.find?_eq_none.mp c;have ne:m≠M:=fun z=>by
    subst z;have:=all 0 (List.mem_range.mpr (by lia));rw[Nat.add_zero,hM]at this;simp at this
   show ∃n',layClean.free mask ow F (rs mask h (m+1)).1 (rs mask h (m+1)).2=_/\_;refine qH hs hM F (m+1) (n+(runEnd mask (rs mask h m).1-(rs mask h m).1)+1) (by lia) (by lia) ?_ fun l hl=>?_
   ·show pA mask (pth mask h (n+_))=_;rw[mz e _ (Nat.le_refl _)];unfold pA;rw[if_neg (by simp)];rfl
   ·rcases Nat.lt_or_ge l n with a|a
    ·exact oc l a
    ·obtain⟨q,rfl⟩:∃q,l=n+q:=⟨l-n,by lia⟩;unfold ocO;rw[jq q (by lia)];intro z;have:=all q (List.mem_range.mpr (by lia));rw[z]at this;simp at this
def lv(mask:Nat) (ow:Ow):List (Nat×Nat):=(List.range (mask+1)).filterMap fun j=>(ow.getD j none).map (j,·)
theorem pq{ow:Ow}{j:Nat}(hj:j<ow.size) (a b:Option Nat):ow.getD j a=ow.getD j b:=by simp[Array.getD,hj]
theorem yw{ow:Ow}(hs:ow.size=mask+1) {s k:Nat}(hl:s<=mask) (hn:ow.getD s none=none):(lv mask (ow.setIfInBounds s (some k))).Perm ((s,k)::lv mask ow):=by
 unfold lv;have sp:List.range (mask+1)=List.range s++s::(List.range' (s+1) (mask-s)):=by
  rw[List.range_eq_range',List.range_eq_range',show mask+1=s+(1+(mask-s))by lia,<-List.range'_append_1,<-List.range'_append_1];simp[Nat.add_comm]
 have same:∀l:List Nat,s∉l->(l.filterMap fun j=>((ow.setIfInBounds s (some k)).getD j none).map (j,·))=l.filterMap fun j=>(ow.getD j none).map (j,·):=fun l hl=>by
  induction l with
  |nil=>rfl
  |cons j l ih =>
   have this:s≠j:=fun z=>hl (z▸.head _);rw[List.filterMap_cons,List.filterMap_cons,ih fun z=>hl (.tail _ z)];simp only[Array.getD_eq_getD_getElem?,Array.getElem?_setIfInBounds,if_neg this]
 rw[sp,List.filterMap_append,List.filterMap_append,List.filterMap_cons,List.filterMap_cons,hn,same _ (by simp),same _ (fun z=>by obtain⟨x,_,z⟩:=List.mem_range'.mp z;lia)];have:(ow.setIfInBounds s (some k)).getD s none=some k:=by simp[Array.getD_eq_getD_getElem?,show s<ow.size by lia]
 rw[this];simp only[Option.map_some,Option.map_none];exact List.perm_middle
structure LC(mask:Nat) (hs:List Int) (ow:Ow) (k:Nat):Prop where
 sz:ow.size=mask+1
 perm:((lv mask ow).map (·.2)).Perm (List.range k)
 pr:∀j i h,ow.getD j none=some i->hs[i]?=some h->∃n,(pth mask h n).j=j/\∀m,m<n->ocO ow (pth mask h m).j
theorem xg{ow:Ow}(hs:ow.size=mask+1) {j i:Nat}(e:ow.getD j none=some i):(j,i)∈lv mask ow:=by
 have hj:j<ow.size:=by
  rcases Nat.lt_or_ge j ow.size with q|q
  ·exact q
  ·simp[Array.getD,show ¬ j<ow.size by lia]at e
 exact List.mem_filterMap.mpr ⟨j,List.mem_range.mpr (by lia),by rw[e];rfl⟩
theorem vm{ow:Ow}(hs:ow.size=mask+1) (few:(lv mask ow).length<=mask):∃j,j<=mask/\ow.getD j none=none:=by
 refine Classical.byContradiction fun c=>?_;have all:∀j∈List.range (mask+1),∃i,ow.getD j none=some i:=fun j hj=>by
  cases q:ow.getD j none with
  |none=>exact absurd ⟨j,by have:=List.mem_range.mp hj;lia,q⟩ c
  |some i=>exact⟨i,rfl⟩
 have:∀l:List Nat,(∀j∈l,∃i,ow.getD j none=some i)->(l.filterMap fun j=>(ow.getD j none).map (j,·)).length=l.length:=fun l=>by
  induction l with
  |nil=>exact fun _=>rfl
  |cons j l ih =>
   intro hl;obtain⟨i,e⟩:=hl j (.head _);rw[List.filterMap_cons,e];simp only[Option.map_some,List.length_cons];rw[ih fun x hx=>hl x (.tail _ hx)]
 have q:=this _ all;rw[List.length_range]at q;unfold lv at few
 lia
abbrev lcF(mask:Nat) (acc:Option (Ow×Nat)) (h:Int):Option (Ow×Nat):=do
 let(owner,k) <-acc
 let j <-layClean.free mask owner (turns mask) (bits h % (mask+1)) (bits h)
 pure (owner.setIfInBounds j (some k),k+1)
theorem vU{e:Nat}(hk:mask+1=2 ^ e) {hs:List Int}(few:hs.length<=mask):∀(todo done:List Int) (ow:Ow),hs=done++todo->LC mask hs ow done.length->∃ow',todo.foldl (lcF mask) (some (ow,done.length))=some (ow',hs.length)/\LC mask hs ow' hs.length
 |[],done,ow,h0,L=>⟨ow,by rw[h0];simp,by rw[h0];simpa[h0]using L⟩
 |h::todo,done,ow,h0,L=>by
  have ll:(lv mask ow).length=done.length:=by have:=L.perm.length_eq;simpa using this
  have lt:done.length<hs.length:=by rw[h0];simp
  obtain⟨j,hj,nj⟩:=vm L.sz (by lia);obtain⟨m,_,hm,_,em,_⟩:=pP (mask:=mask) (h:=h) hk hj;obtain⟨n',f1,f2,f3⟩:=qH (mask:=mask) (h:=h) (ow:=ow) L.sz (M:=m) (by rw[em,pq (by rw[L.sz];lia) (some 0) none];exact nj) (turns mask) 0 0 (Nat.zero_le _) (by unfold turns;lia) rfl (fun l hl=>by lia);have sl:=pJ (mask:=mask) (h:=h) n';have st:lcF mask (some (ow,done.length)) h=some (ow.setIfInBounds (pth mask h n').j (some done.length),done.length+1):=by
   show(layClean.free mask ow (turns mask) (bits h % (mask+1)) (bits h) >>= fun j=>pure (ow.setIfInBounds j (some done.length),done.length+1))=_;have:layClean.free mask ow (turns mask) (bits h % (mask+1)) (bits h)=some (pth mask h n').j:=f1;rw[this];rfl
  rw[List.foldl_cons,st];generalize hsl:(pth mask h n').j=sl' at *
  have f2':ow.getD sl' none=none:=by rw[<-f2];exact pq (by rw[L.sz];lia) _ _
  have oc':∀j,ocO ow j->ocO (ow.setIfInBounds sl' (some done.length)) j:=fun j hj z=>by
   unfold ocO at hj;simp only[Array.getD_eq_getD_getElem?,Array.getElem?_setIfInBounds]at z hj
   split at z
   ·split at z<;>simp at z
   ·exact hj z
  have:=vU hk few todo (done++[h]) (ow.setIfInBounds sl' (some done.length)) (by rw[h0];simp) ⟨by rw[Array.size_setIfInBounds];exact L.sz,?_,?_⟩
  ·rw[List.length_append,List.length_singleton]at this;exact this
  ·rw[List.length_append,List.length_singleton,List.range_succ];refine((yw L.sz sl f2').map _).trans ?_;rw[List.map_cons];exact(List.Perm.cons _ L.perm).trans (List.perm_append_singleton _ _).symm
  ·intro j i g hg hi
   by_cases c:sl'=j
   ·have:i=done.length:=by
     simp only[Array.getD_eq_getD_getElem?,Array.getElem?_setIfInBounds,if_pos c]at hg
     split at hg
     ·simpa using hg.symm
     ·simp at hg
    subst this;have:g=h:=by rw[h0,List.getElem?_append_right (Nat.le_refl _),Nat.sub_self,List.getElem?_cons_zero]at hi;exact(Option.some.inj hi).symm
    subst this;exact⟨n',by rw[hsl];exact c,fun m hm=>oc' _ (f3 m hm)⟩
   ·have hg':ow.getD j none=some i:=by
     simp only[Array.getD_eq_getD_getElem?,Array.getElem?_setIfInBounds,if_neg c]at hg ⊢;exact hg
    obtain⟨n,a,b⟩:=L.pr j i g hg' hi;exact⟨n,a,fun m hm=>oc' _ (b m hm)⟩
theorem nG(n:Nat):∀F k,n<2 ^ (k+F)->∃e,k<=e/\sizeAbove.go n F (2 ^ k)=2 ^ e/\n<2 ^ e/\(e=k∨2 ^ e<=2*n)
 |0,k,h=>⟨k,Nat.le_refl _,rfl,h,.inl rfl⟩
 |F+1,k,h=>by
  unfold sizeAbove.go
  by_cases c:2 ^ k<=n
  ·rw[if_pos c,show 2 ^ k*2=2 ^ (k+1)from(Nat.pow_succ ..).symm];obtain⟨e,h1,h2,h3,h4⟩:=nG n F (k+1) (by rw[show k+1+F=k+(F+1)by lia];exact h);refine⟨e,by lia,h2,h3,.inr ?_⟩;rcases h4 with h4|h4
   ·rw[h4,Nat.pow_succ];lia
   ·exact h4
  ·rw[if_neg c];exact⟨k,Nat.le_refl _,rfl,by lia,.inl rfl⟩
theorem n3{n:Nat}(h:n<2 ^ 60):∃e,3<=e/\sizeAbove n=2 ^ e/\n<2 ^ e/\(2 ^ e<=8∨2 ^ e<=2*n):=by
 obtain⟨e,h1,h2,h3,h4⟩:=nG n 64 3 (Nat.lt_trans h (by decide));exact⟨e,h1,h2,h3,h4.imp (fun z=>by rw[z];decide) id⟩
variable{mask:Nat}
theorem z3(ow:Ow):((lv mask ow).map (·.1)).Pairwise (·<·):=by
 unfold lv;rw[List.map_filterMap,List.pairwise_filterMap];refine List.pairwise_lt_range.imp fun {a b} hab x hx y hy=>?_;cases qa:ow.getD a none with
 |none=>rw[qa]at hx;cases hx
 |some i =>
  cases qb:ow.getD b none with
  |none=>rw[qb]at hy;cases hy
  |some k =>
   rw[qa]at hx;rw[qb]at hy;cases hx;cases hy;exact hab
theorem we{ow:Ow}{j i:Nat}(h:(j,i)∈lv mask ow):j<=mask/\ow.getD j none=some i:=by
 obtain⟨a,ha,e⟩:=List.mem_filterMap.mp h;have:=List.mem_range.mp ha;cases q:ow.getD a none with
 |none=>rw[q]at e;cases e
 |some k=>rw[q]at e;cases e;exact⟨by lia,q⟩
theorem u3{t:SetTable}{hs:List Int}{wanted:Nat}(h1:hs.length<=wanted) (h2:wanted<2 ^ 60) (h3:0<wanted):∃t' order,t.relaid hs.toArray wanted=some (t',order)/\t'.led=t.led/\t'.plain=t.plain/\t'.mask+1=sizeAbove wanted/\order.toList.Perm (List.range hs.length)/\t'.place.size=hs.length/\TB t' (order.toList.map fun k=>hs.getD k 0):=by
 obtain⟨e,e3,es,el,_⟩:=n3 h2;have pos:0<2 ^ e:=Nat.two_pow_pos e;generalize hm:sizeAbove wanted-1=mask;have hk:mask+1=2 ^ e:=by lia
 have L0:LC mask hs (Array.replicate (mask+1) none) 0:=by
  have z:∀j,(Array.replicate (mask+1) (none:Option Nat)).getD j none=none:=fun j=>by
   rw[Array.getD_eq_getD_getElem?,Array.getElem?_replicate];split<;>rfl
  refine⟨by simp,?_,fun j i h q _=>by rw[z]at q;cases q⟩;have:lv mask (Array.replicate (mask+1) none)=[]:=by
   unfold lv;rw[List.filterMap_eq_nil_iff];intro j _;rw[z];rfl
  rw[this];exact .refl _
 obtain⟨ow,f,L⟩:=vU hk (hs:=hs) (by lia) hs [] _ rfl L0;have hl:layClean mask hs.toArray=some ow:=by
  unfold layClean;rw[<-Array.foldl_toList];show(hs.foldl (lcF mask) (some (Array.replicate (mask+1) none,0))).map (·.1)=_;rw[show(0:Nat)=([]:List Int).length from rfl,f];rfl
 have hr:t.relaid hs.toArray wanted=some ({ mask,place:=((lv mask ow).map (·.1)).toArray,dummies:=#[],finger:=t.finger,led:=t.led,moves:=t.movedTo mask,plain:=t.plain },((lv mask ow).map (·.2)).toArray):=by
  unfold relaid laid;rw[hm,hl];rfl
 have ll:(lv mask ow).length=hs.length:=by have:=L.perm.length_eq;simpa using this
 have gl:∀i,((lv mask ow).map (·.1)).toArray.getD i 0=((lv mask ow)[i]?.map (·.1)).getD 0:=fun i=>by rw[fP];simp
 have psz:((lv mask ow).map (·.1)).toArray.size=hs.length:=by simp[ll]
 have occ:∀j,j<=mask->ocO ow j->Occ ((lv mask ow).map (·.1)).toArray j:=fun j hj q=>by
  cases c:ow.getD j none with
  |none=>exact absurd (by rw[pq (by rw[L.sz];lia) (some 0) none];exact c) q
  |some i =>
   obtain⟨l,hl⟩:=List.mem_iff_getElem?.mp (xg L.sz c);exact⟨l,by rw[psz,<-ll];exact(List.getElem?_eq_some_iff.mp hl).1,by rw[gl,hl];rfl⟩
 refine⟨_,_,hr,rfl,rfl,by show mask+1=_;lia,by simpa using L.perm,psz,⟨by simp,?_,?_,rfl,⟨e,e3,hk⟩,by show((lv mask ow).map (·.1)).toArray.size<=mask;lia,?_⟩⟩
 ·intro i j hij hj;rw[psz]at hj;have:=List.pairwise_iff_getElem.mp (z3 (mask:=mask) ow) i j (by simp;lia) (by simp;lia) hij;show((lv mask ow).map (·.1)).toArray.getD i 0<((lv mask ow).map (·.1)).toArray.getD j 0;rw[gl,gl,List.getElem?_eq_getElem (by lia),List.getElem?_eq_getElem (by lia)];simpa using this
 ·intro i hi;rw[psz]at hi;show((lv mask ow).map (·.1)).toArray.getD i 0<=mask;rw[gl,List.getElem?_eq_getElem (by lia)];exact(we (List.getElem_mem (by lia))).1
 ·intro i h hi;show ∃n,(pth mask h n).j=((lv mask ow).map (·.1)).toArray.getD i 0/\∀m,m<n->Occ ((lv mask ow).map (·.1)).toArray (pth mask h m).j;simp only[List.getElem?_map]at hi;cases c:(lv mask ow)[i]? with
  |none=>rw[c]at hi;cases hi
  |some jk =>
   obtain⟨j,k⟩:=jk;rw[c]at hi;have mem:=List.mem_of_getElem? c;have hk':k<hs.length:=List.mem_range.mp (L.perm.mem_iff.mp (List.mem_map.mpr ⟨_,mem,rfl⟩));have hh:hs[k]?=some h:=by
    have:hs.getD k 0=h:=by simpa using hi
    rw[List.getElem?_eq_getElem hk',<-this];simp[hk']
   obtain⟨n,a,b⟩:=L.pr j k h (we mem).2 hh;exact⟨n,by rw[gl,c];exact a,fun m hm=>occ _ (pJ m) (b m hm)⟩
end L2
namespace L2
open PySem PySem.SetTable PySem.SeqAt
structure TK(prog:Program) (w:World) (τ:Type) where
 is:Heap->τ->Value->Prop
 hash:τ->Int
 room:Around->Prop
 pyHash:∀{A:Around} {E:Value->Shared->Prop} {s:Shared} {x:τ} {v:Value} {Q:Int->Shared->Prop},room A->is s.heap x v->(∀t,s.toks<=t->Q (hash x) { s with toks:=t })->wpAny (model prog w) A (PySem.pyHash v) Q E s
 eqB:∀{A:Around} {s:Shared} {x y:τ} {v u:Value},room A->is s.heap x v->is s.heap y u->∃b:Bool,(b=true↔x=y)/\EqAt A s v u b
 quiet:∀{A:Around} {E:Value->Shared->Prop} {s:Shared} {x:τ} {v:Value} {Q:Bool->Shared->Prop},room A->is s.heap x v->Q true s->wpAny (model prog w) A (eqIsQuiet 8 v) Q E s
 noCls:∀{A:Around} {E:Value->Shared->Prop} {s:Shared} {x:τ} {v:Value} {Q:Bool->Shared->Prop},room A->is s.heap x v->Q false s->wpAny (model prog w) A (ofAClassStatement 8 v) Q E s
 byV:∀{A:Around} {E:Value->Shared->Prop} {s:Shared} {x:τ} {v:Value} {Q:Bool->Shared->Prop},room A->is s.heap x v->(∀b,Q b s)->wpAny (model prog w) A (hashByValue 8 v) Q E s
 ref:∀{h:Heap} {x:τ} {v:Value},is h x v->∃a,v=.ref a
variable{prog:Program}{w:World}{τ:Type}{κ:TK prog w τ}{A:Around}{E:Value->Shared->Prop}{s:Shared}
structure Els(κ:TK prog w τ) (h:Heap) (es:Array (Int×Value)) (zs:List τ):Prop where
 len:es.size=zs.length
 at_:∀(i:Nat) z,zs[i]?=some z->∃v,es[i]?=some (κ.hash z,v)/\κ.is h z v
def cD(es:Array (Int×Value)):List Int:=es.toList.map (·.1)
theorem Els.of{h:Heap}{es:Array (Int×Value)}{zs:List τ}(L:Els κ h es zs) {i:Nat}{e:Int×Value}(g:es[i]?=some e):∃z,zs[i]?=some z/\e.1=κ.hash z/\κ.is h z e.2:=by
 have hi:i<zs.length:=by rw[<-L.len];exact(Array.getElem?_eq_some_iff.mp g).1
 obtain⟨v,g',q⟩:=L.at_ i zs[i] (List.getElem?_eq_getElem hi);rw[g]at g';cases g';exact⟨_,List.getElem?_eq_getElem hi,rfl,q⟩
theorem yP{x:τ}{v:Value}(hr:κ.room A) (hx:κ.is s.heap x v) {Q:Bool->Shared->Prop}(h:Q false s):∀(l:List Value),(∀u∈l,∃y,κ.is s.heap y u)->wpAny (model prog w) A (searchCouldBeSeen v l) Q E s:=by
 intro l hl;unfold searchCouldBeSeen;refine wpAny_bind ?_;refine wpAny_forIn_list _ (fun aU b s'=>s'=s/\b=(none,())/\∀u∈aU,∃y,κ.is s.heap y u) _ ?_ ?_ _ _ ⟨rfl,rfl,hl⟩
 ·rintro u aU b s' ⟨rfl,rfl,hr'⟩;obtain⟨y,hy⟩:=hr' u (.head _);obtain⟨a,rfl⟩:=κ.ref hx;obtain⟨c,rfl⟩:=κ.ref hy;have rest':∀u∈aU,∃y,κ.is s'.heap y u:=fun u hu=>hr' u (.tail _ hu);dsimp only
  split
  ·exact wpAny_pure ⟨rfl,rfl,rest'⟩
  ·refine wpAny_bind (κ.quiet hr hx ?_);simp only[Bool.not_true,Bool.false_eq_true,if_false];refine wpAny_bind (κ.quiet hr hy ?_);simp only[Bool.not_true,Bool.false_eq_true,if_false];refine wpAny_bind (κ.noCls hr hx ?_);simp only[Bool.false_eq_true,if_false];refine wpAny_bind (κ.noCls hr hy ?_);simp only[Bool.false_eq_true,if_false];exact wpAny_pure ⟨rfl,rfl,rest'⟩
 ·rintro b s' ⟨rfl,rfl,_⟩;exact wpAny_pure h
theorem xX{a:Addr}{o:Obj}{es:Array (Int×Value)}{ep:Nat}{t:SetTable}{zs:List τ}{x:τ}{v:Value}{n0:Nat}(hr:κ.room A) (hx:κ.is s.heap x v) (ho:s.heap.get? a=some o) (hd:o.data=.set es ep t) (L:Els κ s.heap es zs) (T:TB t (cD es))
  (f0:¬ Occ t.place (pth t.mask (κ.hash x) n0).j) (f1:∀m,m<n0->Occ t.place (pth t.mask (κ.hash x) m).j) {Q:SetFound->Shared->Prop} (hy:x∈zs->∀i,Q (.there i) s) (hn:x∉zs->Q (.free (pth t.mask (κ.hash x) n0).j false) s) :
  ∀F n stand,stand.getD (t.probeStart (κ.hash x))=pth t.mask (κ.hash x) n->n<=n0->n0-n<F->n0<10*turns t.mask->(∀l,l<n->∀i,i<t.place.size->t.place.getD i 0=(pth t.mask (κ.hash x) l).j->zs[i]?≠some x)->wpAny (model prog w) A (setSearchFrom a v (κ.hash x) true F stand) Q E s:=by
 have lens:(cD es).length=es.size:=by simp[cD]
 have fit:t.fits es.size=true:=by
  unfold SetTable.fits fill;rw[T.dm,T.sz,lens];have:=T.few;rw[T.sz,lens]at this;simpa using this
 have gw:t.gaveWay=false:=by
  obtain⟨k,k3,hk⟩:=T.pw;unfold gaveWay;obtain⟨m,rfl⟩:∃m,k=m+1:=⟨k-1,by lia⟩;rw[Nat.pow_succ]at hk;have:t.mask % 2=1:=by lia
  rw[this];rfl
 have uniq:∀{i k},i<t.place.size->k<t.place.size->t.place.getD i 0=t.place.getD k 0->i=k:=fun {i k} hi hk e=>by
  rcases Nat.lt_trichotomy i k with q|q|q
  ·have:=T.up i k q hk;lia
  ·exact q
  ·have:=T.up k i q hi;lia
 intro F
 induction F with
 |zero=>intro n stand _ _ h3;lia
 |succ F ih =>
  intro n stand e h2 h3 h4 h5;unfold setSearchFrom;refine wpAny_bind (wpAny_setState_of ho hd fit ?_);dsimp only;rw[gw];simp only[Bool.false_eq_true,if_false];unfold SetTable.probe;rw[e];obtain⟨ha,hha⟩:∃ha:Nat->Int,ha=fun i=>(es[i]?.map (·.1)).getD 0:=⟨_,rfl⟩;obtain⟨m,m1,m2,m3,m4⟩:=nK T f0 f1 (ha:=ha) (10*turns t.mask) n h2 (by lia);have hat:∀(i:Nat) z,zs[i]?=some z->ha i=κ.hash z:=fun i z hz=>by
   obtain⟨u,g,_⟩:=L.at_ i z hz;rw[hha];simp[g]
  have skip:∀l,l<m->∀i,i<t.place.size->t.place.getD i 0=(pth t.mask (κ.hash x) l).j->zs[i]?≠some x:=fun l hl i hi he hz=>by
   rcases Nat.lt_or_ge l n with q|q
   ·exact h5 l q i hi he hz
   ·obtain⟨k,k1,k2,k3⟩:=m3 l q hl;obtain rfl:=uniq hi k1 (he.trans k2.symm);exact k3 (hat _ _ hz)
  rcases m4 with⟨rfl,em⟩|⟨mlt,i,i1,i2,i3,em⟩
  ·have em2:∀f:Nat->Int,f=ha->probe.go t f (κ.hash x) (10*turns t.mask) (pth t.mask (κ.hash x) n)=probe.go t ha (κ.hash x) (10*turns t.mask) (pth t.mask (κ.hash x) n):=fun f hf=>by rw[hf]
   rw[em2 _ ?_,em]
   rotate_left
   ·rw[hha];rfl
   dsimp only;refine wpAny_pure (hn fun hz=>?_);obtain⟨i,hi⟩:=List.mem_iff_getElem?.mp hz;have hi':i<t.place.size:=by rw[T.sz,lens,L.len];exact(List.getElem?_eq_some_iff.mp hi).1
   obtain⟨u,g,_⟩:=L.at_ i x hi;obtain⟨nn,a1,a2⟩:=T.pr i (κ.hash x) (by rw[cD,List.getElem?_map,Array.getElem?_toList,g];rfl);have lt:nn<m:=by
    rcases Nat.lt_trichotomy nn m with q|q|q
    ·exact q
    ·subst q;exact absurd ⟨i,hi',a1.symm⟩ f0
    ·exact absurd (a2 m q) f0
   exact skip nn lt i hi' a1.symm hi
  ·have em2:∀f:Nat->Int,f=ha->probe.go t f (κ.hash x) (10*turns t.mask) (pth t.mask (κ.hash x) n)=probe.go t ha (κ.hash x) (10*turns t.mask) (pth t.mask (κ.hash x) n):=fun f hf=>by rw[hf]
   rw[em2 _ ?_,em]
   rotate_left
   ·rw[hha];rfl
   dsimp only;have iz:i<zs.length:=by rw[<-L.len,<-lens,<-T.sz];exact i1
   obtain⟨u,gu,hu⟩:=L.at_ i zs[i] (List.getElem?_eq_getElem iz);have main:wpAny (model prog w) A (do
     let some (_,y):=es[i]?|unsupported "internal:set-entry"
     let equal <-holding [y] (eqBool y v)
     let(es',_,t') <-setState a
     if true&&equal then return .there none
     let some same:=t'.sameMemory t.moves t.mask|unsupported "set.changed-during-lookup:is-the-new-block-at-the-old-address"
     let still <-match (if same then t'.slot (pth t.mask (κ.hash x) m).j else .empty)with
      |.live i'=>match es'[i']? with
       |some (_,y')=>do pure (if <-isSame y' y then some i' else none)
       |none=>pure none
      |_=>pure none
     match still with
     |none=>rule "set.search.anew";setSearchFrom a v (κ.hash x) true F none
     |some i'=>if equal then return .there (some i')else setSearchFrom a v (κ.hash x) true F (some (pth t.mask (κ.hash x) (m+1)))) Q E s:=by
    rw[gu];dsimp only;obtain⟨b,hb,eq⟩:=κ.eqB hr hu hx;refine wpAny_bind (wpAny_holding (eq prog w _ _ ?_));refine wpAny_bind (wpAny_setState_of ho hd fit ?_);dsimp only;cases b with
    |true =>
     have:zs[i]=x:=hb.mp rfl;exact wpAny_pure (hy (this▸List.getElem_mem iz) _)
    |false =>
     have ne:zs[i]≠x:=fun z=>by have:=hb.mpr z;cases this
     simp only[Bool.and_false,Bool.false_eq_true,if_false];rw[show t.sameMemory t.moves t.mask=some true by simp[sameMemory]];dsimp only;rw[lT T.up i1 i2];simp only[if_true];rw[gu];dsimp only;obtain⟨c,rfl⟩:=κ.ref hu;refine wpAny_bind (wpAny_isSame_ref_self (wpAny_bind (wpAny_pure ?_)));simp only[if_true];refine ih (m+1) _ rfl mlt (by lia) h4 fun l hl k k1 k2=>?_;rcases Nat.lt_or_ge l m with q|q
     ·exact skip l q k k1 k2
     ·obtain rfl:l=m:=by lia
      obtain rfl:=uniq k1 i1 (k2.trans i2.symm);rw[List.getElem?_eq_getElem iz];intro z;exact ne (Option.some.inj z)
   by_cases led:t.led=true
   ·rw[led];simp only[Bool.not_true,Bool.false_eq_true,if_false];exact main
   ·rw[show t.led=false by simpa using led];simp only[Bool.not_false,if_true];refine wpAny_bind (yP hr hx ?_ _ fun u hu=>?_)
    ·simp only[Bool.false_eq_true,if_false];exact main
    ·obtain⟨e,he,rfl⟩:=List.mem_map.mp hu;have he':e∈es:=(Array.mem_filter.mp (Array.mem_def.mpr he)).1;obtain⟨k,hk,ek⟩:=Array.mem_iff_getElem.mp he';obtain⟨z,_,_,q⟩:=L.of (i:=k) (e:=e) (by rw[Array.getElem?_eq_getElem hk,ek]);exact⟨z,q⟩
variable{prog:Program}{w:World}{τ:Type}{κ:TK prog w τ}{A:Around}{E:Value->Shared->Prop}{s:Shared}
structure Au(κ:TK prog w τ) (h:Heap) (a:Addr) (o:Obj) (es:Array (Int×Value)) (ep:Nat) (t:SetTable) (zs:List τ):Prop where
 get:h.get? a=some o
 ex:o.ExactSet
 data:o.data=.set es ep t
 el:Els κ h es zs
 nd:zs.Nodup
 tb:TB t (cD es)
 led:t.led=!w.params.followText "set-order"
 roomy:es.size*5<t.mask*3
 small:t.mask<=7∨t.mask<=8*es.size
def iI(κ:TK prog w τ) (h:Heap) (a:Addr) (xs:List τ):Prop:=∃o es ep t zs,Au κ h a o es ep t zs/\zs.Perm xs
theorem Els.keep{h h':Heap}{es:Array (Int×Value)}{zs:List τ}(L:Els κ h es zs) (k:∀z v,κ.is h z v->κ.is h' z v):Els κ h' es zs:=⟨L.len,fun i z hz=>by obtain⟨v,g,q⟩:=L.at_ i z hz;exact⟨v,g,k z v q⟩⟩
theorem iI.mono{h h':Heap}{a:Addr}{xs:List τ}(S:iI κ h a xs) (k:∀o,h.get? a=some o->h'.get? a=some o) (k2:∀z v,κ.is h z v->κ.is h' z v):iI κ h' a xs:=by
 obtain⟨o,es,ep,t,zs,q,p⟩:=S;exact⟨o,es,ep,t,zs,⟨k _ q.get,q.ex,q.data,q.el.keep k2,q.nd,q.tb,q.led,q.roomy,q.small⟩,p⟩
theorem pK{h:Heap}{es:Array (Int×Value)}{zs:List τ}{x:τ}{v:Value}{p:Nat}(L:Els κ h es zs) (hx:κ.is h x v) (hp:p<=zs.length):Els κ h (insertAt es p (κ.hash x,v)) (zs.take p++x::zs.drop p):=by
 have lt:(es.toList.take p).length=p:=by rw[List.length_take,Array.length_toList,L.len];lia
 have lz:(zs.take p).length=p:=by rw[List.length_take];lia
 refine⟨by rw[fm _ _ _ (by rw[L.len];exact hp),List.length_append,List.length_cons,lz,List.length_drop,L.len];lia,fun i z hz=>?_⟩;have gi:(insertAt es p (κ.hash x,v))[i]?=(es.toList.take p++(κ.hash x,v)::es.toList.drop p)[i]?:=by rw[<-iw,Array.getElem?_toList]
 rw[gi];rw[List.getElem?_append,lz]at hz;rw[List.getElem?_append,lt]
 by_cases c1:i<p
 ·rw[if_pos c1,List.getElem?_take_of_lt c1]at hz;rw[if_pos c1,List.getElem?_take_of_lt c1,Array.getElem?_toList];exact L.at_ i z hz
 ·rw[if_neg c1]at hz ⊢
  by_cases c2:i=p
  ·rw[c2,Nat.sub_self,List.getElem?_cons_zero]at hz ⊢;cases hz;exact⟨v,rfl,hx⟩
  ·obtain⟨m,hm⟩:∃m,i-p=m+1:=⟨i-p-1,by lia⟩;rw[hm,List.getElem?_cons_succ,List.getElem?_drop]at hz ⊢;rw[Array.getElem?_toList];exact L.at_ _ z hz
theorem TB.plain{t:SetTable}{hs:List Int}(T:TB t hs) (b:Bool):TB { t with plain:=b } hs:=⟨T.sz,T.up,T.le,T.dm,T.pw,T.few,T.pr⟩
theorem TB.fit{t:SetTable}{es:Array (Int×Value)}(T:TB t (cD es)):t.fits es.size=true:=by
 have lens:(cD es).length=es.size:=by simp[cD]
 unfold SetTable.fits fill;rw[T.dm,T.sz,lens];have:=T.few;rw[T.sz,lens]at this;simpa using this
theorem qj{h:Heap}{a:Addr}{o:Obj}{es:Array (Int×Value)}{ep:Nat}{t:SetTable}(ho:h.get? a=some o) (hd:o.data=.set es ep t) (es':Array (Int×Value)) (t':SetTable) :
  (h.update a (Obj.putSet es' t')).get? a=some { o with data:=.set es' (ep+1) t' }:=by
 have:=Heap.get?_update_self (Obj.putSet es' t') ho (by rw[putSet_of es' t' hd];rfl);rw[putSet_of es' t' hd]at this;exact this
theorem nS{es:Array (Int×Value)}:∀{l:List Nat},(∀k∈l,k<es.size)->(l.filterMap fun k=>es[k]?)=l.map fun k=>es.getD k (0,.none)
 |[],_=>rfl
 |k::l,h=>by
  have hk:=h k (.head _);rw[List.filterMap_cons,Array.getElem?_eq_getElem hk,List.map_cons,nS fun j hj=>h j (.tail _ hj)];simp[Array.getD,hk]
theorem mP{l:List τ}{k:Nat}(h:k<l.length) (d:τ):l[k]?=some (l.getD k d):=by rw[List.getD_eq_getElem?_getD,List.getElem?_eq_getElem h];rfl
theorem jV(l:List τ) (d:τ):(List.range l.length).map (fun k=>l.getD k d)=l:=by
 refine List.ext_getElem? fun i=>?_;rw[List.getElem?_map];rcases Nat.lt_or_ge i l.length with q|q
 ·rw[List.getElem?_range q,mP q d];rfl
 ·rw[List.getElem?_eq_none (by rw[List.length_range];exact q),List.getElem?_eq_none q];rfl
theorem AI{a:Addr}{xs:List τ}{x:τ}{v:Value}{Q:Bool->Shared->Prop}(hr:κ.room A) (hx:κ.is s.heap x v) (hS:iI κ s.heap a xs) (few:xs.length<1000) (kp:∀h' z v,Heap.SameBut a s.heap h'->κ.is s.heap z v->κ.is h' z v)
  (h:∀b h',Heap.SameBut a s.heap h'->(x∈xs->iI κ h' a xs)->(x∉xs->iI κ h' a (xs++[x]))->Q b { s with heap:=h' }):wpAny (model prog w) A (setAddHashed a v (κ.hash x)) Q E s:=by
 obtain⟨o,es,ep,t,zs,q,pm⟩:=hS;have lens:(cD es).length=es.size:=by simp[cD]
 have lz:es.size=xs.length:=by rw[q.el.len,pm.length_eq]
 obtain⟨n0,n1,f0,f1⟩:=q.tb.free (κ.hash x);have hm:t.mask<=8000:=by have:=q.small;lia
 obtain⟨r,rfl⟩:=κ.ref hx;have es0:s={ s with heap:=s.heap }:=by cases s;rfl
 unfold setAddHashed setAddHashedIn;refine wpAny_holding (wpAny_bind (wpAny_setState_of q.get q.data q.tb.fit ?_));dsimp only;rw[show byScan (.ref r) es=false by unfold byScan;rfl];simp only[Bool.false_eq_true,if_false];unfold setSearch;refine wpAny_bind (xX hr hx q.get q.data q.el q.tb f0 f1 (fun hz i=>?_) (fun hz=>?_) 100000 0 none rfl (Nat.zero_le _) (by lia) (by unfold turns;lia) (fun l hl=>by lia))
 ·refine wpAny_pure ?_;rw[es0];exact h _ s.heap (Heap.SameBut.refl a s.heap) (fun _=>⟨o,es,ep,t,zs,q,pm⟩) fun hn=>absurd (pm.mem_iff.mp hz) hn
 ·have hn:x∉xs:=fun z=>hz (pm.mem_iff.mpr z);have fl:t.place.size+1<=t.mask:=by
   have:=q.roomy;have:=q.tb.sz;obtain⟨k,k3,hk⟩:=q.tb.pw;have:2 ^ 3<=2 ^ k:=Nat.pow_le_pow_right (by decide) k3
   lia
  obtain⟨p,hp,e2,T1,l1,_,m1,z1⟩:=q.tb.put f0 f1 fl;rw[lens]at hp;dsimp only;refine wpAny_bind (wpAny_setState_of q.get q.data q.tb.fit ?_);dsimp only;generalize ht:t.put (pth t.mask (κ.hash x) n0).j=tp at *
  obtain⟨t1,p'⟩:=tp;dsimp only at e2 T1 l1 m1 z1 ⊢;subst e2;have pz:p'<=zs.length:=by rw[<-q.el.len];exact hp
  have hso:cD (insertAt es p' (κ.hash x,.ref r))=(cD es).take p'++κ.hash x::(cD es).drop p':=by unfold cD;rw[iw];simp[List.map_take,List.map_drop]
  have iz:(insertAt es p' (κ.hash x,.ref r)).size=es.size+1:=fm _ _ _ hp;have nd1:(zs.take p'++x::zs.drop p').Nodup:=by
   rw[List.perm_middle.nodup_iff,List.take_append_drop,List.nodup_cons];exact⟨hz,q.nd⟩
  have pm1:(zs.take p'++x::zs.drop p').Perm (xs++[x]):=by
   refine List.perm_middle.trans ?_;rw[List.take_append_drop];exact(List.Perm.cons _ pm).trans (List.perm_append_singleton _ _).symm
  have go:∀t2:SetTable,TB t2 (cD (insertAt es p' (κ.hash x,.ref r)))->t2.led=t.led->t2.mask=t.mask->t2.place.size=t.place.size+1->wpAny (model prog w) A (do
     storeSet a (insertAt es p' (κ.hash x,.ref r)) t2
     if !false&&t2.tooFull then setRelay a (grown (es.size+1))
     return true) Q E s:=by
   intro t2 T2 ld mk sz2;refine wpAny_bind (wpAny_storeSet_of q.get q.data ?_ (fits_of_scanBound (by unfold scanBound;lia)));have ho1:=qj q.get q.data (insertAt es p' (κ.hash x,.ref r)) t2;have sb1:=Heap.SameBut.update s.heap a (Obj.putSet (insertAt es p' (κ.hash x,.ref r)) t2);generalize hh1:s.heap.update a (Obj.putSet (insertAt es p' (κ.hash x,.ref r)) t2)=h1 at *
   have el1:Els κ h1 (insertAt es p' (κ.hash x,.ref r)) (zs.take p'++x::zs.drop p'):=(pK q.el hx pz).keep fun z v hz=>kp _ z v sb1 hz;have tf:t2.tooFull=decide ((es.size+1)*5>=t.mask*3):=by
    unfold tooFull fill;rw[T2.dm,sz2,q.tb.sz,lens,mk];simp
   by_cases c:(es.size+1)*5>=t.mask*3
   ·rw[tf,decide_eq_true c];simp only[Bool.not_false,Bool.and_true,if_true];refine wpAny_bind ?_;unfold setRelay;refine wpAny_bind (wpAny_setState_of (s:={ s with heap:=h1 }) ho1 rfl T2.fit ?_);dsimp only;have gr:grown (es.size+1)=(es.size+1)*4:=by unfold grown;rw[if_neg (by lia)]
    rw[gr];obtain⟨e,e3,ee,el,eb⟩:=n3 (n:=(es.size+1)*4) (by lia);obtain⟨t3,order,er,ld3,_,mk3,po,sz3,T3⟩:=u3 (t:=t2) (hs:=cD (insertAt es p' (κ.hash x,.ref r))) (wanted:=(es.size+1)*4) (by simp only[cD,List.length_map,Array.length_toList];rw[iz];lia) (by lia) (by lia);have ls:(cD (insertAt es p' (κ.hash x,.ref r))).length=es.size+1:=by simp[cD,iz]
    rw[ls]at po sz3;rw[if_neg (by rw[ee,sizeLine_eq];lia)];have ea:(insertAt es p' (κ.hash x,.ref r)).map (·.1)=(cD (insertAt es p' (κ.hash x,.ref r))).toArray:=by apply Array.toList_inj.mp;simp[cD]
    rw[ea,er];have inr:∀k∈order.toList,k<(insertAt es p' (κ.hash x,.ref r)).size:=fun k hk=>by rw[iz];exact List.mem_range.mp (po.mem_iff.mp hk)
    have eo:(order.filterMap fun k=>(insertAt es p' (κ.hash x,.ref r))[k]?).toList=order.toList.map fun k=>(insertAt es p' (κ.hash x,.ref r)).getD k (0,.none):=by
     rw[Array.toList_filterMap,nS inr]
    generalize he2:(order.filterMap fun k=>(insertAt es p' (κ.hash x,.ref r))[k]?)=es2 at *
    have z2:es2.size=es.size+1:=by rw[<-Array.length_toList,eo,List.length_map,po.length_eq,List.length_range]
    refine wpAny_bind ?_;show wpAny _ _ (do
     let es':=order.filterMap fun k=>(insertAt es p' (κ.hash x,.ref r))[k]?
     if es'.size != (insertAt es p' (κ.hash x,.ref r)).size then unsupported "internal:set-table-lost-an-element"
     pure (es',t3)) _ _ _
    dsimp only;rw[he2,if_neg (by rw[z2,iz];simp)];refine wpAny_pure ?_;dsimp only;refine wpAny_storeSet_of ho1 rfl ?_ (fits_of_scanBound (by unfold scanBound;lia));have ho2:=qj (h:=h1) ho1 rfl es2 t3;refine wpAny_pure (h _ _ (sb1.trans (Heap.SameBut.update _ a _)) (fun z=>absurd z hn) fun _=>⟨_,es2,_,t3,order.toList.map fun k=>(zs.take p'++x::zs.drop p').getD k x,⟨ho2,q.ex,rfl,?_,?_,?_,?_,?_,?_⟩,?_⟩)
    ·refine⟨by rw[z2,List.length_map,po.length_eq,List.length_range],fun i z hz'=>?_⟩;rw[List.getElem?_map]at hz';cases c2:order.toList[i]? with
     |none=>rw[c2]at hz';cases hz'
     |some k =>
      rw[c2]at hz';have hk:=inr k (List.mem_of_getElem? c2);have hk':k<(zs.take p'++x::zs.drop p').length:=by rw[<-el1.len];exact hk
      obtain⟨v2,g2,q2⟩:=el1.at_ k z (by rw[mP hk' x];exact hz');refine⟨v2,?_,kp _ z v2 (sb1.trans (Heap.SameBut.update _ a _)) ?_⟩
      ·rw[<-Array.getElem?_toList,eo,List.getElem?_map,c2];simp[Array.getD_eq_getD_getElem?,g2]
      ·obtain⟨v3,g3,q3⟩:=(pK q.el hx pz).at_ k z (by rw[mP hk' x];exact hz');rw[g2]at g3;cases g3;exact q3
    ·refine((po.map fun k=>(zs.take p'++x::zs.drop p').getD k x).nodup_iff).mpr ?_;rw[<-iz,el1.len,jV];exact nd1
    ·have:cD es2=order.toList.map fun k=>(cD (insertAt es p' (κ.hash x,.ref r))).getD k 0:=by
      unfold cD;rw[eo,List.map_map];refine List.map_congr_left fun k hk=>?_;have hk:=inr k hk;simp[Array.getD,hk,List.getD]
     rw[this];exact T3
    ·rw[ld3,ld];exact q.led
    ·have:=mk3;rw[ee]at this;rw[z2];lia
    ·right;have:=mk3;rw[ee]at this;rw[z2];rcases eb with eb|eb<;>lia
    ·refine(po.map _).trans ?_;rw[<-iz,el1.len,jV];exact pm1
   ·rw[tf,decide_eq_false c];simp only[Bool.not_false,Bool.and_false,Bool.false_eq_true,if_false];refine wpAny_pure (h _ _ sb1 (fun z=>absurd z hn) fun _=>⟨_,_,_,t2,_,⟨ho1,q.ex,rfl,el1,nd1,T2,by rw[ld];exact q.led,by rw[iz,mk];lia,?_⟩,pm1⟩);rw[mk,iz];have:=q.small;lia
  rw[<-hso]at T1
  by_cases pl:t1.plain=true
  ·rw[if_pos pl];refine wpAny_bind (κ.byV hr hx fun b=>?_);cases b with
   |true=>simp only[if_true];exact go t1 T1 l1 m1 z1
   |false=>simp only[Bool.false_eq_true,if_false];exact go _ (T1.plain false) l1 m1 z1
  ·rw[if_neg pl];refine wpAny_bind (wpAny_pure ?_);simp only[if_true];exact go t1 T1 l1 m1 z1
end L2
namespace L2
open PySem PySem.Spec PyProof.Rows PySem.SeqAt
inductive KD where
 |int (i:Int)|str (x:Str)|tup (ks:List KD)
 deriving Inhabited
def KAt(h:Heap):Nat->KD->Value->Prop
 |_,.int i,v=>∃t,v=.int i t
 |_,.str x,v=>∃t,v=.str x t
 |0,.tup _,_=>False
 |n+1,.tup ds,v=>∃(a:Addr) (its:Array Value),v=.ref a/\IsTup h a its/\its.size=ds.length/\∀(i:Nat) d u,ds[i]?=some d->its[i]?=some u->KAt h n d u
def hK(w:World):Nat->KD->Int
 |_,.int i=>hashInt i
 |_,.str x=>hashStr w x
 |0,.tup _=>0
 |n+1,.tup ds=>reduceHash (Builtin.Tuple.tupleHashOf (ds.map (hK w n)))
theorem qq{h:Heap}{n:Nat}{i:Int}{v:Value}:KAt h n (.int i) v↔∃t,v=.int i t:=by cases n<;>exact .rfl
theorem qf{h:Heap}{n:Nat}{i:Str}{v:Value}:KAt h n (.str i) v↔∃t,v=.str i t:=by cases n<;>exact .rfl
theorem um{h h':Heap}{a:Addr}{its:Array Value}(t:IsTup h a its) (k:∀o,o.cls=.type "tuple"->h.get? a=some o->h'.get? a=some o):IsTup h' a its :=
 let⟨o,ho,hc,hd⟩:=t
 ⟨o,k _ hc ho,hc,hd⟩
theorem KAt.upT{h h':Heap}(k:∀b xs,IsTup h b xs->IsTup h' b xs):∀{n:Nat}{d:KD}{v:Value},KAt h n d v->KAt h' n d v:=by
 intro n
 induction n with
 |zero=>intro d v q;cases d<;>exact q
 |succ n ih =>
  intro d v q;cases d with
  |int _=>exact q
  |str _=>exact q
  |tup ds =>
   obtain⟨a,its,e,t,z,r⟩:=q;exact⟨a,its,e,k a _ t,z,fun i d u h1 h2=>ih (r i d u h1 h2)⟩
theorem KAt.up{h h':Heap}(k:∀b o,o.cls=.type "tuple"->h.get? b=some o->h'.get? b=some o) {n:Nat} {d:KD} {v:Value} (q:KAt h n d v):KAt h' n d v:=q.upT fun b xs t=>um t (k b)
theorem KAt.same{h:Heap}:∀(n:Nat) {d e:KD}{v:Value},KAt h n d v->KAt h n e v->d=e:=by
 intro n
 induction n with
 |zero =>
  intro d e v h1 h2;cases d with
  |int i=>cases e with
   |int j=>obtain⟨_,rfl⟩:=h1;obtain⟨_,z⟩:=h2;cases z;rfl
   |str j=>obtain⟨_,rfl⟩:=h1;obtain⟨_,z⟩:=h2;cases z
   |tup _=>exact h2.elim
  |str i=>cases e with
   |int j=>obtain⟨_,rfl⟩:=h1;obtain⟨_,z⟩:=h2;cases z
   |str j=>obtain⟨_,rfl⟩:=h1;obtain⟨_,z⟩:=h2;cases z;rfl
   |tup _=>exact h2.elim
  |tup _=>exact h1.elim
 |succ n ih =>
  intro d e v h1 h2;cases d with
  |int i=>cases e with
   |int j=>obtain⟨_,rfl⟩:=h1;obtain⟨_,z⟩:=h2;cases z;rfl
   |str j=>obtain⟨_,rfl⟩:=h1;obtain⟨_,z⟩:=h2;cases z
   |tup _=>obtain⟨_,rfl⟩:=h1;obtain⟨_,_,z,_⟩:=h2;cases z
  |str i=>cases e with
   |int j=>obtain⟨_,rfl⟩:=h1;obtain⟨_,z⟩:=h2;cases z
   |str j=>obtain⟨_,rfl⟩:=h1;obtain⟨_,z⟩:=h2;cases z;rfl
   |tup _=>obtain⟨_,rfl⟩:=h1;obtain⟨_,_,z,_⟩:=h2;cases z
  |tup ds=>cases e with
   |int j=>obtain⟨_,rfl⟩:=h2;obtain⟨_,_,z,_⟩:=h1;cases z
   |str j=>obtain⟨_,rfl⟩:=h2;obtain⟨_,_,z,_⟩:=h1;cases z
   |tup es =>
    obtain⟨a1,its,e1,⟨o,ho,hc,c,hd⟩,z,r⟩:=h1;obtain⟨a2,its2,e2,⟨o2,ho2,hc2,c2,hd2⟩,z2,r2⟩:=h2;subst e1;cases e2;rw[ho]at ho2;cases ho2;rw[hd]at hd2;cases hd2;congr 1;refine List.ext_getElem? fun i=>?_;rcases Nat.lt_or_ge i ds.length with q|q
    ·have q2:i<es.length:=by lia
     rw[List.getElem?_eq_getElem q,List.getElem?_eq_getElem q2];have q3:i<its.size:=by lia
     exact congrArg some (ih (r i _ _ (List.getElem?_eq_getElem q) (Array.getElem?_eq_getElem q3)) (r2 i _ _ (List.getElem?_eq_getElem q2) (Array.getElem?_eq_getElem q3)))
    ·rw[List.getElem?_eq_none q,List.getElem?_eq_none (by lia)]
def drK:Nat->KD->Nat
 |_,.int _=>1
 |_,.str _=>1
 |0,.tup _=>0
 |n+1,.tup ds=>(ds.map (drK n)).sum+1
section
variable{prog:Program}{w:World}{A:Around}{E:Value->Shared->Prop}{s:Shared}
theorem KAt.eq:∀(n:Nat) {A:Around}{d e:KD}{v u:Value},A.units+n<cLine->KAt s.heap n d v->KAt s.heap n e u->∃b:Bool,(b=true↔d=e)/\EqAt A s v u b:=by
 intro n
 induction n with
 |zero =>
  intro A d e v u hu q1 q2;cases d with
  |tup _=>exact q1.elim
  |int i=>obtain⟨t,rfl⟩:=q1;cases e with
   |tup _=>exact q2.elim
   |int j=>obtain⟨t',rfl⟩:=q2;exact⟨i==j,by simp,EqAt.int_int _ _ _ _⟩
   |str j=>obtain⟨t',rfl⟩:=q2;exact⟨false,by simp,EqAt.int_str _ _ _ _⟩
  |str i=>obtain⟨t,rfl⟩:=q1;cases e with
   |tup _=>exact q2.elim
   |int j=>obtain⟨t',rfl⟩:=q2;exact⟨false,by simp,EqAt.str_int _ _ _ _⟩
   |str j=>obtain⟨t',rfl⟩:=q2;exact⟨i==j,by simp,EqAt.str_str _ _ _ _⟩
 |succ n ih =>
  intro A d e v u hu q1 q2;cases d with
  |int i=>obtain⟨t,rfl⟩:=q1;cases e with
   |int j=>obtain⟨t',rfl⟩:=q2;exact⟨i==j,by simp,EqAt.int_int _ _ _ _⟩
   |str j=>obtain⟨t',rfl⟩:=q2;exact⟨false,by simp,EqAt.int_str _ _ _ _⟩
   |tup _=>obtain⟨a,its,rfl,t,_⟩:=q2;exact⟨false,by simp,EqAt.int_tuple _ _ t (by lia)⟩
  |str i=>obtain⟨t,rfl⟩:=q1;cases e with
   |int j=>obtain⟨t',rfl⟩:=q2;exact⟨false,by simp,EqAt.str_int _ _ _ _⟩
   |str j=>obtain⟨t',rfl⟩:=q2;exact⟨i==j,by simp,EqAt.str_str _ _ _ _⟩
   |tup _=>obtain⟨a,its,rfl,t,_⟩:=q2;exact⟨false,by simp,EqAt.str_tuple _ _ t (by lia)⟩
  |tup ds =>
   obtain⟨a,its,rfl,t1,z1,r1⟩:=id q1;cases e with
   |int j=>obtain⟨t',rfl⟩:=q2;exact⟨false,by simp,EqAt.tuple_int _ _ t1 (by lia)⟩
   |str j=>obtain⟨t',rfl⟩:=q2;exact⟨false,by simp,EqAt.tuple_str _ _ t1 (by lia)⟩
   |tup es =>
    obtain⟨b,its2,rfl,t2,z2,r2⟩:=id q2
    by_cases ab:a=b
    ·subst ab;exact⟨true,by simp[KAt.same (n+1) q1 q2],EqAt.same _⟩
    ·have item:∀j,∃b:Bool,∀(h1:j<its.size) (h2:j<its2.size),(b=true↔ds[j]?=es[j]?)/\EqAt A.in1 s its[j] its2[j] b:=fun j=>by
      by_cases h1:j<its.size
      ·by_cases h2:j<its2.size
       ·obtain⟨b,b1,b2⟩:=ih (A:=A.in1) (show A.units+1+n<cLine by lia) (r1 j _ _ (List.getElem?_eq_getElem (by lia)) (Array.getElem?_eq_getElem h1)) (r2 j _ _ (List.getElem?_eq_getElem (by lia)) (Array.getElem?_eq_getElem h2));exact⟨b,fun _ _=>⟨by rw[List.getElem?_eq_getElem (by lia),List.getElem?_eq_getElem (by lia),b1];simp,b2⟩⟩
       ·exact⟨true,fun _ h=>absurd h h2⟩
      ·exact⟨true,fun h=>absurd h h1⟩
     have rc:=RcAt.tuples (A:=A) (s:=s) (e:=fun j=>(item j).choose) t1 t2 (by lia) fun j h1 h2=>((item j).choose_spec h1 h2).2;refine⟨_,?_,EqAt.of_refs ab rc⟩;rw[Bool.and_eq_true,List.all_eq_true,beq_iff_eq];constructor
     ·rintro⟨h1,h2⟩;congr 1;refine List.ext_getElem? fun i=>?_;rcases Nat.lt_or_ge i ds.length with q|q
      ·exact((item i).choose_spec (by lia) (by lia)).1.mp (h1 i (List.mem_range.mpr (by lia)))
      ·rw[List.getElem?_eq_none q,List.getElem?_eq_none (by lia)]
     ·intro z;cases z;refine⟨fun i hi=>?_,by lia⟩;have hi:=List.mem_range.mp hi;exact((item i).choose_spec (by lia) (by lia)).1.mpr rfl
theorem KAt.hash:∀(n:Nat) {A:Around}{s:Shared}{E:Value->Shared->Prop}{d:KD}{v:Value}{Q:Int->Shared->Prop},A.units+n<cLine->KAt s.heap n d v->Q (hK w n d) { s with toks:=s.toks+drK n d }->wpAny (model prog w) A (pyHash v) Q E s:=by
 intro n
 induction n with
 |zero =>
  intro A s E d v Q hu q h;cases d with
  |int i=>obtain⟨t,rfl⟩:=q;exact wpAny_pyHash_int h
  |str i=>obtain⟨t,rfl⟩:=q;exact wpAny_pyHash_str h
  |tup _=>exact q.elim
 |succ n ih =>
  intro A s E d v Q hu q h;cases d with
  |int i=>obtain⟨t,rfl⟩:=q;exact wpAny_pyHash_int h
  |str i=>obtain⟨t,rfl⟩:=q;exact wpAny_pyHash_str h
  |tup ks =>
   obtain⟨a,its,rfl,tp,z,r⟩:=q;obtain⟨o,ho,hc,c,hd⟩:=tp;have hT:s.TypeIs (.ref a) "tuple":=⟨o,ho,hc⟩;have hu0:A.units<cLine:=by lia
   unfold pyHash pyHashByItsType;refine wpAny_bind (wpAny_cRoomFor_or (.inr hu0) ?_);refine wpAny_bind (wpAny_specialOf hT F.slot_tuple_hash.lookup ?_);show wpAny _ _ (if(some (Value.builtin "tuple.__hash__")==some Value.none)=true then _ else _) Q E s;rw[if_neg (by rw[beq_builtin_none];exact Bool.false_ne_true)];refine wpAny_bind (wpAny_specialOf hT F.slot_tuple_hash.lookup ?_);show wpAny _ _ (callSpecialIfBoundUnlessNone? (.ref a) "__hash__" _ >>= _) Q E s;refine wpAny_bind (wpAny_callSpecialIfBoundUnlessNone?_slot hT F.slot_tuple_hash (wpAny_call_entry F.slot_tuple_hash hT F.entry_tuple_hash ?_ (F.args_tuple_hash_1 _)));show wpAny _ _ (Builtin.Tuple.tupleItemsOf (.ref a) >>= _) _ _ s;refine wpAny_bind (wpAny_tupleItemsOf ho hd ?_);refine wpAny_bind ?_;rw[<-Array.forIn_toList];refine wpAny_forIn_list _ (fun aU (b:Array Int) s'=>∃m,m<=ks.length/\aU=its.toList.drop m/\b.toList=(ks.take m).map (hK w n)/\s'={ s with toks:=s.toks+((ks.take m).map (drK n)).sum }) _ ?_ ?_ _ _ ⟨0,Nat.zero_le _,rfl,rfl,rfl⟩
   ·rintro x aU b s' ⟨m,hm,hr,hb,rfl⟩;have lt:m<its.size:=by
     rcases Nat.lt_or_ge m its.size with q|q
     ·exact q
     ·rw[List.drop_eq_nil_of_le (by rw[Array.length_toList];exact q)]at hr;cases hr
    rw[List.drop_eq_getElem_cons (by rw[Array.length_toList];exact lt)]at hr;obtain⟨rfl,rfl⟩:=List.cons.inj hr;have km:ks[m]?=some (ks[m]'(by lia)):=List.getElem?_eq_getElem _;refine wpAny_bind (ih (show A.in1.units+n<cLine by show A.units+1+n<cLine;lia) (r m _ _ km (by rw[Array.getElem?_eq_getElem lt];simp)) ?_);refine wpAny_pure ⟨m+1,by lia,rfl,?_,?_⟩
    ·rw[Array.toList_push,hb,List.take_add_one,km,List.map_append];rfl
    ·rw[List.take_add_one,km,List.map_append,List.sum_append,<-Nat.add_assoc];simp
   ·rintro b s' ⟨m,hm,hr,hb,rfl⟩;have:m=ks.length:=by
     rcases Nat.lt_or_ge m its.size with q|q
     ·rw[List.drop_eq_getElem_cons (by rw[Array.length_toList];exact q)]at hr;cases hr
     ·lia
    subst this;rw[List.take_length]at hb ⊢;show wpAny _ _ (retInt (Builtin.Tuple.tupleHashOf b.toList)) _ _ _;rw[hb];refine wpAny_ret_mkInt ?_;show wpAny _ _ (if(decide (-(2:Int) ^ 63<=Builtin.Tuple.tupleHashOf (ks.map (hK w n)))&&decide (Builtin.Tuple.tupleHashOf (ks.map (hK w n))<2 ^ 63))=true then _ else _) Q E _;have h':Q (reduceHash (Builtin.Tuple.tupleHashOf (ks.map (hK w n)))) { s with toks:=s.toks+((ks.map (drK n)).sum+1) }:=h;rw[<-Nat.add_assoc]at h';unfold reduceHash at h'
    by_cases hr2:(decide (-(2:Int) ^ 63<=Builtin.Tuple.tupleHashOf (ks.map (hK w n)))&&decide (Builtin.Tuple.tupleHashOf (ks.map (hK w n))<2 ^ 63))=true
    ·rw[if_pos hr2];rw[if_pos hr2]at h';exact wpAny_pure h'
    ·rw[if_neg hr2];rw[if_neg hr2]at h';exact wpAny_bind (wpAny_rule (wpAny_pure h'))
end
section
variable{prog:Program}{w:World}{A:Around}{E:Value->Shared->Prop}{s:Shared}
theorem pD{a:Addr}{its:Array Value}{Q:Option (Array Value)->Shared->Prop}(t:IsTup s.heap a its) (h:Q (some its) s):wpAny (model prog w) A (seqItems? (.ref a)) Q E s:=by
 obtain⟨o,ho,hc,c,hd⟩:=t;unfold seqItems?;refine wpAny_bind (wpAny_load ho ?_);rw[hd];exact wpAny_pure h
theorem KAt.item{h:Heap}{n:Nat}{ks:List KD}{its:Array Value}(z:its.size=ks.length) (r:∀(i:Nat) d u,ks[i]?=some d->its[i]?=some u->KAt h n d u) {x:Value}(hx:x∈its.toList):∃k,KAt h n k x:=by
 obtain⟨i,hi⟩:=List.mem_iff_getElem?.mp hx;rw[Array.getElem?_toList]at hi;have lt:=(Array.getElem?_eq_some_iff.mp hi).1;exact⟨_,r i _ _ (List.getElem?_eq_getElem (by lia)) hi⟩
theorem KAt.quiet:∀(f n:Nat) {k:KD}{v:Value}{Q:Bool->Shared->Prop},n<=f->KAt s.heap n k v->Q true s->wpAny (model prog w) A (eqIsQuiet f v) Q E s:=by
 intro f
 induction f with
 |zero =>
  intro n k v Q hn q h;obtain rfl:n=0:=by lia
  cases k with
  |int i=>obtain⟨t,rfl⟩:=q;exact wpAny_pure h
  |str i=>obtain⟨t,rfl⟩:=q;exact wpAny_pure h
  |tup _=>exact q.elim
 |succ f ih =>
  intro n k v Q hn q h;cases k with
  |int i=>obtain⟨t,rfl⟩:=qq.mp q;exact wpAny_pure h
  |str i=>obtain⟨t,rfl⟩:=qf.mp q;exact wpAny_pure h
  |tup ks =>
   cases n with
   |zero=>exact q.elim
   |succ n =>
    obtain⟨a,its,rfl,tp,z,r⟩:=q;have hT:s.TypeIs (.ref a) "tuple":=by obtain⟨o,ho,hc,_⟩:=tp;exact⟨o,ho,hc⟩
    unfold eqIsQuiet;refine wpAny_bind (wpAny_specialOf hT F.slot_tuple_eq.lookup ?_);show wpAny _ _ (isInstance (.ref a) (.type "tuple") >>= _) _ _ s;refine wpAny_bind (wpAny_isInstance hT isSubtype_tuple_tuple ?_);simp only[Bool.not_true,Bool.false_eq_true,if_false];refine wpAny_bind (pD tp ?_);refine wpAny_bind ?_;show wpAny _ _ (forIn its _ _) _ _ s;rw[<-Array.forIn_toList];refine wpAny_forIn_list _ (fun aU b s'=>s'=s/\b=(none,())/\∀x∈aU,x∈its.toList) _ ?_ ?_ _ _ ⟨rfl,rfl,fun _ z=>z⟩
    ·rintro x aU b s' ⟨rfl,rfl,hr⟩;obtain⟨k,hk⟩:=KAt.item z r (hr x (.head _));refine wpAny_bind (ih n (by lia) hk ?_);simp only[Bool.not_true,Bool.false_eq_true,if_false];exact wpAny_pure ⟨rfl,rfl,fun y hy=>hr y (.tail _ hy)⟩
    ·rintro b s' ⟨rfl,rfl,_⟩;exact wpAny_pure h
theorem KAt.noCls:∀(f n:Nat) {k:KD}{v:Value}{Q:Bool->Shared->Prop},n<=f->KAt s.heap n k v->Q false s->wpAny (model prog w) A (ofAClassStatement f v) Q E s:=by
 intro f
 induction f with
 |zero =>
  intro n k v Q hn q h;obtain rfl:n=0:=by lia
  cases k with
  |int i=>obtain⟨t,rfl⟩:=q;exact wpAny_pure h
  |str i=>obtain⟨t,rfl⟩:=q;exact wpAny_pure h
  |tup _=>exact q.elim
 |succ f ih =>
  intro n k v Q hn q h;cases k with
  |int i=>obtain⟨t,rfl⟩:=qq.mp q;exact wpAny_pure h
  |str i=>obtain⟨t,rfl⟩:=qf.mp q;exact wpAny_pure h
  |tup ks =>
   cases n with
   |zero=>exact q.elim
   |succ n =>
    obtain⟨a,its,rfl,tp,z,r⟩:=q;have hT:s.TypeIs (.ref a) "tuple":=by obtain⟨o,ho,hc,_⟩:=tp;exact⟨o,ho,hc⟩
    unfold ofAClassStatement;refine wpAny_bind (wpAny_typeOf hT ?_);dsimp only;rw[if_pos (by rfl)];refine wpAny_bind (wpAny_pure ?_);simp only[Bool.not_true,Bool.false_eq_true,if_false];refine wpAny_bind (pD tp ?_);dsimp only;refine wpAny_bind ?_;rw[<-Array.forIn_toList];refine wpAny_forIn_list _ (fun aU b s'=>s'=s/\b=(none,())/\∀x∈aU,x∈its.toList) _ ?_ ?_ _ _ ⟨rfl,rfl,fun _ z=>z⟩
    ·rintro x aU b s' ⟨rfl,rfl,hr⟩;obtain⟨k,hk⟩:=KAt.item z r (hr x (.head _));refine wpAny_bind (ih n (by lia) hk ?_);simp only[Bool.false_eq_true,if_false];exact wpAny_pure ⟨rfl,rfl,fun y hy=>hr y (.tail _ hy)⟩
    ·rintro b s' ⟨rfl,rfl,_⟩;exact wpAny_pure h
theorem KAt.byV:∀(f n:Nat) {k:KD}{v:Value}{Q:Bool->Shared->Prop},KAt s.heap n k v->(∀b,Q b s)->wpAny (model prog w) A (hashByValue f v) Q E s:=by
 intro f
 induction f with
 |zero =>
  intro n k v Q q h;cases k with
  |int i=>obtain⟨t,rfl⟩:=qq.mp q;exact wpAny_pure (h _)
  |str i=>obtain⟨t,rfl⟩:=qf.mp q;exact wpAny_pure (h _)
  |tup _=>cases n with
   |zero=>exact q.elim
   |succ n=>obtain⟨a,its,rfl,_⟩:=q;exact wpAny_pure (h _)
 |succ f ih =>
  intro n k v Q q h;cases k with
  |int i=>obtain⟨t,rfl⟩:=qq.mp q;exact wpAny_pure (h _)
  |str i=>obtain⟨t,rfl⟩:=qf.mp q;exact wpAny_pure (h _)
  |tup ks =>
   cases n with
   |zero=>exact q.elim
   |succ n =>
    obtain⟨a,its,rfl,tp,z,r⟩:=q;have hT:s.TypeIs (.ref a) "tuple":=by obtain⟨o,ho,hc,_⟩:=tp;exact⟨o,ho,hc⟩
    unfold hashByValue;refine wpAny_bind (wpAny_specialOf hT F.slot_tuple_hash.lookup ?_);dsimp only;refine wpAny_bind (pD tp ?_);refine wpAny_bind ?_;show wpAny _ _ (forIn its _ _) _ _ s;rw[<-Array.forIn_toList];refine wpAny_forIn_list _ (fun aU b s'=>s'=s/\b=(none,())/\∀x∈aU,x∈its.toList) _ ?_ ?_ _ _ ⟨rfl,rfl,fun _ z=>z⟩
    ·rintro x aU b s' ⟨rfl,rfl,hr⟩;obtain⟨k,hk⟩:=KAt.item z r (hr x (.head _));refine wpAny_bind (ih n hk fun b=>?_);cases b with
     |true =>
      simp only[Bool.not_true,Bool.false_eq_true,if_false];exact wpAny_pure ⟨rfl,rfl,fun y hy=>hr y (.tail _ hy)⟩
     |false =>
      simp only[Bool.not_false,if_true];exact wpAny_pure (wpAny_pure (h _))
    ·rintro b s' ⟨rfl,rfl,_⟩;exact wpAny_pure (h _)
end
def mN(h0 h:Heap):Prop:=∀b o,h0.get? b=some o->h.get? b=some o
theorem KAt.kept{h0 h:Heap}{n:Nat}{d:KD}{v:Value}(q:KAt h0 n d v) (k:mN h0 h):KAt h n d v:=q.up fun b o _ e=>k b o e
def tK(prog:Program) (w:World) (n:Nat) (hn:n<=8) (h0:Heap) (V:Value->Prop):TK prog w (List KD) where
 is h ks v:=mN h0 h/\KAt h0 n (.tup ks) v/\V v
 hash ks:=hK w n (.tup ks)
 room A:=A.units+n<cLine
 pyHash hr hx h:=KAt.hash n hr (hx.2.1.kept hx.1) (h _ (Nat.le_add_right _ _))
 eqB hr hx hy:=by
  obtain⟨b,h1,h2⟩:=KAt.eq n hr (hx.2.1.kept hx.1) (hy.2.1.kept hy.1);exact⟨b,by rw[h1];simp,h2⟩
 quiet _ hx h:=KAt.quiet 8 n hn (hx.2.1.kept hx.1) h
 noCls _ hx h:=KAt.noCls 8 n hn (hx.2.1.kept hx.1) h
 byV _ hx h:=KAt.byV 8 n (hx.2.1.kept hx.1) h
 ref {h x v} hx:=by
  obtain⟨_,hx,_⟩:=hx;cases n with
  |zero=>exact hx.elim
  |succ n=>obtain⟨a,_,e,_⟩:=hx;exact⟨a,e⟩
end L2
namespace L2
open PySem PySem.Spec PyProof.Rows
open Classical in
def h9{τ:Type}(xs:List τ) (x:τ):List τ:=if x∈xs then xs else xs++[x]
def fW{τ:Type}(xs:List τ):List τ:=xs.foldl h9 []
section
variable{τ:Type}
theorem rq(xs:List τ) (x:τ):(h9 xs x).length<=xs.length+1:=by unfold h9;split<;>simp
theorem lP:∀(xs zs:List τ),(xs.foldl h9 zs).length<=zs.length+xs.length
 |[],_=>Nat.le_refl _
 |x::xs,zs=>by
  have:=lP xs (h9 zs x);have:=rq zs x;simp only[List.foldl_cons,List.length_cons];lia
theorem nz(xs:List τ):(fW xs).length<=xs.length:=by have:=lP xs [];simpa[fW]using this
theorem rE(xs:List τ) (i:Nat) (h:i<xs.length):fW (xs.take (i+1))=h9 (fW (xs.take i)) xs[i]:=by
 rw[List.take_succ_eq_append_getElem h,fW,List.foldl_append];rfl
end
section
variable{prog:Program}{w:World}{A:Around}{R:Result->Shared->Prop}{I:Addr}{fp wr:List Addr}{G:Array GenState->Array GenState->Prop}{P:Nat->Value->Prop}{St:Nat->Shared->Prop}
theorem Aj{V:Value->Prop}{n:Nat}{hn:n<=8}{h0:Heap}{xs:List (List KD)}(W:WalksS prog w A.in1 I fp wr G xs.length P St) (S:Addr) (hSf:S∉fp)
  (hfr:∀b∈S::wr,h0.get? b=none) (hu:A.in1.units+n<cLine) (hval:∀i v (h:i<xs.length),P i v->KAt h0 n (.tup xs[i]) v/\V v) (hb:xs.length<1000) :
  ∀(k i:Nat) (s:Shared),xs.length-i=k->i<=xs.length->St i s->mN h0 s.heap->iI (tK prog w n hn h0 V) s.heap S (fW (xs.take i)) ->
   (∀s',Moved (S::wr) G s s'->mN h0 s'.heap->iI (tK prog w n hn h0 V) s'.heap S (fW xs)->R (.ok (.ret .none)) s') ->
   codeAny (model prog w) A (.builtin "set.update.loop" ⟨[.ref S,.ref I],[]⟩) R s:=by
 have hSw:S∉wr:=fun h=>hSf (W.sub _ h);have hsub:∀b∈wr,b∈S::wr:=fun b hb=>List.mem_cons_of_mem _ hb;intro k
 induction k with
 |zero =>
  intro i s hk hi hst hK hS hR;have hin:i=xs.length:=by lia
  subst hin;refine codeAny_builtin F.entry_set_update_loop ?_;rw[Around.under_plainId F.plain_set_update_loop _];show wpAny _ A.in1 (pyNext (.ref I) >>= _) _ _ s;refine wpAny_bind (W.done s _ _ hst fun s' hm=>?_);show wpAny _ A.in1 (ret Value.none) _ _ s';rw[List.take_length]at hS;have hK':mN h0 s'.heap:=fun b o e=>hm.heap b o (fun q=>by rw[hfr b (hsub b q)]at e;cases e) (hK b o e);exact wpAny_pure (hR s' (hm.mono hsub) hK' (hS.mono (fun o e=>hm.heap S _ hSw e) fun z v q=>⟨hK',q.2⟩))
 |succ k ih =>
  intro i s hk hi hst hK hS hR;have hlt:i<xs.length:=by lia
  refine codeAny_builtin F.entry_set_update_loop ?_;rw[Around.under_plainId F.plain_set_update_loop _];show wpAny _ A.in1 (pyNext (.ref I) >>= _) _ _ s;refine wpAny_bind (W.item i s _ _ hlt hst fun v s' hP hst' hm=>?_);have hx:=hval i v hlt hP;have hK':mN h0 s'.heap:=fun b o e=>hm.heap b o (fun q=>by rw[hfr b (hsub b q)]at e;cases e) (hK b o e);have hS':iI (tK prog w n hn h0 V) s'.heap S (fW (xs.take i)):=hS.mono (fun o e=>hm.heap S _ hSw e) fun z v q=>⟨hK',q.2⟩;show wpAny _ A.in1 (holding [v] (setAdd S v) >>= _) _ _ s';refine wpAny_bind (wpAny_holding ?_);unfold setAdd;refine wpAny_holding ?_;refine wpAny_bind ((tK prog w n hn h0 V).pyHash (x:=xs[i]) hu ⟨hK',hx⟩ fun tk htk=>?_);have hroom:(fW (xs.take i)).length<1000:=by have:=nz (xs.take i);rw[List.length_take]at this;lia
  have kpt:∀h',Heap.SameBut S s'.heap h'->mN h0 h':=fun h' sb b o e=>by
   rw[sb.2 b fun z=>by rw[z,hfr S (.head _)]at e;cases e];exact hK' b o e
  refine AI (s:={ s' with toks:=tk }) (κ:=tK prog w n hn h0 V) hu ⟨hK',hx⟩ hS' hroom (fun h' z v sb q=>⟨kpt h' sb,q.2⟩) fun b h' hsb y1 y2=>?_;have hSi:iI (tK prog w n hn h0 V) h' S (fW (xs.take (i+1))):=by
   rw[rE xs i hlt];unfold h9
   split
   ·rename_i c;exact y1 c
   ·rename_i c;exact y2 c
  refine wpAny_pure ⟨plainId_quiet F.plain_set_update_loop _,ih (i+1) _ (by lia) hlt (W.frame _ s' _ _ hst' htk fun b hb o e=>?_) (kpt h' hsb) hSi fun s'' hm'' hK'' hS''=>?_⟩
  ·rw[hsb.2 b (fun h:b=S=>hSf (by rw[<-h];exact hb))];exact e
  ·refine hR s'' (Moved.trans W.gtrans ((hm.mono hsub).then_heap htk fun b o hb e=>?_) hm'') hK'' hS'';rw[hsb.2 b (fun h:b=S=>hb (by rw[h];exact List.mem_cons_self))];exact e
end
section
variable{prog:Program}{w:World}{A:Around}{E:Value->Shared->Prop}{s:Shared}
theorem yo{V:Value->Prop}{n:Nat}{hn:n<=8}{h0 h:Heap}{a:Addr}(g:h.get? a=some (dQ w)):iI (tK prog w n hn h0 V) h a [] :=
 ⟨_,#[],0,_,[],⟨g,⟨rfl,rfl,rfl⟩,rfl,⟨rfl,fun i z hz=>by simp at hz⟩,.nil,⟨rfl,fun i j _ hj=>by simp[SetTable.fresh]at hj,fun i hi=>by simp[SetTable.fresh]at hi,rfl,⟨3,by lia,rfl⟩,by simp[SetTable.fresh],fun i h q=>by simp[cD]at q⟩,rfl,by simp[SetTable.fresh],.inl (by simp[SetTable.fresh])⟩,.refl _⟩
end
end L2
namespace L2
open PySem PySem.Spec PyProof.Rows PySem.SeqAt
mutual
def Cm:KD->KD->Prop
 |.int _,.int _=>True
 |.str _,.str _=>True
 |.tup a,.tup b=>Cms a b
 |_,_=>False
def Cms:List KD->List KD->Prop
 |a::as,b::bs=>Cm a b/\Cms as bs
 |_,_=>True
end
end L2
namespace L2
open PySem PySem.W PySem.Calls PyProof.Rows PySem.SeqAt
end L2
namespace L2
open PySem PySem.Spec PyProof.Rows PySem.Calls PySem.SeqAt
mutual
def kd:KD->D
 |.int i=>.int i
 |.str x=>.str x
 |.tup ks=>.tup (kds ks)
def kds:List KD->List D
 |[]=>[]
 |k::ks=>kd k::kds ks
end
theorem jA:∀ks,kds ks=ks.map kd
 |[]=>by simp[kds]
 |k::ks=>by simp[kds,jA ks]
mutual
theorem yt:∀{a b:KD},kd a=kd b->a=b
 |.int _,.int _,h=>by simp[kd]at h;rw[h]
 |.int _,.str _,h=>by simp[kd]at h
 |.int _,.tup _,h=>by simp[kd]at h
 |.str _,.int _,h=>by simp[kd]at h
 |.str _,.str _,h=>by simp[kd]at h;rw[h]
 |.str _,.tup _,h=>by simp[kd]at h
 |.tup _,.int _,h=>by simp[kd]at h
 |.tup _,.str _,h=>by simp[kd]at h
 |.tup a,.tup b,h=>by simp only[kd,D.tup.injEq]at h;rw[qx h]
theorem qx:∀{a b:List KD},kds a=kds b->a=b
 |[],[],_=>rfl
 |[],_::_,h=>by simp[kds]at h
 |_::_,[],h=>by simp[kds]at h
 |a::as,b::bs,h=>by
  simp only[kds,List.cons.injEq]at h;rw[yt h.1,qx h.2]
end
def rP(ks:List KD):D:=.tup (kds ks)
def dpK:Nat->KD->Prop
 |_,.int _=>True
 |_,.str _=>True
 |0,.tup _=>False
 |n+1,.tup ks=>∀k∈ks,dpK n k
section
variable{X:Cx}{aa:List (Addr×Obj)}{s:Shared}{σ:St}{H:Hp}{M:DH}{K:PySem.W.Frag}
theorem vC(I:Inv X aa σ H s):∀(n:Nat) {k:KD}{v:V}{u:Value},dpK n k->Rep X.K M H (kd k) v->aG v u->KAt s.heap n k u:=by
 intro n
 induction n with
 |zero =>
  intro k v u hd r q;cases k with
  |int i=>simp only[kd,Rep]at r;subst r;exact q
  |str i=>simp only[kd,Rep]at r;subst r;exact q
  |tup _=>exact hd.elim
 |succ n ih =>
  intro k v u hd r q;cases k with
  |int i=>simp only[kd,Rep]at r;subst r;exact q
  |str i=>simp only[kd,Rep]at r;subst r;exact q
  |tup ks =>
   simp only[kd,Rep]at r;obtain⟨a,vs,rfl,t,rl⟩:=r;cases q;obtain⟨its,rv,tp,hz⟩:=I.tuple t.sq;refine⟨a,its.toArray,rfl,tp,?_,fun i d u h1 h2=>?_⟩
   ·rw[List.size_toArray,<-rv.length,<-rl.length,jA,List.length_map]
   ·obtain⟨v,g,r⟩:=rl.get (i:=i) (d:=kd d) (by rw[jA,List.getElem?_map,h1];rfl);obtain⟨u',g',r'⟩:=rv.get g;rw[List.getElem?_toArray,g']at h2;cases h2;exact ih (hd d (List.mem_of_getElem? h1)) r r'
theorem tO(I:Inv X aa σ H s) {n:Nat}{ks:List (List KD)}{vs:List V}{its:List Value}(hd:∀k∈ks,dpK n (.tup k)) (rl:aj X.K M H (ks.map rP) vs) (rv:ay vs its) {i:Nat}{k:List KD}{u:Value}(h1:ks[i]?=some k) (h2:its[i]?=some u):KAt s.heap n (.tup k) u:=by
 obtain⟨v,g,r⟩:=rl.get (i:=i) (d:=rP k) (by rw[List.getElem?_map,h1];rfl);obtain⟨u',g',r'⟩:=rv.get g;rw[g']at h2;cases h2;exact vC I n (k:=.tup k) (hd k (List.mem_of_getElem? h1)) (by simp only[kd];exact r) r'
theorem evD{a:Expr}{ta:TEd}{Δ:DE}{R:D->DH->Prop}{Q:Value->Shared->Prop}(ha:PEd X a ta) (I:Inv X aa σ H s) (sr:SR X.K M H σ Δ) (hr:HR X.K M H) (q:ta Δ M R)
  (k:∀u s1 v H1 x M1,Inv X aa σ H1 s1->aG v u->R x M1->HR X.K M1 H1->Rep X.K M1 H1 x v->Ext M H M1 H1->Q u s1):wpAny (model X.prog X.w) X.A (eval a X.env) Q X.xe s :=
 thn (ha aa s σ H (fun v H1=>∃x M1,R x M1/\HR X.K M1 H1/\Rep X.K M1 H1 x v/\Ext M H M1 H1) I ⟨Δ,M,R,sr,hr,q,fun x M1 v H1 q1 e1 hr1 rv=>⟨x,M1,q1,hr1,rv,e1⟩⟩) fun u s1 ⟨v,H1,I1,r1,x,M1,q1,hr1,rv,e1⟩=>k u s1 v H1 x M1 I1 r1 q1 hr1 rv e1
end
end L2
namespace L2
open PySem PySem.Spec PyProof.Rows PySem.Calls PySem.SeqAt PySem.W
open Classical in
instance decKs:DecidableEq (List KD):=fun _ _=>propDecidable _
def Ae(prog:Program) (w:World) (n:Nat) (hn:n<=8):HeapKind prog w (List KD) where
 is h ks a:=KAt h n (.tup ks) (.ref a)
 hash ks:=hK w n (.tup ks)
 draws ks:=drK n (.tup ks)
 room A:=A.units+n<cLine
 inj hx hy:=by have:=KAt.same n hx hy;cases this;rfl
 keeps {h h' k a d o es ep} q ho hd hs:=q.upT fun b xs ⟨o',g,hc,m,e⟩=>⟨o',by
  have ne:b≠d:=fun z=>by subst z;rw[ho]at g;cases g;rw[hd]at e;cases e
  rw[hs.2 b ne];exact g,hc,m,e⟩
 pyHash hr hx h:=KAt.hash n hr hx h
 eqBool {A E s x y a b Q} hr hx hy h:=by
  obtain⟨c,h1,h2⟩:=KAt.eq n hr hx hy;refine h2 prog w _ _ ?_;have:c=decide (x=y):=by
   rw[Bool.eq_iff_iff,h1];simp
  rw[this];exact h
 quiet hx h:=KAt.quiet 8 n hn hx h
end L2
namespace L2
open PySem PySem.Spec PyProof.Rows PySem.Calls PySem.SeqAt
end L2
namespace L2
open PySem PySem.Spec PyProof.Rows
end L2
namespace L2
open PySem PySem.Spec PyProof.Rows PySem.Calls PySem.SeqAt
end L2
namespace L2
open PySem PySem.Spec PyProof.Rows
section
variable{prog:Program}{w:World}{A:Around}{E:Value->Shared->Prop}{s:Shared}
theorem pE{n:Nat}{hn8:n<=8}{l:Addr}{items:Array Value}{xs:List (List KD)}{Q:Value->Shared->Prop}
  (hh:A.handled=none) (hu:A.units+n+8<cLine) (hl:s.heap.IsTuple l items) (hn:items.size=xs.length) (hi:∀(i:Nat) k u,xs[i]?=some k->items[i]?=some u->KAt s.heap n (.tup k) u) (hb:xs.length<1000)
  (h:∀(h':Heap) (tk:Nat),iI (tK prog w n hn8 s.heap (·∈items)) h' s.heap.objs.size (fW xs)->mN s.heap h'->Q (.ref s.heap.objs.size) { s with heap:=h',toks:=tk }) :
  wpAny (model prog w) A (call (.type "set") [.ref l]) Q E s:=by
 obtain⟨c,tl,hmro⟩:=PySem.F.called_set.mro;have hmade:=PySem.F.called_set.made;have hsub:=PySem.F.called_set.sub;refine wpAny_call (codeAny_of_tree ?_);show wpAny _ _ (callAny (.type "set") _) _ _ _;refine wpAny_pure ⟨Code.quiet_builtin _ (by decide +kernel),codeAny_builtin PySem.F.entry_type_call ?_⟩;rw[Around.under_plain (weight_type_call_type "set" [.ref l] []) rfl];have h1:=PySem.F.called_set.notType;have h2:=PySem.F.called_set.canCreate;have hct:=PySem.F.typeCall_set_1 (.ref l)
 repeat (any_goals (first|assumption|wp_step))
 refine codeAny_mono (oC (.ref l) (E:=E) (Q₁:=fun obj s₁=>obj=.ref s.heap.objs.size/\s₁={ s with heap:=s.heap.push (dQ w) }) ⟨rfl,rfl⟩) fun r s₁ hr=>?_;cases r with
 |error e=>exact hr
 |ok fl =>
  cases fl with
  |ret obj =>
   obtain⟨rfl,rfl⟩:=hr;have hS:(s.heap.push (dQ w)).get? s.heap.objs.size=some (dQ w):=Heap.get?_push_size _ rfl;have hT:Shared.TypeIs { s with heap:=s.heap.push (dQ w) } (.ref s.heap.objs.size) "set":=⟨_,hS,rfl⟩;have hli:=PySem.F.called_set.init.lookup;have hbi:=PySem.F.called_set.init.bind (.ref s.heap.objs.size)
   repeat (any_goals (first|assumption|wp_step))
   refine codeAny_mono (codeAny_call_builtin (R:=wants (fun r s₂=>r=.none/\∃h' tk,s₂={ s with heap:=h',toks:=tk } /\
     iI (tK prog w n hn8 s.heap (·∈items)) h' s.heap.objs.size (fW xs)/\mN s.heap h') E) PySem.F.called_set.init.plain PySem.F.entry_set_init (check_set_init_1 hT ?_)) fun r₂ s₂ hr₂=>?_
   ·obtain⟨ol,hol,hcl,nl,hdl⟩:=hl;obtain⟨ocls,odict,odata,oslots⟩:=ol;simp only at hcl hdl;subst hcl;subst hdl;have hol':(s.heap.push (dQ w)).get? l=some { cls:=.type "tuple",dict:=odict,data:=.seq items nl,slots:=oslots }:=Heap.get?_push_of_some _ hol;have hsls:=PySem.F.sub_tuple_set;have hslf:=PySem.F.sub_tuple_frozenset;have hne:(Value.type "tuple"==Value.type "dict")=false:=by decide
    have hl1:(s.heap.push (dQ w)).IsTuple l items:=⟨_,hol',rfl,nl,rfl⟩;unfold Builtin.«set.__init__» noKeywords Builtin.Frozenset.updateFrom;generalize hPI:pyIter=PI
    wp_walk
    subst hPI;refine wpAny_pyIter_tuple hl1 ?_;refine wpAny_bind (wpAny_runValue ?_);have hlS:l<s.heap.objs.size:=Heap.lt_size hol;have hh3:A.in1.in1.in1.handled=none:=by simp[hh]
    have hneI:l≠(s.heap.push (dQ w)).objs.size:=by
     rw[Heap.size_push];exact Nat.ne_of_lt (Nat.lt_succ_of_lt hlS)
    have hSf:s.heap.objs.size∉[(s.heap.push (dQ w)).objs.size,l]:=by
     rw[Heap.size_push];simp only[List.mem_cons,List.mem_singleton,List.not_mem_nil,or_false,not_or];exact⟨Nat.ne_of_lt (Nat.lt_succ_self _),Nat.ne_of_gt hlS⟩
    have W:=(Walks.tuple (prog:=prog) (w:=w) hh3 _ l hneI items).toS;rw[hn]at W;have frs:∀b,s.heap.objs.size<=b->s.heap.get? b=none:=fun b hb=>Heap.get?_none_of_le hb;refine Aj (V:=(·∈items)) (n:=n) (hn:=hn8) (h0:=s.heap) (xs:=xs) W s.heap.objs.size hSf (fun b hb=>?_) (show A.units+1+1+1+n<cLine by lia) (fun i v hlt hv=>⟨hi i _ _ (List.getElem?_eq_getElem hlt) hv,Array.mem_of_getElem? hv⟩) hb (xs.length-0) 0 _ (by lia) (Nat.zero_le _) ?St0 ?hK0 ?hS0 ?hR
    case St0=>exact⟨⟨_,Heap.get?_push_size _ rfl,rfl,rfl⟩,(hl1.push _)⟩
    ·rcases List.mem_cons.mp hb with rfl|hb
     ·exact frs _ (Nat.le_refl _)
     ·rw[List.mem_singleton.mp hb,Heap.size_push];exact frs _ (Nat.le_succ _)
    case hK0=>exact fun b o e=>Heap.get?_push_of_some _ (Heap.get?_push_of_some _ e)
    case hS0=>exact yo (Heap.get?_push_of_some _ hS)
    case hR =>
     intro s' hm hK' hS';obtain⟨h',g',d',tk',os'⟩:=s';have eg:g'=s.gens:=hm.gens;have ed:d'=s.drawn:=hm.drawn;have eo:os'=s.os:=hm.os;subst eg;subst ed;subst eo;show wpAny _ _ _ _ _ _;refine wpAny_pure ?_;show wpAny _ _ (ret Value.none) _ _ _;exact wpAny_pure ⟨rfl,h',tk',rfl,hS',hK'⟩
   ·cases r₂ with
    |error e=>exact hr₂
    |ok fl₂ =>
     cases fl₂ with
     |ret r =>
      obtain⟨rfl,h',tk,rfl,hS',hk'⟩:=hr₂
      repeat (any_goals (first|assumption|wp_step))
      exact h _ _ hS' hk'
     |_=>exact hr₂.elim
  |_=>exact hr.elim
end
section
open PySem.Calls PySem.SeqAt
variable{X:Cx}{aa:List (Addr×Obj)}{s:Shared}{σ:St}{H:Hp}{M:DH}{K:PySem.W.Frag}
end
end L2
namespace L2
open PySem PySem.Spec PyProof.Rows PySem.Calls PySem.SeqAt
section
variable{X:Cx}{aa:List (Addr×Obj)}{s:Shared}{σ:St}{H:Hp}{M:DH}{K:PySem.W.Frag}
def dLS(ta:TEd):TEd:=fun Δ M Q=>ta Δ M fun x M1=>(∃ks:List (List KD),rdM M1 x=.tup (ks.map rP)/\(∀k∈ks,dpK 8 (.tup k))/\ks.length<1000/\Q (.int ((fW ks).length:Nat)) M1)∨(∃xs:List Str,rdM M1 x=.lst (xs.map .str)/\xs.length<1000/\Q (.int ((eY xs).length:Nat)) M1)
theorem Az{a:Expr}{ta:TEd}{p0 p1 q0 q1:Pos}(hc:X.calm=true) (hu:X.A.units+64<cLine) (hgS:Gl X "len") (hmS:X.mg "len"=none) (hg:Gl X "set") (hm:X.mg "set"=none) (ha:QEd X a ta)
  (he0:starEach [.Call (.Name "set" p1) [a] [] q1] X.env=(false,eval (.Call (.Name "set" p1) [a] [] q1) X.env)::starEach [] X.env:=by rfl)
  (he1:starEach [a] X.env=(false,eval a X.env)::starEach [] X.env:=by rfl)
  (hp0:(backTo q0 (starEach [] X.env)).any (·.1)=false:=by rfl) (hp1:(backTo q1 (starEach [] X.env)).any (·.1)=false:=by rfl) :
  QEd X (.Call (.Name "len" p0) [.Call (.Name "set" p1) [a] [] q1] [] q0) (dLS ta):=by
 simp only[QEd.eq]at *
 intro aa s σ H Q I ⟨Δ,M,R,sr,hr,q,k⟩;refine wpAny_Call_Name_kw (gI I hgS hmS (u:=.builtin "len") (by kernel_rfl) ?_ (by decide) (by decide));refine PyProof.Rows.callWith_builtin1 ?_ he0 hp0;rw[he0];show wpAny _ _ (spliced ((false,eval _ X.env)::backTo q0 (starEach [] X.env))) _ _ s;refine Calls.spliced_cons ?_;refine wpAny_Call_Name_kw (gI I hg hm (u:=.type "set") (by kernel_rfl) ?_ (by decide) (by decide));refine PyProof.Rows.callWith_type1 ?_ he1 hp1;rw[he1];show wpAny _ _ (spliced ((false,eval a X.env)::backTo q1 (starEach [] X.env))) _ _ s;refine Calls.spliced_cons (evD ha I sr hr q fun u s1 v H1 x M1 I1 r1 hx hr1 rv0 e1=>?_);have rv:=rv0.rd hr1;refine Calls.spliced_nil ?_;rcases hx with⟨ks,ex,hk8,hl,q2⟩|⟨xs,ex,hl,q2⟩
 ·rw[ex]at rv;obtain⟨l,vs,rfl,sq,rl⟩:=rv;cases r1;obtain⟨its,rvs,pl,hz⟩:=I1.tuple sq;have hn:ks.length=its.length:=by rw[<-rvs.length,<-rl.length,List.length_map]
  have hat:∀(i:Nat) k u,ks[i]?=some k->its[i]?=some u->KAt s1.heap 8 (.tup k) u:=fun i k u h1 h2=>tO I1 hk8 rl rvs h1 h2;refine pE (n:=8) (hn8:=Nat.le_refl _) (I1.ok.hd hc) (by lia) pl (by simp[hn]) (fun i k u h1 h2=>hat i k u h1 (by simpa using h2)) hl fun h' tk hS kp=>?_;refine Calls.spliced_nil ?_;obtain⟨o,es,ep,t,zs,qs,pm⟩:=hS;have hzs:es.size=(fW ks).length:=by rw[qs.el.len,pm.length_eq]
  have I2:Inv X aa σ H1 { s1 with heap:=h',toks:=tk }:=I1.kept kp;have hml:=nz ks;refine call_len_set (s:={ s1 with heap:=h',toks:=tk }) qs.get qs.ex qs.data qs.tb.fit (by lia) ?_;rw[hzs];exact⟨.int _,H1,I2.tok _,⟨_,rfl⟩,k _ _ _ _ q2 e1 hr1 (by simp only[Rep])⟩
 ·rw[ex]at rv;obtain⟨l,vs,rfl,sq,rl⟩:=rv;cases r1;obtain⟨its,rvs,pl,hz⟩:=I1.list (SqL.of sq);have hn:xs.length=its.length:=by rw[<-rvs.length,<-rl.length,List.length_map]
  refine qM (xs:=xs) (I1.ok.hd hc) pl.isList (by simp[hn]) (fun i hi=>?_) (by unfold scanBound;lia) fun h' tk hS kp=>?_
  ·obtain⟨v,g,r⟩:=rl.get (i:=i) (d:=.str xs[i]) (by rw[List.getElem?_map,List.getElem?_eq_getElem hi];rfl);obtain⟨u,g',r'⟩:=rvs.get g;simp only[Rep]at r;subst r;obtain⟨t,rfl⟩:=r';exact⟨t,by simpa using g'⟩
  refine Calls.spliced_nil ?_;obtain⟨o,es,ep,t,qs,pm⟩:=hS;have hzs:es.size=(eY xs).length:=by
   have:=pm.length_eq;rw[List.length_map,Array.length_toList]at this;exact this
  have I2:Inv X aa σ H1 { s1 with heap:=h',toks:=tk }:=I1.kept kp;have hml:(eY xs).length<=xs.length:=by have:=iA xs [];simpa[eY]using this
  refine call_len_set (s:={ s1 with heap:=h',toks:=tk }) qs.get qs.ex qs.data qs.fit (by lia) ?_;rw[hzs];exact⟨.int _,H1,I2.tok _,⟨_,rfl⟩,k _ _ _ _ q2 e1 hr1 (by simp only[Rep])⟩
end
end L2
namespace L2
open PySem PySem.Spec PyProof.Rows PySem.Builtin PySem.Builtin.Str StrLaws
def Gd(L S:List Nat) (d c:Nat):Prop:=∀j,L[j]?=some c->d<=j/\(L.drop (j-d)).take S.length=S/\j-d+S.length<=L.length/\∀j',j<j'->L[j']?=some c->j+S.length<=j'
theorem Gd.free{L S:List Nat}{d c:Nat}(h:c∉L):Gd L S d c:=fun j hj=>absurd (List.mem_of_getElem? hj) h
theorem Gd.app{p pre post R:List Nat}{c:Nat}(hp:c∉p) (h1:c∉pre) (h2:c∉post) (g:Gd R (pre++c::post) pre.length c):Gd (p++((pre++c::post)++R)) (pre++c::post) pre.length c:=by
 have len:(pre++c::post).length=pre.length+post.length+1:=by simp;lia
 have tot:(p++((pre++c::post)++R)).length=p.length+((pre++c::post).length+R.length):=by rw[List.length_append,List.length_append]
 have key:∀j,(p++((pre++c::post)++R))[j]?=some c->j=p.length+pre.length∨(p.length+(pre++c::post).length<=j/\R[j-(p.length+(pre++c::post).length)]?=some c):=fun j hj=>by
  by_cases a:j<p.length
  ·rw[List.getElem?_append_left a]at hj;exact absurd (List.mem_of_getElem? hj) hp
  ·rw[List.getElem?_append_right (by lia)]at hj
   by_cases b:j-p.length<(pre++c::post).length
   ·rw[List.getElem?_append_left b]at hj
    by_cases e:j-p.length<pre.length
    ·rw[List.getElem?_append_left e]at hj;exact absurd (List.mem_of_getElem? hj) h1
    ·rw[List.getElem?_append_right (by lia)]at hj;cases q:j-p.length-pre.length with
     |zero=>left;lia
     |succ n =>
      rw[q,List.getElem?_cons_succ]at hj;exact absurd (List.mem_of_getElem? hj) h2
   ·right;rw[List.getElem?_append_right (by lia)]at hj;exact⟨by lia,by rw[show j-(p.length+(pre++c::post).length)=j-p.length-(pre++c::post).length by lia];exact hj⟩
 intro j hj;rcases key j hj with rfl|⟨hle,hr⟩
 ·refine⟨by lia,?_,by rw[tot];lia,fun j' hlt hj'=>?_⟩
  ·rw[show p.length+pre.length-pre.length=p.length by lia,List.drop_left,List.take_left]
  ·rcases key j' hj' with rfl|⟨hle,hr⟩
   ·lia
   ·have:=(g _ hr).1
    lia
 ·obtain⟨g1,g2,g3,g4⟩:=g _ hr;refine⟨by lia,?_,by rw[tot];lia,fun j' hlt hj'=>?_⟩
  ·have e:p++((pre++c::post)++R)=(p++(pre++c::post))++R:=by simp
   have e2:(p++((pre++c::post)++R)).drop (j-pre.length)=R.drop (j-(p.length+(pre++c::post).length)-pre.length):=by
    rw[e,List.drop_append,List.drop_of_length_le (by rw[List.length_append];lia),List.nil_append,List.length_append];congr 1
    lia
   rw[e2];exact g2
  ·rcases key j' hj' with rfl|⟨hle',hr'⟩
   ·lia
   ·have:=g4 _ (show j-(p.length+(pre++c::post).length)<j'-(p.length+(pre++c::post).length)by lia) hr'
    lia
section
variable{x y:Str}{d c:Nat}
theorem wg(g:Gd x.cps.toList y.cps.toList d c) {j:Nat}(h:x.cps.toList[j]?=some c):At x y x.length (j-d):=by
 obtain⟨_,g2,g3,_⟩:=g j h;have ey:y.cps.toList.length=y.length:=by simp[Str.length]
 have ex:x.cps.toList.length=x.length:=by simp[Str.length]
 refine⟨by rw[<-ey,<-ex];exact g3,?_⟩;rw[subAt_eq,<-ey,g2];exact beq_self_eq_true _
theorem AR(hc:y.cps.toList[d]?=some c) {k:Nat}(h:At x y x.length k):x.cps.toList[k+d]?=some c:=by
 have h2:=h.2;rw[subAt_eq]at h2;have e:=eq_of_beq h2;rw[<-e]at hc;have hd:d<y.length:=by
  have:=(List.getElem?_eq_some_iff.mp hc).1;rw[List.length_take]at this;lia
 rw[List.getElem?_take_of_lt hd,List.getElem?_drop]at hc;exact hc
theorem gG(g:Gd x.cps.toList y.cps.toList d c) {a b:Nat}(ha:∀j,a<=j->x.cps.toList[j]?=some c->a+d<=j) (hn:∀k,a<=k->k<b->¬ At x y x.length k):c∉(strSub x a b).cps.toList:=by
 intro hm;rw[strSub_toList]at hm;obtain⟨j,hj⟩:=List.getElem?_of_mem hm;have hlt:j<b-a:=by
  have h1:j<((x.cps.toList.drop a).take (b-a)).length:=(List.getElem?_eq_some_iff.mp hj).1;rw[List.length_take]at h1
  lia
 rw[List.getElem?_take_of_lt hlt,List.getElem?_drop]at hj;have:=ha (a+j) (by lia) hj;exact hn (a+j-d) (by lia) (by lia) (wg g hj)
theorem iZ(g:Gd x.cps.toList y.cps.toList d c) (hc:y.cps.toList[d]?=some c):∀(cuts:List Nat) (a f:Nat),(∀j,a<=j->x.cps.toList[j]?=some c->a+d<=j)->ChainG x y x.length a cuts f->(∀k,f<=k->¬ At x y x.length k)->∀p∈partsFrom x y.length a cuts,c∉p.cps.toList
 |[],a,f,ha,h,hn,p,hp=>by
  have e:f=a:=h;subst e;rw[List.mem_singleton.mp hp];exact gG g ha fun k h1 _=>hn k h1
 |k::r,a,f,ha,h,hn,p,hp=>by
  rcases List.mem_cons.mp hp with rfl|hp'
  ·exact gG g ha h.2.2.1
  ·refine iZ g hc r _ f (fun j hj hjc=>?_) h.2.2.2 hn p hp';have hk:=AR hc h.2.1;have ey:y.cps.toList.length=y.length:=by simp[Str.length]
   have hd:d<y.length:=by rw[<-ey];exact(List.getElem?_eq_some_iff.mp hc).1
   have:=(g _ hk).2.2.2 j (by lia) hjc
   lia
theorem ny(g:Gd x.cps.toList y.cps.toList d c) (hc:y.cps.toList[d]?=some c) (hk:¬ strKind x<strKind y):∀p∈Txt.split x y,c∉p.cps.toList:=by
 have ey:y.cps.toList.length=y.length:=by simp[Str.length]
 have hd:d<y.length:=by rw[<-ey];exact(List.getElem?_eq_some_iff.mp hc).1
 obtain⟨f,hG,hn⟩:=occ_tight x y (by lia);have h0:∀j,0<=j->x.cps.toList[j]?=some c->0+d<=j:=fun j _ h=>by have:=(g j h).1;lia
 unfold Txt.split
 split
 ·rename_i hc';intro p hp;rw[List.mem_singleton.mp hp];intro hm;obtain⟨j,hj⟩:=List.getElem?_of_mem hm;have hA:=wg g hj;rw[Bool.or_eq_true,decide_eq_true_eq,decide_eq_true_eq]at hc';rcases hc' with h|h
  ·have:=hA.1;lia
  ·exact hk h
 ·split
  ·rename_i he;intro p hp;rw[List.mem_singleton.mp hp];have e0:occurrences x y 0 x.length (x.length+1)=[]:=List.isEmpty_iff.mp he;rw[e0]at hG;have ef:f=0:=hG;subst ef;rw[<-sub_whole x];exact gG g h0 fun k h1 _=>hn k h1
  ·rw[partsBetween_eq];exact iZ g hc _ 0 f h0 hG hn
end
theorem cN(y p q:Str) (r:List Str):(Str.join y (p::q::r)).cps.toList=p.cps.toList++(y.cps.toList++(Str.join y (q::r)).cps.toList):=by
 show(p++y++Str.join y (q::r)).cps.toList=_;show((p.cps++y.cps)++(Str.join y (q::r)).cps).toList=_;simp
theorem lA{y:Str}{pre post:List Nat}{c:Nat}(hy:y.cps.toList=pre++c::post) (h1:c∉pre):∀{ps qs:List Str},ps≠[]->qs≠[]->(∀p∈ps,c∉p.cps.toList)->(∀q∈qs,c∉q.cps.toList)->Str.join y ps=Str.join y qs->ps=qs
 |[],_,h,_,_,_,_=>absurd rfl h
 |_,[],_,h,_,_,_=>absurd rfl h
 |[p],[q],_,_,_,_,h=>by
  have:p=q:=h;rw[this]
 |[p],q::q2::r,_,_,hp,hq,h=>by
  have h2:=congrArg (fun z:Str=>z.cps.toList) h;simp only[cN,hy]at h2;have h3:p.cps.toList=_:=h2;exact absurd (by rw[h3];simp) (hp p (by simp))
 |p::p2::r,[q],_,_,hp,hq,h=>by
  have h2:=congrArg (fun z:Str=>z.cps.toList) h;simp only[cN,hy]at h2;have h3:_=q.cps.toList:=h2;exact absurd (by rw[<-h3];simp) (hq q (by simp))
 |p::p2::r,q::q2::r',_,_,hp,hq,h=>by
  have h2:=congrArg (fun z:Str=>z.cps.toList) h;simp only[cN,hy]at h2;have e:∀(a R:List Nat),a++((pre++c::post)++R)=(a++pre)++c::(post++R):=fun a R=>by simp
  rw[e,e]at h2;obtain⟨e1,e2⟩:=gM (fun z=>(List.mem_append.mp z).elim (hp p (by simp)) h1) (fun z=>(List.mem_append.mp z).elim (hq q (by simp)) h1) h2;rw[fN (List.append_cancel_right e1),lA hy h1 (ps:=p2::r) (qs:=q2::r') (by simp) (by simp) (fun x hx=>hp x (List.mem_cons_of_mem _ hx)) (fun x hx=>hq x (List.mem_cons_of_mem _ hx)) (fN (List.append_cancel_left e2))]
theorem p9{y:Str}{pre post:List Nat}{c:Nat}(hy:y.cps.toList=pre++c::post) (h1:c∉pre) (h2:c∉post):∀{ps:List Str},ps≠[]->(∀p∈ps,c∉p.cps.toList)->Gd (Str.join y ps).cps.toList y.cps.toList pre.length c
 |[],h,_=>absurd rfl h
 |[p],_,hp=>Gd.free (hp p (by simp))
 |p::q::r,_,hp=>by
  have ih:=p9 hy h1 h2 (ps:=q::r) (by simp) fun x hx=>hp x (List.mem_cons_of_mem _ hx);rw[cN,hy]at *
  exact Gd.app (hp p (by simp)) h1 h2 ih
theorem pC{y:Str}(h:y.cps.all (·<256)=true) (x:Str):¬ strKind x<strKind y:=by
 have:strKind y=1:=if_pos h;rw[this];unfold PySem.Builtin.Str.strKind
 split
 ·lia
 ·split<;>lia
theorem bI{y:Str}{pre post:List Nat}{c:Nat}{ps:List Str}(hy:y.cps.toList=pre++c::post) (h1:c∉pre) (h2:c∉post) (hk:y.cps.all (·<256)=true) (hne:ps≠[]) (hp:∀p∈ps,c∉p.cps.toList):Txt.split (Str.join y ps) y=ps:=by
 have hs:=ny (p9 hy h1 h2 hne hp) (by rw[hy];simp) (pC hk _);have hj:=StrLaws.join_split (Str.join y ps) y;refine lA hy h1 (fun z=>?_) hne hs hp hj;have hl:=StrLaws.join_split (Str.join y ps) y;unfold Txt.split at z
 split at z
 ·cases z
 ·split at z
  ·cases z
  ·have:=length_partsBetween (Str.join y ps) (occurrences (Str.join y ps) y 0 (Str.join y ps).length ((Str.join y ps).length+1)) y.length;rw[z]at this;cases this
end L2
namespace L2
open PySem PySem.Spec PyProof.Rows
open AutoSeq1 (wpAny_loadPart')
section
variable{prog:Program}{w:World}{A:Around}{E:Value->Shared->Prop}{s:Shared}
theorem jr{T newId initId:String}{Bn Bi:Builtin}{args:List Value}{kw:List (Str×Value)}{S:PySem.Spec}{Q Q₁:Value->Shared->Prop}(ft:TypeCalled T newId initId)
  (hct:checkTypeCall T ⟨args,kw⟩=pure ()) (hcn:checkBuiltinCall newId ⟨.type T::args,kw⟩=pure ())
  (entryN:entryFor table newId=some Bn) (entryI:entryFor table initId=some Bi) (g:Meets (Bn ⟨.type T::args,kw⟩) S)
  (h:S A.in1 (wants Q₁ E) s)
  (hnext:∀obj s₁,Q₁ obj s₁->s₁.TypeIs obj T/\argsOk initId ⟨obj::args,kw⟩/\∃Si,Meets (Bi ⟨obj::args,kw⟩) Si/\Si A.in1 (wants (fun r s₂=>r=.none/\Q obj s₂) E) s₁) :
  wpAny (model prog w) A (call (.type T) args kw) Q E s:=by
 obtain⟨c,tl,hmro⟩:=ft.mro;have hmade:=ft.made;have hsub:=ft.sub;refine wpAny_call (codeAny_of_tree ?_);show wpAny _ _ (callAny (.type T) _) _ _ _;refine wpAny_pure ⟨Code.quiet_builtin _ (by decide +kernel),codeAny_builtin F.entry_type_call ?_⟩;rw[Around.under_plain (weight_type_call_type T args kw) (units_type_call_type T args kw)];have h1:=ft.notType;have h2:=ft.canCreate
 repeat (any_goals (first|assumption|wp_step))
 refine codeAny_mono (codeAny_call_builtin ft.plain entryN (wpAny_of_eq hcn (g prog w A.in1 _ s h))) fun r s₁ hr=>?_;cases r with
 |error e=>exact hr
 |ok fl =>
  cases fl with
  |ret obj =>
   obtain⟨hT,hok,Si,gi,hsi⟩:=hnext _ _ hr;have hli:=ft.init.lookup;have hbi:=ft.init.bind obj
   repeat (any_goals (first|assumption|wp_step))
   refine codeAny_mono (codeAny_call_builtin ft.init.plain entryI (ft.init.check _ _ _ _ _ _ _ _ hT hok (gi prog w A.in1 _ s₁ hsi))) fun r₂ s₂ hr₂=>?_;cases r₂ with
   |error e=>exact hr₂
   |ok fl₂ =>
    cases fl₂ with
    |ret r =>
     obtain⟨rfl,hq⟩:=hr₂
     repeat (any_goals (first|assumption|wp_step))
    |_=>exact hr₂.elim
  |_=>exact hr.elim
theorem gB{T newId:String}{self:Value}{aU:List Value}{kw:List (Str×Value)}(hl:typeLookup (.type T) "__init__"=pure (some (.builtin "object.__init__")))
  (hm:Bind.madeBy (.type T)=pure (some newId)) (hne:(some newId != some "object.__new__")=true) :
  Meets (Builtin.«object.__init__» ⟨self::aU,kw⟩) (fun _ R s=>s.TypeIs self T/\R (.ok (.ret .none)) s):=by
 refine Meets.of_wp fun prog w A R s hs=>?_;obtain⟨hT,hq⟩:=hs;cases aU with
 |nil =>
  cases kw with
  |nil=>exact wpAny_pure ⟨_,rfl,hq⟩
  |cons k kw =>
   repeat (any_goals (first|assumption|wp_step))
   exact⟨_,rfl,hq⟩
 |cons a aU =>
  repeat (any_goals (first|assumption|wp_step))
  exact⟨_,rfl,hq⟩
theorem pI(a v:Value):checkTypeCall "enumerate" ⟨[a],[(Str.ofString "start",v)]⟩=pure ():=by unfold checkTypeCall;kernel_rfl
theorem rS(a v:Value):checkBuiltinCall "enumerate.__new__" ⟨[.type "enumerate",a],[(Str.ofString "start",v)]⟩=pure ():=by unfold checkBuiltinCall;kernel_rfl
theorem pG(o a v:Value):argsOk "object.__init__" ⟨[o,a],[(Str.ofString "start",v)]⟩:=by unfold argsOk;kernel_rfl
theorem nQ(l:Addr) (items:Array Value) (n:Nat) (dct:Option Addr) (sl:Array (Option Value)) (t:Tok) :
  Meets (Builtin.«enumerate.__new__» ⟨[.type "enumerate",.ref l],[(Str.ofString "start",.int 1 t)]⟩) (fun _ R s=>s.heap.get? l=some { cls:=.type "list",dict:=dct,data:=.seq items n,slots:=sl } /\
   R (.ok (.ret (.ref (s.heap.push { cls:=.type "list_iterator",data:=.fields #[.ref l,.int 0 0] }).objs.size)))
    { s with heap:=(s.heap.push { cls:=.type "list_iterator",data:=.fields #[.ref l,.int 0 0] }).push { cls:=.type "enumerate",data:=.fields #[.none,.bool false,.ref s.heap.objs.size,rawInt 1,.none,.none] } }) :=
 .of_wp fun prog w A R s h=>by
  obtain⟨hp,g,d,tk,os⟩:=s;obtain⟨hl,h⟩:=h;have hsub:=sub_enumerate;have hL:Heap.IsList (Shared.heap ⟨hp,g,d,tk,os⟩) l items:=⟨_,hl,rfl,n,rfl⟩
  wp_walk using wpAny_loadPart' hl
  refine wpAny_stack_any fun st=>wpAny_pure ?_
  split
  ·rename_i c _ _ _ _ _;cases(c==Value.type "enumerate")
   ·wp_walk using wpAny_loadPart' hl,wpAny_pyIter_list hL
    exact⟨_,rfl,h⟩
   ·wp_walk using wpAny_loadPart' hl,wpAny_pyIter_list hL
    exact⟨_,rfl,h⟩
  ·wp_walk using wpAny_loadPart' hl,wpAny_pyIter_list hL
   exact⟨_,rfl,h⟩
theorem iy{M:Model}{A:Around}{E:Value->Shared->Prop}{s:Shared}{pos:Pos}{T:String}{args:List (Bool×Sem Value)}{keywords:List (Option Str×Sem Value)}{Q:Value->Shared->Prop}
  (cT:args.any (·.1)=false) (hkw:keywords.any (·.1.isNone)=false)
  (h:wpAny M A (evalArgs (.type T) true args keywords) (fun a s₁=>wpAny M A (call (.type T) a.pos a.kw) Q E s₁) E s) :
  wpAny M A (callWith pos (.type T) [] args keywords) Q E s:=by
 unfold callWith;refine wpAny_bind (wpAny_holding (wpAny_mono h (fun a s₁ h₁=>wpAny_bind (wpAny_standAt ?_)) fun _ _ x=>x));simp only[cT,hkw,Bool.or_false];refine wpAny_bind (wpAny_pure ?_);exact wpAny_bind (wpAny_mono h₁ (fun r s₂ hr=>wpAny_bind (wpAny_holding (wpAny_point (wpAny_pure hr)))) fun _ _ x=>x)
theorem pB{l:Addr}{items:Array Value}{t:Tok}{Q:Value->Shared->Prop}(hL:s.heap.IsList l items)
  (h:∀ h',IsEnum h' (s.heap.objs.size + 1) s.heap.objs.size 1 .none → h'.IsListIter s.heap.objs.size l 0 → h'.objs.size = s.heap.objs.size + 2 →
   (∀b o,s.heap.get? b=some o->h'.get? b=some o)->Q (.ref (s.heap.objs.size+1)) { s with heap:=h' }) :
  wpAny (model prog w) A (call (.type "enumerate") [.ref l] [(Str.ofString "start",.int 1 t)]) Q E s:=by
 obtain⟨⟨c,dct,dt,sl⟩,hl,hc,n,hd⟩:=hL;replace hc:c=.type "list":=hc;replace hd:dt=.seq items n:=hd;subst hc hd;refine jr F.called_enumerate (pI _ _) (rS _ _) F.entry_enumerate_new F.entry_object_init (Q₁:=fun obj s₁=>s₁.TypeIs obj "enumerate"/\Q obj s₁)
  (nQ l items n dct sl t) ⟨hl,?_⟩ fun obj _ hq=>⟨hq.1,pG obj _ _,_,gB F.called_enumerate.init.lookup F.called_enumerate.made (by decide),hq.1,rfl,hq.2⟩
 have hz:(s.heap.push { cls:=.type "list_iterator",data:=.fields #[.ref l,.int 0 0] }).objs.size=s.heap.objs.size+1:=Heap.size_push ..;show _/\_;rw[hz];have he:IsEnum ((s.heap.push { cls:=.type "list_iterator",data:=.fields #[.ref l,.int 0 0] }).push
   { cls:=.type "enumerate",data:=.fields #[.none,.bool false,.ref s.heap.objs.size,rawInt 1,.none,.none] }) (s.heap.objs.size+1) s.heap.objs.size 1 .none:=by
  have:=Heap.get?_push_size (s.heap.push { cls:=.type "list_iterator",data:=.fields #[.ref l,.int 0 0] })
   (o:={ cls:=.type "enumerate",data:=.fields #[.none,.bool false,.ref s.heap.objs.size,rawInt 1,.none,.none] }) rfl
  rw[hz]at this;exact this
 refine⟨⟨_,he,rfl⟩,h _ he ⟨_,Heap.get?_push_of_some _ (Heap.get?_push_size _ rfl),rfl,rfl⟩ (by rw[Heap.size_push,hz]) fun b o x=>Heap.get?_push_of_some _ (Heap.get?_push_of_some _ x)⟩
theorem sX{it:Addr}{fp:List Addr}{n:Nat}{P:Nat->Value->Prop}{St:Nat->Heap->Prop}(D:Draws prog w A it fp n P St):Draws prog w A it fp (n+1) (fun i v=>P (i-1) v) (fun i h=>1<=i/\St (i-1) h) where
 live:=fun i h st=>D.live _ h st.2
 frame:=fun i h h' st k=>⟨st.1,D.frame _ h h' st.2 k⟩
 item:=fun i s Q E hi st hQ=>D.item (i-1) s Q E (by have:=st.1;lia) st.2 fun x h' tk p s' sb=>hQ x h' tk p ⟨by lia,by rw[show i+1-1=i-1+1 by have:=st.1;lia];exact s'⟩ sb
 done:=fun s Q E st hE=>D.done s Q E st.2 hE
end
def AK(b:Bool) (K:PySem.W.Frag) (a:Addr) (n:Nat):It :=
 ⟨fun i H=>(∃xs,me b K H a xs/\xs.length=n)/\i<n,fun i H x H'=>∃T y,x=.ref T/\H T=none/\H'=upd H T (.tup [.int ((i+1:Nat):Int),y])/\∀xs,me b K H a xs->xs[i]?=some y,fun i H=>(∃xs,me b K H a xs/\xs.length=n)/\n<=i⟩
theorem o9{P:Program}{w:World}{K:PySem.W.Frag}{elts:List Expr}{x1:Nat}{pt:Pos}(b:Bool) (a e it:Addr) (n:Nat):lY P w K (.Tuple elts x1 pt) (AK b K a n) [e,it] e (fun i h=>(∃old,IsEnum h e it ((i+1:Nat):Int) old)/\pj b h it a i/\e≠it/\i<=n) where
 mem:=by simp
 obj:=fun i h st c hb=>by
  rcases List.mem_cons.mp hb with z|z
  ·subst z;obtain⟨⟨old,q⟩,_⟩:=st;exact⟨_,q,fun v z=>by cases z⟩
  ·have z:=List.mem_singleton.mp z;subst z;obtain⟨_,st,_⟩:=st;obtain⟨o,q,_,d⟩:=st.obj;exact⟨o,q,fun v z=>by rw[d]at z;cases z⟩
 keep:=fun i h h' st k=>by
  obtain⟨⟨old,q⟩,st,ne,le⟩:=st;obtain⟨o,q2,r⟩:=st.obj;exact⟨⟨old,k e (by simp) _ q⟩,.of ⟨o,k it (by simp) o q2,r⟩,ne,le⟩
 item:=by
  intro X hP hw hK hc i aa s σ H E I hf st hg;subst hP hw hK;obtain⟨⟨xs,hq,hxl⟩,hin⟩:=hg;have hx:xs[i]?=some (xs[i]'(by lia)):=by simp[hxl,hin]
  generalize xs[i]'(by lia)=x at hx;obtain⟨⟨old,he⟩,hit,hne,hle⟩:=st;obtain⟨its,St,rv,dr,hst0,hback,ob,hob,hcl⟩:=nA hc I hq hit;obtain⟨u,hu,ru⟩:=rv.get hx;have hea:e≠a:=fun z=>by
   rw[<-z,he]at hob;cases hob;exact hcl rfl
  have fe:=hf e (by simp);have fi:=hf it (by simp);have hlt:i<its.toArray.size:=by
   have h1:=(List.getElem?_eq_some_iff.mp hu).1;simpa using h1
  have eT:e<s.heap.objs.size:=Heap.lt_size he;have iT:it<s.heap.objs.size:=by obtain⟨o,q,_⟩:=hit.obj;exact Heap.lt_size q
  refine wpAny_pyNext_enum_itemD (i:=i+1) (sX dr) he (show 1<=i+1/\St (i+1-1) s.heap from⟨by lia,hst0⟩) (Nat.succ_lt_succ hlt) hne (by simp[hne,hea]) fun y h1 tk hy hout hst hTn hsz hk=>?_;have ey:y=u:=by
   have h2:its[i]?=some y:=by simpa using hy
   rw[hu]at h2;cases h2;rfl
  subst ey;refine⟨_,rfl,?_⟩;have In:H s.heap.objs.size=none:=I.hok.fresh (Nat.le_refl _);have I1:Inv X aa σ (upd H s.heap.objs.size (.tup [.int ((i+1:Nat):Int),x])) { s with heap:=s.heap.push { cls:=.type "tuple",data:=.seq #[.int ((i+1:Nat):Int) tk,y] },toks:=tk+1 } :=
   I.laid (fun b o q=>Heap.get?_push_of_some _ q) (Nat.le_refl _) ⟨by simp only[List.length_cons,List.length_nil];rw[sizeLine_eq];decide,[.int ((i+1:Nat):Int) tk,y],.cons ⟨_,rfl⟩ (.cons ru .nil),⟨_,Heap.get?_push_size s.heap rfl,rfl,⟨0,rfl⟩,rfl⟩⟩
  have fe1:dG X aa (upd H s.heap.objs.size (.tup [.int ((i+1:Nat):Int),x])) e:=fe.upd (Nat.ne_of_lt eT);have fi1:dG X aa (upd H s.heap.objs.size (.tup [.int ((i+1:Nat):Int),x])) it:=fi.upd (Nat.ne_of_lt iT);have I2:Inv X aa σ (upd H s.heap.objs.size (.tup [.int ((i+1:Nat):Int),x])) { s with heap:=h1,toks:=tk+1 }:=I1.turned2 (t':=tk+1) (fun b o hb1 hb2 q=>by
   by_cases hbs:b=s.heap.objs.size
   ·subst hbs;rw[Heap.get?_push_size s.heap rfl]at q;cases q;exact hTn
   ·refine hk b o hb1 hb2 ?_;rcases Heap.get?_push_cases q with z|z
    ·exact absurd z.1 hbs
    ·exact z) fe1 fi1
  refine wpAny_letOwnedTupleGo_enum hout fun h2 he2 hs2=>?_;obtain⟨g0,g1,g2,g3,g4,g5⟩:=fe1;have I3:=I2.turned (t':=tk+1) (h':=h2) (it:=e) (fun b o hb q=>(hs2.2 b hb).trans q) g0 g1 g3 g4 g5;refine⟨.ref s.heap.objs.size,_,I3,rfl,⟨_,x,rfl,In,rfl,fun ys hys=>by rw[me.inj I hys hq];exact hx⟩,⟨⟨y,by simpa using he2⟩,?_,hne,hin⟩,fun b hb=>?_⟩
  ·obtain⟨o,q,r⟩:=(hback _ _ hst.2).obj;exact .of ⟨o,(hs2.2 it (Ne.symm hne)).trans q,r⟩
  ·rcases List.mem_cons.mp hb with z|z
   ·subst z;exact g0
   ·rw[List.mem_singleton.mp z];exact fi1.1
 done:=by
  intro X hP hw hK hc i aa s σ H E I hf st hg;subst hP hw hK;obtain⟨⟨xs,hq,hxl⟩,hx⟩:=hg;obtain⟨⟨old,he⟩,hit,hne,hle⟩:=st;obtain⟨its,St,rv,dr,hst0,_⟩:=nA hc I hq hit;obtain⟨f0,f1,f2,f3,f4,f5⟩:=hf it (by simp);have hl:=rv.length;have hi:i=its.toArray.size:=by simp;lia
  rw[hi]at hst0;exact wpAny_pyNext_enum_endD dr he hst0 fun h' eb=>⟨rfl,I.turned (t':=s.toks) (fun b o hb q=>eb b o hb q) f0 f1 f3 f4 f5⟩
 self:=fun _ _ _ _ _ st h=>by
  obtain⟨⟨old,he⟩,_⟩:=st;exact wpAny_pyIter_enum he h
section
variable{X:Cx}{a:Expr}{t:TAd}{pos:Pos}
def qp(ta:TAd):TId:=fun Δ M R=>ta Δ M fun ds M1=>∃es,ds=[.lst es]/\(es.length<=sizeLine->R (mj 1 es) M1)
theorem tX{elts:List Expr}{x1:Nat}{pt p kp kq:Pos}{kj}(hg:Gl X "enumerate") (hm:X.mg "enumerate"=none) (ha:QAd X [a] t) (hs:backTo pos (starEach [a] X.env)=(false,eval a X.env)::backTo pos (starEach [] X.env):=by rfl) (hpl:(backTo pos (starEach [a] X.env)).any (·.1)=false:=by rfl) (hw:(backToKw pos (keywordEach [⟨some "start",.Constant (.int 1) kj kp,kq⟩] X.env)).any (·.1.isNone)=false:=by rfl) (hall:(backToKw pos (keywordEach [⟨some "start",.Constant (.int 1) kj kp,kq⟩] X.env)).all (·.1.isSome)=true:=by rfl) (hnm:(backToKw pos (keywordEach [⟨some "start",.Constant (.int 1) kj kp,kq⟩] X.env)).filterMap (·.1)=[Str.ofString "start"]:=by rfl):QId X (.Tuple elts x1 pt) (.Call (.Name "enumerate" p) [a] [⟨some "start",.Constant (.int 1) kj kp,kq⟩] pos) (qp t):=by
 simp only[QAd.eq,QId.eq]at *
 intro aa s σ H R I hh;obtain⟨Δ,M,R',sr,hr,q,k⟩:=hh;refine wpAny_Call_Name_kw (gI I hg hm jZ (iy hpl hw ?_));rw[hs];refine evalArgs_kwB hall ?_;rw[<-hs];refine thn (ha pos aa s σ H (fun vs H1=>∃es M1,aj X.K M1 H1 [sqD false es] vs/\(es.length<=sizeLine->R' (mj 1 es) M1)/\Ext M H M1 H1/\HR X.K M1 H1) I ⟨Δ,M,_,sr,hr,q,fun ds M1 vs H1 ⟨es,ed,q1⟩ e1 hr1 rv=>⟨es,M1,by rw[<-show sqD false es=.lst es from rfl]at ed;rw[<-ed];exact rv,q1,e1,hr1⟩⟩) fun us s1 ⟨vs,H1,I1',r1,es,M1,rv,q1,e1,hr1⟩=>?_;refine kws_cons (wpAny_Constant_int (kws_nil ?_));rw[hnm];have I1:=I1'.tok (s1.toks+1);generalize hs2:({ s1 with toks:=s1.toks+1 }:Shared)=s2 at I1
 try rw[hs2]
 obtain⟨v,rfl,rt⟩:=rv.one;cases r1 with
 |cons r rr =>
  cases rr;obtain⟨ad,vs,rfl,rl,ta⟩:=xT rt;cases r;have lo:es.length<=sizeLine:=by
   have hq:=ta _ _ (Ext.refl _ _);rw[rl.length];exact(I1.list hq).choose_spec.2.2
  have hl2:=rl.length;obtain⟨itl,_,pl,_⟩:=I1.list (ta _ _ (Ext.refl _ _));refine pB pl.isList fun h' he hit hsz hk=>?_;refine wpAny_pyIter_enum he ?_;refine⟨s2.heap.objs.size+1,[s2.heap.objs.size+1,s2.heap.objs.size],_,_,H1,rfl,I1.kept (t':=s2.toks) hk,o9 false ad _ _ es.length,⟨⟨_,he⟩,hit,Nat.succ_ne_self _,Nat.zero_le _⟩,fun b' hb=>?_,?_⟩
  ·rcases List.mem_cons.mp hb with z|z
   ·subst z;exact I1.fpOk (by lia) (I1.hok.fresh (by lia))
   ·rw[List.mem_singleton.mp z];exact I1.fpOk (Nat.le_refl _) (I1.hok.fresh (Nat.le_refl _))
  ·refine k _ M1 _ H1 (q1 lo) e1 hr1 fun M2 H2 e2 hr2 i=>⟨fun d hd=>?_,fun hl=>⟨⟨vs,(ta _ _ e2),by lia⟩,by rw[ki]at hl;exact hl⟩⟩;rw[jR]at hd;cases hdi:es[i]? with
   |none=>rw[hdi]at hd;cases hd
   |some d0 =>
    rw[hdi]at hd;have hd':D.tup [.int ((1+i:Nat):Int),d0]=d:=by simpa using hd
    subst hd';rw[Nat.add_comm 1 i];have hi:i<es.length:=(List.getElem?_eq_some_iff.mp hdi).1;obtain⟨v0,gv,r0⟩:=rl.get hdi;refine⟨⟨⟨vs,(ta _ _ e2),by lia⟩,hi⟩,fun x H' ⟨T,y,ex,hT,eH,hy⟩=>?_⟩;subst ex;subst eH;have hh:=hy vs (ta _ _ e2);rw[gv]at hh;cases hh;refine⟨Ext.new hr2 hT,hr2.new hT,?_⟩;simp only[Rep];refine⟨T,[.int ((i+1:Nat):Int),v0],rfl,.inl ⟨.inl bK,hr2.fresh hT⟩,?_⟩;exact aj.cons (by simp[Rep]) (aj.cons ((r0.ext e2).ext (Ext.new hr2 hT)) aj.nil)
end
end L2
namespace My
open PySem PySem.Spec PyProof.Rows L2
noncomputable def top(i:Nat):Stmt:=PySem.Challenge.pw_wordwishes_k08_lexicons_written.main.body.getD i (.Pass ⟨0,0,0,0⟩)
abbrev eS:Stmt:=top 6
abbrev cE:Stmt:=top 7
abbrev bC:Stmt:=top 8
abbrev fC:Stmt:=top 11
abbrev fB:Stmt:=top 12
abbrev cL:Stmt:=top 13
abbrev fk:Stmt:=top 16
abbrev fH:Stmt:=top 17
abbrev eh:Stmt:=top 18
abbrev c8:Stmt:=top 23
abbrev fc:Stmt:=top 24
abbrev cx:Stmt:=top 25
abbrev dZ:Stmt:=top 26
abbrev bx:Stmt:=top 27
abbrev dq:Stmt:=top 30
abbrev cI:Stmt:=top 31
abbrev e8:Stmt:=top 32
abbrev fL:Stmt:=top 33
abbrev eI:Stmt:=top 34
abbrev b6:Stmt:=top 40
abbrev bp:Stmt:=top 41
abbrev eZ:Stmt:=top 42
abbrev fj:Stmt:=top 43
abbrev cK:Stmt:=top 44
abbrev cn:Stmt:=top 45
abbrev kG:Stmt:=top 47
abbrev jI:Stmt:=top 48
abbrev dO:Stmt:=top 49
abbrev cP:Stmt:=top 50
abbrev iN:Stmt:=top 51
abbrev iD:Stmt:=top 52
abbrev fJ:Stmt:=top 53
abbrev eD:Stmt:=top 54
abbrev ix:Stmt:=top 55
abbrev c9:Stmt:=top 56
abbrev t7:Stmt:=top 57
abbrev ma:List Str:=["thing"]
theorem gc:av ma ["thing"] (ag eS):=fsc
abbrev ji:List Str:=["thing","many"]
theorem dN:av ji ["thing","many"] (ag cE):=fsc
abbrev cc:List Str:=["thing"]
theorem cS:av cc ["thing"] (ag bC):=fsc
abbrev n4:List Str:=["thing"]
theorem ie:av n4 ["thing"] (ag fC):=fsc
abbrev ot:List Str:=["thing"]
theorem iq:av ot ["thing"] (ag fB):=fsc
abbrev eQ:List Str:=["thing"]
theorem fY:av eQ ["thing"] (ag cL):=fsc
abbrev nO:List Str:=["thing"]
theorem hU:av nO ["thing"] (ag fk):=fsc
abbrev oa:List Str:=["thing"]
theorem gQ:av oa ["thing"] (ag fH):=fsc
abbrev gF:List Str:=["thing"]
theorem i6:av gF ["thing"] (ag eh):=fsc
abbrev jX:List Str:=["things"]
theorem eW:av jX ["things"] (ag c8):=fsc
abbrev nu:List Str:=["thing"]
theorem ic:av nu ["thing"] (ag fc):=fsc
abbrev dw:List Str:=["thing"]
theorem e6:av dw ["thing"] (ag cx):=fsc
abbrev mI:List Str:=["thing"]
theorem fZ:av mI ["thing"] (ag dZ):=fsc
abbrev bc:List Str:=["thing"]
theorem dU:av bc ["thing"] (ag bx):=fsc
abbrev kH:List Str:=["sign","mark","turn"]
theorem fK:av kH ["sign"] (ag dq):=fsc
abbrev eL:List Str:=["row"]
theorem gf:av eL ["row"] (ag cI):=fsc
abbrev oj:List Str:=["letters","many"]
theorem gS:av oj ["letters"] (ag e8):=fsc
abbrev oo:List Str:=["text","halves"]
theorem h7:av oo ["text"] (ag fL):=fsc
abbrev gE:List Str:=["text","row"]
theorem i7:av gE ["text"] (ag eI):=fsc
abbrev c0:List Str:=["entry","word","kinds"]
theorem eU:av c0 ["entry"] (ag b6):=fsc
abbrev aX:List Str:=["lexicon","order","goal","entries","pairs"]
theorem di:av aX ["lexicon"] (ag bp):=fsc
abbrev nP:List Str:=["part","words"]
theorem g9:av nP ["part"] (ag eZ):=fsc
abbrev nZ:List Str:=["part"]
theorem hJ:av nZ ["part"] (ag fj):=fsc
abbrev eu:List Str:=["part","halves"]
theorem gj:av eu ["part"] (ag cK):=fsc
abbrev iC:List Str:=["text","parts","goal","order","entries","number","part","longer_order","more_entries"]
theorem df:av iC ["text"] (ag cn):=fsc
abbrev sR:List Str:=["_law_cell","_law_rest","_law_one"]
theorem lN:av sR ["_law_cell"] (ag kG):=fsc
noncomputable abbrev ug:List Str:=["_law_pool_here","_law_amount","_law_found"]
theorem lu:av ug ["_law_pool_here","_law_amount"] (ag jI):=fsc
abbrev c7:List Str:=["_law_pool_here","_law_known","_law_letters","_law_word_here","_law_some"]
theorem lM:av c7 ["_law_pool_here","_law_known"] (ag dO):=fsc
abbrev jQ:List Str:=["_law_pool_here","_law_amount","_law_found","_law_k"]
theorem eV:av jQ ["_law_pool_here","_law_amount"] (ag cP):=fsc
abbrev rC:List Str:=["_law_pool_here","_law_marks","_law_most","_law_found","_law_k","_law_low"]
theorem jD:av rC ["_law_pool_here","_law_marks","_law_most"] (ag iN):=fsc
abbrev rO:List Str:=["_law_pool_here","_law_marks","_law_most","_law_signs","_law_turns","_law_found","_law_k","_law_row","_law_j","_law_mark"]
theorem jC:av rO ["_law_pool_here","_law_marks","_law_most","_law_signs","_law_turns"] (ag iD):=fsc
noncomputable abbrev ni:List Str:=["_law_pool_here","_law_most","_law_marks","_law_order_here","_law_entries","_law_word_here"]
theorem ip:av ni ["_law_pool_here","_law_most"] (ag fJ):=fsc
abbrev mx:List Str:=["_law_row","_law_words","_law_mark","_law_turn"]
theorem gd:av mx ["_law_row"] (ag eD):=fsc
abbrev j6:List Str:=["_law_lexicon_here","_law_order_here","_law_goal","_law_entries","_law_parts","_law_low","_law_high","_law_word_here","_law_kinds_here"]
theorem lw:av j6 ["_law_lexicon_here"] (ag ix):=fsc
abbrev cR:List Str:=["_law_found"]
theorem i8:av cR ["_law_found"] (ag c9):=fsc
abbrev yQ:List Str:=["_law_script","_law_cell","_law_lexicon_here","_law_text_here","_law_found"]
theorem si:av yQ ["_law_script"] (ag t7):=fsc
structure Txt(mg:Str->Option Value):Prop where
 b_isinstance:mg "isinstance"=none
 b_int:mg "int"=none
 b_bool:mg "bool"=none
 b_tuple:mg "tuple"=none
 b_len:mg "len"=none
 b_str:mg "str"=none
 b_all:mg "all"=none
 b_set:mg "set"=none
 b_enumerate:mg "enumerate"=none
 b_abs:mg "abs"=none
 b_range:mg "range"=none
 g_SMALL_LETTERS:∃t,mg "SMALL_LETTERS"=some (.str "abcdefghijklmnopqrstuvwxyz" t)
 g_MOST_LETTERS:∃t,mg "MOST_LETTERS"=some (.int 8 t)
 g_MOST_PAIRS:∃t,mg "MOST_PAIRS"=some (.int 8 t)
 g_MOST_TURN:∃t,mg "MOST_TURN"=some (.int 99 t)
 g_MOST_ENTRIES:∃t,mg "MOST_ENTRIES"=some (.int 10 t)
 g_MOST_KINDS:∃t,mg "MOST_KINDS"=some (.int 4 t)
 g_MOST_SIGNS:∃t,mg "MOST_SIGNS"=some (.int 5 t)
 g_NO_SIGNS:∃t,mg "NO_SIGNS"=some (.str "1" t)
 g_BETWEEN_PARTS:∃t,mg "BETWEEN_PARTS"=some (.str "; " t)
 g_BETWEEN_PAIR:∃t,mg "BETWEEN_PAIR"=some (.str " < " t)
 g_BEHIND_WORD:∃t,mg "BEHIND_WORD"=some (.str ": " t)
 g_BETWEEN_KINDS:∃t,mg "BETWEEN_KINDS"=some (.str " | " t)
set_option hygiene false in
local macro_rules|`(tactic| walk_at "rd")=>`(tactic| simp only[dLS,qp,vB,xr,wJ,va,js,dC,zE,wB,yI,wy,wx,dOp,dUn,vL,zP,wu,wo,dCB,fG,oJ,Ab,wc,xC,zJ,vR,qr,zV,zB,dIf,kB,yK,sv,wt,zC,y3,sW,zH,wX,uO,sU,tW,HD.dKr.injEq,uB,HD.dT.injEq,HD.dK.injEq,Aa,zl,sP,mO,ui,v8,dLc,zU,
 uN,yc,uA,vy,vH,uS,vc,vd,xW,uW,vN,uF,vD,zt,yU,yL,wf,zI,z5,sm,yF,wZ,xn,wQ,xG,xv,yd,yy,wM,oF,yj,z8,z9,zF,zR,yE,xH,z0,zb,zX,sf,uf,sx,tE,zm,zA,zQ,zT,zz,z4,yR,vZ,yX,u7,rQ,wR,aq,aZ,
 gq,List.map_cons,List.map_nil,List.cons_append,List.nil_append,List.length_cons,List.length_nil,List.replicate,List.set_cons_zero,List.set_cons_succ,List.getElem?_cons_zero,List.getElem?_cons_succ,Option.some.injEq,exists_eq_left',exists_eq_left,D.int.injEq,D.bl.injEq,D.str.injEq,D.ref.injEq,D.tup.injEq,D.lst.injEq,true_and,and_true,if_true,decide_eq_true_eq,exists_and_left,Nat.zero_add,Nat.reduceAdd,Nat.reduceSub,zg,vW,sY,Ac,HD.lst.injEq,List.cons.injEq,or_true,true_or,and_self,↓reduceIte,Int.reduceLT,Int.reduceLE,Int.reducePow,Int.reduceNeg,Int.reduceToNat,Nat.reducePow,Nat.reduceLT,Nat.reduceLeDiff,Int.reduceAdd,Int.reduceMul,Int.reduceSub,Bool.false_eq_true,Bool.true_eq_false,if_false])
section
variable{P:Program}{w:World}{K:PySem.W.Frag}{mg:Str->Option Value}{base:Heap}{f:Addr}{fd:FuncData}
theorem wC{xs:List D}{n:Nat}:L2.dF xs none (some (n:Int))=xs.take n:=by
 unfold L2.dF;rw[HT.sIx_none,HT.sIx_nat,List.drop_zero,Nat.sub_zero]
 by_cases h:n<=xs.length
 ·rw[Nat.min_eq_left h]
 ·rw[Nat.min_eq_right (by lia),List.take_length,List.take_of_length_le (by lia)]
theorem sG{xs:List D}{n:Nat}:L2.dF xs (some (n:Int)) none=xs.drop n:=by
 unfold L2.dF;rw[HT.sIx_none,HT.sIx_nat]
 by_cases h:n<=xs.length
 ·rw[Nat.min_eq_left h,List.take_of_length_le (by simp)]
 ·rw[Nat.min_eq_right (by lia),Nat.sub_self,List.take_zero,List.drop_of_length_le (by lia)]
theorem cU{lo:Int}{n:Nat}:(nM lo n).length=n:=by simp[nM]
def aQ(x:Str×Str):D:=.tup [.str x.1,.str x.2]
theorem g7{aE:List Str}{v:Int}(h0:0<=v) (h1:v<(aE.length:Int)):∃m∈aE,atI (aE.map D.str) v=some (.str m):=by
 obtain⟨n,rfl⟩:=Int.eq_ofNat_of_zero_le h0;have hn:n<aE.length:=by lia
 exact⟨aE[n],List.getElem_mem hn,fQ (by simp[hn])⟩
theorem cu{M:DH}{p q:Addr}{a b:HD}(h:p≠q):ar (ar M p a) q b=ar (ar M q b) p a:=by
 funext c;unfold ar
 by_cases h1:c=q
 ·subst h1;simp[Ne.symm h]
 ·by_cases h2:c=p
  ·subst h2;simp[h]
  ·simp[h1,h2]
def wD(a b c:Int):Prop:=0<=a/\0<=b/\b<1000000403/\0<=c/\c<1000000513
def a6(l:List D):Prop:=∃a b c,l=[.int a,.int b,.int c]/\wD a b c
def nr:SpD:=fun ds M R=>∃i,ds=[.int i]/\∀p l,M p=none->a6 l->R (.ref p) (ar M p (.lst l))
def cX:SpD:=fun ds M R=>∃p l n,ds=[.ref p,.int n]/\M p=some (.lst l)/\a6 l/\0<n/\n<1073741824/\∀v l',0<=v->v<n->a6 l'->R (.int v) (ar M p (.lst l'))
theorem rg(F:Fun K "_law_pool" "_law_pool" kG f fd) (T:Txt mg) :aO P w K mg base CX0 1 f fd ["_law_cell"] (spD K 1 nr):=by
 have nd:=lN.nd;refine F.okR rfl lN (fun cdv A outer s H E hr=>⟨_,(ai (aN (i:=1) nd rfl (Or.inl rfl) am)
   (ai (bD (nB (lE (aL xZ (ae 0) am nbh) (mD (aL Ay (ae 0) (aI yW am am) nbh)))) (ak (aN (i:=1) nd rfl (Or.inl rfl) (aB za rfl T.b_abs (by kernel_rfl) (af (ae 0) ah)))) bb)
   (ai (aN (i:=2) nd rfl (Or.inl rfl) (aI jN (ae 0) am))
   (ak (aC (fM (af (ae 1) (af (ae 2) (af (aI jN (aI aK (aI dv (ae 2) am) am) am) ah))))))))),fun ds M R _ hS bk=>?_⟩)
 obtain⟨i,rfl,k⟩:=hS;refine bk ?_;clear bk;walk_at "rd";have pk:∀a:Int,0<=a->∀p,M p=none->R (D.ref p) (ar M p (HD.lst [D.int a,D.int (i % 1000000403),D.int ((i % 1000000403*48271+12345) % 1000000513)])):=fun a ha p hp=>k p _ hp ⟨a,_,_,rfl,ha,by lia,by lia,by lia,by lia⟩;refine eN (fun h=>⟨sz3 3,pk _ (by split<;>lia)⟩) (fun h=>eN (fun h'=>⟨sz3 3,pk _ (by split<;>lia)⟩) (fun h'=>⟨sz3 3,pk _ (by lia)⟩))
theorem rH(F:Fun K "_law_draw" "_law_draw" jI f fd) (T:Txt mg) :aO P w K mg base CX0 1 f fd ["_law_pool_here","_law_amount"] (spD K 2 cX):=by
 have nd:=lu.nd;refine F.okR rfl lu (fun cdv A outer s H E hr=>⟨_,(ai (bD (aL td (bJ bL (ae 0) am (fun _ _=>rfl)) am nbh) (ai (aN (i:=2) nd rfl (Or.inl rfl) (aI jN (bJ bL (ae 0) am (fun _ _=>rfl)) (ae 1)))
   (ai (t8 (ae 0) am (aI sD (bJ bL (ae 0) am (fun _ _=>rfl)) (ae 1)))
   (ak (aC (ae 2))))) bb)
   (ai (t8 (ae 0) am (aI jN (aI aK (aI aK (aI dv (bJ bL (ae 0) am (fun _ _=>rfl)) am) (bJ bL (ae 0) am (fun _ _=>rfl))) am) am))
   (ai (t8 (ae 0) am (aI jN (aI aK (aI aK (aI dv (bJ bL (ae 0) am (fun _ _=>rfl)) am) (aI jN (aI dv (bJ bL (ae 0) am (fun _ _=>rfl)) (bJ bL (ae 0) am (fun _ _=>rfl))) am)) am) am))
   (ak (aC (aI jN (aI sD (aI aK (bJ bL (ae 0) am (fun _ _=>rfl)) (aI dv am (bJ bL (ae 0) am (fun _ _=>rfl)))) am) (ae 1))))))),fun ds M R _ hS bk=>?_⟩)
 obtain⟨p,l,n,rfl,hM,⟨a,b,c,rfl,hp⟩,h0,h1,k⟩:=hS;refine bk ?_;clear bk;have hrd:=mB hM;have hcd:∀x,mX x n:=fun x=>⟨h0,h1⟩;obtain⟨p1,p2,p3,p4,p5⟩:=hp;have hb:-18446744073709551616<(b*40014+c+7) % 1000000403/\(b*40014+c+7) % 1000000403<18446744073709551616:=by lia
 have hq:=vW (j:=(b*40014+c+7) % 1000000403) hb;walk_at "rd";simp only[hrd,hM,h0,hcd];walk_at "rd";simp only[hq];walk_at "rd";simp only[h0,hcd];walk_at "rd";have m1:∀x:Int,0<=x % n:=fun x=>Int.emod_nonneg _ (by lia);have m2:∀x:Int,x % n<n:=fun x=>Int.emod_lt_of_pos _ h0;refine eN (fun h=>?_) (fun h=>?_)
 ·exact k _ _ (m1 _) (m2 _) ⟨_,_,_,rfl,Int.ediv_nonneg (by lia) (by lia),p2,p3,p4,p5⟩
 ·exact k _ _ (m1 _) (m2 _) ⟨_,_,_,rfl,p1,by lia,by lia,by lia,by lia⟩
def ka:SpD:=fun ds M R=>∃(p:Addr) (l:List D) (known:List Str),ds=[.ref p,.lst (known.map .str)]/\M p=some (.lst l)/\a6 l/\known.length<=25/\∀w l',au w->w∉known->a6 l'->R (.str w) (ar M p (.lst l'))
theorem pX{p:Addr}{Q:List D->DH->Prop}:∀(ds:List D) (x:Option D) (M:DH) (l:List D) (cs:List Nat),M p=some (.lst l)->a6 l->(∀c∈cs,fA c) ->
  (∀(cs':List Nat) (l':List D),a6 l'->(∀c∈cs',fA c)->cs'.length=cs.length+ds.length->Q (cs'.map fun c=>D.str (tx [c])) (ar M p (.lst l'))) ->
  cH (bT 5) uT (dOp ixD (js 2) (kB 2 cX (fG (js 0) (fG (dC (D.int 26)) oJ)))) ds [some (D.ref p),none,some (D.str abc),none,none,x] M (cs.map fun c=>D.str (tx [c])) Q
 |[],x,M,l,cs,hM,hP,hc,k=>by
  have:=k cs l hP hc (by simp);rw[ly hM]at this;simpa only[cH]using this
 |d::ds,x,M,l,cs,hM,hP,hc,k=>by
  simp only[cH,bT,uT];walk_at "rd";refine⟨p,l,26,rfl,hM,hP,by decide,by decide,fun v l1 h0 h1 hP1=>?_⟩;obtain⟨c,hc1,e⟩:=xR h0 h1;refine⟨_,e,?_⟩;have hm:(cs.map fun c=>D.str (tx [c]))++[D.str (tx [c])]=(cs++[c]).map fun c=>D.str (tx [c]):=by simp
  rw[hm];refine pX ds (some d) (ar M p (.lst l1)) l1 (cs++[c]) aq hP1 (fun x hx=>?_) (fun cs' l' hP' hc' hl'=>?_)
  ·rcases List.mem_append.mp hx with h|h
   ·exact hc x h
   ·have:x=c:=by simpa using h
    subst this;exact hc1
  ·rw[aZ];exact k cs' l' hP' hc' (by simp at hl' ⊢;lia)
theorem uH:(Str.ofString "abcdefghijklmnopqrstuvwxyz").length<=sizeLine:=by
 show abc.length<=_;rw[jG,aA];exact sz3 _
theorem sA{cs:List Nat}(h:cs.length<=1000):ij (Str.ofString "") (.lst (cs.map fun c=>D.str (tx [c])))=some (.str (tx cs)):=by
 have e:(cs.map fun c=>D.str (tx [c]))=(cs.map fun c=>tx [c]).map D.str:=by simp
 have hs:((cs.map fun c=>tx [c]).map (·.length)).sum=cs.length:=by
  clear h e
  induction cs with
  |nil=>rfl
  |cons c cs ih=>simp only[List.map_cons,List.sum_cons,ih,aA,List.length_cons,List.length_nil];lia
 simp only[ij];rw[e,eE,yO];dsimp only;rw[if_pos (by rw[hs,aA];simp;lia),mq]
def xk(cs:List Nat) (d:D):D:=match d with|.str s=>.str (tx (cs.take 7)++s)|_=>.non
theorem su(cs:List Nat):(L2.bB abc).map (xk cs)=(cq.map fun c=>tx (cs.take 7++[c])).map D.str:=by
 rw[lO,List.map_map,List.map_map];apply List.map_congr_left;intro c _;show D.str (tx (cs.take 7)++tx [c])=_;rw[iO];rfl
theorem rM(F:Fun K "_law_word" "_law_word" dO f fd) (T:Txt mg) (G0:FnD P w K mg base "_law_draw" 1 2 cX):aO P w K mg base CX0 2 f fd ["_law_pool_here","_law_known"] (spD K 2 ka):=by
 have nd:=lM.nd;refine F.okR rfl lM (fun cdv A outer s H E hr=>⟨_,(ai (aN (i:=2) nd rfl (Or.inr rfl) bw)
   (ai (aN (i:=3) nd rfl (Or.inr rfl) (gL bw (ff (ms:=[true,false,true,false,false]) (ao:=["_law_k"]) (aD rfl (show aS (ag dO) c7 _ _=true from by decide +kernel)) rfl (gZ rfl T.b_range (af (aI aK am (qd G0 hr (af (ae 0) (af am ah)))) ah)) (aR (i:=5) (show(c7++_).Nodup from by decide +kernel) rfl rfl) (fun _ _ _ _=>bH) (fun _ _ _ _=>(bJ bL (ae 2) (qd G0 hr (af (ae 0) (af am ah))) (fun _ _=>rfl))))))
   (ai (aN (i:=4) nd rfl (Or.inl rfl) (aI aK (n6 (af (ae 3) ah)) (ff (ms:=[false,false,false,true,false]) (ao:=["_law_sign"]) (aD rfl (show aS (ag dO) c7 _ _=true from by decide +kernel)) rfl (ba (ae 2)) (aR (i:=5) (show(c7++_).Nodup from by decide +kernel) rfl rfl) (fun _ _ _ _=>bH) (fun _ _ _ _=>(aI aK (jO (ae 3) mL (md am)) (ae 5))))))
   (ak (aC (bJ bL (ff (ms:=[false,true,false,false,false]) (ao:=["_law_one"]) (aD rfl (show aS (ag dO) c7 _ _=true from by decide +kernel)) rfl (ba (ae 4)) (aR (i:=5) (show(c7++_).Nodup from by decide +kernel) rfl rfl) (fun _ _ _ _=>(xA (aL sQ (ae 5) (ae 1) rfl))) (fun _ _ _ _=>(ae 5))) am (fun _ _=>rfl))))))),fun ds M R _ hS bk=>?_⟩)
 obtain⟨p,l,known,rfl,hM,hP,hk,k⟩:=hS;refine bk ?_;clear bk;walk_at "rd";refine⟨p,l,8,rfl,hM,hP,by decide,by decide,fun v l1 h0 h1 hP1=>?_⟩;walk_at "rd";refine⟨by lia,by lia,by rw[cU];exact sz3 (1+v).toNat (by lia),?_⟩;refine pX _ none (ar M p (.lst l1)) l1 [] aq hP1 (fun c hc=>absurd hc (by simp)) (fun cs l2 hP2 hcs bE=>?_);have hlen':cs.length=(1+v).toNat:=by simpa[nM]using bE
 have hw:au (tx cs):=by
  unfold au;rw[az];exact⟨by lia,by lia,hcs⟩
 rw[aZ];refine⟨_,sA (by lia),sz3 1,_,if_pos uH,fun hz=>⟨hz,?_⟩⟩;refine bM (fun _=>true) (xk cs) (fun Δ=>∃x,Δ=[none,none,none,some (.str (tx cs)),none,x]) _ _ _ (fun d hd Δ hΔ=>?_) ⟨none,rfl⟩ ?_
 ·obtain⟨x,rfl⟩:=hΔ;obtain⟨c,hc,rfl⟩:∃c,c∈cq/\d=.str (tx [c]):=by
   rw[show L2.bB (Str.ofString "abcdefghijklmnopqrstuvwxyz")=cq.map (fun c=>D.str (tx [c]))from lO]at hd;obtain⟨c,hc,e⟩:=List.mem_map.mp hd;exact⟨c,hc,e.symm⟩
  refine⟨_,rfl,⟨_,rfl⟩,fun Q1 q=>q,fun _ Q2 q=>?_⟩;walk_at "rd";have hs:=oI cs 7;refine⟨_,if_pos (by rw[aA];exact sz3 _ (by lia)),?_⟩;walk_at "rd";have hs':Txt.slice (tx cs) none (some 7)=tx (cs.take 7):=hs;rw[hs'];refine⟨_,if_pos (by rw[aA,aA];simp;exact sz3 _ (by lia)),q⟩
 ·have ev:(List.filter (fun _=>true) (L2.bB (Str.ofString "abcdefghijklmnopqrstuvwxyz"))).map (xk cs)=(cq.map fun c=>tx (cs.take 7++[c])).map D.str:=by
   rw[List.filter_eq_self.mpr (fun _ _=>rfl)];exact su cs
  rw[List.nil_append,ev];have hl27:((cq.map fun c=>tx (cs.take 7++[c])).map D.str).length=26:=by simp[cq]
  refine⟨_,if_pos (by rw[hl27];exact sz3 _),_,rfl,fun hz2=>⟨hz2,?_⟩⟩;have em:D.str (tx cs)::(cq.map fun c=>tx (cs.take 7++[c])).map D.str=(tx cs::cq.map fun c=>tx (cs.take 7++[c])).map D.str:=rfl;rw[em];generalize hL:(tx cs::cq.map fun c=>tx (cs.take 7++[c]))=L;have hLw:∀w∈L,au w:=fun w hw'=>by
   rw[<-hL]at hw';rcases List.mem_cons.mp hw' with rfl|hw'
   ·exact hw
   ·obtain⟨c,hc,rfl⟩:=List.mem_map.mp hw';have:=oH hw (ue hc)
    rwa [az]at this
  have hLn:∃w∈L,w∉known:=by
   obtain⟨c,hc,hn⟩:=sk (w:=tx cs) hk;rw[az]at hn;exact⟨_,by rw[<-hL];exact List.mem_cons_of_mem _ (List.mem_map.mpr ⟨c,hc,rfl⟩),hn⟩
  refine bM (fun d=>!((known.map D.str).any fun e=>eqD e d)) id (fun Δ=>∃x,Δ=[none,some (.lst (known.map D.str)),none,none,none,x]) _ _ _ (fun d hd Δ hΔ=>?_) ⟨none,rfl⟩ ?_
  ·obtain⟨x,rfl⟩:=hΔ;obtain⟨w,hw',rfl⟩:=List.mem_map.mp hd;refine⟨_,rfl,⟨_,rfl⟩,fun Q1 q=>?_,fun _ Q2 q=>?_⟩
   ·walk_at "rd";refine⟨_,if_pos ⟨rfl,tD⟩,_,rfl,?_⟩;simpa using q
   ·walk_at "rd";exact q
  ·rw[List.nil_append,List.map_id,List.filter_map];have ef:(List.filter ((fun d=>!((known.map D.str).any fun e=>eqD e d))∘D.str) L)=L.filter (fun w=>!decide (w∈known)):=by
    apply List.filter_congr;intro w _;show(!((known.map D.str).any fun e=>eqD e (.str w)))=_;rw[nq]
   rw[ef];obtain⟨w0,h1',h2'⟩:=hLn;cases hF:L.filter (fun w=>!decide (w∈known))with
   |nil =>
    have:w0∈L.filter (fun w=>!decide (w∈known)):=List.mem_filter.mpr ⟨h1',by simp[h2']⟩;rw[hF]at this;cases this
   |cons u us =>
    have hu:u∈L.filter (fun w=>!decide (w∈known)):=by rw[hF];exact List.mem_cons_self
    obtain⟨hu1,hu2⟩:=List.mem_filter.mp hu;exact⟨_,wf,k u l2 (hLw u hu1) (by simpa using hu2) hP2⟩
theorem o6{M:DH}{p q:Addr}{o:HD}(h:p≠q):gb M (jo M q) (ar (jo M q) p o)=ar M p o:=by
 funext a;unfold gb ar jo
 by_cases h1:a=p
 ·subst h1;simp
 ·by_cases h2:a=q
  ·subst h2;simp[h1]
  ·simp only[h1,h2,if_false];cases M a<;>rfl
theorem qV{l:List D}(h:a6 l):gn l=true:=by
 obtain⟨a,b,c,rfl,_⟩:=h;rfl
def fD:SpD:=fun ds M R=>∃(p:Addr) (l:List D) (n:Int),ds=[.ref p,.int n]/\M p=some (.lst l)/\a6 l/\0<=n/\n<=20/\(∀a k,M a=some k->a≠p->noC k=true) /\
 ∀(ws:List Str) l',(∀w∈ws,au w)->ws.Nodup->ws.length=n.toNat->a6 l'->R (.lst (ws.map .str)) (ar M p (.lst l'))
theorem lB{p q:Addr}{E:gh}(hpq:p≠q):∀(ds:List D) (x:Option D) (n:Int) (M:DH) (l:List D) (ws:List Str),M q=none->a6 l->ws.Nodup->(∀w∈ws,au w)->ws.length+ds.length<=25->(∀a k,M a=some k->a≠p->noC k=true) ->
  (∀(x':Option D) (l':List D) (ws':List Str),a6 l'->ws'.Nodup->(∀w∈ws',au w)->ws'.length=ws.length+ds.length->E.nx [some (.ref p),some (.int n),some (.ref q),x'] (ar (ar M p (.lst l')) q (.lst (ws'.map .str)))) ->
  bS (bT 3) (qr (vR (js 2) (lZ 2 ka (fG (js 0) (fG (js 2) oJ))))) E ds [some (.ref p),some (.int n),some (.ref q),x] (ar (ar M p (.lst l)) q (.lst (ws.map .str)))
 |[],x,n,M,l,ws,hq,hP,hn,hw,hl,hM,k=>by
  simp only[bS];exact k x l ws hP hn hw (by simp)
 |d::ds,x,n,M,l,ws,hq,hP,hn,hw,hl,hM,k=>by
  simp only[bS,bT];walk_at "rd";have bE:ws.length<=24:=by simp at hl;lia
  refine⟨D.ref p,rfl,D.ref q,rfl,jo (ar (ar M p (.lst l)) q (.lst (ws.map .str))) q,[.ref p,.lst (ws.map .str)],_,LeM.del,.cons (.inl rfl) (.cons (.inr ⟨q,_,rfl,aq,fU,rfl⟩) .nil),rfl,⟨p,l,ws,rfl,?_,hP,by lia,fun w l' h1 h2 h3=>?_⟩,fun d' M3 hR=>hR⟩
  ·rw[mC hpq,aw hpq,aq]
  ·refine⟨rfl,fun a kk ha=>?_,?_⟩
   ·by_cases hap:a=p
    ·subst hap;rw[aq]at ha;cases ha;exact qV h3
    ·rw[aw hap]at ha
     by_cases haq:a=q
     ·subst haq;rw[fU]at ha;cases ha
     ·rw[mC haq,aw haq,aw hap]at ha;exact hM a kk ha hap
   ·rw[o6 hpq];have e1:ar (ar (ar M p (.lst l)) q (.lst (ws.map .str))) p (.lst l') q=some (.lst (ws.map .str)):=by rw[aw (Ne.symm hpq),aq]
    refine⟨_,e1,by rw[List.length_map];exact Nat.lt_of_lt_of_le (by lia:ws.length<1000) (sz3 1000),?_⟩;have e2:ar (ar (ar (ar M p (.lst l)) q (.lst (ws.map .str))) p (.lst l')) q (.lst (ws.map .str++[.str w]))=ar (ar M p (.lst l')) q (.lst ((ws++[w]).map .str)):=by
     funext a;unfold ar
     by_cases h1':a=q
     ·simp[h1']
     ·by_cases h2':a=p
      ·simp[h1',h2']
      ·simp[h1',h2']
    rw[e2];refine lB hpq ds (some d) n M l' (ws++[w]) hq h3 ?_ (fun u hu=>?_) (by simp at hl ⊢;lia) hM (fun x' l2 ws' hP' hn' hw' hl'=>k x' l2 ws' hP' hn' hw' (by simp at hl' ⊢;lia))
    ·rw[List.nodup_append];refine⟨hn,by simp,fun a ha b hb=>?_⟩;have:b=w:=by simpa using hb
     subst this;rintro rfl;exact h2 ha
    ·rcases List.mem_append.mp hu with h|h
     ·exact hw u h
     ·have:u=w:=by simpa using h
      subst this;exact h1
theorem jt(F:Fun K "_law_some_words" "_law_some_words" cP f fd) (T:Txt mg) (gb3:FnD P w K mg base "_law_word" 2 2 ka):aO P w K mg base CX0 3 f fd ["_law_pool_here","_law_amount"] (spD K 2 fD):=by
 have nd:=eV.nd;refine F.okR rfl eV (fun cdv A outer s H E hr=>⟨_,(ai (aN (i:=2) nd rfl (Or.inl rfl) (fM ah))
   (ai (gk PassesOwn.never rfl (gZ rfl T.b_range (af (ae 1) ah)) (aV (i:=3) nd rfl (Or.inl rfl)) (ak (fo (ja (ae 2) (qcL gb3 (hr.mono (by decide)) rfl (af (ae 0) (af (ae 2) ah)))))))
   (ak (yr (ae 2))))),fun ds M R _ hS bk=>?_⟩)
 obtain⟨p,l,n,rfl,hM,hP,h0,h1,hno,k⟩:=hS;refine bk ?_;clear bk;walk_at "rd";refine⟨sz3 0,fun q hq=>?_⟩;have hpq:p≠q:=by rintro rfl;rw[hM]at hq;cases hq
 refine⟨by lia,by lia,?_⟩;have e:ar M q (.lst [])=ar (ar M p (.lst l)) q (.lst (([]:List Str).map .str)):=by rw[ly hM];rfl
 rw[e];refine lB hpq _ none n M l [] hq hP List.nodup_nil (fun w hw=>absurd hw (by simp)) (by rw[cU];simp;lia) hno (fun x' l' ws' hP' hn' hw' hl'=>?_);walk_at "rd";rw[sN (by rw[aw (Ne.symm hpq)];exact hq)];exact k ws' l' hw' hn' (by rw[cU]at hl';simpa using hl') hP'
mutual
def ax:D->Bool
 |.tup ds=>aT ds
 |.lst ds=>aT ds
 |.str x=>decide (x.length<=1000000)
 |.scr _=>false
 |.ref _=>false
 |.box _ _=>false
 |_=>true
def aT:List D->Bool
 |[]=>true
 |d::ds=>ax d&&aT ds
end
theorem bh:∀{ds:List D},aT ds=true↔∀d∈ds,ax d=true
 |[]=>by simp[aT]
 |d::ds=>by simp[aT,bh (ds:=ds)]
theorem dH{M:DH}{d:D}(h:ax d=true):rdM M d=d:=by
 cases d<;>first|rfl|(simp[ax]at h)
def lj:D->Int->Bool
 |.tup ds,n=>(ds.length:Int)==n
 |_,_=>false
def gy(x:Str):Bool:=decide (1<=x.length)&&decide (x.length<=8)&&x.cps.toList.all fun c=>decide (c∈cq)
def bX:D->Bool
 |.str x=>gy x
 |_=>false
def bv:SpD:=fun ds M R=>∃d n,ds=[d,.int n]/\ax d=true/\R (.bl (lj d n)) M
theorem b7{d:D}{n:Int}{M:DH}{R:D->DH->Prop}:bv [d,.int n] M R↔ax d=true/\R (.bl (lj d n)) M :=
 ⟨fun⟨d',n',e,h⟩=>by simp only[List.cons.injEq,D.int.injEq,and_true]at e;rw[e.1,e.2];exact h,fun h=>⟨d,n,rfl,h⟩⟩
theorem iJ(F:Fun K "is_tuple_of" "is_tuple_of" cE f fd) (T:Txt mg) :aO P w K mg base CX0 1 f fd ["thing","many"] (spD K 2 bv):=by
 have nd:=dN.nd;refine F.okR rfl dN (fun cdv A outer s H E hr=>⟨_,(ak (aC (bQ (dg (Tn:="tuple") (by decide) rfl T.b_isinstance rfl T.b_tuple (by kernel_rfl) (ae 0)) (dX (nY (iM hr.units) (aB cm rfl T.b_len (by kernel_rfl) (af (ae 0) ah)) (ae 1) nbh))))),fun ds M R _ hS bk=>?_⟩);obtain⟨d,n,rfl,hd,k⟩:=hS;refine bk ?_;clear bk;walk_at "rd";simp only[dH hd];cases d with
 |tup ds =>
  refine⟨true,rfl,?_⟩;walk_at "rd";exact k
 |scr _=>simp[ax]at hd
 |ref _=>simp[ax]at hd
 |box _ _=>simp[ax]at hd
 |_=>exact⟨false,rfl,by simp only[Bool.false_eq_true,if_false];exact k⟩
def bf:SpD:=fun ds M R=>∃d,ds=[d]/\ax d=true/\R (.bl (bX d)) M
theorem bR{d:D}{M:DH}{R:D->DH->Prop}:bf [d] M R↔ax d=true/\R (.bl (bX d)) M :=
 ⟨fun⟨d',e,h⟩=>by simp only[List.cons.injEq,and_true]at e;rw[e];exact h,fun h=>⟨d,rfl,h⟩⟩
def cC:SpD:=bf
theorem cz{d:D}{M:DH}{R:D->DH->Prop}:cC [d] M R↔ax d=true/\R (.bl (bX d)) M:=bR
theorem vK:abc.cps.toList=cq:=by rw[jG,az]
theorem kf{bs:List Bool}:rj (.lst (bs.map D.bl))=some (.bl (bs.all id)):=by
 have h1:(bs.map D.bl).all ub=true:=by rw[List.all_map,List.all_eq_true];intro _ _;rfl
 have h2:(bs.map D.bl).all qR=bs.all id:=by rw[List.all_map];rfl
 simp only[rj,h1,h2,if_true]
theorem gJ(F:Fun K "is_short_word" "is_short_word" bC f fd) (T:Txt mg) :aO P w K mg base CX0 1 f fd ["thing"] (spD K 1 bf):=by
 have nd:=cS.nd;refine F.okR rfl cS (fun cdv A outer s H E hr=>⟨_,(ak (aC (bQ (dg (Tn:="str") (by decide) rfl T.b_isinstance rfl T.b_str (by kernel_rfl) (ae 0)) (bQ (jx k4 k4 am (aB cm rfl T.b_len (by kernel_rfl) (af (ae 0) ah)) (cZ rfl T.g_MOST_LETTERS)) (dX (aB (jB rfl) rfl T.b_all (by kernel_rfl) (af (ff (ms:=[false]) (ao:=["letter"]) (aD (n0:=0) rfl (show aS (ag bC) cc _ _=true from by decide +kernel)) rfl (ba (ae 0)) (aR (i:=1) (show(cc++_).Nodup from by decide +kernel) rfl rfl) (fun _ _ _ _=>bH) (fun _ _ _ _=>(nY zk (ae 1) (bG rfl T.g_SMALL_LETTERS) rfl))) ah))))))),fun ds M R _ hS bk=>?_⟩);obtain⟨d,rfl,hd,k⟩:=hS;refine bk ?_;clear bk;walk_at "rd";simp only[dH hd];cases d with
 |str x =>
  have hx:x.length<=1000000:=by simpa[ax]using hd
  refine⟨true,rfl,?_⟩;walk_at "rd";refine⟨_,if_pos (szB _ (by lia)),?_⟩;walk_at "rd";have hsl:x.length=x.cps.toList.length:=by show x.cps.size=_;simp
  refine eN (fun h1=>eN (fun h2=>?_) (fun h2=>?_)) (fun h1=>?_)
  ·refine⟨_,if_pos (szB _ (by lia)),fun hz=>⟨hz,?_⟩⟩;refine bM (fun _=>true) (fun d=>match d with|.str y=>.bl (y.cps.toList.all fun c=>decide (c∈cq))|_=>.non) (fun Δ=>∃x,Δ=[none,x]) _ _ _ (fun d hd Δ hΔ=>?_) ⟨none,rfl⟩ ?_
   ·obtain⟨x1,rfl⟩:=hΔ;obtain⟨c,_,rfl⟩:=List.mem_map.mp (show d∈x.cps.toList.map fun c=>D.str (tx [c])from hd);refine⟨_,rfl,⟨_,rfl⟩,fun Q1 q=>q,fun _ Q2 q=>?_⟩;walk_at "rd";simp only[vZ,Option.some.injEq,exists_eq_left',Bool.false_xor];rw[show(Str.ofString "abcdefghijklmnopqrstuvwxyz").cps.toList=cq from vK];simpa[az]using q
   ·rw[List.nil_append,List.filter_eq_self.mpr (fun _ _=>rfl)];have e:(L2.bB x).map (fun d=>match d with|.str y=>D.bl (y.cps.toList.all fun c=>decide (c∈cq))|_=>.non)=(x.cps.toList.map fun c=>decide (c∈cq)).map D.bl:=by
     unfold L2.bB;rw[List.map_map,List.map_map];apply List.map_congr_left;intro c _;simp
    rw[e];refine⟨_,kf,?_⟩;have e2:(x.cps.toList.map fun c=>decide (c∈cq)).all id=gy x:=by
     unfold gy;rw[List.all_map,decide_eq_true (by lia:1<=x.length),decide_eq_true (by lia:x.length<=8)];rfl
    rw[e2];exact k
  ·have e2:bX (.str x)=false:=by simp only[bX,gy,decide_eq_false (by lia:¬ x.length<=8),Bool.and_false,Bool.false_and]
   rw[e2]at k;exact k
  ·have e2:bX (.str x)=false:=by simp only[bX,gy,decide_eq_false (by lia:¬ 1<=x.length),Bool.false_and]
   rw[e2]at k;exact k
 |scr _=>simp[ax]at hd
 |ref _=>simp[ax]at hd
 |box _ _=>simp[ax]at hd
 |_=>exact⟨false,rfl,by simp only[Bool.false_eq_true,if_false];exact k⟩
theorem mG(F:Fun K "is_mark" "is_mark" fC f fd) (T:Txt mg) (G3:FnD P w K mg base "is_short_word" 1 1 bf):aO P w K mg base CX0 2 f fd ["thing"] (spD K 1 cC):=by
 have nd:=ie.nd;refine F.okR rfl ie (fun cdv A outer s H E hr=>⟨_,(ak (aC (qd G3 hr (af (ae 0) ah)))),fun ds M R _ hS bk=>?_⟩);obtain⟨d,rfl,hd,k⟩:=hS;refine bk ?_;clear bk;walk_at "rd";exact bR.mpr ⟨hd,k⟩
end
section
variable{P:Program}{w:World}{K:PySem.W.Frag}{mg:Str->Option Value}{base:Heap}{f:Addr}{fd:FuncData}
theorem mJ{α:Type}{f:α->D}(hf:∀x y,f x=f y->x=y):∀{xs ys:List α},xs.map f=ys.map f->xs=ys
 |[],[],_=>rfl
 |[],_::_,h=>by simp at h
 |_::_,[],h=>by simp at h
 |x::xs,y::ys,h=>by
  simp only[List.map_cons,List.cons.injEq]at h;rw[hf _ _ h.1,mJ hf h.2]
def aJ(x:Str×Int):D:=.tup [.str x.1,.int x.2]
theorem lx:∀x y,aJ x=aJ y->x=y:=fun⟨a,b⟩ ⟨c,d⟩ h=>by simpa[aJ]using h
def oQ:D->Bool
 |.int _=>true
 |_=>false
def qm:D->Bool
 |.int t=>decide (-99<=t)&&decide (t<=99)
 |_=>false
def j3:D->Bool
 |.tup [a,b]=>bX a&&qm b
 |_=>false
def oX:D->Bool
 |.tup ds=>ds.all j3
 |_=>false
def nJ(f:D->Bool):SpD:=fun ds M R=>∃d,ds=[d]/\ax d=true/\R (.bl (f d)) M
theorem dJ{f:D->Bool}{d:D}{M:DH}{R:D->DH->Prop}:nJ f [d] M R↔ax d=true/\R (.bl (f d)) M :=
 ⟨fun⟨d',e,h⟩=>by simp only[List.cons.injEq,and_true]at e;rw[e];exact h,fun h=>⟨d,rfl,h⟩⟩
def gN:SpD:=nJ oQ
def iX:SpD:=nJ qm
def i9:SpD:=nJ j3
def gK:SpD:=nJ oX
theorem kO(F:Fun K "is_whole" "is_whole" eS f fd) (T:Txt mg) :aO P w K mg base CX0 1 f fd ["thing"] (spD K 1 gN):=by
 have nd:=gc.nd;refine F.okR rfl gc (fun cdv A outer s H E hr=>⟨_,(ak (aC (bQ (dg (Tn:="int") (by decide) rfl T.b_isinstance rfl T.b_int (by kernel_rfl) (ae 0)) (dX (z6 (dg (Tn:="bool") (by decide) rfl T.b_isinstance rfl T.b_bool (by kernel_rfl) (ae 0))))))),fun ds M R _ hS bk=>?_⟩);obtain⟨d,rfl,hd,k⟩:=hS;refine bk ?_;clear bk;walk_at "rd";simp only[dH hd];cases d with
 |int i=>exact⟨true,rfl,by simp only[if_true];exact⟨false,rfl,k⟩⟩
 |bl b=>exact⟨true,rfl,by simp only[if_true];exact⟨true,rfl,k⟩⟩
 |scr _=>simp[ax]at hd
 |ref _=>simp[ax]at hd
 |box _ _=>simp[ax]at hd
 |_=>exact⟨false,rfl,by simp only[Bool.false_eq_true,if_false];exact k⟩
theorem mK(F:Fun K "is_turn" "is_turn" fk f fd) (T:Txt mg) (Y7:FnD P w K mg base "is_whole" 1 1 gN):aO P w K mg base CX0 2 f fd ["thing"] (spD K 1 iX):=by
 have nd:=hU.nd;refine F.okR rfl hU (fun cdv A outer s H E hr=>⟨_,(ak (aC (bQ (qd Y7 hr (af (ae 0) ah)) (dX (jx k4 k4 (xb xi (cZ rfl T.g_MOST_TURN)) (ae 0) (cZ rfl T.g_MOST_TURN)))))),fun ds M R _ hS bk=>?_⟩);obtain⟨d,rfl,hd,k⟩:=hS;refine bk ?_;clear bk;walk_at "rd";refine dJ.mpr ⟨hd,?_⟩;walk_at "rd";simp only[dH hd];cases d with
 |int t =>
  simp only[oQ,if_true];walk_at "rd";simp only[qm]at k;refine eN (fun h=>?_) (fun h=>?_)
  ·rw[decide_eq_true h,Bool.true_and]at k;exact k
  ·rw[decide_eq_false h,Bool.false_and]at k;exact k
 |scr _=>simp[ax]at hd
 |ref _=>simp[ax]at hd
 |box _ _=>simp[ax]at hd
 |_=>simp only[oQ,Bool.false_eq_true,if_false];exact k
theorem rT{ds:List D}(h:¬ ds.length=2):j3 (.tup ds)=false:=by
 match ds,h with
 |[],_=>rfl
 |[_],_=>rfl
 |[_,_],h=>exact absurd rfl h
 |_::_::_::_,_=>rfl
theorem mv(F:Fun K "is_sign" "is_sign" fH f fd) (T:Txt mg) (G1:FnD P w K mg base "is_tuple_of" 1 2 bv) (G2:FnD P w K mg base "is_mark" 2 1 cC) (ga3:FnD P w K mg base "is_turn" 2 1 iX):aO P w K mg base CX0 3 f fd ["thing"] (spD K 1 i9):=by
 have nd:=gQ.nd;refine F.okR rfl gQ (fun cdv A outer s H E hr=>⟨_,(ak (aC (bQ (qd G1 hr (af (ae 0) (af am ah))) (bQ (qd G2 hr (af (bJ bL (ae 0) am (fun _ _=>rfl)) ah)) (dX (qd ga3 hr (af (bJ bL (ae 0) am (fun _ _=>rfl)) ah))))))),fun ds M R _ hS bk=>?_⟩);obtain⟨d,rfl,hd,k⟩:=hS;refine bk ?_;clear bk;walk_at "rd";refine b7.mpr ⟨hd,?_⟩;walk_at "rd";cases d with
 |tup ds =>
  by_cases hl:ds.length=2
  ·match ds,hl,hd,k with
   |[a,b],_,hd,k =>
    have hab:ax a=true/\ax b=true:=by simpa[ax,aT]using hd
    rw[if_pos (by rfl)];walk_at "rd";refine cz.mpr ⟨hab.1,?_⟩;walk_at "rd";simp only[j3]at k;refine eN (fun h=>dJ.mpr ⟨hab.2,?_⟩) (fun h=>?_)
    ·rw[h,Bool.true_and]at k;exact k
    ·rw[show bX a=false by simpa using h,Bool.false_and]at k;exact k
  ·rw[if_neg (by simp only[lj];simp;lia)];rw[rT hl]at k;exact k
 |scr _=>simp[ax]at hd
 |ref _=>simp[ax]at hd
 |box _ _=>simp[ax]at hd
 |_=>rw[if_neg (by simp[lj])];exact k
theorem tu{f:D->Bool}{M:DH}{Q:List D->DH->Prop}{ds:List D}{te:TEd}{Δ0:DE}{n:Nat}(hte:∀d∈ds,∀x,∀Q2:D->DH->Prop,Q2 (.bl (f d)) M->te ((Δ0++[x]).set Δ0.length (some d)) M Q2)
  (h:Q ((ds.map f).map D.bl) M):cH (bT Δ0.length) uT te ds (Δ0++[none]) M [] Q:=by
 refine bM (fun _=>true) (fun d=>.bl (f d)) (fun Δ=>∃x,Δ=Δ0++[x]) _ _ _ (fun d hd Δ hΔ=>?_) ⟨none,rfl⟩ ?_
 ·obtain⟨x,rfl⟩:=hΔ;refine⟨_,rfl,⟨some d,by simp⟩,fun Q1 q=>q,fun _ Q2 q=>hte d hd x Q2 q⟩
 ·rw[List.nil_append,List.filter_eq_self.mpr (fun _ _=>rfl)];rw[List.map_map]at h;exact h
theorem oy(F:Fun K "is_row" "is_row" eh f fd) (T:Txt mg) (ga6:FnD P w K mg base "is_sign" 3 1 i9):aO P w K mg base CX0 4 f fd ["thing"] (spD K 1 gK):=by
 have nd:=i6.nd;refine F.okR rfl i6 (fun cdv A outer s H E hr=>⟨_,(ak (aC (bQ (dg (Tn:="tuple") (by decide) rfl T.b_isinstance rfl T.b_tuple (by kernel_rfl) (ae 0)) (dX (aB (jB rfl) rfl T.b_all (by kernel_rfl) (af (ff (ms:=[false]) (ao:=["sign"]) (aD (n0:=0) rfl (show aS (ag eh) gF _ _=true from by decide +kernel)) rfl (ba (ae 0)) (aR (i:=1) (show(gF++_).Nodup from by decide +kernel) rfl rfl) (fun _ _ _ _=>bH) (fun _ _ _ _=>(qd ga6 hr (af (ae 1) ah)))) ah)))))),fun ds M R _ hS bk=>?_⟩);obtain⟨d,rfl,hd,k⟩:=hS;refine bk ?_;clear bk;walk_at "rd";simp only[dH hd];cases d with
 |tup ds =>
  refine⟨true,rfl,?_⟩;walk_at "rd";have hds:∀d∈ds,ax d=true:=bh.mp (by simpa[ax]using hd);intro hz;refine⟨hz,tu (f:=j3) (Δ0:=[none]) (n:=1) (fun d hd' x Q2 q=>?_) ?_⟩
  ·walk_at "rd";exact dJ.mpr ⟨hds d hd',q⟩
  ·refine⟨_,kf,?_⟩;have e:(ds.map j3).all id=oX (.tup ds):=by
    simp only[oX,List.all_map];rfl
   rw[e];exact k
 |scr _=>simp[ax]at hd
 |ref _=>simp[ax]at hd
 |box _ _=>simp[ax]at hd
 |_=>exact⟨false,rfl,by simp only[Bool.false_eq_true,if_false];exact k⟩
theorem aY{w:Str}(h:au w):w.length<=8:=by
 have:w.length=w.cps.toList.length:=by show w.cps.size=_;simp
 rw[this];exact h.2.1
theorem da{w:Str}(h:au w):gy w=true:=by
 obtain⟨h1,h2,h3⟩:=h;have e:w.length=w.cps.toList.length:=by show w.cps.size=_;simp
 unfold gy;rw[decide_eq_true (by lia:1<=w.length),decide_eq_true (by lia:w.length<=8),Bool.true_and,Bool.true_and,List.all_eq_true];intro c hc;have:=h3 c hc;unfold fA at this;rw[decide_eq_true_eq];unfold cq;rw[List.mem_range'_1]
 lia
def iW(M:DH):Prop:=∀a k,M a=some (.lst k)->gn k=true
theorem iW.upd{M:DH}{a:Addr}{l:List D}(h:iW M) (hl:gn l=true):iW (ar M a (.lst l)):=fun b k e=>by
 by_cases hb:b=a
 ·subst hb;rw[aq]at e;cases e;exact hl
 ·rw[aw hb]at e;exact h b k e
theorem iW.del{M:DH}{a:Addr}(h:iW M):iW (jo M a):=fun b k e=>by
 by_cases hb:b=a
 ·subst hb;rw[fU]at e;cases e
 ·rw[mC hb]at e;exact h b k e
theorem iW.nil:iW noM:=fun _ _ e=>nomatch e
theorem rW{row:List (Str×Int)}(h:∀x∈row,x.1.length<=8):aT (row.map aJ)=true:=by
 rw[bh];intro d hd;obtain⟨x,hx,rfl⟩:=List.mem_map.mp hd;have:=h x hx;simp only[aJ,ax,aT,Bool.and_true,decide_eq_true_eq]
 lia
theorem oZ{a b:List D}:aT (a++b)=(aT a&&aT b):=by
 rw[Bool.eq_iff_iff,Bool.and_eq_true,bh,bh,bh];exact⟨fun h=>⟨fun d hd=>h d (List.mem_append_left _ hd),fun d hd=>h d (List.mem_append_right _ hd)⟩,fun h d hd=>(List.mem_append.mp hd).elim (h.1 d) (h.2 d)⟩
theorem sO{n:Int}{row:List (Str×Int)}(hn:n<=99) (h:∀x∈row,au x.1/\-n<=x.2/\x.2<=n):oX (.tup (row.map aJ))=true:=by
 simp only[oX,List.all_map,List.all_eq_true];intro x hx;obtain⟨h1,h2,h3⟩:=h x hx;simp only[Function.comp,aJ,j3,bX,da h1,qm,decide_eq_true (by lia:-99<=x.2),decide_eq_true (by lia:x.2<=99),Bool.and_self]
theorem tw:(Str.ofString ".":Str)=tx [46]:=by decide +kernel
theorem s_r:(Str.ofString "r":Str)=tx [114]:=by decide +kernel
theorem s_l:(Str.ofString "l":Str)=tx [108]:=by decide +kernel
theorem vh:(Str.ofString " ":Str)=tx [32]:=by decide +kernel
theorem sI:(Str.ofString "1":Str)=tx [49]:=by decide +kernel
def sgn(t:Int):List Nat:=if 0<t then 46::List.replicate t.toNat 114 else if t<0 then 46::List.replicate (-t).toNat 108 else[]
def aH(x:Str×Int):Str:=tx (x.1.cps.toList++sgn x.2)
theorem fS(x:Str):x.length=x.cps.toList.length:=by show x.cps.size=_;simp
theorem mn{c:Nat}{n:Int}(h0:0<=n) (h1:n<=1000):o3 (.str (tx [c])) (.int n)=some (.str (tx (List.replicate n.toNat c))):=by
 obtain⟨m,rfl⟩:=Int.eq_ofNat_of_zero_le h0;have e:o3 (.str (tx [c])) (.int (m:Int))=if(tx [c]).length<=16777216/\-(2 ^ 63)<=(m:Int)/\(m:Int)<=16777216/\(tx [c]).length*(m:Int).toNat<=16777216 then some (.str (Txt.mul (tx [c]) (m:Int)))else none:=rfl
 rw[e,if_pos (by rw[aA];simp;lia),oO];simp
theorem tY(x:Str) (l:List Nat):x++tx l=tx (x.cps.toList++l):=by
 rw[<-iO,<-pT]
def du:SpD:=fun ds M R=>∃(a:Str) (t:Int),ds=[.tup [.str a,.int t]]/\a.length<=1000/\-1000<=t/\t<=1000/\R (.str (aH (a,t))) M
theorem jg{a:Str}{t:Int}{M:DH}{R:D->DH->Prop}:du [.tup [.str a,.int t]] M R↔a.length<=1000/\-1000<=t/\t<=1000/\R (.str (aH (a,t))) M :=
 ⟨fun⟨a',t',e,h⟩=>by simp only[List.cons.injEq,D.tup.injEq,D.str.injEq,D.int.injEq,and_true]at e;rw[e.1,e.2];exact h,fun h=>⟨a,t,rfl,h⟩⟩
theorem jK(F:Fun K "show_sign" "show_sign" dq f fd) (T:Txt mg) :aO P w K mg base CX0 1 f fd ["sign"] (spD K 1 du):=by
 have nd:=fK.nd;refine F.okR rfl fK (fun cdv A outer s H E hr=>⟨_,(ai (pO (ae 0) (iY rfl (bz (aV (i:=1) nd rfl (Or.inl rfl)) (bz (aV (i:=2) nd rfl (Or.inl rfl)) iS))))
   (ai (bD (aL td (ae 2) am nbh) (ak (aC (aI aK (aI aK (ae 1) bw) (aI dv bw (ae 2))))) bb)
   (ai (bD (aL xZ (ae 2) am nbh) (ak (aC (aI aK (aI aK (ae 1) bw) (aI dv bw (xb xi (ae 2)))))) bb)
   (ak (aC (ae 1)))))),fun ds M R _ hS bk=>?_⟩)
 obtain⟨a,t,rfl,ha,h1,h2,k⟩:=hS;refine bk ?_;clear bk;have e1:∀l:List Nat,l.length<=2000->(if a.length+(tx l).length<=sizeLine then some (D.str (a++tx l))else none)=some (.str (tx (a.cps.toList++l))):=fun l hl=>by rw[if_pos (by rw[aA];exact szB _ (by lia)),tY]
 have e2:∀l m:List Nat,l.length<=3000->m.length<=2000->(if(tx l).length+(tx m).length<=sizeLine then some (D.str (tx l++tx m))else none)=some (.str (tx (l++m))):=fun l m hl hm=>by rw[if_pos (by rw[aA,aA];exact szB _ (by lia)),iO]
 have ha':a.cps.toList.length<=1000:=by rw[<-fS];exact ha
 walk_at "rd";simp only[tw,s_r,s_l];refine⟨_,rfl,?_⟩;walk_at "rd";refine eN (fun h=>?_) (fun h=>?_)
 ·refine⟨_,e1 [46] (by simp),?_⟩;walk_at "rd";refine⟨_,mn (by lia) (by lia),?_⟩;walk_at "rd";refine⟨_,e2 _ _ (by simp only[List.length_append,List.length_cons,List.length_nil,List.length_replicate];lia) (by simp only[List.length_append,List.length_cons,List.length_nil,List.length_replicate];lia),?_⟩;have:aH (a,t)=tx (a.cps.toList++[46]++List.replicate t.toNat 114):=by simp[aH,sgn,h]
  rw[this]at k;exact k
 ·refine eN (fun h'=>?_) (fun h'=>?_)
  ·refine⟨_,e1 [46] (by simp),?_⟩;walk_at "rd";refine⟨_,mn (n:=-t) (by lia) (by lia),?_⟩;walk_at "rd";refine⟨_,e2 _ _ (by simp only[List.length_append,List.length_cons,List.length_nil,List.length_replicate];lia) (by simp only[List.length_append,List.length_cons,List.length_nil,List.length_replicate];lia),?_⟩;have:aH (a,t)=tx (a.cps.toList++[46]++List.replicate (-t).toNat 108):=by simp[aH,sgn,h,h']
   rw[this]at k;exact k
  ·have:aH (a,t)=a:=by
    have h0:t=0:=by lia
    subst h0;simp only[aH,sgn];simp;exact(pT a).symm
   rw[this]at k;exact k
def cA(row:List (Str×Int)):Str:=if row=[]then tx [49]else Str.join ⟨#[32]⟩ (row.map aH)
def dS(row:List (Str×Int)):Prop:=row.length<=2000/\∀x∈row,x.1.length<=8/\-99<=x.2/\x.2<=99
theorem k5{x:Str×Int}(h:x.1.length<=8/\-99<=x.2/\x.2<=99):(aH x).length<=200:=by
 have:=fS x.1;unfold aH sgn;rw[aA,List.length_append]
 split
 ·simp only[List.length_append,List.length_cons,List.length_nil,List.length_replicate];lia
 ·split
  ·simp only[List.length_append,List.length_cons,List.length_nil,List.length_replicate];lia
  ·simp only[List.length_append,List.length_cons,List.length_nil,List.length_replicate];lia
theorem xK{ys:List Str}(h:∀y∈ys,y.length<=200):(ys.map (·.length)).sum<=ys.length*200:=by
 induction ys with
 |nil=>simp
 |cons y ys ih =>
  have h1:=h y (by simp);have h2:=ih fun z hz=>h z (List.mem_cons_of_mem _ hz);simp only[List.map_cons,List.sum_cons,List.length_cons,Nat.add_mul]
  lia
theorem j4{row:List (Str×Int)}(h:dS row):ij (tx [32]) (.lst ((row.map aH).map D.str))=some (.str (Str.join ⟨#[32]⟩ (row.map aH))):=by
 simp only[ij,eE];have:=xK (ys:=row.map aH) fun y hy=>by
  obtain⟨x,hx,rfl⟩:=List.mem_map.mp hy;exact k5 (h.2 x hx)
 rw[List.length_map]at this;have hr:=h.1;rw[if_pos (by rw[aA,List.length_map];simp only[List.length_cons,List.length_nil];lia)];unfold Txt.join;rw[StrLaws.glued_eq_join];rfl
def eP:SpD:=fun ds M R=>∃row:List (Str×Int),ds=[.tup (row.map aJ)]/\dS row/\R (.str (cA row)) M
theorem jY{row:List (Str×Int)}{M:DH}{R:D->DH->Prop}:eP [.tup (row.map aJ)] M R↔dS row/\R (.str (cA row)) M :=
 ⟨fun⟨r,e,h⟩=>by simp only[List.cons.injEq,D.tup.injEq,and_true]at e;rw[mJ lx e];exact h,fun h=>⟨row,rfl,h⟩⟩
theorem kI(F:Fun K "show_row" "show_row" cI f fd) (T:Txt mg) (Y2:FnD P w K mg base "show_sign" 1 1 du):aO P w K mg base CX0 2 f fd ["row"] (spD K 1 eP):=by
 have nd:=gf.nd;refine F.okR rfl gf (fun cdv A outer s H E hr=>⟨_,(ai (bD (aL (iM hr.units) (aB cm rfl T.b_len (by kernel_rfl) (af (ae 0) ah)) am nbh) (ak (aC (bG rfl T.g_NO_SIGNS))) bb)
   (ak (aC (gL bw (ff (ms:=[false]) (ao:=["sign"]) (aD (n0:=0) rfl (show aS (ag cI) eL _ _=true from by decide +kernel)) rfl (ba (ae 0)) (aR (i:=1) (show(eL++_).Nodup from by decide +kernel) rfl rfl) (fun _ _ _ _=>bH) (fun _ _ _ _=>(qd Y2 hr (af (ae 1) ah)))))))),fun ds M R _ hS bk=>?_⟩)
 obtain⟨row,rfl,hrow,k⟩:=hS;refine bk ?_;clear bk;walk_at "rd";simp only[vh,sI];rw[List.length_map];refine eN (fun h=>?_) (fun h=>?_)
 ·have h0:row=[]:=List.length_eq_zero_iff.mp (by simpa using h);simp only[cA,h0,if_true]at k;exact k
 ·have h0:¬ row=[]:=fun e=>h (by rw[e];rfl);simp only[cA,h0,if_false]at k;refine fun hz=>⟨hz,?_⟩;refine bM (fun _=>true) (fun d=>match d with|.tup [.str a,.int t]=>.str (aH (a,t))|_=>.non) (fun Δ=>∃x,Δ=[none,x]) _ _ _ (fun d hd Δ hΔ=>?_) ⟨none,rfl⟩ ?_
  ·obtain⟨x,rfl⟩:=hΔ;obtain⟨⟨a,t⟩,hx,rfl⟩:=List.mem_map.mp hd;have hb:=hrow.2 _ hx;refine⟨_,rfl,⟨_,rfl⟩,fun Q1 q=>q,fun _ Q2 q=>?_⟩;simp only[aJ];walk_at "rd";exact jg.mpr ⟨Nat.le_trans hb.1 (by decide),by have:=hb.2.1;simp at this;lia,by have:=hb.2.2;simp at this;lia,q⟩
  ·rw[List.nil_append,List.filter_eq_self.mpr (fun _ _=>rfl),List.map_map];have e:(row.map ((fun d=>match d with|.tup [.str a,.int t]=>D.str (aH (a,t))|_=>.non)∘aJ))=(row.map aH).map D.str:=by
    rw[List.map_map];rfl
   rw[e];exact⟨_,j4 hrow,k⟩
def dA(x:Str):D:=if 0<x.length/\Txt.count x (tx [114])=(x.length:Int)then .int x.length else if 0<x.length/\Txt.count x (tx [108])=(x.length:Int)then .int (-(x.length:Int))else .non
def fq:SpD:=fun ds M R=>∃x:Str,ds=[.str x]/\x.length<=1000000/\R (dA x) M
theorem kM{x:Str}{M:DH}{R:D->DH->Prop}:fq [.str x] M R↔x.length<=1000000/\R (dA x) M :=
 ⟨fun⟨r,e,h⟩=>by simp only[List.cons.injEq,D.str.injEq,and_true]at e;rw[e];exact h,fun h=>⟨x,rfl,h⟩⟩
theorem mU(F:Fun K "turn_in" "turn_in" e8 f fd) (T:Txt mg) :aO P w K mg base CX0 1 f fd ["letters"] (spD K 1 fq):=by
 have nd:=gS.nd;refine F.okR rfl gS (fun cdv A outer s H E hr=>⟨_,(ai (aN (i:=1) nd rfl (Or.inl rfl) (aB cm rfl T.b_len (by kernel_rfl) (af (ae 0) ah)))
   (ai (bD (nB (jE (aL td (ae 1) am nbh) (jy (aL (iM hr.units) (qt (ae 0) bw) (ae 1) nbh)))) (ak (aC (ae 1))) bb)
   (ai (bD (nB (jE (aL td (ae 1) am nbh) (jy (aL (iM hr.units) (qt (ae 0) bw) (ae 1) nbh)))) (ak (aC (xb xi (ae 1)))) bb)
   (ak (aC k7))))),fun ds M R _ hS bk=>?_⟩)
 obtain⟨x,rfl,hx,k⟩:=hS;refine bk ?_;clear bk;walk_at "rd";simp only[s_r,s_l];refine⟨_,if_pos (szB _ (by lia)),?_⟩;walk_at "rd";unfold dA at k
 by_cases h0:0<x.length
 ·have h0':(0:Int)<(x.length:Int):=by lia
  simp only[h0,h0',true_and,if_true,beq_iff_eq]at k ⊢
  by_cases h1:Txt.count x (tx [114])=(x.length:Int)
  ·simp only[h1,if_true]at k ⊢;exact k
  ·simp only[h1,if_false]at k ⊢
   by_cases h2:Txt.count x (tx [108])=(x.length:Int)
   ·simp only[h2,if_true]at k ⊢;exact k
   ·simp only[h2,if_false]at k ⊢;exact k
 ·have h0':¬ (0:Int)<(x.length:Int):=by lia
  simp only[h0,h0',false_and,if_false]at k ⊢;exact k
def bU(x:Str):D:=match Txt.split x (tx [46])with
 |[_]=>.tup [.str x,.int 0]
 |[a,b]=>.tup [.str a,dA b]
 |_=>.non
def fE:SpD:=fun ds M R=>∃x:Str,ds=[.str x]/\x.length<=1000000/\R (bU x) M
theorem kK{x:Str}{M:DH}{R:D->DH->Prop}:fE [.str x] M R↔x.length<=1000000/\R (bU x) M :=
 ⟨fun⟨r,e,h⟩=>by simp only[List.cons.injEq,D.str.injEq,and_true]at e;rw[e];exact h,fun h=>⟨x,rfl,h⟩⟩
theorem jJ{x y p:Str}(h:p∈Txt.split x y):p.length<=x.length:=part_short h
theorem mE(F:Fun K "sign_in" "sign_in" fL f fd) (T:Txt mg) (ga0:FnD P w K mg base "turn_in" 1 1 fq):aO P w K mg base CX0 2 f fd ["text"] (spD K 1 fE):=by
 have nd:=h7.nd;refine F.okR rfl h7 (fun cdv A outer s H E hr=>⟨_,(ai (aN (i:=1) nd rfl (Or.inl rfl) (eF (ae 0) bw))
   (ai (bD (aL (iM hr.units) (aB cm rfl T.b_len (by kernel_rfl) (af (ae 1) ah)) am nbh) (ak (aC (cQ (af (ae 0) (af am ah))))) bb)
   (ai (bD (aL (iM hr.units) (aB cm rfl T.b_len (by kernel_rfl) (af (ae 1) ah)) am nbh) (ak (aC (cQ (af (bJ bL (ae 1) am (fun _ _=>rfl)) (af (qd ga0 hr (af (bJ bL (ae 1) am (fun _ _=>rfl)) ah)) ah))))) bb)
   (ak (aC k7))))),fun ds M R _ hS bk=>?_⟩)
 obtain⟨x,rfl,hx,k⟩:=hS;refine bk ?_;clear bk;walk_at "rd";simp only[tw];refine⟨by rw[aA];rfl,szB _ (by lia),?_⟩;unfold bU at k;have hpl:∀p∈Txt.split x (tx [46]),p.length<=x.length:=fun p hp=>jJ hp;rw[List.length_map];generalize Txt.split x (tx [46])=ps at k hpl
 match ps,k,hpl with
 |[],k,_ =>
  simp only[List.length_nil];rw[if_neg (by decide),if_neg (by decide)];exact k
 |[a],k,_ =>
  simp only[List.length_cons,List.length_nil];rw[if_pos (by decide)];exact⟨sz3 2,k⟩
 |[a,b],k,hpl =>
  simp only[List.length_cons,List.length_nil];rw[if_neg (by decide),if_pos (by decide)];walk_at "rd";have:=hpl b (by simp);exact kM.mpr ⟨by lia,sz3 2,k⟩
 |a::b::c::r,k,_ =>
  simp only[List.length_cons];rw[if_neg (by simp;lia),if_neg (by simp;lia)];exact k
theorem nv{x:Str}:ax (dA x)=true:=by
 unfold dA
 split
 ·rfl
 ·split<;>rfl
theorem nH{x:Str}(hx:x.length<=1000000):ax (bU x)=true:=by
 unfold bU;have hpl:∀p∈Txt.split x (tx [46]),p.length<=x.length:=fun p hp=>jJ hp;generalize Txt.split x (tx [46])=ps at hpl
 match ps,hpl with
 |[],_=>rfl
 |[a],_=>simp only[ax,aT,decide_eq_true hx,Bool.and_self]
 |[a,b],hpl =>
  have:=hpl a (by simp);simp only[ax,aT,decide_eq_true (by lia:a.length<=1000000),nv,Bool.and_self]
 |a::b::c::r,_=>rfl
def oB(x:Str):D:=if x=tx [49]then .tup []else if oX (.tup ((Txt.split x (tx [32])).map bU))=true then .tup ((Txt.split x (tx [32])).map bU)else .non
def gp:SpD:=fun ds M R=>∃x:Str,ds=[.str x]/\x.length<=1000000/\R (oB x) M
theorem m9{x:Str}{M:DH}{R:D->DH->Prop}:gp [.str x] M R↔x.length<=1000000/\R (oB x) M :=
 ⟨fun⟨r,e,h⟩=>by simp only[List.cons.injEq,D.str.injEq,and_true]at e;rw[e];exact h,fun h=>⟨x,rfl,h⟩⟩
theorem nh(F:Fun K "row_in" "row_in" eI f fd) (T:Txt mg) (G7:FnD P w K mg base "is_row" 4 1 gK) (ga5:FnD P w K mg base "sign_in" 2 1 fE):aO P w K mg base CX0 5 f fd ["text"] (spD K 1 gp):=by
 have nd:=i7.nd;refine F.okR rfl i7 (fun cdv A outer s H E hr=>⟨_,(ai (bD (aL (iM hr.units) (ae 0) (bG rfl T.g_NO_SIGNS) nbh) (ak (aC (cQ ah))) bb)
   (ai (aN (i:=1) nd rfl (Or.inl rfl) (cB dj rfl T.b_tuple (by kernel_rfl) (af (ff (ms:=[false,false]) (ao:=["part"]) (aD (n0:=0) rfl (show aS (ag eI) gE _ _=true from by decide +kernel)) rfl (ba (eF (ae 0) bw)) (aR (i:=2) (show(gE++_).Nodup from by decide +kernel) rfl rfl) (fun _ _ _ _=>bH) (fun _ _ _ _=>(qd ga5 hr (af (ae 2) ah)))) ah)))
   (ak (aC (Ap (eB (qd G7 hr (af (ae 1) ah))) (ae 1) k7))))),fun ds M R _ hS bk=>?_⟩)
 obtain⟨x,rfl,hx,k⟩:=hS;refine bk ?_;clear bk;walk_at "rd";simp only[vh,sI];unfold oB at k;refine eN (fun h=>?_) (fun h=>?_)
 ·rw[if_pos (by simpa using h)]at k;exact⟨sz3 0,k⟩
 ·rw[if_neg (by simpa using h)]at k;refine⟨by rw[aA];rfl,szB _ (by lia),?_⟩;intro hz;refine⟨hz,?_⟩;have hpl:∀p∈Txt.split x (tx [32]),p.length<=1000000:=fun p hp=>Nat.le_trans (jJ hp) hx;generalize Txt.split x (tx [32])=ps at k hpl hz;refine bM (fun _=>true) (fun d=>match d with|.str y=>bU y|_=>.non) (fun Δ=>∃x2,Δ=[none,none,x2]) _ _ _ (fun d hd Δ hΔ=>?_) ⟨none,rfl⟩ ?_
  ·obtain⟨x2,rfl⟩:=hΔ;obtain⟨y,hy,rfl⟩:=List.mem_map.mp hd;refine⟨_,rfl,⟨_,rfl⟩,fun Q1 q=>q,fun _ Q2 q=>?_⟩;walk_at "rd";exact kK.mpr ⟨hpl y hy,q⟩
  ·rw[List.nil_append,List.filter_eq_self.mpr (fun _ _=>rfl),List.map_map];have e:ps.map ((fun d=>match d with|.str y=>bU y|_=>.non)∘D.str)=ps.map bU:=rfl;rw[e];refine dJ.mpr ⟨?_,_,rfl,?_⟩
   ·rw[ax,bh];intro d hd;obtain⟨y,hy,rfl⟩:=List.mem_map.mp hd;exact nH (hpl y hy)
   ·refine eN (fun h=>?_) (fun h=>?_)
    ·rw[if_pos h]at k;exact k
    ·rw[if_neg h]at k;exact k
theorem tJ{t:Int}{c:Nat}(h:c∈sgn t):c=46∨c=114∨c=108:=by
 unfold sgn at h
 split at h
 ·rcases List.mem_cons.mp h with h|h
  ·exact .inl h
  ·exact .inr (.inl (List.eq_of_mem_replicate h))
 ·split at h
  ·rcases List.mem_cons.mp h with h|h
   ·exact .inl h
   ·exact .inr (.inr (List.eq_of_mem_replicate h))
  ·cases h
theorem sF{x:Str×Int}(h:au x.1):32∉(aH x).cps.toList:=by
 unfold aH;rw[az];intro hm;rcases List.mem_append.mp hm with hm|hm
 ·have:=h.2.2 _ hm;unfold fA at this;lia
 ·have:=tJ hm;lia
theorem m8{x:Str×Int}(h:au x.1) (h1:-99<=x.2) (h2:x.2<=99):bU (aH x)=aJ x:=by
 obtain⟨a,t⟩:=x;have ha:46∉a.cps.toList:=fun hm=>by have:=h.2.2 _ hm;unfold fA at this;lia
 have two:∀l:List Nat,46∉l->Txt.split (tx (a.cps.toList++46::l)) (tx [46])=[a,tx l]:=fun l hl=>by
  have e:tx (a.cps.toList++46::l)=Str.join ⟨#[46]⟩ [a,tx l]:=by
   apply fN;rw[gU,az];show _=a.cps.toList++46::(tx l).cps.toList;rw[az]
  rw[e];refine eO (by simp) fun p hp=>?_;simp only[List.mem_cons,List.not_mem_nil,or_false]at hp;rcases hp with rfl|rfl
  ·exact ha
  ·rw[az];exact hl
 have cnt1:∀(c:Nat) (l:List Nat),Txt.count (tx l) (tx [c])=cnt c l:=fun c l=>by
  have:=L2.qI (tx l) c;rw[az]at this;exact this
 simp only at h1 h2
 by_cases hp:0<t
 ·have e:aH (a,t)=tx (a.cps.toList++46::List.replicate t.toNat 114):=by simp[aH,sgn,hp]
  have hl:((tx (List.replicate t.toNat 114)).length:Int)=t:=by rw[aA,List.length_replicate];lia
  unfold bU;rw[e,two _ (by intro hm;have:=List.eq_of_mem_replicate hm;lia)];show D.tup [.str a,dA (tx (List.replicate t.toNat 114))]=_;unfold dA;rw[if_pos ⟨by lia,by rw[cnt1,jw,hl];simp;lia⟩,hl];rfl
 ·by_cases hn:t<0
  ·have e:aH (a,t)=tx (a.cps.toList++46::List.replicate (-t).toNat 108):=by simp[aH,sgn,hp,hn]
   have hl:((tx (List.replicate (-t).toNat 108)).length:Int)=-t:=by rw[aA,List.length_replicate];lia
   unfold bU;rw[e,two _ (by intro hm;have:=List.eq_of_mem_replicate hm;lia)];show D.tup [.str a,dA (tx (List.replicate (-t).toNat 108))]=_;unfold dA;rw[if_neg (by rintro⟨_,z⟩;rw[cnt1,jw,hl]at z;simp at z;lia),if_pos ⟨by lia,by rw[cnt1,jw,hl];simp;lia⟩,hl];show D.tup [.str a,.int (- -t)]=D.tup [.str a,.int t];rw[Int.neg_neg]
  ·have h0:t=0:=by lia
   subst h0;have e:aH (a,0)=a:=by
    simp only[aH,sgn];simp;exact(pT a).symm
   have e2:Txt.split a (tx [46])=[a]:=eO (ps:=[a]) (by simp) fun p hp=>by
    have:p=a:=by simpa using hp
    subst this;exact ha
   unfold bU;rw[e,e2];rfl
theorem oG{row:List (Str×Int)}(h:∀x∈row,au x.1/\-99<=x.2/\x.2<=99):oB (cA row)=.tup (row.map aJ):=by
 by_cases h0:row=[]
 ·subst h0;rfl
 ·have hsp:Txt.split (cA row) (tx [32])=row.map aH:=by
   unfold cA;rw[if_neg h0];refine eO (by simpa using h0) fun p hp=>?_;obtain⟨x,hx,rfl⟩:=List.mem_map.mp hp;exact sF (h x hx).1
  have hmap:(row.map aH).map bU=row.map aJ:=by
   rw[List.map_map];apply List.map_congr_left;intro x hx;exact m8 (h x hx).1 (h x hx).2.1 (h x hx).2.2
  unfold oB;rw[if_neg,hsp,hmap,if_pos (sO (by decide) h)];intro e;rw[e]at hsp;have h1:Txt.split (tx [49]) (tx [32])=[tx [49]]:=eO (c:=32) (ps:=[tx [49]]) (by simp) fun p hp=>by
   have:p=tx [49]:=by simpa using hp
   subst this;rw[az];simp
  rw[h1]at hsp;cases row with
  |nil=>exact h0 rfl
  |cons x r =>
   simp only[List.map_cons,List.cons.injEq]at hsp;have hw:=(h x (by simp)).1;have e2:[49]=x.1.cps.toList++sgn x.2:=by
    have:=congrArg (fun z:Str=>z.cps.toList) hsp.1;simpa[aH,az]using this
   have bE:=hw.1;cases hc:x.1.cps.toList with
   |nil=>rw[hc]at bE;simp at bE
   |cons c cs =>
    rw[hc]at e2;simp at e2;have:=hw.2.2 c (by rw[hc];simp);unfold fA at this
    lia
def gR:D->Bool
 |.tup [a,b]=>bX a&&bX b
 |_=>false
def kY:D->Bool
 |.tup ds=>decide (ds.length<=8)&&ds.all gR
 |_=>false
def fF:SpD:=fun ds M R=>∃d,ds=[d]/\ax d=true/\R (.bl (gR d)) M
def eR:SpD:=fun ds M R=>∃d,ds=[d]/\ax d=true/\R (.bl (kY d)) M
theorem kS{d:D}{M:DH}{R:D->DH->Prop}:fF [d] M R↔ax d=true/\R (.bl (gR d)) M :=
 ⟨fun⟨d',e,h⟩=>by simp only[List.cons.injEq,and_true]at e;rw[e];exact h,fun h=>⟨d,rfl,h⟩⟩
theorem fI{d:D}{M:DH}{R:D->DH->Prop}:eR [d] M R↔ax d=true/\R (.bl (kY d)) M :=
 ⟨fun⟨d',e,h⟩=>by simp only[List.cons.injEq,and_true]at e;rw[e];exact h,fun h=>⟨d,rfl,h⟩⟩
theorem rk{ds:List D}(h:¬ ds.length=2):gR (.tup ds)=false:=by
 match ds,h with
 |[],_=>rfl
 |[_],_=>rfl
 |[_,_],h=>exact absurd rfl h
 |_::_::_::_,_=>rfl
theorem mS(F:Fun K "is_pair" "is_pair" fB f fd) (T:Txt mg) (G1:FnD P w K mg base "is_tuple_of" 1 2 bv) (G2:FnD P w K mg base "is_mark" 2 1 cC):aO P w K mg base CX0 3 f fd ["thing"] (spD K 1 fF):=by
 have nd:=iq.nd;refine F.okR rfl iq (fun cdv A outer s H E hr=>⟨_,(ak (aC (bQ (qd G1 hr (af (ae 0) (af am ah))) (bQ (qd G2 hr (af (bJ bL (ae 0) am (fun _ _=>rfl)) ah)) (dX (qd G2 hr (af (bJ bL (ae 0) am (fun _ _=>rfl)) ah))))))),fun ds M R _ hS bk=>?_⟩);obtain⟨d,rfl,hd,k⟩:=hS;refine bk ?_;clear bk;walk_at "rd";refine b7.mpr ⟨hd,?_⟩;walk_at "rd";cases d with
 |tup ds =>
  by_cases hl:ds.length=2
  ·match ds,hl,hd,k with
   |[a,b],_,hd,k =>
    have hab:ax a=true/\ax b=true:=by simpa[ax,aT]using hd
    rw[if_pos (by rfl)];walk_at "rd";refine cz.mpr ⟨hab.1,?_⟩;walk_at "rd";simp only[gR]at k;refine eN (fun h=>cz.mpr ⟨hab.2,?_⟩) (fun h=>?_)
    ·rw[h,Bool.true_and]at k;exact k
    ·rw[show bX a=false by simpa using h,Bool.false_and]at k;exact k
  ·rw[if_neg (by simp only[lj];simp;lia)];rw[rk hl]at k;exact k
 |scr _=>simp[ax]at hd
 |ref _=>simp[ax]at hd
 |box _ _=>simp[ax]at hd
 |_=>rw[if_neg (by simp[lj])];exact k
theorem kW(F:Fun K "is_order" "is_order" cL f fd) (T:Txt mg) (ga7:FnD P w K mg base "is_pair" 3 1 fF):aO P w K mg base CX0 4 f fd ["thing"] (spD K 1 eR):=by
 have nd:=fY.nd;refine F.okR rfl fY (fun cdv A outer s H E hr=>⟨_,(ak (aC (bQ (dg (Tn:="tuple") (by decide) rfl T.b_isinstance rfl T.b_tuple (by kernel_rfl) (ae 0)) (bQ (nY k4 (aB cm rfl T.b_len (by kernel_rfl) (af (ae 0) ah)) (cZ rfl T.g_MOST_PAIRS) nbh) (dX (aB (jB rfl) rfl T.b_all (by kernel_rfl) (af (ff (ms:=[false]) (ao:=["pair"]) (aD (n0:=0) rfl (show aS (ag cL) eQ _ _=true from by decide +kernel)) rfl (ba (ae 0)) (aR (i:=1) (show(eQ++_).Nodup from by decide +kernel) rfl rfl) (fun _ _ _ _=>bH) (fun _ _ _ _=>(qd ga7 hr (af (ae 1) ah)))) ah))))))),fun ds M R _ hS bk=>?_⟩);obtain⟨d,rfl,hd,k⟩:=hS;refine bk ?_;clear bk;walk_at "rd";simp only[dH hd];cases d with
 |tup ds =>
  refine⟨true,rfl,?_⟩;walk_at "rd";have hds:∀d∈ds,ax d=true:=bh.mp (by simpa[ax]using hd);refine eN (fun h1=>fun hz=>⟨hz,?_⟩) (fun h1=>?_)
  ·refine tu (f:=gR) (Δ0:=[none]) (n:=1) (fun d hd' x Q2 q=>?_) ?_
   ·walk_at "rd";exact kS.mpr ⟨hds d hd',q⟩
   ·refine⟨_,kf,?_⟩;have e:(ds.map gR).all id=kY (.tup ds):=by
     simp only[kY,List.all_map,decide_eq_true (by lia:ds.length<=8),Bool.true_and];rfl
    rw[e];exact k
  ·have e:kY (.tup ds)=false:=by simp only[kY,decide_eq_false (by lia:¬ ds.length<=8),Bool.false_and]
   rw[e]at k;exact k
 |scr _=>simp[ax]at hd
 |ref _=>simp[ax]at hd
 |box _ _=>simp[ax]at hd
 |_=>exact⟨false,rfl,by simp only[Bool.false_eq_true,if_false];exact k⟩
theorem bo{α:Type}{g:GD}{tc:TTd}{te:TEd}{M:DH}{Q:List D->DH->Prop}(enc:α->D) (b:α->Bool) (y:α->D) (Ok:DE->Prop):∀(xs:List α) (Δ:DE) (acc:List D),
  (∀x∈xs,∀ Δ,Ok Δ->∃ Δ',g (enc x) Δ=some Δ'/\Ok Δ'/\(∀Q1:Bool->DH->Prop,Q1 (b x) M->tc Δ' M Q1)/\(b x=true->∀Q2:D->DH->Prop,Q2 (y x) M->te Δ' M Q2))->Ok Δ ->
  Q (acc++(xs.filter b).map y) M->cH g tc te (xs.map enc) Δ M acc Q
 |[],Δ,acc,_,_,q=>by simpa[cH]using q
 |x::xs,Δ,acc,h,hΔ,q=>by
  rw[List.map_cons];simp only[cH];obtain⟨Δ',e,hΔ',h1,h2⟩:=h x (.head _) Δ hΔ;refine⟨Δ',e,h1 _ ?_⟩;have ih:=fun acc' q'=>bo (Q:=Q) enc b y Ok xs Δ' acc' (fun z hz=>h z (.tail _ hz)) hΔ' q';cases hb:b x with
  |true =>
   simp only[if_true];refine h2 hb _ (ih _ ?_);rw[List.filter_cons_of_pos hb]at q;simpa using q
  |false =>
   simp only[Bool.false_eq_true,if_false];refine ih _ ?_;rw[List.filter_cons_of_neg (by simp[hb])]at q;exact q
theorem iu{α:Type} [DecidableEq α] (f:α->D) (hf:∀x y,eqD (f x) (f y)=decide (x=y)):∀{a b:List α},bZ (a.map f) (b.map f)=decide (a=b)
 |[],[]=>by simp[bZ]
 |[],_::_=>by simp[bZ]
 |_::_,[]=>by simp[bZ]
 |x::a,y::b=>by
  rw[List.map_cons,List.map_cons,bZ,iu f hf (a:=a) (b:=b),hf];simp
theorem tH{α:Type}(f:α->D) (hf:∀x,dLe (f x) 59=true) {a:List α}:bu (a.map f) 59=true:=by
 rw[cg];intro d hd;obtain⟨x,_,rfl⟩:=List.mem_map.mp hd;exact hf x
theorem qU{τ:Type}:∀{xs:List τ},xs.Nodup->fW xs=xs:=by
 intro xs hn;have key:∀(xs zs:List τ),(zs++xs).Nodup->xs.foldl h9 zs=zs++xs:=by
  intro xs
  induction xs with
  |nil=>intro zs _;simp
  |cons x xs ih =>
   intro zs h;have hx:x∉zs:=fun z=>by
    rw[List.nodup_append]at h;exact h.2.2 x z x (.head _) rfl
   rw[List.foldl_cons,show h9 zs x=zs++[x]from if_neg hx,ih _ (by simpa using h)];simp
 have:=key xs [] (by simpa using hn);simpa[fW]using this
theorem mV{α:Type}(l:List α):rj (.lst (l.map fun _=>D.bl true))=some (.bl true):=by
 have h1:(l.map fun _=>D.bl true).all ub=true:=by
  rw[List.all_eq_true];intro d hd;obtain⟨_,_,rfl⟩:=List.mem_map.mp hd;rfl
 have h2:(l.map fun _=>D.bl true).all qR=true:=by
  rw[List.all_eq_true];intro d hd;obtain⟨_,_,rfl⟩:=List.mem_map.mp hd;rfl
 simp only[rj,h1,h2,if_true]
abbrev Row:=List (Str×Int)
def a7(r:Row):D:=.tup (r.map aJ)
def bA(ks:List Row):D:=.tup (ks.map a7)
def bF(e:Str×List Row):D:=.tup [.str e.1,bA e.2]
def gX(ord:List (Str×Str)) (zf:Str) (es:List (Str×List Row)):D:=.tup [.tup (ord.map aQ),.str zf,.tup (es.map bF)]
def iV(r:Row):Prop:=r.length<=5/\∀x∈r,au x.1/\-99<=x.2/\x.2<=99
def bN(ks:List Row):Prop:=1<=ks.length/\ks.length<=4/\ks.Nodup/\∀r∈ks,iV r
def dn(es:List (Str×List Row)):Prop:=1<=es.length/\es.length<=10/\(es.map (·.1)).Nodup/\∀e∈es,au e.1/\bN e.2
def kR(r:Row):List KD:=r.map fun x=>.tup [.str x.1,.int x.2]
theorem u4(r:Row):rP (kR r)=a7 r:=by
 unfold rP kR a7;rw[jA,List.map_map];rfl
theorem wH{a b:Row}(h:kR a=kR b):a=b:=by
 unfold kR at h;refine(List.map_inj_right ?_).mp h;rintro⟨x1,x2⟩ ⟨y1,y2⟩ e;simp only[KD.tup.injEq,List.cons.injEq,KD.str.injEq,KD.int.injEq,and_true]at e;rw[e.1,e.2]
theorem zw(r:Row):dpK 8 (.tup (kR r)):=by
 intro k hk;obtain⟨x,_,rfl⟩:=List.mem_map.mp hk;intro z hz;simp only[List.mem_cons,List.not_mem_nil,or_false]at hz;rcases hz with rfl|rfl<;>simp[dpK]
theorem sV(ks:List Row):ks.map a7=(ks.map kR).map rP:=by
 rw[List.map_map];exact List.map_congr_left fun r _=>(u4 r).symm
theorem ze{ks:List Row}(h:ks.Nodup):(ks.map kR).Nodup:=by
 rw[List.nodup_iff_pairwise_ne,List.pairwise_map];exact(List.nodup_iff_pairwise_ne.mp h).imp fun h e=>h (wH e)
theorem rF:∀{xs:List Str},xs.Nodup->eY xs=xs:=by
 intro xs hn;have key:∀(xs zs:List Str),(zs++xs).Nodup->xs.foldl i4 zs=zs++xs:=by
  intro xs
  induction xs with
  |nil=>intro zs _;simp
  |cons x xs ih =>
   intro zs h;have hx:x∉zs:=fun z=>by
    rw[List.nodup_append]at h;exact h.2.2 x z x (.head _) rfl
   rw[List.foldl_cons,show i4 zs x=zs++[x]from if_neg hx,ih _ (by simpa using h)];simp
 have:=key xs [] (by simpa using hn);simpa[eY]using this
theorem xa:∀x y:Str×Int,eqD (aJ x) (aJ y)=decide (x=y):=fun⟨a,b⟩ ⟨c,d⟩=>by
 rw[Bool.eq_iff_iff];simp[aJ,eqD,bZ]
theorem uh:∀x y:Row,eqD (a7 x) (a7 y)=decide (x=y):=fun x y=>by
 simp only[a7,eqD];exact iu aJ xa
theorem oz(x:Row):dLe (a7 x) 59=true:=by
 show bu (x.map aJ) 58=true;rw[cg];intro d hd;obtain⟨y,_,rfl⟩:=List.mem_map.mp hd;rfl
def cY:SpD:=fun ds M R=>(∃ks:List Row,ds=[bA ks]/\ks.Nodup/\ks.length<=4/\R (.bl true) M)∨∃ws:List Str,ds=[.lst (ws.map .str)]/\ws.Nodup/\ws.length<=10/\R (.bl true) M
theorem lL{r:Row}(h:iV r):ax (a7 r)=true:=by
 show aT (r.map aJ)=true;exact rW fun x hx=>aY (h.2 x hx).1
theorem oR{ks:List Row}(h:∀r∈ks,iV r):ax (bA ks)=true:=by
 show aT (ks.map a7)=true;rw[bh];intro d hd;obtain⟨r,hr,rfl⟩:=List.mem_map.mp hd;exact lL (h r hr)
theorem dW{w:Str}(h:au w):ax (.str w)=true:=by
 have:=aY h;simp only[ax,decide_eq_true_eq];lia
theorem rX{e:Str×List Row}(h:au e.1) (h2:bN e.2):ax (bF e)=true:=by
 show aT [.str e.1,bA e.2]=true;simp[aT,dW h,oR h2.2.2.2]
theorem jj(F:Fun K "are_unlike" "are_unlike" c8 f fd) (T:Txt mg) :aO P w K mg base CX0 1 f fd ["things"] (spD K 1 cY):=by
 have nd:=eW.nd;refine F.okR rfl eW (fun cdv A outer s H E hr=>⟨_,(ak (aC (nY (iM hr.units) (Az rfl hr.units rfl T.b_len rfl T.b_set (ae 0)) (aB cm rfl T.b_len (by kernel_rfl) (af (ae 0) ah)) nbh))),fun ds M R _ hS bk=>?_⟩);refine bk ?_;clear bk;rcases hS with⟨ks,rfl,hn,hl,k⟩|⟨ws,rfl,hn,hl,k⟩
 ·simp only[bA];walk_at "rd";refine .inl ⟨ks.map kR,sV ks,fun k hk=>?_,by rw[List.length_map];lia,?_⟩
  ·obtain⟨r,_,rfl⟩:=List.mem_map.mp hk;exact zw r
  ·rw[qU (ze hn)];rw[List.length_map,List.length_map,beq_self_eq_true];exact k
 ·walk_at "rd";refine .inr ⟨ws,rfl,by lia,?_⟩;rw[rF hn];rw[List.length_map,beq_self_eq_true];exact k
def i5:SpD:=fun ds M R=>∃r:Row,ds=[a7 r]/\iV r/\R (.bl true) M
theorem mT(F:Fun K "is_kind" "is_kind" fc f fd) (T:Txt mg) (G7:FnD P w K mg base "is_row" 4 1 gK):aO P w K mg base CX0 5 f fd ["thing"] (spD K 1 i5):=by
 have nd:=ic.nd;refine F.okR rfl ic (fun cdv A outer s H E hr=>⟨_,(ak (aC (bQ (qd G7 hr (af (ae 0) ah)) (dX (nY k4 (aB cm rfl T.b_len (by kernel_rfl) (af (ae 0) ah)) (cZ rfl T.g_MOST_SIGNS) nbh))))),fun ds M R _ hS bk=>?_⟩);obtain⟨r,rfl,hr,k⟩:=hS;refine bk ?_;clear bk;walk_at "rd";refine dJ.mpr ⟨lL hr,?_⟩;rw[show oX (a7 r)=true from sO (n:=99) (by lia) hr.2];simp only[a7];walk_at "rd";rw[List.length_map,show decide ((r.length:Int)<=5)=true by have:=hr.1;simp;lia];exact k
def gg:SpD:=fun ds M R=>∃ks:List Row,ds=[bA ks]/\bN ks/\R (.bl true) M
theorem kE(F:Fun K "are_kinds" "are_kinds" cx f fd) (T:Txt mg) (G4:FnD P w K mg base "are_unlike" 1 1 cY) (Y9:FnD P w K mg base "is_kind" 5 1 i5):aO P w K mg base CX0 6 f fd ["thing"] (spD K 1 gg):=by
 have nd:=e6.nd;refine F.okR rfl e6 (fun cdv A outer s H E hr=>⟨_,(ak (aC (bQ (dg (Tn:="tuple") (by decide) rfl T.b_isinstance rfl T.b_tuple (by kernel_rfl) (ae 0)) (bQ (jx k4 k4 am (aB cm rfl T.b_len (by kernel_rfl) (af (ae 0) ah)) (cZ rfl T.g_MOST_KINDS)) (bQ (aB (jB rfl) rfl T.b_all (by kernel_rfl) (af (ff (ms:=[false]) (ao:=["kind"]) (aD (n0:=0) rfl (show aS (ag cx) dw _ _=true from by decide +kernel)) rfl (ba (ae 0)) (aR (i:=1) (show(dw++_).Nodup from by decide +kernel) rfl rfl) (fun _ _ _ _=>bH) (fun _ _ _ _=>(qd Y9 hr (af (ae 1) ah)))) ah)) (dX (qd G4 hr (af (ae 0) ah)))))))),fun ds M R _ hS bk=>?_⟩);obtain⟨ks,rfl,hk,k⟩:=hS;have h1:=hk.1;have h4:=hk.2.1;refine bk ?_;clear bk;simp only[bA];walk_at "rd";refine⟨true,rfl,?_⟩;rw[if_pos rfl,List.length_map,if_pos (by lia),if_pos (by lia)];refine fun hz=>⟨hz,bo a7 (fun _=>true) (fun _=>D.bl true) (fun Δ=>∃x,Δ=[none,x]) ks _ _ (fun r hr Δ hΔ=>?_) ⟨none,rfl⟩ ?_⟩
 ·obtain⟨x,rfl⟩:=hΔ;refine⟨_,rfl,⟨_,rfl⟩,fun Q1 q=>q,fun _ Q2 q=>?_⟩;walk_at "rd";exact⟨r,rfl,hk.2.2.2 r hr,q⟩
 ·rw[List.nil_append,List.filter_eq_self.mpr (fun _ _=>rfl)];refine⟨_,mV ks,_,rfl,?_⟩;rw[if_pos rfl];exact .inl ⟨ks,rfl,hk.2.2.1,h4,k⟩
def gT:SpD:=fun ds M R=>∃e:Str×List Row,ds=[bF e]/\au e.1/\bN e.2/\R (.bl true) M
theorem kJ(F:Fun K "is_entry" "is_entry" dZ f fd) (T:Txt mg) (G1:FnD P w K mg base "is_tuple_of" 1 2 bv) (G3:FnD P w K mg base "is_short_word" 1 1 bf) (Y1:FnD P w K mg base "are_kinds" 6 1 gg):aO P w K mg base CX0 7 f fd ["thing"] (spD K 1 gT):=by
 have nd:=fZ.nd;refine F.okR rfl fZ (fun cdv A outer s H E hr=>⟨_,(ak (aC (bQ (qd G1 hr (af (ae 0) (af am ah))) (bQ (qd G3 hr (af (bJ bL (ae 0) am (fun _ _=>rfl)) ah)) (dX (qd Y1 hr (af (bJ bL (ae 0) am (fun _ _=>rfl)) ah))))))),fun ds M R _ hS bk=>?_⟩);obtain⟨e,rfl,hw,hk,k⟩:=hS;refine bk ?_;clear bk;walk_at "rd";refine b7.mpr ⟨rX hw hk,true,rfl,?_⟩;rw[if_pos rfl];refine⟨.str e.1,rfl,bR.mpr ⟨dW hw,true,?_,?_⟩⟩
 ·rw[show bX (.str e.1)=true from da hw]
 ·rw[if_pos rfl];exact⟨bA e.2,rfl,e.2,rfl,hk,k⟩
def cF:SpD:=fun ds M R=>∃es:List (Str×List Row),ds=[.tup (es.map bF)]/\dn es/\R (.bl true) M
theorem iE(F:Fun K "are_entries" "are_entries" bx f fd) (T:Txt mg) (G4:FnD P w K mg base "are_unlike" 1 1 cY) (Y8:FnD P w K mg base "is_entry" 7 1 gT):aO P w K mg base CX0 8 f fd ["thing"] (spD K 1 cF):=by
 have nd:=dU.nd;refine F.okR rfl dU (fun cdv A outer s H E hr=>⟨_,(ak (aC (bQ (dg (Tn:="tuple") (by decide) rfl T.b_isinstance rfl T.b_tuple (by kernel_rfl) (ae 0)) (bQ (jx k4 k4 am (aB cm rfl T.b_len (by kernel_rfl) (af (ae 0) ah)) (cZ rfl T.g_MOST_ENTRIES)) (bQ (aB (jB rfl) rfl T.b_all (by kernel_rfl) (af (ff (ms:=[false]) (ao:=["entry"]) (aD (n0:=0) rfl (show aS (ag bx) bc _ _=true from by decide +kernel)) rfl (ba (ae 0)) (aR (i:=1) (show(bc++_).Nodup from by decide +kernel) rfl rfl) (fun _ _ _ _=>bH) (fun _ _ _ _=>(qd Y8 hr (af (ae 1) ah)))) ah)) (dX (qd G4 hr (af (ff (ms:=[false]) (ao:=["word","kinds"]) (aD (n0:=0) rfl (show aS (ag bx) bc _ _=true from by decide +kernel)) rfl (ba (ae 0)) (tG (n:=2) rfl (jv (aR (i:=1) (show(bc++_).Nodup from by decide +kernel) rfl rfl) (jv (aR (i:=2) (show(bc++_).Nodup from by decide +kernel) rfl rfl) tP))) (fun _ _ _ _=>bH) (fun _ _ _ _=>(ae 1))) ah)))))))),fun ds M R _ hS bk=>?_⟩);obtain⟨es,rfl,he,k⟩:=hS;have h1:=he.1;have h4:=he.2.1;refine bk ?_;clear bk;walk_at "rd";refine⟨true,rfl,?_⟩;rw[if_pos rfl,List.length_map,if_pos (by lia),if_pos (by lia)];refine fun hz=>⟨hz,bo bF (fun _=>true) (fun _=>D.bl true) (fun Δ=>∃x,Δ=[none,x]) es _ _ (fun e hm Δ hΔ=>?_) ⟨none,rfl⟩ ?_⟩
 ·obtain⟨x,rfl⟩:=hΔ;refine⟨_,rfl,⟨_,rfl⟩,fun Q1 q=>q,fun _ Q2 q=>?_⟩;walk_at "rd";exact⟨e,rfl,(he.2.2.2 e hm).1,(he.2.2.2 e hm).2,q⟩
 ·rw[List.nil_append,List.filter_eq_self.mpr (fun _ _=>rfl)];refine⟨_,mV es,_,rfl,?_⟩;rw[if_pos rfl];refine fun hz2=>⟨hz2,bo bF (fun _=>true) (fun e=>D.str e.1) (fun Δ=>∃x y,Δ=[none,x,y]) es _ _ (fun e hm Δ hΔ=>?_) ⟨none,none,rfl⟩ ?_⟩
  ·obtain⟨x,y,rfl⟩:=hΔ;refine⟨_,rfl,⟨_,_,rfl⟩,fun Q1 q=>q,fun _ Q2 q=>?_⟩;walk_at "rd";exact q
  ·rw[List.nil_append,List.filter_eq_self.mpr (fun _ _=>rfl)];refine .inr ⟨es.map (·.1),by rw[List.map_map];rfl,he.2.2.1,by rw[List.length_map];exact h4,k⟩
theorem oV:(Str.ofString "; ":Str)=tx [59,32]:=by decide +kernel
theorem xp:(Str.ofString " < ":Str)=tx [32,60,32]:=by decide +kernel
theorem pW:(Str.ofString ": ":Str)=tx [58,32]:=by decide +kernel
theorem uo:(Str.ofString " | ":Str)=tx [32,124,32]:=by decide +kernel
theorem ur:(Str.ofString "goal ":Str)=tx [103,111,97,108,32]:=by decide +kernel
theorem vE:(Str.ofString "goal":Str)=tx [103,111,97,108]:=by decide +kernel
def cG(ks:List Row):Str:=Str.join (tx [32,124,32]) (ks.map cA)
def dP(e:Str×List Row):Str:=e.1++tx [58,32]++cG e.2
def ck(x:Str×Str):Str:=x.1++tx [32,60,32]++x.2
def dh(g:Str):Str:=tx [103,111,97,108,32]++g
def cp(ord:List (Str×Str)) (g:Str) (es:List (Str×List Row)):List Str:=dh g::(ord.map ck++es.map dP)
def o1(ord:List (Str×Str)) (g:Str) (es:List (Str×List Row)):Str:=Str.join (tx [59,32]) (cp ord g es)
def h8(ord:List (Str×Str)):Prop:=ord.length<=8/\∀x∈ord,au x.1/\au x.2
theorem iR{r:Row}(h:iV r):dS r:=⟨by have:=h.1;lia,fun x hx=>⟨aY (h.2 x hx).1,(h.2 x hx).2⟩⟩
theorem cV(a b:Str):(a++b).cps.toList=a.cps.toList++b.cps.toList:=by
 show(a.cps++b.cps).toList=_;simp
theorem cJ(a b:Str):(a++b).length=a.length+b.length:=by rw[fS,cV,List.length_append,<-fS,<-fS]
theorem jP{sep:Str}{c:Nat}:∀{ys:List Str},c∈(Str.join sep ys).cps.toList->c∈sep.cps.toList∨∃y∈ys,c∈y.cps.toList
 |[],h=>by cases h
 |[y],h=>.inr ⟨y,by simp,h⟩
 |y::z::r,h=>by
  rw[cN]at h;rcases List.mem_append.mp h with h|h
  ·exact .inr ⟨y,by simp,h⟩
  ·rcases List.mem_append.mp h with h|h
   ·exact .inl h
   ·rcases jP (ys:=z::r) h with h|⟨w,hw,h⟩
    ·exact .inl h
    ·exact .inr ⟨w,List.mem_cons_of_mem _ hw,h⟩
theorem cb{w:Str}(h:au w) {c:Nat}(hc:c∈w.cps.toList):97<=c/\c<=122:=by
 have:=h.2.2 c hc;unfold fA at this
 lia
theorem ng{r:Row}(h:iV r) {c:Nat}(hc:c∈(cA r).cps.toList):(97<=c/\c<=122)∨c=32∨c=46∨c=49:=by
 unfold cA at hc
 split at hc
 ·rw[az]at hc;have:c=49:=by simpa using hc
  lia
 ·rcases jP hc with hc|⟨y,hy,hc⟩
  ·have:c=32:=by simpa using hc
   lia
  ·obtain⟨x,hx,rfl⟩:=List.mem_map.mp hy;unfold aH at hc;rw[az]at hc;rcases List.mem_append.mp hc with hc|hc
   ·have:=cb (h.2 x hx).1 hc;lia
   ·have:=tJ hc;lia
theorem kc{ks:List Row}(h:∀r∈ks,iV r) {c:Nat}(hc:c∈(cG ks).cps.toList):(97<=c/\c<=122)∨c=32∨c=46∨c=49∨c=124:=by
 unfold cG at hc;rcases jP hc with hc|⟨y,hy,hc⟩
 ·rw[az]at hc;have:c=32∨c=124:=by simp at hc;lia
  lia
 ·obtain⟨r,hr,rfl⟩:=List.mem_map.mp hy;have:=ng (h r hr) hc;lia
theorem oq{e:Str×List Row}(hw:au e.1) (h:bN e.2) {c:Nat}(hc:c∈(dP e).cps.toList):(97<=c/\c<=122)∨c=32∨c=46∨c=49∨c=124∨c=58:=by
 unfold dP at hc;rw[cV,cV,az]at hc;rcases List.mem_append.mp hc with hc|hc
 ·rcases List.mem_append.mp hc with hc|hc
  ·have:=cb hw hc;lia
  ·have:c=58∨c=32:=by simpa using hc
   lia
 ·have:=kc h.2.2.2 hc;lia
theorem k6{x:Str×Str}(h1:au x.1) (h2:au x.2) {c:Nat}(hc:c∈(ck x).cps.toList):(97<=c/\c<=122)∨c=32∨c=60:=by
 unfold ck at hc;rw[cV,cV,az]at hc;rcases List.mem_append.mp hc with hc|hc
 ·rcases List.mem_append.mp hc with hc|hc
  ·have:=cb h1 hc;lia
  ·have:c=32∨c=60:=by simp at hc;lia
   lia
 ·have:=cb h2 hc;lia
theorem qX{g:Str}(h:au g) {c:Nat}(hc:c∈(dh g).cps.toList):(97<=c/\c<=122)∨c=32:=by
 unfold dh at hc;rw[cV,az]at hc;rcases List.mem_append.mp hc with hc|hc
 ·simp at hc;lia
 ·have:=cb h hc;lia
theorem qw{B:Nat}{ys:List Str}(h:∀y∈ys,y.length<=B):(ys.map (·.length)).sum<=ys.length*B:=by
 induction ys with
 |nil=>simp
 |cons y ys ih =>
  have h1:=h y (by simp);have h2:=ih fun z hz=>h z (List.mem_cons_of_mem _ hz);simp only[List.map_cons,List.sum_cons,List.length_cons,Nat.add_mul]
  lia
theorem iF{B n:Nat}{sep:Str}{ys:List Str}(h:∀y∈ys,y.length<=B) (hn:ys.length<=n) (hs:sep.length<=3):(Str.join sep ys).length<=n*B+n*3:=by
 have h1:=StrLaws.join_length_le sep ys;have h2:=qw h;have h3:ys.length*B<=n*B:=Nat.mul_le_mul_right _ hn;have h4:ys.length*sep.length<=n*3:=Nat.mul_le_mul hn hs
 lia
theorem jz{B n:Nat}{sep:Str}{ys:List Str}(h:∀y∈ys,y.length<=B) (hn:ys.length<=n) (hs:sep.length<=3) (hb:n*B+n*3<=16777216):ij sep (.lst (ys.map D.str))=some (.str (Str.join sep ys)):=by
 simp only[ij,eE];have h2:=qw h;have h3:ys.length*B<=n*B:=Nat.mul_le_mul_right _ hn;have h4:ys.length*sep.length<=n*3:=Nat.mul_le_mul hn hs;rw[if_pos (by lia)];unfold Txt.join;rw[StrLaws.glued_eq_join]
theorem fR{r:Row}(h:iV r):(cA r).length<=1015:=by
 unfold cA
 split
 ·rw[aA];decide
 ·refine Nat.le_trans (iF (B:=200) (n:=5) (fun y hy=>?_) (by rw[List.length_map];exact h.1) (by decide)) (by decide);obtain⟨x,hx,rfl⟩:=List.mem_map.mp hy;exact k5 ((iR h).2 x hx)
theorem dY{ks:List Row}(h:bN ks):(cG ks).length<=4072:=by
 refine Nat.le_trans (iF (B:=1015) (n:=4) (fun y hy=>?_) (by rw[List.length_map];exact h.2.1) (by rw[aA];decide)) (by decide);obtain⟨r,hr,rfl⟩:=List.mem_map.mp hy;exact fR (h.2.2.2 r hr)
theorem j5{e:Str×List Row}(hw:au e.1) (h:bN e.2):(dP e).length<=4082:=by
 unfold dP;rw[cJ,cJ,aA];have:=aY hw;have:=dY h;simp only[List.length_cons,List.length_nil];lia
theorem iQ{x:Str×Str}(h1:au x.1) (h2:au x.2):(ck x).length<=4082:=by
 unfold ck;rw[cJ,cJ,aA];have:=aY h1;have:=aY h2;simp only[List.length_cons,List.length_nil];lia
theorem lF{g:Str}(h:au g):(dh g).length<=4082:=by
 unfold dh;rw[cJ,aA];have:=aY h;simp only[List.length_cons,List.length_nil];lia
section
variable{ord:List (Str×Str)}{g:Str}{es:List (Str×List Row)}
theorem cM(ho:h8 ord) (hg:au g) (he:dn es):(∀y∈cp ord g es,y.length<=4082)/\(cp ord g es).length<=19:=by
 refine⟨fun y hy=>?_,?_⟩
 ·rcases List.mem_cons.mp hy with rfl|hy
  ·exact lF hg
  ·rcases List.mem_append.mp hy with hy|hy
   ·obtain⟨x,hx,rfl⟩:=List.mem_map.mp hy;exact iQ (ho.2 x hx).1 (ho.2 x hx).2
   ·obtain⟨e,h,rfl⟩:=List.mem_map.mp hy;exact j5 (he.2.2.2 e h).1 (he.2.2.2 e h).2
 ·have:=ho.1;have:=he.2.1;simp only[cp,List.length_cons,List.length_append,List.length_map];lia
theorem tU(ho:h8 ord) (hg:au g) (he:dn es):(o1 ord g es).length<=77615:=Nat.le_trans (iF (B:=4082) (n:=19) (cM ho hg he).1 (cM ho hg he).2 (by rw[aA];decide)) (by decide)
theorem rL(ho:h8 ord) (hg:au g) (he:dn es):Txt.split (o1 ord g es) (tx [59,32])=cp ord g es:=by
 refine bI (y:=tx [59,32]) (pre:=[]) (post:=[32]) (c:=59) (by rw[az];rfl) (by simp) (by simp) (by decide +kernel) (by simp[cp]) fun y hy hc=>?_;rcases List.mem_cons.mp hy with rfl|hy
 ·have:=qX hg hc;lia
 ·rcases List.mem_append.mp hy with hy|hy
  ·obtain⟨x,hx,rfl⟩:=List.mem_map.mp hy;have:=k6 (ho.2 x hx).1 (ho.2 x hx).2 hc;lia
  ·obtain⟨e,h,rfl⟩:=List.mem_map.mp hy;have:=oq (he.2.2.2 e h).1 (he.2.2.2 e h).2 hc;lia
end
theorem ph{x:Str×Str}(h1:au x.1) (h2:au x.2):Txt.split (ck x) (tx [32,60,32])=[x.1,x.2]:=by
 refine bI (ps:=[x.1,x.2]) (y:=tx [32,60,32]) (pre:=[32]) (post:=[32]) (c:=60) (by rw[az];rfl) (by simp) (by simp) (by decide +kernel) (by simp) fun y hy hc=>?_;have:y=x.1∨y=x.2:=by simpa using hy
 rcases this with rfl|rfl
 ·have:=cb h1 hc;lia
 ·have:=cb h2 hc;lia
theorem mr{e:Str×List Row}(hw:au e.1) (h:bN e.2):Txt.split (dP e) (tx [32,60,32])=[dP e]:=by
 refine bI (ps:=[dP e]) (y:=tx [32,60,32]) (pre:=[32]) (post:=[32]) (c:=60) (by rw[az];rfl) (by simp) (by simp) (by decide +kernel) (by simp) fun y hy hc=>?_;obtain rfl:y=dP e:=by simpa using hy
 have:=oq hw h hc;lia
theorem jS{x:Str×Str}(h1:au x.1) (h2:au x.2):Txt.split (ck x) (tx [58,32])=[ck x]:=by
 refine bI (ps:=[ck x]) (y:=tx [58,32]) (pre:=[]) (post:=[32]) (c:=58) (by rw[az];rfl) (by simp) (by simp) (by decide +kernel) (by simp) fun y hy hc=>?_;obtain rfl:y=ck x:=by simpa using hy
 have:=k6 h1 h2 hc;lia
theorem rK{e:Str×List Row}(hw:au e.1) (h:bN e.2):Txt.split (dP e) (tx [58,32])=[e.1,cG e.2]:=by
 refine bI (ps:=[e.1,cG e.2]) (y:=tx [58,32]) (pre:=[]) (post:=[32]) (c:=58) (by rw[az];rfl) (by simp) (by simp) (by decide +kernel) (by simp) fun y hy hc=>?_;have:y=e.1∨y=cG e.2:=by simpa using hy
 rcases this with rfl|rfl
 ·have:=cb hw hc;lia
 ·have:=kc h.2.2.2 hc;lia
theorem nF{ks:List Row}(h:bN ks):Txt.split (cG ks) (tx [32,124,32])=ks.map cA:=by
 refine bI (y:=tx [32,124,32]) (pre:=[32]) (post:=[32]) (c:=124) (by rw[az];rfl) (by simp) (by simp) (by decide +kernel) (fun z=>?_) fun y hy hc=>?_
 ·have:=congrArg List.length z;rw[List.length_map]at this;have:=h.1
  simp_all
 ·obtain⟨r,hr,rfl⟩:=List.mem_map.mp hy;have:=ng (h.2.2.2 r hr) hc;lia
theorem oU{g:Str}(h:au g):Txt.split (dh g) (tx [32])=[tx [103,111,97,108],g]:=by
 have e:dh g=Str.join (tx [32]) [tx [103,111,97,108],g]:=by
  refine fN ?_;rw[cN,dh,cV,az,az,az];simp[Str.join]
 rw[e];refine bI (y:=tx [32]) (pre:=[]) (post:=[]) (c:=32) (by rw[az];rfl) (by simp) (by simp) (by decide +kernel) (by simp) fun y hy hc=>?_;have:y=tx [103,111,97,108]∨y=g:=by simpa using hy
 rcases this with rfl|rfl
 ·rw[az]at hc;simp at hc
 ·have:=cb h hc;lia
theorem fX{a b:Str}(h:a.length+b.length<=1000000):mh (.str a) (.str b)=some (.str (a++b)):=if_pos (szB _ (by lia))
def fb:SpD:=fun ds M R=>∃e:Str×List Row,ds=[bF e]/\au e.1/\bN e.2/\R (.str (dP e)) M
theorem jf(F:Fun K "show_entry" "show_entry" b6 f fd) (T:Txt mg) (Y6:FnD P w K mg base "show_row" 2 1 eP):aO P w K mg base CX0 3 f fd ["entry"] (spD K 1 fb):=by
 have nd:=eU.nd;refine F.okR rfl eU (fun cdv A outer s H E hr=>⟨_,(ai (pO (ae 0) (iY rfl (bz (aV (i:=1) nd rfl (Or.inl rfl)) (bz (aV (i:=2) nd rfl (Or.inl rfl)) iS))))
   (ak (aC (aI aK (aI aK (ae 1) (bG rfl T.g_BEHIND_WORD)) (gL (bG rfl T.g_BETWEEN_KINDS) (ff (ms:=[false,false,false]) (ao:=["kind"]) (aD (n0:=0) rfl (show aS (ag b6) c0 _ _=true from by decide +kernel)) rfl (ba (ae 2)) (aR (i:=3) (show(c0++_).Nodup from by decide +kernel) rfl rfl) (fun _ _ _ _=>bH) (fun _ _ _ _=>(qd Y6 hr (af (ae 3) ah))))))))),fun ds M R _ hS bk=>?_⟩)
 obtain⟨⟨w0,ks⟩,rfl,hw,hk,k⟩:=hS;refine bk ?_;clear bk;have hwl:=aY hw;have hkl:=dY hk;simp only[bF,bA];walk_at "rd";rw[pW,uo];have t2:(tx [58,32]).length=2:=by rw[aA];rfl
 refine⟨_,rfl,_,rfl,_,fX (by rw[t2];simp only at hwl;lia),_,rfl,_,rfl,fun hz=>⟨hz,bo a7 (fun _=>true) (fun r=>D.str (cA r)) (fun Δ=>∃x,Δ=[none,none,none,x]) ks _ _ (fun r hr Δ hΔ=>?_) ⟨none,rfl⟩ ?_⟩⟩
 ·obtain⟨x,rfl⟩:=hΔ;refine⟨_,rfl,⟨_,rfl⟩,fun Q1 q=>q,fun _ Q2 q=>?_⟩;walk_at "rd";exact jY.mpr ⟨iR (hk.2.2.2 r hr),q⟩
 ·rw[List.nil_append,List.filter_eq_self.mpr (fun _ _=>rfl),show ks.map (fun r=>D.str (cA r))=(ks.map cA).map D.str by rw[List.map_map];rfl];refine⟨_,jz (B:=1015) (n:=4) (fun y hy=>?_) (by rw[List.length_map];exact hk.2.1) (by rw[aA];decide) (by decide),_,fX ?_,k⟩
  ·obtain⟨r,hr,rfl⟩:=List.mem_map.mp hy;exact fR (hk.2.2.2 r hr)
  ·rw[cJ,t2];simp only[cG]at hkl;simp only at hwl
   lia
def dE:SpD:=fun ds M R=>∃(ord:List (Str×Str)) (g:Str) (es:List (Str×List Row)),ds=[gX ord g es]/\h8 ord/\au g/\dn es/\R (.str (o1 ord g es)) M
theorem ir(F:Fun K "show_lexicon" "show_lexicon" bp f fd) (T:Txt mg) (Y0:FnD P w K mg base "show_entry" 3 1 fb):aO P w K mg base CX0 4 f fd ["lexicon"] (spD K 1 dE):=by
 have nd:=di.nd;refine F.okR rfl di (fun cdv A outer s H E hr=>⟨_,(ai (pO (ae 0) (iY rfl (bz (aV (i:=1) nd rfl (Or.inl rfl)) (bz (aV (i:=2) nd rfl (Or.inl rfl)) (bz (aV (i:=3) nd rfl (Or.inl rfl)) iS)))))
   (ai (vO (i:=4) nd rfl rfl rfl (ms:=[false,false,false,false,false]) (ao:=["low","high"]) (aD (n0:=0) rfl (show aS (ag bp) aX _ _=true from by decide +kernel)) rfl (ba (ae 1)) (tG (n:=2) rfl (jv (aR (i:=5) (show(aX++_).Nodup from by decide +kernel) rfl rfl) (jv (aR (i:=6) (show(aX++_).Nodup from by decide +kernel) rfl rfl) tP))) (fun _ _ _ _=>bH) (fun _ _ _ _=>(aI aK (aI aK (ae 5) (bG rfl T.g_BETWEEN_PAIR)) (ae 6))))
   (ak (aC (gL (bG rfl T.g_BETWEEN_PARTS) (aI aK (aI aK (n6 (af (aI aK bw (ae 2)) ah)) (ae 4)) (ff (ms:=[false,false,false,false,false]) (ao:=["entry"]) (aD (n0:=0) rfl (show aS (ag bp) aX _ _=true from by decide +kernel)) rfl (ba (ae 3)) (aR (i:=5) (show(aX++_).Nodup from by decide +kernel) rfl rfl) (fun _ _ _ _=>bH) (fun _ _ _ _=>(qd Y0 hr (af (ae 5) ah)))))))))),fun ds M R _ hS bk=>?_⟩)
 obtain⟨ord,g,es,rfl,ho,hg,he,k⟩:=hS;refine bk ?_;clear bk;have hgl:=aY hg;have ho8:=ho.1;have he10:=he.2.1;simp only[gX];walk_at "rd";rw[xp,ur,oV];have t5:(tx [103,111,97,108,32]).length=5:=by rw[aA];rfl
 have t3:(tx [32,60,32]).length=3:=by rw[aA];rfl
 refine⟨_,rfl,_,rfl,_,rfl,fun hz=>⟨hz,bo aQ (fun _=>true) (fun x=>D.str (ck x)) (fun Δ=>∃x y,Δ=[none,none,none,none,none,x,y]) ord _ _ (fun x hx Δ hΔ=>?_) ⟨none,none,rfl⟩ ?_⟩⟩
 ·obtain⟨a,b,rfl⟩:=hΔ;obtain⟨x1,x2⟩:=x;have h1:=aY (ho.2 _ hx).1;have h2:=aY (ho.2 _ hx).2;simp only at h1 h2;refine⟨_,rfl,⟨_,_,rfl⟩,fun Q1 q=>q,fun _ Q2 q=>?_⟩;walk_at "rd";exact⟨_,fX (by rw[t3];lia),_,fX (by rw[cJ,t3];lia),q⟩
 ·rw[List.nil_append,List.filter_eq_self.mpr (fun _ _=>rfl)];refine⟨_,rfl,_,fX (by rw[t5];lia),sz3 1,_,rfl,_,if_pos (sz3 _ (by simp;lia)),_,rfl,_,rfl,fun hz2=>⟨hz2,bo bF (fun _=>true) (fun e=>D.str (dP e)) (fun Δ=>∃x,Δ=[none,none,none,none,none,x]) es _ _ (fun e hm Δ hΔ=>?_) ⟨none,rfl⟩ ?_⟩⟩
  ·obtain⟨x,rfl⟩:=hΔ;refine⟨_,rfl,⟨_,rfl⟩,fun Q1 q=>q,fun _ Q2 q=>?_⟩;walk_at "rd";exact⟨e,rfl,(he.2.2.2 e hm).1,(he.2.2.2 e hm).2,q⟩
  ·rw[List.nil_append,List.filter_eq_self.mpr (fun _ _=>rfl)];have el:[D.str (dh g)]++ord.map (fun x=>D.str (ck x))++es.map (fun e=>D.str (dP e))=(cp ord g es).map D.str:=by
    simp[cp,Function.comp_def]
   refine⟨_,if_pos (sz3 _ (by simp;lia)),_,(show ij _ (.lst ([D.str (dh g)]++ord.map (fun x=>D.str (ck x))++es.map (fun e=>D.str (dP e))))=_ by rw[el];exact jz (B:=4082) (n:=19) (cM ho hg he).1 (cM ho hg he).2 (by rw[aA];decide) (by decide)),k⟩
def jc:SpD:=fun ds M R=>∃g:Str,ds=[.str (dh g)]/\au g/\R (.str g) M
theorem mf(F:Fun K "goal_in" "goal_in" eZ f fd) (T:Txt mg) (G2:FnD P w K mg base "is_mark" 2 1 cC):aO P w K mg base CX0 3 f fd ["part"] (spD K 1 jc):=by
 have nd:=g9.nd;refine F.okR rfl g9 (fun cdv A outer s H E hr=>⟨_,(ai (aN (i:=1) nd rfl (Or.inl rfl) (eF (ae 0) bw))
   (ai (bD (nB (jE (aL (iM hr.units) (aB cm rfl T.b_len (by kernel_rfl) (af (ae 1) ah)) am nbh) (jE (aL (iM hr.units) (bJ bL (ae 1) am (fun _ _=>rfl)) bw nbh) (jy (eB (qd G2 hr (af (bJ bL (ae 1) am (fun _ _=>rfl)) ah))))))) (ak (aC (bJ bL (ae 1) am (fun _ _=>rfl)))) bb)
   (ak (aC k7)))),fun ds M R _ hS bk=>?_⟩)
 obtain⟨g,rfl,hg,k⟩:=hS;refine bk ?_;clear bk;have hl:=lF hg;walk_at "rd";rw[vh,oU hg,vE];refine⟨by decide +kernel,szB _ (by lia),?_⟩;rw[if_pos (by rfl)];refine⟨.str (tx [103,111,97,108]),rfl,.bl true,rfl,_,rfl,?_⟩
 ·rw[if_pos rfl];refine⟨.str g,rfl,cz.mpr ⟨dW hg,true,by rw[show bX (.str g)=true from da hg],?_⟩⟩;rw[if_pos rfl];exact⟨_,rfl,k⟩
def jd:SpD:=fun ds M R=>∃x:Str,ds=[.str x]/\x.length<=1000000/\R (.tup ((Txt.split x (tx [32,60,32])).map .str)) M
theorem m7(F:Fun K "pair_in" "pair_in" fj f fd) (T:Txt mg) :aO P w K mg base CX0 1 f fd ["part"] (spD K 1 jd):=by
 have nd:=hJ.nd;refine F.okR rfl hJ (fun cdv A outer s H E hr=>⟨_,(ak (aC (cB dj rfl T.b_tuple (by kernel_rfl) (af (eF (ae 0) (bG rfl T.g_BETWEEN_PAIR)) ah)))),fun ds M R _ hS bk=>?_⟩);obtain⟨x,rfl,hx,k⟩:=hS;refine bk ?_;clear bk;walk_at "rd";rw[xp];exact⟨by decide +kernel,szB _ (by lia),k⟩
def ik:SpD:=fun ds M R=>(∃x:Str×Str,ds=[.str (ck x)]/\au x.1/\au x.2/\R .non M)∨∃e:Str×List Row,ds=[.str (dP e)]/\au e.1/\bN e.2/\R (bF e) M
theorem kN(F:Fun K "entry_in" "entry_in" cK f fd) (T:Txt mg) (ga8:FnD P w K mg base "row_in" 5 1 gp):aO P w K mg base CX0 6 f fd ["part"] (spD K 1 ik):=by
 have nd:=gj.nd;refine F.okR rfl gj (fun cdv A outer s H E hr=>⟨_,(ai (aN (i:=1) nd rfl (Or.inl rfl) (eF (ae 0) (bG rfl T.g_BEHIND_WORD)))
   (ai (bD (aL (sM hr.units) (aB cm rfl T.b_len (by kernel_rfl) (af (ae 1) ah)) am nbh) (ak (aC k7)) bb)
   (ak (aC (cQ (af (bJ bL (ae 1) am (fun _ _=>rfl)) (af (cB dj rfl T.b_tuple (by kernel_rfl) (af (ff (ms:=[false,false]) (ao:=["text"]) (aD (n0:=0) rfl (show aS (ag cK) eu _ _=true from by decide +kernel)) rfl (ba (eF (bJ bL (ae 1) am (fun _ _=>rfl)) (bG rfl T.g_BETWEEN_KINDS))) (aR (i:=2) (show(eu++_).Nodup from by decide +kernel) rfl rfl) (fun _ _ _ _=>bH) (fun _ _ _ _=>(qd ga8 hr (af (ae 2) ah)))) ah)) ah))))))),fun ds M R _ hS bk=>?_⟩)
 refine bk ?_;clear bk;rcases hS with⟨x,rfl,h1,h2,k⟩|⟨e,rfl,hw,hk,k⟩
 ·have hl:=iQ h1 h2;walk_at "rd";rw[pW,jS h1 h2];refine⟨by decide +kernel,szB _ (by lia),?_⟩;rw[if_pos (by rfl)];exact k
 ·have hl:=j5 hw hk;have hkl:=dY hk;walk_at "rd";rw[pW,rK hw hk,uo];refine⟨by decide +kernel,szB _ (by lia),?_⟩;rw[if_neg (by simp)];refine⟨.str e.1,rfl,.str (cG e.2),rfl,_,rfl,by decide +kernel,szB _ (by lia),?_⟩;rw[nF hk,show(e.2.map cA).map D.str=e.2.map (fun r=>D.str (cA r))by rw[List.map_map];rfl];refine fun hz=>⟨hz,bo (fun r=>D.str (cA r)) (fun _=>true) a7 (fun Δ=>∃x,Δ=[none,none,x]) e.2 _ _ (fun r hr Δ hΔ=>?_) ⟨none,rfl⟩ ?_⟩
  ·obtain⟨x,rfl⟩:=hΔ;have hro:=hk.2.2.2 r hr;have hrl:=fR hro;refine⟨_,rfl,⟨_,rfl⟩,fun Q1 q=>q,fun _ Q2 q=>?_⟩;walk_at "rd";refine m9.mpr ⟨by lia,?_⟩;rw[oG hro.2];exact q
  ·rw[List.nil_append,List.filter_eq_self.mpr (fun _ _=>rfl)];exact⟨sz3 2,k⟩
theorem vT(x:Str×Int) (n:Nat):dLe (aJ x) (n+2)=true:=by simp[aJ,dLe,bu]
theorem xO(r:Row) (n:Nat):dLe (a7 r) (n+3)=true:=by
 show bu (r.map aJ) (n+2)=true;rw[cg];intro d hd;obtain⟨x,_,rfl⟩:=List.mem_map.mp hd;exact vT x n
theorem qi(e:Str×List Row) (n:Nat):dLe (bF e) (n+5)=true:=by
 have h:dLe (bA e.2) (n+4)=true:=by
  show bu (e.2.map a7) (n+3)=true;rw[cg];intro d hd;obtain⟨r,_,rfl⟩:=List.mem_map.mp hd;exact xO r n
 show bu [.str e.1,bA e.2] (n+4)=true;simp[bu,dLe,h]
theorem mY{es:List (Str×List Row)}:eqF (.tup (es.map bF)) (.tup [])=some (.bl (decide (es=[]))):=by
 have h2:dLe (.tup (es.map bF)) 60=true:=by
  show bu (es.map bF) 59=true;rw[cg];intro d hd;obtain⟨e,_,rfl⟩:=List.mem_map.mp hd;exact qi e 54
 have h3:dLe (.tup []) 60=true:=rfl;simp only[eqF,h2,h3,and_self,if_true,eqD];cases es with
 |nil=>rfl
 |cons a r=>simp[bZ]
theorem jM{ord:List (Str×Str)}(h:∀x∈ord,au x.1/\au x.2):aT (ord.map aQ)=true:=by
 rw[bh];intro d hd;obtain⟨x,hx,rfl⟩:=List.mem_map.mp hd;show aT [.str x.1,.str x.2]=true;simp[aT,dW (h x hx).1,dW (h x hx).2]
theorem yq{ord:List (Str×Str)}(h:h8 ord):kY (.tup (ord.map aQ))=true:=by
 simp only[kY,Bool.and_eq_true,decide_eq_true_eq,List.length_map,List.all_eq_true];refine⟨h.1,fun d hd=>?_⟩;obtain⟨x,hx,rfl⟩:=List.mem_map.mp hd;simp only[gR,aQ,Bool.and_eq_true];exact⟨da (h.2 x hx).1,da (h.2 x hx).2⟩
theorem xc{ds:List D}{x:D}:kY (.tup (ds++[.tup [x]]))=false:=by
 rw[Bool.eq_false_iff];intro z;simp only[kY,Bool.and_eq_true,List.all_eq_true]at z;have:=z.2 (.tup [x]) (by simp);simp[gR]at this
theorem qW{es:List (Str×List Row)}(h:dn es) {k:Nat}(h1:1<=k):dn (es.take k):=by
 have:=h.1;have:=h.2.1;refine⟨by rw[List.length_take];lia,by rw[List.length_take];lia,?_,fun e he=>h.2.2.2 e (List.mem_of_mem_take he)⟩;rw[List.map_take];exact h.2.2.1.sublist (List.take_sublist _ _)
def dD:SpD:=fun ds M R=>∃(ord:List (Str×Str)) (g:Str) (es:List (Str×List Row)),ds=[.str (o1 ord g es)]/\h8 ord/\au g/\dn es/\R (gX ord g es) M
theorem g8(F:Fun K "read_lexicon" "read_lexicon" cn f fd) (T:Txt mg) (ga2:FnD P w K mg base "goal_in" 3 1 jc) (Y3:FnD P w K mg base "is_order" 4 1 eR) (G9:FnD P w K mg base "are_entries" 8 1 cF) (ga4:FnD P w K mg base "pair_in" 1 1 jd) (Y5:FnD P w K mg base "entry_in" 6 1 ik):aO P w K mg base CX0 9 f fd ["text"] (spD K 1 dD):=by
 have nd:=df.nd;refine F.okR rfl df (fun cdv A outer s H E hr=>⟨_,(ai (bD (kn (eB (dg (Tn:="str") (by decide) rfl T.b_isinstance rfl T.b_str (by kernel_rfl) (ae 0)))) (ak ju) bb)
   (ai (aN (i:=1) nd rfl (Or.inl rfl) (eF (ae 0) (bG rfl T.g_BETWEEN_PARTS)))
   (ai (aN (i:=2) nd rfl (Or.inl rfl) (qd ga2 hr (af (bJ bL (ae 1) am (fun _ _=>rfl)) ah)))
   (ai (bD (aL AN (ae 2) k7 nbh) (ak ju) bb)
   (ai (aN (i:=3) nd rfl (Or.inl rfl) (cQ ah))
   (ai (aN (i:=4) nd rfl (Or.inl rfl) (cQ ah))
   (ai (gk PassesOwn.never rfl (tX rfl T.b_enumerate (af (jO (ae 1) (md am) mL) ah)) (iY rfl (bz (aV (i:=5) nd rfl (Or.inl rfl)) (bz (aV (i:=6) nd rfl (Or.inl rfl)) iS))) (ai (aN (i:=7) nd rfl (Or.inl rfl) (aI aK (ae 3) (cQ (af (qd ga4 hr (af (ae 6) ah)) ah))))
   (ai (aN (i:=8) nd rfl (Or.inl rfl) (aI aK (ae 4) (cQ (af (qd Y5 hr (af (ae 6) ah)) ah))))
   (ak (bD (nB (jE (aL (iM hr.units) (ae 4) (cQ ah) nbh) (jy (eB (qd Y3 hr (af (ae 7) ah)))))) (ak (aN (i:=3) nd rfl (Or.inl rfl) (ae 7))) (ak (bD (eB (qd G9 hr (af (ae 8) ah))) (ak (aN (i:=4) nd rfl (Or.inl rfl) (ae 8))) (ak ju))))))))
   (ai (bD (aL (iM hr.units) (ae 4) (cQ ah) nbh) (ak ju) bb)
   (ak (aC (cQ (af (ae 3) (af (ae 2) (af (ae 4) ah)))))))))))))),fun ds M R _ hS bk=>?_⟩)
 obtain⟨ord,g,es,rfl,ho,hg,he,k⟩:=hS;refine bk ?_;clear bk;have hl:=tU ho hg he;walk_at "rd";rw[oV,rL ho hg he];refine⟨true,rfl,?_⟩;rw[if_neg (by simp)];refine⟨by decide +kernel,szB _ (by lia),_,(show atI ((cp ord g es).map D.str) ((0:Nat):Int)=some (D.str (dh g))from fQ rfl),g,rfl,hg,?_⟩;dsimp only;rw[if_neg (by simp[qE,rdM])];have ec:L2.dF ((cp ord g es).map D.str) (some 1) none=(ord.map ck++es.map dP).map D.str:=by
  rw[show(1:Int)=((1:Nat):Int)from rfl,sG];rfl
 rw[ec];refine⟨Nat.zero_le _,Nat.zero_le _,fun hz=>?_⟩;have hol:=ho.1;have hel:=he.2.1;have he1:=he.1;refine bY (fun i Δ M'=>∃x5 x6 x7 x8:Option D,Δ=[some (D.str (o1 ord g es)),some (D.lst ((cp ord g es).map D.str)),some (D.str g),some (D.tup ((ord.take i).map aQ)),some (D.tup ((es.take (i-ord.length)).map bF)),x5,x6,x7,x8]/\M'=M)
  ⟨none,none,none,none,by simp,rfl⟩ ?_ ?_
 ·intro i d Δ M' X hd hI k';refine shr fun _ bk=>?_;obtain⟨x5,x6,x7,x8,rfl,rfl⟩:=hI;refine bk ?_;clear bk;rw[jR]at hd;obtain⟨d0,hd0,rfl⟩:=Option.map_eq_some_iff.mp hd;rw[List.getElem?_map]at hd0;obtain⟨pt,hpt,rfl⟩:=Option.map_eq_some_iff.mp hd0;simp only[kC,gC,bT,og,Option.bind_some];refine⟨_,rfl,?_⟩
  by_cases hi:i<ord.length
  ·rw[List.getElem?_append_left (by rw[List.length_map];exact hi),List.getElem?_map]at hpt;obtain⟨x,hx,rfl⟩:=Option.map_eq_some_iff.mp hpt;have hxo:=ho.2 x (List.mem_of_getElem? hx);have htk:ord.take (i+1)=ord.take i++[x]:=by rw[List.take_add_one,hx];rfl
   have hok:h8 (ord.take (i+1)):=⟨by rw[List.length_take];lia,fun y hy=>ho.2 y (List.mem_of_mem_take hy)⟩;have hpl:=iQ hxo.1 hxo.2;have e0:i-ord.length=0:=by lia
   walk_at "rd";refine⟨_,rfl,by lia,?_⟩;rw[ph hxo.1 hxo.2];dsimp only;have ep:(ord.take i).map aQ++[D.tup (List.map D.str [x.1,x.2])]=(ord.take (i+1)).map aQ:=by rw[htk,List.map_append];rfl
   refine⟨sz3 1,_,if_pos (sz3 _ (by rw[List.length_map,List.length_take];lia)),.inl ⟨x,rfl,hxo.1,hxo.2,sz3 1,_,if_pos (sz3 _ (by rw[List.length_map,List.length_take];lia)),Nat.zero_le _,_,mY,_,rfl,?_⟩⟩;rw[e0,List.take_zero,if_pos (by simp),ep];refine fI.mpr ⟨?_,_,rfl,?_⟩
   ·show aT _=true;exact jM hok.2
   ·rw[yq hok,if_pos rfl];refine k' _ _ ?_;rw[show i+1-ord.length=0 by lia,List.take_zero];exact⟨_,_,_,_,rfl,rfl⟩
  ·rw[List.getElem?_append_right (by rw[List.length_map];lia),List.length_map,List.getElem?_map]at hpt;obtain⟨e,hx,rfl⟩:=Option.map_eq_some_iff.mp hpt;have hem:=he.2.2.2 e (List.mem_of_getElem? hx);have hil:i-ord.length<es.length:=(List.getElem?_eq_some_iff.mp hx).1;have htk:es.take (i-ord.length+1)=es.take (i-ord.length)++[e]:=by rw[List.take_add_one,hx];rfl
   have hpl:=j5 hem.1 hem.2;have ee:(es.take (i-ord.length)).map bF++[bF e]=(es.take (i-ord.length+1)).map bF:=by rw[htk,List.map_append];rfl
   have ei:i+1-ord.length=i-ord.length+1:=by lia
   have eo:ord.take i=ord:=List.take_of_length_le (by lia);have eo1:ord.take (i+1)=ord:=List.take_of_length_le (by lia);walk_at "rd";refine⟨_,rfl,by lia,?_⟩;rw[mr hem.1 hem.2];dsimp only;refine⟨sz3 1,_,if_pos (sz3 _ (by rw[List.length_map,List.length_take];lia)),.inr ⟨e,rfl,hem.1,hem.2,sz3 1,_,if_pos (sz3 _ (by rw[List.length_map,List.length_take];lia)),Nat.zero_le _,_,mY,_,rfl,?_⟩⟩;rw[ee];have fin:∀z,cF [.tup ((es.take (i-ord.length+1)).map bF)] M' fun x_3 M1=>∃k,x_3=D.bl k/\if k=true then X [some (D.str (o1 ord g es)),some (D.lst ((cp ord g es).map D.str)),some (D.str g),some (D.tup ((ord.take i).map aQ)),some (D.tup ((es.take (i-ord.length+1)).map bF)),some (D.int ((1+i:Nat):Int)),some (D.str (dP e)),some z,some (D.tup ((es.take (i-ord.length+1)).map bF))] M1 else False:=fun z =>
    ⟨_,rfl,qW he (by lia),_,rfl,by
     rw[if_pos rfl];refine k' _ _ ?_;rw[eo,eo1,ei];exact⟨_,_,_,_,rfl,rfl⟩⟩
   refine eN (fun _=>fI.mpr ⟨?_,_,rfl,?_⟩) (fun _=>fin _)
   ·show aT _=true;rw[oZ,eo,jM ho.2];have:(dP e).length<=1000000:=by lia
    simp[aT,ax,this]
   ·rw[List.map_cons,List.map_nil,xc,if_neg (by simp)];exact fin _
 ·intro Δ M' hI;refine shr fun _ bk=>?_;obtain⟨x5,x6,x7,x8,rfl,rfl⟩:=hI;refine bk ?_;clear bk;rw[ki,List.length_map,List.length_append,List.length_map,List.length_map,List.take_of_length_le (by lia),List.take_of_length_le (by lia)];walk_at "rd";refine⟨Nat.zero_le _,_,mY,_,rfl,?_⟩;rw[if_neg (by
   have:es≠[]:=fun z=>by rw[z]at he1;simp at he1
   simpa using this)]
  exact⟨sz3 3,k⟩
def lW:SpD:=fun ds M R=>∃(p:Addr) (l:List D) (aE:List Str) (most:Int),ds=[.ref p,.lst (aE.map .str),.int most]/\M p=some (.lst l)/\a6 l/\aE≠[]/\aE.length<=1000/\0<=most/\most<=500 /\
 ∀(ord:List (Str×Str)) l',ord.length<=most.toNat->(∀x∈ord,x.1∈aE/\x.2∈aE)->a6 l'->R (.tup (ord.map aQ)) (ar M p (.lst l'))
abbrev wz:TEd:=dOp ixD (js 1) (kB 2 cX (fG (js 0) (fG (dCB (pe pd) (fG (js 1) oJ)) oJ)))
theorem lh{p q:Addr}{E:gh}(hpq:p≠q) (aE:List Str) (most:Int) (hm:aE≠[]) (hml:aE.length<=1000):∀(ds:List D) (x4 x5:Option D) (M:DH) (l:List D) (ord:List (Str×Str)),M q=none->a6 l->(∀x∈ord,x.1∈aE/\x.2∈aE)->ord.length+ds.length<=1000 ->
  (∀(y4 y5:Option D) (l':List D) (ord':List (Str×Str)),a6 l'->(∀x∈ord',x.1∈aE/\x.2∈aE)->ord'.length=ord.length+ds.length->E.nx [some (.ref p),some (.lst (aE.map .str)),some (.int most),some (.ref q),y4,y5] (ar (ar M p (.lst l')) q (.lst (ord'.map aQ)))) ->
  bS (bT 4) (wJ (va 5 wz) (qr (vR (js 3) (xC (fG (js 5) (fG wz oJ)))))) E ds [some (.ref p),some (.lst (aE.map .str)),some (.int most),some (.ref q),x4,x5] (ar (ar M p (.lst l)) q (.lst (ord.map aQ)))
 |[],x4,x5,M,l,ord,hq,hP,ho,hl,k=>by
  simp only[bS];exact k x4 x5 l ord hP ho (by simp)
 |d::ds,x4,x5,M,l,ord,hq,hP,ho,hl,k=>by
  have bE:(0:Int)<((aE.map D.str).length:Int):=by
   rw[List.length_map];have:=List.length_pos_iff.mpr hm
   lia
  have hlen2:((aE.map D.str).length:Int)<1073741824:=by
   rw[List.length_map];lia
  have hol:(ord.map aQ).length<sizeLine:=by
   rw[List.length_map];simp only[List.length_cons]at hl;exact Nat.lt_of_lt_of_le (by lia:ord.length<1000) (sz3 1000)
  simp only[bS,bT];walk_at "rd";refine⟨p,l,_,rfl,by rw[aw hpq,aq],hP,bE,hlen2,fun v l1 h0 h1 hP1=>?_⟩;rw[List.length_map]at h1;obtain⟨m,hm1,e1⟩:=g7 h0 h1;refine⟨_,e1,?_⟩;have em:ar (ar (ar M p (.lst l)) q (.lst (ord.map aQ))) p (.lst l1)=ar (ar M p (.lst l1)) q (.lst (ord.map aQ)):=by
   rw[<-cu hpq,aZ]
  rw[em];refine⟨_,aq,?_⟩;refine⟨p,l1,_,rfl,by rw[aw hpq,aq],hP1,bE,hlen2,fun v2 l2 h2 h3 hP2=>?_⟩;rw[List.length_map]at h3;obtain⟨m2,hm2,e2⟩:=g7 h2 h3;refine⟨_,e2,sz3 2,?_⟩;have em2:ar (ar (ar M p (.lst l1)) q (.lst (ord.map aQ))) p (.lst l2)=ar (ar M p (.lst l2)) q (.lst (ord.map aQ)):=by
   rw[<-cu hpq,aZ]
  rw[em2];refine⟨_,aq,hol,?_⟩;rw[aZ];have ea:ord.map aQ++[D.tup [.str m,.str m2]]=(ord++[(m,m2)]).map aQ:=by simp[aQ]
  rw[ea];refine lh hpq aE most hm hml ds (some d) (some (.str m)) M l2 (ord++[(m,m2)]) hq hP2 (fun x hx=>?_) (by simp at hl ⊢;lia) (fun y4 y5 l' ord' hP' ho' hl'=>k y4 y5 l' ord' hP' ho' (by simp at hl' ⊢;lia));rcases List.mem_append.mp hx with h|h
  ·exact ho x h
  ·have:x=(m,m2):=by simpa using h
   subst this;exact⟨hm1,hm2⟩
theorem oT(F:Fun K "_law_order" "_law_order" iN f fd) (T:Txt mg) (G0:FnD P w K mg base "_law_draw" 1 2 cX):aO P w K mg base CX0 2 f fd ["_law_pool_here","_law_marks","_law_most"] (spD K 3 lW):=by
 have nd:=jD.nd;refine F.okR rfl jD (fun cdv A outer s H E hr=>⟨_,(ai (aN (i:=3) nd rfl (Or.inl rfl) (fM ah))
   (ai (gk PassesOwn.never rfl (gZ rfl T.b_range (af (qd G0 hr (af (ae 0) (af (aI aK (ae 2) am) ah))) ah)) (aV (i:=4) nd rfl (Or.inl rfl)) (ai (aN (i:=5) nd rfl (Or.inl rfl) (bJ bL (ae 1) (qd G0 hr (af (ae 0) (af (aB cm rfl T.b_len (by kernel_rfl) (af (ae 1) ah)) ah))) (fun _ _=>rfl)))
   (ak (fo (ja (ae 3) (cQ (af (ae 5) (af (bJ bL (ae 1) (qd G0 hr (af (ae 0) (af (aB cm rfl T.b_len (by kernel_rfl) (af (ae 1) ah)) ah))) (fun _ _=>rfl)) ah))))))))
   (ak (iP (cB dj rfl T.b_tuple (by kernel_rfl) (af (ae 3) ah)))))),fun ds M R _ hS bk=>?_⟩)
 obtain⟨p,l,aE,most,rfl,hM,hP,hm,hml,h0,h1,k⟩:=hS;refine bk ?_;clear bk;walk_at "rd";refine⟨sz3 0,fun q hq=>?_⟩;have hpq:p≠q:=by rintro rfl;rw[hM]at hq;cases hq
 refine⟨p,l,_,rfl,by rw[aw hpq];exact hM,hP,by lia,by lia,fun v l1 h2 h3 hP1=>?_⟩;refine⟨v,rfl,by lia,by lia,?_⟩;have e:ar (ar M q (.lst [])) p (.lst l1)=ar (ar M p (.lst l1)) q (.lst (([]:List (Str×Str)).map aQ)):=by
  rw[cu hpq];rfl
 rw[e];refine lh hpq aE most hm hml _ none none M l1 [] hq hP1 (fun x hx=>absurd hx (by simp)) (by rw[cU];simp;lia) (fun y4 y5 l' ord' hP' ho' hl'=>?_);walk_at "rd";refine⟨_,hV (by rw[aw (Ne.symm hpq)];exact hq),k ord' l' (by rw[cU]at hl';simp at hl';lia) ho' hP'⟩
def k8:SpD:=fun ds M R=>∃(p:Addr) (l:List D) (aE:List Str) (most bB turns:Nat),ds=[.ref p,.lst (aE.map .str),.int (most:Int),.int (bB:Int),.int (turns:Int)]/\M p=some (.lst l)/\a6 l/\aE≠[]/\aE.length<=1000/\1<=most/\most<=8/\bB<=8/\turns<=99 /\
 ∀(ks:List Row) l',1<=ks.length->ks.length<=most->(∀r∈ks,r.length<=bB/\∀x∈r,x.1∈aE/\-(turns:Int)<=x.2/\x.2<=(turns:Int))->ks.Nodup->a6 l'->R (bA ks) (ar M p (.lst l'))
theorem pF(F:Fun K "_law_kinds" "_law_kinds" iD f fd) (T:Txt mg) (G0:FnD P w K mg base "_law_draw" 1 2 cX):aO P w K mg base CX0 2 f fd ["_law_pool_here","_law_marks","_law_most","_law_signs","_law_turns"] (spD K 5 k8):=by
 have nd:=jC.nd;refine F.okR rfl jC (fun cdv A outer s H E hr=>⟨_,(ai (aN (i:=5) nd rfl (Or.inl rfl) (fM ah))
   (ai (gk PassesOwn.never rfl (gZ rfl T.b_range (af (aI aK am (qd G0 hr (af (ae 0) (af (ae 2) ah)))) ah)) (aV (i:=6) nd rfl (Or.inl rfl)) (ai (aN (i:=7) nd rfl (Or.inl rfl) (fM ah))
   (ai (gk PassesOwn.never rfl (gZ rfl T.b_range (af (qd G0 hr (af (ae 0) (af (aI aK (ae 3) am) ah))) ah)) (aV (i:=8) nd rfl (Or.inl rfl)) (ai (aN (i:=9) nd rfl (Or.inl rfl) (bJ bL (ae 1) (qd G0 hr (af (ae 0) (af (aB cm rfl T.b_len (by kernel_rfl) (af (ae 1) ah)) ah))) (fun _ _=>rfl)))
   (ak (fo (ja (ae 7) (cQ (af (ae 9) (af (aI wn (qd G0 hr (af (ae 0) (af (aI aK (aI dv am (ae 4)) am) ah))) (ae 4)) ah))))))))
   (ak (bD (aL (tQ hr.units) (cB dj rfl T.b_tuple (by kernel_rfl) (af (ae 7) ah)) (ae 5) rfl) (ak (fo (ja (ae 5) (cB dj rfl T.b_tuple (by kernel_rfl) (af (ae 7) ah))))) bb)))))
   (ak (iP (cB dj rfl T.b_tuple (by kernel_rfl) (af (ae 5) ah)))))),fun ds M R _ hS bk=>?_⟩)
 obtain⟨p,l,aE,most,bB,turns,rfl,hM,hP,hm,hml,hmo,hmo8,hs8,ht8,k⟩:=hS;refine bk ?_;clear bk;walk_at "rd";refine⟨Nat.zero_le _,fun q hq=>?_⟩;have hpq:p≠q:=by rintro rfl;rw[hM]at hq;cases hq
 refine⟨p,l,_,rfl,by rw[aw hpq];exact hM,hP,by lia,by lia,fun v l1 h0 h1 hP1=>?_⟩;obtain⟨n,rfl⟩:=Int.eq_ofNat_of_zero_le h0;refine⟨.int (1+(n:Int)),rfl,_,rfl,by lia,by lia,?_⟩;rw[show(1+(n:Int)).toNat=n+1 by lia];refine bY (fun i Δ M'=>∃x6 x7 x8 x9 l ks,Δ=[some (D.ref p),some (D.lst (aE.map D.str)),some (D.int (most:Int)),some (D.int (bB:Int)),some (D.int (turns:Int)),some (D.ref q),x6,x7,x8,x9]/\M' p=some (.lst l)/\a6 l/\M' q=some (.lst (ks.map a7))/\(∀a u,a≠p->M a=some u->M' a=some u)/\ks.length<=i/\(0<i->1<=ks.length)/\ks.Nodup/\∀r∈ks,r.length<=bB/\∀x∈r,x.1∈aE/\-(turns:Int)<=x.2/\x.2<=(turns:Int))
  ⟨_,_,_,_,l1,[],rfl,aq,hP1,by rw[aw (Ne.symm hpq),aq];rfl,fun a u ha e=>?_,Nat.zero_le _,fun h=>absurd h (by lia),by simp,fun _ h=>by cases h⟩ ?_ ?_
 ·have haq:a≠q:=fun z=>by rw[z,hq]at e;cases e
  rw[aw ha,aw haq];exact e
 ·rintro i d Δ M' X hd ⟨x6,x7,x8,x9,l2,ks,rfl,hMp,hP2,hMq,hold,hkl,hk1,hkn,hkr⟩ k';obtain⟨hi,rfl⟩:=kl hd;simp only[bT];walk_at "rd";refine⟨Nat.zero_le _,fun r hr2=>?_⟩;have hpr:p≠r:=by rintro rfl;rw[hMp]at hr2;cases hr2
  have hqr:q≠r:=by rintro rfl;rw[hMq]at hr2;cases hr2
  refine⟨p,l2,_,rfl,by rw[aw hpr];exact hMp,hP2,by lia,by lia,fun v l3 g0 g1 hP3=>⟨v,rfl,by lia,by lia,?_⟩⟩;obtain⟨m,rfl⟩:=Int.eq_ofNat_of_zero_le g0;rw[Int.toNat_natCast];refine bY (fun t Δ M2=>∃x8 x9 l row,Δ=[some (D.ref p),some (D.lst (aE.map D.str)),some (D.int (most:Int)),some (D.int (bB:Int)),some (D.int (turns:Int)),some (D.ref q),some (D.int (0+(i:Int))),some (D.ref r),x8,x9]/\M2=ar (ar M' p (.lst l)) r (.lst (row.map aJ))/\a6 l/\row.length<=t/\∀x∈row,x.1∈aE/\-(turns:Int)<=x.2/\x.2<=(turns:Int))
   ⟨_,_,l3,[],rfl,cu (Ne.symm hpr),hP3,Nat.le_refl _,fun _ h=>by cases h⟩ ?_ ?_
  ·rintro t d Δ M2 X2 hd2 ⟨y8,y9,l4,row,rfl,rfl,hP4,hrow,hrx⟩ k2;obtain⟨ht,rfl⟩:=kl hd2;have bE:(0:Int)<((aE.map D.str).length:Int):=by
    rw[List.length_map];have:=List.length_pos_iff.mpr hm
    lia
   have hlen2:((aE.map D.str).length:Int)<1073741824:=by
    rw[List.length_map];lia
   have hcm:∀l5,ar (ar (ar M' p (.lst l4)) r (.lst (row.map aJ))) p (.lst l5)=ar (ar M' p (.lst l5)) r (.lst (row.map aJ)):=fun l5=>by
    rw[<-cu hpr,aZ]
   simp only[bT];walk_at "rd";refine⟨p,l4,_,rfl,by rw[aw hpr,aq],hP4,bE,hlen2,fun v1 l5 a0 a1 hP5=>?_⟩;rw[List.length_map]at a1;obtain⟨m1,hm1,e1⟩:=g7 a0 a1;rw[hcm];refine⟨_,e1,_,aq,p,l5,_,rfl,by rw[aw hpr,aq],hP5,by lia,by lia,fun v2 l6 b0 b1 hP6=>?_⟩;have hcm2:ar (ar (ar M' p (.lst l5)) r (.lst (row.map aJ))) p (.lst l6)=ar (ar M' p (.lst l6)) r (.lst (row.map aJ)):=by
    rw[<-cu hpr,aZ]
   rw[hcm2];refine⟨.int (v2-(turns:Int)),rfl,sz3 2,_,aq,?_,k2 _ _ ⟨_,_,l6,row++[(m1,v2-(turns:Int))],rfl,?_,hP6,by simp;lia,fun x hx=>?_⟩⟩
   ·rw[List.length_map,sizeLine_eq];lia
   ·rw[aZ];simp[aJ]
   ·rcases List.mem_append.mp hx with h|h
    ·exact hrx x h
    ·rw[List.mem_singleton.mp h];exact⟨hm1,by simp only;lia,by simp only;lia⟩
  ·rintro Δ M2 ⟨y8,y9,l4,row,rfl,rfl,hP4,hrow,hrx⟩;rw[cU]at hrow;walk_at "rd";have eq:ar (ar M' p (.lst l4)) r (.lst (row.map aJ)) q=some (.lst (ks.map a7)):=by rw[aw hqr,aw (Ne.symm hpq)];exact hMq
   have ep:ar (ar M' p (.lst l4)) r (.lst (row.map aJ)) p=some (.lst l4):=by rw[aw hpr,aq]
   have eo:∀a u,a≠p->M a=some u->ar (ar M' p (.lst l4)) r (.lst (row.map aJ)) a=some u:=fun a u ha e=>by
    have h:=hold a u ha e;have har:a≠r:=by rintro rfl;rw[hr2]at h;cases h
    rw[aw har,aw ha];exact h
   generalize ar (ar M' p (.lst l4)) r (.lst (row.map aJ))=M3 at *
   refine⟨.bl (!((ks.map a7).any fun d=>eqD d (a7 row))),?_,_,rfl,?_⟩
   ·rw[show rdM M3 (D.ref q)=D.lst (ks.map a7)by simp[rdM,eq]];show ko (a7 row) _=_;rw[sS,if_pos ⟨oz row,tH a7 fun r=>oz r⟩]
   refine eN (fun c=>?_) (fun c=>?_)
   ·refine⟨_,eq,_,eq,by rw[List.length_map,sizeLine_eq];lia,k' _ _ ⟨_,_,_,_,l4,ks++[row],rfl,?_,hP4,?_,fun a u ha e=>?_,by simp;lia,fun _=>by simp,?_,fun x hx=>?_⟩⟩
    ·rw[aw hpq];exact ep
    ·rw[aq,List.map_append];rfl
    ·have haq:a≠q:=fun z=>by rw[z,hq]at e;cases e
     rw[aw haq];exact eo a u ha e
    ·have hrk:row∉ks:=fun z=>by
      have:((ks.map a7).any fun d=>eqD d (a7 row))=true:=List.any_eq_true.mpr ⟨a7 row,List.mem_map_of_mem z,by rw[uh];simp⟩;rw[this]at c;cases c
     rw[List.nodup_append];refine⟨hkn,by simp,fun u hu v hv=>?_⟩;obtain rfl:v=row:=by simpa using hv
     rintro rfl;exact hrk hu
    ·rcases List.mem_append.mp hx with h|h
     ·exact hkr x h
     ·rw[List.mem_singleton.mp h];exact⟨by lia,hrx⟩
   ·refine k' _ _ ⟨_,_,_,_,l4,ks,rfl,ep,hP4,eq,eo,by lia,fun _=>?_,hkn,hkr⟩;cases ks with
    |nil=>exact absurd rfl c
    |cons _ _=>simp
 ·rintro Δ M' ⟨x6,x7,x8,x9,l2,ks,rfl,hMp,hP2,hMq,hold,hkl,hk1,hkn,hkr⟩;rw[cU]at hkl hk1;walk_at "rd";refine⟨bA ks,by simp[rdM,hMq,tZ,bA],ar M p (.lst l2),fun a u e=>?_,k ks l2 (hk1 (by lia)) (by lia) hkr hkn hP2⟩
  by_cases c:a=p
  ·rw[c,aq]at e;rw[c,hMp];exact e
  ·rw[aw c]at e;exact hold a u c e
def eG:SpD:=fun ds M R=>∃row:List (Str×Int),ds=[.tup (row.map aJ)]/\dS row/\R (.str (cA row)) M
theorem ke{row:List (Str×Int)}{M:DH}{R:D->DH->Prop}:eG [.tup (row.map aJ)] M R↔dS row/\R (.str (cA row)) M :=
 ⟨fun⟨r,e,h⟩=>by simp only[List.cons.injEq,D.tup.injEq,and_true]at e;rw[mJ lx e];exact h,fun h=>⟨row,rfl,h⟩⟩
theorem xq{ws:List Str}:eqF (.lst (ws.map D.str)) (.lst [])=some (.bl (decide (ws=[]))):=by
 have h1:dLe (.lst (ws.map D.str)) 60=true:=by
  show bu (ws.map D.str) 59=true;rw[cg];intro d hd;obtain⟨x,_,rfl⟩:=List.mem_map.mp hd;rfl
 have h2:dLe (.lst []) 60=true:=rfl;simp only[eqF,h1,h2,and_self,if_true];cases ws with
 |nil=>rfl
 |cons w ws=>simp[eqD,bZ]
theorem kP(F:Fun K "_law_row_text" "_law_row_text" eD f fd) (T:Txt mg) :aO P w K mg base CX0 1 f fd ["_law_row"] (spD K 1 eG):=by
 have nd:=gd.nd;refine F.okR rfl gd (fun cdv A outer s H E hr=>⟨_,(ai (aN (i:=1) nd rfl (Or.inl rfl) (fM ah))
   (ai (gk PassesOwn.never rfl (ba (ae 0)) (iY rfl (bz (aV (i:=2) nd rfl (Or.inl rfl)) (bz (aV (i:=3) nd rfl (Or.inl rfl)) iS))) (ai (bD (aL td (ae 3) am nbh) (ak (aN (i:=2) nd rfl (Or.inl rfl) (aI aK (aI aK (ae 2) bw) (aI dv bw (ae 3))))) bb)
   (ai (bD (aL xZ (ae 3) am nbh) (ak (aN (i:=2) nd rfl (Or.inl rfl) (aI aK (aI aK (ae 2) bw) (aI dv bw (aI wn am (ae 3)))))) bb)
   (ak (fo (ja (ae 1) (ae 2)))))))
   (ai (bD (aL (iM hr.units) (ae 1) (n6 ah) nbh) (ak (iP bw)) bb)
   (ak (iP (gL bw (ae 1))))))),fun ds M R _ hS bk=>?_⟩)
 obtain⟨row,rfl,hrow,k⟩:=hS;refine bk ?_;clear bk;have e1:∀(a:Str) (l:List Nat),a.length<=1000->l.length<=2000->(if a.length+(tx l).length<=sizeLine then some (D.str (a++tx l))else none)=some (.str (tx (a.cps.toList++l))):=fun a l ha hl=>by rw[if_pos (by rw[aA];exact szB _ (by lia)),tY]
 have e2:∀l m:List Nat,l.length<=3000->m.length<=2000->(if(tx l).length+(tx m).length<=sizeLine then some (D.str (tx l++tx m))else none)=some (.str (tx (l++m))):=fun l m hl hm=>by rw[if_pos (by rw[aA,aA];exact szB _ (by lia)),iO]
 walk_at "rd";simp only[tw,s_r,s_l,vh,sI];refine⟨sz3 0,fun q hq hz=>?_⟩;refine bY (fun j Δ M2=>∃x2 x3,Δ=[some (.tup (row.map aJ)),some (.ref q),x2,x3]/\M2=ar M q (.lst (((row.take j).map aH).map D.str))) ⟨none,none,rfl,rfl⟩ ?_ ?_
 ·rintro j d Δ M2 X hd ⟨x2,x3,rfl,rfl⟩ k';obtain⟨⟨a,t⟩,hx,rfl⟩:=il hd;have hj:j<row.length:=(List.getElem?_eq_some_iff.mp hx).1;have hb:=hrow.2 (a,t) (List.mem_of_getElem? hx);have hb1:a.length<=8:=hb.1;have hb2:-99<=t:=hb.2.1;have hb3:t<=99:=hb.2.2;have hal:=fS a;have hrl:=hrow.1;have bE:(((row.take j).map aH).map D.str).length<sizeLine:=by
   rw[List.length_map,List.length_map,List.length_take];exact Nat.lt_of_lt_of_le (by lia:min j row.length<16000000) (szB 16000000)
  have fin:∀x2 x3:Option D,X [some (.tup (row.map aJ)),some (.ref q),x2,x3] (ar M q (.lst (((row.take j).map aH).map D.str++[D.str (aH (a,t))]))):=fun x2 x3=>by
   refine k' _ _ ⟨x2,x3,rfl,?_⟩;rw[List.take_add_one,hx];simp
  refine⟨_,rfl,?_⟩;walk_at "rd";refine eN (fun h=>?_) (fun h=>?_)
  ·refine⟨_,e1 a [46] (by lia) (by simp),?_⟩;walk_at "rd";refine⟨_,mn (by lia) (by lia),?_⟩;walk_at "rd";refine⟨_,e2 _ _ (by simp only[List.length_append,List.length_cons,List.length_nil];lia) (by simp only[List.length_replicate];lia),?_⟩;rw[if_neg (by lia)];have:aH (a,t)=tx (a.cps.toList++[46]++List.replicate t.toNat 114):=by simp[aH,sgn,h]
   rw[<-this];exact⟨bE,fin _ _⟩
  ·refine eN (fun h'=>?_) (fun h'=>?_)
   ·refine⟨_,e1 a [46] (by lia) (by simp),?_⟩;walk_at "rd";refine⟨_,mn (n:=0-t) (by lia) (by lia),?_⟩;walk_at "rd";refine⟨_,e2 _ _ (by simp only[List.length_append,List.length_cons,List.length_nil];lia) (by simp only[List.length_replicate];lia),?_⟩;have:aH (a,t)=tx (a.cps.toList++[46]++List.replicate (0-t).toNat 108):=by
     have e0:0-t=-t:=by lia
     simp[aH,sgn,h,h',e0]
    rw[<-this];exact⟨bE,fin _ _⟩
   ·have:aH (a,t)=a:=by
     have h0:t=0:=by lia
     subst h0;simp only[aH,sgn];simp;exact(pT a).symm
    have f2:=fin;rw[this]at f2;exact⟨bE,f2 _ _⟩
 ·rintro Δ M2 ⟨x2,x3,rfl,rfl⟩;rw[List.length_map,List.take_of_length_le (Nat.le_refl _)];walk_at "rd";refine⟨sz3 0,_,xq,_,rfl,?_⟩;refine eN (fun h=>?_) (fun h=>?_)
  ·have h0:row=[]:=by simpa using h
   simp only[cA,h0,if_true]at k;exact⟨M,hV hq,k⟩
  ·have h0:¬ row=[]:=by simpa using h
   simp only[cA,h0,if_false]at k;exact⟨_,j4 hrow,M,hV hq,k⟩
def iU:SpD:=fun ds M R=>∃(p:Addr) (l:List D),ds=[.ref p,.int 10]/\M p=some (.lst l)/\a6 l/\(∀a k,M a=some k->a≠p->noC k=true) /\
 ∀(ord:List (Str×Str)) (g:Str) (es:List (Str×List Row)) l',h8 ord->au g->dn es->a6 l'->R (gX ord g es) (ar M p (.lst l'))
theorem mF(F:Fun K "_law_lexicon" "_law_lexicon" fJ f fd) (T:Txt mg) (G6:FnD P w K mg base "_law_some_words" 3 2 fD) (gb1:FnD P w K mg base "_law_order" 2 3 lW) (G0:FnD P w K mg base "_law_draw" 1 2 cX) (gb0:FnD P w K mg base "_law_kinds" 2 5 k8):aO P w K mg base CX0 4 f fd ["_law_pool_here","_law_most"] (spD K 2 iU):=by
 have nd:=ip.nd;refine F.okR rfl ip (fun cdv A outer s H E hr=>⟨_,(ai (aN (i:=2) nd rfl (Or.inl rfl) (qd G6 hr (af (ae 0) (af (aI aK am (qd G0 hr (af (ae 0) (af am ah)))) ah))))
   (ai (aN (i:=3) nd rfl (Or.inl rfl) (qd gb1 hr (af (ae 0) (af (ae 2) (af am ah)))))
   (ai (aN (i:=4) nd rfl (Or.inl rfl) (fM ah))
   (ai (gk PassesOwn.never rfl (ba (qd G6 hr (af (ae 0) (af (aI aK am (qd G0 hr (af (ae 0) (af (ae 1) ah)))) ah)))) (aV (i:=5) nd rfl (Or.inl rfl)) (ak (fo (ja (ae 4) (cQ (af (ae 5) (af (qd gb0 hr (af (ae 0) (af (ae 2) (af am (af am (af (bJ bL (n6 (af am (af am (af am ah)))) (qd G0 hr (af (ae 0) (af am ah))) (fun _ _=>rfl)) ah)))))) ah)))))))
   (ak (iP (cQ (af (ae 3) (af (bJ bL (ae 2) (qd G0 hr (af (ae 0) (af (aB cm rfl T.b_len (by kernel_rfl) (af (ae 2) ah)) ah))) (fun _ _=>rfl)) (af (cB dj rfl T.b_tuple (by kernel_rfl) (af (ae 4) ah)) ah)))))))))),fun ds M R _ hS bk=>?_⟩)
 obtain⟨p,l,rfl,hM,hP,hno,k⟩:=hS;refine bk ?_;clear bk;walk_at "rd";refine⟨p,l,4,rfl,hM,hP,by lia,by lia,fun v1 l1 a0 a1 hP1=>?_⟩;refine⟨_,rfl,p,l1,1+v1,rfl,aq,hP1,by lia,by lia,fun a u e ha=>hno a u (by rw[aw ha]at e;exact e) ha,fun aE l2 hmw hmn hml hP2=>?_⟩;rw[aZ];have hm:aE≠[]:=fun z=>by rw[z]at hml;simp at hml;lia
 walk_at "rd";refine⟨p,l2,aE,8,rfl,aq,hP2,hm,by lia,by lia,by lia,fun ord l3 hol hom hP3=>?_⟩;rw[aZ];walk_at "rd";refine⟨Nat.zero_le _,fun q hq=>?_⟩;have hqp:q≠p:=by rintro rfl;rw[aq]at hq;cases hq
 have hMq:M q=none:=by rw[aw hqp]at hq;exact hq
 have c1:∀l4 l5 ds,ar (ar (ar M p (.lst l4)) q (.lst ds)) p (.lst l5)=ar (ar M p (.lst l5)) q (.lst ds):=fun l4 l5 ds=>by rw[<-cu (Ne.symm hqp),aZ]
 have c2:∀l4 ds,ar (ar M p (.lst l4)) q (.lst ds) p=some (.lst l4):=fun l4 ds=>by rw[aw (Ne.symm hqp),aq]
 refine⟨p,l3,10,rfl,c2 _ _,hP3,by lia,by lia,fun v4 l4 b0 b1 hP4=>?_⟩;rw[c1];refine⟨_,rfl,p,l4,1+v4,rfl,c2 _ _,hP4,by lia,by lia,fun a u e ha=>?_,fun ws l5 hww hwn hwl hP5=>?_⟩
 ·by_cases haq:a=q
  ·subst haq;rw[aq]at e;cases e;rfl
  ·rw[aw haq,aw ha]at e;exact hno a u e ha
 rw[c1];refine⟨_,rfl,fun hz=>?_⟩;have hmp:=List.length_pos_iff.mpr hm;have hwl10:ws.length<=10:=by lia
 have hwl1:1<=ws.length:=by lia
 refine bY (fun i Δ M'=>∃(x5:Option D) (l6:List D) (es:List (Str×List Row)),Δ=[some (D.ref p),some (D.int 10),some (D.lst (aE.map D.str)),some (D.tup (ord.map aQ)),some (D.ref q),x5]/\M'=ar (ar M p (.lst l6)) q (.lst (es.map bF))/\a6 l6/\es.map (·.1)=ws.take i/\∀e∈es,au e.1/\bN e.2)
  ⟨_,l5,[],rfl,rfl,hP5,by simp,fun _ h=>by cases h⟩ ?_ ?_
 ·intro i d Δ M' X hd hI k';refine shr fun _ bk=>?_;obtain⟨x5,l6,es,rfl,rfl,hP6,hes,heo⟩:=hI;refine bk ?_;clear bk;obtain⟨wd,hwd,rfl⟩:=il hd;have hi:i<ws.length:=(List.getElem?_eq_some_iff.mp hwd).1;have hel:es.length<=10:=by
   have:=congrArg List.length hes;rw[List.length_map,List.length_take]at this
   lia
  simp only[bT];walk_at "rd";refine⟨sz3 3,p,l6,3,rfl,c2 _ _,hP6,by lia,by lia,fun v7 l7 d0 d1 hP7=>?_⟩;rw[c1];obtain⟨tn,htn,et⟩:∃tn:Nat,tn<=99/\ixD (.lst [.int 2,.int 2,.int 99]) (.int v7)=some (.int (tn:Int)):=by
   have:v7=0∨v7=1∨v7=2:=by lia
   rcases this with rfl|rfl|rfl
   ·exact⟨2,by lia,rfl⟩
   ·exact⟨2,by lia,rfl⟩
   ·exact⟨99,by lia,rfl⟩
  refine⟨_,et,p,l7,aE,4,5,tn,rfl,c2 _ _,hP7,hm,by lia,by lia,by lia,by lia,by lia,fun ks l8 hk1 hk4 hkr hkn hP8=>?_⟩;rw[c1];refine⟨sz3 2,_,aq,by rw[List.length_map,sizeLine_eq];lia,?_⟩;rw[aZ];refine k' _ _ ⟨_,l8,es++[(wd,ks)],rfl,by rw[List.map_append];rfl,hP8,?_,fun e he=>?_⟩
  ·rw[List.map_append,hes,List.take_add_one,hwd];rfl
  ·rcases List.mem_append.mp he with z|z
   ·exact heo e z
   ·obtain rfl:e=(wd,ks):=by simpa using z
    refine⟨hww wd (List.mem_of_getElem? hwd),hk1,hk4,hkn,fun r hr=>⟨(hkr r hr).1,fun x hx=>?_⟩⟩;have hxx:=(hkr r hr).2 x hx;exact⟨hmw _ hxx.1,by lia,by lia⟩
 ·intro Δ M' hI;refine shr fun _ bk=>?_;obtain⟨x5,l6,es,rfl,rfl,hP6,hes,heo⟩:=hI;refine bk ?_;clear bk;rw[List.length_map,List.take_of_length_le (Nat.le_refl _)]at hes;walk_at "rd";rw[List.length_map];refine⟨p,l6,_,rfl,c2 _ _,hP6,by lia,by lia,fun v9 l9 f0 f1 hP9=>?_⟩;rw[c1];obtain⟨g,hgm,eg⟩:=g7 f0 f1;have hel:es.length=ws.length:=by rw[<-hes,List.length_map]
  refine⟨_,eg,_,(show tZ (rdM (ar (ar M p (.lst l9)) q (.lst (es.map bF))) (.ref q))=some (.tup (es.map bF))by rw[mB aq];rfl),sz3 3,ar M p (.lst l9),hV (by rw[aw hqp];exact hMq),k ord g es l9 ⟨by lia,fun x hx=>⟨hmw _ (hom x hx).1,hmw _ (hom x hx).2⟩⟩ (hmw _ hgm) ⟨by lia,by lia,by rw[hes];exact hwn,heo⟩ hP9⟩
def nV:SpD:=fun ds M R=>∃(ord:List (Str×Str)) (g:Str) (es:List (Str×List Row)),ds=[gX ord g es]/\h8 ord/\au g/\dn es/\R (.str (o1 ord g es)) M
theorem qL(F:Fun K "_law_text" "_law_text" ix f fd) (T:Txt mg) (Y4:FnD P w K mg base "_law_row_text" 1 1 eG):aO P w K mg base CX0 2 f fd ["_law_lexicon_here"] (spD K 1 nV):=by
 have nd:=lw.nd;refine F.okR rfl lw (fun cdv A outer s H E hr=>⟨_,(ai (pO (ae 0) (iY rfl (bz (aV (i:=1) nd rfl (Or.inl rfl)) (bz (aV (i:=2) nd rfl (Or.inl rfl)) (bz (aV (i:=3) nd rfl (Or.inl rfl)) iS)))))
   (ai (aN (i:=4) nd rfl (Or.inl rfl) (fM (af (aI aK bw (ae 2)) ah)))
   (ai (gk PassesOwn.never rfl (ba (ae 1)) (iY rfl (bz (aV (i:=5) nd rfl (Or.inl rfl)) (bz (aV (i:=6) nd rfl (Or.inl rfl)) iS))) (ak (fo (ja (ae 4) (aI aK (aI aK (ae 5) bw) (ae 6))))))
   (ai (gk PassesOwn.never rfl (ba (ae 3)) (iY rfl (bz (aV (i:=7) nd rfl (Or.inl rfl)) (bz (aV (i:=8) nd rfl (Or.inl rfl)) iS))) (ak (fo (ja (ae 4) (aI aK (aI aK (ae 7) bw) (gL bw (ff (ms:=[false,false,false,false,false,false,false,false,false]) (ao:=["_law_row"]) (aD (n0:=0) rfl (show aS (ag ix) j6 _ _=true from by decide +kernel)) rfl (ba (ae 8)) (aR (i:=9) (show(j6++_).Nodup from by decide +kernel) rfl rfl) (fun _ _ _ _=>bH) (fun _ _ _ _=>(qd Y4 hr (af (ae 9) ah))))))))))
   (ak (iP (gL bw (ae 4)))))))),fun ds M R _ hS bk=>?_⟩)
 obtain⟨ord,g,es,rfl,ho,hg,he,k⟩:=hS;refine bk ?_;clear bk;have hgl:=aY hg;have ho8:=ho.1;have he10:=he.2.1;have t5:(tx [103,111,97,108,32]).length=5:=by rw[aA];rfl
 have t3:(tx [32,60,32]).length=3:=by rw[aA];rfl
 have t2:(tx [58,32]).length=2:=by rw[aA];rfl
 simp only[gX];walk_at "rd";rw[ur,xp,pW,uo,oV];refine⟨_,rfl,_,rfl,_,fX (by rw[t5];lia),sz3 1,fun q hq=>⟨_,rfl,_,rfl,fun hz=>?_⟩⟩;refine bY (fun i Δ M'=>∃x5 x6:Option D,Δ=[some (gX ord g es),some (D.tup (ord.map aQ)),some (D.str g),some (D.tup (es.map bF)),some (D.ref q),x5,x6,none,none]/\M'=ar M q (.lst ((dh g::(ord.take i).map ck).map D.str))) ⟨none,none,rfl,rfl⟩ ?_ ?_
 ·intro i d Δ M' X hd hI k';refine shr fun _ bk=>?_;obtain⟨x5,x6,rfl,rfl⟩:=hI;refine bk ?_;clear bk;obtain⟨⟨a,b⟩,hx,rfl⟩:=il hd;have hxo:=ho.2 _ (List.mem_of_getElem? hx);have h1:=aY hxo.1;have h2:=aY hxo.2;simp only at h1 h2;simp only[aQ,kC,gC,bT,og,Option.bind_some];refine⟨_,rfl,?_⟩;walk_at "rd";refine⟨_,fX (by rw[t3];lia),_,fX (by rw[cJ,t3];lia),Nat.lt_of_lt_of_le (by simp;lia:_<1000) (sz3 1000),k' _ _ ⟨_,_,rfl,?_⟩⟩;rw[List.take_add_one,hx];simp[ck]
 ·intro Δ M' hI;refine shr fun _ bk=>?_;obtain⟨x5,x6,rfl,rfl⟩:=hI;refine bk ?_;clear bk;rw[List.length_map,List.take_of_length_le (Nat.le_refl _)];walk_at "rd";refine fun hz2=>?_;refine bY (fun i Δ M'=>∃x7 x8:Option D,Δ=[some (gX ord g es),some (D.tup (ord.map aQ)),some (D.str g),some (D.tup (es.map bF)),some (D.ref q),x5,x6,x7,x8]/\M'=ar M q (.lst ((dh g::(ord.map ck++(es.take i).map dP)).map D.str))) ⟨none,none,rfl,by simp⟩ ?_ ?_
  ·intro i d Δ M' X hd hI k';refine shr fun _ bk=>?_;obtain⟨x7,x8,rfl,rfl⟩:=hI;refine bk ?_;clear bk;obtain⟨⟨wd,ks⟩,hx,rfl⟩:=il hd;have hxo:=he.2.2.2 _ (List.mem_of_getElem? hx);have h1:=aY hxo.1;have hkl:=dY hxo.2;simp only at h1 hkl;simp only[bF,bA,kC,gC,bT,og,Option.bind_some];refine⟨_,rfl,?_⟩;walk_at "rd";refine⟨_,fX (by rw[t2];lia),fun hz3=>⟨hz3,bo a7 (fun _=>true) (fun r=>D.str (cA r)) (fun Δ=>∃x,Δ=[none,none,none,none,none,none,none,none,none,x]) ks _ _ (fun r hr Δ hΔ=>?_) ⟨none,rfl⟩ ?_⟩⟩
   ·obtain⟨x,rfl⟩:=hΔ;refine⟨_,rfl,⟨_,rfl⟩,fun Q1 q=>q,fun _ Q2 q=>?_⟩;walk_at "rd";exact ke.mpr ⟨iR (hxo.2.2.2.2 r hr),q⟩
   ·rw[List.nil_append,List.filter_eq_self.mpr (fun _ _=>rfl),show ks.map (fun r=>D.str (cA r))=(ks.map cA).map D.str by rw[List.map_map];rfl];refine⟨_,jz (B:=1015) (n:=4) (fun y hy=>?_) (by rw[List.length_map];exact hxo.2.2.1) (by rw[aA];decide) (by decide),_,fX ?_,?_⟩
    ·obtain⟨r,hr,rfl⟩:=List.mem_map.mp hy;exact fR (hxo.2.2.2.2 r hr)
    ·rw[cJ,t2];simp only[cG]at hkl
     lia
    ·refine⟨_,aq,Nat.lt_of_lt_of_le (by simp;lia:_<1000) (sz3 1000),?_⟩;rw[aZ];refine k' _ _ ⟨_,_,rfl,?_⟩;rw[List.take_add_one,hx];simp[dP,cG]
  ·intro Δ M' hI;refine shr fun _ bk=>?_;obtain⟨x7,x8,rfl,rfl⟩:=hI;refine bk ?_;clear bk;rw[List.length_map,List.take_of_length_le (Nat.le_refl _)];walk_at "rd";refine⟨_,jz (ys:=cp ord g es) (B:=4082) (n:=19) (cM ho hg he).1 (cM ho hg he).2 (by rw[aA];decide) (by decide),M,hV hq,k⟩
def kF:SpD:=fun ds M R=>∃(ord:List (Str×Str)) (g:Str) (es:List (Str×List Row)),ds=[gX ord g es]/\ord.length<=8/\es.length<=10/\R (.bl true) M
theorem ou(F:Fun K "_law_tuples" "_law_tuples" c9 f fd) (T:Txt mg) :aO P w K mg base CX0 1 f fd ["_law_found"] (spD K 1 kF):=by
 have nd:=i8.nd;refine F.okR rfl i8 (fun cdv A outer s H E hr=>⟨_,(ai (bD (nB (lE (kn (eB (dg (Tn:="tuple") (by decide) rfl T.b_isinstance rfl T.b_tuple (by kernel_rfl) (ae 0)))) (mD (aL (sM hr.units) (aB cm rfl T.b_len (by kernel_rfl) (af (ae 0) ah)) am nbh)))) (ak (aC vb)) bb)
   (ai (bD (nB (lE (kn (eB (dg (Tn:="tuple") (by decide) rfl T.b_isinstance rfl T.b_tuple (by kernel_rfl) (bJ bL (ae 0) am (fun _ _=>rfl))))) (mD (kn (eB (dg (Tn:="tuple") (by decide) rfl T.b_isinstance rfl T.b_tuple (by kernel_rfl) (bJ bL (ae 0) am (fun _ _=>rfl)))))))) (ak (aC vb)) bb)
   (ak (aC (bQ (aB (jB rfl) rfl T.b_all (by kernel_rfl) (af (ff (ms:=[false]) (ao:=["_law_pair"]) (aD (n0:=0) rfl (show aS (ag c9) cR _ _=true from by decide +kernel)) rfl (ba (bJ bL (ae 0) am (fun _ _=>rfl))) (aR (i:=1) (show(cR++_).Nodup from by decide +kernel) rfl rfl) (fun _ _ _ _=>bH) (fun _ _ _ _=>(dg (Tn:="tuple") (by decide) rfl T.b_isinstance rfl T.b_tuple (by kernel_rfl) (ae 1)))) ah)) (dX (aB (jB rfl) rfl T.b_all (by kernel_rfl) (af (ff (ms:=[false]) (ao:=["_law_one"]) (aD (n0:=0) rfl (show aS (ag c9) cR _ _=true from by decide +kernel)) rfl (ba (bJ bL (ae 0) am (fun _ _=>rfl))) (aR (i:=1) (show(cR++_).Nodup from by decide +kernel) rfl rfl) (fun _ _ _ _=>bH) (fun _ _ _ _=>(dg (Tn:="tuple") (by decide) rfl T.b_isinstance rfl T.b_tuple (by kernel_rfl) (ae 1)))) ah)))))))),fun ds M R _ hS bk=>?_⟩)
 obtain⟨ord,g,es,rfl,ho,he,k⟩:=hS;refine bk ?_;clear bk;simp only[gX];walk_at "rd";refine⟨true,rfl,?_⟩;rw[if_neg (by simp),if_neg (by simp)];refine⟨true,rfl,?_⟩;rw[if_neg (by simp)];refine⟨true,rfl,?_⟩;rw[if_neg (by simp)];refine fun hz=>⟨hz,bo aQ (fun _=>true) (fun _=>D.bl true) (fun Δ=>∃x,Δ=[none,x]) ord _ _ (fun r hr Δ hΔ=>?_) ⟨none,rfl⟩ ?_⟩
 ·obtain⟨x,rfl⟩:=hΔ;refine⟨_,rfl,⟨_,rfl⟩,fun Q1 q=>q,fun _ Q2 q=>?_⟩;walk_at "rd";exact⟨true,rfl,q⟩
 rw[List.nil_append,List.filter_eq_self.mpr (fun _ _=>rfl)];refine⟨_,mV ord,_,rfl,?_⟩;rw[if_pos rfl];refine fun hz=>⟨hz,bo bF (fun _=>true) (fun _=>D.bl true) (fun Δ=>∃x,Δ=[none,x]) es _ _ (fun r hr Δ hΔ=>?_) ⟨none,rfl⟩ ?_⟩
 ·obtain⟨x,rfl⟩:=hΔ;refine⟨_,rfl,⟨_,rfl⟩,fun Q1 q=>q,fun _ Q2 q=>?_⟩;walk_at "rd";exact⟨true,rfl,q⟩
 rw[List.nil_append,List.filter_eq_self.mpr (fun _ _=>rfl)];exact⟨_,mV es,k⟩
theorem eqP:∀x y:Str×Str,eqD (aQ x) (aQ y)=decide (x=y):=fun⟨a,b⟩ ⟨c,d⟩=>by
 rw[Bool.eq_iff_iff];simp[aQ,eqD,bZ]
theorem eqE:∀x y:Str×List Row,eqD (bF x) (bF y)=decide (x=y):=fun⟨a,b⟩ ⟨c,d⟩=>by
 have h:eqD (bA b) (bA d)=decide (b=d):=by
  simp only[bA,eqD];exact iu a7 uh
 rw[Bool.eq_iff_iff];simp[bF,eqD,bZ,h]
theorem xP{ord:List (Str×Str)}{g:Str}{es:List (Str×List Row)}:neF (gX ord g es) (gX ord g es)=some (.bl false):=by
 have h1:dLe (.tup (ord.map aQ)) 59=true:=by
  show bu (ord.map aQ) 58=true;rw[cg];intro d hd;obtain⟨x,_,rfl⟩:=List.mem_map.mp hd;rfl
 have h2:dLe (.tup (es.map bF)) 59=true:=by
  show bu (es.map bF) 58=true;rw[cg];intro d hd;obtain⟨e,_,rfl⟩:=List.mem_map.mp hd;exact qi e 53
 have h3:dLe (gX ord g es) 60=true:=by
  show bu [_,_,_] 59=true;simp[bu,dLe,h1,h2];exact⟨by simpa[dLe]using h1,by simpa[dLe]using h2⟩
 have e1:bZ (ord.map aQ) (ord.map aQ)=true:=by rw[iu aQ eqP];simp
 have e2:bZ (es.map bF) (es.map bF)=true:=by rw[iu bF eqE];simp
 simp only[neF,h3,and_self,if_true];simp[gX,eqD,bZ,e1,e2]
def S_law:SpD:=fun ds M R=>∃ns:List Int,ds=[.scr (ns.map .int)]/\M=noM/\ns.length<=63/\∀M',R (.bl true) M'
theorem xE(F:Fun K "law" "law" t7 f fd) (T:Txt mg) (ga1:FnD P w K mg base "_law_lexicon" 4 2 iU) (gb4:FnD P w K mg base "_law_text" 2 1 nV) (G8:FnD P w K mg base "read_lexicon" 9 1 dD) (gb2:FnD P w K mg base "_law_pool" 1 1 nr) (G5:FnD P w K mg base "show_lexicon" 4 1 dE) (ga9:FnD P w K mg base "_law_tuples" 1 1 kF):aO P w K mg base CX0 10 f fd ["_law_script"] (spD K 1 S_law):=by
 have nd:=si.nd;refine F.okR rfl si (fun cdv A outer s H E hr=>⟨_,(ai (gk PassesOwn.never rfl (ba (aI aK (n6 (af am ah)) (jO (ae 0) mL (md am)))) (aV (i:=1) nd rfl (Or.inl rfl)) (ai (aN (i:=2) nd rfl (Or.inl rfl) (qd ga1 hr (af (qd gb2 hr (af (ae 1) ah)) (af am ah))))
   (ai (aN (i:=3) nd rfl (Or.inl rfl) (qd gb4 hr (af (ae 2) ah)))
   (ai (aN (i:=4) nd rfl (Or.inl rfl) (qd G8 hr (af (ae 3) ah)))
   (ak (bD (nB (lE (aL (sM hr.units) (qd G5 hr (af (ae 2) ah)) (ae 3) nbh) (lE (aL (sM hr.units) (ae 4) (ae 2) nbh) (lE (kn (eB (qd ga9 hr (af (ae 4) ah)))) (mD (aL (sM hr.units) (qd G5 hr (af (ae 4) ah)) (ae 3) nbh)))))) (ak (aC vb)) bb))))))
   (ak (aC vb))),fun ds M R _ hS bk=>?_⟩)
 obtain⟨ns,rfl,rfl,hn,k⟩:=hS;refine bk ?_;clear bk;walk_at "rd";obtain⟨ys,hys,hyl⟩:∃ys:List Int,L2.dF (ns.map D.int) none (some 8)=ys.map D.int/\ys.length<=8:=⟨ns.take 8,by rw[show(8:Int)=((8:Nat):Int)from rfl,wC,List.map_take],by rw[List.length_take];lia⟩;rw[hys];refine⟨sz3 1,_,if_pos (sz3 _ (by rw[List.length_map];lia)),_,rfl,fun hz=>?_⟩;rw[show D.int 0::ys.map D.int=(0::ys).map D.int from rfl];refine bY (fun i Δ M'=>∃x1 x2 x3 x4:Option D,Δ=[some (D.scr (ns.map D.int)),x1,x2,x3,x4]/\∀a u,M' a=some u->noC u=true) ⟨_,_,_,_,rfl,fun a u e=>nomatch e⟩ ?_ ?_
 ·intro i d Δ M X hd hI k';refine shr fun _ bk=>?_;obtain⟨x1,x2,x3,x4,rfl,hno⟩:=hI;refine bk ?_;clear bk;obtain⟨c,hc,rfl⟩:=il hd;simp only[bT];walk_at "rd";refine⟨c,rfl,fun p l hp hP=>⟨p,l,rfl,aq,hP,fun a u e ha=>hno a u (by rw[aw ha]at e;exact e),fun ord g es l' ho hg he hP'=>?_⟩⟩;rw[aZ];walk_at "rd";refine⟨ord,g,es,rfl,ho,hg,he,?_⟩;walk_at "rd";refine⟨ord,g,es,rfl,ho,hg,he,?_⟩;walk_at "rd";refine⟨ord,g,es,rfl,ho,hg,he,_,oF,_,rfl,?_⟩;rw[if_neg (by simp)];refine⟨_,xP,_,rfl,?_⟩;rw[if_neg (by simp)];refine⟨ord,g,es,rfl,ho.1,he.2.1,_,rfl,?_⟩;rw[if_neg (by simp)];refine⟨ord,g,es,rfl,ho,hg,he,_,oF,_,rfl,?_⟩;rw[if_neg (by simp)];refine k' _ _ ⟨_,_,_,_,rfl,fun a u e=>?_⟩
  by_cases ha:a=p
  ·subst ha;rw[aq]at e;cases e;obtain⟨a1,a2,a3,rfl,_⟩:=hP';rfl
  ·rw[aw ha]at e;exact hno a u e
 ·intro Δ M hI;refine shr fun _ bk=>?_;obtain⟨x1,x2,x3,x4,rfl,hno⟩:=hI;refine bk ?_;clear bk;walk_at "rd";exact k _
end
theorem zZ:yM S_law:=fun ns R hn hR=>⟨ns,rfl,rfl,hn,hR⟩
theorem yf{l:PySem.W.OpenLaw}{w:World}{K:PySem.W.Frag}{h:Heap}{mg:Str->Option Value}{fa:Addr}(X:K.In h) (G:h.Ns mainGlobals mg) (hfa:mg "law"=some (.ref fa))
  {f0:Addr} {d0:FuncData}
  {f1:Addr} {d1:FuncData}
  {f2:Addr} {d2:FuncData}
  {f3:Addr} {d3:FuncData}
  {f4:Addr} {d4:FuncData}
  {f5:Addr} {d5:FuncData}
  {f6:Addr} {d6:FuncData}
  {f7:Addr} {d7:FuncData}
  {f8:Addr} {d8:FuncData}
  {f9:Addr} {d9:FuncData}
  {f10:Addr} {d10:FuncData}
  {f11:Addr} {d11:FuncData}
  {f12:Addr} {d12:FuncData}
  {f13:Addr} {d13:FuncData}
  {f14:Addr} {d14:FuncData}
  {f15:Addr} {d15:FuncData}
  {f16:Addr} {d16:FuncData}
  {f17:Addr} {d17:FuncData}
  {f18:Addr} {d18:FuncData}
  {f19:Addr} {d19:FuncData}
  {f20:Addr} {d20:FuncData}
  {f21:Addr} {d21:FuncData}
  {f22:Addr} {d22:FuncData}
  {f23:Addr} {d23:FuncData}
  {f24:Addr} {d24:FuncData}
  {f25:Addr} {d25:FuncData}
  {f26:Addr} {d26:FuncData}
  {f27:Addr} {d27:FuncData}
  {f28:Addr} {d28:FuncData}
  {f29:Addr} {d29:FuncData}
  {f30:Addr} {d30:FuncData}
  {f31:Addr} {d31:FuncData}
  {f32:Addr} {d32:FuncData}
  {f33:Addr} {d33:FuncData}
  {f34:Addr} {d34:FuncData}
  {f35:Addr} {d35:FuncData}
  {tk_SMALL_LETTERS:Tok}
  {tk_MOST_LETTERS:Tok}
  {tk_MOST_PAIRS:Tok}
  {tk_MOST_TURN:Tok}
  {tk_MOST_ENTRIES:Tok}
  {tk_MOST_KINDS:Tok}
  {tk_MOST_SIGNS:Tok}
  {tk_NO_SIGNS:Tok}
  {tk_BETWEEN_PARTS:Tok}
  {tk_BETWEEN_PAIR:Tok}
  {tk_BEHIND_WORD:Tok}
  {tk_BETWEEN_KINDS:Tok}
  (x0:bt K "is_whole" eS f0 d0)
  (x1:bt K "is_tuple_of" cE f1 d1)
  (x2:bt K "is_short_word" bC f2 d2)
  (x3:bt K "are_unlike" c8 f3 d3)
  (x4:bt K "show_sign" dq f4 d4)
  (x5:bt K "turn_in" e8 f5 d5)
  (x6:bt K "pair_in" fj f6 d6)
  (x7:bt K "_law_pool" kG f7 d7)
  (x8:bt K "_law_draw" jI f8 d8)
  (x9:bt K "_law_row_text" eD f9 d9)
  (x10:bt K "_law_tuples" c9 f10 d10)
  (x11:bt K "is_mark" fC f11 d11)
  (x12:bt K "is_turn" fk f12 d12)
  (x13:bt K "show_row" cI f13 d13)
  (x14:bt K "sign_in" fL f14 d14)
  (x15:bt K "_law_word" dO f15 d15)
  (x16:bt K "_law_order" iN f16 d16)
  (x17:bt K "_law_kinds" iD f17 d17)
  (x18:bt K "_law_text" ix f18 d18)
  (x19:bt K "is_pair" fB f19 d19)
  (x20:bt K "is_sign" fH f20 d20)
  (x21:bt K "show_entry" b6 f21 d21)
  (x22:bt K "goal_in" eZ f22 d22)
  (x23:bt K "_law_some_words" cP f23 d23)
  (x24:bt K "is_order" cL f24 d24)
  (x25:bt K "is_row" eh f25 d25)
  (x26:bt K "show_lexicon" bp f26 d26)
  (x27:bt K "_law_lexicon" fJ f27 d27)
  (x28:bt K "is_kind" fc f28 d28)
  (x29:bt K "row_in" eI f29 d29)
  (x30:bt K "are_kinds" cx f30 d30)
  (x31:bt K "entry_in" cK f31 d31)
  (x32:bt K "is_entry" dZ f32 d32)
  (x33:bt K "are_entries" bx f33 d33)
  (x34:bt K "read_lexicon" cn f34 d34)
  (x35:bt K "law" t7 f35 d35)
  (z_isinstance:PySem.W.nsIn K mainGlobals "isinstance"=some none)
  (z_int:PySem.W.nsIn K mainGlobals "int"=some none)
  (z_bool:PySem.W.nsIn K mainGlobals "bool"=some none)
  (z_tuple:PySem.W.nsIn K mainGlobals "tuple"=some none)
  (z_len:PySem.W.nsIn K mainGlobals "len"=some none)
  (z_str:PySem.W.nsIn K mainGlobals "str"=some none)
  (z_all:PySem.W.nsIn K mainGlobals "all"=some none)
  (z_set:PySem.W.nsIn K mainGlobals "set"=some none)
  (z_enumerate:PySem.W.nsIn K mainGlobals "enumerate"=some none)
  (z_abs:PySem.W.nsIn K mainGlobals "abs"=some none)
  (z_range:PySem.W.nsIn K mainGlobals "range"=some none)
  (z_SMALL_LETTERS:PySem.W.nsIn K mainGlobals "SMALL_LETTERS"=some (some (.str "abcdefghijklmnopqrstuvwxyz" tk_SMALL_LETTERS)))
  (z_MOST_LETTERS:PySem.W.nsIn K mainGlobals "MOST_LETTERS"=some (some (.int 8 tk_MOST_LETTERS)))
  (z_MOST_PAIRS:PySem.W.nsIn K mainGlobals "MOST_PAIRS"=some (some (.int 8 tk_MOST_PAIRS)))
  (z_MOST_TURN:PySem.W.nsIn K mainGlobals "MOST_TURN"=some (some (.int 99 tk_MOST_TURN)))
  (z_MOST_ENTRIES:PySem.W.nsIn K mainGlobals "MOST_ENTRIES"=some (some (.int 10 tk_MOST_ENTRIES)))
  (z_MOST_KINDS:PySem.W.nsIn K mainGlobals "MOST_KINDS"=some (some (.int 4 tk_MOST_KINDS)))
  (z_MOST_SIGNS:PySem.W.nsIn K mainGlobals "MOST_SIGNS"=some (some (.int 5 tk_MOST_SIGNS)))
  (z_NO_SIGNS:PySem.W.nsIn K mainGlobals "NO_SIGNS"=some (some (.str "1" tk_NO_SIGNS)))
  (z_BETWEEN_PARTS:PySem.W.nsIn K mainGlobals "BETWEEN_PARTS"=some (some (.str "; " tk_BETWEEN_PARTS)))
  (z_BETWEEN_PAIR:PySem.W.nsIn K mainGlobals "BETWEEN_PAIR"=some (some (.str " < " tk_BETWEEN_PAIR)))
  (z_BEHIND_WORD:PySem.W.nsIn K mainGlobals "BEHIND_WORD"=some (some (.str ": " tk_BEHIND_WORD)))
  (z_BETWEEN_KINDS:PySem.W.nsIn K mainGlobals "BETWEEN_KINDS"=some (some (.str " | " tk_BETWEEN_KINDS)))
 :∃fd:FuncData,(∀(s:Shared) (v:Value),BindsTo s fd ⟨[v],[]⟩ [("_law_script",v)])/\∀base:Heap,K.In base->base.Ns mainGlobals mg->aO l.prog w K mg base CX0 10 fa fd ["_law_script"] (spD K 1 S_law):=by
 have T:Txt mg:=⟨PySem.W.mg_none_of X G z_isinstance,PySem.W.mg_none_of X G z_int,PySem.W.mg_none_of X G z_bool,PySem.W.mg_none_of X G z_tuple,PySem.W.mg_none_of X G z_len,PySem.W.mg_none_of X G z_str,PySem.W.mg_none_of X G z_all,PySem.W.mg_none_of X G z_set,PySem.W.mg_none_of X G z_enumerate,PySem.W.mg_none_of X G z_abs,PySem.W.mg_none_of X G z_range,⟨_,PySem.W.mg_of X G z_SMALL_LETTERS⟩,⟨_,PySem.W.mg_of X G z_MOST_LETTERS⟩,⟨_,PySem.W.mg_of X G z_MOST_PAIRS⟩,⟨_,PySem.W.mg_of X G z_MOST_TURN⟩,⟨_,PySem.W.mg_of X G z_MOST_ENTRIES⟩,⟨_,PySem.W.mg_of X G z_MOST_KINDS⟩,⟨_,PySem.W.mg_of X G z_MOST_SIGNS⟩,⟨_,PySem.W.mg_of X G z_NO_SIGNS⟩,⟨_,PySem.W.mg_of X G z_BETWEEN_PARTS⟩,⟨_,PySem.W.mg_of X G z_BETWEEN_PAIR⟩,⟨_,PySem.W.mg_of X G z_BEHIND_WORD⟩,⟨_,PySem.W.mg_of X G z_BETWEEN_KINDS⟩⟩;refine yB X G hfa x35 (fun _ _ _ _ _ _ _=>rfl) fun base=>?_;have Y7:=fg X G x0 (kO (P:=l.prog) (w:=w) (base:=base) x0.F T ) (bd1 x0.F fun _ _ _ _ _ _ _=>rfl);have G1:=fg X G x1 (iJ (P:=l.prog) (w:=w) (base:=base) x1.F T ) (bd2 x1.F fun _ _ _ _ _ _ _ _=>rfl);have G3:=fg X G x2 (gJ (P:=l.prog) (w:=w) (base:=base) x2.F T ) (bd1 x2.F fun _ _ _ _ _ _ _=>rfl);have G4:=fg X G x3 (jj (P:=l.prog) (w:=w) (base:=base) x3.F T ) (bd1 x3.F fun _ _ _ _ _ _ _=>rfl);have Y2:=fg X G x4 (jK (P:=l.prog) (w:=w) (base:=base) x4.F T ) (bd1 x4.F fun _ _ _ _ _ _ _=>rfl);have ga0:=fg X G x5 (mU (P:=l.prog) (w:=w) (base:=base) x5.F T ) (bd1 x5.F fun _ _ _ _ _ _ _=>rfl);have ga4:=fg X G x6 (m7 (P:=l.prog) (w:=w) (base:=base) x6.F T ) (bd1 x6.F fun _ _ _ _ _ _ _=>rfl);have gb2:=fg X G x7 (rg (P:=l.prog) (w:=w) (base:=base) x7.F T ) (bd1 x7.F fun _ _ _ _ _ _ _=>rfl);have G0:=fg X G x8 (rH (P:=l.prog) (w:=w) (base:=base) x8.F T ) (bd2 x8.F fun _ _ _ _ _ _ _ _=>rfl);have Y4:=fg X G x9 (kP (P:=l.prog) (w:=w) (base:=base) x9.F T ) (bd1 x9.F fun _ _ _ _ _ _ _=>rfl);have ga9:=fg X G x10 (ou (P:=l.prog) (w:=w) (base:=base) x10.F T ) (bd1 x10.F fun _ _ _ _ _ _ _=>rfl);have G2:=fg X G x11 (mG (P:=l.prog) (w:=w) (base:=base) x11.F T G3) (bd1 x11.F fun _ _ _ _ _ _ _=>rfl);have ga3:=fg X G x12 (mK (P:=l.prog) (w:=w) (base:=base) x12.F T Y7) (bd1 x12.F fun _ _ _ _ _ _ _=>rfl);have Y6:=fg X G x13 (kI (P:=l.prog) (w:=w) (base:=base) x13.F T Y2) (bd1 x13.F fun _ _ _ _ _ _ _=>rfl);have ga5:=fg X G x14 (mE (P:=l.prog) (w:=w) (base:=base) x14.F T ga0) (bd1 x14.F fun _ _ _ _ _ _ _=>rfl);have gb3:=fg X G x15 (rM (P:=l.prog) (w:=w) (base:=base) x15.F T G0) (bd2 x15.F fun _ _ _ _ _ _ _ _=>rfl);have gb1:=fg X G x16 (oT (P:=l.prog) (w:=w) (base:=base) x16.F T G0) (bd3 x16.F fun _ _ _ _ _ _ _ _ _=>rfl);have gb0:=fg X G x17 (pF (P:=l.prog) (w:=w) (base:=base) x17.F T G0) (bd5 x17.F fun _ _ _ _ _ _ _ _ _ _ _=>rfl);have gb4:=fg X G x18 (qL (P:=l.prog) (w:=w) (base:=base) x18.F T Y4) (bd1 x18.F fun _ _ _ _ _ _ _=>rfl);have ga7:=fg X G x19 (mS (P:=l.prog) (w:=w) (base:=base) x19.F T G1 G2) (bd1 x19.F fun _ _ _ _ _ _ _=>rfl);have ga6:=fg X G x20 (mv (P:=l.prog) (w:=w) (base:=base) x20.F T G1 G2 ga3) (bd1 x20.F fun _ _ _ _ _ _ _=>rfl);have Y0:=fg X G x21 (jf (P:=l.prog) (w:=w) (base:=base) x21.F T Y6) (bd1 x21.F fun _ _ _ _ _ _ _=>rfl);have ga2:=fg X G x22 (mf (P:=l.prog) (w:=w) (base:=base) x22.F T G2) (bd1 x22.F fun _ _ _ _ _ _ _=>rfl);have G6:=fg X G x23 (jt (P:=l.prog) (w:=w) (base:=base) x23.F T gb3) (bd2 x23.F fun _ _ _ _ _ _ _ _=>rfl);have Y3:=fg X G x24 (kW (P:=l.prog) (w:=w) (base:=base) x24.F T ga7) (bd1 x24.F fun _ _ _ _ _ _ _=>rfl);have G7:=fg X G x25 (oy (P:=l.prog) (w:=w) (base:=base) x25.F T ga6) (bd1 x25.F fun _ _ _ _ _ _ _=>rfl);have G5:=fg X G x26 (ir (P:=l.prog) (w:=w) (base:=base) x26.F T Y0) (bd1 x26.F fun _ _ _ _ _ _ _=>rfl);have ga1:=fg X G x27 (mF (P:=l.prog) (w:=w) (base:=base) x27.F T G6 gb1 G0 gb0) (bd2 x27.F fun _ _ _ _ _ _ _ _=>rfl);have Y9:=fg X G x28 (mT (P:=l.prog) (w:=w) (base:=base) x28.F T G7) (bd1 x28.F fun _ _ _ _ _ _ _=>rfl);have ga8:=fg X G x29 (nh (P:=l.prog) (w:=w) (base:=base) x29.F T G7 ga5) (bd1 x29.F fun _ _ _ _ _ _ _=>rfl);have Y1:=fg X G x30 (kE (P:=l.prog) (w:=w) (base:=base) x30.F T G4 Y9) (bd1 x30.F fun _ _ _ _ _ _ _=>rfl);have Y5:=fg X G x31 (kN (P:=l.prog) (w:=w) (base:=base) x31.F T ga8) (bd1 x31.F fun _ _ _ _ _ _ _=>rfl);have Y8:=fg X G x32 (kJ (P:=l.prog) (w:=w) (base:=base) x32.F T G1 G3 Y1) (bd1 x32.F fun _ _ _ _ _ _ _=>rfl);have G9:=fg X G x33 (iE (P:=l.prog) (w:=w) (base:=base) x33.F T G4 Y8) (bd1 x33.F fun _ _ _ _ _ _ _=>rfl);have G8:=fg X G x34 (g8 (P:=l.prog) (w:=w) (base:=base) x34.F T ga2 Y3 G9 ga4 Y5) (bd1 x34.F fun _ _ _ _ _ _ _=>rfl);exact xE x35.F T ga1 gb4 G8 gb2 G5 ga9
end My
open PySem PySem.W PyProof.Rows
set_option maxRecDepth 100000 in
set_option maxHeartbeats 0 in
theorem PySem.Challenge.cw_wordwishes_k08_lexicons_written_holds : PySem.Challenge.rw_wordwishes_k08_lexicons_written.Holds := by
 w_on;o_law;z_head;(case hw=>w_witness2)
 k_fill
 refine L2.tq (fun _=>rfl) ?_;refine L2.zx (S:=My.S_law) My.zZ (k:=10) (x:="_law_script") (l:=PySem.Challenge.rw_wordwishes_k08_lexicons_written) ⟨rfl,by decide,by decide⟩ rfl rfl (fun w h Y=>Y) ?F
 case F =>
  intro w mg fa h KX G hmg
  refine' My.yf KX G hmg ?_ ?_ ?_ ?_ ?_ ?_ ?_ ?_ ?_ ?_ ?_ ?_ ?_ ?_ ?_ ?_ ?_ ?_ ?_ ?_ ?_ ?_ ?_ ?_ ?_ ?_ ?_ ?_ ?_ ?_ ?_ ?_ ?_ ?_ ?_ ?_ ?_ ?_ ?_ ?_ ?_ ?_ ?_ ?_ ?_ ?_ ?_ ?_ ?_ ?_ ?_ ?_ ?_ ?_ ?_ ?_ ?_ ?_ ?_
  all_goals try first|exact L2.zY (by k_is) (by k_is) (by k_is) (by k_is)|exact L2.t9 (by k_is) (by k_is) (by k_is)|k_is
