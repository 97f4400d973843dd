import PyProof.Rows.All
import Wide.All
import OpenK.AllK
import Wide.FinOn
import Lean
import PyProof.EqAt
import PyProof.EqKinds
import PyProof.TupleCall
import KE.KRevIter
import PyProof.NeKinds
import PyProof.Draws
import PyProof.EnumMake
import KE.KSortTup
import PyProof.ZipIter
import KE.KDictList
import PyProof.AttrMissHeap
import KE.KDictOf
import PyProof.Rows.SetFrom
import PySem.Challenge.RW_wordwishes_k57_lexicons_parted
set_option Elab.async false
set_option linter.all false
set_option maxRecDepth 100000
set_option maxHeartbeats 4000000
set_option compiler.extract_closed false
noncomputable section
open PySem.W renaming Frag->o0,emptyDict->O7,instObj->Q8,findIn->R7,keepIn->T9,fnOf->X1
open PySem renaming Value->s0,wpAny_bind->u8,Shared->I0,sizeLine->J1,wpAny_pure->J4,starEach->J5,Addr->J9,Expr->K3,wpAny->K4,Builtin->K5,model->K9,Program->L1,compareOp->L5,Heap->L7,wpAny_newObj_type->M0,Around->M7,wpAny_mono->N4,NameKind->N5,mem_of_lookup->N7,World->O4,foldedSetIterable->O6,binaryOp->P1,assignEach->P3,wpAny_callSpecial?_slot->P8,bootBuiltins->P9,wpAny_truthy_bool->Q5,Paired->Q7,FuncData->R9,wpAny_passesOwn->S0,mainGlobals->S6,behindInMarks->S7,wpAny_field->T1,wpAny_getItem_str_slice->T3,eval->T4,backTo->T5,Spec->T7,sysModules->T8,tupleKind_room_in1->U1,wpAny_holding->U6,attributeBase->U7,wpAny_call_entry->U9,Scope->V3,letOwnedTupleGo->V4,wpAny_Call_Name_kw->V7,wpAny_loadPart'->V9,codeAny->W4,sliceBounds->W5,wpAny_pyIter_list->W7,codeAny_mono->X0,wpAny_standAt->X7,Comprehension->X8,wpAny_execs_nil->Y0,swapsWith->Y1,getItem->Y2,post_val_or_str->Y6,assign->Y8,Keyword->Y9,comprehension->Z5,cLine->Z6,subscripted->Z8,keywordEach->Z9,Stmt->aa0,tupleKind->aa1,Within->aa2,holding->aa3,wpAny_typeOf->aa5,typeIs_int->aa8,call_meets->aa9,standAt->ab3,IsRangeIter->ab4,sizeLine_eq->ab5,callerA->ab6,IsPart->ab7,valueAt->ac0,pyIter->ac1,CmpOp->ac2,Operator->ac3,backToKw->ac4,inplaceOp->ac8,PassesOwn->ac9,BindsTo->ad0,cellsFrom->ad1
open PySem.Heap renaming get?_push_of_some->J0,get?_push_size->J7,lt_size->J8,SameBut->S4,size_push->W9
open List renaming size_toArray->J3,replicate->K0,mem_append_right->K6,map_cons->L3,mem_cons_of_mem->L4,getElem?_eq_some_iff->N0,getElem?_append_left->N1,length_cons->N8,lookup_cons->N9,mem_cons_self->O1,length_append->O2,mem_cons->O5,mem_singleton->P0,getElem?_map->P4,replicate_succ->P5,any_cons->P6,range->Q0,filterMap_cons->Q9,find?_cons->R1,getElem?_append_right->R3,flatten_cons->S2,getElem?_eq_getElem->S3,lookup->S9,getElem?_replicate->T0,getElem?_set_self->U0,mem_append->U2,length_map->U3,getElem?_eq_none->U5,mem_filterMap->V5,append_nil->V6,nodup_cons->V8,all_cons->W0,reverse_cons->W6,mem_range->W8,all_eq_true->X6,length_nil->Y4,foldl->ab9
open Nat renaming le_refl->J6,lt_of_lt_of_le->K1,ne_of_lt->K2,le_trans->M9,lt_succ_of_lt->Q6,lt_irrefl->S5,lt_succ_self->T6,zero_le->U4,ne_of_gt->aa4
open PyProof.Rows renaming slot_tuple_getitem->K7,callWith_type1->R0,slicePart_none->Z0,kindOf->Z1,AllBare->Z4,tupleItemsOf_->Z7,envOfC->ab0,Subscript_->ab8,IsTup->ac7
open PySem.Builtin.Tuple renaming tupleExact->K8,tupleItemsOf->R5
open Bool renaming and_eq_true->L6,false_ne_true->L9,false_eq_true->O3
open Option.some renaming inj->L8
open PySem.Builtin.Slice renaming slicePlaces->N2,sliceApplied->R4
open PySem.Value renaming ref->N3,none->W3,type->X9,int->ac5,str->ac6
open Option renaming some->N6,isSome_iff_exists->S1,map_some->Y7
open PySem.SeqAt renaming EqAt->O0
open PySem.Builtin.Range renaming rangeSize->O8
open ForInStep renaming yield->O9
open False renaming elim->P2
open PySem.NameKind renaming free->P7,cell->W1
open PySem.F renaming slot_tuple_iterator_next->R6,slot_int_rmul->Y3
open PySem.Builtin.SmallTypes renaming nextOf->R8
open PySem.Builtin.Str renaming occurrences->S8
open PySem.Code renaming compLoop->U8
open Array renaming length_toList->V0
open True renaming intro->V1
open PySem.Str renaming ofString->V2
open Ne renaming symm->X4
open Pure renaming pure->X5
open PySem.Txt renaming slice->Y5,slice_le->aa6
open PySem.Paired renaming length->Z3
open PySem.Obj renaming mapSeq->aa7
open Sum renaming inl->ab1,inr->ab2
open LawfulMonad renaming pure_bind->ad2
/-! THE HAND LAYER,for ints,bools,texts,own classes,LISTS and tuples (index,slices,in,append,pop ..),calls,loops. Paste it whole ahead of your own text;what your proof does not reach may be deleted. -/
namespace L2
open PySem PySem.Spec PyProof.Rows
abbrev Key:=Sum Int Str
def lZ:Key->s0->Bool
 |.inl k,v=>s0.isInt k v
 |.inr x,v=>s0.isStrOf x v
def Hl(w:O4):Key->Int
 |.inl k=>hashInt k
 |.inr x=>hashStr w x
theorem bv:∀{k:Key}{v:s0},lZ k v=true->(∃i t,k=ab1 i/\v=ac5 i t)∨(∃x t,k=ab2 x/\v=ac6 x t)
 |.inl i,v,h=>by
  obtain⟨t,e⟩:=s0.isInt_shape (k:=i) (v:=v) h
  exact .inl ⟨i,t,rfl,e⟩
 |.inr x,v,h=>by
  obtain⟨t,e⟩:=s0.isStrOf_shape (x:=x) (v:=v) h
  exact .inr ⟨x,t,rfl,e⟩
theorem xj(i:Int) (t:Tok):lZ (.inl i) (.int i t)=true:=by simp[lZ,s0.isInt]
theorem wK(x:Str) (t:Tok):lZ (.inr x) (.str x t)=true:=by simp[lZ,s0.isStrOf]
theorem Dn(a b:Int):decide ((ab1 a:Key)=ab1 b)=(a==b):=by
 by_cases e:a=b
 ·subst e;simp
 ·have h:¬ (ab1 a:Key)=ab1 b:=fun q=>e (ab1.inj q)
  rw[decide_eq_false h]
  exact(beq_eq_false_iff_ne.mpr e).symm
theorem Dx(a b:Str):decide ((ab2 a:Key)=ab2 b)=decide (a=b):=by
 by_cases e:a=b
 ·subst e;simp
 ·have h:¬ (ab2 a:Key)=ab2 b:=fun q=>e (ab2.inj q)
  rw[decide_eq_false h,decide_eq_false e]
theorem ED(a:Int) (b:Str):decide ((ab1 a:Key)=ab2 b)=false:=decide_eq_false (fun q=>nomatch q)
theorem EB(a:Str) (b:Int):decide ((ab2 a:Key)=ab1 b)=false:=decide_eq_false (fun q=>nomatch q)
def aT(prog:L1) (w:O4):PySem.KeyKind prog w Key where
 is:=lZ
 hash:=Hl w
 inj:=fun v a b ha hb=>by
  rcases bv ha with⟨i,t,rfl,rfl⟩|⟨x,t,rfl,rfl⟩
  ·rcases bv hb with⟨j,u,rfl,e⟩|⟨y,u,rfl,e⟩
   ·injection e with e1 _;rw[e1]
   ·exact nomatch e
  ·rcases bv hb with⟨j,u,rfl,e⟩|⟨y,u,rfl,e⟩
   ·exact nomatch e
   ·injection e with e1 _;rw[e1]
 byValue:=fun k v h=>by
  rcases bv h with⟨i,t,rfl,rfl⟩|⟨x,t,rfl,rfl⟩<;>rfl
 pyHash:=fun hv h=>by
  rcases bv hv with⟨i,t,rfl,rfl⟩|⟨x,t,rfl,rfl⟩
  ·exact wpAny_pyHash_int h
  ·exact wpAny_pyHash_str h
 eqBool:=fun hu hv h=>by
  rcases bv hu with⟨i,t,rfl,rfl⟩|⟨x,t,rfl,rfl⟩
  ·rcases bv hv with⟨j,u,rfl,rfl⟩|⟨y,u,rfl,rfl⟩
   ·rw[Dn]at h;exact wpAny_eqBool_int h
   ·rw[ED]at h;exact O0.int_str i t y u _ _ _ _ h
  ·rcases bv hv with⟨j,u,rfl,rfl⟩|⟨y,u,rfl,rfl⟩
   ·rw[EB]at h;exact O0.str_int x t j u _ _ _ _ h
   ·rw[Dx]at h;exact wpAny_eqBool_str h
 «strs»:=fun k x t v h=>by
  rcases bv h with⟨i,u,rfl,e⟩|⟨y,u,rfl,e⟩
  ·exact nomatch e
  ·injection e with e1 _
   subst e1
   cases v<;>rfl
theorem sd(prog:L1) (w:O4) (i:Int) (t:Tok):(aT prog w).is (.inl i) (.int i t)=true:=xj i t
theorem so(prog:L1) (w:O4) (x:Str) (t:Tok):(aT prog w).is (.inr x) (.str x t)=true:=wK x t
inductive V where
 |non|bl (b:Bool)|int (i:Int)|str (x:Str)|byt (b:Array UInt8)|flt (b:UInt64)|ref (a:J9)|ty (n:String)
 deriving DecidableEq
def aD:V->s0->Prop
 |.non,u=>u=W3
 |.bl b,u=>u=s0.bool b
 |.int i,u=>∃t,u=ac5 i t
 |.str x,u=>∃t,u=ac6 x t
 |.byt b,u=>∃t,u=s0.bytes b t
 |.flt b,u=>∃t,u=s0.float b t
 |.ref a,u=>u=N3 a
 |.ty n,u=>u=X9 n
abbrev az:List V->List s0->Prop:=Q7 aD
theorem az.length{xs:List V}{us:List s0}(r:az xs us):xs.length=us.length:=Z3 r
theorem az.get:∀{xs:List V}{us:List s0}{i:Nat}{x:V},az xs us->xs[i]?=some x->∃u,us[i]?=some u/\aD x u
 |_,_,_,_,.nil,e=>by simp at e
 |_,_,0,_,.cons r _,e=>by simp at e;subst e;exact⟨_,rfl,r⟩
 |_,_,i+1,x,.cons _ t,e=>by
  obtain⟨u,h1,h2⟩:=az.get (i:=i) (x:=x) t (by simpa using e)
  exact⟨u,by simpa using h1,h2⟩
theorem az.set{x:V}{u:s0}(r:aD x u):∀{xs:List V}{us:List s0}(i:Nat),az xs us->az (xs.set i x) (us.set i u)
 |_,_,_,.nil=>.nil
 |_,_,0,.cons _ t=>.cons r t
 |_,_,i+1,.cons q t=>.cons q (az.set r i t)
theorem az.append:∀{xs ys:List V}{us ws:List s0},az xs us->az ys ws->az (xs++ys) (us++ws)
 |_,_,_,_,.nil,s=>s
 |_,_,_,_,.cons r t,s=>.cons r (az.append t s)
theorem az.take:∀{xs:List V}{us:List s0}(n:Nat),az xs us->az (xs.take n) (us.take n)
 |_,_,0,_=>.nil
 |_,_,_+1,.nil=>.nil
 |_,_,n+1,.cons r t=>.cons r (az.take n t)
theorem az.drop:∀{xs:List V}{us:List s0}(n:Nat),az xs us->az (xs.drop n) (us.drop n)
 |_,_,0,r=>r
 |_,_,_+1,.nil=>.nil
 |_,_,n+1,.cons _ t=>az.drop n t
def iH:Option V->Option s0->Prop
 |some v,some u=>aD v u
 |none,none=>True
 |_,_=>False
def KV{κ:Type}:List (κ×V)->List (κ×s0)->Prop:=Q7 fun(p:κ×V) (q:κ×s0)=>p.1=q.1/\aD p.2 q.2
def kV:Key->V
 |.inl i=>.int i
 |.inr x=>.str x
inductive HO where
 |lst (xs:List V)
 |tup (xs:List V)
 |dK (kvs:List (Key×V))|dT (kvs:List (List Key×V))
 |set (S:Int->Bool) (n:Nat)
 |ins (C dx:J9) (fs:List (Str×V))
 |own (x:J9)
 |xd (fs:List (Str×V))
 |met (f x:J9)
 |rng (lo hi:Int)
 |frz (o:Obj) (u:HO)
 |tbl (ps:Array s0)
 |ext (φ:L7->Prop)
abbrev Hp:=J9->Option HO
def upd(H:Hp) (a:J9) (o:HO):Hp:=fun b=>if b=a then some o else H b
theorem aC{H:Hp}{a:J9}{o:HO}:upd H a o a=some o:=by unfold upd;rw[if_pos rfl]
theorem aJ{H:Hp}{a b:J9}{o:HO}(h:b≠a):upd H a o b=H b:=by unfold upd;rw[if_neg h]
theorem CM{H:Hp}{a b:J9}{o u:HO}(h:H a=some o) (h':H b=some u) (d:o≠u):a≠b:=by
 intro e;subst e;rw[h]at h';exact d (L8 h')
theorem cq{H:Hp}{a b:J9}{o:HO}(h:H a=some o) (h':H b=none):a≠b:=by
 intro e;subst e;rw[h]at h';cases h'
def lD(h:L7) (a:J9) (xs:Array s0):Prop:=∃o,h.get? a=some o/\o.cls=.type "tuple"/\(∃n,o.data=.seq xs n)/\o.dict=none
theorem lD.tup{h:L7}{a:J9}{xs:Array s0}(x:lD h a xs):ac7 h a xs:=let⟨o,e,c,d,_⟩:=x;⟨o,e,c,d⟩
theorem lD.lt{h:L7}{a:J9}{xs:Array s0}(x:lD h a xs):a<h.objs.size:=let⟨_,e,_⟩:=x;J8 e
theorem lD.new(h:L7) (xs:Array s0):lD (h.push { cls:=.type "tuple",data:=.seq xs }) h.objs.size xs:=⟨_,J7 h rfl,rfl,⟨_,rfl⟩,rfl⟩
section
variable(P:L1) (w:O4)
def bY(H:Hp) (h:L7) (a:J9):HO->Prop
 |.lst xs=>xs.length<=J1/\∃(its:List s0) (n:Nat),az xs its/\h.get? a=some { cls:=.type "list",data:=.seq its.toArray n }
 |.tup xs=>xs.length<=J1/\∃its:List s0,az xs its/\lD h a its.toArray
 |.dK kvs=>kvs.length<=J1/\(a==T8)=false/\∃vs,KV kvs vs/\h.DictOf (aT P w) a vs
 | .dT kvs => kvs.length ≤ J1 ∧ (a == T8) = false ∧ ∃ xs:List (List Key × J9 × s0),
   Q7 (fun(p:List Key×V) (q:List Key×J9×s0)=>p.1=q.1/\H q.2.1=some (.tup (p.1.map kV))/\aD p.2 q.2.2) kvs xs /\
   ∃o es ep,h.get? a=some o/\o.ExactDict/\o.data=.dict es ep/\es.toList=xs.map (entryOfKey (aa1 (aT P w)))/\(xs.map (·.1)).Nodup
 |.set S n=>h.SetOf (intKind P w) a S n
 | .ins C dx fs => H dx = some (.own a) ∧ fs.length ≤ 1000 ∧ dx ≠ a ∧ h.get? a = some (Q8 C dx) ∧
   ∃mA,h.Ns1 dx mA/\(∀f,iH (fs.lookup f) (mA f))/\aa2 mA (fs.map (·.1))
 |.own _=>∃o,h.get? a=some o
 |.xd fs=>∃mA,h.Ns1 a mA/\∀f,iH (fs.lookup f) (mA f)
 |.rng lo hi=>∃t u v,h.get? a=some { cls:=.type "range",data:=.fields #[.int lo t,.int hi u,.int 1 v] }
 |.frz o u=>h.get? a=some o/\bY H h a u
 |.tbl ps=>h.get? a=some { cls:=.none,data:=.fields ps }
 |.met f x=>h.get? a=some (PySem.W.methodObj (.ref f) (.ref x))
 |.ext φ=>φ h/\(∃o,h.get? a=some o)/\∀h1 h2:L7,φ h1->(∀o,h1.get? a=some o->h2.get? a=some o)->φ h2
def HOk(H:Hp) (h:L7):Prop:=∀a o,H a=some o->bY P w H h a o
end
section
variable{P:L1}{w:O4}{H H':Hp}{h h':L7}{a:J9}{o:HO}
theorem bY.lt(x:bY P w H h a o):a<h.objs.size:=by
 cases o with
 |lst xs=>obtain⟨_,_,_,_,e⟩:=x;exact J8 e
 |tup xs=>obtain⟨_,_,_,p⟩:=x;exact p.lt
 |dK kvs=>obtain⟨_,_,_,_,o,_,_,e,_⟩:=x;exact J8 e
 |dT kvs=>obtain⟨_,_,_,_,o,_,_,e,_⟩:=x;exact J8 e
 |set S n=>obtain⟨o,_,_,_,e,_⟩:=x;exact J8 e
 |ins C dx fs=>obtain⟨_,_,_,e,_⟩:=x;exact J8 e
 |own y=>obtain⟨_,e⟩:=x;exact J8 e
 |xd fs=>obtain⟨_,⟨_,_,_,e,_⟩,_⟩:=x;exact J8 e
 |rng lo hi=>obtain⟨_,_,_,e⟩:=x;exact J8 e
 |frz ob u=>obtain⟨e,_⟩:=x;exact J8 e
 |tbl ps=>exact J8 (show h.get? a=some _ from x)
 |met f y=>exact J8 (show h.get? a=some _ from x)
 |ext φ=>obtain⟨_,⟨_,e⟩,_⟩:=x;exact J8 e
theorem Q7.mapP{α β:Type}{F G:α->β->Prop}:∀{l₁:List α}{l₂:List β},Q7 F l₁ l₂->(∀a b,F a b->G a b)->Q7 G l₁ l₂
 |_,_,.nil,_=>.nil
 |_,_,.cons r t,f=>.cons (f _ _ r) (Q7.mapP t f)
theorem Q7.imp'{α β:Type}{F G:α->β->Prop}(f:∀a b,F a b->G a b) {l₁:List α}{l₂:List β}(r:Q7 F l₁ l₂):Q7 G l₁ l₂:=Q7.mapP r f
theorem bY.stay(x:bY P w H h a o) (k:∀b u,(b=a∨H b=some (.own a))->h.get? b=some u->h'.get? b=some u)
  (ho:∀b,H b=some (.own a)->H' b=some (.own a)) (ht:∀b xs,H b=some (.tup xs)->H' b=some (.tup xs)):bY P w H' h' a o:=by
 induction o with
 |lst xs=>obtain⟨z,its,n,r,e⟩:=x;exact⟨z,its,n,r,k _ _ (.inl rfl) e⟩
 |tup xs=>obtain⟨z,its,r,ob,e,c⟩:=x;exact⟨z,its,r,ob,k _ _ (.inl rfl) e,c⟩
 |dK kvs=>obtain⟨z,y,vs,r,ob,es,ep,e,c⟩:=x;exact⟨z,y,vs,r,ob,es,ep,k _ _ (.inl rfl) e,c⟩
 |dT kvs =>
  obtain⟨z,y,xs,r,ob,es,ep,e,c⟩:=x
  exact⟨z,y,xs,Q7.mapP r fun p q z=>⟨z.1,ht _ _ z.2.1,z.2.2⟩,ob,es,ep,k _ _ (.inl rfl) e,c⟩
 |set S n=>obtain⟨ob,es,ep,t,e,c⟩:=x;exact⟨ob,es,ep,t,k _ _ (.inl rfl) e,c⟩
 |ins C dx fs =>
  obtain⟨d,z,ne,e,mA,⟨od,es,ep,e2,c⟩,r⟩:=x
  exact⟨ho _ d,z,ne,k _ _ (.inl rfl) e,mA,⟨od,es,ep,k _ _ (.inr d) e2,c⟩,r⟩
 |own y=>obtain⟨ob,e⟩:=x;exact⟨ob,k _ _ (.inl rfl) e⟩
 |xd fs=>obtain⟨mA,⟨od,es,ep,e,c⟩,r⟩:=x;exact⟨mA,⟨od,es,ep,k _ _ (.inl rfl) e,c⟩,r⟩
 |rng lo hi=>obtain⟨t,u,v,e⟩:=x;exact⟨t,u,v,k _ _ (.inl rfl) e⟩
 |frz ob u ih=>obtain⟨e,q⟩:=x;exact⟨k _ _ (.inl rfl) e,ih q⟩
 |tbl ps =>
  have e:h.get? a=some { cls:=.none,data:=.fields ps }:=x
  show h'.get? a=some { cls:=.none,data:=.fields ps }
  exact k a _ (.inl rfl) e
 |met f y =>
  have e:h.get? a=some (PySem.W.methodObj (.ref f) (.ref y)):=x
  show h'.get? a=some (PySem.W.methodObj (.ref f) (.ref y))
  exact k a _ (.inl rfl) e
 |ext φ=>obtain⟨p,⟨o,e⟩,st⟩:=x;exact⟨st _ _ p fun o q=>k _ _ (.inl rfl) q,⟨o,k _ _ (.inl rfl) e⟩,st⟩
theorem HOk.lt(x:HOk P w H h) (e:H a=some o):a<h.objs.size:=(x a o e).lt
theorem HOk.fresh(x:HOk P w H h) (e:h.objs.size<=a):H a=none:=by
 cases q:H a with
 |none=>rfl
 |some u=>exact absurd (K1 (x.lt q) e) (S5 _)
theorem HOk.kept(x:HOk P w H h) (k:∀b u,h.get? b=some u->h'.get? b=some u):HOk P w H h':=fun a o e =>
 (x a o e).stay (fun b u _ q=>k b u q) (fun _ q=>q) fun _ _ q=>q
theorem HOk.laid(x:HOk P w H h) (k:∀b u,h.get? b=some u->h'.get? b=some u) (hp:h.objs.size<=a) (new:bY P w (upd H a o) h' a o):HOk P w (upd H a o) h':=fun b u e=>by
 have hn:=x.fresh hp
 by_cases hb:b=a
 ·subst hb;rw[aC]at e;cases e;exact new
 ·rw[aJ hb]at e
  exact(x b u e).stay (fun c v _ q=>k c v q) (fun c q=>by rw[aJ (cq q hn)];exact q) fun c xs q=>by rw[aJ (cq q hn)];exact q
end
def Rd(H:Hp) (a:J9) (u:HO):Prop:=H a=some u∨∃o,H a=some (.frz o u)
theorem Rd.of{H:Hp}{a:J9}{u:HO}(h:H a=some u):Rd H a u:=.inl h
theorem Rd.ok{P:L1}{w:O4}{H:Hp}{h:L7}{a:J9}{u:HO}(r:Rd H a u) (x:HOk P w H h):bY P w H h a u:=by
 rcases r with r|⟨o,r⟩
 ·exact x a u r
 ·obtain⟨_,q⟩:=x a _ r
  exact q
def Mut:Option HO->Prop
 |some (.lst _)=>True
 |some (.dK _)=>True
 |some (.dT _)=>True
 |some (.set _ _)=>True
 |some (.ins _ _ _)=>True
 |some (.ext _)=>True
 |_=>False
section
variable{P:L1}{w:O4}{H:Hp}{h h':L7}{x e:J9}{o':HO}
theorem HOk.write(ok:HOk P w H h) (mu:Mut (H x)) (he:e=x∨H e=some (.own x)) (k:∀b u,b≠e->h.get? b=some u->h'.get? b=some u) (heo:∃u,h'.get? e=some u)
  (new:bY P w (upd H x o') h' x o'):HOk P w (upd H x o') h':=fun b u q=>by
 have nown:∀c y,H c=some (.own y)->c≠x:=fun c y r z=>by subst z;rw[r]at mu;exact mu
 have ntup:∀c xs,H c=some (.tup xs)->c≠x:=fun c xs r z=>by subst z;rw[r]at mu;exact mu
 by_cases hb:b=x
 ·subst hb;rw[aC]at q;cases q;exact new
 ·rw[aJ hb]at q
  by_cases hbe:b=e
  ·have q':H b=some (.own x):=by
    rcases he with z|z
    ·exact absurd (hbe.trans z) hb
    ·rw[hbe];exact z
   rw[q]at q';cases q'
   obtain⟨v,hv⟩:=heo
   exact⟨v,by rw[hbe];exact hv⟩
  ·refine(ok b u q).stay (fun c v hc r=>k c v ?_ r) (fun c r=>by rw[aJ (nown c b r)];exact r) fun c xs r=>by rw[aJ (ntup c xs r)];exact r
   rcases hc with rfl|hc
   ·exact hbe
   ·rintro rfl
    rcases he with z|z
    ·exact nown c b hc z
    ·rw[hc]at z;cases z;exact hb rfl
end
/-! ### kept unless tracked;of the frames at fs (the callers') the slots may change (an exception that passes writes there);of the records at ex (iterators) nothing is said -/
structure Un(fs ex:List J9) (H H':Hp) (h h':L7):Prop where
 keep:∀b o,h.get? b=some o->H b=none->b∉fs->b∉ex->h'.get? b=some o
 slot:∀b o,h.get? b=some o->H b=none->b∈fs->b∉ex->∃sl,h'.get? b=some { o with slots:=sl }
 free:∀b o,h.get? b=some o->H b=none->b∉ex->H' b=none
 there:∀b o,h.get? b=some o->b∉ex->∃o',h'.get? b=some o'
 tups:∀b xs,H b=some (.tup xs)->H' b=some (.tup xs)
 frzs:∀b o u,H b=some (.frz o u)->H' b=some (.frz o u)
 tbls:∀b ps,H b=some (.tbl ps)->∃more,H' b=some (.tbl (ps++more))
section
variable{fs fs' ex ex':List J9}{H H1 H2:Hp}{h h1 h2 h':L7}{a x e:J9}{o:HO}
theorem Un.any(u:Un fs ex H H1 h h1) {b:J9}{ob:Obj}(q:h.get? b=some ob) (n:H b=none) (hx:b∉ex):∃sl,h1.get? b=some { ob with slots:=sl }:=by
 by_cases hb:b∈fs
 ·exact u.slot b ob q n hb hx
 ·exact⟨ob.slots,u.keep b ob q n hb hx⟩
theorem Un.kept(k:∀b u,h.get? b=some u->h'.get? b=some u):Un fs ex H H h h' :=
 ⟨fun b ob q _ _ _=>k b ob q,fun b ob q _ _ _=>⟨ob.slots,k b ob q⟩,fun _ _ _ n _=>n,fun b ob q _=>⟨ob,k b ob q⟩,fun _ _ q=>q,fun _ _ _ q=>q,fun _ ps q=>⟨#[],by rw[q];simp⟩⟩
theorem Un.refl:Un fs ex H H h h:=Un.kept fun _ _ q=>q
theorem Un.laid(k:∀b u,h.get? b=some u->h'.get? b=some u) (hp:h.objs.size<=a) (hn:H a=none):Un fs ex H (upd H a o) h h' where
 keep:=fun b u q _ _ _=>k b u q
 slot:=fun b u q _ _ _=>⟨u.slots,k b u q⟩
 free:=fun b u q n _=>by rw[aJ (K2 (K1 (J8 q) hp))];exact n
 there:=fun b u q _=>⟨u,k b u q⟩
 tups:=fun b xs q=>by rw[aJ (cq q hn)];exact q
 frzs:=fun b u xs q=>by rw[aJ (cq q hn)];exact q
 tbls:=fun b ps q=>⟨#[],by rw[aJ (cq q hn),q];simp⟩
theorem Un.write(mu:Mut (H x)) (he:e=x∨H e=some (.own x)) (k:∀b u,b≠e->h.get? b=some u->h'.get? b=some u) (heo:∃u,h'.get? e=some u):Un fs ex H (upd H x o) h h':=by
 have hx:∀b,H b=none->b≠x:=fun b n z=>by subst z;rw[n]at mu;exact mu
 have hb:∀b,H b=none->b≠e:=fun b n z=>by
  subst z
  rcases he with r|r
  ·exact hx b n r
  ·rw[n]at r;cases r
 have hm:∀b u,H b=some u->¬ Mut (some u)->b≠x:=fun b u q nm z=>by subst z;rw[q]at mu;exact nm mu
 refine⟨fun b u q n _ _=>k b u (hb b n) q,fun b u q n _ _=>⟨u.slots,k b u (hb b n) q⟩,fun b u q n _=>by rw[aJ (hx b n)];exact n,fun b u q _=>?_,
  fun b xs q=>by rw[aJ (hm b _ q fun z=>z)];exact q,fun b u xs q=>by rw[aJ (hm b _ q fun z=>z)];exact q,fun b ps q=>⟨#[],by rw[aJ (hm b _ q fun z=>z),q];simp⟩⟩
 by_cases hbe:b=e
 ·subst hbe;exact heo
 ·exact⟨u,k b u hbe q⟩
end
/-! ### the heap without what is tracked -/
def trk(h:L7) (H:Hp):List J9:=(Q0 h.objs.size).filter fun a=>(H a).isSome
def rm(h:L7) (H:Hp):L7:=PySem.W.hideAll h (trk h H)
theorem wG(h:L7) (H:Hp):(rm h H).objs.size=h.objs.size:=PySem.W.hideAll_size _ _
theorem z6{h:L7}{H:Hp}{b:J9}{o:Obj}(e:h.get? b=some o) (n:H b=none):(rm h H).get? b=some o :=
 PySem.W.hideAll_get _ e fun hm=>by
  have q:(H b).isSome=true:=(List.mem_filter.mp hm).2
  rw[n]at q;simp at q
theorem Co{h:L7}{H:Hp}{b:J9}{o:Obj}(e:(rm h H).get? b=some o):h.get? b=some o/\H b=none:=by
 have e':h.get? b=some o:=PySem.W.of_hideAll (trk h H) e
 refine⟨e',?_⟩
 cases q:H b with
 |none=>rfl
 |some x =>
  have hm:b∈trk h H:=List.mem_filter.mpr ⟨W8.mpr (J8 e'),by simp[q]⟩
  have z:(rm h H).get? b=none:=PySem.W.hideAll_none (trk h H) hm
  rw[z]at e;cases e
/-! ### OpenK's ledger,filled with every new object but one -/
structure Mod(K:o0) (mg:Str->Option s0) (base:L7):Prop where
 kin:K.In base
 glob:base.Ns S6 mg
 blt:∃mb,base.Ns builtinsNs mb/\∀x:Str,x≠"__name__"->mb x=P9 x
 nolimit:base.NoLimit
structure Cx where
 prog:L1
 w:O4
 K:o0
 mg:Str->Option s0
 base:L7
 A:M7
 N:List Str
 s₀:I0
 H₀:Hp
 env:Env
 outer:List Env
 stack:List Env
 ex:List J9
 fn:Str->Bool
 calm:Bool
 pn:List (J9×Obj)
 xe:s0->I0->Prop
def frs(l:List Env):List J9:=l.filterMap (·.frame)
abbrev Cx.fs(X:Cx):List J9:=frs X.outer
def Vis(sc:V3) (x:Str):Prop:=sc.names.lookup x=some .local∨sc.names.lookup x=some .cell∨sc.names.lookup x=some .free
def Loc(sc:V3) (x:Str):Prop:=sc.names.lookup x=some .local∨sc.names.lookup x=some .cell
def HX(env:Env) (h:L7) (m:Str->Option s0) (x:Str) (u:s0):Prop :=
 (env.kindOf x=some .local/\m x=some u)∨((env.kindOf x=some .cell∨env.kindOf x=some .free)/\∃c,env.cells.lookup x=some c/\h.IsCell c (some u))
structure Cx.Ok(X:Cx):Prop where
 mod:Mod X.K X.mg X.base
 kind:X.env.scope.kind=.function
 glob:X.env.globals=S6
 blt:X.env.builtins=builtinsNs
 above:X.s₀.heap.objs.size<=X.env.locals
 inj:∀x y c,X.env.cells.lookup x=some c->X.env.cells.lookup y=some c->x=y
 has:∀x,(X.env.kindOf x=some .cell∨X.env.kindOf x=some .free)->∃c,X.env.cells.lookup x=some c
 cab:∀x c,X.fn x=true->X.env.cells.lookup x=some c->X.s₀.heap.objs.size<=c
 hd:X.calm=true->X.A.handled=none
 frames:X.A.frames=some X.stack
 stk:X.stack=X.outer∨(X.stack=X.env::X.outer/\X.env.frame=some X.env.locals)
 exf:∀b∈X.ex,b≠X.env.locals/\∀x c,X.env.cells.lookup x=some c->c≠b
 bs:∀b o,X.base.get? b=some o->X.s₀.heap.get? b=some o/\X.H₀ b=none
 bsz:X.base.objs.size<=X.s₀.heap.objs.size
 noex:∀b o,X.base.get? b=some o->b∉X.ex
 exfs:∀b∈X.ex,b∉X.fs
 funs:X.s₀.heap.FunFrames X.base X.outer
 frf:∀b∈X.fs,X.H₀ b=none
structure Inv(X:Cx) (aa:List (J9×Obj)) (σ:List (Option V)) (H:Hp) (s:I0):Prop where
 ok:X.Ok
 os:s.os=X.s₀.os
 bare:Z4 s.gens
 base:Un X.fs X.ex X.H₀ H X.s₀.heap s.heap
 loc:∃m,s.heap.Ns X.env.locals m/\∀(i:Nat) (x:Str) (v:V),X.N[i]?=some x->σ[i]?=some (some v)->Vis X.env.scope x->∃u,aD v u/\HX X.env s.heap m x u
 cell:∀x c,X.env.cells.lookup x=some c->∃v,s.heap.IsCell c v
 free:H X.env.locals=none
 freeC:∀x c,X.env.cells.lookup x=some c->H c=none
 pin:∀p∈X.pn++aa,s.heap.get? p.1=some p.2/\H p.1=none/\p.1≠X.env.locals/\p.1∉X.fs/\∀v,p.2.data≠.cell v
 hok:HOk X.prog X.w H s.heap
 len:σ.length=X.N.length
section
variable{X:Cx}{aa:List (J9×Obj)}{σ:List (Option V)}{H H':Hp}{s:I0}{h':L7}
theorem Cx.Ok.nofr(ok:X.Ok) {b:J9}{o:Obj}(e:X.base.get? b=some o):b∉X.fs:=fun hb=>by
 have:=(ok.funs.mem hb).1
 rw[e]at this;cases this
theorem Inv.bs(I:Inv X aa σ H s):∀b o,X.base.get? b=some o->s.heap.get? b=some o/\H b=none:=fun b o e =>
 ⟨I.base.keep b o (I.ok.bs b o e).1 (I.ok.bs b o e).2 (I.ok.nofr e) (I.ok.noex b o e),I.base.free b o (I.ok.bs b o e).1 (I.ok.bs b o e).2 (I.ok.noex b o e)⟩
theorem Inv.bk(I:Inv X aa σ H s):∀b o,X.base.get? b=some o->s.heap.get? b=some o:=fun b o e=>(I.bs b o e).1
theorem Inv.mod(I:Inv X aa σ H s):Mod X.K X.mg X.base:=I.ok.mod
theorem Inv.kIn(I:Inv X aa σ H s):X.K.In s.heap:=I.ok.mod.kin.keeps I.bk
theorem Inv.lt(I:Inv X aa σ H s):X.env.locals<s.heap.objs.size:=let⟨_,hn,_⟩:=I.loc;hn.lt
theorem Inv.sz(I:Inv X aa σ H s):X.s₀.heap.objs.size<=s.heap.objs.size:=M9 I.ok.above (Nat.le_of_lt I.lt)
theorem Inv.nofs(I:Inv X aa σ H s) {a:J9}(h:s.heap.objs.size<=a):a∉X.fs:=fun hb=>by
 obtain⟨_,o,ho,_⟩:=I.ok.funs.mem hb
 exact absurd (K1 (J8 ho) (M9 I.sz h)) (S5 _)
theorem Inv.cne(I:Inv X aa σ H s):∀x c,X.env.cells.lookup x=some c->c≠X.env.locals:=fun x c e z=>by
 obtain⟨v,o,ho,hd⟩:=I.cell x c e
 obtain⟨m,⟨o',es,ep,ho',hd',_⟩,_⟩:=I.loc
 rw[z,ho']at ho;cases ho;rw[hd']at hd;cases hd
theorem Inv.funs(I:Inv X aa σ H s):s.heap.FunFrames X.base X.outer:=by
 have all:∀(l:List Env),(∀b∈frs l,b∈X.fs)->X.s₀.heap.FunFrames X.base l->s.heap.FunFrames X.base l:=by
  intro l
  induction l with
  |nil=>intro _ _;trivial
  |cons env r ih =>
   intro hs hl
   obtain⟨hk,⟨L,o,hf,hn,ho,hd⟩,hr⟩:=hl
   have hL:L∈X.fs:=hs L (by unfold frs;rw[Q9,hf];exact O1)
   obtain⟨sl,e⟩:=I.base.slot L o ho (I.ok.frf L hL) hL fun z=>I.ok.exfs L z hL
   exact⟨hk,⟨L,_,hf,hn,e,hd⟩,ih (fun b hb=>hs b (by unfold frs;rw[Q9,hf];exact L4 _ hb)) hr⟩
 exact all X.outer (fun _ hb=>hb) I.ok.funs
theorem Inv.stack(I:Inv X aa σ H s):s.heap.FunFrames X.base X.stack:=by
 rcases I.ok.stk with e|⟨e,hf⟩
 ·rw[e];exact I.funs
 ·rw[e]
  obtain⟨m,hn,_⟩:=I.loc
  refine .cons (by rw[I.ok.kind];decide) hf hn ?_ I.funs
  exact L7.get?_none_of_le (M9 I.ok.bsz I.ok.above)
theorem Inv.stkSub(I:Inv X aa σ H s):∀b∈frs X.stack,b∈X.env.locals::X.fs:=fun b hb=>by
 rcases I.ok.stk with e|⟨e,hf⟩
 ·rw[e]at hb;exact L4 _ hb
 ·rw[e]at hb
  unfold frs at hb
  rw[Q9,hf]at hb
  exact hb
theorem Inv.stkFree(I:Inv X aa σ H s):∀b∈frs X.stack,H b=none:=fun b hb=>by
 rcases O5.mp (I.stkSub b hb)with e|hb
 ·rw[e];exact I.free
 ·obtain⟨_,o,ho,_⟩:=I.ok.funs.mem hb
  exact I.base.free b o ho (I.ok.frf b hb) fun z=>I.ok.exfs b z hb
theorem Inv.step{g':Array GenState}{t':Nat}{d':Drawn}{ch:List J9}(I:Inv X aa σ H s)
  (hch:∀b∈ch,(b∈X.ex∨X.s₀.heap.objs.size<=b)/\b≠X.env.locals/\(∀x c,X.env.cells.lookup x=some c->c≠b)/\∀p∈X.pn++aa,p.1≠b)
  (keep:∀b o,b≠X.env.locals->b∉X.fs->b∉ch->s.heap.get? b=some o->H b=none->h'.get? b=some o)
  (slot:∀b o,b≠X.env.locals->b∈X.fs->b∉ch->s.heap.get? b=some o->H b=none->∃sl,h'.get? b=some { o with slots:=sl }) (free:∀b o,b∉ch->s.heap.get? b=some o->H b=none->H' b=none)
  (there:∀b o,b∉ch->s.heap.get? b=some o->∃o',h'.get? b=some o')
  (tups:∀b xs,H b=some (.tup xs)->H' b=some (.tup xs)) (frzs:∀b o u,H b=some (.frz o u)->H' b=some (.frz o u)) (tbls:∀b ps,H b=some (.tbl ps)->∃more,H' b=some (.tbl (ps++more)))
  (ns:∀m,s.heap.Ns X.env.locals m->h'.Ns X.env.locals m) (hok:HOk X.prog X.w H' h') (hg:Z4 g') :
  Inv X aa σ H' { s with heap:=h',gens:=g',drawn:=d',toks:=t' }:=by
 have neL:∀b o,X.s₀.heap.get? b=some o->b≠X.env.locals:=fun b o e=>K2 (K1 (J8 e) I.ok.above)
 have neC:∀b o,X.s₀.heap.get? b=some o->b∉X.ex->b∉ch:=fun b o e hx hb=>by
  rcases(hch b hb).1 with z|z
  ·exact hx z
  ·exact absurd (K1 (J8 e) z) (S5 _)
 have cellK:∀x c,X.env.cells.lookup x=some c->∀v,s.heap.IsCell c v->h'.IsCell c v:=fun x c e v ⟨o,ho,hd⟩=>by
  have nch:c∉ch:=fun z=>(hch c z).2.2.1 x c e rfl
  by_cases hc:c∈X.fs
  ·obtain⟨sl,q⟩:=slot c o (I.cne x c e) hc nch ho (I.freeC x c e)
   exact⟨_,q,hd⟩
  ·exact⟨o,keep c o (I.cne x c e) hc nch ho (I.freeC x c e),hd⟩
 refine⟨I.ok,I.os,hg,⟨fun b o e n hb hx=>?_,fun b o e n hb hx=>?_,fun b o e n hx=>?_,fun b o e hx=>?_,fun b xs e=>tups b xs (I.base.tups b xs e),fun b o xs e=>frzs b o xs (I.base.frzs b o xs e),fun b ps e=>?_⟩,?_,fun x c e=>?_,?_,fun x c e=>?_,fun p hp=>?_,hok,I.len⟩
 ·exact keep b o (neL b o e) hb (neC b o e hx) (I.base.keep b o e n hb hx) (I.base.free b o e n hx)
 ·obtain⟨sl,e1⟩:=I.base.slot b o e n hb hx
  obtain⟨sl',e2⟩:=slot b _ (neL b o e) hb (neC b o e hx) e1 (I.base.free b o e n hx)
  exact⟨sl',e2⟩
 ·obtain⟨o',e1⟩:=I.base.there b o e hx
  exact free b o' (neC b o e hx) e1 (I.base.free b o e n hx)
 ·obtain⟨o',e1⟩:=I.base.there b o e hx
  exact there b o' (neC b o e hx) e1
 ·obtain⟨m1,e1⟩:=I.base.tbls b ps e
  obtain⟨m2,e2⟩:=tbls b _ e1
  exact⟨m1++m2,by rw[e2,Array.append_assoc]⟩
 ·obtain⟨m,hn,hl⟩:=I.loc
  refine⟨m,ns m hn,fun i x v e1 e2 e3=>?_⟩
  obtain⟨u,r,l⟩:=hl i x v e1 e2 e3
  refine⟨u,r,?_⟩
  rcases l with l|⟨k,c,e,z⟩
  ·exact .inl l
  ·exact .inr ⟨k,c,e,cellK x c e _ z⟩
 ·obtain⟨v,z⟩:=I.cell x c e
  exact⟨v,cellK x c e v z⟩
 ·obtain⟨m,⟨o,_,_,ho,_⟩,_⟩:=I.loc
  exact free _ o (fun z=>(hch _ z).2.1 rfl) ho I.free
 ·obtain⟨v,o,ho,hd⟩:=I.cell x c e
  exact free c o (fun z=>(hch c z).2.2.1 x c e rfl) ho (I.freeC x c e)
 ·obtain⟨e,n,ne,nf,d⟩:=I.pin p hp
  have nch:p.1∉ch:=fun z=>(hch p.1 z).2.2.2 p hp rfl
  exact⟨keep p.1 p.2 ne nf nch e n,free p.1 p.2 nch e n,ne,nf,d⟩
theorem Inv.un{t':Nat}(I:Inv X aa σ H s) (u:Un X.fs [] H H' s.heap h') (hok:HOk X.prog X.w H' h'):Inv X aa σ H' { s with heap:=h',toks:=t' }:=by
 obtain⟨m,⟨o,es,ep,ho,r⟩,_⟩:=id I.loc
 obtain⟨sl,hL⟩:=u.any ho I.free (by simp)
 exact I.step (g':=s.gens) (d':=s.drawn) (ch:=[]) (fun _ z=>nomatch z) (fun b o _ hb _ e n=>u.keep b o e n hb (by simp)) (fun b o _ hb _ e n=>u.slot b o e n hb (by simp)) (fun b o _ e n=>u.free b o e n (by simp)) (fun b o _ e=>u.there b o e (by simp)) u.tups u.frzs u.tbls (fun m' hm=>by
  obtain⟨o',es',ep',ho',r'⟩:=hm
  rw[ho]at ho';cases ho'
  exact⟨_,es',ep',hL,r'⟩) hok I.bare
theorem Inv.call{g':Array GenState}{t':Nat}{d':Drawn}{ch:List J9}(I:Inv X aa σ H s) (u:Un (frs X.stack) ch H H' s.heap h') (hok:HOk X.prog X.w H' h') (hg:Z4 g')
  (hch:∀b∈ch,(b∈X.ex∨X.s₀.heap.objs.size<=b)/\b≠X.env.locals/\(∀x c,X.env.cells.lookup x=some c->c≠b)/\∀p∈X.pn++aa,p.1≠b) :
  Inv X aa σ H' { s with heap:=h',gens:=g',drawn:=d',toks:=t' }:=by
 obtain⟨m,⟨o,es,ep,ho,r⟩,_⟩:=id I.loc
 obtain⟨sl,hL⟩:=u.any ho I.free fun z=>(hch _ z).2.1 rfl
 exact I.step (ch:=ch) hch (fun b o hL hb hc e n=>u.keep b o e n (fun z=>(O5.mp (I.stkSub b z)).elim hL hb) hc) (fun b o _ _ hc e n=>u.any e n hc) (fun b o hc e n=>u.free b o e n hc) (fun b o hc e=>u.there b o e hc) u.tups u.frzs u.tbls (fun m' hm=>by
  obtain⟨o',es',ep',ho',r'⟩:=hm
  rw[ho]at ho';cases ho'
  exact⟨_,es',ep',hL,r'⟩) hok hg
theorem Inv.turned{t':Nat}{it:J9}(I:Inv X aa σ H s) (k:∀b o,b≠it->s.heap.get? b=some o->h'.get? b=some o) (hn:H it=none) (hL:it≠X.env.locals)
  (h1:it∈X.ex∨X.s₀.heap.objs.size<=it) (h2:∀x c,X.env.cells.lookup x=some c->c≠it) (h3:∀p∈X.pn++aa,p.1≠it):Inv X aa σ H { s with heap:=h',toks:=t' }:=by
 have nit:∀b u,H b=some u->b≠it:=fun b u e z=>by rw[z,hn]at e;cases e
 refine I.step (g':=s.gens) (d':=s.drawn) (ch:=[it]) (fun b hb=>?_) (fun b o _ _ hc e _=>k b o (fun z=>hc (by simp[z])) e) (fun b o _ _ hc e _=>⟨o.slots,k b o (fun z=>hc (by simp[z])) e⟩) (fun _ _ _ _ n=>n)
  (fun b o hc e=>⟨o,k b o (fun z=>hc (by simp[z])) e⟩) (fun _ _ e=>e) (fun _ _ _ e=>e) (fun b ps e=>⟨#[],by rw[e];simp⟩) (fun m hm=>?_) (fun b u e=>?_) I.bare
 ·have e:b=it:=by simpa using hb
  subst e
  exact⟨h1,hL,h2,h3⟩
 ·obtain⟨o,es,ep,ho,r⟩:=hm
  exact⟨o,es,ep,k _ o (X4 hL) ho,r⟩
 ·refine(I.hok b u e).stay (fun c v hc q=>k c v ?_ q) (fun _ q=>q) fun _ _ q=>q
  rcases hc with z|z
  ·rw[z];exact nit b u e
  ·exact nit c _ z
theorem Inv.tok(I:Inv X aa σ H s) (t:Nat):Inv X aa σ H { s with toks:=t }:=I.un (h':=s.heap) (t':=t) Un.refl I.hok
theorem Inv.kept{t':Nat}(I:Inv X aa σ H s) (k:∀b u,s.heap.get? b=some u->h'.get? b=some u):Inv X aa σ H { s with heap:=h',toks:=t' }:=I.un (Un.kept k) (I.hok.kept k)
theorem Inv.laid{a:J9}{o:HO}{t':Nat}(I:Inv X aa σ H s) (k:∀b u,s.heap.get? b=some u->h'.get? b=some u) (hp:s.heap.objs.size<=a) (new:bY X.prog X.w (upd H a o) h' a o) :
  Inv X aa σ (upd H a o) { s with heap:=h',toks:=t' }:=I.un (Un.laid k hp (I.hok.fresh hp)) (I.hok.laid k hp new)
theorem Inv.write{x e:J9}{o:HO}{t':Nat}(I:Inv X aa σ H s) (mu:Mut (H x)) (he:e=x∨H e=some (.own x)) (k:∀b u,b≠e->s.heap.get? b=some u->h'.get? b=some u) (heo:∃u,h'.get? e=some u)
  (new:bY X.prog X.w (upd H x o) h' x o):Inv X aa σ (upd H x o) { s with heap:=h',toks:=t' }:=I.un (Un.write mu he k heo) (I.hok.write mu he k heo new)
theorem Inv.pins_of{pins':List (J9×Obj)}(I:Inv X aa σ H s) (h:∀p∈pins',s.heap.get? p.1=some p.2/\H p.1=none/\p.1≠X.env.locals/\p.1∉X.fs/\∀v,p.2.data≠.cell v):Inv X pins' σ H s :=
 ⟨I.ok,I.os,I.bare,I.base,I.loc,I.cell,I.free,I.freeC,fun p hp=>(U2.mp hp).elim (fun z=>I.pin p (List.mem_append_left _ z)) (h p),I.hok,I.len⟩
theorem sU{N:List Str}(hN:N.Nodup) {i j:Nat}{x:Str}(a:N[i]?=some x) (b:N[j]?=some x):i=j:=by
 obtain⟨h1,e1⟩:=N0.mp a
 obtain⟨h2,e2⟩:=N0.mp b
 exact(List.getElem_inj hN).mp (e1.trans e2.symm)
theorem oT{M:Model}{A:M7}{E:s0->I0->Prop}{i:Nat}{x:Str}{v:V}{u:s0}{Q:Unit->I0->Prop}(I:Inv X aa σ H s) (hN:X.N.Nodup) (hi:X.N[i]?=some x) (hx:Loc X.env.scope x) (r:aD v u)
  (h:∀s',Inv X aa (σ.set i (some v)) H s'->(∃a,S4 a s.heap s'.heap/\(a=X.env.locals∨X.env.cells.lookup x=some a))->Q () s') (hf:X.fn x=true∨X.env.scope.names.lookup x=some .local:=by first|exact .inl rfl|exact .inr rfl|assumption):K4 M A (storeName X.env x u) Q E s:=by
 obtain⟨m,hn,hl⟩:=id I.loc
 have hcls:(X.env.scope.kind==.class || (X.env.scope.kind==.module&&X.env.locals != X.env.globals))=false:=by rw[I.ok.kind];rfl
 have hiσ:i<σ.length:=by rw[I.len];exact(N0.mp hi).1
 have cne:=I.cne
 have tracked:∀{a:J9} {h':L7},(∃o,s.heap.get? a=some o/\H a=none)->S4 a s.heap h'->HOk X.prog X.w H h':=fun {a h'} ha hs b ob e=>by
  obtain⟨_,_,hfree⟩:=ha
  refine(I.hok b ob e).stay (fun c w' hc q=>(hs.2 c ?_).trans q) (fun _ q=>q) fun _ _ q=>q
  rintro rfl
  rcases hc with rfl|hc
  ·rw[hfree]at e;cases e
  ·rw[hfree]at hc;cases hc
 rcases hx with hk|hk
 ·refine wpAny_storeName_local hk hn (fun h' hn' hs=>?_) hcls
  obtain⟨oL,_,_,hoL,_⟩:=id hn
  refine h _ ⟨I.ok,I.os,I.bare,⟨fun b o e n hb hx=>?_,fun b o e n hb hx=>?_,I.base.free,fun b o e hx=>?_,I.base.tups,I.base.frzs,I.base.tbls⟩,⟨_,hn',fun j y v' e1 e2 e3=>?_⟩,fun y c e=>?_,I.free,I.freeC,fun p hp=>?_,tracked ⟨oL,hoL,I.free⟩ hs,by simpa using I.len⟩ ⟨_,hs,.inl rfl⟩
  ·exact(hs.2 b (K2 (K1 (J8 e) I.ok.above))).trans (I.base.keep b o e n hb hx)
  ·obtain⟨sl,e1⟩:=I.base.slot b o e n hb hx
   exact⟨sl,(hs.2 b (K2 (K1 (J8 e) I.ok.above))).trans e1⟩
  ·obtain⟨o',e1⟩:=I.base.there b o e hx
   exact⟨o',(hs.2 b (K2 (K1 (J8 e) I.ok.above))).trans e1⟩
  ·by_cases hj:j=i
   ·subst hj
    rw[hi]at e1;cases e1
    rw[U0 hiσ]at e2
    cases e2
    exact⟨u,r,.inl ⟨hk,by simp⟩⟩
   ·rw[List.getElem?_set_ne (X4 hj)]at e2
    obtain⟨u',r',q⟩:=hl j y v' e1 e2 e3
    refine⟨u',r',?_⟩
    rcases q with⟨k,e⟩|⟨k,c,e,z⟩
    ·refine .inl ⟨k,?_⟩
     have:y≠x:=fun e=>hj (sU hN e1 (e▸hi))
     simp[this,e]
    ·exact .inr ⟨k,c,e,z.sameBut hs (cne y c e)⟩
  ·obtain⟨w',z⟩:=I.cell y c e
   exact⟨w',z.sameBut hs (cne y c e)⟩
  ·obtain⟨e,n,ne,nf,d⟩:=I.pin p hp
   exact⟨(hs.2 p.1 ne).trans e,n,ne,nf,d⟩
 ·have hfn:X.fn x=true:=by
   rcases hf with z|z
   ·exact z
   ·rw[z]at hk;cases hk
  obtain⟨c,hc⟩:=I.ok.has x (.inl hk)
  obtain⟨w',z⟩:=I.cell x c hc
  refine wpAny_storeName_cell I.ok.kind hk hc z (fun h' hc' hs=>?_)
  obtain⟨oc,hoc,hocd⟩:=id z
  refine h { s with heap:=h' } ⟨I.ok,I.os,I.bare,⟨fun b o e n hb hx=>?_,fun b o e n hb hx=>?_,I.base.free,fun b o e hx=>?_,I.base.tups,I.base.frzs,I.base.tbls⟩,⟨m,hn.sameBut hs (X4 (cne x c hc)),fun j y v' e1 e2 e3=>?_⟩,fun y c' e=>?_,I.free,I.freeC,fun p hp=>?_,tracked ⟨oc,hoc,I.freeC x c hc⟩ hs,by simpa using I.len⟩ ⟨c,hs,.inr hc⟩
  ·exact(hs.2 b (K2 (K1 (J8 e) (I.ok.cab x c hfn hc)))).trans (I.base.keep b o e n hb hx)
  ·obtain⟨sl,e1⟩:=I.base.slot b o e n hb hx
   exact⟨sl,(hs.2 b (K2 (K1 (J8 e) (I.ok.cab x c hfn hc)))).trans e1⟩
  ·obtain⟨o',e1⟩:=I.base.there b o e hx
   exact⟨o',(hs.2 b (K2 (K1 (J8 e) (I.ok.cab x c hfn hc)))).trans e1⟩
  ·by_cases hj:j=i
   ·subst hj
    rw[hi]at e1;cases e1
    rw[U0 hiσ]at e2
    cases e2
    exact⟨u,r,.inr ⟨.inl hk,c,hc,hc'⟩⟩
   ·rw[List.getElem?_set_ne (X4 hj)]at e2
    obtain⟨u',r',q⟩:=hl j y v' e1 e2 e3
    refine⟨u',r',?_⟩
    rcases q with q|⟨k,c',e,z'⟩
    ·exact .inl q
    ·refine .inr ⟨k,c',e,z'.sameBut hs ?_⟩
     rintro rfl
     exact hj (sU hN e1 (I.ok.inj _ _ _ e hc▸hi))
  ·by_cases hcc:c'=c
   ·subst hcc;exact⟨_,hc'⟩
   ·obtain⟨w2,z2⟩:=I.cell y c' e
    exact⟨w2,z2.sameBut hs hcc⟩
  ·obtain⟨e,n,ne,nf,d⟩:=I.pin p hp
   refine⟨(hs.2 p.1 ?_).trans e,n,ne,nf,d⟩
   intro q
   rw[q,hoc]at e
   have q':oc=p.2:=L8 e
   exact d w' (by rw[<-q'];exact hocd)
theorem mT{M:Model}{A:M7}{E:s0->I0->Prop}{i:Nat}{x:Str}{v:V}{u:s0}{Q:Unit->I0->Prop}(I:Inv X aa σ H s) (hN:X.N.Nodup) (hi:X.N[i]?=some x) (hx:Loc X.env.scope x) (r:aD v u)
  (h:∀s',Inv X aa (σ.set i (some v)) H s'->Q () s') (hf:X.fn x=true∨X.env.scope.names.lookup x=some .local:=by first|exact .inl rfl|exact .inr rfl|assumption):K4 M A (storeName X.env x u) Q E s :=
 oT I hN hi hx r (fun s' I' _=>h s' I') hf
theorem Inv.call'{s':I0}{ch:List J9}(I:Inv X aa σ H s) (ho:s'.os=s.os) (u:Un (frs X.stack) ch H H' s.heap s'.heap) (hok:HOk X.prog X.w H' s'.heap) (hg:Z4 s'.gens)
  (hch:∀b∈ch,(b∈X.ex∨X.s₀.heap.objs.size<=b)/\b≠X.env.locals/\(∀x c,X.env.cells.lookup x=some c->c≠b)/\∀p∈X.pn++aa,p.1≠b):Inv X aa σ H' s':=by
 obtain⟨h',g',d',t',o'⟩:=s'
 have e:o'=s.os:=ho
 subst e
 exact I.call (g':=g') (t':=t') (d':=d') u hok hg hch
end
/-! ### the judgements -/
abbrev XK:=s0->Option J9->Hp->Prop
abbrev St:=List (Option V)
abbrev VK:=V->Hp->Prop
abbrev TE:=St->Hp->VK->Prop
abbrev TT:=St->Hp->(Bool->Hp->Prop)->Prop
abbrev TA:=St->Hp->(List V->Hp->Prop)->Prop
structure tH where
 nx:St->Hp->Prop
 rt:VK
 bk:St->Hp->Prop:=fun _ _=>False
 ct:St->Hp->Prop:=fun _ _=>False
abbrev TS:=tH->St->Hp->Prop
def EP(X:Cx) (aa:List (J9×Obj)) (σ:St) (Q:VK) (u:s0) (s':I0):Prop:=∃v H',Inv X aa σ H' s'/\aD v u/\Q v H'
def TP(X:Cx) (aa:List (J9×Obj)) (σ:St) (Q:Bool->Hp->Prop) (b:Bool) (s':I0):Prop:=∃H',Inv X aa σ H' s'/\Q b H'
def AP(X:Cx) (aa:List (J9×Obj)) (σ:St) (Q:List V->Hp->Prop) (us:List s0) (s':I0):Prop:=∃vs H',Inv X aa σ H' s'/\az vs us/\Q vs H'
theorem EP.el{X:Cx}{aa:List (J9×Obj)}{σ:St}{Q:VK}{u:s0}{s:I0}{P:Prop}(h:EP X aa σ Q u s) (f:∀(v:V) (H:Hp),Inv X aa σ H s->aD v u->Q v H->P):P:=by
 obtain⟨x1,x2,a,b,c⟩:=h
 exact f x1 x2 a b c
theorem AP.el{X:Cx}{aa:List (J9×Obj)}{σ:St}{Q:List V->Hp->Prop}{u:List s0}{s:I0}{P:Prop}(h:AP X aa σ Q u s) (f:∀(v:List V) (H:Hp),Inv X aa σ H s->az v u->Q v H->P):P:=by
 obtain⟨x1,x2,a,b,c⟩:=h
 exact f x1 x2 a b c
theorem TP.el{X:Cx}{aa:List (J9×Obj)}{σ:St}{Q:Bool->Hp->Prop}{u:Bool}{s:I0}{P:Prop}(h:TP X aa σ Q u s) (f:∀(H:Hp),Inv X aa σ H s->Q u H->P):P:=by
 obtain⟨x1,a,b⟩:=h
 exact f x1 a b
def SP(X:Cx) (aa:List (J9×Obj)) (D:tH) (f:Flow) (s':I0):Prop :=
 match f with
 |.next=>∃ σ' H',Inv X aa σ' H' s'/\D.nx σ' H'
 |.brk=>∃ σ' H',Inv X aa σ' H' s'/\D.bk σ' H'
 |.cont=>∃ σ' H',Inv X aa σ' H' s'/\D.ct σ' H'
 |.ret u=>∃v σ' H',Inv X aa σ' H' s'/\aD v u/\D.rt v H'
def PE(X:Cx) (e:K3) (t:TE):Prop :=
 ∀(aa:List (J9×Obj)) (s:I0) (σ:St) (H:Hp) (Q:VK),Inv X aa σ H s->t σ H Q->K4 (K9 X.prog X.w) X.A (T4 e X.env) (EP X aa σ Q) X.xe s
def PT(X:Cx) (e:K3) (t:TT):Prop :=
 ∀(aa:List (J9×Obj)) (s:I0) (σ:St) (H:Hp) (Q:Bool->Hp->Prop),Inv X aa σ H s->t σ H Q->K4 (K9 X.prog X.w) X.A (isTrue e X.env (T4 e X.env)) (TP X aa σ Q) X.xe s
def PW(X:Cx) (e:K3) (t:TT):Prop :=
 ∀(whole:Sem s0) (aa:List (J9×Obj)) (s:I0) (σ:St) (H:Hp) (Q:Bool->Hp->Prop),Inv X aa σ H s->t σ H Q->K4 (K9 X.prog X.w) X.A (isTrue e X.env whole) (TP X aa σ Q) X.xe s
theorem PW.pt{X:Cx}{e:K3}{t:TT}(h:PW X e t):PT X e t:=h _
def PA(X:Cx) (es:List K3) (t:TA):Prop :=
 ∀(pos:Pos) (aa:List (J9×Obj)) (s:I0) (σ:St) (H:Hp) (Q:List V->Hp->Prop),Inv X aa σ H s->t σ H Q->K4 (K9 X.prog X.w) X.A (spliced (T5 pos (J5 es X.env))) (AP X aa σ Q) X.xe s
def PS(X:Cx) (st:aa0) (t:TS):Prop :=
 ∀(aa:List (J9×Obj)) (s:I0) (σ:St) (H:Hp) (D:tH),Inv X aa σ H s->t D σ H->K4 (K9 X.prog X.w) X.A (exec st X.env) (SP X aa D) X.xe s
def PSs(X:Cx) (st:List aa0) (t:TS):Prop :=
 ∀(aa:List (J9×Obj)) (s:I0) (σ:St) (H:Hp) (D:tH),Inv X aa σ H s->t D σ H->K4 (K9 X.prog X.w) X.A (execs st X.env) (SP X aa D) X.xe s
theorem thn{α:Type}{t:Sem α}{Q Q':α->I0->Prop}{M:Model}{A:M7}{E:s0->I0->Prop}{s:I0}(h:K4 M A t Q E s) (hQ:∀a s,Q a s->Q' a s):K4 M A t Q' E s:=N4 h hQ fun _ _ x=>x
section
variable{X:Cx}
/-! ### names and constants -/
def Hx(i:Nat):TE:=fun σ H Q=>∃v,σ[i]?=some (some v)/\Q v H
def tC(v:V):TE:=fun _ H Q=>Q v H
theorem E2{i:Nat}{x:Str}{pos:Pos}(hN:X.N[i]?=some x) (hv:Vis X.env.scope x) (hd:(x==("__debug__":Str))=false:=by decide) (hcd:(x==("__classdict__":Str))=false:=by decide):PE X (.Name x pos) (Hx i):=by
 intro aa s σ H Q I h
 obtain⟨v,e,h⟩:=h
 obtain⟨m,hn,hl⟩:=I.loc
 obtain⟨u,r,l⟩:=hl i x v hN e hv
 have fin:EP X aa σ Q u s:=⟨v,H,I,r,h⟩
 rcases l with⟨hk,hm⟩|⟨hk,c,hc,hcell⟩
 ·exact wpAny_Name (wpAny_loadName_local I.ok.kind hk hn hm fin) hd
 ·rcases hk with hk|hk
  ·exact wpAny_Name (wpAny_loadName_cell I.ok.kind hk hc hcell fin) hd
  ·exact wpAny_Name (wpAny_loadName_free I.ok.kind hk hc hcell fin hcd) hd
theorem Dw{i j pos}:PE X (.Constant (.int i) j pos) (tC (.int i)):=fun _ _ _ H _ I h=>wpAny_Constant_int ⟨.int i,H,I.tok _,⟨_,rfl⟩,h⟩
theorem F5{b j pos}:PE X (.Constant (.bool b) j pos) (tC (.bl b)):=fun _ _ _ H _ I h=>Constant_bool ⟨.bl b,H,I,rfl,h⟩
theorem EO{j pos}:PE X (.Constant .none j pos) (tC .non):=fun _ _ _ H _ I h=>Constant_none ⟨.non,H,I,rfl,h⟩
theorem Dk{x j pos}:PE X (.Constant (.str x) j pos) (tC (.str x)):=fun _ _ _ H _ I h=>Calls.Constant_str ⟨.str x,H,I.tok _,⟨_,rfl⟩,h⟩
def Gl(X:Cx) (x:Str):Prop:=X.env.kindOf x=some .globalImplicit
theorem qh{E:s0->I0->Prop}{aa:List (J9×Obj)}{s:I0}{σ:St}{H:Hp}{x:Str}{u:s0}{pos:Pos}{Q:s0->I0->Prop}(I:Inv X aa σ H s) (hg:Gl X x) (hm:X.mg x=some u) (h:Q u s)
  (hd:(x==("__debug__":Str))=false:=by decide):K4 (K9 X.prog X.w) X.A (T4 (.Name x pos) X.env) Q E s :=
 Calls.Name_function_global I.ok.kind hg (Calls.loadGlobal_global (by rw[I.ok.glob];exact I.mod.glob.keeps I.bk) hm h) hd
theorem fZ{E:s0->I0->Prop}{aa:List (J9×Obj)}{s:I0}{σ:St}{H:Hp}{x:Str}{u:s0}{pos:Pos}{Q:s0->I0->Prop}(I:Inv X aa σ H s) (hg:Gl X x) (hm:X.mg x=none) (hv:P9 x=some u) (h:Q u s)
  (hn:x≠"__name__":=by decide) (hd:(x==("__debug__":Str))=false:=by decide):K4 (K9 X.prog X.w) X.A (T4 (.Name x pos) X.env) Q E s:=by
 obtain⟨mb,h1,h2⟩:=I.mod.blt
 exact Calls.Name_function_global I.ok.kind hg (Calls.loadGlobal_builtin (by rw[I.ok.glob];exact I.mod.glob.keeps I.bk) hm (by rw[I.ok.blt];exact h1.keeps I.bk) ((h2 x hn).trans hv) h) hd
theorem qx{x:Str}{v:V}{u:s0}{pos:Pos}(hg:Gl X x) (hm:X.mg x=some u) (r:aD v u) (hd:(x==("__debug__":Str))=false:=by decide):PE X (.Name x pos) (tC v) :=
 fun _ _ _ H _ I h=>qh I hg hm ⟨v,H,I,r,h⟩ hd
theorem B0{x:Str}{v:V}{u:s0}{pos:Pos}(hg:Gl X x) (hm:X.mg x=none) (hv:P9 x=some u) (r:aD v u) (hn:x≠"__name__":=by decide) (hd:(x==("__debug__":Str))=false:=by decide):PE X (.Name x pos) (tC v) :=
 fun _ _ _ H _ I h=>fZ I hg hm hv ⟨v,H,I,r,h⟩ hn hd
/-! ### arithmetic -/
variable{a b:K3}{ta tb:TE}{pos:Pos}
/-! ### comparisons -/
def PC(X:Cx) (op:ac2) (a b:K3) (t:TE):Prop :=
 ∀(aa:List (J9×Obj)) (s:I0) (σ:St) (H:Hp) (Q:VK),Inv X aa σ H s->t σ H Q ->
  K4 (K9 X.prog X.w) X.A (T4 a X.env) (fun v s₁=>K4 (K9 X.prog X.w) X.A (T4 b X.env) (fun u s₂=>K4 (K9 X.prog X.w) X.A (L5 op v u) (EP X aa σ Q) X.xe s₂) X.xe s₁) X.xe s
theorem nT(b:K3) {op:ac2}(h:op≠.In) (h2:op≠.NotIn):S7 op b=false:=by
 have e1:(op==ac2.In)=false:=by cases op<;>first|rfl|exact absurd rfl h
 have e2:(op==ac2.NotIn)=false:=by cases op<;>first|rfl|exact absurd rfl h2
 cases b<;>simp[S7,e1,e2]
def tB(t:TE):TT:=fun σ H Q=>t σ H fun x H1=>∃c,x=.bl c/\Q c H1
theorem Fi{op:ac2}{t:TE}(h:PC X op a b t) (h1:S7 op b=false:=by first|exact nT _ (by decide) (by decide)|rfl):PE X (.Compare a [op] [b] pos) t:=fun aa s σ H Q I hw=>wpAny_Compare1 (h aa s σ H Q I hw) h1
theorem EF{op:ac2}{t:TE}(h:PC X op a b t) (h1:S7 op b=false:=by first|exact nT _ (by decide) (by decide)|rfl):PT X (.Compare a [op] [b] pos) (tB t):=by
 intro aa s σ H Q I hw
 refine wpAny_isTrue_Compare1 (thn (h aa s σ H _ I hw) fun v s1 h1=>thn h1 fun u s2 h2=>thn h2 fun c s3 hup=>hup.el fun x H1 I1 r1 q1=>?_) h1
 obtain⟨d,rfl,q⟩:=q1
 cases r1
 exact Q5 ⟨H1,I1,q⟩
theorem Fj{e:K3}{t:TE}(h:PE X e t) (he:∀whole,isTrue e X.env whole=(do let v <-whole;ab3 e.pos;aa3 [v] (truthy v)):=by intro _;rfl):PT X e (tB t):=by
 intro aa s σ H Q I hw
 refine isTrue_plain (thn (h aa s σ H _ I hw) fun v s1 hup=>hup.el fun x H1 I1 r1 q1=>?_) (he _)
 obtain⟨d,rfl,q⟩:=q1
 cases r1
 exact Q5 ⟨H1,I1,q⟩
/-! ### and,or,not -/
variable{tA tB':TT}{rest:List K3}
def Hk(t u:TT):TT:=fun σ H Q=>t σ H fun c H1=>if c=true then u σ H1 Q else Q false H1
def tOr(t u:TT):TT:=fun σ H Q=>t σ H fun c H1=>if c=true then Q true H1 else u σ H1 Q
def Ic(t:TT):TT:=fun σ H Q=>t σ H fun c H1=>Q (!c) H1
theorem Bl(ha:PT X a tA):PW X (.BoolOp .And [a] pos) tA:=by
 intro wh aa s σ H Q I h
 refine isTrue_and (thn (ha aa s σ H Q I h) fun c s1 e=>?_)
 cases c with
 |true=>exact isTrue_and_nil e
 |false=>exact e
theorem Ff(ha:PT X a tA):PW X (.BoolOp .Or [a] pos) tA:=by
 intro wh aa s σ H Q I h
 refine isTrue_or (thn (ha aa s σ H Q I h) fun c s1 e=>?_)
 cases c with
 |false=>exact isTrue_or_nil e
 |true=>exact e
theorem EN(ha:PT X a tA) (hb:PW X (.BoolOp .And (b::rest) pos) tB'):PW X (.BoolOp .And (a::b::rest) pos) (Hk tA tB'):=by
 intro wh aa s σ H Q I h
 refine isTrue_and (thn (ha aa s σ H _ I h) fun c s1 hup=>hup.el fun H1 I1 q1=>?_)
 cases c with
 |true=>exact hb wh aa s1 σ H1 Q I1 q1
 |false=>exact⟨H1,I1,q1⟩
theorem Gy(ha:PT X a tA) (hb:PW X (.BoolOp .Or (b::rest) pos) tB'):PW X (.BoolOp .Or (a::b::rest) pos) (tOr tA tB'):=by
 intro wh aa s σ H Q I h
 refine isTrue_or (thn (ha aa s σ H _ I h) fun c s1 hup=>hup.el fun H1 I1 q1=>?_)
 cases c with
 |true=>exact⟨H1,I1,q1⟩
 |false=>exact hb wh aa s1 σ H1 Q I1 q1
theorem Fk(ha:PT X a tA):PT X (.UnaryOp .Not a pos) (Ic tA):=by
 intro aa s σ H Q I h
 exact isTrue_not (ha aa s σ H (fun c H1=>Q (!c) H1) I h)
def FJ(ta tb:TE):TE:=fun σ H Q=>ta σ H fun x H1=>∃c,x=.bl c/\if c=true then tb σ H1 Q else Q (.bl false) H1
theorem Et{op}{t:TE}(h:PE X a t):PE X (.BoolOp op [a] pos) t:=fun aa s σ H Q I hw=>BoolOp_one (h aa s σ H Q I hw)
theorem Ei(ha:PE X a ta) (hb:PE X (.BoolOp .And (b::rest) pos) tb):PE X (.BoolOp .And (a::b::rest) pos) (FJ ta tb):=by
 intro aa s σ H Q I h
 refine BoolOp_and (thn (ha aa s σ H _ I h) fun v s1 hup=>hup.el fun x H1 I1 r1 q1=>?_)
 obtain⟨c,rfl,q1⟩:=q1
 cases r1
 refine Q5 ?_
 cases c with
 |true=>exact hb aa s1 σ H1 Q I1 q1
 |false=>exact⟨.bl false,H1,I1,rfl,q1⟩
def tIf(t:TT) (ta tb:TE):TE:=fun σ H Q=>t σ H fun c H1=>if c=true then ta σ H1 Q else tb σ H1 Q
theorem xF{c:K3}(hc:PT X c tA) (ha:PE X a ta) (hb:PE X b tb):PE X (.IfExp c a b pos) (tIf tA ta tb):=by
 intro aa s σ H Q I h
 refine wpAny_IfExp (thn (hc aa s σ H _ I h) fun d s1 hup=>hup.el fun H1 I1 q1=>?_)
 cases d with
 |true=>exact ha aa s1 σ H1 Q I1 q1
 |false=>exact hb aa s1 σ H1 Q I1 q1
end
/-! ### a list,a tuple that is read: tracked,frozen,or an object of the module -/
def SqL(K:o0) (H:Hp) (a:J9) (xs:List V):Prop :=
 Rd H a (.lst xs) ∨
  ∃(o:Obj) (its:Array s0) (n:Nat),K.lookup a=some o/\o.cls=.type "list"/\o.dict=none/\o.data=.seq its n/\its.size<=J1/\az xs its.toList
def SqT(K:o0) (H:Hp) (a:J9) (xs:List V):Prop :=
 Rd H a (.tup xs) ∨
  ∃(o:Obj) (its:Array s0) (n:Nat),K.lookup a=some o/\(o.cls=.type "tuple"/\o.dict=none)/\o.data=.seq its n/\its.size<=J1/\az xs its.toList
def HW:s0->Option V
 |.none=>some .non
 |.bool b=>some (.bl b)
 |.int i _=>some (.int i)
 |.str x _=>some (.str x)
 |.bytes b _=>some (.byt b)
 |.float b _=>some (.flt b)
 |.ref a=>some (.ref a)
 |.type n=>some (.ty n)
 |_=>none
theorem aD.abs{x:V}{u:s0}(r:aD x u):HW u=some x:=by
 cases x with
 |non=>cases r;rfl
 |bl _=>cases r;rfl
 |int _=>obtain⟨t,rfl⟩:=r;rfl
 |str _=>obtain⟨t,rfl⟩:=r;rfl
 |byt _=>obtain⟨t,rfl⟩:=r;rfl
 |flt _=>obtain⟨t,rfl⟩:=r;rfl
 |ref _=>cases r;rfl
 |ty _=>cases r;rfl
theorem aD.inj{x y:V}{u:s0}(r:aD x u) (q:aD y u):x=y:=L8 (r.abs.symm.trans q.abs)
theorem az.inj:∀{xs ys:List V}{us:List s0},az xs us->az ys us->xs=ys
 |_,_,_,.nil,.nil=>rfl
 |_,_,_,.cons r t,.cons r' t'=>by rw[r.inj r',az.inj t t']
section
variable{X:Cx}{aa:List (J9×Obj)}{σ:St}{H:Hp}{s:I0}{a:J9}{xs ys:List V}
theorem SqL.of{K:o0}(h:H a=some (.lst xs)):SqL K H a xs:=.inl (.inl h)
theorem SqT.of{K:o0}(h:H a=some (.tup xs)):SqT K H a xs:=.inl (.inl h)
theorem Inv.list(I:Inv X aa σ H s) (h:SqL X.K H a xs):∃its:List s0,az xs its/\PlainL s.heap a its.toArray/\xs.length<=J1:=by
 rcases h with h|⟨o,its,n,hk,hc,hd,hs,hz,r⟩
 ·obtain⟨z,its,n,r,e⟩:=h.ok I.hok
  exact⟨its,r,⟨_,n,e,rfl,rfl,rfl⟩,z⟩
 ·refine⟨its.toList,r,⟨o,n,I.kIn a o hk,hc,hd,by simpa using hs⟩,?_⟩
  have e:=r.length
  simp only[V0]at e
  omega
theorem Inv.tuple(I:Inv X aa σ H s) (h:SqT X.K H a xs):∃its:List s0,az xs its/\ac7 s.heap a its.toArray/\xs.length<=J1:=by
 rcases h with h|⟨o,its,n,hk,hc,hs,hz,r⟩
 ·obtain⟨z,its,r,p⟩:=h.ok I.hok
  exact⟨its,r,p.tup,z⟩
 ·refine⟨its.toList,r,⟨o,I.kIn a o hk,hc.1,n,by simpa using hs⟩,?_⟩
  have e:=r.length
  simp only[V0]at e
  omega
theorem Inv.list_inj(I:Inv X aa σ H s) (h:SqL X.K H a xs) (h':SqL X.K H a ys):xs=ys:=by
 obtain⟨its,r,⟨o,n,e,_,_,d⟩,_⟩:=I.list h
 obtain⟨its',r',⟨o',n',e',_,_,d'⟩,_⟩:=I.list h'
 rw[e]at e';cases e'
 rw[d]at d'
 injection d' with d1 _
 have:its=its':=by simpa using congrArg Array.toList d1
 subst this
 exact r.inj r'
theorem Inv.tuple_inj(I:Inv X aa σ H s) (h:SqT X.K H a xs) (h':SqT X.K H a ys):xs=ys:=by
 obtain⟨its,r,⟨o,e,_,n,d⟩,_⟩:=I.tuple h
 obtain⟨its',r',⟨o',e',_,n',d'⟩,_⟩:=I.tuple h'
 rw[e]at e';cases e'
 rw[d]at d'
 injection d' with d1 _
 have:its=its':=by simpa using congrArg Array.toList d1
 subst this
 exact r.inj r'
end
/-! ### another wish about exceptions -/
abbrev Cx.wish(X:Cx) (E:s0->I0->Prop):Cx:={ X with xe:=E }
abbrev Cx.nox(X:Cx):Cx:=X.wish fun _ _=>False
theorem Cx.Ok.wish{X:Cx}(ok:X.Ok) (E:s0->I0->Prop):(X.wish E).Ok :=
 ⟨ok.mod,ok.kind,ok.glob,ok.blt,ok.above,ok.inj,ok.has,ok.cab,ok.hd,ok.frames,ok.stk,ok.exf,ok.bs,ok.bsz,ok.noex,ok.exfs,ok.funs,ok.frf⟩
theorem Cx.Ok.unwish{X:Cx}{E:s0->I0->Prop}(ok:(X.wish E).Ok):X.Ok :=
 ⟨ok.mod,ok.kind,ok.glob,ok.blt,ok.above,ok.inj,ok.has,ok.cab,ok.hd,ok.frames,ok.stk,ok.exf,ok.bs,ok.bsz,ok.noex,ok.exfs,ok.funs,ok.frf⟩
section
variable{X:Cx}{aa:List (J9×Obj)}{σ:St}{H:Hp}{s:I0}{E:s0->I0->Prop}
theorem Inv.wish(I:Inv X aa σ H s) (E:s0->I0->Prop):Inv (X.wish E) aa σ H s:=⟨I.ok.wish E,I.os,I.bare,I.base,I.loc,I.cell,I.free,I.freeC,I.pin,I.hok,I.len⟩
theorem Inv.unwish(I:Inv (X.wish E) aa σ H s):Inv X aa σ H s:=⟨I.ok.unwish,I.os,I.bare,I.base,I.loc,I.cell,I.free,I.freeC,I.pin,I.hok,I.len⟩
theorem SP.unwish{D:tH}{f:Flow}{s':I0}(h:SP (X.wish E) aa D f s'):SP X aa D f s':=by
 cases f with
 |next=>obtain⟨σ',H',I,q⟩:=h;exact⟨σ',H',I.unwish,q⟩
 |brk=>obtain⟨σ',H',I,q⟩:=h;exact⟨σ',H',I.unwish,q⟩
 |cont=>obtain⟨σ',H',I,q⟩:=h;exact⟨σ',H',I.unwish,q⟩
 |ret u=>obtain⟨v,σ',H',I,r,q⟩:=h;exact⟨v,σ',H',I.unwish,r,q⟩
theorem PSs.nox{st:List aa0}{t:TS}(h:PSs X.nox st t):PSs X st t:=fun aa s σ H D I hw =>
 N4 (h aa s σ H D (I.wish _) hw) (fun _ _ q=>q.unwish) fun _ _ z=>P2 z
end
/-! ### blocks and small statements -/
section
variable{X:Cx}{st:aa0}{rest:List aa0}{t u:TS}{e:K3}{te:TE}{pos:Pos}
def GH:TS:=fun D σ H=>D.nx σ H
def HF(t u:TS):TS:=fun D σ H=>t { D with nx:=u D } σ H
theorem B5:PSs X [] GH:=fun _ _ σ H _ I h=>Y0 ⟨σ,H,I,h⟩
theorem yj(h1:PS X st t) (h2:PSs X rest u):PSs X (st::rest) (HF t u):=by
 intro aa s σ H D I h
 refine wpAny_execs_cons (thn (h1 aa s σ H { D with nx:=u D } I h) fun f s1 q=>?_)
 cases f with
 |next =>
  obtain⟨σ',H',I',q⟩:=q
  exact h2 aa s1 σ' H' D I' q
 |ret v=>exact q
 |brk=>exact q
 |cont=>exact q
theorem Cw(h1:PS X st t):PSs X [st] t:=by
 intro aa s σ H D I h
 refine wpAny_execs_cons (thn (h1 aa s σ H D I h) fun f s1 q=>?_)
 cases f with
 |next=>exact Y0 q
 |ret v=>exact q
 |brk=>exact q
 |cont=>exact q
theorem Inv.quiet{aa:List (J9×Obj)}{σ:St}{H:Hp}{s:I0}(I:Inv X aa σ H s):interactive X.env=false:=by simp[interactive,I.ok.kind]
def GA(te:TE):TS:=fun D σ H=>te σ H fun _ H1=>D.nx σ H1
theorem BA(he:PE X e te) (hs:Y1 e none pos.line X.env=X5 false:=by rfl):PS X (.Expr e pos) (GA te):=by
 intro aa s σ H D I h
 exact wpAny_Expr_any (thn (he aa s σ H _ I h) fun v s1 hup=>hup.el fun x H1 I1 r1 q1=>⟨σ,H1,I1,q1⟩) I.quiet hs
def HC(te:TE):TS:=fun D σ H=>te σ H D.rt
theorem tU(he:PE X e te):PS X (.Return (some e) pos) (HC te):=by
 intro aa s σ H D I h
 exact wpAny_Return_some (thn (he aa s σ H _ I h) fun v s1 hup=>hup.el fun x H1 I1 r1 q1=>⟨x,σ,H1,I1,r1,q1⟩)
def H0(c:TT) (t u:TS):TS:=fun D σ H=>c σ H fun b H1=>if b=true then t D σ H1 else u D σ H1
theorem FK{c:K3}{a b:List aa0}{tc:TT}(hc:PT X c tc) (ha:PSs X a t) (hb:PSs X b u):PS X (.If c a b pos) (H0 tc t u):=by
 intro aa s σ H D I h
 refine wpAny_If (thn (hc aa s σ H _ I h) fun d s1 hup=>hup.el fun H1 I1 q1=>?_)
 cases d with
 |true=>exact ha aa s1 σ H1 D I1 q1
 |false=>exact hb aa s1 σ H1 D I1 q1
end
/-! ### targets -/
abbrev TG:=V->St->Hp->(St->Hp->Prop)->Prop
abbrev TGs:=List V->St->Hp->(St->Hp->Prop)->Prop
def PG(X:Cx) (target:K3) (t:TG):Prop :=
 ∀(aa:List (J9×Obj)) (s:I0) (σ:St) (H:Hp) (v:V) (u:s0) (Q:St->Hp->Prop),Inv X aa σ H s->aD v u->t v σ H Q ->
  K4 (K9 X.prog X.w) X.A (Y8 target X.env u) (fun _ s'=>∃ σ' H',Inv X aa σ' H' s'/\Q σ' H') X.xe s
def PGs(X:Cx) (ts:List K3) (t:TGs):Prop :=
 ∀(aa:List (J9×Obj)) (s:I0) (σ:St) (H:Hp) (vs:List V) (us:List s0) (Q:St->Hp->Prop),Inv X aa σ H s->az vs us->t vs σ H Q ->
  K4 (K9 X.prog X.w) X.A (assignInOrder ((P3 ts X.env).map (·.2)) us) (fun _ s'=>∃ σ' H',Inv X aa σ' H' s'/\Q σ' H') X.xe s
abbrev D8:=V->V->V->Hp->(Hp->Prop)->Prop
def G7(X:Cx) (t:D8):Prop :=
 ∀(aa:List (J9×Obj)) (s:I0) (σ:St) (H:Hp) (o i v:V) (ov iv u:s0) (Q:Hp->Prop),Inv X aa σ H s->aD o ov->aD i iv->aD v u->t o i v H Q ->
  K4 (K9 X.prog X.w) X.A (setItem ov iv u) (fun _ s'=>∃H',Inv X aa σ H' s'/\Q H') X.xe s
abbrev TIp:=V->V->Hp->VK->Prop
def PIp(X:Cx) (op:ac3) (t:TIp):Prop :=
 ∀(aa:List (J9×Obj)) (s:I0) (σ:St) (H:Hp) (x y:V) (v u:s0) (Q:VK),Inv X aa σ H s->aD x v->aD y u->t x y H Q ->
  K4 (K9 X.prog X.w) X.A (ac8 op v u) (EP X aa σ Q) X.xe s
section
variable{X:Cx}{pos:Pos}
def rS(i:Nat):TG:=fun v σ H Q=>Q (σ.set i (some v)) H
theorem wb{i:Nat}{x:Str}(hN:X.N.Nodup) (hi:X.N[i]?=some x) (hx:Loc X.env.scope x) (hf:X.fn x=true∨X.env.scope.names.lookup x=some .local:=by first|exact .inl rfl|exact .inr rfl|assumption):PG X (.Name x pos) (rS i):=by
 intro aa s σ H v u Q I r h
 exact wpAny_assign_Name (mT I hN hi hx r (fun s' I'=>⟨_,H,I',h⟩) hf)
def DL:TGs:=fun vs σ H Q=>vs=[]/\Q σ H
def yp(t:TG) (u:TGs):TGs:=fun vs σ H Q=>∃v r,vs=v::r/\t v σ H fun σ' H'=>u r σ' H' Q
theorem vz:PGs X [] DL:=by
 intro aa s σ H vs us Q I r h
 obtain⟨e,h⟩:=h
 subst e
 cases r
 exact assignInOrder_nil ⟨σ,H,I,h⟩
theorem rW{e:K3}{es:List K3}{t:TG}{u:TGs}(h1:PG X e t) (h2:PGs X es u)
  (hs:(P3 (e::es) X.env).map (·.2)=Y8 e X.env::(P3 es X.env).map (·.2):=by rfl):PGs X (e::es) (yp t u):=by
 intro aa s σ H vs us Q I r h
 obtain⟨v,vr,e1,h⟩:=h
 subst e1
 cases r with
 |cons r rr =>
  rw[hs]
  refine assignInOrder_cons (thn (h1 aa s σ H _ _ _ I r h) fun _ s1 ⟨σ1,H1,I1,q1⟩=>?_)
  exact h2 aa s1 σ1 H1 _ _ Q I1 rr q1
def Dp(K:o0) (n:Nat) (t:TGs):TG:=fun v σ H Q=>∃a xs,v=.ref a/\SqT K H a xs/\xs.length=n/\t xs σ H Q
theorem xJ{es:List K3}{k:Nat}{t:TGs}{n:Nat}(hc:X.calm=true) (h:PGs X es t)
  (hn:(P3 es X.env).length=n:=by rfl) (hst:(P3 es X.env).findIdx? (·.1)=none:=by rfl):PG X (.Tuple es k pos) (Dp X.K n t):=by
 intro aa s σ H v u Q I r hw
 obtain⟨a,xs,e1,hq,hl,hw⟩:=hw
 subst e1
 cases r
 obtain⟨its,rv,ht,hz⟩:=I.tuple hq
 refine assign_Tuple_tuple (I.ok.hd hc) ht (by simp[hn,<-hl,rv.length]) hst fun h' hx=>?_
 have I1:Inv X aa σ H { s with heap:=h' }:=I.kept (t':=s.toks) fun b o e=>hx b o (K2 (J8 e)) e
 exact h aa _ σ H xs _ Q I1 (by simpa using rv) hw
def HL(to ti:TE) (t:D8):TG:=fun v σ H Q=>to σ H fun o H1=>ti σ H1 fun i H2=>t o i v H2 fun H3=>Q σ H3
theorem Dm{o i:K3}{to ti:TE}{t:D8}(ho:PE X o to) (hi:PE X i ti) (hs:G7 X t)
  (ha:∀ v,Y8 (.Subscript o i pos) X.env v = (do
   let ov <-aa3 [v] (T4 o X.env)
   let iv <-aa3 [v,ov] (T4 i X.env)
   ab3 pos
   aa3 [v,ov,iv] (setItem ov iv v)
   release [v,ov,iv] []):=by intro _;rfl):PG X (.Subscript o i pos) (HL to ti t):=by
 intro aa s σ H v u Q I r h
 rw[ha]
 refine u8 (U6 (thn (ho aa s σ H _ I h) fun ov s1 hup=>hup.el fun x H1 I1 r1 q1=>?_))
 refine u8 (U6 (thn (hi aa s1 σ H1 _ I1 q1) fun iv s2 hup=>hup.el fun y H2 I2 r2 q2=>?_))
 refine u8 (X7 (u8 (U6 (thn (hs aa s2 σ H2 x y v ov iv u _ I2 r1 r2 r q2) fun _ s3 ⟨H3,I3,q3⟩=>?_))))
 exact wpAny_release ⟨σ,H3,I3,q3⟩
def Fe(te:TE) (g:TG):TS:=fun D σ H=>te σ H fun x H1=>g x σ H1 D.nx
theorem zl{tg e:K3}{te:TE}{g:TG}(he:PE X e te) (hg:PG X tg g) (hs:swapsWithSole [tg] e pos.line X.env=X5 false:=by rfl) (hw:swappedStores [tg] e X.env=X5 none:=by rfl)
  (h1:(P3 [tg] X.env).map (·.2)=[Y8 tg X.env]:=by rfl):PS X (.Assign [tg] e pos) (Fe te g):=by
 intro aa s σ H D I h
 refine wpAny_Assign_stores (thn (he aa s σ H _ I h) fun v s1 hup=>hup.el fun x H1 I1 r1 q1=>?_) hs hw
 rw[h1]
 exact thn (hg aa s1 σ H1 x v _ I1 r1 q1) fun _ s2 q=>q
theorem Dg{i:Nat}{x:Str}{e:K3}{te:TE}{pos':Pos}(hN:X.N.Nodup) (hi:X.N[i]?=some x) (hx:Loc X.env.scope x) (he:PE X e te) (hs:Y1 e (some (.Name x pos')) pos.line X.env=X5 false:=by rfl) (hf:X.fn x=true∨X.env.scope.names.lookup x=some .local:=by first|exact .inl rfl|exact .inr rfl|assumption) :
  PS X (.Assign [.Name x pos'] e pos) (Fe te (rS i)):=by
 intro aa s σ H D I h
 refine wpAny_Assign_Name (thn (he aa s σ H _ I h) fun v s1 hup=>hup.el fun y H1 I1 r1 q1=>?_) hs
 exact mT I1 hN hi hx r1 (fun s2 I2=>⟨_,H1,I2,q1⟩) hf
def HE(i:Nat) (te:TE) (ti:TIp):TS:=fun D σ H=>∃x,σ[i]?=some (some x)/\te σ H fun y H1=>ti x y H1 fun z H2=>D.nx (σ.set i (some z)) H2
theorem E6{i:Nat}{x:Str}{e:K3}{te:TE}{op:ac3}{ti:TIp}{pos':Pos}(hN:X.N.Nodup) (hi:X.N[i]?=some x) (hx:Loc X.env.scope x) (he:PE X e te) (ho:PIp X op ti) (hf:X.fn x=true∨X.env.scope.names.lookup x=some .local:=by first|exact .inl rfl|exact .inr rfl|assumption) :
  PS X (.AugAssign (.Name x pos') op e pos) (HE i te ti):=by
 intro aa s σ H D I h
 obtain⟨v,e1,h⟩:=h
 obtain⟨m,hn,hl⟩:=I.loc
 have vis:Vis X.env.scope x:=by rcases hx with k|k;exact .inl k;exact .inr (.inl k)
 obtain⟨u,r,l⟩:=hl i x v hi e1 vis
 refine wpAny_AugAssign_Name ?_
 have go:K4 (K9 X.prog X.w) X.A (T4 e X.env) (fun w s₂=>K4 (K9 X.prog X.w) X.A (ac8 op u w) (fun r s₃=>K4 (K9 X.prog X.w) X.A (storeName X.env x r) (fun _=>SP X aa D .next) X.xe s₃) X.xe s₂) X.xe s:=by
  refine thn (he aa s σ H _ I h) fun w s1 hup=>hup.el fun y H1 I1 r1 q1=>?_
  refine thn (ho aa s1 σ H1 v y u w _ I1 r r1 q1) fun z s2 hup=>hup.el fun zv H2 I2 r2 q2=>?_
  exact mT I2 hN hi hx r2 (fun s3 I3=>⟨_,H2,I3,q2⟩) hf
 rcases l with⟨hk,hm⟩|⟨hk,c,hc,hcell⟩
 ·exact wpAny_loadName_local I.ok.kind hk hn hm go
 ·rcases hk with hk|hk
  ·exact wpAny_loadName_cell I.ok.kind hk hc hcell go
  ·rcases hx with k|k
   ·have:X.env.scope.names.lookup x=some .free:=hk
    rw[k]at this;cases this
   ·have:X.env.scope.names.lookup x=some .free:=hk
    rw[k]at this;cases this
def ipI(f:Int->Int->Int):TIp:=fun x y H Q=>∃i j,x=.int i/\y=.int j/\Q (.int (f i j)) H
theorem Ea:PIp X .Add (ipI fun i j=>i+j):=by
 intro aa s σ H x y v u Q I r1 r2 h
 obtain⟨i,j,e1,e2,q⟩:=h
 subst e1;subst e2
 obtain⟨t,rfl⟩:=r1
 obtain⟨t',rfl⟩:=r2
 exact iadd_int ⟨.int _,H,I.tok _,⟨_,rfl⟩,q⟩
end
/-! ### while -/
section
variable{X:Cx}{pos:Pos}
def Dy(c:TT) (tb:TS):TS:=fun D σ H=>∃W:Nat->St->Hp->Prop,(∃m,W m σ H)/\∀m σ H,W m σ H ->
 c σ H fun b H1=>if b=true then ∃N:St->Hp->Prop,(∀ σ' H',N σ' H'->∃m',m'<m/\W m' σ' H')/\tb { D with nx:=N,ct:=N,bk:=D.nx } σ H1 else D.nx σ H1
theorem Ab{c:K3}{body:List aa0}{tc:TT}{tb:TS}(hp:ac9 (K9 X.prog X.w) X.A X.env X.xe) (hc:PT X c tc) (hb:PSs X body tb):PS X (.While c body [] pos) (Dy tc tb):=by
 intro aa s σ H D I h
 obtain⟨W,⟨m0,w0⟩,turn⟩:=h
 refine wpAny_While (codeAny_whileLoop (fun n s'=>∃ σ' H',Inv X aa σ' H' s'/\W n σ' H') ?_ m0 ⟨σ,H,I,w0⟩)
 rintro n s1 ⟨σ1,H1,I1,w1⟩
 refine S0 hp (thn (hc aa s1 σ1 H1 _ I1 (turn n σ1 H1 w1)) fun b s2 hup=>hup.el fun H2 I2 q2=>?_)
 cases b with
 |true =>
  obtain⟨N,hN,q2⟩:=q2
  rw[if_pos rfl]
  refine S0 hp (thn (hb aa s2 σ1 H2 _ I2 q2) fun f s3 q3=>?_)
  cases f with
  |next =>
   obtain⟨σ3,H3,I3,n3⟩:=q3
   obtain⟨m',hm,w3⟩:=hN σ3 H3 n3
   exact⟨m',hm,σ3,H3,I3,w3⟩
  |cont =>
   obtain⟨σ3,H3,I3,n3⟩:=q3
   obtain⟨m',hm,w3⟩:=hN σ3 H3 n3
   exact⟨m',hm,σ3,H3,I3,w3⟩
  |brk=>exact q3
  |ret v=>exact q3
 |false =>
  rw[if_neg L9]
  exact Y0 ⟨σ1,H2,I2,q2⟩
end
/-! ### what a loop or a Z5 walks -/
structure It where
 go:Nat->Hp->Prop
 yld:Nat->Hp->V->Hp->Prop
 stop:Nat->Hp->Prop
def eF(X:Cx) (aa:List (J9×Obj)) (H:Hp) (b:J9):Prop :=
 H b=none/\b≠X.env.locals/\b∉X.fs/\(b∈X.ex∨X.s₀.heap.objs.size<=b)/\(∀x c,X.env.cells.lookup x=some c->c≠b)/\∀p∈X.pn++aa,p.1≠b
theorem Inv.fpOk{X:Cx}{aa:List (J9×Obj)}{σ:St}{H H':Hp}{s:I0}{b:J9}(I:Inv X aa σ H s) (hb:s.heap.objs.size<=b) (hn:H' b=none):eF X aa H' b:=by
 refine⟨hn,aa4 (K1 I.lt hb),I.nofs hb,.inr (M9 I.sz hb),fun x c e z=>?_,fun p hp z=>?_⟩
 ·obtain⟨v,q⟩:=I.cell x c e
  exact absurd (K1 q.lt (by rw[z];exact hb)) (S5 _)
 ·exact absurd (K1 (J8 (I.pin p hp).1) (by rw[z];exact hb)) (S5 _)
structure kF(P:L1) (w:O4) (K:o0) (tg:K3) (J:It) (fp:List J9) (it:J9) (tn:Nat->L7->Prop):Prop where
 mem:it∈fp
 obj:∀i h,tn i h->∀b∈fp,∃o,h.get? b=some o/\∀v,o.data≠.cell v
 keep:∀i h h',tn i h->(∀b∈fp,∀o,h.get? b=some o->h'.get? b=some o)->tn i h'
 item:∀(X:Cx),X.prog=P->X.w=w->X.K=K->X.calm=true->∀(i:Nat) (aa:List (J9×Obj)) (s:I0) (σ:St) (H:Hp) (E:s0->I0->Prop),Inv X aa σ H s->(∀b∈fp,eF X aa H b)->tn i s.heap->J.go i H ->
  K4 (K9 P w) X.A (pyNext (.ref it)) (fun r s1=>∃u,r=some u /\
   K4 (K9 P w) X.A (V4 tg (.ref it) u) (fun _ s2=>∃x H',Inv X aa σ H' s2/\aD x u/\J.yld i H x H'/\tn (i+1) s2.heap/\∀b∈fp,H' b=none) E s1) E s
 done:∀(X:Cx),X.prog=P->X.w=w->X.K=K->X.calm=true->∀(i:Nat) (aa:List (J9×Obj)) (s:I0) (σ:St) (H:Hp) (E:s0->I0->Prop),Inv X aa σ H s->(∀b∈fp,eF X aa H b)->tn i s.heap->J.stop i H ->
  K4 (K9 P w) X.A (pyNext (.ref it)) (fun r s1=>r=none/\Inv X aa σ H s1) E s
 self:∀(A:M7) (i:Nat) (s:I0) (Q:s0->I0->Prop) (E:s0->I0->Prop),tn i s.heap->Q (.ref it) s->K4 (K9 P w) A (ac1 (.ref it)) Q E s
abbrev TI:=St->Hp->(It->Hp->Prop)->Prop
def PIE(X:Cx) (aa:List (J9×Obj)) (σ:St) (tg:K3) (R:It->Hp->Prop) (itv:s0) (s2:I0):Prop :=
 ∃(it:J9) (fp:List J9) (tn:Nat->L7->Prop) (J:It) (H':Hp),itv=.ref it/\Inv X aa σ H' s2/\kF X.prog X.w X.K tg J fp it tn/\tn 0 s2.heap/\(∀b∈fp,eF X aa H' b)/\R J H'
def PI(X:Cx) (tg iter:K3) (wi:TI):Prop :=
 ∀(aa:List (J9×Obj)) (s:I0) (σ:St) (H:Hp) (R:It->Hp->Prop),Inv X aa σ H s->wi σ H R ->
  K4 (K9 X.prog X.w) X.A (T4 iter X.env) (fun v s1=>K4 (K9 X.prog X.w) X.A (ac1 v) (PIE X aa σ tg R) X.xe s1) X.xe s
theorem pC{M:Model}{A:M7}{E:s0->I0->Prop}{s:I0}{tg:K3}{it:J9}{u:s0}{o:Obj}{n:String}{vs:Array s0}{Q:Unit->I0->Prop}(ho:s.heap.get? it=some o) (hc:o.cls=.type n) (hd:o.data=.fields vs)
    (hn:["enumerate","zip","dict_itemiterator","dict_reverseitemiterator","odict_iterator","itertools.zip_longest","itertools.pairwise"].contains n=false) (hQ:Q () s):K4 M A (V4 tg (.ref it) u) Q E s:=by
  unfold V4
  cases tg<;>first
    |exact J4 hQ
    |(cases u<;>first
        |exact J4 hQ
        | (refine u8 (wpAny_load ho ?_)
           rw[hc,hd]
           show K4 M A (if(["enumerate","zip","dict_itemiterator","dict_reverseitemiterator","odict_iterator","itertools.zip_longest","itertools.pairwise"].contains n&&vs[0]?==some (rawInt _))=true then _ else _) Q E s
           rw[if_neg (by intro h;rw[hn,Bool.false_and]at h;cases h)]
           exact J4 hQ))
def Itl(K:o0) (a:J9):It :=
 ⟨fun i H=>∃xs x,SqL K H a xs/\xs[i]?=some x,fun i H x H'=>H'=H/\∀xs,SqL K H a xs->xs[i]?=some x,fun i H=>∃xs,SqL K H a xs/\xs.length<=i⟩
def Itt(K:o0) (a:J9):It :=
 ⟨fun i H=>∃xs x,SqT K H a xs/\xs[i]?=some x,fun i H x H'=>H'=H/\∀xs,SqT K H a xs->xs[i]?=some x,fun i H=>∃xs,SqT K H a xs/\xs.length<=i⟩
def Itr(lo:Int) (n:Nat):It:=⟨fun i _=>i<n,fun i H x H'=>H'=H/\x=.int (lo+i),fun i _=>n<=i⟩
theorem oK{P:L1}{w:O4}{K:o0}{tg:K3}(a it:J9):kF P w K tg (Itl K a) [it] it (fun i h=>h.IsListIter it a i) where
 mem:=by simp
 obj:=fun i h st b hb=>by
  have e:b=it:=by simpa using hb
  subst e
  obtain⟨o,e,c,d⟩:=st
  exact⟨o,e,fun v z=>by rw[d]at z;cases z⟩
 keep:=fun i h h' st k=>st.at fun o e=>k it (by simp) o e
 item:=by
  intro X hP hw hK hc i aa s σ H E I hf st hg
  subst hP hw hK
  obtain⟨xs,x,hq,hx⟩:=hg
  obtain⟨its,rv,p,hz⟩:=I.list hq
  obtain⟨u,hu,ru⟩:=rv.get hx
  obtain⟨f0,f1,f2,f3,f4,f5⟩:=hf it (by simp)
  refine wpAny_pyNext_list_item st p.isList (x:=u) (by simpa using hu) fun h' st' sb=>?_
  have I1:Inv X aa σ H { s with heap:=h' }:=I.turned (t':=s.toks) (fun b o hb e=>(sb.2 b hb).trans e) f0 f1 f3 f4 f5
  obtain⟨o,e,c,d⟩:=id st'
  exact⟨u,rfl,pC (s:={ s with heap:=h' }) e c d (by decide) ⟨x,H,I1,ru,⟨rfl,fun ys hy=>by rw[I.list_inj hy hq];exact hx⟩,st',fun b hb=>(hf b hb).1⟩⟩
 done:=by
  intro X hP hw hK hc i aa s σ H E I hf st hg
  subst hP hw hK
  obtain⟨xs,hq,hx⟩:=hg
  obtain⟨its,rv,p,hz⟩:=I.list hq
  obtain⟨f0,f1,f2,f3,f4,f5⟩:=hf it (by simp)
  have hl:=rv.length
  exact wpAny_pyNext_list_end (I.ok.hd hc) st p.isList (by simp;omega) fun h' eb=>⟨rfl,I.turned (t':=s.toks) (fun b o hb e=>eb b o hb e) f0 f1 f3 f4 f5⟩
 self:=fun _ _ _ _ _ st h=>wpAny_pyIter_listiter st h
theorem t8{P:L1}{w:O4}{K:o0}{tg:K3}(a it:J9):kF P w K tg (Itt K a) [it] it (fun i h=>h.IsTupleIter it a i) where
 mem:=by simp
 obj:=fun i h st b hb=>by
  have e:b=it:=by simpa using hb
  subst e
  obtain⟨o,e,c,d⟩:=st
  exact⟨o,e,fun v z=>by rw[d]at z;cases z⟩
 keep:=fun i h h' st k=>st.at fun o e=>k it (by simp) o e
 item:=by
  intro X hP hw hK hc i aa s σ H E I hf st hg
  subst hP hw hK
  obtain⟨xs,x,hq,hx⟩:=hg
  obtain⟨its,rv,p,hz⟩:=I.tuple hq
  obtain⟨u,hu,ru⟩:=rv.get hx
  obtain⟨f0,f1,f2,f3,f4,f5⟩:=hf it (by simp)
  refine wpAny_pyNext_tuple_item st (show s.heap.IsTuple a its.toArray from p) (x:=u) (by simpa using hu) fun h' st' sb=>?_
  have I1:Inv X aa σ H { s with heap:=h' }:=I.turned (t':=s.toks) (fun b o hb e=>(sb.2 b hb).trans e) f0 f1 f3 f4 f5
  obtain⟨o,e,c,d⟩:=id st'
  exact⟨u,rfl,pC (s:={ s with heap:=h' }) e c d (by decide) ⟨x,H,I1,ru,⟨rfl,fun ys hy=>by rw[I.tuple_inj hy hq];exact hx⟩,st',fun b hb=>(hf b hb).1⟩⟩
 done:=by
  intro X hP hw hK hc i aa s σ H E I hf st hg
  subst hP hw hK
  obtain⟨xs,hq,hx⟩:=hg
  obtain⟨its,rv,p,hz⟩:=I.tuple hq
  obtain⟨f0,f1,f2,f3,f4,f5⟩:=hf it (by simp)
  have hl:=rv.length
  exact wpAny_pyNext_tuple_end (I.ok.hd hc) st (show s.heap.IsTuple a its.toArray from p) (by simp;omega) fun h' eb=>⟨rfl,I.turned (t':=s.toks) (fun b o hb e=>eb b o hb e) f0 f1 f3 f4 f5⟩
 self:=fun _ _ _ _ _ st h=>wpAny_pyIter_tupleiter st h
theorem tV{P:L1}{w:O4}{K:o0}{tg:K3}(it:J9) (lo:Int) (n:Nat):kF P w K tg (Itr lo n) [it] it (fun i h=>ab4 h it (lo+(i:Nat)*1) ((n:Int)-(i:Nat)) 1) where
 mem:=by simp
 obj:=fun i h st b hb=>by
  have e:b=it:=by simpa using hb
  subst e
  exact⟨_,st,fun v z=>by
   have z':Data.fields _=Data.cell v:=z
   cases z'⟩
 keep:=fun i h h' st k=>k it (by simp) _ st
 item:=by
  intro X hP hw hK hc i aa s σ H E I hf st hg
  subst hP hw hK
  obtain⟨f0,f1,f2,f3,f4,f5⟩:=hf it (by simp)
  have W:=Walks.range (prog:=X.prog) (w:=X.w) (I.ok.hd hc) it lo 1 n
  refine W.item i s _ _ hg st fun v h' tk hv st' kk=>?_
  obtain⟨t,rfl⟩:=hv
  have I1:Inv X aa σ H { s with heap:=h',toks:=tk }:=I.turned (fun b o hb e=>kk b o (by simpa using hb) e) f0 f1 f3 f4 f5
  refine⟨_,rfl,pC (s:={ s with heap:=h',toks:=tk }) (n:="range_iterator") st' rfl rfl (by decide) ⟨.int (lo+i),H,I1,⟨t,?_⟩,⟨rfl,rfl⟩,st',fun b hb=>(hf b hb).1⟩⟩
  rw[Int.mul_one]
 done:=by
  intro X hP hw hK hc i aa s σ H E I hf st hg
  subst hP hw hK
  obtain⟨f0,f1,f2,f3,f4,f5⟩:=hf it (by simp)
  exact wpAny_pyNext_range_end (I.ok.hd hc) st (by have:n<=i:=hg;omega) fun h' eb=>⟨rfl,I.turned (t':=s.toks) (fun b o hb e=>eb b o hb e) f0 f1 f3 f4 f5⟩
 self:=fun _ _ _ _ _ st h=>wpAny_pyIter_rangeiter st h
section
variable{X:Cx}{tg:K3}
theorem zL{aa:List (J9×Obj)}{σ:St}{H:Hp}{s:I0}{R:It->Hp->Prop}{E:s0->I0->Prop}{lo hi:Int}{t u v:Tok}{tk:Nat}(I:Inv X aa σ H s) (h1:-(2 ^ 62)<=lo) (h2:lo<2 ^ 62) (h3:-(2 ^ 62)<=hi) (h4:hi<2 ^ 62)
  (q:R (Itr lo (hi-lo).toNat) H):K4 (K9 X.prog X.w) X.A (ac1 (.ref s.heap.objs.size)) (PIE X aa σ tg R) E { s with heap:=s.heap.push { cls:=.type "range",data:=.fields #[.int lo t,.int hi u,.int 1 v] },toks:=tk }:=by
 refine wpAny_pyIter_range (IsRange.new ..) (small_one h1 h2 h3 h4) ?_
 have I1:Inv X aa σ H { s with heap:=s.heap.push { cls:=.type "range",data:=.fields #[.int lo t,.int hi u,.int 1 v] },toks:=tk }:=I.kept fun b o e=>J0 _ e
 refine⟨(s.heap.push { cls:=.type "range",data:=.fields #[.int lo t,.int hi u,.int 1 v] }).objs.size,[(s.heap.push { cls:=.type "range",data:=.fields #[.int lo t,.int hi u,.int 1 v] }).objs.size],_,_,H,rfl,
  I1.kept (t':=tk) fun b o e=>J0 _ e,tV _ lo (hi-lo).toNat,?_,fun b hb=>?_,q⟩
 ·have e1:lo+((0:Nat):Int)*1=lo:=by simp
  have e2:(((hi-lo).toNat:Nat):Int)-((0:Nat):Int)=O8 lo hi 1:=by rw[rangeSize_one];split<;>omega
  show ab4 _ _ (lo+((0:Nat):Int)*1) ((((hi-lo).toNat:Nat):Int)-((0:Nat):Int)) 1
  rw[e1,e2]
  exact J7 _ rfl
 ·have e:b=(s.heap.push { cls:=.type "range",data:=.fields #[.int lo t,.int hi u,.int 1 v] }).objs.size:=by simpa using hb
  subst e
  exact I1.fpOk (J6 _) (I1.hok.fresh (J6 _))
def FZ(ta:TA):TI:=fun σ H R=>ta σ H fun vs H1=>∃j:Int,vs=[.int j]/\-(2 ^ 62)<=j/\j<2 ^ 62/\R (Itr 0 j.toNat) H1
theorem wt{a:K3}{ta:TA}{p pos:Pos}(hg:Gl X "range") (hm:X.mg "range"=none) (ha:PA X [a] ta) (hs:J5 [a] X.env=[(false,T4 a X.env)]:=by rfl):PI X tg (.Call (.Name "range" p) [a] [] pos) (FZ ta):=by
 intro aa s σ H R I h
 refine Call_ (fZ I hg hm boot_range (R0 (thn (ha pos aa s σ H _ I h) fun us s1 hup=>hup.el fun vs H1 I1 r1 q1=>?_) hs rfl))
 obtain⟨j,e,q1,q2,q⟩:=q1
 subst e
 cases r1 with
 |cons r rr =>
  cases rr
  obtain⟨t,rfl⟩:=r
  exact call_range_1 (zL I1 (by omega) (by omega) q1 q2 (by simpa using q))
/-! ### for -/
def Hu(wi:TI) (g:TG) (tb:TS):TS:=fun D σ H=>wi σ H fun J H1=>∃W:Nat->Nat->St->Hp->Prop,(∃m,W 0 m σ H1)/\∀i m σ H,W i m σ H ->
 (J.stop i H/\D.nx σ H)∨(J.go i H/\∃N:St->Hp->Prop,(∀ σ' H',N σ' H'->∃m',m'<m/\W (i+1) m' σ' H')/\∀x H',J.yld i H x H'->g x σ H' fun σ2 H2=>tb { D with nx:=N,ct:=N,bk:=D.nx } σ2 H2)
def ja(fp:List J9) (h:L7):List (J9×Obj):=fp.filterMap fun b=>(h.get? b).map fun o=>(b,o)
theorem gf{fp:List J9}{h:L7}{b:J9}{o:Obj}(hb:b∈fp) (e:h.get? b=some o):(b,o)∈ja fp h:=V5.mpr ⟨b,hb,by rw[e];rfl⟩
theorem o5{fp:List J9}{h:L7}{p:J9×Obj}(hp:p∈ja fp h):p.1∈fp/\h.get? p.1=some p.2:=by
 obtain⟨b,hb,e⟩:=V5.mp hp
 cases q:h.get? b with
 |none=>rw[q]at e;cases e
 |some o =>
  rw[q]at e
  have e':(b,o)=p:=L8 e
  subst e'
  exact⟨hb,q⟩
theorem Inv.pinned{aa:List (J9×Obj)}{σ:St}{H:Hp}{s:I0}{fp:List J9}(I:Inv X aa σ H s) (hf:∀b∈fp,eF X aa H b) (ho:∀b∈fp,∃o,s.heap.get? b=some o/\∀v,o.data≠.cell v):Inv X (aa++ja fp s.heap) σ H s :=
 I.pins_of fun p hp=>(U2.mp hp).elim (fun z=>I.pin p (K6 _ z)) fun z=>by
  obtain⟨hb,e⟩:=o5 z
  obtain⟨f0,f1,f2,_⟩:=hf p.1 hb
  obtain⟨o,e',d⟩:=ho p.1 hb
  rw[e]at e';cases e'
  exact⟨e,f0,f1,f2,d⟩
theorem Inv.unpinned{aa pl:List (J9×Obj)}{σ:St}{H:Hp}{s:I0}(I:Inv X (aa++pl) σ H s):Inv X aa σ H s:=I.pins_of fun p hp=>I.pin p (K6 _ (List.mem_append_left _ hp))
theorem DV{iter:K3}{body:List aa0}{wi:TI}{g:TG}{tb:TS}{pos:Pos}(hp:ac9 (K9 X.prog X.w) X.A X.env X.xe) (hc:X.calm=true) (hi:PI X tg iter wi) (hg:PG X tg g) (hb:PSs X body tb)
  (hs:∀x,O6 iter X.env x=X5 x:=by intro _;rfl):PS X (.For tg iter body [] pos) (Hu wi g tb):=by
 intro aa s σ H D I h
 refine wpAny_For (thn (hi aa s σ H _ I h) fun v s1 h1=>thn h1 fun itv s2 h2=>?_) hs
 obtain⟨it,fp,tn,J,H2,e,I2,T,st2,f2,W,⟨m0,w0⟩,turn⟩:=h2
 subst e
 -- what stays true of the iterator's objects through the loop
 have stat:∀{H':Hp},(∀b∈fp,H' b=none)->∀b∈fp,eF X aa H' b:=fun hn b hb=>⟨hn b hb,(f2 b hb).2⟩
 refine codeAny_forLoop_any (fun n s'=>∃i σ' H',Inv X aa σ' H' s'/\tn i s'.heap/\(∀b∈fp,H' b=none)/\W i n σ' H') ?_ m0 ⟨0,σ,H2,I2,st2,fun b hb=>(f2 b hb).1,w0⟩
 rintro n s3 ⟨i,σ3,H3,I3,st3,fr3,w3⟩
 rcases turn i n σ3 H3 w3 with⟨stop,qn⟩|⟨go,N,hN,step⟩
 ·refine S0 hp (thn (T.done X rfl rfl rfl hc i aa s3 σ3 H3 X.xe I3 (stat fr3) st3 stop) fun r s4 ⟨hr,I4⟩=>?_)
  subst hr
  exact Y0 ⟨σ3,H3,I4,qn⟩
 ·refine S0 hp (thn (T.item X rfl rfl rfl hc i aa s3 σ3 H3 X.xe I3 (stat fr3) st3 go) fun r s4 ⟨u,hr,h4⟩=>?_)
  subst hr
  refine S0 hp (thn h4 fun _ s5 ⟨x,H5,I5,r5,y5,st5,fr5⟩=>?_)
  have I5':=I5.pinned (stat fr5) (T.obj _ _ st5)
  refine S0 hp (thn (hg _ s5 σ3 H5 x u _ I5' r5 (step x H5 y5)) fun _ s6 ⟨σ6,H6,I6,q6⟩=>?_)
  refine S0 hp (thn (hb _ s6 σ6 H6 _ I6 q6) fun f s7 q7=>?_)
  have again:∀{σ7:St} {H7:Hp},Inv X (aa++ja fp s5.heap) σ7 H7 s7->N σ7 H7->∃m,m<n/\∃i σ' H',Inv X aa σ' H' s7/\tn i s7.heap/\(∀b∈fp,H' b=none)/\W i m σ' H':=fun {σ7 H7} I7 n7=>by
   obtain⟨m',hm,w7⟩:=hN σ7 H7 n7
   refine⟨m',hm,i+1,σ7,H7,I7.unpinned,T.keep _ _ _ st5 fun b hb o e=>(I7.pin (b,o) (K6 _ (K6 _ (gf hb e)))).1,fun b hb=>?_,w7⟩
   obtain⟨o,e,d⟩:=T.obj _ _ st5 b hb
   exact(I7.pin (b,o) (K6 _ (K6 _ (gf hb e)))).2.1
  cases f with
  |next=>obtain⟨σ7,H7,I7,n7⟩:=q7;exact again I7 n7
  |cont=>obtain⟨σ7,H7,I7,n7⟩:=q7;exact again I7 n7
  |brk=>obtain⟨σ7,H7,I7,q7⟩:=q7;exact⟨σ7,H7,I7.unpinned,q7⟩
  |ret v=>obtain⟨x7,σ7,H7,I7,r7,q7⟩:=q7;exact⟨x7,σ7,H7,I7.unpinned,r7,q7⟩
end
/-! ### the forms one uses -/
abbrev R2:=V->V->Hp->VK->Prop
def OpR(X:Cx) (f:s0->s0->Sem s0) (r:R2):Prop :=
 ∀(aa:List (J9×Obj)) (s:I0) (σ:St) (H:Hp) (x y:V) (v u:s0) (Q:VK),Inv X aa σ H s->aD x v->aD y u->r x y H Q ->
  K4 (K9 X.prog X.w) X.A (f v u) (EP X aa σ Q) X.xe s
def UnR(X:Cx) (f:s0->Sem s0) (r:V->Hp->VK->Prop):Prop :=
 ∀(aa:List (J9×Obj)) (s:I0) (σ:St) (H:Hp) (x:V) (v:s0) (Q:VK),Inv X aa σ H s->aD x v->r x H Q ->
  K4 (K9 X.prog X.w) X.A (f v) (EP X aa σ Q) X.xe s
def dN(X:Cx) (f:s0) (r:List V->Hp->VK->Prop):Prop :=
 ∀(aa:List (J9×Obj)) (s:I0) (σ:St) (H:Hp) (xs:List V) (us:List s0) (Q:VK),Inv X aa σ H s->az xs us->r xs H Q ->
  K4 (K9 X.prog X.w) X.A (call f us) (EP X aa σ Q) X.xe s
def tOp(r:R2) (ta tb:TE):TE:=fun σ H Q=>ta σ H fun x H1=>tb σ H1 fun y H2=>r x y H2 Q
def tUn(r:V->Hp->VK->Prop) (ta:TE):TE:=fun σ H Q=>ta σ H fun x H1=>r x H1 Q
def rI(C:Int->Int->Prop) (g:Int->Int->V):R2:=fun x y H Q=>∃i j,x=.int i/\y=.int j/\C i j/\Q (g i j) H
def rI0(g:Int->Int->V):R2:=fun x y H Q=>∃i j,x=.int i/\y=.int j/\Q (g i j) H
def rU(g:Int->V):V->Hp->VK->Prop:=fun x H Q=>∃i,x=.int i/\Q (g i) H
section
variable{X:Cx}{a b c:K3}{ta tb tc:TE}{pos:Pos}
theorem EZ(ha:PE X a ta) (hb:PE X b tb) {aa:List (J9×Obj)}{s:I0}{σ:St}{H:Hp}{R:V->V->Hp->Prop}(I:Inv X aa σ H s)
  (h:ta σ H fun x H1=>tb σ H1 fun y H2=>R x y H2) {Q:s0->I0->Prop} {f:s0->s0->Sem s0}
  (hf:∀v u s2 x y H2,Inv X aa σ H2 s2->aD x v->aD y u->R x y H2->K4 (K9 X.prog X.w) X.A (f v u) Q X.xe s2) :
  K4 (K9 X.prog X.w) X.A (T4 a X.env) (fun v s₁=>K4 (K9 X.prog X.w) X.A (T4 b X.env) (fun u s₂=>K4 (K9 X.prog X.w) X.A (f v u) Q X.xe s₂) X.xe s₁) X.xe s:=by
 refine thn (ha aa s σ H _ I h) fun v s1 hup=>hup.el fun x H1 I1 r1 q1=>?_
 refine thn (hb aa s1 σ H1 _ I1 q1) fun u s2 hup=>hup.el fun y H2 I2 r2 q2=>?_
 exact hf v u s2 x y H2 I2 r1 r2 q2
theorem F2{op:ac3}{r:R2}(ho:OpR X (P1 op) r) (ha:PE X a ta) (hb:PE X b tb):PE X (.BinOp a op b pos) (tOp r ta tb):=by
 intro aa s σ H Q I h
 exact wpAny_BinOp (EZ ha hb I h fun v u s2 x y H2 I2 rx ry q=>ho aa s2 σ H2 x y v u Q I2 rx ry q)
theorem FW{op:UnaryOp}{r:V->Hp->VK->Prop}(ho:UnR X (unaryOp op) r) (ha:PE X a ta):PE X (.UnaryOp op a pos) (tUn r ta):=by
 intro aa s σ H Q I h
 exact UnaryOp_ (thn (ha aa s σ H _ I h) fun v s1 hup=>hup.el fun x H1 I1 r1 q1=>ho aa s1 σ H1 x v Q I1 r1 q1)
/-! ### ints -/
theorem opI{f:s0->s0->Sem s0}{C:Int->Int->Prop}{g:Int->Int->Int}
  (rule:∀(i j:Int) (t u:Tok) (s:I0) (Q:s0->I0->Prop) (E:s0->I0->Prop),C i j->Q (.int (g i j) s.toks) { s with toks:=s.toks+1 }->K4 (K9 X.prog X.w) X.A (f (.int i t) (.int j u)) Q E s) :
  OpR X f (rI C fun i j=>.int (g i j)):=by
 intro aa s σ H x y v u Q I rx ry h
 obtain⟨i,j,rfl,rfl,hc,q⟩:=h
 obtain⟨t,rfl⟩:=rx
 obtain⟨t',rfl⟩:=ry
 exact rule i j t t' s _ _ hc ⟨.int (g i j),H,I.tok _,⟨_,rfl⟩,q⟩
theorem FH{f:s0->s0->Sem s0}{g:Int->Int->Int}
  (rule:∀(i j:Int) (t u:Tok) (s:I0) (Q:s0->I0->Prop) (E:s0->I0->Prop),Q (.int (g i j) s.toks) { s with toks:=s.toks+1 }->K4 (K9 X.prog X.w) X.A (f (.int i t) (.int j u)) Q E s) :
  OpR X f (rI0 fun i j=>.int (g i j)):=by
 intro aa s σ H x y v u Q I rx ry h
 obtain⟨i,j,rfl,rfl,q⟩:=h
 obtain⟨t,rfl⟩:=rx
 obtain⟨t',rfl⟩:=ry
 exact rule i j t t' s _ _ ⟨.int (g i j),H,I.tok _,⟨_,rfl⟩,q⟩
theorem B1{f:s0->s0->Sem s0}{g:Int->Int->Bool}
  (rule:∀(i j:Int) (t u:Tok) (s:I0) (Q:s0->I0->Prop) (E:s0->I0->Prop),Q (.bool (g i j)) s->K4 (K9 X.prog X.w) X.A (f (.int i t) (.int j u)) Q E s) :
  OpR X f (rI0 fun i j=>.bl (g i j)):=by
 intro aa s σ H x y v u Q I rx ry h
 obtain⟨i,j,rfl,rfl,q⟩:=h
 obtain⟨t,rfl⟩:=rx
 obtain⟨t',rfl⟩:=ry
 exact rule i j t t' s _ _ ⟨.bl (g i j),H,I,rfl,q⟩
def p6(i j:Int):Prop:=0<j/\j<1073741824
def tD(i j:Int):Prop:=0<=j/\j<=1000000/\i.natAbs<2 ^ 64
def kc(i j:Int):Prop:=(-(2 ^ 64)<i/\i<2 ^ 64)∨(-(2 ^ 64)<j/\j<2 ^ 64)
theorem kc.ok{i j:Int}(h:kc i j):IntMulOk i j:=by
 rcases h with⟨h1,h2⟩|⟨h1,h2⟩
 ·exact .of_left (intBits_le_64 h1 h2)
 ·exact .of_right (intBits_le_64 h1 h2)
theorem DB:OpR X (P1 .Add) (rI0 fun i j=>.int (i+j)):=FH fun _ _ _ _ _ _ _ q=>add_int q
theorem EA:OpR X (P1 .Sub) (rI0 fun i j=>.int (i-j)):=FH fun _ _ _ _ _ _ _ q=>sub_int q
theorem Do:OpR X (P1 .Mult) (rI kc fun i j=>.int (i*j)):=opI fun _ _ _ _ _ _ _ hc q=>mul_int q hc.ok
theorem B3:OpR X (P1 .FloorDiv) (rI p6 fun i j=>.int (i / j)):=opI fun i j _ _ _ _ _ hc q=>by
 have h1:(0:Int)<j:=hc.1
 have h2:j<1073741824:=hc.2
 exact floordiv_int (by omega) (by rw[Int.fdiv_eq_ediv_of_nonneg i (by omega)];exact q) (.inl (PyProof.noPylong_small (by omega)))
theorem D1:OpR X (P1 .Mod) (rI (fun _ j=>0<j) fun i j=>.int (i % j)):=opI fun i j _ _ _ _ _ hc q=>by
 have h1:(0:Int)<j:=hc
 exact mod_int' (by omega) (by rw[Int.fmod_eq_emod_of_nonneg i (by omega)];exact q)
theorem DD:OpR X (P1 .Pow) (rI tD fun i j=>.int (i ^ j.toNat)):=opI fun _ _ _ _ _ _ _ hc q=>pow_int_small hc.1 hc.2.1 hc.2.2 q
theorem unI{f:s0->Sem s0}{g:Int->Int}
  (rule:∀(i:Int) (t:Tok) (s:I0) (Q:s0->I0->Prop) (E:s0->I0->Prop),Q (.int (g i) s.toks) { s with toks:=s.toks+1 }->K4 (K9 X.prog X.w) X.A (f (.int i t)) Q E s) :
  UnR X f (rU fun i=>.int (g i)):=by
 intro aa s σ H x v Q I rx h
 obtain⟨i,rfl,q⟩:=h
 obtain⟨t,rfl⟩:=rx
 exact rule i t s _ _ ⟨.int (g i),H,I.tok _,⟨_,rfl⟩,q⟩
theorem Fn:UnR X (unaryOp .USub) (rU fun i=>.int (-i)):=unI fun _ _ _ _ _ q=>neg_int q
/-! ### bools among ints: n += (a<b) -/
end
/-! ### comparisons -/
section
variable{X:Cx}{a b c:K3}{ta tb tc:TE}{pos:Pos}
theorem qR{aa:List (J9×Obj)}{σ:St}{H:Hp}{s:I0}{Q:VK}{k k':Bool}(I:Inv X aa σ H s) (q:Q (.bl k) H) (e:k=k'):EP X aa σ Q (.bool k') s:=by
 subst e
 exact⟨.bl k,H,I,rfl,q⟩
theorem GE:OpR X (L5 .Lt) (rI0 fun i j=>.bl (decide (i<j))):=B1 fun _ _ _ _ _ _ _ q=>lt_int q
theorem Hg:OpR X (L5 .LtE) (rI0 fun i j=>.bl (decide (i<=j))):=B1 fun _ _ _ _ _ _ _ q=>le_int q
theorem Fv:OpR X (L5 .Gt) (rI0 fun i j=>.bl (decide (j<i))):=B1 fun _ _ _ _ _ _ _ q=>gt_int q
theorem Ge:OpR X (L5 .GtE) (rI0 fun i j=>.bl (decide (j<=i))):=B1 fun _ _ _ _ _ _ _ q=>ge_int q
theorem w9:OpR X (L5 .In) (fun x y H Q=>∃i j,x=.str i/\y=.str j/\Q (.bl (!(S8 j i 0 j.length 1).isEmpty)) H):=by
 intro aa s σ H x y v u Q I rx ry h
 obtain⟨i,j,rfl,rfl,q⟩:=h
 obtain⟨t,rfl⟩:=rx
 obtain⟨t',rfl⟩:=ry
 exact in_str (qR I q rfl)
theorem Fc:OpR X (L5 .Is) (fun x y H Q=>y=.non/\Q (.bl (decide (x=.non))) H):=by
 intro aa s σ H x y v u Q I rx ry h
 obtain⟨rfl,q⟩:=h
 cases ry
 refine is_none_gen (qR I q ?_)
 cases x<;>first
  |(cases rx;rfl)
  |(obtain⟨t,rfl⟩:=rx;rfl)
theorem BY:OpR X (L5 .IsNot) (fun x y H Q=>y=.non/\Q (.bl (!decide (x=.non))) H):=by
 intro aa s σ H x y v u Q I rx ry h
 obtain⟨rfl,q⟩:=h
 cases ry
 refine isnot_none_gen (qR I q ?_)
 cases x<;>first
  |(cases rx;rfl)
  |(obtain⟨t,rfl⟩:=rx;rfl)
theorem qt:OpR X (L5 .NotIn) (fun x y H Q=>∃i j,x=.str i/\y=.str j/\Q (.bl (!(!(S8 j i 0 j.length 1).isEmpty))) H):=by
 intro aa s σ H x y v u Q I rx ry h
 obtain⟨i,j,rfl,rfl,q⟩:=h
 obtain⟨t,rfl⟩:=rx
 obtain⟨t',rfl⟩:=ry
 exact notIn_str (qR I q rfl)
theorem BE{op:ac2}{r:R2}(ho:OpR X (L5 op) r) (ha:PE X a ta) (hb:PE X b tb) (hm:S7 op b=false):PE X (.Compare a [op] [b] pos) (tOp r ta tb):=by
 intro aa s σ H Q I h
 exact wpAny_Compare1 (EZ ha hb I h fun v u s2 x y H2 I2 rx ry q=>ho aa s2 σ H2 x y v u Q I2 rx ry q) hm
def CO(t:TE):TT:=fun σ H Q=>t σ H fun x H'=>∃k,x=.bl k/\Q k H'
theorem AJ{op:ac2}{r:R2}(ho:OpR X (L5 op) r) (ha:PE X a ta) (hb:PE X b tb) (hm:S7 op b=false):PT X (.Compare a [op] [b] pos) (CO (tOp r ta tb)):=by
 intro aa s σ H Q I h
 refine wpAny_isTrue_Compare1 (thn (ha aa s σ H _ I h) fun v s1 hup=>hup.el fun x H1 I1 r1 q1=>thn (hb aa s1 σ H1 _ I1 q1) fun u s2 hup=>hup.el fun y H2 I2 r2 q2 =>
  thn (ho aa s2 σ H2 x y v u _ I2 r1 r2 q2) fun c s3 ⟨z,H3,I3,r3,k,e,q3⟩=>?_) hm
 subst e
 cases r3
 exact Q5 ⟨H3,I3,q3⟩
def Ee(r r':R2) (ta tb tc:TE):TE:=fun σ H Q=>ta σ H fun x H1=>tb σ H1 fun y H2=>r x y H2 fun z H3=>∃k,z=.bl k /\
 (if k=true then tc σ H3 fun w' H4=>r' y w' H4 Q else Q (.bl false) H3)
theorem yU{op op':ac2}{r r':R2}(ho:OpR X (L5 op) r) (ho':OpR X (L5 op') r') (ha:PE X a ta) (hb:PE X b tb) (hc:PE X c tc)
  (hm:lastMarks [op,op'] [b,c]=false:=by with_unfolding_all rfl):PE X (.Compare a [op,op'] [b,c] pos) (Ee r r' ta tb tc):=by
 intro aa s σ H Q I h
 refine Compare_chain (thn (ha aa s σ H _ I h) fun v s1 hup=>hup.el fun x H1 I1 r1 q1=>chain_link (thn (hb aa s1 σ H1 _ I1 q1) fun u s2 hup=>hup.el fun y H2 I2 r2 q2 =>
  thn (ho aa s2 σ H2 x y v u _ I2 r1 r2 q2) fun d s3 ⟨z,H3,I3,r3,k,e,q3⟩=>?_)) hm
 subst e
 cases r3
 refine Q5 ?_
 cases k with
 |false=>exact ite_ff ⟨.bl false,H3,I3,rfl,q3⟩
 |true=>exact ite_tt (chain_last (thn (hc aa s3 σ H3 _ I3 q3) fun w' s4 ⟨z',H4,I4,r4,q4⟩=>ho' aa s4 σ H4 y z' u w' Q I4 r2 r4 q4))
/-! ### truth -/
theorem ko:(J1:Nat)<2 ^ 63:=by rw[ab5];decide
/-! ### strs and bytes -/
theorem uK:OpR X (P1 .Add) (fun x y H Q=>∃i j,x=.str i/\y=.str j/\i.length+j.length<=J1/\Q (.str (i++j)) H):=by
 intro aa s σ H x y v u Q I rx ry h
 obtain⟨i,j,rfl,rfl,hz,q⟩:=h
 obtain⟨t,rfl⟩:=rx
 obtain⟨t',rfl⟩:=ry
 exact add_str (fun t' tk=>⟨.str (i++j),H,I.tok _,⟨_,rfl⟩,q⟩) hz
/-! ### scalar builtins,by dN -/
theorem rZ{x:V}{us:List s0}(r:az [x] us):∃u,us=[u]/\aD x u:=by
 cases r with
 |cons r1 r2=>cases r2;exact⟨_,rfl,r1⟩
theorem xK:dN X (.builtin "abs") (fun xs H Q=>∃i,xs=[.int i]/\Q (.int (if i<0 then -i else i)) H):=by
 intro aa s σ H xs us Q I r h
 obtain⟨i,rfl,q⟩:=h
 obtain⟨u,rfl,t,rfl⟩:=rZ r
 exact call_abs_int fun u tk=>⟨.int (if i<0 then -i else i),H,I.tok _,⟨_,rfl⟩,q⟩
end
/-! ### an instance,its attributes a map -/
structure wf(h:L7) (x dx C:J9) (mA:Str->Option s0):Prop where
 obj:h.get? x=some (Q8 C dx)
 ns:h.Ns1 dx mA
 ne:dx≠x
theorem wn{h:L7}{dx:J9}{mA:Str->Option s0}(n:h.Ns1 dx mA):∃od,h.get? dx=some od/\∀name,PySem.W.lookIn name od=some (mA name):=by
 obtain⟨o,es,ep,ho,hd,hk,_,hm⟩:=n
 refine⟨o,ho,fun name=>?_⟩
 have e:=hm name
 unfold nsFind findBy at e
 rw[<-Array.find?_toList]at e
 unfold PySem.W.lookIn
 rw[hd]
 dsimp only
 split
 ·rename_i y q
  rw[q]at e
  exact congrArg some e
 ·rename_i q
  rw[q]at e
  have a:es.toList.any (·.refKey)=false:=by
   rw[List.any_eq_false]
   intro y hy
   obtain⟨z,t,hkey⟩:=hk y (Array.mem_toList_iff.mp hy)
   simp[DictEntry.refKey,hkey]
  have a':¬ es.toList.any (·.refKey)=true:=by rw[a];exact L9
  rw[if_neg a']
  exact congrArg some e
theorem wf.look{h:L7}{x dx C:J9}{mA:Str->Option s0}(I:wf h x dx C mA):∃od,PySem.W.InstAt h x (Q8 C dx) C (some od)/\∀name,PySem.W.lookIn name od=some (mA name) :=
 let⟨od,ho,hl⟩:=wn I.ns
 ⟨od,⟨I.obj,rfl,rfl,ho⟩,hl⟩
section
variable{prog:L1}{w:O4}{A:M7}{E:s0->I0->Prop}{s:I0}{K:o0}{x dx C f:J9}{mA:Str->Option s0}{name:Str}{v:s0}
theorem BU{expr:Bool}{Q:s0->I0->Prop}(X:K.In s.heap) (I:wf s.heap x dx C mA) (hg:PySem.W.plainGet K C name=true) (hh:PySem.W.hasDictIn K C=true)
  (ha:R7 K (.ref C) name=some none) (hv:mA name=some v) (hv':PySem.W.handedIn v=true) (h:Q v { s with toks:=s.toks+1 }) :
  K4 (K9 prog w) A (getAttr (.ref x) name expr) Q E s:=by
 obtain⟨od,J,hl⟩:=I.look
 exact PySem.W.get_value X J (PySem.W.plainGet_of hg).1 (PySem.W.findObj_own hh ha rfl (by rw[hl,hv])) hv' h
theorem Cb{ns:List Str}{Q:Unit->I0->Prop}(X:K.In s.heap) (I:wf s.heap x dx C mA)
  (hs:R7 K (.ref C) "__setattr__"=some (some (.builtin "object.__setattr__"))) (hp:PySem.W.plainOver K C=true) (ht:PySem.W.takerIn K C name=some none) (hh:PySem.W.hasDictIn K C=true)
  (hw:aa2 mA ns) (hsz:ns.length<=J1)
  (h:∀h',wf h' x dx C (fun y=>if y=name then some v else mA y)->S4 dx s.heap h'->Q () { s with heap:=h',toks:=s.toks+2 }) :
  K4 (K9 prog w) A (setAttr (.ref x) name v) Q E s:=by
 obtain⟨od,J,hl⟩:=I.look
 refine PySem.W.set_plain X J hs (PySem.W.osa_open (s:={ s with toks:=s.toks+1 }) (r:=none) X J hp ht fun b=>?_)
 obtain⟨cd,hc,hd'⟩:=PySem.W.any_some hh
 have hx:s.heap.get? x=some ⟨.ref C,some dx,.plain,#[]⟩:=I.obj
 refine u8 (J4 (u8 (u8 (wpAny_loadPart hx (u8 (PySem.W.Looks.here (s:={ s with toks:=s.toks+1 }) (PySem.W.looks_clsIn X hc) ?_))))))
 rw[hd']
 refine J4 (a:=some dx) (u8 (J4 (u8 ?_)))
 refine wpAny_nsSet1 (s:={ s with toks:=s.toks+1 }) I.ns fun h' hn2 hs2=>?_
 obtain⟨oD,esD,epD,hoD,hdD,hcD⟩:=hn2.count (aa2.cons name v hw)
 refine u8 (wpAny_lookBehind hoD (by rw[hdD];exact pastItsLine_dict (M9 hcD (by rw[N8];omega))) ?_)
 exact J4 (h _ ⟨(hs2.2 _ (X4 I.ne)).trans I.obj,hn2,I.ne⟩ hs2)
theorem yR{R:Result->I0->Prop}{vs:List s0}{kw:List (Str×s0)}(X:K.In s.heap) (hm:PySem.W.makesIn K C=true)
  (hi:R7 K (.ref C) "__init__"=some (some (.ref f))) (hf:PySem.W.typeIn K (.ref f)=some (.type "function"))
  (h:W4 (K9 prog w) (A.under (.builtin "type.__call__" ⟨.ref C :: vs,kw⟩)) (.call (.ref f) ⟨.ref (s.heap.objs.size + 1) :: vs,kw⟩) (PySem.W.InitBack (s.heap.objs.size + 1) R)
   { s with heap:=(s.heap.push O7).push (Q8 C s.heap.objs.size) }) :
  W4 (K9 prog w) A (.call (.ref C) ⟨vs,kw⟩) R s:=by
 obtain⟨hh,g,d,t,os⟩:=s
 exact PySem.W.make_core (PySem.W.makes_of X hm) (PySem.W.looks_findIn X hi) (fun self=>PySem.W.bind_fn X self hf) (.inl rfl) h
end
/-! ### the attributes as a list of pairs -/
def putF(f:Str) (v:V):List (Str×V)->List (Str×V)
 |[]=>[(f,v)]
 |(g,x)::r=>if g=f then(g,v)::r else(g,x)::putF f v r
theorem lu(f g:Str) (v:V):∀fs:List (Str×V),(putF f v fs).lookup g=if g=f then some v else fs.lookup g
 |[]=>by
  show S9 g [(f,v)]=_
  by_cases h:g=f
  ·have hb:(g==f)=true:=beq_iff_eq.mpr h
   simp only[S9,hb,if_pos h]
  ·have hb:(g==f)=false:=beq_eq_false_iff_ne.mpr h
   simp only[S9,hb,if_neg h]
 |(k,x)::r=>by
  have ih:=lu f g v r
  rw[show putF f v ((k,x)::r)=(if k=f then(k,v)::r else(k,x)::putF f v r)from rfl]
  by_cases hk:k=f
  ·rw[if_pos hk]
   by_cases h:g=k
   ·have hb:(g==k)=true:=beq_iff_eq.mpr h
    simp only[S9,hb,if_pos (h.trans hk)]
   ·have hb:(g==k)=false:=beq_eq_false_iff_ne.mpr h
    simp only[S9,hb,if_neg (fun e:g=f=>h (e.trans hk.symm))]
  ·rw[if_neg hk]
   by_cases h:g=k
   ·have hb:(g==k)=true:=beq_iff_eq.mpr h
    simp only[S9,hb,if_neg (fun e:g=f=>hk (h.symm.trans e))]
   ·have hb:(g==k)=false:=beq_eq_false_iff_ne.mpr h
    simp only[S9,hb]
    exact ih
theorem kC(f:Str) (v:V):∀fs:List (Str×V),f∈(putF f v fs).map (·.1)/\∀g,g∈fs.map (·.1)->g∈(putF f v fs).map (·.1)
 |[]=>⟨by simp[putF],fun g h=>by simp at h⟩
 |(k,x)::r=>by
  obtain⟨i1,i2⟩:=kC f v r
  rw[show putF f v ((k,x)::r)=(if k=f then(k,v)::r else(k,x)::putF f v r)from rfl]
  by_cases hk:k=f
  ·rw[if_pos hk]
   subst hk
   exact⟨by simp,fun g h=>by simpa using h⟩
  ·rw[if_neg hk]
   refine⟨?_,fun g h=>?_⟩
   ·rw[L3]
    exact L4 _ i1
   ·rw[L3]at h ⊢
    rcases O5.mp h with e|e
    ·exact O5.mpr (.inl e)
    ·exact L4 _ (i2 g e)
theorem lg(f:Str) (v:V):∀fs:List (Str×V),(putF f v fs).length<=fs.length+1
 |[]=>by simp[putF]
 |(k,x)::r=>by
  have ih:=lg f v r
  rw[show putF f v ((k,x)::r)=(if k=f then(k,v)::r else(k,x)::putF f v r)from rfl]
  by_cases hk:k=f
  ·rw[if_pos hk,N8,N8];omega
  ·rw[if_neg hk,N8,N8];omega
theorem iH.some_of{v:V}{o:Option s0}(r:iH (some v) o):∃u,o=some u/\aD v u:=by
 cases o with
 |none=>exact(show False from r).elim
 |some u=>exact⟨u,rfl,r⟩
theorem wg{v:V}{u:s0}(r:aD v u):PySem.W.handedIn u=true:=by
 cases v with
 |non=>cases(show u=W3 from r);rfl
 |bl b=>cases(show u=s0.bool b from r);rfl
 |int i=>obtain⟨t,e⟩:=(show ∃t,u=ac5 i t from r);cases e;rfl
 |str x=>obtain⟨t,e⟩:=(show ∃t,u=ac6 x t from r);cases e;rfl
 |byt b=>obtain⟨t,e⟩:=(show ∃t,u=s0.bytes b t from r);cases e;rfl
 |flt b=>obtain⟨t,e⟩:=(show ∃t,u=s0.float b t from r);cases e;rfl
 |ref a=>cases(show u=N3 a from r);rfl
 |ty n=>cases(show u=X9 n from r);rfl
section
variable{P:L1}{w:O4}{H H':Hp}{h h':L7}{a C dx:J9}{fs fs':List (Str×V)}
theorem vP(hok:HOk P w H h) (e:H a=some (.ins C dx fs)):∃mA,wf h a dx C mA/\(∀f,iH (fs.lookup f) (mA f))/\aa2 mA (fs.map (·.1))/\fs.length<=1000/\H dx=some (.own a):=by
 obtain⟨d,z,ne,ob,mA,n,r,q⟩:=(show bY P w H h a (.ins C dx fs)from hok a _ e)
 exact⟨mA,⟨ob,n,ne⟩,r,q,z,d⟩
end
/-! ### what of the text a class must have -/
structure Cls(K:o0) (C:J9):Prop where
 pg:PySem.W.plainGet K C Str.empty=true
 hd:PySem.W.hasDictIn K C=true
 po:PySem.W.plainOver K C=true
 sa:R7 K (.ref C) "__setattr__"=some (some (.builtin "object.__setattr__"))
theorem Cls.get{K:o0}{C:J9}(c:Cls K C) (f:Str):PySem.W.plainGet K C f=true:=c.pg
def cP(K:o0) (C:J9) (f:Str):Prop:=R7 K (.ref C) f=some none
theorem cP.taker{K:o0}{C:J9}{f:Str}(n:cP K C f):PySem.W.takerIn K C f=some none:=by
 unfold PySem.W.takerIn
 rw[show R7 K (.ref C) f=some none from n]
 rfl
section
variable{X:Cx}{aa:List (J9×Obj)}{σ:St}{H:Hp}{s:I0}{a C dx:J9}{fs:List (Str×V)}{f:Str}{v:V}{A:M7}{E:s0->I0->Prop}
theorem uu{b:Bool}{Q:s0->I0->Prop}(I:Inv X aa σ H s) (e:H a=some (.ins C dx fs)) (c:Cls X.K C) (n:cP X.K C f) (l:fs.lookup f=some v)
  (h:∀u s',Inv X aa σ H s'->aD v u->Q u s'):K4 (K9 X.prog X.w) A (getAttr (.ref a) f b) Q E s:=by
 obtain⟨mA,O,r,_,_,_⟩:=vP I.hok e
 obtain⟨u,hu,ru⟩:=iH.some_of (v:=v) (o:=mA f) (by rw[<-l];exact r f)
 exact BU I.kIn O (c.get f) c.hd n hu (wg ru) (h u _ (I.tok _) ru)
theorem uq{y:V}{u:s0}{Q:Unit->I0->Prop}(I:Inv X aa σ H s) (e:H a=some (.ins C dx fs)) (c:Cls X.K C) (n:cP X.K C f) (hl:fs.length<1000) (ry:aD y u)
  (h:∀s',Inv X aa σ (upd H a (.ins C dx (putF f y fs))) s'->Q () s'):K4 (K9 X.prog X.w) A (setAttr (.ref a) f u) Q E s:=by
 obtain⟨mA,O,r,wi,_,ho⟩:=vP I.hok e
 have hz:(fs.map (·.1)).length<=J1:=by rw[U3,ab5];omega
 refine Cb I.kIn O c.sa c.po n.taker c.hd wi hz fun h' O' sb=>h _ ?_
 have hd:∃o,h'.get? dx=some o:=let⟨o,_,_,e',_⟩:=O'.ns;⟨o,e'⟩
 refine I.write (x:=a) (e:=dx) (by rw[e];exact V1) (.inr ho) (fun b q hb z=>(sb.2 b hb).trans z) hd ?_
 refine⟨by rw[aJ O.ne];exact ho,?_,O.ne,O'.obj,_,O'.ns,fun g=>?_,fun g hg=>?_⟩
 ·have:=lg f y fs;omega
 ·show iH ((putF f y fs).lookup g) (if g=f then some u else mA g)
  rw[lu]
  by_cases q:g=f
  ·rw[if_pos q,if_pos q];exact ry
  ·rw[if_neg q,if_neg q];exact r g
 ·by_cases q:g=f
  ·rw[q];exact(kC f y fs).1
  ·refine(kC f y fs).2 g (wi g fun z=>hg ?_)
   show(if g=f then some u else mA g)=none
   rw[if_neg q];exact z
theorem Inv.made(I:Inv X aa σ H s):Inv X aa σ (upd (upd H s.heap.objs.size (.own (s.heap.objs.size+1))) (s.heap.objs.size+1) (.ins C s.heap.objs.size []))
  { s with heap:=(s.heap.push O7).push (Q8 C s.heap.objs.size) }:=by
 have e1:(s.heap.push O7).get? s.heap.objs.size=some O7:=J7 s.heap rfl
 have e2:((s.heap.push O7).push (Q8 C s.heap.objs.size)).get? (s.heap.objs.size+1)=some (Q8 C s.heap.objs.size):=by
  have:=J7 (s.heap.push O7) (o:=Q8 C s.heap.objs.size) rfl
  rwa [W9]at this
 have e3:(s.heap.push O7).Ns s.heap.objs.size (fun _=>none):=⟨O7,#[],_,e1,rfl,(fun e he=>absurd he (by simp)),fun _=>rfl⟩
 have I1:=I.laid (a:=s.heap.objs.size) (o:=.own (s.heap.objs.size+1)) (h':=s.heap.push O7) (t':=s.toks) (fun b u q=>J0 _ q) (J6 _) ⟨_,e1⟩
 refine I1.laid (a:=s.heap.objs.size+1) (o:=.ins C s.heap.objs.size []) (t':=s.toks) (fun b u q=>J0 _ q) (Nat.le_of_eq (W9 _ _)) ?_
 have ne:s.heap.objs.size≠s.heap.objs.size+1:=K2 (T6 _)
 refine⟨by rw[aJ ne,aC],U4 _,ne,e2,fun _=>none,(L7.Ns1.of_empty e3).at fun o q=>J0 _ q,fun _=>V1,fun y hy=>absurd rfl hy⟩
theorem BX{prog:L1}{w:O4}{env:Env}{e:K3}{f:Str}{pos:Pos}{s:I0}{Q:s0->I0->Prop}(hb:U7 e f env (T4 e env)=T4 e env)
  (h:K4 (K9 prog w) A (T4 e env) (fun o s₁=>K4 (K9 prog w) A (getAttr o f true) Q E s₁) E s):K4 (K9 prog w) A (T4 (.Attribute e f pos) env) Q E s :=
 Attribute_any_ h (by rw[arm_eval_Attribute,hb])
end
/-! ### readings and rules -/
def Ht(K:o0) (ta:TE) (f:Str):TE:=fun σ H Q=>ta σ H fun x H1=>∃a C dx fs v,x=.ref a/\H1 a=some (.ins C dx fs)/\Cls K C/\cP K C f/\fs.lookup f=some v/\Q v H1
def Hs(K:o0) (ta tv:TE) (f:Str):TS:=fun D σ H=>tv σ H fun y H1=>ta σ H1 fun x H2=>∃a C dx fs,x=.ref a/\H2 a=some (.ins C dx fs)/\Cls K C/\cP K C f/\fs.length<1000 /\
 D.nx σ (upd H2 a (.ins C dx (putF f y fs)))
section
variable{X:Cx}{o e value:K3}{f:Str}{pos pos' tpos:Pos}{ta tv:TE}
theorem Fh(he:PE X e ta) (hb:U7 e f X.env (T4 e X.env)=T4 e X.env):PE X (.Attribute e f pos) (Ht X.K ta f):=by
 intro aa s σ H Q I h
 refine BX hb (thn (he aa s σ H _ I h) fun u s1 ⟨x,H1,I1,rx,a,C,dx,fs,v,ex,ea,c,n,l,q⟩=>?_)
 subst ex
 obtain rfl:u=N3 a:=rx
 exact uu I1 ea c n l fun u' s2 I2 ru=>⟨v,H1,I2,ru,q⟩
theorem Dz(ha:PE X o ta) (hv:PE X value tv) (hs:Y1 value (some (.Attribute o f pos')) pos.line X.env=X5 false):PS X (.Assign [.Attribute o f pos'] value pos) (Hs X.K ta tv f):=by
 intro aa s σ H D I h
 refine plainObj_wpAny_Assign_Attribute (thn (hv aa s σ H _ I h) fun u s1 hup=>hup.el fun y H1 I1 ry q=>thn (ha aa s1 σ H1 _ I1 q) fun ov s2 ⟨x,H2,I2,rx,a,C,dx,fs,ex,ea,c,n,l,q2⟩=>?_) hs
 subst ex
 obtain rfl:ov=N3 a:=rx
 exact uq I2 ea c n l ry fun s3 I3=>⟨σ,_,I3,q2⟩
end
/-! ### isinstance -/
section
variable{X:Cx}{aa:List (J9×Obj)}{σ:St}{H:Hp}{s:I0}{A:M7}{E:s0->I0->Prop}{Q:s0->I0->Prop}{c:s0}{b:Bool}
inductive mf (K:o0) (H:Hp):V->s0->Prop where
 |non:mf K H .non (.type "NoneType")
 |bl (x:Bool):mf K H (.bl x) (.type "bool")
 |int (i:Int):mf K H (.int i) (.type "int")
 |str (x:Str):mf K H (.str x) (.type "str")
 |flt (x:UInt64):mf K H (.flt x) (.type "float")
 |lst {a:J9} {xs:List V} (e:H a=some (.lst xs)):mf K H (.ref a) (.type "list")
 |frz {a:J9} {o:Obj} {xs:List V} (e:H a=some (.frz o (.lst xs))):mf K H (.ref a) (.type "list")
 |tup {a:J9} {xs:List V} (e:H a=some (.tup xs)):mf K H (.ref a) (.type "tuple")
 |dK {a:J9} {kvs:List (Key×V)} (e:H a=some (.dK kvs)):mf K H (.ref a) (.type "dict")
 |dT {a:J9} {kvs:List (List Key×V)} (e:H a=some (.dT kvs)):mf K H (.ref a) (.type "dict")
 | ins {a C dx:J9} {fs:List (Str × V)} (e:H a = some (.ins C dx fs)) (cl:Cls K C) (ha:R7 K (.ref C) "__class__" = some (some (.builtin "object.__class__")))
   (hn:PySem.W.specialIn K (.builtin "object.__class__") "__get__"=some (some (.builtin "getset_descriptor.__get__"))) (htk:PySem.W.takesIn K (.builtin "object.__class__")=some true)
   (hm:PySem.W.mroIn K C (.type "object")=some true):mf K H (.ref a) (.ref C)
end
/-! ### room -/
structure cm(k:Nat) (A:M7):Prop where
 hd:A.handled=none
 dp:A.depth+3*k+5<recursionLimit
 un:A.units+16*k+200<Z6
theorem cm.mono{j k:Nat}{A:M7}(r:cm k A) (h:j<=k):cm j A:=⟨r.hd,by have:=r.dp;omega,by have:=r.un;omega⟩
theorem cm.deeper{k:Nat}{A:M7}(r:cm (k+1) A) (env:Env):cm k (A.deeper env) :=
 ⟨r.hd,by have:=r.dp;show A.depth+1+3*k+5<_;omega,by have:=r.un;show A.units+3+16*k+200<_;omega⟩
theorem uF{A:M7}{C:J9}{us:List s0}{kw:List (Str×s0)}:(A.under (.builtin "type.__call__" ⟨.ref C::us,kw⟩)).depth=A.depth+1:=by
 first|rfl|simp[M7.under,Code.weight,Code.isCreation,Code.isGuard,Code.isCaller,Code.frames,Code.isFrame,guardIds]
theorem uB{A:M7}{C:J9}{us:List s0}{kw:List (Str×s0)}:(A.under (.builtin "type.__call__" ⟨.ref C::us,kw⟩)).units=A.units+1:=by
 first|rfl|simp[M7.under,Code.cUnits,Code.frames,Code.isFrame]
theorem cm.make{k:Nat}{A:M7}(r:cm (k+1) A) (C:J9) (us:List s0) (kw:List (Str×s0)):cm k (A.under (.builtin "type.__call__" ⟨.ref C::us,kw⟩)) :=
 ⟨r.hd,by have:=r.dp;rw[uF];omega,by have:=r.un;rw[uB];omega⟩
theorem cm.depth{k:Nat}{A:M7}(r:cm k A):A.depth<recursionLimit:=by have:=r.dp;omega
theorem cm.units{k:Nat}{A:M7}(r:cm k A):A.units+64<Z6:=by have:=r.un;omega
/-! ### argument lists and displays -/
def HH:TA:=fun _ H Q=>Q [] H
def F9(ta:TE) (tr:TA):TA:=fun σ H Q=>ta σ H fun x H1=>tr σ H1 fun xs H2=>Q (x::xs) H2
section
variable{X:Cx}{e:K3}{es:List K3}{te:TE}{t:TA}{pos:Pos}
theorem nN:PA X [] HH:=fun _ _ _ _ H Q I h=>Calls.spliced_nil ⟨[],H,I,.nil,h⟩
theorem ir(ha:PE X e te) (hr:PA X es t) (hs:J5 (e::es) X.env=(false,T4 e X.env)::J5 es X.env:=by rfl):PA X (e::es) (F9 te t):=by
 intro pos aa s σ H Q I h
 rw[hs]
 show K4 _ _ (spliced ((false,T4 e X.env)::T5 pos (J5 es X.env))) _ _ s
 refine Calls.spliced_cons (thn (ha aa s σ H _ I h) fun u s1 hup=>hup.el fun x H1 I1 r1 q1=>?_)
 exact thn (hr pos aa s1 σ H1 _ I1 q1) fun us s2 hup=>hup.el fun xs H2 I2 r2 q2=>⟨x::xs,H2,I2,.cons r1 r2,q2⟩
def Gk(t:TA):TE:=fun σ H Q=>t σ H fun xs H1=>xs.length<=J1/\∀p,H1 p=none->Q (.ref p) (upd H1 p (.tup xs))
def Hv(t:TA):TE:=fun σ H Q=>t σ H fun xs H1=>xs.length<=J1/\∀p,H1 p=none->Q (.ref p) (upd H1 p (.lst xs))
theorem nL{x1}(h:PA X es t):PE X (.Tuple es x1 pos) (Gk t):=by
 intro aa s σ H Q I hq
 refine wpAny_Tuple_spliced (thn (h pos aa s σ H _ I hq) fun us s1 ⟨xs,H1,I1,r,z,q⟩=>⟨by rw[<-r.length];exact z,?_⟩)
 have hf:H1 s1.heap.objs.size=none:=I1.hok.fresh (J6 _)
 refine⟨.ref s1.heap.objs.size,upd H1 s1.heap.objs.size (.tup xs),I1.laid (t':=s1.toks) (fun b u e=>J0 _ e) (J6 _) ?_,rfl,q _ hf⟩
 exact⟨z,us,r,⟨_,J7 _ rfl,rfl,⟨_,rfl⟩,rfl⟩⟩
theorem yD(h:PA X es t):PE X (.List es pos) (Hv t):=by
 intro aa s σ H Q I hq
 refine wpAny_List_spliced (thn (h pos aa s σ H _ I hq) fun us s1 ⟨xs,H1,I1,r,z,q⟩=>⟨by rw[<-r.length];exact z,?_⟩)
 have hf:H1 s1.heap.objs.size=none:=I1.hok.fresh (J6 _)
 refine⟨.ref s1.heap.objs.size,upd H1 s1.heap.objs.size (.lst xs),I1.laid (t':=s1.toks) (fun b u e=>J0 _ e) (J6 _) ?_,rfl,q _ hf⟩
 exact⟨z,us,0,r,J7 _ rfl⟩
end
/-! ### what a def promises -/
abbrev Sp:=List V->Hp->VK->XK->Prop
abbrev CXT:=List Env->Hp->I0->XK->s0->I0->Prop
structure ur(P:L1) (w:O4) (K:o0) (mg:Str->Option s0) (base:L7) (A:M7) (outer:List Env) (s:I0) (H:Hp):Prop where
 frames:A.frames=some outer
 mod:Mod K mg base
 bs:∀b o,base.get? b=some o->s.heap.get? b=some o/\H b=none
 bsz:base.objs.size<=s.heap.objs.size
 funs:s.heap.FunFrames base outer
 frf:∀b∈frs outer,H b=none
 hok:HOk P w H s.heap
 bare:Z4 s.gens
def CE(outer:List Env) (P:L1) (w:O4) (H:Hp) (s:I0) (Q:VK) (u:s0) (s':I0):Prop :=
 ∃v H',s'.os=s.os/\Z4 s'.gens/\Un (frs outer) [] H H' s.heap s'.heap/\HOk P w H' s'.heap/\aD v u/\Q v H'
def CR(CX:CXT) (outer:List Env) (P:L1) (w:O4) (H:Hp) (s:I0) (Q:VK) (E:XK) (r:Result) (s':I0):Prop :=
 match r with
 |.ok (.ret u)=>CE outer P w H s Q u s'
 |.ok _=>False
 |.error e=>CX outer H s E e s'
structure aX(P:L1) (w:O4) (K:o0) (mg:Str->Option s0) (base:L7) (CX:CXT) (k:Nat) (f:J9) (fd:R9) (ps:List Str) (sp:Sp):Prop where
 len:∀vs H Q E,sp vs H Q E->vs.length=ps.length
 run:∀(A:M7) (outer:List Env) (s:I0) (H:Hp) (args:Args) (us:List s0) (vs:List V) (Q:VK) (E:XK),cm k A->ur P w K mg base A outer s H->ad0 s fd args (ps.zip us)->az vs us->sp vs H Q E ->
  W4 (K9 P w) A (.call (.ref f) args) (CR CX outer P w H s Q E) s
theorem ur.make{P:L1}{w:O4}{K:o0}{mg:Str->Option s0}{base:L7}{A:M7}{outer:List Env}{s:I0}{H:Hp}(e:ur P w K mg base A outer s H) (C:J9) (us:List s0) (kw:List (Str×s0)) :
  ur P w K mg base (A.under (.builtin "type.__call__" ⟨.ref C::us,kw⟩)) outer s H:=⟨by first|exact e.frames|(simpa[M7.under,Code.envs,Code.isFrame,pushEnvs]using e.frames),e.mod,e.bs,e.bsz,e.funs,e.frf,e.hok,e.bare⟩
section
variable{X:Cx}{aa:List (J9×Obj)}{σ:St}{H:Hp}{s s':I0}
theorem Inv.env0(I:Inv X aa σ H s):ur X.prog X.w X.K X.mg X.base X.A X.stack s H :=
 ⟨I.ok.frames,I.ok.mod,I.bs,M9 I.ok.bsz I.sz,I.stack,I.stkFree,I.hok,I.bare⟩
theorem Inv.after{Q:VK}{u:s0}(I:Inv X aa σ H s) (h:CE X.stack X.prog X.w H s Q u s'):EP X aa σ Q u s':=by
 obtain⟨v,H',os,bare,un,hok,r,q⟩:=h
 obtain⟨hh,g,d,t,os'⟩:=s'
 obtain rfl:os'=s.os:=os
 exact⟨v,H',I.call (h':=hh) (g':=g) (d':=d) (t':=t) (ch:=[]) un hok bare (fun b z=>absurd z (by simp)),r,q⟩
end
/-! ### calls -/
def Hc(sp:Sp) (dvs:List V) (E:XK) (t:TA):TE:=fun σ H Q=>t σ H fun vs H1=>sp (vs++dvs) H1 Q E
def GI(C:J9) (sp:Sp) (dvs:List V) (E:XK) (t:TA):TE:=fun σ H Q=>t σ H fun vs H1=>∀x dx,H1 x=none->H1 dx=none->dx≠x ->
 sp (.ref x::(vs++dvs)) (upd (upd H1 dx (.own x)) x (.ins C dx [])) (fun v H2=>v=.non/\Q (.ref x) H2) E
def cY(K:o0) (fd:R9) (ps:List Str) (ds:List s0):Prop :=
 ∀(s:I0) (us:List s0),K.In s.heap->(us++ds).length=ps.length->ad0 s fd ⟨us,[]⟩ (ps.zip (us++ds))
theorem cY.all{K:o0}{fd:R9}{ps:List Str}(h:∀us:List s0,us.length=ps.length->bindArgs fd ⟨us,[]⟩=X5 (ps.zip us)):cY K fd ps []:=fun s us _ hl=>by
 rw[V6]at hl ⊢
 exact .of_eq (h us hl)
def mE(CX:CXT) (X:Cx) (E:XK):Prop:=∀(aa:List (J9×Obj)) (σ:St) (H:Hp) (s:I0) (e:s0) (s':I0),Inv X aa σ H s->CX X.stack H s E e s'->X.xe e s'
section
variable{X:Cx}{CX:CXT}{k:Nat}{f C:J9}{fd:R9}{ps:List Str}{sp:Sp}{dvs:List V}{ds:List s0}{E:XK}{x m:Str}{p pos bC:Pos}{e o:K3}{es:List K3}{ta:TE}{t:TA}
theorem EJ{aa:List (J9×Obj)}{σ:St}{H:Hp}{s:I0}{Q:VK}{us:List s0}{vs:List V}(F:aX X.prog X.w X.K X.mg X.base CX k f fd ps sp) (hr:cm k X.A) (hb:cY X.K fd ps ds) (hd:az dvs ds) (hx:mE CX X E)
  (I:Inv X aa σ H s) (r:az vs us) (h:sp (vs++dvs) H Q E):K4 (K9 X.prog X.w) X.A (call (.ref f) us) (EP X aa σ Q) X.xe s:=by
 have r2:az (vs++dvs) (us++ds):=r.append hd
 have hl:(us++ds).length=ps.length:=by rw[<-r2.length];exact F.len _ _ _ _ h
 refine wpAny_call (X0 (F.run X.A X.stack s H ⟨us,[]⟩ (us++ds) (vs++dvs) Q E hr I.env0 (hb s us I.kIn hl) r2 h) fun r s' hq=>?_)
 cases r with
 |error e=>exact hx aa σ H s e s' I hq
 |ok fl =>
  cases fl with
  |ret u=>exact I.after hq
  |next=>exact P2 hq
  |brk=>exact P2 hq
  |cont=>exact P2 hq
theorem vQ(F:aX X.prog X.w X.K X.mg X.base CX k f fd ps sp) (hr:cm k X.A) (hg:Gl X x) (hm:X.mg x=some (.ref f)) (hk:T9 X.K (.ref f)=true) (hb:cY X.K fd ps ds) (hd:az dvs ds) (hx:mE CX X E)
  (ha:PA X (e::es) t) (hdb:(x==("__debug__":Str))=false:=by decide) (he:J5 (e::es) X.env=(false,T4 e X.env)::J5 es X.env:=by rfl) (hpl:(T5 pos (J5 es X.env)).any (·.1)=false:=by rfl) :
  PE X (.Call (.Name x p) (e::es) [] pos) (Hc sp dvs E t):=by
 intro aa s σ H Q I h
 refine V7 (qh I hg hm ?_ hdb)
 refine PySem.W.callWith_K (h₀:=X.base) I.ok.mod.kin hk (thn (ha pos aa s σ H _ I h) fun us s1 hup=>hup.el fun vs H1 I1 r q=>⟨I1.kIn,?_⟩) he hpl
 exact EJ F hr hb hd hx I1 r q
structure Mk(K:o0) (C f:J9):Prop where
 makes:PySem.W.makesIn K C=true
 init:R7 K (.ref C) "__init__"=some (some (.ref f))
 fn:PySem.W.isFn K (.ref f)=true
 kp:T9 K (.ref C)=true
theorem zd{aa:List (J9×Obj)}{σ:St}{H:Hp}{s:I0}{Q:VK}{us:List s0}{vs:List V}(M:Mk X.K C f) (F:aX X.prog X.w X.K X.mg X.base CX k f fd ps sp) (hr:cm (k+1) X.A) (hb:cY X.K fd ps ds) (hd:az dvs ds)
  (hx:mE CX X E) (I:Inv X aa σ H s) (r:az vs us)
  (h:∀x dx,H x=none->H dx=none->dx≠x->sp (.ref x::(vs++dvs)) (upd (upd H dx (.own x)) x (.ins C dx [])) (fun v H2=>v=.non/\Q (.ref x) H2) E) :
  K4 (K9 X.prog X.w) X.A (call (.ref C) us) (EP X aa σ Q) X.xe s:=by
 have hq:=h (s.heap.objs.size+1) s.heap.objs.size (I.hok.fresh (Nat.le_succ _)) (I.hok.fresh (J6 _)) (K2 (T6 _))
 have I2:=Inv.made (C:=C) I
 have r2:az (V.ref (s.heap.objs.size+1)::(vs++dvs)) (N3 (s.heap.objs.size+1)::(us++ds)):=.cons rfl (r.append hd)
 have hl:(N3 (s.heap.objs.size+1)::us++ds).length=ps.length:=by
  have e:=r2.length
  rw[F.len _ _ _ _ hq]at e
  exact e.symm
 refine wpAny_call (yR (f:=f) I.kIn M.makes M.init (beq_iff_eq.mp M.fn) (X0 (F.run _ X.stack _ _ ⟨N3 (s.heap.objs.size+1)::us,[]⟩ (N3 (s.heap.objs.size+1)::(us++ds)) _ _ E (hr.make C us [])
  (I2.env0.make C us []) (hb _ (N3 (s.heap.objs.size+1)::us) I2.kIn hl) r2 hq) fun r s' hq'=>?_))
 cases r with
 |error e=>exact hx aa σ _ _ e s' I2 hq'
 |ok fl =>
  cases fl with
  |ret u =>
   obtain⟨v,H',I3,rv,ev,q3⟩:=I2.after hq'
   subst ev
   exact⟨rv,⟨V.ref (s.heap.objs.size+1),H',I3,rfl,q3⟩⟩
  |next=>exact P2 hq'
  |brk=>exact P2 hq'
  |cont=>exact P2 hq'
theorem AB(M:Mk X.K C f) (F:aX X.prog X.w X.K X.mg X.base CX k f fd ps sp) (hr:cm (k+1) X.A) (hg:Gl X x) (hm:X.mg x=some (.ref C)) (hb:cY X.K fd ps ds) (hd:az dvs ds) (hx:mE CX X E)
  (ha:PA X (e::es) t) (hdb:(x==("__debug__":Str))=false:=by decide) (he:J5 (e::es) X.env=(false,T4 e X.env)::J5 es X.env:=by rfl) (hpl:(T5 pos (J5 es X.env)).any (·.1)=false:=by rfl) :
  PE X (.Call (.Name x p) (e::es) [] pos) (GI C sp dvs E t):=by
 intro aa s σ H Q I h
 refine V7 (qh I hg hm ?_ hdb)
 refine PySem.W.callWith_K (h₀:=X.base) I.ok.mod.kin M.kp (thn (ha pos aa s σ H _ I h) fun us s1 hup=>hup.el fun vs H1 I1 r q=>⟨I1.kIn,?_⟩) he hpl
 exact zd M F hr hb hd hx I1 r q
end
/-! ### keywords -/
section
variable{X:Cx}{CX:CXT}{k:Nat}{f C:J9}{fd:R9}{ps ks:List Str}{sp:Sp}{E:XK}{x m:Str}{p pos bC kpos:Pos}{e o:K3}{es:List K3}{kws:List Y9}{te ta:TE}{t tk:TA}{nm:Option Str}
structure HI(K:o0) (fd:R9) (ps ks:List Str) (g:List s0->List s0->List s0) (gV:List V->List V->List V):Prop where
 to:∀(s:I0) (us ws:List s0),K.In s.heap->(g us ws).length=ps.length->ad0 s fd ⟨us,ks.zip ws⟩ (ps.zip (g us ws))
 rel:∀{vs:List V} {us:List s0} {zs:List V} {ws:List s0},az vs us->az zs ws->az (gV vs zs) (g us ws)
variable{g:List s0->List s0->List s0}{gV:List V->List V->List V}
end
/-! ### a def's body keeps its promise -/
structure ax(N P:List Str) (sc:V3):Prop where
 kind:sc.kind=.function
 co:sc.isCoroutine=false
 gen:sc.isGenerator=false
 nd:N.Nodup
 pre:N.take P.length=P
 par:∀x∈P,sc.names.lookup x=some .local∨sc.names.lookup x=some .cell
 nofree:∀y∈sc.names,y.2≠.free
theorem pH{Z1:Str->Option N5}{x:Str}:∀{binds:List (Str×s0)}{m:Str->Option s0},(∀v,(x,v)∉binds)->bindL Z1 binds m x=m x
 |[],_,_=>rfl
 |(n,v)::r,m,h=>by
  unfold bindL
  rw[pH fun w hw=>h w (L4 _ hw)]
  split
  ·have:x≠n:=by rintro rfl;exact h v O1
   simp[this]
  ·rfl
theorem pV{Z1:Str->Option N5}{x:Str}:∀{binds:List (Str×s0)}{m:Str->Option s0},(∀v,(x,v)∉binds)->bindC Z1 binds m x=m x
 |[],_,_=>rfl
 |(n,v)::r,m,h=>by
  unfold bindC
  rw[pV fun w hw=>h w (L4 _ hw)]
  split
  ·rfl
  ·have:x≠n:=by rintro rfl;exact h v O1
   simp[this]
theorem pf{Z1:Str->Option N5}{x:Str}{v:s0}:∀{P:List Str}{vs:List s0}{i:Nat}{m:Str->Option s0},P.Nodup->P[i]?=some x->vs[i]?=some v->Z1 x=some .local ->
  bindL Z1 (P.zip vs) m x=some v
 |[],_,_,_,_,h,_,_=>by simp at h
 |_::_,[],_,_,_,_,h,_=>by simp at h
 |p::P,w::vs,0,m,nd,h1,h2,hk=>by
  simp at h1 h2;subst h1;subst h2
  show bindL Z1 ((p,w)::P.zip vs) m p=_
  unfold bindL
  rw[pH fun v hv=>(V8.mp nd).1 (List.of_mem_zip hv).1,if_pos hk]
  simp
 |p::P,w::vs,i+1,m,nd,h1,h2,hk=>by
  show bindL Z1 ((p,w)::P.zip vs) m x=_
  unfold bindL
  exact pf (i:=i) (V8.mp nd).2 (by simpa using h1) (by simpa using h2) hk
theorem oU{Z1:Str->Option N5}{x:Str}{v:s0}:∀{P:List Str}{vs:List s0}{i:Nat}{m:Str->Option s0},P.Nodup->P[i]?=some x->vs[i]?=some v->Z1 x≠some .local ->
  bindC Z1 (P.zip vs) m x=some v
 |[],_,_,_,_,h,_,_=>by simp at h
 |_::_,[],_,_,_,_,h,_=>by simp at h
 |p::P,w::vs,0,m,nd,h1,h2,hk=>by
  simp at h1 h2;subst h1;subst h2
  show bindC Z1 ((p,w)::P.zip vs) m p=_
  unfold bindC
  rw[pV fun v hv=>(V8.mp nd).1 (List.of_mem_zip hv).1,if_neg hk]
  simp
 |p::P,w::vs,i+1,m,nd,h1,h2,hk=>by
  show bindC Z1 ((p,w)::P.zip vs) m x=_
  unfold bindC
  exact oU (i:=i) (V8.mp nd).2 (by simpa using h1) (by simpa using h2) hk
def cI(N:List Str) (vs:List V):St:=vs.map some++K0 (N.length-vs.length) none
def sT(CX:CXT) (P:L1) (w:O4) (K:o0) (mg:Str->Option s0) (base:L7) (N:List Str) (qual:Str) (scope:V3) (f:J9) (cd:s0) (A:M7) (outer:List Env) (s:I0) (H:Hp) (E:XK):Cx where
 prog:=P
 w:=w
 K:=K
 mg:=mg
 base:=base
 A:=A.deeper (ab0 qual scope s.heap.objs.size f cd)
 N:=N
 s₀:=s
 H₀:=H
 env:=ab0 qual scope s.heap.objs.size f cd
 outer:=outer
 stack:=ab0 qual scope s.heap.objs.size f cd::outer
 ex:=[]
 calm:=true
 fn:=fun _=>true
 pn:=[]
 xe:=fun e s'=>K4 (K9 P w) (A.deeper (ab0 qual scope s.heap.objs.size f cd)) (leaving (ab0 qual scope s.heap.objs.size f cd) e) (fun _ s''=>CX outer H s E e s'') (fun e' s''=>CX outer H s E e' s'') s'
theorem tK{sc:V3}{n:Nat}{x:Str}(h:sc.names.lookup x=some .cell):∃c,(ad1 n sc.names []).lookup x=some c:=by
 have q:=PySem.W.cellsFrom_some sc.names n [] (.inl h)
 exact S1.mp q
theorem xq{CX:CXT}{P:L1}{w:O4}{K:o0}{mg:Str->Option s0}{base:L7}{N ps:List Str}{qual:Str}{scope:V3}{f:J9}{cd:s0}{A:M7}{outer:List Env}{s s1:I0}{H:Hp}{E:XK}{us:List s0}{vs:List V}
  (S:ax N ps scope) (hd:A.handled=none) (e0:ur P w K mg base A outer s H) (hl:vs.length=ps.length) (r:az vs us)
  (x:InCallC s s.heap.objs.size (bindL (ab0 qual scope s.heap.objs.size f cd).kindOf (ps.zip us) fun _=>none) (ad1 (s.heap.objs.size+1) scope.names []) (bindC (ab0 qual scope s.heap.objs.size f cd).kindOf (ps.zip us) fun _=>none) s1) :
  Inv (sT CX P w K mg base N qual scope f cd A outer s H E) [] (cI N vs) H s1:=by
 have hpl:ps.length<=N.length:=by have:=congrArg List.length S.pre;rw[List.length_take]at this;omega
 obtain⟨h1,tk,rfl,hk⟩:=x.done
 have noA:∀b:J9,b∉(sT CX P w K mg base N qual scope f cd A outer s H E).ex:=fun b z=>absurd (show b∈([]:List J9)from z) (by simp)
 refine⟨⟨e0.mod,S.kind,rfl,rfl,J6 _,fun y z c h1 h2=>?_,fun y hy=>?_,fun y c _ h=>?_,fun _=>hd,M7.frames_deeper e0.frames,.inr ⟨rfl,rfl⟩,fun b z=>absurd z (noA b),e0.bs,e0.bsz,fun b _ _=>noA b,fun b z=>absurd z (noA b),e0.funs,e0.frf⟩,
  rfl,e0.bare,Un.kept hk,⟨_,x.toInCall.ns,fun i y v h1 h2 h3=>?_⟩,fun y c h=>⟨_,x.cell y c h⟩,e0.hok.fresh (J6 _),fun y c h=>?_,fun p hp=>absurd (show p∈([]:List (J9×Obj))from hp) (by simp),e0.hok.kept hk,?_⟩
 ·exact name_of_addr x.apart (N7 h1) (N7 h2)
 ·have hy:scope.names.lookup y=some .cell∨scope.names.lookup y=some .free:=hy
  rcases hy with hy|hy
  ·exact tK hy
  ·exact absurd rfl (S.nofree _ (N7 hy))
 ·exact Nat.le_of_lt (x.above y c (N7 h))
 ·have hi:i<vs.length:=by
   unfold cI at h2
   by_cases hi:i<vs.length
   ·exact hi
   ·rw[R3 (by simpa using hi)]at h2
    rw[T0]at h2
    split at h2<;>cases h2
  have ha:vs[i]?=some v:=by
   unfold cI at h2
   rw[N1 (by simpa using hi),P4]at h2
   cases e:vs[i]? with
   |none=>rw[e]at h2;cases h2
   |some a=>rw[e]at h2;cases h2;rfl
  obtain⟨u,hu,rv⟩:=r.get ha
  have hp:ps[i]?=some y:=by
   rw[<-S.pre,List.getElem?_take_of_lt (by omega)];exact h1
  have ndP:ps.Nodup:=by rw[<-S.pre];exact S.nd.sublist (List.take_sublist _ _)
  refine⟨u,rv,?_⟩
  rcases S.par y (List.mem_of_getElem? hp)with k|k
  ·exact .inl ⟨k,pf ndP hp hu k⟩
  ·obtain⟨c,e⟩:=tK (n:=s.heap.objs.size+1) k
   refine .inr ⟨.inl k,c,e,?_⟩
   have q:=x.cell y c e
   rw[oU ndP hp hu (by show scope.names.lookup y≠_;rw[k];decide)]at q
   exact q
 ·exact e0.hok.fresh (Nat.le_of_lt (x.above y c (N7 h)))
 ·unfold cI
  show _=N.length
  rw[O2,U3,List.length_replicate]
  omega
theorem FQ{CX:CXT}{P:L1}{w:O4}{K:o0}{mg:Str->Option s0}{base:L7}{k:Nat}{f:J9}{name qual:Str}{params:Arguments}{body:List aa0}{scope:V3}{dV kV doc pm cdv ct oc:s0}{an od:Option J9}
  {osl:Array (Option s0)} {N ps:List Str} {sp:Sp} (lk:K.lookup f=some ⟨oc,od,.func (X1 name qual params body scope dV kV doc pm an cdv ct),osl⟩) (hcd:PySem.W.codeIn K cdv qual=true) (S:ax N ps scope)
  (len:∀vs H Q E,sp vs H Q E->vs.length=ps.length)
  (hbody:∀ (A:M7) (outer:List Env) (s:I0) (H:Hp) (vs:List V) (Q:VK) (E:XK),cm k (A.deeper (ab0 qual scope s.heap.objs.size f cdv)) → sp vs H Q E →
   ∃t,PSs (sT CX P w K mg base N qual scope f cdv A outer s H E) body t/\t { nx:=fun _ H'=>Q .non H',rt:=Q } (cI N vs) H) :
  aX P w K mg base CX (k+1) f (X1 name qual params body scope dV kV doc pm an cdv ct) ps sp:=by
 refine⟨len,fun A outer s H args us vs Q E hr e0 hb r hsp=>?_⟩
 have hl:=len _ _ _ _ hsp
 have KX:K.In s.heap:=e0.mod.kin.keeps fun b o e=>(e0.bs b o e).1
 have lim:s.heap.NoLimit:=e0.mod.nolimit.keeps fun b o e=>(e0.bs b o e).1
 have hkind:∀y∈ps.zip us,scope.names.lookup y.1=some .local∨(scope.names.lookup y.1=some .cell/\((ad1 (s.heap.objs.size+1) scope.names []).lookup y.1).isSome=true):=fun⟨n,v⟩ hy=>by
  rcases S.par n (List.of_mem_zip hy).1 with q|q
  ·exact .inl q
  ·exact .inr ⟨q,PySem.W.cellsFrom_some _ _ _ (.inl q)⟩
 refine codeAny_call_function hr.depth (KX _ _ lk) rfl S.co S.gen rfl (PySem.W.codeRec_of KX hcd) (hb _ _ _ _ ?_)
 refine wpAny_newFunctionEnv_cells S.kind hkind fun env he s1 x=>?_
 subst he
 refine⟨lim.keeps x.toInCall.keep,codeAny_func ?_⟩
 obtain⟨t,ht,hq⟩:=hbody A outer s H vs Q E (hr.deeper _) hsp
 have I:Inv (sT CX P w K mg base N qual scope f cdv A outer s H E) [] (cI N vs) H s1:=xq S hr.hd e0 hl r x
 refine N4 (ht [] s1 (cI N vs) H _ I hq) (fun fl s' hs=>?_) fun e s' hs=>hs
 have fin:∀{σ':St} {H':Hp} {v:V} {u:s0},Inv (sT CX P w K mg base N qual scope f cdv A outer s H E) [] σ' H' s'->aD v u->Q v H'->CE outer P w H s Q u s' :=
  fun {σ' H' v u} J rv q=>⟨v,H',J.os,J.bare,J.base,J.hok,rv,q⟩
 cases fl with
 |ret u =>
  obtain⟨v,σ',H',J,rv,q⟩:=hs
  exact fin J rv q
 |next =>
  obtain⟨σ',H',J,q⟩:=hs
  exact fin (v:=V.non) (u:=W3) J rfl q
 |brk =>
  obtain⟨_,_,_,q⟩:=hs
  exact P2 q
 |cont =>
  obtain⟨_,_,_,q⟩:=hs
  exact P2 q
section
variable{X:Cx}{x:Str}{p pos:Pos}{e:K3}{es:List K3}{t:TA}{id T:String}{r:List V->Hp->VK->Prop}
def tCB(r:List V->Hp->VK->Prop) (t:TA):TE:=fun σ H Q=>t σ H fun vs H1=>r vs H1 Q
theorem sR(hc:dN X (.builtin id) r) (hg:Gl X x) (hm:X.mg x=none) (hv:P9 x=some (.builtin id)) (ha:PA X (e::es) t) (hn:x≠"__name__":=by decide) (hdb:(x==("__debug__":Str))=false:=by decide)
  (he:J5 (e::es) X.env=(false,T4 e X.env)::J5 es X.env:=by rfl) (hpl:(T5 pos (J5 es X.env)).any (·.1)=false:=by rfl):PE X (.Call (.Name x p) (e::es) [] pos) (tCB r t):=by
 intro aa s σ H Q I h
 refine V7 (fZ I hg hm hv ?_ hn hdb)
 exact PyProof.Rows.callWith_builtin1 (thn (ha pos aa s σ H _ I h) fun us s1 hup=>hup.el fun vs H1 I1 r1 q1=>hc aa s1 σ H1 vs us Q I1 r1 q1) he hpl
theorem wB(hc:dN X (.type T) r) (hg:Gl X x) (hm:X.mg x=none) (hv:P9 x=some (.type T)) (ha:PA X (e::es) t) (hn:x≠"__name__":=by decide) (hdb:(x==("__debug__":Str))=false:=by decide)
  (he:J5 (e::es) X.env=(false,T4 e X.env)::J5 es X.env:=by rfl) (hpl:(T5 pos (J5 es X.env)).any (·.1)=false:=by rfl):PE X (.Call (.Name x p) (e::es) [] pos) (tCB r t):=by
 intro aa s σ H Q I h
 refine V7 (fZ I hg hm hv ?_ hn hdb)
 exact R0 (thn (ha pos aa s σ H _ I h) fun us s1 hup=>hup.el fun vs H1 I1 r1 q1=>hc aa s1 σ H1 vs us Q I1 r1 q1) he hpl
end
end L2
namespace HT
open PySem PyProof.Rows
section
open PySem.SeqAt
open PySem.AutoSeq1 (wpAny_loadPart')
open PySem.MeetsSeq PySem.MeetsSeq2 PySem.MeetsSeq3
end
section
variable{prog:L1}{w:O4}{A:M7}{E:s0->I0->Prop}{s:I0}
theorem cat_tup{t b:J9}{vs ws:List s0}{Q:s0->I0->Prop}(ht:ac7 s.heap t vs.toArray) (hb:ac7 s.heap b ws.toArray) (hv:vs≠[])
  (h1:ws=[]->Q (.ref t) s) (h2:ws≠[]->Q (.ref s.heap.objs.size) { s with heap:=s.heap.push { cls:=.type "tuple",data:=.seq (vs++ws).toArray } })
  (hsz:vs.length+ws.length<=J1):K4 (K9 prog w) A (P1 .Add (.ref t) (.ref b)) Q E s:=by
 obtain⟨⟨cls,dd,data,sl⟩,ho,hc,n,hd⟩:=id ht
 obtain⟨⟨cls2,dd2,data2,sl2⟩,ho2,hc2,n2,hd2⟩:=id hb
 simp only at hc hd hc2 hd2
 subst hc hd hc2 hd2
 have e:vs.toArray++ws.toArray=(vs++ws).toArray:=by simp
 by_cases hw:ws=[]
 ·exact concat_meets ⟨_,ho,rfl⟩ ⟨_,ho2,rfl⟩ noFill_tuple_add seq_tuple_add PySem.F.slot_tuple_add PySem.F.entry_tuple_add (PySem.F.args_tuple_add_2 _ _)
   (tuple_addW1 t b vs.toArray ws.toArray n n2 dd dd2 sl sl2 (by simpa using hv) (by simp[hw])) ⟨ho,ho2,h1 hw⟩
 ·refine concat_meets ⟨_,ho,rfl⟩ ⟨_,ho2,rfl⟩ noFill_tuple_add seq_tuple_add PySem.F.slot_tuple_add PySem.F.entry_tuple_add (PySem.F.args_tuple_add_2 _ _)
   (tuple_addW2 t b vs.toArray ws.toArray n n2 dd dd2 sl sl2 (by simpa using hv) (by simpa using hw) (by rw[J3,J3];exact hsz)) ⟨ho,ho2,?_⟩
  rw[e]
  exact h2 hw
/-! ### t[a:b],not the whole -/
def sIx(n d:Nat):Option Int->Nat
 |none=>d
 |some v=>if v<0 then(v+(n:Int)).toNat else min v.toNat n
theorem sIx_none(n d:Nat):sIx n d none=d:=rfl
theorem sIx_nat(n d k:Nat):sIx n d (some (k:Int))=min k n:=by
 show(if(k:Int)<0 then((k:Int)+(n:Int)).toNat else min (k:Int).toNat n)=min k n
 rw[if_neg (by omega),Int.toNat_natCast]
theorem EK(n d:Nat) (hd:d<=n) (o:Option Int):sIx n d o<=n:=by
 cases o with
 |none=>exact hd
 |some v =>
  show(if v<0 then(v+(n:Int)).toNat else min v.toNat n)<=n
  by_cases hv:v<0
  ·rw[if_pos hv];omega
  ·rw[if_neg hv];exact Nat.min_le_right _ _
theorem v3(v:Int) (n d:Nat):(if v<0 then max (v+(n:Int)) 0 else min v (n:Int))=((sIx n d (some v):Nat):Int):=by
 show(if v<0 then max (v+(n:Int)) 0 else min v (n:Int))=(((if v<0 then(v+(n:Int)).toNat else min v.toNat n):Nat):Int)
 by_cases hv:v<0
 ·simp only[if_pos hv];omega
 ·simp only[if_neg hv];omega
theorem uR(lo hi:Option Int) (n:Nat):K5.Slice.sliceAdjust lo hi 1 (n:Int)=(((sIx n 0 lo:Nat):Int),((sIx n n hi:Nat):Int)):=by
 have h1:¬ ((1:Int)<0):=by omega
 unfold K5.Slice.sliceAdjust
 simp only[h1,if_false]
 refine Prod.ext ?_ ?_
 ·cases lo with
  |none=>rfl
  |some v=>exact v3 v n 0
 ·cases hi with
  |none=>rfl
  |some v=>exact v3 v n n
theorem t5(i j:Nat):N2 (i:Int) (j:Int) 1=j-i:=by
 unfold N2
 have h1:(1:Int) > 0:=by omega
 simp only[h1,if_true,Int.ediv_one]
 split<;>omega
theorem m6{v:s0}{o:Option Int}{Q:Option Int->I0->Prop}(p:ab7 v o) (h:Q o s):K4 (K9 prog w) A (K5.Slice.slicePartIndex v) Q E s:=by
 cases p with
 |none=>exact Z0 h
 |int i t=>exact slicePart_int h
theorem fP{sl:J9}{vl vu:s0}{lo hi:Option Int}{n:Nat}{Q:Int×Int×Nat->I0->Prop}(hs:s.heap.IsSliceOf sl vl vu .none) (pl:ab7 vl lo) (pu:ab7 vu hi)
  (h:Q (((sIx n 0 lo:Nat):Int),1,sIx n n hi-sIx n 0 lo) s):K4 (K9 prog w) A (R4 (.ref sl) (X5 (n:Int))) Q E s:=by
 obtain⟨os,hos,hcs,hds⟩:=id hs
 unfold R4 K5.Slice.sliceFields
 refine u8 (u8 (T1 hos hds (x:=vl) rfl (u8 (T1 hos hds (x:=vu) rfl (u8 (T1 hos hds (x:=.none) rfl (J4 ?_)))))))
 refine u8 (Z0 ?_)
 show K4 _ _ (if((1:Int)==0)=true then _ else _) _ _ s
 rw[if_neg (by decide)]
 refine u8 (m6 pl (u8 (m6 pu (u8 (J4 ?_)))))
 show K4 _ _ (match K5.Slice.sliceAdjust lo hi 1 (n:Int)with|(lo,hi)=>X5 (lo,(1:Int),N2 lo hi 1)) _ _ s
 rw[uR lo hi n]
 show K4 _ _ (X5 (((sIx n 0 lo:Nat):Int),(1:Int),N2 ((sIx n 0 lo:Nat):Int) ((sIx n n hi:Nat):Int) 1)) _ _ s
 rw[t5]
 exact J4 h
theorem zx(xs:Array s0) (i k:Nat):((Q0 k).filterMap fun(m:Nat)=>xs[((i:Int)+(m:Int)*1).toNat]?).toArray=((xs.toList.drop i).take k).toArray:=by
 have e:(fun(m:Nat)=>xs[((i:Int)+(m:Int)*1).toNat]?)=fun m=>xs[i+m]?:=by
  funext m
  have:((i:Int)+(m:Int)*1).toNat=i+m:=by omega
  rw[this]
 rw[e]
 have:=pick_run xs i k
 rw[List.filterMap_map]at this
 have e2:((fun x=>xs[x]?)∘fun x=>i+x)=fun m=>xs[i+m]?:=rfl
 rw[e2]at this
 rw[this]
theorem getItem_tuple_cut{t sl:J9}{items:Array s0}{vl vu:s0}{lo hi:Option Int}{Q:s0->I0->Prop}(ht:ac7 s.heap t items) (hs:s.heap.IsSliceOf sl vl vu .none) (pl:ab7 vl lo) (pu:ab7 vu hi)
  (hw:¬ (sIx items.size 0 lo=0/\sIx items.size items.size hi=items.size))
  (h:Q (.ref s.heap.objs.size) { s with heap:=s.heap.push { cls:=.type "tuple",data:=.seq ((items.toList.drop (sIx items.size 0 lo)).take (sIx items.size items.size hi-sIx items.size 0 lo)).toArray } })
  (hsz:items.size<=J1):K4 (K9 prog w) A (Y2 (.ref t) (.ref sl)) Q E s:=by
 have htake:sizeOk (.seq ((items.toList.drop (sIx items.size 0 lo)).take (sIx items.size items.size hi-sIx items.size 0 lo)).toArray):=by
  show((items.toList.drop (sIx items.size 0 lo)).take (sIx items.size items.size hi-sIx items.size 0 lo)).toArray.size<=J1
  rw[J3,List.length_take,List.length_drop,V0]
  omega
 have hj:sIx items.size items.size hi<=items.size:=EK _ _ (J6 _) hi
 obtain⟨os,hos,hcs,hds⟩:=id hs
 have hTs:s.TypeIs (.ref sl) "slice":=⟨os,hos,hcs⟩
 unfold Y2
 try with_reducible refine U6 ?_
 first|refine u8 (J4 ?_)|skip
 refine u8 (wpAny_sequenceKey ht.typeIs (by decide) ?_)
 refine u8 (P8 (name:=V2 "__getitem__") ht.typeIs K7
  (U9 K7 ht.typeIs entry_tuple_getitem ?_ (args_tuple_getitem _ _)))
 show K4 _ _ (R5 (.ref t) >>= _) _ _ s
 refine u8 (Z7 ht ?_)
 refine u8 (aa5 hTs ?_)
 rw[if_pos (by decide)]
 refine u8 (fP hs pl pu ?_)
 have hno:¬ ((((sIx items.size 0 lo:Nat):Int)==0&&(1:Int)==1&&(sIx items.size items.size hi-sIx items.size 0 lo)==items.size)=true):=by
  intro q
  rw[L6,L6]at q
  have q1:((sIx items.size 0 lo:Nat):Int)=0:=eq_of_beq q.1.1
  have q2:sIx items.size items.size hi-sIx items.size 0 lo=items.size:=eq_of_beq q.2
  exact hw ⟨by omega,by omega⟩
 show K4 _ _ (if(((sIx items.size 0 lo:Nat):Int)==0&&(1:Int)==1&&(sIx items.size items.size hi-sIx items.size 0 lo)==items.size)=true then _ else _) _ _ s
 rw[if_neg hno,zx]
 first
  |exact u8 (m:=K8 _) (M0 (J4 ⟨_,rfl,J4 h⟩) htake)
  |exact u8 (m:=K8 _) (M0 (u8 (J4 (J4 ⟨_,rfl,J4 h⟩))) htake)
  |exact u8 (u8 (m:=K8 _) (M0 (J4 (J4 ⟨_,rfl,J4 h⟩)) htake))
  |exact u8 (u8 (m:=K8 _) (M0 (J4 ⟨_,rfl,J4 h⟩) htake))
end
end HT
namespace L2
open PySem PySem.Spec PyProof.Rows
/-! ### the parts of a slice -/
abbrev TO:=St->Hp->(Option Int->Hp->Prop)->Prop
def PO(X:Cx) (e:Option K3) (t:TO):Prop :=
 ∀(aa:List (J9×Obj)) (s:I0) (σ:St) (H:Hp) (Q:Option Int->Hp->Prop),Inv X aa σ H s->t σ H Q ->
  K4 (K9 X.prog X.w) X.A (evalPart e X.env) (fun u s'=>∃o H',Inv X aa σ H' s'/\ab7 u o/\Q o H') X.xe s
def Cc:TO:=fun _ H Q=>Q none H
def FU(t:TE):TO:=fun σ H Q=>t σ H fun x H1=>∃i,x=.int i/\Q (some i) H1
section
variable{X:Cx}{e:K3}{te:TE}{lo hi:Option K3}{tl th:TO}{pos p2:Pos}
theorem AE:PO X none Cc:=by
 intro aa s σ H Q I h
 rw[evalPart_none]
 exact J4 ⟨none,H,I,.none,h⟩
theorem BB(h:PE X e te):PO X (some e) (FU te):=by
 intro aa s σ H Q I hw
 rw[evalPart_some]
 refine thn (h aa s σ H _ I hw) fun u s1 hup=>hup.el fun x H1 I1 r1 q1=>?_
 obtain⟨i,rfl,q⟩:=q1
 obtain⟨t,rfl⟩:=r1
 exact⟨some i,H1,I1,.int i t,q⟩
def SlR(X:Cx) (r:V->Option Int->Option Int->Hp->VK->Prop):Prop :=
 ∀(aa:List (J9×Obj)) (s:I0) (σ:St) (H:Hp) (x:V) (v vl vu:s0) (lo hi:Option Int) (sl:J9) (Q:VK),Inv X aa σ H s->aD x v->s.heap.IsSliceOf sl vl vu .none->ab7 vl lo->ab7 vu hi->r x lo hi H Q ->
  ∃T id,typeLookup (.type T) "__getitem__"=X5 (some (.builtin id))/\s.TypeIs v T/\K4 (K9 X.prog X.w) X.A (Y2 v (.ref sl)) (EP X aa σ Q) X.xe s
theorem SlR.or{r r':V->Option Int->Option Int->Hp->VK->Prop}(h:SlR X r) (h':SlR X r'):SlR X (fun x lo hi H Q=>r x lo hi H Q∨r' x lo hi H Q):=by
 intro aa s σ H x v vl vu lo hi sl Q I rx hs pl pu q
 rcases q with q|q
 ·exact h aa s σ H x v vl vu lo hi sl Q I rx hs pl pu q
 ·exact h' aa s σ H x v vl vu lo hi sl Q I rx hs pl pu q
def tSl(r:V->Option Int->Option Int->Hp->VK->Prop) (te:TE) (tl th:TO):TE:=fun σ H Q=>te σ H fun x H1=>tl σ H1 fun l H2=>th σ H2 fun u H3=>r x l u H3 Q
theorem zf{r:V->Option Int->Option Int->Hp->VK->Prop}(hr:SlR X r) (he:PE X e te) (hl:PO X lo tl) (hu:PO X hi th):PE X (.Subscript e (.Slice lo hi none p2) pos) (tSl r te tl th):=by
 intro aa s σ H Q I h
 refine ab8 (thn (he aa s σ H _ I h) fun v s1 hup=>hup.el fun x H1 I1 r1 q1=>?_)
 refine wpAny_Slice (thn (hl aa s1 σ H1 _ I1 q1) fun vl s2 ⟨l,H2,I2,pl,q2⟩=>thn (hu aa s2 σ H2 _ I2 q2) fun vu s3 ⟨u,H3,I3,pu,q3⟩=>?_)
 rw[evalPart_none]
 refine J4 ?_
 have I4:Inv X aa σ H3 { s3 with heap:=s3.heap.push { cls:=.type "slice",data:=.fields #[vl,vu,.none] } }:=I3.kept (t':=s3.toks) fun b ob q=>J0 _ q
 obtain⟨T,id,hT,ht,hg⟩:=hr aa { s3 with heap:=s3.heap.push { cls:=.type "slice",data:=.fields #[vl,vu,.none] } } σ H3 x v vl vu l u s3.heap.objs.size Q I4 r1 (L7.IsSliceOf.new ..) pl pu q3
 show K4 (K9 X.prog X.w) X.A (subscriptTail e (.Slice lo hi none p2) v (.ref s3.heap.objs.size)) (EP X aa σ Q) X.xe { s3 with heap:=s3.heap.push { cls:=.type "slice",data:=.fields #[vl,vu,.none] } }
 exact tail_any (ops:=[.ref s3.heap.objs.size,v]) ht hT hg (by with_unfolding_all rfl)
def qT(xs:List V) (lo hi:Option Int):List V:=(xs.drop (HT.sIx xs.length 0 lo)).take (HT.sIx xs.length xs.length hi-HT.sIx xs.length 0 lo)
theorem lw(xs:List V) (lo hi:Option Int):(qT xs lo hi).length<=xs.length:=by
 unfold qT
 rw[List.length_take,List.length_drop]
 omega
def Ia(K:o0):V->Option Int->Option Int->Hp->VK->Prop:=fun x lo hi H Q=>∃a xs,x=.ref a/\SqT K H a xs /\
 ¬ (HT.sIx xs.length 0 lo=0/\HT.sIx xs.length xs.length hi=xs.length)/\∀p,H p=none->Q (.ref p) (upd H p (.tup (qT xs lo hi)))
theorem EY:SlR X (Ia X.K):=by
 intro aa s σ H x v vl vu lo hi sl Q I rx hs pl pu h
 obtain⟨a,xs,rfl,hx,hw,q⟩:=h
 cases rx
 obtain⟨its,r,ht,hz⟩:=I.tuple hx
 have aU:its.toArray.size=xs.length:=by rw[J3];exact r.length.symm
 refine⟨"tuple",_,K7.lookup,ht.typeIs,?_⟩
 refine HT.getItem_tuple_cut ht hs pl pu (by rw[aU];exact hw) ?_ (by rw[aU];exact hz)
 rw[aU]
 refine⟨.ref s.heap.objs.size,_,I.laid (t':=s.toks) (o:=.tup (qT xs lo hi)) (fun b ob q=>J0 _ q) (J6 _) ?_,rfl,q _ (I.hok.fresh (J6 _))⟩
 exact⟨M9 (lw xs lo hi) hz,_,(r.drop (HT.sIx xs.length 0 lo)).take (HT.sIx xs.length xs.length hi-HT.sIx xs.length 0 lo),lD.new _ _⟩
/-! ### t<u,t+u -/
def GW(K:o0):R2:=fun x y H Q=>∃a b xs ys,x=.ref a/\y=.ref b/\SqT K H a xs/\SqT K H b ys/\xs≠[]/\xs.length+ys.length<=J1 /\
 (ys=[]->Q (.ref a) H)/\(ys≠[]->∀p,H p=none->Q (.ref p) (upd H p (.tup (xs++ys))))
theorem az.nil_iff{xs:List V}{us:List s0}(r:az xs us):us=[]↔xs=[]:=by
 cases r with
 |nil=>simp
 |cons _ _=>simp
theorem BH:OpR X (P1 .Add) (GW X.K):=by
 intro aa s σ H x y v u Q I rx ry h
 obtain⟨a,b,xs,ys,rfl,rfl,ha,hb,hx,hz,q1,q2⟩:=h
 cases rx
 cases ry
 obtain⟨its,r1,p1,_⟩:=I.tuple ha
 obtain⟨its2,r2,p2,_⟩:=I.tuple hb
 refine HT.cat_tup p1 p2 (fun z=>hx (r1.nil_iff.mp z)) (fun z=>⟨.ref a,H,I,rfl,q1 (r2.nil_iff.mp z)⟩) (fun z=>?_) (by rw[<-r1.length,<-r2.length];exact hz)
 refine⟨.ref s.heap.objs.size,_,I.laid (t':=s.toks) (o:=.tup (xs++ys)) (fun b ob q=>J0 _ q) (J6 _) ?_,rfl,q2 (fun w=>z (r2.nil_iff.mpr w)) _ (I.hok.fresh (J6 _))⟩
 exact⟨by rw[O2];exact hz,_,r1.append r2,lD.new _ _⟩
end
/-! ### places -/
def ixN(n:Nat) (i:Int):Option Nat:=if 0<=i then(if i<n then some i.toNat else none)else if -(n:Int)<=i then some (i+n).toNat else none
def atI{α:Type}(xs:List α) (i:Int):Option α:=(ixN xs.length i).bind fun j=>xs[j]?
theorem uZ{n:Nat}{i:Int}{j:Nat}(h:ixN n i=some j):seqIndex? i n=some j/\j<n/\-(n:Int)<=i/\i<n:=by
 unfold ixN at h
 by_cases h0:0<=i
 ·rw[if_pos h0]at h
  by_cases h1:i<n
  ·rw[if_pos h1]at h
   have e:i.toNat=j:=L8 h
   exact⟨by rw[seqIndex_of h0 h1,e],by omega,by omega,h1⟩
  ·rw[if_neg h1]at h;cases h
 ·rw[if_neg h0]at h
  by_cases h1:-(n:Int)<=i
  ·rw[if_pos h1]at h
   have e:(i+n).toNat=j:=L8 h
   exact⟨by rw[seqIndex_neg (by omega) h1,e],by omega,h1,by omega⟩
  ·rw[if_neg h1]at h;cases h
theorem qH{α:Type}{xs:List α}{i:Int}{v:α}(h:atI xs i=some v):∃j,seqIndex? i xs.length=some j/\xs[j]?=some v/\j<xs.length/\-(xs.length:Int)<=i/\i<xs.length:=by
 unfold atI at h
 cases e:ixN xs.length i with
 |none=>rw[e]at h;cases h
 |some j =>
  rw[e]at h
  obtain⟨h1,h2,h3,h4⟩:=uZ e
  exact⟨j,h1,h,h2,h3,h4⟩
theorem bS{α:Type}{xs:List α}{j:Nat}{v:α}(h:xs[j]?=some v):atI xs (j:Int)=some v:=by
 have hj:j<xs.length:=(N0.mp h).1
 have e:ixN xs.length (j:Int)=some j:=by
  unfold ixN
  rw[if_pos (by omega),if_pos (by omega)];simp
 unfold atI;rw[e];exact h
/-! ### what may be Z8 -/
def v9(b:K3):Prop:=∀o i,Z8 b false o i=operate [o,i] (Y2 o i)
def IxR(X:Cx) (r:R2):Prop :=
 ∀(value slice:K3) (aa:List (J9×Obj)) (s:I0) (σ:St) (H:Hp) (x y:V) (v u:s0) (Q:VK),Inv X aa σ H s->aD x v->aD y u->r x y H Q ->
  Z8 slice false v u=operate [v,u] (Y2 v u)->K4 (K9 X.prog X.w) X.A (subscriptTail value slice v u) (EP X aa σ Q) X.xe s
def MtR(X:Cx) (id:String) (r:V->List V->Hp->VK->Prop):Prop :=
 ∀(aa:List (J9×Obj)) (s:I0) (σ:St) (H:Hp) (x:V) (xs:List V) (v:s0) (us:List s0) (Q:VK),Inv X aa σ H s->aD x v->az xs us->r x xs H Q ->
  K4 (K9 X.prog X.w) X.A (call (.builtin id) (v::us)) (EP X aa σ Q) X.xe s
section
variable{X:Cx}{a b:K3}{ta tb:TE}{pos:Pos}
theorem Hf{r:R2}(hr:IxR X r) (ha:PE X a ta) (hb:PE X b tb) (hs:v9 b):PE X (.Subscript a b pos) (tOp r ta tb):=by
 intro aa s σ H Q I h
 exact ab8 (EZ ha hb I h fun v u s2 x y H2 I2 rx ry q=>hr a b aa s2 σ H2 x y v u Q I2 rx ry q (hs _ _))
def HN(K:o0):R2:=fun x y H Q=>∃p xs i v,x=.ref p/\y=.int i/\SqL K H p xs/\atI xs i=some v/\Q v H
def HV(K:o0):R2:=fun x y H Q=>∃p xs i v,x=.ref p/\y=.int i/\SqT K H p xs/\atI xs i=some v/\Q v H
def Hm:R2:=fun x y H Q=>∃z i c,x=.str z/\y=.int i/\z.length<=J1/\atI z.cps.toList i=some c/\Q (.str ⟨#[c]⟩) H
theorem we:IxR X (HN X.K):=by
 intro value slice aa s σ H x y v u Q I rx ry h hs
 obtain⟨p,xs,i,z,rfl,rfl,hq,he,q⟩:=h
 cases rx
 obtain⟨t,rfl⟩:=ry
 obtain⟨its,r,pl,hz⟩:=I.list hq
 obtain⟨j,h1,h2,h3,h4,h5⟩:=qH he
 obtain⟨w,ew,rw'⟩:=r.get h2
 have hl:=r.length
 have hn:=ko
 have fin:EP X aa σ Q w s:=⟨z,H,I,rw',q⟩
 by_cases h0:0<=i
 ·have hj:i.toNat=j:=by
   rw[seqIndex_of h0 h5]at h1
   exact L8 h1
  exact item_listR pl.isList h0 (by omega) (by rw[hj];simpa using ew) fin hs
 ·have hj:(i+(its.toArray.size:Int)).toNat=j:=by
   rw[seqIndex_neg (by omega) h4]at h1
   rw[J3,<-hl]
   exact L8 h1
  exact subscriptTail_builtinR (x:=w) pl.isList.typeIs slot_list_getitem.lookup
   (wpAny_getItem_list_neg (Q:=fun r s'=>r=w/\EP X aa σ Q r s') pl.isList (by omega) (by rw[J3]<;>omega) (by omega) (by rw[hj];simpa using ew) ⟨rfl,fin⟩) hs
theorem De:IxR X (HV X.K):=by
 intro value slice aa s σ H x y v u Q I rx ry h hs
 obtain⟨p,xs,i,z,rfl,rfl,hq,he,q⟩:=h
 cases rx
 obtain⟨t,rfl⟩:=ry
 obtain⟨its,r,pl,hz⟩:=I.tuple hq
 obtain⟨j,h1,h2,h3,h4,h5⟩:=qH he
 obtain⟨w,ew,rw'⟩:=r.get h2
 have hl:=r.length
 have hn:=ko
 have fin:EP X aa σ Q w s:=⟨z,H,I,rw',q⟩
 exact subscriptTail_builtinR (x:=w) pl.typeIs slot_tuple_getitem.lookup
  (getItem_tuple (j:=j) (Q:=fun r s'=>r=w/\EP X aa σ Q r s') pl (by omega) (by omega) (by rw[J3,<-hl];exact h1) (by simpa using ew) ⟨rfl,fin⟩) hs
theorem Dv:IxR X Hm:=by
 intro value slice aa s σ H x y v u Q I rx ry h hs
 obtain⟨z,i,c,rfl,rfl,hz,he,q⟩:=h
 obtain⟨t,rfl⟩:=rx
 obtain⟨t',rfl⟩:=ry
 obtain⟨j,h1,h2,h3,h4,h5⟩:=qH he
 have hl:z.cps.toList.length=z.length:=by simp[Str.length]
 rw[hl]at h1 h4 h5
 have hn:=ko
 exact tail_any (typeIs_str s z t) slot_str_getitem.lookup (getItem_str (c:=c) (by
  have e1:decide (i < -(2 ^ 63:Int))=false:=decide_eq_false (by omega)
  have e2:decide (i>=2 ^ 63)=false:=decide_eq_false (by omega)
  rw[e1,e2,Bool.or_false]) (by rw[h1];simpa using h2) ⟨.str ⟨#[c]⟩,H,I.tok _,⟨_,rfl⟩,q⟩) hs
/-! ### xs[i]=v,any sign -/
theorem tT(its:List s0) (n j:Nat) (u:s0):aa7 (·.setIfInBounds j u) { cls:=.type "list",data:=.seq its.toArray n }={ cls:=.type "list",data:=.seq (its.set j u).toArray n }:=by
 simp[aa7]
theorem Inv.lst{aa:List (J9×Obj)}{σ:St}{H:Hp}{s:I0}{p:J9}{xs:List V}(I:Inv X aa σ H s) (h:H p=some (.lst xs)) :
  ∃(its:List s0) (n:Nat),az xs its/\s.heap.get? p=some { cls:=.type "list",data:=.seq its.toArray n }/\xs.length<=J1:=by
 obtain⟨z,its,n,r,e⟩:=I.hok p _ h
 exact⟨its,n,r,e,z⟩
theorem Inv.lstUpd{aa:List (J9×Obj)}{σ:St}{H:Hp}{s:I0}{p:J9}{xs ys:List V}{its its':List s0}{n n':Nat}{f:Obj->Obj}(I:Inv X aa σ H s) (h:H p=some (.lst xs))
  (ho:s.heap.get? p=some { cls:=.type "list",data:=.seq its.toArray n }) (hf:f { cls:=.type "list",data:=.seq its.toArray n }={ cls:=.type "list",data:=.seq its'.toArray n' }) (r:az ys its') (hz:ys.length<=J1) (t:Nat) :
  Inv X aa σ (upd H p (.lst ys)) { s with heap:=s.heap.update p f,toks:=t }:=by
 have e:(s.heap.update p f).get? p=some { cls:=.type "list",data:=.seq its'.toArray n' }:=by
  rw[L7.get?_update_self f ho (by rw[hf]<;>rfl),hf]
 refine I.write (x:=p) (e:=p) (by rw[h];trivial) (.inl rfl) (fun b u hb q=>(L7.get?_update_other _ _ (X4 hb)).trans q) ⟨_,e⟩ ?_
 exact⟨hz,its',n',r,e⟩
def GO:V->V->V->Hp->(Hp->Prop)->Prop:=fun o i v H Q=>∃p xs k j,o=.ref p/\i=.int k/\H p=some (.lst xs)/\ixN xs.length k=some j/\Q (upd H p (.lst (xs.set j v)))
theorem zG:G7 X GO:=by
 intro aa s σ H o i v ov iv u Q I ro ri rv h
 obtain⟨p,xs,k,j,rfl,rfl,hp,hj,q⟩:=h
 cases ro
 obtain⟨t,rfl⟩:=ri
 obtain⟨its,n,r,ho,hz⟩:=I.lst hp
 obtain⟨h1,h2,h3,h4⟩:=uZ hj
 have hl:=r.length
 have hn:=ko
 have I':Inv X aa σ (upd H p (.lst (xs.set j v))) { s with heap:=s.heap.update p (aa7 (·.setIfInBounds j u)) } :=
  I.lstUpd hp ho (tT its n j u) (r.set rv j) (by rw[List.length_set];exact hz) s.toks
 by_cases h0:0<=k
 ·have hk:k.toNat=j:=by
   rw[seqIndex_of h0 h4]at h1
   exact L8 h1
  exact PySem.W.ki_setAt ho h0 (by omega) (by rw[J3,<-hl];exact h4) (by rw[hk];exact⟨_,I',q⟩)
 ·have hk:(k+(its.toArray.size:Int)).toNat=j:=by
   rw[seqIndex_neg (by omega) h3]at h1
   rw[J3,<-hl]
   exact L8 h1
  exact PySem.W.ki_setBack ho (by omega) (by rw[J3,<-hl];exact h3) (by omega) (by rw[hk];exact⟨_,I',q⟩)
/-! ### slices -/
theorem rn(lo hi:Option Int) (n:Nat):(W5 lo hi none n).1=((HT.sIx n 0 lo:Nat):Int)/\(W5 lo hi none n).2.1=((HT.sIx n n hi:Nat):Int)/\(W5 lo hi none n).2.2=1:=by
 refine⟨?_,?_,rfl⟩
 ·cases lo with
  |none=>simp[W5,HT.sIx]
  |some i =>
   simp only[W5,HT.sIx,Option.getD_none,show(1:Int) > 0 by decide,if_true]
   by_cases h:i<0
   ·simp only[h,if_true]<;>omega
   ·simp only[h,if_false]<;>omega
 ·cases hi with
  |none=>simp[W5,HT.sIx]
  |some i =>
   simp only[W5,HT.sIx,Option.getD_none,show(1:Int) > 0 by decide,if_true]
   by_cases h:i<0
   ·simp only[h,if_true]<;>omega
   ·simp only[h,if_false]<;>omega
theorem oi(its:List s0) (lo hi:Option Int):slicePick its.toArray lo hi none=((its.drop (HT.sIx its.length 0 lo)).take (HT.sIx its.length its.length hi-HT.sIx its.length 0 lo)).toArray:=by
 obtain⟨h1,h2,h3⟩:=rn lo hi its.toArray.size
 unfold slicePick
 rw[h1,h2,h3]
 simp only[sliceRange_one,pick_run,J3]<;>rfl
def HJ(K:o0):V->Option Int->Option Int->Hp->VK->Prop:=fun x lo hi H Q=>∃a xs,x=.ref a/\SqL K H a xs/\∀p,H p=none->Q (.ref p) (upd H p (.lst (qT xs lo hi)))
theorem Cm:SlR X (HJ X.K):=by
 intro aa s σ H x v vl vu lo hi sl Q I rx hs pl pu h
 obtain⟨a,xs,rfl,hx,q⟩:=h
 cases rx
 obtain⟨its,r,ht,hz⟩:=I.list hx
 have aU:=r.length
 refine⟨"list",_,slot_list_getitem.lookup,ht.isList.typeIs,?_⟩
 refine wpAny_getItem_list_slice ht.isList hs pl pu .none (by simp) ?_ (by rw[J3]<;>omega)
 rw[oi,<-aU]
 refine⟨.ref s.heap.objs.size,_,I.laid (t':=s.toks) (o:=.lst (qT xs lo hi)) (fun b ob q=>J0 _ q) (J6 _) ?_,rfl,q _ (I.hok.fresh (J6 _))⟩
 exact⟨M9 (lw xs lo hi) hz,_,0,(r.drop (HT.sIx xs.length 0 lo)).take (HT.sIx xs.length xs.length hi-HT.sIx xs.length 0 lo),J7 _ rfl⟩
/-! ### in,not in: flat items -/
def g7:V->Bool
 |.non=>true
 |.bl _=>true
 |.int _=>true
 |.str _=>true
 |_=>false
def eqV:V->V->Bool
 |.non,.non=>true
 |.bl a,.bl b=>a==b
 |.bl a,.int b=>(if a then 1 else 0)==b
 |.int a,.bl b=>a==(if b then 1 else 0)
 |.int a,.int b=>a==b
 |.str a,.str b=>a==b
 |_,_=>false
theorem Ef{A:M7}{s:I0}{y x:V}{u v:s0}(ry:aD y u) (rx:aD x v) (fy:g7 y=true) (fx:g7 x=true):O0 A s u v (eqV y x):=by
 cases y with
 |non =>
  cases ry
  cases x with
  |non=>cases rx;exact O0.same _
  |bl b=>cases rx;exact O0.none_bool b
  |int b=>obtain⟨t,rfl⟩:=rx;exact O0.none_int b t
  |str b=>obtain⟨t,rfl⟩:=rx;exact O0.none_str b t
  |_=>exact absurd (show false=true from fx) L9
 |bl a =>
  cases ry
  cases x with
  |non=>cases rx;exact O0.bool_none a
  |bl b=>cases rx;exact O0.bool_bool a b
  |int b=>obtain⟨t,rfl⟩:=rx;exact O0.bool_int a b t
  |str b=>obtain⟨t,rfl⟩:=rx;exact O0.bool_str a b t
  |_=>exact absurd (show false=true from fx) L9
 |int a =>
  obtain⟨t',rfl⟩:=ry
  cases x with
  |non=>cases rx;exact O0.int_none a t'
  |bl b=>cases rx;exact O0.int_bool a t' b
  |int b=>obtain⟨t,rfl⟩:=rx;exact O0.int_int a t' b t
  |str b=>obtain⟨t,rfl⟩:=rx;exact O0.int_str a t' b t
  |_=>exact absurd (show false=true from fx) L9
 |str a =>
  obtain⟨t',rfl⟩:=ry
  cases x with
  |non=>cases rx;exact O0.str_none a t'
  |bl b=>cases rx;exact O0.str_bool a t' b
  |int b=>obtain⟨t,rfl⟩:=rx;exact O0.str_int a t' b t
  |str b=>obtain⟨t,rfl⟩:=rx;exact O0.str_str a t' b t
  |_=>exact absurd (show false=true from fx) L9
 |_=>exact absurd (show false=true from fy) L9
def eqU(x:V) (u:s0):Bool:=match u with
 |.none=>eqV .non x
 |.bool b=>eqV (.bl b) x
 |.int i _=>eqV (.int i) x
 |.str z _=>eqV (.str z) x
 |_=>false
theorem zE{x y:V}{u:s0}(r:aD y u) (f:g7 y=true):eqU x u=eqV y x:=by
 cases y with
 |non=>cases r;rfl
 |bl b=>cases r;rfl
 |int i=>obtain⟨t,rfl⟩:=r;rfl
 |str z=>obtain⟨t,rfl⟩:=r;rfl
 |_=>exact absurd (show false=true from f) L9
theorem jN{x:V}:∀{xs:List V}{us:List s0},az xs us->xs.all g7=true->us.any (eqU x)=xs.any fun y=>eqV y x
 |_,_,.nil,_=>rfl
 |y::xs,u::us,.cons r t,f=>by
  rw[W0,L6]at f
  rw[P6,P6,zE r f.1,jN t f.2]
theorem gM{A:M7}{s:I0}{x:V}{v:s0}(rx:aD x v) (fx:g7 x=true):∀{xs:List V}{us:List s0},az xs us->xs.all g7=true->∀u∈us,O0 A s u v (eqU x u)
 |_,_,.nil,_=>fun u hu=>by cases hu
 |y::xs,u::us,.cons r t,f=>fun u' hu=>by
  rw[W0,L6]at f
  rcases O5.mp hu with rfl|hu
  ·rw[zE r f.1];exact Ef r rx f.1 fx
  ·exact gM rx fx t f.2 u' hu
def inV(x:V) (xs:List V):Bool:=xs.any fun y=>eqV y x
def rIn(K:o0) (neg:Bool):R2:=fun x y H Q=>∃p xs,y=.ref p/\(SqL K H p xs∨SqT K H p xs)/\g7 x=true/\xs.all g7=true/\Q (.bl (if neg then !inV x xs else inV x xs)) H
theorem wA:OpR X (L5 .In) (rIn X.K false):=by
 intro aa s σ H x y v u Q I rx ry h
 obtain⟨p,xs,rfl,hq,fx,fs,q⟩:=h
 cases ry
 rcases hq with hq|hq
 ·obtain⟨its,r,pl,hz⟩:=I.list hq
  refine SeqAt.in_listAt (eqU x) pl.isList (fun w hw=>gM rx fx r fs w (by simpa using hw)) ⟨.bl _,H,I,rfl,?_⟩
  rw[show its.toArray.any (eqU x)=its.any (eqU x)by simp,jN r fs]
  exact q
 ·obtain⟨its,r,pl,hz⟩:=I.tuple hq
  refine SeqAt.in_tupleAt (eqU x) pl (fun w hw=>gM rx fx r fs w (by simpa using hw)) ⟨.bl _,H,I,rfl,?_⟩
  rw[show its.toArray.any (eqU x)=its.any (eqU x)by simp,jN r fs]
  exact q
theorem qV:OpR X (L5 .NotIn) (rIn X.K true):=by
 intro aa s σ H x y v u Q I rx ry h
 obtain⟨p,xs,rfl,hq,fx,fs,q⟩:=h
 cases ry
 rcases hq with hq|hq
 ·obtain⟨its,r,pl,hz⟩:=I.list hq
  refine SeqAt.notIn_listAt (eqU x) pl.isList (fun w hw=>gM rx fx r fs w (by simpa using hw)) ⟨.bl _,H,I,rfl,?_⟩
  rw[show its.toArray.any (eqU x)=its.any (eqU x)by simp,jN r fs]
  exact q
 ·obtain⟨its,r,pl,hz⟩:=I.tuple hq
  refine SeqAt.notIn_tupleAt (eqU x) pl (fun w hw=>gM rx fx r fs w (by simpa using hw)) ⟨.bl _,H,I,rfl,?_⟩
  rw[show its.toArray.any (eqU x)=its.any (eqU x)by simp,jN r fs]
  exact q
/-! ### len,list(x),tuple(x) of any list or tuple that is read -/
theorem qE:dN X (.builtin "len") (fun xs H Q=>∃p ys,xs=[.ref p]/\(SqL X.K H p ys∨SqT X.K H p ys)/\Q (.int ys.length) H):=by
 intro aa s σ H xs us Q I r h
 obtain⟨p,ys,rfl,hq,q⟩:=h
 obtain⟨u,rfl,rx⟩:=rZ r
 cases rx
 have hn:=ko
 rcases hq with hq|hq
 ·obtain⟨its,r',pl,hz⟩:=I.list hq
  have aU:=r'.length
  exact Calls.call_len_list pl.isList (by simp only[J3]<;>omega) ⟨.int ys.length,H,I.tok _,⟨s.toks+1,by rw[J3,aU]⟩,q⟩
 ·obtain⟨its,r',pl,hz⟩:=I.tuple hq
  have aU:=r'.length
  exact len_tuple pl (by simp only[J3]<;>omega) ⟨.int ys.length,H,I.tok _,⟨s.toks+1,by rw[J3,aU]⟩,q⟩
theorem qp:dN X (.builtin "len") (fun xs H Q=>∃z,xs=[.str z]/\z.length<=J1/\Q (.int z.length) H):=by
 intro aa s σ H xs us Q I r h
 obtain⟨z,rfl,hz,q⟩:=h
 obtain⟨u,rfl,t,rfl⟩:=rZ r
 have hn:=ko
 exact len_str (by omega) ⟨.int z.length,H,I.tok _,⟨_,rfl⟩,q⟩
theorem dN.or{f:s0}{r r':List V->Hp->VK->Prop}(h:dN X f r) (h':dN X f r'):dN X f (fun xs H Q=>r xs H Q∨r' xs H Q):=by
 intro aa s σ H xs us Q I rs q
 rcases q with q|q
 ·exact h aa s σ H xs us Q I rs q
 ·exact h' aa s σ H xs us Q I rs q
theorem oF:dN X (.type "tuple") (fun xs H Q=>∃p ys,xs=[.ref p]/\((SqL X.K H p ys/\∀l,H l=none->Q (.ref l) (upd H l (.tup ys)))∨(SqT X.K H p ys/\Q (.ref p) H))):=by
 intro aa s σ H xs us Q I r h
 obtain⟨p,ys,rfl,h⟩:=h
 obtain⟨u,rfl,rx⟩:=rZ r
 cases rx
 rcases h with⟨hq,q⟩|⟨hq,q⟩
 ·obtain⟨its,r',pl,hz⟩:=I.list hq
  have aU:=r'.length
  refine call_tuple_list pl.isList (fun h' kp=>?_) (by simp only[J3]<;>omega)
  have I1:Inv X aa σ H { s with heap:=h' }:=I.kept (t':=s.toks) kp
  have I2:Inv X aa σ (upd H h'.objs.size (.tup ys)) { s with heap:=h'.push { cls:=.type "tuple",data:=.seq its.toArray } } :=
   I1.laid (t':=s.toks) (fun b o e=>J0 _ e) (J6 _) (show bY X.prog X.w _ _ _ (.tup ys)from⟨hz,its,r',lD.new _ _⟩)
  exact⟨.ref h'.objs.size,_,I2,rfl,q _ (I1.hok.fresh (J6 _))⟩
 ·obtain⟨its,r',pl,hz⟩:=I.tuple hq
  exact call_tuple_same pl ⟨.ref p,H,I,rfl,q⟩
/-! ### the call of a builtin's method: o.m(..) -/
def tyV(K:o0) (T:String) (x:V) (H:Hp):Prop:=match x with
 |.str _=>T="str"
 |.int _=>T="int"
 | .ref p => (T = "list" ∧ ∃ xs,SqL K H p xs) ∨ (T = "tuple" ∧ ∃ o,K.lookup p = some o ∧ o.cls = .type "tuple" ∧ o.dict = none) ∨
   (T="dict"/\((∃kvs,H p=some (.dK kvs))∨∃kvs,H p=some (.dT kvs)))∨(T="set"/\∃S n,H p=some (.set S n))
 |_=>False
theorem Ew{aa:List (J9×Obj)}{σ:St}{H:Hp}{s:I0}{T:String}{x:V}{v:s0}(I:Inv X aa σ H s) (r:aD x v) (ty:tyV X.K T x H) :
  s.TypeIs v T/\∀a,v=.ref a->∃ob,s.heap.get? a=some ob/\ob.dict=none:=by
 cases x with
 |str z =>
  obtain⟨t,rfl⟩:=r
  cases(show T="str" from ty)
  exact⟨typeIs_str s z t,fun _ e=>nomatch e⟩
 |int i =>
  obtain⟨t,rfl⟩:=r
  cases(show T="int" from ty)
  exact⟨aa8 s i t,fun _ e=>nomatch e⟩
 |ref p =>
  cases r
  rcases ty with⟨rfl,xs,hq⟩|⟨rfl,o,hk,hc,hd⟩|⟨rfl,hk⟩|⟨rfl,S,n,hk⟩
  ·obtain⟨its,_,pl,_⟩:=I.list hq
   refine⟨pl.isList.typeIs,fun a e=>?_⟩
   cases e
   obtain⟨o,n,e,c,hd,_⟩:=pl
   exact⟨o,e,hd⟩
  ·refine⟨⟨o,I.kIn p o hk,hc⟩,fun a e=>?_⟩
   cases e
   exact⟨o,I.kIn _ o hk,hd⟩
  ·have z:∃o,s.heap.get? p=some o/\o.ExactDict:=by
    rcases hk with⟨kvs,hk⟩|⟨kvs,hk⟩
    ·obtain⟨_,_,_,_,o,_,_,e,ex,_⟩:=I.hok p _ hk
     exact⟨o,e,ex⟩
    ·obtain⟨_,_,_,_,o,_,_,e,ex,_⟩:=I.hok p _ hk
     exact⟨o,e,ex⟩
   obtain⟨o,e,ex⟩:=z
   refine⟨⟨o,e,ex.1⟩,fun a e2=>?_⟩
   cases e2
   exact⟨o,e,ex.2.1⟩
  ·obtain⟨o,_,_,_,e,ex,_⟩:=I.hok p _ hk
   refine⟨⟨o,e,ex.1⟩,fun a e2=>?_⟩
   cases e2
   exact⟨o,e,ex.2.1⟩
 |_=>exact P2 ty
def tBM(K:o0) (T:String) (r:V->List V->Hp->VK->Prop) (to:TE) (t:TA):TE:=fun σ H Q=>to σ H fun x H1=>tyV K T x H1/\t σ H1 fun xs H2=>r x xs H2 Q
variable{o e:K3}{es:List K3}{to:TE}{t:TA}{name:Str}{bC aV:Pos}{T id:String}{r:V->List V->Hp->VK->Prop}
theorem zg(pa:PlainAttrs T) (slot:Slot T name id) (hty:typeOf (.builtin id)=X5 (.type "method_descriptor")) (hm:MtR X id r) (ho:PE X o to) (ha:PA X (e::es) t)
  (cX:U7 o name X.env (T4 o X.env)=T4 o X.env:=by rfl)
  (kM:((T5 aV (J5 (e :: es) X.env)).all (fun x => !x.1) && (ac4 aV (Z9 [] X.env)).all (fun x => x.1.isSome)
  &&decide ((e::es).length+([]:List Y9).length+(if([]:List Y9).isEmpty then 0 else 1)<30))=true:=by rfl)
  (cN:(bC.endLine==aV.line)=true:=by rfl) (hs:J5 (e::es) X.env=(false,T4 e X.env)::J5 es X.env:=by rfl) (jl:(T5 aV (J5 es X.env)).any (·.1)=false:=by rfl) :
  PE X (.Call (.Attribute o name bC) (e::es) [] aV) (tBM X.K T r to t):=by
 intro aa s σ H Q I h
 refine wpAny_Call_method_late cX kM cN rfl (thn (ho aa s σ H _ I h) fun v s1 ⟨x,H1,I1,r1,ty,q1⟩=>?_)
 obtain⟨h1,h2⟩:=Ew I1 r1 ty
 refine⟨T,id,pa,slot,hty,h1,h2,?_⟩
 have hA:=ha aV aa s1 σ H1 _ I1 q1
 rw[hs]at hA ⊢
 refine Calls.callWith_builtin (by show(false || (T5 aV (J5 es X.env)).any (·.1))=false;rw[jl]<;>rfl) (Calls.evalArgs_plain ?_)
 exact thn hA fun us s2 hup=>hup.el fun vs H2 I2 r2 q2=>hm aa s2 σ H2 x vs v us Q I2 r1 r2 q2
/- xs.append(e),list.index on a module's tuple .. are MtR facts of 06m -/
end
def MtM(X:Cx) (id:String) (r:V->List V->Hp->VK->Prop):Prop :=
 ∀(aa:List (J9×Obj)) (s:I0) (σ:St) (H:Hp) (x:V) (xs:List V) (v:s0) (us:List s0) (Q:VK),Inv X aa σ H s->aD x v->az xs us->r x xs H Q ->
  K4 (K9 X.prog X.w) X.A (call (.builtin id) (v::us)) (EP X aa σ Q) X.xe s
/-! ### lists of values -/
theorem az.un{x:V}{xs:List V}{us:List s0}(h:az (x::xs) us):∃u vs,us=u::vs/\aD x u/\az xs vs:=by
 cases h with
 |cons r t=>exact⟨_,_,rfl,r,t⟩
theorem az.one{x:V}{us:List s0}(h:az [x] us):∃u,us=[u]/\aD x u:=by
 obtain⟨u,vs,rfl,r,t⟩:=h.un
 cases t
 exact⟨u,rfl,r⟩
theorem az.two{x y:V}{us:List s0}(h:az [x,y] us):∃u v,us=[u,v]/\aD x u/\aD y v:=by
 obtain⟨u,vs,rfl,r,t⟩:=h.un
 obtain⟨v,rfl,q⟩:=t.one
 exact⟨u,v,rfl,r,q⟩
theorem az.reverse{xs:List V}{us:List s0}(h:az xs us):az xs.reverse us.reverse:=by
 induction h with
 |nil=>exact .nil
 |cons r t ih=>rw[W6,W6];exact az.append ih (.cons r .nil)
theorem az.rep{xs:List V}{us:List s0}(h:az xs us):∀k:Nat,az (K0 k xs).flatten (K0 k us).flatten
 |0=>.nil
 |k+1=>by
  rw[P5,P5,S2,S2]
  exact az.append h (az.rep h k)
theorem kB(its:List s0):∀(k:Nat) (acc:List s0),
  ab9 (fun x1 x2=>x1++x2) acc.toArray (K0 k its.toArray)=(acc++(K0 k its).flatten).toArray
 |0,acc=>by simp
 |k+1,acc=>by
  have e:acc.toArray++its.toArray=(acc++its).toArray:=by simp
  have e2:(acc++its)++(K0 k its).flatten=acc++(K0 (k+1) its).flatten:=by
   rw[P5,S2,List.append_assoc]
  rw[<-e2,<-kB its k (acc++its),<-e,P5,List.foldl_cons]
section
variable{X:Cx}{aa:List (J9×Obj)}{σ:St}{H:Hp}{s:I0}{l b:J9}{xs ys zs:List V}
/-! ### the two steps: a tracked list is rewritten,a new list is laid -/
theorem Inv.lset{its its':List s0}{n:Nat}{f:Array s0->Array s0}{t':Nat}(I:Inv X aa σ H s) (hH:H l=some (.lst xs))
  (e:s.heap.get? l=some { cls:=.type "list",data:=.seq its.toArray n }) (hf:f its.toArray=its'.toArray) (hv:az ys its') (hz:ys.length<=J1) :
  Inv X aa σ (upd H l (.lst ys)) { s with heap:=s.heap.update l (aa7 f),toks:=t' }:=by
 have q:=PySem.IsL.update e f
 rw[hf]at q
 refine I.write (x:=l) (e:=l) (by rw[hH];exact trivial) (.inl rfl) (fun b' u hb hu=>(L7.get?_update_other s.heap (aa7 f) (X4 hb)).trans hu) ⟨_,q⟩ ?_
 exact⟨hz,its',_,hv,q⟩
theorem Inv.lnew{its:List s0}{t':Nat}(I:Inv X aa σ H s) (hv:az ys its) (hz:ys.length<=J1) :
  Inv X aa σ (upd H s.heap.objs.size (.lst ys)) { s with heap:=s.heap.push { cls:=.type "list",data:=.seq its.toArray },toks:=t' } :=
 I.laid (fun _ _ q=>J0 _ q) (J6 _) ⟨hz,its,0,hv,J7 _ rfl⟩
theorem Inv.fresh(I:Inv X aa σ H s):H s.heap.objs.size=none:=I.hok.fresh (J6 _)
theorem Inv.lstM(I:Inv X aa σ H s) (hH:H l=some (.lst xs)):xs.length<=J1/\∃(its:List s0) (n:Nat),az xs its/\xs.length=its.length/\s.heap.get? l=some { cls:=.type "list",data:=.seq its.toArray n }:=by
 obtain⟨z,its,n,r,e⟩:=I.hok l _ hH
 exact⟨z,its,n,r,r.length,e⟩
theorem xE{n:Nat}(h:n<=J1):K5.List.listTooLong n=false:=by
 unfold K5.List.listTooLong
 exact decide_eq_false (by omega)
end
section
variable{X:Cx}
/-! ### methods -/
def vF:V->List V->Hp->VK->Prop:=fun x vs H Q=>∃l xs y,x=.ref l/\vs=[y]/\H l=some (.lst xs)/\xs.length<J1/\Q .non (upd H l (.lst (xs++[y])))
theorem xx:MtM X "list.append" vF:=by
 intro aa s σ H x vs v us Q I rx rv h
 obtain⟨l,xs,y,rfl,rfl,hH,hz,q⟩:=h
 cases rx
 obtain⟨u,rfl,ru⟩:=rv.one
 obtain⟨z,its,n,r,hl,e⟩:=I.lstM hH
 refine aa9 F.slot_list_append ⟨_,e,rfl⟩ F.entry_list_append (F.args_list_append_2 _ _) (PySem.list_append l its.toArray n u (by rw[J3];omega)) ⟨e,?_⟩
 refine⟨.non,_,I.lset (its':=its++[u]) hH e (by simp) (r.append (.cons ru .nil)) ?_,rfl,q⟩
 rw[O2,List.length_singleton]
 omega
/-! ### list+list,list += list,list*int -/
def HG:R2:=fun x y H Q=>∃l b xs zs,x=.ref l/\y=.ref b/\H l=some (.lst xs)/\H b=some (.lst zs)/\xs.length+zs.length<=J1/\∀p,H p=none->Q (.ref p) (upd H p (.lst (xs++zs)))
theorem DT:OpR X (P1 .Add) HG:=by
 intro aa s σ H x y v u Q I rx ry h
 obtain⟨l,b,xs,zs,rfl,rfl,hH,hB,hz,q⟩:=h
 cases rx
 cases ry
 obtain⟨z,its,n,r,hl,e⟩:=I.lstM hH
 obtain⟨z2,its2,n2,r2,hl2,e2⟩:=I.lstM hB
 refine PySem.P.add_list e e2 ?_ (by rw[J3,J3];omega)
 have ea:its.toArray++its2.toArray=(its++its2).toArray:=by simp
 rw[ea]
 exact⟨.ref _,_,I.lnew (t':=s.toks) (r.append r2) (by rw[O2];omega),rfl,q _ I.fresh⟩
def HY:R2:=fun x y H Q=>∃l k xs,x=.ref l/\y=.int k/\H l=some (.lst xs)/\-(2 ^ 63)<=k/\k<2 ^ 63/\xs.length*k.toNat<=J1 /\
 ∀p,H p=none->Q (.ref p) (upd H p (.lst (K0 k.toNat xs).flatten))
theorem qu{α:Type}(xs:List α) (k:Nat):(K0 k xs).flatten.length=k*xs.length:=by
 induction k with
 |zero=>simp
 |succ k ih=>rw[P5,S2,O2,ih,Nat.succ_mul,Nat.add_comm]
theorem Fo:OpR X (P1 .Mult) HY:=by
 intro aa s σ H x y v u Q I rx ry h
 obtain⟨l,k,xs,rfl,rfl,hH,h1,h2,hz,q⟩:=h
 cases rx
 obtain⟨t,rfl⟩:=ry
 obtain⟨z,its,n,r,hl,e⟩:=I.lstM hH
 have aU:its.toArray.size*k.toNat<=J1:=by rw[J3,<-hl];exact hz
 have hcap:¬ its.toArray.size*k.toNat > (2 ^ 63-1) / 8:=by
  have:(J1:Nat)<=(2 ^ 63-1) / 8:=by decide
  omega
 have hfit:¬ (!Builtin.List.listFitsIndex k)=true:=by
  rw[fitsIndex_both h1 h2]
  exact L9
 have hlong:¬ K5.List.listTooLong (its.toArray.size*k.toNat)=true:=by
  rw[xE aU]
  exact L9
 have hnew:ab9 (fun x1 x2=>x1++x2) #[] (K0 (if its.toArray.isEmpty=true then 0 else k.toNat) its.toArray)=(K0 k.toNat its).flatten.toArray:=by
  have f0:∀m:Nat,ab9 (fun x1 x2=>x1++x2) #[] (K0 m its.toArray)=(K0 m its).flatten.toArray:=fun m=>by
   have:=kB its m []
   rw[List.nil_append]at this
   exact this
  rw[f0]
  cases its with
  |nil=>simp
  |cons a r'=>rw[if_neg (by simp)]
 refine wpAny_binaryOp_repeat_ref (T:="list") (U:="int") (by decide) ⟨_,e,rfl⟩ (fun s'=>aa8 s' k t) noFill_list_mul F.fills_int_mul Y3 repeat_list F.slot_int_index.lookup
  (aa9 Y3 (aa8 s k t) F.entry_int_rmul (F.args_int_rmul_2 _ _) (int___rmul___int_list k t l its.toArray n)
   ⟨e,rfl,⟨_,e,rfl⟩,aa9 F.slot_list_mul ⟨_,e,rfl⟩ F.entry_list_mul (F.args_list_mul_2 _ _) (AutoListH.list___mul___list_int_3 l its.toArray n k t hfit hcap hlong) ⟨e,?_⟩⟩)
 rw[hnew]
 exact⟨.ref _,_,I.lnew (t':=s.toks) (r.rep k.toNat) (by rw[qu,Nat.mul_comm];exact hz),rfl,q _ I.fresh⟩
/-! ### del xs[i] -/
end
/-! ### xs[a:b]=ys -/
end L2
namespace Att
open PySem PySem.W PySem.Calls PyProof.Rows
/-! ### the script -/
theorem lQ{P:Params}{h:L7}:∀(ns:List Int) (vs:List s0),WellAll P h vs (ns.map WData.int)->IntsAre vs ns:=by
 intro ns
 induction ns with
 |nil =>
  intro vs w
  rw[List.map_nil]at w
  cases w
  exact .nil
 |cons n ns ih =>
  intro vs w
  rw[L3]at w
  cases w with
  |cons a b =>
   cases a
   exact .cons _ _ (ih _ b)
theorem xo{l:OpenLaw}{n:Nat}(hn:l.most=some n) {P:Params}{h:L7}{args:List WData}{vals:List s0}
  (hpre:l.row.toRowW.claim.pre args=true) (hwl:WellAll P h vals args) :
  ∃a vs ns,vals=[N3 a]/\args=[WData.list (ns.map WData.int)]/\h.get? a=some { cls:=.type "list",data:=.seq vs.toArray }/\IntsAre vs ns/\ns.length<=n:=by
 have hsh:WShape.hasAll [] args [.list .int]=true:=(pre_splitW hpre).1
 have hc:l.pre.holds [] { args:=args }=true:=(pre_splitW hpre).2
 obtain⟨d,r,rfl,h1,h2⟩:=hasAllW_cons hsh
 obtain rfl:=hasAllW_nil h2
 obtain⟨xs,rfl,h3⟩:=hasW_list h1
 obtain⟨ns,rfl⟩:=items_int h3
 have aU:ns.length<=n:=by
  unfold OpenLaw.pre at hc
  have h4:(WTm.not (.lt (.lit (.int (n:Int))) (.len (.arg 0)))).holds [] { args:=[.list (ns.map .int)] }=true:=by
   have h4:=(holds_andW hc).1
   rw[hn]at h4
   exact h4
  have h5:=condW_of h4 (w_not (w_lt w_lit (w_len_list (w_arg rfl))))
  rw[U3]at h5
  refine Nat.le_of_not_lt fun q=>?_
  have q':(n:Int)<((ns.length:Nat):Int):=by omega
  first
   |(rw[decide_eq_true q']at h5;exact absurd h5 (by decide))
   |(simp at h5;omega)
 cases hwl with
 |cons w1 w2 =>
  cases w2
  cases w1 with
  |list ho hall=>exact⟨_,_,ns,rfl,rfl,ho,lQ ns _ hall,aU⟩
theorem wC(l:OpenLaw) (args:List WData):l.row.toRowW.claim.post args (.bool true) args=true :=
 postW_of (r:=l.row.toRowW) (X:=(true==true))
  (show WShape.has [] (.bool true) .bool=true by first|rfl|decide|simp[WShape.has,WShape.arms,WShape.armsAll])
  (show(WTm.eq .res (.lit (.bool true))).value [] { args:=args,res:=some (.bool true),after:=args }=some (.bool (true==true))from w_eq_bool (w_res rfl) w_lit) rfl
/-! ### the attachment: holds_open's last premise (the av 'hc' behind k_head)from a K4 of the law's body -/
theorem attach_call{l:OpenLaw}{n:Nat}{q:L1}{loose:List Str}{XP:(Str->Option s0)->L7->Prop}{YP:O4->L7->Prop}{d:DefRec}
  (hn:l.most=some n) (hdf:d.params.defaults=[])
  (call:∀ (w:O4) (s₀ s₁:I0) (mg mb:Str → Option s0) (fa:J9) (o:Obj) (pm cd doc:s0) (a:J9) (vs:List s0) (ns:List Int),
   Ground q loose [] XP w s₀ mg mb s₁.heap->YP w s₁.heap ->
   s₁.heap.get? fa=some o->o.data=.func (docDef d.name d.params d.body d.scope pm cd doc)->s₁.heap.CodeRec cd d.name->mg d.name=some (.ref fa) ->
   s₁.heap.get? a=some { cls:=.type "list",data:=.seq vs.toArray }->IntsAre vs ns->ns.length<=n->s₁.gens=#[] ->
   W4 (K9 l.prog w) ab6 (.call (.ref fa) ⟨[.ref a],[]⟩) (fun r s'=>r=.ok (.ret (.bool true))/\OldK s₁.heap s'.heap/\s'.os=s₁.os/\Z4 s'.gens) s₁) :
  WalkO q loose XP YP l.row.toRowW d [] (fun f vs=>PySem.call f vs):=by
 intro w s₀ s₁ mg mb G Y fa o pm cd doc dV kV ho hd hcd hD hmg hg args vals as hpre hlay hrd hwl hlo
 obtain rfl:dV=.none:=Dflts.none hD hdf
 obtain rfl:kV=.none:=Dflts.noKw hD
 obtain⟨a,vs,ns,rfl,rfl,hobj,hints,aU⟩:=xo hn hpre hwl
 refine enter_call (X0 (call w s₀ s₁ mg mb fa o pm cd doc a vs ns G Y ho (fd_plain hd) hcd hmg hobj hints aU hg) fun r s' hq=>?_)
 obtain⟨rfl,h2,h3,h4⟩:=hq
 exact⟨.inl ⟨.bool true,.bool true,[],rfl,fun _=>rfl,.bool true,wC l _,fun _=>⟨List.Pairwise.nil,fun _ hm=>(nomatch hm)⟩⟩,h2,h3,h4⟩
/-! ### rules over ANY heap (no ledger)from facts about the written part K: the library's own take a ledger (News) for what they write -/
section
variable{prog:L1}{w:O4}{A:M7}{E:s0->I0->Prop}{s:I0}{K:Frag}
/-! the whole heap as the ledger: makes every rule that writes through a ledger a rule over any heap -/
end
end Att
namespace L2
open PySem PySem.Spec PyProof.Rows
theorem pj:∀{vs:List s0}{ns:List Int},IntsAre vs ns->az (ns.map V.int) vs
 |_,_,.nil=>.nil
 |_,_,.cons n t h=>.cons ⟨t,rfl⟩ (pj h)
def BC(H:Hp):Prop:=∀b,H b=none∨∃o xs,H b=some (.frz o (.lst xs))
theorem xW{P:L1}{w:O4}{K:o0}{mg mb:Str->Option s0}{CX:CXT}{k:Nat}{fa a:J9}{fd:R9}{x:Str}{sp:Sp}{s₁:I0}{vs:List s0}{ns:List Int}
  (KX:K.In s₁.heap) (hns:s₁.heap.Ns S6 mg) (hb:s₁.heap.Ns builtinsNs mb) (hbb:∀x:Str,x≠"__name__"->mb x=P9 x) (hlim:s₁.heap.NoLimit) (hg:s₁.gens=#[])
  (ha:s₁.heap.get? a=some { cls:=.type "list",data:=.seq vs.toArray }) (hi:IntsAre vs ns) (hl:ns.length<=J1) (hr:cm k ab6)
  (F:∀base:L7,K.In base->base.Ns S6 mg->aX P w K mg base CX k fa fd [x] sp) (hbind:∀(s:I0) (u:s0),ad0 s fd ⟨[u],[]⟩ [(x,u)])
  (hsp:∀H:Hp,BC H->SqL K H a (ns.map V.int)->sp [.ref a] H (fun v _=>v=.bl true) fun _ _ _=>False)
  (hCX:∀H e s',CX [] H s₁ (fun _ _ _=>False) e s'->False) :
  W4 (K9 P w) ab6 (.call (.ref fa) ⟨[.ref a],[]⟩) (fun r s'=>r=.ok (.ret (.bool true))/\OldK s₁.heap s'.heap/\s'.os=s₁.os/\Z4 s'.gens) s₁:=by
 have rv:=pj hi
 have lenV:=hi.length
 -- from an abstract heap in which nothing but the script may be tracked
 have core:∀H:Hp,BC H->SqL K H a (ns.map V.int)->HOk P w H s₁.heap->(∀b,H b≠none->b=a)->(H a≠none->K.lookup a=none) ->
   W4 (K9 P w) ab6 (.call (.ref fa) ⟨[.ref a],[]⟩) (fun r s'=>r=.ok (.ret (.bool true))/\OldK s₁.heap s'.heap/\s'.os=s₁.os/\Z4 s'.gens) s₁:=by
  intro H hO hS hok hA hK
  have base_of:∀{b:J9} {o:Obj},s₁.heap.get? b=some o->H b=none->(rm s₁.heap H).get? b=some o:=fun e n=>z6 e n
  have noA:∀{b:J9} {o:Obj} {es:Array DictEntry} {ep:Nat},s₁.heap.get? b=some o->o.data=.dict es ep->H b=none:=fun {b o es ep} e d=>by
   cases q:H b with
   |none=>rfl
   |some u =>
    have e':b=a:=hA b (by rw[q];simp)
    subst e'
    rw[ha]at e;cases e
    have d':Data.seq vs.toArray _=Data.dict es ep:=d
    cases d'
  have nsK:∀{b:J9} {m:Str->Option s0},s₁.heap.Ns b m->(rm s₁.heap H).Ns b m:=fun {b m} ⟨o,es,ep,e,d,r⟩=>⟨o,es,ep,base_of e (noA e d),d,r⟩
  have hKb:K.In (rm s₁.heap H):=fun b o e=>base_of (KX b o e) (by
   cases q:H b with
   |none=>rfl
   |some u =>
    have e':b=a:=hA b (by rw[q];simp)
    subst e'
    rw[hK (by rw[q];simp)]at e;cases e)
  have hM:Mod K mg (rm s₁.heap H):=⟨hKb,nsK hns,⟨mb,nsK hb,hbb⟩,let⟨mc,h1,h2⟩:=hlim;⟨mc,nsK h1,h2⟩⟩
  have e0:ur P w K mg (rm s₁.heap H) ab6 [] s₁ H:=⟨rfl,hM,fun b o e=>Co e,Nat.le_of_eq (wG _ _),trivial,fun b hb=>absurd (show b∈([]:List J9)from hb) (by simp),hok,.of_eq hg⟩
  refine X0 ((F _ hKb (nsK hns)).run ab6 [] s₁ H ⟨[.ref a],[]⟩ [.ref a] [.ref a] _ _ hr e0 (hbind s₁ (.ref a)) (.cons rfl .nil) (hsp H hO hS)) fun r s' h=>?_
  cases r with
  |error e=>exact(hCX H e s' h).elim
  |ok fl =>
   cases fl with
   |next=>exact P2 h
   |brk=>exact P2 h
   |cont=>exact P2 h
   |ret u =>
    obtain⟨v,H',os,bare,un,hok',r',q⟩:=h
    have q':v=.bl true:=q
    subst q'
    obtain rfl:u=s0.bool true:=r'
    refine⟨rfl,OldK.of_keep fun b o e=>?_,os,bare⟩
    cases q:H b with
    |none=>exact un.keep b o e q (by intro z;exact absurd (show b∈([]:List J9)from z) (by simp)) (by simp)
    |some u =>
     rcases hO b with z|⟨ob,xs,z⟩
     ·rw[q]at z;cases z
     ·have z2:=un.frzs b ob _ z
      obtain⟨e1,_⟩:=hok b _ z
      obtain⟨e2,_⟩:=hok' b _ z2
      rw[e]at e1;cases e1
      exact e2
 cases hk:K.lookup a with
 |some o =>
  -- the script is one of the module's own objects
  have e:=KX a o hk
  rw[ha]at e
  cases e
  refine core (fun _=>none) (fun _=>.inl rfl) (.inr ⟨_,vs.toArray,_,hk,rfl,rfl,rfl,by rw[J3,lenV];exact hl,by simpa using rv⟩) (fun b u z=>by have z':(none:Option HO)=some u:=z;cases z') (fun b z=>absurd rfl z) fun z=>absurd rfl z
 |none =>
  refine core (fun b=>if b=a then some (.frz { cls:=.type "list",data:=.seq vs.toArray } (.lst (ns.map V.int)))else none) (fun b=>?_) (.inl (.inr ⟨{ cls:=.type "list",data:=.seq vs.toArray },if_pos rfl⟩)) (fun b u z=>?_) (fun b z=>?_) fun _=>hk
  ·by_cases hb:b=a
   ·exact .inr ⟨_,_,if_pos hb⟩
   ·exact .inl (if_neg hb)
  ·by_cases hb:b=a
   ·have z':=(if_pos hb).symm.trans z
    cases z'
    subst hb
    exact⟨ha,by rw[U3];exact hl,vs,_,rv,ha⟩
   ·have z':=(if_neg hb).symm.trans z
    cases z'
  ·by_cases hb:b=a
   ·exact hb
   ·exact absurd (if_neg hb) z
theorem vO{l:PySem.W.OpenLaw}{n k:Nat}{q:L1}{loose:List Str}{XP:(Str->Option s0)->L7->Prop}{YP:O4->L7->Prop}{d:DefRec}{K:Params->o0}{CX:O4->CXT}{sp:O4->Sp}{x:Str}
  (hn:l.most=some n) (hn2:n<=J1) (hdf:d.params.defaults=[]) (hr:cm k ab6)
  (hY:∀(w:O4) (h:L7),YP w h->(K w.params).In h)
  (F:∀ (w:O4) (mg:Str → Option s0) (fa:J9) (h:L7),(K w.params).In h → h.Ns S6 mg → mg d.name = some (.ref fa) →
   ∃fd:R9,(∀(s:I0) (u:s0),ad0 s fd ⟨[u],[]⟩ [(x,u)]) /\
    ∀base:L7,(K w.params).In base->base.Ns S6 mg->aX l.prog w (K w.params) mg base (CX w) k fa fd [x] (sp w))
  (hsp:∀(w:O4) (H:Hp) (a:J9) (ns:List Int),ns.length<=n->BC H->SqL (K w.params) H a (ns.map V.int)->sp w [.ref a] H (fun v _=>v=.bl true) fun _ _ _=>False)
  (hCX:∀(w:O4) (H:Hp) (s:I0) (e:s0) (s':I0),CX w [] H s (fun _ _ _=>False) e s'->False) :
  PySem.W.WalkO q loose XP YP l.row.toRowW d [] (fun f vs=>PySem.call f vs):=by
 refine Att.attach_call hn hdf fun w s₀ s₁ mg mb fa o pm cd doc a vs ns G Y ho hd hcd hmg hobj hints aU hg=>?_
 have KX:=hY w _ Y
 obtain⟨fd,hb,hF⟩:=F w mg fa _ KX G.T.g hmg
 exact xW KX G.T.g G.T.b G.T.builtins G.T.nolimit hg hobj hints (M9 aU hn2) hr hF hb (fun H hO hS=>hsp w H a ns aU hO hS) fun H e s'=>hCX w H s₁ e s'
end L2
/- THE LAST THEOREM (shape; LID,My.* are yours):
   My.Adr: a structure of the addresses that your layer names (classes,functions);My.Txt K t: a structure (Prop) of the equations over K;
   My.txt_mk:{K} {implicit addresses ..} (e1:nsIn K S6 "law"=some (some (.ref f))) (e2:K.lookup f=some ⟨oc,od,.func (fnOf "law" "law" params body scope dV kV doc pm an cdv ct),sl⟩) (e3:codeIn K cdv "law"=true) ..:∃t,My.Txt K t
set_option maxRecDepth 100000 in
set_option maxHeartbeats 0 in
theorem PySem.Challenge.cw_LID_holds : PySem.Challenge.rw_LID.Holds := by
 w_on;o_law;k_head;(case hw=>w_witness2)
 k_fill
 refine L2.vO (l:=PySem.Challenge.rw_LID) (n:=63) (k:=40) (x:="script") (CX:=fun w=>..) (sp:=fun _=>My.sp_law) rfl (by decide) rfl ⟨rfl,by decide,by decide⟩ (fun w h Y=>PySem.W.kIn_of Y) ?F ?S ?C
 case F =>
  intro w mg fa h KX G hmg
  have T:∃t,My.Txt (L2.KOf KX) t:=by
   dsimp only[L2.KOf]                          -- K must stand as «<heap const> w.params» for k_is
   refine' My.txt_mk ?e1 ?e2 ?e3 ..
   (case e1=>PySem.W.k_is)                    -- in the order: a name->its address->its object->its parts
   (case e2=>PySem.W.k_is)
   ..
  obtain⟨t,T⟩:=T
  have e0:=hmg.symm.trans (PySem.W.mg_of KX G T.law)
  cases e0                                       -- fa is the law's own address
  exact⟨_,fun s u=>.of_eq rfl,fun base kb nb=>My.law_fn T kb nb⟩     -- if «.of_eq rfl» comes too early: refine' ⟨_,?b,fun base kb nb=>My.law_fn T kb nb⟩;exact fun s u=>.of_eq rfl
 case S=>exact fun w H a ns hl hO hS=>..
 case C=>exact ..
(the tactic k_is has no namespace: write k_is) -/
/-! SHORT WORDS over the layer: a def of the text,its body,what a loop and a test want. -/
namespace L2
open PySem PySem.Spec PyProof.Rows
/-! ### the text by places -/
def gg(s:aa0):Arguments:=match s with
 |.FunctionDef _ a _ _ _ _ _ _ _ _=>a
 |_=>{ posonlyargs:=[],args:=[],vararg:=none,kwonlyargs:=[],kw_defaults:=[],kwarg:=none,defaults:=[] }
def dq(s:aa0):List aa0:=match s with
 |.FunctionDef _ _ b _ _ _ _ _ _ _=>b
 |_=>[]
def aj(s:aa0):V3:=match s with
 |.FunctionDef _ _ _ _ _ _ sc _ _ _=>sc
 |_=>{ kind:=.function,names:=[],isGenerator:=false,isCoroutine:=false }
/-! ### no exception leaves a def -/
abbrev CX0:CXT:=fun _ _ _ _ _ _=>False
abbrev E0:XK:=fun _ _ _=>False
theorem Ar{X:Cx}:mE CX0 X E0:=fun _ _ _ _ _ _ _ h=>h.elim
/-! ### a def (or method) of the text as it stands behind the top -/
structure Fun(K:o0) (x qual:Str) (st:aa0) (f:J9) (fd:R9):Prop where
 ex:∃(oc:s0) (od:Option J9) (kV doc pm:s0) (an:Option J9) (cdv ct:s0) (osl:Array (Option s0)),
  fd=X1 x qual (gg st) (dq st) (aj st) .none kV doc pm an cdv ct/\K.lookup f=some ⟨oc,od,.func fd,osl⟩/\PySem.W.codeIn K cdv qual=true
 kp:T9 K (.ref f)=true
section
variable{P:L1}{w:O4}{K:o0}{mg:Str->Option s0}{base:L7}
theorem Fun.ok{x qual:Str}{st:aa0}{f:J9}{fd:R9}{N ps:List Str}{k:Nat}{sp:Sp}(F:Fun K x qual st f fd) (S:ax N ps (aj st)) (len:∀vs H Q E,sp vs H Q E->vs.length=ps.length)
  (hbody:∀ (cdv:s0) (A:M7) (outer:List Env) (s:I0) (H:Hp) (vs:List V) (Q:VK) (E:XK),cm k (A.deeper (ab0 qual (aj st) s.heap.objs.size f cdv)) → sp vs H Q E →
   ∃t,PSs (sT CX0 P w K mg base N qual (aj st) f cdv A outer s H E).nox (dq st) t/\t { nx:=fun _ H'=>Q .non H',rt:=Q } (cI N vs) H):aX P w K mg base CX0 (k+1) f fd ps sp:=by
 obtain⟨oc,od,kV,doc,pm,an,cdv,ct,osl,rfl,lk,hcd⟩:=F.ex
 refine FQ lk hcd S len fun A outer s H vs Q E hr hsp=>?_
 obtain⟨t,h,q⟩:=hbody cdv A outer s H vs Q E hr hsp
 exact⟨t,h.nox,q⟩
theorem Fun.binds{x qual:Str}{st:aa0}{f:J9}{fd:R9}{ps:List Str}(F:Fun K x qual st f fd)
  (h:∀(kV doc pm:s0) (an:Option J9) (cdv ct:s0) (us:List s0),us.length=ps.length->bindArgs (X1 x qual (gg st) (dq st) (aj st) .none kV doc pm an cdv ct) ⟨us,[]⟩=X5 (ps.zip us)):cY K fd ps []:=by
 obtain⟨oc,od,kV,doc,pm,an,cdv,ct,osl,rfl,lk,hcd⟩:=F.ex
 exact .all (h kV doc pm an cdv ct)
theorem zW{x qual:Str}{st:aa0}{f:J9}{oc:s0}{od an:Option J9}{osl:Array (Option s0)}{kV doc pm cdv ct:s0}(l:K.lookup f=some ⟨oc,od,.func (X1 x qual (gg st) (dq st) (aj st) .none kV doc pm an cdv ct),osl⟩)
  (c:PySem.W.codeIn K cdv qual=true) (k:T9 K (.ref f)=true):Fun K x qual st f (X1 x qual (gg st) (dq st) (aj st) .none kV doc pm an cdv ct):=⟨⟨oc,od,kV,doc,pm,an,cdv,ct,osl,rfl,l,c⟩,k⟩
end
theorem xv{n:Nat}(h:n<=1000):n<J1:=Nat.lt_of_le_of_lt h (by decide)
/-! ### expressions in short: the name that stands in the i-th slot -/
/-! ### tests -/
theorem i9{c A B:Prop} [Decidable c] (h1:c->A) (h2:¬ c->B):if c then A else B:=by
 by_cases h:c
 ·rw[if_pos h]
  exact h1 h
 ·rw[if_neg h]
  exact h2 h
/-! ### heaps -/
def xw(H H':Hp):Prop:=∀b o,H b=some o->H' b=some o
theorem xw.refl(H:Hp):xw H H:=fun _ _ h=>h
theorem xw.trans{H H1 H2:Hp}(a:xw H H1) (b:xw H1 H2):xw H H2:=fun c o h=>b c o (a c o h)
/-! ### lists of pairs as tables -/
section
variable{κ:Type} [DecidableEq κ]
def fE(kvs:List (κ×V)) (k:κ):Option V:=(kvs.find? fun kv=>decide (kv.1=k)).map (·.2)
def dS(kvs:List (κ×V)) (k:κ) (v:V):List (κ×V) :=
 if(kvs.any fun kv=>decide (kv.1=k))=true then kvs.map (fun kv=>if kv.1=k then(kv.1,v)else kv)else kvs++[(k,v)]
def Ie(kvs:List (κ×V)) (k:κ):List (κ×V):=kvs.filter fun kv=>decide (kv.1≠k)
theorem jv{p:κ×V}{r:List (κ×V)}{k:κ}(e:p.1=k):fE (p::r) k=some p.2:=by simp[fE,R1,e]
theorem jI{p:κ×V}{r:List (κ×V)}{k:κ}(e:¬ p.1=k):fE (p::r) k=fE r k:=by simp[fE,R1,e]
theorem rJ(k:κ):∀kvs:List (κ×V),(kvs.any fun kv=>decide (kv.1=k))=(fE kvs k).isSome
 |[]=>rfl
 |p::r=>by
  rw[P6]
  by_cases e:p.1=k
  ·simp only[jv e,decide_eq_true e,Bool.true_or,Option.isSome_some]
  ·rw[jI e,decide_eq_false e,Bool.false_or];exact rJ k r
theorem gL(kvs:List (κ×V)) (k:κ) (v:V):(dS kvs k v).length<=kvs.length+1:=by
 unfold dS
 split
 ·rw[U3];omega
 ·rw[O2,N8,Y4];omega
theorem iH.isSome_eq{o:Option V}{u:Option s0}(r:iH o u):o.isSome=u.isSome:=by
 cases o with
 |none=>cases u with
  |none=>rfl
  |some _=>exact(show False from r).elim
 |some _=>cases u with
  |none=>exact(show False from r).elim
  |some _=>rfl
theorem iH.getD{o:Option V}{u:Option s0}{d:V}{d':s0}(r:iH o u) (rd:aD d d'):aD (o.getD d) (u.getD d'):=by
 cases o with
 |none=>cases u with
  |none=>exact rd
  |some _=>exact(show False from r).elim
 |some _=>cases u with
  |none=>exact(show False from r).elim
  |some _=>exact r
theorem KV.val{kvs:List (κ×V)}{vs:List (κ×s0)}(r:KV kvs vs) (k:κ):iH (fE kvs k) (ac0 vs k):=by
 unfold KV at r
 induction r with
 |nil=>exact V1
 |@cons p q ps qs h t ih =>
  obtain⟨h1,h2⟩:=h
  by_cases e:p.1=k
  ·have e':q.1=k:=h1.symm.trans e
   have b:ac0 (q::qs) k=some q.2:=by simp[ac0,R1,e']
   rw[jv e,b];exact h2
  ·have e':¬ q.1=k:=fun z=>e (h1.trans z)
   have b:ac0 (q::qs) k=ac0 qs k:=by simp[ac0,R1,e']
   rw[jI e,b];exact ih
theorem KV.any{kvs:List (κ×V)}{vs:List (κ×s0)}(r:KV kvs vs) (k:κ):(kvs.any fun kv=>decide (kv.1=k))=vs.any fun kv=>decide (kv.1=k):=by
 unfold KV at r
 induction r with
 |nil=>rfl
 |cons h t ih=>rw[P6,P6,ih,h.1]
theorem KV.repl{kvs:List (κ×V)}{vs:List (κ×s0)}(r:KV kvs vs) (k:κ) {y:V}{u:s0}(ry:aD y u) :
  KV (kvs.map fun kv=>if kv.1=k then(kv.1,y)else kv) (vs.map fun kv=>if kv.1=k then(kv.1,u)else kv):=by
 unfold KV at r ⊢
 induction r with
 |nil=>exact .nil
 |@cons p q ps qs h t ih =>
  rw[L3,L3]
  refine .cons ?_ ih
  obtain⟨h1,h2⟩:=h
  by_cases e:p.1=k
  ·rw[if_pos e,if_pos (h1.symm.trans e)];exact⟨h1,ry⟩
  ·rw[if_neg e,if_neg (fun z=>e (h1.trans z))];exact⟨h1,h2⟩
theorem KV.put{kvs:List (κ×V)}{vs:List (κ×s0)}(r:KV kvs vs) (k:κ) {y:V}{u:s0}(ry:aD y u):KV (dS kvs k y) (stored vs k u):=by
 unfold dS stored
 rw[r.any k]
 by_cases e:(vs.any fun kv=>decide (kv.1=k))=true
 ·rw[if_pos e,if_pos e];exact r.repl k ry
 ·rw[if_neg e,if_neg e];exact Q7.snoc r ⟨rfl,ry⟩
theorem KV.length{kvs:List (κ×V)}{vs:List (κ×s0)}(r:KV kvs vs):kvs.length=vs.length:=Z3 r
end
/-! ### a tracked dict,its keys ints and texts or tuples of these -/
theorem mW{P:L1}{w:O4}{k:Key}{u:s0}(r:aD (kV k) u):(aT P w).is k u=true:=by
 cases k with
 |inl i=>obtain⟨t,e⟩:=(show ∃t,u=ac5 i t from r);subst e;exact sd P w i t
 |inr x=>obtain⟨t,e⟩:=(show ∃t,u=ac6 x t from r);subst e;exact so P w x t
theorem kN{P:L1}{w:O4}:∀{ks:List Key}{us:List s0},az (ks.map kV) us->ItemsAre (aT P w) ks us
 |[],_,r=>by rw[List.map_nil]at r;cases r;exact .nil
 |k::ks,_,r=>by
  rw[L3]at r
  cases r with
  |cons h t=>exact .cons (mW h) (kN t)
abbrev KT(H:Hp):List (List Key×V)->List (List Key×J9×s0)->Prop:=Q7 fun p q=>p.1=q.1/\H q.2.1=some (.tup (p.1.map kV))/\aD p.2 q.2.2
theorem KT.val{H:Hp}{kvs:List (List Key×V)}{xs:List (List Key×J9×s0)}(r:KT H kvs xs) (k:List Key):iH (fE kvs k) ((atKey xs k).map (·.2)):=by
 induction r with
 |nil=>exact V1
 |@cons p q ps qs h t ih =>
  obtain⟨h1,_,h2⟩:=h
  by_cases e:p.1=k
  ·have e':q.1=k:=h1.symm.trans e
   have b:atKey (q::qs) k=some q.2:=by simp[atKey,R1,e']
   rw[jv e,b];exact h2
  ·have e':¬ q.1=k:=fun z=>e (h1.trans z)
   have b:atKey (q::qs) k=atKey qs k:=by simp[atKey,R1,e']
   rw[jI e,b];exact ih
theorem KT.repl{H:Hp}{kvs:List (List Key×V)}{xs:List (List Key×J9×s0)}(r:KT H kvs xs) (k:List Key) {y:V}{u:s0}(ry:aD y u) :
  KT H (kvs.map fun kv=>if kv.1=k then(kv.1,y)else kv) (xs.map (putAt k u)):=by
 induction r with
 |nil=>exact .nil
 |@cons p q ps qs h t ih =>
  rw[L3,L3]
  refine .cons ?_ ih
  obtain⟨h1,h2,h3⟩:=h
  unfold putAt
  by_cases e:p.1=k
  ·rw[if_pos e,if_pos (h1.symm.trans e)];exact⟨h1,h2,ry⟩
  ·rw[if_neg e,if_neg (fun z=>e (h1.trans z))];exact⟨h1,h2,h3⟩
theorem KT.put{H:Hp}{kvs:List (List Key×V)}{xs:List (List Key×J9×s0)}(r:KT H kvs xs) (k:List Key) {b:J9}{y:V}{u:s0}(hb:H b=some (.tup (k.map kV))) (ry:aD y u) :
  KT H (dS kvs k y) (storedH xs k b u):=by
 have e:(kvs.any fun kv=>decide (kv.1=k))=(atKey xs k).isSome:=by
  rw[rJ,(r.val k).isSome_eq,Option.isSome_map]
 unfold dS storedH
 rw[e]
 by_cases q:(atKey xs k).isSome=true
 ·rw[if_pos q,if_pos q];exact r.repl k ry
 ·rw[if_neg q,if_neg q];exact Q7.snoc r ⟨rfl,hb,ry⟩
theorem KT.keeps{H H':Hp}{kvs:List (List Key×V)}{xs:List (List Key×J9×s0)}(r:KT H kvs xs) (ht:∀b ys,H b=some (.tup ys)->H' b=some (.tup ys)):KT H' kvs xs :=
 Q7.mapP r fun _ _ z=>⟨z.1,ht _ _ z.2.1,z.2.2⟩
section
variable{P:L1}{w:O4}{H:Hp}{h:L7}{a:J9}
theorem CJ{u:HO}(ok:HOk P w H h) (e:Rd H a u):bY P w H h a u:=e.ok ok
theorem nj{kvs:List (Key×V)}(ok:HOk P w H h) (e:Rd H a (.dK kvs)):kvs.length<=J1/\(a==T8)=false/\∃vs,KV kvs vs/\h.DictOf (aT P w) a vs :=
 show bY P w H h a (.dK kvs)from CJ ok e
theorem uY{kvs:List (Key×V)}(ok:HOk P w H h) (e:H a=some (.dK kvs)):kvs.length<=J1/\(a==T8)=false/\∃vs,KV kvs vs/\h.DictOf (aT P w) a vs:=nj ok (.inl e)
theorem jf{ks:List Key}(ok:HOk P w H h) (e:H a=some (.tup (ks.map kV))):(aa1 (aT P w)).is h ks a:=by
 obtain⟨_,its,r,o,h1,h2,⟨n,h3⟩,_⟩:=(show bY P w H h a (.tup (ks.map kV))from ok a _ e)
 exact⟨o,its.toArray,n,h1,h2,h3,by simpa using kN r⟩
theorem k6{kvs:List (List Key×V)}(ok:HOk P w H h) (e:Rd H a (.dT kvs)):kvs.length<=J1/\(a==T8)=false /\
  ∃xs,KT H kvs xs/\h.DictOfH (aa1 (aT P w)) a xs:=by
 obtain⟨z,y,xs,r,o,es,ep,h1,h2,h3,h4,h5⟩:=(show bY P w H h a (.dT kvs)from CJ ok e)
 refine⟨z,y,xs,r,o,es,ep,h1,h2,h3,h4,fun x hx=>?_,h5⟩
 have all:∀{l:List (List Key×V)} {m:List (List Key×J9×s0)},KT H l m->∀x∈m,(aa1 (aT P w)).is h x.1 x.2.1:=by
  intro l m q
  induction q with
  |nil=>intro x hx;exact nomatch hx
  |@cons p q ps qs hq t ih =>
   intro x hx
   rcases O5.mp hx with e|hx
   ·subst e
    exact jf ok (by rw[<-hq.1];exact hq.2.1)
   ·exact ih x hx
 exact all r x hx
theorem CF{kvs:List (List Key×V)}(ok:HOk P w H h) (e:H a=some (.dT kvs)):kvs.length<=J1/\(a==T8)=false /\
  ∃xs,KT H kvs xs/\h.DictOfH (aa1 (aT P w)) a xs:=k6 ok (.inl e)
end
def jh(H:Hp) (a:J9) (y:V) (r:Option V):Prop :=
 (∃kvs k,Rd H a (.dK kvs)/\y=kV k/\r=fE kvs k)∨∃kvs k b,Rd H a (.dT kvs)/\y=.ref b/\H b=some (.tup (k.map kV))/\r=fE kvs k
def qf(H:Hp) (a:J9) (y v:V) (H':Hp):Prop :=
 (∃kvs k,H a=some (.dK kvs)/\y=kV k/\kvs.length<J1/\H'=upd H a (.dK (dS kvs k v))) ∨
 ∃kvs k b,H a=some (.dT kvs)/\y=.ref b/\H b=some (.tup (k.map kV))/\kvs.length<J1/\H'=upd H a (.dT (dS kvs k v))
theorem jh.k{H:Hp}{a:J9}{kvs:List (Key×V)}{k:Key}(e:H a=some (.dK kvs)):jh H a (kV k) (fE kvs k):=.inl ⟨kvs,k,.inl e,rfl,rfl⟩
theorem jh.t{H:Hp}{a b:J9}{kvs:List (List Key×V)}{k:List Key}(e:H a=some (.dT kvs)) (eb:H b=some (.tup (k.map kV))):jh H a (.ref b) (fE kvs k):=.inr ⟨kvs,k,b,.inl e,rfl,eb,rfl⟩
theorem qf.k{H:Hp}{a:J9}{kvs:List (Key×V)}{k:Key}{v:V}(e:H a=some (.dK kvs)) (hl:kvs.length<J1):qf H a (kV k) v (upd H a (.dK (dS kvs k v))):=.inl ⟨kvs,k,e,rfl,hl,rfl⟩
theorem qf.t{H:Hp}{a b:J9}{kvs:List (List Key×V)}{k:List Key}{v:V}(e:H a=some (.dT kvs)) (eb:H b=some (.tup (k.map kV))) (hl:kvs.length<J1) :
  qf H a (.ref b) v (upd H a (.dT (dS kvs k v))):=.inr ⟨kvs,k,b,e,rfl,eb,hl,rfl⟩
section
variable{X:Cx}{aa:List (J9×Obj)}{σ:St}{H:Hp}{s:I0}{a:J9}{y v:V}{u r:s0}{o:Option V}{A:M7}{E:s0->I0->Prop}
theorem Inv.big(I:Inv X aa σ H s):T8<s.heap.objs.size:=by
 have h:S6<s.heap.objs.size:=(I.mod.glob.keeps I.bk).lt
 exact Nat.lt_trans (by decide) h
theorem uH{Q:s0->I0->Prop}(hu:A.units+1<Z6) (I:Inv X aa σ H s) (g:jh H a y (some v)) (ry:aD y u) (h:∀w' s',Inv X aa σ H s'->aD v w'->Q w' s') :
  K4 (K9 X.prog X.w) A (Y2 (.ref a) u) Q E s:=by
 rcases g with⟨kvs,k,e,ey,l⟩|⟨kvs,k,b,e,ey,eb,l⟩
 ·subst ey
  obtain⟨z,hd,vs,rel,dd⟩:=nj I.hok e
  obtain⟨w',hw,rw'⟩:=iH.some_of (v:=v) (o:=ac0 vs k) (by rw[l];exact rel.val k)
  exact wpAny_getItem_of (mW ry) dd.mapOf hw (h w' _ (I.tok _) rw')
 ·subst ey
  cases(show u=N3 b from ry)
  obtain⟨z,hd,xs,rel,dd⟩:=k6 I.hok e
  obtain⟨w',hw,rw'⟩:=iH.some_of (v:=v) (o:=(atKey xs k).map (·.2)) (by rw[l];exact rel.val k)
  obtain⟨p,hp,hp2⟩:=Option.map_eq_some_iff.mp hw
  refine wpAny_getItem_heap (U1 hu) (jf I.hok eb) dd hp ?_
  rw[hp2]
  exact h w' _ (I.tok _) rw'
theorem Fx{Q:s0->I0->Prop}(hu:A.units+1<Z6) (I:Inv X aa σ H s) (g:jh H a y o) (ry:aD y u) (h:∀s',Inv X aa σ H s'->Q (.bool o.isSome) s') :
  K4 (K9 X.prog X.w) A (L5 .In u (.ref a)) Q E s:=by
 rcases g with⟨kvs,k,e,ey,l⟩|⟨kvs,k,b,e,ey,eb,l⟩
 ·subst ey
  obtain⟨z,hd,vs,rel,dd⟩:=nj I.hok e
  refine wpAny_in_of (mW ry) hd dd.mapOf ?_
  rw[<-(rel.val k).isSome_eq,<-l]
  exact h _ (I.tok _)
 ·subst ey
  cases(show u=N3 b from ry)
  obtain⟨z,hd,xs,rel,dd⟩:=k6 I.hok e
  refine wpAny_in_heap (U1 hu) (jf I.hok eb) hd dd ?_
  have q:=(rel.val k).isSome_eq
  rw[Option.isSome_map]at q
  rw[<-q,<-l]
  exact h _ (I.tok _)
theorem Au{Q:s0->I0->Prop}(hu:A.units+1<Z6) (I:Inv X aa σ H s) (g:jh H a y o) (ry:aD y u) (h:∀s',Inv X aa σ H s'->Q (.bool (!o.isSome)) s') :
  K4 (K9 X.prog X.w) A (L5 .NotIn u (.ref a)) Q E s:=by
 rcases g with⟨kvs,k,e,ey,l⟩|⟨kvs,k,b,e,ey,eb,l⟩
 ·subst ey
  obtain⟨z,hd,vs,rel,dd⟩:=nj I.hok e
  refine wpAny_notIn_of (mW ry) hd dd.mapOf ?_
  rw[<-(rel.val k).isSome_eq,<-l]
  exact h _ (I.tok _)
 ·subst ey
  cases(show u=N3 b from ry)
  obtain⟨z,hd,xs,rel,dd⟩:=k6 I.hok e
  refine wpAny_notIn_heap (U1 hu) (jf I.hok eb) hd dd ?_
  have q:=(rel.val k).isSome_eq
  rw[Option.isSome_map]at q
  rw[<-q,<-l]
  exact h _ (I.tok _)
theorem jC{h':L7}{t':Nat}{ob:HO}(I:Inv X aa σ H s) (mu:Mut (H a)) (hs:S4 a s.heap h') (he:∃q,h'.get? a=some q) (new:bY X.prog X.w (upd H a ob) h' a ob) :
  Inv X aa σ (upd H a ob) { s with heap:=h',toks:=t' } :=
 I.write (x:=a) (e:=a) mu (.inl rfl) (fun b q hb z=>(hs.2 b hb).trans z) he new
theorem yN{P:L1}{w:O4}{H':Hp}{h':L7}{kvs:List (Key×V)}{vs:List (Key×s0)}(z:kvs.length<=J1) (hd:(a==T8)=false) (rel:KV kvs vs) (dd:h'.DictOf (aT P w) a vs) :
  bY P w H' h' a (.dK kvs):=⟨z,hd,vs,rel,dd⟩
theorem uL{H':Hp}{Q:Unit->I0->Prop}(hu:A.units+1<Z6) (I:Inv X aa σ H s) (g:qf H a y v H') (ry:aD y u) (rv:aD v r) (h:∀s',Inv X aa σ H' s'->Q () s') :
  K4 (K9 X.prog X.w) A (setItem (.ref a) u r) Q E s:=by
 rcases g with⟨kvs,k,e,ey,l,eH⟩|⟨kvs,k,b,e,ey,eb,l,eH⟩
 ·subst ey eH
  obtain⟨z,hd,vs,rel,dd⟩:=uY I.hok e
  have hz:vs.length<=J1:=by rw[<-rel.length];exact z
  have hl:(dS kvs k v).length<=J1:=by have:=gL kvs k v;omega
  refine wpAny_setItem_pairs (hsz:=hz) (mW ry) dd fun h' dd' hs=>h _ ?_
  have he:∃q,h'.get? a=some q:=let⟨q,_,_,hq,_⟩:=dd';⟨q,hq⟩
  exact jC I (by rw[e];exact V1) hs he (yN hl hd (rel.put k rv) dd')
 ·subst ey eH
  cases(show u=N3 b from ry)
  obtain⟨z,hd,xs,rel,dd⟩:=CF I.hok e
  have hz:xs.length<=J1:=by rw[<-Z3 rel];exact z
  have hl:(dS kvs k v).length<=J1:=by have:=gL kvs k v;omega
  refine wpAny_setItem_heap (hsz:=hz) (U1 hu) (jf I.hok eb) dd fun h' dd' hs=>h _ ?_
  obtain⟨q,es,ep,hq,h2,h3,h4,_,h5⟩:=dd'
  refine jC I (by rw[e];exact V1) hs ⟨q,hq⟩ ⟨hl,hd,_,(rel.put k eb rv).keeps fun c ys ec=>?_,q,es,ep,hq,h2,h3,h4,h5⟩
  rw[aJ (CM ec e (fun z=>nomatch z))]
  exact ec
end
/-! ### readings and rules -/
def rq(i:K3):Prop:=∀ov iv,Z8 i false ov iv=operate [ov,iv] (Y2 ov iv)
theorem vV{prog:L1}{w:O4}{A:M7}{E:s0->I0->Prop}{s:I0}{env:Env}{value slice:K3}{pos:Pos}{T id:String}{Q:s0->I0->Prop}
  (hl:typeLookup (.type T) "__getitem__"=X5 (some (.builtin id))) (hs:rq slice)
  (h:K4 (K9 prog w) A (T4 value env) (fun o s₁=>K4 (K9 prog w) A (T4 slice env) (fun i s₂=>s₂.TypeIs o T/\K4 (K9 prog w) A (Y2 o i) Q E s₂) E s₁) E s) :
  K4 (K9 prog w) A (T4 (.Subscript value slice pos) env) Q E s:=by
 refine ab8 (N4 h (fun o s₁ h₁=>N4 h₁ (fun i s₂ h₂=>?_) fun _ _ x=>x) fun _ _ x=>x)
 obtain⟨hT,h₂⟩:=h₂
 unfold subscriptTail
 refine u8 ?_
 rw[getitemInPython_of_ne hT.not_modules]
 refine u8 (wpAny_specialOf hT hl ?_)
 have fin:K4 (K9 prog w) A (Z8 slice false o i) (fun r s₃=>K4 (K9 prog w) A (letTemporaryGo value o r >>= fun _=>X5 r) Q E s₃) E s₂:=by
  rw[hs o i]
  exact wpAny_operating (N4 h₂ (fun r s₃ h₃=>u8 (wpAny_letTemporaryGo (J4 h₃))) fun _ _ x=>x)
 first
  |exact J4 (u8 fin)
  |exact u8 (J4 (u8 fin))
  |exact u8 fin
theorem rR{X:Cx}{aa:List (J9×Obj)}{σ:St}{H:Hp}{s:I0}{a:J9}{y:V}{o:Option V}(I:Inv X aa σ H s) (g:jh H a y o):s.TypeIs (.ref a) "dict":=by
 rcases g with⟨kvs,k,e,_,_⟩|⟨kvs,k,b,e,_,_,_⟩
 ·obtain⟨_,_,vs,_,dd⟩:=nj I.hok e
  exact dd.typeIs
 ·obtain⟨_,_,xs,_,dd⟩:=k6 I.hok e
  exact dd.typeIs
def F0(td ty:TE):TE:=fun σ H Q=>td σ H fun x H1=>ty σ H1 fun y H2=>∃a v,x=.ref a/\jh H2 a y (some v)/\Q v H2
def G2(ty td:TE):TE:=fun σ H Q=>ty σ H fun y H1=>td σ H1 fun x H2=>∃a o,x=.ref a/\jh H2 a y o/\Q (.bl o.isSome) H2
def vk(ty td:TE):TE:=fun σ H Q=>ty σ H fun y H1=>td σ H1 fun x H2=>∃a o,x=.ref a/\jh H2 a y o/\Q (.bl (!o.isSome)) H2
def FT(td ty tv:TE):TS:=fun D σ H=>tv σ H fun v H1=>td σ H1 fun x H2=>ty σ H2 fun y H3=>∃a H4,x=.ref a/\qf H3 a y v H4/\D.nx σ H4
section
variable{X:Cx}{o i e value:K3}{pos pos' tpos:Pos}{td ty tv:TE}
theorem vU(hu:X.A.units+1<Z6) (ho:PE X o td) (hi:PE X i ty) (hs:rq i):PE X (.Subscript o i pos) (F0 td ty):=by
 intro aa s σ H Q I h
 refine vV PySem.F.slot_dict_getitem.lookup hs (thn (ho aa s σ H _ I h) fun u s1 hup=>hup.el fun x H1 I1 rx q1=>thn (hi aa s1 σ H1 _ I1 q1) fun iv s2 ⟨y,H2,I2,ry,a,v,ex,g,q2⟩=>?_)
 subst ex
 obtain rfl:u=N3 a:=rx
 exact⟨rR I2 g,uH hu I2 g ry fun w' s3 I3 rw'=>⟨v,H2,I3,rw',q2⟩⟩
theorem Fd(hu:X.A.units+1<Z6) (hi:PE X i ty) (ho:PE X o td):PC X .In i o (G2 ty td):=by
 intro aa s σ H Q I h
 refine thn (hi aa s σ H _ I h) fun iv s1 hup=>hup.el fun y H1 I1 ry q1=>thn (ho aa s1 σ H1 _ I1 q1) fun u s2 ⟨x,H2,I2,rx,a,ov,ex,g,q2⟩=>?_
 subst ex
 obtain rfl:u=N3 a:=rx
 exact Fx hu I2 g ry fun s3 I3=>⟨.bl ov.isSome,H2,I3,rfl,q2⟩
theorem xm(hu:X.A.units+1<Z6) (hi:PE X i ty) (ho:PE X o td):PC X .NotIn i o (vk ty td):=by
 intro aa s σ H Q I h
 refine thn (hi aa s σ H _ I h) fun iv s1 hup=>hup.el fun y H1 I1 ry q1=>thn (ho aa s1 σ H1 _ I1 q1) fun u s2 ⟨x,H2,I2,rx,a,ov,ex,g,q2⟩=>?_
 subst ex
 obtain rfl:u=N3 a:=rx
 exact Au hu I2 g ry fun s3 I3=>⟨.bl (!ov.isSome),H2,I3,rfl,q2⟩
theorem rg(hu:X.A.units+1<Z6) (ho:PE X o td) (hi:PE X i ty) (hv:PE X value tv) (hs:Y1 value (some (.Subscript o i pos')) pos.line X.env=X5 false) :
  PS X (.Assign [.Subscript o i pos'] value pos) (FT td ty tv):=by
 intro aa s σ H D I h
 refine wpAny_Assign_Subscript (thn (hv aa s σ H _ I h) fun r s1 hup=>hup.el fun v H1 I1 rv q1=>thn (ho aa s1 σ H1 _ I1 q1) fun u s2 hup=>hup.el fun x H2 I2 rx q2=>thn (hi aa s2 σ H2 _ I2 q2) fun iv s3 ⟨y,H3,I3,ry,a,H4,ex,g,q3⟩=>?_) hs
 subst ex
 obtain rfl:u=N3 a:=rx
 exact uL hu I3 g ry rv fun s4 I4=>⟨σ,H4,I4,q3⟩
end
/-! ### displays -/
theorem xH{P:L1}{w:O4}{H:Hp}(h:L7) (hb:T8<h.objs.size):bY P w H (h.push { cls:=.type "dict",data:=.dict #[] }) h.objs.size (.dK []) :=
 ⟨U4 _,beq_eq_false_iff_ne.mpr (X4 (K2 hb)),[],.nil,L7.DictOf.new h⟩
theorem tI{P:L1}{w:O4}{H:Hp}(h:L7) (hb:T8<h.objs.size):bY P w H (h.push { cls:=.type "dict",data:=.dict #[] }) h.objs.size (.dT []) :=
 ⟨U4 _,beq_eq_false_iff_ne.mpr (X4 (K2 hb)),[],.nil,_,#[],0,J7 _ rfl,⟨rfl,rfl,rfl⟩,rfl,rfl,List.nodup_nil⟩
def EX:TE:=fun _ H Q=>∀p,H p=none->Q (.ref p) (upd H p (.dT []))
section
variable{X:Cx}{pos:Pos}
theorem xR:PE X (.Dict [] [] pos) EX:=fun aa s σ H Q I h =>
 wpAny_Dict_empty ⟨.ref s.heap.objs.size,_,I.laid (a:=s.heap.objs.size) (o:=.dT []) (t':=s.toks) (fun _ _ q=>J0 _ q) (J6 _) (tI s.heap I.big),rfl,h _ (I.hok.fresh (J6 _))⟩
end
def uO:List (TE×TE)->St->Hp->(List (V×V)->Hp->Prop)->Prop
 |[],_,H,Q=>Q [] H
 |(tk,tv)::r,σ,H,Q=>tk σ H fun x H1=>tv σ H1 fun y H2=>uO r σ H2 fun ps H3=>Q ((x,y)::ps) H3
abbrev VV:List (V×V)->List (s0×s0)->Prop:=Q7 fun p q=>aD p.1 q.1/\aD p.2 q.2
def PPs(X:Cx) (pos:Pos) (keys:List (Option K3)) (values:List K3) (trs:List (TE×TE)):Prop :=
 ∀(aa:List (J9×Obj)) (s:I0) (σ:St) (H:Hp) (Q:List (V×V)->Hp->Prop),Inv X aa σ H s->uO trs σ H Q ->
  K4 (K9 X.prog X.w) X.A (evalPairs (pairTrees keys values X.env pos)) (fun vs s'=>∃ps H',Inv X aa σ H' s'/\VV ps vs/\Q ps H') X.xe s
theorem Cy{X:Cx}{pos:Pos}:PPs X pos [] [] []:=fun aa s σ H Q I h=>pairTrees_nil_walk ⟨[],H,I,.nil,h⟩
theorem Aq{X:Cx}{pos:Pos}{k v:K3}{ks:List (Option K3)}{vs:List K3}{tk tv:TE}{trs:List (TE×TE)}(hk:PE X k tk) (hv:PE X v tv) (hr:PPs X pos ks vs trs) :
  PPs X pos (some k::ks) (v::vs) ((tk,tv)::trs):=fun aa s σ H Q I h =>
 pairTrees_cons_walk (thn (hk aa s σ H _ I h) fun u s1 hup=>hup.el fun x H1 I1 rx q1=>thn (hv aa s1 σ H1 _ I1 q1) fun w2 s2 hup=>hup.el fun y H2 I2 ry q2 =>
  thn (hr aa s2 σ H2 _ I2 q2) fun ws s3 ⟨ps,H3,I3,rel,q3⟩=>⟨(x,y)::ps,H3,I3,.cons ⟨rx,ry⟩ rel,q3⟩)
def jc(kvs more:List (Key×V)):List (Key×V):=more.foldl (fun acc kv=>dS acc kv.1 kv.2) kvs
theorem KV.merge:∀{more:List (Key×V)}{rs:List (Key×s0)}{kvs:List (Key×V)}{vs:List (Key×s0)},KV more rs->KV kvs vs->KV (jc kvs more) (merged vs rs):=by
 intro more rs kvs vs r
 unfold KV at r
 induction r generalizing kvs vs with
 |nil=>intro q;exact q
 |@cons p q ps qs h t ih =>
  intro r0
  have e:KV (dS kvs p.1 p.2) (stored vs q.1 q.2):=by
   have:=r0.put p.1 h.2
   rw[<-h.1];exact this
  exact ih e
theorem iQ:∀(more kvs:List (Key×V)),(jc kvs more).length<=kvs.length+more.length
 |[],kvs=>by show kvs.length<=kvs.length+0;omega
 |p::r,kvs=>by
  have h1:=iQ r (dS kvs p.1 p.2)
  have h2:=gL kvs p.1 p.2
  show(jc (dS kvs p.1 p.2) r).length<=_
  rw[N8];omega
theorem mQ{P:L1}{w:O4}:∀{kvs:List (Key×V)}{ws:List (s0×s0)},VV (kvs.map fun kv=>(kV kv.1,kv.2)) ws->∃rs,Carries (aT P w) ws rs/\KV kvs rs
 |[],_,r=>by rw[List.map_nil]at r;cases r;exact⟨[],V1,.nil⟩
 |p::kvs,_,r=>by
  rw[L3]at r
  cases r with
  |@cons a b as bs h t =>
   obtain⟨rs,c,q⟩:=mQ (P:=P) (w:=w) t
   obtain⟨b1,b2⟩:=b
   exact⟨(p.1,b2)::rs,⟨mW h.1,rfl,c⟩,.cons ⟨rfl,h.2⟩ q⟩
def FV(trs:List (TE×TE)):TE:=fun σ H Q=>∀p,H p=none->uO trs σ (upd H p (.dK [])) fun ps H2=>H2 p=some (.dK [])/\∃kvs:List (Key×V),ps=kvs.map (fun kv=>(kV kv.1,kv.2))/\kvs.length<=15/\Q (.ref p) (upd H2 p (.dK (jc [] kvs)))
theorem AA{X:Cx}{pos:Pos}{keys:List (Option K3)}{values:List K3}{trs:List (TE×TE)}(h:PPs X pos keys values trs) (hall:keys.all (·.isSome)=true) (hl:keys.length=values.length) (h0:keys≠[])
  (h15:keys.length<=15):PE X (.Dict keys values pos) (FV trs):=by
 intro aa s σ H Q I q
 have hn:=I.hok.fresh (J6 s.heap.objs.size)
 have I1:=I.laid (a:=s.heap.objs.size) (o:=.dK []) (h':=s.heap.push { cls:=.type "dict",data:=.dict #[] }) (t':=s.toks) (fun _ _ q=>J0 _ q) (J6 _) (xH s.heap I.big)
 refine wpAny_Dict_walk (knd:=aT X.prog X.w) hall hl h0 h15 (thn (h aa _ σ _ _ I1 (q _ hn)) fun ws s2 ⟨ps,H2,I2,rel,e,kvs,ep,lk,q2⟩=>?_)
 subst ep
 obtain⟨rs,c,rk⟩:=mQ (P:=X.prog) (w:=X.w) rel
 obtain⟨z,hd,vs0,r0,dd⟩:=uY I2.hok e
 cases r0
 refine⟨rs,c,dd,fun h' dd' hs=>⟨.ref s.heap.objs.size,_,?_,rfl,q2⟩⟩
 have hz:(jc [] kvs).length<=J1:=by
  have h1:=iQ kvs []
  rw[Y4]at h1
  rw[ab5];omega
 have he:∃q,h'.get? s.heap.objs.size=some q:=let⟨q,_,_,hq,_⟩:=dd';⟨q,hq⟩
 exact jC I2 (by rw[e];exact V1) hs he (yN hz hd (rk.merge .nil) dd')
/-! ### methods -/
structure M1(X:Cx) (o:K3) (m:Str) (bC:Pos) (e:K3) (aV:Pos):Prop where
 base:U7 o m X.env (T4 o X.env)=T4 o X.env
 few:((T5 aV (J5 [e] X.env)).all (fun x=>!x.1)&&(ac4 aV (Z9 [] X.env)).all (fun x=>x.1.isSome)
 &&decide (([e]:List K3).length+([]:List Y9).length+(if([]:List Y9).isEmpty then 0 else 1)<30))=true
 line:(bC.endLine==aV.line)=true
 trees:T5 aV (J5 [e] X.env)=[(false,T4 e X.env)]
structure M2(X:Cx) (o:K3) (m:Str) (bC:Pos) (e f:K3) (aV:Pos):Prop where
 base:U7 o m X.env (T4 o X.env)=T4 o X.env
 few:((T5 aV (J5 [e,f] X.env)).all (fun x=>!x.1)&&(ac4 aV (Z9 [] X.env)).all (fun x=>x.1.isSome)
 &&decide (([e,f]:List K3).length+([]:List Y9).length+(if([]:List Y9).isEmpty then 0 else 1)<30))=true
 line:(bC.endLine==aV.line)=true
 trees:T5 aV (J5 [e,f] X.env)=[(false,T4 e X.env),(false,T4 f X.env)]
def IsD(H:Hp) (a:J9):Prop:=(∃kvs,Rd H a (.dK kvs))∨∃kvs,Rd H a (.dT kvs)
theorem ud{X:Cx}{aa:List (J9×Obj)}{σ:St}{H:Hp}{s:I0}{a:J9}(I:Inv X aa σ H s) (d:IsD H a) :
  s.TypeIs (.ref a) "dict"/\(∀b,N3 a=.ref b->∃ob,s.heap.get? b=some ob/\ob.dict=none)/\(a==T8)=false:=by
 rcases d with⟨kvs,e⟩|⟨kvs,e⟩
 ·obtain⟨_,hd,vs,_,dd⟩:=nj I.hok e
  refine⟨dd.typeIs,fun b q=>?_,hd⟩
  cases q
  obtain⟨ob,_,_,h1,h2,_⟩:=dd
  exact⟨ob,h1,h2.2.1⟩
 ·obtain⟨_,hd,xs,_,dd⟩:=k6 I.hok e
  refine⟨dd.typeIs,fun b q=>?_,hd⟩
  cases q
  obtain⟨ob,_,_,h1,h2,_⟩:=dd
  exact⟨ob,h1,h2.2.1⟩
section
variable{X:Cx}{aa:List (J9×Obj)}{σ:St}{H:Hp}{s:I0}{a:J9}{y d:V}{u r:s0}{o:Option V}{A:M7}{E:s0->I0->Prop}
theorem AV{Q:s0->I0->Prop}(hu:A.units+1<Z6) (I:Inv X aa σ H s) (g:jh H a y o) (ry:aD y u) (rd:aD d r) (h:∀w' s',Inv X aa σ H s'->aD (o.getD d) w'->Q w' s') :
  K4 (K9 X.prog X.w) A (call (.builtin "dict.get") [.ref a,u,r]) Q E s:=by
 rcases g with⟨kvs,k,e,ey,l⟩|⟨kvs,k,b,e,ey,eb,l⟩
 ·subst ey
  obtain⟨z,hd,vs,rel,dd⟩:=nj I.hok e
  refine call_meetsIn PySem.F.slot_dict_get dd.typeIs PySem.F.entry_dict_get (PySem.F.args_dict_get_3 _ _ _) (meets_dict_get_default (aT X.prog X.w) a (mW ry) hd r) ⟨_,dd.mapOf,h _ _ (I.tok _) ?_⟩
  rw[l]
  exact(rel.val k).getD rd
 ·subst ey
  cases(show u=N3 b from ry)
  obtain⟨z,hd,xs,rel,dd⟩:=k6 I.hok e
  refine call_meetsIn PySem.F.slot_dict_get dd.typeIs PySem.F.entry_dict_get (PySem.F.args_dict_get_3 _ _ _) (meetsH_dict_get_default (aa1 (aT X.prog X.w)) a b hd r) ⟨U1 hu,k,xs,jf I.hok eb,dd,h _ _ (I.tok _) ?_⟩
  rw[l]
  exact(rel.val k).getD rd
end
def DS(td ty tx:TE):TE:=fun σ H Q=>td σ H fun x H1=>∃a,x=.ref a/\IsD H1 a/\ty σ H1 fun y H2=>tx σ H2 fun z H3=>∃o,jh H3 a y o/\Q (o.getD z) H3
section
variable{X:Cx}{o e f:K3}{bC aV:Pos}{td ty tx:TE}
theorem rT(hu:X.A.units+1<Z6) (ho:PE X o td) (he:PE X e ty) (hf:PE X f tx) (m:M2 X o "get" bC e f aV):PE X (.Call (.Attribute o "get" bC) [e,f] [] aV) (DS td ty tx):=by
 intro aa s σ H Q I h
 refine wpAny_Call_method m.base m.few m.line PySem.F.plainAttrs_dict PySem.F.slot_dict_get PySem.F.type_dict_get (thn (ho aa s σ H _ I h) fun u s1 ⟨x,H1,I1,rx,a,ex,d,q1⟩=>?_)
 subst ex
 obtain rfl:u=N3 a:=rx
 obtain⟨t1,t2,_⟩:=ud I1 d
 refine⟨t1,t2,?_⟩
 rw[m.trees]
 refine Calls.callWith_builtin rfl (Calls.evalArgs_plain (Calls.spliced_cons (thn (he aa s1 σ H1 _ I1 q1) fun iv s2 hup=>hup.el fun y H2 I2 ry q2 =>
  Calls.spliced_cons (thn (hf aa s2 σ H2 _ I2 q2) fun fv s3 ⟨z,H3,I3,rz,ov,g,q3⟩=>Calls.spliced_nil ?_))))
 exact AV hu I3 g ry rz fun w' s4 I4 rw'=>⟨_,H3,I4,rw',q3⟩
end
/-! ### dict(d): a copy -/
/-! ### a dict's pairs: keys that differ -/
/-! a list Z5 with one clause,run over the layer's own judgements -/
def aH(X:Cx) (scope:V3) (cl:List (Str×J9)) (N:List Str) (C:J9) (s:I0) (H:Hp) (ex:List J9):Cx where
 prog:=X.prog
 w:=X.w
 K:=X.K
 mg:=X.mg
 base:=X.base
 A:=X.A
 N:=N
 s₀:=s
 H₀:=H
 env:=compEnvC scope cl C X.env
 outer:=X.stack
 stack:=X.stack
 ex:=ex
 calm:=X.calm
 fn:=fun _=>false
 pn:=[]
 xe:=fun _ _=>False
def bP:List Bool->St->St
 |true::ms,v::σ=>v::bP ms σ
 |false::ms,_::σ=>none::bP ms σ
 |[],_::σ=>none::bP [] σ
 |_,[]=>[]
theorem bR:∀(ms:List Bool) (σ:St),(bP ms σ).length=σ.length
 |true::ms,v::σ=>by simp[bP,bR ms σ]
 |false::ms,_::σ=>by simp[bP,bR ms σ]
 |[],_::σ=>by simp[bP,bR [] σ]
 |[],[]=>by simp[bP]
 |true::_,[]=>by simp[bP]
 |false::_,[]=>by simp[bP]
theorem il:∀{ms:List Bool}{σ:St}{i:Nat}{v:V},(bP ms σ)[i]?=some (some v)->ms[i]?=some true/\σ[i]?=some (some v)
 |true::ms,v::σ,0,x,h=>by simpa[bP]using h
 |true::ms,v::σ,i+1,x,h=>by
  have:=il (ms:=ms) (σ:=σ) (i:=i) (v:=x) (by simpa[bP]using h)
  simpa using this
 |false::ms,_::σ,0,x,h=>by simp[bP]at h
 |false::ms,_::σ,i+1,x,h=>by
  have:=il (ms:=ms) (σ:=σ) (i:=i) (v:=x) (by simpa[bP]using h)
  simpa using this
 |[],_::σ,0,x,h=>by simp[bP]at h
 |[],_::σ,i+1,x,h=>by
  have:=il (ms:=[]) (σ:=σ) (i:=i) (v:=x) (by simpa[bP]using h)
  simpa using this
 |[],[],_,_,h=>by simp[bP]at h
 |true::_,[],_,_,h=>by simp[bP]at h
 |false::_,[],_,_,h=>by simp[bP]at h
def iS(ms:List Bool) (k:Nat) (σ:St):St:=bP ms σ++K0 k none
theorem wR{ms:List Bool}{k:Nat}{σ:St}{i:Nat}{v:V}(h:(iS ms k σ)[i]?=some (some v)):i<σ.length/\ms[i]?=some true/\σ[i]?=some (some v):=by
 unfold iS at h
 by_cases hi:i<(bP ms σ).length
 ·rw[N1 hi]at h
  exact⟨by rwa [bR]at hi,il h⟩
 ·rw[R3 (by omega),T0]at h
  split at h<;>cases h
structure eG(X:Cx) (scope:V3) (cl:List (Str×J9)) (ms:List Bool) (ar:List Str):Prop where
 kind:scope.kind=.function
 ncell:∀y∈scope.names,y.2≠.cell
 names:∀y∈scope.names,y.2=.local->scope.names.lookup y.1=some .local
 clos:closureFor scope X.env=X5 cl
 sub:∀x c,cl.lookup x=some c->X.env.cells.lookup x=some c
 has:∀x,scope.names.lookup x=some .free->∃c,cl.lookup x=some c
 fr:∀x,scope.names.lookup x=some .free->X.env.scope.names.lookup x=some .cell∨X.env.scope.names.lookup x=some .free
 mask:∀(i:Nat) (x:Str),ms[i]?=some true->X.N[i]?=some x->scope.names.lookup x=some .free
 mlen:ms.length<=X.N.length
theorem jT{env:Env}:∀{names:List (Str×N5)}{x:Str}{k:N5},
  (names.map fun(n,k)=>if(k==P7&&env.scope.kind==.function&&env.kindOf n==some .cell)then(n,W1)else(n,k)).lookup x=some k->(∀y∈names,y.2≠.cell)->k=.cell∨k=.free->names.lookup x=some .free
 |[],_,_,h,_,_=>by simp at h
 |(n,k0)::r,x,k,h,hc,hk=>by
  have ih:=@jT env r x k
  have h:S9 x ((if(k0==P7&&env.scope.kind==.function&&env.kindOf n==some .cell)=true then(n,W1)else(n,k0))::_)=some k:=h
  cases hx:x==n with
  |true =>
   by_cases hq:(k0==P7&&env.scope.kind==.function&&env.kindOf n==some .cell)=true
   ·have:k0=.free:=by
     simp at hq
     exact hq.1.1
    subst this
    simp[N9,hx]
   ·rw[if_neg hq]at h
    simp only[N9,hx]at h
    cases h
    rcases hk with rfl|rfl
    ·exact absurd rfl (hc (n,.cell) O1)
    ·simp[N9,hx]
  |false =>
   by_cases hq:(k0==P7&&env.scope.kind==.function&&env.kindOf n==some .cell)=true
   ·rw[if_pos hq]at h
    simp only[N9,hx]at h ⊢
    exact ih h (fun y hy=>hc y (L4 _ hy)) hk
   ·rw[if_neg hq]at h
    simp only[N9,hx]at h ⊢
    exact ih h (fun y hy=>hc y (L4 _ hy)) hk
theorem jQ{env:Env}:∀{names:List (Str×N5)}{x:Str},names.lookup x=some .free ->
  (names.map fun(n,k)=>if(k==P7&&env.scope.kind==.function&&env.kindOf n==some .cell)then(n,W1)else(n,k)).lookup x=some .cell ∨
  (names.map fun(n,k)=>if(k==P7&&env.scope.kind==.function&&env.kindOf n==some .cell)then(n,W1)else(n,k)).lookup x=some .free
 |[],_,h=>by simp at h
 |(n,k0)::r,x,h=>by
  have ih:=@jQ env r x
  show S9 x ((if(k0==P7&&env.scope.kind==.function&&env.kindOf n==some .cell)=true then(n,W1)else(n,k0))::_)=_∨S9 x ((if(k0==P7&&env.scope.kind==.function&&env.kindOf n==some .cell)=true then(n,W1)else(n,k0))::_)=_
  cases hx:x==n with
  |true =>
   simp only[N9,hx]at h
   cases h
   split
   ·left;simp[N9,hx]
   ·right;simp[N9,hx]
  |false =>
   simp only[N9,hx]at h
   split<;>(simp only[N9,hx];exact ih h)
section
variable{X:Cx}{aa:List (J9×Obj)}{σ:St}{H H2:Hp}{s s2:I0}{scope:V3}{cl:List (Str×J9)}{ms:List Bool}{ar:List Str}
theorem zj(I:Inv X aa σ H s) (S:eG X scope cl ms ar) {fp:List J9}(hfp:∀b∈fp,eF X aa H b) (hlt:∀b∈fp,b<s.heap.objs.size) {C:J9}(hC:s.heap.objs.size<=C) :
  (aH X scope cl (X.N++ar) C s H fp).Ok where
 mod:=I.ok.mod
 kind:=S.kind
 glob:=I.ok.glob
 blt:=I.ok.blt
 above:=hC
 inj:=fun x y c h1 h2=>I.ok.inj x y c (S.sub x c h1) (S.sub y c h2)
 has:=fun x hx=>S.has x (jT (env:=X.env) (k:=if(aH X scope cl (X.N++ar) C s H fp).env.kindOf x=some .cell then .cell else .free) (by
  rcases hx with hx|hx
  ·rw[if_pos hx];exact hx
  ·rw[if_neg (by rw[hx];decide)];exact hx) S.ncell (by split<;>simp))
 cab:=fun x c h=>by cases h
 hd:=I.ok.hd
 frames:=I.ok.frames
 stk:=.inl rfl
 exf:=fun b hb=>⟨K2 (K1 (hlt b hb) hC),fun x c e=>(hfp b hb).2.2.2.2.1 x c (S.sub x c e)⟩
 bs:=I.bs
 bsz:=M9 I.ok.bsz I.sz
 noex:=fun b o e hb=>by
  rcases(hfp b hb).2.2.2.1 with z|z
  ·exact I.ok.noex b o e z
  ·exact absurd (K1 (J8 e) (M9 I.ok.bsz z)) (S5 _)
 exfs:=fun b hb z=>by
  rcases O5.mp (I.stkSub b z)with e|e
  ·exact(hfp b hb).2.1 e
  ·exact(hfp b hb).2.2.1 e
 funs:=I.stack
 frf:=I.stkFree
theorem BI(I:Inv X aa σ H s) (S:eG X scope cl ms ar) {fp:List J9}(hfp:∀b∈fp,eF X aa H b) (hlt:∀b∈fp,b<s.heap.objs.size) {C:J9}(hC:s.heap.objs.size<=C)
  (os:s2.os=s.os) (bare:Z4 s2.gens) (keep:∀b o,s.heap.get? b=some o->s2.heap.get? b=some o) {m:Str->Option s0} (hn:s2.heap.Ns C m) :
  Inv (aH X scope cl (X.N++ar) C s H fp) [] (iS ms ar.length σ) H s2 where
 ok:=zj I S hfp hlt hC
 os:=os
 bare:=bare
 base:=Un.kept keep
 loc:=⟨m,hn,fun i x v h1 h2 h3=>by
  obtain⟨hi,hm,hv⟩:=wR h2
  have hiN:i<X.N.length:=by rw[<-I.len];exact hi
  have hx:X.N[i]?=some x:=by
   have h1':(X.N++ar)[i]?=some x:=h1
   rwa [N1 hiN]at h1'
  have hf:=S.mask i x hm hx
  obtain⟨m0,hn0,hl⟩:=I.loc
  obtain⟨u,r,l⟩:=hl i x v hx hv (by rcases S.fr x hf with z|z<;>simp[Vis,z])
  refine⟨u,r,.inr ⟨?_,?_⟩⟩
  ·exact jQ (env:=X.env) hf
  ·obtain⟨c,hc⟩:=S.has x hf
   have hc':=S.sub x c hc
   rcases l with⟨k,_⟩|⟨_,c',e,z⟩
   ·rcases S.fr x hf with z|z<;>(have k':X.env.scope.names.lookup x=some .local:=k;rw[z]at k';cases k')
   ·rw[hc']at e;cases e
    obtain⟨o,ho,hd⟩:=z
    exact⟨c,hc,o,keep _ _ ho,hd⟩⟩
 cell:=fun x c e=>by
  obtain⟨v,o,ho,hd⟩:=I.cell x c (S.sub x c e)
  exact⟨v,o,keep _ _ ho,hd⟩
 free:=I.hok.fresh hC
 freeC:=fun x c e=>I.freeC x c (S.sub x c e)
 pin:=fun p hp=>absurd (show p∈([]:List (J9×Obj))from hp) (by simp)
 hok:=I.hok.kept keep
 len:=by
  unfold iS
  rw[O2,bR,List.length_replicate,I.len]
  show _=(X.N++ar).length
  rw[O2]
end
def PIf(X:Cx) (ifs:List K3) (t:TT):Prop :=
 ∀(aa:List (J9×Obj)) (s:I0) (σ:St) (H:Hp) (Q:Bool->Hp->Prop),Inv X aa σ H s->t σ H Q ->
  K4 (K9 X.prog X.w) X.A (forIn ifs true fun c r=>if r=true then do let ok <-isTrue c X.env (T4 c X.env);X5 (O9 ok)else X5 (O9 r)) (TP X aa σ Q) X.xe s
def Ho:TT:=fun _ H Q=>Q true H
theorem Ca{X:Cx}:PIf X [] Ho:=fun _ _ _ H _ I h=>wpAny_tests_nil ⟨H,I,h⟩
theorem A5{X:Cx}{c:K3}{t:TT}(h:PT X c t):PIf X [c] t:=fun aa s σ H Q I q=>wpAny_tests_one (h aa s σ H Q I q)
abbrev fI(its:List s0) (n:Nat):Obj:={ cls:=.type "list",data:=.seq its.toArray n }
theorem thF{α:Type}{t:Sem α}{Q Q':α->I0->Prop}{M:Model}{A:M7}{E:s0->I0->Prop}{s:I0}(hE:E=fun _ _=>False) (h:K4 M A t Q E s) (hQ:∀a s,Q a s->Q' a s):K4 M A t Q' (fun _ _=>False) s:=N4 h hQ fun e s x=>by rw[hE]at x;exact x
/-! ### comprehensions of any number of clauses,level by level -/
abbrev lcE(el:K3) (gs:List X8) (sc:V3) (ps:Pos):K3:=.ListComp el gs sc ps
section
variable{prog:L1}{w:O4}{A:M7}{R:Result->I0->Prop}{s:I0}{el tg elt i:K3}{fs:List K3}{k:Nat}{p:Pos}{it acc:s0}{env:Env}{gs:List X8}{sc:V3}{ps:Pos}
abbrev AWt:=(I0->Prop)->I0->Prop
def u4(prog:L1) (w:O4) (A:M7) (elt:K3) (acc:s0) (env:Env):AWt:=fun Ok s=>K4 (K9 prog w) A (T4 elt env) (fun x s₄=>K4 (K9 prog w) A (call (.builtin "list.append") [acc,x]) (fun _ s₅=>Ok s₅) (fun _ _=>False) s₄) (fun _ _=>False) s
def yi(prog:L1) (w:O4) (A:M7) (ce:K3) (k:Nat) (i:K3) (acc:s0) (env:Env):AWt:=fun Ok s=>K4 (K9 prog w) A (T4 i env) (fun x s₄=>K4 (K9 prog w) A (ac1 x) (fun it2 s₅ =>
 W4 (K9 prog w) A (.compStart ce k it2 acc env) (fun r s₆=>(∃f,r=.ok f)/\Ok s₆) s₅) (fun _ _=>False) s₄) (fun _ _=>False) s
def Bt(ce:K3) (k:Nat) (p:Pos) (tg:K3) (fs:List K3) (bd:s0->s0->Env->Sem Fin):Prop:=∀it acc env,compTurn ce k it acc env=(do
  ab3 p
  let r <-pyNext it
  match r with
   |none=>X5 (Fin.done Flow.next)
   |some v=>do
    V4 tg it v
    Y8 tg env v
    let ok <-forIn fs true fun c r=>if r=true then do let ok <-PySem.isTrue c env (T4 c env);X5 (O9 ok)else X5 (O9 r)
    if ok=true then bd it acc env else again (U8 ce k it acc env))
def AZ(prog:L1) (w:O4) (A:M7) (ce:K3) (k:Nat) (bd:s0->s0->Env->Sem Fin) (it acc:s0) (env:Env) (AW:AWt):Prop :=
 ∀Ok s (R:Result->I0->Prop) (E:s0->I0->Prop),AW Ok s->K4 (K9 prog w) A (bd it acc env) (fun fin s'=>match fin with|.done f=>R (.ok f) s'|.again c'=>c'=U8 ce k it acc env/\Ok s') E s
theorem om{bd:s0->s0->Env->Sem Fin}{AW:AWt}(hT:Bt (lcE el gs sc ps) k p tg fs bd) (hq:(U8 (lcE el gs sc ps) k it acc env).quiet=true:=by rfl) (hb:AZ prog w A (lcE el gs sc ps) k bd it acc env AW) (I:Nat->I0->Prop)
  (turn:∀ n s,I n s → K4 (K9 prog w) A (pyNext it) (fun r s₁ => match r with
   |none=>R (.ok .next) s₁
   | some v => K4 (K9 prog w) A (V4 tg it v) (fun _ s₁ => K4 (K9 prog w) A (Y8 tg env v) (fun _ s₂ =>
     K4 (K9 prog w) A (forIn fs true fun c r=>if r=true then do let ok <-isTrue c env (T4 c env);X5 (O9 ok)else X5 (O9 r)) (fun ok s₃ =>
      if ok=true then AW (fun s₅=>∃m,m<n/\I m s₅) s₃
      else ∃m,m<n/\I m s₃) (fun _ _=>False) s₂) (fun _ _=>False) s₁) (fun _ _=>False) s₁) (fun _ _=>False) s)
  (n:Nat) (h:I n s) :
  W4 (K9 prog w) A (.compLoop (lcE el gs sc ps) k it acc env) R s:=by
 refine codeAny_loop hq I (fun n s hI=>?_) n h
 show K4 _ A ((compTurn (lcE el gs sc ps) k it acc env).onRaise (fun x=>do noteFrame x env;theTreesLotGoes x)) _ _ s
 refine wpAny_noted ?_
 rw[hT]
 refine u8 (X7 (u8 (N4 (turn n s hI) (fun r s₁ h₁=>?_) fun _ _ h'=>h'.elim)))
 cases r with
 |none=>exact J4 h₁
 |some v =>
  refine u8 (N4 h₁ (fun _ s1 h₁=>?_) fun _ _ h'=>h'.elim)
  refine u8 (N4 h₁ (fun _ s₂ h₂=>u8 (N4 h₂ (fun ok s₃ h₃=>?_) fun _ _ h'=>h'.elim)) fun _ _ h'=>h'.elim)
  cases ok with
  |false=>exact J4 ⟨rfl,h₃⟩
  |true=>exact hb _ _ _ _ h₃
def CY(ce:K3) (k:Nat) (elt:K3):s0->s0->Env->Sem Fin:=fun it acc env=>bind (bind (T4 elt env) fun x=>bind (call (s0.builtin "list.append") [acc,x]) fun _=>X5 ()) fun(_:Unit)=>again (U8 ce k it acc env)
def CT(ce:K3) (k:Nat) (i:K3):s0->s0->Env->Sem Fin:=fun it acc env=>do
 let x <-T4 i env
 ab3 i.pos
 let x <-O6 i env x
 let it2 <-aa3 [x] (ac1 x)
 let _ <-runOwn (Code.compStart ce (k+1) it2 acc env) env
 again (U8 ce k it acc env)
theorem AC:AZ prog w A (lcE el gs sc ps) k (CY (lcE el gs sc ps) k elt) it acc env (u4 prog w A elt acc env):=fun Ok s R E h =>
 u8 (u8 (N4 h (fun x s₄ h₄=>u8 (N4 h₄ (fun _ s₅ h₅=>J4 (J4 ⟨rfl,h₅⟩)) fun _ _ h'=>h'.elim)) fun _ _ h'=>h'.elim))
theorem BO(hs:∀x,O6 i env x=X5 x):AZ prog w A (lcE el gs sc ps) k (CT (lcE el gs sc ps) k i) it acc env (yi prog w A (lcE el gs sc ps) (k+1) i acc env):=fun Ok s R E h=>by
 refine u8 (N4 h (fun x s₄ h₄=>u8 (X7 ?_)) fun _ _ h'=>h'.elim)
 rw[hs x]
 refine u8 (J4 (u8 (U6 (N4 h₄ (fun it2 s₅ h₅=>?_) fun _ _ h'=>h'.elim))))
 refine u8 (wpAny_runOwn (X0 h₅ fun r s₆ h₆=>?_))
 obtain⟨⟨f,rfl⟩,h₆⟩:=h₆
 exact J4 ⟨rfl,h₆⟩
def yg(ce:K3) (k:Nat) (p:Pos):Prop:=∀it acc env,compStart ce k it acc env=(do
  let r <-ask
  if r.params.followText "comprehension-iter-twice"=true then again (U8 ce k it acc env)
   else do
    rule "comprehension.iter-twice"
    ab3 p
    let i <-ac1 it
    again (U8 ce k i acc env))
theorem nE(hS:yg (lcE el gs sc ps) k p) (h:W4 (K9 prog w) A (.compLoop (lcE el gs sc ps) k it acc env) R s)
  (h2:K4 (K9 prog w) A (ac1 it) (fun it' s'=>W4 (K9 prog w) A (.compLoop (lcE el gs sc ps) k it' acc env) R s') (fun _ _=>False) s) :
  W4 (K9 prog w) A (.compStart (lcE el gs sc ps) k it acc env) R s:=by
 refine codeAny_of_tree ?_
 show K4 _ A ((compStart (lcE el gs sc ps) k it acc env).onRaise (fun x=>do noteFrame x env;ab3 theWindowsPlace)) _ _ s
 refine wpAny_onRaise ?_
 rw[hS]
 refine u8 (wpAny_askSetting ?_)
 dsimp only
 split
 ·exact J4 ⟨rfl,h⟩
 ·exact u8 (wpAny_rule (u8 (X7 (u8 (N4 h2 (fun it' s' h'=>J4 ⟨rfl,h'⟩) fun _ _ h'=>h'.elim)))))
end
/-! the levels' readings -/
abbrev BK:=List V->St->Hp->(List V->St->Hp->Prop)->Prop
def kj(J:It) (g:TG) (tc:TT) (B:BK) (W:Nat->Nat->List V->St->Hp->Prop) (Z:List V->St->Hp->Prop):Prop :=
 ∀i m ys σ H,W i m ys σ H->ys.length<=J1/\((J.stop i H/\Z ys σ H) ∨
  (J.go i H/\∀x H',J.yld i H x H'->g x σ H' fun σ2 H2=>tc σ2 H2 fun b H3=>if b=true then B ys σ2 H3 (fun ys' σ' H'=>∃m',m'<m/\W (i+1) m' ys' σ' H')else ∃m',m'<m/\W (i+1) m' ys σ2 H3))
def kY(te:TE):BK:=fun ys σ H Z=>te σ H fun y H'=>Z (ys++[y]) σ H'
def rP(wi:TI) (g:TG) (tc:TT) (B:BK):BK:=fun ys σ H Z=>wi σ H fun J H'=>∃W:Nat->Nat->List V->St->Hp->Prop,(∃m,W 0 m ys σ H')/\kj J g tc B W Z
section
variable{Y:Cx}{D:J9}{el tg elt i1:K3}{fs:List K3}{g:TG}{tc:TT}{te:TE}{wi:TI}{B:BK}{k:Nat}{p:Pos}{gs:List X8}{sc:V3}{ps:Pos}
def CZ(Y:Cx) (D:J9) (AW:AWt) (B:BK):Prop:=∀(P:List (J9×Obj)) (its:List s0) (nn:Nat) (ys:List V) (σ:St) (H:Hp) (s:I0) (Z:List V->St->Hp->Prop),Inv Y ([(D,fI its nn)]++P) σ H s->az ys its->ys.length<=J1->(∀p∈P,p.1≠D)->B ys σ H Z ->
 AW (fun s'=>∃ys' its' n' σ' H',Inv Y ([(D,fI its' n')]++P) σ' H' s'/\az ys' its'/\Z ys' σ' H') s
structure ml(Y:Cx) (D:J9):Prop where
 pn:Y.pn=[]
 calm:Y.calm=true
 xe:Y.xe=fun _ _=>False
 ex:D∈Y.ex∨Y.s₀.heap.objs.size<=D
 cell:∀x c,Y.env.cells.lookup x=some c->c≠D
theorem AWt.mono_leaf{prog:L1}{w:O4}{A:M7}{acc:s0}{env:Env}{Ok Ok':I0->Prop}{s:I0}(h:u4 prog w A elt acc env Ok s) (k:∀s,Ok s->Ok' s):u4 prog w A elt acc env Ok' s :=
 N4 h (fun _ _ h1=>N4 h1 (fun _ _ h2=>k _ h2) fun _ _ x=>x) fun _ _ x=>x
theorem xN(c:ml Y D) (he:PE Y elt te):CZ Y D (u4 Y.prog Y.w Y.A elt (.ref D) Y.env) (kY te):=by
 intro P its nn ys σ H s Z I rv hz hPD q
 refine thF c.xe (he _ s σ H _ I q) fun v s9 hup=>hup.el fun y H9 I9 r9 q9=>?_
 have pacc:=I9.pin (D,fI its nn) (K6 _ (List.mem_append_left _ O1))
 have hzi:its.toArray.size<=J1:=by rw[J3,<-rv.length];exact hz
 refine PySem.wpAny_list_append_plain (hsz:=hzi) ⟨nn,pacc.1⟩ fun h' hl' hs'=>?_
 obtain⟨n',hl'⟩:=hl'
 have I10:Inv Y [] σ H9 { s9 with heap:=h' } :=
  Inv.turned (t':=s9.toks) (it:=D) (I9.pins_of fun p hp=>absurd hp (by simp)) (fun b o hb e=>(hs'.2 b hb).trans e) pacc.2.1 pacc.2.2.1 c.ex c.cell (fun p hp=>absurd (show p∈([]:List (J9×Obj))from by rw[c.pn]at hp;exact hp) (by simp))
 refine⟨ys++[y],its++[v],n',σ,H9,I10.pins_of fun p hp=>?_,rv.append (.cons r9 .nil),q9⟩
 rcases U2.mp hp with z|z
 ·have e:p=(D,fI (its++[v]) n'):=P0.mp z
  subst e
  refine⟨?_,pacc.2.1,pacc.2.2.1,pacc.2.2.2.1,fun v z=>by cases z⟩
  rw[hl']
  simp[fI]
 ·obtain⟨b1,b2,b3,b4,b5⟩:=I9.pin p (K6 _ (K6 _ z))
  exact⟨(hs'.2 _ (hPD p z)).trans b1,b2,b3,b4,b5⟩
structure Lv(Y:Cx) (D:J9) (ce:K3) (k:Nat) (p:Pos) (tg:K3) (fs:List K3) (B:BK):Prop where
 ex:∃bd AW,Bt ce k p tg fs bd/\(∀it,AZ Y.prog Y.w Y.A ce k bd it (.ref D) Y.env AW)/\CZ Y D AW B/\∀{Ok Ok':I0->Prop} {s:I0},AW Ok s->(∀s,Ok s->Ok' s)->AW Ok' s
theorem qL(c:ml Y D) (he:PE Y elt te) (hT:Bt (lcE el gs sc ps) k p tg fs (CY (lcE el gs sc ps) k elt)):Lv Y D (lcE el gs sc ps) k p tg fs (kY te):=⟨_,_,hT,fun _=>AC,xN c he,AWt.mono_leaf⟩
theorem pM(c:ml Y D) (L:Lv Y D (lcE el gs sc ps) k p tg fs B) {it2:J9}
  (hg:PG Y tg g) (hif:PIf Y fs tc) {P:List (J9×Obj)} (hPD:∀p∈P,p.1≠D)
  {its0:List s0} {nn0:Nat} {ys0:List V} {σ:St} {H:Hp} {s:I0} (I:Inv Y ([(D,fI its0 nn0)]++P) σ H s) (rv0:az ys0 its0) {fp2:List J9} {tn2:Nat->L7->Prop} {J2:It} (T:kF Y.prog Y.w Y.K tg J2 fp2 it2 tn2) (st:tn2 0 s.heap)
  (f:∀b∈fp2,eF Y ([(D,fI its0 nn0)]++P) H b) {W2:Nat->Nat->List V->St->Hp->Prop} {Z2:List V->St->Hp->Prop} {m0:Nat} (w0:W2 0 m0 ys0 σ H) (turn:kj J2 g tc B W2 Z2) {R:Result->I0->Prop}
  (hR:∀(s':I0) (ys:List V) (its:List s0) (n:Nat) (σ':St) (H':Hp),Inv Y ([(D,fI its n)]++P) σ' H' s'->az ys its->ys.length<=J1->Z2 ys σ' H'->R (.ok .next) s') :
  W4 (K9 Y.prog Y.w) Y.A (.compLoop (lcE el gs sc ps) k (.ref it2) (.ref D) Y.env) R s:=by
 obtain⟨bd,AW,hT,hb,hB,hAW⟩:=L.ex
 have fpc:∀{H:Hp} {n:Nat} {its:List s0},(∀b∈fp2,H b=none)->∀b∈fp2,eF Y ([(D,fI its n)]++P) H b:=fun hn b hb=>by
  obtain⟨_,a1,a2,a3,a4,a5⟩:=f b hb
  refine⟨hn b hb,a1,a2,a3,a4,fun p hp=>?_⟩
  rw[c.pn,List.nil_append]at hp
  rcases U2.mp hp with z|z
  ·obtain rfl:=P0.mp z
   exact a5 (D,fI its0 nn0) (by rw[c.pn];simp)
  ·exact a5 p (by rw[c.pn];simp[z])
 refine om hT rfl (hb _) (fun n s'=>∃i ys its nn σ' H',Inv Y ([(D,fI its nn)]++P) σ' H' s'/\az ys its/\tn2 i s'.heap/\(∀b∈fp2,H' b=none)/\W2 i n ys σ' H') ?_ m0
  ⟨0,ys0,its0,nn0,σ,H,I,rv0,st,fun b hb=>(f b hb).1,w0⟩
 rintro n s' ⟨i,ys,its,nn,σ',H',I4,rv,st4,fr4,w4⟩
 obtain⟨hz,h⟩:=turn i n ys σ' H' w4
 rcases h with⟨stop,hZ⟩|⟨go,step⟩
 ·refine thn (T.done Y rfl rfl rfl c.calm i _ s' _ H' (fun _ _=>False) I4 (fpc fr4) st4 stop) fun r s4 ⟨hr,I5⟩=>?_
  subst hr
  exact hR s4 ys its nn σ' H' I5 rv hz hZ
 ·refine thn (T.item Y rfl rfl rfl c.calm i _ s' _ H' (fun _ _=>False) I4 (fpc fr4) st4 go) fun r s5 ⟨u,hr,h5⟩=>?_
  subst hr
  refine thn h5 fun _ s6 ⟨x,H6,I6,r6,y6,st6,fr6⟩=>?_
  have I6':=I6.pinned (fpc fr6) (T.obj _ _ st6)
  refine thF c.xe (hg _ s6 _ H6 x u _ I6' r6 (step x H6 y6)) fun _ s7 ⟨σ7,H7,I7,q7⟩=>?_
  refine thF c.xe (hif _ s7 σ7 H7 _ I7 q7) fun ok s8 hup=>hup.el fun H8 I8 q8=>?_
  have keepfp:∀{its:List s0} {nn:Nat} {σ9:St} {H9:Hp} {s9:I0},Inv Y (([(D,fI its nn)]++P)++ja fp2 s6.heap) σ9 H9 s9->tn2 (i+1) s9.heap/\∀b∈fp2,H9 b=none:=fun {its nn σ9 H9 s9} I9 =>
   ⟨T.keep _ _ _ st6 fun b hb o e=>(I9.pin (b,o) (K6 _ (K6 _ (gf hb e)))).1,fun b hb=>by
    obtain⟨o,e,d⟩:=T.obj _ _ st6 b hb
    exact(I9.pin (b,o) (K6 _ (K6 _ (gf hb e)))).2.1⟩
  cases ok with
  |false =>
   obtain⟨m',hm,w8⟩:=q8
   obtain⟨a8,b8⟩:=keepfp I8
   exact⟨m',hm,i+1,ys,its,nn,σ7,H8,I8.unpinned,rv,a8,b8,w8⟩
  |true =>
   have hPD2:∀p∈P++ja fp2 s6.heap,p.1≠D:=fun p hp=>by
    rcases U2.mp hp with z|z
    ·exact hPD p z
    ·have hb:=(o5 z).1
     intro e
     exact(f _ hb).2.2.2.2.2 (D,fI its0 nn0) (by rw[c.pn];simp) e.symm
   refine hAW (hB (P++ja fp2 s6.heap) its nn ys σ7 H8 s8 _ (by rw[<-List.append_assoc];exact I8) rv hz hPD2 q8) ?_
   rintro s9 ⟨ys',its',n',σ',H',I',rv',m',hm,w'⟩
   rw[<-List.append_assoc]at I'
   obtain⟨a9,b9⟩:=keepfp I'
   exact⟨m',hm,i+1,ys',its',n',σ',H',I'.unpinned,rv',a9,b9,w'⟩
theorem uo{prog:L1}{w:O4}{A:M7}{acc:s0}{env:Env}{Ok Ok':I0->Prop}{s:I0}(h:yi prog w A (lcE el gs sc ps) k i1 acc env Ok s) (h':∀s,Ok s->Ok' s):yi prog w A (lcE el gs sc ps) k i1 acc env Ok' s :=
 N4 h (fun _ _ h1=>N4 h1 (fun _ _ h2=>X0 h2 fun _ _ h3=>⟨h3.1,h' _ h3.2⟩) fun _ _ x=>x) fun _ _ x=>x
theorem rE{tg1:K3}{fs1:List K3}{p1:Pos}(c:ml Y D) (L:Lv Y D (lcE el gs sc ps) (k+1) p1 tg1 fs1 B) (hS:yg (lcE el gs sc ps) (k+1) p1) (hs:∀x,O6 i1 Y.env x=X5 x) (hi:PI Y tg1 i1 wi) (hg:PG Y tg1 g) (hif:PIf Y fs1 tc)
  (hT:Bt (lcE el gs sc ps) k p tg fs (CT (lcE el gs sc ps) k i1)):Lv Y D (lcE el gs sc ps) k p tg fs (rP wi g tc B):=by
 refine⟨_,_,hT,fun _=>BO hs,?_,uo⟩
 intro P its nn ys σ H s Z I rv hz hPD q
 refine thF c.xe (hi _ s σ H _ I q) fun v s9 h9=>thF c.xe h9 fun itv s10 h10=>?_
 obtain⟨it2,fp2,tn2,J2,H10,e,I10,T2,st10,f10,W2,⟨m2,w2⟩,cin⟩:=h10
 subst e
 have loop:=pM c L hg hif hPD I10 rv T2 st10 f10 w2 cin (R:=fun r s₆=>(∃f,r=.ok f)/\∃ys' its' n' σ' H',Inv Y ([(D,fI its' n')]++P) σ' H' s₆/\az ys' its'/\Z ys' σ' H')
  (fun s' ys its n σ' H' I' rv' _ hZ=>⟨⟨_,rfl⟩,ys,its,n,σ',H',I',rv',hZ⟩)
 exact nE hS loop (T2.self _ 0 _ _ _ st10 loop)
end
section
variable{X:Cx}{aa:List (J9×Obj)}{σ σ':St}{H2 H':Hp}{s2 s':I0}{scope:V3}{cl:List (Str×J9)}{ms:List Bool}{ar:List Str}{elt t0 i0:K3}{f0:List K3}{gs:List X8}{g0:TG}{tc0:TT}{B:BK}{p pos:Pos}
theorem pO(S:eG X scope cl ms ar) (fS:X.calm=true)
  (hg0:∀C s H ex,PG (aH X scope cl (X.N++ar) C s H ex) t0 g0) (hif0:∀C s H ex,PIf (aH X scope cl (X.N++ar) C s H ex) f0 tc0)
  (hL:∀C s H ex D,ml (aH X scope cl (X.N++ar) C s H ex) D->Lv (aH X scope cl (X.N++ar) C s H ex) D (lcE elt (⟨t0,i0,f0,0⟩::gs) scope pos) 0 p t0 f0 B)
  (I2:Inv X aa σ H2 s2) {it:J9} {fp:List J9} {tn:Nat->L7->Prop} {J:It} (T:kF X.prog X.w X.K t0 J fp it tn) (st2:tn 0 s2.heap) (fz:∀b∈fp,eF X aa H2 b)
  {W:Nat->Nat->List V->St->Hp->Prop} {Z:List V->St->Hp->Prop} {m0:Nat} (w0:W 0 m0 [] (iS ms ar.length σ) H2) (turn:kj J g0 tc0 B W Z)
  {RR:s0->J9->Result->I0->Prop} {E:s0->I0->Prop}
  (hRR:∀ (s':I0) (ys:List V) (its:List s0) (n:Nat) (σ':St) (H':Hp),Inv (aH X scope cl (X.N ++ ar) (s2.heap.objs.size + 1) s2 H2 fp) [(s2.heap.objs.size,fI its n)] σ' H' s' → az ys its → ys.length ≤ J1 → Z ys σ' H' →
   RR (.ref s2.heap.objs.size) (s2.heap.objs.size+1) (.ok .next) s') :
  K4 (K9 X.prog X.w) X.A (newList []) (fun acc s₃=>K4 (K9 X.prog X.w) X.A (newFunctionEnv scope X.env.globals cl [] X.env.qual none .none (some X.env)) (fun cenv s₄ =>
   W4 (K9 X.prog X.w) X.A (.compStart (lcE elt (⟨t0,i0,f0,0⟩::gs) scope pos) 0 (.ref it) acc { cenv with scope:=relabel scope X.env }) (RR acc cenv.locals) s₄) E s₃) E s2:=by
 refine M0 (wpAny_newFunctionEnv S.ncell (by intro y hy;simp at hy) (fun h₁ hns₁ hsb₁=>?_) S.kind)
 dsimp only at hns₁ hsb₁ ⊢
 have hsz:(s2.heap.push { cls:=.type "list",dict:=none,data:=.seq ([]:List s0).toArray }).objs.size=s2.heap.objs.size+1:=by rw[W9]
 rw[hsz]at hns₁ hsb₁ ⊢
 have hlt:∀b∈fp,b<s2.heap.objs.size:=fun b hb=>by
  obtain⟨o,e,_⟩:=T.obj _ _ st2 b hb
  exact J8 e
 have old:∀b o,s2.heap.get? b=some o->h₁.get? b=some o:=fun b o e=>hsb₁.extBut b o (K2 (Q6 (J8 e))) (J0 _ (J0 _ e))
 have hacc:h₁.get? s2.heap.objs.size=some (fI [] 0):=hsb₁.extBut _ _ (K2 (T6 _)) (J0 _ (J7 _ rfl))
 have hDn:H2 s2.heap.objs.size=none:=I2.hok.fresh (J6 _)
 have hDfs:∀b,s2.heap.objs.size<=b->b∉(aH X scope cl (X.N++ar) (s2.heap.objs.size+1) s2 H2 fp).fs:=fun b hb z=>by
  rcases O5.mp (I2.stkSub b z)with e|e
  ·subst e;exact absurd (K1 I2.lt hb) (S5 _)
  ·exact I2.nofs hb e
 have loop:∀s₃:I0,s₃={ s2 with heap:=h₁,toks:=s2.toks+([]:List (Str×s0)).length } ->
   W4 (K9 X.prog X.w) X.A (.compLoop (lcE elt (⟨t0,i0,f0,0⟩::gs) scope pos) 0 (.ref it) (.ref s2.heap.objs.size) (compEnvC scope cl (s2.heap.objs.size+1) X.env)) (RR (.ref s2.heap.objs.size) (s2.heap.objs.size+1)) s₃:=by
  rintro s₃ rfl
  have I3:Inv (aH X scope cl (X.N++ar) (s2.heap.objs.size+1) s2 H2 fp) [] (iS ms ar.length σ) H2 { s2 with heap:=h₁,toks:=s2.toks+([]:List (Str×s0)).length } :=
   BI I2 S fz hlt (Nat.le_succ _) rfl I2.bare old hns₁
  have c:ml (aH X scope cl (X.N++ar) (s2.heap.objs.size+1) s2 H2 fp) s2.heap.objs.size:=⟨rfl,fS,rfl,.inr (J6 _),fun x c e=>by
   obtain⟨v,o,ho,_⟩:=I2.cell x c (S.sub x c e)
   exact K2 (J8 ho)⟩
  refine pM c (hL _ _ _ _ _ c) (hg0 _ _ _ _) (hif0 _ _ _ _) (P:=[]) (fun p hp=>nomatch hp) (its0:=[]) (nn0:=0) (I3.pins_of fun p hp=>?_) .nil T (T.keep _ _ _ st2 fun b _ o e=>old b o e) (fun b hb=>?_) w0 turn ?_
  ·have e:p=(s2.heap.objs.size,fI [] 0):=P0.mp hp
   subst e
   exact⟨hacc,hDn,K2 (T6 _),hDfs _ (J6 _),fun v z=>by cases z⟩
  ·exact⟨(fz b hb).1,K2 (Q6 (hlt b hb)),(zj I2 S fz hlt (Nat.le_succ _)).exfs b hb,.inl hb,fun x c e=>(fz b hb).2.2.2.2.1 x c (S.sub x c e),fun p hp=>by
    have:p=(s2.heap.objs.size,_):=P0.mp (show p∈[(s2.heap.objs.size,_)]from hp)
    subst this
    exact aa4 (hlt b hb)⟩
  ·exact fun s' ys its n σ' H' I' rv hz hZ=>hRR s' ys its n σ' H' I' rv hz hZ
 exact codeAny_compStart_list (loop _ rfl) (T.self _ 0 _ _ _ (T.keep _ _ _ st2 fun b _ o e=>old b o e) (loop _ rfl))
end
section
variable{X:Cx}{aa:List (J9×Obj)}{σ σ':St}{H2 H':Hp}{s2 s':I0}{scope:V3}{cl:List (Str×J9)}{ms:List Bool}{ar:List Str}{tg iter elt:K3}{ifs:List K3}{g:TG}{tc:TT}{te:TE}{pos p:Pos}{B:BK}{gs:List X8}
theorem oQ(I2:Inv X aa σ H2 s2) {fp:List J9}(f2:∀b∈fp,eF X aa H2 b) {its:List s0}{n:Nat}{ys:List V}
  (I':Inv (aH X scope cl (X.N++ar) (s2.heap.objs.size+1) s2 H2 fp) [(s2.heap.objs.size,fI its n)] σ' H' s') (rv:az ys its) (hz:ys.length<=J1) {h':L7} (hs:S4 (s2.heap.objs.size+1) s'.heap h') :
  Inv X aa σ (upd H' s2.heap.objs.size (.lst ys)) { s' with heap:=h' }/\H' s2.heap.objs.size=none:=by
 have pacc:=I'.pin (s2.heap.objs.size,fI its n) (K6 _ O1)
 have hC:H' (s2.heap.objs.size+1)=none:=I'.free
 have hD:H' s2.heap.objs.size=none:=pacc.2.1
 have up:∀b o,b≠s2.heap.objs.size+1->s'.heap.get? b=some o->h'.get? b=some o:=fun b o hb e=>(hs.2 b hb).trans e
 have nD:∀b u,H' b=some u->b≠s2.heap.objs.size:=fun b u e z=>by rw[z,hD]at e;cases e
 have nC:∀b u,H' b=some u->b≠s2.heap.objs.size+1:=fun b u e z=>by rw[z,hC]at e;cases e
 have hacc:h'.get? s2.heap.objs.size=some (fI its n):=up _ _ (K2 (T6 _)) pacc.1
 have hok:HOk X.prog X.w (upd H' s2.heap.objs.size (.lst ys)) h':=fun b u e=>by
  by_cases hb:b=s2.heap.objs.size
  ·subst hb
   rw[aC]at e;cases e
   exact⟨hz,its,n,rv,hacc⟩
  ·rw[aJ hb]at e
   refine(I'.hok b u e).stay (fun c v hc q=>up c v ?_ q) (fun c q=>by rw[aJ (nD c _ q)];exact q) fun c xs q=>by rw[aJ (nD c _ q)];exact q
   rcases hc with rfl|hc
   ·exact nC _ _ e
   ·exact nC _ _ hc
 have un:Un (frs X.stack) fp H2 (upd H' s2.heap.objs.size (.lst ys)) s2.heap h':=by
  have U:=I'.base
  have ltD:∀b o,s2.heap.get? b=some o->b≠s2.heap.objs.size:=fun b o e=>K2 (J8 e)
  have ltC:∀b o,s2.heap.get? b=some o->b≠s2.heap.objs.size+1:=fun b o e=>K2 (Q6 (J8 e))
  refine⟨fun b o e nb hb hx=>up b o (ltC b o e) (U.keep b o e nb hb hx),fun b o e nb hb hx=>?_,fun b o e nb hx=>by rw[aJ (ltD b o e)];exact U.free b o e nb hx,fun b o e hx=>?_,
   fun b xs e=>by have q:=U.tups b xs e;rw[aJ (nD b _ q)];exact q,fun b o u e=>by have q:=U.frzs b o u e;rw[aJ (nD b _ q)];exact q,fun b ps e=>?_⟩
  ·obtain⟨sl,q⟩:=U.slot b o e nb hb hx
   exact⟨sl,up b _ (ltC b o e) q⟩
  ·obtain⟨o',q⟩:=U.there b o e hx
   exact⟨o',up b _ (ltC b o e) q⟩
  ·obtain⟨more,q⟩:=U.tbls b ps e
   exact⟨more,by rw[aJ (nD b _ q)];exact q⟩
 exact⟨I2.call' (s':={ s' with heap:=h' }) (ch:=fp) I'.os un hok I'.bare fun b hb=>⟨(f2 b hb).2.2.2.1,(f2 b hb).2.1,(f2 b hb).2.2.2.2.1,(f2 b hb).2.2.2.2.2⟩,hD⟩
def Bf(ms:List Bool) (k:Nat) (wi:TI) (g:TG) (tc:TT) (B:BK):TE:=fun σ H Q=>wi σ H fun J H1=>∃(W:Nat->Nat->List V->St->Hp->Prop) (Z:List V->St->Hp->Prop),(∃m,W 0 m [] (iS ms k σ) H1)/\kj J g tc B W Z /\
 ∀ys σ' H p,Z ys σ' H->H p=none->Q (.ref p) (upd H p (.lst ys))
abbrev tLc(ms:List Bool) (k:Nat) (wi:TI) (g:TG) (tc:TT) (te:TE):TE:=Bf ms k wi g tc (kY te)
abbrev LvC(X:Cx) (scope:V3) (cl:List (Str×J9)) (ar:List Str) (ce:K3) (p:Pos) (tg:K3) (ifs:List K3) (B:BK):Prop:=∀C s H ex D,ml (aH X scope cl (X.N++ar) C s H ex) D->Lv (aH X scope cl (X.N++ar) C s H ex) D ce 0 p tg ifs B
theorem z1(S:eG X scope cl ms ar) (fS:X.calm=true) {wi:TI}(hi:PI X tg iter wi)
  (hg:∀C s H ex,PG (aH X scope cl (X.N++ar) C s H ex) tg g) (hif:∀C s H ex,PIf (aH X scope cl (X.N++ar) C s H ex) ifs tc) (hL:LvC X scope cl ar (lcE elt (⟨tg,iter,ifs,0⟩::gs) scope pos) p tg ifs B)
  (hs:∀x,O6 iter X.env x=X5 x:=by intro _;rfl):PE X (lcE elt (⟨tg,iter,ifs,0⟩::gs) scope pos) (Bf ms ar.length wi g tc B):=by
 intro aa s σ H Q I h
 rw[eval_ListComp]
 refine wpAny_comprehension_free (use:=none) rfl hs S.clos S.kind S.names (thn (hi aa s σ H _ I h) fun v s1 h1=>thn h1 fun itv s2 h2=>?_)
 obtain⟨it,fp,tn,J,H2,e,I2,T,st2,f2,W,Z,⟨m0,w0⟩,turn,q⟩:=h2
 subst e
 refine pO S fS hg hif hL I2 T st2 f2 w0 turn (RR:=fun acc C=>compPost (K9 X.prog X.w) X.A X.xe none (EP X aa σ Q) acc C) ?_
 intro s' ys its n σ' H' I' rv hz hZ
 obtain⟨m,hm,_⟩:=I'.loc
 refine⟨m,hm,fun h' hs'=>?_⟩
 obtain⟨I3,hD⟩:=oQ I2 f2 I' rv hz hs'
 exact⟨.ref s2.heap.objs.size,_,I3,rfl,q ys _ H' _ hZ hD⟩
theorem o9{i:Nat}{x:Str}{spos pos':Pos}(hN:X.N.Nodup) (hix:X.N[i]?=some x) (hx:X.env.scope.names.lookup x=some .local)
  (hsw:Y1 (lcE elt (⟨tg,iter,ifs,0⟩::gs) scope pos) (some (.Name x pos')) spos.line X.env=X5 true)
  (S:eG X scope cl ms ar) (fS:X.calm=true) {wi:TI} (hi:PI X tg iter wi)
  (hg:∀C s H ex,PG (aH X scope cl (X.N++ar) C s H ex) tg g) (hif:∀C s H ex,PIf (aH X scope cl (X.N++ar) C s H ex) ifs tc) (hL:LvC X scope cl ar (lcE elt (⟨tg,iter,ifs,0⟩::gs) scope pos) p tg ifs B)
  (hs:∀x,O6 iter X.env x=X5 x:=by intro _;rfl):PS X (.Assign [.Name x pos'] (lcE elt (⟨tg,iter,ifs,0⟩::gs) scope pos) spos) (Fe (Bf ms ar.length wi g tc B) (rS i)):=by
 intro aa s σ H D I h
 rw[exec_Assign_Name_used _ _ _ _ hsw]
 refine u8 (X7 (u8 ?_))
 show K4 _ _ (do let _ <-Z5 (lcE elt (⟨tg,iter,ifs,0⟩::gs) scope pos) scope X.env _ (newList []) false (T4 iter X.env) (some (Y8 (.Name x pos') X.env))) _ _ s
 refine u8 (N4 (wpAny_comprehension_free (use:=some (Y8 (.Name x pos') X.env)) (Q:=fun _ s'=>SP X aa D .next s') rfl hs S.clos S.kind S.names
  (thn (hi aa s σ H _ I h) fun v s1 h1=>thn h1 fun itv s2 h2=>?_)) (fun _ s' hq=>J4 (J4 hq)) fun _ _ e=>e)
 obtain⟨it,fp,tn,J,H2,e,I2,T,st2,f2,W,Z,⟨m0,w0⟩,turn,q⟩:=h2
 subst e
 refine pO S fS hg hif hL I2 T st2 f2 w0 turn (RR:=fun acc C=>compPost (K9 X.prog X.w) X.A X.xe (some (Y8 (.Name x pos') X.env)) (fun _ s'=>SP X aa D .next s') acc C) ?_
 intro s' ys its n σ' H' I' rv hz hZ
 obtain⟨m,hm,_⟩:=I'.loc
 obtain⟨I3,hD⟩:=oQ I2 f2 I' rv hz (S4.refl (s2.heap.objs.size+1) s'.heap)
 have hq:=q ys _ H' _ hZ hD
 show K4 _ _ (Y8 (.Name x pos') X.env (.ref s2.heap.objs.size)) _ _ _
 refine wpAny_assign_Name (oT I3 hN hix (.inl hx) (v:=.ref s2.heap.objs.size) rfl (fun s4 I4 hsame=>?_) (.inr hx))
 obtain⟨a,hsb,ha⟩:=hsame
 have hLC:s2.heap.objs.size+1≠X.env.locals:=aa4 (Q6 I2.lt)
 have haC:s2.heap.objs.size+1≠a:=by
  rcases ha with rfl|ha
  ·exact hLC
  ·intro z
   obtain⟨v,o,ho,_⟩:=I2.cell x a ha
   exact absurd (Q6 (J8 ho)) (by rw[<-z];exact S5 _)
 have hCn:upd H' s2.heap.objs.size (.lst ys) (s2.heap.objs.size+1)=none:=by rw[aJ (aa4 (T6 _))];exact I'.free
 refine⟨m,hm.sameBut hsb haC,fun h' hs'=>?_⟩
 refine⟨_,_,?_,hq⟩
 have hL:∀b o,b≠s2.heap.objs.size+1->s4.heap.get? b=some o->h'.get? b=some o:=fun b o hb e=>(hs'.2 b hb).trans e
 have I5:=Inv.turned (t':=s4.toks) (h':=h') (it:=s2.heap.objs.size+1) I4 (fun b o hb e=>hL b o hb e) hCn hLC (.inr (Nat.le_succ_of_le I2.sz)) (fun y c e=>by
  obtain⟨v,o,ho,_⟩:=I2.cell y c e
  exact K2 (Q6 (J8 ho))) (fun p hp=>by
  exact K2 (Q6 (J8 (I2.pin p hp).1)))
 exact I5
theorem yx(he:∀C s H ex,PE (aH X scope cl (X.N++ar) C s H ex) elt te):LvC X scope cl ar (lcE elt [⟨tg,iter,ifs,0⟩] scope pos) iter.pos tg ifs (kY te):=fun _ _ _ _ _ c=>qL c (he _ _ _ _) fun _ _ _=>rfl
end
/-! ### deep data: tuples and lists that stay as they are stand as values;ref: the address of a cell that is ours to change -/
inductive Bx where
 |dk (ks:List Key)|dt (ks:List (List Key))|ins (C:J9) (fs:List Str)|key
 deriving Inhabited
inductive D where
 |non|bl (b:Bool)|int (i:Int)|str (x:Str)|tup (ds:List D)|lst (ds:List D)|scr (ds:List D)|emp|ref (a:J9)|box (t:Bx) (ds:List D)
 deriving Inhabited
inductive HD where
 |lst (ds:List D)|dK (kvs:List (Key×D))|dT (kvs:List (List Key×D))|dKr (o:Obj) (ks:List (Key×V)) (kvs:List (Key×D))|ins (C:J9) (fs:List (Str×D))
 deriving Inhabited
abbrev DH:=J9->Option HD
def au(M:DH) (a:J9) (o:HD):DH:=fun b=>if b=a then some o else M b
def i5(M:DH) (a:J9):DH:=fun b=>if b=a then none else M b
abbrev noM:DH:=fun _=>none
theorem ai{M:DH}{a:J9}{o:HD}:au M a o a=some o:=if_pos rfl
theorem aw{M:DH}{a b:J9}{o:HD}(h:b≠a):au M a o b=M b:=if_neg h
theorem ay{M:DH}{a:J9}{o u:HD}:au (au M a o) a u=au M a u:=by
 funext b;unfold au;split<;>rfl
theorem dY{M:DH}{a:J9}:i5 M a a=none:=if_pos rfl
theorem lV{M:DH}{a b:J9}(h:b≠a):i5 M a b=M b:=if_neg h
theorem jM{M:DH}{a:J9}{o:HD}(h:M a=none):i5 (au M a o) a=M:=by
 funext b;unfold i5 au;split
 ·rename_i e;rw[e,h]
 ·rfl
theorem o4{M:DH}{a:J9}{o:HD}(h:M a=some o):au M a o=M:=by
 funext b;unfold au;split
 ·rename_i e;rw[e,h]
 ·rfl
def pG(K:o0) (M:DH) (H:Hp) (a:J9) (vs:List V):Prop:=(Rd H a (.tup vs)/\M a=none)∨SqT K (fun _=>none) a vs
def ve(M:DH) (H:Hp) (a:J9) (vs:List V):Prop:=H a=some (.lst vs)/\M a=none
def pX(K:o0) (M:DH) (H:Hp) (a:J9) (vs:List V):Prop:=((∃o,H a=some (.frz o (.lst vs)))/\M a=none)∨SqL K (fun _=>none) a vs
def F1(M:DH) (H:Hp) (a:J9):Prop:=H a=some (.dK [])/\M a=none
def gE(M:DH) (H:Hp) (a:J9):Bx->List V->Prop
 |.dk ks,vs=>ks.length=vs.length/\(∃o,H a=some (.frz o (.dK (ks.zip vs))))/\M a=none
 |.dt ks,vs=>ks.length=vs.length/\(∃o,H a=some (.frz o (.dT (ks.zip vs))))/\M a=none
 |.ins C fs,vs=>fs.length=vs.length/\(∃dx,H a=some (.ins C dx (fs.zip vs)))/\M a=none
 |.key,vs=>True/\(∃_u:Unit,H a=some (.tup vs))/\M a=none
mutual
def Rep(K:o0) (M:DH) (H:Hp):D->V->Prop
 |.non,v=>v=.non
 |.bl b,v=>v=.bl b
 |.int i,v=>v=.int i
 |.str x,v=>v=.str x
 |.tup ds,v=>∃a vs,v=.ref a/\pG K M H a vs/\am K M H ds vs
 |.lst ds,v=>∃a vs,v=.ref a/\ve M H a vs/\am K M H ds vs
 |.scr ds,v=>∃a vs,v=.ref a/\pX K M H a vs/\am K M H ds vs
 |.emp,v=>∃a,v=.ref a/\F1 M H a
 |.ref a,v=>v=.ref a
 |.box t ds,v=>∃a vs,v=.ref a/\gE M H a t vs/\am K M H ds vs
def am(K:o0) (M:DH) (H:Hp):List D->List V->Prop
 |[],vs=>vs=[]
 |d::ds,vs=>∃v ws,vs=v::ws/\Rep K M H d v/\am K M H ds ws
end
def Ext(M:DH) (H:Hp) (M':DH) (H':Hp):Prop:=∀a o,H a=some o->M a=none->H' a=some o/\M' a=none
theorem Ext.refl(M:DH) (H:Hp):Ext M H M H:=fun _ _ h n=>⟨h,n⟩
theorem Ext.trans{M M1 M2:DH}{H H1 H2:Hp}(a:Ext M H M1 H1) (b:Ext M1 H1 M2 H2):Ext M H M2 H2:=fun c o h n=>b c o (a c o h n).1 (a c o h n).2
variable{K:o0}{M M' M1 M2:DH}{H H' H1 H2:Hp}
theorem pG.ext{a:J9}{vs:List V}(h:pG K M H a vs) (e:Ext M H M' H'):pG K M' H' a vs:=by
 rcases h with⟨r|⟨o,r⟩,n⟩|h
 ·exact .inl ⟨.inl (e a _ r n).1,(e a _ r n).2⟩
 ·exact .inl ⟨.inr ⟨o,(e a _ r n).1⟩,(e a _ r n).2⟩
 ·exact .inr h
theorem ve.ext{a:J9}{vs:List V}(h:ve M H a vs) (e:Ext M H M' H'):ve M' H' a vs:=e a _ h.1 h.2
theorem pX.ext{a:J9}{vs:List V}(h:pX K M H a vs) (e:Ext M H M' H'):pX K M' H' a vs:=by
 rcases h with⟨⟨o,r⟩,n⟩|h
 ·exact .inl ⟨⟨o,(e a _ r n).1⟩,(e a _ r n).2⟩
 ·exact .inr h
theorem gE.ext{a:J9}{t:Bx}{vs:List V}(h:gE M H a t vs) (e:Ext M H M' H'):gE M' H' a t vs:=by
 cases t<;>(obtain⟨l,⟨o,r⟩,n⟩:=h;exact⟨l,⟨o,(e a _ r n).1⟩,(e a _ r n).2⟩)
mutual
theorem Rep.ext:∀{d:D}{v:V},Rep K M H d v->Ext M H M' H'->Rep K M' H' d v
 |.non,_,h,_=>h
 |.bl _,_,h,_=>h
 |.int _,_,h,_=>h
 |.str _,_,h,_=>h
 |.ref _,_,h,_=>h
 |.emp,_,h,e=>by
  simp only[Rep]at h ⊢
  obtain⟨a,rfl,h1,h2⟩:=h
  exact⟨a,rfl,e a _ h1 h2⟩
 |.tup ds,_,h,e=>by
  simp only[Rep]at h ⊢
  obtain⟨a,vs,rfl,h1,h2⟩:=h
  exact⟨a,vs,rfl,h1.ext e,am.ext h2 e⟩
 |.lst ds,_,h,e=>by
  simp only[Rep]at h ⊢
  obtain⟨a,vs,rfl,h1,h2⟩:=h
  exact⟨a,vs,rfl,h1.ext e,am.ext h2 e⟩
 |.scr ds,_,h,e=>by
  simp only[Rep]at h ⊢
  obtain⟨a,vs,rfl,h1,h2⟩:=h
  exact⟨a,vs,rfl,h1.ext e,am.ext h2 e⟩
 |.box t ds,_,h,e=>by
  simp only[Rep]at h ⊢
  obtain⟨a,vs,rfl,h1,h2⟩:=h
  exact⟨a,vs,rfl,h1.ext e,am.ext h2 e⟩
theorem am.ext:∀{ds:List D}{vs:List V},am K M H ds vs->Ext M H M' H'->am K M' H' ds vs
 |[],_,h,_=>h
 |d::ds,_,h,e=>by
  simp only[am]at h ⊢
  obtain⟨v,ws,rfl,h1,h2⟩:=h
  exact⟨v,ws,rfl,Rep.ext h1 e,am.ext h2 e⟩
end
theorem am.length:∀{ds:List D}{vs:List V},am K M H ds vs->ds.length=vs.length
 |[],_,h=>by simp only[am]at h;subst h;rfl
 |d::ds,_,h=>by
  simp only[am]at h
  obtain⟨v,ws,rfl,h1,h2⟩:=h
  simp[am.length h2]
theorem am.nil:am K M H [] []:=by simp[am]
theorem am.cons{d:D}{v:V}{ds:List D}{vs:List V}(h:Rep K M H d v) (t:am K M H ds vs):am K M H (d::ds) (v::vs):=by
 simp only[am];exact⟨v,vs,rfl,h,t⟩
theorem am.append:∀{ds es:List D}{vs ws:List V},am K M H ds vs->am K M H es ws->am K M H (ds++es) (vs++ws)
 |[],_,_,_,h,t=>by simp only[am]at h;subst h;exact t
 |d::ds,es,_,ws,h,t=>by
  simp only[am]at h
  obtain⟨v,us,rfl,h1,h2⟩:=h
  exact am.cons h1 (am.append h2 t)
theorem am.get:∀{ds:List D}{vs:List V}{i:Nat}{d:D},am K M H ds vs->ds[i]?=some d->∃v,vs[i]?=some v/\Rep K M H d v
 |[],_,_,_,_,e=>by simp at e
 |d::ds,_,0,x,h,e=>by
  simp only[am]at h
  obtain⟨v,us,rfl,h1,h2⟩:=h
  simp at e;subst e
  exact⟨v,rfl,h1⟩
 |d::ds,_,i+1,x,h,e=>by
  simp only[am]at h
  obtain⟨v,us,rfl,h1,h2⟩:=h
  obtain⟨w,a,b⟩:=am.get (i:=i) (d:=x) h2 (by simpa using e)
  exact⟨w,by simpa using a,b⟩
theorem am.take:∀{ds:List D}{vs:List V}(n:Nat),am K M H ds vs->am K M H (ds.take n) (vs.take n)
 |ds,vs,0,_=>by simp[am]
 |[],_,n+1,h=>by simp only[am]at h;subst h;simp[am]
 |d::ds,_,n+1,h=>by
  simp only[am]at h
  obtain⟨v,us,rfl,h1,h2⟩:=h
  exact am.cons h1 (am.take n h2)
theorem am.drop:∀{ds:List D}{vs:List V}(n:Nat),am K M H ds vs->am K M H (ds.drop n) (vs.drop n)
 |ds,vs,0,h=>h
 |[],_,n+1,h=>by simp only[am]at h;subst h;simp[am]
 |d::ds,_,n+1,h=>by
  simp only[am]at h
  obtain⟨v,us,rfl,h1,h2⟩:=h
  exact am.drop n h2
theorem am.set:∀{ds:List D}{vs:List V}{d:D}{v:V}(n:Nat),am K M H ds vs->Rep K M H d v->am K M H (ds.set n d) (vs.set n v)
 |[],_,_,_,n,h,r=>by simp only[am]at h;subst h;simp[am]
 |d::ds,_,_,_,0,h,r=>by
  simp only[am]at h
  obtain⟨v,us,rfl,h1,h2⟩:=h
  exact am.cons r h2
 |d::ds,_,_,_,n+1,h,r=>by
  simp only[am]at h
  obtain⟨v,us,rfl,h1,h2⟩:=h
  exact am.cons h1 (am.set n h2 r)
theorem am.one{d:D}{vs:List V}(h:am K M H [d] vs):∃v,vs=[v]/\Rep K M H d v:=by
 simp only[am]at h
 obtain⟨v,us,rfl,h1,rfl⟩:=h
 exact⟨v,rfl,h1⟩
def KR(K:o0) (M:DH) (H:Hp) {κ:Type}:List (κ×D)->List (κ×V)->Prop:=Q7 fun p q=>p.1=q.1/\Rep K M H p.2 q.2
theorem KR.ext{κ:Type}{kvs:List (κ×D)}{ks:List (κ×V)}(h:KR K M H kvs ks) (e:Ext M H M' H'):KR K M' H' kvs ks:=Q7.imp' (fun _ _ r=>⟨r.1,r.2.ext e⟩) h
def nX(K:o0) (M:DH) (H:Hp) (a:J9):HD->Prop
 |.lst ds=>∃vs,H a=some (.lst vs)/\am K M H ds vs
 |.dK kvs=>∃ks,H a=some (.dK ks)/\KR K M H kvs ks
 |.dT kvs=>∃ks,H a=some (.dT ks)/\KR K M H kvs ks
 |.dKr o ks kvs=>∃_u:Unit,H a=some (.frz o (.dK ks))/\KR K M H kvs ks
 |.ins C fs=>∃gs,(∃dx,H a=some (.ins C dx gs))/\KR K M H fs gs
def HR(K:o0) (M:DH) (H:Hp):Prop:=∀a o,M a=some o->nX K M H a o
theorem nX.some{a:J9}{o:HD}(h:nX K M H a o):∃u,H a=N6 u/\∀xs,u≠.tup xs/\∀ob,u≠.frz ob (.tup xs):=by
 cases o with
 |ins C fs=>obtain⟨gs,⟨dx,r⟩,_⟩:=h;exact⟨_,r,fun xs=>⟨(by intro z;cases z),(by intro ob z;cases z)⟩⟩
 |_=>obtain⟨vs,r,_⟩:=h;exact⟨_,r,fun xs=>⟨(by intro z;cases z),(by intro ob z;cases z)⟩⟩
theorem nX.keep{a:J9}{o:HD}(h:nX K M H a o) (e:Ext M H M' H') (q:H' a=H a):nX K M' H' a o:=by
 cases o with
 |ins C fs=>obtain⟨gs,⟨dx,r⟩,t⟩:=h;exact⟨gs,⟨dx,by rw[q];exact r⟩,t.ext e⟩
 |_=>obtain⟨vs,r,t⟩:=h;exact⟨vs,by rw[q];exact r,t.ext e⟩
theorem HR.fresh(h:HR K M H) {p:J9}(e:H p=none):M p=none:=by
 cases q:M p with
 |none=>rfl
 |some o =>
  obtain⟨u,r,_⟩:=(h p _ q).some
  rw[e]at r;cases r
theorem HR.nil:HR K noM H:=fun _ _ h=>nomatch h
theorem Ext.new{p:J9}{o:HO}(hr:HR K M H) (h:H p=none):Ext M H M (upd H p o):=fun a u e n=>by
 have:a≠p:=cq e h
 rw[aJ this];exact⟨e,n⟩
theorem HR.ext1(h:HR K M H) (e:Ext M H M H') (keep:∀a o,M a=some o->H' a=H a):HR K M H':=fun a o q=>(h a o q).keep e (keep a o q)
theorem HR.new{p:J9}{o:HO}(hr:HR K M H) (h:H p=none):HR K M (upd H p o):=hr.ext1 (Ext.new hr h) fun a u q=>by
 have:a≠p:=fun z=>by rw[z,hr.fresh h]at q;cases q
 rw[aJ this]
theorem Ext.own{p:J9}{o:HO}{u:HD}(h:H p=none):Ext M H (au M p u) (upd H p o):=fun a x e n=>by
 have:a≠p:=cq e h
 rw[aJ this,aw this];exact⟨e,n⟩
theorem HR.put{p:J9}{o:HO}{u:HD}(hr:HR K M H) (e:Ext M H (au M p u) (upd H p o)) (c:nX K (au M p u) (upd H p o) p u):HR K (au M p u) (upd H p o):=fun a w q=>by
 by_cases z:a=p
 ·subst z
  rw[ai]at q;cases q
  exact c
 ·rw[aw z]at q
  exact(hr a w q).keep e (aJ z)
theorem HR.own{p:J9}{ds:List D}{vs:List V}(hr:HR K M H) (h:H p=none) (r:am K M H ds vs):HR K (au M p (.lst ds)) (upd H p (.lst vs)) :=
 hr.put (Ext.own h) ⟨vs,aC,r.ext (Ext.own h)⟩
theorem Ext.write{a:J9}{o:HO}{u w:HD}(h:M a=some w):Ext M H (au M a u) (upd H a o):=fun b x e n=>by
 have:b≠a:=fun z=>by rw[z,h]at n;cases n
 rw[aJ this,aw this];exact⟨e,n⟩
theorem HR.write{a:J9}{w:HD}{ds:List D}{vs:List V}(hr:HR K M H) (h:M a=some w) (r:am K M H ds vs):HR K (au M a (.lst ds)) (upd H a (.lst vs)) :=
 hr.put (Ext.write h) ⟨vs,aC,r.ext (Ext.write h)⟩
/-! a smaller M: cells that are lent as they are -/
def LeM(M1 M:DH):Prop:=∀a o,M1 a=some o->M a=some o
theorem LeM.none(h:LeM M1 M) {a:J9}(n:M a=none):M1 a=none:=by
 cases q:M1 a with
 |none=>rfl
 |some o=>rw[h a o q]at n;cases n
theorem LeM.refl:LeM M M:=fun _ _ h=>h
theorem LeM.no:LeM noM M:=fun _ _ h=>nomatch h
theorem LeM.del{a:J9}:LeM (i5 M a) M:=fun b o h=>by
 unfold i5 at h;split at h
 ·cases h
 ·exact h
theorem Ext.le(h:LeM M1 M):Ext M H M1 H:=fun a o e n=>⟨e,h.none n⟩
theorem HR.le(hr:HR K M H) (h:LeM M1 M):HR K M1 H:=fun a o q=>(hr a o (h a o q)).keep (Ext.le h) rfl
theorem Rep.froze(hr:HR K M H) (h:LeM M1 M) {a:J9}{ds:List D}(e:M a=some (.lst ds)) (n:M1 a=none):Rep K M1 H (.lst ds) (.ref a):=by
 obtain⟨vs,r,t⟩:=hr a _ e
 simp only[Rep]
 exact⟨a,vs,rfl,⟨r,n⟩,t.ext (Ext.le h)⟩
def iP(M M1 M2:DH):DH:=fun a=>match M2 a with|some o=>some o|none=>if M1 a=none then M a else none
theorem Ext.back(h:LeM M1 M) (e:Ext M1 H M2 H2):Ext M H (iP M M1 M2) H2:=fun a o q n=>by
 obtain⟨h1,h2⟩:=e a o q (h.none n)
 refine⟨h1,?_⟩
 unfold iP
 rw[h2]
 simp[h.none n,n]
mutual
def noL:D->Bool
 |.tup ds=>lK ds
 |.lst _=>false
 |.scr _=>false
 |.emp=>false
 |.box _ _=>false
 |_=>true
def lK:List D->Bool
 |[]=>true
 |d::ds=>noL d&&lK ds
end
mutual
theorem Rep.hard:∀{d:D}{v:V},noL d=true->Rep K M H d v->(∀a xs,Rd H a (.tup xs)->M' a=none)->Rep K M' H d v
 |.non,_,_,h,_=>h
 |.bl _,_,_,h,_=>h
 |.int _,_,_,h,_=>h
 |.str _,_,_,h,_=>h
 |.ref _,_,_,h,_=>h
 |.emp,_,n,_,_=>by simp[noL]at n
 |.box _ _,_,n,_,_=>by simp[noL]at n
 |.lst _,_,n,_,_=>by simp[noL]at n
 |.scr _,_,n,_,_=>by simp[noL]at n
 |.tup ds,_,n,h,e=>by
  simp only[Rep]at h ⊢
  obtain⟨a,vs,rfl,h1,h2⟩:=h
  refine⟨a,vs,rfl,?_,am.hard (by simpa[noL]using n) h2 e⟩
  rcases h1 with⟨r,_⟩|r
  ·exact .inl ⟨r,e a vs r⟩
  ·exact .inr r
theorem am.hard:∀{ds:List D}{vs:List V},lK ds=true->am K M H ds vs->(∀a xs,Rd H a (.tup xs)->M' a=none)->am K M' H ds vs
 |[],_,_,h,_=>h
 |d::ds,_,n,h,e=>by
  simp only[am]at h ⊢
  obtain⟨v,ws,rfl,h1,h2⟩:=h
  simp only[lK,L6]at n
  exact⟨v,ws,rfl,Rep.hard n.1 h1 e,am.hard n.2 h2 e⟩
end
theorem c8(hr:HR K M H) (h:LeM M1 M) (e:Ext M1 H M2 H2) (h2:HR K M2 H2):∀a xs,Rd H2 a (.tup xs)->iP M M1 M2 a=none:=by
 intro a xs r
 unfold iP
 cases q:M2 a with
 |some o =>
  obtain⟨u,z,n⟩:=(h2 a _ q).some
  rcases r with r|⟨o,r⟩
  ·rw[z]at r;exact absurd (L8 r) (n xs).1
  ·rw[z]at r;exact absurd (L8 r) ((n xs).2 o)
 |none =>
  by_cases n:M1 a=none
  ·simp only[n,if_true]
   cases q2:M a with
   |none=>rfl
   |some o =>
    obtain⟨u,z,m⟩:=(hr a _ q2).some
    have z2:=(e a _ z n).1
    rcases r with r|⟨o,r⟩
    ·rw[z2]at r;exact absurd (L8 r) (m xs).1
    ·rw[z2]at r;exact absurd (L8 r) ((m xs).2 o)
  ·simp[n]
def noC:HD->Bool
 |.lst ds=>lK ds
 |.dK kvs=>lK (kvs.map (·.2))
 |.dT kvs=>lK (kvs.map (·.2))
 |.dKr _ _ kvs=>lK (kvs.map (·.2))
 |.ins _ fs=>lK (fs.map (·.2))
theorem KR.hard{κ:Type}{kvs:List (κ×D)}{ks:List (κ×V)}(h:KR K M H kvs ks) (n:lK (kvs.map (·.2))=true) (e:∀a xs,Rd H a (.tup xs)->M' a=none):KR K M' H kvs ks:=by
 unfold KR at h ⊢
 induction h with
 |nil=>exact .nil
 |cons r _ ih =>
  simp only[L3,lK,L6]at n
  exact .cons ⟨r.1,Rep.hard n.1 r.2 e⟩ (ih n.2)
theorem HR.back(hr:HR K M H) (h:LeM M1 M) (e:Ext M1 H M2 H2) (h2:HR K M2 H2) (hd:∀a o,M2 a=some o->noC o=true):HR K (iP M M1 M2) H2:=by
 have eb:Ext M H (iP M M1 M2) H2:=Ext.back h e
 intro a o q
 unfold iP at q
 cases q2:M2 a with
 |some o2 =>
  rw[q2]at q;cases q
  have c:=h2 a _ q2
  have n:=hd a _ q2
  cases o with
  |lst ds=>obtain⟨vs,z,t⟩:=c;exact⟨vs,z,am.hard n t (c8 hr h e h2)⟩
  |dK kvs=>obtain⟨vs,z,t⟩:=c;exact⟨vs,z,KR.hard t n (c8 hr h e h2)⟩
  |dT kvs=>obtain⟨vs,z,t⟩:=c;exact⟨vs,z,KR.hard t n (c8 hr h e h2)⟩
  |ins C fs=>obtain⟨vs,z,t⟩:=c;exact⟨vs,z,KR.hard t n (c8 hr h e h2)⟩
  |dKr o ks kvs=>obtain⟨vs,z,t⟩:=c;exact⟨vs,z,KR.hard t n (c8 hr h e h2)⟩
 |none =>
  rw[q2]at q
  by_cases n:M1 a=none
  ·simp only[n,if_true]at q
   have c:=hr a _ q
   obtain⟨u,z,_⟩:=c.some
   exact c.keep eb (by rw[z];exact(e a _ z n).1)
  ·simp[n]at q
/-! ### the frame's names -/
abbrev DE:=List (Option D)
def SR(K:o0) (M:DH) (H:Hp) (σ:St) (Δ:DE):Prop:=σ.length=Δ.length/\∀(i:Nat) (d:D),Δ[i]?=some (some d)->∃v,σ[i]?=some (some v)/\Rep K M H d v
theorem SR.ext{σ:St}{Δ:DE}(h:SR K M H σ Δ) (e:Ext M H M' H'):SR K M' H' σ Δ:=⟨h.1,fun i d q=>let⟨v,a,r⟩:=h.2 i d q;⟨v,a,r.ext e⟩⟩
theorem SR.set{σ:St}{Δ:DE}{d:D}{v:V}(h:SR K M H σ Δ) (i:Nat) (r:Rep K M H d v):SR K M H (σ.set i (some v)) (Δ.set i (some d)):=by
 refine⟨by simp[h.1],fun j e q=>?_⟩
 by_cases hj:j=i
 ·subst hj
  by_cases hl:j<Δ.length
  ·rw[U0 hl]at q;cases q
   exact⟨v,U0 (by rw[h.1];exact hl),r⟩
  ·rw[U5 (by simp;omega)]at q;cases q
 ·rw[List.getElem?_set_ne (X4 hj)]at q ⊢
  exact h.2 j e q
abbrev TEd:=DE->DH->(D->DH->Prop)->Prop
abbrev TAd:=DE->DH->(List D->DH->Prop)->Prop
abbrev TTd:=DE->DH->(Bool->DH->Prop)->Prop
structure fH where
 nx:DE->DH->Prop
 rt:D->DH->Prop
 bk:DE->DH->Prop:=fun _ _=>False
 ct:DE->DH->Prop:=fun _ _=>False
abbrev TSd:=fH->DE->DH->Prop
def up(K:o0) (t:TEd):TE:=fun σ H Q=>∃(Δ:DE) (M:DH) (R:D->DH->Prop),SR K M H σ Δ/\HR K M H/\t Δ M R /\
 ∀d M' v H',R d M'->Ext M H M' H'->HR K M' H'->Rep K M' H' d v->Q v H'
def upA(K:o0) (t:TAd):TA:=fun σ H Q=>∃(Δ:DE) (M:DH) (R:List D->DH->Prop),SR K M H σ Δ/\HR K M H/\t Δ M R /\
 ∀ds M' vs H',R ds M'->Ext M H M' H'->HR K M' H'->am K M' H' ds vs->Q vs H'
def upT(K:o0) (t:TTd):TT:=fun σ H Q=>∃(Δ:DE) (M:DH) (R:Bool->DH->Prop),SR K M H σ Δ/\HR K M H/\t Δ M R /\
 ∀b M' H',R b M'->Ext M H M' H'->HR K M' H'->Q b H'
theorem upT.el{K:o0}{t:TTd}{σ:St}{H:Hp}{Q:Bool->Hp->Prop}{P:Prop}(h:upT K t σ H Q) (f:∀(Δ:DE) (M:DH) (R:Bool->DH->Prop),SR K M H σ Δ->HR K M H->t Δ M R->(∀b M' H',R b M'->Ext M H M' H'->HR K M' H'->Q b H')->P):P:=by
 obtain⟨x1,x2,x3,a,b,c,d⟩:=h
 exact f x1 x2 x3 a b c d
theorem up.el{K:o0}{t:TEd}{σ:St}{H:Hp}{Q:VK}{P:Prop}(h:up K t σ H Q) (f:∀(Δ:DE) (M:DH) (R:D->DH->Prop),SR K M H σ Δ->HR K M H->t Δ M R->(∀d M' v H',R d M'->Ext M H M' H'->HR K M' H'->Rep K M' H' d v->Q v H')->P):P:=by
 obtain⟨x1,x2,x3,a,b,c,d⟩:=h
 exact f x1 x2 x3 a b c d
theorem upA.el{K:o0}{t:TAd}{σ:St}{H:Hp}{Q:List V->Hp->Prop}{P:Prop}(h:upA K t σ H Q) (f:∀(Δ:DE) (M:DH) (R:List D->DH->Prop),SR K M H σ Δ->HR K M H->t Δ M R->(∀ds M' vs H',R ds M'->Ext M H M' H'->HR K M' H'->am K M' H' ds vs->Q vs H')->P):P:=by
 obtain⟨x1,x2,x3,a,b,c,d⟩:=h
 exact f x1 x2 x3 a b c d
structure UpE(K:o0) (E:fH) (D:tH) (M:DH) (H:Hp):Prop where
 nx:∀ Δ' M' σ' H',E.nx Δ' M'->Ext M H M' H'->HR K M' H'->SR K M' H' σ' Δ'->D.nx σ' H'
 bk:∀ Δ' M' σ' H',E.bk Δ' M'->Ext M H M' H'->HR K M' H'->SR K M' H' σ' Δ'->D.bk σ' H'
 ct:∀ Δ' M' σ' H',E.ct Δ' M'->Ext M H M' H'->HR K M' H'->SR K M' H' σ' Δ'->D.ct σ' H'
 rt:∀d M' v H',E.rt d M'->Ext M H M' H'->HR K M' H'->Rep K M' H' d v->D.rt v H'
theorem UpE.ext{E:fH}{D:tH}(u:UpE K E D M H) (e:Ext M H M' H'):UpE K E D M' H' :=
 ⟨fun a b c d h x=>u.nx a b c d h (e.trans x),fun a b c d h x=>u.bk a b c d h (e.trans x),fun a b c d h x=>u.ct a b c d h (e.trans x),fun a b c d h x=>u.rt a b c d h (e.trans x)⟩
def upS(K:o0) (t:TSd):TS:=fun D σ H=>∃(Δ:DE) (M:DH) (E:fH),SR K M H σ Δ/\HR K M H/\t E Δ M/\UpE K E D M H
theorem upS.el{K:o0}{t:TSd}{E:tH}{σ:St}{H:Hp}{P:Prop}(h:upS K t E σ H) (f:∀(Δ:DE) (M:DH) (R:fH),SR K M H σ Δ->HR K M H->t R Δ M->UpE K R E M H->P):P:=by
 obtain⟨x1,x2,x3,a,b,c,d⟩:=h
 exact f x1 x2 x3 a b c d
def PEd(X:Cx) (e:K3) (t:TEd):Prop:=PE X e (up X.K t)
def PAd(X:Cx) (es:List K3) (t:TAd):Prop:=PA X es (upA X.K t)
def PTd(X:Cx) (e:K3) (t:TTd):Prop:=PT X e (upT X.K t)
def PWd(X:Cx) (e:K3) (t:TTd):Prop:=PW X e (upT X.K t)
def PSd(X:Cx) (st:aa0) (t:TSd):Prop:=PS X st (upS X.K t)
def By(X:Cx) (st:List aa0) (t:TSd):Prop:=PSs X st (upS X.K t)
theorem PE.conv{X:Cx}{e:K3}{t t':TE}(h:PE X e t) (k:∀ σ H Q,t' σ H Q->t σ H Q):PE X e t':=fun p s σ H Q I q=>h p s σ H Q I (k σ H Q q)
theorem PT.conv{X:Cx}{e:K3}{t t':TT}(h:PT X e t) (k:∀ σ H Q,t' σ H Q->t σ H Q):PT X e t':=fun p s σ H Q I q=>h p s σ H Q I (k σ H Q q)
theorem PA.conv{X:Cx}{e:List K3}{t t':TA}(h:PA X e t) (k:∀ σ H Q,t' σ H Q->t σ H Q):PA X e t':=fun ps p s σ H Q I q=>h ps p s σ H Q I (k σ H Q q)
theorem PS.conv{X:Cx}{e:aa0}{t t':TS}(h:PS X e t) (k:∀D σ H,t' D σ H->t D σ H):PS X e t':=fun p s σ H D I q=>h p s σ H D I (k D σ H q)
theorem PSs.conv{X:Cx}{e:List aa0}{t t':TS}(h:PSs X e t) (k:∀D σ H,t' D σ H->t D σ H):PSs X e t':=fun p s σ H D I q=>h p s σ H D I (k D σ H q)
section
variable{X:Cx}{a b c:K3}{es:List K3}{ta tb:TEd}{pos:Pos}
def bK(i:Nat):TEd:=fun Δ M Q=>∃d,Δ[i]?=some (some d)/\Q d M
def dC(d:D):TEd:=fun _ M Q=>Q d M
theorem Bb{x:Str}{i:Int}{t:Tok}{pos:Pos}(hg:Gl X x) (hm:X.mg x=some (.int i t)) (hd:(x==("__debug__":Str))=false:=by decide):PEd X (.Name x pos) (dC (.int i)) :=
 (qx (v:=.int i) hg hm ⟨t,rfl⟩ hd).conv fun σ H Q hup=>hup.el fun Δ M R sr hr q k=>k _ M _ H q (Ext.refl _ _) hr (by simp[Rep])
theorem A3{x y:Str}{t:Tok}{pos:Pos}(hg:Gl X x) (hm:X.mg x=some (.str y t)) (hd:(x==("__debug__":Str))=false:=by decide):PEd X (.Name x pos) (dC (.str y)) :=
 (qx (v:=.str y) hg hm ⟨t,rfl⟩ hd).conv fun σ H Q hup=>hup.el fun Δ M R sr hr q k=>k _ M _ H q (Ext.refl _ _) hr (by simp[Rep])
/-! two in a row -/
def fu:TAd:=fun _ M Q=>Q [] M
def cx(ta:TEd) (tr:TAd):TAd:=fun Δ M Q=>ta Δ M fun x M1=>tr Δ M1 fun xs M2=>Q (x::xs) M2
def uv(t:TAd):TEd:=fun Δ M Q=>t Δ M fun ds M1=>ds.length<=J1/\Q (.tup ds) M1
def BP(t:TAd):TEd:=fun Δ M Q=>t Δ M fun ds M1=>ds.length<=J1/\Q (.lst ds) M1
def Dc(t:TAd):TEd:=fun Δ M Q=>t Δ M fun ds M1=>ds.length<=J1/\∀p,M1 p=none->Q (.ref p) (au M1 p (.lst ds))
/-! ### values as they are read -/
def rdM(M:DH):D->D
 |.ref a=>match M a with|some (.lst ds)=>.lst ds|_=>.ref a
 |d=>d
def aQ(K:o0) (M:DH) (H:Hp) (d:D) (v:V):Prop:=match d with
 |.tup ds=>∃a vs,v=.ref a/\SqT K H a vs/\am K M H ds vs
 |.lst ds=>∃a vs,v=.ref a/\H a=some (.lst vs)/\am K M H ds vs
 |.scr ds=>∃a vs,v=.ref a/\SqL K H a vs/\am K M H ds vs
 |d=>Rep K M H d v
theorem pG.sq{K:o0}{M:DH}{H:Hp}{a:J9}{vs:List V}(h:pG K M H a vs):SqT K H a vs:=by
 rcases h with⟨h,_⟩|h
 ·exact .inl h
 ·rcases h with(h|⟨_,h⟩)|h
  ·cases h
  ·cases h
  ·exact .inr h
theorem pX.sq{K:o0}{M:DH}{H:Hp}{a:J9}{vs:List V}(h:pX K M H a vs):SqL K H a vs:=by
 rcases h with⟨⟨o,h⟩,_⟩|h
 ·exact .inl (.inr ⟨o,h⟩)
 ·rcases h with(h|⟨_,h⟩)|h
  ·cases h
  ·cases h
  ·exact .inr h
theorem Rep.rd{K:o0}{M:DH}{H:Hp}{d:D}{v:V}(hr:HR K M H) (h:Rep K M H d v):aQ K M H (rdM M d) v:=by
 cases d with
 |tup ds=>simp only[Rep]at h;obtain⟨a,vs,e,t,r⟩:=h;exact⟨a,vs,e,t.sq,r⟩
 |lst ds=>simp only[Rep]at h;obtain⟨a,vs,e,t,r⟩:=h;exact⟨a,vs,e,t.1,r⟩
 |scr ds=>simp only[Rep]at h;obtain⟨a,vs,e,t,r⟩:=h;exact⟨a,vs,e,t.sq,r⟩
 |ref a =>
  simp only[rdM]
  cases q:M a with
  |none=>exact h
  |some o =>
   cases o with
   |lst ds =>
    obtain⟨vs,e,r⟩:=hr a _ q
    simp only[Rep]at h
    exact⟨a,vs,h,e,r⟩
   |dK _=>exact h
   |dT _=>exact h
   |dKr _ _ _=>exact h
   |ins _ _=>exact h
 |non=>exact h
 |bl b=>exact h
 |int i=>exact h
 |str x=>exact h
 |emp=>exact h
 |box _ _=>exact h
def bW(X:Cx) (f:s0->s0->Sem s0) (r:D->D->Option D):Prop :=
 ∀(aa:List (J9×Obj)) (s:I0) (σ:St) (H:Hp) (M:DH) (x y:V) (v u:s0) (dx dy dz:D) (Q:VK),Inv X aa σ H s->HR X.K M H->aD x v->aD y u->aQ X.K M H dx x->aQ X.K M H dy y->r dx dy=some dz ->
  (∀w H',Ext M H M H'->HR X.K M H'->Rep X.K M H' dz w->Q w H')->K4 (K9 X.prog X.w) X.A (f v u) (EP X aa σ Q) X.xe s
def Gx(X:Cx) (f:s0->Sem s0) (r:D->Option D):Prop :=
 ∀(aa:List (J9×Obj)) (s:I0) (σ:St) (H:Hp) (M:DH) (x:V) (v:s0) (dx dz:D) (Q:VK),Inv X aa σ H s->HR X.K M H->aD x v->aQ X.K M H dx x->r dx=some dz ->
  (∀w H',Ext M H M H'->HR X.K M H'->Rep X.K M H' dz w->Q w H')->K4 (K9 X.prog X.w) X.A (f v) (EP X aa σ Q) X.xe s
def cb(X:Cx) (f:s0) (r:List D->Option D):Prop :=
 ∀(aa:List (J9×Obj)) (s:I0) (σ:St) (H:Hp) (M:DH) (xs:List V) (us:List s0) (ds:List D) (dz:D) (Q:VK),Inv X aa σ H s->HR X.K M H->az xs us->Q7 (aQ X.K M H) ds xs->r ds=some dz ->
  (∀w H',Ext M H M H'->HR X.K M H'->Rep X.K M H' dz w->Q w H')->K4 (K9 X.prog X.w) X.A (call f us) (EP X aa σ Q) X.xe s
def dOp(r:D->D->Option D) (ta tb:TEd):TEd:=fun Δ M Q=>ta Δ M fun x M1=>tb Δ M1 fun y M2=>∃z,r (rdM M2 x) (rdM M2 y)=some z/\Q z M2
def dUn(r:D->Option D) (ta:TEd):TEd:=fun Δ M Q=>ta Δ M fun x M1=>∃z,r (rdM M1 x)=some z/\Q z M1
def opV(K:o0) (r:D->D->Option D):R2:=fun x y H Q=>∃dx dy dz M,HR K M H/\aQ K M H dx x/\aQ K M H dy y/\r dx dy=some dz/\∀w H',Ext M H M H'->HR K M H'->Rep K M H' dz w->Q w H'
theorem bW.v{f:s0->s0->Sem s0}{r:D->D->Option D}(h:bW X f r):OpR X f (opV X.K r):=fun aa s σ H x y v u Q I rx ry ⟨dx,dy,dz,M,hr,r1,r2,e,k⟩=>h aa s σ H M x y v u dx dy dz Q I hr rx ry r1 r2 e k
theorem xy{K:o0}{r:D->D->Option D}{ta tb:TEd}:∀ σ H Q,up K (dOp r ta tb) σ H Q->tOp (opV K r) (up K ta) (up K tb) σ H Q:=fun σ H Q hup=>hup.el fun Δ M R sr hr q k =>
 ⟨Δ,M,_,sr,hr,q,fun x M1 v H1 q1 e1 hr1 rv=>⟨Δ,M1,_,sr.ext e1,hr1,q1,fun y M2 u H2 ⟨z,ez,q2⟩ e2 hr2 ru=>⟨_,_,z,M2,hr2,(rv.ext e2).rd hr2,ru.rd hr2,ez,fun w H' e3 hr3 rw_=>k z M2 w H' q2 ((e1.trans e2).trans e3) hr3 rw_⟩⟩⟩
/-! tests -/
def ow(t:TEd):TTd:=fun Δ M Q=>t Δ M fun x M1=>∃k,x=.bl k/\Q k M1
theorem FA{K:o0}{t:TEd}:∀ σ H Q,upT K (ow t) σ H Q->CO (up K t) σ H Q:=fun σ H Q hup=>hup.el fun Δ M R sr hr q k =>
 ⟨Δ,M,_,sr,hr,q,fun d M1 v H1 ⟨b,e,q1⟩ e1 hr1 rv=>⟨b,by subst e;simpa only[Rep]using rv,k b M1 H1 q1 e1 hr1⟩⟩
def CN(t:TTd):TTd:=fun Δ M Q=>t Δ M fun c M1=>Q (!c) M1
def yq(t u:TTd):TTd:=fun Δ M Q=>t Δ M fun c M1=>if c=true then u Δ M1 Q else Q false M1
def Gv(t u:TTd):TTd:=fun Δ M Q=>t Δ M fun c M1=>if c=true then Q true M1 else u Δ M1 Q
variable{tA tB':TTd}{rest:List K3}
theorem PW.conv{X:Cx}{e:K3}{t t':TT}(h:PW X e t) (k:∀ σ H Q,t' σ H Q->t σ H Q):PW X e t':=fun w p s σ H Q I q=>h w p s σ H Q I (k σ H Q q)
theorem PWd.pt{e:K3}{t:TTd}(h:PWd X e t):PTd X e t:=PW.pt h
/-! and,or,not,if as values -/
def Ft(ta tb:TEd):TEd:=fun Δ M Q=>ta Δ M fun x M1=>∃c,x=.bl c/\if c=true then tb Δ M1 Q else Q (.bl false) M1
def dIf(t:TTd) (ta tb:TEd):TEd:=fun Δ M Q=>t Δ M fun c M1=>if c=true then ta Δ M1 Q else tb Δ M1 Q
/-! a<b<c -/
def xT(r r':D->D->Option D) (ta tb tc:TEd):TEd:=fun Δ M Q=>ta Δ M fun x M1=>tb Δ M1 fun y M2=>∃k,r (rdM M2 x) (rdM M2 y)=some (.bl k)/\if k=true then tc Δ M2 fun z M3=>∃w,r' (rdM M3 y) (rdM M3 z)=some w/\Q w M3 else Q (.bl false) M2
/-! calls of what is built in -/
theorem vd{K:o0}{M:DH}{H:Hp}(hr:HR K M H):∀{ds:List D}{vs:List V},am K M H ds vs->Q7 (aQ K M H) (ds.map (rdM M)) vs
 |[],_,h=>by simp only[am]at h;subst h;exact .nil
 |d::ds,_,h=>by
  simp only[am]at h
  obtain⟨v,ws,rfl,h1,h2⟩:=h
  exact .cons (h1.rd hr) (vd hr h2)
def dCB(r:List D->Option D) (t:TAd):TEd:=fun Δ M Q=>t Δ M fun ds M1=>∃z,r (ds.map (rdM M1))=some z/\Q z M1
theorem C6{K:o0}{r:List D->Option D}{t:TAd}:∀ σ H Q,up K (dCB r t) σ H Q->tCB (fun xs H Q=>∃ds dz M,HR K M H/\Q7 (aQ K M H) ds xs/\r ds=some dz/\∀w H',Ext M H M H'->HR K M H'->Rep K M H' dz w->Q w H') (upA K t) σ H Q:=fun σ H Q hup=>hup.el fun Δ M R sr hr q k =>
 ⟨Δ,M,_,sr,hr,q,fun ds M1 vs H1 ⟨z,ez,q1⟩ e1 hr1 rv=>⟨_,z,M1,hr1,vd hr1 rv,ez,fun w H' e2 hr2 r2=>k z M1 w H' q1 (e1.trans e2) hr2 r2⟩⟩
theorem cb.v{f:s0}{r:List D->Option D}(h:cb X f r):dN X f (fun xs H Q=>∃ds dz M,HR X.K M H/\Q7 (aQ X.K M H) ds xs/\r ds=some dz/\∀w H',Ext M H M H'->HR X.K M H'->Rep X.K M H' dz w->Q w H') :=
 fun aa s σ H xs us Q I rv ⟨ds,dz,M,hr,rr,e,k⟩=>h aa s σ H M xs us ds dz Q I hr rv rr e k
end
section
variable{X:Cx}
theorem bW.of{f:s0->s0->Sem s0}{r2:R2}{r:D->D->Option D}(h:OpR X f r2)
  (k:∀(H:Hp) (M:DH) (x y:V) (dx dy dz:D) (Q:VK),HR X.K M H->aQ X.K M H dx x->aQ X.K M H dy y->r dx dy=some dz->(∀w H',Ext M H M H'->HR X.K M H'->Rep X.K M H' dz w->Q w H')->r2 x y H Q):bW X f r :=
 fun aa s σ H M x y v u dx dy dz Q I hr rx ry r1 r2 e q=>h aa s σ H x y v u Q I rx ry (k H M x y dx dy dz Q hr r1 r2 e q)
theorem cb.of{f:s0}{r2:List V->Hp->VK->Prop}{r:List D->Option D}(h:dN X f r2)
  (k:∀(H:Hp) (M:DH) (xs:List V) (ds:List D) (dz:D) (Q:VK),HR X.K M H->Q7 (aQ X.K M H) ds xs->r ds=some dz->(∀w H',Ext M H M H'->HR X.K M H'->Rep X.K M H' dz w->Q w H')->r2 xs H Q):cb X f r :=
 fun aa s σ H M xs us ds dz Q I hr rv r1 e q=>h aa s σ H xs us Q I rv (k H M xs ds dz Q hr r1 e q)
theorem g6{K:o0}{M:DH}{H:Hp}{i:Int}{v:V}(h:aQ K M H (.int i) v):v=.int i:=by simpa[aQ,Rep]using h
theorem oJ{K:o0}{M:DH}{H:Hp}{i:Str}{v:V}(h:aQ K M H (.str i) v):v=.str i:=by simpa[aQ,Rep]using h
theorem Gw{K:o0}{M:DH}{H:Hp}{v:V}(h:aQ K M H .non v):v=.non:=by simpa[aQ,Rep]using h
/-! ### ints -/
def iOp(f:Int->Int->Option D):D->D->Option D
 |.int a,.int b=>f a b
 |_,_=>none
theorem nF{f:Int->Int->Option D}{x y z:D}(h:iOp f x y=some z):∃a b,x=.int a/\y=.int b/\f a b=some z:=by
 cases x<;>first|cases h|skip
 rename_i a
 cases y<;>first|cases h|skip
 rename_i b
 exact⟨a,b,rfl,rfl,h⟩
def bo:D->Bool
 |.non=>true|.bl _=>true|.int _=>true|.str _=>true|_=>false
def toV:D->V
 |.bl b=>.bl b|.int i=>.int i|.str x=>.str x|_=>.non
theorem sF{K:o0}{M:DH}{H:Hp}{d:D}(h:bo d=true):Rep K M H d (toV d):=by
 cases d<;>first|(simp[Rep,toV];done)|cases h
theorem si{f:s0->s0->Sem s0}{C:Int->Int->Prop} [∀i j,Decidable (C i j)] {g:Int->Int->D}(hs:∀i j,bo (g i j)=true) (h:OpR X f (rI C fun i j=>toV (g i j))) :
  bW X f (iOp fun i j=>if C i j then some (g i j)else none) :=
 bW.of h fun H M x y dx dy dz Q hr r1 r2 e q=>by
  obtain⟨a,b,rfl,rfl,e'⟩:=nF e
  clear e
  have e:=e'
  by_cases hc:C a b
  ·rw[if_pos hc]at e;cases e
   exact⟨a,b,g6 r1,g6 r2,hc,q _ _ (Ext.refl _ _) hr (sF (hs a b))⟩
  ·rw[if_neg hc]at e;cases e
theorem nt{f:s0->s0->Sem s0}{g:Int->Int->D}(hs:∀i j,bo (g i j)=true) (h:OpR X f (rI0 fun i j=>toV (g i j))) :
  bW X f (iOp fun i j=>some (g i j)) :=
 bW.of h fun H M x y dx dy dz Q hr r1 r2 e q=>by
  obtain⟨a,b,rfl,rfl,e⟩:=nF e
  cases e
  exact⟨a,b,g6 r1,g6 r2,q _ _ (Ext.refl _ _) hr (sF (hs a b))⟩
instance:∀i j,Decidable (p6 i j):=fun i j=>by unfold p6;exact inferInstance
instance:∀i j,Decidable (kc i j):=fun i j=>by unfold kc;exact inferInstance
instance:∀i j,Decidable (tD i j):=fun i j=>by unfold tD;exact inferInstance
theorem yn:bW X (P1 .Sub) (iOp fun i j=>some (.int (i-j))):=nt (fun _ _=>rfl) EA
theorem Ez:bW X (P1 .Mult) (iOp fun i j=>if kc i j then some (.int (i*j))else none):=si (fun _ _=>rfl) Do
theorem xZ:bW X (P1 .FloorDiv) (iOp fun i j=>if p6 i j then some (.int (i / j))else none):=si (fun _ _=>rfl) B3
theorem jE:bW X (P1 .Mod) (iOp fun i j=>if 0<j then some (.int (i % j))else none):=si (C:=fun _ j=>0<j) (fun _ _=>rfl) D1
theorem GG:bW X (P1 .Pow) (iOp fun i j=>if tD i j then some (.int (i ^ j.toNat))else none):=si (fun _ _=>rfl) DD
theorem B7:bW X (L5 .Lt) (iOp fun i j=>some (.bl (decide (i<j)))):=nt (fun _ _=>rfl) GE
theorem Gr:bW X (L5 .LtE) (iOp fun i j=>some (.bl (decide (i<=j)))):=nt (fun _ _=>rfl) Hg
theorem EG:bW X (L5 .Gt) (iOp fun i j=>some (.bl (decide (j<i)))):=nt (fun _ _=>rfl) Fv
theorem Hw:bW X (L5 .GtE) (iOp fun i j=>some (.bl (decide (j<=i)))):=nt (fun _ _=>rfl) Ge
/-! ### places -/
theorem am.at_{K:o0}{M:DH}{H:Hp}{ds:List D}{vs:List V}{i:Int}{d:D}(h:am K M H ds vs) (e:atI ds i=some d):∃v,atI vs i=some v/\Rep K M H d v:=by
 unfold atI at e ⊢
 rw[<-h.length]
 cases q:ixN ds.length i with
 |none=>rw[q]at e;cases e
 |some j =>
  rw[q]at e
  have e':ds[j]?=some d:=e
  obtain⟨v,a,b⟩:=h.get e'
  exact⟨v,a,b⟩
def ixD:D->D->Option D
 |.tup ds,.int i=>atI ds i
 |.lst ds,.int i=>atI ds i
 |.scr ds,.int i=>atI ds i
 |.str z,.int i=>if z.length<=J1 then(atI z.cps.toList i).map fun c=>.str ⟨#[c]⟩else none
 |_,_=>none
theorem ba:IxR X (opV X.K ixD):=by
 intro value slice aa s σ H x y v u Q I rx ry h hs
 obtain⟨dx,dy,dz,M,hr,r1,r2,e,k⟩:=h
 cases dx with
 |tup ds =>
  cases dy with
  |int i =>
   obtain⟨a,vs,rfl,sq,rl⟩:=r1
   obtain⟨w,e2,rw_⟩:=rl.at_ e
   exact De value slice aa s σ H _ _ v u Q I rx ry ⟨a,vs,i,w,rfl,g6 r2,sq,e2,k w H (Ext.refl _ _) hr rw_⟩ hs
  |_=>cases e
 |lst ds =>
  cases dy with
  |int i =>
   obtain⟨a,vs,rfl,sq,rl⟩:=r1
   obtain⟨w,e2,rw_⟩:=rl.at_ e
   exact we value slice aa s σ H _ _ v u Q I rx ry ⟨a,vs,i,w,rfl,g6 r2,SqL.of sq,e2,k w H (Ext.refl _ _) hr rw_⟩ hs
  |_=>cases e
 |scr ds =>
  cases dy with
  |int i =>
   obtain⟨a,vs,rfl,sq,rl⟩:=r1
   obtain⟨w,e2,rw_⟩:=rl.at_ e
   exact we value slice aa s σ H _ _ v u Q I rx ry ⟨a,vs,i,w,rfl,g6 r2,sq,e2,k w H (Ext.refl _ _) hr rw_⟩ hs
  |_=>cases e
 |str z =>
  cases dy with
  |int i =>
   simp only[ixD]at e
   by_cases hz:z.length<=J1
   ·rw[if_pos hz]at e
    cases q:atI z.cps.toList i with
    |none=>rw[q]at e;cases e
    |some c =>
     rw[q]at e;cases e
     exact Dv value slice aa s σ H _ _ v u Q I rx ry ⟨z,i,c,oJ r1,g6 r2,hz,q,k _ H (Ext.refl _ _) hr (by simp[Rep])⟩ hs
   ·rw[if_neg hz]at e;cases e
  |_=>cases e
 |_=>cases e
/-! ###+-/
def iG:D->D->Option D
 |.int a,.int b=>some (.int (a+b))
 |.str a,.str b=>if a.length+b.length<=J1 then some (.str (a++b))else none
 |.lst a,.lst b=>if a.length+b.length<=J1 then some (.lst (a++b))else none
 |.tup a,.tup b=>if a.length+b.length<=J1 then some (.tup (a++b))else none
 |_,_=>none
theorem iZ{K:o0}{M:DH}{H:Hp}{p:J9}{ds:List D}{vs:List V}{Q:VK}(hr:HR K M H) (hp:H p=none) (r:am K M H ds vs) (q:∀w H',Ext M H M H'->HR K M H'->Rep K M H' (.lst ds) w->Q w H'):Q (.ref p) (upd H p (.lst vs)) :=
 q _ _ (Ext.new hr hp) (hr.new hp) (by simp only[Rep];exact⟨p,vs,rfl,⟨aC,hr.fresh hp⟩,r.ext (Ext.new hr hp)⟩)
theorem mX{K:o0}{M:DH}{H:Hp}{p:J9}{ds:List D}{vs:List V}{Q:VK}(hr:HR K M H) (hp:H p=none) (r:am K M H ds vs) (q:∀w H',Ext M H M H'->HR K M H'->Rep K M H' (.tup ds) w->Q w H'):Q (.ref p) (upd H p (.tup vs)) :=
 q _ _ (Ext.new hr hp) (hr.new hp) (by simp only[Rep];exact⟨p,vs,rfl,.inl ⟨.inl aC,hr.fresh hp⟩,r.ext (Ext.new hr hp)⟩)
theorem aQ.tup{K:o0}{M:DH}{H:Hp}{ds:List D}{v:V}(hr:HR K M H) (h:aQ K M H (.tup ds) v):Rep K M H (.tup ds) v:=by
 obtain⟨a,vs,rfl,sq,rl⟩:=h
 simp only[Rep]
 refine⟨a,vs,rfl,?_,rl⟩
 rcases sq with r|k
 ·refine .inl ⟨r,?_⟩
  cases q:M a with
  |none=>rfl
  |some o =>
   obtain⟨u,z,m⟩:=(hr a _ q).some
   rcases r with r|⟨ob,r⟩
   ·rw[z]at r;exact absurd (L8 r) (m _).1
   ·rw[z]at r;exact absurd (L8 r) ((m _).2 ob)
 ·exact .inr (.inr k)
theorem yP{prog:L1}{w:O4}{A:M7}{E:s0->I0->Prop}{s:I0}{t b:J9}{ws:List s0}{Q:s0->I0->Prop}(ht:ac7 s.heap t ([]:List s0).toArray) (hb:ac7 s.heap b ws.toArray)
  (h:Q (.ref b) s):K4 (K9 prog w) A (P1 .Add (.ref t) (.ref b)) Q E s:=by
 obtain⟨⟨cls,dd,data,sl⟩,ho,hc,n,hd⟩:=id ht
 obtain⟨⟨cls2,dd2,data2,sl2⟩,ho2,hc2,n2,hd2⟩:=id hb
 simp only at hc hd hc2 hd2
 subst hc hd hc2 hd2
 exact concat_meets ⟨_,ho,rfl⟩ ⟨_,ho2,rfl⟩ noFill_tuple_add seq_tuple_add PySem.F.slot_tuple_add PySem.F.entry_tuple_add (PySem.F.args_tuple_add_2 _ _)
   (tuple_addW0 t b ([]:List s0).toArray ws.toArray n n2 dd dd2 sl sl2 (by simp)) ⟨ho,ho2,h⟩
theorem aM:bW X (P1 .Add) iG:=by
 intro aa s σ H M x y v u dx dy dz Q I hr rx ry r1 r2 e k
 cases dx with
 |int a =>
  cases dy with
  |int b =>
   cases e
   exact DB aa s σ H x y v u Q I rx ry ⟨a,b,g6 r1,g6 r2,k _ H (Ext.refl _ _) hr (by simp[Rep])⟩
  |_=>cases e
 |str a =>
  cases dy with
  |str b =>
   simp only[iG]at e
   by_cases hz:a.length+b.length<=J1
   ·rw[if_pos hz]at e;cases e
    exact uK aa s σ H x y v u Q I rx ry ⟨a,b,oJ r1,oJ r2,hz,k _ H (Ext.refl _ _) hr (by simp[Rep])⟩
   ·rw[if_neg hz]at e;cases e
  |_=>cases e
 |lst a =>
  cases dy with
  |lst b =>
   simp only[iG]at e
   by_cases hz:a.length+b.length<=J1
   ·rw[if_pos hz]at e;cases e
    obtain⟨l1,vs,rfl,h1,l1r⟩:=r1
    obtain⟨l2,ws,rfl,h2,l2r⟩:=r2
    exact DT aa s σ H _ _ v u Q I rx ry ⟨l1,l2,vs,ws,rfl,rfl,h1,h2,by rw[<-l1r.length,<-l2r.length];exact hz,fun p hp=>iZ hr hp (l1r.append l2r) k⟩
   ·rw[if_neg hz]at e;cases e
  |_=>cases e
 |tup a =>
  cases dy with
  |tup b =>
   simp only[iG]at e
   by_cases hz:a.length+b.length<=J1
   ·rw[if_pos hz]at e;cases e
    have t1:=aQ.tup hr r1
    have t2:=aQ.tup hr r2
    obtain⟨l1,vs,rfl,h1,l1r⟩:=r1
    obtain⟨l2,ws,rfl,h2,l2r⟩:=r2
    by_cases hv:vs=[]
    ·subst hv
     have ea:a=[]:=by
      have:=l1r.length
      cases a with
      |nil=>rfl
      |cons _ _=>simp at this
     subst ea
     cases rx
     cases ry
     obtain⟨its,q1,p1,_⟩:=I.tuple h1
     obtain⟨its2,q2,p2,_⟩:=I.tuple h2
     cases q1
     exact yP p1 p2 ⟨.ref l2,H,I,rfl,k _ H (Ext.refl _ _) hr t2⟩
    ·refine BH aa s σ H _ _ v u Q I rx ry ⟨l1,l2,vs,ws,rfl,rfl,h1,h2,hv,by rw[<-l1r.length,<-l2r.length];exact hz,fun hw=>?_,fun _ p hp=>mX hr hp (l1r.append l2r) k⟩
     subst hw
     have eb:b=[]:=by
      have:=l2r.length
      cases b with
      |nil=>rfl
      |cons _ _=>simp at this
     subst eb
     rw[V6]at k
     exact k _ H (Ext.refl _ _) hr t1
   ·rw[if_neg hz]at e;cases e
  |_=>cases e
 |_=>cases e
/-! ### ==,deep -/
mutual
def eqD:D->D->Bool
 |.non,.non=>true
 |.bl a,.bl b=>a==b
 |.bl a,.int b=>(if a then 1 else 0)==b
 |.int a,.bl b=>a==(if b then 1 else 0)
 |.int a,.int b=>a==b
 |.str a,.str b=>a==b
 |.tup a,.tup b=>fk a b
 |.lst a,.lst b=>fk a b
 |_,_=>false
def fk:List D->List D->Bool
 |[],[]=>true
 |a::as,b::bs=>eqD a b&&fk as bs
 |_,_=>false
end
mutual
def dLe:D->Nat->Bool
 |.tup _,0=>false
 |.tup ds,n+1=>cv ds n
 |.lst _,0=>false
 |.lst ds,n+1=>cv ds n
 |.scr _,_=>false
 |.emp,_=>false
 |.box _ _,_=>false
 |.ref _,_=>false
 |_,_=>true
def cv:List D->Nat->Bool
 |[],_=>true
 |d::ds,n=>dLe d n&&cv ds n
end
theorem fO:∀{ds:List D}{n i:Nat}{d:D},cv ds n=true->ds[i]?=some d->dLe d n=true
 |[],_,_,_,_,e=>by simp at e
 |d::ds,n,0,x,h,e=>by
  simp only[cv,L6]at h
  simp at e;subst e;exact h.1
 |d::ds,n,i+1,x,h,e=>by
  simp only[cv,L6]at h
  exact fO h.2 (by simpa using e)
theorem js:∀{ds:List D}{n:Nat},cv ds n=true↔∀d∈ds,dLe d n=true
 |[],n=>by simp[cv]
 |d::ds,n=>by simp[cv,js (ds:=ds)]
def eqN(ds es:List D) (j:Nat):Bool:=match ds[j]?,es[j]? with|some a,some b=>eqD a b|_,_=>false
theorem sZ:∀{ds es:List D},fk ds es=true->ds.length=es.length
 |[],[],_=>rfl
 |[],_::_,h=>by simp[fk]at h
 |_::_,[],h=>by simp[fk]at h
 |_::ds,_::es,h=>by
  simp only[fk,L6]at h
  simp[sZ h.2]
theorem nI:∀{ds es:List D},fk ds es=((Q0 (min ds.length es.length)).all (eqN ds es)&&ds.length==es.length)
 |[],[]=>by simp[fk]
 |[],_::_=>by simp[fk]
 |_::_,[]=>by simp[fk]
 |a::ds,b::es=>by
  have ih:=@nI ds es
  simp only[fk,N8,Nat.add_min_add_right,List.range_succ_eq_map,W0,List.all_map]
  have e0:eqN (a::ds) (b::es) 0=eqD a b:=by simp[eqN]
  have e1:(eqN (a::ds) (b::es))∘Nat.succ=eqN ds es:=by
   funext j;simp[eqN]
  rw[e0,e1,ih]
  have e2:(ds.length+1==es.length+1)=(ds.length==es.length):=by
   rw[Bool.eq_iff_iff];simp
  rw[e2,Bool.and_assoc]
theorem wm{ds es:List D}(h:ds.length=es.length):fk ds es=(Q0 ds.length).all (eqN ds es):=by
 rw[nI,<-h,Nat.min_self];simp
theorem Rep.r{K:o0}{M:DH}{H:Hp}{d:D}{v:V}(h:Rep K M H d v):aQ K M H d v:=by
 cases d with
 |tup ds=>simp only[Rep]at h;obtain⟨a,vs,e,t,r⟩:=h;exact⟨a,vs,e,t.sq,r⟩
 |lst ds=>simp only[Rep]at h;obtain⟨a,vs,e,t,r⟩:=h;exact⟨a,vs,e,t.1,r⟩
 |scr ds=>simp only[Rep]at h;obtain⟨a,vs,e,t,r⟩:=h;exact⟨a,vs,e,t.sq,r⟩
 |_=>exact h
theorem C4{aa:List (J9×Obj)}{σ:St}{H:Hp}{s:I0}{a:J9}{vs ws:List V}(I:Inv X aa σ H s) (h:SqT X.K H a vs) (h':H a=some (.lst ws)):False:=by
 obtain⟨its,r,⟨o,e,c,n,d⟩,_⟩:=I.tuple h
 obtain⟨_,its',n',_,e'⟩:=I.hok a _ h'
 rw[e]at e';cases e'
 exact absurd (show X9 "list"=X9 "tuple" from c) (by decide)
theorem yc{aa:List (J9×Obj)}{σ:St}{H:Hp}{s:I0}(I:Inv X aa σ H s) {M M':DH}:∀(n:Nat) {d e:D}{v:V},dLe d n=true->dLe e n=true->aQ X.K M H d v->aQ X.K M' H e v->eqD d e=true:=by
  intro n
  induction n with
  | zero =>
    intro d e v hd he r1 r2
    cases d<;>first|(simp[dLe]at hd;done)|skip
    all_goals cases e<;>first|(simp[dLe]at he;done)|skip
    all_goals (simp only[aQ,Rep]at r1 r2;subst r1;first|(cases r2;simp[eqD];done)|cases r2)
  | succ n ih =>
    intro d e v hd he r1 r2
    have lists:∀{ds es:List D} {vs:List V},cv ds n=true->cv es n=true->am X.K M H ds vs->am X.K M' H es vs->fk ds es=true:=by
      intro ds
      induction ds with
      | nil =>
        intro es vs _ _ h1 h2
        simp only[am]at h1;subst h1
        cases es with
        |nil=>simp[fk]
        |cons _ _=>simp[am]at h2
      | cons a ds ihl =>
        intro es vs d1 d2 h1 h2
        simp only[am]at h1
        obtain⟨v,ws,rfl,h3,h4⟩:=h1
        cases es with
        |nil=>simp[am]at h2
        | cons b es =>
          simp only[am]at h2
          obtain⟨v',ws',e',h5,h6⟩:=h2
          cases e'
          simp only[cv,L6]at d1 d2
          simp only[fk,L6]
          exact⟨ih d1.1 d2.1 h3.r h5.r,ihl d1.2 d2.2 h4 h6⟩
    cases d with
    | tup ds =>
      obtain⟨a,vs,rfl,sq,rl⟩:=r1
      cases e with
      | tup es =>
        obtain⟨b,ws,e',sq',rl'⟩:=r2
        cases e'
        have:=I.tuple_inj sq sq'
        subst this
        simp only[eqD]
        exact lists (by simpa[dLe]using hd) (by simpa[dLe]using he) rl rl'
      | lst es =>
        obtain⟨b,ws,e',sq',rl'⟩:=r2
        cases e'
        exact(C4 I sq sq').elim
      |_=>first|(simp[dLe]at he;done)|(simp only[aQ,Rep]at r2;cases r2)
    | lst ds =>
      obtain⟨a,vs,rfl,sq,rl⟩:=r1
      cases e with
      | lst es =>
        obtain⟨b,ws,e',sq',rl'⟩:=r2
        cases e'
        rw[sq]at sq'
        cases sq'
        simp only[eqD]
        exact lists (by simpa[dLe]using hd) (by simpa[dLe]using he) rl rl'
      | tup es =>
        obtain⟨b,ws,e',sq',rl'⟩:=r2
        cases e'
        exact(C4 I sq' sq).elim
      |_=>first|(simp[dLe]at he;done)|(simp only[aQ,Rep]at r2;cases r2)
    | _ =>
      first
      |(simp[dLe]at hd;done)
      | (cases e with
         |tup es=>(obtain⟨b,ws,e',sq',rl'⟩:=r2;subst e';simp only[aQ,Rep]at r1;cases r1)
         |lst es=>(obtain⟨b,ws,e',sq',rl'⟩:=r2;subst e';simp only[aQ,Rep]at r1;cases r1)
         |_=>first|(simp[dLe]at he;done)|(simp only[aQ,Rep]at r1 r2;subst r1;first|(cases r2;simp[eqD];done)|cases r2))
theorem aQ.at{K:o0}{M:DH}{H:Hp}{d:D}{v:V}{u:s0}(r:aQ K M H d v) (q:aD v u):match d with|.non=>u=.none|.bl b=>u=.bool b|.int i=>∃t,u=.int i t|.str x=>∃t,u=.str x t|_=>True:=by
 cases d<;>first|trivial|(simp only[aQ,Rep]at r;subst r;exact q)
open PySem.SeqAt in
theorem nM{aa:List (J9×Obj)}{σ:St}{H:Hp}{s:I0}(I:Inv X aa σ H s) {M M':DH}:∀(n:Nat) {A:M7}{d e:D}{v w:V}{u1 u2:s0},A.units+n<Z6->dLe d n=true->dLe e n=true ->
  aQ X.K M H d v->aQ X.K M' H e w->aD v u1->aD w u2->EqAt A s u1 u2 (eqD d e)/\RcAt A s u1 u2 (eqD d e)/\RcNeAt A s u1 u2 (!(eqD d e)):=by
 intro n
 induction n with
 |zero =>
  intro A d e v w u1 u2 hu hd he r1 r2 q1 q2
  have hu0:A.units<Z6:=by omega
  cases d<;>first|(simp[dLe]at hd;done)|skip
  all_goals cases e<;>first|(simp[dLe]at he;done)|skip
  all_goals simp only[aQ,Rep]at r1 r2
  all_goals subst r1
  all_goals subst r2
  all_goals simp only[aD]at q1 q2
  all_goals first|(obtain⟨t1,rfl⟩:=q1)|subst q1
  all_goals first|(obtain⟨t2,rfl⟩:=q2)|subst q2
  all_goals simp only[eqD]
  ·exact⟨EqAt.same _,RcAt.none_none,RcNeAt.none_none⟩
  ·exact⟨EqAt.none_bool _,RcAt.none_bool _,RcNeAt.none_bool _⟩
  ·exact⟨EqAt.none_int _ _,RcAt.none_int _ _,RcNeAt.none_int _ _⟩
  ·exact⟨EqAt.none_str _ _,RcAt.none_str _ _,RcNeAt.none_str _ _⟩
  ·exact⟨EqAt.bool_none _,RcAt.bool_none _,RcNeAt.bool_none _⟩
  ·exact⟨EqAt.bool_bool _ _,RcAt.bool_bool _ _,RcNeAt.bool_bool _ _⟩
  ·exact⟨EqAt.bool_int _ _ _,RcAt.bool_int _ _ _,RcNeAt.bool_int _ _ _⟩
  ·exact⟨EqAt.bool_str _ _ _,RcAt.bool_str _ _ _,RcNeAt.bool_str _ _ _⟩
  ·exact⟨EqAt.int_none _ _,RcAt.int_none _ _,RcNeAt.int_none _ _⟩
  ·exact⟨EqAt.int_bool _ _ _,RcAt.int_bool _ _ _,RcNeAt.int_bool _ _ _⟩
  ·exact⟨EqAt.int_int _ _ _ _,RcAt.int_int _ _ _ _,RcNeAt.int_int _ _ _ _⟩
  ·exact⟨EqAt.int_str _ _ _ _,RcAt.int_str _ _ _ _,RcNeAt.int_str _ _ _ _⟩
  ·exact⟨EqAt.str_none _ _,RcAt.str_none _ _,RcNeAt.str_none _ _⟩
  ·exact⟨EqAt.str_bool _ _ _,RcAt.str_bool _ _ _,RcNeAt.str_bool _ _ _⟩
  ·exact⟨EqAt.str_int _ _ _ _,RcAt.str_int _ _ _ _,RcNeAt.str_int _ _ _ _⟩
  ·exact⟨EqAt.str_str _ _ _ _,RcAt.str_str _ _ _ _,RcNeAt.str_str _ _ _ _⟩
 |succ n ih =>
  intro A d e v w u1 u2 hu hd he r1 r2 q1 q2
  have hu0:A.units<Z6:=by omega
  have hu1:A.in1.units+n<Z6:=by show A.units+1+n<Z6;omega
  have item:∀{ds es:List D} {vs ws:List V} {us us2:List s0},cv ds n=true->cv es n=true->am X.K M H ds vs->am X.K M' H es ws->az vs us->az ws us2 ->
    ∀j (h1:j<us.toArray.size) (h2:j<us2.toArray.size),EqAt A.in1 s us.toArray[j] us2.toArray[j] (eqN ds es j):=by
   intro ds es vs ws us us2 d1 d2 h1 h2 h3 h4 j hj1 hj2
   have l1:=h1.length
   have l2:=h2.length
   have l3:=h3.length
   have l4:=h4.length
   have j1:j<ds.length:=by simp at hj1;omega
   have j2:j<es.length:=by simp at hj2;omega
   obtain⟨v1,g1,p1⟩:=h1.get (i:=j) (d:=ds[j]) (by simp[j1])
   obtain⟨v2,g2,p2⟩:=h2.get (i:=j) (d:=es[j]) (by simp[j2])
   obtain⟨u1,k1,m1⟩:=h3.get g1
   obtain⟨u2,k2,m2⟩:=h4.get g2
   have e1:us.toArray[j]=u1:=by
    simp at hj1
    simpa[S3 hj1]using k1
   have e2:us2.toArray[j]=u2:=by
    simp at hj2
    simpa[S3 hj2]using k2
   rw[e1,e2]
   have e3:eqN ds es j=eqD ds[j] es[j]:=by simp[eqN,j1,j2]
   rw[e3]
   exact(ih hu1 (fO d1 (i:=j) (by simp[j1])) (fO d2 (i:=j) (by simp[j2])) p1.r p2.r m1 m2).1
  have both:∀{a b:J9},v=.ref a->w=.ref b->RcAt A s (.ref a) (.ref b) (eqD d e)->EqAt A s (.ref a) (.ref b) (eqD d e):=by
   intro a b ea eb rc
   by_cases hab:a=b
   ·subst hab;subst ea;subst eb
    rw[yc I (n+1) hd he r1 r2]
    exact EqAt.same _
   ·exact EqAt.of_refs hab rc
  cases d with
  |tup ds =>
   obtain⟨a,vs,rfl,sq,rl⟩:=id r1
   cases q1
   obtain⟨its,rv,pt,_⟩:=I.tuple sq
   have hd':cv ds n=true:=by simpa[dLe]using hd
   cases e with
   |tup es =>
    obtain⟨b,ws,rfl,sq',rl'⟩:=id r2
    cases q2
    obtain⟨its2,rv2,pt2,_⟩:=I.tuple sq'
    have he':cv es n=true:=by simpa[dLe]using he
    have it:=item hd' he' rl rl' rv rv2
    have t1:=RcAt.tuples (e:=eqN ds es) pt pt2 hu0 it
    have t2:=RcNeAt.tuples (e:=eqN ds es) pt pt2 hu0 it
    rw[J3,J3,<-rv.length,<-rv2.length,<-rl.length,<-rl'.length,<-nI]at t1 t2
    have rc:RcAt A s (.ref a) (.ref b) (eqD (.tup ds) (.tup es)):=by simpa only[eqD]using t1
    exact⟨both rfl rfl rc,rc,by simpa only[eqD]using t2⟩
   |lst es =>
    obtain⟨b,ws,rfl,sq',rl'⟩:=id r2
    cases q2
    obtain⟨its2,rv2,pt2,_⟩:=I.list (SqL.of sq')
    simp only[eqD]
    exact⟨EqAt.tuple_list pt pt2.isList hu0,RcAt.tuple_list pt pt2.isList hu0,RcNeAt.tuple_list pt pt2.isList hu0⟩
   |non=>obtain rfl:=r2.at q2;simp only[eqD];exact⟨EqAt.tuple_none pt hu0,RcAt.tuple_none pt hu0,RcNeAt.tuple_none pt hu0⟩
   |bl b=>obtain rfl:=r2.at q2;simp only[eqD];exact⟨EqAt.tuple_bool _ pt hu0,RcAt.tuple_bool _ pt hu0,RcNeAt.tuple_bool _ pt hu0⟩
   |int b=>obtain⟨t,rfl⟩:=r2.at q2;simp only[eqD];exact⟨EqAt.tuple_int _ _ pt hu0,RcAt.tuple_int _ _ pt hu0,RcNeAt.tuple_int _ _ pt hu0⟩
   |str b=>obtain⟨t,rfl⟩:=r2.at q2;simp only[eqD];exact⟨EqAt.tuple_str _ _ pt hu0,RcAt.tuple_str _ _ pt hu0,RcNeAt.tuple_str _ _ pt hu0⟩
   |_=>simp[dLe]at he
  |lst ds =>
   obtain⟨a,vs,rfl,sq,rl⟩:=id r1
   cases q1
   obtain⟨its,rv,pt,_⟩:=I.list (SqL.of sq)
   have hd':cv ds n=true:=by simpa[dLe]using hd
   cases e with
   |lst es =>
    obtain⟨b,ws,rfl,sq',rl'⟩:=id r2
    cases q2
    obtain⟨its2,rv2,pt2,_⟩:=I.list (SqL.of sq')
    have he':cv es n=true:=by simpa[dLe]using he
    have hs:its.toArray.size=ds.length/\its2.toArray.size=es.length:=by rw[J3,J3,<-rv.length,<-rv2.length,<-rl.length,<-rl'.length];exact⟨rfl,rfl⟩
    have rc:RcAt A s (.ref a) (.ref b) (eqD (.lst ds) (.lst es))/\RcNeAt A s (.ref a) (.ref b) (!(eqD (.lst ds) (.lst es))):=by
     by_cases hl:ds.length=es.length
     ·have hsz:its.toArray.size=its2.toArray.size:=by rw[hs.1,hs.2];exact hl
      have it:=item hd' he' rl rl' rv rv2
      have t1:=RcAt.lists (e:=eqN ds es) pt.isList pt2.isList hsz hu0 it
      have t2:=RcNeAt.lists (e:=eqN ds es) pt.isList pt2.isList hsz hu0 it
      rw[hs.1,<-wm hl]at t1 t2
      exact⟨by simpa only[eqD]using t1,by simpa only[eqD]using t2⟩
     ·have hsz:(its.toArray.size != its2.toArray.size)=true:=by rw[hs.1,hs.2];simpa using hl
      have e0:eqD (.lst ds) (.lst es)=false:=by
       simp only[eqD]
       cases q:fk ds es with
       |false=>rfl
       |true=>exact absurd (sZ q) hl
      rw[e0];exact⟨RcAt.lists_lengths pt.isList pt2.isList hsz hu0,RcNeAt.lists_lengths pt.isList pt2.isList hsz hu0⟩
    exact⟨both rfl rfl rc.1,rc⟩
   |tup es =>
    obtain⟨b,ws,rfl,sq',rl'⟩:=id r2
    cases q2
    obtain⟨its2,rv2,pt2,_⟩:=I.tuple sq'
    simp only[eqD]
    exact⟨EqAt.list_tuple pt.isList pt2 hu0,RcAt.list_tuple pt.isList pt2 hu0,RcNeAt.list_tuple pt.isList pt2 hu0⟩
   |non=>obtain rfl:=r2.at q2;simp only[eqD];exact⟨EqAt.list_none pt.isList hu0,RcAt.list_none pt.isList hu0,RcNeAt.list_none pt.isList hu0⟩
   |bl b=>obtain rfl:=r2.at q2;simp only[eqD];exact⟨EqAt.list_bool _ pt.isList hu0,RcAt.list_bool _ pt.isList hu0,RcNeAt.list_bool _ pt.isList hu0⟩
   |int b=>obtain⟨t,rfl⟩:=r2.at q2;simp only[eqD];exact⟨EqAt.list_int _ _ pt.isList hu0,RcAt.list_int _ _ pt.isList hu0,RcNeAt.list_int _ _ pt.isList hu0⟩
   |str b=>obtain⟨t,rfl⟩:=r2.at q2;simp only[eqD];exact⟨EqAt.list_str _ _ pt.isList hu0,RcAt.list_str _ _ pt.isList hu0,RcNeAt.list_str _ _ pt.isList hu0⟩
   |_=>simp[dLe]at he
  |non =>
   cases e with
   |tup es =>
    obtain⟨b,ws,rfl,sq',rl'⟩:=id r2;cases q2;obtain⟨its2,rv2,pt2,_⟩:=I.tuple sq';obtain rfl:=r1.at q1;simp only[eqD]
    exact⟨EqAt.none_tuple pt2 hu0,RcAt.none_tuple pt2 hu0,RcNeAt.none_tuple pt2 hu0⟩
   |lst es =>
    obtain⟨b,ws,rfl,sq',rl'⟩:=id r2;cases q2;obtain⟨its2,rv2,pt2,_⟩:=I.list (SqL.of sq');obtain rfl:=r1.at q1;simp only[eqD]
    exact⟨EqAt.none_list pt2.isList hu0,RcAt.none_list pt2.isList hu0,RcNeAt.none_list pt2.isList hu0⟩
   |_=>first|(simp[dLe]at he;done)|exact ih (A:=A) (by omega) (by simp[dLe]) (by simp[dLe]) r1 r2 q1 q2
  |bl a =>
   cases e with
   |tup es =>
    obtain⟨b,ws,rfl,sq',rl'⟩:=id r2;cases q2;obtain⟨its2,rv2,pt2,_⟩:=I.tuple sq';obtain rfl:=r1.at q1;simp only[eqD]
    exact⟨EqAt.bool_tuple _ pt2 hu0,RcAt.bool_tuple _ pt2 hu0,RcNeAt.bool_tuple _ pt2 hu0⟩
   |lst es =>
    obtain⟨b,ws,rfl,sq',rl'⟩:=id r2;cases q2;obtain⟨its2,rv2,pt2,_⟩:=I.list (SqL.of sq');obtain rfl:=r1.at q1;simp only[eqD]
    exact⟨EqAt.bool_list _ pt2.isList hu0,RcAt.bool_list _ pt2.isList hu0,RcNeAt.bool_list _ pt2.isList hu0⟩
   |_=>first|(simp[dLe]at he;done)|exact ih (A:=A) (by omega) (by simp[dLe]) (by simp[dLe]) r1 r2 q1 q2
  |int a =>
   cases e with
   |tup es =>
    obtain⟨b,ws,rfl,sq',rl'⟩:=id r2;cases q2;obtain⟨its2,rv2,pt2,_⟩:=I.tuple sq';obtain⟨t,rfl⟩:=r1.at q1;simp only[eqD]
    exact⟨EqAt.int_tuple _ _ pt2 hu0,RcAt.int_tuple _ _ pt2 hu0,RcNeAt.int_tuple _ _ pt2 hu0⟩
   |lst es =>
    obtain⟨b,ws,rfl,sq',rl'⟩:=id r2;cases q2;obtain⟨its2,rv2,pt2,_⟩:=I.list (SqL.of sq');obtain⟨t,rfl⟩:=r1.at q1;simp only[eqD]
    exact⟨EqAt.int_list _ _ pt2.isList hu0,RcAt.int_list _ _ pt2.isList hu0,RcNeAt.int_list _ _ pt2.isList hu0⟩
   |_=>first|(simp[dLe]at he;done)|exact ih (A:=A) (by omega) (by simp[dLe]) (by simp[dLe]) r1 r2 q1 q2
  |str a =>
   cases e with
   |tup es =>
    obtain⟨b,ws,rfl,sq',rl'⟩:=id r2;cases q2;obtain⟨its2,rv2,pt2,_⟩:=I.tuple sq';obtain⟨t,rfl⟩:=r1.at q1;simp only[eqD]
    exact⟨EqAt.str_tuple _ _ pt2 hu0,RcAt.str_tuple _ _ pt2 hu0,RcNeAt.str_tuple _ _ pt2 hu0⟩
   |lst es =>
    obtain⟨b,ws,rfl,sq',rl'⟩:=id r2;cases q2;obtain⟨its2,rv2,pt2,_⟩:=I.list (SqL.of sq');obtain⟨t,rfl⟩:=r1.at q1;simp only[eqD]
    exact⟨EqAt.str_list _ _ pt2.isList hu0,RcAt.str_list _ _ pt2.isList hu0,RcNeAt.str_list _ _ pt2.isList hu0⟩
   |_=>first|(simp[dLe]at he;done)|exact ih (A:=A) (by omega) (by simp[dLe]) (by simp[dLe]) r1 r2 q1 q2
  |_=>simp[dLe]at hd
end
section
variable{X:Cx}{a b c e:K3}{es:List K3}{te ta tb:TEd}{pos:Pos}{st:aa0}{rest:List aa0}{t u:TSd}
/-! ### blocks and statements -/
def zz:TSd:=fun E Δ M=>E.nx Δ M
def tm(t u:TSd):TSd:=fun E Δ M=>t { E with nx:=u E } Δ M
def Ce(te:TEd):TSd:=fun E Δ M=>te Δ M E.rt
def sx(te:TEd):TSd:=fun E Δ M=>te Δ M fun _ M1=>E.nx Δ M1
def AS(c:TTd) (t u:TSd):TSd:=fun E Δ M=>c Δ M fun b M1=>if b=true then t E Δ M1 else u E Δ M1
/-! a name is stored -/
def oG(i:Nat) (te:TEd):TSd:=fun E Δ M=>te Δ M fun d M1=>E.nx (Δ.set i (some d)) M1
def F6(i:Nat) (te:TEd) (r:D->D->Option D):TSd:=fun E Δ M=>∃x,Δ[i]?=some (some x)/\te Δ M fun y M1=>∃z,r (rdM M1 x) (rdM M1 y)=some z/\E.nx (Δ.set i (some z)) M1
/-! a ghost step: a cell of ours is ours no more,a name that holds it has the list as a value -/
/-! ### targets -/
abbrev GD:=D->DE->Option DE
def PGd(X:Cx) (tg:K3) (g:GD):Prop:=∃gv:TG,PG X tg gv/\∀(d:D) (v:V) (σ:St) (Δ Δ':DE) (M:DH) (H:Hp) (Q:St->Hp->Prop),SR X.K M H σ Δ->HR X.K M H->Rep X.K M H d v->g d Δ=some Δ'->(∀ σ',SR X.K M H σ' Δ'->Q σ' H)->gv v σ H Q
def bf(i:Nat):GD:=fun d Δ=>some (Δ.set i (some d))
theorem aG{i:Nat}{x:Str}(hN:X.N.Nodup) (hi:X.N[i]?=some x) (hx:Loc X.env.scope x) (hf:X.fn x=true∨X.env.scope.names.lookup x=some .local:=by first|exact .inl rfl|exact .inr rfl|assumption):PGd X (.Name x pos) (bf i) :=
 ⟨rS i,wb hN hi hx hf,fun d v σ Δ Δ' M H Q sr hr rv e k=>by cases e;exact k _ (sr.set i rv)⟩
abbrev GDs:=List D->DE->Option DE
def Ci(X:Cx) (tgs:List K3) (g:GDs):Prop:=∃gv:TGs,PGs X tgs gv/\∀(ds:List D) (vs:List V) (σ:St) (Δ Δ':DE) (M:DH) (H:Hp) (Q:St->Hp->Prop),SR X.K M H σ Δ->HR X.K M H->am X.K M H ds vs->g ds Δ=some Δ'->(∀ σ',SR X.K M H σ' Δ'->Q σ' H)->gv vs σ H Q
def oO:GDs:=fun ds Δ=>match ds with|[]=>some Δ|_=>none
def gh(g:GD) (gs:GDs):GDs:=fun ds Δ=>match ds with|[]=>none|d::r=>(g d Δ).bind fun Δ1=>gs r Δ1
def k8(g:GDs) (n:Nat):GD:=fun d Δ=>match d with|.tup ds=>if ds.length=n then g ds Δ else none|_=>none
theorem lr:Ci X [] oO:=⟨DL,vz,fun ds vs σ Δ Δ' M H Q sr hr rv e k=>by
 cases ds with
 |nil=>simp only[am]at rv;subst rv;cases e;exact⟨rfl,k _ sr⟩
 |cons _ _=>cases e⟩
theorem bM{tg:K3}{tgs:List K3}{g:GD}{gs:GDs}(h1:PGd X tg g) (h2:Ci X tgs gs)
  (hs:(P3 (tg::tgs) X.env).map (·.2)=Y8 tg X.env::(P3 tgs X.env).map (·.2):=by rfl):Ci X (tg::tgs) (gh g gs):=by
 obtain⟨g1,p1,k1⟩:=h1
 obtain⟨g2,p2,k2⟩:=h2
 refine⟨yp g1 g2,rW p1 p2 hs,fun ds vs σ Δ Δ' M H Q sr hr rv e k=>?_⟩
 cases ds with
 |nil=>cases e
 |cons d r =>
  simp only[am]at rv
  obtain⟨v,ws,rfl,h3,h4⟩:=rv
  simp only[gh]at e
  cases q:g d Δ with
  |none=>rw[q]at e;cases e
  |some Δ1 =>
   rw[q]at e
   exact⟨v,ws,rfl,k1 d v σ Δ Δ1 M H _ sr hr h3 q fun σ1 sr1=>k2 r ws σ1 Δ1 Δ' M H Q sr1 hr h4 e k⟩
theorem lb{tgs:List K3}{kx:Nat}{g:GDs}{n:Nat}(hc:X.calm=true) (h:Ci X tgs g) (hn:(P3 tgs X.env).length=n:=by rfl) (hst:(P3 tgs X.env).findIdx? (·.1)=none:=by rfl):PGd X (.Tuple tgs kx pos) (k8 g n):=by
 obtain⟨g1,p1,k1⟩:=h
 refine⟨Dp X.K n g1,xJ hc p1 hn hst,fun d v σ Δ Δ' M H Q sr hr rv e k=>?_⟩
 cases d with
 |tup ds =>
  simp only[k8]at e
  by_cases hl:ds.length=n
  ·rw[if_pos hl]at e
   simp only[Rep]at rv
   obtain⟨a,vs,rfl,ta,rl⟩:=rv
   exact⟨a,vs,rfl,ta.sq,by rw[<-rl.length];exact hl,k1 ds vs σ Δ Δ' M H Q sr hr rl e k⟩
  ·rw[if_neg hl]at e;cases e
 |_=>cases e
def F8(te:TEd) (g:GD):TSd:=fun E Δ M=>te Δ M fun d M1=>∃ Δ',g d Δ=some Δ'/\E.nx Δ' M1
/-! ### what is walked -/
abbrev TId:=DE->DH->(List D->DH->Prop)->Prop
def ItD(K:o0) (J:It) (ds:List D) (M1:DH) (H1:Hp):Prop:=∀M2 H2,Ext M1 H1 M2 H2->HR K M2 H2->∀i,(∀d,ds[i]?=some d->J.go i H2/\∀x H',J.yld i H2 x H'->Ext M2 H2 M2 H'/\HR K M2 H'/\Rep K M2 H' d x)/\(ds.length<=i->J.stop i H2)
def upI(K:o0) (wi:TId):TI:=fun σ H R=>∃(Δ:DE) (M:DH) (R':List D->DH->Prop),SR K M H σ Δ/\HR K M H/\wi Δ M R'/\∀ds M1 J H1,R' ds M1->Ext M H M1 H1->HR K M1 H1->ItD K J ds M1 H1->R J H1
theorem upI.el{K:o0}{t:TId}{σ:St}{H:Hp}{Q:It->Hp->Prop}{P:Prop}(h:upI K t σ H Q) (f:∀(Δ:DE) (M:DH) (R:List D->DH->Prop),SR K M H σ Δ->HR K M H->t Δ M R->(∀ds M1 J H1,R ds M1->Ext M H M1 H1->HR K M1 H1->ItD K J ds M1 H1->Q J H1)->P):P:=by
 obtain⟨x1,x2,x3,a,b,c,d⟩:=h
 exact f x1 x2 x3 a b c d
def PId(X:Cx) (tg iter:K3) (wi:TId):Prop:=PI X tg iter (upI X.K wi)
theorem PI.conv{tg iter:K3}{w w':TI}(h:PI X tg iter w) (k:∀ σ H R,w' σ H R->w σ H R):PI X tg iter w':=fun p s σ H R I q=>h p s σ H R I (k σ H R q)
variable{tg iter:K3}
def iE(lo:Int) (n:Nat):List D:=(Q0 n).map fun(k:Nat)=>.int (lo+(k:Int))
theorem cw{lo:Int}{n i:Nat}{d:D}(h:(iE lo n)[i]?=some d):i<n/\d=.int (lo+i):=by
 unfold iE at h
 rw[P4]at h
 by_cases hi:i<n
 ·rw[List.getElem?_range hi]at h;cases h;exact⟨hi,rfl⟩
 ·rw[U5 (by simp;omega)]at h;cases h
theorem Cn{K:o0}{lo:Int}{n:Nat}{M1:DH}{H1:Hp}:ItD K (Itr lo n) (iE lo n) M1 H1:=fun M2 H2 e2 hr2 i=>⟨fun d hd=>by
  obtain⟨h1,rfl⟩:=cw hd
  refine⟨h1,fun x H' ⟨eH,y⟩=>?_⟩
  subst eH;subst y
  exact⟨Ext.refl _ _,hr2,by simp[Rep]⟩,fun hl=>by
  show n<=i
  simpa[iE]using hl⟩
def qS(ta:TAd):TId:=fun Δ M R=>ta Δ M fun ds M1=>∃j:Int,ds=[.int j]/\-(2 ^ 62)<=j/\j<2 ^ 62/\R (iE 0 j.toNat) M1
theorem Fb{ta:TAd}{p:Pos}(hg:Gl X "range") (hm:X.mg "range"=none) (ha:PAd X [a] ta) (hs:J5 [a] X.env=[(false,T4 a X.env)]:=by rfl):PId X tg (.Call (.Name "range" p) [a] [] pos) (qS ta) :=
 (wt hg hm ha hs).conv fun σ H R hup => hup.el fun Δ M R' sr hr q k => ⟨Δ,M,_,sr,hr,q,fun ds M1 vs H1 ⟨j,ed,h1,h2,q1⟩ e1 hr1 rv => by
  subst ed
  obtain⟨v,ev,rv1⟩:=rv.one
  have ev1:v=.int j:=by simpa only[Rep]using rv1
  subst ev1;subst ev
  exact⟨j,rfl,h1,h2,k _ M1 _ H1 q1 e1 hr1 Cn⟩⟩
/-! ### for -/
def bQ(g:GD) (tb:TSd) (E:fH):List D->DE->DH->Prop
 |[],Δ,M=>E.nx Δ M
 |d::ds,Δ,M=>∃ Δ',g d Δ=some Δ'/\tb { E with nx:=bQ g tb E ds,ct:=bQ g tb E ds,bk:=E.nx } Δ' M
def wW(wi:TId) (g:GD) (tb:TSd):TSd:=fun E Δ M=>wi Δ M fun ds M1=>bQ g tb E ds Δ M1
/-! ### while -/
def yk(c:TTd) (tb:TSd):TSd:=fun E Δ M=>∃W:Nat->DE->DH->Prop,(∃m,W m Δ M)/\∀m Δ M,W m Δ M->c Δ M fun b M1=>if b=true then tb { E with nx:=fun Δ' M'=>∃m',m'<m/\W m' Δ' M',ct:=fun Δ' M'=>∃m',m'<m/\W m' Δ' M',bk:=E.nx } Δ M1 else E.nx Δ M1
end
def uW:D->Prop
 |.tup ds=>ds.length<=J1
 |.lst ds=>ds.length<=J1
 |.scr ds=>ds.length<=J1
 |_=>True
section
variable{X:Cx}{a b c e:K3}{es:List K3}{te ta tb:TEd}{pos:Pos}{tg iter elt:K3}
theorem aQ.len{K:o0}{aa:List (J9×Obj)}{σ:St}{H:Hp}{s:I0}{M:DH}{d:D}{v:V}(I:Inv X aa σ H s) (h:Rep X.K M H d v):uW d:=by
 cases d with
 |tup ds =>
  simp only[Rep]at h;obtain⟨a,vs,e,t,r⟩:=h
  obtain⟨_,_,_,z⟩:=I.tuple t.sq
  simp only[uW];rw[r.length];exact z
 |lst ds =>
  simp only[Rep]at h;obtain⟨a,vs,e,t,r⟩:=h
  obtain⟨_,_,_,z⟩:=I.list (SqL.of t.1)
  simp only[uW];rw[r.length];exact z
 |scr ds =>
  simp only[Rep]at h;obtain⟨a,vs,e,t,r⟩:=h
  obtain⟨_,_,_,z⟩:=I.list t.sq
  simp only[uW];rw[r.length];exact z
 |_=>trivial
/-! ### comprehensions -/
def cA:List Bool->DE->DE
 |true::ms,v::σ=>v::cA ms σ
 |false::ms,_::σ=>none::cA ms σ
 |[],_::σ=>none::cA [] σ
 |_,[]=>[]
def gA(ms:List Bool) (k:Nat) (Δ:DE):DE:=cA ms Δ++K0 k none
theorem cT:∀(ms:List Bool) (σ:DE),(cA ms σ).length=σ.length
 |true::ms,v::σ=>by simp[cA,cT ms σ]
 |false::ms,_::σ=>by simp[cA,cT ms σ]
 |[],_::σ=>by simp[cA,cT [] σ]
 |[],[]=>by simp[cA]
 |true::_,[]=>by simp[cA]
 |false::_,[]=>by simp[cA]
theorem ig:∀{ms:List Bool}{σ:DE}{i:Nat}{v:D},(cA ms σ)[i]?=some (some v)->ms[i]?=some true/\σ[i]?=some (some v)
 |true::ms,v::σ,0,x,h=>by simpa[cA]using h
 |true::ms,v::σ,i+1,x,h=>by
  have:=ig (ms:=ms) (σ:=σ) (i:=i) (v:=x) (by simpa[cA]using h)
  simpa using this
 |false::ms,_::σ,0,x,h=>by simp[cA]at h
 |false::ms,_::σ,i+1,x,h=>by
  have:=ig (ms:=ms) (σ:=σ) (i:=i) (v:=x) (by simpa[cA]using h)
  simpa using this
 |[],_::σ,0,x,h=>by simp[cA]at h
 |[],_::σ,i+1,x,h=>by
  have:=ig (ms:=[]) (σ:=σ) (i:=i) (v:=x) (by simpa[cA]using h)
  simpa using this
 |[],[],_,_,h=>by simp[cA]at h
 |true::_,[],_,_,h=>by simp[cA]at h
 |false::_,[],_,_,h=>by simp[cA]at h
theorem ji:∀{ms:List Bool}{σ:St}{i:Nat}{v:V},ms[i]?=some true->σ[i]?=some (some v)->(bP ms σ)[i]?=some (some v)
 |true::ms,v::σ,0,x,h,h2=>by simpa[bP]using h2
 |true::ms,v::σ,i+1,x,h,h2=>by
  have:=ji (ms:=ms) (σ:=σ) (i:=i) (v:=x) (by simpa using h) (by simpa using h2)
  simpa[bP]using this
 |false::ms,_::σ,0,x,h,h2=>by simp at h
 |false::ms,_::σ,i+1,x,h,h2=>by
  have:=ji (ms:=ms) (σ:=σ) (i:=i) (v:=x) (by simpa using h) (by simpa using h2)
  simpa[bP]using this
 |[],_,_,_,h,_=>by simp at h
 |_::_,[],_,_,_,h=>by simp at h
theorem SR.comp{K:o0}{M:DH}{H:Hp}{σ:St}{Δ:DE}(ms:List Bool) (k:Nat) (h:SR K M H σ Δ):SR K M H (iS ms k σ) (gA ms k Δ):=by
 refine⟨by simp[iS,gA,bR,cT,h.1],fun i d q=>?_⟩
 unfold gA at q
 by_cases hi:i<(cA ms Δ).length
 ·rw[N1 hi]at q
  obtain⟨m,e⟩:=ig q
  obtain⟨v,ev,rv⟩:=h.2 i d e
  refine⟨v,?_,rv⟩
  have:=ji m ev
  unfold iS
  rw[N1 (by rw[bR,h.1,<-cT ms];exact hi)]
  exact this
 ·rw[R3 (by omega),T0]at q
  split at q<;>cases q
def eJ(g:GD) (tc:TTd) (te:TEd):List D->DE->DH->List D->(List D->DH->Prop)->Prop
 |[],_,M,acc,Q=>Q acc M
 |d::ds,Δ,M,acc,Q=>∃ Δ',g d Δ=some Δ'/\tc Δ' M fun b M1=>if b=true then te Δ' M1 fun y M2=>eJ g tc te ds Δ' M2 (acc++[y]) Q else eJ g tc te ds Δ' M1 acc Q
def dLc(ms:List Bool) (k:Nat) (wi:TId) (g:GD) (tc:TTd) (te:TEd):TEd:=fun Δ M Q=>wi Δ M fun ds M1=>ds.length<=J1/\eJ g tc te ds (gA ms k Δ) M1 [] fun ys M2=>Q (.lst ys) M2
def BS(X:Cx) (ifs:List K3) (t:TTd):Prop:=PIf X ifs (upT X.K t)
def wu:TTd:=fun _ M Q=>Q true M
theorem G1:BS X [] wu:=fun aa s σ H Q I ⟨Δ,M,R,sr,hr,q,k⟩=>Ca aa s σ H Q I (k true M H q (Ext.refl _ _) hr)
theorem Fz{tc:TTd}(h:PTd X c tc):BS X [c] tc:=A5 h
abbrev oS(K:o0) (g:GD) (gv:TG):Prop:=∀(d:D) (v:V) (σ:St) (Δ Δ':DE) (M:DH) (H:Hp) (Q:St->Hp->Prop),SR K M H σ Δ->HR K M H->Rep K M H d v->g d Δ=some Δ'->(∀ σ',SR K M H σ' Δ'->Q σ' H)->gv v σ H Q
theorem AM{K:o0}{g:GD}{tc:TTd}{te:TEd}{gv:TG}(kg:oS K g gv) {J:It}{ds:List D}{M1:DH}{H1:Hp}(it:ItD K J ds M1 H1) (hr1:HR K M1 H1) (hz:ds.length<=J1) {R:List D->DH->Prop}{σ:St}{Δ:DE}(sr:SR K M1 H1 σ Δ) (q:eJ g tc te ds Δ M1 [] R) :
  ∃(W:Nat->Nat->List V->St->Hp->Prop) (Z:List V->St->Hp->Prop),(∃m,W 0 m [] σ H1)/\kj J gv (upT K tc) (kY (up K te)) W Z/\∀ys σ' H',Z ys σ' H'->∃M' acc,Ext M1 H1 M' H'/\HR K M' H'/\am K M' H' acc ys/\R acc M':=by
 refine⟨fun i m ys σ' H'=>∃ Δ' M' acc,m=ds.length-i/\i<=ds.length/\Ext M1 H1 M' H'/\HR K M' H'/\SR K M' H' σ' Δ'/\am K M' H' acc ys/\acc.length<=i/\eJ g tc te (ds.drop i) Δ' M' acc R,_,
  ⟨ds.length,_,M1,[],by simp,U4 _,Ext.refl _ _,hr1,sr,am.nil,by simp,q⟩,?_,fun _ _ _ z=>z⟩
 rintro i m ys σ2 H2 ⟨Δ2,M2,acc,rfl,hi2,e2,hr2,sr2,ra,la,f2⟩
 have hl:ys.length<=J1:=by rw[<-ra.length];omega
 refine⟨hl,?_⟩
 obtain⟨go,stop⟩:=it M2 H2 e2 hr2 i
 by_cases hlt:i<ds.length
 ·have hd:ds[i]?=some ds[i]:=by simp[hlt]
  obtain⟨g1,y1⟩:=go _ hd
  rw[List.drop_eq_getElem_cons hlt]at f2
  simp only[eJ]at f2
  obtain⟨Δ3,eg,f3⟩:=f2
  refine .inr ⟨g1,fun x H' hy=>?_⟩
  obtain⟨e3,hr3,rx⟩:=y1 x H' hy
  refine kg _ x σ2 Δ2 Δ3 M2 H' _ (sr2.ext e3) hr3 rx eg fun σ3 sr3=>?_
  refine⟨Δ3,M2,_,sr3,hr3,f3,fun b M4 H4 q4 e4 hr4=>?_⟩
  cases b with
  |true =>
   simp only[if_true]at q4 ⊢
   refine⟨Δ3,M4,_,sr3.ext e4,hr4,q4,fun y M5 v5 H5 q5 e5 hr5 rv5=>?_⟩
   refine⟨ds.length-(i+1),by omega,Δ3,M5,acc++[y],rfl,hlt,((e2.trans e3).trans e4).trans e5,hr5,(sr3.ext e4).ext e5,(((ra.ext e3).ext e4).ext e5).append (am.cons rv5 am.nil),by simp;omega,q5⟩
  |false =>
   simp only[O3,if_false]at q4 ⊢
   exact⟨ds.length-(i+1),by omega,Δ3,M4,acc,rfl,hlt,(e2.trans e3).trans e4,hr4,sr3.ext e4,(ra.ext e3).ext e4,by omega,q4⟩
 ·rw[List.drop_eq_nil_of_le (by omega)]at f2
  exact .inl ⟨stop (by omega),M2,acc,e2,hr2,ra,f2⟩
theorem vT{K:o0}{wi:TId}{g:GD}{tc:TTd}{te:TEd}{gv:TG}{ms:List Bool}{kk:Nat}(kg:oS K g gv) :
  ∀ σ H Q,up K (dLc ms kk wi g tc te) σ H Q->tLc ms kk (upI K wi) gv (upT K tc) (up K te) σ H Q:=by
 rintro σ H Q ⟨Δ,M,R,sr,hr,q,k⟩
 refine⟨Δ,M,_,sr,hr,q,fun ds M1 J H1 ⟨hz,q1⟩ e1 hr1 it=>?_⟩
 obtain⟨W,Z,hW,hC,hZ⟩:=AM kg it hr1 hz ((sr.ext e1).comp ms kk) q1
 refine⟨W,Z,hW,hC,fun ys σ' H' p z hp=>?_⟩
 obtain⟨M',acc,e',hr',ra,q'⟩:=hZ _ _ _ z
 refine k _ M' _ _ q' ((e1.trans e').trans (Ext.new hr' hp)) (hr'.new hp) ?_
 simp only[Rep]
 exact⟨p,ys,rfl,⟨aC,hr'.fresh hp⟩,ra.ext (Ext.new hr' hp)⟩
variable{scope:V3}{cl:List (Str×J9)}{ms:List Bool}{ar:List Str}{ifs:List K3}
def PGa(X:Cx) (scope:V3) (cl:List (Str×J9)) (ar:List Str) (tg:K3) (g:GD):Prop:=∃gv:TG,(∀C s H ex,PG (aH X scope cl (X.N++ar) C s H ex) tg gv)/\oS X.K g gv
theorem aN{i:Nat}{x:Str}{pos:Pos}(hN:(X.N++ar).Nodup) (hi:(X.N++ar)[i]?=some x) (hx:(relabel scope X.env).names.lookup x=some .local):PGa X scope cl ar (.Name x pos) (bf i) :=
 ⟨rS i,fun C s H ex=>wb hN hi (.inl hx) (.inr hx),fun d v σ Δ Δ' M H Q sr hr rv e k=>by cases e;exact k _ (sr.set i rv)⟩
end
/-! ### a def's promise over deep data -/
abbrev SpD:=List D->DH->(D->DH->Prop)->Prop
def spD(K:o0) (n:Nat) (S:SpD):Sp:=fun vs H Q _=>∃(ds:List D) (M:DH) (R:D->DH->Prop),ds.length=n/\am K M H ds vs/\HR K M H/\S ds M R/\∀d M' v H',R d M'->Ext M H M' H'->HR K M' H'->Rep K M' H' d v->Q v H'
theorem BQ{K:o0}{n:Nat}{S:SpD}{vs:List V}{H:Hp}{Q:VK}{E:XK}(h:spD K n S vs H Q E):vs.length=n:=by
 obtain⟨ds,M,R,hl,r,_⟩:=h
 rw[<-r.length];exact hl
def jk(N:List Str) (ds:List D):DE:=ds.map some++K0 (N.length-ds.length) none
theorem zI{K:o0}{M:DH}{H:Hp}{N:List Str}:∀{ds:List D}{vs:List V},am K M H ds vs->SR K M H (cI N vs) (jk N ds):=by
 intro ds vs h
 have hl:=h.length
 refine⟨by simp[cI,jk,hl],fun i d q=>?_⟩
 unfold jk at q
 by_cases hi:i<ds.length
 ·rw[N1 (by simpa using hi),P4]at q
  cases e:ds[i]? with
  |none=>rw[e]at q;cases q
  |some d' =>
   rw[e]at q;cases q
   obtain⟨v,gv,rv⟩:=h.get e
   refine⟨v,?_,rv⟩
   unfold cI
   rw[N1 (by simp;omega),P4,gv]
   rfl
 ·rw[R3 (by simpa using hi),T0]at q
  split at q<;>cases q
section
variable{P:L1}{w:O4}{K:o0}{mg:Str->Option s0}{base:L7}
theorem Fun.okD{x qual:Str}{st:aa0}{f:J9}{fd:R9}{N ps:List Str}{k n:Nat}{S:SpD}(F:Fun K x qual st f fd) (hn:ps.length=n) (Sc:ax N ps (aj st))
  (hbody:∀ (cdv:s0) (A:M7) (outer:List Env) (s:I0) (H:Hp) (E:XK),cm k (A.deeper (ab0 qual (aj st) s.heap.objs.size f cdv)) →
   ∃t:TSd,By (sT CX0 P w K mg base N qual (aj st) f cdv A outer s H E).nox (dq st) t/\∀ds M R,ds.length=n->S ds M R->t { nx:=fun _ M'=>R .non M',rt:=R } (jk N ds) M):aX P w K mg base CX0 (k+1) f fd ps (spD K n S):=by
 refine F.ok Sc (fun vs H Q E h=>by rw[hn];exact BQ h) (fun cdv A outer s H vs Q E hr h=>?_)
 obtain⟨t,ht,hq⟩:=hbody cdv A outer s H E hr
 obtain⟨ds,M,R,hl,r,hrr,q,k'⟩:=h
 refine⟨_,ht,jk N ds,M,_,zI r,hrr,hq ds M R hl q,⟨fun Δ' M' σ' H' q' e' hr' _=>k' .non M' .non H' q' e' hr' (by simp[Rep]),fun _ _ _ _ q'=>P2 q',fun _ _ _ _ q'=>P2 q',fun d M' v H' q' e' hr' rv=>k' d M' v H' q' e' hr' rv⟩⟩
end
section
variable{X:Cx}{a b c e:K3}{es:List K3}{te ta tb:TEd}{t:TAd}{pos:Pos}
def gn(n:Nat) (S:SpD) (t:TAd):TEd:=fun Δ M Q=>t Δ M fun ds M1=>ds.length=n/\S ds M1 Q
theorem E5{k:Nat}{f:J9}{fd:R9}{ps:List Str}{n:Nat}{S:SpD}{x:Str}{p:Pos}(F:aX X.prog X.w X.K X.mg X.base CX0 k f fd ps (spD X.K n S)) (hr:cm k X.A) (hg:Gl X x) (hm:X.mg x=some (.ref f)) (hk:T9 X.K (.ref f)=true) (hb:cY X.K fd ps [])
  (ha:PAd X (e::es) t) (hdb:(x==("__debug__":Str))=false:=by decide) (he:J5 (e::es) X.env=(false,T4 e X.env)::J5 es X.env:=by rfl) (hpl:(T5 pos (J5 es X.env)).any (·.1)=false:=by rfl) :
  PEd X (.Call (.Name x p) (e::es) [] pos) (gn n S t) :=
 (vQ F hr hg hm hk hb .nil Ar ha hdb he hpl).conv fun σ H Q hup => hup.el fun Δ M R sr hr q k => ⟨Δ,M,_,sr,hr,q,fun ds M1 vs H1 ⟨hl,q1⟩ e1 hr1 rv => by
  dsimp only;rw[V6]
  exact⟨ds,M1,R,hl,rv,hr1,q1,fun d M' v H' q' e' hr' rv'=>k d M' v H' q' (e1.trans e') hr' rv'⟩⟩
def Da(M1 M2:DH) (d d2:D):Prop:=d2=d∨∃a l,d=.ref a/\M1 a=some (.lst l)/\M2 a=none/\d2=.lst l
theorem tG{K:o0}{M1 M2:DH}{H:Hp}(hr:HR K M1 H) (hle:LeM M2 M1):∀{ds ds2:List D}{vs:List V},Q7 (Da M1 M2) ds ds2->am K M1 H ds vs->am K M2 H ds2 vs
 |_,_,_,.nil,h=>by simp only[am]at h ⊢;exact h
 |_,_,_,.cons h1 t,h=>by
  simp only[am]at h
  obtain⟨v,ws,rfl,h3,h4⟩:=h
  refine am.cons ?_ (tG hr hle t h4)
  rcases h1 with rfl|⟨a,l,rfl,e1,e2,rfl⟩
  ·exact h3.ext (Ext.le hle)
  ·simp only[Rep]at h3
   subst h3
   exact Rep.froze hr hle e1 e2
def qC(n:Nat) (S:SpD) (t:TAd):TEd:=fun Δ M Q=>t Δ M fun ds M1=>∃(M2:DH) (ds2:List D) (R:D->DH->Prop),LeM M2 M1/\Q7 (Da M1 M2) ds ds2/\ds2.length=n/\S ds2 M2 R /\
 ∀d M3,R d M3->noL d=true/\(∀a o,M3 a=some o->noC o=true)/\Q d (iP M1 M2 M3)
theorem BM{k:Nat}{f:J9}{fd:R9}{ps:List Str}{n:Nat}{S:SpD}{x:Str}{p:Pos}(F:aX X.prog X.w X.K X.mg X.base CX0 k f fd ps (spD X.K n S)) (hr:cm k X.A) (hg:Gl X x) (hm:X.mg x=some (.ref f)) (hk:T9 X.K (.ref f)=true) (hb:cY X.K fd ps [])
  (ha:PAd X (e::es) t) (hdb:(x==("__debug__":Str))=false:=by decide) (he:J5 (e::es) X.env=(false,T4 e X.env)::J5 es X.env:=by rfl) (hpl:(T5 pos (J5 es X.env)).any (·.1)=false:=by rfl) :
  PEd X (.Call (.Name x p) (e::es) [] pos) (qC n S t) :=
 (vQ F hr hg hm hk hb .nil Ar ha hdb he hpl).conv fun σ H Q hup => hup.el fun Δ M R sr hr q k => ⟨Δ,M,_,sr,hr,q,fun ds M1 vs H1 ⟨M2,ds2,R2,hle,hp,hl,q1,q2⟩ e1 hr1 rv => by
  dsimp only;rw[V6]
  refine⟨ds2,M2,R2,hl,tG hr1 hle hp rv,hr1.le hle,q1,fun d M3 v H' q' e' hr' rv'=>?_⟩
  obtain⟨n1,n2,q3⟩:=q2 d M3 q'
  exact k d _ v H' q3 (e1.trans (Ext.back hle e')) (hr1.back hle e' hr' n2) (Rep.hard n1 rv' (c8 hr1 hle e' hr'))⟩
/-! ### cells of ours are written -/
def GK(to ti te:TEd):TSd:=fun E Δ M=>te Δ M fun d M1=>to Δ M1 fun o M2=>ti Δ M2 fun i M3=>∃a ds k j,o=.ref a/\i=.int k/\M3 a=some (.lst ds)/\ixN ds.length k=some j/\E.nx Δ (au M3 a (.lst (ds.set j d)))
def Ax(to te:TEd):TEd:=fun Δ M Q=>to Δ M fun o M1=>∃a l,o=.ref a/\M1 a=some (.lst l)/\te Δ M1 fun d M2=>∃ds,M2 a=some (.lst ds)/\ds.length<J1/\Q .non (au M2 a (.lst (ds++[d])))
end
/-! ### any source that the library walks,as a kF -/
def ItW(n:Nat) (Vp:Nat->V->Prop):It:=⟨fun i _=>i<n,fun i H x H'=>H'=H/\Vp i x,fun i _=>n<=i⟩
theorem xb{P:L1}{w:O4}{K:o0}{tg:K3}{it:J9}{n:Nat}{Pv:Nat->s0->Prop}{St:Nat->L7->Prop}{ty:String}{Vp:Nat->V->Prop}
  (W:∀A:M7,A.handled=none->Walks P w A it [it] [it] n Pv St) (ho:∀i h,St i h->∃o,h.get? it=some o/\o.cls=.type ty/\∃vs,o.data=.fields vs)
  (hn:["enumerate","zip","dict_itemiterator","dict_reverseitemiterator","odict_iterator","itertools.zip_longest","itertools.pairwise"].contains ty=false)
  (hv:∀i u,Pv i u->∃x,aD x u/\Vp i x) (hself:∀(A:M7) (i:Nat) (s:I0) (Q:s0->I0->Prop) (E:s0->I0->Prop),St i s.heap->Q (.ref it) s->K4 (K9 P w) A (ac1 (.ref it)) Q E s):kF P w K tg (ItW n Vp) [it] it (fun i h=>i<=n/\St i h) where
 mem:=by simp
 obj:=fun i h st b hb=>by
  have e:b=it:=by simpa using hb
  subst e
  obtain⟨o,e,c,vs,d⟩:=ho i h st.2
  exact⟨o,e,fun v z=>by rw[d]at z;cases z⟩
 keep:=fun i h h' st k=>⟨st.1,(W { handled:=none } rfl).frame i h h' st.2 k⟩
 item:=by
  intro X hP hw hK hc i aa s σ H E I hf st hg
  subst hP hw hK
  obtain⟨f0,f1,f2,f3,f4,f5⟩:=hf it (by simp)
  refine(W X.A (I.ok.hd hc)).item i s _ _ hg st.2 fun v h' tk pv st' kk=>?_
  have I1:Inv X aa σ H { s with heap:=h',toks:=tk }:=I.turned (fun b o hb e=>kk b o (by simpa using hb) e) f0 f1 f3 f4 f5
  obtain⟨x,rx,vx⟩:=hv i v pv
  obtain⟨o,e,c,vs,d⟩:=ho _ _ st'
  exact⟨v,rfl,pC (s:={ s with heap:=h',toks:=tk }) e c d hn ⟨x,H,I1,rx,⟨rfl,vx⟩,⟨hg,st'⟩,fun b hb=>(hf b hb).1⟩⟩
 done:=by
  intro X hP hw hK hc i aa s σ H E I hf st hg
  subst hP hw hK
  obtain⟨f0,f1,f2,f3,f4,f5⟩:=hf it (by simp)
  have e:i=n:=Nat.le_antisymm st.1 hg
  subst e
  exact(W X.A (I.ok.hd hc)).done s _ _ st.2 fun h' tk kk=>⟨rfl,I.turned (fun b o hb e=>kk b o (by simpa using hb) e) f0 f1 f3 f4 f5⟩
 self:=fun A i s Q E st h=>hself A i s Q E st.2 h
section
variable{X:Cx}{a b c e:K3}{es:List K3}{te ta tb:TEd}{t:TAd}{pos:Pos}{tg iter:K3}
/-! ### a text's bj -/
def bj(x:Str):List D:=x.cps.toList.map fun c=>.str ⟨#[c]⟩
theorem vZ{aa:List (J9×Obj)}{σ:St}{H:Hp}{s:I0}{x:Str}{t:Tok}{R:It->Hp->Prop}(I:Inv X aa σ H s) (ty:String) (hn:["enumerate","zip","dict_itemiterator","dict_reverseitemiterator","odict_iterator","itertools.zip_longest","itertools.pairwise"].contains ty=false)
  (W:∀A:M7,A.handled=none->Walks X.prog X.w A s.heap.objs.size [s.heap.objs.size] [s.heap.objs.size] x.cps.size (SignAt x) (fun i h=>h.IsStrIter s.heap.objs.size ty x t i))
  (hself:∀(A:M7) (i:Nat) (s':I0) (Q:s0->I0->Prop) (E:s0->I0->Prop),s'.heap.IsStrIter s.heap.objs.size ty x t i->Q (.ref s.heap.objs.size) s'->K4 (K9 X.prog X.w) A (ac1 (.ref s.heap.objs.size)) Q E s')
  (q:R (ItW x.cps.size fun i v=>∃c,x.cps[i]?=some c/\v=.str ⟨#[c]⟩) H):PIE X aa σ tg R (.ref s.heap.objs.size) { s with heap:=s.heap.push { cls:=.type ty,data:=.fields #[.str x t,.int 0 0] } }:=by
 have I1:Inv X aa σ H { s with heap:=s.heap.push { cls:=.type ty,data:=.fields #[.str x t,.int 0 0] } }:=I.kept (t':=s.toks) fun b o e=>J0 _ e
 refine⟨s.heap.objs.size,[s.heap.objs.size],_,_,H,rfl,I1,xb W (fun i h st=>?_) hn (fun i u ⟨c,t',e,ev⟩=>⟨.str ⟨#[c]⟩,⟨t',ev⟩,c,e,rfl⟩) hself,⟨U4 _,_,J7 _ rfl,rfl,rfl⟩,fun b hb=>?_,q⟩
 ·obtain⟨o,e,c,d⟩:=st
  exact⟨o,e,c,_,d⟩
 ·have e:b=s.heap.objs.size:=by simpa using hb
  subst e
  exact I.fpOk (J6 _) (I.hok.fresh (J6 _))
end
section
variable{X:Cx}{a b c e:K3}{es:List K3}{te ta tb:TEd}{t:TAd}{pos:Pos}
/-! ###==-/
def eqF(x y:D):Option D:=if dLe x 60=true/\dLe y 60=true then some (.bl (eqD x y))else none
theorem Al{x y z:D}(h:eqF x y=some z):dLe x 60=true/\dLe y 60=true/\z=.bl (eqD x y):=by
 unfold eqF at h
 by_cases hc:dLe x 60=true/\dLe y 60=true
 ·rw[if_pos hc]at h;cases h;exact⟨hc.1,hc.2,rfl⟩
 ·rw[if_neg hc]at h;cases h
theorem lF(hu:X.A.units+64<Z6):bW X (L5 .Eq) eqF:=by
 intro aa s σ H M x y v u dx dy dz Q I hr rx ry r1 r2 e k
 obtain⟨h1,h2,rfl⟩:=Al e
 exact(nM I 60 (A:=X.A) (by omega) h1 h2 r1 r2 rx ry).2.1 X.prog X.w X.xe _ ⟨.bl (eqD dx dy),H,I,rfl,k _ H (Ext.refl _ _) hr (by simp[Rep])⟩
/-! ### in,not in: flat items -/
def inD(neg:Bool) (x y:D):Option D:=match y with
 |.lst ds=>if bo x=true/\ds.all bo=true then some (.bl (xor neg (ds.any fun d=>eqD d x)))else none
 |.tup ds=>if bo x=true/\ds.all bo=true then some (.bl (xor neg (ds.any fun d=>eqD d x)))else none
 |_=>none
theorem Dh{K:o0}{M:DH}{H:Hp}{d:D}{v:V}(h:bo d=true) (r:Rep K M H d v):v=toV d/\g7 v=true:=by
 cases d<;>first|(simp only[Rep]at r;subst r;exact⟨rfl,rfl⟩)|cases h
theorem Ck{x y:D}(hx:bo x=true) (hy:bo y=true):eqV (toV x) (toV y)=eqD x y:=by
 cases x<;>cases y<;>first|(simp[bo]at hx;done)|(simp[bo]at hy;done)|(simp[toV,eqV,eqD];done)
theorem hV{K:o0}{M:DH}{H:Hp}{x:D}(hx:bo x=true):∀{ds:List D}{vs:List V},am K M H ds vs->ds.all bo=true->vs.all g7=true/\inV (toV x) vs=ds.any fun d=>eqD d x
 |[],_,h,_=>by simp only[am]at h;subst h;simp[inV]
 |d::ds,_,h,ha=>by
  simp only[am]at h
  obtain⟨v,ws,rfl,h3,h4⟩:=h
  rw[W0,L6]at ha
  obtain⟨e1,e2⟩:=Dh ha.1 h3
  obtain⟨e3,e4⟩:=hV hx h4 ha.2
  subst e1
  refine⟨by rw[W0,e2,e3];rfl,?_⟩
  unfold inV at e4 ⊢
  rw[P6,P6,e4,Ck ha.1 hx]
theorem aQ.scal{K:o0}{M:DH}{H:Hp}{d:D}{v:V}(h:bo d=true) (r:aQ K M H d v):v=toV d/\g7 v=true:=by
 cases d<;>first|(simp only[aQ,Rep]at r;subst r;exact⟨rfl,rfl⟩)|cases h
theorem HA:bW X (L5 .In) (inD false):=bW.of wA fun H M x y dx dy dz Q hr r1 r2 e q=>by
 cases dy with
 |lst ds =>
  simp only[inD]at e
  by_cases hc:bo dx=true/\ds.all bo=true
  ·rw[if_pos hc]at e;cases e
   obtain⟨l,vs,rfl,sq,rl⟩:=r2
   obtain⟨e1,e2⟩:=aQ.scal hc.1 r1
   obtain⟨e3,e4⟩:=hV hc.1 rl hc.2
   subst e1
   refine⟨l,vs,rfl,.inl (SqL.of sq),e2,e3,q _ H (Ext.refl _ _) hr ?_⟩
   rw[e4];simp[Rep]
  ·rw[if_neg hc]at e;cases e
 |tup ds =>
  simp only[inD]at e
  by_cases hc:bo dx=true/\ds.all bo=true
  ·rw[if_pos hc]at e;cases e
   obtain⟨l,vs,rfl,sq,rl⟩:=r2
   obtain⟨e1,e2⟩:=aQ.scal hc.1 r1
   obtain⟨e3,e4⟩:=hV hc.1 rl hc.2
   subst e1
   refine⟨l,vs,rfl,.inr sq,e2,e3,q _ H (Ext.refl _ _) hr ?_⟩
   rw[e4];simp[Rep]
  ·rw[if_neg hc]at e;cases e
 |_=>cases e
theorem B9:bW X (L5 .NotIn) (inD true):=bW.of qV fun H M x y dx dy dz Q hr r1 r2 e q=>by
 cases dy with
 |lst ds =>
  simp only[inD]at e
  by_cases hc:bo dx=true/\ds.all bo=true
  ·rw[if_pos hc]at e;cases e
   obtain⟨l,vs,rfl,sq,rl⟩:=r2
   obtain⟨e1,e2⟩:=aQ.scal hc.1 r1
   obtain⟨e3,e4⟩:=hV hc.1 rl hc.2
   subst e1
   refine⟨l,vs,rfl,.inl (SqL.of sq),e2,e3,q _ H (Ext.refl _ _) hr ?_⟩
   rw[e4];simp[Rep]
  ·rw[if_neg hc]at e;cases e
 |tup ds =>
  simp only[inD]at e
  by_cases hc:bo dx=true/\ds.all bo=true
  ·rw[if_pos hc]at e;cases e
   obtain⟨l,vs,rfl,sq,rl⟩:=r2
   obtain⟨e1,e2⟩:=aQ.scal hc.1 r1
   obtain⟨e3,e4⟩:=hV hc.1 rl hc.2
   subst e1
   refine⟨l,vs,rfl,.inr sq,e2,e3,q _ H (Ext.refl _ _) hr ?_⟩
   rw[e4];simp[Rep]
  ·rw[if_neg hc]at e;cases e
 |_=>cases e
/-! ### len,abs,tuple,list -/
def kT(f:D->Option D):List D->Option D
 |[d]=>f d
 |_=>none
theorem kZ{K:o0}{M:DH}{H:Hp}{d:D}{xs:List V}(h:Q7 (aQ K M H) [d] xs):∃v,xs=[v]/\aQ K M H d v:=by
 cases h with
 |cons r t=>cases t;exact⟨_,rfl,r⟩
theorem cJ{f:D->Option D}{ds:List D}{z:D}(h:kT f ds=some z):∃d,ds=[d]/\f d=some z:=by
 match ds,h with
 |[d],h=>exact⟨d,rfl,h⟩
def lz:D->Option D
 |.tup ds=>some (.int ds.length)
 |.lst ds=>some (.int ds.length)
 |.scr ds=>some (.int ds.length)
 |.str x=>if x.length<=J1 then some (.int x.length)else none
 |_=>none
theorem cZ:cb X (.builtin "len") (kT lz):=cb.of (dN.or qE qp) fun H M xs ds dz Q hr rp e q=>by
 obtain⟨d,rfl,e0⟩:=cJ e
 clear e
 have e:=e0
 clear e0
 obtain⟨v,rfl,r⟩:=kZ rp
 cases d with
 |tup ds=>cases e;obtain⟨l,vs,rfl,sq,rl⟩:=r;exact .inl ⟨l,vs,rfl,.inr sq,q _ H (Ext.refl _ _) hr (by rw[<-rl.length];simp[Rep])⟩
 |lst ds=>cases e;obtain⟨l,vs,rfl,sq,rl⟩:=r;exact .inl ⟨l,vs,rfl,.inl (SqL.of sq),q _ H (Ext.refl _ _) hr (by rw[<-rl.length];simp[Rep])⟩
 |scr ds=>cases e;obtain⟨l,vs,rfl,sq,rl⟩:=r;exact .inl ⟨l,vs,rfl,.inl sq,q _ H (Ext.refl _ _) hr (by rw[<-rl.length];simp[Rep])⟩
 |str x =>
  simp only[lz]at e
  by_cases hz:x.length<=J1
  ·rw[if_pos hz]at e;cases e
   exact .inr ⟨x,by rw[oJ r],hz,q _ H (Ext.refl _ _) hr (by simp[Rep])⟩
  ·rw[if_neg hz]at e;cases e
 |_=>cases e
def FO:D->Option D
 |.int i=>some (.int (if i<0 then -i else i))
 |_=>none
theorem Gn:cb X (.builtin "abs") (kT FO):=cb.of xK fun H M xs ds dz Q hr rp e q=>by
 obtain⟨d,rfl,e0⟩:=cJ e
 clear e
 have e:=e0
 clear e0
 obtain⟨v,rfl,r⟩:=kZ rp
 cases d with
 |int i=>cases e;exact⟨i,by rw[g6 r],q _ H (Ext.refl _ _) hr (by simp[Rep])⟩
 |_=>cases e
def CA:D->Option D
 |.lst ds=>some (.tup ds)
 |.tup ds=>some (.tup ds)
 |_=>none
theorem iA:cb X (.type "tuple") (kT CA):=cb.of oF fun H M xs ds dz Q hr rp e q=>by
 obtain⟨d,rfl,e0⟩:=cJ e
 clear e
 have e:=e0
 clear e0
 obtain⟨v,rfl,r⟩:=kZ rp
 cases d with
 |lst ds=>cases e;obtain⟨l,vs,rfl,sq,rl⟩:=r;exact⟨l,vs,rfl,.inl ⟨SqL.of sq,fun p hp=>mX hr hp rl q⟩⟩
 |tup ds=>cases e;have t1:=aQ.tup hr r;obtain⟨l,vs,rfl,sq,rl⟩:=r;exact⟨l,vs,rfl,.inr ⟨sq,q _ H (Ext.refl _ _) hr t1⟩⟩
 |_=>cases e
/-! ### all,any of truths -/
def uM:D->Bool
 |.bl _=>true
 |_=>false
def sO:D->Bool
 |.bl b=>b
 |_=>false
def AO:D->Option D
 |.lst ds=>if ds.all uM=true then some (.bl (ds.all sO))else none
 |_=>none
def AY:D->Option D
 |.lst ds=>if ds.all uM=true then some (.bl (ds.any sO))else none
 |_=>none
theorem xk{p:Nat->Bool}{q:D->Bool}:∀{ds:List D},(∀i d,ds[i]?=some d->p i=q d)->(Q0 ds.length).all p=ds.all q:=by
 intro ds h
 rw[Bool.eq_iff_iff,X6,X6]
 constructor
 ·intro hh d hd
  obtain⟨i,hi,e⟩:=List.mem_iff_getElem.mp hd
  rw[<-h i d (by rw[S3 hi,e])]
  exact hh i (W8.mpr hi)
 ·intro hh i hi
  have hi:=W8.mp hi
  rw[h i ds[i] (by simp[hi])]
  exact hh _ (List.getElem_mem hi)
theorem wo{p:Nat->Bool}{q:D->Bool}:∀{ds:List D},(∀i d,ds[i]?=some d->p i=q d)->(Q0 ds.length).any p=ds.any q:=by
 intro ds h
 rw[Bool.eq_iff_iff,List.any_eq_true,List.any_eq_true]
 constructor
 ·rintro⟨i,hi,hp⟩
  have hi:=W8.mp hi
  exact⟨ds[i],List.getElem_mem hi,by rw[<-h i ds[i] (by simp[hi])];exact hp⟩
 ·rintro⟨d,hd,hq⟩
  obtain⟨i,hi,e⟩:=List.mem_iff_getElem.mp hd
  exact⟨i,W8.mpr hi,by rw[h i d (by rw[S3 hi,e])];exact hq⟩
theorem sY{K:o0}{M:DH}{H:Hp}{ds:List D}{vs:List V}{us:List s0}(rl:am K M H ds vs) (rv:az vs us) (hb:ds.all uM=true) {i:Nat}{u:s0}(h:us[i]?=some u):∃d,ds[i]?=some d/\u=.bool (sO d):=by
 have hi:i<ds.length:=by rw[rl.length,rv.length];exact(N0.mp h).1
 obtain⟨v,g,r⟩:=rl.get (i:=i) (d:=ds[i]) (by simp[hi])
 obtain⟨u',g',r'⟩:=rv.get g
 rw[h]at g';cases g'
 have hbi:=X6.mp hb ds[i] (List.getElem_mem hi)
 refine⟨ds[i],by simp[hi],?_⟩
 cases q:ds[i]with
 |bl b=>rw[q]at r;simp only[Rep]at r;subst r;exact r'
 |_=>rw[q]at hbi;cases hbi
theorem Hb(hc:X.calm=true):cb X (.builtin "all") (kT AO):=by
 intro aa s σ H M xs us ds dz Q I hr rv rp e k
 obtain⟨d,rfl,e0⟩:=cJ e
 clear e
 have e:=e0
 clear e0
 obtain⟨v,rfl,r⟩:=kZ rp
 obtain⟨u,rfl,ru⟩:=az.one rv
 cases d with
 |lst ds =>
  simp only[AO]at e
  by_cases hb:ds.all uM=true
  ·rw[if_pos hb]at e;cases e
   obtain⟨l,vs,rfl,sq,rl⟩:=r
   cases ru
   obtain⟨its,rv,pl,hz⟩:=I.list (SqL.of sq)
   have hne:l≠s.heap.objs.size:=K2 (I.hok.lt sq)
   refine call_all_walk (W7 pl.isList ⟨s.heap.objs.size,[s.heap.objs.size,l],[s.heap.objs.size],its.toArray.size,_,_,fun i=>(ds[i]?.map sO).getD false,rfl,Walks.list (A:=X.A.in1) (show X.A.in1.handled=none from I.ok.hd hc) s.heap.objs.size l hne its.toArray,⟨⟨_,J7 _ rfl,rfl,rfl⟩,?_⟩,fun i v s' Q' E' hv q=>?_,fun h' tk kk=>?_⟩)
   ·obtain⟨o,e,c⟩:=pl.isList
    exact⟨o,J0 _ e,c⟩
   ·obtain⟨d,hd,rfl⟩:=sY rl rv hb (i:=i) (u:=v) (by simpa using hv)
    dsimp only at q;rw[hd]at q
    exact Q5 q
   ·have I1:Inv X aa σ H { s with heap:=h',toks:=tk }:=I.kept (t':=tk) fun b o e=>kk b o (by simpa using K2 (J8 e)) (J0 _ e)
    refine⟨.bl _,H,I1,rfl,k _ H (Ext.refl _ _) hr ?_⟩
    rw[J3,<-rv.length,<-rl.length,xk (q:=sO) (fun i d hd=>by simp[hd])]
    simp[Rep]
  ·rw[if_neg hb]at e;cases e
 |_=>cases e
theorem GB(hc:X.calm=true):cb X (.builtin "any") (kT AY):=by
 intro aa s σ H M xs us ds dz Q I hr rv rp e k
 obtain⟨d,rfl,e0⟩:=cJ e
 clear e
 have e:=e0
 clear e0
 obtain⟨v,rfl,r⟩:=kZ rp
 obtain⟨u,rfl,ru⟩:=az.one rv
 cases d with
 |lst ds =>
  simp only[AY]at e
  by_cases hb:ds.all uM=true
  ·rw[if_pos hb]at e;cases e
   obtain⟨l,vs,rfl,sq,rl⟩:=r
   cases ru
   obtain⟨its,rv,pl,hz⟩:=I.list (SqL.of sq)
   have hne:l≠s.heap.objs.size:=K2 (I.hok.lt sq)
   refine call_any_walk (W7 pl.isList ⟨s.heap.objs.size,[s.heap.objs.size,l],[s.heap.objs.size],its.toArray.size,_,_,fun i=>(ds[i]?.map sO).getD false,rfl,Walks.list (A:=X.A.in1) (show X.A.in1.handled=none from I.ok.hd hc) s.heap.objs.size l hne its.toArray,⟨⟨_,J7 _ rfl,rfl,rfl⟩,?_⟩,fun i v s' Q' E' hv q=>?_,fun h' tk kk=>?_⟩)
   ·obtain⟨o,e,c⟩:=pl.isList
    exact⟨o,J0 _ e,c⟩
   ·obtain⟨d,hd,rfl⟩:=sY rl rv hb (i:=i) (u:=v) (by simpa using hv)
    dsimp only at q;rw[hd]at q
    exact Q5 q
   ·have I1:Inv X aa σ H { s with heap:=h',toks:=tk }:=I.kept (t':=tk) fun b o e=>kk b o (by simpa using K2 (J8 e)) (J0 _ e)
    refine⟨.bl _,H,I1,rfl,k _ H (Ext.refl _ _) hr ?_⟩
    rw[J3,<-rv.length,<-rl.length,wo (q:=sO) (fun i d hd=>by simp[hd])]
    simp[Rep]
  ·rw[if_neg hb]at e;cases e
 |_=>cases e
end
section
variable{X:Cx}{a b c e:K3}{es:List K3}{te ta tb:TEd}{t:TAd}{pos:Pos}
/-! ### isinstance -/
def AK(T:String):D->Option Bool
 |.non=>some false
 |.bl _=>some (T=="bool" || T=="int")
 |.int _=>some (T=="int")
 |.str _=>some (T=="str")
 |.tup _=>some (T=="tuple")
 |.lst _=>some (T=="list")
 |.emp=>some (T=="dict")
 |_=>none
def okT(T:String):Bool:=T=="bool" || T=="int" || T=="str" || T=="tuple" || T=="list"
def GR(T:String) (te:TEd):TEd:=fun Δ M Q=>te Δ M fun d M1=>∃k,AK T (rdM M1 d)=some k/\Q (.bl k) M1
theorem xr{T:String}(hT:okT T=true) {aa:List (J9×Obj)}{s:I0}{σ:St}{H:Hp}{M:DH}{v:V}{u:s0}{d:D}{k:Bool}{Q:VK}(I:Inv X aa σ H s) (r:aD v u) (rd:aQ X.K M H d v) (e:AK T d=some k) (q:Q (.bl k) H) :
  K4 (K9 X.prog X.w) X.A (call (.builtin "isinstance") [u,.type T]) (EP X aa σ Q) X.xe s:=by
 have fin:∀{k'} ,k=k'->EP X aa σ Q (.bool k') s:=fun e=>by subst e;exact⟨.bl k,H,I,rfl,q⟩
 have fint:∀{k'} ,k=k'->EP X aa σ Q (.bool k') { s with toks:=s.toks+1 }:=fun e=>by subst e;exact⟨.bl k,H,I.tok _,rfl,q⟩
 have h5:T="bool"∨T="int"∨T="str"∨T="tuple"∨T="list":=by
  simp[okT]at hT
  rcases hT with(((h|h)|h)|h)|h<;>simp[h]
 cases d with
 |non =>
  simp only[aQ,Rep]at rd;subst rd;simp only[aD]at r;subst r;cases e
  rcases h5 with rfl|rfl|rfl|rfl|rfl
  ·exact IsiPair.NoneType_bool (fint rfl)
  ·exact IsiPair.NoneType_int (fint rfl)
  ·exact IsiPair.NoneType_str (fint rfl)
  ·exact IsiPair.NoneType_tuple (fint rfl)
  ·exact IsiPair.NoneType_list (fint rfl)
 |bl b =>
  simp only[aQ,Rep]at rd;subst rd;simp only[aD]at r;subst r;cases e
  rcases h5 with rfl|rfl|rfl|rfl|rfl
  ·exact IsiPair.bool_bool (fin rfl)
  ·exact IsiPair.bool_int (fin rfl)
  ·exact IsiPair.bool_str (fint rfl)
  ·exact IsiPair.bool_tuple (fint rfl)
  ·exact IsiPair.bool_list (fint rfl)
 |int i =>
  simp only[aQ,Rep]at rd;subst rd;obtain⟨t,rfl⟩:=r;cases e
  rcases h5 with rfl|rfl|rfl|rfl|rfl
  ·exact IsiPair.int_bool (fint rfl)
  ·exact IsiPair.int_int (fin rfl)
  ·exact IsiPair.int_str (fint rfl)
  ·exact IsiPair.int_tuple (fint rfl)
  ·exact IsiPair.int_list (fint rfl)
 |str x =>
  simp only[aQ,Rep]at rd;subst rd;obtain⟨t,rfl⟩:=r;cases e
  rcases h5 with rfl|rfl|rfl|rfl|rfl
  ·exact IsiPair.str_bool (fint rfl)
  ·exact IsiPair.str_int (fint rfl)
  ·exact IsiPair.str_str (fin rfl)
  ·exact IsiPair.str_tuple (fint rfl)
  ·exact IsiPair.str_list (fint rfl)
 |tup ds =>
  obtain⟨a,vs,rfl,sq,rl⟩:=rd
  cases r;cases e
  obtain⟨its,rv,⟨o,ho,hc,_⟩,_⟩:=I.tuple sq
  rcases h5 with rfl|rfl|rfl|rfl|rfl
  ·exact IsiPair.tuple_bool ho hc (fint rfl)
  ·exact IsiPair.tuple_int ho hc (fint rfl)
  ·exact IsiPair.tuple_str ho hc (fint rfl)
  ·exact IsiPair.tuple_tuple ho hc (fin rfl)
  ·exact IsiPair.tuple_list ho hc (fint rfl)
 |lst ds =>
  obtain⟨a,vs,rfl,sq,rl⟩:=rd
  cases r;cases e
  obtain⟨its,rv,⟨o,n,ho,hc,_⟩,_⟩:=I.list (SqL.of sq)
  rcases h5 with rfl|rfl|rfl|rfl|rfl
  ·exact IsiPair.list_bool ho hc (fint rfl)
  ·exact IsiPair.list_int ho hc (fint rfl)
  ·exact IsiPair.list_str ho hc (fint rfl)
  ·exact IsiPair.list_tuple ho hc (fint rfl)
  ·exact IsiPair.list_list ho hc (fin rfl)
 |emp =>
  simp only[aQ,Rep]at rd
  obtain⟨a,rfl,h1,_⟩:=rd
  cases r;cases e
  obtain⟨_,_,_,_,o,es,ep,ho,ex,_⟩:=I.hok a _ h1
  rcases h5 with rfl|rfl|rfl|rfl|rfl
  ·exact IsiPair.dict_bool ho ex.1 (fint rfl)
  ·exact IsiPair.dict_int ho ex.1 (fint rfl)
  ·exact IsiPair.dict_str ho ex.1 (fint rfl)
  ·exact IsiPair.dict_tuple ho ex.1 (fint rfl)
  ·exact IsiPair.dict_list ho ex.1 (fint rfl)
 |_=>cases e
/-! ### slices -/
abbrev TOd:=DE->DH->(Option Int->DH->Prop)->Prop
def upO(K:o0) (t:TOd):TO:=fun σ H Q=>∃(Δ:DE) (M:DH) (R:Option Int->DH->Prop),SR K M H σ Δ/\HR K M H/\t Δ M R/\∀i M' H',R i M'->Ext M H M' H'->HR K M' H'->Q i H'
theorem upO.el{K:o0}{t:TOd}{σ:St}{H:Hp}{Q:Option Int->Hp->Prop}{P:Prop}(h:upO K t σ H Q) (f:∀(Δ:DE) (M:DH) (R:Option Int->DH->Prop),SR K M H σ Δ->HR K M H->t Δ M R->(∀i M' H',R i M'->Ext M H M' H'->HR K M' H'->Q i H')->P):P:=by
 obtain⟨x1,x2,x3,a,b,c,d⟩:=h
 exact f x1 x2 x3 a b c d
def POd(X:Cx) (e:Option K3) (t:TOd):Prop:=PO X e (upO X.K t)
def qD:TOd:=fun _ M Q=>Q none M
def Ae(t:TEd):TOd:=fun Δ M Q=>t Δ M fun d M1=>∃i,d=.int i/\Q (some i) M1
theorem PO.conv{e:Option K3}{t t':TO}(h:PO X e t) (k:∀ σ H Q,t' σ H Q->t σ H Q):PO X e t':=fun p s σ H Q I q=>h p s σ H Q I (k σ H Q q)
theorem Cp:POd X none qD:=AE.conv fun σ H Q hup=>hup.el fun Δ M R sr hr q k=>k none M H q (Ext.refl _ _) hr
theorem Bv(h:PEd X e te):POd X (some e) (Ae te):=(BB h).conv fun σ H Q hup=>hup.el fun Δ M R sr hr q k=>⟨Δ,M,_,sr,hr,q,fun d M1 v H1 ⟨i,ed,q1⟩ e1 hr1 rv=>⟨i,by subst ed;simpa only[Rep]using rv,k _ M1 H1 q1 e1 hr1⟩⟩
def cG(xs:List D) (lo hi:Option Int):List D:=(xs.drop (HT.sIx xs.length 0 lo)).take (HT.sIx xs.length xs.length hi-HT.sIx xs.length 0 lo)
def slD:D->Option Int->Option Int->Option D
 |.lst ds,lo,hi=>some (.lst (cG ds lo hi))
 |.scr ds,lo,hi=>some (.lst (cG ds lo hi))
 |.str x,lo,hi=>if x.length<=J1 then some (.str (Y5 x lo hi))else none
 |.tup ds,lo,hi=>if HT.sIx ds.length 0 lo=0/\HT.sIx ds.length ds.length hi=ds.length then none else some (.tup (cG ds lo hi))
 |_,_,_=>none
def Ib:V->Option Int->Option Int->Hp->VK->Prop:=fun x lo hi H Q=>∃z,x=.str z/\z.length<=J1/\Q (.str (Y5 z lo hi)) H
theorem DZ:SlR X Ib:=by
 intro aa s σ H x v vl vu lo hi sl Q I rx hs pl pu h
 obtain⟨z,rfl,hz,q⟩:=h
 obtain⟨t,rfl⟩:=rx
 refine⟨"str",_,PySem.F.slot_str_getitem.lookup,typeIs_str _ _ _,?_⟩
 have fin:∀(t':Tok) (k:Nat),EP X aa σ Q (.str (Y5 z lo hi) t') { s with toks:=k }:=fun t' k=>⟨.str (Y5 z lo hi),H,I.tok _,⟨t',rfl⟩,q⟩
 cases pl with
 |none =>
  cases pu with
  |none=>exact T3 (l:=none) (u:=none) (st:=none) hs rfl (Y6 ⟨M9 (aa6 z _ _) hz,fin⟩)
  |int j tj=>exact T3 (l:=none) (u:=some (j,tj)) (st:=none) hs rfl (Y6 ⟨M9 (aa6 z _ _) hz,fin⟩)
 |int i ti =>
  cases pu with
  |none=>exact T3 (l:=some (i,ti)) (u:=none) (st:=none) hs rfl (Y6 ⟨M9 (aa6 z _ _) hz,fin⟩)
  |int j tj=>exact T3 (l:=some (i,ti)) (u:=some (j,tj)) (st:=none) hs rfl (Y6 ⟨M9 (aa6 z _ _) hz,fin⟩)
/-! ### join -/
def gi:List D->Option (List Str)
 |[]=>some []
 |.str x::ds=>(gi ds).map (x::·)
 |_=>none
theorem n9{K:o0}{M:DH}{H:Hp}:∀{ds:List D}{vs:List V}{us:List s0}{ys:List Str},am K M H ds vs->az vs us->gi ds=some ys->StrsAre us ys
 |[],_,_,_,h,rv,e=>by
  simp only[am]at h;subst h;cases rv;cases e;exact .nil
 |d::ds,_,_,ys,h,rv,e=>by
  simp only[am]at h
  obtain⟨v,ws,rfl,h3,h4⟩:=h
  cases d with
  |str x =>
   simp only[gi]at e
   cases q:gi ds with
   |none=>rw[q]at e;cases e
   |some zs =>
    rw[q]at e;cases e
    simp only[Rep]at h3;subst h3
    cases rv with
    |cons r1 r2 =>
     obtain⟨t,rfl⟩:=r1
     exact .cons x t (n9 h4 r2 q)
  |_=>cases e
def vj(sep:Str):D->Option D
 |.lst ds=>match gi ds with|some ys=>if(ys.map (·.length)).sum+ys.length*sep.length<=16777216 then some (.str (Txt.join sep ys))else none|none=>none
 |_=>none
def C9(to te:TEd):TEd:=fun Δ M Q=>to Δ M fun o M1=>∃sep,o=.str sep/\te Δ M1 fun d M2=>∃z,vj sep (rdM M2 d)=some z/\Q z M2
end
/-! ### a block's names,by one look at the text -/
def cH(names:List (Str×N5)) (cells:List (Str×J9)):List (Str×J9):=(names.filterMap fun y=>if y.2==.free then(cells.lookup y.1).map fun c=>(y.1,c)else none).reverse
def fB(env:Env) (y:Str×N5) (cs:List (Str×J9)):Sem (ForInStep (List (Str×J9))):=if(y.2==.free)=true then(do let c <-cellOf env y.1;X5 (O9 ((y.1,c)::cs)))else X5 (O9 cs)
theorem ki{env:Env}:∀(names:List (Str×N5)) (acc:List (Str×J9)),(∀y∈names,y.2=.free->(env.cells.lookup y.1).isSome=true) ->
  (forIn names acc (fB env):Sem (List (Str×J9)))=X5 (cH names env.cells++acc)
 |[],acc,_=>by simp[cH]
 |y::r,acc,h=>by
  rw[List.forIn_cons]
  by_cases hk:(y.2==P7)=true
  ·have hs:=h y O1 (by simpa using hk)
   obtain⟨c,hc⟩:=S1.mp hs
   have e1:fB env y acc=X5 (O9 ((y.1,c)::acc)):=by
    unfold fB cellOf
    rw[if_pos hk,hc]
    simp only[ad2]
   rw[e1]
   simp only[ad2]
   rw[ki r ((y.1,c)::acc) fun y hy=>h y (L4 _ hy)]
   have e2:cH (y::r) env.cells=cH r env.cells++[(y.1,c)]:=by
    unfold cH
    rw[Q9,if_pos hk,hc]
    simp
   rw[e2]
   simp
  ·have e1:fB env y acc=X5 (O9 acc):=by
    unfold fB
    rw[if_neg hk]
   rw[e1]
   simp only[ad2]
   rw[ki r acc fun y hy=>h y (L4 _ hy)]
   have e2:cH (y::r) env.cells=cH r env.cells:=by
    unfold cH
    rw[Q9,if_neg hk]
   rw[e2]
theorem vW{scope:V3}{env:Env}(h:∀y∈scope.names,y.2=.free->(env.cells.lookup y.1).isSome=true):closureFor scope env=X5 (cH scope.names env.cells):=by
 have:=ki (env:=env) scope.names [] h
 simp only[V6]at this
 show(forIn scope.names [] (fB env) >>= fun cs=>X5 cs)=_
 rw[this]
 simp only[ad2]
theorem sC{cells:List (Str×J9)}{names:List (Str×N5)}{x:Str}{c:J9}(h:(cH names cells).lookup x=some c):cells.lookup x=some c:=by
 have hm:=N7 h
 unfold cH at hm
 rw[List.mem_reverse,V5]at hm
 obtain⟨y,_,e⟩:=hm
 split at e
 ·cases q:cells.lookup y.1 with
  |none=>rw[q]at e;cases e
  |some c'=>rw[q]at e;cases e;exact q
 ·cases e
theorem eM:∀{l:List (Str×J9)}{x:Str}{c:J9},(x,c)∈l->∃c',l.lookup x=some c'
 |(y,d)::l,x,c,h=>by
  rw[N9]
  cases q:x==y with
  |true=>exact⟨d,by simp⟩
  |false =>
   rcases O5.mp h with e|h
   ·cases e;simp at q
   ·simpa using eM h
theorem ze{cells:List (Str×J9)}{names:List (Str×N5)}{x:Str}(h:names.lookup x=some .free) (hs:(cells.lookup x).isSome=true):∃c,(cH names cells).lookup x=some c:=by
 obtain⟨c,hc⟩:=S1.mp hs
 refine eM (c:=c) ?_
 unfold cH
 rw[List.mem_reverse,V5]
 exact⟨(x,.free),N7 h,by simp[hc]⟩
def bt(fs:V3) (N:List Str) (scope:V3) (ms:List Bool):Bool :=
 scope.kind==.function&&scope.names.all (fun y=>y.2 != .cell)&&scope.names.all (fun y=>y.2 != .local || scope.names.lookup y.1==some .local) &&
 scope.names.all (fun y=>y.2 != .free || fs.names.lookup y.1==some .cell)&&(ms.zip N).all (fun y=>!y.1 || scope.names.lookup y.2==some .free)&&decide (ms.length<=N.length)
theorem aW{X:Cx}{scope:V3}{ms:List Bool}{ar:List Str}{n0:Nat}(hX:X.env.cells=ad1 n0 X.env.scope.names []) (c:bt X.env.scope X.N scope ms=true):eG X scope (cH scope.names X.env.cells) ms ar:=by
 unfold bt at c
 simp only[L6,X6,decide_eq_true_eq]at c
 obtain⟨⟨⟨⟨⟨c1,c2⟩,c3⟩,c4⟩,c5⟩,c6⟩:=c
 have fr:∀x,(x,P7)∈scope.names->X.env.scope.names.lookup x=some .cell:=fun x hx=>by
  have:=c4 _ hx
  simpa using this
 have cs:∀x,(x,P7)∈scope.names->(X.env.cells.lookup x).isSome=true:=fun x hx=>by
  rw[hX]
  exact PySem.W.cellsFrom_some _ _ _ (.inl (fr x hx))
 refine⟨by simpa using c1,fun y hy e=>?_,fun y hy e=>?_,vW fun y hy e=>?_,fun x c h=>sC h,fun x h=>ze h (cs x (N7 h)),fun x h=>.inl (fr x (N7 h)),fun i x h1 h2=>?_,c6⟩
 ·have:=c2 y hy
  rw[e]at this
  simp at this
 ·have:=c3 y hy
  simpa[e]using this
 ·obtain⟨a,b⟩:=y
  cases e
  exact cs a hy
 ·have:=c5 (true,x) (by
   rw[List.mem_iff_getElem?]
   exact⟨i,by rw[List.getElem?_zip_eq_some];exact⟨h1,h2⟩⟩)
  simpa using this
/-! ### a def of the text,by its name -/
structure FnD(P:L1) (w:O4) (K:o0) (mg:Str->Option s0) (base:L7) (x:Str) (k n:Nat) (S:SpD):Prop where
 ex:∃(f:J9) (fd:R9) (ps:List Str),aX P w K mg base CX0 k f fd ps (spD K n S)/\mg x=some (.ref f)/\T9 K (.ref f)=true/\cY K fd ps []
section
variable{X:Cx}{e:K3}{es:List K3}{t:TAd}{pos p:Pos}{x:Str}{k n:Nat}{S:SpD}
theorem dc(F:FnD X.prog X.w X.K X.mg X.base x k n S) (hr:cm k X.A) (hg:Gl X x) (ha:PAd X (e::es) t) (hdb:(x==("__debug__":Str))=false:=by decide) (he:J5 (e::es) X.env=(false,T4 e X.env)::J5 es X.env:=by rfl) (hpl:(T5 pos (J5 es X.env)).any (·.1)=false:=by rfl) :
  PEd X (.Call (.Name x p) (e::es) [] pos) (gn n S t):=by
 obtain⟨f,fd,ps,h1,h2,h3,h4⟩:=F.ex
 exact E5 h1 hr hg h2 h3 h4 ha hdb he hpl
theorem dcL(F:FnD X.prog X.w X.K X.mg X.base x k n S) (hr:cm k X.A) (hg:Gl X x) (ha:PAd X (e::es) t) (hdb:(x==("__debug__":Str))=false:=by decide) (he:J5 (e::es) X.env=(false,T4 e X.env)::J5 es X.env:=by rfl) (hpl:(T5 pos (J5 es X.env)).any (·.1)=false:=by rfl) :
  PEd X (.Call (.Name x p) (e::es) [] pos) (qC n S t):=by
 obtain⟨f,fd,ps,h1,h2,h3,h4⟩:=F.ex
 exact BM h1 hr hg h2 h3 h4 ha hdb he hpl
end
section
variable{X:Cx}{a b c e:K3}{es:List K3}{te ta tb:TEd}{t:TAd}{pos:Pos}{tg iter:K3}
def CV(te:TEd):TSd:=fun E Δ M=>te Δ M fun d M1=>∃a ds,d=.ref a/\M1 a=some (.lst ds)/\E.rt (.lst ds) (i5 M1 a)
/-! += of ints -/
theorem Fl:bW X (ac8 .Add) (iOp fun i j=>some (.int (i+j))):=by
 intro aa s σ H M x y v u dx dy dz Q I hr rx ry r1 r2 e k
 obtain⟨i,j,rfl,rfl,e'⟩:=nF e
 cases e'
 exact Ea aa s σ H x y v u Q I rx ry ⟨i,j,g6 r1,g6 r2,k _ H (Ext.refl _ _) hr (by simp[Rep])⟩
theorem Hq:Gx X (unaryOp .USub) (fun d=>match d with|.int i=>some (.int (-i))|_=>none):=by
 intro aa s σ H M x v dx dz Q I hr rx r1 e k
 cases dx with
 |int i=>cases e;exact Fn aa s σ H x v Q I rx ⟨i,g6 r1,k _ H (Ext.refl _ _) hr (by simp[Rep])⟩
 |_=>cases e
/-! ### whatever can be walked: a tuple,a list that stays,the script,a text -/
def i7:D->Option (List D)
 |.tup ds=>some ds
 |.lst ds=>some ds
 |.scr ds=>some ds
 |.str x=>if x.length<=J1 then some (bj x)else none
 |_=>none
def j5(te:TEd):TId:=fun Δ M R=>te Δ M fun d M1=>∃ds,i7 d=some ds/\(ds.length<=J1->R ds M1)
theorem rD{aa:List (J9×Obj)}{σ:St}{H:Hp}{s:I0}{o:Obj}(I:Inv X aa σ H s):∀b∈[s.heap.objs.size],eF X aa H b:=fun b hb=>by
 have e:b=s.heap.objs.size:=by simpa using hb
 subst e
 exact I.fpOk (J6 _) (I.hok.fresh (J6 _))
theorem DN{K:o0}{x:Str}{M1:DH}{H1:Hp}:ItD K (ItW x.cps.size fun i v=>∃c,x.cps[i]?=some c/\v=.str ⟨#[c]⟩) (bj x) M1 H1:=fun M2 H2 e2 hr2 i=>⟨fun d hd=>by
  unfold bj at hd
  rw[P4]at hd
  cases q:x.cps.toList[i]? with
  |none=>rw[q]at hd;cases hd
  |some c =>
   rw[q]at hd;cases hd
   have hc:x.cps[i]?=some c:=by simpa using q
   refine⟨?_,fun y H' ⟨eH,c',hc',ey⟩=>?_⟩
   ·exact(Array.getElem?_eq_some_iff.mp hc).1
   ·subst eH;subst ey
    rw[hc]at hc';cases hc'
    exact⟨Ext.refl _ _,hr2,by simp[Rep]⟩,fun hl=>by
  show x.cps.size<=i
  simpa[bj]using hl⟩
theorem Gb(h:PEd X iter te):PId X tg iter (j5 te):=by
 intro aa s σ H R I hh
 obtain⟨Δ,M,R',sr,hr,q,k⟩:=hh
 refine thn (h aa s σ H (fun v H1=>∃d ds M1,i7 d=some ds/\(ds.length<=J1->R' ds M1)/\Ext M H M1 H1/\HR X.K M1 H1/\Rep X.K M1 H1 d v) I ⟨Δ,M,_,sr,hr,q,fun d M1 v H1 ⟨ds,ed,q1⟩ e1 hr1 rv=>⟨d,ds,M1,ed,q1,e1,hr1,rv⟩⟩) fun u s1 ⟨v,H1,I1,r1,d,ds,M1,ed,q1,e1,hr1,rv⟩=>?_
 have lo:=aQ.len (K:=X.K) I1 rv
 cases d with
 |tup es =>
  cases ed
  simp only[Rep]at rv
  obtain⟨a,vs,rfl,ta,rl⟩:=rv
  cases r1
  obtain⟨its,rvv,p,hz⟩:=I1.tuple ta.sq
  refine wpAny_pyIter_tuple (show s1.heap.IsTuple a its.toArray from p) ?_
  refine⟨s1.heap.objs.size,[s1.heap.objs.size],_,_,H1,rfl,I1.kept (t':=s1.toks) fun b o e=>J0 _ e,t8 a _,⟨_,J7 _ rfl,rfl,rfl⟩,rD (o:=default) I1,?_⟩
  refine k _ M1 _ H1 (q1 lo) e1 hr1 fun M2 H2 e2 hr2 i=>⟨fun d hd=>?_,fun hl=>⟨vs,(ta.ext e2).sq,by rw[<-rl.length];exact hl⟩⟩
  obtain⟨v,gv,r⟩:=rl.get hd
  refine⟨⟨vs,v,(ta.ext e2).sq,gv⟩,fun x H' ⟨eH,y⟩=>?_⟩
  subst eH
  have:=y vs (ta.ext e2).sq
  rw[gv]at this;cases this
  exact⟨Ext.refl _ _,hr2,r.ext e2⟩
 |lst es =>
  cases ed
  simp only[Rep]at rv
  obtain⟨a,vs,rfl,ta,rl⟩:=rv
  cases r1
  obtain⟨its,rvv,p,hz⟩:=I1.list (SqL.of ta.1)
  refine W7 p.isList ?_
  refine⟨s1.heap.objs.size,[s1.heap.objs.size],_,_,H1,rfl,I1.kept (t':=s1.toks) fun b o e=>J0 _ e,oK a _,⟨_,J7 _ rfl,rfl,rfl⟩,rD (o:=default) I1,?_⟩
  refine k _ M1 _ H1 (q1 lo) e1 hr1 fun M2 H2 e2 hr2 i=>⟨fun d hd=>?_,fun hl=>⟨vs,SqL.of (ta.ext e2).1,by rw[<-rl.length];exact hl⟩⟩
  obtain⟨v,gv,r⟩:=rl.get hd
  refine⟨⟨vs,v,SqL.of (ta.ext e2).1,gv⟩,fun x H' ⟨eH,y⟩=>?_⟩
  subst eH
  have:=y vs (SqL.of (ta.ext e2).1)
  rw[gv]at this;cases this
  exact⟨Ext.refl _ _,hr2,r.ext e2⟩
 |scr es =>
  cases ed
  simp only[Rep]at rv
  obtain⟨a,vs,rfl,ta,rl⟩:=rv
  cases r1
  obtain⟨its,rvv,p,hz⟩:=I1.list ta.sq
  refine W7 p.isList ?_
  refine⟨s1.heap.objs.size,[s1.heap.objs.size],_,_,H1,rfl,I1.kept (t':=s1.toks) fun b o e=>J0 _ e,oK a _,⟨_,J7 _ rfl,rfl,rfl⟩,rD (o:=default) I1,?_⟩
  refine k _ M1 _ H1 (q1 lo) e1 hr1 fun M2 H2 e2 hr2 i=>⟨fun d hd=>?_,fun hl=>⟨vs,(ta.ext e2).sq,by rw[<-rl.length];exact hl⟩⟩
  obtain⟨v,gv,r⟩:=rl.get hd
  refine⟨⟨vs,v,(ta.ext e2).sq,gv⟩,fun x H' ⟨eH,y⟩=>?_⟩
  subst eH
  have:=y vs (ta.ext e2).sq
  rw[gv]at this;cases this
  exact⟨Ext.refl _ _,hr2,r.ext e2⟩
 |str x =>
  simp only[i7]at ed
  by_cases hz:x.length<=J1
  ·rw[if_pos hz]at ed;cases ed
   simp only[Rep]at rv
   subst rv
   obtain⟨t,rfl⟩:=r1
   have hq:=k _ M1 _ H1 (q1 (by have hz2:x.cps.size<=J1:=hz;simpa[bj]using hz2)) e1 hr1 DN
   cases ha:x.cps.all (·<128)
   ·exact wpAny_pyIter_wide ha (vZ I1 "str_iterator" (by decide) (fun A hA=>Walks.strWide hA _ x t) (fun A i s' Q E st q=>wpAny_pyIter_striter_wide st q) hq)
   ·exact wpAny_pyIter_ascii ha (vZ I1 "str_ascii_iterator" (by decide) (fun A hA=>Walks.strAscii hA _ x t) (fun A i s' Q E st q=>wpAny_pyIter_striter_ascii st q) hq)
  ·rw[if_neg hz]at ed;cases ed
 |_=>cases ed
end
section
variable{M:DH}
theorem qZ{i:Int}:rdM M (.int i)=.int i:=rfl
theorem mj{i:Bool}:rdM M (.bl i)=.bl i:=rfl
theorem A0{i:Str}:rdM M (.str i)=.str i:=rfl
theorem BD:rdM M .non=.non:=rfl
theorem vh{i:List D}:rdM M (.tup i)=.tup i:=rfl
theorem Cj{i:List D}:rdM M (.lst i)=.lst i:=rfl
theorem A6{i:List D}:rdM M (.scr i)=.scr i:=rfl
theorem vL{a:J9}{ds:List D}(h:M a=some (.lst ds)):rdM M (.ref a)=.lst ds:=by simp[rdM,h]
theorem Bg{a:J9}{ds:List D}:rdM (au M a (.lst ds)) (.ref a)=.lst ds:=vL ai
theorem En{f:Int->Int->Option D}{a b:Int}:iOp f (.int a) (.int b)=f a b:=rfl
theorem Bs{a b:Int}:iG (.int a) (.int b)=some (.int (a+b)):=rfl
theorem Cq{a b:Str}:iG (.str a) (.str b)=if a.length+b.length<=J1 then some (.str (a++b))else none:=rfl
theorem Bz{a b:List D}:iG (.lst a) (.lst b)=if a.length+b.length<=J1 then some (.lst (a++b))else none:=rfl
theorem dQ{a b:List D}:iG (.tup a) (.tup b)=if a.length+b.length<=J1 then some (.tup (a++b))else none:=rfl
theorem F3{a:List D}{b:Int}:ixD (.lst a) (.int b)=atI a b:=rfl
theorem GQ{a:List D}{b:Int}:ixD (.scr a) (.int b)=atI a b:=rfl
theorem Gp{a:List D}{b:Int}:ixD (.tup a) (.int b)=atI a b:=rfl
theorem FX{z:Str}{i:Int}:ixD (.str z) (.int i)=if z.length<=J1 then(atI z.cps.toList i).map fun c=>.str ⟨#[c]⟩else none:=rfl
theorem C7{α:Type}{x:α}{xs:List α}:atI (x::xs) 0=some x:=bS (j:=0) rfl
theorem Gs{α:Type}{x y:α}{xs:List α}:atI (x::y::xs) 1=some y:=bS (j:=1) rfl
theorem G4{α:Type}{x y z:α}{xs:List α}:atI (x::y::z::xs) 2=some z:=bS (j:=2) rfl
theorem z9{f:D->Option D}{d:D}:kT f [d]=f d:=rfl
theorem DK{a:List D}:lz (.lst a)=some (.int a.length):=rfl
theorem DY{a:List D}:lz (.tup a)=some (.int a.length):=rfl
theorem Fp{a:List D}:lz (.scr a)=some (.int a.length):=rfl
theorem EE{x:Str}:lz (.str x)=if x.length<=J1 then some (.int x.length)else none:=rfl
theorem El{i:Int}:FO (.int i)=some (.int (if i<0 then -i else i)):=rfl
theorem Dr{a:List D}:CA (.lst a)=some (.tup a):=rfl
theorem EM{a:List D}:CA (.tup a)=some (.tup a):=rfl
theorem FB{b:Bool}{x:D}{ds:List D}:inD b x (.lst ds)=if bo x=true/\ds.all bo=true then some (.bl (xor b (ds.any fun d=>eqD d x)))else none:=rfl
theorem He{b:Bool}{x:D}{ds:List D}:inD b x (.tup ds)=if bo x=true/\ds.all bo=true then some (.bl (xor b (ds.any fun d=>eqD d x)))else none:=rfl
theorem uc{a b:Int}:eqF (.int a) (.int b)=some (.bl (a==b)):=by simp[eqF,dLe,eqD]
theorem D0{a b:Str}:eqF (.str a) (.str b)=some (.bl (a==b)):=by simp[eqF,dLe,eqD]
theorem Dq{a b:Bool}:eqF (.bl a) (.bl b)=some (.bl (a==b)):=by simp[eqF,dLe,eqD]
theorem G5{ds:List D}{lo hi:Option Int}:slD (.scr ds) lo hi=some (.lst (cG ds lo hi)):=rfl
theorem Hd{ds:List D}{lo hi:Option Int}:slD (.lst ds) lo hi=some (.lst (cG ds lo hi)):=rfl
theorem FS{x:Str}{lo hi:Option Int}:slD (.str x) lo hi=if x.length<=J1 then some (.str (Y5 x lo hi))else none:=rfl
theorem Ap{a:List D}:i7 (.lst a)=some a:=rfl
theorem xC{a:List D}:i7 (.tup a)=some a:=rfl
theorem xU{a:List D}:i7 (.scr a)=some a:=rfl
theorem zc{x:Str}:i7 (.str x)=if x.length<=J1 then some (bj x)else none:=rfl
theorem GL{n:Nat}:ixN (n+1) 0=some 0:=by simp[ixN]<;>omega
theorem GF{n:Nat}:ixN (n+2) 1=some 1:=by simp[ixN]<;>omega
theorem Fs{n:Nat}:ixN (n+3) 2=some 2:=by simp[ixN]<;>omega
theorem sz3(n:Nat) (h:n<=1000:=by decide):n<=J1:=M9 h (by decide)
theorem DU{b:Bool}:AK "bool" (.bl b)=some true:=rfl
end
end L2
namespace L2
theorem FF{i j:Int}(h:-18446744073709551616<j/\j<18446744073709551616):kc i j=True:=by unfold kc;simp;right;omega
theorem C5{i j:Int}(h:-18446744073709551616<i/\i<18446744073709551616):kc i j=True:=by unfold kc;simp;left;omega
theorem zB:tD 10 18=True:=by simp[tD]
theorem Gm{i j:Int}(h:0<j/\j<1073741824):p6 i j=True:=by unfold p6;simp[h]
end L2
namespace L2
open PySem PySem.Spec PyProof.Rows
theorem eD{g:GD}{tc:TTd}{te:TEd}{M:DH}{Q:List D->DH->Prop}(b:D->Bool) (y:D->D) (Ok:DE->Prop):∀(ds:List D) (Δ:DE) (acc:List D),
  (∀d∈ds,∀ Δ,Ok Δ->∃ Δ',g d Δ=some Δ'/\Ok Δ'/\(∀Q1:Bool->DH->Prop,Q1 (b d) M->tc Δ' M Q1)/\(b d=true->∀Q2:D->DH->Prop,Q2 (y d) M->te Δ' M Q2))->Ok Δ ->
  Q (acc++(ds.filter b).map y) M->eJ g tc te ds Δ M acc Q
 |[],Δ,acc,_,_,q=>by simpa[eJ]using q
 |d::ds,Δ,acc,h,hΔ,q=>by
  simp only[eJ]
  obtain⟨Δ',eg,ok,h1,h2⟩:=h d O1 Δ hΔ
  refine⟨Δ',eg,h1 _ ?_⟩
  have hr:∀d∈ds,∀ Δ,Ok Δ->∃ Δ',g d Δ=some Δ'/\Ok Δ'/\(∀Q1:Bool->DH->Prop,Q1 (b d) M->tc Δ' M Q1)/\(b d=true->∀Q2:D->DH->Prop,Q2 (y d) M->te Δ' M Q2):=fun x hx=>h x (L4 _ hx)
  cases hb:b d with
  |true =>
   simp only[if_true]
   refine h2 hb _ (eD b y Ok ds Δ' (acc++[y d]) hr ok ?_)
   simpa[List.filter_cons,hb]using q
  |false =>
   simp only[O3,if_false]
   refine eD b y Ok ds Δ' acc hr ok ?_
   simpa[List.filter_cons,hb]using q
theorem Bh{a b:Str}:eqD (.str a) (.str b)=(a==b):=by simp[eqD]
theorem eB{x:Str}:∀{ws:List Str},(ws.map D.str).any (fun d=>eqD d (.str x))=decide (x∈ws)
 |[]=>by simp
 |w::ws=>by
  rw[L3,P6,eB (ws:=ws),Bh]
  by_cases h:w=x
  ·subst h;simp
  ·have h2:(w==x)=false:=by simpa using h
   have h3:¬ x=w:=fun e=>h e.symm
   simp[h2,h3]
theorem fQ{ws:List Str}:(ws.map D.str).all bo=true:=by
 induction ws with
 |nil=>rfl
 |cons w ws ih=>rw[L3,W0,ih];rfl
theorem m8:∀{ws:List Str},gi (ws.map D.str)=some ws
 |[]=>rfl
 |w::ws=>by rw[L3];simp only[gi];rw[m8];rfl
section
variable{X:Cx}{e:K3}{te:TEd}{pos:Pos}
def CC(te:TEd):TSd:=fun E Δ M=>te Δ M fun d M1=>∃M2,LeM M2 M1/\E.rt d M2
theorem pY{M:DH}{q:J9}{o:HD}(h:M q=none):LeM M (au M q o):=fun a u e=>by
 by_cases ha:a=q
 ·subst ha;rw[h]at e;cases e
 ·rw[aw ha];exact e
end
end L2
namespace L2
open PySem PySem.Spec PyProof.Rows PySem.Builtin.Str
/-! ### texts as lists of bj -/
def tx(cs:List Nat):Str:=⟨cs.toArray⟩
theorem Ds{a b:List Nat}:tx a=tx b↔a=b:=by
 unfold tx
 constructor
 ·intro h;injection h with h;simpa using congrArg Array.toList h
 ·intro h;rw[h]
theorem eV(cs:List Nat):(tx cs).cps.toList=cs:=by simp[tx]
theorem fY(cs:List Nat):(tx cs).length=cs.length:=by show(tx cs).cps.size=_;simp[tx]
theorem tZ(a b:List Nat):tx a++tx b=tx (a++b):=by
 show Str.mk (a.toArray++b.toArray)=_
 simp[tx]
theorem GT:(V2 "":Str)=tx []:=by decide +kernel
theorem qw:∀cs:List Nat,Txt.join (tx []) (cs.map fun c=>tx [c])=tx cs:=by
 intro cs
 unfold Txt.join
 rw[StrLaws.glued_eq_join]
 induction cs with
 |nil=>rfl
 |cons c cs ih =>
  cases cs with
  |nil=>rfl
  |cons d cs =>
   rw[L3]at ih ⊢
   rw[L3]
   show tx [c]++tx []++Str.join (tx []) (tx [d]::cs.map fun c=>tx [c])=_
   rw[ih,tZ,tZ]
   rfl
theorem wJ{x:Array Nat}:∀k,k<=x.size->(Q0 k).filterMap (x[·]?)=x.toList.take k:=by
 intro k
 induction k with
 |zero=>intro _;simp
 |succ k ih =>
  intro h
  rw[List.range_succ,List.filterMap_append,ih (by omega)]
  have hk:x[k]?=some x[k]:=by simp[show k<x.size by omega]
  rw[List.take_add_one]
  simp[hk,show k<x.size by omega]
theorem uf(cs:List Nat) (k:Nat):Y5 (tx cs) none (some (k:Int))=tx (cs.take k):=by
 have hi:strSliceIndices none (some (k:Int)) 1 (tx cs).length=Q0 (min k cs.length):=by
  unfold strSliceIndices sliceRange
  rw[fY]
  have h1:(max 0 (min (if(k:Int)<0 then(k:Int)+(cs.length:Int)else(k:Int)) (cs.length:Int)))=((min k cs.length:Nat):Int):=by
   rw[if_neg (by omega)];omega
  simp only[show(1:Int) > 0 by decide,if_true]
  rw[h1]
  have h2:(if(0:Int)<((min k cs.length:Nat):Int)then(((min k cs.length:Nat):Int)-0+1-1) / 1 else 0).toNat=min k cs.length:=by
   split<;>omega
  rw[h2]
  apply List.ext_getElem?
  intro j
  rw[P4]
  by_cases hj:j<min k cs.length
  ·rw[List.getElem?_range hj];simp
  ·rw[U5 (by simp;omega)]
   rfl
 unfold Y5
 rw[hi]
 by_cases hl:(((1:Int)==1&&(Q0 (min k cs.length)).length==(tx cs).length))=true
 ·rw[if_pos hl]
  have:cs.length<=k:=by
   simp[fY]at hl
   omega
  rw[List.take_of_length_le this]
 ·rw[if_neg hl]
  have e:(Q0 (min k cs.length)).filterMap ((tx cs).cps[·]?)=cs.take k:=by
   rw[wJ _ (by simp[tx];omega),eV]
   rw[List.take_eq_take_iff]
   omega
  rw[e]
  rfl
theorem dW{α:Type} [DecidableEq α]:∀(V K:List α),V.Nodup->(∀x∈V,x∈K)->V.length<=K.length
 |[],_,_,_=>U4 _
 |x::V,K,hn,h=>by
  have hx:=h x O1
  obtain⟨h1,h2⟩:=V8.mp hn
  have:=dW V (K.erase x) h2 fun y hy=>(List.mem_erase_of_ne (by rintro rfl;exact h1 hy)).mpr (h y (L4 _ hy))
  rw[List.length_erase_of_mem hx]at this
  have hp:0<K.length:=List.length_pos_of_mem hx
  simp only[N8]
  omega
def nr(c:Nat):Prop:=97<=c/\c<=122
def c9(w:Str):Prop:=1<=w.cps.toList.length/\w.cps.toList.length<=8/\∀c∈w.cps.toList,nr c
abbrev abc:Str:=V2 "abcdefghijklmnopqrstuvwxyz"
def fq:List Nat:=List.range' 97 26
theorem l9:abc=tx fq:=by decide +kernel
theorem Eo{v:Int}(h0:0<=v) (h1:v<26):∃c,nr c/\ixD (.str abc) (.int v)=some (.str (tx [c])):=by
 obtain⟨n,rfl⟩:=Int.eq_ofNat_of_zero_le h0
 have hn:n<26:=by omega
 refine⟨97+n,⟨by omega,by omega⟩,?_⟩
 have hl:abc.length<=J1:=by rw[l9,fY];exact sz3 _
 have ha:atI abc.cps.toList (n:Int)=some (97+n):=by
  rw[l9,eV]
  exact bS (by unfold fq;rw[List.getElem?_range' hn];simp)
 rw[FX,if_pos hl,ha]
 rfl
theorem pE:bj abc=fq.map fun c=>D.str (tx [c]):=by
 unfold bj
 rw[l9,eV]
 rfl
theorem yG{w:Str}{known:List Str}(hk:known.length<=25):∃c∈fq,tx (w.cps.toList.take 7++[c])∉known:=by
 refine Classical.byContradiction fun h=>?_
 have h':∀c∈fq,tx (w.cps.toList.take 7++[c])∈known:=fun c hc=>Classical.byContradiction fun hn=>h ⟨c,hc,hn⟩
 have hn:(fq.map fun c=>tx (w.cps.toList.take 7++[c])).Nodup:=by
  rw[List.nodup_iff_pairwise_ne,List.pairwise_map]
  have:fq.Nodup:=by decide
  exact List.Pairwise.imp (fun {a b} hab e=>hab (by rw[Ds]at e;simpa using e)) this
 have:=dW _ known hn (fun x hx=>by
  obtain⟨c,hc,rfl⟩:=List.mem_map.mp hx
  exact h' c hc)
 simp[fq]at this
 omega
theorem t7{w:Str}{c:Nat}(hw:c9 w) (hc:nr c):c9 (tx (w.cps.toList.take 7++[c])):=by
 obtain⟨h1,h2,h3⟩:=hw
 unfold c9
 rw[eV]
 refine⟨by simp,by simp;omega,fun x hx=>?_⟩
 rcases U2.mp hx with h|h
 ·exact h3 x (List.mem_of_mem_take h)
 ·have:x=c:=by simpa using h
  subst this;exact hc
theorem Ag{c:Nat}(h:c∈fq):nr c:=by
 unfold fq at h
 rw[List.mem_range'_1]at h
 exact⟨by omega,by omega⟩
end L2
namespace L2
open PySem PySem.Spec PyProof.Rows
theorem oY{g:GD}{tb:TSd}{E:fH}{all:List D}(I:Nat->DE->DH->Prop)
  (step:∀(i:Nat) (d:D) (Δ:DE) (M:DH) (X:DE->DH->Prop),all[i]?=some d->I i Δ M->(∀ Δ' M',I (i+1) Δ' M'->X Δ' M')->∃ Δ',g d Δ=some Δ'/\tb { E with nx:=X,ct:=X,bk:=E.nx } Δ' M)
  (fin:∀ Δ M,I all.length Δ M->E.nx Δ M):∀(ds:List D) (i:Nat) (Δ:DE) (M:DH),all.drop i=ds->i<=all.length->I i Δ M->bQ g tb E ds Δ M
 |[],i,Δ,M,e,hi,h=>by
  have:i=all.length:=by
   have:=congrArg List.length e
   simp at this;omega
  subst this
  simpa only[bQ]using fin Δ M h
 |d::ds,i,Δ,M,e,hi,h=>by
  have hlt:i<all.length:=by
   have:=congrArg List.length e
   simp at this;omega
  have hd:all[i]?=some d:=by
   have:=congrArg List.head? e
   simpa using this
  have hn:all.drop (i+1)=ds:=by
   rw[<-List.tail_drop,e];rfl
  simp only[bQ]
  exact step i d Δ M _ hd h fun Δ' M' h'=>oY I step fin ds (i+1) Δ' M' hn hlt h'
theorem aE{g:GD}{tb:TSd}{E:fH}{ds:List D}{Δ:DE}{M:DH}(I:Nat->DE->DH->Prop) (h0:I 0 Δ M)
  (step:∀(i:Nat) (d:D) (Δ:DE) (M:DH) (X:DE->DH->Prop),ds[i]?=some d->I i Δ M->(∀ Δ' M',I (i+1) Δ' M'->X Δ' M')->∃ Δ',g d Δ=some Δ'/\tb { E with nx:=X,ct:=X,bk:=E.nx } Δ' M)
  (fin:∀ Δ M,I ds.length Δ M->E.nx Δ M):bQ g tb E ds Δ M:=oY I step fin ds 0 Δ M rfl (U4 _) h0
theorem szB(n:Nat) (h:n<=16000000:=by decide):n<=J1:=M9 h (by decide)
theorem cO{α:Type}{f:α->D}{xs:List α}{i:Nat}{d:D}(h:(xs.map f)[i]?=some d):∃x,xs[i]?=some x/\d=f x:=by
 rw[P4]at h
 cases e:xs[i]? with
 |none=>rw[e]at h;cases h
 |some x=>rw[e]at h;cases h;exact⟨x,rfl,rfl⟩
theorem sk{K:o0}{M:DH}{H:Hp}:∀ns:List Int,am K M H (ns.map D.int) (ns.map V.int)
 |[]=>am.nil
 |n::ns=>am.cons (by simp[Rep]) (sk ns)
theorem wZ{K:o0}{H:Hp}{a:J9}{ns:List Int}(hO:BC H) (hS:SqL K H a (ns.map V.int)):am K noM H [.scr (ns.map D.int)] [.ref a]:=by
 refine am.cons ?_ am.nil
 simp only[Rep]
 refine⟨a,ns.map V.int,rfl,?_,sk ns⟩
 rcases hS with h|h
 ·left
  rcases h with h|h
  ·rcases hO a with z|⟨o,xs,z⟩<;>(rw[h]at z;cases z)
  ·exact⟨h,rfl⟩
 ·right
  exact .inr h
def FN(S:SpD):Prop:=∀(ns:List Int) (R:D->DH->Prop),ns.length<=63->(∀M',R (.bl true) M')->S [.scr (ns.map .int)] noM R
theorem FE{S:SpD}(hS:FN S) {k:Nat}{x:Str}{l:PySem.W.OpenLaw}{q:L1}{loose:List Str}{XP:(Str->Option s0)->L7->Prop}{YP:O4->L7->Prop}{d:DefRec}{K:Params->o0}(hr:cm k ab6) (hn:l.most=some 63) (hdf:d.params.defaults=[])
  (hY:∀(w:O4) (h:L7),YP w h->(K w.params).In h)
  (F:∀ (w:O4) (mg:Str → Option s0) (fa:J9) (h:L7),(K w.params).In h → h.Ns S6 mg → mg d.name = some (.ref fa) →
   ∃fd:R9,(∀(s:I0) (u:s0),ad0 s fd ⟨[u],[]⟩ [(x,u)])/\∀base:L7,(K w.params).In base->base.Ns S6 mg->aX l.prog w (K w.params) mg base CX0 k fa fd [x] (spD (K w.params) 1 S)) :
  PySem.W.WalkO q loose XP YP l.row.toRowW d [] (fun f vs=>PySem.call f vs) :=
 L2.vO (n:=63) (k:=k) (x:=x) (CX:=fun _=>CX0) (sp:=fun w=>spD (K w.params) 1 S) hn (by decide) hdf hr hY F
  (fun w H a ns hl hO hq=>⟨[.scr (ns.map .int)],noM,fun d _=>d=.bl true,rfl,wZ hO hq,HR.nil,hS ns _ hl (fun _=>rfl),fun d M' v H' e _ _ rv=>by subst e;simpa only[Rep]using rv⟩) fun _ _ _ _ _ z=>z
/-! ### reversed(tuple) -/
section
variable{prog:L1}{w:O4}{A:M7}{E:s0->I0->Prop}{s:I0}
def uI(h:L7) (a l:J9) (i:Int):Prop:=∃o,h.get? a=some o/\o.cls=.type "reversed"/\o.data=.fields #[.ref l,rawInt i]
theorem uI.at{h h':L7}{a l:J9}{i:Int}(x:uI h a l i) (e:∀o,h.get? a=some o->h'.get? a=some o):uI h' a l i:=let⟨o,ho,r⟩:=x;⟨o,e _ ho,r⟩
end
section
variable{X:Cx}{a b c e:K3}{es:List K3}{te ta tb:TEd}{t:TAd}{pos:Pos}{tg iter:K3}
theorem oH:P9 "reversed"=some (.type "reversed"):=by kernel_rfl
end
section
variable{X:Cx}
def neF(x y:D):Option D:=if dLe x 60=true/\dLe y 60=true then some (.bl (!(eqD x y)))else none
theorem Az(hu:X.A.units+64<Z6):bW X (L5 .NotEq) neF:=by
 intro aa s σ H M x y v u dx dy dz Q I hr rx ry r1 r2 e k
 unfold neF at e
 by_cases hc:dLe dx 60=true/\dLe dy 60=true
 ·rw[if_pos hc]at e;cases e
  exact(nM I 60 (A:=X.A) (by omega) hc.1 hc.2 r1 r2 rx ry).2.2 X.prog X.w X.xe _ ⟨.bl (!(eqD dx dy)),H,I,rfl,k _ H (Ext.refl _ _) hr (by simp[Rep])⟩
 ·rw[if_neg hc]at e;cases e
theorem E1{a b:Int}:neF (.int a) (.int b)=some (.bl (!(a==b))):=by simp[neF,dLe,eqD]
theorem Df{a b:Str}:neF (.str a) (.str b)=some (.bl (!(a==b))):=by simp[neF,dLe,eqD]
theorem t9{a b:Bool}:neF (.bl a) (.bl b)=some (.bl (!(a==b))):=by simp[neF,dLe,eqD]
end
end L2
namespace HT
open PySem PyProof.Rows
section
variable{prog:L1}{w:O4}{A:M7}{E:s0->I0->Prop}{s:I0}
theorem oy{t:J9}{items:Array s0}{Q:Bool->I0->Prop}(ht:ac7 s.heap t items) (h:Q true s):K4 (K9 prog w) A (K5.Tuple.tupleIsExact (.ref t)) Q E s:=by
 unfold K5.Tuple.tupleIsExact
 exact u8 (aa5 ht.typeIs (J4 (by simpa using h)))
theorem getItem_tuple_whole{t sl:J9}{items:Array s0}{vl vu:s0}{lo hi:Option Int}{Q:s0->I0->Prop}(ht:ac7 s.heap t items) (hs:s.heap.IsSliceOf sl vl vu .none) (pl:ab7 vl lo) (pu:ab7 vu hi)
  (hw:sIx items.size 0 lo=0/\sIx items.size items.size hi=items.size) (h:Q (.ref t) s):K4 (K9 prog w) A (Y2 (.ref t) (.ref sl)) Q E s:=by
 obtain⟨os,hos,hcs,hds⟩:=id hs
 have hTs:s.TypeIs (.ref sl) "slice":=⟨os,hos,hcs⟩
 unfold Y2
 try with_reducible refine U6 ?_
 first|refine u8 (J4 ?_)|skip
 refine u8 (wpAny_sequenceKey ht.typeIs (by decide) ?_)
 refine u8 (P8 (name:=V2 "__getitem__") ht.typeIs K7
  (U9 K7 ht.typeIs entry_tuple_getitem ?_ (args_tuple_getitem _ _)))
 show K4 _ _ (R5 (.ref t) >>= _) _ _ s
 refine u8 (Z7 ht ?_)
 refine u8 (aa5 hTs ?_)
 rw[if_pos (by decide)]
 refine u8 (fP hs pl pu ?_)
 show K4 _ _ (if(((sIx items.size 0 lo:Nat):Int)==0&&(1:Int)==1&&(sIx items.size items.size hi-sIx items.size 0 lo)==items.size)=true then _ else _) _ _ s
 rw[if_pos (by rw[hw.1,hw.2];simp)]
 refine u8 (oy ht ?_)
 rw[if_pos rfl]
 refine u8 (wpAny_rule ?_)
 first
  |exact J4 ⟨_,rfl,J4 h⟩
  |exact u8 (J4 (J4 ⟨_,rfl,J4 h⟩))
theorem j7{sl:J9}{tk:Tok}{n:Nat}{Q:Int×Int×Nat->I0->Prop}(hs:s.heap.IsSliceOf sl .none .none (.int (-1) tk))
  (h:Q ((n:Int)-1,-1,n) s):K4 (K9 prog w) A (R4 (.ref sl) (X5 (n:Int))) Q E s:=by
 obtain⟨os,hos,hcs,hds⟩:=id hs
 unfold R4 K5.Slice.sliceFields
 refine u8 (u8 (T1 hos hds (x:=.none) rfl (u8 (T1 hos hds (x:=.none) rfl (u8 (T1 hos hds (x:=.int (-1) tk) rfl (J4 ?_)))))))
 refine u8 (slicePart_int ?_)
 show K4 _ _ (if((-1:Int)==0)=true then _ else _) _ _ s
 rw[if_neg (by decide)]
 refine u8 (Z0 (u8 (Z0 (u8 (J4 ?_)))))
 show K4 _ _ (X5 ((n:Int)-1,(-1:Int),N2 ((n:Int)-1) (-1) (-1))) _ _ s
 have e:N2 ((n:Int)-1) (-1) (-1)=n:=by
  unfold N2
  simp only[show ¬ ((-1:Int) > 0)by omega,if_false]
  split<;>simp<;>omega
 rw[e]
 exact J4 h
theorem yw(xs:Array s0):((Q0 xs.size).filterMap fun(m:Nat)=>xs[((xs.size:Int)-1+(m:Int)*-1).toNat]?)=xs.toList.reverse:=by
 have:∀k,k<=xs.size->((Q0 k).filterMap fun(m:Nat)=>xs[((xs.size:Int)-1+(m:Int)*-1).toNat]?)=xs.toList.reverse.take k:=by
  intro k
  induction k with
  |zero=>intro _;simp
  |succ k ih =>
   intro hk
   rw[List.range_succ,List.filterMap_append,ih (by omega)]
   have e1:((xs.size:Int)-1+(k:Int)*-1).toNat=xs.size-1-k:=by omega
   have e2:xs[xs.size-1-k]?=some xs[xs.size-1-k]:=by simp[show xs.size-1-k<xs.size by omega]
   have e3:xs.toList.reverse[k]?=some xs[xs.size-1-k]:=by
    rw[List.getElem?_reverse (by simp;omega)]
    simpa using e2
   rw[List.take_add_one,e3]
   have e4:(List.filterMap (fun(m:Nat)=>xs[((xs.size:Int)-1+(m:Int)*-1).toNat]?) [k])=[xs[xs.size-1-k]]:=by
    rw[Q9,e1,e2];rfl
   rw[e4];rfl
 rw[this xs.size (J6 _)]
 exact List.take_of_length_le (by simp)
theorem getItem_tuple_rev{t sl:J9}{items:Array s0}{tk:Tok}{Q:s0->I0->Prop}(ht:ac7 s.heap t items) (hs:s.heap.IsSliceOf sl .none .none (.int (-1) tk))
  (h:Q (.ref s.heap.objs.size) { s with heap:=s.heap.push { cls:=.type "tuple",data:=.seq items.toList.reverse.toArray } }) (hsz:items.size<=J1):K4 (K9 prog w) A (Y2 (.ref t) (.ref sl)) Q E s:=by
 have htake:sizeOk (.seq items.toList.reverse.toArray):=by
  show items.toList.reverse.toArray.size<=J1
  simpa using hsz
 obtain⟨os,hos,hcs,hds⟩:=id hs
 have hTs:s.TypeIs (.ref sl) "slice":=⟨os,hos,hcs⟩
 unfold Y2
 try with_reducible refine U6 ?_
 first|refine u8 (J4 ?_)|skip
 refine u8 (wpAny_sequenceKey ht.typeIs (by decide) ?_)
 refine u8 (P8 (name:=V2 "__getitem__") ht.typeIs K7
  (U9 K7 ht.typeIs entry_tuple_getitem ?_ (args_tuple_getitem _ _)))
 show K4 _ _ (R5 (.ref t) >>= _) _ _ s
 refine u8 (Z7 ht ?_)
 refine u8 (aa5 hTs ?_)
 rw[if_pos (by decide)]
 refine u8 (j7 hs ?_)
 show K4 _ _ (if((((items.size:Int)-1)==0&&(-1:Int)==1&&items.size==items.size)=true)then _ else _) _ _ s
 rw[if_neg (by simp),yw]
 first
  |exact u8 (m:=K8 _) (M0 (J4 ⟨_,rfl,J4 h⟩) htake)
  |exact u8 (m:=K8 _) (M0 (u8 (J4 (J4 ⟨_,rfl,J4 h⟩))) htake)
  |exact u8 (u8 (m:=K8 _) (M0 (J4 (J4 ⟨_,rfl,J4 h⟩)) htake))
  |exact u8 (u8 (m:=K8 _) (M0 (J4 ⟨_,rfl,J4 h⟩) htake))
end
end HT
namespace L2
open PySem PySem.Spec PyProof.Rows
section
variable{X:Cx}{a b c e:K3}{es:List K3}{te ta tb ts:TEd}{t:TAd}{pos:Pos}
/-! ### slices of tuples,the whole one too -/
def slE:D->Option Int->Option Int->Option D
 |.tup ds,lo,hi=>some (.tup (cG ds lo hi))
 |d,lo,hi=>slD d lo hi
def HU(K:o0):V->Option Int->Option Int->Hp->VK->Prop:=fun x lo hi H Q=>∃a xs,x=.ref a/\SqT K H a xs/\(HT.sIx xs.length 0 lo=0/\HT.sIx xs.length xs.length hi=xs.length)/\Q (.ref a) H
theorem zK:SlR X (HU X.K):=by
 intro aa s σ H x v vl vu lo hi sl Q I rx hs pl pu h
 obtain⟨a,xs,rfl,hx,hw,q⟩:=h
 cases rx
 obtain⟨its,r,ht,hz⟩:=I.tuple hx
 have aU:its.toArray.size=xs.length:=by rw[J3];exact r.length.symm
 exact⟨"tuple",_,K7.lookup,ht.typeIs,HT.getItem_tuple_whole ht hs pl pu (by rw[aU];exact hw) ⟨.ref a,H,I,rfl,q⟩⟩
theorem um{ds:List D}{lo hi:Option Int}(h:HT.sIx ds.length 0 lo=0/\HT.sIx ds.length ds.length hi=ds.length):cG ds lo hi=ds:=by
 unfold cG
 rw[h.1,h.2];simp
def FM(te:TEd) (tl th:TOd):TEd:=fun Δ M Q=>te Δ M fun x M1=>tl Δ M1 fun l M2=>th Δ M2 fun u M3=>∃z,slE (rdM M3 x) l u=some z/\Q z M3
theorem Fu{ds:List D}{lo hi:Option Int}:slE (.tup ds) lo hi=some (.tup (cG ds lo hi)):=rfl
theorem Gf{ds:List D}{lo hi:Option Int}:slE (.lst ds) lo hi=some (.lst (cG ds lo hi)):=rfl
theorem Gu{ds:List D}{lo hi:Option Int}:slE (.scr ds) lo hi=some (.lst (cG ds lo hi)):=rfl
theorem FC{x:Str}{lo hi:Option Int}:slE (.str x) lo hi=if x.length<=J1 then some (.str (Y5 x lo hi))else none:=rfl
/-! ### t[::-1] -/
theorem am.reverse{K:o0}{M:DH}{H:Hp}:∀{ds:List D}{vs:List V},am K M H ds vs->am K M H ds.reverse vs.reverse
 |[],_,h=>by simp only[am]at h;subst h;exact am.nil
 |d::ds,_,h=>by
  simp only[am]at h
  obtain⟨v,ws,rfl,h1,h2⟩:=h
  rw[W6,W6]
  exact(am.reverse h2).append (am.cons h1 am.nil)
def zp(te ts:TEd):TEd:=fun Δ M Q=>te Δ M fun x M1=>ts Δ M1 fun st M2=>st=.int (-1)/\∃ds,x=.tup ds/\Q (.tup ds.reverse) M2
def Aj:TSd:=fun _ _ _=>False
variable{scope:V3}{cl:List (Str×J9)}{ar:List Str}{tg:K3}
def Bj(X:Cx) (scope:V3) (cl:List (Str×J9)) (ar:List Str) (tgs:List K3) (g:GDs):Prop:=∃gv:TGs,(∀C s H ex,PGs (aH X scope cl (X.N++ar) C s H ex) tgs gv)/\∀(ds:List D) (vs:List V) (σ:St) (Δ Δ':DE) (M:DH) (H:Hp) (Q:St->Hp->Prop),SR X.K M H σ Δ->HR X.K M H->am X.K M H ds vs->g ds Δ=some Δ'->(∀ σ',SR X.K M H σ' Δ'->Q σ' H)->gv vs σ H Q
theorem jb:Bj X scope cl ar [] oO:=⟨DL,fun _ _ _ _=>vz,fun ds vs σ Δ Δ' M H Q sr hr rv e k=>by
 cases ds with
 |nil=>simp only[am]at rv;subst rv;cases e;exact⟨rfl,k _ sr⟩
 |cons _ _=>cases e⟩
theorem cf{tgs:List K3}{g:GD}{gs:GDs}(h1:PGa X scope cl ar tg g) (h2:Bj X scope cl ar tgs gs)
  (hs:∀env,(P3 (tg::tgs) env).map (·.2)=Y8 tg env::(P3 tgs env).map (·.2):=by intro _;rfl):Bj X scope cl ar (tg::tgs) (gh g gs):=by
 obtain⟨g1,p1,k1⟩:=h1
 obtain⟨g2,p2,k2⟩:=h2
 refine⟨yp g1 g2,fun C s H ex=>rW (p1 C s H ex) (p2 C s H ex) (hs _),fun ds vs σ Δ Δ' M H Q sr hr rv e k=>?_⟩
 cases ds with
 |nil=>cases e
 |cons d r =>
  simp only[am]at rv
  obtain⟨v,ws,rfl,h3,h4⟩:=rv
  simp only[gh]at e
  cases q:g d Δ with
  |none=>rw[q]at e;cases e
  |some Δ1 =>
   rw[q]at e
   exact⟨v,ws,rfl,k1 d v σ Δ Δ1 M H _ sr hr h3 q fun σ1 sr1=>k2 r ws σ1 Δ1 Δ' M H Q sr1 hr h4 e k⟩
theorem jj{tgs:List K3}{kx:Nat}{g:GDs}{n:Nat}(hc:X.calm=true) (h:Bj X scope cl ar tgs g) (hn:∀env,(P3 tgs env).length=n:=by intro _;rfl) (hst:∀env,(P3 tgs env).findIdx? (·.1)=none:=by intro _;rfl):PGa X scope cl ar (.Tuple tgs kx pos) (k8 g n):=by
 obtain⟨g1,p1,k1⟩:=h
 refine⟨Dp X.K n g1,fun C s H ex=>xJ (X:=aH X scope cl (X.N++ar) C s H ex) hc (p1 C s H ex) (hn _) (hst _),fun d v σ Δ Δ' M H Q sr hr rv e k=>?_⟩
 cases d with
 |tup ds =>
  simp only[k8]at e
  by_cases hl:ds.length=n
  ·rw[if_pos hl]at e
   simp only[Rep]at rv
   obtain⟨a,vs,rfl,ta,rl⟩:=rv
   exact⟨a,vs,rfl,ta.sq,by rw[<-rl.length];exact hl,k1 ds vs σ Δ Δ' M H Q sr hr rl e k⟩
  ·rw[if_neg hl]at e;cases e
 |_=>cases e
end
section
variable{X:Cx}{a b c e:K3}{es:List K3}{te ta tb ts:TEd}{t:TAd}{pos:Pos}
/-! ### in,not in: a text within a text,too -/
def inE(neg:Bool) (x y:D):Option D:=match y with
 |.str j=>match x with
  |.str i=>some (.bl (xor neg (!(S8 j i 0 j.length 1).isEmpty)))
  |_=>none
 |y=>inD neg x y
theorem pA:bW X (L5 .In) (inE false):=by
 intro aa s σ H M x y v u dx dy dz Q I hr rx ry r1 r2 e k
 cases dy with
 |str j =>
  cases dx with
  |str i =>
   cases e
   exact w9 aa s σ H x y v u Q I rx ry ⟨i,j,oJ r1,oJ r2,k _ H (Ext.refl _ _) hr (by simp[Rep])⟩
  |_=>cases e
 |_=>exact HA aa s σ H M x y v u dx _ dz Q I hr rx ry r1 r2 e k
theorem nA:bW X (L5 .NotIn) (inE true):=by
 intro aa s σ H M x y v u dx dy dz Q I hr rx ry r1 r2 e k
 cases dy with
 |str j =>
  cases dx with
  |str i =>
   cases e
   exact qt aa s σ H x y v u Q I rx ry ⟨i,j,oJ r1,oJ r2,k _ H (Ext.refl _ _) hr (by simp[Rep])⟩
  |_=>cases e
 |_=>exact B9 aa s σ H M x y v u dx _ dz Q I hr rx ry r1 r2 e k
theorem FD{b:Bool}{x:D}{ds:List D}:inE b x (.lst ds)=if bo x=true/\ds.all bo=true then some (.bl (xor b (ds.any fun d=>eqD d x)))else none:=rfl
theorem GV{b:Bool}{x:D}{ds:List D}:inE b x (.tup ds)=if bo x=true/\ds.all bo=true then some (.bl (xor b (ds.any fun d=>eqD d x)))else none:=rfl
theorem CP{b:Bool}{c:Nat}{y:Str}:inE b (.str (tx [c])) (.str y)=some (.bl (xor b (decide (c∈y.cps.toList)))):=by
 show some (D.bl (xor b (!(S8 y ⟨#[c]⟩ 0 y.length 1).isEmpty)))=_
 rw[StrLaws.found_one]
/-! ### {} -/
/-! ### pop -/
/-! ###*-/
theorem kQ:fillsNumberSlot (.type "tuple") "mul"=X5 false :=
 PySem.fillsNumberSlot_seq (id:="tuple.__mul__") (r:=some (.builtin "tuple.__rmul__")) F.slot_tuple_mul.lookup (by decide +kernel) F.slot_tuple_rmul.lookup (by decide +kernel)
theorem qg:seqRepeat? (.type "tuple")=X5 (some (.builtin "tuple.__mul__")):=by
 unfold seqRepeat?
 rw[PySem.seqSlot_of (T:="tuple") (name:="__mul__") (id:="tuple.__mul__") F.slot_tuple_mul.lookup (by decide +kernel),PySem.seqSlot_of (T:="tuple") (name:="__rmul__") (id:="tuple.__rmul__") F.slot_tuple_rmul.lookup (by decide +kernel)]
 rfl
theorem nB(a:Int) (t:Tok) (l:J9) (items:Array s0) :
  Meets (K5.«int.__rmul__» ⟨[.int a t,.ref l],[]⟩) (fun _ R s=>ac7 s.heap l items/\R (.ok (.ret s0.notImplemented)) s) :=
 .of_wp fun prog w A R s h=>by
  obtain⟨hp,g,d,tk,os⟩:=s;obtain⟨⟨⟨cls,dd,data,sl⟩,ho,hc,n,hd⟩,h⟩:=h
  simp only at hc hd
  subst hc hd
  wp_walk;exact⟨_,rfl,h⟩
theorem oA(l:J9) (items:Array s0) (x:Int) (u:Tok) (hne:items.isEmpty=false) (hx:2<=x) (hx2:x<2 ^ 62) (hz:items.size*x.toNat<=J1) :
  Meets (K5.«tuple.__mul__» ⟨[.ref l,.int x u],[]⟩) (fun _ R s=>ac7 s.heap l items/\R (.ok (.ret (.ref s.heap.objs.size))) { s with heap:=s.heap.push { cls:=.type "tuple",data:=.seq (K0 x.toNat items.toList).flatten.toArray } }) :=
 .of_wp fun prog w A R s h=>by
  obtain⟨ht,h⟩:=h
  show K4 _ _ (do
   let n <-asIndex (.int x u)
   if n < -(2 ^ 63) || n>=2 ^ 63 then
    rule "tuple.repeat.overflow";raiseError "OverflowError" s!"cannot fit '{← typeNameOf (.int x u)}' into an index-sized integer"
   let xs <-R5 (.ref l)
   if xs.isEmpty || n==1 then
    if <-K5.Tuple.tupleIsExact (.ref l)then rule "tuple.repeat.same-object";return <-ret (.ref l)
   if n<=0 || xs.isEmpty then return <-ret (<-K8 #[])
   if xs.size*n > (2 ^ 63-1) / 8 then rule "tuple.repeat.no-memory";raiseNew (<-newExc (.type "MemoryError") [])
   if K5.Tuple.tupleTooMany (xs.size*n)then unsupported "tuple.__mul__:memory"
   ret (<-K8 ((K0 n.toNat xs).foldl (·++·) #[]))) _ _ s
  refine u8 (wpAny_of_eq (a:=x) rfl ?_)
  dsimp only
  rw[if_neg (by simp only[Bool.or_eq_true,decide_eq_true_eq];omega)]
  refine u8 (Z7 ht ?_)
  rw[if_neg (by simp[hne];omega)]
  rw[if_neg (by simp[hne];omega)]
  have hxn:((x.toNat:Nat):Int)=x:=by omega
  have hm:(items.size:Int)*x=((items.size*x.toNat:Nat):Int):=by rw[Int.natCast_mul,hxn]
  have h16:J1=16777216:=rfl
  rw[if_neg (by rw[hm];omega)]
  rw[if_neg (by unfold K5.Tuple.tupleTooMany;rw[hm];simp only[decide_eq_true_eq];omega)]
  have hf:ab9 (fun x1 x2=>x1++x2) #[] (K0 x.toNat items)=(K0 x.toNat items.toList).flatten.toArray:=by
   have:=kB items.toList x.toNat []
   rw[List.nil_append]at this
   simpa using this
  rw[hf]
  have hs:sizeOk (.seq (K0 x.toNat items.toList).flatten.toArray):=by
   show(K0 x.toNat items.toList).flatten.toArray.size<=J1
   rw[J3,qu,V0,Nat.mul_comm]
   exact hz
  exact u8 (m:=K8 _) (M0 (J4 ⟨_,rfl,h⟩) hs)
theorem am.rep{K:o0}{M:DH}{H:Hp}{ds:List D}{vs:List V}(h:am K M H ds vs):∀k:Nat,am K M H (K0 k ds).flatten (K0 k vs).flatten
 |0=>am.nil
 |k+1=>by
  rw[P5,P5,S2,S2]
  exact h.append (am.rep h k)
def Ad:D->D->Option D
 |.int a,.int b=>if kc a b then some (.int (a*b))else none
 |.str x,.int n=>if x.length<=16777216/\-(2 ^ 63)<=n/\n<=16777216/\x.length*n.toNat<=16777216 then some (.str (Txt.mul x n))else none
 |.tup ds,.int n=>if 2<=n/\n<2 ^ 62/\ds≠[]/\ds.length*n.toNat<=J1 then some (.tup (K0 n.toNat ds).flatten)else none
 |.lst ds,.int n=>if -(2 ^ 63)<=n/\n<2 ^ 63/\ds.length*n.toNat<=J1 then some (.lst (K0 n.toNat ds).flatten)else none
 |_,_=>none
theorem kR:bW X (P1 .Mult) Ad:=by
 intro aa s σ H M x y v u dx dy dz Q I hr rx ry r1 r2 e k
 cases dx with
 |int a =>
  cases dy with
  |int b=>exact Ez aa s σ H M x y v u _ _ dz Q I hr rx ry r1 r2 e k
  |_=>cases e
 |str z =>
  cases dy with
  |int n =>
   simp only[Ad]at e
   by_cases hc:z.length<=16777216/\-(2 ^ 63)<=n/\n<=16777216/\z.length*n.toNat<=16777216
   ·rw[if_pos hc]at e;cases e
    have e1:=oJ r1
    have e2:=g6 r2
    subst e1;subst e2
    obtain⟨t1,rfl⟩:=rx
    obtain⟨t2,rfl⟩:=ry
    have hok:MulOk z n:=by
     by_cases hn:0<=n
     ·exact mulOk_of z.length n.toNat (J6 _) (by omega) hc.2.1 (by omega) hc.2.2.2
     ·exact mulOk_of z.length 0 (J6 _) (by omega) hc.2.1 (by omega) (by omega)
    exact SB.mul hok fun t' kk=>⟨.str _,H,I.tok _,⟨t',rfl⟩,k _ H (Ext.refl _ _) hr (by simp[Rep])⟩
   ·rw[if_neg hc]at e;cases e
  |_=>cases e
 |tup ds =>
  cases dy with
  |int n =>
   simp only[Ad]at e
   by_cases hc:2<=n/\n<2 ^ 62/\ds≠[]/\ds.length*n.toNat<=J1
   ·rw[if_pos hc]at e;cases e
    have e2:=g6 r2
    subst e2
    obtain⟨t2,rfl⟩:=ry
    obtain⟨a,vs,rfl,sq,rl⟩:=r1
    cases rx
    obtain⟨its,rv,pt,hz⟩:=I.tuple sq
    have hl1:=rv.length
    have hl2:=rl.length
    have hne:its.toArray.isEmpty=false:=by
     cases its with
     |nil =>
      have h0:ds.length=0:=by rw[hl2,hl1];rfl
      exact absurd (List.length_eq_zero_iff.mp h0) hc.2.2.1
     |cons _ _=>rfl
    have hzz:its.toArray.size*n.toNat<=J1:=by rw[J3,<-hl1,<-hl2];exact hc.2.2.2
    refine wpAny_binaryOp_repeat_ref (T:="tuple") (U:="int") (by decide) pt.typeIs (fun s'=>aa8 s' n t2) kQ F.fills_int_mul Y3 qg F.slot_int_index.lookup
     (aa9 Y3 (aa8 s n t2) F.entry_int_rmul (F.args_int_rmul_2 _ _) (nB n t2 a its.toArray)
      ⟨pt,rfl,pt.typeIs,aa9 F.slot_tuple_mul pt.typeIs F.entry_tuple_mul (F.args_tuple_mul_2 _ _) (oA a its.toArray n t2 hne hc.1 hc.2.1 hzz) ⟨pt,?_⟩⟩)
    have rr:az (K0 n.toNat vs).flatten (K0 n.toNat its).flatten:=rv.rep n.toNat
    refine⟨.ref s.heap.objs.size,_,I.laid (t':=s.toks) (o:=.tup (K0 n.toNat vs).flatten) (fun b ob q=>J0 _ q) (J6 _) ?_,rfl,?_⟩
    ·refine⟨?_,_,rr,by simpa using lD.new _ _⟩
     rw[qu,Nat.mul_comm,<-hl2];exact hc.2.2.2
    ·exact mX hr (I.hok.fresh (J6 _)) (rl.rep n.toNat) k
   ·rw[if_neg hc]at e;cases e
  |_=>cases e
 |lst ds =>
  cases dy with
  |int n =>
   simp only[Ad]at e
   by_cases hc:-(2 ^ 63)<=n/\n<2 ^ 63/\ds.length*n.toNat<=J1
   ·rw[if_pos hc]at e;cases e
    obtain⟨a,vs,rfl,sq,rl⟩:=r1
    exact Fo aa s σ H _ _ v u Q I rx ry ⟨a,n,vs,rfl,g6 r2,sq,hc.1,hc.2.1,by rw[<-rl.length];exact hc.2.2,fun p hp=>iZ hr hp (rl.rep n.toNat) k⟩
   ·rw[if_neg hc]at e;cases e
  |_=>cases e
 |_=>cases e
theorem BZ{a b:Int}:Ad (.int a) (.int b)=if kc a b then some (.int (a*b))else none:=rfl
/-! ### is None -/
def m9:D->Bool
 |.non=>true
 |_=>false
def qN(neg:Bool) (x y:D):Option D:=match y with|.non=>some (.bl (xor neg (m9 x)))|_=>none
theorem vI{K:o0}{M:DH}{H:Hp}{d:D}{x:V}(r:aQ K M H d x):decide (x=V.non)=m9 d:=by
 cases d with
 |tup ds=>obtain⟨a,vs,rfl,_⟩:=r;rfl
 |lst ds=>obtain⟨a,vs,rfl,_⟩:=r;rfl
 |scr ds=>obtain⟨a,vs,rfl,_⟩:=r;rfl
 |emp=>simp only[aQ,Rep]at r;obtain⟨a,rfl,_⟩:=r;rfl
 |box _ _=>simp only[aQ,Rep]at r;obtain⟨a,_,rfl,_⟩:=r;rfl
 |_=>simp only[aQ,Rep]at r;subst r;rfl
theorem HM:bW X (L5 .Is) (qN false):=by
 intro aa s σ H M x y v u dx dy dz Q I hr rx ry r1 r2 e k
 cases dy with
 |non =>
  cases e
  refine Fc aa s σ H x y v u Q I rx ry ⟨Gw r2,?_⟩
  rw[vI r1]
  exact k _ H (Ext.refl _ _) hr (by simp[Rep])
 |_=>cases e
theorem vi:bW X (L5 .IsNot) (qN true):=by
 intro aa s σ H M x y v u dx dy dz Q I hr rx ry r1 r2 e k
 cases dy with
 |non =>
  cases e
  refine BY aa s σ H x y v u Q I rx ry ⟨Gw r2,?_⟩
  rw[vI r1]
  exact k _ H (Ext.refl _ _) hr (by simp[Rep])
 |_=>cases e
theorem xt{b:Bool}{x:D}:qN b x .non=some (.bl (xor b (m9 x))):=rfl
/-! ### a comprehension's list,ours -/
variable{scope:V3}{cl:List (Str×J9)}{ms:List Bool}{ar:List Str}{ifs:List K3}{tg iter elt:K3}
end
/-! ### the same rules,as judgements that are not looked into -/
@[irreducible] def QEd(X:Cx) (e:K3) (t:TEd):Prop:=PEd X e t
theorem QEd.eq{X:Cx}{e:K3}{t:TEd}:QEd X e t=(PEd X e t):=by unfold QEd;rfl
@[irreducible] def QAd(X:Cx) (e:List K3) (t:TAd):Prop:=PAd X e t
theorem QAd.eq{X:Cx}{e:List K3}{t:TAd}:QAd X e t=(PAd X e t):=by unfold QAd;rfl
@[irreducible] def QTd(X:Cx) (e:K3) (t:TTd):Prop:=PTd X e t
theorem QTd.eq{X:Cx}{e:K3}{t:TTd}:QTd X e t=(PTd X e t):=by unfold QTd;rfl
@[irreducible] def QWd(X:Cx) (e:K3) (t:TTd):Prop:=PWd X e t
theorem QWd.eq{X:Cx}{e:K3}{t:TTd}:QWd X e t=(PWd X e t):=by unfold QWd;rfl
@[irreducible] def QSd(X:Cx) (e:aa0) (t:TSd):Prop:=PSd X e t
theorem QSd.eq{X:Cx}{e:aa0}{t:TSd}:QSd X e t=(PSd X e t):=by unfold QSd;rfl
@[irreducible] def QSs(X:Cx) (e:List aa0) (t:TSd):Prop:=By X e t
theorem QSs.eq{X:Cx}{e:List aa0}{t:TSd}:QSs X e t=(By X e t):=by unfold QSs;rfl
@[irreducible] def QId(X:Cx) (tg e:K3) (t:TId):Prop:=PId X tg e t
theorem QId.eq{X:Cx}{tg e:K3}{t:TId}:QId X tg e t=(PId X tg e t):=by unfold QId;rfl
@[irreducible] def QIf(X:Cx) (e:List K3) (t:TTd):Prop:=BS X e t
theorem QIf.eq{X:Cx}{e:List K3}{t:TTd}:QIf X e t=(BS X e t):=by unfold QIf;rfl
@[irreducible] def QOd(X:Cx) (e:Option K3) (t:TOd):Prop:=POd X e t
theorem QOd.eq{X:Cx}{e:Option K3}{t:TOd}:QOd X e t=(POd X e t):=by unfold QOd;rfl
theorem ab{X:Cx}(i:Nat) {x:Str}{pos:Pos}(hN:X.N[i]?=some x:=by rfl) (hv:Vis X.env.scope x:=by first|exact Or.inl rfl|exact Or.inr (Or.inl rfl)|exact Or.inr (Or.inr rfl)) (hd:(x==("__debug__":Str))=false:=by decide)
  (hcd:(x==("__classdict__":Str))=false:=by decide):QEd X (.Name x pos) (bK i):=by
 simp only[QEd.eq]at *
 exact(E2 hN hv hd hcd).conv fun σ H Q ⟨Δ,M,R,sr,hr,⟨d,e,q⟩,k⟩=>let⟨v,ev,rv⟩:=sr.2 i d e;⟨v,ev,k d M v H q (Ext.refl _ _) hr rv⟩
theorem ak{X:Cx}{i j pos}:QEd X (.Constant (.int i) j pos) (dC (.int i)):=by
 simp only[QEd.eq]at *
 exact Dw.conv fun σ H Q hup=>hup.el fun Δ M R sr hr q k=>k _ M _ H q (Ext.refl _ _) hr (by simp[Rep])
theorem wD{X:Cx}{i j pos}:QEd X (.Constant (.bool i) j pos) (dC (.bl i)):=by
 simp only[QEd.eq]at *
 exact F5.conv fun σ H Q hup=>hup.el fun Δ M R sr hr q k=>k _ M _ H q (Ext.refl _ _) hr (by simp[Rep])
theorem CG{X:Cx}{i j pos}:QEd X (.Constant (.str i) j pos) (dC (.str i)):=by
 simp only[QEd.eq]at *
 exact Dk.conv fun σ H Q hup=>hup.el fun Δ M R sr hr q k=>k _ M _ H q (Ext.refl _ _) hr (by simp[Rep])
theorem ni{X:Cx}{j pos}:QEd X (.Constant .none j pos) (dC .non):=by
 simp only[QEd.eq]at *
 exact EO.conv fun σ H Q hup=>hup.el fun Δ M R sr hr q k=>k _ M _ H q (Ext.refl _ _) hr (by simp[Rep])
theorem zu{X:Cx}{x:Str}{i:Int}{pos:Pos}(hg:Gl X x) (hm:∃tk,X.mg x=some (.int i tk)) (hd:(x==("__debug__":Str))=false:=by decide):QEd X (.Name x pos) (dC (.int i)):=by
 simp only[QEd.eq]at *
 obtain⟨t,ht⟩:=hm
 exact Bb hg ht hd
theorem Ak{X:Cx}{x y:Str}{pos:Pos}(hg:Gl X x) (hm:∃tk,X.mg x=some (.str y tk)) (hd:(x==("__debug__":Str))=false:=by decide):QEd X (.Name x pos) (dC (.str y)):=by
 simp only[QEd.eq]at *
 obtain⟨t,ht⟩:=hm
 exact A3 hg ht hd
theorem ag{X:Cx}:QAd X [] fu:=by
 simp only[QAd.eq]at *
 exact nN.conv fun σ H Q hup=>hup.el fun Δ M R sr hr q k=>k _ M _ H q (Ext.refl _ _) hr am.nil
theorem ae{X:Cx}{a:K3}{es:List K3}{ta:TEd}{tr:TAd}(ha:QEd X a ta) (hr:QAd X es tr) (hs:J5 (a::es) X.env=(false,T4 a X.env)::J5 es X.env:=by rfl):QAd X (a::es) (cx ta tr):=by
 simp only[QEd.eq,QAd.eq]at *
 exact(ir ha hr hs).conv fun σ H Q hup=>hup.el fun Δ M R sr hr q k=>⟨Δ,M,_,sr,hr,q,fun d M1 v H1 q1 e1 hr1 rv=>⟨Δ,M1,_,sr.ext e1,hr1,q1,fun ds M2 vs H2 q2 e2 hr2 rvs =>
   k _ M2 _ H2 q2 (e1.trans e2) hr2 (am.cons (rv.ext e2) rvs)⟩⟩
theorem bH{X:Cx}{es:List K3}{pos:Pos}{x1}{t:TAd}(h:QAd X es t):QEd X (.Tuple es x1 pos) (uv t):=by
 simp only[QEd.eq,QAd.eq]at *
 exact(nL h).conv fun σ H Q hup=>hup.el fun Δ M R sr hr q k=>⟨Δ,M,_,sr,hr,q,fun ds M1 vs H1 ⟨z,q1⟩ e1 hr1 rv=>⟨by rw[<-rv.length];exact z,fun p hp=>k _ M1 _ _ q1 (e1.trans (Ext.new hr1 hp)) (hr1.new hp) (by
   simp only[Rep];exact⟨p,vs,rfl,.inl ⟨.inl aC,hr1.fresh hp⟩,rv.ext (Ext.new hr1 hp)⟩)⟩⟩
theorem iV{X:Cx}{es:List K3}{pos:Pos}{t:TAd}(h:QAd X es t):QEd X (.List es pos) (BP t):=by
 simp only[QEd.eq,QAd.eq]at *
 exact(yD h).conv fun σ H Q hup=>hup.el fun Δ M R sr hr q k=>⟨Δ,M,_,sr,hr,q,fun ds M1 vs H1 ⟨z,q1⟩ e1 hr1 rv=>⟨by rw[<-rv.length];exact z,fun p hp=>k _ M1 _ _ q1 (e1.trans (Ext.new hr1 hp)) (hr1.new hp) (by
   simp only[Rep];exact⟨p,vs,rfl,⟨aC,hr1.fresh hp⟩,rv.ext (Ext.new hr1 hp)⟩)⟩⟩
theorem jm{X:Cx}{es:List K3}{pos:Pos}{t:TAd}(h:QAd X es t):QEd X (.List es pos) (Dc t):=by
 simp only[QEd.eq,QAd.eq]at *
 exact(yD h).conv fun σ H Q hup=>hup.el fun Δ M R sr hr q k=>⟨Δ,M,_,sr,hr,q,fun ds M1 vs H1 ⟨z,q1⟩ e1 hr1 rv=>⟨by rw[<-rv.length];exact z,fun p hp=>k _ _ _ _ (q1 p (hr1.fresh hp)) (e1.trans (Ext.own hp)) (hr1.own hp rv) (by
   simp only[Rep])⟩⟩
theorem aP{X:Cx}{a:K3}{b:K3}{ta:TEd}{tb:TEd}{pos:Pos}{op:ac3}{r:D->D->Option D}(ho:bW X (P1 op) r) (ha:QEd X a ta) (hb:QEd X b tb):QEd X (.BinOp a op b pos) (dOp r ta tb):=by
 simp only[QEd.eq]at *
 exact(F2 ho.v ha hb).conv xy
theorem mI{X:Cx}{a:K3}{b:K3}{ta:TEd}{tb:TEd}{pos:Pos}{op:ac2}{r:D->D->Option D}(ho:bW X (L5 op) r) (ha:QEd X a ta) (hb:QEd X b tb) (hm:S7 op b=false):QEd X (.Compare a [op] [b] pos) (dOp r ta tb):=by
 simp only[QEd.eq]at *
 exact(BE ho.v ha hb hm).conv xy
theorem bc{X:Cx}{a:K3}{b:K3}{ta:TEd}{tb:TEd}{pos:Pos}{r:D->D->Option D}(ho:IxR X (opV X.K r)) (ha:QEd X a ta) (hb:QEd X b tb) (hs:v9 b):QEd X (.Subscript a b pos) (dOp r ta tb):=by
 simp only[QEd.eq]at *
 exact(Hf ho ha hb hs).conv xy
theorem HB{X:Cx}{a:K3}{ta:TEd}{pos:Pos}{op:UnaryOp}{r:D->Option D}(ho:Gx X (unaryOp op) r) (ha:QEd X a ta):QEd X (.UnaryOp op a pos) (dUn r ta):=by
 simp only[QEd.eq]at *
 have h:UnR X (unaryOp op) (fun x H Q=>∃dx dz M,HR X.K M H/\aQ X.K M H dx x/\r dx=some dz/\∀w H',Ext M H M H'->HR X.K M H'->Rep X.K M H' dz w->Q w H'):=fun aa s σ H x v Q I rx ⟨dx,dz,M,hr,r1,e,k⟩=>ho aa s σ H M x v dx dz Q I hr rx r1 e k
 exact(FW h ha).conv fun σ H Q hup=>hup.el fun Δ M R sr hr q k=>⟨Δ,M,_,sr,hr,q,fun x M1 v H1 ⟨z,ez,q1⟩ e1 hr1 rv=>⟨_,z,M1,hr1,rv.rd hr1,ez,fun w H' e2 hr2 rw_=>k z M1 w H' q1 (e1.trans e2) hr2 rw_⟩⟩
theorem aR{X:Cx}{a:K3}{b:K3}{ta:TEd}{tb:TEd}{pos:Pos}{op:ac2}{r:D->D->Option D}(ho:bW X (L5 op) r) (ha:QEd X a ta) (hb:QEd X b tb) (hm:S7 op b=false):QTd X (.Compare a [op] [b] pos) (ow (dOp r ta tb)):=by
 simp only[QEd.eq,QTd.eq]at *
 refine(AJ ho.v ha hb hm).conv fun σ H Q h=>?_
 obtain⟨Δ,M,R,sr,hr,q,k⟩:=h
 exact⟨Δ,M,_,sr,hr,q,fun x M1 v H1 q1 e1 hr1 rv=>⟨Δ,M1,_,sr.ext e1,hr1,q1,fun y M2 u H2 ⟨z,ez,b,eb,q2⟩ e2 hr2 ru=>⟨_,_,z,M2,hr2,(rv.ext e2).rd hr2,ru.rd hr2,ez,fun w H' e3 hr3 rw_ =>
  ⟨b,by subst eb;simpa only[Rep]using rw_,k b M2 H' q2 ((e1.trans e2).trans e3) hr3⟩⟩⟩⟩
theorem uQ{X:Cx}{a:K3}{ta:TEd}(h:QEd X a ta) (he:∀whole,isTrue a X.env whole=(do let v <-whole;ab3 a.pos;aa3 [v] (truthy v)):=by intro _;rfl):QTd X a (ow ta):=by
 simp only[QEd.eq,QTd.eq]at *
 exact(Fj h he).conv FA
theorem DJ{X:Cx}{a:K3}{pos:Pos}{tA:TTd}(h:QTd X a tA):QTd X (.UnaryOp .Not a pos) (CN tA):=by
 simp only[QTd.eq]at *
 exact(Fk h).conv fun σ H Q hup=>hup.el fun Δ M R sr hr q k=>⟨Δ,M,_,sr,hr,q,fun b M1 H1 q1 e1 hr1=>k _ M1 H1 q1 e1 hr1⟩
theorem jZ{X:Cx}{a:K3}{pos:Pos}{tA:TTd}(ha:QTd X a tA):QWd X (.BoolOp .And [a] pos) tA:=by
 simp only[QTd.eq,QWd.eq]at *
 exact Bl ha
theorem yh{X:Cx}{a:K3}{pos:Pos}{tA:TTd}(ha:QTd X a tA):QWd X (.BoolOp .Or [a] pos) tA:=by
 simp only[QTd.eq,QWd.eq]at *
 exact Ff ha
theorem kz{X:Cx}{a:K3}{b:K3}{pos:Pos}{tA:TTd}{tB':TTd}{rest:List K3}(ha:QTd X a tA) (hb:QWd X (.BoolOp .And (b::rest) pos) tB'):QWd X (.BoolOp .And (a::b::rest) pos) (yq tA tB'):=by
 simp only[QTd.eq,QWd.eq]at *
 exact(EN ha hb).conv fun σ H Q hup=>hup.el fun Δ M R sr hr q k=>⟨Δ,M,_,sr,hr,q,fun c M1 H1 q1 e1 hr1=>by
   cases c with
   |true=>simp only[if_true]at q1 ⊢;exact⟨Δ,M1,R,sr.ext e1,hr1,q1,fun b M2 H2 q2 e2 hr2=>k b M2 H2 q2 (e1.trans e2) hr2⟩
   |false=>simp only[O3,if_false]at q1 ⊢;exact k _ M1 H1 q1 e1 hr1⟩
theorem C0{X:Cx}{a:K3}{b:K3}{pos:Pos}{tA:TTd}{tB':TTd}{rest:List K3}(ha:QTd X a tA) (hb:QWd X (.BoolOp .Or (b::rest) pos) tB'):QWd X (.BoolOp .Or (a::b::rest) pos) (Gv tA tB'):=by
 simp only[QTd.eq,QWd.eq]at *
 exact(Gy ha hb).conv fun σ H Q hup=>hup.el fun Δ M R sr hr q k=>⟨Δ,M,_,sr,hr,q,fun c M1 H1 q1 e1 hr1=>by
   cases c with
   |false=>simp only[O3,if_false]at q1 ⊢;exact⟨Δ,M1,R,sr.ext e1,hr1,q1,fun b M2 H2 q2 e2 hr2=>k b M2 H2 q2 (e1.trans e2) hr2⟩
   |true=>simp only[if_true]at q1 ⊢;exact k _ M1 H1 q1 e1 hr1⟩
theorem vY{X:Cx}{a:K3}{ta:TEd}{pos:Pos}{op}(h:QEd X a ta):QEd X (.BoolOp op [a] pos) ta:=by
 simp only[QEd.eq]at *
 exact Et h
theorem rM{X:Cx}{a:K3}{b:K3}{ta:TEd}{tb:TEd}{pos:Pos}{rest:List K3}(ha:QEd X a ta) (hb:QEd X (.BoolOp .And (b::rest) pos) tb):QEd X (.BoolOp .And (a::b::rest) pos) (Ft ta tb):=by
 simp only[QEd.eq]at *
 exact(Ei ha hb).conv fun σ H Q hup=>hup.el fun Δ M R sr hr q k=>⟨Δ,M,_,sr,hr,q,fun d M1 v H1 ⟨c,e,q1⟩ e1 hr1 rv=>⟨c,by subst e;simpa only[Rep]using rv,by
   cases c with
   |true=>simp only[if_true]at q1 ⊢;exact⟨Δ,M1,R,sr.ext e1,hr1,q1,fun b M2 v2 H2 q2 e2 hr2 r2=>k b M2 v2 H2 q2 (e1.trans e2) hr2 r2⟩
   |false=>simp only[O3,if_false]at q1 ⊢;exact k _ M1 _ H1 q1 e1 hr1 (by simp[Rep])⟩⟩
theorem Hy{X:Cx}{a:K3}{b:K3}{c:K3}{ta:TEd}{tb:TEd}{pos:Pos}{tA:TTd}(hc:QTd X c tA) (ha:QEd X a ta) (hb:QEd X b tb):QEd X (.IfExp c a b pos) (dIf tA ta tb):=by
 simp only[QEd.eq,QTd.eq]at *
 exact(xF hc ha hb).conv fun σ H Q hup=>hup.el fun Δ M R sr hr q k=>⟨Δ,M,_,sr,hr,q,fun c M1 H1 q1 e1 hr1=>by
   cases c with
   |true=>simp only[if_true]at q1 ⊢;exact⟨Δ,M1,R,sr.ext e1,hr1,q1,fun b M2 v2 H2 q2 e2 hr2 r2=>k b M2 v2 H2 q2 (e1.trans e2) hr2 r2⟩
   |false=>simp only[O3,if_false]at q1 ⊢;exact⟨Δ,M1,R,sr.ext e1,hr1,q1,fun b M2 v2 H2 q2 e2 hr2 r2=>k b M2 v2 H2 q2 (e1.trans e2) hr2 r2⟩⟩
theorem Be{X:Cx}{a:K3}{b:K3}{c:K3}{ta:TEd}{tb:TEd}{pos:Pos}{tc:TEd}{op op':ac2}{r r':D->D->Option D}(ho:bW X (L5 op) r) (ho':bW X (L5 op') r') (ha:QEd X a ta) (hb:QEd X b tb) (hc:QEd X c tc)
  (hm:lastMarks [op,op'] [b,c]=false:=by with_unfolding_all rfl):QEd X (.Compare a [op,op'] [b,c] pos) (xT r r' ta tb tc):=by
 simp only[QEd.eq]at *
 refine(yU ho.v ho'.v ha hb hc hm).conv fun σ H Q h=>?_
 obtain⟨Δ,M,R,sr,hr,q,k⟩:=h
 refine⟨Δ,M,_,sr,hr,q,fun x M1 v H1 q1 e1 hr1 rv=>⟨Δ,M1,_,sr.ext e1,hr1,q1,fun y M2 u H2 ⟨b,eb,q2⟩ e2 hr2 ru=>⟨_,_,.bl b,M2,hr2,(rv.ext e2).rd hr2,ru.rd hr2,eb,fun w H3 e3 hr3 rw_ =>
  ⟨b,by simpa only[Rep]using rw_,?_⟩⟩⟩⟩
 cases b with
 |true =>
  simp only[if_true]at q2 ⊢
  exact⟨Δ,M2,_,(sr.ext (e1.trans e2)).ext e3,hr3,q2,fun z M4 w4 H4 ⟨d,ed,q4⟩ e4 hr4 r4=>⟨_,_,d,M4,hr4,((ru.ext e3).ext e4).rd hr4,r4.rd hr4,ed,fun w5 H5 e5 hr5 r5=>k d M4 w5 H5 q4 ((((e1.trans e2).trans e3).trans e4).trans e5) hr5 r5⟩⟩
 |false =>
  simp only[O3,if_false]at q2 ⊢
  exact k _ M2 _ H3 q2 ((e1.trans e2).trans e3) hr3 (by simp[Rep])
theorem aY{X:Cx}{pos:Pos}{x:Str}{p:Pos}{e:K3}{es:List K3}{t:TAd}{id:String}{r:List D->Option D}(hc:cb X (.builtin id) r) (hg:Gl X x) (hm:X.mg x=none) (hv:P9 x=some (.builtin id)) (ha:QAd X (e::es) t) (hn:x≠"__name__":=by decide) (hdb:(x==("__debug__":Str))=false:=by decide)
  (he:J5 (e::es) X.env=(false,T4 e X.env)::J5 es X.env:=by rfl) (hpl:(T5 pos (J5 es X.env)).any (·.1)=false:=by rfl):QEd X (.Call (.Name x p) (e::es) [] pos) (dCB r t):=by
 simp only[QEd.eq,QAd.eq]at *
 exact(sR hc.v hg hm hv ha hn hdb he hpl).conv C6
theorem eK{X:Cx}{pos:Pos}{x:Str}{p:Pos}{e:K3}{es:List K3}{t:TAd}{id:String}{r:List D->Option D}(hc:cb X (.type id) r) (hg:Gl X x) (hm:X.mg x=none) (hv:P9 x=some (.type id)) (ha:QAd X (e::es) t) (hn:x≠"__name__":=by decide) (hdb:(x==("__debug__":Str))=false:=by decide)
  (he:J5 (e::es) X.env=(false,T4 e X.env)::J5 es X.env:=by rfl) (hpl:(T5 pos (J5 es X.env)).any (·.1)=false:=by rfl):QEd X (.Call (.Name x p) (e::es) [] pos) (dCB r t):=by
 simp only[QEd.eq,QAd.eq]at *
 exact(wB hc.v hg hm hv ha hn hdb he hpl).conv C6
theorem bD{X:Cx}:QSs X [] zz:=by
 simp only[QSs.eq]at *
 exact B5.conv fun D σ H hup=>hup.el fun Δ M E sr hr q u=>u.nx Δ M σ H q (Ext.refl _ _) hr sr
theorem ah{X:Cx}{st:aa0}{rest:List aa0}{t:TSd}{u:TSd}(h1:QSd X st t) (h2:QSs X rest u):QSs X (st::rest) (tm t u):=by
 simp only[QSd.eq,QSs.eq]at *
 exact(yj h1 h2).conv fun D σ H hup=>hup.el fun Δ M E sr hr q k=>⟨Δ,M,{ E with nx:=u E },sr,hr,q,⟨fun Δ' M' σ' H' q' e' hr' sr'=>⟨Δ',M',E,sr',hr',q',k.ext e'⟩,k.bk,k.ct,k.rt⟩⟩
theorem aq{X:Cx}{st:aa0}{t:TSd}(h1:QSd X st t):QSs X [st] t:=by
 simp only[QSd.eq,QSs.eq]at *
 exact Cw h1
theorem aO{X:Cx}{e:K3}{te:TEd}{pos:Pos}(he:QEd X e te):QSd X (.Return (some e) pos) (Ce te):=by
 simp only[QEd.eq,QSd.eq]at *
 exact(tU he).conv fun D σ H hup=>hup.el fun Δ M E sr hr q k=>⟨Δ,M,_,sr,hr,q,k.rt⟩
theorem ku{X:Cx}{e:K3}{te:TEd}{pos:Pos}(he:QEd X e te) (hs:Y1 e none pos.line X.env=X5 false:=by rfl):QSd X (.Expr e pos) (sx te):=by
 simp only[QEd.eq,QSd.eq]at *
 exact(BA he hs).conv fun D σ H hup=>hup.el fun Δ M E sr hr q k=>⟨Δ,M,_,sr,hr,q,fun d M1 v H1 q1 e1 hr1 _=>k.nx Δ M1 σ H1 q1 e1 hr1 (sr.ext e1)⟩
theorem cz{X:Cx}{c:K3}{pos:Pos}{t:TSd}{u:TSd}{sa sb:List aa0}{tc:TTd}(hc:QTd X c tc) (ha:QSs X sa t) (hb:QSs X sb u):QSd X (.If c sa sb pos) (AS tc t u):=by
 simp only[QTd.eq,QSd.eq,QSs.eq]at *
 exact(FK hc ha hb).conv fun D σ H hup=>hup.el fun Δ M E sr hr q k=>⟨Δ,M,_,sr,hr,q,fun b M1 H1 q1 e1 hr1=>by
   cases b with
   |true=>simp only[if_true]at q1 ⊢;exact⟨Δ,M1,E,sr.ext e1,hr1,q1,k.ext e1⟩
   |false=>simp only[O3,if_false]at q1 ⊢;exact⟨Δ,M1,E,sr.ext e1,hr1,q1,k.ext e1⟩⟩
theorem aK{X:Cx}{e:K3}{te:TEd}{pos:Pos}{i:Nat}{x:Str}{pos':Pos}(hN:X.N.Nodup) (hi:X.N[i]?=some x) (hx:Loc X.env.scope x) (he:QEd X e te) (hs:Y1 e (some (.Name x pos')) pos.line X.env=X5 false:=by rfl) (hf:X.fn x=true∨X.env.scope.names.lookup x=some .local:=by first|exact .inl rfl|exact .inr rfl|assumption) :
  QSd X (.Assign [.Name x pos'] e pos) (oG i te):=by
 simp only[QEd.eq,QSd.eq]at *
 exact(Dg hN hi hx he hs hf).conv fun D σ H hup=>hup.el fun Δ M E sr hr q k=>⟨Δ,M,_,sr,hr,q,fun d M1 v H1 q1 e1 hr1 rv=>k.nx _ M1 _ H1 q1 e1 hr1 ((sr.ext e1).set i rv)⟩
theorem Fy{X:Cx}{e:K3}{te:TEd}{pos:Pos}{i:Nat}{x:Str}{op:ac3}{r:D->D->Option D}{pos':Pos}(hN:X.N.Nodup) (hi:X.N[i]?=some x) (hx:Loc X.env.scope x) (he:QEd X e te) (ho:bW X (ac8 op) r) (hf:X.fn x=true∨X.env.scope.names.lookup x=some .local:=by first|exact .inl rfl|exact .inr rfl|assumption) :
  QSd X (.AugAssign (.Name x pos') op e pos) (F6 i te r):=by
 simp only[QEd.eq,QSd.eq]at *
 have h:PIp X op (opV X.K r):=fun aa s σ H x y v u Q I rx ry q=>ho.v aa s σ H x y v u Q I rx ry q
 refine(E6 hN hi hx he h hf).conv fun D σ H hh=>?_
 obtain⟨Δ,M,E,sr,hr,⟨d,ed,q⟩,k⟩:=hh
 obtain⟨v,ev,rv⟩:=sr.2 i d ed
 refine⟨v,ev,Δ,M,_,sr,hr,q,fun y M1 w H1 ⟨z,ez,q1⟩ e1 hr1 rw_=>⟨_,_,z,M1,hr1,(rv.ext e1).rd hr1,rw_.rd hr1,ez,fun w2 H2 e2 hr2 r2=>k.nx _ M1 _ H2 q1 (e1.trans e2) hr2 (((sr.ext e1).ext e2).set i r2)⟩⟩
theorem za{X:Cx}{e:K3}{te:TEd}{pos:Pos}{tg:K3}{g:GD}(he:QEd X e te) (hg:PGd X tg g) (hs:swapsWithSole [tg] e pos.line X.env=X5 false:=by rfl) (hw:swappedStores [tg] e X.env=X5 none:=by rfl)
  (h1:(P3 [tg] X.env).map (·.2)=[Y8 tg X.env]:=by rfl):QSd X (.Assign [tg] e pos) (F8 te g):=by
 simp only[QEd.eq,QSd.eq]at *
 obtain⟨gv,pg,kg⟩:=hg
 exact(zl he pg hs hw h1).conv fun D σ H hup=>hup.el fun Δ M E sr hr q k=>⟨Δ,M,_,sr,hr,q,fun d M1 v H1 ⟨Δ',eg,q1⟩ e1 hr1 rv=>kg d v σ Δ Δ' M1 H1 _ (sr.ext e1) hr1 rv eg fun σ' sr'=>k.nx Δ' M1 σ' H1 q1 e1 hr1 sr'⟩
theorem bI{X:Cx}{a:K3}{pos:Pos}{tg:K3}{ta:TAd}{p:Pos}(hg:Gl X "range") (hm:X.mg "range"=none) (ha:QAd X [a] ta) (hs:J5 [a] X.env=[(false,T4 a X.env)]:=by rfl):QId X tg (.Call (.Name "range" p) [a] [] pos) (qS ta):=by
 simp only[QEd.eq,QAd.eq,QTd.eq,QWd.eq,QSd.eq,QSs.eq,QId.eq,QIf.eq,QOd.eq]at *
 exact Fb (hg:=hg) (hm:=hm) (ha:=ha) (hs:=hs)
theorem bO{X:Cx}{pos:Pos}{tg:K3}{iter:K3}{body:List aa0}{wi:TId}{g:GD}{tb:TSd}(hp:ac9 (K9 X.prog X.w) X.A X.env X.xe) (hc:X.calm=true) (hi:QId X tg iter wi) (hg:PGd X tg g) (hb:QSs X body tb)
  (hs:∀x,O6 iter X.env x=X5 x:=by intro _;rfl):QSd X (.For tg iter body [] pos) (wW wi g tb):=by
 simp only[QSd.eq,QSs.eq,QId.eq]at *
 obtain⟨gv,pg,kg⟩:=hg
 refine(DV hp hc hi pg hb hs).conv fun D σ H hh=>?_
 obtain⟨Δ,M,E,sr,hr,q,k⟩:=hh
 refine⟨Δ,M,_,sr,hr,q,fun ds M1 J H1 q1 e1 hr1 it=>?_⟩
 refine⟨fun i m σ' H'=>∃ Δ' M',m=ds.length-i/\i<=ds.length/\Ext M1 H1 M' H'/\HR X.K M' H'/\SR X.K M' H' σ' Δ'/\bQ g tb E (ds.drop i) Δ' M',⟨ds.length,Δ,M1,by simp,U4 _,Ext.refl _ _,hr1,sr.ext e1,q1⟩,?_⟩
 rintro i m σ2 H2 ⟨Δ2,M2,rfl,hi2,e2,hr2,sr2,f2⟩
 obtain⟨go,stop⟩:=it M2 H2 e2 hr2 i
 by_cases hlt:i<ds.length
 ·have hd:ds[i]?=some ds[i]:=by simp[hlt]
  obtain⟨g1,y1⟩:=go _ hd
  rw[List.drop_eq_getElem_cons hlt]at f2
  simp only[bQ]at f2
  obtain⟨Δ3,eg,f3⟩:=f2
  refine .inr ⟨g1,fun σ' H'=>∃m',m'<ds.length-i/\∃ Δ' M',m'=ds.length-(i+1)/\i+1<=ds.length/\Ext M1 H1 M' H'/\HR X.K M' H'/\SR X.K M' H' σ' Δ'/\bQ g tb E (ds.drop (i+1)) Δ' M',fun σ' H' z=>z,fun x H' hy=>?_⟩
  obtain⟨e3,hr3,rx⟩:=y1 x H' hy
  refine kg _ x σ2 Δ2 Δ3 M2 H' _ (sr2.ext e3) hr3 rx eg fun σ3 sr3=>?_
  refine⟨Δ3,M2,_,sr3,hr3,f3,⟨fun Δ' M' σ' H'' q' e' hr' sr'=>?_,fun Δ' M' σ' H'' q' e' hr' sr'=>?_,fun Δ' M' σ' H'' q' e' hr' sr'=>?_,fun d M' v H'' q' e' hr' rv'=>?_⟩⟩
  ·exact⟨_,by omega,Δ',M',rfl,hlt,(e2.trans e3).trans e',hr',sr',q'⟩
  ·exact k.nx Δ' M' σ' H'' q' (((e1.trans e2).trans e3).trans e') hr' sr'
  ·exact⟨_,by omega,Δ',M',rfl,hlt,(e2.trans e3).trans e',hr',sr',q'⟩
  ·exact k.rt d M' v H'' q' (((e1.trans e2).trans e3).trans e') hr' rv'
 ·rw[List.drop_eq_nil_of_le (by omega)]at f2
  exact .inl ⟨stop (by omega),k.nx Δ2 M2 σ2 H2 f2 (e1.trans e2) hr2 sr2⟩
theorem A9{X:Cx}{c:K3}{pos:Pos}{body:List aa0}{tc:TTd}{tb:TSd}(hp:ac9 (K9 X.prog X.w) X.A X.env X.xe) (hc:QTd X c tc) (hb:QSs X body tb):QSd X (.While c body [] pos) (yk tc tb):=by
 simp only[QTd.eq,QSd.eq,QSs.eq]at *
 refine(Ab hp hc hb).conv fun D σ H hh=>?_
 obtain⟨Δ,M,E,sr,hr,⟨W,⟨m0,w0⟩,turn⟩,k⟩:=hh
 refine⟨fun m σ' H'=>∃ Δ' M',Ext M H M' H'/\HR X.K M' H'/\SR X.K M' H' σ' Δ'/\W m Δ' M',⟨m0,Δ,M,Ext.refl _ _,hr,sr,w0⟩,?_⟩
 rintro m σ1 H1 ⟨Δ1,M1,e1,hr1,sr1,w1⟩
 refine⟨Δ1,M1,_,sr1,hr1,turn m Δ1 M1 w1,fun b M2 H2 q2 e2 hr2=>?_⟩
 cases b with
 |true =>
  simp only[if_true]at q2 ⊢
  refine⟨fun σ' H'=>∃m',m'<m/\∃ Δ' M',Ext M H M' H'/\HR X.K M' H'/\SR X.K M' H' σ' Δ'/\W m' Δ' M',fun σ' H' z=>z,Δ1,M2,_,sr1.ext e2,hr2,q2,⟨fun Δ' M' σ' H'' ⟨m',hm,w'⟩ e' hr' sr'=>?_,fun Δ' M' σ' H'' q' e' hr' sr'=>?_,fun Δ' M' σ' H'' ⟨m',hm,w'⟩ e' hr' sr'=>?_,fun d M' v H'' q' e' hr' rv'=>?_⟩⟩
  ·exact⟨m',hm,Δ',M',(e1.trans e2).trans e',hr',sr',w'⟩
  ·exact k.nx Δ' M' σ' H'' q' ((e1.trans e2).trans e') hr' sr'
  ·exact⟨m',hm,Δ',M',(e1.trans e2).trans e',hr',sr',w'⟩
  ·exact k.rt d M' v H'' q' ((e1.trans e2).trans e') hr' rv'
 |false =>
  simp only[O3,if_false]at q2 ⊢
  exact k.nx Δ1 M2 σ1 H2 q2 (e1.trans e2) hr2 (sr1.ext e2)
theorem cC{X:Cx}:QIf X [] wu:=by
 simp only[QEd.eq,QAd.eq,QTd.eq,QWd.eq,QSd.eq,QSs.eq,QId.eq,QIf.eq,QOd.eq]at *
 exact G1 
theorem mR{X:Cx}{c:K3}{tc:TTd}(h:QTd X c tc):QIf X [c] tc:=by
 simp only[QEd.eq,QAd.eq,QTd.eq,QWd.eq,QSd.eq,QSs.eq,QId.eq,QIf.eq,QOd.eq]at *
 exact Fz (h:=h)
theorem j6{X:Cx}{pos:Pos}{tg:K3}{iter:K3}{elt:K3}{scope:V3}{cl:List (Str×J9)}{ms:List Bool}{ar:List Str}{ifs:List K3}{wi:TId}{g:GD}{tc:TTd}{te:TEd}(S:eG X scope cl ms ar) (fS:X.calm=true) (hi:QId X tg iter wi) (hg:PGa X scope cl ar tg g)
  (hif:∀C s H ex,QIf (aH X scope cl (X.N++ar) C s H ex) ifs tc) (he:∀C s H ex,QEd (aH X scope cl (X.N++ar) C s H ex) elt te)
  (hs:∀x,O6 iter X.env x=X5 x:=by intro _;rfl):QEd X (.ListComp elt [⟨tg,iter,ifs,0⟩] scope pos) (dLc ms ar.length wi g tc te):=by
 simp only[QEd.eq,QId.eq,QIf.eq]at *
 obtain⟨gv,pg,kg⟩:=hg
 exact(z1 (tc:=upT X.K tc) S fS hi pg hif (yx (te:=up X.K te) he) hs).conv (vT kg)
theorem u3{X:Cx}{pos:Pos}{tg:K3}{iter:K3}{elt:K3}{scope:V3}{cl:List (Str×J9)}{ms:List Bool}{ar:List Str}{ifs:List K3}{i:Nat}{x:Str}{spos pos':Pos}{wi:TId}{g:GD}{tc:TTd}{te:TEd}(hN:X.N.Nodup) (hix:X.N[i]?=some x) (hx:X.env.scope.names.lookup x=some .local)
  (hsw:Y1 (.ListComp elt [⟨tg,iter,ifs,0⟩] scope pos) (some (.Name x pos')) spos.line X.env=X5 true) (S:eG X scope cl ms ar) (fS:X.calm=true) (hi:QId X tg iter wi) (hg:PGa X scope cl ar tg g)
  (hif:∀C s H ex,QIf (aH X scope cl (X.N++ar) C s H ex) ifs tc) (he:∀C s H ex,QEd (aH X scope cl (X.N++ar) C s H ex) elt te)
  (hs:∀x,O6 iter X.env x=X5 x:=by intro _;rfl):QSd X (.Assign [.Name x pos'] (.ListComp elt [⟨tg,iter,ifs,0⟩] scope pos) spos) (oG i (dLc ms ar.length wi g tc te)):=by
 simp only[QEd.eq,QSd.eq,QId.eq,QIf.eq]at *
 obtain⟨gv,pg,kg⟩:=hg
 refine(o9 (tc:=upT X.K tc) hN hix hx hsw S fS hi pg hif (yx (te:=up X.K te) he) hs).conv fun D σ H hh=>?_
 obtain⟨Δ,M,E,sr,hr,q,k⟩:=hh
 exact vT kg σ H _ ⟨Δ,M,_,sr,hr,q,fun d M1 v H1 q1 e1 hr1 rv=>k.nx _ M1 _ H1 q1 e1 hr1 ((sr.ext e1).set i rv)⟩
theorem zM{X:Cx}{e:K3}{te:TEd}{pos:Pos}{o i:K3}{to ti:TEd}{p:Pos}(ho:QEd X o to) (hi:QEd X i ti) (he:QEd X e te)
  (ha:∀ v,Y8 (.Subscript o i p) X.env v = (do
   let ov <-aa3 [v] (T4 o X.env)
   let iv <-aa3 [v,ov] (T4 i X.env)
   ab3 p
   aa3 [v,ov,iv] (setItem ov iv v)
   release [v,ov,iv] []):=by intro _;rfl) (hs:swapsWithSole [.Subscript o i p] e pos.line X.env=X5 false:=by rfl) (hw:swappedStores [.Subscript o i p] e X.env=X5 none:=by rfl)
  (h1:(P3 [.Subscript o i p] X.env).map (·.2)=[Y8 (.Subscript o i p) X.env]:=by rfl):QSd X (.Assign [.Subscript o i p] e pos) (GK to ti te):=by
 simp only[QEd.eq,QSd.eq]at *
 exact(zl he (Dm ho hi zG ha) hs hw h1).conv fun D σ H hup=>hup.el fun Δ M E sr hr q k=>⟨Δ,M,_,sr,hr,q,fun d M1 v H1 q1 e1 hr1 rv=>⟨Δ,M1,_,sr.ext e1,hr1,q1,fun o M2 ov H2 q2 e2 hr2 ro=>⟨Δ,M2,_,(sr.ext e1).ext e2,hr2,q2,fun i M3 iv H3 ⟨a,ds,kk,j,eo,ei,em,ej,q3⟩ e3 hr3 ri=>by
   subst eo;subst ei
   simp only[Rep]at ro ri
   subst ro;subst ri
   obtain⟨vs,hv,rl⟩:=hr3 a _ em
   refine⟨a,vs,kk,j,rfl,rfl,hv,by rw[<-rl.length];exact ej,?_⟩
   exact k.nx Δ _ σ _ q3 (((e1.trans e2).trans e3).trans (Ext.write em)) (hr3.write em (rl.set j ((rv.ext e2).ext e3))) ((((sr.ext e1).ext e2).ext e3).ext (Ext.write em))⟩⟩⟩
theorem px{X:Cx}{e:K3}{te:TEd}{o:K3}{to:TEd}{bC aV:Pos}(ho:QEd X o to) (he:QEd X e te) (cX:U7 o "append" X.env (T4 o X.env)=T4 o X.env:=by rfl)
  (hse:J5 [e] X.env=(false,T4 e X.env)::J5 [] X.env:=by rfl)
  (kM:((T5 aV (J5 [e] X.env)).all (fun x => !x.1) && (ac4 aV (Z9 [] X.env)).all (fun x => x.1.isSome)
  &&decide ([e].length+([]:List Y9).length+(if([]:List Y9).isEmpty then 0 else 1)<30))=true:=by rfl)
  (cN:(bC.endLine==aV.line)=true:=by rfl) (jl:(T5 aV (J5 [] X.env)).any (·.1)=false:=by rfl):QEd X (.Call (.Attribute o "append" bC) [e] [] aV) (Ax to te):=by
 simp only[QEd.eq]at *
 exact(zg PySem.F.plainAttrs_list PySem.F.slot_list_append PySem.F.type_list_append (show MtR X "list.append" vF from xx) ho (ir he nN hse) cX kM cN hse jl).conv fun σ H Q hup=>hup.el fun Δ M R sr hr q k=>⟨Δ,M,_,sr,hr,q,fun o M1 ov H1 ⟨a,l,eo,em,q1⟩ e1 hr1 ro=>by
   subst eo
   simp only[Rep]at ro
   subst ro
   obtain⟨vs,hv,rl⟩:=hr1 a _ em
   refine⟨.inl ⟨rfl,vs,SqL.of hv⟩,Δ,M1,_,sr.ext e1,hr1,q1,fun d M2 v H2 ⟨ds,em2,hz,q2⟩ e2 hr2 rv=>?_⟩
   obtain⟨ws,hw,rl2⟩:=hr2 a _ em2
   refine⟨a,ws,v,rfl,rfl,hw,by rw[<-rl2.length];exact hz,k _ _ _ _ q2 ((e1.trans e2).trans (Ext.write em2)) (hr2.write em2 (rl2.append (am.cons rv am.nil))) (by simp[Rep])⟩⟩
theorem F4{X:Cx}{a:K3}{ta:TEd}{pos:Pos}{T:Str}{Tn:String}{p p2:Pos}(hT:okT Tn=true) (hg:Gl X "isinstance") (hm:X.mg "isinstance"=none) (hg2:Gl X T) (hm2:X.mg T=none) (hv2:P9 T=some (.type Tn)) (ha:QEd X a ta) (hn2:T≠"__name__":=by decide) (hd2:(T==("__debug__":Str))=false:=by decide)
  (hs:J5 [a,.Name T p2] X.env=(false,T4 a X.env)::J5 [.Name T p2] X.env:=by rfl) (hs2:J5 [.Name T p2] X.env=(false,T4 (.Name T p2) X.env)::J5 [] X.env:=by rfl) (hpl:(T5 pos (J5 [.Name T p2] X.env)).any (·.1)=false:=by rfl) :
  QEd X (.Call (.Name "isinstance" p) [a,.Name T p2] [] pos) (GR Tn ta):=by
 simp only[QEd.eq]at *
 have hc:dN X (.builtin "isinstance") (fun xs H Q=>∃v d k M,xs=[v,.ty Tn]/\aQ X.K M H d v/\AK Tn d=some k/\Q (.bl k) H):=by
  intro aa s σ H xs us Q I rv h
  obtain⟨v,d,k,M,rfl,rd,ek,q⟩:=h
  obtain⟨u1,u2,rfl,r1,r2⟩:=az.two rv
  cases r2
  exact xr hT I r1 rd ek q
 refine(sR hc hg hm (by kernel_rfl) (ir ha (ir (B0 (v:=.ty Tn) hg2 hm2 hv2 rfl hn2 hd2) nN hs2) hs) (by decide) (by decide) hs hpl).conv fun σ H Q hh=>?_
 obtain⟨Δ,M,R,sr,hr,q,k⟩:=hh
 exact⟨Δ,M,_,sr,hr,q,fun d M1 v H1 ⟨kk,ek,q1⟩ e1 hr1 rv=>⟨v,_,kk,M1,rfl,rv.rd hr1,ek,k _ M1 _ H1 q1 e1 hr1 (by simp[Rep])⟩⟩
theorem dP{X:Cx}:QOd X none qD:=by
 simp only[QEd.eq,QAd.eq,QTd.eq,QWd.eq,QSd.eq,QSs.eq,QId.eq,QIf.eq,QOd.eq]at *
 exact Cp 
theorem cW{X:Cx}{e:K3}{te:TEd}(h:QEd X e te):QOd X (some e) (Ae te):=by
 simp only[QEd.eq,QAd.eq,QTd.eq,QWd.eq,QSd.eq,QSs.eq,QId.eq,QIf.eq,QOd.eq]at *
 exact Bv (h:=h)
theorem DG{X:Cx}{e:K3}{te:TEd}{o:K3}{to:TEd}{bC aV:Pos}(ho:QEd X o to) (he:QEd X e te) (cX:U7 o "join" X.env (T4 o X.env)=T4 o X.env:=by rfl)
  (hse:J5 [e] X.env=(false,T4 e X.env)::J5 [] X.env:=by rfl)
  (kM:((T5 aV (J5 [e] X.env)).all (fun x => !x.1) && (ac4 aV (Z9 [] X.env)).all (fun x => x.1.isSome)
  &&decide ([e].length+([]:List Y9).length+(if([]:List Y9).isEmpty then 0 else 1)<30))=true:=by rfl)
  (cN:(bC.endLine==aV.line)=true:=by rfl) (jl:(T5 aV (J5 [] X.env)).any (·.1)=false:=by rfl):QEd X (.Call (.Attribute o "join" bC) [e] [] aV) (C9 to te):=by
 simp only[QEd.eq]at *
 have hm:MtR X "str.join" (fun x xs H Q=>∃sep a vs ds ys M,x=.str sep/\xs=[.ref a]/\H a=some (.lst vs)/\am X.K M H ds vs/\gi ds=some ys/\(ys.map (·.length)).sum+ys.length*sep.length<=16777216/\Q (.str (Txt.join sep ys)) H):=by
  intro aa s σ H x xs v us Q I rx rv h
  obtain⟨sep,a,vs,ds,ys,M,rfl,rfl,hH,rl,es,hz,q⟩:=h
  obtain⟨t,rfl⟩:=rx
  obtain⟨u,rfl,ru⟩:=az.one rv
  cases ru
  obtain⟨its,r,pl,_⟩:=I.list (SqL.of hH)
  exact join_list pl.isList (by simpa using n9 rl r es) hz fun t' k=>⟨.str _,H,I.tok _,⟨t',rfl⟩,q⟩
 refine(zg PySem.F.plainAttrs_str PySem.F.slot_str_join PySem.F.type_str_join hm ho (ir he nN hse) cX kM cN hse jl).conv fun σ H Q hh=>?_
 obtain⟨Δ,M,R,sr,hr,q,k⟩:=hh
 refine⟨Δ,M,_,sr,hr,q,fun o M1 ov H1 ⟨sep,eo,q1⟩ e1 hr1 ro=>?_⟩
 subst eo
 simp only[Rep]at ro
 subst ro
 refine⟨rfl,Δ,M1,_,sr.ext e1,hr1,q1,fun d M2 v H2 ⟨z,ez,q2⟩ e2 hr2 rv=>?_⟩
 have rr:=rv.rd hr2
 generalize rdM M2 d=d' at rr ez
 cases d' with
 |lst ds =>
  obtain⟨a,vs,rfl,sq,rl⟩:=rr
  simp only[vj]at ez
  cases qs:gi ds with
  |none=>rw[qs]at ez;cases ez
  |some ys =>
   rw[qs]at ez
   dsimp only at ez
   by_cases hz:(ys.map (·.length)).sum+ys.length*sep.length<=16777216
   ·rw[if_pos hz]at ez;cases ez
    exact⟨sep,a,vs,ds,ys,M2,rfl,rfl,sq,rl,qs,hz,k _ M2 _ H2 q2 (e1.trans e2) hr2 (by simp[Rep])⟩
   ·rw[if_neg hz]at ez;cases ez
 |_=>cases ez
theorem qc{X:Cx}{e:K3}{es:List K3}{t:TAd}{pos:Pos}{p:Pos}{x:Str}{k:Nat}{n:Nat}{S:SpD}(F:FnD X.prog X.w X.K X.mg X.base x k n S) (hr:cm k X.A) (hg:Gl X x) (ha:QAd X (e::es) t) (hdb:(x==("__debug__":Str))=false:=by decide) (he:J5 (e::es) X.env=(false,T4 e X.env)::J5 es X.env:=by rfl) (hpl:(T5 pos (J5 es X.env)).any (·.1)=false:=by rfl) :
  QEd X (.Call (.Name x p) (e::es) [] pos) (gn n S t):=by
 simp only[QEd.eq,QAd.eq,QTd.eq,QWd.eq,QSd.eq,QSs.eq,QId.eq,QIf.eq,QOd.eq]at *
 exact dc (F:=F) (hr:=hr) (hg:=hg) (ha:=ha) (hdb:=hdb) (he:=he) (hpl:=hpl)
theorem qcL{X:Cx}{e:K3}{es:List K3}{t:TAd}{pos:Pos}{p:Pos}{x:Str}{k:Nat}{n:Nat}{S:SpD}(F:FnD X.prog X.w X.K X.mg X.base x k n S) (hr:cm k X.A) (hg:Gl X x) (ha:QAd X (e::es) t) (hdb:(x==("__debug__":Str))=false:=by decide) (he:J5 (e::es) X.env=(false,T4 e X.env)::J5 es X.env:=by rfl) (hpl:(T5 pos (J5 es X.env)).any (·.1)=false:=by rfl) :
  QEd X (.Call (.Name x p) (e::es) [] pos) (qC n S t):=by
 simp only[QEd.eq,QAd.eq,QTd.eq,QWd.eq,QSd.eq,QSs.eq,QId.eq,QIf.eq,QOd.eq]at *
 exact dcL (F:=F) (hr:=hr) (hg:=hg) (ha:=ha) (hdb:=hdb) (he:=he) (hpl:=hpl)
theorem yL{X:Cx}{e:K3}{te:TEd}{pos:Pos}(he:QEd X e te):QSd X (.Return (some e) pos) (CV te):=by
 simp only[QEd.eq,QSd.eq]at *
 exact(tU he).conv fun D σ H hup=>hup.el fun Δ M E sr hr q k=>⟨Δ,M,_,sr,hr,q,fun d M1 v H1 ⟨a,ds,ed,em,q1⟩ e1 hr1 rv=>by
  subst ed
  simp only[Rep]at rv
  subst rv
  exact k.rt _ _ _ H1 q1 (e1.trans (Ext.le LeM.del)) (hr1.le LeM.del) (Rep.froze hr1 LeM.del em dY)⟩
theorem bz{X:Cx}{te:TEd}{tg:K3}{iter:K3}(h:QEd X iter te):QId X tg iter (j5 te):=by
 simp only[QEd.eq,QAd.eq,QTd.eq,QWd.eq,QSd.eq,QSs.eq,QId.eq,QIf.eq,QOd.eq]at *
 exact Gb (h:=h)
theorem nW{X:Cx}{e:K3}{te:TEd}{pos:Pos}(he:QEd X e te):QSd X (.Return (some e) pos) (CC te):=by
 simp only[QEd.eq,QSd.eq]at *
 exact(tU he).conv fun D σ H hup=>hup.el fun Δ M E sr hr q k=>⟨Δ,M,_,sr,hr,q,fun d M1 v H1 ⟨M2,hle,q1⟩ e1 hr1 rv =>
  k.rt _ _ _ H1 q1 (e1.trans (Ext.le hle)) (hr1.le hle) (rv.ext (Ext.le hle))⟩
theorem cE{X:Cx}{e:K3}{te:TEd}{pos:Pos}{lo hi:Option K3}{tl th:TOd}{p2:Pos}(he:QEd X e te) (hl:QOd X lo tl) (hu:QOd X hi th):QEd X (.Subscript e (.Slice lo hi none p2) pos) (FM te tl th):=by
 simp only[QEd.eq,QOd.eq]at *
 refine(zf (SlR.or Cm (SlR.or EY (SlR.or DZ zK))) he hl hu).conv fun σ H Q hh=>?_
 obtain⟨Δ,M,R,sr,hr,q,k⟩:=hh
 refine⟨Δ,M,_,sr,hr,q,fun x M1 v H1 q1 e1 hr1 rv=>⟨Δ,M1,_,sr.ext e1,hr1,q1,fun l M2 H2 q2 e2 hr2=>⟨Δ,M2,_,(sr.ext e1).ext e2,hr2,q2,fun u M3 H3 ⟨z,ez,q3⟩ e3 hr3=>?_⟩⟩⟩
 have rr:=((rv.ext e2).ext e3).rd hr3
 have ee:=(e1.trans e2).trans e3
 have kk:∀w H',Ext M3 H3 M3 H'->HR X.K M3 H'->Rep X.K M3 H' z w->Q w H':=fun w H' e4 hr4 r4=>k z M3 w H' q3 (ee.trans e4) hr4 r4
 generalize rdM M3 x=d at rr ez
 cases d with
 |lst ds =>
  cases ez
  obtain⟨a,vs,rfl,sq,rl⟩:=rr
  refine .inl ⟨a,vs,rfl,SqL.of sq,fun p hp=>iZ hr3 hp ?_ kk⟩
  unfold cG qT
  rw[<-rl.length]
  exact(rl.drop _).take _
 |scr ds =>
  cases ez
  obtain⟨a,vs,rfl,sq,rl⟩:=rr
  refine .inl ⟨a,vs,rfl,sq,fun p hp=>iZ hr3 hp ?_ kk⟩
  unfold cG qT
  rw[<-rl.length]
  exact(rl.drop _).take _
 |str s =>
  simp only[slE,slD]at ez
  by_cases hz:s.length<=J1
  ·rw[if_pos hz]at ez;cases ez
   exact .inr (.inr (.inl ⟨s,oJ rr,hz,kk _ H3 (Ext.refl _ _) hr3 (by simp[Rep])⟩))
  ·rw[if_neg hz]at ez;cases ez
 |tup ds =>
  cases ez
  have rt:=aQ.tup hr3 rr
  obtain⟨a,vs,rfl,sq,rl⟩:=rr
  by_cases hw:HT.sIx ds.length 0 l=0/\HT.sIx ds.length ds.length u=ds.length
  ·refine .inr (.inr (.inr ⟨a,vs,rfl,sq,by rw[<-rl.length];exact hw,kk _ H3 (Ext.refl _ _) hr3 ?_⟩))
   rw[um hw]
   exact rt
  ·refine .inr (.inl ⟨a,vs,rfl,sq,by rw[<-rl.length];exact hw,fun p hp=>mX hr3 hp ?_ kk⟩)
   unfold cG qT
   rw[<-rl.length]
   exact(rl.drop _).take _
 |_=>cases ez
theorem yZ{X:Cx}{e:K3}{te:TEd}{ts:TEd}{pos:Pos}{st:K3}{p2:Pos}(he:QEd X e te) (hs:QEd X st ts):QEd X (.Subscript e (.Slice none none (some st) p2) pos) (zp te ts):=by
 simp only[QEd.eq]at *
 intro aa s σ H Q I hh
 obtain⟨Δ,M,R,sr,hr,q,k⟩:=hh
 refine ab8 (thn (he aa s σ H (fun v H1=>∃x M1,Rep X.K M1 H1 x v/\Ext M H M1 H1/\HR X.K M1 H1/\ts Δ M1 fun st M2=>st=.int (-1)/\∃ds,x=.tup ds/\R (.tup ds.reverse) M2) I
  ⟨Δ,M,_,sr,hr,q,fun x M1 v H1 q1 e1 hr1 rv=>⟨x,M1,rv,e1,hr1,q1⟩⟩) fun v s1 ⟨vx,H1,I1,r1,x,M1,rv,e1,hr1,q1⟩=>?_)
 refine wpAny_Slice ?_
 rw[evalPart_none]
 refine J4 (J4 ?_)
 rw[evalPart_some]
 refine thn (hs aa s1 σ H1 (fun u H2=>∃M2 ds,u=.int (-1)/\x=.tup ds/\R (.tup ds.reverse) M2/\Ext M1 H1 M2 H2/\HR X.K M2 H2) I1 ⟨Δ,M1,_,sr.ext e1,hr1,q1,fun d M2 u H2 ⟨ed,ds,ex,q2⟩ e2 hr2 ru=>⟨M2,ds,by subst ed;simpa only[Rep]using ru,ex,q2,e2,hr2⟩⟩) fun u s2 ⟨vu,H2,I2,r2,M2,ds,eu,ex,q2,e2,hr2⟩=>?_
 subst eu
 subst ex
 obtain⟨tk,rfl⟩:=r2
 have rv2:=rv.ext e2
 simp only[Rep]at rv2
 obtain⟨ad,vs,rfl,ta,rl⟩:=rv2
 cases r1
 have I4:Inv X aa σ H2 { s2 with heap:=s2.heap.push { cls:=.type "slice",data:=.fields #[.none,.none,.int (-1) tk] } }:=I2.kept (t':=s2.toks) fun b ob q=>J0 _ q
 obtain⟨its,r,ht,hz⟩:=I4.tuple ta.sq
 have hl:=r.length
 refine tail_any (ops:=[.ref ad,.ref s2.heap.objs.size]) ht.typeIs K7.lookup (HT.getItem_tuple_rev ht (L7.IsSliceOf.new ..) ?_ (by rw[J3,<-hl];exact hz)) (by with_unfolding_all rfl)
 have rr:az vs.reverse its.reverse:=az.reverse r
 refine⟨.ref _,_,I4.laid (t':=s2.toks) (o:=.tup vs.reverse) (fun b ob q=>J0 _ q) (J6 _) ?_,rfl,?_⟩
 ·exact⟨by simpa using hz,_,rr,lD.new _ _⟩
 ·exact mX (ds:=ds.reverse) hr2 (I4.hok.fresh (J6 _)) rl.reverse fun w H' e4 hr4 r4=>k _ M2 w H' q2 ((e1.trans e2).trans e4) hr4 r4
theorem AR{X:Cx}{st:aa0}:QSd X st Aj:=by
 simp only[QSd.eq]at *
 exact fun aa s σ H D I ⟨_,_,_,_,_,q,_⟩=>P2 q
section
variable{X:Cx}{rest:List aa0}{t:TSd}{e:K3}{tt:TTd}
theorem BL(h:QSs X rest t):By X rest t:=by
 rw[QSs.eq]at h
 exact h
theorem ug(h:QWd X e tt):QTd X e tt:=by
 simp only[QWd.eq,QTd.eq]at *
 exact PWd.pt h
end
section
variable{P:L1}{w:O4}{K:o0}{mg:Str->Option s0}{base:L7}
theorem Fun.okQ{x qual:Str}{st:aa0}{f:J9}{fd:R9}{N ps:List Str}{k n:Nat}{S:SpD}(F:Fun K x qual st f fd) (hn:ps.length=n) (Sc:ax N ps (aj st))
  (hbody:∀ (cdv:s0) (A:M7) (outer:List Env) (s:I0) (H:Hp) (E:XK),cm k (A.deeper (ab0 qual (aj st) s.heap.objs.size f cdv)) →
   ∃t:TSd,QSs (sT CX0 P w K mg base N qual (aj st) f cdv A outer s H E).nox (dq st) t/\∀ds M R,ds.length=n->S ds M R->t { nx:=fun _ M'=>R .non M',rt:=R } (jk N ds) M):aX P w K mg base CX0 (k+1) f fd ps (spD K n S):=by
 refine F.okD hn Sc fun cdv A outer s H E hr=>?_
 obtain⟨t,h1,h2⟩:=hbody cdv A outer s H E hr
 exact⟨t,BL h1,h2⟩
end
end L2
namespace L2
open PySem PySem.Spec PyProof.Rows PySem.Builtin.Str
/-! ### split of fh texts -/
end L2
namespace L2
open PySem PySem.Spec PyProof.Rows
/-! ### the bits of the script's ints -/
def Few(n:Int):Prop:=K5.Int.intBits n<=2 ^ 20
end L2
namespace Att
open PySem PySem.W PySem.Calls PyProof.Rows
end Att
namespace L2
open PySem PySem.Spec PyProof.Rows
section
variable{X:Cx}{pos:Pos}
/-! ###*of wide ints -/
instance (n:Int):Decidable (Few n):=by unfold Few;exact inferInstance
def jo(i j:Int):Prop:=kc i j∨(Few i/\Few j)
instance:∀i j,Decidable (jo i j):=fun i j=>Classical.propDecidable _
theorem jo.ok{i j:Int}(h:jo i j):IntMulOk i j:=by
 rcases h with h|⟨a,b⟩
 ·exact h.ok
 ·exact .of_bits a b
theorem Cf:OpR X (P1 .Mult) (rI jo fun i j=>.int (i*j)):=opI fun _ _ _ _ _ _ _ hc q=>mul_int q hc.ok
theorem EU:bW X (P1 .Mult) (iOp fun i j=>if jo i j then some (.int (i*j))else none):=si (fun _ _=>rfl) Cf
/-! ### divmod,max -/
def dmD:List D->Option D
 |[.int i,.int j]=>if p6 i j then some (.tup [.int (i / j),.int (i % j)])else none
 |_=>none
def HS:List D->Option D
 |[.int i,.int j]=>some (.int (if j > i then j else i))
 |_=>none
/-! ### o[i],y=value -/
end
open AutoSeq1 (wpAny_loadPart')
section
variable{prog:L1}{w:O4}{A:M7}{E:s0->I0->Prop}{s:I0}
/-! ### enumerate(tuple) -/
theorem lH(l:J9) (its:Array s0) (n:Nat) (dct:Option J9) (sl:Array (Option s0)) :
  Meets (K5.«enumerate.__new__» ⟨[.type "enumerate",.ref l],[]⟩) (fun _ R s=>s.heap.get? l=some { cls:=.type "tuple",dict:=dct,data:=.seq its n,slots:=sl } /\
   R (.ok (.ret (.ref (s.heap.push { cls:=.type "tuple_iterator",data:=.fields #[.ref l,.int 0 0] }).objs.size)))
    { s with heap:=(s.heap.push { cls:=.type "tuple_iterator",data:=.fields #[.ref l,.int 0 0] }).push { cls:=.type "enumerate",data:=.fields #[.none,.bool false,.ref s.heap.objs.size,rawInt 0,.none,.none] } }) :=
 .of_wp fun prog w A R s h=>by
  obtain⟨hp,g,d,tk,os⟩:=s
  have hl:=h.1
  have hR:=h.2
  have hsb:=sub_enumerate
  have hT:L7.IsTuple (I0.heap ⟨hp,g,d,tk,os⟩) l its:=⟨_,hl,rfl,n,rfl⟩
  wp_walk using V9 hl
  refine wpAny_stack_any fun st=>J4 ?_
  split
  ·rename_i c _ _ _ _ _
   cases(c==X9 "enumerate")<;>(wp_walk using V9 hl,wpAny_pyIter_tuple hT;exact⟨_,rfl,hR⟩)
  ·wp_walk using V9 hl,wpAny_pyIter_tuple hT
   exact⟨_,rfl,hR⟩
theorem lG{l:J9}{its:Array s0}{Q:s0->I0->Prop}(hL:s.heap.IsTuple l its)
  (h:∀ h',IsEnum h' (s.heap.objs.size + 1) s.heap.objs.size 0 .none → h'.IsTupleIter s.heap.objs.size l 0 → h'.objs.size = s.heap.objs.size + 2 →
   (∀b o,s.heap.get? b=some o->h'.get? b=some o)->Q (.ref (s.heap.objs.size+1)) { s with heap:=h' }) :
  K4 (K9 prog w) A (call (.type "enumerate") [.ref l]) Q E s:=by
 obtain⟨⟨c,dct,dt,sl⟩,hl,hc,n,hd⟩:=hL
 obtain rfl:c=.type "tuple":=hc
 obtain rfl:dt=.seq its n:=hd
 refine callType_new F.called_enumerate (by decide) (F.typeCall_enumerate_1 _) (F.newCall_enumerate_1 _) (fun ob=>F.args_object_init_2 ob _) F.entry_enumerate_new (lH l its n dct sl) ⟨hl,?_⟩
 have hz:(s.heap.push { cls:=.type "tuple_iterator",data:=.fields #[.ref l,.int 0 0] }).objs.size=s.heap.objs.size+1:=W9 ..
 show _/\_
 rw[hz]
 have he:IsEnum ((s.heap.push { cls:=.type "tuple_iterator",data:=.fields #[.ref l,.int 0 0] }).push { cls:=.type "enumerate",data:=.fields #[.none,.bool false,.ref s.heap.objs.size,rawInt 0,.none,.none] }) (s.heap.objs.size+1) s.heap.objs.size 0 .none:=by
  have q:=J7 (s.heap.push { cls:=.type "tuple_iterator",data:=.fields #[.ref l,.int 0 0] }) (o:={ cls:=.type "enumerate",data:=.fields #[.none,.bool false,.ref s.heap.objs.size,rawInt 0,.none,.none] }) rfl
  rwa [hz]at q
 exact⟨⟨_,he,rfl⟩,h _ he ⟨_,J0 _ (J7 _ rfl),rfl,rfl⟩ (by rw[W9,hz]) fun b o x=>J0 _ (J0 _ x)⟩
theorem lE{it t:J9}{i:Nat}{its}{x:s0}{Q:s0->I0->Prop}(hit:s.heap.IsTupleIter it t i) (ht:s.heap.IsTuple t its) (hx:its[i]?=some x)
  (hQ:∀h',h'.IsTupleIter it t (i+1)->S4 it s.heap h'->Q x { s with heap:=h' }):K4 (K9 prog w) A (R8 (.ref it)) Q E s:=by
 obtain⟨o,ho,hc,hd⟩:=id hit
 obtain⟨ol,hol,_,nl,hdl⟩:=ht
 unfold R8
 refine u8 (P8 (name:=V2 "__next__") hit.typeIs R6 (U9 R6 hit.typeIs F.entry_tuple_iterator_next ?_ (F.args_tuple_iterator_next_1 _)))
 show K4 _ _ (field (.ref it) 0 >>= _) _ _ s
 refine u8 (T1 ho hd (x:=.ref t) rfl ?_)
 show K4 _ _ (if(N3 t==W3)=true then _ else _) _ _ s
 rw[if_neg (show ¬ ((N3 t==W3)=true)from L9)]
 show K4 _ _ (field (.ref it) 1 >>= _) _ _ s
 refine u8 (T1 ho hd (x:=.int i 0) rfl ?_)
 show K4 _ _ (seqItems? (.ref t) >>= _) _ _ s
 refine u8 (wpAny_seqItems hol hdl ?_)
 simp only[Int.toNat_natCast,hx]
 refine u8 (wpAny_setField ho hd (by simp) (J4 ⟨x,rfl,J4 (hQ _ ?_ (S4.update ..))⟩))
 exact⟨_,L7.get?_update_self _ ho (Obj.isFreed_of_fields (Obj.data_mapFields hd _)),(Obj.cls_mapFields ..).trans hc,by rw[Obj.data_mapFields hd];simp[rawInt]⟩
theorem ny{it t:J9}{i:Nat}{its}{Q:s0->I0->Prop}(hh:A.handled=none) (hit:s.heap.IsTupleIter it t i) (ht:s.heap.IsTuple t its) (hx:its[i]?=none)
  (hE:∀h' e,L7.ExtBut it s.heap h'->(∃o,h'.get? e=some o/\o.cls=.type "StopIteration")->E (.ref e) { s with heap:=h' }):K4 (K9 prog w) A (R8 (.ref it)) Q E s:=by
 obtain⟨o,ho,hc,hd⟩:=id hit
 obtain⟨ol,hol,_,nl,hdl⟩:=ht
 unfold R8
 refine u8 (P8 (name:=V2 "__next__") hit.typeIs R6 (U9 R6 hit.typeIs F.entry_tuple_iterator_next ?_ (F.args_tuple_iterator_next_1 _)))
 show K4 _ _ (field (.ref it) 0 >>= _) _ _ s
 refine u8 (T1 ho hd (x:=.ref t) rfl ?_)
 show K4 _ _ (if(N3 t==W3)=true then _ else _) _ _ s
 rw[if_neg (show ¬ ((N3 t==W3)=true)from L9)]
 show K4 _ _ (field (.ref it) 1 >>= _) _ _ s
 refine u8 (T1 ho hd (x:=.int i 0) rfl ?_)
 show K4 _ _ (seqItems? (.ref t) >>= _) _ _ s
 refine u8 (wpAny_seqItems hol hdl ?_)
 simp only[Int.toNat_natCast,hx]
 refine u8 (wpAny_rule (u8 (wpAny_setField ho hd (by simp) ?_)))
 show K4 _ _ (newExc (.type "StopIteration") [] >>= _) _ _ _
 refine u8 ?_
 simp only[newExc,newTuple]
 refine u8 (M0 ?_ (by size_fits))
 refine u8 (m:=firstArgMember _ _) (wpAny_of_eq (a:=W3) (by first|rfl|(simp only[firstArgMember];rfl)) ?_)
 refine M0 ?_ (by size_fits)
 simp only[raiseNew]
 refine u8 (wpAny_handled ?_)
 first|rw[show A.in1.handled=none from hh]|rw[hh]
 refine u8 (J4 (wpAny_throw ?_))
 exact hE _ _ (((S4.update ..).extBut.push _).push _) ⟨_,J7 _ rfl,rfl⟩
theorem pQ{prog:L1}{w:O4}{A:M7}(hh:A.handled=none) (it l:J9) (hne:l≠it) (its:Array s0) :
  Draws prog w A it [it,l] its.size (fun i v=>its[i]?=some v) (fun i h=>h.IsTupleIter it l i/\h.IsTuple l its) where
 live:=fun _ _ st=>let⟨o,ho,_⟩:=st.1;⟨o,ho⟩
 frame:=fun _ _ _ st hk=>⟨let⟨o,ho,r⟩:=st.1;⟨o,hk it (by simp) o ho,r⟩,let⟨o,ho,r⟩:=st.2;⟨o,hk l (by simp) o ho,r⟩⟩
 item:=fun i s Q E hi st hQ=>lE st.1 st.2 (x:=its[i]) (by simp[hi]) fun h' hit' hs'=>hQ _ h' s.toks (by simp[hi]) ⟨hit',st.2.extBut hs'.extBut hne⟩ hs'
 done:=fun s Q E st hE=>ny hh st.1 st.2 (by simp) hE
end
section
variable{X:Cx}{aa:List (J9×Obj)}{σ:St}{H:Hp}{s:I0}{h':L7}
theorem Inv.turned2{t':Nat}{e it:J9}(I:Inv X aa σ H s) (k:∀b o,b≠e->b≠it->s.heap.get? b=some o->h'.get? b=some o) (f1:eF X aa H e) (f2:eF X aa H it):Inv X aa σ H { s with heap:=h',toks:=t' }:=by
 obtain⟨a0,a1,a2,a3,a4,a5⟩:=f1
 obtain⟨b0,b1,b2,b3,b4,b5⟩:=f2
 have nit:∀b u,H b=some u->b≠e/\b≠it:=fun b u q=>⟨fun z=>(by rw[z,a0]at q;cases q),fun z=>(by rw[z,b0]at q;cases q)⟩
 have kk:∀b o,b∉[e,it]->s.heap.get? b=some o->h'.get? b=some o:=fun b o hc q=>k b o (fun z=>hc (by simp[z])) (fun z=>hc (by simp[z])) q
 refine I.step (g':=s.gens) (d':=s.drawn) (ch:=[e,it]) (fun b hb=>?_) (fun b o _ _ hc q _=>kk b o hc q) (fun b o _ _ hc q _=>⟨o.slots,kk b o hc q⟩) (fun _ _ _ _ n=>n)
  (fun b o hc q=>⟨o,kk b o hc q⟩) (fun _ _ q=>q) (fun _ _ _ q=>q) (fun b ps q=>⟨#[],by rw[q];simp⟩) (fun m hm=>?_) (fun b u q=>?_) I.bare
 ·rcases O5.mp hb with z|z
  ·subst z;exact⟨a3,a1,a4,a5⟩
  ·have z:=P0.mp z
   subst z;exact⟨b3,b1,b4,b5⟩
 ·obtain⟨o,es,ep,ho,r⟩:=hm
  exact⟨o,es,ep,k _ o (X4 a1) (X4 b1) ho,r⟩
 ·refine(I.hok b u q).stay (fun c v hc q'=>?_) (fun _ q=>q) fun _ _ q=>q
  rcases hc with z|z
  ·rw[z]at q' ⊢;exact k _ _ (nit b u q).1 (nit b u q).2 q'
  ·exact k c v (nit c _ z).1 (nit c _ z).2 q'
end
def Ite(K:o0) (a:J9) (n:Nat):It :=
 ⟨fun i H=>(∃xs,SqT K H a xs/\xs.length=n)/\i<n,fun i H x H'=>∃T y,x=.ref T/\H T=none/\H'=upd H T (.tup [.int i,y])/\∀xs,SqT K H a xs->xs[i]?=some y,fun i H=>(∃xs,SqT K H a xs/\xs.length=n)/\n<=i⟩
theorem eF.upd{X:Cx}{aa:List (J9×Obj)}{H:Hp}{b T:J9}{o:HO}(f:eF X aa H b) (h:b≠T):eF X aa (upd H T o) b:=by
 obtain⟨f0,r⟩:=f
 exact⟨by rw[aJ h];exact f0,r⟩
theorem wF{P:L1}{w:O4}{K:o0}{elts:List K3}{x1:Nat}{pt:Pos}(a e it:J9) (n:Nat):kF P w K (.Tuple elts x1 pt) (Ite K a n) [e,it] e (fun i h=>(∃old,IsEnum h e it i old)/\h.IsTupleIter it a i/\e≠it/\i<=n) where
 mem:=by simp
 obj:=fun i h st b hb=>by
  rcases O5.mp hb with z|z
  ·subst z
   obtain⟨⟨old,q⟩,_⟩:=st
   exact⟨_,q,fun v z=>by cases z⟩
  ·have z:=P0.mp z
   subst z
   obtain⟨_,⟨o,q,c,d⟩,_⟩:=st
   exact⟨o,q,fun v z=>by rw[d]at z;cases z⟩
 keep:=fun i h h' st k=>by
  obtain⟨⟨old,q⟩,⟨o,q2,r⟩,ne,le⟩:=st
  exact⟨⟨old,k e (by simp) _ q⟩,⟨o,k it (by simp) o q2,r⟩,ne,le⟩
 item:=by
  intro X hP hw hK hc i aa s σ H E I hf st hg
  subst hP hw hK
  obtain⟨⟨xs,hq,hxl⟩,hin⟩:=hg
  have hx:xs[i]?=some (xs[i]'(by omega)):=by simp[hxl,hin]
  generalize xs[i]'(by omega)=x at hx
  obtain⟨⟨old,he⟩,hit,hne,hle⟩:=st
  obtain⟨its,rv,p,hz⟩:=I.tuple hq
  obtain⟨u,hu,ru⟩:=rv.get hx
  have hT:s.heap.IsTuple a its.toArray:=p
  have hal:a≠it:=fun z=>by
   obtain⟨o,q,c,_⟩:=hT
   obtain⟨o',q',c',_⟩:=hit
   rw[z,q']at q;cases q;rw[c']at c;exact absurd c (by decide)
  have hea:e≠a:=fun z=>by
   obtain⟨o,q,c,_⟩:=hT
   rw[<-z,he]at q;cases q;exact absurd (show X9 "enumerate"=X9 "tuple" from c) (by decide)
  have fe:=hf e (by simp)
  have fi:=hf it (by simp)
  have hlt:i<its.toArray.size:=by
   have h1:=(N0.mp hu).1
   simpa using h1
  have eT:e<s.heap.objs.size:=J8 he
  have iT:it<s.heap.objs.size:=by obtain⟨o,q,_⟩:=hit;exact J8 q
  refine wpAny_pyNext_enum_itemD (pQ (A:=X.A.in1) (I.ok.hd hc) it a hal its.toArray) he ⟨hit,hT⟩ hlt hne (by simp[hne,hea]) fun y h1 tk hy hout hst hTn hsz hk=>?_
  have ey:y=u:=by
   have h2:its[i]?=some y:=by simpa using hy
   rw[hu]at h2;cases h2;rfl
  subst ey
  refine⟨_,rfl,?_⟩
  have In:H s.heap.objs.size=none:=I.hok.fresh (J6 _)
  have I1:Inv X aa σ (upd H s.heap.objs.size (.tup [.int i,x])) { s with heap:=s.heap.push { cls:=.type "tuple",data:=.seq #[.int i tk,y] },toks:=tk+1 } :=
   I.laid (fun b o q=>J0 _ q) (J6 _) ⟨by simp only[N8,Y4];rw[ab5];decide,[.int i tk,y],.cons ⟨_,rfl⟩ (.cons ru .nil),⟨_,J7 s.heap rfl,rfl,⟨0,rfl⟩,rfl⟩⟩
  have fe1:eF X aa (upd H s.heap.objs.size (.tup [.int i,x])) e:=fe.upd (K2 eT)
  have fi1:eF X aa (upd H s.heap.objs.size (.tup [.int i,x])) it:=fi.upd (K2 iT)
  have I2:Inv X aa σ (upd H s.heap.objs.size (.tup [.int i,x])) { s with heap:=h1,toks:=tk+1 }:=I1.turned2 (t':=tk+1) (fun b o hb1 hb2 q=>by
   by_cases hbs:b=s.heap.objs.size
   ·subst hbs
    rw[J7 s.heap rfl]at q
    cases q
    exact hTn
   ·refine hk b o hb1 hb2 ?_
    rcases L7.get?_push_cases q with z|z
    ·exact absurd z.1 hbs
    ·exact z) fe1 fi1
  refine wpAny_letOwnedTupleGo_enum hout fun h2 he2 hs2=>?_
  obtain⟨g0,g1,g2,g3,g4,g5⟩:=fe1
  have I3:=I2.turned (t':=tk+1) (h':=h2) (it:=e) (fun b o hb q=>(hs2.2 b hb).trans q) g0 g1 g3 g4 g5
  refine⟨.ref s.heap.objs.size,_,I3,rfl,⟨_,x,rfl,In,rfl,fun ys hys=>by rw[I.tuple_inj hys hq];exact hx⟩,⟨⟨y,by simpa using he2⟩,?_,hne,hin⟩,fun b hb=>?_⟩
  ·obtain⟨o,q,r⟩:=hst.1
   exact⟨o,(hs2.2 it (X4 hne)).trans q,r⟩
  ·rcases O5.mp hb with z|z
   ·subst z;exact g0
   ·rw[P0.mp z];exact fi1.1
 done:=by
  intro X hP hw hK hc i aa s σ H E I hf st hg
  subst hP hw hK
  obtain⟨⟨xs,hq,hxl⟩,hx⟩:=hg
  obtain⟨⟨old,he⟩,hit,hne,hle⟩:=st
  obtain⟨its,rv,p,hz⟩:=I.tuple hq
  have hT:s.heap.IsTuple a its.toArray:=p
  have hal:a≠it:=fun z=>by
   obtain⟨o,q,c,_⟩:=hT
   obtain⟨o',q',c',_⟩:=hit
   rw[z,q']at q;cases q;rw[c']at c;exact absurd c (by decide)
  obtain⟨f0,f1,f2,f3,f4,f5⟩:=hf it (by simp)
  have hl:=rv.length
  have hi:i=its.toArray.size:=by simp;omega
  rw[hi]at hit
  exact wpAny_pyNext_enum_endD (pQ (A:=X.A.in1) (I.ok.hd hc) it a hal its.toArray) he ⟨hit,hT⟩ fun h' eb=>⟨rfl,I.turned (t':=s.toks) (fun b o hb q=>eb b o hb q) f0 f1 f3 f4 f5⟩
 self:=fun _ _ _ _ _ st h=>by
  obtain⟨⟨old,he⟩,_⟩:=st
  exact wpAny_pyIter_enum he h
section
variable{X:Cx}{a:K3}{t:TAd}{pos:Pos}
def oB(n:Nat):List D->List D
 |[]=>[]
 |d::r=>.tup [.int n,d]::oB (n+1) r
theorem tQ:∀(ds:List D) (n i:Nat),(oB n ds)[i]?=(ds[i]?).map fun d=>.tup [.int ((n+i:Nat):Int),d]
 |[],n,i=>by simp[oB]
 |d::r,n,0=>by simp[oB]
 |d::r,n,i+1=>by
  simp only[oB,List.getElem?_cons_succ]
  rw[tQ r (n+1) i]
  have:n+1+i=n+(i+1):=by omega
  rw[this]
theorem rY:∀(ds:List D) (n:Nat),(oB n ds).length=ds.length
 |[],_=>rfl
 |d::r,n=>by simp[oB,rY r (n+1)]
def qJ(ta:TAd):TId:=fun Δ M R=>ta Δ M fun ds M1=>∃es,ds=[.tup es]/\(es.length<=J1->R (oB 0 es) M1)
theorem mm:P9 "enumerate"=some (.type "enumerate"):=by kernel_rfl
theorem DQ{elts:List K3}{x1:Nat}{pt p:Pos}(hg:Gl X "enumerate") (hm:X.mg "enumerate"=none) (ha:PAd X [a] t) (hs:J5 [a] X.env=[(false,T4 a X.env)]:=by rfl):PId X (.Tuple elts x1 pt) (.Call (.Name "enumerate" p) [a] [] pos) (qJ t):=by
 intro aa s σ H R I hh
 obtain⟨Δ,M,R',sr,hr,q,k⟩:=hh
 refine Call_ (fZ I hg hm mm (R0 (thn (ha pos aa s σ H (fun vs H1=>∃es M1,am X.K M1 H1 [.tup es] vs/\(es.length<=J1->R' (oB 0 es) M1)/\Ext M H M1 H1/\HR X.K M1 H1) I ⟨Δ,M,_,sr,hr,q,fun ds M1 vs H1 ⟨es,ed,q1⟩ e1 hr1 rv=>⟨es,M1,by rw[<-ed];exact rv,q1,e1,hr1⟩⟩) fun us s1 ⟨vs,H1,I1,r1,es,M1,rv,q1,e1,hr1⟩=>?_) hs rfl))
 obtain⟨v,rfl,rt⟩:=rv.one
 cases r1 with
 |cons r rr =>
  cases rr
  have lo:=aQ.len (K:=X.K) I1 rt
  simp only[Rep]at rt
  obtain⟨ad,vs,rfl,ta,rl⟩:=rt
  cases r
  obtain⟨its,rvv,pt',hz⟩:=I1.tuple ta.sq
  have hl2:=rl.length
  refine lG (show s1.heap.IsTuple ad its.toArray from pt') fun h' he hit hsz hk=>?_
  refine wpAny_pyIter_enum he ?_
  refine⟨s1.heap.objs.size+1,[s1.heap.objs.size+1,s1.heap.objs.size],_,_,H1,rfl,I1.kept (t':=s1.toks) hk,wF ad _ _ es.length,⟨⟨_,he⟩,hit,Nat.succ_ne_self _,U4 _⟩,fun b hb=>?_,?_⟩
  ·rcases O5.mp hb with z|z
   ·subst z;exact I1.fpOk (by omega) (I1.hok.fresh (by omega))
   ·rw[P0.mp z];exact I1.fpOk (J6 _) (I1.hok.fresh (J6 _))
  ·refine k _ M1 _ H1 (q1 lo) e1 hr1 fun M2 H2 e2 hr2 i=>⟨fun d hd=>?_,fun hl=>⟨⟨vs,(ta.ext e2).sq,by omega⟩,by rw[rY]at hl;exact hl⟩⟩
   rw[tQ]at hd
   cases hdi:es[i]? with
   |none=>rw[hdi]at hd;cases hd
   |some d0 =>
    rw[hdi]at hd
    have hd':D.tup [.int ((0+i:Nat):Int),d0]=d:=by simpa using hd
    subst hd'
    have hi:i<es.length:=(N0.mp hdi).1
    obtain⟨v0,gv,r0⟩:=rl.get hdi
    refine⟨⟨⟨vs,(ta.ext e2).sq,by omega⟩,hi⟩,fun x H' ⟨T,y,ex,hT,eH,hy⟩=>?_⟩
    subst ex;subst eH
    have hh:=hy vs (ta.ext e2).sq
    rw[gv]at hh;cases hh
    refine⟨Ext.new hr2 hT,hr2.new hT,?_⟩
    simp only[Rep]
    refine⟨T,[.int i,v0],rfl,.inl ⟨.inl aC,hr2.fresh hT⟩,?_⟩
    exact am.cons (by simp[Rep]) (am.cons ((r0.ext e2).ext (Ext.new hr2 hT)) am.nil)
theorem vD{elts:List K3}{x1:Nat}{pt p:Pos}(hg:Gl X "enumerate") (hm:X.mg "enumerate"=none) (ha:QAd X [a] t) (hs:J5 [a] X.env=[(false,T4 a X.env)]:=by rfl):QId X (.Tuple elts x1 pt) (.Call (.Name "enumerate" p) [a] [] pos) (qJ t):=by
 simp only[QEd.eq,QAd.eq,QTd.eq,QWd.eq,QSd.eq,QSs.eq,QId.eq,QIf.eq,QOd.eq]at *
 exact DQ hg hm ha hs
end
section
variable{X:Cx}{pos:Pos}
/-! ### xs[lo:hi]=ys -/
/-! ### list(tuple) as a list of our own -/
theorem E8{i j:Int}:dmD [.int i,.int j]=if p6 i j then some (.tup [.int (i / j),.int (i % j)])else none:=rfl
theorem AF{i j:Int}:HS [.int i,.int j]=some (.int (if j > i then j else i)):=rfl
theorem yE:tD 10 60=True:=by simp[tD]
theorem Ek{x:Int}(h0:-(10 ^ 60)<x) (h1:x<10 ^ 60):Few x:=by
 unfold Few
 rw[intBits_le_iff]
 have h2:x.natAbs<10 ^ 60:=by omega
 exact K1 h2 (M9 (by decide:10 ^ 60<=2 ^ 200) (Nat.pow_le_pow_right (by decide) (by decide)))
theorem Ga{i j:Int}(h:Few i/\Few j):jo i j=True:=by simp[jo,h]
end
section
variable{X:Cx}{e:K3}{te ts:TEd}{pos:Pos}
/-! ### xs[::-1] of a list -/
end
/-! ### tables of deep data -/
section
variable{κ:Type} [DecidableEq κ]
def bq(kvs:List (κ×D)) (k:κ):Option D:=(kvs.find? fun kv=>decide (kv.1=k)).map (·.2)
def fw(kvs:List (κ×D)) (k:κ) (v:D):List (κ×D) :=
 if(kvs.any fun kv=>decide (kv.1=k))=true then kvs.map (fun kv=>if kv.1=k then(kv.1,v)else kv)else kvs++[(k,v)]
theorem bX{p:κ×D}{r:List (κ×D)}{k:κ}(e:p.1=k):bq (p::r) k=some p.2:=by simp[bq,R1,e]
theorem bU{p:κ×D}{r:List (κ×D)}{k:κ}(e:¬ p.1=k):bq (p::r) k=bq r k:=by simp[bq,R1,e]
theorem mJ(k:κ):∀kvs:List (κ×D),(kvs.any fun kv=>decide (kv.1=k))=(bq kvs k).isSome
 |[]=>rfl
 |p::r=>by
  rw[P6]
  by_cases e:p.1=k
  ·simp only[bX e,decide_eq_true e,Bool.true_or,Option.isSome_some]
  ·rw[bU e,decide_eq_false e,Bool.false_or];exact mJ k r
theorem sG(k j:κ) (y:D):∀kvs:List (κ×D),bq (kvs.map fun kv=>if kv.1=k then(kv.1,y)else kv) j=(bq kvs j).map fun x=>if j=k then y else x
 |[]=>rfl
 |p::r=>by
  have ih:=sG k j y r
  rw[L3]
  by_cases h:p.1=k
  ·rw[if_pos h]
   by_cases e:p.1=j
   ·rw[bX (p:=(p.1,y)) e,bX e,Y7,if_pos (e.symm.trans h)]
   ·rw[bU (p:=(p.1,y)) e,bU e,ih]
  ·rw[if_neg h]
   by_cases e:p.1=j
   ·rw[bX (p:=p) e,bX e,Y7,if_neg (fun z=>h (e.trans z))]
   ·rw[bU (p:=p) e,bU e,ih]
theorem o6(k j:κ) (y:D):∀kvs:List (κ×D),bq kvs k=none->bq (kvs++[(k,y)]) j=if j=k then some y else bq kvs j
 |[],_=>by
  by_cases e:k=j
  ·rw[if_pos e.symm];exact bX (p:=(k,y)) e
  ·rw[if_neg (fun z=>e z.symm)];exact bU (p:=(k,y)) e
 |p::r,hn=>by
  rw[List.cons_append]
  have hk:¬ p.1=k:=fun z=>by rw[bX z]at hn;cases hn
  rw[bU hk]at hn
  have ih:=o6 k j y r hn
  by_cases e:p.1=j
  ·rw[bX e,bX e,if_neg (fun z=>hk (e.trans z))]
  ·rw[bU e,bU e,ih]
theorem md(kvs:List (κ×D)) (k j:κ) (y:D):bq (fw kvs k y) j=if j=k then some y else bq kvs j:=by
 unfold fw
 by_cases a:(kvs.any fun kv=>decide (kv.1=k))=true
 ·rw[if_pos a,sG]
  rw[mJ]at a
  by_cases e:j=k
  ·obtain⟨x,hx⟩:=S1.mp a
   rw[if_pos e,e,hx,Y7,if_pos rfl]
  ·rw[if_neg e]
   cases bq kvs j with
   |none=>rfl
   |some x=>rw[Y7,if_neg e]
 ·rw[if_neg a]
  refine o6 k j y kvs ?_
  rw[mJ]at a
  cases q:bq kvs k with
  |none=>rfl
  |some x=>rw[q]at a;exact(a rfl).elim
theorem k5(kvs:List (κ×D)) (k:κ) (v:D):(fw kvs k v).length<=kvs.length+1:=by
 unfold fw
 split
 ·rw[U3];omega
 ·rw[O2,N8,Y4];omega
variable{K:o0}{M:DH}{H:Hp}
theorem KR.val{kvs:List (κ×D)}{ks:List (κ×V)}(h:KR K M H kvs ks) (k:κ):(∀d,bq kvs k=some d->∃v,fE ks k=some v/\Rep K M H d v)/\(fE ks k).isSome=(bq kvs k).isSome:=by
 unfold KR at h
 induction h with
 |nil=>exact⟨fun d e=>(nomatch e),rfl⟩
 |@cons p q ps qs r t ih =>
  by_cases e:p.1=k
  ·rw[bX e,jv (r.1.symm.trans e)]
   exact⟨fun d z=>(by cases z;exact⟨_,rfl,r.2⟩),rfl⟩
  ·rw[bU e,jI (fun z=>e (r.1.trans z))];exact ih
theorem KR.any{kvs:List (κ×D)}{ks:List (κ×V)}(h:KR K M H kvs ks) (k:κ):(ks.any fun kv=>decide (kv.1=k))=kvs.any fun kv=>decide (kv.1=k):=by
 unfold KR at h
 induction h with
 |nil=>rfl
 |cons r _ ih=>rw[P6,P6,ih,r.1]
theorem KR.length{kvs:List (κ×D)}{ks:List (κ×V)}(h:KR K M H kvs ks):kvs.length=ks.length:=Z3 h
theorem KR.put{kvs:List (κ×D)}{ks:List (κ×V)}(h:KR K M H kvs ks) (k:κ) {d:D}{v:V}(r:Rep K M H d v):KR K M H (fw kvs k d) (dS ks k v):=by
 unfold fw dS
 rw[h.any k]
 by_cases e:(kvs.any fun kv=>decide (kv.1=k))=true
 ·rw[if_pos e,if_pos e]
  clear e
  unfold KR at h ⊢
  induction h with
  |nil=>exact .nil
  |@cons p q ps qs r1 t ih =>
   rw[L3,L3]
   refine .cons ?_ ih
   by_cases e:p.1=k
   ·rw[if_pos e,if_pos (r1.1.symm.trans e)];exact⟨r1.1,r⟩
   ·rw[if_neg e,if_neg (fun z=>e (r1.1.trans z))];exact r1
 ·rw[if_neg e,if_neg e];exact Q7.snoc h ⟨rfl,r⟩
end
def kD:Key->D
 |.inl i=>.int i
 |.inr x=>.str x
theorem nO{K:o0}{M:DH}{H:Hp}{k:Key}{v:V}(h:Rep K M H (kD k) v):v=kV k:=by
 cases k<;>simpa[kD,Rep,kV]using h
theorem jD{K:o0}{M:DH}{H:Hp}:∀{ks:List Key}{vs:List V},am K M H (ks.map kD) vs->vs=ks.map kV
 |[],_,h=>by simpa[am]using h
 |k::ks,_,h=>by
  simp only[L3,am]at h
  obtain⟨v,ws,rfl,h1,h2⟩:=h
  rw[nO h1,jD h2];rfl
section
variable{X:Cx}{a b c e o i:K3}{es:List K3}{te to ti ta tb:TEd}{t:TAd}{pos:Pos}
/-! new dicts -/
def dDT:TEd:=fun _ M Q=>∀p,M p=none->Q (.ref p) (au M p (.dT []))
def Ay(tk tv:TEd):TEd:=fun Δ M Q=>∀p,M p=none->tk Δ (au M p (.dK [])) fun x M1=>tv Δ M1 fun y M2=>∃k,x=kD k/\M2 p=some (.dK [])/\Q (.ref p) (au M2 p (.dK [(k,y)]))
/-! d[k],k a scalar;d[x,y] -/
/-! k in d,(x,y)in d -/
def AD(neg:Bool) (ty td:TE):TE:=fun σ H Q=>ty σ H fun y H1=>td σ H1 fun x H2=>∃a o,x=.ref a/\jh H2 a y o/\Q (.bl (xor neg o.isSome)) H2
theorem xM{ty td:TE}{op:ac2}{neg:Bool}(hop:op=(if neg then .NotIn else .In)) (hu:X.A.units+1<Z6) (hi:PE X i ty) (ho:PE X o td):PC X op i o (AD neg ty td):=by
 subst hop
 cases neg with
 |false =>
  intro aa s σ H Q I h
  exact Fd hu hi ho aa s σ H Q I (by simpa[AD,G2]using h)
 |true =>
  intro aa s σ H Q I h
  exact xm hu hi ho aa s σ H Q I (by simpa[AD,vk]using h)
def B6(neg:Bool) (t:TAd) (to:TEd):TEd:=fun Δ M Q=>t Δ M fun ds M1=>ds.length<=J1/\to Δ M1 fun x M2=>∃a kvs ks,x=.ref a/\M2 a=some (.dT kvs)/\ds=ks.map kD/\Q (.bl (xor neg (bq kvs ks).isSome)) M2
theorem sN{K:o0}{neg:Bool}:∀ σ H Q,up K (B6 neg t to) σ H Q->AD neg (Gk (upA K t)) (up K to) σ H Q:=fun σ H Q hup=>hup.el fun Δ M R sr hr q k=>⟨Δ,M,_,sr,hr,q,fun ds M1 vs H1 ⟨z,q1⟩ e1 hr1 rv=>⟨by rw[<-rv.length];exact z,fun p hp=>⟨Δ,M1,_,(sr.ext e1).ext (Ext.new hr1 hp),hr1.new hp,q1,fun x M2 u H2 ⟨a,kvs,ky,ex,em,ey,q2⟩ e2 hr2 ru=>by
  subst ex;subst ey
  simp only[Rep]at ru
  subst ru
  obtain⟨ks,h2,kr⟩:=hr2 a _ em
  have eb:=(e2 p _ aC (hr1.fresh hp)).1
  rw[jD rv]at eb
  refine⟨a,fE ks ky,rfl,jh.t h2 eb,?_⟩
  rw[(kr.val ky).2]
  exact k _ M2 _ H2 q2 ((e1.trans (Ext.new hr1 hp)).trans e2) hr2 (by simp only[Rep])⟩⟩⟩
theorem HQ{K:o0}{te:TEd}{tv:TE}(h:∀ σ H Q,up K te σ H Q->tv σ H Q):∀ σ H Q,upT K (ow te) σ H Q->tB tv σ H Q:=fun σ H Q hup=>hup.el fun Δ M R sr hr q k =>
 h σ H _ ⟨Δ,M,_,sr,hr,q,fun d M1 v H1 ⟨b,e,q1⟩ e1 hr1 rv=>⟨b,by subst e;simpa only[Rep]using rv,k b M1 H1 q1 e1 hr1⟩⟩
/-! d[k]=v,d[x,y]=v -/
def vX(to ti te:TEd):TSd:=fun E Δ M=>te Δ M fun d M1=>to Δ M1 fun x M2=>ti Δ M2 fun y M3=>∃a kvs k,x=.ref a/\M3 a=some (.dK kvs)/\y=kD k/\kvs.length<J1/\E.nx Δ (au M3 a (.dK (fw kvs k d)))
def CH(to:TEd) (t:TAd) (te:TEd):TSd:=fun E Δ M=>te Δ M fun d M1=>to Δ M1 fun x M2=>t Δ M2 fun ds M3=>ds.length<=J1/\∃a kvs ks,x=.ref a/\M3 a=some (.dT kvs)/\ds=ks.map kD/\kvs.length<J1/\E.nx Δ (au M3 a (.dT (fw kvs ks d)))
/-! d.get((x,y),z) -/
end
section
variable{X:Cx}{a b c e o:K3}{es:List K3}{te to:TEd}{t:TAd}{pos:Pos}{tg:K3}
/-! min,sum -/
def Hj:List D->Option D
 |[.int i,.int j]=>some (.int (if j<i then j else i))
 |_=>none
def gb:List D->Option (List Int)
 |[]=>some []
 |.int i::ds=>(gb ds).map (i::·)
 |_=>none
theorem m7:∀{ns:List Int},gb (ns.map D.int)=some ns
 |[]=>rfl
 |n::ns=>by simp[gb,m7 (ns:=ns)]
theorem pJ{K:o0}{M:DH}{H:Hp}:∀{ds:List D}{ns:List Int}{vs:List V}{us:List s0},gb ds=some ns->am K M H ds vs->az vs us->∃xs:Array (Int×Tok),us.toArray=intItems xs/\xs.toList.map (·.1)=ns
 |[],_,_,_,e,h,r=>by
  simp only[gb,N6.injEq]at e;subst e
  simp only[am]at h;subst h
  cases r
  exact⟨#[],by simp[intItems],rfl⟩
 |.int i::ds,ns,vs,us,e,h,r=>by
  simp only[gb]at e
  cases q:gb ds with
  |none=>rw[q]at e;cases e
  |some ms =>
   rw[q]at e;cases e
   simp only[am]at h
   obtain⟨v,ws,rfl,h1,h2⟩:=h
   simp only[Rep]at h1;subst h1
   cases r with
   |@cons x u xs' us' r1 r2 =>
    obtain⟨t,rfl⟩:=r1
    obtain⟨ys,e1,e2⟩:=pJ q h2 r2
    refine⟨(((i,t)::ys.toList)).toArray,?_,by simp[e2]⟩
    have:us'=(intItems ys).toList:=by rw[<-e1]
    rw[this]
    simp[intItems]
 |.non::_,_,_,_,e,_,_=>by cases e
 |.bl _::_,_,_,_,e,_,_=>by cases e
 |.str _::_,_,_,_,e,_,_=>by cases e
 |.tup _::_,_,_,_,e,_,_=>by cases e
 |.lst _::_,_,_,_,e,_,_=>by cases e
 |.scr _::_,_,_,_,e,_,_=>by cases e
 |.emp::_,_,_,_,e,_,_=>by cases e
 |.box _ _::_,_,_,_,e,_,_=>by cases e
 |.ref _::_,_,_,_,e,_,_=>by cases e
/-! xs.pop(),xs.extend(ys) -/
/-! range(a,b,c),c a written step -/
def E3(lo c:Int) (n:Nat):It:=⟨fun i _=>i<n,fun i H x H'=>H'=H/\x=.int (lo+i*c),fun i _=>n<=i⟩
theorem sH{P:L1}{w:O4}{K:o0}{tg:K3}(it:J9) (lo c:Int) (n:Nat):kF P w K tg (E3 lo c n) [it] it (fun i h=>ab4 h it (lo+(i:Nat)*c) ((n:Int)-(i:Nat)) c) where
 mem:=by simp
 obj:=fun i h st b hb=>by
  have e:b=it:=by simpa using hb
  subst e
  exact⟨_,st,fun v z=>by
   have z':Data.fields _=Data.cell v:=z
   cases z'⟩
 keep:=fun i h h' st k=>k it (by simp) _ st
 item:=by
  intro X hP hw hK hc i aa s σ H E I hf st hg
  subst hP hw hK
  obtain⟨f0,f1,f2,f3,f4,f5⟩:=hf it (by simp)
  have W:=Walks.range (prog:=X.prog) (w:=X.w) (I.ok.hd hc) it lo c n
  refine W.item i s _ _ hg st fun v h' tk hv st' kk=>?_
  obtain⟨t,rfl⟩:=hv
  have I1:Inv X aa σ H { s with heap:=h',toks:=tk }:=I.turned (fun b o hb e=>kk b o (by simpa using hb) e) f0 f1 f3 f4 f5
  exact⟨_,rfl,pC (s:={ s with heap:=h',toks:=tk }) (n:="range_iterator") st' rfl rfl (by decide) ⟨.int (lo+i*c),H,I1,⟨t,rfl⟩,⟨rfl,rfl⟩,st',fun b hb=>(hf b hb).1⟩⟩
 done:=by
  intro X hP hw hK hc i aa s σ H E I hf st hg
  subst hP hw hK
  obtain⟨f0,f1,f2,f3,f4,f5⟩:=hf it (by simp)
  exact wpAny_pyNext_range_end (I.ok.hd hc) st (by have:n<=i:=hg;omega) fun h' eb=>⟨rfl,I.turned (t':=s.toks) (fun b o hb e=>eb b o hb e) f0 f1 f3 f4 f5⟩
 self:=fun _ _ _ _ _ st h=>wpAny_pyIter_rangeiter st h
def szR(a b c:Int):Nat:=(O8 a b c).toNat
def FL(ta:TA):TI:=fun σ H R=>ta σ H fun vs H1=>∃i j c:Int,vs=[.int i,.int j,.int c]/\c≠0/\(-(2 ^ 20)<=i/\i<2 ^ 20/\-(2 ^ 20)<=j/\j<2 ^ 20/\-(2 ^ 20)<=c/\c<2 ^ 20)/\K5.Range.small i j c=true/\R (E3 i c (szR i j c)) H1
theorem Bc{a b c:Int}(hc:c≠0):0<=O8 a b c:=by
 unfold O8
 split
 ·split
  ·have:=Int.ediv_nonneg (a:=b-a-1) (b:=c) (by omega) (by omega);omega
  ·omega
 ·split
  ·have:=Int.ediv_nonneg (a:=a-b-1) (b:=-c) (by omega) (by omega);omega
  ·omega
theorem wk{ta:TA}{p:Pos}(hg:Gl X "range") (hm:X.mg "range"=none) (ha:PA X [a,b,c] ta) (hs:J5 [a,b,c] X.env=[(false,T4 a X.env),(false,T4 b X.env),(false,T4 c X.env)]:=by rfl)
  (hs2:J5 [b,c] X.env=[(false,T4 b X.env),(false,T4 c X.env)]:=by rfl):PI X tg (.Call (.Name "range" p) [a,b,c] [] pos) (FL ta):=by
 intro aa s σ H R I h
 refine Call_ (fZ I hg hm boot_range (R0 (thn (ha pos aa s σ H _ I h) fun us s1 hup=>hup.el fun vs H1 I1 r1 q1=>?_) (by rw[hs,hs2]) (by rw[hs2];rfl)))
 obtain⟨i,j,st,e,hc,⟨b1,b2,b3,b4,b5,b6⟩,hsm,q⟩:=q1
 subst e
 cases r1 with
 |cons r rr =>
  cases rr with
  |cons r' rr =>
   cases rr with
   |cons r'' rr =>
    cases rr
    obtain⟨t,rfl⟩:=r
    obtain⟨t',rfl⟩:=r'
    obtain⟨t'',rfl⟩:=r''
    refine call_range_3 hc ?_ (Or.inl (PyProof.noPylong_small (by omega)))
    refine wpAny_pyIter_range (IsRange.new ..) hsm ?_
    have I2:Inv X aa σ H1 { s1 with heap:=s1.heap.push { cls:=.type "range",data:=.fields #[.int i t,.int j t',.int st t''] },toks:=s1.toks }:=I1.kept fun b o e=>J0 _ e
    refine⟨(s1.heap.push { cls:=.type "range",data:=.fields #[.int i t,.int j t',.int st t''] }).objs.size,[(s1.heap.push { cls:=.type "range",data:=.fields #[.int i t,.int j t',.int st t''] }).objs.size],_,_,H1,rfl,
     I2.kept (t':=s1.toks) fun b o e=>J0 _ e,sH _ i st (szR i j st),?_,fun b hb=>?_,q⟩
    ·have e1:i+((0:Nat):Int)*st=i:=by simp
     have e2:((szR i j st:Nat):Int)-((0:Nat):Int)=O8 i j st:=by
      unfold szR
      have:=Bc (a:=i) (b:=j) hc
      omega
     show ab4 _ _ (i+((0:Nat):Int)*st) (((szR i j st:Nat):Int)-((0:Nat):Int)) st
     rw[e1,e2]
     exact J7 _ rfl
    ·have e:b=(s1.heap.push { cls:=.type "range",data:=.fields #[.int i t,.int j t',.int st t''] }).objs.size:=by simpa using hb
     subst e
     exact I2.fpOk (J6 _) (I2.hok.fresh (J6 _))
def qP(lo c:Int) (n:Nat):List D:=(Q0 n).map fun(k:Nat)=>.int (lo+(k:Int)*c)
theorem nk{lo c:Int}{n i:Nat}{d:D}(h:(qP lo c n)[i]?=some d):i<n/\d=.int (lo+i*c):=by
 unfold qP at h
 rw[P4]at h
 by_cases hi:i<n
 ·rw[List.getElem?_range hi]at h;cases h;exact⟨hi,rfl⟩
 ·rw[U5 (by simp;omega)]at h;cases h
theorem B4{K:o0}{lo c:Int}{n:Nat}{M1:DH}{H1:Hp}:ItD K (E3 lo c n) (qP lo c n) M1 H1:=fun M2 H2 e2 hr2 i=>⟨fun d hd=>by
  obtain⟨h1,rfl⟩:=nk hd
  refine⟨h1,fun x H' ⟨eH,y⟩=>?_⟩
  subst eH;subst y
  exact⟨Ext.refl _ _,hr2,by simp[Rep]⟩,fun hl=>by
  show n<=i
  simpa[qP]using hl⟩
def ue(ta:TAd):TId:=fun Δ M R=>ta Δ M fun ds M1=>∃i j c:Int,ds=[.int i,.int j,.int c]/\(c=2∨c=-1)/\(-(2 ^ 20)<=i/\i<2 ^ 20/\-(2 ^ 20)<=j/\j<2 ^ 20)/\R (qP i c (szR i j c)) M1
theorem wy{a b c:Int}(hc:c=2∨c=-1) (ha:-(2 ^ 20)<=a) (ha':a<2 ^ 20) (hb:-(2 ^ 20)<=b) (hb':b<2 ^ 20):K5.Range.small a b c=true:=by
 unfold K5.Range.small O8
 rcases hc with rfl|rfl
 ·simp only[K5.Range.rangeFitsLong,L6,Bool.or_eq_true,decide_eq_true_eq,beq_iff_eq,show(2:Int) > 0 by decide,if_true]
  split<;>omega
 ·simp only[K5.Range.rangeFitsLong,L6,Bool.or_eq_true,decide_eq_true_eq,beq_iff_eq,show ¬ (-1:Int) > 0 by decide,if_false,show(- (-1:Int))=1 from rfl,Int.ediv_one]
  split<;>omega
theorem am.three{K:o0}{M:DH}{H:Hp}{d e f:D}{vs:List V}(h:am K M H [d,e,f] vs):∃v w z,vs=[v,w,z]/\Rep K M H d v/\Rep K M H e w/\Rep K M H f z:=by
 simp only[am]at h
 obtain⟨v,us,rfl,h1,w,ws,rfl,h2,z,zs,rfl,h3,rfl⟩:=h
 exact⟨v,w,z,rfl,h1,h2,h3⟩
theorem EW{ta:TAd}{p:Pos}(hg:Gl X "range") (hm:X.mg "range"=none) (ha:PAd X [a,b,c] ta) (hs:J5 [a,b,c] X.env=[(false,T4 a X.env),(false,T4 b X.env),(false,T4 c X.env)]:=by rfl)
  (hs2:J5 [b,c] X.env=[(false,T4 b X.env),(false,T4 c X.env)]:=by rfl):PId X tg (.Call (.Name "range" p) [a,b,c] [] pos) (ue ta) :=
 (wk hg hm ha hs hs2).conv fun σ H R hup => hup.el fun Δ M R' sr hr q k => ⟨Δ,M,_,sr,hr,q,fun ds M1 vs H1 ⟨i,j,st,ed,h1,h2,q1⟩ e1 hr1 rv => by
  subst ed
  obtain⟨v,w,z,ev,rv1,rv2,rv3⟩:=rv.three
  have ev1:v=.int i:=by simpa only[Rep]using rv1
  have ev2:w=.int j:=by simpa only[Rep]using rv2
  have ev3:z=.int st:=by simpa only[Rep]using rv3
  subst ev1;subst ev2;subst ev3;subst ev
  exact⟨i,j,st,rfl,by omega,⟨h2.1,h2.2.1,h2.2.2.1,h2.2.2.2,by omega,by omega⟩,wy h1 h2.1 h2.2.1 h2.2.2.1 h2.2.2.2,k _ M1 _ H1 q1 e1 hr1 B4⟩⟩
end
/-! ### a Z5 whose own names are cells (another one within reads them) -/
structure Hh(X:Cx) (scope:V3) (cl:List (Str×J9)) (ms:List Bool) (ar:List Str):Prop where
 kind:scope.kind=.function
 names:∀y∈scope.names,y.2=.local->scope.names.lookup y.1=some .local
 cellN:∀y∈scope.names,y.2=.cell->scope.names.lookup y.1=some .cell
 clos:closureFor scope X.env=X5 cl
 sub:∀x c,cl.lookup x=some c->X.env.cells.lookup x=some c
 fre:∀x c,cl.lookup x=some c->scope.names.lookup x=some .free
 has:∀x,scope.names.lookup x=some .free->∃c,cl.lookup x=some c
 fr:∀x,scope.names.lookup x=some .free->X.env.scope.names.lookup x=some .cell∨X.env.scope.names.lookup x=some .free
 mask:∀(i:Nat) (x:Str),ms[i]?=some true->X.N[i]?=some x->scope.names.lookup x=some .free
 mlen:ms.length<=X.N.length
section
variable{X:Cx}{tg iter elt:K3}{pos:Pos}{scope:V3}{cl:List (Str×J9)}{ms:List Bool}{ar:List Str}{ifs:List K3}
/-! the looks at the text -/
end
/-! ### for k in d: d (keys ints and texts) stays as it is from there on -/
theorem vB{P:L1}{w:O4}{k:Key}{v:s0}(h:(aT P w).is k v=true):aD (kV k) v:=by
 rcases bv (show lZ k v=true from h)with⟨i,t,rfl,rfl⟩|⟨x,t,rfl,rfl⟩
 ·exact⟨t,rfl⟩
 ·exact⟨t,rfl⟩
section
variable{X:Cx}{aa:List (J9×Obj)}{σ:St}{H:Hp}{s:I0}{a:J9}{o:Obj}{ks:List (Key×V)}
theorem Inv.freeze(I:Inv X aa σ H s) (e:H a=some (.dK ks)):∃o,s.heap.get? a=some o/\Inv X aa σ (upd H a (.frz o (.dK ks))) s:=by
 obtain⟨o,he⟩:∃o,s.heap.get? a=some o:=by
  obtain⟨_,_,_,_,o,_,_,q,_⟩:=uY I.hok e
  exact⟨o,q⟩
 refine⟨o,he,?_⟩
 have:=I.write (x:=a) (e:=a) (o:=.frz o (.dK ks)) (h':=s.heap) (t':=s.toks) (by rw[e];exact V1) (.inl rfl) (fun b u _ q=>q) ⟨o,he⟩ ⟨he,uY I.hok e⟩
 exact this
end
section
variable{X:Cx}{tg l:K3}{tl:TE}{te:TEd}
theorem KR.keys{K:o0}{M:DH}{H:Hp}{κ:Type}{kvs:List (κ×D)}{ks:List (κ×V)}(h:KR K M H kvs ks):kvs.map (·.1)=ks.map (·.1):=by
 unfold KR at h
 induction h with
 |nil=>rfl
 |cons r _ ih=>rw[L3,L3,ih,r.1]
theorem jg{K:o0}{M:DH}{H:Hp}{k:Key}:Rep K M H (kD k) (kV k):=by cases k<;>simp[kD,kV,Rep]
end
/-! ### x={k: v for ..},the keys tuples of ints and texts -/
end L2
namespace L2
open PySem PySem.W PyProof.Rows
/-! ### the sort of fewer than 64 things,as a tree of questions: what it comes to -/
section
variable{α β:Type}
def tw(n:Nat) (lt:Nat->Nat->Bool):KasT α->(α->Prop)->Prop
 |.ret a,Q=>Q a
 |.ask i j k,Q=>i<n/\j<n/\tw n lt (k (lt i j)) Q
theorem iw{n:Nat}{lt:Nat->Nat->Bool}{f:α->KasT β}{Q:β->Prop}:∀{t:KasT α},tw n lt t (fun a=>tw n lt (f a) Q)->tw n lt (t.bind f) Q
 |.ret _,h=>h
 |.ask _ _ _,h=>⟨h.1,h.2.1,iw h.2.2⟩
theorem yf{n:Nat}{lt:Nat->Nat->Bool}{cmp:Nat->Nat->(Bool->Shared->Prop)->Shared->Prop}{J:Shared->Prop}(hc:∀i j C s,i<n->j<n->J s->(∀s',J s'->C (lt i j) s')->cmp i j C s) {Q:α->Prop}{G:α->Shared->Prop}(hG:∀a s,J s->Q a->G a s) :
  ∀{t:KasT α} {s:Shared},tw n lt t Q->J s->t.kasWp cmp G s
 |.ret _,s,h,hj=>hG _ s hj h
 |.ask i j k,s,h,hj=>hc i j _ s h.1 h.2.1 hj fun s' hj'=>yf hc hG h.2.2 hj'
variable{O:KeyOrd}{key:Nat->O.α}{n:Nat}
def dM(O:KeyOrd) (key:Nat->O.α) (i j:Nat):Bool:=O.blt (key i) (key j)
def C1(O:KeyOrd) (key:Nat->O.α):KeyKind:={ O with keyOf:=fun v=>match v with|.int i _=>some (key i.toNat)|_=>none,dflt:=key 0 }
def ox(p:Array Nat):Array Keyed:=p.map fun(i:Nat)=>((Value.int (i:Int) 0,Value.none):Keyed)
def kp(O:KeyOrd) (key:Nat->O.α) (p:Array Nat) (i:Nat):O.α:=key (p.getD i 0)
theorem nS{p:Array Nat}{i:Nat}(h:i<p.size):KK (C1 O key) (ox p) i=kp O key p i:=by
 unfold KK kp ox
 rw[Array.getElem?_map,Array.getElem?_eq_getElem h]
 simp[C1,Array.getD,h]
theorem AH{p:Array Nat}{i j:Nat}:ox (kas_rev p i j)=mirror (ox p) i j ((j-i) / 2):=by
 unfold ox kas_rev mirror
 exact(kas_swaps_map _ _ _ _ _).symm
theorem Cv{p:Array Nat}{k d:Nat}:ox (bubble p k d)=bubble (ox p) k d:=by
 unfold ox bubble
 exact(kas_swaps_map _ _ _ _ _).symm
theorem tf{p:Array Nat}:(ox p).size=p.size:=by simp[ox]
theorem zh{p:Array Nat}{i j:Nat}:(kas_rev p i j).size=p.size:=mirror_size _ _ _ _
theorem t4{p:Array Nat}{i j k:Nat}(hj:j<=p.size) (hk:k<p.size):kp O key (kas_rev p i j) k=if i<=k/\k<j then kp O key p (i+j-1-k)else kp O key p k:=by
 rw[<-nS (by rw[zh];exact hk),AH,KK_mirror (by rw[tf];exact hj)]
 by_cases h:i<=k/\k<j
 ·rw[if_pos h,if_pos h,nS (by omega)]
 ·rw[if_neg h,if_neg h,nS hk]
theorem y0{p:Array Nat}{src d k:Nat}(hs:src<p.size) (hd:d<=src) (hk:k<p.size):kp O key (bubble p src d) k=if k=src-d then kp O key p src else if src-d<k/\k<=src then kp O key p (k-1)else kp O key p k:=by
 rw[<-nS (by rw[bubble_size];exact hk),Cv,KK_bubble (by rw[tf];exact hs) hd]
 by_cases h1:k=src-d
 ·rw[if_pos h1,if_pos h1,nS hs]
 ·rw[if_neg h1,if_neg h1]
  by_cases h2:src-d<k/\k<=src
  ·rw[if_pos h2,if_pos h2,nS (by omega)]
  ·rw[if_neg h2,if_neg h2,nS hk]
def cD(n:Nat) (p:Array Nat):Prop:=p.toList.Perm (List.range n)
theorem cD.size{p:Array Nat}(h:cD n p):p.size=n:=by
 have:=h.length_eq
 simpa using this
theorem cD.lt{p:Array Nat}(h:cD n p) {i:Nat}(hi:i<n):p.getD i 0<n:=by
 have hs:=h.size
 have e:p.getD i 0=p.toList[i]'(by simp;omega):=by simp[Array.getD,show i<p.size by omega]
 rw[e]
 exact List.mem_range.mp (h.mem_iff.mp (List.getElem_mem _))
theorem cD.rev{p:Array Nat}(h:cD n p) (i j:Nat):cD n (kas_rev p i j):=(Array.perm_iff_toList_perm.mp (mirror_perm p i j _)).trans h
theorem cD.bub{p:Array Nat}(h:cD n p) (i j:Nat):cD n (bubble p i j):=(Array.perm_iff_toList_perm.mp (bubble_perm p i j)).trans h
def c7(O:KeyOrd) (key:Nat->O.α) (p:Array Nat) (k:Nat):Prop:=∀i j,i<=j->j<k->O.kle (kp O key p i) (kp O key p j)
def cM(O:KeyOrd) (key:Nat->O.α) (p:Array Nat) (k:Nat):Prop:=∀i j,i<=j->j<k->O.kle (kp O key p j) (kp O key p i)
theorem c7.more{p:Array Nat}{x:Nat}(h:c7 O key p x) (hx:1<=x) (le:O.kle (kp O key p (x-1)) (kp O key p x)):c7 O key p (x+1):=fun i j hij hj=>by
 rcases Nat.lt_or_ge j x with h1|h1
 ·exact h i j hij h1
 ·obtain rfl:j=x:=by omega
  rcases Nat.lt_or_ge i j with h2|h2
  ·exact KeyOrd.kle_trans (h i (j-1) (by omega) (by omega)) le
  ·obtain rfl:i=j:=by omega
   exact KeyOrd.kle_refl _
theorem cM.more{p:Array Nat}{x:Nat}(h:cM O key p x) (hx:1<=x) (le:O.kle (kp O key p x) (kp O key p (x-1))):cM O key p (x+1):=fun i j hij hj=>by
 rcases Nat.lt_or_ge j x with h1|h1
 ·exact h i j hij h1
 ·obtain rfl:j=x:=by omega
  rcases Nat.lt_or_ge i j with h2|h2
  ·exact KeyOrd.kle_trans le (h i (j-1) (by omega) (by omega))
  ·obtain rfl:i=j:=by omega
   exact KeyOrd.kle_refl _
theorem uh{p:Array Nat}(hp:cD n p):∀{f a:Nat}{Q:Nat->Prop},1<=a->a+f<=n->c7 O key p a ->
  (∀m,a<=m->m<=a+f->c7 O key p m->(m=a+f∨O.klt (kp O key p m) (kp O key p (m-1)))->Q m)->tw n (dM O key) (kas_asc p f a) Q
 |0,a,Q,h1,h2,hs,k=>k a (Nat.le_refl _) (Nat.le_refl _) hs (.inl rfl)
 |f+1,a,Q,h1,h2,hs,k=>by
  refine⟨hp.lt (by omega),hp.lt (by omega),?_⟩
  cases q:dM O key (p.getD a 0) (p.getD (a-1) 0)with
  |true=>exact k a (Nat.le_refl _) (by omega) hs (.inr q)
  |false=>exact uh hp (by omega) (by omega) (hs.more h1 q) fun m m1 m2 ms mo=>k m (by omega) (by omega) ms (mo.imp (fun e=>by omega) id)
theorem jn{p:Array Nat}{i j:Nat}(hj:j<=p.size) (he:∀k,i<=k->k<j->kp O key p k=kp O key p (j-1)) {k:Nat}(hk:k<p.size):kp O key (kas_rev p i j) k=kp O key p k:=by
 rw[t4 hj hk]
 by_cases h:i<=k/\k<j
 ·rw[if_pos h,he _ (by omega) (by omega),he k h.1 h.2]
 ·rw[if_neg h]
theorem lS:∀{f:Nat}{p:Array Nat}{x q:Nat}{Q:Array Nat×Nat×Nat->Prop},cD n p->1<=x->x+f<=n->cM O key p x->q+1<=x->(∀i,x-(q+1)<=i->i<x->kp O key p i=kp O key p (x-1)) ->
  (∀p' m q',cD n p'->1<=m->m<=x+f->cM O key p' m->q'+1<=m->(∀i,m-(q'+1)<=i->i<m->kp O key p' i=kp O key p' (m-1))->Q (p',m,q'))->tw n (dM O key) (kas_desc f p x q) Q
 |0,p,x,q,Q,hp,h1,h2,hs,hq,he,k=>k p x q hp h1 (Nat.le_refl _) hs hq he
 |f+1,p,x,q,Q,hp,h1,h2,hs,hq,he,k=>by
  have hz:=hp.size
  refine⟨hp.lt (by omega),hp.lt (by omega),?_⟩
  cases c:dM O key (p.getD x 0) (p.getD (x-1) 0)with
  |true =>
   have lt:O.klt (kp O key p x) (kp O key p (x-1)):=c
   simp only[if_true]
   by_cases h0:q > 0
   ·rw[if_pos h0]
    have same:∀{i},i<n->kp O key (kas_rev p (x-(q+1)) x) i=kp O key p i:=fun hi=>jn (by omega) he (by omega)
    refine lS (hp.rev _ _) (by omega) (by omega) ?_ (by omega) (fun i i1 i2=>by obtain rfl:i=x:=(by omega);rfl) fun p' m q' a b c' d e g=>k p' m q' a b (by omega) d e g
    refine cM.more (fun i j hij hj=>?_) h1 ?_
    ·rw[same (by omega),same (by omega)];exact hs i j hij hj
    ·rw[same (by omega),same (by omega)];exact KeyOrd.kle_of_klt lt
   ·rw[if_neg h0]
    exact lS hp (by omega) (by omega) (hs.more h1 (KeyOrd.kle_of_klt lt)) (by omega) (fun i i1 i2=>by obtain rfl:i=x:=(by omega);rfl) fun p' m q' a b c' d e g=>k p' m q' a b (by omega) d e g
  |false =>
   simp only[Bool.false_eq_true,if_false]
   refine⟨hp.lt (by omega),hp.lt (by omega),?_⟩
   cases c2:dM O key (p.getD (x-1) 0) (p.getD x 0)with
   |true=>exact k p x q hp h1 (by omega) hs hq he
   |false =>
    simp only[Bool.false_eq_true,if_false]
    have eq:kp O key p x=kp O key p (x-1):=O.total _ _ c c2
    refine lS hp (by omega) (by omega) (hs.more h1 c2) (by omega) (fun i i1 i2=>?_) fun p' m q' a b c' d e g=>k p' m q' a b (by omega) d e g
    rw[show x+1-1=x by omega]
    rcases Nat.lt_or_ge i x with h|h
    ·rw[eq];exact he i (by omega) h
    ·obtain rfl:i=x:=by omega
     rfl
theorem vy{p:Array Nat}{m nrem:Nat}{Q:Nat×Array Nat->Prop}(hp:cD n p) (h1:1<=m) (h2:m<=nrem) (h3:nrem<=n) (hs:cM O key p m)
  (k:∀m' p',cD n p'->1<=m'->m'<=nrem->c7 O key p' m'->Q (m',p')):tw n (dM O key) (kas_tail3 m nrem p) Q:=by
 have hz:=hp.size
 unfold kas_tail3
 refine iw (uh (hp.rev 0 m) h1 (by omega) (fun i j hij hj=>?_) fun m' a b c _=>k m' _ (hp.rev 0 m) (by omega) (by omega) c)
 rw[t4 (by omega) (by omega),t4 (by omega) (by omega),if_pos ⟨by omega,by omega⟩,if_pos ⟨by omega,by omega⟩]
 exact hs _ _ (by omega) (by omega)
theorem lh{p:Array Nat}{m nrem:Nat}{Q:Nat×Array Nat->Prop}(hp:cD n p) (h2:m+1<=nrem) (h3:nrem<=n) (hs:cM O key p (m+1))
  (k:∀m' p',cD n p'->1<=m'->m'<=nrem->c7 O key p' m'->Q (m',p')):tw n (dM O key) (kas_descPart m nrem p) Q:=by
 unfold kas_descPart
 refine iw (lS hp (by omega) (by omega) hs (by omega) (fun i i1 i2=>by obtain rfl:i=m:=(by omega);rfl) fun p' x q' hp' x1 x2 hs' hq he=>?_)
 have hz:=hp'.size
 dsimp only
 by_cases h0:q' > 0
 ·rw[if_pos h0]
  refine vy (hp'.rev _ _) x1 (by omega) h3 (fun i j hij hj=>?_) k
  rw[jn (by omega) he (by omega),jn (by omega) he (by omega)]
  exact hs' i j hij hj
 ·rw[if_neg h0]
  exact vy hp' x1 (by omega) h3 hs' k
theorem ym{p:Array Nat}{nrem:Nat}{Q:Nat×Array Nat->Prop}(hp:cD n p) (h1:1<=nrem) (h3:nrem<=n)
  (k:∀m' p',cD n p'->1<=m'->m'<=nrem->c7 O key p' m'->Q (m',p')):tw n (dM O key) (kas_count nrem p) Q:=by
 have hz:=hp.size
 unfold kas_count
 refine iw (uh hp (Nat.le_refl 1) (by omega) (fun i j hij hj=>by obtain rfl:i=j:=(by omega);exact KeyOrd.kle_refl _) fun m m1 m2 ms mo=>?_)
 by_cases e:m=nrem
 ·rw[if_pos (by simpa using e)]
  exact k m p hp m1 (by omega) ms
 ·rw[if_neg (by simpa using e)]
  have lt:O.klt (kp O key p m) (kp O key p (m-1)):=mo.resolve_left (by omega)
  by_cases g:m > 1
  ·rw[if_pos g]
   refine⟨hp.lt (by omega),hp.lt (by omega),?_⟩
   cases c:dM O key (p.getD 0 0) (p.getD (m-1) 0)with
   |true=>exact k m p hp m1 (by omega) ms
   |false =>
    simp only[Bool.false_eq_true,if_false]
    have like:∀i,0<=i->i<m->kp O key p i=kp O key p (m-1):=fun i _ hi =>
     KeyOrd.kle_antisymm (ms i (m-1) (by omega) (by omega)) (KeyOrd.kle_trans (show O.kle (kp O key p (m-1)) (kp O key p 0)from c) (ms 0 i (by omega) hi))
    have same:∀{i},i<n->kp O key (kas_rev p 0 m) i=kp O key p i:=fun hi=>jn (by omega) like (by omega)
    refine lh (hp.rev _ _) (by omega) h3 (cM.more (fun i j hij hj=>?_) m1 ?_) k
    ·rw[same (by omega),same (by omega),like i (by omega) (by omega),like j (by omega) hj];exact KeyOrd.kle_refl _
    ·rw[same (by omega),same (by omega)];exact KeyOrd.kle_of_klt lt
  ·rw[if_neg g]
   obtain rfl:m=1:=by omega
   refine lh hp (by omega) h3 (cM.more (fun i j hij hj=>by obtain rfl:i=j:=(by omega);exact KeyOrd.kle_refl _) (Nat.le_refl 1) (KeyOrd.kle_of_klt lt)) k
theorem mC{p:Array Nat}(hp:cD n p) {x:Nat}(hx:x<n) (hs:c7 O key p x):∀{f l r:Nat}{Q:Nat->Prop},l<=r->r<=x->r-l<=f ->
  (∀i,i<l->O.kle (kp O key p i) (kp O key p x))->(∀i,r<=i->i<x->O.klt (kp O key p x) (kp O key p i)) ->
  (∀l',l'<=x->(∀i,i<l'->O.kle (kp O key p i) (kp O key p x))->(∀i,l'<=i->i<x->O.klt (kp O key p x) (kp O key p i))->Q l')->tw n (dM O key) (kas_place p x f l r) Q
 |0,l,r,Q,h1,h2,h3,a,b,k=>by
  obtain rfl:l=r:=by omega
  exact k l h2 a b
 |f+1,l,r,Q,h1,h2,h3,a,b,k=>by
  unfold kas_place
  by_cases g:l>=r
  ·rw[if_pos g]
   obtain rfl:l=r:=by omega
   exact k l h2 a b
  ·rw[if_neg g]
   refine⟨hp.lt hx,hp.lt (by omega),?_⟩
   cases c:dM O key (p.getD x 0) (p.getD ((l+r) / 2) 0)with
   |true =>
    simp only[if_true]
    exact mC hp hx hs (by omega) (by omega) (by omega) a (fun i i1 i2=>KeyOrd.klt_of_klt_of_kle (show O.klt (kp O key p x) (kp O key p ((l+r) / 2))from c) (hs _ _ i1 i2)) k
   |false =>
    simp only[Bool.false_eq_true,if_false]
    exact mC hp hx hs (by omega) (by omega) (by omega) (fun i hi=>KeyOrd.kle_trans (hs i ((l+r) / 2) (by omega) (by omega)) (show O.kle (kp O key p ((l+r) / 2)) (kp O key p x)from c)) b k
theorem zF:∀{f:Nat}{p:Array Nat}{x:Nat}{Q:Array Nat->Prop},cD n p->1<=x->x+f<=n->c7 O key p x->(∀p',cD n p'->c7 O key p' (x+f)->Q p')->tw n (dM O key) (kas_bin f p x) Q
 |0,p,x,Q,hp,_,_,hs,k=>k p hp hs
 |f+1,p,x,Q,hp,h1,h2,hs,k=>by
  have hz:=hp.size
  refine iw (mC hp (by omega) hs (Nat.zero_le _) (Nat.le_refl _) (by omega) (fun i hi=>by omega) (fun i a b=>by omega) fun l hl lo hi=>?_)
  refine zF (hp.bub _ _) (by omega) (by omega) (fun i j hij hj=>?_) fun p' a b=>k p' a (by rw[show x+(f+1)=x+1+f by omega];exact b)
  rw[y0 (by omega) (by omega) (by omega),y0 (by omega) (by omega) (by omega),show x-(x-l)=l by omega]
  by_cases a1:i=l
  ·rw[if_pos a1]
   by_cases b1:j=l
   ·rw[if_pos b1];exact KeyOrd.kle_refl _
   ·rw[if_neg b1,if_pos (by omega)];exact KeyOrd.kle_of_klt (hi _ (by omega) (by omega))
  ·rw[if_neg a1]
   by_cases a2:l<i/\i<=x
   ·rw[if_pos a2,if_neg (by omega),if_pos (by omega)];exact hs _ _ (by omega) (by omega)
   ·rw[if_neg a2]
    by_cases b1:j=l
    ·rw[if_pos b1];exact lo _ (by omega)
    ·rw[if_neg b1]
     by_cases b2:l<j/\j<=x
     ·rw[if_pos b2];exact hs _ _ (by omega) (by omega)
     ·rw[if_neg b2];exact hs _ _ hij (by omega)
theorem Cu(h:1<=n) {Q:Array Nat->Prop}(k:∀p,cD n p->c7 O key p n->Q p):tw n (dM O key) (kas_sort n) Q:=by
 have h0:cD n (List.toArray (List.range n)):=List.Perm.refl _
 unfold kas_sort
 refine iw (ym h0 h (Nat.le_refl _) fun m p hp m1 m2 ms=>?_)
 dsimp only
 by_cases g:m<n
 ·rw[if_pos g]
  have e:max m 1=m:=by omega
  rw[e]
  exact zF hp m1 (by omega) ms fun p' a b=>k p' a (by rwa [show m+(n-m)=n by omega]at b)
 ·rw[if_neg g]
  obtain rfl:m=n:=by omega
  exact k p hp ms
end
end L2
namespace L2
open PySem PySem.W PySem.Calls PyProof.Rows
/-! ### sorted,of a list of fewer than 64 things whose questions leave the state as it is -/
section
variable{prog:Program}{w:World}{A:Around}{E:Value->Shared->Prop}{O:KeyOrd}
def ic(vs:List Value) (p:Array Nat):List Value:=p.toList.map fun i=>vs.getD i Value.none
theorem kJ{vs:List Value}{p:Array Nat}(h:cD vs.length p):(ic vs p).length=vs.length:=by
 unfold ic;rw[List.length_map,Array.length_toList];exact h.size
def tJ(x:Addr) (s t:Shared):Prop:=∀b o,b≠x->s.heap.get? b=some o->t.heap.get? b=some o
theorem xV{s:Shared}{x:Addr}{vs:List Value}{n:Nat}{key:Nat->O.α}{κ:SortKind}{P:PySem.Fin->Shared->Prop}(hx:s.heap.get? x=some (seqObj "list" vs.toArray n)) (hz:vs.length<64)
  (hk:∀s1 Q,2<=vs.length->tJ x s s1->Q κ s1->wpAny (model prog w) A (keyKind' vs.toArray) Q (fun _ _=>False) s1)
  (hc:∀i j s1 C,i<vs.length->j<vs.length->tJ x s s1->C (dM O key i j) s1->kas_ask prog w A κ vs i j C s1)
  (k:∀p c h',cD vs.length p->c7 O key p vs.length->(∀b o,b≠x->s.heap.get? b=some o->h'.get? b=some o)->h'.get? x=some (seqObj "list" (ic vs p).toArray c)->P (.done (.ret .none)) { s with heap:=h' }) :
  wpAny (model prog w) A (Builtin.«list.sort» ⟨[.ref x],[]⟩) P E s:=by
 have lx:x<s.heap.objs.size:=Heap.lt_size hx
 obtain⟨c1,h1⟩:∃c,(s.heap.update x (Obj.mapSeq fun _=>#[])).get? x=some (seqObj "list" #[] c):=⟨_,get?_update_seq hx (fun _=>#[])⟩
 rw[list_sort_plain]
 refine wpAny_bind (listItems_at hx rfl (wpAny_bind (listUpdate_at hx rfl (wpAny_bind (seqEpoch_at h1 rfl (wpAny_bind (wpAny_newTuple (wpAny_bind (wpAny_newList (wpAny_holding ?_) (Nat.zero_le _))) ?_)))) ?_ (Nat.zero_le _))))
 rotate_left
 ·show vs.length<=_
  rw[sizeLine_eq];omega
 ·rw[List.size_toArray,sizeLine_eq];omega
 generalize hh:((s.heap.update x (Obj.mapSeq fun _=>#[])).push (seqObj "tuple" vs.toArray 0)).push (seqObj "list" #[] 0)=h2
 show wpAny _ A _ P E { s with heap:=h2 }
 have g2:h2.get? x=some (seqObj "list" #[] c1):=by
  rw[<-hh];exact Heap.get?_push_of_some _ (Heap.get?_push_of_some _ h1)
 have st:tJ x s { s with heap:=h2 }:=fun b o ne e=>by
  show h2.get? b=some o
  rw[<-hh]
  exact Heap.get?_push_of_some _ (Heap.get?_push_of_some _ (by rw[Heap.get?_update_ne _ _ _ _ ne];exact e))
 have fin:∀p,cD vs.length p->c7 O key p vs.length->P (.done (.ret .none)) { s with heap:=h2.update x (Obj.mapSeq fun _=>(ic vs p).toArray) }:=fun p hp hr =>
  k p _ _ hp hr (fun b o ne e=>by rw[Heap.get?_update_ne _ _ _ _ ne];exact st b o ne e) (get?_update_seq g2 fun _=>(ic vs p).toArray)
 dsimp only
 by_cases few:vs.toArray.size<2
 ·rw[if_pos few,if_pos few]
  refine wpAny_bind (wpAny_pure ?_)
  rw[StateT.run_pure]
  refine wpAny_bind (wpAny_pure ?_)
  dsimp only
  have few':vs.length<2:=by rw[List.size_toArray]at few;exact few
  have e0:(arrOf (SortSt.mk' general' (vs.toArray.zip vs.toArray) #[] 7 none)).map (·.2)=(ic vs (List.toArray (List.range vs.length))).toArray:=by
   refine kat_snds rfl ?_
   have e:=kas_range (vs.toArray.zip vs.toArray)
   have z0:(vs.toArray.zip vs.toArray).size=vs.length:=by simp
   rw[z0]at e
   exact e.symm
  rw[e0]
  refine wpAny_bind (seqEpoch_at g2 rfl (wpAny_bind (listUpdate_at g2 rfl ?_ (Nat.zero_le _) ?_)))
  ·simp only[failedOf,bne_self_eq_false,Bool.false_eq_true,if_false]
   exact wpAny_pure (fin _ (List.Perm.refl _) fun i j hij hj=>by
    obtain rfl:i=j:=by omega
    exact KeyOrd.kle_refl _)
  ·rw[List.size_toArray,kJ (show cD vs.length (List.toArray (List.range vs.length))from List.Perm.refl _),sizeLine_eq];omega
 ·rw[if_neg few,if_neg few]
  have two:2<=vs.length:=by rw[List.size_toArray]at few;omega
  refine wpAny_bind (wpAny_mono (hk { s with heap:=h2 } (fun q t=>q=κ/\t=({ s with heap:=h2 }:Shared)) two st ⟨rfl,rfl⟩) ?_ fun _ _ z=>z.elim)
  rintro κ' _ ⟨ek,rfl⟩
  rw[ek]
  have ask:(kas_sort vs.length).kasWp (kas_ask prog w A κ vs) (fun p t=>t=({ s with heap:=h2 }:Shared)/\cD vs.length p/\c7 O key p vs.length) { s with heap:=h2 } :=
   yf (J:=fun t=>t=({ s with heap:=h2 }:Shared)) (lt:=dM O key) (Q:=fun p=>cD vs.length p/\c7 O key p vs.length) (fun i j C t hi hj ht hC=>by subst ht;exact hc i j _ C hi hj st (hC _ rfl)) (fun p t ht hq=>⟨ht,hq⟩) (Cu (by omega) fun p a b=>⟨a,b⟩) rfl
  refine wpAny_bind (wpAny_mono (kat_run (Q:=fun u t=>∃p:Array Nat,arrOf u=p.map (kas_item (vs.toArray.zip vs.toArray))/\failedOf u=none/\t=({ s with heap:=h2 }:Shared)/\cD vs.length p/\c7 O key p vs.length) rfl two hz (fun p u t _ a2 a3 a4=>⟨p,a2,a3,a4⟩) ask) ?_ fun _ _ z=>z)
  rintro⟨⟨⟩,u⟩ t ⟨p,ea,ef,rfl,hp,hr⟩
  dsimp only
  have e0:(arrOf u).map (·.2)=(ic vs p).toArray:=kat_snds rfl ea
  rw[e0]
  refine wpAny_bind (seqEpoch_at g2 rfl (wpAny_bind (listUpdate_at g2 rfl ?_ (Nat.zero_le _) ?_)))
  ·rw[ef]
   simp only[bne_self_eq_false,Bool.false_eq_true,if_false]
   exact wpAny_pure (fin p hp hr)
  ·rw[List.size_toArray,kJ hp,sizeLine_eq];omega
end
/-! ### sorted,of pairs of ints -/
section
variable{X:Cx}{aa:List (Addr×Obj)}{s:Shared}{σ:St}{H:Hp}{M:DH}
theorem ik{us:List Value}{i:Nat}{v:Value}(h:us[i]?=some v):us.getD i Value.none=v:=by
 rw[List.getD_eq_getElem?_getD,h];rfl
def kp_(p:Array Nat) (i:Nat):Nat:=p.getD i 0
theorem pw{vs:List V}{us:List Value}(rv:az vs us):∀{l:List Nat},(∀i∈l,i<vs.length)->az (l.map fun i=>vs.getD i .non) (l.map fun i=>us.getD i Value.none)
 |[],_=>.nil
 |i::l,h=>by
  have hi:=h i (.head _)
  obtain⟨u,g,r⟩:=rv.get (List.getElem?_eq_getElem hi)
  rw[List.map_cons,List.map_cons]
  refine .cons ?_ (pw rv fun j hj=>h j (.tail _ hj))
  rw[ik g,List.getD_eq_getElem?_getD,List.getElem?_eq_getElem hi]
  exact r
end
end L2
namespace L2
open PySem PySem.Spec PyProof.Rows
theorem DP{X:Cx}{pos:Pos}:QEd X (.Dict [] [] pos) dDT:=by
 simp only[QEd.eq]at *
 exact PE.conv xR fun σ H Q hup=>hup.el fun Δ M R sr hr q k=>fun p hp =>
  k _ _ _ _ (q p (hr.fresh hp)) (Ext.own hp) (hr.put (Ext.own hp) ⟨[],aC,.nil⟩) (by simp only[Rep])
theorem B8{X:Cx}{a:Expr}{b:Expr}{ta:TEd}{tb:TEd}{pos:Pos}(ha:QEd X a ta) (hb:QEd X b tb):QEd X (.Dict [some a] [b] pos) (Ay ta tb):=by
 simp only[QEd.eq]at *
 exact PE.conv (AA (Aq ha hb Cy) rfl rfl (by simp) (by simp)) fun σ H Q hup=>hup.el fun Δ M R sr hr q k=>fun p hp=>by
   have e0:Ext M H (au M p (.dK [])) (upd H p (.dK [])):=Ext.own hp
   refine⟨Δ,_,_,sr.ext e0,hr.put e0 ⟨[],aC,.nil⟩,q p (hr.fresh hp),fun x M1 v H1 q1 e1 hr1 rv=>⟨Δ,M1,_,(sr.ext e0).ext e1,hr1,q1,fun y M2 u H2 ⟨ky,ex,em,q2⟩ e2 hr2 ru=>?_⟩⟩
   obtain⟨ks,h2,kr⟩:=hr2 p _ em
   cases kr
   subst ex
   refine⟨h2,[(ky,u)],?_,by simp,?_⟩
   ·rw[nO rv];rfl
   ·have em':jc [] [(ky,u)]=[(ky,u)]:=by simp[jc,dS]
    rw[em']
    have ew:Ext M2 H2 (au M2 p (.dK [(ky,y)])) (upd H2 p (.dK [(ky,u)])):=Ext.write em
    exact k _ _ _ _ q2 ((e0.trans (e1.trans e2)).trans ew) (hr2.put ew ⟨_,aC,.cons ⟨rfl,ru.ext ew⟩ .nil⟩) (by simp only[Rep])
theorem G0{X:Cx}{o:Expr}{es:List Expr}{to:TEd}{t:TAd}{pos:Pos}(neg:Bool) {x1}{p:Pos}{op:CmpOp}(hop:op=(if neg then .NotIn else .In)) (hu:X.A.units+1<cLine) (ht:QAd X es t) (ho:QEd X o to) (hm:behindInMarks op o=false):QEd X (.Compare (.Tuple es x1 p) [op] [o] pos) (B6 neg t to):=by
 simp only[QEd.eq,QAd.eq]at *
 exact PE.conv (Fi (xM hop hu (nL ht) ho) hm) sN
theorem Aa{X:Cx}{o:Expr}{es:List Expr}{to:TEd}{t:TAd}{pos:Pos}(neg:Bool) {x1}{p:Pos}{op:CmpOp}(hop:op=(if neg then .NotIn else .In)) (hu:X.A.units+1<cLine) (ht:QAd X es t) (ho:QEd X o to) (hm:behindInMarks op o=false):QTd X (.Compare (.Tuple es x1 p) [op] [o] pos) (ow (B6 neg t to)):=by
 simp only[QEd.eq,QAd.eq,QTd.eq]at *
 exact PT.conv (EF (xM hop hu (nL ht) ho) hm) (HQ sN)
theorem xS{X:Cx}{e:Expr}{o:Expr}{i:Expr}{te:TEd}{to:TEd}{ti:TEd}{pos:Pos}{p:Pos}(hu:X.A.units+1<cLine) (ho:QEd X o to) (hi:QEd X i ti) (he:QEd X e te) (hs:swapsWith e (some (.Subscript o i p)) pos.line X.env=pure false:=by rfl):QSd X (.Assign [.Subscript o i p] e pos) (vX to ti te):=by
 simp only[QEd.eq,QSd.eq]at *
 exact PS.conv (rg hu ho hi he hs) fun D σ H hup=>hup.el fun Δ M E sr hr q k=>⟨Δ,M,_,sr,hr,q,fun d M1 v H1 q1 e1 hr1 rv=>⟨Δ,M1,_,sr.ext e1,hr1,q1,fun x M2 u H2 q2 e2 hr2 ru=>⟨Δ,M2,_,(sr.ext e1).ext e2,hr2,q2,fun y M3 w H3 ⟨a,kvs,ky,ex,em,ey,hz,q3⟩ e3 hr3 rw_=>by
   subst ex;subst ey
   simp only[Rep]at ru
   subst ru
   obtain⟨ks,h3,kr⟩:=hr3 a _ em
   have ew:Ext M3 H3 (au M3 a (.dK (fw kvs ky d))) (upd H3 a (.dK (dS ks ky v))):=Ext.write em
   refine⟨a,_,rfl,by rw[nO rw_];exact qf.k h3 (by rw[<-kr.length];exact hz),?_⟩
   exact k.nx Δ _ σ _ q3 (((e1.trans e2).trans e3).trans ew) (hr3.put ew ⟨_,aC,(kr.put ky ((rv.ext e2).ext e3)).ext ew⟩) ((((sr.ext e1).ext e2).ext e3).ext ew)⟩⟩⟩
theorem zw{X:Cx}{e:Expr}{o:Expr}{es:List Expr}{te:TEd}{to:TEd}{t:TAd}{pos:Pos}{x1}{p p2:Pos}(hu:X.A.units+1<cLine) (ho:QEd X o to) (ht:QAd X es t) (he:QEd X e te) (hs:swapsWith e (some (.Subscript o (.Tuple es x1 p2) p)) pos.line X.env=pure false:=by rfl):QSd X (.Assign [.Subscript o (.Tuple es x1 p2) p] e pos) (CH to t te):=by
 simp only[QEd.eq,QAd.eq,QSd.eq]at *
 exact PS.conv (rg hu ho (nL ht) he hs) fun D σ H hup=>hup.el fun Δ M E sr hr q k=>⟨Δ,M,_,sr,hr,q,fun d M1 v H1 q1 e1 hr1 rv=>⟨Δ,M1,_,sr.ext e1,hr1,q1,fun x M2 u H2 q2 e2 hr2 ru=>⟨Δ,M2,_,(sr.ext e1).ext e2,hr2,q2,fun ds M3 ws H3 ⟨hl,a,kvs,ky,ex,em,ey,hz,q3⟩ e3 hr3 rw_=>by
   subst ex;subst ey
   simp only[Rep]at ru
   subst ru
   refine⟨by rw[<-rw_.length];exact hl,fun p hp=>?_⟩
   obtain⟨ks,h3,kr⟩:=hr3 a _ em
   have hap:a≠p:=cq h3 hp
   have e4:Ext M3 H3 M3 (upd H3 p (.tup ws)):=Ext.new hr3 hp
   have hr4:=hr3.new (o:=.tup ws) hp
   have ew:Ext M3 (upd H3 p (.tup ws)) (au M3 a (.dT (fw kvs ky d))) (upd (upd H3 p (.tup ws)) a (.dT (dS ks ky v))):=Ext.write em
   have h4:upd H3 p (.tup ws) a=some (.dT ks):=by rw[aJ hap];exact h3
   refine⟨a,_,rfl,qf.t h4 (by rw[aC,jD rw_]) (by rw[<-kr.length];exact hz),?_⟩
   exact k.nx Δ _ σ _ q3 ((((e1.trans e2).trans e3).trans e4).trans ew) (hr4.put ew ⟨_,aC,((kr.ext e4).put ky (((rv.ext e2).ext e3).ext e4)).ext ew⟩) (((((sr.ext e1).ext e2).ext e3).ext e4).ext ew)⟩⟩⟩
theorem vn{X:Cx}{a:Expr}{b:Expr}{c:Expr}{pos:Pos}{tg:Expr}{ta:TAd}{p:Pos}(hg:Gl X "range") (hm:X.mg "range"=none) (ha:QAd X [a,b,c] ta) (hs:starEach [a,b,c] X.env=[(false,eval a X.env),(false,eval b X.env),(false,eval c X.env)]:=by rfl)
  (hs2:starEach [b,c] X.env=[(false,eval b X.env),(false,eval c X.env)]:=by rfl):QId X tg (.Call (.Name "range" p) [a,b,c] [] pos) (ue ta):=by
 simp only[QEd.eq,QAd.eq,QTd.eq,QWd.eq,QSd.eq,QSs.eq,QId.eq,QIf.eq,QOd.eq]at *
 exact EW (hg:=hg) (hm:=hm) (ha:=ha) (hs:=hs) (hs2:=hs2)
theorem cm.units1{k:Nat}{A:Around}(r:cm k A):A.units+1<cLine:=by have:=r.un;omega
theorem GU{i:Int}{P:Key->Prop}:(∃k,D.int i=kD k/\P k)↔P (.inl i) :=
 ⟨fun⟨k,e,h⟩=>match k,e with|.inl _,rfl=>h,fun h=>⟨_,rfl,h⟩⟩
theorem GS{x:Str}{P:Key->Prop}:(∃k,D.str x=kD k/\P k)↔P (.inr x) :=
 ⟨fun⟨k,e,h⟩=>match k,e with|.inr _,rfl=>h,fun h=>⟨_,rfl,h⟩⟩
theorem Di:∀{a b:Key},kD a=kD b->a=b
 |.inl _,.inl _,h=>by cases h;rfl
 |.inr _,.inr _,h=>by cases h;rfl
 |.inl _,.inr _,h=>by cases h
 |.inr _,.inl _,h=>by cases h
theorem uX:∀{a b:List Key},a.map kD=b.map kD->a=b
 |[],[],_=>rfl
 |[],_::_,h=>by cases h
 |_::_,[],h=>by cases h
 |x::xs,y::ys,h=>by
  simp only[List.map_cons,List.cons.injEq]at h
  rw[Di h.1,uX h.2]
theorem C2{a b:Key}{P:List Key->Prop}:(∃ks:List Key,[kD a,kD b]=ks.map kD/\P ks)↔P [a,b] :=
 ⟨fun⟨ks,e,h⟩=>by rw[uX (a:=[a,b]) (b:=ks) (by simpa using e)];exact h,fun h=>⟨_,rfl,h⟩⟩
theorem Ej{i j:Int}{P:List Key->Prop}:(∃ks:List Key,[D.int i,D.int j]=ks.map kD/\P ks)↔P [.inl i,.inl j]:=C2 (a:=.inl i) (b:=.inl j)
theorem Dd{i j:Str}{P:List Key->Prop}:(∃ks:List Key,[D.str i,D.str j]=ks.map kD/\P ks)↔P [.inr i,.inr j]:=C2 (a:=.inr i) (b:=.inr j)
theorem AN{i j:Int}:Hj [.int i,.int j]=some (.int (if j<i then j else i)):=rfl
/-! ### a dict of ours that stands still while an expression is worked out,and is ours again behind it -/
/-! ### [e for k in d],d a dict of ours that e reads and that stays ours -/
/-! ### comprehensions by levels,in deep data -/
abbrev BKd:=DE->DH->List D->(List D->DE->DH->Prop)->Prop
def hJ(g:GD) (tc:TTd) (B:BKd):List D->DE->DH->List D->(List D->DE->DH->Prop)->Prop
 |[],Δ,M,acc,Q=>Q acc Δ M
 |d::ds,Δ,M,acc,Q=>∃ Δ',g d Δ=some Δ'/\tc Δ' M fun b M1=>if b=true then B Δ' M1 acc fun acc' Δ'' M2=>acc'.length<=sizeLine/\hJ g tc B ds Δ'' M2 acc' Q else hJ g tc B ds Δ' M1 acc Q
def nz(te:TEd):BKd:=fun Δ M acc Q=>te Δ M fun y M2=>Q (acc++[y]) Δ M2
def iX(wi:TId) (g:GD) (tc:TTd) (B:BKd):BKd:=fun Δ M acc Q=>wi Δ M fun es M2=>hJ g tc B es Δ M2 acc Q
def upB(K:PySem.W.Frag) (b:BKd):BK:=fun ys σ H Z=>∃(Δ:DE) (M:DH) (acc:List D) (R:List D->DE->DH->Prop),SR K M H σ Δ/\HR K M H/\am K M H acc ys/\acc.length<=sizeLine/\b Δ M acc R /\
 ∀acc' Δ' M' ys' σ' H',R acc' Δ' M'->Ext M H M' H'->HR K M' H'->SR K M' H' σ' Δ'->am K M' H' acc' ys'->Z ys' σ' H'
section
variable{K:PySem.W.Frag}{g:GD}{gv:TG}{tc:TTd}{te:TEd}{wi:TId}{Bd:BKd}{B:BK}
theorem vm{ys:List V}{σ:St}{H:Hp}{Z:List V->St->Hp->Prop}(h:upB K (nz te) ys σ H Z):kY (up K te) ys σ H Z:=by
 obtain⟨Δ,M,acc,R,sr,hr,ra,_,q,k⟩:=h
 exact⟨Δ,M,_,sr,hr,q,fun d M' v H' q1 e1 hr1 rv=>k _ _ _ _ _ _ q1 e1 hr1 (sr.ext e1) ((ra.ext e1).append (am.cons rv am.nil))⟩
theorem v6(kg:oS K g gv) (hB:∀{ys σ H Z},upB K Bd ys σ H Z->B ys σ H Z) {J:It}{es:List D}{M5:DH}{H5:Hp}(it5:ItD K J es M5 H5) (hr5:HR K M5 H5) {Δ:DE}{acc:List D}{R:List D->DE->DH->Prop}{ys:List V}{σ:St}{Z:List V->St->Hp->Prop}
  (sr:SR K M5 H5 σ Δ) (ra:am K M5 H5 acc ys) (la:acc.length<=sizeLine) (q:hJ g tc Bd es Δ M5 acc R)
  (k:∀acc' Δ' M' ys' σ' H',R acc' Δ' M'->Ext M5 H5 M' H'->HR K M' H'->SR K M' H' σ' Δ'->am K M' H' acc' ys'->Z ys' σ' H') :
  ∃W:Nat->Nat->List V->St->Hp->Prop,(∃m,W 0 m ys σ H5)/\kj J gv (upT K tc) B W Z:=by
 refine⟨fun j m ys' σ' H'=>∃ Δ' M' acc',m=es.length-j/\j<=es.length/\Ext M5 H5 M' H'/\HR K M' H'/\SR K M' H' σ' Δ'/\am K M' H' acc' ys'/\acc'.length<=sizeLine/\hJ g tc Bd (es.drop j) Δ' M' acc' R,
  ⟨es.length,Δ,M5,acc,by simp,Nat.zero_le _,Ext.refl _ _,hr5,sr,ra,la,q⟩,?_⟩
 rintro j m ys' σ6 H6 ⟨Δ6,M6,acc6,rfl,hj,e6,hr6,sr6,ra6,la6,f6⟩
 refine⟨by rw[<-ra6.length];exact la6,?_⟩
 obtain⟨go2,stop2⟩:=it5 M6 H6 e6 hr6 j
 by_cases hlt2:j<es.length
 ·have hd2:es[j]?=some es[j]:=by simp[hlt2]
  obtain⟨g2,y2⟩:=go2 _ hd2
  rw[List.drop_eq_getElem_cons hlt2]at f6
  simp only[hJ]at f6
  obtain⟨Δ7,eg7,f7⟩:=f6
  refine .inr ⟨g2,fun x7 H7 hy7=>?_⟩
  obtain⟨e7,hr7,rx7⟩:=y2 x7 H7 hy7
  refine kg _ x7 σ6 Δ6 Δ7 M6 H7 _ (sr6.ext e7) hr7 rx7 eg7 fun σ7 sr7=>?_
  refine⟨Δ7,M6,_,sr7,hr7,f7,fun b M8 H8 q8 e8 hr8=>?_⟩
  cases b with
  |true =>
   simp only[if_true]at q8 ⊢
   refine hB ⟨Δ7,M8,acc6,_,sr7.ext e8,hr8,(ra6.ext e7).ext e8,la6,q8,?_⟩
   rintro acc' Δ' M' ys9 σ' H' ⟨hz9,q9⟩ e9 hr9 sr9 ra9
   exact⟨es.length-(j+1),by omega,Δ',M',acc',rfl,hlt2,((e6.trans e7).trans e8).trans e9,hr9,sr9,ra9,hz9,q9⟩
  |false =>
   simp only[Bool.false_eq_true,if_false]at q8 ⊢
   exact⟨es.length-(j+1),by omega,Δ7,M8,acc6,rfl,hlt2,(e6.trans e7).trans e8,hr8,sr7.ext e8,(ra6.ext e7).ext e8,la6,q8⟩
 ·rw[List.drop_eq_nil_of_le (by omega)]at f6
  simp only[hJ]at f6
  exact .inl ⟨stop2 (by omega),k _ _ _ _ _ _ f6 e6 hr6 sr6 ra6⟩
theorem qW(kg:oS K g gv) (hB:∀{ys σ H Z},upB K Bd ys σ H Z->B ys σ H Z) {ys:List V}{σ:St}{H:Hp}{Z:List V->St->Hp->Prop}(h:upB K (iX wi g tc Bd) ys σ H Z):rP (upI K wi) gv (upT K tc) B ys σ H Z:=by
 obtain⟨Δ,M,acc,R,sr,hr,ra,la,q,k⟩:=h
 exact⟨Δ,M,_,sr,hr,q,fun es M2 J H2 q2 e2 hr2 it2=>v6 kg hB it2 hr2 (sr.ext e2) (ra.ext e2) la q2 fun a1 a2 a3 a4 a5 a6 b1 b2=>k a1 a2 a3 a4 a5 a6 b1 (e2.trans b2)⟩
end
def xY(ms:List Bool) (k:Nat) (w0:TId) (g0:GD) (tc0:TTd) (B:BKd):TEd:=fun Δ M Q=>w0 Δ M fun ds M1=>hJ g0 tc0 B ds (gA ms k Δ) M1 [] fun ys _ M2=>Q (.lst ys) M2
theorem rH{K:PySem.W.Frag}{w0:TId}{g0:GD}{tc0:TTd}{gv0:TG}{Bd:BKd}{B:BK}{ms:List Bool}{kk:Nat}(kg:oS K g0 gv0) (hB:∀{ys σ H Z},upB K Bd ys σ H Z->B ys σ H Z):∀ σ H Q,up K (xY ms kk w0 g0 tc0 Bd) σ H Q->Bf ms kk (upI K w0) gv0 (upT K tc0) B σ H Q:=by
 rintro σ H Q ⟨Δ,M,R,sr,hr,q,k⟩
 refine⟨Δ,M,_,sr,hr,q,fun ds M1 J H1 q1 e1 hr1 it=>?_⟩
 obtain⟨W,hW,hC⟩:=v6 (Z:=fun ys' _ H'=>∃M' acc,Ext M1 H1 M' H'/\HR K M' H'/\am K M' H' acc ys'/\R (.lst acc) M') kg hB it hr1 ((sr.ext e1).comp ms kk) am.nil (Nat.zero_le _) q1
  (fun acc' Δ' M' ys' σ' H' q' e' hr' _ ra'=>⟨M',acc',e',hr',ra',q'⟩)
 refine⟨W,_,hW,hC,?_⟩
 rintro ys σ' H' p ⟨M',acc,e',hr',ra,q'⟩ hp
 refine k _ M' _ _ q' ((e1.trans e').trans (Ext.new hr' hp)) (hr'.new hp) ?_
 simp only[Rep]
 exact⟨p,ys,rfl,⟨aC,hr'.fresh hp⟩,ra.ext (Ext.new hr' hp)⟩
/-! ### two clauses -/
abbrev Ig(elt t0 i0 t1 i1:Expr) (f0 f1:List Expr) (scope:Scope) (pos:Pos):Expr:=.ListComp elt [⟨t0,i0,f0,0⟩,⟨t1,i1,f1,0⟩] scope pos
def Bn(ms:List Bool) (k:Nat) (w0:TId) (g0:GD) (tc0:TTd) (wi:TId) (g:GD) (tc:TTd) (te:TEd):TEd:=xY ms k w0 g0 tc0 (iX wi g tc (nz te))
section
variable{X:Cx}{scope:Scope}{cl:List (Str×Addr)}{ms:List Bool}{ar:List Str}{elt t0 i0 t1 i1:Expr}{f0 f1:List Expr}{pos:Pos}
theorem Du{w1:TI}{g1:TG}{tc1:TT}{te:TE}(hi1:∀C s H ex,PI (aH X scope cl (X.N++ar) C s H ex) t1 i1 w1) (hg1:∀C s H ex,PG (aH X scope cl (X.N++ar) C s H ex) t1 g1) (hif1:∀C s H ex,PIf (aH X scope cl (X.N++ar) C s H ex) f1 tc1) (he:∀C s H ex,PE (aH X scope cl (X.N++ar) C s H ex) elt te)
  (hs1:∀C x,foldedSetIterable i1 (compEnvC scope cl C X.env) x=pure x):LvC X scope cl ar (lcE elt [⟨t0,i0,f0,0⟩,⟨t1,i1,f1,0⟩] scope pos) i0.pos t0 f0 (rP w1 g1 tc1 (kY te)):=fun _ _ _ _ _ c =>
 rE c (qL (k:=1) (p:=i1.pos) c (he _ _ _ _) fun _ _ _=>rfl) (fun _ _ _=>rfl) (hs1 _) (hi1 _ _ _ _) (hg1 _ _ _ _) (hif1 _ _ _ _) fun _ _ _=>rfl
end
/-! ### the rest of a block,kept shut -/
@[irreducible] def BG(t:TSd):TSd:=t
theorem wc{t:TSd}:BG t=t:=by unfold BG;rfl
theorem bp{t:TSd}{E:fH}{Δ:DE}{M:DH}(h:t E Δ M):BG t E Δ M:=by rw[wc];exact h
theorem cQ{X:Cx}{st:List Stmt}{t:TSd}(h:QSs X st t):QSs X st (BG t):=by rw[wc];exact h
/-! ### the head with the whole heap of the top -/
theorem zr{K:Params->PySem.W.Frag}{as:List Addr}{n t:Nat}{q:Program}{loose:List Str}{XP:(Str->Option Value)->Heap->Prop}{r:PySem.W.RowW}{d:DefRec}{kwd:List (Str×Expr)}{run:Value->List Value->Sem Value}(hk:∀P,as=(K P).map (·.1))
  (h:PySem.W.WalkO q loose XP (fun w h=>(K w.params).In h) r d kwd run):PySem.W.WalkX q loose XP (PySem.W.X.obsZ as) (PySem.W.X.valZ K n t) r d kwd run:=by
 intro w s₀ s₁ mg mb G y a o pm cd doc dV kV ho hd hcd hD hmg hg args vals as' L hpre hlay hrd hwl hlo
 refine h w s₀ s₁ mg mb G (fun b u hu=>L.keeps b u ?_) a o pm cd doc dV kV ho hd hcd hD hmg hg args vals as' hpre hlay hrd hwl hlo
 have y1:as.map s₀.heap.get?=(K w.params).map fun p=>some p.2:=congrArg (·.1) y
 rw[hk w.params,List.map_map]at y1
 have key:∀(l:PySem.W.Frag),(l.map fun p=>s₀.heap.get? p.1)=l.map (fun p=>some p.2)->List.lookup b l=some u->s₀.heap.get? b=some u:=by
  intro l
  induction l with
  |nil=>intro _ z;cases z
  |cons p l ih =>
   intro e z
   rw[List.map_cons,List.map_cons,List.cons.injEq]at e
   rw[List.lookup_cons]at z
   by_cases c:b=p.1
   ·subst c
    rw[beq_self_eq_true]at z
    cases z
    exact e.1
   ·rw[beq_eq_false_iff_ne.mpr c]at z
    exact ih e.2 z
 exact key _ y1 hu
end L2
namespace L2
open PySem PySem.W PySem.Calls PyProof.Rows
/-! ### sorted of a list or a tuple: ints,pairs of ints -/
section
variable{prog:Program}{w:World}{A:Around}{E:Value->Shared->Prop}{O:KeyOrd}
theorem wU{T:String}{o:Obj}{n:Nat}{s:Shared}{l:Addr}{vs:List Value}{key:Nat->O.α}{κ:SortKind}{Q:Value->Shared->Prop}(hT:T="list"∨T="tuple") (hg:s.heap.get? l=some o) (hcl:o.cls=.type T) (hd:o.data=.seq vs.toArray n) (hz:vs.length<64)
  (hk:∀s1 Q,2<=vs.length->(∀b o,s.heap.get? b=some o->s1.heap.get? b=some o)->Q κ s1->wpAny (model prog w) A.in1.in1 (keyKind' vs.toArray) Q (fun _ _=>False) s1)
  (hc:∀i j s1 C,i<vs.length->j<vs.length->(∀b o,s.heap.get? b=some o->s1.heap.get? b=some o)->C (dM O key i j) s1->kas_ask prog w A.in1.in1 κ vs i j C s1)
  (k:∀(h1:Heap) p x c h',(∀b o,s.heap.get? b=some o->h1.get? b=some o)->cD vs.length p->c7 O key p vs.length->h1.objs.size<=x->(∀b o,h1.get? b=some o->h'.get? b=some o)->h'.get? x=some (seqObj "list" (ic vs p).toArray c)->Q (.ref x) { s with heap:=h' }) :
  wpAny (model prog w) A (call (.builtin "sorted") [.ref l]) Q E s:=by
 refine call_function_entry kind_sorted plain_sorted entry_sorted (args_sorted1 _) ?_
 unfold Builtin.«sorted»
 refine wpAny_bind (m:=checkCount "sorted" 1 1 _) (wpAny_pure ?_)
 have hz':vs.length<=sizeLine:=by rw[sizeLine_eq];omega
 refine wpAny_bind (wpAny_collect_seq l hT hg hcl hd (fun h1 kp0=>wpAny_bind (wpAny_newList ?_ hz')) (by simpa using hz'))
 have kp2:∀b o,h1.get? b=some o->(h1.push (seqObj "list" vs.toArray 0)).get? b=some o:=fun b o e=>by
  rw[Heap.get?_push_ne _ _ _ (Nat.ne_of_lt (Heap.lt_size e))];exact e
 have kp1:∀b o,s.heap.get? b=some o->(h1.push (seqObj "list" vs.toArray 0)).get? b=some o:=fun b o e=>kp2 b o (kp0 b o e)
 have new:(h1.push (seqObj "list" vs.toArray 0)).get? h1.objs.size=some (seqObj "list" vs.toArray 0):=Heap.get?_push_size _ rfl
 have old1:h1.get? h1.objs.size=none:=Heap.get?_none_of_le (Nat.le_refl _)
 have old:s.heap.get? h1.objs.size=none:=by
  cases e:s.heap.get? h1.objs.size with
  |none=>rfl
  |some u=>rw[kp0 _ _ e]at old1;cases old1
 show wpAny _ _ _ _ _ { s with heap:=h1.push (seqObj "list" vs.toArray 0) }
 have go:∀(t:Shared),tJ h1.objs.size { s with heap:=h1.push (seqObj "list" vs.toArray 0) } t->∀b o,s.heap.get? b=some o->t.heap.get? b=some o:=fun t ht b o e=>ht b o (fun q=>by rw[q,old]at e;cases e) (kp1 b o e)
 have go1:∀(t:Shared),tJ h1.objs.size { s with heap:=h1.push (seqObj "list" vs.toArray 0) } t->∀b o,h1.get? b=some o->t.heap.get? b=some o:=fun t ht b o e=>ht b o (fun q=>by rw[q,old1]at e;cases e) (kp2 b o e)
 refine wpAny_bind (wpAny_holding (wpAny_call_entry slot_list_sort ⟨_,new,rfl⟩ entry_list_sort ?_ (args_list_sort _)))
 refine xV (κ:=κ) (key:=key) new hz (fun t Q' two ht q=>hk t Q' two (go t ht) q) (fun i j t C hi hj ht q=>hc i j t C hi hj (go t ht) q) fun p c h' hp hr hs hx=>?_
 refine⟨_,rfl,wpAny_pure ⟨_,rfl,?_⟩⟩
 exact k h1 p _ c h' kp0 hp hr (Nat.le_refl _) (fun b o e=>go1 { s with heap:=h' } hs b o e) hx
end
end L2
namespace L2
open PySem PySem.Spec PyProof.Rows
/-! ### list(range(n)) -/
/-! ### a<b<c<d -/
section
variable{X:Cx}{scope:Scope}{cl:List (Str×Addr)}{ms:List Bool}{ar:List Str}{elt t0 i0 t1 i1:Expr}{f0 f1:List Expr}{pos:Pos}
theorem zt{i:Nat}{x:Str}{spos pos':Pos}{w0 wi:TId}{g0 g:GD}{tc0 tc:TTd}{te:TEd}(hN:X.N.Nodup) (hix:X.N[i]?=some x) (hx:X.env.scope.names.lookup x=some .local)
  (hsw:swapsWith (.ListComp elt [⟨t0,i0,f0,0⟩,⟨t1,i1,f1,0⟩] scope pos) (some (.Name x pos')) spos.line X.env=pure true) (S:eG X scope cl ms ar) (fS:X.calm=true) (hi:QId X t0 i0 w0) (hg0:PGa X scope cl ar t0 g0)
  (hif0:∀C s H ex,QIf (aH X scope cl (X.N++ar) C s H ex) f0 tc0) (hi1:∀C s H ex,QId (aH X scope cl (X.N++ar) C s H ex) t1 i1 wi) (hg:PGa X scope cl ar t1 g) (hif:∀C s H ex,QIf (aH X scope cl (X.N++ar) C s H ex) f1 tc) (he:∀C s H ex,QEd (aH X scope cl (X.N++ar) C s H ex) elt te)
  (hs:∀x,foldedSetIterable i0 X.env x=pure x:=by intro _;rfl) (hs1:∀C x,foldedSetIterable i1 (compEnvC scope cl C X.env) x=pure x:=by intro _ _;rfl):QSd X (.Assign [.Name x pos'] (.ListComp elt [⟨t0,i0,f0,0⟩,⟨t1,i1,f1,0⟩] scope pos) spos) (oG i (Bn ms ar.length w0 g0 tc0 wi g tc te)):=by
 simp only[QEd.eq,QSd.eq,QId.eq,QIf.eq]at *
 obtain⟨gv0,pg0,kg0⟩:=hg0
 obtain⟨gv,pg,kg⟩:=hg
 refine(o9 (tc:=upT X.K tc0) hN hix hx hsw S fS hi pg0 hif0 (Du (w1:=upI X.K wi) (tc1:=upT X.K tc) (te:=up X.K te) hi1 pg hif he hs1) hs).conv fun D σ H hh=>?_
 obtain⟨Δ,M,E,sr,hr,q,k⟩:=hh
 unfold oG Bn at q
 exact rH kg0 (fun h=>qW kg vm h) σ H _ ⟨Δ,M,_,sr,hr,q,fun d M1 v H1 q1 e1 hr1 rv=>k.nx _ M1 _ H1 q1 e1 hr1 ((sr.ext e1).set i rv)⟩
end
section
variable{X:Cx}
/-! ### x is True -/
end
/-! ### d.items(),the keys tuples -/
theorem mS{prog:Program}{w:World}{A:Around}{E:Value->Shared->Prop}{s:Shared}{it d:Addr}{i ep:Nat}{es:Array DictEntry}{od:Obj}{ok ov:Value}{Q:Option Value->Shared->Prop}
  (hit:IsItemIter s.heap it d i es.size ep ok ov) (hod:s.heap.get? d=some od) (hdd:od.data=.dict es ep) (hlt:i<es.size)
  (hQ:∀ h':Heap,IsItemIterOut h' it d (i + 1) es.size ep es[i].key es[i].val s.heap.objs.size → h'.get? s.heap.objs.size = some { cls:=Value.type "tuple",data:=Data.seq #[es[i].key,es[i].val] } → h'.objs.size = s.heap.objs.size + 1 →
   (∀b o,b≠it->s.heap.get? b=some o->h'.get? b=some o)->Q (some (Value.ref s.heap.objs.size)) { s with heap:=h' }):wpAny (model prog w) A (pyNext (Value.ref it)) Q E s:=by
 obtain⟨hp,g,dr,tk,os⟩:=s
 dsimp only at hit hod hQ
 have hT:Shared.TypeIs { heap:=hp,gens:=g,drawn:=dr,toks:=tk,os:=os } (Value.ref it) "dict_itemiterator":=⟨_,hit,rfl⟩
 refine wpAny_bind (wpAny_attempt (wpAny_callSpecial?_slot hT F.slot_dict_itemiterator_next (wpAny_call_entry F.slot_dict_itemiterator_next hT F.entry_dict_itemiterator_next ?_)))
 refine wpAny_bind (wpAny_pure (wpAny_bind (wpAny_bind (wpAny_bind (wpAny_typeNameOfWhole_itemiter hT (wpAny_pure (wpAny_bind (wpAny_fieldsOf hit rfl ?_))))))))
 have hown:Builtin.Dict_items.ownsTuple "dict_itemiterator"=true:=by decide
 simp only[hown,if_true,List.drop_succ_cons,List.drop_zero,List.take_succ_cons,List.take_zero]
 refine wpAny_ite_false (Eq.refl (decide ((Value.ref d==Value.none)=true))) ?_
 refine wpAny_bind (wpAny_pure (wpAny_bind (wpAny_dictEntries hod hdd ?_)))
 refine wpAny_ite_false (by simp) ?_
 refine wpAny_bind (wpAny_pure (wpAny_bind (wpAny_dictEpoch hod hdd ?_)))
 refine wpAny_ite_false (by simp) (wpAny_pure ?_)
 have e1:(if((i:Nat):Int)<0 then none else es[((i:Nat):Int).toNat]?)=some es[i]:=by
  rw[if_neg (by omega),Int.toNat_natCast,Array.getElem?_eq_getElem hlt]
 simp only[e1]
 refine wpAny_bind (wpAny_bind (wpAny_typeNameOfWhole_itemiter hT (wpAny_pure (wpAny_bind (wpAny_isOneOf_itemiter hT ?_)))))
 refine wpAny_bind ?_
 refine wpAny_setField_rec (k:=3) (x:=Value.int ((i:Int)+1) 0) hit (by simp) fun h₁ he₁ hs₁=>?_
 have he₁:IsItemIter h₁ it d (i+1) es.size ep ok ov:=by
  show h₁.get? it=_
  rw[he₁];simp
 have hT₁:Shared.TypeIs { heap:=h₁,gens:=g,drawn:=dr,toks:=tk,os:=os } (Value.ref it) "dict_itemiterator":=⟨_,he₁,rfl⟩
 refine wpAny_bind (wpAny_holding ?_)
 refine wpAny_bind (wpAny_isOneOf_itemiter hT₁ ?_)
 refine wpAny_bind (wpAny_isOneOf_itemiter hT₁ ?_)
 refine wpAny_bind (wpAny_newTuple ?_)
 dsimp only
 have hz₁:h₁.objs.size=hp.objs.size:=hs₁.1
 have kp₁:∀b o,b≠it->hp.get? b=some o->h₁.get? b=some o:=fun b o hb e=>hs₁.extBut b o hb e
 have he₂:IsItemIter (h₁.push { cls:=Value.type "tuple",data:=Data.seq #[es[i].key,es[i].val] }) it d (i+1) es.size ep ok ov:=Heap.get?_push_of_some _ he₁
 have ht₂:(h₁.push { cls:=Value.type "tuple",data:=Data.seq #[es[i].key,es[i].val] }).get? h₁.objs.size=some { cls:=Value.type "tuple",data:=Data.seq #[es[i].key,es[i].val] }:=Heap.get?_push_size _ rfl
 have kp₂:∀b o,b≠it->hp.get? b=some o->(h₁.push { cls:=Value.type "tuple",data:=Data.seq #[es[i].key,es[i].val] }).get? b=some o:=fun b o hb e=>Heap.get?_push_of_some _ (kp₁ b o hb e)
 have hz₂:(h₁.push { cls:=Value.type "tuple",data:=Data.seq #[es[i].key,es[i].val] }).objs.size=hp.objs.size+1:=by rw[Heap.size_push,hz₁]
 rw[hz₁]at ht₂ ⊢
 generalize h₁.push { cls:=Value.type "tuple",data:=Data.seq #[es[i].key,es[i].val] }=h₂ at *
 have hne:hp.objs.size≠it:=fun z=>by
  have h0:it<hp.objs.size:=Heap.lt_size hit
  rw[z]at h0
  exact Nat.lt_irrefl _ h0
 refine wpAny_bind ?_
 refine wpAny_bind (wpAny_field he₂ rfl rfl (wpAny_pure ?_))
 refine wpAny_ite_true (Eq.refl (decide (true=true))) ?_
 refine wpAny_bind (wpAny_field he₂ rfl rfl (wpAny_bind (wpAny_field he₂ rfl rfl ?_)))
 refine wpAny_bind (wpAny_setField_rec he₂ (by simp) fun h₃ he₃ hs₃=>?_)
 refine wpAny_bind (wpAny_setField_rec he₃ (by simp) fun h₄ he₄ hs₄=>?_)
 refine wpAny_bind (wpAny_setField_rec he₄ (by simp) fun h₅ he₅ hs₅=>?_)
 refine wpAny_bind (wpAny_setField_rec he₅ (by simp) fun h₆ he₆ hs₆=>?_)
 refine wpAny_bind (wpAny_letGo (wpAny_pure (wpAny_pure ⟨_,rfl,wpAny_pure ?_⟩)))
 refine hQ h₆ ?_ ?_ ?_ fun b o hb e=>?_
 ·show h₆.get? it=_
  rw[he₆];simp
 ·exact hs₆.extBut _ _ hne (hs₅.extBut _ _ hne (hs₄.extBut _ _ hne (hs₃.extBut _ _ hne ht₂)))
 ·have e1:=hs₃.1;have e2:=hs₄.1;have e3:=hs₅.1;have e4:=hs₆.1
  dsimp only at e1 e2 e3 e4
  omega
 ·exact hs₆.extBut _ _ hb (hs₅.extBut _ _ hb (hs₄.extBut _ _ hb (hs₃.extBut _ _ hb (kp₂ b o hb e))))
theorem gT{prog:Program}{w:World}{A:Around}{E:Value->Shared->Prop}{s:Shared}{it d:Addr}{i ep:Nat}{es:Array DictEntry}{od:Obj}{ok ov:Value}{Q:Option Value->Shared->Prop}
  (hA:A.handled=none) (hit:IsItemIter s.heap it d i es.size ep ok ov) (hod:s.heap.get? d=some od) (hdd:od.data=.dict es ep) (hlt:es.size<=i)
  (hQ:∀h':Heap,Heap.ExtBut it s.heap h'->Q none { s with heap:=h' }):wpAny (model prog w) A (pyNext (Value.ref it)) Q E s:=by
 obtain⟨hp,g,dr,tk,os⟩:=s
 dsimp only at hit hod hQ
 have hT:Shared.TypeIs { heap:=hp,gens:=g,drawn:=dr,toks:=tk,os:=os } (Value.ref it) "dict_itemiterator":=⟨_,hit,rfl⟩
 refine wpAny_bind (wpAny_attempt (wpAny_callSpecial?_slot hT F.slot_dict_itemiterator_next (wpAny_call_entry F.slot_dict_itemiterator_next hT F.entry_dict_itemiterator_next ?_)))
 refine wpAny_bind (wpAny_pure (wpAny_bind (wpAny_bind (wpAny_bind (wpAny_typeNameOfWhole_itemiter hT (wpAny_pure (wpAny_bind (wpAny_fieldsOf hit rfl ?_))))))))
 have hown:Builtin.Dict_items.ownsTuple "dict_itemiterator"=true:=by decide
 simp only[hown,if_true,List.drop_succ_cons,List.drop_zero,List.take_succ_cons,List.take_zero]
 refine wpAny_ite_false (Eq.refl (decide ((Value.ref d==Value.none)=true))) ?_
 refine wpAny_bind (wpAny_pure (wpAny_bind (wpAny_dictEntries hod hdd ?_)))
 refine wpAny_ite_false (by simp) ?_
 refine wpAny_bind (wpAny_pure (wpAny_bind (wpAny_dictEpoch hod hdd ?_)))
 refine wpAny_ite_false (by simp) (wpAny_pure ?_)
 have e1:(if((i:Nat):Int)<0 then none else es[((i:Nat):Int).toNat]?)=none:=by
  rw[if_neg (by omega),Int.toNat_natCast,Array.getElem?_eq_none hlt]
 simp only[e1]
 refine wpAny_bind (wpAny_bind (wpAny_typeNameOfWhole_itemiter hT (wpAny_pure ?_)))
 refine wpAny_bind (wpAny_setField hit rfl (by simp[hown]) ?_)
 dsimp only
 have kp:Heap.ExtBut it hp (hp.update it (Obj.mapFields fun x=>x.setIfInBounds (if Builtin.Dict_items.ownsTuple "dict_itemiterator"=true then 2 else 0) Value.none)):=(Heap.SameBut.update hp it _).extBut
 generalize hp.update it (Obj.mapFields fun x=>x.setIfInBounds (if Builtin.Dict_items.ownsTuple "dict_itemiterator"=true then 2 else 0) Value.none)=h1 at kp
 refine wpAny_bind ?_
 unfold newExc
 refine wpAny_bind (wpAny_newObj_type ?_ (show(#[]:Array Value).size<=_ by simp))
 refine wpAny_bind (wpAny_of_eq (Eq.refl (firstArgMember (Value.type "StopIteration") [])) ?_)
 refine wpAny_newObj_type ?_ (sizeOk_excFields _ _ _ _ _ _ _ _)
 refine wpAny_raiseNew_none hA ?_
 refine wpAny_bind (wpAny_isInstance (T:="StopIteration") (b:=true) ⟨_,Heap.get?_push_size _ rfl,rfl⟩ rfl ?_)
 refine wpAny_ite_true (Eq.refl (decide (true=true))) (wpAny_pure ?_)
 exact hQ _ ((kp.push _).push _)
theorem nV{prog:Program}{w:World}{A:Around}{E:Value->Shared->Prop}{s:Shared}{d:Addr}{od:Obj}{es:Array DictEntry}{ep:Nat}{Q:Value->Shared->Prop}
  (hs:(d==sysModules)=false) (hod:s.heap.get? d=some od) (hx:od.ExactDict) (hdd:od.data=.dict es ep) 
  (hQ:Q (.ref s.heap.objs.size) { s with heap:=s.heap.push { cls:=.type "dict_items",data:=.fields #[.ref d] } }):wpAny (model prog w) A (call (.builtin "dict.items") [.ref d]) Q E s:=by
 have hT:s.TypeIs (.ref d) "dict":=⟨_,hod,hx.1⟩
 refine wpAny_call_entry F.slot_dict_items hT F.entry_dict_items ?_ (F.args_dict_items_1 _)
 refine wpAny_bind ?_
 show wpAny _ _ (Bind.bind _ _) _ _ _
 refine wpAny_bind (wpAny_notOrdered_dict hT ?_)
 refine wpAny_pure ?_
 show wpAny _ _ (do Builtin.Dict.showsAll d;let __do_lift <-newFields "dict_items" [Value.ref d];ret __do_lift) _ _ _
 refine wpAny_bind (wpAny_ite_false (by simp[hs]) (wpAny_pure ?_))
 exact wpAny_bind (wpAny_newObj_type (wpAny_pure ⟨_,rfl,hQ⟩) (show(#[Value.ref d]:Array Value).size<=_ by simp))
theorem mF{prog:Program}{w:World}{A:Around}{E:Value->Shared->Prop}{s:Shared}{v d:Addr}{od:Obj}{es:Array DictEntry}{ep:Nat}{Q:Value->Shared->Prop}
  (hv:s.heap.IsItemsView v d) (hod:s.heap.get? d=some od) (hdd:od.data=.dict es ep)
  (hQ:∀h',IsItemIter h' s.heap.objs.size d 0 es.size ep .none .none->(∀b o,s.heap.get? b=some o->h'.get? b=some o)->Q (.ref s.heap.objs.size) { s with heap:=h' }):wpAny (model prog w) A (pyIter (.ref v)) Q E s:=by
 obtain⟨ov,hov,hcv,hdv⟩:=id hv
 refine wpAny_pyIter_slot hv.typeIs F.slot_dict_items_iter (wpAny_call_entry F.slot_dict_items_iter hv.typeIs F.entry_dict_items_iter ?_ (F.args_dict_items_iter_1 _))
 refine wpAny_bind (wpAny_pure (wpAny_bind ?_))
 show wpAny _ _ (Bind.bind _ _) _ _ _
 refine wpAny_bind (wpAny_field hov hdv rfl (wpAny_pure (wpAny_bind ?_)))
 show wpAny _ _ (Bind.bind _ _) _ _ _
 refine wpAny_bind (wpAny_dictEntries hod hdd (wpAny_bind (wpAny_dictEpoch hod hdd ?_)))
 have hown:Builtin.Dict_items.ownsTuple "dict_itemiterator"=true:=by decide
 simp only[hown,if_true]
 refine wpAny_newObj_type (wpAny_pure ⟨_,rfl,"dict_itemiterator",_,⟨_,Heap.get?_push_size _ rfl,rfl⟩,F.slot_dict_itemiterator_next.lookup,?_⟩) (show Array.size _<=_ by simp[Builtin.Dict_items.ownedTupleFields];exact Nat.le_of_lt (xv (by decide)))
 exact hQ _ (Heap.get?_push_size _ rfl) fun b o e=>Heap.get?_push_of_some _ e
def Gd(a:Addr) (o:Obj) (ks:List (List Key×V)):It :=
 ⟨fun i H=>H a=some (.frz o (.dT ks))/\i<ks.length,fun i H x H'=>∃T q k v,x=.ref T/\H T=none/\ks[i]?=some (k,v)/\H q=some (.tup (k.map kV))/\H'=upd H T (.tup [.ref q,v]),fun i H=>H a=some (.frz o (.dT ks))/\ks.length<=i⟩
section
variable{X:Cx}{aa:List (Addr×Obj)}{σ:St}{H:Hp}{s:Shared}{a:Addr}{o:Obj}{ks:List (List Key×V)}
theorem Inv.freezeT(I:Inv X aa σ H s) (e:H a=some (.dT ks)):∃o,s.heap.get? a=some o/\Inv X aa σ (upd H a (.frz o (.dT ks))) s:=by
 have q:=I.hok a _ e
 obtain⟨_,_,_,_,o,_,_,he,_⟩:=id q
 refine⟨o,he,?_⟩
 have ne:∀{b},H b≠some (.dT ks)->b≠a:=fun {b} z w=>z (by rw[w];exact e)
 have:=I.write (x:=a) (e:=a) (o:=.frz o (.dT ks)) (h':=s.heap) (t':=s.toks) (by rw[e];exact True.intro) (.inl rfl) (fun b u _ q=>q) ⟨o,he⟩ ⟨he,q.stay (fun c v _ r=>r) (fun c r=>by rw[aJ (ne (by rw[r];intro z;cases z))];exact r) fun c xs r=>by rw[aJ (ne (by rw[r];intro z;cases z))];exact r⟩
 exact this
theorem sJ{ep:Nat}{es:Array DictEntry}(I:Inv X aa σ H s) (e:H a=some (.frz o (.dT ks))) (hd:o.data=.dict es ep):s.heap.get? a=some o/\∃xs:List (List Key×Addr×Value),Paired (fun(p:List Key×V) (q:List Key×Addr×Value)=>p.1=q.1/\H q.2.1=some (.tup (p.1.map kV))/\aD p.2 q.2.2) ks xs/\es.toList=xs.map (entryOfKey (tupleKind (aT X.prog X.w))):=by
 obtain⟨q,hz,hs,xs,rel,o',es',ep',q',c,d',r,_⟩:=I.hok a _ e
 rw[q]at q';cases q'
 rw[hd]at d'
 cases d'
 exact⟨q,xs,rel,r⟩
theorem dZ{α β:Type}{F:α->β->Prop}:∀{l₁:List α}{l₂:List β},Paired F l₁ l₂->∀(i:Nat) (x:α),l₁[i]?=some x->∃y,l₂[i]?=some y/\F x y
 |_,_,.cons r _,0,x,h=>by cases h;exact⟨_,rfl,r⟩
 |_,_,.cons _ t,i+1,x,h=>dZ t i x h
theorem mv:entryFor table "dict_itemiterator.__iter__"=some Builtin.«dict_keyiterator.__iter__»:=by kernel_rfl
theorem pq{prog:Program}{w:World}{A:Around}{E:Value->Shared->Prop}{s:Shared}{it d:Addr}{i n ep:Nat}{ok ov:Value}{Q:Value->Shared->Prop}(q:IsItemIter s.heap it d i n ep ok ov) (h:Q (.ref it) s):wpAny (model prog w) A (pyIter (.ref it)) Q E s :=
 wpAny_pyIter_slot (T:="dict_itemiterator") ⟨_,q,rfl⟩ PySem.F.slot_dict_itemiterator_iter (wpAny_call_entry PySem.F.slot_dict_itemiterator_iter ⟨_,q,rfl⟩ mv (show wpAny _ _ (pure _) _ _ _ from wpAny_pure ⟨_,rfl,"dict_itemiterator",_,⟨_,q,rfl⟩,PySem.F.slot_dict_itemiterator_next.lookup,h⟩) (PySem.F.args_dict_itemiterator_iter_1 _))
theorem uw{P:Program}{w:World}{K:PySem.W.Frag}{elts:List Expr}{x1:Nat}{pt:Pos}(it:Addr) {ep:Nat}{es:Array DictEntry}(hd:o.data=.dict es ep) (hl:es.size=ks.length):kF P w K (.Tuple elts x1 pt) (Gd a o ks) [it] it (fun i h=>∃ok ov,IsItemIter h it a i es.size ep ok ov) where
 mem:=by simp
 obj:=fun i h st b hb=>by
  have e:b=it:=by simpa using hb
  subst e
  obtain⟨ok,ov,q⟩:=st
  exact⟨_,q,fun v z=>by cases z⟩
 keep:=fun i h h' ⟨ok,ov,q⟩ k=>⟨ok,ov,k it (by simp) _ q⟩
 item:=by
  intro X hP hw hK hc i aa s σ H E I hf st hg
  subst hP hw hK
  obtain⟨e,hi⟩:=hg
  obtain⟨hget,xs,rel,hes⟩:=sJ I e hd
  obtain⟨ok,ov,hit⟩:=st
  obtain⟨⟨k,v⟩,hkv⟩:∃p,ks[i]?=some p:=⟨ks[i],by simp[hi]⟩
  obtain⟨⟨k',q,u⟩,hx,rk,hq,ru⟩:=dZ rel i _ hkv
  have hlt:i<es.size:=by omega
  have hei:es[i]=entryOfKey (tupleKind (aT X.prog X.w)) (k',q,u):=by
   have h1:es.toList[i]?=some es[i]:=by simp[hlt]
   rw[hes,List.getElem?_map,hx]at h1
   exact(Option.some.inj h1).symm
  have hek:es[i].key=.ref q:=by rw[hei];rfl
  have hev:es[i].val=u:=by rw[hei];rfl
  refine mS hit hget hd hlt fun h1 hout hT hsz keep=>⟨_,rfl,?_⟩
  rw[hek,hev]at hout hT
  have fe:=hf it (by simp)
  have In:H s.heap.objs.size=none:=I.hok.fresh (Nat.le_refl _)
  have eT:it<s.heap.objs.size:=Heap.lt_size hit
  have I1:Inv X aa σ (upd H s.heap.objs.size (.tup [.ref q,v])) { s with heap:=s.heap.push { cls:=.type "tuple",data:=.seq #[.ref q,u] } } :=
   I.laid (t':=s.toks) (fun b o q=>Heap.get?_push_of_some _ q) (Nat.le_refl _) ⟨by simp only[List.length_cons,List.length_nil];rw[sizeLine_eq];decide,[.ref q,u],.cons rfl (.cons ru .nil),⟨_,Heap.get?_push_size s.heap rfl,rfl,⟨0,rfl⟩,rfl⟩⟩
  have fe1:eF X aa (upd H s.heap.objs.size (.tup [.ref q,v])) it:=fe.upd (Nat.ne_of_lt eT)
  obtain⟨g0,g1,g2,g3,g4,g5⟩:=fe1
  have I2:=I1.turned (t':=s.toks) (h':=h1) (it:=it) (fun b o hb q=>by
   rcases Heap.get?_push_cases q with z|z
   ·rw[z.1,z.2];exact hT
   ·exact keep b o hb z) g0 g1 g3 g4 g5
  refine wpAny_letOwnedTupleGo_items hout fun h2 he2 hs2=>?_
  have I3:=I2.turned (t':=s.toks) (h':=h2) (it:=it) (fun b o hb q=>(hs2.2 b hb).trans q) g0 g1 g3 g4 g5
  refine⟨.ref s.heap.objs.size,_,I3,rfl,⟨_,q,k,v,rfl,In,hkv,hq,rfl⟩,⟨_,_,he2⟩,fun b hb=>?_⟩
  rw[show b=it by simpa using hb];exact g0
 done:=by
  intro X hP hw hK hc i aa s σ H E I hf st hg
  subst hP hw hK
  obtain⟨e,hi⟩:=hg
  obtain⟨hget,xs,rel,hes⟩:=sJ I e hd
  obtain⟨ok,ov,hit⟩:=st
  obtain⟨f0,f1,f2,f3,f4,f5⟩:=hf it (by simp)
  exact gT (I.ok.hd hc) hit hget hd (by omega) fun h' eb=>⟨rfl,I.turned (t':=s.toks) (fun b o hb q=>eb b o hb q) f0 f1 f3 f4 f5⟩
 self:=fun A i s Q E ⟨ok,ov,q⟩ h=>pq q h
end
section
variable{X:Cx}{l:Expr}{tl:TE}{te:TEd}{elts:List Expr}{x1:Nat}{pt bC aV:Pos}
theorem qk{K:PySem.W.Frag}{M:DH}{H:Hp}:∀ks:List Key,am K M H (ks.map kD) (ks.map kV)
 |[]=>am.nil
 |k::ks=>am.cons jg (qk ks)
end
section
variable{X:Cx}
/-! ### x in xs,the things of any depth -/
def inF(x y:D):Option D:=match y with
 |.lst ds=>if dLe x 59=true/\cv ds 59=true then some (.bl (ds.any fun d=>eqD d x))else none
 |_=>none
theorem GZ{x:D}{ds:List D}:inF x (.lst ds)=if dLe x 59=true/\cv ds 59=true then some (.bl (ds.any fun d=>eqD d x))else none:=rfl
open Classical in
end
section
variable{X:Cx}{a b e:Expr}{ta tb te:TEd}{pos:Pos}
/-! ### xs.index(x),the things of any depth -/
def t6(ds:List D) (x:D):Option Nat:=if dLe x 59=true/\cv ds 59=true/\ds.length<2 ^ 62 then ds.findIdx? (fun d=>eqD d x)else none
theorem yA{ds:List D}{x:D}{j:Nat}(h:t6 ds x=some j):dLe x 59=true/\cv ds 59=true/\ds.length<2 ^ 62/\∃hj:j<ds.length,eqD ds[j] x=true/\∀m (hm:m<ds.length),m<j->eqD ds[m] x=false:=by
 unfold t6 at h
 by_cases hc:dLe x 59=true/\cv ds 59=true/\ds.length<2 ^ 62
 ·rw[if_pos hc]at h
  obtain⟨hj,h1,h2⟩:=List.findIdx?_eq_some_iff_getElem.mp h
  exact⟨hc.1,hc.2.1,hc.2.2,hj,h1,fun m hm hl=>by have:=h2 m hl;simpa using this⟩
 ·rw[if_neg hc]at h;cases h
section
open PySem.SeqAt PySem.MeetsSeq AutoSeq1
theorem sV(l:Addr) (xs:Array Value) (n:Nat) (od:Option Addr) (os:Array (Option Value)) (y:Value) (hit:Nat->Bool) (top:Int) (j:Nat) (lj:j<xs.size) (ltop:(j:Int)<top) (yes:hit j=true) :
  ∀(k i:Nat),j-i=k->i<=j->(∀m,i<=m->m<j->hit m=false)->Meets (Builtin.«list.index.loop» ⟨[.ref l,y,rawInt i,rawInt top],[]⟩)
   (fun B R t=>t.heap.get? l=some { cls:=.type "list",dict:=od,data:=.seq xs n,slots:=os }/\(∀m (h:m<xs.size),EqAt B.in1 t xs[m] y (hit m))/\R (.ok (.ret (.int j t.toks))) { t with toks:=t.toks+1 })
 |0,i,ek,hi,no,prog,w,B,R,t,q=>by
  obtain⟨th,tg,td,tt,to⟩:=t
  obtain⟨ql,qe,qr⟩:=q
  obtain rfl:i=j:=by omega
  wp_walk using wpAny_loadPart' ql
  rw[show(if(i:Int)<top then xs[((i:Nat):Int).toNat]? else none)=some xs[i]by simp[ltop,lj]]
  refine wpAny_bind (qe i lj prog w _ _ ?_)
  rw[yes]
  wp_walk
  exact qr
 |k+1,i,ek,hi,no,prog,w,B,R,t,q=>by
  obtain⟨th,tg,td,tt,to⟩:=t
  obtain⟨ql,qe,qr⟩:=q
  have li:i<xs.size:=by omega
  have lt:(i:Int)<top:=by omega
  wp_walk using wpAny_loadPart' ql
  rw[show(if(i:Int)<top then xs[((i:Nat):Int).toNat]? else none)=some xs[i]by simp[lt,li]]
  refine wpAny_bind (qe i li prog w _ _ ?_)
  rw[no i (Nat.le_refl _) (by omega)]
  wp_walk
  rw[show((i:Int)+1)=((i+1:Nat):Int)by omega]
  refine⟨plainId_quiet plain_index_loop _,codeAny_builtin entry_index_loop ?_⟩
  rw[Around.under_plainId plain_index_loop _]
  exact sV l xs n od os y hit top j lj ltop yes k (i+1) (by omega) (by omega) (fun m a b=>no m (by omega) b) prog w B R _ ⟨ql,qe,qr⟩
theorem yV(l:Addr) (xs:Array Value) (n:Nat) (od:Option Addr) (os:Array (Option Value)) (y:Value) (hit:Nat->Bool) (j:Nat) (lj:j<xs.size) (ls:(j:Int)<2 ^ 63-1) (yes:hit j=true) (no:∀m,m<j->hit m=false) :
  Meets (Builtin.«list.index» ⟨[.ref l,y],[]⟩)
   (fun B R t=>t.heap.get? l=some { cls:=.type "list",dict:=od,data:=.seq xs n,slots:=os }/\(∀m (h:m<xs.size),EqAt B.in1 t xs[m] y (hit m))/\R (.ok (.ret (.int j t.toks))) { t with toks:=t.toks+1 }):=by
 intro prog w B R t q
 obtain⟨th,tg,td,tt,to⟩:=t
 obtain⟨ql,qe,qr⟩:=q
 wp_walk using wpAny_loadPart' ql
 rw[show((fun i:Int=>if i<0 then max 0 (i+(xs.size:Int))else i) ((none:Option Int).getD 0))=((0:Nat):Int)by simp,show((fun i:Int=>if i<0 then max 0 (i+(xs.size:Int))else i) ((none:Option Int).getD (2 ^ 63-1)))=2 ^ 63-1 by simp]
 refine⟨plainId_quiet plain_index_loop _,codeAny_builtin entry_index_loop ?_⟩
 rw[Around.under_plainId plain_index_loop _]
 exact sV l xs n od os y hit (2 ^ 63-1) j lj ls yes _ 0 rfl (Nat.zero_le _) (fun m _ b=>no m b) prog w B R _ ⟨ql,qe,qr⟩
end
end
section
variable{X:Cx}{o e:Expr}{to te:TEd}{bC aV:Pos}
def sP(ds:List D) (d:D) (m:Nat):Bool:=match ds[m]? with|some x=>eqD x d|none=>false
theorem Ct{aa:List (Addr×Obj)}{σ:St}{H:Hp}{s:Shared}{M:DH}{ds:List D}{d:D}{vs:List V}{its:List Value}{y:V}{u:Value}(I:Inv X aa σ H s) (hu:X.A.units+64<cLine) (rl:am X.K M H ds vs) (r:az vs its) (r1:aQ X.K M H d y) (ry:aD y u) (h1:dLe d 59=true) (h2:cv ds 59=true) :
  ∀m (h:m<its.toArray.size),PySem.SeqAt.EqAt X.A.in1 s its.toArray[m] u (sP ds d m):=fun m h=>by
 have hl:ds.length=its.length:=rl.length.trans r.length
 have h':m<its.length:=by simpa using h
 have h3:m<ds.length:=by omega
 obtain⟨v1,g1,p1⟩:=rl.get (i:=m) (d:=ds[m]) (by simp[h3])
 obtain⟨u1,k1,m1⟩:=r.get g1
 have e1:its.toArray[m]=u1:=by simpa[List.getElem?_eq_getElem h']using k1
 rw[e1,show sP ds d m=eqD ds[m] d by simp[sP,h3]]
 exact(nM I 59 (by show X.A.units+1+59<cLine;omega) (fO h2 (i:=m) (by simp[h3])) h1 p1.r r1 m1 ry).1
theorem yy{ds:List D}{x:D}{j:Nat}(h:t6 ds x=some j):dLe x 59=true/\cv ds 59=true/\(j:Int)<2 ^ 63-1/\j<ds.length/\sP ds x j=true/\∀m,m<j->sP ds x m=false:=by
 obtain⟨h1,h2,h3,lj,yes,no⟩:=yA h
 refine⟨h1,h2,by omega,lj,by simp[sP,lj,yes],fun m hm=>?_⟩
 have hm':m<ds.length:=by omega
 simp[sP,hm',no m hm' hm]
theorem BR(hu:X.A.units+64<cLine):MtR X "list.index" (fun x xs H Q=>∃M ds d y j,xs=[y]/\aQ X.K M H (.lst ds) x/\aQ X.K M H d y/\t6 ds d=some j/\Q (.int j) H):=by
 intro aa s σ H x xs v us Q I rx rv h
 obtain⟨M,ds,d,y,j,rfl,r2,r1,hj,q⟩:=h
 obtain⟨u,rfl,ry⟩:=az.one rv
 obtain⟨l,vs,rfl,sq,rl⟩:=r2
 cases rx
 obtain⟨its,r,pl,hz⟩:=I.list (SqL.of sq)
 obtain⟨h1,h2,h3,lj,yes,no⟩:=yy hj
 have hl:ds.length=its.length:=rl.length.trans r.length
 obtain⟨⟨c,dd,dt,sl⟩,n,ho,hc,hdd,hdt⟩:=pl
 obtain rfl:c=.type "list":=hc
 obtain rfl:dt=.seq its.toArray n:=hdt
 exact call_meets F.slot_list_index ⟨_,ho,rfl⟩ F.entry_list_index (F.args_list_index_2 _ _) (yV l its.toArray n dd sl u (sP ds d) j (by simp;omega) h3 yes no) ⟨ho,Ct I hu rl r r1 ry h1 h2,⟨.int _,H,I.tok _,⟨_,rfl⟩,q⟩⟩
def CB(to te:TEd):TEd:=fun Δ M Q=>to Δ M fun o M1=>(∃ds,rdM M1 o=.lst ds)/\te Δ M1 fun x M2=>∃ds j,rdM M2 o=.lst ds/\t6 ds (rdM M2 x)=some j/\Q (.int j) M2
theorem DC(hu:X.A.units+64<cLine) (ho:QEd X o to) (he:QEd X e te) (cX:attributeBase o "index" X.env (eval o X.env)=eval o X.env:=by rfl)
  (hse:starEach [e] X.env=(false,eval e X.env)::starEach [] X.env:=by rfl)
  (kM:((backTo aV (starEach [e] X.env)).all (fun x => !x.1) && (backToKw aV (keywordEach [] X.env)).all (fun x => x.1.isSome)
  &&decide ([e].length+([]:List Keyword).length+(if([]:List Keyword).isEmpty then 0 else 1)<30))=true:=by rfl)
  (cN:(bC.endLine==aV.line)=true:=by rfl) (jl:(backTo aV (starEach [] X.env)).any (·.1)=false:=by rfl):QEd X (.Call (.Attribute o "index" bC) [e] [] aV) (CB to te):=by
 rw[QEd.eq]at *
 refine(zg PySem.F.plainAttrs_list PySem.F.slot_list_index PySem.F.type_list_index (BR hu) ho (ir he nN hse) cX kM cN hse jl).conv fun σ H Q hh=>?_
 obtain⟨Δ,M,R,sr,hr,q,k⟩:=hh
 refine⟨Δ,M,_,sr,hr,q,fun o M1 ov H1 ⟨⟨ds0,e0⟩,q1⟩ e1 hr1 ro=>?_⟩
 have r0:=ro.rd hr1
 rw[e0]at r0
 obtain⟨l0,vs0,rfl,hl0,_⟩:=r0
 refine⟨.inl ⟨rfl,vs0,SqL.of hl0⟩,Δ,M1,_,sr.ext e1,hr1,q1,fun d M2 v H2 ⟨ds,j,ed,hj,q2⟩ e2 hr2 rv=>?_⟩
 have r2:=(ro.ext e2).rd hr2
 rw[ed]at r2
 exact⟨M2,ds,_,v,j,rfl,r2,rv.rd hr2,hj,k _ M2 _ H2 q2 (e1.trans e2) hr2 (by simp[Rep])⟩
end
/-! ### zip of two rows,each a list or a tuple -/
def itN:Bool->String
 |true=>"tuple_iterator"
 |false=>"list_iterator"
def sqN:Bool->String
 |true=>"tuple"
 |false=>"list"
def Dl(b:Bool) (h:Heap) (i l:Addr) (k:Nat):Prop:=∃o,h.get? i=some o/\o.cls=.type (itN b)/\o.data=.fields #[.ref l,.int k 0]
def Er(b:Bool) (h:Heap) (l:Addr) (xs:Array Value):Prop:=∃o,h.get? l=some o/\o.cls=.type (sqN b)/\∃n,o.data=.seq xs n
section
variable{prog:Program}{w:World}{A:Around}{E:Value->Shared->Prop}{s:Shared}{b c:Bool}
theorem Dl.go{h h':Heap}{i l:Addr}{k:Nat}(x:Dl b h i l k) (f:∀o,h.get? i=some o->h'.get? i=some o):Dl b h' i l k:=let⟨o,e,r⟩:=x;⟨o,f o e,r⟩
theorem Er.go{h h':Heap}{l:Addr}{xs:Array Value}(x:Er b h l xs) (f:∀o,h.get? l=some o->h'.get? l=some o):Er b h' l xs:=let⟨o,e,r⟩:=x;⟨o,f o e,r⟩
end
section
variable{X:Cx}{scope:Scope}{cl:List (Str×Addr)}{ar:List Str}{tg:Expr}{pos:Pos}
/-! targets of a comprehension that has others in it: names that stay its own,and tuples -/
end
/-! ### a<b<c<d as a test -/
/-! ### tuples that may be keys -/
def oq(ks:List Key):D:=.box .key (ks.map kD)
section
variable{K:PySem.W.Frag}{M:DH}{H:Hp}
theorem lT{ds:List D}{v:V}:Rep K M H (.box .key ds) v↔∃a vs,v=.ref a/\(H a=some (.tup vs)/\M a=none)/\am K M H ds vs:=by
 simp only[Rep,gE]
 exact⟨fun⟨a,vs,e,⟨_,⟨_,r⟩,n⟩,h⟩=>⟨a,vs,e,⟨r,n⟩,h⟩,fun⟨a,vs,e,⟨r,n⟩,h⟩=>⟨a,vs,e,⟨trivial,⟨(),r⟩,n⟩,h⟩⟩
theorem sX{ds:List D}{v:V}(h:Rep K M H (.box .key ds) v):Rep K M H (.tup ds) v:=by
 obtain⟨a,vs,e,⟨r,n⟩,h⟩:=lT.mp h
 simp only[Rep]
 exact⟨a,vs,e,.inl ⟨.inl r,n⟩,h⟩
theorem jJ{ks:List Key}{v:V}(h:Rep K M H (oq ks) v):∃a,v=.ref a/\H a=some (.tup (ks.map kV)):=by
 obtain⟨a,vs,e,⟨r,_⟩,h⟩:=lT.mp h
 rw[jD h]at r
 exact⟨a,e,r⟩
theorem oe{κ:Type}:∀{ks:List κ}{ds:List D}{vs:List V},ks.length=vs.length->am K M H ds vs->KR K M H (ks.zip ds) (ks.zip vs)
 |[],_,_,_,_=>by simp only[List.zip_nil_left];exact .nil
 |k::ks,ds,vs,hl,h=>by
  cases vs with
  |nil=>cases hl
  |cons v vs =>
   cases ds with
   |nil=>have:=h.length;cases this
   |cons d ds =>
    simp only[am]at h
    obtain⟨_,_,e,h1,h2⟩:=h
    cases e
    exact .cons ⟨rfl,h1⟩ (oe (Nat.succ.inj hl) h2)
def asT(M:DH):D->Option (List (List Key×D))
 |.ref a=>match M a with|some (.dT kvs)=>some kvs|_=>none
 |.box (.dt ks) ds=>some (ks.zip ds)
 |_=>none
def asK(M:DH):D->Option (List (Key×D))
 |.ref a=>match M a with|some (.dK kvs)=>some kvs|_=>none
 |.box (.dk ks) ds=>some (ks.zip ds)
 |_=>none
theorem lY{x:D}{v:V}{kvs:List (List Key×D)}(hr:HR K M H) (h:Rep K M H x v) (e:asT M x=some kvs):∃a ks,v=.ref a/\Rd H a (.dT ks)/\KR K M H kvs ks:=by
 cases x with
 |ref a =>
  simp only[asT]at e
  simp only[Rep]at h
  split at e
  ·rename_i q
   cases e
   obtain⟨ks,h1,kr⟩:=hr a _ q
   exact⟨a,ks,h,.inl h1,kr⟩
  ·cases e
 |box t ds =>
  cases t with
  |dt ks =>
   cases e
   simp only[Rep,gE]at h
   obtain⟨a,vs,e,⟨hl,⟨o,r⟩,_⟩,h2⟩:=h
   exact⟨a,_,e,.inr ⟨o,r⟩,oe hl h2⟩
  |_=>cases e
 |_=>cases e
theorem qA{x:D}{v:V}{kvs:List (Key×D)}(hr:HR K M H) (h:Rep K M H x v) (e:asK M x=some kvs):∃a ks,v=.ref a/\Rd H a (.dK ks)/\KR K M H kvs ks:=by
 cases x with
 |ref a =>
  simp only[asK]at e
  simp only[Rep]at h
  split at e
  ·rename_i q
   cases e
   obtain⟨ks,h1,kr⟩:=hr a _ q
   exact⟨a,ks,h,.inl h1,kr⟩
  ·cases e
 |box t ds =>
  cases t with
  |dk ks =>
   cases e
   simp only[Rep,gE]at h
   obtain⟨a,vs,e,⟨hl,⟨o,r⟩,_⟩,h2⟩:=h
   exact⟨a,_,e,.inr ⟨o,r⟩,oe hl h2⟩
  |_=>cases e
 |_=>cases e
theorem ip{a:Addr}{kvs:List (List Key×D)}(h:M a=some (.dT kvs)):asT M (.ref a)=some kvs:=by simp only[asT,h]
theorem A8{ks:List (List Key)}{ds:List D}:asT M (.box (.dt ks) ds)=some (ks.zip ds):=rfl
theorem BF{ks:List Key}{ds:List D}:asK M (.box (.dk ks) ds)=some (ks.zip ds):=rfl
end
section
variable{X:Cx}{e i o:Expr}{es:List Expr}{te ti to:TEd}{t:TAd}{pos:Pos}
def DA(te:TEd):TEd:=fun Δ M Q=>te Δ M fun d M1=>∃ds,d=.box .key ds/\Q (.tup ds) M1
theorem GM(h:PEd X e te):PEd X e (DA te):=PE.conv h fun σ H Q hup=>hup.el fun Δ M R sr hr q k=>⟨Δ,M,_,sr,hr,q,fun d M1 v H1 ⟨ds,ed,q1⟩ e1 hr1 rv=>k _ M1 v H1 q1 e1 hr1 (sX (by rw[<-ed];exact rv))⟩
def zP(t:TAd):TEd:=fun Δ M Q=>t Δ M fun ds M1=>ds.length<=sizeLine/\Q (.box .key ds) M1
theorem GJ{x1}(h:PAd X es t):PEd X (.Tuple es x1 pos) (zP t) :=
 (nL h).conv fun σ H Q hup => hup.el fun Δ M R sr hr q k => ⟨Δ,M,_,sr,hr,q,fun ds M1 vs H1 ⟨z,q1⟩ e1 hr1 rv => ⟨by rw [← rv.length]; exact z,fun p hp => k _ M1 _ _ q1 (e1.trans (Ext.new hr1 hp)) (hr1.new hp)
  (lT.mpr ⟨p,vs,rfl,⟨aC,hr1.fresh hp⟩,rv.ext (Ext.new hr1 hp)⟩)⟩⟩
def u7(to ti:TEd):TEd:=fun Δ M Q=>to Δ M fun x M1=>ti Δ M1 fun y M2=>∃kvs ks d,asT M2 x=some kvs/\y=oq ks/\bq kvs ks=some d/\Q d M2
theorem Eg(hu:X.A.units+1<cLine) (ho:PEd X o to) (hi:PEd X i ti) (hs:rq i):PEd X (.Subscript o i pos) (u7 to ti) :=
 PE.conv (vU hu ho hi hs) fun σ H Q hup=>hup.el fun Δ M R sr hr q k=>⟨Δ,M,_,sr,hr,q,fun x M1 v H1 q1 e1 hr1 rv=>⟨Δ,M1,_,sr.ext e1,hr1,q1,fun y M2 u H2 ⟨kvs,ky,d,ea,ey,ed,q2⟩ e2 hr2 ru=>by
  subst ey
  obtain⟨a,ks,rfl,h2,kr⟩:=lY hr2 (rv.ext e2) ea
  obtain⟨b,rfl,hb⟩:=jJ ru
  obtain⟨w,hw,rw_⟩:=(kr.val ky).1 d ed
  exact⟨a,w,rfl,.inr ⟨ks,ky,b,h2,rfl,hb,hw.symm⟩,k d M2 w H2 q2 (e1.trans e2) hr2 rw_⟩⟩⟩
def xI(to ti:TEd):TEd:=fun Δ M Q=>to Δ M fun x M1=>ti Δ M1 fun y M2=>∃kvs k d,asK M2 x=some kvs/\y=kD k/\bq kvs k=some d/\Q d M2
theorem Fm(hu:X.A.units+1<cLine) (ho:PEd X o to) (hi:PEd X i ti) (hs:rq i):PEd X (.Subscript o i pos) (xI to ti) :=
 PE.conv (vU hu ho hi hs) fun σ H Q hup=>hup.el fun Δ M R sr hr q k=>⟨Δ,M,_,sr,hr,q,fun x M1 v H1 q1 e1 hr1 rv=>⟨Δ,M1,_,sr.ext e1,hr1,q1,fun y M2 u H2 ⟨kvs,ky,d,ea,ey,ed,q2⟩ e2 hr2 ru=>by
  subst ey
  obtain⟨a,ks,rfl,h2,kr⟩:=qA hr2 (rv.ext e2) ea
  obtain⟨w,hw,rw_⟩:=(kr.val ky).1 d ed
  exact⟨a,w,rfl,.inl ⟨ks,ky,h2,nO ru,hw.symm⟩,k d M2 w H2 q2 (e1.trans e2) hr2 rw_⟩⟩⟩
def su(to ti te:TEd):TSd:=fun E Δ M=>te Δ M fun d M1=>to Δ M1 fun x M2=>ti Δ M2 fun y M3=>∃a kvs ks,x=.ref a/\M3 a=some (.dT kvs)/\y=oq ks/\kvs.length<sizeLine/\E.nx Δ (au M3 a (.dT (fw kvs ks d)))
theorem D6{p:Pos}(hu:X.A.units+1<cLine) (ho:PEd X o to) (hi:PEd X i ti) (he:PEd X e te) (hs:swapsWith e (some (.Subscript o i p)) pos.line X.env=pure false:=by rfl):PSd X (.Assign [.Subscript o i p] e pos) (su to ti te) :=
 PS.conv (rg hu ho hi he hs) fun D σ H hup=>hup.el fun Δ M E sr hr q k=>⟨Δ,M,_,sr,hr,q,fun d M1 v H1 q1 e1 hr1 rv=>⟨Δ,M1,_,sr.ext e1,hr1,q1,fun x M2 u H2 q2 e2 hr2 ru=>⟨Δ,M2,_,(sr.ext e1).ext e2,hr2,q2,fun y M3 w H3 ⟨a,kvs,ky,ex,em,ey,hz,q3⟩ e3 hr3 rw_=>by
  subst ex;subst ey
  simp only[Rep]at ru
  subst ru
  obtain⟨ks,h3,kr⟩:=hr3 a _ em
  obtain⟨b,rfl,hb⟩:=jJ rw_
  have ew:Ext M3 H3 (au M3 a (.dT (fw kvs ky d))) (upd H3 a (.dT (dS ks ky v))):=Ext.write em
  refine⟨a,_,rfl,qf.t h3 hb (by rw[<-kr.length];exact hz),?_⟩
  exact k.nx Δ _ σ _ q3 (((e1.trans e2).trans e3).trans ew) (hr3.put ew ⟨_,aC,(kr.put ky ((rv.ext e2).ext e3)).ext ew⟩) ((((sr.ext e1).ext e2).ext e3).ext ew)⟩⟩⟩
def qX(to ti te:TEd):TEd:=fun Δ M Q=>to Δ M fun x M1=>(asT M1 x).isSome=true/\ti Δ M1 fun y M2=>te Δ M2 fun z M3=>∃kvs ks,asT M3 x=some kvs/\y=oq ks/\Q ((bq kvs ks).getD z) M3
theorem BN{bC aV:Pos}(hu:X.A.units+1<cLine) (ho:PEd X o to) (hi:PEd X i ti) (he:PEd X e te) (m:M2 X o "get" bC i e aV):PEd X (.Call (.Attribute o "get" bC) [i,e] [] aV) (qX to ti te) :=
 PE.conv (rT hu ho hi he m) fun σ H Q hup=>hup.el fun Δ M R sr hr q k=>⟨Δ,M,_,sr,hr,q,fun x M1 v H1 ⟨hx,q1⟩ e1 hr1 rv=>by
  obtain⟨kvs0,ex⟩:=Option.isSome_iff_exists.mp hx
  obtain⟨a,ks0,rfl,h1,kr0⟩:=lY hr1 rv ex
  refine⟨a,rfl,.inr ⟨ks0,h1⟩,Δ,M1,_,sr.ext e1,hr1,q1,fun y M2 u H2 q2 e2 hr2 ru=>?_⟩
  refine⟨Δ,M2,_,(sr.ext e1).ext e2,hr2,q2,fun z M3 w H3 ⟨kvs,ky,ea,ey,q3⟩ e4 hr4 rw_=>?_⟩
  subst ey
  obtain⟨a',ks,ea',h3,kr⟩:=lY hr4 ((rv.ext e2).ext e4) ea
  cases ea'
  obtain⟨b,rfl,hb⟩:=jJ (ru.ext e4)
  refine⟨fE ks ky,.inr ⟨ks,ky,b,h3,rfl,hb,rfl⟩,?_⟩
  cases ed:bq kvs ky with
  |some d =>
   obtain⟨w',hw,rw'⟩:=(kr.val ky).1 d ed
   rw[hw];rw[ed]at q3
   exact k _ M3 _ H3 q3 ((e1.trans e2).trans e4) hr4 rw'
  |none =>
   have:=(kr.val ky).2
   rw[ed]at this q3
   have hn:fE ks ky=none:=by simpa using this
   rw[hn]
   exact k _ M3 _ H3 q3 ((e1.trans e2).trans e4) hr4 rw_⟩
def uA(to ti te:TEd):TEd:=fun Δ M Q=>to Δ M fun x M1=>(asK M1 x).isSome=true/\ti Δ M1 fun y M2=>te Δ M2 fun z M3=>∃kvs k,asK M3 x=some kvs/\y=kD k/\Q ((bq kvs k).getD z) M3
theorem Bu{bC aV:Pos}(hu:X.A.units+1<cLine) (ho:PEd X o to) (hi:PEd X i ti) (he:PEd X e te) (m:M2 X o "get" bC i e aV):PEd X (.Call (.Attribute o "get" bC) [i,e] [] aV) (uA to ti te) :=
 PE.conv (rT hu ho hi he m) fun σ H Q hup=>hup.el fun Δ M R sr hr q k=>⟨Δ,M,_,sr,hr,q,fun x M1 v H1 ⟨hx,q1⟩ e1 hr1 rv=>by
  obtain⟨kvs0,ex⟩:=Option.isSome_iff_exists.mp hx
  obtain⟨a,ks0,rfl,h1,kr0⟩:=qA hr1 rv ex
  refine⟨a,rfl,.inl ⟨ks0,h1⟩,Δ,M1,_,sr.ext e1,hr1,q1,fun y M2 u H2 q2 e2 hr2 ru=>?_⟩
  refine⟨Δ,M2,_,(sr.ext e1).ext e2,hr2,q2,fun z M3 w H3 ⟨kvs,ky,ea,ey,q3⟩ e4 hr4 rw_=>?_⟩
  subst ey
  obtain⟨a',ks,ea',h3,kr⟩:=qA hr4 ((rv.ext e2).ext e4) ea
  cases ea'
  refine⟨fE ks ky,.inl ⟨ks,ky,h3,nO ru,rfl⟩,?_⟩
  cases ed:bq kvs ky with
  |some d =>
   obtain⟨w',hw,rw'⟩:=(kr.val ky).1 d ed
   rw[hw];rw[ed]at q3
   exact k _ M3 _ H3 q3 ((e1.trans e2).trans e4) hr4 rw'
  |none =>
   have:=(kr.val ky).2
   rw[ed]at this q3
   have hn:fE ks ky=none:=by simpa using this
   rw[hn]
   exact k _ M3 _ H3 q3 ((e1.trans e2).trans e4) hr4 rw_⟩
end
/-! ### instances of ours -/
def sS(f:Str) (d:D):List (Str×D)->List (Str×D)
 |[]=>[(f,d)]
 |(g,x)::r=>if g=f then(g,d)::r else(g,x)::sS f d r
section
variable{K:PySem.W.Frag}{M:DH}{H:Hp}
theorem KR.putF{f:Str}{d:D}{v:V}(rv:Rep K M H d v):∀{fs:List (Str×D)}{gs:List (Str×V)},KR K M H fs gs->KR K M H (sS f d fs) (L2.putF f v gs):=by
 intro fs gs h
 unfold KR at h ⊢
 induction h with
 |nil=>exact .cons ⟨rfl,rv⟩ .nil
 |@cons p q ps qs r t ih =>
  obtain⟨g,x⟩:=p
  obtain⟨g',y⟩:=q
  obtain⟨rfl,r2⟩:=r
  simp only[sS,L2.putF]
  split
  ·exact .cons ⟨rfl,rv⟩ t
  ·exact .cons ⟨rfl,r2⟩ ih
theorem KR.look{f:Str}{d:D}:∀{fs:List (Str×D)}{gs:List (Str×V)},KR K M H fs gs->fs.lookup f=some d->∃v,gs.lookup f=some v/\Rep K M H d v:=by
 intro fs gs h
 unfold KR at h
 induction h with
 |nil=>intro e;cases e
 |@cons p q ps qs r t ih =>
  obtain⟨g,x⟩:=p
  obtain⟨g',y⟩:=q
  obtain⟨rfl,r2⟩:=r
  intro e
  simp only[List.lookup_cons]at e ⊢
  split at e
  ·cases e;exact⟨y,rfl,r2⟩
  ·exact ih e
end
section
variable{X:Cx}{e o:Expr}{es:List Expr}{te to:TEd}{t:TAd}{pos p pos':Pos}{f x:Str}{C:Addr}
def wM(C:Addr) (f:Str) (te:TEd):TEd:=fun Δ M Q=>te Δ M fun d M1=>∃a fs z,d=.ref a/\M1 a=some (.ins C fs)/\fs.lookup f=some z/\Q z M1
theorem Gz(c:Cls X.K C) (n:cP X.K C f) (he:PEd X e te) (hb:attributeBase e f X.env (eval e X.env)=eval e X.env:=by rfl):PEd X (.Attribute e f pos) (wM C f te) :=
 PE.conv (Fh he hb) fun σ H Q hup=>hup.el fun Δ M R sr hr q k=>⟨Δ,M,_,sr,hr,q,fun d M1 v H1 ⟨a,fs,z,ed,em,el,q1⟩ e1 hr1 rv=>by
  subst ed
  simp only[Rep]at rv
  subst rv
  obtain⟨gs,⟨dx,h1⟩,kr⟩:=hr1 a _ em
  obtain⟨w,hw,rw_⟩:=kr.look el
  exact⟨a,C,dx,gs,w,rfl,h1,c,n,hw,k z M1 w H1 q1 e1 hr1 rw_⟩⟩
def z5(C:Addr) (f:Str) (to te:TEd):TSd:=fun E Δ M=>te Δ M fun y M1=>to Δ M1 fun d M2=>∃a fs,d=.ref a/\M2 a=some (.ins C fs)/\fs.length<1000/\E.nx Δ (au M2 a (.ins C (sS f y fs)))
theorem Em(c:Cls X.K C) (n:cP X.K C f) (ho:PEd X o to) (he:PEd X e te) (hs:swapsWith e (some (.Attribute o f pos')) pos.line X.env=pure false:=by rfl):PSd X (.Assign [.Attribute o f pos'] e pos) (z5 C f to te) :=
 PS.conv (Dz ho he hs) fun D σ H hup=>hup.el fun Δ M E sr hr q k=>⟨Δ,M,_,sr,hr,q,fun y M1 v H1 q1 e1 hr1 rv=>⟨Δ,M1,_,sr.ext e1,hr1,q1,fun d M2 u H2 ⟨a,fs,ed,em,hl,q2⟩ e2 hr2 ru=>by
  subst ed
  simp only[Rep]at ru
  subst ru
  obtain⟨gs,⟨dx,h2⟩,kr⟩:=hr2 a _ em
  have ew:Ext M2 H2 (au M2 a (.ins C (sS f y fs))) (upd H2 a (.ins C dx (L2.putF f v gs))):=Ext.write em
  refine⟨a,C,dx,gs,rfl,h2,c,n,by rw[<-kr.length];exact hl,?_⟩
  exact k.nx Δ _ σ _ q2 ((e1.trans e2).trans ew) (hr2.put ew ⟨_,⟨dx,aC⟩,(KR.putF (rv.ext e2) kr).ext ew⟩) (((sr.ext e1).ext e2).ext ew)⟩⟩
structure MkD(P:Program) (w:World) (K:PySem.W.Frag) (mg:Str->Option Value) (base:Heap) (x:Str) (C:Addr) (k n:Nat) (S:SpD):Prop where
 ex:∃(f:Addr) (fd:FuncData) (ps:List Str),Mk K C f/\aX P w K mg base CX0 k f fd ps (spD K n S)/\mg x=some (.ref C)/\cY K fd ps []
def zH(C:Addr) (n:Nat) (S:SpD) (t:TAd):TEd:=fun Δ M Q=>t Δ M fun ds M1=>ds.length+1=n/\∀x,M1 x=none->S (.ref x::ds) (au M1 x (.ins C [])) fun d M2=>d=.non/\Q (.ref x) M2
theorem EC{k n:Nat}{S:SpD}(F:MkD X.prog X.w X.K X.mg X.base x C k n S) (hr:cm (k+1) X.A) (hg:Gl X x) (ha:PAd X (e::es) t) (hdb:(x==("__debug__":Str))=false:=by decide)
  (he:starEach (e::es) X.env=(false,eval e X.env)::starEach es X.env:=by rfl) (hpl:(backTo pos (starEach es X.env)).any (·.1)=false:=by rfl):PEd X (.Call (.Name x p) (e::es) [] pos) (zH C n S t):=by
 obtain⟨f,fd,ps,h1,h2,h3,h4⟩:=F.ex
 refine PE.conv (AB h1 h2 hr hg h3 h4 .nil Ar ha hdb he hpl) fun σ H Q hup=>hup.el fun Δ M R sr hr q k=>⟨Δ,M,_,sr,hr,q,fun ds M1 vs H1 ⟨hl,q1⟩ e1 hr1 rv=>?_⟩
 intro a dx hx hdx hne
 rw[List.append_nil]
 have hx2:upd H1 dx (.own a) a=none:=by rw[aJ (Ne.symm hne)];exact hx
 have ea:Ext M1 H1 M1 (upd H1 dx (.own a)):=Ext.new hr1 hdx
 have ra:=hr1.new (o:=.own a) hdx
 have eb:Ext M1 (upd H1 dx (.own a)) (au M1 a (.ins C [])) (upd (upd H1 dx (.own a)) a (.ins C dx [])):=Ext.own hx2
 have rb:=ra.put eb ⟨[],⟨dx,aC⟩,.nil⟩
 refine⟨.ref a::ds,_,_,by rw[List.length_cons];exact hl,am.cons (by simp only[Rep]) ((rv.ext ea).ext eb),rb,q1 a (hr1.fresh hx),fun d M' v H' ⟨ed,q2⟩ e' hr' rv'=>?_⟩
 subst ed
 simp only[Rep]at rv'
 exact⟨rv',k _ M' _ H' q2 (((e1.trans ea).trans eb).trans e') hr' (by simp only[Rep])⟩
end
/-! ### a dict that is ours becomes a box -/
section
variable{X:Cx}{e:Expr}{te:TEd}
def Gh(t:TE):TE:=fun σ H Q=>t σ H fun x H1=>∃a ks,x=.ref a/\H1 a=some (.dT ks)/\∀o,Q x (upd H1 a (.frz o (.dT ks)))
theorem Ba{t:TE}(h:PE X e t):PE X e (Gh t):=by
 intro aa s σ H Q I q
 refine thn (h aa s σ H _ I q) fun v s1 ⟨x,H1,I1,r,a,ks,ex,ea,q1⟩=>?_
 obtain⟨o,_,I2⟩:=I1.freezeT ea
 exact⟨x,_,I2,r,q1 o⟩
def GY(t:TE):TE:=fun σ H Q=>t σ H fun x H1=>∃a ks,x=.ref a/\H1 a=some (.dK ks)/\∀o,Q x (upd H1 a (.frz o (.dK ks)))
theorem AL{t:TE}(h:PE X e t):PE X e (GY t):=by
 intro aa s σ H Q I q
 refine thn (h aa s σ H _ I q) fun v s1 ⟨x,H1,I1,r,a,ks,ex,ea,q1⟩=>?_
 obtain⟨o,_,I2⟩:=I1.freeze ea
 exact⟨x,_,I2,r,q1 o⟩
theorem dg{κ β:Type}:∀l:List (κ×β),(l.map (·.1)).zip (l.map (·.2))=l
 |[]=>rfl
 |p::l=>by rw[List.map_cons,List.map_cons,List.zip_cons_cons,dg l]
theorem vo{K:PySem.W.Frag}{M:DH}{H:Hp}{κ:Type}{kvs:List (κ×D)}{ks:List (κ×V)}(h:KR K M H kvs ks):am K M H (kvs.map (·.2)) (ks.map (·.2)):=by
 unfold KR at h
 induction h with
 |nil=>exact am.nil
 |cons r _ ih=>exact am.cons r.2 ih
def iI(kvs:List (List Key×D)):D:=.box (.dt (kvs.map (·.1))) (kvs.map (·.2))
def qU(kvs:List (Key×D)):D:=.box (.dk (kvs.map (·.1))) (kvs.map (·.2))
theorem rF{M:DH}{kvs:List (List Key×D)}:asT M (iI kvs)=some kvs:=by unfold iI;rw[A8,dg]
theorem yJ{M:DH}{kvs:List (Key×D)}:asK M (qU kvs)=some kvs:=by unfold qU;rw[BF,dg]
theorem ju{M1:DH}{H1:Hp}{a:Addr}{u:HD}{o:HO}(em:M1 a=some u):Ext M1 H1 (i5 M1 a) (upd H1 a o):=fun b w z n=>by
 have hb:b≠a:=fun w=>by rw[w,em]at n;cases n
 rw[aJ hb,lV hb];exact⟨z,n⟩
theorem zq{K:PySem.W.Frag}{M1:DH}{H1:Hp}{a:Addr}{u:HD}{o:HO}(hr:HR K M1 H1) (em:M1 a=some u):HR K (i5 M1 a) (upd H1 a o):=fun b w z=>by
 have hb:b≠a:=fun w=>by rw[w,dY]at z;cases z
 rw[lV hb]at z
 exact(hr b w z).keep (ju em) (aJ hb)
def vp(te:TEd):TEd:=fun Δ M Q=>te Δ M fun d M1=>∃a kvs,d=.ref a/\M1 a=some (.dT kvs)/\Q (iI kvs) (i5 M1 a)
theorem Fg(h:PEd X e te):PEd X e (vp te) :=
 PE.conv (Ba h) fun σ H Q hup=>hup.el fun Δ M R sr hr q k=>⟨Δ,M,_,sr,hr,q,fun d M1 v H1 ⟨a,kvs,ed,em,q1⟩ e1 hr1 rv=>by
  subst ed
  simp only[Rep]at rv
  subst rv
  obtain⟨ks,h1,kr⟩:=hr1 a _ em
  refine⟨a,ks,rfl,h1,fun o=>k _ _ _ _ q1 (e1.trans (ju em)) (zq hr1 em) ?_⟩
  simp only[iI,Rep,gE]
  refine⟨a,ks.map (·.2),rfl,⟨by rw[List.length_map,List.length_map];exact kr.length,⟨o,?_⟩,dY⟩,(vo kr).ext (ju em)⟩
  rw[aC,kr.keys,dg]⟩
def vS(te:TEd):TEd:=fun Δ M Q=>te Δ M fun d M1=>∃a kvs,d=.ref a/\M1 a=some (.dK kvs)/\Q (qU kvs) (i5 M1 a)
theorem Fq(h:PEd X e te):PEd X e (vS te) :=
 PE.conv (AL h) fun σ H Q hup=>hup.el fun Δ M R sr hr q k=>⟨Δ,M,_,sr,hr,q,fun d M1 v H1 ⟨a,kvs,ed,em,q1⟩ e1 hr1 rv=>by
  subst ed
  simp only[Rep]at rv
  subst rv
  obtain⟨ks,h1,kr⟩:=hr1 a _ em
  refine⟨a,ks,rfl,h1,fun o=>k _ _ _ _ q1 (e1.trans (ju em)) (zq hr1 em) ?_⟩
  simp only[qU,Rep,gE]
  refine⟨a,ks.map (·.2),rfl,⟨by rw[List.length_map,List.length_map];exact kr.length,⟨o,?_⟩,dY⟩,(vo kr).ext (ju em)⟩
  rw[aC,kr.keys,dg]⟩
end
/-! ### the items of a box -/
def CD(a:Addr) (o:Obj) (ks:List (Key×V)):It :=
 ⟨fun i H=>H a=some (.frz o (.dK ks))/\i<ks.length,fun i H x H'=>∃T k v,x=.ref T/\H T=none/\ks[i]?=some (k,v)/\H'=upd H T (.tup [kV k,v]),fun i H=>H a=some (.frz o (.dK ks))/\ks.length<=i⟩
section
variable{X:Cx}{aa:List (Addr×Obj)}{σ:St}{H:Hp}{s:Shared}{a:Addr}{o:Obj}{ks:List (Key×V)}
theorem tL{P:Program}{w:World}{K:PySem.W.Frag}{elts:List Expr}{x1:Nat}{pt:Pos}(it:Addr) {ep:Nat}{es:Array DictEntry}(hd:o.data=.dict es ep) (hl:es.size=ks.length):kF P w K (.Tuple elts x1 pt) (CD a o ks) [it] it (fun i h=>∃ok ov,IsItemIter h it a i es.size ep ok ov) where
 mem:=by simp
 obj:=fun i h st b hb=>by
  have e:b=it:=by simpa using hb
  subst e
  obtain⟨ok,ov,q⟩:=st
  exact⟨_,q,fun v z=>by cases z⟩
 keep:=fun i h h' ⟨ok,ov,q⟩ k=>⟨ok,ov,k it (by simp) _ q⟩
 item:=by
  intro X hP hw hK hc i aa s σ H E I hf st hg
  subst hP hw hK
  obtain⟨e,hi⟩:=hg
  obtain⟨hget,hz,hs,vs,rel,o',es',ep',q',c,d',hk,hp,_⟩:=I.hok a _ e
  rw[hget]at q';cases q'
  rw[hd]at d';cases d'
  obtain⟨ok,ov,hit⟩:=st
  obtain⟨⟨k,v⟩,hkv⟩:∃p,ks[i]?=some p:=⟨ks[i],by simp[hi]⟩
  obtain⟨⟨k',u⟩,hx,rk,ru⟩:=dZ rel i _ hkv
  have hlt:i<es.size:=by omega
  obtain⟨hkey,hval⟩:=hp.get? (e:=es[i]) (by simp[hlt]) hx
  have rkey:aD (kV k) es[i].key:=by
   have:k=k':=rk
   rw[this];exact vB hkey
  have rval:aD v es[i].val:=by rw[hval];exact ru
  refine mS hit hget hd hlt fun h1 hout hT hsz keep=>⟨_,rfl,?_⟩
  have fe:=hf it (by simp)
  have In:H s.heap.objs.size=none:=I.hok.fresh (Nat.le_refl _)
  have eT:it<s.heap.objs.size:=Heap.lt_size hit
  have I1:Inv X aa σ (upd H s.heap.objs.size (.tup [kV k,v])) { s with heap:=s.heap.push { cls:=.type "tuple",data:=.seq #[es[i].key,es[i].val] } } :=
   I.laid (t':=s.toks) (fun b o q=>Heap.get?_push_of_some _ q) (Nat.le_refl _) ⟨by simp only[List.length_cons,List.length_nil];rw[sizeLine_eq];decide,[es[i].key,es[i].val],.cons rkey (.cons rval .nil),⟨_,Heap.get?_push_size s.heap rfl,rfl,⟨0,rfl⟩,rfl⟩⟩
  have fe1:eF X aa (upd H s.heap.objs.size (.tup [kV k,v])) it:=fe.upd (Nat.ne_of_lt eT)
  obtain⟨g0,g1,g2,g3,g4,g5⟩:=fe1
  have I2:=I1.turned (t':=s.toks) (h':=h1) (it:=it) (fun b o hb q=>by
   rcases Heap.get?_push_cases q with z|z
   ·rw[z.1,z.2];exact hT
   ·exact keep b o hb z) g0 g1 g3 g4 g5
  refine wpAny_letOwnedTupleGo_items hout fun h2 he2 hs2=>?_
  have I3:=I2.turned (t':=s.toks) (h':=h2) (it:=it) (fun b o hb q=>(hs2.2 b hb).trans q) g0 g1 g3 g4 g5
  refine⟨.ref s.heap.objs.size,_,I3,rfl,⟨_,k,v,rfl,In,hkv,rfl⟩,⟨_,_,he2⟩,fun b hb=>?_⟩
  rw[show b=it by simpa using hb];exact g0
 done:=by
  intro X hP hw hK hc i aa s σ H E I hf st hg
  subst hP hw hK
  obtain⟨e,hi⟩:=hg
  obtain⟨hget,_⟩:=I.hok a _ e
  obtain⟨ok,ov,hit⟩:=st
  obtain⟨f0,f1,f2,f3,f4,f5⟩:=hf it (by simp)
  exact gT (I.ok.hd hc) hit hget hd (by omega) fun h' eb=>⟨rfl,I.turned (t':=s.toks) (fun b o hb q=>eb b o hb q) f0 f1 f3 f4 f5⟩
 self:=fun A i s Q E ⟨ok,ov,q⟩ h=>pq q h
end
section
variable{X:Cx}{l:Expr}{tl:TE}{te:TEd}{elts:List Expr}{x1:Nat}{pt bC aV:Pos}
def Hi(tl:TE):TI:=fun σ H R=>tl σ H fun x H1=>∃a o ks,x=.ref a/\H1 a=some (.frz o (.dT ks))/\R (Gd a o ks) H1
theorem xa(hl:PE X l tl) (cX:attributeBase l "items" X.env (eval l X.env)=eval l X.env:=by rfl) (cN:(bC.endLine==aV.line)=true:=by rfl):PI X (.Tuple elts x1 pt) (.Call (.Attribute l "items" bC) [] [] aV) (Hi tl):=by
 intro aa s σ H R I h
 refine wpAny_Call_method0_late cX cN (thn (hl aa s σ H _ I h) fun v s1 hup=>hup.el fun x H1 I1 r1 q1=>?_)
 obtain⟨a,o,ks,e,ea,q⟩:=q1
 subst e
 cases r1
 obtain⟨t1,t2,_⟩:=ud I1 (.inr ⟨ks,.inr ⟨o,ea⟩⟩)
 obtain⟨ho,_,hs,xs,rel,o',es,ep,q',c,hd,r,_⟩:=I1.hok a _ ea
 rw[ho]at q';cases q'
 refine⟨"dict","dict.items",PySem.F.plainAttrs_dict,PySem.F.slot_dict_items,PySem.F.type_dict_items,t1,t2,Calls.callWith_builtin rfl (PySem.evalArgs_none ?_)⟩
 refine nV hs ho c hd ?_
 have I3:=I1.kept (t':=s1.toks) (h':=s1.heap.push { cls:=.type "dict_items",data:=.fields #[.ref a] }) fun b o e=>Heap.get?_push_of_some _ e
 refine mF (d:=a) (od:=o) (es:=es) (ep:=ep) ⟨_,Heap.get?_push_size _ rfl,rfl,rfl⟩ (Heap.get?_push_of_some _ ho) hd fun h' hit keep=>?_
 have I4:=I3.kept (t':=s1.toks) (h':=h') keep
 have aU:es.size=ks.length:=by
  have h1:=congrArg List.length r
  rw[Array.length_toList,List.length_map]at h1
  rw[h1];exact(Paired.length rel).symm
 refine⟨_,[_],_,_,_,rfl,I4,uw _ hd aU,⟨_,_,hit⟩,fun b hb=>?_,q⟩
 have e:=List.mem_singleton.mp hb
 rw[e]
 exact I3.fpOk (Nat.le_refl _) (I3.hok.fresh (Nat.le_refl _))
def Gi(tl:TE):TI:=fun σ H R=>tl σ H fun x H1=>∃a o ks,x=.ref a/\H1 a=some (.frz o (.dK ks))/\R (CD a o ks) H1
theorem ub(hl:PE X l tl) (cX:attributeBase l "items" X.env (eval l X.env)=eval l X.env:=by rfl) (cN:(bC.endLine==aV.line)=true:=by rfl):PI X (.Tuple elts x1 pt) (.Call (.Attribute l "items" bC) [] [] aV) (Gi tl):=by
 intro aa s σ H R I h
 refine wpAny_Call_method0_late cX cN (thn (hl aa s σ H _ I h) fun v s1 hup=>hup.el fun x H1 I1 r1 q1=>?_)
 obtain⟨a,o,ks,e,ea,q⟩:=q1
 subst e
 cases r1
 obtain⟨t1,t2,_⟩:=ud I1 (.inl ⟨ks,.inr ⟨o,ea⟩⟩)
 obtain⟨ho,_,hs,vs,rel,o',es,ep,q',c,hd,hk,hp,_⟩:=I1.hok a _ ea
 rw[ho]at q';cases q'
 refine⟨"dict","dict.items",PySem.F.plainAttrs_dict,PySem.F.slot_dict_items,PySem.F.type_dict_items,t1,t2,Calls.callWith_builtin rfl (PySem.evalArgs_none ?_)⟩
 refine nV hs ho c hd ?_
 have I3:=I1.kept (t':=s1.toks) (h':=s1.heap.push { cls:=.type "dict_items",data:=.fields #[.ref a] }) fun b o e=>Heap.get?_push_of_some _ e
 refine mF (d:=a) (od:=o) (es:=es) (ep:=ep) ⟨_,Heap.get?_push_size _ rfl,rfl,rfl⟩ (Heap.get?_push_of_some _ ho) hd fun h' hit keep=>?_
 have I4:=I3.kept (t':=s1.toks) (h':=h') keep
 have aU:es.size=ks.length:=by
  have h1:=hp.length
  rw[Array.length_toList]at h1
  rw[h1];exact(Paired.length rel).symm
 refine⟨_,[_],_,_,_,rfl,I4,tL _ hd aU,⟨_,_,hit⟩,fun b hb=>?_,q⟩
 have e:=List.mem_singleton.mp hb
 rw[e]
 exact I3.fpOk (Nat.le_refl _) (I3.hok.fresh (Nat.le_refl _))
def vM(te:TEd):TId:=fun Δ M R=>te Δ M fun d M1=>∃kvs,d=iI kvs/\R (kvs.map fun p=>.tup [oq p.1,p.2]) M1
theorem GC(he:PEd X l te) (cX:attributeBase l "items" X.env (eval l X.env)=eval l X.env:=by rfl) (cN:(bC.endLine==aV.line)=true:=by rfl):PId X (.Tuple elts x1 pt) (.Call (.Attribute l "items" bC) [] [] aV) (vM te):=fun aa s σ H R I h =>
 PI.conv (xa he cX cN) (fun σ H R hup=>hup.el fun Δ M R' sr hr q k=>⟨Δ,M,_,sr,hr,q,fun d M1 v H1 ⟨kvs,ed,q1⟩ e1 hr1 rv=>by
  subst ed
  simp only[iI,Rep,gE]at rv
  obtain⟨a,vs,rfl,⟨hl,⟨o,ha⟩,na⟩,rl⟩:=rv
  refine⟨a,o,_,rfl,ha,k _ _ _ _ q1 e1 hr1 ?_⟩
  have kr0:KR X.K M1 H1 kvs ((kvs.map (·.1)).zip vs):=by
   have:=oe hl rl
   rwa [dg]at this
  have aU:kvs.length=((kvs.map (·.1)).zip vs).length:=kr0.length
  intro M2 H2 e3 hr3 i
  have ea:=(e3 a _ ha na).1
  refine⟨fun d hd=>?_,fun hl=>⟨ea,?_⟩⟩
  ·rw[List.getElem?_map]at hd
   cases q:kvs[i]? with
   |none=>rw[q]at hd;cases hd
   |some p =>
    rw[q]at hd;cases hd
    have hi:i<kvs.length:=(List.getElem?_eq_some_iff.mp q).1
    refine⟨⟨ea,by rw[<-aU];exact hi⟩,fun x H' hy=>?_⟩
    obtain⟨T,q',k',v',ex,hT,hk,hq,eH⟩:=hy
    subst eH;subst ex
    obtain⟨y,hy,ek,rv⟩:=dZ (kr0.ext e3) i p q
    rw[hk]at hy;cases hy
    have en:Ext M2 H2 M2 (upd H2 T (.tup [.ref q',v'])):=Ext.new hr3 hT
    have hn:=hr3.new (o:=.tup [.ref q',v']) hT
    refine⟨en,hn,?_⟩
    have mq:M2 q'=none:=by
     cases hm:M2 q' with
     |none=>rfl
     |some u =>
      obtain⟨w,z,nw⟩:=(hr3 q' u hm).some
      rw[hq]at z;cases z
      exact absurd rfl (nw _).1
    have rk:Rep X.K M2 H2 (oq p.1) (.ref q'):=lT.mpr ⟨q',_,rfl,⟨hq,mq⟩,by
     have:p.1=k':=ek
     rw[this];exact qk _⟩
    rw[Rep]
    exact⟨T,_,rfl,.inl ⟨.inl aC,hr3.fresh hT⟩,am.cons (rk.ext en) (am.cons (Rep.ext rv en) am.nil)⟩
  ·rw[<-aU];simpa using hl⟩) aa s σ H R I h
def xB(te:TEd):TId:=fun Δ M R=>te Δ M fun d M1=>∃kvs,d=qU kvs/\R (kvs.map fun p=>.tup [kD p.1,p.2]) M1
theorem G8(he:PEd X l te) (cX:attributeBase l "items" X.env (eval l X.env)=eval l X.env:=by rfl) (cN:(bC.endLine==aV.line)=true:=by rfl):PId X (.Tuple elts x1 pt) (.Call (.Attribute l "items" bC) [] [] aV) (xB te):=fun aa s σ H R I h =>
 PI.conv (ub he cX cN) (fun σ H R hup=>hup.el fun Δ M R' sr hr q k=>⟨Δ,M,_,sr,hr,q,fun d M1 v H1 ⟨kvs,ed,q1⟩ e1 hr1 rv=>by
  subst ed
  simp only[qU,Rep,gE]at rv
  obtain⟨a,vs,rfl,⟨hl,⟨o,ha⟩,na⟩,rl⟩:=rv
  refine⟨a,o,_,rfl,ha,k _ _ _ _ q1 e1 hr1 ?_⟩
  have kr0:KR X.K M1 H1 kvs ((kvs.map (·.1)).zip vs):=by
   have:=oe hl rl
   rwa [dg]at this
  have aU:kvs.length=((kvs.map (·.1)).zip vs).length:=kr0.length
  intro M2 H2 e3 hr3 i
  have ea:=(e3 a _ ha na).1
  refine⟨fun d hd=>?_,fun hl=>⟨ea,?_⟩⟩
  ·rw[List.getElem?_map]at hd
   cases q:kvs[i]? with
   |none=>rw[q]at hd;cases hd
   |some p =>
    rw[q]at hd;cases hd
    have hi:i<kvs.length:=(List.getElem?_eq_some_iff.mp q).1
    refine⟨⟨ea,by rw[<-aU];exact hi⟩,fun x H' hy=>?_⟩
    obtain⟨T,k',v',ex,hT,hk,eH⟩:=hy
    subst eH;subst ex
    obtain⟨y,hy,ek,rv⟩:=dZ (kr0.ext e3) i p q
    rw[hk]at hy;cases hy
    have en:Ext M2 H2 M2 (upd H2 T (.tup [kV k',v'])):=Ext.new hr3 hT
    have hn:=hr3.new (o:=.tup [kV k',v']) hT
    refine⟨en,hn,?_⟩
    have e':p.1=k':=ek
    rw[Rep]
    exact⟨T,_,rfl,.inl ⟨.inl aC,hr3.fresh hT⟩,am.cons (by rw[e'];exact jg) (am.cons (Rep.ext rv en) am.nil)⟩
  ·rw[<-aU];simpa using hl⟩) aa s σ H R I h
end
abbrev HZ(elt t0 i0 t1 i1 t2 i2:Expr) (f0 f1 f2:List Expr) (scope:Scope) (pos:Pos):Expr:=lcE elt [⟨t0,i0,f0,0⟩,⟨t1,i1,f1,0⟩,⟨t2,i2,f2,0⟩] scope pos
def FP(ms:List Bool) (k:Nat) (w0:TId) (g0:GD) (tc0:TTd) (w1:TId) (g1:GD) (tc1:TTd) (w2:TId) (g2:GD) (tc2:TTd) (te:TEd):TEd:=xY ms k w0 g0 tc0 (iX w1 g1 tc1 (iX w2 g2 tc2 (nz te)))
section
variable{X:Cx}{scope:Scope}{cl:List (Str×Addr)}{ms:List Bool}{ar:List Str}{elt t0 i0 t1 i1 t2 i2:Expr}{f0 f1 f2:List Expr}{pos:Pos}{w0 w1 w2:TId}{g0 g1 g2:GD}{tc0 tc1 tc2:TTd}{te:TEd}
theorem Ha(S:eG X scope cl ms ar) (fS:X.calm=true) (hi:QId X t0 i0 w0) (hg0:PGa X scope cl ar t0 g0) (hif0:∀C s H ex,QIf (aH X scope cl (X.N++ar) C s H ex) f0 tc0)
  (hi1:∀C s H ex,QId (aH X scope cl (X.N++ar) C s H ex) t1 i1 w1) (hg1:PGa X scope cl ar t1 g1) (hif1:∀C s H ex,QIf (aH X scope cl (X.N++ar) C s H ex) f1 tc1)
  (hi2:∀C s H ex,QId (aH X scope cl (X.N++ar) C s H ex) t2 i2 w2) (hg2:PGa X scope cl ar t2 g2) (hif2:∀C s H ex,QIf (aH X scope cl (X.N++ar) C s H ex) f2 tc2) (he:∀C s H ex,QEd (aH X scope cl (X.N++ar) C s H ex) elt te)
  (hs:∀x,foldedSetIterable i0 X.env x=pure x:=by intro _;rfl) (hs1:∀C x,foldedSetIterable i1 (compEnvC scope cl C X.env) x=pure x:=by intro _ _;rfl) (hs2:∀C x,foldedSetIterable i2 (compEnvC scope cl C X.env) x=pure x:=by intro _ _;rfl) :
  QEd X (.ListComp elt [⟨t0,i0,f0,0⟩,⟨t1,i1,f1,0⟩,⟨t2,i2,f2,0⟩] scope pos) (FP ms ar.length w0 g0 tc0 w1 g1 tc1 w2 g2 tc2 te):=by
 simp only[QEd.eq,QId.eq,QIf.eq]at *
 obtain⟨gv0,pg0,kg0⟩:=hg0
 obtain⟨gv1,pg1,kg1⟩:=hg1
 obtain⟨gv2,pg2,kg2⟩:=hg2
 refine(z1 (tc:=upT X.K tc0) (p:=i0.pos) (B:=rP (upI X.K w1) gv1 (upT X.K tc1) (rP (upI X.K w2) gv2 (upT X.K tc2) (kY (up X.K te)))) S fS hi pg0 hif0 (fun _ _ _ _ _ c=>?_) hs).conv (rH kg0 fun h=>qW kg1 (fun h=>qW kg2 vm h) h)
 exact rE (wi:=upI X.K w1) (tc:=upT X.K tc1) c (rE (wi:=upI X.K w2) (tc:=upT X.K tc2) c (qL (te:=up X.K te) (k:=2) (p:=i2.pos) c (he _ _ _ _) fun _ _ _=>rfl) (fun _ _ _=>rfl) (hs2 _) (hi2 _ _ _ _) (pg2 _ _ _ _) (hif2 _ _ _ _) (k:=1) (p:=i1.pos) fun _ _ _=>rfl) (fun _ _ _=>rfl) (hs1 _) (hi1 _ _ _ _) (pg1 _ _ _ _) (hif1 _ _ _ _) fun _ _ _=>rfl
end
/-! the Q forms of the rules for boxes,keys,instances -/
section
variable{X:Cx}{e i o l:Expr}{es:List Expr}{te ti to:TEd}{t:TAd}{pos p pos' bC aV:Pos}{f x:Str}{C:Addr}{elts:List Expr}{x1:Nat}{pt:Pos}
theorem yS(h:QEd X e te):QEd X e (DA te):=by simp only[QEd.eq]at *;exact GM h
theorem vw{x1}(h:QAd X es t):QEd X (.Tuple es x1 pos) (zP t):=by simp only[QEd.eq,QAd.eq]at *;exact GJ h
theorem uk(hu:X.A.units+1<cLine) (ho:QEd X o to) (hi:QEd X i ti) (hs:rq i):QEd X (.Subscript o i pos) (u7 to ti):=by simp only[QEd.eq]at *;exact Eg hu ho hi hs
theorem Ed(hu:X.A.units+1<cLine) (ho:QEd X o to) (hi:QEd X i ti) (hs:rq i):QEd X (.Subscript o i pos) (xI to ti):=by simp only[QEd.eq]at *;exact Fm hu ho hi hs
theorem uS(hu:X.A.units+1<cLine) (ho:QEd X o to) (hi:QEd X i ti) (he:QEd X e te) (hs:swapsWith e (some (.Subscript o i p)) pos.line X.env=pure false:=by rfl):QSd X (.Assign [.Subscript o i p] e pos) (su to ti te):=by simp only[QEd.eq,QSd.eq]at *;exact D6 hu ho hi he hs
theorem vc(hu:X.A.units+1<cLine) (ho:QEd X o to) (hi:QEd X i ti) (he:QEd X e te) (m:M2 X o "get" bC i e aV):QEd X (.Call (.Attribute o "get" bC) [i,e] [] aV) (qX to ti te):=by simp only[QEd.eq]at *;exact BN hu ho hi he m
theorem Bq(hu:X.A.units+1<cLine) (ho:QEd X o to) (hi:QEd X i ti) (he:QEd X e te) (m:M2 X o "get" bC i e aV):QEd X (.Call (.Attribute o "get" bC) [i,e] [] aV) (uA to ti te):=by simp only[QEd.eq]at *;exact Bu hu ho hi he m
theorem iK(c:Cls X.K C) (n:cP X.K C f) (he:QEd X e te) (hb:attributeBase e f X.env (eval e X.env)=eval e X.env:=by rfl):QEd X (.Attribute e f pos) (wM C f te):=by simp only[QEd.eq]at *;exact Gz c n he hb
theorem qB(c:Cls X.K C) (n:cP X.K C f) (ho:QEd X o to) (he:QEd X e te) (hs:swapsWith e (some (.Attribute o f pos')) pos.line X.env=pure false:=by rfl):QSd X (.Assign [.Attribute o f pos'] e pos) (z5 C f to te):=by simp only[QEd.eq,QSd.eq]at *;exact Em c n ho he hs
theorem D4{k n:Nat}{S:SpD}(F:MkD X.prog X.w X.K X.mg X.base x C k n S) (hr:cm (k+1) X.A) (hg:Gl X x) (ha:QAd X (e::es) t) (hdb:(x==("__debug__":Str))=false:=by decide)
  (he:starEach (e::es) X.env=(false,eval e X.env)::starEach es X.env:=by rfl) (hpl:(backTo pos (starEach es X.env)).any (·.1)=false:=by rfl):QEd X (.Call (.Name x p) (e::es) [] pos) (zH C n S t):=by simp only[QEd.eq,QAd.eq]at *;exact EC F hr hg ha hdb he hpl
theorem ER(h:QEd X e te):QEd X e (vp te):=by simp only[QEd.eq]at *;exact Fg h
theorem E4(h:QEd X e te):QEd X e (vS te):=by simp only[QEd.eq]at *;exact Fq h
theorem yW(he:QEd X l te) (cX:attributeBase l "items" X.env (eval l X.env)=eval l X.env:=by rfl) (cN:(bC.endLine==aV.line)=true:=by rfl):QId X (.Tuple elts x1 pt) (.Call (.Attribute l "items" bC) [] [] aV) (vM te):=by simp only[QEd.eq,QId.eq]at *;exact GC he cX cN
theorem E9(he:QEd X l te) (cX:attributeBase l "items" X.env (eval l X.env)=eval l X.env:=by rfl) (cN:(bC.endLine==aV.line)=true:=by rfl):QId X (.Tuple elts x1 pt) (.Call (.Attribute l "items" bC) [] [] aV) (xB te):=by simp only[QEd.eq,QId.eq]at *;exact G8 he cX cN
end
/-! ### reversed(list),the list a value that stays -/
def HK(a:Addr) (xs:List V):It :=
 ⟨fun i H=>H a=some (.lst xs)/\i<xs.length,fun i H x H'=>H'=H/\xs[xs.length-1-i]?=some x,fun i _=>xs.length<=i⟩
theorem xi{P:Program}{w:World}{K:PySem.W.Frag}{tg:Expr}(a it:Addr) (xs:List V):kF P w K tg (HK a xs) [it] it (fun i h=>i<=xs.length/\h.IsRevIter it a ((xs.length:Int)-1-(i:Int))) where
 mem:=by simp
 obj:=fun i h st b hb=>by
  have e:b=it:=by simpa using hb
  subst e
  obtain⟨_,o,e,c,d⟩:=st
  exact⟨o,e,fun v z=>by rw[d]at z;cases z⟩
 keep:=fun i h h' st k=>⟨st.1,st.2.at fun o e=>k it (by simp) o e⟩
 item:=by
  intro X hP hw hK hc i aa s σ H E I hf st hg
  subst hP hw hK
  obtain⟨hq,hi⟩:=hg
  obtain⟨hz,its,nn,rv,p⟩:=I.hok a _ hq
  have aU:=rv.length
  have hxi:xs.length-1-i<xs.length:=by omega
  obtain⟨u,hu,ru⟩:=rv.get (show xs[xs.length-1-i]?=some xs[xs.length-1-i]by simp[hxi])
  obtain⟨f0,f1,f2,f3,f4,f5⟩:=hf it (by simp)
  have ei:(xs.length:Int)-1-(i:Int)=((xs.length-1-i:Nat):Int):=by omega
  have st2:=st.2
  rw[ei]at st2
  refine wpAny_pyNext_rev_item st2 (items:=its.toArray) ⟨_,p,rfl,nn,rfl⟩ (x:=u) (by simpa using hu) fun h' st' sb=>?_
  have I1:Inv X aa σ H { s with heap:=h' }:=I.turned (t':=s.toks) (fun b o hb e=>(sb.2 b hb).trans e) f0 f1 f3 f4 f5
  obtain⟨o,e,c,d⟩:=id st'
  have e2:((xs.length-1-i:Nat):Int)-1=(xs.length:Int)-1-((i+1:Nat):Int):=by omega
  rw[e2]at st'
  exact⟨u,rfl,pC (s:={ s with heap:=h' }) e c d (by decide) ⟨xs[xs.length-1-i],H,I1,ru,⟨rfl,by simp[hxi]⟩,⟨hi,st'⟩,fun b hb=>(hf b hb).1⟩⟩
 done:=by
  intro X hP hw hK hc i aa s σ H E I hf st hg
  subst hP hw hK
  obtain⟨f0,f1,f2,f3,f4,f5⟩:=hf it (by simp)
  have e:i=xs.length:=Nat.le_antisymm st.1 hg
  subst e
  have st2:=st.2
  rw[show(xs.length:Int)-1-(xs.length:Int)=-1 by omega]at st2
  exact wpAny_pyNext_rev_end (I.ok.hd hc) st2 fun h' eb=>⟨rfl,I.turned (t':=s.toks) (fun b o hb e=>eb b o hb e) f0 f1 f3 f4 f5⟩
 self:=fun _ _ _ _ _ st h=>wpAny_pyIter_revIter st.2 h
section
variable{X:Cx}{a b c e o i:Expr}{es:List Expr}{te ta tb to ti:TEd}{t:TAd}{pos:Pos}{tg iter:Expr}
def uy(ta:TAd):TId:=fun Δ M R=>ta Δ M fun ds M1=>∃es,ds=[.lst es]/\(es.length<=sizeLine->R es.reverse M1)
theorem E7{p:Pos}(hg:Gl X "reversed") (hm:X.mg "reversed"=none) (ha:PAd X [a] t) (hs:starEach [a] X.env=[(false,eval a X.env)]:=by rfl):PId X tg (.Call (.Name "reversed" p) [a] [] pos) (uy t):=by
 intro aa s σ H R I hh
 obtain⟨Δ,M,R',sr,hr,q,k⟩:=hh
 refine Call_ (fZ I hg hm oH (PyProof.Rows.callWith_type1 (thn (ha pos aa s σ H (fun vs H1=>∃es M1,am X.K M1 H1 [.lst es] vs/\(es.length<=sizeLine->R' es.reverse M1)/\Ext M H M1 H1/\HR X.K M1 H1) I ⟨Δ,M,_,sr,hr,q,fun ds M1 vs H1 ⟨es,ed,q1⟩ e1 hr1 rv=>⟨es,M1,by rw[<-ed];exact rv,q1,e1,hr1⟩⟩) fun us s1 ⟨vs,H1,I1,r1,es,M1,rv,q1,e1,hr1⟩=>?_) hs))
 obtain⟨v,rfl,rt⟩:=rv.one
 cases r1 with
 |cons r rr =>
  cases rr
  simp only[Rep]at rt
  obtain⟨ad,vs,rfl,ta,rl⟩:=rt
  cases r
  obtain⟨hz,its,nn,rvv,pt⟩:=I1.hok ad _ ta.1
  have hl1:=rvv.length
  have hl2:=rl.length
  refine call_reversed_list (items:=its.toArray) ⟨_,pt,rfl,nn,rfl⟩ ?_
  refine wpAny_pyIter_revIter (l:=ad) (i:=(its.toArray.size:Int)-1) ⟨_,Heap.get?_push_size _ rfl,rfl,rfl⟩ ?_
  refine⟨s1.heap.objs.size,[s1.heap.objs.size],_,_,H1,rfl,I1.kept (t':=s1.toks) fun b o e=>Heap.get?_push_of_some _ e,xi ad _ vs,⟨Nat.zero_le _,_,Heap.get?_push_size _ rfl,rfl,?_⟩,rD (o:=default) I1,?_⟩
  ·show Data.fields _=_
   have e1:(its.toArray.size:Int)-1=(vs.length:Int)-1-((0:Nat):Int):=by simp;omega
   rw[e1]
  ·refine k _ M1 _ H1 (q1 (by omega)) e1 hr1 fun M2 H2 e2 hr2 i=>⟨fun d hd=>?_,fun hl=>by show vs.length<=i;rw[<-hl2];simpa using hl⟩
   have hi:i<es.length:=by
    have:=(List.getElem?_eq_some_iff.mp hd).1
    simpa using this
   rw[List.getElem?_reverse hi]at hd
   obtain⟨v,gv,r⟩:=rl.get hd
   refine⟨⟨(ta.ext e2).1,by omega⟩,fun x H' ⟨eH,y⟩=>?_⟩
   subst eH
   rw[<-hl2,gv]at y;cases y
   exact⟨Ext.refl _ _,hr2,r.ext e2⟩
theorem Bw{p:Pos}(hg:Gl X "reversed") (hm:X.mg "reversed"=none) (ha:QAd X [a] t) (hs:starEach [a] X.env=[(false,eval a X.env)]:=by rfl):QId X tg (.Call (.Name "reversed" p) [a] [] pos) (uy t):=by
 simp only[QAd.eq,QId.eq]at *
 exact E7 hg hm ha hs
/-! ### d[k],k a tuple of the text or any other that is known -/
theorem DR{aa:List (Addr×Obj)}{σ:St}{H:Hp}{s:Shared}{b:Addr}{ks:List Key}(I:Inv X aa σ H s) (h:SqT X.K H b (ks.map kV)):(tupleKind (aT X.prog X.w)).is s.heap ks b:=by
 obtain⟨its,r,p,_⟩:=I.tuple h
 obtain⟨ob,h1,h2,n,h3⟩:=p
 exact⟨ob,its.toArray,n,h1,h2,h3,by simpa using kN r⟩
def Eh(K:PySem.W.Frag) (td ty:TE):TE:=fun σ H Q=>td σ H fun x H1=>ty σ H1 fun y H2=>∃a b kvs k v,x=.ref a/\y=.ref b/\Rd H2 a (.dT kvs)/\SqT K H2 b (k.map kV)/\fE kvs k=some v/\Q v H2
theorem zk{td ty:TE}(hu:X.A.units+1<cLine) (ho:PE X o td) (hi:PE X i ty) (hs:rq i):PE X (.Subscript o i pos) (Eh X.K td ty):=by
 intro aa s σ H Q I h
 refine vV PySem.F.slot_dict_getitem.lookup hs (thn (ho aa s σ H _ I h) fun u s1 hup=>hup.el fun x H1 I1 rx q1=>thn (hi aa s1 σ H1 _ I1 q1) fun iv s2 ⟨y,H2,I2,ry,a,b,kvs,k,v,ex,ey,e,eb,l,q2⟩=>?_)
 subst ex;subst ey
 obtain rfl:u=Value.ref a:=rx
 cases(show iv=Value.ref b from ry)
 obtain⟨z,hd,xs,rel,dd⟩:=k6 I2.hok e
 refine⟨dd.typeIs,?_⟩
 obtain⟨w',hw,rw'⟩:=iH.some_of (v:=v) (o:=(atKey xs k).map (·.2)) (by rw[<-l];exact rel.val k)
 obtain⟨p,hp,hp2⟩:=Option.map_eq_some_iff.mp hw
 refine wpAny_getItem_heap (tupleKind_room_in1 hu) (DR I2 eb) dd hp ?_
 rw[hp2]
 exact⟨v,H2,I2.tok _,rw',q2⟩
def Ah(to ti:TEd):TEd:=fun Δ M Q=>to Δ M fun x M1=>ti Δ M1 fun y M2=>∃kvs ks d,asT M2 x=some kvs/\y=.tup (ks.map kD)/\bq kvs ks=some d/\Q d M2
theorem Dj(hu:X.A.units+1<cLine) (ho:PEd X o to) (hi:PEd X i ti) (hs:rq i):PEd X (.Subscript o i pos) (Ah to ti) :=
 PE.conv (zk hu ho hi hs) fun σ H Q hup=>hup.el fun Δ M R sr hr q k=>⟨Δ,M,_,sr,hr,q,fun x M1 v H1 q1 e1 hr1 rv=>⟨Δ,M1,_,sr.ext e1,hr1,q1,fun y M2 u H2 ⟨kvs,ky,d,ea,ey,ed,q2⟩ e2 hr2 ru=>by
  subst ey
  obtain⟨a,ks,rfl,h2,kr⟩:=lY hr2 (rv.ext e2) ea
  simp only[Rep]at ru
  obtain⟨b,vs,rfl,tb,rl⟩:=ru
  obtain⟨w,hw,rw_⟩:=(kr.val ky).1 d ed
  refine⟨a,b,ks,ky,w,rfl,rfl,h2,?_,hw,k d M2 w H2 q2 (e1.trans e2) hr2 rw_⟩
  rw[<-jD rl];exact tb.sq⟩⟩
theorem D3(hu:X.A.units+1<cLine) (ho:QEd X o to) (hi:QEd X i ti) (hs:rq i):QEd X (.Subscript o i pos) (Ah to ti):=by simp only[QEd.eq]at *;exact Dj hu ho hi hs
end
/-! ### {k: v},k a tuple at hand -/
section
variable{X:Cx}{a b:Expr}{ta tb:TEd}{tk tv:TE}{pos:Pos}
def EV(tk tv:TE):TE:=fun σ H Q=>∀p,H p=none->tk σ (upd H p (.dT [])) fun x H1=>tv σ H1 fun y H2=>∃b ks,x=.ref b/\H2 p=some (.dT [])/\H2 b=some (.tup (ks.map kV))/\Q (.ref p) (upd H2 p (.dT [(ks,y)]))
theorem xA(hu:X.A.units+1<cLine) (hk:PE X a tk) (hv:PE X b tv):PE X (.Dict [some a] [b] pos) (EV tk tv):=by
 intro aa s σ H Q I q
 have hn:=I.hok.fresh (Nat.le_refl s.heap.objs.size)
 have I1:=I.laid (a:=s.heap.objs.size) (o:=.dT []) (h':=s.heap.push { cls:=.type "dict",data:=.dict #[] }) (t':=s.toks) (fun _ _ q=>Heap.get?_push_of_some _ q) (Nat.le_refl _) (tI s.heap I.big)
 refine wpAny_Dict_any rfl rfl (by simp) (by simp) (pairTrees_cons_walk (thn (hk aa _ σ _ _ I1 (q _ hn)) fun u s1 hup=>hup.el fun x H1 I2 rx q1=>thn (hv aa s1 σ H1 _ I2 q1) fun w2 s2 ⟨y,H2,I3,ry,bb,ks,ex,ep,eb,q2⟩=>pairTrees_nil_walk ?_))
 subst ex
 cases(show u=Value.ref bb from rx)
 obtain⟨z,hd,xs,rel,dd⟩:=CF I3.hok ep
 have hx0:xs=[]:=by cases rel;rfl
 subst hx0
 unfold storeAll
 simp only[List.forIn_cons,List.forIn_nil]
 refine wpAny_bind (wpAny_bind (wpAny_dictSet_heap (knd:=tupleKind (aT X.prog X.w)) (hsz:=by simp) (by show X.A.units<cLine;omega) (jf I3.hok eb) dd fun h' dd' hs=>wpAny_pure (wpAny_pure ?_)))
 obtain⟨qo,es,epo,hq,h2,h3,h4,_,h5⟩:=dd'
 have hput:dS ([]:List (List Key×V)) ks y=[(ks,y)]:=rfl
 have I4:=jC (t':=s2.toks+(tupleKind (aT X.prog X.w)).draws ks) (ob:=.dT (dS [] ks y)) I3 (by rw[ep];exact True.intro) hs ⟨qo,hq⟩ ⟨by rw[hput,sizeLine_eq,List.length_singleton];decide,hd,_,(rel.put ks eb ry).keeps fun c ys ec=>by
  rw[aJ (CM ec ep (fun z=>nomatch z))]
  exact ec,qo,es,epo,hq,h2,h3,h4,h5⟩
 rw[hput]at I4
 exact⟨.ref s.heap.objs.size,_,I4,rfl,q2⟩
def uD(tk tv:TEd):TEd:=fun Δ M Q=>∀p,M p=none->tk Δ (au M p (.dT [])) fun x M1=>tv Δ M1 fun y M2=>∃ks,x=oq ks/\M2 p=some (.dT [])/\Q (.ref p) (au M2 p (.dT [(ks,y)]))
theorem Cz(hu:X.A.units+1<cLine) (ha:PEd X a ta) (hb:PEd X b tb):PEd X (.Dict [some a] [b] pos) (uD ta tb) :=
 PE.conv (xA hu ha hb) fun σ H Q hup=>hup.el fun Δ M R sr hr q k=>fun p hp=>by
  have e0:Ext M H (au M p (.dT [])) (upd H p (.dT [])):=Ext.own hp
  refine⟨Δ,_,_,sr.ext e0,hr.put e0 ⟨[],aC,.nil⟩,q p (hr.fresh hp),fun x M1 v H1 q1 e1 hr1 rv=>⟨Δ,M1,_,(sr.ext e0).ext e1,hr1,q1,fun y M2 u H2 ⟨ky,ex,em,q2⟩ e2 hr2 ru=>?_⟩⟩
  subst ex
  obtain⟨ks,h2,kr⟩:=hr2 p _ em
  cases kr
  obtain⟨bb,rfl,hb⟩:=jJ (rv.ext e2)
  have ew:Ext M2 H2 (au M2 p (.dT [(ky,y)])) (upd H2 p (.dT [(ky,u)])):=Ext.write em
  exact⟨bb,ky,rfl,h2,hb,k _ _ _ _ q2 ((e0.trans (e1.trans e2)).trans ew) (hr2.put ew ⟨_,aC,.cons ⟨rfl,ru.ext ew⟩ .nil⟩) (by simp only[Rep])⟩
theorem B2(hu:X.A.units+1<cLine) (ha:QEd X a ta) (hb:QEd X b tb):QEd X (.Dict [some a] [b] pos) (uD ta tb):=by simp only[QEd.eq]at *;exact Cz hu ha hb
end
/-! ### list(d),d a box;max(l),l a list of ints -/
def u6:D->Option D
 |.box (.dk ks) _=>some (.lst (ks.map kD))
 |_=>none
theorem vK{kvs:List (Key×D)}:u6 (qU kvs)=some (.lst (kvs.map fun p=>kD p.1)):=by
 show some (D.lst ((kvs.map (·.1)).map kD))=_
 rw[List.map_map];rfl
theorem oN{P:Program}{w:World}:∀{ks:List (Key×V)}{us:List Value},us.length=ks.length->(∀(j:Nat) (v:Value),us[j]?=some v->∃k x,ks[j]?=some (k,x)/\aD (kV k) v)->az (ks.map fun p=>kV p.1) us
 |[],us,h,_=>by
  have:us=[]:=List.eq_nil_of_length_eq_zero h
  subst this;exact .nil
 |_::_,[],h,_=>by cases h
 |p::ks,u::us,h,hh=>by
  rw[List.map_cons]
  obtain⟨k,x,e,r⟩:=hh 0 u rfl
  cases e
  exact .cons r (oN (P:=P) (w:=w) (Nat.succ.inj h) fun j v hv=>hh (j+1) v (by simpa using hv))
section
variable{X:Cx}
theorem uj(hc:X.calm=true):dN X (.type "list") (fun xs H Q=>∃p ks o,xs=[.ref p]/\H p=some (.frz o (.dK ks))/\∀l,H l=none->Q (.ref l) (upd H l (.lst (ks.map fun p=>kV p.1)))):=by
 intro aa s σ H xs us Q I r h
 obtain⟨p,ks,o,rfl,hq,q⟩:=h
 obtain⟨u,rfl,rx⟩:=rZ r
 cases rx
 obtain⟨ho,hz,hs,vs,rel,o',es,ep,q',c,hd,hr⟩:=I.hok p _ hq
 have da:s.heap.DictAt (aT X.prog X.w) p vs ep:=⟨o',es,q',c,hd,hr⟩
 have hl:ks.length=vs.length:=rel.length
 refine PySem.W.kdl_call (PySem.W.kdl_dict (knd:=aT X.prog X.w) (kvs:=vs) (ep:=ep) hs) (I.ok.hd hc) da (by rw[<-hl];exact hz) fun h' tk acc' c' kp e items=>?_
 have hv:az (ks.map fun p=>kV p.1) acc'.toList:=oN (P:=X.prog) (w:=X.w) (by rw[Array.length_toList,items.1,hl]) fun j v hj=>by
  obtain⟨k,x,hx,hk⟩:=items.2 j v (by rw[<-Array.getElem?_toList];exact hj)
  have hjl:j<ks.length:=by rw[hl];exact(List.getElem?_eq_some_iff.mp hx).1
  obtain⟨y,hy,ek,_⟩:=dZ rel j ks[j] (by simp[hjl])
  rw[hx]at hy;cases hy
  refine⟨k,ks[j].2,?_,vB hk⟩
  rw[List.getElem?_eq_getElem hjl]
  have e2:ks[j].1=k:=ek
  rw[<-e2]
 exact⟨.ref s.heap.objs.size,_,I.laid (t':=tk) kp (Nat.le_refl _) (show bY X.prog X.w _ h' _ (.lst _)from⟨by rw[List.length_map];exact hz,acc'.toList,c',hv,e⟩),rfl,q _ (I.hok.fresh (Nat.le_refl _))⟩
theorem pW{K:PySem.W.Frag}{M:DH}{H:Hp}:∀{ks:List Key}{vs:List V},ks.length=vs.length->am K M H (ks.map kD) ((ks.zip vs).map fun p=>kV p.1)
 |[],vs,_=>by simp only[List.map_nil,List.zip_nil_left];exact am.nil
 |k::ks,[],h=>by cases h
 |k::ks,v::vs,h=>by
  rw[List.map_cons,List.zip_cons_cons,List.map_cons]
  exact am.cons jg (pW (Nat.succ.inj h))
theorem A7(hc:X.calm=true):cb X (.type "list") (kT u6):=cb.of (uj hc) fun H M xs ds dz Q hr rp e q=>by
 obtain⟨d,rfl,e0⟩:=cJ e
 clear e
 obtain⟨v,rfl,r⟩:=kZ rp
 cases d with
 |box t ds =>
  cases t with
  |dk ks =>
   cases e0
   simp only[aQ,Rep,gE]at r
   obtain⟨a,vs,rfl,⟨hl,⟨o,ha⟩,_⟩,rl⟩:=r
   exact⟨a,_,o,rfl,ha,fun l hl'=>iZ hr hl' (pW hl) q⟩
  |_=>cases e0
 |_=>cases e0
def AG:List Int->Option Int
 |[]=>none
 |n::ns=>some (ns.foldl max n)
theorem km:∀(ns:List Int) (n:Int),(∀a∈n::ns,a<=ns.foldl max n)/\ns.foldl max n∈n::ns
 | [],n => ⟨fun a h => by
   rw[List.mem_singleton.mp h]
   exact Int.le_refl _,List.mem_cons_self⟩
 |m::ns,n=>by
  obtain⟨h1,h2⟩:=km ns (max n m)
  rw[List.foldl_cons]
  have h3:=h1 (max n m) (.head _)
  refine⟨fun a h=>?_,?_⟩
  ·rcases List.mem_cons.mp h with e|h
   ·omega
   ·rcases List.mem_cons.mp h with e|h
    ·omega
    ·exact h1 a (.tail _ h)
  ·rcases List.mem_cons.mp h2 with e|h
   ·by_cases c:n<=m
    ·have:ns.foldl max (max n m)=m:=by omega
     rw[this];exact .tail _ (.head _)
    ·have:ns.foldl max (max n m)=n:=by omega
     rw[this];exact .head _
   ·exact .tail _ (.tail _ h)
def BW:D->Option D
 |.lst ds=>((gb ds).bind AG).map D.int
 |_=>none
theorem DW{ns:List Int}:BW (.lst (ns.map D.int))=(AG ns).map D.int:=by simp only[BW,m7,Option.bind_some]
theorem ET(hc:X.calm=true):cb X (.builtin "max") (kT BW):=by
 intro aa s σ H M xs us ds dz Q I hr rv rp e k
 obtain⟨d,rfl,e0⟩:=cJ e
 clear e
 obtain⟨v,rfl,r⟩:=kZ rp
 obtain⟨u,rfl,ru⟩:=az.one rv
 cases d with
 |lst ds =>
  simp only[BW]at e0
  cases q:gb ds with
  |none=>rw[q]at e0;cases e0
  |some ns =>
   rw[q]at e0
   cases ns with
   |nil=>cases e0
   |cons n ns =>
    cases e0
    obtain⟨l,vs,rfl,sq,rl⟩:=r
    cases ru
    obtain⟨its,rv,pl,hz⟩:=I.list (SqL.of sq)
    obtain⟨ys,e1,e2⟩:=pJ q rl rv
    have hsz:0<ys.size:=by
     have h:=congrArg List.length e2
     simp at h;omega
    refine max_intList (xs:=ys) (I.ok.hd hc) (by rw[<-e1];exact pl.isList) hsz fun v h' tk hv kk=>?_
    obtain⟨t,rfl⟩:=intItems_at hv
    obtain⟨h1,h2⟩:=argBest_gt (numAt ys) (ys.size-1)
    have I1:Inv X aa σ H { s with heap:=h',toks:=tk }:=I.kept (t':=tk) kk
    refine⟨.int _,H,I1,⟨_,rfl⟩,k _ H (Ext.refl _ _) hr ?_⟩
    obtain⟨m1,m2⟩:=km ns n
    have e3:∀j,j<ys.size->numAt ys j∈n::ns:=fun j hj=>by
     rw[numAt_eq,e2]
     exact getD_mem (by rw[<-e2,List.length_map,Array.length_toList];exact hj)
    have a1:=m1 _ (e3 _ (Nat.lt_of_le_of_lt h1 (by omega)))
    have a2:ns.foldl max n<=numAt ys (argBest (fun i j=>decide (numAt ys i > numAt ys j)) (ys.size-1)):=by
     rw[<-e2]at m2
     obtain⟨j,hj,ej⟩:=mem_getD m2
     rw[List.length_map,Array.length_toList]at hj
     rw[<-ej,<-numAt_eq]
     exact h2 j (by omega)
    have:numAt ys (argBest (fun i j=>decide (numAt ys i > numAt ys j)) (ys.size-1))=ns.foldl max n:=Int.le_antisymm a1 a2
    rw[this]
    simp[Rep]
 |_=>cases e0
end
def F7(s:Stmt) (i:Nat):Stmt:=match s with
 |.ClassDef _ _ _ b _ _ _ _ _ _ _=>b.getD i (.Pass ⟨0,0,0,0⟩)
 |_=>.Pass ⟨0,0,0,0⟩
def CW(K:PySem.W.Frag) (mg:Str->Option Value) (x:Str) (ks:List Key):Prop:=∃a,mg x=some (.ref a)/\SqT K (fun _=>none) a (ks.map kV)
section
variable{X:Cx}{x:Str}{ks:List Key}{pos:Pos}
theorem vb(hg:Gl X x) (hm:CW X.K X.mg x ks) (hd:(x==("__debug__":Str))=false:=by decide):QEd X (.Name x pos) (dC (.tup (ks.map kD))):=by
 simp only[QEd.eq]at *
 obtain⟨a,h1,h2⟩:=hm
 refine PE.conv (qx (v:=.ref a) hg h1 rfl hd) fun σ H Q hup=>hup.el fun Δ M R sr hr q k=>?_
 refine k _ M _ H q (Ext.refl _ _) hr ?_
 simp only[Rep]
 exact⟨a,_,rfl,.inr h2,qk ks⟩
end
/-! int(b) -/
def Hz:D->Option D
 |.int i=>some (.int i)
 |.bl k=>some (.int (if k then 1 else 0))
 |_=>none
theorem Ex{k:Bool}:Hz (.bl k)=some (.int (if k then 1 else 0)):=rfl
/-! ### sorted of texts -/
def ltS(a b:Str):Bool:=decide (a.cps.toList<b.cps.toList)
def leS(a b:Str):Bool:=!ltS b a
theorem xP{a b:Str}(h:a.cps.toList=b.cps.toList):a=b:=by
 cases a;cases b
 simp only[Str.mk.injEq]
 exact Array.toList_inj.mp h
theorem v7(a:Str):ltS a a=false:=decide_eq_false (List.lt_irrefl _)
theorem kE{a b c:Str}(h1:ltS a b=true) (h2:ltS b c=true):ltS a c=true:=decide_eq_true (List.lt_trans (of_decide_eq_true h1) (of_decide_eq_true h2))
theorem rA{a b:Str}(h1:ltS a b=false) (h2:ltS b a=false):a=b :=
 xP (List.le_antisymm (List.not_lt.mp (of_decide_eq_false h2)) (List.not_lt.mp (of_decide_eq_false h1)))
theorem vv{a b c:Str}(h:ltS a c=true):ltS a b=true∨ltS b c=true:=by
 cases h1:ltS a b with
 |true=>exact .inl rfl
 |false =>
  refine .inr ?_
  cases h2:ltS b a with
  |true=>exact kE h2 h
  |false=>rw[<-rA h1 h2];exact h
def GP:KeyOrd where
 α:=Str
 blt:=ltS
 irrefl:=v7
 trans _ _ _:=kE
 negTrans _ _ _:=vv
 total _ _:=rA
theorem Ac{a b:Str}(h1:leS a b=true) (h2:leS b a=true):a=b:=rA (by simpa[leS]using h2) (by simpa[leS]using h1)
def aZ(ps:List Str):List Str:=ps.mergeSort leS
theorem di(ps:List Str):(aZ ps).Perm ps:=List.mergeSort_perm _ _
theorem sj(ps:List Str):(aZ ps).Pairwise fun a b=>leS a b=true :=
 List.pairwise_mergeSort (fun a b c h1 h2=>by
  simp only[leS,Bool.not_eq_true']at *
  cases h:ltS c a with
  |false=>rfl
  |true =>
   rcases vv (b:=b) h with z|z
   ·rw[h2]at z;cases z
   ·rw[h1]at z;cases z) (fun a b=>by
  cases h:leS a b with
  |true=>rfl
  |false =>
   have h':ltS b a=true:=by simpa[leS]using h
   cases h2:ltS a b with
   |false=>simp[leS,h2]
   |true=>have:=kE h' h2;rw[v7]at this;cases this) ps
theorem mi{ps qs:List Str}(h:qs.Perm ps) (hs:qs.Pairwise fun a b=>leS a b=true):qs=aZ ps :=
 List.Perm.eq_of_pairwise (le:=fun a b=>leS a b=true) (fun a b _ _ h1 h2=>Ac h1 h2) hs (sj ps) (h.trans (di ps).symm)
section
variable{X:Cx}{aa:List (Addr×Obj)}{s:Shared}{σ:St}{H:Hp}{M:DH}
theorem mY(ns:List Str):(List.range ns.length).map (fun i=>ns.getD i default)=ns:=by
 apply List.ext_getElem (by simp)
 intro i h1 h2
 simp[List.getElem?_eq_getElem h2]
theorem zZ{K:PySem.W.Frag}{ns:List Str}{vs:List V}{us:List Value}(rl:am K M H (ns.map D.str) vs) (rv:az vs us) {i:Nat}(hi:i<ns.length):∃t,us[i]?=some (.str ns[i] t):=by
 obtain⟨v,g,r⟩:=rl.get (i:=i) (d:=D.str ns[i]) (by simp[hi])
 obtain⟨u,g',r'⟩:=rv.get g
 simp only[Rep]at r
 subst r
 obtain⟨t,rfl⟩:=r'
 exact⟨t,g'⟩
theorem oZ{K:PySem.W.Frag}{ns:List Str}{vs:List V}(rl:am K M H (ns.map D.str) vs):∀{l:List Nat},(∀i∈l,i<ns.length)->am K M H ((l.map fun i=>ns.getD i default).map D.str) (l.map fun i=>vs.getD i .non)
 |[],_=>rfl
 |i::l,h=>by
  have hi:=h i (.head _)
  obtain⟨v,g,r⟩:=rl.get (i:=i) (d:=D.str ns[i]) (by simp[hi])
  simp only[List.map_cons,am]
  refine⟨v,_,?_,?_,oZ rl fun j hj=>h j (.tail _ hj)⟩
  ·rw[List.getD_eq_getElem?_getD,g];rfl
  ·rw[List.getD_eq_getElem?_getD,List.getElem?_eq_getElem hi];exact r
theorem Af(I:Inv X aa σ H s) (hr:HR X.K M H) {ns:List Str}(h64:ns.length<64) {l:Addr}{T:String}{o:Obj}{n:Nat}{vs:List V}{its:List Value}(rl:am X.K M H (ns.map D.str) vs) (rv:az vs its) (hzv:vs.length<=sizeLine)
  (hT:T="list"∨T="tuple") (hg:s.heap.get? l=some o) (hcl:o.cls=.type T) (hd:o.data=.seq its.toArray n) {Q:VK}
  (k:∀w H',Ext M H M H'->HR X.K M H'->Rep X.K M H' (.lst ((aZ ns).map D.str)) w->Q w H'):wpAny (model X.prog X.w) X.A (call (.builtin "sorted") [.ref l]) (EP X aa σ Q) X.xe s:=by
 have hn:ns.length=its.length:=by rw[<-rv.length,<-rl.length,List.length_map]
 have at_:=fun i (hi:i<ns.length)=>zZ rl rv hi
 have key:∀i (hi:i<ns.length),ns.getD i default=ns[i]:=fun i hi=>by rw[List.getD_eq_getElem?_getD,List.getElem?_eq_getElem hi];rfl
 refine wU (O:=GP) (key:=fun i=>ns.getD i default) (κ:=oneType') hT hg hcl hd (by omega) (fun s1 Q' two kp q=>?_) (fun i j s1 C hi hj kp q=>?_) fun h1 p x c h' kp0 hp hs hx kp ho=>?_
 ·exact PySem.W.kas_kind (T:=.type "str") two (fun v hv=>by
   obtain⟨i,hi⟩:=List.mem_iff_getElem?.mp hv
   have hi2:i<ns.length:=by rw[hn];exact(List.getElem?_eq_some_iff.mp hi).1
   obtain⟨t,g⟩:=at_ i hi2
   rw[g]at hi;cases hi
   exact PySem.W.Looks.of_pure rfl) rfl rfl q
 ·rw[<-hn]at hi hj
  obtain⟨t,g⟩:=at_ i hi
  obtain⟨u,g'⟩:=at_ j hj
  show wpAny _ _ (keyLt' _ _ _) _ _ _
  rw[ik g,ik g']
  refine PySem.W.kas_lt_str ?_
  have q':C (ltS (ns.getD i default) (ns.getD j default)) s1:=q
  rwa [key i hi,key j hj]at q'
 ·have hlt:∀i∈p.toList,i<ns.length:=fun i hi=>by rw[hn];exact List.mem_range.mp (hp.mem_iff.mp hi)
  have hlv:vs.length=its.length:=rv.length
  have lo:(p.toList.map fun i=>vs.getD i .non).length=its.length:=by rw[List.length_map,Array.length_toList];exact hp.size
  have I1:Inv X aa σ H { s with heap:=h1,toks:=s.toks }:=I.kept kp0
  have I2:=I1.laid (t':=s.toks) (o:=.lst (p.toList.map fun i=>vs.getD i .non)) kp hx (show bY X.prog X.w _ h' x (.lst _)from⟨by rw[lo,<-hlv];exact hzv,ic its p,c,pw rv (fun i hi=>by rw[hlv,<-hn];exact hlt i hi),ho⟩)
  have es:(p.toList.map fun i=>ns.getD i default)=aZ ns:=by
   have hp':p.toList.Perm (List.range ns.length):=by rw[hn];exact hp
   have hm:=hp'.map fun i=>ns.getD i default
   rw[mY]at hm
   refine mi hm ?_
   rw[List.pairwise_iff_getElem]
   intro i j hi hj hij
   have sz:p.size=its.length:=hp.size
   rw[List.length_map,Array.length_toList]at hi hj
   have:=hs i j (Nat.le_of_lt hij) (by omega)
   have e1:kp_ p i=p.toList[i]'(by simpa using hi):=by simp[kp_,Array.getD,hi]
   have e2:kp_ p j=p.toList[j]'(by simpa using hj):=by simp[kp_,Array.getD,hj]
   have g:leS (ns.getD (kp_ p i) default) (ns.getD (kp_ p j) default)=true:=by
    have z:ltS (ns.getD (kp_ p j) default) (ns.getD (kp_ p i) default)=false:=this
    simp only[leS,z,Bool.not_false]
   rw[e1,e2]at g
   simpa using g
  refine⟨.ref x,_,I2,rfl,iZ hr (I1.hok.fresh hx) (oZ rl hlt) fun w H' a b c=>?_⟩
  rw[es]at c
  exact k w H' a b c
def iR:List D->Option (List Str)
 |[]=>some []
 |.str x::ds=>(iR ds).map (x::·)
 |_=>none
theorem oP:∀{ns:List Str},iR (ns.map D.str)=some ns
 |[]=>rfl
 |n::ns=>by simp[iR,oP (ns:=ns)]
theorem tX:∀{ds:List D}{ns:List Str},iR ds=some ns->ds=ns.map D.str:=by
 intro ds
 induction ds using iR.induct with
 |case1=>intro ns e;cases e;rfl
 |case2 i ds ih =>
  intro ns e
  simp only[iR]at e
  cases q:iR ds with
  |none=>rw[q]at e;cases e
  |some ms=>rw[q]at e;cases e;rw[ih q];rfl
 |case3 ds h1 h2=>intro ns e;unfold iR at e;split at e<;>simp_all
def vR:D->Option D
 |.lst ds=>if ds.length<64 then(iR ds).map fun ns=>.lst ((aZ ns).map D.str)else none
 |_=>none
theorem Cr{ns:List Str}(h:ns.length<64):vR (.lst (ns.map D.str))=some (.lst ((aZ ns).map D.str)):=by simp[vR,oP,h]
theorem BV:cb X (.builtin "sorted") (kT vR):=by
 intro aa s σ H M xs us ds dz Q I hr rv rp e k
 obtain⟨d,rfl,e0⟩:=cJ e
 clear e
 obtain⟨v,rfl,r⟩:=kZ rp
 obtain⟨u,rfl,ru⟩:=az.one rv
 cases d with
 |lst ds =>
  obtain⟨l,vs,rfl,sq,rl⟩:=r
  cases ru
  obtain⟨its,rv,pl,hz⟩:=I.list (SqL.of sq)
  obtain⟨o,ho,hc,n,hd⟩:=pl.isList
  simp only[vR]at e0
  split at e0
  ·rename_i h64
   cases q:iR ds with
   |none=>rw[q]at e0;cases e0
   |some ns =>
    rw[q]at e0;cases e0
    have:=tX q
    subst this
    exact Af I hr (by simpa using h64) rl rv hz (.inl rfl) ho hc hd fun w H' a b c=>k w H' a b c
  ·cases e0
 |_=>cases e0
end
section
variable{X:Cx}
/-! ### x not in xs,the things of any depth -/
def kS(x y:D):Option D:=match y with
 |.lst ds=>if dLe x 59=true/\cv ds 59=true then some (.bl (!(ds.any fun d=>eqD d x)))else none
 |.tup ds=>if dLe x 59=true/\cv ds 59=true then some (.bl (!(ds.any fun d=>eqD d x)))else none
 |_=>none
theorem yo{x:D}{ds:List D}:kS x (.lst ds)=if dLe x 59=true/\cv ds 59=true then some (.bl (!(ds.any fun d=>eqD d x)))else none:=rfl
theorem zy{x:D}{ds:List D}:kS x (.tup ds)=if dLe x 59=true/\cv ds 59=true then some (.bl (!(ds.any fun d=>eqD d x)))else none:=rfl
theorem uT{h:Heap}{a:Addr}{xs:Array Value}(p:IsTup h a xs):h.IsTuple a xs:=by
 obtain⟨o,h1,h2,n,h3⟩:=p
 exact⟨o,h1,h2,n,h3⟩
open Classical in
theorem tN(hu:X.A.units+64<cLine):bW X (compareOp .NotIn) kS:=by
 intro aa s σ H M x y v u dx dy dz Q I hr rx ry r1 r2 e k
 cases dy with
 |lst ds =>
  simp only[kS]at e
  by_cases hc:dLe dx 59=true/\cv ds 59=true
  ·rw[if_pos hc]at e;cases e
   obtain⟨l,vs,rfl,sq,rl⟩:=r2
   cases ry
   obtain⟨its,r,pl,hz⟩:=I.list (SqL.of sq)
   have hl:ds.length=its.length:=rl.length.trans r.length
   have at_:∀j (h:j<ds.length) (h':j<its.length),PySem.SeqAt.EqAt X.A.in1 s its[j] v (eqD ds[j] dx):=fun j h h'=>by
    obtain⟨v1,g1,p1⟩:=rl.get (i:=j) (d:=ds[j]) (by simp[h])
    obtain⟨u1,k1,m1⟩:=r.get g1
    have e1:its[j]=u1:=by simpa[List.getElem?_eq_getElem h']using k1
    rw[e1]
    exact(nM I 59 (by show X.A.units+1+59<cLine;omega) (fO hc.2 (i:=j) (by simp[h])) hc.1 p1.r r1 m1 rx).1
   refine SeqAt.notIn_listAt (fun w=>decide (∃j,∃h:j<ds.length,∃h':j<its.length,its[j]=w/\eqD ds[j] dx=true)) pl.isList (fun w hw=>?_) ⟨.bl _,H,I,rfl,?_⟩
   ·obtain⟨i,hi,rfl⟩:=List.mem_iff_getElem.mp (show w∈its by simpa using hw)
    by_cases q:∃j,∃h:j<ds.length,∃h':j<its.length,its[j]=its[i]/\eqD ds[j] dx=true
    ·rw[decide_eq_true q]
     obtain⟨j,h,h',q1,q2⟩:=q
     rw[<-q1,<-q2];exact at_ j h h'
    ·rw[decide_eq_false q]
     have:=at_ i (by omega) hi
     rwa [show eqD ds[i] dx=false from Bool.eq_false_iff.mpr fun z=>q ⟨i,by omega,hi,rfl,z⟩]at this
   ·have ea:its.toArray.any (fun w=>decide (∃j,∃h:j<ds.length,∃h':j<its.length,its[j]=w/\eqD ds[j] dx=true))=ds.any fun d=>eqD d dx:=by
     rw[Bool.eq_iff_iff,List.any_toArray,List.any_eq_true,List.any_eq_true]
     constructor
     ·rintro⟨w,_,h⟩
      obtain⟨j,h1,_,_,h2⟩:=of_decide_eq_true h
      exact⟨ds[j],List.getElem_mem _,h2⟩
     ·rintro⟨d,hd,h⟩
      obtain⟨j,hj,rfl⟩:=List.mem_iff_getElem.mp hd
      exact⟨its[j],List.getElem_mem _,decide_eq_true ⟨j,hj,by omega,rfl,h⟩⟩
    rw[ea]
    exact k _ H (Ext.refl _ _) hr (by simp[Rep])
  ·rw[if_neg hc]at e;cases e
 |tup ds =>
  simp only[kS]at e
  by_cases hc:dLe dx 59=true/\cv ds 59=true
  ·rw[if_pos hc]at e;cases e
   obtain⟨l,vs,rfl,sq,rl⟩:=r2
   cases ry
   obtain⟨its,r,pl,hz⟩:=I.tuple sq
   have hl:ds.length=its.length:=rl.length.trans r.length
   have at_:∀j (h:j<ds.length) (h':j<its.length),PySem.SeqAt.EqAt X.A.in1 s its[j] v (eqD ds[j] dx):=fun j h h'=>by
    obtain⟨v1,g1,p1⟩:=rl.get (i:=j) (d:=ds[j]) (by simp[h])
    obtain⟨u1,k1,m1⟩:=r.get g1
    have e1:its[j]=u1:=by simpa[List.getElem?_eq_getElem h']using k1
    rw[e1]
    exact(nM I 59 (by show X.A.units+1+59<cLine;omega) (fO hc.2 (i:=j) (by simp[h])) hc.1 p1.r r1 m1 rx).1
   refine SeqAt.notIn_tupleAt (fun w=>decide (∃j,∃h:j<ds.length,∃h':j<its.length,its[j]=w/\eqD ds[j] dx=true)) (uT pl) (fun w hw=>?_) ⟨.bl _,H,I,rfl,?_⟩
   ·obtain⟨i,hi,rfl⟩:=List.mem_iff_getElem.mp (show w∈its by simpa using hw)
    by_cases q:∃j,∃h:j<ds.length,∃h':j<its.length,its[j]=its[i]/\eqD ds[j] dx=true
    ·rw[decide_eq_true q]
     obtain⟨j,h,h',q1,q2⟩:=q
     rw[<-q1,<-q2];exact at_ j h h'
    ·rw[decide_eq_false q]
     have:=at_ i (by omega) hi
     rwa [show eqD ds[i] dx=false from Bool.eq_false_iff.mpr fun z=>q ⟨i,by omega,hi,rfl,z⟩]at this
   ·have ea:its.toArray.any (fun w=>decide (∃j,∃h:j<ds.length,∃h':j<its.length,its[j]=w/\eqD ds[j] dx=true))=ds.any fun d=>eqD d dx:=by
     rw[Bool.eq_iff_iff,List.any_toArray,List.any_eq_true,List.any_eq_true]
     constructor
     ·rintro⟨w,_,h⟩
      obtain⟨j,h1,_,_,h2⟩:=of_decide_eq_true h
      exact⟨ds[j],List.getElem_mem _,h2⟩
     ·rintro⟨d,hd,h⟩
      obtain⟨j,hj,rfl⟩:=List.mem_iff_getElem.mp hd
      exact⟨its[j],List.getElem_mem _,decide_eq_true ⟨j,hj,by omega,rfl,h⟩⟩
    rw[ea]
    exact k _ H (Ext.refl _ _) hr (by simp[Rep])
  ·rw[if_neg hc]at e;cases e
 |_=>cases e
end
section
variable{X:Cx}{e:Expr}{t:TEd}
/-! ### an expression that leaves everything as it is: all that is ours is lent to it -/
end
/-! ### the defs of the text,said shortly -/
section
variable{P:Program}{w:World}{K:PySem.W.Frag}{h base:Heap}{mg:Str->Option Value}{x qual:Str}{st:Stmt}{f:Addr}{fd:FuncData}{k:Nat}{S:SpD}
structure bF(K:PySem.W.Frag) (x:Str) (st:Stmt) (f:Addr) (fd:FuncData):Prop where
 a:PySem.W.nsIn K mainGlobals x=some (some (.ref f))
 F:Fun K x x st f fd
theorem Gj{oc:Value}{od an:Option Addr}{osl:Array (Option Value)}{kV doc pm cdv ct:Value}(a:PySem.W.nsIn K mainGlobals x=some (some (.ref f))) (l:K.lookup f=some ⟨oc,od,.func (PySem.W.fnOf x x (gg st) (dq st) (aj st) .none kV doc pm an cdv ct),osl⟩)
  (c:PySem.W.codeIn K cdv x=true) (k:PySem.W.keepIn K (.ref f)=true):bF K x st f (PySem.W.fnOf x x (gg st) (dq st) (aj st) .none kV doc pm an cdv ct):=⟨a,zW l c k⟩
theorem usS{p:List Value->Prop}{n:Nat}(h:∀a us,us.length=n->p (a::us)):∀us:List Value,us.length=n+1->p us:=by
 intro us e
 cases us with
 |nil=>cases e
 |cons a us=>exact h a us (Nat.succ.inj e)
theorem us0{p:List Value->Prop}(h:p []):∀us:List Value,us.length=0->p us:=by
 intro us e
 cases us with
 |nil=>exact h
 |cons a us=>cases e
def Bd(x qual:Str) (st:Stmt) (ps:List Str) (us:List Value):Prop:=∀(kV doc pm:Value) (an:Option Addr) (cdv ct:Value),bindArgs (PySem.W.fnOf x qual (gg st) (dq st) (aj st) .none kV doc pm an cdv ct) ⟨us,[]⟩=pure (ps.zip us)
theorem rN{ps:List Str}(F:Fun K x qual st f fd) (b:∀us:List Value,us.length=ps.length->Bd x qual st ps us):cY K fd ps []:=F.binds fun kV doc pm an cdv ct us hl=>b us hl kV doc pm an cdv ct
variable{p1 p2 p3 p4 p5:Str}
theorem bd1(F:Fun K x qual st f fd) (b:∀a,Bd x qual st [p1] [a]):cY K fd [p1] []:=rN F (usS fun a=>us0 (b a))
theorem bd2(F:Fun K x qual st f fd) (b:∀a c,Bd x qual st [p1,p2] [a,c]):cY K fd [p1,p2] []:=rN F (usS fun a=>usS fun c=>us0 (b a c))
theorem bd3(F:Fun K x qual st f fd) (b:∀a c d,Bd x qual st [p1,p2,p3] [a,c,d]):cY K fd [p1,p2,p3] []:=rN F (usS fun a=>usS fun c=>usS fun d=>us0 (b a c d))
theorem bd4(F:Fun K x qual st f fd) (b:∀a c d e,Bd x qual st [p1,p2,p3,p4] [a,c,d,e]):cY K fd [p1,p2,p3,p4] []:=rN F (usS fun a=>usS fun c=>usS fun d=>usS fun e=>us0 (b a c d e))
theorem bd5(F:Fun K x qual st f fd) (b:∀a c d e g,Bd x qual st [p1,p2,p3,p4,p5] [a,c,d,e,g]):cY K fd [p1,p2,p3,p4,p5] []:=rN F (usS fun a=>usS fun c=>usS fun d=>usS fun e=>usS fun g=>us0 (b a c d e g))
theorem fg{ps:List Str}{n:Nat}(X:K.In h) (G:h.Ns mainGlobals mg) (i:bF K x st f fd) (o:aX P w K mg base CX0 k f fd ps (spD K n S)) (b:cY K fd ps []):FnD P w K mg base x k n S:=⟨_,_,_,o,PySem.W.mg_of X G i.a,i.F.kp,b⟩
theorem ES{fa:Addr}{sp:Sp}{lp:Program}(X:K.In h) (G:h.Ns mainGlobals mg) (hfa:mg "law"=some (.ref fa)) (i:bF K "law" st f fd) (b:∀a,Bd "law" "law" st [p1] [a]) (o:∀base:Heap,aX lp w K mg base CX0 k f fd [p1] sp) :
  ∃fd:FuncData,(∀(s:Shared) (v:Value),BindsTo s fd ⟨[v],[]⟩ [(p1,v)])/\∀base:Heap,K.In base->base.Ns mainGlobals mg->aX lp w K mg base CX0 k fa fd [p1] sp:=by
 have e:=hfa.symm.trans (PySem.W.mg_of X G i.a)
 cases e
 refine⟨fd,fun s v=>?_,fun base _ _=>o base⟩
 obtain⟨oc,od,kV,doc,pm,an,cdv,ct,osl,rfl,lk,hcd⟩:=i.F.ex
 exact .of_eq (b v kV doc pm an cdv ct)
end
/-! ### dict(pairs),pairs a tuple of tuples of two -/
/-! ### dict(pairs) as a dict that stays as it is -/
/-! ### xs.insert(i,y),xs.extend(a tuple) -/
/-! ### shorter ways to say the same -/
theorem nbh{op:CmpOp}{b:Expr}(h:op≠.In:=by decide) (h2:op≠.NotIn:=by decide):behindInMarks op b=false:=nT b h h2
theorem fsc{N P:List Str}{sc:Scope}(a:sc.kind=.function:=by exact rfl) (b:sc.isCoroutine=false:=by exact rfl) (c:sc.isGenerator=false:=by exact rfl) (d:N.Nodup:=by decide +kernel) (e:N.take P.length=P:=by exact rfl)
  (f:∀x∈P,sc.names.lookup x=some .local∨sc.names.lookup x=some .cell:=by decide +kernel) (g:∀y∈sc.names,y.2≠.free:=by decide +kernel):ax N P sc:=⟨a,b,c,d,e,f,g⟩
section
variable{X:Cx}{e:Expr}{es:List Expr}{t:TAd}{pos p:Pos}{x:Str}{j k n:Nat}{S:SpD}
theorem qd(F:FnD X.prog X.w X.K X.mg X.base x j n S) (hr:cm k X.A) (ha:QAd X (e::es) t) (h:j<=k:=by decide) (hg:Gl X x:=by exact rfl) (hdb:(x==("__debug__":Str))=false:=by decide) (he:starEach (e::es) X.env=(false,eval e X.env)::starEach es X.env:=by rfl) (hpl:(backTo pos (starEach es X.env)).any (·.1)=false:=by rfl) :
  QEd X (.Call (.Name x p) (e::es) [] pos) (gn n S t):=qc F (hr.mono h) hg ha hdb he hpl
end
/-! ### sets of texts -/
def txt:Value->Str|.str x _=>x|_=>default
theorem zT(t:SetTable) (n:Nat):(t.orStandIn n).led=t.led:=by unfold SetTable.orStandIn;split<;>rfl
theorem tY(t:SetTable) (es:Array (Int×Value)) (h:Int) (x:Value):(layNew t es h x).2.1.led=t.led:=by
 unfold layNew
 split
 ·exact zT _ _
 ·rfl
theorem nK{t t':SetTable}{hs:Array Int}{n:Nat}{o:Array Nat}(e:t.relaid hs n=some (t',o)):t'.led=t.led/\t'.plain=t.plain:=by
 unfold SetTable.relaid SetTable.laid at e
 cases q:SetTable.layClean (SetTable.sizeAbove n-1) hs with
 |none=>rw[q]at e;cases e
 |some w=>rw[q]at e;cases e;exact⟨rfl,rfl⟩
theorem qO(t:SetTable) (es:Array (Int×Value)) (n:Nat):(relayAll t es n).2.1.led=t.led:=by
 unfold relayAll
 split
 ·rename_i e;dsimp only;split
  ·exact(nK e).1
  ·rfl
 ·rfl
theorem mP(t:SetTable) (es:Array (Int×Value)) (n:Nat) (z:t.plain=false):(relayAll t es n).2.1.plain=false:=by
 unfold relayAll
 split
 ·rename_i e;dsimp only;split
  ·rw[(nK e).2];exact z
  ·rfl
 ·rfl
section
variable{prog:Program}{w:World}{A:Around}{E:Value->Shared->Prop}{s:Shared}
def byT(w:World):Bool:=w.params.followText "set-order"
def ElT(prog:Program) (w:World) (l:List (Int×Value)):Prop:=∀e∈l,∃x t,e=((strKind prog w).hash x,.str x t)
theorem ElT.of{l:List (Int×Value)}(h:ElT prog w l):ElemsOf (strKind prog w) l:=fun e he=>by
 obtain⟨x,t,rfl⟩:=h e he
 exact⟨⟨x,strKind_is _ _ _ _,rfl⟩,rfl⟩
structure cy(prog:Program) (w:World) (h:Heap) (a:Addr) (o:Obj) (es:Array (Int×Value)) (ep:Nat) (t:SetTable):Prop where
 get:h.get? a=some o
 ex:o.ExactSet
 data:o.data=.set es ep t
 el:ElT prog w es.toList
 nd:(es.toList.map fun e=>txt e.2).Nodup
 room:es.size<scanBound
 fit:t.fits es.size=true
 led:t.led=!byT w
 pl:es.size≠0->t.plain=false
def bB(prog:Program) (w:World) (h:Heap) (a:Addr) (xs:List Str):Prop:=∃o es ep t,cy prog w h a o es ep t/\(es.toList.map fun e=>txt e.2).Perm xs
theorem bB.mono{h h':Heap}{a:Addr}{xs:List Str}(z:bB prog w h a xs) (k:∀o,h.get? a=some o->h'.get? a=some o):bB prog w h' a xs:=by
 obtain⟨o,es,ep,t,p,q⟩:=z
 exact⟨o,es,ep,t,⟨k _ p.get,p.ex,p.data,p.el,p.nd,p.room,p.fit,p.led,p.pl⟩,q⟩
theorem bB.perm{h:Heap}{a:Addr}{xs ys:List Str}(z:bB prog w h a xs) (k:xs.Perm ys):bB prog w h a ys:=by
 obtain⟨o,es,ep,t,p,q⟩:=z
 exact⟨o,es,ep,t,p,q.trans k⟩
theorem D7{x:Str}{v:Value}(h:(strKind prog w).is x v=true):∃t,v=.str x t:=by
 cases v<;>simp[PySem.strKind,Value.isStrOf]at h
 rename_i y t
 exact⟨t,by rw[h]⟩
theorem cy.mem{h:Heap}{a:Addr}{o:Obj}{es:Array (Int×Value)}{ep:Nat}{t:SetTable}(p:cy prog w h a o es ep t) (x:Str) :
  (∃e∈es.toList,(strKind prog w).is x e.2=true)↔x∈es.toList.map fun e=>txt e.2:=by
 constructor
 ·rintro⟨e,he,q⟩
  obtain⟨t,z⟩:=D7 q
  exact List.mem_map.mpr ⟨e,he,by rw[z];rfl⟩
 ·intro q
  obtain⟨e,he,z⟩:=List.mem_map.mp q
  obtain⟨y,t,rfl⟩:=p.el e he
  have:y=x:=z
  subst this
  exact⟨_,he,strKind_is _ _ _ _⟩
theorem kW{h:Heap}{a:Addr}{o:Obj}{es:Array (Int×Value)}{ep:Nat}{t:SetTable}(ho:h.get? a=some o) (hd:o.data=.set es ep t) (es':Array (Int×Value)) (t':SetTable) :
  (h.update a (Obj.putSet es' t')).get? a=some { o with data:=.set es' (ep+1) t' }:=by
 have:=Heap.get?_update_self (Obj.putSet es' t') ho (by rw[putSet_of es' t' hd];rfl)
 rw[putSet_of es' t' hd]at this;exact this
theorem gO{l l':List (Int×Value)}(h:l.Perm l'):(l.map fun e=>txt e.2).Perm (l'.map fun e=>txt e.2):=h.map _
theorem cy.laid{h h':Heap}{a:Addr}{o:Obj}{es es':Array (Int×Value)}{ep ep':Nat}{t t':SetTable}(p:cy prog w h a o es ep t)
  (g:h'.get? a=some { o with data:=.set es' ep' t' }) (q:es'.toList.Perm es.toList) (f:t'.fits es'.size=true) (l:t'.led=t.led) (z:es'.size≠0->t'.plain=false):cy prog w h' a { o with data:=.set es' ep' t' } es' ep' t':=by
 have sz:es'.size=es.size:=by rw[<-Array.length_toList,q.length_eq,Array.length_toList]
 exact⟨g,p.ex,rfl,fun e he=>p.el e (q.mem_iff.mp he),((gO q).nodup_iff).mpr p.nd,by rw[sz];exact p.room,f,l.trans p.led,z⟩
theorem CK{g:Bool->Sem Unit}(hg:∀(b:Bool) (s₁:Shared) (Q':Unit->Shared->Prop),Q' () s₁->wpAny (model prog w) A (g b) Q' E s₁)
  {a:Addr} {o:Obj} {es:Array (Int×Value)} {ep:Nat} {t:SetTable} (ho:s.heap.get? a=some o) (hex:o.ExactSet) (hd:o.data=.set es ep t)
  {es1:Array (Int×Value)} {t2:SetTable} (el:ElT prog w es1.toList) (nd:(es1.toList.map fun e=>txt e.2).Nodup) (hb1:es1.size<scanBound) (hf2:t2.fits es1.size=true) (ld:t2.led=!byT w) (pl:t2.plain=false)
  {wasDummy:Bool} {R:Option Bool->Shared->Prop}
  (h:∀h',Heap.SameBut a s.heap h'->bB prog w h' a (es1.toList.map fun e=>txt e.2)->R (some true) { s with heap:=h' }) :
  wpAny (model prog w) A (do
    storeSet a es1 t2
    if(!wasDummy&&t2.tooFull)=true then do
      g (relayAll t2 es1 (SetTable.grown es1.size)).2.2
      storeSet a (relayAll t2 es1 (SetTable.grown es1.size)).1 (relayAll t2 es1 (SetTable.grown es1.size)).2.1
      pure (some true)
     else pure (some true)) R E s:=by
 refine wpAny_bind (wpAny_storeSet_of ho hd ?_ (fits_of_scanBound hb1))
 have ho1:=kW ho hd es1 t2
 have hS1:cy prog w (s.heap.update a (Obj.putSet es1 t2)) a { o with data:=.set es1 (ep+1) t2 } es1 (ep+1) t2:=⟨ho1,hex,rfl,el,nd,hb1,hf2,ld,fun _=>pl⟩
 have hsb1:=Heap.SameBut.update s.heap a (Obj.putSet es1 t2)
 split
 ·have hp:=relayAll_perm t2 es1 (SetTable.grown es1.size)
  have hfr:=relayAll_fits t2 es1 (SetTable.grown es1.size)
  have hl:=qO t2 es1 (SetTable.grown es1.size)
  have hpl:=mP t2 es1 (SetTable.grown es1.size) pl
  generalize hRl:relayAll t2 es1 (SetTable.grown es1.size)=Rl at hp hfr hl hpl ⊢
  obtain⟨es2,t3,gave2⟩:=Rl
  dsimp only at hp hfr hl hpl ⊢
  have hsz:es2.size=es1.size:=by rw[<-Array.length_toList,hp.length_eq,Array.length_toList]
  have hb2:es2.size<scanBound:=by rw[hsz];exact hb1
  refine wpAny_bind (hg _ _ _ ?_)
  refine wpAny_bind (wpAny_storeSet_of ho1 rfl ?_ (fits_of_scanBound hb2))
  have ho2:=kW (h:=s.heap.update a (Obj.putSet es1 t2)) ho1 rfl es2 t3
  exact wpAny_pure (h _ (hsb1.trans (Heap.SameBut.update _ a _)) ⟨_,_,_,_,hS1.laid ho2 hp hfr hl (fun _=>hpl),gO hp⟩)
 ·exact wpAny_pure (h _ hsb1 ⟨_,_,_,_,hS1,.refl _⟩)
theorem Gq{a:Addr}{xs:List Str}{x:Str}{tk:Tok}{Q:Bool->Shared->Prop}(hS:bB prog w s.heap a xs) (hroom:xs.length+1<scanBound)
  (h:∀b h',Heap.SameBut a s.heap h'->bB prog w h' a (if x∈xs then xs else xs++[x])->Q b { s with heap:=h' }) :
  wpAny (model prog w) A (setAddHashed a (.str x tk) ((strKind prog w).hash x)) Q E s:=by
 obtain⟨o,es,ep,t,p,pm⟩:=hS
 have hkey:=strKind_is prog w x tk
 have hel:=p.el.of
 have hn:es.size=xs.length:=by rw[<-Array.length_toList,<-pm.length_eq,List.length_map]
 have hb1:es.size+1<scanBound:=by rw[hn];exact hroom
 unfold setAddHashed setAddHashedIn
 refine wpAny_holding (wpAny_bind (wpAny_setState_of p.get p.data p.fit ?_))
 dsimp only
 rw[byScan_of rfl p.room hel]
 simp only[↓reduceIte]
 unfold setAddByScan
 refine wpAny_bind ?_
 refine wpAny_bind (wpAny_rule ?_)
 refine wpAny_bind (wpAny_setScan_of hkey p.get p.data p.fit hel ?_)
 cases hr:List.findIdx? (fun e=>(strKind prog w).is x e.2) es.toList with
 |some j =>
  dsimp only
  obtain⟨hj,hpj,_⟩:=List.findIdx?_eq_some_iff_getElem.mp hr
  have hx:x∈xs:=pm.mem_iff.mp ((p.mem x).mp ⟨es.toList[j],List.getElem_mem hj,hpj⟩)
  refine wpAny_pure (wpAny_pure ?_)
  have e:s={ s with heap:=s.heap }:=by cases s;rfl
  rw[e]
  exact h _ s.heap (Heap.SameBut.refl a s.heap) (by rw[if_pos hx];exact⟨o,es,ep,t,p,pm⟩)
 |none =>
  dsimp only
  have hx:x∉es.toList.map fun e=>txt e.2:=fun q=>by
   obtain⟨e,he,z⟩:=(p.mem x).mpr q
   have:=List.findIdx?_eq_none_iff.mp hr e he;rw[z]at this;exact Bool.noConfusion this
  have hx':x∉xs:=fun q=>hx (pm.mem_iff.mpr q)
  have hgw:∀(b:Bool) {s₁:Shared} {Q':Unit->Shared->Prop},Q' () s₁->wpAny (model prog w) A (match b with|true=>rule "set.scan.the-table-gave-way" |false=>pure ()) Q' E s₁ :=
   fun b s₁ Q' hq=>by cases b<;>first|exact wpAny_pure hq|exact wpAny_rule hq
  have hperm:=layNew_perm t es ((strKind prog w).hash x) (.str x tk)
  have hfits:=layNew_fits t es ((strKind prog w).hash x) (.str x tk)
  have hled:=tY t es ((strKind prog w).hash x) (.str x tk)
  generalize hL:layNew t es ((strKind prog w).hash x) (.str x tk)=L at hperm hfits hled ⊢
  obtain⟨es1,t1,wasDummy,gave⟩:=L
  dsimp only at hperm hfits hled ⊢
  rw[Array.toList_push]at hperm
  have hel1:ElT prog w es1.toList:=fun e he=>by
   rcases List.mem_append.mp (hperm.mem_iff.mp he)with he|he
   ·exact p.el e he
   ·rw[List.mem_singleton]at he;exact⟨x,tk,he⟩
  have hm:(es1.toList.map fun e=>txt e.2).Perm ((es.toList.map fun e=>txt e.2)++[x]):=by
   have:=gO hperm
   rwa [List.map_append]at this
  have hnd:(es1.toList.map fun e=>txt e.2).Nodup:=by
   rw[hm.nodup_iff,List.nodup_append]
   exact⟨p.nd,by simp,fun a ha b hb=>by rw[List.mem_singleton]at hb;subst hb;intro q;subst q;exact hx ha⟩
  have hb1':es1.size<scanBound:=by rw[<-Array.length_toList,hperm.length_eq,List.length_append,Array.length_toList];simpa using hb1
  refine wpAny_bind (hgw _ ?_)
  have hend:∀h',Heap.SameBut a s.heap h'->bB prog w h' a (es1.toList.map fun e=>txt e.2)->Q true { s with heap:=h' }:=fun h' hsb hS' =>
   h _ h' hsb (by rw[if_neg hx'];exact hS'.perm (hm.trans (pm.append_right _)))
  split
  ·refine wpAny_bind ?_
   rw[hashByValue_scannable 8 rfl]
   refine wpAny_pure ?_
   refine CK (t2:={ t1 with plain:=false }) ?_ p.get p.ex p.data hel1 hnd hb1' (SetTable.fits_plain_off hfits) (hled.trans p.led) rfl ?_
   ·intro b s₁ Q' hq;cases b<;>first|exact wpAny_pure hq|exact wpAny_rule hq
   ·intro h' hsb hS';dsimp only;exact wpAny_pure (hend h' hsb hS')
  ·rename_i hp
   refine wpAny_bind (wpAny_pure ?_)
   simp only[↓reduceIte]
   refine CK ?_ p.get p.ex p.data hel1 hnd hb1' hfits (hled.trans p.led) (by simpa using hp) ?_
   ·intro b s₁ Q' hq;cases b<;>first|exact wpAny_pure hq|exact wpAny_rule hq
   ·intro h' hsb hS';dsimp only;exact wpAny_pure (hend h' hsb hS')
theorem FY{a:Addr}{xs:List Str}{x:Str}{tk:Tok}{Q:Option Nat->Shared->Prop}(hS:bB prog w s.heap a xs)
  (h:∀r:Option Nat,r.isSome=decide (x∈xs)->Q r s):wpAny (model prog w) A (setFind a (.str x tk) ((strKind prog w).hash x)) Q E s:=by
 obtain⟨o,es,ep,t,p,pm⟩:=hS
 refine wpAny_setFind_of (knd:=strKind prog w) (S:=fun y=>decide (y∈xs)) (n:=es.size) (strKind_is prog w x tk) rfl
  ⟨o,es,ep,t,p.get,p.ex,p.data,p.el.of,fun y=>?_,p.room,p.fit,rfl⟩ h
 rw[p.mem y,decide_eq_true_eq,pm.mem_iff]
end
def fG(xs:List Str) (x:Str):List Str:=if x∈xs then xs else xs++[x]
def gF(xs:List Str):List Str:=xs.foldl fG []
theorem o7(xs:List Str) (x:Str):(fG xs x).length<=xs.length+1:=by unfold fG;split<;>simp
theorem pK(xs:List Str) (x y:Str):y∈fG xs x↔y∈xs∨y=x:=by
 unfold fG;split
 ·rename_i h;exact⟨.inl,fun q=>q.elim id fun e=>e▸h⟩
 ·simp
theorem pI:∀(xs zs:List Str),(xs.foldl fG zs).length<=zs.length+xs.length
 |[],_=>Nat.le_refl _
 |x::xs,zs=>by
  have:=pI xs (fG zs x)
  have:=o7 zs x
  simp only[List.foldl_cons,List.length_cons];omega
theorem oX:∀(xs zs:List Str) (y:Str),y∈xs.foldl fG zs↔y∈zs∨y∈xs
 |[],_,_=>by simp
 |x::xs,zs,y=>by
  rw[List.foldl_cons,oX xs,pK,List.mem_cons,or_assoc]
theorem mU(xs:List Str) (y:Str):y∈gF xs↔y∈xs:=by rw[gF,oX];simp
theorem nG(xs:List Str):(gF xs).length<=xs.length:=by have:=pI xs [];simpa[gF]using this
theorem xu(xs:List Str) (i:Nat) (h:i<xs.length):gF (xs.take (i+1))=fG (gF (xs.take i)) xs[i]:=by
 rw[List.take_succ_eq_append_getElem h,gF,List.foldl_append];rfl
section
variable{prog:Program}{w:World}{A:Around}{R:Result->Shared->Prop}{I:Addr}{fp wr:List Addr}{G:Array GenState->Array GenState->Prop}{P:Nat->Value->Prop}{St:Nat->Shared->Prop}
theorem HP{xs:List Str}(W:WalksS prog w A.in1 I fp wr G xs.length P St) (S:Addr) (hSf:S∉fp)
  (hval:∀i v (h:i<xs.length),P i v->∃t,v=.str xs[i] t) (hb:xs.length+1<scanBound) :
  ∀(k i:Nat) (s:Shared),xs.length-i=k->i<=xs.length->St i s->bB prog w s.heap S (gF (xs.take i)) ->
   (∀s',Moved (S::wr) G s s'->bB prog w s'.heap S (gF xs)->R (.ok (.ret .none)) s') ->
   codeAny (model prog w) A (.builtin "set.update.loop" ⟨[.ref S,.ref I],[]⟩) R s:=by
 have hSw:S∉wr:=fun h=>hSf (W.sub _ h)
 have hsub:∀b∈wr,b∈S::wr:=fun b hb=>List.mem_cons_of_mem _ hb
 intro k
 induction k with
 |zero =>
  intro i s hk hi hst hS hR
  have hin:i=xs.length:=by omega
  subst hin
  refine codeAny_builtin F.entry_set_update_loop ?_
  rw[Around.under_plainId F.plain_set_update_loop _]
  show wpAny _ A.in1 (pyNext (.ref I) >>= _) _ _ s
  refine wpAny_bind (W.done s _ _ hst fun s' hm=>?_)
  show wpAny _ A.in1 (ret Value.none) _ _ s'
  rw[List.take_length]at hS
  exact wpAny_pure (hR s' (hm.mono hsub) (hS.mono fun o e=>hm.heap S _ hSw e))
 |succ k ih =>
  intro i s hk hi hst hS hR
  have hlt:i<xs.length:=by omega
  refine codeAny_builtin F.entry_set_update_loop ?_
  rw[Around.under_plainId F.plain_set_update_loop _]
  show wpAny _ A.in1 (pyNext (.ref I) >>= _) _ _ s
  refine wpAny_bind (W.item i s _ _ hlt hst fun v s' hP hst' hm=>?_)
  obtain⟨t,rfl⟩:=hval i v hlt hP
  have hS':bB prog w s'.heap S (gF (xs.take i)):=hS.mono fun o e=>hm.heap S _ hSw e
  show wpAny _ A.in1 (holding [Value.str xs[i] t] (setAdd S (.str xs[i] t)) >>= _) _ _ s'
  refine wpAny_bind (wpAny_holding ?_)
  unfold setAdd
  refine wpAny_holding ?_
  refine wpAny_bind ((strKind prog w).pyHash (k:=xs[i]) (strKind_is _ _ _ _) ?_)
  have hroom:(gF (xs.take i)).length+1<scanBound:=by have:=nG (xs.take i);rw[List.length_take]at this;omega
  refine Gq (s:={ s' with toks:=s'.toks+1 }) hS' hroom fun b h' hsb hS2=>?_
  have hSi:bB prog w h' S (gF (xs.take (i+1))):=by rw[xu xs i hlt];exact hS2
  refine wpAny_pure ⟨plainId_quiet F.plain_set_update_loop _,ih (i+1) _ (by omega) hlt (W.frame _ s' _ _ hst' (Nat.le_succ _) fun b hb o e=>?_) hSi fun s'' hm'' hS''=>?_⟩
  ·rw[hsb.2 b (fun h:b=S=>hSf (by rw[<-h];exact hb))];exact e
  ·refine hR s'' (Moved.trans W.gtrans ((hm.mono hsub).then_heap (Nat.le_succ _) fun b o hb e=>?_) hm'') hS''
   rw[hsb.2 b (fun h:b=S=>hb (by rw[h];exact List.mem_cons_self))];exact e
end
section
variable{prog:Program}{w:World}{A:Around}{E:Value->Shared->Prop}{s:Shared}
abbrev dE(w:World):Obj:={ cls:=.type "set",dict:=none,data:=.set #[] 0 (.fresh 0 0 (!byT w)) }
theorem yC{h:Heap}{a:Addr}(g:h.get? a=some (dE w)):bB prog w h a [] :=
 ⟨_,#[],0,_,⟨g,⟨rfl,rfl,rfl⟩,rfl,fun e he=>by simp at he,by simp,by decide,rfl,rfl,fun q=>absurd rfl q⟩,by simp⟩
theorem z3(a:Value) {Q₁:Value->Shared->Prop}(h:Q₁ (.ref s.heap.objs.size) { s with heap:=s.heap.push (dE w) }) :
  codeAny (model prog w) A (.call (.builtin "set.__new__") ⟨[.type "set",a],[]⟩) (wants Q₁ E) s:=by
 refine codeAny_of_tree ?_
 show wpAny _ A.in1 (do checkBuiltinCall "set.__new__" ⟨[.type "set",a],[]⟩;again (.builtin "set.__new__" ⟨[.type "set",a],[]⟩)) _ _ s
 refine wpAny_bind (wpAny_of_eq (PySem.F.newCall_set_1 a) (wpAny_pure ⟨plainId_quiet PySem.F.plain_set_new _,codeAny_builtin PySem.F.entry_set_new ?_⟩))
 rw[Around.under_plainId PySem.F.plain_set_new _]
 unfold Builtin.«set.__new__» Builtin.Frozenset.newClass
 have hsub:=sub_set_self
 obtain⟨hp,g,d,tk,os⟩:=s
 dsimp only
 wp_walk
 refine wpAny_askSetting (wpAny_pure ?_)
 dsimp only
 simp only[newObj]
 refine wpAny_bind (wpAny_alloc (wpAny_pure ?_))
 exact wpAny_pure h
set_option maxHeartbeats 3200000 in
theorem wH{l:Addr}{items:Array Value}{xs:List Str}{Q:Value->Shared->Prop}
  (hh:A.handled=none) (hl:s.heap.IsList l items) (hn:items.size=xs.length) (hi:∀i (h:i<xs.length),∃t,items[i]?=some (.str xs[i] t)) (hb:xs.length+1<scanBound)
  (h:∀(h':Heap) (tk:Nat),bB prog w h' s.heap.objs.size (gF xs)->(∀b o,s.heap.get? b=some o->h'.get? b=some o)->Q (.ref s.heap.objs.size) { s with heap:=h',toks:=tk }) :
  wpAny (model prog w) A (call (.type "set") [.ref l]) Q E s:=by
 obtain⟨c,tl,hmro⟩:=PySem.F.called_set.mro
 have hmade:=PySem.F.called_set.made
 have hsub:=PySem.F.called_set.sub
 refine wpAny_call (codeAny_of_tree ?_)
 show wpAny _ _ (callAny (.type "set") _) _ _ _
 refine wpAny_pure ⟨Code.quiet_builtin _ (by decide +kernel),codeAny_builtin PySem.F.entry_type_call ?_⟩
 rw[Around.under_plain (weight_type_call_type "set" [.ref l] []) rfl]
 have h1:=PySem.F.called_set.notType
 have h2:=PySem.F.called_set.canCreate
 have hct:=PySem.F.typeCall_set_1 (.ref l)
 repeat (any_goals (first|assumption|wp_step))
 refine codeAny_mono (z3 (.ref l) (E:=E) (Q₁:=fun obj s₁=>obj=.ref s.heap.objs.size/\s₁={ s with heap:=s.heap.push (dE w) }) ⟨rfl,rfl⟩) fun r s₁ hr=>?_
 cases r with
 |error e=>exact hr
 |ok fl =>
  cases fl with
  |ret obj =>
   obtain⟨rfl,rfl⟩:=hr
   have hS:(s.heap.push (dE w)).get? s.heap.objs.size=some (dE w):=Heap.get?_push_size _ rfl
   have hT:Shared.TypeIs { s with heap:=s.heap.push (dE w) } (.ref s.heap.objs.size) "set":=⟨_,hS,rfl⟩
   have hli:=PySem.F.called_set.init.lookup
   have hbi:=PySem.F.called_set.init.bind (.ref s.heap.objs.size)
   repeat (any_goals (first|assumption|wp_step))
   refine codeAny_mono (codeAny_call_builtin (R:=wants (fun r s₂=>r=.none/\∃h' tk,s₂={ s with heap:=h',toks:=tk } /\
     bB prog w h' s.heap.objs.size (gF xs)/\(∀b o,s.heap.get? b=some o->h'.get? b=some o)) E) PySem.F.called_set.init.plain PySem.F.entry_set_init (check_set_init_1 hT ?_)) fun r₂ s₂ hr₂=>?_
   ·obtain⟨ol,hol,hcl,nl,hdl⟩:=hl
    obtain⟨ocls,odict,odata,oslots⟩:=ol
    simp only at hcl hdl
    subst hcl;subst hdl
    have hol':(s.heap.push (dE w)).get? l=some { cls:=.type "list",dict:=odict,data:=.seq items nl,slots:=oslots }:=Heap.get?_push_of_some _ hol
    have hsls:=PySem.F.sub_list_set
    have hslf:=PySem.F.sub_list_frozenset
    have hne:(Value.type "list"==Value.type "dict")=false:=by decide
    have hl1:(s.heap.push (dE w)).IsList l items:=⟨_,hol',rfl,nl,rfl⟩
    unfold Builtin.«set.__init__» noKeywords Builtin.Frozenset.updateFrom
    generalize hPI:pyIter=PI
    wp_walk
    subst hPI
    refine wpAny_pyIter_list hl1 ?_
    refine wpAny_bind (wpAny_runValue ?_)
    have hlS:l<s.heap.objs.size:=Heap.lt_size hol
    have hh3:A.in1.in1.in1.handled=none:=by simp[hh]
    have hneI:l≠(s.heap.push (dE w)).objs.size:=by
     rw[Heap.size_push];exact Nat.ne_of_lt (Nat.lt_succ_of_lt hlS)
    have hSf:s.heap.objs.size∉[(s.heap.push (dE w)).objs.size,l]:=by
     rw[Heap.size_push];simp only[List.mem_cons,List.mem_singleton,List.not_mem_nil,or_false,not_or]
     exact⟨Nat.ne_of_lt (Nat.lt_succ_self _),Nat.ne_of_gt hlS⟩
    have W:=(Walks.list (prog:=prog) (w:=w) hh3 _ l hneI items).toS
    rw[hn]at W
    refine HP (xs:=xs) W s.heap.objs.size hSf (fun i v hlt hv=>?_) hb (xs.length-0) 0 _ (by omega) (Nat.zero_le _) ?St0 ?hS0 ?hR
    case St0=>exact⟨⟨_,Heap.get?_push_size _ rfl,rfl,rfl⟩,(hl1.push _)⟩
    ·obtain⟨t,g⟩:=hi i hlt
     have hv':items[i]?=some v:=hv
     rw[g]at hv';exact⟨t,(Option.some.inj hv').symm⟩
    case hS0=>exact yC (Heap.get?_push_of_some _ hS)
    case hR =>
     intro s' hm hS'
     obtain⟨h',g',d',tk',os'⟩:=s'
     have eg:g'=s.gens:=hm.gens
     have ed:d'=s.drawn:=hm.drawn
     have eo:os'=s.os:=hm.os
     subst eg;subst ed;subst eo
     show wpAny _ _ _ _ _ _
     refine wpAny_pure ?_
     show wpAny _ _ (ret Value.none) _ _ _
     refine wpAny_pure ⟨rfl,h',tk',rfl,hS',fun b o e=>?_⟩
     have hb:=Heap.lt_size e
     have hb1:b≠s.heap.objs.size:=Nat.ne_of_lt hb
     have hb2:b≠(s.heap.push (dE w)).objs.size:=by
      rw[Heap.size_push];exact Nat.ne_of_lt (Nat.lt_succ_of_lt hb)
     exact hm.heap b o (by simp only[List.mem_cons,List.mem_singleton,List.not_mem_nil,or_false,not_or];exact⟨hb1,hb2⟩) (Heap.get?_push_of_some _ (Heap.get?_push_of_some _ e))
   ·cases r₂ with
    |error e=>exact hr₂
    |ok fl₂ =>
     cases fl₂ with
     |ret r =>
      obtain⟨rfl,h',tk,rfl,hS',hk'⟩:=hr₂
      repeat (any_goals (first|assumption|wp_step))
      exact h _ _ hS' hk'
     |_=>exact hr₂.elim
  |_=>exact hr.elim
end
theorem ly{α:Type}(f:Nat->Nat):∀(n k:Nat) (l:List α) (out:Array α),l.length=n->(pickOrder.go f n k l out).toList.Perm (out.toList++l)
 |0,k,l,out,h=>by
  have:l=[]:=List.length_eq_zero_iff.mp h
  subst this;simp[pickOrder.go]
 |n+1,k,l,out,h=>by
  have hl:f k % l.length<l.length:=Nat.mod_lt _ (by omega)
  simp only[pickOrder.go,List.getElem?_eq_getElem hl]
  refine(ly f n (k+1) _ _ (by rw[List.length_eraseIdx_of_lt hl];omega)).trans ?_
  rw[Array.toList_push,List.append_assoc]
  refine List.Perm.append_left _ ?_
  have z:l=l.take (f k % l.length)++l[f k % l.length]::l.drop (f k % l.length+1):=by rw[List.getElem_cons_drop];simp
  have e:l.eraseIdx (f k % l.length)=l.take (f k % l.length)++l.drop (f k % l.length+1):=List.eraseIdx_eq_take_drop_succ l _
  rw[e]
  generalize l[f k % l.length]=x at z ⊢
  conv=>rhs;rw[z]
  rw[List.singleton_append]
  exact List.perm_middle.symm
theorem iq{α:Type}(f:Nat->Nat) (xs:Array α):(pickOrder f xs).toList.Perm xs.toList:=by
 have:=ly f xs.size 0 xs.toList #[] (by simp)
 simpa[pickOrder]using this
section
variable{prog:Program}{w:World}{A:Around}{E:Value->Shared->Prop}{s:Shared}
theorem ij{Q:Bool->Shared->Prop}(h:Q (byT w) s):wpAny (model prog w) A setsByText Q E s:=by
 unfold setsByText
 exact wpAny_bind (wpAny_askSetting (wpAny_pure h))
theorem cy.state{a:Addr}{o:Obj}{es:Array (Int×Value)}{ep:Nat}{t:SetTable}{Q:Array (Int×Value)×Nat×SetTable->Shared->Prop}(p:cy prog w s.heap a o es ep t) (h:Q (es,ep,t) s):wpAny (model prog w) A (setState a) Q E s:=wpAny_setState_of p.get p.data p.fit h
theorem DX{l:List Addr}(hl:∀a∈l,∃xs,bB prog w s.heap a xs) {Q:Bool->Shared->Prop}(h:Q true s):wpAny (model prog w) A (setsQuiet l) Q E s:=by
 unfold setsQuiet
 refine wpAny_bind (wpAny_forIn_list _ (fun rest b s'=>s'=s/\b=⟨none,⟨⟩⟩/\∀a∈rest,∃xs,bB prog w s.heap a xs) _ (fun a rest b s' ⟨e,eb,ha⟩=>?_) (fun b s' ⟨e,eb,_⟩=>?_) l _ ⟨rfl,rfl,hl⟩)
 ·subst e;subst eb
  obtain⟨xs,o,es,ep,t,p,_⟩:=ha a (.head _)
  refine wpAny_bind (wpAny_setEntries_of p.get p.data p.fit ?_)
  refine wpAny_bind (wpAny_forIn_array' _ (fun r b s1=>s1=s'/\b=⟨none,⟨⟩⟩/\∀e∈r,e∈es.toList) _ (fun e r b s1 ⟨e1,eb,he⟩=>?_) (fun b s1 ⟨e1,eb,_⟩=>?_) es _ ⟨rfl,rfl,fun _ h=>h⟩)
  ·subst e1;subst eb
   obtain⟨x,t',rfl⟩:=p.el e (he e (.head _))
   exact wpAny_pure ⟨rfl,rfl,fun u hu=>he u (.tail _ hu)⟩
  ·subst e1;subst eb
   exact wpAny_pure ⟨rfl,rfl,fun u hu=>ha u (.tail _ hu)⟩
 ·subst e;subst eb
  exact wpAny_pure h
theorem Gc{a:Addr}{o:Obj}{es:Array (Int×Value)}{ep:Nat}{t:SetTable}{Q:Array (Int×Value)->Shared->Prop}(p:cy prog w s.heap a o es ep t) (hs:byT w=true∨es.size<=1)
  (h:∀es',es'.toList.Perm es.toList->Q es' s):wpAny (model prog w) A (setWalk a) Q E s:=by
 unfold setWalk
 refine wpAny_bind (p.state ?_)
 dsimp only
 refine wpAny_bind (ij ?_)
 cases hb:byT w with
 |true =>
  simp only[if_true]
  exact wpAny_bind (wpAny_askSetting (wpAny_pure (h _ (iq _ _))))
 |false =>
  have h1:es.size<=1:=hs.resolve_left (by rw[hb];simp)
  have h2:decide (es.size > 1)=false:=decide_eq_false (by omega)
  simp only[Bool.false_eq_true,if_false]
  have hd:(!t.plain&&decide (es.size > 1))=false:=by rw[h2,Bool.and_false]
  show wpAny _ _ (if(!t.plain&&decide (es.size > 1))=true then _ else _) _ _ _
  rw[if_neg (by rw[hd];simp)]
  refine wpAny_bind ?_
  show wpAny _ _ (if(!t.led&&decide (es.size > 1))=true then _ else _) _ _ _
  rw[if_neg (by rw[h2,Bool.and_false];simp)]
  exact wpAny_pure (wpAny_pure (h _ (.refl _)))
theorem AU{a f:Addr}{o:Obj}{es:Array (Int×Value)}{ep:Nat}{t:SetTable}{l:List Addr}{Q:Array (Int×Value)->Shared->Prop}(p:cy prog w s.heap a o es ep t)
  (hl:∀b∈l,∃xs,bB prog w s.heap b xs) (hf:bB prog w s.heap f [])
  (h:∀es' h',es'.toList.Perm es.toList->Heap.SameBut f s.heap h'->bB prog w h' f []->Q es' { s with heap:=h' }):wpAny (model prog w) A (setWalkUnseen a l (some f)) Q E s:=by
 have e:s={ s with heap:=s.heap }:=by cases s;rfl
 unfold setWalkUnseen
 refine wpAny_bind (p.state ?_)
 dsimp only
 refine wpAny_bind (ij ?_)
 split
 ·rename_i hc
  refine Gc p ?_ fun es' hp=>by rw[e];exact h es' _ hp (Heap.SameBut.refl f s.heap) hf
  cases hb:byT w with
  |true=>exact .inl rfl
  |false =>
   refine .inr ?_
   rcases Nat.lt_or_ge 1 es.size with z|z
   ·have hpl:=p.pl (by omega)
    rw[hb,hpl]at hc
    simp at hc;omega
   ·exact z
 ·refine wpAny_bind (DX (fun b hb=>?_) ?_)
  ·rcases List.mem_cons.mp hb with rfl|hb
   ·exact⟨_,_,_,_,_,p,.refl _⟩
   ·exact hl b hb
  simp only[Bool.not_true,Bool.false_eq_true,if_false]
  refine wpAny_bind (wpAny_rule ?_)
  obtain⟨fo,fes,fep,ft,fp,fm⟩:=hf
  refine wpAny_bind (fp.state ?_)
  dsimp only
  have hz:fes.size=0:=by have:=fm.length_eq;simpa using this
  split
  ·refine wpAny_bind (wpAny_storeSet_of fp.get fp.data ?_ (fits_of_scanBound fp.room))
   refine wpAny_pure (h es _ (.refl _) (Heap.SameBut.update s.heap f _) ⟨_,_,_,_,fp.laid (kW fp.get fp.data _ _) (.refl _) ?_ ?_ (fun q=>absurd hz q),fm⟩)
   ·have:=fp.fit;cases ft;exact this
   ·show(ft.led&&t.led)=ft.led
    rw[fp.led,p.led,Bool.and_self]
  ·rw[e]
   exact wpAny_pure (h es _ (.refl _) (Heap.SameBut.refl f s.heap) ⟨fo,fes,fep,ft,fp,fm⟩)
end
section
variable{prog:Program}{w:World}{A:Around}{E:Value->Shared->Prop}{s:Shared}
theorem cy.typeIs{a:Addr}{o:Obj}{es:Array (Int×Value)}{ep:Nat}{t:SetTable}(p:cy prog w s.heap a o es ep t):s.TypeIs (.ref a) "set":=⟨o,p.get,p.ex.1⟩
theorem bB.typeIs{a:Addr}{xs:List Str}(p:bB prog w s.heap a xs):s.TypeIs (.ref a) "set":=by
 obtain⟨o,es,ep,t,p,_⟩:=p
 exact p.typeIs
theorem D5{a:Addr}{Q:Bool->Shared->Prop}(h:s.TypeIs (.ref a) "set") (q:Q true s):wpAny (model prog w) A (Builtin.Frozenset.isAnySet (.ref a)) Q E s:=by
 unfold Builtin.Frozenset.isAnySet
 show wpAny _ _ (isInstance (.ref a) (.type "set") >>= _) _ _ _
 exact wpAny_bind (wpAny_isInstance h sub_set_self (wpAny_pure q))
theorem qG{a:Addr}{o:Obj}{es:Array (Int×Value)}{ep:Nat}{t:SetTable}{Q:Nat->Shared->Prop}(p:cy prog w s.heap a o es ep t) (h:Q ep s):wpAny (model prog w) A (setEpoch a) Q E s :=
 wpAny_setEpoch_of p.get p.data p.fit h
theorem cy.kept{h h':Heap}{a:Addr}{o:Obj}{es:Array (Int×Value)}{ep:Nat}{t:SetTable}(p:cy prog w h a o es ep t) (k:h'.get? a=some o):cy prog w h' a o es ep t :=
 ⟨k,p.ex,p.data,p.el,p.nd,p.room,p.fit,p.led,p.pl⟩
theorem FI{id:String}{c d r:Addr}{o:Obj}{es:Array (Int×Value)}{ep:Nat}{t:SetTable}{xs:List Str}{es':Array (Int×Value)}{F:Int×Value->PUnit->Sem (ForInStep PUnit)}{Q:PUnit->Shared->Prop}(p:cy prog w s.heap d o es ep t) (ha:bB prog w s.heap c xs) (hr:bB prog w s.heap r []) (hp:es'.toList.Perm es.toList)
  (hc:c≠r) (hd:d≠r)
  (hF:∀ x t u,F ((strKind prog w).hash x,.str x t) u = (do
   holding [.str x t] (do
    if(<-setFind c (.str x t) ((strKind prog w).hash x)).isSome=true then
     let _ <-setAddHashed r (.str x t) ((strKind prog w).hash x)
    else pure PUnit.unit)
   Builtin.Frozenset.unchanged id d ep
   pure (.yield PUnit.unit)))
  (h:∀h' zs,Heap.SameBut r s.heap h'->bB prog w h' r zs->(∀x,x∈zs↔(x∈es.toList.map fun e=>txt e.2)/\x∈xs)->Q ⟨⟩ { s with heap:=h' }) :
  wpAny (model prog w) A (forIn es' PUnit.unit F) Q E s:=by
 have e0:s={ s with heap:=s.heap }:=by cases s;rfl
 refine wpAny_forIn_array' _ (fun rest _ s'=>∃h' zs,s'={ s with heap:=h' }/\Heap.SameBut r s.heap h'/\bB prog w h' r zs/\zs.length+rest.length<=es.size/\(∀e∈rest,e∈es.toList) /\
   ∀x,(x∈zs∨((x∈rest.map fun e=>txt e.2)/\x∈xs))↔((x∈es.toList.map fun e=>txt e.2)/\x∈xs)) _ ?_ ?_ es' _ ?_
 ·rintro e rest ⟨⟩ s' ⟨h',zs,rfl,sb,hz,aU,hin,hiff⟩
  obtain⟨x,t',rfl⟩:=p.el e (hin e (.head _))
  rw[hF]
  have ha':bB prog w h' c xs:=ha.mono fun o e=>by rw[sb.2 c hc];exact e
  have pd:∀h2,Heap.SameBut r s.heap h2->cy prog w h2 d o es ep t:=fun h2 sb2=>p.kept (by rw[sb2.2 d hd];exact p.get)
  have un:∀h2 (Q2:ForInStep PUnit->Shared->Prop),Heap.SameBut r s.heap h2->Q2 (.yield ⟨⟩) { s with heap:=h2 }->wpAny (model prog w) A (do Builtin.Frozenset.unchanged id d ep;pure (.yield PUnit.unit)) Q2 E { s with heap:=h2 }:=fun h2 Q2 sb2 q=>by
   unfold Builtin.Frozenset.unchanged
   refine wpAny_bind (wpAny_bind (qG (s:={ s with heap:=h2 }) (pd h2 sb2) ?_))
   rw[if_neg (by simp)]
   exact wpAny_pure (wpAny_pure q)
  rw[List.length_cons]at aU
  refine wpAny_bind (wpAny_holding (wpAny_bind (FY (s:={ s with heap:=h' }) ha' fun r' hr'=>?_)))
  cases hx:decide (x∈xs)with
  |false =>
   rw[hr',hx]
   simp only[Bool.false_eq_true,if_false]
   refine wpAny_pure (un h' _ sb ⟨h',zs,rfl,sb,hz,by omega,fun e he=>hin e (.tail _ he),fun y=>?_⟩)
   rw[<-hiff y,List.map_cons,List.mem_cons]
   have hx':x∉xs:=of_decide_eq_false hx
   constructor
   ·rintro(q|⟨q,q2⟩)
    ·exact .inl q
    ·exact .inr ⟨.inr q,q2⟩
   ·rintro(q|⟨q|q,q2⟩)
    ·exact .inl q
    ·exact absurd (show x∈xs by rw[<-show y=x from q];exact q2) hx'
    ·exact .inr ⟨q,q2⟩
  |true =>
   rw[hr',hx]
   simp only[if_true]
   refine wpAny_bind (Gq (s:={ s with heap:=h' }) hz (by have:=p.room;omega) fun b h2 sb2 hS2=>?_)
   have sb3:Heap.SameBut r s.heap h2:=sb.trans sb2
   have hx':x∈xs:=of_decide_eq_true hx
   refine wpAny_pure (un h2 _ sb3 ⟨h2,_,rfl,sb3,hS2,?_,fun e he=>hin e (.tail _ he),fun y=>?_⟩)
   ·have:=o7 zs x
    unfold fG at this
    omega
   ·rw[<-hiff y,List.map_cons,List.mem_cons]
    have:=pK zs x y
    unfold fG at this
    rw[this]
    constructor
    ·rintro((q|q)|⟨q,q2⟩)
     ·exact .inl q
     ·exact .inr ⟨.inl q,by rw[q];exact hx'⟩
     ·exact .inr ⟨.inr q,q2⟩
    ·rintro(q|⟨q|q,q2⟩)
     ·exact .inl (.inl q)
     ·exact .inl (.inr q)
     ·exact .inr ⟨q,q2⟩
 ·rintro⟨⟩ s' ⟨h',zs,rfl,sb,hz,_,_,hiff⟩
  exact h h' zs sb hz fun x=>by simpa using hiff x
 ·refine⟨s.heap,[],e0,Heap.SameBut.refl r s.heap,hr,?_,fun e he=>hp.mem_iff.mp he,fun x=>?_⟩
  ·rw[hp.length_eq];simp
  ·rw[(gO hp).mem_iff];simp
end
section
variable{prog:Program}{w:World}{A:Around}{E:Value->Shared->Prop}{s:Shared}
theorem Cg{Q:Value->Shared->Prop}(h:Q (.ref s.heap.objs.size) { s with heap:=s.heap.push (dE w) }):wpAny (model prog w) A (newSet (.type "set")) Q E s:=by
 unfold newSet setsByText
 refine wpAny_bind (wpAny_bind (wpAny_askSetting (wpAny_pure ?_)))
 dsimp only
 simp only[newObj]
 exact wpAny_bind (wpAny_alloc (wpAny_pure h))
theorem Ec{id:String}{a b:Addr}{xs ys:List Str}{Q:Value->Shared->Prop}(ha:bB prog w s.heap a xs) (hb:bB prog w s.heap b ys) (ne:a≠b)
  (h:∀h' zs,(∀c o,s.heap.get? c=some o->h'.get? c=some o)->bB prog w h' s.heap.objs.size zs->(∀x,x∈zs↔x∈xs/\x∈ys)->Q (.ref s.heap.objs.size) { s with heap:=h' }) :
  wpAny (model prog w) A (Builtin.Frozenset.intersection id a (.ref b)) Q E s:=by
 unfold Builtin.Frozenset.intersection
 have hne:((Value.ref b)==(Value.ref a))=false:=by simpa using fun e=>ne e.symm
 rw[hne]
 simp only[Bool.false_eq_true,if_false]
 refine wpAny_bind ?_
 unfold Builtin.Frozenset.baseOf
 refine wpAny_bind (wpAny_isInstance ha.typeIs sub_set_self ?_)
 refine wpAny_pure ?_
 simp only[if_true]
 refine wpAny_bind (Cg ?_)
 refine wpAny_bind (m:=Builtin.Frozenset.addrOf _) (wpAny_pure ?_)
 refine wpAny_bind (wpAny_holding ?_)
 have kp:∀c o,s.heap.get? c=some o->(s.heap.push (dE w)).get? c=some o:=fun c o e=>Heap.get?_push_of_some _ e
 have ltT:∀{c us},bB prog w s.heap c us->c≠s.heap.objs.size:=fun z=>by
  obtain⟨o,es,ep,t,p,_⟩:=z
  exact Nat.ne_of_lt (Heap.lt_size p.get)
 have hr:bB prog w (s.heap.push (dE w)) s.heap.objs.size []:=yC (Heap.get?_push_size _ rfl)
 have ha1:bB prog w (s.heap.push (dE w)) a xs:=ha.mono fun o e=>kp a o e
 have hb1:bB prog w (s.heap.push (dE w)) b ys:=hb.mono fun o e=>kp b o e
 refine wpAny_bind (D5 (s:={ s with heap:=s.heap.push (dE w) }) hb1.typeIs ?_)
 simp only[if_true]
 refine wpAny_bind (m:=Builtin.Frozenset.addrOf _) (wpAny_pure ?_)
 obtain⟨oa,esa,epa,ta,pa,ma⟩:=ha1
 obtain⟨ob,esb,epb,tb,pb,mb⟩:=hb1
 unfold Builtin.Frozenset.sizeOf
 refine wpAny_bind (wpAny_bind (wpAny_setEntries_of (s:={ s with heap:=s.heap.push (dE w) }) pb.get pb.data pb.fit (wpAny_pure ?_)))
 refine wpAny_bind (wpAny_bind (wpAny_setEntries_of (s:={ s with heap:=s.heap.push (dE w) }) pa.get pa.data pa.fit (wpAny_pure ?_)))
 have fin:∀(h':Heap),Heap.SameBut s.heap.objs.size (s.heap.push (dE w)) h'->∀c o,s.heap.get? c=some o->h'.get? c=some o:=fun h' sb c o e=>by
  rw[sb.2 c (Nat.ne_of_lt (Heap.lt_size e))];exact kp c o e
 have body:∀(c d:Addr) (o:Obj) (es:Array (Int×Value)) (ep:Nat) (t:SetTable) (us:List Str),cy prog w (s.heap.push (dE w)) d o es ep t->bB prog w (s.heap.push (dE w)) c us->c≠s.heap.objs.size->d≠s.heap.objs.size->(∀x,(x∈es.toList.map fun e=>txt e.2)/\x∈us↔x∈xs/\x∈ys) ->
   wpAny (model prog w) A (do
     let was <-setEpoch d
     let es' <-setWalkUnseen d [c,s.heap.objs.size] (some s.heap.objs.size)
     forIn es' PUnit.unit fun x _=>do
      holding [x.snd] (do
       let f <-setFind c x.snd x.fst
       if f.isSome=true then do
        let _ <-setAddHashed s.heap.objs.size x.snd x.fst
        pure ()
       else pure ())
      Builtin.Frozenset.unchanged id d was
      pure (ForInStep.yield PUnit.unit)
     pure ()) (fun _ s'=>wpAny (model prog w) A (pure (Value.ref s.heap.objs.size)) Q E s') E { s with heap:=s.heap.push (dE w) }:=by
  intro c d o es ep t us p hc nc nd hiff
  refine wpAny_bind (qG (s:={ s with heap:=s.heap.push (dE w) }) p ?_)
  refine wpAny_bind (AU (s:={ s with heap:=s.heap.push (dE w) }) p (fun b hb=>?_) hr fun es' h' hp sb hr'=>?_)
  ·rcases List.mem_cons.mp hb with rfl|hb
   ·exact⟨_,hc⟩
   ·rw[List.mem_singleton]at hb;subst hb;exact⟨_,hr⟩
  ·refine wpAny_bind (FI (s:={ s with heap:=h' }) (id:=id) (c:=c) (d:=d) (r:=s.heap.objs.size) (p.kept (by rw[sb.2 d nd];exact p.get)) (hc.mono fun o e=>by rw[sb.2 c nc];exact e) hr' hp nc nd (fun x t u=>rfl) fun h2 zs sb2 hz hx=>?_)
   exact wpAny_pure (wpAny_pure (h h2 zs (fin h2 (sb.trans sb2)) hz fun x=>(hx x).trans (hiff x)))
 have na:a≠s.heap.objs.size:=ltT ha
 have nb:b≠s.heap.objs.size:=ltT hb
 split
 ·exact body b a oa esa epa ta ys pa ⟨_,_,_,_,pb,mb⟩ nb na fun x=>by rw[ma.mem_iff]
 ·exact body a b ob esb epb tb xs pb ⟨_,_,_,_,pa,ma⟩ na nb fun x=>by rw[mb.mem_iff];exact and_comm
theorem oh:entryFor table "set.__and__"=some Builtin.«frozenset.__and__» :=
 entryFor_alias (id':="frozenset.__and__") (by kernel_rfl) rfl (by decide +kernel) (by kernel_rfl)
theorem zN{a b:Addr}{xs ys:List Str}{Q:Value->Shared->Prop}(ha:bB prog w s.heap a xs) (hb:bB prog w s.heap b ys) (ne:a≠b)
  (h:∀h' zs,(∀c o,s.heap.get? c=some o->h'.get? c=some o)->bB prog w h' s.heap.objs.size zs->(∀x,x∈zs↔x∈xs/\x∈ys)->Q (.ref s.heap.objs.size) { s with heap:=h' }) :
  wpAny (model prog w) A (binaryOp .BitAnd (.ref a) (.ref b)) Q E s:=by
 refine wpAny_binaryOp_same (op:=.BitAnd) (T:="set") ha.typeIs hb.typeIs PySem.F.fills_set_and PySem.F.slot_set_and ?_
 refine wpAny_call_entry PySem.F.slot_set_and ha.typeIs oh ?_ (PySem.F.args_set_and_2 _ _)
 refine wpAny_bind (m:=Builtin.Frozenset.slot1 "__and__" ⟨[.ref a,.ref b],[]⟩) ?_
 unfold Builtin.Frozenset.slot1 slotArgs
 simp only[List.isEmpty_nil,Bool.not_true,Bool.false_eq_true,↓reduceIte,bind_assoc,List.length_cons,List.length_nil,bne_self_eq_false]
 refine wpAny_bind (wpAny_pure ?_)
 refine wpAny_pure ?_
 dsimp only
 refine wpAny_bind ?_
 show wpAny _ _ (Builtin.Frozenset.isAnySet (.ref a) >>= _) _ _ _
 refine wpAny_bind (D5 ha.typeIs ?_)
 refine D5 hb.typeIs ?_
 rw[if_neg (by simp)]
 refine wpAny_bind (m:=Builtin.Frozenset.addrOf _) (wpAny_pure ?_)
 exact wpAny_bind (Ec ha hb ne fun h' zs kp hz hx=>wpAny_pure ⟨_,rfl,by simp,h h' zs kp hz hx⟩)
end
theorem aS:Slot "set_iterator" "__next__" "set_iterator.__next__" :=
 .of (owner:="set_iterator") (n:="__next__") (by rw[typeLookup_type,builtinLookup_eq_fast];kernel_rfl) (by decide +kernel) (by decide +kernel) (by decide +kernel)
  (by first|exact .inl (by decide +kernel)|exact .inr (by decide +kernel)) (by rw[isSubtype_type];kernel_rfl)
theorem cL:entryFor table "set_iterator.__next__"=some Builtin.«set_iterator.__next__»:=entryFor_of_tree (by kernel_rfl)
theorem du(a:Value):argsOk "set_iterator.__next__" ⟨[a],[]⟩:=by unfold argsOk;kernel_rfl
abbrev jV(f:Value) (i:Nat) (a:Addr) (n ep:Nat):Obj:={ cls:=.type "set_iterator",data:=.fields #[f,rawInt i,.ref a,rawInt n,rawInt ep] }
section
variable{prog:Program}{w:World}{A:Around}{E:Value->Shared->Prop}{s:Shared}
theorem CQ{I a:Addr}{k i n:Nat}{o:Obj}{es:Array (Int×Value)}{ep:Nat}{t:SetTable}{x:Value}{nx:Nat}{Q:Option Value->Shared->Prop}(hI:s.heap.get? I=some (jV (rawInt k) i a n ep)) (p:cy prog w s.heap a o es ep t) (hn:es.size=n)
  (hx:∀(Q':Option (Value×Nat)->Shared->Prop) E',Q' (some (x,nx)) s->wpAny (model prog w) A.in1 (setNext a k i ep) Q' E' s)
  (h:∀h',h'.get? I=some (jV (rawInt nx) (i+1) a n ep)->Heap.SameBut I s.heap h'->Q (some x) { s with heap:=h' }):wpAny (model prog w) A (pyNext (.ref I)) Q E s:=by
 have hT:s.TypeIs (.ref I) "set_iterator":=⟨_,hI,rfl⟩
 unfold pyNext
 refine wpAny_bind (wpAny_attempt (wpAny_callSpecial?_slot (name:=Str.ofString "__next__") hT aS
  (wpAny_call_entry aS hT cL ?_ (du _))))
 unfold Builtin.«set_iterator.__next__»
 refine wpAny_bind (m:=slotArgs "__next__" 0 ⟨[.ref I],[]⟩) (wpAny_pure ?_)
 refine wpAny_bind (wpAny_fieldsOf hI rfl ?_)
 dsimp only
 simp only[rawInt,Int.toNat_natCast]
 refine wpAny_bind (wpAny_setEntries_of p.get p.data p.fit ?_)
 rw[if_neg (by rw[hn];simp)]
 refine wpAny_bind (hx _ _ ?_)
 dsimp only
 refine wpAny_bind (wpAny_setField hI rfl (by simp) ?_)
 have h1:(s.heap.update I (Obj.mapFields (·.setIfInBounds 0 (rawInt nx)))).get? I=some (jV (rawInt nx) i a n ep):=Heap.get?_update_self _ hI rfl
 refine wpAny_bind (wpAny_setField h1 rfl (by simp) ?_)
 have h2:((s.heap.update I (Obj.mapFields (·.setIfInBounds 0 (rawInt nx)))).update I (Obj.mapFields (·.setIfInBounds 1 (rawInt ((i:Int)+1))))).get? I=some (jV (rawInt nx) (i+1) a n ep):=Heap.get?_update_self _ h1 rfl
 exact wpAny_pure ⟨_,rfl,wpAny_pure (h _ h2 ((Heap.SameBut.update ..).trans (Heap.SameBut.update ..)))⟩
theorem Fw{I a:Addr}{k i n:Nat}{o:Obj}{es:Array (Int×Value)}{ep:Nat}{t:SetTable}{Q:Option Value->Shared->Prop}(hh:A.handled=none) (hI:s.heap.get? I=some (jV (rawInt k) i a n ep)) (p:cy prog w s.heap a o es ep t) (hn:es.size=n)
  (hx:∀(Q':Option (Value×Nat)->Shared->Prop) E',Q' none s->wpAny (model prog w) A.in1 (setNext a k i ep) Q' E' s)
  (h:∀h',Heap.ExtBut I s.heap h'->Q none { s with heap:=h' }):wpAny (model prog w) A (pyNext (.ref I)) Q E s:=by
 have hT:s.TypeIs (.ref I) "set_iterator":=⟨_,hI,rfl⟩
 unfold pyNext
 refine wpAny_bind (wpAny_attempt (wpAny_callSpecial?_slot (name:=Str.ofString "__next__") hT aS
  (wpAny_call_entry aS hT cL ?_ (du _))))
 unfold Builtin.«set_iterator.__next__»
 refine wpAny_bind (m:=slotArgs "__next__" 0 ⟨[.ref I],[]⟩) (wpAny_pure ?_)
 refine wpAny_bind (wpAny_fieldsOf hI rfl ?_)
 dsimp only
 simp only[rawInt,Int.toNat_natCast]
 refine wpAny_bind (wpAny_setEntries_of p.get p.data p.fit ?_)
 rw[if_neg (by rw[hn];simp)]
 refine wpAny_bind (hx _ _ ?_)
 dsimp only
 refine wpAny_bind (wpAny_setField hI rfl (by simp) ?_)
 refine wpAny_bind ?_
 simp only[newExc,newTuple]
 refine wpAny_bind (wpAny_newObj_type ?_ (by size_fits))
 refine wpAny_bind (m:=firstArgMember _ _) (wpAny_of_eq (a:=Value.none) (by first|rfl|(simp only[firstArgMember];rfl)) ?_)
 refine wpAny_newObj_type ?_ (by size_fits)
 simp only[raiseNew]
 refine wpAny_bind (wpAny_handled ?_)
 rw[show A.in1.handled=none from hh]
 refine wpAny_bind (wpAny_pure (wpAny_throw ?_))
 refine wpAny_bind (wpAny_isInstance (T:="StopIteration") (b:=true) ⟨_,Heap.get?_push_size _ rfl,rfl⟩ isSubtype_stop ?_)
 exact wpAny_pure (h _ (((Heap.SameBut.update ..).extBut.push _).push _))
end
section
variable{prog:Program}{w:World}{A:Around}{E:Value->Shared->Prop}{s:Shared}
abbrev tpO(ps:List Nat):Obj:={ cls:=.type "tuple",data:=.seq (ps.map fun(i:Nat)=>rawInt i).toArray }
theorem Gg{tp:Addr}{ps:List Nat}{Q:Option (Array Value)->Shared->Prop}(hp:s.heap.get? tp=some (tpO ps)) (h:Q (some (ps.map fun(i:Nat)=>rawInt i).toArray) s):wpAny (model prog w) A (seqItems? (.ref tp)) Q E s:=by
 unfold seqItems?
 exact wpAny_bind (wpAny_load hp (wpAny_pure h))
theorem FG{I a tp:Addr}{i n pl:Nat}{ps:List Nat}{o:Obj}{es:Array (Int×Value)}{ep:Nat}{t:SetTable}{e:Int×Value}{Q:Option Value->Shared->Prop}(hI:s.heap.get? I=some (jV (.ref tp) i a n ep)) (hp:s.heap.get? tp=some (tpO ps)) (p:cy prog w s.heap a o es ep t) (hn:es.size=n)
  (hx:ps[i]?=some pl) (he:es[pl]?=some e)
  (h:∀h',h'.get? I=some (jV (.ref tp) (i+1) a n ep)->Heap.SameBut I s.heap h'->Q (some e.2) { s with heap:=h' }):wpAny (model prog w) A (pyNext (.ref I)) Q E s:=by
 have hT:s.TypeIs (.ref I) "set_iterator":=⟨_,hI,rfl⟩
 unfold pyNext
 refine wpAny_bind (wpAny_attempt (wpAny_callSpecial?_slot (name:=Str.ofString "__next__") hT aS
  (wpAny_call_entry aS hT cL ?_ (du _))))
 unfold Builtin.«set_iterator.__next__»
 refine wpAny_bind (m:=slotArgs "__next__" 0 ⟨[.ref I],[]⟩) (wpAny_pure ?_)
 refine wpAny_bind (wpAny_fieldsOf hI rfl ?_)
 dsimp only
 simp only[rawInt,Int.toNat_natCast]
 refine wpAny_bind (wpAny_setEntries_of p.get p.data p.fit ?_)
 rw[if_neg (by rw[hn];simp)]
 refine wpAny_bind (Gg hp ?_)
 have hx':(ps.map fun(i:Nat)=>rawInt i).toArray[i]?=some (.int pl 0):=by simp[hx,rawInt]
 dsimp only
 rw[hx']
 dsimp only
 refine wpAny_bind ?_
 unfold setNextDrawn
 refine wpAny_bind (p.state ?_)
 dsimp only
 rw[if_neg (by simp),Int.toNat_natCast,he]
 refine wpAny_pure ?_
 refine wpAny_bind (wpAny_setField hI rfl (by simp) ?_)
 have h2:(s.heap.update I (Obj.mapFields (·.setIfInBounds 1 (rawInt ((i:Int)+1))))).get? I=some (jV (.ref tp) (i+1) a n ep):=Heap.get?_update_self _ hI rfl
 exact wpAny_pure ⟨_,rfl,wpAny_pure (h _ h2 (Heap.SameBut.update ..))⟩
theorem Hn{I a tp:Addr}{i n:Nat}{ps:List Nat}{o:Obj}{es:Array (Int×Value)}{ep:Nat}{t:SetTable}{Q:Option Value->Shared->Prop}(hh:A.handled=none) (hI:s.heap.get? I=some (jV (.ref tp) i a n ep)) (hp:s.heap.get? tp=some (tpO ps)) (p:cy prog w s.heap a o es ep t) (hn:es.size=n)
  (hx:ps[i]?=none)
  (h:∀h',Heap.ExtBut I s.heap h'->Q none { s with heap:=h' }):wpAny (model prog w) A (pyNext (.ref I)) Q E s:=by
 have hT:s.TypeIs (.ref I) "set_iterator":=⟨_,hI,rfl⟩
 unfold pyNext
 refine wpAny_bind (wpAny_attempt (wpAny_callSpecial?_slot (name:=Str.ofString "__next__") hT aS
  (wpAny_call_entry aS hT cL ?_ (du _))))
 unfold Builtin.«set_iterator.__next__»
 refine wpAny_bind (m:=slotArgs "__next__" 0 ⟨[.ref I],[]⟩) (wpAny_pure ?_)
 refine wpAny_bind (wpAny_fieldsOf hI rfl ?_)
 dsimp only
 simp only[rawInt,Int.toNat_natCast]
 refine wpAny_bind (wpAny_setEntries_of p.get p.data p.fit ?_)
 rw[if_neg (by rw[hn];simp)]
 refine wpAny_bind (Gg hp ?_)
 have hx':(ps.map fun(i:Nat)=>rawInt i).toArray[i]?=none:=by simp[hx]
 dsimp only
 rw[hx']
 dsimp only
 refine wpAny_bind (wpAny_setField hI rfl (by simp) ?_)
 have h1:(s.heap.update I (Obj.mapFields (·.setIfInBounds 0 (rawInt 0)))).get? I=some (jV (rawInt 0) i a n ep):=Heap.get?_update_self _ hI rfl
 refine wpAny_bind (wpAny_setField h1 rfl (by simp) ?_)
 refine wpAny_bind ?_
 simp only[newExc,newTuple]
 refine wpAny_bind (wpAny_newObj_type ?_ (by size_fits))
 refine wpAny_bind (m:=firstArgMember _ _) (wpAny_of_eq (a:=Value.none) (by first|rfl|(simp only[firstArgMember];rfl)) ?_)
 refine wpAny_newObj_type ?_ (by size_fits)
 simp only[raiseNew]
 refine wpAny_bind (wpAny_handled ?_)
 rw[show A.in1.handled=none from hh]
 refine wpAny_bind (wpAny_pure (wpAny_throw ?_))
 refine wpAny_bind (wpAny_isInstance (T:="StopIteration") (b:=true) ⟨_,Heap.get?_push_size _ rfl,rfl⟩ isSubtype_stop ?_)
 exact wpAny_pure (h _ (((((Heap.SameBut.update ..).trans (Heap.SameBut.update ..)).extBut).push _).push _))
theorem yB{a:Addr}{k i:Nat}{o:Obj}{es:Array (Int×Value)}{ep:Nat}{t:SetTable}{Q:Option (Value×Nat)->Shared->Prop}(p:cy prog w s.heap a o es ep t) (hb:byT w=true)
  (h:Q (((pickOrder (w.params.setOrder a ep) es)[i]?).map fun e=>(e.2,k)) s):wpAny (model prog w) A (setNext a k i ep) Q E s:=by
 unfold setNext
 refine wpAny_bind (p.state ?_)
 dsimp only
 refine wpAny_bind (ij ?_)
 rw[hb]
 simp only[if_true]
 rw[if_neg (by simp)]
 refine wpAny_bind ?_
 unfold setWalk
 refine wpAny_bind (p.state ?_)
 dsimp only
 refine wpAny_bind (ij ?_)
 rw[hb]
 simp only[if_true]
 exact wpAny_bind (wpAny_askSetting (wpAny_pure (wpAny_pure h)))
theorem yv{a:Addr}{k i:Nat}{o:Obj}{es:Array (Int×Value)}{ep:Nat}{t:SetTable}{Q:Option (Value×Nat)->Shared->Prop}(p:cy prog w s.heap a o es ep t) (hb:byT w=false) (h1:es.size<=1)
  (h:Q (match es[SetTable.below t.place k]?,t.place[SetTable.below t.place k]? with|some (_,x),some j=>some (x,j+1)|_,_=>none) s):wpAny (model prog w) A (setNext a k i ep) Q E s:=by
 have h2:decide (es.size > 1)=false:=decide_eq_false (by omega)
 unfold setNext
 refine wpAny_bind (p.state ?_)
 dsimp only
 refine wpAny_bind (ij ?_)
 rw[hb]
 simp only[Bool.false_eq_true,if_false]
 show wpAny _ _ (if(!t.plain&&decide (es.size > 1))=true then _ else _) _ _ _
 rw[if_neg (by rw[h2,Bool.and_false];simp)]
 refine wpAny_bind ?_
 show wpAny _ _ (if(!t.led&&!es.isEmpty)=true then _ else _) _ _ _
 rw[if_neg (by rw[p.led,hb];simp)]
 exact wpAny_pure (wpAny_pure h)
end
section
variable{prog:Program}{w:World}{A:Around}{E:Value->Shared->Prop}{s:Shared}
theorem Cs{src:Source}{n:Nat}{Q:Nat->Shared->Prop}(hn:n≠0) (h:∀i d,i<n->Q i { s with drawn:=d }):wpAny (model prog w) A (choose src n) Q E s :=
 fun Γ p hΓ=>⟨hn,h _ _ (Nat.mod_lt _ (Nat.pos_of_ne_zero hn))⟩
theorem CU{α:Type}:∀(n:Nat) (xs:List α) (s:Shared) (Q:List α->Shared->Prop),xs.length=n->(∀ys d,ys.Perm xs->Q ys { s with drawn:=d })->wpAny (model prog w) A (drawOrder n xs) Q E s
 |0,xs,s,Q,hn,h=>by
  have:xs=[]:=List.length_eq_zero_iff.mp hn
  subst this
  have e:s={ s with drawn:=s.drawn }:=by cases s;rfl
  rw[e]
  exact wpAny_pure (h [] s.drawn (.refl _))
 |n+1,x::xs,s,Q,hn,h=>by
  unfold drawOrder
  refine wpAny_bind (Cs (by simp) fun i d hi=>?_)
  rw[List.getElem?_eq_getElem hi]
  dsimp only
  refine wpAny_bind (CU n ((x::xs).eraseIdx i) _ _ (by rw[List.length_eraseIdx_of_lt hi];simp at hn ⊢;omega) fun ys d' hp=>?_)
  refine wpAny_pure (h _ d' ?_)
  have z:(x::xs)=(x::xs).take i++(x::xs)[i]::(x::xs).drop (i+1):=by rw[List.getElem_cons_drop];simp
  have e:(x::xs).eraseIdx i=(x::xs).take i++(x::xs).drop (i+1):=List.eraseIdx_eq_take_drop_succ _ _
  rw[e]at hp
  refine(hp.cons _).trans ?_
  generalize (x::xs)[i]=u at z ⊢
  conv=>rhs;rw[z]
  exact List.perm_middle.symm
theorem iO:Slot "set_iterator" "__iter__" "set_iterator.__iter__" :=
 .of (owner:="set_iterator") (n:="__iter__") (by rw[typeLookup_type,builtinLookup_eq_fast];kernel_rfl) (by decide +kernel) (by decide +kernel) (by decide +kernel)
  (by first|exact .inl (by decide +kernel)|exact .inr (by decide +kernel)) (by rw[isSubtype_type];kernel_rfl)
theorem mM:entryFor table "set_iterator.__iter__"=some Builtin.«dict_keyiterator.__iter__» :=
 entryFor_alias (id':="dict_keyiterator.__iter__") (by kernel_rfl) rfl (by decide +kernel) (by kernel_rfl)
theorem ou(a:Value):argsOk "set_iterator.__iter__" ⟨[a],[]⟩:=by unfold argsOk;kernel_rfl
theorem xX{I a:Addr}{f:Value}{i n ep:Nat}{Q:Value->Shared->Prop}(hI:s.heap.get? I=some (jV f i a n ep)) (h:Q (.ref I) s):wpAny (model prog w) A (pyIter (.ref I)) Q E s:=by
 have hT:s.TypeIs (.ref I) "set_iterator":=⟨_,hI,rfl⟩
 refine wpAny_pyIter_slot hT iO (wpAny_call_entry iO hT mM ?_ (ou _))
 show wpAny _ _ (ret (.ref I)) _ _ s
 exact wpAny_pure ⟨_,rfl,"set_iterator",_,hT,aS.lookup,h⟩
end
theorem xc(k:Nat):SetTable.below #[] k=0:=rfl
theorem yr(j:Nat):SetTable.below #[j] 0=0:=by simp[SetTable.below,SetTable.below.go]
theorem Aw(j:Nat):SetTable.below #[j] (j+1)=1:=by simp[SetTable.below,SetTable.below.go]
section
variable{prog:Program}{w:World}{A:Around}{E:Value->Shared->Prop}{s:Shared}
abbrev PSe(es':Array (Int×Value)):Nat->Value->Prop:=fun i v=>∃e,es'[i]?=some e/\v=e.2
theorem D9(hh:A.handled=none) {I a:Addr}(hne:a≠I) {o:Obj}{es:Array (Int×Value)}{ep:Nat}{t:SetTable}(hb:byT w=true) :
  Walks prog w A I [I,a] [I] es.size (PSe (pickOrder (w.params.setOrder a ep) es)) (fun i h=>(∃k:Nat,h.get? I=some (jV (rawInt k) i a es.size ep))/\cy prog w h a o es ep t) where
 sub:=fun b hb=>by simp at hb;simp[hb]
 frame:=fun _ _ _ st hk=>⟨let⟨k,g⟩:=st.1;⟨k,hk I (by simp) _ g⟩,st.2.kept (hk a (by simp) _ st.2.get)⟩
 item:=fun i s Q E hi st hQ=>by
  obtain⟨⟨k,g⟩,p⟩:=st
  have sz:(pickOrder (w.params.setOrder a ep) es).size=es.size:=by
   have:=(iq (w.params.setOrder a ep) es).length_eq
   simpa using this
  have hx:(pickOrder (w.params.setOrder a ep) es)[i]?=some ((pickOrder (w.params.setOrder a ep) es)[i]'(by omega)):=Array.getElem?_eq_getElem _
  refine CQ g p rfl (fun Q' E' q=>yB p hb (by rw[hx];exact q)) fun h' g' sb=>?_
  exact hQ _ h' s.toks ⟨_,hx,rfl⟩ ⟨⟨_,g'⟩,p.kept (by rw[sb.2 a hne];exact p.get)⟩ fun b o hb e=>by rw[sb.2 b (fun h=>hb (by simp[h]))];exact e
 done:=fun s Q E st hQ=>by
  obtain⟨⟨k,g⟩,p⟩:=st
  have sz:(pickOrder (w.params.setOrder a ep) es).size=es.size:=by
   have:=(iq (w.params.setOrder a ep) es).length_eq
   simpa using this
  have hx:(pickOrder (w.params.setOrder a ep) es)[es.size]?=none:=Array.getElem?_eq_none (by omega)
  exact Fw hh g p rfl (fun Q' E' q=>yB p hb (by rw[hx];exact q)) fun h' he'=>hQ h' s.toks fun b o hb e=>he' b o (fun h=>hb (by simp[h])) e
 self:=fun _ _ _ _ st hQ=>let⟨⟨_,g⟩,_⟩:=st;xX g hQ
theorem Es(hh:A.handled=none) {I a:Addr}(hne:a≠I) {o:Obj}{es:Array (Int×Value)}{ep:Nat}{t:SetTable}(hb:byT w=false) (h1:es.size<=1) :
  Walks prog w A I [I,a] [I] es.size (PSe es) (fun i h=>(∃k:Nat,k=(if i=0 then 0 else t.place.getD 0 0+1)/\h.get? I=some (jV (rawInt k) i a es.size ep))/\cy prog w h a o es ep t) where
 sub:=fun b hb=>by simp at hb;simp[hb]
 frame:=fun _ _ _ st hk=>⟨let⟨k,e,g⟩:=st.1;⟨k,e,hk I (by simp) _ g⟩,st.2.kept (hk a (by simp) _ st.2.get)⟩
 item:=fun i s Q E hi st hQ=>by
  obtain⟨⟨k,ek,g⟩,p⟩:=st
  have i0:i=0:=by omega
  subst i0
  have hsz:t.place.size=1:=by
   have:=p.fit
   simp[SetTable.fits]at this;omega
  obtain⟨j,hj⟩:∃j,t.place=#[j]:=by
   cases hq:t.place with
   |mk l =>
    rw[hq]at hsz
    have:l.length=1:=by simpa using hsz
    match l,this with
    |[j],_=>exact⟨j,rfl⟩
  rw[if_pos rfl]at ek;subst ek
  have hx:es[0]?=some (es[0]'(by omega)):=Array.getElem?_eq_getElem _
  refine CQ (x:=(es[0]'(by omega)).2) (nx:=j+1) g p rfl (fun Q' E' q=>yv p hb h1 (by rw[hj,yr,hx];exact q)) fun h' g' sb=>?_
  exact hQ _ h' s.toks ⟨_,hx,rfl⟩ ⟨⟨_,by rw[hj];rfl,g'⟩,p.kept (by rw[sb.2 a hne];exact p.get)⟩ fun b o hb e=>by rw[sb.2 b (fun h=>hb (by simp[h]))];exact e
 done:=fun s Q E st hQ=>by
  obtain⟨⟨k,ek,g⟩,p⟩:=st
  have hf:t.place.size=es.size:=by
   have:=p.fit
   simp[SetTable.fits]at this;omega
  refine Fw hh g p rfl (fun Q' E' q=>yv p hb h1 ?_) fun h' he'=>hQ h' s.toks fun b o hb e=>he' b o (fun h=>hb (by simp[h])) e
  rcases Nat.eq_zero_or_pos es.size with z|z
  ·have e0:t.place=#[]:=Array.size_eq_zero_iff.mp (by omega)
   have e1:es[0]?=none:=Array.getElem?_eq_none (by omega)
   rw[e0,xc,e1]
   exact q
  ·obtain⟨j,hj⟩:∃j,t.place=#[j]:=by
    cases hq:t.place with
    |mk l =>
     rw[hq]at hf
     have:l.length=1:=by simpa using(show(Array.mk l).size=1 by omega)
     match l,this with
     |[j],_=>exact⟨j,rfl⟩
   rw[if_neg (by omega)]at ek
   have e1:es[1]?=none:=Array.getElem?_eq_none (by omega)
   rw[ek,hj]
   show Q' (match es[SetTable.below #[j] (j+1)]?,_ with|some (_,x),some j=>some (x,j+1)|_,_=>none) s
   rw[Aw,e1]
   exact q
 self:=fun _ _ _ _ st hQ=>let⟨⟨_,_,g⟩,_⟩:=st;xX g hQ
theorem Ep(hh:A.handled=none) {I a tp:Addr}(hne:a≠I) (hnt:tp≠I) {o:Obj}{es:Array (Int×Value)}{ep:Nat}{t:SetTable}{ps:List Nat}(hp:ps.Perm (List.range es.size)) :
  Walks prog w A I [I,a,tp] [I] es.size (PSe (ps.map fun j=>es.getD j default).toArray) (fun i h=>h.get? I=some (jV (.ref tp) i a es.size ep)/\h.get? tp=some (tpO ps)/\cy prog w h a o es ep t) where
 sub:=fun b hb=>by simp at hb;simp[hb]
 frame:=fun _ _ _ st hk=>⟨hk I (by simp) _ st.1,hk tp (by simp) _ st.2.1,st.2.2.kept (hk a (by simp) _ st.2.2.get)⟩
 item:=fun i s Q E hi st hQ=>by
  obtain⟨g,gt,p⟩:=st
  have sz:ps.length=es.size:=by rw[hp.length_eq,List.length_range]
  have hi':i<ps.length:=by omega
  have hx:ps[i]?=some ps[i]:=List.getElem?_eq_getElem hi'
  have hm:ps[i]<es.size:=List.mem_range.mp (hp.mem_iff.mp (List.getElem_mem hi'))
  have he:es[ps[i]]?=some es[ps[i]]:=Array.getElem?_eq_getElem hm
  refine FG g gt p rfl hx he fun h' g' sb=>?_
  refine hQ _ h' s.toks ⟨es[ps[i]],?_,rfl⟩ ⟨g',by rw[sb.2 tp hnt];exact gt,p.kept (by rw[sb.2 a hne];exact p.get)⟩ fun b o hb e=>by rw[sb.2 b (fun h=>hb (by simp[h]))];exact e
  simp[hx,Array.getD,hm]
 done:=fun s Q E st hQ=>by
  obtain⟨g,gt,p⟩:=st
  have sz:ps.length=es.size:=by rw[hp.length_eq,List.length_range]
  exact Hn hh g gt p rfl (List.getElem?_eq_none (by omega)) fun h' he'=>hQ h' s.toks fun b o hb e=>he' b o (fun h=>hb (by simp[h])) e
 self:=fun _ _ _ _ st hQ=>xX st.1 hQ
end
theorem mz:entryFor table "set.__iter__"=some Builtin.«frozenset.__iter__» :=
 entryFor_alias (id':="frozenset.__iter__") (by kernel_rfl) rfl (by decide +kernel) (by kernel_rfl)
section
variable{prog:Program}{w:World}{A:Around}{E:Value->Shared->Prop}{s:Shared}
theorem yz(es:Array (Int×Value)):(List.range es.size).map (fun j=>es.getD j default)=es.toList:=by
 apply List.ext_getElem (by simp)
 intro i h1 h2
 simp at h1
 simp[Array.getD,h1]
theorem FR{a:Addr}{o:Obj}{es:Array (Int×Value)}{ep:Nat}{t:SetTable}{Q:Value->Shared->Prop}(hh:A.handled=none) (p:cy prog w s.heap a o es ep t)
  (h:∀ (I:Addr) (h':Heap) d' (es':Array (Int × Value)) (fp:List Addr) (St:Nat → Heap → Prop),es'.toList.Perm es.toList → (∀ b o,s.heap.get? b = some o → h'.get? b = some o) → Walks prog w A I fp [I] es.size (PSe es') St → St 0 h' → s.heap.objs.size ≤ I →
   (∀b∈fp,b=a∨s.heap.objs.size<=b)->Q (.ref I) { s with heap:=h',drawn:=d' }):wpAny (model prog w) A (pyIter (.ref a)) Q E s:=by
 have al:a<s.heap.objs.size:=Heap.lt_size p.get
 refine wpAny_pyIter_slot p.typeIs PySem.F.slot_set_iter (wpAny_call_entry PySem.F.slot_set_iter p.typeIs mz ?_ (PySem.F.args_set_iter_1 _))
 unfold Builtin.«frozenset.__iter__»
 refine wpAny_bind (m:=Builtin.Frozenset.slot0 "__iter__" ⟨[.ref a],[]⟩) (wpAny_pure ?_)
 unfold Builtin.Frozenset.sizeOf
 refine wpAny_bind (wpAny_bind (wpAny_setEntries_of p.get p.data p.fit (wpAny_pure ?_)))
 refine wpAny_bind ?_
 unfold setDrawn
 refine wpAny_bind (p.state ?_)
 dsimp only
 refine wpAny_bind (ij (wpAny_pure ?_))
 show wpAny _ _ (if(!byT w&&(!t.plain&&decide (es.size > 1)))=true then _ else _) _ _ _
 split
 ·rename_i hc
  refine wpAny_bind (CU es.size (List.range es.size) s _ (by simp) fun ps d hp=>?_)
  have aU:ps.length=es.size:=by rw[hp.length_eq,List.length_range]
  have hsz:=fits_of_scanBound p.room
  refine wpAny_bind ?_
  simp only[newTuple]
  refine wpAny_newObj_type ?_ (by show(ps.map _).toArray.size<=sizeLine;simp;omega)
  have g1:(s.heap.push (tpO ps)).get? s.heap.objs.size=some (tpO ps):=Heap.get?_push_size _ rfl
  have p1:cy prog w (s.heap.push (tpO ps)) a o es ep t:=p.kept (Heap.get?_push_of_some _ p.get)
  refine wpAny_bind (qG (s:={ s with heap:=s.heap.push (tpO ps),drawn:=d }) p1 ?_)
  refine wpAny_bind ?_
  unfold newFields
  refine wpAny_newObj_type ?_
  refine wpAny_pure ⟨_,rfl,"set_iterator",_,⟨_,Heap.get?_push_size _ rfl,rfl⟩,aS.lookup,?_⟩
  refine h _ _ d (ps.map fun j=>es.getD j default).toArray [(s.heap.push (tpO ps)).objs.size,a,s.heap.objs.size] _ ?_ (fun b o e=>Heap.get?_push_of_some _ (Heap.get?_push_of_some _ e))
   (Ep hh (o:=o) (t:=t) (ep:=ep) (ps:=ps) (by rw[Heap.size_push];exact Nat.ne_of_lt (Nat.lt_succ_of_lt al)) (by rw[Heap.size_push];exact Nat.ne_of_lt (Nat.lt_succ_self _)) hp) ⟨Heap.get?_push_size _ rfl,Heap.get?_push_of_some _ g1,p1.kept (Heap.get?_push_of_some _ p1.get)⟩ (by rw[Heap.size_push];omega) fun b hb=>?_
  ·have:=hp.map fun j=>es.getD j default
   rw[yz]at this
   simpa using this
  ·rw[Heap.size_push]at hb
   simp only[List.mem_cons,List.not_mem_nil,or_false]at hb
   rcases hb with rfl|rfl|rfl
   ·exact .inr (Nat.le_succ _)
   ·exact .inl rfl
   ·exact .inr (Nat.le_refl _)
 ·rename_i hc
  refine wpAny_bind (wpAny_pure ?_)
  refine wpAny_bind (qG p ?_)
  refine wpAny_bind ?_
  unfold newFields
  refine wpAny_newObj_type ?_
  refine wpAny_pure ⟨_,rfl,"set_iterator",_,⟨_,Heap.get?_push_size _ rfl,rfl⟩,aS.lookup,?_⟩
  have p1:∀oI,cy prog w (s.heap.push oI) a o es ep t:=fun oI=>p.kept (Heap.get?_push_of_some _ p.get)
  have fpok:∀b∈[s.heap.objs.size,a],b=a∨s.heap.objs.size<=b:=fun b hb=>by
   simp only[List.mem_cons,List.not_mem_nil,or_false]at hb
   rcases hb with rfl|rfl
   ·exact .inr (Nat.le_refl _)
   ·exact .inl rfl
  cases hb:byT w with
  |true =>
   exact h _ _ s.drawn _ [s.heap.objs.size,a] _ (iq (w.params.setOrder a ep) es) (fun b o e=>Heap.get?_push_of_some _ e) (D9 hh (o:=o) (t:=t) (ep:=ep) (Nat.ne_of_lt al) hb) ⟨⟨0,Heap.get?_push_size _ rfl⟩,p1 _⟩ (Nat.le_refl _) fpok
  |false =>
   have h1:es.size<=1:=by
    rcases Nat.lt_or_ge 1 es.size with z|z
    ·have hpl:=p.pl (by omega)
     rw[hb,hpl]at hc
     simp at hc;omega
    ·exact z
   exact h _ _ s.drawn es [s.heap.objs.size,a] _ (.refl _) (fun b o e=>Heap.get?_push_of_some _ e) (Es hh (o:=o) (t:=t) (ep:=ep) (Nat.ne_of_lt al) hb h1) ⟨⟨0,rfl,Heap.get?_push_size _ rfl⟩,p1 _⟩ (Nat.le_refl _) fpok
end
section
variable{prog:Program}{w:World}{A:Around}{E:Value->Shared->Prop}{s:Shared}
theorem G9{r:Addr}{Q:Bool->Shared->Prop}(hT:s.TypeIs (.ref r) "set") (h:Q false s):wpAny (model prog w) A (Builtin.List.listLengthHint (.ref r)) Q E s:=by
 unfold Builtin.List.listLengthHint
 refine wpAny_bind (wpAny_specialOf hT PySem.F.slot_set_len.lookup ?_)
 generalize hid:("set.__len__":String)=id0
 wp_delta
 rw[show splitId id0=some ("set","__len__")from by subst hid;decide +kernel]
 subst hid
 refine wpAny_bind (wpAny_isInstance (T:="set") (b:=true) hT (by rw[isSubtype_type];kernel_rfl) ?_)
 refine wpAny_ite_split (fun hab=>absurd hab (by decide)) (fun _=>?_)
 refine wpAny_ite_split (fun _=>?_) (fun hab=>absurd (by decide +kernel) hab)
 refine wpAny_bind (wpAny_typeOf hT ?_)
 exact wpAny_pure h
abbrev A4(vs:Array Value) (c:Nat):Obj:={ cls:=.type "list",data:=.seq vs c }
theorem zi{a:Addr}{o:Obj}{es:Array (Int×Value)}{ep:Nat}{t:SetTable}{Q:List Value->Shared->Prop}(hh:A.handled=none) (p:cy prog w s.heap a o es ep t)
  (h:∀s' (es':Array (Int×Value)),es'.toList.Perm es.toList->(∀b o,s.heap.get? b=some o->s'.heap.get? b=some o)->s'.gens=s.gens->s'.os=s.os->Q (es'.toList.map (·.2)) s') :
  wpAny (model prog w) A (collect (.ref a)) Q E s:=by
 have al:a<s.heap.objs.size:=Heap.lt_size p.get
 have hn:=fits_of_scanBound p.room
 unfold collect
 refine wpAny_bind (wpAny_runValue (codeAny_builtin PySem.F.entry_proto_collect ?_))
 rw[Around.under_plainId PySem.F.plain_proto_collect _]
 show wpAny _ A.in1 (newList [] >>= fun l=>again (.builtin "list.__iadd__" ⟨[l,.ref a],[]⟩)) _ _ s
 refine wpAny_bind (wpAny_newObj_type ?_)
 refine wpAny_pure ⟨plainId_quiet PySem.F.plain_list_iadd _,codeAny_builtin PySem.F.entry_list_iadd ?_⟩
 rw[Around.under_plainId PySem.F.plain_list_iadd _]
 generalize hH1:s.heap.push { cls:=.type "list",data:=.seq ([]:List Value).toArray }=H1
 have k1:∀b o,s.heap.get? b=some o->H1.get? b=some o:=fun b o e=>by rw[<-hH1];exact Heap.get?_push_of_some _ e
 have hS:H1.get? s.heap.objs.size=some (A4 #[] 0):=by rw[<-hH1];exact Heap.get?_push_size _ rfl
 have sz1:H1.objs.size=s.heap.objs.size+1:=by rw[<-hH1];exact Heap.size_push _ _
 have p1:cy prog w H1 a o es ep t:=p.kept (k1 _ _ p.get)
 show wpAny _ A.in1 (Builtin.List.listExtendWith (.ref s.heap.objs.size) (.ref a) (.ref s.heap.objs.size)) _ _ { s with heap:=H1 }
 unfold Builtin.List.listExtendWith
 refine wpAny_bind (wpAny_typeOf (T:="set") (p1.typeIs (s:={ s with heap:=H1 })) ?_)
 have hne:s.heap.objs.size≠a:=Nat.ne_of_gt al
 have h1:Builtin.List.listSameRef (.ref s.heap.objs.size) (.ref a)=false:=by simp[Builtin.List.listSameRef,hne]
 have h2:(Value.type "set"==Value.type "list")=false:=by decide
 have h3:(Value.type "set"==Value.type "tuple")=false:=by decide
 simp only[h1,h2,h3,Bool.or_false,Bool.false_eq_true,if_false]
 have hh1:A.in1.handled=none:=hh
 refine wpAny_bind (FR (s:={ s with heap:=H1 }) hh1 p1 fun I h' d' es' fp St hp k2 W st hI hfp=>?_)
 have hSf:s.heap.objs.size∉fp:=fun hm=>by
  rcases hfp _ hm with e|e
  ·exact hne e
  ·have e':H1.objs.size<=s.heap.objs.size:=e
   omega
 have szE:es'.size=es.size:=by have:=hp.length_eq;simpa using this
 have T2:Shared.TypeIs { s with heap:=h',drawn:=d' } (.ref a) "set":=(p1.kept (k2 _ _ p1.get)).typeIs (s:={ s with heap:=h',drawn:=d' })
 refine wpAny_bind (wpAny_holding (G9 T2 ?_))
 have post:∀s' (acc:Array Value) c',Moved (s.heap.objs.size::[I]) (fun a b=>b=a) { s with heap:=h',drawn:=d' } s'->s'.heap.get? s.heap.objs.size=some (A4 acc c')->ItemsOf (PSe es') acc es.size ->
   wpAny (model prog w) A (do match (<-load s.heap.objs.size).data with|.seq xs _=>pure xs.toList|_=>unsupported "internal:collect") Q E s':=by
  intro s' acc c' hm hS' hacc
  refine wpAny_bind (wpAny_load hS' (wpAny_pure ?_))
  have eacc:acc.toList=es'.toList.map (·.2):=by
   apply List.ext_getElem?
   intro i
   rcases Nat.lt_or_ge i es.size with hi|hi
   ·have:acc[i]?=some (acc[i]'(by rw[hacc.1];exact hi)):=Array.getElem?_eq_getElem _
    obtain⟨e,e1,e2⟩:=hacc.2 i _ this
    rw[Array.getElem?_toList,this,e2,List.getElem?_map,Array.getElem?_toList,e1];rfl
   ·rw[List.getElem?_eq_none (by simp[hacc.1];exact hi),List.getElem?_eq_none (by simp;omega)]
  rw[eacc]
  refine h s' es' hp (fun b o e=>hm.heap b o ?_ (k2 b o (k1 b o e))) hm.gens hm.os
  have hb:=Heap.lt_size e
  have hI':H1.objs.size<=I:=hI
  rw[sz1]at hI'
  simp only[List.mem_cons,List.not_mem_nil,or_false,not_or]
  exact⟨Nat.ne_of_lt hb,Nat.ne_of_lt (Nat.lt_of_lt_of_le (Nat.lt_succ_of_lt hb) hI')⟩
 have key:∀(R:Result->Shared->Prop) (h2:Heap) (c:Nat),St 0 h2->(∀b o,b≠s.heap.objs.size->h'.get? b=some o->h2.get? b=some o)->h2.get? s.heap.objs.size=some (A4 #[] c) ->
   (∀s' (acc:Array Value) c',Moved (s.heap.objs.size::[I]) (fun a b=>b=a) { s with heap:=h',drawn:=d' } s'->s'.heap.get? s.heap.objs.size=some (A4 acc c')->ItemsOf (PSe es') acc es.size->R (.ok (.ret (.ref s.heap.objs.size))) s') ->
   codeAny (model prog w) A (.builtin "list.extend.loop" ⟨[.ref s.heap.objs.size,.ref I,.ref s.heap.objs.size],[]⟩) R { s with heap:=h2,drawn:=d' }:=by
  intro R h2 c st2 k3 hS2 hR
  refine codeAny_extend_loopS W.toS hn _ hSf _ es.size 0 _ #[] c rfl (Nat.zero_le _) st2 hS2 (ItemsOf.nil _) fun s' acc c' hm hS' hacc=>hR s' acc c' ⟨fun b o hb e=>hm.heap b o hb (k3 b o (fun q=>hb (by simp[q])) e),hm.gens,hm.drawn,hm.os,hm.toks⟩ hS' hacc
 have hS1:=k2 _ _ hS
 refine wpAny_ite_split (fun _=>?_) (fun _=>wpAny_pure ⟨plainId_quiet PySem.F.plain_extend_loop _,?_⟩)
 ·refine wpAny_bind (wpAny_rule ?_)
  refine wpAny_bind ?_
  show wpAny _ _ (updateSeq s.heap.objs.size (·.push .none) >>= fun _=>updateSeq s.heap.objs.size (·.pop)) _ _ _
  refine wpAny_bind (wpAny_updateSeq hS1 rfl ?_)
  have hS2:=Heap.get?_update_self (Obj.mapSeq (·.push Value.none)) hS1 rfl
  refine wpAny_updateSeq hS2 rfl ?_
  have hS3:=Heap.get?_update_self (Obj.mapSeq (·.pop)) hS2 rfl
  have oth:∀b o,b≠s.heap.objs.size->h'.get? b=some o->((h'.update s.heap.objs.size (Obj.mapSeq (·.push Value.none))).update s.heap.objs.size (Obj.mapSeq (·.pop))).get? b=some o :=
   fun b o hb e=>(Heap.get?_update_other _ _ (Ne.symm hb)).trans ((Heap.get?_update_other _ _ (Ne.symm hb)).trans e)
  refine wpAny_pure ⟨plainId_quiet PySem.F.plain_extend_loop _,?_⟩
  exact key _ _ _ (W.frame 0 h' _ st fun b hb o e=>oth b o (fun q=>hSf (q▸hb)) e) oth hS3 post
 ·exact key _ h' 0 st (fun b o _ e=>e) hS1 post
end
end L2
namespace L2
open PySem PySem.Spec PyProof.Rows PySem.Calls
section
variable{prog:Program}{w:World}{A:Around}{E:Value->Shared->Prop}{s:Shared}
theorem As{es es':Array (Int×Value)}(el:ElT prog w es.toList) (hp:es'.toList.Perm es.toList) {i:Nat}(hi:i<es'.toList.length) :
  ∃t,(es'.toList.map (·.2))[i]?=some (.str ((es'.toList.map fun e=>txt e.2).getD i default) t):=by
 obtain⟨x,t,e⟩:=el _ (hp.mem_iff.mp (List.getElem_mem hi))
 refine⟨t,?_⟩
 simp only[List.getD_eq_getElem?_getD,List.getElem?_map,List.getElem?_eq_getElem hi,Option.map_some,e]
 rfl
theorem Bm{a:Addr}{xs:List Str}{Q:Value->Shared->Prop}(hh:A.handled=none) (hS:bB prog w s.heap a xs) (h64:xs.length<64)
  (k:∀ (s1:Shared) (h':Heap) (x:Addr) (us:List Value) (c:Nat),(∀ b o,s.heap.get? b = some o → s1.heap.get? b = some o) → s1.gens = s.gens → s1.os = s.os → s1.heap.objs.size ≤ x → (∀ b o,s1.heap.get? b = some o → h'.get? b = some o) → h'.get? x = some (seqObj "list" us.toArray c) →
   us.length=(aZ xs).length->(∀i,(hi:i<(aZ xs).length)->∃t,us[i]?=some (.str (aZ xs)[i] t))->Q (.ref x) { s1 with heap:=h' }) :
  wpAny (model prog w) A (call (.builtin "sorted") [.ref a]) Q E s:=by
 obtain⟨o,es,ep,t,p,pm⟩:=hS
 refine call_function_entry kind_sorted plain_sorted entry_sorted (args_sorted1 _) ?_
 unfold Builtin.«sorted»
 refine wpAny_bind (m:=checkCount "sorted" 1 1 _) (wpAny_pure ?_)
 refine wpAny_bind (zi (A:=A.in1) hh p fun s1 es' hp kp0 eg eo=>?_)
 generalize hvs:es'.toList.map (·.2)=vs
 have aU:vs.length=xs.length:=by rw[<-hvs,List.length_map,hp.length_eq,<-pm.length_eq,List.length_map]
 generalize hns:es'.toList.map (fun e=>txt e.2)=ns
 have hnl:ns.length=vs.length:=by rw[<-hns,<-hvs];simp
 have pmn:ns.Perm xs:=by rw[<-hns];exact(gO hp).trans pm
 have at_:∀i,i<vs.length->∃t,vs[i]?=some (.str (ns.getD i default) t):=fun i hi=>by
  rw[<-hvs,<-hns]
  exact As p.el hp (by rw[<-hvs,List.length_map]at hi;exact hi)
 have hz:vs.length<64:=by rw[aU];exact h64
 have hz':vs.length<=sizeLine:=by rw[sizeLine_eq];omega
 refine wpAny_bind (wpAny_newList ?_ hz')
 have new:(s1.heap.push (seqObj "list" vs.toArray 0)).get? s1.heap.objs.size=some (seqObj "list" vs.toArray 0):=Heap.get?_push_size _ rfl
 have kp2:∀b o,s1.heap.get? b=some o->(s1.heap.push (seqObj "list" vs.toArray 0)).get? b=some o:=fun b o e=>Heap.get?_push_of_some _ e
 show wpAny _ _ _ _ _ { s1 with heap:=s1.heap.push (seqObj "list" vs.toArray 0) }
 refine wpAny_bind (wpAny_holding (wpAny_call_entry slot_list_sort ⟨_,new,rfl⟩ entry_list_sort ?_ (args_list_sort _)))
 refine xV (O:=GP) (κ:=oneType') (key:=fun i=>ns.getD i default) new hz (fun t Q' two ht q=>?_) (fun i j t C hi hj ht q=>?_) fun pp c h' hpp hr hs hx=>?_
 ·exact PySem.W.kas_kind (T:=.type "str") two (fun v hv=>by
   obtain⟨i,hi⟩:=List.mem_iff_getElem?.mp hv
   obtain⟨t,g⟩:=at_ i (List.getElem?_eq_some_iff.mp hi).1
   rw[g]at hi;cases hi
   exact PySem.W.Looks.of_pure rfl) rfl rfl q
 ·obtain⟨t1,g⟩:=at_ i hi
  obtain⟨u1,g'⟩:=at_ j hj
  show wpAny _ _ (keyLt' _ _ _) _ _ _
  rw[ik g,ik g']
  exact PySem.W.kas_lt_str q
 ·refine⟨_,rfl,wpAny_pure ⟨_,rfl,?_⟩⟩
  have hlt:∀i∈pp.toList,i<vs.length:=fun i hi=>List.mem_range.mp (hpp.mem_iff.mp hi)
  have es:(pp.toList.map fun i=>ns.getD i default)=aZ xs:=by
   have hp':pp.toList.Perm (List.range ns.length):=by rw[hnl];exact hpp
   have hm:=hp'.map fun i=>ns.getD i default
   rw[mY]at hm
   refine mi (hm.trans pmn) ?_
   rw[List.pairwise_iff_getElem]
   intro i j hi hj hij
   have sz:pp.size=vs.length:=hpp.size
   rw[List.length_map,Array.length_toList]at hi hj
   have:=hr i j (Nat.le_of_lt hij) (by omega)
   have e1:kp_ pp i=pp.toList[i]'(by simpa using hi):=by simp[kp_,Array.getD,hi]
   have e2:kp_ pp j=pp.toList[j]'(by simpa using hj):=by simp[kp_,Array.getD,hj]
   have g:leS (ns.getD (kp_ pp i) default) (ns.getD (kp_ pp j) default)=true:=by
    have z:ltS (ns.getD (kp_ pp j) default) (ns.getD (kp_ pp i) default)=false:=this
    simp only[leS,z,Bool.not_false]
   rw[e1,e2]at g
   simpa using g
  have ln:(aZ xs).length=vs.length:=by rw[<-es,List.length_map,Array.length_toList];exact hpp.size
  refine k s1 h' s1.heap.objs.size (ic vs pp) c kp0 eg eo (Nat.le_refl _) (fun b o e=>hs b o (Nat.ne_of_lt (Heap.lt_size e)) (kp2 b o e)) hx ((kJ hpp).trans ln.symm) fun i hi=>?_
  have hi':i<pp.toList.length:=by rw[Array.length_toList];rw[show pp.size=vs.length from hpp.size];omega
  obtain⟨t1,g⟩:=at_ _ (hlt _ (List.getElem_mem hi'))
  refine⟨t1,?_⟩
  have e2:(aZ xs)[i]?=some (ns.getD pp.toList[i] default):=by rw[<-es,List.getElem?_map,List.getElem?_eq_getElem hi'];rfl
  have e3:(aZ xs)[i]=ns.getD pp.toList[i] default:=by rw[List.getElem?_eq_getElem hi]at e2;exact Option.some.inj e2
  rw[e3,ic,List.getElem?_map,List.getElem?_eq_getElem hi',Option.map_some,ik g]
end
def fU(xs ys:List Str):List Str:=(gF xs).filter fun x=>decide (x∈ys)
theorem eN{xs ys:List Str}{x:Str}:x∈fU xs ys↔x∈xs/\x∈ys:=by simp[fU,mU]
theorem sf:∀(xs zs:List Str),zs.Nodup->(xs.foldl fG zs).Nodup
 |[],_,h=>h
 |x::xs,zs,h=>by
  rw[List.foldl_cons]
  refine sf xs _ ?_
  unfold fG;split
  ·exact h
  ·rename_i hx
   rw[List.nodup_append]
   exact⟨h,by simp,fun a ha b hb=>by rw[List.mem_singleton]at hb;subst hb;intro q;subst q;exact hx ha⟩
theorem iD(xs ys:List Str):(fU xs ys).Nodup:=(sf xs [] .nil).filter _
theorem gW{l l':List Str}(h:l.Nodup) (h':l'.Nodup) (e:∀x,x∈l↔x∈l'):l.Perm l':=by
 rw[List.perm_iff_count]
 intro a
 rw[h.count,h'.count]
 simp only[e a]
theorem dv{l l':List Str}(h:l.Perm l'):aZ l=aZ l':=mi ((di l).trans h) (sj l)
section
variable{X:Cx}{aa:List (Addr×Obj)}{s:Shared}{σ:St}{H:Hp}{M:DH}
theorem bB.nd{prog:Program}{w:World}{h:Heap}{a:Addr}{xs:List Str}(z:bB prog w h a xs):xs.Nodup:=by
 obtain⟨o,es,ep,t,p,q⟩:=z
 exact q.nodup_iff.mp p.nd
theorem Inv.with{s':Shared}(I:Inv X aa σ H s) (k:∀b u,s.heap.get? b=some u->s'.heap.get? b=some u) (g:s'.gens=s.gens) (o:s'.os=s.os):Inv X aa σ H s':=by
 have I1:Inv X aa σ H { s with heap:=s'.heap,toks:=s'.toks }:=I.kept k
 exact⟨I1.ok,o.trans I1.os,by rw[g];exact I1.bare,I1.base,I1.loc,I1.cell,I1.free,I1.freeC,I1.pin,I1.hok,I1.len⟩
def dSS(ta tb:TEd):TEd:=fun Δ M Q=>ta Δ M fun x M1=>∃xs:List Str,rdM M1 x=.lst (xs.map D.str)/\xs.length<63/\tb Δ M1 fun y M2=>∃ys:List Str,rdM M2 y=.lst (ys.map D.str)/\ys.length<63/\Q (.lst ((aZ (fU xs ys)).map D.str)) M2
theorem zS{a:Expr}{ta:TEd}{R:D->DH->Prop}{Q:Value->Shared->Prop}{p pos:Pos}(hc:X.calm=true) (hg:Gl X "set") (hm:X.mg "set"=none) (ha:PEd X a ta) (he:starEach [a] X.env=(false,eval a X.env)::starEach [] X.env)
  (hpl:(backTo pos (starEach [] X.env)).any (·.1)=false) (I:Inv X aa σ H s) (h:up X.K ta σ H (fun v H1=>∃(x:D) (M1:DH),R x M1/\HR X.K M1 H1/\aQ X.K M1 H1 (rdM M1 x) v/\Ext M H M1 H1))
  (hx:∀x M1,R x M1->∃xs:List Str,rdM M1 x=.lst (xs.map D.str)/\xs.length<63)
  (k:∀(c:Addr) s' x M1 H1 xs,Inv X aa σ H1 s'->R x M1->rdM M1 x=.lst (xs.map D.str)->HR X.K M1 H1->Ext M H M1 H1->bB X.prog X.w s'.heap c (gF xs)->eF X aa H1 c->Q (.ref c) s') :
  wpAny (model X.prog X.w) X.A (eval (.Call (.Name "set" p) [a] [] pos) X.env) Q X.xe s:=by
 refine wpAny_Call_Name_kw (fZ I hg hm (u:=.type "set") (by kernel_rfl) ?_ (by decide) (by decide))
 refine PyProof.Rows.callWith_type1 ?_ he hpl
 rw[he]
 show wpAny _ _ (spliced ((false,eval a X.env)::backTo pos (starEach [] X.env))) _ _ s
 refine Calls.spliced_cons (thn (ha aa s σ H _ I h) fun u s1 ⟨v,H1,I1,r1,x,M1,q1,hr1,rv,e1⟩=>?_)
 refine Calls.spliced_nil ?_
 obtain⟨xs,ex,hl⟩:=hx x M1 q1
 rw[ex]at rv
 obtain⟨l,vs,rfl,sq,rl⟩:=rv
 cases r1
 obtain⟨its,rvs,pl,hz⟩:=I1.list (SqL.of sq)
 have hn:xs.length=its.length:=by rw[<-rvs.length,<-rl.length,List.length_map]
 have hb:xs.length+1<scanBound:=by have e:scanBound=4096:=rfl;rw[e];omega
 refine wH (I1.ok.hd hc) pl.isList (by simp[hn]) (fun i hi=>?_) hb fun h' tk hS kp=>?_
 ·obtain⟨t,g⟩:=zZ rl rvs hi
  exact⟨t,by simpa using g⟩
 ·exact k _ _ x M1 H1 xs (I1.kept kp) q1 ex hr1 e1 hS (I1.fpOk (Nat.le_refl _) (I1.hok.fresh (Nat.le_refl _)))
theorem zR:∀{ns:List Str}{us:List Value},us.length=ns.length->(∀i,(hi:i<ns.length)->∃t,us[i]?=some (.str ns[i] t))->az (ns.map V.str) us
 |[],us,h,_=>by
  have:us=[]:=List.length_eq_zero_iff.mp h
  subst this;exact .nil
 |n::ns,[],h,_=>by simp at h
 |n::ns,u::us,h,q=>by
  obtain⟨t,g⟩:=q 0 (by simp)
  have e:u=.str n t:=by simpa using g
  subst e
  exact .cons ⟨t,rfl⟩ (zR (by simpa using h) fun i hi=>q (i+1) (Nat.succ_lt_succ hi))
theorem tP{K:PySem.W.Frag}:∀{ns:List Str},am K M H (ns.map D.str) (ns.map V.str)
 |[]=>rfl
 |n::ns=>⟨_,_,rfl,rfl,tP⟩
theorem Hr{a b:Expr}{ta tb:TEd}{p0 p1 p2 q0 q1 q2 q3:Pos}(hc:X.calm=true) (hgS:Gl X "sorted") (hmS:X.mg "sorted"=none) (hg:Gl X "set") (hm:X.mg "set"=none) (ha:QEd X a ta) (hb:QEd X b tb)
  (he0:starEach [.BinOp (.Call (.Name "set" p1) [a] [] q1) .BitAnd (.Call (.Name "set" p2) [b] [] q2) q3] X.env=(false,eval (.BinOp (.Call (.Name "set" p1) [a] [] q1) .BitAnd (.Call (.Name "set" p2) [b] [] q2) q3) X.env)::starEach [] X.env:=by rfl)
  (he1:starEach [a] X.env=(false,eval a X.env)::starEach [] X.env:=by rfl) (he2:starEach [b] X.env=(false,eval b X.env)::starEach [] X.env:=by rfl)
  (hp0:(backTo q0 (starEach [] X.env)).any (·.1)=false:=by rfl) (hp1:(backTo q1 (starEach [] X.env)).any (·.1)=false:=by rfl) (hp2:(backTo q2 (starEach [] X.env)).any (·.1)=false:=by rfl) :
  QEd X (.Call (.Name "sorted" p0) [.BinOp (.Call (.Name "set" p1) [a] [] q1) .BitAnd (.Call (.Name "set" p2) [b] [] q2) q3] [] q0) (dSS ta tb):=by
 simp only[QEd.eq]at *
 intro aa s σ H Q I ⟨Δ,M,R,sr,hr,q,k⟩
 refine wpAny_Call_Name_kw (fZ I hgS hmS (u:=.builtin "sorted") (by kernel_rfl) ?_ (by decide) (by decide))
 refine PyProof.Rows.callWith_builtin1 ?_ he0 hp0
 rw[he0]
 show wpAny _ _ (spliced ((false,eval _ X.env)::backTo q0 (starEach [] X.env))) _ _ s
 refine Calls.spliced_cons (wpAny_BinOp ?_)
 refine zS (M:=M) hc hg hm ha he1 hp1 I ⟨Δ,M,_,sr,hr,q,fun x M1 v H1 q1 e1 hr1 rv=>⟨x,M1,q1,hr1,rv.rd hr1,e1⟩⟩ (fun x M1 ⟨xs,ex,hl,_⟩=>⟨xs,ex,hl⟩) fun c s1 x M1 H1 xs' I1 ⟨xs,ex,hl,q2⟩ ex' hr1 e1 hS fc=>?_
 have exx:xs'=xs:=by
  have:=ex'.symm.trans ex
  simp only[D.lst.injEq]at this
  exact(List.map_inj_right (fun a b h=>by simpa using h)).mp this
 subst exx
 obtain⟨oc,esc,epc,tc,pc,mc⟩:=id hS
 have I1':Inv X (aa++[(c,oc)]) σ H1 s1:=I1.pins_of fun p hp=>by
  rcases List.mem_append.mp hp with z|z
  ·exact I1.pin p (List.mem_append_right _ z)
  ·rw[List.mem_singleton]at z;subst z
   exact⟨pc.get,fc.1,fc.2.1,fc.2.2.1,fun v e=>by rw[pc.data]at e;cases e⟩
 refine zS (M:=M1) hc hg hm hb he2 hp2 I1' ⟨Δ,M1,_,sr.ext e1,hr1,q2,fun y M2 v H2 q3 e2 hr2 rv=>⟨y,M2,q3,hr2,rv.rd hr2,e2⟩⟩ (fun x M1 ⟨xs,ex,hl,_⟩=>⟨xs,ex,hl⟩) fun d s2 y M2 H2 ys' I2 ⟨ys,ey,hly,q4⟩ ey' hr2 e2 hS2 fd=>?_
 have eyy:ys'=ys:=by
  have:=ey'.symm.trans ey
  simp only[D.lst.injEq]at this
  exact(List.map_inj_right (fun a b h=>by simpa using h)).mp this
 subst eyy
 have mem:(c,oc)∈X.pn++(aa++[(c,oc)]):=List.mem_append_right _ (List.mem_append_right _ (.head _))
 have ne:c≠d:=fd.2.2.2.2.2 _ mem
 have hSc:bB X.prog X.w s2.heap c (gF xs'):=hS.mono fun o e=>by rw[pc.get]at e;cases e;exact(I2.pin _ mem).1
 refine zN hSc hS2 ne fun h3 zs kp hz hx=>?_
 refine Calls.spliced_nil ?_
 have pm:zs.Perm (fU xs' ys'):=gW hz.nd (iD _ _) fun x=>by rw[hx,eN,mU,mU]
 have aU:zs.length<64:=by
  rw[pm.length_eq]
  have:=List.length_filter_le (fun x=>decide (x∈ys')) (gF xs')
  have:=nG xs'
  unfold fU;omega
 refine Bm (s:={ s2 with heap:=h3 }) (I2.ok.hd hc) hz aU fun s4 h' z us cc kp0 eg eo hzz kp1 gz hul hat=>?_
 have I3:Inv X aa σ H2 s4:=(I2.unpinned).with (fun b u e=>kp0 b u (kp b u e)) eg eo
 rw[dv pm]at hul hat
 have I4:=I3.laid (t':=s4.toks) (o:=.lst ((aZ (fU xs' ys')).map V.str)) kp1 hzz (show bY X.prog X.w _ h' z (.lst _)from⟨by
  rw[List.length_map,<-hul,hul,<-dv pm,(di zs).length_eq,sizeLine_eq];omega,us,cc,zR hul hat,gz⟩)
 refine⟨.ref z,_,I4,rfl,iZ hr2 (I3.hok.fresh hzz) tP fun w H' a b c=>?_⟩
 exact k _ _ _ _ q4 ((e1.trans e2).trans a) b c
end
end L2
namespace L2
open PySem PySem.Spec PyProof.Rows
def qM(N:List Str) (scope:Scope) (ms:List Bool):Bool :=
 scope.kind==.function&&scope.names.all (fun y=>y.2==.local&&scope.names.lookup y.1==some .local)&&ms.all (fun b=>!b)&&decide (ms.length<=N.length)
theorem xh{X:Cx}{scope:Scope}{ms:List Bool}{ar:List Str}(c:qM X.N scope ms=true):eG X scope (cH scope.names X.env.cells) ms ar:=by
 unfold qM at c
 simp only[Bool.and_eq_true,List.all_eq_true,decide_eq_true_eq]at c
 obtain⟨⟨⟨c1,c2⟩,c3⟩,c4⟩:=c
 have lo:∀y∈scope.names,y.2=.local:=fun y hy=>by simpa using(c2 y hy).1
 refine⟨by simpa using c1,fun y hy e=>?_,fun y hy e=>by simpa using(c2 y hy).2,vW fun y hy e=>?_,fun x c h=>sC h,fun x h=>?_,fun x h=>?_,fun i x h1 h2=>?_,c4⟩
 ·rw[lo y hy]at e;cases e
 ·rw[lo y hy]at e;cases e
 ·have:=lo _ (PySem.mem_of_lookup h);cases this
 ·have:=lo _ (PySem.mem_of_lookup h);cases this
 ·have:=c3 _ (List.mem_of_getElem? h1)
  simp at this
end L2
namespace My
open PySem PySem.Spec PyProof.Rows L2
def top(i:Nat):Stmt:=PySem.Challenge.pw_wordwishes_k57_lexicons_parted.main.body.getD i (.Pass ⟨0,0,0,0⟩)
abbrev ck:Stmt:=top 3
abbrev dn:Stmt:=top 4
abbrev de:Stmt:=top 6
abbrev g9:Stmt:=top 7
abbrev er:Stmt:=top 9
abbrev iY:Stmt:=top 10
abbrev dO:Stmt:=top 15
abbrev gd:Stmt:=top 16
abbrev fX:Stmt:=top 17
abbrev eE:Stmt:=top 20
abbrev cB:Stmt:=top 21
abbrev dj:Stmt:=top 22
abbrev eO:Stmt:=top 23
abbrev dI:Stmt:=top 24
abbrev eh:Stmt:=top 25
abbrev cj:Stmt:=top 26
abbrev gc:Stmt:=top 29
abbrev eA:Stmt:=top 30
abbrev bZ:Stmt:=top 31
abbrev dG:Stmt:=top 32
abbrev df:Stmt:=top 33
abbrev mH:Stmt:=top 35
abbrev dH:Stmt:=top 37
abbrev gX:Stmt:=top 38
abbrev nU:Stmt:=top 40
abbrev mr:Stmt:=top 41
abbrev nP:Stmt:=top 42
abbrev fL:Stmt:=top 43
abbrev eP:Stmt:=top 44
abbrev ke:Stmt:=top 45
abbrev ff:Stmt:=top 46
abbrev ka:Stmt:=top 47
abbrev eW:Stmt:=top 48
abbrev g8:Stmt:=top 49
abbrev jd:Stmt:=top 50
abbrev bV:Stmt:=top 51
abbrev jL:Stmt:=top 52
abbrev iB:Stmt:=top 53
abbrev lU:Stmt:=top 54
abbrev yH:Stmt:=top 55
abbrev kn:Stmt:=F7 (top 28) 0
abbrev cR:List Str:=["thing"]
theorem eQ:ax cR ["thing"] (aj ck):=fsc
abbrev dm:List Str:=["parts","length","told","place"]
theorem gK:ax dm ["parts","length"] (aj dn):=fsc
abbrev kI:List Str:=["pairs","mark","reached","at","low","high"]
theorem eY:ax kI ["pairs","mark"] (aj de):=fsc
abbrev r8:List Str:=["order","one","other"]
theorem jF:ax r8 ["order","one","other"] (aj g9):=fsc
abbrev mh:List Str:=["order","turn","one","other"]
theorem gq:ax mh ["order","turn","one","other"] (aj er):=fsc
abbrev ui:List Str:=["order","one","other"]
theorem k9:ax ui ["order","one","other"] (aj iY):=fsc
abbrev dR:List Str:=["lexicon"]
theorem iJ:ax dR ["lexicon"] (aj dO):=fsc
abbrev pZ:List Str:=["lexicon","thing"]
theorem iW:ax pZ ["lexicon","thing"] (aj gd):=fsc
abbrev rC:List Str:=["lexicon","word"]
theorem iL:ax rC ["lexicon","word"] (aj fX):=fsc
abbrev mK:List Str:=["lexicon"]
theorem gu:ax mK ["lexicon"] (aj eE):=fsc
abbrev iF:List Str:=["lexicon","words","kinds","number","word"]
theorem dA:ax iF ["lexicon","words"] (aj cB):=fsc
abbrev bG:List Str:=["kinds"]
theorem ie:ax bG ["kinds"] (aj dj):=fsc
abbrev nR:List Str:=["kinds"]
theorem gD:ax nR ["kinds"] (aj eO):=fsc
abbrev lI:List Str:=["kinds","place","number","kind","at","row"]
theorem fJ:ax lI ["kinds","place"] (aj dI):=fsc
abbrev mO:List Str:=["place","number","kind","at"]
theorem gk:ax mO ["place"] (aj eh):=fsc
abbrev cV:List Str:=["kinds","place","number"]
theorem eR:ax cV ["kinds","place"] (aj cj):=fsc
abbrev qK:List Str:=["lexicon","words"]
theorem iM:ax qK ["lexicon","words"] (aj gc):=fsc
abbrev mL:List Str:=["order","sign","other"]
theorem gy:ax mL ["order","sign","other"] (aj eA):=fsc
abbrev bE:List Str:=["order","chart","place","sign"]
theorem fK:ax bE ["order","chart","place"] (aj bZ):=fsc
abbrev lL:List Str:=["chart","place","counts","mate","onward","inner","end","count"]
theorem fT:ax lL ["chart","place"] (aj dG):=fsc
abbrev kL:List Str:=["chart"]
theorem eZ:ax kL ["chart"] (aj df):=fsc
abbrev xO:List Str:=["lexicon","words"]
theorem pT:ax xO ["lexicon","words"] (aj mH):=fsc
abbrev lO:List Str:=["lexicon","words"]
theorem fN:ax lO ["lexicon","words"] (aj dH):=fsc
abbrev rQ:List Str:=["one","other","length","shared","many_words","words"]
theorem jt:ax rQ ["one","other","length"] (aj gX):=fsc
abbrev yt:List Str:=["_law_script","_law_place"]
theorem oR:ax yt ["_law_script","_law_place"] (aj nU):=fsc
abbrev zX:List Str:=["_law_cell_here","_law_rest","_law_one"]
theorem o3:ax zX ["_law_cell_here"] (aj mr):=fsc
abbrev ya:List Str:=["_law_pool_here","_law_amount","_law_found"]
theorem oW:ax ya ["_law_pool_here","_law_amount"] (aj nP):=fsc
abbrev eI:List Str:=["_law_pool_here","_law_known","_law_letters","_law_word_here","_law_some"]
theorem pD:ax eI ["_law_pool_here","_law_known"] (aj fL):=fsc
abbrev mD:List Str:=["_law_pool_here","_law_amount","_law_found","_law_k"]
theorem gw:ax mD ["_law_pool_here","_law_amount"] (aj eP):=fsc
abbrev wX:List Str:=["_law_pool_here","_law_marks","_law_most","_law_found","_law_k","_law_low"]
theorem me:ax wX ["_law_pool_here","_law_marks","_law_most"] (aj ke):=fsc
abbrev gR:List Str:=["_law_order_here","_law_one","_law_other_here","_law_found","_law_turn"]
theorem jP:ax gR ["_law_order_here","_law_one","_law_other_here"] (aj ff):=fsc
abbrev wQ:List Str:=["_law_pool_here","_law_marks","_law_most","_law_signs","_law_turns","_law_found","_law_k","_law_row","_law_j","_law_mark"]
theorem ng:ax wQ ["_law_pool_here","_law_marks","_law_most","_law_signs","_law_turns"] (aj ka):=fsc
abbrev ib:List Str:=["_law_pool_here","_law_marks","_law_words","_law_signs","_law_order_here","_law_goal","_law_entries","_law_word_here","_law_kinds_here"]
theorem jr:ax ib ["_law_pool_here","_law_marks","_law_words","_law_signs"] (aj eW):=fsc
abbrev sQ:List Str:=["_law_order_here","_law_one","_law_other_here"]
theorem jK:ax sQ ["_law_order_here","_law_one","_law_other_here"] (aj g8):=fsc
abbrev ua:List Str:=["_law_order_here","_law_row","_law_amount","_law_good","_law_i","_law_size","_law_k"]
theorem k7:ax ua ["_law_order_here","_law_row"] (aj jd):=fsc
abbrev bT:List Str:=["_law_lexicon_here","_law_words","_law_rows_here","_law_word_here","_law_longer","_law_one","_law_kinds_here","_law_kind"]
theorem fF:ax bT ["_law_lexicon_here","_law_words"] (aj bV):=fsc
abbrev mN:List Str:=["_law_words","_law_length","_law_found","_law_turn","_law_longer","_law_row"]
theorem oV:ax mN ["_law_words","_law_length"] (aj jL):=fsc
abbrev iC:List Str:=["_law_pool_here","_law_marks","_law_lexicon_here","_law_order_here","_law_goal","_law_entries","_law_at","_law_way","_law_kinds_here","_law_words","_law_new"]
theorem nq:ax iC ["_law_pool_here","_law_marks","_law_lexicon_here"] (aj iB):=fsc
abbrev fW:List Str:=["_law_one","_law_other_here","_law_length","_law_words","_law_size","_law_row"]
theorem sW:ax fW ["_law_one","_law_other_here","_law_length"] (aj lU):=fsc
abbrev G3:List Str:=["_law_script","_law_k","_law_pool_here","_law_marks","_law_words","_law_one","_law_other_here","_law_length","_law_due_here"]
theorem yI:ax G3 ["_law_script"] (aj yH):=fsc
abbrev wz:List Str:=["self","order","kinds","place"]
theorem og:ax wz ["self","order","kinds"] (aj kn):=fsc
structure jG(K:PySem.W.Frag) (C:Addr):Prop where
 c:Cls K C
 n_kinds:cP K C "kinds"
 n_end:cP K C "end"
 n_steps:cP K C "steps"
 n_counts:cP K C "counts"
structure Txt(K:PySem.W.Frag) (mg:Str->Option Value):Prop where
 g_START:CW K mg "START" [.inl (-1),.inl (0),.inl (0)]
 b_isinstance:mg "isinstance"=none
 b_str:mg "str"=none
 b_all:mg "all"=none
 b_len:mg "len"=none
 b_range:mg "range"=none
 b_enumerate:mg "enumerate"=none
 b_max:mg "max"=none
 b_list:mg "list"=none
 b_sorted:mg "sorted"=none
 b_set:mg "set"=none
 b_abs:mg "abs"=none
 b_tuple:mg "tuple"=none
 b_any:mg "any"=none
 b_reversed:mg "reversed"=none
 g_SMALL_LETTERS:∃t,mg "SMALL_LETTERS"=some (.str "abcdefghijklmnopqrstuvwxyz" t)
 g_MOST_LETTERS:∃t,mg "MOST_LETTERS"=some (.int 8 t)
set_option hygiene false in
local macro_rules|`(tactic| walk_at "rd")=>`(tactic| simp only[dSS,wM,z5,zH,DA,zP,u7,xI,su,qX,uA,vp,vS,vM,xB,FP,xY,uy,Ah,uD,vK,Ex,tm,oG,bK,dC,AS,zz,Ce,CV,CC,dOp,dUn,ow,Gv,yq,CN,dCB,cx,fu,BP,Dc,uv,GK,Ax,sx,F6,Ft,dIf,gn,wW,qS,j5,yk,GR,FM,zp,CB,qJ,E8,AF,yE,xT,dDT,Ay,B6,vX,CH,ue,HD.dKr.injEq,AN,HD.dT.injEq,HD.dK.injEq,GU,GS,Ej,Dd,Aj,qD,Ae,C9,dLc,Bn,F8,
 qZ,mj,A0,BD,vh,Cj,A6,Bg,En,Bs,Cq,Bz,dQ,F3,Gp,GQ,C7,Gs,G4,z9,DK,DY,Fp,EE,El,Dr,EM,uc,E1,Df,t9,Fu,Gf,Gu,FC,D0,Dq,G5,Hd,FS,Ap,xC,xU,zc,GL,GF,Fs,FB,He,FD,GV,CP,GZ,BZ,xt,DU,ai,ay,
 jk,List.map_cons,List.map_nil,List.cons_append,List.nil_append,List.length_cons,List.length_nil,List.replicate,List.set_cons_zero,List.set_cons_succ,List.getElem?_cons_zero,List.getElem?_cons_succ,Option.some.injEq,exists_eq_left',exists_eq_left,D.int.injEq,D.bl.injEq,D.str.injEq,D.ref.injEq,D.tup.injEq,D.lst.injEq,true_and,and_true,if_true,decide_eq_true_eq,exists_and_left,Nat.zero_add,Nat.reduceAdd,Nat.reduceSub,FF,C5,zB,Gm,HD.lst.injEq,List.cons.injEq,or_true,true_or,and_self,↓reduceIte,Int.reduceLT,Int.reduceLE,Int.reducePow,Int.reduceNeg,Int.reduceToNat,Nat.reducePow,Nat.reduceLT,Nat.reduceLeDiff,Int.reduceAdd,Int.reduceMul,Int.reduceSub,Bool.false_eq_true,Bool.true_eq_false,if_false])
section
variable{P:Program}{w:World}{K:PySem.W.Frag}{mg:Str->Option Value}{base:Heap}
def aF(x:Str×Str):D:=.tup [.str x.1,.str x.2]
theorem jU{aA:List Str}{v:Int}(h0:0<=v) (h1:v<(aA.length:Int)):∃m∈aA,atI (aA.map D.str) v=some (.str m):=by
 obtain⟨n,rfl⟩:=Int.eq_ofNat_of_zero_le h0
 have hn:n<aA.length:=by omega
 exact⟨aA[n],List.getElem_mem hn,bS (by simp[hn])⟩
theorem b7{M:DH}{p q:Addr}{a b:HD}(h:p≠q):au (au M p a) q b=au (au M q b) p a:=by
 funext c
 unfold au
 by_cases h1:c=q
 ·subst h1;simp[Ne.symm h]
 ·by_cases h2:c=p
  ·subst h2;simp[h]
  ·simp[h1,h2]
end
section
variable{P:Program}{w:World}{K:PySem.W.Frag}{mg:Str->Option Value}{base:Heap}
theorem uN{xs:List D}{n:Nat}:L2.cG xs none (some (n:Int))=xs.take n:=by
 unfold L2.cG
 rw[HT.sIx_none,HT.sIx_nat,List.drop_zero,Nat.sub_zero]
 by_cases h:n<=xs.length
 ·rw[Nat.min_eq_left h]
 ·rw[Nat.min_eq_right (by omega),List.take_length,List.take_of_length_le (by omega)]
theorem gY{xs:List D}{n:Nat}:L2.cG xs (some (n:Int)) none=xs.drop n:=by
 unfold L2.cG
 rw[HT.sIx_none,HT.sIx_nat]
 by_cases h:n<=xs.length
 ·rw[Nat.min_eq_left h,List.take_of_length_le (by simp)]
 ·rw[Nat.min_eq_right (by omega),Nat.sub_self,List.take_zero,List.drop_of_length_le (by omega)]
theorem bL{lo:Int}{n:Nat}:(iE lo n).length=n:=by simp[iE]
end
section
variable{P:Program}{w:World}{K:PySem.W.Frag}{mg:Str->Option Value}{base:Heap}
inductive cS (ord:List (Str×Str)) (a:Str):Str->Prop
 |refl:cS ord a a
 |step {b c:Str}:cS ord a b->(b,c)∈ord->cS ord a c
theorem rO{ord:List (Str×Str)}{a x:Str}{L:List Str}(h0:a∈L) (hc:∀y∈ord,y.1∈L->y.2∈L) (h:cS ord a x):x∈L:=by
 induction h with
 |refl=>exact h0
 |step _ hm ih=>exact hc _ hm ih
def fA:SpD:=fun ds M R=>∃(ord:List (Str×Str)) (a:Str),ds=[.tup (ord.map aF),.str a]/\ord.length<=500 /\
 ∀L:List Str,a∈L->(∀y∈ord,y.1∈L->y.2∈L)->(∀x∈L,cS ord a x)->L.length<=ord.length+1->R (.lst (L.map .str)) M
abbrev tIn:TSd:=AS (yq (ow (dOp eqF (bK 4) (dOp ixD (bK 2) (bK 3)))) (ow (dOp (inE true) (bK 5) (bK 2)))) (sx (Ax (bK 2) (bK 5))) zz
theorem iy{q:Addr}{E:fH}{M:DH}(hq:M q=none) (ps:D) (a:Str) (ord:List (Str×Str)) (hord:ord.length<=500) (i:Nat) (L0:List Str) (hi:i<L0.length):∀(todo done:List (Str×Str)) (x4 x5:Option D) (L:List Str),ord=done++todo->(∃t,L=L0++t)->L.Nodup->(∀x∈L,cS ord a x)->(∀x∈L,x∈a::ord.map (·.2))->(∀y∈done,y.1=L0[i]->y.2∈L) ->
  (∀(y4 y5:Option D) (L':List Str),(∃t,L'=L0++t)->L'.Nodup->(∀x∈L',cS ord a x)->(∀x∈L',x∈a::ord.map (·.2))->(∀y∈ord,y.1=L0[i]->y.2∈L')->E.nx [some ps,some (.str a),some (.ref q),some (.int i),y4,y5] (au M q (.lst (L'.map .str)))) ->
  bQ (k8 (gh (bf 4) (gh (bf 5) oO)) 2) tIn E (todo.map aF) [some ps,some (.str a),some (.ref q),some (.int i),x4,x5] (au M q (.lst (L.map .str)))
 |[],done,x4,x5,L,ho,ht,hn,hs,hb,hd,k=>by
  simp only[List.map_nil,bQ]
  exact k x4 x5 L ht hn hs hb (by rw[ho,List.append_nil];exact hd)
 |(b,c)::todo,done,x4,x5,L,ho,⟨t,ht⟩,hn,hs,hb,hd,k=>by
  have hiL:i<L.length:=by rw[ht];simp;omega
  have eL:L[i]=L0[i]:=by subst ht;simp[hi]
  have eat:atI (L.map D.str) (i:Int)=some (.str L[i]):=bS (by simp[hiL])
  have aU:L.length<=ord.length+1:=by
   have:=dW L (a::ord.map (·.2)) hn hb
   simpa using this
  simp only[List.map_cons,aF,bQ,k8,gh,bf,oO,Option.bind_some]
  refine⟨_,rfl,?_⟩
  walk_at "rd"
  refine⟨_,eat,?_⟩
  walk_at "rd"
  have ho':ord=(done++[(b,c)])++todo:=by rw[ho];simp
  have hmem:(b,c)∈ord:=by rw[ho];simp
  refine i9 (fun h=>?_) (fun h=>?_)
  ·have hbe:b=L0[i]:=by rw[<-eL];simpa using h
   refine⟨_,if_pos ⟨rfl,fQ⟩,_,rfl,?_⟩
   rw[eB]
   by_cases hc:c∈L
   ·simp only[hc,decide_true,Bool.xor_true,Bool.not_true,Bool.false_eq_true,if_false]
    exact iy hq ps a ord hord i L0 hi todo (done++[(b,c)]) _ _ L ho' ⟨t,ht⟩ hn hs hb (fun y hy hy1=>by
     rcases List.mem_append.mp hy with h|h
     ·exact hd y h hy1
     ·have:y=(b,c):=by simpa using h
      subst this;exact hc) k
   ·simp only[hc,decide_false,Bool.xor_false,if_true]
    refine⟨by rw[List.length_map];exact Nat.lt_of_lt_of_le (by omega:L.length<1000) (sz3 1000),?_⟩
    have ea:L.map D.str++[D.str c]=(L++[c]).map D.str:=by simp
    rw[ea]
    refine iy hq ps a ord hord i L0 hi todo (done++[(b,c)]) _ _ (L++[c]) ho' ⟨t++[c],by rw[ht];simp⟩ ?_ (fun x hx=>?_) (fun x hx=>?_) (fun y hy hy1=>?_) k
    ·rw[List.nodup_append]
     refine⟨hn,by simp,fun u hu v hv=>?_⟩
     have:v=c:=by simpa using hv
     subst this
     rintro rfl
     exact hc hu
    ·rcases List.mem_append.mp hx with h|h
     ·exact hs x h
     ·have:x=c:=by simpa using h
      subst this
      exact cS.step (hs b (by rw[hbe,<-eL];exact List.getElem_mem hiL)) hmem
    ·rcases List.mem_append.mp hx with h|h
     ·exact hb x h
     ·have:x=c:=by simpa using h
      subst this
      exact List.mem_cons_of_mem _ (List.mem_map.mpr ⟨_,hmem,rfl⟩)
    ·rcases List.mem_append.mp hy with h|h
     ·exact List.mem_append_left _ (hd y h hy1)
     ·have:y=(b,c):=by simpa using h
      subst this;simp
  ·exact iy hq ps a ord hord i L0 hi todo (done++[(b,c)]) _ _ L ho' ⟨t,ht⟩ hn hs hb (fun y hy hy1=>by
    rcases List.mem_append.mp hy with h'|h'
    ·exact hd y h' hy1
    ·have:y=(b,c):=by simpa using h'
     subst this
     exact absurd (by rw[eL];simpa using hy1) h) k
theorem j0{f:Addr}{fd:FuncData}(F:Fun K "reached_from" "reached_from" de f fd) (T:Txt K mg) :aX P w K mg base CX0 1 f fd ["pairs","mark"] (spD K 2 fA):=by
 have nd:=eY.nd
 refine F.okQ rfl eY (fun cdv A outer s H E hr=>⟨_,(ah (aK (i:=2) nd rfl (Or.inl rfl) (jm (ae (ab 1) ag)))
   (ah (aK (i:=3) nd rfl (Or.inl rfl) ak)
   (ah (A9 PassesOwn.never (aR B7 (ab 3) (aY cZ rfl T.b_len (by kernel_rfl) (ae (ab 2) ag)) nbh) (ah (bO PassesOwn.never rfl (bz (ab 0)) (lb rfl (bM (aG (i:=4) nd rfl (Or.inl rfl)) (bM (aG (i:=5) nd rfl (Or.inl rfl)) lr))) (aq (cz (ug (kz (aR (lF hr.units) (ab 4) (bc ba (ab 2) (ab 3) (fun _ _=>rfl)) nbh) (jZ (aR nA (ab 5) (ab 2) rfl)))) (aq (ku (px (ab 2) (ab 5)))) bD)))
   (aq (Fy (i:=3) nd rfl (Or.inl rfl) ak Fl))))
   (aq (yL (ab 2)))))),fun ds M R hl hS=>?_⟩)
 obtain⟨ord,a,rfl,ho,k⟩:=hS
 walk_at "rd"
 refine⟨sz3 1,fun q hq=>?_⟩
 refine⟨fun m Δ M'=>∃(i:Nat) (L:List Str) (x4 x5:Option D),Δ=[some (D.tup (ord.map aF)),some (D.str a),some (D.ref q),some (D.int i),x4,x5]/\M'=au M q (.lst (L.map .str))/\i<=L.length/\L.Nodup/\a∈L/\(∀x∈L,cS ord a x)/\(∀x∈L,x∈a::ord.map (·.2))/\(∀y∈ord,∀j,j<i->L[j]?=some y.1->y.2∈L)/\m=ord.length+1-i,
  ⟨_,0,[a],none,none,rfl,rfl,Nat.zero_le _,by simp,by simp,fun x hx=>by
   have:x=a:=by simpa using hx
   subst this;exact cS.refl,fun x hx=>by
   have:x=a:=by simpa using hx
   subst this;simp,fun y _ j hj=>absurd hj (by omega),rfl⟩,?_⟩
 rintro m Δ M' ⟨i,L,x4,x5,rfl,rfl,hiL,hn,ha,hs,hb,hp,rfl⟩
 have aU:L.length<=ord.length+1:=by
  have:=dW L (a::ord.map (·.2)) hn hb
  simpa using this
 walk_at "rd"
 rw[List.length_map]
 refine i9 (fun h=>?_) (fun h=>?_)
 ·have hi:i<L.length:=by omega
  intro hz
  refine iy hq _ a ord ho i L hi ord [] x4 x5 L rfl ⟨[],by simp⟩ hn hs hb (fun y hy=>absurd hy (by simp)) (fun y4 y5 L' hL' hn' hs' hb' hd'=>?_)
  obtain⟨t,rfl⟩:=hL'
  walk_at "rd"
  refine⟨ord.length+1-(i+1),by omega,i+1,L++t,y4,y5,?_,rfl,by simp;omega,hn',List.mem_append_left _ ha,hs',hb',fun y hy j hj hjy=>?_,rfl⟩
  ·simp
  ·by_cases hji:j=i
   ·subst hji
    refine hd' y hy ?_
    rw[List.getElem?_append_left hi,List.getElem?_eq_getElem hi]at hjy
    exact(Option.some.inj hjy).symm
   ·rw[List.getElem?_append_left (by omega)]at hjy
    exact List.mem_append_left _ (hp y hy j (by omega) hjy)
 ·rw[jM hq]
  refine k L ha (fun y hy hy1=>?_) hs aU
  obtain⟨j,hj,e⟩:=List.mem_iff_getElem.mp hy1
  exact hp y hy j (by omega) (by rw[List.getElem?_eq_getElem hj,e])
end
section
variable{P:Program}{w:World}{K:PySem.W.Frag}{mg:Str->Option Value}{base:Heap}
def aL(x:Str×Int):D:=.tup [.str x.1,.int x.2]
theorem qq{α:Type}{f:α->D}(hf:∀x y,f x=f y->x=y):∀{xs ys:List α},xs.map f=ys.map f->xs=ys
 |[],[],_=>rfl
 |[],_::_,h=>by simp at h
 |_::_,[],h=>by simp at h
 |x::xs,y::ys,h=>by
  simp only[List.map_cons,List.cons.injEq]at h
  rw[hf _ _ h.1,qq hf h.2]
theorem pS:∀x y,aF x=aF y->x=y:=fun⟨a,b⟩ ⟨c,d⟩ h=>by simpa[aF]using h
def v4(ord:List (Str×Str)) (t:Int) (a b:Str):Prop:=if t % 2=0 then cS ord a b else cS ord b a
open Classical in
def rB(ord:List (Str×Str)) (a b:Str):Bool:=decide (cS ord a b)
open Classical in
def lB(ord:List (Str×Str)) (t:Int) (a b:Str):Bool:=decide (v4 ord t a b)
theorem qF{ord:List (Str×Str)}{a b:Str}:rB ord a b=true↔cS ord a b:=by simp[rB]
theorem yO{ord:List (Str×Str)}{t:Int}{a b:Str}:lB ord t a b=true↔v4 ord t a b:=by simp[lB]
theorem vN{ord:List (Str×Str)}{t:Int}{a b:Str}(h:t % 2=0):lB ord t a b=rB ord a b:=by rw[Bool.eq_iff_iff,yO,qF,v4,if_pos h]
theorem zA{ord:List (Str×Str)}{t:Int}{a b:Str}(h:¬ t % 2=0):lB ord t a b=rB ord b a:=by rw[Bool.eq_iff_iff,yO,qF,v4,if_neg h]
def eU:SpD:=fun ds M R=>∃(ord:List (Str×Str)) (a b:Str),ds=[.tup (ord.map aF),.str a,.str b]/\ord.length<=500/\R (.bl (rB ord a b)) M
def eC:SpD:=fun ds M R=>∃(ord:List (Str×Str)) (t:Int) (a b:Str),ds=[.tup (ord.map aF),.int t,.str a,.str b]/\ord.length<=500/\R (.bl (lB ord t a b)) M
def nZ:SpD:=fun ds M R=>∃(ord:List (Str×Str)) (x y:Str×Int),ds=[.tup (ord.map aF),aL x,aL y]/\ord.length<=500/\R (.bl (x.2+1==y.2&&lB ord x.2 x.1 y.1)) M
theorem ot{ord:List (Str×Str)}{a b:Str}{M:DH}{R:D->DH->Prop}:eU [.tup (ord.map aF),.str a,.str b] M R↔ord.length<=500/\R (.bl (rB ord a b)) M :=
 ⟨fun⟨o,c,d,e,h1,h2⟩=>by
  simp only[List.cons.injEq,D.tup.injEq,D.str.injEq,and_true]at e
  obtain⟨e1,e2,e3⟩:=e
  rw[qq pS e1,e2,e3];exact⟨h1,h2⟩,fun h=>⟨ord,a,b,rfl,h⟩⟩
theorem kP{ord:List (Str×Str)}{t:Int}{a b:Str}{M:DH}{R:D->DH->Prop}:eC [.tup (ord.map aF),.int t,.str a,.str b] M R↔ord.length<=500/\R (.bl (lB ord t a b)) M :=
 ⟨fun⟨o,u,c,d,e,h1,h2⟩=>by
  simp only[List.cons.injEq,D.tup.injEq,D.str.injEq,D.int.injEq,and_true]at e
  obtain⟨e1,e0,e2,e3⟩:=e
  rw[qq pS e1,e0,e2,e3];exact⟨h1,h2⟩,fun h=>⟨ord,t,a,b,rfl,h⟩⟩
theorem qv{f:Addr}{fd:FuncData}(F:Fun K "at_most" "at_most" g9 f fd) (T:Txt K mg) (g_p_reached_from:FnD P w K mg base "reached_from" 1 2 fA):aX P w K mg base CX0 2 f fd ["order","one","other"] (spD K 3 eU):=by
 have nd:=jF.nd
 refine F.okQ rfl jF (fun cdv A outer s H E hr=>⟨_,(aq (aO (mI pA (ab 2) (qd g_p_reached_from hr (ae (ab 0) (ae (ab 1) ag))) rfl))),fun ds M R hl hS=>?_⟩)
 obtain⟨ord,a,b,rfl,ho,k⟩:=hS
 walk_at "rd"
 refine⟨ord,a,rfl,ho,fun L h1 h2 h3 h4=>?_⟩
 refine⟨_,if_pos ⟨rfl,fQ⟩,?_⟩
 rw[eB]
 have e:(false ^^ decide (b∈L))=rB ord a b:=by
  rw[Bool.false_xor,Bool.eq_iff_iff,qF,decide_eq_true_eq]
  exact⟨fun h=>h3 b h,fun h=>rO h1 h2 h⟩
 rw[e]
 exact k
theorem lN{f:Addr}{fd:FuncData}(F:Fun K "mark_leads" "mark_leads" er f fd) (T:Txt K mg) (g_p_at_most:FnD P w K mg base "at_most" 2 3 eU):aX P w K mg base CX0 3 f fd ["order","turn","one","other"] (spD K 4 eC):=by
 have nd:=gq.nd
 refine F.okQ rfl gq (fun cdv A outer s H E hr=>⟨_,(ah (cz (aR (lF hr.units) (aP jE (ab 1) ak) ak nbh) (aq (aO (qd g_p_at_most hr (ae (ab 0) (ae (ab 2) (ae (ab 3) ag)))))) bD)
   (aq (aO (qd g_p_at_most hr (ae (ab 0) (ae (ab 3) (ae (ab 2) ag))))))),fun ds M R hl hS=>?_⟩)
 obtain⟨ord,t,a,b,rfl,ho,k⟩:=hS
 walk_at "rd"
 simp only[ot]
 refine i9 (fun h=>?_) (fun h=>?_)
 ·have h':t % 2=0:=by simpa using h
  rw[vN h']at k
  exact⟨ho,k⟩
 ·have h':¬ t % 2=0:=by simpa using h
  rw[zA h']at k
  exact⟨ho,k⟩
theorem tM{f:Addr}{fd:FuncData}(F:Fun K "cancel" "cancel" iY f fd) (T:Txt K mg) (g_p_mark_leads:FnD P w K mg base "mark_leads" 3 4 eC):aX P w K mg base CX0 4 f fd ["order","one","other"] (spD K 3 nZ):=by
 have nd:=k9.nd
 refine F.okQ rfl k9 (fun cdv A outer s H E hr=>⟨_,(aq (aO (rM (mI (lF hr.units) (aP aM (bc ba (ab 1) ak (fun _ _=>rfl)) ak) (bc ba (ab 2) ak (fun _ _=>rfl)) nbh) (vY (qd g_p_mark_leads hr (ae (ab 0) (ae (bc ba (ab 1) ak (fun _ _=>rfl)) (ae (bc ba (ab 1) ak (fun _ _=>rfl)) (ae (bc ba (ab 2) ak (fun _ _=>rfl)) ag))))))))),fun ds M R hl hS=>?_⟩)
 obtain⟨ord,⟨a,t⟩,⟨b,u⟩,rfl,ho,k⟩:=hS
 simp only[aL]
 walk_at "rd"
 simp only[kP]
 refine i9 (fun h=>?_) (fun h=>?_)
 ·simp only[h,Bool.true_and]at k;exact⟨ho,k⟩
 ·simp only[h,Bool.false_and]at k;exact k
end
section
variable{P:Program}{w:World}{K:PySem.W.Frag}{mg:Str->Option Value}{base:Heap}
abbrev Row:=List (Str×Int)
def aB(r:Row):D:=.tup (r.map aL)
def cu(ks:List Row):D:=.tup (ks.map aB)
def dB(e:Str×List Row):D:=.tup [.str e.1,cu e.2]
def bJ(ord:List (Str×Str)) (av:Str) (af:List (Str×List Row)):D:=.tup [.tup (ord.map aF),.str av,.tup (af.map dB)]
def kin(af:List (Str×List Row)) (w:Str):List Row:=(af.lookup w).getD []
theorem bw{α:Type}{g:GD}{tc:TTd}{te:TEd}{M:DH}{Q:List D->DH->Prop}(enc:α->D) (b:α->Bool) (y:α->D) (Ok:DE->Prop):∀(xs:List α) (Δ:DE) (acc:List D),
  (∀x∈xs,∀ Δ,Ok Δ->∃ Δ',g (enc x) Δ=some Δ'/\Ok Δ'/\(∀Q1:Bool->DH->Prop,Q1 (b x) M->tc Δ' M Q1)/\(b x=true->∀Q2:D->DH->Prop,Q2 (y x) M->te Δ' M Q2))->Ok Δ ->
  Q (acc++(xs.filter b).map y) M->eJ g tc te (xs.map enc) Δ M acc Q
 |[],Δ,acc,_,_,q=>by simpa[eJ]using q
 |x::xs,Δ,acc,h,hΔ,q=>by
  rw[List.map_cons]
  simp only[eJ]
  obtain⟨Δ',e,hΔ',h1,h2⟩:=h x (.head _) Δ hΔ
  refine⟨Δ',e,h1 _ ?_⟩
  have ih:=fun acc' q'=>bw (Q:=Q) enc b y Ok xs Δ' acc' (fun z hz=>h z (.tail _ hz)) hΔ' q'
  cases hb:b x with
  |true =>
   simp only[if_true]
   refine h2 hb _ (ih _ ?_)
   rw[List.filter_cons_of_pos hb]at q
   simpa using q
  |false =>
   simp only[Bool.false_eq_true,if_false]
   refine ih _ ?_
   rw[List.filter_cons_of_neg (by simp[hb])]at q
   exact q
theorem mn{α:Type}(f:α->D) (hf:∀x,dLe (f x) 59=true) {a:List α}:cv (a.map f) 59=true:=by
 rw[js]
 intro d hd
 obtain⟨x,_,rfl⟩:=List.mem_map.mp hd
 exact hf x
end
section
variable{P:Program}{w:World}{K:PySem.W.Frag}{mg:Str->Option Value}{base:Heap}
def gI(x:Str):Prop:=1<=x.length/\x.length<=8/\∀c∈x.cps.toList,c∈fq
theorem wN{α:Type}(l:List α):AO (.lst (l.map fun _=>D.bl true))=some (.bl true):=by
 have h1:(l.map fun _=>D.bl true).all uM=true:=by rw[List.all_map,List.all_eq_true];intro _ _;rfl
 have h2:(l.map fun _=>D.bl true).all sO=true:=by rw[List.all_map,List.all_eq_true];intro _ _;rfl
 simp only[AO,h1,h2,if_true]
def fb:SpD:=fun ds M R=>∃x:Str,ds=[.str x]/\gI x/\R (.bl true) M
theorem je{f:Addr}{fd:FuncData}(F:Fun K "is_short_word" "is_short_word" ck f fd) (T:Txt K mg) :aX P w K mg base CX0 1 f fd ["thing"] (spD K 1 fb):=by
 have nd:=eQ.nd
 refine F.okQ rfl eQ (fun cdv A outer s H E hr=>⟨_,(aq (aO (rM (F4 (Tn:="str") (by decide) rfl T.b_isinstance rfl T.b_str (by kernel_rfl) (ab 0)) (rM (Be Gr Gr ak (aY cZ rfl T.b_len (by kernel_rfl) (ae (ab 0) ag)) (zu rfl T.g_MOST_LETTERS)) (vY (aY (Hb rfl) rfl T.b_all (by kernel_rfl) (ae (j6 (ms:=[false]) (ar:=["letter"]) (aW (n0:=0) rfl (show bt (aj ck) cR _ _=true from by decide +kernel)) rfl (bz (ab 0)) (aN (i:=1) (show(cR++_).Nodup from by decide +kernel) rfl rfl) (fun _ _ _ _=>cC) (fun _ _ _ _=>(mI pA (ab 1) (Ak rfl T.g_SMALL_LETTERS) rfl))) ag))))))),fun ds M R hl hS=>?_⟩)
 obtain⟨x,rfl,⟨h1,h2,h3⟩,k⟩:=hS
 walk_at "rd"
 refine⟨true,rfl,?_⟩
 walk_at "rd"
 refine⟨_,if_pos (szB _ (by omega)),true,?_,?_⟩
 ·show some (D.bl (decide ((1:Int)<=(x.length:Int))))=_
  rw[decide_eq_true (by omega)]
 rw[if_pos rfl]
 refine⟨_,rfl,true,?_,?_⟩
 ·rw[decide_eq_true (by omega)]
 rw[if_pos rfl]
 refine⟨_,if_pos (szB _ (by omega)),fun hz=>⟨hz,?_⟩⟩
 refine bw (fun(c:Nat)=>D.str (tx [c])) (fun _=>true) (fun _=>D.bl true) (fun Δ=>∃x,Δ=[none,x]) x.cps.toList _ _ (fun c hc Δ hΔ=>?_) ⟨none,rfl⟩ ?_
 ·obtain⟨x1,rfl⟩:=hΔ
  refine⟨_,rfl,⟨_,rfl⟩,fun Q1 q=>q,fun _ Q2 q=>?_⟩
  walk_at "rd"
  simp only[CP,Option.some.injEq,exists_eq_left',Bool.false_xor]
  rw[show(Str.ofString "abcdefghijklmnopqrstuvwxyz")=abc from rfl,l9,eV,decide_eq_true (h3 c hc)]
  exact q
 ·rw[List.nil_append,List.filter_eq_self.mpr (fun _ _=>rfl)]
  exact⟨_,wN _,k⟩
def dU:SpD:=fun ds M R=>∃(ord:List (Str×Str)) (av:Str) (af:List (Str×List Row)),ds=[bJ ord av af]/\af.length<=8/\R (.lst (af.map fun e=>D.str e.1)) M
theorem oC{f:Addr}{fd:FuncData}(F:Fun K "words_of" "words_of" dO f fd) (T:Txt K mg) :aX P w K mg base CX0 1 f fd ["lexicon"] (spD K 1 dU):=by
 have nd:=iJ.nd
 refine F.okQ rfl iJ (fun cdv A outer s H E hr=>⟨_,(aq (aO (j6 (ms:=[false]) (ar:=["word","kinds"]) (aW (n0:=0) rfl (show bt (aj dO) dR _ _=true from by decide +kernel)) rfl (bz (bc ba (ab 0) ak (fun _ _=>rfl))) (jj (n:=2) rfl (cf (aN (i:=1) (show(dR++_).Nodup from by decide +kernel) rfl rfl) (cf (aN (i:=2) (show(dR++_).Nodup from by decide +kernel) rfl rfl) jb))) (fun _ _ _ _=>cC) (fun _ _ _ _=>(ab 1))))),fun ds M R hl hS=>?_⟩)
 obtain⟨ord,av,af,rfl,hl,k⟩:=hS
 simp only[bJ]
 walk_at "rd"
 refine fun hz=>⟨hz,?_⟩
 refine bw dB (fun _=>true) (fun e=>D.str e.1) (fun Δ=>∃x y,Δ=[none,x,y]) af _ _ (fun e he Δ hΔ=>?_) ⟨none,none,rfl⟩ ?_
 ·obtain⟨x,y,rfl⟩:=hΔ
  refine⟨_,rfl,⟨_,_,rfl⟩,fun Q1 q=>q,fun _ Q2 q=>?_⟩
  walk_at "rd"
  exact q
 ·rw[List.nil_append,List.filter_eq_self.mpr (fun _ _=>rfl)]
  exact k
theorem vH{w:Str}{af:List (Str×List Row)}:((af.map fun e=>D.str e.1).any fun d=>eqD d (.str w))=decide (w∈af.map (·.1)):=by
 rw[Bool.eq_iff_iff,List.any_map,List.any_eq_true,decide_eq_true_eq,List.mem_map]
 constructor
 ·rintro⟨e,he,h⟩;exact⟨e,he,by simpa[eqD]using h⟩
 ·rintro⟨e,he,h⟩;exact⟨e,he,by simp[eqD,h]⟩
theorem wI{af:List (Str×List Row)}:(af.map fun e=>D.str e.1).all bo=true:=by rw[List.all_map,List.all_eq_true];intro _ _;rfl
def jS:SpD:=fun ds M R=>∃(ord:List (Str×Str)) (av:Str) (af:List (Str×List Row)) (w:Str),ds=[bJ ord av af,.str w]/\af.length<=8/\w∈af.map (·.1)/\gI w/\R (.bl true) M
theorem oj{f:Addr}{fd:FuncData}(F:Fun K "has_word" "has_word" gd f fd) (T:Txt K mg) (g_p_is_short_word:FnD P w K mg base "is_short_word" 1 1 fb) (g_p_words_of:FnD P w K mg base "words_of" 1 1 dU):aX P w K mg base CX0 2 f fd ["lexicon","thing"] (spD K 2 jS):=by
 have nd:=iW.nd
 refine F.okQ rfl iW (fun cdv A outer s H E hr=>⟨_,(aq (aO (rM (qd g_p_is_short_word hr (ae (ab 1) ag)) (vY (mI pA (ab 1) (qd g_p_words_of hr (ae (ab 0) ag)) rfl))))),fun ds M R hl hS=>?_⟩)
 obtain⟨ord,av,af,w,rfl,hl,hw,ok,k⟩:=hS
 walk_at "rd"
 refine⟨w,rfl,ok,_,rfl,?_⟩
 rw[if_pos rfl]
 refine⟨ord,av,af,rfl,hl,?_⟩
 walk_at "rd"
 refine⟨_,if_pos ⟨rfl,wI⟩,?_⟩
 rw[vH,decide_eq_true hw]
 exact k
theorem zD{w:Str}:∀{af:List (Str×List Row)},af.length<2 ^ 62->w∈af.map (·.1)->∃j e,t6 (af.map fun e=>D.str e.1) (.str w)=some j/\af[j]?=some e/\e.2=kin af w:=by
 intro af hl hw
 have hd:cv (af.map fun e=>D.str e.1) 59=true:=mn _ fun _=>rfl
 have h1:dLe (.str w) 59=true:=rfl
 unfold t6
 rw[if_pos ⟨h1,hd,by rw[List.length_map];exact hl⟩]
 clear hd h1 hl
 induction af with
 |nil=>cases hw
 |cons e l ih =>
  obtain⟨a,ks⟩:=e
  rw[List.map_cons,List.findIdx?_cons]
  by_cases h:a=w
  ·subst h
   exact⟨0,_,by simp[eqD],rfl,by simp[kin]⟩
  ·have hne:eqD (.str a) (.str w)=false:=by simp[eqD,h]
   have hw':w∈l.map (·.1):=by
    rw[List.map_cons]at hw
    rcases List.mem_cons.mp hw with q|q
    ·exact absurd q.symm h
    ·exact q
   obtain⟨j,e,q1,q2,q3⟩:=ih hw'
   refine⟨j+1,e,?_,by rw[List.getElem?_cons_succ];exact q2,?_⟩
   ·simp only[hne,Bool.false_eq_true,if_false]
    rw[q1];rfl
   ·rw[q3]
    unfold kin
    rw[List.lookup_cons]
    have:(w==a)=false:=by simpa using fun q:w=a=>h q.symm
    rw[this]
def jB:SpD:=fun ds M R=>∃(ord:List (Str×Str)) (av:Str) (af:List (Str×List Row)) (w:Str),ds=[bJ ord av af,.str w]/\af.length<=8/\w∈af.map (·.1)/\gI w/\R (cu (kin af w)) M
theorem oo{f:Addr}{fd:FuncData}(F:Fun K "kinds_of" "kinds_of" fX f fd) (T:Txt K mg) (g_p_has_word:FnD P w K mg base "has_word" 2 2 jS) (g_p_words_of:FnD P w K mg base "words_of" 1 1 dU):aX P w K mg base CX0 3 f fd ["lexicon","word"] (spD K 2 jB):=by
 have nd:=iL.nd
 refine F.okQ rfl iL (fun cdv A outer s H E hr=>⟨_,(ah (cz (DJ (uQ (qd g_p_has_word hr (ae (ab 0) (ae (ab 1) ag))))) (aq AR) bD)
   (aq (aO (bc ba (bc ba (bc ba (ab 0) ak (fun _ _=>rfl)) (DC hr.units (qd g_p_words_of hr (ae (ab 0) ag)) (ab 1)) (fun _ _=>rfl)) ak (fun _ _=>rfl))))),fun ds M R hl hS=>?_⟩)
 obtain⟨ord,av,af,w,rfl,hl,hw,ok,k⟩:=hS
 walk_at "rd"
 refine⟨ord,av,af,w,rfl,hl,hw,ok,_,rfl,?_⟩
 simp only[bJ]
 rw[if_neg (by simp)]
 walk_at "rd"
 refine⟨ord,av,af,rfl,hl,⟨_,rfl⟩,_,rfl,?_⟩
 obtain⟨j,e,q1,q2,q3⟩:=zD (Nat.lt_of_le_of_lt hl (by decide)) hw
 refine⟨j,q1,?_⟩
 refine⟨_,bS (by rw[List.getElem?_map,q2];rfl),?_⟩
 simp only[dB]
 walk_at "rd"
 rw[q3];exact k
def gP:SpD:=fun ds M R=>∃(ord:List (Str×Str)) (av:Str) (af:List (Str×List Row)),ds=[bJ ord av af]/\R (aB [(av,1)]) M
theorem lM{f:Addr}{fd:FuncData}(F:Fun K "goals_wish" "goals_wish" eE f fd) (T:Txt K mg) :aX P w K mg base CX0 1 f fd ["lexicon"] (spD K 1 gP):=by
 have nd:=gu.nd
 refine F.okQ rfl gu (fun cdv A outer s H E hr=>⟨_,(aq (aO (bH (ae (bH (ae (bc ba (ab 0) ak (fun _ _=>rfl)) (ae ak ag))) ag)))),fun ds M R hl hS=>?_⟩)
 obtain⟨ord,av,af,rfl,k⟩:=hS
 simp only[bJ]
 walk_at "rd"
 exact⟨sz3 2,sz3 1,k⟩
end
section
variable{P:Program}{w:World}{K:PySem.W.Frag}{mg:Str->Option Value}{base:Heap}
abbrev KD:=List (Int×List Row)
abbrev Pl:=Int×Int×Int
def plD(p:Pl):D:=oq [.inl p.1,.inl p.2.1,.inl p.2.2]
def kdP(kd:KD):List (Key×D):=kd.map fun p=>(.inl p.1,.tup (p.2.map aB))
def kdD(kd:KD):D:=qU (kdP kd)
def look(kd:KD) (n:Int):Option (List Row):=(kd.find? fun p=>decide (p.1=n)).map (·.2)
theorem tR{n:Int}:∀{kd:KD},bq (kdP kd) (.inl n)=(look kd n).map fun rs=>.tup (rs.map aB)
 |[]=>rfl
 |p::kd=>by
  by_cases h:p.1=n
  ·have:bq (kdP (p::kd)) (.inl n)=some (.tup (p.2.map aB)):=bX (by show Sum.inl p.1=_;rw[h])
   rw[this];simp[look,h]
  ·have e:bq (kdP (p::kd)) (.inl n)=bq (kdP kd) (.inl n):=bU (fun z=>h (by injection z))
   rw[e,tR (kd:=kd)];simp[look,h]
theorem ux{M:DH}{kd:KD}:asK M (kdD kd)=some (kdP kd):=yJ
theorem EH{p:Pl}:plD p=.box .key [.int p.1,.int p.2.1,.int p.2.2]:=rfl
theorem zQ{p:Pl}{P:List D->Prop}:(∃ds,plD p=.box .key ds/\P ds)↔P [.int p.1,.int p.2.1,.int p.2.2] :=
 ⟨fun⟨ds,e,h⟩=>by rw[EH]at e;injection e with _ e;rw[e];exact h,fun h=>⟨_,rfl,h⟩⟩
def gQ:SpD:=fun ds M R=>∃p:Pl,ds=[plD p]/\R (plD (p.1,p.2.1,p.2.2+1)) M
theorem lA{f:Addr}{fd:FuncData}(F:Fun K "next_place" "next_place" eh f fd) (T:Txt K mg) :aX P w K mg base CX0 1 f fd ["place"] (spD K 1 gQ):=by
 have nd:=gk.nd
 refine F.okQ rfl gk (fun cdv A outer s H E hr=>⟨_,(ah (za (yS (ab 0)) (lb rfl (bM (aG (i:=1) nd rfl (Or.inl rfl)) (bM (aG (i:=2) nd rfl (Or.inl rfl)) (bM (aG (i:=3) nd rfl (Or.inl rfl)) lr)))))
   (aq (aO (vw (ae (ab 1) (ae (ab 2) (ae (aP aM (ab 3) ak) ag))))))),fun ds M R hl hS=>?_⟩)
 obtain⟨p,rfl,k⟩:=hS
 walk_at "rd"
 simp only[zQ,k8,gh,bf,oO,Option.bind_some]
 refine⟨_,if_pos rfl,?_⟩
 exact⟨_,rfl,_,rfl,_,rfl,_,rfl,by rw[sizeLine_eq];decide,k⟩
theorem jY{kd:KD}{n:Int}{rs:List Row}(h:look kd n=some rs):(n,rs)∈kd:=by
 obtain⟨p,hp,e⟩:=Option.map_eq_some_iff.mp h
 have h1:=List.find?_some hp
 have h2:=List.mem_of_find?_eq_some hp
 have:p.1=n:=by simpa using h1
 rw[<-this,<-e];exact h2
def eX:SpD:=fun ds M R=>∃(kd:KD) (p:Pl),ds=[kdD kd,plD p]/\(∀q∈kd,q.2.length<=1000)/\R (.lst ((List.range ((look kd (p.1+1)).getD []).length).map fun(k:Nat)=>plD (p.1+1,(k:Int),0))) M
theorem i6{f:Addr}{fd:FuncData}(F:Fun K "begins_behind" "begins_behind" cj f fd) (T:Txt K mg) :aX P w K mg base CX0 1 f fd ["kinds","place"] (spD K 2 eX):=by
 have nd:=eR.nd
 refine F.okQ rfl eR (fun cdv A outer s H E hr=>⟨_,(ah (aK (i:=2) nd rfl (Or.inr rfl) (aP aM (bc ba (yS (ab 1)) ak (fun _ _=>rfl)) ak))
   (aq (aO (j6 (ms:=[false,false,true]) (ar:=["kind"]) (aW rfl (show bt (aj cj) cV _ _=true from by decide +kernel)) rfl (bI rfl T.b_range (ae (aY cZ rfl T.b_len (by kernel_rfl) (ae (Bq hr.units1 (ab 0) (ab 2) (bH ag) ⟨rfl,rfl,rfl,rfl⟩) ag)) ag)) (aN (i:=3) (show(cV++_).Nodup from by decide +kernel) rfl rfl) (fun _ _ _ _=>cC) (fun _ _ _ _=>(vw (ae (ab 2) (ae (ab 3) (ae ak ag))))))))),fun ds M R hl hS=>?_⟩)
 obtain⟨kd,p,rfl,hb,k⟩:=hS
 walk_at "rd"
 simp only[zQ]
 refine⟨_,rfl,_,rfl,by rw[ux];rfl,Nat.zero_le _,_,ux,.inl (p.1+1),rfl,?_⟩
 have e:(bq (kdP kd) (.inl (p.1+1))).getD (.tup [])=.tup (((look kd (p.1+1)).getD []).map aB):=by
  rw[tR]
  cases look kd (p.1+1)<;>rfl
 have hn:((look kd (p.1+1)).getD []).length<=1000:=by
  cases h:look kd (p.1+1)with
  |none=>exact Nat.zero_le _
  |some rs=>exact hb _ (jY h)
 rw[e]
 generalize (look kd (p.1+1)).getD []=rs at *
 refine⟨.int (rs.length:Int),by simp[rdM,lz],_,rfl,by omega,by omega,?_,?_⟩
 ·simp only[iE,List.length_map,List.length_range,Int.toNat_natCast]
  rw[sizeLine_eq];omega
 ·have hc:gA [false,false,true] 1 [some (kdD kd),some (plD p),some (D.int (p.1+1))]=[none,none,some (D.int (p.1+1)),none]:=rfl
  rw[hc,iE,Int.toNat_natCast]
  refine bw (fun(k:Nat)=>D.int (0+(k:Int))) (fun _=>true) (fun k=>plD (p.1+1,(k:Int),0)) (fun Δ=>∃x,Δ=[none,none,some (D.int (p.1+1)),x]) _ _ _ ?_ ⟨_,rfl⟩ ?_
  ·rintro k hk Δ ⟨x,rfl⟩
   refine⟨_,rfl,⟨_,rfl⟩,fun Q1 q=>q,fun _ Q2 q=>?_⟩
   simp only[zP,cx,bK,dC,fu]
   refine⟨_,rfl,_,rfl,by simp only[List.length_cons,List.length_nil];rw[sizeLine_eq];decide,?_⟩
   rw[Int.zero_add];exact q
  ·rw[List.filter_eq_self.mpr (fun _ _=>rfl),List.nil_append];exact k
def gH:SpD:=fun ds M R=>∃(kd:KD) (m:Int),ds=[kdD kd]/\AG (kd.map (·.1))=some m/\R (plD (m,0,1)) M
theorem lC{f:Addr}{fd:FuncData}(F:Fun K "last_place" "last_place" eO f fd) (T:Txt K mg) :aX P w K mg base CX0 1 f fd ["kinds"] (spD K 1 gH):=by
 have nd:=gD.nd
 refine F.okQ rfl gD (fun cdv A outer s H E hr=>⟨_,(aq (aO (vw (ae (aY (ET rfl) rfl T.b_max (by kernel_rfl) (ae (eK (A7 rfl) rfl T.b_list (by kernel_rfl) (ae (ab 0) ag)) ag)) (ae ak (ae ak ag)))))),fun ds M R hl hS=>?_⟩)
 obtain⟨kd,m,rfl,hm,k⟩:=hS
 walk_at "rd"
 have e:u6 (rdM M (kdD kd))=some (.lst ((kd.map (·.1)).map D.int)):=by
  show u6 (qU (kdP kd))=_
  rw[vK,kdP,List.map_map,List.map_map];rfl
 exact⟨_,e,.int m,by rw[show rdM M (D.lst ((kd.map (·.1)).map D.int))=D.lst ((kd.map (·.1)).map D.int)from rfl,DW,hm];rfl,by rw[sizeLine_eq];decide,k⟩
def dD:SpD:=fun ds M R=>∃(kd:KD) (p:Pl) (rows:List Row) (row:Row) (i j:Nat),ds=[kdD kd,plD p]/\p.2=((i:Int),(j:Int))/\look kd p.1=some rows/\rows[i]?=some row/\R ((row[j]?).elim .non aL) M
theorem kq{f:Addr}{fd:FuncData}(F:Fun K "sign_behind" "sign_behind" dI f fd) (T:Txt K mg) :aX P w K mg base CX0 1 f fd ["kinds","place"] (spD K 2 dD):=by
 have nd:=fJ.nd
 refine F.okQ rfl fJ (fun cdv A outer s H E hr=>⟨_,(ah (za (yS (ab 1)) (lb rfl (bM (aG (i:=2) nd rfl (Or.inl rfl)) (bM (aG (i:=3) nd rfl (Or.inl rfl)) (bM (aG (i:=4) nd rfl (Or.inl rfl)) lr)))))
   (ah (aK (i:=5) nd rfl (Or.inl rfl) (bc ba (Ed hr.units1 (ab 0) (ab 2) (fun _ _=>rfl)) (ab 3) (fun _ _=>rfl)))
   (aq (aO (Hy (aR B7 (ab 4) (aY cZ rfl T.b_len (by kernel_rfl) (ae (ab 5) ag)) nbh) (bc ba (ab 5) (ab 4) (fun _ _=>rfl)) ni))))),fun ds M R hl hS=>?_⟩)
 obtain⟨kd,p,rows,row,i,j,rfl,hp,hl,hr',k⟩:=hS
 walk_at "rd"
 simp only[zQ,k8,gh,bf,oO,Option.bind_some]
 refine⟨_,if_pos rfl,?_⟩
 have h1:p.2.1=(i:Int):=by rw[hp]
 have h2:p.2.2=(j:Int):=by rw[hp]
 have hv:bq (kdP kd) (.inl p.1)=some (.tup (rows.map aB)):=by rw[tR,hl];rfl
 have hx:ixD (D.tup (rows.map aB)) (D.int p.2.1)=some (aB row):=by
  rw[h1];exact bS (by rw[List.getElem?_map,hr'];rfl)
 refine⟨_,rfl,_,rfl,_,ux,.inl p.1,rfl,_,hv,_,rfl,_,hx,_,rfl,_,rfl,.int (row.length:Int),by simp[rdM,aB,lz],?_⟩
 refine⟨_,rfl,_,rfl,?_⟩
 by_cases hj:j<row.length
 ·rw[if_pos (by rw[h2];simp[hj])]
  rw[List.getElem?_eq_getElem hj]at k
  refine⟨_,rfl,_,rfl,aL row[j],?_,k⟩
  show atI (row.map aL) p.2.2=_
  rw[h2];exact bS (by simp[hj])
 ·rw[if_neg (by rw[h2];simp;omega)]
  rw[List.getElem?_eq_none (by omega)]at k
  exact k
theorem dX{α:Type}{g:GD}{B:BKd}{M:DH}(enc:α->D) (out:α->List D) (Ok:DE->Prop):∀(xs:List α) (Δ:DE) (acc:List D) (Q:List D->DE->DH->Prop),
  (∀x∈xs,∀ Δ,Ok Δ->∃ Δ',g (enc x) Δ=some Δ'/\∀(acc:List D) (Q2:List D->DE->DH->Prop),acc.length+(out x).length<=sizeLine->(∀ Δ'',Ok Δ''->Q2 (acc++out x) Δ'' M)->B Δ' M acc Q2)->Ok Δ ->
  acc.length+(xs.flatMap out).length<=sizeLine->(∀ Δ',Ok Δ'->Q (acc++xs.flatMap out) Δ' M)->hJ g wu B (xs.map enc) Δ M acc Q
 |[],Δ,acc,Q,_,ok,_,q=>by
  simp only[List.map_nil,hJ]
  have:=q Δ ok
  rwa [List.flatMap_nil,List.append_nil]at this
 |x::xs,Δ,acc,Q,h,ok,hz,q=>by
  rw[List.flatMap_cons,List.length_append]at hz
  rw[List.map_cons]
  simp only[hJ,wu,if_true]
  obtain⟨Δ',e,h1⟩:=h x (.head _) Δ ok
  refine⟨Δ',e,h1 acc _ (by omega) fun Δ'' ok'=>⟨by rw[List.length_append];omega,?_⟩⟩
  refine dX enc out Ok xs Δ'' _ Q (fun z hz=>h z (.tail _ hz)) ok' (by rw[List.length_append];omega) fun Δ3 ok3=>?_
  have:=q Δ3 ok3
  rwa [List.flatMap_cons,<-List.append_assoc]at this
theorem jy{α β:Type}{f:α->β}:∀l:List α,(l.flatMap fun a=>[f a])=l.map f
 |[]=>rfl
 |a::l=>by rw[List.flatMap_cons,jy l];rfl
theorem nv{α:Type}{f:α->D}:∀{xs:List α}{n:Nat},oB n (xs.map f)=(xs.zipIdx n).map fun q=>D.tup [D.int (q.2:Int),f q.1]
 |[],_=>rfl
 |x::xs,n=>by
  rw[List.map_cons,List.zipIdx_cons,List.map_cons,<-nv]
  rfl
def gB(n:Int) (q:Row×Nat):List Pl:=(List.range (q.1.length+1)).map fun(a:Nat)=>(n,(q.2:Int),(a:Int))
def gj(q:Int×List Row):List Pl:=q.2.zipIdx.flatMap (gB q.1)
def ao(kd:KD):List Pl:=kd.flatMap gj
def iN:SpD:=fun ds M R=>∃kd:KD,ds=[kdD kd]/\(ao kd).length<=1000000/\R (.lst ((ao kd).map plD)) M
theorem mx{f:Addr}{fd:FuncData}(F:Fun K "places_of" "places_of" dj f fd) (T:Txt K mg) :aX P w K mg base CX0 1 f fd ["kinds"] (spD K 1 iN):=by
 have nd:=ie.nd
 refine F.okQ rfl ie (fun cdv A outer s H E hr=>⟨_,(aq (aO (Ha (ms:=[false]) (ar:=["number","rows","kind","row","at"]) (aW (n0:=0) rfl (show bt (aj dj) bG _ _=true from by decide +kernel)) rfl (E9 (ab 0)) (jj (n:=2) rfl (cf (aN (i:=1) (show(bG++_).Nodup from by decide +kernel) rfl rfl) (cf (aN (i:=2) (show(bG++_).Nodup from by decide +kernel) rfl rfl) jb))) (fun _ _ _ _=>cC) (fun _ _ _ _=>(vD rfl T.b_enumerate (ae (ab 2) ag))) (jj (n:=2) rfl (cf (aN (i:=3) (show(bG++_).Nodup from by decide +kernel) rfl rfl) (cf (aN (i:=4) (show(bG++_).Nodup from by decide +kernel) rfl rfl) jb))) (fun _ _ _ _=>cC) (fun _ _ _ _=>(bI rfl T.b_range (ae (aP aM (aY cZ rfl T.b_len (by kernel_rfl) (ae (ab 4) ag)) ak) ag))) (aN (i:=5) (show(bG++_).Nodup from by decide +kernel) rfl rfl) (fun _ _ _ _=>cC) (fun _ _ _ _=>(vw (ae (ab 1) (ae (ab 3) (ae (ab 5) ag)))))))),fun ds M R hl hS=>?_⟩)
 obtain⟨kd,rfl,hz,k⟩:=hS
 walk_at "rd"
 refine⟨kdP kd,rfl,?_⟩
 have hc:gA [false] 5 [some (kdD kd)]=[none,none,none,none,none,none]:=rfl
 have hm:((kdP kd).map fun p=>D.tup [kD p.1,p.2])=kd.map fun q=>D.tup [D.int q.1,D.tup (q.2.map aB)]:=by
  rw[kdP,List.map_map];rfl
 have ho:(kd.flatMap fun q=>(gj q).map plD)=(ao kd).map plD:=by
  rw[ao,List.map_flatMap]
 rw[hc,hm]
 refine dX _ (fun q=>(gj q).map plD) (fun Δ=>∃a b c d e,Δ=[none,a,b,c,d,e]) kd _ _ _ ?_ ⟨_,_,_,_,_,rfl⟩ (by rw[ho,List.length_map,sizeLine_eq];simp;omega) (by rintro Δ' -;rw[ho,List.nil_append];exact k)
 rintro q hq Δ ⟨a,b,c,d,e,rfl⟩
 refine⟨_,rfl,fun acc Q2 hz2 k2=>?_⟩
 have hk:(q.2.zipIdx.flatMap fun r=>(gB q.1 r).map plD)=(gj q).map plD:=by rw[gj,List.map_flatMap]
 simp only[iX,qJ,cx,bK,fu]
 refine⟨_,rfl,_,rfl,fun hle=>?_⟩
 rw[nv]
 refine dX _ (fun r=>(gB q.1 r).map plD) (fun Δ=>∃c d e,Δ=[none,some (D.int q.1),some (D.tup (q.2.map aB)),c,d,e]) q.2.zipIdx _ _ _ ?_ ⟨_,_,_,rfl⟩ (by rw[hk];exact hz2) (by rintro Δ' ⟨c,d,e,rfl⟩;rw[hk];exact k2 _ ⟨_,_,_,_,_,rfl⟩)
 rintro r hr' Δ ⟨c,d,e,rfl⟩
 refine⟨_,rfl,fun acc3 Q3 hz3 k3=>?_⟩
 simp only[iX,qS,cx,bK,fu,dOp,dCB,dC]
 have hl3:(gB q.1 r).length=r.1.length+1:=by simp[gB]
 have ho3:((List.range (r.1.length+1)).flatMap fun(a:Nat)=>[plD (q.1,(r.2:Int),(a:Int))])=(gB q.1 r).map plD:=by
  rw[jy,gB,List.map_map];rfl
 have hz4:=hz3
 rw[List.length_map,hl3,sizeLine_eq]at hz4
 refine⟨_,rfl,.int (r.1.length:Int),by simp[kT,rdM,aB,lz],.int ((r.1.length:Int)+1),rfl,_,rfl,by omega,by omega,?_⟩
 have hj:((r.1.length:Int)+1).toNat=r.1.length+1:=by omega
 rw[hj,iE]
 refine dX (fun(a:Nat)=>D.int (0+(a:Int))) (fun a=>[plD (q.1,(r.2:Int),(a:Int))]) (fun Δ=>∃e,Δ=[none,some (D.int q.1),some (D.tup (q.2.map aB)),some (D.int (r.2:Int)),some (aB r.1),e]) _ _ _ _ ?_ ⟨_,rfl⟩ (by rw[ho3];exact hz3) (by rintro Δ' ⟨e,rfl⟩;rw[ho3];exact k3 _ ⟨_,_,_,rfl⟩)
 rintro a ha Δ ⟨e,rfl⟩
 refine⟨_,rfl,fun acc4 Q4 hz5 k4=>?_⟩
 simp only[nz,zP,cx,bK,fu]
 refine⟨_,rfl,_,rfl,_,rfl,by simp only[List.length_cons,List.length_nil];rw[sizeLine_eq];decide,?_⟩
 rw[Int.zero_add]
 exact k4 _ ⟨_,rfl⟩
end
section
variable{P:Program}{w:World}{K:PySem.W.Frag}{mg:Str->Option Value}{base:Heap}
abbrev j3:=Option Pl×Pl×Int
def plK(p:Pl):List Key:=[.inl p.1,.inl p.2.1,.inl p.2.2]
theorem j4{p q:Pl}(h:plK p=plK q):p=q:=by
 obtain⟨a,b,c⟩:=p
 obtain⟨d,e,f⟩:=q
 simpa[plK]using h
def cK(l:List (Pl×Int)):List (List Key×D):=l.map fun z=>(plK z.1,.int z.2)
def cnK(cn:List (Pl×List (Pl×Int))):List (List Key×D):=cn.map fun p=>(plK p.1,iI (cK p.2))
def jR(s:j3):D:=.tup [s.1.elim .non plD,plD s.2.1,.int s.2.2]
def stK(st:List (Pl×List j3)):List (List Key×D):=st.map fun p=>(plK p.1,.lst (p.2.map jR))
def lkP{α:Type}(l:List (Pl×α)) (p:Pl):Option α:=(l.find? fun z=>decide (z.1=p)).map (·.2)
theorem i4{α:Type}(f:α->D) {p:Pl}:∀{l:List (Pl×α)},bq (l.map fun z=>(plK z.1,f z.2)) (plK p)=(lkP l p).map f
 |[]=>rfl
 |z::l=>by
  rw[List.map_cons]
  by_cases h:z.1=p
  ·rw[bX (by show plK z.1=_;rw[h])];simp[lkP,h]
  ·rw[bU (fun e=>h (j4 e)),i4 f];simp[lkP,h]
def lR(M:DH) (C q:Addr) (kd:KD) (e:Pl) (st:List (Pl×List j3)) (cn:List (Pl×List (Pl×Int))):Prop :=
 ∃s c,s≠c/\M q=some (.ins C [("kinds",kdD kd),("end",plD e),("steps",.ref s),("counts",.ref c)])/\M s=some (.dT (stK st))/\M c=some (.dT (cnK cn))
def nxt(p:Pl):Pl:=(p.1,p.2.1,p.2.2+1)
def pN(kd:KD) (p:Pl):Prop:=∃(rows:List Row) (row:Row) (i j:Nat),p.2=((i:Int),(j:Int))/\look kd p.1=some rows/\rows[i]?=some row
def cg(kd:KD) (p:Pl):Option (Str×Int):=((look kd p.1).bind (·[p.2.1.toNat]?)).bind (·[p.2.2.toNat]?)
def br(kd:KD) (p:Pl):List Pl:=(List.range ((look kd (p.1+1)).getD []).length).map fun(k:Nat)=>(p.1+1,(k:Int),0)
def fh(ord:List (Str×Str)) (x:Str×Int) (o:Option (Str×Int)):Bool:=o.elim false fun y=>x.2+1==y.2&&lB ord x.2 x.1 y.1
def h7:SpD:=fun ds M R=>∃(ord:List (Str×Str)) (x:Str×Int) (o:Option (Str×Int)),ds=[.tup (ord.map aF),aL x,o.elim .non aL]/\ord.length<=500/\R (.bl (fh ord x o)) M
theorem lJ{f:Addr}{fd:FuncData}(F:Fun K "are_joined" "are_joined" eA f fd) (T:Txt K mg) (g_p_cancel:FnD P w K mg base "cancel" 4 3 nZ):aX P w K mg base CX0 5 f fd ["order","sign","other"] (spD K 3 h7):=by
 have nd:=gy.nd
 refine F.okQ rfl gy (fun cdv A outer s H E hr=>⟨_,(aq (aO (rM (mI vi (ab 2) ni nbh) (vY (qd g_p_cancel hr (ae (ab 0) (ae (ab 1) (ae (ab 2) ag)))))))),fun ds M R hl hS=>?_⟩)
 obtain⟨ord,x,o,rfl,ho,k⟩:=hS
 walk_at "rd"
 cases o with
 |none=>rw[if_neg (by simp[rdM,m9])];exact k
 |some y=>rw[if_pos (by simp[aL,rdM,m9])];exact⟨ord,x,y,rfl,ho,k⟩
theorem sL{kd:KD}{p:Pl}{rows:List Row}{row:Row}{i j:Nat}(hp:p.2=((i:Int),(j:Int))) (hlk:look kd p.1=some rows) (hrow:rows[i]?=some row):cg kd p=row[j]?:=by
 have h1:p.2.1.toNat=i:=by rw[hp];rfl
 have h2:p.2.2.toNat=j:=by rw[hp];rfl
 simp[cg,hlk,h1,h2,hrow]
theorem vJ{kd:KD}{p:Pl}{M:DH}{R:D->DH->Prop}(hv:pN kd p) (k:R ((cg kd p).elim .non aL) M):dD [kdD kd,plD p] M R:=by
 obtain⟨rows,row,i,j,hp,hlk,hrow⟩:=hv
 rw[sL hp hlk hrow]at k
 exact⟨kd,p,rows,row,i,j,rfl,hp,hlk,hrow,k⟩
def bh(ord:List (Str×Str)) (kd:KD) (p:Pl) (l:List (Pl×Int)):List j3:=match cg kd p with
 |none=>(br kd p).map fun b=>(none,b,1)
 |some x=>(l.filter fun z=>fh ord x (cg kd z.1)).map fun z=>(some z.1,nxt z.1,z.2)
def gp(C:Addr):SpD:=fun ds M R=>∃(ord:List (Str×Str)) (q:Addr) (p:Pl) (kd:KD) (e:Pl) (st:List (Pl×List j3)) (cn:List (Pl×List (Pl×Int))) (l:List (Pl×Int)),ds=[.tup (ord.map aF),.ref q,plD p]/\ord.length<=500/\lR M C q kd e st cn /\
 (∀q∈kd,q.2.length<=1000)/\pN kd p/\((cg kd p).isSome->lkP cn (nxt p)=some l)/\(∀z∈l,pN kd z.1)/\l.length<=100000/\R (.lst ((bh ord kd p l).map jR)) M
theorem kH{f:Addr}{fd:FuncData}(F:Fun K "first_steps" "first_steps" bZ f fd) (T:Txt K mg) {C:Addr} (Z:jG K C) (g_p_sign_behind:FnD P w K mg base "sign_behind" 1 2 dD) (g_p_next_place:FnD P w K mg base "next_place" 1 1 gQ) (g_p_are_joined:FnD P w K mg base "are_joined" 5 3 h7) (g_p_begins_behind:FnD P w K mg base "begins_behind" 1 2 eX):aX P w K mg base CX0 6 f fd ["order","chart","place"] (spD K 3 (gp C)):=by
 have nd:=fK.nd
 refine F.okQ rfl fK (fun cdv A outer s H E hr=>⟨_,(ah (aK (i:=3) nd rfl (Or.inr rfl) (qd g_p_sign_behind hr (ae (iK Z.c Z.n_kinds (ab 1)) (ae (ab 2) ag))))
   (ah (cz (aR HM (ab 3) ni nbh) (aq (aO (j6 (ms:=[false,false,false,false]) (ar:=["begin"]) (aW rfl (show bt (aj bZ) bE _ _=true from by decide +kernel)) rfl (bz (qd g_p_begins_behind hr (ae (iK Z.c Z.n_kinds (ab 1)) (ae (ab 2) ag)))) (aN (i:=4) (show(bE++_).Nodup from by decide +kernel) rfl rfl) (fun _ _ _ _=>cC) (fun _ _ _ _=>(bH (ae ni (ae (ab 4) (ae ak ag)))))))) bD)
   (aq (aO (j6 (ms:=[true,true,false,true]) (ar:=["mate","inner"]) (aW rfl (show bt (aj bZ) bE _ _=true from by decide +kernel)) rfl (yW (uk hr.units1 (iK Z.c Z.n_counts (ab 1)) (qd g_p_next_place hr (ae (ab 2) ag)) (fun _ _=>rfl))) (jj (n:=2) rfl (cf (aN (i:=4) (show(bE++_).Nodup from by decide +kernel) rfl rfl) (cf (aN (i:=5) (show(bE++_).Nodup from by decide +kernel) rfl rfl) jb))) (fun _ _ _ _=>(mR (uQ (qd g_p_are_joined hr (ae (ab 0) (ae (ab 3) (ae (qd g_p_sign_behind hr (ae (iK Z.c Z.n_kinds (ab 1)) (ae (ab 4) ag))) ag))))))) (fun _ _ _ _=>(bH (ae (ab 4) (ae (qd g_p_next_place hr (ae (ab 4) ag)) (ae (ab 5) ag)))))))))),fun ds M R hl hS=>?_⟩)
 obtain⟨ord,q,p,kd,e,st,cn,l,rfl,ho,hC,hb,hv,hl,hlv,hll,k⟩:=hS
 obtain⟨s,c,hsc,hq,hs,hc⟩:=hC
 walk_at "rd"
 refine⟨_,hq,_,rfl,vJ hv ?_⟩
 unfold bh at k
 cases hx:cg kd p with
 |none =>
  simp only[hx]at k
  rw[if_pos (by rfl)]
  refine⟨_,hq,_,rfl,kd,p,rfl,hb,_,rfl,fun hz=>⟨hz,?_⟩⟩
  have hm:((List.range ((look kd (p.1+1)).getD []).length).map fun(k:Nat)=>plD (p.1+1,(k:Int),0))=(br kd p).map plD:=by rw[br,List.map_map];rfl
  have hc:gA [false,false,false,false] 1 [some (D.tup (ord.map aF)),some (D.ref q),some (plD p),some ((none:Option (Str×Int)).elim .non aL)]=[none,none,none,none,none]:=rfl
  rw[hm,hc]
  refine bw plD (fun _=>true) (fun b=>jR (none,b,1)) (fun Δ=>∃x,Δ=[none,none,none,none,x]) _ _ _ ?_ ⟨_,rfl⟩ ?_
  ·rintro b hb' Δ ⟨x,rfl⟩
   refine⟨_,rfl,⟨_,rfl⟩,fun Q1 q=>q,fun _ Q2 q=>?_⟩
   simp only[uv,cx,bK,dC,fu]
   exact⟨_,rfl,by simp only[List.length_cons,List.length_nil];rw[sizeLine_eq];decide,q⟩
  ·rw[List.filter_eq_self.mpr (fun _ _=>rfl),List.nil_append]
   rw[List.map_map]at k
   exact k
 |some x =>
  simp only[hx]at k
  rw[if_neg (by simp[aL,rdM,m9])]
  have hlk:=hl (by rw[hx];rfl)
  have hval:bq (cnK cn) (plK (nxt p))=some (iI (cK l)):=by
   rw[cnK,i4 (fun l=>iI (cK l)),hlk];rfl
  have hm:((cK l).map fun z=>D.tup [oq z.1,z.2])=l.map fun z=>D.tup [plD z.1,D.int z.2]:=by rw[cK,List.map_map];rfl
  refine⟨_,hq,_,rfl,p,rfl,_,ip hc,plK (nxt p),rfl,_,hval,_,rfl,?_,?_⟩
  ·rw[hm,List.length_map,sizeLine_eq];omega
  have hc2:gA [true,true,false,true] 2 [some (D.tup (ord.map aF)),some (D.ref q),some (plD p),some ((some x).elim .non aL)]=[some (D.tup (ord.map aF)),some (D.ref q),none,some (aL x),none,none]:=rfl
  rw[hm,hc2]
  refine bw (fun z:Pl×Int=>D.tup [plD z.1,D.int z.2]) (fun z=>fh ord x (cg kd z.1)) (fun z=>jR (some z.1,nxt z.1,z.2)) (fun Δ=>∃a b,Δ=[some (D.tup (ord.map aF)),some (D.ref q),none,some (aL x),a,b]) _ _ _ ?_ ⟨_,_,rfl⟩ ?_
  ·rintro z hz Δ ⟨a,b,rfl⟩
   refine⟨_,rfl,⟨_,_,rfl⟩,fun Q1 q1=>?_,fun _ Q2 q1=>?_⟩
   ·simp only[ow,gn,cx,bK,fu,wM]
    exact⟨_,rfl,_,rfl,_,rfl,q,_,_,rfl,hq,rfl,_,rfl,rfl,vJ (hlv z hz) ⟨rfl,ord,x,cg kd z.1,rfl,ho,_,rfl,q1⟩⟩
   ·simp only[uv,gn,cx,bK,fu]
    exact⟨_,rfl,_,rfl,rfl,z.1,rfl,_,rfl,by simp only[List.length_cons,List.length_nil];rw[sizeLine_eq];decide,q1⟩
  ·rw[List.nil_append]
   rw[List.map_map]at k
   exact k
def wq(l:List (Pl×Int)) (e:Pl) (v:Int):List (Pl×Int):=if(l.any fun z=>decide (z.1=e))=true then l.map fun z=>if z.1=e then(z.1,v)else z else l++[(e,v)]
theorem Bo{l:List (Pl×Int)}{e:Pl}{v:Int}:fw (cK l) (plK e) (.int v)=cK (wq l e v):=by
 have h1:((cK l).any fun kv=>decide (kv.1=plK e))=l.any fun z=>decide (z.1=e):=by
  rw[cK,List.any_map]
  congr 1;funext z
  exact decide_eq_decide.mpr ⟨j4,fun h=>congrArg plK h⟩
 unfold fw wq
 rw[h1]
 split
 ·rw[cK,cK,List.map_map,List.map_map]
  congr 1;funext z
  show(if plK z.1=plK e then _ else _)=_
  by_cases h:z.1=e
  ·rw[if_pos (by rw[h])];simp[h]
  ·rw[if_neg (fun q=>h (j4 q))];simp[h]
 ·rw[cK,cK,List.map_append];rfl
theorem zV(l:List (Pl×Int)) (e:Pl) (v:Int):(wq l e v).length<=l.length+1:=by
 unfold wq
 split
 ·rw[List.length_map];omega
 ·simp
def Ai(l:List (Pl×Int)) (e:Pl) (v:Int):List (Pl×Int):=wq l e ((lkP l e).getD 0+v)
def dF(i:Int) (l more:List (Pl×Int)):List (Pl×Int):=more.foldl (fun a z=>Ai a z.1 (i*z.2)) l
def bA(p:Pl) (ss:List j3) (cn:List (Pl×List (Pl×Int))):List (Pl×Int):=ss.foldl (fun a s=>dF s.2.2 a ((lkP cn s.2.1).getD [])) [(p,1)]
def gr(C:Addr):SpD:=fun ds M R=>∃(q:Addr) (p:Pl) (kd:KD) (e:Pl) (st:List (Pl×List j3)) (cn:List (Pl×List (Pl×Int))) (ss:List j3),ds=[.ref q,plD p]/\lR M C q kd e st cn /\
 lkP st p=some ss/\ss.length<=1000/\(∀s∈ss,∃l,lkP cn s.2.1=some l/\l.length<=1000/\∀z∈l,jo s.2.2 z.2)/\R (iI (cK (bA p ss cn))) M
theorem kG{f:Addr}{fd:FuncData}(F:Fun K "counts_from" "counts_from" dG f fd) (T:Txt K mg) {C:Addr} (Z:jG K C) :aX P w K mg base CX0 1 f fd ["chart","place"] (spD K 2 (gr C)):=by
 have nd:=fT.nd
 refine F.okQ rfl fT (fun cdv A outer s H E hr=>⟨_,(ah (aK (i:=2) nd rfl (Or.inl rfl) (B2 hr.units1 (ab 1) ak))
   (ah (bO PassesOwn.never rfl (bz (uk hr.units1 (iK Z.c Z.n_steps (ab 0)) (ab 1) (fun _ _=>rfl))) (lb rfl (bM (aG (i:=3) nd rfl (Or.inl rfl)) (bM (aG (i:=4) nd rfl (Or.inl rfl)) (bM (aG (i:=5) nd rfl (Or.inl rfl)) lr)))) (aq (bO PassesOwn.never rfl (yW (uk hr.units1 (iK Z.c Z.n_counts (ab 0)) (ab 4) (fun _ _=>rfl))) (lb rfl (bM (aG (i:=6) nd rfl (Or.inl rfl)) (bM (aG (i:=7) nd rfl (Or.inl rfl)) lr))) (aq (uS hr.units1 (ab 2) (ab 6) (aP aM (vc hr.units1 (ab 2) (ab 6) ak ⟨rfl,rfl,rfl,rfl⟩) (aP EU (ab 5) (ab 7))))))))
   (aq (aO (ER (ab 2)))))),fun ds M R hl hS=>?_⟩)
 obtain⟨q,p,kd,e,st,cn,ss,rfl,hC,hp,hsl,hn,k⟩:=hS
 obtain⟨s,c,hsc,hq,hs,hc⟩:=hC
 walk_at "rd"
 intro a ha
 have hqa:q≠a:=fun z=>by rw[z,ha]at hq;cases hq
 have hsa:s≠a:=fun z=>by rw[z,ha]at hs;cases hs
 have hca:c≠a:=fun z=>by rw[z,ha]at hc;cases hc
 have hval:bq (stK st) (plK p)=some (.lst (ss.map jR)):=by rw[stK,i4 (fun l:List j3=>D.lst (l.map jR)),hp];rfl
 refine⟨plK p,rfl,_,by rw[aw hqa];exact hq,_,rfl,_,ip (by rw[aw hsa];exact hs),plK p,rfl,_,hval,_,rfl,fun hz=>?_⟩
 refine aE (fun i Δ M'=>∃x3 x4 x5 x6 x7 l,Δ=[some (D.ref q),some (plD p),some (D.ref a),x3,x4,x5,x6,x7]/\l=bA p (ss.take i) cn/\l.length<=1+i*1000/\M'=au M a (.dT (cK l))) ⟨_,_,_,_,_,[(p,1)],rfl,by simp[bA],by simp,rfl⟩ ?_ ?_
 ·rintro i d Δ M' X hd ⟨x3,x4,x5,x6,x7,l0,rfl,hl0,aU,rfl⟩ k'
  obtain⟨t,ht,rfl⟩:=cO hd
  have htm:=List.mem_of_getElem? ht
  have hi:i<ss.length:=(List.getElem?_eq_some_iff.mp ht).1
  obtain⟨l,hl,hll,hmul⟩:=hn t htm
  have hnext:bA p (ss.take (i+1)) cn=dF t.2.2 l0 l:=by
   rw[List.take_add_one,ht,hl0]
   simp[bA,hl]
  have hval2:bq (cnK cn) (plK t.2.1)=some (iI (cK l)):=by rw[cnK,i4 (fun l=>iI (cK l)),hl];rfl
  simp only[jR]
  refine⟨_,rfl,?_⟩
  simp only[wW,vM,u7,wM,bK]
  refine⟨_,rfl,q,_,_,rfl,by rw[aw hqa];exact hq,rfl,_,rfl,_,plK t.2.1,_,ip (by rw[aw hca];exact hc),rfl,hval2,cK l,rfl,?_⟩
  have hm:((cK l).map fun z=>D.tup [oq z.1,z.2])=l.map fun z=>D.tup [plD z.1,D.int z.2]:=by rw[cK,List.map_map];rfl
  rw[hm]
  refine aE (fun j Δ M'=>∃x6 x7 l1,Δ=[some (D.ref q),some (plD p),some (D.ref a),some (t.1.elim D.non plD),some (plD t.2.1),some (D.int t.2.2),x6,x7]/\l1=dF t.2.2 l0 (l.take j)/\l1.length<=1+i*1000+j/\M'=au M a (.dT (cK l1))) ⟨_,_,l0,rfl,by simp[dF],by omega,rfl⟩ ?_ ?_
  ·rintro j d2 Δ M' X2 hd2 ⟨y6,y7,l1,rfl,hl1,hlen1,rfl⟩ k2
   obtain⟨z,hz2,rfl⟩:=cO hd2
   have hzm:=List.mem_of_getElem? hz2
   have hj:j<l.length:=(List.getElem?_eq_some_iff.mp hz2).1
   refine⟨_,rfl,?_⟩
   simp only[su,dOp,qX,bK,dC]
   have hv1:(bq (cK l1) (plK z.1)).getD (D.int 0)=D.int ((lkP l1 z.1).getD 0):=by
    rw[cK,i4 D.int]
    cases lkP l1 z.1<;>rfl
   refine⟨_,rfl,by rw[ip ai];rfl,_,rfl,_,plK z.1,ip ai,rfl,_,rfl,_,rfl,.int (t.2.2*z.2),by simp[rdM,iOp,hmul z hzm],?_⟩
   rw[hv1]
   refine⟨.int ((lkP l1 z.1).getD 0+t.2.2*z.2),rfl,_,rfl,_,rfl,a,_,plK z.1,rfl,ai,rfl,?_,k2 _ _ ⟨_,_,Ai l1 z.1 (t.2.2*z.2),rfl,?_,?_,?_⟩⟩
   ·rw[cK,List.length_map,sizeLine_eq];omega
   ·rw[List.take_add_one,hz2,hl1];simp[dF]
   ·have:=zV l1 z.1 ((lkP l1 z.1).getD 0+t.2.2*z.2)
    show(wq _ _ _).length<=_
    omega
   ·rw[ay,Bo];rfl
  ·rintro Δ M' ⟨y6,y7,l1,rfl,hl1,hlen1,rfl⟩
   rw[List.length_map,List.take_length]at hl1
   rw[List.length_map]at hlen1
   exact k' _ _ ⟨_,_,_,_,_,l1,rfl,by rw[hnext];exact hl1,by omega,rfl⟩
 ·rintro Δ M' ⟨x3,x4,x5,x6,x7,l0,rfl,hl0,aU,rfl⟩
  rw[List.length_map,List.take_length]at hl0
  simp only[Ce,vp,bK]
  refine⟨_,rfl,a,_,rfl,ai,?_⟩
  rw[jM ha,hl0]
  exact k
end
section
variable{P:Program}{w:World}{K:PySem.W.Frag}{mg:Str->Option Value}{base:Heap}
def fj{α:Type}(l:List (Pl×α)) (e:Pl) (v:α):List (Pl×α):=if(l.any fun z=>decide (z.1=e))=true then l.map fun z=>if z.1=e then(z.1,v)else z else l++[(e,v)]
theorem yY{α:Type}(f:α->D) {l:List (Pl×α)}{e:Pl}{v:α}:fw (l.map fun z=>(plK z.1,f z.2)) (plK e) (f v)=(fj l e v).map fun z=>(plK z.1,f z.2):=by
 have h1:((l.map fun z=>(plK z.1,f z.2)).any fun kv=>decide (kv.1=plK e))=l.any fun z=>decide (z.1=e):=by
  rw[List.any_map]
  congr 1;funext z
  exact decide_eq_decide.mpr ⟨j4,fun h=>congrArg plK h⟩
 unfold fw fj
 rw[h1]
 split
 ·rw[List.map_map,List.map_map]
  congr 1;funext z
  show(if plK z.1=plK e then _ else _)=_
  by_cases h:z.1=e
  ·rw[if_pos (by rw[h])];simp[h]
  ·rw[if_neg (fun q=>h (j4 q))];simp[h]
 ·rw[List.map_append];rfl
theorem rV{α:Type}(l:List (Pl×α)) (e:Pl) (v:α):(fj l e v).length<=l.length+1:=by
 unfold fj
 split
 ·rw[List.length_map];omega
 ·simp
abbrev ChS:=List (Pl×List j3)×List (Pl×List (Pl×Int))
def i8(ord:List (Str×Str)) (kd:KD) (S:ChS) (p:Pl):ChS :=
 let ss:=bh ord kd p ((lkP S.2 (nxt p)).getD [])
 (fj S.1 p ss,fj S.2 p (bA p ss S.2))
def cF(ord:List (Str×Str)) (kd:KD) (ps:List Pl):ChS:=ps.foldl (i8 ord kd) ([],[])
def EI(ord:List (Str×Str)) (kd:KD) (cn:List (Pl×List (Pl×Int))) (p:Pl):Prop :=
 pN kd p/\((cg kd p).isSome->(lkP cn (nxt p)).isSome=true)/\(∀z∈(lkP cn (nxt p)).getD [],pN kd z.1)/\((lkP cn (nxt p)).getD []).length<=100000 /\
 (bh ord kd p ((lkP cn (nxt p)).getD [])).length<=1000/\∀s∈bh ord kd p ((lkP cn (nxt p)).getD []),∃l,lkP cn s.2.1=some l/\l.length<=1000/\∀z∈l,jo s.2.2 z.2
def BJ(ord:List (Str×Str)) (kd:KD) (m:Int):Prop:=ord.length<=500/\(∀q∈kd,q.2.length<=1000)/\AG (kd.map (·.1))=some m/\(ao kd).length<=100000 /\
 ∀i p,(ao kd).reverse[i]?=some p->EI ord kd (cF ord kd ((ao kd).reverse.take i)).2 p
def chM(M:DH) (C q s c:Addr) (kd:KD) (e:Pl) (S:ChS):DH :=
 au (au (au M q (.ins C [("kinds",kdD kd),("end",plD e),(("steps":Str),.ref s),(("counts":Str),.ref c)])) s (.dT (stK S.1))) c (.dT (cnK S.2))
section
variable{M:DH}{C q s c:Addr}{kd:KD}{e:Pl}{S:ChS}
theorem zJ(h1:q≠s) (h2:q≠c):chM M C q s c kd e S q=some (.ins C [("kinds",kdD kd),("end",plD e),(("steps":Str),.ref s),(("counts":Str),.ref c)]):=by
 unfold chM;rw[aw h2,aw h1,ai]
theorem C3(h:s≠c):chM M C q s c kd e S s=some (.dT (stK S.1)):=by
 unfold chM;rw[aw h,ai]
theorem CL:chM M C q s c kd e S c=some (.dT (cnK S.2)):=ai
theorem uz(h1:q≠s) (h2:q≠c) (h:s≠c):lR (chM M C q s c kd e S) C q kd e S.1 S.2:=⟨s,c,h,zJ h1 h2,C3 h,CL⟩
theorem An(h:s≠c) {x:List (Pl×List j3)}:au (chM M C q s c kd e S) s (.dT (stK x))=chM M C q s c kd e (x,S.2):=by
 unfold chM
 rw[b7 (Ne.symm h),ay]
theorem zb{y:List (Pl×List (Pl×Int))}:au (chM M C q s c kd e S) c (.dT (cnK y))=chM M C q s c kd e (S.1,y):=by
 unfold chM
 rw[ay]
end
theorem z8{α:Type}{p:Pl}{v:α}:∀{l:List (Pl×α)},lkP (fj l p v) p=some v:=by
 intro l
 unfold fj
 split
 ·rename_i h
  induction l with
  |nil=>simp at h
  |cons z l ih =>
   by_cases hz:z.1=p
   ·simp[lkP,hz]
   ·have h':(l.any fun z=>decide (z.1=p))=true:=by simpa[hz]using h
    have:=ih h'
    simpa[lkP,hz]using this
 ·rename_i h
  have:∀z∈l,z.1≠p:=fun z hz e=>h (List.any_eq_true.mpr ⟨z,hz,by simp[e]⟩)
  induction l with
  |nil=>simp[lkP]
  |cons z l ih =>
   have hz:=this z (.head _)
   have:=ih (fun h2=>h (by simp[h2])) (fun w hw=>this w (.tail _ hw))
   simpa[lkP,hz]using this
def kh(C:Addr):SpD:=fun ds M R=>∃(ord:List (Str×Str)) (kd:KD) (m:Int) (q:Addr),ds=[.ref q,.tup (ord.map aF),kdD kd]/\M q=some (.ins C [])/\BJ ord kd m /\
 ∀s c,M s=none->M c=none->s≠c->R .non (chM M C q s c kd (m,0,1) (cF ord kd (ao kd).reverse))
theorem uC{f:Addr}{fd:FuncData}(F:Fun K "__init__" "Chart.__init__" kn f fd) (T:Txt K mg) {C:Addr} (Z:jG K C) (g_p_last_place:FnD P w K mg base "last_place" 1 1 gH) (g_p_places_of:FnD P w K mg base "places_of" 1 1 iN) (g_p_first_steps:FnD P w K mg base "first_steps" 6 3 ((gp C))) (g_p_counts_from:FnD P w K mg base "counts_from" 1 2 ((gr C))):aX P w K mg base CX0 7 f fd ["self","order","kinds"] (spD K 3 (kh C)):=by
 have nd:=og.nd
 refine F.okQ rfl og (fun cdv A outer s H E hr=>⟨_,(ah (qB Z.c Z.n_kinds (ab 0) (ab 2))
   (ah (qB Z.c Z.n_end (ab 0) (qd g_p_last_place hr (ae (ab 2) ag)))
   (ah (qB Z.c Z.n_steps (ab 0) DP)
   (ah (qB Z.c Z.n_counts (ab 0) DP)
   (aq (bO PassesOwn.never rfl (Bw rfl T.b_reversed (ae (qd g_p_places_of hr (ae (ab 2) ag)) ag)) (aG (i:=3) nd rfl (Or.inl rfl)) (ah (uS hr.units1 (iK Z.c Z.n_steps (ab 0)) (ab 3) (qd g_p_first_steps hr (ae (ab 1) (ae (ab 0) (ae (ab 3) ag)))))
   (aq (uS hr.units1 (iK Z.c Z.n_counts (ab 0)) (ab 3) (qd g_p_counts_from hr (ae (ab 0) (ae (ab 3) ag)))))))))))),fun ds M R hl hS=>?_⟩)
 obtain⟨ord,kd,m,q,rfl,hq,⟨ho,hb,hm,hz,hst⟩,k⟩:=hS
 walk_at "rd"
 have p2:sS "end" (plD (m,0,1)) [(("kinds":Str),kdD kd)]=[(("kinds":Str),kdD kd),(("end":Str),plD (m,0,1))]:=rfl
 refine⟨[],hq,by simp,kd,m,rfl,hm,[(("kinds":Str),kdD kd)],ai,by simp,fun s hs=>?_⟩
 rw[p2]at hs ⊢
 rw[ay]at hs ⊢
 have hqs:q≠s:=fun z=>by rw[<-z,ai]at hs;cases hs
 have hs0:M s=none:=by rw[aw (Ne.symm hqs)]at hs;exact hs
 refine⟨[(("kinds":Str),kdD kd),(("end":Str),plD (m,0,1))],by rw[aw hqs,ai],by simp,fun c hc=>?_⟩
 have p3:sS "steps" (.ref s) [(("kinds":Str),kdD kd),(("end":Str),plD (m,0,1))]=[(("kinds":Str),kdD kd),(("end":Str),plD (m,0,1)),(("steps":Str),.ref s)]:=rfl
 rw[p3]at hc ⊢
 have hqc:q≠c:=fun z=>by rw[<-z,ai]at hc;cases hc
 rw[aw (Ne.symm hqc)]at hc
 have hsc:s≠c:=fun z=>by rw[<-z,ai]at hc;cases hc
 have hc0:M c=none:=by rw[aw (Ne.symm hsc),aw (Ne.symm hqc)]at hc;exact hc
 refine⟨[(("kinds":Str),kdD kd),(("end":Str),plD (m,0,1)),(("steps":Str),.ref s)],by rw[aw hqc,ai],by simp,?_⟩
 have p4:sS "counts" (.ref c) [(("kinds":Str),kdD kd),(("end":Str),plD (m,0,1)),(("steps":Str),.ref s)]=[(("kinds":Str),kdD kd),(("end":Str),plD (m,0,1)),(("steps":Str),.ref s),(("counts":Str),.ref c)]:=rfl
 rw[p4]
 have hM:au (au (au (au (au M q (.ins C [(("kinds":Str),kdD kd),(("end":Str),plD (m,0,1))])) s (.dT [])) q (.ins C [(("kinds":Str),kdD kd),(("end":Str),plD (m,0,1)),(("steps":Str),.ref s)])) c (.dT [])) q (.ins C [(("kinds":Str),kdD kd),(("end":Str),plD (m,0,1)),(("steps":Str),.ref s),(("counts":Str),.ref c)])=chM M C q s c kd (m,0,1) ([],[]):=by
  unfold chM
  rw[b7 (Ne.symm hqc),ay,b7 (Ne.symm hqs),ay]
  rfl
 rw[hM]
 refine⟨kd,rfl,by omega,_,rfl,fun hle=>?_⟩
 rw[<-List.map_reverse]
 refine aE (fun i Δ M'=>∃x S,Δ=[some (D.ref q),some (D.tup (ord.map aF)),some (kdD kd),x]/\S=cF ord kd ((ao kd).reverse.take i)/\S.1.length<=i/\S.2.length<=i/\M'=chM M C q s c kd (m,0,1) S) ⟨_,([],[]),rfl,by simp[cF],by simp,by simp,rfl⟩ ?_ ?_
 ·rintro i d Δ M' X hd ⟨x,S,rfl,hS,h1,h2,rfl⟩ k'
  obtain⟨p,hp,rfl⟩:=cO hd
  have hi:i<(ao kd).reverse.length:=(List.getElem?_eq_some_iff.mp hp).1
  rw[List.length_reverse]at hi
  have hok:=hst i p hp
  rw[<-hS]at hok
  obtain⟨hv,hsome,hzv,hll,hss,hstep⟩:=hok
  refine⟨_,rfl,?_⟩
  simp only[tm,su,wM,gn,cx,bK,fu]
  refine⟨_,rfl,_,rfl,_,rfl,rfl,ord,q,p,kd,(m,0,1),S.1,S.2,(lkP S.2 (nxt p)).getD [],rfl,ho,uz hqs hqc hsc,hb,hv,fun h=>?_,hzv,hll,?_⟩
  ·obtain⟨l,hl⟩:=Option.isSome_iff_exists.mp (hsome h)
   rw[hl];rfl
  refine⟨_,rfl,q,_,_,rfl,zJ hqs hqc,rfl,_,rfl,s,_,plK p,rfl,C3 hsc,rfl,by rw[stK,List.length_map,sizeLine_eq];omega,?_⟩
  generalize hss0:bh ord kd p ((lkP S.2 (nxt p)).getD [])=ss at *
  have hput:fw (stK S.1) (plK p) (D.lst (ss.map jR))=stK (fj S.1 p ss):=yY (fun l:List j3=>D.lst (l.map jR))
  have hput2:fw (cnK S.2) (plK p) (iI (cK (bA p ss S.2)))=cnK (fj S.2 p (bA p ss S.2)):=yY (fun l=>iI (cK l))
  rw[hput,An hsc]
  refine⟨_,rfl,_,rfl,rfl,q,p,kd,(m,0,1),fj S.1 p ss,S.2,ss,rfl,uz hqs hqc hsc,z8,hss,hstep,?_⟩
  refine⟨_,rfl,q,_,_,rfl,zJ hqs hqc,rfl,_,rfl,c,cnK S.2,plK p,rfl,CL,rfl,by rw[cnK,List.length_map,sizeLine_eq];omega,?_⟩
  rw[hput2,zb]
  refine k' _ _ ⟨_,_,rfl,?_,?_,?_,rfl⟩
  ·rw[List.take_add_one,hp,cF,List.foldl_append]
   show _=i8 ord kd (cF ord kd ((ao kd).reverse.take i)) p
   rw[<-hS]
   simp only[i8,hss0]
  ·have:=rV S.1 p ss
   show(fj S.1 p ss).length<=_
   omega
  ·have:=rV S.2 p (bA p ss S.2)
   show(fj S.2 p _).length<=_
   omega
 ·rintro Δ M' ⟨x,S,rfl,hS,h1,h2,rfl⟩
  rw[List.length_map,List.take_length]at hS
  rw[hS]
  exact k s c hs0 hc0 hsc
def cI:Pl:=(-1,0,0)
def fC(C:Addr):SpD:=fun ds M R=>∃(q:Addr) (kd:KD) (e:Pl) (st:List (Pl×List j3)) (cn:List (Pl×List (Pl×Int))) (l:List (Pl×Int)),ds=[.ref q]/\lR M C q kd e st cn/\lkP cn cI=some l/\R (.int ((lkP l e).getD 0)) M
theorem jx{f:Addr}{fd:FuncData}(F:Fun K "count_of_all" "count_of_all" df f fd) (T:Txt K mg) {C:Addr} (Z:jG K C) :aX P w K mg base CX0 1 f fd ["chart"] (spD K 1 (fC C)):=by
 have nd:=eZ.nd
 refine F.okQ rfl eZ (fun cdv A outer s H E hr=>⟨_,(aq (aO (vc hr.units1 (D3 hr.units1 (iK Z.c Z.n_counts (ab 0)) (vb rfl T.g_START) (fun _ _=>rfl)) (iK Z.c Z.n_end (ab 0)) ak ⟨rfl,rfl,rfl,rfl⟩))),fun ds M R hl hS=>?_⟩)
 obtain⟨q,kd,e,st,cn,l,rfl,hC,hl,k⟩:=hS
 obtain⟨s,c,hsc,hq,hs,hc⟩:=hC
 walk_at "rd"
 have hval:bq (cnK cn) (plK cI)=some (iI (cK l)):=by rw[cnK,i4 (fun l=>iI (cK l)),hl];rfl
 refine⟨_,hq,_,rfl,_,ip hc,plK cI,rfl,_,hval,by rw[rF];rfl,_,hq,_,rfl,_,rF,plK e,rfl,?_⟩
 have:(bq (cK l) (plK e)).getD (D.int 0)=D.int ((lkP l e).getD 0):=by
  rw[cK,i4 D.int]
  cases lkP l e<;>rfl
 rw[this];exact k
end
section
variable{P:Program}{w:World}{K:PySem.W.Frag}{mg:Str->Option Value}{base:Heap}
def cp(af:List (Str×List Row)) (ws:List Str):KD:=ws.zipIdx.map fun q=>((q.2:Int),kin af q.1)
def bN(af:List (Str×List Row)) (av:Str) (ws:List Str):KD:=(-1,[[]])::cp af ws++[((ws.length:Int),[[(av,1)]])]
theorem u5{kd:KD}{n:Int}{rs:List Row}(h:∀p∈kd,p.1≠n):fw (kdP kd) (.inl n) (cu rs)=kdP (kd++[(n,rs)]):=by
 have:((kdP kd).any fun kv=>decide (kv.1=.inl n))=false:=by
  rw[List.any_eq_false]
  intro x hx
  obtain⟨p,hp,rfl⟩:=List.mem_map.mp hx
  have:=h p hp
  simpa using this
 unfold fw
 rw[this,if_neg (by simp),kdP,kdP,List.map_append]
 rfl
theorem vt{af:List (Str×List Row)}{ws:List Str}{n:Int}{r:List Row}(h0:(-1:Int)≠n) (h:(ws.length:Int)<=n):∀p∈((-1,r)::cp af ws:KD),p.1≠n:=by
 intro p hp
 rcases List.mem_cons.mp hp with e|hp
 ·rw[e];exact h0
 ·obtain⟨t,ht,rfl⟩:=List.mem_map.mp hp
  have:=List.mem_zipIdx ht
  show(t.2:Int)≠n
  omega
def dJ:SpD:=fun ds M R=>∃(ord:List (Str×Str)) (av:Str) (af:List (Str×List Row)) (ws:List Str),ds=[bJ ord av af,.tup (ws.map .str)]/\af.length<=8/\ws.length<=100/\(∀w∈ws,w∈af.map (·.1)/\gI w)/\R (kdD (bN af av ws)) M
theorem gU{f:Addr}{fd:FuncData}(F:Fun K "kinds_by_number" "kinds_by_number" cB f fd) (T:Txt K mg) (g_p_kinds_of:FnD P w K mg base "kinds_of" 3 2 jB) (g_p_goals_wish:FnD P w K mg base "goals_wish" 1 1 gP):aX P w K mg base CX0 4 f fd ["lexicon","words"] (spD K 2 dJ):=by
 have nd:=dA.nd
 refine F.okQ rfl dA (fun cdv A outer s H E hr=>⟨_,(ah (aK (i:=2) nd rfl (Or.inl rfl) (B8 (bc ba (vb rfl T.g_START) ak (fun _ _=>rfl)) (bH (ae (bH ag) ag))))
   (ah (bO PassesOwn.never rfl (vD rfl T.b_enumerate (ae (ab 1) ag)) (lb rfl (bM (aG (i:=3) nd rfl (Or.inl rfl)) (bM (aG (i:=4) nd rfl (Or.inl rfl)) lr))) (aq (xS hr.units1 (ab 2) (ab 3) (qd g_p_kinds_of hr (ae (ab 0) (ae (ab 4) ag))))))
   (ah (xS hr.units1 (ab 2) (aY cZ rfl T.b_len (by kernel_rfl) (ae (ab 1) ag)) (bH (ae (qd g_p_goals_wish hr (ae (ab 0) ag)) ag)))
   (aq (aO (E4 (ab 2))))))),fun ds M R hl hS=>?_⟩)
 obtain⟨ord,av,af,ws,rfl,hl,hw,hws,k⟩:=hS
 walk_at "rd"
 intro a ha
 refine⟨Nat.zero_le _,by rw[sizeLine_eq];decide,.inl (-1),rfl,fun hz=>?_⟩
 rw[nv]
 refine aE (fun i Δ M'=>∃x3 x4,Δ=[some (bJ ord av af),some (D.tup (ws.map D.str)),some (D.ref a),x3,x4]/\M'=au M a (.dK (kdP ((-1,[[]])::cp af (ws.take i))))) ⟨_,_,rfl,rfl⟩ ?_ ?_
 ·rintro i d Δ M' X hd ⟨x3,x4,rfl,rfl⟩ k'
  obtain⟨t,ht,rfl⟩:=cO hd
  have hti:ws[i]?=some t.1/\t.2=i:=by
   rw[List.getElem?_zipIdx]at ht
   cases hw':ws[i]? with
   |none=>rw[hw']at ht;cases ht
   |some x=>rw[hw']at ht;cases ht;exact⟨rfl,by simp⟩
  have hmem:=List.mem_of_getElem? hti.1
  have hi:i<ws.length:=(List.getElem?_eq_some_iff.mp hti.1).1
  refine⟨_,rfl,?_⟩
  simp only[vX,gn,cx,bK,fu]
  refine⟨_,rfl,_,rfl,rfl,ord,av,af,t.1,rfl,hl,(hws _ hmem).1,(hws _ hmem).2,?_⟩
  refine⟨_,rfl,_,rfl,a,_,.inl (t.2:Int),rfl,ai,rfl,?_,?_⟩
  ·rw[kdP,List.length_map,List.length_cons,cp,List.length_map,List.length_zipIdx,List.length_take,sizeLine_eq];omega
  rw[ay,u5 (vt (by omega) (by rw[hti.2,List.length_take];omega) )]
  refine k' _ _ ⟨_,_,rfl,?_⟩
  rw[List.take_add_one,hti.1,hti.2]
  simp[cp,List.zipIdx_append,List.length_take,Nat.min_eq_left (Nat.le_of_lt hi)]
 ·rintro Δ M' ⟨x3,x4,rfl,rfl⟩
  rw[List.length_map,List.length_zipIdx,List.take_length]
  simp only[tm,vX,gn,cx,bK,fu,dCB,uv,Ce,vS]
  refine⟨_,rfl,rfl,ord,av,af,rfl,by simp only[List.length_cons,List.length_nil];rw[sizeLine_eq];decide,_,rfl,_,rfl,.int (ws.length:Int),?_,a,_,.inl (ws.length:Int),rfl,ai,rfl,?_,_,rfl,a,_,rfl,ai,?_⟩
  ·simp[kT,rdM,lz]
  ·rw[kdP,List.length_map,List.length_cons,cp,List.length_map,List.length_zipIdx,sizeLine_eq];omega
  ·rw[ay,jM ha]
   have:=u5 (kd:=(-1,[[]])::cp af ws) (n:=(ws.length:Int)) (rs:=[[(av,1)]]) (vt (by omega) (Int.le_refl _))
   rw[show D.tup [aB [(av,1)]]=cu [[(av,1)]]from rfl,this]
   exact k
def jz(C:Addr):SpD:=fun ds M R=>∃(ord:List (Str×Str)) (av:Str) (af:List (Str×List Row)) (ws:List Str) (m:Int),ds=[bJ ord av af,.tup (ws.map .str)]/\af.length<=8/\ws.length<=100/\(∀w∈ws,w∈af.map (·.1)/\gI w)/\BJ ord (bN af av ws) m /\
 ∀q s c,M q=none->M s=none->M c=none->q≠s->q≠c->s≠c->R (.ref q) (chM M C q s c (bN af av ws) (m,0,1) (cF ord (bN af av ws) (ao (bN af av ws)).reverse))
theorem oz{f:Addr}{fd:FuncData}(F:Fun K "chart_of" "chart_of" gc f fd) (T:Txt K mg) {C:Addr} (g_p_Chart:MkD P w K mg base "Chart" C 7 3 ((kh C))) (g_p_kinds_by_number:FnD P w K mg base "kinds_by_number" 4 2 dJ):aX P w K mg base CX0 9 f fd ["lexicon","words"] (spD K 2 (jz C)):=by
 have nd:=iM.nd
 refine F.okQ rfl iM (fun cdv A outer s H E hr=>⟨_,(aq (aO (D4 g_p_Chart (hr.mono (by decide)) rfl (ae (bc ba (ab 0) ak (fun _ _=>rfl)) (ae (qd g_p_kinds_by_number hr (ae (ab 0) (ae (ab 1) ag))) ag))))),fun ds M R hl hS=>?_⟩)
 obtain⟨ord,av,af,ws,m,rfl,hl,hw,hws,hok,k⟩:=hS
 have hx:bJ ord av af=D.tup [D.tup (ord.map aF),D.str av,D.tup (af.map dB)]:=rfl
 rw[hx]
 walk_at "rd"
 refine⟨ord,av,af,ws,rfl,hl,hw,hws,fun q hq=>⟨ord,_,m,q,rfl,ai,hok,fun s c hs hc hsc=>⟨rfl,?_⟩⟩⟩
 have hqs:q≠s:=fun z=>by rw[<-z,ai]at hs;cases hs
 have hqc:q≠c:=fun z=>by rw[<-z,ai]at hc;cases hc
 rw[aw (Ne.symm hqs)]at hs
 rw[aw (Ne.symm hqc)]at hc
 have:=k q s c hq hs hc hqs hqc hsc
 unfold chM at this ⊢
 rw[ay]
 exact this
def ph(ord:List (Str×Str)) (av:Str) (af:List (Str×List Row)) (ws:List Str) (n:Int):Prop:=af.length<=8/\ws.length<=100/\(∀w∈ws,w∈af.map (·.1)/\gI w) /\
 ∃m l,BJ ord (bN af av ws) m/\lkP (cF ord (bN af av ws) (ao (bN af av ws)).reverse).2 cI=some l/\n=(lkP l (m,0,1)).getD 0
def tu:SpD:=fun ds M R=>∃(ord:List (Str×Str)) (av:Str) (af:List (Str×List Row)) (ws:List Str) (n:Int),ds=[bJ ord av af,.tup (ws.map .str)]/\ph ord av af ws n/\R (.int n) M
theorem xp{f:Addr}{fd:FuncData}(F:Fun K "many" "many" mH f fd) (T:Txt K mg) {C:Addr} (g_p_count_of_all:FnD P w K mg base "count_of_all" 1 1 ((fC C))) (g_p_chart_of:FnD P w K mg base "chart_of" 9 2 ((jz C))):aX P w K mg base CX0 10 f fd ["lexicon","words"] (spD K 2 tu):=by
 have nd:=pT.nd
 refine F.okQ rfl pT (fun cdv A outer s H E hr=>⟨_,(aq (nW (qd g_p_count_of_all hr (ae (qd g_p_chart_of hr (ae (ab 0) (ae (ab 1) ag))) ag)))),fun ds M R hl hS=>?_⟩)
 obtain⟨ord,av,af,ws,n,rfl,⟨hl,hw,hws,m,l,hok,hst,hn⟩,k⟩:=hS
 walk_at "rd"
 refine⟨ord,av,af,ws,m,rfl,hl,hw,hws,hok,fun q s c hq hs hc hqs hqc hsc=>?_⟩
 refine⟨q,_,_,_,_,l,rfl,uz hqs hqc hsc,hst,M,fun a u e=>?_,by rw[hn]at k;exact k⟩
 have h1:a≠q:=fun z=>by rw[z,hq]at e;cases e
 have h2:a≠s:=fun z=>by rw[z,hs]at e;cases e
 have h3:a≠c:=fun z=>by rw[z,hc]at e;cases e
 unfold chM
 rw[aw h3,aw h2,aw h1];exact e
def gC:SpD:=fun ds M R=>∃(ord:List (Str×Str)) (av:Str) (af:List (Str×List Row)) (ws:List Str) (n:Int),ds=[bJ ord av af,.tup (ws.map .str)]/\ph ord av af ws n/\R (.bl (decide (0<n))) M
theorem kK{f:Addr}{fd:FuncData}(F:Fun K "is_sentence" "is_sentence" dH f fd) (T:Txt K mg) (g_p_many:FnD P w K mg base "many" 10 2 tu):aX P w K mg base CX0 11 f fd ["lexicon","words"] (spD K 2 gC):=by
 have nd:=fN.nd
 refine F.okQ rfl fN (fun cdv A outer s H E hr=>⟨_,(aq (aO (mI EG (qd g_p_many hr (ae (ab 0) (ae (ab 1) ag))) ak nbh))),fun ds M R hl hS=>?_⟩)
 obtain⟨ord,av,af,ws,n,rfl,h,k⟩:=hS
 walk_at "rd"
 exact⟨ord,av,af,ws,n,rfl,h,_,rfl,k⟩
end
section
variable{P:Program}{w:World}{K:PySem.W.Frag}{mg:Str->Option Value}{base:Heap}
def aI(xs:List Str):Nat->List (List Str)
 |0=>[[]]
 |n+1=>(aI xs n).flatMap fun r=>xs.map fun x=>r++[x]
def wsD(r:List Str):D:=.tup (r.map .str)
theorem mZ{xs:List Str}(hx:xs.length<=8):∀n,(aI xs n).length<=8 ^ n
 |0=>by simp[aI]
 |n+1=>by
  have ih:=mZ hx n
  have h1:(aI xs (n+1)).length=(aI xs n).length*xs.length:=by
   simp only[aI,List.length_flatMap,List.length_map]
   generalize aI xs n=l
   induction l with
   |nil=>simp
   |cons a l ih2=>rw[List.map_cons,List.sum_cons,ih2,List.length_cons,Nat.succ_mul];omega
  rw[h1,Nat.pow_succ]
  exact Nat.mul_le_mul ih hx
theorem fD{xs:List Str}:∀{n:Nat}{r:List Str},r∈aI xs n->r.length=n
 |0,r,h=>by simp[aI]at h;rw[h];rfl
 |n+1,r,h=>by
  simp only[aI,List.mem_flatMap,List.mem_map]at h
  obtain⟨q,hq,x,_,rfl⟩:=h
  rw[List.length_append,fD hq];rfl
def iU:SpD:=fun ds M R=>∃(xs:List Str) (n:Nat),ds=[.lst (xs.map .str),.int (n:Int)]/\xs.length<=8/\n<=4/\R (.lst ((aI xs n).map wsD)) M
theorem my{f:Addr}{fd:FuncData}(F:Fun K "tuples_of" "tuples_of" dn f fd) (T:Txt K mg) :aX P w K mg base CX0 1 f fd ["parts","length"] (spD K 2 iU):=by
 have nd:=gK.nd
 refine F.okQ rfl gK (fun cdv A outer s H E hr=>⟨_,(ah (aK (i:=2) nd rfl (Or.inl rfl) (iV (ae (bH ag) ag)))
   (ah (bO PassesOwn.never rfl (bI rfl T.b_range (ae (ab 1) ag)) (aG (i:=3) nd rfl (Or.inl rfl)) (aq (zt (i:=2) nd rfl rfl rfl (ms:=[true,false,false,false]) (ar:=["longer","part"]) (aW rfl (show bt (aj dn) dm _ _=true from by decide +kernel)) rfl (bz (ab 2)) (aN (i:=4) (show(dm++_).Nodup from by decide +kernel) rfl rfl) (fun _ _ _ _=>cC) (fun _ _ _ _=>(bz (ab 0))) (aN (i:=5) (show(dm++_).Nodup from by decide +kernel) rfl rfl) (fun _ _ _ _=>cC) (fun _ _ _ _=>(aP aM (ab 4) (bH (ae (ab 5) ag)))))))
   (aq (aO (ab 2))))),fun ds M R hl hS=>?_⟩)
 obtain⟨xs,n,rfl,hx,hn,k⟩:=hS
 walk_at "rd"
 refine⟨Nat.zero_le _,by rw[sizeLine_eq];decide,by omega,by omega,?_⟩
 rw[Int.toNat_natCast]
 refine aE (fun i Δ M'=>∃x,Δ=[some (D.lst (xs.map D.str)),some (D.int (n:Int)),some (D.lst ((aI xs i).map wsD)),x]/\M'=M) ⟨_,rfl,rfl⟩ ?_ ?_
 ·rintro i d Δ M' X hd ⟨x,rfl,rfl⟩ k'
  obtain⟨hi,rfl⟩:=cw hd
  refine⟨_,rfl,?_⟩
  have h8:8 ^ (i+1)<=4096:=by
   have:i+1<=4:=by omega
   exact Nat.le_trans (Nat.pow_le_pow_right (by decide) this) (by decide)
  have aU:=mZ hx (i+1)
  simp only[oG,Bn,xY,j5,bK]
  refine⟨_,rfl,_,rfl,fun _=>?_⟩
  have hm:((aI xs i).flatMap fun r=>xs.map fun x=>wsD (r++[x]))=(aI xs (i+1)).map wsD:=by
   simp only[aI,List.map_flatMap,List.map_map];rfl
  refine dX wsD (fun r=>xs.map fun x=>wsD (r++[x])) (fun Δ=>∃a b,Δ=[some (D.lst (xs.map D.str)),none,none,none,a,b]) _ _ _ _ ?_ ⟨_,_,rfl⟩ ?_ ?_
  ·rintro r hr Δ ⟨a,b,rfl⟩
   refine⟨_,rfl,fun acc Q2 hz q2=>?_⟩
   simp only[iX,j5,bK]
   refine⟨_,rfl,_,rfl,fun _=>?_⟩
   refine dX D.str (fun x=>[wsD (r++[x])]) (fun Δ=>∃b,Δ=[some (D.lst (xs.map D.str)),none,none,none,some (wsD r),b]) xs _ _ _ ?_ ⟨_,rfl⟩ (by rw[jy];exact hz) (by rintro Δ' ⟨b,rfl⟩;rw[jy];exact q2 _ ⟨_,_,rfl⟩)
   rintro x hx' Δ ⟨b,rfl⟩
   refine⟨_,rfl,fun acc2 Q3 hz3 q3=>?_⟩
   simp only[nz,dOp,uv,cx,bK,fu]
   have hr':r.length<=4:=by rw[fD hr];omega
   refine⟨_,rfl,_,rfl,by simp only[List.length_cons,List.length_nil];rw[sizeLine_eq];decide,wsD (r++[x]),?_,q3 _ ⟨_,rfl⟩⟩
   show iG (.tup (r.map D.str)) (.tup [D.str x])=_
   rw[dQ,if_pos (by rw[List.length_map,sizeLine_eq];simp;omega)]
   simp[wsD]
  ·rw[hm,List.length_map,sizeLine_eq];simp;omega
  ·rintro Δ' -
   rw[List.nil_append,hm]
   exact k' _ _ ⟨_,rfl,rfl⟩
 ·rintro Δ M' ⟨x,rfl,rfl⟩
  have:(iE 0 n).length=n:=by simp[iE]
  rw[this]
  walk_at "rd"
  exact k
end
section
variable{P:Program}{w:World}{K:PySem.W.Frag}{mg:Str->Option Value}{base:Heap}
def DI(a b c:Int):Prop:=0<=a/\0<=b/\b<1000000403/\0<=c/\c<1000000513
def a7(l:List D):Prop:=∃a b c,l=[.int a,.int b,.int c]/\DI a b c
def sA:SpD:=fun ds M R=>∃i,ds=[.int i]/\∀p l,M p=none->a7 l->R (.ref p) (au M p (.lst l))
def cU:SpD:=fun ds M R=>∃p l n,ds=[.ref p,.int n]/\M p=some (.lst l)/\a7 l/\0<n/\n<1073741824/\∀v l',0<=v->v<n->a7 l'->R (.int v) (au M p (.lst l'))
theorem xg{f:Addr}{fd:FuncData}(F:Fun K "_law_pool" "_law_pool" mr f fd) (T:Txt K mg) :aX P w K mg base CX0 1 f fd ["_law_cell_here"] (spD K 1 sA):=by
 have nd:=o3.nd
 refine F.okQ rfl o3 (fun cdv A outer s H E hr=>⟨_,(ah (aK (i:=1) nd rfl (Or.inl rfl) ak)
   (ah (cz (ug (C0 (aR B7 (ab 0) ak nbh) (yh (aR Hw (ab 0) (aP GG ak ak) nbh)))) (aq (aK (i:=1) nd rfl (Or.inl rfl) (aY Gn rfl T.b_abs (by kernel_rfl) (ae (ab 0) ag)))) bD)
   (ah (aK (i:=2) nd rfl (Or.inl rfl) (aP jE (ab 0) ak))
   (aq (aO (jm (ae (ab 1) (ae (ab 2) (ae (aP jE (aP aM (aP kR (ab 2) ak) ak) ak) ag))))))))),fun ds M R hl hS=>?_⟩)
 obtain⟨i,rfl,k⟩:=hS
 walk_at "rd"
 have pk:∀a:Int,0<=a->∀p,M p=none->R (D.ref p) (au M p (HD.lst [D.int a,D.int (i % 1000000403),D.int ((i % 1000000403*48271+12345) % 1000000513)])):=fun a ha p hp=>k p _ hp ⟨a,_,_,rfl,ha,by omega,by omega,by omega,by omega⟩
 refine i9 (fun h=>⟨sz3 3,pk _ (by split<;>omega)⟩) (fun h=>i9 (fun h'=>⟨sz3 3,pk _ (by split<;>omega)⟩) (fun h'=>⟨sz3 3,pk _ (by omega)⟩))
theorem wL{f:Addr}{fd:FuncData}(F:Fun K "_law_draw" "_law_draw" nP f fd) (T:Txt K mg) :aX P w K mg base CX0 1 f fd ["_law_pool_here","_law_amount"] (spD K 2 cU):=by
 have nd:=oW.nd
 refine F.okQ rfl oW (fun cdv A outer s H E hr=>⟨_,(ah (cz (aR EG (bc ba (ab 0) ak (fun _ _=>rfl)) ak nbh) (ah (aK (i:=2) nd rfl (Or.inl rfl) (aP jE (bc ba (ab 0) ak (fun _ _=>rfl)) (ab 1)))
   (ah (zM (ab 0) ak (aP xZ (bc ba (ab 0) ak (fun _ _=>rfl)) (ab 1)))
   (aq (aO (ab 2))))) bD)
   (ah (zM (ab 0) ak (aP jE (aP aM (aP aM (aP kR (bc ba (ab 0) ak (fun _ _=>rfl)) ak) (bc ba (ab 0) ak (fun _ _=>rfl))) ak) ak))
   (ah (zM (ab 0) ak (aP jE (aP aM (aP aM (aP kR (bc ba (ab 0) ak (fun _ _=>rfl)) ak) (aP jE (aP kR (bc ba (ab 0) ak (fun _ _=>rfl)) (bc ba (ab 0) ak (fun _ _=>rfl))) ak)) ak) ak))
   (aq (aO (aP jE (aP xZ (aP aM (bc ba (ab 0) ak (fun _ _=>rfl)) (aP kR ak (bc ba (ab 0) ak (fun _ _=>rfl)))) ak) (ab 1))))))),fun ds M R hl hS=>?_⟩)
 obtain⟨p,l,n,rfl,hM,⟨a,b,c,rfl,hp⟩,h0,h1,k⟩:=hS
 have hrd:=vL hM
 have hcd:∀x,p6 x n:=fun x=>⟨h0,h1⟩
 obtain⟨p1,p2,p3,p4,p5⟩:=hp
 have hb:-18446744073709551616<(b*40014+c+7) % 1000000403/\(b*40014+c+7) % 1000000403<18446744073709551616:=by omega
 have hq:=C5 (j:=(b*40014+c+7) % 1000000403) hb
 walk_at "rd"
 simp only[hrd,hM,h0,hcd]
 walk_at "rd"
 simp only[hq]
 walk_at "rd"
 simp only[h0,hcd]
 walk_at "rd"
 have m1:∀x:Int,0<=x % n:=fun x=>Int.emod_nonneg _ (by omega)
 have m2:∀x:Int,x % n<n:=fun x=>Int.emod_lt_of_pos _ h0
 refine i9 (fun h=>?_) (fun h=>?_)
 ·exact k _ _ (m1 _) (m2 _) ⟨_,_,_,rfl,Int.ediv_nonneg (by omega) (by omega),p2,p3,p4,p5⟩
 ·exact k _ _ (m1 _) (m2 _) ⟨_,_,_,rfl,p1,by omega,by omega,by omega,by omega⟩
end
section
variable{P:Program}{w:World}{K:PySem.W.Frag}{mg:Str->Option Value}{base:Heap}
def jH:SpD:=fun ds M R=>∃(p:Addr) (l:List D) (known:List Str),ds=[.ref p,.lst (known.map .str)]/\M p=some (.lst l)/\a7 l/\known.length<=25/\∀w l',c9 w->w∉known->a7 l'->R (.str w) (au M p (.lst l'))
theorem u0{p:Addr}{Q:List D->DH->Prop}:∀(ds:List D) (x:Option D) (M:DH) (l:List D) (cs:List Nat),M p=some (.lst l)->a7 l->(∀c∈cs,nr c) ->
  (∀(cs':List Nat) (l':List D),a7 l'->(∀c∈cs',nr c)->cs'.length=cs.length+ds.length->Q (cs'.map fun c=>D.str (tx [c])) (au M p (.lst l'))) ->
  eJ (bf 5) wu (dOp ixD (bK 2) (gn 2 cU (cx (bK 0) (cx (dC (D.int 26)) fu)))) ds [some (D.ref p),none,some (D.str abc),none,none,x] M (cs.map fun c=>D.str (tx [c])) Q
 |[],x,M,l,cs,hM,hP,hc,k=>by
  have:=k cs l hP hc (by simp)
  rw[o4 hM]at this
  simpa only[eJ]using this
 |d::ds,x,M,l,cs,hM,hP,hc,k=>by
  simp only[eJ,bf,wu]
  walk_at "rd"
  refine⟨p,l,26,rfl,hM,hP,by decide,by decide,fun v l1 h0 h1 hP1=>?_⟩
  obtain⟨c,hc1,e⟩:=Eo h0 h1
  refine⟨_,e,?_⟩
  have hm:(cs.map fun c=>D.str (tx [c]))++[D.str (tx [c])]=(cs++[c]).map fun c=>D.str (tx [c]):=by simp
  rw[hm]
  refine u0 ds (some d) (au M p (.lst l1)) l1 (cs++[c]) ai hP1 (fun x hx=>?_) (fun cs' l' hP' hc' hl'=>?_)
  ·rcases List.mem_append.mp hx with h|h
   ·exact hc x h
   ·have:x=c:=by simpa using h
    subst this;exact hc1
  ·rw[ay]
   exact k cs' l' hP' hc' (by simp at hl' ⊢;omega)
theorem Br:(Str.ofString "abcdefghijklmnopqrstuvwxyz").length<=sizeLine:=by
 show abc.length<=_
 rw[l9,fY]
 exact sz3 _
theorem yX{cs:List Nat}(h:cs.length<=1000):vj (Str.ofString "") (.lst (cs.map fun c=>D.str (tx [c])))=some (.str (tx cs)):=by
 have e:(cs.map fun c=>D.str (tx [c]))=(cs.map fun c=>tx [c]).map D.str:=by simp
 have hs:((cs.map fun c=>tx [c]).map (·.length)).sum=cs.length:=by
  clear h e
  induction cs with
  |nil=>rfl
  |cons c cs ih=>simp only[List.map_cons,List.sum_cons,ih,fY,List.length_cons,List.length_nil];omega
 simp only[vj]
 rw[e,m8,GT]
 dsimp only
 rw[if_pos (by rw[hs,fY];simp;omega),qw]
def DO(cs:List Nat) (d:D):D:=match d with|.str s=>.str (tx (cs.take 7)++s)|_=>.non
theorem yb(cs:List Nat):(L2.bj abc).map (DO cs)=(fq.map fun c=>tx (cs.take 7++[c])).map D.str:=by
 rw[pE,List.map_map,List.map_map]
 apply List.map_congr_left
 intro c _
 show D.str (tx (cs.take 7)++tx [c])=_
 rw[tZ]
 rfl
theorem wV{f:Addr}{fd:FuncData}(F:Fun K "_law_word" "_law_word" fL f fd) (T:Txt K mg) (g_l_draw:FnD P w K mg base "_law_draw" 1 2 cU):aX P w K mg base CX0 2 f fd ["_law_pool_here","_law_known"] (spD K 2 jH):=by
 have nd:=pD.nd
 refine F.okQ rfl pD (fun cdv A outer s H E hr=>⟨_,(ah (aK (i:=2) nd rfl (Or.inr rfl) CG)
   (ah (aK (i:=3) nd rfl (Or.inr rfl) (DG CG (j6 (ms:=[true,false,true,false,false]) (ar:=["_law_k"]) (aW rfl (show bt (aj fL) eI _ _=true from by decide +kernel)) rfl (bI rfl T.b_range (ae (aP aM ak (qd g_l_draw hr (ae (ab 0) (ae ak ag)))) ag)) (aN (i:=5) (show(eI++_).Nodup from by decide +kernel) rfl rfl) (fun _ _ _ _=>cC) (fun _ _ _ _=>(bc ba (ab 2) (qd g_l_draw hr (ae (ab 0) (ae ak ag))) (fun _ _=>rfl))))))
   (ah (aK (i:=4) nd rfl (Or.inl rfl) (aP aM (iV (ae (ab 3) ag)) (j6 (ms:=[false,false,false,true,false]) (ar:=["_law_sign"]) (aW rfl (show bt (aj fL) eI _ _=true from by decide +kernel)) rfl (bz (ab 2)) (aN (i:=5) (show(eI++_).Nodup from by decide +kernel) rfl rfl) (fun _ _ _ _=>cC) (fun _ _ _ _=>(aP aM (cE (ab 3) dP (cW ak)) (ab 5))))))
   (aq (aO (bc ba (j6 (ms:=[false,true,false,false,false]) (ar:=["_law_one"]) (aW rfl (show bt (aj fL) eI _ _=true from by decide +kernel)) rfl (bz (ab 4)) (aN (i:=5) (show(eI++_).Nodup from by decide +kernel) rfl rfl) (fun _ _ _ _=>(mR (aR nA (ab 5) (ab 1) rfl))) (fun _ _ _ _=>(ab 5))) ak (fun _ _=>rfl))))))),fun ds M R hl hS=>?_⟩)
 obtain⟨p,l,known,rfl,hM,hP,hk,k⟩:=hS
 walk_at "rd"
 refine⟨p,l,8,rfl,hM,hP,by decide,by decide,fun v l1 h0 h1 hP1=>?_⟩
 walk_at "rd"
 refine⟨by omega,by omega,by rw[bL];exact sz3 (1+v).toNat (by omega),?_⟩
 refine u0 _ none (au M p (.lst l1)) l1 [] ai hP1 (fun c hc=>absurd hc (by simp)) (fun cs l2 hP2 hcs aU=>?_)
 have hlen':cs.length=(1+v).toNat:=by simpa[iE]using aU
 have hw:c9 (tx cs):=by
  unfold c9
  rw[eV]
  exact⟨by omega,by omega,hcs⟩
 rw[ay]
 refine⟨_,yX (by omega),sz3 1,_,if_pos Br,fun hz=>⟨hz,?_⟩⟩
 refine eD (fun _=>true) (DO cs) (fun Δ=>∃x,Δ=[none,none,none,some (.str (tx cs)),none,x]) _ _ _ (fun d hd Δ hΔ=>?_) ⟨none,rfl⟩ ?_
 ·obtain⟨x,rfl⟩:=hΔ
  obtain⟨c,hc,rfl⟩:∃c,c∈fq/\d=.str (tx [c]):=by
   rw[show L2.bj (Str.ofString "abcdefghijklmnopqrstuvwxyz")=fq.map (fun c=>D.str (tx [c]))from pE]at hd
   obtain⟨c,hc,e⟩:=List.mem_map.mp hd
   exact⟨c,hc,e.symm⟩
  refine⟨_,rfl,⟨_,rfl⟩,fun Q1 q=>q,fun _ Q2 q=>?_⟩
  walk_at "rd"
  have hs:=uf cs 7
  refine⟨_,if_pos (by rw[fY];exact sz3 _ (by omega)),?_⟩
  walk_at "rd"
  have hs':Txt.slice (tx cs) none (some 7)=tx (cs.take 7):=hs
  rw[hs']
  refine⟨_,if_pos (by rw[fY,fY];simp;exact sz3 _ (by omega)),q⟩
 ·have ev:(List.filter (fun _=>true) (L2.bj (Str.ofString "abcdefghijklmnopqrstuvwxyz"))).map (DO cs)=(fq.map fun c=>tx (cs.take 7++[c])).map D.str:=by
   rw[List.filter_eq_self.mpr (fun _ _=>rfl)]
   exact yb cs
  rw[List.nil_append,ev]
  have hl27:((fq.map fun c=>tx (cs.take 7++[c])).map D.str).length=26:=by simp[fq]
  refine⟨_,if_pos (by rw[hl27];exact sz3 _),_,rfl,fun hz2=>⟨hz2,?_⟩⟩
  have em:D.str (tx cs)::(fq.map fun c=>tx (cs.take 7++[c])).map D.str=(tx cs::fq.map fun c=>tx (cs.take 7++[c])).map D.str:=rfl
  rw[em]
  generalize hL:(tx cs::fq.map fun c=>tx (cs.take 7++[c]))=L
  have hLw:∀w∈L,c9 w:=fun w hw'=>by
   rw[<-hL]at hw'
   rcases List.mem_cons.mp hw' with rfl|hw'
   ·exact hw
   ·obtain⟨c,hc,rfl⟩:=List.mem_map.mp hw'
    have:=t7 hw (Ag hc)
    rwa [eV]at this
  have hLn:∃w∈L,w∉known:=by
   obtain⟨c,hc,hn⟩:=yG (w:=tx cs) hk
   rw[eV]at hn
   exact⟨_,by rw[<-hL];exact List.mem_cons_of_mem _ (List.mem_map.mpr ⟨c,hc,rfl⟩),hn⟩
  refine eD (fun d=>!((known.map D.str).any fun e=>eqD e d)) id (fun Δ=>∃x,Δ=[none,some (.lst (known.map D.str)),none,none,none,x]) _ _ _ (fun d hd Δ hΔ=>?_) ⟨none,rfl⟩ ?_
  ·obtain⟨x,rfl⟩:=hΔ
   obtain⟨w,hw',rfl⟩:=List.mem_map.mp hd
   refine⟨_,rfl,⟨_,rfl⟩,fun Q1 q=>?_,fun _ Q2 q=>?_⟩
   ·walk_at "rd"
    refine⟨_,if_pos ⟨rfl,fQ⟩,_,rfl,?_⟩
    simpa using q
   ·walk_at "rd"
    exact q
  ·rw[List.nil_append,List.map_id,List.filter_map]
   have ef:(List.filter ((fun d=>!((known.map D.str).any fun e=>eqD e d))∘D.str) L)=L.filter (fun w=>!decide (w∈known)):=by
    apply List.filter_congr
    intro w _
    show(!((known.map D.str).any fun e=>eqD e (.str w)))=_
    rw[eB]
   rw[ef]
   obtain⟨w0,h1',h2'⟩:=hLn
   cases hF:L.filter (fun w=>!decide (w∈known))with
   |nil =>
    have:w0∈L.filter (fun w=>!decide (w∈known)):=List.mem_filter.mpr ⟨h1',by simp[h2']⟩
    rw[hF]at this
    cases this
   |cons u us =>
    have hu:u∈L.filter (fun w=>!decide (w∈known)):=by rw[hF];exact List.mem_cons_self
    obtain⟨hu1,hu2⟩:=List.mem_filter.mp hu
    exact⟨_,C7,k u l2 (hLw u hu1) (by simpa using hu2) hP2⟩
end
section
variable{P:Program}{w:World}{K:PySem.W.Frag}{mg:Str->Option Value}{base:Heap}
theorem uU{M:DH}{p q:Addr}{o:HD}(h:p≠q):iP M (i5 M q) (au (i5 M q) p o)=au M p o:=by
 funext a
 unfold iP au i5
 by_cases h1:a=p
 ·subst h1;simp
 ·by_cases h2:a=q
  ·subst h2;simp[h1]
  ·simp only[h1,h2,if_false]
   cases M a<;>rfl
theorem pz{l:List D}(h:a7 l):lK l=true:=by
 obtain⟨a,b,c,rfl,_⟩:=h
 rfl
def gG:SpD:=fun ds M R=>∃(p:Addr) (l:List D) (n:Int),ds=[.ref p,.int n]/\M p=some (.lst l)/\a7 l/\0<=n/\n<=20/\(∀a k,M a=some k->a≠p->noC k=true) /\
 ∀(ws:List Str) l',(∀w∈ws,c9 w)->ws.Nodup->ws.length=n.toNat->a7 l'->R (.lst (ws.map .str)) (au M p (.lst l'))
theorem o8{p q:Addr}{E:fH}(hpq:p≠q):∀(ds:List D) (x:Option D) (n:Int) (M:DH) (l:List D) (ws:List Str),M q=none->a7 l->ws.Nodup->(∀w∈ws,c9 w)->ws.length+ds.length<=25->(∀a k,M a=some k->a≠p->noC k=true) ->
  (∀(x':Option D) (l':List D) (ws':List Str),a7 l'->ws'.Nodup->(∀w∈ws',c9 w)->ws'.length=ws.length+ds.length->E.nx [some (.ref p),some (.int n),some (.ref q),x'] (au (au M p (.lst l')) q (.lst (ws'.map .str)))) ->
  bQ (bf 3) (sx (Ax (bK 2) (qC 2 jH (cx (bK 0) (cx (bK 2) fu))))) E ds [some (.ref p),some (.int n),some (.ref q),x] (au (au M p (.lst l)) q (.lst (ws.map .str)))
 |[],x,n,M,l,ws,hq,hP,hn,hw,hl,hM,k=>by
  simp only[bQ]
  exact k x l ws hP hn hw (by simp)
 |d::ds,x,n,M,l,ws,hq,hP,hn,hw,hl,hM,k=>by
  simp only[bQ,bf]
  walk_at "rd"
  have aU:ws.length<=24:=by simp at hl;omega
  refine⟨D.ref p,rfl,D.ref q,rfl,i5 (au (au M p (.lst l)) q (.lst (ws.map .str))) q,[.ref p,.lst (ws.map .str)],_,LeM.del,.cons (.inl rfl) (.cons (.inr ⟨q,_,rfl,ai,dY,rfl⟩) .nil),rfl,⟨p,l,ws,rfl,?_,hP,by omega,fun w l' h1 h2 h3=>?_⟩,fun d' M3 hR=>hR⟩
  ·rw[lV hpq,aw hpq,ai]
  ·refine⟨rfl,fun a kk ha=>?_,?_⟩
   ·by_cases hap:a=p
    ·subst hap
     rw[ai]at ha;cases ha
     exact pz h3
    ·rw[aw hap]at ha
     by_cases haq:a=q
     ·subst haq;rw[dY]at ha;cases ha
     ·rw[lV haq,aw haq,aw hap]at ha
      exact hM a kk ha hap
   ·rw[uU hpq]
    have e1:au (au (au M p (.lst l)) q (.lst (ws.map .str))) p (.lst l') q=some (.lst (ws.map .str)):=by rw[aw (Ne.symm hpq),ai]
    refine⟨_,e1,by rw[List.length_map];exact Nat.lt_of_lt_of_le (by omega:ws.length<1000) (sz3 1000),?_⟩
    have e2:au (au (au (au M p (.lst l)) q (.lst (ws.map .str))) p (.lst l')) q (.lst (ws.map .str++[.str w]))=au (au M p (.lst l')) q (.lst ((ws++[w]).map .str)):=by
     funext a
     unfold au
     by_cases h1':a=q
     ·simp[h1']
     ·by_cases h2':a=p
      ·simp[h1',h2']
      ·simp[h1',h2']
    rw[e2]
    refine o8 hpq ds (some d) n M l' (ws++[w]) hq h3 ?_ (fun u hu=>?_) (by simp at hl ⊢;omega) hM (fun x' l2 ws' hP' hn' hw' hl'=>k x' l2 ws' hP' hn' hw' (by simp at hl' ⊢;omega))
    ·rw[List.nodup_append]
     refine⟨hn,by simp,fun a ha b hb=>?_⟩
     have:b=w:=by simpa using hb
     subst this
     rintro rfl
     exact h2 ha
    ·rcases List.mem_append.mp hu with h|h
     ·exact hw u h
     ·have:u=w:=by simpa using h
      subst this;exact h1
theorem lP{f:Addr}{fd:FuncData}(F:Fun K "_law_some_words" "_law_some_words" eP f fd) (T:Txt K mg) (g_l_word:FnD P w K mg base "_law_word" 2 2 jH):aX P w K mg base CX0 3 f fd ["_law_pool_here","_law_amount"] (spD K 2 gG):=by
 have nd:=gw.nd
 refine F.okQ rfl gw (fun cdv A outer s H E hr=>⟨_,(ah (aK (i:=2) nd rfl (Or.inl rfl) (jm ag))
   (ah (bO PassesOwn.never rfl (bI rfl T.b_range (ae (ab 1) ag)) (aG (i:=3) nd rfl (Or.inl rfl)) (aq (ku (px (ab 2) (qcL g_l_word (hr.mono (by decide)) rfl (ae (ab 0) (ae (ab 2) ag)))))))
   (aq (yL (ab 2))))),fun ds M R hl hS=>?_⟩)
 obtain⟨p,l,n,rfl,hM,hP,h0,h1,hno,k⟩:=hS
 walk_at "rd"
 refine⟨sz3 0,fun q hq=>?_⟩
 have hpq:p≠q:=by rintro rfl;rw[hM]at hq;cases hq
 refine⟨by omega,by omega,?_⟩
 have e:au M q (.lst [])=au (au M p (.lst l)) q (.lst (([]:List Str).map .str)):=by rw[o4 hM];rfl
 rw[e]
 refine o8 hpq _ none n M l [] hq hP List.nodup_nil (fun w hw=>absurd hw (by simp)) (by rw[bL];simp;omega) hno (fun x' l' ws' hP' hn' hw' hl'=>?_)
 walk_at "rd"
 rw[jM (by rw[aw (Ne.symm hpq)];exact hq)]
 exact k ws' l' hw' hn' (by rw[bL]at hl';simpa using hl') hP'
end
section
variable{P:Program}{w:World}{K:PySem.W.Frag}{mg:Str->Option Value}{base:Heap}
def kO:SpD:=fun ds M R=>∃(p:Addr) (l:List D) (aA:List Str) (most:Int),ds=[.ref p,.lst (aA.map .str),.int most]/\M p=some (.lst l)/\a7 l/\aA≠[]/\aA.length<=1000/\0<=most/\most<=500 /\
 ∀(ord:List (Str×Str)) l',ord.length<=most.toNat->(∀x∈ord,x.1∈aA/\x.2∈aA)->a7 l'->R (.tup (ord.map aF)) (au M p (.lst l'))
abbrev CI:TEd:=dOp ixD (bK 1) (gn 2 cU (cx (bK 0) (cx (dCB (kT lz) (cx (bK 1) fu)) fu)))
theorem pP{p q:Addr}{E:fH}(hpq:p≠q) (aA:List Str) (most:Int) (hm:aA≠[]) (hml:aA.length<=1000):∀(ds:List D) (x4 x5:Option D) (M:DH) (l:List D) (ord:List (Str×Str)),M q=none->a7 l->(∀x∈ord,x.1∈aA/\x.2∈aA)->ord.length+ds.length<=1000 ->
  (∀(y4 y5:Option D) (l':List D) (ord':List (Str×Str)),a7 l'->(∀x∈ord',x.1∈aA/\x.2∈aA)->ord'.length=ord.length+ds.length->E.nx [some (.ref p),some (.lst (aA.map .str)),some (.int most),some (.ref q),y4,y5] (au (au M p (.lst l')) q (.lst (ord'.map aF)))) ->
  bQ (bf 4) (tm (oG 5 CI) (sx (Ax (bK 3) (uv (cx (bK 5) (cx CI fu)))))) E ds [some (.ref p),some (.lst (aA.map .str)),some (.int most),some (.ref q),x4,x5] (au (au M p (.lst l)) q (.lst (ord.map aF)))
 |[],x4,x5,M,l,ord,hq,hP,ho,hl,k=>by
  simp only[bQ]
  exact k x4 x5 l ord hP ho (by simp)
 |d::ds,x4,x5,M,l,ord,hq,hP,ho,hl,k=>by
  have aU:(0:Int)<((aA.map D.str).length:Int):=by
   rw[List.length_map]
   have:=List.length_pos_iff.mpr hm
   omega
  have hlen2:((aA.map D.str).length:Int)<1073741824:=by
   rw[List.length_map];omega
  have hol:(ord.map aF).length<sizeLine:=by
   rw[List.length_map]
   simp only[List.length_cons]at hl
   exact Nat.lt_of_lt_of_le (by omega:ord.length<1000) (sz3 1000)
  simp only[bQ,bf]
  walk_at "rd"
  refine⟨p,l,_,rfl,by rw[aw hpq,ai],hP,aU,hlen2,fun v l1 h0 h1 hP1=>?_⟩
  rw[List.length_map]at h1
  obtain⟨m,hm1,e1⟩:=jU h0 h1
  refine⟨_,e1,?_⟩
  have em:au (au (au M p (.lst l)) q (.lst (ord.map aF))) p (.lst l1)=au (au M p (.lst l1)) q (.lst (ord.map aF)):=by
   rw[<-b7 hpq,ay]
  rw[em]
  refine⟨_,ai,?_⟩
  refine⟨p,l1,_,rfl,by rw[aw hpq,ai],hP1,aU,hlen2,fun v2 l2 h2 h3 hP2=>?_⟩
  rw[List.length_map]at h3
  obtain⟨m2,hm2,e2⟩:=jU h2 h3
  refine⟨_,e2,sz3 2,?_⟩
  have em2:au (au (au M p (.lst l1)) q (.lst (ord.map aF))) p (.lst l2)=au (au M p (.lst l2)) q (.lst (ord.map aF)):=by
   rw[<-b7 hpq,ay]
  rw[em2]
  refine⟨_,ai,hol,?_⟩
  rw[ay]
  have ea:ord.map aF++[D.tup [.str m,.str m2]]=(ord++[(m,m2)]).map aF:=by simp[aF]
  rw[ea]
  refine pP hpq aA most hm hml ds (some d) (some (.str m)) M l2 (ord++[(m,m2)]) hq hP2 (fun x hx=>?_) (by simp at hl ⊢;omega) (fun y4 y5 l' ord' hP' ho' hl'=>k y4 y5 l' ord' hP' ho' (by simp at hl' ⊢;omega))
  rcases List.mem_append.mp hx with h|h
  ·exact ho x h
  ·have:x=(m,m2):=by simpa using h
   subst this
   exact⟨hm1,hm2⟩
theorem tW{f:Addr}{fd:FuncData}(F:Fun K "_law_order" "_law_order" ke f fd) (T:Txt K mg) (g_l_draw:FnD P w K mg base "_law_draw" 1 2 cU):aX P w K mg base CX0 2 f fd ["_law_pool_here","_law_marks","_law_most"] (spD K 3 kO):=by
 have nd:=me.nd
 refine F.okQ rfl me (fun cdv A outer s H E hr=>⟨_,(ah (aK (i:=3) nd rfl (Or.inl rfl) (jm ag))
   (ah (bO PassesOwn.never rfl (bI rfl T.b_range (ae (qd g_l_draw hr (ae (ab 0) (ae (aP aM (ab 2) ak) ag))) ag)) (aG (i:=4) nd rfl (Or.inl rfl)) (ah (aK (i:=5) nd rfl (Or.inl rfl) (bc ba (ab 1) (qd g_l_draw hr (ae (ab 0) (ae (aY cZ rfl T.b_len (by kernel_rfl) (ae (ab 1) ag)) ag))) (fun _ _=>rfl)))
   (aq (ku (px (ab 3) (bH (ae (ab 5) (ae (bc ba (ab 1) (qd g_l_draw hr (ae (ab 0) (ae (aY cZ rfl T.b_len (by kernel_rfl) (ae (ab 1) ag)) ag))) (fun _ _=>rfl)) ag))))))))
   (aq (nW (eK iA rfl T.b_tuple (by kernel_rfl) (ae (ab 3) ag)))))),fun ds M R hl hS=>?_⟩)
 obtain⟨p,l,aA,most,rfl,hM,hP,hm,hml,h0,h1,k⟩:=hS
 walk_at "rd"
 refine⟨sz3 0,fun q hq=>?_⟩
 have hpq:p≠q:=by rintro rfl;rw[hM]at hq;cases hq
 refine⟨p,l,_,rfl,by rw[aw hpq];exact hM,hP,by omega,by omega,fun v l1 h2 h3 hP1=>?_⟩
 refine⟨v,rfl,by omega,by omega,?_⟩
 have e:au (au M q (.lst [])) p (.lst l1)=au (au M p (.lst l1)) q (.lst (([]:List (Str×Str)).map aF)):=by
  rw[b7 hpq];rfl
 rw[e]
 refine pP hpq aA most hm hml _ none none M l1 [] hq hP1 (fun x hx=>absurd hx (by simp)) (by rw[bL];simp;omega) (fun y4 y5 l' ord' hP' ho' hl'=>?_)
 walk_at "rd"
 refine⟨_,pY (by rw[aw (Ne.symm hpq)];exact hq),k ord' l' (by rw[bL]at hl';simp at hl';omega) ho' hP'⟩
end
section
variable{P:Program}{w:World}{K:PySem.W.Frag}{mg:Str->Option Value}{base:Heap}
def gm(ord:List (Str×Str)) (F:List Str):List Str:=F++(ord.filter fun p=>decide (p.1∈F)&&!decide (p.2∈F)).map (·.2)
def gJ(ord:List (Str×Str)) (F:List Str):Prop:=∀p∈ord,p.1∈F->p.2∈F
def i3(ord:List (Str×Str)) (F:List Str):Nat:=(ord.filter fun p=>decide (p.2∈F)).length
theorem pe{ord:List (Str×Str)}{F:List Str}{x:Str}(h:x∈F):x∈gm ord F:=List.mem_append_left _ h
theorem xl{ord:List (Str×Str)}{F:List Str}:(gm ord F).length<=F.length+ord.length:=by
 unfold gm
 rw[List.length_append,List.length_map]
 have:=List.length_filter_le (fun p:Str×Str=>decide (p.1∈F)&&!decide (p.2∈F)) ord
 omega
theorem rh{ord:List (Str×Str)}{F:List Str}(h:gJ ord F):gm ord F=F:=by
 unfold gm
 have:(ord.filter fun p=>decide (p.1∈F)&&!decide (p.2∈F))=[]:=by
  rw[List.filter_eq_nil_iff]
  intro p hp
  by_cases h1:p.1∈F
  ·simp[h1,h p hp h1]
  ·simp[h1]
 rw[this];simp
theorem pL{F G:List Str}(h:∀x∈F,x∈G):∀{ord:List (Str×Str)},i3 ord F<=i3 ord G
 |[]=>Nat.le_refl _
 |p::ord=>by
  have ih:=pL h (ord:=ord)
  unfold i3 at ih ⊢
  by_cases h1:p.2∈F
  ·simp[List.filter_cons,h1,h _ h1];exact ih
  ·by_cases h2:p.2∈G
   ·simp[List.filter_cons,h1,h2];omega
   ·simp[List.filter_cons,h1,h2];exact ih
theorem vA{F G:List Str}(h:∀x∈F,x∈G) {q:Str×Str}(h1:q.2∉F) (h2:q.2∈G):∀{ord:List (Str×Str)},q∈ord->i3 ord F<i3 ord G
 |p::ord,hm=>by
  have im:=pL h (ord:=ord)
  rcases List.mem_cons.mp hm with e|hm
  ·subst e
   unfold i3 at im ⊢
   simp[List.filter_cons,h1,h2];omega
  ·have ih:=vA h h1 h2 hm
   unfold i3 at im ih ⊢
   by_cases h3:p.2∈F
   ·simp[List.filter_cons,h3,h _ h3];exact ih
   ·by_cases h4:p.2∈G
    ·simp[List.filter_cons,h3,h4];omega
    ·simp[List.filter_cons,h3,h4];exact ih
theorem Bi{ord:List (Str×Str)}{F:List Str}:i3 ord F<=ord.length:=List.length_filter_le _ _
theorem sI{F:List Str}:∀{ord:List (Str×Str)},ord.length<=i3 ord F->∀p∈ord,p.2∈F
 |p::ord,h,q,hq=>by
  have hl:=Bi (ord:=ord) (F:=F)
  unfold i3 at h hl
  by_cases h3:p.2∈F
  ·rcases List.mem_cons.mp hq with e|hq
   ·subst e;exact h3
   ·refine sI (ord:=ord) ?_ q hq
    unfold i3
    simp[List.filter_cons,h3]at h
    exact h
  ·simp[List.filter_cons,h3]at h
   omega
theorem wY{ord:List (Str×Str)}{F:List Str}{k:Nat}(h:gJ ord F∨k<=i3 ord F):gJ ord (gm ord F)∨k+1<=i3 ord (gm ord F):=by
 by_cases hc:gJ ord F
 ·rw[rh hc];exact .inl hc
 ·have hk:=h.resolve_left hc
  right
  have:∃p∈ord,p.1∈F/\p.2∉F:=Classical.byContradiction fun hn=>hc fun p hp h1=>Classical.byContradiction fun h2=>hn ⟨p,hp,h1,h2⟩
  obtain⟨p,hp,h1,h2⟩:=this
  have hin:p.2∈gm ord F:=List.mem_append_right _ (List.mem_map.mpr ⟨p,List.mem_filter.mpr ⟨hp,by simp[h1,h2]⟩,rfl⟩)
  have:=vA (fun x hx=>pe (ord:=ord) hx) h2 hin hp
  omega
theorem wj{ord:List (Str×Str)}{F:List Str}(h:gJ ord F∨ord.length<=i3 ord F):gJ ord F:=by
 rcases h with h|h
 ·exact h
 ·exact fun p hp _=>sI h p hp
theorem rX{ord:List (Str×Str)}{F:List Str}{a:Str}(h:∀x∈F,cS ord a x):∀x∈gm ord F,cS ord a x:=fun x hx=>by
 rcases List.mem_append.mp hx with hx|hx
 ·exact h x hx
 ·obtain⟨p,hp,rfl⟩:=List.mem_map.mp hx
  obtain⟨hp,hq⟩:=List.mem_filter.mp hp
  simp at hq
  exact cS.step (h _ hq.1) hp
def pb(F:List Str) (d:D):Bool:=match d with|.tup [.str x,.str y]=>decide (x∈F)&&!decide (y∈F)|_=>false
def py(d:D):D:=match d with|.tup [.str _,.str y]=>.str y|_=>.non
theorem Eu{F:List Str}{ord:List (Str×Str)}:((ord.map aF).filter (pb F)).map py=((ord.filter fun p=>decide (p.1∈F)&&!decide (p.2∈F)).map (·.2)).map D.str:=by
 rw[List.filter_map,List.map_map,List.map_map]
 rfl
def kX:SpD:=eU
theorem qi{f:Addr}{fd:FuncData}(F:Fun K "_law_at_most" "_law_at_most" ff f fd) (T:Txt K mg) :aX P w K mg base CX0 1 f fd ["_law_order_here","_law_one","_law_other_here"] (spD K 3 kX):=by
 have nd:=jP.nd
 refine F.okQ rfl jP (fun cdv A outer s H E hr=>⟨_,(ah (aK (i:=3) nd rfl (Or.inr rfl) (iV (ae (ab 1) ag)))
   (ah (bO PassesOwn.never rfl (bI rfl T.b_range (ae (aY cZ rfl T.b_len (by kernel_rfl) (ae (ab 0) ag)) ag)) (aG (i:=4) nd rfl (Or.inl rfl)) (aq (aK (i:=3) nd rfl (Or.inr rfl) (aP aM (ab 3) (j6 (ms:=[false,false,false,true,false]) (ar:=["_law_pair"]) (aW rfl (show bt (aj ff) gR _ _=true from by decide +kernel)) rfl (bz (ab 0)) (aN (i:=5) (show(gR++_).Nodup from by decide +kernel) rfl rfl) (fun _ _ _ _=>(mR (ug (kz (aR pA (bc ba (ab 5) ak (fun _ _=>rfl)) (ab 3) rfl) (jZ (aR nA (bc ba (ab 5) ak (fun _ _=>rfl)) (ab 3) rfl)))))) (fun _ _ _ _=>(bc ba (ab 5) ak (fun _ _=>rfl))))))))
   (aq (aO (mI pA (ab 2) (ab 3) rfl))))),fun ds M R hl hS=>?_⟩)
 obtain⟨ord,a,b,rfl,ho,k⟩:=hS
 walk_at "rd"
 rw[List.length_map]
 refine⟨sz3 1,by omega,by omega,?_⟩
 refine aE (fun i Δ M'=>∃(F:List Str) (x:Option D),Δ=[some (D.tup (List.map aF ord)),some (D.str a),some (D.str b),some (D.lst (F.map D.str)),x]/\M'=M/\F.length<=1+i*500/\a∈F/\(∀x∈F,cS ord a x)/\(gJ ord F∨i<=i3 ord F))
  ⟨[a],none,rfl,rfl,by simp,by simp,fun x hx=>by rw[List.mem_singleton.mp hx];exact cS.refl,.inr (Nat.zero_le _)⟩ ?_ ?_
 ·rintro i d Δ M' X hd ⟨F,x,rfl,rfl,hl,ha,hR,hC⟩ k'
  obtain⟨hi,rfl⟩:=cw hd
  simp only[bf]
  walk_at "rd"
  intro hz
  refine⟨hz,eD (pb F) py (fun Δ=>∃x,Δ=[none,none,none,some (D.lst (F.map D.str)),none,x]) _ _ _ (fun d hd Δ hΔ=>?_) ⟨none,rfl⟩ ?_⟩
  ·obtain⟨x,rfl⟩:=hΔ
   obtain⟨⟨u,v⟩,hp,rfl⟩:=List.mem_map.mp hd
   refine⟨_,rfl,⟨_,rfl⟩,fun Q1 q=>?_,fun _ Q2 q=>?_⟩
   ·simp only[aF]
    walk_at "rd"
    refine⟨_,if_pos ⟨rfl,fQ⟩,_,rfl,?_⟩
    rw[eB]
    simp only[aF,pb]at q
    refine i9 (fun h=>?_) (fun h=>?_)
    ·simp only[Bool.false_xor]at h
     refine⟨_,if_pos ⟨rfl,fQ⟩,_,rfl,?_⟩
     rw[eB]
     simpa[h]using q
    ·simp only[Bool.false_xor]at h
     have h':decide (u∈F)=false:=by simpa using h
     simpa[h']using q
   ·simp only[aF]
    walk_at "rd"
    exact q
  ·rw[List.nil_append,Eu]
   have hle:=xl (ord:=ord) (F:=F)
   have hfl:(gm ord F).length=F.length+(List.filter (fun p=>decide (p.1∈F)&&!decide (p.2∈F)) ord).length:=by unfold gm;simp
   have hi':i<ord.length:=by simpa using hi
   refine⟨_,if_pos (by simp only[List.length_map];rw[<-hfl];refine szB _ ?_;have:i*500<=500*500:=Nat.mul_le_mul_right _ (by omega);omega),?_⟩
   refine k' _ _ ⟨gm ord F,some (D.int (0+(i:Int))),by rw[<-List.map_append];rfl,rfl,?_,pe ha,rX hR,wY hC⟩
   ·rw[Nat.add_mul];omega
 ·rintro Δ M' ⟨F,x,rfl,rfl,hl,ha,hR,hC⟩
  have hC':gJ ord F:=wj (by rw[bL]at hC;simpa using hC)
  walk_at "rd"
  refine⟨_,if_pos ⟨rfl,fQ⟩,?_⟩
  rw[eB]
  have e:(false ^^ decide (b∈F))=rB ord a b:=by
   rw[Bool.false_xor,Bool.eq_iff_iff,qF,decide_eq_true_eq]
   exact⟨fun h=>hR b h,fun h=>rO ha hC' h⟩
  rw[e]
  exact k
end
section
variable{P:Program}{w:World}{K:PySem.W.Frag}{mg:Str->Option Value}{base:Heap}
def ll:SpD:=fun ds M R=>∃(ord:List (Str×Str)) (x y:Str×Int),ds=[.tup (ord.map aF),aL x,aL y]/\ord.length<=500/\R (.bl (x.2+1==y.2&&lB ord x.2 x.1 y.1)) M
theorem rj{f:Addr}{fd:FuncData}(F:Fun K "_law_cancels" "_law_cancels" g8 f fd) (T:Txt K mg) (g_l_at_most:FnD P w K mg base "_law_at_most" 1 3 kX):aX P w K mg base CX0 2 f fd ["_law_order_here","_law_one","_law_other_here"] (spD K 3 ll):=by
 have nd:=jK.nd
 refine F.okQ rfl jK (fun cdv A outer s H E hr=>⟨_,(ah (cz (aR (Az hr.units) (bc ba (ab 2) ak (fun _ _=>rfl)) (aP aM (bc ba (ab 1) ak (fun _ _=>rfl)) ak) nbh) (aq (aO wD)) bD)
   (ah (cz (aR (lF hr.units) (aP jE (bc ba (ab 1) ak (fun _ _=>rfl)) ak) ak nbh) (aq (aO (qd g_l_at_most hr (ae (ab 0) (ae (bc ba (ab 1) ak (fun _ _=>rfl)) (ae (bc ba (ab 2) ak (fun _ _=>rfl)) ag)))))) bD)
   (aq (aO (qd g_l_at_most hr (ae (ab 0) (ae (bc ba (ab 2) ak (fun _ _=>rfl)) (ae (bc ba (ab 1) ak (fun _ _=>rfl)) ag)))))))),fun ds M R hl hS=>?_⟩)
 obtain⟨ord,x,y,rfl,ho,k⟩:=hS
 simp only[aL]
 walk_at "rd"
 by_cases h:y.2=x.2+1
 ·rw[if_neg (by simp[h])]
  have e0:(x.2+1==y.2&&lB ord x.2 x.1 y.1)=lB ord x.2 x.1 y.1:=by simp[h]
  rw[e0]at k
  refine i9 (fun h2=>?_) (fun h2=>?_)
  ·rw[vN (beq_iff_eq.mp h2)]at k
   exact⟨ord,_,_,rfl,ho,k⟩
  ·rw[zA (fun q=>h2 (by rw[q];rfl))]at k
   exact⟨ord,_,_,rfl,ho,k⟩
 ·rw[if_pos (by simp[h])]
  have e0:(x.2+1==y.2&&lB ord x.2 x.1 y.1)=false:=by
   have:(x.2+1==y.2)=false:=by simpa using fun q:x.2+1=y.2=>h q.symm
   simp only[this,Bool.false_and]
  rw[e0]at k;exact k
theorem AI{xs:List D}{i:Nat}:L2.cG xs (some (i:Int)) (some ((i:Int)+1))=(xs.drop i).take 1:=by
 have h:((i:Int)+1)=((i+1:Nat):Int):=by omega
 rw[h]
 unfold L2.cG
 rw[HT.sIx_nat,HT.sIx_nat]
 by_cases h:i+1<=xs.length
 ·rw[Nat.min_eq_left h,Nat.min_eq_left (by omega),Nat.add_sub_cancel_left]
 ·rw[Nat.min_eq_right (by omega)]
  have e1:xs.drop (min i xs.length)=[]:=List.drop_eq_nil_of_le (by omega)
  have e2:xs.drop i=[]:=List.drop_eq_nil_of_le (by omega)
  rw[e1,e2,List.take_nil,List.take_nil]
def sy:SpD:=fun ds M R=>∃(ns:List Int) (i:Nat),ds=[.scr (ns.map .int),.int (i:Int)]/\i<=1/\ns.length<=1000/\R (.int (ns.getD i 0)) M
theorem wO{f:Addr}{fd:FuncData}(F:Fun K "_law_cell" "_law_cell" nU f fd) (T:Txt K mg) :aX P w K mg base CX0 1 f fd ["_law_script","_law_place"] (spD K 2 sy):=by
 have nd:=oR.nd
 refine F.okQ rfl oR (fun cdv A outer s H E hr=>⟨_,(aq (aO (bc ba (aP aM (cE (ab 0) (cW (ab 1)) (cW (aP aM (ab 1) ak))) (iV (ae ak ag))) ak (fun _ _=>rfl)))),fun ds M R hl hS=>?_⟩)
 obtain⟨ns,i,rfl,hi,hn,k⟩:=hS
 walk_at "rd"
 have hc:=AI (xs:=ns.map D.int) (i:=i)
 rw[hc]
 refine⟨by rw[sizeLine_eq];decide,_,if_pos (by rw[List.length_take,sizeLine_eq];omega),.int (ns.getD i 0),?_,k⟩
 show atI _ ((0:Nat):Int)=_
 refine bS ?_
 rw[<-List.map_drop,<-List.map_take,List.getD_eq_getElem?_getD]
 cases h:ns[i]? with
 |none =>
  have:ns.drop i=[]:=List.drop_eq_nil_of_le (List.getElem?_eq_none_iff.mp h)
  rw[this];rfl
 |some v =>
  have hl:i<ns.length:=(List.getElem?_eq_some_iff.mp h).1
  rw[List.drop_eq_getElem_cons hl]
  have:ns[i]=v:=(List.getElem?_eq_some_iff.mp h).2
  simp[this]
def sm:SpD:=fun ds M R=>∃(ws:List Str) (n:Nat),ds=[.lst (ws.map .str),.int (n:Int)]/\ws.length<=8/\n<=4/\R (.lst ((aI (aZ ws) n).map wsD)) M
theorem xf{f:Addr}{fd:FuncData}(F:Fun K "_law_rows" "_law_rows" jL f fd) (T:Txt K mg) :aX P w K mg base CX0 1 f fd ["_law_words","_law_length"] (spD K 2 sm):=by
 have nd:=oV.nd
 refine F.okQ rfl oV (fun cdv A outer s H E hr=>⟨_,(ah (aK (i:=2) nd rfl (Or.inl rfl) (iV (ae (bH ag) ag)))
   (ah (bO PassesOwn.never rfl (bI rfl T.b_range (ae (ab 1) ag)) (aG (i:=3) nd rfl (Or.inl rfl)) (ah (aK (i:=4) nd rfl (Or.inl rfl) (iV ag))
   (ah (bO PassesOwn.never rfl (bz (ab 2)) (aG (i:=5) nd rfl (Or.inr rfl)) (aq (aK (i:=4) nd rfl (Or.inl rfl) (aP aM (ab 4) (j6 (ms:=[false,false,false,false,false,true]) (ar:=["_law_word_here"]) (aW rfl (show bt (aj jL) mN _ _=true from by decide +kernel)) rfl (bz (aY BV rfl T.b_sorted (by kernel_rfl) (ae (ab 0) ag))) (aN (i:=6) (show(mN++_).Nodup from by decide +kernel) rfl rfl) (fun _ _ _ _=>cC) (fun _ _ _ _=>(aP aM (ab 5) (bH (ae (ab 6) ag)))))))))
   (aq (aK (i:=2) nd rfl (Or.inl rfl) (ab 4))))))
   (aq (aO (ab 2))))),fun ds M R hl hS=>?_⟩)
 obtain⟨ws,n,rfl,hw,hn,k⟩:=hS
 walk_at "rd"
 have hx:(aZ ws).length<=8:=by rw[(di _).length_eq];exact hw
 refine⟨Nat.zero_le _,by rw[sizeLine_eq];decide,by omega,by omega,?_⟩
 rw[Int.toNat_natCast]
 refine aE (fun i Δ M'=>∃x3 x4 x5,Δ=[some (D.lst (ws.map D.str)),some (D.int (n:Int)),some (D.lst ((aI (aZ ws) i).map wsD)),x3,x4,x5]/\M'=M) ⟨_,_,_,rfl,rfl⟩ ?_ ?_
 ·rintro i d Δ M' X hd ⟨x3,x4,x5,rfl,rfl⟩ k'
  obtain⟨hi,rfl⟩:=cw hd
  have h8:8 ^ (i+1)<=4096:=by
   have:i+1<=4:=by omega
   exact Nat.le_trans (Nat.pow_le_pow_right (by decide) this) (by decide)
  have aU:=mZ hx (i+1)
  refine⟨_,rfl,?_⟩
  simp only[tm,oG,BP,fu,wW,j5,bK]
  refine⟨Nat.zero_le _,_,rfl,_,rfl,fun _=>?_⟩
  refine aE (fun j Δ M1=>∃x5,Δ=[some (D.lst (ws.map D.str)),some (D.int (n:Int)),some (D.lst ((aI (aZ ws) i).map wsD)),some (D.int (0+(i:Int))),some (D.lst ((((aI (aZ ws) i).take j).flatMap fun r=>(aZ ws).map fun x=>r++[x]).map wsD)),x5]/\M1=M') ⟨_,rfl,rfl⟩ ?_ ?_
  ·rintro j d Δ M1 X2 hd2 ⟨y5,rfl,rfl⟩ k2
   obtain⟨r,hr,rfl⟩:=cO hd2
   have hrm:=List.mem_of_getElem? hr
   refine⟨_,rfl,?_⟩
   simp only[dOp,dLc,dCB,cx,bK,fu]
   refine⟨_,rfl,_,rfl,_,Cr (by omega),_,rfl,fun _=>⟨by rw[List.length_map,sizeLine_eq];omega,?_⟩⟩
   refine bw D.str (fun _=>true) (fun x=>wsD (r++[x])) (fun Δ=>∃x,Δ=[none,none,none,none,none,some (wsD r),x]) _ _ _ ?_ ⟨_,rfl⟩ ?_
   ·rintro x hx' Δ ⟨b,rfl⟩
    refine⟨_,rfl,⟨_,rfl⟩,fun Q1 q=>q,fun _ Q2 q=>?_⟩
    have hr':r.length<=4:=by rw[fD hrm];omega
    refine⟨_,rfl,_,rfl,by simp only[List.length_cons,List.length_nil];rw[sizeLine_eq];decide,wsD (r++[x]),?_,q⟩
    show iG (.tup (r.map D.str)) (.tup [D.str x])=_
    rw[dQ,if_pos (by rw[List.length_map,sizeLine_eq];simp;omega)]
    simp[wsD]
   ·rw[List.filter_eq_self.mpr (fun _ _=>rfl),List.nil_append]
    have hsp:((aI (aZ ws) i).take (j+1)).flatMap (fun r=>(aZ ws).map fun x=>r++[x])=(((aI (aZ ws) i).take j).flatMap fun r=>(aZ ws).map fun x=>r++[x])++(aZ ws).map fun x=>r++[x]:=by
     rw[List.take_add_one,hr,List.flatMap_append];simp
    have hle:(((aI (aZ ws) i).take (j+1)).flatMap fun r=>(aZ ws).map fun x=>r++[x]).length<=(aI (aZ ws) (i+1)).length:=by
     have e:=congrArg (fun l=>(l.flatMap fun r=>(aZ ws).map fun x=>r++[x]).length) (List.take_append_drop (j+1) (aI (aZ ws) i))
     simp only[List.flatMap_append,List.length_append]at e
     show _<=((aI (aZ ws) i).flatMap _).length
     omega
    rw[hsp,List.length_append,List.length_map]at hle
    refine⟨_,if_pos (show List.length _+List.length _<=sizeLine by rw[List.length_map,List.length_map,sizeLine_eq];omega),k2 _ _ ⟨some (wsD r),?_,rfl⟩⟩
    rw[hsp,List.map_append,List.map_map]
    rfl
  ·rintro Δ M1 ⟨y5,rfl,rfl⟩
   rw[List.length_map,List.take_length]
   exact⟨_,rfl,k' _ _ ⟨_,_,_,rfl,rfl⟩⟩
 ·rintro Δ M' ⟨x3,x4,x5,rfl,rfl⟩
  rw[show(iE 0 n).length=n by simp[iE]]
  walk_at "rd"
  exact k
end
section
variable{P:Program}{w:World}{K:PySem.W.Frag}{mg:Str->Option Value}{base:Heap}
/-! ### how many drawings a row has -/
section
variable{σ:Type}
def kl:List σ->List (List σ×σ×List σ)
 |[]=>[]
 |y::ys=>([],y,ys)::(kl ys).map fun c=>(y::c.1,c.2.1,c.2.2)
theorem jW{xs:List σ}:∀{c:List σ×σ×List σ},c∈kl xs->c.1.length+c.2.2.length+1=xs.length:=by
 induction xs with
 |nil=>intro c h;cases h
 |cons y ys ih =>
  intro c h
  rcases List.mem_cons.mp h with rfl|h
  ·simp
  ·obtain⟨d,hd,rfl⟩:=List.mem_map.mp h
   have:=ih hd
   simp;omega
def Wf(R:σ->σ->Bool):Nat->List σ->Nat
 |_,[]=>1
 |0,_::_=>0
 |k+1,x::xs=>((kl xs).map fun c=>if R x c.2.1 then Wf R k c.1*Wf R k c.2.2 else 0).sum
def W(R:σ->σ->Bool) (xs:List σ):Nat:=Wf R xs.length xs
theorem C8{R:σ->σ->Bool}:∀{k:Nat}{xs:List σ},xs.length<=k->Wf R k xs=W R xs:=by
 have key:∀(n k j:Nat) (xs:List σ),xs.length<=n->xs.length<=k->xs.length<=j->Wf R k xs=Wf R j xs:=by
  intro n
  induction n with
  |zero =>
   intro k j xs h _ _
   have:xs=[]:=List.eq_nil_of_length_eq_zero (by omega)
   subst this
   simp[Wf]
  |succ n ih =>
   intro k j xs h hk hj
   cases xs with
   |nil=>simp[Wf]
   |cons x xs =>
    simp only[List.length_cons]at h hk hj
    obtain⟨k,rfl⟩:∃m,k=m+1:=⟨k-1,by omega⟩
    obtain⟨j,rfl⟩:∃m,j=m+1:=⟨j-1,by omega⟩
    simp only[Wf]
    congr 1
    apply List.map_congr_left
    intro c hc
    have:=jW hc
    rw[ih k j c.1 (by omega) (by omega) (by omega),ih k j c.2.2 (by omega) (by omega) (by omega)]
 intro k xs h
 exact key k k xs.length xs h h (Nat.le_refl _)
theorem tO{R:σ->σ->Bool}:W R []=1:=by simp[W,Wf]
theorem qy{R:σ->σ->Bool}{x:σ}{xs:List σ}:W R (x::xs)=((kl xs).map fun c=>if R x c.2.1 then W R c.1*W R c.2.2 else 0).sum:=by
 show Wf R (xs.length+1) (x::xs)=_
 simp only[Wf]
 congr 1
 apply List.map_congr_left
 intro c hc
 have:=jW hc
 rw[C8 (by omega),C8 (by omega)]
theorem sv{α:Type}{f:α->Nat}{m:Nat}:∀{l:List α},(l.map f).sum*m=(l.map fun x=>f x*m).sum
 |[]=>by simp
 |x::l=>by simp only[List.map_cons,List.sum_cons,Nat.add_mul,sv (l:=l)]
theorem se{α:Type}{f:α->Nat}{m:Nat}:∀{l:List α},m*(l.map f).sum=(l.map fun x=>m*f x).sum
 |[]=>by simp
 |x::l=>by simp only[List.map_cons,List.sum_cons,Nat.mul_add,se (l:=l)]
theorem lX{α:Type}{f g:α->Nat}:∀{l:List α},(l.map fun x=>f x+g x).sum=(l.map f).sum+(l.map g).sum
 |[]=>by simp
 |x::l=>by simp only[List.map_cons,List.sum_cons,lX (l:=l)];omega
theorem dw{α:Type}{f:α->Nat}:∀{l:List α},(∀x∈l,f x=0)->(l.map f).sum=0
 |[],_=>by simp
 |x::l,h=>by
  simp only[List.map_cons,List.sum_cons,h x (.head _),dw fun y hy=>h y (.tail _ hy)]
theorem CS{R:σ->σ->Bool}:∀(n:Nat) (xs:List σ),xs.length<=n->xs.length % 2=1->W R xs=0:=by
 intro n
 induction n with
 |zero=>intro xs h o;omega
 |succ n ih =>
  intro xs h o
  cases xs with
  |nil=>simp at o
  |cons x xs =>
   simp only[List.length_cons]at h o
   rw[qy]
   refine dw fun c hc=>?_
   have:=jW hc
   by_cases e:c.1.length % 2=1
   ·rw[ih c.1 (by omega) e];simp
   ·rw[ih c.2.2 (by omega) (by omega)];simp
theorem dh{α:Type}{f:α->Nat}{m:Nat}:∀{l:List α},(∀x∈l,f x<=m)->(l.map f).sum<=l.length*m
 |[],_=>by simp
 |x::l,h=>by
  simp only[List.map_cons,List.sum_cons,List.length_cons,Nat.add_mul,Nat.one_mul]
  have:=dh (l:=l) fun y hy=>h y (.tail _ hy)
  have:=h x (.head _)
  omega
theorem rK{xs:List σ}:(kl xs).length=xs.length:=by
 induction xs with
 |nil=>rfl
 |cons x xs ih=>simp[kl,ih]
theorem G6{R:σ->σ->Bool}:∀(n:Nat) (xs:List σ),xs.length<=n->n<=100->W R xs<=100 ^ xs.length:=by
 intro n
 induction n with
 |zero =>
  intro xs h _
  have:xs=[]:=List.eq_nil_of_length_eq_zero (by omega)
  subst this
  simp[tO]
 |succ n ih =>
  intro xs h hn
  cases xs with
  |nil=>simp[tO]
  |cons x xs =>
   simp only[List.length_cons]at h ⊢
   rw[qy]
   refine Nat.le_trans (dh (m:=100 ^ xs.length) fun c hc=>?_) ?_
   ·have:=jW hc
    by_cases e:R x c.2.1=true
    ·rw[if_pos e]
     refine Nat.le_trans (Nat.mul_le_mul (ih c.1 (by omega) (by omega)) (ih c.2.2 (by omega) (by omega))) ?_
     rw[<-Nat.pow_add]
     exact Nat.pow_le_pow_right (by decide) (by omega)
    ·rw[if_neg e];exact Nat.zero_le _
   ·rw[rK,Nat.pow_succ,Nat.mul_comm]
    exact Nat.mul_le_mul_left _ (by omega)
end
end
section
variable{P:Program}{w:World}{K:PySem.W.Frag}{mg:Str->Option Value}{base:Heap}
/-! ### all stretches from a place to another one,and how many drawings they have -/
theorem sM{α β:Type}{f:α->β->Nat}:∀{l:List α}{m:List β},(l.map fun a=>(m.map fun b=>f a b).sum).sum=(m.map fun b=>(l.map fun a=>f a b).sum).sum
 |[],m=>by simp[dw]
 |a::l,m=>by simp only[List.map_cons,List.sum_cons,sM (l:=l),<-lX]
theorem jA{α β:Type}{g:β->Nat}{f:α->List β}:∀{l:List α},((l.flatMap f).map g).sum=(l.map fun a=>((f a).map g).sum).sum
 |[]=>rfl
 |a::l=>by rw[List.flatMap_cons,List.map_append,List.sum_append,jA (l:=l)];rfl
theorem va{α:Type} [DecidableEq α] {f:α->Nat}{p:α}:∀{A:List α},A.Nodup->p∈A->(A.map fun m=>if p=m then f m else 0).sum=f p
 |[],_,h=>by cases h
 |a::A,hn,h=>by
  rw[List.nodup_cons]at hn
  rw[List.map_cons,List.sum_cons]
  by_cases e:p=a
  ·subst e
   rw[if_pos rfl,dw fun m hm=>if_neg fun z=>hn.1 (by rw[z];exact hm)];rfl
  ·rw[if_neg e,va hn.2 ((List.mem_cons.mp h).resolve_left e),Nat.zero_add]
theorem u9{α:Type}{f:α->Nat}:∀{B A:List α},B.Nodup->A.Nodup->(∀x∈B,x∈A)->(∀x∈A,x∉B->f x=0)->(A.map f).sum=(B.map f).sum
 |[],A,_,_,_,h=>by rw[dw fun x hx=>h x hx (by simp)];rfl
 |b::B,A,hB,hA,hs,h=>by
  obtain⟨A1,A2,rfl⟩:=List.append_of_mem (hs b (.head _))
  rw[List.nodup_cons]at hB
  have hA2:(b::(A1++A2)).Nodup:=(List.perm_middle.nodup_iff).mp hA
  rw[List.nodup_cons]at hA2
  have ih:=u9 (f:=f) (B:=B) (A:=A1++A2) hB.2 hA2.2 (fun x hx=>by
   have h1:=hs x (.tail _ hx)
   have h2:x≠b:=fun z=>hB.1 (by rw[<-z];exact hx)
   simp only[List.mem_append,List.mem_cons]at h1 ⊢
   rcases h1 with h1|h1|h1
   ·exact .inl h1
   ·exact absurd h1 h2
   ·exact .inr h1) (fun x hx hb=>h x (by simp only[List.mem_append,List.mem_cons]at hx ⊢;rcases hx with q|q;exact .inl q;exact .inr (.inr q)) fun z=>by
    rcases List.mem_cons.mp z with q|q
    ·exact hA2.1 (by rw[<-q];exact hx)
    ·exact hb q)
  rw[List.map_append,List.map_cons,List.sum_append,List.sum_cons,List.map_cons,List.sum_cons,<-ih,List.map_append,List.sum_append]
  omega
section
variable{π σ:Type} [DecidableEq π]
structure Net(π σ:Type) where
 sg:π->Option σ
 nx:π->π
 bg:π->List π
def St(N:Net π σ):Nat->π->π->List (List σ)
 |0,_,_=>[]
 |f+1,p,q=>(if p=q then[[]]else[])++match N.sg p with
  |some x=>(St N f (N.nx p) q).map (x::·)
  |none=>(N.bg p).flatMap fun b=>St N f b q
structure cM(N:Net π σ) (A:List π) (rk:π->Nat):Prop where
 sg:∀p∈A,(N.sg p).isSome->N.nx p∈A/\rk (N.nx p)<rk p
 bg:∀p∈A,N.sg p=none->∀b∈N.bg p,b∈A/\rk b<rk p
variable{N:Net π σ}{A:List π}{rk:π->Nat}
theorem fV{α β:Type}{f g:α->List β}:∀{l:List α},(∀x∈l,f x=g x)->l.flatMap f=l.flatMap g
 |[],_=>rfl
 |x::l,h=>by rw[List.flatMap_cons,List.flatMap_cons,h x (.head _),fV fun y hy=>h y (.tail _ hy)]
theorem qj(F:cM N A rk):∀(f g:Nat) (p q:π),p∈A->rk p<f->rk p<g->St N f p q=St N g p q
 |0,_,_,_,_,h,_=>absurd h (Nat.not_lt_zero _)
 |_,0,_,_,_,_,h=>absurd h (Nat.not_lt_zero _)
 |f+1,g+1,p,q,hp,hf,hg=>by
  unfold St
  cases h:N.sg p with
  |some x =>
   obtain⟨h1,h2⟩:=F.sg p hp (by rw[h];rfl)
   simp only[]
   rw[qj F f g (N.nx p) q h1 (by omega) (by omega)]
  |none =>
   simp only[]
   congr 1
   refine fV fun b hb=>?_
   obtain⟨h1,h2⟩:=F.bg p hp h b hb
   exact qj F f g b q h1 (by omega) (by omega)
def Sts(N:Net π σ) (rk:π->Nat) (p q:π):List (List σ):=St N (rk p+1) p q
theorem zY(F:cM N A rk) {f:Nat}{p q:π}(hp:p∈A) (h:rk p<f):St N f p q=Sts N rk p q:=qj F _ _ _ _ hp h (by omega)
theorem fM(F:cM N A rk) {p q:π}{x:σ}(hp:p∈A) (h:N.sg p=some x):Sts N rk p q=(if p=q then[[]]else[])++(Sts N rk (N.nx p) q).map (x::·):=by
 obtain⟨h1,h2⟩:=F.sg p hp (by rw[h];rfl)
 unfold Sts
 rw[St,h]
 simp only[]
 rw[zY F h1 h2];rfl
theorem ia(F:cM N A rk) {p q:π}(hp:p∈A) (h:N.sg p=none):Sts N rk p q=(if p=q then[[]]else[])++(N.bg p).flatMap fun b=>Sts N rk b q:=by
 unfold Sts
 rw[St,h]
 simp only[]
 congr 1
 refine fV fun b hb=>?_
 obtain⟨h1,h2⟩:=F.bg p hp h b hb
 rw[zY F h1 h2];rfl
theorem qa(F:cM N A rk) (hA:A.Nodup):∀(f:Nat) (p q:π) (G:List σ->σ->List σ->Nat),p∈A->rk p<f ->
  ((Sts N rk p q).map fun s=>((kl s).map fun c=>G c.1 c.2.1 c.2.2).sum).sum=(A.map fun m=>match N.sg m with|none=>0|some y=>((Sts N rk p m).map fun u=>((Sts N rk (N.nx m) q).map fun v=>G u y v).sum).sum).sum
 |0,_,_,_,_,h=>absurd h (Nat.not_lt_zero _)
 |f+1,p,q,G,hp,hf=>by
  cases h:N.sg p with
  |some x =>
   obtain⟨h1,h2⟩:=F.sg p hp (by rw[h];rfl)
   have ih:=qa F hA f (N.nx p) q (fun u=>G (x::u)) h1 (by omega)
   have e1:(A.map fun m=>match N.sg m with|none=>0|some y=>((Sts N rk p m).map fun u=>((Sts N rk (N.nx m) q).map fun v=>G u y v).sum).sum)=A.map fun m=>(if p=m then((Sts N rk (N.nx p) q).map fun v=>G [] x v).sum else 0)+match N.sg m with|none=>0|some y=>((Sts N rk (N.nx p) m).map fun u=>((Sts N rk (N.nx m) q).map fun v=>G (x::u) y v).sum).sum:=by
    refine List.map_congr_left fun m hm=>?_
    by_cases e:p=m
    ·subst e
     rw[if_pos rfl,h]
     simp only[]
     rw[fM F hp h,if_pos rfl,List.map_append,List.sum_append,List.map_map]
     simp[Function.comp_def]
    ·rw[if_neg e,Nat.zero_add]
     cases N.sg m with
     |none=>rfl
     |some y =>
      simp only[]
      rw[fM F hp h,if_neg e,List.nil_append,List.map_map];rfl
   rw[e1,lX,va (f:=fun _=>((Sts N rk (N.nx p) q).map fun v=>G [] x v).sum) hA hp,<-ih,fM F hp h,List.map_append,List.sum_append,List.map_map]
   have e2:((if p=q then[([]:List σ)]else[]).map fun s=>((kl s).map fun c=>G c.1 c.2.1 c.2.2).sum).sum=0:=by
    by_cases e:p=q
    ·rw[if_pos e];rfl
    ·rw[if_neg e];rfl
   rw[e2,Nat.zero_add,<-lX]
   congr 1
   refine List.map_congr_left fun s _=>?_
   simp[kl,Function.comp_def]
  |none =>
   have e1:(A.map fun m=>match N.sg m with|none=>0|some y=>((Sts N rk p m).map fun u=>((Sts N rk (N.nx m) q).map fun v=>G u y v).sum).sum)=A.map fun m=>((N.bg p).map fun b=>match N.sg m with|none=>0|some y=>((Sts N rk b m).map fun u=>((Sts N rk (N.nx m) q).map fun v=>G u y v).sum).sum).sum:=by
    refine List.map_congr_left fun m hm=>?_
    cases hm':N.sg m with
    |none=>exact(dw fun _ _=>rfl).symm
    |some y =>
     have e:p≠m:=fun z=>by rw[<-z,h]at hm';cases hm'
     simp only[]
     rw[ia F hp h,if_neg e,List.nil_append,jA]
   rw[e1,sM,ia F hp h,List.map_append,List.sum_append]
   have e2:((if p=q then[([]:List σ)]else[]).map fun s=>((kl s).map fun c=>G c.1 c.2.1 c.2.2).sum).sum=0:=by
    by_cases e:p=q
    ·rw[if_pos e];rfl
    ·rw[if_neg e];rfl
   rw[e2,Nat.zero_add,jA]
   congr 1
   refine List.map_congr_left fun b hb=>?_
   obtain⟨h1,h2⟩:=F.bg p hp h b hb
   exact qa F hA f b q G h1 (by omega)
def cnt(R:σ->σ->Bool) (N:Net π σ) (rk:π->Nat) (p q:π):Nat:=((Sts N rk p q).map (W R)).sum
variable{R:σ->σ->Bool}
theorem zC(F:cM N A rk) {p q:π}(hp:p∈A) (h:N.sg p=none):cnt R N rk p q=(if p=q then 1 else 0)+((N.bg p).map fun b=>cnt R N rk b q).sum:=by
 unfold cnt
 rw[ia F hp h,List.map_append,List.sum_append,jA]
 congr 1
 by_cases e:p=q
 ·rw[if_pos e,if_pos e];simp[tO]
 ·rw[if_neg e,if_neg e];rfl
theorem xG(F:cM N A rk) (hA:A.Nodup) {p q:π}{x:σ}(hp:p∈A) (h:N.sg p=some x):cnt R N rk p q=(if p=q then 1 else 0)+(A.map fun m=>if(N.sg m).elim false (R x)=true then cnt R N rk (N.nx p) m*cnt R N rk (N.nx m) q else 0).sum:=by
 obtain⟨h1,h2⟩:=F.sg p hp (by rw[h];rfl)
 have e0:cnt R N rk p q=(if p=q then 1 else 0)+((Sts N rk (N.nx p) q).map fun s=>W R (x::s)).sum:=by
  unfold cnt
  rw[fM F hp h,List.map_append,List.sum_append,List.map_map]
  congr 1
  by_cases e:p=q
  ·rw[if_pos e,if_pos e];simp[tO]
  ·rw[if_neg e,if_neg e];rfl
 rw[e0]
 congr 1
 have e1:((Sts N rk (N.nx p) q).map fun s=>W R (x::s))=(Sts N rk (N.nx p) q).map fun s=>((kl s).map fun c=>(fun u y v=>if R x y=true then W R u*W R v else 0) c.1 c.2.1 c.2.2).sum:=List.map_congr_left fun s _=>qy
 rw[e1,qa F hA _ (N.nx p) q (fun u y v=>if R x y=true then W R u*W R v else 0) h1 (Nat.lt_succ_self _)]
 congr 1
 refine List.map_congr_left fun m _=>?_
 cases N.sg m with
 |none=>rfl
 |some y =>
  by_cases e:R x y=true
  ·rw[if_pos (show(some y).elim false (R x)=true from e)]
   unfold cnt
   rw[sv]
   show List.sum _=_
   congr 1
   refine List.map_congr_left fun u _=>?_
   rw[se]
   congr 1
   exact List.map_congr_left fun v _=>by rw[if_pos e]
  ·rw[if_neg (show ¬ (some y).elim false (R x)=true from e)]
   exact dw fun u _=>dw fun v _=>by rw[if_neg e]
theorem uG:∀{f:Nat}{p q:π}{s:List σ},s∈St N f p q->s.length<=f
 |0,_,_,_,h=>by cases h
 |f+1,p,q,s,h=>by
  unfold St at h
  rcases List.mem_append.mp h with h|h
  ·split at h
   ·rw[List.mem_singleton.mp h];exact Nat.zero_le _
   ·cases h
  ·cases hx:N.sg p with
   |some x =>
    rw[hx]at h
    obtain⟨t,ht,rfl⟩:=List.mem_map.mp h
    have:=uG ht
    simp;omega
   |none =>
    rw[hx]at h
    obtain⟨b,hb,ht⟩:=List.mem_flatMap.mp h
    have:=uG ht
    omega
theorem uJ{k:Nat}(hb:∀p,(N.bg p).length<=k):∀{f:Nat}{p q:π},(St N f p q).length<=(k+2) ^ f
 |0,_,_=>by simp[St]
 |f+1,p,q=>by
  unfold St
  rw[List.length_append]
  have h1:(if p=q then[([]:List σ)]else[]).length<=1:=by split<;>simp
  have hp:1<=(k+2) ^ f:=Nat.one_le_pow _ _ (by omega)
  have h3:(k+2) ^ (f+1)=(k+1)*(k+2) ^ f+(k+2) ^ f:=by rw[Nat.pow_succ,Nat.mul_comm,Nat.succ_mul]
  cases hx:N.sg p with
  |some x =>
   simp only[]
   rw[List.length_map]
   have:=uJ hb (f:=f) (p:=N.nx p) (q:=q)
   have h4:(k+2) ^ f<=(k+1)*(k+2) ^ f:=Nat.le_mul_of_pos_left _ (by omega)
   omega
  |none =>
   simp only[]
   rw[List.length_flatMap]
   have h5:=dh (f:=fun b=>(St N f b q).length) (m:=(k+2) ^ f) (l:=N.bg p) fun b _=>uJ hb
   have h6:=Nat.mul_le_mul_right ((k+2) ^ f) (hb p)
   rw[Nat.succ_mul]at h3
   omega
theorem Cd{k f:Nat}(hb:∀p,(N.bg p).length<=k) {p q:π}(hr:rk p<f) (hf:f<=100):cnt R N rk p q<=(k+2) ^ f*100 ^ f:=by
 unfold cnt
 refine Nat.le_trans (dh (m:=100 ^ f) fun s hs=>?_) ?_
 ·have h1:=uG hs
  exact Nat.le_trans (G6 100 s (by omega) (Nat.le_refl _)) (Nat.pow_le_pow_right (by decide) (by omega))
 ·exact Nat.mul_le_mul_right _ (Nat.le_trans (uJ hb) (Nat.pow_le_pow_right (by omega) (by omega)))
end
end
section
variable{P:Program}{w:World}{K:PySem.W.Frag}{mg:Str->Option Value}{base:Heap}
theorem nJ{α:Type}{f:α->Nat}:∀{l:List α},(l.map fun x=>((f x:Nat):Int)).sum=(((l.map f).sum:Nat):Int)
 |[]=>rfl
 |x::l=>by simp only[List.map_cons,List.sum_cons,nJ (l:=l),Int.natCast_add]
/-! ### the chart's counts -/
def rel(ord:List (Str×Str)) (x y:Str×Int):Bool:=x.2+1==y.2&&lB ord x.2 x.1 y.1
def bu(kd:KD):Net Pl (Str×Int):=⟨cg kd,nxt,br kd⟩
structure hU(kd:KD) (N:Int) (K B:Nat):Prop where
 up:kd.Pairwise fun a b=>a.1<b.1
 bd:∀q∈kd,-1<=q.1/\q.1<=N/\q.2.length<=K/\∀r∈q.2,r.length<=B
def fR(N:Int) (B:Nat) (p:Pl):Nat:=((N+1-p.1)*((B:Int)+1)-p.2.2).toNat
def plt(p q:Pl):Prop:=p.1<q.1∨(p.1=q.1/\(p.2.1<q.2.1∨(p.2.1=q.2.1/\p.2.2<q.2.2)))
theorem iu{p q r:Pl}(h:plt p q) (h':plt q r):plt p r:=by unfold plt at *;omega
theorem qb{p:Pl}(h:plt p p):False:=by unfold plt at h;omega
theorem iz{p:Pl}:plt p (nxt p):=by unfold plt nxt;dsimp only;omega
theorem bx{kd:KD}{p:Pl}:p∈ao kd↔∃q∈kd,∃(i:Nat) (row:Row) (j:Nat),q.2[i]?=some row/\j<=row.length/\p=(q.1,(i:Int),(j:Int)):=by
 unfold ao gj gB
 simp only[List.mem_flatMap,List.mem_map,List.mem_range]
 constructor
 ·rintro⟨q,hq,r,hr,j,hj,rfl⟩
  have h:=List.mem_zipIdx_iff_getElem?.mp hr
  exact⟨q,hq,r.2,r.1,j,h,by omega,rfl⟩
 ·rintro⟨q,hq,i,row,j,hr,hj,rfl⟩
  exact⟨q,hq,(row,i),List.mem_zipIdx_iff_getElem?.mpr hr,j,Nat.lt_succ_of_le hj,rfl⟩
theorem AX{n:Nat}(h:n<=(2 ^ 4) ^ 100*(2 ^ 7) ^ 100):Few (n:Int):=by
 unfold Few
 rw[intBits_le_iff,Int.natAbs_natCast]
 refine Nat.lt_of_le_of_lt h ?_
 rw[<-Nat.pow_mul,<-Nat.pow_mul,<-Nat.pow_add]
 exact Nat.pow_lt_pow_right (by decide) (by decide)
section
variable{kd:KD}{N:Int}{K B:Nat}
theorem lW(h:kd.Pairwise fun a b=>a.1<b.1) {q:Int×List Row}(hq:q∈kd):look kd q.1=some q.2:=by
 unfold look
 induction kd with
 |nil=>cases hq
 |cons a l ih =>
  rw[List.pairwise_cons]at h
  rcases List.mem_cons.mp hq with e|e
  ·rw[e,List.find?_cons_of_pos (by simp)];rfl
  ·have:=h.1 q e
   rw[List.find?_cons_of_neg (by simp;omega)]
   exact ih h.2 e
theorem hU.sgn(ok:hU kd N K B) {q:Int×List Row}(hq:q∈kd) {i j:Nat}{row:Row}(hr:q.2[i]?=some row):cg kd (q.1,(i:Int),(j:Int))=row[j]? :=
 sL rfl (lW ok.up hq) hr
theorem hU.valid(ok:hU kd N K B) {p:Pl}(hp:p∈ao kd):pN kd p:=by
 obtain⟨q,hq,i,row,j,hr,hj,rfl⟩:=bx.mp hp
 exact⟨q.2,row,i,j,rfl,lW ok.up hq,hr⟩
theorem nu{p b:Pl}(h:b∈br kd p):∃rows,(p.1+1,rows)∈kd/\∃(k:Nat) (row:Row),rows[k]?=some row/\b=(p.1+1,(k:Int),0):=by
 unfold br at h
 obtain⟨k,hk,rfl⟩:=List.mem_map.mp h
 cases hl:look kd (p.1+1)with
 |none=>rw[hl]at hk;simp at hk
 |some rows =>
  rw[hl]at hk
  have hk':k<rows.length:=by simpa using hk
  exact⟨rows,jY hl,k,rows[k],by simp[hk'],rfl⟩
theorem hU.falls(ok:hU kd N K B):cM (bu kd) (ao kd) (fR N B) where
 sg:=by
  intro p hp hs
  obtain⟨q,hq,i,row,j,hr,hj,rfl⟩:=bx.mp hp
  have hs':(row[j]?).isSome:=by rw[<-ok.sgn hq hr];exact hs
  have hj':j<row.length:=by simpa using hs'
  refine⟨bx.mpr ⟨q,hq,i,row,j+1,hr,hj',rfl⟩,?_⟩
  obtain⟨_,h1,_,h2⟩:=ok.bd q hq
  have h3:=h2 row (List.mem_of_getElem? hr)
  show((N+1-q.1)*((B:Int)+1)-((j:Int)+1)).toNat<((N+1-q.1)*((B:Int)+1)-(j:Int)).toNat
  have h4:(1:Int)*((B:Int)+1)<=(N+1-q.1)*((B:Int)+1):=Int.mul_le_mul_of_nonneg_right (by omega) (by omega)
  omega
 bg:=by
  intro p hp hs b hb
  obtain⟨q,hq,i,row,j,hr,hj,rfl⟩:=bx.mp hp
  obtain⟨rows,hm,k,row',hk,rfl⟩:=nu hb
  refine⟨bx.mpr ⟨_,hm,k,row',0,hk,Nat.zero_le _,rfl⟩,?_⟩
  obtain⟨_,_,_,h2⟩:=ok.bd q hq
  obtain⟨_,h1,_,_⟩:=ok.bd _ hm
  have h3:=h2 row (List.mem_of_getElem? hr)
  show((N+1-(q.1+1))*((B:Int)+1)-0).toNat<((N+1-q.1)*((B:Int)+1)-(j:Int)).toNat
  have h5:(N+1-q.1)*((B:Int)+1)=(N+1-(q.1+1))*((B:Int)+1)+((B:Int)+1):=by
   rw[show N+1-q.1=(N+1-(q.1+1))+1 by omega,Int.add_mul,Int.one_mul]
  have h6:0<=(N+1-(q.1+1))*((B:Int)+1):=Int.mul_nonneg (by simp only[]at h1;omega) (by omega)
  omega
theorem hU.bgl(ok:hU kd N K B) (p:Pl):((bu kd).bg p).length<=K:=by
 show(br kd p).length<=K
 unfold br
 rw[List.length_map,List.length_range]
 cases h:look kd (p.1+1)with
 |none=>exact Nat.zero_le _
 |some rows=>exact(ok.bd _ (jY h)).2.2.1
theorem hU.rk(ok:hU kd N K B) {p:Pl}(hp:p∈ao kd):(fR N B p:Int)<=(N+2)*((B:Int)+1):=by
 obtain⟨q,hq,i,row,j,hr,hj,rfl⟩:=bx.mp hp
 obtain⟨h0,h1,_,h2⟩:=ok.bd q hq
 have h4:(N+1-q.1)*((B:Int)+1)<=(N+2)*((B:Int)+1):=Int.mul_le_mul_of_nonneg_right (by omega) (by omega)
 have h6:0<=(N+1-q.1)*((B:Int)+1):=Int.mul_nonneg (by omega) (by omega)
 show((((N+1-q.1)*((B:Int)+1)-(j:Int)).toNat:Nat):Int)<=_
 omega
theorem kU(h:kd.Pairwise fun a b=>a.1<b.1):(ao kd).Pairwise plt:=by
 unfold ao
 rw[List.pairwise_flatMap]
 constructor
 ·intro q _
  unfold gj
  rw[List.pairwise_flatMap]
  constructor
  ·intro r _
   unfold gB
   rw[List.pairwise_map]
   refine List.Pairwise.imp ?_ List.pairwise_lt_range
   intro a b hab
   unfold plt;dsimp only;omega
  ·rw[List.pairwise_iff_getElem]
   intro a b ha hb hab x hx y hy
   unfold gB at hx hy
   obtain⟨j,_,rfl⟩:=List.mem_map.mp hx
   obtain⟨k,_,rfl⟩:=List.mem_map.mp hy
   simp only[List.getElem_zipIdx]
   unfold plt;dsimp only;omega
 ·refine List.Pairwise.imp ?_ h
  intro a b hab x hx y hy
  unfold gj gB at hx hy
  simp only[List.mem_flatMap,List.mem_map]at hx hy
  obtain⟨_,_,_,_,rfl⟩:=hx
  obtain⟨_,_,_,_,rfl⟩:=hy
  exact .inl hab
theorem qQ(h:kd.Pairwise fun a b=>a.1<b.1):(ao kd).Nodup :=
 List.Pairwise.imp (fun {a b} (hab:plt a b)=>fun e=>qb (by rw[e]at hab;exact hab)) (kU h)
theorem mG{l:List Pl}(h:l.Pairwise plt) {i:Nat}{p q:Pl}(hi:l.reverse[i]?=some p) (hq:q∈l) (hpq:plt p q):q∈l.reverse.take i:=by
 have hr:l.reverse.Pairwise fun a b=>plt b a:=List.pairwise_reverse.mpr h
 obtain⟨hl,e⟩:=List.getElem?_eq_some_iff.mp hi
 rw[<-List.mem_reverse,<-List.take_append_drop i l.reverse,List.mem_append]at hq
 rcases hq with hq|hq
 ·exact hq
 ·rw[List.drop_eq_getElem_cons hl]at hq
  rcases List.mem_cons.mp hq with c|c
  ·rw[e]at c;rw[c]at hpq;exact(qb hpq).elim
  ·have h2:=hr.sublist (List.drop_sublist i _)
   rw[List.drop_eq_getElem_cons hl,List.pairwise_cons,e]at h2
   exact(qb (iu hpq (h2.1 q c))).elim
theorem wa{α:Type}{p m:Pl}{v:α}:∀{l:List (Pl×α)},lkP (fj l p v) m=if p=m then some v else lkP l m:=by
 intro l
 have key:∀l:List (Pl×α),lkP (l.map fun z=>if z.1=p then(z.1,v)else z) m=if p=m then(lkP l m).map fun _=>v else lkP l m:=by
  intro l
  induction l with
  |nil=>simp[lkP]
  |cons z l ih =>
   unfold lkP at ih ⊢
   rw[List.map_cons]
   by_cases h1:z.1=p
   ·rw[if_pos h1]
    by_cases h2:p=m
    ·rw[if_pos h2,List.find?_cons_of_pos (by simp[h1,h2]),List.find?_cons_of_pos (by simp[h1,h2])];rfl
    ·rw[List.find?_cons_of_neg (by simp[h1,h2]),List.find?_cons_of_neg (by simp[h1,h2]),ih]
   ·rw[if_neg h1]
    by_cases h2:z.1=m
    ·rw[List.find?_cons_of_pos (by simp[h2]),List.find?_cons_of_pos (by simp[h2])]
     rw[if_neg (fun e=>h1 (by rw[h2,e]))]
    ·rw[List.find?_cons_of_neg (by simp[h2]),List.find?_cons_of_neg (by simp[h2]),ih]
 have find:∀l:List (Pl×α),(l.any fun z=>decide (z.1=p))=(lkP l p).isSome:=by
  intro l
  induction l with
  |nil=>rfl
  |cons z l ih =>
   unfold lkP at ih ⊢
   rw[List.any_cons,ih]
   by_cases h:z.1=p
   ·rw[List.find?_cons_of_pos (by simp[h])];simp[h]
   ·rw[List.find?_cons_of_neg (by simp[h])];simp[h]
 unfold fj
 rw[find]
 split
 ·rename_i h
  rw[key]
  by_cases e:p=m
  ·subst e
   obtain⟨u,hu⟩:=Option.isSome_iff_exists.mp h
   rw[if_pos rfl,if_pos rfl,hu];rfl
  ·rw[if_neg e,if_neg e]
 ·rename_i h
  have h':lkP l p=none:=by simpa using h
  unfold lkP at h' ⊢
  rw[List.find?_append]
  by_cases e:p=m
  ·subst e
   rw[if_pos rfl,Option.map_eq_none_iff.mp h']
   simp
  ·rw[if_neg e]
   cases List.find? (fun z=>decide (z.1=m)) l with
   |some u=>rfl
   |none=>simp[e]
theorem sE{α:Type}{p:Pl}{v:α}{l:List (Pl×α)}:(fj l p v).map (·.1)=if p∈l.map (·.1)then l.map (·.1)else l.map (·.1)++[p]:=by
 have h:(l.any fun z=>decide (z.1=p))=true↔p∈l.map (·.1):=by
  rw[List.any_eq_true,List.mem_map]
  simp only[decide_eq_true_eq]
 unfold fj
 by_cases c:(l.any fun z=>decide (z.1=p))=true
 ·rw[if_pos c,if_pos (h.mp c),List.map_map]
  refine List.map_congr_left fun z _=>?_
  simp only[Function.comp_def]
  split<;>rfl
 ·rw[if_neg c,if_neg (fun z=>c (h.mpr z)),List.map_append];rfl
theorem xn{α:Type}{p:Pl}{v:α}{l:List (Pl×α)}(h:(l.map (·.1)).Nodup):((fj l p v).map (·.1)).Nodup:=by
 rw[sE]
 split
 ·exact h
 ·rename_i c
  rw[List.nodup_append]
  exact⟨h,by simp,fun a ha b hb e=>c (by rw[List.mem_singleton.mp hb]at e;rw[<-e];exact ha)⟩
theorem jw{α:Type}{p m:Pl}{v:α}{l:List (Pl×α)}(h:m∈(fj l p v).map (·.1)):m=p∨m∈l.map (·.1):=by
 rw[sE]at h
 split at h
 ·exact .inr h
 ·rcases List.mem_append.mp h with h|h
  ·exact .inr h
  ·exact .inl (List.mem_singleton.mp h)
theorem AQ{l:List (Pl×Int)}{e m:Pl}{v:Int}:(lkP (Ai l e v) m).getD 0=(lkP l m).getD 0+if e=m then v else 0:=by
 show(lkP (fj l e ((lkP l e).getD 0+v)) m).getD 0=_
 rw[wa]
 by_cases c:e=m
 ·rw[if_pos c,if_pos c,c];rfl
 ·rw[if_neg c,if_neg c,Int.add_zero]
theorem jO{α:Type}{m:Pl}:∀{l:List (Pl×α)},m∉l.map (·.1)->lkP l m=none
 |[],_=>rfl
 |z::l,h=>by
  unfold lkP
  rw[List.find?_cons_of_neg (by simp;exact fun e=>h (by rw[<-e];exact .head _))]
  exact jO fun q=>h (.tail _ q)
theorem mw{α:Type}{m:Pl}{z:Pl×α}{l:List (Pl×α)}:lkP (z::l) m=if z.1=m then some z.2 else lkP l m:=by
 unfold lkP
 by_cases h:z.1=m
 ·rw[if_pos h,List.find?_cons_of_pos (by simp[h])];rfl
 ·rw[if_neg h,List.find?_cons_of_neg (by simp[h])]
theorem mV{i:Int}{m:Pl}:∀{more l:List (Pl×Int)},(more.map (·.1)).Nodup->(lkP (dF i l more) m).getD 0=(lkP l m).getD 0+i*(lkP more m).getD 0
 |[],l,_=>by show _=_+i*0;rw[Int.mul_zero,Int.add_zero];rfl
 |z::more,l,h=>by
  rw[List.map_cons,List.nodup_cons]at h
  show(lkP (dF i (Ai l z.1 (i*z.2)) more) m).getD 0=_
  rw[mV h.2,AQ,mw]
  by_cases c:z.1=m
  ·rw[if_pos c,if_pos c,jO (l:=more) (by rw[<-c];exact h.1)]
   show _+i*0=_+i*z.2
   rw[Int.mul_zero,Int.add_zero]
  ·rw[if_neg c,if_neg c,Int.add_zero]
theorem lq{i:Int}{Ok:Pl->Prop}:∀{more l:List (Pl×Int)},(∀z∈more,Ok z.1)->(l.map (·.1)).Nodup/\(∀z∈l,Ok z.1)->((dF i l more).map (·.1)).Nodup/\∀z∈dF i l more,Ok z.1
 |[],l,_,h=>h
 |z::more,l,hm,h=>by
  show((dF i (Ai l z.1 (i*z.2)) more).map (·.1)).Nodup/\_
  refine lq (fun y hy=>hm y (.tail _ hy)) ⟨xn h.1,fun y hy=>?_⟩
  rcases jw (List.mem_map.mpr ⟨y,hy,rfl⟩)with e|e
  ·rw[e];exact hm z (.head _)
  ·obtain⟨u,hu,e⟩:=List.mem_map.mp e
   have:=h.2 u hu
   rw[<-e];exact this
def m5(ord:List (Str×Str)) (kd:KD) (N:Int) (B:Nat) (p:Pl) (l:List (Pl×Int)):Prop :=
 (l.map (·.1)).Nodup/\(∀z∈l,z.1∈ao kd/\(z.1=p∨plt p z.1))/\∀m,(lkP l m).getD 0=(cnt (rel ord) (bu kd) (fR N B) p m:Int)
theorem oM{ord:List (Str×Str)}{p:Pl}{Ok:Pl->Prop}{cn:List (Pl×List (Pl×Int))}{g:Pl->Pl->Nat}(m:Pl):∀{ss:List j3}{a:List (Pl×Int)},
  (∀s∈ss,∃l,lkP cn s.2.1=some l/\(l.map (·.1)).Nodup/\(∀z∈l,Ok z.1)/\(lkP l m).getD 0=(g s.2.1 m:Int))->(a.map (·.1)).Nodup/\(∀z∈a,Ok z.1) ->
  let r:=ss.foldl (fun a s=>dF s.2.2 a ((lkP cn s.2.1).getD [])) a
  ((r.map (·.1)).Nodup/\∀z∈r,Ok z.1)/\(lkP r m).getD 0=(lkP a m).getD 0+(ss.map fun s=>s.2.2*(g s.2.1 m:Int)).sum
 |[],a,_,h=>⟨h,by simp⟩
 |s::ss,a,hs,h=>by
  obtain⟨l,h1,h2,h3,h4⟩:=hs s (.head _)
  simp only[List.foldl_cons,List.map_cons,List.sum_cons]
  have hk:=lq (i:=s.2.2) (Ok:=Ok) (more:=l) h3 h
  have e:(lkP cn s.2.1).getD []=l:=by rw[h1];rfl
  rw[e]
  obtain⟨q1,q2⟩:=oM (ord:=ord) (p:=p) (Ok:=Ok) (g:=g) m (a:=dF s.2.2 a l) (fun t ht=>hs t (.tail _ ht)) hk
  refine⟨q1,?_⟩
  rw[q2,mV h2,h4,Int.add_assoc]
theorem p7{α:Type}:∀{l:List (Pl×α)}{z:Pl×α},(l.map (·.1)).Nodup->z∈l->lkP l z.1=some z.2
 |y::l,z,hn,h=>by
  rw[List.map_cons,List.nodup_cons]at hn
  rw[mw]
  rcases List.mem_cons.mp h with e|e
  ·rw[e,if_pos rfl]
  ·rw[if_neg fun c=>hn.1 (by rw[c];exact List.mem_map.mpr ⟨z,e,rfl⟩)]
   exact p7 hn.2 e
theorem vq(ok:hU kd N K B) {ord:List (Str×Str)}{cn:List (Pl×List (Pl×Int))}{p:Pl}(hp:p∈ao kd) (hcn:∀q∈ao kd,plt p q->∃l,lkP cn q=some l/\m5 ord kd N B q l) :
  let ss:=bh ord kd p ((lkP cn (nxt p)).getD [])
  (∀s∈ss,s.2.1∈ao kd/\plt p s.2.1/\(s.2.2=1∨∃m,s.2.2=(cnt (rel ord) (bu kd) (fR N B) (nxt p) m:Int)/\nxt p∈ao kd))/\ss.length<=K+(ao kd).length/\m5 ord kd N B p (bA p ss cn):=by
 have F:=ok.falls
 have hnd:=qQ ok.up
 intro ss
 have main:(∀s∈ss,s.2.1∈ao kd/\plt p s.2.1/\(s.2.2=1∨∃m,s.2.2=(cnt (rel ord) (bu kd) (fR N B) (nxt p) m:Int)/\nxt p∈ao kd))/\ss.length<=K+(ao kd).length /\
   ∀m,(if p=m then(1:Int)else 0)+(ss.map fun s=>s.2.2*(cnt (rel ord) (bu kd) (fR N B) s.2.1 m:Int)).sum=(cnt (rel ord) (bu kd) (fR N B) p m:Int):=by
  cases hx:cg kd p with
  |none =>
   have e:ss=(br kd p).map fun b=>(none,b,1):=by
    show bh _ _ _ _=_
    unfold bh;rw[hx]
   rw[e]
   refine⟨fun s hs=>?_,?_,fun m=>?_⟩
   ·obtain⟨b,hb,rfl⟩:=List.mem_map.mp hs
    obtain⟨h1,_⟩:=F.bg p hp hx b hb
    refine⟨h1,?_,.inl rfl⟩
    obtain⟨rows,_,k,row,_,rfl⟩:=nu hb
    exact .inl (by show p.1<p.1+1;omega)
   ·rw[List.length_map];have:=ok.bgl p;show(br kd p).length<=_;exact Nat.le_trans this (by omega)
   ·rw[zC F hp hx,List.map_map,Int.natCast_add,<-nJ]
    congr 1
    ·by_cases c:p=m
     ·rw[if_pos c,if_pos c];rfl
     ·rw[if_neg c,if_neg c];rfl
    ·show _=((br kd p).map _).sum
     congr 1
     refine List.map_congr_left fun b _=>?_
     show(1:Int)*_=_
     rw[Int.one_mul]
  |some x =>
   obtain⟨hn,hrk⟩:=F.sg p hp (by show(cg kd p).isSome=true;rw[hx];rfl)
   obtain⟨l0,hl0,k1,k2,k3⟩:=hcn (nxt p) hn iz
   have e:ss=(l0.filter fun z=>fh ord x (cg kd z.1)).map fun z=>(some z.1,nxt z.1,z.2):=by
    show bh _ _ _ _=_
    unfold bh;rw[hx,hl0];rfl
   have hz2:∀z∈l0,z.2=(cnt (rel ord) (bu kd) (fR N B) (nxt p) z.1:Int):=fun z hz=>by
    rw[<-k3 z.1,p7 k1 hz];rfl
   rw[e]
   refine⟨fun s hs=>?_,?_,fun m=>?_⟩
   ·obtain⟨z,hz,rfl⟩:=List.mem_map.mp hs
    obtain⟨hz1,hj⟩:=List.mem_filter.mp hz
    obtain⟨hzA,hzp⟩:=k2 z hz1
    have hsome:(cg kd z.1).isSome:=by
     cases h:cg kd z.1 with
     |none=>rw[h]at hj;cases hj
     |some _=>rfl
    obtain⟨h1,_⟩:=F.sg z.1 hzA hsome
    refine⟨h1,?_,.inr ⟨z.1,hz2 z hz1,hn⟩⟩
    have h2:plt p z.1:=by
     rcases hzp with h|h
     ·rw[h];exact iz
     ·exact iu iz h
    exact iu h2 iz
   ·rw[List.length_map]
    refine Nat.le_trans (List.length_filter_le _ _) ?_
    have:=dW (l0.map (·.1)) (ao kd) k1 fun y hy=>by
     obtain⟨z,hz,rfl⟩:=List.mem_map.mp hy
     exact(k2 z hz).1
    rw[List.length_map]at this
    omega
   ·rw[xG F hnd hp hx,List.map_map,Int.natCast_add]
    congr 1
    ·by_cases c:p=m
     ·rw[if_pos c,if_pos c];rfl
     ·rw[if_neg c,if_neg c];rfl
    ·rw[u9 (B:=l0.map (·.1)) k1 hnd (fun y hy=>by
      obtain⟨z,hz,rfl⟩:=List.mem_map.mp hy
      exact(k2 z hz).1) (fun y _ hy=>by
      have h0:cnt (rel ord) (bu kd) (fR N B) ((bu kd).nx p) y=0:=by
       have:=k3 y
       rw[jO hy]at this
       exact(Int.ofNat.inj this).symm
      rw[h0,Nat.zero_mul,ite_self]),List.map_map,<-nJ]
     have e2:(l0.map fun z=>(((fun m'=>if((bu kd).sg m').elim false (rel ord x)=true then cnt (rel ord) (bu kd) (fR N B) ((bu kd).nx p) m'*cnt (rel ord) (bu kd) (fR N B) ((bu kd).nx m') m else 0)∘fun z:Pl×Int=>z.1) z:Int))=l0.map fun z=>if fh ord x (cg kd z.1)=true then z.2*(cnt (rel ord) (bu kd) (fR N B) (nxt z.1) m:Int)else 0:=by
      refine List.map_congr_left fun z hz=>?_
      simp only[Function.comp_def]
      by_cases c:fh ord x (cg kd z.1)=true
      ·rw[if_pos c,if_pos (show((bu kd).sg z.1).elim false (rel ord x)=true from c),Int.natCast_mul,hz2 z hz];rfl
      ·rw[if_neg c,if_neg (show ¬ ((bu kd).sg z.1).elim false (rel ord x)=true from c)];rfl
     rw[e2]
     clear e2 e hz2 k3 k2 k1 hl0
     induction l0 with
     |nil=>rfl
     |cons z l ih =>
      cases c:fh ord x (cg kd z.1)with
      |true=>rw[List.filter_cons_of_pos (p:=fun z:Pl×Int=>fh ord x (cg kd z.1)) c,List.map_cons,List.sum_cons,List.map_cons,List.sum_cons,if_pos c,ih];rfl
      |false=>rw[List.filter_cons_of_neg (p:=fun z:Pl×Int=>fh ord x (cg kd z.1)) (by rw[c];simp),List.map_cons,List.sum_cons,ih,if_neg (by rw[c];simp),Int.zero_add]
 obtain⟨m1,m2,m3⟩:=main
 refine⟨m1,m2,?_⟩
 have ini:(([(p,1)]:List (Pl×Int)).map (·.1)).Nodup/\∀z∈[(p,(1:Int))],z.1∈ao kd/\(z.1=p∨plt p z.1):=⟨by simp,fun z hz=>by rw[List.mem_singleton.mp hz];exact⟨hp,.inl rfl⟩⟩
 have hc:=fun m=>oM (ord:=ord) (p:=p) (Ok:=fun q=>q∈ao kd/\(q=p∨plt p q)) (cn:=cn) (g:=cnt (rel ord) (bu kd) (fR N B)) m (ss:=ss) (a:=[(p,1)]) (fun s hs=>by
  obtain⟨h1,h2,_⟩:=m1 s hs
  obtain⟨l,k0,k1,k2,k3⟩:=hcn _ h1 h2
  refine⟨l,k0,k1,fun z hz=>⟨(k2 z hz).1,.inr ?_⟩,k3 m⟩
  rcases(k2 z hz).2 with e|e
  ·rw[e];exact h2
  ·exact iu h2 e) ini
 refine⟨(hc p).1.1,(hc p).1.2,fun m=>?_⟩
 rw[<-m3 m]
 refine(hc m).2.trans ?_
 congr 1
 rw[mw]
 by_cases c:p=m
 ·rw[if_pos c,if_pos c];rfl
 ·rw[if_neg c,if_neg c];rfl
theorem ye(ok:hU kd N K B) {ord:List (Str×Str)}:∀(i:Nat),i<=(ao kd).length->∀q∈(ao kd).reverse.take i,∃l,lkP (cF ord kd ((ao kd).reverse.take i)).2 q=some l/\m5 ord kd N B q l
 |0,_,q,h=>by rw[List.take_zero]at h;cases h
 |i+1,hi,q,h=>by
  have hl:i<(ao kd).reverse.length:=by rw[List.length_reverse];omega
  have hg:(ao kd).reverse[i]?=some (ao kd).reverse[i]:=List.getElem?_eq_getElem hl
  generalize (ao kd).reverse[i]=p at hg
  have hp:p∈ao kd:=List.mem_reverse.mp (List.mem_of_getElem? hg)
  have ih:=ye ok (ord:=ord) i (by omega)
  have hs:=vq ok (ord:=ord) (cn:=(cF ord kd ((ao kd).reverse.take i)).2) hp fun q hq hpq=>ih q (mG (kU ok.up) hg hq hpq)
  have e:cF ord kd ((ao kd).reverse.take (i+1))=i8 ord kd (cF ord kd ((ao kd).reverse.take i)) p:=by
   rw[List.take_add_one,hg]
   unfold cF
   rw[List.foldl_append];rfl
  rw[e]
  have e2:(i8 ord kd (cF ord kd ((ao kd).reverse.take i)) p).2=fj (cF ord kd ((ao kd).reverse.take i)).2 p (bA p (bh ord kd p ((lkP (cF ord kd ((ao kd).reverse.take i)).2 (nxt p)).getD [])) (cF ord kd ((ao kd).reverse.take i)).2):=rfl
  rw[e2,wa]
  by_cases c:p=q
  ·rw[if_pos c]
   subst c
   exact⟨_,rfl,hs.2.2⟩
  ·rw[if_neg c]
   refine ih q ?_
   rw[List.take_add_one,hg]at h
   rcases List.mem_append.mp h with h|h
   ·exact h
   ·exact absurd (by simpa using h:q=p).symm c
theorem rL{ord:List (Str×Str)}{m:Pl}:∀(ps:List Pl) (S:ChS),m∈(ps.foldl (i8 ord kd) S).2.map (·.1)->m∈ps∨m∈S.2.map (·.1)
 |[],S,h=>.inr h
 |p::ps,S,h=>by
  rcases rL ps (i8 ord kd S p) h with h|h
  ·exact .inl (.tail _ h)
  ·rcases jw h with e|e
   ·rw[e];exact .inl (.head _)
   ·exact .inr e
theorem tS(ok:hU kd N K B):(ao kd).length<=kd.length*(K*(B+1)):=by
 unfold ao
 rw[List.length_flatMap]
 refine dh fun q hq=>?_
 obtain⟨_,_,h1,h2⟩:=ok.bd q hq
 unfold gj
 rw[List.length_flatMap]
 refine Nat.le_trans (dh (m:=B+1) fun r hr=>?_) ?_
 ·unfold gB
  rw[List.length_map,List.length_range]
  have:=h2 r.1 (List.fst_mem_of_mem_zipIdx hr)
  omega
 ·rw[List.length_zipIdx]
  exact Nat.mul_le_mul_right _ h1
theorem vG(ok:hU kd N K B) (hK:K<=8) (hR:(N+2)*((B:Int)+1)<100) {ord:List (Str×Str)}{p m:Pl}(hp:p∈ao kd):Few (cnt (rel ord) (bu kd) (fR N B) p m:Int):=by
 have h1:=ok.rk hp
 have h2:=Cd (R:=rel ord) (rk:=fR N B) (k:=K) (f:=100) ok.bgl (p:=p) (q:=m) (by omega) (Nat.le_refl _)
 refine AX (Nat.le_trans h2 (Nat.mul_le_mul (Nat.pow_le_pow_left (show K+2<=2 ^ 4 by omega) _) (Nat.pow_le_pow_left (show 100<=2 ^ 7 by decide) _)))
theorem Am(ok:hU kd N K B) (hK:K<=8) (hR:(N+2)*((B:Int)+1)<100) (hl:kd.length*(K*(B+1))<=900) {ord:List (Str×Str)}(ho:ord.length<=500) {rows:List Row}(hN:(N,rows)∈kd) :
  BJ ord kd N/\∀p∈ao kd,∃l,lkP (cF ord kd (ao kd).reverse).2 p=some l/\m5 ord kd N B p l:=by
 have hA:(ao kd).length<=900:=Nat.le_trans (tS ok) hl
 have hr:=ye ok (ord:=ord)
 refine⟨⟨ho,fun q hq=>Nat.le_trans (ok.bd q hq).2.2.1 (by omega),?_,by omega,fun i p hi=>?_⟩,fun p hp=>?_⟩
 ·have hk:N∈kd.map (·.1):=List.mem_map.mpr ⟨_,hN,rfl⟩
  cases hm:kd.map (·.1)with
  |nil=>rw[hm]at hk;cases hk
  |cons a l =>
   obtain⟨h1,h2⟩:=km l a
   show some _=_
   congr 1
   rw[<-hm]at h1 h2
   have h3:=h1 N hk
   obtain⟨q,hq,e⟩:=List.mem_map.mp h2
   have h4:=(ok.bd q hq).2.1
   omega
 ·have hil:i<(ao kd).length:=by
   have:=(List.getElem?_eq_some_iff.mp hi).1
   rwa [List.length_reverse]at this
  have hp:p∈ao kd:=List.mem_reverse.mp (List.mem_of_getElem? hi)
  have hcn:∀q∈ao kd,plt p q->∃l,lkP (cF ord kd ((ao kd).reverse.take i)).2 q=some l/\m5 ord kd N B q l:=fun q hq hpq=>hr i (by omega) q (mG (kU ok.up) hi hq hpq)
  have aU:∀{q:Pl} {l:List (Pl×Int)},m5 ord kd N B q l->l.length<=900:=fun {q l} h=>by
   have:=dW (l.map (·.1)) (ao kd) h.1 fun y hy=>by
    obtain⟨z,hz,rfl⟩:=List.mem_map.mp hy
    exact(h.2.1 z hz).1
   rw[List.length_map]at this
   omega
  obtain⟨s1,s2,s3⟩:=vq ok hp hcn
  have hopt:(lkP (cF ord kd ((ao kd).reverse.take i)).2 (nxt p)).getD []=[]∨∃l,lkP (cF ord kd ((ao kd).reverse.take i)).2 (nxt p)=some l/\m5 ord kd N B (nxt p) l:=by
   by_cases c:nxt p∈ao kd
   ·exact .inr (hcn _ c iz)
   ·left
    rw[jO fun z=>c ?_];rfl
    rcases rL _ _ z with h|h
    ·exact List.mem_reverse.mp (List.mem_of_mem_take h)
    ·cases h
  refine⟨ok.valid hp,fun hs=>?_,fun z hz=>?_,?_,by omega,fun s hs=>?_⟩
  ·obtain⟨h1,_⟩:=ok.falls.sg p hp hs
   obtain⟨l,e,_⟩:=hcn (nxt p) h1 iz
   show(lkP _ (nxt p)).isSome=true
   rw[e];rfl
  ·rcases hopt with e|⟨l,e,h⟩
   ·rw[e]at hz;cases hz
   ·rw[e]at hz
    exact ok.valid (h.2.1 z hz).1
  ·rcases hopt with e|⟨l,e,h⟩
   ·rw[e];exact Nat.zero_le _
   ·rw[e];have:=aU h;show l.length<=_;omega
  ·obtain⟨h1,h2,h3⟩:=s1 s hs
   obtain⟨l,e,h⟩:=hcn _ h1 h2
   refine⟨l,e,by have:=aU h;omega,fun z hz=>?_⟩
   have hz2:Few z.2:=by
    have:z.2=(cnt (rel ord) (bu kd) (fR N B) s.2.1 z.1:Int):=by rw[<-h.2.2 z.1,p7 h.1 hz];rfl
    rw[this];exact vG ok hK hR h1
   have hs2:Few s.2.2:=by
    rcases h3 with h3|⟨m,h3,hn⟩
    ·rw[h3];exact Ek (by decide) (by decide)
    ·rw[h3];exact vG ok hK hR hn
   rw[Ga ⟨hs2,hz2⟩];trivial
 ·have:=hr _ (Nat.le_refl _) p (by rw[List.take_of_length_le (by rw[List.length_reverse];exact Nat.le_refl _)];exact List.mem_reverse.mpr hp)
  rwa [List.take_of_length_le (by rw[List.length_reverse];exact Nat.le_refl _)]at this
end
end
section
variable{P:Program}{w:World}{K:PySem.W.Frag}{mg:Str->Option Value}{base:Heap}
/-! ### the stretches from the cI to the end are the choices -/
def chR(af:List (Str×List Row)):List Str->List Row
 |[]=>[[]]
 |w::ws=>(kin af w).flatMap fun k=>(chR af ws).map fun s=>k++s
theorem vf{af:List (Str×List Row)}{w:Str}{P:List Row->Prop}(h0:P []) (h:∀e∈af,P e.2):P (kin af w):=by
 unfold kin
 induction af with
 |nil=>exact h0
 |cons e l ih =>
  rw[List.lookup_cons]
  by_cases c:(w==e.1)=true
  ·rw[c];exact h e (.head _)
  ·rw[Bool.not_eq_true]at c
   rw[c];exact ih fun x hx=>h x (.tail _ hx)
def gN(af:List (Str×List Row)) (K B:Nat):Prop:=∀e∈af,e.2.length<=K/\∀r∈e.2,r.length<=B
section
variable{af:List (Str×List Row)}{av:Str}{ws:List Str}{K B:Nat}
theorem j8{q:Int×List Row}:q∈bN af av ws↔q=(-1,[[]])∨(∃(i:Nat) (w:Str),ws[i]?=some w/\q=((i:Int),kin af w))∨q=((ws.length:Int),[[(av,1)]]):=by
 unfold bN cp
 rw[List.mem_append,List.mem_cons,List.mem_map,List.mem_singleton]
 constructor
 ·rintro((h|⟨t,ht,rfl⟩)|h)
  ·exact .inl h
  ·exact .inr (.inl ⟨t.2,t.1,List.mem_zipIdx_iff_getElem?.mp ht,rfl⟩)
  ·exact .inr (.inr h)
 ·rintro(h|⟨i,w,hi,rfl⟩|h)
  ·exact .inl (.inl h)
  ·exact .inl (.inr ⟨(w,i),List.mem_zipIdx_iff_getElem?.mpr hi,rfl⟩)
  ·exact .inr h
theorem yu(he:gN af K B) (hK:1<=K) (hB:1<=B):hU (bN af av ws) (ws.length:Int) K B where
 up:=by
  unfold bN
  rw[List.pairwise_append,List.pairwise_cons]
  have hlt:∀a∈cp af ws,0<=a.1/\a.1<(ws.length:Int):=fun a ha=>by
   obtain⟨t,ht,rfl⟩:=List.mem_map.mp ha
   have:=List.mem_zipIdx_iff_getElem?.mp ht
   have:=(List.getElem?_eq_some_iff.mp this).1
   show 0<=(t.2:Int)/\(t.2:Int)<_
   omega
  refine⟨⟨fun a ha=>?_,?_⟩,by simp,fun a ha b hb=>?_⟩
  ·have:=hlt a ha
   show(-1:Int)<a.1
   omega
  ·unfold cp
   rw[List.pairwise_map,List.pairwise_iff_getElem]
   intro i j hi hj hij
   simp only[List.getElem_zipIdx]
   omega
  ·rw[List.mem_singleton.mp hb]
   rcases List.mem_cons.mp ha with e|e
   ·rw[e];show(-1:Int)<(ws.length:Int);omega
   ·exact(hlt a e).2
 bd:=by
  intro q hq
  rcases j8.mp hq with e|⟨i,w,hi,e⟩|e
  ·rw[e]
   refine⟨Int.le_refl _,by show(-1:Int)<=_;omega,hK,fun r hr=>?_⟩
   rw[List.mem_singleton.mp hr];exact Nat.zero_le _
  ·have:=(List.getElem?_eq_some_iff.mp hi).1
   rw[e]
   have h:=vf (af:=af) (w:=w) (P:=fun rs=>rs.length<=K/\∀r∈rs,r.length<=B) ⟨Nat.zero_le _,fun _ h=>by cases h⟩ he
   exact⟨by show(-1:Int)<=(i:Int);omega,by show(i:Int)<=_;omega,h⟩
  ·rw[e]
   refine⟨by show(-1:Int)<=(ws.length:Int);omega,Int.le_refl _,hK,fun r hr=>?_⟩
   rw[List.mem_singleton.mp hr];exact hB
theorem p8{kd:KD}{N:Int}{K B:Nat}(ok:hU kd N K B) {q:Int×List Row}(hq:q∈kd) (hn:q.1≠N) {i:Nat}{row:Row}(hr:q.2[i]?=some row):∀(d j:Nat),j+d=row.length ->
  Sts (bu kd) (fR N B) (q.1,(i:Int),(j:Int)) (N,0,1)=((br kd (q.1,(i:Int),(0:Int))).flatMap fun b=>Sts (bu kd) (fR N B) b (N,0,1)).map fun s=>row.drop j++s
 |0,j,h=>by
  have hs:(bu kd).sg (q.1,(i:Int),(j:Int))=none:=by
   show cg _ _=_
   rw[ok.sgn hq hr,List.getElem?_eq_none (by omega)]
  have hne:(q.1,(i:Int),(j:Int))≠((N,0,1):Pl):=fun e=>hn (congrArg (·.1) e)
  rw[ia ok.falls (bx.mpr ⟨q,hq,i,row,j,hr,by omega,rfl⟩) hs,if_neg hne,List.nil_append,List.drop_of_length_le (by omega)]
  simp only[List.nil_append,List.map_id']
  rfl
 |d+1,j,h=>by
  have hj:j<row.length:=by omega
  have hs:(bu kd).sg (q.1,(i:Int),(j:Int))=some row[j]:=by
   show cg _ _=_
   rw[ok.sgn hq hr,List.getElem?_eq_getElem hj]
  have hne:(q.1,(i:Int),(j:Int))≠((N,0,1):Pl):=fun e=>hn (congrArg (·.1) e)
  rw[fM ok.falls (bx.mpr ⟨q,hq,i,row,j,hr,by omega,rfl⟩) hs,if_neg hne,List.nil_append]
  have ih:=p8 ok hq hn hr d (j+1) (by omega)
  have e:(bu kd).nx (q.1,(i:Int),(j:Int))=(q.1,(i:Int),((j+1:Nat):Int)):=by
   show(q.1,(i:Int),(j:Int)+1)=_
   rw[Int.natCast_add];rfl
  rw[e,ih,List.map_map,List.drop_eq_getElem_cons hj]
  rfl
theorem pR(he:gN af K B) (hK:1<=K) (hB:1<=B):∀(d n:Nat) (i:Int),n+d=ws.length ->
  ((br (bN af av ws) ((n:Int)-1,i,0)).flatMap fun b=>Sts (bu (bN af av ws)) (fR (ws.length:Int) B) b ((ws.length:Int),0,1))=(chR af (ws.drop n)).map fun s=>s++[(av,1)]
 |0,n,i,h=>by
  have ok:=yu (av:=av) (ws:=ws) he hK hB
  have hm:((ws.length:Int),[[(av,1)]])∈bN af av ws:=j8.mpr (.inr (.inr rfl))
  have hl:look (bN af av ws) (((n:Int)-1)+1)=some [[(av,1)]]:=by
   rw[show((n:Int)-1)+1=(ws.length:Int)by omega]
   exact lW ok.up hm
  have hl2:look (bN af av ws) ((ws.length:Int)+1)=none:=by
   cases hx:look (bN af av ws) ((ws.length:Int)+1)with
   |none=>rfl
   |some rs =>
    have:=(ok.bd _ (jY hx)).2.1
    exact absurd (show(ws.length:Int)+1<=ws.length from this) (by omega)
  have hb:br (bN af av ws) ((n:Int)-1,i,0)=[((ws.length:Int),0,0)]:=by
   unfold br
   show(List.range ((look (bN af av ws) (((n:Int)-1)+1)).getD []).length).map _=_
   rw[hl,show(((n:Int)-1,i,(0:Int)).1+1:Int)=(ws.length:Int)by show(n:Int)-1+1=_;omega]
   rfl
  rw[hb,List.drop_of_length_le (by omega)]
  have h0:(bu (bN af av ws)).sg ((ws.length:Int),0,0)=some (av,1):=ok.sgn (j:=0) hm (i:=0) rfl
  have h1:(bu (bN af av ws)).sg ((ws.length:Int),0,1)=none:=ok.sgn (j:=1) hm (i:=0) rfl
  have m0:((ws.length:Int),0,0)∈ao (bN af av ws):=bx.mpr ⟨_,hm,0,_,0,rfl,Nat.zero_le _,rfl⟩
  have m1:((ws.length:Int),0,1)∈ao (bN af av ws):=bx.mpr ⟨_,hm,0,_,1,rfl,Nat.le_refl _,rfl⟩
  rw[List.flatMap_cons,List.flatMap_nil,List.append_nil,fM ok.falls m0 h0,if_neg (by simp),List.nil_append]
  have e:(bu (bN af av ws)).nx ((ws.length:Int),0,0)=((ws.length:Int),0,1):=rfl
  rw[e,ia ok.falls m1 h1,if_pos rfl]
  have e2:(bu (bN af av ws)).bg ((ws.length:Int),0,1)=[]:=by
   show br _ _=_
   unfold br
   rw[hl2];rfl
  rw[e2];rfl
 |d+1,n,i,h=>by
  have ok:=yu (av:=av) (ws:=ws) he hK hB
  have hn:n<ws.length:=by omega
  have hm:((n:Int),kin af ws[n])∈bN af av ws:=j8.mpr (.inr (.inl ⟨n,ws[n],List.getElem?_eq_getElem hn,rfl⟩))
  have ih:=pR he hK hB d (n+1)
  have hl:look (bN af av ws) (((n:Int)-1)+1)=some (kin af ws[n]):=by
   rw[show((n:Int)-1)+1=(n:Int)by omega]
   exact lW ok.up hm
  have hb:br (bN af av ws) ((n:Int)-1,i,0)=(List.range (kin af ws[n]).length).map fun(k:Nat)=>((n:Int),(k:Int),0):=by
   unfold br
   show(List.range ((look (bN af av ws) (((n:Int)-1)+1)).getD []).length).map _=_
   rw[hl,show(((n:Int)-1,i,(0:Int)).1+1:Int)=(n:Int)by show(n:Int)-1+1=_;omega]
   rfl
  rw[hb,List.drop_eq_getElem_cons hn,chR,List.flatMap_map,List.map_flatMap]
  have e:kin af ws[n]=(List.range (kin af ws[n]).length).map fun k=>(kin af ws[n]).getD k []:=by
   refine List.ext_getElem (by simp) fun a h1 h2=>?_
   simp[h1]
  rw[show((kin af ws[n]).flatMap fun k=>((chR af (ws.drop (n+1))).map fun s=>k++s).map fun s=>s++[(av,1)])=(((List.range (kin af ws[n]).length).map fun k=>(kin af ws[n]).getD k []).flatMap fun k=>((chR af (ws.drop (n+1))).map fun s=>k++s).map fun s=>s++[(av,1)])by rw[<-e],List.flatMap_map]
  refine fV fun k hk=>?_
  have hk':=List.mem_range.mp hk
  have hr:(kin af ws[n])[k]?=some ((kin af ws[n]).getD k []):=by simp[hk']
  have r:=p8 ok hm (show(n:Int)≠(ws.length:Int)by omega) hr ((kin af ws[n]).getD k []).length 0 (by omega)
  have h3:(br (bN af av ws) ((n:Int),(k:Int),0))=br (bN af av ws) (((n+1:Nat):Int)-1,(k:Int),0):=by
   rw[show((n+1:Nat):Int)-1=(n:Int)by omega]
  refine r.trans ?_
  rw[h3,ih (k:Int) (by omega),List.map_map,List.map_map,List.drop_zero]
  refine List.map_congr_left fun s _=>?_
  simp[Function.comp_def]
theorem Ey{ord:List (Str×Str)}(he:gN af K B) (hK:1<=K) (hB:1<=B) (hK8:K<=8) (hR:(ws.length+2)*(B+1)<100) (hS:(ws.length+2)*(K*(B+1))<=900) (hl:af.length<=8) (ho:ord.length<=500) (hw:∀w∈ws,w∈af.map (·.1)/\gI w) :
  ph ord av af ws ((((chR af ws).map fun s=>W (rel ord) (s++[(av,1)])).sum:Nat):Int):=by
 have ok:=yu (av:=av) (ws:=ws) he hK hB
 have aU:(bN af av ws).length=ws.length+2:=by simp[bN,cp]
 have hm:((ws.length:Int),[[(av,1)]])∈bN af av ws:=j8.mpr (.inr (.inr rfl))
 have hs:cI∈ao (bN af av ws):=bx.mpr ⟨(-1,[[]]),j8.mpr (.inl rfl),0,[],0,rfl,Nat.le_refl _,rfl⟩
 have hR':((ws.length:Int)+2)*((B:Int)+1)<100:=by
  have:=Int.ofNat_lt.mpr hR
  simpa using this
 obtain⟨c1,c2⟩:=Am ok hK8 hR' (by rw[aU];exact hS) (ord:=ord) ho hm
 obtain⟨l,hl1,hl2⟩:=c2 cI hs
 refine⟨hl,?_,hw,_,l,c1,hl1,?_⟩
 ·have:ws.length+2<=(ws.length+2)*(B+1):=Nat.le_mul_of_pos_right _ (by omega)
  omega
 ·rw[hl2.2.2]
  congr 1
  unfold cnt
  have r:=p8 ok (q:=(-1,[[]])) (j8.mpr (.inl rfl)) (show(-1:Int)≠(ws.length:Int)by omega) (i:=0) (row:=[]) rfl 0 0 rfl
  have r2:=pR (av:=av) (ws:=ws) he hK hB ws.length 0 0 (by omega)
  have e:Sts (bu (bN af av ws)) (fR (ws.length:Int) B) cI ((ws.length:Int),0,1)=(chR af ws).map fun s=>s++[(av,1)]:=by
   refine r.trans ?_
   have e3:br (bN af av ws) (-1,((0:Nat):Int),(0:Int))=br (bN af av ws) (((0:Nat):Int)-1,0,0):=rfl
   rw[List.drop_zero]at r2
   show List.map (fun s=>[]++s) (List.flatMap _ (br (bN af av ws) (-1,((0:Nat):Int),(0:Int))))=_
   rw[e3,r2]
   simp only[List.nil_append,List.map_id']
  rw[e,List.map_map]
  rfl
end
end
section
variable{P:Program}{w:World}{K:PySem.W.Frag}{mg:Str->Option Value}{base:Heap}
def sg(row:List (Str×Int)) (i:Nat):Str×Int:=row.getD i ("",0)
theorem tq{f:Nat->Nat}:∀(L:Nat),(∀k,k<L->k % 2=1->f k=0)->((List.range L).map f).sum=((List.range ((L+1) / 2)).map fun j=>f (2*j)).sum
 |0,_=>rfl
 |1,_=>by simp
 |L+2,h=>by
  rw[List.range_succ,List.range_succ,List.map_append,List.map_append,List.sum_append,List.sum_append,tq L fun k h1 h2=>h k (by omega) h2]
  rw[show(L+2+1) / 2=(L+1) / 2+1 by omega,List.range_succ,List.map_append,List.sum_append]
  simp only[List.map_cons,List.map_nil,List.sum_cons,List.sum_nil,Nat.add_zero]
  by_cases e:L % 2=1
  ·rw[h L (by omega) e,show 2*((L+1) / 2)=L+1 by omega];omega
  ·rw[h (L+1) (by omega) (by omega),show 2*((L+1) / 2)=L by omega];omega
theorem nQ{σ:Type}(d:σ):∀(xs:List σ),kl xs=(List.range xs.length).map fun k=>(xs.take k,xs.getD k d,xs.drop (k+1))
 |[]=>rfl
 |x::xs=>by
  rw[kl,nQ d xs,List.length_cons,List.range_succ_eq_map,List.map_cons,List.map_map,List.map_map]
  rfl
def seg(row:List (Str×Int)) (b e:Nat):List (Str×Int):=(row.drop b).take (e-b)
theorem vg{row:List (Str×Int)}{b e:Nat}(h:e<=row.length):(seg row b e).length=e-b:=by
 unfold seg;rw[List.length_take,List.length_drop];omega
theorem xD{row:List (Str×Int)}{b:Nat}:seg row b b=[]:=by unfold seg;simp
theorem Bp{row:List (Str×Int)}:seg row 0 row.length=row:=by unfold seg;simp
theorem zm{row:List (Str×Int)}{b e:Nat}(h:b<e) (he:e<=row.length):seg row b e=sg row b::seg row (b+1) e:=by
 unfold seg
 have hb:b<row.length:=by omega
 rw[List.drop_eq_getElem_cons hb,show e-b=(e-(b+1))+1 by omega,List.take_succ_cons]
 simp[sg,hb]
theorem yQ{row:List (Str×Int)}{b e k:Nat}(h:b+k<=e):(seg row b e).take k=seg row b (b+k):=by
 unfold seg
 rw[List.take_take,Nat.min_eq_left (by omega),show b+k-b=k by omega]
theorem yF{row:List (Str×Int)}{b e k:Nat}:(seg row b e).drop k=seg row (b+k) e:=by
 unfold seg
 rw[List.drop_take,List.drop_drop,show e-b-k=e-(b+k)by omega]
theorem EL{row:List (Str×Int)}{b e k:Nat}(h:b+k<e):(seg row b e).getD k ("",0)=sg row (b+k):=by
 unfold seg sg
 rw[List.getD_eq_getElem?_getD,List.getElem?_take,if_pos (by omega),List.getElem?_drop,List.getD_eq_getElem?_getD]
section
variable{R:Str×Int->Str×Int->Bool}{row:List (Str×Int)}
theorem GN{b e:Nat}(h:b<e) (he:e<=row.length):W R (seg row b e)=((List.range ((e-b) / 2)).map fun j=>if R (sg row b) (sg row (b+1+2*j))=true then W R (seg row (b+1) (b+1+2*j))*W R (seg row (b+1+2*j+1) e)else 0).sum:=by
 rw[zm h he,qy,nQ (σ:=Str×Int) ("",0),List.map_map,vg he]
 have e1:((List.range (e-(b+1))).map ((fun c=>if R (sg row b) c.2.1=true then W R c.1*W R c.2.2 else 0)∘fun k=>((seg row (b+1) e).take k,(seg row (b+1) e).getD k ("",0),(seg row (b+1) e).drop (k+1)))).sum
  =((List.range (e-(b+1))).map fun k=>if R (sg row b) (sg row (b+1+k))=true then W R (seg row (b+1) (b+1+k))*W R (seg row (b+1+k+1) e)else 0).sum:=by
  congr 1
  apply List.map_congr_left
  intro k hk
  have hk':=List.mem_range.mp hk
  simp only[Function.comp_def]
  rw[EL (by omega),yQ (by omega),yF]
  rfl
 rw[e1,tq _ fun k hk ho=>?_,show(e-(b+1)+1) / 2=(e-b) / 2 by omega]
 by_cases c:R (sg row b) (sg row (b+1+k))=true
 ·rw[if_pos c,CS _ (seg row (b+1) (b+1+k)) (Nat.le_refl _) (by rw[vg (by omega)];omega),Nat.zero_mul]
 ·rw[if_neg c]
end
theorem ut{b e b' e':Nat}:([Sum.inl (b:Int),Sum.inl (e:Int)]:List Key)=[Sum.inl (b':Int),Sum.inl (e':Int)]↔b=b'/\e=e':=by
 simp only[List.cons.injEq,Sum.inl.injEq,and_true,Int.natCast_inj]
theorem p9{α:Type}{f:α->Nat}:∀{l:List α},(l.map f).sum≠0↔∃x∈l,f x≠0
 |[]=>by simp
 |x::l=>by
  rw[List.map_cons,List.sum_cons]
  have ih:=p9 (f:=f) (l:=l)
  constructor
  ·intro h
   by_cases c:f x=0
   ·obtain⟨y,hy,hy2⟩:=ih.mp (by omega)
    exact⟨y,.tail _ hy,hy2⟩
   ·exact⟨x,.head _,c⟩
  ·rintro⟨y,hy,h⟩
   rcases List.mem_cons.mp hy with rfl|hy
   ·omega
   ·have:=ih.mpr ⟨y,hy,h⟩
    omega
theorem wx{R:Str×Int->Str×Int->Bool}{row:List (Str×Int)}{b e:Nat}(h:b<e) (he:e<=row.length):W R (seg row b e)≠0↔∃j<(e-b) / 2,R (sg row b) (sg row (b+1+2*j))=true/\W R (seg row (b+1) (b+1+2*j))≠0/\W R (seg row (b+1+2*j+1) e)≠0:=by
 rw[GN h he,p9]
 constructor
 ·rintro⟨j,hj,h⟩
  refine⟨j,List.mem_range.mp hj,?_⟩
  by_cases c:R (sg row b) (sg row (b+1+2*j))=true
  ·rw[if_pos c]at h
   exact⟨c,fun z=>h (by rw[z,Nat.zero_mul]),fun z=>h (by rw[z,Nat.mul_zero])⟩
  ·rw[if_neg c]at h;exact absurd rfl h
 ·rintro⟨j,hj,c,h1,h2⟩
  refine⟨j,List.mem_range.mpr hj,?_⟩
  rw[if_pos c]
  exact Nat.mul_ne_zero h1 h2
open Classical in
def tab(R:Str×Int->Str×Int->Bool) (row:List (Str×Int)) (L j b e:Nat):Option D:=if b<=e/\e<=row.length/\(e-b) % 2=0/\(e-b<L∨(e-b=L/\b<j))/\W R (seg row b e)≠0 then some (.bl true)else none
def Tab(R:Str×Int->Str×Int->Bool) (row:List (Str×Int)) (L j:Nat) (kvs:List (List Key×D)):Prop:=∀b e:Nat,bq kvs [.inl (b:Int),.inl (e:Int)]=tab R row L j b e
theorem jq{R:Str×Int->Str×Int->Bool}{row:List (Str×Int)}{L j b e:Nat}:(tab R row L j b e).isSome=true↔b<=e/\e<=row.length/\(e-b) % 2=0/\(e-b<L∨(e-b=L/\b<j))/\W R (seg row b e)≠0:=by
 unfold tab
 split
 ·rename_i h;exact⟨fun _=>h,fun _=>rfl⟩
 ·rename_i h;exact⟨fun z=>(by cases z),fun z=>absurd z h⟩
theorem pF{R:Str×Int->Str×Int->Bool}{row:List (Str×Int)}{L j L' j' b e:Nat}(h:(b<=e/\e<=row.length/\(e-b) % 2=0/\(e-b<L∨(e-b=L/\b<j))/\W R (seg row b e)≠0)↔(b<=e/\e<=row.length/\(e-b) % 2=0/\(e-b<L'∨(e-b=L'/\b<j'))/\W R (seg row b e)≠0)):tab R row L j b e=tab R row L' j' b e:=by
 unfold tab
 by_cases c:b<=e/\e<=row.length/\(e-b) % 2=0/\(e-b<L∨(e-b=L/\b<j))/\W R (seg row b e)≠0
 ·rw[if_pos c,if_pos (h.mp c)]
 ·rw[if_neg c,if_neg (fun z=>c (h.mpr z))]
end
section
variable{P:Program}{w:World}{K:PySem.W.Frag}{mg:Str->Option Value}{base:Heap}
def nH:SpD:=fun ds M R=>∃(ord:List (Str×Str)) (row:Row),ds=[.tup (ord.map aF),aB row]/\ord.length<=500/\row.length<=24/\R (.bl (decide (W (rel ord) row≠0))) M
theorem tF{f:Addr}{fd:FuncData}(F:Fun K "_law_wholly" "_law_wholly" jd f fd) (T:Txt K mg) (g_l_cancels:FnD P w K mg base "_law_cancels" 2 3 ll):aX P w K mg base CX0 3 f fd ["_law_order_here","_law_row"] (spD K 2 nH):=by
 have nd:=k7.nd
 refine F.okQ rfl k7 (fun cdv A outer s H E hr=>⟨_,(ah (aK (i:=2) nd rfl (Or.inl rfl) (aY cZ rfl T.b_len (by kernel_rfl) (ae (ab 1) ag)))
   (ah (aK (i:=3) nd rfl (Or.inl rfl) DP)
   (ah (bO PassesOwn.never rfl (bI rfl T.b_range (ae (aP aM (ab 2) ak) ag)) (aG (i:=4) nd rfl (Or.inl rfl)) (aq (zw hr.units1 (ab 3) (ae (ab 4) (ae (ab 4) ag)) wD)))
   (ah (bO PassesOwn.never rfl (vn rfl T.b_range (ae ak (ae (aP aM (ab 2) ak) (ae ak ag)))) (aG (i:=5) nd rfl (Or.inl rfl)) (aq (bO PassesOwn.never rfl (bI rfl T.b_range (ae (aP aM (aP yn (ab 2) (ab 5)) ak) ag)) (aG (i:=4) nd rfl (Or.inl rfl)) (aq (bO PassesOwn.never rfl (vn rfl T.b_range (ae (aP aM (ab 4) ak) (ae (aP aM (ab 4) (ab 5)) (ae ak ag)))) (aG (i:=6) nd rfl (Or.inl rfl)) (aq (cz (ug (kz (Aa false rfl hr.units1 (ae (aP aM (ab 4) ak) (ae (ab 6) ag)) (ab 3) rfl) (kz (Aa false rfl hr.units1 (ae (aP aM (ab 6) ak) (ae (aP aM (ab 4) (ab 5)) ag)) (ab 3) rfl) (jZ (uQ (qd g_l_cancels hr (ae (ab 0) (ae (bc ba (ab 1) (ab 4) (fun _ _=>rfl)) (ae (bc ba (ab 1) (ab 6) (fun _ _=>rfl)) ag))))))))) (aq (zw hr.units1 (ab 3) (ae (ab 4) (ae (aP aM (ab 4) (ab 5)) ag)) wD)) bD)))))))
   (aq (nW (G0 false rfl hr.units1 (ae ak (ae (ab 2) ag)) (ab 3) rfl))))))),fun ds M R hl hS=>?_⟩)
 obtain⟨ord,row,rfl,ho,hl,k⟩:=hS
 simp only[aB]
 walk_at "rd"
 intro p hp
 rw[List.length_map]
 refine⟨by omega,by omega,?_⟩
 rw[show((row.length:Int)+1).toNat=row.length+1 by omega]
 refine aE (fun i Δ M'=>∃kvs x4,Δ=[some (D.tup (ord.map aF)),some (D.tup (row.map aL)),some (D.int row.length),some (D.ref p),x4,none,none]/\M'=au M p (.dT kvs)/\(∀b e:Nat,bq kvs [.inl (b:Int),.inl (e:Int)]=if b=e/\b<i then some (.bl true)else none)/\kvs.length<=i)
  ⟨[],none,rfl,rfl,fun b e=>by rw[if_neg (by omega)];rfl,Nat.le_refl _⟩ ?_ ?_
 ·rintro i d Δ M' X hd ⟨kvs,x4,rfl,rfl,hv,hk⟩ k'
  obtain⟨hi,rfl⟩:=cw hd
  rw[Int.zero_add]
  simp only[bf]
  walk_at "rd"
  refine⟨sz3 2,Nat.lt_of_lt_of_le (by omega:kvs.length<1000) (sz3 1000),?_⟩
  refine k' _ _ ⟨_,_,rfl,rfl,fun b e=>?_,Nat.le_trans (k5 _ _ _) (by omega)⟩
  rw[md,hv b e]
  by_cases c:b=i/\e=i
  ·rw[if_pos (ut.mpr c),if_pos (by omega)]
  ·rw[if_neg (fun z=>c (ut.mp z))]
   by_cases g:b=e/\b<i
   ·rw[if_pos g,if_pos (by omega)]
   ·rw[if_neg g,if_neg (by omega)]
 rintro Δ M' ⟨kvs,x4,rfl,rfl,hv,hk⟩
 rw[bL]at hv hk
 walk_at "rd"
 refine⟨_,_,_,⟨rfl,rfl,rfl⟩,Or.inl rfl,⟨by omega,by omega,by omega,by omega⟩,?_⟩
 have hsz:szR 2 ((row.length:Int)+1) 2=row.length / 2:=by
  unfold szR Builtin.Range.rangeSize
  simp
  omega
 rw[hsz]
 refine aE (fun i Δ M'=>∃(kvs:List (List Key×D)) (x4 x5 x6:Option D),Δ=[some (D.tup (ord.map aF)),some (D.tup (row.map aL)),some (D.int row.length),some (D.ref p),x4,x5,x6]/\M'=au M p (.dT kvs)/\Tab (rel ord) row (2+2*i) 0 kvs/\kvs.length<=100+10000*i)
  ⟨kvs,_,none,none,rfl,rfl,fun b e=>?_,by omega⟩ ?_ ?_
 ·rw[hv b e]
  by_cases c:b=e/\b<row.length+1
  ·rw[if_pos c]
   unfold tab
   rw[if_pos ⟨by omega,by omega,by omega,by omega,by rw[c.1,xD,tO];decide⟩]
  ·rw[if_neg c]
   unfold tab
   rw[if_neg (by omega)]
 ·rintro i d Δ M' X hd ⟨kvs,x4,x5,x6,rfl,rfl,hT,hkl⟩ k'
  obtain⟨hi,rfl⟩:=nk hd
  have eL:(2:Int)+(i:Int)*2=((2+2*i:Nat):Int):=by omega
  rw[eL]
  generalize hL:2+2*i=L at *
  have hLn:L<=row.length:=by omega
  simp only[bf]
  walk_at "rd"
  refine⟨by omega,by omega,?_⟩
  rw[show((row.length:Int)-(L:Int)+1).toNat=row.length-L+1 by omega]
  refine aE (fun j Δ M'=>∃(kvs:List (List Key×D)) (x4 x6:Option D),Δ=[some (D.tup (ord.map aF)),some (D.tup (row.map aL)),some (D.int row.length),some (D.ref p),x4,some (D.int L),x6]/\M'=au M p (.dT kvs)/\Tab (rel ord) row L j kvs/\kvs.length<=100+10000*i+100*j)
   ⟨kvs,_,_,rfl,rfl,hT,hkl⟩ ?_ ?_
  ·rintro j d Δ M' X' hd2 ⟨kvs,x4,x6,rfl,rfl,hT,hkl⟩ k2
   obtain⟨hj,rfl⟩:=cw hd2
   rw[Int.zero_add]
   simp only[bf]
   walk_at "rd"
   refine⟨_,_,_,⟨rfl,rfl,rfl⟩,Or.inl rfl,⟨by omega,by omega,by omega,by omega⟩,?_⟩
   have hsz2:szR ((j:Int)+1) ((j:Int)+(L:Int)) 2=L / 2:=by
    unfold szR Builtin.Range.rangeSize
    simp
    omega
   rw[hsz2]
   refine aE (fun t Δ M'=>∃(kvs:List (List Key×D)) (x6:Option D),Δ=[some (D.tup (ord.map aF)),some (D.tup (row.map aL)),some (D.int row.length),some (D.ref p),some (D.int j),some (D.int L),x6]/\M'=au M p (.dT kvs) /\
     (∀b e:Nat,¬ (b=j/\e=j+L)->bq kvs [.inl (b:Int),.inl (e:Int)]=tab (rel ord) row L j b e) /\
     (bq kvs [.inl (j:Int),.inl ((j+L:Nat):Int)]=none∨bq kvs [.inl (j:Int),.inl ((j+L:Nat):Int)]=some (.bl true)) /\
     ((bq kvs [.inl (j:Int),.inl ((j+L:Nat):Int)]).isSome=true↔∃u<t,rel ord (sg row j) (sg row (j+1+2*u))=true/\W (rel ord) (seg row (j+1) (j+1+2*u))≠0/\W (rel ord) (seg row (j+1+2*u+1) (j+L))≠0)/\kvs.length<=100+10000*i+100*j+t)
    ⟨kvs,_,rfl,rfl,fun b e _=>hT b e,?_,?_,hkl⟩ ?_ ?_
   ·left
    rw[hT];unfold tab
    rw[if_neg (by omega)]
   ·rw[hT,jq]
    constructor
    ·intro h;omega
    ·rintro⟨u,hu,_⟩;omega
   ·rintro t d Δ M' X3 hd3 ⟨kvs,x6,rfl,rfl,h1,h2,h3,h4⟩ k3
    obtain⟨ht,rfl⟩:=nk hd3
    have et:(j:Int)+1+(t:Int)*2=((j+1+2*t:Nat):Int):=by omega
    rw[et]
    simp only[bf]
    walk_at "rd"
    have b1:j<row.length:=by omega
    have b2:j+1+2*t<row.length:=by omega
    have b3:kvs.length<16000000:=by omega
    have hrow:∀a,a<row.length->atI (row.map aL) (a:Int)=some (aL (sg row a)):=fun a ha=>bS (by simp[sg,ha])
    have v1:=h1 (j+1) (j+1+2*t) (by omega)
    have v2:=h1 (j+1+2*t+1) (j+L) (by omega)
    have c1:(bq kvs [.inl ((j:Int)+1),.inl ((j+1+2*t:Nat):Int)]).isSome=decide (W (rel ord) (seg row (j+1) (j+1+2*t))≠0):=by
     rw[show(j:Int)+1=((j+1:Nat):Int)by omega,v1,Bool.eq_iff_iff,jq,decide_eq_true_eq]
     exact⟨fun h=>h.2.2.2.2,fun h=>⟨by omega,by omega,by omega,by omega,h⟩⟩
    have c2:(bq kvs [.inl (((j+1+2*t:Nat):Int)+1),.inl ((j:Int)+(L:Int))]).isSome=decide (W (rel ord) (seg row (j+1+2*t+1) (j+L))≠0):=by
     rw[show((j+1+2*t:Nat):Int)+1=((j+1+2*t+1:Nat):Int)by omega,show(j:Int)+(L:Int)=((j+L:Nat):Int)by omega,v2,Bool.eq_iff_iff,jq,decide_eq_true_eq]
     exact⟨fun h=>h.2.2.2.2,fun h=>⟨by omega,by omega,by omega,by omega,h⟩⟩
    have hsp:∀P:Nat->Prop,(∃u<t+1,P u)↔(∃u<t,P u)∨P t:=fun P=>⟨fun⟨u,h,q⟩=>by
     by_cases c:u=t
     ·exact .inr (c▸q)
     ·exact .inl ⟨u,by omega,q⟩,fun h=>h.elim (fun⟨u,h,q⟩=>⟨u,by omega,q⟩) fun q=>⟨t,by omega,q⟩⟩
    have no:¬ (rel ord (sg row j) (sg row (j+1+2*t))=true/\W (rel ord) (seg row (j+1) (j+1+2*t))≠0/\W (rel ord) (seg row (j+1+2*t+1) (j+L))≠0)->X3 [some (D.tup (ord.map aF)),some (D.tup (row.map aL)),some (D.int row.length),some (D.ref p),some (D.int j),some (D.int L),some (D.int ((j+1+2*t:Nat):Int))] (au M p (.dT kvs)):=fun hn =>
     k3 _ _ ⟨kvs,_,rfl,rfl,h1,h2,by rw[hsp,h3];exact⟨.inl,fun z=>z.resolve_right hn⟩,by omega⟩
    refine⟨sz3 2,?_⟩
    rw[c1,Bool.false_xor]
    refine i9 (fun g1=>⟨sz3 2,?_⟩) (fun g1=>no fun z=>g1 (decide_eq_true z.2.1))
    rw[c2,Bool.false_xor]
    refine i9 (fun g2=>?_) (fun g2=>no fun z=>g2 (decide_eq_true z.2.2))
    refine⟨_,hrow j b1,_,hrow _ b2,ord,sg row j,sg row (j+1+2*t),rfl,ho,_,rfl,?_⟩
    refine i9 (fun g3=>⟨sz3 2,kvs,ai,Nat.lt_of_lt_of_le b3 (szB 16000000),?_⟩) (fun g3=>no fun z=>g3 z.1)
    rw[ay,show(j:Int)+(L:Int)=((j+L:Nat):Int)by omega]
    have hput:bq (fw kvs [.inl (j:Int),.inl ((j+L:Nat):Int)] (.bl true)) [.inl (j:Int),.inl ((j+L:Nat):Int)]=some (.bl true):=by rw[md,if_pos rfl]
    refine k3 _ _ ⟨_,_,rfl,rfl,fun b e c=>?_,.inr hput,?_,Nat.le_trans (k5 _ _ _) (by omega)⟩
    ·rw[md,if_neg (fun z=>c (ut.mp z)),h1 b e c]
    ·rw[hput,hsp]
     exact⟨fun _=>.inr ⟨g3,of_decide_eq_true g1,of_decide_eq_true g2⟩,fun _=>rfl⟩
   ·rintro Δ M' ⟨kvs,x6,rfl,rfl,h1,h2,h3,h4⟩
    have e2:(qP ((j:Int)+1) 2 (L / 2)).length=L / 2:=by simp[qP]
    rw[e2]at h3 h4
    refine k2 _ _ ⟨kvs,_,_,rfl,rfl,fun b e=>?_,by omega⟩
    by_cases c:b=j/\e=j+L
    ·obtain⟨rfl,rfl⟩:=c
     have hW:=wx (R:=rel ord) (row:=row) (show b<b+L by omega) (by omega)
     rw[Nat.add_sub_cancel_left,<-h3]at hW
     by_cases g:W (rel ord) (seg row b (b+L))≠0
     ·unfold tab
      rw[if_pos ⟨by omega,by omega,by omega,by omega,g⟩]
      rcases h2 with q|q
      ·rw[q]at hW;exact absurd (hW.mp g) (by simp)
      ·exact q
     ·unfold tab
      rw[if_neg (fun z=>g z.2.2.2.2)]
      rcases h2 with q|q
      ·exact q
      ·rw[q]at hW;exact absurd (hW.mpr rfl) g
    ·rw[h1 b e c]
     refine pF ⟨fun z=>⟨z.1,z.2.1,z.2.2.1,by omega,z.2.2.2.2⟩,fun z=>⟨z.1,z.2.1,z.2.2.1,by omega,z.2.2.2.2⟩⟩
  ·rintro Δ M' ⟨kvs,x4,x6,rfl,rfl,hT,hkl⟩
   rw[bL]at hT hkl
   refine k' _ _ ⟨kvs,_,_,_,rfl,rfl,fun b e=>?_,by omega⟩
   rw[hT b e]
   refine pF ⟨fun z=>⟨z.1,z.2.1,z.2.2.1,by omega,z.2.2.2.2⟩,fun z=>⟨z.1,z.2.1,z.2.2.1,by omega,z.2.2.2.2⟩⟩
 ·rintro Δ M' ⟨kvs,x4,x5,x6,rfl,rfl,hT,hkl⟩
  have e2:(qP 2 2 (row.length / 2)).length=row.length / 2:=by simp[qP]
  rw[e2]at hT
  walk_at "rd"
  refine⟨sz3 2,M,pY hp,?_⟩
  have h:=hT 0 row.length
  have e:(bq kvs [Sum.inl 0,Sum.inl (row.length:Int)]).isSome=decide (W (rel ord) row≠0):=by
   rw[show bq kvs [Sum.inl 0,Sum.inl (row.length:Int)]=_ from h,Bool.eq_iff_iff,jq,decide_eq_true_eq,Bp]
   refine⟨fun z=>z.2.2.2.2,fun z=>⟨by omega,by omega,?_,?_,z⟩⟩
   ·by_cases c:row.length % 2=0
    ·omega
    ·exact absurd (CS _ row (Nat.le_refl _) (by omega)) z
   ·omega
  rw[e,Bool.false_xor]
  exact k
end
section
variable{P:Program}{w:World}{K:PySem.W.Frag}{mg:Str->Option Value}{base:Heap}
def eS(af:List (Str×List Row)) (rows:List Row) (w:Str):List Row:=(kin af w).flatMap fun k=>rows.map fun r=>r++k
def oE(af:List (Str×List Row)) (ws:List Str):List Row:=ws.foldl (eS af) [[]]
theorem tE{w:Str}{g:Row->List Row}:∀{af:List (Str×List Row)},(af.map (·.1)).Nodup->(af.flatMap fun e=>if e.1=w then e.2.flatMap g else[])=(kin af w).flatMap g
 |[],_=>rfl
 |e::l,h=>by
  rw[List.map_cons,List.nodup_cons]at h
  have ih:=tE (w:=w) (g:=g) h.2
  rw[List.flatMap_cons,ih]
  unfold kin
  rw[List.lookup_cons]
  by_cases c:e.1=w
  ·have h0:l.lookup w=none:=by
    rw[List.lookup_eq_none_iff]
    intro p hp
    simpa using fun q:w=p.1=>h.1 (by rw[c,q];exact List.mem_map.mpr ⟨p,hp,rfl⟩)
   rw[if_pos c,h0,show(w==e.1)=true by simp[c]]
   simp
  ·rw[if_neg c,show(w==e.1)=false by simpa using fun q:w=e.1=>c q.symm]
   rfl
theorem yd{α β:Type}{f:α->List β}{m:Nat}{l:List α}(h:∀x∈l,(f x).length<=m):(l.flatMap f).length<=l.length*m:=by
 rw[List.length_flatMap];exact dh h
theorem rf{af:List (Str×List Row)}{K B:Nat}(he:gN af K B):∀(ws:List Str) (rows:List Row) (n m:Nat),rows.length<=n->(∀r∈rows,r.length<=m)->(ws.foldl (eS af) rows).length<=K ^ ws.length*n/\∀r∈ws.foldl (eS af) rows,r.length<=m+B*ws.length
 |[],rows,n,m,h1,h2=>by simpa using⟨h1,h2⟩
 |w::ws,rows,n,m,h1,h2=>by
  have hk:=vf (af:=af) (w:=w) (P:=fun rs=>rs.length<=K/\∀r∈rs,r.length<=B) ⟨Nat.zero_le _,fun _ h=>by cases h⟩ he
  have ih:=rf he ws (eS af rows w) (K*n) (m+B) (by
   unfold eS
   refine Nat.le_trans (yd (m:=n) fun k _=>by rw[List.length_map];exact h1) (Nat.mul_le_mul_right _ hk.1)) (by
   intro r hr
   obtain⟨k,hk',hr⟩:=List.mem_flatMap.mp hr
   obtain⟨s,hs,rfl⟩:=List.mem_map.mp hr
   rw[List.length_append]
   exact Nat.add_le_add (h2 s hs) (hk.2 k hk'))
  rw[List.foldl_cons,List.length_cons,Nat.pow_succ,Nat.mul_assoc,Nat.mul_succ]
  refine⟨ih.1,fun r hr=>?_⟩
  have:=ih.2 r hr
  omega
theorem qm{af:List (Str×List Row)}{s:Row}:∀{ws:List Str}{rows:List Row},s∈ws.foldl (eS af) rows↔∃a∈rows,∃b∈chR af ws,s=a++b
 |[],rows=>by simp[chR]
 |w::ws,rows=>by
  rw[List.foldl_cons,qm]
  simp only[eS,chR,List.mem_flatMap,List.mem_map]
  constructor
  ·rintro⟨a,⟨k,hk,r,hr,rfl⟩,b,hb,rfl⟩
   exact⟨r,hr,k++b,⟨k,hk,b,hb,rfl⟩,by simp⟩
  ·rintro⟨r,hr,x,⟨k,hk,b,hb,rfl⟩,rfl⟩
   exact⟨r++k,⟨k,hk,r,hr,rfl⟩,b,hb,by simp⟩
theorem DM{l:List Bool}:AY (.lst (l.map D.bl))=some (.bl (l.any id)):=by
 have h1:(l.map D.bl).all uM=true:=by rw[List.all_map,List.all_eq_true];intro _ _;rfl
 simp only[AY,h1,if_true]
 rw[List.any_map];rfl
def gx:SpD:=fun ds M R=>∃(ord:List (Str×Str)) (av:Str) (af:List (Str×List Row)) (ws:List Str),ds=[bJ ord av af,wsD ws]/\ord.length<=500/\af.length<=8/\(af.map (·.1)).Nodup/\gN af 2 3/\ws.length<=4 /\
 R (.bl (decide (0<((chR af ws).map fun s=>W (rel ord) (s++[(av,1)])).sum))) M
theorem kf{f:Addr}{fd:FuncData}(F:Fun K "_law_is_sentence" "_law_is_sentence" bV f fd) (T:Txt K mg) (g_l_wholly:FnD P w K mg base "_law_wholly" 3 2 nH):aX P w K mg base CX0 4 f fd ["_law_lexicon_here","_law_words"] (spD K 2 gx):=by
 have nd:=fF.nd
 refine F.okQ rfl fF (fun cdv A outer s H E hr=>⟨_,(ah (aK (i:=2) nd rfl (Or.inl rfl) (iV (ae (bH ag) ag)))
   (ah (bO PassesOwn.never rfl (bz (ab 1)) (aG (i:=3) nd rfl (Or.inl rfl)) (ah (aK (i:=4) nd rfl (Or.inl rfl) (iV ag))
   (ah (bO PassesOwn.never rfl (bz (bc ba (ab 0) ak (fun _ _=>rfl))) (lb rfl (bM (aG (i:=5) nd rfl (Or.inl rfl)) (bM (aG (i:=6) nd rfl (Or.inl rfl)) lr))) (aq (cz (aR (lF hr.units) (ab 5) (ab 3) nbh) (aq (bO PassesOwn.never rfl (bz (ab 6)) (aG (i:=7) nd rfl (Or.inr rfl)) (aq (aK (i:=4) nd rfl (Or.inl rfl) (aP aM (ab 4) (j6 (ms:=[false,false,false,false,false,false,false,true]) (ar:=["_law_row"]) (aW rfl (show bt (aj bV) bT _ _=true from by decide +kernel)) rfl (bz (ab 2)) (aN (i:=8) (show(bT++_).Nodup from by decide +kernel) rfl rfl) (fun _ _ _ _=>cC) (fun _ _ _ _=>(aP aM (ab 8) (ab 7))))))))) bD)))
   (aq (aK (i:=2) nd rfl (Or.inl rfl) (ab 4))))))
   (aq (aO (aY (GB rfl) rfl T.b_any (by kernel_rfl) (ae (j6 (ms:=[true,false,false,false,false,false,false,false]) (ar:=["_law_row"]) (aW rfl (show bt (aj bV) bT _ _=true from by decide +kernel)) rfl (bz (ab 2)) (aN (i:=8) (show(bT++_).Nodup from by decide +kernel) rfl rfl) (fun _ _ _ _=>cC) (fun _ _ _ _=>(qd g_l_wholly hr (ae (bc ba (ab 0) ak (fun _ _=>rfl)) (ae (aP aM (ab 8) (bH (ae (bH (ae (bc ba (ab 0) ak (fun _ _=>rfl)) (ae ak ag))) ag))) ag))))) ag)))))),fun ds M R hl hS=>?_⟩)
 obtain⟨ord,av,af,ws,rfl,ho,hl,hnd,he,hw,k⟩:=hS
 simp only[bJ,wsD]
 walk_at "rd"
 refine⟨Nat.zero_le _,by rw[sizeLine_eq];decide,fun _=>?_⟩
 refine aE (fun i Δ M'=>∃x3 x4 x5 x6 x7,Δ=[some (D.tup [D.tup (ord.map aF),D.str av,D.tup (af.map dB)]),some (D.tup (ws.map D.str)),some (D.lst ((oE af (ws.take i)).map aB)),x3,x4,x5,x6,x7]/\M'=M) ⟨_,_,_,_,_,rfl,rfl⟩ ?_ ?_
 ·rintro i d Δ M' X hd ⟨x3,x4,x5,x6,x7,rfl,rfl⟩ k'
  obtain⟨w,hwi,rfl⟩:=cO hd
  have hi:i<ws.length:=(List.getElem?_eq_some_iff.mp hwi).1
  have hti:(ws.take i).length=i:=by rw[List.length_take];omega
  have kM:=rf he (ws.take i) [[]] 1 0 (Nat.le_refl _) (by simp)
  rw[hti]at kM
  have h16:2 ^ i*1<=8:=by
   rw[Nat.mul_one]
   exact Nat.le_trans (Nat.pow_le_pow_right (by decide) (show i<=3 by omega)) (by decide)
  have hnext:oE af (ws.take (i+1))=eS af (oE af (ws.take i)) w:=by
   unfold oE
   rw[List.take_add_one,hwi,List.foldl_append];rfl
  change (oE af (ws.take i)).length<=_/\(∀r∈oE af (ws.take i),_)at kM
  generalize oE af (ws.take i)=rows at *
  have hr1:rows.length<=8:=by omega
  refine⟨_,rfl,?_⟩
  simp only[tm,oG,BP,fu,wW,j5,bK,dOp,dC]
  refine⟨Nat.zero_le _,_,rfl,_,rfl,_,rfl,fun _=>?_⟩
  refine aE (fun j Δ M1=>∃x5 x6 x7 out,Δ=[some (D.tup [D.tup (ord.map aF),D.str av,D.tup (af.map dB)]),some (D.tup (ws.map D.str)),some (D.lst (rows.map aB)),some (D.str w),some (D.lst (out.map aB)),x5,x6,x7]/\M1=M'/\out=((af.take j).flatMap fun e=>if e.1=w then e.2.flatMap fun k=>rows.map fun r=>r++k else[])/\out.length<=100*j) ⟨_,_,_,[],rfl,rfl,by simp,by simp⟩ ?_ ?_
  ·rintro j d Δ M1 X2 hd2 ⟨y5,y6,y7,out,rfl,rfl,hout,hol⟩ k2
   obtain⟨e,hej,rfl⟩:=cO hd2
   have hj:j<af.length:=(List.getElem?_eq_some_iff.mp hej).1
   obtain⟨he1,he2⟩:=he e (List.mem_of_getElem? hej)
   simp only[dB]
   refine⟨_,rfl,?_⟩
   simp only[AS,ow,dOp,bK]
   refine⟨_,rfl,_,rfl,_,rfl,_,rfl,?_⟩
   have htk:(af.take (j+1)).flatMap (fun e=>if e.1=w then e.2.flatMap fun k=>rows.map fun r=>r++k else[])=out++if e.1=w then e.2.flatMap fun k=>rows.map fun r=>r++k else[]:=by
    rw[List.take_add_one,hej,List.flatMap_append,hout];simp
   refine i9 (fun c=>?_) (fun c=>?_)
   ·have c':e.1=w:=by simpa[rdM,eqD]using c
    simp only[wW,j5,bK]
    refine⟨_,rfl,_,rfl,fun _=>?_⟩
    refine aE (fun t Δ M2=>∃x7 out2,Δ=[some (D.tup [D.tup (ord.map aF),D.str av,D.tup (af.map dB)]),some (D.tup (ws.map D.str)),some (D.lst (rows.map aB)),some (D.str w),some (D.lst (out2.map aB)),some (D.str e.1),some (cu e.2),x7]/\M2=M1/\out2=out++((e.2.take t).flatMap fun k=>rows.map fun r=>r++k)/\out2.length<=100*j+8*t) ⟨_,out,rfl,rfl,by simp,by omega⟩ ?_ ?_
    ·rintro t d Δ M2 X3 hd3 ⟨z7,out2,rfl,rfl,hout2,hol2⟩ k3
     obtain⟨kd,hkt,rfl⟩:=cO hd3
     have ht:t<e.2.length:=(List.getElem?_eq_some_iff.mp hkt).1
     have hkl:=he2 kd (List.mem_of_getElem? hkt)
     refine⟨_,rfl,?_⟩
     simp only[oG,dOp,dLc,j5,bK]
     refine⟨_,rfl,_,rfl,_,rfl,fun _=>⟨by rw[List.length_map,sizeLine_eq];omega,?_⟩⟩
     refine bw aB (fun _=>true) (fun r=>aB (r++kd)) (fun Δ=>∃x,Δ=[none,none,none,none,none,none,none,some (aB kd),x]) _ _ _ ?_ ⟨_,rfl⟩ ?_
     ·rintro r hr' Δ ⟨x,rfl⟩
      refine⟨_,rfl,⟨_,rfl⟩,fun Q1 q=>q,fun _ Q2 q=>?_⟩
      have hrl:=kM.2 r hr'
      refine⟨_,rfl,_,rfl,aB (r++kd),?_,q⟩
      show iG (.tup (r.map aL)) (.tup (kd.map aL))=_
      rw[dQ,if_pos (by rw[List.length_map,List.length_map,sizeLine_eq];omega)]
      simp[aB]
     ·rw[List.filter_eq_self.mpr (fun _ _=>rfl),List.nil_append]
      have hz:(out2++rows.map fun r=>r++kd).length<=100*j+8*(t+1):=by rw[List.length_append,List.length_map];omega
      refine⟨D.lst ((out2++rows.map fun r=>r++kd).map aB),?_,k3 _ _ ⟨some (aB kd),_,rfl,rfl,?_,hz⟩⟩
      ·show iG (.lst (out2.map aB)) (.lst (rows.map fun r=>aB (r++kd)))=_
       refine(if_pos (show List.length _+List.length _<=sizeLine by rw[List.length_map,List.length_map,sizeLine_eq];omega)).trans ?_
       rw[List.map_append,List.map_map];rfl
      ·rw[List.take_add_one,hkt,List.flatMap_append,hout2];simp
    ·rintro Δ M2 ⟨z7,out2,rfl,rfl,hout2,hol2⟩
     rw[List.length_map,List.take_length]at hout2
     rw[List.length_map]at hol2
     refine k2 _ _ ⟨_,_,_,out2,rfl,rfl,?_,by omega⟩
     rw[htk,if_pos c',hout2]
   ·have c':¬ e.1=w:=fun q=>c (by simp[rdM,eqD,q])
    refine k2 _ _ ⟨_,_,_,out,rfl,rfl,?_,by omega⟩
    rw[htk,if_neg c',List.append_nil]
  ·rintro Δ M1 ⟨y5,y6,y7,out,rfl,rfl,hout,hol⟩
   rw[List.length_map,List.take_length,tE hnd]at hout
   have hx:oE af (ws.take (i+1))=out:=by rw[hnext,hout];rfl
   exact⟨_,rfl,k' _ _ ⟨some (D.str w),_,_,_,_,by rw[hx];rfl,rfl⟩⟩
 ·rintro Δ M' ⟨x3,x4,x5,x6,x7,rfl,rfl⟩
  rw[List.length_map,List.take_length]
  have kM:=rf he ws [[]] 1 0 (Nat.le_refl _) (by simp)
  have hany:((oE af ws).map fun s=>decide (W (rel ord) (s++[(av,1)])≠0)).any id=decide (0<((chR af ws).map fun s=>W (rel ord) (s++[(av,1)])).sum):=by
   rw[Bool.eq_iff_iff,List.any_map,List.any_eq_true,decide_eq_true_eq,Nat.pos_iff_ne_zero,p9]
   constructor
   ·rintro⟨s,hs,h⟩
    obtain⟨a,ha,b,hb,rfl⟩:=qm.mp hs
    rw[List.mem_singleton.mp ha,List.nil_append]at h
    exact⟨b,hb,of_decide_eq_true h⟩
   ·rintro⟨s,hs,h⟩
    exact⟨s,qm.mpr ⟨[],.head _,s,hs,rfl⟩,decide_eq_true h⟩
  walk_at "rd"
  refine fun hz=>⟨hz,?_⟩
  have hc:gA [true,false,false,false,false,false,false,false] 1 [some (D.tup [D.tup (ord.map aF),D.str av,D.tup (af.map dB)]),some (D.tup (ws.map D.str)),some (D.lst ((oE af ws).map aB)),x3,x4,x5,x6,x7]=[some (D.tup [D.tup (ord.map aF),D.str av,D.tup (af.map dB)]),none,none,none,none,none,none,none,none]:=rfl
  rw[hc]
  refine bw aB (fun _=>true) (fun s=>D.bl (decide (W (rel ord) (s++[(av,1)])≠0))) (fun Δ=>∃x,Δ=[some (D.tup [D.tup (ord.map aF),D.str av,D.tup (af.map dB)]),none,none,none,none,none,none,none,x]) _ _ _ ?_ ⟨_,rfl⟩ ?_
  ·rintro r hr' Δ ⟨x,rfl⟩
   refine⟨_,rfl,⟨_,rfl⟩,fun Q1 q=>q,fun _ Q2 q=>?_⟩
   have hrl:=kM.2 r hr'
   walk_at "rd"
   refine⟨by rw[sizeLine_eq];decide,by rw[sizeLine_eq];decide,aB (r++[(av,1)]),?_,ord,r++[(av,1)],rfl,ho,by rw[List.length_append];simp;omega,q⟩
   show iG (.tup (r.map aL)) (.tup [aL (av,1)])=_
   rw[dQ,if_pos (by rw[List.length_map,sizeLine_eq];simp;omega)]
   simp[aB]
  ·rw[List.filter_eq_self.mpr (fun _ _=>rfl),List.nil_append]
   refine⟨_,?_,k⟩
   rw[<-hany,<-DM,List.map_map]
   rfl
end
section
variable{P:Program}{w:World}{K:PySem.W.Frag}{mg:Str->Option Value}{base:Heap}
theorem jX{r:Row}:dLe (aB r) 59=true:=by
 show cv (r.map aL) 58=true
 rw[js]
 intro d hd
 obtain⟨x,_,rfl⟩:=List.mem_map.mp hd
 rfl
def kA:SpD:=fun ds M R=>∃(p:Addr) (l:List D) (aA:List Str) (most bj turns:Nat),ds=[.ref p,.lst (aA.map .str),.int (most:Int),.int (bj:Int),.int (turns:Int)]/\M p=some (.lst l)/\a7 l/\aA≠[]/\aA.length<=1000/\1<=most/\most<=8/\bj<=8/\turns<=8 /\
 ∀(ks:List Row) l',1<=ks.length->ks.length<=most->(∀r∈ks,r.length<=bj)->a7 l'->R (cu ks) (au M p (.lst l'))
theorem uE{f:Addr}{fd:FuncData}(F:Fun K "_law_kinds" "_law_kinds" ka f fd) (T:Txt K mg) (g_l_draw:FnD P w K mg base "_law_draw" 1 2 cU):aX P w K mg base CX0 2 f fd ["_law_pool_here","_law_marks","_law_most","_law_signs","_law_turns"] (spD K 5 kA):=by
 have nd:=ng.nd
 refine F.okQ rfl ng (fun cdv A outer s H E hr=>⟨_,(ah (aK (i:=5) nd rfl (Or.inl rfl) (jm ag))
   (ah (bO PassesOwn.never rfl (bI rfl T.b_range (ae (aP aM ak (qd g_l_draw hr (ae (ab 0) (ae (ab 2) ag)))) ag)) (aG (i:=6) nd rfl (Or.inl rfl)) (ah (aK (i:=7) nd rfl (Or.inl rfl) (jm ag))
   (ah (bO PassesOwn.never rfl (bI rfl T.b_range (ae (qd g_l_draw hr (ae (ab 0) (ae (aP aM (ab 3) ak) ag))) ag)) (aG (i:=8) nd rfl (Or.inl rfl)) (ah (aK (i:=9) nd rfl (Or.inl rfl) (bc ba (ab 1) (qd g_l_draw hr (ae (ab 0) (ae (aY cZ rfl T.b_len (by kernel_rfl) (ae (ab 1) ag)) ag))) (fun _ _=>rfl)))
   (aq (ku (px (ab 7) (bH (ae (ab 9) (ae (aP yn (qd g_l_draw hr (ae (ab 0) (ae (aP aM (aP kR ak (ab 4)) ak) ag))) (ab 4)) ag))))))))
   (aq (cz (aR (tN hr.units) (eK iA rfl T.b_tuple (by kernel_rfl) (ae (ab 7) ag)) (ab 5) rfl) (aq (ku (px (ab 5) (eK iA rfl T.b_tuple (by kernel_rfl) (ae (ab 7) ag))))) bD)))))
   (aq (nW (eK iA rfl T.b_tuple (by kernel_rfl) (ae (ab 5) ag)))))),fun ds M R hl hS=>?_⟩)
 obtain⟨p,l,aA,most,bj,turns,rfl,hM,hP,hm,hml,hmo,hmo8,hs8,ht8,k⟩:=hS
 walk_at "rd"
 refine⟨Nat.zero_le _,fun q hq=>?_⟩
 have hpq:p≠q:=by rintro rfl;rw[hM]at hq;cases hq
 refine⟨p,l,_,rfl,by rw[aw hpq];exact hM,hP,by omega,by omega,fun v l1 h0 h1 hP1=>?_⟩
 obtain⟨n,rfl⟩:=Int.eq_ofNat_of_zero_le h0
 refine⟨.int (1+(n:Int)),rfl,_,rfl,by omega,by omega,?_⟩
 rw[show(1+(n:Int)).toNat=n+1 by omega]
 refine aE (fun i Δ M'=>∃x6 x7 x8 x9 l ks,Δ=[some (D.ref p),some (D.lst (aA.map D.str)),some (D.int (most:Int)),some (D.int (bj:Int)),some (D.int (turns:Int)),some (D.ref q),x6,x7,x8,x9]/\M' p=some (.lst l)/\a7 l/\M' q=some (.lst (ks.map aB))/\(∀a u,a≠p->M a=some u->M' a=some u)/\ks.length<=i/\(0<i->1<=ks.length)/\∀r∈ks,r.length<=bj)
  ⟨_,_,_,_,l1,[],rfl,ai,hP1,by rw[aw (Ne.symm hpq),ai];rfl,fun a u ha e=>?_,Nat.zero_le _,fun h=>absurd h (by omega),fun _ h=>by cases h⟩ ?_ ?_
 ·have haq:a≠q:=fun z=>by rw[z,hq]at e;cases e
  rw[aw ha,aw haq];exact e
 ·rintro i d Δ M' X hd ⟨x6,x7,x8,x9,l2,ks,rfl,hMp,hP2,hMq,hold,hkl,hk1,hkr⟩ k'
  obtain⟨hi,rfl⟩:=cw hd
  simp only[bf]
  walk_at "rd"
  refine⟨Nat.zero_le _,fun r hr2=>?_⟩
  have hpr:p≠r:=by rintro rfl;rw[hMp]at hr2;cases hr2
  have hqr:q≠r:=by rintro rfl;rw[hMq]at hr2;cases hr2
  refine⟨p,l2,_,rfl,by rw[aw hpr];exact hMp,hP2,by omega,by omega,fun v l3 g0 g1 hP3=>⟨v,rfl,by omega,by omega,?_⟩⟩
  obtain⟨m,rfl⟩:=Int.eq_ofNat_of_zero_le g0
  rw[Int.toNat_natCast]
  refine aE (fun t Δ M2=>∃x8 x9 l row,Δ=[some (D.ref p),some (D.lst (aA.map D.str)),some (D.int (most:Int)),some (D.int (bj:Int)),some (D.int (turns:Int)),some (D.ref q),some (D.int (0+(i:Int))),some (D.ref r),x8,x9]/\M2=au (au M' p (.lst l)) r (.lst (row.map aL))/\a7 l/\row.length<=t)
   ⟨_,_,l3,[],rfl,b7 (Ne.symm hpr),hP3,Nat.le_refl _⟩ ?_ ?_
  ·rintro t d Δ M2 X2 hd2 ⟨y8,y9,l4,row,rfl,rfl,hP4,hrow⟩ k2
   obtain⟨ht,rfl⟩:=cw hd2
   have aU:(0:Int)<((aA.map D.str).length:Int):=by
    rw[List.length_map]
    have:=List.length_pos_iff.mpr hm
    omega
   have hlen2:((aA.map D.str).length:Int)<1073741824:=by
    rw[List.length_map];omega
   have hcm:∀l5,au (au (au M' p (.lst l4)) r (.lst (row.map aL))) p (.lst l5)=au (au M' p (.lst l5)) r (.lst (row.map aL)):=fun l5=>by
    rw[<-b7 hpr,ay]
   simp only[bf]
   walk_at "rd"
   refine⟨p,l4,_,rfl,by rw[aw hpr,ai],hP4,aU,hlen2,fun v1 l5 a0 a1 hP5=>?_⟩
   rw[List.length_map]at a1
   obtain⟨m1,hm1,e1⟩:=jU a0 a1
   rw[hcm]
   refine⟨_,e1,_,ai,p,l5,_,rfl,by rw[aw hpr,ai],hP5,by omega,by omega,fun v2 l6 b0 b1 hP6=>?_⟩
   have hcm2:au (au (au M' p (.lst l5)) r (.lst (row.map aL))) p (.lst l6)=au (au M' p (.lst l6)) r (.lst (row.map aL)):=by
    rw[<-b7 hpr,ay]
   rw[hcm2]
   refine⟨.int (v2-(turns:Int)),rfl,sz3 2,_,ai,?_,k2 _ _ ⟨_,_,l6,row++[(m1,v2-(turns:Int))],rfl,?_,hP6,by simp;omega⟩⟩
   ·rw[List.length_map,sizeLine_eq];omega
   ·rw[ay];simp[aL]
  ·rintro Δ M2 ⟨y8,y9,l4,row,rfl,rfl,hP4,hrow⟩
   rw[bL]at hrow
   walk_at "rd"
   have eq:au (au M' p (.lst l4)) r (.lst (row.map aL)) q=some (.lst (ks.map aB)):=by rw[aw hqr,aw (Ne.symm hpq)];exact hMq
   have ep:au (au M' p (.lst l4)) r (.lst (row.map aL)) p=some (.lst l4):=by rw[aw hpr,ai]
   have eo:∀a u,a≠p->M a=some u->au (au M' p (.lst l4)) r (.lst (row.map aL)) a=some u:=fun a u ha e=>by
    have h:=hold a u ha e
    have har:a≠r:=by rintro rfl;rw[hr2]at h;cases h
    rw[aw har,aw ha];exact h
   generalize au (au M' p (.lst l4)) r (.lst (row.map aL))=M3 at *
   refine⟨.bl (!((ks.map aB).any fun d=>eqD d (aB row))),?_,_,rfl,?_⟩
   ·rw[show rdM M3 (D.ref q)=D.lst (ks.map aB)by simp[rdM,eq]]
    show kS (aB row) _=_
    rw[yo,if_pos ⟨jX,mn aB fun _=>jX⟩]
   refine i9 (fun c=>?_) (fun c=>?_)
   ·refine⟨_,eq,_,eq,by rw[List.length_map,sizeLine_eq];omega,k' _ _ ⟨_,_,_,_,l4,ks++[row],rfl,?_,hP4,?_,fun a u ha e=>?_,by simp;omega,fun _=>by simp,fun x hx=>?_⟩⟩
    ·rw[aw hpq];exact ep
    ·rw[ai,List.map_append];rfl
    ·have haq:a≠q:=fun z=>by rw[z,hq]at e;cases e
     rw[aw haq];exact eo a u ha e
    ·rcases List.mem_append.mp hx with h|h
     ·exact hkr x h
     ·rw[List.mem_singleton.mp h];omega
   ·refine k' _ _ ⟨_,_,_,_,l4,ks,rfl,ep,hP4,eq,eo,by omega,fun _=>?_,hkr⟩
    cases ks with
    |nil=>exact absurd rfl c
    |cons _ _=>simp
 ·rintro Δ M' ⟨x6,x7,x8,x9,l2,ks,rfl,hMp,hP2,hMq,hold,hkl,hk1,hkr⟩
  rw[bL]at hkl hk1
  walk_at "rd"
  refine⟨cu ks,by simp[rdM,hMq,CA,cu],au M p (.lst l2),fun a u e=>?_,k ks l2 (hk1 (by omega)) (by omega) hkr hP2⟩
  by_cases c:a=p
  ·rw[c,ai]at e;rw[c,hMp];exact e
  ·rw[aw c]at e;exact hold a u c e
end
section
variable{P:Program}{w:World}{K:PySem.W.Frag}{mg:Str->Option Value}{base:Heap}
theorem yM{a b:TSd}{E:fH}{Δ:DE}{M:DH}(C:DE->DH->Prop) (h1:∀nx,(∀ Δ' M',C Δ' M'->nx Δ' M')->a { E with nx:=nx } Δ M) (h2:∀ Δ' M',C Δ' M'->b E Δ' M'):tm a b E Δ M:=h1 _ h2
def gS:SpD:=fun ds M R=>∃(p:Addr) (l:List D) (aA words:List Str) (bj:Nat),ds=[.ref p,.lst (aA.map .str),.lst (words.map .str),.int (bj:Int)]/\M p=some (.lst l)/\a7 l/\aA≠[]/\aA.length<=1000/\words.length<=8/\2<=bj/\bj<=8 /\
 ∀(ord:List (Str×Str)) (av:Str) (af:List (Str×List Row)) l',ord.length<=2->af.map (·.1)=words->gN af 2 bj->a7 l'->R (bJ ord av af) (au M p (.lst l'))
theorem qz{f:Addr}{fd:FuncData}(F:Fun K "_law_lexicon" "_law_lexicon" eW f fd) (T:Txt K mg) (g_l_order:FnD P w K mg base "_law_order" 2 3 kO) (g_l_draw:FnD P w K mg base "_law_draw" 1 2 cU) (g_l_kinds:FnD P w K mg base "_law_kinds" 2 5 kA):aX P w K mg base CX0 3 f fd ["_law_pool_here","_law_marks","_law_words","_law_signs"] (spD K 4 gS):=by
 have nd:=jr.nd
 refine F.okQ rfl jr (fun cdv A outer s H E hr=>⟨_,(ah (aK (i:=4) nd rfl (Or.inl rfl) (qd g_l_order hr (ae (ab 0) (ae (ab 1) (ae ak ag)))))
   (ah (aK (i:=5) nd rfl (Or.inl rfl) (bc ba (ab 1) (qd g_l_draw hr (ae (ab 0) (ae (aY cZ rfl T.b_len (by kernel_rfl) (ae (ab 1) ag)) ag))) (fun _ _=>rfl)))
   (ah (aK (i:=6) nd rfl (Or.inl rfl) (jm ag))
   (ah (bO PassesOwn.never rfl (bz (ab 2)) (aG (i:=7) nd rfl (Or.inl rfl)) (ah (aK (i:=8) nd rfl (Or.inr rfl) (qd g_l_kinds hr (ae (ab 0) (ae (ab 1) (ae ak (ae (ab 3) (ae ak ag)))))))
   (cQ (ah (cz (aR (lF hr.units) (qd g_l_draw hr (ae (ab 0) (ae ak ag))) ak nbh) (aq (aK (i:=8) nd rfl (Or.inr rfl) (aP aM (bH (ae (aP aM (aP aM (cE (bc ba (ab 8) ak (fun _ _=>rfl)) dP (cW ak)) (bH (ae (bH (ae (ab 5) (ae ak ag))) ag))) (cE (bc ba (ab 8) ak (fun _ _=>rfl)) (cW ak) dP)) ag)) (cE (ab 8) (cW ak) dP)))) bD)
   (aq (ku (px (ab 6) (bH (ae (ab 7) (ae (eK iA rfl T.b_tuple (by kernel_rfl) (ae (j6 (ms:=[false,false,false,false,false,false,false,false,true]) (ar:=["_law_k"]) (aW rfl (show bt (aj eW) ib _ _=true from by decide +kernel)) rfl (bI rfl T.b_range (ae (aY cZ rfl T.b_len (by kernel_rfl) (ae (ab 8) ag)) ag)) (aN (i:=9) (show(ib++_).Nodup from by decide +kernel) rfl rfl) (fun _ _ _ _=>(mR (aR (tN hr.units) (bc ba (ab 8) (ab 9) (fun _ _=>rfl)) (cE (ab 8) dP (cW (ab 9))) rfl))) (fun _ _ _ _=>(bc ba (ab 8) (ab 9) (fun _ _=>rfl)))) ag)) ag))))))))))
   (aq (nW (bH (ae (ab 4) (ae (ab 5) (ae (eK iA rfl T.b_tuple (by kernel_rfl) (ae (ab 6) ag)) ag)))))))))),fun ds M R hl hS=>?_⟩)
 obtain⟨p,l,aA,words,bj,rfl,hM,hP,hm,hml,hwl,hs2,hs8,k⟩:=hS
 walk_at "rd"
 refine⟨p,l,aA,2,rfl,hM,hP,hm,hml,by omega,by omega,fun ord l1 ho _ hP1=>?_⟩
 have aU:(0:Int)<((aA.map D.str).length:Int):=by
  rw[List.length_map]
  have:=List.length_pos_iff.mpr hm
  omega
 have hlen2:((aA.map D.str).length:Int)<1073741824:=by
  rw[List.length_map];omega
 refine⟨p,l1,_,rfl,ai,hP1,aU,hlen2,fun v l2 h0 h1 hP2=>?_⟩
 rw[List.length_map]at h1
 obtain⟨av,_,eg⟩:=jU h0 h1
 rw[ay]
 refine⟨.str av,eg,Nat.zero_le _,fun q hq _=>?_⟩
 have hpq:p≠q:=by rintro rfl;rw[ai]at hq;cases hq
 have hMq:M q=none:=by rw[aw (Ne.symm hpq)]at hq;exact hq
 have hcm:∀l3 l4 es,au (au (au M p (.lst l3)) q (.lst es)) p (.lst l4)=au (au M p (.lst l4)) q (.lst es):=fun l3 l4 es=>by
  rw[<-b7 hpq,ay]
 refine aE (fun i Δ M'=>∃x7 x8 l af,Δ=[some (D.ref p),some (D.lst (aA.map D.str)),some (D.lst (words.map D.str)),some (D.int (bj:Int)),some (D.tup (ord.map aF)),some (D.str av),some (D.ref q),x7,x8]/\M'=au (au M p (.lst l)) q (.lst (af.map dB))/\a7 l/\af.map (·.1)=words.take i/\gN af 2 bj)
  ⟨_,_,l2,[],rfl,rfl,hP2,rfl,fun _ h=>by cases h⟩ ?_ ?_
 ·rintro i d Δ M' X hd ⟨x7,x8,l3,af,rfl,rfl,hP3,hw,he⟩ k'
  obtain⟨wd,hwd,rfl⟩:=cO hd
  have hi:i<words.length:=(List.getElem?_eq_some_iff.mp hwd).1
  have hel:af.length<=8:=by
   have:=congrArg List.length hw
   rw[List.length_map,List.length_take]at this
   omega
  simp only[bf]
  walk_at "rd"
  refine⟨p,l3,aA,2,bj,1,rfl,by rw[aw hpq,ai],hP3,hm,hml,by omega,by omega,hs8,by omega,fun ks l4 hk1 hk2 hkr hP4=>?_⟩
  rw[hcm]
  refine bp ?_
  refine yM (fun Δ' M'=>∃ks l',Δ'=[some (D.ref p),some (D.lst (aA.map D.str)),some (D.lst (words.map D.str)),some (D.int (bj:Int)),some (D.tup (ord.map aF)),some (D.str av),some (D.ref q),some (D.str wd),some (cu ks)]/\M'=au (au M p (.lst l')) q (.lst (af.map dB))/\a7 l'/\ks.length<=2/\∀r∈ks,r.length<=bj) (fun nx knx=>?_) ?_
  ·walk_at "rd"
   refine⟨p,l4,2,rfl,by rw[aw hpq,ai],hP4,by omega,by omega,fun v2 l5 b0 b1 hP5=>?_⟩
   rw[hcm]
   refine⟨_,rfl,_,rfl,i9 (fun c=>?_) (fun c=>knx _ _ ⟨ks,l5,rfl,rfl,hP5,hk2,hkr⟩)⟩
   obtain⟨k0,kt,rfl⟩:∃k0 kt,ks=k0::kt:=by
    cases ks with
    |nil=>simp at hk1
    |cons a b=>exact⟨a,b,rfl⟩
   have hk0:=hkr k0 (.head _)
   have e2:L2.cG (k0.map aL) none (some 1)=(k0.map aL).take 1:=uN (n:=1)
   have e3:L2.cG (k0.map aL) (some 2) none=(k0.map aL).drop 2:=gY (n:=2)
   have e4:L2.cG ((k0::kt).map aB) (some 1) none=kt.map aB:=by rw[show(some (1:Int))=some ((1:Nat):Int)from rfl,gY (n:=1)];rfl
   have e0:∀M1:DH,ixD (rdM M1 (cu (k0::kt))) (D.int 0)=some (aB k0):=fun M1=>(show atI ((k0::kt).map aB) ((0:Nat):Int)=_ from bS rfl)
   refine⟨aB k0,e0 _,_,rfl,sz3 2,sz3 1,aB (k0.take 1++[(av,0)]),?_,aB k0,e0 _,_,rfl,aB (k0.take 1++[(av,0)]++k0.drop 2),?_,sz3 1,_,rfl,cu ((k0.take 1++[(av,0)]++k0.drop 2)::kt),?_,knx _ _ ⟨_,l5,rfl,rfl,hP5,?_,?_⟩⟩
   ·show iG (.tup (L2.cG (k0.map aL) none (some 1))) (.tup [aL (av,0)])=_
    rw[e2,dQ,if_pos (by rw[List.length_take,sizeLine_eq];simp;omega)]
    simp[aB,List.map_take]
   ·show iG (.tup ((k0.take 1++[(av,0)]).map aL)) (.tup (L2.cG (k0.map aL) (some 2) none))=_
    rw[e3,dQ,if_pos (by rw[sizeLine_eq];simp;omega)]
    simp[aB,List.map_drop]
   ·show iG (.tup [aB (k0.take 1++[(av,0)]++k0.drop 2)]) (.tup (L2.cG ((k0::kt).map aB) (some 1) none))=_
    simp only[List.length_cons]at hk2
    rw[e4,dQ,if_pos (by rw[sizeLine_eq];simp;omega)]
    rfl
   ·simpa using hk2
   ·intro r hr'
    rcases List.mem_cons.mp hr' with e|e
    ·rw[e]
     simp only[List.length_append,List.length_take,List.length_drop,List.length_cons,List.length_nil]
     omega
    ·exact hkr r (.tail _ e)
  rintro Δ' M' ⟨ks,l5,rfl,rfl,hP5,hk2,hkr⟩
  walk_at "rd"
  have hj:(ks.length:Int).toNat=ks.length:=Int.toNat_natCast _
  refine⟨.int (ks.length:Int),by simp[rdM,cu,lz],_,rfl,by omega,by omega,by rw[bL,hj,sizeLine_eq];omega,?_⟩
  have hc:gA [false,false,false,false,false,false,false,false,true] 1 [some (D.ref p),some (D.lst (aA.map D.str)),some (D.lst (words.map D.str)),some (D.int (bj:Int)),some (D.tup (ord.map aF)),some (D.str av),some (D.ref q),some (D.str wd),some (cu ks)]=[none,none,none,none,none,none,none,none,some (cu ks),none]:=rfl
  rw[hc,hj,iE]
  refine bw (fun(k:Nat)=>D.int (0+(k:Int))) (fun k=>!(((ks.take k).map aB).any fun d=>eqD d (aB (ks.getD k [])))) (fun k=>aB (ks.getD k [])) (fun Δ=>∃x,Δ=[none,none,none,none,none,none,none,none,some (cu ks),x]) _ _ _ ?_ ⟨_,rfl⟩ ?_
  ·rintro a ha Δ ⟨x,rfl⟩
   have ha':=List.mem_range.mp ha
   have hat:∀M1:DH,ixD (rdM M1 (cu ks)) (rdM M1 (D.int (a:Int)))=some (aB (ks.getD a [])):=fun M1=>bS (by simp[ha'])
   rw[Int.zero_add]
   refine⟨_,rfl,⟨_,rfl⟩,fun Q1 q1=>?_,fun _ Q2 q1=>⟨_,rfl,_,rfl,_,hat _,q1⟩⟩
   walk_at "rd"
   refine⟨_,hat _,D.tup ((ks.take a).map aB),?_,_,(zy).trans (if_pos ⟨jX,mn aB fun _=>jX⟩),_,rfl,q1⟩
   show some (D.tup (L2.cG (ks.map aB) none (some (a:Int))))=_
   rw[uN,List.map_take]
  ·refine⟨sz3 2,_,ai,by rw[List.length_map,sizeLine_eq];omega,?_⟩
   rw[ay]
   generalize hf:(List.range ks.length).filter (fun k=>!(((ks.take k).map aB).any fun d=>eqD d (aB (ks.getD k []))))=ix
   have hix:∀a∈ix,a<ks.length:=fun a ha=>by
    rw[<-hf]at ha
    exact List.mem_range.mp (List.mem_filter.mp ha).1
   have hixl:ix.length<=ks.length:=by
    rw[<-hf]
    refine Nat.le_trans (List.length_filter_le _ _) ?_
    rw[List.length_range];exact Nat.le_refl _
   refine k' _ _ ⟨_,_,l5,af++[(wd,ix.map fun k=>ks.getD k [])],rfl,?_,hP5,?_,fun e he'=>?_⟩
   ·simp[dB,cu,Function.comp_def]
   ·rw[List.map_append,hw,List.take_add_one,hwd];rfl
   ·rcases List.mem_append.mp he' with h|h
    ·exact he e h
    ·rw[List.mem_singleton.mp h]
     refine⟨by rw[List.length_map];omega,fun r hr'=>?_⟩
     obtain⟨a,ha,rfl⟩:=List.mem_map.mp hr'
     have:=hix a ha
     refine hkr _ ?_
     rw[List.getD_eq_getElem?_getD,List.getElem?_eq_getElem this]
     exact List.getElem_mem _
 ·rintro Δ M' ⟨x7,x8,l3,af,rfl,rfl,hP3,hw,he⟩
  rw[List.length_map,List.take_length]at hw
  walk_at "rd"
  refine⟨sz3 3,au M p (.lst l3),pY (by rw[aw (Ne.symm hpq)];exact hMq),k ord av af l3 ho hw he hP3⟩
end
section
variable{P:Program}{w:World}{K:PySem.W.Frag}{mg:Str->Option Value}{base:Heap}
def sD(sh:List Str) (hit:List Str->Bool) (n:Nat):Option (List Str):=(List.range (n+1)).findSome? fun i=>(aI sh i).find? hit
def nh:Option (List Str)->D|some r=>wsD r|none=>.non
theorem rG{sh:List Str}{hit:List Str->Bool}{n i j:Nat}{r:List Str}(hi:i<=n) (h1:∀k<i,∀r∈aI sh k,hit r=false) (h2:∀k<j,∀r,(aI sh i)[k]?=some r->hit r=false) (hr:(aI sh i)[j]?=some r) (hh:hit r=true):sD sh hit n=some r:=by
 have f1:(aI sh i).find? hit=some r:=by
  obtain⟨hj,e⟩:=List.getElem?_eq_some_iff.mp hr
  rw[List.find?_eq_some_iff_getElem]
  refine⟨hh,j,hj,e,fun k hk=>?_⟩
  have:=h2 k hk _ (List.getElem?_eq_getElem (by omega))
  rw[this];rfl
 have sp:List.range (n+1)=List.range i++(i::(List.range (n-i)).map (i+1+·)):=by
  rw[show n+1=i+(n-i+1)by omega,List.range_add,List.range_succ_eq_map,List.map_cons,List.map_map]
  simp only[Nat.add_zero]
  congr 2
  apply List.map_congr_left
  intro a _
  simp[Function.comp];omega
 unfold sD
 rw[sp,List.findSome?_append]
 have f0:(List.range i).findSome? (fun i=>(aI sh i).find? hit)=none:=by
  rw[List.findSome?_eq_none_iff]
  intro k hk
  rw[List.find?_eq_none]
  intro r hr
  rw[h1 k (List.mem_range.mp hk) r hr];simp
 rw[f0,List.findSome?_cons,f1];rfl
theorem nY{sh:List Str}{hit:List Str->Bool}{n:Nat}(h1:∀k<n+1,∀r∈aI sh k,hit r=false):sD sh hit n=none:=by
 unfold sD
 rw[List.findSome?_eq_none_iff]
 intro k hk
 rw[List.find?_eq_none]
 intro r hr
 rw[h1 k (List.mem_range.mp hk) r hr];simp
def shT(e1 e2:List (Str×List Row)):List Str:=aZ (fU (e1.map (·.1)) (e2.map (·.1)))
def gZ:SpD:=fun ds M R=>∃(o1:List (Str×Str)) (g1:Str) (e1:List (Str×List Row)) (o2:List (Str×Str)) (g2:Str) (e2:List (Str×List Row)) (n:Nat) (f g:List Str->Int),ds=[bJ o1 g1 e1,bJ o2 g2 e2,.int (n:Int)]/\n<=4/\e1.length<=8/\e2.length<=8 /\
 (∀k≤n,∀r∈aI (shT e1 e2) k,ph o1 g1 e1 r (f r)/\ph o2 g2 e2 r (g r))/\R (nh (sD (shT e1 e2) (fun r=>decide (0<f r) != decide (0<g r)) n)) M
theorem qY{f:Addr}{fd:FuncData}(F:Fun K "parting" "parting" gX f fd) (T:Txt K mg) (g_p_tuples_of:FnD P w K mg base "tuples_of" 1 2 iU) (g_p_words_of:FnD P w K mg base "words_of" 1 1 dU) (g_p_is_sentence:FnD P w K mg base "is_sentence" 11 2 gC):aX P w K mg base CX0 12 f fd ["one","other","length"] (spD K 3 gZ):=by
 have nd:=jt.nd
 refine F.okQ rfl jt (fun cdv A outer s H E hr=>⟨_,(ah (aK (i:=3) nd rfl (Or.inl rfl) (Hr rfl rfl T.b_sorted rfl T.b_set (qd g_p_words_of hr (ae (ab 0) ag)) (qd g_p_words_of hr (ae (ab 1) ag))))
   (ah (bO PassesOwn.never rfl (bI rfl T.b_range (ae (aP aM (ab 2) ak) ag)) (aG (i:=4) nd rfl (Or.inl rfl)) (aq (bO PassesOwn.never rfl (bz (qd g_p_tuples_of hr (ae (ab 3) (ae (ab 4) ag)))) (aG (i:=5) nd rfl (Or.inl rfl)) (aq (cz (aR (Az hr.units) (qd g_p_is_sentence hr (ae (ab 0) (ae (ab 5) ag))) (qd g_p_is_sentence hr (ae (ab 1) (ae (ab 5) ag))) nbh) (aq (aO (ab 5))) bD)))))
   (aq (aO ni)))),fun ds M R hl hS=>?_⟩)
 obtain⟨o1,g1,e1,o2,g2,e2,n,f,g,rfl,hn,h1,h2,hf,k⟩:=hS
 have hx:(shT e1 e2).length<=8:=by
  unfold shT
  rw[(di _).length_eq]
  refine Nat.le_trans (List.length_filter_le _ _) (Nat.le_trans (nG _) ?_)
  rw[List.length_map];exact h1
 have m1:∀e:List (Str×List Row),(e.map fun e=>D.str e.1)=(e.map (·.1)).map D.str:=fun e=>by rw[List.map_map];rfl
 walk_at "rd"
 refine⟨o1,g1,e1,rfl,h1,e1.map (·.1),by rw[<-m1];rfl,by rw[List.length_map];omega,o2,g2,e2,rfl,h2,e2.map (·.1),by rw[<-m1];rfl,by rw[List.length_map];omega,by omega,by omega,?_⟩
 rw[show((n:Int)+1).toNat=n+1 by omega]
 rw[show aZ (fU (e1.map (·.1)) (e2.map (·.1)))=shT e1 e2 from rfl]
 refine aE (fun i Δ M'=>∃x4 x5,Δ=[some (bJ o1 g1 e1),some (bJ o2 g2 e2),some (D.int (n:Int)),some (D.lst ((shT e1 e2).map D.str)),x4,x5]/\M'=M/\∀k<i,∀r∈aI (shT e1 e2) k,(decide (0<f r) != decide (0<g r))=false) ⟨_,_,rfl,rfl,fun k hk=>absurd hk (by omega)⟩ ?_ ?_
 ·rintro i d Δ M' X hd ⟨x4,x5,rfl,rfl,hno⟩ k'
  obtain⟨hi,rfl⟩:=cw hd
  rw[Int.zero_add]
  simp only[bf]
  refine⟨_,rfl,?_⟩
  walk_at "rd"
  refine⟨shT e1 e2,i,rfl,hx,by omega,_,rfl,fun _=>?_⟩
  refine aE (fun j Δ M2=>∃x5,Δ=[some (bJ o1 g1 e1),some (bJ o2 g2 e2),some (D.int (n:Int)),some (D.lst ((shT e1 e2).map D.str)),some (D.int (i:Int)),x5]/\M2=M'/\∀k<j,∀r,(aI (shT e1 e2) i)[k]?=some r->(decide (0<f r) != decide (0<g r))=false) ⟨_,rfl,rfl,fun k hk=>absurd hk (by omega)⟩ ?_ ?_
  ·rintro j d Δ M2 X' hd' ⟨x5,rfl,rfl,hno'⟩ k2
   obtain⟨r,hr,rfl⟩:=cO hd'
   simp only[bf]
   refine⟨_,rfl,?_⟩
   obtain⟨q1,q2⟩:=hf i (by omega) r (List.mem_of_getElem? hr)
   walk_at "rd"
   refine⟨o1,g1,e1,r,f r,rfl,q1,o2,g2,e2,r,g r,rfl,q2,?_⟩
   refine⟨.bl (decide (0<f r) != decide (0<g r)),by rw[mj,mj,t9];rfl,_,rfl,?_⟩
   cases hh:(decide (0<f r) != decide (0<g r))with
   |true =>
    rw[if_pos rfl]
    rw[rG (i:=i) (j:=j) (r:=r) (by omega) hno hno' hr hh]at k
    exact k
   |false =>
    rw[if_neg (by simp)]
    refine k2 _ _ ⟨_,rfl,rfl,fun k hk r' hr'=>?_⟩
    rcases Nat.lt_or_ge k j with c|c
    ·exact hno' k c r' hr'
    ·have:k=j:=by omega
     subst this
     rw[hr]at hr';cases hr'
     exact hh
  ·rintro Δ M2 ⟨x5,rfl,rfl,hno'⟩
   refine k' _ _ ⟨_,_,rfl,rfl,fun k hk r hr=>?_⟩
   rcases Nat.lt_or_ge k i with c|c
   ·exact hno k c r hr
   ·have:k=i:=by omega
    subst this
    obtain⟨j,hj,e⟩:=List.mem_iff_getElem.mp hr
    exact hno' j (by rw[List.length_map];exact hj) r (by rw[List.getElem?_eq_getElem hj,e])
 ·rintro Δ M' ⟨x4,x5,rfl,rfl,hno⟩
  walk_at "rd"
  rw[nY (fun k hk r hr=>hno k (by rw[bL];omega) r hr)]at k
  exact k
end
section
variable{P:Program}{w:World}{K:PySem.W.Frag}{mg:Str->Option Value}{base:Heap}
theorem Ao{e1 e2:List (Str×List Row)}(h1:(e1.map (·.1)).Nodup):aZ ((e1.map (·.1)).filter fun x=>decide (x∈e2.map (·.1)))=shT e1 e2 :=
 dv (gW (h1.filter _) (iD _ _) fun x=>by rw[eN,List.mem_filter,decide_eq_true_eq])
def uP(ord:List (Str×Str)) (av:Str) (af:List (Str×List Row)) (r:List Str):Nat:=((chR af r).map fun s=>W (rel ord) (s++[(av,1)])).sum
def mB(o1:List (Str×Str)) (g1:Str) (e1:List (Str×List Row)) (o2:List (Str×Str)) (g2:Str) (e2:List (Str×List Row)) (r:List Str):Bool:=decide (0<uP o1 g1 e1 r) != decide (0<uP o2 g2 e2 r)
def vE:SpD:=fun ds M R=>∃(o1:List (Str×Str)) (g1:Str) (e1:List (Str×List Row)) (o2:List (Str×Str)) (g2:Str) (e2:List (Str×List Row)) (n:Nat),ds=[bJ o1 g1 e1,bJ o2 g2 e2,.int (n:Int)]/\n<=4/\o1.length<=500/\o2.length<=500/\e1.length<=8/\e2.length<=8 /\
 (e1.map (·.1)).Nodup/\(e2.map (·.1)).Nodup/\gN e1 2 3/\gN e2 2 3/\R (nh (sD (shT e1 e2) (mB o1 g1 e1 o2 g2 e2) n)) M
theorem zU{f:Addr}{fd:FuncData}(F:Fun K "_law_due" "_law_due" lU f fd) (T:Txt K mg) (g_l_rows:FnD P w K mg base "_law_rows" 1 2 sm) (g_l_is_sentence:FnD P w K mg base "_law_is_sentence" 4 2 gx):aX P w K mg base CX0 5 f fd ["_law_one","_law_other_here","_law_length"] (spD K 3 vE):=by
 have nd:=sW.nd
 refine F.okQ rfl sW (fun cdv A outer s H E hr=>⟨_,(ah (u3 (i:=3) nd rfl rfl rfl (ms:=[false,true,false,false,false,false]) (ar:=["_law_word_here","_law_kinds_here"]) (aW rfl (show bt (aj lU) fW _ _=true from by decide +kernel)) rfl (bz (bc ba (ab 0) ak (fun _ _=>rfl))) (jj (n:=2) rfl (cf (aN (i:=6) (show(fW++_).Nodup from by decide +kernel) rfl rfl) (cf (aN (i:=7) (show(fW++_).Nodup from by decide +kernel) rfl rfl) jb))) (fun _ _ _ _=>(mR (aR pA (ab 6) (j6 (ms:=[false,false,false,false,false,false,false,false]) (ar:=["_law_more","_law_rows_here"]) (xh (show qM (fW++(["_law_word_here","_law_kinds_here"]:List Str)) _ _=true from by decide +kernel)) rfl (bz (bc ba (ab 1) ak (fun _ _=>rfl))) (jj (n:=2) rfl (cf (aN (i:=8) (show((fW++(["_law_word_here","_law_kinds_here"]:List Str))++_).Nodup from by decide +kernel) rfl rfl) (cf (aN (i:=9) (show((fW++(["_law_word_here","_law_kinds_here"]:List Str))++_).Nodup from by decide +kernel) rfl rfl) jb))) (fun _ _ _ _=>cC) (fun _ _ _ _=>(ab 8))) rfl))) (fun _ _ _ _=>(ab 6)))
   (ah (bO PassesOwn.never rfl (bI rfl T.b_range (ae (aP aM (ab 2) ak) ag)) (aG (i:=4) nd rfl (Or.inl rfl)) (aq (bO PassesOwn.never rfl (bz (qd g_l_rows hr (ae (ab 3) (ae (ab 4) ag)))) (aG (i:=5) nd rfl (Or.inl rfl)) (aq (cz (aR (Az hr.units) (qd g_l_is_sentence hr (ae (ab 0) (ae (ab 5) ag))) (qd g_l_is_sentence hr (ae (ab 1) (ae (ab 5) ag))) nbh) (aq (aO (ab 5))) bD)))))
   (aq (aO ni)))),fun ds M R hl hS=>?_⟩)
 obtain⟨o1,g1,e1,o2,g2,e2,n,rfl,hn,ho1,ho2,h1,h2,d1,d2,k1,k2,k⟩:=hS
 have eL:∀(o:List (Str×Str)) (g:Str) (e:List (Str×List Row)),ixD (rdM M (bJ o g e)) (D.int 2)=some (D.tup (e.map dB)):=fun o g e=>rfl
 walk_at "rd"
 refine⟨_,eL o1 g1 e1,_,rfl,fun hz=>⟨hz,?_⟩⟩
 rw[show gA [false,true,false,false,false,false] 2 [some (bJ o1 g1 e1),some (bJ o2 g2 e2),some (D.int (n:Int)),none,none,none]=[none,some (bJ o2 g2 e2),none,none,none,none,none,none]from rfl]
 refine bw dB (fun e=>decide (e.1∈e2.map (·.1))) (fun e=>D.str e.1) (fun Δ=>∃x y,Δ=[none,some (bJ o2 g2 e2),none,none,none,none,x,y]) e1 _ _ (fun e he Δ hΔ=>?_) ⟨none,none,rfl⟩ ?_
 ·obtain⟨x,y,rfl⟩:=hΔ
  refine⟨_,rfl,⟨_,_,rfl⟩,fun Q1 q=>?_,fun _ Q2 q=>⟨_,rfl,q⟩⟩
  walk_at "rd"
  refine⟨_,eL o2 g2 e2,_,rfl,fun hz2=>⟨hz2,?_⟩⟩
  refine bw dB (fun _=>true) (fun e=>D.str e.1) (fun Δ=>∃x y,Δ=[none,none,none,none,none,none,none,none,x,y]) e2 _ _ (fun e he Δ hΔ=>?_) ⟨none,none,rfl⟩ ?_
  ·obtain⟨x,y,rfl⟩:=hΔ
   exact⟨_,rfl,⟨_,_,rfl⟩,fun Q1 q=>q,fun _ Q2 q=>⟨_,rfl,q⟩⟩
  ·rw[List.nil_append,List.filter_eq_self.mpr (fun _ _=>rfl)]
   refine⟨_,if_pos ⟨rfl,by rw[List.all_map,List.all_eq_true];intro _ _;rfl⟩,_,rfl,?_⟩
   rw[vH,Bool.false_xor]
   exact q
 rw[List.nil_append]
 generalize hws:((e1.map (·.1)).filter fun x=>decide (x∈e2.map (·.1)))=ws
 have ews:((e1.filter fun e=>decide (e.1∈e2.map (·.1))).map fun e=>D.str e.1)=ws.map D.str:=by
  rw[<-hws,List.filter_map,List.map_map];rfl
 have hsh:aZ ws=shT e1 e2:=by rw[<-hws];exact Ao d1
 have hlw:ws.length<=8:=by
  rw[<-hws]
  refine Nat.le_trans (List.length_filter_le _ _) ?_
  rw[List.length_map];exact h1
 rw[ews]
 refine⟨by omega,by omega,?_⟩
 rw[show((n:Int)+1).toNat=n+1 by omega]
 refine aE (fun i Δ M'=>∃x4 x5,Δ=[some (bJ o1 g1 e1),some (bJ o2 g2 e2),some (D.int (n:Int)),some (D.lst (ws.map D.str)),x4,x5]/\M'=M/\∀k<i,∀r∈aI (shT e1 e2) k,mB o1 g1 e1 o2 g2 e2 r=false) ⟨_,_,rfl,rfl,fun k hk=>absurd hk (by omega)⟩ ?_ ?_
 ·rintro i d Δ M' X hd ⟨x4,x5,rfl,rfl,hno⟩ k'
  obtain⟨hi,rfl⟩:=cw hd
  rw[Int.zero_add]
  simp only[bf]
  refine⟨_,rfl,?_⟩
  walk_at "rd"
  refine⟨ws,i,rfl,hlw,by omega,_,rfl,fun _=>?_⟩
  rw[hsh]
  refine aE (fun j Δ M2=>∃x5,Δ=[some (bJ o1 g1 e1),some (bJ o2 g2 e2),some (D.int (n:Int)),some (D.lst (ws.map D.str)),some (D.int (i:Int)),x5]/\M2=M'/\∀k<j,∀r,(aI (shT e1 e2) i)[k]?=some r->mB o1 g1 e1 o2 g2 e2 r=false) ⟨_,rfl,rfl,fun k hk=>absurd hk (by omega)⟩ ?_ ?_
  ·rintro j d Δ M2 X' hd' ⟨x5,rfl,rfl,hno'⟩ k3
   obtain⟨r,hr,rfl⟩:=cO hd'
   simp only[bf]
   refine⟨_,rfl,?_⟩
   have rl:r.length=i:=fD (List.mem_of_getElem? hr)
   walk_at "rd"
   refine⟨o1,g1,e1,r,rfl,ho1,h1,d1,k1,by omega,o2,g2,e2,r,rfl,ho2,h2,d2,k2,by omega,?_⟩
   refine⟨.bl (mB o1 g1 e1 o2 g2 e2 r),by rw[mj,mj,t9];rfl,_,rfl,?_⟩
   cases hh:mB o1 g1 e1 o2 g2 e2 r with
   |true =>
    rw[if_pos rfl]
    rw[rG (i:=i) (j:=j) (r:=r) (by omega) hno hno' hr hh]at k
    exact k
   |false =>
    rw[if_neg (by simp)]
    refine k3 _ _ ⟨_,rfl,rfl,fun k hk r' hr'=>?_⟩
    rcases Nat.lt_or_ge k j with c|c
    ·exact hno' k c r' hr'
    ·have:k=j:=by omega
     subst this
     rw[hr]at hr';cases hr'
     exact hh
  ·rintro Δ M2 ⟨x5,rfl,rfl,hno'⟩
   refine k' _ _ ⟨_,_,rfl,rfl,fun k hk r hr=>?_⟩
   rcases Nat.lt_or_ge k i with c|c
   ·exact hno k c r hr
   ·have:k=i:=by omega
    subst this
    obtain⟨j,hj,e⟩:=List.mem_iff_getElem.mp hr
    exact hno' j (by rw[List.length_map];exact hj) r (by rw[List.getElem?_eq_getElem hj,e])
 ·rintro Δ M' ⟨x4,x5,rfl,rfl,hno⟩
  walk_at "rd"
  rw[nY (fun k hk r hr=>hno k (by rw[bL];omega) r hr)]at k
  exact k
end
section
variable{P:Program}{w:World}{K:PySem.W.Frag}{mg:Str->Option Value}{base:Heap}
def w6(ord:List (Str×Str)) (af:List (Str×List Row)):Prop:=ord.length<=500/\1<=af.length/\af.length<=4/\(af.map (·.1)).Nodup/\(∀x∈af.map (·.1),c9 x)/\gN af 2 3
def pB:SpD:=fun ds M R=>∃(p:Addr) (l:List D) (aA:List Str) (ord:List (Str×Str)) (av:Str) (af:List (Str×List Row)),ds=[.ref p,.lst (aA.map .str),bJ ord av af]/\M p=some (.lst l)/\a7 l/\aA≠[]/\aA.length<=1000/\w6 ord af/\af.length<=3 /\
 ∀(ord':List (Str×Str)) (goal':Str) (ents':List (Str×List Row)) l',w6 ord' ents'->a7 l'->R (bJ ord' goal' ents') (au M p (.lst l'))
theorem uV{f:Addr}{fd:FuncData}(F:Fun K "_law_other" "_law_other" iB f fd) (T:Txt K mg) (g_l_draw:FnD P w K mg base "_law_draw" 1 2 cU) (g_l_lexicon:FnD P w K mg base "_law_lexicon" 3 4 gS) (g_l_kinds:FnD P w K mg base "_law_kinds" 2 5 kA) (g_l_word:FnD P w K mg base "_law_word" 2 2 jH) (g_l_order:FnD P w K mg base "_law_order" 2 3 kO):aX P w K mg base CX0 4 f fd ["_law_pool_here","_law_marks","_law_lexicon_here"] (spD K 3 pB):=by
 have nd:=nq.nd
 refine F.okQ rfl nq (fun cdv A outer s H E hr=>⟨_,(ah (za (ab 2) (lb rfl (bM (aG (i:=3) nd rfl (Or.inl rfl)) (bM (aG (i:=4) nd rfl (Or.inl rfl)) (bM (aG (i:=5) nd rfl (Or.inl rfl)) lr)))))
   (cQ (ah (aK (i:=6) nd rfl (Or.inl rfl) (qd g_l_draw hr (ae (ab 0) (ae (aY cZ rfl T.b_len (by kernel_rfl) (ae (ab 5) ag)) ag))))
   (cQ (ah (aK (i:=7) nd rfl (Or.inl rfl) (qd g_l_draw hr (ae (ab 0) (ae ak ag))))
   (cQ (ah (cz (aR B7 (ab 7) ak nbh) (cQ (ah (aK (i:=8) nd rfl (Or.inl rfl) (qd g_l_kinds hr (ae (ab 0) (ae (ab 1) (ae ak (ae ak (ae ak ag)))))))
   (aq (aO (bH (ae (ab 3) (ae (ab 4) (ae (aP aM (aP aM (cE (ab 5) dP (cW (ab 6))) (bH (ae (bH (ae (bc ba (bc ba (ab 5) (ab 6) (fun _ _=>rfl)) ak (fun _ _=>rfl)) (ae (ab 8) ag))) ag))) (cE (ab 5) (cW (aP aM (ab 6) ak)) dP)) ag)))))))) bD)
   (ah (cz (aR (lF hr.units) (ab 7) ak nbh) (cQ (aq (aO (bH (ae (qd g_l_order hr (ae (ab 0) (ae (ab 1) (ae ak ag)))) (ae (ab 4) (ae (ab 5) ag))))))) bD)
   (ah (cz (aR (lF hr.units) (ab 7) ak nbh) (cQ (aq (aO (bH (ae (ab 3) (ae (bc ba (ab 1) (qd g_l_draw hr (ae (ab 0) (ae (aY cZ rfl T.b_len (by kernel_rfl) (ae (ab 1) ag)) ag))) (fun _ _=>rfl)) (ae (yZ (ab 5) (HB Hq ak)) ag))))))) bD)
   (ah (cz (ug (kz (aR (lF hr.units) (ab 7) ak nbh) (jZ (aR EG (aY cZ rfl T.b_len (by kernel_rfl) (ae (ab 5) ag)) ak nbh)))) (cQ (aq (aO (bH (ae (ab 3) (ae (ab 4) (ae (cE (ab 5) (cW ak) dP) ag))))))) bD)
   (ah (u3 (i:=9) nd rfl rfl rfl (ms:=[false,false,false,false,false,false,false,false,false,false,false]) (ar:=["_law_word_here"]) (aW (n0:=0) rfl (show bt (aj iB) iC _ _=true from by decide +kernel)) rfl (bz (ab 5)) (jj (n:=2) rfl (cf (aN (i:=11) (show(iC++_).Nodup from by decide +kernel) rfl rfl) (cf (aN (i:=8) (show(iC++_).Nodup from by decide +kernel) rfl rfl) jb))) (fun _ _ _ _=>cC) (fun _ _ _ _=>(ab 11)))
   (cQ (ah (aK (i:=10) nd rfl (Or.inl rfl) (iV (ae (qd g_l_word hr (ae (ab 0) (ae (ab 9) ag))) ag)))
   (cQ (ah (cz (aR (lF hr.units) (qd g_l_draw hr (ae (ab 0) (ae ak ag))) ak nbh) (cQ (aq (aO (qd g_l_lexicon hr (ae (ab 0) (ae (ab 1) (ae (ab 10) (ae ak ag)))))))) bD)
   (aq (aO (qd g_l_lexicon hr (ae (ab 0) (ae (ab 1) (ae (aP aM (cE (ab 9) (cW (ab 6)) dP) (ab 10)) (ae ak ag)))))))))))))))))))))),fun ds M R hl hS=>?_⟩)
 obtain⟨p,l,aA,ord,av,af,rfl,hM,hP,hm,hml,⟨q1,q2,q3,q4,q5,q6⟩,h3,k⟩:=hS
 simp only[bJ]
 walk_at "rd"
 refine⟨_,rfl,bp ?_⟩
 walk_at "rd"
 refine⟨p,l,(af.length:Int),by rw[List.length_map],hM,hP,by omega,by omega,fun at_ l1 a0 a1 hP1=>bp ?_⟩
 obtain⟨j,rfl⟩:=Int.eq_ofNat_of_zero_le a0
 walk_at "rd"
 refine⟨p,l1,6,rfl,ai,hP1,by omega,by omega,fun way l2 b0 b1 hP2=>bp ?_⟩
 rw[ay]
 walk_at "rd"
 have hj:j<af.length:=by
  rw[show((j:Nat):Int)=(j:Int)from rfl]at a1
  omega
 have sz3':∀m,m<=5->m<=sizeLine:=fun m h=>by rw[sizeLine_eq];omega
 have mark:∀v,0<=v->v<((aA.map D.str).length:Int)->∃x,ixD (D.lst (aA.map D.str)) (D.int v)=some (D.str x):=fun v h0 h1=>by
  obtain⟨i,rfl⟩:=Int.eq_ofNat_of_zero_le h0
  rw[List.length_map]at h1
  have hi:i<aA.length:=by
   have:((i:Nat):Int)<(aA.length:Int):=h1
   omega
  refine⟨aA[i],?_⟩
  show atI (aA.map D.str) (i:Int)=_
  exact bS (by rw[List.getElem?_map,List.getElem?_eq_getElem hi];rfl)
 split
 ·refine bp ?_
  walk_at "rd"
  refine⟨p,l2,aA,2,3,1,rfl,ai,hP2,hm,hml,by omega,by omega,by omega,by omega,fun ks l3 c1 c2 c3 hP3=>?_⟩
  rw[ay]
  have e1:L2.cG (af.map dB) none (some ((j:Nat):Int))=(af.take j).map dB:=by rw[uN,List.map_take]
  have e2:L2.cG (af.map dB) (some (((j:Nat):Int)+1)) none=(af.drop (j+1)).map dB:=by
   rw[show((j:Nat):Int)+1=((j+1:Nat):Int)by omega,gY,List.map_drop]
  refine⟨dB af[j],bS (by rw[List.getElem?_map,List.getElem?_eq_getElem hj];rfl),D.str af[j].1,rfl,sz3' _ (by omega),sz3' _ (by omega),_,if_pos (sz3' _ ?_),D.tup ((af.take j++(af[j].1,ks)::af.drop (j+1)).map dB),?_,sz3' _ (by omega),?_⟩
  ·rw[e1,List.length_map,List.length_take];omega
  ·rw[vh,e1,e2,dQ,if_pos (sz3' _ ?_)]
   ·rw[List.map_append,List.map_cons,List.append_assoc];rfl
   ·simp only[List.length_append,List.length_map,List.length_take,List.length_drop,List.length_cons,List.length_nil];omega
  ·have hsp:af=af.take j++af[j]::af.drop (j+1):=by rw[List.getElem_cons_drop];simp
   have hmap:(af.take j++(af[j].1,ks)::af.drop (j+1)).map (·.1)=af.map (·.1):=by
    conv=>rhs;rw[hsp]
    rw[List.map_append,List.map_append,List.map_cons,List.map_cons]
   have hll:(af.take j++(af[j].1,ks)::af.drop (j+1)).length=af.length:=by
    have:=congrArg List.length hmap
    simpa using this
   refine k ord av (af.take j++(af[j].1,ks)::af.drop (j+1)) l3 ⟨q1,by omega,by omega,by rw[hmap];exact q4,by rw[hmap];exact q5,fun e he=>?_⟩ hP3
   rcases List.mem_append.mp he with z|z
   ·exact q6 e (List.mem_of_mem_take z)
   ·rcases List.mem_cons.mp z with rfl|z
    ·exact⟨c2,c3⟩
    ·exact q6 e (List.mem_of_mem_drop z)
 split
 ·refine bp ?_
  walk_at "rd"
  refine⟨p,l2,aA,2,rfl,ai,hP2,hm,hml,by omega,by omega,fun o2 l3 c1 c2 hP3=>?_⟩
  rw[ay]
  exact⟨sz3' _ (by omega),k o2 av af l3 ⟨by have:(2:Int).toNat=2:=rfl;omega,q2,q3,q4,q5,q6⟩ hP3⟩
 split
 ·refine bp ?_
  walk_at "rd"
  refine⟨p,l2,_,rfl,ai,hP2,?_,?_,fun v l3 c0 c1 hP3=>?_⟩
  ·have:0<aA.length:=List.length_pos_iff.mpr hm
   rw[List.length_map];omega
  ·rw[List.length_map];omega
  rw[ay]
  obtain⟨x,ex⟩:=mark v c0 c1
  refine⟨_,ex,sz3' _ (by omega),?_⟩
  rw[<-List.map_reverse]
  refine k ord x af.reverse l3 ⟨q1,by rw[List.length_reverse];exact q2,by rw[List.length_reverse];exact q3,?_,fun y hy=>q5 y ?_,fun e he=>q6 e (List.mem_reverse.mp he)⟩ hP3
  ·rw[List.map_reverse];exact(List.reverse_perm _).nodup_iff.mpr q4
  ·rw[List.map_reverse,List.mem_reverse]at hy;exact hy
 split
 case' isTrue=>split
 case isTrue =>
  refine bp ?_
  walk_at "rd"
  rename_i aU
  rw[List.length_map]at aU
  have e2:L2.cG (af.map dB) (some (1:Int)) none=(af.drop 1).map dB:=by
   rw[show(1:Int)=((1:Nat):Int)from rfl,gY,List.map_drop]
  rw[e2]
  refine⟨sz3' _ (by omega),k ord av (af.drop 1) l2 ⟨q1,by rw[List.length_drop];omega,by rw[List.length_drop];omega,?_,fun x hx=>?_,fun e he=>q6 e (List.mem_of_mem_drop he)⟩ hP2⟩
  ·rw[List.map_drop];exact(List.drop_sublist 1 _).nodup q4
  ·rw[List.map_drop]at hx;exact q5 x (List.mem_of_mem_drop hx)
 all_goals
  refine fun hz=>⟨hz,?_⟩
  refine bw dB (fun _=>true) (fun e=>D.str e.1) (fun Δ=>∃x y,Δ=[none,none,none,none,none,none,none,none,x,none,none,y]) af _ _ (fun e he Δ hΔ=>?_) ⟨none,none,rfl⟩ ?_
  ·obtain⟨x,y,rfl⟩:=hΔ
   exact⟨_,rfl,⟨_,_,rfl⟩,fun Q1 q=>q,fun _ Q2 q=>⟨_,rfl,q⟩⟩
  rw[List.nil_append,List.filter_eq_self.mpr (fun _ _=>rfl)]
  refine bp ?_
  walk_at "rd"
  refine⟨p,l2,af.map (·.1),by rw[List.map_map];rfl,ai,hP2,by rw[List.length_map];omega,fun nw l3 hw hnk hP3=>?_⟩
  rw[ay]
  refine⟨sz3' _ (by omega),bp ?_⟩
  walk_at "rd"
  refine⟨p,l3,3,rfl,ai,hP3,by omega,by omega,fun v l4 v0 v1 hP4=>?_⟩
  rw[ay]
  have fin:∀(ws:List Str) (o':List (Str×Str)) (g':Str) (e':List (Str×List Row)) l5,ws.Nodup->(∀x∈ws,c9 x)->1<=ws.length->ws.length<=4->o'.length<=2->e'.map (·.1)=ws->gN e' 2 3->a7 l5->R (bJ o' g' e') (au M p (.lst l5)):=fun ws o' g' e' l5 n1 n2 n3 n4 n5 n6 n7 n8=>by
   have hl:e'.length=ws.length:=by rw[<-n6,List.length_map]
   exact k o' g' e' l5 ⟨by omega,by omega,by omega,by rw[n6];exact n1,by rw[n6];exact n2,n7⟩ n8
  refine⟨.bl (v==1),by rw[qZ];exact uc,_,rfl,?_⟩
  split
  ·refine bp ?_
   walk_at "rd"
   refine⟨p,l4,aA,[nw],3,rfl,ai,hP4,hm,hml,by simp,by omega,by omega,fun o' g' e' l5 n5 n6 n7 n8=>?_⟩
   rw[ay]
   exact fin [nw] o' g' e' l5 (by simp) (fun x hx=>by rw[List.mem_singleton.mp hx];exact hw) (by simp) (by simp) n5 n6 n7 n8
  ·have e3:L2.cG (af.map fun e=>D.str e.1) (some ((j:Nat):Int)) none=((af.map (·.1)).drop j).map D.str:=by
    rw[gY,List.map_drop,List.map_map];rfl
   have hl3:((af.map (·.1)).drop j).length=af.length-j:=by rw[List.length_drop,List.length_map]
   refine⟨_,if_pos (sz3' _ (by rw[e3,List.length_map,hl3];omega)),p,l4,aA,(af.map (·.1)).drop j++[nw],3,by rw[e3,List.map_append];rfl,ai,hP4,hm,hml,by rw[List.length_append,hl3,List.length_singleton];omega,by omega,by omega,fun o' g' e' l5 n5 n6 n7 n8=>?_⟩
   rw[ay]
   refine fin _ o' g' e' l5 ?_ (fun x hx=>?_) (by rw[List.length_append,List.length_singleton];omega) (by rw[List.length_append,hl3,List.length_singleton];omega) n5 n6 n7 n8
   ·rw[List.nodup_append]
    exact⟨(List.drop_sublist j _).nodup q4,by simp,fun a ha b hb=>by rw[List.mem_singleton]at hb;subst hb;intro q;subst q;exact hnk (List.mem_of_mem_drop ha)⟩
   ·rcases List.mem_append.mp hx with z|z
    ·exact q5 x (List.mem_of_mem_drop z)
    ·rw[List.mem_singleton.mp z];exact hw
end
section
variable{P:Program}{w:World}{K:PySem.W.Frag}{mg:Str->Option Value}{base:Heap}
theorem Bk{w:Str}(h:c9 w):gI w:=by
 obtain⟨h1,h2,h3⟩:=h
 have e:w.length=w.cps.toList.length:=by show w.cps.size=_;simp
 refine⟨by omega,by omega,fun c hc=>?_⟩
 have:=h3 c hc
 unfold nr at this
 unfold fq
 rw[List.mem_range'_1]
 omega
theorem pU:∀{ds:List D},(∀d∈ds,eqD d d=true)->fk ds ds=true
 |[],_=>by simp[fk]
 |d::ds,h=>by simp[fk,h d (.head _),pU fun e he=>h e (.tail _ he)]
theorem zO{r:List Str}:eqD (wsD r) (wsD r)=true:=by
 show fk (r.map D.str) (r.map D.str)=true
 refine pU fun d hd=>?_
 obtain⟨x,_,rfl⟩:=List.mem_map.mp hd
 simp[eqD]
theorem D2{r:List Str}{n:Nat}:dLe (wsD r) (n+1)=true:=by
 show cv (r.map D.str) n=true
 rw[js]
 intro d hd
 obtain⟨x,_,rfl⟩:=List.mem_map.mp hd
 cases n<;>rfl
theorem qI{xs:List Str}:∀{n:Nat}{r:List Str},r∈aI xs n->∀w∈r,w∈xs
 |0,r,h,w,hw=>by simp[aI]at h;rw[h]at hw;cases hw
 |n+1,r,h,w,hw=>by
  simp only[aI,List.mem_flatMap,List.mem_map]at h
  obtain⟨q,hq,x,hx,rfl⟩:=h
  rcases List.mem_append.mp hw with c|c
  ·exact qI hq w c
  ·rw[List.mem_singleton.mp c];exact hx
theorem zo(a:Option (List Str)):dLe (nh a) 60=true:=by
 cases a with
 |none=>rfl
 |some r=>exact D2
theorem DF(a:Option (List Str)):eqD (nh a) (nh a)=true:=by
 cases a with
 |none=>rfl
 |some r=>exact zO
theorem yT{a:Option (List Str)}:neF (nh a) (nh a)=some (.bl false):=by
 unfold neF
 rw[if_pos ⟨zo a,zo a⟩,DF];rfl
theorem yK(e1 e2:List (Str×List Row)):shT e2 e1=shT e1 e2:=dv (gW (iD _ _) (iD _ _) fun x=>by rw[eN,eN];exact and_comm)
theorem Av{e1 e2:List (Str×List Row)}{x:Str}(h:x∈shT e1 e2):x∈e1.map (·.1)/\x∈e2.map (·.1):=eN.mp ((di _).mem_iff.mp h)
theorem vC{ord:List (Str×Str)}{av:Str}{af:List (Str×List Row)}(q:w6 ord af) {r:List Str}(hr:r.length<=4) (hin:∀x∈r,x∈af.map (·.1)):ph ord av af r ((uP ord av af r:Nat):Int):=by
 obtain⟨q1,q2,q3,q4,q5,q6⟩:=q
 exact Ey (K:=2) (B:=3) q6 (by omega) (by omega) (by omega) (by omega) (by omega) (by omega) (by omega) fun x hx=>⟨hin x hx,Bk (q5 x (hin x hx))⟩
theorem xQ(n:Nat):decide ((0:Int)<(n:Int))=decide (0<n):=decide_eq_decide.mpr (by omega)
theorem j9{o1:List (Str×Str)}{g1:Str}{e1:List (Str×List Row)}{o2:List (Str×Str)}{g2:Str}{e2:List (Str×List Row)}{n:Nat}(h1:w6 o1 e1) (h2:w6 o2 e2) (hn:n<=4) {M:DH}{R:D->DH->Prop}(k:R (nh (sD (shT e1 e2) (mB o1 g1 e1 o2 g2 e2) n)) M) :
  gZ [bJ o1 g1 e1,bJ o2 g2 e2,.int (n:Int)] M R:=by
 refine⟨o1,g1,e1,o2,g2,e2,n,fun r=>((uP o1 g1 e1 r:Nat):Int),fun r=>((uP o2 g2 e2 r:Nat):Int),rfl,hn,Nat.le_trans h1.2.2.1 (by decide),Nat.le_trans h2.2.2.1 (by decide),fun m hm r hr=>⟨vC h1 (by rw[fD hr];omega) fun x hx=>(Av (qI hr x hx)).1,vC h2 (by rw[fD hr];omega) fun x hx=>(Av (qI hr x hx)).2⟩,?_⟩
 simp only[xQ]
 exact k
theorem z4{o1:List (Str×Str)}{g1:Str}{e1:List (Str×List Row)}{o2:List (Str×Str)}{g2:Str}{e2:List (Str×List Row)}:mB o2 g2 e2 o1 g1 e1=mB o1 g1 e1 o2 g2 e2:=by
 funext r
 simp only[mB]
 cases decide (0<uP o1 g1 e1 r)<;>cases decide (0<uP o2 g2 e2 r)<;>rfl
theorem yl{o1:List (Str×Str)}{g1:Str}{e1:List (Str×List Row)}{sh:List Str}{n:Nat}:sD sh (mB o1 g1 e1 o1 g1 e1) n=none:=nY fun k hk r hr=>by simp[mB]
def S_law:SpD:=fun ds M R=>∃ns:List Int,ds=[.scr (ns.map .int)]/\M=noM/\ns.length<=63/\∀M',R (.bl true) M'
theorem Dt{f:Addr}{fd:FuncData}(F:Fun K "law" "law" yH f fd) (T:Txt K mg) (g_l_pool:FnD P w K mg base "_law_pool" 1 1 sA) (g_l_some_words:FnD P w K mg base "_law_some_words" 3 2 gG) (g_l_lexicon:FnD P w K mg base "_law_lexicon" 3 4 gS) (g_l_other:FnD P w K mg base "_law_other" 4 3 pB) (g_l_draw:FnD P w K mg base "_law_draw" 1 2 cU) (g_l_due:FnD P w K mg base "_law_due" 5 3 vE) (g_l_cell:FnD P w K mg base "_law_cell" 1 2 sy) (g_p_parting:FnD P w K mg base "parting" 12 3 gZ):aX P w K mg base CX0 13 f fd ["_law_script"] (spD K 1 S_law):=by
 have nd:=yI.nd
 refine F.okQ rfl yI (fun cdv A outer s H E hr=>⟨_,(ah (bO PassesOwn.never rfl (bI rfl T.b_range (ae ak ag)) (aG (i:=1) nd rfl (Or.inl rfl)) (ah (aK (i:=2) nd rfl (Or.inl rfl) (qd g_l_pool hr (ae (qd g_l_cell hr (ae (ab 0) (ae (ab 1) ag))) ag)))
   (cQ (ah (aK (i:=3) nd rfl (Or.inl rfl) (qd g_l_some_words hr (ae (ab 2) (ae (aP aM ak (qd g_l_draw hr (ae (ab 2) (ae ak ag)))) ag))))
   (cQ (ah (aK (i:=4) nd rfl (Or.inl rfl) (qd g_l_some_words hr (ae (ab 2) (ae (aP aM ak (qd g_l_draw hr (ae (ab 2) (ae ak ag)))) ag))))
   (cQ (ah (aK (i:=5) nd rfl (Or.inl rfl) (qd g_l_lexicon hr (ae (ab 2) (ae (ab 3) (ae (ab 4) (ae ak ag))))))
   (cQ (ah (aK (i:=6) nd rfl (Or.inl rfl) (qd g_l_other hr (ae (ab 2) (ae (ab 3) (ae (ab 5) ag)))))
   (cQ (ah (aK (i:=7) nd rfl (Or.inl rfl) (qd g_l_draw hr (ae (ab 2) (ae (bc ba (iV (ae ak (ae ak (ae ak ag)))) (aP yn (aY cZ rfl T.b_len (by kernel_rfl) (ae (ab 4) ag)) ak) (fun _ _=>rfl)) ag))))
   (cQ (ah (cz (ug (kz (aR (lF hr.units) (aY cZ rfl T.b_len (by kernel_rfl) (ae (ab 4) ag)) ak nbh) (jZ (aR (lF hr.units) (qd g_l_draw hr (ae (ab 2) (ae ak ag))) ak nbh)))) (aq (aK (i:=7) nd rfl (Or.inl rfl) ak)) bD)
   (cQ (ah (aK (i:=8) nd rfl (Or.inl rfl) (qd g_l_due hr (ae (ab 5) (ae (ab 6) (ae (ab 7) ag)))))
   (cQ (ah (cz (ug (C0 (aR (Az hr.units) (qd g_p_parting hr (ae (ab 5) (ae (ab 6) (ae (ab 7) ag)))) (ab 8) nbh) (yh (aR (Az hr.units) (qd g_p_parting hr (ae (ab 6) (ae (ab 5) (ae (ab 7) ag)))) (ab 8) nbh)))) (aq (aO wD)) bD)
   (aq (cz (aR vi (qd g_p_parting hr (ae (ab 5) (ae (ab 5) (ae (ab 7) ag)))) ni nbh) (aq (aO wD)) bD))))))))))))))))))))
   (aq (aO wD))),fun ds M R hl hS=>?_⟩)
 obtain⟨ns,rfl,rfl,hn,k⟩:=hS
 walk_at "rd"
 refine aE (fun i Δ M'=>∃x1 x2 x3 x4 x5 x6 x7 x8,Δ=[some (D.scr (ns.map D.int)),x1,x2,x3,x4,x5,x6,x7,x8]/\(∀a k,M' a=some k->noC k=true)) ⟨_,_,_,_,_,_,_,_,rfl,fun a k h=>absurd h (by simp[noM])⟩ ?_ ?_
 ·rintro i d Δ M' X hd ⟨x1,x2,x3,x4,x5,x6,x7,x8,rfl,hM⟩ k'
  obtain⟨hi,rfl⟩:=cw hd
  rw[Int.zero_add]
  simp only[bf]
  walk_at "rd"
  refine⟨ns,i,rfl,by omega,by omega,_,rfl,fun p l hp hP=>bp ?_⟩
  have hMp:∀l',a7 l'->∀a k,au M' p (.lst l') a=some k->noC k=true:=fun l' h' a k e=>by
   by_cases c:a=p
   ·rw[c,ai]at e;cases e;exact pz h'
   ·rw[aw c]at e;exact hM a k e
  walk_at "rd"
  refine⟨p,l,2,rfl,ai,hP,by omega,by omega,fun v l1 h0 h1 hP1=>?_⟩
  rw[ay]
  refine⟨.int (1+v),rfl,p,l1,_,rfl,ai,hP1,by omega,by omega,fun a k e _=>hMp l1 hP1 a k e,fun aA l2 hm1 hm2 hm3 hP2=>bp ?_⟩
  rw[ay]
  have hml:1<=aA.length/\aA.length<=2:=by omega
  walk_at "rd"
  refine⟨p,l2,3,rfl,ai,hP2,by omega,by omega,fun v2 l3 a0 a1 hP3=>?_⟩
  rw[ay]
  refine⟨.int (1+v2),rfl,p,l3,_,rfl,ai,hP3,by omega,by omega,fun a k e _=>hMp l3 hP3 a k e,fun words l4 hw1 hw2 hw3 hP4=>bp ?_⟩
  rw[ay]
  have hwl:1<=words.length/\words.length<=3:=by omega
  have hmne:aA≠[]:=fun z=>by rw[z]at hml;simp at hml
  walk_at "rd"
  refine⟨p,l4,aA,words,3,rfl,ai,hP4,hmne,by omega,by omega,by omega,by omega,fun ord av af l5 ho hents he hP5=>bp ?_⟩
  rw[ay]
  have hel:af.length=words.length:=by rw[<-hents,List.length_map]
  have Q1:w6 ord af:=⟨by omega,by omega,by omega,by rw[hents];exact hw2,by rw[hents];exact hw1,he⟩
  walk_at "rd"
  refine⟨p,l5,aA,ord,av,af,rfl,ai,hP5,hmne,by omega,Q1,by omega,fun o2 g2 e2 l6 Q2 hP6=>bp ?_⟩
  rw[ay]
  walk_at "rd"
  obtain⟨most,hmo,hmost,em⟩:∃most:Nat,1<=most/\most<=5/\atI [D.int 5,D.int 4,D.int 3] (((words.map D.str).length:Int)-1)=some (.int (most:Int)):=by
   rw[List.length_map]
   rcases(show words.length=1∨words.length=2∨words.length=3 by omega)with h|h|h
   ·rw[h];exact⟨5,by omega,by omega,rfl⟩
   ·rw[h];exact⟨4,by omega,by omega,rfl⟩
   ·rw[h];exact⟨3,by omega,by omega,rfl⟩
  refine⟨sz3 3,_,em,p,l6,most,rfl,ai,hP6,by omega,by omega,fun ln l7 n0 n1 hP7=>bp ?_⟩
  rw[ay]
  obtain⟨n,rfl⟩:=Int.eq_ofNat_of_zero_le n0
  have hn4:n<=4:=by
   have:((n:Nat):Int)<(most:Int):=n1
   omega
  refine yM (fun Δ M1=>∃(n:Nat) (l8:List D),n<=4/\a7 l8/\Δ=[some (D.scr (ns.map D.int)),some (D.int (i:Int)),some (D.ref p),some (D.lst (aA.map D.str)),some (D.lst (words.map D.str)),some (bJ ord av af),some (bJ o2 g2 e2),some (D.int (n:Int)),x8]/\M1=au M' p (.lst l8)) (fun nx h=>?_) (fun Δ' M1 h=>?_)
  ·walk_at "rd"
   split
   ·refine⟨p,l7,8,rfl,ai,hP7,by omega,by omega,fun v8 l8 _ _ hP8=>?_⟩
    rw[ay]
    refine⟨.bl (v8==3),by rw[qZ];exact uc,_,rfl,?_⟩
    split
    ·exact h _ _ ⟨4,l8,by omega,hP8,rfl,rfl⟩
    ·exact h _ _ ⟨n,l8,hn4,hP8,rfl,rfl⟩
   ·exact h _ _ ⟨n,l7,hn4,hP7,rfl,rfl⟩
  ·obtain⟨n,l8,hn4,hP8,rfl,rfl⟩:=h
   refine bp ?_
   walk_at "rd"
   refine⟨ord,av,af,o2,g2,e2,n,rfl,hn4,Q1.1,Q2.1,by omega,Nat.le_trans Q2.2.2.1 (by decide),Q1.2.2.2.1,Q2.2.2.2.1,Q1.2.2.2.2.2,Q2.2.2.2.2.2,bp ?_⟩
   walk_at "rd"
   refine j9 Q1 Q2 hn4 ?_
   have ra:∀(M1:DH) (a:Option (List Str)),rdM M1 (nh a)=nh a:=fun M1 a=>by cases a<;>rfl
   refine⟨.bl false,by rw[ra];exact yT,_,rfl,?_⟩
   rw[if_neg (by simp)]
   refine j9 Q2 Q1 hn4 ?_
   rw[yK af e2,z4 (o1:=ord) (g1:=av) (e1:=af)]
   refine⟨.bl false,by rw[ra];exact yT,_,rfl,?_⟩
   rw[if_neg (by simp)]
   refine j9 Q1 Q1 hn4 ?_
   rw[yl]
   rw[if_neg (by simp[nh,rdM,m9])]
   exact k' _ _ ⟨_,_,_,_,_,_,_,_,rfl,hMp l8 hP8⟩
 ·rintro Δ M' ⟨x1,x2,x3,x4,x5,x6,x7,x8,rfl,hM⟩
  walk_at "rd"
  exact k _
end
theorem GX:FN S_law:=fun ns R hn hR=>⟨ns,rfl,rfl,hn,hR⟩
theorem Eb{l:PySem.W.OpenLaw}{w:World}{K:PySem.W.Frag}{h:Heap}{mg:Str->Option Value}{fa:Addr}(X:K.In h) (G:h.Ns mainGlobals mg) (hfa:mg "law"=some (.ref fa))
  {C:Addr}
  {f0:Addr} {d0:FuncData}
  {f1:Addr} {d1:FuncData}
  {f2:Addr} {d2:FuncData}
  {f3:Addr} {d3:FuncData}
  {f4:Addr} {d4:FuncData}
  {f5:Addr} {d5:FuncData}
  {f6:Addr} {d6:FuncData}
  {f7:Addr} {d7:FuncData}
  {f8:Addr} {d8:FuncData}
  {f9:Addr} {d9:FuncData}
  {f10:Addr} {d10:FuncData}
  {f11:Addr} {d11:FuncData}
  {f12:Addr} {d12:FuncData}
  {f13:Addr} {d13:FuncData}
  {f14:Addr} {d14:FuncData}
  {f15:Addr} {d15:FuncData}
  {f16:Addr} {d16:FuncData}
  {f17:Addr} {d17:FuncData}
  {f18:Addr} {d18:FuncData}
  {f19:Addr} {d19:FuncData}
  {f20:Addr} {d20:FuncData}
  {f21:Addr} {d21:FuncData}
  {f22:Addr} {d22:FuncData}
  {f23:Addr} {d23:FuncData}
  {f24:Addr} {d24:FuncData}
  {f25:Addr} {d25:FuncData}
  {f26:Addr} {d26:FuncData}
  {f27:Addr} {d27:FuncData}
  {f28:Addr} {d28:FuncData}
  {f29:Addr} {d29:FuncData}
  {f30:Addr} {d30:FuncData}
  {f31:Addr} {d31:FuncData}
  {f32:Addr} {d32:FuncData}
  {f33:Addr} {d33:FuncData}
  {f34:Addr} {d34:FuncData}
  {f35:Addr} {d35:FuncData}
  {f36:Addr} {d36:FuncData}
  {f37:Addr} {d37:FuncData}
  {f38:Addr} {d38:FuncData}
  {f39:Addr} {d39:FuncData}
  {f40:Addr} {d40:FuncData}
  {ad_START:Addr} {nn_START:Nat} {ss_START:Array (Option Value)} {tk_START0 tk_START1 tk_START2:Tok}
  {tk_SMALL_LETTERS:Tok}
  {tk_MOST_LETTERS:Tok}
  (x0:bF K "is_short_word" ck f0 d0)
  (x1:bF K "tuples_of" dn f1 d1)
  (x2:bF K "reached_from" de f2 d2)
  (x3:bF K "words_of" dO f3 d3)
  (x4:bF K "goals_wish" eE f4 d4)
  (x5:bF K "places_of" dj f5 d5)
  (x6:bF K "last_place" eO f6 d6)
  (x7:bF K "sign_behind" dI f7 d7)
  (x8:bF K "next_place" eh f8 d8)
  (x9:bF K "begins_behind" cj f9 d9)
  (x10:bF K "counts_from" dG f10 d10)
  (x11:bF K "count_of_all" df f11 d11)
  (x12:bF K "_law_cell" nU f12 d12)
  (x13:bF K "_law_pool" mr f13 d13)
  (x14:bF K "_law_draw" nP f14 d14)
  (x15:bF K "_law_at_most" ff f15 d15)
  (x16:bF K "_law_rows" jL f16 d16)
  (x17:bF K "at_most" g9 f17 d17)
  (x18:bF K "has_word" gd f18 d18)
  (x19:bF K "_law_word" fL f19 d19)
  (x20:bF K "_law_order" ke f20 d20)
  (x21:bF K "_law_kinds" ka f21 d21)
  (x22:bF K "_law_cancels" g8 f22 d22)
  (x23:bF K "mark_leads" er f23 d23)
  (x24:bF K "kinds_of" fX f24 d24)
  (x25:bF K "_law_some_words" eP f25 d25)
  (x26:bF K "_law_lexicon" eW f26 d26)
  (x27:bF K "_law_wholly" jd f27 d27)
  (x28:bF K "cancel" iY f28 d28)
  (x29:bF K "kinds_by_number" cB f29 d29)
  (x30:bF K "_law_is_sentence" bV f30 d30)
  (x31:bF K "_law_other" iB f31 d31)
  (x32:bF K "are_joined" eA f32 d32)
  (x33:bF K "_law_due" lU f33 d33)
  (x34:bF K "first_steps" bZ f34 d34)
  (m0:PySem.W.nsIn K mainGlobals "Chart"=some (some (.ref C))) (m1:PySem.W.makesIn K C=true) (m2:PySem.W.findIn K (.ref C) "__init__"=some (some (.ref f35))) (m3:PySem.W.isFn K (.ref f35)=true) (m4:PySem.W.keepIn K (.ref C)=true)
  (y1:PySem.W.plainGet K C Str.empty=true) (y2:PySem.W.hasDictIn K C=true) (y3:PySem.W.plainOver K C=true) (y4:PySem.W.findIn K (.ref C) "__setattr__"=some (some (.builtin "object.__setattr__")))
  (y_kinds:PySem.W.findIn K (.ref C) "kinds"=some none)
  (y_end:PySem.W.findIn K (.ref C) "end"=some none)
  (y_steps:PySem.W.findIn K (.ref C) "steps"=some none)
  (y_counts:PySem.W.findIn K (.ref C) "counts"=some none)
  (x35:Fun K "__init__" "Chart.__init__" kn f35 d35)
  (x36:bF K "chart_of" gc f36 d36)
  (x37:bF K "many" mH f37 d37)
  (x38:bF K "is_sentence" dH f38 d38)
  (x39:bF K "parting" gX f39 d39)
  (x40:bF K "law" yH f40 d40)
  (z_isinstance:PySem.W.nsIn K mainGlobals "isinstance"=some none)
  (z_str:PySem.W.nsIn K mainGlobals "str"=some none)
  (z_all:PySem.W.nsIn K mainGlobals "all"=some none)
  (z_len:PySem.W.nsIn K mainGlobals "len"=some none)
  (z_range:PySem.W.nsIn K mainGlobals "range"=some none)
  (z_enumerate:PySem.W.nsIn K mainGlobals "enumerate"=some none)
  (z_max:PySem.W.nsIn K mainGlobals "max"=some none)
  (z_list:PySem.W.nsIn K mainGlobals "list"=some none)
  (z_sorted:PySem.W.nsIn K mainGlobals "sorted"=some none)
  (z_set:PySem.W.nsIn K mainGlobals "set"=some none)
  (z_abs:PySem.W.nsIn K mainGlobals "abs"=some none)
  (z_tuple:PySem.W.nsIn K mainGlobals "tuple"=some none)
  (z_any:PySem.W.nsIn K mainGlobals "any"=some none)
  (z_reversed:PySem.W.nsIn K mainGlobals "reversed"=some none)
  (z_START:PySem.W.nsIn K mainGlobals "START"=some (some (.ref ad_START))) (w_START:K.lookup ad_START=some ⟨.type "tuple",none,.seq #[.int (-1) tk_START0,.int (0) tk_START1,.int (0) tk_START2] nn_START,ss_START⟩)
  (z_SMALL_LETTERS:PySem.W.nsIn K mainGlobals "SMALL_LETTERS"=some (some (.str "abcdefghijklmnopqrstuvwxyz" tk_SMALL_LETTERS)))
  (z_MOST_LETTERS:PySem.W.nsIn K mainGlobals "MOST_LETTERS"=some (some (.int 8 tk_MOST_LETTERS)))
 :∃fd:FuncData,(∀(s:Shared) (v:Value),BindsTo s fd ⟨[v],[]⟩ [("_law_script",v)])/\∀base:Heap,K.In base->base.Ns mainGlobals mg->aX l.prog w K mg base CX0 13 fa fd ["_law_script"] (spD K 1 S_law):=by
 have T:Txt K mg:=⟨⟨_,PySem.W.mg_of X G z_START,.inr ⟨_,_,_,w_START,⟨rfl,rfl⟩,rfl,szB 3,(.cons ⟨_,rfl⟩ (.cons ⟨_,rfl⟩ (.cons ⟨_,rfl⟩ .nil)))⟩⟩,PySem.W.mg_none_of X G z_isinstance,PySem.W.mg_none_of X G z_str,PySem.W.mg_none_of X G z_all,PySem.W.mg_none_of X G z_len,PySem.W.mg_none_of X G z_range,PySem.W.mg_none_of X G z_enumerate,PySem.W.mg_none_of X G z_max,PySem.W.mg_none_of X G z_list,PySem.W.mg_none_of X G z_sorted,PySem.W.mg_none_of X G z_set,PySem.W.mg_none_of X G z_abs,PySem.W.mg_none_of X G z_tuple,PySem.W.mg_none_of X G z_any,PySem.W.mg_none_of X G z_reversed,⟨_,PySem.W.mg_of X G z_SMALL_LETTERS⟩,⟨_,PySem.W.mg_of X G z_MOST_LETTERS⟩⟩
 have Z:jG K C:=⟨⟨y1,y2,y3,y4⟩,y_kinds,y_end,y_steps,y_counts⟩
 refine ES X G hfa x40 (fun _ _ _ _ _ _ _=>rfl) fun base=>?_
 have g_p_is_short_word:=fg X G x0 (je (P:=l.prog) (w:=w) (base:=base) x0.F T ) (bd1 x0.F fun _ _ _ _ _ _ _=>rfl)
 have g_p_tuples_of:=fg X G x1 (my (P:=l.prog) (w:=w) (base:=base) x1.F T ) (bd2 x1.F fun _ _ _ _ _ _ _ _=>rfl)
 have g_p_reached_from:=fg X G x2 (j0 (P:=l.prog) (w:=w) (base:=base) x2.F T ) (bd2 x2.F fun _ _ _ _ _ _ _ _=>rfl)
 have g_p_words_of:=fg X G x3 (oC (P:=l.prog) (w:=w) (base:=base) x3.F T ) (bd1 x3.F fun _ _ _ _ _ _ _=>rfl)
 have g_p_goals_wish:=fg X G x4 (lM (P:=l.prog) (w:=w) (base:=base) x4.F T ) (bd1 x4.F fun _ _ _ _ _ _ _=>rfl)
 have g_p_places_of:=fg X G x5 (mx (P:=l.prog) (w:=w) (base:=base) x5.F T ) (bd1 x5.F fun _ _ _ _ _ _ _=>rfl)
 have g_p_last_place:=fg X G x6 (lC (P:=l.prog) (w:=w) (base:=base) x6.F T ) (bd1 x6.F fun _ _ _ _ _ _ _=>rfl)
 have g_p_sign_behind:=fg X G x7 (kq (P:=l.prog) (w:=w) (base:=base) x7.F T ) (bd2 x7.F fun _ _ _ _ _ _ _ _=>rfl)
 have g_p_next_place:=fg X G x8 (lA (P:=l.prog) (w:=w) (base:=base) x8.F T ) (bd1 x8.F fun _ _ _ _ _ _ _=>rfl)
 have g_p_begins_behind:=fg X G x9 (i6 (P:=l.prog) (w:=w) (base:=base) x9.F T ) (bd2 x9.F fun _ _ _ _ _ _ _ _=>rfl)
 have g_p_counts_from:=fg X G x10 (kG (P:=l.prog) (w:=w) (base:=base) x10.F T Z ) (bd2 x10.F fun _ _ _ _ _ _ _ _=>rfl)
 have g_p_count_of_all:=fg X G x11 (jx (P:=l.prog) (w:=w) (base:=base) x11.F T Z ) (bd1 x11.F fun _ _ _ _ _ _ _=>rfl)
 have g_l_cell:=fg X G x12 (wO (P:=l.prog) (w:=w) (base:=base) x12.F T ) (bd2 x12.F fun _ _ _ _ _ _ _ _=>rfl)
 have g_l_pool:=fg X G x13 (xg (P:=l.prog) (w:=w) (base:=base) x13.F T ) (bd1 x13.F fun _ _ _ _ _ _ _=>rfl)
 have g_l_draw:=fg X G x14 (wL (P:=l.prog) (w:=w) (base:=base) x14.F T ) (bd2 x14.F fun _ _ _ _ _ _ _ _=>rfl)
 have g_l_at_most:=fg X G x15 (qi (P:=l.prog) (w:=w) (base:=base) x15.F T ) (bd3 x15.F fun _ _ _ _ _ _ _ _ _=>rfl)
 have g_l_rows:=fg X G x16 (xf (P:=l.prog) (w:=w) (base:=base) x16.F T ) (bd2 x16.F fun _ _ _ _ _ _ _ _=>rfl)
 have g_p_at_most:=fg X G x17 (qv (P:=l.prog) (w:=w) (base:=base) x17.F T g_p_reached_from) (bd3 x17.F fun _ _ _ _ _ _ _ _ _=>rfl)
 have g_p_has_word:=fg X G x18 (oj (P:=l.prog) (w:=w) (base:=base) x18.F T g_p_is_short_word g_p_words_of) (bd2 x18.F fun _ _ _ _ _ _ _ _=>rfl)
 have g_l_word:=fg X G x19 (wV (P:=l.prog) (w:=w) (base:=base) x19.F T g_l_draw) (bd2 x19.F fun _ _ _ _ _ _ _ _=>rfl)
 have g_l_order:=fg X G x20 (tW (P:=l.prog) (w:=w) (base:=base) x20.F T g_l_draw) (bd3 x20.F fun _ _ _ _ _ _ _ _ _=>rfl)
 have g_l_kinds:=fg X G x21 (uE (P:=l.prog) (w:=w) (base:=base) x21.F T g_l_draw) (bd5 x21.F fun _ _ _ _ _ _ _ _ _ _ _=>rfl)
 have g_l_cancels:=fg X G x22 (rj (P:=l.prog) (w:=w) (base:=base) x22.F T g_l_at_most) (bd3 x22.F fun _ _ _ _ _ _ _ _ _=>rfl)
 have g_p_mark_leads:=fg X G x23 (lN (P:=l.prog) (w:=w) (base:=base) x23.F T g_p_at_most) (bd4 x23.F fun _ _ _ _ _ _ _ _ _ _=>rfl)
 have g_p_kinds_of:=fg X G x24 (oo (P:=l.prog) (w:=w) (base:=base) x24.F T g_p_has_word g_p_words_of) (bd2 x24.F fun _ _ _ _ _ _ _ _=>rfl)
 have g_l_some_words:=fg X G x25 (lP (P:=l.prog) (w:=w) (base:=base) x25.F T g_l_word) (bd2 x25.F fun _ _ _ _ _ _ _ _=>rfl)
 have g_l_lexicon:=fg X G x26 (qz (P:=l.prog) (w:=w) (base:=base) x26.F T g_l_order g_l_draw g_l_kinds) (bd4 x26.F fun _ _ _ _ _ _ _ _ _ _=>rfl)
 have g_l_wholly:=fg X G x27 (tF (P:=l.prog) (w:=w) (base:=base) x27.F T g_l_cancels) (bd2 x27.F fun _ _ _ _ _ _ _ _=>rfl)
 have g_p_cancel:=fg X G x28 (tM (P:=l.prog) (w:=w) (base:=base) x28.F T g_p_mark_leads) (bd3 x28.F fun _ _ _ _ _ _ _ _ _=>rfl)
 have g_p_kinds_by_number:=fg X G x29 (gU (P:=l.prog) (w:=w) (base:=base) x29.F T g_p_kinds_of g_p_goals_wish) (bd2 x29.F fun _ _ _ _ _ _ _ _=>rfl)
 have g_l_is_sentence:=fg X G x30 (kf (P:=l.prog) (w:=w) (base:=base) x30.F T g_l_wholly) (bd2 x30.F fun _ _ _ _ _ _ _ _=>rfl)
 have g_l_other:=fg X G x31 (uV (P:=l.prog) (w:=w) (base:=base) x31.F T g_l_draw g_l_lexicon g_l_kinds g_l_word g_l_order) (bd3 x31.F fun _ _ _ _ _ _ _ _ _=>rfl)
 have g_p_are_joined:=fg X G x32 (lJ (P:=l.prog) (w:=w) (base:=base) x32.F T g_p_cancel) (bd3 x32.F fun _ _ _ _ _ _ _ _ _=>rfl)
 have g_l_due:=fg X G x33 (zU (P:=l.prog) (w:=w) (base:=base) x33.F T g_l_rows g_l_is_sentence) (bd3 x33.F fun _ _ _ _ _ _ _ _ _=>rfl)
 have g_p_first_steps:=fg X G x34 (kH (P:=l.prog) (w:=w) (base:=base) x34.F T Z g_p_sign_behind g_p_next_place g_p_are_joined g_p_begins_behind) (bd3 x34.F fun _ _ _ _ _ _ _ _ _=>rfl)
 have g_p_Chart:MkD l.prog w K mg base "Chart" C 7 3 (kh C):=⟨_,_,_,⟨m1,m2,m3,m4⟩,uC x35 T Z g_p_last_place g_p_places_of g_p_first_steps g_p_counts_from,PySem.W.mg_of X G m0,bd3 x35 fun _ _ _ _ _ _ _ _ _=>rfl⟩
 have g_p_chart_of:=fg X G x36 (oz (P:=l.prog) (w:=w) (base:=base) x36.F T g_p_Chart g_p_kinds_by_number) (bd2 x36.F fun _ _ _ _ _ _ _ _=>rfl)
 have g_p_many:=fg X G x37 (xp (P:=l.prog) (w:=w) (base:=base) x37.F T g_p_count_of_all g_p_chart_of) (bd2 x37.F fun _ _ _ _ _ _ _ _=>rfl)
 have g_p_is_sentence:=fg X G x38 (kK (P:=l.prog) (w:=w) (base:=base) x38.F T g_p_many) (bd2 x38.F fun _ _ _ _ _ _ _ _=>rfl)
 have g_p_parting:=fg X G x39 (qY (P:=l.prog) (w:=w) (base:=base) x39.F T g_p_tuples_of g_p_words_of g_p_is_sentence) (bd3 x39.F fun _ _ _ _ _ _ _ _ _=>rfl)
 exact Dt x40.F T g_l_pool g_l_some_words g_l_lexicon g_l_other g_l_draw g_l_due g_l_cell g_p_parting
end My
namespace PySem.W.Fast
theorem tw1005946959292036002:True:=⟨⟩
theorem tw10099817835441791146:True:=⟨⟩
theorem tw10134289160656155131:True:=⟨⟩
theorem tw10250322179395175577:True:=⟨⟩
theorem tw10266108288572043037:True:=⟨⟩
theorem tw10284694362216474995:True:=⟨⟩
theorem tw10369770747352650059:True:=⟨⟩
theorem tw10373254433826942162:True:=⟨⟩
theorem tw10446508605629396517:True:=⟨⟩
theorem tw10542555070390423695:True:=⟨⟩
theorem tw10579814883084271007:True:=⟨⟩
theorem tw10602762738312653641:True:=⟨⟩
theorem tw10605198316926175573:True:=⟨⟩
theorem tw10661787152060771900:True:=⟨⟩
theorem tw10962061697009026629:True:=⟨⟩
theorem tw10975891896302436483:True:=⟨⟩
theorem tw11032864099535193570:True:=⟨⟩
theorem tw11042841192006376253:True:=⟨⟩
theorem tw11087881631839392014:True:=⟨⟩
theorem tw11318513500925262301:True:=⟨⟩
theorem tw11369039070473750542:True:=⟨⟩
theorem tw11438206629506988562:True:=⟨⟩
theorem tw11469660063079241253:True:=⟨⟩
theorem tw11552609831543556246:True:=⟨⟩
theorem tw11600673768836589389:True:=⟨⟩
theorem tw11604250052833953318:True:=⟨⟩
theorem tw11636096099502834275:True:=⟨⟩
theorem tw11654045651402669103:True:=⟨⟩
theorem tw11654094728272458683:True:=⟨⟩
theorem tw11881336523127472276:True:=⟨⟩
theorem tw119850002267007381:True:=⟨⟩
theorem tw12039919306649451715:True:=⟨⟩
theorem tw12163714915775786425:True:=⟨⟩
theorem tw12216691618163817745:True:=⟨⟩
theorem tw12269263012656986218:True:=⟨⟩
theorem tw12364837760854752785:True:=⟨⟩
theorem tw12365047372389244065:True:=⟨⟩
theorem tw12558684897718294200:True:=⟨⟩
theorem tw12573865831957544700:True:=⟨⟩
theorem tw12648039688087834438:True:=⟨⟩
theorem tw12808393758916320242:True:=⟨⟩
theorem tw12972152225779693472:True:=⟨⟩
theorem tw12975295131180541947:True:=⟨⟩
theorem tw13025906593144537620:True:=⟨⟩
theorem tw13074466867321820329:True:=⟨⟩
theorem tw13107011456777375403:True:=⟨⟩
theorem tw1315461002059518798:True:=⟨⟩
theorem tw13184004911281496050:True:=⟨⟩
theorem tw13184823190224367806:True:=⟨⟩
theorem tw13231165723323583520:True:=⟨⟩
theorem tw13293151283703006663:True:=⟨⟩
theorem tw13352965308041470469:True:=⟨⟩
theorem tw13456854904561327444:True:=⟨⟩
theorem tw13524238430183039038:True:=⟨⟩
theorem tw13534362102027780268:True:=⟨⟩
theorem tw13693865557726323311:True:=⟨⟩
theorem tw13831050353627473825:True:=⟨⟩
theorem tw13872995385461650016:True:=⟨⟩
theorem tw13890518202031780446:True:=⟨⟩
theorem tw13918223225853513396:True:=⟨⟩
theorem tw13942476360680665598:True:=⟨⟩
theorem tw13964581336007941721:True:=⟨⟩
theorem tw14008201009594608116:True:=⟨⟩
theorem tw14056233712388839893:True:=⟨⟩
theorem tw14090759333976558363:True:=⟨⟩
theorem tw14107171856470841070:True:=⟨⟩
theorem tw14124630878459907850:True:=⟨⟩
theorem tw14167685916967078467:True:=⟨⟩
theorem tw14211237837091719585:True:=⟨⟩
theorem tw1453441784471221172:True:=⟨⟩
theorem tw14635546987420235270:True:=⟨⟩
theorem tw14939678973640451882:True:=⟨⟩
theorem tw15064144638392176029:True:=⟨⟩
theorem tw15087771037288215003:True:=⟨⟩
theorem tw1509974453472532906:True:=⟨⟩
theorem tw15111686947154326337:True:=⟨⟩
theorem tw15127478305730001163:True:=⟨⟩
theorem tw1515124285784240165:True:=⟨⟩
theorem tw15163930870718804050:True:=⟨⟩
theorem tw15333138815008994840:True:=⟨⟩
theorem tw15342757141137622228:True:=⟨⟩
theorem tw1535740524061423163:True:=⟨⟩
theorem tw15380838857736264959:True:=⟨⟩
theorem tw15448899774789458116:True:=⟨⟩
theorem tw15463627328554400222:True:=⟨⟩
theorem tw15466935000935147743:True:=⟨⟩
theorem tw15628919032416622692:True:=⟨⟩
theorem tw15759511215917883424:True:=⟨⟩
theorem tw15769357518910248296:True:=⟨⟩
theorem tw15842899173950946423:True:=⟨⟩
theorem tw15931338445932853097:True:=⟨⟩
theorem tw15947726043984881432:True:=⟨⟩
theorem tw15986869936638487588:True:=⟨⟩
theorem tw16000559468274366201:True:=⟨⟩
theorem tw16021361256213391518:True:=⟨⟩
theorem tw16064206201069561189:True:=⟨⟩
theorem tw16160506631820067771:True:=⟨⟩
theorem tw16313840723748355189:True:=⟨⟩
theorem tw16319925758976134932:True:=⟨⟩
theorem tw16363682417827381324:True:=⟨⟩
theorem tw16401144642099590246:True:=⟨⟩
theorem tw16483376847211257888:True:=⟨⟩
theorem tw16574040662304429821:True:=⟨⟩
theorem tw16591487977365434059:True:=⟨⟩
theorem tw16653401091880244523:True:=⟨⟩
theorem tw16711194509831210370:True:=⟨⟩
theorem tw16784979657947708574:True:=⟨⟩
theorem tw16924599897223554840:True:=⟨⟩
theorem tw17045759935891169640:True:=⟨⟩
theorem tw17050080021714929276:True:=⟨⟩
theorem tw17112523778734265572:True:=⟨⟩
theorem tw17113376944622812854:True:=⟨⟩
theorem tw1711965952729040624:True:=⟨⟩
theorem tw17149529721291564554:True:=⟨⟩
theorem tw17161304293524079203:True:=⟨⟩
theorem tw17222720067104350741:True:=⟨⟩
theorem tw17230884843309113646:True:=⟨⟩
theorem tw17308014054307618820:True:=⟨⟩
theorem tw17332983859213363793:True:=⟨⟩
theorem tw17407871367728881806:True:=⟨⟩
theorem tw17450249710634131586:True:=⟨⟩
theorem tw17527651182750352386:True:=⟨⟩
theorem tw17733254609653428176:True:=⟨⟩
theorem tw17785603272970896683:True:=⟨⟩
theorem tw17847162624634037294:True:=⟨⟩
theorem tw17866199762593083074:True:=⟨⟩
theorem tw17911027691656131593:True:=⟨⟩
theorem tw17935175953085060211:True:=⟨⟩
theorem tw17975845700686253264:True:=⟨⟩
theorem tw17996087796188111988:True:=⟨⟩
theorem tw18060181044235834451:True:=⟨⟩
theorem tw181254769186406677:True:=⟨⟩
theorem tw18188869364029554731:True:=⟨⟩
theorem tw18369464865543568888:True:=⟨⟩
theorem tw18375401679286509766:True:=⟨⟩
theorem tw18398938208475834072:True:=⟨⟩
theorem tw2076409173186836856:True:=⟨⟩
theorem tw2089235999937843695:True:=⟨⟩
theorem tw211269223051632312:True:=⟨⟩
theorem tw2120018346412230585:True:=⟨⟩
theorem tw228164542672040472:True:=⟨⟩
theorem tw2325088625347682841:True:=⟨⟩
theorem tw2328606934606816845:True:=⟨⟩
theorem tw2438247580419827443:True:=⟨⟩
theorem tw2501153439416445558:True:=⟨⟩
theorem tw2732997800236508151:True:=⟨⟩
theorem tw2734686659116094186:True:=⟨⟩
theorem tw2745193120675213950:True:=⟨⟩
theorem tw2759815406958028207:True:=⟨⟩
theorem tw2852861156140834772:True:=⟨⟩
theorem tw2934581991081218927:True:=⟨⟩
theorem tw295529003626125870:True:=⟨⟩
theorem tw300162477891868570:True:=⟨⟩
theorem tw3026994597219603348:True:=⟨⟩
theorem tw302946263182260360:True:=⟨⟩
theorem tw3029857631210389929:True:=⟨⟩
theorem tw3057521458853401638:True:=⟨⟩
theorem tw3103848279671578162:True:=⟨⟩
theorem tw3137681626417179594:True:=⟨⟩
theorem tw3152631040830199149:True:=⟨⟩
theorem tw3374388672206490302:True:=⟨⟩
theorem tw3382006124446625722:True:=⟨⟩
theorem tw3401195038826196008:True:=⟨⟩
theorem tw3451784977567891343:True:=⟨⟩
theorem tw3475490941777322658:True:=⟨⟩
theorem tw3553409418452437748:True:=⟨⟩
theorem tw3605773656750076122:True:=⟨⟩
theorem tw3699898699442775599:True:=⟨⟩
theorem tw3788029479871343266:True:=⟨⟩
theorem tw3886231233007115661:True:=⟨⟩
theorem tw3920458570161189170:True:=⟨⟩
theorem tw3921267038192683984:True:=⟨⟩
theorem tw3922273296618401760:True:=⟨⟩
theorem tw3959442208173044187:True:=⟨⟩
theorem tw3965422899936491411:True:=⟨⟩
theorem tw4020362310589056378:True:=⟨⟩
theorem tw4112554267873310268:True:=⟨⟩
theorem tw4144796864610351776:True:=⟨⟩
theorem tw4235895667871665967:True:=⟨⟩
theorem tw4273362917997542309:True:=⟨⟩
theorem tw4337922724370784648:True:=⟨⟩
theorem tw4372927041669276087:True:=⟨⟩
theorem tw4422567330718498788:True:=⟨⟩
theorem tw4503596303108188793:True:=⟨⟩
theorem tw4663819370005378507:True:=⟨⟩
theorem tw4823467382525834078:True:=⟨⟩
theorem tw4918512827510500343:True:=⟨⟩
theorem tw501638987058836689:True:=⟨⟩
theorem tw5068194284899279890:True:=⟨⟩
theorem tw5210123672848129062:True:=⟨⟩
theorem tw5453341181540085323:True:=⟨⟩
theorem tw5473971358398757629:True:=⟨⟩
theorem tw5476980668951195670:True:=⟨⟩
theorem tw5479172919837682019:True:=⟨⟩
theorem tw5493034958364263742:True:=⟨⟩
theorem tw556370393516583135:True:=⟨⟩
theorem tw5639355360518692868:True:=⟨⟩
theorem tw5687253052516444777:True:=⟨⟩
theorem tw5713217742109343902:True:=⟨⟩
theorem tw5729610903791772649:True:=⟨⟩
theorem tw5851177721227273270:True:=⟨⟩
theorem tw5875567500505276542:True:=⟨⟩
theorem tw5925437716474656268:True:=⟨⟩
theorem tw5926130928167372133:True:=⟨⟩
theorem tw6020822516523934561:True:=⟨⟩
theorem tw6061930128228611993:True:=⟨⟩
theorem tw6089345804223169428:True:=⟨⟩
theorem tw6103390986821386902:True:=⟨⟩
theorem tw6117768045317005559:True:=⟨⟩
theorem tw6165839410640632468:True:=⟨⟩
theorem tw6202424727320681419:True:=⟨⟩
theorem tw6291804498273887803:True:=⟨⟩
theorem tw6302983374301206384:True:=⟨⟩
theorem tw6303652476956295449:True:=⟨⟩
theorem tw6327521126272248162:True:=⟨⟩
theorem tw6340689764439632028:True:=⟨⟩
theorem tw6355564422682302410:True:=⟨⟩
theorem tw6458790297391492754:True:=⟨⟩
theorem tw6528015438174625280:True:=⟨⟩
theorem tw6625760212423579354:True:=⟨⟩
theorem tw6655222518438520137:True:=⟨⟩
theorem tw6684875407129091109:True:=⟨⟩
theorem tw683209271233223707:True:=⟨⟩
theorem tw6876896100158982275:True:=⟨⟩
theorem tw7023119044298530237:True:=⟨⟩
theorem tw7049299903558681310:True:=⟨⟩
theorem tw7148762980755637352:True:=⟨⟩
theorem tw7155363243508742423:True:=⟨⟩
theorem tw7186591263688706565:True:=⟨⟩
theorem tw7291810826959575736:True:=⟨⟩
theorem tw7399086616689591972:True:=⟨⟩
theorem tw7456299490563326938:True:=⟨⟩
theorem tw7473801197868797101:True:=⟨⟩
theorem tw7567156611091735956:True:=⟨⟩
theorem tw7602120920941670741:True:=⟨⟩
theorem tw7610472615628435180:True:=⟨⟩
theorem tw7652538678567433250:True:=⟨⟩
theorem tw7661828091811197603:True:=⟨⟩
theorem tw7706064075984995936:True:=⟨⟩
theorem tw7731990978539725516:True:=⟨⟩
theorem tw7772901033936398332:True:=⟨⟩
theorem tw7798455791459388359:True:=⟨⟩
theorem tw7816945038594664036:True:=⟨⟩
theorem tw7824049585219382990:True:=⟨⟩
theorem tw782488075427913173:True:=⟨⟩
theorem tw7841146285860374226:True:=⟨⟩
theorem tw7861494828907294454:True:=⟨⟩
theorem tw7875565294760579103:True:=⟨⟩
theorem tw796894969190946055:True:=⟨⟩
theorem tw805295682140984215:True:=⟨⟩
theorem tw8055236785446088283:True:=⟨⟩
theorem tw8096579040807552779:True:=⟨⟩
theorem tw8179229330343180427:True:=⟨⟩
theorem tw8292199024387461654:True:=⟨⟩
theorem tw8299331721152499583:True:=⟨⟩
theorem tw8325585459795077866:True:=⟨⟩
theorem tw8391724912720270135:True:=⟨⟩
theorem tw8492716164914347390:True:=⟨⟩
theorem tw8494279882989728813:True:=⟨⟩
theorem tw8542070878409770912:True:=⟨⟩
theorem tw8575925563456803188:True:=⟨⟩
theorem tw8595597627161285544:True:=⟨⟩
theorem tw8656176234307952780:True:=⟨⟩
theorem tw8731048400624143171:True:=⟨⟩
theorem tw8759566326995786919:True:=⟨⟩
theorem tw8771794682708811827:True:=⟨⟩
theorem tw8774882381697509171:True:=⟨⟩
theorem tw8804933050561016544:True:=⟨⟩
theorem tw8947061982822093041:True:=⟨⟩
theorem tw9047696182809764705:True:=⟨⟩
theorem tw9066073916312418605:True:=⟨⟩
theorem tw9086052666816858562:True:=⟨⟩
theorem tw9123213627201517897:True:=⟨⟩
theorem tw9125924485958092725:True:=⟨⟩
theorem tw9159105428701053261:True:=⟨⟩
theorem tw9186550945801781620:True:=⟨⟩
theorem tw9198731203166672404:True:=⟨⟩
theorem tw9201488038358585791:True:=⟨⟩
theorem tw9212919675254045098:True:=⟨⟩
theorem tw924339430730180318:True:=⟨⟩
theorem tw9247051995138301327:True:=⟨⟩
theorem tw9287242043001365451:True:=⟨⟩
theorem tw9309338293719199868:True:=⟨⟩
theorem tw9336985762824495551:True:=⟨⟩
theorem tw9397378508909976134:True:=⟨⟩
theorem tw95096458362797686:True:=⟨⟩
theorem tw9539369190503722506:True:=⟨⟩
theorem tw9599769613599549022:True:=⟨⟩
theorem tw9615325437841540001:True:=⟨⟩
theorem tw9675246713405463354:True:=⟨⟩
theorem tw9683028760119089716:True:=⟨⟩
theorem tw9698557981031843087:True:=⟨⟩
theorem tw9894102268733962748:True:=⟨⟩
theorem tw9921240344203611068:True:=⟨⟩
theorem tw9943835959864936409:True:=⟨⟩
end PySem.W.Fast
open PySem PySem.W PyProof.Rows
set_option maxRecDepth 100000 in
set_option maxHeartbeats 0 in
theorem PySem.Challenge.cw_wordwishes_k57_lexicons_parted_holds : PySem.Challenge.rw_wordwishes_k57_lexicons_parted.Holds := by
 w_on;o_law;z_head;(case hw=>w_witness2)
 k_fill
 refine L2.zr (fun _=>rfl) ?_
 refine L2.FE (S:=My.S_law) My.GX (k:=13) (x:="_law_script") (l:=PySem.Challenge.rw_wordwishes_k57_lexicons_parted) ⟨rfl,by decide,by decide⟩ rfl rfl (fun w h Y=>Y) ?F
 case F =>
  intro w mg fa h KX G hmg
  refine' My.Eb KX G hmg ?_ ?_ ?_ ?_ ?_ ?_ ?_ ?_ ?_ ?_ ?_ ?_ ?_ ?_ ?_ ?_ ?_ ?_ ?_ ?_ ?_ ?_ ?_ ?_ ?_ ?_ ?_ ?_ ?_ ?_ ?_ ?_ ?_ ?_ ?_ ?_ ?_ ?_ ?_ ?_ ?_ ?_ ?_ ?_ ?_ ?_ ?_ ?_ ?_ ?_ ?_ ?_ ?_ ?_ ?_ ?_ ?_ ?_ ?_ ?_ ?_ ?_ ?_ ?_ ?_ ?_ ?_ ?_ ?_ ?_ ?_ ?_
  all_goals try first|exact L2.Gj (by k_is) (by k_is) (by k_is) (by k_is)|exact L2.zW (by k_is) (by k_is) (by k_is)|k_is
