import PyProof.Rows.All
import Wide.All
import OpenK.AllK
import Wide.FinOn
import Lean
import PyProof.EqAt
import PyProof.EqKinds
import PyProof.TupleCall
import KE.KRevIter
import PyProof.NeKinds
import PyProof.Draws
import PyProof.EnumMake
import KE.KSortTup
import PyProof.ZipIter
import KE.KDictList
import PySem.Challenge.RW_wordwishes_k56_all_sentences
set_option Elab.async false
set_option linter.all false
set_option maxRecDepth 100000
set_option maxHeartbeats 4000000
set_option compiler.extract_closed false
noncomputable section
/-! THE HAND LAYER,for ints,bools,texts,own classes,LISTS and tuples (index,slices,in,append,pop ..),calls,loops. Paste it whole ahead of your own text;what your proof does not reach may be deleted. -/
namespace L2
open PySem PySem.Spec PyProof.Rows
abbrev Key:=Sum Int Str
def kJ:Key->Value->Bool
 |.inl k,v=>Value.isInt k v
 |.inr x,v=>Value.isStrOf x v
def FV (w:World):Key->Int
 |.inl k=>hashInt k
 |.inr x=>hashStr w x
theorem aZ:∀ {k:Key} {v:Value},kJ k v=true->(∃ i t,k=Sum.inl i/\v=Value.int i t)∨(∃ x t,k=Sum.inr x/\v=Value.str x t)
 |.inl i,v,h=>by
  obtain⟨t,e⟩:=Value.isInt_shape (k:=i) (v:=v) h
  exact .inl ⟨i,t,rfl,e⟩
 |.inr x,v,h=>by
  obtain⟨t,e⟩:=Value.isStrOf_shape (x:=x) (v:=v) h
  exact .inr ⟨x,t,rfl,e⟩
theorem uC (i:Int) (t:Tok):kJ (.inl i) (.int i t)=true:=by simp[kJ,Value.isInt]
theorem uj (x:Str) (t:Tok):kJ (.inr x) (.str x t)=true:=by simp[kJ,Value.isStrOf]
theorem Dd (a b:Int):decide ((Sum.inl a:Key)=Sum.inl b)=(a==b):=by
 by_cases e:a=b
 ·subst e;simp
 ·have h:¬ (Sum.inl a:Key)=Sum.inl b:=fun q=>e (Sum.inl.inj q)
  rw[decide_eq_false h]
  exact(beq_eq_false_iff_ne.mpr e).symm
theorem BG (a b:Str):decide ((Sum.inr a:Key)=Sum.inr b)=decide (a=b):=by
 by_cases e:a=b
 ·subst e;simp
 ·have h:¬ (Sum.inr a:Key)=Sum.inr b:=fun q=>e (Sum.inr.inj q)
  rw[decide_eq_false h,decide_eq_false e]
theorem Cs (a:Int) (b:Str):decide ((Sum.inl a:Key)=Sum.inr b)=false:=decide_eq_false (fun q=>nomatch q)
theorem A5 (a:Str) (b:Int):decide ((Sum.inr a:Key)=Sum.inl b)=false:=decide_eq_false (fun q=>nomatch q)
def aJ (prog:Program) (w:World):PySem.KeyKind prog w Key where
 is:=kJ
 hash:=FV w
 inj:=fun v a b ha hb=>by
  rcases aZ ha with⟨i,t,rfl,rfl⟩|⟨x,t,rfl,rfl⟩
  ·rcases aZ hb with⟨j,u,rfl,e⟩|⟨y,u,rfl,e⟩
   ·injection e with e1 _;rw[e1]
   ·exact nomatch e
  ·rcases aZ hb with⟨j,u,rfl,e⟩|⟨y,u,rfl,e⟩
   ·exact nomatch e
   ·injection e with e1 _;rw[e1]
 byValue:=fun k v h=>by
  rcases aZ h with⟨i,t,rfl,rfl⟩|⟨x,t,rfl,rfl⟩<;>rfl
 pyHash:=fun hv h=>by
  rcases aZ hv with⟨i,t,rfl,rfl⟩|⟨x,t,rfl,rfl⟩
  ·exact wpAny_pyHash_int h
  ·exact wpAny_pyHash_str h
 eqBool:=fun hu hv h=>by
  rcases aZ hu with⟨i,t,rfl,rfl⟩|⟨x,t,rfl,rfl⟩
  ·rcases aZ hv with⟨j,u,rfl,rfl⟩|⟨y,u,rfl,rfl⟩
   ·rw[Dd]at h;exact wpAny_eqBool_int h
   ·rw[Cs]at h;exact SeqAt.EqAt.int_str i t y u _ _ _ _ h
  ·rcases aZ hv with⟨j,u,rfl,rfl⟩|⟨y,u,rfl,rfl⟩
   ·rw[A5]at h;exact SeqAt.EqAt.str_int x t j u _ _ _ _ h
   ·rw[BG]at h;exact wpAny_eqBool_str h
 «strs»:=fun k x t v h=>by
  rcases aZ h with⟨i,u,rfl,e⟩|⟨y,u,rfl,e⟩
  ·exact nomatch e
  ·injection e with e1 _
   subst e1
   cases v<;>rfl
theorem qA (prog:Program) (w:World) (i:Int) (t:Tok):(aJ prog w).is (.inl i) (.int i t)=true:=uC i t
theorem ph (prog:Program) (w:World) (x:Str) (t:Tok):(aJ prog w).is (.inr x) (.str x t)=true:=uj x t
inductive V where
 |non|bl (b:Bool)|int (i:Int)|str (x:Str)|byt (b:Array UInt8)|flt (b:UInt64)|ref (a:Addr)|ty (n:String)
 deriving DecidableEq
def ap:V->Value->Prop
 |.non,u=>u=Value.none
 |.bl b,u=>u=Value.bool b
 |.int i,u=>∃ t,u=Value.int i t
 |.str x,u=>∃ t,u=Value.str x t
 |.byt b,u=>∃ t,u=Value.bytes b t
 |.flt b,u=>∃ t,u=Value.float b t
 |.ref a,u=>u=Value.ref a
 |.ty n,u=>u=Value.type n
abbrev aq:List V->List Value->Prop:=Paired ap
theorem aq.length {xs:List V} {us:List Value} (r:aq xs us):xs.length=us.length:=Paired.length r
theorem aq.get:∀ {xs:List V} {us:List Value} {i:Nat} {x:V},aq xs us->xs[i]?=some x->∃ u,us[i]?=some u/\ap x u
 |_,_,_,_,.nil,e=>by simp at e
 |_,_,0,_,.cons r _,e=>by simp at e;subst e;exact⟨_,rfl,r⟩
 |_,_,i+1,x,.cons _ t,e=>by
  obtain⟨u,h1,h2⟩:=aq.get (i:=i) (x:=x) t (by simpa using e)
  exact⟨u,by simpa using h1,h2⟩
theorem aq.set {x:V} {u:Value} (r:ap x u):∀ {xs:List V} {us:List Value} (i:Nat),aq xs us->aq (xs.set i x) (us.set i u)
 |_,_,_,.nil=>.nil
 |_,_,0,.cons _ t=>.cons r t
 |_,_,i+1,.cons q t=>.cons q (aq.set r i t)
theorem aq.append:∀ {xs ys:List V} {us ws:List Value},aq xs us->aq ys ws->aq (xs++ys) (us++ws)
 |_,_,_,_,.nil,s=>s
 |_,_,_,_,.cons r t,s=>.cons r (aq.append t s)
theorem aq.take:∀ {xs:List V} {us:List Value} (n:Nat),aq xs us->aq (xs.take n) (us.take n)
 |_,_,0,_=>.nil
 |_,_,_+1,.nil=>.nil
 |_,_,n+1,.cons r t=>.cons r (aq.take n t)
theorem aq.drop:∀ {xs:List V} {us:List Value} (n:Nat),aq xs us->aq (xs.drop n) (us.drop n)
 |_,_,0,r=>r
 |_,_,_+1,.nil=>.nil
 |_,_,n+1,.cons _ t=>aq.drop n t
def gF:Option V->Option Value->Prop
 |some v,some u=>ap v u
 |none,none=>True
 |_,_=>False
def KV {κ:Type}:List (κ×V)->List (κ×Value)->Prop:=Paired fun(p:κ×V) (q:κ×Value)=>p.1=q.1/\ap p.2 q.2
def kV:Key->V
 |.inl i=>.int i
 |.inr x=>.str x
inductive HO where
 |lst (xs:List V)
 |tup (xs:List V)
 |dK (kvs:List (Key×V))|dT (kvs:List (List Key×V))
 |set (S:Int->Bool) (n:Nat)
 |ins (C dx:Addr) (fs:List (Str×V))
 |own (x:Addr)
 |xd (fs:List (Str×V))
 |met (f x:Addr)
 |rng (lo hi:Int)
 |frz (o:Obj) (u:HO)
 |tbl (ps:Array Value)
 |ext (φ:Heap->Prop)
abbrev Hp:=Addr->Option HO
def upd (H:Hp) (a:Addr) (o:HO):Hp:=fun b=>if b=a then some o else H b
theorem ax {H:Hp} {a:Addr} {o:HO}:upd H a o a=some o:=by unfold upd;rw[if_pos rfl]
theorem aA {H:Hp} {a b:Addr} {o:HO} (h:b≠a):upd H a o b=H b:=by unfold upd;rw[if_neg h]
theorem Ap {H:Hp} {a b:Addr} {o u:HO} (h:H a=some o) (h':H b=some u) (d:o≠u):a≠b:=by
 intro e;subst e;rw[h]at h';exact d (Option.some.inj h')
theorem bO {H:Hp} {a b:Addr} {o:HO} (h:H a=some o) (h':H b=none):a≠b:=by
 intro e;subst e;rw[h]at h';cases h'
def lq (h:Heap) (a:Addr) (xs:Array Value):Prop:=∃ o,h.get? a=some o/\o.cls=.type "tuple"/\(∃ n,o.data=.seq xs n)/\o.dict=none
theorem lq.tup {h:Heap} {a:Addr} {xs:Array Value} (x:lq h a xs):IsTup h a xs:=let⟨o,e,c,d,_⟩:=x;⟨o,e,c,d⟩
theorem lq.lt {h:Heap} {a:Addr} {xs:Array Value} (x:lq h a xs):a<h.objs.size:=let⟨_,e,_⟩:=x;Heap.lt_size e
theorem lq.new (h:Heap) (xs:Array Value):lq (h.push { cls:=.type "tuple",data:=.seq xs }) h.objs.size xs:=⟨_,Heap.get?_push_size h rfl,rfl,⟨_,rfl⟩,rfl⟩
section
variable (P:Program) (w:World)
def bL (H:Hp) (h:Heap) (a:Addr):HO->Prop
 |.lst xs=>xs.length<=sizeLine/\∃ (its:List Value) (n:Nat),aq xs its/\h.get? a=some { cls:=.type "list",data:=.seq its.toArray n }
 |.tup xs=>xs.length<=sizeLine/\∃ its:List Value,aq xs its/\lq h a its.toArray
 |.dK kvs=>kvs.length<=sizeLine/\(a==sysModules)=false/\∃ vs,KV kvs vs/\h.DictOf (aJ P w) a vs
 | .dT kvs => kvs.length ≤ sizeLine ∧ (a == sysModules) = false ∧ ∃ xs:List (List Key × Addr × Value),
   Paired (fun(p:List Key×V) (q:List Key×Addr×Value)=>p.1=q.1/\H q.2.1=some (.tup (p.1.map kV))/\ap p.2 q.2.2) kvs xs /\
   ∃ o es ep,h.get? a=some o/\o.ExactDict/\o.data=.dict es ep/\es.toList=xs.map (entryOfKey (tupleKind (aJ P w)))/\(xs.map (·.1)).Nodup
 |.set S n=>h.SetOf (intKind P w) a S n
 | .ins C dx fs => H dx = some (.own a) ∧ fs.length ≤ 1000 ∧ dx ≠ a ∧ h.get? a = some (PySem.W.instObj C dx) ∧
   ∃ mA,h.Ns1 dx mA/\(∀ f,gF (fs.lookup f) (mA f))/\PySem.Within mA (fs.map (·.1))
 |.own _=>∃ o,h.get? a=some o
 |.xd fs=>∃ mA,h.Ns1 a mA/\∀ f,gF (fs.lookup f) (mA f)
 |.rng lo hi=>∃ t u v,h.get? a=some { cls:=.type "range",data:=.fields #[.int lo t,.int hi u,.int 1 v] }
 |.frz o u=>h.get? a=some o/\bL H h a u
 |.tbl ps=>h.get? a=some { cls:=.none,data:=.fields ps }
 |.met f x=>h.get? a=some (PySem.W.methodObj (.ref f) (.ref x))
 |.ext φ=>φ h/\(∃ o,h.get? a=some o)/\∀ h1 h2:Heap,φ h1->(∀ o,h1.get? a=some o->h2.get? a=some o)->φ h2
def HOk (H:Hp) (h:Heap):Prop:=∀ a o,H a=some o->bL P w H h a o
end
section
variable {P:Program} {w:World} {H H':Hp} {h h':Heap} {a:Addr} {o:HO}
theorem bL.lt (x:bL P w H h a o):a<h.objs.size:=by
 cases o with
 |lst xs=>obtain⟨_,_,_,_,e⟩:=x;exact Heap.lt_size e
 |tup xs=>obtain⟨_,_,_,p⟩:=x;exact p.lt
 |dK kvs=>obtain⟨_,_,_,_,o,_,_,e,_⟩:=x;exact Heap.lt_size e
 |dT kvs=>obtain⟨_,_,_,_,o,_,_,e,_⟩:=x;exact Heap.lt_size e
 |set S n=>obtain⟨o,_,_,_,e,_⟩:=x;exact Heap.lt_size e
 |ins C dx fs=>obtain⟨_,_,_,e,_⟩:=x;exact Heap.lt_size e
 |own y=>obtain⟨_,e⟩:=x;exact Heap.lt_size e
 |xd fs=>obtain⟨_,⟨_,_,_,e,_⟩,_⟩:=x;exact Heap.lt_size e
 |rng lo hi=>obtain⟨_,_,_,e⟩:=x;exact Heap.lt_size e
 |frz ob u=>obtain⟨e,_⟩:=x;exact Heap.lt_size e
 |tbl ps=>exact Heap.lt_size (show h.get? a=some _ from x)
 |met f y=>exact Heap.lt_size (show h.get? a=some _ from x)
 |ext φ=>obtain⟨_,⟨_,e⟩,_⟩:=x;exact Heap.lt_size e
theorem Paired.mapP {α β:Type} {F G:α->β->Prop}:∀ {l₁:List α} {l₂:List β},Paired F l₁ l₂->(∀ a b,F a b->G a b)->Paired G l₁ l₂
 |_,_,.nil,_=>.nil
 |_,_,.cons r t,f=>.cons (f _ _ r) (Paired.mapP t f)
theorem Paired.imp' {α β:Type} {F G:α->β->Prop} (f:∀ a b,F a b->G a b) {l₁:List α} {l₂:List β} (r:Paired F l₁ l₂):Paired G l₁ l₂:=Paired.mapP r f
theorem bL.stay (x:bL P w H h a o) (k:∀ b u,(b=a∨H b=some (.own a))->h.get? b=some u->h'.get? b=some u)
  (ho:∀ b,H b=some (.own a)->H' b=some (.own a)) (ht:∀ b xs,H b=some (.tup xs)->H' b=some (.tup xs)):bL P w H' h' a o:=by
 induction o with
 |lst xs=>obtain⟨z,its,n,r,e⟩:=x;exact⟨z,its,n,r,k _ _ (.inl rfl) e⟩
 |tup xs=>obtain⟨z,its,r,ob,e,c⟩:=x;exact⟨z,its,r,ob,k _ _ (.inl rfl) e,c⟩
 |dK kvs=>obtain⟨z,y,vs,r,ob,es,ep,e,c⟩:=x;exact⟨z,y,vs,r,ob,es,ep,k _ _ (.inl rfl) e,c⟩
 |dT kvs =>
  obtain⟨z,y,xs,r,ob,es,ep,e,c⟩:=x
  exact⟨z,y,xs,Paired.mapP r fun p q z=>⟨z.1,ht _ _ z.2.1,z.2.2⟩,ob,es,ep,k _ _ (.inl rfl) e,c⟩
 |set S n=>obtain⟨ob,es,ep,t,e,c⟩:=x;exact⟨ob,es,ep,t,k _ _ (.inl rfl) e,c⟩
 |ins C dx fs =>
  obtain⟨d,z,ne,e,mA,⟨od,es,ep,e2,c⟩,r⟩:=x
  exact⟨ho _ d,z,ne,k _ _ (.inl rfl) e,mA,⟨od,es,ep,k _ _ (.inr d) e2,c⟩,r⟩
 |own y=>obtain⟨ob,e⟩:=x;exact⟨ob,k _ _ (.inl rfl) e⟩
 |xd fs=>obtain⟨mA,⟨od,es,ep,e,c⟩,r⟩:=x;exact⟨mA,⟨od,es,ep,k _ _ (.inl rfl) e,c⟩,r⟩
 |rng lo hi=>obtain⟨t,u,v,e⟩:=x;exact⟨t,u,v,k _ _ (.inl rfl) e⟩
 |frz ob u ih=>obtain⟨e,q⟩:=x;exact⟨k _ _ (.inl rfl) e,ih q⟩
 |tbl ps =>
  have e:h.get? a=some { cls:=.none,data:=.fields ps }:=x
  show h'.get? a=some { cls:=.none,data:=.fields ps }
  exact k a _ (.inl rfl) e
 |met f y =>
  have e:h.get? a=some (PySem.W.methodObj (.ref f) (.ref y)):=x
  show h'.get? a=some (PySem.W.methodObj (.ref f) (.ref y))
  exact k a _ (.inl rfl) e
 |ext φ=>obtain⟨p,⟨o,e⟩,st⟩:=x;exact⟨st _ _ p fun o q=>k _ _ (.inl rfl) q,⟨o,k _ _ (.inl rfl) e⟩,st⟩
theorem HOk.lt (x:HOk P w H h) (e:H a=some o):a<h.objs.size:=(x a o e).lt
theorem HOk.fresh (x:HOk P w H h) (e:h.objs.size<=a):H a=none:=by
 cases q:H a with
 |none=>rfl
 |some u=>exact absurd (Nat.lt_of_lt_of_le (x.lt q) e) (Nat.lt_irrefl _)
theorem HOk.kept (x:HOk P w H h) (k:∀ b u,h.get? b=some u->h'.get? b=some u):HOk P w H h':=fun a o e =>
 (x a o e).stay (fun b u _ q=>k b u q) (fun _ q=>q) fun _ _ q=>q
theorem HOk.laid (x:HOk P w H h) (k:∀ b u,h.get? b=some u->h'.get? b=some u) (hp:h.objs.size<=a) (new:bL P w (upd H a o) h' a o):HOk P w (upd H a o) h':=fun b u e=>by
 have hn:=x.fresh hp
 by_cases hb:b=a
 ·subst hb;rw[ax]at e;cases e;exact new
 ·rw[aA hb]at e
  exact(x b u e).stay (fun c v _ q=>k c v q) (fun c q=>by rw[aA (bO q hn)];exact q) fun c xs q=>by rw[aA (bO q hn)];exact q
end
def Rd (H:Hp) (a:Addr) (u:HO):Prop:=H a=some u∨∃ o,H a=some (.frz o u)
theorem Rd.of {H:Hp} {a:Addr} {u:HO} (h:H a=some u):Rd H a u:=.inl h
theorem Rd.ok {P:Program} {w:World} {H:Hp} {h:Heap} {a:Addr} {u:HO} (r:Rd H a u) (x:HOk P w H h):bL P w H h a u:=by
 rcases r with r|⟨o,r⟩
 ·exact x a u r
 ·obtain⟨_,q⟩:=x a _ r
  exact q
def Mut:Option HO->Prop
 |some (.lst _)=>True
 |some (.dK _)=>True
 |some (.dT _)=>True
 |some (.set _ _)=>True
 |some (.ins _ _ _)=>True
 |some (.ext _)=>True
 |_=>False
section
variable {P:Program} {w:World} {H:Hp} {h h':Heap} {x e:Addr} {o':HO}
theorem HOk.write (ok:HOk P w H h) (mu:Mut (H x)) (he:e=x∨H e=some (.own x)) (k:∀ b u,b≠e->h.get? b=some u->h'.get? b=some u) (heo:∃ u,h'.get? e=some u)
  (new:bL P w (upd H x o') h' x o'):HOk P w (upd H x o') h':=fun b u q=>by
 have nown:∀ c y,H c=some (.own y)->c≠x:=fun c y r z=>by subst z;rw[r]at mu;exact mu
 have ntup:∀ c xs,H c=some (.tup xs)->c≠x:=fun c xs r z=>by subst z;rw[r]at mu;exact mu
 by_cases hb:b=x
 ·subst hb;rw[ax]at q;cases q;exact new
 ·rw[aA hb]at q
  by_cases hbe:b=e
  ·have q':H b=some (.own x):=by
    rcases he with z|z
    ·exact absurd (hbe.trans z) hb
    ·rw[hbe];exact z
   rw[q]at q';cases q'
   obtain⟨v,hv⟩:=heo
   exact⟨v,by rw[hbe];exact hv⟩
  ·refine(ok b u q).stay (fun c v hc r=>k c v ?_ r) (fun c r=>by rw[aA (nown c b r)];exact r) fun c xs r=>by rw[aA (ntup c xs r)];exact r
   rcases hc with rfl|hc
   ·exact hbe
   ·rintro rfl
    rcases he with z|z
    ·exact nown c b hc z
    ·rw[hc]at z;cases z;exact hb rfl
end
/-! ### kept unless tracked;of the frames at fs (the callers') the slots may change (an exception that passes writes there);of the records at ex (iterators) nothing is said -/
structure Un (fs ex:List Addr) (H H':Hp) (h h':Heap):Prop where
 keep:∀ b o,h.get? b=some o->H b=none->b∉fs->b∉ex->h'.get? b=some o
 slot:∀ b o,h.get? b=some o->H b=none->b∈fs->b∉ex->∃ sl,h'.get? b=some { o with slots:=sl }
 free:∀ b o,h.get? b=some o->H b=none->b∉ex->H' b=none
 there:∀ b o,h.get? b=some o->b∉ex->∃ o',h'.get? b=some o'
 tups:∀ b xs,H b=some (.tup xs)->H' b=some (.tup xs)
 frzs:∀ b o u,H b=some (.frz o u)->H' b=some (.frz o u)
 tbls:∀ b ps,H b=some (.tbl ps)->∃ more,H' b=some (.tbl (ps++more))
section
variable {fs fs' ex ex':List Addr} {H H1 H2:Hp} {h h1 h2 h':Heap} {a x e:Addr} {o:HO}
theorem Un.any (u:Un fs ex H H1 h h1) {b:Addr} {ob:Obj} (q:h.get? b=some ob) (n:H b=none) (hx:b∉ex):∃ sl,h1.get? b=some { ob with slots:=sl }:=by
 by_cases hb:b∈fs
 ·exact u.slot b ob q n hb hx
 ·exact⟨ob.slots,u.keep b ob q n hb hx⟩
theorem Un.trans (a:Un fs ex H H1 h h1) (b:Un fs ex H1 H2 h1 h2):Un fs ex H H2 h h2 where
 keep:=fun c ob q n hc hx=>b.keep c ob (a.keep c ob q n hc hx) (a.free c ob q n hx) hc hx
 slot:=fun c ob q n hc hx=>by
  obtain⟨sl,e1⟩:=a.slot c ob q n hc hx
  obtain⟨sl',e2⟩:=b.slot c _ e1 (a.free c ob q n hx) hc hx
  exact⟨sl',e2⟩
 free:=fun c ob q n hx=>by
  obtain⟨o',e1⟩:=a.there c ob q hx
  exact b.free c o' e1 (a.free c ob q n hx) hx
 there:=fun c ob q hx=>by
  obtain⟨o',e1⟩:=a.there c ob q hx
  exact b.there c o' e1 hx
 tups:=fun c xs q=>b.tups c xs (a.tups c xs q)
 frzs:=fun c ob xs q=>b.frzs c ob xs (a.frzs c ob xs q)
 tbls:=fun c ps q=>by
  obtain⟨m1,e1⟩:=a.tbls c ps q
  obtain⟨m2,e2⟩:=b.tbls c _ e1
  exact⟨m1++m2,by rw[e2,Array.append_assoc]⟩
theorem Un.kept (k:∀ b u,h.get? b=some u->h'.get? b=some u):Un fs ex H H h h' :=
 ⟨fun b ob q _ _ _=>k b ob q,fun b ob q _ _ _=>⟨ob.slots,k b ob q⟩,fun _ _ _ n _=>n,fun b ob q _=>⟨ob,k b ob q⟩,fun _ _ q=>q,fun _ _ _ q=>q,fun _ ps q=>⟨#[],by rw[q];simp⟩⟩
theorem Un.refl:Un fs ex H H h h:=Un.kept fun _ _ q=>q
theorem Un.laid (k:∀ b u,h.get? b=some u->h'.get? b=some u) (hp:h.objs.size<=a) (hn:H a=none):Un fs ex H (upd H a o) h h' where
 keep:=fun b u q _ _ _=>k b u q
 slot:=fun b u q _ _ _=>⟨u.slots,k b u q⟩
 free:=fun b u q n _=>by rw[aA (Nat.ne_of_lt (Nat.lt_of_lt_of_le (Heap.lt_size q) hp))];exact n
 there:=fun b u q _=>⟨u,k b u q⟩
 tups:=fun b xs q=>by rw[aA (bO q hn)];exact q
 frzs:=fun b u xs q=>by rw[aA (bO q hn)];exact q
 tbls:=fun b ps q=>⟨#[],by rw[aA (bO q hn),q];simp⟩
theorem Un.write (mu:Mut (H x)) (he:e=x∨H e=some (.own x)) (k:∀ b u,b≠e->h.get? b=some u->h'.get? b=some u) (heo:∃ u,h'.get? e=some u):Un fs ex H (upd H x o) h h':=by
 have hx:∀ b,H b=none->b≠x:=fun b n z=>by subst z;rw[n]at mu;exact mu
 have hb:∀ b,H b=none->b≠e:=fun b n z=>by
  subst z
  rcases he with r|r
  ·exact hx b n r
  ·rw[n]at r;cases r
 have hm:∀ b u,H b=some u->¬ Mut (some u)->b≠x:=fun b u q nm z=>by subst z;rw[q]at mu;exact nm mu
 refine⟨fun b u q n _ _=>k b u (hb b n) q,fun b u q n _ _=>⟨u.slots,k b u (hb b n) q⟩,fun b u q n _=>by rw[aA (hx b n)];exact n,fun b u q _=>?_,
  fun b xs q=>by rw[aA (hm b _ q fun z=>z)];exact q,fun b u xs q=>by rw[aA (hm b _ q fun z=>z)];exact q,fun b ps q=>⟨#[],by rw[aA (hm b _ q fun z=>z),q];simp⟩⟩
 by_cases hbe:b=e
 ·subst hbe;exact heo
 ·exact⟨u,k b u hbe q⟩
theorem Un.mono (u:Un fs ex H H1 h h1) (hs:∀ b∈fs,b∈fs') (hx:∀ b∈ex,b∈ex'):Un fs' ex' H H1 h h1 :=
 ⟨fun b ob q n hb he=>u.keep b ob q n (fun z=>hb (hs b z)) fun z=>he (hx b z),fun _ _ q n _ he=>u.any q n fun z=>he (hx _ z),fun b ob q n he=>u.free b ob q n fun z=>he (hx b z),fun b ob q he=>u.there b ob q fun z=>he (hx b z),u.tups,u.frzs,u.tbls⟩
end
/-! ### the heap without what is tracked -/
def trk (h:Heap) (H:Hp):List Addr:=(List.range h.objs.size).filter fun a=>(H a).isSome
def n4 (h:Heap) (H:Hp):Heap:=PySem.W.hideAll h (trk h H)
theorem uc (h:Heap) (H:Hp):(n4 h H).objs.size=h.objs.size:=PySem.W.hideAll_size _ _
theorem xg {h:Heap} {H:Hp} {b:Addr} {o:Obj} (e:h.get? b=some o) (n:H b=none):(n4 h H).get? b=some o :=
 PySem.W.hideAll_get _ e fun hm=>by
  have q:(H b).isSome=true:=(List.mem_filter.mp hm).2
  rw[n]at q;simp at q
theorem xZ {h:Heap} {H:Hp} {b:Addr} {o:Obj} (e:(n4 h H).get? b=some o):h.get? b=some o/\H b=none:=by
 have e':h.get? b=some o:=PySem.W.of_hideAll (trk h H) e
 refine⟨e',?_⟩
 cases q:H b with
 |none=>rfl
 |some x =>
  have hm:b∈trk h H:=List.mem_filter.mpr ⟨List.mem_range.mpr (Heap.lt_size e'),by simp[q]⟩
  have z:(n4 h H).get? b=none:=PySem.W.hideAll_none (trk h H) hm
  rw[z]at e;cases e
/-! ### OpenK's ledger,filled with every new object but one -/
def zY (g h:Heap) (L:Addr):List (Addr×Obj):=(List.range h.objs.size).filterMap fun a=>if a=L∨(g.get? a).isSome=true then none else(h.get? a).map fun o=>(a,o)
def bG (g h:Heap) (L d:Addr):List (Addr×Obj):=(zY g h L).filter fun p=>decide (p.1≠d)
structure Mod (K:PySem.W.Frag) (mg:Str->Option Value) (base:Heap):Prop where
 kin:K.In base
 glob:base.Ns mainGlobals mg
 blt:∃ mb,base.Ns builtinsNs mb/\∀ x:Str,x≠"__name__"->mb x=bootBuiltins x
 nolimit:base.NoLimit
structure Cx where
 prog:Program
 w:World
 K:PySem.W.Frag
 mg:Str->Option Value
 base:Heap
 A:Around
 N:List Str
 s₀:Shared
 H₀:Hp
 env:Env
 outer:List Env
 stack:List Env
 ex:List Addr
 fn:Str->Bool
 calm:Bool
 pn:List (Addr×Obj)
 xe:Value->Shared->Prop
def frs (l:List Env):List Addr:=l.filterMap (·.frame)
abbrev Cx.fs (X:Cx):List Addr:=frs X.outer
def Vis (sc:Scope) (x:Str):Prop:=sc.names.lookup x=some .local∨sc.names.lookup x=some .cell∨sc.names.lookup x=some .free
def Loc (sc:Scope) (x:Str):Prop:=sc.names.lookup x=some .local∨sc.names.lookup x=some .cell
def Fp (env:Env) (h:Heap) (m:Str->Option Value) (x:Str) (u:Value):Prop :=
 (env.kindOf x=some .local/\m x=some u)∨((env.kindOf x=some .cell∨env.kindOf x=some .free)/\∃ c,env.cells.lookup x=some c/\h.IsCell c (some u))
structure Cx.Ok (X:Cx):Prop where
 mod:Mod X.K X.mg X.base
 kind:X.env.scope.kind=.function
 glob:X.env.globals=mainGlobals
 blt:X.env.builtins=builtinsNs
 above:X.s₀.heap.objs.size<=X.env.locals
 inj:∀ x y c,X.env.cells.lookup x=some c->X.env.cells.lookup y=some c->x=y
 has:∀ x,(X.env.kindOf x=some .cell∨X.env.kindOf x=some .free)->∃ c,X.env.cells.lookup x=some c
 cab:∀ x c,X.fn x=true->X.env.cells.lookup x=some c->X.s₀.heap.objs.size<=c
 hd:X.calm=true->X.A.handled=none
 frames:X.A.frames=some X.stack
 stk:X.stack=X.outer∨(X.stack=X.env::X.outer/\X.env.frame=some X.env.locals)
 exf:∀ b∈X.ex,b≠X.env.locals/\∀ x c,X.env.cells.lookup x=some c->c≠b
 bs:∀ b o,X.base.get? b=some o->X.s₀.heap.get? b=some o/\X.H₀ b=none
 bsz:X.base.objs.size<=X.s₀.heap.objs.size
 noex:∀ b o,X.base.get? b=some o->b∉X.ex
 exfs:∀ b∈X.ex,b∉X.fs
 funs:X.s₀.heap.FunFrames X.base X.outer
 frf:∀ b∈X.fs,X.H₀ b=none
structure Inv (X:Cx) (pins:List (Addr×Obj)) (σ:List (Option V)) (H:Hp) (s:Shared):Prop where
 ok:X.Ok
 os:s.os=X.s₀.os
 bare:AllBare s.gens
 base:Un X.fs X.ex X.H₀ H X.s₀.heap s.heap
 loc:∃ m,s.heap.Ns X.env.locals m/\∀ (i:Nat) (x:Str) (v:V),X.N[i]?=some x->σ[i]?=some (some v)->Vis X.env.scope x->∃ u,ap v u/\Fp X.env s.heap m x u
 cell:∀ x c,X.env.cells.lookup x=some c->∃ v,s.heap.IsCell c v
 free:H X.env.locals=none
 freeC:∀ x c,X.env.cells.lookup x=some c->H c=none
 pin:∀ p∈X.pn++pins,s.heap.get? p.1=some p.2/\H p.1=none/\p.1≠X.env.locals/\p.1∉X.fs/\∀ v,p.2.data≠.cell v
 hok:HOk X.prog X.w H s.heap
 len:σ.length=X.N.length
section
variable {X:Cx} {pins:List (Addr×Obj)} {σ:List (Option V)} {H H':Hp} {s:Shared} {h':Heap}
theorem Cx.Ok.nofr (ok:X.Ok) {b:Addr} {o:Obj} (e:X.base.get? b=some o):b∉X.fs:=fun hb=>by
 have:=(ok.funs.mem hb).1
 rw[e]at this;cases this
theorem Inv.bs (I:Inv X pins σ H s):∀ b o,X.base.get? b=some o->s.heap.get? b=some o/\H b=none:=fun b o e =>
 ⟨I.base.keep b o (I.ok.bs b o e).1 (I.ok.bs b o e).2 (I.ok.nofr e) (I.ok.noex b o e),I.base.free b o (I.ok.bs b o e).1 (I.ok.bs b o e).2 (I.ok.noex b o e)⟩
theorem Inv.bk (I:Inv X pins σ H s):∀ b o,X.base.get? b=some o->s.heap.get? b=some o:=fun b o e=>(I.bs b o e).1
theorem Inv.mod (I:Inv X pins σ H s):Mod X.K X.mg X.base:=I.ok.mod
theorem Inv.kIn (I:Inv X pins σ H s):X.K.In s.heap:=I.ok.mod.kin.keeps I.bk
theorem Inv.lt (I:Inv X pins σ H s):X.env.locals<s.heap.objs.size:=let⟨_,hn,_⟩:=I.loc;hn.lt
theorem Inv.sz (I:Inv X pins σ H s):X.s₀.heap.objs.size<=s.heap.objs.size:=Nat.le_trans I.ok.above (Nat.le_of_lt I.lt)
theorem Inv.nofs (I:Inv X pins σ H s) {a:Addr} (h:s.heap.objs.size<=a):a∉X.fs:=fun hb=>by
 obtain⟨_,o,ho,_⟩:=I.ok.funs.mem hb
 exact absurd (Nat.lt_of_lt_of_le (Heap.lt_size ho) (Nat.le_trans I.sz h)) (Nat.lt_irrefl _)
theorem Inv.cne (I:Inv X pins σ H s):∀ x c,X.env.cells.lookup x=some c->c≠X.env.locals:=fun x c e z=>by
 obtain⟨v,o,ho,hd⟩:=I.cell x c e
 obtain⟨m,⟨o',es,ep,ho',hd',_⟩,_⟩:=I.loc
 rw[z,ho']at ho;cases ho;rw[hd']at hd;cases hd
theorem Inv.funs (I:Inv X pins σ H s):s.heap.FunFrames X.base X.outer:=by
 have all:∀ (l:List Env),(∀ b∈frs l,b∈X.fs)->X.s₀.heap.FunFrames X.base l->s.heap.FunFrames X.base l:=by
  intro l
  induction l with
  |nil=>intro _ _;trivial
  |cons env r ih =>
   intro hs hl
   obtain⟨hk,⟨L,o,hf,hn,ho,hd⟩,hr⟩:=hl
   have hL:L∈X.fs:=hs L (by unfold frs;rw[List.filterMap_cons,hf];exact List.mem_cons_self)
   obtain⟨sl,e⟩:=I.base.slot L o ho (I.ok.frf L hL) hL fun z=>I.ok.exfs L z hL
   exact⟨hk,⟨L,_,hf,hn,e,hd⟩,ih (fun b hb=>hs b (by unfold frs;rw[List.filterMap_cons,hf];exact List.mem_cons_of_mem _ hb)) hr⟩
 exact all X.outer (fun _ hb=>hb) I.ok.funs
theorem Inv.stack (I:Inv X pins σ H s):s.heap.FunFrames X.base X.stack:=by
 rcases I.ok.stk with e|⟨e,hf⟩
 ·rw[e];exact I.funs
 ·rw[e]
  obtain⟨m,hn,_⟩:=I.loc
  refine .cons (by rw[I.ok.kind];decide) hf hn ?_ I.funs
  exact Heap.get?_none_of_le (Nat.le_trans I.ok.bsz I.ok.above)
theorem Inv.stkSub (I:Inv X pins σ H s):∀ b∈frs X.stack,b∈X.env.locals::X.fs:=fun b hb=>by
 rcases I.ok.stk with e|⟨e,hf⟩
 ·rw[e]at hb;exact List.mem_cons_of_mem _ hb
 ·rw[e]at hb
  unfold frs at hb
  rw[List.filterMap_cons,hf]at hb
  exact hb
theorem Inv.stkFree (I:Inv X pins σ H s):∀ b∈frs X.stack,H b=none:=fun b hb=>by
 rcases List.mem_cons.mp (I.stkSub b hb)with e|hb
 ·rw[e];exact I.free
 ·obtain⟨_,o,ho,_⟩:=I.ok.funs.mem hb
  exact I.base.free b o ho (I.ok.frf b hb) fun z=>I.ok.exfs b z hb
theorem Inv.step {g':Array GenState} {t':Nat} {d':Drawn} {ch:List Addr} (I:Inv X pins σ H s)
  (hch:∀ b∈ch,(b∈X.ex∨X.s₀.heap.objs.size<=b)/\b≠X.env.locals/\(∀ x c,X.env.cells.lookup x=some c->c≠b)/\∀ p∈X.pn++pins,p.1≠b)
  (keep:∀ b o,b≠X.env.locals->b∉X.fs->b∉ch->s.heap.get? b=some o->H b=none->h'.get? b=some o)
  (slot:∀ b o,b≠X.env.locals->b∈X.fs->b∉ch->s.heap.get? b=some o->H b=none->∃ sl,h'.get? b=some { o with slots:=sl }) (free:∀ b o,b∉ch->s.heap.get? b=some o->H b=none->H' b=none)
  (there:∀ b o,b∉ch->s.heap.get? b=some o->∃ o',h'.get? b=some o')
  (tups:∀ b xs,H b=some (.tup xs)->H' b=some (.tup xs)) (frzs:∀ b o u,H b=some (.frz o u)->H' b=some (.frz o u)) (tbls:∀ b ps,H b=some (.tbl ps)->∃ more,H' b=some (.tbl (ps++more)))
  (ns:∀ m,s.heap.Ns X.env.locals m->h'.Ns X.env.locals m) (hok:HOk X.prog X.w H' h') (hg:AllBare g') :
  Inv X pins σ H' { s with heap:=h',gens:=g',drawn:=d',toks:=t' }:=by
 have neL:∀ b o,X.s₀.heap.get? b=some o->b≠X.env.locals:=fun b o e=>Nat.ne_of_lt (Nat.lt_of_lt_of_le (Heap.lt_size e) I.ok.above)
 have neC:∀ b o,X.s₀.heap.get? b=some o->b∉X.ex->b∉ch:=fun b o e hx hb=>by
  rcases(hch b hb).1 with z|z
  ·exact hx z
  ·exact absurd (Nat.lt_of_lt_of_le (Heap.lt_size e) z) (Nat.lt_irrefl _)
 have cellK:∀ x c,X.env.cells.lookup x=some c->∀ v,s.heap.IsCell c v->h'.IsCell c v:=fun x c e v ⟨o,ho,hd⟩=>by
  have nch:c∉ch:=fun z=>(hch c z).2.2.1 x c e rfl
  by_cases hc:c∈X.fs
  ·obtain⟨sl,q⟩:=slot c o (I.cne x c e) hc nch ho (I.freeC x c e)
   exact⟨_,q,hd⟩
  ·exact⟨o,keep c o (I.cne x c e) hc nch ho (I.freeC x c e),hd⟩
 refine⟨I.ok,I.os,hg,⟨fun b o e n hb hx=>?_,fun b o e n hb hx=>?_,fun b o e n hx=>?_,fun b o e hx=>?_,fun b xs e=>tups b xs (I.base.tups b xs e),fun b o xs e=>frzs b o xs (I.base.frzs b o xs e),fun b ps e=>?_⟩,?_,fun x c e=>?_,?_,fun x c e=>?_,fun p hp=>?_,hok,I.len⟩
 ·exact keep b o (neL b o e) hb (neC b o e hx) (I.base.keep b o e n hb hx) (I.base.free b o e n hx)
 ·obtain⟨sl,e1⟩:=I.base.slot b o e n hb hx
  obtain⟨sl',e2⟩:=slot b _ (neL b o e) hb (neC b o e hx) e1 (I.base.free b o e n hx)
  exact⟨sl',e2⟩
 ·obtain⟨o',e1⟩:=I.base.there b o e hx
  exact free b o' (neC b o e hx) e1 (I.base.free b o e n hx)
 ·obtain⟨o',e1⟩:=I.base.there b o e hx
  exact there b o' (neC b o e hx) e1
 ·obtain⟨m1,e1⟩:=I.base.tbls b ps e
  obtain⟨m2,e2⟩:=tbls b _ e1
  exact⟨m1++m2,by rw[e2,Array.append_assoc]⟩
 ·obtain⟨m,hn,hl⟩:=I.loc
  refine⟨m,ns m hn,fun i x v e1 e2 e3=>?_⟩
  obtain⟨u,r,l⟩:=hl i x v e1 e2 e3
  refine⟨u,r,?_⟩
  rcases l with l|⟨k,c,e,z⟩
  ·exact .inl l
  ·exact .inr ⟨k,c,e,cellK x c e _ z⟩
 ·obtain⟨v,z⟩:=I.cell x c e
  exact⟨v,cellK x c e v z⟩
 ·obtain⟨m,⟨o,_,_,ho,_⟩,_⟩:=I.loc
  exact free _ o (fun z=>(hch _ z).2.1 rfl) ho I.free
 ·obtain⟨v,o,ho,hd⟩:=I.cell x c e
  exact free c o (fun z=>(hch c z).2.2.1 x c e rfl) ho (I.freeC x c e)
 ·obtain⟨e,n,ne,nf,d⟩:=I.pin p hp
  have nch:p.1∉ch:=fun z=>(hch p.1 z).2.2.2 p hp rfl
  exact⟨keep p.1 p.2 ne nf nch e n,free p.1 p.2 nch e n,ne,nf,d⟩
theorem Inv.un {t':Nat} (I:Inv X pins σ H s) (u:Un X.fs [] H H' s.heap h') (hok:HOk X.prog X.w H' h'):Inv X pins σ H' { s with heap:=h',toks:=t' }:=by
 obtain⟨m,⟨o,es,ep,ho,r⟩,_⟩:=id I.loc
 obtain⟨sl,hL⟩:=u.any ho I.free (by simp)
 exact I.step (g':=s.gens) (d':=s.drawn) (ch:=[]) (fun _ z=>nomatch z) (fun b o _ hb _ e n=>u.keep b o e n hb (by simp)) (fun b o _ hb _ e n=>u.slot b o e n hb (by simp)) (fun b o _ e n=>u.free b o e n (by simp)) (fun b o _ e=>u.there b o e (by simp)) u.tups u.frzs u.tbls (fun m' hm=>by
  obtain⟨o',es',ep',ho',r'⟩:=hm
  rw[ho]at ho';cases ho'
  exact⟨_,es',ep',hL,r'⟩) hok I.bare
theorem Inv.call {g':Array GenState} {t':Nat} {d':Drawn} {ch:List Addr} (I:Inv X pins σ H s) (u:Un (frs X.stack) ch H H' s.heap h') (hok:HOk X.prog X.w H' h') (hg:AllBare g')
  (hch:∀ b∈ch,(b∈X.ex∨X.s₀.heap.objs.size<=b)/\b≠X.env.locals/\(∀ x c,X.env.cells.lookup x=some c->c≠b)/\∀ p∈X.pn++pins,p.1≠b) :
  Inv X pins σ H' { s with heap:=h',gens:=g',drawn:=d',toks:=t' }:=by
 obtain⟨m,⟨o,es,ep,ho,r⟩,_⟩:=id I.loc
 obtain⟨sl,hL⟩:=u.any ho I.free fun z=>(hch _ z).2.1 rfl
 exact I.step (ch:=ch) hch (fun b o hL hb hc e n=>u.keep b o e n (fun z=>(List.mem_cons.mp (I.stkSub b z)).elim hL hb) hc) (fun b o _ _ hc e n=>u.any e n hc) (fun b o hc e n=>u.free b o e n hc) (fun b o hc e=>u.there b o e hc) u.tups u.frzs u.tbls (fun m' hm=>by
  obtain⟨o',es',ep',ho',r'⟩:=hm
  rw[ho]at ho';cases ho'
  exact⟨_,es',ep',hL,r'⟩) hok hg
theorem Inv.turned {t':Nat} {it:Addr} (I:Inv X pins σ H s) (k:∀ b o,b≠it->s.heap.get? b=some o->h'.get? b=some o) (hn:H it=none) (hL:it≠X.env.locals)
  (h1:it∈X.ex∨X.s₀.heap.objs.size<=it) (h2:∀ x c,X.env.cells.lookup x=some c->c≠it) (h3:∀ p∈X.pn++pins,p.1≠it):Inv X pins σ H { s with heap:=h',toks:=t' }:=by
 have nit:∀ b u,H b=some u->b≠it:=fun b u e z=>by rw[z,hn]at e;cases e
 refine I.step (g':=s.gens) (d':=s.drawn) (ch:=[it]) (fun b hb=>?_) (fun b o _ _ hc e _=>k b o (fun z=>hc (by simp[z])) e) (fun b o _ _ hc e _=>⟨o.slots,k b o (fun z=>hc (by simp[z])) e⟩) (fun _ _ _ _ n=>n)
  (fun b o hc e=>⟨o,k b o (fun z=>hc (by simp[z])) e⟩) (fun _ _ e=>e) (fun _ _ _ e=>e) (fun b ps e=>⟨#[],by rw[e];simp⟩) (fun m hm=>?_) (fun b u e=>?_) I.bare
 ·have e:b=it:=by simpa using hb
  subst e
  exact⟨h1,hL,h2,h3⟩
 ·obtain⟨o,es,ep,ho,r⟩:=hm
  exact⟨o,es,ep,k _ o (Ne.symm hL) ho,r⟩
 ·refine(I.hok b u e).stay (fun c v hc q=>k c v ?_ q) (fun _ q=>q) fun _ _ q=>q
  rcases hc with z|z
  ·rw[z];exact nit b u e
  ·exact nit c _ z
theorem Inv.tok (I:Inv X pins σ H s) (t:Nat):Inv X pins σ H { s with toks:=t }:=I.un (h':=s.heap) (t':=t) Un.refl I.hok
theorem Inv.kept {t':Nat} (I:Inv X pins σ H s) (k:∀ b u,s.heap.get? b=some u->h'.get? b=some u):Inv X pins σ H { s with heap:=h',toks:=t' }:=I.un (Un.kept k) (I.hok.kept k)
theorem Inv.laid {a:Addr} {o:HO} {t':Nat} (I:Inv X pins σ H s) (k:∀ b u,s.heap.get? b=some u->h'.get? b=some u) (hp:s.heap.objs.size<=a) (new:bL X.prog X.w (upd H a o) h' a o) :
  Inv X pins σ (upd H a o) { s with heap:=h',toks:=t' }:=I.un (Un.laid k hp (I.hok.fresh hp)) (I.hok.laid k hp new)
theorem Inv.write {x e:Addr} {o:HO} {t':Nat} (I:Inv X pins σ H s) (mu:Mut (H x)) (he:e=x∨H e=some (.own x)) (k:∀ b u,b≠e->s.heap.get? b=some u->h'.get? b=some u) (heo:∃ u,h'.get? e=some u)
  (new:bL X.prog X.w (upd H x o) h' x o):Inv X pins σ (upd H x o) { s with heap:=h',toks:=t' }:=I.un (Un.write mu he k heo) (I.hok.write mu he k heo new)
theorem Inv.pins_of {pins':List (Addr×Obj)} (I:Inv X pins σ H s) (h:∀ p∈pins',s.heap.get? p.1=some p.2/\H p.1=none/\p.1≠X.env.locals/\p.1∉X.fs/\∀ v,p.2.data≠.cell v):Inv X pins' σ H s :=
 ⟨I.ok,I.os,I.bare,I.base,I.loc,I.cell,I.free,I.freeC,fun p hp=>(List.mem_append.mp hp).elim (fun z=>I.pin p (List.mem_append_left _ z)) (h p),I.hok,I.len⟩
theorem qC {N:List Str} (hN:N.Nodup) {i j:Nat} {x:Str} (a:N[i]?=some x) (b:N[j]?=some x):i=j:=by
 obtain⟨h1,e1⟩:=List.getElem?_eq_some_iff.mp a
 obtain⟨h2,e2⟩:=List.getElem?_eq_some_iff.mp b
 exact(List.getElem_inj hN).mp (e1.trans e2.symm)
theorem jH {M:Model} {A:Around} {E:Value->Shared->Prop} {i:Nat} {x:Str} {v:V} {u:Value} {Q:Unit->Shared->Prop} (I:Inv X pins σ H s) (hN:X.N.Nodup) (hi:X.N[i]?=some x) (hx:Loc X.env.scope x) (r:ap v u)
  (h:∀ s',Inv X pins (σ.set i (some v)) H s'->(∃ a,Heap.SameBut a s.heap s'.heap/\(a=X.env.locals∨X.env.cells.lookup x=some a))->Q () s') (hf:X.fn x=true∨X.env.scope.names.lookup x=some .local:=by first|exact .inl rfl|exact .inr rfl|assumption):wpAny M A (storeName X.env x u) Q E s:=by
 obtain⟨m,hn,hl⟩:=id I.loc
 have hcls:(X.env.scope.kind==.class || (X.env.scope.kind==.module&&X.env.locals != X.env.globals))=false:=by rw[I.ok.kind];rfl
 have hiσ:i<σ.length:=by rw[I.len];exact(List.getElem?_eq_some_iff.mp hi).1
 have cne:=I.cne
 have tracked:∀ {a:Addr} {h':Heap},(∃ o,s.heap.get? a=some o/\H a=none)->Heap.SameBut a s.heap h'->HOk X.prog X.w H h':=fun {a h'} ha hs b ob e=>by
  obtain⟨_,_,hfree⟩:=ha
  refine(I.hok b ob e).stay (fun c w' hc q=>(hs.2 c ?_).trans q) (fun _ q=>q) fun _ _ q=>q
  rintro rfl
  rcases hc with rfl|hc
  ·rw[hfree]at e;cases e
  ·rw[hfree]at hc;cases hc
 rcases hx with hk|hk
 ·refine wpAny_storeName_local hk hn (fun h' hn' hs=>?_) hcls
  obtain⟨oL,_,_,hoL,_⟩:=id hn
  refine h _ ⟨I.ok,I.os,I.bare,⟨fun b o e n hb hx=>?_,fun b o e n hb hx=>?_,I.base.free,fun b o e hx=>?_,I.base.tups,I.base.frzs,I.base.tbls⟩,⟨_,hn',fun j y v' e1 e2 e3=>?_⟩,fun y c e=>?_,I.free,I.freeC,fun p hp=>?_,tracked ⟨oL,hoL,I.free⟩ hs,by simpa using I.len⟩ ⟨_,hs,.inl rfl⟩
  ·exact(hs.2 b (Nat.ne_of_lt (Nat.lt_of_lt_of_le (Heap.lt_size e) I.ok.above))).trans (I.base.keep b o e n hb hx)
  ·obtain⟨sl,e1⟩:=I.base.slot b o e n hb hx
   exact⟨sl,(hs.2 b (Nat.ne_of_lt (Nat.lt_of_lt_of_le (Heap.lt_size e) I.ok.above))).trans e1⟩
  ·obtain⟨o',e1⟩:=I.base.there b o e hx
   exact⟨o',(hs.2 b (Nat.ne_of_lt (Nat.lt_of_lt_of_le (Heap.lt_size e) I.ok.above))).trans e1⟩
  ·by_cases hj:j=i
   ·subst hj
    rw[hi]at e1;cases e1
    rw[List.getElem?_set_self hiσ]at e2
    cases e2
    exact⟨u,r,.inl ⟨hk,by simp⟩⟩
   ·rw[List.getElem?_set_ne (Ne.symm hj)]at e2
    obtain⟨u',r',q⟩:=hl j y v' e1 e2 e3
    refine⟨u',r',?_⟩
    rcases q with⟨k,e⟩|⟨k,c,e,z⟩
    ·refine .inl ⟨k,?_⟩
     have:y≠x:=fun e=>hj (qC hN e1 (e▸hi))
     simp[this,e]
    ·exact .inr ⟨k,c,e,z.sameBut hs (cne y c e)⟩
  ·obtain⟨w',z⟩:=I.cell y c e
   exact⟨w',z.sameBut hs (cne y c e)⟩
  ·obtain⟨e,n,ne,nf,d⟩:=I.pin p hp
   exact⟨(hs.2 p.1 ne).trans e,n,ne,nf,d⟩
 ·have hfn:X.fn x=true:=by
   rcases hf with z|z
   ·exact z
   ·rw[z]at hk;cases hk
  obtain⟨c,hc⟩:=I.ok.has x (.inl hk)
  obtain⟨w',z⟩:=I.cell x c hc
  refine wpAny_storeName_cell I.ok.kind hk hc z (fun h' hc' hs=>?_)
  obtain⟨oc,hoc,hocd⟩:=id z
  refine h { s with heap:=h' } ⟨I.ok,I.os,I.bare,⟨fun b o e n hb hx=>?_,fun b o e n hb hx=>?_,I.base.free,fun b o e hx=>?_,I.base.tups,I.base.frzs,I.base.tbls⟩,⟨m,hn.sameBut hs (Ne.symm (cne x c hc)),fun j y v' e1 e2 e3=>?_⟩,fun y c' e=>?_,I.free,I.freeC,fun p hp=>?_,tracked ⟨oc,hoc,I.freeC x c hc⟩ hs,by simpa using I.len⟩ ⟨c,hs,.inr hc⟩
  ·exact(hs.2 b (Nat.ne_of_lt (Nat.lt_of_lt_of_le (Heap.lt_size e) (I.ok.cab x c hfn hc)))).trans (I.base.keep b o e n hb hx)
  ·obtain⟨sl,e1⟩:=I.base.slot b o e n hb hx
   exact⟨sl,(hs.2 b (Nat.ne_of_lt (Nat.lt_of_lt_of_le (Heap.lt_size e) (I.ok.cab x c hfn hc)))).trans e1⟩
  ·obtain⟨o',e1⟩:=I.base.there b o e hx
   exact⟨o',(hs.2 b (Nat.ne_of_lt (Nat.lt_of_lt_of_le (Heap.lt_size e) (I.ok.cab x c hfn hc)))).trans e1⟩
  ·by_cases hj:j=i
   ·subst hj
    rw[hi]at e1;cases e1
    rw[List.getElem?_set_self hiσ]at e2
    cases e2
    exact⟨u,r,.inr ⟨.inl hk,c,hc,hc'⟩⟩
   ·rw[List.getElem?_set_ne (Ne.symm hj)]at e2
    obtain⟨u',r',q⟩:=hl j y v' e1 e2 e3
    refine⟨u',r',?_⟩
    rcases q with q|⟨k,c',e,z'⟩
    ·exact .inl q
    ·refine .inr ⟨k,c',e,z'.sameBut hs ?_⟩
     rintro rfl
     exact hj (qC hN e1 (I.ok.inj _ _ _ e hc▸hi))
  ·by_cases hcc:c'=c
   ·subst hcc;exact⟨_,hc'⟩
   ·obtain⟨w2,z2⟩:=I.cell y c' e
    exact⟨w2,z2.sameBut hs hcc⟩
  ·obtain⟨e,n,ne,nf,d⟩:=I.pin p hp
   refine⟨(hs.2 p.1 ?_).trans e,n,ne,nf,d⟩
   intro q
   rw[q,hoc]at e
   have q':oc=p.2:=Option.some.inj e
   exact d w' (by rw[<-q'];exact hocd)
theorem lL {M:Model} {A:Around} {E:Value->Shared->Prop} {i:Nat} {x:Str} {v:V} {u:Value} {Q:Unit->Shared->Prop} (I:Inv X pins σ H s) (hN:X.N.Nodup) (hi:X.N[i]?=some x) (hx:Loc X.env.scope x) (r:ap v u)
  (h:∀ s',Inv X pins (σ.set i (some v)) H s'->Q () s') (hf:X.fn x=true∨X.env.scope.names.lookup x=some .local:=by first|exact .inl rfl|exact .inr rfl|assumption):wpAny M A (storeName X.env x u) Q E s :=
 jH I hN hi hx r (fun s' I' _=>h s' I') hf
theorem Inv.call' {s':Shared} {ch:List Addr} (I:Inv X pins σ H s) (ho:s'.os=s.os) (u:Un (frs X.stack) ch H H' s.heap s'.heap) (hok:HOk X.prog X.w H' s'.heap) (hg:AllBare s'.gens)
  (hch:∀ b∈ch,(b∈X.ex∨X.s₀.heap.objs.size<=b)/\b≠X.env.locals/\(∀ x c,X.env.cells.lookup x=some c->c≠b)/\∀ p∈X.pn++pins,p.1≠b):Inv X pins σ H' s':=by
 obtain⟨h',g',d',t',o'⟩:=s'
 have e:o'=s.os:=ho
 subst e
 exact I.call (g':=g') (t':=t') (d':=d') u hok hg hch
end
/-! ### the judgements -/
abbrev XK:=Value->Option Addr->Hp->Prop
abbrev St:=List (Option V)
abbrev VK:=V->Hp->Prop
abbrev TE:=St->Hp->VK->Prop
abbrev TT:=St->Hp->(Bool->Hp->Prop)->Prop
abbrev TA:=St->Hp->(List V->Hp->Prop)->Prop
structure rm where
 nx:St->Hp->Prop
 rt:VK
 bk:St->Hp->Prop:=fun _ _=>False
 ct:St->Hp->Prop:=fun _ _=>False
abbrev TS:=rm->St->Hp->Prop
def EP (X:Cx) (pins:List (Addr×Obj)) (σ:St) (Q:VK) (u:Value) (s':Shared):Prop:=∃ v H',Inv X pins σ H' s'/\ap v u/\Q v H'
def TP (X:Cx) (pins:List (Addr×Obj)) (σ:St) (Q:Bool->Hp->Prop) (b:Bool) (s':Shared):Prop:=∃ H',Inv X pins σ H' s'/\Q b H'
def AP (X:Cx) (pins:List (Addr×Obj)) (σ:St) (Q:List V->Hp->Prop) (us:List Value) (s':Shared):Prop:=∃ vs H',Inv X pins σ H' s'/\aq vs us/\Q vs H'
def SP (X:Cx) (pins:List (Addr×Obj)) (D:rm) (f:Flow) (s':Shared):Prop :=
 match f with
 |.next=>∃ σ' H',Inv X pins σ' H' s'/\D.nx σ' H'
 |.brk=>∃ σ' H',Inv X pins σ' H' s'/\D.bk σ' H'
 |.cont=>∃ σ' H',Inv X pins σ' H' s'/\D.ct σ' H'
 |.ret u=>∃ v σ' H',Inv X pins σ' H' s'/\ap v u/\D.rt v H'
def PE (X:Cx) (e:Expr) (t:TE):Prop :=
 ∀ (pins:List (Addr×Obj)) (s:Shared) (σ:St) (H:Hp) (Q:VK),Inv X pins σ H s->t σ H Q->wpAny (model X.prog X.w) X.A (eval e X.env) (EP X pins σ Q) X.xe s
def PT (X:Cx) (e:Expr) (t:TT):Prop :=
 ∀ (pins:List (Addr×Obj)) (s:Shared) (σ:St) (H:Hp) (Q:Bool->Hp->Prop),Inv X pins σ H s->t σ H Q->wpAny (model X.prog X.w) X.A (isTrue e X.env (eval e X.env)) (TP X pins σ Q) X.xe s
def PW (X:Cx) (e:Expr) (t:TT):Prop :=
 ∀ (whole:Sem Value) (pins:List (Addr×Obj)) (s:Shared) (σ:St) (H:Hp) (Q:Bool->Hp->Prop),Inv X pins σ H s->t σ H Q->wpAny (model X.prog X.w) X.A (isTrue e X.env whole) (TP X pins σ Q) X.xe s
theorem PW.pt {X:Cx} {e:Expr} {t:TT} (h:PW X e t):PT X e t:=h _
def PA (X:Cx) (es:List Expr) (t:TA):Prop :=
 ∀ (pos:Pos) (pins:List (Addr×Obj)) (s:Shared) (σ:St) (H:Hp) (Q:List V->Hp->Prop),Inv X pins σ H s->t σ H Q->wpAny (model X.prog X.w) X.A (spliced (backTo pos (starEach es X.env))) (AP X pins σ Q) X.xe s
def PS (X:Cx) (st:Stmt) (t:TS):Prop :=
 ∀ (pins:List (Addr×Obj)) (s:Shared) (σ:St) (H:Hp) (D:rm),Inv X pins σ H s->t D σ H->wpAny (model X.prog X.w) X.A (exec st X.env) (SP X pins D) X.xe s
def PSs (X:Cx) (st:List Stmt) (t:TS):Prop :=
 ∀ (pins:List (Addr×Obj)) (s:Shared) (σ:St) (H:Hp) (D:rm),Inv X pins σ H s->t D σ H->wpAny (model X.prog X.w) X.A (execs st X.env) (SP X pins D) X.xe s
theorem thn {α:Type} {t:Sem α} {Q Q':α->Shared->Prop} {M:Model} {A:Around} {E:Value->Shared->Prop} {s:Shared} (h:wpAny M A t Q E s) (hQ:∀ a s,Q a s->Q' a s):wpAny M A t Q' E s:=wpAny_mono h hQ fun _ _ x=>x
section
variable {X:Cx}
/-! ### names and constants -/
def Ft (i:Nat):TE:=fun σ H Q=>∃ v,σ[i]?=some (some v)/\Q v H
def tC (v:V):TE:=fun _ H Q=>Q v H
theorem BN {i:Nat} {x:Str} {pos:Pos} (hN:X.N[i]?=some x) (hv:Vis X.env.scope x) (hd:(x==("__debug__":Str))=false:=by decide) (hcd:(x==("__classdict__":Str))=false:=by decide):PE X (.Name x pos) (Ft i):=by
 intro pins s σ H Q I h
 obtain⟨v,e,h⟩:=h
 obtain⟨m,hn,hl⟩:=I.loc
 obtain⟨u,r,l⟩:=hl i x v hN e hv
 have fin:EP X pins σ Q u s:=⟨v,H,I,r,h⟩
 rcases l with⟨hk,hm⟩|⟨hk,c,hc,hcell⟩
 ·exact wpAny_Name (wpAny_loadName_local I.ok.kind hk hn hm fin) hd
 ·rcases hk with hk|hk
  ·exact wpAny_Name (wpAny_loadName_cell I.ok.kind hk hc hcell fin) hd
  ·exact wpAny_Name (wpAny_loadName_free I.ok.kind hk hc hcell fin hcd) hd
theorem Da {i j pos}:PE X (.Constant (.int i) j pos) (tC (.int i)):=fun _ _ _ H _ I h=>wpAny_Constant_int ⟨.int i,H,I.tok _,⟨_,rfl⟩,h⟩
theorem D3 {b j pos}:PE X (.Constant (.bool b) j pos) (tC (.bl b)):=fun _ _ _ H _ I h=>Constant_bool ⟨.bl b,H,I,rfl,h⟩
theorem BA {j pos}:PE X (.Constant .none j pos) (tC .non):=fun _ _ _ H _ I h=>Constant_none ⟨.non,H,I,rfl,h⟩
theorem AK {x j pos}:PE X (.Constant (.str x) j pos) (tC (.str x)):=fun _ _ _ H _ I h=>Calls.Constant_str ⟨.str x,H,I.tok _,⟨_,rfl⟩,h⟩
def Gl (X:Cx) (x:Str):Prop:=X.env.kindOf x=some .globalImplicit
theorem oy {E:Value->Shared->Prop} {pins:List (Addr×Obj)} {s:Shared} {σ:St} {H:Hp} {x:Str} {u:Value} {pos:Pos} {Q:Value->Shared->Prop} (I:Inv X pins σ H s) (hg:Gl X x) (hm:X.mg x=some u) (h:Q u s)
  (hd:(x==("__debug__":Str))=false:=by decide):wpAny (model X.prog X.w) X.A (eval (.Name x pos) X.env) Q E s :=
 Calls.Name_function_global I.ok.kind hg (Calls.loadGlobal_global (by rw[I.ok.glob];exact I.mod.glob.keeps I.bk) hm h) hd
theorem h7 {E:Value->Shared->Prop} {pins:List (Addr×Obj)} {s:Shared} {σ:St} {H:Hp} {x:Str} {u:Value} {pos:Pos} {Q:Value->Shared->Prop} (I:Inv X pins σ H s) (hg:Gl X x) (hm:X.mg x=none) (hv:bootBuiltins x=some u) (h:Q u s)
  (hn:x≠"__name__":=by decide) (hd:(x==("__debug__":Str))=false:=by decide):wpAny (model X.prog X.w) X.A (eval (.Name x pos) X.env) Q E s:=by
 obtain⟨mb,h1,h2⟩:=I.mod.blt
 exact Calls.Name_function_global I.ok.kind hg (Calls.loadGlobal_builtin (by rw[I.ok.glob];exact I.mod.glob.keeps I.bk) hm (by rw[I.ok.blt];exact h1.keeps I.bk) ((h2 x hn).trans hv) h) hd
theorem ot {x:Str} {v:V} {u:Value} {pos:Pos} (hg:Gl X x) (hm:X.mg x=some u) (r:ap v u) (hd:(x==("__debug__":Str))=false:=by decide):PE X (.Name x pos) (tC v) :=
 fun _ _ _ H _ I h=>oy I hg hm ⟨v,H,I,r,h⟩ hd
theorem yy {x:Str} {v:V} {u:Value} {pos:Pos} (hg:Gl X x) (hm:X.mg x=none) (hv:bootBuiltins x=some u) (r:ap v u) (hn:x≠"__name__":=by decide) (hd:(x==("__debug__":Str))=false:=by decide):PE X (.Name x pos) (tC v) :=
 fun _ _ _ H _ I h=>h7 I hg hm hv ⟨v,H,I,r,h⟩ hn hd
/-! ### arithmetic -/
variable {a b:Expr} {ta tb:TE} {pos:Pos}
/-! ### comparisons -/
def PC (X:Cx) (op:CmpOp) (a b:Expr) (t:TE):Prop :=
 ∀ (pins:List (Addr×Obj)) (s:Shared) (σ:St) (H:Hp) (Q:VK),Inv X pins σ H s->t σ H Q ->
  wpAny (model X.prog X.w) X.A (eval a X.env) (fun v s₁=>wpAny (model X.prog X.w) X.A (eval b X.env) (fun u s₂=>wpAny (model X.prog X.w) X.A (compareOp op v u) (EP X pins σ Q) X.xe s₂) X.xe s₁) X.xe s
theorem av (b:Expr) {op:CmpOp} (h:op≠.In) (h2:op≠.NotIn):behindInMarks op b=false:=by
 have e1:(op==CmpOp.In)=false:=by cases op<;>first|rfl|exact absurd rfl h
 have e2:(op==CmpOp.NotIn)=false:=by cases op<;>first|rfl|exact absurd rfl h2
 cases b<;>simp[behindInMarks,e1,e2]
def tB (t:TE):TT:=fun σ H Q=>t σ H fun x H1=>∃ c,x=.bl c/\Q c H1
theorem B2 {op:CmpOp} {t:TE} (h:PC X op a b t) (h1:behindInMarks op b=false:=by first|exact av _ (by decide) (by decide)|rfl):PE X (.Compare a [op] [b] pos) t:=fun pins s σ H Q I hw=>wpAny_Compare1 (h pins s σ H Q I hw) h1
theorem C7 {op:CmpOp} {t:TE} (h:PC X op a b t) (h1:behindInMarks op b=false:=by first|exact av _ (by decide) (by decide)|rfl):PT X (.Compare a [op] [b] pos) (tB t):=by
 intro pins s σ H Q I hw
 refine wpAny_isTrue_Compare1 (thn (h pins s σ H _ I hw) fun v s1 h1=>thn h1 fun u s2 h2=>thn h2 fun c s3 ⟨x,H1,I1,r1,q1⟩=>?_) h1
 obtain⟨d,rfl,q⟩:=q1
 cases r1
 exact wpAny_truthy_bool ⟨H1,I1,q⟩
theorem Ca {e:Expr} {t:TE} (h:PE X e t) (he:∀ whole,isTrue e X.env whole=(do let v <-whole;standAt e.pos;holding [v] (truthy v)):=by intro _;rfl):PT X e (tB t):=by
 intro pins s σ H Q I hw
 refine isTrue_plain (thn (h pins s σ H _ I hw) fun v s1 ⟨x,H1,I1,r1,q1⟩=>?_) (he _)
 obtain⟨d,rfl,q⟩:=q1
 cases r1
 exact wpAny_truthy_bool ⟨H1,I1,q⟩
/-! ### and,or,not -/
variable {tA tB':TT} {bG:List Expr}
def FT (t u:TT):TT:=fun σ H Q=>t σ H fun c H1=>if c=true then u σ H1 Q else Q false H1
def tOr (t u:TT):TT:=fun σ H Q=>t σ H fun c H1=>if c=true then Q true H1 else u σ H1 Q
def Fe (t:TT):TT:=fun σ H Q=>t σ H fun c H1=>Q (!c) H1
theorem zc (ha:PT X a tA):PW X (.BoolOp .And [a] pos) tA:=by
 intro wh pins s σ H Q I h
 refine isTrue_and (thn (ha pins s σ H Q I h) fun c s1 e=>?_)
 cases c with
 |true=>exact isTrue_and_nil e
 |false=>exact e
theorem A0 (ha:PT X a tA):PW X (.BoolOp .Or [a] pos) tA:=by
 intro wh pins s σ H Q I h
 refine isTrue_or (thn (ha pins s σ H Q I h) fun c s1 e=>?_)
 cases c with
 |false=>exact isTrue_or_nil e
 |true=>exact e
theorem Ct (ha:PT X a tA) (hb:PW X (.BoolOp .And (b::bG) pos) tB'):PW X (.BoolOp .And (a::b::bG) pos) (FT tA tB'):=by
 intro wh pins s σ H Q I h
 refine isTrue_and (thn (ha pins s σ H _ I h) fun c s1 ⟨H1,I1,q1⟩=>?_)
 cases c with
 |true=>exact hb wh pins s1 σ H1 Q I1 q1
 |false=>exact⟨H1,I1,q1⟩
theorem DK (ha:PT X a tA) (hb:PW X (.BoolOp .Or (b::bG) pos) tB'):PW X (.BoolOp .Or (a::b::bG) pos) (tOr tA tB'):=by
 intro wh pins s σ H Q I h
 refine isTrue_or (thn (ha pins s σ H _ I h) fun c s1 ⟨H1,I1,q1⟩=>?_)
 cases c with
 |true=>exact⟨H1,I1,q1⟩
 |false=>exact hb wh pins s1 σ H1 Q I1 q1
theorem CM (ha:PT X a tA):PT X (.UnaryOp .Not a pos) (Fe tA):=by
 intro pins s σ H Q I h
 exact isTrue_not (ha pins s σ H (fun c H1=>Q (!c) H1) I h)
def EM (ta tb:TE):TE:=fun σ H Q=>ta σ H fun x H1=>∃ c,x=.bl c/\if c=true then tb σ H1 Q else Q (.bl false) H1
theorem CN {op} {t:TE} (h:PE X a t):PE X (.BoolOp op [a] pos) t:=fun pins s σ H Q I hw=>BoolOp_one (h pins s σ H Q I hw)
theorem C3 (ha:PE X a ta) (hb:PE X (.BoolOp .And (b::bG) pos) tb):PE X (.BoolOp .And (a::b::bG) pos) (EM ta tb):=by
 intro pins s σ H Q I h
 refine BoolOp_and (thn (ha pins s σ H _ I h) fun v s1 ⟨x,H1,I1,r1,q1⟩=>?_)
 obtain⟨c,rfl,q1⟩:=q1
 cases r1
 refine wpAny_truthy_bool ?_
 cases c with
 |true=>exact hb pins s1 σ H1 Q I1 q1
 |false=>exact⟨.bl false,H1,I1,rfl,q1⟩
def tIf (t:TT) (ta tb:TE):TE:=fun σ H Q=>t σ H fun c H1=>if c=true then ta σ H1 Q else tb σ H1 Q
theorem vj {c:Expr} (hc:PT X c tA) (ha:PE X a ta) (hb:PE X b tb):PE X (.IfExp c a b pos) (tIf tA ta tb):=by
 intro pins s σ H Q I h
 refine wpAny_IfExp (thn (hc pins s σ H _ I h) fun d s1 ⟨H1,I1,q1⟩=>?_)
 cases d with
 |true=>exact ha pins s1 σ H1 Q I1 q1
 |false=>exact hb pins s1 σ H1 Q I1 q1
end
/-! ### a list,a tuple that is read: tracked,frozen,or an object of the module -/
def SqL (K:PySem.W.Frag) (H:Hp) (a:Addr) (xs:List V):Prop :=
 Rd H a (.lst xs) ∨
  ∃ (o:Obj) (its:Array Value) (n:Nat),K.lookup a=some o/\o.cls=.type "list"/\o.dict=none/\o.data=.seq its n/\its.size<=sizeLine/\aq xs its.toList
def SqT (K:PySem.W.Frag) (H:Hp) (a:Addr) (xs:List V):Prop :=
 Rd H a (.tup xs) ∨
  ∃ (o:Obj) (its:Array Value) (n:Nat),K.lookup a=some o/\(o.cls=.type "tuple"/\o.dict=none)/\o.data=.seq its n/\its.size<=sizeLine/\aq xs its.toList
def FI:Value->Option V
 |.none=>some .non
 |.bool b=>some (.bl b)
 |.int i _=>some (.int i)
 |.str x _=>some (.str x)
 |.bytes b _=>some (.byt b)
 |.float b _=>some (.flt b)
 |.ref a=>some (.ref a)
 |.type n=>some (.ty n)
 |_=>none
theorem ap.abs {x:V} {u:Value} (r:ap x u):FI u=some x:=by
 cases x with
 |non=>cases r;rfl
 |bl _=>cases r;rfl
 |int _=>obtain⟨t,rfl⟩:=r;rfl
 |str _=>obtain⟨t,rfl⟩:=r;rfl
 |byt _=>obtain⟨t,rfl⟩:=r;rfl
 |flt _=>obtain⟨t,rfl⟩:=r;rfl
 |ref _=>cases r;rfl
 |ty _=>cases r;rfl
theorem ap.inj {x y:V} {u:Value} (r:ap x u) (q:ap y u):x=y:=Option.some.inj (r.abs.symm.trans q.abs)
theorem aq.inj:∀ {xs ys:List V} {us:List Value},aq xs us->aq ys us->xs=ys
 |_,_,_,.nil,.nil=>rfl
 |_,_,_,.cons r t,.cons r' t'=>by rw[r.inj r',aq.inj t t']
section
variable {X:Cx} {pins:List (Addr×Obj)} {σ:St} {H:Hp} {s:Shared} {a:Addr} {xs ys:List V}
theorem SqL.of {K:PySem.W.Frag} (h:H a=some (.lst xs)):SqL K H a xs:=.inl (.inl h)
theorem SqT.of {K:PySem.W.Frag} (h:H a=some (.tup xs)):SqT K H a xs:=.inl (.inl h)
theorem Inv.list (I:Inv X pins σ H s) (h:SqL X.K H a xs):∃ its:List Value,aq xs its/\PlainL s.heap a its.toArray/\xs.length<=sizeLine:=by
 rcases h with h|⟨o,its,n,hk,hc,hd,hs,hz,r⟩
 ·obtain⟨z,its,n,r,e⟩:=h.ok I.hok
  exact⟨its,r,⟨_,n,e,rfl,rfl,rfl⟩,z⟩
 ·refine⟨its.toList,r,⟨o,n,I.kIn a o hk,hc,hd,by simpa using hs⟩,?_⟩
  have e:=r.length
  simp only[Array.length_toList]at e
  omega
theorem Inv.tuple (I:Inv X pins σ H s) (h:SqT X.K H a xs):∃ its:List Value,aq xs its/\IsTup s.heap a its.toArray/\xs.length<=sizeLine:=by
 rcases h with h|⟨o,its,n,hk,hc,hs,hz,r⟩
 ·obtain⟨z,its,r,p⟩:=h.ok I.hok
  exact⟨its,r,p.tup,z⟩
 ·refine⟨its.toList,r,⟨o,I.kIn a o hk,hc.1,n,by simpa using hs⟩,?_⟩
  have e:=r.length
  simp only[Array.length_toList]at e
  omega
theorem Inv.list_inj (I:Inv X pins σ H s) (h:SqL X.K H a xs) (h':SqL X.K H a ys):xs=ys:=by
 obtain⟨its,r,⟨o,n,e,_,_,d⟩,_⟩:=I.list h
 obtain⟨its',r',⟨o',n',e',_,_,d'⟩,_⟩:=I.list h'
 rw[e]at e';cases e'
 rw[d]at d'
 injection d' with d1 _
 have:its=its':=by simpa using congrArg Array.toList d1
 subst this
 exact r.inj r'
theorem Inv.tuple_inj (I:Inv X pins σ H s) (h:SqT X.K H a xs) (h':SqT X.K H a ys):xs=ys:=by
 obtain⟨its,r,⟨o,e,_,n,d⟩,_⟩:=I.tuple h
 obtain⟨its',r',⟨o',e',_,n',d'⟩,_⟩:=I.tuple h'
 rw[e]at e';cases e'
 rw[d]at d'
 injection d' with d1 _
 have:its=its':=by simpa using congrArg Array.toList d1
 subst this
 exact r.inj r'
end
/-! ### another wish about exceptions -/
abbrev Cx.wish (X:Cx) (E:Value->Shared->Prop):Cx:={ X with xe:=E }
abbrev Cx.nox (X:Cx):Cx:=X.wish fun _ _=>False
theorem Cx.Ok.wish {X:Cx} (ok:X.Ok) (E:Value->Shared->Prop):(X.wish E).Ok :=
 ⟨ok.mod,ok.kind,ok.glob,ok.blt,ok.above,ok.inj,ok.has,ok.cab,ok.hd,ok.frames,ok.stk,ok.exf,ok.bs,ok.bsz,ok.noex,ok.exfs,ok.funs,ok.frf⟩
theorem Cx.Ok.unwish {X:Cx} {E:Value->Shared->Prop} (ok:(X.wish E).Ok):X.Ok :=
 ⟨ok.mod,ok.kind,ok.glob,ok.blt,ok.above,ok.inj,ok.has,ok.cab,ok.hd,ok.frames,ok.stk,ok.exf,ok.bs,ok.bsz,ok.noex,ok.exfs,ok.funs,ok.frf⟩
section
variable {X:Cx} {pins:List (Addr×Obj)} {σ:St} {H:Hp} {s:Shared} {E:Value->Shared->Prop}
theorem Inv.wish (I:Inv X pins σ H s) (E:Value->Shared->Prop):Inv (X.wish E) pins σ H s:=⟨I.ok.wish E,I.os,I.bare,I.base,I.loc,I.cell,I.free,I.freeC,I.pin,I.hok,I.len⟩
theorem Inv.unwish (I:Inv (X.wish E) pins σ H s):Inv X pins σ H s:=⟨I.ok.unwish,I.os,I.bare,I.base,I.loc,I.cell,I.free,I.freeC,I.pin,I.hok,I.len⟩
theorem SP.unwish {D:rm} {f:Flow} {s':Shared} (h:SP (X.wish E) pins D f s'):SP X pins D f s':=by
 cases f with
 |next=>obtain⟨σ',H',I,q⟩:=h;exact⟨σ',H',I.unwish,q⟩
 |brk=>obtain⟨σ',H',I,q⟩:=h;exact⟨σ',H',I.unwish,q⟩
 |cont=>obtain⟨σ',H',I,q⟩:=h;exact⟨σ',H',I.unwish,q⟩
 |ret u=>obtain⟨v,σ',H',I,r,q⟩:=h;exact⟨v,σ',H',I.unwish,r,q⟩
theorem PSs.nox {st:List Stmt} {t:TS} (h:PSs X.nox st t):PSs X st t:=fun pins s σ H D I hw =>
 wpAny_mono (h pins s σ H D (I.wish _) hw) (fun _ _ q=>q.unwish) fun _ _ z=>False.elim z
end
/-! ### blocks and small statements -/
section
variable {X:Cx} {st:Stmt} {bG:List Stmt} {t u:TS} {e:Expr} {te:TE} {pos:Pos}
def D4:TS:=fun D σ H=>D.nx σ H
def Fz (t u:TS):TS:=fun D σ H=>t { D with nx:=u D } σ H
theorem yX:PSs X [] D4:=fun _ _ σ H _ I h=>wpAny_execs_nil ⟨σ,H,I,h⟩
theorem wb (h1:PS X st t) (h2:PSs X bG u):PSs X (st::bG) (Fz t u):=by
 intro pins s σ H D I h
 refine wpAny_execs_cons (thn (h1 pins s σ H { D with nx:=u D } I h) fun f s1 q=>?_)
 cases f with
 |next =>
  obtain⟨σ',H',I',q⟩:=q
  exact h2 pins s1 σ' H' D I' q
 |ret v=>exact q
 |brk=>exact q
 |cont=>exact q
theorem yt (h1:PS X st t):PSs X [st] t:=by
 intro pins s σ H D I h
 refine wpAny_execs_cons (thn (h1 pins s σ H D I h) fun f s1 q=>?_)
 cases f with
 |next=>exact wpAny_execs_nil q
 |ret v=>exact q
 |brk=>exact q
 |cont=>exact q
theorem Inv.quiet {pins:List (Addr×Obj)} {σ:St} {H:Hp} {s:Shared} (I:Inv X pins σ H s):interactive X.env=false:=by simp[interactive,I.ok.kind]
def DL (te:TE):TS:=fun D σ H=>te σ H fun _ H1=>D.nx σ H1
theorem yL (he:PE X e te) (hs:swapsWith e none pos.line X.env=pure false:=by rfl):PS X (.Expr e pos) (DL te):=by
 intro pins s σ H D I h
 exact wpAny_Expr_any (thn (he pins s σ H _ I h) fun v s1 ⟨x,H1,I1,r1,q1⟩=>⟨σ,H1,I1,q1⟩) I.quiet hs
def FQ (te:TE):TS:=fun D σ H=>te σ H D.rt
theorem q0 (he:PE X e te):PS X (.Return (some e) pos) (FQ te):=by
 intro pins s σ H D I h
 exact wpAny_Return_some (thn (he pins s σ H _ I h) fun v s1 ⟨x,H1,I1,r1,q1⟩=>⟨x,σ,H1,I1,r1,q1⟩)
def Fh (c:TT) (t u:TS):TS:=fun D σ H=>c σ H fun b H1=>if b=true then t D σ H1 else u D σ H1
theorem D0 {c:Expr} {a b:List Stmt} {tc:TT} (hc:PT X c tc) (ha:PSs X a t) (hb:PSs X b u):PS X (.If c a b pos) (Fh tc t u):=by
 intro pins s σ H D I h
 refine wpAny_If (thn (hc pins s σ H _ I h) fun d s1 ⟨H1,I1,q1⟩=>?_)
 cases d with
 |true=>exact ha pins s1 σ H1 D I1 q1
 |false=>exact hb pins s1 σ H1 D I1 q1
end
/-! ### targets -/
abbrev TG:=V->St->Hp->(St->Hp->Prop)->Prop
abbrev TGs:=List V->St->Hp->(St->Hp->Prop)->Prop
def PG (X:Cx) (target:Expr) (t:TG):Prop :=
 ∀ (pins:List (Addr×Obj)) (s:Shared) (σ:St) (H:Hp) (v:V) (u:Value) (Q:St->Hp->Prop),Inv X pins σ H s->ap v u->t v σ H Q ->
  wpAny (model X.prog X.w) X.A (assign target X.env u) (fun _ s'=>∃ σ' H',Inv X pins σ' H' s'/\Q σ' H') X.xe s
def PGs (X:Cx) (ts:List Expr) (t:TGs):Prop :=
 ∀ (pins:List (Addr×Obj)) (s:Shared) (σ:St) (H:Hp) (vs:List V) (us:List Value) (Q:St->Hp->Prop),Inv X pins σ H s->aq vs us->t vs σ H Q ->
  wpAny (model X.prog X.w) X.A (assignInOrder ((assignEach ts X.env).map (·.2)) us) (fun _ s'=>∃ σ' H',Inv X pins σ' H' s'/\Q σ' H') X.xe s
abbrev B7:=V->V->V->Hp->(Hp->Prop)->Prop
def Dr (X:Cx) (t:B7):Prop :=
 ∀ (pins:List (Addr×Obj)) (s:Shared) (σ:St) (H:Hp) (o i v:V) (ov iv u:Value) (Q:Hp->Prop),Inv X pins σ H s->ap o ov->ap i iv->ap v u->t o i v H Q ->
  wpAny (model X.prog X.w) X.A (setItem ov iv u) (fun _ s'=>∃ H',Inv X pins σ H' s'/\Q H') X.xe s
abbrev TIp:=V->V->Hp->VK->Prop
def PIp (X:Cx) (op:Operator) (t:TIp):Prop :=
 ∀ (pins:List (Addr×Obj)) (s:Shared) (σ:St) (H:Hp) (x y:V) (v u:Value) (Q:VK),Inv X pins σ H s->ap x v->ap y u->t x y H Q ->
  wpAny (model X.prog X.w) X.A (inplaceOp op v u) (EP X pins σ Q) X.xe s
section
variable {X:Cx} {pos:Pos}
def nz (i:Nat):TG:=fun v σ H Q=>Q (σ.set i (some v)) H
theorem tT {i:Nat} {x:Str} (hN:X.N.Nodup) (hi:X.N[i]?=some x) (hx:Loc X.env.scope x) (hf:X.fn x=true∨X.env.scope.names.lookup x=some .local:=by first|exact .inl rfl|exact .inr rfl|assumption):PG X (.Name x pos) (nz i):=by
 intro pins s σ H v u Q I r h
 exact wpAny_assign_Name (lL I hN hi hx r (fun s' I'=>⟨_,H,I',h⟩) hf)
def BQ:TGs:=fun vs σ H Q=>vs=[]/\Q σ H
def xm (t:TG) (u:TGs):TGs:=fun vs σ H Q=>∃ v r,vs=v::r/\t v σ H fun σ' H'=>u r σ' H' Q
theorem tD:PGs X [] BQ:=by
 intro pins s σ H vs us Q I r h
 obtain⟨e,h⟩:=h
 subst e
 cases r
 exact assignInOrder_nil ⟨σ,H,I,h⟩
theorem pe {e:Expr} {es:List Expr} {t:TG} {u:TGs} (h1:PG X e t) (h2:PGs X es u)
  (hs:(assignEach (e::es) X.env).map (·.2)=assign e X.env::(assignEach es X.env).map (·.2):=by rfl):PGs X (e::es) (xm t u):=by
 intro pins s σ H vs us Q I r h
 obtain⟨v,vr,e1,h⟩:=h
 subst e1
 cases r with
 |cons r rr =>
  rw[hs]
  refine assignInOrder_cons (thn (h1 pins s σ H _ _ _ I r h) fun _ s1 ⟨σ1,H1,I1,q1⟩=>?_)
  exact h2 pins s1 σ1 H1 _ _ Q I1 rr q1
def AT (K:PySem.W.Frag) (n:Nat) (t:TGs):TG:=fun v σ H Q=>∃ a xs,v=.ref a/\SqT K H a xs/\xs.length=n/\t xs σ H Q
theorem xu {es:List Expr} {k:Nat} {t:TGs} {n:Nat} (hc:X.calm=true) (h:PGs X es t)
  (hn:(assignEach es X.env).length=n:=by rfl) (hst:(assignEach es X.env).findIdx? (·.1)=none:=by rfl):PG X (.Tuple es k pos) (AT X.K n t):=by
 intro pins s σ H v u Q I r hw
 obtain⟨a,xs,e1,hq,hl,hw⟩:=hw
 subst e1
 cases r
 obtain⟨its,rv,ht,hz⟩:=I.tuple hq
 refine assign_Tuple_tuple (I.ok.hd hc) ht (by simp[hn,<-hl,rv.length]) hst fun h' hx=>?_
 have I1:Inv X pins σ H { s with heap:=h' }:=I.kept (t':=s.toks) fun b o e=>hx b o (Nat.ne_of_lt (Heap.lt_size e)) e
 exact h pins _ σ H xs _ Q I1 (by simpa using rv) hw
def Fg (to ti:TE) (t:B7):TG:=fun v σ H Q=>to σ H fun o H1=>ti σ H1 fun i H2=>t o i v H2 fun H3=>Q σ H3
theorem BM {o i:Expr} {to ti:TE} {t:B7} (ho:PE X o to) (hi:PE X i ti) (hs:Dr X t)
  (ha:∀ v,assign (.Subscript o i pos) X.env v = (do
   let ov <-holding [v] (eval o X.env)
   let iv <-holding [v,ov] (eval i X.env)
   standAt pos
   holding [v,ov,iv] (setItem ov iv v)
   release [v,ov,iv] []):=by intro _;rfl):PG X (.Subscript o i pos) (Fg to ti t):=by
 intro pins s σ H v u Q I r h
 rw[ha]
 refine wpAny_bind (wpAny_holding (thn (ho pins s σ H _ I h) fun ov s1 ⟨x,H1,I1,r1,q1⟩=>?_))
 refine wpAny_bind (wpAny_holding (thn (hi pins s1 σ H1 _ I1 q1) fun iv s2 ⟨y,H2,I2,r2,q2⟩=>?_))
 refine wpAny_bind (wpAny_standAt (wpAny_bind (wpAny_holding (thn (hs pins s2 σ H2 x y v ov iv u _ I2 r1 r2 r q2) fun _ s3 ⟨H3,I3,q3⟩=>?_))))
 exact wpAny_release ⟨σ,H3,I3,q3⟩
def z6 (te:TE) (g:TG):TS:=fun D σ H=>te σ H fun x H1=>g x σ H1 D.nx
theorem xT {tg e:Expr} {te:TE} {g:TG} (he:PE X e te) (hg:PG X tg g) (hs:swapsWithSole [tg] e pos.line X.env=pure false:=by rfl) (hw:swappedStores [tg] e X.env=pure none:=by rfl)
  (h1:(assignEach [tg] X.env).map (·.2)=[assign tg X.env]:=by rfl):PS X (.Assign [tg] e pos) (z6 te g):=by
 intro pins s σ H D I h
 refine wpAny_Assign_stores (thn (he pins s σ H _ I h) fun v s1 ⟨x,H1,I1,r1,q1⟩=>?_) hs hw
 rw[h1]
 exact thn (hg pins s1 σ H1 x v _ I1 r1 q1) fun _ s2 q=>q
theorem Bw {i:Nat} {x:Str} {e:Expr} {te:TE} {pos':Pos} (hN:X.N.Nodup) (hi:X.N[i]?=some x) (hx:Loc X.env.scope x) (he:PE X e te) (hs:swapsWith e (some (.Name x pos')) pos.line X.env=pure false:=by rfl) (hf:X.fn x=true∨X.env.scope.names.lookup x=some .local:=by first|exact .inl rfl|exact .inr rfl|assumption) :
  PS X (.Assign [.Name x pos'] e pos) (z6 te (nz i)):=by
 intro pins s σ H D I h
 refine wpAny_Assign_Name (thn (he pins s σ H _ I h) fun v s1 ⟨y,H1,I1,r1,q1⟩=>?_) hs
 exact lL I1 hN hi hx r1 (fun s2 I2=>⟨_,H1,I2,q1⟩) hf
def Fx (i:Nat) (te:TE) (ti:TIp):TS:=fun D σ H=>∃ x,σ[i]?=some (some x)/\te σ H fun y H1=>ti x y H1 fun z H2=>D.nx (σ.set i (some z)) H2
theorem AS {i:Nat} {x:Str} {e:Expr} {te:TE} {op:Operator} {ti:TIp} {pos':Pos} (hN:X.N.Nodup) (hi:X.N[i]?=some x) (hx:Loc X.env.scope x) (he:PE X e te) (ho:PIp X op ti) (hf:X.fn x=true∨X.env.scope.names.lookup x=some .local:=by first|exact .inl rfl|exact .inr rfl|assumption) :
  PS X (.AugAssign (.Name x pos') op e pos) (Fx i te ti):=by
 intro pins s σ H D I h
 obtain⟨v,e1,h⟩:=h
 obtain⟨m,hn,hl⟩:=I.loc
 have vis:Vis X.env.scope x:=by rcases hx with k|k;exact .inl k;exact .inr (.inl k)
 obtain⟨u,r,l⟩:=hl i x v hi e1 vis
 refine wpAny_AugAssign_Name ?_
 have go:wpAny (model X.prog X.w) X.A (eval e X.env) (fun w s₂=>wpAny (model X.prog X.w) X.A (inplaceOp op u w) (fun r s₃=>wpAny (model X.prog X.w) X.A (storeName X.env x r) (fun _=>SP X pins D .next) X.xe s₃) X.xe s₂) X.xe s:=by
  refine thn (he pins s σ H _ I h) fun w s1 ⟨y,H1,I1,r1,q1⟩=>?_
  refine thn (ho pins s1 σ H1 v y u w _ I1 r r1 q1) fun z s2 ⟨zv,H2,I2,r2,q2⟩=>?_
  exact lL I2 hN hi hx r2 (fun s3 I3=>⟨_,H2,I3,q2⟩) hf
 rcases l with⟨hk,hm⟩|⟨hk,c,hc,hcell⟩
 ·exact wpAny_loadName_local I.ok.kind hk hn hm go
 ·rcases hk with hk|hk
  ·exact wpAny_loadName_cell I.ok.kind hk hc hcell go
  ·rcases hx with k|k
   ·have:X.env.scope.names.lookup x=some .free:=hk
    rw[k]at this;cases this
   ·have:X.env.scope.names.lookup x=some .free:=hk
    rw[k]at this;cases this
def ipI (f:Int->Int->Int):TIp:=fun x y H Q=>∃ i j,x=.int i/\y=.int j/\Q (.int (f i j)) H
theorem A8:PIp X .Add (ipI fun i j=>i+j):=by
 intro pins s σ H x y v u Q I r1 r2 h
 obtain⟨i,j,e1,e2,q⟩:=h
 subst e1;subst e2
 obtain⟨t,rfl⟩:=r1
 obtain⟨t',rfl⟩:=r2
 exact iadd_int ⟨.int _,H,I.tok _,⟨_,rfl⟩,q⟩
end
/-! ### while -/
section
variable {X:Cx} {pos:Pos}
def AQ (c:TT) (tb:TS):TS:=fun D σ H=>∃ W:Nat->St->Hp->Prop,(∃ m,W m σ H)/\∀ m σ H,W m σ H ->
 c σ H fun b H1=>if b=true then ∃ N:St->Hp->Prop,(∀ σ' H',N σ' H'->∃ m',m'<m/\W m' σ' H')/\tb { D with nx:=N,ct:=N,bk:=D.nx } σ H1 else D.nx σ H1
theorem xP {c:Expr} {body:List Stmt} {tc:TT} {tb:TS} (hp:PassesOwn (model X.prog X.w) X.A X.env X.xe) (hc:PT X c tc) (hb:PSs X body tb):PS X (.While c body [] pos) (AQ tc tb):=by
 intro pins s σ H D I h
 obtain⟨W,⟨m0,w0⟩,turn⟩:=h
 refine wpAny_While (codeAny_whileLoop (fun n s'=>∃ σ' H',Inv X pins σ' H' s'/\W n σ' H') ?_ m0 ⟨σ,H,I,w0⟩)
 rintro n s1 ⟨σ1,H1,I1,w1⟩
 refine wpAny_passesOwn hp (thn (hc pins s1 σ1 H1 _ I1 (turn n σ1 H1 w1)) fun b s2 ⟨H2,I2,q2⟩=>?_)
 cases b with
 |true =>
  obtain⟨N,hN,q2⟩:=q2
  rw[if_pos rfl]
  refine wpAny_passesOwn hp (thn (hb pins s2 σ1 H2 _ I2 q2) fun f s3 q3=>?_)
  cases f with
  |next =>
   obtain⟨σ3,H3,I3,n3⟩:=q3
   obtain⟨m',hm,w3⟩:=hN σ3 H3 n3
   exact⟨m',hm,σ3,H3,I3,w3⟩
  |cont =>
   obtain⟨σ3,H3,I3,n3⟩:=q3
   obtain⟨m',hm,w3⟩:=hN σ3 H3 n3
   exact⟨m',hm,σ3,H3,I3,w3⟩
  |brk=>exact q3
  |ret v=>exact q3
 |false =>
  rw[if_neg Bool.false_ne_true]
  exact wpAny_execs_nil ⟨σ1,H2,I2,q2⟩
end
/-! ### what a loop or a comprehension walks -/
structure It where
 go:Nat->Hp->Prop
 yld:Nat->Hp->V->Hp->Prop
 stop:Nat->Hp->Prop
def cy (X:Cx) (pins:List (Addr×Obj)) (H:Hp) (b:Addr):Prop :=
 H b=none/\b≠X.env.locals/\b∉X.fs/\(b∈X.ex∨X.s₀.heap.objs.size<=b)/\(∀ x c,X.env.cells.lookup x=some c->c≠b)/\∀ p∈X.pn++pins,p.1≠b
theorem Inv.fpOk {X:Cx} {pins:List (Addr×Obj)} {σ:St} {H H':Hp} {s:Shared} {b:Addr} (I:Inv X pins σ H s) (hb:s.heap.objs.size<=b) (hn:H' b=none):cy X pins H' b:=by
 refine⟨hn,Nat.ne_of_gt (Nat.lt_of_lt_of_le I.lt hb),I.nofs hb,.inr (Nat.le_trans I.sz hb),fun x c e z=>?_,fun p hp z=>?_⟩
 ·obtain⟨v,q⟩:=I.cell x c e
  exact absurd (Nat.lt_of_lt_of_le q.lt (by rw[z];exact hb)) (Nat.lt_irrefl _)
 ·exact absurd (Nat.lt_of_lt_of_le (Heap.lt_size (I.pin p hp).1) (by rw[z];exact hb)) (Nat.lt_irrefl _)
structure gJ (P:Program) (w:World) (K:PySem.W.Frag) (tg:Expr) (J:It) (fp:List Addr) (it:Addr) (tn:Nat->Heap->Prop):Prop where
 mem:it∈fp
 obj:∀ i h,tn i h->∀ b∈fp,∃ o,h.get? b=some o/\∀ v,o.data≠.cell v
 keep:∀ i h h',tn i h->(∀ b∈fp,∀ o,h.get? b=some o->h'.get? b=some o)->tn i h'
 item:∀ (X:Cx),X.prog=P->X.w=w->X.K=K->X.calm=true->∀ (i:Nat) (pins:List (Addr×Obj)) (s:Shared) (σ:St) (H:Hp) (E:Value->Shared->Prop),Inv X pins σ H s->(∀ b∈fp,cy X pins H b)->tn i s.heap->J.go i H ->
  wpAny (model P w) X.A (pyNext (.ref it)) (fun r s1=>∃ u,r=some u /\
   wpAny (model P w) X.A (letOwnedTupleGo tg (.ref it) u) (fun _ s2=>∃ x H',Inv X pins σ H' s2/\ap x u/\J.yld i H x H'/\tn (i+1) s2.heap/\∀ b∈fp,H' b=none) E s1) E s
 done:∀ (X:Cx),X.prog=P->X.w=w->X.K=K->X.calm=true->∀ (i:Nat) (pins:List (Addr×Obj)) (s:Shared) (σ:St) (H:Hp) (E:Value->Shared->Prop),Inv X pins σ H s->(∀ b∈fp,cy X pins H b)->tn i s.heap->J.stop i H ->
  wpAny (model P w) X.A (pyNext (.ref it)) (fun r s1=>r=none/\Inv X pins σ H s1) E s
 self:∀ (A:Around) (i:Nat) (s:Shared) (Q:Value->Shared->Prop) (E:Value->Shared->Prop),tn i s.heap->Q (.ref it) s->wpAny (model P w) A (pyIter (.ref it)) Q E s
abbrev TI:=St->Hp->(It->Hp->Prop)->Prop
def PIE (X:Cx) (pins:List (Addr×Obj)) (σ:St) (tg:Expr) (R:It->Hp->Prop) (itv:Value) (s2:Shared):Prop :=
 ∃ (it:Addr) (fp:List Addr) (tn:Nat->Heap->Prop) (J:It) (H':Hp),itv=.ref it/\Inv X pins σ H' s2/\gJ X.prog X.w X.K tg J fp it tn/\tn 0 s2.heap/\(∀ b∈fp,cy X pins H' b)/\R J H'
def PI (X:Cx) (tg iter:Expr) (wi:TI):Prop :=
 ∀ (pins:List (Addr×Obj)) (s:Shared) (σ:St) (H:Hp) (R:It->Hp->Prop),Inv X pins σ H s->wi σ H R ->
  wpAny (model X.prog X.w) X.A (eval iter X.env) (fun v s1=>wpAny (model X.prog X.w) X.A (pyIter v) (PIE X pins σ tg R) X.xe s1) X.xe s
theorem nQ {M:Model} {A:Around} {E:Value->Shared->Prop} {s:Shared} {tg:Expr} {it:Addr} {u:Value} {o:Obj} {n:String} {vs:Array Value} {Q:Unit->Shared->Prop} (ho:s.heap.get? it=some o) (hc:o.cls=.type n) (hd:o.data=.fields vs)
    (hn:["enumerate","zip","dict_itemiterator","dict_reverseitemiterator","odict_iterator","itertools.zip_longest","itertools.pairwise"].contains n=false) (hQ:Q () s):wpAny M A (letOwnedTupleGo tg (.ref it) u) Q E s:=by
  unfold letOwnedTupleGo
  cases tg<;>first
    |exact wpAny_pure hQ
    |(cases u<;>first
        |exact wpAny_pure hQ
        | (refine wpAny_bind (wpAny_load ho ?_)
           rw[hc,hd]
           show wpAny M A (if(["enumerate","zip","dict_itemiterator","dict_reverseitemiterator","odict_iterator","itertools.zip_longest","itertools.pairwise"].contains n&&vs[0]?==some (rawInt _))=true then _ else _) Q E s
           rw[if_neg (by intro h;rw[hn,Bool.false_and]at h;cases h)]
           exact wpAny_pure hQ))
def Itl (K:PySem.W.Frag) (a:Addr):It :=
 ⟨fun i H=>∃ xs x,SqL K H a xs/\xs[i]?=some x,fun i H x H'=>H'=H/\∀ xs,SqL K H a xs->xs[i]?=some x,fun i H=>∃ xs,SqL K H a xs/\xs.length<=i⟩
def Itt (K:PySem.W.Frag) (a:Addr):It :=
 ⟨fun i H=>∃ xs x,SqT K H a xs/\xs[i]?=some x,fun i H x H'=>H'=H/\∀ xs,SqT K H a xs->xs[i]?=some x,fun i H=>∃ xs,SqT K H a xs/\xs.length<=i⟩
def Itr (lo:Int) (n:Nat):It:=⟨fun i _=>i<n,fun i H x H'=>H'=H/\x=.int (lo+i),fun i _=>n<=i⟩
theorem mN {P:Program} {w:World} {K:PySem.W.Frag} {tg:Expr} (a it:Addr):gJ P w K tg (Itl K a) [it] it (fun i h=>h.IsListIter it a i) where
 mem:=by simp
 obj:=fun i h st b hb=>by
  have e:b=it:=by simpa using hb
  subst e
  obtain⟨o,e,c,d⟩:=st
  exact⟨o,e,fun v z=>by rw[d]at z;cases z⟩
 keep:=fun i h h' st k=>st.at fun o e=>k it (by simp) o e
 item:=by
  intro X hP hw hK hc i pins s σ H E I hf st hg
  subst hP hw hK
  obtain⟨xs,x,hq,hx⟩:=hg
  obtain⟨its,rv,p,hz⟩:=I.list hq
  obtain⟨u,hu,ru⟩:=rv.get hx
  obtain⟨f0,f1,f2,f3,f4,f5⟩:=hf it (by simp)
  refine wpAny_pyNext_list_item st p.isList (x:=u) (by simpa using hu) fun h' st' sb=>?_
  have I1:Inv X pins σ H { s with heap:=h' }:=I.turned (t':=s.toks) (fun b o hb e=>(sb.2 b hb).trans e) f0 f1 f3 f4 f5
  obtain⟨o,e,c,d⟩:=id st'
  exact⟨u,rfl,nQ (s:={ s with heap:=h' }) e c d (by decide) ⟨x,H,I1,ru,⟨rfl,fun ys hy=>by rw[I.list_inj hy hq];exact hx⟩,st',fun b hb=>(hf b hb).1⟩⟩
 done:=by
  intro X hP hw hK hc i pins s σ H E I hf st hg
  subst hP hw hK
  obtain⟨xs,hq,hx⟩:=hg
  obtain⟨its,rv,p,hz⟩:=I.list hq
  obtain⟨f0,f1,f2,f3,f4,f5⟩:=hf it (by simp)
  have hl:=rv.length
  exact wpAny_pyNext_list_end (I.ok.hd hc) st p.isList (by simp;omega) fun h' eb=>⟨rfl,I.turned (t':=s.toks) (fun b o hb e=>eb b o hb e) f0 f1 f3 f4 f5⟩
 self:=fun _ _ _ _ _ st h=>wpAny_pyIter_listiter st h
theorem qL {P:Program} {w:World} {K:PySem.W.Frag} {tg:Expr} (a it:Addr):gJ P w K tg (Itt K a) [it] it (fun i h=>h.IsTupleIter it a i) where
 mem:=by simp
 obj:=fun i h st b hb=>by
  have e:b=it:=by simpa using hb
  subst e
  obtain⟨o,e,c,d⟩:=st
  exact⟨o,e,fun v z=>by rw[d]at z;cases z⟩
 keep:=fun i h h' st k=>st.at fun o e=>k it (by simp) o e
 item:=by
  intro X hP hw hK hc i pins s σ H E I hf st hg
  subst hP hw hK
  obtain⟨xs,x,hq,hx⟩:=hg
  obtain⟨its,rv,p,hz⟩:=I.tuple hq
  obtain⟨u,hu,ru⟩:=rv.get hx
  obtain⟨f0,f1,f2,f3,f4,f5⟩:=hf it (by simp)
  refine wpAny_pyNext_tuple_item st (show s.heap.IsTuple a its.toArray from p) (x:=u) (by simpa using hu) fun h' st' sb=>?_
  have I1:Inv X pins σ H { s with heap:=h' }:=I.turned (t':=s.toks) (fun b o hb e=>(sb.2 b hb).trans e) f0 f1 f3 f4 f5
  obtain⟨o,e,c,d⟩:=id st'
  exact⟨u,rfl,nQ (s:={ s with heap:=h' }) e c d (by decide) ⟨x,H,I1,ru,⟨rfl,fun ys hy=>by rw[I.tuple_inj hy hq];exact hx⟩,st',fun b hb=>(hf b hb).1⟩⟩
 done:=by
  intro X hP hw hK hc i pins s σ H E I hf st hg
  subst hP hw hK
  obtain⟨xs,hq,hx⟩:=hg
  obtain⟨its,rv,p,hz⟩:=I.tuple hq
  obtain⟨f0,f1,f2,f3,f4,f5⟩:=hf it (by simp)
  have hl:=rv.length
  exact wpAny_pyNext_tuple_end (I.ok.hd hc) st (show s.heap.IsTuple a its.toArray from p) (by simp;omega) fun h' eb=>⟨rfl,I.turned (t':=s.toks) (fun b o hb e=>eb b o hb e) f0 f1 f3 f4 f5⟩
 self:=fun _ _ _ _ _ st h=>wpAny_pyIter_tupleiter st h
theorem rS {P:Program} {w:World} {K:PySem.W.Frag} {tg:Expr} (it:Addr) (lo:Int) (n:Nat):gJ P w K tg (Itr lo n) [it] it (fun i h=>IsRangeIter h it (lo+(i:Nat)*1) ((n:Int)-(i:Nat)) 1) where
 mem:=by simp
 obj:=fun i h st b hb=>by
  have e:b=it:=by simpa using hb
  subst e
  exact⟨_,st,fun v z=>by
   have z':Data.fields _=Data.cell v:=z
   cases z'⟩
 keep:=fun i h h' st k=>k it (by simp) _ st
 item:=by
  intro X hP hw hK hc i pins s σ H E I hf st hg
  subst hP hw hK
  obtain⟨f0,f1,f2,f3,f4,f5⟩:=hf it (by simp)
  have W:=Walks.range (prog:=X.prog) (w:=X.w) (I.ok.hd hc) it lo 1 n
  refine W.item i s _ _ hg st fun v h' tk hv st' kk=>?_
  obtain⟨t,rfl⟩:=hv
  have I1:Inv X pins σ H { s with heap:=h',toks:=tk }:=I.turned (fun b o hb e=>kk b o (by simpa using hb) e) f0 f1 f3 f4 f5
  refine⟨_,rfl,nQ (s:={ s with heap:=h',toks:=tk }) (n:="range_iterator") st' rfl rfl (by decide) ⟨.int (lo+i),H,I1,⟨t,?_⟩,⟨rfl,rfl⟩,st',fun b hb=>(hf b hb).1⟩⟩
  rw[Int.mul_one]
 done:=by
  intro X hP hw hK hc i pins s σ H E I hf st hg
  subst hP hw hK
  obtain⟨f0,f1,f2,f3,f4,f5⟩:=hf it (by simp)
  exact wpAny_pyNext_range_end (I.ok.hd hc) st (by have:n<=i:=hg;omega) fun h' eb=>⟨rfl,I.turned (t':=s.toks) (fun b o hb e=>eb b o hb e) f0 f1 f3 f4 f5⟩
 self:=fun _ _ _ _ _ st h=>wpAny_pyIter_rangeiter st h
section
variable {X:Cx} {tg:Expr}
theorem xV {pins:List (Addr×Obj)} {σ:St} {H:Hp} {s:Shared} {R:It->Hp->Prop} {E:Value->Shared->Prop} {lo hi:Int} {t u v:Tok} {tk:Nat} (I:Inv X pins σ H s) (h1:-(2 ^ 62)<=lo) (h2:lo<2 ^ 62) (h3:-(2 ^ 62)<=hi) (h4:hi<2 ^ 62)
  (q:R (Itr lo (hi-lo).toNat) H):wpAny (model X.prog X.w) X.A (pyIter (.ref s.heap.objs.size)) (PIE X pins σ tg R) E { s with heap:=s.heap.push { cls:=.type "range",data:=.fields #[.int lo t,.int hi u,.int 1 v] },toks:=tk }:=by
 refine wpAny_pyIter_range (IsRange.new ..) (small_one h1 h2 h3 h4) ?_
 have I1:Inv X pins σ H { s with heap:=s.heap.push { cls:=.type "range",data:=.fields #[.int lo t,.int hi u,.int 1 v] },toks:=tk }:=I.kept fun b o e=>Heap.get?_push_of_some _ e
 refine⟨(s.heap.push { cls:=.type "range",data:=.fields #[.int lo t,.int hi u,.int 1 v] }).objs.size,[(s.heap.push { cls:=.type "range",data:=.fields #[.int lo t,.int hi u,.int 1 v] }).objs.size],_,_,H,rfl,
  I1.kept (t':=tk) fun b o e=>Heap.get?_push_of_some _ e,rS _ lo (hi-lo).toNat,?_,fun b hb=>?_,q⟩
 ·have e1:lo+((0:Nat):Int)*1=lo:=by simp
  have e2:(((hi-lo).toNat:Nat):Int)-((0:Nat):Int)=Builtin.Range.rangeSize lo hi 1:=by rw[rangeSize_one];split<;>omega
  show IsRangeIter _ _ (lo+((0:Nat):Int)*1) ((((hi-lo).toNat:Nat):Int)-((0:Nat):Int)) 1
  rw[e1,e2]
  exact Heap.get?_push_size _ rfl
 ·have e:b=(s.heap.push { cls:=.type "range",data:=.fields #[.int lo t,.int hi u,.int 1 v] }).objs.size:=by simpa using hb
  subst e
  exact I1.fpOk (Nat.le_refl _) (I1.hok.fresh (Nat.le_refl _))
def El (ta:TA):TI:=fun σ H R=>ta σ H fun vs H1=>∃ j:Int,vs=[.int j]/\-(2 ^ 62)<=j/\j<2 ^ 62/\R (Itr 0 j.toNat) H1
theorem uE {a:Expr} {ta:TA} {p pos:Pos} (hg:Gl X "range") (hm:X.mg "range"=none) (ha:PA X [a] ta) (hs:starEach [a] X.env=[(false,eval a X.env)]:=by rfl):PI X tg (.Call (.Name "range" p) [a] [] pos) (El ta):=by
 intro pins s σ H R I h
 refine Call_ (h7 I hg hm boot_range (PyProof.Rows.callWith_type1 (thn (ha pos pins s σ H _ I h) fun us s1 ⟨vs,H1,I1,r1,q1⟩=>?_) hs rfl))
 obtain⟨j,e,q1,q2,q⟩:=q1
 subst e
 cases r1 with
 |cons r rr =>
  cases rr
  obtain⟨t,rfl⟩:=r
  exact call_range_1 (xV I1 (by omega) (by omega) q1 q2 (by simpa using q))
/-! ### for -/
def Fm (wi:TI) (g:TG) (tb:TS):TS:=fun D σ H=>wi σ H fun J H1=>∃ W:Nat->Nat->St->Hp->Prop,(∃ m,W 0 m σ H1)/\∀ i m σ H,W i m σ H ->
 (J.stop i H/\D.nx σ H)∨(J.go i H/\∃ N:St->Hp->Prop,(∀ σ' H',N σ' H'->∃ m',m'<m/\W (i+1) m' σ' H')/\∀ x H',J.yld i H x H'->g x σ H' fun σ2 H2=>tb { D with nx:=N,ct:=N,bk:=D.nx } σ2 H2)
def eF (fp:List Addr) (h:Heap):List (Addr×Obj):=fp.filterMap fun b=>(h.get? b).map fun o=>(b,o)
theorem bo {fp:List Addr} {h:Heap} {b:Addr} {o:Obj} (hb:b∈fp) (e:h.get? b=some o):(b,o)∈eF fp h:=List.mem_filterMap.mpr ⟨b,hb,by rw[e];rfl⟩
theorem js {fp:List Addr} {h:Heap} {p:Addr×Obj} (hp:p∈eF fp h):p.1∈fp/\h.get? p.1=some p.2:=by
 obtain⟨b,hb,e⟩:=List.mem_filterMap.mp hp
 cases q:h.get? b with
 |none=>rw[q]at e;cases e
 |some o =>
  rw[q]at e
  have e':(b,o)=p:=Option.some.inj e
  subst e'
  exact⟨hb,q⟩
theorem Inv.pinned {pins:List (Addr×Obj)} {σ:St} {H:Hp} {s:Shared} {fp:List Addr} (I:Inv X pins σ H s) (hf:∀ b∈fp,cy X pins H b) (ho:∀ b∈fp,∃ o,s.heap.get? b=some o/\∀ v,o.data≠.cell v):Inv X (pins++eF fp s.heap) σ H s :=
 I.pins_of fun p hp=>(List.mem_append.mp hp).elim (fun z=>I.pin p (List.mem_append_right _ z)) fun z=>by
  obtain⟨hb,e⟩:=js z
  obtain⟨f0,f1,f2,_⟩:=hf p.1 hb
  obtain⟨o,e',d⟩:=ho p.1 hb
  rw[e]at e';cases e'
  exact⟨e,f0,f1,f2,d⟩
theorem Inv.unpinned {pins pl:List (Addr×Obj)} {σ:St} {H:Hp} {s:Shared} (I:Inv X (pins++pl) σ H s):Inv X pins σ H s:=I.pins_of fun p hp=>I.pin p (List.mem_append_right _ (List.mem_append_left _ hp))
theorem Cg {iter:Expr} {body:List Stmt} {wi:TI} {g:TG} {tb:TS} {pos:Pos} (hp:PassesOwn (model X.prog X.w) X.A X.env X.xe) (hc:X.calm=true) (hi:PI X tg iter wi) (hg:PG X tg g) (hb:PSs X body tb)
  (hs:∀ x,foldedSetIterable iter X.env x=pure x:=by intro _;rfl):PS X (.For tg iter body [] pos) (Fm wi g tb):=by
 intro pins s σ H D I h
 refine wpAny_For (thn (hi pins s σ H _ I h) fun v s1 h1=>thn h1 fun itv s2 h2=>?_) hs
 obtain⟨it,fp,tn,J,H2,e,I2,T,st2,f2,W,⟨m0,w0⟩,turn⟩:=h2
 subst e
 -- what stays true of the iterator's objects through the loop
 have stat:∀ {H':Hp},(∀ b∈fp,H' b=none)->∀ b∈fp,cy X pins H' b:=fun hn b hb=>⟨hn b hb,(f2 b hb).2⟩
 refine codeAny_forLoop_any (fun n s'=>∃ i σ' H',Inv X pins σ' H' s'/\tn i s'.heap/\(∀ b∈fp,H' b=none)/\W i n σ' H') ?_ m0 ⟨0,σ,H2,I2,st2,fun b hb=>(f2 b hb).1,w0⟩
 rintro n s3 ⟨i,σ3,H3,I3,st3,fr3,w3⟩
 rcases turn i n σ3 H3 w3 with⟨stop,qn⟩|⟨go,N,hN,step⟩
 ·refine wpAny_passesOwn hp (thn (T.done X rfl rfl rfl hc i pins s3 σ3 H3 X.xe I3 (stat fr3) st3 stop) fun r s4 ⟨hr,I4⟩=>?_)
  subst hr
  exact wpAny_execs_nil ⟨σ3,H3,I4,qn⟩
 ·refine wpAny_passesOwn hp (thn (T.item X rfl rfl rfl hc i pins s3 σ3 H3 X.xe I3 (stat fr3) st3 go) fun r s4 ⟨u,hr,h4⟩=>?_)
  subst hr
  refine wpAny_passesOwn hp (thn h4 fun _ s5 ⟨x,H5,I5,r5,y5,st5,fr5⟩=>?_)
  have I5':=I5.pinned (stat fr5) (T.obj _ _ st5)
  refine wpAny_passesOwn hp (thn (hg _ s5 σ3 H5 x u _ I5' r5 (step x H5 y5)) fun _ s6 ⟨σ6,H6,I6,q6⟩=>?_)
  refine wpAny_passesOwn hp (thn (hb _ s6 σ6 H6 _ I6 q6) fun f s7 q7=>?_)
  have again:∀ {σ7:St} {H7:Hp},Inv X (pins++eF fp s5.heap) σ7 H7 s7->N σ7 H7->∃ m,m<n/\∃ i σ' H',Inv X pins σ' H' s7/\tn i s7.heap/\(∀ b∈fp,H' b=none)/\W i m σ' H':=fun {σ7 H7} I7 n7=>by
   obtain⟨m',hm,w7⟩:=hN σ7 H7 n7
   refine⟨m',hm,i+1,σ7,H7,I7.unpinned,T.keep _ _ _ st5 fun b hb o e=>(I7.pin (b,o) (List.mem_append_right _ (List.mem_append_right _ (bo hb e)))).1,fun b hb=>?_,w7⟩
   obtain⟨o,e,d⟩:=T.obj _ _ st5 b hb
   exact(I7.pin (b,o) (List.mem_append_right _ (List.mem_append_right _ (bo hb e)))).2.1
  cases f with
  |next=>obtain⟨σ7,H7,I7,n7⟩:=q7;exact again I7 n7
  |cont=>obtain⟨σ7,H7,I7,n7⟩:=q7;exact again I7 n7
  |brk=>obtain⟨σ7,H7,I7,q7⟩:=q7;exact⟨σ7,H7,I7.unpinned,q7⟩
  |ret v=>obtain⟨x7,σ7,H7,I7,r7,q7⟩:=q7;exact⟨x7,σ7,H7,I7.unpinned,r7,q7⟩
end
/-! ### the forms one uses -/
abbrev R2:=V->V->Hp->VK->Prop
def OpR (X:Cx) (f:Value->Value->Sem Value) (r:R2):Prop :=
 ∀ (pins:List (Addr×Obj)) (s:Shared) (σ:St) (H:Hp) (x y:V) (v u:Value) (Q:VK),Inv X pins σ H s->ap x v->ap y u->r x y H Q ->
  wpAny (model X.prog X.w) X.A (f v u) (EP X pins σ Q) X.xe s
def cS (X:Cx) (f:Value) (r:List V->Hp->VK->Prop):Prop :=
 ∀ (pins:List (Addr×Obj)) (s:Shared) (σ:St) (H:Hp) (xs:List V) (us:List Value) (Q:VK),Inv X pins σ H s->aq xs us->r xs H Q ->
  wpAny (model X.prog X.w) X.A (call f us) (EP X pins σ Q) X.xe s
def tOp (r:R2) (ta tb:TE):TE:=fun σ H Q=>ta σ H fun x H1=>tb σ H1 fun y H2=>r x y H2 Q
def rI (C:Int->Int->Prop) (g:Int->Int->V):R2:=fun x y H Q=>∃ i j,x=.int i/\y=.int j/\C i j/\Q (g i j) H
def rI0 (g:Int->Int->V):R2:=fun x y H Q=>∃ i j,x=.int i/\y=.int j/\Q (g i j) H
section
variable {X:Cx} {a b c:Expr} {ta tb tc:TE} {pos:Pos}
theorem AN (ha:PE X a ta) (hb:PE X b tb) {pins:List (Addr×Obj)} {s:Shared} {σ:St} {H:Hp} {R:V->V->Hp->Prop} (I:Inv X pins σ H s)
  (h:ta σ H fun x H1=>tb σ H1 fun y H2=>R x y H2) {Q:Value->Shared->Prop} {f:Value->Value->Sem Value}
  (hf:∀ v u s2 x y H2,Inv X pins σ H2 s2->ap x v->ap y u->R x y H2->wpAny (model X.prog X.w) X.A (f v u) Q X.xe s2) :
  wpAny (model X.prog X.w) X.A (eval a X.env) (fun v s₁=>wpAny (model X.prog X.w) X.A (eval b X.env) (fun u s₂=>wpAny (model X.prog X.w) X.A (f v u) Q X.xe s₂) X.xe s₁) X.xe s:=by
 refine thn (ha pins s σ H _ I h) fun v s1 ⟨x,H1,I1,r1,q1⟩=>?_
 refine thn (hb pins s1 σ H1 _ I1 q1) fun u s2 ⟨y,H2,I2,r2,q2⟩=>?_
 exact hf v u s2 x y H2 I2 r1 r2 q2
theorem EG {op:Operator} {r:R2} (ho:OpR X (binaryOp op) r) (ha:PE X a ta) (hb:PE X b tb):PE X (.BinOp a op b pos) (tOp r ta tb):=by
 intro pins s σ H Q I h
 exact wpAny_BinOp (AN ha hb I h fun v u s2 x y H2 I2 rx ry q=>ho pins s2 σ H2 x y v u Q I2 rx ry q)
/-! ### ints -/
theorem opI {f:Value->Value->Sem Value} {C:Int->Int->Prop} {g:Int->Int->Int}
  (rule:∀ (i j:Int) (t u:Tok) (s:Shared) (Q:Value->Shared->Prop) (E:Value->Shared->Prop),C i j->Q (.int (g i j) s.toks) { s with toks:=s.toks+1 }->wpAny (model X.prog X.w) X.A (f (.int i t) (.int j u)) Q E s) :
  OpR X f (rI C fun i j=>.int (g i j)):=by
 intro pins s σ H x y v u Q I rx ry h
 obtain⟨i,j,rfl,rfl,hc,q⟩:=h
 obtain⟨t,rfl⟩:=rx
 obtain⟨t',rfl⟩:=ry
 exact rule i j t t' s _ _ hc ⟨.int (g i j),H,I.tok _,⟨_,rfl⟩,q⟩
theorem Dw {f:Value->Value->Sem Value} {g:Int->Int->Int}
  (rule:∀ (i j:Int) (t u:Tok) (s:Shared) (Q:Value->Shared->Prop) (E:Value->Shared->Prop),Q (.int (g i j) s.toks) { s with toks:=s.toks+1 }->wpAny (model X.prog X.w) X.A (f (.int i t) (.int j u)) Q E s) :
  OpR X f (rI0 fun i j=>.int (g i j)):=by
 intro pins s σ H x y v u Q I rx ry h
 obtain⟨i,j,rfl,rfl,q⟩:=h
 obtain⟨t,rfl⟩:=rx
 obtain⟨t',rfl⟩:=ry
 exact rule i j t t' s _ _ ⟨.int (g i j),H,I.tok _,⟨_,rfl⟩,q⟩
theorem yK {f:Value->Value->Sem Value} {g:Int->Int->Bool}
  (rule:∀ (i j:Int) (t u:Tok) (s:Shared) (Q:Value->Shared->Prop) (E:Value->Shared->Prop),Q (.bool (g i j)) s->wpAny (model X.prog X.w) X.A (f (.int i t) (.int j u)) Q E s) :
  OpR X f (rI0 fun i j=>.bl (g i j)):=by
 intro pins s σ H x y v u Q I rx ry h
 obtain⟨i,j,rfl,rfl,q⟩:=h
 obtain⟨t,rfl⟩:=rx
 obtain⟨t',rfl⟩:=ry
 exact rule i j t t' s _ _ ⟨.bl (g i j),H,I,rfl,q⟩
def oz (i j:Int):Prop:=0<j/\j<1073741824
def qB (i j:Int):Prop:=0<=j/\j<=1000000/\i.natAbs<2 ^ 64
def jA (i j:Int):Prop:=(-(2 ^ 64)<i/\i<2 ^ 64)∨(-(2 ^ 64)<j/\j<2 ^ 64)
theorem jA.ok {i j:Int} (h:jA i j):IntMulOk i j:=by
 rcases h with⟨h1,h2⟩|⟨h1,h2⟩
 ·exact .of_left (intBits_le_64 h1 h2)
 ·exact .of_right (intBits_le_64 h1 h2)
theorem Bs:OpR X (binaryOp .Add) (rI0 fun i j=>.int (i+j)):=Dw fun _ _ _ _ _ _ _ q=>add_int q
theorem Ch:OpR X (binaryOp .Sub) (rI0 fun i j=>.int (i-j)):=Dw fun _ _ _ _ _ _ _ q=>sub_int q
theorem AF:OpR X (binaryOp .Mult) (rI jA fun i j=>.int (i*j)):=opI fun _ _ _ _ _ _ _ hc q=>mul_int q hc.ok
theorem yV:OpR X (binaryOp .FloorDiv) (rI oz fun i j=>.int (i / j)):=opI fun i j _ _ _ _ _ hc q=>by
 have h1:(0:Int)<j:=hc.1
 have h2:j<1073741824:=hc.2
 exact floordiv_int (by omega) (by rw[Int.fdiv_eq_ediv_of_nonneg i (by omega)];exact q) (.inl (PyProof.noPylong_small (by omega)))
theorem Cq:OpR X (binaryOp .Mod) (rI (fun _ j=>0<j) fun i j=>.int (i % j)):=opI fun i j _ _ _ _ _ hc q=>by
 have h1:(0:Int)<j:=hc
 exact mod_int' (by omega) (by rw[Int.fmod_eq_emod_of_nonneg i (by omega)];exact q)
theorem AH:OpR X (binaryOp .Pow) (rI qB fun i j=>.int (i ^ j.toNat)):=opI fun _ _ _ _ _ _ _ hc q=>pow_int_small hc.1 hc.2.1 hc.2.2 q
/-! ### bools among ints: n += (a<b) -/
end
/-! ### comparisons -/
section
variable {X:Cx} {a b c:Expr} {ta tb tc:TE} {pos:Pos}
theorem n6 {pins:List (Addr×Obj)} {σ:St} {H:Hp} {s:Shared} {Q:VK} {k k':Bool} (I:Inv X pins σ H s) (q:Q (.bl k) H) (e:k=k'):EP X pins σ Q (.bool k') s:=by
 subst e
 exact⟨.bl k,H,I,rfl,q⟩
theorem DJ:OpR X (compareOp .Lt) (rI0 fun i j=>.bl (decide (i<j))):=yK fun _ _ _ _ _ _ _ q=>lt_int q
theorem DB:OpR X (compareOp .LtE) (rI0 fun i j=>.bl (decide (i<=j))):=yK fun _ _ _ _ _ _ _ q=>le_int q
theorem DU:OpR X (compareOp .Gt) (rI0 fun i j=>.bl (decide (j<i))):=yK fun _ _ _ _ _ _ _ q=>gt_int q
theorem Dm:OpR X (compareOp .GtE) (rI0 fun i j=>.bl (decide (j<=i))):=yK fun _ _ _ _ _ _ _ q=>ge_int q
theorem uM:OpR X (compareOp .In) (fun x y H Q=>∃ i j,x=.str i/\y=.str j/\Q (.bl (!(Builtin.Str.occurrences j i 0 j.length 1).isEmpty)) H):=by
 intro pins s σ H x y v u Q I rx ry h
 obtain⟨i,j,rfl,rfl,q⟩:=h
 obtain⟨t,rfl⟩:=rx
 obtain⟨t',rfl⟩:=ry
 exact in_str (n6 I q rfl)
theorem BI:OpR X (compareOp .Is) (fun x y H Q=>y=.non/\Q (.bl (decide (x=.non))) H):=by
 intro pins s σ H x y v u Q I rx ry h
 obtain⟨rfl,q⟩:=h
 cases ry
 refine is_none_gen (n6 I q ?_)
 cases x<;>first
  |(cases rx;rfl)
  |(obtain⟨t,rfl⟩:=rx;rfl)
theorem yM:OpR X (compareOp .IsNot) (fun x y H Q=>y=.non/\Q (.bl (!decide (x=.non))) H):=by
 intro pins s σ H x y v u Q I rx ry h
 obtain⟨rfl,q⟩:=h
 cases ry
 refine isnot_none_gen (n6 I q ?_)
 cases x<;>first
  |(cases rx;rfl)
  |(obtain⟨t,rfl⟩:=rx;rfl)
theorem oC:OpR X (compareOp .NotIn) (fun x y H Q=>∃ i j,x=.str i/\y=.str j/\Q (.bl (!(!(Builtin.Str.occurrences j i 0 j.length 1).isEmpty))) H):=by
 intro pins s σ H x y v u Q I rx ry h
 obtain⟨i,j,rfl,rfl,q⟩:=h
 obtain⟨t,rfl⟩:=rx
 obtain⟨t',rfl⟩:=ry
 exact notIn_str (n6 I q rfl)
theorem OpR.or {f:Value->Value->Sem Value} {r r':R2} (h:OpR X f r) (h':OpR X f r'):OpR X f (fun x y H Q=>r x y H Q∨r' x y H Q):=by
 intro pins s σ H x y v u Q I rx ry q
 rcases q with q|q
 ·exact h pins s σ H x y v u Q I rx ry q
 ·exact h' pins s σ H x y v u Q I rx ry q
theorem xY {op:CmpOp} {r:R2} (ho:OpR X (compareOp op) r) (ha:PE X a ta) (hb:PE X b tb) (hm:behindInMarks op b=false):PE X (.Compare a [op] [b] pos) (tOp r ta tb):=by
 intro pins s σ H Q I h
 exact wpAny_Compare1 (AN ha hb I h fun v u s2 x y H2 I2 rx ry q=>ho pins s2 σ H2 x y v u Q I2 rx ry q) hm
def Ak (t:TE):TT:=fun σ H Q=>t σ H fun x H'=>∃ k,x=.bl k/\Q k H'
theorem yu {op:CmpOp} {r:R2} (ho:OpR X (compareOp op) r) (ha:PE X a ta) (hb:PE X b tb) (hm:behindInMarks op b=false):PT X (.Compare a [op] [b] pos) (Ak (tOp r ta tb)):=by
 intro pins s σ H Q I h
 refine wpAny_isTrue_Compare1 (thn (ha pins s σ H _ I h) fun v s1 ⟨x,H1,I1,r1,q1⟩=>thn (hb pins s1 σ H1 _ I1 q1) fun u s2 ⟨y,H2,I2,r2,q2⟩ =>
  thn (ho pins s2 σ H2 x y v u _ I2 r1 r2 q2) fun c s3 ⟨z,H3,I3,r3,k,e,q3⟩=>?_) hm
 subst e
 cases r3
 exact wpAny_truthy_bool ⟨H3,I3,q3⟩
def CB (r r':R2) (ta tb tc:TE):TE:=fun σ H Q=>ta σ H fun x H1=>tb σ H1 fun y H2=>r x y H2 fun z H3=>∃ k,z=.bl k /\
 (if k=true then tc σ H3 fun w' H4=>r' y w' H4 Q else Q (.bl false) H3)
theorem xQ {op op':CmpOp} {r r':R2} (ho:OpR X (compareOp op) r) (ho':OpR X (compareOp op') r') (ha:PE X a ta) (hb:PE X b tb) (hc:PE X c tc)
  (hm:lastMarks [op,op'] [b,c]=false:=by with_unfolding_all rfl):PE X (.Compare a [op,op'] [b,c] pos) (CB r r' ta tb tc):=by
 intro pins s σ H Q I h
 refine Compare_chain (thn (ha pins s σ H _ I h) fun v s1 ⟨x,H1,I1,r1,q1⟩=>chain_link (thn (hb pins s1 σ H1 _ I1 q1) fun u s2 ⟨y,H2,I2,r2,q2⟩ =>
  thn (ho pins s2 σ H2 x y v u _ I2 r1 r2 q2) fun d s3 ⟨z,H3,I3,r3,k,e,q3⟩=>?_)) hm
 subst e
 cases r3
 refine wpAny_truthy_bool ?_
 cases k with
 |false=>exact ite_ff ⟨.bl false,H3,I3,rfl,q3⟩
 |true=>exact ite_tt (chain_last (thn (hc pins s3 σ H3 _ I3 q3) fun w' s4 ⟨z',H4,I4,r4,q4⟩=>ho' pins s4 σ H4 y z' u w' Q I4 r2 r4 q4))
/-! ### truth -/
theorem jE:(sizeLine:Nat)<2 ^ 63:=by rw[sizeLine_eq];decide
/-! ### strs and bytes -/
theorem qV:OpR X (binaryOp .Add) (fun x y H Q=>∃ i j,x=.str i/\y=.str j/\i.length+j.length<=sizeLine/\Q (.str (i++j)) H):=by
 intro pins s σ H x y v u Q I rx ry h
 obtain⟨i,j,rfl,rfl,hz,q⟩:=h
 obtain⟨t,rfl⟩:=rx
 obtain⟨t',rfl⟩:=ry
 exact add_str (fun t' tk=>⟨.str (i++j),H,I.tok _,⟨_,rfl⟩,q⟩) hz
/-! ### scalar builtins,by cS -/
theorem kP {x:V} {us:List Value} (r:aq [x] us):∃ u,us=[u]/\ap x u:=by
 cases r with
 |cons r1 r2=>cases r2;exact⟨_,rfl,r1⟩
theorem wE:cS X (.builtin "abs") (fun xs H Q=>∃ i,xs=[.int i]/\Q (.int (if i<0 then -i else i)) H):=by
 intro pins s σ H xs us Q I r h
 obtain⟨i,rfl,q⟩:=h
 obtain⟨u,rfl,t,rfl⟩:=kP r
 exact call_abs_int fun u tk=>⟨.int (if i<0 then -i else i),H,I.tok _,⟨_,rfl⟩,q⟩
theorem u4:cS X (.type "int") (fun xs H Q=>(∃ i,xs=[.int i]/\Q (.int i) H)∨∃ k,xs=[.bl k]/\Q (.int (if k then 1 else 0)) H):=by
 intro pins s σ H xs us Q I r h
 rcases h with⟨i,rfl,q⟩|⟨k,rfl,q⟩
 ·obtain⟨u,rfl,t,rfl⟩:=kP r
  exact call_int_int ⟨.int i,H,I,⟨_,rfl⟩,q⟩
 ·obtain⟨u,rfl,r1⟩:=kP r
  cases r1
  exact call_int_bool ⟨.int (if k then 1 else 0),H,I.tok _,⟨_,rfl⟩,q⟩
end
/-! ### an instance,its attributes a map -/
structure ud (h:Heap) (x dx C:Addr) (mA:Str->Option Value):Prop where
 obj:h.get? x=some (PySem.W.instObj C dx)
 ns:h.Ns1 dx mA
 ne:dx≠x
theorem uV {h:Heap} {dx:Addr} {mA:Str->Option Value} (n:h.Ns1 dx mA):∃ od,h.get? dx=some od/\∀ name,PySem.W.lookIn name od=some (mA name):=by
 obtain⟨o,es,ep,ho,hd,hk,_,hm⟩:=n
 refine⟨o,ho,fun name=>?_⟩
 have e:=hm name
 unfold nsFind findBy at e
 rw[<-Array.find?_toList]at e
 unfold PySem.W.lookIn
 rw[hd]
 dsimp only
 split
 ·rename_i y q
  rw[q]at e
  exact congrArg some e
 ·rename_i q
  rw[q]at e
  have a:es.toList.any (·.refKey)=false:=by
   rw[List.any_eq_false]
   intro y hy
   obtain⟨z,t,hkey⟩:=hk y (Array.mem_toList_iff.mp hy)
   simp[DictEntry.refKey,hkey]
  have a':¬ es.toList.any (·.refKey)=true:=by rw[a];exact Bool.false_ne_true
  rw[if_neg a']
  exact congrArg some e
theorem ud.look {h:Heap} {x dx C:Addr} {mA:Str->Option Value} (I:ud h x dx C mA):∃ od,PySem.W.InstAt h x (PySem.W.instObj C dx) C (some od)/\∀ name,PySem.W.lookIn name od=some (mA name) :=
 let⟨od,ho,hl⟩:=uV I.ns
 ⟨od,⟨I.obj,rfl,rfl,ho⟩,hl⟩
section
variable {prog:Program} {w:World} {A:Around} {E:Value->Shared->Prop} {s:Shared} {K:PySem.W.Frag} {x dx C f:Addr} {mA:Str->Option Value} {name:Str} {v:Value}
theorem zQ {expr:Bool} {Q:Value->Shared->Prop} (X:K.In s.heap) (I:ud s.heap x dx C mA) (hg:PySem.W.plainGet K C name=true) (hh:PySem.W.hasDictIn K C=true)
  (ha:PySem.W.findIn K (.ref C) name=some none) (hv:mA name=some v) (hv':PySem.W.handedIn v=true) (h:Q v { s with toks:=s.toks+1 }) :
  wpAny (model prog w) A (getAttr (.ref x) name expr) Q E s:=by
 obtain⟨od,J,hl⟩:=I.look
 exact PySem.W.get_value X J (PySem.W.plainGet_of hg).1 (PySem.W.findObj_own hh ha rfl (by rw[hl,hv])) hv' h
theorem zH {ns:List Str} {Q:Unit->Shared->Prop} (X:K.In s.heap) (I:ud s.heap x dx C mA)
  (hs:PySem.W.findIn K (.ref C) "__setattr__"=some (some (.builtin "object.__setattr__"))) (hp:PySem.W.plainOver K C=true) (ht:PySem.W.takerIn K C name=some none) (hh:PySem.W.hasDictIn K C=true)
  (hw:PySem.Within mA ns) (hsz:ns.length<=sizeLine)
  (h:∀ h',ud h' x dx C (fun y=>if y=name then some v else mA y)->Heap.SameBut dx s.heap h'->Q () { s with heap:=h',toks:=s.toks+2 }) :
  wpAny (model prog w) A (setAttr (.ref x) name v) Q E s:=by
 obtain⟨od,J,hl⟩:=I.look
 refine PySem.W.set_plain X J hs (PySem.W.osa_open (s:={ s with toks:=s.toks+1 }) (r:=none) X J hp ht fun b=>?_)
 obtain⟨cd,hc,hd'⟩:=PySem.W.any_some hh
 have hx:s.heap.get? x=some ⟨.ref C,some dx,.plain,#[]⟩:=I.obj
 refine wpAny_bind (wpAny_pure (wpAny_bind (wpAny_bind (wpAny_loadPart hx (wpAny_bind (PySem.W.Looks.here (s:={ s with toks:=s.toks+1 }) (PySem.W.looks_clsIn X hc) ?_))))))
 rw[hd']
 refine wpAny_pure (a:=some dx) (wpAny_bind (wpAny_pure (wpAny_bind ?_)))
 refine wpAny_nsSet1 (s:={ s with toks:=s.toks+1 }) I.ns fun h' hn2 hs2=>?_
 obtain⟨oD,esD,epD,hoD,hdD,hcD⟩:=hn2.count (PySem.Within.cons name v hw)
 refine wpAny_bind (wpAny_lookBehind hoD (by rw[hdD];exact pastItsLine_dict (Nat.le_trans hcD (by rw[List.length_cons];omega))) ?_)
 exact wpAny_pure (h _ ⟨(hs2.2 _ (Ne.symm I.ne)).trans I.obj,hn2,I.ne⟩ hs2)
theorem vG {R:Result->Shared->Prop} {vs:List Value} {kw:List (Str×Value)} (X:K.In s.heap) (hm:PySem.W.makesIn K C=true)
  (hi:PySem.W.findIn K (.ref C) "__init__"=some (some (.ref f))) (hf:PySem.W.typeIn K (.ref f)=some (.type "function"))
  (h:codeAny (model prog w) (A.under (.builtin "type.__call__" ⟨.ref C :: vs,kw⟩)) (.call (.ref f) ⟨.ref (s.heap.objs.size + 1) :: vs,kw⟩) (PySem.W.InitBack (s.heap.objs.size + 1) R)
   { s with heap:=(s.heap.push PySem.W.emptyDict).push (PySem.W.instObj C s.heap.objs.size) }) :
  codeAny (model prog w) A (.call (.ref C) ⟨vs,kw⟩) R s:=by
 obtain⟨hh,g,d,t,os⟩:=s
 exact PySem.W.make_core (PySem.W.makes_of X hm) (PySem.W.looks_findIn X hi) (fun self=>PySem.W.bind_fn X self hf) (.inl rfl) h
end
/-! ### the attributes as a list of pairs -/
def putF (f:Str) (v:V):List (Str×V)->List (Str×V)
 |[]=>[(f,v)]
 |(g,x)::r=>if g=f then(g,v)::r else(g,x)::putF f v r
theorem jM (f g:Str) (v:V):∀ fs:List (Str×V),(putF f v fs).lookup g=if g=f then some v else fs.lookup g
 |[]=>by
  show List.lookup g [(f,v)]=_
  by_cases h:g=f
  ·have hb:(g==f)=true:=beq_iff_eq.mpr h
   simp only[List.lookup,hb,if_pos h]
  ·have hb:(g==f)=false:=beq_eq_false_iff_ne.mpr h
   simp only[List.lookup,hb,if_neg h]
 |(k,x)::r=>by
  have ih:=jM f g v r
  rw[show putF f v ((k,x)::r)=(if k=f then(k,v)::r else(k,x)::putF f v r)from rfl]
  by_cases hk:k=f
  ·rw[if_pos hk]
   by_cases h:g=k
   ·have hb:(g==k)=true:=beq_iff_eq.mpr h
    simp only[List.lookup,hb,if_pos (h.trans hk)]
   ·have hb:(g==k)=false:=beq_eq_false_iff_ne.mpr h
    simp only[List.lookup,hb,if_neg (fun e:g=f=>h (e.trans hk.symm))]
  ·rw[if_neg hk]
   by_cases h:g=k
   ·have hb:(g==k)=true:=beq_iff_eq.mpr h
    simp only[List.lookup,hb,if_neg (fun e:g=f=>hk (h.symm.trans e))]
   ·have hb:(g==k)=false:=beq_eq_false_iff_ne.mpr h
    simp only[List.lookup,hb]
    exact ih
theorem jt (f:Str) (v:V):∀ fs:List (Str×V),f∈(putF f v fs).map (·.1)/\∀ g,g∈fs.map (·.1)->g∈(putF f v fs).map (·.1)
 |[]=>⟨by simp[putF],fun g h=>by simp at h⟩
 |(k,x)::r=>by
  obtain⟨i1,i2⟩:=jt f v r
  rw[show putF f v ((k,x)::r)=(if k=f then(k,v)::r else(k,x)::putF f v r)from rfl]
  by_cases hk:k=f
  ·rw[if_pos hk]
   subst hk
   exact⟨by simp,fun g h=>by simpa using h⟩
  ·rw[if_neg hk]
   refine⟨?_,fun g h=>?_⟩
   ·rw[List.map_cons]
    exact List.mem_cons_of_mem _ i1
   ·rw[List.map_cons]at h ⊢
    rcases List.mem_cons.mp h with e|e
    ·exact List.mem_cons.mpr (.inl e)
    ·exact List.mem_cons_of_mem _ (i2 g e)
theorem jK (f:Str) (v:V):∀ fs:List (Str×V),(putF f v fs).length<=fs.length+1
 |[]=>by simp[putF]
 |(k,x)::r=>by
  have ih:=jK f v r
  rw[show putF f v ((k,x)::r)=(if k=f then(k,v)::r else(k,x)::putF f v r)from rfl]
  by_cases hk:k=f
  ·rw[if_pos hk,List.length_cons,List.length_cons];omega
  ·rw[if_neg hk,List.length_cons,List.length_cons];omega
theorem gF.some_of {v:V} {o:Option Value} (r:gF (some v) o):∃ u,o=some u/\ap v u:=by
 cases o with
 |none=>exact(show False from r).elim
 |some u=>exact⟨u,rfl,r⟩
theorem uQ {v:V} {u:Value} (r:ap v u):PySem.W.handedIn u=true:=by
 cases v with
 |non=>cases(show u=Value.none from r);rfl
 |bl b=>cases(show u=Value.bool b from r);rfl
 |int i=>obtain⟨t,e⟩:=(show ∃ t,u=Value.int i t from r);cases e;rfl
 |str x=>obtain⟨t,e⟩:=(show ∃ t,u=Value.str x t from r);cases e;rfl
 |byt b=>obtain⟨t,e⟩:=(show ∃ t,u=Value.bytes b t from r);cases e;rfl
 |flt b=>obtain⟨t,e⟩:=(show ∃ t,u=Value.float b t from r);cases e;rfl
 |ref a=>cases(show u=Value.ref a from r);rfl
 |ty n=>cases(show u=Value.type n from r);rfl
section
variable {P:Program} {w:World} {H H':Hp} {h h':Heap} {a C dx:Addr} {fs fs':List (Str×V)}
theorem tI (hok:HOk P w H h) (e:H a=some (.ins C dx fs)):∃ mA,ud h a dx C mA/\(∀ f,gF (fs.lookup f) (mA f))/\PySem.Within mA (fs.map (·.1))/\fs.length<=1000/\H dx=some (.own a):=by
 obtain⟨d,z,ne,ob,mA,n,r,q⟩:=(show bL P w H h a (.ins C dx fs)from hok a _ e)
 exact⟨mA,⟨ob,n,ne⟩,r,q,z,d⟩
end
/-! ### what of the text a class must have -/
structure Cls (K:PySem.W.Frag) (C:Addr):Prop where
 pg:PySem.W.plainGet K C Str.empty=true
 hd:PySem.W.hasDictIn K C=true
 po:PySem.W.plainOver K C=true
 sa:PySem.W.findIn K (.ref C) "__setattr__"=some (some (.builtin "object.__setattr__"))
theorem Cls.get {K:PySem.W.Frag} {C:Addr} (c:Cls K C) (f:Str):PySem.W.plainGet K C f=true:=c.pg
def ck (K:PySem.W.Frag) (C:Addr) (f:Str):Prop:=PySem.W.findIn K (.ref C) f=some none
theorem ck.taker {K:PySem.W.Frag} {C:Addr} {f:Str} (n:ck K C f):PySem.W.takerIn K C f=some none:=by
 unfold PySem.W.takerIn
 rw[show PySem.W.findIn K (.ref C) f=some none from n]
 rfl
structure Con (K:PySem.W.Frag) (C:Addr) (f:Str) (v:V) (u:Value):Prop where
 at_:PySem.W.findIn K (.ref C) f=some (some u)
 rel:ap v u
 get:PySem.W.specialIn K u "__get__"=some none
 cp:PySem.W.copiedNames.contains f=false
structure FW (K:PySem.W.Frag) (C:Addr) (m:Str) (f:Addr):Prop where
 at_:PySem.W.findIn K (.ref C) m=some (some (.ref f))
 fn:PySem.W.isFn K (.ref f)=true
 kp:PySem.W.keepIn K (.ref f)=true
section
variable {X:Cx} {pins:List (Addr×Obj)} {σ:St} {H:Hp} {s:Shared} {a C dx:Addr} {fs:List (Str×V)} {f:Str} {v:V} {A:Around} {E:Value->Shared->Prop}
theorem rC {b:Bool} {Q:Value->Shared->Prop} (I:Inv X pins σ H s) (e:H a=some (.ins C dx fs)) (c:Cls X.K C) (n:ck X.K C f) (l:fs.lookup f=some v)
  (h:∀ u s',Inv X pins σ H s'->ap v u->Q u s'):wpAny (model X.prog X.w) A (getAttr (.ref a) f b) Q E s:=by
 obtain⟨mA,O,r,_,_,_⟩:=tI I.hok e
 obtain⟨u,hu,ru⟩:=gF.some_of (v:=v) (o:=mA f) (by rw[<-l];exact r f)
 exact zQ I.kIn O (c.get f) c.hd n hu (uQ ru) (h u _ (I.tok _) ru)
theorem rO {y:V} {u:Value} {Q:Unit->Shared->Prop} (I:Inv X pins σ H s) (e:H a=some (.ins C dx fs)) (c:Cls X.K C) (n:ck X.K C f) (hl:fs.length<1000) (ry:ap y u)
  (h:∀ s',Inv X pins σ (upd H a (.ins C dx (putF f y fs))) s'->Q () s'):wpAny (model X.prog X.w) A (setAttr (.ref a) f u) Q E s:=by
 obtain⟨mA,O,r,wi,_,ho⟩:=tI I.hok e
 have hz:(fs.map (·.1)).length<=sizeLine:=by rw[List.length_map,sizeLine_eq];omega
 refine zH I.kIn O c.sa c.po n.taker c.hd wi hz fun h' O' sb=>h _ ?_
 have hd:∃ o,h'.get? dx=some o:=let⟨o,_,_,e',_⟩:=O'.ns;⟨o,e'⟩
 refine I.write (x:=a) (e:=dx) (by rw[e];exact True.intro) (.inr ho) (fun b q hb z=>(sb.2 b hb).trans z) hd ?_
 refine⟨by rw[aA O.ne];exact ho,?_,O.ne,O'.obj,_,O'.ns,fun g=>?_,fun g hg=>?_⟩
 ·have:=jK f y fs;omega
 ·show gF ((putF f y fs).lookup g) (if g=f then some u else mA g)
  rw[jM]
  by_cases q:g=f
  ·rw[if_pos q,if_pos q];exact ry
  ·rw[if_neg q,if_neg q];exact r g
 ·by_cases q:g=f
  ·rw[q];exact(jt f y fs).1
  ·refine(jt f y fs).2 g (wi g fun z=>hg ?_)
   show(if g=f then some u else mA g)=none
   rw[if_neg q];exact z
theorem Inv.made (I:Inv X pins σ H s):Inv X pins σ (upd (upd H s.heap.objs.size (.own (s.heap.objs.size+1))) (s.heap.objs.size+1) (.ins C s.heap.objs.size []))
  { s with heap:=(s.heap.push PySem.W.emptyDict).push (PySem.W.instObj C s.heap.objs.size) }:=by
 have e1:(s.heap.push PySem.W.emptyDict).get? s.heap.objs.size=some PySem.W.emptyDict:=Heap.get?_push_size s.heap rfl
 have e2:((s.heap.push PySem.W.emptyDict).push (PySem.W.instObj C s.heap.objs.size)).get? (s.heap.objs.size+1)=some (PySem.W.instObj C s.heap.objs.size):=by
  have:=Heap.get?_push_size (s.heap.push PySem.W.emptyDict) (o:=PySem.W.instObj C s.heap.objs.size) rfl
  rwa [Heap.size_push]at this
 have e3:(s.heap.push PySem.W.emptyDict).Ns s.heap.objs.size (fun _=>none):=⟨PySem.W.emptyDict,#[],_,e1,rfl,(fun e he=>absurd he (by simp)),fun _=>rfl⟩
 have I1:=I.laid (a:=s.heap.objs.size) (o:=.own (s.heap.objs.size+1)) (h':=s.heap.push PySem.W.emptyDict) (t':=s.toks) (fun b u q=>Heap.get?_push_of_some _ q) (Nat.le_refl _) ⟨_,e1⟩
 refine I1.laid (a:=s.heap.objs.size+1) (o:=.ins C s.heap.objs.size []) (t':=s.toks) (fun b u q=>Heap.get?_push_of_some _ q) (Nat.le_of_eq (Heap.size_push _ _)) ?_
 have ne:s.heap.objs.size≠s.heap.objs.size+1:=Nat.ne_of_lt (Nat.lt_succ_self _)
 refine⟨by rw[aA ne,ax],Nat.zero_le _,ne,e2,fun _=>none,(Heap.Ns1.of_empty e3).at fun o q=>Heap.get?_push_of_some _ q,fun _=>True.intro,fun y hy=>absurd rfl hy⟩
theorem yZ {prog:Program} {w:World} {env:Env} {e:Expr} {f:Str} {pos:Pos} {s:Shared} {Q:Value->Shared->Prop} (hb:attributeBase e f env (eval e env)=eval e env)
  (h:wpAny (model prog w) A (eval e env) (fun o s₁=>wpAny (model prog w) A (getAttr o f true) Q E s₁) E s):wpAny (model prog w) A (eval (.Attribute e f pos) env) Q E s :=
 Attribute_any_ h (by rw[arm_eval_Attribute,hb])
end
/-! ### readings and rules -/
def FG (K:PySem.W.Frag) (ta:TE) (f:Str):TE:=fun σ H Q=>ta σ H fun x H1=>∃ a C dx fs v,x=.ref a/\H1 a=some (.ins C dx fs)/\Cls K C/\ck K C f/\fs.lookup f=some v/\Q v H1
def Fo (K:PySem.W.Frag) (ta tv:TE) (f:Str):TS:=fun D σ H=>tv σ H fun y H1=>ta σ H1 fun x H2=>∃ a C dx fs,x=.ref a/\H2 a=some (.ins C dx fs)/\Cls K C/\ck K C f/\fs.length<1000 /\
 D.nx σ (upd H2 a (.ins C dx (putF f y fs)))
section
variable {X:Cx} {o e value:Expr} {f:Str} {pos pos' tpos:Pos} {ta tv:TE}
theorem Ba (he:PE X e ta) (hb:attributeBase e f X.env (eval e X.env)=eval e X.env):PE X (.Attribute e f pos) (FG X.K ta f):=by
 intro pins s σ H Q I h
 refine yZ hb (thn (he pins s σ H _ I h) fun u s1 ⟨x,H1,I1,rx,a,C,dx,fs,v,ex,ea,c,n,l,q⟩=>?_)
 subst ex
 obtain rfl:u=Value.ref a:=rx
 exact rC I1 ea c n l fun u' s2 I2 ru=>⟨v,H1,I2,ru,q⟩
theorem BH (ha:PE X o ta) (hv:PE X value tv) (hs:swapsWith value (some (.Attribute o f pos')) pos.line X.env=pure false):PS X (.Assign [.Attribute o f pos'] value pos) (Fo X.K ta tv f):=by
 intro pins s σ H D I h
 refine plainObj_wpAny_Assign_Attribute (thn (hv pins s σ H _ I h) fun u s1 ⟨y,H1,I1,ry,q⟩=>thn (ha pins s1 σ H1 _ I1 q) fun ov s2 ⟨x,H2,I2,rx,a,C,dx,fs,ex,ea,c,n,l,q2⟩=>?_) hs
 subst ex
 obtain rfl:ov=Value.ref a:=rx
 exact rO I2 ea c n l ry fun s3 I3=>⟨σ,_,I3,q2⟩
end
/-! ### isinstance -/
section
variable {X:Cx} {pins:List (Addr×Obj)} {σ:St} {H:Hp} {s:Shared} {A:Around} {E:Value->Shared->Prop} {Q:Value->Shared->Prop} {c:Value} {b:Bool}
inductive lR (K:PySem.W.Frag) (H:Hp):V->Value->Prop where
 |non:lR K H .non (.type "NoneType")
 |bl (x:Bool):lR K H (.bl x) (.type "bool")
 |int (i:Int):lR K H (.int i) (.type "int")
 |str (x:Str):lR K H (.str x) (.type "str")
 |flt (x:UInt64):lR K H (.flt x) (.type "float")
 |lst {a:Addr} {xs:List V} (e:H a=some (.lst xs)):lR K H (.ref a) (.type "list")
 |frz {a:Addr} {o:Obj} {xs:List V} (e:H a=some (.frz o (.lst xs))):lR K H (.ref a) (.type "list")
 |tup {a:Addr} {xs:List V} (e:H a=some (.tup xs)):lR K H (.ref a) (.type "tuple")
 |dK {a:Addr} {kvs:List (Key×V)} (e:H a=some (.dK kvs)):lR K H (.ref a) (.type "dict")
 |dT {a:Addr} {kvs:List (List Key×V)} (e:H a=some (.dT kvs)):lR K H (.ref a) (.type "dict")
 | ins {a C dx:Addr} {fs:List (Str × V)} (e:H a = some (.ins C dx fs)) (cl:Cls K C) (ha:PySem.W.findIn K (.ref C) "__class__" = some (some (.builtin "object.__class__")))
   (hn:PySem.W.specialIn K (.builtin "object.__class__") "__get__"=some (some (.builtin "getset_descriptor.__get__"))) (htk:PySem.W.takesIn K (.builtin "object.__class__")=some true)
   (hm:PySem.W.mroIn K C (.type "object")=some true):lR K H (.ref a) (.ref C)
end
/-! ### room -/
structure bP (k:Nat) (A:Around):Prop where
 hd:A.handled=none
 dp:A.depth+3*k+5<recursionLimit
 un:A.units+16*k+200<cLine
theorem bP.mono {j k:Nat} {A:Around} (r:bP k A) (h:j<=k):bP j A:=⟨r.hd,by have:=r.dp;omega,by have:=r.un;omega⟩
theorem bP.deeper {k:Nat} {A:Around} (r:bP (k+1) A) (env:Env):bP k (A.deeper env) :=
 ⟨r.hd,by have:=r.dp;show A.depth+1+3*k+5<_;omega,by have:=r.un;show A.units+3+16*k+200<_;omega⟩
theorem qM {A:Around} {C:Addr} {us:List Value} {kw:List (Str×Value)}:(A.under (.builtin "type.__call__" ⟨.ref C::us,kw⟩)).depth=A.depth+1:=by
 first|rfl|simp[Around.under,Code.weight,Code.isCreation,Code.isGuard,Code.isCaller,Code.frames,Code.isFrame,guardIds]
theorem qX {A:Around} {C:Addr} {us:List Value} {kw:List (Str×Value)}:(A.under (.builtin "type.__call__" ⟨.ref C::us,kw⟩)).units=A.units+1:=by
 first|rfl|simp[Around.under,Code.cUnits,Code.frames,Code.isFrame]
theorem bP.make {k:Nat} {A:Around} (r:bP (k+1) A) (C:Addr) (us:List Value) (kw:List (Str×Value)):bP k (A.under (.builtin "type.__call__" ⟨.ref C::us,kw⟩)) :=
 ⟨r.hd,by have:=r.dp;rw[qM];omega,by have:=r.un;rw[qX];omega⟩
theorem bP.depth {k:Nat} {A:Around} (r:bP k A):A.depth<recursionLimit:=by have:=r.dp;omega
theorem bP.units {k:Nat} {A:Around} (r:bP k A):A.units+64<cLine:=by have:=r.un;omega
/-! ### argument lists and displays -/
def FM:TA:=fun _ H Q=>Q [] H
def Dh (ta:TE) (tr:TA):TA:=fun σ H Q=>ta σ H fun x H1=>tr σ H1 fun xs H2=>Q (x::xs) H2
section
variable {X:Cx} {e:Expr} {es:List Expr} {te:TE} {t:TA} {pos:Pos}
theorem kE:PA X [] FM:=fun _ _ _ _ H Q I h=>Calls.spliced_nil ⟨[],H,I,.nil,h⟩
theorem gB (ha:PE X e te) (hr:PA X es t) (hs:starEach (e::es) X.env=(false,eval e X.env)::starEach es X.env:=by rfl):PA X (e::es) (Dh te t):=by
 intro pos pins s σ H Q I h
 rw[hs]
 show wpAny _ _ (spliced ((false,eval e X.env)::backTo pos (starEach es X.env))) _ _ s
 refine Calls.spliced_cons (thn (ha pins s σ H _ I h) fun u s1 ⟨x,H1,I1,r1,q1⟩=>?_)
 exact thn (hr pos pins s1 σ H1 _ I1 q1) fun us s2 ⟨xs,H2,I2,r2,q2⟩=>⟨x::xs,H2,I2,.cons r1 r2,q2⟩
def D9 (t:TA):TE:=fun σ H Q=>t σ H fun xs H1=>xs.length<=sizeLine/\∀ p,H1 p=none->Q (.ref p) (upd H1 p (.tup xs))
def FS (t:TA):TE:=fun σ H Q=>t σ H fun xs H1=>xs.length<=sizeLine/\∀ p,H1 p=none->Q (.ref p) (upd H1 p (.lst xs))
theorem lw {x1} (h:PA X es t):PE X (.Tuple es x1 pos) (D9 t):=by
 intro pins s σ H Q I hq
 refine wpAny_Tuple_spliced (thn (h pos pins s σ H _ I hq) fun us s1 ⟨xs,H1,I1,r,z,q⟩=>⟨by rw[<-r.length];exact z,?_⟩)
 have hf:H1 s1.heap.objs.size=none:=I1.hok.fresh (Nat.le_refl _)
 refine⟨.ref s1.heap.objs.size,upd H1 s1.heap.objs.size (.tup xs),I1.laid (t':=s1.toks) (fun b u e=>Heap.get?_push_of_some _ e) (Nat.le_refl _) ?_,rfl,q _ hf⟩
 exact⟨z,us,r,⟨_,Heap.get?_push_size _ rfl,rfl,⟨_,rfl⟩,rfl⟩⟩
theorem wD (h:PA X es t):PE X (.List es pos) (FS t):=by
 intro pins s σ H Q I hq
 refine wpAny_List_spliced (thn (h pos pins s σ H _ I hq) fun us s1 ⟨xs,H1,I1,r,z,q⟩=>⟨by rw[<-r.length];exact z,?_⟩)
 have hf:H1 s1.heap.objs.size=none:=I1.hok.fresh (Nat.le_refl _)
 refine⟨.ref s1.heap.objs.size,upd H1 s1.heap.objs.size (.lst xs),I1.laid (t':=s1.toks) (fun b u e=>Heap.get?_push_of_some _ e) (Nat.le_refl _) ?_,rfl,q _ hf⟩
 exact⟨z,us,0,r,Heap.get?_push_size _ rfl⟩
end
/-! ### what a def promises -/
abbrev Sp:=List V->Hp->VK->XK->Prop
abbrev CXT:=List Env->Hp->Shared->XK->Value->Shared->Prop
structure rJ (P:Program) (w:World) (K:PySem.W.Frag) (mg:Str->Option Value) (base:Heap) (A:Around) (outer:List Env) (s:Shared) (H:Hp):Prop where
 frames:A.frames=some outer
 mod:Mod K mg base
 bs:∀ b o,base.get? b=some o->s.heap.get? b=some o/\H b=none
 bsz:base.objs.size<=s.heap.objs.size
 funs:s.heap.FunFrames base outer
 frf:∀ b∈frs outer,H b=none
 hok:HOk P w H s.heap
 bare:AllBare s.gens
def CE (outer:List Env) (P:Program) (w:World) (H:Hp) (s:Shared) (Q:VK) (u:Value) (s':Shared):Prop :=
 ∃ v H',s'.os=s.os/\AllBare s'.gens/\Un (frs outer) [] H H' s.heap s'.heap/\HOk P w H' s'.heap/\ap v u/\Q v H'
def CR (CX:CXT) (outer:List Env) (P:Program) (w:World) (H:Hp) (s:Shared) (Q:VK) (E:XK) (r:Result) (s':Shared):Prop :=
 match r with
 |.ok (.ret u)=>CE outer P w H s Q u s'
 |.ok _=>False
 |.error e=>CX outer H s E e s'
structure aK (P:Program) (w:World) (K:PySem.W.Frag) (mg:Str->Option Value) (base:Heap) (CX:CXT) (k:Nat) (f:Addr) (fd:FuncData) (ps:List Str) (sp:Sp):Prop where
 len:∀ vs H Q E,sp vs H Q E->vs.length=ps.length
 run:∀ (A:Around) (outer:List Env) (s:Shared) (H:Hp) (args:Args) (us:List Value) (vs:List V) (Q:VK) (E:XK),bP k A->rJ P w K mg base A outer s H->BindsTo s fd args (ps.zip us)->aq vs us->sp vs H Q E ->
  codeAny (model P w) A (.call (.ref f) args) (CR CX outer P w H s Q E) s
theorem aK.mono {P:Program} {w:World} {K:PySem.W.Frag} {mg:Str->Option Value} {base:Heap} {CX:CXT} {j k:Nat} {f:Addr} {fd:FuncData} {ps:List Str} {sp:Sp} (F:aK P w K mg base CX j f fd ps sp) (h:j<=k) :
  aK P w K mg base CX k f fd ps sp:=⟨F.len,fun A outer s H args us vs Q E hr=>F.run A outer s H args us vs Q E (hr.mono h)⟩
theorem aK.imp {P:Program} {w:World} {K:PySem.W.Frag} {mg:Str->Option Value} {base:Heap} {CX:CXT} {k:Nat} {f:Addr} {fd:FuncData} {ps:List Str} {sp sp':Sp} (F:aK P w K mg base CX k f fd ps sp)
  (h:∀ vs H Q E,sp' vs H Q E->sp vs H Q E):aK P w K mg base CX k f fd ps sp' :=
 ⟨fun vs H Q E q=>F.len vs H Q E (h _ _ _ _ q),fun A outer s H args us vs Q E hr he hb hv hs=>F.run A outer s H args us vs Q E hr he hb hv (h _ _ _ _ hs)⟩
theorem rJ.make {P:Program} {w:World} {K:PySem.W.Frag} {mg:Str->Option Value} {base:Heap} {A:Around} {outer:List Env} {s:Shared} {H:Hp} (e:rJ P w K mg base A outer s H) (C:Addr) (us:List Value) (kw:List (Str×Value)) :
  rJ P w K mg base (A.under (.builtin "type.__call__" ⟨.ref C::us,kw⟩)) outer s H:=⟨by first|exact e.frames|(simpa[Around.under,Code.envs,Code.isFrame,pushEnvs]using e.frames),e.mod,e.bs,e.bsz,e.funs,e.frf,e.hok,e.bare⟩
section
variable {X:Cx} {pins:List (Addr×Obj)} {σ:St} {H:Hp} {s s':Shared}
theorem Inv.env0 (I:Inv X pins σ H s):rJ X.prog X.w X.K X.mg X.base X.A X.stack s H :=
 ⟨I.ok.frames,I.ok.mod,I.bs,Nat.le_trans I.ok.bsz I.sz,I.stack,I.stkFree,I.hok,I.bare⟩
theorem Inv.after {Q:VK} {u:Value} (I:Inv X pins σ H s) (h:CE X.stack X.prog X.w H s Q u s'):EP X pins σ Q u s':=by
 obtain⟨v,H',os,bare,un,hok,r,q⟩:=h
 obtain⟨hh,g,d,t,os'⟩:=s'
 obtain rfl:os'=s.os:=os
 exact⟨v,H',I.call (h':=hh) (g':=g) (d':=d) (t':=t) (ch:=[]) un hok bare (fun b z=>absurd z (by simp)),r,q⟩
end
/-! ### calls -/
def DF (sp:Sp) (dvs:List V) (E:XK) (t:TA):TE:=fun σ H Q=>t σ H fun vs H1=>sp (vs++dvs) H1 Q E
def Du (C:Addr) (sp:Sp) (dvs:List V) (E:XK) (t:TA):TE:=fun σ H Q=>t σ H fun vs H1=>∀ x dx,H1 x=none->H1 dx=none->dx≠x ->
 sp (.ref x::(vs++dvs)) (upd (upd H1 dx (.own x)) x (.ins C dx [])) (fun v H2=>v=.non/\Q (.ref x) H2) E
def cA (K:PySem.W.Frag) (fd:FuncData) (ps:List Str) (ds:List Value):Prop :=
 ∀ (s:Shared) (us:List Value),K.In s.heap->(us++ds).length=ps.length->BindsTo s fd ⟨us,[]⟩ (ps.zip (us++ds))
theorem cA.all {K:PySem.W.Frag} {fd:FuncData} {ps:List Str} (h:∀ us:List Value,us.length=ps.length->bindArgs fd ⟨us,[]⟩=pure (ps.zip us)):cA K fd ps []:=fun s us _ hl=>by
 rw[List.append_nil]at hl ⊢
 exact .of_eq (h us hl)
def lI (CX:CXT) (X:Cx) (E:XK):Prop:=∀ (pins:List (Addr×Obj)) (σ:St) (H:Hp) (s:Shared) (e:Value) (s':Shared),Inv X pins σ H s->CX X.stack H s E e s'->X.xe e s'
section
variable {X:Cx} {CX:CXT} {k:Nat} {f C:Addr} {fd:FuncData} {ps:List Str} {sp:Sp} {dvs:List V} {ds:List Value} {E:XK} {x m:Str} {p pos apos:Pos} {e o:Expr} {es:List Expr} {ta:TE} {t:TA}
theorem Cb {pins:List (Addr×Obj)} {σ:St} {H:Hp} {s:Shared} {Q:VK} {us:List Value} {vs:List V} (F:aK X.prog X.w X.K X.mg X.base CX k f fd ps sp) (hr:bP k X.A) (hb:cA X.K fd ps ds) (hd:aq dvs ds) (hx:lI CX X E)
  (I:Inv X pins σ H s) (r:aq vs us) (h:sp (vs++dvs) H Q E):wpAny (model X.prog X.w) X.A (call (.ref f) us) (EP X pins σ Q) X.xe s:=by
 have r2:aq (vs++dvs) (us++ds):=r.append hd
 have hl:(us++ds).length=ps.length:=by rw[<-r2.length];exact F.len _ _ _ _ h
 refine wpAny_call (codeAny_mono (F.run X.A X.stack s H ⟨us,[]⟩ (us++ds) (vs++dvs) Q E hr I.env0 (hb s us I.kIn hl) r2 h) fun r s' hq=>?_)
 cases r with
 |error e=>exact hx pins σ H s e s' I hq
 |ok fl =>
  cases fl with
  |ret u=>exact I.after hq
  |next=>exact False.elim hq
  |brk=>exact False.elim hq
  |cont=>exact False.elim hq
theorem tX (F:aK X.prog X.w X.K X.mg X.base CX k f fd ps sp) (hr:bP k X.A) (hg:Gl X x) (hm:X.mg x=some (.ref f)) (hk:PySem.W.keepIn X.K (.ref f)=true) (hb:cA X.K fd ps ds) (hd:aq dvs ds) (hx:lI CX X E)
  (ha:PA X (e::es) t) (hdb:(x==("__debug__":Str))=false:=by decide) (he:starEach (e::es) X.env=(false,eval e X.env)::starEach es X.env:=by rfl) (hpl:(backTo pos (starEach es X.env)).any (·.1)=false:=by rfl) :
  PE X (.Call (.Name x p) (e::es) [] pos) (DF sp dvs E t):=by
 intro pins s σ H Q I h
 refine wpAny_Call_Name_kw (oy I hg hm ?_ hdb)
 refine PySem.W.callWith_K (h₀:=X.base) I.ok.mod.kin hk (thn (ha pos pins s σ H _ I h) fun us s1 ⟨vs,H1,I1,r,q⟩=>⟨I1.kIn,?_⟩) he hpl
 exact Cb F hr hb hd hx I1 r q
structure Mk (K:PySem.W.Frag) (C f:Addr):Prop where
 makes:PySem.W.makesIn K C=true
 init:PySem.W.findIn K (.ref C) "__init__"=some (some (.ref f))
 fn:PySem.W.isFn K (.ref f)=true
 kp:PySem.W.keepIn K (.ref C)=true
theorem xD {pins:List (Addr×Obj)} {σ:St} {H:Hp} {s:Shared} {Q:VK} {us:List Value} {vs:List V} (M:Mk X.K C f) (F:aK X.prog X.w X.K X.mg X.base CX k f fd ps sp) (hr:bP (k+1) X.A) (hb:cA X.K fd ps ds) (hd:aq dvs ds)
  (hx:lI CX X E) (I:Inv X pins σ H s) (r:aq vs us)
  (h:∀ x dx,H x=none->H dx=none->dx≠x->sp (.ref x::(vs++dvs)) (upd (upd H dx (.own x)) x (.ins C dx [])) (fun v H2=>v=.non/\Q (.ref x) H2) E) :
  wpAny (model X.prog X.w) X.A (call (.ref C) us) (EP X pins σ Q) X.xe s:=by
 have hq:=h (s.heap.objs.size+1) s.heap.objs.size (I.hok.fresh (Nat.le_succ _)) (I.hok.fresh (Nat.le_refl _)) (Nat.ne_of_lt (Nat.lt_succ_self _))
 have I2:=Inv.made (C:=C) I
 have r2:aq (V.ref (s.heap.objs.size+1)::(vs++dvs)) (Value.ref (s.heap.objs.size+1)::(us++ds)):=.cons rfl (r.append hd)
 have hl:(Value.ref (s.heap.objs.size+1)::us++ds).length=ps.length:=by
  have e:=r2.length
  rw[F.len _ _ _ _ hq]at e
  exact e.symm
 refine wpAny_call (vG (f:=f) I.kIn M.makes M.init (beq_iff_eq.mp M.fn) (codeAny_mono (F.run _ X.stack _ _ ⟨Value.ref (s.heap.objs.size+1)::us,[]⟩ (Value.ref (s.heap.objs.size+1)::(us++ds)) _ _ E (hr.make C us [])
  (I2.env0.make C us []) (hb _ (Value.ref (s.heap.objs.size+1)::us) I2.kIn hl) r2 hq) fun r s' hq'=>?_))
 cases r with
 |error e=>exact hx pins σ _ _ e s' I2 hq'
 |ok fl =>
  cases fl with
  |ret u =>
   obtain⟨v,H',I3,rv,ev,q3⟩:=I2.after hq'
   subst ev
   exact⟨rv,⟨V.ref (s.heap.objs.size+1),H',I3,rfl,q3⟩⟩
  |next=>exact False.elim hq'
  |brk=>exact False.elim hq'
  |cont=>exact False.elim hq'
theorem yF (M:Mk X.K C f) (F:aK X.prog X.w X.K X.mg X.base CX k f fd ps sp) (hr:bP (k+1) X.A) (hg:Gl X x) (hm:X.mg x=some (.ref C)) (hb:cA X.K fd ps ds) (hd:aq dvs ds) (hx:lI CX X E)
  (ha:PA X (e::es) t) (hdb:(x==("__debug__":Str))=false:=by decide) (he:starEach (e::es) X.env=(false,eval e X.env)::starEach es X.env:=by rfl) (hpl:(backTo pos (starEach es X.env)).any (·.1)=false:=by rfl) :
  PE X (.Call (.Name x p) (e::es) [] pos) (Du C sp dvs E t):=by
 intro pins s σ H Q I h
 refine wpAny_Call_Name_kw (oy I hg hm ?_ hdb)
 refine PySem.W.callWith_K (h₀:=X.base) I.ok.mod.kin M.kp (thn (ha pos pins s σ H _ I h) fun us s1 ⟨vs,H1,I1,r,q⟩=>⟨I1.kIn,?_⟩) he hpl
 exact xD M F hr hb hd hx I1 r q
end
/-! ### keywords -/
section
variable {X:Cx} {CX:CXT} {k:Nat} {f C:Addr} {fd:FuncData} {ps ks:List Str} {sp:Sp} {E:XK} {x m:Str} {p pos apos kpos:Pos} {e o:Expr} {es:List Expr} {kws:List Keyword} {te ta:TE} {t tk:TA} {nm:Option Str}
structure Fj (K:PySem.W.Frag) (fd:FuncData) (ps ks:List Str) (g:List Value->List Value->List Value) (gV:List V->List V->List V):Prop where
 to:∀ (s:Shared) (us ws:List Value),K.In s.heap->(g us ws).length=ps.length->BindsTo s fd ⟨us,ks.zip ws⟩ (ps.zip (g us ws))
 rel:∀ {vs:List V} {us:List Value} {zs:List V} {ws:List Value},aq vs us->aq zs ws->aq (gV vs zs) (g us ws)
variable {g:List Value->List Value->List Value} {gV:List V->List V->List V}
end
/-! ### a def's body keeps its promise -/
structure ar (N P:List Str) (sc:Scope):Prop where
 kind:sc.kind=.function
 co:sc.isCoroutine=false
 gen:sc.isGenerator=false
 nd:N.Nodup
 pre:N.take P.length=P
 par:∀ x∈P,sc.names.lookup x=some .local∨sc.names.lookup x=some .cell
 nofree:∀ y∈sc.names,y.2≠.free
theorem mW {kindOf:Str->Option NameKind} {x:Str}:∀ {binds:List (Str×Value)} {m:Str->Option Value},(∀ v,(x,v)∉binds)->bindL kindOf binds m x=m x
 |[],_,_=>rfl
 |(n,v)::r,m,h=>by
  unfold bindL
  rw[mW fun w hw=>h w (List.mem_cons_of_mem _ hw)]
  split
  ·have:x≠n:=by rintro rfl;exact h v List.mem_cons_self
   simp[this]
  ·rfl
theorem mS {kindOf:Str->Option NameKind} {x:Str}:∀ {binds:List (Str×Value)} {m:Str->Option Value},(∀ v,(x,v)∉binds)->bindC kindOf binds m x=m x
 |[],_,_=>rfl
 |(n,v)::r,m,h=>by
  unfold bindC
  rw[mS fun w hw=>h w (List.mem_cons_of_mem _ hw)]
  split
  ·rfl
  ·have:x≠n:=by rintro rfl;exact h v List.mem_cons_self
   simp[this]
theorem nK {kindOf:Str->Option NameKind} {x:Str} {v:Value}:∀ {P:List Str} {vs:List Value} {i:Nat} {m:Str->Option Value},P.Nodup->P[i]?=some x->vs[i]?=some v->kindOf x=some .local ->
  bindL kindOf (P.zip vs) m x=some v
 |[],_,_,_,_,h,_,_=>by simp at h
 |_::_,[],_,_,_,_,h,_=>by simp at h
 |p::P,w::vs,0,m,nd,h1,h2,hk=>by
  simp at h1 h2;subst h1;subst h2
  show bindL kindOf ((p,w)::P.zip vs) m p=_
  unfold bindL
  rw[mW fun v hv=>(List.nodup_cons.mp nd).1 (List.of_mem_zip hv).1,if_pos hk]
  simp
 |p::P,w::vs,i+1,m,nd,h1,h2,hk=>by
  show bindL kindOf ((p,w)::P.zip vs) m x=_
  unfold bindL
  exact nK (i:=i) (List.nodup_cons.mp nd).2 (by simpa using h1) (by simpa using h2) hk
theorem mX {kindOf:Str->Option NameKind} {x:Str} {v:Value}:∀ {P:List Str} {vs:List Value} {i:Nat} {m:Str->Option Value},P.Nodup->P[i]?=some x->vs[i]?=some v->kindOf x≠some .local ->
  bindC kindOf (P.zip vs) m x=some v
 |[],_,_,_,_,h,_,_=>by simp at h
 |_::_,[],_,_,_,_,h,_=>by simp at h
 |p::P,w::vs,0,m,nd,h1,h2,hk=>by
  simp at h1 h2;subst h1;subst h2
  show bindC kindOf ((p,w)::P.zip vs) m p=_
  unfold bindC
  rw[mS fun v hv=>(List.nodup_cons.mp nd).1 (List.of_mem_zip hv).1,if_neg hk]
  simp
 |p::P,w::vs,i+1,m,nd,h1,h2,hk=>by
  show bindC kindOf ((p,w)::P.zip vs) m x=_
  unfold bindC
  exact mX (i:=i) (List.nodup_cons.mp nd).2 (by simpa using h1) (by simpa using h2) hk
def ci (N:List Str) (vs:List V):St:=vs.map some++List.replicate (N.length-vs.length) none
def qy (CX:CXT) (P:Program) (w:World) (K:PySem.W.Frag) (mg:Str->Option Value) (base:Heap) (N:List Str) (qual:Str) (scope:Scope) (f:Addr) (cd:Value) (A:Around) (outer:List Env) (s:Shared) (H:Hp) (E:XK):Cx where
 prog:=P
 w:=w
 K:=K
 mg:=mg
 base:=base
 A:=A.deeper (envOfC qual scope s.heap.objs.size f cd)
 N:=N
 s₀:=s
 H₀:=H
 env:=envOfC qual scope s.heap.objs.size f cd
 outer:=outer
 stack:=envOfC qual scope s.heap.objs.size f cd::outer
 ex:=[]
 calm:=true
 fn:=fun _=>true
 pn:=[]
 xe:=fun e s'=>wpAny (model P w) (A.deeper (envOfC qual scope s.heap.objs.size f cd)) (leaving (envOfC qual scope s.heap.objs.size f cd) e) (fun _ s''=>CX outer H s E e s'') (fun e' s''=>CX outer H s E e' s'') s'
theorem qk {sc:Scope} {n:Nat} {x:Str} (h:sc.names.lookup x=some .cell):∃ c,(cellsFrom n sc.names []).lookup x=some c:=by
 have q:=PySem.W.cellsFrom_some sc.names n [] (.inl h)
 exact Option.isSome_iff_exists.mp q
theorem ut {CX:CXT} {P:Program} {w:World} {K:PySem.W.Frag} {mg:Str->Option Value} {base:Heap} {N ps:List Str} {qual:Str} {scope:Scope} {f:Addr} {cd:Value} {A:Around} {outer:List Env} {s s1:Shared} {H:Hp} {E:XK} {us:List Value} {vs:List V}
  (S:ar N ps scope) (hd:A.handled=none) (e0:rJ P w K mg base A outer s H) (hl:vs.length=ps.length) (r:aq vs us)
  (x:InCallC s s.heap.objs.size (bindL (envOfC qual scope s.heap.objs.size f cd).kindOf (ps.zip us) fun _=>none) (cellsFrom (s.heap.objs.size+1) scope.names []) (bindC (envOfC qual scope s.heap.objs.size f cd).kindOf (ps.zip us) fun _=>none) s1) :
  Inv (qy CX P w K mg base N qual scope f cd A outer s H E) [] (ci N vs) H s1:=by
 have hpl:ps.length<=N.length:=by have:=congrArg List.length S.pre;rw[List.length_take]at this;omega
 obtain⟨h1,tk,rfl,hk⟩:=x.done
 have noA:∀ b:Addr,b∉(qy CX P w K mg base N qual scope f cd A outer s H E).ex:=fun b z=>absurd (show b∈([]:List Addr)from z) (by simp)
 refine⟨⟨e0.mod,S.kind,rfl,rfl,Nat.le_refl _,fun y z c h1 h2=>?_,fun y hy=>?_,fun y c _ h=>?_,fun _=>hd,Around.frames_deeper e0.frames,.inr ⟨rfl,rfl⟩,fun b z=>absurd z (noA b),e0.bs,e0.bsz,fun b _ _=>noA b,fun b z=>absurd z (noA b),e0.funs,e0.frf⟩,
  rfl,e0.bare,Un.kept hk,⟨_,x.toInCall.ns,fun i y v h1 h2 h3=>?_⟩,fun y c h=>⟨_,x.cell y c h⟩,e0.hok.fresh (Nat.le_refl _),fun y c h=>?_,fun p hp=>absurd (show p∈([]:List (Addr×Obj))from hp) (by simp),e0.hok.kept hk,?_⟩
 ·exact name_of_addr x.apart (PySem.mem_of_lookup h1) (PySem.mem_of_lookup h2)
 ·have hy:scope.names.lookup y=some .cell∨scope.names.lookup y=some .free:=hy
  rcases hy with hy|hy
  ·exact qk hy
  ·exact absurd rfl (S.nofree _ (PySem.mem_of_lookup hy))
 ·exact Nat.le_of_lt (x.above y c (PySem.mem_of_lookup h))
 ·have hi:i<vs.length:=by
   unfold ci at h2
   by_cases hi:i<vs.length
   ·exact hi
   ·rw[List.getElem?_append_right (by simpa using hi)]at h2
    rw[List.getElem?_replicate]at h2
    split at h2<;>cases h2
  have ha:vs[i]?=some v:=by
   unfold ci at h2
   rw[List.getElem?_append_left (by simpa using hi),List.getElem?_map]at h2
   cases e:vs[i]? with
   |none=>rw[e]at h2;cases h2
   |some a=>rw[e]at h2;cases h2;rfl
  obtain⟨u,hu,rv⟩:=r.get ha
  have hp:ps[i]?=some y:=by
   rw[<-S.pre,List.getElem?_take_of_lt (by omega)];exact h1
  have ndP:ps.Nodup:=by rw[<-S.pre];exact S.nd.sublist (List.take_sublist _ _)
  refine⟨u,rv,?_⟩
  rcases S.par y (List.mem_of_getElem? hp)with k|k
  ·exact .inl ⟨k,nK ndP hp hu k⟩
  ·obtain⟨c,e⟩:=qk (n:=s.heap.objs.size+1) k
   refine .inr ⟨.inl k,c,e,?_⟩
   have q:=x.cell y c e
   rw[mX ndP hp hu (by show scope.names.lookup y≠_;rw[k];decide)]at q
   exact q
 ·exact e0.hok.fresh (Nat.le_of_lt (x.above y c (PySem.mem_of_lookup h)))
 ·unfold ci
  show _=N.length
  rw[List.length_append,List.length_map,List.length_replicate]
  omega
theorem DO {CX:CXT} {P:Program} {w:World} {K:PySem.W.Frag} {mg:Str->Option Value} {base:Heap} {k:Nat} {f:Addr} {name qual:Str} {params:Arguments} {body:List Stmt} {scope:Scope} {dV kV doc pm cdv ct oc:Value} {an od:Option Addr}
  {osl:Array (Option Value)} {N ps:List Str} {sp:Sp} (lk:K.lookup f=some ⟨oc,od,.func (PySem.W.fnOf name qual params body scope dV kV doc pm an cdv ct),osl⟩) (hcd:PySem.W.codeIn K cdv qual=true) (S:ar N ps scope)
  (len:∀ vs H Q E,sp vs H Q E->vs.length=ps.length)
  (hbody:∀ (A:Around) (outer:List Env) (s:Shared) (H:Hp) (vs:List V) (Q:VK) (E:XK),bP k (A.deeper (envOfC qual scope s.heap.objs.size f cdv)) → sp vs H Q E →
   ∃ t,PSs (qy CX P w K mg base N qual scope f cdv A outer s H E) body t/\t { nx:=fun _ H'=>Q .non H',rt:=Q } (ci N vs) H) :
  aK P w K mg base CX (k+1) f (PySem.W.fnOf name qual params body scope dV kV doc pm an cdv ct) ps sp:=by
 refine⟨len,fun A outer s H args us vs Q E hr e0 hb r hsp=>?_⟩
 have hl:=len _ _ _ _ hsp
 have KX:K.In s.heap:=e0.mod.kin.keeps fun b o e=>(e0.bs b o e).1
 have lim:s.heap.NoLimit:=e0.mod.nolimit.keeps fun b o e=>(e0.bs b o e).1
 have hkind:∀ y∈ps.zip us,scope.names.lookup y.1=some .local∨(scope.names.lookup y.1=some .cell/\((cellsFrom (s.heap.objs.size+1) scope.names []).lookup y.1).isSome=true):=fun⟨n,v⟩ hy=>by
  rcases S.par n (List.of_mem_zip hy).1 with q|q
  ·exact .inl q
  ·exact .inr ⟨q,PySem.W.cellsFrom_some _ _ _ (.inl q)⟩
 refine codeAny_call_function hr.depth (KX _ _ lk) rfl S.co S.gen rfl (PySem.W.codeRec_of KX hcd) (hb _ _ _ _ ?_)
 refine wpAny_newFunctionEnv_cells S.kind hkind fun env he s1 x=>?_
 subst he
 refine⟨lim.keeps x.toInCall.keep,codeAny_func ?_⟩
 obtain⟨t,ht,hq⟩:=hbody A outer s H vs Q E (hr.deeper _) hsp
 have I:Inv (qy CX P w K mg base N qual scope f cdv A outer s H E) [] (ci N vs) H s1:=ut S hr.hd e0 hl r x
 refine wpAny_mono (ht [] s1 (ci N vs) H _ I hq) (fun fl s' hs=>?_) fun e s' hs=>hs
 have fin:∀ {σ':St} {H':Hp} {v:V} {u:Value},Inv (qy CX P w K mg base N qual scope f cdv A outer s H E) [] σ' H' s'->ap v u->Q v H'->CE outer P w H s Q u s' :=
  fun {σ' H' v u} J rv q=>⟨v,H',J.os,J.bare,J.base,J.hok,rv,q⟩
 cases fl with
 |ret u =>
  obtain⟨v,σ',H',J,rv,q⟩:=hs
  exact fin J rv q
 |next =>
  obtain⟨σ',H',J,q⟩:=hs
  exact fin (v:=V.non) (u:=Value.none) J rfl q
 |brk =>
  obtain⟨_,_,_,q⟩:=hs
  exact False.elim q
 |cont =>
  obtain⟨_,_,_,q⟩:=hs
  exact False.elim q
section
variable {X:Cx} {x:Str} {p pos:Pos} {e:Expr} {es:List Expr} {t:TA} {id T:String} {r:List V->Hp->VK->Prop}
def tCB (r:List V->Hp->VK->Prop) (t:TA):TE:=fun σ H Q=>t σ H fun vs H1=>r vs H1 Q
theorem pF (hc:cS X (.builtin id) r) (hg:Gl X x) (hm:X.mg x=none) (hv:bootBuiltins x=some (.builtin id)) (ha:PA X (e::es) t) (hn:x≠"__name__":=by decide) (hdb:(x==("__debug__":Str))=false:=by decide)
  (he:starEach (e::es) X.env=(false,eval e X.env)::starEach es X.env:=by rfl) (hpl:(backTo pos (starEach es X.env)).any (·.1)=false:=by rfl):PE X (.Call (.Name x p) (e::es) [] pos) (tCB r t):=by
 intro pins s σ H Q I h
 refine wpAny_Call_Name_kw (h7 I hg hm hv ?_ hn hdb)
 exact PyProof.Rows.callWith_builtin1 (thn (ha pos pins s σ H _ I h) fun us s1 ⟨vs,H1,I1,r1,q1⟩=>hc pins s1 σ H1 vs us Q I1 r1 q1) he hpl
theorem uR (hc:cS X (.type T) r) (hg:Gl X x) (hm:X.mg x=none) (hv:bootBuiltins x=some (.type T)) (ha:PA X (e::es) t) (hn:x≠"__name__":=by decide) (hdb:(x==("__debug__":Str))=false:=by decide)
  (he:starEach (e::es) X.env=(false,eval e X.env)::starEach es X.env:=by rfl) (hpl:(backTo pos (starEach es X.env)).any (·.1)=false:=by rfl):PE X (.Call (.Name x p) (e::es) [] pos) (tCB r t):=by
 intro pins s σ H Q I h
 refine wpAny_Call_Name_kw (h7 I hg hm hv ?_ hn hdb)
 exact PyProof.Rows.callWith_type1 (thn (ha pos pins s σ H _ I h) fun us s1 ⟨vs,H1,I1,r1,q1⟩=>hc pins s1 σ H1 vs us Q I1 r1 q1) he hpl
end
end L2
namespace HT
open PySem PyProof.Rows
section
open PySem.SeqAt
open PySem.AutoSeq1 (wpAny_loadPart')
open PySem.MeetsSeq PySem.MeetsSeq2 PySem.MeetsSeq3
end
section
variable {prog:Program} {w:World} {A:Around} {E:Value->Shared->Prop} {s:Shared}
theorem cat_tup {t b:Addr} {vs ws:List Value} {Q:Value->Shared->Prop} (ht:IsTup s.heap t vs.toArray) (hb:IsTup s.heap b ws.toArray) (hv:vs≠[])
  (h1:ws=[]->Q (.ref t) s) (h2:ws≠[]->Q (.ref s.heap.objs.size) { s with heap:=s.heap.push { cls:=.type "tuple",data:=.seq (vs++ws).toArray } })
  (hsz:vs.length+ws.length<=sizeLine):wpAny (model prog w) A (binaryOp .Add (.ref t) (.ref b)) Q E s:=by
 obtain⟨⟨cls,dd,data,sl⟩,ho,hc,n,hd⟩:=id ht
 obtain⟨⟨cls2,dd2,data2,sl2⟩,ho2,hc2,n2,hd2⟩:=id hb
 simp only at hc hd hc2 hd2
 subst hc hd hc2 hd2
 have e:vs.toArray++ws.toArray=(vs++ws).toArray:=by simp
 by_cases hw:ws=[]
 ·exact concat_meets ⟨_,ho,rfl⟩ ⟨_,ho2,rfl⟩ noFill_tuple_add seq_tuple_add PySem.F.slot_tuple_add PySem.F.entry_tuple_add (PySem.F.args_tuple_add_2 _ _)
   (tuple_addW1 t b vs.toArray ws.toArray n n2 dd dd2 sl sl2 (by simpa using hv) (by simp[hw])) ⟨ho,ho2,h1 hw⟩
 ·refine concat_meets ⟨_,ho,rfl⟩ ⟨_,ho2,rfl⟩ noFill_tuple_add seq_tuple_add PySem.F.slot_tuple_add PySem.F.entry_tuple_add (PySem.F.args_tuple_add_2 _ _)
   (tuple_addW2 t b vs.toArray ws.toArray n n2 dd dd2 sl sl2 (by simpa using hv) (by simpa using hw) (by rw[List.size_toArray,List.size_toArray];exact hsz)) ⟨ho,ho2,?_⟩
  rw[e]
  exact h2 hw
/-! ### t[a:b],not the whole -/
def sIx (n d:Nat):Option Int->Nat
 |none=>d
 |some v=>if v<0 then(v+(n:Int)).toNat else min v.toNat n
theorem sIx_none (n d:Nat):sIx n d none=d:=rfl
theorem sIx_nat (n d k:Nat):sIx n d (some (k:Int))=min k n:=by
 show(if(k:Int)<0 then((k:Int)+(n:Int)).toNat else min (k:Int).toNat n)=min k n
 rw[if_neg (by omega),Int.toNat_natCast]
theorem BZ (n d:Nat) (hd:d<=n) (o:Option Int):sIx n d o<=n:=by
 cases o with
 |none=>exact hd
 |some v =>
  show(if v<0 then(v+(n:Int)).toNat else min v.toNat n)<=n
  by_cases hv:v<0
  ·rw[if_pos hv];omega
  ·rw[if_neg hv];exact Nat.min_le_right _ _
theorem sW (v:Int) (n d:Nat):(if v<0 then max (v+(n:Int)) 0 else min v (n:Int))=((sIx n d (some v):Nat):Int):=by
 show(if v<0 then max (v+(n:Int)) 0 else min v (n:Int))=(((if v<0 then(v+(n:Int)).toNat else min v.toNat n):Nat):Int)
 by_cases hv:v<0
 ·simp only[if_pos hv];omega
 ·simp only[if_neg hv];omega
theorem rP (lo hi:Option Int) (n:Nat):Builtin.Slice.sliceAdjust lo hi 1 (n:Int)=(((sIx n 0 lo:Nat):Int),((sIx n n hi:Nat):Int)):=by
 have h1:¬ ((1:Int)<0):=by omega
 unfold Builtin.Slice.sliceAdjust
 simp only[h1,if_false]
 refine Prod.ext ?_ ?_
 ·cases lo with
  |none=>rfl
  |some v=>exact sW v n 0
 ·cases hi with
  |none=>rfl
  |some v=>exact sW v n n
theorem qY (i j:Nat):Builtin.Slice.slicePlaces (i:Int) (j:Int) 1=j-i:=by
 unfold Builtin.Slice.slicePlaces
 have h1:(1:Int) > 0:=by omega
 simp only[h1,if_true,Int.ediv_one]
 split<;>omega
theorem kZ {v:Value} {o:Option Int} {Q:Option Int->Shared->Prop} (p:IsPart v o) (h:Q o s):wpAny (model prog w) A (Builtin.Slice.slicePartIndex v) Q E s:=by
 cases p with
 |none=>exact slicePart_none h
 |int i t=>exact slicePart_int h
theorem eJ {sl:Addr} {vl vu:Value} {lo hi:Option Int} {n:Nat} {Q:Int×Int×Nat->Shared->Prop} (hs:s.heap.IsSliceOf sl vl vu .none) (pl:IsPart vl lo) (pu:IsPart vu hi)
  (h:Q (((sIx n 0 lo:Nat):Int),1,sIx n n hi-sIx n 0 lo) s):wpAny (model prog w) A (Builtin.Slice.sliceApplied (.ref sl) (pure (n:Int))) Q E s:=by
 obtain⟨os,hos,hcs,hds⟩:=id hs
 unfold Builtin.Slice.sliceApplied Builtin.Slice.sliceFields
 refine wpAny_bind (wpAny_bind (wpAny_field hos hds (x:=vl) rfl (wpAny_bind (wpAny_field hos hds (x:=vu) rfl (wpAny_bind (wpAny_field hos hds (x:=.none) rfl (wpAny_pure ?_)))))))
 refine wpAny_bind (slicePart_none ?_)
 show wpAny _ _ (if((1:Int)==0)=true then _ else _) _ _ s
 rw[if_neg (by decide)]
 refine wpAny_bind (kZ pl (wpAny_bind (kZ pu (wpAny_bind (wpAny_pure ?_)))))
 show wpAny _ _ (match Builtin.Slice.sliceAdjust lo hi 1 (n:Int)with|(lo,hi)=>pure (lo,(1:Int),Builtin.Slice.slicePlaces lo hi 1)) _ _ s
 rw[rP lo hi n]
 show wpAny _ _ (pure (((sIx n 0 lo:Nat):Int),(1:Int),Builtin.Slice.slicePlaces ((sIx n 0 lo:Nat):Int) ((sIx n n hi:Nat):Int) 1)) _ _ s
 rw[qY]
 exact wpAny_pure h
theorem ve (xs:Array Value) (i k:Nat):((List.range k).filterMap fun(m:Nat)=>xs[((i:Int)+(m:Int)*1).toNat]?).toArray=((xs.toList.drop i).take k).toArray:=by
 have e:(fun(m:Nat)=>xs[((i:Int)+(m:Int)*1).toNat]?)=fun m=>xs[i+m]?:=by
  funext m
  have:((i:Int)+(m:Int)*1).toNat=i+m:=by omega
  rw[this]
 rw[e]
 have:=pick_run xs i k
 rw[List.filterMap_map]at this
 have e2:((fun x=>xs[x]?)∘fun x=>i+x)=fun m=>xs[i+m]?:=rfl
 rw[e2]at this
 rw[this]
theorem getItem_tuple_cut {t sl:Addr} {items:Array Value} {vl vu:Value} {lo hi:Option Int} {Q:Value->Shared->Prop} (ht:IsTup s.heap t items) (hs:s.heap.IsSliceOf sl vl vu .none) (pl:IsPart vl lo) (pu:IsPart vu hi)
  (hw:¬ (sIx items.size 0 lo=0/\sIx items.size items.size hi=items.size))
  (h:Q (.ref s.heap.objs.size) { s with heap:=s.heap.push { cls:=.type "tuple",data:=.seq ((items.toList.drop (sIx items.size 0 lo)).take (sIx items.size items.size hi-sIx items.size 0 lo)).toArray } })
  (hsz:items.size<=sizeLine):wpAny (model prog w) A (getItem (.ref t) (.ref sl)) Q E s:=by
 have htake:sizeOk (.seq ((items.toList.drop (sIx items.size 0 lo)).take (sIx items.size items.size hi-sIx items.size 0 lo)).toArray):=by
  show((items.toList.drop (sIx items.size 0 lo)).take (sIx items.size items.size hi-sIx items.size 0 lo)).toArray.size<=sizeLine
  rw[List.size_toArray,List.length_take,List.length_drop,Array.length_toList]
  omega
 have hj:sIx items.size items.size hi<=items.size:=BZ _ _ (Nat.le_refl _) hi
 obtain⟨os,hos,hcs,hds⟩:=id hs
 have hTs:s.TypeIs (.ref sl) "slice":=⟨os,hos,hcs⟩
 unfold getItem
 try with_reducible refine wpAny_holding ?_
 first|refine wpAny_bind (wpAny_pure ?_)|skip
 refine wpAny_bind (wpAny_sequenceKey ht.typeIs (by decide) ?_)
 refine wpAny_bind (wpAny_callSpecial?_slot (name:=Str.ofString "__getitem__") ht.typeIs PyProof.Rows.slot_tuple_getitem
  (wpAny_call_entry PyProof.Rows.slot_tuple_getitem ht.typeIs entry_tuple_getitem ?_ (args_tuple_getitem _ _)))
 show wpAny _ _ (Builtin.Tuple.tupleItemsOf (.ref t) >>= _) _ _ s
 refine wpAny_bind (tupleItemsOf_ ht ?_)
 refine wpAny_bind (wpAny_typeOf hTs ?_)
 rw[if_pos (by decide)]
 refine wpAny_bind (eJ hs pl pu ?_)
 have hno:¬ ((((sIx items.size 0 lo:Nat):Int)==0&&(1:Int)==1&&(sIx items.size items.size hi-sIx items.size 0 lo)==items.size)=true):=by
  intro q
  rw[Bool.and_eq_true,Bool.and_eq_true]at q
  have q1:((sIx items.size 0 lo:Nat):Int)=0:=eq_of_beq q.1.1
  have q2:sIx items.size items.size hi-sIx items.size 0 lo=items.size:=eq_of_beq q.2
  exact hw ⟨by omega,by omega⟩
 show wpAny _ _ (if(((sIx items.size 0 lo:Nat):Int)==0&&(1:Int)==1&&(sIx items.size items.size hi-sIx items.size 0 lo)==items.size)=true then _ else _) _ _ s
 rw[if_neg hno,ve]
 first
  |exact wpAny_bind (m:=Builtin.Tuple.tupleExact _) (wpAny_newObj_type (wpAny_pure ⟨_,rfl,wpAny_pure h⟩) htake)
  |exact wpAny_bind (m:=Builtin.Tuple.tupleExact _) (wpAny_newObj_type (wpAny_bind (wpAny_pure (wpAny_pure ⟨_,rfl,wpAny_pure h⟩))) htake)
  |exact wpAny_bind (wpAny_bind (m:=Builtin.Tuple.tupleExact _) (wpAny_newObj_type (wpAny_pure (wpAny_pure ⟨_,rfl,wpAny_pure h⟩)) htake))
  |exact wpAny_bind (wpAny_bind (m:=Builtin.Tuple.tupleExact _) (wpAny_newObj_type (wpAny_pure ⟨_,rfl,wpAny_pure h⟩) htake))
end
end HT
namespace L2
open PySem PySem.Spec PyProof.Rows
/-! ### the parts of a slice -/
abbrev TO:=St->Hp->(Option Int->Hp->Prop)->Prop
def PO (X:Cx) (e:Option Expr) (t:TO):Prop :=
 ∀ (pins:List (Addr×Obj)) (s:Shared) (σ:St) (H:Hp) (Q:Option Int->Hp->Prop),Inv X pins σ H s->t σ H Q ->
  wpAny (model X.prog X.w) X.A (evalPart e X.env) (fun u s'=>∃ o H',Inv X pins σ H' s'/\IsPart u o/\Q o H') X.xe s
def yC:TO:=fun _ H Q=>Q none H
def EO (t:TE):TO:=fun σ H Q=>t σ H fun x H1=>∃ i,x=.int i/\Q (some i) H1
section
variable {X:Cx} {e:Expr} {te:TE} {lo hi:Option Expr} {tl th:TO} {pos p2:Pos}
theorem yx:PO X none yC:=by
 intro pins s σ H Q I h
 rw[evalPart_none]
 exact wpAny_pure ⟨none,H,I,.none,h⟩
theorem yl (h:PE X e te):PO X (some e) (EO te):=by
 intro pins s σ H Q I hw
 rw[evalPart_some]
 refine thn (h pins s σ H _ I hw) fun u s1 ⟨x,H1,I1,r1,q1⟩=>?_
 obtain⟨i,rfl,q⟩:=q1
 obtain⟨t,rfl⟩:=r1
 exact⟨some i,H1,I1,.int i t,q⟩
def SlR (X:Cx) (r:V->Option Int->Option Int->Hp->VK->Prop):Prop :=
 ∀ (pins:List (Addr×Obj)) (s:Shared) (σ:St) (H:Hp) (x:V) (v vl vu:Value) (lo hi:Option Int) (sl:Addr) (Q:VK),Inv X pins σ H s->ap x v->s.heap.IsSliceOf sl vl vu .none->IsPart vl lo->IsPart vu hi->r x lo hi H Q ->
  ∃ T id,typeLookup (.type T) "__getitem__"=pure (some (.builtin id))/\s.TypeIs v T/\wpAny (model X.prog X.w) X.A (getItem v (.ref sl)) (EP X pins σ Q) X.xe s
theorem SlR.or {r r':V->Option Int->Option Int->Hp->VK->Prop} (h:SlR X r) (h':SlR X r'):SlR X (fun x lo hi H Q=>r x lo hi H Q∨r' x lo hi H Q):=by
 intro pins s σ H x v vl vu lo hi sl Q I rx hs pl pu q
 rcases q with q|q
 ·exact h pins s σ H x v vl vu lo hi sl Q I rx hs pl pu q
 ·exact h' pins s σ H x v vl vu lo hi sl Q I rx hs pl pu q
def tSl (r:V->Option Int->Option Int->Hp->VK->Prop) (te:TE) (tl th:TO):TE:=fun σ H Q=>te σ H fun x H1=>tl σ H1 fun l H2=>th σ H2 fun u H3=>r x l u H3 Q
theorem xz {r:V->Option Int->Option Int->Hp->VK->Prop} (hr:SlR X r) (he:PE X e te) (hl:PO X lo tl) (hu:PO X hi th):PE X (.Subscript e (.Slice lo hi none p2) pos) (tSl r te tl th):=by
 intro pins s σ H Q I h
 refine Subscript_ (thn (he pins s σ H _ I h) fun v s1 ⟨x,H1,I1,r1,q1⟩=>?_)
 refine wpAny_Slice (thn (hl pins s1 σ H1 _ I1 q1) fun vl s2 ⟨l,H2,I2,pl,q2⟩=>thn (hu pins s2 σ H2 _ I2 q2) fun vu s3 ⟨u,H3,I3,pu,q3⟩=>?_)
 rw[evalPart_none]
 refine wpAny_pure ?_
 have I4:Inv X pins σ H3 { s3 with heap:=s3.heap.push { cls:=.type "slice",data:=.fields #[vl,vu,.none] } }:=I3.kept (t':=s3.toks) fun b ob q=>Heap.get?_push_of_some _ q
 obtain⟨T,id,hT,ht,hg⟩:=hr pins { s3 with heap:=s3.heap.push { cls:=.type "slice",data:=.fields #[vl,vu,.none] } } σ H3 x v vl vu l u s3.heap.objs.size Q I4 r1 (Heap.IsSliceOf.new ..) pl pu q3
 show wpAny (model X.prog X.w) X.A (subscriptTail e (.Slice lo hi none p2) v (.ref s3.heap.objs.size)) (EP X pins σ Q) X.xe { s3 with heap:=s3.heap.push { cls:=.type "slice",data:=.fields #[vl,vu,.none] } }
 exact tail_any (ops:=[.ref s3.heap.objs.size,v]) ht hT hg (by with_unfolding_all rfl)
def oA (xs:List V) (lo hi:Option Int):List V:=(xs.drop (HT.sIx xs.length 0 lo)).take (HT.sIx xs.length xs.length hi-HT.sIx xs.length 0 lo)
theorem jQ (xs:List V) (lo hi:Option Int):(oA xs lo hi).length<=xs.length:=by
 unfold oA
 rw[List.length_take,List.length_drop]
 omega
def FN (K:PySem.W.Frag):V->Option Int->Option Int->Hp->VK->Prop:=fun x lo hi H Q=>∃ a xs,x=.ref a/\SqT K H a xs /\
 ¬ (HT.sIx xs.length 0 lo=0/\HT.sIx xs.length xs.length hi=xs.length)/\∀ p,H p=none->Q (.ref p) (upd H p (.tup (oA xs lo hi)))
theorem CL:SlR X (FN X.K):=by
 intro pins s σ H x v vl vu lo hi sl Q I rx hs pl pu h
 obtain⟨a,xs,rfl,hx,hw,q⟩:=h
 cases rx
 obtain⟨its,r,ht,hz⟩:=I.tuple hx
 have hlen:its.toArray.size=xs.length:=by rw[List.size_toArray];exact r.length.symm
 refine⟨"tuple",_,PyProof.Rows.slot_tuple_getitem.lookup,ht.typeIs,?_⟩
 refine HT.getItem_tuple_cut ht hs pl pu (by rw[hlen];exact hw) ?_ (by rw[hlen];exact hz)
 rw[hlen]
 refine⟨.ref s.heap.objs.size,_,I.laid (t':=s.toks) (o:=.tup (oA xs lo hi)) (fun b ob q=>Heap.get?_push_of_some _ q) (Nat.le_refl _) ?_,rfl,q _ (I.hok.fresh (Nat.le_refl _))⟩
 exact⟨Nat.le_trans (jQ xs lo hi) hz,_,(r.drop (HT.sIx xs.length 0 lo)).take (HT.sIx xs.length xs.length hi-HT.sIx xs.length 0 lo),lq.new _ _⟩
/-! ### t<u,t+u -/
def En (K:PySem.W.Frag):R2:=fun x y H Q=>∃ a b xs ys,x=.ref a/\y=.ref b/\SqT K H a xs/\SqT K H b ys/\xs≠[]/\xs.length+ys.length<=sizeLine /\
 (ys=[]->Q (.ref a) H)/\(ys≠[]->∀ p,H p=none->Q (.ref p) (upd H p (.tup (xs++ys))))
theorem aq.nil_iff {xs:List V} {us:List Value} (r:aq xs us):us=[]↔xs=[]:=by
 cases r with
 |nil=>simp
 |cons _ _=>simp
theorem z8:OpR X (binaryOp .Add) (En X.K):=by
 intro pins s σ H x y v u Q I rx ry h
 obtain⟨a,b,xs,ys,rfl,rfl,ha,hb,hx,hz,q1,q2⟩:=h
 cases rx
 cases ry
 obtain⟨its,r1,p1,_⟩:=I.tuple ha
 obtain⟨its2,r2,p2,_⟩:=I.tuple hb
 refine HT.cat_tup p1 p2 (fun z=>hx (r1.nil_iff.mp z)) (fun z=>⟨.ref a,H,I,rfl,q1 (r2.nil_iff.mp z)⟩) (fun z=>?_) (by rw[<-r1.length,<-r2.length];exact hz)
 refine⟨.ref s.heap.objs.size,_,I.laid (t':=s.toks) (o:=.tup (xs++ys)) (fun b ob q=>Heap.get?_push_of_some _ q) (Nat.le_refl _) ?_,rfl,q2 (fun w=>z (r2.nil_iff.mpr w)) _ (I.hok.fresh (Nat.le_refl _))⟩
 exact⟨by rw[List.length_append];exact hz,_,r1.append r2,lq.new _ _⟩
end
/-! ### places -/
def ixN (n:Nat) (i:Int):Option Nat:=if 0<=i then(if i<n then some i.toNat else none)else if -(n:Int)<=i then some (i+n).toNat else none
def atI {α:Type} (xs:List α) (i:Int):Option α:=(ixN xs.length i).bind fun j=>xs[j]?
theorem tp {n:Nat} {i:Int} {j:Nat} (h:ixN n i=some j):seqIndex? i n=some j/\j<n/\-(n:Int)<=i/\i<n:=by
 unfold ixN at h
 by_cases h0:0<=i
 ·rw[if_pos h0]at h
  by_cases h1:i<n
  ·rw[if_pos h1]at h
   have e:i.toNat=j:=Option.some.inj h
   exact⟨by rw[seqIndex_of h0 h1,e],by omega,by omega,h1⟩
  ·rw[if_neg h1]at h;cases h
 ·rw[if_neg h0]at h
  by_cases h1:-(n:Int)<=i
  ·rw[if_pos h1]at h
   have e:(i+n).toNat=j:=Option.some.inj h
   exact⟨by rw[seqIndex_neg (by omega) h1,e],by omega,h1,by omega⟩
  ·rw[if_neg h1]at h;cases h
theorem o6 {α:Type} {xs:List α} {i:Int} {v:α} (h:atI xs i=some v):∃ j,seqIndex? i xs.length=some j/\xs[j]?=some v/\j<xs.length/\-(xs.length:Int)<=i/\i<xs.length:=by
 unfold atI at h
 cases e:ixN xs.length i with
 |none=>rw[e]at h;cases h
 |some j =>
  rw[e]at h
  obtain⟨h1,h2,h3,h4⟩:=tp e
  exact⟨j,h1,h,h2,h3,h4⟩
theorem bX {α:Type} {xs:List α} {j:Nat} {v:α} (h:xs[j]?=some v):atI xs (j:Int)=some v:=by
 have hj:j<xs.length:=(List.getElem?_eq_some_iff.mp h).1
 have e:ixN xs.length (j:Int)=some j:=by
  unfold ixN
  rw[if_pos (by omega),if_pos (by omega)];simp
 unfold atI;rw[e];exact h
/-! ### what may be subscripted -/
def om (b:Expr):Prop:=∀ o i,subscripted b false o i=operate [o,i] (getItem o i)
def IxR (X:Cx) (r:R2):Prop :=
 ∀ (value slice:Expr) (pins:List (Addr×Obj)) (s:Shared) (σ:St) (H:Hp) (x y:V) (v u:Value) (Q:VK),Inv X pins σ H s->ap x v->ap y u->r x y H Q ->
  subscripted slice false v u=operate [v,u] (getItem v u)->wpAny (model X.prog X.w) X.A (subscriptTail value slice v u) (EP X pins σ Q) X.xe s
def MtR (X:Cx) (id:String) (r:V->List V->Hp->VK->Prop):Prop :=
 ∀ (pins:List (Addr×Obj)) (s:Shared) (σ:St) (H:Hp) (x:V) (xs:List V) (v:Value) (us:List Value) (Q:VK),Inv X pins σ H s->ap x v->aq xs us->r x xs H Q ->
  wpAny (model X.prog X.w) X.A (call (.builtin id) (v::us)) (EP X pins σ Q) X.xe s
section
variable {X:Cx} {a b:Expr} {ta tb:TE} {pos:Pos}
theorem IxR.or {r r':R2} (h:IxR X r) (h':IxR X r'):IxR X (fun x y H Q=>r x y H Q∨r' x y H Q):=by
 intro value slice pins s σ H x y v u Q I rx ry q hs
 rcases q with q|q
 ·exact h value slice pins s σ H x y v u Q I rx ry q hs
 ·exact h' value slice pins s σ H x y v u Q I rx ry q hs
theorem MtR.or {id:String} {r r':V->List V->Hp->VK->Prop} (h:MtR X id r) (h':MtR X id r'):MtR X id (fun x xs H Q=>r x xs H Q∨r' x xs H Q):=by
 intro pins s σ H x xs v us Q I rx rs q
 rcases q with q|q
 ·exact h pins s σ H x xs v us Q I rx rs q
 ·exact h' pins s σ H x xs v us Q I rx rs q
theorem Di {r:R2} (hr:IxR X r) (ha:PE X a ta) (hb:PE X b tb) (hs:om b):PE X (.Subscript a b pos) (tOp r ta tb):=by
 intro pins s σ H Q I h
 exact Subscript_ (AN ha hb I h fun v u s2 x y H2 I2 rx ry q=>hr a b pins s2 σ H2 x y v u Q I2 rx ry q (hs _ _))
def FP (K:PySem.W.Frag):R2:=fun x y H Q=>∃ p xs i v,x=.ref p/\y=.int i/\SqL K H p xs/\atI xs i=some v/\Q v H
def Fn (K:PySem.W.Frag):R2:=fun x y H Q=>∃ p xs i v,x=.ref p/\y=.int i/\SqT K H p xs/\atI xs i=some v/\Q v H
def FD:R2:=fun x y H Q=>∃ z i c,x=.str z/\y=.int i/\z.length<=sizeLine/\atI z.cps.toList i=some c/\Q (.str ⟨#[c]⟩) H
theorem s0:IxR X (FP X.K):=by
 intro value slice pins s σ H x y v u Q I rx ry h hs
 obtain⟨p,xs,i,z,rfl,rfl,hq,he,q⟩:=h
 cases rx
 obtain⟨t,rfl⟩:=ry
 obtain⟨its,r,pl,hz⟩:=I.list hq
 obtain⟨j,h1,h2,h3,h4,h5⟩:=o6 he
 obtain⟨w,ew,rw'⟩:=r.get h2
 have hl:=r.length
 have hn:=jE
 have fin:EP X pins σ Q w s:=⟨z,H,I,rw',q⟩
 by_cases h0:0<=i
 ·have hj:i.toNat=j:=by
   rw[seqIndex_of h0 h5]at h1
   exact Option.some.inj h1
  exact item_listR pl.isList h0 (by omega) (by rw[hj];simpa using ew) fin hs
 ·have hj:(i+(its.toArray.size:Int)).toNat=j:=by
   rw[seqIndex_neg (by omega) h4]at h1
   rw[List.size_toArray,<-hl]
   exact Option.some.inj h1
  exact subscriptTail_builtinR (x:=w) pl.isList.typeIs slot_list_getitem.lookup
   (wpAny_getItem_list_neg (Q:=fun r s'=>r=w/\EP X pins σ Q r s') pl.isList (by omega) (by rw[List.size_toArray]<;>omega) (by omega) (by rw[hj];simpa using ew) ⟨rfl,fin⟩) hs
theorem BD:IxR X (Fn X.K):=by
 intro value slice pins s σ H x y v u Q I rx ry h hs
 obtain⟨p,xs,i,z,rfl,rfl,hq,he,q⟩:=h
 cases rx
 obtain⟨t,rfl⟩:=ry
 obtain⟨its,r,pl,hz⟩:=I.tuple hq
 obtain⟨j,h1,h2,h3,h4,h5⟩:=o6 he
 obtain⟨w,ew,rw'⟩:=r.get h2
 have hl:=r.length
 have hn:=jE
 have fin:EP X pins σ Q w s:=⟨z,H,I,rw',q⟩
 exact subscriptTail_builtinR (x:=w) pl.typeIs slot_tuple_getitem.lookup
  (getItem_tuple (j:=j) (Q:=fun r s'=>r=w/\EP X pins σ Q r s') pl (by omega) (by omega) (by rw[List.size_toArray,<-hl];exact h1) (by simpa using ew) ⟨rfl,fin⟩) hs
theorem Bo:IxR X FD:=by
 intro value slice pins s σ H x y v u Q I rx ry h hs
 obtain⟨z,i,c,rfl,rfl,hz,he,q⟩:=h
 obtain⟨t,rfl⟩:=rx
 obtain⟨t',rfl⟩:=ry
 obtain⟨j,h1,h2,h3,h4,h5⟩:=o6 he
 have hl:z.cps.toList.length=z.length:=by simp[Str.length]
 rw[hl]at h1 h4 h5
 have hn:=jE
 exact tail_any (typeIs_str s z t) slot_str_getitem.lookup (getItem_str (c:=c) (by
  have e1:decide (i < -(2 ^ 63:Int))=false:=decide_eq_false (by omega)
  have e2:decide (i>=2 ^ 63)=false:=decide_eq_false (by omega)
  rw[e1,e2,Bool.or_false]) (by rw[h1];simpa using h2) ⟨.str ⟨#[c]⟩,H,I.tok _,⟨_,rfl⟩,q⟩) hs
/-! ### xs[i]=v,any sign -/
theorem rX (its:List Value) (n j:Nat) (u:Value):Obj.mapSeq (·.setIfInBounds j u) { cls:=.type "list",data:=.seq its.toArray n }={ cls:=.type "list",data:=.seq (its.set j u).toArray n }:=by
 simp[Obj.mapSeq]
theorem Inv.lst {pins:List (Addr×Obj)} {σ:St} {H:Hp} {s:Shared} {p:Addr} {xs:List V} (I:Inv X pins σ H s) (h:H p=some (.lst xs)) :
  ∃ (its:List Value) (n:Nat),aq xs its/\s.heap.get? p=some { cls:=.type "list",data:=.seq its.toArray n }/\xs.length<=sizeLine:=by
 obtain⟨z,its,n,r,e⟩:=I.hok p _ h
 exact⟨its,n,r,e,z⟩
theorem Inv.lstUpd {pins:List (Addr×Obj)} {σ:St} {H:Hp} {s:Shared} {p:Addr} {xs ys:List V} {its its':List Value} {n n':Nat} {f:Obj->Obj} (I:Inv X pins σ H s) (h:H p=some (.lst xs))
  (ho:s.heap.get? p=some { cls:=.type "list",data:=.seq its.toArray n }) (hf:f { cls:=.type "list",data:=.seq its.toArray n }={ cls:=.type "list",data:=.seq its'.toArray n' }) (r:aq ys its') (hz:ys.length<=sizeLine) (t:Nat) :
  Inv X pins σ (upd H p (.lst ys)) { s with heap:=s.heap.update p f,toks:=t }:=by
 have e:(s.heap.update p f).get? p=some { cls:=.type "list",data:=.seq its'.toArray n' }:=by
  rw[Heap.get?_update_self f ho (by rw[hf]<;>rfl),hf]
 refine I.write (x:=p) (e:=p) (by rw[h];trivial) (.inl rfl) (fun b u hb q=>(Heap.get?_update_other _ _ (Ne.symm hb)).trans q) ⟨_,e⟩ ?_
 exact⟨hz,its',n',r,e⟩
def DW:V->V->V->Hp->(Hp->Prop)->Prop:=fun o i v H Q=>∃ p xs k j,o=.ref p/\i=.int k/\H p=some (.lst xs)/\ixN xs.length k=some j/\Q (upd H p (.lst (xs.set j v)))
theorem wR:Dr X DW:=by
 intro pins s σ H o i v ov iv u Q I ro ri rv h
 obtain⟨p,xs,k,j,rfl,rfl,hp,hj,q⟩:=h
 cases ro
 obtain⟨t,rfl⟩:=ri
 obtain⟨its,n,r,ho,hz⟩:=I.lst hp
 obtain⟨h1,h2,h3,h4⟩:=tp hj
 have hl:=r.length
 have hn:=jE
 have I':Inv X pins σ (upd H p (.lst (xs.set j v))) { s with heap:=s.heap.update p (Obj.mapSeq (·.setIfInBounds j u)) } :=
  I.lstUpd hp ho (rX its n j u) (r.set rv j) (by rw[List.length_set];exact hz) s.toks
 by_cases h0:0<=k
 ·have hk:k.toNat=j:=by
   rw[seqIndex_of h0 h4]at h1
   exact Option.some.inj h1
  exact PySem.W.ki_setAt ho h0 (by omega) (by rw[List.size_toArray,<-hl];exact h4) (by rw[hk];exact⟨_,I',q⟩)
 ·have hk:(k+(its.toArray.size:Int)).toNat=j:=by
   rw[seqIndex_neg (by omega) h3]at h1
   rw[List.size_toArray,<-hl]
   exact Option.some.inj h1
  exact PySem.W.ki_setBack ho (by omega) (by rw[List.size_toArray,<-hl];exact h3) (by omega) (by rw[hk];exact⟨_,I',q⟩)
/-! ### slices -/
theorem oe (lo hi:Option Int) (n:Nat):(sliceBounds lo hi none n).1=((HT.sIx n 0 lo:Nat):Int)/\(sliceBounds lo hi none n).2.1=((HT.sIx n n hi:Nat):Int)/\(sliceBounds lo hi none n).2.2=1:=by
 refine⟨?_,?_,rfl⟩
 ·cases lo with
  |none=>simp[sliceBounds,HT.sIx]
  |some i =>
   simp only[sliceBounds,HT.sIx,Option.getD_none,show(1:Int) > 0 by decide,if_true]
   by_cases h:i<0
   ·simp only[h,if_true]<;>omega
   ·simp only[h,if_false]<;>omega
 ·cases hi with
  |none=>simp[sliceBounds,HT.sIx]
  |some i =>
   simp only[sliceBounds,HT.sIx,Option.getD_none,show(1:Int) > 0 by decide,if_true]
   by_cases h:i<0
   ·simp only[h,if_true]<;>omega
   ·simp only[h,if_false]<;>omega
theorem mI (its:List Value) (lo hi:Option Int):slicePick its.toArray lo hi none=((its.drop (HT.sIx its.length 0 lo)).take (HT.sIx its.length its.length hi-HT.sIx its.length 0 lo)).toArray:=by
 obtain⟨h1,h2,h3⟩:=oe lo hi its.toArray.size
 unfold slicePick
 rw[h1,h2,h3]
 simp only[sliceRange_one,pick_run,List.size_toArray]<;>rfl
def FO (K:PySem.W.Frag):V->Option Int->Option Int->Hp->VK->Prop:=fun x lo hi H Q=>∃ a xs,x=.ref a/\SqL K H a xs/\∀ p,H p=none->Q (.ref p) (upd H p (.lst (oA xs lo hi)))
theorem yw:SlR X (FO X.K):=by
 intro pins s σ H x v vl vu lo hi sl Q I rx hs pl pu h
 obtain⟨a,xs,rfl,hx,q⟩:=h
 cases rx
 obtain⟨its,r,ht,hz⟩:=I.list hx
 have hlen:=r.length
 refine⟨"list",_,slot_list_getitem.lookup,ht.isList.typeIs,?_⟩
 refine wpAny_getItem_list_slice ht.isList hs pl pu .none (by simp) ?_ (by rw[List.size_toArray]<;>omega)
 rw[mI,<-hlen]
 refine⟨.ref s.heap.objs.size,_,I.laid (t':=s.toks) (o:=.lst (oA xs lo hi)) (fun b ob q=>Heap.get?_push_of_some _ q) (Nat.le_refl _) ?_,rfl,q _ (I.hok.fresh (Nat.le_refl _))⟩
 exact⟨Nat.le_trans (jQ xs lo hi) hz,_,0,(r.drop (HT.sIx xs.length 0 lo)).take (HT.sIx xs.length xs.length hi-HT.sIx xs.length 0 lo),Heap.get?_push_size _ rfl⟩
/-! ### in,not in: flat items -/
def gg:V->Bool
 |.non=>true
 |.bl _=>true
 |.int _=>true
 |.str _=>true
 |_=>false
def eqV:V->V->Bool
 |.non,.non=>true
 |.bl a,.bl b=>a==b
 |.bl a,.int b=>(if a then 1 else 0)==b
 |.int a,.bl b=>a==(if b then 1 else 0)
 |.int a,.int b=>a==b
 |.str a,.str b=>a==b
 |_,_=>false
theorem A9 {A:Around} {s:Shared} {y x:V} {u v:Value} (ry:ap y u) (rx:ap x v) (fy:gg y=true) (fx:gg x=true):SeqAt.EqAt A s u v (eqV y x):=by
 cases y with
 |non =>
  cases ry
  cases x with
  |non=>cases rx;exact SeqAt.EqAt.same _
  |bl b=>cases rx;exact SeqAt.EqAt.none_bool b
  |int b=>obtain⟨t,rfl⟩:=rx;exact SeqAt.EqAt.none_int b t
  |str b=>obtain⟨t,rfl⟩:=rx;exact SeqAt.EqAt.none_str b t
  |_=>exact absurd (show false=true from fx) Bool.false_ne_true
 |bl a =>
  cases ry
  cases x with
  |non=>cases rx;exact SeqAt.EqAt.bool_none a
  |bl b=>cases rx;exact SeqAt.EqAt.bool_bool a b
  |int b=>obtain⟨t,rfl⟩:=rx;exact SeqAt.EqAt.bool_int a b t
  |str b=>obtain⟨t,rfl⟩:=rx;exact SeqAt.EqAt.bool_str a b t
  |_=>exact absurd (show false=true from fx) Bool.false_ne_true
 |int a =>
  obtain⟨t',rfl⟩:=ry
  cases x with
  |non=>cases rx;exact SeqAt.EqAt.int_none a t'
  |bl b=>cases rx;exact SeqAt.EqAt.int_bool a t' b
  |int b=>obtain⟨t,rfl⟩:=rx;exact SeqAt.EqAt.int_int a t' b t
  |str b=>obtain⟨t,rfl⟩:=rx;exact SeqAt.EqAt.int_str a t' b t
  |_=>exact absurd (show false=true from fx) Bool.false_ne_true
 |str a =>
  obtain⟨t',rfl⟩:=ry
  cases x with
  |non=>cases rx;exact SeqAt.EqAt.str_none a t'
  |bl b=>cases rx;exact SeqAt.EqAt.str_bool a t' b
  |int b=>obtain⟨t,rfl⟩:=rx;exact SeqAt.EqAt.str_int a t' b t
  |str b=>obtain⟨t,rfl⟩:=rx;exact SeqAt.EqAt.str_str a t' b t
  |_=>exact absurd (show false=true from fx) Bool.false_ne_true
 |_=>exact absurd (show false=true from fy) Bool.false_ne_true
def eqU (x:V) (u:Value):Bool:=match u with
 |.none=>eqV .non x
 |.bool b=>eqV (.bl b) x
 |.int i _=>eqV (.int i) x
 |.str z _=>eqV (.str z) x
 |_=>false
theorem vc {x y:V} {u:Value} (r:ap y u) (f:gg y=true):eqU x u=eqV y x:=by
 cases y with
 |non=>cases r;rfl
 |bl b=>cases r;rfl
 |int i=>obtain⟨t,rfl⟩:=r;rfl
 |str z=>obtain⟨t,rfl⟩:=r;rfl
 |_=>exact absurd (show false=true from f) Bool.false_ne_true
theorem i8 {x:V}:∀ {xs:List V} {us:List Value},aq xs us->xs.all gg=true->us.any (eqU x)=xs.any fun y=>eqV y x
 |_,_,.nil,_=>rfl
 |y::xs,u::us,.cons r t,f=>by
  rw[List.all_cons,Bool.and_eq_true]at f
  rw[List.any_cons,List.any_cons,vc r f.1,i8 t f.2]
theorem gd {A:Around} {s:Shared} {x:V} {v:Value} (rx:ap x v) (fx:gg x=true):∀ {xs:List V} {us:List Value},aq xs us->xs.all gg=true->∀ u∈us,SeqAt.EqAt A s u v (eqU x u)
 |_,_,.nil,_=>fun u hu=>by cases hu
 |y::xs,u::us,.cons r t,f=>fun u' hu=>by
  rw[List.all_cons,Bool.and_eq_true]at f
  rcases List.mem_cons.mp hu with rfl|hu
  ·rw[vc r f.1];exact A9 r rx f.1 fx
  ·exact gd rx fx t f.2 u' hu
def inV (x:V) (xs:List V):Bool:=xs.any fun y=>eqV y x
def rIn (K:PySem.W.Frag) (neg:Bool):R2:=fun x y H Q=>∃ p xs,y=.ref p/\(SqL K H p xs∨SqT K H p xs)/\gg x=true/\xs.all gg=true/\Q (.bl (if neg then !inV x xs else inV x xs)) H
theorem ul:OpR X (compareOp .In) (rIn X.K false):=by
 intro pins s σ H x y v u Q I rx ry h
 obtain⟨p,xs,rfl,hq,fx,fs,q⟩:=h
 cases ry
 rcases hq with hq|hq
 ·obtain⟨its,r,pl,hz⟩:=I.list hq
  refine SeqAt.in_listAt (eqU x) pl.isList (fun w hw=>gd rx fx r fs w (by simpa using hw)) ⟨.bl _,H,I,rfl,?_⟩
  rw[show its.toArray.any (eqU x)=its.any (eqU x)by simp,i8 r fs]
  exact q
 ·obtain⟨its,r,pl,hz⟩:=I.tuple hq
  refine SeqAt.in_tupleAt (eqU x) pl (fun w hw=>gd rx fx r fs w (by simpa using hw)) ⟨.bl _,H,I,rfl,?_⟩
  rw[show its.toArray.any (eqU x)=its.any (eqU x)by simp,i8 r fs]
  exact q
theorem oG:OpR X (compareOp .NotIn) (rIn X.K true):=by
 intro pins s σ H x y v u Q I rx ry h
 obtain⟨p,xs,rfl,hq,fx,fs,q⟩:=h
 cases ry
 rcases hq with hq|hq
 ·obtain⟨its,r,pl,hz⟩:=I.list hq
  refine SeqAt.notIn_listAt (eqU x) pl.isList (fun w hw=>gd rx fx r fs w (by simpa using hw)) ⟨.bl _,H,I,rfl,?_⟩
  rw[show its.toArray.any (eqU x)=its.any (eqU x)by simp,i8 r fs]
  exact q
 ·obtain⟨its,r,pl,hz⟩:=I.tuple hq
  refine SeqAt.notIn_tupleAt (eqU x) pl (fun w hw=>gd rx fx r fs w (by simpa using hw)) ⟨.bl _,H,I,rfl,?_⟩
  rw[show its.toArray.any (eqU x)=its.any (eqU x)by simp,i8 r fs]
  exact q
/-! ### len,list(x),tuple(x) of any list or tuple that is read -/
theorem nY:cS X (.builtin "len") (fun xs H Q=>∃ p ys,xs=[.ref p]/\(SqL X.K H p ys∨SqT X.K H p ys)/\Q (.int ys.length) H):=by
 intro pins s σ H xs us Q I r h
 obtain⟨p,ys,rfl,hq,q⟩:=h
 obtain⟨u,rfl,rx⟩:=kP r
 cases rx
 have hn:=jE
 rcases hq with hq|hq
 ·obtain⟨its,r',pl,hz⟩:=I.list hq
  have hlen:=r'.length
  exact Calls.call_len_list pl.isList (by simp only[List.size_toArray]<;>omega) ⟨.int ys.length,H,I.tok _,⟨s.toks+1,by rw[List.size_toArray,hlen]⟩,q⟩
 ·obtain⟨its,r',pl,hz⟩:=I.tuple hq
  have hlen:=r'.length
  exact len_tuple pl (by simp only[List.size_toArray]<;>omega) ⟨.int ys.length,H,I.tok _,⟨s.toks+1,by rw[List.size_toArray,hlen]⟩,q⟩
theorem oo:cS X (.builtin "len") (fun xs H Q=>∃ z,xs=[.str z]/\z.length<=sizeLine/\Q (.int z.length) H):=by
 intro pins s σ H xs us Q I r h
 obtain⟨z,rfl,hz,q⟩:=h
 obtain⟨u,rfl,t,rfl⟩:=kP r
 have hn:=jE
 exact len_str (by omega) ⟨.int z.length,H,I.tok _,⟨_,rfl⟩,q⟩
theorem cS.or {f:Value} {r r':List V->Hp->VK->Prop} (h:cS X f r) (h':cS X f r'):cS X f (fun xs H Q=>r xs H Q∨r' xs H Q):=by
 intro pins s σ H xs us Q I rs q
 rcases q with q|q
 ·exact h pins s σ H xs us Q I rs q
 ·exact h' pins s σ H xs us Q I rs q
theorem mt:cS X (.type "tuple") (fun xs H Q=>∃ p ys,xs=[.ref p]/\((SqL X.K H p ys/\∀ l,H l=none->Q (.ref l) (upd H l (.tup ys)))∨(SqT X.K H p ys/\Q (.ref p) H))):=by
 intro pins s σ H xs us Q I r h
 obtain⟨p,ys,rfl,h⟩:=h
 obtain⟨u,rfl,rx⟩:=kP r
 cases rx
 rcases h with⟨hq,q⟩|⟨hq,q⟩
 ·obtain⟨its,r',pl,hz⟩:=I.list hq
  have hlen:=r'.length
  refine call_tuple_list pl.isList (fun h' kp=>?_) (by simp only[List.size_toArray]<;>omega)
  have I1:Inv X pins σ H { s with heap:=h' }:=I.kept (t':=s.toks) kp
  have I2:Inv X pins σ (upd H h'.objs.size (.tup ys)) { s with heap:=h'.push { cls:=.type "tuple",data:=.seq its.toArray } } :=
   I1.laid (t':=s.toks) (fun b o e=>Heap.get?_push_of_some _ e) (Nat.le_refl _) (show bL X.prog X.w _ _ _ (.tup ys)from⟨hz,its,r',lq.new _ _⟩)
  exact⟨.ref h'.objs.size,_,I2,rfl,q _ (I1.hok.fresh (Nat.le_refl _))⟩
 ·obtain⟨its,r',pl,hz⟩:=I.tuple hq
  exact call_tuple_same pl ⟨.ref p,H,I,rfl,q⟩
/-! ### the call of a builtin's method: o.m(..) -/
def tyV (K:PySem.W.Frag) (T:String) (x:V) (H:Hp):Prop:=match x with
 |.str _=>T="str"
 |.int _=>T="int"
 | .ref p => (T = "list" ∧ ∃ xs,SqL K H p xs) ∨ (T = "tuple" ∧ ∃ o,K.lookup p = some o ∧ o.cls = .type "tuple" ∧ o.dict = none) ∨
   (T="dict"/\((∃ kvs,H p=some (.dK kvs))∨∃ kvs,H p=some (.dT kvs)))∨(T="set"/\∃ S n,H p=some (.set S n))
 |_=>False
theorem AR {pins:List (Addr×Obj)} {σ:St} {H:Hp} {s:Shared} {T:String} {x:V} {v:Value} (I:Inv X pins σ H s) (r:ap x v) (ty:tyV X.K T x H) :
  s.TypeIs v T/\∀ a,v=.ref a->∃ ob,s.heap.get? a=some ob/\ob.dict=none:=by
 cases x with
 |str z =>
  obtain⟨t,rfl⟩:=r
  cases(show T="str" from ty)
  exact⟨typeIs_str s z t,fun _ e=>nomatch e⟩
 |int i =>
  obtain⟨t,rfl⟩:=r
  cases(show T="int" from ty)
  exact⟨typeIs_int s i t,fun _ e=>nomatch e⟩
 |ref p =>
  cases r
  rcases ty with⟨rfl,xs,hq⟩|⟨rfl,o,hk,hc,hd⟩|⟨rfl,hk⟩|⟨rfl,S,n,hk⟩
  ·obtain⟨its,_,pl,_⟩:=I.list hq
   refine⟨pl.isList.typeIs,fun a e=>?_⟩
   cases e
   obtain⟨o,n,e,c,hd,_⟩:=pl
   exact⟨o,e,hd⟩
  ·refine⟨⟨o,I.kIn p o hk,hc⟩,fun a e=>?_⟩
   cases e
   exact⟨o,I.kIn _ o hk,hd⟩
  ·have z:∃ o,s.heap.get? p=some o/\o.ExactDict:=by
    rcases hk with⟨kvs,hk⟩|⟨kvs,hk⟩
    ·obtain⟨_,_,_,_,o,_,_,e,ex,_⟩:=I.hok p _ hk
     exact⟨o,e,ex⟩
    ·obtain⟨_,_,_,_,o,_,_,e,ex,_⟩:=I.hok p _ hk
     exact⟨o,e,ex⟩
   obtain⟨o,e,ex⟩:=z
   refine⟨⟨o,e,ex.1⟩,fun a e2=>?_⟩
   cases e2
   exact⟨o,e,ex.2.1⟩
  ·obtain⟨o,_,_,_,e,ex,_⟩:=I.hok p _ hk
   refine⟨⟨o,e,ex.1⟩,fun a e2=>?_⟩
   cases e2
   exact⟨o,e,ex.2.1⟩
 |_=>exact False.elim ty
def tBM (K:PySem.W.Frag) (T:String) (r:V->List V->Hp->VK->Prop) (to:TE) (t:TA):TE:=fun σ H Q=>to σ H fun x H1=>tyV K T x H1/\t σ H1 fun xs H2=>r x xs H2 Q
variable {o e:Expr} {es:List Expr} {to:TE} {t:TA} {name:Str} {apos cpos:Pos} {T id:String} {r:V->List V->Hp->VK->Prop}
theorem vo (pa:PlainAttrs T) (slot:Slot T name id) (hty:typeOf (.builtin id)=pure (.type "method_descriptor")) (hm:MtR X id r) (ho:PE X o to) (ha:PA X (e::es) t)
  (hbase:attributeBase o name X.env (eval o X.env)=eval o X.env:=by rfl)
  (hfew:((backTo cpos (starEach (e :: es) X.env)).all (fun x => !x.1) && (backToKw cpos (keywordEach [] X.env)).all (fun x => x.1.isSome)
  &&decide ((e::es).length+([]:List Keyword).length+(if([]:List Keyword).isEmpty then 0 else 1)<30))=true:=by rfl)
  (hline:(apos.endLine==cpos.line)=true:=by rfl) (hs:starEach (e::es) X.env=(false,eval e X.env)::starEach es X.env:=by rfl) (hplain:(backTo cpos (starEach es X.env)).any (·.1)=false:=by rfl) :
  PE X (.Call (.Attribute o name apos) (e::es) [] cpos) (tBM X.K T r to t):=by
 intro pins s σ H Q I h
 refine wpAny_Call_method_late hbase hfew hline rfl (thn (ho pins s σ H _ I h) fun v s1 ⟨x,H1,I1,r1,ty,q1⟩=>?_)
 obtain⟨h1,h2⟩:=AR I1 r1 ty
 refine⟨T,id,pa,slot,hty,h1,h2,?_⟩
 have hA:=ha cpos pins s1 σ H1 _ I1 q1
 rw[hs]at hA ⊢
 refine Calls.callWith_builtin (by show(false || (backTo cpos (starEach es X.env)).any (·.1))=false;rw[hplain]<;>rfl) (Calls.evalArgs_plain ?_)
 exact thn hA fun us s2 ⟨vs,H2,I2,r2,q2⟩=>hm pins s2 σ H2 x vs v us Q I2 r1 r2 q2
/- xs.append(e),list.index on a module's tuple .. are MtR facts of 06m -/
end
def MtM (X:Cx) (id:String) (r:V->List V->Hp->VK->Prop):Prop :=
 ∀ (pins:List (Addr×Obj)) (s:Shared) (σ:St) (H:Hp) (x:V) (xs:List V) (v:Value) (us:List Value) (Q:VK),Inv X pins σ H s->ap x v->aq xs us->r x xs H Q ->
  wpAny (model X.prog X.w) X.A (call (.builtin id) (v::us)) (EP X pins σ Q) X.xe s
/-! ### lists of values -/
theorem aq.un {x:V} {xs:List V} {us:List Value} (h:aq (x::xs) us):∃ u vs,us=u::vs/\ap x u/\aq xs vs:=by
 cases h with
 |cons r t=>exact⟨_,_,rfl,r,t⟩
theorem aq.one {x:V} {us:List Value} (h:aq [x] us):∃ u,us=[u]/\ap x u:=by
 obtain⟨u,vs,rfl,r,t⟩:=h.un
 cases t
 exact⟨u,rfl,r⟩
theorem aq.two {x y:V} {us:List Value} (h:aq [x,y] us):∃ u v,us=[u,v]/\ap x u/\ap y v:=by
 obtain⟨u,vs,rfl,r,t⟩:=h.un
 obtain⟨v,rfl,q⟩:=t.one
 exact⟨u,v,rfl,r,q⟩
theorem aq.zero:∀ {us:List Value},aq [] us->us=[]
 |_,.nil=>rfl
theorem aq.reverse {xs:List V} {us:List Value} (h:aq xs us):aq xs.reverse us.reverse:=by
 induction h with
 |nil=>exact .nil
 |cons r t ih=>rw[List.reverse_cons,List.reverse_cons];exact aq.append ih (.cons r .nil)
theorem aq.rep {xs:List V} {us:List Value} (h:aq xs us):∀ k:Nat,aq (List.replicate k xs).flatten (List.replicate k us).flatten
 |0=>.nil
 |k+1=>by
  rw[List.replicate_succ,List.replicate_succ,List.flatten_cons,List.flatten_cons]
  exact aq.append h (aq.rep h k)
theorem jv (its:List Value):∀ (k:Nat) (acc:List Value),
  List.foldl (fun x1 x2=>x1++x2) acc.toArray (List.replicate k its.toArray)=(acc++(List.replicate k its).flatten).toArray
 |0,acc=>by simp
 |k+1,acc=>by
  have e:acc.toArray++its.toArray=(acc++its).toArray:=by simp
  have e2:(acc++its)++(List.replicate k its).flatten=acc++(List.replicate (k+1) its).flatten:=by
   rw[List.replicate_succ,List.flatten_cons,List.append_assoc]
  rw[<-e2,<-jv its k (acc++its),<-e,List.replicate_succ,List.foldl_cons]
section
variable {X:Cx} {pins:List (Addr×Obj)} {σ:St} {H:Hp} {s:Shared} {l b:Addr} {xs ys zs:List V}
/-! ### the two steps: a tracked list is rewritten,a new list is laid -/
theorem Inv.lset {its its':List Value} {n:Nat} {f:Array Value->Array Value} {t':Nat} (I:Inv X pins σ H s) (hH:H l=some (.lst xs))
  (e:s.heap.get? l=some { cls:=.type "list",data:=.seq its.toArray n }) (hf:f its.toArray=its'.toArray) (hv:aq ys its') (hz:ys.length<=sizeLine) :
  Inv X pins σ (upd H l (.lst ys)) { s with heap:=s.heap.update l (Obj.mapSeq f),toks:=t' }:=by
 have q:=PySem.IsL.update e f
 rw[hf]at q
 refine I.write (x:=l) (e:=l) (by rw[hH];exact trivial) (.inl rfl) (fun b' u hb hu=>(Heap.get?_update_other s.heap (Obj.mapSeq f) (Ne.symm hb)).trans hu) ⟨_,q⟩ ?_
 exact⟨hz,its',_,hv,q⟩
theorem Inv.lnew {its:List Value} {t':Nat} (I:Inv X pins σ H s) (hv:aq ys its) (hz:ys.length<=sizeLine) :
  Inv X pins σ (upd H s.heap.objs.size (.lst ys)) { s with heap:=s.heap.push { cls:=.type "list",data:=.seq its.toArray },toks:=t' } :=
 I.laid (fun _ _ q=>Heap.get?_push_of_some _ q) (Nat.le_refl _) ⟨hz,its,0,hv,Heap.get?_push_size _ rfl⟩
theorem Inv.fresh (I:Inv X pins σ H s):H s.heap.objs.size=none:=I.hok.fresh (Nat.le_refl _)
theorem Inv.lstM (I:Inv X pins σ H s) (hH:H l=some (.lst xs)):xs.length<=sizeLine/\∃ (its:List Value) (n:Nat),aq xs its/\xs.length=its.length/\s.heap.get? l=some { cls:=.type "list",data:=.seq its.toArray n }:=by
 obtain⟨z,its,n,r,e⟩:=I.hok l _ hH
 exact⟨z,its,n,r,r.length,e⟩
theorem vZ {n:Nat} (h:n<=sizeLine):Builtin.List.listTooLong n=false:=by
 unfold Builtin.List.listTooLong
 exact decide_eq_false (by omega)
end
section
variable {X:Cx}
/-! ### methods -/
def sM:V->List V->Hp->VK->Prop:=fun x vs H Q=>∃ l xs y,x=.ref l/\vs=[y]/\H l=some (.lst xs)/\xs.length<sizeLine/\Q .non (upd H l (.lst (xs++[y])))
theorem uX:MtM X "list.append" sM:=by
 intro pins s σ H x vs v us Q I rx rv h
 obtain⟨l,xs,y,rfl,rfl,hH,hz,q⟩:=h
 cases rx
 obtain⟨u,rfl,ru⟩:=rv.one
 obtain⟨z,its,n,r,hl,e⟩:=I.lstM hH
 refine call_meets F.slot_list_append ⟨_,e,rfl⟩ F.entry_list_append (F.args_list_append_2 _ _) (PySem.list_append l its.toArray n u (by rw[List.size_toArray];omega)) ⟨e,?_⟩
 refine⟨.non,_,I.lset (its':=its++[u]) hH e (by simp) (r.append (.cons ru .nil)) ?_,rfl,q⟩
 rw[List.length_append,List.length_singleton]
 omega
/-! ### list+list,list += list,list*int -/
def FU:R2:=fun x y H Q=>∃ l b xs zs,x=.ref l/\y=.ref b/\H l=some (.lst xs)/\H b=some (.lst zs)/\xs.length+zs.length<=sizeLine/\∀ p,H p=none->Q (.ref p) (upd H p (.lst (xs++zs)))
theorem BL:OpR X (binaryOp .Add) FU:=by
 intro pins s σ H x y v u Q I rx ry h
 obtain⟨l,b,xs,zs,rfl,rfl,hH,hB,hz,q⟩:=h
 cases rx
 cases ry
 obtain⟨z,its,n,r,hl,e⟩:=I.lstM hH
 obtain⟨z2,its2,n2,r2,hl2,e2⟩:=I.lstM hB
 refine PySem.P.add_list e e2 ?_ (by rw[List.size_toArray,List.size_toArray];omega)
 have ea:its.toArray++its2.toArray=(its++its2).toArray:=by simp
 rw[ea]
 exact⟨.ref _,_,I.lnew (t':=s.toks) (r.append r2) (by rw[List.length_append];omega),rfl,q _ I.fresh⟩
def FR:R2:=fun x y H Q=>∃ l k xs,x=.ref l/\y=.int k/\H l=some (.lst xs)/\-(2 ^ 63)<=k/\k<2 ^ 63/\xs.length*k.toNat<=sizeLine /\
 ∀ p,H p=none->Q (.ref p) (upd H p (.lst (List.replicate k.toNat xs).flatten))
theorem nW {α:Type} (xs:List α) (k:Nat):(List.replicate k xs).flatten.length=k*xs.length:=by
 induction k with
 |zero=>simp
 |succ k ih=>rw[List.replicate_succ,List.flatten_cons,List.length_append,ih,Nat.succ_mul,Nat.add_comm]
theorem CS:OpR X (binaryOp .Mult) FR:=by
 intro pins s σ H x y v u Q I rx ry h
 obtain⟨l,k,xs,rfl,rfl,hH,h1,h2,hz,q⟩:=h
 cases rx
 obtain⟨t,rfl⟩:=ry
 obtain⟨z,its,n,r,hl,e⟩:=I.lstM hH
 have hlen:its.toArray.size*k.toNat<=sizeLine:=by rw[List.size_toArray,<-hl];exact hz
 have hcap:¬ its.toArray.size*k.toNat > (2 ^ 63-1) / 8:=by
  have:(sizeLine:Nat)<=(2 ^ 63-1) / 8:=by decide
  omega
 have hfit:¬ (!Builtin.List.listFitsIndex k)=true:=by
  rw[fitsIndex_both h1 h2]
  exact Bool.false_ne_true
 have hlong:¬ Builtin.List.listTooLong (its.toArray.size*k.toNat)=true:=by
  rw[vZ hlen]
  exact Bool.false_ne_true
 have hnew:List.foldl (fun x1 x2=>x1++x2) #[] (List.replicate (if its.toArray.isEmpty=true then 0 else k.toNat) its.toArray)=(List.replicate k.toNat its).flatten.toArray:=by
  have f0:∀ m:Nat,List.foldl (fun x1 x2=>x1++x2) #[] (List.replicate m its.toArray)=(List.replicate m its).flatten.toArray:=fun m=>by
   have:=jv its m []
   rw[List.nil_append]at this
   exact this
  rw[f0]
  cases its with
  |nil=>simp
  |cons a r'=>rw[if_neg (by simp)]
 refine wpAny_binaryOp_repeat_ref (T:="list") (U:="int") (by decide) ⟨_,e,rfl⟩ (fun s'=>typeIs_int s' k t) noFill_list_mul F.fills_int_mul F.slot_int_rmul repeat_list F.slot_int_index.lookup
  (call_meets F.slot_int_rmul (typeIs_int s k t) F.entry_int_rmul (F.args_int_rmul_2 _ _) (int___rmul___int_list k t l its.toArray n)
   ⟨e,rfl,⟨_,e,rfl⟩,call_meets F.slot_list_mul ⟨_,e,rfl⟩ F.entry_list_mul (F.args_list_mul_2 _ _) (AutoListH.list___mul___list_int_3 l its.toArray n k t hfit hcap hlong) ⟨e,?_⟩⟩)
 rw[hnew]
 exact⟨.ref _,_,I.lnew (t':=s.toks) (r.rep k.toNat) (by rw[nW,Nat.mul_comm];exact hz),rfl,q _ I.fresh⟩
/-! ### del xs[i] -/
end
/-! ### xs[a:b]=ys -/
section
variable {prog:Program} {w:World} {A:Around} {E:Value->Shared->Prop} {s:Shared}
set_option maxRecDepth 100000 in
end
end L2
namespace Att
open PySem PySem.W PySem.Calls PyProof.Rows
/-! ### the script -/
theorem ki {P:Params} {h:Heap}:∀ (ns:List Int) (vs:List Value),WellAll P h vs (ns.map WData.int)->IntsAre vs ns:=by
 intro ns
 induction ns with
 |nil =>
  intro vs w
  rw[List.map_nil]at w
  cases w
  exact .nil
 |cons n ns ih =>
  intro vs w
  rw[List.map_cons]at w
  cases w with
  |cons a b =>
   cases a
   exact .cons _ _ (ih _ b)
theorem uH {l:OpenLaw} {n:Nat} (hn:l.most=some n) {P:Params} {h:Heap} {args:List WData} {vals:List Value}
  (hpre:l.row.toRowW.claim.pre args=true) (hwl:WellAll P h vals args) :
  ∃ a vs ns,vals=[Value.ref a]/\args=[WData.list (ns.map WData.int)]/\h.get? a=some { cls:=.type "list",data:=.seq vs.toArray }/\IntsAre vs ns/\ns.length<=n:=by
 have hsh:WShape.hasAll [] args [.list .int]=true:=(pre_splitW hpre).1
 have hc:l.pre.holds [] { args:=args }=true:=(pre_splitW hpre).2
 obtain⟨d,r,rfl,h1,h2⟩:=hasAllW_cons hsh
 obtain rfl:=hasAllW_nil h2
 obtain⟨xs,rfl,h3⟩:=hasW_list h1
 obtain⟨ns,rfl⟩:=items_int h3
 have hlen:ns.length<=n:=by
  unfold OpenLaw.pre at hc
  have h4:(WTm.not (.lt (.lit (.int (n:Int))) (.len (.arg 0)))).holds [] { args:=[.list (ns.map .int)] }=true:=by
   have h4:=(holds_andW hc).1
   rw[hn]at h4
   exact h4
  have h5:=condW_of h4 (w_not (w_lt w_lit (w_len_list (w_arg rfl))))
  rw[List.length_map]at h5
  refine Nat.le_of_not_lt fun q=>?_
  have q':(n:Int)<((ns.length:Nat):Int):=by omega
  first
   |(rw[decide_eq_true q']at h5;exact absurd h5 (by decide))
   |(simp at h5;omega)
 cases hwl with
 |cons w1 w2 =>
  cases w2
  cases w1 with
  |list ho hall=>exact⟨_,_,ns,rfl,rfl,ho,ki ns _ hall,hlen⟩
theorem u8 (l:OpenLaw) (args:List WData):l.row.toRowW.claim.post args (.bool true) args=true :=
 postW_of (r:=l.row.toRowW) (X:=(true==true))
  (show WShape.has [] (.bool true) .bool=true by first|rfl|decide|simp[WShape.has,WShape.arms,WShape.armsAll])
  (show(WTm.eq .res (.lit (.bool true))).value [] { args:=args,res:=some (.bool true),after:=args }=some (.bool (true==true))from w_eq_bool (w_res rfl) w_lit) rfl
/-! ### the attachment: holds_open's last premise (the goal 'hc' behind k_head)from a wpAny of the law's body -/
theorem attach_call {l:OpenLaw} {n:Nat} {q:Program} {loose:List Str} {XP:(Str->Option Value)->Heap->Prop} {YP:World->Heap->Prop} {d:DefRec}
  (hn:l.most=some n) (hdf:d.params.defaults=[])
  (call:∀ (w:World) (s₀ s₁:Shared) (mg mb:Str → Option Value) (fa:Addr) (o:Obj) (pm cd doc:Value) (a:Addr) (vs:List Value) (ns:List Int),
   Ground q loose [] XP w s₀ mg mb s₁.heap->YP w s₁.heap ->
   s₁.heap.get? fa=some o->o.data=.func (docDef d.name d.params d.body d.scope pm cd doc)->s₁.heap.CodeRec cd d.name->mg d.name=some (.ref fa) ->
   s₁.heap.get? a=some { cls:=.type "list",data:=.seq vs.toArray }->IntsAre vs ns->ns.length<=n->s₁.gens=#[] ->
   codeAny (model l.prog w) callerA (.call (.ref fa) ⟨[.ref a],[]⟩) (fun r s'=>r=.ok (.ret (.bool true))/\OldK s₁.heap s'.heap/\s'.os=s₁.os/\AllBare s'.gens) s₁) :
  WalkO q loose XP YP l.row.toRowW d [] (fun f vs=>PySem.call f vs):=by
 intro w s₀ s₁ mg mb G Y fa o pm cd doc dV kV ho hd hcd hD hmg hg args vals as hpre hlay hrd hwl hlo
 obtain rfl:dV=.none:=Dflts.none hD hdf
 obtain rfl:kV=.none:=Dflts.noKw hD
 obtain⟨a,vs,ns,rfl,rfl,hobj,hints,hlen⟩:=uH hn hpre hwl
 refine enter_call (codeAny_mono (call w s₀ s₁ mg mb fa o pm cd doc a vs ns G Y ho (fd_plain hd) hcd hmg hobj hints hlen hg) fun r s' hq=>?_)
 obtain⟨rfl,h2,h3,h4⟩:=hq
 exact⟨.inl ⟨.bool true,.bool true,[],rfl,fun _=>rfl,.bool true,u8 l _,fun _=>⟨List.Pairwise.nil,fun _ hm=>(nomatch hm)⟩⟩,h2,h3,h4⟩
/-! ### rules over ANY heap (no ledger)from facts about the written part K: the library's own take a ledger (News) for what they write -/
section
variable {prog:Program} {w:World} {A:Around} {E:Value->Shared->Prop} {s:Shared} {K:Frag}
/-! the whole heap as the ledger: makes every rule that writes through a ledger a rule over any heap -/
end
end Att
namespace L2
open PySem PySem.Spec PyProof.Rows
theorem nc:∀ {vs:List Value} {ns:List Int},IntsAre vs ns->aq (ns.map V.int) vs
 |_,_,.nil=>.nil
 |_,_,.cons n t h=>.cons ⟨t,rfl⟩ (nc h)
def zl (H:Hp):Prop:=∀ b,H b=none∨∃ o xs,H b=some (.frz o (.lst xs))
theorem wl {P:Program} {w:World} {K:PySem.W.Frag} {mg mb:Str->Option Value} {CX:CXT} {k:Nat} {fa a:Addr} {fd:FuncData} {x:Str} {sp:Sp} {s₁:Shared} {vs:List Value} {ns:List Int}
  (KX:K.In s₁.heap) (hns:s₁.heap.Ns mainGlobals mg) (hb:s₁.heap.Ns builtinsNs mb) (hbb:∀ x:Str,x≠"__name__"->mb x=bootBuiltins x) (hlim:s₁.heap.NoLimit) (hg:s₁.gens=#[])
  (ha:s₁.heap.get? a=some { cls:=.type "list",data:=.seq vs.toArray }) (hi:IntsAre vs ns) (hl:ns.length<=sizeLine) (hr:bP k callerA)
  (F:∀ base:Heap,K.In base->base.Ns mainGlobals mg->aK P w K mg base CX k fa fd [x] sp) (hbind:∀ (s:Shared) (u:Value),BindsTo s fd ⟨[u],[]⟩ [(x,u)])
  (hsp:∀ H:Hp,zl H->SqL K H a (ns.map V.int)->sp [.ref a] H (fun v _=>v=.bl true) fun _ _ _=>False)
  (hCX:∀ H e s',CX [] H s₁ (fun _ _ _=>False) e s'->False) :
  codeAny (model P w) callerA (.call (.ref fa) ⟨[.ref a],[]⟩) (fun r s'=>r=.ok (.ret (.bool true))/\OldK s₁.heap s'.heap/\s'.os=s₁.os/\AllBare s'.gens) s₁:=by
 have rv:=nc hi
 have lenV:=hi.length
 -- from an abstract heap in which nothing but the script may be tracked
 have core:∀ H:Hp,zl H->SqL K H a (ns.map V.int)->HOk P w H s₁.heap->(∀ b,H b≠none->b=a)->(H a≠none->K.lookup a=none) ->
   codeAny (model P w) callerA (.call (.ref fa) ⟨[.ref a],[]⟩) (fun r s'=>r=.ok (.ret (.bool true))/\OldK s₁.heap s'.heap/\s'.os=s₁.os/\AllBare s'.gens) s₁:=by
  intro H hO hS hok hA hK
  have base_of:∀ {b:Addr} {o:Obj},s₁.heap.get? b=some o->H b=none->(n4 s₁.heap H).get? b=some o:=fun e n=>xg e n
  have noA:∀ {b:Addr} {o:Obj} {es:Array DictEntry} {ep:Nat},s₁.heap.get? b=some o->o.data=.dict es ep->H b=none:=fun {b o es ep} e d=>by
   cases q:H b with
   |none=>rfl
   |some u =>
    have e':b=a:=hA b (by rw[q];simp)
    subst e'
    rw[ha]at e;cases e
    have d':Data.seq vs.toArray _=Data.dict es ep:=d
    cases d'
  have nsK:∀ {b:Addr} {m:Str->Option Value},s₁.heap.Ns b m->(n4 s₁.heap H).Ns b m:=fun {b m} ⟨o,es,ep,e,d,r⟩=>⟨o,es,ep,base_of e (noA e d),d,r⟩
  have hKb:K.In (n4 s₁.heap H):=fun b o e=>base_of (KX b o e) (by
   cases q:H b with
   |none=>rfl
   |some u =>
    have e':b=a:=hA b (by rw[q];simp)
    subst e'
    rw[hK (by rw[q];simp)]at e;cases e)
  have hM:Mod K mg (n4 s₁.heap H):=⟨hKb,nsK hns,⟨mb,nsK hb,hbb⟩,let⟨mc,h1,h2⟩:=hlim;⟨mc,nsK h1,h2⟩⟩
  have e0:rJ P w K mg (n4 s₁.heap H) callerA [] s₁ H:=⟨rfl,hM,fun b o e=>xZ e,Nat.le_of_eq (uc _ _),trivial,fun b hb=>absurd (show b∈([]:List Addr)from hb) (by simp),hok,.of_eq hg⟩
  refine codeAny_mono ((F _ hKb (nsK hns)).run callerA [] s₁ H ⟨[.ref a],[]⟩ [.ref a] [.ref a] _ _ hr e0 (hbind s₁ (.ref a)) (.cons rfl .nil) (hsp H hO hS)) fun r s' h=>?_
  cases r with
  |error e=>exact(hCX H e s' h).elim
  |ok fl =>
   cases fl with
   |next=>exact False.elim h
   |brk=>exact False.elim h
   |cont=>exact False.elim h
   |ret u =>
    obtain⟨v,H',os,bare,un,hok',r',q⟩:=h
    have q':v=.bl true:=q
    subst q'
    obtain rfl:u=Value.bool true:=r'
    refine⟨rfl,OldK.of_keep fun b o e=>?_,os,bare⟩
    cases q:H b with
    |none=>exact un.keep b o e q (by intro z;exact absurd (show b∈([]:List Addr)from z) (by simp)) (by simp)
    |some u =>
     rcases hO b with z|⟨ob,xs,z⟩
     ·rw[q]at z;cases z
     ·have z2:=un.frzs b ob _ z
      obtain⟨e1,_⟩:=hok b _ z
      obtain⟨e2,_⟩:=hok' b _ z2
      rw[e]at e1;cases e1
      exact e2
 cases hk:K.lookup a with
 |some o =>
  -- the script is one of the module's own objects
  have e:=KX a o hk
  rw[ha]at e
  cases e
  refine core (fun _=>none) (fun _=>.inl rfl) (.inr ⟨_,vs.toArray,_,hk,rfl,rfl,rfl,by rw[List.size_toArray,lenV];exact hl,by simpa using rv⟩) (fun b u z=>by have z':(none:Option HO)=some u:=z;cases z') (fun b z=>absurd rfl z) fun z=>absurd rfl z
 |none =>
  refine core (fun b=>if b=a then some (.frz { cls:=.type "list",data:=.seq vs.toArray } (.lst (ns.map V.int)))else none) (fun b=>?_) (.inl (.inr ⟨{ cls:=.type "list",data:=.seq vs.toArray },if_pos rfl⟩)) (fun b u z=>?_) (fun b z=>?_) fun _=>hk
  ·by_cases hb:b=a
   ·exact .inr ⟨_,_,if_pos hb⟩
   ·exact .inl (if_neg hb)
  ·by_cases hb:b=a
   ·have z':=(if_pos hb).symm.trans z
    cases z'
    subst hb
    exact⟨ha,by rw[List.length_map];exact hl,vs,_,rv,ha⟩
   ·have z':=(if_neg hb).symm.trans z
    cases z'
  ·by_cases hb:b=a
   ·exact hb
   ·exact absurd (if_neg hb) z
theorem sE {l:PySem.W.OpenLaw} {n k:Nat} {q:Program} {loose:List Str} {XP:(Str->Option Value)->Heap->Prop} {YP:World->Heap->Prop} {d:DefRec} {K:Params->PySem.W.Frag} {CX:World->CXT} {sp:World->Sp} {x:Str}
  (hn:l.most=some n) (hn2:n<=sizeLine) (hdf:d.params.defaults=[]) (hr:bP k callerA)
  (hY:∀ (w:World) (h:Heap),YP w h->(K w.params).In h)
  (F:∀ (w:World) (mg:Str → Option Value) (fa:Addr) (h:Heap),(K w.params).In h → h.Ns mainGlobals mg → mg d.name = some (.ref fa) →
   ∃ fd:FuncData,(∀ (s:Shared) (u:Value),BindsTo s fd ⟨[u],[]⟩ [(x,u)]) /\
    ∀ base:Heap,(K w.params).In base->base.Ns mainGlobals mg->aK l.prog w (K w.params) mg base (CX w) k fa fd [x] (sp w))
  (hsp:∀ (w:World) (H:Hp) (a:Addr) (ns:List Int),ns.length<=n->zl H->SqL (K w.params) H a (ns.map V.int)->sp w [.ref a] H (fun v _=>v=.bl true) fun _ _ _=>False)
  (hCX:∀ (w:World) (H:Hp) (s:Shared) (e:Value) (s':Shared),CX w [] H s (fun _ _ _=>False) e s'->False) :
  PySem.W.WalkO q loose XP YP l.row.toRowW d [] (fun f vs=>PySem.call f vs):=by
 refine Att.attach_call hn hdf fun w s₀ s₁ mg mb fa o pm cd doc a vs ns G Y ho hd hcd hmg hobj hints hlen hg=>?_
 have KX:=hY w _ Y
 obtain⟨fd,hb,hF⟩:=F w mg fa _ KX G.T.g hmg
 exact wl KX G.T.g G.T.b G.T.builtins G.T.nolimit hg hobj hints (Nat.le_trans hlen hn2) hr hF hb (fun H hO hS=>hsp w H a ns hlen hO hS) fun H e s'=>hCX w H s₁ e s'
end L2
/- THE LAST THEOREM (shape; LID,My.* are yours):
   My.Adr: a structure of the addresses that your layer names (classes,functions);My.Txt K t: a structure (Prop) of the equations over K;
   My.txt_mk:{K} {implicit addresses ..} (e1:nsIn K mainGlobals "law"=some (some (.ref f))) (e2:K.lookup f=some ⟨oc,od,.func (fnOf "law" "law" params body scope dV kV doc pm an cdv ct),sl⟩) (e3:codeIn K cdv "law"=true) ..:∃ t,My.Txt K t
set_option maxRecDepth 100000 in
set_option maxHeartbeats 0 in
theorem PySem.Challenge.cw_LID_holds : PySem.Challenge.rw_LID.Holds := by
 w_on;o_law;k_head;(case hw=>w_witness2)
 k_fill
 refine L2.sE (l:=PySem.Challenge.rw_LID) (n:=63) (k:=40) (x:="script") (CX:=fun w=>..) (sp:=fun _=>My.sp_law) rfl (by decide) rfl ⟨rfl,by decide,by decide⟩ (fun w h Y=>PySem.W.kIn_of Y) ?F ?S ?C
 case F =>
  intro w mg fa h KX G hmg
  have T:∃ t,My.Txt (L2.KOf KX) t:=by
   dsimp only[L2.KOf]                          -- K must stand as «<heap const> w.params» for k_is
   refine' My.txt_mk ?e1 ?e2 ?e3 ..
   (case e1=>PySem.W.k_is)                    -- in the order: a name->its address->its object->its parts
   (case e2=>PySem.W.k_is)
   ..
  obtain⟨t,T⟩:=T
  have e0:=hmg.symm.trans (PySem.W.mg_of KX G T.law)
  cases e0                                       -- fa is the law's own address
  exact⟨_,fun s u=>.of_eq rfl,fun base kb nb=>My.law_fn T kb nb⟩     -- if «.of_eq rfl» comes too early: refine' ⟨_,?b,fun base kb nb=>My.law_fn T kb nb⟩;exact fun s u=>.of_eq rfl
 case S=>exact fun w H a ns hl hO hS=>..
 case C=>exact ..
(the tactic k_is has no namespace: write k_is) -/
/-! SHORT WORDS over the layer: a def of the text,its body,what a loop and a test want. -/
namespace L2
open PySem PySem.Spec PyProof.Rows
/-! ### the text by places -/
def fj (s:Stmt):Arguments:=match s with
 |.FunctionDef _ a _ _ _ _ _ _ _ _=>a
 |_=>{ posonlyargs:=[],args:=[],vararg:=none,kwonlyargs:=[],kw_defaults:=[],kwarg:=none,defaults:=[] }
def cM (s:Stmt):List Stmt:=match s with
 |.FunctionDef _ _ b _ _ _ _ _ _ _=>b
 |_=>[]
def ae (s:Stmt):Scope:=match s with
 |.FunctionDef _ _ _ _ _ _ sc _ _ _=>sc
 |_=>{ kind:=.function,names:=[],isGenerator:=false,isCoroutine:=false }
/-! ### no exception leaves a def -/
abbrev CX0:CXT:=fun _ _ _ _ _ _=>False
abbrev E0:XK:=fun _ _ _=>False
theorem xK {X:Cx}:lI CX0 X E0:=fun _ _ _ _ _ _ _ h=>h.elim
/-! ### a def (or method) of the text as it stands behind the top -/
structure Fun (K:PySem.W.Frag) (x qual:Str) (st:Stmt) (f:Addr) (fd:FuncData):Prop where
 ex:∃ (oc:Value) (od:Option Addr) (kV doc pm:Value) (an:Option Addr) (cdv ct:Value) (osl:Array (Option Value)),
  fd=PySem.W.fnOf x qual (fj st) (cM st) (ae st) .none kV doc pm an cdv ct/\K.lookup f=some ⟨oc,od,.func fd,osl⟩/\PySem.W.codeIn K cdv qual=true
 kp:PySem.W.keepIn K (.ref f)=true
section
variable {P:Program} {w:World} {K:PySem.W.Frag} {mg:Str->Option Value} {base:Heap}
theorem Fun.ok {x qual:Str} {st:Stmt} {f:Addr} {fd:FuncData} {N ps:List Str} {k:Nat} {sp:Sp} (F:Fun K x qual st f fd) (S:ar N ps (ae st)) (len:∀ vs H Q E,sp vs H Q E->vs.length=ps.length)
  (hbody:∀ (cdv:Value) (A:Around) (outer:List Env) (s:Shared) (H:Hp) (vs:List V) (Q:VK) (E:XK),bP k (A.deeper (envOfC qual (ae st) s.heap.objs.size f cdv)) → sp vs H Q E →
   ∃ t,PSs (qy CX0 P w K mg base N qual (ae st) f cdv A outer s H E).nox (cM st) t/\t { nx:=fun _ H'=>Q .non H',rt:=Q } (ci N vs) H):aK P w K mg base CX0 (k+1) f fd ps sp:=by
 obtain⟨oc,od,kV,doc,pm,an,cdv,ct,osl,rfl,lk,hcd⟩:=F.ex
 refine DO lk hcd S len fun A outer s H vs Q E hr hsp=>?_
 obtain⟨t,h,q⟩:=hbody cdv A outer s H vs Q E hr hsp
 exact⟨t,h.nox,q⟩
theorem Fun.binds {x qual:Str} {st:Stmt} {f:Addr} {fd:FuncData} {ps:List Str} (F:Fun K x qual st f fd)
  (h:∀ (kV doc pm:Value) (an:Option Addr) (cdv ct:Value) (us:List Value),us.length=ps.length->bindArgs (PySem.W.fnOf x qual (fj st) (cM st) (ae st) .none kV doc pm an cdv ct) ⟨us,[]⟩=pure (ps.zip us)):cA K fd ps []:=by
 obtain⟨oc,od,kV,doc,pm,an,cdv,ct,osl,rfl,lk,hcd⟩:=F.ex
 exact .all (h kV doc pm an cdv ct)
theorem wr {x qual:Str} {st:Stmt} {f:Addr} {oc:Value} {od an:Option Addr} {osl:Array (Option Value)} {kV doc pm cdv ct:Value} (l:K.lookup f=some ⟨oc,od,.func (PySem.W.fnOf x qual (fj st) (cM st) (ae st) .none kV doc pm an cdv ct),osl⟩)
  (c:PySem.W.codeIn K cdv qual=true) (k:PySem.W.keepIn K (.ref f)=true):Fun K x qual st f (PySem.W.fnOf x qual (fj st) (cM st) (ae st) .none kV doc pm an cdv ct):=⟨⟨oc,od,kV,doc,pm,an,cdv,ct,osl,rfl,l,c⟩,k⟩
end
theorem uW {n:Nat} (h:n<=1000):n<sizeLine:=Nat.lt_of_le_of_lt h (by decide)
/-! ### expressions in short: the name that stands in the i-th slot -/
/-! ### tests -/
theorem gX {c A B:Prop} [Decidable c] (h1:c->A) (h2:¬ c->B):if c then A else B:=by
 by_cases h:c
 ·rw[if_pos h]
  exact h1 h
 ·rw[if_neg h]
  exact h2 h
/-! ### heaps -/
def mK (H H':Hp):Prop:=∀ b o,H b=some o->H' b=some o
theorem mK.refl (H:Hp):mK H H:=fun _ _ h=>h
theorem mK.trans {H H1 H2:Hp} (a:mK H H1) (b:mK H1 H2):mK H H2:=fun c o h=>b c o (a c o h)
theorem mK.free {H H':Hp} (e:mK H H') {l:Addr} (h:H' l=Option.none):H l=Option.none:=by
 cases q:H l with
 |none=>rfl
 |some o =>
  rw[e l o q]at h
  cases h
theorem mK.seq {K:PySem.W.Frag} {H H':Hp} {a:Addr} {xs:List V} (e:mK H H') (h:SqL K H a xs):SqL K H' a xs:=by
 rcases h with(h|⟨o,h⟩)|h
 ·exact .inl (.inl (e _ _ h))
 ·exact .inl (.inr ⟨o,e _ _ h⟩)
 ·exact .inr h
/-! ### lists of pairs as tables -/
section
variable {κ:Type} [DecidableEq κ]
def eM (kvs:List (κ×V)) (k:κ):Option V:=(kvs.find? fun kv=>decide (kv.1=k)).map (·.2)
def dg (kvs:List (κ×V)) (k:κ) (v:V):List (κ×V) :=
 if(kvs.any fun kv=>decide (kv.1=k))=true then kvs.map (fun kv=>if kv.1=k then(kv.1,v)else kv)else kvs++[(k,v)]
def Ar (kvs:List (κ×V)) (k:κ):List (κ×V):=kvs.filter fun kv=>decide (kv.1≠k)
theorem iu {p:κ×V} {r:List (κ×V)} {k:κ} (e:p.1=k):eM (p::r) k=some p.2:=by simp[eM,List.find?_cons,e]
theorem iZ {p:κ×V} {r:List (κ×V)} {k:κ} (e:¬ p.1=k):eM (p::r) k=eM r k:=by simp[eM,List.find?_cons,e]
theorem qj (k:κ):∀ kvs:List (κ×V),(kvs.any fun kv=>decide (kv.1=k))=(eM kvs k).isSome
 |[]=>rfl
 |p::r=>by
  rw[List.any_cons]
  by_cases e:p.1=k
  ·simp only[iu e,decide_eq_true e,Bool.true_or,Option.isSome_some]
  ·rw[iZ e,decide_eq_false e,Bool.false_or];exact qj k r
theorem ge (kvs:List (κ×V)) (k:κ) (v:V):(dg kvs k v).length<=kvs.length+1:=by
 unfold dg
 split
 ·rw[List.length_map];omega
 ·rw[List.length_append,List.length_cons,List.length_nil];omega
theorem gF.isSome_eq {o:Option V} {u:Option Value} (r:gF o u):o.isSome=u.isSome:=by
 cases o with
 |none=>cases u with
  |none=>rfl
  |some _=>exact(show False from r).elim
 |some _=>cases u with
  |none=>exact(show False from r).elim
  |some _=>rfl
theorem gF.getD {o:Option V} {u:Option Value} {d:V} {d':Value} (r:gF o u) (rd:ap d d'):ap (o.getD d) (u.getD d'):=by
 cases o with
 |none=>cases u with
  |none=>exact rd
  |some _=>exact(show False from r).elim
 |some _=>cases u with
  |none=>exact(show False from r).elim
  |some _=>exact r
theorem KV.val {kvs:List (κ×V)} {vs:List (κ×Value)} (r:KV kvs vs) (k:κ):gF (eM kvs k) (valueAt vs k):=by
 unfold KV at r
 induction r with
 |nil=>exact True.intro
 |@cons p q ps qs h t ih =>
  obtain⟨h1,h2⟩:=h
  by_cases e:p.1=k
  ·have e':q.1=k:=h1.symm.trans e
   have b:valueAt (q::qs) k=some q.2:=by simp[valueAt,List.find?_cons,e']
   rw[iu e,b];exact h2
  ·have e':¬ q.1=k:=fun z=>e (h1.trans z)
   have b:valueAt (q::qs) k=valueAt qs k:=by simp[valueAt,List.find?_cons,e']
   rw[iZ e,b];exact ih
theorem KV.any {kvs:List (κ×V)} {vs:List (κ×Value)} (r:KV kvs vs) (k:κ):(kvs.any fun kv=>decide (kv.1=k))=vs.any fun kv=>decide (kv.1=k):=by
 unfold KV at r
 induction r with
 |nil=>rfl
 |cons h t ih=>rw[List.any_cons,List.any_cons,ih,h.1]
theorem KV.repl {kvs:List (κ×V)} {vs:List (κ×Value)} (r:KV kvs vs) (k:κ) {y:V} {u:Value} (ry:ap y u) :
  KV (kvs.map fun kv=>if kv.1=k then(kv.1,y)else kv) (vs.map fun kv=>if kv.1=k then(kv.1,u)else kv):=by
 unfold KV at r ⊢
 induction r with
 |nil=>exact .nil
 |@cons p q ps qs h t ih =>
  rw[List.map_cons,List.map_cons]
  refine .cons ?_ ih
  obtain⟨h1,h2⟩:=h
  by_cases e:p.1=k
  ·rw[if_pos e,if_pos (h1.symm.trans e)];exact⟨h1,ry⟩
  ·rw[if_neg e,if_neg (fun z=>e (h1.trans z))];exact⟨h1,h2⟩
theorem KV.put {kvs:List (κ×V)} {vs:List (κ×Value)} (r:KV kvs vs) (k:κ) {y:V} {u:Value} (ry:ap y u):KV (dg kvs k y) (stored vs k u):=by
 unfold dg stored
 rw[r.any k]
 by_cases e:(vs.any fun kv=>decide (kv.1=k))=true
 ·rw[if_pos e,if_pos e];exact r.repl k ry
 ·rw[if_neg e,if_neg e];exact Paired.snoc r ⟨rfl,ry⟩
theorem KV.drop {kvs:List (κ×V)} {vs:List (κ×Value)} (r:KV kvs vs) (k:κ):KV (Ar kvs k) (without vs k):=by
 unfold KV at r ⊢
 unfold Ar without
 induction r with
 |nil=>exact .nil
 |@cons p q ps qs h t ih =>
  obtain⟨h1,h2⟩:=h
  rw[List.filter_cons,List.filter_cons]
  by_cases e:p.1=k
  ·have a:¬ decide (p.1≠k)=true:=by simp[e]
   have b:¬ decide (q.1≠k)=true:=by simp[h1.symm.trans e]
   rw[if_neg a,if_neg b];exact ih
  ·have e':¬ q.1=k:=fun z=>e (h1.trans z)
   have a:decide (p.1≠k)=true:=by simp[e]
   have b:decide (q.1≠k)=true:=by simp[e']
   rw[if_pos a,if_pos b];exact .cons ⟨h1,h2⟩ ih
theorem KV.length {kvs:List (κ×V)} {vs:List (κ×Value)} (r:KV kvs vs):kvs.length=vs.length:=Paired.length r
end
/-! ### a tracked dict,its keys ints and texts or tuples of these -/
theorem lQ {P:Program} {w:World} {k:Key} {u:Value} (r:ap (kV k) u):(aJ P w).is k u=true:=by
 cases k with
 |inl i=>obtain⟨t,e⟩:=(show ∃ t,u=Value.int i t from r);subst e;exact qA P w i t
 |inr x=>obtain⟨t,e⟩:=(show ∃ t,u=Value.str x t from r);subst e;exact ph P w x t
theorem jC {P:Program} {w:World}:∀ {ks:List Key} {us:List Value},aq (ks.map kV) us->ItemsAre (aJ P w) ks us
 |[],_,r=>by rw[List.map_nil]at r;cases r;exact .nil
 |k::ks,_,r=>by
  rw[List.map_cons]at r
  cases r with
  |cons h t=>exact .cons (lQ h) (jC t)
abbrev KT (H:Hp):List (List Key×V)->List (List Key×Addr×Value)->Prop:=Paired fun p q=>p.1=q.1/\H q.2.1=some (.tup (p.1.map kV))/\ap p.2 q.2.2
theorem KT.val {H:Hp} {kvs:List (List Key×V)} {xs:List (List Key×Addr×Value)} (r:KT H kvs xs) (k:List Key):gF (eM kvs k) ((atKey xs k).map (·.2)):=by
 induction r with
 |nil=>exact True.intro
 |@cons p q ps qs h t ih =>
  obtain⟨h1,_,h2⟩:=h
  by_cases e:p.1=k
  ·have e':q.1=k:=h1.symm.trans e
   have b:atKey (q::qs) k=some q.2:=by simp[atKey,List.find?_cons,e']
   rw[iu e,b];exact h2
  ·have e':¬ q.1=k:=fun z=>e (h1.trans z)
   have b:atKey (q::qs) k=atKey qs k:=by simp[atKey,List.find?_cons,e']
   rw[iZ e,b];exact ih
theorem KT.repl {H:Hp} {kvs:List (List Key×V)} {xs:List (List Key×Addr×Value)} (r:KT H kvs xs) (k:List Key) {y:V} {u:Value} (ry:ap y u) :
  KT H (kvs.map fun kv=>if kv.1=k then(kv.1,y)else kv) (xs.map (putAt k u)):=by
 induction r with
 |nil=>exact .nil
 |@cons p q ps qs h t ih =>
  rw[List.map_cons,List.map_cons]
  refine .cons ?_ ih
  obtain⟨h1,h2,h3⟩:=h
  unfold putAt
  by_cases e:p.1=k
  ·rw[if_pos e,if_pos (h1.symm.trans e)];exact⟨h1,h2,ry⟩
  ·rw[if_neg e,if_neg (fun z=>e (h1.trans z))];exact⟨h1,h2,h3⟩
theorem KT.put {H:Hp} {kvs:List (List Key×V)} {xs:List (List Key×Addr×Value)} (r:KT H kvs xs) (k:List Key) {b:Addr} {y:V} {u:Value} (hb:H b=some (.tup (k.map kV))) (ry:ap y u) :
  KT H (dg kvs k y) (storedH xs k b u):=by
 have e:(kvs.any fun kv=>decide (kv.1=k))=(atKey xs k).isSome:=by
  rw[qj,(r.val k).isSome_eq,Option.isSome_map]
 unfold dg storedH
 rw[e]
 by_cases q:(atKey xs k).isSome=true
 ·rw[if_pos q,if_pos q];exact r.repl k ry
 ·rw[if_neg q,if_neg q];exact Paired.snoc r ⟨rfl,hb,ry⟩
theorem KT.keeps {H H':Hp} {kvs:List (List Key×V)} {xs:List (List Key×Addr×Value)} (r:KT H kvs xs) (ht:∀ b ys,H b=some (.tup ys)->H' b=some (.tup ys)):KT H' kvs xs :=
 Paired.mapP r fun _ _ z=>⟨z.1,ht _ _ z.2.1,z.2.2⟩
section
variable {P:Program} {w:World} {H:Hp} {h:Heap} {a:Addr}
theorem At {u:HO} (ok:HOk P w H h) (e:Rd H a u):bL P w H h a u:=e.ok ok
theorem mf {kvs:List (Key×V)} (ok:HOk P w H h) (e:Rd H a (.dK kvs)):kvs.length<=sizeLine/\(a==sysModules)=false/\∃ vs,KV kvs vs/\h.DictOf (aJ P w) a vs :=
 show bL P w H h a (.dK kvs)from At ok e
theorem sV {kvs:List (Key×V)} (ok:HOk P w H h) (e:H a=some (.dK kvs)):kvs.length<=sizeLine/\(a==sysModules)=false/\∃ vs,KV kvs vs/\h.DictOf (aJ P w) a vs:=mf ok (.inl e)
theorem ib {ks:List Key} (ok:HOk P w H h) (e:H a=some (.tup (ks.map kV))):(tupleKind (aJ P w)).is h ks a:=by
 obtain⟨_,its,r,o,h1,h2,⟨n,h3⟩,_⟩:=(show bL P w H h a (.tup (ks.map kV))from ok a _ e)
 exact⟨o,its.toArray,n,h1,h2,h3,by simpa using jC r⟩
theorem jL {kvs:List (List Key×V)} (ok:HOk P w H h) (e:Rd H a (.dT kvs)):kvs.length<=sizeLine/\(a==sysModules)=false /\
  ∃ xs,KT H kvs xs/\h.DictOfH (tupleKind (aJ P w)) a xs:=by
 obtain⟨z,y,xs,r,o,es,ep,h1,h2,h3,h4,h5⟩:=(show bL P w H h a (.dT kvs)from At ok e)
 refine⟨z,y,xs,r,o,es,ep,h1,h2,h3,h4,fun x hx=>?_,h5⟩
 have all:∀ {l:List (List Key×V)} {m:List (List Key×Addr×Value)},KT H l m->∀ x∈m,(tupleKind (aJ P w)).is h x.1 x.2.1:=by
  intro l m q
  induction q with
  |nil=>intro x hx;exact nomatch hx
  |@cons p q ps qs hq t ih =>
   intro x hx
   rcases List.mem_cons.mp hx with e|hx
   ·subst e
    exact ib ok (by rw[<-hq.1];exact hq.2.1)
   ·exact ih x hx
 exact all r x hx
theorem Au {kvs:List (List Key×V)} (ok:HOk P w H h) (e:H a=some (.dT kvs)):kvs.length<=sizeLine/\(a==sysModules)=false /\
  ∃ xs,KT H kvs xs/\h.DictOfH (tupleKind (aJ P w)) a xs:=jL ok (.inl e)
end
def ia (H:Hp) (a:Addr) (y:V) (r:Option V):Prop :=
 (∃ kvs k,Rd H a (.dK kvs)/\y=kV k/\r=eM kvs k)∨∃ kvs k b,Rd H a (.dT kvs)/\y=.ref b/\H b=some (.tup (k.map kV))/\r=eM kvs k
def oN (H:Hp) (a:Addr) (y v:V) (H':Hp):Prop :=
 (∃ kvs k,H a=some (.dK kvs)/\y=kV k/\kvs.length<sizeLine/\H'=upd H a (.dK (dg kvs k v))) ∨
 ∃ kvs k b,H a=some (.dT kvs)/\y=.ref b/\H b=some (.tup (k.map kV))/\kvs.length<sizeLine/\H'=upd H a (.dT (dg kvs k v))
theorem ia.k {H:Hp} {a:Addr} {kvs:List (Key×V)} {k:Key} (e:H a=some (.dK kvs)):ia H a (kV k) (eM kvs k):=.inl ⟨kvs,k,.inl e,rfl,rfl⟩
theorem ia.t {H:Hp} {a b:Addr} {kvs:List (List Key×V)} {k:List Key} (e:H a=some (.dT kvs)) (eb:H b=some (.tup (k.map kV))):ia H a (.ref b) (eM kvs k):=.inr ⟨kvs,k,b,.inl e,rfl,eb,rfl⟩
theorem oN.k {H:Hp} {a:Addr} {kvs:List (Key×V)} {k:Key} {v:V} (e:H a=some (.dK kvs)) (hl:kvs.length<sizeLine):oN H a (kV k) v (upd H a (.dK (dg kvs k v))):=.inl ⟨kvs,k,e,rfl,hl,rfl⟩
theorem oN.t {H:Hp} {a b:Addr} {kvs:List (List Key×V)} {k:List Key} {v:V} (e:H a=some (.dT kvs)) (eb:H b=some (.tup (k.map kV))) (hl:kvs.length<sizeLine) :
  oN H a (.ref b) v (upd H a (.dT (dg kvs k v))):=.inr ⟨kvs,k,b,e,rfl,eb,hl,rfl⟩
section
variable {X:Cx} {pins:List (Addr×Obj)} {σ:St} {H:Hp} {s:Shared} {a:Addr} {y v:V} {u r:Value} {o:Option V} {A:Around} {E:Value->Shared->Prop}
theorem Inv.big (I:Inv X pins σ H s):sysModules<s.heap.objs.size:=by
 have h:mainGlobals<s.heap.objs.size:=(I.mod.glob.keeps I.bk).lt
 exact Nat.lt_trans (by decide) h
theorem rL {Q:Value->Shared->Prop} (hu:A.units+1<cLine) (I:Inv X pins σ H s) (g:ia H a y (some v)) (ry:ap y u) (h:∀ w' s',Inv X pins σ H s'->ap v w'->Q w' s') :
  wpAny (model X.prog X.w) A (getItem (.ref a) u) Q E s:=by
 rcases g with⟨kvs,k,e,ey,l⟩|⟨kvs,k,b,e,ey,eb,l⟩
 ·subst ey
  obtain⟨z,hd,vs,rel,dd⟩:=mf I.hok e
  obtain⟨w',hw,rw'⟩:=gF.some_of (v:=v) (o:=valueAt vs k) (by rw[l];exact rel.val k)
  exact wpAny_getItem_of (lQ ry) dd.mapOf hw (h w' _ (I.tok _) rw')
 ·subst ey
  cases(show u=Value.ref b from ry)
  obtain⟨z,hd,xs,rel,dd⟩:=jL I.hok e
  obtain⟨w',hw,rw'⟩:=gF.some_of (v:=v) (o:=(atKey xs k).map (·.2)) (by rw[l];exact rel.val k)
  obtain⟨p,hp,hp2⟩:=Option.map_eq_some_iff.mp hw
  refine wpAny_getItem_heap (tupleKind_room_in1 hu) (ib I.hok eb) dd hp ?_
  rw[hp2]
  exact h w' _ (I.tok _) rw'
theorem ET {Q:Value->Shared->Prop} (hu:A.units+1<cLine) (I:Inv X pins σ H s) (g:ia H a y o) (ry:ap y u) (h:∀ s',Inv X pins σ H s'->Q (.bool o.isSome) s') :
  wpAny (model X.prog X.w) A (compareOp .In u (.ref a)) Q E s:=by
 rcases g with⟨kvs,k,e,ey,l⟩|⟨kvs,k,b,e,ey,eb,l⟩
 ·subst ey
  obtain⟨z,hd,vs,rel,dd⟩:=mf I.hok e
  refine wpAny_in_of (lQ ry) hd dd.mapOf ?_
  rw[<-(rel.val k).isSome_eq,<-l]
  exact h _ (I.tok _)
 ·subst ey
  cases(show u=Value.ref b from ry)
  obtain⟨z,hd,xs,rel,dd⟩:=jL I.hok e
  refine wpAny_in_heap (tupleKind_room_in1 hu) (ib I.hok eb) hd dd ?_
  have q:=(rel.val k).isSome_eq
  rw[Option.isSome_map]at q
  rw[<-q,<-l]
  exact h _ (I.tok _)
theorem xt {Q:Value->Shared->Prop} (hu:A.units+1<cLine) (I:Inv X pins σ H s) (g:ia H a y o) (ry:ap y u) (h:∀ s',Inv X pins σ H s'->Q (.bool (!o.isSome)) s') :
  wpAny (model X.prog X.w) A (compareOp .NotIn u (.ref a)) Q E s:=by
 rcases g with⟨kvs,k,e,ey,l⟩|⟨kvs,k,b,e,ey,eb,l⟩
 ·subst ey
  obtain⟨z,hd,vs,rel,dd⟩:=mf I.hok e
  refine wpAny_notIn_of (lQ ry) hd dd.mapOf ?_
  rw[<-(rel.val k).isSome_eq,<-l]
  exact h _ (I.tok _)
 ·subst ey
  cases(show u=Value.ref b from ry)
  obtain⟨z,hd,xs,rel,dd⟩:=jL I.hok e
  refine wpAny_notIn_heap (tupleKind_room_in1 hu) (ib I.hok eb) hd dd ?_
  have q:=(rel.val k).isSome_eq
  rw[Option.isSome_map]at q
  rw[<-q,<-l]
  exact h _ (I.tok _)
theorem iA {h':Heap} {t':Nat} {ob:HO} (I:Inv X pins σ H s) (mu:Mut (H a)) (hs:Heap.SameBut a s.heap h') (he:∃ q,h'.get? a=some q) (new:bL X.prog X.w (upd H a ob) h' a ob) :
  Inv X pins σ (upd H a ob) { s with heap:=h',toks:=t' } :=
 I.write (x:=a) (e:=a) mu (.inl rfl) (fun b q hb z=>(hs.2 b hb).trans z) he new
theorem vw {P:Program} {w:World} {H':Hp} {h':Heap} {kvs:List (Key×V)} {vs:List (Key×Value)} (z:kvs.length<=sizeLine) (hd:(a==sysModules)=false) (rel:KV kvs vs) (dd:h'.DictOf (aJ P w) a vs) :
  bL P w H' h' a (.dK kvs):=⟨z,hd,vs,rel,dd⟩
theorem qU {H':Hp} {Q:Unit->Shared->Prop} (hu:A.units+1<cLine) (I:Inv X pins σ H s) (g:oN H a y v H') (ry:ap y u) (rv:ap v r) (h:∀ s',Inv X pins σ H' s'->Q () s') :
  wpAny (model X.prog X.w) A (setItem (.ref a) u r) Q E s:=by
 rcases g with⟨kvs,k,e,ey,l,eH⟩|⟨kvs,k,b,e,ey,eb,l,eH⟩
 ·subst ey eH
  obtain⟨z,hd,vs,rel,dd⟩:=sV I.hok e
  have hz:vs.length<=sizeLine:=by rw[<-rel.length];exact z
  have hl:(dg kvs k v).length<=sizeLine:=by have:=ge kvs k v;omega
  refine wpAny_setItem_pairs (hsz:=hz) (lQ ry) dd fun h' dd' hs=>h _ ?_
  have he:∃ q,h'.get? a=some q:=let⟨q,_,_,hq,_⟩:=dd';⟨q,hq⟩
  exact iA I (by rw[e];exact True.intro) hs he (vw hl hd (rel.put k rv) dd')
 ·subst ey eH
  cases(show u=Value.ref b from ry)
  obtain⟨z,hd,xs,rel,dd⟩:=Au I.hok e
  have hz:xs.length<=sizeLine:=by rw[<-Paired.length rel];exact z
  have hl:(dg kvs k v).length<=sizeLine:=by have:=ge kvs k v;omega
  refine wpAny_setItem_heap (hsz:=hz) (tupleKind_room_in1 hu) (ib I.hok eb) dd fun h' dd' hs=>h _ ?_
  obtain⟨q,es,ep,hq,h2,h3,h4,_,h5⟩:=dd'
  refine iA I (by rw[e];exact True.intro) hs ⟨q,hq⟩ ⟨hl,hd,_,(rel.put k eb rv).keeps fun c ys ec=>?_,q,es,ep,hq,h2,h3,h4,h5⟩
  rw[aA (Ap ec e (fun z=>nomatch z))]
  exact ec
end
/-! ### readings and rules -/
def n5 (i:Expr):Prop:=∀ ov iv,subscripted i false ov iv=operate [ov,iv] (getItem ov iv)
theorem tL {prog:Program} {w:World} {A:Around} {E:Value->Shared->Prop} {s:Shared} {env:Env} {value slice:Expr} {pos:Pos} {T id:String} {Q:Value->Shared->Prop}
  (hl:typeLookup (.type T) "__getitem__"=pure (some (.builtin id))) (hs:n5 slice)
  (h:wpAny (model prog w) A (eval value env) (fun o s₁=>wpAny (model prog w) A (eval slice env) (fun i s₂=>s₂.TypeIs o T/\wpAny (model prog w) A (getItem o i) Q E s₂) E s₁) E s) :
  wpAny (model prog w) A (eval (.Subscript value slice pos) env) Q E s:=by
 refine Subscript_ (wpAny_mono h (fun o s₁ h₁=>wpAny_mono h₁ (fun i s₂ h₂=>?_) fun _ _ x=>x) fun _ _ x=>x)
 obtain⟨hT,h₂⟩:=h₂
 unfold subscriptTail
 refine wpAny_bind ?_
 rw[getitemInPython_of_ne hT.not_modules]
 refine wpAny_bind (wpAny_specialOf hT hl ?_)
 have fin:wpAny (model prog w) A (subscripted slice false o i) (fun r s₃=>wpAny (model prog w) A (letTemporaryGo value o r >>= fun _=>pure r) Q E s₃) E s₂:=by
  rw[hs o i]
  exact wpAny_operating (wpAny_mono h₂ (fun r s₃ h₃=>wpAny_bind (wpAny_letTemporaryGo (wpAny_pure h₃))) fun _ _ x=>x)
 first
  |exact wpAny_pure (wpAny_bind fin)
  |exact wpAny_bind (wpAny_pure (wpAny_bind fin))
  |exact wpAny_bind fin
theorem qp {X:Cx} {pins:List (Addr×Obj)} {σ:St} {H:Hp} {s:Shared} {a:Addr} {y:V} {o:Option V} (I:Inv X pins σ H s) (g:ia H a y o):s.TypeIs (.ref a) "dict":=by
 rcases g with⟨kvs,k,e,_,_⟩|⟨kvs,k,b,e,_,_,_⟩
 ·obtain⟨_,_,vs,_,dd⟩:=mf I.hok e
  exact dd.typeIs
 ·obtain⟨_,_,xs,_,dd⟩:=jL I.hok e
  exact dd.typeIs
def ES (td ty:TE):TE:=fun σ H Q=>td σ H fun x H1=>ty σ H1 fun y H2=>∃ a v,x=.ref a/\ia H2 a y (some v)/\Q v H2
def D5 (ty td:TE):TE:=fun σ H Q=>ty σ H fun y H1=>td σ H1 fun x H2=>∃ a o,x=.ref a/\ia H2 a y o/\Q (.bl o.isSome) H2
def tq (ty td:TE):TE:=fun σ H Q=>ty σ H fun y H1=>td σ H1 fun x H2=>∃ a o,x=.ref a/\ia H2 a y o/\Q (.bl (!o.isSome)) H2
def Et (td ty tv:TE):TS:=fun D σ H=>tv σ H fun v H1=>td σ H1 fun x H2=>ty σ H2 fun y H3=>∃ a H4,x=.ref a/\oN H3 a y v H4/\D.nx σ H4
section
variable {X:Cx} {o i e value:Expr} {pos pos' tpos:Pos} {td ty tv:TE}
theorem t3 (hu:X.A.units+1<cLine) (ho:PE X o td) (hi:PE X i ty) (hs:n5 i):PE X (.Subscript o i pos) (ES td ty):=by
 intro pins s σ H Q I h
 refine tL PySem.F.slot_dict_getitem.lookup hs (thn (ho pins s σ H _ I h) fun u s1 ⟨x,H1,I1,rx,q1⟩=>thn (hi pins s1 σ H1 _ I1 q1) fun iv s2 ⟨y,H2,I2,ry,a,v,ex,g,q2⟩=>?_)
 subst ex
 obtain rfl:u=Value.ref a:=rx
 exact⟨qp I2 g,rL hu I2 g ry fun w' s3 I3 rw'=>⟨v,H2,I3,rw',q2⟩⟩
theorem Cz (hu:X.A.units+1<cLine) (hi:PE X i ty) (ho:PE X o td):PC X .In i o (D5 ty td):=by
 intro pins s σ H Q I h
 refine thn (hi pins s σ H _ I h) fun iv s1 ⟨y,H1,I1,ry,q1⟩=>thn (ho pins s1 σ H1 _ I1 q1) fun u s2 ⟨x,H2,I2,rx,a,ov,ex,g,q2⟩=>?_
 subst ex
 obtain rfl:u=Value.ref a:=rx
 exact ET hu I2 g ry fun s3 I3=>⟨.bl ov.isSome,H2,I3,rfl,q2⟩
theorem uv (hu:X.A.units+1<cLine) (hi:PE X i ty) (ho:PE X o td):PC X .NotIn i o (tq ty td):=by
 intro pins s σ H Q I h
 refine thn (hi pins s σ H _ I h) fun iv s1 ⟨y,H1,I1,ry,q1⟩=>thn (ho pins s1 σ H1 _ I1 q1) fun u s2 ⟨x,H2,I2,rx,a,ov,ex,g,q2⟩=>?_
 subst ex
 obtain rfl:u=Value.ref a:=rx
 exact xt hu I2 g ry fun s3 I3=>⟨.bl (!ov.isSome),H2,I3,rfl,q2⟩
theorem o0 (hu:X.A.units+1<cLine) (ho:PE X o td) (hi:PE X i ty) (hv:PE X value tv) (hs:swapsWith value (some (.Subscript o i pos')) pos.line X.env=pure false) :
  PS X (.Assign [.Subscript o i pos'] value pos) (Et td ty tv):=by
 intro pins s σ H D I h
 refine wpAny_Assign_Subscript (thn (hv pins s σ H _ I h) fun r s1 ⟨v,H1,I1,rv,q1⟩=>thn (ho pins s1 σ H1 _ I1 q1) fun u s2 ⟨x,H2,I2,rx,q2⟩=>thn (hi pins s2 σ H2 _ I2 q2) fun iv s3 ⟨y,H3,I3,ry,a,H4,ex,g,q3⟩=>?_) hs
 subst ex
 obtain rfl:u=Value.ref a:=rx
 exact qU hu I3 g ry rv fun s4 I4=>⟨σ,H4,I4,q3⟩
end
/-! ### displays -/
theorem vt {P:Program} {w:World} {H:Hp} (h:Heap) (hb:sysModules<h.objs.size):bL P w H (h.push { cls:=.type "dict",data:=.dict #[] }) h.objs.size (.dK []) :=
 ⟨Nat.zero_le _,beq_eq_false_iff_ne.mpr (Ne.symm (Nat.ne_of_lt hb)),[],.nil,Heap.DictOf.new h⟩
theorem qD {P:Program} {w:World} {H:Hp} (h:Heap) (hb:sysModules<h.objs.size):bL P w H (h.push { cls:=.type "dict",data:=.dict #[] }) h.objs.size (.dT []) :=
 ⟨Nat.zero_le _,beq_eq_false_iff_ne.mpr (Ne.symm (Nat.ne_of_lt hb)),[],.nil,_,#[],0,Heap.get?_push_size _ rfl,⟨rfl,rfl,rfl⟩,rfl,rfl,List.nodup_nil⟩
def Bk:TE:=fun _ H Q=>∀ p,H p=none->Q (.ref p) (upd H p (.dT []))
section
variable {X:Cx} {pos:Pos}
theorem xj:PE X (.Dict [] [] pos) Bk:=fun pins s σ H Q I h =>
 wpAny_Dict_empty ⟨.ref s.heap.objs.size,_,I.laid (a:=s.heap.objs.size) (o:=.dT []) (t':=s.toks) (fun _ _ q=>Heap.get?_push_of_some _ q) (Nat.le_refl _) (qD s.heap I.big),rfl,h _ (I.hok.fresh (Nat.le_refl _))⟩
end
def rH:List (TE×TE)->St->Hp->(List (V×V)->Hp->Prop)->Prop
 |[],_,H,Q=>Q [] H
 |(tk,tv)::r,σ,H,Q=>tk σ H fun x H1=>tv σ H1 fun y H2=>rH r σ H2 fun ps H3=>Q ((x,y)::ps) H3
abbrev VV:List (V×V)->List (Value×Value)->Prop:=Paired fun p q=>ap p.1 q.1/\ap p.2 q.2
def PPs (X:Cx) (pos:Pos) (keys:List (Option Expr)) (values:List Expr) (trs:List (TE×TE)):Prop :=
 ∀ (pins:List (Addr×Obj)) (s:Shared) (σ:St) (H:Hp) (Q:List (V×V)->Hp->Prop),Inv X pins σ H s->rH trs σ H Q ->
  wpAny (model X.prog X.w) X.A (evalPairs (pairTrees keys values X.env pos)) (fun vs s'=>∃ ps H',Inv X pins σ H' s'/\VV ps vs/\Q ps H') X.xe s
theorem yo {X:Cx} {pos:Pos}:PPs X pos [] [] []:=fun pins s σ H Q I h=>pairTrees_nil_walk ⟨[],H,I,.nil,h⟩
theorem v4 {X:Cx} {pos:Pos} {k v:Expr} {ks:List (Option Expr)} {vs:List Expr} {tk tv:TE} {trs:List (TE×TE)} (hk:PE X k tk) (hv:PE X v tv) (hr:PPs X pos ks vs trs) :
  PPs X pos (some k::ks) (v::vs) ((tk,tv)::trs):=fun pins s σ H Q I h =>
 pairTrees_cons_walk (thn (hk pins s σ H _ I h) fun u s1 ⟨x,H1,I1,rx,q1⟩=>thn (hv pins s1 σ H1 _ I1 q1) fun w2 s2 ⟨y,H2,I2,ry,q2⟩ =>
  thn (hr pins s2 σ H2 _ I2 q2) fun ws s3 ⟨ps,H3,I3,rel,q3⟩=>⟨(x,y)::ps,H3,I3,.cons ⟨rx,ry⟩ rel,q3⟩)
def ie (kvs more:List (Key×V)):List (Key×V):=more.foldl (fun acc kv=>dg acc kv.1 kv.2) kvs
theorem KV.merge:∀ {more:List (Key×V)} {rs:List (Key×Value)} {kvs:List (Key×V)} {vs:List (Key×Value)},KV more rs->KV kvs vs->KV (ie kvs more) (merged vs rs):=by
 intro more rs kvs vs r
 unfold KV at r
 induction r generalizing kvs vs with
 |nil=>intro q;exact q
 |@cons p q ps qs h t ih =>
  intro r0
  have e:KV (dg kvs p.1 p.2) (stored vs q.1 q.2):=by
   have:=r0.put p.1 h.2
   rw[<-h.1];exact this
  exact ih e
theorem gP:∀ (more kvs:List (Key×V)),(ie kvs more).length<=kvs.length+more.length
 |[],kvs=>by show kvs.length<=kvs.length+0;omega
 |p::r,kvs=>by
  have h1:=gP r (dg kvs p.1 p.2)
  have h2:=ge kvs p.1 p.2
  show(ie (dg kvs p.1 p.2) r).length<=_
  rw[List.length_cons];omega
theorem mj {P:Program} {w:World}:∀ {kvs:List (Key×V)} {ws:List (Value×Value)},VV (kvs.map fun kv=>(kV kv.1,kv.2)) ws->∃ rs,Carries (aJ P w) ws rs/\KV kvs rs
 |[],_,r=>by rw[List.map_nil]at r;cases r;exact⟨[],True.intro,.nil⟩
 |p::kvs,_,r=>by
  rw[List.map_cons]at r
  cases r with
  |@cons a b as bs h t =>
   obtain⟨rs,c,q⟩:=mj (P:=P) (w:=w) t
   obtain⟨b1,b2⟩:=b
   exact⟨(p.1,b2)::rs,⟨lQ h.1,rfl,c⟩,.cons ⟨rfl,h.2⟩ q⟩
def EV (trs:List (TE×TE)):TE:=fun σ H Q=>∀ p,H p=none->rH trs σ (upd H p (.dK [])) fun ps H2=>H2 p=some (.dK [])/\∃ kvs:List (Key×V),ps=kvs.map (fun kv=>(kV kv.1,kv.2))/\kvs.length<=15/\Q (.ref p) (upd H2 p (.dK (ie [] kvs)))
theorem z3 {X:Cx} {pos:Pos} {keys:List (Option Expr)} {values:List Expr} {trs:List (TE×TE)} (h:PPs X pos keys values trs) (hall:keys.all (·.isSome)=true) (hl:keys.length=values.length) (h0:keys≠[])
  (h15:keys.length<=15):PE X (.Dict keys values pos) (EV trs):=by
 intro pins s σ H Q I q
 have hn:=I.hok.fresh (Nat.le_refl s.heap.objs.size)
 have I1:=I.laid (a:=s.heap.objs.size) (o:=.dK []) (h':=s.heap.push { cls:=.type "dict",data:=.dict #[] }) (t':=s.toks) (fun _ _ q=>Heap.get?_push_of_some _ q) (Nat.le_refl _) (vt s.heap I.big)
 refine wpAny_Dict_walk (knd:=aJ X.prog X.w) hall hl h0 h15 (thn (h pins _ σ _ _ I1 (q _ hn)) fun ws s2 ⟨ps,H2,I2,rel,e,kvs,ep,lk,q2⟩=>?_)
 subst ep
 obtain⟨rs,c,rk⟩:=mj (P:=X.prog) (w:=X.w) rel
 obtain⟨z,hd,vs0,r0,dd⟩:=sV I2.hok e
 cases r0
 refine⟨rs,c,dd,fun h' dd' hs=>⟨.ref s.heap.objs.size,_,?_,rfl,q2⟩⟩
 have hz:(ie [] kvs).length<=sizeLine:=by
  have h1:=gP kvs []
  rw[List.length_nil]at h1
  rw[sizeLine_eq];omega
 have he:∃ q,h'.get? s.heap.objs.size=some q:=let⟨q,_,_,hq,_⟩:=dd';⟨q,hq⟩
 exact iA I2 (by rw[e];exact True.intro) hs he (vw hz hd (rk.merge .nil) dd')
/-! ### methods -/
structure M1 (X:Cx) (o:Expr) (m:Str) (apos:Pos) (e:Expr) (cpos:Pos):Prop where
 base:attributeBase o m X.env (eval o X.env)=eval o X.env
 few:((backTo cpos (starEach [e] X.env)).all (fun x=>!x.1)&&(backToKw cpos (keywordEach [] X.env)).all (fun x=>x.1.isSome)
 &&decide (([e]:List Expr).length+([]:List Keyword).length+(if([]:List Keyword).isEmpty then 0 else 1)<30))=true
 line:(apos.endLine==cpos.line)=true
 trees:backTo cpos (starEach [e] X.env)=[(false,eval e X.env)]
structure M2 (X:Cx) (o:Expr) (m:Str) (apos:Pos) (e f:Expr) (cpos:Pos):Prop where
 base:attributeBase o m X.env (eval o X.env)=eval o X.env
 few:((backTo cpos (starEach [e,f] X.env)).all (fun x=>!x.1)&&(backToKw cpos (keywordEach [] X.env)).all (fun x=>x.1.isSome)
 &&decide (([e,f]:List Expr).length+([]:List Keyword).length+(if([]:List Keyword).isEmpty then 0 else 1)<30))=true
 line:(apos.endLine==cpos.line)=true
 trees:backTo cpos (starEach [e,f] X.env)=[(false,eval e X.env),(false,eval f X.env)]
def IsD (H:Hp) (a:Addr):Prop:=(∃ kvs,Rd H a (.dK kvs))∨∃ kvs,Rd H a (.dT kvs)
theorem so {X:Cx} {pins:List (Addr×Obj)} {σ:St} {H:Hp} {s:Shared} {a:Addr} (I:Inv X pins σ H s) (d:IsD H a) :
  s.TypeIs (.ref a) "dict"/\(∀ b,Value.ref a=.ref b->∃ ob,s.heap.get? b=some ob/\ob.dict=none)/\(a==sysModules)=false:=by
 rcases d with⟨kvs,e⟩|⟨kvs,e⟩
 ·obtain⟨_,hd,vs,_,dd⟩:=mf I.hok e
  refine⟨dd.typeIs,fun b q=>?_,hd⟩
  cases q
  obtain⟨ob,_,_,h1,h2,_⟩:=dd
  exact⟨ob,h1,h2.2.1⟩
 ·obtain⟨_,hd,xs,_,dd⟩:=jL I.hok e
  refine⟨dd.typeIs,fun b q=>?_,hd⟩
  cases q
  obtain⟨ob,_,_,h1,h2,_⟩:=dd
  exact⟨ob,h1,h2.2.1⟩
section
variable {X:Cx} {pins:List (Addr×Obj)} {σ:St} {H:Hp} {s:Shared} {a:Addr} {y d:V} {u r:Value} {o:Option V} {A:Around} {E:Value->Shared->Prop}
theorem yg {Q:Value->Shared->Prop} (hu:A.units+1<cLine) (I:Inv X pins σ H s) (g:ia H a y o) (ry:ap y u) (rd:ap d r) (h:∀ w' s',Inv X pins σ H s'->ap (o.getD d) w'->Q w' s') :
  wpAny (model X.prog X.w) A (call (.builtin "dict.get") [.ref a,u,r]) Q E s:=by
 rcases g with⟨kvs,k,e,ey,l⟩|⟨kvs,k,b,e,ey,eb,l⟩
 ·subst ey
  obtain⟨z,hd,vs,rel,dd⟩:=mf I.hok e
  refine call_meetsIn PySem.F.slot_dict_get dd.typeIs PySem.F.entry_dict_get (PySem.F.args_dict_get_3 _ _ _) (meets_dict_get_default (aJ X.prog X.w) a (lQ ry) hd r) ⟨_,dd.mapOf,h _ _ (I.tok _) ?_⟩
  rw[l]
  exact(rel.val k).getD rd
 ·subst ey
  cases(show u=Value.ref b from ry)
  obtain⟨z,hd,xs,rel,dd⟩:=jL I.hok e
  refine call_meetsIn PySem.F.slot_dict_get dd.typeIs PySem.F.entry_dict_get (PySem.F.args_dict_get_3 _ _ _) (meetsH_dict_get_default (tupleKind (aJ X.prog X.w)) a b hd r) ⟨tupleKind_room_in1 hu,k,xs,ib I.hok eb,dd,h _ _ (I.tok _) ?_⟩
  rw[l]
  exact(rel.val k).getD rd
end
def AY (td ty tx:TE):TE:=fun σ H Q=>td σ H fun x H1=>∃ a,x=.ref a/\IsD H1 a/\ty σ H1 fun y H2=>tx σ H2 fun z H3=>∃ o,ia H3 a y o/\Q (o.getD z) H3
section
variable {X:Cx} {o e f:Expr} {apos cpos:Pos} {td ty tx:TE}
theorem pz (hu:X.A.units+1<cLine) (ho:PE X o td) (he:PE X e ty) (hf:PE X f tx) (m:M2 X o "get" apos e f cpos):PE X (.Call (.Attribute o "get" apos) [e,f] [] cpos) (AY td ty tx):=by
 intro pins s σ H Q I h
 refine wpAny_Call_method m.base m.few m.line PySem.F.plainAttrs_dict PySem.F.slot_dict_get PySem.F.type_dict_get (thn (ho pins s σ H _ I h) fun u s1 ⟨x,H1,I1,rx,a,ex,d,q1⟩=>?_)
 subst ex
 obtain rfl:u=Value.ref a:=rx
 obtain⟨t1,t2,_⟩:=so I1 d
 refine⟨t1,t2,?_⟩
 rw[m.trees]
 refine Calls.callWith_builtin rfl (Calls.evalArgs_plain (Calls.spliced_cons (thn (he pins s1 σ H1 _ I1 q1) fun iv s2 ⟨y,H2,I2,ry,q2⟩ =>
  Calls.spliced_cons (thn (hf pins s2 σ H2 _ I2 q2) fun fv s3 ⟨z,H3,I3,rz,ov,g,q3⟩=>Calls.spliced_nil ?_))))
 exact yg hu I3 g ry rz fun w' s4 I4 rw'=>⟨_,H3,I4,rw',q3⟩
end
/-! ### dict(d): a copy -/
/-! ### a dict's pairs: keys that differ -/
/-! a list comprehension with one clause,run over the layer's own judgements -/
def ah (X:Cx) (scope:Scope) (cl:List (Str×Addr)) (N:List Str) (C:Addr) (s:Shared) (H:Hp) (ex:List Addr):Cx where
 prog:=X.prog
 w:=X.w
 K:=X.K
 mg:=X.mg
 base:=X.base
 A:=X.A
 N:=N
 s₀:=s
 H₀:=H
 env:=compEnvC scope cl C X.env
 outer:=X.stack
 stack:=X.stack
 ex:=ex
 calm:=X.calm
 fn:=fun _=>false
 pn:=[]
 xe:=fun _ _=>False
def bx:List Bool->St->St
 |true::ms,v::σ=>v::bx ms σ
 |false::ms,_::σ=>none::bx ms σ
 |[],_::σ=>none::bx [] σ
 |_,[]=>[]
theorem bA:∀ (ms:List Bool) (σ:St),(bx ms σ).length=σ.length
 |true::ms,v::σ=>by simp[bx,bA ms σ]
 |false::ms,_::σ=>by simp[bx,bA ms σ]
 |[],_::σ=>by simp[bx,bA [] σ]
 |[],[]=>by simp[bx]
 |true::_,[]=>by simp[bx]
 |false::_,[]=>by simp[bx]
theorem gu:∀ {ms:List Bool} {σ:St} {i:Nat} {v:V},(bx ms σ)[i]?=some (some v)->ms[i]?=some true/\σ[i]?=some (some v)
 |true::ms,v::σ,0,x,h=>by simpa[bx]using h
 |true::ms,v::σ,i+1,x,h=>by
  have:=gu (ms:=ms) (σ:=σ) (i:=i) (v:=x) (by simpa[bx]using h)
  simpa using this
 |false::ms,_::σ,0,x,h=>by simp[bx]at h
 |false::ms,_::σ,i+1,x,h=>by
  have:=gu (ms:=ms) (σ:=σ) (i:=i) (v:=x) (by simpa[bx]using h)
  simpa using this
 |[],_::σ,0,x,h=>by simp[bx]at h
 |[],_::σ,i+1,x,h=>by
  have:=gu (ms:=[]) (σ:=σ) (i:=i) (v:=x) (by simpa[bx]using h)
  simpa using this
 |[],[],_,_,h=>by simp[bx]at h
 |true::_,[],_,_,h=>by simp[bx]at h
 |false::_,[],_,_,h=>by simp[bx]at h
def c9 (ms:List Bool) (k:Nat) (σ:St):St:=bx ms σ++List.replicate k none
theorem uk {ms:List Bool} {k:Nat} {σ:St} {i:Nat} {v:V} (h:(c9 ms k σ)[i]?=some (some v)):i<σ.length/\ms[i]?=some true/\σ[i]?=some (some v):=by
 unfold c9 at h
 by_cases hi:i<(bx ms σ).length
 ·rw[List.getElem?_append_left hi]at h
  exact⟨by rwa [bA]at hi,gu h⟩
 ·rw[List.getElem?_append_right (by omega),List.getElem?_replicate]at h
  split at h<;>cases h
structure bv (X:Cx) (scope:Scope) (cl:List (Str×Addr)) (ms:List Bool) (extra:List Str):Prop where
 kind:scope.kind=.function
 ncell:∀ y∈scope.names,y.2≠.cell
 names:∀ y∈scope.names,y.2=.local->scope.names.lookup y.1=some .local
 clos:closureFor scope X.env=pure cl
 sub:∀ x c,cl.lookup x=some c->X.env.cells.lookup x=some c
 has:∀ x,scope.names.lookup x=some .free->∃ c,cl.lookup x=some c
 fr:∀ x,scope.names.lookup x=some .free->X.env.scope.names.lookup x=some .cell∨X.env.scope.names.lookup x=some .free
 mask:∀ (i:Nat) (x:Str),ms[i]?=some true->X.N[i]?=some x->scope.names.lookup x=some .free
 mlen:ms.length<=X.N.length
theorem iN {env:Env}:∀ {names:List (Str×NameKind)} {x:Str} {k:NameKind},
  (names.map fun(n,k)=>if(k==NameKind.free&&env.scope.kind==.function&&env.kindOf n==some .cell)then(n,NameKind.cell)else(n,k)).lookup x=some k->(∀ y∈names,y.2≠.cell)->k=.cell∨k=.free->names.lookup x=some .free
 |[],_,_,h,_,_=>by simp at h
 |(n,k0)::r,x,k,h,hc,hk=>by
  have ih:=@iN env r x k
  have h:List.lookup x ((if(k0==NameKind.free&&env.scope.kind==.function&&env.kindOf n==some .cell)=true then(n,NameKind.cell)else(n,k0))::_)=some k:=h
  cases hx:x==n with
  |true =>
   by_cases hq:(k0==NameKind.free&&env.scope.kind==.function&&env.kindOf n==some .cell)=true
   ·have:k0=.free:=by
     simp at hq
     exact hq.1.1
    subst this
    simp[List.lookup_cons,hx]
   ·rw[if_neg hq]at h
    simp only[List.lookup_cons,hx]at h
    cases h
    rcases hk with rfl|rfl
    ·exact absurd rfl (hc (n,.cell) List.mem_cons_self)
    ·simp[List.lookup_cons,hx]
  |false =>
   by_cases hq:(k0==NameKind.free&&env.scope.kind==.function&&env.kindOf n==some .cell)=true
   ·rw[if_pos hq]at h
    simp only[List.lookup_cons,hx]at h ⊢
    exact ih h (fun y hy=>hc y (List.mem_cons_of_mem _ hy)) hk
   ·rw[if_neg hq]at h
    simp only[List.lookup_cons,hx]at h ⊢
    exact ih h (fun y hy=>hc y (List.mem_cons_of_mem _ hy)) hk
theorem iw {env:Env}:∀ {names:List (Str×NameKind)} {x:Str},names.lookup x=some .free ->
  (names.map fun(n,k)=>if(k==NameKind.free&&env.scope.kind==.function&&env.kindOf n==some .cell)then(n,NameKind.cell)else(n,k)).lookup x=some .cell ∨
  (names.map fun(n,k)=>if(k==NameKind.free&&env.scope.kind==.function&&env.kindOf n==some .cell)then(n,NameKind.cell)else(n,k)).lookup x=some .free
 |[],_,h=>by simp at h
 |(n,k0)::r,x,h=>by
  have ih:=@iw env r x
  show List.lookup x ((if(k0==NameKind.free&&env.scope.kind==.function&&env.kindOf n==some .cell)=true then(n,NameKind.cell)else(n,k0))::_)=_∨List.lookup x ((if(k0==NameKind.free&&env.scope.kind==.function&&env.kindOf n==some .cell)=true then(n,NameKind.cell)else(n,k0))::_)=_
  cases hx:x==n with
  |true =>
   simp only[List.lookup_cons,hx]at h
   cases h
   split
   ·left;simp[List.lookup_cons,hx]
   ·right;simp[List.lookup_cons,hx]
  |false =>
   simp only[List.lookup_cons,hx]at h
   split<;>(simp only[List.lookup_cons,hx];exact ih h)
section
variable {X:Cx} {pins:List (Addr×Obj)} {σ:St} {H H2:Hp} {s s2:Shared} {scope:Scope} {cl:List (Str×Addr)} {ms:List Bool} {extra:List Str}
theorem pd (I:Inv X pins σ H s) (S:bv X scope cl ms extra) {fp:List Addr} (hfp:∀ b∈fp,cy X pins H b) (hlt:∀ b∈fp,b<s.heap.objs.size) {C:Addr} (hC:s.heap.objs.size<=C) :
  (ah X scope cl (X.N++extra) C s H fp).Ok where
 mod:=I.ok.mod
 kind:=S.kind
 glob:=I.ok.glob
 blt:=I.ok.blt
 above:=hC
 inj:=fun x y c h1 h2=>I.ok.inj x y c (S.sub x c h1) (S.sub y c h2)
 has:=fun x hx=>S.has x (iN (env:=X.env) (k:=if(ah X scope cl (X.N++extra) C s H fp).env.kindOf x=some .cell then .cell else .free) (by
  rcases hx with hx|hx
  ·rw[if_pos hx];exact hx
  ·rw[if_neg (by rw[hx];decide)];exact hx) S.ncell (by split<;>simp))
 cab:=fun x c h=>by cases h
 hd:=I.ok.hd
 frames:=I.ok.frames
 stk:=.inl rfl
 exf:=fun b hb=>⟨Nat.ne_of_lt (Nat.lt_of_lt_of_le (hlt b hb) hC),fun x c e=>(hfp b hb).2.2.2.2.1 x c (S.sub x c e)⟩
 bs:=I.bs
 bsz:=Nat.le_trans I.ok.bsz I.sz
 noex:=fun b o e hb=>by
  rcases(hfp b hb).2.2.2.1 with z|z
  ·exact I.ok.noex b o e z
  ·exact absurd (Nat.lt_of_lt_of_le (Heap.lt_size e) (Nat.le_trans I.ok.bsz z)) (Nat.lt_irrefl _)
 exfs:=fun b hb z=>by
  rcases List.mem_cons.mp (I.stkSub b z)with e|e
  ·exact(hfp b hb).2.1 e
  ·exact(hfp b hb).2.2.1 e
 funs:=I.stack
 frf:=I.stkFree
theorem n9 (I:Inv X pins σ H s) (S:bv X scope cl ms extra) {fp:List Addr} (hfp:∀ b∈fp,cy X pins H b) (hlt:∀ b∈fp,b<s.heap.objs.size) {C:Addr} (hC:s.heap.objs.size<=C)
  (os:s2.os=s.os) (bare:AllBare s2.gens) (keep:∀ b o,s.heap.get? b=some o->s2.heap.get? b=some o) {m:Str->Option Value} (hn:s2.heap.Ns C m) :
  Inv (ah X scope cl (X.N++extra) C s H fp) [] (c9 ms extra.length σ) H s2 where
 ok:=pd I S hfp hlt hC
 os:=os
 bare:=bare
 base:=Un.kept keep
 loc:=⟨m,hn,fun i x v h1 h2 h3=>by
  obtain⟨hi,hm,hv⟩:=uk h2
  have hiN:i<X.N.length:=by rw[<-I.len];exact hi
  have hx:X.N[i]?=some x:=by
   have h1':(X.N++extra)[i]?=some x:=h1
   rwa [List.getElem?_append_left hiN]at h1'
  have hf:=S.mask i x hm hx
  obtain⟨m0,hn0,hl⟩:=I.loc
  obtain⟨u,r,l⟩:=hl i x v hx hv (by rcases S.fr x hf with z|z<;>simp[Vis,z])
  refine⟨u,r,.inr ⟨?_,?_⟩⟩
  ·exact iw (env:=X.env) hf
  ·obtain⟨c,hc⟩:=S.has x hf
   have hc':=S.sub x c hc
   rcases l with⟨k,_⟩|⟨_,c',e,z⟩
   ·rcases S.fr x hf with z|z<;>(have k':X.env.scope.names.lookup x=some .local:=k;rw[z]at k';cases k')
   ·rw[hc']at e;cases e
    obtain⟨o,ho,hd⟩:=z
    exact⟨c,hc,o,keep _ _ ho,hd⟩⟩
 cell:=fun x c e=>by
  obtain⟨v,o,ho,hd⟩:=I.cell x c (S.sub x c e)
  exact⟨v,o,keep _ _ ho,hd⟩
 free:=I.hok.fresh hC
 freeC:=fun x c e=>I.freeC x c (S.sub x c e)
 pin:=fun p hp=>absurd (show p∈([]:List (Addr×Obj))from hp) (by simp)
 hok:=I.hok.kept keep
 len:=by
  unfold c9
  rw[List.length_append,bA,List.length_replicate,I.len]
  show _=(X.N++extra).length
  rw[List.length_append]
end
def PIf (X:Cx) (ifs:List Expr) (t:TT):Prop :=
 ∀ (pins:List (Addr×Obj)) (s:Shared) (σ:St) (H:Hp) (Q:Bool->Hp->Prop),Inv X pins σ H s->t σ H Q ->
  wpAny (model X.prog X.w) X.A (forIn ifs true fun c r=>if r=true then do let ok <-isTrue c X.env (eval c X.env);pure (ForInStep.yield ok)else pure (ForInStep.yield r)) (TP X pins σ Q) X.xe s
def Fl:TT:=fun _ H Q=>Q true H
theorem yQ {X:Cx}:PIf X [] Fl:=fun _ _ _ H _ I h=>wpAny_tests_nil ⟨H,I,h⟩
theorem zZ {X:Cx} {c:Expr} {t:TT} (h:PT X c t):PIf X [c] t:=fun pins s σ H Q I q=>wpAny_tests_one (h pins s σ H Q I q)
abbrev bh (its:List Value) (n:Nat):Obj:={ cls:=.type "list",data:=.seq its.toArray n }
def pD (J:It) (g:TG) (tc:TT) (te:TE) (W:Nat->Nat->List V->St->Hp->Prop) (Z:List V->Hp->Prop):Prop :=
 ∀ i m ys σ H,W i m ys σ H->ys.length<=sizeLine/\((J.stop i H/\Z ys H) ∨
  (J.go i H/\∀ x H',J.yld i H x H'->g x σ H' fun σ2 H2=>tc σ2 H2 fun b H3=>if b=true then te σ2 H3 fun y H4=>∃ m',m'<m/\W (i+1) m' (ys++[y]) σ2 H4 else ∃ m',m'<m/\W (i+1) m' ys σ2 H3))
theorem fV {prog:Program} {w:World} {A:Around} {R:Result->Shared->Prop} {s:Shared} {elt target iter:Expr} {ifs:List Expr} {scope:Scope} {pos:Pos} {it acc:Value} {env:Env} (I:Nat->Shared->Prop)
  (turn:∀ n s,I n s → wpAny (model prog w) A (pyNext it) (fun r s₁ => match r with
   |none=>R (.ok .next) s₁
   | some v => wpAny (model prog w) A (letOwnedTupleGo target it v) (fun _ s₁ => wpAny (model prog w) A (assign target env v) (fun _ s₂ =>
     wpAny (model prog w) A (forIn ifs true fun c r=>if r=true then do let ok <-isTrue c env (eval c env);pure (ForInStep.yield ok)else pure (ForInStep.yield r)) (fun ok s₃ =>
      if ok=true then wpAny (model prog w) A (eval elt env) (fun x s₄ =>
       wpAny (model prog w) A (call (.builtin "list.append") [acc,x]) (fun _ s₅=>∃ m,m<n/\I m s₅) (fun _ _=>False) s₄) (fun _ _=>False) s₃
      else ∃ m,m<n/\I m s₃) (fun _ _=>False) s₂) (fun _ _=>False) s₁) (fun _ _=>False) s₁) (fun _ _=>False) s)
  (n:Nat) (h:I n s) :
  codeAny (model prog w) A (.compLoop (.ListComp elt [⟨target,iter,ifs,0⟩] scope pos) 0 it acc env) R s:=by
 refine codeAny_loop rfl I (fun n s hI=>?_) n h
 show wpAny _ A ((compTurn (.ListComp elt [⟨target,iter,ifs,0⟩] scope pos) 0 it acc env).onRaise (fun x=>do noteFrame x env;theTreesLotGoes x)) _ _ s
 refine wpAny_noted ?_
 rw[compTurn_list]
 refine wpAny_bind (wpAny_standAt (wpAny_bind (wpAny_mono (turn n s hI) (fun r s₁ h₁=>?_) fun _ _ h'=>h'.elim)))
 cases r with
 |none=>exact wpAny_pure h₁
 |some v =>
  refine wpAny_bind (wpAny_mono h₁ (fun _ s1 h₁=>?_) fun _ _ h'=>h'.elim)
  refine wpAny_bind (wpAny_mono h₁ (fun _ s₂ h₂=>wpAny_bind (wpAny_mono h₂ (fun ok s₃ h₃=>?_) fun _ _ h'=>h'.elim)) fun _ _ h'=>h'.elim)
  cases ok with
  |false=>exact wpAny_pure ⟨rfl,h₃⟩
  |true =>
   exact wpAny_bind (wpAny_bind (wpAny_mono h₃ (fun x s₄ h₄=>wpAny_bind (wpAny_mono h₄ (fun _ s₅ h₅=>wpAny_pure (wpAny_pure ⟨rfl,h₅⟩)) fun _ _ h'=>h'.elim)) fun _ _ h'=>h'.elim))
section
variable {X:Cx} {pins:List (Addr×Obj)} {σ:St} {H2:Hp} {s2:Shared} {scope:Scope} {cl:List (Str×Addr)} {ms:List Bool} {extra:List Str} {tg iter elt:Expr} {ifs:List Expr} {g:TG} {tc:TT} {te:TE} {pos:Pos}
theorem nH (S:bv X scope cl ms extra) (hcalm:X.calm=true)
  (hg:∀ C s H ex,PG (ah X scope cl (X.N++extra) C s H ex) tg g) (hif:∀ C s H ex,PIf (ah X scope cl (X.N++extra) C s H ex) ifs tc) (he:∀ C s H ex,PE (ah X scope cl (X.N++extra) C s H ex) elt te)
  (I2:Inv X pins σ H2 s2) {it:Addr} {fp:List Addr} {tn:Nat->Heap->Prop} {J:It} (T:gJ X.prog X.w X.K tg J fp it tn) (st2:tn 0 s2.heap) (f2:∀ b∈fp,cy X pins H2 b)
  {W:Nat->Nat->List V->St->Hp->Prop} {Z:List V->Hp->Prop} {m0:Nat} (w0:W 0 m0 [] (c9 ms extra.length σ) H2) (turn:pD J g tc te W Z)
  {RR:Value->Addr->Result->Shared->Prop} {E:Value->Shared->Prop}
  (hRR:∀ (s':Shared) (ys:List V) (its:List Value) (n:Nat) (σ':St) (H':Hp),Inv (ah X scope cl (X.N ++ extra) (s2.heap.objs.size + 1) s2 H2 fp) [(s2.heap.objs.size,bh its n)] σ' H' s' → aq ys its → ys.length ≤ sizeLine → Z ys H' →
   RR (.ref s2.heap.objs.size) (s2.heap.objs.size+1) (.ok .next) s') :
  wpAny (model X.prog X.w) X.A (newList []) (fun acc s₃=>wpAny (model X.prog X.w) X.A (newFunctionEnv scope X.env.globals cl [] X.env.qual none .none (some X.env)) (fun cenv s₄ =>
   codeAny (model X.prog X.w) X.A (.compStart (.ListComp elt [⟨tg,iter,ifs,0⟩] scope pos) 0 (.ref it) acc { cenv with scope:=relabel scope X.env }) (RR acc cenv.locals) s₄) E s₃) E s2:=by
 refine wpAny_newObj_type (wpAny_newFunctionEnv S.ncell (by intro y hy;simp at hy) (fun h₁ hns₁ hsb₁=>?_) S.kind)
 dsimp only at hns₁ hsb₁ ⊢
 have hsz:(s2.heap.push { cls:=.type "list",dict:=none,data:=.seq ([]:List Value).toArray }).objs.size=s2.heap.objs.size+1:=by rw[Heap.size_push]
 rw[hsz]at hns₁ hsb₁ ⊢
 have hlt:∀ b∈fp,b<s2.heap.objs.size:=fun b hb=>by
  obtain⟨o,e,_⟩:=T.obj _ _ st2 b hb
  exact Heap.lt_size e
 have old:∀ b o,s2.heap.get? b=some o->h₁.get? b=some o:=fun b o e=>hsb₁.extBut b o (Nat.ne_of_lt (Nat.lt_succ_of_lt (Heap.lt_size e))) (Heap.get?_push_of_some _ (Heap.get?_push_of_some _ e))
 have hacc:h₁.get? s2.heap.objs.size=some (bh [] 0):=hsb₁.extBut _ _ (Nat.ne_of_lt (Nat.lt_succ_self _)) (Heap.get?_push_of_some _ (Heap.get?_push_size _ rfl))
 have hDn:H2 s2.heap.objs.size=none:=I2.hok.fresh (Nat.le_refl _)
 have hDfs:∀ b,s2.heap.objs.size<=b->b∉(ah X scope cl (X.N++extra) (s2.heap.objs.size+1) s2 H2 fp).fs:=fun b hb z=>by
  rcases List.mem_cons.mp (I2.stkSub b z)with e|e
  ·subst e;exact absurd (Nat.lt_of_lt_of_le I2.lt hb) (Nat.lt_irrefl _)
  ·exact I2.nofs hb e
 have loop:∀ s₃:Shared,s₃={ s2 with heap:=h₁,toks:=s2.toks+([]:List (Str×Value)).length } ->
   codeAny (model X.prog X.w) X.A (.compLoop (.ListComp elt [⟨tg,iter,ifs,0⟩] scope pos) 0 (.ref it) (.ref s2.heap.objs.size) (compEnvC scope cl (s2.heap.objs.size+1) X.env)) (RR (.ref s2.heap.objs.size) (s2.heap.objs.size+1)) s₃:=by
  rintro s₃ rfl
  have I3:Inv (ah X scope cl (X.N++extra) (s2.heap.objs.size+1) s2 H2 fp) [] (c9 ms extra.length σ) H2 { s2 with heap:=h₁,toks:=s2.toks+([]:List (Str×Value)).length } :=
   n9 I2 S f2 hlt (Nat.le_succ _) rfl I2.bare old hns₁
  have fpc:∀ {H:Hp} {n:Nat} {its:List Value},(∀ b∈fp,H b=none)->∀ b∈fp,cy (ah X scope cl (X.N++extra) (s2.heap.objs.size+1) s2 H2 fp) [(s2.heap.objs.size,bh its n)] H b:=fun hn b hb =>
   ⟨hn b hb,Nat.ne_of_lt (Nat.lt_succ_of_lt (hlt b hb)),(pd I2 S f2 hlt (Nat.le_succ _)).exfs b hb,.inl hb,fun x c e=>(f2 b hb).2.2.2.2.1 x c (S.sub x c e),fun p hp=>by
    have:p=(s2.heap.objs.size,_):=List.mem_singleton.mp (show p∈[(s2.heap.objs.size,_)]from hp)
    subst this
    exact Nat.ne_of_gt (hlt b hb)⟩
  refine fV (env:=compEnvC scope cl (s2.heap.objs.size+1) X.env)
   (fun n s'=>∃ i ys its nn σ' H',Inv (ah X scope cl (X.N++extra) (s2.heap.objs.size+1) s2 H2 fp) [(s2.heap.objs.size,bh its nn)] σ' H' s'/\aq ys its/\tn i s'.heap/\(∀ b∈fp,H' b=none)/\W i n ys σ' H') ?_ m0
   ⟨0,[],[],0,_,H2,I3.pins_of fun p hp=>?_,.nil,T.keep _ _ _ st2 fun b _ o e=>old b o e,fun b hb=>(f2 b hb).1,w0⟩
  ·rintro n s' ⟨i,ys,its,nn,σ',H',I4,rv,st4,fr4,w4⟩
   obtain⟨hz,h⟩:=turn i n ys σ' H' w4
   rcases h with⟨stop,hZ⟩|⟨go,step⟩
   ·refine thn (T.done (ah X scope cl (X.N++extra) (s2.heap.objs.size+1) s2 H2 fp) rfl rfl rfl hcalm i _ s' _ H' (fun _ _=>False) I4 (fpc fr4) st4 stop) fun r s4 ⟨hr,I5⟩=>?_
    subst hr
    exact hRR s4 ys its nn σ' H' I5 rv hz hZ
   ·refine thn (T.item (ah X scope cl (X.N++extra) (s2.heap.objs.size+1) s2 H2 fp) rfl rfl rfl hcalm i _ s' _ H' (fun _ _=>False) I4 (fpc fr4) st4 go) fun r s5 ⟨u,hr,h5⟩=>?_
    subst hr
    refine thn h5 fun _ s6 ⟨x,H6,I6,r6,y6,st6,fr6⟩=>?_
    have I6':=I6.pinned (fpc fr6) (T.obj _ _ st6)
    refine thn (hg _ _ _ _ _ s6 _ H6 x u _ I6' r6 (step x H6 y6)) fun _ s7 ⟨σ7,H7,I7,q7⟩=>?_
    refine thn (hif _ _ _ _ _ s7 σ7 H7 _ I7 q7) fun ok s8 ⟨H8,I8,q8⟩=>?_
    have keepfp:∀ {σ9:St} {H9:Hp} {s9:Shared},Inv (ah X scope cl (X.N++extra) (s2.heap.objs.size+1) s2 H2 fp) ([(s2.heap.objs.size,bh its nn)]++eF fp s6.heap) σ9 H9 s9->tn (i+1) s9.heap/\∀ b∈fp,H9 b=none:=fun {σ9 H9 s9} I9 =>
     ⟨T.keep _ _ _ st6 fun b hb o e=>(I9.pin (b,o) (List.mem_append_right _ (List.mem_append_right _ (bo hb e)))).1,fun b hb=>by
      obtain⟨o,e,d⟩:=T.obj _ _ st6 b hb
      exact(I9.pin (b,o) (List.mem_append_right _ (List.mem_append_right _ (bo hb e)))).2.1⟩
    cases ok with
    |false =>
     obtain⟨m',hm,w8⟩:=q8
     obtain⟨a8,b8⟩:=keepfp I8
     exact⟨m',hm,i+1,ys,its,nn,σ7,H8,I8.unpinned,rv,a8,b8,w8⟩
    |true =>
     refine thn (he _ _ _ _ _ s8 σ7 H8 _ I8 q8) fun v s9 ⟨y,H9,I9,r9,q9⟩=>?_
     obtain⟨m',hm,w9⟩:=q9
     obtain⟨a9,b9⟩:=keepfp I9
     have pacc:=I9.pin (s2.heap.objs.size,bh its nn) (List.mem_append_right _ (List.mem_append_left _ List.mem_cons_self))
     have hzi:its.toArray.size<=sizeLine:=by rw[List.size_toArray,<-rv.length];exact hz
     refine PySem.wpAny_list_append_plain (hsz:=hzi) ⟨nn,pacc.1⟩ fun h' hl' hs'=>?_
     obtain⟨n',hl'⟩:=hl'
     have hne:∀ x c,(ah X scope cl (X.N++extra) (s2.heap.objs.size+1) s2 H2 fp).env.cells.lookup x=some c->c≠s2.heap.objs.size:=fun x c e=>by
      obtain⟨v,o,ho,_⟩:=I2.cell x c (S.sub x c e)
      exact Nat.ne_of_lt (Heap.lt_size ho)
     have I10:Inv (ah X scope cl (X.N++extra) (s2.heap.objs.size+1) s2 H2 fp) [] σ7 H9 { s9 with heap:=h' } :=
      Inv.turned (t':=s9.toks) (it:=s2.heap.objs.size) (I9.pins_of fun p hp=>absurd hp (by simp)) (fun b o hb e=>(hs'.2 b hb).trans e) pacc.2.1 pacc.2.2.1 (.inr (Nat.le_refl _)) hne (fun p hp=>absurd (show p∈([]:List (Addr×Obj))from hp) (by simp))
     refine⟨m',hm,i+1,ys++[y],its++[v],n',σ7,H9,I10.pins_of fun p hp=>?_,rv.append (.cons r9 .nil),T.keep _ _ _ a9 fun b hb o e=>(hs'.2 b (Nat.ne_of_lt (hlt b hb))).trans e,b9,w9⟩
     have e:p=(s2.heap.objs.size,bh (its++[v]) n'):=List.mem_singleton.mp hp
     subst e
     refine⟨?_,pacc.2.1,pacc.2.2.1,pacc.2.2.2.1,fun v z=>by cases z⟩
     rw[hl']
     simp[bh]
  ·have e:p=(s2.heap.objs.size,bh [] 0):=List.mem_singleton.mp hp
   subst e
   exact⟨hacc,hDn,Nat.ne_of_lt (Nat.lt_succ_self _),hDfs _ (Nat.le_refl _),fun v z=>by cases z⟩
 exact codeAny_compStart_list (loop _ rfl) (T.self _ 0 _ _ _ (T.keep _ _ _ st2 fun b _ o e=>old b o e) (loop _ rfl))
end
section
variable {X:Cx} {pins:List (Addr×Obj)} {σ σ':St} {H2 H':Hp} {s2 s':Shared} {scope:Scope} {cl:List (Str×Addr)} {ms:List Bool} {extra:List Str} {tg iter elt:Expr} {ifs:List Expr} {g:TG} {tc:TT} {te:TE} {pos:Pos}
theorem gA (I2:Inv X pins σ H2 s2) {fp:List Addr} (f2:∀ b∈fp,cy X pins H2 b) {its:List Value} {n:Nat} {ys:List V}
  (I':Inv (ah X scope cl (X.N++extra) (s2.heap.objs.size+1) s2 H2 fp) [(s2.heap.objs.size,bh its n)] σ' H' s') (rv:aq ys its) (hz:ys.length<=sizeLine) {h':Heap} (hs:Heap.SameBut (s2.heap.objs.size+1) s'.heap h') :
  Inv X pins σ (upd H' s2.heap.objs.size (.lst ys)) { s' with heap:=h' }/\H' s2.heap.objs.size=none:=by
 have pacc:=I'.pin (s2.heap.objs.size,bh its n) (List.mem_append_right _ List.mem_cons_self)
 have hC:H' (s2.heap.objs.size+1)=none:=I'.free
 have hD:H' s2.heap.objs.size=none:=pacc.2.1
 have up:∀ b o,b≠s2.heap.objs.size+1->s'.heap.get? b=some o->h'.get? b=some o:=fun b o hb e=>(hs.2 b hb).trans e
 have nD:∀ b u,H' b=some u->b≠s2.heap.objs.size:=fun b u e z=>by rw[z,hD]at e;cases e
 have nC:∀ b u,H' b=some u->b≠s2.heap.objs.size+1:=fun b u e z=>by rw[z,hC]at e;cases e
 have hacc:h'.get? s2.heap.objs.size=some (bh its n):=up _ _ (Nat.ne_of_lt (Nat.lt_succ_self _)) pacc.1
 have hok:HOk X.prog X.w (upd H' s2.heap.objs.size (.lst ys)) h':=fun b u e=>by
  by_cases hb:b=s2.heap.objs.size
  ·subst hb
   rw[ax]at e;cases e
   exact⟨hz,its,n,rv,hacc⟩
  ·rw[aA hb]at e
   refine(I'.hok b u e).stay (fun c v hc q=>up c v ?_ q) (fun c q=>by rw[aA (nD c _ q)];exact q) fun c xs q=>by rw[aA (nD c _ q)];exact q
   rcases hc with rfl|hc
   ·exact nC _ _ e
   ·exact nC _ _ hc
 have un:Un (frs X.stack) fp H2 (upd H' s2.heap.objs.size (.lst ys)) s2.heap h':=by
  have U:=I'.base
  have ltD:∀ b o,s2.heap.get? b=some o->b≠s2.heap.objs.size:=fun b o e=>Nat.ne_of_lt (Heap.lt_size e)
  have ltC:∀ b o,s2.heap.get? b=some o->b≠s2.heap.objs.size+1:=fun b o e=>Nat.ne_of_lt (Nat.lt_succ_of_lt (Heap.lt_size e))
  refine⟨fun b o e nb hb hx=>up b o (ltC b o e) (U.keep b o e nb hb hx),fun b o e nb hb hx=>?_,fun b o e nb hx=>by rw[aA (ltD b o e)];exact U.free b o e nb hx,fun b o e hx=>?_,
   fun b xs e=>by have q:=U.tups b xs e;rw[aA (nD b _ q)];exact q,fun b o u e=>by have q:=U.frzs b o u e;rw[aA (nD b _ q)];exact q,fun b ps e=>?_⟩
  ·obtain⟨sl,q⟩:=U.slot b o e nb hb hx
   exact⟨sl,up b _ (ltC b o e) q⟩
  ·obtain⟨o',q⟩:=U.there b o e hx
   exact⟨o',up b _ (ltC b o e) q⟩
  ·obtain⟨more,q⟩:=U.tbls b ps e
   exact⟨more,by rw[aA (nD b _ q)];exact q⟩
 exact⟨I2.call' (s':={ s' with heap:=h' }) (ch:=fp) I'.os un hok I'.bare fun b hb=>⟨(f2 b hb).2.2.2.1,(f2 b hb).2.1,(f2 b hb).2.2.2.2.1,(f2 b hb).2.2.2.2.2⟩,hD⟩
def tLc (ms:List Bool) (k:Nat) (wi:TI) (g:TG) (tc:TT) (te:TE):TE:=fun σ H Q=>wi σ H fun J H1=>∃ (W:Nat->Nat->List V->St->Hp->Prop) (Z:List V->Hp->Prop),(∃ m,W 0 m [] (c9 ms k σ) H1)/\pD J g tc te W Z /\
 ∀ ys H p,Z ys H->H p=none->Q (.ref p) (upd H p (.lst ys))
theorem Aj (S:bv X scope cl ms extra) (hcalm:X.calm=true) {wi:TI} (hi:PI X tg iter wi)
  (hg:∀ C s H ex,PG (ah X scope cl (X.N++extra) C s H ex) tg g) (hif:∀ C s H ex,PIf (ah X scope cl (X.N++extra) C s H ex) ifs tc) (he:∀ C s H ex,PE (ah X scope cl (X.N++extra) C s H ex) elt te)
  (hs:∀ x,foldedSetIterable iter X.env x=pure x:=by intro _;rfl):PE X (.ListComp elt [⟨tg,iter,ifs,0⟩] scope pos) (tLc ms extra.length wi g tc te):=by
 intro pins s σ H Q I h
 rw[eval_ListComp]
 refine wpAny_comprehension_free (use:=none) rfl hs S.clos S.kind S.names (thn (hi pins s σ H _ I h) fun v s1 h1=>thn h1 fun itv s2 h2=>?_)
 obtain⟨it,fp,tn,J,H2,e,I2,T,st2,f2,W,Z,⟨m0,w0⟩,turn,q⟩:=h2
 subst e
 refine nH S hcalm hg hif he I2 T st2 f2 w0 turn (RR:=fun acc C=>compPost (model X.prog X.w) X.A X.xe none (EP X pins σ Q) acc C) ?_
 intro s' ys its n σ' H' I' rv hz hZ
 obtain⟨m,hm,_⟩:=I'.loc
 refine⟨m,hm,fun h' hs'=>?_⟩
 obtain⟨I3,hD⟩:=gA I2 f2 I' rv hz hs'
 exact⟨.ref s2.heap.objs.size,_,I3,rfl,q ys H' _ hZ hD⟩
theorem vQ {i:Nat} {x:Str} {spos pos':Pos} (hN:X.N.Nodup) (hix:X.N[i]?=some x) (hx:X.env.scope.names.lookup x=some .local)
  (hsw:swapsWith (.ListComp elt [⟨tg,iter,ifs,0⟩] scope pos) (some (.Name x pos')) spos.line X.env=pure true)
  (S:bv X scope cl ms extra) (hcalm:X.calm=true) {wi:TI} (hi:PI X tg iter wi)
  (hg:∀ C s H ex,PG (ah X scope cl (X.N++extra) C s H ex) tg g) (hif:∀ C s H ex,PIf (ah X scope cl (X.N++extra) C s H ex) ifs tc) (he:∀ C s H ex,PE (ah X scope cl (X.N++extra) C s H ex) elt te)
  (hs:∀ x,foldedSetIterable iter X.env x=pure x:=by intro _;rfl):PS X (.Assign [.Name x pos'] (.ListComp elt [⟨tg,iter,ifs,0⟩] scope pos) spos) (z6 (tLc ms extra.length wi g tc te) (nz i)):=by
 intro pins s σ H D I h
 rw[exec_Assign_Name_used _ _ _ _ hsw]
 refine wpAny_bind (wpAny_standAt (wpAny_bind ?_))
 show wpAny _ _ (do let _ <-comprehension (.ListComp elt [⟨tg,iter,ifs,0⟩] scope pos) scope X.env _ (newList []) false (eval iter X.env) (some (assign (.Name x pos') X.env))) _ _ s
 refine wpAny_bind (wpAny_mono (wpAny_comprehension_free (use:=some (assign (.Name x pos') X.env)) (Q:=fun _ s'=>SP X pins D .next s') rfl hs S.clos S.kind S.names
  (thn (hi pins s σ H _ I h) fun v s1 h1=>thn h1 fun itv s2 h2=>?_)) (fun _ s' hq=>wpAny_pure (wpAny_pure hq)) fun _ _ e=>e)
 obtain⟨it,fp,tn,J,H2,e,I2,T,st2,f2,W,Z,⟨m0,w0⟩,turn,q⟩:=h2
 subst e
 refine nH S hcalm hg hif he I2 T st2 f2 w0 turn (RR:=fun acc C=>compPost (model X.prog X.w) X.A X.xe (some (assign (.Name x pos') X.env)) (fun _ s'=>SP X pins D .next s') acc C) ?_
 intro s' ys its n σ' H' I' rv hz hZ
 obtain⟨m,hm,_⟩:=I'.loc
 obtain⟨I3,hD⟩:=gA I2 f2 I' rv hz (Heap.SameBut.refl (s2.heap.objs.size+1) s'.heap)
 have hq:=q ys H' _ hZ hD
 show wpAny _ _ (assign (.Name x pos') X.env (.ref s2.heap.objs.size)) _ _ _
 refine wpAny_assign_Name (jH I3 hN hix (.inl hx) (v:=.ref s2.heap.objs.size) rfl (fun s4 I4 hsame=>?_) (.inr hx))
 obtain⟨a,hsb,ha⟩:=hsame
 have hLC:s2.heap.objs.size+1≠X.env.locals:=Nat.ne_of_gt (Nat.lt_succ_of_lt I2.lt)
 have haC:s2.heap.objs.size+1≠a:=by
  rcases ha with rfl|ha
  ·exact hLC
  ·intro z
   obtain⟨v,o,ho,_⟩:=I2.cell x a ha
   exact absurd (Nat.lt_succ_of_lt (Heap.lt_size ho)) (by rw[<-z];exact Nat.lt_irrefl _)
 have hCn:upd H' s2.heap.objs.size (.lst ys) (s2.heap.objs.size+1)=none:=by rw[aA (Nat.ne_of_gt (Nat.lt_succ_self _))];exact I'.free
 refine⟨m,hm.sameBut hsb haC,fun h' hs'=>?_⟩
 refine⟨_,_,?_,hq⟩
 have hL:∀ b o,b≠s2.heap.objs.size+1->s4.heap.get? b=some o->h'.get? b=some o:=fun b o hb e=>(hs'.2 b hb).trans e
 have I5:=Inv.turned (t':=s4.toks) (h':=h') (it:=s2.heap.objs.size+1) I4 (fun b o hb e=>hL b o hb e) hCn hLC (.inr (Nat.le_succ_of_le I2.sz)) (fun y c e=>by
  obtain⟨v,o,ho,_⟩:=I2.cell y c e
  exact Nat.ne_of_lt (Nat.lt_succ_of_lt (Heap.lt_size ho))) (fun p hp=>by
  exact Nat.ne_of_lt (Nat.lt_succ_of_lt (Heap.lt_size (I2.pin p hp).1)))
 exact I5
end
/-! ### deep data: tuples and lists that stay as they are stand as values;ref: the address of a cell that is ours to change -/
inductive Bx where
 |dk (ks:List Key)|dt (ks:List (List Key))|ins (C:Addr) (fs:List Str)|key
 deriving Inhabited
inductive D where
 |non|bl (b:Bool)|int (i:Int)|str (x:Str)|tup (ds:List D)|lst (ds:List D)|scr (ds:List D)|emp|ref (a:Addr)|box (t:Bx) (ds:List D)
 deriving Inhabited
inductive HD where
 |lst (ds:List D)|dK (kvs:List (Key×D))|dT (kvs:List (List Key×D))|dKr (o:Obj) (ks:List (Key×V)) (kvs:List (Key×D))|ins (C:Addr) (fs:List (Str×D))
 deriving Inhabited
abbrev DH:=Addr->Option HD
def al (M:DH) (a:Addr) (o:HD):DH:=fun b=>if b=a then some o else M b
def g8 (M:DH) (a:Addr):DH:=fun b=>if b=a then none else M b
abbrev noM:DH:=fun _=>none
theorem ag {M:DH} {a:Addr} {o:HD}:al M a o a=some o:=if_pos rfl
theorem ao {M:DH} {a b:Addr} {o:HD} (h:b≠a):al M a o b=M b:=if_neg h
theorem ay {M:DH} {a:Addr} {o u:HD}:al (al M a o) a u=al M a u:=by
 funext b;unfold al;split<;>rfl
theorem dl {M:DH} {a:Addr}:g8 M a a=none:=if_pos rfl
theorem ko {M:DH} {a b:Addr} (h:b≠a):g8 M a b=M b:=if_neg h
theorem i7 {M:DH} {a:Addr} {o:HD} (h:M a=none):g8 (al M a o) a=M:=by
 funext b;unfold g8 al;split
 ·rename_i e;rw[e,h]
 ·rfl
theorem nv {M:DH} {a:Addr} {o:HD} (h:M a=some o):al M a o=M:=by
 funext b;unfold al;split
 ·rename_i e;rw[e,h]
 ·rfl
def nN (K:PySem.W.Frag) (M:DH) (H:Hp) (a:Addr) (vs:List V):Prop:=(Rd H a (.tup vs)/\M a=none)∨SqT K (fun _=>none) a vs
def sA (M:DH) (H:Hp) (a:Addr) (vs:List V):Prop:=H a=some (.lst vs)/\M a=none
def nR (K:PySem.W.Frag) (M:DH) (H:Hp) (a:Addr) (vs:List V):Prop:=((∃ o,H a=some (.frz o (.lst vs)))/\M a=none)∨SqL K (fun _=>none) a vs
def DC (M:DH) (H:Hp) (a:Addr):Prop:=H a=some (.dK [])/\M a=none
def fF (M:DH) (H:Hp) (a:Addr):Bx->List V->Prop
 |.dk ks,vs=>ks.length=vs.length/\(∃ o,H a=some (.frz o (.dK (ks.zip vs))))/\M a=none
 |.dt ks,vs=>ks.length=vs.length/\(∃ o,H a=some (.frz o (.dT (ks.zip vs))))/\M a=none
 |.ins C fs,vs=>fs.length=vs.length/\(∃ dx,H a=some (.ins C dx (fs.zip vs)))/\M a=none
 |.key,vs=>True/\(∃ _u:Unit,H a=some (.tup vs))/\M a=none
mutual
def Rep (K:PySem.W.Frag) (M:DH) (H:Hp):D->V->Prop
 |.non,v=>v=.non
 |.bl b,v=>v=.bl b
 |.int i,v=>v=.int i
 |.str x,v=>v=.str x
 |.tup ds,v=>∃ a vs,v=.ref a/\nN K M H a vs/\af K M H ds vs
 |.lst ds,v=>∃ a vs,v=.ref a/\sA M H a vs/\af K M H ds vs
 |.scr ds,v=>∃ a vs,v=.ref a/\nR K M H a vs/\af K M H ds vs
 |.emp,v=>∃ a,v=.ref a/\DC M H a
 |.ref a,v=>v=.ref a
 |.box t ds,v=>∃ a vs,v=.ref a/\fF M H a t vs/\af K M H ds vs
def af (K:PySem.W.Frag) (M:DH) (H:Hp):List D->List V->Prop
 |[],vs=>vs=[]
 |d::ds,vs=>∃ v ws,vs=v::ws/\Rep K M H d v/\af K M H ds ws
end
def Ext (M:DH) (H:Hp) (M':DH) (H':Hp):Prop:=∀ a o,H a=some o->M a=none->H' a=some o/\M' a=none
theorem Ext.refl (M:DH) (H:Hp):Ext M H M H:=fun _ _ h n=>⟨h,n⟩
theorem Ext.trans {M M1 M2:DH} {H H1 H2:Hp} (a:Ext M H M1 H1) (b:Ext M1 H1 M2 H2):Ext M H M2 H2:=fun c o h n=>b c o (a c o h n).1 (a c o h n).2
variable {K:PySem.W.Frag} {M M' M1 M2:DH} {H H' H1 H2:Hp}
theorem nN.ext {a:Addr} {vs:List V} (h:nN K M H a vs) (e:Ext M H M' H'):nN K M' H' a vs:=by
 rcases h with⟨r|⟨o,r⟩,n⟩|h
 ·exact .inl ⟨.inl (e a _ r n).1,(e a _ r n).2⟩
 ·exact .inl ⟨.inr ⟨o,(e a _ r n).1⟩,(e a _ r n).2⟩
 ·exact .inr h
theorem sA.ext {a:Addr} {vs:List V} (h:sA M H a vs) (e:Ext M H M' H'):sA M' H' a vs:=e a _ h.1 h.2
theorem nR.ext {a:Addr} {vs:List V} (h:nR K M H a vs) (e:Ext M H M' H'):nR K M' H' a vs:=by
 rcases h with⟨⟨o,r⟩,n⟩|h
 ·exact .inl ⟨⟨o,(e a _ r n).1⟩,(e a _ r n).2⟩
 ·exact .inr h
theorem fF.ext {a:Addr} {t:Bx} {vs:List V} (h:fF M H a t vs) (e:Ext M H M' H'):fF M' H' a t vs:=by
 cases t<;>(obtain⟨l,⟨o,r⟩,n⟩:=h;exact⟨l,⟨o,(e a _ r n).1⟩,(e a _ r n).2⟩)
mutual
theorem Rep.ext:∀ {d:D} {v:V},Rep K M H d v->Ext M H M' H'->Rep K M' H' d v
 |.non,_,h,_=>h
 |.bl _,_,h,_=>h
 |.int _,_,h,_=>h
 |.str _,_,h,_=>h
 |.ref _,_,h,_=>h
 |.emp,_,h,e=>by
  simp only[Rep]at h ⊢
  obtain⟨a,rfl,h1,h2⟩:=h
  exact⟨a,rfl,e a _ h1 h2⟩
 |.tup ds,_,h,e=>by
  simp only[Rep]at h ⊢
  obtain⟨a,vs,rfl,h1,h2⟩:=h
  exact⟨a,vs,rfl,h1.ext e,af.ext h2 e⟩
 |.lst ds,_,h,e=>by
  simp only[Rep]at h ⊢
  obtain⟨a,vs,rfl,h1,h2⟩:=h
  exact⟨a,vs,rfl,h1.ext e,af.ext h2 e⟩
 |.scr ds,_,h,e=>by
  simp only[Rep]at h ⊢
  obtain⟨a,vs,rfl,h1,h2⟩:=h
  exact⟨a,vs,rfl,h1.ext e,af.ext h2 e⟩
 |.box t ds,_,h,e=>by
  simp only[Rep]at h ⊢
  obtain⟨a,vs,rfl,h1,h2⟩:=h
  exact⟨a,vs,rfl,h1.ext e,af.ext h2 e⟩
theorem af.ext:∀ {ds:List D} {vs:List V},af K M H ds vs->Ext M H M' H'->af K M' H' ds vs
 |[],_,h,_=>h
 |d::ds,_,h,e=>by
  simp only[af]at h ⊢
  obtain⟨v,ws,rfl,h1,h2⟩:=h
  exact⟨v,ws,rfl,Rep.ext h1 e,af.ext h2 e⟩
end
theorem af.length:∀ {ds:List D} {vs:List V},af K M H ds vs->ds.length=vs.length
 |[],_,h=>by simp only[af]at h;subst h;rfl
 |d::ds,_,h=>by
  simp only[af]at h
  obtain⟨v,ws,rfl,h1,h2⟩:=h
  simp[af.length h2]
theorem af.nil:af K M H [] []:=by simp[af]
theorem af.cons {d:D} {v:V} {ds:List D} {vs:List V} (h:Rep K M H d v) (t:af K M H ds vs):af K M H (d::ds) (v::vs):=by
 simp only[af];exact⟨v,vs,rfl,h,t⟩
theorem af.append:∀ {ds es:List D} {vs ws:List V},af K M H ds vs->af K M H es ws->af K M H (ds++es) (vs++ws)
 |[],_,_,_,h,t=>by simp only[af]at h;subst h;exact t
 |d::ds,es,_,ws,h,t=>by
  simp only[af]at h
  obtain⟨v,us,rfl,h1,h2⟩:=h
  exact af.cons h1 (af.append h2 t)
theorem af.get:∀ {ds:List D} {vs:List V} {i:Nat} {d:D},af K M H ds vs->ds[i]?=some d->∃ v,vs[i]?=some v/\Rep K M H d v
 |[],_,_,_,_,e=>by simp at e
 |d::ds,_,0,x,h,e=>by
  simp only[af]at h
  obtain⟨v,us,rfl,h1,h2⟩:=h
  simp at e;subst e
  exact⟨v,rfl,h1⟩
 |d::ds,_,i+1,x,h,e=>by
  simp only[af]at h
  obtain⟨v,us,rfl,h1,h2⟩:=h
  obtain⟨w,a,b⟩:=af.get (i:=i) (d:=x) h2 (by simpa using e)
  exact⟨w,by simpa using a,b⟩
theorem af.take:∀ {ds:List D} {vs:List V} (n:Nat),af K M H ds vs->af K M H (ds.take n) (vs.take n)
 |ds,vs,0,_=>by simp[af]
 |[],_,n+1,h=>by simp only[af]at h;subst h;simp[af]
 |d::ds,_,n+1,h=>by
  simp only[af]at h
  obtain⟨v,us,rfl,h1,h2⟩:=h
  exact af.cons h1 (af.take n h2)
theorem af.drop:∀ {ds:List D} {vs:List V} (n:Nat),af K M H ds vs->af K M H (ds.drop n) (vs.drop n)
 |ds,vs,0,h=>h
 |[],_,n+1,h=>by simp only[af]at h;subst h;simp[af]
 |d::ds,_,n+1,h=>by
  simp only[af]at h
  obtain⟨v,us,rfl,h1,h2⟩:=h
  exact af.drop n h2
theorem af.set:∀ {ds:List D} {vs:List V} {d:D} {v:V} (n:Nat),af K M H ds vs->Rep K M H d v->af K M H (ds.set n d) (vs.set n v)
 |[],_,_,_,n,h,r=>by simp only[af]at h;subst h;simp[af]
 |d::ds,_,_,_,0,h,r=>by
  simp only[af]at h
  obtain⟨v,us,rfl,h1,h2⟩:=h
  exact af.cons r h2
 |d::ds,_,_,_,n+1,h,r=>by
  simp only[af]at h
  obtain⟨v,us,rfl,h1,h2⟩:=h
  exact af.cons h1 (af.set n h2 r)
theorem af.one {d:D} {vs:List V} (h:af K M H [d] vs):∃ v,vs=[v]/\Rep K M H d v:=by
 simp only[af]at h
 obtain⟨v,us,rfl,h1,rfl⟩:=h
 exact⟨v,rfl,h1⟩
theorem af.two {d e:D} {vs:List V} (h:af K M H [d,e] vs):∃ v w,vs=[v,w]/\Rep K M H d v/\Rep K M H e w:=by
 simp only[af]at h
 obtain⟨v,us,rfl,h1,w,ws,rfl,h2,rfl⟩:=h
 exact⟨v,w,rfl,h1,h2⟩
def KR (K:PySem.W.Frag) (M:DH) (H:Hp) {κ:Type}:List (κ×D)->List (κ×V)->Prop:=Paired fun p q=>p.1=q.1/\Rep K M H p.2 q.2
theorem KR.ext {κ:Type} {kvs:List (κ×D)} {ks:List (κ×V)} (h:KR K M H kvs ks) (e:Ext M H M' H'):KR K M' H' kvs ks:=Paired.imp' (fun _ _ r=>⟨r.1,r.2.ext e⟩) h
def lK (K:PySem.W.Frag) (M:DH) (H:Hp) (a:Addr):HD->Prop
 |.lst ds=>∃ vs,H a=some (.lst vs)/\af K M H ds vs
 |.dK kvs=>∃ ks,H a=some (.dK ks)/\KR K M H kvs ks
 |.dT kvs=>∃ ks,H a=some (.dT ks)/\KR K M H kvs ks
 |.dKr o ks kvs=>∃ _u:Unit,H a=some (.frz o (.dK ks))/\KR K M H kvs ks
 |.ins C fs=>∃ gs,(∃ dx,H a=some (.ins C dx gs))/\KR K M H fs gs
def HR (K:PySem.W.Frag) (M:DH) (H:Hp):Prop:=∀ a o,M a=some o->lK K M H a o
theorem lK.some {a:Addr} {o:HD} (h:lK K M H a o):∃ u,H a=Option.some u/\∀ xs,u≠.tup xs/\∀ ob,u≠.frz ob (.tup xs):=by
 cases o with
 |ins C fs=>obtain⟨gs,⟨dx,r⟩,_⟩:=h;exact⟨_,r,fun xs=>⟨(by intro z;cases z),(by intro ob z;cases z)⟩⟩
 |_=>obtain⟨vs,r,_⟩:=h;exact⟨_,r,fun xs=>⟨(by intro z;cases z),(by intro ob z;cases z)⟩⟩
theorem lK.keep {a:Addr} {o:HD} (h:lK K M H a o) (e:Ext M H M' H') (q:H' a=H a):lK K M' H' a o:=by
 cases o with
 |ins C fs=>obtain⟨gs,⟨dx,r⟩,t⟩:=h;exact⟨gs,⟨dx,by rw[q];exact r⟩,t.ext e⟩
 |_=>obtain⟨vs,r,t⟩:=h;exact⟨vs,by rw[q];exact r,t.ext e⟩
theorem HR.fresh (h:HR K M H) {p:Addr} (e:H p=none):M p=none:=by
 cases q:M p with
 |none=>rfl
 |some o =>
  obtain⟨u,r,_⟩:=(h p _ q).some
  rw[e]at r;cases r
theorem HR.nil:HR K noM H:=fun _ _ h=>nomatch h
theorem Ext.new {p:Addr} {o:HO} (hr:HR K M H) (h:H p=none):Ext M H M (upd H p o):=fun a u e n=>by
 have:a≠p:=bO e h
 rw[aA this];exact⟨e,n⟩
theorem HR.ext1 (h:HR K M H) (e:Ext M H M H') (keep:∀ a o,M a=some o->H' a=H a):HR K M H':=fun a o q=>(h a o q).keep e (keep a o q)
theorem HR.new {p:Addr} {o:HO} (hr:HR K M H) (h:H p=none):HR K M (upd H p o):=hr.ext1 (Ext.new hr h) fun a u q=>by
 have:a≠p:=fun z=>by rw[z,hr.fresh h]at q;cases q
 rw[aA this]
theorem Ext.own {p:Addr} {o:HO} {u:HD} (h:H p=none):Ext M H (al M p u) (upd H p o):=fun a x e n=>by
 have:a≠p:=bO e h
 rw[aA this,ao this];exact⟨e,n⟩
theorem HR.put {p:Addr} {o:HO} {u:HD} (hr:HR K M H) (e:Ext M H (al M p u) (upd H p o)) (c:lK K (al M p u) (upd H p o) p u):HR K (al M p u) (upd H p o):=fun a w q=>by
 by_cases z:a=p
 ·subst z
  rw[ag]at q;cases q
  exact c
 ·rw[ao z]at q
  exact(hr a w q).keep e (aA z)
theorem HR.own {p:Addr} {ds:List D} {vs:List V} (hr:HR K M H) (h:H p=none) (r:af K M H ds vs):HR K (al M p (.lst ds)) (upd H p (.lst vs)) :=
 hr.put (Ext.own h) ⟨vs,ax,r.ext (Ext.own h)⟩
theorem Ext.write {a:Addr} {o:HO} {u w:HD} (h:M a=some w):Ext M H (al M a u) (upd H a o):=fun b x e n=>by
 have:b≠a:=fun z=>by rw[z,h]at n;cases n
 rw[aA this,ao this];exact⟨e,n⟩
theorem HR.write {a:Addr} {w:HD} {ds:List D} {vs:List V} (hr:HR K M H) (h:M a=some w) (r:af K M H ds vs):HR K (al M a (.lst ds)) (upd H a (.lst vs)) :=
 hr.put (Ext.write h) ⟨vs,ax,r.ext (Ext.write h)⟩
/-! a smaller M: cells that are lent as they are -/
def LeM (M1 M:DH):Prop:=∀ a o,M1 a=some o->M a=some o
theorem LeM.none (h:LeM M1 M) {a:Addr} (n:M a=none):M1 a=none:=by
 cases q:M1 a with
 |none=>rfl
 |some o=>rw[h a o q]at n;cases n
theorem LeM.refl:LeM M M:=fun _ _ h=>h
theorem LeM.no:LeM noM M:=fun _ _ h=>nomatch h
theorem LeM.del {a:Addr}:LeM (g8 M a) M:=fun b o h=>by
 unfold g8 at h;split at h
 ·cases h
 ·exact h
theorem Ext.le (h:LeM M1 M):Ext M H M1 H:=fun a o e n=>⟨e,h.none n⟩
theorem HR.le (hr:HR K M H) (h:LeM M1 M):HR K M1 H:=fun a o q=>(hr a o (h a o q)).keep (Ext.le h) rfl
theorem Rep.froze (hr:HR K M H) (h:LeM M1 M) {a:Addr} {ds:List D} (e:M a=some (.lst ds)) (n:M1 a=none):Rep K M1 H (.lst ds) (.ref a):=by
 obtain⟨vs,r,t⟩:=hr a _ e
 simp only[Rep]
 exact⟨a,vs,rfl,⟨r,n⟩,t.ext (Ext.le h)⟩
def eO (M M1 M2:DH):DH:=fun a=>match M2 a with|some o=>some o|none=>if M1 a=none then M a else none
theorem xp:eO M noM noM=M:=by
 funext a;simp[eO]
theorem Ext.back (h:LeM M1 M) (e:Ext M1 H M2 H2):Ext M H (eO M M1 M2) H2:=fun a o q n=>by
 obtain⟨h1,h2⟩:=e a o q (h.none n)
 refine⟨h1,?_⟩
 unfold eO
 rw[h2]
 simp[h.none n,n]
mutual
def noL:D->Bool
 |.tup ds=>dF ds
 |.lst _=>false
 |.scr _=>false
 |.emp=>false
 |.box _ _=>false
 |_=>true
def dF:List D->Bool
 |[]=>true
 |d::ds=>noL d&&dF ds
end
theorem jP:∀ {ds es:List D},dF (ds++es)=(dF ds&&dF es)
 |[],es=>by simp[dF]
 |d::ds,es=>by simp[dF,jP (ds:=ds),Bool.and_assoc]
theorem ma:∀ {ds:List D},dF ds=true↔∀ d∈ds,noL d=true
 |[]=>by simp[dF]
 |d::ds=>by simp[dF,ma (ds:=ds)]
mutual
theorem Rep.hard:∀ {d:D} {v:V},noL d=true->Rep K M H d v->(∀ a xs,Rd H a (.tup xs)->M' a=none)->Rep K M' H d v
 |.non,_,_,h,_=>h
 |.bl _,_,_,h,_=>h
 |.int _,_,_,h,_=>h
 |.str _,_,_,h,_=>h
 |.ref _,_,_,h,_=>h
 |.emp,_,n,_,_=>by simp[noL]at n
 |.box _ _,_,n,_,_=>by simp[noL]at n
 |.lst _,_,n,_,_=>by simp[noL]at n
 |.scr _,_,n,_,_=>by simp[noL]at n
 |.tup ds,_,n,h,e=>by
  simp only[Rep]at h ⊢
  obtain⟨a,vs,rfl,h1,h2⟩:=h
  refine⟨a,vs,rfl,?_,af.hard (by simpa[noL]using n) h2 e⟩
  rcases h1 with⟨r,_⟩|r
  ·exact .inl ⟨r,e a vs r⟩
  ·exact .inr r
theorem af.hard:∀ {ds:List D} {vs:List V},dF ds=true->af K M H ds vs->(∀ a xs,Rd H a (.tup xs)->M' a=none)->af K M' H ds vs
 |[],_,_,h,_=>h
 |d::ds,_,n,h,e=>by
  simp only[af]at h ⊢
  obtain⟨v,ws,rfl,h1,h2⟩:=h
  simp only[dF,Bool.and_eq_true]at n
  exact⟨v,ws,rfl,Rep.hard n.1 h1 e,af.hard n.2 h2 e⟩
end
theorem cf (hr:HR K M H) (h:LeM M1 M) (e:Ext M1 H M2 H2) (h2:HR K M2 H2):∀ a xs,Rd H2 a (.tup xs)->eO M M1 M2 a=none:=by
 intro a xs r
 unfold eO
 cases q:M2 a with
 |some o =>
  obtain⟨u,z,n⟩:=(h2 a _ q).some
  rcases r with r|⟨o,r⟩
  ·rw[z]at r;exact absurd (Option.some.inj r) (n xs).1
  ·rw[z]at r;exact absurd (Option.some.inj r) ((n xs).2 o)
 |none =>
  by_cases n:M1 a=none
  ·simp only[n,if_true]
   cases q2:M a with
   |none=>rfl
   |some o =>
    obtain⟨u,z,m⟩:=(hr a _ q2).some
    have z2:=(e a _ z n).1
    rcases r with r|⟨o,r⟩
    ·rw[z2]at r;exact absurd (Option.some.inj r) (m xs).1
    ·rw[z2]at r;exact absurd (Option.some.inj r) ((m xs).2 o)
  ·simp[n]
def noC:HD->Bool
 |.lst ds=>dF ds
 |.dK kvs=>dF (kvs.map (·.2))
 |.dT kvs=>dF (kvs.map (·.2))
 |.dKr _ _ kvs=>dF (kvs.map (·.2))
 |.ins _ fs=>dF (fs.map (·.2))
theorem KR.hard {κ:Type} {kvs:List (κ×D)} {ks:List (κ×V)} (h:KR K M H kvs ks) (n:dF (kvs.map (·.2))=true) (e:∀ a xs,Rd H a (.tup xs)->M' a=none):KR K M' H kvs ks:=by
 unfold KR at h ⊢
 induction h with
 |nil=>exact .nil
 |cons r _ ih =>
  simp only[List.map_cons,dF,Bool.and_eq_true]at n
  exact .cons ⟨r.1,Rep.hard n.1 r.2 e⟩ (ih n.2)
theorem HR.back (hr:HR K M H) (h:LeM M1 M) (e:Ext M1 H M2 H2) (h2:HR K M2 H2) (hd:∀ a o,M2 a=some o->noC o=true):HR K (eO M M1 M2) H2:=by
 have eb:Ext M H (eO M M1 M2) H2:=Ext.back h e
 intro a o q
 unfold eO at q
 cases q2:M2 a with
 |some o2 =>
  rw[q2]at q;cases q
  have c:=h2 a _ q2
  have n:=hd a _ q2
  cases o with
  |lst ds=>obtain⟨vs,z,t⟩:=c;exact⟨vs,z,af.hard n t (cf hr h e h2)⟩
  |dK kvs=>obtain⟨vs,z,t⟩:=c;exact⟨vs,z,KR.hard t n (cf hr h e h2)⟩
  |dT kvs=>obtain⟨vs,z,t⟩:=c;exact⟨vs,z,KR.hard t n (cf hr h e h2)⟩
  |ins C fs=>obtain⟨vs,z,t⟩:=c;exact⟨vs,z,KR.hard t n (cf hr h e h2)⟩
  |dKr o ks kvs=>obtain⟨vs,z,t⟩:=c;exact⟨vs,z,KR.hard t n (cf hr h e h2)⟩
 |none =>
  rw[q2]at q
  by_cases n:M1 a=none
  ·simp only[n,if_true]at q
   have c:=hr a _ q
   obtain⟨u,z,_⟩:=c.some
   exact c.keep eb (by rw[z];exact(e a _ z n).1)
  ·simp[n]at q
/-! ### the frame's names -/
abbrev DE:=List (Option D)
def SR (K:PySem.W.Frag) (M:DH) (H:Hp) (σ:St) (Δ:DE):Prop:=σ.length=Δ.length/\∀ (i:Nat) (d:D),Δ[i]?=some (some d)->∃ v,σ[i]?=some (some v)/\Rep K M H d v
theorem SR.ext {σ:St} {Δ:DE} (h:SR K M H σ Δ) (e:Ext M H M' H'):SR K M' H' σ Δ:=⟨h.1,fun i d q=>let⟨v,a,r⟩:=h.2 i d q;⟨v,a,r.ext e⟩⟩
theorem SR.set {σ:St} {Δ:DE} {d:D} {v:V} (h:SR K M H σ Δ) (i:Nat) (r:Rep K M H d v):SR K M H (σ.set i (some v)) (Δ.set i (some d)):=by
 refine⟨by simp[h.1],fun j e q=>?_⟩
 by_cases hj:j=i
 ·subst hj
  by_cases hl:j<Δ.length
  ·rw[List.getElem?_set_self hl]at q;cases q
   exact⟨v,List.getElem?_set_self (by rw[h.1];exact hl),r⟩
  ·rw[List.getElem?_eq_none (by simp;omega)]at q;cases q
 ·rw[List.getElem?_set_ne (Ne.symm hj)]at q ⊢
  exact h.2 j e q
abbrev TEd:=DE->DH->(D->DH->Prop)->Prop
abbrev TAd:=DE->DH->(List D->DH->Prop)->Prop
abbrev TTd:=DE->DH->(Bool->DH->Prop)->Prop
structure fJ where
 nx:DE->DH->Prop
 rt:D->DH->Prop
 bk:DE->DH->Prop:=fun _ _=>False
 ct:DE->DH->Prop:=fun _ _=>False
abbrev TSd:=fJ->DE->DH->Prop
def up (K:PySem.W.Frag) (t:TEd):TE:=fun σ H Q=>∃ (Δ:DE) (M:DH) (R:D->DH->Prop),SR K M H σ Δ/\HR K M H/\t Δ M R /\
 ∀ d M' v H',R d M'->Ext M H M' H'->HR K M' H'->Rep K M' H' d v->Q v H'
def upA (K:PySem.W.Frag) (t:TAd):TA:=fun σ H Q=>∃ (Δ:DE) (M:DH) (R:List D->DH->Prop),SR K M H σ Δ/\HR K M H/\t Δ M R /\
 ∀ ds M' vs H',R ds M'->Ext M H M' H'->HR K M' H'->af K M' H' ds vs->Q vs H'
def upT (K:PySem.W.Frag) (t:TTd):TT:=fun σ H Q=>∃ (Δ:DE) (M:DH) (R:Bool->DH->Prop),SR K M H σ Δ/\HR K M H/\t Δ M R /\
 ∀ b M' H',R b M'->Ext M H M' H'->HR K M' H'->Q b H'
structure UpE (K:PySem.W.Frag) (E:fJ) (D:rm) (M:DH) (H:Hp):Prop where
 nx:∀ Δ' M' σ' H',E.nx Δ' M'->Ext M H M' H'->HR K M' H'->SR K M' H' σ' Δ'->D.nx σ' H'
 bk:∀ Δ' M' σ' H',E.bk Δ' M'->Ext M H M' H'->HR K M' H'->SR K M' H' σ' Δ'->D.bk σ' H'
 ct:∀ Δ' M' σ' H',E.ct Δ' M'->Ext M H M' H'->HR K M' H'->SR K M' H' σ' Δ'->D.ct σ' H'
 rt:∀ d M' v H',E.rt d M'->Ext M H M' H'->HR K M' H'->Rep K M' H' d v->D.rt v H'
theorem UpE.ext {E:fJ} {D:rm} (u:UpE K E D M H) (e:Ext M H M' H'):UpE K E D M' H' :=
 ⟨fun a b c d h x=>u.nx a b c d h (e.trans x),fun a b c d h x=>u.bk a b c d h (e.trans x),fun a b c d h x=>u.ct a b c d h (e.trans x),fun a b c d h x=>u.rt a b c d h (e.trans x)⟩
def upS (K:PySem.W.Frag) (t:TSd):TS:=fun D σ H=>∃ (Δ:DE) (M:DH) (E:fJ),SR K M H σ Δ/\HR K M H/\t E Δ M/\UpE K E D M H
def PEd (X:Cx) (e:Expr) (t:TEd):Prop:=PE X e (up X.K t)
def PAd (X:Cx) (es:List Expr) (t:TAd):Prop:=PA X es (upA X.K t)
def PTd (X:Cx) (e:Expr) (t:TTd):Prop:=PT X e (upT X.K t)
def PWd (X:Cx) (e:Expr) (t:TTd):Prop:=PW X e (upT X.K t)
def PSd (X:Cx) (st:Stmt) (t:TSd):Prop:=PS X st (upS X.K t)
def j4 (X:Cx) (st:List Stmt) (t:TSd):Prop:=PSs X st (upS X.K t)
theorem PE.conv {X:Cx} {e:Expr} {t t':TE} (h:PE X e t) (k:∀ σ H Q,t' σ H Q->t σ H Q):PE X e t':=fun p s σ H Q I q=>h p s σ H Q I (k σ H Q q)
theorem PT.conv {X:Cx} {e:Expr} {t t':TT} (h:PT X e t) (k:∀ σ H Q,t' σ H Q->t σ H Q):PT X e t':=fun p s σ H Q I q=>h p s σ H Q I (k σ H Q q)
theorem PA.conv {X:Cx} {e:List Expr} {t t':TA} (h:PA X e t) (k:∀ σ H Q,t' σ H Q->t σ H Q):PA X e t':=fun ps p s σ H Q I q=>h ps p s σ H Q I (k σ H Q q)
theorem PS.conv {X:Cx} {e:Stmt} {t t':TS} (h:PS X e t) (k:∀ D σ H,t' D σ H->t D σ H):PS X e t':=fun p s σ H D I q=>h p s σ H D I (k D σ H q)
theorem PSs.conv {X:Cx} {e:List Stmt} {t t':TS} (h:PSs X e t) (k:∀ D σ H,t' D σ H->t D σ H):PSs X e t':=fun p s σ H D I q=>h p s σ H D I (k D σ H q)
section
variable {X:Cx} {a b c:Expr} {es:List Expr} {ta tb:TEd} {pos:Pos}
def br (i:Nat):TEd:=fun Δ M Q=>∃ d,Δ[i]?=some (some d)/\Q d M
def dC (d:D):TEd:=fun _ M Q=>Q d M
theorem DZ (i:Nat) {x:Str} {pos:Pos} (hN:X.N[i]?=some x:=by rfl) (hv:Vis X.env.scope x:=by first|exact Or.inl rfl|exact Or.inr (Or.inl rfl)|exact Or.inr (Or.inr rfl)) (hd:(x==("__debug__":Str))=false:=by decide)
  (hcd:(x==("__classdict__":Str))=false:=by decide):PEd X (.Name x pos) (br i) :=
 (BN hN hv hd hcd).conv fun σ H Q ⟨Δ,M,R,sr,hr,⟨d,e,q⟩,k⟩=>let⟨v,ev,rv⟩:=sr.2 i d e;⟨v,ev,k d M v H q (Ext.refl _ _) hr rv⟩
theorem DY {i j pos}:PEd X (.Constant (.int i) j pos) (dC (.int i)):=Da.conv fun σ H Q ⟨Δ,M,R,sr,hr,q,k⟩=>k _ M _ H q (Ext.refl _ _) hr (by simp[Rep])
theorem FA {i j pos}:PEd X (.Constant (.bool i) j pos) (dC (.bl i)):=D3.conv fun σ H Q ⟨Δ,M,R,sr,hr,q,k⟩=>k _ M _ H q (Ext.refl _ _) hr (by simp[Rep])
theorem DA {i j pos}:PEd X (.Constant (.str i) j pos) (dC (.str i)):=AK.conv fun σ H Q ⟨Δ,M,R,sr,hr,q,k⟩=>k _ M _ H q (Ext.refl _ _) hr (by simp[Rep])
theorem Es {j pos}:PEd X (.Constant .none j pos) (dC .non):=BA.conv fun σ H Q ⟨Δ,M,R,sr,hr,q,k⟩=>k _ M _ H q (Ext.refl _ _) hr (by simp[Rep])
theorem yP {x:Str} {i:Int} {t:Tok} {pos:Pos} (hg:Gl X x) (hm:X.mg x=some (.int i t)) (hd:(x==("__debug__":Str))=false:=by decide):PEd X (.Name x pos) (dC (.int i)) :=
 (ot (v:=.int i) hg hm ⟨t,rfl⟩ hd).conv fun σ H Q ⟨Δ,M,R,sr,hr,q,k⟩=>k _ M _ H q (Ext.refl _ _) hr (by simp[Rep])
theorem zd {x y:Str} {t:Tok} {pos:Pos} (hg:Gl X x) (hm:X.mg x=some (.str y t)) (hd:(x==("__debug__":Str))=false:=by decide):PEd X (.Name x pos) (dC (.str y)) :=
 (ot (v:=.str y) hg hm ⟨t,rfl⟩ hd).conv fun σ H Q ⟨Δ,M,R,sr,hr,q,k⟩=>k _ M _ H q (Ext.refl _ _) hr (by simp[Rep])
/-! two in a row -/
def dG:TAd:=fun _ M Q=>Q [] M
def bD (ta:TEd) (tr:TAd):TAd:=fun Δ M Q=>ta Δ M fun x M1=>tr Δ M1 fun xs M2=>Q (x::xs) M2
theorem Dx:PAd X [] dG:=kE.conv fun σ H Q ⟨Δ,M,R,sr,hr,q,k⟩=>k _ M _ H q (Ext.refl _ _) hr af.nil
theorem BO {tr:TAd} (ha:PEd X a ta) (hr:PAd X es tr) (hs:starEach (a::es) X.env=(false,eval a X.env)::starEach es X.env:=by rfl):PAd X (a::es) (bD ta tr) :=
 (gB ha hr hs).conv fun σ H Q ⟨Δ,M,R,sr,hr,q,k⟩ => ⟨Δ,M,_,sr,hr,q,fun d M1 v H1 q1 e1 hr1 rv => ⟨Δ,M1,_,sr.ext e1,hr1,q1,fun ds M2 vs H2 q2 e2 hr2 rvs =>
  k _ M2 _ H2 q2 (e1.trans e2) hr2 (af.cons (rv.ext e2) rvs)⟩⟩
def p7 (t:TAd):TEd:=fun Δ M Q=>t Δ M fun ds M1=>ds.length<=sizeLine/\Q (.tup ds) M1
def vb (t:TAd):TEd:=fun Δ M Q=>t Δ M fun ds M1=>ds.length<=sizeLine/\Q (.lst ds) M1
def wc (t:TAd):TEd:=fun Δ M Q=>t Δ M fun ds M1=>ds.length<=sizeLine/\∀ p,M1 p=none->Q (.ref p) (al M1 p (.lst ds))
theorem DM {x1} {t:TAd} (h:PAd X es t):PEd X (.Tuple es x1 pos) (p7 t) :=
 (lw h).conv fun σ H Q ⟨Δ,M,R,sr,hr,q,k⟩ => ⟨Δ,M,_,sr,hr,q,fun ds M1 vs H1 ⟨z,q1⟩ e1 hr1 rv => ⟨by rw [← rv.length]; exact z,fun p hp => k _ M1 _ _ q1 (e1.trans (Ext.new hr1 hp)) (hr1.new hp) (by
  simp only[Rep];exact⟨p,vs,rfl,.inl ⟨.inl ax,hr1.fresh hp⟩,rv.ext (Ext.new hr1 hp)⟩)⟩⟩
theorem E1 {t:TAd} (h:PAd X es t):PEd X (.List es pos) (vb t) :=
 (wD h).conv fun σ H Q ⟨Δ,M,R,sr,hr,q,k⟩ => ⟨Δ,M,_,sr,hr,q,fun ds M1 vs H1 ⟨z,q1⟩ e1 hr1 rv => ⟨by rw [← rv.length]; exact z,fun p hp => k _ M1 _ _ q1 (e1.trans (Ext.new hr1 hp)) (hr1.new hp) (by
  simp only[Rep];exact⟨p,vs,rfl,⟨ax,hr1.fresh hp⟩,rv.ext (Ext.new hr1 hp)⟩)⟩⟩
theorem B0 {t:TAd} (h:PAd X es t):PEd X (.List es pos) (wc t) :=
 (wD h).conv fun σ H Q ⟨Δ,M,R,sr,hr,q,k⟩ => ⟨Δ,M,_,sr,hr,q,fun ds M1 vs H1 ⟨z,q1⟩ e1 hr1 rv => ⟨by rw [← rv.length]; exact z,fun p hp => k _ _ _ _ (q1 p (hr1.fresh hp)) (e1.trans (Ext.own hp)) (hr1.own hp rv) (by
  simp only[Rep])⟩⟩
/-! ### values as they are read -/
def rdM (M:DH):D->D
 |.ref a=>match M a with|some (.lst ds)=>.lst ds|_=>.ref a
 |d=>d
def au (K:PySem.W.Frag) (M:DH) (H:Hp) (d:D) (v:V):Prop:=match d with
 |.tup ds=>∃ a vs,v=.ref a/\SqT K H a vs/\af K M H ds vs
 |.lst ds=>∃ a vs,v=.ref a/\H a=some (.lst vs)/\af K M H ds vs
 |.scr ds=>∃ a vs,v=.ref a/\SqL K H a vs/\af K M H ds vs
 |d=>Rep K M H d v
theorem nN.sq {K:PySem.W.Frag} {M:DH} {H:Hp} {a:Addr} {vs:List V} (h:nN K M H a vs):SqT K H a vs:=by
 rcases h with⟨h,_⟩|h
 ·exact .inl h
 ·rcases h with(h|⟨_,h⟩)|h
  ·cases h
  ·cases h
  ·exact .inr h
theorem nR.sq {K:PySem.W.Frag} {M:DH} {H:Hp} {a:Addr} {vs:List V} (h:nR K M H a vs):SqL K H a vs:=by
 rcases h with⟨⟨o,h⟩,_⟩|h
 ·exact .inl (.inr ⟨o,h⟩)
 ·rcases h with(h|⟨_,h⟩)|h
  ·cases h
  ·cases h
  ·exact .inr h
theorem Rep.rd {K:PySem.W.Frag} {M:DH} {H:Hp} {d:D} {v:V} (hr:HR K M H) (h:Rep K M H d v):au K M H (rdM M d) v:=by
 cases d with
 |tup ds=>simp only[Rep]at h;obtain⟨a,vs,e,t,r⟩:=h;exact⟨a,vs,e,t.sq,r⟩
 |lst ds=>simp only[Rep]at h;obtain⟨a,vs,e,t,r⟩:=h;exact⟨a,vs,e,t.1,r⟩
 |scr ds=>simp only[Rep]at h;obtain⟨a,vs,e,t,r⟩:=h;exact⟨a,vs,e,t.sq,r⟩
 |ref a =>
  simp only[rdM]
  cases q:M a with
  |none=>exact h
  |some o =>
   cases o with
   |lst ds =>
    obtain⟨vs,e,r⟩:=hr a _ q
    simp only[Rep]at h
    exact⟨a,vs,h,e,r⟩
   |dK _=>exact h
   |dT _=>exact h
   |dKr _ _ _=>exact h
   |ins _ _=>exact h
 |non=>exact h
 |bl b=>exact h
 |int i=>exact h
 |str x=>exact h
 |emp=>exact h
 |box _ _=>exact h
def bm (X:Cx) (f:Value->Value->Sem Value) (r:D->D->Option D):Prop :=
 ∀ (pins:List (Addr×Obj)) (s:Shared) (σ:St) (H:Hp) (M:DH) (x y:V) (v u:Value) (dx dy dz:D) (Q:VK),Inv X pins σ H s->HR X.K M H->ap x v->ap y u->au X.K M H dx x->au X.K M H dy y->r dx dy=some dz ->
  (∀ w H',Ext M H M H'->HR X.K M H'->Rep X.K M H' dz w->Q w H')->wpAny (model X.prog X.w) X.A (f v u) (EP X pins σ Q) X.xe s
def bi (X:Cx) (f:Value) (r:List D->Option D):Prop :=
 ∀ (pins:List (Addr×Obj)) (s:Shared) (σ:St) (H:Hp) (M:DH) (xs:List V) (us:List Value) (ds:List D) (dz:D) (Q:VK),Inv X pins σ H s->HR X.K M H->aq xs us->Paired (au X.K M H) ds xs->r ds=some dz ->
  (∀ w H',Ext M H M H'->HR X.K M H'->Rep X.K M H' dz w->Q w H')->wpAny (model X.prog X.w) X.A (call f us) (EP X pins σ Q) X.xe s
def dOp (r:D->D->Option D) (ta tb:TEd):TEd:=fun Δ M Q=>ta Δ M fun x M1=>tb Δ M1 fun y M2=>∃ z,r (rdM M2 x) (rdM M2 y)=some z/\Q z M2
def opV (K:PySem.W.Frag) (r:D->D->Option D):R2:=fun x y H Q=>∃ dx dy dz M,HR K M H/\au K M H dx x/\au K M H dy y/\r dx dy=some dz/\∀ w H',Ext M H M H'->HR K M H'->Rep K M H' dz w->Q w H'
theorem bm.v {f:Value->Value->Sem Value} {r:D->D->Option D} (h:bm X f r):OpR X f (opV X.K r):=fun pins s σ H x y v u Q I rx ry ⟨dx,dy,dz,M,hr,r1,r2,e,k⟩=>h pins s σ H M x y v u dx dy dz Q I hr rx ry r1 r2 e k
theorem wU {K:PySem.W.Frag} {r:D->D->Option D} {ta tb:TEd}:∀ σ H Q,up K (dOp r ta tb) σ H Q->tOp (opV K r) (up K ta) (up K tb) σ H Q:=fun σ H Q ⟨Δ,M,R,sr,hr,q,k⟩ =>
 ⟨Δ,M,_,sr,hr,q,fun x M1 v H1 q1 e1 hr1 rv=>⟨Δ,M1,_,sr.ext e1,hr1,q1,fun y M2 u H2 ⟨z,ez,q2⟩ e2 hr2 ru=>⟨_,_,z,M2,hr2,(rv.ext e2).rd hr2,ru.rd hr2,ez,fun w H' e3 hr3 rw_=>k z M2 w H' q2 ((e1.trans e2).trans e3) hr3 rw_⟩⟩⟩
theorem FE {op:Operator} {r:D->D->Option D} (ho:bm X (binaryOp op) r) (ha:PEd X a ta) (hb:PEd X b tb):PEd X (.BinOp a op b pos) (dOp r ta tb):=(EG ho.v ha hb).conv wU
theorem Eg {op:CmpOp} {r:D->D->Option D} (ho:bm X (compareOp op) r) (ha:PEd X a ta) (hb:PEd X b tb) (hm:behindInMarks op b=false):PEd X (.Compare a [op] [b] pos) (dOp r ta tb):=(xY ho.v ha hb hm).conv wU
theorem Fu {r:D->D->Option D} (ho:IxR X (opV X.K r)) (ha:PEd X a ta) (hb:PEd X b tb) (hs:om b):PEd X (.Subscript a b pos) (dOp r ta tb):=(Di ho ha hb hs).conv wU
/-! tests -/
def i3 (t:TEd):TTd:=fun Δ M Q=>t Δ M fun x M1=>∃ k,x=.bl k/\Q k M1
theorem Ef {K:PySem.W.Frag} {t:TEd}:∀ σ H Q,upT K (i3 t) σ H Q->Ak (up K t) σ H Q:=fun σ H Q ⟨Δ,M,R,sr,hr,q,k⟩ =>
 ⟨Δ,M,_,sr,hr,q,fun d M1 v H1 ⟨b,e,q1⟩ e1 hr1 rv=>⟨b,by subst e;simpa only[Rep]using rv,k b M1 H1 q1 e1 hr1⟩⟩
theorem Cl {op:CmpOp} {r:D->D->Option D} (ho:bm X (compareOp op) r) (ha:PEd X a ta) (hb:PEd X b tb) (hm:behindInMarks op b=false):PTd X (.Compare a [op] [b] pos) (i3 (dOp r ta tb)):=by
 refine(yu ho.v ha hb hm).conv fun σ H Q h=>?_
 obtain⟨Δ,M,R,sr,hr,q,k⟩:=h
 exact⟨Δ,M,_,sr,hr,q,fun x M1 v H1 q1 e1 hr1 rv=>⟨Δ,M1,_,sr.ext e1,hr1,q1,fun y M2 u H2 ⟨z,ez,b,eb,q2⟩ e2 hr2 ru=>⟨_,_,z,M2,hr2,(rv.ext e2).rd hr2,ru.rd hr2,ez,fun w H' e3 hr3 rw_ =>
  ⟨b,by subst eb;simpa only[Rep]using rw_,k b M2 H' q2 ((e1.trans e2).trans e3) hr3⟩⟩⟩⟩
theorem De (h:PEd X a ta) (he:∀ whole,isTrue a X.env whole=(do let v <-whole;standAt a.pos;holding [v] (truthy v)):=by intro _;rfl):PTd X a (i3 ta):=(Ca h he).conv Ef
def vI (t:TTd):TTd:=fun Δ M Q=>t Δ M fun c M1=>Q (!c) M1
def tJ (t u:TTd):TTd:=fun Δ M Q=>t Δ M fun c M1=>if c=true then u Δ M1 Q else Q false M1
def CF (t u:TTd):TTd:=fun Δ M Q=>t Δ M fun c M1=>if c=true then Q true M1 else u Δ M1 Q
variable {tA tB':TTd} {bG:List Expr}
theorem AU (h:PTd X a tA):PTd X (.UnaryOp .Not a pos) (vI tA):=(CM h).conv fun σ H Q ⟨Δ,M,R,sr,hr,q,k⟩=>⟨Δ,M,_,sr,hr,q,fun b M1 H1 q1 e1 hr1=>k _ M1 H1 q1 e1 hr1⟩
theorem PW.conv {X:Cx} {e:Expr} {t t':TT} (h:PW X e t) (k:∀ σ H Q,t' σ H Q->t σ H Q):PW X e t':=fun w p s σ H Q I q=>h w p s σ H Q I (k σ H Q q)
theorem yT (ha:PTd X a tA):PWd X (.BoolOp .And [a] pos) tA:=zc ha
theorem Bv (ha:PTd X a tA):PWd X (.BoolOp .Or [a] pos) tA:=A0 ha
theorem BY (ha:PTd X a tA) (hb:PWd X (.BoolOp .And (b::bG) pos) tB'):PWd X (.BoolOp .And (a::b::bG) pos) (tJ tA tB') :=
 (Ct ha hb).conv fun σ H Q ⟨Δ,M,R,sr,hr,q,k⟩ => ⟨Δ,M,_,sr,hr,q,fun c M1 H1 q1 e1 hr1 => by
  cases c with
  |true=>simp only[if_true]at q1 ⊢;exact⟨Δ,M1,R,sr.ext e1,hr1,q1,fun b M2 H2 q2 e2 hr2=>k b M2 H2 q2 (e1.trans e2) hr2⟩
  |false=>simp only[Bool.false_eq_true,if_false]at q1 ⊢;exact k _ M1 H1 q1 e1 hr1⟩
theorem Dy (ha:PTd X a tA) (hb:PWd X (.BoolOp .Or (b::bG) pos) tB'):PWd X (.BoolOp .Or (a::b::bG) pos) (CF tA tB') :=
 (DK ha hb).conv fun σ H Q ⟨Δ,M,R,sr,hr,q,k⟩ => ⟨Δ,M,_,sr,hr,q,fun c M1 H1 q1 e1 hr1 => by
  cases c with
  |false=>simp only[Bool.false_eq_true,if_false]at q1 ⊢;exact⟨Δ,M1,R,sr.ext e1,hr1,q1,fun b M2 H2 q2 e2 hr2=>k b M2 H2 q2 (e1.trans e2) hr2⟩
  |true=>simp only[if_true]at q1 ⊢;exact k _ M1 H1 q1 e1 hr1⟩
theorem PWd.pt {e:Expr} {t:TTd} (h:PWd X e t):PTd X e t:=PW.pt h
/-! and,or,not,if as values -/
def Cm (ta tb:TEd):TEd:=fun Δ M Q=>ta Δ M fun x M1=>∃ c,x=.bl c/\if c=true then tb Δ M1 Q else Q (.bl false) M1
def dIf (t:TTd) (ta tb:TEd):TEd:=fun Δ M Q=>t Δ M fun c M1=>if c=true then ta Δ M1 Q else tb Δ M1 Q
theorem DD {op} (h:PEd X a ta):PEd X (.BoolOp op [a] pos) ta:=CN h
theorem EA (ha:PEd X a ta) (hb:PEd X (.BoolOp .And (b::bG) pos) tb):PEd X (.BoolOp .And (a::b::bG) pos) (Cm ta tb) :=
 (C3 ha hb).conv fun σ H Q ⟨Δ,M,R,sr,hr,q,k⟩ => ⟨Δ,M,_,sr,hr,q,fun d M1 v H1 ⟨c,e,q1⟩ e1 hr1 rv => ⟨c,by subst e; simpa only [Rep] using rv,by
  cases c with
  |true=>simp only[if_true]at q1 ⊢;exact⟨Δ,M1,R,sr.ext e1,hr1,q1,fun b M2 v2 H2 q2 e2 hr2 r2=>k b M2 v2 H2 q2 (e1.trans e2) hr2 r2⟩
  |false=>simp only[Bool.false_eq_true,if_false]at q1 ⊢;exact k _ M1 _ H1 q1 e1 hr1 (by simp[Rep])⟩⟩
theorem Fy (hc:PTd X c tA) (ha:PEd X a ta) (hb:PEd X b tb):PEd X (.IfExp c a b pos) (dIf tA ta tb):=(vj hc ha hb).conv fun σ H Q ⟨Δ,M,R,sr,hr,q,k⟩=>⟨Δ,M,_,sr,hr,q,fun c M1 H1 q1 e1 hr1=>by
  cases c with
  |true=>simp only[if_true]at q1 ⊢;exact⟨Δ,M1,R,sr.ext e1,hr1,q1,fun b M2 v2 H2 q2 e2 hr2 r2=>k b M2 v2 H2 q2 (e1.trans e2) hr2 r2⟩
  |false=>simp only[Bool.false_eq_true,if_false]at q1 ⊢;exact⟨Δ,M1,R,sr.ext e1,hr1,q1,fun b M2 v2 H2 q2 e2 hr2 r2=>k b M2 v2 H2 q2 (e1.trans e2) hr2 r2⟩⟩
/-! a<b<c -/
def rj (r r':D->D->Option D) (ta tb tc:TEd):TEd:=fun Δ M Q=>ta Δ M fun x M1=>tb Δ M1 fun y M2=>∃ k,r (rdM M2 x) (rdM M2 y)=some (.bl k)/\if k=true then tc Δ M2 fun z M3=>∃ w,r' (rdM M3 y) (rdM M3 z)=some w/\Q w M3 else Q (.bl false) M2
theorem yW {tc:TEd} {op op':CmpOp} {r r':D->D->Option D} (ho:bm X (compareOp op) r) (ho':bm X (compareOp op') r') (ha:PEd X a ta) (hb:PEd X b tb) (hc:PEd X c tc)
  (hm:lastMarks [op,op'] [b,c]=false:=by with_unfolding_all rfl):PEd X (.Compare a [op,op'] [b,c] pos) (rj r r' ta tb tc):=by
 refine(xQ ho.v ho'.v ha hb hc hm).conv fun σ H Q h=>?_
 obtain⟨Δ,M,R,sr,hr,q,k⟩:=h
 refine⟨Δ,M,_,sr,hr,q,fun x M1 v H1 q1 e1 hr1 rv=>⟨Δ,M1,_,sr.ext e1,hr1,q1,fun y M2 u H2 ⟨b,eb,q2⟩ e2 hr2 ru=>⟨_,_,.bl b,M2,hr2,(rv.ext e2).rd hr2,ru.rd hr2,eb,fun w H3 e3 hr3 rw_ =>
  ⟨b,by simpa only[Rep]using rw_,?_⟩⟩⟩⟩
 cases b with
 |true =>
  simp only[if_true]at q2 ⊢
  exact⟨Δ,M2,_,(sr.ext (e1.trans e2)).ext e3,hr3,q2,fun z M4 w4 H4 ⟨d,ed,q4⟩ e4 hr4 r4=>⟨_,_,d,M4,hr4,((ru.ext e3).ext e4).rd hr4,r4.rd hr4,ed,fun w5 H5 e5 hr5 r5=>k d M4 w5 H5 q4 ((((e1.trans e2).trans e3).trans e4).trans e5) hr5 r5⟩⟩
 |false =>
  simp only[Bool.false_eq_true,if_false]at q2 ⊢
  exact k _ M2 _ H3 q2 ((e1.trans e2).trans e3) hr3 (by simp[Rep])
/-! calls of what is built in -/
theorem sG {K:PySem.W.Frag} {M:DH} {H:Hp} (hr:HR K M H):∀ {ds:List D} {vs:List V},af K M H ds vs->Paired (au K M H) (ds.map (rdM M)) vs
 |[],_,h=>by simp only[af]at h;subst h;exact .nil
 |d::ds,_,h=>by
  simp only[af]at h
  obtain⟨v,ws,rfl,h1,h2⟩:=h
  exact .cons (h1.rd hr) (sG hr h2)
def dCB (r:List D->Option D) (t:TAd):TEd:=fun Δ M Q=>t Δ M fun ds M1=>∃ z,r (ds.map (rdM M1))=some z/\Q z M1
theorem Aa {K:PySem.W.Frag} {r:List D->Option D} {t:TAd}:∀ σ H Q,up K (dCB r t) σ H Q->tCB (fun xs H Q=>∃ ds dz M,HR K M H/\Paired (au K M H) ds xs/\r ds=some dz/\∀ w H',Ext M H M H'->HR K M H'->Rep K M H' dz w->Q w H') (upA K t) σ H Q:=fun σ H Q ⟨Δ,M,R,sr,hr,q,k⟩ =>
 ⟨Δ,M,_,sr,hr,q,fun ds M1 vs H1 ⟨z,ez,q1⟩ e1 hr1 rv=>⟨_,z,M1,hr1,sG hr1 rv,ez,fun w H' e2 hr2 r2=>k z M1 w H' q1 (e1.trans e2) hr2 r2⟩⟩
theorem bi.v {f:Value} {r:List D->Option D} (h:bi X f r):cS X f (fun xs H Q=>∃ ds dz M,HR X.K M H/\Paired (au X.K M H) ds xs/\r ds=some dz/\∀ w H',Ext M H M H'->HR X.K M H'->Rep X.K M H' dz w->Q w H') :=
 fun pins s σ H xs us Q I rv ⟨ds,dz,M,hr,rr,e,k⟩=>h pins s σ H M xs us ds dz Q I hr rv rr e k
theorem zU {x:Str} {p:Pos} {e:Expr} {es:List Expr} {t:TAd} {id:String} {r:List D->Option D} (hc:bi X (.builtin id) r) (hg:Gl X x) (hm:X.mg x=none) (hv:bootBuiltins x=some (.builtin id)) (ha:PAd X (e::es) t) (hn:x≠"__name__":=by decide) (hdb:(x==("__debug__":Str))=false:=by decide)
  (he:starEach (e::es) X.env=(false,eval e X.env)::starEach es X.env:=by rfl) (hpl:(backTo pos (starEach es X.env)).any (·.1)=false:=by rfl):PEd X (.Call (.Name x p) (e::es) [] pos) (dCB r t) :=
 (pF hc.v hg hm hv ha hn hdb he hpl).conv Aa
theorem vz {x:Str} {p:Pos} {e:Expr} {es:List Expr} {t:TAd} {id:String} {r:List D->Option D} (hc:bi X (.type id) r) (hg:Gl X x) (hm:X.mg x=none) (hv:bootBuiltins x=some (.type id)) (ha:PAd X (e::es) t) (hn:x≠"__name__":=by decide) (hdb:(x==("__debug__":Str))=false:=by decide)
  (he:starEach (e::es) X.env=(false,eval e X.env)::starEach es X.env:=by rfl) (hpl:(backTo pos (starEach es X.env)).any (·.1)=false:=by rfl):PEd X (.Call (.Name x p) (e::es) [] pos) (dCB r t) :=
 (uR hc.v hg hm hv ha hn hdb he hpl).conv Aa
end
section
variable {X:Cx}
theorem bm.of {f:Value->Value->Sem Value} {r2:R2} {r:D->D->Option D} (h:OpR X f r2)
  (k:∀ (H:Hp) (M:DH) (x y:V) (dx dy dz:D) (Q:VK),HR X.K M H->au X.K M H dx x->au X.K M H dy y->r dx dy=some dz->(∀ w H',Ext M H M H'->HR X.K M H'->Rep X.K M H' dz w->Q w H')->r2 x y H Q):bm X f r :=
 fun pins s σ H M x y v u dx dy dz Q I hr rx ry r1 r2 e q=>h pins s σ H x y v u Q I rx ry (k H M x y dx dy dz Q hr r1 r2 e q)
theorem bi.of {f:Value} {r2:List V->Hp->VK->Prop} {r:List D->Option D} (h:cS X f r2)
  (k:∀ (H:Hp) (M:DH) (xs:List V) (ds:List D) (dz:D) (Q:VK),HR X.K M H->Paired (au X.K M H) ds xs->r ds=some dz->(∀ w H',Ext M H M H'->HR X.K M H'->Rep X.K M H' dz w->Q w H')->r2 xs H Q):bi X f r :=
 fun pins s σ H M xs us ds dz Q I hr rv r1 e q=>h pins s σ H xs us Q I rv (k H M xs ds dz Q hr r1 e q)
theorem fS {K:PySem.W.Frag} {M:DH} {H:Hp} {i:Int} {v:V} (h:au K M H (.int i) v):v=.int i:=by simpa[au,Rep]using h
theorem mF {K:PySem.W.Frag} {M:DH} {H:Hp} {i:Str} {v:V} (h:au K M H (.str i) v):v=.str i:=by simpa[au,Rep]using h
theorem rBl {K:PySem.W.Frag} {M:DH} {H:Hp} {i:Bool} {v:V} (h:au K M H (.bl i) v):v=.bl i:=by simpa[au,Rep]using h
theorem Ey {K:PySem.W.Frag} {M:DH} {H:Hp} {v:V} (h:au K M H .non v):v=.non:=by simpa[au,Rep]using h
/-! ### ints -/
def iOp (f:Int->Int->Option D):D->D->Option D
 |.int a,.int b=>f a b
 |_,_=>none
theorem k7 {f:Int->Int->Option D} {x y z:D} (h:iOp f x y=some z):∃ a b,x=.int a/\y=.int b/\f a b=some z:=by
 cases x<;>first|cases h|skip
 rename_i a
 cases y<;>first|cases h|skip
 rename_i b
 exact⟨a,b,rfl,rfl,h⟩
def aU:D->Bool
 |.non=>true|.bl _=>true|.int _=>true|.str _=>true|_=>false
def toV:D->V
 |.bl b=>.bl b|.int i=>.int i|.str x=>.str x|_=>.non
theorem qh {K:PySem.W.Frag} {M:DH} {H:Hp} {d:D} (h:aU d=true):Rep K M H d (toV d):=by
 cases d<;>first|(simp[Rep,toV];done)|cases h
theorem qb {f:Value->Value->Sem Value} {C:Int->Int->Prop} [∀ i j,Decidable (C i j)] {g:Int->Int->D} (hs:∀ i j,aU (g i j)=true) (h:OpR X f (rI C fun i j=>toV (g i j))) :
  bm X f (iOp fun i j=>if C i j then some (g i j)else none) :=
 bm.of h fun H M x y dx dy dz Q hr r1 r2 e q=>by
  obtain⟨a,b,rfl,rfl,e'⟩:=k7 e
  clear e
  have e:=e'
  by_cases hc:C a b
  ·rw[if_pos hc]at e;cases e
   exact⟨a,b,fS r1,fS r2,hc,q _ _ (Ext.refl _ _) hr (qh (hs a b))⟩
  ·rw[if_neg hc]at e;cases e
theorem kG {f:Value->Value->Sem Value} {g:Int->Int->D} (hs:∀ i j,aU (g i j)=true) (h:OpR X f (rI0 fun i j=>toV (g i j))) :
  bm X f (iOp fun i j=>some (g i j)) :=
 bm.of h fun H M x y dx dy dz Q hr r1 r2 e q=>by
  obtain⟨a,b,rfl,rfl,e⟩:=k7 e
  cases e
  exact⟨a,b,fS r1,fS r2,q _ _ (Ext.refl _ _) hr (qh (hs a b))⟩
instance:∀ i j,Decidable (oz i j):=fun i j=>by unfold oz;exact inferInstance
instance:∀ i j,Decidable (jA i j):=fun i j=>by unfold jA;exact inferInstance
instance:∀ i j,Decidable (qB i j):=fun i j=>by unfold qB;exact inferInstance
theorem vf:bm X (binaryOp .Sub) (iOp fun i j=>some (.int (i-j))):=kG (fun _ _=>rfl) Ch
theorem BJ:bm X (binaryOp .Mult) (iOp fun i j=>if jA i j then some (.int (i*j))else none):=qb (fun _ _=>rfl) AF
theorem xE:bm X (binaryOp .FloorDiv) (iOp fun i j=>if oz i j then some (.int (i / j))else none):=qb (fun _ _=>rfl) yV
theorem iU:bm X (binaryOp .Mod) (iOp fun i j=>if 0<j then some (.int (i % j))else none):=qb (C:=fun _ j=>0<j) (fun _ _=>rfl) Cq
theorem DQ:bm X (binaryOp .Pow) (iOp fun i j=>if qB i j then some (.int (i ^ j.toNat))else none):=qb (fun _ _=>rfl) AH
theorem CI:bm X (compareOp .Lt) (iOp fun i j=>some (.bl (decide (i<j)))):=kG (fun _ _=>rfl) DJ
theorem Eu:bm X (compareOp .LtE) (iOp fun i j=>some (.bl (decide (i<=j)))):=kG (fun _ _=>rfl) DB
theorem DG:bm X (compareOp .Gt) (iOp fun i j=>some (.bl (decide (j<i)))):=kG (fun _ _=>rfl) DU
theorem Fc:bm X (compareOp .GtE) (iOp fun i j=>some (.bl (decide (j<=i)))):=kG (fun _ _=>rfl) Dm
/-! ### places -/
theorem af.at_ {K:PySem.W.Frag} {M:DH} {H:Hp} {ds:List D} {vs:List V} {i:Int} {d:D} (h:af K M H ds vs) (e:atI ds i=some d):∃ v,atI vs i=some v/\Rep K M H d v:=by
 unfold atI at e ⊢
 rw[<-h.length]
 cases q:ixN ds.length i with
 |none=>rw[q]at e;cases e
 |some j =>
  rw[q]at e
  have e':ds[j]?=some d:=e
  obtain⟨v,a,b⟩:=h.get e'
  exact⟨v,a,b⟩
def ixD:D->D->Option D
 |.tup ds,.int i=>atI ds i
 |.lst ds,.int i=>atI ds i
 |.scr ds,.int i=>atI ds i
 |.str z,.int i=>if z.length<=sizeLine then(atI z.cps.toList i).map fun c=>.str ⟨#[c]⟩else none
 |_,_=>none
theorem aP:IxR X (opV X.K ixD):=by
 intro value slice pins s σ H x y v u Q I rx ry h hs
 obtain⟨dx,dy,dz,M,hr,r1,r2,e,k⟩:=h
 cases dx with
 |tup ds =>
  cases dy with
  |int i =>
   obtain⟨a,vs,rfl,sq,rl⟩:=r1
   obtain⟨w,e2,rw_⟩:=rl.at_ e
   exact BD value slice pins s σ H _ _ v u Q I rx ry ⟨a,vs,i,w,rfl,fS r2,sq,e2,k w H (Ext.refl _ _) hr rw_⟩ hs
  |_=>cases e
 |lst ds =>
  cases dy with
  |int i =>
   obtain⟨a,vs,rfl,sq,rl⟩:=r1
   obtain⟨w,e2,rw_⟩:=rl.at_ e
   exact s0 value slice pins s σ H _ _ v u Q I rx ry ⟨a,vs,i,w,rfl,fS r2,SqL.of sq,e2,k w H (Ext.refl _ _) hr rw_⟩ hs
  |_=>cases e
 |scr ds =>
  cases dy with
  |int i =>
   obtain⟨a,vs,rfl,sq,rl⟩:=r1
   obtain⟨w,e2,rw_⟩:=rl.at_ e
   exact s0 value slice pins s σ H _ _ v u Q I rx ry ⟨a,vs,i,w,rfl,fS r2,sq,e2,k w H (Ext.refl _ _) hr rw_⟩ hs
  |_=>cases e
 |str z =>
  cases dy with
  |int i =>
   simp only[ixD]at e
   by_cases hz:z.length<=sizeLine
   ·rw[if_pos hz]at e
    cases q:atI z.cps.toList i with
    |none=>rw[q]at e;cases e
    |some c =>
     rw[q]at e;cases e
     exact Bo value slice pins s σ H _ _ v u Q I rx ry ⟨z,i,c,mF r1,fS r2,hz,q,k _ H (Ext.refl _ _) hr (by simp[Rep])⟩ hs
   ·rw[if_neg hz]at e;cases e
  |_=>cases e
 |_=>cases e
/-! ###+-/
def gI:D->D->Option D
 |.int a,.int b=>some (.int (a+b))
 |.str a,.str b=>if a.length+b.length<=sizeLine then some (.str (a++b))else none
 |.lst a,.lst b=>if a.length+b.length<=sizeLine then some (.lst (a++b))else none
 |.tup a,.tup b=>if a.length+b.length<=sizeLine then some (.tup (a++b))else none
 |_,_=>none
theorem jz {K:PySem.W.Frag} {M:DH} {H:Hp} {p:Addr} {ds:List D} {vs:List V} {Q:VK} (hr:HR K M H) (hp:H p=none) (r:af K M H ds vs) (q:∀ w H',Ext M H M H'->HR K M H'->Rep K M H' (.lst ds) w->Q w H'):Q (.ref p) (upd H p (.lst vs)) :=
 q _ _ (Ext.new hr hp) (hr.new hp) (by simp only[Rep];exact⟨p,vs,rfl,⟨ax,hr.fresh hp⟩,r.ext (Ext.new hr hp)⟩)
theorem oa {K:PySem.W.Frag} {M:DH} {H:Hp} {p:Addr} {ds:List D} {vs:List V} {Q:VK} (hr:HR K M H) (hp:H p=none) (r:af K M H ds vs) (q:∀ w H',Ext M H M H'->HR K M H'->Rep K M H' (.tup ds) w->Q w H'):Q (.ref p) (upd H p (.tup vs)) :=
 q _ _ (Ext.new hr hp) (hr.new hp) (by simp only[Rep];exact⟨p,vs,rfl,.inl ⟨.inl ax,hr.fresh hp⟩,r.ext (Ext.new hr hp)⟩)
theorem au.tup {K:PySem.W.Frag} {M:DH} {H:Hp} {ds:List D} {v:V} (hr:HR K M H) (h:au K M H (.tup ds) v):Rep K M H (.tup ds) v:=by
 obtain⟨a,vs,rfl,sq,rl⟩:=h
 simp only[Rep]
 refine⟨a,vs,rfl,?_,rl⟩
 rcases sq with r|k
 ·refine .inl ⟨r,?_⟩
  cases q:M a with
  |none=>rfl
  |some o =>
   obtain⟨u,z,m⟩:=(hr a _ q).some
   rcases r with r|⟨ob,r⟩
   ·rw[z]at r;exact absurd (Option.some.inj r) (m _).1
   ·rw[z]at r;exact absurd (Option.some.inj r) ((m _).2 ob)
 ·exact .inr (.inr k)
theorem wX {prog:Program} {w:World} {A:Around} {E:Value->Shared->Prop} {s:Shared} {t b:Addr} {ws:List Value} {Q:Value->Shared->Prop} (ht:IsTup s.heap t ([]:List Value).toArray) (hb:IsTup s.heap b ws.toArray)
  (h:Q (.ref b) s):wpAny (model prog w) A (binaryOp .Add (.ref t) (.ref b)) Q E s:=by
 obtain⟨⟨cls,dd,data,sl⟩,ho,hc,n,hd⟩:=id ht
 obtain⟨⟨cls2,dd2,data2,sl2⟩,ho2,hc2,n2,hd2⟩:=id hb
 simp only at hc hd hc2 hd2
 subst hc hd hc2 hd2
 exact concat_meets ⟨_,ho,rfl⟩ ⟨_,ho2,rfl⟩ noFill_tuple_add seq_tuple_add PySem.F.slot_tuple_add PySem.F.entry_tuple_add (PySem.F.args_tuple_add_2 _ _)
   (tuple_addW0 t b ([]:List Value).toArray ws.toArray n n2 dd dd2 sl sl2 (by simp)) ⟨ho,ho2,h⟩
theorem aH:bm X (binaryOp .Add) gI:=by
 intro pins s σ H M x y v u dx dy dz Q I hr rx ry r1 r2 e k
 cases dx with
 |int a =>
  cases dy with
  |int b =>
   cases e
   exact Bs pins s σ H x y v u Q I rx ry ⟨a,b,fS r1,fS r2,k _ H (Ext.refl _ _) hr (by simp[Rep])⟩
  |_=>cases e
 |str a =>
  cases dy with
  |str b =>
   simp only[gI]at e
   by_cases hz:a.length+b.length<=sizeLine
   ·rw[if_pos hz]at e;cases e
    exact qV pins s σ H x y v u Q I rx ry ⟨a,b,mF r1,mF r2,hz,k _ H (Ext.refl _ _) hr (by simp[Rep])⟩
   ·rw[if_neg hz]at e;cases e
  |_=>cases e
 |lst a =>
  cases dy with
  |lst b =>
   simp only[gI]at e
   by_cases hz:a.length+b.length<=sizeLine
   ·rw[if_pos hz]at e;cases e
    obtain⟨l1,vs,rfl,h1,l1r⟩:=r1
    obtain⟨l2,ws,rfl,h2,l2r⟩:=r2
    exact BL pins s σ H _ _ v u Q I rx ry ⟨l1,l2,vs,ws,rfl,rfl,h1,h2,by rw[<-l1r.length,<-l2r.length];exact hz,fun p hp=>jz hr hp (l1r.append l2r) k⟩
   ·rw[if_neg hz]at e;cases e
  |_=>cases e
 |tup a =>
  cases dy with
  |tup b =>
   simp only[gI]at e
   by_cases hz:a.length+b.length<=sizeLine
   ·rw[if_pos hz]at e;cases e
    have t1:=au.tup hr r1
    have t2:=au.tup hr r2
    obtain⟨l1,vs,rfl,h1,l1r⟩:=r1
    obtain⟨l2,ws,rfl,h2,l2r⟩:=r2
    by_cases hv:vs=[]
    ·subst hv
     have ea:a=[]:=by
      have:=l1r.length
      cases a with
      |nil=>rfl
      |cons _ _=>simp at this
     subst ea
     cases rx
     cases ry
     obtain⟨its,q1,p1,_⟩:=I.tuple h1
     obtain⟨its2,q2,p2,_⟩:=I.tuple h2
     cases q1
     exact wX p1 p2 ⟨.ref l2,H,I,rfl,k _ H (Ext.refl _ _) hr t2⟩
    ·refine z8 pins s σ H _ _ v u Q I rx ry ⟨l1,l2,vs,ws,rfl,rfl,h1,h2,hv,by rw[<-l1r.length,<-l2r.length];exact hz,fun hw=>?_,fun _ p hp=>oa hr hp (l1r.append l2r) k⟩
     subst hw
     have eb:b=[]:=by
      have:=l2r.length
      cases b with
      |nil=>rfl
      |cons _ _=>simp at this
     subst eb
     rw[List.append_nil]at k
     exact k _ H (Ext.refl _ _) hr t1
   ·rw[if_neg hz]at e;cases e
  |_=>cases e
 |_=>cases e
/-! ### ==,deep -/
mutual
def eqD:D->D->Bool
 |.non,.non=>true
 |.bl a,.bl b=>a==b
 |.bl a,.int b=>(if a then 1 else 0)==b
 |.int a,.bl b=>a==(if b then 1 else 0)
 |.int a,.int b=>a==b
 |.str a,.str b=>a==b
 |.tup a,.tup b=>dH a b
 |.lst a,.lst b=>dH a b
 |_,_=>false
def dH:List D->List D->Bool
 |[],[]=>true
 |a::as,b::bs=>eqD a b&&dH as bs
 |_,_=>false
end
mutual
def dLe:D->Nat->Bool
 |.tup _,0=>false
 |.tup ds,n+1=>bq ds n
 |.lst _,0=>false
 |.lst ds,n+1=>bq ds n
 |.scr _,_=>false
 |.emp,_=>false
 |.box _ _,_=>false
 |.ref _,_=>false
 |_,_=>true
def bq:List D->Nat->Bool
 |[],_=>true
 |d::ds,n=>dLe d n&&bq ds n
end
theorem cQ:∀ {ds:List D} {n i:Nat} {d:D},bq ds n=true->ds[i]?=some d->dLe d n=true
 |[],_,_,_,_,e=>by simp at e
 |d::ds,n,0,x,h,e=>by
  simp only[bq,Bool.and_eq_true]at h
  simp at e;subst e;exact h.1
 |d::ds,n,i+1,x,h,e=>by
  simp only[bq,Bool.and_eq_true]at h
  exact cQ h.2 (by simpa using e)
theorem gf:∀ {ds:List D} {n:Nat},bq ds n=true↔∀ d∈ds,dLe d n=true
 |[],n=>by simp[bq]
 |d::ds,n=>by simp[bq,gf (ds:=ds)]
def eqN (ds es:List D) (j:Nat):Bool:=match ds[j]?,es[j]? with|some a,some b=>eqD a b|_,_=>false
theorem lV:∀ {ds es:List D},dH ds es=true->ds.length=es.length
 |[],[],_=>rfl
 |[],_::_,h=>by simp[dH]at h
 |_::_,[],h=>by simp[dH]at h
 |_::ds,_::es,h=>by
  simp only[dH,Bool.and_eq_true]at h
  simp[lV h.2]
theorem iQ:∀ {ds es:List D},dH ds es=((List.range (min ds.length es.length)).all (eqN ds es)&&ds.length==es.length)
 |[],[]=>by simp[dH]
 |[],_::_=>by simp[dH]
 |_::_,[]=>by simp[dH]
 |a::ds,b::es=>by
  have ih:=@iQ ds es
  simp only[dH,List.length_cons,Nat.add_min_add_right,List.range_succ_eq_map,List.all_cons,List.all_map]
  have e0:eqN (a::ds) (b::es) 0=eqD a b:=by simp[eqN]
  have e1:(eqN (a::ds) (b::es))∘Nat.succ=eqN ds es:=by
   funext j;simp[eqN]
  rw[e0,e1,ih]
  have e2:(ds.length+1==es.length+1)=(ds.length==es.length):=by
   rw[Bool.eq_iff_iff];simp
  rw[e2,Bool.and_assoc]
theorem nh {ds es:List D} (h:ds.length=es.length):dH ds es=(List.range ds.length).all (eqN ds es):=by
 rw[iQ,<-h,Nat.min_self];simp
theorem Rep.r {K:PySem.W.Frag} {M:DH} {H:Hp} {d:D} {v:V} (h:Rep K M H d v):au K M H d v:=by
 cases d with
 |tup ds=>simp only[Rep]at h;obtain⟨a,vs,e,t,r⟩:=h;exact⟨a,vs,e,t.sq,r⟩
 |lst ds=>simp only[Rep]at h;obtain⟨a,vs,e,t,r⟩:=h;exact⟨a,vs,e,t.1,r⟩
 |scr ds=>simp only[Rep]at h;obtain⟨a,vs,e,t,r⟩:=h;exact⟨a,vs,e,t.sq,r⟩
 |_=>exact h
theorem Ax {pins:List (Addr×Obj)} {σ:St} {H:Hp} {s:Shared} {a:Addr} {vs ws:List V} (I:Inv X pins σ H s) (h:SqT X.K H a vs) (h':H a=some (.lst ws)):False:=by
 obtain⟨its,r,⟨o,e,c,n,d⟩,_⟩:=I.tuple h
 obtain⟨_,its',n',_,e'⟩:=I.hok a _ h'
 rw[e]at e';cases e'
 exact absurd (show Value.type "list"=Value.type "tuple" from c) (by decide)
theorem pT {pins:List (Addr×Obj)} {σ:St} {H:Hp} {s:Shared} (I:Inv X pins σ H s) {M M':DH}:∀ (n:Nat) {d e:D} {v:V},dLe d n=true->dLe e n=true->au X.K M H d v->au X.K M' H e v->eqD d e=true:=by
  intro n
  induction n with
  | zero =>
    intro d e v hd he r1 r2
    cases d<;>first|(simp[dLe]at hd;done)|skip
    all_goals cases e<;>first|(simp[dLe]at he;done)|skip
    all_goals (simp only[au,Rep]at r1 r2;subst r1;first|(cases r2;simp[eqD];done)|cases r2)
  | succ n ih =>
    intro d e v hd he r1 r2
    have lists:∀ {ds es:List D} {vs:List V},bq ds n=true->bq es n=true->af X.K M H ds vs->af X.K M' H es vs->dH ds es=true:=by
      intro ds
      induction ds with
      | nil =>
        intro es vs _ _ h1 h2
        simp only[af]at h1;subst h1
        cases es with
        |nil=>simp[dH]
        |cons _ _=>simp[af]at h2
      | cons a ds ihl =>
        intro es vs d1 d2 h1 h2
        simp only[af]at h1
        obtain⟨v,ws,rfl,h3,h4⟩:=h1
        cases es with
        |nil=>simp[af]at h2
        | cons b es =>
          simp only[af]at h2
          obtain⟨v',ws',e',h5,h6⟩:=h2
          cases e'
          simp only[bq,Bool.and_eq_true]at d1 d2
          simp only[dH,Bool.and_eq_true]
          exact⟨ih d1.1 d2.1 h3.r h5.r,ihl d1.2 d2.2 h4 h6⟩
    cases d with
    | tup ds =>
      obtain⟨a,vs,rfl,sq,rl⟩:=r1
      cases e with
      | tup es =>
        obtain⟨b,ws,e',sq',rl'⟩:=r2
        cases e'
        have:=I.tuple_inj sq sq'
        subst this
        simp only[eqD]
        exact lists (by simpa[dLe]using hd) (by simpa[dLe]using he) rl rl'
      | lst es =>
        obtain⟨b,ws,e',sq',rl'⟩:=r2
        cases e'
        exact(Ax I sq sq').elim
      |_=>first|(simp[dLe]at he;done)|(simp only[au,Rep]at r2;cases r2)
    | lst ds =>
      obtain⟨a,vs,rfl,sq,rl⟩:=r1
      cases e with
      | lst es =>
        obtain⟨b,ws,e',sq',rl'⟩:=r2
        cases e'
        rw[sq]at sq'
        cases sq'
        simp only[eqD]
        exact lists (by simpa[dLe]using hd) (by simpa[dLe]using he) rl rl'
      | tup es =>
        obtain⟨b,ws,e',sq',rl'⟩:=r2
        cases e'
        exact(Ax I sq' sq).elim
      |_=>first|(simp[dLe]at he;done)|(simp only[au,Rep]at r2;cases r2)
    | _ =>
      first
      |(simp[dLe]at hd;done)
      | (cases e with
         |tup es=>(obtain⟨b,ws,e',sq',rl'⟩:=r2;subst e';simp only[au,Rep]at r1;cases r1)
         |lst es=>(obtain⟨b,ws,e',sq',rl'⟩:=r2;subst e';simp only[au,Rep]at r1;cases r1)
         |_=>first|(simp[dLe]at he;done)|(simp only[au,Rep]at r1 r2;subst r1;first|(cases r2;simp[eqD];done)|cases r2))
open PySem.SeqAt in
theorem lh {pins:List (Addr×Obj)} {σ:St} {H:Hp} {s:Shared} (I:Inv X pins σ H s) {M M':DH}:∀ (n:Nat) {A:Around} {d e:D} {v w:V} {u1 u2:Value},A.units+n<cLine->dLe d n=true->dLe e n=true ->
  au X.K M H d v->au X.K M' H e w->ap v u1->ap w u2->EqAt A s u1 u2 (eqD d e)/\RcAt A s u1 u2 (eqD d e):=by
 intro n
 induction n with
 |zero =>
  intro A d e v w u1 u2 hu hd he r1 r2 q1 q2
  have hu0:A.units<cLine:=by omega
  cases d<;>first|(simp[dLe]at hd;done)|skip
  all_goals cases e<;>first|(simp[dLe]at he;done)|skip
  all_goals simp only[au,Rep]at r1 r2
  all_goals subst r1
  all_goals subst r2
  all_goals simp only[ap]at q1 q2
  all_goals first|(obtain⟨t1,rfl⟩:=q1)|subst q1
  all_goals first|(obtain⟨t2,rfl⟩:=q2)|subst q2
  all_goals simp only[eqD]
  ·exact⟨EqAt.same _,RcAt.none_none⟩
  ·exact⟨EqAt.none_bool _,RcAt.none_bool _⟩
  ·exact⟨EqAt.none_int _ _,RcAt.none_int _ _⟩
  ·exact⟨EqAt.none_str _ _,RcAt.none_str _ _⟩
  ·exact⟨EqAt.bool_none _,RcAt.bool_none _⟩
  ·exact⟨EqAt.bool_bool _ _,RcAt.bool_bool _ _⟩
  ·exact⟨EqAt.bool_int _ _ _,RcAt.bool_int _ _ _⟩
  ·exact⟨EqAt.bool_str _ _ _,RcAt.bool_str _ _ _⟩
  ·exact⟨EqAt.int_none _ _,RcAt.int_none _ _⟩
  ·exact⟨EqAt.int_bool _ _ _,RcAt.int_bool _ _ _⟩
  ·exact⟨EqAt.int_int _ _ _ _,RcAt.int_int _ _ _ _⟩
  ·exact⟨EqAt.int_str _ _ _ _,RcAt.int_str _ _ _ _⟩
  ·exact⟨EqAt.str_none _ _,RcAt.str_none _ _⟩
  ·exact⟨EqAt.str_bool _ _ _,RcAt.str_bool _ _ _⟩
  ·exact⟨EqAt.str_int _ _ _ _,RcAt.str_int _ _ _ _⟩
  ·exact⟨EqAt.str_str _ _ _ _,RcAt.str_str _ _ _ _⟩
 |succ n ih =>
  intro A d e v w u1 u2 hu hd he r1 r2 q1 q2
  have hu0:A.units<cLine:=by omega
  have hu1:A.in1.units+n<cLine:=by show A.units+1+n<cLine;omega
  have item:∀ {ds es:List D} {vs ws:List V} {us us2:List Value},bq ds n=true->bq es n=true->af X.K M H ds vs->af X.K M' H es ws->aq vs us->aq ws us2 ->
    ∀ j (h1:j<us.toArray.size) (h2:j<us2.toArray.size),EqAt A.in1 s us.toArray[j] us2.toArray[j] (eqN ds es j):=by
   intro ds es vs ws us us2 d1 d2 h1 h2 h3 h4 j hj1 hj2
   have l1:=h1.length
   have l2:=h2.length
   have l3:=h3.length
   have l4:=h4.length
   have j1:j<ds.length:=by simp at hj1;omega
   have j2:j<es.length:=by simp at hj2;omega
   obtain⟨v1,g1,p1⟩:=h1.get (i:=j) (d:=ds[j]) (by simp[j1])
   obtain⟨v2,g2,p2⟩:=h2.get (i:=j) (d:=es[j]) (by simp[j2])
   obtain⟨u1,k1,m1⟩:=h3.get g1
   obtain⟨u2,k2,m2⟩:=h4.get g2
   have e1:us.toArray[j]=u1:=by
    simp at hj1
    simpa[List.getElem?_eq_getElem hj1]using k1
   have e2:us2.toArray[j]=u2:=by
    simp at hj2
    simpa[List.getElem?_eq_getElem hj2]using k2
   rw[e1,e2]
   have e3:eqN ds es j=eqD ds[j] es[j]:=by simp[eqN,j1,j2]
   rw[e3]
   exact(ih hu1 (cQ d1 (i:=j) (by simp[j1])) (cQ d2 (i:=j) (by simp[j2])) p1.r p2.r m1 m2).1
  cases d with
  |tup ds =>
   obtain⟨a,vs,rfl,sq,rl⟩:=id r1
   cases q1
   obtain⟨its,rv,pt,_⟩:=I.tuple sq
   have hd':bq ds n=true:=by simpa[dLe]using hd
   cases e with
   |tup es =>
    obtain⟨b,ws,rfl,sq',rl'⟩:=id r2
    cases q2
    obtain⟨its2,rv2,pt2,_⟩:=I.tuple sq'
    have he':bq es n=true:=by simpa[dLe]using he
    have rc:RcAt A s (.ref a) (.ref b) (eqD (.tup ds) (.tup es)):=by
     have:=RcAt.tuples (e:=eqN ds es) pt pt2 hu0 (item hd' he' rl rl' rv rv2)
     rw[List.size_toArray,List.size_toArray,<-rv.length,<-rv2.length,<-rl.length,<-rl'.length,<-iQ]at this
     simpa only[eqD]using this
    refine⟨?_,rc⟩
    by_cases hab:a=b
    ·subst hab
     rw[pT I (n+1) hd he r1 r2]
     exact EqAt.same _
    ·exact EqAt.of_refs hab rc
   |lst es =>
    obtain⟨b,ws,rfl,sq',rl'⟩:=id r2
    cases q2
    obtain⟨its2,rv2,pt2,_⟩:=I.list (SqL.of sq')
    simp only[eqD]
    exact⟨EqAt.tuple_list pt pt2.isList hu0,RcAt.tuple_list pt pt2.isList hu0⟩
   |non =>
    simp only[au,Rep]at r2;subst r2;simp only[ap]at q2
    subst q2
    simp only[eqD]
    exact⟨EqAt.tuple_none pt hu0,RcAt.tuple_none pt hu0⟩
   |bl b =>
    simp only[au,Rep]at r2;subst r2;simp only[ap]at q2
    subst q2
    simp only[eqD]
    exact⟨EqAt.tuple_bool _ pt hu0,RcAt.tuple_bool _ pt hu0⟩
   |int b =>
    simp only[au,Rep]at r2;subst r2;simp only[ap]at q2
    obtain⟨t,rfl⟩:=q2
    simp only[eqD]
    exact⟨EqAt.tuple_int _ _ pt hu0,RcAt.tuple_int _ _ pt hu0⟩
   |str b =>
    simp only[au,Rep]at r2;subst r2;simp only[ap]at q2
    obtain⟨t,rfl⟩:=q2
    simp only[eqD]
    exact⟨EqAt.tuple_str _ _ pt hu0,RcAt.tuple_str _ _ pt hu0⟩
   |_=>simp[dLe]at he
  |lst ds =>
   obtain⟨a,vs,rfl,sq,rl⟩:=id r1
   cases q1
   obtain⟨its,rv,pt,_⟩:=I.list (SqL.of sq)
   have hd':bq ds n=true:=by simpa[dLe]using hd
   cases e with
   |lst es =>
    obtain⟨b,ws,rfl,sq',rl'⟩:=id r2
    cases q2
    obtain⟨its2,rv2,pt2,_⟩:=I.list (SqL.of sq')
    have he':bq es n=true:=by simpa[dLe]using he
    have rc:RcAt A s (.ref a) (.ref b) (eqD (.lst ds) (.lst es)):=by
     by_cases hl:ds.length=es.length
     ·have hsz:its.toArray.size=its2.toArray.size:=by rw[List.size_toArray,List.size_toArray,<-rv.length,<-rv2.length,<-rl.length,<-rl'.length];exact hl
      have:=RcAt.lists (e:=eqN ds es) pt.isList pt2.isList hsz hu0 (item hd' he' rl rl' rv rv2)
      rw[List.size_toArray,<-rv.length,<-rl.length,<-nh hl]at this
      simpa only[eqD]using this
     ·have hsz:(its.toArray.size != its2.toArray.size)=true:=by rw[List.size_toArray,List.size_toArray,<-rv.length,<-rv2.length,<-rl.length,<-rl'.length];simpa using hl
      have:=RcAt.lists_lengths pt.isList pt2.isList hsz hu0
      have e0:eqD (.lst ds) (.lst es)=false:=by
       simp only[eqD]
       cases q:dH ds es with
       |false=>rfl
       |true=>exact absurd (lV q) hl
      rw[e0];exact this
    refine⟨?_,rc⟩
    by_cases hab:a=b
    ·subst hab
     rw[pT I (n+1) hd he r1 r2]
     exact EqAt.same _
    ·exact EqAt.of_refs hab rc
   |tup es =>
    obtain⟨b,ws,rfl,sq',rl'⟩:=id r2
    cases q2
    obtain⟨its2,rv2,pt2,_⟩:=I.tuple sq'
    simp only[eqD]
    exact⟨EqAt.list_tuple pt.isList pt2 hu0,RcAt.list_tuple pt.isList pt2 hu0⟩
   |non =>
    simp only[au,Rep]at r2;subst r2;simp only[ap]at q2
    subst q2
    simp only[eqD]
    exact⟨EqAt.list_none pt.isList hu0,RcAt.list_none pt.isList hu0⟩
   |bl b =>
    simp only[au,Rep]at r2;subst r2;simp only[ap]at q2
    subst q2
    simp only[eqD]
    exact⟨EqAt.list_bool _ pt.isList hu0,RcAt.list_bool _ pt.isList hu0⟩
   |int b =>
    simp only[au,Rep]at r2;subst r2;simp only[ap]at q2
    obtain⟨t,rfl⟩:=q2
    simp only[eqD]
    exact⟨EqAt.list_int _ _ pt.isList hu0,RcAt.list_int _ _ pt.isList hu0⟩
   |str b =>
    simp only[au,Rep]at r2;subst r2;simp only[ap]at q2
    obtain⟨t,rfl⟩:=q2
    simp only[eqD]
    exact⟨EqAt.list_str _ _ pt.isList hu0,RcAt.list_str _ _ pt.isList hu0⟩
   |_=>simp[dLe]at he
  |non =>
   cases e with
   |tup es =>
    obtain⟨b,ws,rfl,sq',rl'⟩:=id r2
    cases q2
    obtain⟨its2,rv2,pt2,_⟩:=I.tuple sq'
    simp only[au,Rep]at r1;subst r1;simp only[ap]at q1
    subst q1
    simp only[eqD]
    exact⟨EqAt.none_tuple pt2 hu0,RcAt.none_tuple pt2 hu0⟩
   |lst es =>
    obtain⟨b,ws,rfl,sq',rl'⟩:=id r2
    cases q2
    obtain⟨its2,rv2,pt2,_⟩:=I.list (SqL.of sq')
    simp only[au,Rep]at r1;subst r1;simp only[ap]at q1
    subst q1
    simp only[eqD]
    exact⟨EqAt.none_list pt2.isList hu0,RcAt.none_list pt2.isList hu0⟩
   |_=>first|(simp[dLe]at he;done)|exact ih (A:=A) (by omega) (by simp[dLe]) (by simp[dLe]) r1 r2 q1 q2
  |bl a =>
   cases e with
   |tup es =>
    obtain⟨b,ws,rfl,sq',rl'⟩:=id r2
    cases q2
    obtain⟨its2,rv2,pt2,_⟩:=I.tuple sq'
    simp only[au,Rep]at r1;subst r1;simp only[ap]at q1
    subst q1
    simp only[eqD]
    exact⟨EqAt.bool_tuple _ pt2 hu0,RcAt.bool_tuple _ pt2 hu0⟩
   |lst es =>
    obtain⟨b,ws,rfl,sq',rl'⟩:=id r2
    cases q2
    obtain⟨its2,rv2,pt2,_⟩:=I.list (SqL.of sq')
    simp only[au,Rep]at r1;subst r1;simp only[ap]at q1
    subst q1
    simp only[eqD]
    exact⟨EqAt.bool_list _ pt2.isList hu0,RcAt.bool_list _ pt2.isList hu0⟩
   |_=>first|(simp[dLe]at he;done)|exact ih (A:=A) (by omega) (by simp[dLe]) (by simp[dLe]) r1 r2 q1 q2
  |int a =>
   cases e with
   |tup es =>
    obtain⟨b,ws,rfl,sq',rl'⟩:=id r2
    cases q2
    obtain⟨its2,rv2,pt2,_⟩:=I.tuple sq'
    simp only[au,Rep]at r1;subst r1;simp only[ap]at q1
    obtain⟨t,rfl⟩:=q1
    simp only[eqD]
    exact⟨EqAt.int_tuple _ _ pt2 hu0,RcAt.int_tuple _ _ pt2 hu0⟩
   |lst es =>
    obtain⟨b,ws,rfl,sq',rl'⟩:=id r2
    cases q2
    obtain⟨its2,rv2,pt2,_⟩:=I.list (SqL.of sq')
    simp only[au,Rep]at r1;subst r1;simp only[ap]at q1
    obtain⟨t,rfl⟩:=q1
    simp only[eqD]
    exact⟨EqAt.int_list _ _ pt2.isList hu0,RcAt.int_list _ _ pt2.isList hu0⟩
   |_=>first|(simp[dLe]at he;done)|exact ih (A:=A) (by omega) (by simp[dLe]) (by simp[dLe]) r1 r2 q1 q2
  |str a =>
   cases e with
   |tup es =>
    obtain⟨b,ws,rfl,sq',rl'⟩:=id r2
    cases q2
    obtain⟨its2,rv2,pt2,_⟩:=I.tuple sq'
    simp only[au,Rep]at r1;subst r1;simp only[ap]at q1
    obtain⟨t,rfl⟩:=q1
    simp only[eqD]
    exact⟨EqAt.str_tuple _ _ pt2 hu0,RcAt.str_tuple _ _ pt2 hu0⟩
   |lst es =>
    obtain⟨b,ws,rfl,sq',rl'⟩:=id r2
    cases q2
    obtain⟨its2,rv2,pt2,_⟩:=I.list (SqL.of sq')
    simp only[au,Rep]at r1;subst r1;simp only[ap]at q1
    obtain⟨t,rfl⟩:=q1
    simp only[eqD]
    exact⟨EqAt.str_list _ _ pt2.isList hu0,RcAt.str_list _ _ pt2.isList hu0⟩
   |_=>first|(simp[dLe]at he;done)|exact ih (A:=A) (by omega) (by simp[dLe]) (by simp[dLe]) r1 r2 q1 q2
  |_=>simp[dLe]at hd
end
section
variable {X:Cx} {a b c e:Expr} {es:List Expr} {te ta tb:TEd} {pos:Pos} {st:Stmt} {bG:List Stmt} {t u:TSd}
/-! ### blocks and statements -/
def sX:TSd:=fun E Δ M=>E.nx Δ M
def oK (t u:TSd):TSd:=fun E Δ M=>t { E with nx:=u E } Δ M
theorem Dc:j4 X [] sX:=yX.conv fun D σ H ⟨Δ,M,E,sr,hr,q,u⟩=>u.nx Δ M σ H q (Ext.refl _ _) hr sr
theorem yD (h1:PSd X st t) (h2:j4 X bG u):j4 X (st::bG) (oK t u) :=
 (wb h1 h2).conv fun D σ H ⟨Δ,M,E,sr,hr,q,k⟩=>⟨Δ,M,{ E with nx:=u E },sr,hr,q,⟨fun Δ' M' σ' H' q' e' hr' sr'=>⟨Δ',M',E,sr',hr',q',k.ext e'⟩,k.bk,k.ct,k.rt⟩⟩
theorem CA (h1:PSd X st t):j4 X [st] t:=yt h1
def vJ (te:TEd):TSd:=fun E Δ M=>te Δ M E.rt
theorem EI (he:PEd X e te):PSd X (.Return (some e) pos) (vJ te):=(q0 he).conv fun D σ H ⟨Δ,M,E,sr,hr,q,k⟩=>⟨Δ,M,_,sr,hr,q,k.rt⟩
def nE (te:TEd):TSd:=fun E Δ M=>te Δ M fun _ M1=>E.nx Δ M1
theorem B6 (he:PEd X e te) (hs:swapsWith e none pos.line X.env=pure false:=by rfl):PSd X (.Expr e pos) (nE te) :=
 (yL he hs).conv fun D σ H ⟨Δ,M,E,sr,hr,q,k⟩=>⟨Δ,M,_,sr,hr,q,fun d M1 v H1 q1 e1 hr1 _=>k.nx Δ M1 σ H1 q1 e1 hr1 (sr.ext e1)⟩
def xO (c:TTd) (t u:TSd):TSd:=fun E Δ M=>c Δ M fun b M1=>if b=true then t E Δ M1 else u E Δ M1
theorem DP {sa sb:List Stmt} {tc:TTd} (hc:PTd X c tc) (ha:j4 X sa t) (hb:j4 X sb u):PSd X (.If c sa sb pos) (xO tc t u) :=
 (D0 hc ha hb).conv fun D σ H ⟨Δ,M,E,sr,hr,q,k⟩ => ⟨Δ,M,_,sr,hr,q,fun b M1 H1 q1 e1 hr1 => by
  cases b with
  |true=>simp only[if_true]at q1 ⊢;exact⟨Δ,M1,E,sr.ext e1,hr1,q1,k.ext e1⟩
  |false=>simp only[Bool.false_eq_true,if_false]at q1 ⊢;exact⟨Δ,M1,E,sr.ext e1,hr1,q1,k.ext e1⟩⟩
/-! a name is stored -/
def ke (i:Nat) (te:TEd):TSd:=fun E Δ M=>te Δ M fun d M1=>E.nx (Δ.set i (some d)) M1
theorem Er {i:Nat} {x:Str} {pos':Pos} (hN:X.N.Nodup) (hi:X.N[i]?=some x) (hx:Loc X.env.scope x) (he:PEd X e te) (hs:swapsWith e (some (.Name x pos')) pos.line X.env=pure false:=by rfl) (hf:X.fn x=true∨X.env.scope.names.lookup x=some .local:=by first|exact .inl rfl|exact .inr rfl|assumption) :
  PSd X (.Assign [.Name x pos'] e pos) (ke i te):=(Bw hN hi hx he hs hf).conv fun D σ H ⟨Δ,M,E,sr,hr,q,k⟩=>⟨Δ,M,_,sr,hr,q,fun d M1 v H1 q1 e1 hr1 rv=>k.nx _ M1 _ H1 q1 e1 hr1 ((sr.ext e1).set i rv)⟩
def Cr (i:Nat) (te:TEd) (r:D->D->Option D):TSd:=fun E Δ M=>∃ x,Δ[i]?=some (some x)/\te Δ M fun y M1=>∃ z,r (rdM M1 x) (rdM M1 y)=some z/\E.nx (Δ.set i (some z)) M1
theorem Ew {i:Nat} {x:Str} {op:Operator} {r:D->D->Option D} {pos':Pos} (hN:X.N.Nodup) (hi:X.N[i]?=some x) (hx:Loc X.env.scope x) (he:PEd X e te) (ho:bm X (inplaceOp op) r) (hf:X.fn x=true∨X.env.scope.names.lookup x=some .local:=by first|exact .inl rfl|exact .inr rfl|assumption) :
  PSd X (.AugAssign (.Name x pos') op e pos) (Cr i te r):=by
 have h:PIp X op (opV X.K r):=fun pins s σ H x y v u Q I rx ry q=>ho.v pins s σ H x y v u Q I rx ry q
 refine(AS hN hi hx he h hf).conv fun D σ H hh=>?_
 obtain⟨Δ,M,E,sr,hr,⟨d,ed,q⟩,k⟩:=hh
 obtain⟨v,ev,rv⟩:=sr.2 i d ed
 refine⟨v,ev,Δ,M,_,sr,hr,q,fun y M1 w H1 ⟨z,ez,q1⟩ e1 hr1 rw_=>⟨_,_,z,M1,hr1,(rv.ext e1).rd hr1,rw_.rd hr1,ez,fun w2 H2 e2 hr2 r2=>k.nx _ M1 _ H2 q1 (e1.trans e2) hr2 (((sr.ext e1).ext e2).set i r2)⟩⟩
/-! a ghost step: a cell of ours is ours no more,a name that holds it has the list as a value -/
/-! ### targets -/
abbrev GD:=D->DE->Option DE
def PGd (X:Cx) (tg:Expr) (g:GD):Prop:=∃ gv:TG,PG X tg gv/\∀ (d:D) (v:V) (σ:St) (Δ Δ':DE) (M:DH) (H:Hp) (Q:St->Hp->Prop),SR X.K M H σ Δ->HR X.K M H->Rep X.K M H d v->g d Δ=some Δ'->(∀ σ',SR X.K M H σ' Δ'->Q σ' H)->gv v σ H Q
def bc (i:Nat):GD:=fun d Δ=>some (Δ.set i (some d))
theorem aE {i:Nat} {x:Str} (hN:X.N.Nodup) (hi:X.N[i]?=some x) (hx:Loc X.env.scope x) (hf:X.fn x=true∨X.env.scope.names.lookup x=some .local:=by first|exact .inl rfl|exact .inr rfl|assumption):PGd X (.Name x pos) (bc i) :=
 ⟨nz i,tT hN hi hx hf,fun d v σ Δ Δ' M H Q sr hr rv e k=>by cases e;exact k _ (sr.set i rv)⟩
abbrev GDs:=List D->DE->Option DE
def yh (X:Cx) (tgs:List Expr) (g:GDs):Prop:=∃ gv:TGs,PGs X tgs gv/\∀ (ds:List D) (vs:List V) (σ:St) (Δ Δ':DE) (M:DH) (H:Hp) (Q:St->Hp->Prop),SR X.K M H σ Δ->HR X.K M H->af X.K M H ds vs->g ds Δ=some Δ'->(∀ σ',SR X.K M H σ' Δ'->Q σ' H)->gv vs σ H Q
def ng:GDs:=fun ds Δ=>match ds with|[]=>some Δ|_=>none
def fo (g:GD) (gs:GDs):GDs:=fun ds Δ=>match ds with|[]=>none|d::r=>(g d Δ).bind fun Δ1=>gs r Δ1
def jZ (g:GDs) (n:Nat):GD:=fun d Δ=>match d with|.tup ds=>if ds.length=n then g ds Δ else none|_=>none
theorem kX:yh X [] ng:=⟨BQ,tD,fun ds vs σ Δ Δ' M H Q sr hr rv e k=>by
 cases ds with
 |nil=>simp only[af]at rv;subst rv;cases e;exact⟨rfl,k _ sr⟩
 |cons _ _=>cases e⟩
theorem bR {tg:Expr} {tgs:List Expr} {g:GD} {gs:GDs} (h1:PGd X tg g) (h2:yh X tgs gs)
  (hs:(assignEach (tg::tgs) X.env).map (·.2)=assign tg X.env::(assignEach tgs X.env).map (·.2):=by rfl):yh X (tg::tgs) (fo g gs):=by
 obtain⟨g1,p1,k1⟩:=h1
 obtain⟨g2,p2,k2⟩:=h2
 refine⟨xm g1 g2,pe p1 p2 hs,fun ds vs σ Δ Δ' M H Q sr hr rv e k=>?_⟩
 cases ds with
 |nil=>cases e
 |cons d r =>
  simp only[af]at rv
  obtain⟨v,ws,rfl,h3,h4⟩:=rv
  simp only[fo]at e
  cases q:g d Δ with
  |none=>rw[q]at e;cases e
  |some Δ1 =>
   rw[q]at e
   exact⟨v,ws,rfl,k1 d v σ Δ Δ1 M H _ sr hr h3 q fun σ1 sr1=>k2 r ws σ1 Δ1 Δ' M H Q sr1 hr h4 e k⟩
theorem lH {tgs:List Expr} {kx:Nat} {g:GDs} {n:Nat} (hc:X.calm=true) (h:yh X tgs g) (hn:(assignEach tgs X.env).length=n:=by rfl) (hst:(assignEach tgs X.env).findIdx? (·.1)=none:=by rfl):PGd X (.Tuple tgs kx pos) (jZ g n):=by
 obtain⟨g1,p1,k1⟩:=h
 refine⟨AT X.K n g1,xu hc p1 hn hst,fun d v σ Δ Δ' M H Q sr hr rv e k=>?_⟩
 cases d with
 |tup ds =>
  simp only[jZ]at e
  by_cases hl:ds.length=n
  ·rw[if_pos hl]at e
   simp only[Rep]at rv
   obtain⟨a,vs,rfl,ta,rl⟩:=rv
   exact⟨a,vs,rfl,ta.sq,by rw[<-rl.length];exact hl,k1 ds vs σ Δ Δ' M H Q sr hr rl e k⟩
  ·rw[if_neg hl]at e;cases e
 |_=>cases e
def A6 (te:TEd) (g:GD):TSd:=fun E Δ M=>te Δ M fun d M1=>∃ Δ',g d Δ=some Δ'/\E.nx Δ' M1
theorem Dp {tg:Expr} {g:GD} (he:PEd X e te) (hg:PGd X tg g) (hs:swapsWithSole [tg] e pos.line X.env=pure false:=by rfl) (hw:swappedStores [tg] e X.env=pure none:=by rfl)
  (h1:(assignEach [tg] X.env).map (·.2)=[assign tg X.env]:=by rfl):PSd X (.Assign [tg] e pos) (A6 te g):=by
 obtain⟨gv,pg,kg⟩:=hg
 exact(xT he pg hs hw h1).conv fun D σ H ⟨Δ,M,E,sr,hr,q,k⟩=>⟨Δ,M,_,sr,hr,q,fun d M1 v H1 ⟨Δ',eg,q1⟩ e1 hr1 rv=>kg d v σ Δ Δ' M1 H1 _ (sr.ext e1) hr1 rv eg fun σ' sr'=>k.nx Δ' M1 σ' H1 q1 e1 hr1 sr'⟩
/-! ### what is walked -/
abbrev TId:=DE->DH->(List D->DH->Prop)->Prop
def ItD (K:PySem.W.Frag) (J:It) (ds:List D) (M1:DH) (H1:Hp):Prop:=∀ M2 H2,Ext M1 H1 M2 H2->HR K M2 H2->∀ i,(∀ d,ds[i]?=some d->J.go i H2/\∀ x H',J.yld i H2 x H'->Ext M2 H2 M2 H'/\HR K M2 H'/\Rep K M2 H' d x)/\(ds.length<=i->J.stop i H2)
def upI (K:PySem.W.Frag) (wi:TId):TI:=fun σ H R=>∃ (Δ:DE) (M:DH) (R':List D->DH->Prop),SR K M H σ Δ/\HR K M H/\wi Δ M R'/\∀ ds M1 J H1,R' ds M1->Ext M H M1 H1->HR K M1 H1->ItD K J ds M1 H1->R J H1
def PId (X:Cx) (tg iter:Expr) (wi:TId):Prop:=PI X tg iter (upI X.K wi)
theorem PI.conv {tg iter:Expr} {w w':TI} (h:PI X tg iter w) (k:∀ σ H R,w' σ H R->w σ H R):PI X tg iter w':=fun p s σ H R I q=>h p s σ H R I (k σ H R q)
variable {tg iter:Expr}
def gG (lo:Int) (n:Nat):List D:=(List.range n).map fun(k:Nat)=>.int (lo+(k:Int))
theorem cc {lo:Int} {n i:Nat} {d:D} (h:(gG lo n)[i]?=some d):i<n/\d=.int (lo+i):=by
 unfold gG at h
 rw[List.getElem?_map]at h
 by_cases hi:i<n
 ·rw[List.getElem?_range hi]at h;cases h;exact⟨hi,rfl⟩
 ·rw[List.getElem?_eq_none (by simp;omega)]at h;cases h
theorem yS {K:PySem.W.Frag} {lo:Int} {n:Nat} {M1:DH} {H1:Hp}:ItD K (Itr lo n) (gG lo n) M1 H1:=fun M2 H2 e2 hr2 i=>⟨fun d hd=>by
  obtain⟨h1,rfl⟩:=cc hd
  refine⟨h1,fun x H' ⟨eH,y⟩=>?_⟩
  subst eH;subst y
  exact⟨Ext.refl _ _,hr2,by simp[Rep]⟩,fun hl=>by
  show n<=i
  simpa[gG]using hl⟩
def oB (ta:TAd):TId:=fun Δ M R=>ta Δ M fun ds M1=>∃ j:Int,ds=[.int j]/\-(2 ^ 62)<=j/\j<2 ^ 62/\R (gG 0 j.toNat) M1
theorem C6 {ta:TAd} {p:Pos} (hg:Gl X "range") (hm:X.mg "range"=none) (ha:PAd X [a] ta) (hs:starEach [a] X.env=[(false,eval a X.env)]:=by rfl):PId X tg (.Call (.Name "range" p) [a] [] pos) (oB ta) :=
 (uE hg hm ha hs).conv fun σ H R ⟨Δ,M,R',sr,hr,q,k⟩ => ⟨Δ,M,_,sr,hr,q,fun ds M1 vs H1 ⟨j,ed,h1,h2,q1⟩ e1 hr1 rv => by
  subst ed
  obtain⟨v,ev,rv1⟩:=rv.one
  have ev1:v=.int j:=by simpa only[Rep]using rv1
  subst ev1;subst ev
  exact⟨j,rfl,h1,h2,k _ M1 _ H1 q1 e1 hr1 yS⟩⟩
/-! ### for -/
def bB (g:GD) (tb:TSd) (E:fJ):List D->DE->DH->Prop
 |[],Δ,M=>E.nx Δ M
 |d::ds,Δ,M=>∃ Δ',g d Δ=some Δ'/\tb { E with nx:=bB g tb E ds,ct:=bB g tb E ds,bk:=E.nx } Δ' M
def rR (wi:TId) (g:GD) (tb:TSd):TSd:=fun E Δ M=>wi Δ M fun ds M1=>bB g tb E ds Δ M1
theorem D7 {body:List Stmt} {wi:TId} {g:GD} {tb:TSd} (hp:PassesOwn (model X.prog X.w) X.A X.env X.xe) (hc:X.calm=true) (hi:PId X tg iter wi) (hg:PGd X tg g) (hb:j4 X body tb)
  (hs:∀ x,foldedSetIterable iter X.env x=pure x:=by intro _;rfl):PSd X (.For tg iter body [] pos) (rR wi g tb):=by
 obtain⟨gv,pg,kg⟩:=hg
 refine(Cg hp hc hi pg hb hs).conv fun D σ H hh=>?_
 obtain⟨Δ,M,E,sr,hr,q,k⟩:=hh
 refine⟨Δ,M,_,sr,hr,q,fun ds M1 J H1 q1 e1 hr1 it=>?_⟩
 refine⟨fun i m σ' H'=>∃ Δ' M',m=ds.length-i/\i<=ds.length/\Ext M1 H1 M' H'/\HR X.K M' H'/\SR X.K M' H' σ' Δ'/\bB g tb E (ds.drop i) Δ' M',⟨ds.length,Δ,M1,by simp,Nat.zero_le _,Ext.refl _ _,hr1,sr.ext e1,q1⟩,?_⟩
 rintro i m σ2 H2 ⟨Δ2,M2,rfl,hi2,e2,hr2,sr2,f2⟩
 obtain⟨go,stop⟩:=it M2 H2 e2 hr2 i
 by_cases hlt:i<ds.length
 ·have hd:ds[i]?=some ds[i]:=by simp[hlt]
  obtain⟨g1,y1⟩:=go _ hd
  rw[List.drop_eq_getElem_cons hlt]at f2
  simp only[bB]at f2
  obtain⟨Δ3,eg,f3⟩:=f2
  refine .inr ⟨g1,fun σ' H'=>∃ m',m'<ds.length-i/\∃ Δ' M',m'=ds.length-(i+1)/\i+1<=ds.length/\Ext M1 H1 M' H'/\HR X.K M' H'/\SR X.K M' H' σ' Δ'/\bB g tb E (ds.drop (i+1)) Δ' M',fun σ' H' z=>z,fun x H' hy=>?_⟩
  obtain⟨e3,hr3,rx⟩:=y1 x H' hy
  refine kg _ x σ2 Δ2 Δ3 M2 H' _ (sr2.ext e3) hr3 rx eg fun σ3 sr3=>?_
  refine⟨Δ3,M2,_,sr3,hr3,f3,⟨fun Δ' M' σ' H'' q' e' hr' sr'=>?_,fun Δ' M' σ' H'' q' e' hr' sr'=>?_,fun Δ' M' σ' H'' q' e' hr' sr'=>?_,fun d M' v H'' q' e' hr' rv'=>?_⟩⟩
  ·exact⟨_,by omega,Δ',M',rfl,hlt,(e2.trans e3).trans e',hr',sr',q'⟩
  ·exact k.nx Δ' M' σ' H'' q' (((e1.trans e2).trans e3).trans e') hr' sr'
  ·exact⟨_,by omega,Δ',M',rfl,hlt,(e2.trans e3).trans e',hr',sr',q'⟩
  ·exact k.rt d M' v H'' q' (((e1.trans e2).trans e3).trans e') hr' rv'
 ·rw[List.drop_eq_nil_of_le (by omega)]at f2
  exact .inl ⟨stop (by omega),k.nx Δ2 M2 σ2 H2 f2 (e1.trans e2) hr2 sr2⟩
/-! ### while -/
def rf (c:TTd) (tb:TSd):TSd:=fun E Δ M=>∃ W:Nat->DE->DH->Prop,(∃ m,W m Δ M)/\∀ m Δ M,W m Δ M->c Δ M fun b M1=>if b=true then tb { E with nx:=fun Δ' M'=>∃ m',m'<m/\W m' Δ' M',ct:=fun Δ' M'=>∃ m',m'<m/\W m' Δ' M',bk:=E.nx } Δ M1 else E.nx Δ M1
theorem zx {body:List Stmt} {tc:TTd} {tb:TSd} (hp:PassesOwn (model X.prog X.w) X.A X.env X.xe) (hc:PTd X c tc) (hb:j4 X body tb):PSd X (.While c body [] pos) (rf tc tb):=by
 refine(xP hp hc hb).conv fun D σ H hh=>?_
 obtain⟨Δ,M,E,sr,hr,⟨W,⟨m0,w0⟩,turn⟩,k⟩:=hh
 refine⟨fun m σ' H'=>∃ Δ' M',Ext M H M' H'/\HR X.K M' H'/\SR X.K M' H' σ' Δ'/\W m Δ' M',⟨m0,Δ,M,Ext.refl _ _,hr,sr,w0⟩,?_⟩
 rintro m σ1 H1 ⟨Δ1,M1,e1,hr1,sr1,w1⟩
 refine⟨Δ1,M1,_,sr1,hr1,turn m Δ1 M1 w1,fun b M2 H2 q2 e2 hr2=>?_⟩
 cases b with
 |true =>
  simp only[if_true]at q2 ⊢
  refine⟨fun σ' H'=>∃ m',m'<m/\∃ Δ' M',Ext M H M' H'/\HR X.K M' H'/\SR X.K M' H' σ' Δ'/\W m' Δ' M',fun σ' H' z=>z,Δ1,M2,_,sr1.ext e2,hr2,q2,⟨fun Δ' M' σ' H'' ⟨m',hm,w'⟩ e' hr' sr'=>?_,fun Δ' M' σ' H'' q' e' hr' sr'=>?_,fun Δ' M' σ' H'' ⟨m',hm,w'⟩ e' hr' sr'=>?_,fun d M' v H'' q' e' hr' rv'=>?_⟩⟩
  ·exact⟨m',hm,Δ',M',(e1.trans e2).trans e',hr',sr',w'⟩
  ·exact k.nx Δ' M' σ' H'' q' ((e1.trans e2).trans e') hr' sr'
  ·exact⟨m',hm,Δ',M',(e1.trans e2).trans e',hr',sr',w'⟩
  ·exact k.rt d M' v H'' q' ((e1.trans e2).trans e') hr' rv'
 |false =>
  simp only[Bool.false_eq_true,if_false]at q2 ⊢
  exact k.nx Δ1 M2 σ1 H2 q2 (e1.trans e2) hr2 (sr1.ext e2)
end
def sF:D->Prop
 |.tup ds=>ds.length<=sizeLine
 |.lst ds=>ds.length<=sizeLine
 |.scr ds=>ds.length<=sizeLine
 |_=>True
section
variable {X:Cx} {a b c e:Expr} {es:List Expr} {te ta tb:TEd} {pos:Pos} {tg iter elt:Expr}
theorem au.len {K:PySem.W.Frag} {pins:List (Addr×Obj)} {σ:St} {H:Hp} {s:Shared} {M:DH} {d:D} {v:V} (I:Inv X pins σ H s) (h:Rep X.K M H d v):sF d:=by
 cases d with
 |tup ds =>
  simp only[Rep]at h;obtain⟨a,vs,e,t,r⟩:=h
  obtain⟨_,_,_,z⟩:=I.tuple t.sq
  simp only[sF];rw[r.length];exact z
 |lst ds =>
  simp only[Rep]at h;obtain⟨a,vs,e,t,r⟩:=h
  obtain⟨_,_,_,z⟩:=I.list (SqL.of t.1)
  simp only[sF];rw[r.length];exact z
 |scr ds =>
  simp only[Rep]at h;obtain⟨a,vs,e,t,r⟩:=h
  obtain⟨_,_,_,z⟩:=I.list t.sq
  simp only[sF];rw[r.length];exact z
 |_=>trivial
/-! ### comprehensions -/
def bZ:List Bool->DE->DE
 |true::ms,v::σ=>v::bZ ms σ
 |false::ms,_::σ=>none::bZ ms σ
 |[],_::σ=>none::bZ [] σ
 |_,[]=>[]
def dI (ms:List Bool) (k:Nat) (Δ:DE):DE:=bZ ms Δ++List.replicate k none
theorem cq:∀ (ms:List Bool) (σ:DE),(bZ ms σ).length=σ.length
 |true::ms,v::σ=>by simp[bZ,cq ms σ]
 |false::ms,_::σ=>by simp[bZ,cq ms σ]
 |[],_::σ=>by simp[bZ,cq [] σ]
 |[],[]=>by simp[bZ]
 |true::_,[]=>by simp[bZ]
 |false::_,[]=>by simp[bZ]
theorem gw:∀ {ms:List Bool} {σ:DE} {i:Nat} {v:D},(bZ ms σ)[i]?=some (some v)->ms[i]?=some true/\σ[i]?=some (some v)
 |true::ms,v::σ,0,x,h=>by simpa[bZ]using h
 |true::ms,v::σ,i+1,x,h=>by
  have:=gw (ms:=ms) (σ:=σ) (i:=i) (v:=x) (by simpa[bZ]using h)
  simpa using this
 |false::ms,_::σ,0,x,h=>by simp[bZ]at h
 |false::ms,_::σ,i+1,x,h=>by
  have:=gw (ms:=ms) (σ:=σ) (i:=i) (v:=x) (by simpa[bZ]using h)
  simpa using this
 |[],_::σ,0,x,h=>by simp[bZ]at h
 |[],_::σ,i+1,x,h=>by
  have:=gw (ms:=[]) (σ:=σ) (i:=i) (v:=x) (by simpa[bZ]using h)
  simpa using this
 |[],[],_,_,h=>by simp[bZ]at h
 |true::_,[],_,_,h=>by simp[bZ]at h
 |false::_,[],_,_,h=>by simp[bZ]at h
theorem ic:∀ {ms:List Bool} {σ:St} {i:Nat} {v:V},ms[i]?=some true->σ[i]?=some (some v)->(bx ms σ)[i]?=some (some v)
 |true::ms,v::σ,0,x,h,h2=>by simpa[bx]using h2
 |true::ms,v::σ,i+1,x,h,h2=>by
  have:=ic (ms:=ms) (σ:=σ) (i:=i) (v:=x) (by simpa using h) (by simpa using h2)
  simpa[bx]using this
 |false::ms,_::σ,0,x,h,h2=>by simp at h
 |false::ms,_::σ,i+1,x,h,h2=>by
  have:=ic (ms:=ms) (σ:=σ) (i:=i) (v:=x) (by simpa using h) (by simpa using h2)
  simpa[bx]using this
 |[],_,_,_,h,_=>by simp at h
 |_::_,[],_,_,_,h=>by simp at h
theorem SR.comp {K:PySem.W.Frag} {M:DH} {H:Hp} {σ:St} {Δ:DE} (ms:List Bool) (k:Nat) (h:SR K M H σ Δ):SR K M H (c9 ms k σ) (dI ms k Δ):=by
 refine⟨by simp[c9,dI,bA,cq,h.1],fun i d q=>?_⟩
 unfold dI at q
 by_cases hi:i<(bZ ms Δ).length
 ·rw[List.getElem?_append_left hi]at q
  obtain⟨m,e⟩:=gw q
  obtain⟨v,ev,rv⟩:=h.2 i d e
  refine⟨v,?_,rv⟩
  have:=ic m ev
  unfold c9
  rw[List.getElem?_append_left (by rw[bA,h.1,<-cq ms];exact hi)]
  exact this
 ·rw[List.getElem?_append_right (by omega),List.getElem?_replicate]at q
  split at q<;>cases q
def cR (g:GD) (tc:TTd) (te:TEd):List D->DE->DH->List D->(List D->DH->Prop)->Prop
 |[],_,M,acc,Q=>Q acc M
 |d::ds,Δ,M,acc,Q=>∃ Δ',g d Δ=some Δ'/\tc Δ' M fun b M1=>if b=true then te Δ' M1 fun y M2=>cR g tc te ds Δ' M2 (acc++[y]) Q else cR g tc te ds Δ' M1 acc Q
def dLc (ms:List Bool) (k:Nat) (wi:TId) (g:GD) (tc:TTd) (te:TEd):TEd:=fun Δ M Q=>wi Δ M fun ds M1=>ds.length<=sizeLine/\cR g tc te ds (dI ms k Δ) M1 [] fun ys M2=>Q (.lst ys) M2
def kc (X:Cx) (ifs:List Expr) (t:TTd):Prop:=PIf X ifs (upT X.K t)
def u5:TTd:=fun _ M Q=>Q true M
theorem EC:kc X [] u5:=fun pins s σ H Q I ⟨Δ,M,R,sr,hr,q,k⟩=>yQ pins s σ H Q I (k true M H q (Ext.refl _ _) hr)
theorem Dz {tc:TTd} (h:PTd X c tc):kc X [c] tc:=zZ h
theorem t9 {K:PySem.W.Frag} {wi:TId} {g:GD} {tc:TTd} {te:TEd} {gv:TG} {ms:List Bool} {kk:Nat}
  (kg:∀ (d:D) (v:V) (σ:St) (Δ Δ':DE) (M:DH) (H:Hp) (Q:St->Hp->Prop),SR K M H σ Δ->HR K M H->Rep K M H d v->g d Δ=some Δ'->(∀ σ',SR K M H σ' Δ'->Q σ' H)->gv v σ H Q) :
  ∀ σ H Q,up K (dLc ms kk wi g tc te) σ H Q->tLc ms kk (upI K wi) gv (upT K tc) (up K te) σ H Q:=by
 rintro σ H Q ⟨Δ,M,R,sr,hr,q,k⟩
 refine⟨Δ,M,_,sr,hr,q,fun ds M1 J H1 ⟨hz,q1⟩ e1 hr1 it=>?_⟩
 refine⟨fun i m ys σ' H'=>∃ Δ' M' acc,m=ds.length-i/\i<=ds.length/\Ext M1 H1 M' H'/\HR K M' H'/\SR K M' H' σ' Δ'/\af K M' H' acc ys/\acc.length<=i/\cR g tc te (ds.drop i) Δ' M' acc fun ys M2=>R (.lst ys) M2,
  fun ys H'=>∃ M' acc,Ext M1 H1 M' H'/\HR K M' H'/\af K M' H' acc ys/\R (.lst acc) M',⟨ds.length,_,M1,[],by simp,Nat.zero_le _,Ext.refl _ _,hr1,(sr.ext e1).comp ms kk,af.nil,by simp,q1⟩,?_,?_⟩
 ·rintro i m ys σ2 H2 ⟨Δ2,M2,acc,rfl,hi2,e2,hr2,sr2,ra,la,f2⟩
  have hl:ys.length<=sizeLine:=by rw[<-ra.length];omega
  refine⟨hl,?_⟩
  obtain⟨go,stop⟩:=it M2 H2 e2 hr2 i
  by_cases hlt:i<ds.length
  ·have hd:ds[i]?=some ds[i]:=by simp[hlt]
   obtain⟨g1,y1⟩:=go _ hd
   rw[List.drop_eq_getElem_cons hlt]at f2
   simp only[cR]at f2
   obtain⟨Δ3,eg,f3⟩:=f2
   refine .inr ⟨g1,fun x H' hy=>?_⟩
   obtain⟨e3,hr3,rx⟩:=y1 x H' hy
   refine kg _ x σ2 Δ2 Δ3 M2 H' _ (sr2.ext e3) hr3 rx eg fun σ3 sr3=>?_
   refine⟨Δ3,M2,_,sr3,hr3,f3,fun b M4 H4 q4 e4 hr4=>?_⟩
   cases b with
   |true =>
    simp only[if_true]at q4 ⊢
    refine⟨Δ3,M4,_,sr3.ext e4,hr4,q4,fun y M5 v5 H5 q5 e5 hr5 rv5=>?_⟩
    refine⟨ds.length-(i+1),by omega,Δ3,M5,acc++[y],rfl,hlt,((e2.trans e3).trans e4).trans e5,hr5,(sr3.ext e4).ext e5,(((ra.ext e3).ext e4).ext e5).append (af.cons rv5 af.nil),by simp;omega,q5⟩
   |false =>
    simp only[Bool.false_eq_true,if_false]at q4 ⊢
    exact⟨ds.length-(i+1),by omega,Δ3,M4,acc,rfl,hlt,(e2.trans e3).trans e4,hr4,sr3.ext e4,(ra.ext e3).ext e4,by omega,q4⟩
  ·rw[List.drop_eq_nil_of_le (by omega)]at f2
   exact .inl ⟨stop (by omega),M2,acc,e2,hr2,ra,f2⟩
 ·rintro ys H' p ⟨M',acc,e',hr',ra,q'⟩ hp
  refine k _ M' _ _ q' ((e1.trans e').trans (Ext.new hr' hp)) (hr'.new hp) ?_
  simp only[Rep]
  exact⟨p,ys,rfl,⟨ax,hr'.fresh hp⟩,ra.ext (Ext.new hr' hp)⟩
variable {scope:Scope} {cl:List (Str×Addr)} {ms:List Bool} {extra:List Str} {ifs:List Expr}
def PGa (X:Cx) (scope:Scope) (cl:List (Str×Addr)) (extra:List Str) (tg:Expr) (g:GD):Prop:=∃ gv:TG,(∀ C s H ex,PG (ah X scope cl (X.N++extra) C s H ex) tg gv)/\∀ (d:D) (v:V) (σ:St) (Δ Δ':DE) (M:DH) (H:Hp) (Q:St->Hp->Prop),SR X.K M H σ Δ->HR X.K M H->Rep X.K M H d v->g d Δ=some Δ'->(∀ σ',SR X.K M H σ' Δ'->Q σ' H)->gv v σ H Q
theorem Fs {wi:TId} {g:GD} {tc:TTd} {te:TEd} (S:bv X scope cl ms extra) (hcalm:X.calm=true) (hi:PId X tg iter wi) (hg:PGa X scope cl extra tg g)
  (hif:∀ C s H ex,kc (ah X scope cl (X.N++extra) C s H ex) ifs tc) (he:∀ C s H ex,PEd (ah X scope cl (X.N++extra) C s H ex) elt te)
  (hs:∀ x,foldedSetIterable iter X.env x=pure x:=by intro _;rfl):PEd X (.ListComp elt [⟨tg,iter,ifs,0⟩] scope pos) (dLc ms extra.length wi g tc te):=by
 obtain⟨gv,pg,kg⟩:=hg
 exact(Aj (tc:=upT X.K tc) (te:=up X.K te) S hcalm hi pg hif he hs).conv (t9 kg)
theorem yp {i:Nat} {x:Str} {spos pos':Pos} {wi:TId} {g:GD} {tc:TTd} {te:TEd} (hN:X.N.Nodup) (hix:X.N[i]?=some x) (hx:X.env.scope.names.lookup x=some .local)
  (hsw:swapsWith (.ListComp elt [⟨tg,iter,ifs,0⟩] scope pos) (some (.Name x pos')) spos.line X.env=pure true) (S:bv X scope cl ms extra) (hcalm:X.calm=true) (hi:PId X tg iter wi) (hg:PGa X scope cl extra tg g)
  (hif:∀ C s H ex,kc (ah X scope cl (X.N++extra) C s H ex) ifs tc) (he:∀ C s H ex,PEd (ah X scope cl (X.N++extra) C s H ex) elt te)
  (hs:∀ x,foldedSetIterable iter X.env x=pure x:=by intro _;rfl):PSd X (.Assign [.Name x pos'] (.ListComp elt [⟨tg,iter,ifs,0⟩] scope pos) spos) (ke i (dLc ms extra.length wi g tc te)):=by
 obtain⟨gv,pg,kg⟩:=hg
 refine(vQ (tc:=upT X.K tc) (te:=up X.K te) hN hix hx hsw S hcalm hi pg hif he hs).conv fun D σ H hh=>?_
 obtain⟨Δ,M,E,sr,hr,q,k⟩:=hh
 exact t9 kg σ H _ ⟨Δ,M,_,sr,hr,q,fun d M1 v H1 q1 e1 hr1 rv=>k.nx _ M1 _ H1 q1 e1 hr1 ((sr.ext e1).set i rv)⟩
theorem aL {i:Nat} {x:Str} {pos:Pos} (hN:(X.N++extra).Nodup) (hi:(X.N++extra)[i]?=some x) (hx:(relabel scope X.env).names.lookup x=some .local):PGa X scope cl extra (.Name x pos) (bc i) :=
 ⟨nz i,fun C s H ex=>tT hN hi (.inl hx) (.inr hx),fun d v σ Δ Δ' M H Q sr hr rv e k=>by cases e;exact k _ (sr.set i rv)⟩
end
/-! ### a def's promise over deep data -/
abbrev SpD:=List D->DH->(D->DH->Prop)->Prop
def spD (K:PySem.W.Frag) (n:Nat) (S:SpD):Sp:=fun vs H Q _=>∃ (ds:List D) (M:DH) (R:D->DH->Prop),ds.length=n/\af K M H ds vs/\HR K M H/\S ds M R/\∀ d M' v H',R d M'->Ext M H M' H'->HR K M' H'->Rep K M' H' d v->Q v H'
theorem yE {K:PySem.W.Frag} {n:Nat} {S:SpD} {vs:List V} {H:Hp} {Q:VK} {E:XK} (h:spD K n S vs H Q E):vs.length=n:=by
 obtain⟨ds,M,R,hl,r,_⟩:=h
 rw[<-r.length];exact hl
def gZ (N:List Str) (ds:List D):DE:=ds.map some++List.replicate (N.length-ds.length) none
theorem xJ {K:PySem.W.Frag} {M:DH} {H:Hp} {N:List Str}:∀ {ds:List D} {vs:List V},af K M H ds vs->SR K M H (ci N vs) (gZ N ds):=by
 intro ds vs h
 have hl:=h.length
 refine⟨by simp[ci,gZ,hl],fun i d q=>?_⟩
 unfold gZ at q
 by_cases hi:i<ds.length
 ·rw[List.getElem?_append_left (by simpa using hi),List.getElem?_map]at q
  cases e:ds[i]? with
  |none=>rw[e]at q;cases q
  |some d' =>
   rw[e]at q;cases q
   obtain⟨v,gv,rv⟩:=h.get e
   refine⟨v,?_,rv⟩
   unfold ci
   rw[List.getElem?_append_left (by simp;omega),List.getElem?_map,gv]
   rfl
 ·rw[List.getElem?_append_right (by simpa using hi),List.getElem?_replicate]at q
  split at q<;>cases q
section
variable {P:Program} {w:World} {K:PySem.W.Frag} {mg:Str->Option Value} {base:Heap}
theorem Fun.okD {x qual:Str} {st:Stmt} {f:Addr} {fd:FuncData} {N ps:List Str} {k n:Nat} {S:SpD} (F:Fun K x qual st f fd) (hn:ps.length=n) (Sc:ar N ps (ae st))
  (hbody:∀ (cdv:Value) (A:Around) (outer:List Env) (s:Shared) (H:Hp) (E:XK),bP k (A.deeper (envOfC qual (ae st) s.heap.objs.size f cdv)) →
   ∃ t:TSd,j4 (qy CX0 P w K mg base N qual (ae st) f cdv A outer s H E).nox (cM st) t/\∀ ds M R,ds.length=n->S ds M R->t { nx:=fun _ M'=>R .non M',rt:=R } (gZ N ds) M):aK P w K mg base CX0 (k+1) f fd ps (spD K n S):=by
 refine F.ok Sc (fun vs H Q E h=>by rw[hn];exact yE h) (fun cdv A outer s H vs Q E hr h=>?_)
 obtain⟨t,ht,hq⟩:=hbody cdv A outer s H E hr
 obtain⟨ds,M,R,hl,r,hrr,q,k'⟩:=h
 refine⟨_,ht,gZ N ds,M,_,xJ r,hrr,hq ds M R hl q,⟨fun Δ' M' σ' H' q' e' hr' _=>k' .non M' .non H' q' e' hr' (by simp[Rep]),fun _ _ _ _ q'=>False.elim q',fun _ _ _ _ q'=>False.elim q',fun d M' v H' q' e' hr' rv=>k' d M' v H' q' e' hr' rv⟩⟩
end
section
variable {X:Cx} {a b c e:Expr} {es:List Expr} {te ta tb:TEd} {t:TAd} {pos:Pos}
def fI (n:Nat) (S:SpD) (t:TAd):TEd:=fun Δ M Q=>t Δ M fun ds M1=>ds.length=n/\S ds M1 Q
theorem Bb {k:Nat} {f:Addr} {fd:FuncData} {ps:List Str} {n:Nat} {S:SpD} {x:Str} {p:Pos} (F:aK X.prog X.w X.K X.mg X.base CX0 k f fd ps (spD X.K n S)) (hr:bP k X.A) (hg:Gl X x) (hm:X.mg x=some (.ref f)) (hk:PySem.W.keepIn X.K (.ref f)=true) (hb:cA X.K fd ps [])
  (ha:PAd X (e::es) t) (hdb:(x==("__debug__":Str))=false:=by decide) (he:starEach (e::es) X.env=(false,eval e X.env)::starEach es X.env:=by rfl) (hpl:(backTo pos (starEach es X.env)).any (·.1)=false:=by rfl) :
  PEd X (.Call (.Name x p) (e::es) [] pos) (fI n S t) :=
 (tX F hr hg hm hk hb .nil xK ha hdb he hpl).conv fun σ H Q ⟨Δ,M,R,sr,hr,q,k⟩ => ⟨Δ,M,_,sr,hr,q,fun ds M1 vs H1 ⟨hl,q1⟩ e1 hr1 rv => by
  dsimp only;rw[List.append_nil]
  exact⟨ds,M1,R,hl,rv,hr1,q1,fun d M' v H' q' e' hr' rv'=>k d M' v H' q' (e1.trans e') hr' rv'⟩⟩
def xn (M1 M2:DH) (d d2:D):Prop:=d2=d∨∃ a l,d=.ref a/\M1 a=some (.lst l)/\M2 a=none/\d2=.lst l
theorem lD {K:PySem.W.Frag} {M1 M2:DH} {H:Hp} (hr:HR K M1 H) (hle:LeM M2 M1):∀ {ds ds2:List D} {vs:List V},Paired (xn M1 M2) ds ds2->af K M1 H ds vs->af K M2 H ds2 vs
 |_,_,_,.nil,h=>by simp only[af]at h ⊢;exact h
 |_,_,_,.cons h1 t,h=>by
  simp only[af]at h
  obtain⟨v,ws,rfl,h3,h4⟩:=h
  refine af.cons ?_ (lD hr hle t h4)
  rcases h1 with rfl|⟨a,l,rfl,e1,e2,rfl⟩
  ·exact h3.ext (Ext.le hle)
  ·simp only[Rep]at h3
   subst h3
   exact Rep.froze hr hle e1 e2
def o7 (n:Nat) (S:SpD) (t:TAd):TEd:=fun Δ M Q=>t Δ M fun ds M1=>∃ (M2:DH) (ds2:List D) (R:D->DH->Prop),LeM M2 M1/\Paired (xn M1 M2) ds ds2/\ds2.length=n/\S ds2 M2 R /\
 ∀ d M3,R d M3->noL d=true/\(∀ a o,M3 a=some o->noC o=true)/\Q d (eO M1 M2 M3)
theorem yN {k:Nat} {f:Addr} {fd:FuncData} {ps:List Str} {n:Nat} {S:SpD} {x:Str} {p:Pos} (F:aK X.prog X.w X.K X.mg X.base CX0 k f fd ps (spD X.K n S)) (hr:bP k X.A) (hg:Gl X x) (hm:X.mg x=some (.ref f)) (hk:PySem.W.keepIn X.K (.ref f)=true) (hb:cA X.K fd ps [])
  (ha:PAd X (e::es) t) (hdb:(x==("__debug__":Str))=false:=by decide) (he:starEach (e::es) X.env=(false,eval e X.env)::starEach es X.env:=by rfl) (hpl:(backTo pos (starEach es X.env)).any (·.1)=false:=by rfl) :
  PEd X (.Call (.Name x p) (e::es) [] pos) (o7 n S t) :=
 (tX F hr hg hm hk hb .nil xK ha hdb he hpl).conv fun σ H Q ⟨Δ,M,R,sr,hr,q,k⟩ => ⟨Δ,M,_,sr,hr,q,fun ds M1 vs H1 ⟨M2,ds2,R2,hle,hp,hl,q1,q2⟩ e1 hr1 rv => by
  dsimp only;rw[List.append_nil]
  refine⟨ds2,M2,R2,hl,lD hr1 hle hp rv,hr1.le hle,q1,fun d M3 v H' q' e' hr' rv'=>?_⟩
  obtain⟨n1,n2,q3⟩:=q2 d M3 q'
  exact k d _ v H' q3 (e1.trans (Ext.back hle e')) (hr1.back hle e' hr' n2) (Rep.hard n1 rv' (cf hr1 hle e' hr'))⟩
theorem p6 {M1:DH}:∀ {ds:List D},Paired (xn M1 noM) ds (ds.map (rdM M1))
 |[]=>.nil
 | d :: ds => .cons (by
   cases d with
   |ref a =>
    simp only[rdM]
    cases q:M1 a with
    |none=>exact .inl rfl
    |some o=>cases o with|lst l=>exact .inr ⟨a,l,rfl,q,rfl,rfl⟩|dK _=>exact .inl rfl|dT _=>exact .inl rfl|dKr _ _ _=>exact .inl rfl|ins _ _=>exact .inl rfl
   |_=>exact .inl rfl) p6
/-! ### cells of ours are written -/
def CT (to ti te:TEd):TSd:=fun E Δ M=>te Δ M fun d M1=>to Δ M1 fun o M2=>ti Δ M2 fun i M3=>∃ a ds k j,o=.ref a/\i=.int k/\M3 a=some (.lst ds)/\ixN ds.length k=some j/\E.nx Δ (al M3 a (.lst (ds.set j d)))
theorem Ei {o i:Expr} {to ti:TEd} {p:Pos} (ho:PEd X o to) (hi:PEd X i ti) (he:PEd X e te)
  (ha:∀ v,assign (.Subscript o i p) X.env v = (do
   let ov <-holding [v] (eval o X.env)
   let iv <-holding [v,ov] (eval i X.env)
   standAt p
   holding [v,ov,iv] (setItem ov iv v)
   release [v,ov,iv] []):=by intro _;rfl) (hs:swapsWithSole [.Subscript o i p] e pos.line X.env=pure false:=by rfl) (hw:swappedStores [.Subscript o i p] e X.env=pure none:=by rfl)
  (h1:(assignEach [.Subscript o i p] X.env).map (·.2)=[assign (.Subscript o i p) X.env]:=by rfl):PSd X (.Assign [.Subscript o i p] e pos) (CT to ti te) :=
 (xT he (BM ho hi wR ha) hs hw h1).conv fun D σ H ⟨Δ,M,E,sr,hr,q,k⟩ => ⟨Δ,M,_,sr,hr,q,fun d M1 v H1 q1 e1 hr1 rv => ⟨Δ,M1,_,sr.ext e1,hr1,q1,fun o M2 ov H2 q2 e2 hr2 ro => ⟨Δ,M2,_,(sr.ext e1).ext e2,hr2,q2,fun i M3 iv H3 ⟨a,ds,kk,j,eo,ei,em,ej,q3⟩ e3 hr3 ri => by
  subst eo;subst ei
  simp only[Rep]at ro ri
  subst ro;subst ri
  obtain⟨vs,hv,rl⟩:=hr3 a _ em
  refine⟨a,vs,kk,j,rfl,rfl,hv,by rw[<-rl.length];exact ej,?_⟩
  exact k.nx Δ _ σ _ q3 (((e1.trans e2).trans e3).trans (Ext.write em)) (hr3.write em (rl.set j ((rv.ext e2).ext e3))) ((((sr.ext e1).ext e2).ext e3).ext (Ext.write em))⟩⟩⟩
def uK (to te:TEd):TEd:=fun Δ M Q=>to Δ M fun o M1=>∃ a l,o=.ref a/\M1 a=some (.lst l)/\te Δ M1 fun d M2=>∃ ds,M2 a=some (.lst ds)/\ds.length<sizeLine/\Q .non (al M2 a (.lst (ds++[d])))
theorem EL {o:Expr} {to:TEd} {apos cpos:Pos} (ho:PEd X o to) (he:PEd X e te) (hbase:attributeBase o "append" X.env (eval o X.env)=eval o X.env:=by rfl)
  (hse:starEach [e] X.env=(false,eval e X.env)::starEach [] X.env:=by rfl)
  (hfew:((backTo cpos (starEach [e] X.env)).all (fun x => !x.1) && (backToKw cpos (keywordEach [] X.env)).all (fun x => x.1.isSome)
  &&decide ([e].length+([]:List Keyword).length+(if([]:List Keyword).isEmpty then 0 else 1)<30))=true:=by rfl)
  (hline:(apos.endLine==cpos.line)=true:=by rfl) (hplain:(backTo cpos (starEach [] X.env)).any (·.1)=false:=by rfl):PEd X (.Call (.Attribute o "append" apos) [e] [] cpos) (uK to te) :=
 (vo PySem.F.plainAttrs_list PySem.F.slot_list_append PySem.F.type_list_append (show MtR X "list.append" sM from uX) ho (gB he kE hse) hbase hfew hline hse hplain).conv fun σ H Q ⟨Δ,M,R,sr,hr,q,k⟩ => ⟨Δ,M,_,sr,hr,q,fun o M1 ov H1 ⟨a,l,eo,em,q1⟩ e1 hr1 ro => by
  subst eo
  simp only[Rep]at ro
  subst ro
  obtain⟨vs,hv,rl⟩:=hr1 a _ em
  refine⟨.inl ⟨rfl,vs,SqL.of hv⟩,Δ,M1,_,sr.ext e1,hr1,q1,fun d M2 v H2 ⟨ds,em2,hz,q2⟩ e2 hr2 rv=>?_⟩
  obtain⟨ws,hw,rl2⟩:=hr2 a _ em2
  refine⟨a,ws,v,rfl,rfl,hw,by rw[<-rl2.length];exact hz,k _ _ _ _ q2 ((e1.trans e2).trans (Ext.write em2)) (hr2.write em2 (rl2.append (af.cons rv af.nil))) (by simp[Rep])⟩⟩
end
/-! ### any source that the library walks,as a gJ -/
def ItW (n:Nat) (Vp:Nat->V->Prop):It:=⟨fun i _=>i<n,fun i H x H'=>H'=H/\Vp i x,fun i _=>n<=i⟩
theorem uZ {P:Program} {w:World} {K:PySem.W.Frag} {tg:Expr} {it:Addr} {n:Nat} {Pv:Nat->Value->Prop} {St:Nat->Heap->Prop} {ty:String} {Vp:Nat->V->Prop}
  (W:∀ A:Around,A.handled=none->Walks P w A it [it] [it] n Pv St) (ho:∀ i h,St i h->∃ o,h.get? it=some o/\o.cls=.type ty/\∃ vs,o.data=.fields vs)
  (hn:["enumerate","zip","dict_itemiterator","dict_reverseitemiterator","odict_iterator","itertools.zip_longest","itertools.pairwise"].contains ty=false)
  (hv:∀ i u,Pv i u->∃ x,ap x u/\Vp i x) (hself:∀ (A:Around) (i:Nat) (s:Shared) (Q:Value->Shared->Prop) (E:Value->Shared->Prop),St i s.heap->Q (.ref it) s->wpAny (model P w) A (pyIter (.ref it)) Q E s):gJ P w K tg (ItW n Vp) [it] it (fun i h=>i<=n/\St i h) where
 mem:=by simp
 obj:=fun i h st b hb=>by
  have e:b=it:=by simpa using hb
  subst e
  obtain⟨o,e,c,vs,d⟩:=ho i h st.2
  exact⟨o,e,fun v z=>by rw[d]at z;cases z⟩
 keep:=fun i h h' st k=>⟨st.1,(W { handled:=none } rfl).frame i h h' st.2 k⟩
 item:=by
  intro X hP hw hK hc i pins s σ H E I hf st hg
  subst hP hw hK
  obtain⟨f0,f1,f2,f3,f4,f5⟩:=hf it (by simp)
  refine(W X.A (I.ok.hd hc)).item i s _ _ hg st.2 fun v h' tk pv st' kk=>?_
  have I1:Inv X pins σ H { s with heap:=h',toks:=tk }:=I.turned (fun b o hb e=>kk b o (by simpa using hb) e) f0 f1 f3 f4 f5
  obtain⟨x,rx,vx⟩:=hv i v pv
  obtain⟨o,e,c,vs,d⟩:=ho _ _ st'
  exact⟨v,rfl,nQ (s:={ s with heap:=h',toks:=tk }) e c d hn ⟨x,H,I1,rx,⟨rfl,vx⟩,⟨hg,st'⟩,fun b hb=>(hf b hb).1⟩⟩
 done:=by
  intro X hP hw hK hc i pins s σ H E I hf st hg
  subst hP hw hK
  obtain⟨f0,f1,f2,f3,f4,f5⟩:=hf it (by simp)
  have e:i=n:=Nat.le_antisymm st.1 hg
  subst e
  exact(W X.A (I.ok.hd hc)).done s _ _ st.2 fun h' tk kk=>⟨rfl,I.turned (fun b o hb e=>kk b o (by simpa using hb) e) f0 f1 f3 f4 f5⟩
 self:=fun A i s Q E st h=>hself A i s Q E st.2 h
section
variable {X:Cx} {a b c e:Expr} {es:List Expr} {te ta tb:TEd} {t:TAd} {pos:Pos} {tg iter:Expr}
/-! ### a text's aV -/
def aV (x:Str):List D:=x.cps.toList.map fun c=>.str ⟨#[c]⟩
theorem tz {pins:List (Addr×Obj)} {σ:St} {H:Hp} {s:Shared} {x:Str} {t:Tok} {R:It->Hp->Prop} (I:Inv X pins σ H s) (ty:String) (hn:["enumerate","zip","dict_itemiterator","dict_reverseitemiterator","odict_iterator","itertools.zip_longest","itertools.pairwise"].contains ty=false)
  (W:∀ A:Around,A.handled=none->Walks X.prog X.w A s.heap.objs.size [s.heap.objs.size] [s.heap.objs.size] x.cps.size (SignAt x) (fun i h=>h.IsStrIter s.heap.objs.size ty x t i))
  (hself:∀ (A:Around) (i:Nat) (s':Shared) (Q:Value->Shared->Prop) (E:Value->Shared->Prop),s'.heap.IsStrIter s.heap.objs.size ty x t i->Q (.ref s.heap.objs.size) s'->wpAny (model X.prog X.w) A (pyIter (.ref s.heap.objs.size)) Q E s')
  (q:R (ItW x.cps.size fun i v=>∃ c,x.cps[i]?=some c/\v=.str ⟨#[c]⟩) H):PIE X pins σ tg R (.ref s.heap.objs.size) { s with heap:=s.heap.push { cls:=.type ty,data:=.fields #[.str x t,.int 0 0] } }:=by
 have I1:Inv X pins σ H { s with heap:=s.heap.push { cls:=.type ty,data:=.fields #[.str x t,.int 0 0] } }:=I.kept (t':=s.toks) fun b o e=>Heap.get?_push_of_some _ e
 refine⟨s.heap.objs.size,[s.heap.objs.size],_,_,H,rfl,I1,uZ W (fun i h st=>?_) hn (fun i u ⟨c,t',e,ev⟩=>⟨.str ⟨#[c]⟩,⟨t',ev⟩,c,e,rfl⟩) hself,⟨Nat.zero_le _,_,Heap.get?_push_size _ rfl,rfl,rfl⟩,fun b hb=>?_,q⟩
 ·obtain⟨o,e,c,d⟩:=st
  exact⟨o,e,c,_,d⟩
 ·have e:b=s.heap.objs.size:=by simpa using hb
  subst e
  exact I.fpOk (Nat.le_refl _) (I.hok.fresh (Nat.le_refl _))
end
section
variable {X:Cx} {a b c e:Expr} {es:List Expr} {te ta tb:TEd} {t:TAd} {pos:Pos}
/-! ###==-/
def eqF (x y:D):Option D:=if dLe x 60=true/\dLe y 60=true then some (.bl (eqD x y))else none
theorem wL {x y z:D} (h:eqF x y=some z):dLe x 60=true/\dLe y 60=true/\z=.bl (eqD x y):=by
 unfold eqF at h
 by_cases hc:dLe x 60=true/\dLe y 60=true
 ·rw[if_pos hc]at h;cases h;exact⟨hc.1,hc.2,rfl⟩
 ·rw[if_neg hc]at h;cases h
theorem sn (hu:X.A.units+64<cLine):bm X (compareOp .Eq) eqF:=by
 intro pins s σ H M x y v u dx dy dz Q I hr rx ry r1 r2 e k
 obtain⟨h1,h2,rfl⟩:=wL e
 exact(lh I 60 (A:=X.A) (by omega) h1 h2 r1 r2 rx ry).2 X.prog X.w X.xe _ ⟨.bl (eqD dx dy),H,I,rfl,k _ H (Ext.refl _ _) hr (by simp[Rep])⟩
/-! ### in,not in: flat items -/
def inD (neg:Bool) (x y:D):Option D:=match y with
 |.lst ds=>if aU x=true/\ds.all aU=true then some (.bl (xor neg (ds.any fun d=>eqD d x)))else none
 |.tup ds=>if aU x=true/\ds.all aU=true then some (.bl (xor neg (ds.any fun d=>eqD d x)))else none
 |_=>none
theorem B3 {K:PySem.W.Frag} {M:DH} {H:Hp} {d:D} {v:V} (h:aU d=true) (r:Rep K M H d v):v=toV d/\gg v=true:=by
 cases d<;>first|(simp only[Rep]at r;subst r;exact⟨rfl,rfl⟩)|cases h
theorem zM {x y:D} (hx:aU x=true) (hy:aU y=true):eqV (toV x) (toV y)=eqD x y:=by
 cases x<;>cases y<;>first|(simp[aU]at hx;done)|(simp[aU]at hy;done)|(simp[toV,eqV,eqD];done)
theorem gl {K:PySem.W.Frag} {M:DH} {H:Hp} {x:D} (hx:aU x=true):∀ {ds:List D} {vs:List V},af K M H ds vs->ds.all aU=true->vs.all gg=true/\inV (toV x) vs=ds.any fun d=>eqD d x
 |[],_,h,_=>by simp only[af]at h;subst h;simp[inV]
 |d::ds,_,h,ha=>by
  simp only[af]at h
  obtain⟨v,ws,rfl,h3,h4⟩:=h
  rw[List.all_cons,Bool.and_eq_true]at ha
  obtain⟨e1,e2⟩:=B3 ha.1 h3
  obtain⟨e3,e4⟩:=gl hx h4 ha.2
  subst e1
  refine⟨by rw[List.all_cons,e2,e3];rfl,?_⟩
  unfold inV at e4 ⊢
  rw[List.any_cons,List.any_cons,e4,zM ha.1 hx]
theorem au.scal {K:PySem.W.Frag} {M:DH} {H:Hp} {d:D} {v:V} (h:aU d=true) (r:au K M H d v):v=toV d/\gg v=true:=by
 cases d<;>first|(simp only[au,Rep]at r;subst r;exact⟨rfl,rfl⟩)|cases h
theorem FH:bm X (compareOp .In) (inD false):=bm.of ul fun H M x y dx dy dz Q hr r1 r2 e q=>by
 cases dy with
 |lst ds =>
  simp only[inD]at e
  by_cases hc:aU dx=true/\ds.all aU=true
  ·rw[if_pos hc]at e;cases e
   obtain⟨l,vs,rfl,sq,rl⟩:=r2
   obtain⟨e1,e2⟩:=au.scal hc.1 r1
   obtain⟨e3,e4⟩:=gl hc.1 rl hc.2
   subst e1
   refine⟨l,vs,rfl,.inl (SqL.of sq),e2,e3,q _ H (Ext.refl _ _) hr ?_⟩
   rw[e4];simp[Rep]
  ·rw[if_neg hc]at e;cases e
 |tup ds =>
  simp only[inD]at e
  by_cases hc:aU dx=true/\ds.all aU=true
  ·rw[if_pos hc]at e;cases e
   obtain⟨l,vs,rfl,sq,rl⟩:=r2
   obtain⟨e1,e2⟩:=au.scal hc.1 r1
   obtain⟨e3,e4⟩:=gl hc.1 rl hc.2
   subst e1
   refine⟨l,vs,rfl,.inr sq,e2,e3,q _ H (Ext.refl _ _) hr ?_⟩
   rw[e4];simp[Rep]
  ·rw[if_neg hc]at e;cases e
 |_=>cases e
theorem yA:bm X (compareOp .NotIn) (inD true):=bm.of oG fun H M x y dx dy dz Q hr r1 r2 e q=>by
 cases dy with
 |lst ds =>
  simp only[inD]at e
  by_cases hc:aU dx=true/\ds.all aU=true
  ·rw[if_pos hc]at e;cases e
   obtain⟨l,vs,rfl,sq,rl⟩:=r2
   obtain⟨e1,e2⟩:=au.scal hc.1 r1
   obtain⟨e3,e4⟩:=gl hc.1 rl hc.2
   subst e1
   refine⟨l,vs,rfl,.inl (SqL.of sq),e2,e3,q _ H (Ext.refl _ _) hr ?_⟩
   rw[e4];simp[Rep]
  ·rw[if_neg hc]at e;cases e
 |tup ds =>
  simp only[inD]at e
  by_cases hc:aU dx=true/\ds.all aU=true
  ·rw[if_pos hc]at e;cases e
   obtain⟨l,vs,rfl,sq,rl⟩:=r2
   obtain⟨e1,e2⟩:=au.scal hc.1 r1
   obtain⟨e3,e4⟩:=gl hc.1 rl hc.2
   subst e1
   refine⟨l,vs,rfl,.inr sq,e2,e3,q _ H (Ext.refl _ _) hr ?_⟩
   rw[e4];simp[Rep]
  ·rw[if_neg hc]at e;cases e
 |_=>cases e
/-! ### len,abs,tuple,list -/
def iE (f:D->Option D):List D->Option D
 |[d]=>f d
 |_=>none
theorem iR {K:PySem.W.Frag} {M:DH} {H:Hp} {d:D} {xs:List V} (h:Paired (au K M H) [d] xs):∃ v,xs=[v]/\au K M H d v:=by
 cases h with
 |cons r t=>cases t;exact⟨_,rfl,r⟩
theorem bY {f:D->Option D} {ds:List D} {z:D} (h:iE f ds=some z):∃ d,ds=[d]/\f d=some z:=by
 match ds,h with
 |[d],h=>exact⟨d,rfl,h⟩
def j3:D->Option D
 |.tup ds=>some (.int ds.length)
 |.lst ds=>some (.int ds.length)
 |.scr ds=>some (.int ds.length)
 |.str x=>if x.length<=sizeLine then some (.int x.length)else none
 |_=>none
theorem dR:bi X (.builtin "len") (iE j3):=bi.of (cS.or nY oo) fun H M xs ds dz Q hr rp e q=>by
 obtain⟨d,rfl,e0⟩:=bY e
 clear e
 have e:=e0
 clear e0
 obtain⟨v,rfl,r⟩:=iR rp
 cases d with
 |tup ds=>cases e;obtain⟨l,vs,rfl,sq,rl⟩:=r;exact .inl ⟨l,vs,rfl,.inr sq,q _ H (Ext.refl _ _) hr (by rw[<-rl.length];simp[Rep])⟩
 |lst ds=>cases e;obtain⟨l,vs,rfl,sq,rl⟩:=r;exact .inl ⟨l,vs,rfl,.inl (SqL.of sq),q _ H (Ext.refl _ _) hr (by rw[<-rl.length];simp[Rep])⟩
 |scr ds=>cases e;obtain⟨l,vs,rfl,sq,rl⟩:=r;exact .inl ⟨l,vs,rfl,.inl sq,q _ H (Ext.refl _ _) hr (by rw[<-rl.length];simp[Rep])⟩
 |str x =>
  simp only[j3]at e
  by_cases hz:x.length<=sizeLine
  ·rw[if_pos hz]at e;cases e
   exact .inr ⟨x,by rw[mF r],hz,q _ H (Ext.refl _ _) hr (by simp[Rep])⟩
  ·rw[if_neg hz]at e;cases e
 |_=>cases e
def Eo:D->Option D
 |.int i=>some (.int (if i<0 then -i else i))
 |_=>none
theorem EH:bi X (.builtin "abs") (iE Eo):=bi.of wE fun H M xs ds dz Q hr rp e q=>by
 obtain⟨d,rfl,e0⟩:=bY e
 clear e
 have e:=e0
 clear e0
 obtain⟨v,rfl,r⟩:=iR rp
 cases d with
 |int i=>cases e;exact⟨i,by rw[fS r],q _ H (Ext.refl _ _) hr (by simp[Rep])⟩
 |_=>cases e
def yc:D->Option D
 |.lst ds=>some (.tup ds)
 |.tup ds=>some (.tup ds)
 |_=>none
theorem gq:bi X (.type "tuple") (iE yc):=bi.of mt fun H M xs ds dz Q hr rp e q=>by
 obtain⟨d,rfl,e0⟩:=bY e
 clear e
 have e:=e0
 clear e0
 obtain⟨v,rfl,r⟩:=iR rp
 cases d with
 |lst ds=>cases e;obtain⟨l,vs,rfl,sq,rl⟩:=r;exact⟨l,vs,rfl,.inl ⟨SqL.of sq,fun p hp=>oa hr hp rl q⟩⟩
 |tup ds=>cases e;have t1:=au.tup hr r;obtain⟨l,vs,rfl,sq,rl⟩:=r;exact⟨l,vs,rfl,.inr ⟨sq,q _ H (Ext.refl _ _) hr t1⟩⟩
 |_=>cases e
/-! ### all,any of truths -/
def sk:D->Bool
 |.bl _=>true
 |_=>false
def pJ:D->Bool
 |.bl b=>b
 |_=>false
def zq:D->Option D
 |.lst ds=>if ds.all sk=true then some (.bl (ds.all pJ))else none
 |_=>none
def yd:D->Option D
 |.lst ds=>if ds.all sk=true then some (.bl (ds.any pJ))else none
 |_=>none
theorem uI {p:Nat->Bool} {q:D->Bool}:∀ {ds:List D},(∀ i d,ds[i]?=some d->p i=q d)->(List.range ds.length).all p=ds.all q:=by
 intro ds h
 rw[Bool.eq_iff_iff,List.all_eq_true,List.all_eq_true]
 constructor
 ·intro hh d hd
  obtain⟨i,hi,e⟩:=List.mem_iff_getElem.mp hd
  rw[<-h i d (by rw[List.getElem?_eq_getElem hi,e])]
  exact hh i (List.mem_range.mpr hi)
 ·intro hh i hi
  have hi:=List.mem_range.mp hi
  rw[h i ds[i] (by simp[hi])]
  exact hh _ (List.getElem_mem hi)
theorem ug {p:Nat->Bool} {q:D->Bool}:∀ {ds:List D},(∀ i d,ds[i]?=some d->p i=q d)->(List.range ds.length).any p=ds.any q:=by
 intro ds h
 rw[Bool.eq_iff_iff,List.any_eq_true,List.any_eq_true]
 constructor
 ·rintro⟨i,hi,hp⟩
  have hi:=List.mem_range.mp hi
  exact⟨ds[i],List.getElem_mem hi,by rw[<-h i ds[i] (by simp[hi])];exact hp⟩
 ·rintro⟨d,hd,hq⟩
  obtain⟨i,hi,e⟩:=List.mem_iff_getElem.mp hd
  exact⟨i,List.mem_range.mpr hi,by rw[h i d (by rw[List.getElem?_eq_getElem hi,e])];exact hq⟩
theorem pO {K:PySem.W.Frag} {M:DH} {H:Hp} {ds:List D} {vs:List V} {us:List Value} (rl:af K M H ds vs) (rv:aq vs us) (hb:ds.all sk=true) {i:Nat} {u:Value} (h:us[i]?=some u):∃ d,ds[i]?=some d/\u=.bool (pJ d):=by
 have hi:i<ds.length:=by rw[rl.length,rv.length];exact(List.getElem?_eq_some_iff.mp h).1
 obtain⟨v,g,r⟩:=rl.get (i:=i) (d:=ds[i]) (by simp[hi])
 obtain⟨u',g',r'⟩:=rv.get g
 rw[h]at g';cases g'
 have hbi:=List.all_eq_true.mp hb ds[i] (List.getElem_mem hi)
 refine⟨ds[i],by simp[hi],?_⟩
 cases q:ds[i]with
 |bl b=>rw[q]at r;simp only[Rep]at r;subst r;exact r'
 |_=>rw[q]at hbi;cases hbi
theorem Ac (hc:X.calm=true):bi X (.builtin "all") (iE zq):=by
 intro pins s σ H M xs us ds dz Q I hr rv rp e k
 obtain⟨d,rfl,e0⟩:=bY e
 clear e
 have e:=e0
 clear e0
 obtain⟨v,rfl,r⟩:=iR rp
 obtain⟨u,rfl,ru⟩:=aq.one rv
 cases d with
 |lst ds =>
  simp only[zq]at e
  by_cases hb:ds.all sk=true
  ·rw[if_pos hb]at e;cases e
   obtain⟨l,vs,rfl,sq,rl⟩:=r
   cases ru
   obtain⟨its,rv,pl,hz⟩:=I.list (SqL.of sq)
   have hne:l≠s.heap.objs.size:=Nat.ne_of_lt (I.hok.lt sq)
   refine call_all_walk (wpAny_pyIter_list pl.isList ⟨s.heap.objs.size,[s.heap.objs.size,l],[s.heap.objs.size],its.toArray.size,_,_,fun i=>(ds[i]?.map pJ).getD false,rfl,Walks.list (A:=X.A.in1) (show X.A.in1.handled=none from I.ok.hd hc) s.heap.objs.size l hne its.toArray,⟨⟨_,Heap.get?_push_size _ rfl,rfl,rfl⟩,?_⟩,fun i v s' Q' E' hv q=>?_,fun h' tk kk=>?_⟩)
   ·obtain⟨o,e,c⟩:=pl.isList
    exact⟨o,Heap.get?_push_of_some _ e,c⟩
   ·obtain⟨d,hd,rfl⟩:=pO rl rv hb (i:=i) (u:=v) (by simpa using hv)
    dsimp only at q;rw[hd]at q
    exact wpAny_truthy_bool q
   ·have I1:Inv X pins σ H { s with heap:=h',toks:=tk }:=I.kept (t':=tk) fun b o e=>kk b o (by simpa using Nat.ne_of_lt (Heap.lt_size e)) (Heap.get?_push_of_some _ e)
    refine⟨.bl _,H,I1,rfl,k _ H (Ext.refl _ _) hr ?_⟩
    rw[List.size_toArray,<-rv.length,<-rl.length,uI (q:=pJ) (fun i d hd=>by simp[hd])]
    simp[Rep]
  ·rw[if_neg hb]at e;cases e
 |_=>cases e
theorem D2 (hc:X.calm=true):bi X (.builtin "any") (iE yd):=by
 intro pins s σ H M xs us ds dz Q I hr rv rp e k
 obtain⟨d,rfl,e0⟩:=bY e
 clear e
 have e:=e0
 clear e0
 obtain⟨v,rfl,r⟩:=iR rp
 obtain⟨u,rfl,ru⟩:=aq.one rv
 cases d with
 |lst ds =>
  simp only[yd]at e
  by_cases hb:ds.all sk=true
  ·rw[if_pos hb]at e;cases e
   obtain⟨l,vs,rfl,sq,rl⟩:=r
   cases ru
   obtain⟨its,rv,pl,hz⟩:=I.list (SqL.of sq)
   have hne:l≠s.heap.objs.size:=Nat.ne_of_lt (I.hok.lt sq)
   refine call_any_walk (wpAny_pyIter_list pl.isList ⟨s.heap.objs.size,[s.heap.objs.size,l],[s.heap.objs.size],its.toArray.size,_,_,fun i=>(ds[i]?.map pJ).getD false,rfl,Walks.list (A:=X.A.in1) (show X.A.in1.handled=none from I.ok.hd hc) s.heap.objs.size l hne its.toArray,⟨⟨_,Heap.get?_push_size _ rfl,rfl,rfl⟩,?_⟩,fun i v s' Q' E' hv q=>?_,fun h' tk kk=>?_⟩)
   ·obtain⟨o,e,c⟩:=pl.isList
    exact⟨o,Heap.get?_push_of_some _ e,c⟩
   ·obtain⟨d,hd,rfl⟩:=pO rl rv hb (i:=i) (u:=v) (by simpa using hv)
    dsimp only at q;rw[hd]at q
    exact wpAny_truthy_bool q
   ·have I1:Inv X pins σ H { s with heap:=h',toks:=tk }:=I.kept (t':=tk) fun b o e=>kk b o (by simpa using Nat.ne_of_lt (Heap.lt_size e)) (Heap.get?_push_of_some _ e)
    refine⟨.bl _,H,I1,rfl,k _ H (Ext.refl _ _) hr ?_⟩
    rw[List.size_toArray,<-rv.length,<-rl.length,ug (q:=pJ) (fun i d hd=>by simp[hd])]
    simp[Rep]
  ·rw[if_neg hb]at e;cases e
 |_=>cases e
end
section
variable {X:Cx} {a b c e:Expr} {es:List Expr} {te ta tb:TEd} {t:TAd} {pos:Pos}
/-! ### isinstance -/
def zp (T:String):D->Option Bool
 |.non=>some false
 |.bl _=>some (T=="bool" || T=="int")
 |.int _=>some (T=="int")
 |.str _=>some (T=="str")
 |.tup _=>some (T=="tuple")
 |.lst _=>some (T=="list")
 |.emp=>some (T=="dict")
 |_=>none
def okT (T:String):Bool:=T=="bool" || T=="int" || T=="str" || T=="tuple" || T=="list"
def Be (T:String) (te:TEd):TEd:=fun Δ M Q=>te Δ M fun d M1=>∃ k,zp T (rdM M1 d)=some k/\Q (.bl k) M1
theorem u6 {T:String} (hT:okT T=true) {pins:List (Addr×Obj)} {s:Shared} {σ:St} {H:Hp} {M:DH} {v:V} {u:Value} {d:D} {k:Bool} {Q:VK} (I:Inv X pins σ H s) (r:ap v u) (rd:au X.K M H d v) (e:zp T d=some k) (q:Q (.bl k) H) :
  wpAny (model X.prog X.w) X.A (call (.builtin "isinstance") [u,.type T]) (EP X pins σ Q) X.xe s:=by
 have fin:∀ {k'} ,k=k'->EP X pins σ Q (.bool k') s:=fun e=>by subst e;exact⟨.bl k,H,I,rfl,q⟩
 have fint:∀ {k'} ,k=k'->EP X pins σ Q (.bool k') { s with toks:=s.toks+1 }:=fun e=>by subst e;exact⟨.bl k,H,I.tok _,rfl,q⟩
 have h5:T="bool"∨T="int"∨T="str"∨T="tuple"∨T="list":=by
  simp[okT]at hT
  rcases hT with(((h|h)|h)|h)|h<;>simp[h]
 cases d with
 |non =>
  simp only[au,Rep]at rd;subst rd;simp only[ap]at r;subst r;cases e
  rcases h5 with rfl|rfl|rfl|rfl|rfl
  ·exact IsiPair.NoneType_bool (fint rfl)
  ·exact IsiPair.NoneType_int (fint rfl)
  ·exact IsiPair.NoneType_str (fint rfl)
  ·exact IsiPair.NoneType_tuple (fint rfl)
  ·exact IsiPair.NoneType_list (fint rfl)
 |bl b =>
  simp only[au,Rep]at rd;subst rd;simp only[ap]at r;subst r;cases e
  rcases h5 with rfl|rfl|rfl|rfl|rfl
  ·exact IsiPair.bool_bool (fin rfl)
  ·exact IsiPair.bool_int (fin rfl)
  ·exact IsiPair.bool_str (fint rfl)
  ·exact IsiPair.bool_tuple (fint rfl)
  ·exact IsiPair.bool_list (fint rfl)
 |int i =>
  simp only[au,Rep]at rd;subst rd;obtain⟨t,rfl⟩:=r;cases e
  rcases h5 with rfl|rfl|rfl|rfl|rfl
  ·exact IsiPair.int_bool (fint rfl)
  ·exact IsiPair.int_int (fin rfl)
  ·exact IsiPair.int_str (fint rfl)
  ·exact IsiPair.int_tuple (fint rfl)
  ·exact IsiPair.int_list (fint rfl)
 |str x =>
  simp only[au,Rep]at rd;subst rd;obtain⟨t,rfl⟩:=r;cases e
  rcases h5 with rfl|rfl|rfl|rfl|rfl
  ·exact IsiPair.str_bool (fint rfl)
  ·exact IsiPair.str_int (fint rfl)
  ·exact IsiPair.str_str (fin rfl)
  ·exact IsiPair.str_tuple (fint rfl)
  ·exact IsiPair.str_list (fint rfl)
 |tup ds =>
  obtain⟨a,vs,rfl,sq,rl⟩:=rd
  cases r;cases e
  obtain⟨its,rv,⟨o,ho,hc,_⟩,_⟩:=I.tuple sq
  rcases h5 with rfl|rfl|rfl|rfl|rfl
  ·exact IsiPair.tuple_bool ho hc (fint rfl)
  ·exact IsiPair.tuple_int ho hc (fint rfl)
  ·exact IsiPair.tuple_str ho hc (fint rfl)
  ·exact IsiPair.tuple_tuple ho hc (fin rfl)
  ·exact IsiPair.tuple_list ho hc (fint rfl)
 |lst ds =>
  obtain⟨a,vs,rfl,sq,rl⟩:=rd
  cases r;cases e
  obtain⟨its,rv,⟨o,n,ho,hc,_⟩,_⟩:=I.list (SqL.of sq)
  rcases h5 with rfl|rfl|rfl|rfl|rfl
  ·exact IsiPair.list_bool ho hc (fint rfl)
  ·exact IsiPair.list_int ho hc (fint rfl)
  ·exact IsiPair.list_str ho hc (fint rfl)
  ·exact IsiPair.list_tuple ho hc (fint rfl)
  ·exact IsiPair.list_list ho hc (fin rfl)
 |emp =>
  simp only[au,Rep]at rd
  obtain⟨a,rfl,h1,_⟩:=rd
  cases r;cases e
  obtain⟨_,_,_,_,o,es,ep,ho,ex,_⟩:=I.hok a _ h1
  rcases h5 with rfl|rfl|rfl|rfl|rfl
  ·exact IsiPair.dict_bool ho ex.1 (fint rfl)
  ·exact IsiPair.dict_int ho ex.1 (fint rfl)
  ·exact IsiPair.dict_str ho ex.1 (fint rfl)
  ·exact IsiPair.dict_tuple ho ex.1 (fint rfl)
  ·exact IsiPair.dict_list ho ex.1 (fint rfl)
 |_=>cases e
theorem DV {T:Str} {Tn:String} {p p2:Pos} (hT:okT Tn=true) (hg:Gl X "isinstance") (hm:X.mg "isinstance"=none) (hg2:Gl X T) (hm2:X.mg T=none) (hv2:bootBuiltins T=some (.type Tn)) (ha:PEd X a ta) (hn2:T≠"__name__":=by decide) (hd2:(T==("__debug__":Str))=false:=by decide)
  (hs:starEach [a,.Name T p2] X.env=(false,eval a X.env)::starEach [.Name T p2] X.env:=by rfl) (hs2:starEach [.Name T p2] X.env=(false,eval (.Name T p2) X.env)::starEach [] X.env:=by rfl) (hpl:(backTo pos (starEach [.Name T p2] X.env)).any (·.1)=false:=by rfl) :
  PEd X (.Call (.Name "isinstance" p) [a,.Name T p2] [] pos) (Be Tn ta):=by
 have hc:cS X (.builtin "isinstance") (fun xs H Q=>∃ v d k M,xs=[v,.ty Tn]/\au X.K M H d v/\zp Tn d=some k/\Q (.bl k) H):=by
  intro pins s σ H xs us Q I rv h
  obtain⟨v,d,k,M,rfl,rd,ek,q⟩:=h
  obtain⟨u1,u2,rfl,r1,r2⟩:=aq.two rv
  cases r2
  exact u6 hT I r1 rd ek q
 refine(pF hc hg hm (by kernel_rfl) (gB ha (gB (yy (v:=.ty Tn) hg2 hm2 hv2 rfl hn2 hd2) kE hs2) hs) (by decide) (by decide) hs hpl).conv fun σ H Q hh=>?_
 obtain⟨Δ,M,R,sr,hr,q,k⟩:=hh
 exact⟨Δ,M,_,sr,hr,q,fun d M1 v H1 ⟨kk,ek,q1⟩ e1 hr1 rv=>⟨v,_,kk,M1,rfl,rv.rd hr1,ek,k _ M1 _ H1 q1 e1 hr1 (by simp[Rep])⟩⟩
/-! ### slices -/
abbrev TOd:=DE->DH->(Option Int->DH->Prop)->Prop
def upO (K:PySem.W.Frag) (t:TOd):TO:=fun σ H Q=>∃ (Δ:DE) (M:DH) (R:Option Int->DH->Prop),SR K M H σ Δ/\HR K M H/\t Δ M R/\∀ i M' H',R i M'->Ext M H M' H'->HR K M' H'->Q i H'
def POd (X:Cx) (e:Option Expr) (t:TOd):Prop:=PO X e (upO X.K t)
def nS:TOd:=fun _ M Q=>Q none M
def wg (t:TEd):TOd:=fun Δ M Q=>t Δ M fun d M1=>∃ i,d=.int i/\Q (some i) M1
theorem PO.conv {e:Option Expr} {t t':TO} (h:PO X e t) (k:∀ σ H Q,t' σ H Q->t σ H Q):PO X e t':=fun p s σ H Q I q=>h p s σ H Q I (k σ H Q q)
theorem zA:POd X none nS:=yx.conv fun σ H Q ⟨Δ,M,R,sr,hr,q,k⟩=>k none M H q (Ext.refl _ _) hr
theorem yf (h:PEd X e te):POd X (some e) (wg te):=(yl h).conv fun σ H Q ⟨Δ,M,R,sr,hr,q,k⟩=>⟨Δ,M,_,sr,hr,q,fun d M1 v H1 ⟨i,ed,q1⟩ e1 hr1 rv=>⟨i,by subst ed;simpa only[Rep]using rv,k _ M1 H1 q1 e1 hr1⟩⟩
def cF (xs:List D) (lo hi:Option Int):List D:=(xs.drop (HT.sIx xs.length 0 lo)).take (HT.sIx xs.length xs.length hi-HT.sIx xs.length 0 lo)
def slD:D->Option Int->Option Int->Option D
 |.lst ds,lo,hi=>some (.lst (cF ds lo hi))
 |.scr ds,lo,hi=>some (.lst (cF ds lo hi))
 |.str x,lo,hi=>if x.length<=sizeLine then some (.str (Txt.slice x lo hi))else none
 |.tup ds,lo,hi=>if HT.sIx ds.length 0 lo=0/\HT.sIx ds.length ds.length hi=ds.length then none else some (.tup (cF ds lo hi))
 |_,_,_=>none
def Fq:V->Option Int->Option Int->Hp->VK->Prop:=fun x lo hi H Q=>∃ z,x=.str z/\z.length<=sizeLine/\Q (.str (Txt.slice z lo hi)) H
theorem Cv:SlR X Fq:=by
 intro pins s σ H x v vl vu lo hi sl Q I rx hs pl pu h
 obtain⟨z,rfl,hz,q⟩:=h
 obtain⟨t,rfl⟩:=rx
 refine⟨"str",_,PySem.F.slot_str_getitem.lookup,typeIs_str _ _ _,?_⟩
 have fin:∀ (t':Tok) (k:Nat),EP X pins σ Q (.str (Txt.slice z lo hi) t') { s with toks:=k }:=fun t' k=>⟨.str (Txt.slice z lo hi),H,I.tok _,⟨t',rfl⟩,q⟩
 cases pl with
 |none =>
  cases pu with
  |none=>exact wpAny_getItem_str_slice (l:=none) (u:=none) (st:=none) hs rfl (post_val_or_str ⟨Nat.le_trans (Txt.slice_le z _ _) hz,fin⟩)
  |int j tj=>exact wpAny_getItem_str_slice (l:=none) (u:=some (j,tj)) (st:=none) hs rfl (post_val_or_str ⟨Nat.le_trans (Txt.slice_le z _ _) hz,fin⟩)
 |int i ti =>
  cases pu with
  |none=>exact wpAny_getItem_str_slice (l:=some (i,ti)) (u:=none) (st:=none) hs rfl (post_val_or_str ⟨Nat.le_trans (Txt.slice_le z _ _) hz,fin⟩)
  |int j tj=>exact wpAny_getItem_str_slice (l:=some (i,ti)) (u:=some (j,tj)) (st:=none) hs rfl (post_val_or_str ⟨Nat.le_trans (Txt.slice_le z _ _) hz,fin⟩)
/-! ### join -/
def fB:List D->Option (List Str)
 |[]=>some []
 |.str x::ds=>(fB ds).map (x::·)
 |_=>none
theorem lS {K:PySem.W.Frag} {M:DH} {H:Hp}:∀ {ds:List D} {vs:List V} {us:List Value} {ys:List Str},af K M H ds vs->aq vs us->fB ds=some ys->StrsAre us ys
 |[],_,_,_,h,rv,e=>by
  simp only[af]at h;subst h;cases rv;cases e;exact .nil
 |d::ds,_,_,ys,h,rv,e=>by
  simp only[af]at h
  obtain⟨v,ws,rfl,h3,h4⟩:=h
  cases d with
  |str x =>
   simp only[fB]at e
   cases q:fB ds with
   |none=>rw[q]at e;cases e
   |some zs =>
    rw[q]at e;cases e
    simp only[Rep]at h3;subst h3
    cases rv with
    |cons r1 r2 =>
     obtain⟨t,rfl⟩:=r1
     exact .cons x t (lS h4 r2 q)
  |_=>cases e
def sP (sep:Str):D->Option D
 |.lst ds=>match fB ds with|some ys=>if(ys.map (·.length)).sum+ys.length*sep.length<=16777216 then some (.str (Txt.join sep ys))else none|none=>none
 |_=>none
def vy (to te:TEd):TEd:=fun Δ M Q=>to Δ M fun o M1=>∃ sep,o=.str sep/\te Δ M1 fun d M2=>∃ z,sP sep (rdM M2 d)=some z/\Q z M2
theorem AG {o:Expr} {to:TEd} {apos cpos:Pos} (ho:PEd X o to) (he:PEd X e te) (hbase:attributeBase o "join" X.env (eval o X.env)=eval o X.env:=by rfl)
  (hse:starEach [e] X.env=(false,eval e X.env)::starEach [] X.env:=by rfl)
  (hfew:((backTo cpos (starEach [e] X.env)).all (fun x => !x.1) && (backToKw cpos (keywordEach [] X.env)).all (fun x => x.1.isSome)
  &&decide ([e].length+([]:List Keyword).length+(if([]:List Keyword).isEmpty then 0 else 1)<30))=true:=by rfl)
  (hline:(apos.endLine==cpos.line)=true:=by rfl) (hplain:(backTo cpos (starEach [] X.env)).any (·.1)=false:=by rfl):PEd X (.Call (.Attribute o "join" apos) [e] [] cpos) (vy to te):=by
 have hm:MtR X "str.join" (fun x xs H Q=>∃ sep a vs ds ys M,x=.str sep/\xs=[.ref a]/\H a=some (.lst vs)/\af X.K M H ds vs/\fB ds=some ys/\(ys.map (·.length)).sum+ys.length*sep.length<=16777216/\Q (.str (Txt.join sep ys)) H):=by
  intro pins s σ H x xs v us Q I rx rv h
  obtain⟨sep,a,vs,ds,ys,M,rfl,rfl,hH,rl,es,hz,q⟩:=h
  obtain⟨t,rfl⟩:=rx
  obtain⟨u,rfl,ru⟩:=aq.one rv
  cases ru
  obtain⟨its,r,pl,_⟩:=I.list (SqL.of hH)
  exact join_list pl.isList (by simpa using lS rl r es) hz fun t' k=>⟨.str _,H,I.tok _,⟨t',rfl⟩,q⟩
 refine(vo PySem.F.plainAttrs_str PySem.F.slot_str_join PySem.F.type_str_join hm ho (gB he kE hse) hbase hfew hline hse hplain).conv fun σ H Q hh=>?_
 obtain⟨Δ,M,R,sr,hr,q,k⟩:=hh
 refine⟨Δ,M,_,sr,hr,q,fun o M1 ov H1 ⟨sep,eo,q1⟩ e1 hr1 ro=>?_⟩
 subst eo
 simp only[Rep]at ro
 subst ro
 refine⟨rfl,Δ,M1,_,sr.ext e1,hr1,q1,fun d M2 v H2 ⟨z,ez,q2⟩ e2 hr2 rv=>?_⟩
 have rr:=rv.rd hr2
 generalize rdM M2 d=d' at rr ez
 cases d' with
 |lst ds =>
  obtain⟨a,vs,rfl,sq,rl⟩:=rr
  simp only[sP]at ez
  cases qs:fB ds with
  |none=>rw[qs]at ez;cases ez
  |some ys =>
   rw[qs]at ez
   dsimp only at ez
   by_cases hz:(ys.map (·.length)).sum+ys.length*sep.length<=16777216
   ·rw[if_pos hz]at ez;cases ez
    exact⟨sep,a,vs,ds,ys,M2,rfl,rfl,sq,rl,qs,hz,k _ M2 _ H2 q2 (e1.trans e2) hr2 (by simp[Rep])⟩
   ·rw[if_neg hz]at ez;cases ez
 |_=>cases ez
end
/-! ### a block's names,by one look at the text -/
def cx (names:List (Str×NameKind)) (cells:List (Str×Addr)):List (Str×Addr):=(names.filterMap fun y=>if y.2==.free then(cells.lookup y.1).map fun c=>(y.1,c)else none).reverse
def eK (env:Env) (y:Str×NameKind) (cs:List (Str×Addr)):Sem (ForInStep (List (Str×Addr))):=if(y.2==.free)=true then(do let c <-cellOf env y.1;pure (ForInStep.yield ((y.1,c)::cs)))else pure (ForInStep.yield cs)
theorem jn {env:Env}:∀ (names:List (Str×NameKind)) (acc:List (Str×Addr)),(∀ y∈names,y.2=.free->(env.cells.lookup y.1).isSome=true) ->
  (forIn names acc (eK env):Sem (List (Str×Addr)))=pure (cx names env.cells++acc)
 |[],acc,_=>by simp[cx]
 |y::r,acc,h=>by
  rw[List.forIn_cons]
  by_cases hk:(y.2==NameKind.free)=true
  ·have hs:=h y List.mem_cons_self (by simpa using hk)
   obtain⟨c,hc⟩:=Option.isSome_iff_exists.mp hs
   have e1:eK env y acc=pure (ForInStep.yield ((y.1,c)::acc)):=by
    unfold eK cellOf
    rw[if_pos hk,hc]
    simp only[pure_bind]
   rw[e1]
   simp only[pure_bind]
   rw[jn r ((y.1,c)::acc) fun y hy=>h y (List.mem_cons_of_mem _ hy)]
   have e2:cx (y::r) env.cells=cx r env.cells++[(y.1,c)]:=by
    unfold cx
    rw[List.filterMap_cons,if_pos hk,hc]
    simp
   rw[e2]
   simp
  ·have e1:eK env y acc=pure (ForInStep.yield acc):=by
    unfold eK
    rw[if_neg hk]
   rw[e1]
   simp only[pure_bind]
   rw[jn r acc fun y hy=>h y (List.mem_cons_of_mem _ hy)]
   have e2:cx (y::r) env.cells=cx r env.cells:=by
    unfold cx
    rw[List.filterMap_cons,if_neg hk]
   rw[e2]
theorem ya {scope:Scope} {env:Env} (h:∀ y∈scope.names,y.2=.free->(env.cells.lookup y.1).isSome=true):closureFor scope env=pure (cx scope.names env.cells):=by
 have:=jn (env:=env) scope.names [] h
 simp only[List.append_nil]at this
 show(forIn scope.names [] (eK env) >>= fun cs=>pure cs)=_
 rw[this]
 simp only[pure_bind]
theorem vn {cells:List (Str×Addr)} {names:List (Str×NameKind)} {x:Str} {c:Addr} (h:(cx names cells).lookup x=some c):cells.lookup x=some c:=by
 have hm:=PySem.mem_of_lookup h
 unfold cx at hm
 rw[List.mem_reverse,List.mem_filterMap]at hm
 obtain⟨y,_,e⟩:=hm
 split at e
 ·cases q:cells.lookup y.1 with
  |none=>rw[q]at e;cases e
  |some c'=>rw[q]at e;cases e;exact q
 ·cases e
theorem dq:∀ {l:List (Str×Addr)} {x:Str} {c:Addr},(x,c)∈l->∃ c',l.lookup x=some c'
 |(y,d)::l,x,c,h=>by
  rw[List.lookup_cons]
  cases q:x==y with
  |true=>exact⟨d,by simp⟩
  |false =>
   rcases List.mem_cons.mp h with e|h
   ·cases e;simp at q
   ·simpa using dq h
theorem wN {cells:List (Str×Addr)} {names:List (Str×NameKind)} {x:Str} (h:names.lookup x=some .free) (hs:(cells.lookup x).isSome=true):∃ c,(cx names cells).lookup x=some c:=by
 obtain⟨c,hc⟩:=Option.isSome_iff_exists.mp hs
 refine dq (c:=c) ?_
 unfold cx
 rw[List.mem_reverse,List.mem_filterMap]
 exact⟨(x,.free),PySem.mem_of_lookup h,by simp[hc]⟩
def aQ (fs:Scope) (N:List Str) (scope:Scope) (ms:List Bool):Bool :=
 scope.kind==.function&&scope.names.all (fun y=>y.2 != .cell)&&scope.names.all (fun y=>y.2 != .local || scope.names.lookup y.1==some .local) &&
 scope.names.all (fun y=>y.2 != .free || fs.names.lookup y.1==some .cell)&&(ms.zip N).all (fun y=>!y.1 || scope.names.lookup y.2==some .free)&&decide (ms.length<=N.length)
theorem aG {X:Cx} {scope:Scope} {ms:List Bool} {extra:List Str} {n0:Nat} (hX:X.env.cells=cellsFrom n0 X.env.scope.names []) (c:aQ X.env.scope X.N scope ms=true):bv X scope (cx scope.names X.env.cells) ms extra:=by
 unfold aQ at c
 simp only[Bool.and_eq_true,List.all_eq_true,decide_eq_true_eq]at c
 obtain⟨⟨⟨⟨⟨c1,c2⟩,c3⟩,c4⟩,c5⟩,c6⟩:=c
 have fr:∀ x,(x,NameKind.free)∈scope.names->X.env.scope.names.lookup x=some .cell:=fun x hx=>by
  have:=c4 _ hx
  simpa using this
 have cs:∀ x,(x,NameKind.free)∈scope.names->(X.env.cells.lookup x).isSome=true:=fun x hx=>by
  rw[hX]
  exact PySem.W.cellsFrom_some _ _ _ (.inl (fr x hx))
 refine⟨by simpa using c1,fun y hy e=>?_,fun y hy e=>?_,ya fun y hy e=>?_,fun x c h=>vn h,fun x h=>wN h (cs x (PySem.mem_of_lookup h)),fun x h=>.inl (fr x (PySem.mem_of_lookup h)),fun i x h1 h2=>?_,c6⟩
 ·have:=c2 y hy
  rw[e]at this
  simp at this
 ·have:=c3 y hy
  simpa[e]using this
 ·obtain⟨a,b⟩:=y
  cases e
  exact cs a hy
 ·have:=c5 (true,x) (by
   rw[List.mem_iff_getElem?]
   exact⟨i,by rw[List.getElem?_zip_eq_some];exact⟨h1,h2⟩⟩)
  simpa using this
/-! ### a def of the text,by its name -/
structure FnD (P:Program) (w:World) (K:PySem.W.Frag) (mg:Str->Option Value) (base:Heap) (x:Str) (k n:Nat) (S:SpD):Prop where
 ex:∃ (f:Addr) (fd:FuncData) (ps:List Str),aK P w K mg base CX0 k f fd ps (spD K n S)/\mg x=some (.ref f)/\PySem.W.keepIn K (.ref f)=true/\cA K fd ps []
section
variable {X:Cx} {e:Expr} {es:List Expr} {t:TAd} {pos p:Pos} {x:Str} {k n:Nat} {S:SpD}
theorem dc (F:FnD X.prog X.w X.K X.mg X.base x k n S) (hr:bP k X.A) (hg:Gl X x) (ha:PAd X (e::es) t) (hdb:(x==("__debug__":Str))=false:=by decide) (he:starEach (e::es) X.env=(false,eval e X.env)::starEach es X.env:=by rfl) (hpl:(backTo pos (starEach es X.env)).any (·.1)=false:=by rfl) :
  PEd X (.Call (.Name x p) (e::es) [] pos) (fI n S t):=by
 obtain⟨f,fd,ps,h1,h2,h3,h4⟩:=F.ex
 exact Bb h1 hr hg h2 h3 h4 ha hdb he hpl
theorem dcL (F:FnD X.prog X.w X.K X.mg X.base x k n S) (hr:bP k X.A) (hg:Gl X x) (ha:PAd X (e::es) t) (hdb:(x==("__debug__":Str))=false:=by decide) (he:starEach (e::es) X.env=(false,eval e X.env)::starEach es X.env:=by rfl) (hpl:(backTo pos (starEach es X.env)).any (·.1)=false:=by rfl) :
  PEd X (.Call (.Name x p) (e::es) [] pos) (o7 n S t):=by
 obtain⟨f,fd,ps,h1,h2,h3,h4⟩:=F.ex
 exact yN h1 hr hg h2 h3 h4 ha hdb he hpl
end
section
variable {X:Cx} {a b c e:Expr} {es:List Expr} {te ta tb:TEd} {t:TAd} {pos:Pos} {tg iter:Expr}
def wn (te:TEd):TSd:=fun E Δ M=>te Δ M fun d M1=>∃ a ds,d=.ref a/\M1 a=some (.lst ds)/\E.rt (.lst ds) (g8 M1 a)
theorem A7 (he:PEd X e te):PSd X (.Return (some e) pos) (wn te):=(q0 he).conv fun D σ H ⟨Δ,M,E,sr,hr,q,k⟩=>⟨Δ,M,_,sr,hr,q,fun d M1 v H1 ⟨a,ds,ed,em,q1⟩ e1 hr1 rv=>by
 subst ed
 simp only[Rep]at rv
 subst rv
 exact k.rt _ _ _ H1 q1 (e1.trans (Ext.le LeM.del)) (hr1.le LeM.del) (Rep.froze hr1 LeM.del em dl)⟩
/-! += of ints -/
theorem Ck:bm X (inplaceOp .Add) (iOp fun i j=>some (.int (i+j))):=by
 intro pins s σ H M x y v u dx dy dz Q I hr rx ry r1 r2 e k
 obtain⟨i,j,rfl,rfl,e'⟩:=k7 e
 cases e'
 exact A8 pins s σ H x y v u Q I rx ry ⟨i,j,fS r1,fS r2,k _ H (Ext.refl _ _) hr (by simp[Rep])⟩
/-! ### whatever can be walked: a tuple,a list that stays,the script,a text -/
def g9:D->Option (List D)
 |.tup ds=>some ds
 |.lst ds=>some ds
 |.scr ds=>some ds
 |.str x=>if x.length<=sizeLine then some (aV x)else none
 |_=>none
def jR (te:TEd):TId:=fun Δ M R=>te Δ M fun d M1=>∃ ds,g9 d=some ds/\(ds.length<=sizeLine->R ds M1)
theorem oX {pins:List (Addr×Obj)} {σ:St} {H:Hp} {s:Shared} {o:Obj} (I:Inv X pins σ H s):∀ b∈[s.heap.objs.size],cy X pins H b:=fun b hb=>by
 have e:b=s.heap.objs.size:=by simpa using hb
 subst e
 exact I.fpOk (Nat.le_refl _) (I.hok.fresh (Nat.le_refl _))
theorem BW {K:PySem.W.Frag} {x:Str} {M1:DH} {H1:Hp}:ItD K (ItW x.cps.size fun i v=>∃ c,x.cps[i]?=some c/\v=.str ⟨#[c]⟩) (aV x) M1 H1:=fun M2 H2 e2 hr2 i=>⟨fun d hd=>by
  unfold aV at hd
  rw[List.getElem?_map]at hd
  cases q:x.cps.toList[i]? with
  |none=>rw[q]at hd;cases hd
  |some c =>
   rw[q]at hd;cases hd
   have hc:x.cps[i]?=some c:=by simpa using q
   refine⟨?_,fun y H' ⟨eH,c',hc',ey⟩=>?_⟩
   ·exact(Array.getElem?_eq_some_iff.mp hc).1
   ·subst eH;subst ey
    rw[hc]at hc';cases hc'
    exact⟨Ext.refl _ _,hr2,by simp[Rep]⟩,fun hl=>by
  show x.cps.size<=i
  simpa[aV]using hl⟩
theorem EE (h:PEd X iter te):PId X tg iter (jR te):=by
 intro pins s σ H R I hh
 obtain⟨Δ,M,R',sr,hr,q,k⟩:=hh
 refine thn (h pins s σ H (fun v H1=>∃ d ds M1,g9 d=some ds/\(ds.length<=sizeLine->R' ds M1)/\Ext M H M1 H1/\HR X.K M1 H1/\Rep X.K M1 H1 d v) I ⟨Δ,M,_,sr,hr,q,fun d M1 v H1 ⟨ds,ed,q1⟩ e1 hr1 rv=>⟨d,ds,M1,ed,q1,e1,hr1,rv⟩⟩) fun u s1 ⟨v,H1,I1,r1,d,ds,M1,ed,q1,e1,hr1,rv⟩=>?_
 have lo:=au.len (K:=X.K) I1 rv
 cases d with
 |tup es =>
  cases ed
  simp only[Rep]at rv
  obtain⟨a,vs,rfl,ta,rl⟩:=rv
  cases r1
  obtain⟨its,rvv,p,hz⟩:=I1.tuple ta.sq
  refine wpAny_pyIter_tuple (show s1.heap.IsTuple a its.toArray from p) ?_
  refine⟨s1.heap.objs.size,[s1.heap.objs.size],_,_,H1,rfl,I1.kept (t':=s1.toks) fun b o e=>Heap.get?_push_of_some _ e,qL a _,⟨_,Heap.get?_push_size _ rfl,rfl,rfl⟩,oX (o:=default) I1,?_⟩
  refine k _ M1 _ H1 (q1 lo) e1 hr1 fun M2 H2 e2 hr2 i=>⟨fun d hd=>?_,fun hl=>⟨vs,(ta.ext e2).sq,by rw[<-rl.length];exact hl⟩⟩
  obtain⟨v,gv,r⟩:=rl.get hd
  refine⟨⟨vs,v,(ta.ext e2).sq,gv⟩,fun x H' ⟨eH,y⟩=>?_⟩
  subst eH
  have:=y vs (ta.ext e2).sq
  rw[gv]at this;cases this
  exact⟨Ext.refl _ _,hr2,r.ext e2⟩
 |lst es =>
  cases ed
  simp only[Rep]at rv
  obtain⟨a,vs,rfl,ta,rl⟩:=rv
  cases r1
  obtain⟨its,rvv,p,hz⟩:=I1.list (SqL.of ta.1)
  refine wpAny_pyIter_list p.isList ?_
  refine⟨s1.heap.objs.size,[s1.heap.objs.size],_,_,H1,rfl,I1.kept (t':=s1.toks) fun b o e=>Heap.get?_push_of_some _ e,mN a _,⟨_,Heap.get?_push_size _ rfl,rfl,rfl⟩,oX (o:=default) I1,?_⟩
  refine k _ M1 _ H1 (q1 lo) e1 hr1 fun M2 H2 e2 hr2 i=>⟨fun d hd=>?_,fun hl=>⟨vs,SqL.of (ta.ext e2).1,by rw[<-rl.length];exact hl⟩⟩
  obtain⟨v,gv,r⟩:=rl.get hd
  refine⟨⟨vs,v,SqL.of (ta.ext e2).1,gv⟩,fun x H' ⟨eH,y⟩=>?_⟩
  subst eH
  have:=y vs (SqL.of (ta.ext e2).1)
  rw[gv]at this;cases this
  exact⟨Ext.refl _ _,hr2,r.ext e2⟩
 |scr es =>
  cases ed
  simp only[Rep]at rv
  obtain⟨a,vs,rfl,ta,rl⟩:=rv
  cases r1
  obtain⟨its,rvv,p,hz⟩:=I1.list ta.sq
  refine wpAny_pyIter_list p.isList ?_
  refine⟨s1.heap.objs.size,[s1.heap.objs.size],_,_,H1,rfl,I1.kept (t':=s1.toks) fun b o e=>Heap.get?_push_of_some _ e,mN a _,⟨_,Heap.get?_push_size _ rfl,rfl,rfl⟩,oX (o:=default) I1,?_⟩
  refine k _ M1 _ H1 (q1 lo) e1 hr1 fun M2 H2 e2 hr2 i=>⟨fun d hd=>?_,fun hl=>⟨vs,(ta.ext e2).sq,by rw[<-rl.length];exact hl⟩⟩
  obtain⟨v,gv,r⟩:=rl.get hd
  refine⟨⟨vs,v,(ta.ext e2).sq,gv⟩,fun x H' ⟨eH,y⟩=>?_⟩
  subst eH
  have:=y vs (ta.ext e2).sq
  rw[gv]at this;cases this
  exact⟨Ext.refl _ _,hr2,r.ext e2⟩
 |str x =>
  simp only[g9]at ed
  by_cases hz:x.length<=sizeLine
  ·rw[if_pos hz]at ed;cases ed
   simp only[Rep]at rv
   subst rv
   obtain⟨t,rfl⟩:=r1
   have hq:=k _ M1 _ H1 (q1 (by have hz2:x.cps.size<=sizeLine:=hz;simpa[aV]using hz2)) e1 hr1 BW
   cases ha:x.cps.all (·<128)
   ·exact wpAny_pyIter_wide ha (tz I1 "str_iterator" (by decide) (fun A hA=>Walks.strWide hA _ x t) (fun A i s' Q E st q=>wpAny_pyIter_striter_wide st q) hq)
   ·exact wpAny_pyIter_ascii ha (tz I1 "str_ascii_iterator" (by decide) (fun A hA=>Walks.strAscii hA _ x t) (fun A i s' Q E st q=>wpAny_pyIter_striter_ascii st q) hq)
  ·rw[if_neg hz]at ed;cases ed
 |_=>cases ed
end
section
variable {M:DH}
theorem yb {i:Int}:rdM M (.int i)=.int i:=rfl
theorem BV {i:Bool}:rdM M (.bl i)=.bl i:=rfl
theorem ze {i:Str}:rdM M (.str i)=.str i:=rfl
theorem zV:rdM M .non=.non:=rfl
theorem zy {i:List D}:rdM M (.tup i)=.tup i:=rfl
theorem yJ {i:List D}:rdM M (.lst i)=.lst i:=rfl
theorem zw {i:List D}:rdM M (.scr i)=.scr i:=rfl
theorem gz {a:Addr} {ds:List D} (h:M a=some (.lst ds)):rdM M (.ref a)=.lst ds:=by simp[rdM,h]
theorem zm {a:Addr} {ds:List D}:rdM (al M a (.lst ds)) (.ref a)=.lst ds:=gz ag
theorem Bi {f:Int->Int->Option D} {a b:Int}:iOp f (.int a) (.int b)=f a b:=rfl
theorem yj {a b:Int}:gI (.int a) (.int b)=some (.int (a+b)):=rfl
theorem zb {a b:Str}:gI (.str a) (.str b)=if a.length+b.length<=sizeLine then some (.str (a++b))else none:=rfl
theorem xW {a b:List D}:gI (.lst a) (.lst b)=if a.length+b.length<=sizeLine then some (.lst (a++b))else none:=rfl
theorem dX {a b:List D}:gI (.tup a) (.tup b)=if a.length+b.length<=sizeLine then some (.tup (a++b))else none:=rfl
theorem E8 {a:List D} {b:Int}:ixD (.lst a) (.int b)=atI a b:=rfl
theorem Fa {a:List D} {b:Int}:ixD (.scr a) (.int b)=atI a b:=rfl
theorem Dj {a:List D} {b:Int}:ixD (.tup a) (.int b)=atI a b:=rfl
theorem EB {z:Str} {i:Int}:ixD (.str z) (.int i)=if z.length<=sizeLine then(atI z.cps.toList i).map fun c=>.str ⟨#[c]⟩else none:=rfl
theorem Ae {α:Type} {x:α} {xs:List α}:atI (x::xs) 0=some x:=bX (j:=0) rfl
theorem Ds {α:Type} {x y:α} {xs:List α}:atI (x::y::xs) 1=some y:=bX (j:=1) rfl
theorem Eb {α:Type} {x y z:α} {xs:List α}:atI (x::y::z::xs) 2=some z:=bX (j:=2) rfl
theorem vS {f:D->Option D} {d:D}:iE f [d]=f d:=rfl
theorem AL {a:List D}:j3 (.lst a)=some (.int a.length):=rfl
theorem BR {a:List D}:j3 (.tup a)=some (.int a.length):=rfl
theorem Co {a:List D}:j3 (.scr a)=some (.int a.length):=rfl
theorem B4 {x:Str}:j3 (.str x)=if x.length<=sizeLine then some (.int x.length)else none:=rfl
theorem Bz {i:Int}:Eo (.int i)=some (.int (if i<0 then -i else i)):=rfl
theorem Bf {a:List D}:yc (.lst a)=some (.tup a):=rfl
theorem C8 {a:List D}:yc (.tup a)=some (.tup a):=rfl
theorem E3 {b:Bool} {x:D} {ds:List D}:inD b x (.lst ds)=if aU x=true/\ds.all aU=true then some (.bl (xor b (ds.any fun d=>eqD d x)))else none:=rfl
theorem E2 {b:Bool} {x:D} {ds:List D}:inD b x (.tup ds)=if aU x=true/\ds.all aU=true then some (.bl (xor b (ds.any fun d=>eqD d x)))else none:=rfl
theorem BC {a b:Int}:eqF (.int a) (.int b)=some (.bl (a==b)):=by simp[eqF,dLe,eqD]
theorem C1 {a b:Str}:eqF (.str a) (.str b)=some (.bl (a==b)):=by simp[eqF,dLe,eqD]
theorem Db {a b:Bool}:eqF (.bl a) (.bl b)=some (.bl (a==b)):=by simp[eqF,dLe,eqD]
theorem Dq {ds:List D} {lo hi:Option Int}:slD (.scr ds) lo hi=some (.lst (cF ds lo hi)):=rfl
theorem EJ {ds:List D} {lo hi:Option Int}:slD (.lst ds) lo hi=some (.lst (cF ds lo hi)):=rfl
theorem Ep {x:Str} {lo hi:Option Int}:slD (.str x) lo hi=if x.length<=sizeLine then some (.str (Txt.slice x lo hi))else none:=rfl
theorem wI {a:List D}:g9 (.lst a)=some a:=rfl
theorem vF {a:List D}:g9 (.tup a)=some a:=rfl
theorem wt {a:List D}:g9 (.scr a)=some a:=rfl
theorem vX {x:Str}:g9 (.str x)=if x.length<=sizeLine then some (aV x)else none:=rfl
theorem Ee {n:Nat}:ixN (n+1) 0=some 0:=by simp[ixN]<;>omega
theorem DT {n:Nat}:ixN (n+2) 1=some 1:=by simp[ixN]<;>omega
theorem DR {n:Nat}:ixN (n+3) 2=some 2:=by simp[ixN]<;>omega
theorem sz3 (n:Nat) (h:n<=1000:=by decide):n<=sizeLine:=Nat.le_trans h (by decide)
theorem Bn {b:Bool}:zp "bool" (.bl b)=some true:=rfl
end
end L2
namespace L2
theorem EY {i j:Int} (h:-18446744073709551616<j/\j<18446744073709551616):jA i j=True:=by unfold jA;simp;right;omega
theorem Av {i j:Int} (h:-18446744073709551616<i/\i<18446744073709551616):jA i j=True:=by unfold jA;simp;left;omega
theorem wa:qB 10 18=True:=by simp[qB]
theorem Dk {i j:Int} (h:0<j/\j<1073741824):oz i j=True:=by unfold oz;simp[h]
end L2
namespace L2
open PySem PySem.Spec PyProof.Rows
theorem dm {g:GD} {tc:TTd} {te:TEd} {M:DH} {Q:List D->DH->Prop} (b:D->Bool) (y:D->D) (Ok:DE->Prop):∀ (ds:List D) (Δ:DE) (acc:List D),
  (∀ d∈ds,∀ Δ,Ok Δ->∃ Δ',g d Δ=some Δ'/\Ok Δ'/\(∀ Q1:Bool->DH->Prop,Q1 (b d) M->tc Δ' M Q1)/\(b d=true->∀ Q2:D->DH->Prop,Q2 (y d) M->te Δ' M Q2))->Ok Δ ->
  Q (acc++(ds.filter b).map y) M->cR g tc te ds Δ M acc Q
 |[],Δ,acc,_,_,q=>by simpa[cR]using q
 |d::ds,Δ,acc,h,hΔ,q=>by
  simp only[cR]
  obtain⟨Δ',eg,ok,h1,h2⟩:=h d List.mem_cons_self Δ hΔ
  refine⟨Δ',eg,h1 _ ?_⟩
  have hr:∀ d∈ds,∀ Δ,Ok Δ->∃ Δ',g d Δ=some Δ'/\Ok Δ'/\(∀ Q1:Bool->DH->Prop,Q1 (b d) M->tc Δ' M Q1)/\(b d=true->∀ Q2:D->DH->Prop,Q2 (y d) M->te Δ' M Q2):=fun x hx=>h x (List.mem_cons_of_mem _ hx)
  cases hb:b d with
  |true =>
   simp only[if_true]
   refine h2 hb _ (dm b y Ok ds Δ' (acc++[y d]) hr ok ?_)
   simpa[List.filter_cons,hb]using q
  |false =>
   simp only[Bool.false_eq_true,if_false]
   refine dm b y Ok ds Δ' acc hr ok ?_
   simpa[List.filter_cons,hb]using q
theorem zk {a b:Str}:eqD (.str a) (.str b)=(a==b):=by simp[eqD]
theorem dM {x:Str}:∀ {ws:List Str},(ws.map D.str).any (fun d=>eqD d (.str x))=decide (x∈ws)
 |[]=>by simp
 |w::ws=>by
  rw[List.map_cons,List.any_cons,dM (ws:=ws),zk]
  by_cases h:w=x
  ·subst h;simp
  ·have h2:(w==x)=false:=by simpa using h
   have h3:¬ x=w:=fun e=>h e.symm
   simp[h2,h3]
theorem eV {ws:List Str}:(ws.map D.str).all aU=true:=by
 induction ws with
 |nil=>rfl
 |cons w ws ih=>rw[List.map_cons,List.all_cons,ih];rfl
theorem kH:∀ {ws:List Str},fB (ws.map D.str)=some ws
 |[]=>rfl
 |w::ws=>by rw[List.map_cons];simp only[fB];rw[kH];rfl
section
variable {X:Cx} {e:Expr} {te:TEd} {pos:Pos}
def v6 (te:TEd):TSd:=fun E Δ M=>te Δ M fun d M1=>∃ M2,LeM M2 M1/\E.rt d M2
theorem Bp (he:PEd X e te):PSd X (.Return (some e) pos) (v6 te):=(q0 he).conv fun D σ H ⟨Δ,M,E,sr,hr,q,k⟩=>⟨Δ,M,_,sr,hr,q,fun d M1 v H1 ⟨M2,hle,q1⟩ e1 hr1 rv =>
 k.rt _ _ _ H1 q1 (e1.trans (Ext.le hle)) (hr1.le hle) (rv.ext (Ext.le hle))⟩
theorem oj {M:DH} {q:Addr} {o:HD} (h:M q=none):LeM M (al M q o):=fun a u e=>by
 by_cases ha:a=q
 ·subst ha;rw[h]at e;cases e
 ·rw[ao ha];exact e
end
end L2
namespace L2
open PySem PySem.Spec PyProof.Rows PySem.Builtin.Str
/-! ### texts as lists of aV -/
def tx (cs:List Nat):Str:=⟨cs.toArray⟩
theorem A4 {a b:List Nat}:tx a=tx b↔a=b:=by
 unfold tx
 constructor
 ·intro h;injection h with h;simpa using congrArg Array.toList h
 ·intro h;rw[h]
theorem dZ (cs:List Nat):(tx cs).cps.toList=cs:=by simp[tx]
theorem fk (cs:List Nat):(tx cs).length=cs.length:=by show(tx cs).cps.size=_;simp[tx]
theorem qR (a b:List Nat):tx a++tx b=tx (a++b):=by
 show Str.mk (a.toArray++b.toArray)=_
 simp[tx]
theorem E4:(Str.ofString "":Str)=tx []:=by decide +kernel
theorem o4:∀ cs:List Nat,Txt.join (tx []) (cs.map fun c=>tx [c])=tx cs:=by
 intro cs
 unfold Txt.join
 rw[StrLaws.glued_eq_join]
 induction cs with
 |nil=>rfl
 |cons c cs ih =>
  cases cs with
  |nil=>rfl
  |cons d cs =>
   rw[List.map_cons]at ih ⊢
   rw[List.map_cons]
   show tx [c]++tx []++Str.join (tx []) (tx [d]::cs.map fun c=>tx [c])=_
   rw[ih,qR,qR]
   rfl
theorem u0 {x:Array Nat}:∀ k,k<=x.size->(List.range k).filterMap (x[·]?)=x.toList.take k:=by
 intro k
 induction k with
 |zero=>intro _;simp
 |succ k ih =>
  intro h
  rw[List.range_succ,List.filterMap_append,ih (by omega)]
  have hk:x[k]?=some x[k]:=by simp[show k<x.size by omega]
  rw[List.take_add_one]
  simp[hk,show k<x.size by omega]
theorem qW (cs:List Nat) (k:Nat):Txt.slice (tx cs) none (some (k:Int))=tx (cs.take k):=by
 have hi:strSliceIndices none (some (k:Int)) 1 (tx cs).length=List.range (min k cs.length):=by
  unfold strSliceIndices sliceRange
  rw[fk]
  have h1:(max 0 (min (if(k:Int)<0 then(k:Int)+(cs.length:Int)else(k:Int)) (cs.length:Int)))=((min k cs.length:Nat):Int):=by
   rw[if_neg (by omega)];omega
  simp only[show(1:Int) > 0 by decide,if_true]
  rw[h1]
  have h2:(if(0:Int)<((min k cs.length:Nat):Int)then(((min k cs.length:Nat):Int)-0+1-1) / 1 else 0).toNat=min k cs.length:=by
   split<;>omega
  rw[h2]
  apply List.ext_getElem?
  intro j
  rw[List.getElem?_map]
  by_cases hj:j<min k cs.length
  ·rw[List.getElem?_range hj];simp
  ·rw[List.getElem?_eq_none (by simp;omega)]
   rfl
 unfold Txt.slice
 rw[hi]
 by_cases hl:(((1:Int)==1&&(List.range (min k cs.length)).length==(tx cs).length))=true
 ·rw[if_pos hl]
  have:cs.length<=k:=by
   simp[fk]at hl
   omega
  rw[List.take_of_length_le this]
 ·rw[if_neg hl]
  have e:(List.range (min k cs.length)).filterMap ((tx cs).cps[·]?)=cs.take k:=by
   rw[u0 _ (by simp[tx];omega),dZ]
   rw[List.take_eq_take_iff]
   omega
  rw[e]
  rfl
theorem di {α:Type} [DecidableEq α]:∀ (V K:List α),V.Nodup->(∀ x∈V,x∈K)->V.length<=K.length
 |[],_,_,_=>Nat.zero_le _
 |x::V,K,hn,h=>by
  have hx:=h x List.mem_cons_self
  obtain⟨h1,h2⟩:=List.nodup_cons.mp hn
  have:=di V (K.erase x) h2 fun y hy=>(List.mem_erase_of_ne (by rintro rfl;exact h1 hy)).mpr (h y (List.mem_cons_of_mem _ hy))
  rw[List.length_erase_of_mem hx]at this
  have hp:0<K.length:=List.length_pos_of_mem hx
  simp only[List.length_cons]
  omega
def lP (c:Nat):Prop:=97<=c/\c<=122
def du (w:Str):Prop:=1<=w.cps.toList.length/\w.cps.toList.length<=8/\∀ c∈w.cps.toList,lP c
abbrev abc:Str:=Str.ofString "abcdefghijklmnopqrstuvwxyz"
def eC:List Nat:=List.range' 97 26
theorem mh:abc=tx eC:=by decide +kernel
theorem C5 {v:Int} (h0:0<=v) (h1:v<26):∃ c,lP c/\ixD (.str abc) (.int v)=some (.str (tx [c])):=by
 obtain⟨n,rfl⟩:=Int.eq_ofNat_of_zero_le h0
 have hn:n<26:=by omega
 refine⟨97+n,⟨by omega,by omega⟩,?_⟩
 have hl:abc.length<=sizeLine:=by rw[mh,fk];exact sz3 _
 have ha:atI abc.cps.toList (n:Int)=some (97+n):=by
  rw[mh,dZ]
  exact bX (by unfold eC;rw[List.getElem?_range' hn];simp)
 rw[EB,if_pos hl,ha]
 rfl
theorem m8:aV abc=eC.map fun c=>D.str (tx [c]):=by
 unfold aV
 rw[mh,dZ]
 rfl
theorem wZ {w:Str} {known:List Str} (hk:known.length<=25):∃ c∈eC,tx (w.cps.toList.take 7++[c])∉known:=by
 refine Classical.byContradiction fun h=>?_
 have h':∀ c∈eC,tx (w.cps.toList.take 7++[c])∈known:=fun c hc=>Classical.byContradiction fun hn=>h ⟨c,hc,hn⟩
 have hn:(eC.map fun c=>tx (w.cps.toList.take 7++[c])).Nodup:=by
  rw[List.nodup_iff_pairwise_ne,List.pairwise_map]
  have:eC.Nodup:=by decide
  exact List.Pairwise.imp (fun {a b} hab e=>hab (by rw[A4]at e;simpa using e)) this
 have:=di _ known hn (fun x hx=>by
  obtain⟨c,hc,rfl⟩:=List.mem_map.mp hx
  exact h' c hc)
 simp[eC]at this
 omega
theorem qJ {w:Str} {c:Nat} (hw:du w) (hc:lP c):du (tx (w.cps.toList.take 7++[c])):=by
 obtain⟨h1,h2,h3⟩:=hw
 unfold du
 rw[dZ]
 refine⟨by simp,by simp;omega,fun x hx=>?_⟩
 rcases List.mem_append.mp hx with h|h
 ·exact h3 x (List.mem_of_mem_take h)
 ·have:x=c:=by simpa using h
  subst this;exact hc
theorem wx {c:Nat} (h:c∈eC):lP c:=by
 unfold eC at h
 rw[List.mem_range'_1]at h
 exact⟨by omega,by omega⟩
end L2
namespace L2
open PySem PySem.Spec PyProof.Rows
theorem mZ {g:GD} {tb:TSd} {E:fJ} {all:List D} (I:Nat->DE->DH->Prop)
  (step:∀ (i:Nat) (d:D) (Δ:DE) (M:DH) (X:DE->DH->Prop),all[i]?=some d->I i Δ M->(∀ Δ' M',I (i+1) Δ' M'->X Δ' M')->∃ Δ',g d Δ=some Δ'/\tb { E with nx:=X,ct:=X,bk:=E.nx } Δ' M)
  (fin:∀ Δ M,I all.length Δ M->E.nx Δ M):∀ (ds:List D) (i:Nat) (Δ:DE) (M:DH),all.drop i=ds->i<=all.length->I i Δ M->bB g tb E ds Δ M
 |[],i,Δ,M,e,hi,h=>by
  have:i=all.length:=by
   have:=congrArg List.length e
   simp at this;omega
  subst this
  simpa only[bB]using fin Δ M h
 |d::ds,i,Δ,M,e,hi,h=>by
  have hlt:i<all.length:=by
   have:=congrArg List.length e
   simp at this;omega
  have hd:all[i]?=some d:=by
   have:=congrArg List.head? e
   simpa using this
  have hn:all.drop (i+1)=ds:=by
   rw[<-List.tail_drop,e];rfl
  simp only[bB]
  exact step i d Δ M _ hd h fun Δ' M' h'=>mZ I step fin ds (i+1) Δ' M' hn hlt h'
theorem aD {g:GD} {tb:TSd} {E:fJ} {ds:List D} {Δ:DE} {M:DH} (I:Nat->DE->DH->Prop) (h0:I 0 Δ M)
  (step:∀ (i:Nat) (d:D) (Δ:DE) (M:DH) (X:DE->DH->Prop),ds[i]?=some d->I i Δ M->(∀ Δ' M',I (i+1) Δ' M'->X Δ' M')->∃ Δ',g d Δ=some Δ'/\tb { E with nx:=X,ct:=X,bk:=E.nx } Δ' M)
  (fin:∀ Δ M,I ds.length Δ M->E.nx Δ M):bB g tb E ds Δ M:=mZ I step fin ds 0 Δ M rfl (Nat.zero_le _) h0
theorem szB (n:Nat) (h:n<=16000000:=by decide):n<=sizeLine:=Nat.le_trans h (by decide)
theorem dh {α:Type} {f:α->D} {xs:List α} {i:Nat} {d:D} (h:(xs.map f)[i]?=some d):∃ x,xs[i]?=some x/\d=f x:=by
 rw[List.getElem?_map]at h
 cases e:xs[i]? with
 |none=>rw[e]at h;cases h
 |some x=>rw[e]at h;cases h;exact⟨x,rfl,rfl⟩
theorem pE {K:PySem.W.Frag} {M:DH} {H:Hp}:∀ ns:List Int,af K M H (ns.map D.int) (ns.map V.int)
 |[]=>af.nil
 |n::ns=>af.cons (by simp[Rep]) (pE ns)
theorem uY {K:PySem.W.Frag} {H:Hp} {a:Addr} {ns:List Int} (hO:zl H) (hS:SqL K H a (ns.map V.int)):af K noM H [.scr (ns.map D.int)] [.ref a]:=by
 refine af.cons ?_ af.nil
 simp only[Rep]
 refine⟨a,ns.map V.int,rfl,?_,pE ns⟩
 rcases hS with h|h
 ·left
  rcases h with h|h
  ·rcases hO a with z|⟨o,xs,z⟩<;>(rw[h]at z;cases z)
  ·exact⟨h,rfl⟩
 ·right
  exact .inr h
def D6 (S:SpD):Prop:=∀ (ns:List Int) (R:D->DH->Prop),ns.length<=63->(∀ M',R (.bl true) M')->S [.scr (ns.map .int)] noM R
theorem Dv {S:SpD} (hS:D6 S) {k:Nat} {x:Str} {l:PySem.W.OpenLaw} {q:Program} {loose:List Str} {XP:(Str->Option Value)->Heap->Prop} {YP:World->Heap->Prop} {d:DefRec} {K:Params->PySem.W.Frag} (hr:bP k callerA) (hn:l.most=some 63) (hdf:d.params.defaults=[])
  (hY:∀ (w:World) (h:Heap),YP w h->(K w.params).In h)
  (F:∀ (w:World) (mg:Str → Option Value) (fa:Addr) (h:Heap),(K w.params).In h → h.Ns mainGlobals mg → mg d.name = some (.ref fa) →
   ∃ fd:FuncData,(∀ (s:Shared) (u:Value),BindsTo s fd ⟨[u],[]⟩ [(x,u)])/\∀ base:Heap,(K w.params).In base->base.Ns mainGlobals mg->aK l.prog w (K w.params) mg base CX0 k fa fd [x] (spD (K w.params) 1 S)) :
  PySem.W.WalkO q loose XP YP l.row.toRowW d [] (fun f vs=>PySem.call f vs) :=
 L2.sE (n:=63) (k:=k) (x:=x) (CX:=fun _=>CX0) (sp:=fun w=>spD (K w.params) 1 S) hn (by decide) hdf hr hY F
  (fun w H a ns hl hO hq=>⟨[.scr (ns.map .int)],noM,fun d _=>d=.bl true,rfl,uY hO hq,HR.nil,hS ns _ hl (fun _=>rfl),fun d M' v H' e _ _ rv=>by subst e;simpa only[Rep]using rv⟩) fun _ _ _ _ _ z=>z
/-! ### reversed(tuple) -/
section
variable {prog:Program} {w:World} {A:Around} {E:Value->Shared->Prop} {s:Shared}
def qP (h:Heap) (a l:Addr) (i:Int):Prop:=∃ o,h.get? a=some o/\o.cls=.type "reversed"/\o.data=.fields #[.ref l,rawInt i]
theorem qP.at {h h':Heap} {a l:Addr} {i:Int} (x:qP h a l i) (e:∀ o,h.get? a=some o->h'.get? a=some o):qP h' a l i:=let⟨o,ho,r⟩:=x;⟨o,e _ ho,r⟩
end
section
variable {X:Cx} {a b c e:Expr} {es:List Expr} {te ta tb:TEd} {t:TAd} {pos:Pos} {tg iter:Expr}
theorem mw:bootBuiltins "reversed"=some (.type "reversed"):=by kernel_rfl
end
section
variable {X:Cx}
open PySem.SeqAt in
theorem CO {pins:List (Addr×Obj)} {σ:St} {H:Hp} {s:Shared} (I:Inv X pins σ H s) {M M':DH} (n:Nat) {A:Around} {d e:D} {v w:V} {u1 u2:Value} (hu:A.units+(n+1)<cLine) (hd:dLe d (n+1)=true) (he:dLe e (n+1)=true)
  (r1:au X.K M H d v) (r2:au X.K M' H e w) (q1:ap v u1) (q2:ap w u2):RcNeAt A s u1 u2 (!(eqD d e)):=by
 have hu0:A.units<cLine:=by omega
 have hu1:A.in1.units+n<cLine:=by show A.units+1+n<cLine;omega
 have item:∀ {ds es:List D} {vs ws:List V} {us us2:List Value},bq ds n=true->bq es n=true->af X.K M H ds vs->af X.K M' H es ws->aq vs us->aq ws us2 ->
   ∀ j (h1:j<us.toArray.size) (h2:j<us2.toArray.size),EqAt A.in1 s us.toArray[j] us2.toArray[j] (eqN ds es j):=by
  intro ds es vs ws us us2 d1 d2 h1 h2 h3 h4 j hj1 hj2
  have l1:=h1.length
  have l2:=h2.length
  have l3:=h3.length
  have l4:=h4.length
  have j1:j<ds.length:=by simp at hj1;omega
  have j2:j<es.length:=by simp at hj2;omega
  obtain⟨v1,g1,p1⟩:=h1.get (i:=j) (d:=ds[j]) (by simp[j1])
  obtain⟨v2,g2,p2⟩:=h2.get (i:=j) (d:=es[j]) (by simp[j2])
  obtain⟨u1,k1,m1⟩:=h3.get g1
  obtain⟨u2,k2,m2⟩:=h4.get g2
  have e1:us.toArray[j]=u1:=by
   simp at hj1
   simpa[List.getElem?_eq_getElem hj1]using k1
  have e2:us2.toArray[j]=u2:=by
   simp at hj2
   simpa[List.getElem?_eq_getElem hj2]using k2
  rw[e1,e2]
  have e3:eqN ds es j=eqD ds[j] es[j]:=by simp[eqN,j1,j2]
  rw[e3]
  exact(lh I n hu1 (cQ d1 (i:=j) (by simp[j1])) (cQ d2 (i:=j) (by simp[j2])) p1.r p2.r m1 m2).1
 cases d with
 |tup ds =>
  obtain⟨a,vs,rfl,sq,rl⟩:=id r1
  cases q1
  obtain⟨its,rv,pt,_⟩:=I.tuple sq
  have hd':bq ds n=true:=by simpa[dLe]using hd
  cases e with
  |tup es =>
   obtain⟨b,ws,rfl,sq',rl'⟩:=id r2
   cases q2
   obtain⟨its2,rv2,pt2,_⟩:=I.tuple sq'
   have he':bq es n=true:=by simpa[dLe]using he
   have:=RcNeAt.tuples (e:=eqN ds es) pt pt2 hu0 (item hd' he' rl rl' rv rv2)
   rw[List.size_toArray,List.size_toArray,<-rv.length,<-rv2.length,<-rl.length,<-rl'.length,<-iQ]at this
   simpa only[eqD]using this
  |lst es =>
   obtain⟨b,ws,rfl,sq',rl'⟩:=id r2
   cases q2
   obtain⟨its2,rv2,pt2,_⟩:=I.list (SqL.of sq')
   simp only[eqD,Bool.not_false]
   exact RcNeAt.tuple_list pt pt2.isList hu0
  |non=>simp only[au,Rep]at r2;subst r2;simp only[ap]at q2;subst q2;simp only[eqD,Bool.not_false];exact RcNeAt.tuple_none pt hu0
  |bl b=>simp only[au,Rep]at r2;subst r2;simp only[ap]at q2;subst q2;simp only[eqD,Bool.not_false];exact RcNeAt.tuple_bool _ pt hu0
  |int b=>simp only[au,Rep]at r2;subst r2;simp only[ap]at q2;obtain⟨t,rfl⟩:=q2;simp only[eqD,Bool.not_false];exact RcNeAt.tuple_int _ _ pt hu0
  |str b=>simp only[au,Rep]at r2;subst r2;simp only[ap]at q2;obtain⟨t,rfl⟩:=q2;simp only[eqD,Bool.not_false];exact RcNeAt.tuple_str _ _ pt hu0
  |_=>simp[dLe]at he
 |lst ds =>
  obtain⟨a,vs,rfl,sq,rl⟩:=id r1
  cases q1
  obtain⟨its,rv,pt,_⟩:=I.list (SqL.of sq)
  have hd':bq ds n=true:=by simpa[dLe]using hd
  cases e with
  |lst es =>
   obtain⟨b,ws,rfl,sq',rl'⟩:=id r2
   cases q2
   obtain⟨its2,rv2,pt2,_⟩:=I.list (SqL.of sq')
   have he':bq es n=true:=by simpa[dLe]using he
   by_cases hl:ds.length=es.length
   ·have hsz:its.toArray.size=its2.toArray.size:=by rw[List.size_toArray,List.size_toArray,<-rv.length,<-rv2.length,<-rl.length,<-rl'.length];exact hl
    have:=RcNeAt.lists (e:=eqN ds es) pt.isList pt2.isList hsz hu0 (item hd' he' rl rl' rv rv2)
    rw[List.size_toArray,<-rv.length,<-rl.length,<-nh hl]at this
    simpa only[eqD]using this
   ·have hsz:(its.toArray.size != its2.toArray.size)=true:=by rw[List.size_toArray,List.size_toArray,<-rv.length,<-rv2.length,<-rl.length,<-rl'.length];simpa using hl
    have:=RcNeAt.lists_lengths pt.isList pt2.isList hsz hu0
    have e0:eqD (.lst ds) (.lst es)=false:=by
     simp only[eqD]
     cases q:dH ds es with
     |false=>rfl
     |true=>exact absurd (lV q) hl
    rw[e0];exact this
  |tup es =>
   obtain⟨b,ws,rfl,sq',rl'⟩:=id r2
   cases q2
   obtain⟨its2,rv2,pt2,_⟩:=I.tuple sq'
   simp only[eqD,Bool.not_false]
   exact RcNeAt.list_tuple pt.isList pt2 hu0
  |non=>simp only[au,Rep]at r2;subst r2;simp only[ap]at q2;subst q2;simp only[eqD,Bool.not_false];exact RcNeAt.list_none pt.isList hu0
  |bl b=>simp only[au,Rep]at r2;subst r2;simp only[ap]at q2;subst q2;simp only[eqD,Bool.not_false];exact RcNeAt.list_bool _ pt.isList hu0
  |int b=>simp only[au,Rep]at r2;subst r2;simp only[ap]at q2;obtain⟨t,rfl⟩:=q2;simp only[eqD,Bool.not_false];exact RcNeAt.list_int _ _ pt.isList hu0
  |str b=>simp only[au,Rep]at r2;subst r2;simp only[ap]at q2;obtain⟨t,rfl⟩:=q2;simp only[eqD,Bool.not_false];exact RcNeAt.list_str _ _ pt.isList hu0
  |_=>simp[dLe]at he
 |non =>
  simp only[au,Rep]at r1;subst r1;simp only[ap]at q1;subst q1
  cases e with
  |tup es=>obtain⟨b,ws,rfl,sq',rl'⟩:=id r2;cases q2;obtain⟨its2,rv2,pt2,_⟩:=I.tuple sq';simp only[eqD,Bool.not_false];exact RcNeAt.none_tuple pt2 hu0
  |lst es=>obtain⟨b,ws,rfl,sq',rl'⟩:=id r2;cases q2;obtain⟨its2,rv2,pt2,_⟩:=I.list (SqL.of sq');simp only[eqD,Bool.not_false];exact RcNeAt.none_list pt2.isList hu0
  |non=>simp only[au,Rep]at r2;subst r2;simp only[ap]at q2;subst q2;simp only[eqD,Bool.not_true];exact RcNeAt.none_none
  |bl b=>simp only[au,Rep]at r2;subst r2;simp only[ap]at q2;subst q2;simp only[eqD,Bool.not_false];exact RcNeAt.none_bool _
  |int b=>simp only[au,Rep]at r2;subst r2;simp only[ap]at q2;obtain⟨t,rfl⟩:=q2;simp only[eqD,Bool.not_false];exact RcNeAt.none_int _ _
  |str b=>simp only[au,Rep]at r2;subst r2;simp only[ap]at q2;obtain⟨t,rfl⟩:=q2;simp only[eqD,Bool.not_false];exact RcNeAt.none_str _ _
  |_=>simp[dLe]at he
 |bl a =>
  simp only[au,Rep]at r1;subst r1;simp only[ap]at q1;subst q1
  cases e with
  |tup es=>obtain⟨b,ws,rfl,sq',rl'⟩:=id r2;cases q2;obtain⟨its2,rv2,pt2,_⟩:=I.tuple sq';simp only[eqD,Bool.not_false];exact RcNeAt.bool_tuple _ pt2 hu0
  |lst es=>obtain⟨b,ws,rfl,sq',rl'⟩:=id r2;cases q2;obtain⟨its2,rv2,pt2,_⟩:=I.list (SqL.of sq');simp only[eqD,Bool.not_false];exact RcNeAt.bool_list _ pt2.isList hu0
  |non=>simp only[au,Rep]at r2;subst r2;simp only[ap]at q2;subst q2;simp only[eqD,Bool.not_false];exact RcNeAt.bool_none _
  |bl b=>simp only[au,Rep]at r2;subst r2;simp only[ap]at q2;subst q2;simp only[eqD];exact RcNeAt.bool_bool _ _
  |int b=>simp only[au,Rep]at r2;subst r2;simp only[ap]at q2;obtain⟨t,rfl⟩:=q2;simp only[eqD];exact RcNeAt.bool_int _ _ _
  |str b=>simp only[au,Rep]at r2;subst r2;simp only[ap]at q2;obtain⟨t,rfl⟩:=q2;simp only[eqD,Bool.not_false];exact RcNeAt.bool_str _ _ _
  |_=>simp[dLe]at he
 |int a =>
  simp only[au,Rep]at r1;subst r1;simp only[ap]at q1;obtain⟨t1,rfl⟩:=q1
  cases e with
  |tup es=>obtain⟨b,ws,rfl,sq',rl'⟩:=id r2;cases q2;obtain⟨its2,rv2,pt2,_⟩:=I.tuple sq';simp only[eqD,Bool.not_false];exact RcNeAt.int_tuple _ _ pt2 hu0
  |lst es=>obtain⟨b,ws,rfl,sq',rl'⟩:=id r2;cases q2;obtain⟨its2,rv2,pt2,_⟩:=I.list (SqL.of sq');simp only[eqD,Bool.not_false];exact RcNeAt.int_list _ _ pt2.isList hu0
  |non=>simp only[au,Rep]at r2;subst r2;simp only[ap]at q2;subst q2;simp only[eqD,Bool.not_false];exact RcNeAt.int_none _ _
  |bl b=>simp only[au,Rep]at r2;subst r2;simp only[ap]at q2;subst q2;simp only[eqD];exact RcNeAt.int_bool _ _ _
  |int b=>simp only[au,Rep]at r2;subst r2;simp only[ap]at q2;obtain⟨t,rfl⟩:=q2;simp only[eqD];exact RcNeAt.int_int _ _ _ _
  |str b=>simp only[au,Rep]at r2;subst r2;simp only[ap]at q2;obtain⟨t,rfl⟩:=q2;simp only[eqD,Bool.not_false];exact RcNeAt.int_str _ _ _ _
  |_=>simp[dLe]at he
 |str a =>
  simp only[au,Rep]at r1;subst r1;simp only[ap]at q1;obtain⟨t1,rfl⟩:=q1
  cases e with
  |tup es=>obtain⟨b,ws,rfl,sq',rl'⟩:=id r2;cases q2;obtain⟨its2,rv2,pt2,_⟩:=I.tuple sq';simp only[eqD,Bool.not_false];exact RcNeAt.str_tuple _ _ pt2 hu0
  |lst es=>obtain⟨b,ws,rfl,sq',rl'⟩:=id r2;cases q2;obtain⟨its2,rv2,pt2,_⟩:=I.list (SqL.of sq');simp only[eqD,Bool.not_false];exact RcNeAt.str_list _ _ pt2.isList hu0
  |non=>simp only[au,Rep]at r2;subst r2;simp only[ap]at q2;subst q2;simp only[eqD,Bool.not_false];exact RcNeAt.str_none _ _
  |bl b=>simp only[au,Rep]at r2;subst r2;simp only[ap]at q2;subst q2;simp only[eqD,Bool.not_false];exact RcNeAt.str_bool _ _ _
  |int b=>simp only[au,Rep]at r2;subst r2;simp only[ap]at q2;obtain⟨t,rfl⟩:=q2;simp only[eqD,Bool.not_false];exact RcNeAt.str_int _ _ _ _
  |str b=>simp only[au,Rep]at r2;subst r2;simp only[ap]at q2;obtain⟨t,rfl⟩:=q2;simp only[eqD];exact RcNeAt.str_str _ _ _ _
  |_=>simp[dLe]at he
 |_=>simp[dLe]at hd
def neF (x y:D):Option D:=if dLe x 60=true/\dLe y 60=true then some (.bl (!(eqD x y)))else none
theorem BP (hu:X.A.units+64<cLine):bm X (compareOp .NotEq) neF:=by
 intro pins s σ H M x y v u dx dy dz Q I hr rx ry r1 r2 e k
 unfold neF at e
 by_cases hc:dLe dx 60=true/\dLe dy 60=true
 ·rw[if_pos hc]at e;cases e
  exact CO I 59 (A:=X.A) (by omega) hc.1 hc.2 r1 r2 rx ry X.prog X.w X.xe _ ⟨.bl (!(eqD dx dy)),H,I,rfl,k _ H (Ext.refl _ _) hr (by simp[Rep])⟩
 ·rw[if_neg hc]at e;cases e
theorem Br {a b:Int}:neF (.int a) (.int b)=some (.bl (!(a==b))):=by simp[neF,dLe,eqD]
theorem Cf {a b:Str}:neF (.str a) (.str b)=some (.bl (!(a==b))):=by simp[neF,dLe,eqD]
theorem Bh {a b:Bool}:neF (.bl a) (.bl b)=some (.bl (!(a==b))):=by simp[neF,dLe,eqD]
end
end L2
namespace HT
open PySem PyProof.Rows
section
variable {prog:Program} {w:World} {A:Around} {E:Value->Shared->Prop} {s:Shared}
theorem mv {t:Addr} {items:Array Value} {Q:Bool->Shared->Prop} (ht:IsTup s.heap t items) (h:Q true s):wpAny (model prog w) A (Builtin.Tuple.tupleIsExact (.ref t)) Q E s:=by
 unfold Builtin.Tuple.tupleIsExact
 exact wpAny_bind (wpAny_typeOf ht.typeIs (wpAny_pure (by simpa using h)))
theorem getItem_tuple_whole {t sl:Addr} {items:Array Value} {vl vu:Value} {lo hi:Option Int} {Q:Value->Shared->Prop} (ht:IsTup s.heap t items) (hs:s.heap.IsSliceOf sl vl vu .none) (pl:IsPart vl lo) (pu:IsPart vu hi)
  (hw:sIx items.size 0 lo=0/\sIx items.size items.size hi=items.size) (h:Q (.ref t) s):wpAny (model prog w) A (getItem (.ref t) (.ref sl)) Q E s:=by
 obtain⟨os,hos,hcs,hds⟩:=id hs
 have hTs:s.TypeIs (.ref sl) "slice":=⟨os,hos,hcs⟩
 unfold getItem
 try with_reducible refine wpAny_holding ?_
 first|refine wpAny_bind (wpAny_pure ?_)|skip
 refine wpAny_bind (wpAny_sequenceKey ht.typeIs (by decide) ?_)
 refine wpAny_bind (wpAny_callSpecial?_slot (name:=Str.ofString "__getitem__") ht.typeIs PyProof.Rows.slot_tuple_getitem
  (wpAny_call_entry PyProof.Rows.slot_tuple_getitem ht.typeIs entry_tuple_getitem ?_ (args_tuple_getitem _ _)))
 show wpAny _ _ (Builtin.Tuple.tupleItemsOf (.ref t) >>= _) _ _ s
 refine wpAny_bind (tupleItemsOf_ ht ?_)
 refine wpAny_bind (wpAny_typeOf hTs ?_)
 rw[if_pos (by decide)]
 refine wpAny_bind (eJ hs pl pu ?_)
 show wpAny _ _ (if(((sIx items.size 0 lo:Nat):Int)==0&&(1:Int)==1&&(sIx items.size items.size hi-sIx items.size 0 lo)==items.size)=true then _ else _) _ _ s
 rw[if_pos (by rw[hw.1,hw.2];simp)]
 refine wpAny_bind (mv ht ?_)
 rw[if_pos rfl]
 refine wpAny_bind (wpAny_rule ?_)
 first
  |exact wpAny_pure ⟨_,rfl,wpAny_pure h⟩
  |exact wpAny_bind (wpAny_pure (wpAny_pure ⟨_,rfl,wpAny_pure h⟩))
end
end HT
namespace L2
open PySem PySem.Spec PyProof.Rows
section
variable {X:Cx} {a b c e:Expr} {es:List Expr} {te ta tb ts:TEd} {t:TAd} {pos:Pos}
/-! ### slices of tuples,the whole one too -/
def slE:D->Option Int->Option Int->Option D
 |.tup ds,lo,hi=>some (.tup (cF ds lo hi))
 |d,lo,hi=>slD d lo hi
def FB (K:PySem.W.Frag):V->Option Int->Option Int->Hp->VK->Prop:=fun x lo hi H Q=>∃ a xs,x=.ref a/\SqT K H a xs/\(HT.sIx xs.length 0 lo=0/\HT.sIx xs.length xs.length hi=xs.length)/\Q (.ref a) H
theorem vA:SlR X (FB X.K):=by
 intro pins s σ H x v vl vu lo hi sl Q I rx hs pl pu h
 obtain⟨a,xs,rfl,hx,hw,q⟩:=h
 cases rx
 obtain⟨its,r,ht,hz⟩:=I.tuple hx
 have hlen:its.toArray.size=xs.length:=by rw[List.size_toArray];exact r.length.symm
 exact⟨"tuple",_,PyProof.Rows.slot_tuple_getitem.lookup,ht.typeIs,HT.getItem_tuple_whole ht hs pl pu (by rw[hlen];exact hw) ⟨.ref a,H,I,rfl,q⟩⟩
theorem rh {ds:List D} {lo hi:Option Int} (h:HT.sIx ds.length 0 lo=0/\HT.sIx ds.length ds.length hi=ds.length):cF ds lo hi=ds:=by
 unfold cF
 rw[h.1,h.2];simp
def CY (te:TEd) (tl th:TOd):TEd:=fun Δ M Q=>te Δ M fun x M1=>tl Δ M1 fun l M2=>th Δ M2 fun u M3=>∃ z,slE (rdM M3 x) l u=some z/\Q z M3
theorem va {lo hi:Option Expr} {tl th:TOd} {p2:Pos} (he:PEd X e te) (hl:POd X lo tl) (hu:POd X hi th):PEd X (.Subscript e (.Slice lo hi none p2) pos) (CY te tl th):=by
 refine(xz (SlR.or yw (SlR.or CL (SlR.or Cv vA))) he hl hu).conv fun σ H Q hh=>?_
 obtain⟨Δ,M,R,sr,hr,q,k⟩:=hh
 refine⟨Δ,M,_,sr,hr,q,fun x M1 v H1 q1 e1 hr1 rv=>⟨Δ,M1,_,sr.ext e1,hr1,q1,fun l M2 H2 q2 e2 hr2=>⟨Δ,M2,_,(sr.ext e1).ext e2,hr2,q2,fun u M3 H3 ⟨z,ez,q3⟩ e3 hr3=>?_⟩⟩⟩
 have rr:=((rv.ext e2).ext e3).rd hr3
 have ee:=(e1.trans e2).trans e3
 have kk:∀ w H',Ext M3 H3 M3 H'->HR X.K M3 H'->Rep X.K M3 H' z w->Q w H':=fun w H' e4 hr4 r4=>k z M3 w H' q3 (ee.trans e4) hr4 r4
 generalize rdM M3 x=d at rr ez
 cases d with
 |lst ds =>
  cases ez
  obtain⟨a,vs,rfl,sq,rl⟩:=rr
  refine .inl ⟨a,vs,rfl,SqL.of sq,fun p hp=>jz hr3 hp ?_ kk⟩
  unfold cF oA
  rw[<-rl.length]
  exact(rl.drop _).take _
 |scr ds =>
  cases ez
  obtain⟨a,vs,rfl,sq,rl⟩:=rr
  refine .inl ⟨a,vs,rfl,sq,fun p hp=>jz hr3 hp ?_ kk⟩
  unfold cF oA
  rw[<-rl.length]
  exact(rl.drop _).take _
 |str s =>
  simp only[slE,slD]at ez
  by_cases hz:s.length<=sizeLine
  ·rw[if_pos hz]at ez;cases ez
   exact .inr (.inr (.inl ⟨s,mF rr,hz,kk _ H3 (Ext.refl _ _) hr3 (by simp[Rep])⟩))
  ·rw[if_neg hz]at ez;cases ez
 |tup ds =>
  cases ez
  have rt:=au.tup hr3 rr
  obtain⟨a,vs,rfl,sq,rl⟩:=rr
  by_cases hw:HT.sIx ds.length 0 l=0/\HT.sIx ds.length ds.length u=ds.length
  ·refine .inr (.inr (.inr ⟨a,vs,rfl,sq,by rw[<-rl.length];exact hw,kk _ H3 (Ext.refl _ _) hr3 ?_⟩))
   rw[rh hw]
   exact rt
  ·refine .inr (.inl ⟨a,vs,rfl,sq,by rw[<-rl.length];exact hw,fun p hp=>oa hr3 hp ?_ kk⟩)
   unfold cF oA
   rw[<-rl.length]
   exact(rl.drop _).take _
 |_=>cases ez
theorem E7 {ds:List D} {lo hi:Option Int}:slE (.tup ds) lo hi=some (.tup (cF ds lo hi)):=rfl
theorem Eh {ds:List D} {lo hi:Option Int}:slE (.lst ds) lo hi=some (.lst (cF ds lo hi)):=rfl
theorem Ea {ds:List D} {lo hi:Option Int}:slE (.scr ds) lo hi=some (.lst (cF ds lo hi)):=rfl
theorem EX {x:Str} {lo hi:Option Int}:slE (.str x) lo hi=if x.length<=sizeLine then some (.str (Txt.slice x lo hi))else none:=rfl
/-! ### t[::-1] -/
theorem af.reverse {K:PySem.W.Frag} {M:DH} {H:Hp}:∀ {ds:List D} {vs:List V},af K M H ds vs->af K M H ds.reverse vs.reverse
 |[],_,h=>by simp only[af]at h;subst h;exact af.nil
 |d::ds,_,h=>by
  simp only[af]at h
  obtain⟨v,ws,rfl,h1,h2⟩:=h
  rw[List.reverse_cons,List.reverse_cons]
  exact(af.reverse h2).append (af.cons h1 af.nil)
def rA:TSd:=fun _ _ _=>False
theorem zg {st:Stmt}:PSd X st rA:=fun pins s σ H D I ⟨_,_,_,_,_,q,_⟩=>False.elim q
variable {scope:Scope} {cl:List (Str×Addr)} {extra:List Str} {tg:Expr}
def zE (X:Cx) (scope:Scope) (cl:List (Str×Addr)) (extra:List Str) (tgs:List Expr) (g:GDs):Prop:=∃ gv:TGs,(∀ C s H ex,PGs (ah X scope cl (X.N++extra) C s H ex) tgs gv)/\∀ (ds:List D) (vs:List V) (σ:St) (Δ Δ':DE) (M:DH) (H:Hp) (Q:St->Hp->Prop),SR X.K M H σ Δ->HR X.K M H->af X.K M H ds vs->g ds Δ=some Δ'->(∀ σ',SR X.K M H σ' Δ'->Q σ' H)->gv vs σ H Q
theorem ox:zE X scope cl extra [] ng:=⟨BQ,fun _ _ _ _=>tD,fun ds vs σ Δ Δ' M H Q sr hr rv e k=>by
 cases ds with
 |nil=>simp only[af]at rv;subst rv;cases e;exact⟨rfl,k _ sr⟩
 |cons _ _=>cases e⟩
theorem dW {tgs:List Expr} {g:GD} {gs:GDs} (h1:PGa X scope cl extra tg g) (h2:zE X scope cl extra tgs gs)
  (hs:∀ env,(assignEach (tg::tgs) env).map (·.2)=assign tg env::(assignEach tgs env).map (·.2):=by intro _;rfl):zE X scope cl extra (tg::tgs) (fo g gs):=by
 obtain⟨g1,p1,k1⟩:=h1
 obtain⟨g2,p2,k2⟩:=h2
 refine⟨xm g1 g2,fun C s H ex=>pe (p1 C s H ex) (p2 C s H ex) (hs _),fun ds vs σ Δ Δ' M H Q sr hr rv e k=>?_⟩
 cases ds with
 |nil=>cases e
 |cons d r =>
  simp only[af]at rv
  obtain⟨v,ws,rfl,h3,h4⟩:=rv
  simp only[fo]at e
  cases q:g d Δ with
  |none=>rw[q]at e;cases e
  |some Δ1 =>
   rw[q]at e
   exact⟨v,ws,rfl,k1 d v σ Δ Δ1 M H _ sr hr h3 q fun σ1 sr1=>k2 r ws σ1 Δ1 Δ' M H Q sr1 hr h4 e k⟩
theorem nZ {tgs:List Expr} {kx:Nat} {g:GDs} {n:Nat} (hc:X.calm=true) (h:zE X scope cl extra tgs g) (hn:∀ env,(assignEach tgs env).length=n:=by intro _;rfl) (hst:∀ env,(assignEach tgs env).findIdx? (·.1)=none:=by intro _;rfl):PGa X scope cl extra (.Tuple tgs kx pos) (jZ g n):=by
 obtain⟨g1,p1,k1⟩:=h
 refine⟨AT X.K n g1,fun C s H ex=>xu (X:=ah X scope cl (X.N++extra) C s H ex) hc (p1 C s H ex) (hn _) (hst _),fun d v σ Δ Δ' M H Q sr hr rv e k=>?_⟩
 cases d with
 |tup ds =>
  simp only[jZ]at e
  by_cases hl:ds.length=n
  ·rw[if_pos hl]at e
   simp only[Rep]at rv
   obtain⟨a,vs,rfl,ta,rl⟩:=rv
   exact⟨a,vs,rfl,ta.sq,by rw[<-rl.length];exact hl,k1 ds vs σ Δ Δ' M H Q sr hr rl e k⟩
  ·rw[if_neg hl]at e;cases e
 |_=>cases e
end
section
variable {X:Cx} {a b c e:Expr} {es:List Expr} {te ta tb ts:TEd} {t:TAd} {pos:Pos}
/-! ### in,not in: a text within a text,too -/
def inE (neg:Bool) (x y:D):Option D:=match y with
 |.str j=>match x with
  |.str i=>some (.bl (xor neg (!(Builtin.Str.occurrences j i 0 j.length 1).isEmpty)))
  |_=>none
 |y=>inD neg x y
theorem pN:bm X (compareOp .In) (inE false):=by
 intro pins s σ H M x y v u dx dy dz Q I hr rx ry r1 r2 e k
 cases dy with
 |str j =>
  cases dx with
  |str i =>
   cases e
   exact uM pins s σ H x y v u Q I rx ry ⟨i,j,mF r1,mF r2,k _ H (Ext.refl _ _) hr (by simp[Rep])⟩
  |_=>cases e
 |_=>exact FH pins s σ H M x y v u dx _ dz Q I hr rx ry r1 r2 e k
theorem lM:bm X (compareOp .NotIn) (inE true):=by
 intro pins s σ H M x y v u dx dy dz Q I hr rx ry r1 r2 e k
 cases dy with
 |str j =>
  cases dx with
  |str i =>
   cases e
   exact oC pins s σ H x y v u Q I rx ry ⟨i,j,mF r1,mF r2,k _ H (Ext.refl _ _) hr (by simp[Rep])⟩
  |_=>cases e
 |_=>exact yA pins s σ H M x y v u dx _ dz Q I hr rx ry r1 r2 e k
theorem Ev {b:Bool} {x:D} {ds:List D}:inE b x (.lst ds)=if aU x=true/\ds.all aU=true then some (.bl (xor b (ds.any fun d=>eqD d x)))else none:=rfl
theorem EW {b:Bool} {x:D} {ds:List D}:inE b x (.tup ds)=if aU x=true/\ds.all aU=true then some (.bl (xor b (ds.any fun d=>eqD d x)))else none:=rfl
theorem Am {b:Bool} {c:Nat} {y:Str}:inE b (.str (tx [c])) (.str y)=some (.bl (xor b (decide (c∈y.cps.toList)))):=by
 show some (D.bl (xor b (!(Builtin.Str.occurrences y ⟨#[c]⟩ 0 y.length 1).isEmpty)))=_
 rw[StrLaws.found_one]
/-! ### {} -/
/-! ### pop -/
/-! ###*-/
theorem jk:fillsNumberSlot (.type "tuple") "mul"=pure false :=
 PySem.fillsNumberSlot_seq (id:="tuple.__mul__") (r:=some (.builtin "tuple.__rmul__")) F.slot_tuple_mul.lookup (by decide +kernel) F.slot_tuple_rmul.lookup (by decide +kernel)
theorem oU:seqRepeat? (.type "tuple")=pure (some (.builtin "tuple.__mul__")):=by
 unfold seqRepeat?
 rw[PySem.seqSlot_of (T:="tuple") (name:="__mul__") (id:="tuple.__mul__") F.slot_tuple_mul.lookup (by decide +kernel),PySem.seqSlot_of (T:="tuple") (name:="__rmul__") (id:="tuple.__rmul__") F.slot_tuple_rmul.lookup (by decide +kernel)]
 rfl
theorem kL (a:Int) (t:Tok) (l:Addr) (items:Array Value) :
  Meets (Builtin.«int.__rmul__» ⟨[.int a t,.ref l],[]⟩) (fun _ R s=>IsTup s.heap l items/\R (.ok (.ret Value.notImplemented)) s) :=
 .of_wp fun prog w A R s h=>by
  obtain⟨hp,g,d,tk,os⟩:=s;obtain⟨⟨⟨cls,dd,data,sl⟩,ho,hc,n,hd⟩,h⟩:=h
  simp only at hc hd
  subst hc hd
  wp_walk;exact⟨_,rfl,h⟩
theorem mr (l:Addr) (items:Array Value) (x:Int) (u:Tok) (hne:items.isEmpty=false) (hx:2<=x) (hx2:x<2 ^ 62) (hz:items.size*x.toNat<=sizeLine) :
  Meets (Builtin.«tuple.__mul__» ⟨[.ref l,.int x u],[]⟩) (fun _ R s=>IsTup s.heap l items/\R (.ok (.ret (.ref s.heap.objs.size))) { s with heap:=s.heap.push { cls:=.type "tuple",data:=.seq (List.replicate x.toNat items.toList).flatten.toArray } }) :=
 .of_wp fun prog w A R s h=>by
  obtain⟨ht,h⟩:=h
  show wpAny _ _ (do
   let n <-asIndex (.int x u)
   if n < -(2 ^ 63) || n>=2 ^ 63 then
    rule "tuple.repeat.overflow";raiseError "OverflowError" s!"cannot fit '{← typeNameOf (.int x u)}' into an index-sized integer"
   let xs <-Builtin.Tuple.tupleItemsOf (.ref l)
   if xs.isEmpty || n==1 then
    if <-Builtin.Tuple.tupleIsExact (.ref l)then rule "tuple.repeat.same-object";return <-ret (.ref l)
   if n<=0 || xs.isEmpty then return <-ret (<-Builtin.Tuple.tupleExact #[])
   if xs.size*n > (2 ^ 63-1) / 8 then rule "tuple.repeat.no-memory";raiseNew (<-newExc (.type "MemoryError") [])
   if Builtin.Tuple.tupleTooMany (xs.size*n)then unsupported "tuple.__mul__:memory"
   ret (<-Builtin.Tuple.tupleExact ((List.replicate n.toNat xs).foldl (·++·) #[]))) _ _ s
  refine wpAny_bind (wpAny_of_eq (a:=x) rfl ?_)
  dsimp only
  rw[if_neg (by simp only[Bool.or_eq_true,decide_eq_true_eq];omega)]
  refine wpAny_bind (tupleItemsOf_ ht ?_)
  rw[if_neg (by simp[hne];omega)]
  rw[if_neg (by simp[hne];omega)]
  have hxn:((x.toNat:Nat):Int)=x:=by omega
  have hm:(items.size:Int)*x=((items.size*x.toNat:Nat):Int):=by rw[Int.natCast_mul,hxn]
  have h16:sizeLine=16777216:=rfl
  rw[if_neg (by rw[hm];omega)]
  rw[if_neg (by unfold Builtin.Tuple.tupleTooMany;rw[hm];simp only[decide_eq_true_eq];omega)]
  have hf:List.foldl (fun x1 x2=>x1++x2) #[] (List.replicate x.toNat items)=(List.replicate x.toNat items.toList).flatten.toArray:=by
   have:=jv items.toList x.toNat []
   rw[List.nil_append]at this
   simpa using this
  rw[hf]
  have hs:sizeOk (.seq (List.replicate x.toNat items.toList).flatten.toArray):=by
   show(List.replicate x.toNat items.toList).flatten.toArray.size<=sizeLine
   rw[List.size_toArray,nW,Array.length_toList,Nat.mul_comm]
   exact hz
  exact wpAny_bind (m:=Builtin.Tuple.tupleExact _) (wpAny_newObj_type (wpAny_pure ⟨_,rfl,h⟩) hs)
theorem af.rep {K:PySem.W.Frag} {M:DH} {H:Hp} {ds:List D} {vs:List V} (h:af K M H ds vs):∀ k:Nat,af K M H (List.replicate k ds).flatten (List.replicate k vs).flatten
 |0=>af.nil
 |k+1=>by
  rw[List.replicate_succ,List.replicate_succ,List.flatten_cons,List.flatten_cons]
  exact h.append (af.rep h k)
def wT:D->D->Option D
 |.int a,.int b=>if jA a b then some (.int (a*b))else none
 |.str x,.int n=>if x.length<=16777216/\-(2 ^ 63)<=n/\n<=16777216/\x.length*n.toNat<=16777216 then some (.str (Txt.mul x n))else none
 |.tup ds,.int n=>if 2<=n/\n<2 ^ 62/\ds≠[]/\ds.length*n.toNat<=sizeLine then some (.tup (List.replicate n.toNat ds).flatten)else none
 |.lst ds,.int n=>if -(2 ^ 63)<=n/\n<2 ^ 63/\ds.length*n.toNat<=sizeLine then some (.lst (List.replicate n.toNat ds).flatten)else none
 |_,_=>none
theorem ji:bm X (binaryOp .Mult) wT:=by
 intro pins s σ H M x y v u dx dy dz Q I hr rx ry r1 r2 e k
 cases dx with
 |int a =>
  cases dy with
  |int b=>exact BJ pins s σ H M x y v u _ _ dz Q I hr rx ry r1 r2 e k
  |_=>cases e
 |str z =>
  cases dy with
  |int n =>
   simp only[wT]at e
   by_cases hc:z.length<=16777216/\-(2 ^ 63)<=n/\n<=16777216/\z.length*n.toNat<=16777216
   ·rw[if_pos hc]at e;cases e
    have e1:=mF r1
    have e2:=fS r2
    subst e1;subst e2
    obtain⟨t1,rfl⟩:=rx
    obtain⟨t2,rfl⟩:=ry
    have hok:MulOk z n:=by
     by_cases hn:0<=n
     ·exact mulOk_of z.length n.toNat (Nat.le_refl _) (by omega) hc.2.1 (by omega) hc.2.2.2
     ·exact mulOk_of z.length 0 (Nat.le_refl _) (by omega) hc.2.1 (by omega) (by omega)
    exact SB.mul hok fun t' kk=>⟨.str _,H,I.tok _,⟨t',rfl⟩,k _ H (Ext.refl _ _) hr (by simp[Rep])⟩
   ·rw[if_neg hc]at e;cases e
  |_=>cases e
 |tup ds =>
  cases dy with
  |int n =>
   simp only[wT]at e
   by_cases hc:2<=n/\n<2 ^ 62/\ds≠[]/\ds.length*n.toNat<=sizeLine
   ·rw[if_pos hc]at e;cases e
    have e2:=fS r2
    subst e2
    obtain⟨t2,rfl⟩:=ry
    obtain⟨a,vs,rfl,sq,rl⟩:=r1
    cases rx
    obtain⟨its,rv,pt,hz⟩:=I.tuple sq
    have hl1:=rv.length
    have hl2:=rl.length
    have hne:its.toArray.isEmpty=false:=by
     cases its with
     |nil =>
      have h0:ds.length=0:=by rw[hl2,hl1];rfl
      exact absurd (List.length_eq_zero_iff.mp h0) hc.2.2.1
     |cons _ _=>rfl
    have hzz:its.toArray.size*n.toNat<=sizeLine:=by rw[List.size_toArray,<-hl1,<-hl2];exact hc.2.2.2
    refine wpAny_binaryOp_repeat_ref (T:="tuple") (U:="int") (by decide) pt.typeIs (fun s'=>typeIs_int s' n t2) jk F.fills_int_mul F.slot_int_rmul oU F.slot_int_index.lookup
     (call_meets F.slot_int_rmul (typeIs_int s n t2) F.entry_int_rmul (F.args_int_rmul_2 _ _) (kL n t2 a its.toArray)
      ⟨pt,rfl,pt.typeIs,call_meets F.slot_tuple_mul pt.typeIs F.entry_tuple_mul (F.args_tuple_mul_2 _ _) (mr a its.toArray n t2 hne hc.1 hc.2.1 hzz) ⟨pt,?_⟩⟩)
    have rr:aq (List.replicate n.toNat vs).flatten (List.replicate n.toNat its).flatten:=rv.rep n.toNat
    refine⟨.ref s.heap.objs.size,_,I.laid (t':=s.toks) (o:=.tup (List.replicate n.toNat vs).flatten) (fun b ob q=>Heap.get?_push_of_some _ q) (Nat.le_refl _) ?_,rfl,?_⟩
    ·refine⟨?_,_,rr,by simpa using lq.new _ _⟩
     rw[nW,Nat.mul_comm,<-hl2];exact hc.2.2.2
    ·exact oa hr (I.hok.fresh (Nat.le_refl _)) (rl.rep n.toNat) k
   ·rw[if_neg hc]at e;cases e
  |_=>cases e
 |lst ds =>
  cases dy with
  |int n =>
   simp only[wT]at e
   by_cases hc:-(2 ^ 63)<=n/\n<2 ^ 63/\ds.length*n.toNat<=sizeLine
   ·rw[if_pos hc]at e;cases e
    obtain⟨a,vs,rfl,sq,rl⟩:=r1
    exact CS pins s σ H _ _ v u Q I rx ry ⟨a,n,vs,rfl,fS r2,sq,hc.1,hc.2.1,by rw[<-rl.length];exact hc.2.2,fun p hp=>jz hr hp (rl.rep n.toNat) k⟩
   ·rw[if_neg hc]at e;cases e
  |_=>cases e
 |_=>cases e
theorem yU {a b:Int}:wT (.int a) (.int b)=if jA a b then some (.int (a*b))else none:=rfl
/-! ### is None -/
def mY:D->Bool
 |.non=>true
 |_=>false
def oh (neg:Bool) (x y:D):Option D:=match y with|.non=>some (.bl (xor neg (mY x)))|_=>none
theorem t7 {K:PySem.W.Frag} {M:DH} {H:Hp} {d:D} {x:V} (r:au K M H d x):decide (x=V.non)=mY d:=by
 cases d with
 |tup ds=>obtain⟨a,vs,rfl,_⟩:=r;rfl
 |lst ds=>obtain⟨a,vs,rfl,_⟩:=r;rfl
 |scr ds=>obtain⟨a,vs,rfl,_⟩:=r;rfl
 |emp=>simp only[au,Rep]at r;obtain⟨a,rfl,_⟩:=r;rfl
 |box _ _=>simp only[au,Rep]at r;obtain⟨a,_,rfl,_⟩:=r;rfl
 |_=>simp only[au,Rep]at r;subst r;rfl
theorem Ff:bm X (compareOp .Is) (oh false):=by
 intro pins s σ H M x y v u dx dy dz Q I hr rx ry r1 r2 e k
 cases dy with
 |non =>
  cases e
  refine BI pins s σ H x y v u Q I rx ry ⟨Ey r2,?_⟩
  rw[t7 r1]
  exact k _ H (Ext.refl _ _) hr (by simp[Rep])
 |_=>cases e
theorem y0:bm X (compareOp .IsNot) (oh true):=by
 intro pins s σ H M x y v u dx dy dz Q I hr rx ry r1 r2 e k
 cases dy with
 |non =>
  cases e
  refine yM pins s σ H x y v u Q I rx ry ⟨Ey r2,?_⟩
  rw[t7 r1]
  exact k _ H (Ext.refl _ _) hr (by simp[Rep])
 |_=>cases e
theorem u9 {b:Bool} {x:D}:oh b x .non=some (.bl (xor b (mY x))):=rfl
/-! ### a comprehension's list,ours -/
def zI (ms:List Bool) (k:Nat) (wi:TId) (g:GD) (tc:TTd) (te:TEd):TEd:=fun Δ M Q=>wi Δ M fun ds M1=>ds.length<=sizeLine/\cR g tc te ds (dI ms k Δ) M1 [] fun ys M2=>∀ p,M2 p=none->Q (.ref p) (al M2 p (.lst ys))
theorem vR {K:PySem.W.Frag} {wi:TId} {g:GD} {tc:TTd} {te:TEd} {gv:TG} {ms:List Bool} {kk:Nat}
  (kg:∀ (d:D) (v:V) (σ:St) (Δ Δ':DE) (M:DH) (H:Hp) (Q:St->Hp->Prop),SR K M H σ Δ->HR K M H->Rep K M H d v->g d Δ=some Δ'->(∀ σ',SR K M H σ' Δ'->Q σ' H)->gv v σ H Q) :
  ∀ σ H Q,up K (zI ms kk wi g tc te) σ H Q->tLc ms kk (upI K wi) gv (upT K tc) (up K te) σ H Q:=by
 rintro σ H Q ⟨Δ,M,R,sr,hr,q,k⟩
 refine⟨Δ,M,_,sr,hr,q,fun ds M1 J H1 ⟨hz,q1⟩ e1 hr1 it=>?_⟩
 refine⟨fun i m ys σ' H'=>∃ Δ' M' acc,m=ds.length-i/\i<=ds.length/\Ext M1 H1 M' H'/\HR K M' H'/\SR K M' H' σ' Δ'/\af K M' H' acc ys/\acc.length<=i/\cR g tc te (ds.drop i) Δ' M' acc fun ys M2=>∀ p,M2 p=none->R (.ref p) (al M2 p (.lst ys)),
  fun ys H'=>∃ M' acc,Ext M1 H1 M' H'/\HR K M' H'/\af K M' H' acc ys/\∀ p,M' p=none->R (.ref p) (al M' p (.lst acc)),⟨ds.length,_,M1,[],by simp,Nat.zero_le _,Ext.refl _ _,hr1,(sr.ext e1).comp ms kk,af.nil,by simp,q1⟩,?_,?_⟩
 ·rintro i m ys σ2 H2 ⟨Δ2,M2,acc,rfl,hi2,e2,hr2,sr2,ra,la,f2⟩
  have hl:ys.length<=sizeLine:=by rw[<-ra.length];omega
  refine⟨hl,?_⟩
  obtain⟨go,stop⟩:=it M2 H2 e2 hr2 i
  by_cases hlt:i<ds.length
  ·have hd:ds[i]?=some ds[i]:=by simp[hlt]
   obtain⟨g1,y1⟩:=go _ hd
   rw[List.drop_eq_getElem_cons hlt]at f2
   simp only[cR]at f2
   obtain⟨Δ3,eg,f3⟩:=f2
   refine .inr ⟨g1,fun x H' hy=>?_⟩
   obtain⟨e3,hr3,rx⟩:=y1 x H' hy
   refine kg _ x σ2 Δ2 Δ3 M2 H' _ (sr2.ext e3) hr3 rx eg fun σ3 sr3=>?_
   refine⟨Δ3,M2,_,sr3,hr3,f3,fun b M4 H4 q4 e4 hr4=>?_⟩
   cases b with
   |true =>
    simp only[if_true]at q4 ⊢
    refine⟨Δ3,M4,_,sr3.ext e4,hr4,q4,fun y M5 v5 H5 q5 e5 hr5 rv5=>?_⟩
    refine⟨ds.length-(i+1),by omega,Δ3,M5,acc++[y],rfl,hlt,((e2.trans e3).trans e4).trans e5,hr5,(sr3.ext e4).ext e5,(((ra.ext e3).ext e4).ext e5).append (af.cons rv5 af.nil),by simp;omega,q5⟩
   |false =>
    simp only[Bool.false_eq_true,if_false]at q4 ⊢
    exact⟨ds.length-(i+1),by omega,Δ3,M4,acc,rfl,hlt,(e2.trans e3).trans e4,hr4,sr3.ext e4,(ra.ext e3).ext e4,by omega,q4⟩
  ·rw[List.drop_eq_nil_of_le (by omega)]at f2
   exact .inl ⟨stop (by omega),M2,acc,e2,hr2,ra,f2⟩
 ·rintro ys H' p ⟨M',acc,e',hr',ra,q'⟩ hp
  exact k _ _ _ _ (q' p (hr'.fresh hp)) ((e1.trans e').trans (Ext.own hp)) (hr'.own hp ra) (by simp only[Rep])
variable {scope:Scope} {cl:List (Str×Addr)} {ms:List Bool} {extra:List Str} {ifs:List Expr} {tg iter elt:Expr}
theorem Ek {wi:TId} {g:GD} {tc:TTd} {te:TEd} (S:bv X scope cl ms extra) (hcalm:X.calm=true) (hi:PId X tg iter wi) (hg:PGa X scope cl extra tg g)
  (hif:∀ C s H ex,kc (ah X scope cl (X.N++extra) C s H ex) ifs tc) (he:∀ C s H ex,PEd (ah X scope cl (X.N++extra) C s H ex) elt te)
  (hs:∀ x,foldedSetIterable iter X.env x=pure x:=by intro _;rfl):PEd X (.ListComp elt [⟨tg,iter,ifs,0⟩] scope pos) (zI ms extra.length wi g tc te):=by
 obtain⟨gv,pg,kg⟩:=hg
 exact(Aj (tc:=upT X.K tc) (te:=up X.K te) S hcalm hi pg hif he hs).conv (vR kg)
theorem wO {x:Str} {i:Int} {pos:Pos} (hg:Gl X x) (hm:∃ tk,X.mg x=some (.int i tk)) (hd:(x==("__debug__":Str))=false:=by decide):PEd X (.Name x pos) (dC (.int i)):=by
 obtain⟨t,ht⟩:=hm
 exact yP hg ht hd
theorem xv {x y:Str} {pos:Pos} (hg:Gl X x) (hm:∃ tk,X.mg x=some (.str y tk)) (hd:(x==("__debug__":Str))=false:=by decide):PEd X (.Name x pos) (dC (.str y)):=by
 obtain⟨t,ht⟩:=hm
 exact zd hg ht hd
end
/-! ### the same rules,as judgements that are not looked into -/
@[irreducible] def QEd (X:Cx) (e:Expr) (t:TEd):Prop:=PEd X e t
theorem QEd.eq {X:Cx} {e:Expr} {t:TEd}:QEd X e t=(PEd X e t):=by unfold QEd;rfl
@[irreducible] def QAd (X:Cx) (e:List Expr) (t:TAd):Prop:=PAd X e t
theorem QAd.eq {X:Cx} {e:List Expr} {t:TAd}:QAd X e t=(PAd X e t):=by unfold QAd;rfl
@[irreducible] def QTd (X:Cx) (e:Expr) (t:TTd):Prop:=PTd X e t
theorem QTd.eq {X:Cx} {e:Expr} {t:TTd}:QTd X e t=(PTd X e t):=by unfold QTd;rfl
@[irreducible] def QWd (X:Cx) (e:Expr) (t:TTd):Prop:=PWd X e t
theorem QWd.eq {X:Cx} {e:Expr} {t:TTd}:QWd X e t=(PWd X e t):=by unfold QWd;rfl
@[irreducible] def QSd (X:Cx) (e:Stmt) (t:TSd):Prop:=PSd X e t
theorem QSd.eq {X:Cx} {e:Stmt} {t:TSd}:QSd X e t=(PSd X e t):=by unfold QSd;rfl
@[irreducible] def QSs (X:Cx) (e:List Stmt) (t:TSd):Prop:=j4 X e t
theorem QSs.eq {X:Cx} {e:List Stmt} {t:TSd}:QSs X e t=(j4 X e t):=by unfold QSs;rfl
@[irreducible] def QId (X:Cx) (tg e:Expr) (t:TId):Prop:=PId X tg e t
theorem QId.eq {X:Cx} {tg e:Expr} {t:TId}:QId X tg e t=(PId X tg e t):=by unfold QId;rfl
@[irreducible] def QIf (X:Cx) (e:List Expr) (t:TTd):Prop:=kc X e t
theorem QIf.eq {X:Cx} {e:List Expr} {t:TTd}:QIf X e t=(kc X e t):=by unfold QIf;rfl
@[irreducible] def QOd (X:Cx) (e:Option Expr) (t:TOd):Prop:=POd X e t
theorem QOd.eq {X:Cx} {e:Option Expr} {t:TOd}:QOd X e t=(POd X e t):=by unfold QOd;rfl
theorem aa {X:Cx} (i:Nat) {x:Str} {pos:Pos} (hN:X.N[i]?=some x:=by rfl) (hv:Vis X.env.scope x:=by first|exact Or.inl rfl|exact Or.inr (Or.inl rfl)|exact Or.inr (Or.inr rfl)) (hd:(x==("__debug__":Str))=false:=by decide)
  (hcd:(x==("__classdict__":Str))=false:=by decide):QEd X (.Name x pos) (br i):=by
 simp only[QEd.eq,QAd.eq,QTd.eq,QWd.eq,QSd.eq,QSs.eq,QId.eq,QIf.eq,QOd.eq]at *
 exact DZ (i:=i) (hN:=hN) (hv:=hv) (hd:=hd) (hcd:=hcd)
theorem ak {X:Cx} {i j pos}:QEd X (.Constant (.int i) j pos) (dC (.int i)):=by
 simp only[QEd.eq,QAd.eq,QTd.eq,QWd.eq,QSd.eq,QSs.eq,QId.eq,QIf.eq,QOd.eq]at *
 exact DY 
theorem uF {X:Cx} {i j pos}:QEd X (.Constant (.bool i) j pos) (dC (.bl i)):=by
 simp only[QEd.eq,QAd.eq,QTd.eq,QWd.eq,QSd.eq,QSs.eq,QId.eq,QIf.eq,QOd.eq]at *
 exact FA 
theorem Ay {X:Cx} {i j pos}:QEd X (.Constant (.str i) j pos) (dC (.str i)):=by
 simp only[QEd.eq,QAd.eq,QTd.eq,QWd.eq,QSd.eq,QSs.eq,QId.eq,QIf.eq,QOd.eq]at *
 exact DA 
theorem tO {X:Cx} {j pos}:QEd X (.Constant .none j pos) (dC .non):=by
 simp only[QEd.eq,QAd.eq,QTd.eq,QWd.eq,QSd.eq,QSs.eq,QId.eq,QIf.eq,QOd.eq]at *
 exact Es 
theorem xa {X:Cx} {x:Str} {i:Int} {pos:Pos} (hg:Gl X x) (hm:∃ tk,X.mg x=some (.int i tk)) (hd:(x==("__debug__":Str))=false:=by decide):QEd X (.Name x pos) (dC (.int i)):=by
 simp only[QEd.eq,QAd.eq,QTd.eq,QWd.eq,QSd.eq,QSs.eq,QId.eq,QIf.eq,QOd.eq]at *
 exact wO (hg:=hg) (hm:=hm) (hd:=hd)
theorem vP {X:Cx} {x y:Str} {pos:Pos} (hg:Gl X x) (hm:∃ tk,X.mg x=some (.str y tk)) (hd:(x==("__debug__":Str))=false:=by decide):QEd X (.Name x pos) (dC (.str y)):=by
 simp only[QEd.eq,QAd.eq,QTd.eq,QWd.eq,QSd.eq,QSs.eq,QId.eq,QIf.eq,QOd.eq]at *
 exact xv (hg:=hg) (hm:=hm) (hd:=hd)
theorem ac {X:Cx}:QAd X [] dG:=by
 simp only[QEd.eq,QAd.eq,QTd.eq,QWd.eq,QSd.eq,QSs.eq,QId.eq,QIf.eq,QOd.eq]at *
 exact Dx 
theorem ab {X:Cx} {a:Expr} {es:List Expr} {ta:TEd} {tr:TAd} (ha:QEd X a ta) (hr:QAd X es tr) (hs:starEach (a::es) X.env=(false,eval a X.env)::starEach es X.env:=by rfl):QAd X (a::es) (bD ta tr):=by
 simp only[QEd.eq,QAd.eq,QTd.eq,QWd.eq,QSd.eq,QSs.eq,QId.eq,QIf.eq,QOd.eq]at *
 exact BO (ha:=ha) (hr:=hr) (hs:=hs)
theorem bV {X:Cx} {es:List Expr} {pos:Pos} {x1} {t:TAd} (h:QAd X es t):QEd X (.Tuple es x1 pos) (p7 t):=by
 simp only[QEd.eq,QAd.eq,QTd.eq,QWd.eq,QSd.eq,QSs.eq,QId.eq,QIf.eq,QOd.eq]at *
 exact DM (h:=h)
theorem jc {X:Cx} {es:List Expr} {pos:Pos} {t:TAd} (h:QAd X es t):QEd X (.List es pos) (vb t):=by
 simp only[QEd.eq,QAd.eq,QTd.eq,QWd.eq,QSd.eq,QSs.eq,QId.eq,QIf.eq,QOd.eq]at *
 exact E1 (h:=h)
theorem ii {X:Cx} {es:List Expr} {pos:Pos} {t:TAd} (h:QAd X es t):QEd X (.List es pos) (wc t):=by
 simp only[QEd.eq,QAd.eq,QTd.eq,QWd.eq,QSd.eq,QSs.eq,QId.eq,QIf.eq,QOd.eq]at *
 exact B0 (h:=h)
theorem aI {X:Cx} {a:Expr} {b:Expr} {ta:TEd} {tb:TEd} {pos:Pos} {op:Operator} {r:D->D->Option D} (ho:bm X (binaryOp op) r) (ha:QEd X a ta) (hb:QEd X b tb):QEd X (.BinOp a op b pos) (dOp r ta tb):=by
 simp only[QEd.eq,QAd.eq,QTd.eq,QWd.eq,QSd.eq,QSs.eq,QId.eq,QIf.eq,QOd.eq]at *
 exact FE (ho:=ho) (ha:=ha) (hb:=hb)
theorem jO {X:Cx} {a:Expr} {b:Expr} {ta:TEd} {tb:TEd} {pos:Pos} {op:CmpOp} {r:D->D->Option D} (ho:bm X (compareOp op) r) (ha:QEd X a ta) (hb:QEd X b tb) (hm:behindInMarks op b=false):QEd X (.Compare a [op] [b] pos) (dOp r ta tb):=by
 simp only[QEd.eq,QAd.eq,QTd.eq,QWd.eq,QSd.eq,QSs.eq,QId.eq,QIf.eq,QOd.eq]at *
 exact Eg (ho:=ho) (ha:=ha) (hb:=hb) (hm:=hm)
theorem aO {X:Cx} {a:Expr} {b:Expr} {ta:TEd} {tb:TEd} {pos:Pos} {r:D->D->Option D} (ho:IxR X (opV X.K r)) (ha:QEd X a ta) (hb:QEd X b tb) (hs:om b):QEd X (.Subscript a b pos) (dOp r ta tb):=by
 simp only[QEd.eq,QAd.eq,QTd.eq,QWd.eq,QSd.eq,QSs.eq,QId.eq,QIf.eq,QOd.eq]at *
 exact Fu (ho:=ho) (ha:=ha) (hb:=hb) (hs:=hs)
theorem bt {X:Cx} {a:Expr} {b:Expr} {ta:TEd} {tb:TEd} {pos:Pos} {op:CmpOp} {r:D->D->Option D} (ho:bm X (compareOp op) r) (ha:QEd X a ta) (hb:QEd X b tb) (hm:behindInMarks op b=false):QTd X (.Compare a [op] [b] pos) (i3 (dOp r ta tb)):=by
 simp only[QEd.eq,QAd.eq,QTd.eq,QWd.eq,QSd.eq,QSs.eq,QId.eq,QIf.eq,QOd.eq]at *
 exact Cl (ho:=ho) (ha:=ha) (hb:=hb) (hm:=hm)
theorem hJ {X:Cx} {a:Expr} {ta:TEd} (h:QEd X a ta) (he:∀ whole,isTrue a X.env whole=(do let v <-whole;standAt a.pos;holding [v] (truthy v)):=by intro _;rfl):QTd X a (i3 ta):=by
 simp only[QEd.eq,QAd.eq,QTd.eq,QWd.eq,QSd.eq,QSs.eq,QId.eq,QIf.eq,QOd.eq]at *
 exact De (h:=h) (he:=he)
theorem rD {X:Cx} {a:Expr} {pos:Pos} {tA:TTd} (h:QTd X a tA):QTd X (.UnaryOp .Not a pos) (vI tA):=by
 simp only[QEd.eq,QAd.eq,QTd.eq,QWd.eq,QSd.eq,QSs.eq,QId.eq,QIf.eq,QOd.eq]at *
 exact AU (h:=h)
theorem o9 {X:Cx} {a:Expr} {pos:Pos} {tA:TTd} (ha:QTd X a tA):QWd X (.BoolOp .And [a] pos) tA:=by
 simp only[QEd.eq,QAd.eq,QTd.eq,QWd.eq,QSd.eq,QSs.eq,QId.eq,QIf.eq,QOd.eq]at *
 exact yT (ha:=ha)
theorem vH {X:Cx} {a:Expr} {pos:Pos} {tA:TTd} (ha:QTd X a tA):QWd X (.BoolOp .Or [a] pos) tA:=by
 simp only[QEd.eq,QAd.eq,QTd.eq,QWd.eq,QSd.eq,QSs.eq,QId.eq,QIf.eq,QOd.eq]at *
 exact Bv (ha:=ha)
theorem oq {X:Cx} {a:Expr} {b:Expr} {pos:Pos} {tA:TTd} {tB':TTd} {bG:List Expr} (ha:QTd X a tA) (hb:QWd X (.BoolOp .And (b::bG) pos) tB'):QWd X (.BoolOp .And (a::b::bG) pos) (tJ tA tB'):=by
 simp only[QEd.eq,QAd.eq,QTd.eq,QWd.eq,QSd.eq,QSs.eq,QId.eq,QIf.eq,QOd.eq]at *
 exact BY (ha:=ha) (hb:=hb)
theorem wJ {X:Cx} {a:Expr} {b:Expr} {pos:Pos} {tA:TTd} {tB':TTd} {bG:List Expr} (ha:QTd X a tA) (hb:QWd X (.BoolOp .Or (b::bG) pos) tB'):QWd X (.BoolOp .Or (a::b::bG) pos) (CF tA tB'):=by
 simp only[QEd.eq,QAd.eq,QTd.eq,QWd.eq,QSd.eq,QSs.eq,QId.eq,QIf.eq,QOd.eq]at *
 exact Dy (ha:=ha) (hb:=hb)
theorem ua {X:Cx} {a:Expr} {ta:TEd} {pos:Pos} {op} (h:QEd X a ta):QEd X (.BoolOp op [a] pos) ta:=by
 simp only[QEd.eq,QAd.eq,QTd.eq,QWd.eq,QSd.eq,QSs.eq,QId.eq,QIf.eq,QOd.eq]at *
 exact DD (h:=h)
theorem qf {X:Cx} {a:Expr} {b:Expr} {ta:TEd} {tb:TEd} {pos:Pos} {bG:List Expr} (ha:QEd X a ta) (hb:QEd X (.BoolOp .And (b::bG) pos) tb):QEd X (.BoolOp .And (a::b::bG) pos) (Cm ta tb):=by
 simp only[QEd.eq,QAd.eq,QTd.eq,QWd.eq,QSd.eq,QSs.eq,QId.eq,QIf.eq,QOd.eq]at *
 exact EA (ha:=ha) (hb:=hb)
theorem FF {X:Cx} {a:Expr} {b:Expr} {c:Expr} {ta:TEd} {tb:TEd} {pos:Pos} {tA:TTd} (hc:QTd X c tA) (ha:QEd X a ta) (hb:QEd X b tb):QEd X (.IfExp c a b pos) (dIf tA ta tb):=by
 simp only[QEd.eq,QAd.eq,QTd.eq,QWd.eq,QSd.eq,QSs.eq,QId.eq,QIf.eq,QOd.eq]at *
 exact Fy (hc:=hc) (ha:=ha) (hb:=hb)
theorem yk {X:Cx} {a:Expr} {b:Expr} {c:Expr} {ta:TEd} {tb:TEd} {pos:Pos} {tc:TEd} {op op':CmpOp} {r r':D->D->Option D} (ho:bm X (compareOp op) r) (ho':bm X (compareOp op') r') (ha:QEd X a ta) (hb:QEd X b tb) (hc:QEd X c tc)
  (hm:lastMarks [op,op'] [b,c]=false:=by with_unfolding_all rfl):QEd X (.Compare a [op,op'] [b,c] pos) (rj r r' ta tb tc):=by
 simp only[QEd.eq,QAd.eq,QTd.eq,QWd.eq,QSd.eq,QSs.eq,QId.eq,QIf.eq,QOd.eq]at *
 exact yW (ho:=ho) (ho':=ho') (ha:=ha) (hb:=hb) (hc:=hc) (hm:=hm)
theorem aN {X:Cx} {pos:Pos} {x:Str} {p:Pos} {e:Expr} {es:List Expr} {t:TAd} {id:String} {r:List D->Option D} (hc:bi X (.builtin id) r) (hg:Gl X x) (hm:X.mg x=none) (hv:bootBuiltins x=some (.builtin id)) (ha:QAd X (e::es) t) (hn:x≠"__name__":=by decide) (hdb:(x==("__debug__":Str))=false:=by decide)
  (he:starEach (e::es) X.env=(false,eval e X.env)::starEach es X.env:=by rfl) (hpl:(backTo pos (starEach es X.env)).any (·.1)=false:=by rfl):QEd X (.Call (.Name x p) (e::es) [] pos) (dCB r t):=by
 simp only[QEd.eq,QAd.eq,QTd.eq,QWd.eq,QSd.eq,QSs.eq,QId.eq,QIf.eq,QOd.eq]at *
 exact zU (hc:=hc) (hg:=hg) (hm:=hm) (hv:=hv) (ha:=ha) (hn:=hn) (hdb:=hdb) (he:=he) (hpl:=hpl)
theorem cN {X:Cx} {pos:Pos} {x:Str} {p:Pos} {e:Expr} {es:List Expr} {t:TAd} {id:String} {r:List D->Option D} (hc:bi X (.type id) r) (hg:Gl X x) (hm:X.mg x=none) (hv:bootBuiltins x=some (.type id)) (ha:QAd X (e::es) t) (hn:x≠"__name__":=by decide) (hdb:(x==("__debug__":Str))=false:=by decide)
  (he:starEach (e::es) X.env=(false,eval e X.env)::starEach es X.env:=by rfl) (hpl:(backTo pos (starEach es X.env)).any (·.1)=false:=by rfl):QEd X (.Call (.Name x p) (e::es) [] pos) (dCB r t):=by
 simp only[QEd.eq,QAd.eq,QTd.eq,QWd.eq,QSd.eq,QSs.eq,QId.eq,QIf.eq,QOd.eq]at *
 exact vz (hc:=hc) (hg:=hg) (hm:=hm) (hv:=hv) (ha:=ha) (hn:=hn) (hdb:=hdb) (he:=he) (hpl:=hpl)
theorem cw {X:Cx}:QSs X [] sX:=by
 simp only[QEd.eq,QAd.eq,QTd.eq,QWd.eq,QSd.eq,QSs.eq,QId.eq,QIf.eq,QOd.eq]at *
 exact Dc 
theorem aj {X:Cx} {st:Stmt} {bG:List Stmt} {t:TSd} {u:TSd} (h1:QSd X st t) (h2:QSs X bG u):QSs X (st::bG) (oK t u):=by
 simp only[QEd.eq,QAd.eq,QTd.eq,QWd.eq,QSd.eq,QSs.eq,QId.eq,QIf.eq,QOd.eq]at *
 exact yD (h1:=h1) (h2:=h2)
theorem am {X:Cx} {st:Stmt} {t:TSd} (h1:QSd X st t):QSs X [st] t:=by
 simp only[QEd.eq,QAd.eq,QTd.eq,QWd.eq,QSd.eq,QSs.eq,QId.eq,QIf.eq,QOd.eq]at *
 exact CA (h1:=h1)
theorem aM {X:Cx} {e:Expr} {te:TEd} {pos:Pos} (he:QEd X e te):QSd X (.Return (some e) pos) (vJ te):=by
 simp only[QEd.eq,QAd.eq,QTd.eq,QWd.eq,QSd.eq,QSs.eq,QId.eq,QIf.eq,QOd.eq]at *
 exact EI (he:=he)
theorem gW {X:Cx} {e:Expr} {te:TEd} {pos:Pos} (he:QEd X e te) (hs:swapsWith e none pos.line X.env=pure false:=by rfl):QSd X (.Expr e pos) (nE te):=by
 simp only[QEd.eq,QAd.eq,QTd.eq,QWd.eq,QSd.eq,QSs.eq,QId.eq,QIf.eq,QOd.eq]at *
 exact B6 (he:=he) (hs:=hs)
theorem eh {X:Cx} {c:Expr} {pos:Pos} {t:TSd} {u:TSd} {sa sb:List Stmt} {tc:TTd} (hc:QTd X c tc) (ha:QSs X sa t) (hb:QSs X sb u):QSd X (.If c sa sb pos) (xO tc t u):=by
 simp only[QEd.eq,QAd.eq,QTd.eq,QWd.eq,QSd.eq,QSs.eq,QId.eq,QIf.eq,QOd.eq]at *
 exact DP (hc:=hc) (ha:=ha) (hb:=hb)
theorem aF {X:Cx} {e:Expr} {te:TEd} {pos:Pos} {i:Nat} {x:Str} {pos':Pos} (hN:X.N.Nodup) (hi:X.N[i]?=some x) (hx:Loc X.env.scope x) (he:QEd X e te) (hs:swapsWith e (some (.Name x pos')) pos.line X.env=pure false:=by rfl) (hf:X.fn x=true∨X.env.scope.names.lookup x=some .local:=by first|exact .inl rfl|exact .inr rfl|assumption) :
  QSd X (.Assign [.Name x pos'] e pos) (ke i te):=by
 simp only[QEd.eq,QAd.eq,QTd.eq,QWd.eq,QSd.eq,QSs.eq,QId.eq,QIf.eq,QOd.eq]at *
 exact Er (hN:=hN) (hi:=hi) (hx:=hx) (he:=he) (hs:=hs) (hf:=hf)
theorem E5 {X:Cx} {e:Expr} {te:TEd} {pos:Pos} {i:Nat} {x:Str} {op:Operator} {r:D->D->Option D} {pos':Pos} (hN:X.N.Nodup) (hi:X.N[i]?=some x) (hx:Loc X.env.scope x) (he:QEd X e te) (ho:bm X (inplaceOp op) r) (hf:X.fn x=true∨X.env.scope.names.lookup x=some .local:=by first|exact .inl rfl|exact .inr rfl|assumption) :
  QSd X (.AugAssign (.Name x pos') op e pos) (Cr i te r):=by
 simp only[QEd.eq,QAd.eq,QTd.eq,QWd.eq,QSd.eq,QSs.eq,QId.eq,QIf.eq,QOd.eq]at *
 exact Ew (hN:=hN) (hi:=hi) (hx:=hx) (he:=he) (ho:=ho) (hf:=hf)
theorem An {X:Cx} {e:Expr} {te:TEd} {pos:Pos} {tg:Expr} {g:GD} (he:QEd X e te) (hg:PGd X tg g) (hs:swapsWithSole [tg] e pos.line X.env=pure false:=by rfl) (hw:swappedStores [tg] e X.env=pure none:=by rfl)
  (h1:(assignEach [tg] X.env).map (·.2)=[assign tg X.env]:=by rfl):QSd X (.Assign [tg] e pos) (A6 te g):=by
 simp only[QEd.eq,QAd.eq,QTd.eq,QWd.eq,QSd.eq,QSs.eq,QId.eq,QIf.eq,QOd.eq]at *
 exact Dp (he:=he) (hg:=hg) (hs:=hs) (hw:=hw) (h1:=h1)
theorem bz {X:Cx} {a:Expr} {pos:Pos} {tg:Expr} {ta:TAd} {p:Pos} (hg:Gl X "range") (hm:X.mg "range"=none) (ha:QAd X [a] ta) (hs:starEach [a] X.env=[(false,eval a X.env)]:=by rfl):QId X tg (.Call (.Name "range" p) [a] [] pos) (oB ta):=by
 simp only[QEd.eq,QAd.eq,QTd.eq,QWd.eq,QSd.eq,QSs.eq,QId.eq,QIf.eq,QOd.eq]at *
 exact C6 (hg:=hg) (hm:=hm) (ha:=ha) (hs:=hs)
theorem bQ {X:Cx} {pos:Pos} {tg:Expr} {iter:Expr} {body:List Stmt} {wi:TId} {g:GD} {tb:TSd} (hp:PassesOwn (model X.prog X.w) X.A X.env X.xe) (hc:X.calm=true) (hi:QId X tg iter wi) (hg:PGd X tg g) (hb:QSs X body tb)
  (hs:∀ x,foldedSetIterable iter X.env x=pure x:=by intro _;rfl):QSd X (.For tg iter body [] pos) (rR wi g tb):=by
 simp only[QEd.eq,QAd.eq,QTd.eq,QWd.eq,QSd.eq,QSs.eq,QId.eq,QIf.eq,QOd.eq]at *
 exact D7 (hp:=hp) (hc:=hc) (hi:=hi) (hg:=hg) (hb:=hb) (hs:=hs)
theorem zL {X:Cx} {c:Expr} {pos:Pos} {body:List Stmt} {tc:TTd} {tb:TSd} (hp:PassesOwn (model X.prog X.w) X.A X.env X.xe) (hc:QTd X c tc) (hb:QSs X body tb):QSd X (.While c body [] pos) (rf tc tb):=by
 simp only[QEd.eq,QAd.eq,QTd.eq,QWd.eq,QSd.eq,QSs.eq,QId.eq,QIf.eq,QOd.eq]at *
 exact zx (hp:=hp) (hc:=hc) (hb:=hb)
theorem cg {X:Cx}:QIf X [] u5:=by
 simp only[QEd.eq,QAd.eq,QTd.eq,QWd.eq,QSd.eq,QSs.eq,QId.eq,QIf.eq,QOd.eq]at *
 exact EC 
theorem jp {X:Cx} {c:Expr} {tc:TTd} (h:QTd X c tc):QIf X [c] tc:=by
 simp only[QEd.eq,QAd.eq,QTd.eq,QWd.eq,QSd.eq,QSs.eq,QId.eq,QIf.eq,QOd.eq]at *
 exact Dz (h:=h)
theorem iB {X:Cx} {pos:Pos} {tg:Expr} {iter:Expr} {elt:Expr} {scope:Scope} {cl:List (Str×Addr)} {ms:List Bool} {extra:List Str} {ifs:List Expr} {wi:TId} {g:GD} {tc:TTd} {te:TEd} (S:bv X scope cl ms extra) (hcalm:X.calm=true) (hi:QId X tg iter wi) (hg:PGa X scope cl extra tg g)
  (hif:∀ C s H ex,QIf (ah X scope cl (X.N++extra) C s H ex) ifs tc) (he:∀ C s H ex,QEd (ah X scope cl (X.N++extra) C s H ex) elt te)
  (hs:∀ x,foldedSetIterable iter X.env x=pure x:=by intro _;rfl):QEd X (.ListComp elt [⟨tg,iter,ifs,0⟩] scope pos) (dLc ms extra.length wi g tc te):=by
 simp only[QEd.eq,QAd.eq,QTd.eq,QWd.eq,QSd.eq,QSs.eq,QId.eq,QIf.eq,QOd.eq]at *
 exact Fs (S:=S) (hcalm:=hcalm) (hi:=hi) (hg:=hg) (hif:=hif) (he:=he) (hs:=hs)
theorem zn {X:Cx} {pos:Pos} {tg:Expr} {iter:Expr} {elt:Expr} {scope:Scope} {cl:List (Str×Addr)} {ms:List Bool} {extra:List Str} {ifs:List Expr} {i:Nat} {x:Str} {spos pos':Pos} {wi:TId} {g:GD} {tc:TTd} {te:TEd} (hN:X.N.Nodup) (hix:X.N[i]?=some x) (hx:X.env.scope.names.lookup x=some .local)
  (hsw:swapsWith (.ListComp elt [⟨tg,iter,ifs,0⟩] scope pos) (some (.Name x pos')) spos.line X.env=pure true) (S:bv X scope cl ms extra) (hcalm:X.calm=true) (hi:QId X tg iter wi) (hg:PGa X scope cl extra tg g)
  (hif:∀ C s H ex,QIf (ah X scope cl (X.N++extra) C s H ex) ifs tc) (he:∀ C s H ex,QEd (ah X scope cl (X.N++extra) C s H ex) elt te)
  (hs:∀ x,foldedSetIterable iter X.env x=pure x:=by intro _;rfl):QSd X (.Assign [.Name x pos'] (.ListComp elt [⟨tg,iter,ifs,0⟩] scope pos) spos) (ke i (dLc ms extra.length wi g tc te)):=by
 simp only[QEd.eq,QAd.eq,QTd.eq,QWd.eq,QSd.eq,QSs.eq,QId.eq,QIf.eq,QOd.eq]at *
 exact yp (hN:=hN) (hix:=hix) (hx:=hx) (hsw:=hsw) (S:=S) (hcalm:=hcalm) (hi:=hi) (hg:=hg) (hif:=hif) (he:=he) (hs:=hs)
theorem xi {X:Cx} {e:Expr} {te:TEd} {pos:Pos} {o i:Expr} {to ti:TEd} {p:Pos} (ho:QEd X o to) (hi:QEd X i ti) (he:QEd X e te)
  (ha:∀ v,assign (.Subscript o i p) X.env v = (do
   let ov <-holding [v] (eval o X.env)
   let iv <-holding [v,ov] (eval i X.env)
   standAt p
   holding [v,ov,iv] (setItem ov iv v)
   release [v,ov,iv] []):=by intro _;rfl) (hs:swapsWithSole [.Subscript o i p] e pos.line X.env=pure false:=by rfl) (hw:swappedStores [.Subscript o i p] e X.env=pure none:=by rfl)
  (h1:(assignEach [.Subscript o i p] X.env).map (·.2)=[assign (.Subscript o i p) X.env]:=by rfl):QSd X (.Assign [.Subscript o i p] e pos) (CT to ti te):=by
 simp only[QEd.eq,QAd.eq,QTd.eq,QWd.eq,QSd.eq,QSs.eq,QId.eq,QIf.eq,QOd.eq]at *
 exact Ei (ho:=ho) (hi:=hi) (he:=he) (ha:=ha) (hs:=hs) (hw:=hw) (h1:=h1)
theorem kC {X:Cx} {e:Expr} {te:TEd} {o:Expr} {to:TEd} {apos cpos:Pos} (ho:QEd X o to) (he:QEd X e te) (hbase:attributeBase o "append" X.env (eval o X.env)=eval o X.env:=by rfl)
  (hse:starEach [e] X.env=(false,eval e X.env)::starEach [] X.env:=by rfl)
  (hfew:((backTo cpos (starEach [e] X.env)).all (fun x => !x.1) && (backToKw cpos (keywordEach [] X.env)).all (fun x => x.1.isSome)
  &&decide ([e].length+([]:List Keyword).length+(if([]:List Keyword).isEmpty then 0 else 1)<30))=true:=by rfl)
  (hline:(apos.endLine==cpos.line)=true:=by rfl) (hplain:(backTo cpos (starEach [] X.env)).any (·.1)=false:=by rfl):QEd X (.Call (.Attribute o "append" apos) [e] [] cpos) (uK to te):=by
 simp only[QEd.eq,QAd.eq,QTd.eq,QWd.eq,QSd.eq,QSs.eq,QId.eq,QIf.eq,QOd.eq]at *
 exact EL (ho:=ho) (he:=he) (hbase:=hbase) (hse:=hse) (hfew:=hfew) (hline:=hline) (hplain:=hplain)
theorem vh {X:Cx} {a:Expr} {ta:TEd} {pos:Pos} {T:Str} {Tn:String} {p p2:Pos} (hT:okT Tn=true) (hg:Gl X "isinstance") (hm:X.mg "isinstance"=none) (hg2:Gl X T) (hm2:X.mg T=none) (hv2:bootBuiltins T=some (.type Tn)) (ha:QEd X a ta) (hn2:T≠"__name__":=by decide) (hd2:(T==("__debug__":Str))=false:=by decide)
  (hs:starEach [a,.Name T p2] X.env=(false,eval a X.env)::starEach [.Name T p2] X.env:=by rfl) (hs2:starEach [.Name T p2] X.env=(false,eval (.Name T p2) X.env)::starEach [] X.env:=by rfl) (hpl:(backTo pos (starEach [.Name T p2] X.env)).any (·.1)=false:=by rfl) :
  QEd X (.Call (.Name "isinstance" p) [a,.Name T p2] [] pos) (Be Tn ta):=by
 simp only[QEd.eq,QAd.eq,QTd.eq,QWd.eq,QSd.eq,QSs.eq,QId.eq,QIf.eq,QOd.eq]at *
 exact DV (hT:=hT) (hg:=hg) (hm:=hm) (hg2:=hg2) (hm2:=hm2) (hv2:=hv2) (ha:=ha) (hn2:=hn2) (hd2:=hd2) (hs:=hs) (hs2:=hs2) (hpl:=hpl)
theorem iq {X:Cx}:QOd X none nS:=by
 simp only[QEd.eq,QAd.eq,QTd.eq,QWd.eq,QSd.eq,QSs.eq,QId.eq,QIf.eq,QOd.eq]at *
 exact zA 
theorem fq {X:Cx} {e:Expr} {te:TEd} (h:QEd X e te):QOd X (some e) (wg te):=by
 simp only[QEd.eq,QAd.eq,QTd.eq,QWd.eq,QSd.eq,QSs.eq,QId.eq,QIf.eq,QOd.eq]at *
 exact yf (h:=h)
theorem Bm {X:Cx} {e:Expr} {te:TEd} {o:Expr} {to:TEd} {apos cpos:Pos} (ho:QEd X o to) (he:QEd X e te) (hbase:attributeBase o "join" X.env (eval o X.env)=eval o X.env:=by rfl)
  (hse:starEach [e] X.env=(false,eval e X.env)::starEach [] X.env:=by rfl)
  (hfew:((backTo cpos (starEach [e] X.env)).all (fun x => !x.1) && (backToKw cpos (keywordEach [] X.env)).all (fun x => x.1.isSome)
  &&decide ([e].length+([]:List Keyword).length+(if([]:List Keyword).isEmpty then 0 else 1)<30))=true:=by rfl)
  (hline:(apos.endLine==cpos.line)=true:=by rfl) (hplain:(backTo cpos (starEach [] X.env)).any (·.1)=false:=by rfl):QEd X (.Call (.Attribute o "join" apos) [e] [] cpos) (vy to te):=by
 simp only[QEd.eq,QAd.eq,QTd.eq,QWd.eq,QSd.eq,QSs.eq,QId.eq,QIf.eq,QOd.eq]at *
 exact AG (ho:=ho) (he:=he) (hbase:=hbase) (hse:=hse) (hfew:=hfew) (hline:=hline) (hplain:=hplain)
theorem qc {X:Cx} {e:Expr} {es:List Expr} {t:TAd} {pos:Pos} {p:Pos} {x:Str} {k:Nat} {n:Nat} {S:SpD} (F:FnD X.prog X.w X.K X.mg X.base x k n S) (hr:bP k X.A) (hg:Gl X x) (ha:QAd X (e::es) t) (hdb:(x==("__debug__":Str))=false:=by decide) (he:starEach (e::es) X.env=(false,eval e X.env)::starEach es X.env:=by rfl) (hpl:(backTo pos (starEach es X.env)).any (·.1)=false:=by rfl) :
  QEd X (.Call (.Name x p) (e::es) [] pos) (fI n S t):=by
 simp only[QEd.eq,QAd.eq,QTd.eq,QWd.eq,QSd.eq,QSs.eq,QId.eq,QIf.eq,QOd.eq]at *
 exact dc (F:=F) (hr:=hr) (hg:=hg) (ha:=ha) (hdb:=hdb) (he:=he) (hpl:=hpl)
theorem qcL {X:Cx} {e:Expr} {es:List Expr} {t:TAd} {pos:Pos} {p:Pos} {x:Str} {k:Nat} {n:Nat} {S:SpD} (F:FnD X.prog X.w X.K X.mg X.base x k n S) (hr:bP k X.A) (hg:Gl X x) (ha:QAd X (e::es) t) (hdb:(x==("__debug__":Str))=false:=by decide) (he:starEach (e::es) X.env=(false,eval e X.env)::starEach es X.env:=by rfl) (hpl:(backTo pos (starEach es X.env)).any (·.1)=false:=by rfl) :
  QEd X (.Call (.Name x p) (e::es) [] pos) (o7 n S t):=by
 simp only[QEd.eq,QAd.eq,QTd.eq,QWd.eq,QSd.eq,QSs.eq,QId.eq,QIf.eq,QOd.eq]at *
 exact dcL (F:=F) (hr:=hr) (hg:=hg) (ha:=ha) (hdb:=hdb) (he:=he) (hpl:=hpl)
theorem xq {X:Cx} {e:Expr} {te:TEd} {pos:Pos} (he:QEd X e te):QSd X (.Return (some e) pos) (wn te):=by
 simp only[QEd.eq,QAd.eq,QTd.eq,QWd.eq,QSd.eq,QSs.eq,QId.eq,QIf.eq,QOd.eq]at *
 exact A7 (he:=he)
theorem bn {X:Cx} {te:TEd} {tg:Expr} {iter:Expr} (h:QEd X iter te):QId X tg iter (jR te):=by
 simp only[QEd.eq,QAd.eq,QTd.eq,QWd.eq,QSd.eq,QSs.eq,QId.eq,QIf.eq,QOd.eq]at *
 exact EE (h:=h)
theorem l7 {X:Cx} {e:Expr} {te:TEd} {pos:Pos} (he:QEd X e te):QSd X (.Return (some e) pos) (v6 te):=by
 simp only[QEd.eq,QAd.eq,QTd.eq,QWd.eq,QSd.eq,QSs.eq,QId.eq,QIf.eq,QOd.eq]at *
 exact Bp (he:=he)
theorem eN {X:Cx} {e:Expr} {te:TEd} {pos:Pos} {lo hi:Option Expr} {tl th:TOd} {p2:Pos} (he:QEd X e te) (hl:QOd X lo tl) (hu:QOd X hi th):QEd X (.Subscript e (.Slice lo hi none p2) pos) (CY te tl th):=by
 simp only[QEd.eq,QAd.eq,QTd.eq,QWd.eq,QSd.eq,QSs.eq,QId.eq,QIf.eq,QOd.eq]at *
 exact va (he:=he) (hl:=hl) (hu:=hu)
theorem yY {X:Cx} {st:Stmt}:QSd X st rA:=by
 simp only[QEd.eq,QAd.eq,QTd.eq,QWd.eq,QSd.eq,QSs.eq,QId.eq,QIf.eq,QOd.eq]at *
 exact zg 
theorem EQ {X:Cx} {pos:Pos} {scope:Scope} {cl:List (Str×Addr)} {ms:List Bool} {extra:List Str} {ifs:List Expr} {tg:Expr} {iter:Expr} {elt:Expr} {wi:TId} {g:GD} {tc:TTd} {te:TEd} (S:bv X scope cl ms extra) (hcalm:X.calm=true) (hi:QId X tg iter wi) (hg:PGa X scope cl extra tg g)
  (hif:∀ C s H ex,QIf (ah X scope cl (X.N++extra) C s H ex) ifs tc) (he:∀ C s H ex,QEd (ah X scope cl (X.N++extra) C s H ex) elt te)
  (hs:∀ x,foldedSetIterable iter X.env x=pure x:=by intro _;rfl):QEd X (.ListComp elt [⟨tg,iter,ifs,0⟩] scope pos) (zI ms extra.length wi g tc te):=by
 simp only[QEd.eq,QAd.eq,QTd.eq,QWd.eq,QSd.eq,QSs.eq,QId.eq,QIf.eq,QOd.eq]at *
 exact Ek (S:=S) (hcalm:=hcalm) (hi:=hi) (hg:=hg) (hif:=hif) (he:=he) (hs:=hs)
section
variable {X:Cx} {bG:List Stmt} {t:TSd} {e:Expr} {tt:TTd}
theorem zf (h:QSs X bG t):j4 X bG t:=by
 rw[QSs.eq]at h
 exact h
theorem vL (h:QWd X e tt):QTd X e tt:=by
 simp only[QWd.eq,QTd.eq]at *
 exact PWd.pt h
end
section
variable {P:Program} {w:World} {K:PySem.W.Frag} {mg:Str->Option Value} {base:Heap}
theorem Fun.okQ {x qual:Str} {st:Stmt} {f:Addr} {fd:FuncData} {N ps:List Str} {k n:Nat} {S:SpD} (F:Fun K x qual st f fd) (hn:ps.length=n) (Sc:ar N ps (ae st))
  (hbody:∀ (cdv:Value) (A:Around) (outer:List Env) (s:Shared) (H:Hp) (E:XK),bP k (A.deeper (envOfC qual (ae st) s.heap.objs.size f cdv)) →
   ∃ t:TSd,QSs (qy CX0 P w K mg base N qual (ae st) f cdv A outer s H E).nox (cM st) t/\∀ ds M R,ds.length=n->S ds M R->t { nx:=fun _ M'=>R .non M',rt:=R } (gZ N ds) M):aK P w K mg base CX0 (k+1) f fd ps (spD K n S):=by
 refine F.okD hn Sc fun cdv A outer s H E hr=>?_
 obtain⟨t,h1,h2⟩:=hbody cdv A outer s H E hr
 exact⟨t,zf h1,h2⟩
end
end L2
namespace L2
open PySem PySem.Spec PyProof.Rows PySem.Builtin.Str
/-! ### split of eE texts -/
end L2
namespace L2
open PySem PySem.Spec PyProof.Rows
/-! ### the bits of the script's ints -/
def Few (n:Int):Prop:=Builtin.Int.intBits n<=2 ^ 20
end L2
namespace Att
open PySem PySem.W PySem.Calls PyProof.Rows
end Att
namespace L2
open PySem PySem.Spec PyProof.Rows
section
variable {X:Cx} {pos:Pos}
/-! ###*of wide ints -/
instance (n:Int):Decidable (Few n):=by unfold Few;exact inferInstance
def iI (i j:Int):Prop:=jA i j∨(Few i/\Few j)
instance:∀ i j,Decidable (iI i j):=fun i j=>Classical.propDecidable _
theorem iI.ok {i j:Int} (h:iI i j):IntMulOk i j:=by
 rcases h with h|⟨a,b⟩
 ·exact h.ok
 ·exact .of_bits a b
theorem zS:OpR X (binaryOp .Mult) (rI iI fun i j=>.int (i*j)):=opI fun _ _ _ _ _ _ _ hc q=>mul_int q hc.ok
theorem BS:bm X (binaryOp .Mult) (iOp fun i j=>if iI i j then some (.int (i*j))else none):=qb (fun _ _=>rfl) zS
/-! ### divmod,max -/
def dmD:List D->Option D
 |[.int i,.int j]=>if oz i j then some (.tup [.int (i / j),.int (i % j)])else none
 |_=>none
def Fw:List D->Option D
 |[.int i,.int j]=>some (.int (if j > i then j else i))
 |_=>none
/-! ### o[i],y=value -/
end
open AutoSeq1 (wpAny_loadPart')
section
variable {prog:Program} {w:World} {A:Around} {E:Value->Shared->Prop} {s:Shared}
/-! ### enumerate(tuple) -/
theorem km (l:Addr) (its:Array Value) (n:Nat) (dct:Option Addr) (sl:Array (Option Value)) :
  Meets (Builtin.«enumerate.__new__» ⟨[.type "enumerate",.ref l],[]⟩) (fun _ R s=>s.heap.get? l=some { cls:=.type "tuple",dict:=dct,data:=.seq its n,slots:=sl } /\
   R (.ok (.ret (.ref (s.heap.push { cls:=.type "tuple_iterator",data:=.fields #[.ref l,.int 0 0] }).objs.size)))
    { s with heap:=(s.heap.push { cls:=.type "tuple_iterator",data:=.fields #[.ref l,.int 0 0] }).push { cls:=.type "enumerate",data:=.fields #[.none,.bool false,.ref s.heap.objs.size,rawInt 0,.none,.none] } }) :=
 .of_wp fun prog w A R s h=>by
  obtain⟨hp,g,d,tk,os⟩:=s
  have hl:=h.1
  have hR:=h.2
  have hsb:=sub_enumerate
  have hT:Heap.IsTuple (Shared.heap ⟨hp,g,d,tk,os⟩) l its:=⟨_,hl,rfl,n,rfl⟩
  wp_walk using wpAny_loadPart' hl
  refine wpAny_stack_any fun st=>wpAny_pure ?_
  split
  ·rename_i c _ _ _ _ _
   cases(c==Value.type "enumerate")<;>(wp_walk using wpAny_loadPart' hl,wpAny_pyIter_tuple hT;exact⟨_,rfl,hR⟩)
  ·wp_walk using wpAny_loadPart' hl,wpAny_pyIter_tuple hT
   exact⟨_,rfl,hR⟩
theorem j5 {l:Addr} {its:Array Value} {Q:Value->Shared->Prop} (hL:s.heap.IsTuple l its)
  (h:∀ h',IsEnum h' (s.heap.objs.size + 1) s.heap.objs.size 0 .none → h'.IsTupleIter s.heap.objs.size l 0 → h'.objs.size = s.heap.objs.size + 2 →
   (∀ b o,s.heap.get? b=some o->h'.get? b=some o)->Q (.ref (s.heap.objs.size+1)) { s with heap:=h' }) :
  wpAny (model prog w) A (call (.type "enumerate") [.ref l]) Q E s:=by
 obtain⟨⟨c,dct,dt,sl⟩,hl,hc,n,hd⟩:=hL
 obtain rfl:c=.type "tuple":=hc
 obtain rfl:dt=.seq its n:=hd
 refine callType_new F.called_enumerate (by decide) (F.typeCall_enumerate_1 _) (F.newCall_enumerate_1 _) (fun ob=>F.args_object_init_2 ob _) F.entry_enumerate_new (km l its n dct sl) ⟨hl,?_⟩
 have hz:(s.heap.push { cls:=.type "tuple_iterator",data:=.fields #[.ref l,.int 0 0] }).objs.size=s.heap.objs.size+1:=Heap.size_push ..
 show _/\_
 rw[hz]
 have he:IsEnum ((s.heap.push { cls:=.type "tuple_iterator",data:=.fields #[.ref l,.int 0 0] }).push { cls:=.type "enumerate",data:=.fields #[.none,.bool false,.ref s.heap.objs.size,rawInt 0,.none,.none] }) (s.heap.objs.size+1) s.heap.objs.size 0 .none:=by
  have q:=Heap.get?_push_size (s.heap.push { cls:=.type "tuple_iterator",data:=.fields #[.ref l,.int 0 0] }) (o:={ cls:=.type "enumerate",data:=.fields #[.none,.bool false,.ref s.heap.objs.size,rawInt 0,.none,.none] }) rfl
  rwa [hz]at q
 exact⟨⟨_,he,rfl⟩,h _ he ⟨_,Heap.get?_push_of_some _ (Heap.get?_push_size _ rfl),rfl,rfl⟩ (by rw[Heap.size_push,hz]) fun b o x=>Heap.get?_push_of_some _ (Heap.get?_push_of_some _ x)⟩
theorem j0 {it t:Addr} {i:Nat} {its} {x:Value} {Q:Value->Shared->Prop} (hit:s.heap.IsTupleIter it t i) (ht:s.heap.IsTuple t its) (hx:its[i]?=some x)
  (hQ:∀ h',h'.IsTupleIter it t (i+1)->Heap.SameBut it s.heap h'->Q x { s with heap:=h' }):wpAny (model prog w) A (Builtin.SmallTypes.nextOf (.ref it)) Q E s:=by
 obtain⟨o,ho,hc,hd⟩:=id hit
 obtain⟨ol,hol,_,nl,hdl⟩:=ht
 unfold Builtin.SmallTypes.nextOf
 refine wpAny_bind (wpAny_callSpecial?_slot (name:=Str.ofString "__next__") hit.typeIs F.slot_tuple_iterator_next (wpAny_call_entry F.slot_tuple_iterator_next hit.typeIs F.entry_tuple_iterator_next ?_ (F.args_tuple_iterator_next_1 _)))
 show wpAny _ _ (field (.ref it) 0 >>= _) _ _ s
 refine wpAny_bind (wpAny_field ho hd (x:=.ref t) rfl ?_)
 show wpAny _ _ (if(Value.ref t==Value.none)=true then _ else _) _ _ s
 rw[if_neg (show ¬ ((Value.ref t==Value.none)=true)from Bool.false_ne_true)]
 show wpAny _ _ (field (.ref it) 1 >>= _) _ _ s
 refine wpAny_bind (wpAny_field ho hd (x:=.int i 0) rfl ?_)
 show wpAny _ _ (seqItems? (.ref t) >>= _) _ _ s
 refine wpAny_bind (wpAny_seqItems hol hdl ?_)
 simp only[Int.toNat_natCast,hx]
 refine wpAny_bind (wpAny_setField ho hd (by simp) (wpAny_pure ⟨x,rfl,wpAny_pure (hQ _ ?_ (Heap.SameBut.update ..))⟩))
 exact⟨_,Heap.get?_update_self _ ho (Obj.isFreed_of_fields (Obj.data_mapFields hd _)),(Obj.cls_mapFields ..).trans hc,by rw[Obj.data_mapFields hd];simp[rawInt]⟩
theorem md {it t:Addr} {i:Nat} {its} {Q:Value->Shared->Prop} (hh:A.handled=none) (hit:s.heap.IsTupleIter it t i) (ht:s.heap.IsTuple t its) (hx:its[i]?=none)
  (hE:∀ h' e,Heap.ExtBut it s.heap h'->(∃ o,h'.get? e=some o/\o.cls=.type "StopIteration")->E (.ref e) { s with heap:=h' }):wpAny (model prog w) A (Builtin.SmallTypes.nextOf (.ref it)) Q E s:=by
 obtain⟨o,ho,hc,hd⟩:=id hit
 obtain⟨ol,hol,_,nl,hdl⟩:=ht
 unfold Builtin.SmallTypes.nextOf
 refine wpAny_bind (wpAny_callSpecial?_slot (name:=Str.ofString "__next__") hit.typeIs F.slot_tuple_iterator_next (wpAny_call_entry F.slot_tuple_iterator_next hit.typeIs F.entry_tuple_iterator_next ?_ (F.args_tuple_iterator_next_1 _)))
 show wpAny _ _ (field (.ref it) 0 >>= _) _ _ s
 refine wpAny_bind (wpAny_field ho hd (x:=.ref t) rfl ?_)
 show wpAny _ _ (if(Value.ref t==Value.none)=true then _ else _) _ _ s
 rw[if_neg (show ¬ ((Value.ref t==Value.none)=true)from Bool.false_ne_true)]
 show wpAny _ _ (field (.ref it) 1 >>= _) _ _ s
 refine wpAny_bind (wpAny_field ho hd (x:=.int i 0) rfl ?_)
 show wpAny _ _ (seqItems? (.ref t) >>= _) _ _ s
 refine wpAny_bind (wpAny_seqItems hol hdl ?_)
 simp only[Int.toNat_natCast,hx]
 refine wpAny_bind (wpAny_rule (wpAny_bind (wpAny_setField ho hd (by simp) ?_)))
 show wpAny _ _ (newExc (.type "StopIteration") [] >>= _) _ _ _
 refine wpAny_bind ?_
 simp only[newExc,newTuple]
 refine wpAny_bind (wpAny_newObj_type ?_ (by size_fits))
 refine wpAny_bind (m:=firstArgMember _ _) (wpAny_of_eq (a:=Value.none) (by first|rfl|(simp only[firstArgMember];rfl)) ?_)
 refine wpAny_newObj_type ?_ (by size_fits)
 simp only[raiseNew]
 refine wpAny_bind (wpAny_handled ?_)
 first|rw[show A.in1.handled=none from hh]|rw[hh]
 refine wpAny_bind (wpAny_pure (wpAny_throw ?_))
 exact hE _ _ (((Heap.SameBut.update ..).extBut.push _).push _) ⟨_,Heap.get?_push_size _ rfl,rfl⟩
theorem m7 {prog:Program} {w:World} {A:Around} (hh:A.handled=none) (it l:Addr) (hne:l≠it) (its:Array Value) :
  Draws prog w A it [it,l] its.size (fun i v=>its[i]?=some v) (fun i h=>h.IsTupleIter it l i/\h.IsTuple l its) where
 live:=fun _ _ st=>let⟨o,ho,_⟩:=st.1;⟨o,ho⟩
 frame:=fun _ _ _ st hk=>⟨let⟨o,ho,r⟩:=st.1;⟨o,hk it (by simp) o ho,r⟩,let⟨o,ho,r⟩:=st.2;⟨o,hk l (by simp) o ho,r⟩⟩
 item:=fun i s Q E hi st hQ=>j0 st.1 st.2 (x:=its[i]) (by simp[hi]) fun h' hit' hs'=>hQ _ h' s.toks (by simp[hi]) ⟨hit',st.2.extBut hs'.extBut hne⟩ hs'
 done:=fun s Q E st hE=>md hh st.1 st.2 (by simp) hE
end
section
variable {X:Cx} {pins:List (Addr×Obj)} {σ:St} {H:Hp} {s:Shared} {h':Heap}
theorem Inv.turned2 {t':Nat} {e it:Addr} (I:Inv X pins σ H s) (k:∀ b o,b≠e->b≠it->s.heap.get? b=some o->h'.get? b=some o) (f1:cy X pins H e) (f2:cy X pins H it):Inv X pins σ H { s with heap:=h',toks:=t' }:=by
 obtain⟨a0,a1,a2,a3,a4,a5⟩:=f1
 obtain⟨b0,b1,b2,b3,b4,b5⟩:=f2
 have nit:∀ b u,H b=some u->b≠e/\b≠it:=fun b u q=>⟨fun z=>(by rw[z,a0]at q;cases q),fun z=>(by rw[z,b0]at q;cases q)⟩
 have kk:∀ b o,b∉[e,it]->s.heap.get? b=some o->h'.get? b=some o:=fun b o hc q=>k b o (fun z=>hc (by simp[z])) (fun z=>hc (by simp[z])) q
 refine I.step (g':=s.gens) (d':=s.drawn) (ch:=[e,it]) (fun b hb=>?_) (fun b o _ _ hc q _=>kk b o hc q) (fun b o _ _ hc q _=>⟨o.slots,kk b o hc q⟩) (fun _ _ _ _ n=>n)
  (fun b o hc q=>⟨o,kk b o hc q⟩) (fun _ _ q=>q) (fun _ _ _ q=>q) (fun b ps q=>⟨#[],by rw[q];simp⟩) (fun m hm=>?_) (fun b u q=>?_) I.bare
 ·rcases List.mem_cons.mp hb with z|z
  ·subst z;exact⟨a3,a1,a4,a5⟩
  ·have z:=List.mem_singleton.mp z
   subst z;exact⟨b3,b1,b4,b5⟩
 ·obtain⟨o,es,ep,ho,r⟩:=hm
  exact⟨o,es,ep,k _ o (Ne.symm a1) (Ne.symm b1) ho,r⟩
 ·refine(I.hok b u q).stay (fun c v hc q'=>?_) (fun _ q=>q) fun _ _ q=>q
  rcases hc with z|z
  ·rw[z]at q' ⊢;exact k _ _ (nit b u q).1 (nit b u q).2 q'
  ·exact k c v (nit c _ z).1 (nit c _ z).2 q'
end
def Ite (K:PySem.W.Frag) (a:Addr) (n:Nat):It :=
 ⟨fun i H=>(∃ xs,SqT K H a xs/\xs.length=n)/\i<n,fun i H x H'=>∃ T y,x=.ref T/\H T=none/\H'=upd H T (.tup [.int i,y])/\∀ xs,SqT K H a xs->xs[i]?=some y,fun i H=>(∃ xs,SqT K H a xs/\xs.length=n)/\n<=i⟩
theorem cy.upd {X:Cx} {pins:List (Addr×Obj)} {H:Hp} {b T:Addr} {o:HO} (f:cy X pins H b) (h:b≠T):cy X pins (upd H T o) b:=by
 obtain⟨f0,r⟩:=f
 exact⟨by rw[aA h];exact f0,r⟩
theorem uy {P:Program} {w:World} {K:PySem.W.Frag} {elts:List Expr} {x1:Nat} {pt:Pos} (a e it:Addr) (n:Nat):gJ P w K (.Tuple elts x1 pt) (Ite K a n) [e,it] e (fun i h=>(∃ old,IsEnum h e it i old)/\h.IsTupleIter it a i/\e≠it/\i<=n) where
 mem:=by simp
 obj:=fun i h st b hb=>by
  rcases List.mem_cons.mp hb with z|z
  ·subst z
   obtain⟨⟨old,q⟩,_⟩:=st
   exact⟨_,q,fun v z=>by cases z⟩
  ·have z:=List.mem_singleton.mp z
   subst z
   obtain⟨_,⟨o,q,c,d⟩,_⟩:=st
   exact⟨o,q,fun v z=>by rw[d]at z;cases z⟩
 keep:=fun i h h' st k=>by
  obtain⟨⟨old,q⟩,⟨o,q2,r⟩,ne,le⟩:=st
  exact⟨⟨old,k e (by simp) _ q⟩,⟨o,k it (by simp) o q2,r⟩,ne,le⟩
 item:=by
  intro X hP hw hK hc i pins s σ H E I hf st hg
  subst hP hw hK
  obtain⟨⟨xs,hq,hxl⟩,hin⟩:=hg
  have hx:xs[i]?=some (xs[i]'(by omega)):=by simp[hxl,hin]
  generalize xs[i]'(by omega)=x at hx
  obtain⟨⟨old,he⟩,hit,hne,hle⟩:=st
  obtain⟨its,rv,p,hz⟩:=I.tuple hq
  obtain⟨u,hu,ru⟩:=rv.get hx
  have hT:s.heap.IsTuple a its.toArray:=p
  have hal:a≠it:=fun z=>by
   obtain⟨o,q,c,_⟩:=hT
   obtain⟨o',q',c',_⟩:=hit
   rw[z,q']at q;cases q;rw[c']at c;exact absurd c (by decide)
  have hea:e≠a:=fun z=>by
   obtain⟨o,q,c,_⟩:=hT
   rw[<-z,he]at q;cases q;exact absurd (show Value.type "enumerate"=Value.type "tuple" from c) (by decide)
  have fe:=hf e (by simp)
  have fi:=hf it (by simp)
  have hlt:i<its.toArray.size:=by
   have h1:=(List.getElem?_eq_some_iff.mp hu).1
   simpa using h1
  have eT:e<s.heap.objs.size:=Heap.lt_size he
  have iT:it<s.heap.objs.size:=by obtain⟨o,q,_⟩:=hit;exact Heap.lt_size q
  refine wpAny_pyNext_enum_itemD (m7 (A:=X.A.in1) (I.ok.hd hc) it a hal its.toArray) he ⟨hit,hT⟩ hlt hne (by simp[hne,hea]) fun y h1 tk hy hout hst hTn hsz hk=>?_
  have ey:y=u:=by
   have h2:its[i]?=some y:=by simpa using hy
   rw[hu]at h2;cases h2;rfl
  subst ey
  refine⟨_,rfl,?_⟩
  have In:H s.heap.objs.size=none:=I.hok.fresh (Nat.le_refl _)
  have I1:Inv X pins σ (upd H s.heap.objs.size (.tup [.int i,x])) { s with heap:=s.heap.push { cls:=.type "tuple",data:=.seq #[.int i tk,y] },toks:=tk+1 } :=
   I.laid (fun b o q=>Heap.get?_push_of_some _ q) (Nat.le_refl _) ⟨by simp only[List.length_cons,List.length_nil];rw[sizeLine_eq];decide,[.int i tk,y],.cons ⟨_,rfl⟩ (.cons ru .nil),⟨_,Heap.get?_push_size s.heap rfl,rfl,⟨0,rfl⟩,rfl⟩⟩
  have fe1:cy X pins (upd H s.heap.objs.size (.tup [.int i,x])) e:=fe.upd (Nat.ne_of_lt eT)
  have fi1:cy X pins (upd H s.heap.objs.size (.tup [.int i,x])) it:=fi.upd (Nat.ne_of_lt iT)
  have I2:Inv X pins σ (upd H s.heap.objs.size (.tup [.int i,x])) { s with heap:=h1,toks:=tk+1 }:=I1.turned2 (t':=tk+1) (fun b o hb1 hb2 q=>by
   by_cases hbs:b=s.heap.objs.size
   ·subst hbs
    rw[Heap.get?_push_size s.heap rfl]at q
    cases q
    exact hTn
   ·refine hk b o hb1 hb2 ?_
    rcases Heap.get?_push_cases q with z|z
    ·exact absurd z.1 hbs
    ·exact z) fe1 fi1
  refine wpAny_letOwnedTupleGo_enum hout fun h2 he2 hs2=>?_
  obtain⟨g0,g1,g2,g3,g4,g5⟩:=fe1
  have I3:=I2.turned (t':=tk+1) (h':=h2) (it:=e) (fun b o hb q=>(hs2.2 b hb).trans q) g0 g1 g3 g4 g5
  refine⟨.ref s.heap.objs.size,_,I3,rfl,⟨_,x,rfl,In,rfl,fun ys hys=>by rw[I.tuple_inj hys hq];exact hx⟩,⟨⟨y,by simpa using he2⟩,?_,hne,hin⟩,fun b hb=>?_⟩
  ·obtain⟨o,q,r⟩:=hst.1
   exact⟨o,(hs2.2 it (Ne.symm hne)).trans q,r⟩
  ·rcases List.mem_cons.mp hb with z|z
   ·subst z;exact g0
   ·rw[List.mem_singleton.mp z];exact fi1.1
 done:=by
  intro X hP hw hK hc i pins s σ H E I hf st hg
  subst hP hw hK
  obtain⟨⟨xs,hq,hxl⟩,hx⟩:=hg
  obtain⟨⟨old,he⟩,hit,hne,hle⟩:=st
  obtain⟨its,rv,p,hz⟩:=I.tuple hq
  have hT:s.heap.IsTuple a its.toArray:=p
  have hal:a≠it:=fun z=>by
   obtain⟨o,q,c,_⟩:=hT
   obtain⟨o',q',c',_⟩:=hit
   rw[z,q']at q;cases q;rw[c']at c;exact absurd c (by decide)
  obtain⟨f0,f1,f2,f3,f4,f5⟩:=hf it (by simp)
  have hl:=rv.length
  have hi:i=its.toArray.size:=by simp;omega
  rw[hi]at hit
  exact wpAny_pyNext_enum_endD (m7 (A:=X.A.in1) (I.ok.hd hc) it a hal its.toArray) he ⟨hit,hT⟩ fun h' eb=>⟨rfl,I.turned (t':=s.toks) (fun b o hb q=>eb b o hb q) f0 f1 f3 f4 f5⟩
 self:=fun _ _ _ _ _ st h=>by
  obtain⟨⟨old,he⟩,_⟩:=st
  exact wpAny_pyIter_enum he h
section
variable {X:Cx} {a:Expr} {t:TAd} {pos:Pos}
def mJ (n:Nat):List D->List D
 |[]=>[]
 |d::r=>.tup [.int n,d]::mJ (n+1) r
theorem p9:∀ (ds:List D) (n i:Nat),(mJ n ds)[i]?=(ds[i]?).map fun d=>.tup [.int ((n+i:Nat):Int),d]
 |[],n,i=>by simp[mJ]
 |d::r,n,0=>by simp[mJ]
 |d::r,n,i+1=>by
  simp only[mJ,List.getElem?_cons_succ]
  rw[p9 r (n+1) i]
  have:n+1+i=n+(i+1):=by omega
  rw[this]
theorem qz:∀ (ds:List D) (n:Nat),(mJ n ds).length=ds.length
 |[],_=>rfl
 |d::r,n=>by simp[mJ,qz r (n+1)]
def oT (ta:TAd):TId:=fun Δ M R=>ta Δ M fun ds M1=>∃ es,ds=[.tup es]/\(es.length<=sizeLine->R (mJ 0 es) M1)
theorem l8:bootBuiltins "enumerate"=some (.type "enumerate"):=by kernel_rfl
theorem Bj {elts:List Expr} {x1:Nat} {pt p:Pos} (hg:Gl X "enumerate") (hm:X.mg "enumerate"=none) (ha:PAd X [a] t) (hs:starEach [a] X.env=[(false,eval a X.env)]:=by rfl):PId X (.Tuple elts x1 pt) (.Call (.Name "enumerate" p) [a] [] pos) (oT t):=by
 intro pins s σ H R I hh
 obtain⟨Δ,M,R',sr,hr,q,k⟩:=hh
 refine Call_ (h7 I hg hm l8 (PyProof.Rows.callWith_type1 (thn (ha pos pins s σ H (fun vs H1=>∃ es M1,af X.K M1 H1 [.tup es] vs/\(es.length<=sizeLine->R' (mJ 0 es) M1)/\Ext M H M1 H1/\HR X.K M1 H1) I ⟨Δ,M,_,sr,hr,q,fun ds M1 vs H1 ⟨es,ed,q1⟩ e1 hr1 rv=>⟨es,M1,by rw[<-ed];exact rv,q1,e1,hr1⟩⟩) fun us s1 ⟨vs,H1,I1,r1,es,M1,rv,q1,e1,hr1⟩=>?_) hs rfl))
 obtain⟨v,rfl,rt⟩:=rv.one
 cases r1 with
 |cons r rr =>
  cases rr
  have lo:=au.len (K:=X.K) I1 rt
  simp only[Rep]at rt
  obtain⟨ad,vs,rfl,ta,rl⟩:=rt
  cases r
  obtain⟨its,rvv,pt',hz⟩:=I1.tuple ta.sq
  have hl2:=rl.length
  refine j5 (show s1.heap.IsTuple ad its.toArray from pt') fun h' he hit hsz hk=>?_
  refine wpAny_pyIter_enum he ?_
  refine⟨s1.heap.objs.size+1,[s1.heap.objs.size+1,s1.heap.objs.size],_,_,H1,rfl,I1.kept (t':=s1.toks) hk,uy ad _ _ es.length,⟨⟨_,he⟩,hit,Nat.succ_ne_self _,Nat.zero_le _⟩,fun b hb=>?_,?_⟩
  ·rcases List.mem_cons.mp hb with z|z
   ·subst z;exact I1.fpOk (by omega) (I1.hok.fresh (by omega))
   ·rw[List.mem_singleton.mp z];exact I1.fpOk (Nat.le_refl _) (I1.hok.fresh (Nat.le_refl _))
  ·refine k _ M1 _ H1 (q1 lo) e1 hr1 fun M2 H2 e2 hr2 i=>⟨fun d hd=>?_,fun hl=>⟨⟨vs,(ta.ext e2).sq,by omega⟩,by rw[qz]at hl;exact hl⟩⟩
   rw[p9]at hd
   cases hdi:es[i]? with
   |none=>rw[hdi]at hd;cases hd
   |some d0 =>
    rw[hdi]at hd
    have hd':D.tup [.int ((0+i:Nat):Int),d0]=d:=by simpa using hd
    subst hd'
    have hi:i<es.length:=(List.getElem?_eq_some_iff.mp hdi).1
    obtain⟨v0,gv,r0⟩:=rl.get hdi
    refine⟨⟨⟨vs,(ta.ext e2).sq,by omega⟩,hi⟩,fun x H' ⟨T,y,ex,hT,eH,hy⟩=>?_⟩
    subst ex;subst eH
    have hh:=hy vs (ta.ext e2).sq
    rw[gv]at hh;cases hh
    refine⟨Ext.new hr2 hT,hr2.new hT,?_⟩
    simp only[Rep]
    refine⟨T,[.int i,v0],rfl,.inl ⟨.inl ax,hr2.fresh hT⟩,?_⟩
    exact af.cons (by simp[Rep]) (af.cons ((r0.ext e2).ext (Ext.new hr2 hT)) af.nil)
theorem sR {elts:List Expr} {x1:Nat} {pt p:Pos} (hg:Gl X "enumerate") (hm:X.mg "enumerate"=none) (ha:QAd X [a] t) (hs:starEach [a] X.env=[(false,eval a X.env)]:=by rfl):QId X (.Tuple elts x1 pt) (.Call (.Name "enumerate" p) [a] [] pos) (oT t):=by
 simp only[QEd.eq,QAd.eq,QTd.eq,QWd.eq,QSd.eq,QSs.eq,QId.eq,QIf.eq,QOd.eq]at *
 exact Bj hg hm ha hs
end
section
variable {X:Cx} {pos:Pos}
/-! ### xs[lo:hi]=ys -/
/-! ### list(tuple) as a list of our own -/
theorem C2 {i j:Int}:dmD [.int i,.int j]=if oz i j then some (.tup [.int (i / j),.int (i % j)])else none:=rfl
theorem zT {i j:Int}:Fw [.int i,.int j]=some (.int (if j > i then j else i)):=rfl
theorem wF:qB 10 60=True:=by simp[qB]
theorem CJ {x:Int} (h0:-(10 ^ 60)<x) (h1:x<10 ^ 60):Few x:=by
 unfold Few
 rw[intBits_le_iff]
 have h2:x.natAbs<10 ^ 60:=by omega
 exact Nat.lt_of_lt_of_le h2 (Nat.le_trans (by decide:10 ^ 60<=2 ^ 200) (Nat.pow_le_pow_right (by decide) (by decide)))
theorem DS {i j:Int} (h:Few i/\Few j):iI i j=True:=by simp[iI,h]
end
section
variable {X:Cx} {e:Expr} {te ts:TEd} {pos:Pos}
/-! ### xs[::-1] of a list -/
end
/-! ### tables of deep data -/
section
variable {κ:Type} [DecidableEq κ]
def aX (kvs:List (κ×D)) (k:κ):Option D:=(kvs.find? fun kv=>decide (kv.1=k)).map (·.2)
def eG (kvs:List (κ×D)) (k:κ) (v:D):List (κ×D) :=
 if(kvs.any fun kv=>decide (kv.1=k))=true then kvs.map (fun kv=>if kv.1=k then(kv.1,v)else kv)else kvs++[(k,v)]
theorem bH {p:κ×D} {r:List (κ×D)} {k:κ} (e:p.1=k):aX (p::r) k=some p.2:=by simp[aX,List.find?_cons,e]
theorem bC {p:κ×D} {r:List (κ×D)} {k:κ} (e:¬ p.1=k):aX (p::r) k=aX r k:=by simp[aX,List.find?_cons,e]
theorem kM (k:κ):∀ kvs:List (κ×D),(kvs.any fun kv=>decide (kv.1=k))=(aX kvs k).isSome
 |[]=>rfl
 |p::r=>by
  rw[List.any_cons]
  by_cases e:p.1=k
  ·simp only[bH e,decide_eq_true e,Bool.true_or,Option.isSome_some]
  ·rw[bC e,decide_eq_false e,Bool.false_or];exact kM k r
theorem pj (k j:κ) (y:D):∀ kvs:List (κ×D),aX (kvs.map fun kv=>if kv.1=k then(kv.1,y)else kv) j=(aX kvs j).map fun x=>if j=k then y else x
 |[]=>rfl
 |p::r=>by
  have ih:=pj k j y r
  rw[List.map_cons]
  by_cases h:p.1=k
  ·rw[if_pos h]
   by_cases e:p.1=j
   ·rw[bH (p:=(p.1,y)) e,bH e,Option.map_some,if_pos (e.symm.trans h)]
   ·rw[bC (p:=(p.1,y)) e,bC e,ih]
  ·rw[if_neg h]
   by_cases e:p.1=j
   ·rw[bH (p:=p) e,bH e,Option.map_some,if_neg (fun z=>h (e.trans z))]
   ·rw[bC (p:=p) e,bC e,ih]
theorem nJ (k j:κ) (y:D):∀ kvs:List (κ×D),aX kvs k=none->aX (kvs++[(k,y)]) j=if j=k then some y else aX kvs j
 |[],_=>by
  by_cases e:k=j
  ·rw[if_pos e.symm];exact bH (p:=(k,y)) e
  ·rw[if_neg (fun z=>e z.symm)];exact bC (p:=(k,y)) e
 |p::r,hn=>by
  rw[List.cons_append]
  have hk:¬ p.1=k:=fun z=>by rw[bH z]at hn;cases hn
  rw[bC hk]at hn
  have ih:=nJ k j y r hn
  by_cases e:p.1=j
  ·rw[bH e,bH e,if_neg (fun z=>hk (e.trans z))]
  ·rw[bC e,bC e,ih]
theorem lA (kvs:List (κ×D)) (k j:κ) (y:D):aX (eG kvs k y) j=if j=k then some y else aX kvs j:=by
 unfold eG
 by_cases a:(kvs.any fun kv=>decide (kv.1=k))=true
 ·rw[if_pos a,pj]
  rw[kM]at a
  by_cases e:j=k
  ·obtain⟨x,hx⟩:=Option.isSome_iff_exists.mp a
   rw[if_pos e,e,hx,Option.map_some,if_pos rfl]
  ·rw[if_neg e]
   cases aX kvs j with
   |none=>rfl
   |some x=>rw[Option.map_some,if_neg e]
 ·rw[if_neg a]
  refine nJ k j y kvs ?_
  rw[kM]at a
  cases q:aX kvs k with
  |none=>rfl
  |some x=>rw[q]at a;exact(a rfl).elim
theorem jX (kvs:List (κ×D)) (k:κ) (v:D):(eG kvs k v).length<=kvs.length+1:=by
 unfold eG
 split
 ·rw[List.length_map];omega
 ·rw[List.length_append,List.length_cons,List.length_nil];omega
variable {K:PySem.W.Frag} {M:DH} {H:Hp}
theorem KR.val {kvs:List (κ×D)} {ks:List (κ×V)} (h:KR K M H kvs ks) (k:κ):(∀ d,aX kvs k=some d->∃ v,eM ks k=some v/\Rep K M H d v)/\(eM ks k).isSome=(aX kvs k).isSome:=by
 unfold KR at h
 induction h with
 |nil=>exact⟨fun d e=>(nomatch e),rfl⟩
 |@cons p q ps qs r t ih =>
  by_cases e:p.1=k
  ·rw[bH e,iu (r.1.symm.trans e)]
   exact⟨fun d z=>(by cases z;exact⟨_,rfl,r.2⟩),rfl⟩
  ·rw[bC e,iZ (fun z=>e (r.1.trans z))];exact ih
theorem KR.any {kvs:List (κ×D)} {ks:List (κ×V)} (h:KR K M H kvs ks) (k:κ):(ks.any fun kv=>decide (kv.1=k))=kvs.any fun kv=>decide (kv.1=k):=by
 unfold KR at h
 induction h with
 |nil=>rfl
 |cons r _ ih=>rw[List.any_cons,List.any_cons,ih,r.1]
theorem KR.length {kvs:List (κ×D)} {ks:List (κ×V)} (h:KR K M H kvs ks):kvs.length=ks.length:=Paired.length h
theorem KR.put {kvs:List (κ×D)} {ks:List (κ×V)} (h:KR K M H kvs ks) (k:κ) {d:D} {v:V} (r:Rep K M H d v):KR K M H (eG kvs k d) (dg ks k v):=by
 unfold eG dg
 rw[h.any k]
 by_cases e:(kvs.any fun kv=>decide (kv.1=k))=true
 ·rw[if_pos e,if_pos e]
  clear e
  unfold KR at h ⊢
  induction h with
  |nil=>exact .nil
  |@cons p q ps qs r1 t ih =>
   rw[List.map_cons,List.map_cons]
   refine .cons ?_ ih
   by_cases e:p.1=k
   ·rw[if_pos e,if_pos (r1.1.symm.trans e)];exact⟨r1.1,r⟩
   ·rw[if_neg e,if_neg (fun z=>e (r1.1.trans z))];exact r1
 ·rw[if_neg e,if_neg e];exact Paired.snoc h ⟨rfl,r⟩
end
def kD:Key->D
 |.inl i=>.int i
 |.inr x=>.str x
theorem lr {K:PySem.W.Frag} {M:DH} {H:Hp} {k:Key} {v:V} (h:Rep K M H (kD k) v):v=kV k:=by
 cases k<;>simpa[kD,Rep,kV]using h
theorem jd {K:PySem.W.Frag} {M:DH} {H:Hp}:∀ {ks:List Key} {vs:List V},af K M H (ks.map kD) vs->vs=ks.map kV
 |[],_,h=>by simpa[af]using h
 |k::ks,_,h=>by
  simp only[List.map_cons,af]at h
  obtain⟨v,ws,rfl,h1,h2⟩:=h
  rw[lr h1,jd h2];rfl
section
variable {X:Cx} {a b c e o i:Expr} {es:List Expr} {te to ti ta tb:TEd} {t:TAd} {pos:Pos}
/-! new dicts -/
def dDT:TEd:=fun _ M Q=>∀ p,M p=none->Q (.ref p) (al M p (.dT []))
theorem Fk:PEd X (.Dict [] [] pos) dDT:=PE.conv xj fun σ H Q ⟨Δ,M,R,sr,hr,q,k⟩=>fun p hp =>
 k _ _ _ _ (q p (hr.fresh hp)) (Ext.own hp) (hr.put (Ext.own hp) ⟨[],ax,.nil⟩) (by simp only[Rep])
def rF (tk tv:TEd):TEd:=fun Δ M Q=>∀ p,M p=none->tk Δ (al M p (.dK [])) fun x M1=>tv Δ M1 fun y M2=>∃ k,x=kD k/\M2 p=some (.dK [])/\Q (.ref p) (al M2 p (.dK [(k,y)]))
theorem yB (ha:PEd X a ta) (hb:PEd X b tb):PEd X (.Dict [some a] [b] pos) (rF ta tb) :=
 PE.conv (z3 (v4 ha hb yo) rfl rfl (by simp) (by simp)) fun σ H Q ⟨Δ,M,R,sr,hr,q,k⟩=>fun p hp=>by
  have e0:Ext M H (al M p (.dK [])) (upd H p (.dK [])):=Ext.own hp
  refine⟨Δ,_,_,sr.ext e0,hr.put e0 ⟨[],ax,.nil⟩,q p (hr.fresh hp),fun x M1 v H1 q1 e1 hr1 rv=>⟨Δ,M1,_,(sr.ext e0).ext e1,hr1,q1,fun y M2 u H2 ⟨ky,ex,em,q2⟩ e2 hr2 ru=>?_⟩⟩
  obtain⟨ks,h2,kr⟩:=hr2 p _ em
  cases kr
  subst ex
  refine⟨h2,[(ky,u)],?_,by simp,?_⟩
  ·rw[lr rv];rfl
  ·have em':ie [] [(ky,u)]=[(ky,u)]:=by simp[ie,dg]
   rw[em']
   have ew:Ext M2 H2 (al M2 p (.dK [(ky,y)])) (upd H2 p (.dK [(ky,u)])):=Ext.write em
   exact k _ _ _ _ q2 ((e0.trans (e1.trans e2)).trans ew) (hr2.put ew ⟨_,ax,.cons ⟨rfl,ru.ext ew⟩ .nil⟩) (by simp only[Rep])
/-! d[k],k a scalar;d[x,y] -/
/-! k in d,(x,y)in d -/
def zB (neg:Bool) (ty td:TE):TE:=fun σ H Q=>ty σ H fun y H1=>td σ H1 fun x H2=>∃ a o,x=.ref a/\ia H2 a y o/\Q (.bl (xor neg o.isSome)) H2
theorem xC {ty td:TE} {op:CmpOp} {neg:Bool} (hop:op=(if neg then .NotIn else .In)) (hu:X.A.units+1<cLine) (hi:PE X i ty) (ho:PE X o td):PC X op i o (zB neg ty td):=by
 subst hop
 cases neg with
 |false =>
  intro pins s σ H Q I h
  exact Cz hu hi ho pins s σ H Q I (by simpa[zB,D5]using h)
 |true =>
  intro pins s σ H Q I h
  exact uv hu hi ho pins s σ H Q I (by simpa[zB,tq]using h)
def uJ (neg:Bool) (t:TAd) (to:TEd):TEd:=fun Δ M Q=>t Δ M fun ds M1=>ds.length<=sizeLine/\to Δ M1 fun x M2=>∃ a kvs ks,x=.ref a/\M2 a=some (.dT kvs)/\ds=ks.map kD/\Q (.bl (xor neg (aX kvs ks).isSome)) M2
theorem pH {K:PySem.W.Frag} {neg:Bool}:∀ σ H Q,up K (uJ neg t to) σ H Q->zB neg (D9 (upA K t)) (up K to) σ H Q:=fun σ H Q ⟨Δ,M,R,sr,hr,q,k⟩=>⟨Δ,M,_,sr,hr,q,fun ds M1 vs H1 ⟨z,q1⟩ e1 hr1 rv=>⟨by rw[<-rv.length];exact z,fun p hp=>⟨Δ,M1,_,(sr.ext e1).ext (Ext.new hr1 hp),hr1.new hp,q1,fun x M2 u H2 ⟨a,kvs,ky,ex,em,ey,q2⟩ e2 hr2 ru=>by
  subst ex;subst ey
  simp only[Rep]at ru
  subst ru
  obtain⟨ks,h2,kr⟩:=hr2 a _ em
  have eb:=(e2 p _ ax (hr1.fresh hp)).1
  rw[jd rv]at eb
  refine⟨a,eM ks ky,rfl,ia.t h2 eb,?_⟩
  rw[(kr.val ky).2]
  exact k _ M2 _ H2 q2 ((e1.trans (Ext.new hr1 hp)).trans e2) hr2 (by simp only[Rep])⟩⟩⟩
theorem DN (neg:Bool) {x1} {p:Pos} {op:CmpOp} (hop:op=(if neg then .NotIn else .In)) (hu:X.A.units+1<cLine) (ht:PAd X es t) (ho:PEd X o to) (hm:behindInMarks op o=false):PEd X (.Compare (.Tuple es x1 p) [op] [o] pos) (uJ neg t to) :=
 PE.conv (B2 (xC hop hu (lw ht) ho) hm) pH
theorem Fv {K:PySem.W.Frag} {te:TEd} {tv:TE} (h:∀ σ H Q,up K te σ H Q->tv σ H Q):∀ σ H Q,upT K (i3 te) σ H Q->tB tv σ H Q:=fun σ H Q ⟨Δ,M,R,sr,hr,q,k⟩ =>
 h σ H _ ⟨Δ,M,_,sr,hr,q,fun d M1 v H1 ⟨b,e,q1⟩ e1 hr1 rv=>⟨b,by subst e;simpa only[Rep]using rv,k b M1 H1 q1 e1 hr1⟩⟩
theorem CZ (neg:Bool) {x1} {p:Pos} {op:CmpOp} (hop:op=(if neg then .NotIn else .In)) (hu:X.A.units+1<cLine) (ht:PAd X es t) (ho:PEd X o to) (hm:behindInMarks op o=false):PTd X (.Compare (.Tuple es x1 p) [op] [o] pos) (i3 (uJ neg t to)) :=
 PT.conv (C7 (xC hop hu (lw ht) ho) hm) (Fv pH)
/-! d[k]=v,d[x,y]=v -/
def pq (to ti te:TEd):TSd:=fun E Δ M=>te Δ M fun d M1=>to Δ M1 fun x M2=>ti Δ M2 fun y M3=>∃ a kvs k,x=.ref a/\M3 a=some (.dK kvs)/\y=kD k/\kvs.length<sizeLine/\E.nx Δ (al M3 a (.dK (eG kvs k d)))
theorem AB {p:Pos} (hu:X.A.units+1<cLine) (ho:PEd X o to) (hi:PEd X i ti) (he:PEd X e te) (hs:swapsWith e (some (.Subscript o i p)) pos.line X.env=pure false:=by rfl):PSd X (.Assign [.Subscript o i p] e pos) (pq to ti te) :=
 PS.conv (o0 hu ho hi he hs) fun D σ H ⟨Δ,M,E,sr,hr,q,k⟩=>⟨Δ,M,_,sr,hr,q,fun d M1 v H1 q1 e1 hr1 rv=>⟨Δ,M1,_,sr.ext e1,hr1,q1,fun x M2 u H2 q2 e2 hr2 ru=>⟨Δ,M2,_,(sr.ext e1).ext e2,hr2,q2,fun y M3 w H3 ⟨a,kvs,ky,ex,em,ey,hz,q3⟩ e3 hr3 rw_=>by
  subst ex;subst ey
  simp only[Rep]at ru
  subst ru
  obtain⟨ks,h3,kr⟩:=hr3 a _ em
  have ew:Ext M3 H3 (al M3 a (.dK (eG kvs ky d))) (upd H3 a (.dK (dg ks ky v))):=Ext.write em
  refine⟨a,_,rfl,by rw[lr rw_];exact oN.k h3 (by rw[<-kr.length];exact hz),?_⟩
  exact k.nx Δ _ σ _ q3 (((e1.trans e2).trans e3).trans ew) (hr3.put ew ⟨_,ax,(kr.put ky ((rv.ext e2).ext e3)).ext ew⟩) ((((sr.ext e1).ext e2).ext e3).ext ew)⟩⟩⟩
def vv (to:TEd) (t:TAd) (te:TEd):TSd:=fun E Δ M=>te Δ M fun d M1=>to Δ M1 fun x M2=>t Δ M2 fun ds M3=>ds.length<=sizeLine/\∃ a kvs ks,x=.ref a/\M3 a=some (.dT kvs)/\ds=ks.map kD/\kvs.length<sizeLine/\E.nx Δ (al M3 a (.dT (eG kvs ks d)))
theorem Dg {x1} {p p2:Pos} (hu:X.A.units+1<cLine) (ho:PEd X o to) (ht:PAd X es t) (he:PEd X e te) (hs:swapsWith e (some (.Subscript o (.Tuple es x1 p2) p)) pos.line X.env=pure false:=by rfl):PSd X (.Assign [.Subscript o (.Tuple es x1 p2) p] e pos) (vv to t te) :=
 PS.conv (o0 hu ho (lw ht) he hs) fun D σ H ⟨Δ,M,E,sr,hr,q,k⟩=>⟨Δ,M,_,sr,hr,q,fun d M1 v H1 q1 e1 hr1 rv=>⟨Δ,M1,_,sr.ext e1,hr1,q1,fun x M2 u H2 q2 e2 hr2 ru=>⟨Δ,M2,_,(sr.ext e1).ext e2,hr2,q2,fun ds M3 ws H3 ⟨hl,a,kvs,ky,ex,em,ey,hz,q3⟩ e3 hr3 rw_=>by
  subst ex;subst ey
  simp only[Rep]at ru
  subst ru
  refine⟨by rw[<-rw_.length];exact hl,fun p hp=>?_⟩
  obtain⟨ks,h3,kr⟩:=hr3 a _ em
  have hap:a≠p:=bO h3 hp
  have e4:Ext M3 H3 M3 (upd H3 p (.tup ws)):=Ext.new hr3 hp
  have hr4:=hr3.new (o:=.tup ws) hp
  have ew:Ext M3 (upd H3 p (.tup ws)) (al M3 a (.dT (eG kvs ky d))) (upd (upd H3 p (.tup ws)) a (.dT (dg ks ky v))):=Ext.write em
  have h4:upd H3 p (.tup ws) a=some (.dT ks):=by rw[aA hap];exact h3
  refine⟨a,_,rfl,oN.t h4 (by rw[ax,jd rw_]) (by rw[<-kr.length];exact hz),?_⟩
  exact k.nx Δ _ σ _ q3 ((((e1.trans e2).trans e3).trans e4).trans ew) (hr4.put ew ⟨_,ax,((kr.ext e4).put ky (((rv.ext e2).ext e3).ext e4)).ext ew⟩) (((((sr.ext e1).ext e2).ext e3).ext e4).ext ew)⟩⟩⟩
/-! d.get((x,y),z) -/
end
section
variable {X:Cx} {a b c e o:Expr} {es:List Expr} {te to:TEd} {t:TAd} {pos:Pos} {tg:Expr}
/-! min,sum -/
def FC:List D->Option D
 |[.int i,.int j]=>some (.int (if j<i then j else i))
 |_=>none
def fu:List D->Option (List Int)
 |[]=>some []
 |.int i::ds=>(fu ds).map (i::·)
 |_=>none
theorem lW:∀ {ns:List Int},fu (ns.map D.int)=some ns
 |[]=>rfl
 |n::ns=>by simp[fu,lW (ns:=ns)]
theorem nI {K:PySem.W.Frag} {M:DH} {H:Hp}:∀ {ds:List D} {ns:List Int} {vs:List V} {us:List Value},fu ds=some ns->af K M H ds vs->aq vs us->∃ xs:Array (Int×Tok),us.toArray=intItems xs/\xs.toList.map (·.1)=ns
 |[],_,_,_,e,h,r=>by
  simp only[fu,Option.some.injEq]at e;subst e
  simp only[af]at h;subst h
  cases r
  exact⟨#[],by simp[intItems],rfl⟩
 |.int i::ds,ns,vs,us,e,h,r=>by
  simp only[fu]at e
  cases q:fu ds with
  |none=>rw[q]at e;cases e
  |some ms =>
   rw[q]at e;cases e
   simp only[af]at h
   obtain⟨v,ws,rfl,h1,h2⟩:=h
   simp only[Rep]at h1;subst h1
   cases r with
   |@cons x u xs' us' r1 r2 =>
    obtain⟨t,rfl⟩:=r1
    obtain⟨ys,e1,e2⟩:=nI q h2 r2
    refine⟨(((i,t)::ys.toList)).toArray,?_,by simp[e2]⟩
    have:us'=(intItems ys).toList:=by rw[<-e1]
    rw[this]
    simp[intItems]
 |.non::_,_,_,_,e,_,_=>by cases e
 |.bl _::_,_,_,_,e,_,_=>by cases e
 |.str _::_,_,_,_,e,_,_=>by cases e
 |.tup _::_,_,_,_,e,_,_=>by cases e
 |.lst _::_,_,_,_,e,_,_=>by cases e
 |.scr _::_,_,_,_,e,_,_=>by cases e
 |.emp::_,_,_,_,e,_,_=>by cases e
 |.box _ _::_,_,_,_,e,_,_=>by cases e
 |.ref _::_,_,_,_,e,_,_=>by cases e
/-! xs.pop(),xs.extend(ys) -/
/-! range(a,b,c),c a written step -/
def By (lo c:Int) (n:Nat):It:=⟨fun i _=>i<n,fun i H x H'=>H'=H/\x=.int (lo+i*c),fun i _=>n<=i⟩
theorem pR {P:Program} {w:World} {K:PySem.W.Frag} {tg:Expr} (it:Addr) (lo c:Int) (n:Nat):gJ P w K tg (By lo c n) [it] it (fun i h=>IsRangeIter h it (lo+(i:Nat)*c) ((n:Int)-(i:Nat)) c) where
 mem:=by simp
 obj:=fun i h st b hb=>by
  have e:b=it:=by simpa using hb
  subst e
  exact⟨_,st,fun v z=>by
   have z':Data.fields _=Data.cell v:=z
   cases z'⟩
 keep:=fun i h h' st k=>k it (by simp) _ st
 item:=by
  intro X hP hw hK hc i pins s σ H E I hf st hg
  subst hP hw hK
  obtain⟨f0,f1,f2,f3,f4,f5⟩:=hf it (by simp)
  have W:=Walks.range (prog:=X.prog) (w:=X.w) (I.ok.hd hc) it lo c n
  refine W.item i s _ _ hg st fun v h' tk hv st' kk=>?_
  obtain⟨t,rfl⟩:=hv
  have I1:Inv X pins σ H { s with heap:=h',toks:=tk }:=I.turned (fun b o hb e=>kk b o (by simpa using hb) e) f0 f1 f3 f4 f5
  exact⟨_,rfl,nQ (s:={ s with heap:=h',toks:=tk }) (n:="range_iterator") st' rfl rfl (by decide) ⟨.int (lo+i*c),H,I1,⟨t,rfl⟩,⟨rfl,rfl⟩,st',fun b hb=>(hf b hb).1⟩⟩
 done:=by
  intro X hP hw hK hc i pins s σ H E I hf st hg
  subst hP hw hK
  obtain⟨f0,f1,f2,f3,f4,f5⟩:=hf it (by simp)
  exact wpAny_pyNext_range_end (I.ok.hd hc) st (by have:n<=i:=hg;omega) fun h' eb=>⟨rfl,I.turned (t':=s.toks) (fun b o hb e=>eb b o hb e) f0 f1 f3 f4 f5⟩
 self:=fun _ _ _ _ _ st h=>wpAny_pyIter_rangeiter st h
def szR (a b c:Int):Nat:=(Builtin.Range.rangeSize a b c).toNat
def E6 (ta:TA):TI:=fun σ H R=>ta σ H fun vs H1=>∃ i j c:Int,vs=[.int i,.int j,.int c]/\c≠0/\(-(2 ^ 20)<=i/\i<2 ^ 20/\-(2 ^ 20)<=j/\j<2 ^ 20/\-(2 ^ 20)<=c/\c<2 ^ 20)/\Builtin.Range.small i j c=true/\R (By i c (szR i j c)) H1
theorem zN {a b c:Int} (hc:c≠0):0<=Builtin.Range.rangeSize a b c:=by
 unfold Builtin.Range.rangeSize
 split
 ·split
  ·have:=Int.ediv_nonneg (a:=b-a-1) (b:=c) (by omega) (by omega);omega
  ·omega
 ·split
  ·have:=Int.ediv_nonneg (a:=a-b-1) (b:=-c) (by omega) (by omega);omega
  ·omega
theorem uL {ta:TA} {p:Pos} (hg:Gl X "range") (hm:X.mg "range"=none) (ha:PA X [a,b,c] ta) (hs:starEach [a,b,c] X.env=[(false,eval a X.env),(false,eval b X.env),(false,eval c X.env)]:=by rfl)
  (hs2:starEach [b,c] X.env=[(false,eval b X.env),(false,eval c X.env)]:=by rfl):PI X tg (.Call (.Name "range" p) [a,b,c] [] pos) (E6 ta):=by
 intro pins s σ H R I h
 refine Call_ (h7 I hg hm boot_range (PyProof.Rows.callWith_type1 (thn (ha pos pins s σ H _ I h) fun us s1 ⟨vs,H1,I1,r1,q1⟩=>?_) (by rw[hs,hs2]) (by rw[hs2];rfl)))
 obtain⟨i,j,st,e,hc,⟨b1,b2,b3,b4,b5,b6⟩,hsm,q⟩:=q1
 subst e
 cases r1 with
 |cons r rr =>
  cases rr with
  |cons r' rr =>
   cases rr with
   |cons r'' rr =>
    cases rr
    obtain⟨t,rfl⟩:=r
    obtain⟨t',rfl⟩:=r'
    obtain⟨t'',rfl⟩:=r''
    refine call_range_3 hc ?_ (Or.inl (PyProof.noPylong_small (by omega)))
    refine wpAny_pyIter_range (IsRange.new ..) hsm ?_
    have I2:Inv X pins σ H1 { s1 with heap:=s1.heap.push { cls:=.type "range",data:=.fields #[.int i t,.int j t',.int st t''] },toks:=s1.toks }:=I1.kept fun b o e=>Heap.get?_push_of_some _ e
    refine⟨(s1.heap.push { cls:=.type "range",data:=.fields #[.int i t,.int j t',.int st t''] }).objs.size,[(s1.heap.push { cls:=.type "range",data:=.fields #[.int i t,.int j t',.int st t''] }).objs.size],_,_,H1,rfl,
     I2.kept (t':=s1.toks) fun b o e=>Heap.get?_push_of_some _ e,pR _ i st (szR i j st),?_,fun b hb=>?_,q⟩
    ·have e1:i+((0:Nat):Int)*st=i:=by simp
     have e2:((szR i j st:Nat):Int)-((0:Nat):Int)=Builtin.Range.rangeSize i j st:=by
      unfold szR
      have:=zN (a:=i) (b:=j) hc
      omega
     show IsRangeIter _ _ (i+((0:Nat):Int)*st) (((szR i j st:Nat):Int)-((0:Nat):Int)) st
     rw[e1,e2]
     exact Heap.get?_push_size _ rfl
    ·have e:b=(s1.heap.push { cls:=.type "range",data:=.fields #[.int i t,.int j t',.int st t''] }).objs.size:=by simpa using hb
     subst e
     exact I2.fpOk (Nat.le_refl _) (I2.hok.fresh (Nat.le_refl _))
def oH (lo c:Int) (n:Nat):List D:=(List.range n).map fun(k:Nat)=>.int (lo+(k:Int)*c)
theorem lz {lo c:Int} {n i:Nat} {d:D} (h:(oH lo c n)[i]?=some d):i<n/\d=.int (lo+i*c):=by
 unfold oH at h
 rw[List.getElem?_map]at h
 by_cases hi:i<n
 ·rw[List.getElem?_range hi]at h;cases h;exact⟨hi,rfl⟩
 ·rw[List.getElem?_eq_none (by simp;omega)]at h;cases h
theorem zW {K:PySem.W.Frag} {lo c:Int} {n:Nat} {M1:DH} {H1:Hp}:ItD K (By lo c n) (oH lo c n) M1 H1:=fun M2 H2 e2 hr2 i=>⟨fun d hd=>by
  obtain⟨h1,rfl⟩:=lz hd
  refine⟨h1,fun x H' ⟨eH,y⟩=>?_⟩
  subst eH;subst y
  exact⟨Ext.refl _ _,hr2,by simp[Rep]⟩,fun hl=>by
  show n<=i
  simpa[oH]using hl⟩
def rW (ta:TAd):TId:=fun Δ M R=>ta Δ M fun ds M1=>∃ i j c:Int,ds=[.int i,.int j,.int c]/\(c=2∨c=-1)/\(-(2 ^ 20)<=i/\i<2 ^ 20/\-(2 ^ 20)<=j/\j<2 ^ 20)/\R (oH i c (szR i j c)) M1
theorem uz {a b c:Int} (hc:c=2∨c=-1) (ha:-(2 ^ 20)<=a) (ha':a<2 ^ 20) (hb:-(2 ^ 20)<=b) (hb':b<2 ^ 20):Builtin.Range.small a b c=true:=by
 unfold Builtin.Range.small Builtin.Range.rangeSize
 rcases hc with rfl|rfl
 ·simp only[Builtin.Range.rangeFitsLong,Bool.and_eq_true,Bool.or_eq_true,decide_eq_true_eq,beq_iff_eq,show(2:Int) > 0 by decide,if_true]
  split<;>omega
 ·simp only[Builtin.Range.rangeFitsLong,Bool.and_eq_true,Bool.or_eq_true,decide_eq_true_eq,beq_iff_eq,show ¬ (-1:Int) > 0 by decide,if_false,show(- (-1:Int))=1 from rfl,Int.ediv_one]
  split<;>omega
theorem af.three {K:PySem.W.Frag} {M:DH} {H:Hp} {d e f:D} {vs:List V} (h:af K M H [d,e,f] vs):∃ v w z,vs=[v,w,z]/\Rep K M H d v/\Rep K M H e w/\Rep K M H f z:=by
 simp only[af]at h
 obtain⟨v,us,rfl,h1,w,ws,rfl,h2,z,zs,rfl,h3,rfl⟩:=h
 exact⟨v,w,z,rfl,h1,h2,h3⟩
theorem Cj {ta:TAd} {p:Pos} (hg:Gl X "range") (hm:X.mg "range"=none) (ha:PAd X [a,b,c] ta) (hs:starEach [a,b,c] X.env=[(false,eval a X.env),(false,eval b X.env),(false,eval c X.env)]:=by rfl)
  (hs2:starEach [b,c] X.env=[(false,eval b X.env),(false,eval c X.env)]:=by rfl):PId X tg (.Call (.Name "range" p) [a,b,c] [] pos) (rW ta) :=
 (uL hg hm ha hs hs2).conv fun σ H R ⟨Δ,M,R',sr,hr,q,k⟩ => ⟨Δ,M,_,sr,hr,q,fun ds M1 vs H1 ⟨i,j,st,ed,h1,h2,q1⟩ e1 hr1 rv => by
  subst ed
  obtain⟨v,w,z,ev,rv1,rv2,rv3⟩:=rv.three
  have ev1:v=.int i:=by simpa only[Rep]using rv1
  have ev2:w=.int j:=by simpa only[Rep]using rv2
  have ev3:z=.int st:=by simpa only[Rep]using rv3
  subst ev1;subst ev2;subst ev3;subst ev
  exact⟨i,j,st,rfl,by omega,⟨h2.1,h2.2.1,h2.2.2.1,h2.2.2.2,by omega,by omega⟩,uz h1 h2.1 h2.2.1 h2.2.2.1 h2.2.2.2,k _ M1 _ H1 q1 e1 hr1 zW⟩⟩
end
/-! ### a comprehension whose own names are cells (another one within reads them) -/
structure Fb (X:Cx) (scope:Scope) (cl:List (Str×Addr)) (ms:List Bool) (extra:List Str):Prop where
 kind:scope.kind=.function
 names:∀ y∈scope.names,y.2=.local->scope.names.lookup y.1=some .local
 cellN:∀ y∈scope.names,y.2=.cell->scope.names.lookup y.1=some .cell
 clos:closureFor scope X.env=pure cl
 sub:∀ x c,cl.lookup x=some c->X.env.cells.lookup x=some c
 fre:∀ x c,cl.lookup x=some c->scope.names.lookup x=some .free
 has:∀ x,scope.names.lookup x=some .free->∃ c,cl.lookup x=some c
 fr:∀ x,scope.names.lookup x=some .free->X.env.scope.names.lookup x=some .cell∨X.env.scope.names.lookup x=some .free
 mask:∀ (i:Nat) (x:Str),ms[i]?=some true->X.N[i]?=some x->scope.names.lookup x=some .free
 mlen:ms.length<=X.N.length
section
variable {X:Cx} {tg iter elt:Expr} {pos:Pos} {scope:Scope} {cl:List (Str×Addr)} {ms:List Bool} {extra:List Str} {ifs:List Expr}
/-! the looks at the text -/
end
/-! ### for k in d: d (keys ints and texts) stays as it is from there on -/
theorem tZ {P:Program} {w:World} {k:Key} {v:Value} (h:(aJ P w).is k v=true):ap (kV k) v:=by
 rcases aZ (show kJ k v=true from h)with⟨i,t,rfl,rfl⟩|⟨x,t,rfl,rfl⟩
 ·exact⟨t,rfl⟩
 ·exact⟨t,rfl⟩
section
variable {X:Cx} {pins:List (Addr×Obj)} {σ:St} {H:Hp} {s:Shared} {a:Addr} {o:Obj} {ks:List (Key×V)}
theorem Inv.freeze (I:Inv X pins σ H s) (e:H a=some (.dK ks)):∃ o,s.heap.get? a=some o/\Inv X pins σ (upd H a (.frz o (.dK ks))) s:=by
 obtain⟨o,he⟩:∃ o,s.heap.get? a=some o:=by
  obtain⟨_,_,_,_,o,_,_,q,_⟩:=sV I.hok e
  exact⟨o,q⟩
 refine⟨o,he,?_⟩
 have:=I.write (x:=a) (e:=a) (o:=.frz o (.dK ks)) (h':=s.heap) (t':=s.toks) (by rw[e];exact True.intro) (.inl rfl) (fun b u _ q=>q) ⟨o,he⟩ ⟨he,sV I.hok e⟩
 exact this
end
section
variable {X:Cx} {tg l:Expr} {tl:TE} {te:TEd}
theorem KR.keys {K:PySem.W.Frag} {M:DH} {H:Hp} {κ:Type} {kvs:List (κ×D)} {ks:List (κ×V)} (h:KR K M H kvs ks):kvs.map (·.1)=ks.map (·.1):=by
 unfold KR at h
 induction h with
 |nil=>rfl
 |cons r _ ih=>rw[List.map_cons,List.map_cons,ih,r.1]
theorem ij {K:PySem.W.Frag} {M:DH} {H:Hp} {k:Key}:Rep K M H (kD k) (kV k):=by cases k<;>simp[kD,kV,Rep]
end
/-! ### x={k: v for ..},the keys tuples of ints and texts -/
end L2
namespace L2
open PySem PySem.W PyProof.Rows
/-! ### the sort of fewer than 64 things,as a tree of questions: what it comes to -/
section
variable {α β:Type}
def tw (n:Nat) (lt:Nat->Nat->Bool):KasT α->(α->Prop)->Prop
 |.ret a,Q=>Q a
 |.ask i j k,Q=>i<n/\j<n/\tw n lt (k (lt i j)) Q
theorem gx {n:Nat} {lt:Nat->Nat->Bool} {f:α->KasT β} {Q:β->Prop}:∀ {t:KasT α},tw n lt t (fun a=>tw n lt (f a) Q)->tw n lt (t.bind f) Q
 |.ret _,h=>h
 |.ask _ _ _,h=>⟨h.1,h.2.1,gx h.2.2⟩
theorem xA {n:Nat} {lt:Nat->Nat->Bool} {cmp:Nat->Nat->(Bool->Shared->Prop)->Shared->Prop} {J:Shared->Prop} (hc:∀ i j C s,i<n->j<n->J s->(∀ s',J s'->C (lt i j) s')->cmp i j C s) {Q:α->Prop} {G:α->Shared->Prop} (hG:∀ a s,J s->Q a->G a s) :
  ∀ {t:KasT α} {s:Shared},tw n lt t Q->J s->t.kasWp cmp G s
 |.ret _,s,h,hj=>hG _ s hj h
 |.ask i j k,s,h,hj=>hc i j _ s h.1 h.2.1 hj fun s' hj'=>xA hc hG h.2.2 hj'
variable {O:KeyOrd} {key:Nat->O.α} {n:Nat}
def c8 (O:KeyOrd) (key:Nat->O.α) (i j:Nat):Bool:=O.blt (key i) (key j)
def Ao (O:KeyOrd) (key:Nat->O.α):KeyKind:={ O with keyOf:=fun v=>match v with|.int i _=>some (key i.toNat)|_=>none,dflt:=key 0 }
def mB (p:Array Nat):Array Keyed:=p.map fun(i:Nat)=>((Value.int (i:Int) 0,Value.none):Keyed)
def kp (O:KeyOrd) (key:Nat->O.α) (p:Array Nat) (i:Nat):O.α:=key (p.getD i 0)
theorem k6 {p:Array Nat} {i:Nat} (h:i<p.size):KK (Ao O key) (mB p) i=kp O key p i:=by
 unfold KK kp mB
 rw[Array.getElem?_map,Array.getElem?_eq_getElem h]
 simp[Ao,Array.getD,h]
theorem zj {p:Array Nat} {i j:Nat}:mB (kas_rev p i j)=mirror (mB p) i j ((j-i) / 2):=by
 unfold mB kas_rev mirror
 exact(kas_swaps_map _ _ _ _ _).symm
theorem yR {p:Array Nat} {k d:Nat}:mB (bubble p k d)=bubble (mB p) k d:=by
 unfold mB bubble
 exact(kas_swaps_map _ _ _ _ _).symm
theorem qF {p:Array Nat}:(mB p).size=p.size:=by simp[mB]
theorem vp {p:Array Nat} {i j:Nat}:(kas_rev p i j).size=p.size:=mirror_size _ _ _ _
theorem r8 {p:Array Nat} {i j k:Nat} (hj:j<=p.size) (hk:k<p.size):kp O key (kas_rev p i j) k=if i<=k/\k<j then kp O key p (i+j-1-k)else kp O key p k:=by
 rw[<-k6 (by rw[vp];exact hk),zj,KK_mirror (by rw[qF];exact hj)]
 by_cases h:i<=k/\k<j
 ·rw[if_pos h,if_pos h,k6 (by omega)]
 ·rw[if_neg h,if_neg h,k6 hk]
theorem xF {p:Array Nat} {src d k:Nat} (hs:src<p.size) (hd:d<=src) (hk:k<p.size):kp O key (bubble p src d) k=if k=src-d then kp O key p src else if src-d<k/\k<=src then kp O key p (k-1)else kp O key p k:=by
 rw[<-k6 (by rw[bubble_size];exact hk),yR,KK_bubble (by rw[qF];exact hs) hd]
 by_cases h1:k=src-d
 ·rw[if_pos h1,if_pos h1,k6 hs]
 ·rw[if_neg h1,if_neg h1]
  by_cases h2:src-d<k/\k<=src
  ·rw[if_pos h2,if_pos h2,k6 (by omega)]
  ·rw[if_neg h2,if_neg h2,k6 hk]
def ca (n:Nat) (p:Array Nat):Prop:=p.toList.Perm (List.range n)
theorem ca.size {p:Array Nat} (h:ca n p):p.size=n:=by
 have:=h.length_eq
 simpa using this
theorem ca.lt {p:Array Nat} (h:ca n p) {i:Nat} (hi:i<n):p.getD i 0<n:=by
 have hs:=h.size
 have e:p.getD i 0=p.toList[i]'(by simp;omega):=by simp[Array.getD,show i<p.size by omega]
 rw[e]
 exact List.mem_range.mp (h.mem_iff.mp (List.getElem_mem _))
theorem ca.rev {p:Array Nat} (h:ca n p) (i j:Nat):ca n (kas_rev p i j):=(Array.perm_iff_toList_perm.mp (mirror_perm p i j _)).trans h
theorem ca.bub {p:Array Nat} (h:ca n p) (i j:Nat):ca n (bubble p i j):=(Array.perm_iff_toList_perm.mp (bubble_perm p i j)).trans h
def cz (O:KeyOrd) (key:Nat->O.α) (p:Array Nat) (k:Nat):Prop:=∀ i j,i<=j->j<k->O.kle (kp O key p i) (kp O key p j)
def cm (O:KeyOrd) (key:Nat->O.α) (p:Array Nat) (k:Nat):Prop:=∀ i j,i<=j->j<k->O.kle (kp O key p j) (kp O key p i)
theorem cz.more {p:Array Nat} {x:Nat} (h:cz O key p x) (hx:1<=x) (le:O.kle (kp O key p (x-1)) (kp O key p x)):cz O key p (x+1):=fun i j hij hj=>by
 rcases Nat.lt_or_ge j x with h1|h1
 ·exact h i j hij h1
 ·obtain rfl:j=x:=by omega
  rcases Nat.lt_or_ge i j with h2|h2
  ·exact KeyOrd.kle_trans (h i (j-1) (by omega) (by omega)) le
  ·obtain rfl:i=j:=by omega
   exact KeyOrd.kle_refl _
theorem cm.more {p:Array Nat} {x:Nat} (h:cm O key p x) (hx:1<=x) (le:O.kle (kp O key p x) (kp O key p (x-1))):cm O key p (x+1):=fun i j hij hj=>by
 rcases Nat.lt_or_ge j x with h1|h1
 ·exact h i j hij h1
 ·obtain rfl:j=x:=by omega
  rcases Nat.lt_or_ge i j with h2|h2
  ·exact KeyOrd.kle_trans le (h i (j-1) (by omega) (by omega))
  ·obtain rfl:i=j:=by omega
   exact KeyOrd.kle_refl _
theorem sj {p:Array Nat} (hp:ca n p):∀ {f a:Nat} {Q:Nat->Prop},1<=a->a+f<=n->cz O key p a ->
  (∀ m,a<=m->m<=a+f->cz O key p m->(m=a+f∨O.klt (kp O key p m) (kp O key p (m-1)))->Q m)->tw n (c8 O key) (kas_asc p f a) Q
 |0,a,Q,h1,h2,hs,k=>k a (Nat.le_refl _) (Nat.le_refl _) hs (.inl rfl)
 |f+1,a,Q,h1,h2,hs,k=>by
  refine⟨hp.lt (by omega),hp.lt (by omega),?_⟩
  cases q:c8 O key (p.getD a 0) (p.getD (a-1) 0)with
  |true=>exact k a (Nat.le_refl _) (by omega) hs (.inr q)
  |false=>exact sj hp (by omega) (by omega) (hs.more h1 q) fun m m1 m2 ms mo=>k m (by omega) (by omega) ms (mo.imp (fun e=>by omega) id)
theorem ir {p:Array Nat} {i j:Nat} (hj:j<=p.size) (he:∀ k,i<=k->k<j->kp O key p k=kp O key p (j-1)) {k:Nat} (hk:k<p.size):kp O key (kas_rev p i j) k=kp O key p k:=by
 rw[r8 hj hk]
 by_cases h:i<=k/\k<j
 ·rw[if_pos h,he _ (by omega) (by omega),he k h.1 h.2]
 ·rw[if_neg h]
theorem ku:∀ {f:Nat} {p:Array Nat} {x q:Nat} {Q:Array Nat×Nat×Nat->Prop},ca n p->1<=x->x+f<=n->cm O key p x->q+1<=x->(∀ i,x-(q+1)<=i->i<x->kp O key p i=kp O key p (x-1)) ->
  (∀ p' m q',ca n p'->1<=m->m<=x+f->cm O key p' m->q'+1<=m->(∀ i,m-(q'+1)<=i->i<m->kp O key p' i=kp O key p' (m-1))->Q (p',m,q'))->tw n (c8 O key) (kas_desc f p x q) Q
 |0,p,x,q,Q,hp,h1,h2,hs,hq,he,k=>k p x q hp h1 (Nat.le_refl _) hs hq he
 |f+1,p,x,q,Q,hp,h1,h2,hs,hq,he,k=>by
  have hz:=hp.size
  refine⟨hp.lt (by omega),hp.lt (by omega),?_⟩
  cases c:c8 O key (p.getD x 0) (p.getD (x-1) 0)with
  |true =>
   have lt:O.klt (kp O key p x) (kp O key p (x-1)):=c
   simp only[if_true]
   by_cases h0:q > 0
   ·rw[if_pos h0]
    have same:∀ {i},i<n->kp O key (kas_rev p (x-(q+1)) x) i=kp O key p i:=fun hi=>ir (by omega) he (by omega)
    refine ku (hp.rev _ _) (by omega) (by omega) ?_ (by omega) (fun i i1 i2=>by obtain rfl:i=x:=(by omega);rfl) fun p' m q' a b c' d e g=>k p' m q' a b (by omega) d e g
    refine cm.more (fun i j hij hj=>?_) h1 ?_
    ·rw[same (by omega),same (by omega)];exact hs i j hij hj
    ·rw[same (by omega),same (by omega)];exact KeyOrd.kle_of_klt lt
   ·rw[if_neg h0]
    exact ku hp (by omega) (by omega) (hs.more h1 (KeyOrd.kle_of_klt lt)) (by omega) (fun i i1 i2=>by obtain rfl:i=x:=(by omega);rfl) fun p' m q' a b c' d e g=>k p' m q' a b (by omega) d e g
  |false =>
   simp only[Bool.false_eq_true,if_false]
   refine⟨hp.lt (by omega),hp.lt (by omega),?_⟩
   cases c2:c8 O key (p.getD (x-1) 0) (p.getD x 0)with
   |true=>exact k p x q hp h1 (by omega) hs hq he
   |false =>
    simp only[Bool.false_eq_true,if_false]
    have eq:kp O key p x=kp O key p (x-1):=O.total _ _ c c2
    refine ku hp (by omega) (by omega) (hs.more h1 c2) (by omega) (fun i i1 i2=>?_) fun p' m q' a b c' d e g=>k p' m q' a b (by omega) d e g
    rw[show x+1-1=x by omega]
    rcases Nat.lt_or_ge i x with h|h
    ·rw[eq];exact he i (by omega) h
    ·obtain rfl:i=x:=by omega
     rfl
theorem sC {p:Array Nat} {m nrem:Nat} {Q:Nat×Array Nat->Prop} (hp:ca n p) (h1:1<=m) (h2:m<=nrem) (h3:nrem<=n) (hs:cm O key p m)
  (k:∀ m' p',ca n p'->1<=m'->m'<=nrem->cz O key p' m'->Q (m',p')):tw n (c8 O key) (kas_tail3 m nrem p) Q:=by
 have hz:=hp.size
 unfold kas_tail3
 refine gx (sj (hp.rev 0 m) h1 (by omega) (fun i j hij hj=>?_) fun m' a b c _=>k m' _ (hp.rev 0 m) (by omega) (by omega) c)
 rw[r8 (by omega) (by omega),r8 (by omega) (by omega),if_pos ⟨by omega,by omega⟩,if_pos ⟨by omega,by omega⟩]
 exact hs _ _ (by omega) (by omega)
theorem jW {p:Array Nat} {m nrem:Nat} {Q:Nat×Array Nat->Prop} (hp:ca n p) (h2:m+1<=nrem) (h3:nrem<=n) (hs:cm O key p (m+1))
  (k:∀ m' p',ca n p'->1<=m'->m'<=nrem->cz O key p' m'->Q (m',p')):tw n (c8 O key) (kas_descPart m nrem p) Q:=by
 unfold kas_descPart
 refine gx (ku hp (by omega) (by omega) hs (by omega) (fun i i1 i2=>by obtain rfl:i=m:=(by omega);rfl) fun p' x q' hp' x1 x2 hs' hq he=>?_)
 have hz:=hp'.size
 dsimp only
 by_cases h0:q' > 0
 ·rw[if_pos h0]
  refine sC (hp'.rev _ _) x1 (by omega) h3 (fun i j hij hj=>?_) k
  rw[ir (by omega) he (by omega),ir (by omega) he (by omega)]
  exact hs' i j hij hj
 ·rw[if_neg h0]
  exact sC hp' x1 (by omega) h3 hs' k
theorem xy {p:Array Nat} {nrem:Nat} {Q:Nat×Array Nat->Prop} (hp:ca n p) (h1:1<=nrem) (h3:nrem<=n)
  (k:∀ m' p',ca n p'->1<=m'->m'<=nrem->cz O key p' m'->Q (m',p')):tw n (c8 O key) (kas_count nrem p) Q:=by
 have hz:=hp.size
 unfold kas_count
 refine gx (sj hp (Nat.le_refl 1) (by omega) (fun i j hij hj=>by obtain rfl:i=j:=(by omega);exact KeyOrd.kle_refl _) fun m m1 m2 ms mo=>?_)
 by_cases e:m=nrem
 ·rw[if_pos (by simpa using e)]
  exact k m p hp m1 (by omega) ms
 ·rw[if_neg (by simpa using e)]
  have lt:O.klt (kp O key p m) (kp O key p (m-1)):=mo.resolve_left (by omega)
  by_cases g:m > 1
  ·rw[if_pos g]
   refine⟨hp.lt (by omega),hp.lt (by omega),?_⟩
   cases c:c8 O key (p.getD 0 0) (p.getD (m-1) 0)with
   |true=>exact k m p hp m1 (by omega) ms
   |false =>
    simp only[Bool.false_eq_true,if_false]
    have like:∀ i,0<=i->i<m->kp O key p i=kp O key p (m-1):=fun i _ hi =>
     KeyOrd.kle_antisymm (ms i (m-1) (by omega) (by omega)) (KeyOrd.kle_trans (show O.kle (kp O key p (m-1)) (kp O key p 0)from c) (ms 0 i (by omega) hi))
    have same:∀ {i},i<n->kp O key (kas_rev p 0 m) i=kp O key p i:=fun hi=>ir (by omega) like (by omega)
    refine jW (hp.rev _ _) (by omega) h3 (cm.more (fun i j hij hj=>?_) m1 ?_) k
    ·rw[same (by omega),same (by omega),like i (by omega) (by omega),like j (by omega) hj];exact KeyOrd.kle_refl _
    ·rw[same (by omega),same (by omega)];exact KeyOrd.kle_of_klt lt
  ·rw[if_neg g]
   obtain rfl:m=1:=by omega
   refine jW hp (by omega) h3 (cm.more (fun i j hij hj=>by obtain rfl:i=j:=(by omega);exact KeyOrd.kle_refl _) (Nat.le_refl 1) (KeyOrd.kle_of_klt lt)) k
theorem kT {p:Array Nat} (hp:ca n p) {x:Nat} (hx:x<n) (hs:cz O key p x):∀ {f l r:Nat} {Q:Nat->Prop},l<=r->r<=x->r-l<=f ->
  (∀ i,i<l->O.kle (kp O key p i) (kp O key p x))->(∀ i,r<=i->i<x->O.klt (kp O key p x) (kp O key p i)) ->
  (∀ l',l'<=x->(∀ i,i<l'->O.kle (kp O key p i) (kp O key p x))->(∀ i,l'<=i->i<x->O.klt (kp O key p x) (kp O key p i))->Q l')->tw n (c8 O key) (kas_place p x f l r) Q
 |0,l,r,Q,h1,h2,h3,a,b,k=>by
  obtain rfl:l=r:=by omega
  exact k l h2 a b
 |f+1,l,r,Q,h1,h2,h3,a,b,k=>by
  unfold kas_place
  by_cases g:l>=r
  ·rw[if_pos g]
   obtain rfl:l=r:=by omega
   exact k l h2 a b
  ·rw[if_neg g]
   refine⟨hp.lt hx,hp.lt (by omega),?_⟩
   cases c:c8 O key (p.getD x 0) (p.getD ((l+r) / 2) 0)with
   |true =>
    simp only[if_true]
    exact kT hp hx hs (by omega) (by omega) (by omega) a (fun i i1 i2=>KeyOrd.klt_of_klt_of_kle (show O.klt (kp O key p x) (kp O key p ((l+r) / 2))from c) (hs _ _ i1 i2)) k
   |false =>
    simp only[Bool.false_eq_true,if_false]
    exact kT hp hx hs (by omega) (by omega) (by omega) (fun i hi=>KeyOrd.kle_trans (hs i ((l+r) / 2) (by omega) (by omega)) (show O.kle (kp O key p ((l+r) / 2)) (kp O key p x)from c)) b k
theorem wS:∀ {f:Nat} {p:Array Nat} {x:Nat} {Q:Array Nat->Prop},ca n p->1<=x->x+f<=n->cz O key p x->(∀ p',ca n p'->cz O key p' (x+f)->Q p')->tw n (c8 O key) (kas_bin f p x) Q
 |0,p,x,Q,hp,_,_,hs,k=>k p hp hs
 |f+1,p,x,Q,hp,h1,h2,hs,k=>by
  have hz:=hp.size
  refine gx (kT hp (by omega) hs (Nat.zero_le _) (Nat.le_refl _) (by omega) (fun i hi=>by omega) (fun i a b=>by omega) fun l hl lo hi=>?_)
  refine wS (hp.bub _ _) (by omega) (by omega) (fun i j hij hj=>?_) fun p' a b=>k p' a (by rw[show x+(f+1)=x+1+f by omega];exact b)
  rw[xF (by omega) (by omega) (by omega),xF (by omega) (by omega) (by omega),show x-(x-l)=l by omega]
  by_cases a1:i=l
  ·rw[if_pos a1]
   by_cases b1:j=l
   ·rw[if_pos b1];exact KeyOrd.kle_refl _
   ·rw[if_neg b1,if_pos (by omega)];exact KeyOrd.kle_of_klt (hi _ (by omega) (by omega))
  ·rw[if_neg a1]
   by_cases a2:l<i/\i<=x
   ·rw[if_pos a2,if_neg (by omega),if_pos (by omega)];exact hs _ _ (by omega) (by omega)
   ·rw[if_neg a2]
    by_cases b1:j=l
    ·rw[if_pos b1];exact lo _ (by omega)
    ·rw[if_neg b1]
     by_cases b2:l<j/\j<=x
     ·rw[if_pos b2];exact hs _ _ (by omega) (by omega)
     ·rw[if_neg b2];exact hs _ _ hij (by omega)
theorem ym (h:1<=n) {Q:Array Nat->Prop} (k:∀ p,ca n p->cz O key p n->Q p):tw n (c8 O key) (kas_sort n) Q:=by
 have h0:ca n (List.toArray (List.range n)):=List.Perm.refl _
 unfold kas_sort
 refine gx (xy h0 h (Nat.le_refl _) fun m p hp m1 m2 ms=>?_)
 dsimp only
 by_cases g:m<n
 ·rw[if_pos g]
  have e:max m 1=m:=by omega
  rw[e]
  exact wS hp m1 (by omega) ms fun p' a b=>k p' a (by rwa [show m+(n-m)=n by omega]at b)
 ·rw[if_neg g]
  obtain rfl:m=n:=by omega
  exact k p hp ms
end
end L2
namespace L2
open PySem PySem.W PySem.Calls PyProof.Rows
/-! ### sorted,of a list of fewer than 64 things whose questions leave the state as it is -/
section
variable {prog:Program} {w:World} {A:Around} {E:Value->Shared->Prop} {O:KeyOrd}
def i9 (vs:List Value) (p:Array Nat):List Value:=p.toList.map fun i=>vs.getD i Value.none
theorem mL {vs:List Value} {p:Array Nat} (h:ca vs.length p):(i9 vs p).length=vs.length:=by
 unfold i9;rw[List.length_map,Array.length_toList];exact h.size
def qw (x:Addr) (s t:Shared):Prop:=∀ b o,b≠x->s.heap.get? b=some o->t.heap.get? b=some o
theorem CK {s:Shared} {x:Addr} {vs:List Value} {n:Nat} {key:Nat->O.α} {κ:SortKind} {P:PySem.Fin->Shared->Prop} (hx:s.heap.get? x=some (seqObj "list" vs.toArray n)) (hz:vs.length<64)
  (hk:∀ s1 Q,2<=vs.length->qw x s s1->Q κ s1->wpAny (model prog w) A (keyKind' vs.toArray) Q (fun _ _=>False) s1)
  (hc:∀ i j s1 C,i<vs.length->j<vs.length->qw x s s1->C (c8 O key i j) s1->kas_ask prog w A κ vs i j C s1)
  (k:∀ p c h',ca vs.length p->cz O key p vs.length->(∀ b o,b≠x->s.heap.get? b=some o->h'.get? b=some o)->h'.get? x=some (seqObj "list" (i9 vs p).toArray c)->P (.done (.ret .none)) { s with heap:=h' }) :
  wpAny (model prog w) A (Builtin.«list.sort» ⟨[.ref x],[]⟩) P E s:=by
 have lx:x<s.heap.objs.size:=Heap.lt_size hx
 obtain⟨c1,h1⟩:∃ c,(s.heap.update x (Obj.mapSeq fun _=>#[])).get? x=some (seqObj "list" #[] c):=⟨_,get?_update_seq hx (fun _=>#[])⟩
 rw[list_sort_plain]
 refine wpAny_bind (listItems_at hx rfl (wpAny_bind (listUpdate_at hx rfl (wpAny_bind (seqEpoch_at h1 rfl (wpAny_bind (wpAny_newTuple (wpAny_bind (wpAny_newList (wpAny_holding ?_) (Nat.zero_le _))) ?_)))) ?_ (Nat.zero_le _))))
 rotate_left
 ·show vs.length<=_
  rw[sizeLine_eq];omega
 ·rw[List.size_toArray,sizeLine_eq];omega
 generalize hh:((s.heap.update x (Obj.mapSeq fun _=>#[])).push (seqObj "tuple" vs.toArray 0)).push (seqObj "list" #[] 0)=h2
 show wpAny _ A _ P E { s with heap:=h2 }
 have g2:h2.get? x=some (seqObj "list" #[] c1):=by
  rw[<-hh];exact Heap.get?_push_of_some _ (Heap.get?_push_of_some _ h1)
 have st:qw x s { s with heap:=h2 }:=fun b o ne e=>by
  show h2.get? b=some o
  rw[<-hh]
  exact Heap.get?_push_of_some _ (Heap.get?_push_of_some _ (by rw[Heap.get?_update_ne _ _ _ _ ne];exact e))
 have fin:∀ p,ca vs.length p->cz O key p vs.length->P (.done (.ret .none)) { s with heap:=h2.update x (Obj.mapSeq fun _=>(i9 vs p).toArray) }:=fun p hp hr =>
  k p _ _ hp hr (fun b o ne e=>by rw[Heap.get?_update_ne _ _ _ _ ne];exact st b o ne e) (get?_update_seq g2 fun _=>(i9 vs p).toArray)
 dsimp only
 by_cases few:vs.toArray.size<2
 ·rw[if_pos few,if_pos few]
  refine wpAny_bind (wpAny_pure ?_)
  rw[StateT.run_pure]
  refine wpAny_bind (wpAny_pure ?_)
  dsimp only
  have few':vs.length<2:=by rw[List.size_toArray]at few;exact few
  have e0:(arrOf (SortSt.mk' general' (vs.toArray.zip vs.toArray) #[] 7 none)).map (·.2)=(i9 vs (List.toArray (List.range vs.length))).toArray:=by
   refine kat_snds rfl ?_
   have e:=kas_range (vs.toArray.zip vs.toArray)
   have z0:(vs.toArray.zip vs.toArray).size=vs.length:=by simp
   rw[z0]at e
   exact e.symm
  rw[e0]
  refine wpAny_bind (seqEpoch_at g2 rfl (wpAny_bind (listUpdate_at g2 rfl ?_ (Nat.zero_le _) ?_)))
  ·simp only[failedOf,bne_self_eq_false,Bool.false_eq_true,if_false]
   exact wpAny_pure (fin _ (List.Perm.refl _) fun i j hij hj=>by
    obtain rfl:i=j:=by omega
    exact KeyOrd.kle_refl _)
  ·rw[List.size_toArray,mL (show ca vs.length (List.toArray (List.range vs.length))from List.Perm.refl _),sizeLine_eq];omega
 ·rw[if_neg few,if_neg few]
  have two:2<=vs.length:=by rw[List.size_toArray]at few;omega
  refine wpAny_bind (wpAny_mono (hk { s with heap:=h2 } (fun q t=>q=κ/\t=({ s with heap:=h2 }:Shared)) two st ⟨rfl,rfl⟩) ?_ fun _ _ z=>z.elim)
  rintro κ' _ ⟨ek,rfl⟩
  rw[ek]
  have ask:(kas_sort vs.length).kasWp (kas_ask prog w A κ vs) (fun p t=>t=({ s with heap:=h2 }:Shared)/\ca vs.length p/\cz O key p vs.length) { s with heap:=h2 } :=
   xA (J:=fun t=>t=({ s with heap:=h2 }:Shared)) (lt:=c8 O key) (Q:=fun p=>ca vs.length p/\cz O key p vs.length) (fun i j C t hi hj ht hC=>by subst ht;exact hc i j _ C hi hj st (hC _ rfl)) (fun p t ht hq=>⟨ht,hq⟩) (ym (by omega) fun p a b=>⟨a,b⟩) rfl
  refine wpAny_bind (wpAny_mono (kat_run (Q:=fun u t=>∃ p:Array Nat,arrOf u=p.map (kas_item (vs.toArray.zip vs.toArray))/\failedOf u=none/\t=({ s with heap:=h2 }:Shared)/\ca vs.length p/\cz O key p vs.length) rfl two hz (fun p u t _ a2 a3 a4=>⟨p,a2,a3,a4⟩) ask) ?_ fun _ _ z=>z)
  rintro⟨⟨⟩,u⟩ t ⟨p,ea,ef,rfl,hp,hr⟩
  dsimp only
  have e0:(arrOf u).map (·.2)=(i9 vs p).toArray:=kat_snds rfl ea
  rw[e0]
  refine wpAny_bind (seqEpoch_at g2 rfl (wpAny_bind (listUpdate_at g2 rfl ?_ (Nat.zero_le _) ?_)))
  ·rw[ef]
   simp only[bne_self_eq_false,Bool.false_eq_true,if_false]
   exact wpAny_pure (fin p hp hr)
  ·rw[List.size_toArray,mL hp,sizeLine_eq];omega
end
/-! ### sorted,of pairs of ints -/
section
variable {X:Cx} {pins:List (Addr×Obj)} {s:Shared} {σ:St} {H:Hp} {M:DH}
theorem ow {us:List Value} {i:Nat} {v:Value} (h:us[i]?=some v):us.getD i Value.none=v:=by
 rw[List.getD_eq_getElem?_getD,h];rfl
def kp_ (p:Array Nat) (i:Nat):Nat:=p.getD i 0
theorem nL {vs:List V} {us:List Value} (rv:aq vs us):∀ {l:List Nat},(∀ i∈l,i<vs.length)->aq (l.map fun i=>vs.getD i .non) (l.map fun i=>us.getD i Value.none)
 |[],_=>.nil
 |i::l,h=>by
  have hi:=h i (.head _)
  obtain⟨u,g,r⟩:=rv.get (List.getElem?_eq_getElem hi)
  rw[List.map_cons,List.map_cons]
  refine .cons ?_ (nL rv fun j hj=>h j (.tail _ hj))
  rw[ow g,List.getD_eq_getElem?_getD,List.getElem?_eq_getElem hi]
  exact r
end
end L2
namespace L2
open PySem PySem.Spec PyProof.Rows
theorem B1 {X:Cx} {pos:Pos}:QEd X (.Dict [] [] pos) dDT:=by
 simp only[QEd.eq,QAd.eq,QTd.eq,QWd.eq,QSd.eq,QSs.eq,QId.eq,QIf.eq,QOd.eq]at *
 exact Fk 
theorem zr {X:Cx} {a:Expr} {b:Expr} {ta:TEd} {tb:TEd} {pos:Pos} (ha:QEd X a ta) (hb:QEd X b tb):QEd X (.Dict [some a] [b] pos) (rF ta tb):=by
 simp only[QEd.eq,QAd.eq,QTd.eq,QWd.eq,QSd.eq,QSs.eq,QId.eq,QIf.eq,QOd.eq]at *
 exact yB (ha:=ha) (hb:=hb)
theorem ER {X:Cx} {o:Expr} {es:List Expr} {to:TEd} {t:TAd} {pos:Pos} (neg:Bool) {x1} {p:Pos} {op:CmpOp} (hop:op=(if neg then .NotIn else .In)) (hu:X.A.units+1<cLine) (ht:QAd X es t) (ho:QEd X o to) (hm:behindInMarks op o=false):QEd X (.Compare (.Tuple es x1 p) [op] [o] pos) (uJ neg t to):=by
 simp only[QEd.eq,QAd.eq,QTd.eq,QWd.eq,QSd.eq,QSs.eq,QId.eq,QIf.eq,QOd.eq]at *
 exact DN (neg:=neg) (hop:=hop) (hu:=hu) (ht:=ht) (ho:=ho) (hm:=hm)
theorem vg {X:Cx} {o:Expr} {es:List Expr} {to:TEd} {t:TAd} {pos:Pos} (neg:Bool) {x1} {p:Pos} {op:CmpOp} (hop:op=(if neg then .NotIn else .In)) (hu:X.A.units+1<cLine) (ht:QAd X es t) (ho:QEd X o to) (hm:behindInMarks op o=false):QTd X (.Compare (.Tuple es x1 p) [op] [o] pos) (i3 (uJ neg t to)):=by
 simp only[QEd.eq,QAd.eq,QTd.eq,QWd.eq,QSd.eq,QSs.eq,QId.eq,QIf.eq,QOd.eq]at *
 exact CZ (neg:=neg) (hop:=hop) (hu:=hu) (ht:=ht) (ho:=ho) (hm:=hm)
theorem xR {X:Cx} {e:Expr} {o:Expr} {i:Expr} {te:TEd} {to:TEd} {ti:TEd} {pos:Pos} {p:Pos} (hu:X.A.units+1<cLine) (ho:QEd X o to) (hi:QEd X i ti) (he:QEd X e te) (hs:swapsWith e (some (.Subscript o i p)) pos.line X.env=pure false:=by rfl):QSd X (.Assign [.Subscript o i p] e pos) (pq to ti te):=by
 simp only[QEd.eq,QAd.eq,QTd.eq,QWd.eq,QSd.eq,QSs.eq,QId.eq,QIf.eq,QOd.eq]at *
 exact AB (hu:=hu) (ho:=ho) (hi:=hi) (he:=he) (hs:=hs)
theorem vY {X:Cx} {e:Expr} {o:Expr} {es:List Expr} {te:TEd} {to:TEd} {t:TAd} {pos:Pos} {x1} {p p2:Pos} (hu:X.A.units+1<cLine) (ho:QEd X o to) (ht:QAd X es t) (he:QEd X e te) (hs:swapsWith e (some (.Subscript o (.Tuple es x1 p2) p)) pos.line X.env=pure false:=by rfl):QSd X (.Assign [.Subscript o (.Tuple es x1 p2) p] e pos) (vv to t te):=by
 simp only[QEd.eq,QAd.eq,QTd.eq,QWd.eq,QSd.eq,QSs.eq,QId.eq,QIf.eq,QOd.eq]at *
 exact Dg (hu:=hu) (ho:=ho) (ht:=ht) (he:=he) (hs:=hs)
theorem tE {X:Cx} {a:Expr} {b:Expr} {c:Expr} {pos:Pos} {tg:Expr} {ta:TAd} {p:Pos} (hg:Gl X "range") (hm:X.mg "range"=none) (ha:QAd X [a,b,c] ta) (hs:starEach [a,b,c] X.env=[(false,eval a X.env),(false,eval b X.env),(false,eval c X.env)]:=by rfl)
  (hs2:starEach [b,c] X.env=[(false,eval b X.env),(false,eval c X.env)]:=by rfl):QId X tg (.Call (.Name "range" p) [a,b,c] [] pos) (rW ta):=by
 simp only[QEd.eq,QAd.eq,QTd.eq,QWd.eq,QSd.eq,QSs.eq,QId.eq,QIf.eq,QOd.eq]at *
 exact Cj (hg:=hg) (hm:=hm) (ha:=ha) (hs:=hs) (hs2:=hs2)
theorem bP.units1 {k:Nat} {A:Around} (r:bP k A):A.units+1<cLine:=by have:=r.un;omega
theorem Do {i:Int} {P:Key->Prop}:(∃ k,D.int i=kD k/\P k)↔P (.inl i) :=
 ⟨fun⟨k,e,h⟩=>match k,e with|.inl _,rfl=>h,fun h=>⟨_,rfl,h⟩⟩
theorem Dl {x:Str} {P:Key->Prop}:(∃ k,D.str x=kD k/\P k)↔P (.inr x) :=
 ⟨fun⟨k,e,h⟩=>match k,e with|.inr _,rfl=>h,fun h=>⟨_,rfl,h⟩⟩
theorem BB:∀ {a b:Key},kD a=kD b->a=b
 |.inl _,.inl _,h=>by cases h;rfl
 |.inr _,.inr _,h=>by cases h;rfl
 |.inl _,.inr _,h=>by cases h
 |.inr _,.inl _,h=>by cases h
theorem t8:∀ {a b:List Key},a.map kD=b.map kD->a=b
 |[],[],_=>rfl
 |[],_::_,h=>by cases h
 |_::_,[],h=>by cases h
 |x::xs,y::ys,h=>by
  simp only[List.map_cons,List.cons.injEq]at h
  rw[BB h.1,t8 h.2]
theorem Al {a b:Key} {P:List Key->Prop}:(∃ ks:List Key,[kD a,kD b]=ks.map kD/\P ks)↔P [a,b] :=
 ⟨fun⟨ks,e,h⟩=>by rw[t8 (a:=[a,b]) (b:=ks) (by simpa using e)];exact h,fun h=>⟨_,rfl,h⟩⟩
theorem B9 {i j:Int} {P:List Key->Prop}:(∃ ks:List Key,[D.int i,D.int j]=ks.map kD/\P ks)↔P [.inl i,.inl j]:=Al (a:=.inl i) (b:=.inl j)
theorem CD {i j:Str} {P:List Key->Prop}:(∃ ks:List Key,[D.str i,D.str j]=ks.map kD/\P ks)↔P [.inr i,.inr j]:=Al (a:=.inr i) (b:=.inr j)
theorem zG {i j:Int}:FC [.int i,.int j]=some (.int (if j<i then j else i)):=rfl
/-! ### a dict of ours that stands still while an expression is worked out,and is ours again behind it -/
/-! ### [e for k in d],d a dict of ours that e reads and that stays ours -/
/-! ### comprehensions of two clauses -/
abbrev cC (elt t0 i0 t1 i1:Expr) (f0 f1:List Expr) (scope:Scope) (pos:Pos):Expr:=.ListComp elt [⟨t0,i0,f0,0⟩,⟨t1,i1,f1,0⟩] scope pos
section
variable {prog:Program} {w:World} {A:Around} {R:Result->Shared->Prop} {s:Shared} {elt t0 i0 t1 i1:Expr} {f0 f1:List Expr} {scope:Scope} {pos:Pos} {it acc:Value} {env:Env}
theorem FK (elt t0 i0 t1 i1:Expr) (f0 f1:List Expr) (scope:Scope) (pos:Pos) (it acc:Value) (env:Env) :
 compTurn (cC elt t0 i0 t1 i1 f0 f1 scope pos) 1 it acc env=(do
  standAt i1.pos
  let r <-pyNext it
  match r with
   |none=>pure (Fin.done Flow.next)
   |some v=>do
    letOwnedTupleGo t1 it v
    assign t1 env v
    let ok <-forIn f1 true fun c r=>if r=true then do let ok <-PySem.isTrue c env (eval c env);pure (ForInStep.yield ok)else pure (ForInStep.yield r)
    if ok=true then(bind (bind (eval elt env) fun x=>bind (call (Value.builtin "list.append") [acc,x]) fun _=>pure ()) fun(_:Unit) =>
      again (Code.compLoop (cC elt t0 i0 t1 i1 f0 f1 scope pos) 1 it acc env))
     else again (Code.compLoop (cC elt t0 i0 t1 i1 f0 f1 scope pos) 1 it acc env)):=rfl
theorem FJ (elt t0 i0 t1 i1:Expr) (f0 f1:List Expr) (scope:Scope) (pos:Pos) (it acc:Value) (env:Env) :
 compTurn (cC elt t0 i0 t1 i1 f0 f1 scope pos) 0 it acc env=(do
  standAt i0.pos
  let r <-pyNext it
  match r with
   |none=>pure (Fin.done Flow.next)
   |some v=>do
    letOwnedTupleGo t0 it v
    assign t0 env v
    let ok <-forIn f0 true fun c r=>if r=true then do let ok <-PySem.isTrue c env (eval c env);pure (ForInStep.yield ok)else pure (ForInStep.yield r)
    if ok=true then do
      let x <-eval i1 env
      standAt i1.pos
      let x <-foldedSetIterable i1 env x
      let it2 <-holding [x] (pyIter x)
      let _ <-runOwn (Code.compStart (cC elt t0 i0 t1 i1 f0 f1 scope pos) 1 it2 acc env) env
      again (Code.compLoop (cC elt t0 i0 t1 i1 f0 f1 scope pos) 0 it acc env)
     else again (Code.compLoop (cC elt t0 i0 t1 i1 f0 f1 scope pos) 0 it acc env)):=rfl
theorem kU (h:codeAny (model prog w) A (.compLoop (cC elt t0 i0 t1 i1 f0 f1 scope pos) 1 it acc env) R s)
  (h2:wpAny (model prog w) A (pyIter it) (fun it' s'=>codeAny (model prog w) A (.compLoop (cC elt t0 i0 t1 i1 f0 f1 scope pos) 1 it' acc env) R s') (fun _ _=>False) s) :
  codeAny (model prog w) A (.compStart (cC elt t0 i0 t1 i1 f0 f1 scope pos) 1 it acc env) R s:=by
 refine codeAny_of_tree ?_
 show wpAny _ A ((compStart (cC elt t0 i0 t1 i1 f0 f1 scope pos) 1 it acc env).onRaise (fun x=>do noteFrame x env;standAt theWindowsPlace)) _ _ s
 refine wpAny_onRaise ?_
 show wpAny _ A (do
  let r <-ask
  if r.params.followText "comprehension-iter-twice"=true then again (Code.compLoop (cC elt t0 i0 t1 i1 f0 f1 scope pos) 1 it acc env)
   else do
    rule "comprehension.iter-twice"
    standAt i1.pos
    let i <-pyIter it
    again (Code.compLoop (cC elt t0 i0 t1 i1 f0 f1 scope pos) 1 i acc env)) _ _ s
 refine wpAny_bind (wpAny_askSetting ?_)
 dsimp only
 split
 ·exact wpAny_pure ⟨rfl,h⟩
 ·exact wpAny_bind (wpAny_rule (wpAny_bind (wpAny_standAt (wpAny_bind (wpAny_mono h2 (fun it' s' h'=>wpAny_pure ⟨rfl,h'⟩) fun _ _ h'=>h'.elim)))))
theorem mn (I:Nat->Shared->Prop)
  (turn:∀ n s,I n s → wpAny (model prog w) A (pyNext it) (fun r s₁ => match r with
   |none=>R (.ok .next) s₁
   | some v => wpAny (model prog w) A (letOwnedTupleGo t1 it v) (fun _ s₁ => wpAny (model prog w) A (assign t1 env v) (fun _ s₂ =>
     wpAny (model prog w) A (forIn f1 true fun c r=>if r=true then do let ok <-isTrue c env (eval c env);pure (ForInStep.yield ok)else pure (ForInStep.yield r)) (fun ok s₃ =>
      if ok=true then wpAny (model prog w) A (eval elt env) (fun x s₄ =>
       wpAny (model prog w) A (call (.builtin "list.append") [acc,x]) (fun _ s₅=>∃ m,m<n/\I m s₅) (fun _ _=>False) s₄) (fun _ _=>False) s₃
      else ∃ m,m<n/\I m s₃) (fun _ _=>False) s₂) (fun _ _=>False) s₁) (fun _ _=>False) s₁) (fun _ _=>False) s)
  (n:Nat) (h:I n s) :
  codeAny (model prog w) A (.compLoop (cC elt t0 i0 t1 i1 f0 f1 scope pos) 1 it acc env) R s:=by
 refine codeAny_loop rfl I (fun n s hI=>?_) n h
 show wpAny _ A ((compTurn (cC elt t0 i0 t1 i1 f0 f1 scope pos) 1 it acc env).onRaise (fun x=>do noteFrame x env;theTreesLotGoes x)) _ _ s
 refine wpAny_noted ?_
 rw[FK]
 refine wpAny_bind (wpAny_standAt (wpAny_bind (wpAny_mono (turn n s hI) (fun r s₁ h₁=>?_) fun _ _ h'=>h'.elim)))
 cases r with
 |none=>exact wpAny_pure h₁
 |some v =>
  refine wpAny_bind (wpAny_mono h₁ (fun _ s1 h₁=>?_) fun _ _ h'=>h'.elim)
  refine wpAny_bind (wpAny_mono h₁ (fun _ s₂ h₂=>wpAny_bind (wpAny_mono h₂ (fun ok s₃ h₃=>?_) fun _ _ h'=>h'.elim)) fun _ _ h'=>h'.elim)
  cases ok with
  |false=>exact wpAny_pure ⟨rfl,h₃⟩
  |true =>
   exact wpAny_bind (wpAny_bind (wpAny_mono h₃ (fun x s₄ h₄=>wpAny_bind (wpAny_mono h₄ (fun _ s₅ h₅=>wpAny_pure (wpAny_pure ⟨rfl,h₅⟩)) fun _ _ h'=>h'.elim)) fun _ _ h'=>h'.elim))
theorem mz (hs:∀ x,foldedSetIterable i1 env x=pure x) (I:Nat->Shared->Prop)
  (turn:∀ n s,I n s → wpAny (model prog w) A (pyNext it) (fun r s₁ => match r with
   |none=>R (.ok .next) s₁
   | some v => wpAny (model prog w) A (letOwnedTupleGo t0 it v) (fun _ s₁ => wpAny (model prog w) A (assign t0 env v) (fun _ s₂ =>
     wpAny (model prog w) A (forIn f0 true fun c r=>if r=true then do let ok <-isTrue c env (eval c env);pure (ForInStep.yield ok)else pure (ForInStep.yield r)) (fun ok s₃ =>
      if ok=true then wpAny (model prog w) A (eval i1 env) (fun x s₄=>wpAny (model prog w) A (pyIter x) (fun it2 s₅ =>
       codeAny (model prog w) A (.compStart (cC elt t0 i0 t1 i1 f0 f1 scope pos) 1 it2 acc env) (fun r s₆=>(∃ f,r=.ok f)/\∃ m,m<n/\I m s₆) s₅) (fun _ _=>False) s₄) (fun _ _=>False) s₃
      else ∃ m,m<n/\I m s₃) (fun _ _=>False) s₂) (fun _ _=>False) s₁) (fun _ _=>False) s₁) (fun _ _=>False) s)
  (n:Nat) (h:I n s) :
  codeAny (model prog w) A (.compLoop (cC elt t0 i0 t1 i1 f0 f1 scope pos) 0 it acc env) R s:=by
 refine codeAny_loop rfl I (fun n s hI=>?_) n h
 show wpAny _ A ((compTurn (cC elt t0 i0 t1 i1 f0 f1 scope pos) 0 it acc env).onRaise (fun x=>do noteFrame x env;theTreesLotGoes x)) _ _ s
 refine wpAny_noted ?_
 rw[FJ]
 refine wpAny_bind (wpAny_standAt (wpAny_bind (wpAny_mono (turn n s hI) (fun r s₁ h₁=>?_) fun _ _ h'=>h'.elim)))
 cases r with
 |none=>exact wpAny_pure h₁
 |some v =>
  refine wpAny_bind (wpAny_mono h₁ (fun _ s1 h₁=>?_) fun _ _ h'=>h'.elim)
  refine wpAny_bind (wpAny_mono h₁ (fun _ s₂ h₂=>wpAny_bind (wpAny_mono h₂ (fun ok s₃ h₃=>?_) fun _ _ h'=>h'.elim)) fun _ _ h'=>h'.elim)
  cases ok with
  |false=>exact wpAny_pure ⟨rfl,h₃⟩
  |true =>
   refine wpAny_bind (wpAny_mono h₃ (fun x s₄ h₄=>wpAny_bind (wpAny_standAt ?_)) fun _ _ h'=>h'.elim)
   rw[hs x]
   refine wpAny_bind (wpAny_pure (wpAny_bind (wpAny_holding (wpAny_mono h₄ (fun it2 s₅ h₅=>?_) fun _ _ h'=>h'.elim))))
   refine wpAny_bind (wpAny_runOwn (codeAny_mono h₅ fun r s₆ h₆=>?_))
   obtain⟨⟨f,rfl⟩,h₆⟩:=h₆
   exact wpAny_pure ⟨rfl,h₆⟩
end
def vd (J:It) (g:TG) (tc:TT) (te:TE) (W:Nat->Nat->List V->St->Hp->Prop) (Z:List V->St->Hp->Prop):Prop :=
 ∀ i m ys σ H,W i m ys σ H->ys.length<=sizeLine/\((J.stop i H/\Z ys σ H) ∨
  (J.go i H/\∀ x H',J.yld i H x H'->g x σ H' fun σ2 H2=>tc σ2 H2 fun b H3=>if b=true then te σ2 H3 fun y H4=>∃ m',m'<m/\W (i+1) m' (ys++[y]) σ2 H4 else ∃ m',m'<m/\W (i+1) m' ys σ2 H3))
def tK (J:It) (g0:TG) (tc0:TT) (wi:TI) (g:TG) (tc:TT) (te:TE) (W:Nat->Nat->List V->St->Hp->Prop) (Z:List V->Hp->Prop):Prop :=
 ∀ i m ys σ H,W i m ys σ H->ys.length<=sizeLine/\((J.stop i H/\Z ys H) ∨
  (J.go i H/\∀ x H',J.yld i H x H'->g0 x σ H' fun σ2 H2=>tc0 σ2 H2 fun b H3=>if b=true then wi σ2 H3 fun J2 H4=>∃ W2:Nat->Nat->List V->St->Hp->Prop,(∃ m2,W2 0 m2 ys σ2 H4)/\vd J2 g tc te W2 fun ys' σ' H'=>∃ m',m'<m/\W (i+1) m' ys' σ' H' else ∃ m',m'<m/\W (i+1) m' ys σ2 H3))
theorem thF {α:Type} {t:Sem α} {Q Q':α->Shared->Prop} {M:Model} {A:Around} {E:Value->Shared->Prop} {s:Shared} (hE:E=fun _ _=>False) (h:wpAny M A t Q E s) (hQ:∀ a s,Q a s->Q' a s):wpAny M A t Q' (fun _ _=>False) s:=wpAny_mono h hQ fun e s x=>by rw[hE]at x;exact x
section
variable {Y:Cx} {P:List (Addr×Obj)} {D:Addr} {elt t0 i0 t1 i1:Expr} {f0 f1:List Expr} {scope:Scope} {pos:Pos} {g:TG} {tc:TT} {te:TE}
theorem uu (hpn:Y.pn=[]) (hcalm:Y.calm=true) (hxe:Y.xe=fun _ _=>False) (hex:D∈Y.ex∨Y.s₀.heap.objs.size<=D) (hcell:∀ x c,Y.env.cells.lookup x=some c->c≠D) (hPD:∀ p∈P,p.1≠D)
  (hg:PG Y t1 g) (hif:PIf Y f1 tc) (he:PE Y elt te)
  {its0:List Value} {nn0:Nat} {ys0:List V} {σ:St} {H:Hp} {s:Shared} (I:Inv Y ([(D,bh its0 nn0)]++P) σ H s) (rv0:aq ys0 its0) {it2:Addr} {fp2:List Addr} {tn2:Nat->Heap->Prop} {J2:It} (T:gJ Y.prog Y.w Y.K t1 J2 fp2 it2 tn2) (st:tn2 0 s.heap)
  (f:∀ b∈fp2,cy Y ([(D,bh its0 nn0)]++P) H b) {W2:Nat->Nat->List V->St->Hp->Prop} {Z2:List V->St->Hp->Prop} {m0:Nat} (w0:W2 0 m0 ys0 σ H) (turn:vd J2 g tc te W2 Z2) {R:Result->Shared->Prop}
  (hR:∀ (s':Shared) (ys:List V) (its:List Value) (n:Nat) (σ':St) (H':Hp),Inv Y ([(D,bh its n)]++P) σ' H' s'->aq ys its->Z2 ys σ' H'->R (.ok .next) s') :
  codeAny (model Y.prog Y.w) Y.A (.compStart (cC elt t0 i0 t1 i1 f0 f1 scope pos) 1 (.ref it2) (.ref D) Y.env) R s:=by
 have fpc:∀ {H:Hp} {n:Nat} {its:List Value},(∀ b∈fp2,H b=none)->∀ b∈fp2,cy Y ([(D,bh its n)]++P) H b:=fun hn b hb=>by
  obtain⟨_,a1,a2,a3,a4,a5⟩:=f b hb
  refine⟨hn b hb,a1,a2,a3,a4,fun p hp=>?_⟩
  rw[hpn,List.nil_append]at hp
  rcases List.mem_append.mp hp with z|z
  ·obtain rfl:=List.mem_singleton.mp z
   exact a5 (D,bh its0 nn0) (by rw[hpn];simp)
  ·exact a5 p (by rw[hpn];simp[z])
 have loop:codeAny (model Y.prog Y.w) Y.A (.compLoop (cC elt t0 i0 t1 i1 f0 f1 scope pos) 1 (.ref it2) (.ref D) Y.env) R s:=by
  refine mn (fun n s'=>∃ i ys its nn σ' H',Inv Y ([(D,bh its nn)]++P) σ' H' s'/\aq ys its/\tn2 i s'.heap/\(∀ b∈fp2,H' b=none)/\W2 i n ys σ' H') ?_ m0
   ⟨0,ys0,its0,nn0,σ,H,I,rv0,st,fun b hb=>(f b hb).1,w0⟩
  rintro n s' ⟨i,ys,its,nn,σ',H',I4,rv,st4,fr4,w4⟩
  obtain⟨hz,h⟩:=turn i n ys σ' H' w4
  rcases h with⟨stop,hZ⟩|⟨go,step⟩
  ·refine thn (T.done Y rfl rfl rfl hcalm i _ s' _ H' (fun _ _=>False) I4 (fpc fr4) st4 stop) fun r s4 ⟨hr,I5⟩=>?_
   subst hr
   exact hR s4 ys its nn σ' H' I5 rv hZ
  ·refine thn (T.item Y rfl rfl rfl hcalm i _ s' _ H' (fun _ _=>False) I4 (fpc fr4) st4 go) fun r s5 ⟨u,hr,h5⟩=>?_
   subst hr
   refine thn h5 fun _ s6 ⟨x,H6,I6,r6,y6,st6,fr6⟩=>?_
   have I6':=I6.pinned (fpc fr6) (T.obj _ _ st6)
   refine thF hxe (hg _ s6 _ H6 x u _ I6' r6 (step x H6 y6)) fun _ s7 ⟨σ7,H7,I7,q7⟩=>?_
   refine thF hxe (hif _ s7 σ7 H7 _ I7 q7) fun ok s8 ⟨H8,I8,q8⟩=>?_
   have keepfp:∀ {σ9:St} {H9:Hp} {s9:Shared},Inv Y (([(D,bh its nn)]++P)++eF fp2 s6.heap) σ9 H9 s9->tn2 (i+1) s9.heap/\∀ b∈fp2,H9 b=none:=fun {σ9 H9 s9} I9 =>
    ⟨T.keep _ _ _ st6 fun b hb o e=>(I9.pin (b,o) (List.mem_append_right _ (List.mem_append_right _ (bo hb e)))).1,fun b hb=>by
     obtain⟨o,e,d⟩:=T.obj _ _ st6 b hb
     exact(I9.pin (b,o) (List.mem_append_right _ (List.mem_append_right _ (bo hb e)))).2.1⟩
   cases ok with
   |false =>
    obtain⟨m',hm,w8⟩:=q8
    obtain⟨a8,b8⟩:=keepfp I8
    exact⟨m',hm,i+1,ys,its,nn,σ7,H8,I8.unpinned,rv,a8,b8,w8⟩
   |true =>
    refine thF hxe (he _ s8 σ7 H8 _ I8 q8) fun v s9 ⟨y,H9,I9,r9,q9⟩=>?_
    obtain⟨m',hm,w9⟩:=q9
    obtain⟨a9,b9⟩:=keepfp I9
    have pacc:=I9.pin (D,bh its nn) (List.mem_append_right _ (List.mem_append_left _ (List.mem_append_left _ List.mem_cons_self)))
    have hzi:its.toArray.size<=sizeLine:=by rw[List.size_toArray,<-rv.length];exact hz
    refine PySem.wpAny_list_append_plain (hsz:=hzi) ⟨nn,pacc.1⟩ fun h' hl' hs'=>?_
    obtain⟨n',hl'⟩:=hl'
    have nfp:∀ b∈fp2,b≠D:=fun b hb z=>by
     have:=(f b hb).2.2.2.2.2 (D,bh its0 nn0) (by rw[hpn];simp)
     exact this z.symm
    have I10:Inv Y [] σ7 H9 { s9 with heap:=h' } :=
     Inv.turned (t':=s9.toks) (it:=D) (I9.pins_of fun p hp=>absurd hp (by simp)) (fun b o hb e=>(hs'.2 b hb).trans e) pacc.2.1 pacc.2.2.1 hex hcell (fun p hp=>absurd (show p∈([]:List (Addr×Obj))from by rw[hpn]at hp;exact hp) (by simp))
    refine⟨m',hm,i+1,ys++[y],its++[v],n',σ7,H9,I10.pins_of fun p hp=>?_,rv.append (.cons r9 .nil),T.keep _ _ _ a9 fun b hb o e=>(hs'.2 b (nfp b hb)).trans e,b9,w9⟩
    rcases List.mem_append.mp hp with z|z
    ·have e:p=(D,bh (its++[v]) n'):=List.mem_singleton.mp z
     subst e
     refine⟨?_,pacc.2.1,pacc.2.2.1,pacc.2.2.2.1,fun v z=>by cases z⟩
     rw[hl']
     simp[bh]
    ·obtain⟨b1,b2,b3,b4,b5⟩:=I9.pin p (List.mem_append_right _ (List.mem_append_left _ (List.mem_append_right _ z)))
     exact⟨(hs'.2 _ (hPD p z)).trans b1,b2,b3,b4,b5⟩
 exact kU loop (T.self _ 0 _ _ _ st loop)
end
section
variable {X:Cx} {pins:List (Addr×Obj)} {σ σ':St} {H2 H':Hp} {s2 s':Shared} {scope:Scope} {cl:List (Str×Addr)} {ms:List Bool} {extra:List Str} {elt t0 i0 t1 i1:Expr} {f0 f1:List Expr} {g0 g:TG} {tc0 tc:TT} {te:TE} {wi:TI} {pos:Pos}
theorem sm (S:bv X scope cl ms extra) (hcalm:X.calm=true)
  (hg0:∀ C s H ex,PG (ah X scope cl (X.N++extra) C s H ex) t0 g0) (hif0:∀ C s H ex,PIf (ah X scope cl (X.N++extra) C s H ex) f0 tc0) (hi1:∀ C s H ex,PI (ah X scope cl (X.N++extra) C s H ex) t1 i1 wi) (hg:∀ C s H ex,PG (ah X scope cl (X.N++extra) C s H ex) t1 g) (hif:∀ C s H ex,PIf (ah X scope cl (X.N++extra) C s H ex) f1 tc) (hs1:∀ C x,foldedSetIterable i1 (compEnvC scope cl C X.env) x=pure x) (he:∀ C s H ex,PE (ah X scope cl (X.N++extra) C s H ex) elt te)
  (I2:Inv X pins σ H2 s2) {it:Addr} {fp:List Addr} {tn:Nat->Heap->Prop} {J:It} (T:gJ X.prog X.w X.K t0 J fp it tn) (st2:tn 0 s2.heap) (f2:∀ b∈fp,cy X pins H2 b)
  {W:Nat->Nat->List V->St->Hp->Prop} {Z:List V->Hp->Prop} {m0:Nat} (w0:W 0 m0 [] (c9 ms extra.length σ) H2) (turn:tK J g0 tc0 wi g tc te W Z)
  {RR:Value->Addr->Result->Shared->Prop} {E:Value->Shared->Prop}
  (hRR:∀ (s':Shared) (ys:List V) (its:List Value) (n:Nat) (σ':St) (H':Hp),Inv (ah X scope cl (X.N ++ extra) (s2.heap.objs.size + 1) s2 H2 fp) [(s2.heap.objs.size,bh its n)] σ' H' s' → aq ys its → ys.length ≤ sizeLine → Z ys H' →
   RR (.ref s2.heap.objs.size) (s2.heap.objs.size+1) (.ok .next) s') :
  wpAny (model X.prog X.w) X.A (newList []) (fun acc s₃=>wpAny (model X.prog X.w) X.A (newFunctionEnv scope X.env.globals cl [] X.env.qual none .none (some X.env)) (fun cenv s₄ =>
   codeAny (model X.prog X.w) X.A (.compStart (cC elt t0 i0 t1 i1 f0 f1 scope pos) 0 (.ref it) acc { cenv with scope:=relabel scope X.env }) (RR acc cenv.locals) s₄) E s₃) E s2:=by
 refine wpAny_newObj_type (wpAny_newFunctionEnv S.ncell (by intro y hy;simp at hy) (fun h₁ hns₁ hsb₁=>?_) S.kind)
 dsimp only at hns₁ hsb₁ ⊢
 have hsz:(s2.heap.push { cls:=.type "list",dict:=none,data:=.seq ([]:List Value).toArray }).objs.size=s2.heap.objs.size+1:=by rw[Heap.size_push]
 rw[hsz]at hns₁ hsb₁ ⊢
 have hlt:∀ b∈fp,b<s2.heap.objs.size:=fun b hb=>by
  obtain⟨o,e,_⟩:=T.obj _ _ st2 b hb
  exact Heap.lt_size e
 have old:∀ b o,s2.heap.get? b=some o->h₁.get? b=some o:=fun b o e=>hsb₁.extBut b o (Nat.ne_of_lt (Nat.lt_succ_of_lt (Heap.lt_size e))) (Heap.get?_push_of_some _ (Heap.get?_push_of_some _ e))
 have hacc:h₁.get? s2.heap.objs.size=some (bh [] 0):=hsb₁.extBut _ _ (Nat.ne_of_lt (Nat.lt_succ_self _)) (Heap.get?_push_of_some _ (Heap.get?_push_size _ rfl))
 have hDn:H2 s2.heap.objs.size=none:=I2.hok.fresh (Nat.le_refl _)
 have hDfs:∀ b,s2.heap.objs.size<=b->b∉(ah X scope cl (X.N++extra) (s2.heap.objs.size+1) s2 H2 fp).fs:=fun b hb z=>by
  rcases List.mem_cons.mp (I2.stkSub b z)with e|e
  ·subst e;exact absurd (Nat.lt_of_lt_of_le I2.lt hb) (Nat.lt_irrefl _)
  ·exact I2.nofs hb e
 have loop:∀ s₃:Shared,s₃={ s2 with heap:=h₁,toks:=s2.toks+([]:List (Str×Value)).length } ->
   codeAny (model X.prog X.w) X.A (.compLoop (cC elt t0 i0 t1 i1 f0 f1 scope pos) 0 (.ref it) (.ref s2.heap.objs.size) (compEnvC scope cl (s2.heap.objs.size+1) X.env)) (RR (.ref s2.heap.objs.size) (s2.heap.objs.size+1)) s₃:=by
  rintro s₃ rfl
  have I3:Inv (ah X scope cl (X.N++extra) (s2.heap.objs.size+1) s2 H2 fp) [] (c9 ms extra.length σ) H2 { s2 with heap:=h₁,toks:=s2.toks+([]:List (Str×Value)).length } :=
   n9 I2 S f2 hlt (Nat.le_succ _) rfl I2.bare old hns₁
  have fpc:∀ {H:Hp} {n:Nat} {its:List Value},(∀ b∈fp,H b=none)->∀ b∈fp,cy (ah X scope cl (X.N++extra) (s2.heap.objs.size+1) s2 H2 fp) [(s2.heap.objs.size,bh its n)] H b:=fun hn b hb =>
   ⟨hn b hb,Nat.ne_of_lt (Nat.lt_succ_of_lt (hlt b hb)),(pd I2 S f2 hlt (Nat.le_succ _)).exfs b hb,.inl hb,fun x c e=>(f2 b hb).2.2.2.2.1 x c (S.sub x c e),fun p hp=>by
    have:p=(s2.heap.objs.size,_):=List.mem_singleton.mp (show p∈[(s2.heap.objs.size,_)]from hp)
    subst this
    exact Nat.ne_of_gt (hlt b hb)⟩
  refine mz (env:=compEnvC scope cl (s2.heap.objs.size+1) X.env) (hs1 _)
   (fun n s'=>∃ i ys its nn σ' H',Inv (ah X scope cl (X.N++extra) (s2.heap.objs.size+1) s2 H2 fp) [(s2.heap.objs.size,bh its nn)] σ' H' s'/\aq ys its/\tn i s'.heap/\(∀ b∈fp,H' b=none)/\W i n ys σ' H') ?_ m0
   ⟨0,[],[],0,_,H2,I3.pins_of fun p hp=>?_,.nil,T.keep _ _ _ st2 fun b _ o e=>old b o e,fun b hb=>(f2 b hb).1,w0⟩
  ·rintro n s' ⟨i,ys,its,nn,σ',H',I4,rv,st4,fr4,w4⟩
   obtain⟨hz,h⟩:=turn i n ys σ' H' w4
   rcases h with⟨stop,hZ⟩|⟨go,step⟩
   ·refine thn (T.done (ah X scope cl (X.N++extra) (s2.heap.objs.size+1) s2 H2 fp) rfl rfl rfl hcalm i _ s' _ H' (fun _ _=>False) I4 (fpc fr4) st4 stop) fun r s4 ⟨hr,I5⟩=>?_
    subst hr
    exact hRR s4 ys its nn σ' H' I5 rv hz hZ
   ·refine thn (T.item (ah X scope cl (X.N++extra) (s2.heap.objs.size+1) s2 H2 fp) rfl rfl rfl hcalm i _ s' _ H' (fun _ _=>False) I4 (fpc fr4) st4 go) fun r s5 ⟨u,hr,h5⟩=>?_
    subst hr
    refine thn h5 fun _ s6 ⟨x,H6,I6,r6,y6,st6,fr6⟩=>?_
    have I6':=I6.pinned (fpc fr6) (T.obj _ _ st6)
    refine thn (hg0 _ _ _ _ _ s6 _ H6 x u _ I6' r6 (step x H6 y6)) fun _ s7 ⟨σ7,H7,I7,q7⟩=>?_
    refine thn (hif0 _ _ _ _ _ s7 σ7 H7 _ I7 q7) fun ok s8 ⟨H8,I8,q8⟩=>?_
    have keepfp:∀ {its:List Value} {nn:Nat} {σ9:St} {H9:Hp} {s9:Shared},Inv (ah X scope cl (X.N++extra) (s2.heap.objs.size+1) s2 H2 fp) ([(s2.heap.objs.size,bh its nn)]++eF fp s6.heap) σ9 H9 s9->tn (i+1) s9.heap/\∀ b∈fp,H9 b=none:=fun {its nn σ9 H9 s9} I9 =>
     ⟨T.keep _ _ _ st6 fun b hb o e=>(I9.pin (b,o) (List.mem_append_right _ (List.mem_append_right _ (bo hb e)))).1,fun b hb=>by
      obtain⟨o,e,d⟩:=T.obj _ _ st6 b hb
      exact(I9.pin (b,o) (List.mem_append_right _ (List.mem_append_right _ (bo hb e)))).2.1⟩
    cases ok with
    |false =>
     obtain⟨m',hm,w8⟩:=q8
     obtain⟨a8,b8⟩:=keepfp I8
     exact⟨m',hm,i+1,ys,its,nn,σ7,H8,I8.unpinned,rv,a8,b8,w8⟩
    |true =>
     refine thn (hi1 _ _ _ _ _ s8 σ7 H8 _ I8 q8) fun v s9 h9=>thn h9 fun itv s10 h10=>?_
     obtain⟨it2,fp2,tn2,J2,H10,e,I10,T2,st10,f10,W2,⟨m2,w2⟩,cin⟩:=h10
     subst e
     have hne:∀ x c,(ah X scope cl (X.N++extra) (s2.heap.objs.size+1) s2 H2 fp).env.cells.lookup x=some c->c≠s2.heap.objs.size:=fun x c e=>by
      obtain⟨v,o,ho,_⟩:=I2.cell x c (S.sub x c e)
      exact Nat.ne_of_lt (Heap.lt_size ho)
     refine uu (Y:=ah X scope cl (X.N++extra) (s2.heap.objs.size+1) s2 H2 fp) rfl hcalm rfl (.inr (Nat.le_refl _)) hne (fun p hp=>Nat.ne_of_lt (hlt _ (js hp).1)) (hg _ _ _ _) (hif _ _ _ _) (he _ _ _ _) I10 rv T2 st10 f10 w2 cin ?_
     intro s' ys' its' n' σ' H' I' rv' ⟨m',hm,w'⟩
     obtain⟨a9,b9⟩:=keepfp I'
     exact⟨⟨_,rfl⟩,m',hm,i+1,ys',its',n',σ',H',I'.unpinned,rv',a9,b9,w'⟩
  ·have e:p=(s2.heap.objs.size,bh [] 0):=List.mem_singleton.mp hp
   subst e
   exact⟨hacc,hDn,Nat.ne_of_lt (Nat.lt_succ_self _),hDfs _ (Nat.le_refl _),fun v z=>by cases z⟩
 exact codeAny_compStart_list (loop _ rfl) (T.self _ 0 _ _ _ (T.keep _ _ _ st2 fun b _ o e=>old b o e) (loop _ rfl))
def E9 (ms:List Bool) (k:Nat) (w0:TI) (g0:TG) (tc0:TT) (wi:TI) (g:TG) (tc:TT) (te:TE):TE:=fun σ H Q=>w0 σ H fun J H1=>∃ (W:Nat->Nat->List V->St->Hp->Prop) (Z:List V->Hp->Prop),(∃ m,W 0 m [] (c9 ms k σ) H1)/\tK J g0 tc0 wi g tc te W Z /\
 ∀ ys H p,Z ys H->H p=none->Q (.ref p) (upd H p (.lst ys))
end
/-! ### comprehensions of two clauses,in deep data -/
def fc (g:GD) (tc:TTd) (te:TEd):List D->DE->DH->List D->(List D->DE->DH->Prop)->Prop
 |[],Δ,M,acc,Q=>Q acc Δ M
 |d::ds,Δ,M,acc,Q=>∃ Δ',g d Δ=some Δ'/\tc Δ' M fun b M1=>if b=true then te Δ' M1 fun y M2=>fc g tc te ds Δ' M2 (acc++[y]) Q else fc g tc te ds Δ' M1 acc Q
def eD (g0:GD) (tc0:TTd) (wi:TId) (g:GD) (tc:TTd) (te:TEd):List D->DE->DH->List D->(List D->DH->Prop)->Prop
 |[],_,M,acc,Q=>Q acc M
 |d::ds,Δ,M,acc,Q=>∃ Δ',g0 d Δ=some Δ'/\tc0 Δ' M fun b M1=>if b=true then wi Δ' M1 fun es M2=>acc.length+es.length<=sizeLine/\fc g tc te es Δ' M2 acc fun acc' Δ'' M3=>eD g0 tc0 wi g tc te ds Δ'' M3 acc' Q else eD g0 tc0 wi g tc te ds Δ' M1 acc Q
def xB (ms:List Bool) (k:Nat) (w0:TId) (g0:GD) (tc0:TTd) (wi:TId) (g:GD) (tc:TTd) (te:TEd):TEd:=fun Δ M Q=>w0 Δ M fun ds M1=>eD g0 tc0 wi g tc te ds (dI ms k Δ) M1 [] fun ys M2=>Q (.lst ys) M2
theorem we {K:PySem.W.Frag} {w0 wi:TId} {g0 g:GD} {tc0 tc:TTd} {te:TEd} {gv0 gv:TG} {ms:List Bool} {kk:Nat}
  (kg0:∀ (d:D) (v:V) (σ:St) (Δ Δ':DE) (M:DH) (H:Hp) (Q:St->Hp->Prop),SR K M H σ Δ->HR K M H->Rep K M H d v->g0 d Δ=some Δ'->(∀ σ',SR K M H σ' Δ'->Q σ' H)->gv0 v σ H Q)
  (kg:∀ (d:D) (v:V) (σ:St) (Δ Δ':DE) (M:DH) (H:Hp) (Q:St->Hp->Prop),SR K M H σ Δ->HR K M H->Rep K M H d v->g d Δ=some Δ'->(∀ σ',SR K M H σ' Δ'->Q σ' H)->gv v σ H Q) :
  ∀ σ H Q,up K (xB ms kk w0 g0 tc0 wi g tc te) σ H Q->E9 ms kk (upI K w0) gv0 (upT K tc0) (upI K wi) gv (upT K tc) (up K te) σ H Q:=by
 rintro σ H Q ⟨Δ,M,R,sr,hr,q,k⟩
 refine⟨Δ,M,_,sr,hr,q,fun ds M1 J H1 q1 e1 hr1 it=>?_⟩
 refine⟨fun i m ys σ' H'=>∃ Δ' M' acc,m=ds.length-i/\i<=ds.length/\Ext M1 H1 M' H'/\HR K M' H'/\SR K M' H' σ' Δ'/\af K M' H' acc ys/\acc.length<=sizeLine/\eD g0 tc0 wi g tc te (ds.drop i) Δ' M' acc fun ys M2=>R (.lst ys) M2,
  fun ys H'=>∃ M' acc,Ext M1 H1 M' H'/\HR K M' H'/\af K M' H' acc ys/\R (.lst acc) M',⟨ds.length,_,M1,[],by simp,Nat.zero_le _,Ext.refl _ _,hr1,(sr.ext e1).comp ms kk,af.nil,by simp,q1⟩,?_,?_⟩
 ·rintro i m ys σ2 H2 ⟨Δ2,M2,acc,rfl,hi2,e2,hr2,sr2,ra,la,f2⟩
  refine⟨by rw[<-ra.length];exact la,?_⟩
  obtain⟨go,stop⟩:=it M2 H2 e2 hr2 i
  by_cases hlt:i<ds.length
  ·have hd:ds[i]?=some ds[i]:=by simp[hlt]
   obtain⟨g1,y1⟩:=go _ hd
   rw[List.drop_eq_getElem_cons hlt]at f2
   simp only[eD]at f2
   obtain⟨Δ3,eg,f3⟩:=f2
   refine .inr ⟨g1,fun x H' hy=>?_⟩
   obtain⟨e3,hr3,rx⟩:=y1 x H' hy
   refine kg0 _ x σ2 Δ2 Δ3 M2 H' _ (sr2.ext e3) hr3 rx eg fun σ3 sr3=>?_
   refine⟨Δ3,M2,_,sr3,hr3,f3,fun b M4 H4 q4 e4 hr4=>?_⟩
   cases b with
   |true =>
    simp only[if_true]at q4 ⊢
    refine⟨Δ3,M4,_,sr3.ext e4,hr4,q4,fun es M5 J2 H5 ⟨hz5,q5⟩ e5 hr5 it5=>?_⟩
    refine⟨fun j m ys' σ' H'=>∃ Δ' M' acc',m=es.length-j/\j<=es.length/\Ext M5 H5 M' H'/\HR K M' H'/\SR K M' H' σ' Δ'/\af K M' H' acc' ys'/\acc'.length<=acc.length+j/\fc g tc te (es.drop j) Δ' M' acc' fun a Δ'' M3=>eD g0 tc0 wi g tc te (ds.drop (i+1)) Δ'' M3 a fun ys M2=>R (.lst ys) M2,
     ⟨es.length,Δ3,M5,acc,by simp,Nat.zero_le _,Ext.refl _ _,hr5,(sr3.ext e4).ext e5,((ra.ext e3).ext e4).ext e5,by omega,q5⟩,?_⟩
    rintro j m ys' σ6 H6 ⟨Δ6,M6,acc6,rfl,hj,e6,hr6,sr6,ra6,la6,f6⟩
    refine⟨by rw[<-ra6.length];omega,?_⟩
    obtain⟨go2,stop2⟩:=it5 M6 H6 e6 hr6 j
    by_cases hlt2:j<es.length
    ·have hd2:es[j]?=some es[j]:=by simp[hlt2]
     obtain⟨g2,y2⟩:=go2 _ hd2
     rw[List.drop_eq_getElem_cons hlt2]at f6
     simp only[fc]at f6
     obtain⟨Δ7,eg7,f7⟩:=f6
     refine .inr ⟨g2,fun x7 H7 hy7=>?_⟩
     obtain⟨e7,hr7,rx7⟩:=y2 x7 H7 hy7
     refine kg _ x7 σ6 Δ6 Δ7 M6 H7 _ (sr6.ext e7) hr7 rx7 eg7 fun σ7 sr7=>?_
     refine⟨Δ7,M6,_,sr7,hr7,f7,fun b M8 H8 q8 e8 hr8=>?_⟩
     cases b with
     |true =>
      simp only[if_true]at q8 ⊢
      refine⟨Δ7,M8,_,sr7.ext e8,hr8,q8,fun y M9 v9 H9 q9 e9 hr9 rv9=>?_⟩
      exact⟨es.length-(j+1),by omega,Δ7,M9,acc6++[y],rfl,hlt2,((e6.trans e7).trans e8).trans e9,hr9,(sr7.ext e8).ext e9,(((ra6.ext e7).ext e8).ext e9).append (af.cons rv9 af.nil),by simp;omega,q9⟩
     |false =>
      simp only[Bool.false_eq_true,if_false]at q8 ⊢
      exact⟨es.length-(j+1),by omega,Δ7,M8,acc6,rfl,hlt2,(e6.trans e7).trans e8,hr8,sr7.ext e8,(ra6.ext e7).ext e8,by omega,q8⟩
    ·rw[List.drop_eq_nil_of_le (by omega)]at f6
     simp only[fc]at f6
     exact .inl ⟨stop2 (by omega),ds.length-(i+1),by omega,Δ6,M6,acc6,rfl,hlt,(((e2.trans e3).trans e4).trans e5).trans e6,hr6,sr6,ra6,by omega,f6⟩
   |false =>
    simp only[Bool.false_eq_true,if_false]at q4 ⊢
    exact⟨ds.length-(i+1),by omega,Δ3,M4,acc,rfl,hlt,(e2.trans e3).trans e4,hr4,sr3.ext e4,(ra.ext e3).ext e4,la,q4⟩
  ·rw[List.drop_eq_nil_of_le (by omega)]at f2
   simp only[eD]at f2
   exact .inl ⟨stop (by omega),M2,acc,e2,hr2,ra,f2⟩
 ·rintro ys H' p ⟨M',acc,e',hr',ra,q'⟩ hp
  refine k _ M' _ _ q' ((e1.trans e').trans (Ext.new hr' hp)) (hr'.new hp) ?_
  simp only[Rep]
  exact⟨p,ys,rfl,⟨ax,hr'.fresh hp⟩,ra.ext (Ext.new hr' hp)⟩
/-! ### the bG of a block,kept shut -/
@[irreducible] def zt (t:TSd):TSd:=t
theorem tu {t:TSd}:zt t=t:=by unfold zt;rfl
theorem gD {t:TSd} {E:fJ} {Δ:DE} {M:DH} (h:t E Δ M):zt t E Δ M:=by rw[tu];exact h
theorem mT {X:Cx} {st:List Stmt} {t:TSd} (h:QSs X st t):QSs X st (zt t):=by rw[tu];exact h
/-! ### the head with the whole heap of the top -/
theorem wH {K:Params->PySem.W.Frag} {as:List Addr} {n t:Nat} {q:Program} {loose:List Str} {XP:(Str->Option Value)->Heap->Prop} {r:PySem.W.RowW} {d:DefRec} {kwd:List (Str×Expr)} {run:Value->List Value->Sem Value} (hk:∀ P,as=(K P).map (·.1))
  (h:PySem.W.WalkO q loose XP (fun w h=>(K w.params).In h) r d kwd run):PySem.W.WalkX q loose XP (PySem.W.X.obsZ as) (PySem.W.X.valZ K n t) r d kwd run:=by
 intro w s₀ s₁ mg mb G y a o pm cd doc dV kV ho hd hcd hD hmg hg args vals as' L hpre hlay hrd hwl hlo
 refine h w s₀ s₁ mg mb G (fun b u hu=>L.keeps b u ?_) a o pm cd doc dV kV ho hd hcd hD hmg hg args vals as' hpre hlay hrd hwl hlo
 have y1:as.map s₀.heap.get?=(K w.params).map fun p=>some p.2:=congrArg (·.1) y
 rw[hk w.params,List.map_map]at y1
 have key:∀ (l:PySem.W.Frag),(l.map fun p=>s₀.heap.get? p.1)=l.map (fun p=>some p.2)->List.lookup b l=some u->s₀.heap.get? b=some u:=by
  intro l
  induction l with
  |nil=>intro _ z;cases z
  |cons p l ih =>
   intro e z
   rw[List.map_cons,List.map_cons,List.cons.injEq]at e
   rw[List.lookup_cons]at z
   by_cases c:b=p.1
   ·subst c
    rw[beq_self_eq_true]at z
    cases z
    exact e.1
   ·rw[beq_eq_false_iff_ne.mpr c]at z
    exact ih e.2 z
 exact key _ y1 hu
end L2
namespace L2
open PySem PySem.W PySem.Calls PyProof.Rows
/-! ### sorted of a list or a tuple: ints,pairs of ints -/
section
variable {prog:Program} {w:World} {A:Around} {E:Value->Shared->Prop} {O:KeyOrd}
theorem um {T:String} {o:Obj} {n:Nat} {s:Shared} {l:Addr} {vs:List Value} {key:Nat->O.α} {κ:SortKind} {Q:Value->Shared->Prop} (hT:T="list"∨T="tuple") (hg:s.heap.get? l=some o) (hcl:o.cls=.type T) (hd:o.data=.seq vs.toArray n) (hz:vs.length<64)
  (hk:∀ s1 Q,2<=vs.length->(∀ b o,s.heap.get? b=some o->s1.heap.get? b=some o)->Q κ s1->wpAny (model prog w) A.in1.in1 (keyKind' vs.toArray) Q (fun _ _=>False) s1)
  (hc:∀ i j s1 C,i<vs.length->j<vs.length->(∀ b o,s.heap.get? b=some o->s1.heap.get? b=some o)->C (c8 O key i j) s1->kas_ask prog w A.in1.in1 κ vs i j C s1)
  (k:∀ (h1:Heap) p x c h',(∀ b o,s.heap.get? b=some o->h1.get? b=some o)->ca vs.length p->cz O key p vs.length->h1.objs.size<=x->(∀ b o,h1.get? b=some o->h'.get? b=some o)->h'.get? x=some (seqObj "list" (i9 vs p).toArray c)->Q (.ref x) { s with heap:=h' }) :
  wpAny (model prog w) A (call (.builtin "sorted") [.ref l]) Q E s:=by
 refine call_function_entry kind_sorted plain_sorted entry_sorted (args_sorted1 _) ?_
 unfold Builtin.«sorted»
 refine wpAny_bind (m:=checkCount "sorted" 1 1 _) (wpAny_pure ?_)
 have hz':vs.length<=sizeLine:=by rw[sizeLine_eq];omega
 refine wpAny_bind (wpAny_collect_seq l hT hg hcl hd (fun h1 kp0=>wpAny_bind (wpAny_newList ?_ hz')) (by simpa using hz'))
 have kp2:∀ b o,h1.get? b=some o->(h1.push (seqObj "list" vs.toArray 0)).get? b=some o:=fun b o e=>by
  rw[Heap.get?_push_ne _ _ _ (Nat.ne_of_lt (Heap.lt_size e))];exact e
 have kp1:∀ b o,s.heap.get? b=some o->(h1.push (seqObj "list" vs.toArray 0)).get? b=some o:=fun b o e=>kp2 b o (kp0 b o e)
 have new:(h1.push (seqObj "list" vs.toArray 0)).get? h1.objs.size=some (seqObj "list" vs.toArray 0):=Heap.get?_push_size _ rfl
 have old1:h1.get? h1.objs.size=none:=Heap.get?_none_of_le (Nat.le_refl _)
 have old:s.heap.get? h1.objs.size=none:=by
  cases e:s.heap.get? h1.objs.size with
  |none=>rfl
  |some u=>rw[kp0 _ _ e]at old1;cases old1
 show wpAny _ _ _ _ _ { s with heap:=h1.push (seqObj "list" vs.toArray 0) }
 have go:∀ (t:Shared),qw h1.objs.size { s with heap:=h1.push (seqObj "list" vs.toArray 0) } t->∀ b o,s.heap.get? b=some o->t.heap.get? b=some o:=fun t ht b o e=>ht b o (fun q=>by rw[q,old]at e;cases e) (kp1 b o e)
 have go1:∀ (t:Shared),qw h1.objs.size { s with heap:=h1.push (seqObj "list" vs.toArray 0) } t->∀ b o,h1.get? b=some o->t.heap.get? b=some o:=fun t ht b o e=>ht b o (fun q=>by rw[q,old1]at e;cases e) (kp2 b o e)
 refine wpAny_bind (wpAny_holding (wpAny_call_entry slot_list_sort ⟨_,new,rfl⟩ entry_list_sort ?_ (args_list_sort _)))
 refine CK (κ:=κ) (key:=key) new hz (fun t Q' two ht q=>hk t Q' two (go t ht) q) (fun i j t C hi hj ht q=>hc i j t C hi hj (go t ht) q) fun p c h' hp hr hs hx=>?_
 refine⟨_,rfl,wpAny_pure ⟨_,rfl,?_⟩⟩
 exact k h1 p _ c h' kp0 hp hr (Nat.le_refl _) (fun b o e=>go1 { s with heap:=h' } hs b o e) hx
end
end L2
namespace L2
open PySem PySem.Spec PyProof.Rows
/-! ### list(range(n)) -/
/-! ### a<b<c<d -/
section
variable {X:Cx} {pins:List (Addr×Obj)} {σ σ':St} {H2 H':Hp} {s2 s':Shared} {scope:Scope} {cl:List (Str×Addr)} {ms:List Bool} {extra:List Str} {elt t0 i0 t1 i1:Expr} {f0 f1:List Expr} {g0 g:TG} {tc0 tc:TT} {te:TE} {wi:TI} {pos:Pos}
theorem ui {i:Nat} {x:Str} {spos pos':Pos} (hN:X.N.Nodup) (hix:X.N[i]?=some x) (hx:X.env.scope.names.lookup x=some .local)
  (hsw:swapsWith (cC elt t0 i0 t1 i1 f0 f1 scope pos) (some (.Name x pos')) spos.line X.env=pure true)
  (S:bv X scope cl ms extra) (hcalm:X.calm=true) {w0:TI} (hi:PI X t0 i0 w0)
  (hg0:∀ C s H ex,PG (ah X scope cl (X.N++extra) C s H ex) t0 g0) (hif0:∀ C s H ex,PIf (ah X scope cl (X.N++extra) C s H ex) f0 tc0) (hi1:∀ C s H ex,PI (ah X scope cl (X.N++extra) C s H ex) t1 i1 wi) (hg:∀ C s H ex,PG (ah X scope cl (X.N++extra) C s H ex) t1 g) (hif:∀ C s H ex,PIf (ah X scope cl (X.N++extra) C s H ex) f1 tc) (he:∀ C s H ex,PE (ah X scope cl (X.N++extra) C s H ex) elt te)
  (hs:∀ x,foldedSetIterable i0 X.env x=pure x:=by intro _;rfl) (hs1:∀ C x,foldedSetIterable i1 (compEnvC scope cl C X.env) x=pure x:=by intro _ _;rfl):PS X (.Assign [.Name x pos'] (cC elt t0 i0 t1 i1 f0 f1 scope pos) spos) (z6 (E9 ms extra.length w0 g0 tc0 wi g tc te) (nz i)):=by
 intro pins s σ H D I h
 rw[exec_Assign_Name_used _ _ _ _ hsw]
 refine wpAny_bind (wpAny_standAt (wpAny_bind ?_))
 show wpAny _ _ (do let _ <-comprehension (cC elt t0 i0 t1 i1 f0 f1 scope pos) scope X.env _ (newList []) false (eval i0 X.env) (some (assign (.Name x pos') X.env))) _ _ s
 refine wpAny_bind (wpAny_mono (wpAny_comprehension_free (use:=some (assign (.Name x pos') X.env)) (Q:=fun _ s'=>SP X pins D .next s') rfl hs S.clos S.kind S.names
  (thn (hi pins s σ H _ I h) fun v s1 h1=>thn h1 fun itv s2 h2=>?_)) (fun _ s' hq=>wpAny_pure (wpAny_pure hq)) fun _ _ e=>e)
 obtain⟨it,fp,tn,J,H2,e,I2,T,st2,f2,W,Z,⟨m0,w0⟩,turn,q⟩:=h2
 subst e
 refine sm S hcalm hg0 hif0 hi1 hg hif hs1 he I2 T st2 f2 w0 turn (RR:=fun acc C=>compPost (model X.prog X.w) X.A X.xe (some (assign (.Name x pos') X.env)) (fun _ s'=>SP X pins D .next s') acc C) ?_
 intro s' ys its n σ' H' I' rv hz hZ
 obtain⟨m,hm,_⟩:=I'.loc
 obtain⟨I3,hD⟩:=gA I2 f2 I' rv hz (Heap.SameBut.refl (s2.heap.objs.size+1) s'.heap)
 have hq:=q ys H' _ hZ hD
 show wpAny _ _ (assign (.Name x pos') X.env (.ref s2.heap.objs.size)) _ _ _
 refine wpAny_assign_Name (jH I3 hN hix (.inl hx) (v:=.ref s2.heap.objs.size) rfl (fun s4 I4 hsame=>?_) (.inr hx))
 obtain⟨a,hsb,ha⟩:=hsame
 have hLC:s2.heap.objs.size+1≠X.env.locals:=Nat.ne_of_gt (Nat.lt_succ_of_lt I2.lt)
 have haC:s2.heap.objs.size+1≠a:=by
  rcases ha with rfl|ha
  ·exact hLC
  ·intro z
   obtain⟨v,o,ho,_⟩:=I2.cell x a ha
   exact absurd (Nat.lt_succ_of_lt (Heap.lt_size ho)) (by rw[<-z];exact Nat.lt_irrefl _)
 have hCn:upd H' s2.heap.objs.size (.lst ys) (s2.heap.objs.size+1)=none:=by rw[aA (Nat.ne_of_gt (Nat.lt_succ_self _))];exact I'.free
 refine⟨m,hm.sameBut hsb haC,fun h' hs'=>?_⟩
 refine⟨_,_,?_,hq⟩
 have hL:∀ b o,b≠s2.heap.objs.size+1->s4.heap.get? b=some o->h'.get? b=some o:=fun b o hb e=>(hs'.2 b hb).trans e
 have I5:=Inv.turned (t':=s4.toks) (h':=h') (it:=s2.heap.objs.size+1) I4 (fun b o hb e=>hL b o hb e) hCn hLC (.inr (Nat.le_succ_of_le I2.sz)) (fun y c e=>by
  obtain⟨v,o,ho,_⟩:=I2.cell y c e
  exact Nat.ne_of_lt (Nat.lt_succ_of_lt (Heap.lt_size ho))) (fun p hp=>by
  exact Nat.ne_of_lt (Nat.lt_succ_of_lt (Heap.lt_size (I2.pin p hp).1)))
 exact I5
end
section
variable {X:Cx} {scope:Scope} {cl:List (Str×Addr)} {ms:List Bool} {extra:List Str} {elt t0 i0 t1 i1:Expr} {f0 f1:List Expr} {pos:Pos}
theorem wV {i:Nat} {x:Str} {spos pos':Pos} {w0 wi:TId} {g0 g:GD} {tc0 tc:TTd} {te:TEd} (hN:X.N.Nodup) (hix:X.N[i]?=some x) (hx:X.env.scope.names.lookup x=some .local)
  (hsw:swapsWith (cC elt t0 i0 t1 i1 f0 f1 scope pos) (some (.Name x pos')) spos.line X.env=pure true) (S:bv X scope cl ms extra) (hcalm:X.calm=true) (hi:PId X t0 i0 w0) (hg0:PGa X scope cl extra t0 g0)
  (hif0:∀ C s H ex,kc (ah X scope cl (X.N++extra) C s H ex) f0 tc0) (hi1:∀ C s H ex,PId (ah X scope cl (X.N++extra) C s H ex) t1 i1 wi) (hg:PGa X scope cl extra t1 g) (hif:∀ C s H ex,kc (ah X scope cl (X.N++extra) C s H ex) f1 tc) (he:∀ C s H ex,PEd (ah X scope cl (X.N++extra) C s H ex) elt te)
  (hs:∀ x,foldedSetIterable i0 X.env x=pure x:=by intro _;rfl) (hs1:∀ C x,foldedSetIterable i1 (compEnvC scope cl C X.env) x=pure x:=by intro _ _;rfl):PSd X (.Assign [.Name x pos'] (cC elt t0 i0 t1 i1 f0 f1 scope pos) spos) (ke i (xB ms extra.length w0 g0 tc0 wi g tc te)):=by
 obtain⟨gv0,pg0,kg0⟩:=hg0
 obtain⟨gv,pg,kg⟩:=hg
 refine(ui (tc0:=upT X.K tc0) (tc:=upT X.K tc) (te:=up X.K te) (wi:=upI X.K wi) hN hix hx hsw S hcalm hi pg0 hif0 hi1 pg hif he hs hs1).conv fun D σ H hh=>?_
 obtain⟨Δ,M,E,sr,hr,q,k⟩:=hh
 exact we kg0 kg σ H _ ⟨Δ,M,_,sr,hr,q,fun d M1 v H1 q1 e1 hr1 rv=>k.nx _ M1 _ H1 q1 e1 hr1 ((sr.ext e1).set i rv)⟩
theorem wo {i:Nat} {x:Str} {spos pos':Pos} {w0 wi:TId} {g0 g:GD} {tc0 tc:TTd} {te:TEd} (hN:X.N.Nodup) (hix:X.N[i]?=some x) (hx:X.env.scope.names.lookup x=some .local)
  (hsw:swapsWith (.ListComp elt [⟨t0,i0,f0,0⟩,⟨t1,i1,f1,0⟩] scope pos) (some (.Name x pos')) spos.line X.env=pure true) (S:bv X scope cl ms extra) (hcalm:X.calm=true) (hi:QId X t0 i0 w0) (hg0:PGa X scope cl extra t0 g0)
  (hif0:∀ C s H ex,QIf (ah X scope cl (X.N++extra) C s H ex) f0 tc0) (hi1:∀ C s H ex,QId (ah X scope cl (X.N++extra) C s H ex) t1 i1 wi) (hg:PGa X scope cl extra t1 g) (hif:∀ C s H ex,QIf (ah X scope cl (X.N++extra) C s H ex) f1 tc) (he:∀ C s H ex,QEd (ah X scope cl (X.N++extra) C s H ex) elt te)
  (hs:∀ x,foldedSetIterable i0 X.env x=pure x:=by intro _;rfl) (hs1:∀ C x,foldedSetIterable i1 (compEnvC scope cl C X.env) x=pure x:=by intro _ _;rfl):QSd X (.Assign [.Name x pos'] (.ListComp elt [⟨t0,i0,f0,0⟩,⟨t1,i1,f1,0⟩] scope pos) spos) (ke i (xB ms extra.length w0 g0 tc0 wi g tc te)):=by
 simp only[QEd.eq,QAd.eq,QTd.eq,QWd.eq,QSd.eq,QSs.eq,QId.eq,QIf.eq,QOd.eq]at *
 exact wV hN hix hx hsw S hcalm hi hg0 hif0 hi1 hg hif he hs hs1
end
section
variable {X:Cx}
/-! ### x is True -/
end
/-! ### d.items(),the keys tuples -/
theorem lO {prog:Program} {w:World} {A:Around} {E:Value->Shared->Prop} {s:Shared} {it d:Addr} {i ep:Nat} {es:Array DictEntry} {od:Obj} {ok ov:Value} {Q:Option Value->Shared->Prop}
  (hit:IsItemIter s.heap it d i es.size ep ok ov) (hod:s.heap.get? d=some od) (hdd:od.data=.dict es ep) (hlt:i<es.size)
  (hQ:∀ h':Heap,IsItemIterOut h' it d (i + 1) es.size ep es[i].key es[i].val s.heap.objs.size → h'.get? s.heap.objs.size = some { cls:=Value.type "tuple",data:=Data.seq #[es[i].key,es[i].val] } → h'.objs.size = s.heap.objs.size + 1 →
   (∀ b o,b≠it->s.heap.get? b=some o->h'.get? b=some o)->Q (some (Value.ref s.heap.objs.size)) { s with heap:=h' }):wpAny (model prog w) A (pyNext (Value.ref it)) Q E s:=by
 obtain⟨hp,g,dr,tk,os⟩:=s
 dsimp only at hit hod hQ
 have hT:Shared.TypeIs { heap:=hp,gens:=g,drawn:=dr,toks:=tk,os:=os } (Value.ref it) "dict_itemiterator":=⟨_,hit,rfl⟩
 refine wpAny_bind (wpAny_attempt (wpAny_callSpecial?_slot hT F.slot_dict_itemiterator_next (wpAny_call_entry F.slot_dict_itemiterator_next hT F.entry_dict_itemiterator_next ?_)))
 refine wpAny_bind (wpAny_pure (wpAny_bind (wpAny_bind (wpAny_bind (wpAny_typeNameOfWhole_itemiter hT (wpAny_pure (wpAny_bind (wpAny_fieldsOf hit rfl ?_))))))))
 have hown:Builtin.Dict_items.ownsTuple "dict_itemiterator"=true:=by decide
 simp only[hown,if_true,List.drop_succ_cons,List.drop_zero,List.take_succ_cons,List.take_zero]
 refine wpAny_ite_false (Eq.refl (decide ((Value.ref d==Value.none)=true))) ?_
 refine wpAny_bind (wpAny_pure (wpAny_bind (wpAny_dictEntries hod hdd ?_)))
 refine wpAny_ite_false (by simp) ?_
 refine wpAny_bind (wpAny_pure (wpAny_bind (wpAny_dictEpoch hod hdd ?_)))
 refine wpAny_ite_false (by simp) (wpAny_pure ?_)
 have e1:(if((i:Nat):Int)<0 then none else es[((i:Nat):Int).toNat]?)=some es[i]:=by
  rw[if_neg (by omega),Int.toNat_natCast,Array.getElem?_eq_getElem hlt]
 simp only[e1]
 refine wpAny_bind (wpAny_bind (wpAny_typeNameOfWhole_itemiter hT (wpAny_pure (wpAny_bind (wpAny_isOneOf_itemiter hT ?_)))))
 refine wpAny_bind ?_
 refine wpAny_setField_rec (k:=3) (x:=Value.int ((i:Int)+1) 0) hit (by simp) fun h₁ he₁ hs₁=>?_
 have he₁:IsItemIter h₁ it d (i+1) es.size ep ok ov:=by
  show h₁.get? it=_
  rw[he₁];simp
 have hT₁:Shared.TypeIs { heap:=h₁,gens:=g,drawn:=dr,toks:=tk,os:=os } (Value.ref it) "dict_itemiterator":=⟨_,he₁,rfl⟩
 refine wpAny_bind (wpAny_holding ?_)
 refine wpAny_bind (wpAny_isOneOf_itemiter hT₁ ?_)
 refine wpAny_bind (wpAny_isOneOf_itemiter hT₁ ?_)
 refine wpAny_bind (wpAny_newTuple ?_)
 dsimp only
 have hz₁:h₁.objs.size=hp.objs.size:=hs₁.1
 have kp₁:∀ b o,b≠it->hp.get? b=some o->h₁.get? b=some o:=fun b o hb e=>hs₁.extBut b o hb e
 have he₂:IsItemIter (h₁.push { cls:=Value.type "tuple",data:=Data.seq #[es[i].key,es[i].val] }) it d (i+1) es.size ep ok ov:=Heap.get?_push_of_some _ he₁
 have ht₂:(h₁.push { cls:=Value.type "tuple",data:=Data.seq #[es[i].key,es[i].val] }).get? h₁.objs.size=some { cls:=Value.type "tuple",data:=Data.seq #[es[i].key,es[i].val] }:=Heap.get?_push_size _ rfl
 have kp₂:∀ b o,b≠it->hp.get? b=some o->(h₁.push { cls:=Value.type "tuple",data:=Data.seq #[es[i].key,es[i].val] }).get? b=some o:=fun b o hb e=>Heap.get?_push_of_some _ (kp₁ b o hb e)
 have hz₂:(h₁.push { cls:=Value.type "tuple",data:=Data.seq #[es[i].key,es[i].val] }).objs.size=hp.objs.size+1:=by rw[Heap.size_push,hz₁]
 rw[hz₁]at ht₂ ⊢
 generalize h₁.push { cls:=Value.type "tuple",data:=Data.seq #[es[i].key,es[i].val] }=h₂ at *
 have hne:hp.objs.size≠it:=fun z=>by
  have h0:it<hp.objs.size:=Heap.lt_size hit
  rw[z]at h0
  exact Nat.lt_irrefl _ h0
 refine wpAny_bind ?_
 refine wpAny_bind (wpAny_field he₂ rfl rfl (wpAny_pure ?_))
 refine wpAny_ite_true (Eq.refl (decide (true=true))) ?_
 refine wpAny_bind (wpAny_field he₂ rfl rfl (wpAny_bind (wpAny_field he₂ rfl rfl ?_)))
 refine wpAny_bind (wpAny_setField_rec he₂ (by simp) fun h₃ he₃ hs₃=>?_)
 refine wpAny_bind (wpAny_setField_rec he₃ (by simp) fun h₄ he₄ hs₄=>?_)
 refine wpAny_bind (wpAny_setField_rec he₄ (by simp) fun h₅ he₅ hs₅=>?_)
 refine wpAny_bind (wpAny_setField_rec he₅ (by simp) fun h₆ he₆ hs₆=>?_)
 refine wpAny_bind (wpAny_letGo (wpAny_pure (wpAny_pure ⟨_,rfl,wpAny_pure ?_⟩)))
 refine hQ h₆ ?_ ?_ ?_ fun b o hb e=>?_
 ·show h₆.get? it=_
  rw[he₆];simp
 ·exact hs₆.extBut _ _ hne (hs₅.extBut _ _ hne (hs₄.extBut _ _ hne (hs₃.extBut _ _ hne ht₂)))
 ·have e1:=hs₃.1;have e2:=hs₄.1;have e3:=hs₅.1;have e4:=hs₆.1
  dsimp only at e1 e2 e3 e4
  omega
 ·exact hs₆.extBut _ _ hb (hs₅.extBut _ _ hb (hs₄.extBut _ _ hb (hs₃.extBut _ _ hb (kp₂ b o hb e))))
theorem gc {prog:Program} {w:World} {A:Around} {E:Value->Shared->Prop} {s:Shared} {it d:Addr} {i ep:Nat} {es:Array DictEntry} {od:Obj} {ok ov:Value} {Q:Option Value->Shared->Prop}
  (hA:A.handled=none) (hit:IsItemIter s.heap it d i es.size ep ok ov) (hod:s.heap.get? d=some od) (hdd:od.data=.dict es ep) (hlt:es.size<=i)
  (hQ:∀ h':Heap,Heap.ExtBut it s.heap h'->Q none { s with heap:=h' }):wpAny (model prog w) A (pyNext (Value.ref it)) Q E s:=by
 obtain⟨hp,g,dr,tk,os⟩:=s
 dsimp only at hit hod hQ
 have hT:Shared.TypeIs { heap:=hp,gens:=g,drawn:=dr,toks:=tk,os:=os } (Value.ref it) "dict_itemiterator":=⟨_,hit,rfl⟩
 refine wpAny_bind (wpAny_attempt (wpAny_callSpecial?_slot hT F.slot_dict_itemiterator_next (wpAny_call_entry F.slot_dict_itemiterator_next hT F.entry_dict_itemiterator_next ?_)))
 refine wpAny_bind (wpAny_pure (wpAny_bind (wpAny_bind (wpAny_bind (wpAny_typeNameOfWhole_itemiter hT (wpAny_pure (wpAny_bind (wpAny_fieldsOf hit rfl ?_))))))))
 have hown:Builtin.Dict_items.ownsTuple "dict_itemiterator"=true:=by decide
 simp only[hown,if_true,List.drop_succ_cons,List.drop_zero,List.take_succ_cons,List.take_zero]
 refine wpAny_ite_false (Eq.refl (decide ((Value.ref d==Value.none)=true))) ?_
 refine wpAny_bind (wpAny_pure (wpAny_bind (wpAny_dictEntries hod hdd ?_)))
 refine wpAny_ite_false (by simp) ?_
 refine wpAny_bind (wpAny_pure (wpAny_bind (wpAny_dictEpoch hod hdd ?_)))
 refine wpAny_ite_false (by simp) (wpAny_pure ?_)
 have e1:(if((i:Nat):Int)<0 then none else es[((i:Nat):Int).toNat]?)=none:=by
  rw[if_neg (by omega),Int.toNat_natCast,Array.getElem?_eq_none hlt]
 simp only[e1]
 refine wpAny_bind (wpAny_bind (wpAny_typeNameOfWhole_itemiter hT (wpAny_pure ?_)))
 refine wpAny_bind (wpAny_setField hit rfl (by simp[hown]) ?_)
 dsimp only
 have kp:Heap.ExtBut it hp (hp.update it (Obj.mapFields fun x=>x.setIfInBounds (if Builtin.Dict_items.ownsTuple "dict_itemiterator"=true then 2 else 0) Value.none)):=(Heap.SameBut.update hp it _).extBut
 generalize hp.update it (Obj.mapFields fun x=>x.setIfInBounds (if Builtin.Dict_items.ownsTuple "dict_itemiterator"=true then 2 else 0) Value.none)=h1 at kp
 refine wpAny_bind ?_
 unfold newExc
 refine wpAny_bind (wpAny_newObj_type ?_ (show(#[]:Array Value).size<=_ by simp))
 refine wpAny_bind (wpAny_of_eq (Eq.refl (firstArgMember (Value.type "StopIteration") [])) ?_)
 refine wpAny_newObj_type ?_ (sizeOk_excFields _ _ _ _ _ _ _ _)
 refine wpAny_raiseNew_none hA ?_
 refine wpAny_bind (wpAny_isInstance (T:="StopIteration") (b:=true) ⟨_,Heap.get?_push_size _ rfl,rfl⟩ rfl ?_)
 refine wpAny_ite_true (Eq.refl (decide (true=true))) (wpAny_pure ?_)
 exact hQ _ ((kp.push _).push _)
theorem lT {prog:Program} {w:World} {A:Around} {E:Value->Shared->Prop} {s:Shared} {d:Addr} {od:Obj} {es:Array DictEntry} {ep:Nat} {Q:Value->Shared->Prop}
  (hs:(d==sysModules)=false) (hod:s.heap.get? d=some od) (hx:od.ExactDict) (hdd:od.data=.dict es ep) 
  (hQ:Q (.ref s.heap.objs.size) { s with heap:=s.heap.push { cls:=.type "dict_items",data:=.fields #[.ref d] } }):wpAny (model prog w) A (call (.builtin "dict.items") [.ref d]) Q E s:=by
 have hT:s.TypeIs (.ref d) "dict":=⟨_,hod,hx.1⟩
 refine wpAny_call_entry F.slot_dict_items hT F.entry_dict_items ?_ (F.args_dict_items_1 _)
 refine wpAny_bind ?_
 show wpAny _ _ (Bind.bind _ _) _ _ _
 refine wpAny_bind (wpAny_notOrdered_dict hT ?_)
 refine wpAny_pure ?_
 show wpAny _ _ (do Builtin.Dict.showsAll d;let __do_lift <-newFields "dict_items" [Value.ref d];ret __do_lift) _ _ _
 refine wpAny_bind (wpAny_ite_false (by simp[hs]) (wpAny_pure ?_))
 exact wpAny_bind (wpAny_newObj_type (wpAny_pure ⟨_,rfl,hQ⟩) (show(#[Value.ref d]:Array Value).size<=_ by simp))
theorem lN {prog:Program} {w:World} {A:Around} {E:Value->Shared->Prop} {s:Shared} {v d:Addr} {od:Obj} {es:Array DictEntry} {ep:Nat} {Q:Value->Shared->Prop}
  (hv:s.heap.IsItemsView v d) (hod:s.heap.get? d=some od) (hdd:od.data=.dict es ep)
  (hQ:∀ h',IsItemIter h' s.heap.objs.size d 0 es.size ep .none .none->(∀ b o,s.heap.get? b=some o->h'.get? b=some o)->Q (.ref s.heap.objs.size) { s with heap:=h' }):wpAny (model prog w) A (pyIter (.ref v)) Q E s:=by
 obtain⟨ov,hov,hcv,hdv⟩:=id hv
 refine wpAny_pyIter_slot hv.typeIs F.slot_dict_items_iter (wpAny_call_entry F.slot_dict_items_iter hv.typeIs F.entry_dict_items_iter ?_ (F.args_dict_items_iter_1 _))
 refine wpAny_bind (wpAny_pure (wpAny_bind ?_))
 show wpAny _ _ (Bind.bind _ _) _ _ _
 refine wpAny_bind (wpAny_field hov hdv rfl (wpAny_pure (wpAny_bind ?_)))
 show wpAny _ _ (Bind.bind _ _) _ _ _
 refine wpAny_bind (wpAny_dictEntries hod hdd (wpAny_bind (wpAny_dictEpoch hod hdd ?_)))
 have hown:Builtin.Dict_items.ownsTuple "dict_itemiterator"=true:=by decide
 simp only[hown,if_true]
 refine wpAny_newObj_type (wpAny_pure ⟨_,rfl,"dict_itemiterator",_,⟨_,Heap.get?_push_size _ rfl,rfl⟩,F.slot_dict_itemiterator_next.lookup,?_⟩) (show Array.size _<=_ by simp[Builtin.Dict_items.ownedTupleFields];exact Nat.le_of_lt (uW (by decide)))
 exact hQ _ (Heap.get?_push_size _ rfl) fun b o e=>Heap.get?_push_of_some _ e
def Dn (a:Addr) (o:Obj) (ks:List (List Key×V)):It :=
 ⟨fun i H=>H a=some (.frz o (.dT ks))/\i<ks.length,fun i H x H'=>∃ T q k v,x=.ref T/\H T=none/\ks[i]?=some (k,v)/\H q=some (.tup (k.map kV))/\H'=upd H T (.tup [.ref q,v]),fun i H=>H a=some (.frz o (.dT ks))/\ks.length<=i⟩
section
variable {X:Cx} {pins:List (Addr×Obj)} {σ:St} {H:Hp} {s:Shared} {a:Addr} {o:Obj} {ks:List (List Key×V)}
theorem Inv.freezeT (I:Inv X pins σ H s) (e:H a=some (.dT ks)):∃ o,s.heap.get? a=some o/\Inv X pins σ (upd H a (.frz o (.dT ks))) s:=by
 have q:=I.hok a _ e
 obtain⟨_,_,_,_,o,_,_,he,_⟩:=id q
 refine⟨o,he,?_⟩
 have ne:∀ {b},H b≠some (.dT ks)->b≠a:=fun {b} z w=>z (by rw[w];exact e)
 have:=I.write (x:=a) (e:=a) (o:=.frz o (.dT ks)) (h':=s.heap) (t':=s.toks) (by rw[e];exact True.intro) (.inl rfl) (fun b u _ q=>q) ⟨o,he⟩ ⟨he,q.stay (fun c v _ r=>r) (fun c r=>by rw[aA (ne (by rw[r];intro z;cases z))];exact r) fun c xs r=>by rw[aA (ne (by rw[r];intro z;cases z))];exact r⟩
 exact this
theorem qi {ep:Nat} {es:Array DictEntry} (I:Inv X pins σ H s) (e:H a=some (.frz o (.dT ks))) (hd:o.data=.dict es ep):s.heap.get? a=some o/\∃ xs:List (List Key×Addr×Value),Paired (fun(p:List Key×V) (q:List Key×Addr×Value)=>p.1=q.1/\H q.2.1=some (.tup (p.1.map kV))/\ap p.2 q.2.2) ks xs/\es.toList=xs.map (entryOfKey (tupleKind (aJ X.prog X.w))):=by
 obtain⟨q,hz,hs,xs,rel,o',es',ep',q',c,d',r,_⟩:=I.hok a _ e
 rw[q]at q';cases q'
 rw[hd]at d'
 cases d'
 exact⟨q,xs,rel,r⟩
theorem dj {α β:Type} {F:α->β->Prop}:∀ {l₁:List α} {l₂:List β},Paired F l₁ l₂->∀ (i:Nat) (x:α),l₁[i]?=some x->∃ y,l₂[i]?=some y/\F x y
 |_,_,.cons r _,0,x,h=>by cases h;exact⟨_,rfl,r⟩
 |_,_,.cons _ t,i+1,x,h=>dj t i x h
theorem lf:entryFor table "dict_itemiterator.__iter__"=some Builtin.«dict_keyiterator.__iter__»:=by kernel_rfl
theorem nj {prog:Program} {w:World} {A:Around} {E:Value->Shared->Prop} {s:Shared} {it d:Addr} {i n ep:Nat} {ok ov:Value} {Q:Value->Shared->Prop} (q:IsItemIter s.heap it d i n ep ok ov) (h:Q (.ref it) s):wpAny (model prog w) A (pyIter (.ref it)) Q E s :=
 wpAny_pyIter_slot (T:="dict_itemiterator") ⟨_,q,rfl⟩ PySem.F.slot_dict_itemiterator_iter (wpAny_call_entry PySem.F.slot_dict_itemiterator_iter ⟨_,q,rfl⟩ lf (show wpAny _ _ (pure _) _ _ _ from wpAny_pure ⟨_,rfl,"dict_itemiterator",_,⟨_,q,rfl⟩,PySem.F.slot_dict_itemiterator_next.lookup,h⟩) (PySem.F.args_dict_itemiterator_iter_1 _))
theorem re {P:Program} {w:World} {K:PySem.W.Frag} {elts:List Expr} {x1:Nat} {pt:Pos} (it:Addr) {ep:Nat} {es:Array DictEntry} (hd:o.data=.dict es ep) (hl:es.size=ks.length):gJ P w K (.Tuple elts x1 pt) (Dn a o ks) [it] it (fun i h=>∃ ok ov,IsItemIter h it a i es.size ep ok ov) where
 mem:=by simp
 obj:=fun i h st b hb=>by
  have e:b=it:=by simpa using hb
  subst e
  obtain⟨ok,ov,q⟩:=st
  exact⟨_,q,fun v z=>by cases z⟩
 keep:=fun i h h' ⟨ok,ov,q⟩ k=>⟨ok,ov,k it (by simp) _ q⟩
 item:=by
  intro X hP hw hK hc i pins s σ H E I hf st hg
  subst hP hw hK
  obtain⟨e,hi⟩:=hg
  obtain⟨hget,xs,rel,hes⟩:=qi I e hd
  obtain⟨ok,ov,hit⟩:=st
  obtain⟨⟨k,v⟩,hkv⟩:∃ p,ks[i]?=some p:=⟨ks[i],by simp[hi]⟩
  obtain⟨⟨k',q,u⟩,hx,rk,hq,ru⟩:=dj rel i _ hkv
  have hlt:i<es.size:=by omega
  have hei:es[i]=entryOfKey (tupleKind (aJ X.prog X.w)) (k',q,u):=by
   have h1:es.toList[i]?=some es[i]:=by simp[hlt]
   rw[hes,List.getElem?_map,hx]at h1
   exact(Option.some.inj h1).symm
  have hek:es[i].key=.ref q:=by rw[hei];rfl
  have hev:es[i].val=u:=by rw[hei];rfl
  refine lO hit hget hd hlt fun h1 hout hT hsz keep=>⟨_,rfl,?_⟩
  rw[hek,hev]at hout hT
  have fe:=hf it (by simp)
  have In:H s.heap.objs.size=none:=I.hok.fresh (Nat.le_refl _)
  have eT:it<s.heap.objs.size:=Heap.lt_size hit
  have I1:Inv X pins σ (upd H s.heap.objs.size (.tup [.ref q,v])) { s with heap:=s.heap.push { cls:=.type "tuple",data:=.seq #[.ref q,u] } } :=
   I.laid (t':=s.toks) (fun b o q=>Heap.get?_push_of_some _ q) (Nat.le_refl _) ⟨by simp only[List.length_cons,List.length_nil];rw[sizeLine_eq];decide,[.ref q,u],.cons rfl (.cons ru .nil),⟨_,Heap.get?_push_size s.heap rfl,rfl,⟨0,rfl⟩,rfl⟩⟩
  have fe1:cy X pins (upd H s.heap.objs.size (.tup [.ref q,v])) it:=fe.upd (Nat.ne_of_lt eT)
  obtain⟨g0,g1,g2,g3,g4,g5⟩:=fe1
  have I2:=I1.turned (t':=s.toks) (h':=h1) (it:=it) (fun b o hb q=>by
   rcases Heap.get?_push_cases q with z|z
   ·rw[z.1,z.2];exact hT
   ·exact keep b o hb z) g0 g1 g3 g4 g5
  refine wpAny_letOwnedTupleGo_items hout fun h2 he2 hs2=>?_
  have I3:=I2.turned (t':=s.toks) (h':=h2) (it:=it) (fun b o hb q=>(hs2.2 b hb).trans q) g0 g1 g3 g4 g5
  refine⟨.ref s.heap.objs.size,_,I3,rfl,⟨_,q,k,v,rfl,In,hkv,hq,rfl⟩,⟨_,_,he2⟩,fun b hb=>?_⟩
  rw[show b=it by simpa using hb];exact g0
 done:=by
  intro X hP hw hK hc i pins s σ H E I hf st hg
  subst hP hw hK
  obtain⟨e,hi⟩:=hg
  obtain⟨hget,xs,rel,hes⟩:=qi I e hd
  obtain⟨ok,ov,hit⟩:=st
  obtain⟨f0,f1,f2,f3,f4,f5⟩:=hf it (by simp)
  exact gc (I.ok.hd hc) hit hget hd (by omega) fun h' eb=>⟨rfl,I.turned (t':=s.toks) (fun b o hb q=>eb b o hb q) f0 f1 f3 f4 f5⟩
 self:=fun A i s Q E ⟨ok,ov,q⟩ h=>nj q h
end
section
variable {X:Cx} {l:Expr} {tl:TE} {te:TEd} {elts:List Expr} {x1:Nat} {pt apos cpos:Pos}
theorem n8 {K:PySem.W.Frag} {M:DH} {H:Hp}:∀ ks:List Key,af K M H (ks.map kD) (ks.map kV)
 |[]=>af.nil
 |k::ks=>af.cons ij (n8 ks)
end
section
variable {X:Cx}
/-! ### x in xs,the things of any depth -/
def inF (x y:D):Option D:=match y with
 |.lst ds=>if dLe x 59=true/\bq ds 59=true then some (.bl (ds.any fun d=>eqD d x))else none
 |_=>none
theorem EN {x:D} {ds:List D}:inF x (.lst ds)=if dLe x 59=true/\bq ds 59=true then some (.bl (ds.any fun d=>eqD d x))else none:=rfl
open Classical in
end
section
variable {X:Cx} {a b e:Expr} {ta tb te:TEd} {pos:Pos}
/-! ### xs.index(x),the things of any depth -/
def rK (ds:List D) (x:D):Option Nat:=if dLe x 59=true/\bq ds 59=true/\ds.length<2 ^ 62 then ds.findIdx? (fun d=>eqD d x)else none
theorem vW {ds:List D} {x:D} {j:Nat} (h:rK ds x=some j):dLe x 59=true/\bq ds 59=true/\ds.length<2 ^ 62/\∃ hj:j<ds.length,eqD ds[j] x=true/\∀ m (hm:m<ds.length),m<j->eqD ds[m] x=false:=by
 unfold rK at h
 by_cases hc:dLe x 59=true/\bq ds 59=true/\ds.length<2 ^ 62
 ·rw[if_pos hc]at h
  obtain⟨hj,h1,h2⟩:=List.findIdx?_eq_some_iff_getElem.mp h
  exact⟨hc.1,hc.2.1,hc.2.2,hj,h1,fun m hm hl=>by have:=h2 m hl;simpa using this⟩
 ·rw[if_neg hc]at h;cases h
section
open PySem.SeqAt PySem.MeetsSeq AutoSeq1
theorem qE (l:Addr) (xs:Array Value) (n:Nat) (od:Option Addr) (os:Array (Option Value)) (y:Value) (hit:Nat->Bool) (top:Int) (j:Nat) (lj:j<xs.size) (ltop:(j:Int)<top) (yes:hit j=true) :
  ∀ (k i:Nat),j-i=k->i<=j->(∀ m,i<=m->m<j->hit m=false)->Meets (Builtin.«list.index.loop» ⟨[.ref l,y,rawInt i,rawInt top],[]⟩)
   (fun B R t=>t.heap.get? l=some { cls:=.type "list",dict:=od,data:=.seq xs n,slots:=os }/\(∀ m (h:m<xs.size),EqAt B.in1 t xs[m] y (hit m))/\R (.ok (.ret (.int j t.toks))) { t with toks:=t.toks+1 })
 |0,i,ek,hi,no,prog,w,B,R,t,q=>by
  obtain⟨th,tg,td,tt,to⟩:=t
  obtain⟨ql,qe,qr⟩:=q
  obtain rfl:i=j:=by omega
  wp_walk using wpAny_loadPart' ql
  rw[show(if(i:Int)<top then xs[((i:Nat):Int).toNat]? else none)=some xs[i]by simp[ltop,lj]]
  refine wpAny_bind (qe i lj prog w _ _ ?_)
  rw[yes]
  wp_walk
  exact qr
 |k+1,i,ek,hi,no,prog,w,B,R,t,q=>by
  obtain⟨th,tg,td,tt,to⟩:=t
  obtain⟨ql,qe,qr⟩:=q
  have li:i<xs.size:=by omega
  have lt:(i:Int)<top:=by omega
  wp_walk using wpAny_loadPart' ql
  rw[show(if(i:Int)<top then xs[((i:Nat):Int).toNat]? else none)=some xs[i]by simp[lt,li]]
  refine wpAny_bind (qe i li prog w _ _ ?_)
  rw[no i (Nat.le_refl _) (by omega)]
  wp_walk
  rw[show((i:Int)+1)=((i+1:Nat):Int)by omega]
  refine⟨plainId_quiet plain_index_loop _,codeAny_builtin entry_index_loop ?_⟩
  rw[Around.under_plainId plain_index_loop _]
  exact qE l xs n od os y hit top j lj ltop yes k (i+1) (by omega) (by omega) (fun m a b=>no m (by omega) b) prog w B R _ ⟨ql,qe,qr⟩
theorem xf (l:Addr) (xs:Array Value) (n:Nat) (od:Option Addr) (os:Array (Option Value)) (y:Value) (hit:Nat->Bool) (j:Nat) (lj:j<xs.size) (ls:(j:Int)<2 ^ 63-1) (yes:hit j=true) (no:∀ m,m<j->hit m=false) :
  Meets (Builtin.«list.index» ⟨[.ref l,y],[]⟩)
   (fun B R t=>t.heap.get? l=some { cls:=.type "list",dict:=od,data:=.seq xs n,slots:=os }/\(∀ m (h:m<xs.size),EqAt B.in1 t xs[m] y (hit m))/\R (.ok (.ret (.int j t.toks))) { t with toks:=t.toks+1 }):=by
 intro prog w B R t q
 obtain⟨th,tg,td,tt,to⟩:=t
 obtain⟨ql,qe,qr⟩:=q
 wp_walk using wpAny_loadPart' ql
 rw[show((fun i:Int=>if i<0 then max 0 (i+(xs.size:Int))else i) ((none:Option Int).getD 0))=((0:Nat):Int)by simp,show((fun i:Int=>if i<0 then max 0 (i+(xs.size:Int))else i) ((none:Option Int).getD (2 ^ 63-1)))=2 ^ 63-1 by simp]
 refine⟨plainId_quiet plain_index_loop _,codeAny_builtin entry_index_loop ?_⟩
 rw[Around.under_plainId plain_index_loop _]
 exact qE l xs n od os y hit (2 ^ 63-1) j lj ls yes _ 0 rfl (Nat.zero_le _) (fun m _ b=>no m b) prog w B R _ ⟨ql,qe,qr⟩
end
end
section
variable {X:Cx} {o e:Expr} {to te:TEd} {apos cpos:Pos}
def pS (ds:List D) (d:D) (m:Nat):Bool:=match ds[m]? with|some x=>eqD x d|none=>false
theorem yv {pins:List (Addr×Obj)} {σ:St} {H:Hp} {s:Shared} {M:DH} {ds:List D} {d:D} {vs:List V} {its:List Value} {y:V} {u:Value} (I:Inv X pins σ H s) (hu:X.A.units+64<cLine) (rl:af X.K M H ds vs) (r:aq vs its) (r1:au X.K M H d y) (ry:ap y u) (h1:dLe d 59=true) (h2:bq ds 59=true) :
  ∀ m (h:m<its.toArray.size),PySem.SeqAt.EqAt X.A.in1 s its.toArray[m] u (pS ds d m):=fun m h=>by
 have hl:ds.length=its.length:=rl.length.trans r.length
 have h':m<its.length:=by simpa using h
 have h3:m<ds.length:=by omega
 obtain⟨v1,g1,p1⟩:=rl.get (i:=m) (d:=ds[m]) (by simp[h3])
 obtain⟨u1,k1,m1⟩:=r.get g1
 have e1:its.toArray[m]=u1:=by simpa[List.getElem?_eq_getElem h']using k1
 rw[e1,show pS ds d m=eqD ds[m] d by simp[pS,h3]]
 exact(lh I 59 (by show X.A.units+1+59<cLine;omega) (cQ h2 (i:=m) (by simp[h3])) h1 p1.r r1 m1 ry).1
theorem wj {ds:List D} {x:D} {j:Nat} (h:rK ds x=some j):dLe x 59=true/\bq ds 59=true/\(j:Int)<2 ^ 63-1/\j<ds.length/\pS ds x j=true/\∀ m,m<j->pS ds x m=false:=by
 obtain⟨h1,h2,h3,lj,yes,no⟩:=vW h
 refine⟨h1,h2,by omega,lj,by simp[pS,lj,yes],fun m hm=>?_⟩
 have hm':m<ds.length:=by omega
 simp[pS,hm',no m hm' hm]
theorem zF (hu:X.A.units+64<cLine):MtR X "list.index" (fun x xs H Q=>∃ M ds d y j,xs=[y]/\au X.K M H (.lst ds) x/\au X.K M H d y/\rK ds d=some j/\Q (.int j) H):=by
 intro pins s σ H x xs v us Q I rx rv h
 obtain⟨M,ds,d,y,j,rfl,r2,r1,hj,q⟩:=h
 obtain⟨u,rfl,ry⟩:=aq.one rv
 obtain⟨l,vs,rfl,sq,rl⟩:=r2
 cases rx
 obtain⟨its,r,pl,hz⟩:=I.list (SqL.of sq)
 obtain⟨h1,h2,h3,lj,yes,no⟩:=wj hj
 have hl:ds.length=its.length:=rl.length.trans r.length
 obtain⟨⟨c,dd,dt,sl⟩,n,ho,hc,hdd,hdt⟩:=pl
 obtain rfl:c=.type "list":=hc
 obtain rfl:dt=.seq its.toArray n:=hdt
 exact call_meets F.slot_list_index ⟨_,ho,rfl⟩ F.entry_list_index (F.args_list_index_2 _ _) (xf l its.toArray n dd sl u (pS ds d) j (by simp;omega) h3 yes no) ⟨ho,yv I hu rl r r1 ry h1 h2,⟨.int _,H,I.tok _,⟨_,rfl⟩,q⟩⟩
def As (to te:TEd):TEd:=fun Δ M Q=>to Δ M fun o M1=>(∃ ds,rdM M1 o=.lst ds)/\te Δ M1 fun x M2=>∃ ds j,rdM M2 o=.lst ds/\rK ds (rdM M2 x)=some j/\Q (.int j) M2
theorem AM (hu:X.A.units+64<cLine) (ho:QEd X o to) (he:QEd X e te) (hbase:attributeBase o "index" X.env (eval o X.env)=eval o X.env:=by rfl)
  (hse:starEach [e] X.env=(false,eval e X.env)::starEach [] X.env:=by rfl)
  (hfew:((backTo cpos (starEach [e] X.env)).all (fun x => !x.1) && (backToKw cpos (keywordEach [] X.env)).all (fun x => x.1.isSome)
  &&decide ([e].length+([]:List Keyword).length+(if([]:List Keyword).isEmpty then 0 else 1)<30))=true:=by rfl)
  (hline:(apos.endLine==cpos.line)=true:=by rfl) (hplain:(backTo cpos (starEach [] X.env)).any (·.1)=false:=by rfl):QEd X (.Call (.Attribute o "index" apos) [e] [] cpos) (As to te):=by
 rw[QEd.eq]at *
 refine(vo PySem.F.plainAttrs_list PySem.F.slot_list_index PySem.F.type_list_index (zF hu) ho (gB he kE hse) hbase hfew hline hse hplain).conv fun σ H Q hh=>?_
 obtain⟨Δ,M,R,sr,hr,q,k⟩:=hh
 refine⟨Δ,M,_,sr,hr,q,fun o M1 ov H1 ⟨⟨ds0,e0⟩,q1⟩ e1 hr1 ro=>?_⟩
 have r0:=ro.rd hr1
 rw[e0]at r0
 obtain⟨l0,vs0,rfl,hl0,_⟩:=r0
 refine⟨.inl ⟨rfl,vs0,SqL.of hl0⟩,Δ,M1,_,sr.ext e1,hr1,q1,fun d M2 v H2 ⟨ds,j,ed,hj,q2⟩ e2 hr2 rv=>?_⟩
 have r2:=(ro.ext e2).rd hr2
 rw[ed]at r2
 exact⟨M2,ds,_,v,j,rfl,r2,rv.rd hr2,hj,k _ M2 _ H2 q2 (e1.trans e2) hr2 (by simp[Rep])⟩
end
/-! ### zip of two rows,each a list or a tuple -/
def itN:Bool->String
 |true=>"tuple_iterator"
 |false=>"list_iterator"
def sqN:Bool->String
 |true=>"tuple"
 |false=>"list"
def Cy (b:Bool) (h:Heap) (i l:Addr) (k:Nat):Prop:=∃ o,h.get? i=some o/\o.cls=.type (itN b)/\o.data=.fields #[.ref l,.int k 0]
def Cw (b:Bool) (h:Heap) (l:Addr) (xs:Array Value):Prop:=∃ o,h.get? l=some o/\o.cls=.type (sqN b)/\∃ n,o.data=.seq xs n
section
variable {prog:Program} {w:World} {A:Around} {E:Value->Shared->Prop} {s:Shared} {b c:Bool}
theorem Cy.go {h h':Heap} {i l:Addr} {k:Nat} (x:Cy b h i l k) (f:∀ o,h.get? i=some o->h'.get? i=some o):Cy b h' i l k:=let⟨o,e,r⟩:=x;⟨o,f o e,r⟩
theorem Cw.go {h h':Heap} {l:Addr} {xs:Array Value} (x:Cw b h l xs) (f:∀ o,h.get? l=some o->h'.get? l=some o):Cw b h' l xs:=let⟨o,e,r⟩:=x;⟨o,f o e,r⟩
end
set_option maxHeartbeats 4000000 in
section
variable {X:Cx} {scope:Scope} {cl:List (Str×Addr)} {extra:List Str} {tg:Expr} {pos:Pos}
/-! targets of a comprehension that has others in it: names that stay its own,and tuples -/
end
/-! ### a<b<c<d as a test -/
/-! ### tuples that may be keys -/
def my (ks:List Key):D:=.box .key (ks.map kD)
section
variable {K:PySem.W.Frag} {M:DH} {H:Hp}
theorem kz {ds:List D} {v:V}:Rep K M H (.box .key ds) v↔∃ a vs,v=.ref a/\(H a=some (.tup vs)/\M a=none)/\af K M H ds vs:=by
 simp only[Rep,fF]
 exact⟨fun⟨a,vs,e,⟨_,⟨_,r⟩,n⟩,h⟩=>⟨a,vs,e,⟨r,n⟩,h⟩,fun⟨a,vs,e,⟨r,n⟩,h⟩=>⟨a,vs,e,⟨trivial,⟨(),r⟩,n⟩,h⟩⟩
theorem pY {ds:List D} {v:V} (h:Rep K M H (.box .key ds) v):Rep K M H (.tup ds) v:=by
 obtain⟨a,vs,e,⟨r,n⟩,h⟩:=kz.mp h
 simp only[Rep]
 exact⟨a,vs,e,.inl ⟨.inl r,n⟩,h⟩
theorem il {ks:List Key} {v:V} (h:Rep K M H (my ks) v):∃ a,v=.ref a/\H a=some (.tup (ks.map kV)):=by
 obtain⟨a,vs,e,⟨r,_⟩,h⟩:=kz.mp h
 rw[jd h]at r
 exact⟨a,e,r⟩
theorem lC {κ:Type}:∀ {ks:List κ} {ds:List D} {vs:List V},ks.length=vs.length->af K M H ds vs->KR K M H (ks.zip ds) (ks.zip vs)
 |[],_,_,_,_=>by simp only[List.zip_nil_left];exact .nil
 |k::ks,ds,vs,hl,h=>by
  cases vs with
  |nil=>cases hl
  |cons v vs =>
   cases ds with
   |nil=>have:=h.length;cases this
   |cons d ds =>
    simp only[af]at h
    obtain⟨_,_,e,h1,h2⟩:=h
    cases e
    exact .cons ⟨rfl,h1⟩ (lC (Nat.succ.inj hl) h2)
def asT (M:DH):D->Option (List (List Key×D))
 |.ref a=>match M a with|some (.dT kvs)=>some kvs|_=>none
 |.box (.dt ks) ds=>some (ks.zip ds)
 |_=>none
def asK (M:DH):D->Option (List (Key×D))
 |.ref a=>match M a with|some (.dK kvs)=>some kvs|_=>none
 |.box (.dk ks) ds=>some (ks.zip ds)
 |_=>none
theorem kB {x:D} {v:V} {kvs:List (List Key×D)} (hr:HR K M H) (h:Rep K M H x v) (e:asT M x=some kvs):∃ a ks,v=.ref a/\Rd H a (.dT ks)/\KR K M H kvs ks:=by
 cases x with
 |ref a =>
  simp only[asT]at e
  simp only[Rep]at h
  split at e
  ·rename_i q
   cases e
   obtain⟨ks,h1,kr⟩:=hr a _ q
   exact⟨a,ks,h,.inl h1,kr⟩
  ·cases e
 |box t ds =>
  cases t with
  |dt ks =>
   cases e
   simp only[Rep,fF]at h
   obtain⟨a,vs,e,⟨hl,⟨o,r⟩,_⟩,h2⟩:=h
   exact⟨a,_,e,.inr ⟨o,r⟩,lC hl h2⟩
  |_=>cases e
 |_=>cases e
theorem oY {x:D} {v:V} {kvs:List (Key×D)} (hr:HR K M H) (h:Rep K M H x v) (e:asK M x=some kvs):∃ a ks,v=.ref a/\Rd H a (.dK ks)/\KR K M H kvs ks:=by
 cases x with
 |ref a =>
  simp only[asK]at e
  simp only[Rep]at h
  split at e
  ·rename_i q
   cases e
   obtain⟨ks,h1,kr⟩:=hr a _ q
   exact⟨a,ks,h,.inl h1,kr⟩
  ·cases e
 |box t ds =>
  cases t with
  |dk ks =>
   cases e
   simp only[Rep,fF]at h
   obtain⟨a,vs,e,⟨hl,⟨o,r⟩,_⟩,h2⟩:=h
   exact⟨a,_,e,.inr ⟨o,r⟩,lC hl h2⟩
  |_=>cases e
 |_=>cases e
theorem gC {a:Addr} {kvs:List (List Key×D)} (h:M a=some (.dT kvs)):asT M (.ref a)=some kvs:=by simp only[asT,h]
theorem za {ks:List (List Key)} {ds:List D}:asT M (.box (.dt ks) ds)=some (ks.zip ds):=rfl
theorem yq {ks:List Key} {ds:List D}:asK M (.box (.dk ks) ds)=some (ks.zip ds):=rfl
end
section
variable {X:Cx} {e i o:Expr} {es:List Expr} {te ti to:TEd} {t:TAd} {pos:Pos}
def Bt (te:TEd):TEd:=fun Δ M Q=>te Δ M fun d M1=>∃ ds,d=.box .key ds/\Q (.tup ds) M1
theorem D1 (h:PEd X e te):PEd X e (Bt te):=PE.conv h fun σ H Q ⟨Δ,M,R,sr,hr,q,k⟩=>⟨Δ,M,_,sr,hr,q,fun d M1 v H1 ⟨ds,ed,q1⟩ e1 hr1 rv=>k _ M1 v H1 q1 e1 hr1 (pY (by rw[<-ed];exact rv))⟩
def vN (t:TAd):TEd:=fun Δ M Q=>t Δ M fun ds M1=>ds.length<=sizeLine/\Q (.box .key ds) M1
theorem EU {x1} (h:PAd X es t):PEd X (.Tuple es x1 pos) (vN t) :=
 (lw h).conv fun σ H Q ⟨Δ,M,R,sr,hr,q,k⟩ => ⟨Δ,M,_,sr,hr,q,fun ds M1 vs H1 ⟨z,q1⟩ e1 hr1 rv => ⟨by rw [← rv.length]; exact z,fun p hp => k _ M1 _ _ q1 (e1.trans (Ext.new hr1 hp)) (hr1.new hp)
  (kz.mpr ⟨p,vs,rfl,⟨ax,hr1.fresh hp⟩,rv.ext (Ext.new hr1 hp)⟩)⟩⟩
def sw (to ti:TEd):TEd:=fun Δ M Q=>to Δ M fun x M1=>ti Δ M1 fun y M2=>∃ kvs ks d,asT M2 x=some kvs/\y=my ks/\aX kvs ks=some d/\Q d M2
theorem Ci (hu:X.A.units+1<cLine) (ho:PEd X o to) (hi:PEd X i ti) (hs:n5 i):PEd X (.Subscript o i pos) (sw to ti) :=
 PE.conv (t3 hu ho hi hs) fun σ H Q ⟨Δ,M,R,sr,hr,q,k⟩=>⟨Δ,M,_,sr,hr,q,fun x M1 v H1 q1 e1 hr1 rv=>⟨Δ,M1,_,sr.ext e1,hr1,q1,fun y M2 u H2 ⟨kvs,ky,d,ea,ey,ed,q2⟩ e2 hr2 ru=>by
  subst ey
  obtain⟨a,ks,rfl,h2,kr⟩:=kB hr2 (rv.ext e2) ea
  obtain⟨b,rfl,hb⟩:=il ru
  obtain⟨w,hw,rw_⟩:=(kr.val ky).1 d ed
  exact⟨a,w,rfl,.inr ⟨ks,ky,b,h2,rfl,hb,hw.symm⟩,k d M2 w H2 q2 (e1.trans e2) hr2 rw_⟩⟩⟩
def vB (to ti:TEd):TEd:=fun Δ M Q=>to Δ M fun x M1=>ti Δ M1 fun y M2=>∃ kvs k d,asK M2 x=some kvs/\y=kD k/\aX kvs k=some d/\Q d M2
theorem CW (hu:X.A.units+1<cLine) (ho:PEd X o to) (hi:PEd X i ti) (hs:n5 i):PEd X (.Subscript o i pos) (vB to ti) :=
 PE.conv (t3 hu ho hi hs) fun σ H Q ⟨Δ,M,R,sr,hr,q,k⟩=>⟨Δ,M,_,sr,hr,q,fun x M1 v H1 q1 e1 hr1 rv=>⟨Δ,M1,_,sr.ext e1,hr1,q1,fun y M2 u H2 ⟨kvs,ky,d,ea,ey,ed,q2⟩ e2 hr2 ru=>by
  subst ey
  obtain⟨a,ks,rfl,h2,kr⟩:=oY hr2 (rv.ext e2) ea
  obtain⟨w,hw,rw_⟩:=(kr.val ky).1 d ed
  exact⟨a,w,rfl,.inl ⟨ks,ky,h2,lr ru,hw.symm⟩,k d M2 w H2 q2 (e1.trans e2) hr2 rw_⟩⟩⟩
def pQ (to ti te:TEd):TSd:=fun E Δ M=>te Δ M fun d M1=>to Δ M1 fun x M2=>ti Δ M2 fun y M3=>∃ a kvs ks,x=.ref a/\M3 a=some (.dT kvs)/\y=my ks/\kvs.length<sizeLine/\E.nx Δ (al M3 a (.dT (eG kvs ks d)))
theorem BT {p:Pos} (hu:X.A.units+1<cLine) (ho:PEd X o to) (hi:PEd X i ti) (he:PEd X e te) (hs:swapsWith e (some (.Subscript o i p)) pos.line X.env=pure false:=by rfl):PSd X (.Assign [.Subscript o i p] e pos) (pQ to ti te) :=
 PS.conv (o0 hu ho hi he hs) fun D σ H ⟨Δ,M,E,sr,hr,q,k⟩=>⟨Δ,M,_,sr,hr,q,fun d M1 v H1 q1 e1 hr1 rv=>⟨Δ,M1,_,sr.ext e1,hr1,q1,fun x M2 u H2 q2 e2 hr2 ru=>⟨Δ,M2,_,(sr.ext e1).ext e2,hr2,q2,fun y M3 w H3 ⟨a,kvs,ky,ex,em,ey,hz,q3⟩ e3 hr3 rw_=>by
  subst ex;subst ey
  simp only[Rep]at ru
  subst ru
  obtain⟨ks,h3,kr⟩:=hr3 a _ em
  obtain⟨b,rfl,hb⟩:=il rw_
  have ew:Ext M3 H3 (al M3 a (.dT (eG kvs ky d))) (upd H3 a (.dT (dg ks ky v))):=Ext.write em
  refine⟨a,_,rfl,oN.t h3 hb (by rw[<-kr.length];exact hz),?_⟩
  exact k.nx Δ _ σ _ q3 (((e1.trans e2).trans e3).trans ew) (hr3.put ew ⟨_,ax,(kr.put ky ((rv.ext e2).ext e3)).ext ew⟩) ((((sr.ext e1).ext e2).ext e3).ext ew)⟩⟩⟩
def oP (to ti te:TEd):TEd:=fun Δ M Q=>to Δ M fun x M1=>(asT M1 x).isSome=true/\ti Δ M1 fun y M2=>te Δ M2 fun z M3=>∃ kvs ks,asT M3 x=some kvs/\y=my ks/\Q ((aX kvs ks).getD z) M3
theorem zD {apos cpos:Pos} (hu:X.A.units+1<cLine) (ho:PEd X o to) (hi:PEd X i ti) (he:PEd X e te) (m:M2 X o "get" apos i e cpos):PEd X (.Call (.Attribute o "get" apos) [i,e] [] cpos) (oP to ti te) :=
 PE.conv (pz hu ho hi he m) fun σ H Q ⟨Δ,M,R,sr,hr,q,k⟩=>⟨Δ,M,_,sr,hr,q,fun x M1 v H1 ⟨hx,q1⟩ e1 hr1 rv=>by
  obtain⟨kvs0,ex⟩:=Option.isSome_iff_exists.mp hx
  obtain⟨a,ks0,rfl,h1,kr0⟩:=kB hr1 rv ex
  refine⟨a,rfl,.inr ⟨ks0,h1⟩,Δ,M1,_,sr.ext e1,hr1,q1,fun y M2 u H2 q2 e2 hr2 ru=>?_⟩
  refine⟨Δ,M2,_,(sr.ext e1).ext e2,hr2,q2,fun z M3 w H3 ⟨kvs,ky,ea,ey,q3⟩ e4 hr4 rw_=>?_⟩
  subst ey
  obtain⟨a',ks,ea',h3,kr⟩:=kB hr4 ((rv.ext e2).ext e4) ea
  cases ea'
  obtain⟨b,rfl,hb⟩:=il (ru.ext e4)
  refine⟨eM ks ky,.inr ⟨ks,ky,b,h3,rfl,hb,rfl⟩,?_⟩
  cases ed:aX kvs ky with
  |some d =>
   obtain⟨w',hw,rw'⟩:=(kr.val ky).1 d ed
   rw[hw];rw[ed]at q3
   exact k _ M3 _ H3 q3 ((e1.trans e2).trans e4) hr4 rw'
  |none =>
   have:=(kr.val ky).2
   rw[ed]at this q3
   have hn:eM ks ky=none:=by simpa using this
   rw[hn]
   exact k _ M3 _ H3 q3 ((e1.trans e2).trans e4) hr4 rw_⟩
def rT (to ti te:TEd):TEd:=fun Δ M Q=>to Δ M fun x M1=>(asK M1 x).isSome=true/\ti Δ M1 fun y M2=>te Δ M2 fun z M3=>∃ kvs k,asK M3 x=some kvs/\y=kD k/\Q ((aX kvs k).getD z) M3
theorem yn {apos cpos:Pos} (hu:X.A.units+1<cLine) (ho:PEd X o to) (hi:PEd X i ti) (he:PEd X e te) (m:M2 X o "get" apos i e cpos):PEd X (.Call (.Attribute o "get" apos) [i,e] [] cpos) (rT to ti te) :=
 PE.conv (pz hu ho hi he m) fun σ H Q ⟨Δ,M,R,sr,hr,q,k⟩=>⟨Δ,M,_,sr,hr,q,fun x M1 v H1 ⟨hx,q1⟩ e1 hr1 rv=>by
  obtain⟨kvs0,ex⟩:=Option.isSome_iff_exists.mp hx
  obtain⟨a,ks0,rfl,h1,kr0⟩:=oY hr1 rv ex
  refine⟨a,rfl,.inl ⟨ks0,h1⟩,Δ,M1,_,sr.ext e1,hr1,q1,fun y M2 u H2 q2 e2 hr2 ru=>?_⟩
  refine⟨Δ,M2,_,(sr.ext e1).ext e2,hr2,q2,fun z M3 w H3 ⟨kvs,ky,ea,ey,q3⟩ e4 hr4 rw_=>?_⟩
  subst ey
  obtain⟨a',ks,ea',h3,kr⟩:=oY hr4 ((rv.ext e2).ext e4) ea
  cases ea'
  refine⟨eM ks ky,.inl ⟨ks,ky,h3,lr ru,rfl⟩,?_⟩
  cases ed:aX kvs ky with
  |some d =>
   obtain⟨w',hw,rw'⟩:=(kr.val ky).1 d ed
   rw[hw];rw[ed]at q3
   exact k _ M3 _ H3 q3 ((e1.trans e2).trans e4) hr4 rw'
  |none =>
   have:=(kr.val ky).2
   rw[ed]at this q3
   have hn:eM ks ky=none:=by simpa using this
   rw[hn]
   exact k _ M3 _ H3 q3 ((e1.trans e2).trans e4) hr4 rw_⟩
end
/-! ### instances of ours -/
def pK (f:Str) (d:D):List (Str×D)->List (Str×D)
 |[]=>[(f,d)]
 |(g,x)::r=>if g=f then(g,d)::r else(g,x)::pK f d r
section
variable {K:PySem.W.Frag} {M:DH} {H:Hp}
theorem KR.putF {f:Str} {d:D} {v:V} (rv:Rep K M H d v):∀ {fs:List (Str×D)} {gs:List (Str×V)},KR K M H fs gs->KR K M H (pK f d fs) (L2.putF f v gs):=by
 intro fs gs h
 unfold KR at h ⊢
 induction h with
 |nil=>exact .cons ⟨rfl,rv⟩ .nil
 |@cons p q ps qs r t ih =>
  obtain⟨g,x⟩:=p
  obtain⟨g',y⟩:=q
  obtain⟨rfl,r2⟩:=r
  simp only[pK,L2.putF]
  split
  ·exact .cons ⟨rfl,rv⟩ t
  ·exact .cons ⟨rfl,r2⟩ ih
theorem KR.look {f:Str} {d:D}:∀ {fs:List (Str×D)} {gs:List (Str×V)},KR K M H fs gs->fs.lookup f=some d->∃ v,gs.lookup f=some v/\Rep K M H d v:=by
 intro fs gs h
 unfold KR at h
 induction h with
 |nil=>intro e;cases e
 |@cons p q ps qs r t ih =>
  obtain⟨g,x⟩:=p
  obtain⟨g',y⟩:=q
  obtain⟨rfl,r2⟩:=r
  intro e
  simp only[List.lookup_cons]at e ⊢
  split at e
  ·cases e;exact⟨y,rfl,r2⟩
  ·exact ih e
end
section
variable {X:Cx} {e o:Expr} {es:List Expr} {te to:TEd} {t:TAd} {pos p pos':Pos} {f x:Str} {C:Addr}
def uO (C:Addr) (f:Str) (te:TEd):TEd:=fun Δ M Q=>te Δ M fun d M1=>∃ a fs z,d=.ref a/\M1 a=some (.ins C fs)/\fs.lookup f=some z/\Q z M1
theorem D8 (c:Cls X.K C) (n:ck X.K C f) (he:PEd X e te) (hb:attributeBase e f X.env (eval e X.env)=eval e X.env:=by rfl):PEd X (.Attribute e f pos) (uO C f te) :=
 PE.conv (Ba he hb) fun σ H Q ⟨Δ,M,R,sr,hr,q,k⟩=>⟨Δ,M,_,sr,hr,q,fun d M1 v H1 ⟨a,fs,z,ed,em,el,q1⟩ e1 hr1 rv=>by
  subst ed
  simp only[Rep]at rv
  subst rv
  obtain⟨gs,⟨dx,h1⟩,kr⟩:=hr1 a _ em
  obtain⟨w,hw,rw_⟩:=kr.look el
  exact⟨a,C,dx,gs,w,rfl,h1,c,n,hw,k z M1 w H1 q1 e1 hr1 rw_⟩⟩
def wk (C:Addr) (f:Str) (to te:TEd):TSd:=fun E Δ M=>te Δ M fun y M1=>to Δ M1 fun d M2=>∃ a fs,d=.ref a/\M2 a=some (.ins C fs)/\fs.length<1000/\E.nx Δ (al M2 a (.ins C (pK f y fs)))
theorem CP (c:Cls X.K C) (n:ck X.K C f) (ho:PEd X o to) (he:PEd X e te) (hs:swapsWith e (some (.Attribute o f pos')) pos.line X.env=pure false:=by rfl):PSd X (.Assign [.Attribute o f pos'] e pos) (wk C f to te) :=
 PS.conv (BH ho he hs) fun D σ H ⟨Δ,M,E,sr,hr,q,k⟩=>⟨Δ,M,_,sr,hr,q,fun y M1 v H1 q1 e1 hr1 rv=>⟨Δ,M1,_,sr.ext e1,hr1,q1,fun d M2 u H2 ⟨a,fs,ed,em,hl,q2⟩ e2 hr2 ru=>by
  subst ed
  simp only[Rep]at ru
  subst ru
  obtain⟨gs,⟨dx,h2⟩,kr⟩:=hr2 a _ em
  have ew:Ext M2 H2 (al M2 a (.ins C (pK f y fs))) (upd H2 a (.ins C dx (L2.putF f v gs))):=Ext.write em
  refine⟨a,C,dx,gs,rfl,h2,c,n,by rw[<-kr.length];exact hl,?_⟩
  exact k.nx Δ _ σ _ q2 ((e1.trans e2).trans ew) (hr2.put ew ⟨_,⟨dx,ax⟩,(KR.putF (rv.ext e2) kr).ext ew⟩) (((sr.ext e1).ext e2).ext ew)⟩⟩
structure MkD (P:Program) (w:World) (K:PySem.W.Frag) (mg:Str->Option Value) (base:Heap) (x:Str) (C:Addr) (k n:Nat) (S:SpD):Prop where
 ex:∃ (f:Addr) (fd:FuncData) (ps:List Str),Mk K C f/\aK P w K mg base CX0 k f fd ps (spD K n S)/\mg x=some (.ref C)/\cA K fd ps []
def vU (C:Addr) (n:Nat) (S:SpD) (t:TAd):TEd:=fun Δ M Q=>t Δ M fun ds M1=>ds.length+1=n/\∀ x,M1 x=none->S (.ref x::ds) (al M1 x (.ins C [])) fun d M2=>d=.non/\Q (.ref x) M2
theorem CG {k n:Nat} {S:SpD} (F:MkD X.prog X.w X.K X.mg X.base x C k n S) (hr:bP (k+1) X.A) (hg:Gl X x) (ha:PAd X (e::es) t) (hdb:(x==("__debug__":Str))=false:=by decide)
  (he:starEach (e::es) X.env=(false,eval e X.env)::starEach es X.env:=by rfl) (hpl:(backTo pos (starEach es X.env)).any (·.1)=false:=by rfl):PEd X (.Call (.Name x p) (e::es) [] pos) (vU C n S t):=by
 obtain⟨f,fd,ps,h1,h2,h3,h4⟩:=F.ex
 refine PE.conv (yF h1 h2 hr hg h3 h4 .nil xK ha hdb he hpl) fun σ H Q ⟨Δ,M,R,sr,hr,q,k⟩=>⟨Δ,M,_,sr,hr,q,fun ds M1 vs H1 ⟨hl,q1⟩ e1 hr1 rv=>?_⟩
 intro a dx hx hdx hne
 rw[List.append_nil]
 have hx2:upd H1 dx (.own a) a=none:=by rw[aA (Ne.symm hne)];exact hx
 have ea:Ext M1 H1 M1 (upd H1 dx (.own a)):=Ext.new hr1 hdx
 have ra:=hr1.new (o:=.own a) hdx
 have eb:Ext M1 (upd H1 dx (.own a)) (al M1 a (.ins C [])) (upd (upd H1 dx (.own a)) a (.ins C dx [])):=Ext.own hx2
 have rb:=ra.put eb ⟨[],⟨dx,ax⟩,.nil⟩
 refine⟨.ref a::ds,_,_,by rw[List.length_cons];exact hl,af.cons (by simp only[Rep]) ((rv.ext ea).ext eb),rb,q1 a (hr1.fresh hx),fun d M' v H' ⟨ed,q2⟩ e' hr' rv'=>?_⟩
 subst ed
 simp only[Rep]at rv'
 exact⟨rv',k _ M' _ H' q2 (((e1.trans ea).trans eb).trans e') hr' (by simp only[Rep])⟩
end
/-! ### a dict that is ours becomes a box -/
section
variable {X:Cx} {e:Expr} {te:TEd}
def Ed (t:TE):TE:=fun σ H Q=>t σ H fun x H1=>∃ a ks,x=.ref a/\H1 a=some (.dT ks)/\∀ o,Q x (upd H1 a (.frz o (.dT ks)))
theorem yH {t:TE} (h:PE X e t):PE X e (Ed t):=by
 intro pins s σ H Q I q
 refine thn (h pins s σ H _ I q) fun v s1 ⟨x,H1,I1,r,a,ks,ex,ea,q1⟩=>?_
 obtain⟨o,_,I2⟩:=I1.freezeT ea
 exact⟨x,_,I2,r,q1 o⟩
def EF (t:TE):TE:=fun σ H Q=>t σ H fun x H1=>∃ a ks,x=.ref a/\H1 a=some (.dK ks)/\∀ o,Q x (upd H1 a (.frz o (.dK ks)))
theorem yr {t:TE} (h:PE X e t):PE X e (EF t):=by
 intro pins s σ H Q I q
 refine thn (h pins s σ H _ I q) fun v s1 ⟨x,H1,I1,r,a,ks,ex,ea,q1⟩=>?_
 obtain⟨o,_,I2⟩:=I1.freeze ea
 exact⟨x,_,I2,r,q1 o⟩
theorem cE {κ β:Type}:∀ l:List (κ×β),(l.map (·.1)).zip (l.map (·.2))=l
 |[]=>rfl
 |p::l=>by rw[List.map_cons,List.map_cons,List.zip_cons_cons,cE l]
theorem tM {K:PySem.W.Frag} {M:DH} {H:Hp} {κ:Type} {kvs:List (κ×D)} {ks:List (κ×V)} (h:KR K M H kvs ks):af K M H (kvs.map (·.2)) (ks.map (·.2)):=by
 unfold KR at h
 induction h with
 |nil=>exact af.nil
 |cons r _ ih=>exact af.cons r.2 ih
def gK (kvs:List (List Key×D)):D:=.box (.dt (kvs.map (·.1))) (kvs.map (·.2))
def oi (kvs:List (Key×D)):D:=.box (.dk (kvs.map (·.1))) (kvs.map (·.2))
theorem pP {M:DH} {kvs:List (List Key×D)}:asT M (gK kvs)=some kvs:=by unfold gK;rw[za,cE]
theorem xr {M:DH} {kvs:List (Key×D)}:asK M (oi kvs)=some kvs:=by unfold oi;rw[yq,cE]
theorem iL {M1:DH} {H1:Hp} {a:Addr} {u:HD} {o:HO} (em:M1 a=some u):Ext M1 H1 (g8 M1 a) (upd H1 a o):=fun b w z n=>by
 have hb:b≠a:=fun w=>by rw[w,em]at n;cases n
 rw[aA hb,ko hb];exact⟨z,n⟩
theorem xh {K:PySem.W.Frag} {M1:DH} {H1:Hp} {a:Addr} {u:HD} {o:HO} (hr:HR K M1 H1) (em:M1 a=some u):HR K (g8 M1 a) (upd H1 a o):=fun b w z=>by
 have hb:b≠a:=fun w=>by rw[w,dl]at z;cases z
 rw[ko hb]at z
 exact(hr b w z).keep (iL em) (aA hb)
def tW (te:TEd):TEd:=fun Δ M Q=>te Δ M fun d M1=>∃ a kvs,d=.ref a/\M1 a=some (.dT kvs)/\Q (gK kvs) (g8 M1 a)
theorem CV (h:PEd X e te):PEd X e (tW te) :=
 PE.conv (yH h) fun σ H Q ⟨Δ,M,R,sr,hr,q,k⟩=>⟨Δ,M,_,sr,hr,q,fun d M1 v H1 ⟨a,kvs,ed,em,q1⟩ e1 hr1 rv=>by
  subst ed
  simp only[Rep]at rv
  subst rv
  obtain⟨ks,h1,kr⟩:=hr1 a _ em
  refine⟨a,ks,rfl,h1,fun o=>k _ _ _ _ q1 (e1.trans (iL em)) (xh hr1 em) ?_⟩
  simp only[gK,Rep,fF]
  refine⟨a,ks.map (·.2),rfl,⟨by rw[List.length_map,List.length_map];exact kr.length,⟨o,?_⟩,dl⟩,(tM kr).ext (iL em)⟩
  rw[ax,kr.keys,cE]⟩
def t6 (te:TEd):TEd:=fun Δ M Q=>te Δ M fun d M1=>∃ a kvs,d=.ref a/\M1 a=some (.dK kvs)/\Q (oi kvs) (g8 M1 a)
theorem CQ (h:PEd X e te):PEd X e (t6 te) :=
 PE.conv (yr h) fun σ H Q ⟨Δ,M,R,sr,hr,q,k⟩=>⟨Δ,M,_,sr,hr,q,fun d M1 v H1 ⟨a,kvs,ed,em,q1⟩ e1 hr1 rv=>by
  subst ed
  simp only[Rep]at rv
  subst rv
  obtain⟨ks,h1,kr⟩:=hr1 a _ em
  refine⟨a,ks,rfl,h1,fun o=>k _ _ _ _ q1 (e1.trans (iL em)) (xh hr1 em) ?_⟩
  simp only[oi,Rep,fF]
  refine⟨a,ks.map (·.2),rfl,⟨by rw[List.length_map,List.length_map];exact kr.length,⟨o,?_⟩,dl⟩,(tM kr).ext (iL em)⟩
  rw[ax,kr.keys,cE]⟩
end
/-! ### the items of a box -/
def Ab (a:Addr) (o:Obj) (ks:List (Key×V)):It :=
 ⟨fun i H=>H a=some (.frz o (.dK ks))/\i<ks.length,fun i H x H'=>∃ T k v,x=.ref T/\H T=none/\ks[i]?=some (k,v)/\H'=upd H T (.tup [kV k,v]),fun i H=>H a=some (.frz o (.dK ks))/\ks.length<=i⟩
section
variable {X:Cx} {pins:List (Addr×Obj)} {σ:St} {H:Hp} {s:Shared} {a:Addr} {o:Obj} {ks:List (Key×V)}
theorem qH {P:Program} {w:World} {K:PySem.W.Frag} {elts:List Expr} {x1:Nat} {pt:Pos} (it:Addr) {ep:Nat} {es:Array DictEntry} (hd:o.data=.dict es ep) (hl:es.size=ks.length):gJ P w K (.Tuple elts x1 pt) (Ab a o ks) [it] it (fun i h=>∃ ok ov,IsItemIter h it a i es.size ep ok ov) where
 mem:=by simp
 obj:=fun i h st b hb=>by
  have e:b=it:=by simpa using hb
  subst e
  obtain⟨ok,ov,q⟩:=st
  exact⟨_,q,fun v z=>by cases z⟩
 keep:=fun i h h' ⟨ok,ov,q⟩ k=>⟨ok,ov,k it (by simp) _ q⟩
 item:=by
  intro X hP hw hK hc i pins s σ H E I hf st hg
  subst hP hw hK
  obtain⟨e,hi⟩:=hg
  obtain⟨hget,hz,hs,vs,rel,o',es',ep',q',c,d',hk,hp,_⟩:=I.hok a _ e
  rw[hget]at q';cases q'
  rw[hd]at d';cases d'
  obtain⟨ok,ov,hit⟩:=st
  obtain⟨⟨k,v⟩,hkv⟩:∃ p,ks[i]?=some p:=⟨ks[i],by simp[hi]⟩
  obtain⟨⟨k',u⟩,hx,rk,ru⟩:=dj rel i _ hkv
  have hlt:i<es.size:=by omega
  obtain⟨hkey,hval⟩:=hp.get? (e:=es[i]) (by simp[hlt]) hx
  have rkey:ap (kV k) es[i].key:=by
   have:k=k':=rk
   rw[this];exact tZ hkey
  have rval:ap v es[i].val:=by rw[hval];exact ru
  refine lO hit hget hd hlt fun h1 hout hT hsz keep=>⟨_,rfl,?_⟩
  have fe:=hf it (by simp)
  have In:H s.heap.objs.size=none:=I.hok.fresh (Nat.le_refl _)
  have eT:it<s.heap.objs.size:=Heap.lt_size hit
  have I1:Inv X pins σ (upd H s.heap.objs.size (.tup [kV k,v])) { s with heap:=s.heap.push { cls:=.type "tuple",data:=.seq #[es[i].key,es[i].val] } } :=
   I.laid (t':=s.toks) (fun b o q=>Heap.get?_push_of_some _ q) (Nat.le_refl _) ⟨by simp only[List.length_cons,List.length_nil];rw[sizeLine_eq];decide,[es[i].key,es[i].val],.cons rkey (.cons rval .nil),⟨_,Heap.get?_push_size s.heap rfl,rfl,⟨0,rfl⟩,rfl⟩⟩
  have fe1:cy X pins (upd H s.heap.objs.size (.tup [kV k,v])) it:=fe.upd (Nat.ne_of_lt eT)
  obtain⟨g0,g1,g2,g3,g4,g5⟩:=fe1
  have I2:=I1.turned (t':=s.toks) (h':=h1) (it:=it) (fun b o hb q=>by
   rcases Heap.get?_push_cases q with z|z
   ·rw[z.1,z.2];exact hT
   ·exact keep b o hb z) g0 g1 g3 g4 g5
  refine wpAny_letOwnedTupleGo_items hout fun h2 he2 hs2=>?_
  have I3:=I2.turned (t':=s.toks) (h':=h2) (it:=it) (fun b o hb q=>(hs2.2 b hb).trans q) g0 g1 g3 g4 g5
  refine⟨.ref s.heap.objs.size,_,I3,rfl,⟨_,k,v,rfl,In,hkv,rfl⟩,⟨_,_,he2⟩,fun b hb=>?_⟩
  rw[show b=it by simpa using hb];exact g0
 done:=by
  intro X hP hw hK hc i pins s σ H E I hf st hg
  subst hP hw hK
  obtain⟨e,hi⟩:=hg
  obtain⟨hget,_⟩:=I.hok a _ e
  obtain⟨ok,ov,hit⟩:=st
  obtain⟨f0,f1,f2,f3,f4,f5⟩:=hf it (by simp)
  exact gc (I.ok.hd hc) hit hget hd (by omega) fun h' eb=>⟨rfl,I.turned (t':=s.toks) (fun b o hb q=>eb b o hb q) f0 f1 f3 f4 f5⟩
 self:=fun A i s Q E ⟨ok,ov,q⟩ h=>nj q h
end
section
variable {X:Cx} {l:Expr} {tl:TE} {te:TEd} {elts:List Expr} {x1:Nat} {pt apos cpos:Pos}
def Fd (tl:TE):TI:=fun σ H R=>tl σ H fun x H1=>∃ a o ks,x=.ref a/\H1 a=some (.frz o (.dT ks))/\R (Dn a o ks) H1
theorem uN (hl:PE X l tl) (hbase:attributeBase l "items" X.env (eval l X.env)=eval l X.env:=by rfl) (hline:(apos.endLine==cpos.line)=true:=by rfl):PI X (.Tuple elts x1 pt) (.Call (.Attribute l "items" apos) [] [] cpos) (Fd tl):=by
 intro pins s σ H R I h
 refine wpAny_Call_method0_late hbase hline (thn (hl pins s σ H _ I h) fun v s1 ⟨x,H1,I1,r1,q1⟩=>?_)
 obtain⟨a,o,ks,e,ea,q⟩:=q1
 subst e
 cases r1
 obtain⟨t1,t2,_⟩:=so I1 (.inr ⟨ks,.inr ⟨o,ea⟩⟩)
 obtain⟨ho,_,hs,xs,rel,o',es,ep,q',c,hd,r,_⟩:=I1.hok a _ ea
 rw[ho]at q';cases q'
 refine⟨"dict","dict.items",PySem.F.plainAttrs_dict,PySem.F.slot_dict_items,PySem.F.type_dict_items,t1,t2,Calls.callWith_builtin rfl (PySem.evalArgs_none ?_)⟩
 refine lT hs ho c hd ?_
 have I3:=I1.kept (t':=s1.toks) (h':=s1.heap.push { cls:=.type "dict_items",data:=.fields #[.ref a] }) fun b o e=>Heap.get?_push_of_some _ e
 refine lN (d:=a) (od:=o) (es:=es) (ep:=ep) ⟨_,Heap.get?_push_size _ rfl,rfl,rfl⟩ (Heap.get?_push_of_some _ ho) hd fun h' hit keep=>?_
 have I4:=I3.kept (t':=s1.toks) (h':=h') keep
 have hlen:es.size=ks.length:=by
  have h1:=congrArg List.length r
  rw[Array.length_toList,List.length_map]at h1
  rw[h1];exact(Paired.length rel).symm
 refine⟨_,[_],_,_,_,rfl,I4,re _ hd hlen,⟨_,_,hit⟩,fun b hb=>?_,q⟩
 have e:=List.mem_singleton.mp hb
 rw[e]
 exact I3.fpOk (Nat.le_refl _) (I3.hok.fresh (Nat.le_refl _))
def Ex (tl:TE):TI:=fun σ H R=>tl σ H fun x H1=>∃ a o ks,x=.ref a/\H1 a=some (.frz o (.dK ks))/\R (Ab a o ks) H1
theorem qS (hl:PE X l tl) (hbase:attributeBase l "items" X.env (eval l X.env)=eval l X.env:=by rfl) (hline:(apos.endLine==cpos.line)=true:=by rfl):PI X (.Tuple elts x1 pt) (.Call (.Attribute l "items" apos) [] [] cpos) (Ex tl):=by
 intro pins s σ H R I h
 refine wpAny_Call_method0_late hbase hline (thn (hl pins s σ H _ I h) fun v s1 ⟨x,H1,I1,r1,q1⟩=>?_)
 obtain⟨a,o,ks,e,ea,q⟩:=q1
 subst e
 cases r1
 obtain⟨t1,t2,_⟩:=so I1 (.inl ⟨ks,.inr ⟨o,ea⟩⟩)
 obtain⟨ho,_,hs,vs,rel,o',es,ep,q',c,hd,hk,hp,_⟩:=I1.hok a _ ea
 rw[ho]at q';cases q'
 refine⟨"dict","dict.items",PySem.F.plainAttrs_dict,PySem.F.slot_dict_items,PySem.F.type_dict_items,t1,t2,Calls.callWith_builtin rfl (PySem.evalArgs_none ?_)⟩
 refine lT hs ho c hd ?_
 have I3:=I1.kept (t':=s1.toks) (h':=s1.heap.push { cls:=.type "dict_items",data:=.fields #[.ref a] }) fun b o e=>Heap.get?_push_of_some _ e
 refine lN (d:=a) (od:=o) (es:=es) (ep:=ep) ⟨_,Heap.get?_push_size _ rfl,rfl,rfl⟩ (Heap.get?_push_of_some _ ho) hd fun h' hit keep=>?_
 have I4:=I3.kept (t':=s1.toks) (h':=h') keep
 have hlen:es.size=ks.length:=by
  have h1:=hp.length
  rw[Array.length_toList]at h1
  rw[h1];exact(Paired.length rel).symm
 refine⟨_,[_],_,_,_,rfl,I4,qH _ hd hlen,⟨_,_,hit⟩,fun b hb=>?_,q⟩
 have e:=List.mem_singleton.mp hb
 rw[e]
 exact I3.fpOk (Nat.le_refl _) (I3.hok.fresh (Nat.le_refl _))
def sI (te:TEd):TId:=fun Δ M R=>te Δ M fun d M1=>∃ kvs,d=gK kvs/\R (kvs.map fun p=>.tup [my p.1,p.2]) M1
theorem DX (he:PEd X l te) (hbase:attributeBase l "items" X.env (eval l X.env)=eval l X.env:=by rfl) (hline:(apos.endLine==cpos.line)=true:=by rfl):PId X (.Tuple elts x1 pt) (.Call (.Attribute l "items" apos) [] [] cpos) (sI te):=fun pins s σ H R I h =>
 PI.conv (uN he hbase hline) (fun σ H R ⟨Δ,M,R',sr,hr,q,k⟩=>⟨Δ,M,_,sr,hr,q,fun d M1 v H1 ⟨kvs,ed,q1⟩ e1 hr1 rv=>by
  subst ed
  simp only[gK,Rep,fF]at rv
  obtain⟨a,vs,rfl,⟨hl,⟨o,ha⟩,na⟩,rl⟩:=rv
  refine⟨a,o,_,rfl,ha,k _ _ _ _ q1 e1 hr1 ?_⟩
  have kr0:KR X.K M1 H1 kvs ((kvs.map (·.1)).zip vs):=by
   have:=lC hl rl
   rwa [cE]at this
  have hlen:kvs.length=((kvs.map (·.1)).zip vs).length:=kr0.length
  intro M2 H2 e3 hr3 i
  have ea:=(e3 a _ ha na).1
  refine⟨fun d hd=>?_,fun hl=>⟨ea,?_⟩⟩
  ·rw[List.getElem?_map]at hd
   cases q:kvs[i]? with
   |none=>rw[q]at hd;cases hd
   |some p =>
    rw[q]at hd;cases hd
    have hi:i<kvs.length:=(List.getElem?_eq_some_iff.mp q).1
    refine⟨⟨ea,by rw[<-hlen];exact hi⟩,fun x H' hy=>?_⟩
    obtain⟨T,q',k',v',ex,hT,hk,hq,eH⟩:=hy
    subst eH;subst ex
    obtain⟨y,hy,ek,rv⟩:=dj (kr0.ext e3) i p q
    rw[hk]at hy;cases hy
    have en:Ext M2 H2 M2 (upd H2 T (.tup [.ref q',v'])):=Ext.new hr3 hT
    have hn:=hr3.new (o:=.tup [.ref q',v']) hT
    refine⟨en,hn,?_⟩
    have mq:M2 q'=none:=by
     cases hm:M2 q' with
     |none=>rfl
     |some u =>
      obtain⟨w,z,nw⟩:=(hr3 q' u hm).some
      rw[hq]at z;cases z
      exact absurd rfl (nw _).1
    have rk:Rep X.K M2 H2 (my p.1) (.ref q'):=kz.mpr ⟨q',_,rfl,⟨hq,mq⟩,by
     have:p.1=k':=ek
     rw[this];exact n8 _⟩
    rw[Rep]
    exact⟨T,_,rfl,.inl ⟨.inl ax,hr3.fresh hT⟩,af.cons (rk.ext en) (af.cons (Rep.ext rv en) af.nil)⟩
  ·rw[<-hlen];simpa using hl⟩) pins s σ H R I h
def xl (te:TEd):TId:=fun Δ M R=>te Δ M fun d M1=>∃ kvs,d=oi kvs/\R (kvs.map fun p=>.tup [kD p.1,p.2]) M1
theorem DI (he:PEd X l te) (hbase:attributeBase l "items" X.env (eval l X.env)=eval l X.env:=by rfl) (hline:(apos.endLine==cpos.line)=true:=by rfl):PId X (.Tuple elts x1 pt) (.Call (.Attribute l "items" apos) [] [] cpos) (xl te):=fun pins s σ H R I h =>
 PI.conv (qS he hbase hline) (fun σ H R ⟨Δ,M,R',sr,hr,q,k⟩=>⟨Δ,M,_,sr,hr,q,fun d M1 v H1 ⟨kvs,ed,q1⟩ e1 hr1 rv=>by
  subst ed
  simp only[oi,Rep,fF]at rv
  obtain⟨a,vs,rfl,⟨hl,⟨o,ha⟩,na⟩,rl⟩:=rv
  refine⟨a,o,_,rfl,ha,k _ _ _ _ q1 e1 hr1 ?_⟩
  have kr0:KR X.K M1 H1 kvs ((kvs.map (·.1)).zip vs):=by
   have:=lC hl rl
   rwa [cE]at this
  have hlen:kvs.length=((kvs.map (·.1)).zip vs).length:=kr0.length
  intro M2 H2 e3 hr3 i
  have ea:=(e3 a _ ha na).1
  refine⟨fun d hd=>?_,fun hl=>⟨ea,?_⟩⟩
  ·rw[List.getElem?_map]at hd
   cases q:kvs[i]? with
   |none=>rw[q]at hd;cases hd
   |some p =>
    rw[q]at hd;cases hd
    have hi:i<kvs.length:=(List.getElem?_eq_some_iff.mp q).1
    refine⟨⟨ea,by rw[<-hlen];exact hi⟩,fun x H' hy=>?_⟩
    obtain⟨T,k',v',ex,hT,hk,eH⟩:=hy
    subst eH;subst ex
    obtain⟨y,hy,ek,rv⟩:=dj (kr0.ext e3) i p q
    rw[hk]at hy;cases hy
    have en:Ext M2 H2 M2 (upd H2 T (.tup [kV k',v'])):=Ext.new hr3 hT
    have hn:=hr3.new (o:=.tup [kV k',v']) hT
    refine⟨en,hn,?_⟩
    have e':p.1=k':=ek
    rw[Rep]
    exact⟨T,_,rfl,.inl ⟨.inl ax,hr3.fresh hT⟩,af.cons (by rw[e'];exact ij) (af.cons (Rep.ext rv en) af.nil)⟩
  ·rw[<-hlen];simpa using hl⟩) pins s σ H R I h
end
/-! ### comprehensions of any number of clauses,level by level -/
abbrev lcE (el:Expr) (gs:List Comprehension) (sc:Scope) (ps:Pos):Expr:=.ListComp el gs sc ps
section
variable {prog:Program} {w:World} {A:Around} {R:Result->Shared->Prop} {s:Shared} {el tg elt i:Expr} {fs:List Expr} {k:Nat} {p:Pos} {it acc:Value} {env:Env} {gs:List Comprehension} {sc:Scope} {ps:Pos}
abbrev AWt:=(Shared->Prop)->Shared->Prop
def sQ (prog:Program) (w:World) (A:Around) (elt:Expr) (acc:Value) (env:Env):AWt:=fun Ok s=>wpAny (model prog w) A (eval elt env) (fun x s₄=>wpAny (model prog w) A (call (.builtin "list.append") [acc,x]) (fun _ s₅=>Ok s₅) (fun _ _=>False) s₄) (fun _ _=>False) s
def tG (prog:Program) (w:World) (A:Around) (ce:Expr) (k:Nat) (i:Expr) (acc:Value) (env:Env):AWt:=fun Ok s=>wpAny (model prog w) A (eval i env) (fun x s₄=>wpAny (model prog w) A (pyIter x) (fun it2 s₅ =>
 codeAny (model prog w) A (.compStart ce k it2 acc env) (fun r s₆=>(∃ f,r=.ok f)/\Ok s₆) s₅) (fun _ _=>False) s₄) (fun _ _=>False) s
def ur (ce:Expr) (k:Nat) (p:Pos) (tg:Expr) (fs:List Expr) (bd:Value->Value->Env->Sem Fin):Prop:=∀ it acc env,compTurn ce k it acc env=(do
  standAt p
  let r <-pyNext it
  match r with
   |none=>pure (Fin.done Flow.next)
   |some v=>do
    letOwnedTupleGo tg it v
    assign tg env v
    let ok <-forIn fs true fun c r=>if r=true then do let ok <-PySem.isTrue c env (eval c env);pure (ForInStep.yield ok)else pure (ForInStep.yield r)
    if ok=true then bd it acc env else again (Code.compLoop ce k it acc env))
def w6 (prog:Program) (w:World) (A:Around) (ce:Expr) (k:Nat) (bd:Value->Value->Env->Sem Fin) (it acc:Value) (env:Env) (AW:AWt):Prop :=
 ∀ Ok s (R:Result->Shared->Prop) (E:Value->Shared->Prop),AW Ok s->wpAny (model prog w) A (bd it acc env) (fun fin s'=>match fin with|.done f=>R (.ok f) s'|.again c'=>c'=Code.compLoop ce k it acc env/\Ok s') E s
theorem mH {bd:Value->Value->Env->Sem Fin} {AW:AWt} (hT:ur (lcE el gs sc ps) k p tg fs bd) (hq:(Code.compLoop (lcE el gs sc ps) k it acc env).quiet=true:=by rfl) (hb:w6 prog w A (lcE el gs sc ps) k bd it acc env AW) (I:Nat->Shared->Prop)
  (turn:∀ n s,I n s → wpAny (model prog w) A (pyNext it) (fun r s₁ => match r with
   |none=>R (.ok .next) s₁
   | some v => wpAny (model prog w) A (letOwnedTupleGo tg it v) (fun _ s₁ => wpAny (model prog w) A (assign tg env v) (fun _ s₂ =>
     wpAny (model prog w) A (forIn fs true fun c r=>if r=true then do let ok <-isTrue c env (eval c env);pure (ForInStep.yield ok)else pure (ForInStep.yield r)) (fun ok s₃ =>
      if ok=true then AW (fun s₅=>∃ m,m<n/\I m s₅) s₃
      else ∃ m,m<n/\I m s₃) (fun _ _=>False) s₂) (fun _ _=>False) s₁) (fun _ _=>False) s₁) (fun _ _=>False) s)
  (n:Nat) (h:I n s) :
  codeAny (model prog w) A (.compLoop (lcE el gs sc ps) k it acc env) R s:=by
 refine codeAny_loop hq I (fun n s hI=>?_) n h
 show wpAny _ A ((compTurn (lcE el gs sc ps) k it acc env).onRaise (fun x=>do noteFrame x env;theTreesLotGoes x)) _ _ s
 refine wpAny_noted ?_
 rw[hT]
 refine wpAny_bind (wpAny_standAt (wpAny_bind (wpAny_mono (turn n s hI) (fun r s₁ h₁=>?_) fun _ _ h'=>h'.elim)))
 cases r with
 |none=>exact wpAny_pure h₁
 |some v =>
  refine wpAny_bind (wpAny_mono h₁ (fun _ s1 h₁=>?_) fun _ _ h'=>h'.elim)
  refine wpAny_bind (wpAny_mono h₁ (fun _ s₂ h₂=>wpAny_bind (wpAny_mono h₂ (fun ok s₃ h₃=>?_) fun _ _ h'=>h'.elim)) fun _ _ h'=>h'.elim)
  cases ok with
  |false=>exact wpAny_pure ⟨rfl,h₃⟩
  |true=>exact hb _ _ _ _ h₃
def Aq (ce:Expr) (k:Nat) (elt:Expr):Value->Value->Env->Sem Fin:=fun it acc env=>bind (bind (eval elt env) fun x=>bind (call (Value.builtin "list.append") [acc,x]) fun _=>pure ()) fun(_:Unit)=>again (Code.compLoop ce k it acc env)
def xS (ce:Expr) (k:Nat) (i:Expr):Value->Value->Env->Sem Fin:=fun it acc env=>do
 let x <-eval i env
 standAt i.pos
 let x <-foldedSetIterable i env x
 let it2 <-holding [x] (pyIter x)
 let _ <-runOwn (Code.compStart ce (k+1) it2 acc env) env
 again (Code.compLoop ce k it acc env)
theorem z1:w6 prog w A (lcE el gs sc ps) k (Aq (lcE el gs sc ps) k elt) it acc env (sQ prog w A elt acc env):=fun Ok s R E h =>
 wpAny_bind (wpAny_bind (wpAny_mono h (fun x s₄ h₄=>wpAny_bind (wpAny_mono h₄ (fun _ s₅ h₅=>wpAny_pure (wpAny_pure ⟨rfl,h₅⟩)) fun _ _ h'=>h'.elim)) fun _ _ h'=>h'.elim))
theorem tF (hs:∀ x,foldedSetIterable i env x=pure x):w6 prog w A (lcE el gs sc ps) k (xS (lcE el gs sc ps) k i) it acc env (tG prog w A (lcE el gs sc ps) (k+1) i acc env):=fun Ok s R E h=>by
 refine wpAny_bind (wpAny_mono h (fun x s₄ h₄=>wpAny_bind (wpAny_standAt ?_)) fun _ _ h'=>h'.elim)
 rw[hs x]
 refine wpAny_bind (wpAny_pure (wpAny_bind (wpAny_holding (wpAny_mono h₄ (fun it2 s₅ h₅=>?_) fun _ _ h'=>h'.elim))))
 refine wpAny_bind (wpAny_runOwn (codeAny_mono h₅ fun r s₆ h₆=>?_))
 obtain⟨⟨f,rfl⟩,h₆⟩:=h₆
 exact wpAny_pure ⟨rfl,h₆⟩
def oM (ce:Expr) (k:Nat) (p:Pos):Prop:=∀ it acc env,compStart ce k it acc env=(do
  let r <-ask
  if r.params.followText "comprehension-iter-twice"=true then again (Code.compLoop ce k it acc env)
   else do
    rule "comprehension.iter-twice"
    standAt p
    let i <-pyIter it
    again (Code.compLoop ce k i acc env))
theorem kY (hS:oM (lcE el gs sc ps) k p) (h:codeAny (model prog w) A (.compLoop (lcE el gs sc ps) k it acc env) R s)
  (h2:wpAny (model prog w) A (pyIter it) (fun it' s'=>codeAny (model prog w) A (.compLoop (lcE el gs sc ps) k it' acc env) R s') (fun _ _=>False) s) :
  codeAny (model prog w) A (.compStart (lcE el gs sc ps) k it acc env) R s:=by
 refine codeAny_of_tree ?_
 show wpAny _ A ((compStart (lcE el gs sc ps) k it acc env).onRaise (fun x=>do noteFrame x env;standAt theWindowsPlace)) _ _ s
 refine wpAny_onRaise ?_
 rw[hS]
 refine wpAny_bind (wpAny_askSetting ?_)
 dsimp only
 split
 ·exact wpAny_pure ⟨rfl,h⟩
 ·exact wpAny_bind (wpAny_rule (wpAny_bind (wpAny_standAt (wpAny_bind (wpAny_mono h2 (fun it' s' h'=>wpAny_pure ⟨rfl,h'⟩) fun _ _ h'=>h'.elim)))))
end
/-! the levels' readings -/
abbrev BK:=List V->St->Hp->(List V->St->Hp->Prop)->Prop
def kI (J:It) (g:TG) (tc:TT) (B:BK) (W:Nat->Nat->List V->St->Hp->Prop) (Z:List V->St->Hp->Prop):Prop :=
 ∀ i m ys σ H,W i m ys σ H->ys.length<=sizeLine/\((J.stop i H/\Z ys σ H) ∨
  (J.go i H/\∀ x H',J.yld i H x H'->g x σ H' fun σ2 H2=>tc σ2 H2 fun b H3=>if b=true then B ys σ2 H3 (fun ys' σ' H'=>∃ m',m'<m/\W (i+1) m' ys' σ' H')else ∃ m',m'<m/\W (i+1) m' ys σ2 H3))
def sK (te:TE):BK:=fun ys σ H Z=>te σ H fun y H'=>Z (ys++[y]) σ H'
def mR (wi:TI) (g:TG) (tc:TT) (B:BK):BK:=fun ys σ H Z=>wi σ H fun J H'=>∃ W:Nat->Nat->List V->St->Hp->Prop,(∃ m,W 0 m ys σ H')/\kI J g tc B W Z
section
variable {Y:Cx} {D:Addr} {el tg elt i1:Expr} {fs:List Expr} {g:TG} {tc:TT} {te:TE} {wi:TI} {B:BK} {k:Nat} {p:Pos} {gs:List Comprehension} {sc:Scope} {ps:Pos}
def tP (Y:Cx) (D:Addr) (AW:AWt) (B:BK):Prop:=∀ (P:List (Addr×Obj)) (its:List Value) (nn:Nat) (ys:List V) (σ:St) (H:Hp) (s:Shared) (Z:List V->St->Hp->Prop),Inv Y ([(D,bh its nn)]++P) σ H s->aq ys its->ys.length<=sizeLine->(∀ p∈P,p.1≠D)->B ys σ H Z ->
 AW (fun s'=>∃ ys' its' n' σ' H',Inv Y ([(D,bh its' n')]++P) σ' H' s'/\aq ys' its'/\Z ys' σ' H') s
structure tN (Y:Cx) (D:Addr):Prop where
 pn:Y.pn=[]
 calm:Y.calm=true
 xe:Y.xe=fun _ _=>False
 ex:D∈Y.ex∨Y.s₀.heap.objs.size<=D
 cell:∀ x c,Y.env.cells.lookup x=some c->c≠D
theorem AWt.mono_leaf {prog:Program} {w:World} {A:Around} {acc:Value} {env:Env} {Ok Ok':Shared->Prop} {s:Shared} (h:sQ prog w A elt acc env Ok s) (k:∀ s,Ok s->Ok' s):sQ prog w A elt acc env Ok' s :=
 wpAny_mono h (fun _ _ h1=>wpAny_mono h1 (fun _ _ h2=>k _ h2) fun _ _ x=>x) fun _ _ x=>x
theorem wq (c:tN Y D) (he:PE Y elt te):tP Y D (sQ Y.prog Y.w Y.A elt (.ref D) Y.env) (sK te):=by
 intro P its nn ys σ H s Z I rv hz hPD q
 refine thF c.xe (he _ s σ H _ I q) fun v s9 ⟨y,H9,I9,r9,q9⟩=>?_
 have pacc:=I9.pin (D,bh its nn) (List.mem_append_right _ (List.mem_append_left _ List.mem_cons_self))
 have hzi:its.toArray.size<=sizeLine:=by rw[List.size_toArray,<-rv.length];exact hz
 refine PySem.wpAny_list_append_plain (hsz:=hzi) ⟨nn,pacc.1⟩ fun h' hl' hs'=>?_
 obtain⟨n',hl'⟩:=hl'
 have I10:Inv Y [] σ H9 { s9 with heap:=h' } :=
  Inv.turned (t':=s9.toks) (it:=D) (I9.pins_of fun p hp=>absurd hp (by simp)) (fun b o hb e=>(hs'.2 b hb).trans e) pacc.2.1 pacc.2.2.1 c.ex c.cell (fun p hp=>absurd (show p∈([]:List (Addr×Obj))from by rw[c.pn]at hp;exact hp) (by simp))
 refine⟨ys++[y],its++[v],n',σ,H9,I10.pins_of fun p hp=>?_,rv.append (.cons r9 .nil),q9⟩
 rcases List.mem_append.mp hp with z|z
 ·have e:p=(D,bh (its++[v]) n'):=List.mem_singleton.mp z
  subst e
  refine⟨?_,pacc.2.1,pacc.2.2.1,pacc.2.2.2.1,fun v z=>by cases z⟩
  rw[hl']
  simp[bh]
 ·obtain⟨b1,b2,b3,b4,b5⟩:=I9.pin p (List.mem_append_right _ (List.mem_append_right _ z))
  exact⟨(hs'.2 _ (hPD p z)).trans b1,b2,b3,b4,b5⟩
theorem mQ {bd:Value->Value->Env->Sem Fin} {AW:AWt} (c:tN Y D) (hT:ur (lcE el gs sc ps) k p tg fs bd) {it2:Addr} (hq:(Code.compLoop (lcE el gs sc ps) k (.ref it2) (.ref D) Y.env).quiet=true) (hb:w6 Y.prog Y.w Y.A (lcE el gs sc ps) k bd (.ref it2) (.ref D) Y.env AW) (hB:tP Y D AW B)
  (hAW:∀ {Ok Ok':Shared->Prop} {s:Shared},AW Ok s->(∀ s,Ok s->Ok' s)->AW Ok' s)
  (hg:PG Y tg g) (hif:PIf Y fs tc) {P:List (Addr×Obj)} (hPD:∀ p∈P,p.1≠D)
  {its0:List Value} {nn0:Nat} {ys0:List V} {σ:St} {H:Hp} {s:Shared} (I:Inv Y ([(D,bh its0 nn0)]++P) σ H s) (rv0:aq ys0 its0) {fp2:List Addr} {tn2:Nat->Heap->Prop} {J2:It} (T:gJ Y.prog Y.w Y.K tg J2 fp2 it2 tn2) (st:tn2 0 s.heap)
  (f:∀ b∈fp2,cy Y ([(D,bh its0 nn0)]++P) H b) {W2:Nat->Nat->List V->St->Hp->Prop} {Z2:List V->St->Hp->Prop} {m0:Nat} (w0:W2 0 m0 ys0 σ H) (turn:kI J2 g tc B W2 Z2) {R:Result->Shared->Prop}
  (hR:∀ (s':Shared) (ys:List V) (its:List Value) (n:Nat) (σ':St) (H':Hp),Inv Y ([(D,bh its n)]++P) σ' H' s'->aq ys its->ys.length<=sizeLine->Z2 ys σ' H'->R (.ok .next) s') :
  codeAny (model Y.prog Y.w) Y.A (.compLoop (lcE el gs sc ps) k (.ref it2) (.ref D) Y.env) R s:=by
 have fpc:∀ {H:Hp} {n:Nat} {its:List Value},(∀ b∈fp2,H b=none)->∀ b∈fp2,cy Y ([(D,bh its n)]++P) H b:=fun hn b hb=>by
  obtain⟨_,a1,a2,a3,a4,a5⟩:=f b hb
  refine⟨hn b hb,a1,a2,a3,a4,fun p hp=>?_⟩
  rw[c.pn,List.nil_append]at hp
  rcases List.mem_append.mp hp with z|z
  ·obtain rfl:=List.mem_singleton.mp z
   exact a5 (D,bh its0 nn0) (by rw[c.pn];simp)
  ·exact a5 p (by rw[c.pn];simp[z])
 refine mH hT hq hb (fun n s'=>∃ i ys its nn σ' H',Inv Y ([(D,bh its nn)]++P) σ' H' s'/\aq ys its/\tn2 i s'.heap/\(∀ b∈fp2,H' b=none)/\W2 i n ys σ' H') ?_ m0
  ⟨0,ys0,its0,nn0,σ,H,I,rv0,st,fun b hb=>(f b hb).1,w0⟩
 rintro n s' ⟨i,ys,its,nn,σ',H',I4,rv,st4,fr4,w4⟩
 obtain⟨hz,h⟩:=turn i n ys σ' H' w4
 rcases h with⟨stop,hZ⟩|⟨go,step⟩
 ·refine thn (T.done Y rfl rfl rfl c.calm i _ s' _ H' (fun _ _=>False) I4 (fpc fr4) st4 stop) fun r s4 ⟨hr,I5⟩=>?_
  subst hr
  exact hR s4 ys its nn σ' H' I5 rv hz hZ
 ·refine thn (T.item Y rfl rfl rfl c.calm i _ s' _ H' (fun _ _=>False) I4 (fpc fr4) st4 go) fun r s5 ⟨u,hr,h5⟩=>?_
  subst hr
  refine thn h5 fun _ s6 ⟨x,H6,I6,r6,y6,st6,fr6⟩=>?_
  have I6':=I6.pinned (fpc fr6) (T.obj _ _ st6)
  refine thF c.xe (hg _ s6 _ H6 x u _ I6' r6 (step x H6 y6)) fun _ s7 ⟨σ7,H7,I7,q7⟩=>?_
  refine thF c.xe (hif _ s7 σ7 H7 _ I7 q7) fun ok s8 ⟨H8,I8,q8⟩=>?_
  have keepfp:∀ {its:List Value} {nn:Nat} {σ9:St} {H9:Hp} {s9:Shared},Inv Y (([(D,bh its nn)]++P)++eF fp2 s6.heap) σ9 H9 s9->tn2 (i+1) s9.heap/\∀ b∈fp2,H9 b=none:=fun {its nn σ9 H9 s9} I9 =>
   ⟨T.keep _ _ _ st6 fun b hb o e=>(I9.pin (b,o) (List.mem_append_right _ (List.mem_append_right _ (bo hb e)))).1,fun b hb=>by
    obtain⟨o,e,d⟩:=T.obj _ _ st6 b hb
    exact(I9.pin (b,o) (List.mem_append_right _ (List.mem_append_right _ (bo hb e)))).2.1⟩
  cases ok with
  |false =>
   obtain⟨m',hm,w8⟩:=q8
   obtain⟨a8,b8⟩:=keepfp I8
   exact⟨m',hm,i+1,ys,its,nn,σ7,H8,I8.unpinned,rv,a8,b8,w8⟩
  |true =>
   have hPD2:∀ p∈P++eF fp2 s6.heap,p.1≠D:=fun p hp=>by
    rcases List.mem_append.mp hp with z|z
    ·exact hPD p z
    ·have hb:=(js z).1
     intro e
     exact(f _ hb).2.2.2.2.2 (D,bh its0 nn0) (by rw[c.pn];simp) e.symm
   refine hAW (hB (P++eF fp2 s6.heap) its nn ys σ7 H8 s8 _ (by rw[<-List.append_assoc];exact I8) rv hz hPD2 q8) ?_
   rintro s9 ⟨ys',its',n',σ',H',I',rv',m',hm,w'⟩
   rw[<-List.append_assoc]at I'
   obtain⟨a9,b9⟩:=keepfp I'
   exact⟨m',hm,i+1,ys',its',n',σ',H',I'.unpinned,rv',a9,b9,w'⟩
theorem kQ {prog:Program} {w:World} {A:Around} {acc:Value} {env:Env} {Ok Ok':Shared->Prop} {s:Shared} (h:tG prog w A (lcE el gs sc ps) k i1 acc env Ok s) (h':∀ s,Ok s->Ok' s):tG prog w A (lcE el gs sc ps) k i1 acc env Ok' s :=
 wpAny_mono h (fun _ _ h1=>wpAny_mono h1 (fun _ _ h2=>codeAny_mono h2 fun _ _ h3=>⟨h3.1,h' _ h3.2⟩) fun _ _ x=>x) fun _ _ x=>x
theorem pB {bd:Value->Value->Env->Sem Fin} {AW:AWt} (c:tN Y D) (hT:ur (lcE el gs sc ps) k p tg fs bd) (hS:oM (lcE el gs sc ps) k p) (hq:∀ it,(Code.compLoop (lcE el gs sc ps) k it (.ref D) Y.env).quiet=true) (hb:∀ it,w6 Y.prog Y.w Y.A (lcE el gs sc ps) k bd it (.ref D) Y.env AW) (hB:tP Y D AW B)
  (hAW:∀ {Ok Ok':Shared->Prop} {s:Shared},AW Ok s->(∀ s,Ok s->Ok' s)->AW Ok' s)
  (hi:PI Y tg i1 wi) (hg:PG Y tg g) (hif:PIf Y fs tc):tP Y D (tG Y.prog Y.w Y.A (lcE el gs sc ps) k i1 (.ref D) Y.env) (mR wi g tc B):=by
 intro P its nn ys σ H s Z I rv hz hPD q
 refine thF c.xe (hi _ s σ H _ I q) fun v s9 h9=>thF c.xe h9 fun itv s10 h10=>?_
 obtain⟨it2,fp2,tn2,J2,H10,e,I10,T2,st10,f10,W2,⟨m2,w2⟩,cin⟩:=h10
 subst e
 have loop:=mQ c hT (hq _) (hb _) hB hAW hg hif hPD I10 rv T2 st10 f10 w2 cin (R:=fun r s₆=>(∃ f,r=.ok f)/\∃ ys' its' n' σ' H',Inv Y ([(D,bh its' n')]++P) σ' H' s₆/\aq ys' its'/\Z ys' σ' H')
  (fun s' ys its n σ' H' I' rv' _ hZ=>⟨⟨_,rfl⟩,ys,its,n,σ',H',I',rv',hZ⟩)
 exact kY hS loop (T2.self _ 0 _ _ _ st10 loop)
end
/-! ### comprehensions of three clauses -/
abbrev cX (elt t0 i0 t1 i1 t2 i2:Expr) (f0 f1 f2:List Expr) (scope:Scope) (pos:Pos):Expr:=lcE elt [⟨t0,i0,f0,0⟩,⟨t1,i1,f1,0⟩,⟨t2,i2,f2,0⟩] scope pos
section
variable {elt t0 i0 t1 i1 t2 i2:Expr} {f0 f1 f2:List Expr} {scope:Scope} {pos:Pos}
theorem AV:ur (cX elt t0 i0 t1 i1 t2 i2 f0 f1 f2 scope pos) 0 i0.pos t0 f0 (xS (cX elt t0 i0 t1 i1 t2 i2 f0 f1 f2 scope pos) 0 i1):=fun _ _ _=>rfl
theorem BU:ur (cX elt t0 i0 t1 i1 t2 i2 f0 f1 f2 scope pos) 1 i1.pos t1 f1 (xS (cX elt t0 i0 t1 i1 t2 i2 f0 f1 f2 scope pos) 1 i2):=fun _ _ _=>rfl
theorem Cp:ur (cX elt t0 i0 t1 i1 t2 i2 f0 f1 f2 scope pos) 2 i2.pos t2 f2 (Aq (cX elt t0 i0 t1 i1 t2 i2 f0 f1 f2 scope pos) 2 elt):=fun _ _ _=>rfl
theorem zo:oM (cX elt t0 i0 t1 i1 t2 i2 f0 f1 f2 scope pos) 1 i1.pos:=fun _ _ _=>rfl
theorem ye:oM (cX elt t0 i0 t1 i1 t2 i2 f0 f1 f2 scope pos) 2 i2.pos:=fun _ _ _=>rfl
end
section
variable {X:Cx} {pins:List (Addr×Obj)} {σ σ':St} {H2 H':Hp} {s2 s':Shared} {scope:Scope} {cl:List (Str×Addr)} {ms:List Bool} {extra:List Str} {elt t0 i0 t1 i1 t2 i2:Expr} {f0 f1 f2:List Expr} {g0 g1 g2:TG} {tc0 tc1 tc2:TT} {te:TE} {w1 w2:TI} {pos:Pos}
theorem rn (S:bv X scope cl ms extra) (hcalm:X.calm=true)
  (hg0:∀ C s H ex,PG (ah X scope cl (X.N++extra) C s H ex) t0 g0) (hif0:∀ C s H ex,PIf (ah X scope cl (X.N++extra) C s H ex) f0 tc0)
  (hi1:∀ C s H ex,PI (ah X scope cl (X.N++extra) C s H ex) t1 i1 w1) (hg1:∀ C s H ex,PG (ah X scope cl (X.N++extra) C s H ex) t1 g1) (hif1:∀ C s H ex,PIf (ah X scope cl (X.N++extra) C s H ex) f1 tc1) (hs1:∀ C x,foldedSetIterable i1 (compEnvC scope cl C X.env) x=pure x)
  (hi2:∀ C s H ex,PI (ah X scope cl (X.N++extra) C s H ex) t2 i2 w2) (hg2:∀ C s H ex,PG (ah X scope cl (X.N++extra) C s H ex) t2 g2) (hif2:∀ C s H ex,PIf (ah X scope cl (X.N++extra) C s H ex) f2 tc2) (hs2:∀ C x,foldedSetIterable i2 (compEnvC scope cl C X.env) x=pure x)
  (he:∀ C s H ex,PE (ah X scope cl (X.N++extra) C s H ex) elt te)
  (I2:Inv X pins σ H2 s2) {it:Addr} {fp:List Addr} {tn:Nat->Heap->Prop} {J:It} (T:gJ X.prog X.w X.K t0 J fp it tn) (st2:tn 0 s2.heap) (fz:∀ b∈fp,cy X pins H2 b)
  {W:Nat->Nat->List V->St->Hp->Prop} {Z:List V->St->Hp->Prop} {m0:Nat} (w0:W 0 m0 [] (c9 ms extra.length σ) H2) (turn:kI J g0 tc0 (mR w1 g1 tc1 (mR w2 g2 tc2 (sK te))) W Z)
  {RR:Value->Addr->Result->Shared->Prop} {E:Value->Shared->Prop}
  (hRR:∀ (s':Shared) (ys:List V) (its:List Value) (n:Nat) (σ':St) (H':Hp),Inv (ah X scope cl (X.N ++ extra) (s2.heap.objs.size + 1) s2 H2 fp) [(s2.heap.objs.size,bh its n)] σ' H' s' → aq ys its → ys.length ≤ sizeLine → Z ys σ' H' →
   RR (.ref s2.heap.objs.size) (s2.heap.objs.size+1) (.ok .next) s') :
  wpAny (model X.prog X.w) X.A (newList []) (fun acc s₃=>wpAny (model X.prog X.w) X.A (newFunctionEnv scope X.env.globals cl [] X.env.qual none .none (some X.env)) (fun cenv s₄ =>
   codeAny (model X.prog X.w) X.A (.compStart (cX elt t0 i0 t1 i1 t2 i2 f0 f1 f2 scope pos) 0 (.ref it) acc { cenv with scope:=relabel scope X.env }) (RR acc cenv.locals) s₄) E s₃) E s2:=by
 refine wpAny_newObj_type (wpAny_newFunctionEnv S.ncell (by intro y hy;simp at hy) (fun h₁ hns₁ hsb₁=>?_) S.kind)
 dsimp only at hns₁ hsb₁ ⊢
 have hsz:(s2.heap.push { cls:=.type "list",dict:=none,data:=.seq ([]:List Value).toArray }).objs.size=s2.heap.objs.size+1:=by rw[Heap.size_push]
 rw[hsz]at hns₁ hsb₁ ⊢
 have hlt:∀ b∈fp,b<s2.heap.objs.size:=fun b hb=>by
  obtain⟨o,e,_⟩:=T.obj _ _ st2 b hb
  exact Heap.lt_size e
 have old:∀ b o,s2.heap.get? b=some o->h₁.get? b=some o:=fun b o e=>hsb₁.extBut b o (Nat.ne_of_lt (Nat.lt_succ_of_lt (Heap.lt_size e))) (Heap.get?_push_of_some _ (Heap.get?_push_of_some _ e))
 have hacc:h₁.get? s2.heap.objs.size=some (bh [] 0):=hsb₁.extBut _ _ (Nat.ne_of_lt (Nat.lt_succ_self _)) (Heap.get?_push_of_some _ (Heap.get?_push_size _ rfl))
 have hDn:H2 s2.heap.objs.size=none:=I2.hok.fresh (Nat.le_refl _)
 have hDfs:∀ b,s2.heap.objs.size<=b->b∉(ah X scope cl (X.N++extra) (s2.heap.objs.size+1) s2 H2 fp).fs:=fun b hb z=>by
  rcases List.mem_cons.mp (I2.stkSub b z)with e|e
  ·subst e;exact absurd (Nat.lt_of_lt_of_le I2.lt hb) (Nat.lt_irrefl _)
  ·exact I2.nofs hb e
 have loop:∀ s₃:Shared,s₃={ s2 with heap:=h₁,toks:=s2.toks+([]:List (Str×Value)).length } ->
   codeAny (model X.prog X.w) X.A (.compLoop (cX elt t0 i0 t1 i1 t2 i2 f0 f1 f2 scope pos) 0 (.ref it) (.ref s2.heap.objs.size) (compEnvC scope cl (s2.heap.objs.size+1) X.env)) (RR (.ref s2.heap.objs.size) (s2.heap.objs.size+1)) s₃:=by
  rintro s₃ rfl
  have I3:Inv (ah X scope cl (X.N++extra) (s2.heap.objs.size+1) s2 H2 fp) [] (c9 ms extra.length σ) H2 { s2 with heap:=h₁,toks:=s2.toks+([]:List (Str×Value)).length } :=
   n9 I2 S fz hlt (Nat.le_succ _) rfl I2.bare old hns₁
  have c:tN (ah X scope cl (X.N++extra) (s2.heap.objs.size+1) s2 H2 fp) s2.heap.objs.size:=⟨rfl,hcalm,rfl,.inr (Nat.le_refl _),fun x c e=>by
   obtain⟨v,o,ho,_⟩:=I2.cell x c (S.sub x c e)
   exact Nat.ne_of_lt (Heap.lt_size ho)⟩
  have blk2:=wq c (he (s2.heap.objs.size+1) s2 H2 fp)
  have blk1:=pB (el:=elt) (gs:=[⟨t0,i0,f0,0⟩,⟨t1,i1,f1,0⟩,⟨t2,i2,f2,0⟩]) (sc:=scope) (ps:=pos) c Cp ye (fun _=>rfl) (fun _=>z1) blk2 AWt.mono_leaf (hi2 _ _ _ _) (hg2 _ _ _ _) (hif2 _ _ _ _)
  have blk0:=pB (el:=elt) (gs:=[⟨t0,i0,f0,0⟩,⟨t1,i1,f1,0⟩,⟨t2,i2,f2,0⟩]) (sc:=scope) (ps:=pos) c BU zo (fun _=>rfl) (fun _=>tF (hs2 _)) blk1 kQ (hi1 _ _ _ _) (hg1 _ _ _ _) (hif1 _ _ _ _)
  refine mQ (el:=elt) (gs:=[⟨t0,i0,f0,0⟩,⟨t1,i1,f1,0⟩,⟨t2,i2,f2,0⟩]) (sc:=scope) (ps:=pos) c AV rfl (tF (hs1 _)) blk0 kQ (hg0 _ _ _ _) (hif0 _ _ _ _) (P:=[]) (fun p hp=>nomatch hp) (its0:=[]) (nn0:=0) (I3.pins_of fun p hp=>?_) .nil T (T.keep _ _ _ st2 fun b _ o e=>old b o e) (fun b hb=>?_) w0 turn ?_
  ·have e:p=(s2.heap.objs.size,bh [] 0):=List.mem_singleton.mp hp
   subst e
   exact⟨hacc,hDn,Nat.ne_of_lt (Nat.lt_succ_self _),hDfs _ (Nat.le_refl _),fun v z=>by cases z⟩
  ·exact⟨(fz b hb).1,Nat.ne_of_lt (Nat.lt_succ_of_lt (hlt b hb)),(pd I2 S fz hlt (Nat.le_succ _)).exfs b hb,.inl hb,fun x c e=>(fz b hb).2.2.2.2.1 x c (S.sub x c e),fun p hp=>by
    have:p=(s2.heap.objs.size,_):=List.mem_singleton.mp (show p∈[(s2.heap.objs.size,_)]from hp)
    subst this
    exact Nat.ne_of_gt (hlt b hb)⟩
  ·exact fun s' ys its n σ' H' I' rv hz hZ=>hRR s' ys its n σ' H' I' rv hz hZ
 exact codeAny_compStart_list (loop _ rfl) (T.self _ 0 _ _ _ (T.keep _ _ _ st2 fun b _ o e=>old b o e) (loop _ rfl))
def Fi (ms:List Bool) (k:Nat) (w0:TI) (g0:TG) (tc0:TT) (w1:TI) (g1:TG) (tc1:TT) (w2:TI) (g2:TG) (tc2:TT) (te:TE):TE:=fun σ H Q=>w0 σ H fun J H1=>∃ (W:Nat->Nat->List V->St->Hp->Prop) (Z:List V->St->Hp->Prop),(∃ m,W 0 m [] (c9 ms k σ) H1) /\
 kI J g0 tc0 (mR w1 g1 tc1 (mR w2 g2 tc2 (sK te))) W Z/\∀ ys σ' H p,Z ys σ' H->H p=none->Q (.ref p) (upd H p (.lst ys))
theorem Bg (S:bv X scope cl ms extra) (hcalm:X.calm=true) {w0:TI} (hi:PI X t0 i0 w0)
  (hg0:∀ C s H ex,PG (ah X scope cl (X.N++extra) C s H ex) t0 g0) (hif0:∀ C s H ex,PIf (ah X scope cl (X.N++extra) C s H ex) f0 tc0)
  (hi1:∀ C s H ex,PI (ah X scope cl (X.N++extra) C s H ex) t1 i1 w1) (hg1:∀ C s H ex,PG (ah X scope cl (X.N++extra) C s H ex) t1 g1) (hif1:∀ C s H ex,PIf (ah X scope cl (X.N++extra) C s H ex) f1 tc1)
  (hi2:∀ C s H ex,PI (ah X scope cl (X.N++extra) C s H ex) t2 i2 w2) (hg2:∀ C s H ex,PG (ah X scope cl (X.N++extra) C s H ex) t2 g2) (hif2:∀ C s H ex,PIf (ah X scope cl (X.N++extra) C s H ex) f2 tc2)
  (he:∀ C s H ex,PE (ah X scope cl (X.N++extra) C s H ex) elt te)
  (hs:∀ x,foldedSetIterable i0 X.env x=pure x:=by intro _;rfl) (hs1:∀ C x,foldedSetIterable i1 (compEnvC scope cl C X.env) x=pure x:=by intro _ _;rfl) (hs2:∀ C x,foldedSetIterable i2 (compEnvC scope cl C X.env) x=pure x:=by intro _ _;rfl) :
  PE X (cX elt t0 i0 t1 i1 t2 i2 f0 f1 f2 scope pos) (Fi ms extra.length w0 g0 tc0 w1 g1 tc1 w2 g2 tc2 te):=by
 intro pins s σ H Q I h
 rw[eval_ListComp]
 refine wpAny_comprehension_free (use:=none) rfl hs S.clos S.kind S.names (thn (hi pins s σ H _ I h) fun v s1 h1=>thn h1 fun itv s2 h2=>?_)
 obtain⟨it,fp,tn,J,H2,e,I2,T,st2,f2,W,Z,⟨m0,w0⟩,turn,q⟩:=h2
 subst e
 refine rn S hcalm hg0 hif0 hi1 hg1 hif1 hs1 hi2 hg2 hif2 hs2 he I2 T st2 f2 w0 turn (RR:=fun acc C=>compPost (model X.prog X.w) X.A X.xe none (EP X pins σ Q) acc C) ?_
 intro s' ys its n σ' H' I' rv hz hZ
 obtain⟨m,hm,_⟩:=I'.loc
 refine⟨m,hm,fun h' hs'=>?_⟩
 obtain⟨I3,hD⟩:=gA I2 f2 I' rv hz hs'
 exact⟨.ref s2.heap.objs.size,_,I3,rfl,q ys σ' H' _ hZ hD⟩
end
/-! ### comprehensions by levels,in deep data -/
abbrev BKd:=DE->DH->List D->(List D->DE->DH->Prop)->Prop
def gh (g:GD) (tc:TTd) (B:BKd):List D->DE->DH->List D->(List D->DE->DH->Prop)->Prop
 |[],Δ,M,acc,Q=>Q acc Δ M
 |d::ds,Δ,M,acc,Q=>∃ Δ',g d Δ=some Δ'/\tc Δ' M fun b M1=>if b=true then B Δ' M1 acc fun acc' Δ'' M2=>acc'.length<=sizeLine/\gh g tc B ds Δ'' M2 acc' Q else gh g tc B ds Δ' M1 acc Q
def qZ (te:TEd):BKd:=fun Δ M acc Q=>te Δ M fun y M2=>Q (acc++[y]) Δ M2
def k5 (wi:TId) (g:GD) (tc:TTd) (B:BKd):BKd:=fun Δ M acc Q=>wi Δ M fun es M2=>gh g tc B es Δ M2 acc Q
def upB (K:PySem.W.Frag) (b:BKd):BK:=fun ys σ H Z=>∃ (Δ:DE) (M:DH) (acc:List D) (R:List D->DE->DH->Prop),SR K M H σ Δ/\HR K M H/\af K M H acc ys/\acc.length<=sizeLine/\b Δ M acc R /\
 ∀ acc' Δ' M' ys' σ' H',R acc' Δ' M'->Ext M H M' H'->HR K M' H'->SR K M' H' σ' Δ'->af K M' H' acc' ys'->Z ys' σ' H'
abbrev Ag (K:PySem.W.Frag) (g:GD) (gv:TG):Prop:=∀ (d:D) (v:V) (σ:St) (Δ Δ':DE) (M:DH) (H:Hp) (Q:St->Hp->Prop),SR K M H σ Δ->HR K M H->Rep K M H d v->g d Δ=some Δ'->(∀ σ',SR K M H σ' Δ'->Q σ' H)->gv v σ H Q
section
variable {K:PySem.W.Frag} {g:GD} {gv:TG} {tc:TTd} {te:TEd} {wi:TId} {Bd:BKd} {B:BK}
theorem z4 {ys:List V} {σ:St} {H:Hp} {Z:List V->St->Hp->Prop} (h:upB K (qZ te) ys σ H Z):sK (up K te) ys σ H Z:=by
 obtain⟨Δ,M,acc,R,sr,hr,ra,_,q,k⟩:=h
 exact⟨Δ,M,_,sr,hr,q,fun d M' v H' q1 e1 hr1 rv=>k _ _ _ _ _ _ q1 e1 hr1 (sr.ext e1) ((ra.ext e1).append (af.cons rv af.nil))⟩
theorem sB (kg:Ag K g gv) (hB:∀ {ys σ H Z},upB K Bd ys σ H Z->B ys σ H Z) {J:It} {es:List D} {M5:DH} {H5:Hp} (it5:ItD K J es M5 H5) (hr5:HR K M5 H5) {Δ:DE} {acc:List D} {R:List D->DE->DH->Prop} {ys:List V} {σ:St} {Z:List V->St->Hp->Prop}
  (sr:SR K M5 H5 σ Δ) (ra:af K M5 H5 acc ys) (la:acc.length<=sizeLine) (q:gh g tc Bd es Δ M5 acc R)
  (k:∀ acc' Δ' M' ys' σ' H',R acc' Δ' M'->Ext M5 H5 M' H'->HR K M' H'->SR K M' H' σ' Δ'->af K M' H' acc' ys'->Z ys' σ' H') :
  ∃ W:Nat->Nat->List V->St->Hp->Prop,(∃ m,W 0 m ys σ H5)/\kI J gv (upT K tc) B W Z:=by
 refine⟨fun j m ys' σ' H'=>∃ Δ' M' acc',m=es.length-j/\j<=es.length/\Ext M5 H5 M' H'/\HR K M' H'/\SR K M' H' σ' Δ'/\af K M' H' acc' ys'/\acc'.length<=sizeLine/\gh g tc Bd (es.drop j) Δ' M' acc' R,
  ⟨es.length,Δ,M5,acc,by simp,Nat.zero_le _,Ext.refl _ _,hr5,sr,ra,la,q⟩,?_⟩
 rintro j m ys' σ6 H6 ⟨Δ6,M6,acc6,rfl,hj,e6,hr6,sr6,ra6,la6,f6⟩
 refine⟨by rw[<-ra6.length];exact la6,?_⟩
 obtain⟨go2,stop2⟩:=it5 M6 H6 e6 hr6 j
 by_cases hlt2:j<es.length
 ·have hd2:es[j]?=some es[j]:=by simp[hlt2]
  obtain⟨g2,y2⟩:=go2 _ hd2
  rw[List.drop_eq_getElem_cons hlt2]at f6
  simp only[gh]at f6
  obtain⟨Δ7,eg7,f7⟩:=f6
  refine .inr ⟨g2,fun x7 H7 hy7=>?_⟩
  obtain⟨e7,hr7,rx7⟩:=y2 x7 H7 hy7
  refine kg _ x7 σ6 Δ6 Δ7 M6 H7 _ (sr6.ext e7) hr7 rx7 eg7 fun σ7 sr7=>?_
  refine⟨Δ7,M6,_,sr7,hr7,f7,fun b M8 H8 q8 e8 hr8=>?_⟩
  cases b with
  |true =>
   simp only[if_true]at q8 ⊢
   refine hB ⟨Δ7,M8,acc6,_,sr7.ext e8,hr8,(ra6.ext e7).ext e8,la6,q8,?_⟩
   rintro acc' Δ' M' ys9 σ' H' ⟨hz9,q9⟩ e9 hr9 sr9 ra9
   exact⟨es.length-(j+1),by omega,Δ',M',acc',rfl,hlt2,((e6.trans e7).trans e8).trans e9,hr9,sr9,ra9,hz9,q9⟩
  |false =>
   simp only[Bool.false_eq_true,if_false]at q8 ⊢
   exact⟨es.length-(j+1),by omega,Δ7,M8,acc6,rfl,hlt2,(e6.trans e7).trans e8,hr8,sr7.ext e8,(ra6.ext e7).ext e8,la6,q8⟩
 ·rw[List.drop_eq_nil_of_le (by omega)]at f6
  simp only[gh]at f6
  exact .inl ⟨stop2 (by omega),k _ _ _ _ _ _ f6 e6 hr6 sr6 ra6⟩
theorem ub (kg:Ag K g gv) (hB:∀ {ys σ H Z},upB K Bd ys σ H Z->B ys σ H Z) {ys:List V} {σ:St} {H:Hp} {Z:List V->St->Hp->Prop} (h:upB K (k5 wi g tc Bd) ys σ H Z):mR (upI K wi) gv (upT K tc) B ys σ H Z:=by
 obtain⟨Δ,M,acc,R,sr,hr,ra,la,q,k⟩:=h
 exact⟨Δ,M,_,sr,hr,q,fun es M2 J H2 q2 e2 hr2 it2=>sB kg hB it2 hr2 (sr.ext e2) (ra.ext e2) la q2 fun a1 a2 a3 a4 a5 a6 b1 b2=>k a1 a2 a3 a4 a5 a6 b1 (e2.trans b2)⟩
end
def BF (ms:List Bool) (k:Nat) (w0:TId) (g0:GD) (tc0:TTd) (w1:TId) (g1:GD) (tc1:TTd) (w2:TId) (g2:GD) (tc2:TTd) (te:TEd):TEd:=fun Δ M Q=>w0 Δ M fun ds M1 =>
 gh g0 tc0 (k5 w1 g1 tc1 (k5 w2 g2 tc2 (qZ te))) ds (dI ms k Δ) M1 [] fun ys _ M2=>Q (.lst ys) M2
section
variable {X:Cx} {scope:Scope} {cl:List (Str×Addr)} {ms:List Bool} {extra:List Str} {elt t0 i0 t1 i1 t2 i2:Expr} {f0 f1 f2:List Expr} {pos:Pos} {w0 w1 w2:TId} {g0 g1 g2:GD} {tc0 tc1 tc2:TTd} {te:TEd}
theorem Dt (S:bv X scope cl ms extra) (hcalm:X.calm=true) (hi:PId X t0 i0 w0) (hg0:PGa X scope cl extra t0 g0) (hif0:∀ C s H ex,kc (ah X scope cl (X.N++extra) C s H ex) f0 tc0)
  (hi1:∀ C s H ex,PId (ah X scope cl (X.N++extra) C s H ex) t1 i1 w1) (hg1:PGa X scope cl extra t1 g1) (hif1:∀ C s H ex,kc (ah X scope cl (X.N++extra) C s H ex) f1 tc1)
  (hi2:∀ C s H ex,PId (ah X scope cl (X.N++extra) C s H ex) t2 i2 w2) (hg2:PGa X scope cl extra t2 g2) (hif2:∀ C s H ex,kc (ah X scope cl (X.N++extra) C s H ex) f2 tc2) (he:∀ C s H ex,PEd (ah X scope cl (X.N++extra) C s H ex) elt te)
  (hs:∀ x,foldedSetIterable i0 X.env x=pure x:=by intro _;rfl) (hs1:∀ C x,foldedSetIterable i1 (compEnvC scope cl C X.env) x=pure x:=by intro _ _;rfl) (hs2:∀ C x,foldedSetIterable i2 (compEnvC scope cl C X.env) x=pure x:=by intro _ _;rfl) :
  PEd X (cX elt t0 i0 t1 i1 t2 i2 f0 f1 f2 scope pos) (BF ms extra.length w0 g0 tc0 w1 g1 tc1 w2 g2 tc2 te):=by
 obtain⟨gv0,pg0,kg0⟩:=hg0
 obtain⟨gv1,pg1,kg1⟩:=hg1
 obtain⟨gv2,pg2,kg2⟩:=hg2
 refine(Bg (tc0:=upT X.K tc0) (tc1:=upT X.K tc1) (tc2:=upT X.K tc2) (te:=up X.K te) (w1:=upI X.K w1) (w2:=upI X.K w2) S hcalm hi pg0 hif0 hi1 pg1 hif1 hi2 pg2 hif2 he hs hs1 hs2).conv ?_
 rintro σ H Q ⟨Δ,M,R,sr,hr,q,k⟩
 refine⟨Δ,M,_,sr,hr,q,fun ds M1 J H1 q1 e1 hr1 it=>?_⟩
 obtain⟨W,hW,hC⟩:=sB (Z:=fun ys' _ H'=>∃ M' acc,Ext M1 H1 M' H'/\HR X.K M' H'/\af X.K M' H' acc ys'/\R (.lst acc) M') kg0 (fun h=>ub kg1 (fun h=>ub kg2 (fun h=>z4 h) h) h) it hr1 ((sr.ext e1).comp ms extra.length) af.nil (Nat.zero_le _) q1
  (fun acc' Δ' M' ys' σ' H' q' e' hr' _ ra'=>⟨M',acc',e',hr',ra',q'⟩)
 refine⟨W,_,hW,hC,?_⟩
 rintro ys σ' H' p ⟨M',acc,e',hr',ra,q'⟩ hp
 refine k _ M' _ _ q' ((e1.trans e').trans (Ext.new hr' hp)) (hr'.new hp) ?_
 simp only[Rep]
 exact⟨p,ys,rfl,⟨ax,hr'.fresh hp⟩,ra.ext (Ext.new hr' hp)⟩
theorem Em (S:bv X scope cl ms extra) (hcalm:X.calm=true) (hi:QId X t0 i0 w0) (hg0:PGa X scope cl extra t0 g0) (hif0:∀ C s H ex,QIf (ah X scope cl (X.N++extra) C s H ex) f0 tc0)
  (hi1:∀ C s H ex,QId (ah X scope cl (X.N++extra) C s H ex) t1 i1 w1) (hg1:PGa X scope cl extra t1 g1) (hif1:∀ C s H ex,QIf (ah X scope cl (X.N++extra) C s H ex) f1 tc1)
  (hi2:∀ C s H ex,QId (ah X scope cl (X.N++extra) C s H ex) t2 i2 w2) (hg2:PGa X scope cl extra t2 g2) (hif2:∀ C s H ex,QIf (ah X scope cl (X.N++extra) C s H ex) f2 tc2) (he:∀ C s H ex,QEd (ah X scope cl (X.N++extra) C s H ex) elt te)
  (hs:∀ x,foldedSetIterable i0 X.env x=pure x:=by intro _;rfl) (hs1:∀ C x,foldedSetIterable i1 (compEnvC scope cl C X.env) x=pure x:=by intro _ _;rfl) (hs2:∀ C x,foldedSetIterable i2 (compEnvC scope cl C X.env) x=pure x:=by intro _ _;rfl) :
  QEd X (.ListComp elt [⟨t0,i0,f0,0⟩,⟨t1,i1,f1,0⟩,⟨t2,i2,f2,0⟩] scope pos) (BF ms extra.length w0 g0 tc0 w1 g1 tc1 w2 g2 tc2 te):=by
 simp only[QEd.eq,QId.eq,QIf.eq]at *
 exact Dt S hcalm hi hg0 hif0 hi1 hg1 hif1 hi2 hg2 hif2 he hs hs1 hs2
end
/-! the Q forms of the rules for boxes,keys,instances -/
section
variable {X:Cx} {e i o l:Expr} {es:List Expr} {te ti to:TEd} {t:TAd} {pos p pos' apos cpos:Pos} {f x:Str} {C:Addr} {elts:List Expr} {x1:Nat} {pt:Pos}
theorem wy (h:QEd X e te):QEd X e (Bt te):=by simp only[QEd.eq]at *;exact D1 h
theorem tV {x1} (h:QAd X es t):QEd X (.Tuple es x1 pos) (vN t):=by simp only[QEd.eq,QAd.eq]at *;exact EU h
theorem rq (hu:X.A.units+1<cLine) (ho:QEd X o to) (hi:QEd X i ti) (hs:n5 i):QEd X (.Subscript o i pos) (sw to ti):=by simp only[QEd.eq]at *;exact Ci hu ho hi hs
theorem AE (hu:X.A.units+1<cLine) (ho:QEd X o to) (hi:QEd X i ti) (hs:n5 i):QEd X (.Subscript o i pos) (vB to ti):=by simp only[QEd.eq]at *;exact CW hu ho hi hs
theorem rZ (hu:X.A.units+1<cLine) (ho:QEd X o to) (hi:QEd X i ti) (he:QEd X e te) (hs:swapsWith e (some (.Subscript o i p)) pos.line X.env=pure false:=by rfl):QSd X (.Assign [.Subscript o i p] e pos) (pQ to ti te):=by simp only[QEd.eq,QSd.eq]at *;exact BT hu ho hi he hs
theorem sN (hu:X.A.units+1<cLine) (ho:QEd X o to) (hi:QEd X i ti) (he:QEd X e te) (m:M2 X o "get" apos i e cpos):QEd X (.Call (.Attribute o "get" apos) [i,e] [] cpos) (oP to ti te):=by simp only[QEd.eq]at *;exact zD hu ho hi he m
theorem yG (hu:X.A.units+1<cLine) (ho:QEd X o to) (hi:QEd X i ti) (he:QEd X e te) (m:M2 X o "get" apos i e cpos):QEd X (.Call (.Attribute o "get" apos) [i,e] [] cpos) (rT to ti te):=by simp only[QEd.eq]at *;exact yn hu ho hi he m
theorem gR (c:Cls X.K C) (n:ck X.K C f) (he:QEd X e te) (hb:attributeBase e f X.env (eval e X.env)=eval e X.env:=by rfl):QEd X (.Attribute e f pos) (uO C f te):=by simp only[QEd.eq]at *;exact D8 c n he hb
theorem oI (c:Cls X.K C) (n:ck X.K C f) (ho:QEd X o to) (he:QEd X e te) (hs:swapsWith e (some (.Attribute o f pos')) pos.line X.env=pure false:=by rfl):QSd X (.Assign [.Attribute o f pos'] e pos) (wk C f to te):=by simp only[QEd.eq,QSd.eq]at *;exact CP c n ho he hs
theorem AI {k n:Nat} {S:SpD} (F:MkD X.prog X.w X.K X.mg X.base x C k n S) (hr:bP (k+1) X.A) (hg:Gl X x) (ha:QAd X (e::es) t) (hdb:(x==("__debug__":Str))=false:=by decide)
  (he:starEach (e::es) X.env=(false,eval e X.env)::starEach es X.env:=by rfl) (hpl:(backTo pos (starEach es X.env)).any (·.1)=false:=by rfl):QEd X (.Call (.Name x p) (e::es) [] pos) (vU C n S t):=by simp only[QEd.eq,QAd.eq]at *;exact CG F hr hg ha hdb he hpl
theorem Cd (h:QEd X e te):QEd X e (tW te):=by simp only[QEd.eq]at *;exact CV h
theorem Az (h:QEd X e te):QEd X e (t6 te):=by simp only[QEd.eq]at *;exact CQ h
theorem wW (he:QEd X l te) (hbase:attributeBase l "items" X.env (eval l X.env)=eval l X.env:=by rfl) (hline:(apos.endLine==cpos.line)=true:=by rfl):QId X (.Tuple elts x1 pt) (.Call (.Attribute l "items" apos) [] [] cpos) (sI te):=by simp only[QEd.eq,QId.eq]at *;exact DX he hbase hline
theorem Cn (he:QEd X l te) (hbase:attributeBase l "items" X.env (eval l X.env)=eval l X.env:=by rfl) (hline:(apos.endLine==cpos.line)=true:=by rfl):QId X (.Tuple elts x1 pt) (.Call (.Attribute l "items" apos) [] [] cpos) (xl te):=by simp only[QEd.eq,QId.eq]at *;exact DI he hbase hline
end
/-! ### reversed(list),the list a value that stays -/
def FL (a:Addr) (xs:List V):It :=
 ⟨fun i H=>H a=some (.lst xs)/\i<xs.length,fun i H x H'=>H'=H/\xs[xs.length-1-i]?=some x,fun i _=>xs.length<=i⟩
theorem uo {P:Program} {w:World} {K:PySem.W.Frag} {tg:Expr} (a it:Addr) (xs:List V):gJ P w K tg (FL a xs) [it] it (fun i h=>i<=xs.length/\h.IsRevIter it a ((xs.length:Int)-1-(i:Int))) where
 mem:=by simp
 obj:=fun i h st b hb=>by
  have e:b=it:=by simpa using hb
  subst e
  obtain⟨_,o,e,c,d⟩:=st
  exact⟨o,e,fun v z=>by rw[d]at z;cases z⟩
 keep:=fun i h h' st k=>⟨st.1,st.2.at fun o e=>k it (by simp) o e⟩
 item:=by
  intro X hP hw hK hc i pins s σ H E I hf st hg
  subst hP hw hK
  obtain⟨hq,hi⟩:=hg
  obtain⟨hz,its,nn,rv,p⟩:=I.hok a _ hq
  have hlen:=rv.length
  have hxi:xs.length-1-i<xs.length:=by omega
  obtain⟨u,hu,ru⟩:=rv.get (show xs[xs.length-1-i]?=some xs[xs.length-1-i]by simp[hxi])
  obtain⟨f0,f1,f2,f3,f4,f5⟩:=hf it (by simp)
  have ei:(xs.length:Int)-1-(i:Int)=((xs.length-1-i:Nat):Int):=by omega
  have st2:=st.2
  rw[ei]at st2
  refine wpAny_pyNext_rev_item st2 (items:=its.toArray) ⟨_,p,rfl,nn,rfl⟩ (x:=u) (by simpa using hu) fun h' st' sb=>?_
  have I1:Inv X pins σ H { s with heap:=h' }:=I.turned (t':=s.toks) (fun b o hb e=>(sb.2 b hb).trans e) f0 f1 f3 f4 f5
  obtain⟨o,e,c,d⟩:=id st'
  have e2:((xs.length-1-i:Nat):Int)-1=(xs.length:Int)-1-((i+1:Nat):Int):=by omega
  rw[e2]at st'
  exact⟨u,rfl,nQ (s:={ s with heap:=h' }) e c d (by decide) ⟨xs[xs.length-1-i],H,I1,ru,⟨rfl,by simp[hxi]⟩,⟨hi,st'⟩,fun b hb=>(hf b hb).1⟩⟩
 done:=by
  intro X hP hw hK hc i pins s σ H E I hf st hg
  subst hP hw hK
  obtain⟨f0,f1,f2,f3,f4,f5⟩:=hf it (by simp)
  have e:i=xs.length:=Nat.le_antisymm st.1 hg
  subst e
  have st2:=st.2
  rw[show(xs.length:Int)-1-(xs.length:Int)=-1 by omega]at st2
  exact wpAny_pyNext_rev_end (I.ok.hd hc) st2 fun h' eb=>⟨rfl,I.turned (t':=s.toks) (fun b o hb e=>eb b o hb e) f0 f1 f3 f4 f5⟩
 self:=fun _ _ _ _ _ st h=>wpAny_pyIter_revIter st.2 h
section
variable {X:Cx} {a b c e o i:Expr} {es:List Expr} {te ta tb to ti:TEd} {t:TAd} {pos:Pos} {tg iter:Expr}
def si (ta:TAd):TId:=fun Δ M R=>ta Δ M fun ds M1=>∃ es,ds=[.lst es]/\(es.length<=sizeLine->R es.reverse M1)
theorem Bu {p:Pos} (hg:Gl X "reversed") (hm:X.mg "reversed"=none) (ha:PAd X [a] t) (hs:starEach [a] X.env=[(false,eval a X.env)]:=by rfl):PId X tg (.Call (.Name "reversed" p) [a] [] pos) (si t):=by
 intro pins s σ H R I hh
 obtain⟨Δ,M,R',sr,hr,q,k⟩:=hh
 refine Call_ (h7 I hg hm mw (PyProof.Rows.callWith_type1 (thn (ha pos pins s σ H (fun vs H1=>∃ es M1,af X.K M1 H1 [.lst es] vs/\(es.length<=sizeLine->R' es.reverse M1)/\Ext M H M1 H1/\HR X.K M1 H1) I ⟨Δ,M,_,sr,hr,q,fun ds M1 vs H1 ⟨es,ed,q1⟩ e1 hr1 rv=>⟨es,M1,by rw[<-ed];exact rv,q1,e1,hr1⟩⟩) fun us s1 ⟨vs,H1,I1,r1,es,M1,rv,q1,e1,hr1⟩=>?_) hs))
 obtain⟨v,rfl,rt⟩:=rv.one
 cases r1 with
 |cons r rr =>
  cases rr
  simp only[Rep]at rt
  obtain⟨ad,vs,rfl,ta,rl⟩:=rt
  cases r
  obtain⟨hz,its,nn,rvv,pt⟩:=I1.hok ad _ ta.1
  have hl1:=rvv.length
  have hl2:=rl.length
  refine call_reversed_list (items:=its.toArray) ⟨_,pt,rfl,nn,rfl⟩ ?_
  refine wpAny_pyIter_revIter (l:=ad) (i:=(its.toArray.size:Int)-1) ⟨_,Heap.get?_push_size _ rfl,rfl,rfl⟩ ?_
  refine⟨s1.heap.objs.size,[s1.heap.objs.size],_,_,H1,rfl,I1.kept (t':=s1.toks) fun b o e=>Heap.get?_push_of_some _ e,uo ad _ vs,⟨Nat.zero_le _,_,Heap.get?_push_size _ rfl,rfl,?_⟩,oX (o:=default) I1,?_⟩
  ·show Data.fields _=_
   have e1:(its.toArray.size:Int)-1=(vs.length:Int)-1-((0:Nat):Int):=by simp;omega
   rw[e1]
  ·refine k _ M1 _ H1 (q1 (by omega)) e1 hr1 fun M2 H2 e2 hr2 i=>⟨fun d hd=>?_,fun hl=>by show vs.length<=i;rw[<-hl2];simpa using hl⟩
   have hi:i<es.length:=by
    have:=(List.getElem?_eq_some_iff.mp hd).1
    simpa using this
   rw[List.getElem?_reverse hi]at hd
   obtain⟨v,gv,r⟩:=rl.get hd
   refine⟨⟨(ta.ext e2).1,by omega⟩,fun x H' ⟨eH,y⟩=>?_⟩
   subst eH
   rw[<-hl2,gv]at y;cases y
   exact⟨Ext.refl _ _,hr2,r.ext e2⟩
theorem zi {p:Pos} (hg:Gl X "reversed") (hm:X.mg "reversed"=none) (ha:QAd X [a] t) (hs:starEach [a] X.env=[(false,eval a X.env)]:=by rfl):QId X tg (.Call (.Name "reversed" p) [a] [] pos) (si t):=by
 simp only[QAd.eq,QId.eq]at *
 exact Bu hg hm ha hs
/-! ### d[k],k a tuple of the text or any other that is known -/
theorem B8 {pins:List (Addr×Obj)} {σ:St} {H:Hp} {s:Shared} {b:Addr} {ks:List Key} (I:Inv X pins σ H s) (h:SqT X.K H b (ks.map kV)):(tupleKind (aJ X.prog X.w)).is s.heap ks b:=by
 obtain⟨its,r,p,_⟩:=I.tuple h
 obtain⟨ob,h1,h2,n,h3⟩:=p
 exact⟨ob,its.toArray,n,h1,h2,h3,by simpa using jC r⟩
def C0 (K:PySem.W.Frag) (td ty:TE):TE:=fun σ H Q=>td σ H fun x H1=>ty σ H1 fun y H2=>∃ a b kvs k v,x=.ref a/\y=.ref b/\Rd H2 a (.dT kvs)/\SqT K H2 b (k.map kV)/\eM kvs k=some v/\Q v H2
theorem xI {td ty:TE} (hu:X.A.units+1<cLine) (ho:PE X o td) (hi:PE X i ty) (hs:n5 i):PE X (.Subscript o i pos) (C0 X.K td ty):=by
 intro pins s σ H Q I h
 refine tL PySem.F.slot_dict_getitem.lookup hs (thn (ho pins s σ H _ I h) fun u s1 ⟨x,H1,I1,rx,q1⟩=>thn (hi pins s1 σ H1 _ I1 q1) fun iv s2 ⟨y,H2,I2,ry,a,b,kvs,k,v,ex,ey,e,eb,l,q2⟩=>?_)
 subst ex;subst ey
 obtain rfl:u=Value.ref a:=rx
 cases(show iv=Value.ref b from ry)
 obtain⟨z,hd,xs,rel,dd⟩:=jL I2.hok e
 refine⟨dd.typeIs,?_⟩
 obtain⟨w',hw,rw'⟩:=gF.some_of (v:=v) (o:=(atKey xs k).map (·.2)) (by rw[<-l];exact rel.val k)
 obtain⟨p,hp,hp2⟩:=Option.map_eq_some_iff.mp hw
 refine wpAny_getItem_heap (tupleKind_room_in1 hu) (B8 I2 eb) dd hp ?_
 rw[hp2]
 exact⟨v,H2,I2.tok _,rw',q2⟩
def wz (to ti:TEd):TEd:=fun Δ M Q=>to Δ M fun x M1=>ti Δ M1 fun y M2=>∃ kvs ks d,asT M2 x=some kvs/\y=.tup (ks.map kD)/\aX kvs ks=some d/\Q d M2
theorem CH (hu:X.A.units+1<cLine) (ho:PEd X o to) (hi:PEd X i ti) (hs:n5 i):PEd X (.Subscript o i pos) (wz to ti) :=
 PE.conv (xI hu ho hi hs) fun σ H Q ⟨Δ,M,R,sr,hr,q,k⟩=>⟨Δ,M,_,sr,hr,q,fun x M1 v H1 q1 e1 hr1 rv=>⟨Δ,M1,_,sr.ext e1,hr1,q1,fun y M2 u H2 ⟨kvs,ky,d,ea,ey,ed,q2⟩ e2 hr2 ru=>by
  subst ey
  obtain⟨a,ks,rfl,h2,kr⟩:=kB hr2 (rv.ext e2) ea
  simp only[Rep]at ru
  obtain⟨b,vs,rfl,tb,rl⟩:=ru
  obtain⟨w,hw,rw_⟩:=(kr.val ky).1 d ed
  refine⟨a,b,ks,ky,w,rfl,rfl,h2,?_,hw,k d M2 w H2 q2 (e1.trans e2) hr2 rw_⟩
  rw[<-jd rl];exact tb.sq⟩⟩
theorem AD (hu:X.A.units+1<cLine) (ho:QEd X o to) (hi:QEd X i ti) (hs:n5 i):QEd X (.Subscript o i pos) (wz to ti):=by simp only[QEd.eq]at *;exact CH hu ho hi hs
end
/-! ### {k: v},k a tuple at hand -/
section
variable {X:Cx} {a b:Expr} {ta tb:TEd} {tk tv:TE} {pos:Pos}
def AX (tk tv:TE):TE:=fun σ H Q=>∀ p,H p=none->tk σ (upd H p (.dT [])) fun x H1=>tv σ H1 fun y H2=>∃ b ks,x=.ref b/\H2 p=some (.dT [])/\H2 b=some (.tup (ks.map kV))/\Q (.ref p) (upd H2 p (.dT [(ks,y)]))
theorem wC (hu:X.A.units+1<cLine) (hk:PE X a tk) (hv:PE X b tv):PE X (.Dict [some a] [b] pos) (AX tk tv):=by
 intro pins s σ H Q I q
 have hn:=I.hok.fresh (Nat.le_refl s.heap.objs.size)
 have I1:=I.laid (a:=s.heap.objs.size) (o:=.dT []) (h':=s.heap.push { cls:=.type "dict",data:=.dict #[] }) (t':=s.toks) (fun _ _ q=>Heap.get?_push_of_some _ q) (Nat.le_refl _) (qD s.heap I.big)
 refine wpAny_Dict_any rfl rfl (by simp) (by simp) (pairTrees_cons_walk (thn (hk pins _ σ _ _ I1 (q _ hn)) fun u s1 ⟨x,H1,I2,rx,q1⟩=>thn (hv pins s1 σ H1 _ I2 q1) fun w2 s2 ⟨y,H2,I3,ry,bb,ks,ex,ep,eb,q2⟩=>pairTrees_nil_walk ?_))
 subst ex
 cases(show u=Value.ref bb from rx)
 obtain⟨z,hd,xs,rel,dd⟩:=Au I3.hok ep
 have hx0:xs=[]:=by cases rel;rfl
 subst hx0
 unfold storeAll
 simp only[List.forIn_cons,List.forIn_nil]
 refine wpAny_bind (wpAny_bind (wpAny_dictSet_heap (knd:=tupleKind (aJ X.prog X.w)) (hsz:=by simp) (by show X.A.units<cLine;omega) (ib I3.hok eb) dd fun h' dd' hs=>wpAny_pure (wpAny_pure ?_)))
 obtain⟨qo,es,epo,hq,h2,h3,h4,_,h5⟩:=dd'
 have hput:dg ([]:List (List Key×V)) ks y=[(ks,y)]:=rfl
 have I4:=iA (t':=s2.toks+(tupleKind (aJ X.prog X.w)).draws ks) (ob:=.dT (dg [] ks y)) I3 (by rw[ep];exact True.intro) hs ⟨qo,hq⟩ ⟨by rw[hput,sizeLine_eq,List.length_singleton];decide,hd,_,(rel.put ks eb ry).keeps fun c ys ec=>by
  rw[aA (Ap ec ep (fun z=>nomatch z))]
  exact ec,qo,es,epo,hq,h2,h3,h4,h5⟩
 rw[hput]at I4
 exact⟨.ref s.heap.objs.size,_,I4,rfl,q2⟩
def se (tk tv:TEd):TEd:=fun Δ M Q=>∀ p,M p=none->tk Δ (al M p (.dT [])) fun x M1=>tv Δ M1 fun y M2=>∃ ks,x=my ks/\M2 p=some (.dT [])/\Q (.ref p) (al M2 p (.dT [(ks,y)]))
theorem z5 (hu:X.A.units+1<cLine) (ha:PEd X a ta) (hb:PEd X b tb):PEd X (.Dict [some a] [b] pos) (se ta tb) :=
 PE.conv (wC hu ha hb) fun σ H Q ⟨Δ,M,R,sr,hr,q,k⟩=>fun p hp=>by
  have e0:Ext M H (al M p (.dT [])) (upd H p (.dT [])):=Ext.own hp
  refine⟨Δ,_,_,sr.ext e0,hr.put e0 ⟨[],ax,.nil⟩,q p (hr.fresh hp),fun x M1 v H1 q1 e1 hr1 rv=>⟨Δ,M1,_,(sr.ext e0).ext e1,hr1,q1,fun y M2 u H2 ⟨ky,ex,em,q2⟩ e2 hr2 ru=>?_⟩⟩
  subst ex
  obtain⟨ks,h2,kr⟩:=hr2 p _ em
  cases kr
  obtain⟨bb,rfl,hb⟩:=il (rv.ext e2)
  have ew:Ext M2 H2 (al M2 p (.dT [(ky,y)])) (upd H2 p (.dT [(ky,u)])):=Ext.write em
  exact⟨bb,ky,rfl,h2,hb,k _ _ _ _ q2 ((e0.trans (e1.trans e2)).trans ew) (hr2.put ew ⟨_,ax,.cons ⟨rfl,ru.ext ew⟩ .nil⟩) (by simp only[Rep])⟩
theorem zz (hu:X.A.units+1<cLine) (ha:QEd X a ta) (hb:QEd X b tb):QEd X (.Dict [some a] [b] pos) (se ta tb):=by simp only[QEd.eq]at *;exact z5 hu ha hb
end
/-! ### list(d),d a box;max(l),l a list of ints -/
def sU:D->Option D
 |.box (.dk ks) _=>some (.lst (ks.map kD))
 |_=>none
theorem tm {kvs:List (Key×D)}:sU (oi kvs)=some (.lst (kvs.map fun p=>kD p.1)):=by
 show some (D.lst ((kvs.map (·.1)).map kD))=_
 rw[List.map_map];rfl
theorem nt {P:Program} {w:World}:∀ {ks:List (Key×V)} {us:List Value},us.length=ks.length->(∀ (j:Nat) (v:Value),us[j]?=some v->∃ k x,ks[j]?=some (k,x)/\ap (kV k) v)->aq (ks.map fun p=>kV p.1) us
 |[],us,h,_=>by
  have:us=[]:=List.eq_nil_of_length_eq_zero h
  subst this;exact .nil
 |_::_,[],h,_=>by cases h
 |p::ks,u::us,h,hh=>by
  rw[List.map_cons]
  obtain⟨k,x,e,r⟩:=hh 0 u rfl
  cases e
  exact .cons r (nt (P:=P) (w:=w) (Nat.succ.inj h) fun j v hv=>hh (j+1) v (by simpa using hv))
section
variable {X:Cx}
theorem rY (hc:X.calm=true):cS X (.type "list") (fun xs H Q=>∃ p ks o,xs=[.ref p]/\H p=some (.frz o (.dK ks))/\∀ l,H l=none->Q (.ref l) (upd H l (.lst (ks.map fun p=>kV p.1)))):=by
 intro pins s σ H xs us Q I r h
 obtain⟨p,ks,o,rfl,hq,q⟩:=h
 obtain⟨u,rfl,rx⟩:=kP r
 cases rx
 obtain⟨ho,hz,hs,vs,rel,o',es,ep,q',c,hd,hr⟩:=I.hok p _ hq
 have da:s.heap.DictAt (aJ X.prog X.w) p vs ep:=⟨o',es,q',c,hd,hr⟩
 have hl:ks.length=vs.length:=rel.length
 refine PySem.W.kdl_call (PySem.W.kdl_dict (knd:=aJ X.prog X.w) (kvs:=vs) (ep:=ep) hs) (I.ok.hd hc) da (by rw[<-hl];exact hz) fun h' tk acc' c' kp e items=>?_
 have hv:aq (ks.map fun p=>kV p.1) acc'.toList:=nt (P:=X.prog) (w:=X.w) (by rw[Array.length_toList,items.1,hl]) fun j v hj=>by
  obtain⟨k,x,hx,hk⟩:=items.2 j v (by rw[<-Array.getElem?_toList];exact hj)
  have hjl:j<ks.length:=by rw[hl];exact(List.getElem?_eq_some_iff.mp hx).1
  obtain⟨y,hy,ek,_⟩:=dj rel j ks[j] (by simp[hjl])
  rw[hx]at hy;cases hy
  refine⟨k,ks[j].2,?_,tZ hk⟩
  rw[List.getElem?_eq_getElem hjl]
  have e2:ks[j].1=k:=ek
  rw[<-e2]
 exact⟨.ref s.heap.objs.size,_,I.laid (t':=tk) kp (Nat.le_refl _) (show bL X.prog X.w _ h' _ (.lst _)from⟨by rw[List.length_map];exact hz,acc'.toList,c',hv,e⟩),rfl,q _ (I.hok.fresh (Nat.le_refl _))⟩
theorem nF {K:PySem.W.Frag} {M:DH} {H:Hp}:∀ {ks:List Key} {vs:List V},ks.length=vs.length->af K M H (ks.map kD) ((ks.zip vs).map fun p=>kV p.1)
 |[],vs,_=>by simp only[List.map_nil,List.zip_nil_left];exact af.nil
 |k::ks,[],h=>by cases h
 |k::ks,v::vs,h=>by
  rw[List.map_cons,List.zip_cons_cons,List.map_cons]
  exact af.cons ij (nF (Nat.succ.inj h))
theorem zu (hc:X.calm=true):bi X (.type "list") (iE sU):=bi.of (rY hc) fun H M xs ds dz Q hr rp e q=>by
 obtain⟨d,rfl,e0⟩:=bY e
 clear e
 obtain⟨v,rfl,r⟩:=iR rp
 cases d with
 |box t ds =>
  cases t with
  |dk ks =>
   cases e0
   simp only[au,Rep,fF]at r
   obtain⟨a,vs,rfl,⟨hl,⟨o,ha⟩,_⟩,rl⟩:=r
   exact⟨a,_,o,rfl,ha,fun l hl'=>jz hr hl' (nF hl) q⟩
  |_=>cases e0
 |_=>cases e0
def yI:List Int->Option Int
 |[]=>none
 |n::ns=>some (ns.foldl max n)
theorem jh:∀ (ns:List Int) (n:Int),(∀ a∈n::ns,a<=ns.foldl max n)/\ns.foldl max n∈n::ns
 | [],n => ⟨fun a h => by
   rw[List.mem_singleton.mp h]
   exact Int.le_refl _,List.mem_cons_self⟩
 |m::ns,n=>by
  obtain⟨h1,h2⟩:=jh ns (max n m)
  rw[List.foldl_cons]
  have h3:=h1 (max n m) (.head _)
  refine⟨fun a h=>?_,?_⟩
  ·rcases List.mem_cons.mp h with e|h
   ·omega
   ·rcases List.mem_cons.mp h with e|h
    ·omega
    ·exact h1 a (.tail _ h)
  ·rcases List.mem_cons.mp h2 with e|h
   ·by_cases c:n<=m
    ·have:ns.foldl max (max n m)=m:=by omega
     rw[this];exact .tail _ (.head _)
    ·have:ns.foldl max (max n m)=n:=by omega
     rw[this];exact .head _
   ·exact .tail _ (.tail _ h)
def yz:D->Option D
 |.lst ds=>((fu ds).bind yI).map D.int
 |_=>none
theorem AO {ns:List Int}:yz (.lst (ns.map D.int))=(yI ns).map D.int:=by simp only[yz,lW,Option.bind_some]
theorem Bl (hc:X.calm=true):bi X (.builtin "max") (iE yz):=by
 intro pins s σ H M xs us ds dz Q I hr rv rp e k
 obtain⟨d,rfl,e0⟩:=bY e
 clear e
 obtain⟨v,rfl,r⟩:=iR rp
 obtain⟨u,rfl,ru⟩:=aq.one rv
 cases d with
 |lst ds =>
  simp only[yz]at e0
  cases q:fu ds with
  |none=>rw[q]at e0;cases e0
  |some ns =>
   rw[q]at e0
   cases ns with
   |nil=>cases e0
   |cons n ns =>
    cases e0
    obtain⟨l,vs,rfl,sq,rl⟩:=r
    cases ru
    obtain⟨its,rv,pl,hz⟩:=I.list (SqL.of sq)
    obtain⟨ys,e1,e2⟩:=nI q rl rv
    have hsz:0<ys.size:=by
     have h:=congrArg List.length e2
     simp at h;omega
    refine max_intList (xs:=ys) (I.ok.hd hc) (by rw[<-e1];exact pl.isList) hsz fun v h' tk hv kk=>?_
    obtain⟨t,rfl⟩:=intItems_at hv
    obtain⟨h1,h2⟩:=argBest_gt (numAt ys) (ys.size-1)
    have I1:Inv X pins σ H { s with heap:=h',toks:=tk }:=I.kept (t':=tk) kk
    refine⟨.int _,H,I1,⟨_,rfl⟩,k _ H (Ext.refl _ _) hr ?_⟩
    obtain⟨m1,m2⟩:=jh ns n
    have e3:∀ j,j<ys.size->numAt ys j∈n::ns:=fun j hj=>by
     rw[numAt_eq,e2]
     exact getD_mem (by rw[<-e2,List.length_map,Array.length_toList];exact hj)
    have a1:=m1 _ (e3 _ (Nat.lt_of_le_of_lt h1 (by omega)))
    have a2:ns.foldl max n<=numAt ys (argBest (fun i j=>decide (numAt ys i > numAt ys j)) (ys.size-1)):=by
     rw[<-e2]at m2
     obtain⟨j,hj,ej⟩:=mem_getD m2
     rw[List.length_map,Array.length_toList]at hj
     rw[<-ej,<-numAt_eq]
     exact h2 j (by omega)
    have:numAt ys (argBest (fun i j=>decide (numAt ys i > numAt ys j)) (ys.size-1))=ns.foldl max n:=Int.le_antisymm a1 a2
    rw[this]
    simp[Rep]
 |_=>cases e0
end
def Ez (s:Stmt) (i:Nat):Stmt:=match s with
 |.ClassDef _ _ _ b _ _ _ _ _ _ _=>b.getD i (.Pass ⟨0,0,0,0⟩)
 |_=>.Pass ⟨0,0,0,0⟩
def xo (K:PySem.W.Frag) (mg:Str->Option Value) (x:Str) (ks:List Key):Prop:=∃ a,mg x=some (.ref a)/\SqT K (fun _=>none) a (ks.map kV)
section
variable {X:Cx} {x:Str} {ks:List Key} {pos:Pos}
theorem zO (hg:Gl X x) (hm:xo X.K X.mg x ks) (hd:(x==("__debug__":Str))=false:=by decide):PEd X (.Name x pos) (dC (.tup (ks.map kD))):=by
 obtain⟨a,h1,h2⟩:=hm
 refine PE.conv (ot (v:=.ref a) hg h1 rfl hd) fun σ H Q ⟨Δ,M,R,sr,hr,q,k⟩=>?_
 refine k _ M _ H q (Ext.refl _ _) hr ?_
 simp only[Rep]
 exact⟨a,_,rfl,.inr h2,n8 ks⟩
theorem t5 (hg:Gl X x) (hm:xo X.K X.mg x ks) (hd:(x==("__debug__":Str))=false:=by decide):QEd X (.Name x pos) (dC (.tup (ks.map kD))):=by
 simp only[QEd.eq]at *
 exact zO hg hm hd
end
/-! int(b) -/
def C4:D->Option D
 |.int i=>some (.int i)
 |.bl k=>some (.int (if k then 1 else 0))
 |_=>none
theorem BX {k:Bool}:C4 (.bl k)=some (.int (if k then 1 else 0)):=rfl
theorem EK {X:Cx}:bi X (.type "int") (iE C4):=bi.of u4 fun H M xs ds dz Q hr rp e q=>by
 obtain⟨d,rfl,e0⟩:=bY e
 clear e
 obtain⟨v,rfl,r⟩:=iR rp
 cases d with
 |int i=>cases e0;rw[fS r];exact .inl ⟨i,rfl,q _ H (Ext.refl _ _) hr (by simp[Rep])⟩
 |bl k=>cases e0;rw[rBl r];exact .inr ⟨k,rfl,q _ H (Ext.refl _ _) hr (by simp[Rep])⟩
 |_=>cases e0
/-! ### sorted of texts -/
def ltS (a b:Str):Bool:=decide (a.cps.toList<b.cps.toList)
def leS (a b:Str):Bool:=!ltS b a
theorem xN {a b:Str} (h:a.cps.toList=b.cps.toList):a=b:=by
 cases a;cases b
 simp only[Str.mk.injEq]
 exact Array.toList_inj.mp h
theorem tS (a:Str):ltS a a=false:=decide_eq_false (List.lt_irrefl _)
theorem jF {a b c:Str} (h1:ltS a b=true) (h2:ltS b c=true):ltS a c=true:=decide_eq_true (List.lt_trans (of_decide_eq_true h1) (of_decide_eq_true h2))
theorem oZ {a b:Str} (h1:ltS a b=false) (h2:ltS b a=false):a=b :=
 xN (List.le_antisymm (List.not_lt.mp (of_decide_eq_false h2)) (List.not_lt.mp (of_decide_eq_false h1)))
theorem sx {a b c:Str} (h:ltS a c=true):ltS a b=true∨ltS b c=true:=by
 cases h1:ltS a b with
 |true=>exact .inl rfl
 |false =>
  refine .inr ?_
  cases h2:ltS b a with
  |true=>exact jF h2 h
  |false=>rw[<-oZ h1 h2];exact h
def Fr:KeyOrd where
 α:=Str
 blt:=ltS
 irrefl:=tS
 trans _ _ _:=jF
 negTrans _ _ _:=sx
 total _ _:=oZ
theorem wv {a b:Str} (h1:leS a b=true) (h2:leS b a=true):a=b:=oZ (by simpa[leS]using h2) (by simpa[leS]using h1)
def aR (ps:List Str):List Str:=ps.mergeSort leS
theorem dv (ps:List Str):(aR ps).Perm ps:=List.mergeSort_perm _ _
theorem vm (ps:List Str):(aR ps).Pairwise fun a b=>leS a b=true :=
 List.pairwise_mergeSort (fun a b c h1 h2=>by
  simp only[leS,Bool.not_eq_true']at *
  cases h:ltS c a with
  |false=>rfl
  |true =>
   rcases sx (b:=b) h with z|z
   ·rw[h2]at z;cases z
   ·rw[h1]at z;cases z) (fun a b=>by
  cases h:leS a b with
  |true=>rfl
  |false =>
   have h':ltS b a=true:=by simpa[leS]using h
   cases h2:ltS a b with
   |false=>simp[leS,h2]
   |true=>have:=jF h' h2;rw[tS]at this;cases this) ps
theorem v7 {ps qs:List Str} (h:qs.Perm ps) (hs:qs.Pairwise fun a b=>leS a b=true):qs=aR ps :=
 List.Perm.eq_of_pairwise (le:=fun a b=>leS a b=true) (fun a b _ _ h1 h2=>wv h1 h2) hs (vm ps) (h.trans (dv ps).symm)
section
variable {X:Cx} {pins:List (Addr×Obj)} {s:Shared} {σ:St} {H:Hp} {M:DH}
theorem rU (ns:List Str):(List.range ns.length).map (fun i=>ns.getD i default)=ns:=by
 apply List.ext_getElem (by simp)
 intro i h1 h2
 simp[List.getElem?_eq_getElem h2]
theorem Ce {K:PySem.W.Frag} {ns:List Str} {vs:List V} {us:List Value} (rl:af K M H (ns.map D.str) vs) (rv:aq vs us) {i:Nat} (hi:i<ns.length):∃ t,us[i]?=some (.str ns[i] t):=by
 obtain⟨v,g,r⟩:=rl.get (i:=i) (d:=D.str ns[i]) (by simp[hi])
 obtain⟨u,g',r'⟩:=rv.get g
 simp only[Rep]at r
 subst r
 obtain⟨t,rfl⟩:=r'
 exact⟨t,g'⟩
theorem nk {K:PySem.W.Frag} {ns:List Str} {vs:List V} (rl:af K M H (ns.map D.str) vs):∀ {l:List Nat},(∀ i∈l,i<ns.length)->af K M H ((l.map fun i=>ns.getD i default).map D.str) (l.map fun i=>vs.getD i .non)
 |[],_=>rfl
 |i::l,h=>by
  have hi:=h i (.head _)
  obtain⟨v,g,r⟩:=rl.get (i:=i) (d:=D.str ns[i]) (by simp[hi])
  simp only[List.map_cons,af]
  refine⟨v,_,?_,?_,nk rl fun j hj=>h j (.tail _ hj)⟩
  ·rw[List.getD_eq_getElem?_getD,g];rfl
  ·rw[List.getD_eq_getElem?_getD,List.getElem?_eq_getElem hi];exact r
theorem vi (I:Inv X pins σ H s) (hr:HR X.K M H) {ns:List Str} (h64:ns.length<64) {l:Addr} {T:String} {o:Obj} {n:Nat} {vs:List V} {its:List Value} (rl:af X.K M H (ns.map D.str) vs) (rv:aq vs its) (hzv:vs.length<=sizeLine)
  (hT:T="list"∨T="tuple") (hg:s.heap.get? l=some o) (hcl:o.cls=.type T) (hd:o.data=.seq its.toArray n) {Q:VK}
  (k:∀ w H',Ext M H M H'->HR X.K M H'->Rep X.K M H' (.lst ((aR ns).map D.str)) w->Q w H'):wpAny (model X.prog X.w) X.A (call (.builtin "sorted") [.ref l]) (EP X pins σ Q) X.xe s:=by
 have hn:ns.length=its.length:=by rw[<-rv.length,<-rl.length,List.length_map]
 have at_:=fun i (hi:i<ns.length)=>Ce rl rv hi
 have key:∀ i (hi:i<ns.length),ns.getD i default=ns[i]:=fun i hi=>by rw[List.getD_eq_getElem?_getD,List.getElem?_eq_getElem hi];rfl
 refine um (O:=Fr) (key:=fun i=>ns.getD i default) (κ:=oneType') hT hg hcl hd (by omega) (fun s1 Q' two kp q=>?_) (fun i j s1 C hi hj kp q=>?_) fun h1 p x c h' kp0 hp hs hx kp ho=>?_
 ·exact PySem.W.kas_kind (T:=.type "str") two (fun v hv=>by
   obtain⟨i,hi⟩:=List.mem_iff_getElem?.mp hv
   have hi2:i<ns.length:=by rw[hn];exact(List.getElem?_eq_some_iff.mp hi).1
   obtain⟨t,g⟩:=at_ i hi2
   rw[g]at hi;cases hi
   exact PySem.W.Looks.of_pure rfl) rfl rfl q
 ·rw[<-hn]at hi hj
  obtain⟨t,g⟩:=at_ i hi
  obtain⟨u,g'⟩:=at_ j hj
  show wpAny _ _ (keyLt' _ _ _) _ _ _
  rw[ow g,ow g']
  refine PySem.W.kas_lt_str ?_
  have q':C (ltS (ns.getD i default) (ns.getD j default)) s1:=q
  rwa [key i hi,key j hj]at q'
 ·have hlt:∀ i∈p.toList,i<ns.length:=fun i hi=>by rw[hn];exact List.mem_range.mp (hp.mem_iff.mp hi)
  have hlv:vs.length=its.length:=rv.length
  have lo:(p.toList.map fun i=>vs.getD i .non).length=its.length:=by rw[List.length_map,Array.length_toList];exact hp.size
  have I1:Inv X pins σ H { s with heap:=h1,toks:=s.toks }:=I.kept kp0
  have I2:=I1.laid (t':=s.toks) (o:=.lst (p.toList.map fun i=>vs.getD i .non)) kp hx (show bL X.prog X.w _ h' x (.lst _)from⟨by rw[lo,<-hlv];exact hzv,i9 its p,c,nL rv (fun i hi=>by rw[hlv,<-hn];exact hlt i hi),ho⟩)
  have es:(p.toList.map fun i=>ns.getD i default)=aR ns:=by
   have hp':p.toList.Perm (List.range ns.length):=by rw[hn];exact hp
   have hm:=hp'.map fun i=>ns.getD i default
   rw[rU]at hm
   refine v7 hm ?_
   rw[List.pairwise_iff_getElem]
   intro i j hi hj hij
   have sz:p.size=its.length:=hp.size
   rw[List.length_map,Array.length_toList]at hi hj
   have:=hs i j (Nat.le_of_lt hij) (by omega)
   have e1:kp_ p i=p.toList[i]'(by simpa using hi):=by simp[kp_,Array.getD,hi]
   have e2:kp_ p j=p.toList[j]'(by simpa using hj):=by simp[kp_,Array.getD,hj]
   have g:leS (ns.getD (kp_ p i) default) (ns.getD (kp_ p j) default)=true:=by
    have z:ltS (ns.getD (kp_ p j) default) (ns.getD (kp_ p i) default)=false:=this
    simp only[leS,z,Bool.not_false]
   rw[e1,e2]at g
   simpa using g
  refine⟨.ref x,_,I2,rfl,jz hr (I1.hok.fresh hx) (nk rl hlt) fun w H' a b c=>?_⟩
  rw[es]at c
  exact k w H' a b c
def gO:List D->Option (List Str)
 |[]=>some []
 |.str x::ds=>(gO ds).map (x::·)
 |_=>none
theorem mM:∀ {ns:List Str},gO (ns.map D.str)=some ns
 |[]=>rfl
 |n::ns=>by simp[gO,mM (ns:=ns)]
theorem rG:∀ {ds:List D} {ns:List Str},gO ds=some ns->ds=ns.map D.str:=by
 intro ds
 induction ds using gO.induct with
 |case1=>intro ns e;cases e;rfl
 |case2 i ds ih =>
  intro ns e
  simp only[gO]at e
  cases q:gO ds with
  |none=>rw[q]at e;cases e
  |some ms=>rw[q]at e;cases e;rw[ih q];rfl
 |case3 ds h1 h2=>intro ns e;unfold gO at e;split at e<;>simp_all
def pZ:D->Option D
 |.lst ds=>if ds.length<64 then(gO ds).map fun ns=>.lst ((aR ns).map D.str)else none
 |_=>none
theorem tU {ns:List Str} (h:ns.length<64):pZ (.lst (ns.map D.str))=some (.lst ((aR ns).map D.str)):=by simp[pZ,mM,h]
theorem sT:bi X (.builtin "sorted") (iE pZ):=by
 intro pins s σ H M xs us ds dz Q I hr rv rp e k
 obtain⟨d,rfl,e0⟩:=bY e
 clear e
 obtain⟨v,rfl,r⟩:=iR rp
 obtain⟨u,rfl,ru⟩:=aq.one rv
 cases d with
 |lst ds =>
  obtain⟨l,vs,rfl,sq,rl⟩:=r
  cases ru
  obtain⟨its,rv,pl,hz⟩:=I.list (SqL.of sq)
  obtain⟨o,ho,hc,n,hd⟩:=pl.isList
  simp only[pZ]at e0
  split at e0
  ·rename_i h64
   cases q:gO ds with
   |none=>rw[q]at e0;cases e0
   |some ns =>
    rw[q]at e0;cases e0
    have:=rG q
    subst this
    exact vi I hr (by simpa using h64) rl rv hz (.inl rfl) ho hc hd fun w H' a b c=>k w H' a b c
  ·cases e0
 |_=>cases e0
end
section
variable {X:Cx}
/-! ### x not in xs,the things of any depth -/
def jI (x y:D):Option D:=match y with
 |.lst ds=>if dLe x 59=true/\bq ds 59=true then some (.bl (!(ds.any fun d=>eqD d x)))else none
 |.tup ds=>if dLe x 59=true/\bq ds 59=true then some (.bl (!(ds.any fun d=>eqD d x)))else none
 |_=>none
theorem vq {x:D} {ds:List D}:jI x (.lst ds)=if dLe x 59=true/\bq ds 59=true then some (.bl (!(ds.any fun d=>eqD d x)))else none:=rfl
theorem wK {x:D} {ds:List D}:jI x (.tup ds)=if dLe x 59=true/\bq ds 59=true then some (.bl (!(ds.any fun d=>eqD d x)))else none:=rfl
theorem qN {h:Heap} {a:Addr} {xs:Array Value} (p:IsTup h a xs):h.IsTuple a xs:=by
 obtain⟨o,h1,h2,n,h3⟩:=p
 exact⟨o,h1,h2,n,h3⟩
open Classical in
theorem pC (hu:X.A.units+64<cLine):bm X (compareOp .NotIn) jI:=by
 intro pins s σ H M x y v u dx dy dz Q I hr rx ry r1 r2 e k
 cases dy with
 |lst ds =>
  simp only[jI]at e
  by_cases hc:dLe dx 59=true/\bq ds 59=true
  ·rw[if_pos hc]at e;cases e
   obtain⟨l,vs,rfl,sq,rl⟩:=r2
   cases ry
   obtain⟨its,r,pl,hz⟩:=I.list (SqL.of sq)
   have hl:ds.length=its.length:=rl.length.trans r.length
   have at_:∀ j (h:j<ds.length) (h':j<its.length),PySem.SeqAt.EqAt X.A.in1 s its[j] v (eqD ds[j] dx):=fun j h h'=>by
    obtain⟨v1,g1,p1⟩:=rl.get (i:=j) (d:=ds[j]) (by simp[h])
    obtain⟨u1,k1,m1⟩:=r.get g1
    have e1:its[j]=u1:=by simpa[List.getElem?_eq_getElem h']using k1
    rw[e1]
    exact(lh I 59 (by show X.A.units+1+59<cLine;omega) (cQ hc.2 (i:=j) (by simp[h])) hc.1 p1.r r1 m1 rx).1
   refine SeqAt.notIn_listAt (fun w=>decide (∃ j,∃ h:j<ds.length,∃ h':j<its.length,its[j]=w/\eqD ds[j] dx=true)) pl.isList (fun w hw=>?_) ⟨.bl _,H,I,rfl,?_⟩
   ·obtain⟨i,hi,rfl⟩:=List.mem_iff_getElem.mp (show w∈its by simpa using hw)
    by_cases q:∃ j,∃ h:j<ds.length,∃ h':j<its.length,its[j]=its[i]/\eqD ds[j] dx=true
    ·rw[decide_eq_true q]
     obtain⟨j,h,h',q1,q2⟩:=q
     rw[<-q1,<-q2];exact at_ j h h'
    ·rw[decide_eq_false q]
     have:=at_ i (by omega) hi
     rwa [show eqD ds[i] dx=false from Bool.eq_false_iff.mpr fun z=>q ⟨i,by omega,hi,rfl,z⟩]at this
   ·have ea:its.toArray.any (fun w=>decide (∃ j,∃ h:j<ds.length,∃ h':j<its.length,its[j]=w/\eqD ds[j] dx=true))=ds.any fun d=>eqD d dx:=by
     rw[Bool.eq_iff_iff,List.any_toArray,List.any_eq_true,List.any_eq_true]
     constructor
     ·rintro⟨w,_,h⟩
      obtain⟨j,h1,_,_,h2⟩:=of_decide_eq_true h
      exact⟨ds[j],List.getElem_mem _,h2⟩
     ·rintro⟨d,hd,h⟩
      obtain⟨j,hj,rfl⟩:=List.mem_iff_getElem.mp hd
      exact⟨its[j],List.getElem_mem _,decide_eq_true ⟨j,hj,by omega,rfl,h⟩⟩
    rw[ea]
    exact k _ H (Ext.refl _ _) hr (by simp[Rep])
  ·rw[if_neg hc]at e;cases e
 |tup ds =>
  simp only[jI]at e
  by_cases hc:dLe dx 59=true/\bq ds 59=true
  ·rw[if_pos hc]at e;cases e
   obtain⟨l,vs,rfl,sq,rl⟩:=r2
   cases ry
   obtain⟨its,r,pl,hz⟩:=I.tuple sq
   have hl:ds.length=its.length:=rl.length.trans r.length
   have at_:∀ j (h:j<ds.length) (h':j<its.length),PySem.SeqAt.EqAt X.A.in1 s its[j] v (eqD ds[j] dx):=fun j h h'=>by
    obtain⟨v1,g1,p1⟩:=rl.get (i:=j) (d:=ds[j]) (by simp[h])
    obtain⟨u1,k1,m1⟩:=r.get g1
    have e1:its[j]=u1:=by simpa[List.getElem?_eq_getElem h']using k1
    rw[e1]
    exact(lh I 59 (by show X.A.units+1+59<cLine;omega) (cQ hc.2 (i:=j) (by simp[h])) hc.1 p1.r r1 m1 rx).1
   refine SeqAt.notIn_tupleAt (fun w=>decide (∃ j,∃ h:j<ds.length,∃ h':j<its.length,its[j]=w/\eqD ds[j] dx=true)) (qN pl) (fun w hw=>?_) ⟨.bl _,H,I,rfl,?_⟩
   ·obtain⟨i,hi,rfl⟩:=List.mem_iff_getElem.mp (show w∈its by simpa using hw)
    by_cases q:∃ j,∃ h:j<ds.length,∃ h':j<its.length,its[j]=its[i]/\eqD ds[j] dx=true
    ·rw[decide_eq_true q]
     obtain⟨j,h,h',q1,q2⟩:=q
     rw[<-q1,<-q2];exact at_ j h h'
    ·rw[decide_eq_false q]
     have:=at_ i (by omega) hi
     rwa [show eqD ds[i] dx=false from Bool.eq_false_iff.mpr fun z=>q ⟨i,by omega,hi,rfl,z⟩]at this
   ·have ea:its.toArray.any (fun w=>decide (∃ j,∃ h:j<ds.length,∃ h':j<its.length,its[j]=w/\eqD ds[j] dx=true))=ds.any fun d=>eqD d dx:=by
     rw[Bool.eq_iff_iff,List.any_toArray,List.any_eq_true,List.any_eq_true]
     constructor
     ·rintro⟨w,_,h⟩
      obtain⟨j,h1,_,_,h2⟩:=of_decide_eq_true h
      exact⟨ds[j],List.getElem_mem _,h2⟩
     ·rintro⟨d,hd,h⟩
      obtain⟨j,hj,rfl⟩:=List.mem_iff_getElem.mp hd
      exact⟨its[j],List.getElem_mem _,decide_eq_true ⟨j,hj,by omega,rfl,h⟩⟩
    rw[ea]
    exact k _ H (Ext.refl _ _) hr (by simp[Rep])
  ·rw[if_neg hc]at e;cases e
 |_=>cases e
end
section
variable {X:Cx} {e:Expr} {t:TEd}
/-! ### an expression that leaves everything as it is: all that is ours is lent to it -/
def ww (t:TEd):TEd:=fun Δ M Q=>t (Δ.map (Option.map (rdM M))) noM fun d M2=>noL d=true/\M2=noM/\Q d M
theorem SR.lend {K:PySem.W.Frag} {M:DH} {H:Hp} {σ:St} {Δ:DE} (sr:SR K M H σ Δ) (hr:HR K M H):SR K noM H σ (Δ.map (Option.map (rdM M))):=by
 refine⟨by rw[List.length_map];exact sr.1,fun i d hd=>?_⟩
 rw[List.getElem?_map]at hd
 cases hx:Δ[i]? with
 |none=>rw[hx]at hd;cases hd
 |some o =>
  rw[hx]at hd
  cases o with
  |none=>cases hd
  |some d0 =>
   have e0:rdM M d0=d:=by simpa using hd
   subst e0
   obtain⟨v,ev,rv⟩:=sr.2 i d0 hx
   refine⟨v,ev,?_⟩
   have:=lD hr LeM.no (p6 (ds:=[d0])) (af.cons rv af.nil)
   simp only[List.map_cons,List.map_nil,af]at this
   obtain⟨w,ws,q,h1,_⟩:=this
   cases q
   exact h1
theorem Bc (h:PEd X e t):PEd X e (ww t):=PE.conv h fun σ H Q ⟨Δ,M,R,sr,hr,q,k⟩=>⟨_,noM,_,sr.lend hr,HR.nil,q,fun d M2 v H' ⟨hn,hM,q'⟩ e' hr' rv'=>by
 subst hM
 have:=k d (eO M noM noM) v H' (by rw[xp];exact q') (Ext.back LeM.no e') (hr.back LeM.no e' hr' (fun a l z=>nomatch z)) (Rep.hard hn rv' (cf hr LeM.no e' hr'))
 exact this⟩
theorem Df (h:QEd X e t):QEd X e (ww t):=by
 simp only[QEd.eq]at *
 exact Bc h
end
/-! ### the defs of the text,said shortly -/
section
variable {P:Program} {w:World} {K:PySem.W.Frag} {h base:Heap} {mg:Str->Option Value} {x qual:Str} {st:Stmt} {f:Addr} {fd:FuncData} {k:Nat} {S:SpD}
structure bu (K:PySem.W.Frag) (x:Str) (st:Stmt) (f:Addr) (fd:FuncData):Prop where
 a:PySem.W.nsIn K mainGlobals x=some (some (.ref f))
 F:Fun K x x st f fd
theorem ED {oc:Value} {od an:Option Addr} {osl:Array (Option Value)} {kV doc pm cdv ct:Value} (a:PySem.W.nsIn K mainGlobals x=some (some (.ref f))) (l:K.lookup f=some ⟨oc,od,.func (PySem.W.fnOf x x (fj st) (cM st) (ae st) .none kV doc pm an cdv ct),osl⟩)
  (c:PySem.W.codeIn K cdv x=true) (k:PySem.W.keepIn K (.ref f)=true):bu K x st f (PySem.W.fnOf x x (fj st) (cM st) (ae st) .none kV doc pm an cdv ct):=⟨a,wr l c k⟩
theorem usS {p:List Value->Prop} {n:Nat} (h:∀ a us,us.length=n->p (a::us)):∀ us:List Value,us.length=n+1->p us:=by
 intro us e
 cases us with
 |nil=>cases e
 |cons a us=>exact h a us (Nat.succ.inj e)
theorem us0 {p:List Value->Prop} (h:p []):∀ us:List Value,us.length=0->p us:=by
 intro us e
 cases us with
 |nil=>exact h
 |cons a us=>cases e
def Bd (x qual:Str) (st:Stmt) (ps:List Str) (us:List Value):Prop:=∀ (kV doc pm:Value) (an:Option Addr) (cdv ct:Value),bindArgs (PySem.W.fnOf x qual (fj st) (cM st) (ae st) .none kV doc pm an cdv ct) ⟨us,[]⟩=pure (ps.zip us)
theorem pG {ps:List Str} (F:Fun K x qual st f fd) (b:∀ us:List Value,us.length=ps.length->Bd x qual st ps us):cA K fd ps []:=F.binds fun kV doc pm an cdv ct us hl=>b us hl kV doc pm an cdv ct
variable {p1 p2 p3 p4 p5:Str}
theorem bd1 (F:Fun K x qual st f fd) (b:∀ a,Bd x qual st [p1] [a]):cA K fd [p1] []:=pG F (usS fun a=>us0 (b a))
theorem bd2 (F:Fun K x qual st f fd) (b:∀ a c,Bd x qual st [p1,p2] [a,c]):cA K fd [p1,p2] []:=pG F (usS fun a=>usS fun c=>us0 (b a c))
theorem bd3 (F:Fun K x qual st f fd) (b:∀ a c d,Bd x qual st [p1,p2,p3] [a,c,d]):cA K fd [p1,p2,p3] []:=pG F (usS fun a=>usS fun c=>usS fun d=>us0 (b a c d))
theorem bd4 (F:Fun K x qual st f fd) (b:∀ a c d e,Bd x qual st [p1,p2,p3,p4] [a,c,d,e]):cA K fd [p1,p2,p3,p4] []:=pG F (usS fun a=>usS fun c=>usS fun d=>usS fun e=>us0 (b a c d e))
theorem bd5 (F:Fun K x qual st f fd) (b:∀ a c d e g,Bd x qual st [p1,p2,p3,p4,p5] [a,c,d,e,g]):cA K fd [p1,p2,p3,p4,p5] []:=pG F (usS fun a=>usS fun c=>usS fun d=>usS fun e=>usS fun g=>us0 (b a c d e g))
theorem fg {ps:List Str} {n:Nat} (X:K.In h) (G:h.Ns mainGlobals mg) (i:bu K x st f fd) (o:aK P w K mg base CX0 k f fd ps (spD K n S)) (b:cA K fd ps []):FnD P w K mg base x k n S:=⟨_,_,_,o,PySem.W.mg_of X G i.a,i.F.kp,b⟩
theorem AJ {fa:Addr} {sp:Sp} {lp:Program} (X:K.In h) (G:h.Ns mainGlobals mg) (hfa:mg "law"=some (.ref fa)) (i:bu K "law" st f fd) (b:∀ a,Bd "law" "law" st [p1] [a]) (o:∀ base:Heap,aK lp w K mg base CX0 k f fd [p1] sp) :
  ∃ fd:FuncData,(∀ (s:Shared) (v:Value),BindsTo s fd ⟨[v],[]⟩ [(p1,v)])/\∀ base:Heap,K.In base->base.Ns mainGlobals mg->aK lp w K mg base CX0 k fa fd [p1] sp:=by
 have e:=hfa.symm.trans (PySem.W.mg_of X G i.a)
 cases e
 refine⟨fd,fun s v=>?_,fun base _ _=>o base⟩
 obtain⟨oc,od,kV,doc,pm,an,cdv,ct,osl,rfl,lk,hcd⟩:=i.F.ex
 exact .of_eq (b v kV doc pm an cdv ct)
end
end L2
namespace My
open PySem PySem.Spec PyProof.Rows L2
def top (i:Nat):Stmt:=PySem.Challenge.pw_wordwishes_k56_all_sentences.main.body.getD i (.Pass ⟨0,0,0,0⟩)
abbrev bM:Stmt:=top 3
abbrev cL:Stmt:=top 4
abbrev cD:Stmt:=top 6
abbrev gj:Stmt:=top 7
abbrev dO:Stmt:=top 9
abbrev g6:Stmt:=top 10
abbrev df:Stmt:=top 15
abbrev fm:Stmt:=top 16
abbrev ft:Stmt:=top 17
abbrev dn:Stmt:=top 20
abbrev b7:Stmt:=top 21
abbrev cJ:Stmt:=top 22
abbrev dJ:Stmt:=top 23
abbrev cY:Stmt:=top 24
abbrev dA:Stmt:=top 25
abbrev bN:Stmt:=top 26
abbrev fw:Stmt:=top 29
abbrev dB:Stmt:=top 30
abbrev bI:Stmt:=top 31
abbrev cV:Stmt:=top 32
abbrev cI:Stmt:=top 33
abbrev lu:Stmt:=top 35
abbrev cZ:Stmt:=top 37
abbrev bW:Stmt:=top 38
abbrev lU:Stmt:=top 40
abbrev kK:Stmt:=top 41
abbrev ly:Stmt:=top 42
abbrev eR:Stmt:=top 43
abbrev dL:Stmt:=top 44
abbrev jx:Stmt:=top 45
abbrev er:Stmt:=top 46
abbrev jo:Stmt:=top 47
abbrev dY:Stmt:=top 48
abbrev fX:Stmt:=top 49
abbrev gY:Stmt:=top 50
abbrev bF:Stmt:=top 51
abbrev i5:Stmt:=top 52
abbrev pr:Stmt:=top 53
abbrev jm:Stmt:=Ez (top 28) 0
abbrev cv:List Str:=["thing"]
theorem dD:ar cv ["thing"] (ae bM):=⟨rfl,rfl,rfl,by decide +kernel,rfl,by decide +kernel,by decide +kernel⟩
abbrev cK:List Str:=["parts","length","told","place"]
theorem fZ:ar cK ["parts","length"] (ae cL):=⟨rfl,rfl,rfl,by decide +kernel,rfl,by decide +kernel,by decide +kernel⟩
abbrev jl:List Str:=["pairs","mark","reached","at","low","high"]
theorem eB:ar jl ["pairs","mark"] (ae cD):=⟨rfl,rfl,rfl,by decide +kernel,rfl,by decide +kernel,by decide +kernel⟩
abbrev qv:List Str:=["order","one","other"]
theorem iS:ar qv ["order","one","other"] (ae gj):=⟨rfl,rfl,rfl,by decide +kernel,rfl,by decide +kernel,by decide +kernel⟩
abbrev kO:List Str:=["order","turn","one","other"]
theorem fK:ar kO ["order","turn","one","other"] (ae dO):=⟨rfl,rfl,rfl,by decide +kernel,rfl,by decide +kernel,by decide +kernel⟩
abbrev rQ:List Str:=["order","one","other"]
theorem jS:ar rQ ["order","one","other"] (ae g6):=⟨rfl,rfl,rfl,by decide +kernel,rfl,by decide +kernel,by decide +kernel⟩
abbrev de:List Str:=["lexicon"]
theorem gS:ar de ["lexicon"] (ae df):=⟨rfl,rfl,rfl,by decide +kernel,rfl,by decide +kernel,by decide +kernel⟩
abbrev og:List Str:=["lexicon","thing"]
theorem gL:ar og ["lexicon","thing"] (ae fm):=⟨rfl,rfl,rfl,by decide +kernel,rfl,by decide +kernel,by decide +kernel⟩
abbrev nU:List Str:=["lexicon","word"]
theorem gM:ar nU ["lexicon","word"] (ae ft):=⟨rfl,rfl,rfl,by decide +kernel,rfl,by decide +kernel,by decide +kernel⟩
abbrev lJ:List Str:=["lexicon"]
theorem fL:ar lJ ["lexicon"] (ae dn):=⟨rfl,rfl,rfl,by decide +kernel,rfl,by decide +kernel,by decide +kernel⟩
abbrev gH:List Str:=["lexicon","words","kinds","number","word"]
theorem cU:ar gH ["lexicon","words"] (ae b7):=⟨rfl,rfl,rfl,by decide +kernel,rfl,by decide +kernel,by decide +kernel⟩
abbrev bp:List Str:=["kinds"]
theorem gp:ar bp ["kinds"] (ae cJ):=⟨rfl,rfl,rfl,by decide +kernel,rfl,by decide +kernel,by decide +kernel⟩
abbrev lY:List Str:=["kinds"]
theorem fH:ar lY ["kinds"] (ae dJ):=⟨rfl,rfl,rfl,by decide +kernel,rfl,by decide +kernel,by decide +kernel⟩
abbrev j6:List Str:=["kinds","place","number","kind","at","row"]
theorem eZ:ar j6 ["kinds","place"] (ae cY):=⟨rfl,rfl,rfl,by decide +kernel,rfl,by decide +kernel,by decide +kernel⟩
abbrev ml:List Str:=["place","number","kind","at"]
theorem fO:ar ml ["place"] (ae dA):=⟨rfl,rfl,rfl,by decide +kernel,rfl,by decide +kernel,by decide +kernel⟩
abbrev cr:List Str:=["kinds","place","number"]
theorem dw:ar cr ["kinds","place"] (ae bN):=⟨rfl,rfl,rfl,by decide +kernel,rfl,by decide +kernel,by decide +kernel⟩
abbrev oF:List Str:=["lexicon","words"]
theorem gQ:ar oF ["lexicon","words"] (ae fw):=⟨rfl,rfl,rfl,by decide +kernel,rfl,by decide +kernel,by decide +kernel⟩
abbrev ld:List Str:=["order","sign","other"]
theorem fC:ar ld ["order","sign","other"] (ae dB):=⟨rfl,rfl,rfl,by decide +kernel,rfl,by decide +kernel,by decide +kernel⟩
abbrev bj:List Str:=["order","chart","place","sign"]
theorem eQ:ar bj ["order","chart","place"] (ae bI):=⟨rfl,rfl,rfl,by decide +kernel,rfl,by decide +kernel,by decide +kernel⟩
abbrev kh:List Str:=["chart","place","counts","mate","onward","inner","end","count"]
theorem eW:ar kh ["chart","place"] (ae cV):=⟨rfl,rfl,rfl,by decide +kernel,rfl,by decide +kernel,by decide +kernel⟩
abbrev jr:List Str:=["chart"]
theorem dS:ar jr ["chart"] (ae cI):=⟨rfl,rfl,rfl,by decide +kernel,rfl,by decide +kernel,by decide +kernel⟩
abbrev xw:List Str:=["lexicon","words"]
theorem nu:ar xw ["lexicon","words"] (ae lu):=⟨rfl,rfl,rfl,by decide +kernel,rfl,by decide +kernel,by decide +kernel⟩
abbrev j8:List Str:=["lexicon","words"]
theorem eP:ar j8 ["lexicon","words"] (ae cZ):=⟨rfl,rfl,rfl,by decide +kernel,rfl,by decide +kernel,by decide +kernel⟩
abbrev cG:List Str:=["lexicon","length"]
theorem eA:ar cG ["lexicon","length"] (ae bW):=⟨rfl,rfl,rfl,by decide +kernel,rfl,by decide +kernel,by decide +kernel⟩
abbrev xk:List Str:=["_law_script","_law_place"]
theorem mP:ar xk ["_law_script","_law_place"] (ae lU):=⟨rfl,rfl,rfl,by decide +kernel,rfl,by decide +kernel,by decide +kernel⟩
abbrev xb:List Str:=["_law_cell_here","_law_rest","_law_one"]
theorem m9:ar xb ["_law_cell_here"] (ae kK):=⟨rfl,rfl,rfl,by decide +kernel,rfl,by decide +kernel,by decide +kernel⟩
abbrev wP:List Str:=["_law_pool_here","_law_amount","_law_found"]
theorem nM:ar wP ["_law_pool_here","_law_amount"] (ae ly):=⟨rfl,rfl,rfl,by decide +kernel,rfl,by decide +kernel,by decide +kernel⟩
abbrev dN:List Str:=["_law_pool_here","_law_known","_law_letters","_law_word_here","_law_some"]
theorem ni:ar dN ["_law_pool_here","_law_known"] (ae eR):=⟨rfl,rfl,rfl,by decide +kernel,rfl,by decide +kernel,by decide +kernel⟩
abbrev kS:List Str:=["_law_pool_here","_law_amount","_law_found","_law_k"]
theorem fQ:ar kS ["_law_pool_here","_law_amount"] (ae dL):=⟨rfl,rfl,rfl,by decide +kernel,rfl,by decide +kernel,by decide +kernel⟩
abbrev uG:List Str:=["_law_pool_here","_law_marks","_law_most","_law_found","_law_k","_law_low"]
theorem lX:ar uG ["_law_pool_here","_law_marks","_law_most"] (ae jx):=⟨rfl,rfl,rfl,by decide +kernel,rfl,by decide +kernel,by decide +kernel⟩
abbrev fT:List Str:=["_law_order_here","_law_one","_law_other","_law_found","_law_turn"]
theorem ip:ar fT ["_law_order_here","_law_one","_law_other"] (ae er):=⟨rfl,rfl,rfl,by decide +kernel,rfl,by decide +kernel,by decide +kernel⟩
abbrev uT:List Str:=["_law_pool_here","_law_marks","_law_most","_law_signs","_law_turns","_law_found","_law_k","_law_row","_law_j","_law_mark"]
theorem ln:ar uT ["_law_pool_here","_law_marks","_law_most","_law_signs","_law_turns"] (ae jo):=⟨rfl,rfl,rfl,by decide +kernel,rfl,by decide +kernel,by decide +kernel⟩
abbrev gb:List Str:=["_law_pool_here","_law_marks","_law_words","_law_signs","_law_order_here","_law_goal","_law_entries","_law_word_here","_law_kinds_here"]
theorem iD:ar gb ["_law_pool_here","_law_marks","_law_words","_law_signs"] (ae dY):=⟨rfl,rfl,rfl,by decide +kernel,rfl,by decide +kernel,by decide +kernel⟩
abbrev qa:List Str:=["_law_order_here","_law_one","_law_other"]
theorem io:ar qa ["_law_order_here","_law_one","_law_other"] (ae fX):=⟨rfl,rfl,rfl,by decide +kernel,rfl,by decide +kernel,by decide +kernel⟩
abbrev rN:List Str:=["_law_order_here","_law_row","_law_amount","_law_good","_law_i","_law_size","_law_k"]
theorem jU:ar rN ["_law_order_here","_law_row"] (ae gY):=⟨rfl,rfl,rfl,by decide +kernel,rfl,by decide +kernel,by decide +kernel⟩
abbrev bE:List Str:=["_law_lexicon_here","_law_words","_law_rows_here","_law_word_here","_law_longer","_law_one","_law_kinds_here","_law_kind"]
theorem eY:ar bE ["_law_lexicon_here","_law_words"] (ae bF):=⟨rfl,rfl,rfl,by decide +kernel,rfl,by decide +kernel,by decide +kernel⟩
abbrev lF:List Str:=["_law_words","_law_length","_law_found","_law_turn","_law_longer","_law_row"]
theorem np:ar lF ["_law_words","_law_length"] (ae i5):=⟨rfl,rfl,rfl,by decide +kernel,rfl,by decide +kernel,by decide +kernel⟩
abbrev qG:List Str:=["_law_script","_law_k","_law_pool_here","_law_marks","_law_words","_law_lexicon_here","_law_most","_law_length","_law_due","_law_found"]
theorem vM:ar qG ["_law_script"] (ae pr):=⟨rfl,rfl,rfl,by decide +kernel,rfl,by decide +kernel,by decide +kernel⟩
abbrev uq:List Str:=["self","order","kinds","place"]
theorem lc:ar uq ["self","order","kinds"] (ae jm):=⟨rfl,rfl,rfl,by decide +kernel,rfl,by decide +kernel,by decide +kernel⟩
structure iY (K:PySem.W.Frag) (C:Addr):Prop where
 c:Cls K C
 n_kinds:ck K C "kinds"
 n_end:ck K C "end"
 n_steps:ck K C "steps"
 n_counts:ck K C "counts"
structure Txt (K:PySem.W.Frag) (mg:Str->Option Value):Prop where
 g_START:xo K mg "START" [.inl (-1),.inl (0),.inl (0)]
 b_isinstance:mg "isinstance"=none
 b_str:mg "str"=none
 b_all:mg "all"=none
 b_len:mg "len"=none
 b_range:mg "range"=none
 b_enumerate:mg "enumerate"=none
 b_max:mg "max"=none
 b_list:mg "list"=none
 b_sorted:mg "sorted"=none
 b_abs:mg "abs"=none
 b_tuple:mg "tuple"=none
 b_any:mg "any"=none
 b_int:mg "int"=none
 b_reversed:mg "reversed"=none
 g_SMALL_LETTERS:∃ t,mg "SMALL_LETTERS"=some (.str "abcdefghijklmnopqrstuvwxyz" t)
 g_MOST_LETTERS:∃ t,mg "MOST_LETTERS"=some (.int 8 t)
set_option hygiene false in
local macro_rules|`(tactic| walk_at "rd")=>`(tactic| simp only[uO,wk,vU,Bt,vN,sw,vB,pQ,oP,rT,tW,t6,sI,xl,BF,si,wz,se,tm,BX,oK,ke,br,dC,xO,sX,vJ,wn,v6,dOp,i3,CF,tJ,vI,dCB,bD,dG,vb,wc,p7,CT,uK,nE,Cr,Cm,dIf,fI,rR,oB,jR,rf,Be,CY,As,oT,C2,zT,wF,rj,zI,dDT,rF,uJ,pq,vv,rW,HD.dKr.injEq,zG,HD.dT.injEq,HD.dK.injEq,Do,Dl,B9,CD,rA,nS,wg,vy,dLc,xB,A6,
 yb,BV,ze,zV,zy,yJ,zw,zm,Bi,yj,zb,xW,dX,E8,Dj,Fa,Ae,Ds,Eb,vS,AL,BR,Co,B4,Bz,Bf,C8,BC,Br,Cf,Bh,E7,Eh,Ea,EX,C1,Db,Dq,EJ,Ep,wI,vF,wt,vX,Ee,DT,DR,E3,E2,Ev,EW,Am,EN,yU,u9,Bn,ag,ay,
 gZ,List.map_cons,List.map_nil,List.cons_append,List.nil_append,List.length_cons,List.length_nil,List.replicate,List.set_cons_zero,List.set_cons_succ,List.getElem?_cons_zero,List.getElem?_cons_succ,Option.some.injEq,exists_eq_left',exists_eq_left,D.int.injEq,D.bl.injEq,D.str.injEq,D.ref.injEq,D.tup.injEq,D.lst.injEq,true_and,and_true,if_true,decide_eq_true_eq,exists_and_left,Nat.zero_add,Nat.reduceAdd,Nat.reduceSub,EY,Av,wa,Dk,HD.lst.injEq,List.cons.injEq,or_true,true_or,and_self,↓reduceIte,Int.reduceLT,Int.reduceLE,Int.reducePow,Int.reduceNeg,Int.reduceToNat,Nat.reducePow,Nat.reduceLT,Nat.reduceLeDiff,Int.reduceAdd,Int.reduceMul,Int.reduceSub,Bool.false_eq_true,Bool.true_eq_false,if_false])
section
variable {P:Program} {w:World} {K:PySem.W.Frag} {mg:Str->Option Value} {base:Heap}
def az (x:Str×Str):D:=.tup [.str x.1,.str x.2]
theorem iO {marks:List Str} {v:Int} (h0:0<=v) (h1:v<(marks.length:Int)):∃ m∈marks,atI (marks.map D.str) v=some (.str m):=by
 obtain⟨n,rfl⟩:=Int.eq_ofNat_of_zero_le h0
 have hn:n<marks.length:=by omega
 exact⟨marks[n],List.getElem_mem hn,bX (by simp[hn])⟩
theorem bJ {M:DH} {p q:Addr} {a b:HD} (h:p≠q):al (al M p a) q b=al (al M q b) p a:=by
 funext c
 unfold al
 by_cases h1:c=q
 ·subst h1;simp[Ne.symm h]
 ·by_cases h2:c=p
  ·subst h2;simp[h]
  ·simp[h1,h2]
end
section
variable {P:Program} {w:World} {K:PySem.W.Frag} {mg:Str->Option Value} {base:Heap}
theorem wM {xs:List D} {n:Nat}:L2.cF xs none (some (n:Int))=xs.take n:=by
 unfold L2.cF
 rw[HT.sIx_none,HT.sIx_nat,List.drop_zero,Nat.sub_zero]
 by_cases h:n<=xs.length
 ·rw[Nat.min_eq_left h]
 ·rw[Nat.min_eq_right (by omega),List.take_length,List.take_of_length_le (by omega)]
theorem pw {xs:List D} {n:Nat}:L2.cF xs (some (n:Int)) none=xs.drop n:=by
 unfold L2.cF
 rw[HT.sIx_none,HT.sIx_nat]
 by_cases h:n<=xs.length
 ·rw[Nat.min_eq_left h,List.take_of_length_le (by simp)]
 ·rw[Nat.min_eq_right (by omega),Nat.sub_self,List.take_zero,List.drop_of_length_le (by omega)]
theorem bT {lo:Int} {n:Nat}:(gG lo n).length=n:=by simp[gG]
end
section
variable {P:Program} {w:World} {K:PySem.W.Frag} {mg:Str->Option Value} {base:Heap}
inductive cu (ord:List (Str×Str)) (a:Str):Str->Prop
 |refl:cu ord a a
 |step {b c:Str}:cu ord a b->(b,c)∈ord->cu ord a c
theorem p0 {ord:List (Str×Str)} {a x:Str} {L:List Str} (h0:a∈L) (hc:∀ y∈ord,y.1∈L->y.2∈L) (h:cu ord a x):x∈L:=by
 induction h with
 |refl=>exact h0
 |step _ hm ih=>exact hc _ hm ih
def fb:SpD:=fun ds M R=>∃ (ord:List (Str×Str)) (a:Str),ds=[.tup (ord.map az),.str a]/\ord.length<=500 /\
 ∀ L:List Str,a∈L->(∀ y∈ord,y.1∈L->y.2∈L)->(∀ x∈L,cu ord a x)->L.length<=ord.length+1->R (.lst (L.map .str)) M
abbrev tIn:TSd:=xO (tJ (i3 (dOp eqF (br 4) (dOp ixD (br 2) (br 3)))) (i3 (dOp (inE true) (br 5) (br 2)))) (nE (uK (br 2) (br 5))) sX
theorem gy {q:Addr} {E:fJ} {M:DH} (hq:M q=none) (ps:D) (a:Str) (ord:List (Str×Str)) (hord:ord.length<=500) (i:Nat) (L0:List Str) (hi:i<L0.length):∀ (todo done:List (Str×Str)) (x4 x5:Option D) (L:List Str),ord=done++todo->(∃ t,L=L0++t)->L.Nodup->(∀ x∈L,cu ord a x)->(∀ x∈L,x∈a::ord.map (·.2))->(∀ y∈done,y.1=L0[i]->y.2∈L) ->
  (∀ (y4 y5:Option D) (L':List Str),(∃ t,L'=L0++t)->L'.Nodup->(∀ x∈L',cu ord a x)->(∀ x∈L',x∈a::ord.map (·.2))->(∀ y∈ord,y.1=L0[i]->y.2∈L')->E.nx [some ps,some (.str a),some (.ref q),some (.int i),y4,y5] (al M q (.lst (L'.map .str)))) ->
  bB (jZ (fo (bc 4) (fo (bc 5) ng)) 2) tIn E (todo.map az) [some ps,some (.str a),some (.ref q),some (.int i),x4,x5] (al M q (.lst (L.map .str)))
 |[],done,x4,x5,L,ho,ht,hn,hs,hb,hd,k=>by
  simp only[List.map_nil,bB]
  exact k x4 x5 L ht hn hs hb (by rw[ho,List.append_nil];exact hd)
 |(b,c)::todo,done,x4,x5,L,ho,⟨t,ht⟩,hn,hs,hb,hd,k=>by
  have hiL:i<L.length:=by rw[ht];simp;omega
  have eL:L[i]=L0[i]:=by subst ht;simp[hi]
  have eat:atI (L.map D.str) (i:Int)=some (.str L[i]):=bX (by simp[hiL])
  have hlen:L.length<=ord.length+1:=by
   have:=di L (a::ord.map (·.2)) hn hb
   simpa using this
  simp only[List.map_cons,az,bB,jZ,fo,bc,ng,Option.bind_some]
  refine⟨_,rfl,?_⟩
  walk_at "rd"
  refine⟨_,eat,?_⟩
  walk_at "rd"
  have ho':ord=(done++[(b,c)])++todo:=by rw[ho];simp
  have hmem:(b,c)∈ord:=by rw[ho];simp
  refine gX (fun h=>?_) (fun h=>?_)
  ·have hbe:b=L0[i]:=by rw[<-eL];simpa using h
   refine⟨_,if_pos ⟨rfl,eV⟩,_,rfl,?_⟩
   rw[dM]
   by_cases hc:c∈L
   ·simp only[hc,decide_true,Bool.xor_true,Bool.not_true,Bool.false_eq_true,if_false]
    exact gy hq ps a ord hord i L0 hi todo (done++[(b,c)]) _ _ L ho' ⟨t,ht⟩ hn hs hb (fun y hy hy1=>by
     rcases List.mem_append.mp hy with h|h
     ·exact hd y h hy1
     ·have:y=(b,c):=by simpa using h
      subst this;exact hc) k
   ·simp only[hc,decide_false,Bool.xor_false,if_true]
    refine⟨by rw[List.length_map];exact Nat.lt_of_lt_of_le (by omega:L.length<1000) (sz3 1000),?_⟩
    have ea:L.map D.str++[D.str c]=(L++[c]).map D.str:=by simp
    rw[ea]
    refine gy hq ps a ord hord i L0 hi todo (done++[(b,c)]) _ _ (L++[c]) ho' ⟨t++[c],by rw[ht];simp⟩ ?_ (fun x hx=>?_) (fun x hx=>?_) (fun y hy hy1=>?_) k
    ·rw[List.nodup_append]
     refine⟨hn,by simp,fun u hu v hv=>?_⟩
     have:v=c:=by simpa using hv
     subst this
     rintro rfl
     exact hc hu
    ·rcases List.mem_append.mp hx with h|h
     ·exact hs x h
     ·have:x=c:=by simpa using h
      subst this
      exact cu.step (hs b (by rw[hbe,<-eL];exact List.getElem_mem hiL)) hmem
    ·rcases List.mem_append.mp hx with h|h
     ·exact hb x h
     ·have:x=c:=by simpa using h
      subst this
      exact List.mem_cons_of_mem _ (List.mem_map.mpr ⟨_,hmem,rfl⟩)
    ·rcases List.mem_append.mp hy with h|h
     ·exact List.mem_append_left _ (hd y h hy1)
     ·have:y=(b,c):=by simpa using h
      subst this;simp
  ·exact gy hq ps a ord hord i L0 hi todo (done++[(b,c)]) _ _ L ho' ⟨t,ht⟩ hn hs hb (fun y hy hy1=>by
    rcases List.mem_append.mp hy with h'|h'
    ·exact hd y h' hy1
    ·have:y=(b,c):=by simpa using h'
     subst this
     exact absurd (by rw[eL];simpa using hy1) h) k
theorem iX {f:Addr} {fd:FuncData} (F:Fun K "reached_from" "reached_from" cD f fd) (T:Txt K mg) :aK P w K mg base CX0 1 f fd ["pairs","mark"] (spD K 2 fb):=by
 have nd:=eB.nd
 refine F.okQ rfl eB (fun cdv A outer s H E hr=>⟨_,(aj (aF (i:=2) nd rfl (Or.inl rfl) (ii (ab (aa 1) ac)))
   (aj (aF (i:=3) nd rfl (Or.inl rfl) ak)
   (aj (zL PassesOwn.never (bt CI (aa 3) (aN dR rfl T.b_len (by kernel_rfl) (ab (aa 2) ac)) (by first|exact av _ (by decide) (by decide)|rfl)) (aj (bQ PassesOwn.never rfl (bn (aa 0)) (lH rfl (bR (aE (i:=4) nd rfl (Or.inl rfl)) (bR (aE (i:=5) nd rfl (Or.inl rfl)) kX))) (am (eh (vL (oq (bt (sn hr.units) (aa 4) (aO aP (aa 2) (aa 3) (fun _ _=>rfl)) (by first|exact av _ (by decide) (by decide)|rfl)) (o9 (bt lM (aa 5) (aa 2) (by first|exact av _ (by decide) (by decide)|rfl))))) (am (gW (kC (aa 2) (aa 5)))) cw)))
   (am (E5 (i:=3) nd rfl (Or.inl rfl) ak Ck))))
   (am (xq (aa 2)))))),fun ds M R hl hS=>?_⟩)
 obtain⟨ord,a,rfl,ho,k⟩:=hS
 walk_at "rd"
 refine⟨sz3 1,fun q hq=>?_⟩
 refine⟨fun m Δ M'=>∃ (i:Nat) (L:List Str) (x4 x5:Option D),Δ=[some (D.tup (ord.map az)),some (D.str a),some (D.ref q),some (D.int i),x4,x5]/\M'=al M q (.lst (L.map .str))/\i<=L.length/\L.Nodup/\a∈L/\(∀ x∈L,cu ord a x)/\(∀ x∈L,x∈a::ord.map (·.2))/\(∀ y∈ord,∀ j,j<i->L[j]?=some y.1->y.2∈L)/\m=ord.length+1-i,
  ⟨_,0,[a],none,none,rfl,rfl,Nat.zero_le _,by simp,by simp,fun x hx=>by
   have:x=a:=by simpa using hx
   subst this;exact cu.refl,fun x hx=>by
   have:x=a:=by simpa using hx
   subst this;simp,fun y _ j hj=>absurd hj (by omega),rfl⟩,?_⟩
 rintro m Δ M' ⟨i,L,x4,x5,rfl,rfl,hiL,hn,ha,hs,hb,hp,rfl⟩
 have hlen:L.length<=ord.length+1:=by
  have:=di L (a::ord.map (·.2)) hn hb
  simpa using this
 walk_at "rd"
 rw[List.length_map]
 refine gX (fun h=>?_) (fun h=>?_)
 ·have hi:i<L.length:=by omega
  intro hz
  refine gy hq _ a ord ho i L hi ord [] x4 x5 L rfl ⟨[],by simp⟩ hn hs hb (fun y hy=>absurd hy (by simp)) (fun y4 y5 L' hL' hn' hs' hb' hd'=>?_)
  obtain⟨t,rfl⟩:=hL'
  walk_at "rd"
  refine⟨ord.length+1-(i+1),by omega,i+1,L++t,y4,y5,?_,rfl,by simp;omega,hn',List.mem_append_left _ ha,hs',hb',fun y hy j hj hjy=>?_,rfl⟩
  ·simp
  ·by_cases hji:j=i
   ·subst hji
    refine hd' y hy ?_
    rw[List.getElem?_append_left hi,List.getElem?_eq_getElem hi]at hjy
    exact(Option.some.inj hjy).symm
   ·rw[List.getElem?_append_left (by omega)]at hjy
    exact List.mem_append_left _ (hp y hy j (by omega) hjy)
 ·rw[i7 hq]
  refine k L ha (fun y hy hy1=>?_) hs hlen
  obtain⟨j,hj,e⟩:=List.mem_iff_getElem.mp hy1
  exact hp y hy j (by omega) (by rw[List.getElem?_eq_getElem hj,e])
end
section
variable {P:Program} {w:World} {K:PySem.W.Frag} {mg:Str->Option Value} {base:Heap}
def aC (x:Str×Int):D:=.tup [.str x.1,.int x.2]
theorem o5 {α:Type} {f:α->D} (hf:∀ x y,f x=f y->x=y):∀ {xs ys:List α},xs.map f=ys.map f->xs=ys
 |[],[],_=>rfl
 |[],_::_,h=>by simp at h
 |_::_,[],h=>by simp at h
 |x::xs,y::ys,h=>by
  simp only[List.map_cons,List.cons.injEq]at h
  rw[hf _ _ h.1,o5 hf h.2]
theorem m5:∀ x y,az x=az y->x=y:=fun⟨a,b⟩ ⟨c,d⟩ h=>by simpa[az]using h
def tQ (ord:List (Str×Str)) (t:Int) (a b:Str):Prop:=if t % 2=0 then cu ord a b else cu ord b a
open Classical in
def rB (ord:List (Str×Str)) (a b:Str):Bool:=decide (cu ord a b)
open Classical in
def lB (ord:List (Str×Str)) (t:Int) (a b:Str):Bool:=decide (tQ ord t a b)
theorem o3 {ord:List (Str×Str)} {a b:Str}:rB ord a b=true↔cu ord a b:=by simp[rB]
theorem vE {ord:List (Str×Str)} {t:Int} {a b:Str}:lB ord t a b=true↔tQ ord t a b:=by simp[lB]
theorem sZ {ord:List (Str×Str)} {t:Int} {a b:Str} (h:t % 2=0):lB ord t a b=rB ord a b:=by rw[Bool.eq_iff_iff,vE,o3,tQ,if_pos h]
theorem vk {ord:List (Str×Str)} {t:Int} {a b:Str} (h:¬ t % 2=0):lB ord t a b=rB ord b a:=by rw[Bool.eq_iff_iff,vE,o3,tQ,if_neg h]
def dQ:SpD:=fun ds M R=>∃ (ord:List (Str×Str)) (a b:Str),ds=[.tup (ord.map az),.str a,.str b]/\ord.length<=500/\R (.bl (rB ord a b)) M
def dE:SpD:=fun ds M R=>∃ (ord:List (Str×Str)) (t:Int) (a b:Str),ds=[.tup (ord.map az),.int t,.str a,.str b]/\ord.length<=500/\R (.bl (lB ord t a b)) M
def k9:SpD:=fun ds M R=>∃ (ord:List (Str×Str)) (x y:Str×Int),ds=[.tup (ord.map az),aC x,aC y]/\ord.length<=500/\R (.bl (x.2+1==y.2&&lB ord x.2 x.1 y.1)) M
theorem mx {ord:List (Str×Str)} {a b:Str} {M:DH} {R:D->DH->Prop}:dQ [.tup (ord.map az),.str a,.str b] M R↔ord.length<=500/\R (.bl (rB ord a b)) M :=
 ⟨fun⟨o,c,d,e,h1,h2⟩=>by
  simp only[List.cons.injEq,D.tup.injEq,D.str.injEq,and_true]at e
  obtain⟨e1,e2,e3⟩:=e
  rw[o5 m5 e1,e2,e3];exact⟨h1,h2⟩,fun h=>⟨ord,a,b,rfl,h⟩⟩
theorem jJ {ord:List (Str×Str)} {t:Int} {a b:Str} {M:DH} {R:D->DH->Prop}:dE [.tup (ord.map az),.int t,.str a,.str b] M R↔ord.length<=500/\R (.bl (lB ord t a b)) M :=
 ⟨fun⟨o,u,c,d,e,h1,h2⟩=>by
  simp only[List.cons.injEq,D.tup.injEq,D.str.injEq,D.int.injEq,and_true]at e
  obtain⟨e1,e0,e2,e3⟩:=e
  rw[o5 m5 e1,e0,e2,e3];exact⟨h1,h2⟩,fun h=>⟨ord,t,a,b,rfl,h⟩⟩
theorem oO {f:Addr} {fd:FuncData} (F:Fun K "at_most" "at_most" gj f fd) (T:Txt K mg) (g_p_reached_from:FnD P w K mg base "reached_from" 1 2 fb):aK P w K mg base CX0 2 f fd ["order","one","other"] (spD K 3 dQ):=by
 have nd:=iS.nd
 refine F.okQ rfl iS (fun cdv A outer s H E hr=>⟨_,(am (aM (jO pN (aa 2) (qc g_p_reached_from (hr.mono (by decide)) rfl (ab (aa 0) (ab (aa 1) ac))) (by first|exact av _ (by decide) (by decide)|rfl)))),fun ds M R hl hS=>?_⟩)
 obtain⟨ord,a,b,rfl,ho,k⟩:=hS
 walk_at "rd"
 refine⟨ord,a,rfl,ho,fun L h1 h2 h3 h4=>?_⟩
 refine⟨_,if_pos ⟨rfl,eV⟩,?_⟩
 rw[dM]
 have e:(false ^^ decide (b∈L))=rB ord a b:=by
  rw[Bool.false_xor,Bool.eq_iff_iff,o3,decide_eq_true_eq]
  exact⟨fun h=>h3 b h,fun h=>p0 h1 h2 h⟩
 rw[e]
 exact k
theorem kl {f:Addr} {fd:FuncData} (F:Fun K "mark_leads" "mark_leads" dO f fd) (T:Txt K mg) (g_p_at_most:FnD P w K mg base "at_most" 2 3 dQ):aK P w K mg base CX0 3 f fd ["order","turn","one","other"] (spD K 4 dE):=by
 have nd:=fK.nd
 refine F.okQ rfl fK (fun cdv A outer s H E hr=>⟨_,(aj (eh (bt (sn hr.units) (aI iU (aa 1) ak) ak (by first|exact av _ (by decide) (by decide)|rfl)) (am (aM (qc g_p_at_most (hr.mono (by decide)) rfl (ab (aa 0) (ab (aa 2) (ab (aa 3) ac)))))) cw)
   (am (aM (qc g_p_at_most (hr.mono (by decide)) rfl (ab (aa 0) (ab (aa 3) (ab (aa 2) ac))))))),fun ds M R hl hS=>?_⟩)
 obtain⟨ord,t,a,b,rfl,ho,k⟩:=hS
 walk_at "rd"
 simp only[mx]
 refine gX (fun h=>?_) (fun h=>?_)
 ·have h':t % 2=0:=by simpa using h
  rw[sZ h']at k
  exact⟨ho,k⟩
 ·have h':¬ t % 2=0:=by simpa using h
  rw[vk h']at k
  exact⟨ho,k⟩
theorem qt {f:Addr} {fd:FuncData} (F:Fun K "cancel" "cancel" g6 f fd) (T:Txt K mg) (g_p_mark_leads:FnD P w K mg base "mark_leads" 3 4 dE):aK P w K mg base CX0 4 f fd ["order","one","other"] (spD K 3 k9):=by
 have nd:=jS.nd
 refine F.okQ rfl jS (fun cdv A outer s H E hr=>⟨_,(am (aM (qf (jO (sn hr.units) (aI aH (aO aP (aa 1) ak (fun _ _=>rfl)) ak) (aO aP (aa 2) ak (fun _ _=>rfl)) (by first|exact av _ (by decide) (by decide)|rfl)) (ua (qc g_p_mark_leads (hr.mono (by decide)) rfl (ab (aa 0) (ab (aO aP (aa 1) ak (fun _ _=>rfl)) (ab (aO aP (aa 1) ak (fun _ _=>rfl)) (ab (aO aP (aa 2) ak (fun _ _=>rfl)) ac))))))))),fun ds M R hl hS=>?_⟩)
 obtain⟨ord,⟨a,t⟩,⟨b,u⟩,rfl,ho,k⟩:=hS
 simp only[aC]
 walk_at "rd"
 simp only[jJ]
 refine gX (fun h=>?_) (fun h=>?_)
 ·simp only[h,Bool.true_and]at k;exact⟨ho,k⟩
 ·simp only[h,Bool.false_and]at k;exact k
end
section
variable {P:Program} {w:World} {K:PySem.W.Frag} {mg:Str->Option Value} {base:Heap}
abbrev Row:=List (Str×Int)
def aw (r:Row):D:=.tup (r.map aC)
def bU (ks:List Row):D:=.tup (ks.map aw)
def iG (e:Str×List Row):D:=.tup [.str e.1,bU e.2]
def cP (ord:List (Str×Str)) (goal:Str) (ents:List (Str×List Row)):D:=.tup [.tup (ord.map az),.str goal,.tup (ents.map iG)]
def kin (ents:List (Str×List Row)) (w:Str):List Row:=(ents.lookup w).getD []
theorem a7 {α:Type} {g:GD} {tc:TTd} {te:TEd} {M:DH} {Q:List D->DH->Prop} (enc:α->D) (b:α->Bool) (y:α->D) (Ok:DE->Prop):∀ (xs:List α) (Δ:DE) (acc:List D),
  (∀ x∈xs,∀ Δ,Ok Δ->∃ Δ',g (enc x) Δ=some Δ'/\Ok Δ'/\(∀ Q1:Bool->DH->Prop,Q1 (b x) M->tc Δ' M Q1)/\(b x=true->∀ Q2:D->DH->Prop,Q2 (y x) M->te Δ' M Q2))->Ok Δ ->
  Q (acc++(xs.filter b).map y) M->cR g tc te (xs.map enc) Δ M acc Q
 |[],Δ,acc,_,_,q=>by simpa[cR]using q
 |x::xs,Δ,acc,h,hΔ,q=>by
  rw[List.map_cons]
  simp only[cR]
  obtain⟨Δ',e,hΔ',h1,h2⟩:=h x (.head _) Δ hΔ
  refine⟨Δ',e,h1 _ ?_⟩
  have ih:=fun acc' q'=>a7 (Q:=Q) enc b y Ok xs Δ' acc' (fun z hz=>h z (.tail _ hz)) hΔ' q'
  cases hb:b x with
  |true =>
   simp only[if_true]
   refine h2 hb _ (ih _ ?_)
   rw[List.filter_cons_of_pos hb]at q
   simpa using q
  |false =>
   simp only[Bool.false_eq_true,if_false]
   refine ih _ ?_
   rw[List.filter_cons_of_neg (by simp[hb])]at q
   exact q
theorem lm {α:Type} (f:α->D) (hf:∀ x,dLe (f x) 59=true) {a:List α}:bq (a.map f) 59=true:=by
 rw[gf]
 intro d hd
 obtain⟨x,_,rfl⟩:=List.mem_map.mp hd
 exact hf x
end
section
variable {P:Program} {w:World} {K:PySem.W.Frag} {mg:Str->Option Value} {base:Heap}
def fh (x:Str):Prop:=1<=x.length/\x.length<=8/\∀ c∈x.cps.toList,c∈eC
theorem nq {α:Type} (l:List α):zq (.lst (l.map fun _=>D.bl true))=some (.bl true):=by
 have h1:(l.map fun _=>D.bl true).all sk=true:=by rw[List.all_map,List.all_eq_true];intro _ _;rfl
 have h2:(l.map fun _=>D.bl true).all pJ=true:=by rw[List.all_map,List.all_eq_true];intro _ _;rfl
 simp only[zq,h1,h2,if_true]
def dP:SpD:=fun ds M R=>∃ x:Str,ds=[.str x]/\fh x/\R (.bl true) M
theorem gU {f:Addr} {fd:FuncData} (F:Fun K "is_short_word" "is_short_word" bM f fd) (T:Txt K mg) :aK P w K mg base CX0 1 f fd ["thing"] (spD K 1 dP):=by
 have nd:=dD.nd
 refine F.okQ rfl dD (fun cdv A outer s H E hr=>⟨_,(am (aM (qf (vh (Tn:="str") (by decide) rfl T.b_isinstance rfl T.b_str (by kernel_rfl) (aa 0)) (qf (yk Eu Eu ak (aN dR rfl T.b_len (by kernel_rfl) (ab (aa 0) ac)) (xa rfl T.g_MOST_LETTERS)) (ua (aN (Ac rfl) rfl T.b_all (by kernel_rfl) (ab (iB (ms:=[false]) (extra:=["letter"]) (aG (n0:=0) rfl (show aQ (ae bM) cv _ _=true from by decide +kernel)) rfl (bn (aa 0)) (aL (i:=1) (show(cv++_).Nodup from by decide +kernel) rfl rfl) (fun _ _ _ _=>cg) (fun _ _ _ _=>(jO pN (aa 1) (vP rfl T.g_SMALL_LETTERS) (by first|exact av _ (by decide) (by decide)|rfl)))) ac))))))),fun ds M R hl hS=>?_⟩)
 obtain⟨x,rfl,⟨h1,h2,h3⟩,k⟩:=hS
 walk_at "rd"
 refine⟨true,rfl,?_⟩
 walk_at "rd"
 refine⟨_,if_pos (szB _ (by omega)),true,?_,?_⟩
 ·show some (D.bl (decide ((1:Int)<=(x.length:Int))))=_
  rw[decide_eq_true (by omega)]
 rw[if_pos rfl]
 refine⟨_,rfl,true,?_,?_⟩
 ·rw[decide_eq_true (by omega)]
 rw[if_pos rfl]
 refine⟨_,if_pos (szB _ (by omega)),fun hz=>⟨hz,?_⟩⟩
 refine a7 (fun(c:Nat)=>D.str (tx [c])) (fun _=>true) (fun _=>D.bl true) (fun Δ=>∃ x,Δ=[none,x]) x.cps.toList _ _ (fun c hc Δ hΔ=>?_) ⟨none,rfl⟩ ?_
 ·obtain⟨x1,rfl⟩:=hΔ
  refine⟨_,rfl,⟨_,rfl⟩,fun Q1 q=>q,fun _ Q2 q=>?_⟩
  walk_at "rd"
  simp only[Am,Option.some.injEq,exists_eq_left',Bool.false_xor]
  rw[show(Str.ofString "abcdefghijklmnopqrstuvwxyz")=abc from rfl,mh,dZ,decide_eq_true (h3 c hc)]
  exact q
 ·rw[List.nil_append,List.filter_eq_self.mpr (fun _ _=>rfl)]
  exact⟨_,nq _,k⟩
def db:SpD:=fun ds M R=>∃ (ord:List (Str×Str)) (goal:Str) (ents:List (Str×List Row)),ds=[cP ord goal ents]/\ents.length<=8/\R (.lst (ents.map fun e=>D.str e.1)) M
theorem mm {f:Addr} {fd:FuncData} (F:Fun K "words_of" "words_of" df f fd) (T:Txt K mg) :aK P w K mg base CX0 1 f fd ["lexicon"] (spD K 1 db):=by
 have nd:=gS.nd
 refine F.okQ rfl gS (fun cdv A outer s H E hr=>⟨_,(am (aM (iB (ms:=[false]) (extra:=["word","kinds"]) (aG (n0:=0) rfl (show aQ (ae df) de _ _=true from by decide +kernel)) rfl (bn (aO aP (aa 0) ak (fun _ _=>rfl))) (nZ (n:=2) rfl (dW (aL (i:=1) (show(de++_).Nodup from by decide +kernel) rfl rfl) (dW (aL (i:=2) (show(de++_).Nodup from by decide +kernel) rfl rfl) ox))) (fun _ _ _ _=>cg) (fun _ _ _ _=>(aa 1))))),fun ds M R hl hS=>?_⟩)
 obtain⟨ord,goal,ents,rfl,hl,k⟩:=hS
 simp only[cP]
 walk_at "rd"
 refine fun hz=>⟨hz,?_⟩
 refine a7 iG (fun _=>true) (fun e=>D.str e.1) (fun Δ=>∃ x y,Δ=[none,x,y]) ents _ _ (fun e he Δ hΔ=>?_) ⟨none,none,rfl⟩ ?_
 ·obtain⟨x,y,rfl⟩:=hΔ
  refine⟨_,rfl,⟨_,_,rfl⟩,fun Q1 q=>q,fun _ Q2 q=>?_⟩
  walk_at "rd"
  exact q
 ·rw[List.nil_append,List.filter_eq_self.mpr (fun _ _=>rfl)]
  exact k
theorem zX {w:Str} {ents:List (Str×List Row)}:((ents.map fun e=>D.str e.1).any fun d=>eqD d (.str w))=decide (w∈ents.map (·.1)):=by
 rw[Bool.eq_iff_iff,List.any_map,List.any_eq_true,decide_eq_true_eq,List.mem_map]
 constructor
 ·rintro⟨e,he,h⟩;exact⟨e,he,by simpa[eqD]using h⟩
 ·rintro⟨e,he,h⟩;exact⟨e,he,by simp[eqD,h]⟩
theorem uP {ents:List (Str×List Row)}:(ents.map fun e=>D.str e.1).all aU=true:=by rw[List.all_map,List.all_eq_true];intro _ _;rfl
def iM:SpD:=fun ds M R=>∃ (ord:List (Str×Str)) (goal:Str) (ents:List (Str×List Row)) (w:Str),ds=[cP ord goal ents,.str w]/\ents.length<=8/\w∈ents.map (·.1)/\fh w/\R (.bl true) M
theorem mD {f:Addr} {fd:FuncData} (F:Fun K "has_word" "has_word" fm f fd) (T:Txt K mg) (g_p_is_short_word:FnD P w K mg base "is_short_word" 1 1 dP) (g_p_words_of:FnD P w K mg base "words_of" 1 1 db):aK P w K mg base CX0 2 f fd ["lexicon","thing"] (spD K 2 iM):=by
 have nd:=gL.nd
 refine F.okQ rfl gL (fun cdv A outer s H E hr=>⟨_,(am (aM (qf (qc g_p_is_short_word (hr.mono (by decide)) rfl (ab (aa 1) ac)) (ua (jO pN (aa 1) (qc g_p_words_of (hr.mono (by decide)) rfl (ab (aa 0) ac)) (by first|exact av _ (by decide) (by decide)|rfl)))))),fun ds M R hl hS=>?_⟩)
 obtain⟨ord,goal,ents,w,rfl,hl,hw,ok,k⟩:=hS
 walk_at "rd"
 refine⟨w,rfl,ok,_,rfl,?_⟩
 rw[if_pos rfl]
 refine⟨ord,goal,ents,rfl,hl,?_⟩
 walk_at "rd"
 refine⟨_,if_pos ⟨rfl,uP⟩,?_⟩
 rw[zX,decide_eq_true hw]
 exact k
theorem wf {w:Str}:∀ {ents:List (Str×List Row)},ents.length<2 ^ 62->w∈ents.map (·.1)->∃ j e,rK (ents.map fun e=>D.str e.1) (.str w)=some j/\ents[j]?=some e/\e.2=kin ents w:=by
 intro ents hl hw
 have hd:bq (ents.map fun e=>D.str e.1) 59=true:=lm _ fun _=>rfl
 have h1:dLe (.str w) 59=true:=rfl
 unfold rK
 rw[if_pos ⟨h1,hd,by rw[List.length_map];exact hl⟩]
 clear hd h1 hl
 induction ents with
 |nil=>cases hw
 |cons e l ih =>
  obtain⟨a,ks⟩:=e
  rw[List.map_cons,List.findIdx?_cons]
  by_cases h:a=w
  ·subst h
   exact⟨0,_,by simp[eqD],rfl,by simp[kin]⟩
  ·have hne:eqD (.str a) (.str w)=false:=by simp[eqD,h]
   have hw':w∈l.map (·.1):=by
    rw[List.map_cons]at hw
    rcases List.mem_cons.mp hw with q|q
    ·exact absurd q.symm h
    ·exact q
   obtain⟨j,e,q1,q2,q3⟩:=ih hw'
   refine⟨j+1,e,?_,by rw[List.getElem?_cons_succ];exact q2,?_⟩
   ·simp only[hne,Bool.false_eq_true,if_false]
    rw[q1];rfl
   ·rw[q3]
    unfold kin
    rw[List.lookup_cons]
    have:(w==a)=false:=by simpa using fun q:w=a=>h q.symm
    rw[this]
def i4:SpD:=fun ds M R=>∃ (ord:List (Str×Str)) (goal:Str) (ents:List (Str×List Row)) (w:Str),ds=[cP ord goal ents,.str w]/\ents.length<=8/\w∈ents.map (·.1)/\fh w/\R (bU (kin ents w)) M
theorem mG {f:Addr} {fd:FuncData} (F:Fun K "kinds_of" "kinds_of" ft f fd) (T:Txt K mg) (g_p_has_word:FnD P w K mg base "has_word" 2 2 iM) (g_p_words_of:FnD P w K mg base "words_of" 1 1 db):aK P w K mg base CX0 3 f fd ["lexicon","word"] (spD K 2 i4):=by
 have nd:=gM.nd
 refine F.okQ rfl gM (fun cdv A outer s H E hr=>⟨_,(aj (eh (rD (hJ (qc g_p_has_word (hr.mono (by decide)) rfl (ab (aa 0) (ab (aa 1) ac))))) (am yY) cw)
   (am (aM (aO aP (aO aP (aO aP (aa 0) ak (fun _ _=>rfl)) (AM hr.units (qc g_p_words_of (hr.mono (by decide)) rfl (ab (aa 0) ac)) (aa 1)) (fun _ _=>rfl)) ak (fun _ _=>rfl))))),fun ds M R hl hS=>?_⟩)
 obtain⟨ord,goal,ents,w,rfl,hl,hw,ok,k⟩:=hS
 walk_at "rd"
 refine⟨ord,goal,ents,w,rfl,hl,hw,ok,_,rfl,?_⟩
 simp only[cP]
 rw[if_neg (by simp)]
 walk_at "rd"
 refine⟨ord,goal,ents,rfl,hl,⟨_,rfl⟩,_,rfl,?_⟩
 obtain⟨j,e,q1,q2,q3⟩:=wf (Nat.lt_of_le_of_lt hl (by decide)) hw
 refine⟨j,q1,?_⟩
 refine⟨_,bX (by rw[List.getElem?_map,q2];rfl),?_⟩
 simp only[iG]
 walk_at "rd"
 rw[q3];exact k
def ga:SpD:=fun ds M R=>∃ (ord:List (Str×Str)) (goal:Str) (ents:List (Str×List Row)),ds=[cP ord goal ents]/\R (aw [(goal,1)]) M
theorem kj {f:Addr} {fd:FuncData} (F:Fun K "goals_wish" "goals_wish" dn f fd) (T:Txt K mg) :aK P w K mg base CX0 1 f fd ["lexicon"] (spD K 1 ga):=by
 have nd:=fL.nd
 refine F.okQ rfl fL (fun cdv A outer s H E hr=>⟨_,(am (aM (bV (ab (bV (ab (aO aP (aa 0) ak (fun _ _=>rfl)) (ab ak ac))) ac)))),fun ds M R hl hS=>?_⟩)
 obtain⟨ord,goal,ents,rfl,k⟩:=hS
 simp only[cP]
 walk_at "rd"
 exact⟨sz3 2,sz3 1,k⟩
end
section
variable {P:Program} {w:World} {K:PySem.W.Frag} {mg:Str->Option Value} {base:Heap}
abbrev KD:=List (Int×List Row)
abbrev Pl:=Int×Int×Int
def plD (p:Pl):D:=my [.inl p.1,.inl p.2.1,.inl p.2.2]
def kdP (kd:KD):List (Key×D):=kd.map fun p=>(.inl p.1,.tup (p.2.map aw))
def kdD (kd:KD):D:=oi (kdP kd)
def look (kd:KD) (n:Int):Option (List Row):=(kd.find? fun p=>decide (p.1=n)).map (·.2)
theorem sd {n:Int}:∀ {kd:KD},aX (kdP kd) (.inl n)=(look kd n).map fun rs=>.tup (rs.map aw)
 |[]=>rfl
 |p::kd=>by
  by_cases h:p.1=n
  ·have:aX (kdP (p::kd)) (.inl n)=some (.tup (p.2.map aw)):=bH (by show Sum.inl p.1=_;rw[h])
   rw[this];simp[look,h]
  ·have e:aX (kdP (p::kd)) (.inl n)=aX (kdP kd) (.inl n):=bC (fun z=>h (by injection z))
   rw[e,sd (kd:=kd)];simp[look,h]
theorem rg {M:DH} {kd:KD}:asK M (kdD kd)=some (kdP kd):=xr
theorem CU {p:Pl}:plD p=.box .key [.int p.1,.int p.2.1,.int p.2.2]:=rfl
theorem xM {p:Pl} {P:List D->Prop}:(∃ ds,plD p=.box .key ds/\P ds)↔P [.int p.1,.int p.2.1,.int p.2.2] :=
 ⟨fun⟨ds,e,h⟩=>by rw[CU]at e;injection e with _ e;rw[e];exact h,fun h=>⟨_,rfl,h⟩⟩
def gm:SpD:=fun ds M R=>∃ p:Pl,ds=[plD p]/\R (plD (p.1,p.2.1,p.2.2+1)) M
theorem j7 {f:Addr} {fd:FuncData} (F:Fun K "next_place" "next_place" dA f fd) (T:Txt K mg) :aK P w K mg base CX0 1 f fd ["place"] (spD K 1 gm):=by
 have nd:=fO.nd
 refine F.okQ rfl fO (fun cdv A outer s H E hr=>⟨_,(aj (An (wy (aa 0)) (lH rfl (bR (aE (i:=1) nd rfl (Or.inl rfl)) (bR (aE (i:=2) nd rfl (Or.inl rfl)) (bR (aE (i:=3) nd rfl (Or.inl rfl)) kX)))))
   (am (aM (tV (ab (aa 1) (ab (aa 2) (ab (aI aH (aa 3) ak) ac))))))),fun ds M R hl hS=>?_⟩)
 obtain⟨p,rfl,k⟩:=hS
 walk_at "rd"
 simp only[xM,jZ,fo,bc,ng,Option.bind_some]
 refine⟨_,if_pos rfl,?_⟩
 exact⟨_,rfl,_,rfl,_,rfl,_,rfl,by rw[sizeLine_eq];decide,k⟩
theorem ik {kd:KD} {n:Int} {rs:List Row} (h:look kd n=some rs):(n,rs)∈kd:=by
 obtain⟨p,hp,e⟩:=Option.map_eq_some_iff.mp h
 have h1:=List.find?_some hp
 have h2:=List.mem_of_find?_eq_some hp
 have:p.1=n:=by simpa using h1
 rw[<-this,<-e];exact h2
def dU:SpD:=fun ds M R=>∃ (kd:KD) (p:Pl),ds=[kdD kd,plD p]/\(∀ q∈kd,q.2.length<=1000)/\R (.lst ((List.range ((look kd (p.1+1)).getD []).length).map fun(k:Nat)=>plD (p.1+1,(k:Int),0))) M
theorem ig {f:Addr} {fd:FuncData} (F:Fun K "begins_behind" "begins_behind" bN f fd) (T:Txt K mg) :aK P w K mg base CX0 1 f fd ["kinds","place"] (spD K 2 dU):=by
 have nd:=dw.nd
 refine F.okQ rfl dw (fun cdv A outer s H E hr=>⟨_,(aj (aF (i:=2) nd rfl (Or.inr rfl) (aI aH (aO aP (wy (aa 1)) ak (fun _ _=>rfl)) ak))
   (am (aM (iB (ms:=[false,false,true]) (extra:=["kind"]) (aG rfl (show aQ (ae bN) cr _ _=true from by decide +kernel)) rfl (bz rfl T.b_range (ab (aN dR rfl T.b_len (by kernel_rfl) (ab (yG hr.units1 (aa 0) (aa 2) (bV ac) ⟨rfl,rfl,rfl,rfl⟩) ac)) ac)) (aL (i:=3) (show(cr++_).Nodup from by decide +kernel) rfl rfl) (fun _ _ _ _=>cg) (fun _ _ _ _=>(tV (ab (aa 2) (ab (aa 3) (ab ak ac))))))))),fun ds M R hl hS=>?_⟩)
 obtain⟨kd,p,rfl,hb,k⟩:=hS
 walk_at "rd"
 simp only[xM]
 refine⟨_,rfl,_,rfl,by rw[rg];rfl,Nat.zero_le _,_,rg,.inl (p.1+1),rfl,?_⟩
 have e:(aX (kdP kd) (.inl (p.1+1))).getD (.tup [])=.tup (((look kd (p.1+1)).getD []).map aw):=by
  rw[sd]
  cases look kd (p.1+1)<;>rfl
 have hn:((look kd (p.1+1)).getD []).length<=1000:=by
  cases h:look kd (p.1+1)with
  |none=>exact Nat.zero_le _
  |some rs=>exact hb _ (ik h)
 rw[e]
 generalize (look kd (p.1+1)).getD []=rs at *
 refine⟨.int (rs.length:Int),by simp[rdM,j3],_,rfl,by omega,by omega,?_,?_⟩
 ·simp only[gG,List.length_map,List.length_range,Int.toNat_natCast]
  rw[sizeLine_eq];omega
 ·have hc:dI [false,false,true] 1 [some (kdD kd),some (plD p),some (D.int (p.1+1))]=[none,none,some (D.int (p.1+1)),none]:=rfl
  rw[hc,gG,Int.toNat_natCast]
  refine a7 (fun(k:Nat)=>D.int (0+(k:Int))) (fun _=>true) (fun k=>plD (p.1+1,(k:Int),0)) (fun Δ=>∃ x,Δ=[none,none,some (D.int (p.1+1)),x]) _ _ _ ?_ ⟨_,rfl⟩ ?_
  ·rintro k hk Δ ⟨x,rfl⟩
   refine⟨_,rfl,⟨_,rfl⟩,fun Q1 q=>q,fun _ Q2 q=>?_⟩
   simp only[vN,bD,br,dC,dG]
   refine⟨_,rfl,_,rfl,by simp only[List.length_cons,List.length_nil];rw[sizeLine_eq];decide,?_⟩
   rw[Int.zero_add];exact q
  ·rw[List.filter_eq_self.mpr (fun _ _=>rfl),List.nil_append];exact k
def gn:SpD:=fun ds M R=>∃ (kd:KD) (m:Int),ds=[kdD kd]/\yI (kd.map (·.1))=some m/\R (plD (m,0,1)) M
theorem ka {f:Addr} {fd:FuncData} (F:Fun K "last_place" "last_place" dJ f fd) (T:Txt K mg) :aK P w K mg base CX0 1 f fd ["kinds"] (spD K 1 gn):=by
 have nd:=fH.nd
 refine F.okQ rfl fH (fun cdv A outer s H E hr=>⟨_,(am (aM (tV (ab (aN (Bl rfl) rfl T.b_max (by kernel_rfl) (ab (cN (zu rfl) rfl T.b_list (by kernel_rfl) (ab (aa 0) ac)) ac)) (ab ak (ab ak ac)))))),fun ds M R hl hS=>?_⟩)
 obtain⟨kd,m,rfl,hm,k⟩:=hS
 walk_at "rd"
 have e:sU (rdM M (kdD kd))=some (.lst ((kd.map (·.1)).map D.int)):=by
  show sU (oi (kdP kd))=_
  rw[tm,kdP,List.map_map,List.map_map];rfl
 exact⟨_,e,.int m,by rw[show rdM M (D.lst ((kd.map (·.1)).map D.int))=D.lst ((kd.map (·.1)).map D.int)from rfl,AO,hm];rfl,by rw[sizeLine_eq];decide,k⟩
def cW:SpD:=fun ds M R=>∃ (kd:KD) (p:Pl) (rows:List Row) (row:Row) (i j:Nat),ds=[kdD kd,plD p]/\p.2=((i:Int),(j:Int))/\look kd p.1=some rows/\rows[i]?=some row/\R ((row[j]?).elim .non aC) M
theorem ju {f:Addr} {fd:FuncData} (F:Fun K "sign_behind" "sign_behind" cY f fd) (T:Txt K mg) :aK P w K mg base CX0 1 f fd ["kinds","place"] (spD K 2 cW):=by
 have nd:=eZ.nd
 refine F.okQ rfl eZ (fun cdv A outer s H E hr=>⟨_,(aj (An (wy (aa 1)) (lH rfl (bR (aE (i:=2) nd rfl (Or.inl rfl)) (bR (aE (i:=3) nd rfl (Or.inl rfl)) (bR (aE (i:=4) nd rfl (Or.inl rfl)) kX)))))
   (aj (aF (i:=5) nd rfl (Or.inl rfl) (aO aP (AE hr.units1 (aa 0) (aa 2) (fun _ _=>rfl)) (aa 3) (fun _ _=>rfl)))
   (am (aM (FF (bt CI (aa 4) (aN dR rfl T.b_len (by kernel_rfl) (ab (aa 5) ac)) (by first|exact av _ (by decide) (by decide)|rfl)) (aO aP (aa 5) (aa 4) (fun _ _=>rfl)) tO))))),fun ds M R hl hS=>?_⟩)
 obtain⟨kd,p,rows,row,i,j,rfl,hp,hl,hr',k⟩:=hS
 walk_at "rd"
 simp only[xM,jZ,fo,bc,ng,Option.bind_some]
 refine⟨_,if_pos rfl,?_⟩
 have h1:p.2.1=(i:Int):=by rw[hp]
 have h2:p.2.2=(j:Int):=by rw[hp]
 have hv:aX (kdP kd) (.inl p.1)=some (.tup (rows.map aw)):=by rw[sd,hl];rfl
 have hx:ixD (D.tup (rows.map aw)) (D.int p.2.1)=some (aw row):=by
  rw[h1];exact bX (by rw[List.getElem?_map,hr'];rfl)
 refine⟨_,rfl,_,rfl,_,rg,.inl p.1,rfl,_,hv,_,rfl,_,hx,_,rfl,_,rfl,.int (row.length:Int),by simp[rdM,aw,j3],?_⟩
 refine⟨_,rfl,_,rfl,?_⟩
 by_cases hj:j<row.length
 ·rw[if_pos (by rw[h2];simp[hj])]
  rw[List.getElem?_eq_getElem hj]at k
  refine⟨_,rfl,_,rfl,aC row[j],?_,k⟩
  show atI (row.map aC) p.2.2=_
  rw[h2];exact bX (by simp[hj])
 ·rw[if_neg (by rw[h2];simp;omega)]
  rw[List.getElem?_eq_none (by omega)]at k
  exact k
theorem gt {α:Type} {g:GD} {B:BKd} {M:DH} (enc:α->D) (out:α->List D) (Ok:DE->Prop):∀ (xs:List α) (Δ:DE) (acc:List D) (Q:List D->DE->DH->Prop),
  (∀ x∈xs,∀ Δ,Ok Δ->∃ Δ',g (enc x) Δ=some Δ'/\∀ (acc:List D) (Q2:List D->DE->DH->Prop),acc.length+(out x).length<=sizeLine->(∀ Δ'',Ok Δ''->Q2 (acc++out x) Δ'' M)->B Δ' M acc Q2)->Ok Δ ->
  acc.length+(xs.flatMap out).length<=sizeLine->(∀ Δ',Ok Δ'->Q (acc++xs.flatMap out) Δ' M)->gh g u5 B (xs.map enc) Δ M acc Q
 |[],Δ,acc,Q,_,ok,_,q=>by
  simp only[List.map_nil,gh]
  have:=q Δ ok
  rwa [List.flatMap_nil,List.append_nil]at this
 |x::xs,Δ,acc,Q,h,ok,hz,q=>by
  rw[List.flatMap_cons,List.length_append]at hz
  rw[List.map_cons]
  simp only[gh,u5,if_true]
  obtain⟨Δ',e,h1⟩:=h x (.head _) Δ ok
  refine⟨Δ',e,h1 acc _ (by omega) fun Δ'' ok'=>⟨by rw[List.length_append];omega,?_⟩⟩
  refine gt enc out Ok xs Δ'' _ Q (fun z hz=>h z (.tail _ hz)) ok' (by rw[List.length_append];omega) fun Δ3 ok3=>?_
  have:=q Δ3 ok3
  rwa [List.flatMap_cons,<-List.append_assoc]at this
theorem pI {α β:Type} {f:α->β}:∀ l:List α,(l.flatMap fun a=>[f a])=l.map f
 |[]=>rfl
 |a::l=>by rw[List.flatMap_cons,pI l];rfl
theorem lZ {α:Type} {f:α->D}:∀ {xs:List α} {n:Nat},mJ n (xs.map f)=(xs.zipIdx n).map fun q=>D.tup [D.int (q.2:Int),f q.1]
 |[],_=>rfl
 |x::xs,n=>by
  rw[List.map_cons,List.zipIdx_cons,List.map_cons,<-lZ]
  rfl
def fE (n:Int) (q:Row×Nat):List Pl:=(List.range (q.1.length+1)).map fun(a:Nat)=>(n,(q.2:Int),(a:Int))
def fA (q:Int×List Row):List Pl:=q.2.zipIdx.flatMap (fE q.1)
def ai (kd:KD):List Pl:=kd.flatMap fA
def gT:SpD:=fun ds M R=>∃ kd:KD,ds=[kdD kd]/\(ai kd).length<=1000000/\R (.lst ((ai kd).map plD)) M
theorem kR {f:Addr} {fd:FuncData} (F:Fun K "places_of" "places_of" cJ f fd) (T:Txt K mg) :aK P w K mg base CX0 1 f fd ["kinds"] (spD K 1 gT):=by
 have nd:=gp.nd
 refine F.okQ rfl gp (fun cdv A outer s H E hr=>⟨_,(am (aM (Em (ms:=[false]) (extra:=["number","rows","kind","row","at"]) (aG (n0:=0) rfl (show aQ (ae cJ) bp _ _=true from by decide +kernel)) rfl (Cn (aa 0)) (nZ (n:=2) rfl (dW (aL (i:=1) (show(bp++_).Nodup from by decide +kernel) rfl rfl) (dW (aL (i:=2) (show(bp++_).Nodup from by decide +kernel) rfl rfl) ox))) (fun _ _ _ _=>cg) (fun _ _ _ _=>(sR rfl T.b_enumerate (ab (aa 2) ac))) (nZ (n:=2) rfl (dW (aL (i:=3) (show(bp++_).Nodup from by decide +kernel) rfl rfl) (dW (aL (i:=4) (show(bp++_).Nodup from by decide +kernel) rfl rfl) ox))) (fun _ _ _ _=>cg) (fun _ _ _ _=>(bz rfl T.b_range (ab (aI aH (aN dR rfl T.b_len (by kernel_rfl) (ab (aa 4) ac)) ak) ac))) (aL (i:=5) (show(bp++_).Nodup from by decide +kernel) rfl rfl) (fun _ _ _ _=>cg) (fun _ _ _ _=>(tV (ab (aa 1) (ab (aa 3) (ab (aa 5) ac)))))))),fun ds M R hl hS=>?_⟩)
 obtain⟨kd,rfl,hz,k⟩:=hS
 walk_at "rd"
 refine⟨kdP kd,rfl,?_⟩
 have hc:dI [false] 5 [some (kdD kd)]=[none,none,none,none,none,none]:=rfl
 have hm:((kdP kd).map fun p=>D.tup [kD p.1,p.2])=kd.map fun q=>D.tup [D.int q.1,D.tup (q.2.map aw)]:=by
  rw[kdP,List.map_map];rfl
 have ho:(kd.flatMap fun q=>(fA q).map plD)=(ai kd).map plD:=by
  rw[ai,List.map_flatMap]
 rw[hc,hm]
 refine gt _ (fun q=>(fA q).map plD) (fun Δ=>∃ a b c d e,Δ=[none,a,b,c,d,e]) kd _ _ _ ?_ ⟨_,_,_,_,_,rfl⟩ (by rw[ho,List.length_map,sizeLine_eq];simp;omega) (by rintro Δ' -;rw[ho,List.nil_append];exact k)
 rintro q hq Δ ⟨a,b,c,d,e,rfl⟩
 refine⟨_,rfl,fun acc Q2 hz2 k2=>?_⟩
 have hk:(q.2.zipIdx.flatMap fun r=>(fE q.1 r).map plD)=(fA q).map plD:=by rw[fA,List.map_flatMap]
 simp only[k5,oT,bD,br,dG]
 refine⟨_,rfl,_,rfl,fun hle=>?_⟩
 rw[lZ]
 refine gt _ (fun r=>(fE q.1 r).map plD) (fun Δ=>∃ c d e,Δ=[none,some (D.int q.1),some (D.tup (q.2.map aw)),c,d,e]) q.2.zipIdx _ _ _ ?_ ⟨_,_,_,rfl⟩ (by rw[hk];exact hz2) (by rintro Δ' ⟨c,d,e,rfl⟩;rw[hk];exact k2 _ ⟨_,_,_,_,_,rfl⟩)
 rintro r hr' Δ ⟨c,d,e,rfl⟩
 refine⟨_,rfl,fun acc3 Q3 hz3 k3=>?_⟩
 simp only[k5,oB,bD,br,dG,dOp,dCB,dC]
 have hl3:(fE q.1 r).length=r.1.length+1:=by simp[fE]
 have ho3:((List.range (r.1.length+1)).flatMap fun(a:Nat)=>[plD (q.1,(r.2:Int),(a:Int))])=(fE q.1 r).map plD:=by
  rw[pI,fE,List.map_map];rfl
 have hz4:=hz3
 rw[List.length_map,hl3,sizeLine_eq]at hz4
 refine⟨_,rfl,.int (r.1.length:Int),by simp[iE,rdM,aw,j3],.int ((r.1.length:Int)+1),rfl,_,rfl,by omega,by omega,?_⟩
 have hj:((r.1.length:Int)+1).toNat=r.1.length+1:=by omega
 rw[hj,gG]
 refine gt (fun(a:Nat)=>D.int (0+(a:Int))) (fun a=>[plD (q.1,(r.2:Int),(a:Int))]) (fun Δ=>∃ e,Δ=[none,some (D.int q.1),some (D.tup (q.2.map aw)),some (D.int (r.2:Int)),some (aw r.1),e]) _ _ _ _ ?_ ⟨_,rfl⟩ (by rw[ho3];exact hz3) (by rintro Δ' ⟨e,rfl⟩;rw[ho3];exact k3 _ ⟨_,_,_,rfl⟩)
 rintro a ha Δ ⟨e,rfl⟩
 refine⟨_,rfl,fun acc4 Q4 hz5 k4=>?_⟩
 simp only[qZ,vN,bD,br,dG]
 refine⟨_,rfl,_,rfl,_,rfl,by simp only[List.length_cons,List.length_nil];rw[sizeLine_eq];decide,?_⟩
 rw[Int.zero_add]
 exact k4 _ ⟨_,rfl⟩
end
section
variable {P:Program} {w:World} {K:PySem.W.Frag} {mg:Str->Option Value} {base:Heap}
abbrev iF:=Option Pl×Pl×Int
def plK (p:Pl):List Key:=[.inl p.1,.inl p.2.1,.inl p.2.2]
theorem iW {p q:Pl} (h:plK p=plK q):p=q:=by
 obtain⟨a,b,c⟩:=p
 obtain⟨d,e,f⟩:=q
 simpa[plK]using h
def cj (l:List (Pl×Int)):List (List Key×D):=l.map fun z=>(plK z.1,.int z.2)
def cnK (cn:List (Pl×List (Pl×Int))):List (List Key×D):=cn.map fun p=>(plK p.1,gK (cj p.2))
def je (s:iF):D:=.tup [s.1.elim .non plD,plD s.2.1,.int s.2.2]
def stK (st:List (Pl×List iF)):List (List Key×D):=st.map fun p=>(plK p.1,.lst (p.2.map je))
def lkP {α:Type} (l:List (Pl×α)) (p:Pl):Option α:=(l.find? fun z=>decide (z.1=p)).map (·.2)
theorem hU {α:Type} (f:α->D) {p:Pl}:∀ {l:List (Pl×α)},aX (l.map fun z=>(plK z.1,f z.2)) (plK p)=(lkP l p).map f
 |[]=>rfl
 |z::l=>by
  rw[List.map_cons]
  by_cases h:z.1=p
  ·rw[bH (by show plK z.1=_;rw[h])];simp[lkP,h]
  ·rw[bC (fun e=>h (iW e)),hU f];simp[lkP,h]
def kA (M:DH) (C q:Addr) (kd:KD) (e:Pl) (st:List (Pl×List iF)) (cn:List (Pl×List (Pl×Int))):Prop :=
 ∃ s c,s≠c/\M q=some (.ins C [("kinds",kdD kd),("end",plD e),("steps",.ref s),("counts",.ref c)])/\M s=some (.dT (stK st))/\M c=some (.dT (cnK cn))
def nxt (p:Pl):Pl:=(p.1,p.2.1,p.2.2+1)
def nG (kd:KD) (p:Pl):Prop:=∃ (rows:List Row) (row:Row) (i j:Nat),p.2=((i:Int),(j:Int))/\look kd p.1=some rows/\rows[i]?=some row
def bK (kd:KD) (p:Pl):Option (Str×Int):=((look kd p.1).bind (·[p.2.1.toNat]?)).bind (·[p.2.2.toNat]?)
def aW (kd:KD) (p:Pl):List Pl:=(List.range ((look kd (p.1+1)).getD []).length).map fun(k:Nat)=>(p.1+1,(k:Int),0)
def eE (ord:List (Str×Str)) (x:Str×Int) (o:Option (Str×Int)):Bool:=o.elim false fun y=>x.2+1==y.2&&lB ord x.2 x.1 y.1
def gi:SpD:=fun ds M R=>∃ (ord:List (Str×Str)) (x:Str×Int) (o:Option (Str×Int)),ds=[.tup (ord.map az),aC x,o.elim .non aC]/\ord.length<=500/\R (.bl (eE ord x o)) M
theorem kf {f:Addr} {fd:FuncData} (F:Fun K "are_joined" "are_joined" dB f fd) (T:Txt K mg) (g_p_cancel:FnD P w K mg base "cancel" 4 3 k9):aK P w K mg base CX0 5 f fd ["order","sign","other"] (spD K 3 gi):=by
 have nd:=fC.nd
 refine F.okQ rfl fC (fun cdv A outer s H E hr=>⟨_,(am (aM (qf (jO y0 (aa 2) tO (by first|exact av _ (by decide) (by decide)|rfl)) (ua (qc g_p_cancel (hr.mono (by decide)) rfl (ab (aa 0) (ab (aa 1) (ab (aa 2) ac)))))))),fun ds M R hl hS=>?_⟩)
 obtain⟨ord,x,o,rfl,ho,k⟩:=hS
 walk_at "rd"
 cases o with
 |none=>rw[if_neg (by simp[rdM,mY])];exact k
 |some y=>rw[if_pos (by simp[aC,rdM,mY])];exact⟨ord,x,y,rfl,ho,k⟩
theorem pL {kd:KD} {p:Pl} {rows:List Row} {row:Row} {i j:Nat} (hp:p.2=((i:Int),(j:Int))) (hlk:look kd p.1=some rows) (hrow:rows[i]?=some row):bK kd p=row[j]?:=by
 have h1:p.2.1.toNat=i:=by rw[hp];rfl
 have h2:p.2.2.toNat=j:=by rw[hp];rfl
 simp[bK,hlk,h1,h2,hrow]
theorem t4 {kd:KD} {p:Pl} {M:DH} {R:D->DH->Prop} (hv:nG kd p) (k:R ((bK kd p).elim .non aC) M):cW [kdD kd,plD p] M R:=by
 obtain⟨rows,row,i,j,hp,hlk,hrow⟩:=hv
 rw[pL hp hlk hrow]at k
 exact⟨kd,p,rows,row,i,j,rfl,hp,hlk,hrow,k⟩
def aS (ord:List (Str×Str)) (kd:KD) (p:Pl) (l:List (Pl×Int)):List iF:=match bK kd p with
 |none=>(aW kd p).map fun b=>(none,b,1)
 |some x=>(l.filter fun z=>eE ord x (bK kd z.1)).map fun z=>(some z.1,nxt z.1,z.2)
def fP (C:Addr):SpD:=fun ds M R=>∃ (ord:List (Str×Str)) (q:Addr) (p:Pl) (kd:KD) (e:Pl) (st:List (Pl×List iF)) (cn:List (Pl×List (Pl×Int))) (l:List (Pl×Int)),ds=[.tup (ord.map az),.ref q,plD p]/\ord.length<=500/\kA M C q kd e st cn /\
 (∀ q∈kd,q.2.length<=1000)/\nG kd p/\((bK kd p).isSome->lkP cn (nxt p)=some l)/\(∀ z∈l,nG kd z.1)/\l.length<=100000/\R (.lst ((aS ord kd p l).map je)) M
theorem jD {f:Addr} {fd:FuncData} (F:Fun K "first_steps" "first_steps" bI f fd) (T:Txt K mg) {C:Addr} (Z:iY K C) (g_p_sign_behind:FnD P w K mg base "sign_behind" 1 2 cW) (g_p_next_place:FnD P w K mg base "next_place" 1 1 gm) (g_p_are_joined:FnD P w K mg base "are_joined" 5 3 gi) (g_p_begins_behind:FnD P w K mg base "begins_behind" 1 2 dU):aK P w K mg base CX0 6 f fd ["order","chart","place"] (spD K 3 (fP C)):=by
 have nd:=eQ.nd
 refine F.okQ rfl eQ (fun cdv A outer s H E hr=>⟨_,(aj (aF (i:=3) nd rfl (Or.inr rfl) (qc g_p_sign_behind (hr.mono (by decide)) rfl (ab (gR Z.c Z.n_kinds (aa 1)) (ab (aa 2) ac))))
   (aj (eh (bt Ff (aa 3) tO (by first|exact av _ (by decide) (by decide)|rfl)) (am (aM (iB (ms:=[false,false,false,false]) (extra:=["begin"]) (aG rfl (show aQ (ae bI) bj _ _=true from by decide +kernel)) rfl (bn (qc g_p_begins_behind (hr.mono (by decide)) rfl (ab (gR Z.c Z.n_kinds (aa 1)) (ab (aa 2) ac)))) (aL (i:=4) (show(bj++_).Nodup from by decide +kernel) rfl rfl) (fun _ _ _ _=>cg) (fun _ _ _ _=>(bV (ab tO (ab (aa 4) (ab ak ac)))))))) cw)
   (am (aM (iB (ms:=[true,true,false,true]) (extra:=["mate","inner"]) (aG rfl (show aQ (ae bI) bj _ _=true from by decide +kernel)) rfl (wW (rq hr.units1 (gR Z.c Z.n_counts (aa 1)) (qc g_p_next_place (hr.mono (by decide)) rfl (ab (aa 2) ac)) (fun _ _=>rfl))) (nZ (n:=2) rfl (dW (aL (i:=4) (show(bj++_).Nodup from by decide +kernel) rfl rfl) (dW (aL (i:=5) (show(bj++_).Nodup from by decide +kernel) rfl rfl) ox))) (fun _ _ _ _=>(jp (hJ (qc g_p_are_joined (hr.mono (by decide)) rfl (ab (aa 0) (ab (aa 3) (ab (qc g_p_sign_behind (hr.mono (by decide)) rfl (ab (gR Z.c Z.n_kinds (aa 1)) (ab (aa 4) ac))) ac))))))) (fun _ _ _ _=>(bV (ab (aa 4) (ab (qc g_p_next_place (hr.mono (by decide)) rfl (ab (aa 4) ac)) (ab (aa 5) ac)))))))))),fun ds M R hl hS=>?_⟩)
 obtain⟨ord,q,p,kd,e,st,cn,l,rfl,ho,hC,hb,hv,hl,hlv,hll,k⟩:=hS
 obtain⟨s,c,hsc,hq,hs,hc⟩:=hC
 walk_at "rd"
 refine⟨_,hq,_,rfl,t4 hv ?_⟩
 unfold aS at k
 cases hx:bK kd p with
 |none =>
  simp only[hx]at k
  rw[if_pos (by rfl)]
  refine⟨_,hq,_,rfl,kd,p,rfl,hb,_,rfl,fun hz=>⟨hz,?_⟩⟩
  have hm:((List.range ((look kd (p.1+1)).getD []).length).map fun(k:Nat)=>plD (p.1+1,(k:Int),0))=(aW kd p).map plD:=by rw[aW,List.map_map];rfl
  have hc:dI [false,false,false,false] 1 [some (D.tup (ord.map az)),some (D.ref q),some (plD p),some ((none:Option (Str×Int)).elim .non aC)]=[none,none,none,none,none]:=rfl
  rw[hm,hc]
  refine a7 plD (fun _=>true) (fun b=>je (none,b,1)) (fun Δ=>∃ x,Δ=[none,none,none,none,x]) _ _ _ ?_ ⟨_,rfl⟩ ?_
  ·rintro b hb' Δ ⟨x,rfl⟩
   refine⟨_,rfl,⟨_,rfl⟩,fun Q1 q=>q,fun _ Q2 q=>?_⟩
   simp only[p7,bD,br,dC,dG]
   exact⟨_,rfl,by simp only[List.length_cons,List.length_nil];rw[sizeLine_eq];decide,q⟩
  ·rw[List.filter_eq_self.mpr (fun _ _=>rfl),List.nil_append]
   rw[List.map_map]at k
   exact k
 |some x =>
  simp only[hx]at k
  rw[if_neg (by simp[aC,rdM,mY])]
  have hlk:=hl (by rw[hx];rfl)
  have hval:aX (cnK cn) (plK (nxt p))=some (gK (cj l)):=by
   rw[cnK,hU (fun l=>gK (cj l)),hlk];rfl
  have hm:((cj l).map fun z=>D.tup [my z.1,z.2])=l.map fun z=>D.tup [plD z.1,D.int z.2]:=by rw[cj,List.map_map];rfl
  refine⟨_,hq,_,rfl,p,rfl,_,gC hc,plK (nxt p),rfl,_,hval,_,rfl,?_,?_⟩
  ·rw[hm,List.length_map,sizeLine_eq];omega
  have hc2:dI [true,true,false,true] 2 [some (D.tup (ord.map az)),some (D.ref q),some (plD p),some ((some x).elim .non aC)]=[some (D.tup (ord.map az)),some (D.ref q),none,some (aC x),none,none]:=rfl
  rw[hm,hc2]
  refine a7 (fun z:Pl×Int=>D.tup [plD z.1,D.int z.2]) (fun z=>eE ord x (bK kd z.1)) (fun z=>je (some z.1,nxt z.1,z.2)) (fun Δ=>∃ a b,Δ=[some (D.tup (ord.map az)),some (D.ref q),none,some (aC x),a,b]) _ _ _ ?_ ⟨_,_,rfl⟩ ?_
  ·rintro z hz Δ ⟨a,b,rfl⟩
   refine⟨_,rfl,⟨_,_,rfl⟩,fun Q1 q1=>?_,fun _ Q2 q1=>?_⟩
   ·simp only[i3,fI,bD,br,dG,uO]
    exact⟨_,rfl,_,rfl,_,rfl,q,_,_,rfl,hq,rfl,_,rfl,rfl,t4 (hlv z hz) ⟨rfl,ord,x,bK kd z.1,rfl,ho,_,rfl,q1⟩⟩
   ·simp only[p7,fI,bD,br,dG]
    exact⟨_,rfl,_,rfl,rfl,z.1,rfl,_,rfl,by simp only[List.length_cons,List.length_nil];rw[sizeLine_eq];decide,q1⟩
  ·rw[List.nil_append]
   rw[List.map_map]at k
   exact k
def uS (l:List (Pl×Int)) (e:Pl) (v:Int):List (Pl×Int):=if(l.any fun z=>decide (z.1=e))=true then l.map fun z=>if z.1=e then(z.1,v)else z else l++[(e,v)]
theorem zJ {l:List (Pl×Int)} {e:Pl} {v:Int}:eG (cj l) (plK e) (.int v)=cj (uS l e v):=by
 have h1:((cj l).any fun kv=>decide (kv.1=plK e))=l.any fun z=>decide (z.1=e):=by
  rw[cj,List.any_map]
  congr 1;funext z
  exact decide_eq_decide.mpr ⟨iW,fun h=>congrArg plK h⟩
 unfold eG uS
 rw[h1]
 split
 ·rw[cj,cj,List.map_map,List.map_map]
  congr 1;funext z
  show(if plK z.1=plK e then _ else _)=_
  by_cases h:z.1=e
  ·rw[if_pos (by rw[h])];simp[h]
  ·rw[if_neg (fun q=>h (iW q))];simp[h]
 ·rw[cj,cj,List.map_append];rfl
theorem wm (l:List (Pl×Int)) (e:Pl) (v:Int):(uS l e v).length<=l.length+1:=by
 unfold uS
 split
 ·rw[List.length_map];omega
 ·simp
def vK (l:List (Pl×Int)) (e:Pl) (v:Int):List (Pl×Int):=uS l e ((lkP l e).getD 0+v)
def c0 (i:Int) (l more:List (Pl×Int)):List (Pl×Int):=more.foldl (fun a z=>vK a z.1 (i*z.2)) l
def bf (p:Pl) (ss:List iF) (cn:List (Pl×List (Pl×Int))):List (Pl×Int):=ss.foldl (fun a s=>c0 s.2.2 a ((lkP cn s.2.1).getD [])) [(p,1)]
def fD (C:Addr):SpD:=fun ds M R=>∃ (q:Addr) (p:Pl) (kd:KD) (e:Pl) (st:List (Pl×List iF)) (cn:List (Pl×List (Pl×Int))) (ss:List iF),ds=[.ref q,plD p]/\kA M C q kd e st cn /\
 lkP st p=some ss/\ss.length<=1000/\(∀ s∈ss,∃ l,lkP cn s.2.1=some l/\l.length<=1000/\∀ z∈l,iI s.2.2 z.2)/\R (gK (cj (bf p ss cn))) M
theorem jy {f:Addr} {fd:FuncData} (F:Fun K "counts_from" "counts_from" cV f fd) (T:Txt K mg) {C:Addr} (Z:iY K C) :aK P w K mg base CX0 1 f fd ["chart","place"] (spD K 2 (fD C)):=by
 have nd:=eW.nd
 refine F.okQ rfl eW (fun cdv A outer s H E hr=>⟨_,(aj (aF (i:=2) nd rfl (Or.inl rfl) (zz hr.units1 (aa 1) ak))
   (aj (bQ PassesOwn.never rfl (bn (rq hr.units1 (gR Z.c Z.n_steps (aa 0)) (aa 1) (fun _ _=>rfl))) (lH rfl (bR (aE (i:=3) nd rfl (Or.inl rfl)) (bR (aE (i:=4) nd rfl (Or.inl rfl)) (bR (aE (i:=5) nd rfl (Or.inl rfl)) kX)))) (am (bQ PassesOwn.never rfl (wW (rq hr.units1 (gR Z.c Z.n_counts (aa 0)) (aa 4) (fun _ _=>rfl))) (lH rfl (bR (aE (i:=6) nd rfl (Or.inl rfl)) (bR (aE (i:=7) nd rfl (Or.inl rfl)) kX))) (am (rZ hr.units1 (aa 2) (aa 6) (aI aH (sN hr.units1 (aa 2) (aa 6) ak ⟨rfl,rfl,rfl,rfl⟩) (aI BS (aa 5) (aa 7))))))))
   (am (aM (Cd (aa 2)))))),fun ds M R hl hS=>?_⟩)
 obtain⟨q,p,kd,e,st,cn,ss,rfl,hC,hp,hsl,hn,k⟩:=hS
 obtain⟨s,c,hsc,hq,hs,hc⟩:=hC
 walk_at "rd"
 intro a ha
 have hqa:q≠a:=fun z=>by rw[z,ha]at hq;cases hq
 have hsa:s≠a:=fun z=>by rw[z,ha]at hs;cases hs
 have hca:c≠a:=fun z=>by rw[z,ha]at hc;cases hc
 have hval:aX (stK st) (plK p)=some (.lst (ss.map je)):=by rw[stK,hU (fun l:List iF=>D.lst (l.map je)),hp];rfl
 refine⟨plK p,rfl,_,by rw[ao hqa];exact hq,_,rfl,_,gC (by rw[ao hsa];exact hs),plK p,rfl,_,hval,_,rfl,fun hz=>?_⟩
 refine aD (fun i Δ M'=>∃ x3 x4 x5 x6 x7 l,Δ=[some (D.ref q),some (plD p),some (D.ref a),x3,x4,x5,x6,x7]/\l=bf p (ss.take i) cn/\l.length<=1+i*1000/\M'=al M a (.dT (cj l))) ⟨_,_,_,_,_,[(p,1)],rfl,by simp[bf],by simp,rfl⟩ ?_ ?_
 ·rintro i d Δ M' X hd ⟨x3,x4,x5,x6,x7,l0,rfl,hl0,hlen,rfl⟩ k'
  obtain⟨t,ht,rfl⟩:=dh hd
  have htm:=List.mem_of_getElem? ht
  have hi:i<ss.length:=(List.getElem?_eq_some_iff.mp ht).1
  obtain⟨l,hl,hll,hmul⟩:=hn t htm
  have hnext:bf p (ss.take (i+1)) cn=c0 t.2.2 l0 l:=by
   rw[List.take_add_one,ht,hl0]
   simp[bf,hl]
  have hval2:aX (cnK cn) (plK t.2.1)=some (gK (cj l)):=by rw[cnK,hU (fun l=>gK (cj l)),hl];rfl
  simp only[je]
  refine⟨_,rfl,?_⟩
  simp only[rR,sI,sw,uO,br]
  refine⟨_,rfl,q,_,_,rfl,by rw[ao hqa];exact hq,rfl,_,rfl,_,plK t.2.1,_,gC (by rw[ao hca];exact hc),rfl,hval2,cj l,rfl,?_⟩
  have hm:((cj l).map fun z=>D.tup [my z.1,z.2])=l.map fun z=>D.tup [plD z.1,D.int z.2]:=by rw[cj,List.map_map];rfl
  rw[hm]
  refine aD (fun j Δ M'=>∃ x6 x7 l1,Δ=[some (D.ref q),some (plD p),some (D.ref a),some (t.1.elim D.non plD),some (plD t.2.1),some (D.int t.2.2),x6,x7]/\l1=c0 t.2.2 l0 (l.take j)/\l1.length<=1+i*1000+j/\M'=al M a (.dT (cj l1))) ⟨_,_,l0,rfl,by simp[c0],by omega,rfl⟩ ?_ ?_
  ·rintro j d2 Δ M' X2 hd2 ⟨y6,y7,l1,rfl,hl1,hlen1,rfl⟩ k2
   obtain⟨z,hz2,rfl⟩:=dh hd2
   have hzm:=List.mem_of_getElem? hz2
   have hj:j<l.length:=(List.getElem?_eq_some_iff.mp hz2).1
   refine⟨_,rfl,?_⟩
   simp only[pQ,dOp,oP,br,dC]
   have hv1:(aX (cj l1) (plK z.1)).getD (D.int 0)=D.int ((lkP l1 z.1).getD 0):=by
    rw[cj,hU D.int]
    cases lkP l1 z.1<;>rfl
   refine⟨_,rfl,by rw[gC ag];rfl,_,rfl,_,plK z.1,gC ag,rfl,_,rfl,_,rfl,.int (t.2.2*z.2),by simp[rdM,iOp,hmul z hzm],?_⟩
   rw[hv1]
   refine⟨.int ((lkP l1 z.1).getD 0+t.2.2*z.2),rfl,_,rfl,_,rfl,a,_,plK z.1,rfl,ag,rfl,?_,k2 _ _ ⟨_,_,vK l1 z.1 (t.2.2*z.2),rfl,?_,?_,?_⟩⟩
   ·rw[cj,List.length_map,sizeLine_eq];omega
   ·rw[List.take_add_one,hz2,hl1];simp[c0]
   ·have:=wm l1 z.1 ((lkP l1 z.1).getD 0+t.2.2*z.2)
    show(uS _ _ _).length<=_
    omega
   ·rw[ay,zJ];rfl
  ·rintro Δ M' ⟨y6,y7,l1,rfl,hl1,hlen1,rfl⟩
   rw[List.length_map,List.take_length]at hl1
   rw[List.length_map]at hlen1
   exact k' _ _ ⟨_,_,_,_,_,l1,rfl,by rw[hnext];exact hl1,by omega,rfl⟩
 ·rintro Δ M' ⟨x3,x4,x5,x6,x7,l0,rfl,hl0,hlen,rfl⟩
  rw[List.length_map,List.take_length]at hl0
  simp only[vJ,tW,br]
  refine⟨_,rfl,a,_,rfl,ag,?_⟩
  rw[i7 ha,hl0]
  exact k
end
section
variable {P:Program} {w:World} {K:PySem.W.Frag} {mg:Str->Option Value} {base:Heap}
def eI {α:Type} (l:List (Pl×α)) (e:Pl) (v:α):List (Pl×α):=if(l.any fun z=>decide (z.1=e))=true then l.map fun z=>if z.1=e then(z.1,v)else z else l++[(e,v)]
theorem xL {α:Type} (f:α->D) {l:List (Pl×α)} {e:Pl} {v:α}:eG (l.map fun z=>(plK z.1,f z.2)) (plK e) (f v)=(eI l e v).map fun z=>(plK z.1,f z.2):=by
 have h1:((l.map fun z=>(plK z.1,f z.2)).any fun kv=>decide (kv.1=plK e))=l.any fun z=>decide (z.1=e):=by
  rw[List.any_map]
  congr 1;funext z
  exact decide_eq_decide.mpr ⟨iW,fun h=>congrArg plK h⟩
 unfold eG eI
 rw[h1]
 split
 ·rw[List.map_map,List.map_map]
  congr 1;funext z
  show(if plK z.1=plK e then _ else _)=_
  by_cases h:z.1=e
  ·rw[if_pos (by rw[h])];simp[h]
  ·rw[if_neg (fun q=>h (iW q))];simp[h]
 ·rw[List.map_append];rfl
theorem qx {α:Type} (l:List (Pl×α)) (e:Pl) (v:α):(eI l e v).length<=l.length+1:=by
 unfold eI
 split
 ·rw[List.length_map];omega
 ·simp
abbrev ChS:=List (Pl×List iF)×List (Pl×List (Pl×Int))
def hV (ord:List (Str×Str)) (kd:KD) (S:ChS) (p:Pl):ChS :=
 let ss:=aS ord kd p ((lkP S.2 (nxt p)).getD [])
 (eI S.1 p ss,eI S.2 p (bf p ss S.2))
def cb (ord:List (Str×Str)) (kd:KD) (ps:List Pl):ChS:=ps.foldl (hV ord kd) ([],[])
def AZ (ord:List (Str×Str)) (kd:KD) (cn:List (Pl×List (Pl×Int))) (p:Pl):Prop :=
 nG kd p/\((bK kd p).isSome->(lkP cn (nxt p)).isSome=true)/\(∀ z∈(lkP cn (nxt p)).getD [],nG kd z.1)/\((lkP cn (nxt p)).getD []).length<=100000 /\
 (aS ord kd p ((lkP cn (nxt p)).getD [])).length<=1000/\∀ s∈aS ord kd p ((lkP cn (nxt p)).getD []),∃ l,lkP cn s.2.1=some l/\l.length<=1000/\∀ z∈l,iI s.2.2 z.2
def zC (ord:List (Str×Str)) (kd:KD) (m:Int):Prop:=ord.length<=500/\(∀ q∈kd,q.2.length<=1000)/\yI (kd.map (·.1))=some m/\(ai kd).length<=100000 /\
 ∀ i p,(ai kd).reverse[i]?=some p->AZ ord kd (cb ord kd ((ai kd).reverse.take i)).2 p
def chM (M:DH) (C q s c:Addr) (kd:KD) (e:Pl) (S:ChS):DH :=
 al (al (al M q (.ins C [("kinds",kdD kd),("end",plD e),(("steps":Str),.ref s),(("counts":Str),.ref c)])) s (.dT (stK S.1))) c (.dT (cnK S.2))
section
variable {M:DH} {C q s c:Addr} {kd:KD} {e:Pl} {S:ChS}
theorem xx (h1:q≠s) (h2:q≠c):chM M C q s c kd e S q=some (.ins C [("kinds",kdD kd),("end",plD e),(("steps":Str),.ref s),(("counts":Str),.ref c)]):=by
 unfold chM;rw[ao h2,ao h1,ag]
theorem Ad (h:s≠c):chM M C q s c kd e S s=some (.dT (stK S.1)):=by
 unfold chM;rw[ao h,ag]
theorem Ah:chM M C q s c kd e S c=some (.dT (cnK S.2)):=ag
theorem rV (h1:q≠s) (h2:q≠c) (h:s≠c):kA (chM M C q s c kd e S) C q kd e S.1 S.2:=⟨s,c,h,xx h1 h2,Ad h,Ah⟩
theorem xH (h:s≠c) {x:List (Pl×List iF)}:al (chM M C q s c kd e S) s (.dT (stK x))=chM M C q s c kd e (x,S.2):=by
 unfold chM
 rw[bJ (Ne.symm h),ay]
theorem vC {y:List (Pl×List (Pl×Int))}:al (chM M C q s c kd e S) c (.dT (cnK y))=chM M C q s c kd e (S.1,y):=by
 unfold chM
 rw[ay]
end
theorem wB {α:Type} {p:Pl} {v:α}:∀ {l:List (Pl×α)},lkP (eI l p v) p=some v:=by
 intro l
 unfold eI
 split
 ·rename_i h
  induction l with
  |nil=>simp at h
  |cons z l ih =>
   by_cases hz:z.1=p
   ·simp[lkP,hz]
   ·have h':(l.any fun z=>decide (z.1=p))=true:=by simpa[hz]using h
    have:=ih h'
    simpa[lkP,hz]using this
 ·rename_i h
  have:∀ z∈l,z.1≠p:=fun z hz e=>h (List.any_eq_true.mpr ⟨z,hz,by simp[e]⟩)
  induction l with
  |nil=>simp[lkP]
  |cons z l ih =>
   have hz:=this z (.head _)
   have:=ih (fun h2=>h (by simp[h2])) (fun w hw=>this w (.tail _ hw))
   simpa[lkP,hz]using this
def jG (C:Addr):SpD:=fun ds M R=>∃ (ord:List (Str×Str)) (kd:KD) (m:Int) (q:Addr),ds=[.ref q,.tup (ord.map az),kdD kd]/\M q=some (.ins C [])/\zC ord kd m /\
 ∀ s c,M s=none->M c=none->s≠c->R .non (chM M C q s c kd (m,0,1) (cb ord kd (ai kd).reverse))
theorem qT {f:Addr} {fd:FuncData} (F:Fun K "__init__" "Chart.__init__" jm f fd) (T:Txt K mg) {C:Addr} (Z:iY K C) (g_p_last_place:FnD P w K mg base "last_place" 1 1 gn) (g_p_places_of:FnD P w K mg base "places_of" 1 1 gT) (g_p_first_steps:FnD P w K mg base "first_steps" 6 3 ((fP C))) (g_p_counts_from:FnD P w K mg base "counts_from" 1 2 ((fD C))):aK P w K mg base CX0 7 f fd ["self","order","kinds"] (spD K 3 (jG C)):=by
 have nd:=lc.nd
 refine F.okQ rfl lc (fun cdv A outer s H E hr=>⟨_,(aj (oI Z.c Z.n_kinds (aa 0) (aa 2))
   (aj (oI Z.c Z.n_end (aa 0) (qc g_p_last_place (hr.mono (by decide)) rfl (ab (aa 2) ac)))
   (aj (oI Z.c Z.n_steps (aa 0) B1)
   (aj (oI Z.c Z.n_counts (aa 0) B1)
   (am (bQ PassesOwn.never rfl (zi rfl T.b_reversed (ab (qc g_p_places_of (hr.mono (by decide)) rfl (ab (aa 2) ac)) ac)) (aE (i:=3) nd rfl (Or.inl rfl)) (aj (rZ hr.units1 (gR Z.c Z.n_steps (aa 0)) (aa 3) (qc g_p_first_steps (hr.mono (by decide)) rfl (ab (aa 1) (ab (aa 0) (ab (aa 3) ac)))))
   (am (rZ hr.units1 (gR Z.c Z.n_counts (aa 0)) (aa 3) (qc g_p_counts_from (hr.mono (by decide)) rfl (ab (aa 0) (ab (aa 3) ac)))))))))))),fun ds M R hl hS=>?_⟩)
 obtain⟨ord,kd,m,q,rfl,hq,⟨ho,hb,hm,hz,hst⟩,k⟩:=hS
 walk_at "rd"
 have p2:pK "end" (plD (m,0,1)) [(("kinds":Str),kdD kd)]=[(("kinds":Str),kdD kd),(("end":Str),plD (m,0,1))]:=rfl
 refine⟨[],hq,by simp,kd,m,rfl,hm,[(("kinds":Str),kdD kd)],ag,by simp,fun s hs=>?_⟩
 rw[p2]at hs ⊢
 rw[ay]at hs ⊢
 have hqs:q≠s:=fun z=>by rw[<-z,ag]at hs;cases hs
 have hs0:M s=none:=by rw[ao (Ne.symm hqs)]at hs;exact hs
 refine⟨[(("kinds":Str),kdD kd),(("end":Str),plD (m,0,1))],by rw[ao hqs,ag],by simp,fun c hc=>?_⟩
 have p3:pK "steps" (.ref s) [(("kinds":Str),kdD kd),(("end":Str),plD (m,0,1))]=[(("kinds":Str),kdD kd),(("end":Str),plD (m,0,1)),(("steps":Str),.ref s)]:=rfl
 rw[p3]at hc ⊢
 have hqc:q≠c:=fun z=>by rw[<-z,ag]at hc;cases hc
 rw[ao (Ne.symm hqc)]at hc
 have hsc:s≠c:=fun z=>by rw[<-z,ag]at hc;cases hc
 have hc0:M c=none:=by rw[ao (Ne.symm hsc),ao (Ne.symm hqc)]at hc;exact hc
 refine⟨[(("kinds":Str),kdD kd),(("end":Str),plD (m,0,1)),(("steps":Str),.ref s)],by rw[ao hqc,ag],by simp,?_⟩
 have p4:pK "counts" (.ref c) [(("kinds":Str),kdD kd),(("end":Str),plD (m,0,1)),(("steps":Str),.ref s)]=[(("kinds":Str),kdD kd),(("end":Str),plD (m,0,1)),(("steps":Str),.ref s),(("counts":Str),.ref c)]:=rfl
 rw[p4]
 have hM:al (al (al (al (al M q (.ins C [(("kinds":Str),kdD kd),(("end":Str),plD (m,0,1))])) s (.dT [])) q (.ins C [(("kinds":Str),kdD kd),(("end":Str),plD (m,0,1)),(("steps":Str),.ref s)])) c (.dT [])) q (.ins C [(("kinds":Str),kdD kd),(("end":Str),plD (m,0,1)),(("steps":Str),.ref s),(("counts":Str),.ref c)])=chM M C q s c kd (m,0,1) ([],[]):=by
  unfold chM
  rw[bJ (Ne.symm hqc),ay,bJ (Ne.symm hqs),ay]
  rfl
 rw[hM]
 refine⟨kd,rfl,by omega,_,rfl,fun hle=>?_⟩
 rw[<-List.map_reverse]
 refine aD (fun i Δ M'=>∃ x S,Δ=[some (D.ref q),some (D.tup (ord.map az)),some (kdD kd),x]/\S=cb ord kd ((ai kd).reverse.take i)/\S.1.length<=i/\S.2.length<=i/\M'=chM M C q s c kd (m,0,1) S) ⟨_,([],[]),rfl,by simp[cb],by simp,by simp,rfl⟩ ?_ ?_
 ·rintro i d Δ M' X hd ⟨x,S,rfl,hS,h1,h2,rfl⟩ k'
  obtain⟨p,hp,rfl⟩:=dh hd
  have hi:i<(ai kd).reverse.length:=(List.getElem?_eq_some_iff.mp hp).1
  rw[List.length_reverse]at hi
  have hok:=hst i p hp
  rw[<-hS]at hok
  obtain⟨hv,hsome,hzv,hll,hss,hstep⟩:=hok
  refine⟨_,rfl,?_⟩
  simp only[oK,pQ,uO,fI,bD,br,dG]
  refine⟨_,rfl,_,rfl,_,rfl,rfl,ord,q,p,kd,(m,0,1),S.1,S.2,(lkP S.2 (nxt p)).getD [],rfl,ho,rV hqs hqc hsc,hb,hv,fun h=>?_,hzv,hll,?_⟩
  ·obtain⟨l,hl⟩:=Option.isSome_iff_exists.mp (hsome h)
   rw[hl];rfl
  refine⟨_,rfl,q,_,_,rfl,xx hqs hqc,rfl,_,rfl,s,_,plK p,rfl,Ad hsc,rfl,by rw[stK,List.length_map,sizeLine_eq];omega,?_⟩
  generalize hss0:aS ord kd p ((lkP S.2 (nxt p)).getD [])=ss at *
  have hput:eG (stK S.1) (plK p) (D.lst (ss.map je))=stK (eI S.1 p ss):=xL (fun l:List iF=>D.lst (l.map je))
  have hput2:eG (cnK S.2) (plK p) (gK (cj (bf p ss S.2)))=cnK (eI S.2 p (bf p ss S.2)):=xL (fun l=>gK (cj l))
  rw[hput,xH hsc]
  refine⟨_,rfl,_,rfl,rfl,q,p,kd,(m,0,1),eI S.1 p ss,S.2,ss,rfl,rV hqs hqc hsc,wB,hss,hstep,?_⟩
  refine⟨_,rfl,q,_,_,rfl,xx hqs hqc,rfl,_,rfl,c,cnK S.2,plK p,rfl,Ah,rfl,by rw[cnK,List.length_map,sizeLine_eq];omega,?_⟩
  rw[hput2,vC]
  refine k' _ _ ⟨_,_,rfl,?_,?_,?_,rfl⟩
  ·rw[List.take_add_one,hp,cb,List.foldl_append]
   show _=hV ord kd (cb ord kd ((ai kd).reverse.take i)) p
   rw[<-hS]
   simp only[hV,hss0]
  ·have:=qx S.1 p ss
   show(eI S.1 p ss).length<=_
   omega
  ·have:=qx S.2 p (bf p ss S.2)
   show(eI S.2 p _).length<=_
   omega
 ·rintro Δ M' ⟨x,S,rfl,hS,h1,h2,rfl⟩
  rw[List.length_map,List.take_length]at hS
  rw[hS]
  exact k s c hs0 hc0 hsc
def ci:Pl:=(-1,0,0)
def eX (C:Addr):SpD:=fun ds M R=>∃ (q:Addr) (kd:KD) (e:Pl) (st:List (Pl×List iF)) (cn:List (Pl×List (Pl×Int))) (l:List (Pl×Int)),ds=[.ref q]/\kA M C q kd e st cn/\lkP cn ci=some l/\R (.int ((lkP l e).getD 0)) M
theorem ja {f:Addr} {fd:FuncData} (F:Fun K "count_of_all" "count_of_all" cI f fd) (T:Txt K mg) {C:Addr} (Z:iY K C) :aK P w K mg base CX0 1 f fd ["chart"] (spD K 1 (eX C)):=by
 have nd:=dS.nd
 refine F.okQ rfl dS (fun cdv A outer s H E hr=>⟨_,(am (aM (sN hr.units1 (AD hr.units1 (gR Z.c Z.n_counts (aa 0)) (t5 rfl T.g_START) (fun _ _=>rfl)) (gR Z.c Z.n_end (aa 0)) ak ⟨rfl,rfl,rfl,rfl⟩))),fun ds M R hl hS=>?_⟩)
 obtain⟨q,kd,e,st,cn,l,rfl,hC,hl,k⟩:=hS
 obtain⟨s,c,hsc,hq,hs,hc⟩:=hC
 walk_at "rd"
 have hval:aX (cnK cn) (plK ci)=some (gK (cj l)):=by rw[cnK,hU (fun l=>gK (cj l)),hl];rfl
 refine⟨_,hq,_,rfl,_,gC hc,plK ci,rfl,_,hval,by rw[pP];rfl,_,hq,_,rfl,_,pP,plK e,rfl,?_⟩
 have:(aX (cj l) (plK e)).getD (D.int 0)=D.int ((lkP l e).getD 0):=by
  rw[cj,hU D.int]
  cases lkP l e<;>rfl
 rw[this];exact k
end
section
variable {P:Program} {w:World} {K:PySem.W.Frag} {mg:Str->Option Value} {base:Heap}
def bS (ents:List (Str×List Row)) (ws:List Str):KD:=ws.zipIdx.map fun q=>((q.2:Int),kin ents q.1)
def bw (ents:List (Str×List Row)) (goal:Str) (ws:List Str):KD:=(-1,[[]])::bS ents ws++[((ws.length:Int),[[(goal,1)]])]
theorem tH {kd:KD} {n:Int} {rs:List Row} (h:∀ p∈kd,p.1≠n):eG (kdP kd) (.inl n) (bU rs)=kdP (kd++[(n,rs)]):=by
 have:((kdP kd).any fun kv=>decide (kv.1=.inl n))=false:=by
  rw[List.any_eq_false]
  intro x hx
  obtain⟨p,hp,rfl⟩:=List.mem_map.mp hx
  have:=h p hp
  simpa using this
 unfold eG
 rw[this,if_neg (by simp),kdP,kdP,List.map_append]
 rfl
theorem tR {ents:List (Str×List Row)} {ws:List Str} {n:Int} {r:List Row} (h0:(-1:Int)≠n) (h:(ws.length:Int)<=n):∀ p∈((-1,r)::bS ents ws:KD),p.1≠n:=by
 intro p hp
 rcases List.mem_cons.mp hp with e|hp
 ·rw[e];exact h0
 ·obtain⟨t,ht,rfl⟩:=List.mem_map.mp hp
  have:=List.mem_zipIdx ht
  show(t.2:Int)≠n
  omega
def c7:SpD:=fun ds M R=>∃ (ord:List (Str×Str)) (goal:Str) (ents:List (Str×List Row)) (ws:List Str),ds=[cP ord goal ents,.tup (ws.map .str)]/\ents.length<=8/\ws.length<=100/\(∀ w∈ws,w∈ents.map (·.1)/\fh w)/\R (kdD (bw ents goal ws)) M
theorem gk {f:Addr} {fd:FuncData} (F:Fun K "kinds_by_number" "kinds_by_number" b7 f fd) (T:Txt K mg) (g_p_kinds_of:FnD P w K mg base "kinds_of" 3 2 i4) (g_p_goals_wish:FnD P w K mg base "goals_wish" 1 1 ga):aK P w K mg base CX0 4 f fd ["lexicon","words"] (spD K 2 c7):=by
 have nd:=cU.nd
 refine F.okQ rfl cU (fun cdv A outer s H E hr=>⟨_,(aj (aF (i:=2) nd rfl (Or.inl rfl) (zr (aO aP (t5 rfl T.g_START) ak (fun _ _=>rfl)) (bV (ab (bV ac) ac))))
   (aj (bQ PassesOwn.never rfl (sR rfl T.b_enumerate (ab (aa 1) ac)) (lH rfl (bR (aE (i:=3) nd rfl (Or.inl rfl)) (bR (aE (i:=4) nd rfl (Or.inl rfl)) kX))) (am (xR hr.units1 (aa 2) (aa 3) (qc g_p_kinds_of (hr.mono (by decide)) rfl (ab (aa 0) (ab (aa 4) ac))))))
   (aj (xR hr.units1 (aa 2) (aN dR rfl T.b_len (by kernel_rfl) (ab (aa 1) ac)) (bV (ab (qc g_p_goals_wish (hr.mono (by decide)) rfl (ab (aa 0) ac)) ac)))
   (am (aM (Az (aa 2))))))),fun ds M R hl hS=>?_⟩)
 obtain⟨ord,goal,ents,ws,rfl,hl,hw,hws,k⟩:=hS
 walk_at "rd"
 intro a ha
 refine⟨Nat.zero_le _,by rw[sizeLine_eq];decide,.inl (-1),rfl,fun hz=>?_⟩
 rw[lZ]
 refine aD (fun i Δ M'=>∃ x3 x4,Δ=[some (cP ord goal ents),some (D.tup (ws.map D.str)),some (D.ref a),x3,x4]/\M'=al M a (.dK (kdP ((-1,[[]])::bS ents (ws.take i))))) ⟨_,_,rfl,rfl⟩ ?_ ?_
 ·rintro i d Δ M' X hd ⟨x3,x4,rfl,rfl⟩ k'
  obtain⟨t,ht,rfl⟩:=dh hd
  have hti:ws[i]?=some t.1/\t.2=i:=by
   rw[List.getElem?_zipIdx]at ht
   cases hw':ws[i]? with
   |none=>rw[hw']at ht;cases ht
   |some x=>rw[hw']at ht;cases ht;exact⟨rfl,by simp⟩
  have hmem:=List.mem_of_getElem? hti.1
  have hi:i<ws.length:=(List.getElem?_eq_some_iff.mp hti.1).1
  refine⟨_,rfl,?_⟩
  simp only[pq,fI,bD,br,dG]
  refine⟨_,rfl,_,rfl,rfl,ord,goal,ents,t.1,rfl,hl,(hws _ hmem).1,(hws _ hmem).2,?_⟩
  refine⟨_,rfl,_,rfl,a,_,.inl (t.2:Int),rfl,ag,rfl,?_,?_⟩
  ·rw[kdP,List.length_map,List.length_cons,bS,List.length_map,List.length_zipIdx,List.length_take,sizeLine_eq];omega
  rw[ay,tH (tR (by omega) (by rw[hti.2,List.length_take];omega) )]
  refine k' _ _ ⟨_,_,rfl,?_⟩
  rw[List.take_add_one,hti.1,hti.2]
  simp[bS,List.zipIdx_append,List.length_take,Nat.min_eq_left (Nat.le_of_lt hi)]
 ·rintro Δ M' ⟨x3,x4,rfl,rfl⟩
  rw[List.length_map,List.length_zipIdx,List.take_length]
  simp only[oK,pq,fI,bD,br,dG,dCB,p7,vJ,t6]
  refine⟨_,rfl,rfl,ord,goal,ents,rfl,by simp only[List.length_cons,List.length_nil];rw[sizeLine_eq];decide,_,rfl,_,rfl,.int (ws.length:Int),?_,a,_,.inl (ws.length:Int),rfl,ag,rfl,?_,_,rfl,a,_,rfl,ag,?_⟩
  ·simp[iE,rdM,j3]
  ·rw[kdP,List.length_map,List.length_cons,bS,List.length_map,List.length_zipIdx,sizeLine_eq];omega
  ·rw[ay,i7 ha]
   have:=tH (kd:=(-1,[[]])::bS ents ws) (n:=(ws.length:Int)) (rs:=[[(goal,1)]]) (tR (by omega) (Int.le_refl _))
   rw[show D.tup [aw [(goal,1)]]=bU [[(goal,1)]]from rfl,this]
   exact k
def iV (C:Addr):SpD:=fun ds M R=>∃ (ord:List (Str×Str)) (goal:Str) (ents:List (Str×List Row)) (ws:List Str) (m:Int),ds=[cP ord goal ents,.tup (ws.map .str)]/\ents.length<=8/\ws.length<=100/\(∀ w∈ws,w∈ents.map (·.1)/\fh w)/\zC ord (bw ents goal ws) m /\
 ∀ q s c,M q=none->M s=none->M c=none->q≠s->q≠c->s≠c->R (.ref q) (chM M C q s c (bw ents goal ws) (m,0,1) (cb ord (bw ents goal ws) (ai (bw ents goal ws)).reverse))
theorem mC {f:Addr} {fd:FuncData} (F:Fun K "chart_of" "chart_of" fw f fd) (T:Txt K mg) {C:Addr} (g_p_Chart:MkD P w K mg base "Chart" C 7 3 ((jG C))) (g_p_kinds_by_number:FnD P w K mg base "kinds_by_number" 4 2 c7):aK P w K mg base CX0 9 f fd ["lexicon","words"] (spD K 2 (iV C)):=by
 have nd:=gQ.nd
 refine F.okQ rfl gQ (fun cdv A outer s H E hr=>⟨_,(am (aM (AI g_p_Chart (hr.mono (by decide)) rfl (ab (aO aP (aa 0) ak (fun _ _=>rfl)) (ab (qc g_p_kinds_by_number (hr.mono (by decide)) rfl (ab (aa 0) (ab (aa 1) ac))) ac))))),fun ds M R hl hS=>?_⟩)
 obtain⟨ord,goal,ents,ws,m,rfl,hl,hw,hws,hok,k⟩:=hS
 have hx:cP ord goal ents=D.tup [D.tup (ord.map az),D.str goal,D.tup (ents.map iG)]:=rfl
 rw[hx]
 walk_at "rd"
 refine⟨ord,goal,ents,ws,rfl,hl,hw,hws,fun q hq=>⟨ord,_,m,q,rfl,ag,hok,fun s c hs hc hsc=>⟨rfl,?_⟩⟩⟩
 have hqs:q≠s:=fun z=>by rw[<-z,ag]at hs;cases hs
 have hqc:q≠c:=fun z=>by rw[<-z,ag]at hc;cases hc
 rw[ao (Ne.symm hqs)]at hs
 rw[ao (Ne.symm hqc)]at hc
 have:=k q s c hq hs hc hqs hqc hsc
 unfold chM at this ⊢
 rw[ay]
 exact this
def pM (ord:List (Str×Str)) (goal:Str) (ents:List (Str×List Row)) (ws:List Str) (n:Int):Prop:=ents.length<=8/\ws.length<=100/\(∀ w∈ws,w∈ents.map (·.1)/\fh w) /\
 ∃ m l,zC ord (bw ents goal ws) m/\lkP (cb ord (bw ents goal ws) (ai (bw ents goal ws)).reverse).2 ci=some l/\n=(lkP l (m,0,1)).getD 0
def pU:SpD:=fun ds M R=>∃ (ord:List (Str×Str)) (goal:Str) (ents:List (Str×List Row)) (ws:List Str) (n:Int),ds=[cP ord goal ents,.tup (ws.map .str)]/\pM ord goal ents ws n/\R (.int n) M
theorem ux {f:Addr} {fd:FuncData} (F:Fun K "many" "many" lu f fd) (T:Txt K mg) {C:Addr} (g_p_count_of_all:FnD P w K mg base "count_of_all" 1 1 ((eX C))) (g_p_chart_of:FnD P w K mg base "chart_of" 9 2 ((iV C))):aK P w K mg base CX0 10 f fd ["lexicon","words"] (spD K 2 pU):=by
 have nd:=nu.nd
 refine F.okQ rfl nu (fun cdv A outer s H E hr=>⟨_,(am (l7 (qc g_p_count_of_all (hr.mono (by decide)) rfl (ab (qc g_p_chart_of (hr.mono (by decide)) rfl (ab (aa 0) (ab (aa 1) ac))) ac)))),fun ds M R hl hS=>?_⟩)
 obtain⟨ord,goal,ents,ws,n,rfl,⟨hl,hw,hws,m,l,hok,hst,hn⟩,k⟩:=hS
 walk_at "rd"
 refine⟨ord,goal,ents,ws,m,rfl,hl,hw,hws,hok,fun q s c hq hs hc hqs hqc hsc=>?_⟩
 refine⟨q,_,_,_,_,l,rfl,rV hqs hqc hsc,hst,M,fun a u e=>?_,by rw[hn]at k;exact k⟩
 have h1:a≠q:=fun z=>by rw[z,hq]at e;cases e
 have h2:a≠s:=fun z=>by rw[z,hs]at e;cases e
 have h3:a≠c:=fun z=>by rw[z,hc]at e;cases e
 unfold chM
 rw[ao h3,ao h2,ao h1];exact e
def fM:SpD:=fun ds M R=>∃ (ord:List (Str×Str)) (goal:Str) (ents:List (Str×List Row)) (ws:List Str) (n:Int),ds=[cP ord goal ents,.tup (ws.map .str)]/\pM ord goal ents ws n/\R (.bl (decide (0<n))) M
theorem jB {f:Addr} {fd:FuncData} (F:Fun K "is_sentence" "is_sentence" cZ f fd) (T:Txt K mg) (g_p_many:FnD P w K mg base "many" 10 2 pU):aK P w K mg base CX0 11 f fd ["lexicon","words"] (spD K 2 fM):=by
 have nd:=eP.nd
 refine F.okQ rfl eP (fun cdv A outer s H E hr=>⟨_,(am (aM (jO DG (qc g_p_many (hr.mono (by decide)) rfl (ab (aa 0) (ab (aa 1) ac))) ak (by first|exact av _ (by decide) (by decide)|rfl)))),fun ds M R hl hS=>?_⟩)
 obtain⟨ord,goal,ents,ws,n,rfl,h,k⟩:=hS
 walk_at "rd"
 exact⟨ord,goal,ents,ws,n,rfl,h,_,rfl,k⟩
end
section
variable {P:Program} {w:World} {K:PySem.W.Frag} {mg:Str->Option Value} {base:Heap}
theorem lv {β:Type} {g:GD} {tc:TTd} {te:TEd} {M:DH} {Q:List D->DE->DH->Prop} (enc:β->D) (y:β->D) (Ok:DE->Prop):∀ (zs:List β) (Δ:DE) (acc:List D),
  (∀ z∈zs,∀ Δ,Ok Δ->∃ Δ',g (enc z) Δ=some Δ'/\Ok Δ'/\(∀ Q1:Bool->DH->Prop,Q1 true M->tc Δ' M Q1)/\(∀ Q2:D->DH->Prop,Q2 (y z) M->te Δ' M Q2))->Ok Δ ->
  (∀ Δ',Ok Δ'->Q (acc++zs.map y) Δ' M)->fc g tc te (zs.map enc) Δ M acc Q
 |[],Δ,acc,_,ok,q=>by simpa[fc]using q Δ ok
 |z::zs,Δ,acc,h,ok,q=>by
  obtain⟨Δ',e,ok',h1,h2⟩:=h z (.head _) Δ ok
  simp only[List.map_cons,fc]
  refine⟨Δ',e,h1 _ ?_⟩
  simp only[if_true]
  refine h2 _ (lv enc y Ok zs Δ' _ (fun z hz=>h z (.tail _ hz)) ok' fun Δ'' o=>?_)
  rw[List.append_assoc];exact q Δ'' o
theorem lG {α β:Type} {g0:GD} {tc0:TTd} {wi:TId} {g:GD} {tc:TTd} {te:TEd} {M:DH} {Q:List D->DH->Prop} (enc0:α->D) (enc:β->D) (inner:α->List β) (y:α->β->D) (Ok:DE->Prop) (Ok1:α->DE->Prop) (hk:∀ x Δ,Ok1 x Δ->Ok Δ):∀ (xs:List α) (Δ:DE) (acc:List D),
  (∀ x∈xs,∀ Δ,Ok Δ->∃ Δ',g0 (enc0 x) Δ=some Δ'/\Ok1 x Δ'/\(∀ Q1:Bool->DH->Prop,Q1 true M->tc0 Δ' M Q1)/\(∀ Q2:List D->DH->Prop,Q2 ((inner x).map enc) M->wi Δ' M Q2)) ->
  (∀ x∈xs,∀ z∈inner x,∀ Δ,Ok1 x Δ->∃ Δ',g (enc z) Δ=some Δ'/\Ok1 x Δ'/\(∀ Q1:Bool->DH->Prop,Q1 true M->tc Δ' M Q1)/\(∀ Q2:D->DH->Prop,Q2 (y x z) M->te Δ' M Q2))->Ok Δ ->
  acc.length+(xs.flatMap inner).length<=sizeLine->Q (acc++xs.flatMap fun x=>(inner x).map (y x)) M->eD g0 tc0 wi g tc te (xs.map enc0) Δ M acc Q
 |[],Δ,acc,_,_,_,_,q=>by simpa[eD]using q
 |x::xs,Δ,acc,h0,h1,ok,hz,q=>by
  obtain⟨Δ',e,ok',c1,c2⟩:=h0 x (.head _) Δ ok
  simp only[List.flatMap_cons,List.length_append]at hz
  simp only[List.map_cons,eD]
  refine⟨Δ',e,c1 _ ?_⟩
  simp only[if_true]
  refine c2 _ ⟨by rw[List.length_map];omega,lv enc (y x) (Ok1 x) _ _ _ (h1 x (.head _)) ok' fun Δ'' o=>?_⟩
  refine lG enc0 enc inner y Ok Ok1 hk xs Δ'' _ (fun z hz=>h0 z (.tail _ hz)) (fun z hz=>h1 z (.tail _ hz)) (hk x _ o) (by rw[List.length_append,List.length_map];omega) ?_
  rw[List.append_assoc]
  simpa only[List.flatMap_cons]using q
end
section
variable {P:Program} {w:World} {K:PySem.W.Frag} {mg:Str->Option Value} {base:Heap}
def aB (xs:List Str):Nat->List (List Str)
 |0=>[[]]
 |n+1=>(aB xs n).flatMap fun r=>xs.map fun x=>r++[x]
def wsD (r:List Str):D:=.tup (r.map .str)
theorem iJ {xs:List Str} (hx:xs.length<=8):∀ n,(aB xs n).length<=8 ^ n
 |0=>by simp[aB]
 |n+1=>by
  have ih:=iJ hx n
  have h1:(aB xs (n+1)).length=(aB xs n).length*xs.length:=by
   simp only[aB,List.length_flatMap,List.length_map]
   generalize aB xs n=l
   induction l with
   |nil=>simp
   |cons a l ih2=>rw[List.map_cons,List.sum_cons,ih2,List.length_cons,Nat.succ_mul];omega
  rw[h1,Nat.pow_succ]
  exact Nat.mul_le_mul ih hx
theorem iz {xs:List Str}:∀ {n:Nat} {r:List Str},r∈aB xs n->r.length=n
 |0,r,h=>by simp[aB]at h;rw[h];rfl
 |n+1,r,h=>by
  simp only[aB,List.mem_flatMap,List.mem_map]at h
  obtain⟨q,hq,x,_,rfl⟩:=h
  rw[List.length_append,iz hq];rfl
def gN:SpD:=fun ds M R=>∃ (xs:List Str) (n:Nat),ds=[.lst (xs.map .str),.int (n:Int)]/\xs.length<=8/\n<=4/\R (.lst ((aB xs n).map wsD)) M
theorem k8 {f:Addr} {fd:FuncData} (F:Fun K "tuples_of" "tuples_of" cL f fd) (T:Txt K mg) :aK P w K mg base CX0 1 f fd ["parts","length"] (spD K 2 gN):=by
 have nd:=fZ.nd
 refine F.okQ rfl fZ (fun cdv A outer s H E hr=>⟨_,(aj (aF (i:=2) nd rfl (Or.inl rfl) (jc (ab (bV ac) ac)))
   (aj (bQ PassesOwn.never rfl (bz rfl T.b_range (ab (aa 1) ac)) (aE (i:=3) nd rfl (Or.inl rfl)) (am (wo (i:=2) nd rfl rfl rfl (ms:=[true,false,false,false]) (extra:=["longer","part"]) (aG rfl (show aQ (ae cL) cK _ _=true from by decide +kernel)) rfl (bn (aa 2)) (aL (i:=4) (show(cK++_).Nodup from by decide +kernel) rfl rfl) (fun _ _ _ _=>cg) (fun _ _ _ _=>(bn (aa 0))) (aL (i:=5) (show(cK++_).Nodup from by decide +kernel) rfl rfl) (fun _ _ _ _=>cg) (fun _ _ _ _=>(aI aH (aa 4) (bV (ab (aa 5) ac)))))))
   (am (aM (aa 2))))),fun ds M R hl hS=>?_⟩)
 obtain⟨xs,n,rfl,hx,hn,k⟩:=hS
 walk_at "rd"
 refine⟨Nat.zero_le _,by rw[sizeLine_eq];decide,by omega,by omega,?_⟩
 rw[Int.toNat_natCast]
 refine aD (fun i Δ M'=>∃ x,Δ=[some (D.lst (xs.map D.str)),some (D.int (n:Int)),some (D.lst ((aB xs i).map wsD)),x]/\M'=M) ⟨_,rfl,rfl⟩ ?_ ?_
 ·rintro i d Δ M' X hd ⟨x,rfl,rfl⟩ k'
  obtain⟨hi,rfl⟩:=cc hd
  refine⟨_,rfl,?_⟩
  have h8:8 ^ (i+1)<=4096:=by
   have:i+1<=4:=by omega
   exact Nat.le_trans (Nat.pow_le_pow_right (by decide) this) (by decide)
  have hlen:=iJ hx (i+1)
  have hfl:((aB xs i).flatMap fun _=>xs).length=(aB xs (i+1)).length:=by
   simp[aB,List.length_flatMap]
  simp only[ke,xB,jR,br]
  refine⟨_,rfl,_,rfl,fun _=>?_⟩
  refine lG wsD D.str (fun _=>xs) (fun r x=>wsD (r++[x])) (fun Δ=>∃ a b,Δ=[some (D.lst (xs.map D.str)),none,none,none,a,b]) (fun r Δ=>∃ b,Δ=[some (D.lst (xs.map D.str)),none,none,none,some (wsD r),b]) (fun r Δ ⟨b,e⟩=>⟨_,_,e⟩) _ _ _ ?_ ?_ ⟨_,_,rfl⟩ ?_ ?_
  ·rintro r hr Δ ⟨a,b,rfl⟩
   exact⟨_,rfl,⟨_,rfl⟩,fun Q1 q=>q,fun Q2 q=>⟨_,rfl,_,rfl,fun _=>q⟩⟩
  ·rintro r hr x hx' Δ ⟨b,rfl⟩
   refine⟨_,rfl,⟨_,rfl⟩,fun Q1 q=>q,fun Q2 q=>?_⟩
   simp only[dOp,p7,bD,br,dG]
   have hr':r.length<=4:=by rw[iz hr];omega
   refine⟨_,rfl,_,rfl,by simp only[List.length_cons,List.length_nil];rw[sizeLine_eq];decide,wsD (r++[x]),?_,q⟩
   show gI (.tup (r.map D.str)) (.tup [D.str x])=_
   rw[dX,if_pos (by rw[List.length_map,sizeLine_eq];simp;omega)]
   simp[wsD]
  ·rw[hfl,sizeLine_eq];simp;omega
  ·rw[List.nil_append]
   have hm:((aB xs i).flatMap fun r=>xs.map fun x=>wsD (r++[x]))=(aB xs (i+1)).map wsD:=by
    simp only[aB,List.map_flatMap,List.map_map];rfl
   rw[hm]
   exact k' _ _ ⟨_,rfl,rfl⟩
 ·rintro Δ M' ⟨x,rfl,rfl⟩
  have:(gG 0 n).length=n:=by simp[gG]
  rw[this]
  walk_at "rd"
  exact k
def cB:SpD:=fun ds M R=>∃ (ord:List (Str×Str)) (goal:Str) (ents:List (Str×List Row)) (n:Nat) (f:List Str->Int),ds=[cP ord goal ents,.int (n:Int)]/\n<=4/\ents.length<=8 /\
 (∀ r∈aB (aR (ents.map (·.1))) n,pM ord goal ents r (f r))/\∀ p,M p=none->R (.ref p) (al M p (.lst (((aB (aR (ents.map (·.1))) n).filter fun r=>decide (0<f r)).map wsD)))
theorem iy {f:Addr} {fd:FuncData} (F:Fun K "sentences_of" "sentences_of" bW f fd) (T:Txt K mg) (g_p_tuples_of:FnD P w K mg base "tuples_of" 1 2 gN) (g_p_is_sentence:FnD P w K mg base "is_sentence" 11 2 fM) (g_p_words_of:FnD P w K mg base "words_of" 1 1 db):aK P w K mg base CX0 12 f fd ["lexicon","length"] (spD K 2 cB):=by
 have nd:=eA.nd
 refine F.okQ rfl eA (fun cdv A outer s H E hr=>⟨_,(am (aM (EQ (ms:=[true,false]) (extra:=["words"]) (aG rfl (show aQ (ae bW) cG _ _=true from by decide +kernel)) rfl (bn (qc g_p_tuples_of (hr.mono (by decide)) rfl (ab (aN sT rfl T.b_sorted (by kernel_rfl) (ab (qc g_p_words_of (hr.mono (by decide)) rfl (ab (aa 0) ac)) ac)) (ab (aa 1) ac)))) (aL (i:=2) (show(cG++_).Nodup from by decide +kernel) rfl rfl) (fun _ _ _ _=>(jp (hJ (qc g_p_is_sentence (hr.mono (by decide)) rfl (ab (aa 0) (ab (aa 2) ac)))))) (fun _ _ _ _=>(aa 2))))),fun ds M R hl hS=>?_⟩)
 obtain⟨ord,goal,ents,n,f,rfl,hn,he,hf,k⟩:=hS
 have hx:(aR (ents.map (·.1))).length<=8:=by rw[(dv _).length_eq,List.length_map];exact he
 have hs:pZ (.lst (ents.map fun e=>D.str e.1))=some (.lst ((aR (ents.map (·.1))).map D.str)):=by
  have:=tU (ns:=ents.map (·.1)) (by rw[List.length_map];omega)
  rw[List.map_map]at this
  exact this
 walk_at "rd"
 refine⟨ord,goal,ents,rfl,he,_,hs,_,n,rfl,hx,hn,_,rfl,fun hz=>⟨hz,?_⟩⟩
 have hc:dI [true,false] 1 [some (cP ord goal ents),some (D.int (n:Int))]=[some (cP ord goal ents),none,none]:=rfl
 rw[hc]
 refine a7 wsD (fun r=>decide (0<f r)) wsD (fun Δ=>∃ x,Δ=[some (cP ord goal ents),none,x]) _ _ _ ?_ ⟨_,rfl⟩ (by rw[List.nil_append];exact k)
 rintro r hr Δ ⟨x,rfl⟩
 refine⟨_,rfl,⟨_,rfl⟩,fun Q1 q1=>?_,fun _ Q2 q=>⟨_,rfl,q⟩⟩
 simp only[i3,fI,bD,br,dG]
 exact⟨_,rfl,_,rfl,rfl,ord,goal,ents,r,f r,rfl,hf r hr,_,rfl,q1⟩
end
section
variable {P:Program} {w:World} {K:PySem.W.Frag} {mg:Str->Option Value} {base:Heap}
def CC (a b c:Int):Prop:=0<=a/\0<=b/\b<1000000403/\0<=c/\c<1000000513
def aT (l:List D):Prop:=∃ a b c,l=[.int a,.int b,.int c]/\CC a b c
def pA:SpD:=fun ds M R=>∃ i,ds=[.int i]/\∀ p l,M p=none->aT l->R (.ref p) (al M p (.lst l))
def cT:SpD:=fun ds M R=>∃ p l n,ds=[.ref p,.int n]/\M p=some (.lst l)/\aT l/\0<n/\n<1073741824/\∀ v l',0<=v->v<n->aT l'->R (.int v) (al M p (.lst l'))
theorem uU {f:Addr} {fd:FuncData} (F:Fun K "_law_pool" "_law_pool" kK f fd) (T:Txt K mg) :aK P w K mg base CX0 1 f fd ["_law_cell_here"] (spD K 1 pA):=by
 have nd:=m9.nd
 refine F.okQ rfl m9 (fun cdv A outer s H E hr=>⟨_,(aj (aF (i:=1) nd rfl (Or.inl rfl) ak)
   (aj (eh (vL (wJ (bt CI (aa 0) ak (by first|exact av _ (by decide) (by decide)|rfl)) (vH (bt Fc (aa 0) (aI DQ ak ak) (by first|exact av _ (by decide) (by decide)|rfl))))) (am (aF (i:=1) nd rfl (Or.inl rfl) (aN EH rfl T.b_abs (by kernel_rfl) (ab (aa 0) ac)))) cw)
   (aj (aF (i:=2) nd rfl (Or.inl rfl) (aI iU (aa 0) ak))
   (am (aM (ii (ab (aa 1) (ab (aa 2) (ab (aI iU (aI aH (aI ji (aa 2) ak) ak) ak) ac))))))))),fun ds M R hl hS=>?_⟩)
 obtain⟨i,rfl,k⟩:=hS
 walk_at "rd"
 have pk:∀ a:Int,0<=a->∀ p,M p=none->R (D.ref p) (al M p (HD.lst [D.int a,D.int (i % 1000000403),D.int ((i % 1000000403*48271+12345) % 1000000513)])):=fun a ha p hp=>k p _ hp ⟨a,_,_,rfl,ha,by omega,by omega,by omega,by omega⟩
 refine gX (fun h=>⟨sz3 3,pk _ (by split<;>omega)⟩) (fun h=>gX (fun h'=>⟨sz3 3,pk _ (by split<;>omega)⟩) (fun h'=>⟨sz3 3,pk _ (by omega)⟩))
theorem uh {f:Addr} {fd:FuncData} (F:Fun K "_law_draw" "_law_draw" ly f fd) (T:Txt K mg) :aK P w K mg base CX0 1 f fd ["_law_pool_here","_law_amount"] (spD K 2 cT):=by
 have nd:=nM.nd
 refine F.okQ rfl nM (fun cdv A outer s H E hr=>⟨_,(aj (eh (bt DG (aO aP (aa 0) ak (fun _ _=>rfl)) ak (by first|exact av _ (by decide) (by decide)|rfl)) (aj (aF (i:=2) nd rfl (Or.inl rfl) (aI iU (aO aP (aa 0) ak (fun _ _=>rfl)) (aa 1)))
   (aj (xi (aa 0) ak (aI xE (aO aP (aa 0) ak (fun _ _=>rfl)) (aa 1)))
   (am (aM (aa 2))))) cw)
   (aj (xi (aa 0) ak (aI iU (aI aH (aI aH (aI ji (aO aP (aa 0) ak (fun _ _=>rfl)) ak) (aO aP (aa 0) ak (fun _ _=>rfl))) ak) ak))
   (aj (xi (aa 0) ak (aI iU (aI aH (aI aH (aI ji (aO aP (aa 0) ak (fun _ _=>rfl)) ak) (aI iU (aI ji (aO aP (aa 0) ak (fun _ _=>rfl)) (aO aP (aa 0) ak (fun _ _=>rfl))) ak)) ak) ak))
   (am (aM (aI iU (aI xE (aI aH (aO aP (aa 0) ak (fun _ _=>rfl)) (aI ji ak (aO aP (aa 0) ak (fun _ _=>rfl)))) ak) (aa 1))))))),fun ds M R hl hS=>?_⟩)
 obtain⟨p,l,n,rfl,hM,⟨a,b,c,rfl,hp⟩,h0,h1,k⟩:=hS
 have hrd:=gz hM
 have hcd:∀ x,oz x n:=fun x=>⟨h0,h1⟩
 obtain⟨p1,p2,p3,p4,p5⟩:=hp
 have hb:-18446744073709551616<(b*40014+c+7) % 1000000403/\(b*40014+c+7) % 1000000403<18446744073709551616:=by omega
 have hq:=Av (j:=(b*40014+c+7) % 1000000403) hb
 walk_at "rd"
 simp only[hrd,hM,h0,hcd]
 walk_at "rd"
 simp only[hq]
 walk_at "rd"
 simp only[h0,hcd]
 walk_at "rd"
 have m1:∀ x:Int,0<=x % n:=fun x=>Int.emod_nonneg _ (by omega)
 have m2:∀ x:Int,x % n<n:=fun x=>Int.emod_lt_of_pos _ h0
 refine gX (fun h=>?_) (fun h=>?_)
 ·exact k _ _ (m1 _) (m2 _) ⟨_,_,_,rfl,Int.ediv_nonneg (by omega) (by omega),p2,p3,p4,p5⟩
 ·exact k _ _ (m1 _) (m2 _) ⟨_,_,_,rfl,p1,by omega,by omega,by omega,by omega⟩
end
section
variable {P:Program} {w:World} {K:PySem.W.Frag} {mg:Str->Option Value} {base:Heap}
def lE:SpD:=fun ds M R=>∃ (p:Addr) (l:List D) (known:List Str),ds=[.ref p,.lst (known.map .str)]/\M p=some (.lst l)/\aT l/\known.length<=25/\∀ w l',du w->w∉known->aT l'->R (.str w) (al M p (.lst l'))
theorem sO {p:Addr} {Q:List D->DH->Prop}:∀ (ds:List D) (x:Option D) (M:DH) (l:List D) (cs:List Nat),M p=some (.lst l)->aT l->(∀ c∈cs,lP c) ->
  (∀ (cs':List Nat) (l':List D),aT l'->(∀ c∈cs',lP c)->cs'.length=cs.length+ds.length->Q (cs'.map fun c=>D.str (tx [c])) (al M p (.lst l'))) ->
  cR (bc 5) u5 (dOp ixD (br 2) (fI 2 cT (bD (br 0) (bD (dC (D.int 26)) dG)))) ds [some (D.ref p),none,some (D.str abc),none,none,x] M (cs.map fun c=>D.str (tx [c])) Q
 |[],x,M,l,cs,hM,hP,hc,k=>by
  have:=k cs l hP hc (by simp)
  rw[nv hM]at this
  simpa only[cR]using this
 |d::ds,x,M,l,cs,hM,hP,hc,k=>by
  simp only[cR,bc,u5]
  walk_at "rd"
  refine⟨p,l,26,rfl,hM,hP,by decide,by decide,fun v l1 h0 h1 hP1=>?_⟩
  obtain⟨c,hc1,e⟩:=C5 h0 h1
  refine⟨_,e,?_⟩
  have hm:(cs.map fun c=>D.str (tx [c]))++[D.str (tx [c])]=(cs++[c]).map fun c=>D.str (tx [c]):=by simp
  rw[hm]
  refine sO ds (some d) (al M p (.lst l1)) l1 (cs++[c]) ag hP1 (fun x hx=>?_) (fun cs' l' hP' hc' hl'=>?_)
  ·rcases List.mem_append.mp hx with h|h
   ·exact hc x h
   ·have:x=c:=by simpa using h
    subst this;exact hc1
  ·rw[ay]
   exact k cs' l' hP' hc' (by simp at hl' ⊢;omega)
theorem xX:(Str.ofString "abcdefghijklmnopqrstuvwxyz").length<=sizeLine:=by
 show abc.length<=_
 rw[mh,fk]
 exact sz3 _
theorem wY {cs:List Nat} (h:cs.length<=1000):sP (Str.ofString "") (.lst (cs.map fun c=>D.str (tx [c])))=some (.str (tx cs)):=by
 have e:(cs.map fun c=>D.str (tx [c]))=(cs.map fun c=>tx [c]).map D.str:=by simp
 have hs:((cs.map fun c=>tx [c]).map (·.length)).sum=cs.length:=by
  clear h e
  induction cs with
  |nil=>rfl
  |cons c cs ih=>simp only[List.map_cons,List.sum_cons,ih,fk,List.length_cons,List.length_nil];omega
 simp only[sP]
 rw[e,kH,E4]
 dsimp only
 rw[if_pos (by rw[hs,fk];simp;omega),o4]
def Cc (cs:List Nat) (d:D):D:=match d with|.str s=>.str (tx (cs.take 7)++s)|_=>.non
theorem vV (cs:List Nat):(L2.aV abc).map (Cc cs)=(eC.map fun c=>tx (cs.take 7++[c])).map D.str:=by
 rw[m8,List.map_map,List.map_map]
 apply List.map_congr_left
 intro c _
 show D.str (tx (cs.take 7)++tx [c])=_
 rw[qR]
 rfl
theorem uD {f:Addr} {fd:FuncData} (F:Fun K "_law_word" "_law_word" eR f fd) (T:Txt K mg) (g_l_draw:FnD P w K mg base "_law_draw" 1 2 cT):aK P w K mg base CX0 2 f fd ["_law_pool_here","_law_known"] (spD K 2 lE):=by
 have nd:=ni.nd
 refine F.okQ rfl ni (fun cdv A outer s H E hr=>⟨_,(aj (aF (i:=2) nd rfl (Or.inr rfl) Ay)
   (aj (aF (i:=3) nd rfl (Or.inr rfl) (Bm Ay (iB (ms:=[true,false,true,false,false]) (extra:=["_law_k"]) (aG rfl (show aQ (ae eR) dN _ _=true from by decide +kernel)) rfl (bz rfl T.b_range (ab (aI aH ak (qc g_l_draw (hr.mono (by decide)) rfl (ab (aa 0) (ab ak ac)))) ac)) (aL (i:=5) (show(dN++_).Nodup from by decide +kernel) rfl rfl) (fun _ _ _ _=>cg) (fun _ _ _ _=>(aO aP (aa 2) (qc g_l_draw (hr.mono (by decide)) rfl (ab (aa 0) (ab ak ac))) (fun _ _=>rfl))))))
   (aj (aF (i:=4) nd rfl (Or.inl rfl) (aI aH (jc (ab (aa 3) ac)) (iB (ms:=[false,false,false,true,false]) (extra:=["_law_sign"]) (aG rfl (show aQ (ae eR) dN _ _=true from by decide +kernel)) rfl (bn (aa 2)) (aL (i:=5) (show(dN++_).Nodup from by decide +kernel) rfl rfl) (fun _ _ _ _=>cg) (fun _ _ _ _=>(aI aH (eN (aa 3) iq (fq ak)) (aa 5))))))
   (am (aM (aO aP (iB (ms:=[false,true,false,false,false]) (extra:=["_law_one"]) (aG rfl (show aQ (ae eR) dN _ _=true from by decide +kernel)) rfl (bn (aa 4)) (aL (i:=5) (show(dN++_).Nodup from by decide +kernel) rfl rfl) (fun _ _ _ _=>(jp (bt lM (aa 5) (aa 1) (by first|exact av _ (by decide) (by decide)|rfl)))) (fun _ _ _ _=>(aa 5))) ak (fun _ _=>rfl))))))),fun ds M R hl hS=>?_⟩)
 obtain⟨p,l,known,rfl,hM,hP,hk,k⟩:=hS
 walk_at "rd"
 refine⟨p,l,8,rfl,hM,hP,by decide,by decide,fun v l1 h0 h1 hP1=>?_⟩
 walk_at "rd"
 refine⟨by omega,by omega,by rw[bT];exact sz3 (1+v).toNat (by omega),?_⟩
 refine sO _ none (al M p (.lst l1)) l1 [] ag hP1 (fun c hc=>absurd hc (by simp)) (fun cs l2 hP2 hcs hlen=>?_)
 have hlen':cs.length=(1+v).toNat:=by simpa[gG]using hlen
 have hw:du (tx cs):=by
  unfold du
  rw[dZ]
  exact⟨by omega,by omega,hcs⟩
 rw[ay]
 refine⟨_,wY (by omega),sz3 1,_,if_pos xX,fun hz=>⟨hz,?_⟩⟩
 refine dm (fun _=>true) (Cc cs) (fun Δ=>∃ x,Δ=[none,none,none,some (.str (tx cs)),none,x]) _ _ _ (fun d hd Δ hΔ=>?_) ⟨none,rfl⟩ ?_
 ·obtain⟨x,rfl⟩:=hΔ
  obtain⟨c,hc,rfl⟩:∃ c,c∈eC/\d=.str (tx [c]):=by
   rw[show L2.aV (Str.ofString "abcdefghijklmnopqrstuvwxyz")=eC.map (fun c=>D.str (tx [c]))from m8]at hd
   obtain⟨c,hc,e⟩:=List.mem_map.mp hd
   exact⟨c,hc,e.symm⟩
  refine⟨_,rfl,⟨_,rfl⟩,fun Q1 q=>q,fun _ Q2 q=>?_⟩
  walk_at "rd"
  have hs:=qW cs 7
  refine⟨_,if_pos (by rw[fk];exact sz3 _ (by omega)),?_⟩
  walk_at "rd"
  have hs':Txt.slice (tx cs) none (some 7)=tx (cs.take 7):=hs
  rw[hs']
  refine⟨_,if_pos (by rw[fk,fk];simp;exact sz3 _ (by omega)),q⟩
 ·have ev:(List.filter (fun _=>true) (L2.aV (Str.ofString "abcdefghijklmnopqrstuvwxyz"))).map (Cc cs)=(eC.map fun c=>tx (cs.take 7++[c])).map D.str:=by
   rw[List.filter_eq_self.mpr (fun _ _=>rfl)]
   exact vV cs
  rw[List.nil_append,ev]
  have hl27:((eC.map fun c=>tx (cs.take 7++[c])).map D.str).length=26:=by simp[eC]
  refine⟨_,if_pos (by rw[hl27];exact sz3 _),_,rfl,fun hz2=>⟨hz2,?_⟩⟩
  have em:D.str (tx cs)::(eC.map fun c=>tx (cs.take 7++[c])).map D.str=(tx cs::eC.map fun c=>tx (cs.take 7++[c])).map D.str:=rfl
  rw[em]
  generalize hL:(tx cs::eC.map fun c=>tx (cs.take 7++[c]))=L
  have hLw:∀ w∈L,du w:=fun w hw'=>by
   rw[<-hL]at hw'
   rcases List.mem_cons.mp hw' with rfl|hw'
   ·exact hw
   ·obtain⟨c,hc,rfl⟩:=List.mem_map.mp hw'
    have:=qJ hw (wx hc)
    rwa [dZ]at this
  have hLn:∃ w∈L,w∉known:=by
   obtain⟨c,hc,hn⟩:=wZ (w:=tx cs) hk
   rw[dZ]at hn
   exact⟨_,by rw[<-hL];exact List.mem_cons_of_mem _ (List.mem_map.mpr ⟨c,hc,rfl⟩),hn⟩
  refine dm (fun d=>!((known.map D.str).any fun e=>eqD e d)) id (fun Δ=>∃ x,Δ=[none,some (.lst (known.map D.str)),none,none,none,x]) _ _ _ (fun d hd Δ hΔ=>?_) ⟨none,rfl⟩ ?_
  ·obtain⟨x,rfl⟩:=hΔ
   obtain⟨w,hw',rfl⟩:=List.mem_map.mp hd
   refine⟨_,rfl,⟨_,rfl⟩,fun Q1 q=>?_,fun _ Q2 q=>?_⟩
   ·walk_at "rd"
    refine⟨_,if_pos ⟨rfl,eV⟩,_,rfl,?_⟩
    simpa using q
   ·walk_at "rd"
    exact q
  ·rw[List.nil_append,List.map_id,List.filter_map]
   have ef:(List.filter ((fun d=>!((known.map D.str).any fun e=>eqD e d))∘D.str) L)=L.filter (fun w=>!decide (w∈known)):=by
    apply List.filter_congr
    intro w _
    show(!((known.map D.str).any fun e=>eqD e (.str w)))=_
    rw[dM]
   rw[ef]
   obtain⟨w0,h1',h2'⟩:=hLn
   cases hF:L.filter (fun w=>!decide (w∈known))with
   |nil =>
    have:w0∈L.filter (fun w=>!decide (w∈known)):=List.mem_filter.mpr ⟨h1',by simp[h2']⟩
    rw[hF]at this
    cases this
   |cons u us =>
    have hu:u∈L.filter (fun w=>!decide (w∈known)):=by rw[hF];exact List.mem_cons_self
    obtain⟨hu1,hu2⟩:=List.mem_filter.mp hu
    exact⟨_,Ae,k u l2 (hLw u hu1) (by simpa using hu2) hP2⟩
end
section
variable {P:Program} {w:World} {K:PySem.W.Frag} {mg:Str->Option Value} {base:Heap}
theorem qQ {M:DH} {p q:Addr} {o:HD} (h:p≠q):eO M (g8 M q) (al (g8 M q) p o)=al M p o:=by
 funext a
 unfold eO al g8
 by_cases h1:a=p
 ·subst h1;simp
 ·by_cases h2:a=q
  ·subst h2;simp[h1]
  ·simp only[h1,h2,if_false]
   cases M a<;>rfl
theorem nr {l:List D} (h:aT l):dF l=true:=by
 obtain⟨a,b,c,rfl,_⟩:=h
 rfl
def fR:SpD:=fun ds M R=>∃ (p:Addr) (l:List D) (n:Int),ds=[.ref p,.int n]/\M p=some (.lst l)/\aT l/\0<=n/\n<=20/\(∀ a k,M a=some k->a≠p->noC k=true) /\
 ∀ (ws:List Str) l',(∀ w∈ws,du w)->ws.Nodup->ws.length=n.toNat->aT l'->R (.lst (ws.map .str)) (al M p (.lst l'))
theorem m6 {p q:Addr} {E:fJ} (hpq:p≠q):∀ (ds:List D) (x:Option D) (n:Int) (M:DH) (l:List D) (ws:List Str),M q=none->aT l->ws.Nodup->(∀ w∈ws,du w)->ws.length+ds.length<=25->(∀ a k,M a=some k->a≠p->noC k=true) ->
  (∀ (x':Option D) (l':List D) (ws':List Str),aT l'->ws'.Nodup->(∀ w∈ws',du w)->ws'.length=ws.length+ds.length->E.nx [some (.ref p),some (.int n),some (.ref q),x'] (al (al M p (.lst l')) q (.lst (ws'.map .str)))) ->
  bB (bc 3) (nE (uK (br 2) (o7 2 lE (bD (br 0) (bD (br 2) dG))))) E ds [some (.ref p),some (.int n),some (.ref q),x] (al (al M p (.lst l)) q (.lst (ws.map .str)))
 |[],x,n,M,l,ws,hq,hP,hn,hw,hl,hM,k=>by
  simp only[bB]
  exact k x l ws hP hn hw (by simp)
 |d::ds,x,n,M,l,ws,hq,hP,hn,hw,hl,hM,k=>by
  simp only[bB,bc]
  walk_at "rd"
  have hlen:ws.length<=24:=by simp at hl;omega
  refine⟨D.ref p,rfl,D.ref q,rfl,g8 (al (al M p (.lst l)) q (.lst (ws.map .str))) q,[.ref p,.lst (ws.map .str)],_,LeM.del,.cons (.inl rfl) (.cons (.inr ⟨q,_,rfl,ag,dl,rfl⟩) .nil),rfl,⟨p,l,ws,rfl,?_,hP,by omega,fun w l' h1 h2 h3=>?_⟩,fun d' M3 hR=>hR⟩
  ·rw[ko hpq,ao hpq,ag]
  ·refine⟨rfl,fun a kk ha=>?_,?_⟩
   ·by_cases hap:a=p
    ·subst hap
     rw[ag]at ha;cases ha
     exact nr h3
    ·rw[ao hap]at ha
     by_cases haq:a=q
     ·subst haq;rw[dl]at ha;cases ha
     ·rw[ko haq,ao haq,ao hap]at ha
      exact hM a kk ha hap
   ·rw[qQ hpq]
    have e1:al (al (al M p (.lst l)) q (.lst (ws.map .str))) p (.lst l') q=some (.lst (ws.map .str)):=by rw[ao (Ne.symm hpq),ag]
    refine⟨_,e1,by rw[List.length_map];exact Nat.lt_of_lt_of_le (by omega:ws.length<1000) (sz3 1000),?_⟩
    have e2:al (al (al (al M p (.lst l)) q (.lst (ws.map .str))) p (.lst l')) q (.lst (ws.map .str++[.str w]))=al (al M p (.lst l')) q (.lst ((ws++[w]).map .str)):=by
     funext a
     unfold al
     by_cases h1':a=q
     ·simp[h1']
     ·by_cases h2':a=p
      ·simp[h1',h2']
      ·simp[h1',h2']
    rw[e2]
    refine m6 hpq ds (some d) n M l' (ws++[w]) hq h3 ?_ (fun u hu=>?_) (by simp at hl ⊢;omega) hM (fun x' l2 ws' hP' hn' hw' hl'=>k x' l2 ws' hP' hn' hw' (by simp at hl' ⊢;omega))
    ·rw[List.nodup_append]
     refine⟨hn,by simp,fun a ha b hb=>?_⟩
     have:b=w:=by simpa using hb
     subst this
     rintro rfl
     exact h2 ha
    ·rcases List.mem_append.mp hu with h|h
     ·exact hw u h
     ·have:u=w:=by simpa using h
      subst this;exact h1
theorem j9 {f:Addr} {fd:FuncData} (F:Fun K "_law_some_words" "_law_some_words" dL f fd) (T:Txt K mg) (g_l_word:FnD P w K mg base "_law_word" 2 2 lE):aK P w K mg base CX0 3 f fd ["_law_pool_here","_law_amount"] (spD K 2 fR):=by
 have nd:=fQ.nd
 refine F.okQ rfl fQ (fun cdv A outer s H E hr=>⟨_,(aj (aF (i:=2) nd rfl (Or.inl rfl) (ii ac))
   (aj (bQ PassesOwn.never rfl (bz rfl T.b_range (ab (aa 1) ac)) (aE (i:=3) nd rfl (Or.inl rfl)) (am (gW (kC (aa 2) (qcL g_l_word (hr.mono (by decide)) rfl (ab (aa 0) (ab (aa 2) ac)))))))
   (am (xq (aa 2))))),fun ds M R hl hS=>?_⟩)
 obtain⟨p,l,n,rfl,hM,hP,h0,h1,hno,k⟩:=hS
 walk_at "rd"
 refine⟨sz3 0,fun q hq=>?_⟩
 have hpq:p≠q:=by rintro rfl;rw[hM]at hq;cases hq
 refine⟨by omega,by omega,?_⟩
 have e:al M q (.lst [])=al (al M p (.lst l)) q (.lst (([]:List Str).map .str)):=by rw[nv hM];rfl
 rw[e]
 refine m6 hpq _ none n M l [] hq hP List.nodup_nil (fun w hw=>absurd hw (by simp)) (by rw[bT];simp;omega) hno (fun x' l' ws' hP' hn' hw' hl'=>?_)
 walk_at "rd"
 rw[i7 (by rw[ao (Ne.symm hpq)];exact hq)]
 exact k ws' l' hw' hn' (by rw[bT]at hl';simpa using hl') hP'
end
section
variable {P:Program} {w:World} {K:PySem.W.Frag} {mg:Str->Option Value} {base:Heap}
def nB:SpD:=fun ds M R=>∃ (p:Addr) (l:List D) (marks:List Str) (most:Int),ds=[.ref p,.lst (marks.map .str),.int most]/\M p=some (.lst l)/\aT l/\marks≠[]/\marks.length<=1000/\0<=most/\most<=500 /\
 ∀ (ord:List (Str×Str)) l',ord.length<=most.toNat->(∀ x∈ord,x.1∈marks/\x.2∈marks)->aT l'->R (.tup (ord.map az)) (al M p (.lst l'))
abbrev Ai:TEd:=dOp ixD (br 1) (fI 2 cT (bD (br 0) (bD (dCB (iE j3) (bD (br 1) dG)) dG)))
theorem mU {p q:Addr} {E:fJ} (hpq:p≠q) (marks:List Str) (most:Int) (hm:marks≠[]) (hml:marks.length<=1000):∀ (ds:List D) (x4 x5:Option D) (M:DH) (l:List D) (ord:List (Str×Str)),M q=none->aT l->(∀ x∈ord,x.1∈marks/\x.2∈marks)->ord.length+ds.length<=1000 ->
  (∀ (y4 y5:Option D) (l':List D) (ord':List (Str×Str)),aT l'->(∀ x∈ord',x.1∈marks/\x.2∈marks)->ord'.length=ord.length+ds.length->E.nx [some (.ref p),some (.lst (marks.map .str)),some (.int most),some (.ref q),y4,y5] (al (al M p (.lst l')) q (.lst (ord'.map az)))) ->
  bB (bc 4) (oK (ke 5 Ai) (nE (uK (br 3) (p7 (bD (br 5) (bD Ai dG)))))) E ds [some (.ref p),some (.lst (marks.map .str)),some (.int most),some (.ref q),x4,x5] (al (al M p (.lst l)) q (.lst (ord.map az)))
 |[],x4,x5,M,l,ord,hq,hP,ho,hl,k=>by
  simp only[bB]
  exact k x4 x5 l ord hP ho (by simp)
 |d::ds,x4,x5,M,l,ord,hq,hP,ho,hl,k=>by
  have hlen:(0:Int)<((marks.map D.str).length:Int):=by
   rw[List.length_map]
   have:=List.length_pos_iff.mpr hm
   omega
  have hlen2:((marks.map D.str).length:Int)<1073741824:=by
   rw[List.length_map];omega
  have hol:(ord.map az).length<sizeLine:=by
   rw[List.length_map]
   simp only[List.length_cons]at hl
   exact Nat.lt_of_lt_of_le (by omega:ord.length<1000) (sz3 1000)
  simp only[bB,bc]
  walk_at "rd"
  refine⟨p,l,_,rfl,by rw[ao hpq,ag],hP,hlen,hlen2,fun v l1 h0 h1 hP1=>?_⟩
  rw[List.length_map]at h1
  obtain⟨m,hm1,e1⟩:=iO h0 h1
  refine⟨_,e1,?_⟩
  have em:al (al (al M p (.lst l)) q (.lst (ord.map az))) p (.lst l1)=al (al M p (.lst l1)) q (.lst (ord.map az)):=by
   rw[<-bJ hpq,ay]
  rw[em]
  refine⟨_,ag,?_⟩
  refine⟨p,l1,_,rfl,by rw[ao hpq,ag],hP1,hlen,hlen2,fun v2 l2 h2 h3 hP2=>?_⟩
  rw[List.length_map]at h3
  obtain⟨m2,hm2,e2⟩:=iO h2 h3
  refine⟨_,e2,sz3 2,?_⟩
  have em2:al (al (al M p (.lst l1)) q (.lst (ord.map az))) p (.lst l2)=al (al M p (.lst l2)) q (.lst (ord.map az)):=by
   rw[<-bJ hpq,ay]
  rw[em2]
  refine⟨_,ag,hol,?_⟩
  rw[ay]
  have ea:ord.map az++[D.tup [.str m,.str m2]]=(ord++[(m,m2)]).map az:=by simp[az]
  rw[ea]
  refine mU hpq marks most hm hml ds (some d) (some (.str m)) M l2 (ord++[(m,m2)]) hq hP2 (fun x hx=>?_) (by simp at hl ⊢;omega) (fun y4 y5 l' ord' hP' ho' hl'=>k y4 y5 l' ord' hP' ho' (by simp at hl' ⊢;omega))
  rcases List.mem_append.mp hx with h|h
  ·exact ho x h
  ·have:x=(m,m2):=by simpa using h
   subst this
   exact⟨hm1,hm2⟩
theorem qO {f:Addr} {fd:FuncData} (F:Fun K "_law_order" "_law_order" jx f fd) (T:Txt K mg) (g_l_draw:FnD P w K mg base "_law_draw" 1 2 cT):aK P w K mg base CX0 2 f fd ["_law_pool_here","_law_marks","_law_most"] (spD K 3 nB):=by
 have nd:=lX.nd
 refine F.okQ rfl lX (fun cdv A outer s H E hr=>⟨_,(aj (aF (i:=3) nd rfl (Or.inl rfl) (ii ac))
   (aj (bQ PassesOwn.never rfl (bz rfl T.b_range (ab (qc g_l_draw (hr.mono (by decide)) rfl (ab (aa 0) (ab (aI aH (aa 2) ak) ac))) ac)) (aE (i:=4) nd rfl (Or.inl rfl)) (aj (aF (i:=5) nd rfl (Or.inl rfl) (aO aP (aa 1) (qc g_l_draw (hr.mono (by decide)) rfl (ab (aa 0) (ab (aN dR rfl T.b_len (by kernel_rfl) (ab (aa 1) ac)) ac))) (fun _ _=>rfl)))
   (am (gW (kC (aa 3) (bV (ab (aa 5) (ab (aO aP (aa 1) (qc g_l_draw (hr.mono (by decide)) rfl (ab (aa 0) (ab (aN dR rfl T.b_len (by kernel_rfl) (ab (aa 1) ac)) ac))) (fun _ _=>rfl)) ac))))))))
   (am (l7 (cN gq rfl T.b_tuple (by kernel_rfl) (ab (aa 3) ac)))))),fun ds M R hl hS=>?_⟩)
 obtain⟨p,l,marks,most,rfl,hM,hP,hm,hml,h0,h1,k⟩:=hS
 walk_at "rd"
 refine⟨sz3 0,fun q hq=>?_⟩
 have hpq:p≠q:=by rintro rfl;rw[hM]at hq;cases hq
 refine⟨p,l,_,rfl,by rw[ao hpq];exact hM,hP,by omega,by omega,fun v l1 h2 h3 hP1=>?_⟩
 refine⟨v,rfl,by omega,by omega,?_⟩
 have e:al (al M q (.lst [])) p (.lst l1)=al (al M p (.lst l1)) q (.lst (([]:List (Str×Str)).map az)):=by
  rw[bJ hpq];rfl
 rw[e]
 refine mU hpq marks most hm hml _ none none M l1 [] hq hP1 (fun x hx=>absurd hx (by simp)) (by rw[bT];simp;omega) (fun y4 y5 l' ord' hP' ho' hl'=>?_)
 walk_at "rd"
 refine⟨_,oj (by rw[ao (Ne.symm hpq)];exact hq),k ord' l' (by rw[bT]at hl';simp at hl';omega) ho' hP'⟩
end
section
variable {P:Program} {w:World} {K:PySem.W.Frag} {mg:Str->Option Value} {base:Heap}
def fN (ord:List (Str×Str)) (F:List Str):List Str:=F++(ord.filter fun p=>decide (p.1∈F)&&!decide (p.2∈F)).map (·.2)
def fU (ord:List (Str×Str)) (F:List Str):Prop:=∀ p∈ord,p.1∈F->p.2∈F
def g7 (ord:List (Str×Str)) (F:List Str):Nat:=(ord.filter fun p=>decide (p.2∈F)).length
theorem nP {ord:List (Str×Str)} {F:List Str} {x:Str} (h:x∈F):x∈fN ord F:=List.mem_append_left _ h
theorem u3 {ord:List (Str×Str)} {F:List Str}:(fN ord F).length<=F.length+ord.length:=by
 unfold fN
 rw[List.length_append,List.length_map]
 have:=List.length_filter_le (fun p:Str×Str=>decide (p.1∈F)&&!decide (p.2∈F)) ord
 omega
theorem oS {ord:List (Str×Str)} {F:List Str} (h:fU ord F):fN ord F=F:=by
 unfold fN
 have:(ord.filter fun p=>decide (p.1∈F)&&!decide (p.2∈F))=[]:=by
  rw[List.filter_eq_nil_iff]
  intro p hp
  by_cases h1:p.1∈F
  ·simp[h1,h p hp h1]
  ·simp[h1]
 rw[this];simp
theorem mV {F G:List Str} (h:∀ x∈F,x∈G):∀ {ord:List (Str×Str)},g7 ord F<=g7 ord G
 |[]=>Nat.le_refl _
 |p::ord=>by
  have ih:=mV h (ord:=ord)
  unfold g7 at ih ⊢
  by_cases h1:p.2∈F
  ·simp[List.filter_cons,h1,h _ h1];exact ih
  ·by_cases h2:p.2∈G
   ·simp[List.filter_cons,h1,h2];omega
   ·simp[List.filter_cons,h1,h2];exact ih
theorem sS {F G:List Str} (h:∀ x∈F,x∈G) {q:Str×Str} (h1:q.2∉F) (h2:q.2∈G):∀ {ord:List (Str×Str)},q∈ord->g7 ord F<g7 ord G
 |p::ord,hm=>by
  have im:=mV h (ord:=ord)
  rcases List.mem_cons.mp hm with e|hm
  ·subst e
   unfold g7 at im ⊢
   simp[List.filter_cons,h1,h2];omega
  ·have ih:=sS h h1 h2 hm
   unfold g7 at im ih ⊢
   by_cases h3:p.2∈F
   ·simp[List.filter_cons,h3,h _ h3];exact ih
   ·by_cases h4:p.2∈G
    ·simp[List.filter_cons,h3,h4];omega
    ·simp[List.filter_cons,h3,h4];exact ih
theorem yO {ord:List (Str×Str)} {F:List Str}:g7 ord F<=ord.length:=List.length_filter_le _ _
theorem pX {F:List Str}:∀ {ord:List (Str×Str)},ord.length<=g7 ord F->∀ p∈ord,p.2∈F
 |p::ord,h,q,hq=>by
  have hl:=yO (ord:=ord) (F:=F)
  unfold g7 at h hl
  by_cases h3:p.2∈F
  ·rcases List.mem_cons.mp hq with e|hq
   ·subst e;exact h3
   ·refine pX (ord:=ord) ?_ q hq
    unfold g7
    simp[List.filter_cons,h3]at h
    exact h
  ·simp[List.filter_cons,h3]at h
   omega
theorem ue {ord:List (Str×Str)} {F:List Str} {k:Nat} (h:fU ord F∨k<=g7 ord F):fU ord (fN ord F)∨k+1<=g7 ord (fN ord F):=by
 by_cases hc:fU ord F
 ·rw[oS hc];exact .inl hc
 ·have hk:=h.resolve_left hc
  right
  have:∃ p∈ord,p.1∈F/\p.2∉F:=Classical.byContradiction fun hn=>hc fun p hp h1=>Classical.byContradiction fun h2=>hn ⟨p,hp,h1,h2⟩
  obtain⟨p,hp,h1,h2⟩:=this
  have hin:p.2∈fN ord F:=List.mem_append_right _ (List.mem_map.mpr ⟨p,List.mem_filter.mpr ⟨hp,by simp[h1,h2]⟩,rfl⟩)
  have:=sS (fun x hx=>nP (ord:=ord) hx) h2 hin hp
  omega
theorem u7 {ord:List (Str×Str)} {F:List Str} (h:fU ord F∨ord.length<=g7 ord F):fU ord F:=by
 rcases h with h|h
 ·exact h
 ·exact fun p hp _=>pX h p hp
theorem pV {ord:List (Str×Str)} {F:List Str} {a:Str} (h:∀ x∈F,cu ord a x):∀ x∈fN ord F,cu ord a x:=fun x hx=>by
 rcases List.mem_append.mp hx with hx|hx
 ·exact h x hx
 ·obtain⟨p,hp,rfl⟩:=List.mem_map.mp hx
  obtain⟨hp,hq⟩:=List.mem_filter.mp hp
  simp at hq
  exact cu.step (h _ hq.1) hp
def pb (F:List Str) (d:D):Bool:=match d with|.tup [.str x,.str y]=>decide (x∈F)&&!decide (y∈F)|_=>false
def py (d:D):D:=match d with|.tup [.str _,.str y]=>.str y|_=>.non
theorem BE {F:List Str} {ord:List (Str×Str)}:((ord.map az).filter (pb F)).map py=((ord.filter fun p=>decide (p.1∈F)&&!decide (p.2∈F)).map (·.2)).map D.str:=by
 rw[List.filter_map,List.map_map,List.map_map]
 rfl
def jN:SpD:=dQ
theorem nV {f:Addr} {fd:FuncData} (F:Fun K "_law_at_most" "_law_at_most" er f fd) (T:Txt K mg) :aK P w K mg base CX0 1 f fd ["_law_order_here","_law_one","_law_other"] (spD K 3 jN):=by
 have nd:=ip.nd
 refine F.okQ rfl ip (fun cdv A outer s H E hr=>⟨_,(aj (aF (i:=3) nd rfl (Or.inr rfl) (jc (ab (aa 1) ac)))
   (aj (bQ PassesOwn.never rfl (bz rfl T.b_range (ab (aN dR rfl T.b_len (by kernel_rfl) (ab (aa 0) ac)) ac)) (aE (i:=4) nd rfl (Or.inl rfl)) (am (aF (i:=3) nd rfl (Or.inr rfl) (aI aH (aa 3) (iB (ms:=[false,false,false,true,false]) (extra:=["_law_pair"]) (aG rfl (show aQ (ae er) fT _ _=true from by decide +kernel)) rfl (bn (aa 0)) (aL (i:=5) (show(fT++_).Nodup from by decide +kernel) rfl rfl) (fun _ _ _ _=>(jp (vL (oq (bt pN (aO aP (aa 5) ak (fun _ _=>rfl)) (aa 3) (by first|exact av _ (by decide) (by decide)|rfl)) (o9 (bt lM (aO aP (aa 5) ak (fun _ _=>rfl)) (aa 3) (by first|exact av _ (by decide) (by decide)|rfl))))))) (fun _ _ _ _=>(aO aP (aa 5) ak (fun _ _=>rfl))))))))
   (am (aM (jO pN (aa 2) (aa 3) (by first|exact av _ (by decide) (by decide)|rfl)))))),fun ds M R hl hS=>?_⟩)
 obtain⟨ord,a,b,rfl,ho,k⟩:=hS
 walk_at "rd"
 rw[List.length_map]
 refine⟨sz3 1,by omega,by omega,?_⟩
 refine aD (fun i Δ M'=>∃ (F:List Str) (x:Option D),Δ=[some (D.tup (List.map az ord)),some (D.str a),some (D.str b),some (D.lst (F.map D.str)),x]/\M'=M/\F.length<=1+i*500/\a∈F/\(∀ x∈F,cu ord a x)/\(fU ord F∨i<=g7 ord F))
  ⟨[a],none,rfl,rfl,by simp,by simp,fun x hx=>by rw[List.mem_singleton.mp hx];exact cu.refl,.inr (Nat.zero_le _)⟩ ?_ ?_
 ·rintro i d Δ M' X hd ⟨F,x,rfl,rfl,hl,ha,hR,hC⟩ k'
  obtain⟨hi,rfl⟩:=cc hd
  simp only[bc]
  walk_at "rd"
  intro hz
  refine⟨hz,dm (pb F) py (fun Δ=>∃ x,Δ=[none,none,none,some (D.lst (F.map D.str)),none,x]) _ _ _ (fun d hd Δ hΔ=>?_) ⟨none,rfl⟩ ?_⟩
  ·obtain⟨x,rfl⟩:=hΔ
   obtain⟨⟨u,v⟩,hp,rfl⟩:=List.mem_map.mp hd
   refine⟨_,rfl,⟨_,rfl⟩,fun Q1 q=>?_,fun _ Q2 q=>?_⟩
   ·simp only[az]
    walk_at "rd"
    refine⟨_,if_pos ⟨rfl,eV⟩,_,rfl,?_⟩
    rw[dM]
    simp only[az,pb]at q
    refine gX (fun h=>?_) (fun h=>?_)
    ·simp only[Bool.false_xor]at h
     refine⟨_,if_pos ⟨rfl,eV⟩,_,rfl,?_⟩
     rw[dM]
     simpa[h]using q
    ·simp only[Bool.false_xor]at h
     have h':decide (u∈F)=false:=by simpa using h
     simpa[h']using q
   ·simp only[az]
    walk_at "rd"
    exact q
  ·rw[List.nil_append,BE]
   have hle:=u3 (ord:=ord) (F:=F)
   have hfl:(fN ord F).length=F.length+(List.filter (fun p=>decide (p.1∈F)&&!decide (p.2∈F)) ord).length:=by unfold fN;simp
   have hi':i<ord.length:=by simpa using hi
   refine⟨_,if_pos (by simp only[List.length_map];rw[<-hfl];refine szB _ ?_;have:i*500<=500*500:=Nat.mul_le_mul_right _ (by omega);omega),?_⟩
   refine k' _ _ ⟨fN ord F,some (D.int (0+(i:Int))),by rw[<-List.map_append];rfl,rfl,?_,nP ha,pV hR,ue hC⟩
   ·rw[Nat.add_mul];omega
 ·rintro Δ M' ⟨F,x,rfl,rfl,hl,ha,hR,hC⟩
  have hC':fU ord F:=u7 (by rw[bT]at hC;simpa using hC)
  walk_at "rd"
  refine⟨_,if_pos ⟨rfl,eV⟩,?_⟩
  rw[dM]
  have e:(false ^^ decide (b∈F))=rB ord a b:=by
   rw[Bool.false_xor,Bool.eq_iff_iff,o3,decide_eq_true_eq]
   exact⟨fun h=>hR b h,fun h=>p0 ha hC' h⟩
  rw[e]
  exact k
end
section
variable {P:Program} {w:World} {K:PySem.W.Frag} {mg:Str->Option Value} {base:Heap}
def jY:SpD:=fun ds M R=>∃ (ord:List (Str×Str)) (x y:Str×Int),ds=[.tup (ord.map az),aC x,aC y]/\ord.length<=500/\R (.bl (x.2+1==y.2&&lB ord x.2 x.1 y.1)) M
theorem nX {f:Addr} {fd:FuncData} (F:Fun K "_law_cancels" "_law_cancels" fX f fd) (T:Txt K mg) (g_l_at_most:FnD P w K mg base "_law_at_most" 1 3 jN):aK P w K mg base CX0 2 f fd ["_law_order_here","_law_one","_law_other"] (spD K 3 jY):=by
 have nd:=io.nd
 refine F.okQ rfl io (fun cdv A outer s H E hr=>⟨_,(aj (eh (bt (BP hr.units) (aO aP (aa 2) ak (fun _ _=>rfl)) (aI aH (aO aP (aa 1) ak (fun _ _=>rfl)) ak) (by first|exact av _ (by decide) (by decide)|rfl)) (am (aM uF)) cw)
   (aj (eh (bt (sn hr.units) (aI iU (aO aP (aa 1) ak (fun _ _=>rfl)) ak) ak (by first|exact av _ (by decide) (by decide)|rfl)) (am (aM (qc g_l_at_most (hr.mono (by decide)) rfl (ab (aa 0) (ab (aO aP (aa 1) ak (fun _ _=>rfl)) (ab (aO aP (aa 2) ak (fun _ _=>rfl)) ac)))))) cw)
   (am (aM (qc g_l_at_most (hr.mono (by decide)) rfl (ab (aa 0) (ab (aO aP (aa 2) ak (fun _ _=>rfl)) (ab (aO aP (aa 1) ak (fun _ _=>rfl)) ac)))))))),fun ds M R hl hS=>?_⟩)
 obtain⟨ord,x,y,rfl,ho,k⟩:=hS
 simp only[aC]
 walk_at "rd"
 by_cases h:y.2=x.2+1
 ·rw[if_neg (by simp[h])]
  have e0:(x.2+1==y.2&&lB ord x.2 x.1 y.1)=lB ord x.2 x.1 y.1:=by simp[h]
  rw[e0]at k
  refine gX (fun h2=>?_) (fun h2=>?_)
  ·rw[sZ (beq_iff_eq.mp h2)]at k
   exact⟨ord,_,_,rfl,ho,k⟩
  ·rw[vk (fun q=>h2 (by rw[q];rfl))]at k
   exact⟨ord,_,_,rfl,ho,k⟩
 ·rw[if_pos (by simp[h])]
  have e0:(x.2+1==y.2&&lB ord x.2 x.1 y.1)=false:=by
   have:(x.2+1==y.2)=false:=by simpa using fun q:x.2+1=y.2=>h q.symm
   simp only[this,Bool.false_and]
  rw[e0]at k;exact k
theorem zR {xs:List D} {i:Nat}:L2.cF xs (some (i:Int)) (some ((i:Int)+1))=(xs.drop i).take 1:=by
 have h:((i:Int)+1)=((i+1:Nat):Int):=by omega
 rw[h]
 unfold L2.cF
 rw[HT.sIx_nat,HT.sIx_nat]
 by_cases h:i+1<=xs.length
 ·rw[Nat.min_eq_left h,Nat.min_eq_left (by omega),Nat.add_sub_cancel_left]
 ·rw[Nat.min_eq_right (by omega)]
  have e1:xs.drop (min i xs.length)=[]:=List.drop_eq_nil_of_le (by omega)
  have e2:xs.drop i=[]:=List.drop_eq_nil_of_le (by omega)
  rw[e1,e2,List.take_nil,List.take_nil]
def qd:SpD:=fun ds M R=>∃ (ns:List Int) (i:Nat),ds=[.scr (ns.map .int),.int (i:Int)]/\i<=1/\ns.length<=1000/\R (.int (ns.getD i 0)) M
theorem uw {f:Addr} {fd:FuncData} (F:Fun K "_law_cell" "_law_cell" lU f fd) (T:Txt K mg) :aK P w K mg base CX0 1 f fd ["_law_script","_law_place"] (spD K 2 qd):=by
 have nd:=mP.nd
 refine F.okQ rfl mP (fun cdv A outer s H E hr=>⟨_,(am (aM (aO aP (aI aH (eN (aa 0) (fq (aa 1)) (fq (aI aH (aa 1) ak))) (jc (ab ak ac))) ak (fun _ _=>rfl)))),fun ds M R hl hS=>?_⟩)
 obtain⟨ns,i,rfl,hi,hn,k⟩:=hS
 walk_at "rd"
 have hc:=zR (xs:=ns.map D.int) (i:=i)
 rw[hc]
 refine⟨by rw[sizeLine_eq];decide,_,if_pos (by rw[List.length_take,sizeLine_eq];omega),.int (ns.getD i 0),?_,k⟩
 show atI _ ((0:Nat):Int)=_
 refine bX ?_
 rw[<-List.map_drop,<-List.map_take,List.getD_eq_getElem?_getD]
 cases h:ns[i]? with
 |none =>
  have:ns.drop i=[]:=List.drop_eq_nil_of_le (List.getElem?_eq_none_iff.mp h)
  rw[this];rfl
 |some v =>
  have hl:i<ns.length:=(List.getElem?_eq_some_iff.mp h).1
  rw[List.drop_eq_getElem_cons hl]
  have:ns[i]=v:=(List.getElem?_eq_some_iff.mp h).2
  simp[this]
def pi:SpD:=fun ds M R=>∃ (ws:List Str) (n:Nat),ds=[.lst (ws.map .str),.int (n:Int)]/\ws.length<=8/\n<=4/\R (.lst ((aB (aR ws) n).map wsD)) M
theorem uf {f:Addr} {fd:FuncData} (F:Fun K "_law_rows" "_law_rows" i5 f fd) (T:Txt K mg) :aK P w K mg base CX0 1 f fd ["_law_words","_law_length"] (spD K 2 pi):=by
 have nd:=np.nd
 refine F.okQ rfl np (fun cdv A outer s H E hr=>⟨_,(aj (aF (i:=2) nd rfl (Or.inl rfl) (jc (ab (bV ac) ac)))
   (aj (bQ PassesOwn.never rfl (bz rfl T.b_range (ab (aa 1) ac)) (aE (i:=3) nd rfl (Or.inl rfl)) (aj (aF (i:=4) nd rfl (Or.inl rfl) (jc ac))
   (aj (bQ PassesOwn.never rfl (bn (aa 2)) (aE (i:=5) nd rfl (Or.inr rfl)) (am (aF (i:=4) nd rfl (Or.inl rfl) (aI aH (aa 4) (iB (ms:=[false,false,false,false,false,true]) (extra:=["_law_word_here"]) (aG rfl (show aQ (ae i5) lF _ _=true from by decide +kernel)) rfl (bn (aN sT rfl T.b_sorted (by kernel_rfl) (ab (aa 0) ac))) (aL (i:=6) (show(lF++_).Nodup from by decide +kernel) rfl rfl) (fun _ _ _ _=>cg) (fun _ _ _ _=>(aI aH (aa 5) (bV (ab (aa 6) ac)))))))))
   (am (aF (i:=2) nd rfl (Or.inl rfl) (aa 4))))))
   (am (aM (aa 2))))),fun ds M R hl hS=>?_⟩)
 obtain⟨ws,n,rfl,hw,hn,k⟩:=hS
 walk_at "rd"
 have hx:(aR ws).length<=8:=by rw[(dv _).length_eq];exact hw
 refine⟨Nat.zero_le _,by rw[sizeLine_eq];decide,by omega,by omega,?_⟩
 rw[Int.toNat_natCast]
 refine aD (fun i Δ M'=>∃ x3 x4 x5,Δ=[some (D.lst (ws.map D.str)),some (D.int (n:Int)),some (D.lst ((aB (aR ws) i).map wsD)),x3,x4,x5]/\M'=M) ⟨_,_,_,rfl,rfl⟩ ?_ ?_
 ·rintro i d Δ M' X hd ⟨x3,x4,x5,rfl,rfl⟩ k'
  obtain⟨hi,rfl⟩:=cc hd
  have h8:8 ^ (i+1)<=4096:=by
   have:i+1<=4:=by omega
   exact Nat.le_trans (Nat.pow_le_pow_right (by decide) this) (by decide)
  have hlen:=iJ hx (i+1)
  refine⟨_,rfl,?_⟩
  simp only[oK,ke,vb,dG,rR,jR,br]
  refine⟨Nat.zero_le _,_,rfl,_,rfl,fun _=>?_⟩
  refine aD (fun j Δ M1=>∃ x5,Δ=[some (D.lst (ws.map D.str)),some (D.int (n:Int)),some (D.lst ((aB (aR ws) i).map wsD)),some (D.int (0+(i:Int))),some (D.lst ((((aB (aR ws) i).take j).flatMap fun r=>(aR ws).map fun x=>r++[x]).map wsD)),x5]/\M1=M') ⟨_,rfl,rfl⟩ ?_ ?_
  ·rintro j d Δ M1 X2 hd2 ⟨y5,rfl,rfl⟩ k2
   obtain⟨r,hr,rfl⟩:=dh hd2
   have hrm:=List.mem_of_getElem? hr
   refine⟨_,rfl,?_⟩
   simp only[dOp,dLc,dCB,bD,br,dG]
   refine⟨_,rfl,_,rfl,_,tU (by omega),_,rfl,fun _=>⟨by rw[List.length_map,sizeLine_eq];omega,?_⟩⟩
   refine a7 D.str (fun _=>true) (fun x=>wsD (r++[x])) (fun Δ=>∃ x,Δ=[none,none,none,none,none,some (wsD r),x]) _ _ _ ?_ ⟨_,rfl⟩ ?_
   ·rintro x hx' Δ ⟨b,rfl⟩
    refine⟨_,rfl,⟨_,rfl⟩,fun Q1 q=>q,fun _ Q2 q=>?_⟩
    have hr':r.length<=4:=by rw[iz hrm];omega
    refine⟨_,rfl,_,rfl,by simp only[List.length_cons,List.length_nil];rw[sizeLine_eq];decide,wsD (r++[x]),?_,q⟩
    show gI (.tup (r.map D.str)) (.tup [D.str x])=_
    rw[dX,if_pos (by rw[List.length_map,sizeLine_eq];simp;omega)]
    simp[wsD]
   ·rw[List.filter_eq_self.mpr (fun _ _=>rfl),List.nil_append]
    have hsp:((aB (aR ws) i).take (j+1)).flatMap (fun r=>(aR ws).map fun x=>r++[x])=(((aB (aR ws) i).take j).flatMap fun r=>(aR ws).map fun x=>r++[x])++(aR ws).map fun x=>r++[x]:=by
     rw[List.take_add_one,hr,List.flatMap_append];simp
    have hle:(((aB (aR ws) i).take (j+1)).flatMap fun r=>(aR ws).map fun x=>r++[x]).length<=(aB (aR ws) (i+1)).length:=by
     have e:=congrArg (fun l=>(l.flatMap fun r=>(aR ws).map fun x=>r++[x]).length) (List.take_append_drop (j+1) (aB (aR ws) i))
     simp only[List.flatMap_append,List.length_append]at e
     show _<=((aB (aR ws) i).flatMap _).length
     omega
    rw[hsp,List.length_append,List.length_map]at hle
    refine⟨_,if_pos (show List.length _+List.length _<=sizeLine by rw[List.length_map,List.length_map,sizeLine_eq];omega),k2 _ _ ⟨some (wsD r),?_,rfl⟩⟩
    rw[hsp,List.map_append,List.map_map]
    rfl
  ·rintro Δ M1 ⟨y5,rfl,rfl⟩
   rw[List.length_map,List.take_length]
   exact⟨_,rfl,k' _ _ ⟨_,_,_,rfl,rfl⟩⟩
 ·rintro Δ M' ⟨x3,x4,x5,rfl,rfl⟩
  rw[show(gG 0 n).length=n by simp[gG]]
  walk_at "rd"
  exact k
end
section
variable {P:Program} {w:World} {K:PySem.W.Frag} {mg:Str->Option Value} {base:Heap}
/-! ### how many drawings a row has -/
section
variable {σ:Type}
def jj:List σ->List (List σ×σ×List σ)
 |[]=>[]
 |y::ys=>([],y,ys)::(jj ys).map fun c=>(y::c.1,c.2.1,c.2.2)
theorem iK {xs:List σ}:∀ {c:List σ×σ×List σ},c∈jj xs->c.1.length+c.2.2.length+1=xs.length:=by
 induction xs with
 |nil=>intro c h;cases h
 |cons y ys ih =>
  intro c h
  rcases List.mem_cons.mp h with rfl|h
  ·simp
  ·obtain⟨d,hd,rfl⟩:=List.mem_map.mp h
   have:=ih hd
   simp;omega
def Wf (R:σ->σ->Bool):Nat->List σ->Nat
 |_,[]=>1
 |0,_::_=>0
 |k+1,x::xs=>((jj xs).map fun c=>if R x c.2.1 then Wf R k c.1*Wf R k c.2.2 else 0).sum
def W (R:σ->σ->Bool) (xs:List σ):Nat:=Wf R xs.length xs
theorem Af {R:σ->σ->Bool}:∀ {k:Nat} {xs:List σ},xs.length<=k->Wf R k xs=W R xs:=by
 have key:∀ (n k j:Nat) (xs:List σ),xs.length<=n->xs.length<=k->xs.length<=j->Wf R k xs=Wf R j xs:=by
  intro n
  induction n with
  |zero =>
   intro k j xs h _ _
   have:xs=[]:=List.eq_nil_of_length_eq_zero (by omega)
   subst this
   simp[Wf]
  |succ n ih =>
   intro k j xs h hk hj
   cases xs with
   |nil=>simp[Wf]
   |cons x xs =>
    simp only[List.length_cons]at h hk hj
    obtain⟨k,rfl⟩:∃ m,k=m+1:=⟨k-1,by omega⟩
    obtain⟨j,rfl⟩:∃ m,j=m+1:=⟨j-1,by omega⟩
    simp only[Wf]
    congr 1
    apply List.map_congr_left
    intro c hc
    have:=iK hc
    rw[ih k j c.1 (by omega) (by omega) (by omega),ih k j c.2.2 (by omega) (by omega) (by omega)]
 intro k xs h
 exact key k k xs.length xs h h (Nat.le_refl _)
theorem px {R:σ->σ->Bool}:W R []=1:=by simp[W,Wf]
theorem oE {R:σ->σ->Bool} {x:σ} {xs:List σ}:W R (x::xs)=((jj xs).map fun c=>if R x c.2.1 then W R c.1*W R c.2.2 else 0).sum:=by
 show Wf R (xs.length+1) (x::xs)=_
 simp only[Wf]
 congr 1
 apply List.map_congr_left
 intro c hc
 have:=iK hc
 rw[Af (by omega),Af (by omega)]
theorem p8 {α:Type} {f:α->Nat} {m:Nat}:∀ {l:List α},(l.map f).sum*m=(l.map fun x=>f x*m).sum
 |[]=>by simp
 |x::l=>by simp only[List.map_cons,List.sum_cons,Nat.add_mul,p8 (l:=l)]
theorem pp {α:Type} {f:α->Nat} {m:Nat}:∀ {l:List α},m*(l.map f).sum=(l.map fun x=>m*f x).sum
 |[]=>by simp
 |x::l=>by simp only[List.map_cons,List.sum_cons,Nat.mul_add,pp (l:=l)]
theorem kq {α:Type} {f g:α->Nat}:∀ {l:List α},(l.map fun x=>f x+g x).sum=(l.map f).sum+(l.map g).sum
 |[]=>by simp
 |x::l=>by simp only[List.map_cons,List.sum_cons,kq (l:=l)];omega
theorem cO {α:Type} {f:α->Nat}:∀ {l:List α},(∀ x∈l,f x=0)->(l.map f).sum=0
 |[],_=>by simp
 |x::l,h=>by
  simp only[List.map_cons,List.sum_cons,h x (.head _),cO fun y hy=>h y (.tail _ hy)]
theorem Aw {R:σ->σ->Bool}:∀ (n:Nat) (xs:List σ),xs.length<=n->xs.length % 2=1->W R xs=0:=by
 intro n
 induction n with
 |zero=>intro xs h o;omega
 |succ n ih =>
  intro xs h o
  cases xs with
  |nil=>simp at o
  |cons x xs =>
   simp only[List.length_cons]at h o
   rw[oE]
   refine cO fun c hc=>?_
   have:=iK hc
   by_cases e:c.1.length % 2=1
   ·rw[ih c.1 (by omega) e];simp
   ·rw[ih c.2.2 (by omega) (by omega)];simp
theorem cH {α:Type} {f:α->Nat} {m:Nat}:∀ {l:List α},(∀ x∈l,f x<=m)->(l.map f).sum<=l.length*m
 |[],_=>by simp
 |x::l,h=>by
  simp only[List.map_cons,List.sum_cons,List.length_cons,Nat.add_mul,Nat.one_mul]
  have:=cH (l:=l) fun y hy=>h y (.tail _ hy)
  have:=h x (.head _)
  omega
theorem pf {xs:List σ}:(jj xs).length=xs.length:=by
 induction xs with
 |nil=>rfl
 |cons x xs ih=>simp[jj,ih]
theorem EZ {R:σ->σ->Bool}:∀ (n:Nat) (xs:List σ),xs.length<=n->n<=100->W R xs<=100 ^ xs.length:=by
 intro n
 induction n with
 |zero =>
  intro xs h _
  have:xs=[]:=List.eq_nil_of_length_eq_zero (by omega)
  subst this
  simp[px]
 |succ n ih =>
  intro xs h hn
  cases xs with
  |nil=>simp[px]
  |cons x xs =>
   simp only[List.length_cons]at h ⊢
   rw[oE]
   refine Nat.le_trans (cH (m:=100 ^ xs.length) fun c hc=>?_) ?_
   ·have:=iK hc
    by_cases e:R x c.2.1=true
    ·rw[if_pos e]
     refine Nat.le_trans (Nat.mul_le_mul (ih c.1 (by omega) (by omega)) (ih c.2.2 (by omega) (by omega))) ?_
     rw[<-Nat.pow_add]
     exact Nat.pow_le_pow_right (by decide) (by omega)
    ·rw[if_neg e];exact Nat.zero_le _
   ·rw[pf,Nat.pow_succ,Nat.mul_comm]
    exact Nat.mul_le_mul_left _ (by omega)
end
end
section
variable {P:Program} {w:World} {K:PySem.W.Frag} {mg:Str->Option Value} {base:Heap}
/-! ### all stretches from a place to another one,and how many drawings they have -/
theorem qu {α β:Type} {f:α->β->Nat}:∀ {l:List α} {m:List β},(l.map fun a=>(m.map fun b=>f a b).sum).sum=(m.map fun b=>(l.map fun a=>f a b).sum).sum
 |[],m=>by simp[cO]
 |a::l,m=>by simp only[List.map_cons,List.sum_cons,qu (l:=l),<-kq]
theorem kF {α:Type} {f:α->Nat}:∀ {l:List α},(l.map fun x=>((f x:Nat):Int)).sum=(((l.map f).sum:Nat):Int)
 |[]=>rfl
 |x::l=>by simp only[List.map_cons,List.sum_cons,kF (l:=l),Int.natCast_add]
theorem iH {α β:Type} {g:β->Nat} {f:α->List β}:∀ {l:List α},((l.flatMap f).map g).sum=(l.map fun a=>((f a).map g).sum).sum
 |[]=>rfl
 |a::l=>by rw[List.flatMap_cons,List.map_append,List.sum_append,iH (l:=l)];rfl
theorem sJ {α:Type} [DecidableEq α] {f:α->Nat} {p:α}:∀ {A:List α},A.Nodup->p∈A->(A.map fun m=>if p=m then f m else 0).sum=f p
 |[],_,h=>by cases h
 |a::A,hn,h=>by
  rw[List.nodup_cons]at hn
  rw[List.map_cons,List.sum_cons]
  by_cases e:p=a
  ·subst e
   rw[if_pos rfl,cO fun m hm=>if_neg fun z=>hn.1 (by rw[z];exact hm)];rfl
  ·rw[if_neg e,sJ hn.2 ((List.mem_cons.mp h).resolve_left e),Nat.zero_add]
theorem tf {α:Type} {f:α->Nat}:∀ {B A:List α},B.Nodup->A.Nodup->(∀ x∈B,x∈A)->(∀ x∈A,x∉B->f x=0)->(A.map f).sum=(B.map f).sum
 |[],A,_,_,_,h=>by rw[cO fun x hx=>h x hx (by simp)];rfl
 |b::B,A,hB,hA,hs,h=>by
  obtain⟨A1,A2,rfl⟩:=List.append_of_mem (hs b (.head _))
  rw[List.nodup_cons]at hB
  have hA2:(b::(A1++A2)).Nodup:=(List.perm_middle.nodup_iff).mp hA
  rw[List.nodup_cons]at hA2
  have ih:=tf (f:=f) (B:=B) (A:=A1++A2) hB.2 hA2.2 (fun x hx=>by
   have h1:=hs x (.tail _ hx)
   have h2:x≠b:=fun z=>hB.1 (by rw[<-z];exact hx)
   simp only[List.mem_append,List.mem_cons]at h1 ⊢
   rcases h1 with h1|h1|h1
   ·exact .inl h1
   ·exact absurd h1 h2
   ·exact .inr h1) (fun x hx hb=>h x (by simp only[List.mem_append,List.mem_cons]at hx ⊢;rcases hx with q|q;exact .inl q;exact .inr (.inr q)) fun z=>by
    rcases List.mem_cons.mp z with q|q
    ·exact hA2.1 (by rw[<-q];exact hx)
    ·exact hb q)
  rw[List.map_append,List.map_cons,List.sum_append,List.sum_cons,List.map_cons,List.sum_cons,<-ih,List.map_append,List.sum_append]
  omega
section
variable {π σ:Type} [DecidableEq π]
structure Net (π σ:Type) where
 sg:π->Option σ
 nx:π->π
 bg:π->List π
def St (N:Net π σ):Nat->π->π->List (List σ)
 |0,_,_=>[]
 |f+1,p,q=>(if p=q then[[]]else[])++match N.sg p with
  |some x=>(St N f (N.nx p) q).map (x::·)
  |none=>(N.bg p).flatMap fun b=>St N f b q
structure cm (N:Net π σ) (A:List π) (rk:π->Nat):Prop where
 sg:∀ p∈A,(N.sg p).isSome->N.nx p∈A/\rk (N.nx p)<rk p
 bg:∀ p∈A,N.sg p=none->∀ b∈N.bg p,b∈A/\rk b<rk p
variable {N:Net π σ} {A:List π} {rk:π->Nat}
theorem ff {α β:Type} {f g:α->List β}:∀ {l:List α},(∀ x∈l,f x=g x)->l.flatMap f=l.flatMap g
 |[],_=>rfl
 |x::l,h=>by rw[List.flatMap_cons,List.flatMap_cons,h x (.head _),ff fun y hy=>h y (.tail _ hy)]
theorem nT (F:cm N A rk):∀ (f g:Nat) (p q:π),p∈A->rk p<f->rk p<g->St N f p q=St N g p q
 |0,_,_,_,_,h,_=>absurd h (Nat.not_lt_zero _)
 |_,0,_,_,_,_,h=>absurd h (Nat.not_lt_zero _)
 |f+1,g+1,p,q,hp,hf,hg=>by
  unfold St
  cases h:N.sg p with
  |some x =>
   obtain⟨h1,h2⟩:=F.sg p hp (by rw[h];rfl)
   simp only[]
   rw[nT F f g (N.nx p) q h1 (by omega) (by omega)]
  |none =>
   simp only[]
   congr 1
   refine ff fun b hb=>?_
   obtain⟨h1,h2⟩:=F.bg p hp h b hb
   exact nT F f g b q h1 (by omega) (by omega)
def Sts (N:Net π σ) (rk:π->Nat) (p q:π):List (List σ):=St N (rk p+1) p q
theorem wu (F:cm N A rk) {f:Nat} {p q:π} (hp:p∈A) (h:rk p<f):St N f p q=Sts N rk p q:=nT F _ _ _ _ hp h (by omega)
theorem eS (F:cm N A rk) {p q:π} {x:σ} (hp:p∈A) (h:N.sg p=some x):Sts N rk p q=(if p=q then[[]]else[])++(Sts N rk (N.nx p) q).map (x::·):=by
 obtain⟨h1,h2⟩:=F.sg p hp (by rw[h];rfl)
 unfold Sts
 rw[St,h]
 simp only[]
 rw[wu F h1 h2];rfl
theorem fY (F:cm N A rk) {p q:π} (hp:p∈A) (h:N.sg p=none):Sts N rk p q=(if p=q then[[]]else[])++(N.bg p).flatMap fun b=>Sts N rk b q:=by
 unfold Sts
 rw[St,h]
 simp only[]
 congr 1
 refine ff fun b hb=>?_
 obtain⟨h1,h2⟩:=F.bg p hp h b hb
 rw[wu F h1 h2];rfl
theorem pc (F:cm N A rk) (hA:A.Nodup):∀ (f:Nat) (p q:π) (G:List σ->σ->List σ->Nat),p∈A->rk p<f ->
  ((Sts N rk p q).map fun s=>((jj s).map fun c=>G c.1 c.2.1 c.2.2).sum).sum=(A.map fun m=>match N.sg m with|none=>0|some y=>((Sts N rk p m).map fun u=>((Sts N rk (N.nx m) q).map fun v=>G u y v).sum).sum).sum
 |0,_,_,_,_,h=>absurd h (Nat.not_lt_zero _)
 |f+1,p,q,G,hp,hf=>by
  cases h:N.sg p with
  |some x =>
   obtain⟨h1,h2⟩:=F.sg p hp (by rw[h];rfl)
   have ih:=pc F hA f (N.nx p) q (fun u=>G (x::u)) h1 (by omega)
   have e1:(A.map fun m=>match N.sg m with|none=>0|some y=>((Sts N rk p m).map fun u=>((Sts N rk (N.nx m) q).map fun v=>G u y v).sum).sum)=A.map fun m=>(if p=m then((Sts N rk (N.nx p) q).map fun v=>G [] x v).sum else 0)+match N.sg m with|none=>0|some y=>((Sts N rk (N.nx p) m).map fun u=>((Sts N rk (N.nx m) q).map fun v=>G (x::u) y v).sum).sum:=by
    refine List.map_congr_left fun m hm=>?_
    by_cases e:p=m
    ·subst e
     rw[if_pos rfl,h]
     simp only[]
     rw[eS F hp h,if_pos rfl,List.map_append,List.sum_append,List.map_map]
     simp[Function.comp_def]
    ·rw[if_neg e,Nat.zero_add]
     cases N.sg m with
     |none=>rfl
     |some y =>
      simp only[]
      rw[eS F hp h,if_neg e,List.nil_append,List.map_map];rfl
   rw[e1,kq,sJ (f:=fun _=>((Sts N rk (N.nx p) q).map fun v=>G [] x v).sum) hA hp,<-ih,eS F hp h,List.map_append,List.sum_append,List.map_map]
   have e2:((if p=q then[([]:List σ)]else[]).map fun s=>((jj s).map fun c=>G c.1 c.2.1 c.2.2).sum).sum=0:=by
    by_cases e:p=q
    ·rw[if_pos e];rfl
    ·rw[if_neg e];rfl
   rw[e2,Nat.zero_add,<-kq]
   congr 1
   refine List.map_congr_left fun s _=>?_
   simp[jj,Function.comp_def]
  |none =>
   have e1:(A.map fun m=>match N.sg m with|none=>0|some y=>((Sts N rk p m).map fun u=>((Sts N rk (N.nx m) q).map fun v=>G u y v).sum).sum)=A.map fun m=>((N.bg p).map fun b=>match N.sg m with|none=>0|some y=>((Sts N rk b m).map fun u=>((Sts N rk (N.nx m) q).map fun v=>G u y v).sum).sum).sum:=by
    refine List.map_congr_left fun m hm=>?_
    cases hm':N.sg m with
    |none=>exact(cO fun _ _=>rfl).symm
    |some y =>
     have e:p≠m:=fun z=>by rw[<-z,h]at hm';cases hm'
     simp only[]
     rw[fY F hp h,if_neg e,List.nil_append,iH]
   rw[e1,qu,fY F hp h,List.map_append,List.sum_append]
   have e2:((if p=q then[([]:List σ)]else[]).map fun s=>((jj s).map fun c=>G c.1 c.2.1 c.2.2).sum).sum=0:=by
    by_cases e:p=q
    ·rw[if_pos e];rfl
    ·rw[if_neg e];rfl
   rw[e2,Nat.zero_add,iH]
   congr 1
   refine List.map_congr_left fun b hb=>?_
   obtain⟨h1,h2⟩:=F.bg p hp h b hb
   exact pc F hA f b q G h1 (by omega)
def cnt (R:σ->σ->Bool) (N:Net π σ) (rk:π->Nat) (p q:π):Nat:=((Sts N rk p q).map (W R)).sum
variable {R:σ->σ->Bool}
theorem wp (F:cm N A rk) {p q:π} (hp:p∈A) (h:N.sg p=none):cnt R N rk p q=(if p=q then 1 else 0)+((N.bg p).map fun b=>cnt R N rk b q).sum:=by
 unfold cnt
 rw[fY F hp h,List.map_append,List.sum_append,iH]
 congr 1
 by_cases e:p=q
 ·rw[if_pos e,if_pos e];simp[px]
 ·rw[if_neg e,if_neg e];rfl
theorem wG (F:cm N A rk) (hA:A.Nodup) {p q:π} {x:σ} (hp:p∈A) (h:N.sg p=some x):cnt R N rk p q=(if p=q then 1 else 0)+(A.map fun m=>if(N.sg m).elim false (R x)=true then cnt R N rk (N.nx p) m*cnt R N rk (N.nx m) q else 0).sum:=by
 obtain⟨h1,h2⟩:=F.sg p hp (by rw[h];rfl)
 have e0:cnt R N rk p q=(if p=q then 1 else 0)+((Sts N rk (N.nx p) q).map fun s=>W R (x::s)).sum:=by
  unfold cnt
  rw[eS F hp h,List.map_append,List.sum_append,List.map_map]
  congr 1
  by_cases e:p=q
  ·rw[if_pos e,if_pos e];simp[px]
  ·rw[if_neg e,if_neg e];rfl
 rw[e0]
 congr 1
 have e1:((Sts N rk (N.nx p) q).map fun s=>W R (x::s))=(Sts N rk (N.nx p) q).map fun s=>((jj s).map fun c=>(fun u y v=>if R x y=true then W R u*W R v else 0) c.1 c.2.1 c.2.2).sum:=List.map_congr_left fun s _=>oE
 rw[e1,pc F hA _ (N.nx p) q (fun u y v=>if R x y=true then W R u*W R v else 0) h1 (Nat.lt_succ_self _)]
 congr 1
 refine List.map_congr_left fun m _=>?_
 cases N.sg m with
 |none=>rfl
 |some y =>
  by_cases e:R x y=true
  ·rw[if_pos (show(some y).elim false (R x)=true from e)]
   unfold cnt
   rw[p8]
   show List.sum _=_
   congr 1
   refine List.map_congr_left fun u _=>?_
   rw[pp]
   congr 1
   exact List.map_congr_left fun v _=>by rw[if_pos e]
  ·rw[if_neg (show ¬ (some y).elim false (R x)=true from e)]
   exact cO fun u _=>cO fun v _=>by rw[if_neg e]
theorem sf:∀ {f:Nat} {p q:π} {s:List σ},s∈St N f p q->s.length<=f
 |0,_,_,_,h=>by cases h
 |f+1,p,q,s,h=>by
  unfold St at h
  rcases List.mem_append.mp h with h|h
  ·split at h
   ·rw[List.mem_singleton.mp h];exact Nat.zero_le _
   ·cases h
  ·cases hx:N.sg p with
   |some x =>
    rw[hx]at h
    obtain⟨t,ht,rfl⟩:=List.mem_map.mp h
    have:=sf ht
    simp;omega
   |none =>
    rw[hx]at h
    obtain⟨b,hb,ht⟩:=List.mem_flatMap.mp h
    have:=sf ht
    omega
theorem sh {k:Nat} (hb:∀ p,(N.bg p).length<=k):∀ {f:Nat} {p q:π},(St N f p q).length<=(k+2) ^ f
 |0,_,_=>by simp[St]
 |f+1,p,q=>by
  unfold St
  rw[List.length_append]
  have h1:(if p=q then[([]:List σ)]else[]).length<=1:=by split<;>simp
  have hp:1<=(k+2) ^ f:=Nat.one_le_pow _ _ (by omega)
  have h3:(k+2) ^ (f+1)=(k+1)*(k+2) ^ f+(k+2) ^ f:=by rw[Nat.pow_succ,Nat.mul_comm,Nat.succ_mul]
  cases hx:N.sg p with
  |some x =>
   simp only[]
   rw[List.length_map]
   have:=sh hb (f:=f) (p:=N.nx p) (q:=q)
   have h4:(k+2) ^ f<=(k+1)*(k+2) ^ f:=Nat.le_mul_of_pos_left _ (by omega)
   omega
  |none =>
   simp only[]
   rw[List.length_flatMap]
   have h5:=cH (f:=fun b=>(St N f b q).length) (m:=(k+2) ^ f) (l:=N.bg p) fun b _=>sh hb
   have h6:=Nat.mul_le_mul_right ((k+2) ^ f) (hb p)
   rw[Nat.succ_mul]at h3
   omega
theorem zK {k f:Nat} (hb:∀ p,(N.bg p).length<=k) {p q:π} (hr:rk p<f) (hf:f<=100):cnt R N rk p q<=(k+2) ^ f*100 ^ f:=by
 unfold cnt
 refine Nat.le_trans (cH (m:=100 ^ f) fun s hs=>?_) ?_
 ·have h1:=sf hs
  exact Nat.le_trans (EZ 100 s (by omega) (Nat.le_refl _)) (Nat.pow_le_pow_right (by decide) (by omega))
 ·exact Nat.mul_le_mul_right _ (Nat.le_trans (sh hb) (Nat.pow_le_pow_right (by omega) (by omega)))
end
end
section
variable {P:Program} {w:World} {K:PySem.W.Frag} {mg:Str->Option Value} {base:Heap}
/-! ### the chart's counts -/
def rel (ord:List (Str×Str)) (x y:Str×Int):Bool:=x.2+1==y.2&&lB ord x.2 x.1 y.1
def aY (kd:KD):Net Pl (Str×Int):=⟨bK kd,nxt,aW kd⟩
structure fW (kd:KD) (N:Int) (K B:Nat):Prop where
 up:kd.Pairwise fun a b=>a.1<b.1
 bd:∀ q∈kd,-1<=q.1/\q.1<=N/\q.2.length<=K/\∀ r∈q.2,r.length<=B
def eU (N:Int) (B:Nat) (p:Pl):Nat:=((N+1-p.1)*((B:Int)+1)-p.2.2).toNat
def plt (p q:Pl):Prop:=p.1<q.1∨(p.1=q.1/\(p.2.1<q.2.1∨(p.2.1=q.2.1/\p.2.2<q.2.2)))
theorem gr {p q r:Pl} (h:plt p q) (h':plt q r):plt p r:=by unfold plt at *;omega
theorem o8 {p:Pl} (h:plt p p):False:=by unfold plt at h;omega
theorem gE {p:Pl}:plt p (nxt p):=by unfold plt nxt;dsimp only;omega
theorem ba {kd:KD} {p:Pl}:p∈ai kd↔∃ q∈kd,∃ (i:Nat) (row:Row) (j:Nat),q.2[i]?=some row/\j<=row.length/\p=(q.1,(i:Int),(j:Int)):=by
 unfold ai fA fE
 simp only[List.mem_flatMap,List.mem_map,List.mem_range]
 constructor
 ·rintro⟨q,hq,r,hr,j,hj,rfl⟩
  have h:=List.mem_zipIdx_iff_getElem?.mp hr
  exact⟨q,hq,r.2,r.1,j,h,by omega,rfl⟩
 ·rintro⟨q,hq,i,row,j,hr,hj,rfl⟩
  exact⟨q,hq,(row,i),List.mem_zipIdx_iff_getElem?.mpr hr,j,Nat.lt_succ_of_le hj,rfl⟩
theorem zh {n:Nat} (h:n<=(2 ^ 4) ^ 100*(2 ^ 7) ^ 100):Few (n:Int):=by
 unfold Few
 rw[intBits_le_iff,Int.natAbs_natCast]
 refine Nat.lt_of_le_of_lt h ?_
 rw[<-Nat.pow_mul,<-Nat.pow_mul,<-Nat.pow_add]
 exact Nat.pow_lt_pow_right (by decide) (by decide)
section
variable {kd:KD} {N:Int} {K B:Nat}
theorem kn (h:kd.Pairwise fun a b=>a.1<b.1) {q:Int×List Row} (hq:q∈kd):look kd q.1=some q.2:=by
 unfold look
 induction kd with
 |nil=>cases hq
 |cons a l ih =>
  rw[List.pairwise_cons]at h
  rcases List.mem_cons.mp hq with e|e
  ·rw[e,List.find?_cons_of_pos (by simp)];rfl
  ·have:=h.1 q e
   rw[List.find?_cons_of_neg (by simp;omega)]
   exact ih h.2 e
theorem fW.sgn (ok:fW kd N K B) {q:Int×List Row} (hq:q∈kd) {i j:Nat} {row:Row} (hr:q.2[i]?=some row):bK kd (q.1,(i:Int),(j:Int))=row[j]? :=
 pL rfl (kn ok.up hq) hr
theorem fW.valid (ok:fW kd N K B) {p:Pl} (hp:p∈ai kd):nG kd p:=by
 obtain⟨q,hq,i,row,j,hr,hj,rfl⟩:=ba.mp hp
 exact⟨q.2,row,i,j,rfl,kn ok.up hq,hr⟩
theorem ll {p b:Pl} (h:b∈aW kd p):∃ rows,(p.1+1,rows)∈kd/\∃ (k:Nat) (row:Row),rows[k]?=some row/\b=(p.1+1,(k:Int),0):=by
 unfold aW at h
 obtain⟨k,hk,rfl⟩:=List.mem_map.mp h
 cases hl:look kd (p.1+1)with
 |none=>rw[hl]at hk;simp at hk
 |some rows =>
  rw[hl]at hk
  have hk':k<rows.length:=by simpa using hk
  exact⟨rows,ik hl,k,rows[k],by simp[hk'],rfl⟩
theorem fW.falls (ok:fW kd N K B):cm (aY kd) (ai kd) (eU N B) where
 sg:=by
  intro p hp hs
  obtain⟨q,hq,i,row,j,hr,hj,rfl⟩:=ba.mp hp
  have hs':(row[j]?).isSome:=by rw[<-ok.sgn hq hr];exact hs
  have hj':j<row.length:=by simpa using hs'
  refine⟨ba.mpr ⟨q,hq,i,row,j+1,hr,hj',rfl⟩,?_⟩
  obtain⟨_,h1,_,h2⟩:=ok.bd q hq
  have h3:=h2 row (List.mem_of_getElem? hr)
  show((N+1-q.1)*((B:Int)+1)-((j:Int)+1)).toNat<((N+1-q.1)*((B:Int)+1)-(j:Int)).toNat
  have h4:(1:Int)*((B:Int)+1)<=(N+1-q.1)*((B:Int)+1):=Int.mul_le_mul_of_nonneg_right (by omega) (by omega)
  omega
 bg:=by
  intro p hp hs b hb
  obtain⟨q,hq,i,row,j,hr,hj,rfl⟩:=ba.mp hp
  obtain⟨rows,hm,k,row',hk,rfl⟩:=ll hb
  refine⟨ba.mpr ⟨_,hm,k,row',0,hk,Nat.zero_le _,rfl⟩,?_⟩
  obtain⟨_,_,_,h2⟩:=ok.bd q hq
  obtain⟨_,h1,_,_⟩:=ok.bd _ hm
  have h3:=h2 row (List.mem_of_getElem? hr)
  show((N+1-(q.1+1))*((B:Int)+1)-0).toNat<((N+1-q.1)*((B:Int)+1)-(j:Int)).toNat
  have h5:(N+1-q.1)*((B:Int)+1)=(N+1-(q.1+1))*((B:Int)+1)+((B:Int)+1):=by
   rw[show N+1-q.1=(N+1-(q.1+1))+1 by omega,Int.add_mul,Int.one_mul]
  have h6:0<=(N+1-(q.1+1))*((B:Int)+1):=Int.mul_nonneg (by simp only[]at h1;omega) (by omega)
  omega
theorem fW.bgl (ok:fW kd N K B) (p:Pl):((aY kd).bg p).length<=K:=by
 show(aW kd p).length<=K
 unfold aW
 rw[List.length_map,List.length_range]
 cases h:look kd (p.1+1)with
 |none=>exact Nat.zero_le _
 |some rows=>exact(ok.bd _ (ik h)).2.2.1
theorem fW.rk (ok:fW kd N K B) {p:Pl} (hp:p∈ai kd):(eU N B p:Int)<=(N+2)*((B:Int)+1):=by
 obtain⟨q,hq,i,row,j,hr,hj,rfl⟩:=ba.mp hp
 obtain⟨h0,h1,_,h2⟩:=ok.bd q hq
 have h4:(N+1-q.1)*((B:Int)+1)<=(N+2)*((B:Int)+1):=Int.mul_le_mul_of_nonneg_right (by omega) (by omega)
 have h6:0<=(N+1-q.1)*((B:Int)+1):=Int.mul_nonneg (by omega) (by omega)
 show((((N+1-q.1)*((B:Int)+1)-(j:Int)).toNat:Nat):Int)<=_
 omega
theorem jw (h:kd.Pairwise fun a b=>a.1<b.1):(ai kd).Pairwise plt:=by
 unfold ai
 rw[List.pairwise_flatMap]
 constructor
 ·intro q _
  unfold fA
  rw[List.pairwise_flatMap]
  constructor
  ·intro r _
   unfold fE
   rw[List.pairwise_map]
   refine List.Pairwise.imp ?_ List.pairwise_lt_range
   intro a b hab
   unfold plt;dsimp only;omega
  ·rw[List.pairwise_iff_getElem]
   intro a b ha hb hab x hx y hy
   unfold fE at hx hy
   obtain⟨j,_,rfl⟩:=List.mem_map.mp hx
   obtain⟨k,_,rfl⟩:=List.mem_map.mp hy
   simp only[List.getElem_zipIdx]
   unfold plt;dsimp only;omega
 ·refine List.Pairwise.imp ?_ h
  intro a b hab x hx y hy
  unfold fA fE at hx hy
  simp only[List.mem_flatMap,List.mem_map]at hx hy
  obtain⟨_,_,_,_,rfl⟩:=hx
  obtain⟨_,_,_,_,rfl⟩:=hy
  exact .inl hab
theorem oV (h:kd.Pairwise fun a b=>a.1<b.1):(ai kd).Nodup :=
 List.Pairwise.imp (fun {a b} (hab:plt a b)=>fun e=>o8 (by rw[e]at hab;exact hab)) (jw h)
theorem lg {l:List Pl} (h:l.Pairwise plt) {i:Nat} {p q:Pl} (hi:l.reverse[i]?=some p) (hq:q∈l) (hpq:plt p q):q∈l.reverse.take i:=by
 have hr:l.reverse.Pairwise fun a b=>plt b a:=List.pairwise_reverse.mpr h
 obtain⟨hl,e⟩:=List.getElem?_eq_some_iff.mp hi
 rw[<-List.mem_reverse,<-List.take_append_drop i l.reverse,List.mem_append]at hq
 rcases hq with hq|hq
 ·exact hq
 ·rw[List.drop_eq_getElem_cons hl]at hq
  rcases List.mem_cons.mp hq with c|c
  ·rw[e]at c;rw[c]at hpq;exact(o8 hpq).elim
  ·have h2:=hr.sublist (List.drop_sublist i _)
   rw[List.drop_eq_getElem_cons hl,List.pairwise_cons,e]at h2
   exact(o8 (gr hpq (h2.1 q c))).elim
theorem sy {α:Type} {p m:Pl} {v:α}:∀ {l:List (Pl×α)},lkP (eI l p v) m=if p=m then some v else lkP l m:=by
 intro l
 have key:∀ l:List (Pl×α),lkP (l.map fun z=>if z.1=p then(z.1,v)else z) m=if p=m then(lkP l m).map fun _=>v else lkP l m:=by
  intro l
  induction l with
  |nil=>simp[lkP]
  |cons z l ih =>
   unfold lkP at ih ⊢
   rw[List.map_cons]
   by_cases h1:z.1=p
   ·rw[if_pos h1]
    by_cases h2:p=m
    ·rw[if_pos h2,List.find?_cons_of_pos (by simp[h1,h2]),List.find?_cons_of_pos (by simp[h1,h2])];rfl
    ·rw[List.find?_cons_of_neg (by simp[h1,h2]),List.find?_cons_of_neg (by simp[h1,h2]),ih]
   ·rw[if_neg h1]
    by_cases h2:z.1=m
    ·rw[List.find?_cons_of_pos (by simp[h2]),List.find?_cons_of_pos (by simp[h2])]
     rw[if_neg (fun e=>h1 (by rw[h2,e]))]
    ·rw[List.find?_cons_of_neg (by simp[h2]),List.find?_cons_of_neg (by simp[h2]),ih]
 have find:∀ l:List (Pl×α),(l.any fun z=>decide (z.1=p))=(lkP l p).isSome:=by
  intro l
  induction l with
  |nil=>rfl
  |cons z l ih =>
   unfold lkP at ih ⊢
   rw[List.any_cons,ih]
   by_cases h:z.1=p
   ·rw[List.find?_cons_of_pos (by simp[h])];simp[h]
   ·rw[List.find?_cons_of_neg (by simp[h])];simp[h]
 unfold eI
 rw[find]
 split
 ·rename_i h
  rw[key]
  by_cases e:p=m
  ·subst e
   obtain⟨u,hu⟩:=Option.isSome_iff_exists.mp h
   rw[if_pos rfl,if_pos rfl,hu];rfl
  ·rw[if_neg e,if_neg e]
 ·rename_i h
  have h':lkP l p=none:=by simpa using h
  unfold lkP at h' ⊢
  rw[List.find?_append]
  by_cases e:p=m
  ·subst e
   rw[if_pos rfl,Option.map_eq_none_iff.mp h']
   simp
  ·rw[if_neg e]
   cases List.find? (fun z=>decide (z.1=m)) l with
   |some u=>rfl
   |none=>simp[e]
theorem qI {α:Type} {p:Pl} {v:α} {l:List (Pl×α)}:(eI l p v).map (·.1)=if p∈l.map (·.1)then l.map (·.1)else l.map (·.1)++[p]:=by
 have h:(l.any fun z=>decide (z.1=p))=true↔p∈l.map (·.1):=by
  rw[List.any_eq_true,List.mem_map]
  simp only[decide_eq_true_eq]
 unfold eI
 by_cases c:(l.any fun z=>decide (z.1=p))=true
 ·rw[if_pos c,if_pos (h.mp c),List.map_map]
  refine List.map_congr_left fun z _=>?_
  simp only[Function.comp_def]
  split<;>rfl
 ·rw[if_neg c,if_neg (fun z=>c (h.mpr z)),List.map_append];rfl
theorem uB {α:Type} {p:Pl} {v:α} {l:List (Pl×α)} (h:(l.map (·.1)).Nodup):((eI l p v).map (·.1)).Nodup:=by
 rw[qI]
 split
 ·exact h
 ·rename_i c
  rw[List.nodup_append]
  exact⟨h,by simp,fun a ha b hb e=>c (by rw[List.mem_singleton.mp hb]at e;rw[<-e];exact ha)⟩
theorem iC {α:Type} {p m:Pl} {v:α} {l:List (Pl×α)} (h:m∈(eI l p v).map (·.1)):m=p∨m∈l.map (·.1):=by
 rw[qI]at h
 split at h
 ·exact .inr h
 ·rcases List.mem_append.mp h with h|h
  ·exact .inr h
  ·exact .inl (List.mem_singleton.mp h)
theorem yi {l:List (Pl×Int)} {e m:Pl} {v:Int}:(lkP (vK l e v) m).getD 0=(lkP l m).getD 0+if e=m then v else 0:=by
 show(lkP (eI l e ((lkP l e).getD 0+v)) m).getD 0=_
 rw[sy]
 by_cases c:e=m
 ·rw[if_pos c,if_pos c,c];rfl
 ·rw[if_neg c,if_neg c,Int.add_zero]
theorem jb {α:Type} {m:Pl}:∀ {l:List (Pl×α)},m∉l.map (·.1)->lkP l m=none
 |[],_=>rfl
 |z::l,h=>by
  unfold lkP
  rw[List.find?_cons_of_neg (by simp;exact fun e=>h (by rw[<-e];exact .head _))]
  exact jb fun q=>h (.tail _ q)
theorem l9 {α:Type} {m:Pl} {z:Pl×α} {l:List (Pl×α)}:lkP (z::l) m=if z.1=m then some z.2 else lkP l m:=by
 unfold lkP
 by_cases h:z.1=m
 ·rw[if_pos h,List.find?_cons_of_pos (by simp[h])];rfl
 ·rw[if_neg h,List.find?_cons_of_neg (by simp[h])]
theorem kN {i:Int} {m:Pl}:∀ {more l:List (Pl×Int)},(more.map (·.1)).Nodup->(lkP (c0 i l more) m).getD 0=(lkP l m).getD 0+i*(lkP more m).getD 0
 |[],l,_=>by show _=_+i*0;rw[Int.mul_zero,Int.add_zero];rfl
 |z::more,l,h=>by
  rw[List.map_cons,List.nodup_cons]at h
  show(lkP (c0 i (vK l z.1 (i*z.2)) more) m).getD 0=_
  rw[kN h.2,yi,l9]
  by_cases c:z.1=m
  ·rw[if_pos c,if_pos c,jb (l:=more) (by rw[<-c];exact h.1)]
   show _+i*0=_+i*z.2
   rw[Int.mul_zero,Int.add_zero]
  ·rw[if_neg c,if_neg c,Int.add_zero]
theorem jT {i:Int} {Ok:Pl->Prop}:∀ {more l:List (Pl×Int)},(∀ z∈more,Ok z.1)->(l.map (·.1)).Nodup/\(∀ z∈l,Ok z.1)->((c0 i l more).map (·.1)).Nodup/\∀ z∈c0 i l more,Ok z.1
 |[],l,_,h=>h
 |z::more,l,hm,h=>by
  show((c0 i (vK l z.1 (i*z.2)) more).map (·.1)).Nodup/\_
  refine jT (fun y hy=>hm y (.tail _ hy)) ⟨uB h.1,fun y hy=>?_⟩
  rcases iC (List.mem_map.mpr ⟨y,hy,rfl⟩)with e|e
  ·rw[e];exact hm z (.head _)
  ·obtain⟨u,hu,e⟩:=List.mem_map.mp e
   have:=h.2 u hu
   rw[<-e];exact this
def me (ord:List (Str×Str)) (kd:KD) (N:Int) (B:Nat) (p:Pl) (l:List (Pl×Int)):Prop :=
 (l.map (·.1)).Nodup/\(∀ z∈l,z.1∈ai kd/\(z.1=p∨plt p z.1))/\∀ m,(lkP l m).getD 0=(cnt (rel ord) (aY kd) (eU N B) p m:Int)
theorem ny {ord:List (Str×Str)} {p:Pl} {Ok:Pl->Prop} {cn:List (Pl×List (Pl×Int))} {g:Pl->Pl->Nat} (m:Pl):∀ {ss:List iF} {a:List (Pl×Int)},
  (∀ s∈ss,∃ l,lkP cn s.2.1=some l/\(l.map (·.1)).Nodup/\(∀ z∈l,Ok z.1)/\(lkP l m).getD 0=(g s.2.1 m:Int))->(a.map (·.1)).Nodup/\(∀ z∈a,Ok z.1) ->
  let r:=ss.foldl (fun a s=>c0 s.2.2 a ((lkP cn s.2.1).getD [])) a
  ((r.map (·.1)).Nodup/\∀ z∈r,Ok z.1)/\(lkP r m).getD 0=(lkP a m).getD 0+(ss.map fun s=>s.2.2*(g s.2.1 m:Int)).sum
 |[],a,_,h=>⟨h,by simp⟩
 |s::ss,a,hs,h=>by
  obtain⟨l,h1,h2,h3,h4⟩:=hs s (.head _)
  simp only[List.foldl_cons,List.map_cons,List.sum_cons]
  have hk:=jT (i:=s.2.2) (Ok:=Ok) (more:=l) h3 h
  have e:(lkP cn s.2.1).getD []=l:=by rw[h1];rfl
  rw[e]
  obtain⟨q1,q2⟩:=ny (ord:=ord) (p:=p) (Ok:=Ok) (g:=g) m (a:=c0 s.2.2 a l) (fun t ht=>hs t (.tail _ ht)) hk
  refine⟨q1,?_⟩
  rw[q2,kN h2,h4,Int.add_assoc]
theorem ou {α:Type}:∀ {l:List (Pl×α)} {z:Pl×α},(l.map (·.1)).Nodup->z∈l->lkP l z.1=some z.2
 |y::l,z,hn,h=>by
  rw[List.map_cons,List.nodup_cons]at hn
  rw[l9]
  rcases List.mem_cons.mp h with e|e
  ·rw[e,if_pos rfl]
  ·rw[if_neg fun c=>hn.1 (by rw[c];exact List.mem_map.mpr ⟨z,e,rfl⟩)]
   exact ou hn.2 e
theorem su (ok:fW kd N K B) {ord:List (Str×Str)} {cn:List (Pl×List (Pl×Int))} {p:Pl} (hp:p∈ai kd) (hcn:∀ q∈ai kd,plt p q->∃ l,lkP cn q=some l/\me ord kd N B q l) :
  let ss:=aS ord kd p ((lkP cn (nxt p)).getD [])
  (∀ s∈ss,s.2.1∈ai kd/\plt p s.2.1/\(s.2.2=1∨∃ m,s.2.2=(cnt (rel ord) (aY kd) (eU N B) (nxt p) m:Int)/\nxt p∈ai kd))/\ss.length<=K+(ai kd).length/\me ord kd N B p (bf p ss cn):=by
 have F:=ok.falls
 have hnd:=oV ok.up
 intro ss
 have main:(∀ s∈ss,s.2.1∈ai kd/\plt p s.2.1/\(s.2.2=1∨∃ m,s.2.2=(cnt (rel ord) (aY kd) (eU N B) (nxt p) m:Int)/\nxt p∈ai kd))/\ss.length<=K+(ai kd).length /\
   ∀ m,(if p=m then(1:Int)else 0)+(ss.map fun s=>s.2.2*(cnt (rel ord) (aY kd) (eU N B) s.2.1 m:Int)).sum=(cnt (rel ord) (aY kd) (eU N B) p m:Int):=by
  cases hx:bK kd p with
  |none =>
   have e:ss=(aW kd p).map fun b=>(none,b,1):=by
    show aS _ _ _ _=_
    unfold aS;rw[hx]
   rw[e]
   refine⟨fun s hs=>?_,?_,fun m=>?_⟩
   ·obtain⟨b,hb,rfl⟩:=List.mem_map.mp hs
    obtain⟨h1,_⟩:=F.bg p hp hx b hb
    refine⟨h1,?_,.inl rfl⟩
    obtain⟨rows,_,k,row,_,rfl⟩:=ll hb
    exact .inl (by show p.1<p.1+1;omega)
   ·rw[List.length_map];have:=ok.bgl p;show(aW kd p).length<=_;exact Nat.le_trans this (by omega)
   ·rw[wp F hp hx,List.map_map,Int.natCast_add,<-kF]
    congr 1
    ·by_cases c:p=m
     ·rw[if_pos c,if_pos c];rfl
     ·rw[if_neg c,if_neg c];rfl
    ·show _=((aW kd p).map _).sum
     congr 1
     refine List.map_congr_left fun b _=>?_
     show(1:Int)*_=_
     rw[Int.one_mul]
  |some x =>
   obtain⟨hn,hrk⟩:=F.sg p hp (by show(bK kd p).isSome=true;rw[hx];rfl)
   obtain⟨l0,hl0,k1,k2,k3⟩:=hcn (nxt p) hn gE
   have e:ss=(l0.filter fun z=>eE ord x (bK kd z.1)).map fun z=>(some z.1,nxt z.1,z.2):=by
    show aS _ _ _ _=_
    unfold aS;rw[hx,hl0];rfl
   have hz2:∀ z∈l0,z.2=(cnt (rel ord) (aY kd) (eU N B) (nxt p) z.1:Int):=fun z hz=>by
    rw[<-k3 z.1,ou k1 hz];rfl
   rw[e]
   refine⟨fun s hs=>?_,?_,fun m=>?_⟩
   ·obtain⟨z,hz,rfl⟩:=List.mem_map.mp hs
    obtain⟨hz1,hj⟩:=List.mem_filter.mp hz
    obtain⟨hzA,hzp⟩:=k2 z hz1
    have hsome:(bK kd z.1).isSome:=by
     cases h:bK kd z.1 with
     |none=>rw[h]at hj;cases hj
     |some _=>rfl
    obtain⟨h1,_⟩:=F.sg z.1 hzA hsome
    refine⟨h1,?_,.inr ⟨z.1,hz2 z hz1,hn⟩⟩
    have h2:plt p z.1:=by
     rcases hzp with h|h
     ·rw[h];exact gE
     ·exact gr gE h
    exact gr h2 gE
   ·rw[List.length_map]
    refine Nat.le_trans (List.length_filter_le _ _) ?_
    have:=di (l0.map (·.1)) (ai kd) k1 fun y hy=>by
     obtain⟨z,hz,rfl⟩:=List.mem_map.mp hy
     exact(k2 z hz).1
    rw[List.length_map]at this
    omega
   ·rw[wG F hnd hp hx,List.map_map,Int.natCast_add]
    congr 1
    ·by_cases c:p=m
     ·rw[if_pos c,if_pos c];rfl
     ·rw[if_neg c,if_neg c];rfl
    ·rw[tf (B:=l0.map (·.1)) k1 hnd (fun y hy=>by
      obtain⟨z,hz,rfl⟩:=List.mem_map.mp hy
      exact(k2 z hz).1) (fun y _ hy=>by
      have h0:cnt (rel ord) (aY kd) (eU N B) ((aY kd).nx p) y=0:=by
       have:=k3 y
       rw[jb hy]at this
       exact(Int.ofNat.inj this).symm
      rw[h0,Nat.zero_mul,ite_self]),List.map_map,<-kF]
     have e2:(l0.map fun z=>(((fun m'=>if((aY kd).sg m').elim false (rel ord x)=true then cnt (rel ord) (aY kd) (eU N B) ((aY kd).nx p) m'*cnt (rel ord) (aY kd) (eU N B) ((aY kd).nx m') m else 0)∘fun z:Pl×Int=>z.1) z:Int))=l0.map fun z=>if eE ord x (bK kd z.1)=true then z.2*(cnt (rel ord) (aY kd) (eU N B) (nxt z.1) m:Int)else 0:=by
      refine List.map_congr_left fun z hz=>?_
      simp only[Function.comp_def]
      by_cases c:eE ord x (bK kd z.1)=true
      ·rw[if_pos c,if_pos (show((aY kd).sg z.1).elim false (rel ord x)=true from c),Int.natCast_mul,hz2 z hz];rfl
      ·rw[if_neg c,if_neg (show ¬ ((aY kd).sg z.1).elim false (rel ord x)=true from c)];rfl
     rw[e2]
     clear e2 e hz2 k3 k2 k1 hl0
     induction l0 with
     |nil=>rfl
     |cons z l ih =>
      cases c:eE ord x (bK kd z.1)with
      |true=>rw[List.filter_cons_of_pos (p:=fun z:Pl×Int=>eE ord x (bK kd z.1)) c,List.map_cons,List.sum_cons,List.map_cons,List.sum_cons,if_pos c,ih];rfl
      |false=>rw[List.filter_cons_of_neg (p:=fun z:Pl×Int=>eE ord x (bK kd z.1)) (by rw[c];simp),List.map_cons,List.sum_cons,ih,if_neg (by rw[c];simp),Int.zero_add]
 obtain⟨m1,m2,m3⟩:=main
 refine⟨m1,m2,?_⟩
 have ini:(([(p,1)]:List (Pl×Int)).map (·.1)).Nodup/\∀ z∈[(p,(1:Int))],z.1∈ai kd/\(z.1=p∨plt p z.1):=⟨by simp,fun z hz=>by rw[List.mem_singleton.mp hz];exact⟨hp,.inl rfl⟩⟩
 have hc:=fun m=>ny (ord:=ord) (p:=p) (Ok:=fun q=>q∈ai kd/\(q=p∨plt p q)) (cn:=cn) (g:=cnt (rel ord) (aY kd) (eU N B)) m (ss:=ss) (a:=[(p,1)]) (fun s hs=>by
  obtain⟨h1,h2,_⟩:=m1 s hs
  obtain⟨l,k0,k1,k2,k3⟩:=hcn _ h1 h2
  refine⟨l,k0,k1,fun z hz=>⟨(k2 z hz).1,.inr ?_⟩,k3 m⟩
  rcases(k2 z hz).2 with e|e
  ·rw[e];exact h2
  ·exact gr h2 e) ini
 refine⟨(hc p).1.1,(hc p).1.2,fun m=>?_⟩
 rw[<-m3 m]
 refine(hc m).2.trans ?_
 congr 1
 rw[l9]
 by_cases c:p=m
 ·rw[if_pos c,if_pos c];rfl
 ·rw[if_neg c,if_neg c];rfl
theorem v8 (ok:fW kd N K B) {ord:List (Str×Str)}:∀ (i:Nat),i<=(ai kd).length->∀ q∈(ai kd).reverse.take i,∃ l,lkP (cb ord kd ((ai kd).reverse.take i)).2 q=some l/\me ord kd N B q l
 |0,_,q,h=>by rw[List.take_zero]at h;cases h
 |i+1,hi,q,h=>by
  have hl:i<(ai kd).reverse.length:=by rw[List.length_reverse];omega
  have hg:(ai kd).reverse[i]?=some (ai kd).reverse[i]:=List.getElem?_eq_getElem hl
  generalize (ai kd).reverse[i]=p at hg
  have hp:p∈ai kd:=List.mem_reverse.mp (List.mem_of_getElem? hg)
  have ih:=v8 ok (ord:=ord) i (by omega)
  have hs:=su ok (ord:=ord) (cn:=(cb ord kd ((ai kd).reverse.take i)).2) hp fun q hq hpq=>ih q (lg (jw ok.up) hg hq hpq)
  have e:cb ord kd ((ai kd).reverse.take (i+1))=hV ord kd (cb ord kd ((ai kd).reverse.take i)) p:=by
   rw[List.take_add_one,hg]
   unfold cb
   rw[List.foldl_append];rfl
  rw[e]
  have e2:(hV ord kd (cb ord kd ((ai kd).reverse.take i)) p).2=eI (cb ord kd ((ai kd).reverse.take i)).2 p (bf p (aS ord kd p ((lkP (cb ord kd ((ai kd).reverse.take i)).2 (nxt p)).getD [])) (cb ord kd ((ai kd).reverse.take i)).2):=rfl
  rw[e2,sy]
  by_cases c:p=q
  ·rw[if_pos c]
   subst c
   exact⟨_,rfl,hs.2.2⟩
  ·rw[if_neg c]
   refine ih q ?_
   rw[List.take_add_one,hg]at h
   rcases List.mem_append.mp h with h|h
   ·exact h
   ·exact absurd (by simpa using h:q=p).symm c
theorem qq {ord:List (Str×Str)} {m:Pl}:∀ (ps:List Pl) (S:ChS),m∈(ps.foldl (hV ord kd) S).2.map (·.1)->m∈ps∨m∈S.2.map (·.1)
 |[],S,h=>.inr h
 |p::ps,S,h=>by
  rcases qq ps (hV ord kd S p) h with h|h
  ·exact .inl (.tail _ h)
  ·rcases iC h with e|e
   ·rw[e];exact .inl (.head _)
   ·exact .inr e
theorem qK (ok:fW kd N K B):(ai kd).length<=kd.length*(K*(B+1)):=by
 unfold ai
 rw[List.length_flatMap]
 refine cH fun q hq=>?_
 obtain⟨_,_,h1,h2⟩:=ok.bd q hq
 unfold fA
 rw[List.length_flatMap]
 refine Nat.le_trans (cH (m:=B+1) fun r hr=>?_) ?_
 ·unfold fE
  rw[List.length_map,List.length_range]
  have:=h2 r.1 (List.fst_mem_of_mem_zipIdx hr)
  omega
 ·rw[List.length_zipIdx]
  exact Nat.mul_le_mul_right _ h1
theorem sY (ok:fW kd N K B) (hK:K<=8) (hR:(N+2)*((B:Int)+1)<100) {ord:List (Str×Str)} {p m:Pl} (hp:p∈ai kd):Few (cnt (rel ord) (aY kd) (eU N B) p m:Int):=by
 have h1:=ok.rk hp
 have h2:=zK (R:=rel ord) (rk:=eU N B) (k:=K) (f:=100) ok.bgl (p:=p) (q:=m) (by omega) (Nat.le_refl _)
 refine zh (Nat.le_trans h2 (Nat.mul_le_mul (Nat.pow_le_pow_left (show K+2<=2 ^ 4 by omega) _) (Nat.pow_le_pow_left (show 100<=2 ^ 7 by decide) _)))
theorem xc (ok:fW kd N K B) (hK:K<=8) (hR:(N+2)*((B:Int)+1)<100) (hl:kd.length*(K*(B+1))<=900) {ord:List (Str×Str)} (ho:ord.length<=500) {rows:List Row} (hN:(N,rows)∈kd) :
  zC ord kd N/\∀ p∈ai kd,∃ l,lkP (cb ord kd (ai kd).reverse).2 p=some l/\me ord kd N B p l:=by
 have hA:(ai kd).length<=900:=Nat.le_trans (qK ok) hl
 have hr:=v8 ok (ord:=ord)
 refine⟨⟨ho,fun q hq=>Nat.le_trans (ok.bd q hq).2.2.1 (by omega),?_,by omega,fun i p hi=>?_⟩,fun p hp=>?_⟩
 ·have hk:N∈kd.map (·.1):=List.mem_map.mpr ⟨_,hN,rfl⟩
  cases hm:kd.map (·.1)with
  |nil=>rw[hm]at hk;cases hk
  |cons a l =>
   obtain⟨h1,h2⟩:=jh l a
   show some _=_
   congr 1
   rw[<-hm]at h1 h2
   have h3:=h1 N hk
   obtain⟨q,hq,e⟩:=List.mem_map.mp h2
   have h4:=(ok.bd q hq).2.1
   omega
 ·have hil:i<(ai kd).length:=by
   have:=(List.getElem?_eq_some_iff.mp hi).1
   rwa [List.length_reverse]at this
  have hp:p∈ai kd:=List.mem_reverse.mp (List.mem_of_getElem? hi)
  have hcn:∀ q∈ai kd,plt p q->∃ l,lkP (cb ord kd ((ai kd).reverse.take i)).2 q=some l/\me ord kd N B q l:=fun q hq hpq=>hr i (by omega) q (lg (jw ok.up) hi hq hpq)
  have hlen:∀ {q:Pl} {l:List (Pl×Int)},me ord kd N B q l->l.length<=900:=fun {q l} h=>by
   have:=di (l.map (·.1)) (ai kd) h.1 fun y hy=>by
    obtain⟨z,hz,rfl⟩:=List.mem_map.mp hy
    exact(h.2.1 z hz).1
   rw[List.length_map]at this
   omega
  obtain⟨s1,s2,s3⟩:=su ok hp hcn
  have hopt:(lkP (cb ord kd ((ai kd).reverse.take i)).2 (nxt p)).getD []=[]∨∃ l,lkP (cb ord kd ((ai kd).reverse.take i)).2 (nxt p)=some l/\me ord kd N B (nxt p) l:=by
   by_cases c:nxt p∈ai kd
   ·exact .inr (hcn _ c gE)
   ·left
    rw[jb fun z=>c ?_];rfl
    rcases qq _ _ z with h|h
    ·exact List.mem_reverse.mp (List.mem_of_mem_take h)
    ·cases h
  refine⟨ok.valid hp,fun hs=>?_,fun z hz=>?_,?_,by omega,fun s hs=>?_⟩
  ·obtain⟨h1,_⟩:=ok.falls.sg p hp hs
   obtain⟨l,e,_⟩:=hcn (nxt p) h1 gE
   show(lkP _ (nxt p)).isSome=true
   rw[e];rfl
  ·rcases hopt with e|⟨l,e,h⟩
   ·rw[e]at hz;cases hz
   ·rw[e]at hz
    exact ok.valid (h.2.1 z hz).1
  ·rcases hopt with e|⟨l,e,h⟩
   ·rw[e];exact Nat.zero_le _
   ·rw[e];have:=hlen h;show l.length<=_;omega
  ·obtain⟨h1,h2,h3⟩:=s1 s hs
   obtain⟨l,e,h⟩:=hcn _ h1 h2
   refine⟨l,e,by have:=hlen h;omega,fun z hz=>?_⟩
   have hz2:Few z.2:=by
    have:z.2=(cnt (rel ord) (aY kd) (eU N B) s.2.1 z.1:Int):=by rw[<-h.2.2 z.1,ou h.1 hz];rfl
    rw[this];exact sY ok hK hR h1
   have hs2:Few s.2.2:=by
    rcases h3 with h3|⟨m,h3,hn⟩
    ·rw[h3];exact CJ (by decide) (by decide)
    ·rw[h3];exact sY ok hK hR hn
   rw[DS ⟨hs2,hz2⟩];trivial
 ·have:=hr _ (Nat.le_refl _) p (by rw[List.take_of_length_le (by rw[List.length_reverse];exact Nat.le_refl _)];exact List.mem_reverse.mpr hp)
  rwa [List.take_of_length_le (by rw[List.length_reverse];exact Nat.le_refl _)]at this
end
end
section
variable {P:Program} {w:World} {K:PySem.W.Frag} {mg:Str->Option Value} {base:Heap}
/-! ### the stretches from the ci to the end are the choices -/
def chR (ents:List (Str×List Row)):List Str->List Row
 |[]=>[[]]
 |w::ws=>(kin ents w).flatMap fun k=>(chR ents ws).map fun s=>k++s
theorem tY {ents:List (Str×List Row)} {w:Str} {P:List Row->Prop} (h0:P []) (h:∀ e∈ents,P e.2):P (kin ents w):=by
 unfold kin
 induction ents with
 |nil=>exact h0
 |cons e l ih =>
  rw[List.lookup_cons]
  by_cases c:(w==e.1)=true
  ·rw[c];exact h e (.head _)
  ·rw[Bool.not_eq_true]at c
   rw[c];exact ih fun x hx=>h x (.tail _ hx)
def mi (ents:List (Str×List Row)) (K B:Nat):Prop:=∀ e∈ents,e.2.length<=K/\∀ r∈e.2,r.length<=B
section
variable {ents:List (Str×List Row)} {goal:Str} {ws:List Str} {K B:Nat}
theorem jq {q:Int×List Row}:q∈bw ents goal ws↔q=(-1,[[]])∨(∃ (i:Nat) (w:Str),ws[i]?=some w/\q=((i:Int),kin ents w))∨q=((ws.length:Int),[[(goal,1)]]):=by
 unfold bw bS
 rw[List.mem_append,List.mem_cons,List.mem_map,List.mem_singleton]
 constructor
 ·rintro((h|⟨t,ht,rfl⟩)|h)
  ·exact .inl h
  ·exact .inr (.inl ⟨t.2,t.1,List.mem_zipIdx_iff_getElem?.mp ht,rfl⟩)
  ·exact .inr (.inr h)
 ·rintro(h|⟨i,w,hi,rfl⟩|h)
  ·exact .inl (.inl h)
  ·exact .inl (.inr ⟨(w,i),List.mem_zipIdx_iff_getElem?.mpr hi,rfl⟩)
  ·exact .inr h
theorem xU (he:mi ents K B) (hK:1<=K) (hB:1<=B):fW (bw ents goal ws) (ws.length:Int) K B where
 up:=by
  unfold bw
  rw[List.pairwise_append,List.pairwise_cons]
  have hlt:∀ a∈bS ents ws,0<=a.1/\a.1<(ws.length:Int):=fun a ha=>by
   obtain⟨t,ht,rfl⟩:=List.mem_map.mp ha
   have:=List.mem_zipIdx_iff_getElem?.mp ht
   have:=(List.getElem?_eq_some_iff.mp this).1
   show 0<=(t.2:Int)/\(t.2:Int)<_
   omega
  refine⟨⟨fun a ha=>?_,?_⟩,by simp,fun a ha b hb=>?_⟩
  ·have:=hlt a ha
   show(-1:Int)<a.1
   omega
  ·unfold bS
   rw[List.pairwise_map,List.pairwise_iff_getElem]
   intro i j hi hj hij
   simp only[List.getElem_zipIdx]
   omega
  ·rw[List.mem_singleton.mp hb]
   rcases List.mem_cons.mp ha with e|e
   ·rw[e];show(-1:Int)<(ws.length:Int);omega
   ·exact(hlt a e).2
 bd:=by
  intro q hq
  rcases jq.mp hq with e|⟨i,w,hi,e⟩|e
  ·rw[e]
   refine⟨Int.le_refl _,by show(-1:Int)<=_;omega,hK,fun r hr=>?_⟩
   rw[List.mem_singleton.mp hr];exact Nat.zero_le _
  ·have:=(List.getElem?_eq_some_iff.mp hi).1
   rw[e]
   have h:=tY (ents:=ents) (w:=w) (P:=fun rs=>rs.length<=K/\∀ r∈rs,r.length<=B) ⟨Nat.zero_le _,fun _ h=>by cases h⟩ he
   exact⟨by show(-1:Int)<=(i:Int);omega,by show(i:Int)<=_;omega,h⟩
  ·rw[e]
   refine⟨by show(-1:Int)<=(ws.length:Int);omega,Int.le_refl _,hK,fun r hr=>?_⟩
   rw[List.mem_singleton.mp hr];exact hB
theorem oW {kd:KD} {N:Int} {K B:Nat} (ok:fW kd N K B) {q:Int×List Row} (hq:q∈kd) (hn:q.1≠N) {i:Nat} {row:Row} (hr:q.2[i]?=some row):∀ (d j:Nat),j+d=row.length ->
  Sts (aY kd) (eU N B) (q.1,(i:Int),(j:Int)) (N,0,1)=((aW kd (q.1,(i:Int),(0:Int))).flatMap fun b=>Sts (aY kd) (eU N B) b (N,0,1)).map fun s=>row.drop j++s
 |0,j,h=>by
  have hs:(aY kd).sg (q.1,(i:Int),(j:Int))=none:=by
   show bK _ _=_
   rw[ok.sgn hq hr,List.getElem?_eq_none (by omega)]
  have hne:(q.1,(i:Int),(j:Int))≠((N,0,1):Pl):=fun e=>hn (congrArg (·.1) e)
  rw[fY ok.falls (ba.mpr ⟨q,hq,i,row,j,hr,by omega,rfl⟩) hs,if_neg hne,List.nil_append,List.drop_of_length_le (by omega)]
  simp only[List.nil_append,List.map_id']
  rfl
 |d+1,j,h=>by
  have hj:j<row.length:=by omega
  have hs:(aY kd).sg (q.1,(i:Int),(j:Int))=some row[j]:=by
   show bK _ _=_
   rw[ok.sgn hq hr,List.getElem?_eq_getElem hj]
  have hne:(q.1,(i:Int),(j:Int))≠((N,0,1):Pl):=fun e=>hn (congrArg (·.1) e)
  rw[eS ok.falls (ba.mpr ⟨q,hq,i,row,j,hr,by omega,rfl⟩) hs,if_neg hne,List.nil_append]
  have ih:=oW ok hq hn hr d (j+1) (by omega)
  have e:(aY kd).nx (q.1,(i:Int),(j:Int))=(q.1,(i:Int),((j+1:Nat):Int)):=by
   show(q.1,(i:Int),(j:Int)+1)=_
   rw[Int.natCast_add];rfl
  rw[e,ih,List.map_map,List.drop_eq_getElem_cons hj]
  rfl
theorem nO (he:mi ents K B) (hK:1<=K) (hB:1<=B):∀ (d n:Nat) (i:Int),n+d=ws.length ->
  ((aW (bw ents goal ws) ((n:Int)-1,i,0)).flatMap fun b=>Sts (aY (bw ents goal ws)) (eU (ws.length:Int) B) b ((ws.length:Int),0,1))=(chR ents (ws.drop n)).map fun s=>s++[(goal,1)]
 |0,n,i,h=>by
  have ok:=xU (goal:=goal) (ws:=ws) he hK hB
  have hm:((ws.length:Int),[[(goal,1)]])∈bw ents goal ws:=jq.mpr (.inr (.inr rfl))
  have hl:look (bw ents goal ws) (((n:Int)-1)+1)=some [[(goal,1)]]:=by
   rw[show((n:Int)-1)+1=(ws.length:Int)by omega]
   exact kn ok.up hm
  have hl2:look (bw ents goal ws) ((ws.length:Int)+1)=none:=by
   cases hx:look (bw ents goal ws) ((ws.length:Int)+1)with
   |none=>rfl
   |some rs =>
    have:=(ok.bd _ (ik hx)).2.1
    exact absurd (show(ws.length:Int)+1<=ws.length from this) (by omega)
  have hb:aW (bw ents goal ws) ((n:Int)-1,i,0)=[((ws.length:Int),0,0)]:=by
   unfold aW
   show(List.range ((look (bw ents goal ws) (((n:Int)-1)+1)).getD []).length).map _=_
   rw[hl,show(((n:Int)-1,i,(0:Int)).1+1:Int)=(ws.length:Int)by show(n:Int)-1+1=_;omega]
   rfl
  rw[hb,List.drop_of_length_le (by omega)]
  have h0:(aY (bw ents goal ws)).sg ((ws.length:Int),0,0)=some (goal,1):=ok.sgn (j:=0) hm (i:=0) rfl
  have h1:(aY (bw ents goal ws)).sg ((ws.length:Int),0,1)=none:=ok.sgn (j:=1) hm (i:=0) rfl
  have m0:((ws.length:Int),0,0)∈ai (bw ents goal ws):=ba.mpr ⟨_,hm,0,_,0,rfl,Nat.zero_le _,rfl⟩
  have m1:((ws.length:Int),0,1)∈ai (bw ents goal ws):=ba.mpr ⟨_,hm,0,_,1,rfl,Nat.le_refl _,rfl⟩
  rw[List.flatMap_cons,List.flatMap_nil,List.append_nil,eS ok.falls m0 h0,if_neg (by simp),List.nil_append]
  have e:(aY (bw ents goal ws)).nx ((ws.length:Int),0,0)=((ws.length:Int),0,1):=rfl
  rw[e,fY ok.falls m1 h1,if_pos rfl]
  have e2:(aY (bw ents goal ws)).bg ((ws.length:Int),0,1)=[]:=by
   show aW _ _=_
   unfold aW
   rw[hl2];rfl
  rw[e2];rfl
 |d+1,n,i,h=>by
  have ok:=xU (goal:=goal) (ws:=ws) he hK hB
  have hn:n<ws.length:=by omega
  have hm:((n:Int),kin ents ws[n])∈bw ents goal ws:=jq.mpr (.inr (.inl ⟨n,ws[n],List.getElem?_eq_getElem hn,rfl⟩))
  have ih:=nO he hK hB d (n+1)
  have hl:look (bw ents goal ws) (((n:Int)-1)+1)=some (kin ents ws[n]):=by
   rw[show((n:Int)-1)+1=(n:Int)by omega]
   exact kn ok.up hm
  have hb:aW (bw ents goal ws) ((n:Int)-1,i,0)=(List.range (kin ents ws[n]).length).map fun(k:Nat)=>((n:Int),(k:Int),0):=by
   unfold aW
   show(List.range ((look (bw ents goal ws) (((n:Int)-1)+1)).getD []).length).map _=_
   rw[hl,show(((n:Int)-1,i,(0:Int)).1+1:Int)=(n:Int)by show(n:Int)-1+1=_;omega]
   rfl
  rw[hb,List.drop_eq_getElem_cons hn,chR,List.flatMap_map,List.map_flatMap]
  have e:kin ents ws[n]=(List.range (kin ents ws[n]).length).map fun k=>(kin ents ws[n]).getD k []:=by
   refine List.ext_getElem (by simp) fun a h1 h2=>?_
   simp[h1]
  rw[show((kin ents ws[n]).flatMap fun k=>((chR ents (ws.drop (n+1))).map fun s=>k++s).map fun s=>s++[(goal,1)])=(((List.range (kin ents ws[n]).length).map fun k=>(kin ents ws[n]).getD k []).flatMap fun k=>((chR ents (ws.drop (n+1))).map fun s=>k++s).map fun s=>s++[(goal,1)])by rw[<-e],List.flatMap_map]
  refine ff fun k hk=>?_
  have hk':=List.mem_range.mp hk
  have hr:(kin ents ws[n])[k]?=some ((kin ents ws[n]).getD k []):=by simp[hk']
  have r:=oW ok hm (show(n:Int)≠(ws.length:Int)by omega) hr ((kin ents ws[n]).getD k []).length 0 (by omega)
  have h3:(aW (bw ents goal ws) ((n:Int),(k:Int),0))=aW (bw ents goal ws) (((n+1:Nat):Int)-1,(k:Int),0):=by
   rw[show((n+1:Nat):Int)-1=(n:Int)by omega]
  refine r.trans ?_
  rw[h3,ih (k:Int) (by omega),List.map_map,List.map_map,List.drop_zero]
  refine List.map_congr_left fun s _=>?_
  simp[Function.comp_def]
theorem Bq {ord:List (Str×Str)} (he:mi ents K B) (hK:1<=K) (hB:1<=B) (hK8:K<=8) (hR:(ws.length+2)*(B+1)<100) (hS:(ws.length+2)*(K*(B+1))<=900) (hl:ents.length<=8) (ho:ord.length<=500) (hw:∀ w∈ws,w∈ents.map (·.1)/\fh w) :
  pM ord goal ents ws ((((chR ents ws).map fun s=>W (rel ord) (s++[(goal,1)])).sum:Nat):Int):=by
 have ok:=xU (goal:=goal) (ws:=ws) he hK hB
 have hlen:(bw ents goal ws).length=ws.length+2:=by simp[bw,bS]
 have hm:((ws.length:Int),[[(goal,1)]])∈bw ents goal ws:=jq.mpr (.inr (.inr rfl))
 have hs:ci∈ai (bw ents goal ws):=ba.mpr ⟨(-1,[[]]),jq.mpr (.inl rfl),0,[],0,rfl,Nat.le_refl _,rfl⟩
 have hR':((ws.length:Int)+2)*((B:Int)+1)<100:=by
  have:=Int.ofNat_lt.mpr hR
  simpa using this
 obtain⟨c1,c2⟩:=xc ok hK8 hR' (by rw[hlen];exact hS) (ord:=ord) ho hm
 obtain⟨l,hl1,hl2⟩:=c2 ci hs
 refine⟨hl,?_,hw,_,l,c1,hl1,?_⟩
 ·have:ws.length+2<=(ws.length+2)*(B+1):=Nat.le_mul_of_pos_right _ (by omega)
  omega
 ·rw[hl2.2.2]
  congr 1
  unfold cnt
  have r:=oW ok (q:=(-1,[[]])) (jq.mpr (.inl rfl)) (show(-1:Int)≠(ws.length:Int)by omega) (i:=0) (row:=[]) rfl 0 0 rfl
  have r2:=nO (goal:=goal) (ws:=ws) he hK hB ws.length 0 0 (by omega)
  have e:Sts (aY (bw ents goal ws)) (eU (ws.length:Int) B) ci ((ws.length:Int),0,1)=(chR ents ws).map fun s=>s++[(goal,1)]:=by
   refine r.trans ?_
   have e3:aW (bw ents goal ws) (-1,((0:Nat):Int),(0:Int))=aW (bw ents goal ws) (((0:Nat):Int)-1,0,0):=rfl
   rw[List.drop_zero]at r2
   show List.map (fun s=>[]++s) (List.flatMap _ (aW (bw ents goal ws) (-1,((0:Nat):Int),(0:Int))))=_
   rw[e3,r2]
   simp only[List.nil_append,List.map_id']
  rw[e,List.map_map]
  rfl
end
end
section
variable {P:Program} {w:World} {K:PySem.W.Frag} {mg:Str->Option Value} {base:Heap}
def sg (row:List (Str×Int)) (i:Nat):Str×Int:=row.getD i ("",0)
theorem qg {f:Nat->Nat}:∀ (L:Nat),(∀ k,k<L->k % 2=1->f k=0)->((List.range L).map f).sum=((List.range ((L+1) / 2)).map fun j=>f (2*j)).sum
 |0,_=>rfl
 |1,_=>by simp
 |L+2,h=>by
  rw[List.range_succ,List.range_succ,List.map_append,List.map_append,List.sum_append,List.sum_append,qg L fun k h1 h2=>h k (by omega) h2]
  rw[show(L+2+1) / 2=(L+1) / 2+1 by omega,List.range_succ,List.map_append,List.sum_append]
  simp only[List.map_cons,List.map_nil,List.sum_cons,List.sum_nil,Nat.add_zero]
  by_cases e:L % 2=1
  ·rw[h L (by omega) e,show 2*((L+1) / 2)=L+1 by omega];omega
  ·rw[h (L+1) (by omega) (by omega),show 2*((L+1) / 2)=L by omega];omega
theorem lb {σ:Type} (d:σ):∀ (xs:List σ),jj xs=(List.range xs.length).map fun k=>(xs.take k,xs.getD k d,xs.drop (k+1))
 |[]=>rfl
 |x::xs=>by
  rw[jj,lb d xs,List.length_cons,List.range_succ_eq_map,List.map_cons,List.map_map,List.map_map]
  rfl
def seg (row:List (Str×Int)) (b e:Nat):List (Str×Int):=(row.drop b).take (e-b)
theorem sD {row:List (Str×Int)} {b e:Nat} (h:e<=row.length):(seg row b e).length=e-b:=by
 unfold seg;rw[List.length_take,List.length_drop];omega
theorem vT {row:List (Str×Int)} {b:Nat}:seg row b b=[]:=by unfold seg;simp
theorem z9 {row:List (Str×Int)}:seg row 0 row.length=row:=by unfold seg;simp
theorem wA {row:List (Str×Int)} {b e:Nat} (h:b<e) (he:e<=row.length):seg row b e=sg row b::seg row (b+1) e:=by
 unfold seg
 have hb:b<row.length:=by omega
 rw[List.drop_eq_getElem_cons hb,show e-b=(e-(b+1))+1 by omega,List.take_succ_cons]
 simp[sg,hb]
theorem vO {row:List (Str×Int)} {b e k:Nat} (h:b+k<=e):(seg row b e).take k=seg row b (b+k):=by
 unfold seg
 rw[List.take_take,Nat.min_eq_left (by omega),show b+k-b=k by omega]
theorem vD {row:List (Str×Int)} {b e k:Nat}:(seg row b e).drop k=seg row (b+k) e:=by
 unfold seg
 rw[List.drop_take,List.drop_drop,show e-b-k=e-(b+k)by omega]
theorem C9 {row:List (Str×Int)} {b e k:Nat} (h:b+k<e):(seg row b e).getD k ("",0)=sg row (b+k):=by
 unfold seg sg
 rw[List.getD_eq_getElem?_getD,List.getElem?_take,if_pos (by omega),List.getElem?_drop,List.getD_eq_getElem?_getD]
section
variable {R:Str×Int->Str×Int->Bool} {row:List (Str×Int)}
theorem Ec {b e:Nat} (h:b<e) (he:e<=row.length):W R (seg row b e)=((List.range ((e-b) / 2)).map fun j=>if R (sg row b) (sg row (b+1+2*j))=true then W R (seg row (b+1) (b+1+2*j))*W R (seg row (b+1+2*j+1) e)else 0).sum:=by
 rw[wA h he,oE,lb (σ:=Str×Int) ("",0),List.map_map,sD he]
 have e1:((List.range (e-(b+1))).map ((fun c=>if R (sg row b) c.2.1=true then W R c.1*W R c.2.2 else 0)∘fun k=>((seg row (b+1) e).take k,(seg row (b+1) e).getD k ("",0),(seg row (b+1) e).drop (k+1)))).sum
  =((List.range (e-(b+1))).map fun k=>if R (sg row b) (sg row (b+1+k))=true then W R (seg row (b+1) (b+1+k))*W R (seg row (b+1+k+1) e)else 0).sum:=by
  congr 1
  apply List.map_congr_left
  intro k hk
  have hk':=List.mem_range.mp hk
  simp only[Function.comp_def]
  rw[C9 (by omega),vO (by omega),vD]
  rfl
 rw[e1,qg _ fun k hk ho=>?_,show(e-(b+1)+1) / 2=(e-b) / 2 by omega]
 by_cases c:R (sg row b) (sg row (b+1+k))=true
 ·rw[if_pos c,Aw _ (seg row (b+1) (b+1+k)) (Nat.le_refl _) (by rw[sD (by omega)];omega),Nat.zero_mul]
 ·rw[if_neg c]
end
theorem rM {b e b' e':Nat}:([Sum.inl (b:Int),Sum.inl (e:Int)]:List Key)=[Sum.inl (b':Int),Sum.inl (e':Int)]↔b=b'/\e=e':=by
 simp only[List.cons.injEq,Sum.inl.injEq,and_true,Int.natCast_inj]
theorem oQ {α:Type} {f:α->Nat}:∀ {l:List α},(l.map f).sum≠0↔∃ x∈l,f x≠0
 |[]=>by simp
 |x::l=>by
  rw[List.map_cons,List.sum_cons]
  have ih:=oQ (f:=f) (l:=l)
  constructor
  ·intro h
   by_cases c:f x=0
   ·obtain⟨y,hy,hy2⟩:=ih.mp (by omega)
    exact⟨y,.tail _ hy,hy2⟩
   ·exact⟨x,.head _,c⟩
  ·rintro⟨y,hy,h⟩
   rcases List.mem_cons.mp hy with rfl|hy
   ·omega
   ·have:=ih.mpr ⟨y,hy,h⟩
    omega
theorem uA {R:Str×Int->Str×Int->Bool} {row:List (Str×Int)} {b e:Nat} (h:b<e) (he:e<=row.length):W R (seg row b e)≠0↔∃ j<(e-b) / 2,R (sg row b) (sg row (b+1+2*j))=true/\W R (seg row (b+1) (b+1+2*j))≠0/\W R (seg row (b+1+2*j+1) e)≠0:=by
 rw[Ec h he,oQ]
 constructor
 ·rintro⟨j,hj,h⟩
  refine⟨j,List.mem_range.mp hj,?_⟩
  by_cases c:R (sg row b) (sg row (b+1+2*j))=true
  ·rw[if_pos c]at h
   exact⟨c,fun z=>h (by rw[z,Nat.zero_mul]),fun z=>h (by rw[z,Nat.mul_zero])⟩
  ·rw[if_neg c]at h;exact absurd rfl h
 ·rintro⟨j,hj,c,h1,h2⟩
  refine⟨j,List.mem_range.mpr hj,?_⟩
  rw[if_pos c]
  exact Nat.mul_ne_zero h1 h2
open Classical in
def tab (R:Str×Int->Str×Int->Bool) (row:List (Str×Int)) (L j b e:Nat):Option D:=if b<=e/\e<=row.length/\(e-b) % 2=0/\(e-b<L∨(e-b=L/\b<j))/\W R (seg row b e)≠0 then some (.bl true)else none
def Tab (R:Str×Int->Str×Int->Bool) (row:List (Str×Int)) (L j:Nat) (kvs:List (List Key×D)):Prop:=∀ b e:Nat,aX kvs [.inl (b:Int),.inl (e:Int)]=tab R row L j b e
theorem i6 {R:Str×Int->Str×Int->Bool} {row:List (Str×Int)} {L j b e:Nat}:(tab R row L j b e).isSome=true↔b<=e/\e<=row.length/\(e-b) % 2=0/\(e-b<L∨(e-b=L/\b<j))/\W R (seg row b e)≠0:=by
 unfold tab
 split
 ·rename_i h;exact⟨fun _=>h,fun _=>rfl⟩
 ·rename_i h;exact⟨fun z=>(by cases z),fun z=>absurd z h⟩
theorem mO {R:Str×Int->Str×Int->Bool} {row:List (Str×Int)} {L j L' j' b e:Nat} (h:(b<=e/\e<=row.length/\(e-b) % 2=0/\(e-b<L∨(e-b=L/\b<j))/\W R (seg row b e)≠0)↔(b<=e/\e<=row.length/\(e-b) % 2=0/\(e-b<L'∨(e-b=L'/\b<j'))/\W R (seg row b e)≠0)):tab R row L j b e=tab R row L' j' b e:=by
 unfold tab
 by_cases c:b<=e/\e<=row.length/\(e-b) % 2=0/\(e-b<L∨(e-b=L/\b<j))/\W R (seg row b e)≠0
 ·rw[if_pos c,if_pos (h.mp c)]
 ·rw[if_neg c,if_neg (fun z=>c (h.mpr z))]
end
section
variable {P:Program} {w:World} {K:PySem.W.Frag} {mg:Str->Option Value} {base:Heap}
def kW:SpD:=fun ds M R=>∃ (ord:List (Str×Str)) (row:Row),ds=[.tup (ord.map az),aw row]/\ord.length<=500/\row.length<=24/\R (.bl (decide (W (rel ord) row≠0))) M
theorem qm {f:Addr} {fd:FuncData} (F:Fun K "_law_wholly" "_law_wholly" gY f fd) (T:Txt K mg) (g_l_cancels:FnD P w K mg base "_law_cancels" 2 3 jY):aK P w K mg base CX0 3 f fd ["_law_order_here","_law_row"] (spD K 2 kW):=by
 have nd:=jU.nd
 refine F.okQ rfl jU (fun cdv A outer s H E hr=>⟨_,(aj (aF (i:=2) nd rfl (Or.inl rfl) (aN dR rfl T.b_len (by kernel_rfl) (ab (aa 1) ac)))
   (aj (aF (i:=3) nd rfl (Or.inl rfl) B1)
   (aj (bQ PassesOwn.never rfl (bz rfl T.b_range (ab (aI aH (aa 2) ak) ac)) (aE (i:=4) nd rfl (Or.inl rfl)) (am (vY hr.units1 (aa 3) (ab (aa 4) (ab (aa 4) ac)) uF)))
   (aj (bQ PassesOwn.never rfl (tE rfl T.b_range (ab ak (ab (aI aH (aa 2) ak) (ab ak ac)))) (aE (i:=5) nd rfl (Or.inl rfl)) (am (bQ PassesOwn.never rfl (bz rfl T.b_range (ab (aI aH (aI vf (aa 2) (aa 5)) ak) ac)) (aE (i:=4) nd rfl (Or.inl rfl)) (am (bQ PassesOwn.never rfl (tE rfl T.b_range (ab (aI aH (aa 4) ak) (ab (aI aH (aa 4) (aa 5)) (ab ak ac)))) (aE (i:=6) nd rfl (Or.inl rfl)) (am (eh (vL (oq (vg false rfl hr.units1 (ab (aI aH (aa 4) ak) (ab (aa 6) ac)) (aa 3) (by first|exact av _ (by decide) (by decide)|rfl)) (oq (vg false rfl hr.units1 (ab (aI aH (aa 6) ak) (ab (aI aH (aa 4) (aa 5)) ac)) (aa 3) (by first|exact av _ (by decide) (by decide)|rfl)) (o9 (hJ (qc g_l_cancels (hr.mono (by decide)) rfl (ab (aa 0) (ab (aO aP (aa 1) (aa 4) (fun _ _=>rfl)) (ab (aO aP (aa 1) (aa 6) (fun _ _=>rfl)) ac))))))))) (am (vY hr.units1 (aa 3) (ab (aa 4) (ab (aI aH (aa 4) (aa 5)) ac)) uF)) cw)))))))
   (am (l7 (ER false rfl hr.units1 (ab ak (ab (aa 2) ac)) (aa 3) (by first|exact av _ (by decide) (by decide)|rfl)))))))),fun ds M R hl hS=>?_⟩)
 obtain⟨ord,row,rfl,ho,hl,k⟩:=hS
 simp only[aw]
 walk_at "rd"
 intro p hp
 rw[List.length_map]
 refine⟨by omega,by omega,?_⟩
 rw[show((row.length:Int)+1).toNat=row.length+1 by omega]
 refine aD (fun i Δ M'=>∃ kvs x4,Δ=[some (D.tup (ord.map az)),some (D.tup (row.map aC)),some (D.int row.length),some (D.ref p),x4,none,none]/\M'=al M p (.dT kvs)/\(∀ b e:Nat,aX kvs [.inl (b:Int),.inl (e:Int)]=if b=e/\b<i then some (.bl true)else none)/\kvs.length<=i)
  ⟨[],none,rfl,rfl,fun b e=>by rw[if_neg (by omega)];rfl,Nat.le_refl _⟩ ?_ ?_
 ·rintro i d Δ M' X hd ⟨kvs,x4,rfl,rfl,hv,hk⟩ k'
  obtain⟨hi,rfl⟩:=cc hd
  rw[Int.zero_add]
  simp only[bc]
  walk_at "rd"
  refine⟨sz3 2,Nat.lt_of_lt_of_le (by omega:kvs.length<1000) (sz3 1000),?_⟩
  refine k' _ _ ⟨_,_,rfl,rfl,fun b e=>?_,Nat.le_trans (jX _ _ _) (by omega)⟩
  rw[lA,hv b e]
  by_cases c:b=i/\e=i
  ·rw[if_pos (rM.mpr c),if_pos (by omega)]
  ·rw[if_neg (fun z=>c (rM.mp z))]
   by_cases g:b=e/\b<i
   ·rw[if_pos g,if_pos (by omega)]
   ·rw[if_neg g,if_neg (by omega)]
 rintro Δ M' ⟨kvs,x4,rfl,rfl,hv,hk⟩
 rw[bT]at hv hk
 walk_at "rd"
 refine⟨_,_,_,⟨rfl,rfl,rfl⟩,Or.inl rfl,⟨by omega,by omega,by omega,by omega⟩,?_⟩
 have hsz:szR 2 ((row.length:Int)+1) 2=row.length / 2:=by
  unfold szR Builtin.Range.rangeSize
  simp
  omega
 rw[hsz]
 refine aD (fun i Δ M'=>∃ (kvs:List (List Key×D)) (x4 x5 x6:Option D),Δ=[some (D.tup (ord.map az)),some (D.tup (row.map aC)),some (D.int row.length),some (D.ref p),x4,x5,x6]/\M'=al M p (.dT kvs)/\Tab (rel ord) row (2+2*i) 0 kvs/\kvs.length<=100+10000*i)
  ⟨kvs,_,none,none,rfl,rfl,fun b e=>?_,by omega⟩ ?_ ?_
 ·rw[hv b e]
  by_cases c:b=e/\b<row.length+1
  ·rw[if_pos c]
   unfold tab
   rw[if_pos ⟨by omega,by omega,by omega,by omega,by rw[c.1,vT,px];decide⟩]
  ·rw[if_neg c]
   unfold tab
   rw[if_neg (by omega)]
 ·rintro i d Δ M' X hd ⟨kvs,x4,x5,x6,rfl,rfl,hT,hkl⟩ k'
  obtain⟨hi,rfl⟩:=lz hd
  have eL:(2:Int)+(i:Int)*2=((2+2*i:Nat):Int):=by omega
  rw[eL]
  generalize hL:2+2*i=L at *
  have hLn:L<=row.length:=by omega
  simp only[bc]
  walk_at "rd"
  refine⟨by omega,by omega,?_⟩
  rw[show((row.length:Int)-(L:Int)+1).toNat=row.length-L+1 by omega]
  refine aD (fun j Δ M'=>∃ (kvs:List (List Key×D)) (x4 x6:Option D),Δ=[some (D.tup (ord.map az)),some (D.tup (row.map aC)),some (D.int row.length),some (D.ref p),x4,some (D.int L),x6]/\M'=al M p (.dT kvs)/\Tab (rel ord) row L j kvs/\kvs.length<=100+10000*i+100*j)
   ⟨kvs,_,_,rfl,rfl,hT,hkl⟩ ?_ ?_
  ·rintro j d Δ M' X' hd2 ⟨kvs,x4,x6,rfl,rfl,hT,hkl⟩ k2
   obtain⟨hj,rfl⟩:=cc hd2
   rw[Int.zero_add]
   simp only[bc]
   walk_at "rd"
   refine⟨_,_,_,⟨rfl,rfl,rfl⟩,Or.inl rfl,⟨by omega,by omega,by omega,by omega⟩,?_⟩
   have hsz2:szR ((j:Int)+1) ((j:Int)+(L:Int)) 2=L / 2:=by
    unfold szR Builtin.Range.rangeSize
    simp
    omega
   rw[hsz2]
   refine aD (fun t Δ M'=>∃ (kvs:List (List Key×D)) (x6:Option D),Δ=[some (D.tup (ord.map az)),some (D.tup (row.map aC)),some (D.int row.length),some (D.ref p),some (D.int j),some (D.int L),x6]/\M'=al M p (.dT kvs) /\
     (∀ b e:Nat,¬ (b=j/\e=j+L)->aX kvs [.inl (b:Int),.inl (e:Int)]=tab (rel ord) row L j b e) /\
     (aX kvs [.inl (j:Int),.inl ((j+L:Nat):Int)]=none∨aX kvs [.inl (j:Int),.inl ((j+L:Nat):Int)]=some (.bl true)) /\
     ((aX kvs [.inl (j:Int),.inl ((j+L:Nat):Int)]).isSome=true↔∃ u<t,rel ord (sg row j) (sg row (j+1+2*u))=true/\W (rel ord) (seg row (j+1) (j+1+2*u))≠0/\W (rel ord) (seg row (j+1+2*u+1) (j+L))≠0)/\kvs.length<=100+10000*i+100*j+t)
    ⟨kvs,_,rfl,rfl,fun b e _=>hT b e,?_,?_,hkl⟩ ?_ ?_
   ·left
    rw[hT];unfold tab
    rw[if_neg (by omega)]
   ·rw[hT,i6]
    constructor
    ·intro h;omega
    ·rintro⟨u,hu,_⟩;omega
   ·rintro t d Δ M' X3 hd3 ⟨kvs,x6,rfl,rfl,h1,h2,h3,h4⟩ k3
    obtain⟨ht,rfl⟩:=lz hd3
    have et:(j:Int)+1+(t:Int)*2=((j+1+2*t:Nat):Int):=by omega
    rw[et]
    simp only[bc]
    walk_at "rd"
    have b1:j<row.length:=by omega
    have b2:j+1+2*t<row.length:=by omega
    have b3:kvs.length<16000000:=by omega
    have hrow:∀ a,a<row.length->atI (row.map aC) (a:Int)=some (aC (sg row a)):=fun a ha=>bX (by simp[sg,ha])
    have v1:=h1 (j+1) (j+1+2*t) (by omega)
    have v2:=h1 (j+1+2*t+1) (j+L) (by omega)
    have c1:(aX kvs [.inl ((j:Int)+1),.inl ((j+1+2*t:Nat):Int)]).isSome=decide (W (rel ord) (seg row (j+1) (j+1+2*t))≠0):=by
     rw[show(j:Int)+1=((j+1:Nat):Int)by omega,v1,Bool.eq_iff_iff,i6,decide_eq_true_eq]
     exact⟨fun h=>h.2.2.2.2,fun h=>⟨by omega,by omega,by omega,by omega,h⟩⟩
    have c2:(aX kvs [.inl (((j+1+2*t:Nat):Int)+1),.inl ((j:Int)+(L:Int))]).isSome=decide (W (rel ord) (seg row (j+1+2*t+1) (j+L))≠0):=by
     rw[show((j+1+2*t:Nat):Int)+1=((j+1+2*t+1:Nat):Int)by omega,show(j:Int)+(L:Int)=((j+L:Nat):Int)by omega,v2,Bool.eq_iff_iff,i6,decide_eq_true_eq]
     exact⟨fun h=>h.2.2.2.2,fun h=>⟨by omega,by omega,by omega,by omega,h⟩⟩
    have hsp:∀ P:Nat->Prop,(∃ u<t+1,P u)↔(∃ u<t,P u)∨P t:=fun P=>⟨fun⟨u,h,q⟩=>by
     by_cases c:u=t
     ·exact .inr (c▸q)
     ·exact .inl ⟨u,by omega,q⟩,fun h=>h.elim (fun⟨u,h,q⟩=>⟨u,by omega,q⟩) fun q=>⟨t,by omega,q⟩⟩
    have no:¬ (rel ord (sg row j) (sg row (j+1+2*t))=true/\W (rel ord) (seg row (j+1) (j+1+2*t))≠0/\W (rel ord) (seg row (j+1+2*t+1) (j+L))≠0)->X3 [some (D.tup (ord.map az)),some (D.tup (row.map aC)),some (D.int row.length),some (D.ref p),some (D.int j),some (D.int L),some (D.int ((j+1+2*t:Nat):Int))] (al M p (.dT kvs)):=fun hn =>
     k3 _ _ ⟨kvs,_,rfl,rfl,h1,h2,by rw[hsp,h3];exact⟨.inl,fun z=>z.resolve_right hn⟩,by omega⟩
    refine⟨sz3 2,?_⟩
    rw[c1,Bool.false_xor]
    refine gX (fun g1=>⟨sz3 2,?_⟩) (fun g1=>no fun z=>g1 (decide_eq_true z.2.1))
    rw[c2,Bool.false_xor]
    refine gX (fun g2=>?_) (fun g2=>no fun z=>g2 (decide_eq_true z.2.2))
    refine⟨_,hrow j b1,_,hrow _ b2,ord,sg row j,sg row (j+1+2*t),rfl,ho,_,rfl,?_⟩
    refine gX (fun g3=>⟨sz3 2,kvs,ag,Nat.lt_of_lt_of_le b3 (szB 16000000),?_⟩) (fun g3=>no fun z=>g3 z.1)
    rw[ay,show(j:Int)+(L:Int)=((j+L:Nat):Int)by omega]
    have hput:aX (eG kvs [.inl (j:Int),.inl ((j+L:Nat):Int)] (.bl true)) [.inl (j:Int),.inl ((j+L:Nat):Int)]=some (.bl true):=by rw[lA,if_pos rfl]
    refine k3 _ _ ⟨_,_,rfl,rfl,fun b e c=>?_,.inr hput,?_,Nat.le_trans (jX _ _ _) (by omega)⟩
    ·rw[lA,if_neg (fun z=>c (rM.mp z)),h1 b e c]
    ·rw[hput,hsp]
     exact⟨fun _=>.inr ⟨g3,of_decide_eq_true g1,of_decide_eq_true g2⟩,fun _=>rfl⟩
   ·rintro Δ M' ⟨kvs,x6,rfl,rfl,h1,h2,h3,h4⟩
    have e2:(oH ((j:Int)+1) 2 (L / 2)).length=L / 2:=by simp[oH]
    rw[e2]at h3 h4
    refine k2 _ _ ⟨kvs,_,_,rfl,rfl,fun b e=>?_,by omega⟩
    by_cases c:b=j/\e=j+L
    ·obtain⟨rfl,rfl⟩:=c
     have hW:=uA (R:=rel ord) (row:=row) (show b<b+L by omega) (by omega)
     rw[Nat.add_sub_cancel_left,<-h3]at hW
     by_cases g:W (rel ord) (seg row b (b+L))≠0
     ·unfold tab
      rw[if_pos ⟨by omega,by omega,by omega,by omega,g⟩]
      rcases h2 with q|q
      ·rw[q]at hW;exact absurd (hW.mp g) (by simp)
      ·exact q
     ·unfold tab
      rw[if_neg (fun z=>g z.2.2.2.2)]
      rcases h2 with q|q
      ·exact q
      ·rw[q]at hW;exact absurd (hW.mpr rfl) g
    ·rw[h1 b e c]
     refine mO ⟨fun z=>⟨z.1,z.2.1,z.2.2.1,by omega,z.2.2.2.2⟩,fun z=>⟨z.1,z.2.1,z.2.2.1,by omega,z.2.2.2.2⟩⟩
  ·rintro Δ M' ⟨kvs,x4,x6,rfl,rfl,hT,hkl⟩
   rw[bT]at hT hkl
   refine k' _ _ ⟨kvs,_,_,_,rfl,rfl,fun b e=>?_,by omega⟩
   rw[hT b e]
   refine mO ⟨fun z=>⟨z.1,z.2.1,z.2.2.1,by omega,z.2.2.2.2⟩,fun z=>⟨z.1,z.2.1,z.2.2.1,by omega,z.2.2.2.2⟩⟩
 ·rintro Δ M' ⟨kvs,x4,x5,x6,rfl,rfl,hT,hkl⟩
  have e2:(oH 2 2 (row.length / 2)).length=row.length / 2:=by simp[oH]
  rw[e2]at hT
  walk_at "rd"
  refine⟨sz3 2,M,oj hp,?_⟩
  have h:=hT 0 row.length
  have e:(aX kvs [Sum.inl 0,Sum.inl (row.length:Int)]).isSome=decide (W (rel ord) row≠0):=by
   rw[show aX kvs [Sum.inl 0,Sum.inl (row.length:Int)]=_ from h,Bool.eq_iff_iff,i6,decide_eq_true_eq,z9]
   refine⟨fun z=>z.2.2.2.2,fun z=>⟨by omega,by omega,?_,?_,z⟩⟩
   ·by_cases c:row.length % 2=0
    ·omega
    ·exact absurd (Aw _ row (Nat.le_refl _) (by omega)) z
   ·omega
  rw[e,Bool.false_xor]
  exact k
end
section
variable {P:Program} {w:World} {K:PySem.W.Frag} {mg:Str->Option Value} {base:Heap}
def eu (ents:List (Str×List Row)) (rows:List Row) (w:Str):List Row:=(kin ents w).flatMap fun k=>rows.map fun r=>r++k
def mE (ents:List (Str×List Row)) (ws:List Str):List Row:=ws.foldl (eu ents) [[]]
theorem pW {w:Str} {g:Row->List Row}:∀ {ents:List (Str×List Row)},(ents.map (·.1)).Nodup->(ents.flatMap fun e=>if e.1=w then e.2.flatMap g else[])=(kin ents w).flatMap g
 |[],_=>rfl
 |e::l,h=>by
  rw[List.map_cons,List.nodup_cons]at h
  have ih:=pW (w:=w) (g:=g) h.2
  rw[List.flatMap_cons,ih]
  unfold kin
  rw[List.lookup_cons]
  by_cases c:e.1=w
  ·have h0:l.lookup w=none:=by
    rw[List.lookup_eq_none_iff]
    intro p hp
    simpa using fun q:w=p.1=>h.1 (by rw[c,q];exact List.mem_map.mpr ⟨p,hp,rfl⟩)
   rw[if_pos c,h0,show(w==e.1)=true by simp[c]]
   simp
  ·rw[if_neg c,show(w==e.1)=false by simpa using fun q:w=e.1=>c q.symm]
   rfl
theorem wQ {α β:Type} {f:α->List β} {m:Nat} {l:List α} (h:∀ x∈l,(f x).length<=m):(l.flatMap f).length<=l.length*m:=by
 rw[List.length_flatMap];exact cH h
theorem oR {ents:List (Str×List Row)} {K B:Nat} (he:mi ents K B):∀ (ws:List Str) (rows:List Row) (n m:Nat),rows.length<=n->(∀ r∈rows,r.length<=m)->(ws.foldl (eu ents) rows).length<=K ^ ws.length*n/\∀ r∈ws.foldl (eu ents) rows,r.length<=m+B*ws.length
 |[],rows,n,m,h1,h2=>by simpa using⟨h1,h2⟩
 |w::ws,rows,n,m,h1,h2=>by
  have hk:=tY (ents:=ents) (w:=w) (P:=fun rs=>rs.length<=K/\∀ r∈rs,r.length<=B) ⟨Nat.zero_le _,fun _ h=>by cases h⟩ he
  have ih:=oR he ws (eu ents rows w) (K*n) (m+B) (by
   unfold eu
   refine Nat.le_trans (wQ (m:=n) fun k _=>by rw[List.length_map];exact h1) (Nat.mul_le_mul_right _ hk.1)) (by
   intro r hr
   obtain⟨k,hk',hr⟩:=List.mem_flatMap.mp hr
   obtain⟨s,hs,rfl⟩:=List.mem_map.mp hr
   rw[List.length_append]
   exact Nat.add_le_add (h2 s hs) (hk.2 k hk'))
  rw[List.foldl_cons,List.length_cons,Nat.pow_succ,Nat.mul_assoc,Nat.mul_succ]
  refine⟨ih.1,fun r hr=>?_⟩
  have:=ih.2 r hr
  omega
theorem oJ {ents:List (Str×List Row)} {s:Row}:∀ {ws:List Str} {rows:List Row},s∈ws.foldl (eu ents) rows↔∃ a∈rows,∃ b∈chR ents ws,s=a++b
 |[],rows=>by simp[chR]
 |w::ws,rows=>by
  rw[List.foldl_cons,oJ]
  simp only[eu,chR,List.mem_flatMap,List.mem_map]
  constructor
  ·rintro⟨a,⟨k,hk,r,hr,rfl⟩,b,hb,rfl⟩
   exact⟨r,hr,k++b,⟨k,hk,b,hb,rfl⟩,by simp⟩
  ·rintro⟨r,hr,x,⟨k,hk,b,hb,rfl⟩,rfl⟩
   exact⟨r++k,⟨k,hk,r,hr,rfl⟩,b,hb,by simp⟩
theorem Cu {l:List Bool}:yd (.lst (l.map D.bl))=some (.bl (l.any id)):=by
 have h1:(l.map D.bl).all sk=true:=by rw[List.all_map,List.all_eq_true];intro _ _;rfl
 simp only[yd,h1,if_true]
 rw[List.any_map];rfl
def fG:SpD:=fun ds M R=>∃ (ord:List (Str×Str)) (goal:Str) (ents:List (Str×List Row)) (ws:List Str),ds=[cP ord goal ents,wsD ws]/\ord.length<=500/\ents.length<=8/\(ents.map (·.1)).Nodup/\mi ents 2 3/\ws.length<=4 /\
 R (.bl (decide (0<((chR ents ws).map fun s=>W (rel ord) (s++[(goal,1)])).sum))) M
theorem jg {f:Addr} {fd:FuncData} (F:Fun K "_law_is_sentence" "_law_is_sentence" bF f fd) (T:Txt K mg) (g_l_wholly:FnD P w K mg base "_law_wholly" 3 2 kW):aK P w K mg base CX0 4 f fd ["_law_lexicon_here","_law_words"] (spD K 2 fG):=by
 have nd:=eY.nd
 refine F.okQ rfl eY (fun cdv A outer s H E hr=>⟨_,(aj (aF (i:=2) nd rfl (Or.inl rfl) (jc (ab (bV ac) ac)))
   (aj (bQ PassesOwn.never rfl (bn (aa 1)) (aE (i:=3) nd rfl (Or.inl rfl)) (aj (aF (i:=4) nd rfl (Or.inl rfl) (jc ac))
   (aj (bQ PassesOwn.never rfl (bn (aO aP (aa 0) ak (fun _ _=>rfl))) (lH rfl (bR (aE (i:=5) nd rfl (Or.inl rfl)) (bR (aE (i:=6) nd rfl (Or.inl rfl)) kX))) (am (eh (bt (sn hr.units) (aa 5) (aa 3) (by first|exact av _ (by decide) (by decide)|rfl)) (am (bQ PassesOwn.never rfl (bn (aa 6)) (aE (i:=7) nd rfl (Or.inr rfl)) (am (aF (i:=4) nd rfl (Or.inl rfl) (aI aH (aa 4) (iB (ms:=[false,false,false,false,false,false,false,true]) (extra:=["_law_row"]) (aG rfl (show aQ (ae bF) bE _ _=true from by decide +kernel)) rfl (bn (aa 2)) (aL (i:=8) (show(bE++_).Nodup from by decide +kernel) rfl rfl) (fun _ _ _ _=>cg) (fun _ _ _ _=>(aI aH (aa 8) (aa 7))))))))) cw)))
   (am (aF (i:=2) nd rfl (Or.inl rfl) (aa 4))))))
   (am (aM (aN (D2 rfl) rfl T.b_any (by kernel_rfl) (ab (iB (ms:=[true,false,false,false,false,false,false,false]) (extra:=["_law_row"]) (aG rfl (show aQ (ae bF) bE _ _=true from by decide +kernel)) rfl (bn (aa 2)) (aL (i:=8) (show(bE++_).Nodup from by decide +kernel) rfl rfl) (fun _ _ _ _=>cg) (fun _ _ _ _=>(qc g_l_wholly (hr.mono (by decide)) rfl (ab (aO aP (aa 0) ak (fun _ _=>rfl)) (ab (aI aH (aa 8) (bV (ab (bV (ab (aO aP (aa 0) ak (fun _ _=>rfl)) (ab ak ac))) ac))) ac))))) ac)))))),fun ds M R hl hS=>?_⟩)
 obtain⟨ord,goal,ents,ws,rfl,ho,hl,hnd,he,hw,k⟩:=hS
 simp only[cP,wsD]
 walk_at "rd"
 refine⟨Nat.zero_le _,by rw[sizeLine_eq];decide,fun _=>?_⟩
 refine aD (fun i Δ M'=>∃ x3 x4 x5 x6 x7,Δ=[some (D.tup [D.tup (ord.map az),D.str goal,D.tup (ents.map iG)]),some (D.tup (ws.map D.str)),some (D.lst ((mE ents (ws.take i)).map aw)),x3,x4,x5,x6,x7]/\M'=M) ⟨_,_,_,_,_,rfl,rfl⟩ ?_ ?_
 ·rintro i d Δ M' X hd ⟨x3,x4,x5,x6,x7,rfl,rfl⟩ k'
  obtain⟨w,hwi,rfl⟩:=dh hd
  have hi:i<ws.length:=(List.getElem?_eq_some_iff.mp hwi).1
  have hti:(ws.take i).length=i:=by rw[List.length_take];omega
  have hfew:=oR he (ws.take i) [[]] 1 0 (Nat.le_refl _) (by simp)
  rw[hti]at hfew
  have h16:2 ^ i*1<=8:=by
   rw[Nat.mul_one]
   exact Nat.le_trans (Nat.pow_le_pow_right (by decide) (show i<=3 by omega)) (by decide)
  have hnext:mE ents (ws.take (i+1))=eu ents (mE ents (ws.take i)) w:=by
   unfold mE
   rw[List.take_add_one,hwi,List.foldl_append];rfl
  change (mE ents (ws.take i)).length<=_/\(∀ r∈mE ents (ws.take i),_)at hfew
  generalize mE ents (ws.take i)=rows at *
  have hr1:rows.length<=8:=by omega
  refine⟨_,rfl,?_⟩
  simp only[oK,ke,vb,dG,rR,jR,br,dOp,dC]
  refine⟨Nat.zero_le _,_,rfl,_,rfl,_,rfl,fun _=>?_⟩
  refine aD (fun j Δ M1=>∃ x5 x6 x7 out,Δ=[some (D.tup [D.tup (ord.map az),D.str goal,D.tup (ents.map iG)]),some (D.tup (ws.map D.str)),some (D.lst (rows.map aw)),some (D.str w),some (D.lst (out.map aw)),x5,x6,x7]/\M1=M'/\out=((ents.take j).flatMap fun e=>if e.1=w then e.2.flatMap fun k=>rows.map fun r=>r++k else[])/\out.length<=100*j) ⟨_,_,_,[],rfl,rfl,by simp,by simp⟩ ?_ ?_
  ·rintro j d Δ M1 X2 hd2 ⟨y5,y6,y7,out,rfl,rfl,hout,hol⟩ k2
   obtain⟨e,hej,rfl⟩:=dh hd2
   have hj:j<ents.length:=(List.getElem?_eq_some_iff.mp hej).1
   obtain⟨he1,he2⟩:=he e (List.mem_of_getElem? hej)
   simp only[iG]
   refine⟨_,rfl,?_⟩
   simp only[xO,i3,dOp,br]
   refine⟨_,rfl,_,rfl,_,rfl,_,rfl,?_⟩
   have htk:(ents.take (j+1)).flatMap (fun e=>if e.1=w then e.2.flatMap fun k=>rows.map fun r=>r++k else[])=out++if e.1=w then e.2.flatMap fun k=>rows.map fun r=>r++k else[]:=by
    rw[List.take_add_one,hej,List.flatMap_append,hout];simp
   refine gX (fun c=>?_) (fun c=>?_)
   ·have c':e.1=w:=by simpa[rdM,eqD]using c
    simp only[rR,jR,br]
    refine⟨_,rfl,_,rfl,fun _=>?_⟩
    refine aD (fun t Δ M2=>∃ x7 out2,Δ=[some (D.tup [D.tup (ord.map az),D.str goal,D.tup (ents.map iG)]),some (D.tup (ws.map D.str)),some (D.lst (rows.map aw)),some (D.str w),some (D.lst (out2.map aw)),some (D.str e.1),some (bU e.2),x7]/\M2=M1/\out2=out++((e.2.take t).flatMap fun k=>rows.map fun r=>r++k)/\out2.length<=100*j+8*t) ⟨_,out,rfl,rfl,by simp,by omega⟩ ?_ ?_
    ·rintro t d Δ M2 X3 hd3 ⟨z7,out2,rfl,rfl,hout2,hol2⟩ k3
     obtain⟨kd,hkt,rfl⟩:=dh hd3
     have ht:t<e.2.length:=(List.getElem?_eq_some_iff.mp hkt).1
     have hkl:=he2 kd (List.mem_of_getElem? hkt)
     refine⟨_,rfl,?_⟩
     simp only[ke,dOp,dLc,jR,br]
     refine⟨_,rfl,_,rfl,_,rfl,fun _=>⟨by rw[List.length_map,sizeLine_eq];omega,?_⟩⟩
     refine a7 aw (fun _=>true) (fun r=>aw (r++kd)) (fun Δ=>∃ x,Δ=[none,none,none,none,none,none,none,some (aw kd),x]) _ _ _ ?_ ⟨_,rfl⟩ ?_
     ·rintro r hr' Δ ⟨x,rfl⟩
      refine⟨_,rfl,⟨_,rfl⟩,fun Q1 q=>q,fun _ Q2 q=>?_⟩
      have hrl:=hfew.2 r hr'
      refine⟨_,rfl,_,rfl,aw (r++kd),?_,q⟩
      show gI (.tup (r.map aC)) (.tup (kd.map aC))=_
      rw[dX,if_pos (by rw[List.length_map,List.length_map,sizeLine_eq];omega)]
      simp[aw]
     ·rw[List.filter_eq_self.mpr (fun _ _=>rfl),List.nil_append]
      have hz:(out2++rows.map fun r=>r++kd).length<=100*j+8*(t+1):=by rw[List.length_append,List.length_map];omega
      refine⟨D.lst ((out2++rows.map fun r=>r++kd).map aw),?_,k3 _ _ ⟨some (aw kd),_,rfl,rfl,?_,hz⟩⟩
      ·show gI (.lst (out2.map aw)) (.lst (rows.map fun r=>aw (r++kd)))=_
       refine(if_pos (show List.length _+List.length _<=sizeLine by rw[List.length_map,List.length_map,sizeLine_eq];omega)).trans ?_
       rw[List.map_append,List.map_map];rfl
      ·rw[List.take_add_one,hkt,List.flatMap_append,hout2];simp
    ·rintro Δ M2 ⟨z7,out2,rfl,rfl,hout2,hol2⟩
     rw[List.length_map,List.take_length]at hout2
     rw[List.length_map]at hol2
     refine k2 _ _ ⟨_,_,_,out2,rfl,rfl,?_,by omega⟩
     rw[htk,if_pos c',hout2]
   ·have c':¬ e.1=w:=fun q=>c (by simp[rdM,eqD,q])
    refine k2 _ _ ⟨_,_,_,out,rfl,rfl,?_,by omega⟩
    rw[htk,if_neg c',List.append_nil]
  ·rintro Δ M1 ⟨y5,y6,y7,out,rfl,rfl,hout,hol⟩
   rw[List.length_map,List.take_length,pW hnd]at hout
   have hx:mE ents (ws.take (i+1))=out:=by rw[hnext,hout];rfl
   exact⟨_,rfl,k' _ _ ⟨some (D.str w),_,_,_,_,by rw[hx];rfl,rfl⟩⟩
 ·rintro Δ M' ⟨x3,x4,x5,x6,x7,rfl,rfl⟩
  rw[List.length_map,List.take_length]
  have hfew:=oR he ws [[]] 1 0 (Nat.le_refl _) (by simp)
  have hany:((mE ents ws).map fun s=>decide (W (rel ord) (s++[(goal,1)])≠0)).any id=decide (0<((chR ents ws).map fun s=>W (rel ord) (s++[(goal,1)])).sum):=by
   rw[Bool.eq_iff_iff,List.any_map,List.any_eq_true,decide_eq_true_eq,Nat.pos_iff_ne_zero,oQ]
   constructor
   ·rintro⟨s,hs,h⟩
    obtain⟨a,ha,b,hb,rfl⟩:=oJ.mp hs
    rw[List.mem_singleton.mp ha,List.nil_append]at h
    exact⟨b,hb,of_decide_eq_true h⟩
   ·rintro⟨s,hs,h⟩
    exact⟨s,oJ.mpr ⟨[],.head _,s,hs,rfl⟩,decide_eq_true h⟩
  walk_at "rd"
  refine fun hz=>⟨hz,?_⟩
  have hc:dI [true,false,false,false,false,false,false,false] 1 [some (D.tup [D.tup (ord.map az),D.str goal,D.tup (ents.map iG)]),some (D.tup (ws.map D.str)),some (D.lst ((mE ents ws).map aw)),x3,x4,x5,x6,x7]=[some (D.tup [D.tup (ord.map az),D.str goal,D.tup (ents.map iG)]),none,none,none,none,none,none,none,none]:=rfl
  rw[hc]
  refine a7 aw (fun _=>true) (fun s=>D.bl (decide (W (rel ord) (s++[(goal,1)])≠0))) (fun Δ=>∃ x,Δ=[some (D.tup [D.tup (ord.map az),D.str goal,D.tup (ents.map iG)]),none,none,none,none,none,none,none,x]) _ _ _ ?_ ⟨_,rfl⟩ ?_
  ·rintro r hr' Δ ⟨x,rfl⟩
   refine⟨_,rfl,⟨_,rfl⟩,fun Q1 q=>q,fun _ Q2 q=>?_⟩
   have hrl:=hfew.2 r hr'
   walk_at "rd"
   refine⟨by rw[sizeLine_eq];decide,by rw[sizeLine_eq];decide,aw (r++[(goal,1)]),?_,ord,r++[(goal,1)],rfl,ho,by rw[List.length_append];simp;omega,q⟩
   show gI (.tup (r.map aC)) (.tup [aC (goal,1)])=_
   rw[dX,if_pos (by rw[List.length_map,sizeLine_eq];simp;omega)]
   simp[aw]
  ·rw[List.filter_eq_self.mpr (fun _ _=>rfl),List.nil_append]
   refine⟨_,?_,k⟩
   rw[<-hany,<-Cu,List.map_map]
   rfl
end
section
variable {P:Program} {w:World} {K:PySem.W.Frag} {mg:Str->Option Value} {base:Heap}
theorem iP {r:Row}:dLe (aw r) 59=true:=by
 show bq (r.map aC) 58=true
 rw[gf]
 intro d hd
 obtain⟨x,_,rfl⟩:=List.mem_map.mp hd
 rfl
def nA:SpD:=fun ds M R=>∃ (p:Addr) (l:List D) (marks:List Str) (most aV turns:Nat),ds=[.ref p,.lst (marks.map .str),.int (most:Int),.int (aV:Int),.int (turns:Int)]/\M p=some (.lst l)/\aT l/\marks≠[]/\marks.length<=1000/\1<=most/\most<=8/\aV<=8/\turns<=8 /\
 ∀ (ks:List Row) l',1<=ks.length->ks.length<=most->(∀ r∈ks,r.length<=aV)->aT l'->R (bU ks) (al M p (.lst l'))
theorem rE {f:Addr} {fd:FuncData} (F:Fun K "_law_kinds" "_law_kinds" jo f fd) (T:Txt K mg) (g_l_draw:FnD P w K mg base "_law_draw" 1 2 cT):aK P w K mg base CX0 2 f fd ["_law_pool_here","_law_marks","_law_most","_law_signs","_law_turns"] (spD K 5 nA):=by
 have nd:=ln.nd
 refine F.okQ rfl ln (fun cdv A outer s H E hr=>⟨_,(aj (aF (i:=5) nd rfl (Or.inl rfl) (ii ac))
   (aj (bQ PassesOwn.never rfl (bz rfl T.b_range (ab (aI aH ak (qc g_l_draw (hr.mono (by decide)) rfl (ab (aa 0) (ab (aa 2) ac)))) ac)) (aE (i:=6) nd rfl (Or.inl rfl)) (aj (aF (i:=7) nd rfl (Or.inl rfl) (ii ac))
   (aj (bQ PassesOwn.never rfl (bz rfl T.b_range (ab (qc g_l_draw (hr.mono (by decide)) rfl (ab (aa 0) (ab (aI aH (aa 3) ak) ac))) ac)) (aE (i:=8) nd rfl (Or.inl rfl)) (aj (aF (i:=9) nd rfl (Or.inl rfl) (aO aP (aa 1) (qc g_l_draw (hr.mono (by decide)) rfl (ab (aa 0) (ab (aN dR rfl T.b_len (by kernel_rfl) (ab (aa 1) ac)) ac))) (fun _ _=>rfl)))
   (am (gW (kC (aa 7) (bV (ab (aa 9) (ab (aI vf (qc g_l_draw (hr.mono (by decide)) rfl (ab (aa 0) (ab (aI aH (aI ji ak (aa 4)) ak) ac))) (aa 4)) ac))))))))
   (am (eh (bt (pC hr.units) (cN gq rfl T.b_tuple (by kernel_rfl) (ab (aa 7) ac)) (aa 5) (by first|exact av _ (by decide) (by decide)|rfl)) (am (gW (kC (aa 5) (cN gq rfl T.b_tuple (by kernel_rfl) (ab (aa 7) ac))))) cw)))))
   (am (l7 (cN gq rfl T.b_tuple (by kernel_rfl) (ab (aa 5) ac)))))),fun ds M R hl hS=>?_⟩)
 obtain⟨p,l,marks,most,aV,turns,rfl,hM,hP,hm,hml,hmo,hmo8,hs8,ht8,k⟩:=hS
 walk_at "rd"
 refine⟨Nat.zero_le _,fun q hq=>?_⟩
 have hpq:p≠q:=by rintro rfl;rw[hM]at hq;cases hq
 refine⟨p,l,_,rfl,by rw[ao hpq];exact hM,hP,by omega,by omega,fun v l1 h0 h1 hP1=>?_⟩
 obtain⟨n,rfl⟩:=Int.eq_ofNat_of_zero_le h0
 refine⟨.int (1+(n:Int)),rfl,_,rfl,by omega,by omega,?_⟩
 rw[show(1+(n:Int)).toNat=n+1 by omega]
 refine aD (fun i Δ M'=>∃ x6 x7 x8 x9 l ks,Δ=[some (D.ref p),some (D.lst (marks.map D.str)),some (D.int (most:Int)),some (D.int (aV:Int)),some (D.int (turns:Int)),some (D.ref q),x6,x7,x8,x9]/\M' p=some (.lst l)/\aT l/\M' q=some (.lst (ks.map aw))/\(∀ a u,a≠p->M a=some u->M' a=some u)/\ks.length<=i/\(0<i->1<=ks.length)/\∀ r∈ks,r.length<=aV)
  ⟨_,_,_,_,l1,[],rfl,ag,hP1,by rw[ao (Ne.symm hpq),ag];rfl,fun a u ha e=>?_,Nat.zero_le _,fun h=>absurd h (by omega),fun _ h=>by cases h⟩ ?_ ?_
 ·have haq:a≠q:=fun z=>by rw[z,hq]at e;cases e
  rw[ao ha,ao haq];exact e
 ·rintro i d Δ M' X hd ⟨x6,x7,x8,x9,l2,ks,rfl,hMp,hP2,hMq,hold,hkl,hk1,hkr⟩ k'
  obtain⟨hi,rfl⟩:=cc hd
  simp only[bc]
  walk_at "rd"
  refine⟨Nat.zero_le _,fun r hr2=>?_⟩
  have hpr:p≠r:=by rintro rfl;rw[hMp]at hr2;cases hr2
  have hqr:q≠r:=by rintro rfl;rw[hMq]at hr2;cases hr2
  refine⟨p,l2,_,rfl,by rw[ao hpr];exact hMp,hP2,by omega,by omega,fun v l3 g0 g1 hP3=>⟨v,rfl,by omega,by omega,?_⟩⟩
  obtain⟨m,rfl⟩:=Int.eq_ofNat_of_zero_le g0
  rw[Int.toNat_natCast]
  refine aD (fun t Δ M2=>∃ x8 x9 l row,Δ=[some (D.ref p),some (D.lst (marks.map D.str)),some (D.int (most:Int)),some (D.int (aV:Int)),some (D.int (turns:Int)),some (D.ref q),some (D.int (0+(i:Int))),some (D.ref r),x8,x9]/\M2=al (al M' p (.lst l)) r (.lst (row.map aC))/\aT l/\row.length<=t)
   ⟨_,_,l3,[],rfl,bJ (Ne.symm hpr),hP3,Nat.le_refl _⟩ ?_ ?_
  ·rintro t d Δ M2 X2 hd2 ⟨y8,y9,l4,row,rfl,rfl,hP4,hrow⟩ k2
   obtain⟨ht,rfl⟩:=cc hd2
   have hlen:(0:Int)<((marks.map D.str).length:Int):=by
    rw[List.length_map]
    have:=List.length_pos_iff.mpr hm
    omega
   have hlen2:((marks.map D.str).length:Int)<1073741824:=by
    rw[List.length_map];omega
   have hcm:∀ l5,al (al (al M' p (.lst l4)) r (.lst (row.map aC))) p (.lst l5)=al (al M' p (.lst l5)) r (.lst (row.map aC)):=fun l5=>by
    rw[<-bJ hpr,ay]
   simp only[bc]
   walk_at "rd"
   refine⟨p,l4,_,rfl,by rw[ao hpr,ag],hP4,hlen,hlen2,fun v1 l5 a0 a1 hP5=>?_⟩
   rw[List.length_map]at a1
   obtain⟨m1,hm1,e1⟩:=iO a0 a1
   rw[hcm]
   refine⟨_,e1,_,ag,p,l5,_,rfl,by rw[ao hpr,ag],hP5,by omega,by omega,fun v2 l6 b0 b1 hP6=>?_⟩
   have hcm2:al (al (al M' p (.lst l5)) r (.lst (row.map aC))) p (.lst l6)=al (al M' p (.lst l6)) r (.lst (row.map aC)):=by
    rw[<-bJ hpr,ay]
   rw[hcm2]
   refine⟨.int (v2-(turns:Int)),rfl,sz3 2,_,ag,?_,k2 _ _ ⟨_,_,l6,row++[(m1,v2-(turns:Int))],rfl,?_,hP6,by simp;omega⟩⟩
   ·rw[List.length_map,sizeLine_eq];omega
   ·rw[ay];simp[aC]
  ·rintro Δ M2 ⟨y8,y9,l4,row,rfl,rfl,hP4,hrow⟩
   rw[bT]at hrow
   walk_at "rd"
   have eq:al (al M' p (.lst l4)) r (.lst (row.map aC)) q=some (.lst (ks.map aw)):=by rw[ao hqr,ao (Ne.symm hpq)];exact hMq
   have ep:al (al M' p (.lst l4)) r (.lst (row.map aC)) p=some (.lst l4):=by rw[ao hpr,ag]
   have eo:∀ a u,a≠p->M a=some u->al (al M' p (.lst l4)) r (.lst (row.map aC)) a=some u:=fun a u ha e=>by
    have h:=hold a u ha e
    have har:a≠r:=by rintro rfl;rw[hr2]at h;cases h
    rw[ao har,ao ha];exact h
   generalize al (al M' p (.lst l4)) r (.lst (row.map aC))=M3 at *
   refine⟨.bl (!((ks.map aw).any fun d=>eqD d (aw row))),?_,_,rfl,?_⟩
   ·rw[show rdM M3 (D.ref q)=D.lst (ks.map aw)by simp[rdM,eq]]
    show jI (aw row) _=_
    rw[vq,if_pos ⟨iP,lm aw fun _=>iP⟩]
   refine gX (fun c=>?_) (fun c=>?_)
   ·refine⟨_,eq,_,eq,by rw[List.length_map,sizeLine_eq];omega,k' _ _ ⟨_,_,_,_,l4,ks++[row],rfl,?_,hP4,?_,fun a u ha e=>?_,by simp;omega,fun _=>by simp,fun x hx=>?_⟩⟩
    ·rw[ao hpq];exact ep
    ·rw[ag,List.map_append];rfl
    ·have haq:a≠q:=fun z=>by rw[z,hq]at e;cases e
     rw[ao haq];exact eo a u ha e
    ·rcases List.mem_append.mp hx with h|h
     ·exact hkr x h
     ·rw[List.mem_singleton.mp h];omega
   ·refine k' _ _ ⟨_,_,_,_,l4,ks,rfl,ep,hP4,eq,eo,by omega,fun _=>?_,hkr⟩
    cases ks with
    |nil=>exact absurd rfl c
    |cons _ _=>simp
 ·rintro Δ M' ⟨x6,x7,x8,x9,l2,ks,rfl,hMp,hP2,hMq,hold,hkl,hk1,hkr⟩
  rw[bT]at hkl hk1
  walk_at "rd"
  refine⟨bU ks,by simp[rdM,hMq,yc,bU],al M p (.lst l2),fun a u e=>?_,k ks l2 (hk1 (by omega)) (by omega) hkr hP2⟩
  by_cases c:a=p
  ·rw[c,ag]at e;rw[c,hMp];exact e
  ·rw[ao c]at e;exact hold a u c e
end
section
variable {P:Program} {w:World} {K:PySem.W.Frag} {mg:Str->Option Value} {base:Heap}
theorem B5 {a b:TSd} {E:fJ} {Δ:DE} {M:DH} (C:DE->DH->Prop) (h1:∀ nx,(∀ Δ' M',C Δ' M'->nx Δ' M')->a { E with nx:=nx } Δ M) (h2:∀ Δ' M',C Δ' M'->b E Δ' M'):oK a b E Δ M:=h1 _ h2
def jV:SpD:=fun ds M R=>∃ (p:Addr) (l:List D) (marks words:List Str) (aV:Nat),ds=[.ref p,.lst (marks.map .str),.lst (words.map .str),.int (aV:Int)]/\M p=some (.lst l)/\aT l/\marks≠[]/\marks.length<=1000/\words.length<=8/\2<=aV/\aV<=8 /\
 ∀ (ord:List (Str×Str)) (goal:Str) (ents:List (Str×List Row)) l',ord.length<=2->ents.map (·.1)=words->mi ents 2 aV->aT l'->R (cP ord goal ents) (al M p (.lst l'))
theorem o1 {f:Addr} {fd:FuncData} (F:Fun K "_law_lexicon" "_law_lexicon" dY f fd) (T:Txt K mg) (g_l_order:FnD P w K mg base "_law_order" 2 3 nB) (g_l_draw:FnD P w K mg base "_law_draw" 1 2 cT) (g_l_kinds:FnD P w K mg base "_law_kinds" 2 5 nA):aK P w K mg base CX0 3 f fd ["_law_pool_here","_law_marks","_law_words","_law_signs"] (spD K 4 jV):=by
 have nd:=iD.nd
 refine F.okQ rfl iD (fun cdv A outer s H E hr=>⟨_,(aj (aF (i:=4) nd rfl (Or.inl rfl) (qc g_l_order (hr.mono (by decide)) rfl (ab (aa 0) (ab (aa 1) (ab ak ac)))))
   (aj (aF (i:=5) nd rfl (Or.inl rfl) (aO aP (aa 1) (qc g_l_draw (hr.mono (by decide)) rfl (ab (aa 0) (ab (aN dR rfl T.b_len (by kernel_rfl) (ab (aa 1) ac)) ac))) (fun _ _=>rfl)))
   (aj (aF (i:=6) nd rfl (Or.inl rfl) (ii ac))
   (aj (bQ PassesOwn.never rfl (bn (aa 2)) (aE (i:=7) nd rfl (Or.inl rfl)) (aj (aF (i:=8) nd rfl (Or.inr rfl) (qc g_l_kinds (hr.mono (by decide)) rfl (ab (aa 0) (ab (aa 1) (ab ak (ab (aa 3) (ab ak ac)))))))
   (mT (aj (eh (bt (sn hr.units) (qc g_l_draw (hr.mono (by decide)) rfl (ab (aa 0) (ab ak ac))) ak (by first|exact av _ (by decide) (by decide)|rfl)) (am (aF (i:=8) nd rfl (Or.inr rfl) (aI aH (bV (ab (aI aH (aI aH (eN (aO aP (aa 8) ak (fun _ _=>rfl)) iq (fq ak)) (bV (ab (bV (ab (aa 5) (ab ak ac))) ac))) (eN (aO aP (aa 8) ak (fun _ _=>rfl)) (fq ak) iq)) ac)) (eN (aa 8) (fq ak) iq)))) cw)
   (am (gW (kC (aa 6) (bV (ab (aa 7) (ab (cN gq rfl T.b_tuple (by kernel_rfl) (ab (iB (ms:=[false,false,false,false,false,false,false,false,true]) (extra:=["_law_k"]) (aG rfl (show aQ (ae dY) gb _ _=true from by decide +kernel)) rfl (bz rfl T.b_range (ab (aN dR rfl T.b_len (by kernel_rfl) (ab (aa 8) ac)) ac)) (aL (i:=9) (show(gb++_).Nodup from by decide +kernel) rfl rfl) (fun _ _ _ _=>(jp (bt (pC hr.units) (aO aP (aa 8) (aa 9) (fun _ _=>rfl)) (eN (aa 8) iq (fq (aa 9))) (by first|exact av _ (by decide) (by decide)|rfl)))) (fun _ _ _ _=>(aO aP (aa 8) (aa 9) (fun _ _=>rfl)))) ac)) ac))))))))))
   (am (l7 (bV (ab (aa 4) (ab (aa 5) (ab (cN gq rfl T.b_tuple (by kernel_rfl) (ab (aa 6) ac)) ac)))))))))),fun ds M R hl hS=>?_⟩)
 obtain⟨p,l,marks,words,aV,rfl,hM,hP,hm,hml,hwl,hs2,hs8,k⟩:=hS
 walk_at "rd"
 refine⟨p,l,marks,2,rfl,hM,hP,hm,hml,by omega,by omega,fun ord l1 ho _ hP1=>?_⟩
 have hlen:(0:Int)<((marks.map D.str).length:Int):=by
  rw[List.length_map]
  have:=List.length_pos_iff.mpr hm
  omega
 have hlen2:((marks.map D.str).length:Int)<1073741824:=by
  rw[List.length_map];omega
 refine⟨p,l1,_,rfl,ag,hP1,hlen,hlen2,fun v l2 h0 h1 hP2=>?_⟩
 rw[List.length_map]at h1
 obtain⟨goal,_,eg⟩:=iO h0 h1
 rw[ay]
 refine⟨.str goal,eg,Nat.zero_le _,fun q hq _=>?_⟩
 have hpq:p≠q:=by rintro rfl;rw[ag]at hq;cases hq
 have hMq:M q=none:=by rw[ao (Ne.symm hpq)]at hq;exact hq
 have hcm:∀ l3 l4 es,al (al (al M p (.lst l3)) q (.lst es)) p (.lst l4)=al (al M p (.lst l4)) q (.lst es):=fun l3 l4 es=>by
  rw[<-bJ hpq,ay]
 refine aD (fun i Δ M'=>∃ x7 x8 l ents,Δ=[some (D.ref p),some (D.lst (marks.map D.str)),some (D.lst (words.map D.str)),some (D.int (aV:Int)),some (D.tup (ord.map az)),some (D.str goal),some (D.ref q),x7,x8]/\M'=al (al M p (.lst l)) q (.lst (ents.map iG))/\aT l/\ents.map (·.1)=words.take i/\mi ents 2 aV)
  ⟨_,_,l2,[],rfl,rfl,hP2,rfl,fun _ h=>by cases h⟩ ?_ ?_
 ·rintro i d Δ M' X hd ⟨x7,x8,l3,ents,rfl,rfl,hP3,hw,he⟩ k'
  obtain⟨wd,hwd,rfl⟩:=dh hd
  have hi:i<words.length:=(List.getElem?_eq_some_iff.mp hwd).1
  have hel:ents.length<=8:=by
   have:=congrArg List.length hw
   rw[List.length_map,List.length_take]at this
   omega
  simp only[bc]
  walk_at "rd"
  refine⟨p,l3,marks,2,aV,1,rfl,by rw[ao hpq,ag],hP3,hm,hml,by omega,by omega,hs8,by omega,fun ks l4 hk1 hk2 hkr hP4=>?_⟩
  rw[hcm]
  refine gD ?_
  refine B5 (fun Δ' M'=>∃ ks l',Δ'=[some (D.ref p),some (D.lst (marks.map D.str)),some (D.lst (words.map D.str)),some (D.int (aV:Int)),some (D.tup (ord.map az)),some (D.str goal),some (D.ref q),some (D.str wd),some (bU ks)]/\M'=al (al M p (.lst l')) q (.lst (ents.map iG))/\aT l'/\ks.length<=2/\∀ r∈ks,r.length<=aV) (fun nx knx=>?_) ?_
  ·walk_at "rd"
   refine⟨p,l4,2,rfl,by rw[ao hpq,ag],hP4,by omega,by omega,fun v2 l5 b0 b1 hP5=>?_⟩
   rw[hcm]
   refine⟨_,rfl,_,rfl,gX (fun c=>?_) (fun c=>knx _ _ ⟨ks,l5,rfl,rfl,hP5,hk2,hkr⟩)⟩
   obtain⟨k0,kt,rfl⟩:∃ k0 kt,ks=k0::kt:=by
    cases ks with
    |nil=>simp at hk1
    |cons a b=>exact⟨a,b,rfl⟩
   have hk0:=hkr k0 (.head _)
   have e2:L2.cF (k0.map aC) none (some 1)=(k0.map aC).take 1:=wM (n:=1)
   have e3:L2.cF (k0.map aC) (some 2) none=(k0.map aC).drop 2:=pw (n:=2)
   have e4:L2.cF ((k0::kt).map aw) (some 1) none=kt.map aw:=by rw[show(some (1:Int))=some ((1:Nat):Int)from rfl,pw (n:=1)];rfl
   have e0:∀ M1:DH,ixD (rdM M1 (bU (k0::kt))) (D.int 0)=some (aw k0):=fun M1=>(show atI ((k0::kt).map aw) ((0:Nat):Int)=_ from bX rfl)
   refine⟨aw k0,e0 _,_,rfl,sz3 2,sz3 1,aw (k0.take 1++[(goal,0)]),?_,aw k0,e0 _,_,rfl,aw (k0.take 1++[(goal,0)]++k0.drop 2),?_,sz3 1,_,rfl,bU ((k0.take 1++[(goal,0)]++k0.drop 2)::kt),?_,knx _ _ ⟨_,l5,rfl,rfl,hP5,?_,?_⟩⟩
   ·show gI (.tup (L2.cF (k0.map aC) none (some 1))) (.tup [aC (goal,0)])=_
    rw[e2,dX,if_pos (by rw[List.length_take,sizeLine_eq];simp;omega)]
    simp[aw,List.map_take]
   ·show gI (.tup ((k0.take 1++[(goal,0)]).map aC)) (.tup (L2.cF (k0.map aC) (some 2) none))=_
    rw[e3,dX,if_pos (by rw[sizeLine_eq];simp;omega)]
    simp[aw,List.map_drop]
   ·show gI (.tup [aw (k0.take 1++[(goal,0)]++k0.drop 2)]) (.tup (L2.cF ((k0::kt).map aw) (some 1) none))=_
    simp only[List.length_cons]at hk2
    rw[e4,dX,if_pos (by rw[sizeLine_eq];simp;omega)]
    rfl
   ·simpa using hk2
   ·intro r hr'
    rcases List.mem_cons.mp hr' with e|e
    ·rw[e]
     simp only[List.length_append,List.length_take,List.length_drop,List.length_cons,List.length_nil]
     omega
    ·exact hkr r (.tail _ e)
  rintro Δ' M' ⟨ks,l5,rfl,rfl,hP5,hk2,hkr⟩
  walk_at "rd"
  have hj:(ks.length:Int).toNat=ks.length:=Int.toNat_natCast _
  refine⟨.int (ks.length:Int),by simp[rdM,bU,j3],_,rfl,by omega,by omega,by rw[bT,hj,sizeLine_eq];omega,?_⟩
  have hc:dI [false,false,false,false,false,false,false,false,true] 1 [some (D.ref p),some (D.lst (marks.map D.str)),some (D.lst (words.map D.str)),some (D.int (aV:Int)),some (D.tup (ord.map az)),some (D.str goal),some (D.ref q),some (D.str wd),some (bU ks)]=[none,none,none,none,none,none,none,none,some (bU ks),none]:=rfl
  rw[hc,hj,gG]
  refine a7 (fun(k:Nat)=>D.int (0+(k:Int))) (fun k=>!(((ks.take k).map aw).any fun d=>eqD d (aw (ks.getD k [])))) (fun k=>aw (ks.getD k [])) (fun Δ=>∃ x,Δ=[none,none,none,none,none,none,none,none,some (bU ks),x]) _ _ _ ?_ ⟨_,rfl⟩ ?_
  ·rintro a ha Δ ⟨x,rfl⟩
   have ha':=List.mem_range.mp ha
   have hat:∀ M1:DH,ixD (rdM M1 (bU ks)) (rdM M1 (D.int (a:Int)))=some (aw (ks.getD a [])):=fun M1=>bX (by simp[ha'])
   rw[Int.zero_add]
   refine⟨_,rfl,⟨_,rfl⟩,fun Q1 q1=>?_,fun _ Q2 q1=>⟨_,rfl,_,rfl,_,hat _,q1⟩⟩
   walk_at "rd"
   refine⟨_,hat _,D.tup ((ks.take a).map aw),?_,_,(wK).trans (if_pos ⟨iP,lm aw fun _=>iP⟩),_,rfl,q1⟩
   show some (D.tup (L2.cF (ks.map aw) none (some (a:Int))))=_
   rw[wM,List.map_take]
  ·refine⟨sz3 2,_,ag,by rw[List.length_map,sizeLine_eq];omega,?_⟩
   rw[ay]
   generalize hf:(List.range ks.length).filter (fun k=>!(((ks.take k).map aw).any fun d=>eqD d (aw (ks.getD k []))))=ix
   have hix:∀ a∈ix,a<ks.length:=fun a ha=>by
    rw[<-hf]at ha
    exact List.mem_range.mp (List.mem_filter.mp ha).1
   have hixl:ix.length<=ks.length:=by
    rw[<-hf]
    refine Nat.le_trans (List.length_filter_le _ _) ?_
    rw[List.length_range];exact Nat.le_refl _
   refine k' _ _ ⟨_,_,l5,ents++[(wd,ix.map fun k=>ks.getD k [])],rfl,?_,hP5,?_,fun e he'=>?_⟩
   ·simp[iG,bU,Function.comp_def]
   ·rw[List.map_append,hw,List.take_add_one,hwd];rfl
   ·rcases List.mem_append.mp he' with h|h
    ·exact he e h
    ·rw[List.mem_singleton.mp h]
     refine⟨by rw[List.length_map];omega,fun r hr'=>?_⟩
     obtain⟨a,ha,rfl⟩:=List.mem_map.mp hr'
     have:=hix a ha
     refine hkr _ ?_
     rw[List.getD_eq_getElem?_getD,List.getElem?_eq_getElem this]
     exact List.getElem_mem _
 ·rintro Δ M' ⟨x7,x8,l3,ents,rfl,rfl,hP3,hw,he⟩
  rw[List.length_map,List.take_length]at hw
  walk_at "rd"
  refine⟨sz3 3,al M p (.lst l3),oj (by rw[ao (Ne.symm hpq)];exact hMq),k ord goal ents l3 ho hw he hP3⟩
end
section
variable {P:Program} {w:World} {K:PySem.W.Frag} {mg:Str->Option Value} {base:Heap}
theorem zP {w:Str} (h:du w):fh w:=by
 obtain⟨h1,h2,h3⟩:=h
 have e:w.length=w.cps.toList.length:=by show w.cps.size=_;simp
 refine⟨by omega,by omega,fun c hc=>?_⟩
 have:=h3 c hc
 unfold lP at this
 unfold eC
 rw[List.mem_range'_1]
 omega
theorem jf:∀ {ds:List D},(∀ d∈ds,eqD d d=true)->dH ds ds=true
 |[],_=>by simp[dH]
 |d::ds,h=>by simp[dH,h d (.head _),jf fun e he=>h e (.tail _ he)]
theorem xG {r:List Str}:eqD (wsD r) (wsD r)=true:=by
 show dH (r.map D.str) (r.map D.str)=true
 refine jf fun d hd=>?_
 obtain⟨x,_,rfl⟩:=List.mem_map.mp hd
 simp[eqD]
theorem A3 {r:List Str} {n:Nat}:dLe (wsD r) (n+1)=true:=by
 show bq (r.map D.str) n=true
 rw[gf]
 intro d hd
 obtain⟨x,_,rfl⟩:=List.mem_map.mp hd
 cases n<;>rfl
theorem sH {rs:List (List Str)}:neF (.lst (rs.map wsD)) (.lst (rs.map wsD))=some (.bl false):=by
 have h1:dLe (.lst (rs.map wsD)) 60=true:=by
  show bq (rs.map wsD) 59=true
  rw[gf]
  intro d hd
  obtain⟨x,_,rfl⟩:=List.mem_map.mp hd
  exact A3
 have h2:eqD (.lst (rs.map wsD)) (.lst (rs.map wsD))=true:=by
  show dH (rs.map wsD) (rs.map wsD)=true
  refine jf fun d hd=>?_
  obtain⟨x,_,rfl⟩:=List.mem_map.mp hd
  exact xG
 unfold neF
 rw[if_pos ⟨h1,h1⟩,h2];rfl
theorem sL {xs:List Str}:∀ {n:Nat} {r:List Str},r∈aB xs n->∀ w∈r,w∈xs
 |0,r,h,w,hw=>by simp[aB]at h;rw[h]at hw;cases hw
 |n+1,r,h,w,hw=>by
  simp only[aB,List.mem_flatMap,List.mem_map]at h
  obtain⟨q,hq,x,hx,rfl⟩:=h
  rcases List.mem_append.mp hw with c|c
  ·exact sL hq w c
  ·rw[List.mem_singleton.mp c];exact hx
theorem sv {rs:List (List Str)}:dF (rs.map wsD)=true:=by
 rw[ma]
 intro d hd
 obtain⟨r,_,rfl⟩:=List.mem_map.mp hd
 show dF (r.map D.str)=true
 rw[ma]
 intro d hd
 obtain⟨x,_,rfl⟩:=List.mem_map.mp hd
 rfl
def S_law:SpD:=fun ds M R=>∃ ns:List Int,ds=[.scr (ns.map .int)]/\M=noM/\ns.length<=63/\∀ M',R (.bl true) M'
theorem AA {f:Addr} {fd:FuncData} (F:Fun K "law" "law" pr f fd) (T:Txt K mg) (g_l_pool:FnD P w K mg base "_law_pool" 1 1 pA) (g_l_some_words:FnD P w K mg base "_law_some_words" 3 2 fR) (g_l_lexicon:FnD P w K mg base "_law_lexicon" 3 4 jV) (g_l_cell:FnD P w K mg base "_law_cell" 1 2 qd) (g_p_sentences_of:FnD P w K mg base "sentences_of" 12 2 cB) (g_l_draw:FnD P w K mg base "_law_draw" 1 2 cT) (g_l_rows:FnD P w K mg base "_law_rows" 1 2 pi) (g_l_is_sentence:FnD P w K mg base "_law_is_sentence" 4 2 fG):aK P w K mg base CX0 13 f fd ["_law_script"] (spD K 1 S_law):=by
 have nd:=vM.nd
 refine F.okQ rfl vM (fun cdv A outer s H E hr=>⟨_,(aj (bQ PassesOwn.never rfl (bz rfl T.b_range (ab ak ac)) (aE (i:=1) nd rfl (Or.inl rfl)) (aj (aF (i:=2) nd rfl (Or.inl rfl) (qc g_l_pool (hr.mono (by decide)) rfl (ab (qc g_l_cell (hr.mono (by decide)) rfl (ab (aa 0) (ab (aa 1) ac))) ac)))
   (mT (aj (aF (i:=3) nd rfl (Or.inl rfl) (qc g_l_some_words (hr.mono (by decide)) rfl (ab (aa 2) (ab (aI aH ak (qc g_l_draw (hr.mono (by decide)) rfl (ab (aa 2) (ab ak ac)))) ac))))
   (mT (aj (aF (i:=4) nd rfl (Or.inl rfl) (qc g_l_some_words (hr.mono (by decide)) rfl (ab (aa 2) (ab (aI aH ak (qc g_l_draw (hr.mono (by decide)) rfl (ab (aa 2) (ab ak ac)))) ac))))
   (mT (aj (aF (i:=5) nd rfl (Or.inr rfl) (qc g_l_lexicon (hr.mono (by decide)) rfl (ab (aa 2) (ab (aa 3) (ab (aa 4) (ab ak ac))))))
   (mT (aj (aF (i:=6) nd rfl (Or.inl rfl) (aO aP (jc (ab ak (ab (aI aH ak (cN EK rfl T.b_int (by kernel_rfl) (ab (jO (sn hr.units) (qc g_l_draw (hr.mono (by decide)) rfl (ab (aa 2) (ab ak ac))) ak (by first|exact av _ (by decide) (by decide)|rfl)) ac))) (ab ak ac)))) (aI vf (aN dR rfl T.b_len (by kernel_rfl) (ab (aa 4) ac)) ak) (fun _ _=>rfl)))
   (mT (am (bQ PassesOwn.never rfl (bz rfl T.b_range (ab (aa 6) ac)) (aE (i:=7) nd rfl (Or.inl rfl)) (aj (zn (i:=8) nd rfl rfl rfl (ms:=[false,false,false,false,false,true,false,false,false,false]) (extra:=["_law_row"]) (aG rfl (show aQ (ae pr) qG _ _=true from by decide +kernel)) rfl (bn (qc g_l_rows (hr.mono (by decide)) rfl (ab (aa 4) (ab (aa 7) ac)))) (aL (i:=10) (show(qG++_).Nodup from by decide +kernel) rfl rfl) (fun _ _ _ _=>(jp (hJ (qc g_l_is_sentence (hr.mono (by decide)) rfl (ab (aa 5) (ab (aa 10) ac)))))) (fun _ _ _ _=>(aa 10)))
   (aj (aF (i:=9) nd rfl (Or.inl rfl) (qc g_p_sentences_of (hr.mono (by decide)) rfl (ab (aa 5) (ab (aa 7) ac))))
   (aj (eh (vL (wJ (rD (hJ (vh (Tn:="list") (by decide) rfl T.b_isinstance rfl T.b_list (by kernel_rfl) (aa 9)))) (wJ (bt (BP hr.units) (aa 9) (aa 8) (by first|exact av _ (by decide) (by decide)|rfl)) (vH (rD (hJ (Df (aN (Ac rfl) rfl T.b_all (by kernel_rfl) (ab (iB (ms:=[false,false,false,false,false,false,false,false,false,false]) (extra:=["_law_row"]) (aG rfl (show aQ (ae pr) qG _ _=true from by decide +kernel)) rfl (bn (aa 9)) (aL (i:=10) (show(qG++_).Nodup from by decide +kernel) rfl rfl) (fun _ _ _ _=>cg) (fun _ _ _ _=>(vh (Tn:="tuple") (by decide) rfl T.b_isinstance rfl T.b_tuple (by kernel_rfl) (aa 10)))) ac))))))))) (am (aM uF)) cw)
   (aj (gW (kC (aa 9) (bV ac)))
   (am (eh (bt (BP hr.units) (qc g_p_sentences_of (hr.mono (by decide)) rfl (ab (aa 5) (ab (aa 7) ac))) (aa 8) (by first|exact av _ (by decide) (by decide)|rfl)) (am (aM uF)) cw)))))))))))))))))))
   (am (aM uF))),fun ds M R hl hS=>?_⟩)
 obtain⟨ns,rfl,rfl,hn,k⟩:=hS
 walk_at "rd"
 refine aD (fun i Δ M'=>∃ x1 x2 x3 x4 x5 x6 x7 x8 x9,Δ=[some (D.scr (ns.map D.int)),x1,x2,x3,x4,x5,x6,x7,x8,x9]/\(∀ a k,M' a=some k->noC k=true)) ⟨_,_,_,_,_,_,_,_,_,rfl,fun a k h=>absurd h (by simp[noM])⟩ ?_ ?_
 ·rintro i d Δ M' X hd ⟨x1,x2,x3,x4,x5,x6,x7,x8,x9,rfl,hM⟩ k'
  obtain⟨hi,rfl⟩:=cc hd
  rw[Int.zero_add]
  simp only[bc]
  walk_at "rd"
  refine⟨ns,i,rfl,by omega,by omega,_,rfl,fun p l hp hP=>gD ?_⟩
  have hMp:∀ l',aT l'->∀ a k,al M' p (.lst l') a=some k->noC k=true:=fun l' h' a k e=>by
   by_cases c:a=p
   ·rw[c,ag]at e;cases e;exact nr h'
   ·rw[ao c]at e;exact hM a k e
  walk_at "rd"
  refine⟨p,l,2,rfl,ag,hP,by omega,by omega,fun v l1 h0 h1 hP1=>?_⟩
  rw[ay]
  refine⟨.int (1+v),rfl,p,l1,_,rfl,ag,hP1,by omega,by omega,fun a k e _=>hMp l1 hP1 a k e,fun marks l2 hm1 hm2 hm3 hP2=>gD ?_⟩
  rw[ay]
  have hml:1<=marks.length/\marks.length<=2:=by omega
  walk_at "rd"
  refine⟨p,l2,3,rfl,ag,hP2,by omega,by omega,fun v2 l3 a0 a1 hP3=>?_⟩
  rw[ay]
  refine⟨.int (1+v2),rfl,p,l3,_,rfl,ag,hP3,by omega,by omega,fun a k e _=>hMp l3 hP3 a k e,fun words l4 hw1 hw2 hw3 hP4=>gD ?_⟩
  rw[ay]
  have hwl:1<=words.length/\words.length<=3:=by omega
  walk_at "rd"
  refine⟨p,l4,marks,words,3,rfl,ag,hP4,fun z=>by rw[z]at hml;simp at hml,by omega,by omega,by omega,by omega,fun ord goal ents l5 ho hents he hP5=>gD ?_⟩
  rw[ay]
  walk_at "rd"
  refine⟨p,l5,4,rfl,ag,hP5,by omega,by omega,fun v3 l6 b0 b1 hP6=>?_⟩
  rw[ay]
  obtain⟨c,hc,ec⟩:∃ c:Nat,c<=1/\L2.C4 (.bl (eqD (D.int v3) (D.int 1)))=some (.int (c:Int)):=by
   cases eqD (D.int v3) (D.int 1)
   ·exact⟨0,by omega,rfl⟩
   ·exact⟨1,by omega,rfl⟩
  obtain⟨most,hmost,em⟩:∃ most:Nat,most<=5/\atI [D.int 5,D.int (4+(c:Int)),D.int 3] ((words.map D.str).length-1)=some (.int (most:Int)):=by
   rw[List.length_map]
   rcases(show words.length=1∨words.length=2∨words.length=3 by omega)with h|h|h
   ·rw[h];exact⟨5,by omega,rfl⟩
   ·rw[h];exact⟨4+c,by omega,by rw[Int.natCast_add];rfl⟩
   ·rw[h];exact⟨3,by omega,rfl⟩
  refine⟨_,rfl,_,ec,.int (4+(c:Int)),rfl,sz3 3,_,em,gD ?_⟩
  walk_at "rd"
  refine⟨by omega,by omega,?_⟩
  rw[Int.toNat_natCast]
  refine aD (fun n Δ M2=>∃ x7 x8 x9,Δ=[some (D.scr (ns.map D.int)),some (D.int (i:Int)),some (D.ref p),some (D.lst (marks.map D.str)),some (D.lst (words.map D.str)),some (cP ord goal ents),some (D.int (most:Int)),x7,x8,x9]/\∀ a k,M2 a=some k->noC k=true) ⟨_,_,_,rfl,hMp l6 hP6⟩ ?_ ?_
  ·rintro n d Δ M2 X2 hd2 ⟨y7,y8,y9,rfl,hM2⟩ k2
   obtain⟨hn',rfl⟩:=cc hd2
   rw[Int.zero_add]
   simp only[bc]
   walk_at "rd"
   generalize hf:(fun r=>((chR ents r).map fun s=>W (rel ord) (s++[(goal,1)])).sum)=f
   have hT:∀ r∈aB (aR words) n,r.length=n/\∀ w∈r,w∈ents.map (·.1)/\fh w:=fun r hr'=>⟨iz hr',fun w hw=>by
    have h1:w∈words:=((dv words).mem_iff).mp (sL hr' w hw)
    exact⟨by rw[hents];exact h1,zP (hw1 w h1)⟩⟩
   have hel:ents.length<=8:=by
    have:=congrArg List.length hents
    rw[List.length_map]at this
    omega
   have hlex:∀ r∈aB (aR (ents.map (·.1))) n,pM ord goal ents r ((f r:Nat):Int):=fun r hr'=>by
    rw[hents]at hr'
    obtain⟨q1,q2⟩:=hT r hr'
    rw[<-hf]
    exact Bq (K:=2) (B:=3) he (by omega) (by omega) (by omega) (by rw[q1];omega) (by rw[q1];omega) hel (by omega) q2
   refine⟨words,n,rfl,by omega,by omega,_,rfl,fun hz=>⟨hz,?_⟩⟩
   have hc:dI [false,false,false,false,false,true,false,false,false,false] 1 [some (D.scr (ns.map D.int)),some (D.int (i:Int)),some (D.ref p),some (D.lst (marks.map D.str)),some (D.lst (words.map D.str)),some (cP ord goal ents),some (D.int (most:Int)),some (D.int (n:Int)),y8,y9]=[none,none,none,none,none,some (cP ord goal ents),none,none,none,none,none]:=rfl
   rw[hc]
   refine a7 wsD (fun r=>decide (0<f r)) wsD (fun Δ=>∃ x,Δ=[none,none,none,none,none,some (cP ord goal ents),none,none,none,none,x]) _ _ _ ?_ ⟨_,rfl⟩ ?_
   ·rintro r hr' Δ ⟨x,rfl⟩
    obtain⟨q1,q2⟩:=hT r hr'
    refine⟨_,rfl,⟨_,rfl⟩,fun Q1 q=>?_,fun _ Q2 q=>⟨_,rfl,q⟩⟩
    walk_at "rd"
    refine⟨ord,goal,ents,r,rfl,by omega,hel,by rw[hents];exact hw2,he,by omega,_,rfl,?_⟩
    rw[<-hf]at q
    exact q
   rw[List.nil_append]
   have hsame:((aB (aR (ents.map (·.1))) n).filter fun r=>decide (0<((f r:Nat):Int)))=(aB (aR words) n).filter fun r=>decide (0<f r):=by
    rw[hents]
    congr 1
    funext r
    exact decide_eq_decide.mpr (by omega)
   generalize hdu:((aB (aR words) n).filter fun r=>decide (0<f r))=due at *
   refine⟨ord,goal,ents,n,fun r=>((f r:Nat):Int),rfl,by omega,hel,hlex,fun a ha=>?_⟩
   rw[hsame]
   refine⟨true,by rw[gz ag];rfl,?_⟩
   simp only[Bool.not_true,Bool.false_eq_true,if_false]
   refine⟨.bl false,by rw[gz ag];exact sH,false,rfl,?_⟩
   simp only[Bool.false_eq_true,if_false]
   have hduel:due.length<=10000:=by
    rw[<-hdu]
    refine Nat.le_trans (List.length_filter_le _ _) ?_
    have h1:=iJ (xs:=aR words) (by rw[(dv words).length_eq];omega) n
    have h2:8 ^ n<=8 ^ 4:=Nat.pow_le_pow_right (by decide) (by omega)
    exact Nat.le_trans h1 (Nat.le_trans h2 (by decide))
   have bG:∀ (M1:DH),M1=al M2 a (.lst (due.map wsD))->cB [cP ord goal ents,.int (n:Int)] (al M1 a (.lst (due.map wsD++[D.tup []]))) fun x M1=>∃ z,neF (rdM M1 x) (D.lst (due.map wsD))=some z/\∃ k,z=D.bl k/\if k=true then R (D.bl false) M1 else X2 [some (D.scr (ns.map D.int)),some (D.int (i:Int)),some (D.ref p),some (D.lst (marks.map D.str)),some (D.lst (words.map D.str)),some (cP ord goal ents),some (D.int (most:Int)),some (D.int (n:Int)),some (D.lst (due.map wsD)),some (D.ref a)] M1:=fun M1 hM1=>by
    subst hM1
    rw[ay]
    refine⟨ord,goal,ents,n,fun r=>((f r:Nat):Int),rfl,by omega,hel,hlex,fun b hb=>?_⟩
    rw[hsame]
    refine⟨.bl false,by rw[gz ag];exact sH,false,rfl,?_⟩
    simp only[Bool.false_eq_true,if_false]
    refine k2 _ _ ⟨_,_,_,rfl,fun c kk e=>?_⟩
    by_cases c1:c=b
    ·rw[c1,ag]at e;cases e;exact sv
    ·rw[ao c1]at e
     by_cases c2:c=a
     ·rw[c2,ag]at e;cases e
      show dF (due.map wsD++[D.tup []])=true
      rw[jP,sv];rfl
     ·rw[ao c2]at e;exact hM2 c kk e
   simp only[ww,List.map_cons,List.map_nil,Option.map_some]
   rw[gz (ds:=due.map wsD) ag]
   walk_at "rd"
   refine fun hz2=>⟨hz2,?_⟩
   refine a7 wsD (fun _=>true) (fun _=>D.bl true) (fun Δ=>∃ x,Δ=[none,none,none,none,none,none,none,none,none,none,x]) _ _ _ ?_ ⟨none,rfl⟩ ?_
   ·rintro r hr' Δ ⟨x,rfl⟩
    exact⟨_,rfl,⟨_,rfl⟩,fun Q1 q=>q,fun _ Q2 q=>⟨_,rfl,_,rfl,q⟩⟩
   rw[List.nil_append,List.filter_eq_self.mpr (fun _ _=>rfl)]
   refine⟨_,nq _,rfl,rfl,true,rfl,?_⟩
   simp only[Bool.not_true,Bool.false_eq_true,if_false]
   refine⟨Nat.zero_le _,by rw[List.length_map,sizeLine_eq];omega,?_⟩
   have:=bG _ rfl
   rw[ay]at this
   exact this
  ·rintro Δ M2 ⟨y7,y8,y9,rfl,hM2⟩
   exact k' _ _ ⟨_,_,_,_,_,_,_,_,_,rfl,hM2⟩
 ·rintro Δ M' ⟨x1,x2,x3,x4,x5,x6,x7,x8,x9,rfl,hM⟩
  walk_at "rd"
  exact k _
end
theorem Ej:D6 S_law:=fun ns R hn hR=>⟨ns,rfl,rfl,hn,hR⟩
theorem AC {l:PySem.W.OpenLaw} {w:World} {K:PySem.W.Frag} {h:Heap} {mg:Str->Option Value} {fa:Addr} (X:K.In h) (G:h.Ns mainGlobals mg) (hfa:mg "law"=some (.ref fa))
  {C:Addr}
  {f0:Addr} {d0:FuncData}
  {f1:Addr} {d1:FuncData}
  {f2:Addr} {d2:FuncData}
  {f3:Addr} {d3:FuncData}
  {f4:Addr} {d4:FuncData}
  {f5:Addr} {d5:FuncData}
  {f6:Addr} {d6:FuncData}
  {f7:Addr} {d7:FuncData}
  {f8:Addr} {d8:FuncData}
  {f9:Addr} {d9:FuncData}
  {f10:Addr} {d10:FuncData}
  {f11:Addr} {d11:FuncData}
  {f12:Addr} {d12:FuncData}
  {f13:Addr} {d13:FuncData}
  {f14:Addr} {d14:FuncData}
  {f15:Addr} {d15:FuncData}
  {f16:Addr} {d16:FuncData}
  {f17:Addr} {d17:FuncData}
  {f18:Addr} {d18:FuncData}
  {f19:Addr} {d19:FuncData}
  {f20:Addr} {d20:FuncData}
  {f21:Addr} {d21:FuncData}
  {f22:Addr} {d22:FuncData}
  {f23:Addr} {d23:FuncData}
  {f24:Addr} {d24:FuncData}
  {f25:Addr} {d25:FuncData}
  {f26:Addr} {d26:FuncData}
  {f27:Addr} {d27:FuncData}
  {f28:Addr} {d28:FuncData}
  {f29:Addr} {d29:FuncData}
  {f30:Addr} {d30:FuncData}
  {f31:Addr} {d31:FuncData}
  {f32:Addr} {d32:FuncData}
  {f33:Addr} {d33:FuncData}
  {f34:Addr} {d34:FuncData}
  {f35:Addr} {d35:FuncData}
  {f36:Addr} {d36:FuncData}
  {f37:Addr} {d37:FuncData}
  {f38:Addr} {d38:FuncData}
  {ad_START:Addr} {nn_START:Nat} {ss_START:Array (Option Value)} {tk_START0 tk_START1 tk_START2:Tok}
  {tk_SMALL_LETTERS:Tok}
  {tk_MOST_LETTERS:Tok}
  (x0:bu K "is_short_word" bM f0 d0)
  (x1:bu K "tuples_of" cL f1 d1)
  (x2:bu K "reached_from" cD f2 d2)
  (x3:bu K "words_of" df f3 d3)
  (x4:bu K "goals_wish" dn f4 d4)
  (x5:bu K "places_of" cJ f5 d5)
  (x6:bu K "last_place" dJ f6 d6)
  (x7:bu K "sign_behind" cY f7 d7)
  (x8:bu K "next_place" dA f8 d8)
  (x9:bu K "begins_behind" bN f9 d9)
  (x10:bu K "counts_from" cV f10 d10)
  (x11:bu K "count_of_all" cI f11 d11)
  (x12:bu K "_law_cell" lU f12 d12)
  (x13:bu K "_law_pool" kK f13 d13)
  (x14:bu K "_law_draw" ly f14 d14)
  (x15:bu K "_law_at_most" er f15 d15)
  (x16:bu K "_law_rows" i5 f16 d16)
  (x17:bu K "at_most" gj f17 d17)
  (x18:bu K "has_word" fm f18 d18)
  (x19:bu K "_law_word" eR f19 d19)
  (x20:bu K "_law_order" jx f20 d20)
  (x21:bu K "_law_kinds" jo f21 d21)
  (x22:bu K "_law_cancels" fX f22 d22)
  (x23:bu K "mark_leads" dO f23 d23)
  (x24:bu K "kinds_of" ft f24 d24)
  (x25:bu K "_law_some_words" dL f25 d25)
  (x26:bu K "_law_lexicon" dY f26 d26)
  (x27:bu K "_law_wholly" gY f27 d27)
  (x28:bu K "cancel" g6 f28 d28)
  (x29:bu K "kinds_by_number" b7 f29 d29)
  (x30:bu K "_law_is_sentence" bF f30 d30)
  (x31:bu K "are_joined" dB f31 d31)
  (x32:bu K "first_steps" bI f32 d32)
  (m0:PySem.W.nsIn K mainGlobals "Chart"=some (some (.ref C))) (m1:PySem.W.makesIn K C=true) (m2:PySem.W.findIn K (.ref C) "__init__"=some (some (.ref f33))) (m3:PySem.W.isFn K (.ref f33)=true) (m4:PySem.W.keepIn K (.ref C)=true)
  (y1:PySem.W.plainGet K C Str.empty=true) (y2:PySem.W.hasDictIn K C=true) (y3:PySem.W.plainOver K C=true) (y4:PySem.W.findIn K (.ref C) "__setattr__"=some (some (.builtin "object.__setattr__")))
  (y_kinds:PySem.W.findIn K (.ref C) "kinds"=some none)
  (y_end:PySem.W.findIn K (.ref C) "end"=some none)
  (y_steps:PySem.W.findIn K (.ref C) "steps"=some none)
  (y_counts:PySem.W.findIn K (.ref C) "counts"=some none)
  (x33:Fun K "__init__" "Chart.__init__" jm f33 d33)
  (x34:bu K "chart_of" fw f34 d34)
  (x35:bu K "many" lu f35 d35)
  (x36:bu K "is_sentence" cZ f36 d36)
  (x37:bu K "sentences_of" bW f37 d37)
  (x38:bu K "law" pr f38 d38)
  (z_isinstance:PySem.W.nsIn K mainGlobals "isinstance"=some none)
  (z_str:PySem.W.nsIn K mainGlobals "str"=some none)
  (z_all:PySem.W.nsIn K mainGlobals "all"=some none)
  (z_len:PySem.W.nsIn K mainGlobals "len"=some none)
  (z_range:PySem.W.nsIn K mainGlobals "range"=some none)
  (z_enumerate:PySem.W.nsIn K mainGlobals "enumerate"=some none)
  (z_max:PySem.W.nsIn K mainGlobals "max"=some none)
  (z_list:PySem.W.nsIn K mainGlobals "list"=some none)
  (z_sorted:PySem.W.nsIn K mainGlobals "sorted"=some none)
  (z_abs:PySem.W.nsIn K mainGlobals "abs"=some none)
  (z_tuple:PySem.W.nsIn K mainGlobals "tuple"=some none)
  (z_any:PySem.W.nsIn K mainGlobals "any"=some none)
  (z_int:PySem.W.nsIn K mainGlobals "int"=some none)
  (z_reversed:PySem.W.nsIn K mainGlobals "reversed"=some none)
  (z_START:PySem.W.nsIn K mainGlobals "START"=some (some (.ref ad_START))) (w_START:K.lookup ad_START=some ⟨.type "tuple",none,.seq #[.int (-1) tk_START0,.int (0) tk_START1,.int (0) tk_START2] nn_START,ss_START⟩)
  (z_SMALL_LETTERS:PySem.W.nsIn K mainGlobals "SMALL_LETTERS"=some (some (.str "abcdefghijklmnopqrstuvwxyz" tk_SMALL_LETTERS)))
  (z_MOST_LETTERS:PySem.W.nsIn K mainGlobals "MOST_LETTERS"=some (some (.int 8 tk_MOST_LETTERS)))
 :∃ fd:FuncData,(∀ (s:Shared) (v:Value),BindsTo s fd ⟨[v],[]⟩ [("_law_script",v)])/\∀ base:Heap,K.In base->base.Ns mainGlobals mg->aK l.prog w K mg base CX0 13 fa fd ["_law_script"] (spD K 1 S_law):=by
 have T:Txt K mg:=⟨⟨_,PySem.W.mg_of X G z_START,.inr ⟨_,_,_,w_START,⟨rfl,rfl⟩,rfl,szB 3,(.cons ⟨_,rfl⟩ (.cons ⟨_,rfl⟩ (.cons ⟨_,rfl⟩ .nil)))⟩⟩,PySem.W.mg_none_of X G z_isinstance,PySem.W.mg_none_of X G z_str,PySem.W.mg_none_of X G z_all,PySem.W.mg_none_of X G z_len,PySem.W.mg_none_of X G z_range,PySem.W.mg_none_of X G z_enumerate,PySem.W.mg_none_of X G z_max,PySem.W.mg_none_of X G z_list,PySem.W.mg_none_of X G z_sorted,PySem.W.mg_none_of X G z_abs,PySem.W.mg_none_of X G z_tuple,PySem.W.mg_none_of X G z_any,PySem.W.mg_none_of X G z_int,PySem.W.mg_none_of X G z_reversed,⟨_,PySem.W.mg_of X G z_SMALL_LETTERS⟩,⟨_,PySem.W.mg_of X G z_MOST_LETTERS⟩⟩
 have Z:iY K C:=⟨⟨y1,y2,y3,y4⟩,y_kinds,y_end,y_steps,y_counts⟩
 refine AJ X G hfa x38 (fun _ _ _ _ _ _ _=>rfl) fun base=>?_
 have g_p_is_short_word:=fg X G x0 (gU (P:=l.prog) (w:=w) (base:=base) x0.F T ) (bd1 x0.F fun _ _ _ _ _ _ _=>rfl)
 have g_p_tuples_of:=fg X G x1 (k8 (P:=l.prog) (w:=w) (base:=base) x1.F T ) (bd2 x1.F fun _ _ _ _ _ _ _ _=>rfl)
 have g_p_reached_from:=fg X G x2 (iX (P:=l.prog) (w:=w) (base:=base) x2.F T ) (bd2 x2.F fun _ _ _ _ _ _ _ _=>rfl)
 have g_p_words_of:=fg X G x3 (mm (P:=l.prog) (w:=w) (base:=base) x3.F T ) (bd1 x3.F fun _ _ _ _ _ _ _=>rfl)
 have g_p_goals_wish:=fg X G x4 (kj (P:=l.prog) (w:=w) (base:=base) x4.F T ) (bd1 x4.F fun _ _ _ _ _ _ _=>rfl)
 have g_p_places_of:=fg X G x5 (kR (P:=l.prog) (w:=w) (base:=base) x5.F T ) (bd1 x5.F fun _ _ _ _ _ _ _=>rfl)
 have g_p_last_place:=fg X G x6 (ka (P:=l.prog) (w:=w) (base:=base) x6.F T ) (bd1 x6.F fun _ _ _ _ _ _ _=>rfl)
 have g_p_sign_behind:=fg X G x7 (ju (P:=l.prog) (w:=w) (base:=base) x7.F T ) (bd2 x7.F fun _ _ _ _ _ _ _ _=>rfl)
 have g_p_next_place:=fg X G x8 (j7 (P:=l.prog) (w:=w) (base:=base) x8.F T ) (bd1 x8.F fun _ _ _ _ _ _ _=>rfl)
 have g_p_begins_behind:=fg X G x9 (ig (P:=l.prog) (w:=w) (base:=base) x9.F T ) (bd2 x9.F fun _ _ _ _ _ _ _ _=>rfl)
 have g_p_counts_from:=fg X G x10 (jy (P:=l.prog) (w:=w) (base:=base) x10.F T Z ) (bd2 x10.F fun _ _ _ _ _ _ _ _=>rfl)
 have g_p_count_of_all:=fg X G x11 (ja (P:=l.prog) (w:=w) (base:=base) x11.F T Z ) (bd1 x11.F fun _ _ _ _ _ _ _=>rfl)
 have g_l_cell:=fg X G x12 (uw (P:=l.prog) (w:=w) (base:=base) x12.F T ) (bd2 x12.F fun _ _ _ _ _ _ _ _=>rfl)
 have g_l_pool:=fg X G x13 (uU (P:=l.prog) (w:=w) (base:=base) x13.F T ) (bd1 x13.F fun _ _ _ _ _ _ _=>rfl)
 have g_l_draw:=fg X G x14 (uh (P:=l.prog) (w:=w) (base:=base) x14.F T ) (bd2 x14.F fun _ _ _ _ _ _ _ _=>rfl)
 have g_l_at_most:=fg X G x15 (nV (P:=l.prog) (w:=w) (base:=base) x15.F T ) (bd3 x15.F fun _ _ _ _ _ _ _ _ _=>rfl)
 have g_l_rows:=fg X G x16 (uf (P:=l.prog) (w:=w) (base:=base) x16.F T ) (bd2 x16.F fun _ _ _ _ _ _ _ _=>rfl)
 have g_p_at_most:=fg X G x17 (oO (P:=l.prog) (w:=w) (base:=base) x17.F T g_p_reached_from) (bd3 x17.F fun _ _ _ _ _ _ _ _ _=>rfl)
 have g_p_has_word:=fg X G x18 (mD (P:=l.prog) (w:=w) (base:=base) x18.F T g_p_is_short_word g_p_words_of) (bd2 x18.F fun _ _ _ _ _ _ _ _=>rfl)
 have g_l_word:=fg X G x19 (uD (P:=l.prog) (w:=w) (base:=base) x19.F T g_l_draw) (bd2 x19.F fun _ _ _ _ _ _ _ _=>rfl)
 have g_l_order:=fg X G x20 (qO (P:=l.prog) (w:=w) (base:=base) x20.F T g_l_draw) (bd3 x20.F fun _ _ _ _ _ _ _ _ _=>rfl)
 have g_l_kinds:=fg X G x21 (rE (P:=l.prog) (w:=w) (base:=base) x21.F T g_l_draw) (bd5 x21.F fun _ _ _ _ _ _ _ _ _ _ _=>rfl)
 have g_l_cancels:=fg X G x22 (nX (P:=l.prog) (w:=w) (base:=base) x22.F T g_l_at_most) (bd3 x22.F fun _ _ _ _ _ _ _ _ _=>rfl)
 have g_p_mark_leads:=fg X G x23 (kl (P:=l.prog) (w:=w) (base:=base) x23.F T g_p_at_most) (bd4 x23.F fun _ _ _ _ _ _ _ _ _ _=>rfl)
 have g_p_kinds_of:=fg X G x24 (mG (P:=l.prog) (w:=w) (base:=base) x24.F T g_p_has_word g_p_words_of) (bd2 x24.F fun _ _ _ _ _ _ _ _=>rfl)
 have g_l_some_words:=fg X G x25 (j9 (P:=l.prog) (w:=w) (base:=base) x25.F T g_l_word) (bd2 x25.F fun _ _ _ _ _ _ _ _=>rfl)
 have g_l_lexicon:=fg X G x26 (o1 (P:=l.prog) (w:=w) (base:=base) x26.F T g_l_order g_l_draw g_l_kinds) (bd4 x26.F fun _ _ _ _ _ _ _ _ _ _=>rfl)
 have g_l_wholly:=fg X G x27 (qm (P:=l.prog) (w:=w) (base:=base) x27.F T g_l_cancels) (bd2 x27.F fun _ _ _ _ _ _ _ _=>rfl)
 have g_p_cancel:=fg X G x28 (qt (P:=l.prog) (w:=w) (base:=base) x28.F T g_p_mark_leads) (bd3 x28.F fun _ _ _ _ _ _ _ _ _=>rfl)
 have g_p_kinds_by_number:=fg X G x29 (gk (P:=l.prog) (w:=w) (base:=base) x29.F T g_p_kinds_of g_p_goals_wish) (bd2 x29.F fun _ _ _ _ _ _ _ _=>rfl)
 have g_l_is_sentence:=fg X G x30 (jg (P:=l.prog) (w:=w) (base:=base) x30.F T g_l_wholly) (bd2 x30.F fun _ _ _ _ _ _ _ _=>rfl)
 have g_p_are_joined:=fg X G x31 (kf (P:=l.prog) (w:=w) (base:=base) x31.F T g_p_cancel) (bd3 x31.F fun _ _ _ _ _ _ _ _ _=>rfl)
 have g_p_first_steps:=fg X G x32 (jD (P:=l.prog) (w:=w) (base:=base) x32.F T Z g_p_sign_behind g_p_next_place g_p_are_joined g_p_begins_behind) (bd3 x32.F fun _ _ _ _ _ _ _ _ _=>rfl)
 have g_p_Chart:MkD l.prog w K mg base "Chart" C 7 3 (jG C):=⟨_,_,_,⟨m1,m2,m3,m4⟩,qT x33 T Z g_p_last_place g_p_places_of g_p_first_steps g_p_counts_from,PySem.W.mg_of X G m0,bd3 x33 fun _ _ _ _ _ _ _ _ _=>rfl⟩
 have g_p_chart_of:=fg X G x34 (mC (P:=l.prog) (w:=w) (base:=base) x34.F T g_p_Chart g_p_kinds_by_number) (bd2 x34.F fun _ _ _ _ _ _ _ _=>rfl)
 have g_p_many:=fg X G x35 (ux (P:=l.prog) (w:=w) (base:=base) x35.F T g_p_count_of_all g_p_chart_of) (bd2 x35.F fun _ _ _ _ _ _ _ _=>rfl)
 have g_p_is_sentence:=fg X G x36 (jB (P:=l.prog) (w:=w) (base:=base) x36.F T g_p_many) (bd2 x36.F fun _ _ _ _ _ _ _ _=>rfl)
 have g_p_sentences_of:=fg X G x37 (iy (P:=l.prog) (w:=w) (base:=base) x37.F T g_p_tuples_of g_p_is_sentence g_p_words_of) (bd2 x37.F fun _ _ _ _ _ _ _ _=>rfl)
 exact AA x38.F T g_l_pool g_l_some_words g_l_lexicon g_l_cell g_p_sentences_of g_l_draw g_l_rows g_l_is_sentence
end My
namespace PySem.W.Fast
theorem tw10121774452374811679:True:=⟨⟩
theorem tw1022913074960244986:True:=⟨⟩
theorem tw10268821276985054414:True:=⟨⟩
theorem tw10309918212576125767:True:=⟨⟩
theorem tw10333342786220956940:True:=⟨⟩
theorem tw10375442919830430436:True:=⟨⟩
theorem tw10410021326088960591:True:=⟨⟩
theorem tw10413876629958358629:True:=⟨⟩
theorem tw10425953633296043126:True:=⟨⟩
theorem tw10465304493578915559:True:=⟨⟩
theorem tw10527933473091506963:True:=⟨⟩
theorem tw10574581403929407812:True:=⟨⟩
theorem tw10604019938375517035:True:=⟨⟩
theorem tw10628152649411472121:True:=⟨⟩
theorem tw10648665556742004677:True:=⟨⟩
theorem tw10710337761142265819:True:=⟨⟩
theorem tw10713113201115830076:True:=⟨⟩
theorem tw10736267466998998043:True:=⟨⟩
theorem tw10823333348801257269:True:=⟨⟩
theorem tw10863633768694287372:True:=⟨⟩
theorem tw10960583011251006357:True:=⟨⟩
theorem tw11035723847316385766:True:=⟨⟩
theorem tw11041635650865778528:True:=⟨⟩
theorem tw11082408131701261933:True:=⟨⟩
theorem tw11087282365868790181:True:=⟨⟩
theorem tw11162172810477431452:True:=⟨⟩
theorem tw11193155566260788637:True:=⟨⟩
theorem tw11293708723878189621:True:=⟨⟩
theorem tw11323181966559584231:True:=⟨⟩
theorem tw11327894363867972803:True:=⟨⟩
theorem tw11366442818798877041:True:=⟨⟩
theorem tw11507878403043141281:True:=⟨⟩
theorem tw11541062698169931314:True:=⟨⟩
theorem tw11562707877359266519:True:=⟨⟩
theorem tw11673304898967777609:True:=⟨⟩
theorem tw117584537265481217:True:=⟨⟩
theorem tw1179016706035386370:True:=⟨⟩
theorem tw11888159775505744337:True:=⟨⟩
theorem tw11958090570113592205:True:=⟨⟩
theorem tw11978921806949963538:True:=⟨⟩
theorem tw12107482698999066838:True:=⟨⟩
theorem tw12112012063140406199:True:=⟨⟩
theorem tw12120762758145349804:True:=⟨⟩
theorem tw12150781344788973598:True:=⟨⟩
theorem tw12195446501767072868:True:=⟨⟩
theorem tw12227791142909220066:True:=⟨⟩
theorem tw12292685480134629850:True:=⟨⟩
theorem tw1254029102662448216:True:=⟨⟩
theorem tw12548406861914809018:True:=⟨⟩
theorem tw12576248287789534879:True:=⟨⟩
theorem tw12605979259348670634:True:=⟨⟩
theorem tw12700742500606477501:True:=⟨⟩
theorem tw12743794085110764726:True:=⟨⟩
theorem tw12824936034111596259:True:=⟨⟩
theorem tw12953544488621749618:True:=⟨⟩
theorem tw12968146515781367114:True:=⟨⟩
theorem tw13021792705436224163:True:=⟨⟩
theorem tw13078984200144876994:True:=⟨⟩
theorem tw13130004435947868978:True:=⟨⟩
theorem tw13241008950535182348:True:=⟨⟩
theorem tw13258124689435859293:True:=⟨⟩
theorem tw13261670974295180958:True:=⟨⟩
theorem tw13335934542982544034:True:=⟨⟩
theorem tw13474977321560016250:True:=⟨⟩
theorem tw13479688379711652521:True:=⟨⟩
theorem tw13585322282319706672:True:=⟨⟩
theorem tw13606677845997324285:True:=⟨⟩
theorem tw13659687910054687501:True:=⟨⟩
theorem tw13732810001403244140:True:=⟨⟩
theorem tw13777566876730770940:True:=⟨⟩
theorem tw1378181152861244944:True:=⟨⟩
theorem tw13785697487118653477:True:=⟨⟩
theorem tw13807168967415432056:True:=⟨⟩
theorem tw13826650827978952071:True:=⟨⟩
theorem tw13977042972085521768:True:=⟨⟩
theorem tw13980214315311551919:True:=⟨⟩
theorem tw1398728824359138108:True:=⟨⟩
theorem tw14051868664306916307:True:=⟨⟩
theorem tw142174019726133028:True:=⟨⟩
theorem tw14341458903954724537:True:=⟨⟩
theorem tw14473403714575627552:True:=⟨⟩
theorem tw14551509900936717566:True:=⟨⟩
theorem tw1462323783619212851:True:=⟨⟩
theorem tw14664206285915920319:True:=⟨⟩
theorem tw14676488800541380778:True:=⟨⟩
theorem tw14717977965292453851:True:=⟨⟩
theorem tw14767427209559703074:True:=⟨⟩
theorem tw14913553107410401607:True:=⟨⟩
theorem tw14943111682185982358:True:=⟨⟩
theorem tw14948023088087820717:True:=⟨⟩
theorem tw15015891000479818493:True:=⟨⟩
theorem tw15020865495661688934:True:=⟨⟩
theorem tw15107304356905991404:True:=⟨⟩
theorem tw15228696044962361105:True:=⟨⟩
theorem tw15379124348550553292:True:=⟨⟩
theorem tw15434177085034735500:True:=⟨⟩
theorem tw15438570327612028174:True:=⟨⟩
theorem tw15468743803530479601:True:=⟨⟩
theorem tw15515137923238701932:True:=⟨⟩
theorem tw15554549509059785952:True:=⟨⟩
theorem tw15555787343859886619:True:=⟨⟩
theorem tw15619132911145744994:True:=⟨⟩
theorem tw1564233924568313587:True:=⟨⟩
theorem tw15662903884599185521:True:=⟨⟩
theorem tw1569017800674785865:True:=⟨⟩
theorem tw15844208060845323363:True:=⟨⟩
theorem tw15982668399742506507:True:=⟨⟩
theorem tw16017556536482113804:True:=⟨⟩
theorem tw16070347963415119641:True:=⟨⟩
theorem tw1615034316135766459:True:=⟨⟩
theorem tw16153960690614398049:True:=⟨⟩
theorem tw16274159192716518444:True:=⟨⟩
theorem tw16301436782847562730:True:=⟨⟩
theorem tw16334099131422789951:True:=⟨⟩
theorem tw16344032984508571514:True:=⟨⟩
theorem tw1650016496464293024:True:=⟨⟩
theorem tw16543363343160323695:True:=⟨⟩
theorem tw16588489680669023040:True:=⟨⟩
theorem tw16622168616013182142:True:=⟨⟩
theorem tw16796855759684651971:True:=⟨⟩
theorem tw16835292197627281578:True:=⟨⟩
theorem tw17035335771210347500:True:=⟨⟩
theorem tw17109217577840602090:True:=⟨⟩
theorem tw17171608310685238934:True:=⟨⟩
theorem tw17300080797139610704:True:=⟨⟩
theorem tw17313347373698197042:True:=⟨⟩
theorem tw17364438378974033761:True:=⟨⟩
theorem tw174475422118760246:True:=⟨⟩
theorem tw17522420804701273921:True:=⟨⟩
theorem tw17747509454030141574:True:=⟨⟩
theorem tw17748543277609271454:True:=⟨⟩
theorem tw17795747129801236429:True:=⟨⟩
theorem tw1780055188013867893:True:=⟨⟩
theorem tw17801694521551981352:True:=⟨⟩
theorem tw17839221359661646942:True:=⟨⟩
theorem tw17864068254161261426:True:=⟨⟩
theorem tw17961147199823357191:True:=⟨⟩
theorem tw17987317247030461346:True:=⟨⟩
theorem tw18061469495285676398:True:=⟨⟩
theorem tw1820781287570800838:True:=⟨⟩
theorem tw18234008012466780858:True:=⟨⟩
theorem tw18246590662112258457:True:=⟨⟩
theorem tw1827117453387114346:True:=⟨⟩
theorem tw18309629427793751758:True:=⟨⟩
theorem tw18382442989161637053:True:=⟨⟩
theorem tw18389028895530858037:True:=⟨⟩
theorem tw1871605599689763579:True:=⟨⟩
theorem tw2156136148703220982:True:=⟨⟩
theorem tw2196687081775961761:True:=⟨⟩
theorem tw2213103263234769739:True:=⟨⟩
theorem tw224116418126748291:True:=⟨⟩
theorem tw2261386546831272362:True:=⟨⟩
theorem tw2335520950156476330:True:=⟨⟩
theorem tw2450171152299777359:True:=⟨⟩
theorem tw2516220239784356204:True:=⟨⟩
theorem tw2624890923594329747:True:=⟨⟩
theorem tw2626742857613691330:True:=⟨⟩
theorem tw2655010722963181579:True:=⟨⟩
theorem tw271745201137505940:True:=⟨⟩
theorem tw2734127778960129980:True:=⟨⟩
theorem tw2772673025063758833:True:=⟨⟩
theorem tw2787961558228134278:True:=⟨⟩
theorem tw280106356680944792:True:=⟨⟩
theorem tw2808673559677260406:True:=⟨⟩
theorem tw2855949270081396563:True:=⟨⟩
theorem tw2906436092672769110:True:=⟨⟩
theorem tw2909588705315066983:True:=⟨⟩
theorem tw2983475613988725760:True:=⟨⟩
theorem tw2991868186230887742:True:=⟨⟩
theorem tw3190326263526591674:True:=⟨⟩
theorem tw3207937185415591928:True:=⟨⟩
theorem tw3283699238792957524:True:=⟨⟩
theorem tw3339052153248226245:True:=⟨⟩
theorem tw335425563193861973:True:=⟨⟩
theorem tw3378971015538688652:True:=⟨⟩
theorem tw34644291321319244:True:=⟨⟩
theorem tw3644305103103172894:True:=⟨⟩
theorem tw3664132690156582014:True:=⟨⟩
theorem tw3691877028805886845:True:=⟨⟩
theorem tw3715396809873418730:True:=⟨⟩
theorem tw3748330163301467996:True:=⟨⟩
theorem tw3843455930275197992:True:=⟨⟩
theorem tw3844765508882838905:True:=⟨⟩
theorem tw3904858390688863851:True:=⟨⟩
theorem tw4107866716227378402:True:=⟨⟩
theorem tw4210126557728029843:True:=⟨⟩
theorem tw4277661547005052519:True:=⟨⟩
theorem tw4349562074783175955:True:=⟨⟩
theorem tw4378414732208703272:True:=⟨⟩
theorem tw4426999254746958808:True:=⟨⟩
theorem tw4475011590824627736:True:=⟨⟩
theorem tw4566613223529814892:True:=⟨⟩
theorem tw4616983176281843744:True:=⟨⟩
theorem tw4702689581942863185:True:=⟨⟩
theorem tw4776256711126863054:True:=⟨⟩
theorem tw4796277962086391056:True:=⟨⟩
theorem tw480707457078795443:True:=⟨⟩
theorem tw4951954967743600586:True:=⟨⟩
theorem tw5012588517921124260:True:=⟨⟩
theorem tw5052338029784395826:True:=⟨⟩
theorem tw5169280735489188773:True:=⟨⟩
theorem tw5273522309062975048:True:=⟨⟩
theorem tw5456318745216761838:True:=⟨⟩
theorem tw5482776409555420386:True:=⟨⟩
theorem tw5497582424913414016:True:=⟨⟩
theorem tw5502777940427718385:True:=⟨⟩
theorem tw5518715749078686307:True:=⟨⟩
theorem tw5561685012365208787:True:=⟨⟩
theorem tw5568912847863169717:True:=⟨⟩
theorem tw5608715316792728195:True:=⟨⟩
theorem tw5623566410897057415:True:=⟨⟩
theorem tw5654212904301270445:True:=⟨⟩
theorem tw569697302045289159:True:=⟨⟩
theorem tw5822324677914339703:True:=⟨⟩
theorem tw5823831991934396313:True:=⟨⟩
theorem tw5887253462612085403:True:=⟨⟩
theorem tw5987726596190771648:True:=⟨⟩
theorem tw6008464616304177000:True:=⟨⟩
theorem tw6127145701117220579:True:=⟨⟩
theorem tw6134254652679624262:True:=⟨⟩
theorem tw6210491999860612683:True:=⟨⟩
theorem tw6333068477028441905:True:=⟨⟩
theorem tw6336165480322672238:True:=⟨⟩
theorem tw6404731435430090256:True:=⟨⟩
theorem tw6471910498893952288:True:=⟨⟩
theorem tw6605369887242855935:True:=⟨⟩
theorem tw6622956217700561188:True:=⟨⟩
theorem tw6634970543098242131:True:=⟨⟩
theorem tw6789540237515151803:True:=⟨⟩
theorem tw6813885102152383370:True:=⟨⟩
theorem tw6852976723433133926:True:=⟨⟩
theorem tw6956753553188256970:True:=⟨⟩
theorem tw6963265512922700350:True:=⟨⟩
theorem tw7057619402394936564:True:=⟨⟩
theorem tw7059628770675815617:True:=⟨⟩
theorem tw7164818792615912327:True:=⟨⟩
theorem tw7177972107622237505:True:=⟨⟩
theorem tw7282118954356154522:True:=⟨⟩
theorem tw7292303577654588997:True:=⟨⟩
theorem tw731533868176124737:True:=⟨⟩
theorem tw7317600020092018045:True:=⟨⟩
theorem tw7394847732360434615:True:=⟨⟩
theorem tw7401235584805982402:True:=⟨⟩
theorem tw7457436863420940578:True:=⟨⟩
theorem tw7539557448248506463:True:=⟨⟩
theorem tw7565757087405029458:True:=⟨⟩
theorem tw7567545112341556416:True:=⟨⟩
theorem tw7575910186526222004:True:=⟨⟩
theorem tw7663200661360353747:True:=⟨⟩
theorem tw7766657045514065088:True:=⟨⟩
theorem tw7799373102227758851:True:=⟨⟩
theorem tw781232230922604206:True:=⟨⟩
theorem tw7837929304550092543:True:=⟨⟩
theorem tw7960405053291462386:True:=⟨⟩
theorem tw7972526172103076027:True:=⟨⟩
theorem tw8026294394963545841:True:=⟨⟩
theorem tw8048204611943205371:True:=⟨⟩
theorem tw8193163102734617104:True:=⟨⟩
theorem tw8193837532679359573:True:=⟨⟩
theorem tw8197372194174557777:True:=⟨⟩
theorem tw8268688930647696844:True:=⟨⟩
theorem tw8368204021865244930:True:=⟨⟩
theorem tw8403663593514214844:True:=⟨⟩
theorem tw8498518871789375917:True:=⟨⟩
theorem tw8523748797318336218:True:=⟨⟩
theorem tw8642348050124141098:True:=⟨⟩
theorem tw8837297586717627600:True:=⟨⟩
theorem tw8873794535765392098:True:=⟨⟩
theorem tw9207913900008403904:True:=⟨⟩
theorem tw9260008011546687883:True:=⟨⟩
theorem tw926989704819358420:True:=⟨⟩
theorem tw9411134940836335780:True:=⟨⟩
theorem tw9424100067584324194:True:=⟨⟩
theorem tw9653700463524243542:True:=⟨⟩
theorem tw9821279260866485050:True:=⟨⟩
theorem tw9858465982976258409:True:=⟨⟩
theorem tw9877612760249656141:True:=⟨⟩
theorem tw9907121215061612406:True:=⟨⟩
theorem tw9910941805279909783:True:=⟨⟩
theorem tw9923625666445057870:True:=⟨⟩
theorem tw9935612211267180457:True:=⟨⟩
theorem tw9941671560298499413:True:=⟨⟩
theorem tw9945816227038800517:True:=⟨⟩
end PySem.W.Fast
open PySem PySem.W PyProof.Rows
set_option maxRecDepth 100000 in
set_option maxHeartbeats 0 in
theorem PySem.Challenge.cw_wordwishes_k56_all_sentences_holds : PySem.Challenge.rw_wordwishes_k56_all_sentences.Holds := by
 w_on;o_law;z_head;(case hw=>w_witness2)
 k_fill
 refine L2.wH (fun _=>rfl) ?_
 refine L2.Dv (S:=My.S_law) My.Ej (k:=13) (x:="_law_script") (l:=PySem.Challenge.rw_wordwishes_k56_all_sentences) ⟨rfl,by decide,by decide⟩ rfl rfl (fun w h Y=>Y) ?F
 case F =>
  intro w mg fa h KX G hmg
  refine' My.AC KX G hmg ?_ ?_ ?_ ?_ ?_ ?_ ?_ ?_ ?_ ?_ ?_ ?_ ?_ ?_ ?_ ?_ ?_ ?_ ?_ ?_ ?_ ?_ ?_ ?_ ?_ ?_ ?_ ?_ ?_ ?_ ?_ ?_ ?_ ?_ ?_ ?_ ?_ ?_ ?_ ?_ ?_ ?_ ?_ ?_ ?_ ?_ ?_ ?_ ?_ ?_ ?_ ?_ ?_ ?_ ?_ ?_ ?_ ?_ ?_ ?_ ?_ ?_ ?_ ?_ ?_ ?_ ?_ ?_ ?_ ?_
  all_goals try first|exact L2.ED (by k_is) (by k_is) (by k_is) (by k_is)|exact L2.wr (by k_is) (by k_is) (by k_is)|k_is
