import PyProof.Rows.All
import Wide.All
import OpenK.AllK
import Wide.FinOn
import Lean
import PyProof.EqAt
import PyProof.EqKinds
import PyProof.TupleCall
import KE.KRevIter
import PyProof.NeKinds
import PyProof.Draws
import PyProof.EnumMake
import KE.KSortTup
import PyProof.ZipIter
import PySem.Challenge.RW_wordwishes_k50_lexicons_mirrored
set_option Elab.async false
set_option linter.all false
set_option maxRecDepth 100000
set_option compiler.extract_closed false
/-! THE HAND LAYER,for ints,bools,texts,own classes,LISTS and tuples (index,slices,in,append,pop ..),calls,loops. Paste it whole ahead of your own text; what your proof does not reach may be deleted. -/
namespace L2
open PySem PySem.Spec PyProof.Rows

noncomputable abbrev Key:=Sum Int Str
noncomputable def keyIs:Key → Value → Bool
 | .inl k,v => Value.isInt k v
 | .inr x,v => Value.isStrOf x v
noncomputable def keyH (w:World):Key → Int
 | .inl k => hashInt k
 | .inr x => hashStr w x
theorem keyIs_shape:∀ {k:Key} {v:Value},keyIs k v = true → (∃ i t,k = Sum.inl i ∧ v = Value.int i t) ∨ (∃ x t,k = Sum.inr x ∧ v = Value.str x t)
 | .inl i,v,h => by
  obtain ⟨t,e⟩:=Value.isInt_shape (k:=i) (v:=v) h
  exact .inl ⟨i,t,rfl,e⟩
 | .inr x,v,h => by
  obtain ⟨t,e⟩:=Value.isStrOf_shape (x:=x) (v:=v) h
  exact .inr ⟨x,t,rfl,e⟩
theorem key_ll (a b:Int):decide ((Sum.inl a:Key) = Sum.inl b) = (a == b):=by
 by_cases e:a = b
 ·subst e; simp
 ·have h:¬ (Sum.inl a:Key) = Sum.inl b:=fun q => e (Sum.inl.inj q)
  rw [decide_eq_false h]
  exact (beq_eq_false_iff_ne.mpr e).symm
theorem key_rr (a b:Str):decide ((Sum.inr a:Key) = Sum.inr b) = decide (a = b):=by
 by_cases e:a = b
 ·subst e; simp
 ·have h:¬ (Sum.inr a:Key) = Sum.inr b:=fun q => e (Sum.inr.inj q)
  rw [decide_eq_false h,decide_eq_false e]
theorem key_lr (a:Int) (b:Str):decide ((Sum.inl a:Key) = Sum.inr b) = false:=decide_eq_false (fun q => nomatch q)
theorem key_rl (a:Str) (b:Int):decide ((Sum.inr a:Key) = Sum.inl b) = false:=decide_eq_false (fun q => nomatch q)

noncomputable def mixKind (prog:Program) (w:World):PySem.KeyKind prog w Key where
 is:=keyIs
 hash:=keyH w
 inj:=fun v a b ha hb => by
  rcases keyIs_shape ha with ⟨i,t,rfl,rfl⟩ | ⟨x,t,rfl,rfl⟩
  ·rcases keyIs_shape hb with ⟨j,u,rfl,e⟩ | ⟨y,u,rfl,e⟩
   ·injection e with e1 _; rw [e1]
   ·exact nomatch e
  ·rcases keyIs_shape hb with ⟨j,u,rfl,e⟩ | ⟨y,u,rfl,e⟩
   ·exact nomatch e
   ·injection e with e1 _; rw [e1]
 byValue:=fun k v h => by
  rcases keyIs_shape h with ⟨i,t,rfl,rfl⟩ | ⟨x,t,rfl,rfl⟩ <;> rfl
 pyHash:=fun hv h => by
  rcases keyIs_shape hv with ⟨i,t,rfl,rfl⟩ | ⟨x,t,rfl,rfl⟩
  ·exact wpAny_pyHash_int h
  ·exact wpAny_pyHash_str h
 eqBool:=fun hu hv h => by
  rcases keyIs_shape hu with ⟨i,t,rfl,rfl⟩ | ⟨x,t,rfl,rfl⟩
  ·rcases keyIs_shape hv with ⟨j,u,rfl,rfl⟩ | ⟨y,u,rfl,rfl⟩
   ·rw [key_ll] at h; exact wpAny_eqBool_int h
   ·rw [key_lr] at h; exact SeqAt.EqAt.int_str i t y u _ _ _ _ h
  ·rcases keyIs_shape hv with ⟨j,u,rfl,rfl⟩ | ⟨y,u,rfl,rfl⟩
   ·rw [key_rl] at h; exact SeqAt.EqAt.str_int x t j u _ _ _ _ h
   ·rw [key_rr] at h; exact wpAny_eqBool_str h
 «strs»:=fun k x t v h => by
  rcases keyIs_shape h with ⟨i,u,rfl,e⟩ | ⟨y,u,rfl,e⟩
  ·exact nomatch e
  ·injection e with e1 _
   subst e1
   cases v <;> rfl

end L2

namespace L2
open PySem PySem.Spec PyProof.Rows

inductive V where
 | non | bl (b:Bool) | int (i:Int) | str (x:Str) | byt (b:Array UInt8) | flt (b:UInt64) | ref (a:Addr) | ty (n:String)
 deriving DecidableEq

noncomputable def RelV:V → Value → Prop
 | .non,u => u = Value.none
 | .bl b,u => u = Value.bool b
 | .int i,u => ∃ t,u = Value.int i t
 | .str x,u => ∃ t,u = Value.str x t
 | .byt b,u => ∃ t,u = Value.bytes b t
 | .flt b,u => ∃ t,u = Value.float b t
 | .ref a,u => u = Value.ref a
 | .ty n,u => u = Value.type n

noncomputable abbrev Vals:List V → List Value → Prop:=Paired RelV
theorem Vals.length {xs:List V} {us:List Value} (r:Vals xs us):xs.length = us.length:=Paired.length r
theorem Vals.get:∀ {xs:List V} {us:List Value} {i:Nat} {x:V},Vals xs us → xs[i]? = some x → ∃ u,us[i]? = some u ∧ RelV x u
 | _,_,_,_,.nil,e => by simp at e
 | _,_,0,_,.cons r _,e => by simp at e; subst e; exact ⟨_,rfl,r⟩
 | _,_,i + 1,x,.cons _ t,e => by
  obtain ⟨u,h1,h2⟩:=Vals.get (i:=i) (x:=x) t (by simpa using e)
  exact ⟨u,by simpa using h1,h2⟩
theorem Vals.set {x:V} {u:Value} (r:RelV x u):∀ {xs:List V} {us:List Value} (i:Nat),Vals xs us → Vals (xs.set i x) (us.set i u)
 | _,_,_,.nil => .nil
 | _,_,0,.cons _ t => .cons r t
 | _,_,i + 1,.cons q t => .cons q (Vals.set r i t)
theorem Vals.append:∀ {xs ys:List V} {us ws:List Value},Vals xs us → Vals ys ws → Vals (xs ++ ys) (us ++ ws)
 | _,_,_,_,.nil,s => s
 | _,_,_,_,.cons r t,s => .cons r (Vals.append t s)
theorem Vals.take:∀ {xs:List V} {us:List Value} (n:Nat),Vals xs us → Vals (xs.take n) (us.take n)
 | _,_,0,_ => .nil
 | _,_,_ + 1,.nil => .nil
 | _,_,n + 1,.cons r t => .cons r (Vals.take n t)
theorem Vals.drop:∀ {xs:List V} {us:List Value} (n:Nat),Vals xs us → Vals (xs.drop n) (us.drop n)
 | _,_,0,r => r
 | _,_,_ + 1,.nil => .nil
 | _,_,n + 1,.cons _ t => Vals.drop n t

noncomputable def RelO:Option V → Option Value → Prop
 | some v,some u => RelV v u
 | none,none => True
 | _,_ => False
noncomputable def KV {κ:Type}:List (κ × V) → List (κ × Value) → Prop:=Paired fun (p:κ × V) (q:κ × Value) => p.1 = q.1 ∧ RelV p.2 q.2

noncomputable def kV:Key → V
 | .inl i => .int i
 | .inr x => .str x

inductive HO where
 | lst (xs:List V)
 | tup (xs:List V)
 | dK (kvs:List (Key × V)) | dT (kvs:List (List Key × V))
 | set (S:Int → Bool) (n:Nat)
 | ins (C dx:Addr) (fs:List (Str × V))
 | own (x:Addr)
 | xd (fs:List (Str × V))
 | met (f x:Addr)
 | rng (lo hi:Int)
 | frz (o:Obj) (u:HO)
 | tbl (ps:Array Value)
 | ext (φ:Heap → Prop)

noncomputable abbrev Hp:=Addr → Option HO
noncomputable def upd (H:Hp) (a:Addr) (o:HO):Hp:=fun b => if b = a then some o else H b
theorem upd_same {H:Hp} {a:Addr} {o:HO}:upd H a o a = some o:=by unfold upd; rw [if_pos rfl]
theorem upd_ne {H:Hp} {a b:Addr} {o:HO} (h:b ≠ a):upd H a o b = H b:=by unfold upd; rw [if_neg h]
theorem ne_of_none {H:Hp} {a b:Addr} {o:HO} (h:H a = some o) (h':H b = none):a ≠ b:=by
 intro e; subst e; rw [h] at h'; cases h'

noncomputable def TupN (h:Heap) (a:Addr) (xs:Array Value):Prop:=∃ o,h.get? a = some o ∧ o.cls = .type "tuple" ∧ (∃ n,o.data = .seq xs n) ∧ o.dict = none
theorem TupN.tup {h:Heap} {a:Addr} {xs:Array Value} (x:TupN h a xs):IsTup h a xs:=let ⟨o,e,c,d,_⟩:=x; ⟨o,e,c,d⟩
theorem TupN.lt {h:Heap} {a:Addr} {xs:Array Value} (x:TupN h a xs):a < h.objs.size:=let ⟨_,e,_⟩:=x; Heap.lt_size e
theorem TupN.new (h:Heap) (xs:Array Value):TupN (h.push { cls:=.type "tuple",data:=.seq xs }) h.objs.size xs:=⟨_,Heap.get?_push_size h rfl,rfl,⟨_,rfl⟩,rfl⟩
section
variable (P:Program) (w:World)
noncomputable def ObjOk (H:Hp) (h:Heap) (a:Addr):HO → Prop
 | .lst xs => xs.length ≤ sizeLine ∧ ∃ (its:List Value) (n:Nat),Vals xs its ∧ h.get? a = some { cls:=.type "list",data:=.seq its.toArray n }
 | .tup xs => xs.length ≤ sizeLine ∧ ∃ its:List Value,Vals xs its ∧ TupN h a its.toArray
 | .dK kvs => kvs.length ≤ sizeLine ∧ (a == sysModules) = false ∧ ∃ vs,KV kvs vs ∧ h.DictOf (mixKind P w) a vs
 | .dT kvs => kvs.length ≤ sizeLine ∧ (a == sysModules) = false ∧ ∃ xs:List (List Key × Addr × Value),
   Paired (fun (p:List Key × V) (q:List Key × Addr × Value) => p.1 = q.1 ∧ H q.2.1 = some (.tup (p.1.map kV)) ∧ RelV p.2 q.2.2) kvs xs ∧
   ∃ o es ep,h.get? a = some o ∧ o.ExactDict ∧ o.data = .dict es ep ∧ es.toList = xs.map (entryOfKey (tupleKind (mixKind P w))) ∧ (xs.map (·.1)).Nodup
 | .set S n => h.SetOf (intKind P w) a S n
 | .ins C dx fs => H dx = some (.own a) ∧ fs.length ≤ 1000 ∧ dx ≠ a ∧ h.get? a = some (PySem.W.instObj C dx) ∧
   ∃ mA,h.Ns1 dx mA ∧ (∀ f,RelO (fs.lookup f) (mA f)) ∧ PySem.Within mA (fs.map (·.1))
 | .own _ => ∃ o,h.get? a = some o
 | .xd fs => ∃ mA,h.Ns1 a mA ∧ ∀ f,RelO (fs.lookup f) (mA f)
 | .rng lo hi => ∃ t u v,h.get? a = some { cls:=.type "range",data:=.fields #[.int lo t,.int hi u,.int 1 v] }
 | .frz o u => h.get? a = some o ∧ ObjOk H h a u
 | .tbl ps => h.get? a = some { cls:=.none,data:=.fields ps }
 | .met f x => h.get? a = some (PySem.W.methodObj (.ref f) (.ref x))
 | .ext φ => φ h ∧ (∃ o,h.get? a = some o) ∧ ∀ h1 h2:Heap,φ h1 → (∀ o,h1.get? a = some o → h2.get? a = some o) → φ h2
noncomputable def HOk (H:Hp) (h:Heap):Prop:=∀ a o,H a = some o → ObjOk P w H h a o
end

section
variable {P:Program} {w:World} {H H':Hp} {h h':Heap} {a:Addr} {o:HO}
theorem ObjOk.lt (x:ObjOk P w H h a o):a < h.objs.size:=by
 cases o with
 | lst xs => obtain ⟨_,_,_,_,e⟩:=x; exact Heap.lt_size e
 | tup xs => obtain ⟨_,_,_,p⟩:=x; exact p.lt
 | dK kvs => obtain ⟨_,_,_,_,o,_,_,e,_⟩:=x; exact Heap.lt_size e
 | dT kvs => obtain ⟨_,_,_,_,o,_,_,e,_⟩:=x; exact Heap.lt_size e
 | set S n => obtain ⟨o,_,_,_,e,_⟩:=x; exact Heap.lt_size e
 | ins C dx fs => obtain ⟨_,_,_,e,_⟩:=x; exact Heap.lt_size e
 | own y => obtain ⟨_,e⟩:=x; exact Heap.lt_size e
 | xd fs => obtain ⟨_,⟨_,_,_,e,_⟩,_⟩:=x; exact Heap.lt_size e
 | rng lo hi => obtain ⟨_,_,_,e⟩:=x; exact Heap.lt_size e
 | frz ob u => obtain ⟨e,_⟩:=x; exact Heap.lt_size e
 | tbl ps => exact Heap.lt_size (show h.get? a = some _ from x)
 | met f y => exact Heap.lt_size (show h.get? a = some _ from x)
 | ext φ => obtain ⟨_,⟨_,e⟩,_⟩:=x; exact Heap.lt_size e
theorem Paired.mapP {α β:Type} {F G:α → β → Prop}:∀ {l₁:List α} {l₂:List β},Paired F l₁ l₂ → (∀ a b,F a b → G a b) → Paired G l₁ l₂
 | _,_,.nil,_ => .nil
 | _,_,.cons r t,f => .cons (f _ _ r) (Paired.mapP t f)
theorem Paired.imp' {α β:Type} {F G:α → β → Prop} (f:∀ a b,F a b → G a b) {l₁:List α} {l₂:List β} (r:Paired F l₁ l₂):Paired G l₁ l₂:=Paired.mapP r f
theorem ObjOk.stay (x:ObjOk P w H h a o) (k:∀ b u,(b = a ∨ H b = some (.own a)) → h.get? b = some u → h'.get? b = some u)
  (ho:∀ b,H b = some (.own a) → H' b = some (.own a)) (ht:∀ b xs,H b = some (.tup xs) → H' b = some (.tup xs)):ObjOk P w H' h' a o:=by
 induction o with
 | lst xs => obtain ⟨z,its,n,r,e⟩:=x; exact ⟨z,its,n,r,k _ _ (.inl rfl) e⟩
 | tup xs => obtain ⟨z,its,r,ob,e,c⟩:=x; exact ⟨z,its,r,ob,k _ _ (.inl rfl) e,c⟩
 | dK kvs => obtain ⟨z,y,vs,r,ob,es,ep,e,c⟩:=x; exact ⟨z,y,vs,r,ob,es,ep,k _ _ (.inl rfl) e,c⟩
 | dT kvs =>
  obtain ⟨z,y,xs,r,ob,es,ep,e,c⟩:=x
  exact ⟨z,y,xs,Paired.mapP r fun p q z => ⟨z.1,ht _ _ z.2.1,z.2.2⟩,ob,es,ep,k _ _ (.inl rfl) e,c⟩
 | set S n => obtain ⟨ob,es,ep,t,e,c⟩:=x; exact ⟨ob,es,ep,t,k _ _ (.inl rfl) e,c⟩
 | ins C dx fs =>
  obtain ⟨d,z,ne,e,mA,⟨od,es,ep,e2,c⟩,r⟩:=x
  exact ⟨ho _ d,z,ne,k _ _ (.inl rfl) e,mA,⟨od,es,ep,k _ _ (.inr d) e2,c⟩,r⟩
 | own y => obtain ⟨ob,e⟩:=x; exact ⟨ob,k _ _ (.inl rfl) e⟩
 | xd fs => obtain ⟨mA,⟨od,es,ep,e,c⟩,r⟩:=x; exact ⟨mA,⟨od,es,ep,k _ _ (.inl rfl) e,c⟩,r⟩
 | rng lo hi => obtain ⟨t,u,v,e⟩:=x; exact ⟨t,u,v,k _ _ (.inl rfl) e⟩
 | frz ob u ih => obtain ⟨e,q⟩:=x; exact ⟨k _ _ (.inl rfl) e,ih q⟩
 | tbl ps =>
  have e:h.get? a = some { cls:=.none,data:=.fields ps }:=x
  show h'.get? a = some { cls:=.none,data:=.fields ps }
  exact k a _ (.inl rfl) e
 | met f y =>
  have e:h.get? a = some (PySem.W.methodObj (.ref f) (.ref y)):=x
  show h'.get? a = some (PySem.W.methodObj (.ref f) (.ref y))
  exact k a _ (.inl rfl) e
 | ext φ => obtain ⟨p,⟨o,e⟩,st⟩:=x; exact ⟨st _ _ p fun o q => k _ _ (.inl rfl) q,⟨o,k _ _ (.inl rfl) e⟩,st⟩
theorem HOk.lt (x:HOk P w H h) (e:H a = some o):a < h.objs.size:=(x a o e).lt
theorem HOk.fresh (x:HOk P w H h) (e:h.objs.size ≤ a):H a = none:=by
 cases q:H a with
 | none => rfl
 | some u => exact absurd (Nat.lt_of_lt_of_le (x.lt q) e) (Nat.lt_irrefl _)
theorem HOk.kept (x:HOk P w H h) (k:∀ b u,h.get? b = some u → h'.get? b = some u):HOk P w H h':=fun a o e =>
 (x a o e).stay (fun b u _ q => k b u q) (fun _ q => q) fun _ _ q => q
theorem HOk.laid (x:HOk P w H h) (k:∀ b u,h.get? b = some u → h'.get? b = some u) (hp:h.objs.size ≤ a) (new:ObjOk P w (upd H a o) h' a o):HOk P w (upd H a o) h':=fun b u e => by
 have hn:=x.fresh hp
 by_cases hb:b = a
 ·subst hb; rw [upd_same] at e; cases e; exact new
 ·rw [upd_ne hb] at e
  exact (x b u e).stay (fun c v _ q => k c v q) (fun c q => by rw [upd_ne (ne_of_none q hn)]; exact q) fun c xs q => by rw [upd_ne (ne_of_none q hn)]; exact q
end

noncomputable def Rd (H:Hp) (a:Addr) (u:HO):Prop:=H a = some u ∨ ∃ o,H a = some (.frz o u)
theorem Rd.of {H:Hp} {a:Addr} {u:HO} (h:H a = some u):Rd H a u:=.inl h
theorem Rd.ok {P:Program} {w:World} {H:Hp} {h:Heap} {a:Addr} {u:HO} (r:Rd H a u) (x:HOk P w H h):ObjOk P w H h a u:=by
 rcases r with r | ⟨o,r⟩
 ·exact x a u r
 ·obtain ⟨_,q⟩:=x a _ r
  exact q
noncomputable def Mut:Option HO → Prop
 | some (.lst _) => True
 | some (.dK _) => True
 | some (.dT _) => True
 | some (.set _ _) => True
 | some (.ins _ _ _) => True
 | some (.ext _) => True
 | _ => False
section
variable {P:Program} {w:World} {H:Hp} {h h':Heap} {x e:Addr} {o':HO}
theorem HOk.write (ok:HOk P w H h) (mu:Mut (H x)) (he:e = x ∨ H e = some (.own x)) (k:∀ b u,b ≠ e → h.get? b = some u → h'.get? b = some u) (heo:∃ u,h'.get? e = some u)
  (new:ObjOk P w (upd H x o') h' x o'):HOk P w (upd H x o') h':=fun b u q => by
 have nown:∀ c y,H c = some (.own y) → c ≠ x:=fun c y r z => by subst z; rw [r] at mu; exact mu
 have ntup:∀ c xs,H c = some (.tup xs) → c ≠ x:=fun c xs r z => by subst z; rw [r] at mu; exact mu
 by_cases hb:b = x
 ·subst hb; rw [upd_same] at q; cases q; exact new
 ·rw [upd_ne hb] at q
  by_cases hbe:b = e
  ·have q':H b = some (.own x):=by
    rcases he with z | z
    ·exact absurd (hbe.trans z) hb
    ·rw [hbe]; exact z
   rw [q] at q'; cases q'
   obtain ⟨v,hv⟩:=heo
   exact ⟨v,by rw [hbe]; exact hv⟩
  ·refine (ok b u q).stay (fun c v hc r => k c v ?_ r) (fun c r => by rw [upd_ne (nown c b r)]; exact r) fun c xs r => by rw [upd_ne (ntup c xs r)]; exact r
   rcases hc with rfl | hc
   ·exact hbe
   ·rintro rfl
    rcases he with z | z
    ·exact nown c b hc z
    ·rw [hc] at z; cases z; exact hb rfl
end

/-! ### kept unless tracked; of the frames at fs (the callers') the slots may change (an exception that passes writes there); of the records at ex (iterators) nothing is said -/
structure Un (fs ex:List Addr) (H H':Hp) (h h':Heap):Prop where
 keep:∀ b o,h.get? b = some o → H b = none → b ∉ fs → b ∉ ex → h'.get? b = some o
 slot:∀ b o,h.get? b = some o → H b = none → b ∈ fs → b ∉ ex → ∃ sl,h'.get? b = some { o with slots:=sl }
 free:∀ b o,h.get? b = some o → H b = none → b ∉ ex → H' b = none
 there:∀ b o,h.get? b = some o → b ∉ ex → ∃ o',h'.get? b = some o'
 tups:∀ b xs,H b = some (.tup xs) → H' b = some (.tup xs)
 frzs:∀ b o u,H b = some (.frz o u) → H' b = some (.frz o u)
 tbls:∀ b ps,H b = some (.tbl ps) → ∃ more,H' b = some (.tbl (ps ++ more))
section
variable {fs fs' ex ex':List Addr} {H H1 H2:Hp} {h h1 h2 h':Heap} {a x e:Addr} {o:HO}
theorem Un.any (u:Un fs ex H H1 h h1) {b:Addr} {ob:Obj} (q:h.get? b = some ob) (n:H b = none) (hx:b ∉ ex):∃ sl,h1.get? b = some { ob with slots:=sl }:=by
 by_cases hb:b ∈ fs
 ·exact u.slot b ob q n hb hx
 ·exact ⟨ob.slots,u.keep b ob q n hb hx⟩
theorem Un.trans (a:Un fs ex H H1 h h1) (b:Un fs ex H1 H2 h1 h2):Un fs ex H H2 h h2 where
 keep:=fun c ob q n hc hx => b.keep c ob (a.keep c ob q n hc hx) (a.free c ob q n hx) hc hx
 slot:=fun c ob q n hc hx => by
  obtain ⟨sl,e1⟩:=a.slot c ob q n hc hx
  obtain ⟨sl',e2⟩:=b.slot c _ e1 (a.free c ob q n hx) hc hx
  exact ⟨sl',e2⟩
 free:=fun c ob q n hx => by
  obtain ⟨o',e1⟩:=a.there c ob q hx
  exact b.free c o' e1 (a.free c ob q n hx) hx
 there:=fun c ob q hx => by
  obtain ⟨o',e1⟩:=a.there c ob q hx
  exact b.there c o' e1 hx
 tups:=fun c xs q => b.tups c xs (a.tups c xs q)
 frzs:=fun c ob xs q => b.frzs c ob xs (a.frzs c ob xs q)
 tbls:=fun c ps q => by
  obtain ⟨m1,e1⟩:=a.tbls c ps q
  obtain ⟨m2,e2⟩:=b.tbls c _ e1
  exact ⟨m1 ++ m2,by rw [e2,Array.append_assoc]⟩
theorem Un.kept (k:∀ b u,h.get? b = some u → h'.get? b = some u):Un fs ex H H h h' :=
 ⟨fun b ob q _ _ _ => k b ob q,fun b ob q _ _ _ => ⟨ob.slots,k b ob q⟩,fun _ _ _ n _ => n,fun b ob q _ => ⟨ob,k b ob q⟩,fun _ _ q => q,fun _ _ _ q => q,fun _ ps q => ⟨#[],by rw [q]; simp⟩⟩
theorem Un.refl:Un fs ex H H h h:=Un.kept fun _ _ q => q
theorem Un.laid (k:∀ b u,h.get? b = some u → h'.get? b = some u) (hp:h.objs.size ≤ a) (hn:H a = none):Un fs ex H (upd H a o) h h' where
 keep:=fun b u q _ _ _ => k b u q
 slot:=fun b u q _ _ _ => ⟨u.slots,k b u q⟩
 free:=fun b u q n _ => by rw [upd_ne (Nat.ne_of_lt (Nat.lt_of_lt_of_le (Heap.lt_size q) hp))]; exact n
 there:=fun b u q _ => ⟨u,k b u q⟩
 tups:=fun b xs q => by rw [upd_ne (ne_of_none q hn)]; exact q
 frzs:=fun b u xs q => by rw [upd_ne (ne_of_none q hn)]; exact q
 tbls:=fun b ps q => ⟨#[],by rw [upd_ne (ne_of_none q hn),q]; simp⟩
theorem Un.write (mu:Mut (H x)) (he:e = x ∨ H e = some (.own x)) (k:∀ b u,b ≠ e → h.get? b = some u → h'.get? b = some u) (heo:∃ u,h'.get? e = some u):Un fs ex H (upd H x o) h h':=by
 have hx:∀ b,H b = none → b ≠ x:=fun b n z => by subst z; rw [n] at mu; exact mu
 have hb:∀ b,H b = none → b ≠ e:=fun b n z => by
  subst z
  rcases he with r | r
  ·exact hx b n r
  ·rw [n] at r; cases r
 have hm:∀ b u,H b = some u → ¬ Mut (some u) → b ≠ x:=fun b u q nm z => by subst z; rw [q] at mu; exact nm mu
 refine ⟨fun b u q n _ _ => k b u (hb b n) q,fun b u q n _ _ => ⟨u.slots,k b u (hb b n) q⟩,fun b u q n _ => by rw [upd_ne (hx b n)]; exact n,fun b u q _ => ?_,
  fun b xs q => by rw [upd_ne (hm b _ q fun z => z)]; exact q,fun b u xs q => by rw [upd_ne (hm b _ q fun z => z)]; exact q,fun b ps q => ⟨#[],by rw [upd_ne (hm b _ q fun z => z),q]; simp⟩⟩
 by_cases hbe:b = e
 ·subst hbe; exact heo
 ·exact ⟨u,k b u hbe q⟩
theorem Un.mono (u:Un fs ex H H1 h h1) (hs:∀ b ∈ fs,b ∈ fs') (hx:∀ b ∈ ex,b ∈ ex'):Un fs' ex' H H1 h h1 :=
 ⟨fun b ob q n hb he => u.keep b ob q n (fun z => hb (hs b z)) fun z => he (hx b z),fun _ _ q n _ he => u.any q n fun z => he (hx _ z),fun b ob q n he => u.free b ob q n fun z => he (hx b z),fun b ob q he => u.there b ob q fun z => he (hx b z),u.tups,u.frzs,u.tbls⟩
end

/-! ### the heap without what is tracked -/
noncomputable def trk (h:Heap) (H:Hp):List Addr:=(List.range h.objs.size).filter fun a => (H a).isSome
noncomputable def hidT (h:Heap) (H:Hp):Heap:=PySem.W.hideAll h (trk h H)
theorem hidT_size (h:Heap) (H:Hp):(hidT h H).objs.size = h.objs.size:=PySem.W.hideAll_size _ _
theorem hidT_get {h:Heap} {H:Hp} {b:Addr} {o:Obj} (e:h.get? b = some o) (n:H b = none):(hidT h H).get? b = some o :=
 PySem.W.hideAll_get _ e fun hm => by
  have q:(H b).isSome = true:=(List.mem_filter.mp hm).2
  rw [n] at q; simp at q
theorem of_hidT {h:Heap} {H:Hp} {b:Addr} {o:Obj} (e:(hidT h H).get? b = some o):h.get? b = some o ∧ H b = none:=by
 have e':h.get? b = some o:=PySem.W.of_hideAll (trk h H) e
 refine ⟨e',?_⟩
 cases q:H b with
 | none => rfl
 | some x =>
  have hm:b ∈ trk h H:=List.mem_filter.mpr ⟨List.mem_range.mpr (Heap.lt_size e'),by simp [q]⟩
  have z:(hidT h H).get? b = none:=PySem.W.hideAll_none (trk h H) hm
  rw [z] at e; cases e

/-! ### OpenK's ledger,filled with every new object but one -/
noncomputable def allNews (g h:Heap) (L:Addr):List (Addr × Obj):=(List.range h.objs.size).filterMap fun a => if a = L ∨ (g.get? a).isSome = true then none else (h.get? a).map fun o => (a,o)
noncomputable def rest (g h:Heap) (L d:Addr):List (Addr × Obj):=(allNews g h L).filter fun p => decide (p.1 ≠ d)
end L2

namespace L2
open PySem PySem.Spec PyProof.Rows

structure Mod (K:PySem.W.Frag) (mg:Str → Option Value) (base:Heap):Prop where
 kin:K.In base
 glob:base.Ns mainGlobals mg
 blt:∃ mb,base.Ns builtinsNs mb ∧ ∀ x:Str,x ≠ "__name__" → mb x = bootBuiltins x
 nolimit:base.NoLimit

structure Cx where
 prog:Program
 w:World
 K:PySem.W.Frag
 mg:Str → Option Value
 base:Heap
 A:Around
 N:List Str
 s₀:Shared
 H₀:Hp
 env:Env
 outer:List Env
 stack:List Env
 ex:List Addr
 fn:Str → Bool
 calm:Bool
 pn:List (Addr × Obj)
 xe:Value → Shared → Prop
noncomputable def frs (l:List Env):List Addr:=l.filterMap (·.frame)
noncomputable abbrev Cx.fs (X:Cx):List Addr:=frs X.outer

noncomputable def Vis (sc:Scope) (x:Str):Prop:=sc.names.lookup x = some .local ∨ sc.names.lookup x = some .cell ∨ sc.names.lookup x = some .free
noncomputable def Loc (sc:Scope) (x:Str):Prop:=sc.names.lookup x = some .local ∨ sc.names.lookup x = some .cell
noncomputable def Look (env:Env) (h:Heap) (m:Str → Option Value) (x:Str) (u:Value):Prop :=
 (env.kindOf x = some .local ∧ m x = some u) ∨ ((env.kindOf x = some .cell ∨ env.kindOf x = some .free) ∧ ∃ c,env.cells.lookup x = some c ∧ h.IsCell c (some u))

structure Cx.Ok (X:Cx):Prop where
 mod:Mod X.K X.mg X.base
 kind:X.env.scope.kind = .function
 glob:X.env.globals = mainGlobals
 blt:X.env.builtins = builtinsNs
 above:X.s₀.heap.objs.size ≤ X.env.locals
 inj:∀ x y c,X.env.cells.lookup x = some c → X.env.cells.lookup y = some c → x = y
 has:∀ x,(X.env.kindOf x = some .cell ∨ X.env.kindOf x = some .free) → ∃ c,X.env.cells.lookup x = some c
 cab:∀ x c,X.fn x = true → X.env.cells.lookup x = some c → X.s₀.heap.objs.size ≤ c
 hd:X.calm = true → X.A.handled = none
 frames:X.A.frames = some X.stack
 stk:X.stack = X.outer ∨ (X.stack = X.env :: X.outer ∧ X.env.frame = some X.env.locals)
 exf:∀ b ∈ X.ex,b ≠ X.env.locals ∧ ∀ x c,X.env.cells.lookup x = some c → c ≠ b
 bs:∀ b o,X.base.get? b = some o → X.s₀.heap.get? b = some o ∧ X.H₀ b = none
 bsz:X.base.objs.size ≤ X.s₀.heap.objs.size
 noex:∀ b o,X.base.get? b = some o → b ∉ X.ex
 exfs:∀ b ∈ X.ex,b ∉ X.fs
 funs:X.s₀.heap.FunFrames X.base X.outer
 frf:∀ b ∈ X.fs,X.H₀ b = none

structure Inv (X:Cx) (pins:List (Addr × Obj)) (σ:List (Option V)) (H:Hp) (s:Shared):Prop where
 ok:X.Ok
 os:s.os = X.s₀.os
 bare:AllBare s.gens
 base:Un X.fs X.ex X.H₀ H X.s₀.heap s.heap
 loc:∃ m,s.heap.Ns X.env.locals m ∧ ∀ (i:Nat) (x:Str) (v:V),X.N[i]? = some x → σ[i]? = some (some v) → Vis X.env.scope x → ∃ u,RelV v u ∧ Look X.env s.heap m x u
 cell:∀ x c,X.env.cells.lookup x = some c → ∃ v,s.heap.IsCell c v
 free:H X.env.locals = none
 freeC:∀ x c,X.env.cells.lookup x = some c → H c = none
 pin:∀ p ∈ X.pn ++ pins,s.heap.get? p.1 = some p.2 ∧ H p.1 = none ∧ p.1 ≠ X.env.locals ∧ p.1 ∉ X.fs ∧ ∀ v,p.2.data ≠ .cell v
 hok:HOk X.prog X.w H s.heap
 len:σ.length = X.N.length

section
variable {X:Cx} {pins:List (Addr × Obj)} {σ:List (Option V)} {H H':Hp} {s:Shared} {h':Heap}

theorem Cx.Ok.nofr (ok:X.Ok) {b:Addr} {o:Obj} (e:X.base.get? b = some o):b ∉ X.fs:=fun hb => by
 have:=(ok.funs.mem hb).1
 rw [e] at this; cases this
theorem Inv.bs (I:Inv X pins σ H s):∀ b o,X.base.get? b = some o → s.heap.get? b = some o ∧ H b = none:=fun b o e =>
 ⟨I.base.keep b o (I.ok.bs b o e).1 (I.ok.bs b o e).2 (I.ok.nofr e) (I.ok.noex b o e),I.base.free b o (I.ok.bs b o e).1 (I.ok.bs b o e).2 (I.ok.noex b o e)⟩
theorem Inv.bk (I:Inv X pins σ H s):∀ b o,X.base.get? b = some o → s.heap.get? b = some o:=fun b o e => (I.bs b o e).1
theorem Inv.mod (I:Inv X pins σ H s):Mod X.K X.mg X.base:=I.ok.mod
theorem Inv.kIn (I:Inv X pins σ H s):X.K.In s.heap:=I.ok.mod.kin.keeps I.bk
theorem Inv.lt (I:Inv X pins σ H s):X.env.locals < s.heap.objs.size:=let ⟨_,hn,_⟩:=I.loc; hn.lt
theorem Inv.sz (I:Inv X pins σ H s):X.s₀.heap.objs.size ≤ s.heap.objs.size:=Nat.le_trans I.ok.above (Nat.le_of_lt I.lt)
theorem Inv.nofs (I:Inv X pins σ H s) {a:Addr} (h:s.heap.objs.size ≤ a):a ∉ X.fs:=fun hb => by
 obtain ⟨_,o,ho,_⟩:=I.ok.funs.mem hb
 exact absurd (Nat.lt_of_lt_of_le (Heap.lt_size ho) (Nat.le_trans I.sz h)) (Nat.lt_irrefl _)
theorem Inv.cne (I:Inv X pins σ H s):∀ x c,X.env.cells.lookup x = some c → c ≠ X.env.locals:=fun x c e z => by
 obtain ⟨v,o,ho,hd⟩:=I.cell x c e
 obtain ⟨m,⟨o',es,ep,ho',hd',_⟩,_⟩:=I.loc
 rw [z,ho'] at ho; cases ho; rw [hd'] at hd; cases hd
theorem Inv.funs (I:Inv X pins σ H s):s.heap.FunFrames X.base X.outer:=by
 have all:∀ (l:List Env),(∀ b ∈ frs l,b ∈ X.fs) → X.s₀.heap.FunFrames X.base l → s.heap.FunFrames X.base l:=by
  intro l
  induction l with
  | nil => intro _ _; trivial
  | cons env r ih =>
   intro hs hl
   obtain ⟨hk,⟨L,o,hf,hn,ho,hd⟩,hr⟩:=hl
   have hL:L ∈ X.fs:=hs L (by unfold frs; rw [List.filterMap_cons,hf]; exact List.mem_cons_self)
   obtain ⟨sl,e⟩:=I.base.slot L o ho (I.ok.frf L hL) hL fun z => I.ok.exfs L z hL
   exact ⟨hk,⟨L,_,hf,hn,e,hd⟩,ih (fun b hb => hs b (by unfold frs; rw [List.filterMap_cons,hf]; exact List.mem_cons_of_mem _ hb)) hr⟩
 exact all X.outer (fun _ hb => hb) I.ok.funs

theorem Inv.stack (I:Inv X pins σ H s):s.heap.FunFrames X.base X.stack:=by
 rcases I.ok.stk with e | ⟨e,hf⟩
 ·rw [e]; exact I.funs
 ·rw [e]
  obtain ⟨m,hn,_⟩:=I.loc
  refine .cons (by rw [I.ok.kind]; decide) hf hn ?_ I.funs
  exact Heap.get?_none_of_le (Nat.le_trans I.ok.bsz I.ok.above)
theorem Inv.stkSub (I:Inv X pins σ H s):∀ b ∈ frs X.stack,b ∈ X.env.locals :: X.fs:=fun b hb => by
 rcases I.ok.stk with e | ⟨e,hf⟩
 ·rw [e] at hb; exact List.mem_cons_of_mem _ hb
 ·rw [e] at hb
  unfold frs at hb
  rw [List.filterMap_cons,hf] at hb
  exact hb
theorem Inv.stkFree (I:Inv X pins σ H s):∀ b ∈ frs X.stack,H b = none:=fun b hb => by
 rcases List.mem_cons.mp (I.stkSub b hb) with e | hb
 ·rw [e]; exact I.free
 ·obtain ⟨_,o,ho,_⟩:=I.ok.funs.mem hb
  exact I.base.free b o ho (I.ok.frf b hb) fun z => I.ok.exfs b z hb

theorem Inv.step {g':Array GenState} {t':Nat} {d':Drawn} {ch:List Addr} (I:Inv X pins σ H s)
  (hch:∀ b ∈ ch,(b ∈ X.ex ∨ X.s₀.heap.objs.size ≤ b) ∧ b ≠ X.env.locals ∧ (∀ x c,X.env.cells.lookup x = some c → c ≠ b) ∧ ∀ p ∈ X.pn ++ pins,p.1 ≠ b)
  (keep:∀ b o,b ≠ X.env.locals → b ∉ X.fs → b ∉ ch → s.heap.get? b = some o → H b = none → h'.get? b = some o)
  (slot:∀ b o,b ≠ X.env.locals → b ∈ X.fs → b ∉ ch → s.heap.get? b = some o → H b = none → ∃ sl,h'.get? b = some { o with slots:=sl }) (free:∀ b o,b ∉ ch → s.heap.get? b = some o → H b = none → H' b = none)
  (there:∀ b o,b ∉ ch → s.heap.get? b = some o → ∃ o',h'.get? b = some o')
  (tups:∀ b xs,H b = some (.tup xs) → H' b = some (.tup xs)) (frzs:∀ b o u,H b = some (.frz o u) → H' b = some (.frz o u)) (tbls:∀ b ps,H b = some (.tbl ps) → ∃ more,H' b = some (.tbl (ps ++ more)))
  (ns:∀ m,s.heap.Ns X.env.locals m → h'.Ns X.env.locals m) (hok:HOk X.prog X.w H' h') (hg:AllBare g') :
  Inv X pins σ H' { s with heap:=h',gens:=g',drawn:=d',toks:=t' }:=by
 have neL:∀ b o,X.s₀.heap.get? b = some o → b ≠ X.env.locals:=fun b o e => Nat.ne_of_lt (Nat.lt_of_lt_of_le (Heap.lt_size e) I.ok.above)
 have neC:∀ b o,X.s₀.heap.get? b = some o → b ∉ X.ex → b ∉ ch:=fun b o e hx hb => by
  rcases (hch b hb).1 with z | z
  ·exact hx z
  ·exact absurd (Nat.lt_of_lt_of_le (Heap.lt_size e) z) (Nat.lt_irrefl _)
 have cellK:∀ x c,X.env.cells.lookup x = some c → ∀ v,s.heap.IsCell c v → h'.IsCell c v:=fun x c e v ⟨o,ho,hd⟩ => by
  have nch:c ∉ ch:=fun z => (hch c z).2.2.1 x c e rfl
  by_cases hc:c ∈ X.fs
  ·obtain ⟨sl,q⟩:=slot c o (I.cne x c e) hc nch ho (I.freeC x c e)
   exact ⟨_,q,hd⟩
  ·exact ⟨o,keep c o (I.cne x c e) hc nch ho (I.freeC x c e),hd⟩
 refine ⟨I.ok,I.os,hg,⟨fun b o e n hb hx => ?_,fun b o e n hb hx => ?_,fun b o e n hx => ?_,fun b o e hx => ?_,fun b xs e => tups b xs (I.base.tups b xs e),fun b o xs e => frzs b o xs (I.base.frzs b o xs e),fun b ps e => ?_⟩,?_,fun x c e => ?_,?_,fun x c e => ?_,fun p hp => ?_,hok,I.len⟩
 ·exact keep b o (neL b o e) hb (neC b o e hx) (I.base.keep b o e n hb hx) (I.base.free b o e n hx)
 ·obtain ⟨sl,e1⟩:=I.base.slot b o e n hb hx
  obtain ⟨sl',e2⟩:=slot b _ (neL b o e) hb (neC b o e hx) e1 (I.base.free b o e n hx)
  exact ⟨sl',e2⟩
 ·obtain ⟨o',e1⟩:=I.base.there b o e hx
  exact free b o' (neC b o e hx) e1 (I.base.free b o e n hx)
 ·obtain ⟨o',e1⟩:=I.base.there b o e hx
  exact there b o' (neC b o e hx) e1
 ·obtain ⟨m1,e1⟩:=I.base.tbls b ps e
  obtain ⟨m2,e2⟩:=tbls b _ e1
  exact ⟨m1 ++ m2,by rw [e2,Array.append_assoc]⟩
 ·obtain ⟨m,hn,hl⟩:=I.loc
  refine ⟨m,ns m hn,fun i x v e1 e2 e3 => ?_⟩
  obtain ⟨u,r,l⟩:=hl i x v e1 e2 e3
  refine ⟨u,r,?_⟩
  rcases l with l | ⟨k,c,e,z⟩
  ·exact .inl l
  ·exact .inr ⟨k,c,e,cellK x c e _ z⟩
 ·obtain ⟨v,z⟩:=I.cell x c e
  exact ⟨v,cellK x c e v z⟩
 ·obtain ⟨m,⟨o,_,_,ho,_⟩,_⟩:=I.loc
  exact free _ o (fun z => (hch _ z).2.1 rfl) ho I.free
 ·obtain ⟨v,o,ho,hd⟩:=I.cell x c e
  exact free c o (fun z => (hch c z).2.2.1 x c e rfl) ho (I.freeC x c e)
 ·obtain ⟨e,n,ne,nf,d⟩:=I.pin p hp
  have nch:p.1 ∉ ch:=fun z => (hch p.1 z).2.2.2 p hp rfl
  exact ⟨keep p.1 p.2 ne nf nch e n,free p.1 p.2 nch e n,ne,nf,d⟩
theorem Inv.un {t':Nat} (I:Inv X pins σ H s) (u:Un X.fs [] H H' s.heap h') (hok:HOk X.prog X.w H' h'):Inv X pins σ H' { s with heap:=h',toks:=t' }:=by
 obtain ⟨m,⟨o,es,ep,ho,r⟩,_⟩:=id I.loc
 obtain ⟨sl,hL⟩:=u.any ho I.free (by simp)
 exact I.step (g':=s.gens) (d':=s.drawn) (ch:=[]) (fun _ z => nomatch z) (fun b o _ hb _ e n => u.keep b o e n hb (by simp)) (fun b o _ hb _ e n => u.slot b o e n hb (by simp)) (fun b o _ e n => u.free b o e n (by simp)) (fun b o _ e => u.there b o e (by simp)) u.tups u.frzs u.tbls (fun m' hm => by
  obtain ⟨o',es',ep',ho',r'⟩:=hm
  rw [ho] at ho'; cases ho'
  exact ⟨_,es',ep',hL,r'⟩) hok I.bare
theorem Inv.call {g':Array GenState} {t':Nat} {d':Drawn} {ch:List Addr} (I:Inv X pins σ H s) (u:Un (frs X.stack) ch H H' s.heap h') (hok:HOk X.prog X.w H' h') (hg:AllBare g')
  (hch:∀ b ∈ ch,(b ∈ X.ex ∨ X.s₀.heap.objs.size ≤ b) ∧ b ≠ X.env.locals ∧ (∀ x c,X.env.cells.lookup x = some c → c ≠ b) ∧ ∀ p ∈ X.pn ++ pins,p.1 ≠ b) :
  Inv X pins σ H' { s with heap:=h',gens:=g',drawn:=d',toks:=t' }:=by
 obtain ⟨m,⟨o,es,ep,ho,r⟩,_⟩:=id I.loc
 obtain ⟨sl,hL⟩:=u.any ho I.free fun z => (hch _ z).2.1 rfl
 exact I.step (ch:=ch) hch (fun b o hL hb hc e n => u.keep b o e n (fun z => (List.mem_cons.mp (I.stkSub b z)).elim hL hb) hc) (fun b o _ _ hc e n => u.any e n hc) (fun b o hc e n => u.free b o e n hc) (fun b o hc e => u.there b o e hc) u.tups u.frzs u.tbls (fun m' hm => by
  obtain ⟨o',es',ep',ho',r'⟩:=hm
  rw [ho] at ho'; cases ho'
  exact ⟨_,es',ep',hL,r'⟩) hok hg
theorem Inv.turned {t':Nat} {it:Addr} (I:Inv X pins σ H s) (k:∀ b o,b ≠ it → s.heap.get? b = some o → h'.get? b = some o) (hn:H it = none) (hL:it ≠ X.env.locals)
  (h1:it ∈ X.ex ∨ X.s₀.heap.objs.size ≤ it) (h2:∀ x c,X.env.cells.lookup x = some c → c ≠ it) (h3:∀ p ∈ X.pn ++ pins,p.1 ≠ it):Inv X pins σ H { s with heap:=h',toks:=t' }:=by
 have nit:∀ b u,H b = some u → b ≠ it:=fun b u e z => by rw [z,hn] at e; cases e
 refine I.step (g':=s.gens) (d':=s.drawn) (ch:=[it]) (fun b hb => ?_) (fun b o _ _ hc e _ => k b o (fun z => hc (by simp [z])) e) (fun b o _ _ hc e _ => ⟨o.slots,k b o (fun z => hc (by simp [z])) e⟩) (fun _ _ _ _ n => n)
  (fun b o hc e => ⟨o,k b o (fun z => hc (by simp [z])) e⟩) (fun _ _ e => e) (fun _ _ _ e => e) (fun b ps e => ⟨#[],by rw [e]; simp⟩) (fun m hm => ?_) (fun b u e => ?_) I.bare
 ·have e:b = it:=by simpa using hb
  subst e
  exact ⟨h1,hL,h2,h3⟩
 ·obtain ⟨o,es,ep,ho,r⟩:=hm
  exact ⟨o,es,ep,k _ o (Ne.symm hL) ho,r⟩
 ·refine (I.hok b u e).stay (fun c v hc q => k c v ?_ q) (fun _ q => q) fun _ _ q => q
  rcases hc with z | z
  ·rw [z]; exact nit b u e
  ·exact nit c _ z
theorem Inv.tok (I:Inv X pins σ H s) (t:Nat):Inv X pins σ H { s with toks:=t }:=I.un (h':=s.heap) (t':=t) Un.refl I.hok
theorem Inv.kept {t':Nat} (I:Inv X pins σ H s) (k:∀ b u,s.heap.get? b = some u → h'.get? b = some u):Inv X pins σ H { s with heap:=h',toks:=t' }:=I.un (Un.kept k) (I.hok.kept k)
theorem Inv.laid {a:Addr} {o:HO} {t':Nat} (I:Inv X pins σ H s) (k:∀ b u,s.heap.get? b = some u → h'.get? b = some u) (hp:s.heap.objs.size ≤ a) (new:ObjOk X.prog X.w (upd H a o) h' a o) :
  Inv X pins σ (upd H a o) { s with heap:=h',toks:=t' }:=I.un (Un.laid k hp (I.hok.fresh hp)) (I.hok.laid k hp new)
theorem Inv.write {x e:Addr} {o:HO} {t':Nat} (I:Inv X pins σ H s) (mu:Mut (H x)) (he:e = x ∨ H e = some (.own x)) (k:∀ b u,b ≠ e → s.heap.get? b = some u → h'.get? b = some u) (heo:∃ u,h'.get? e = some u)
  (new:ObjOk X.prog X.w (upd H x o) h' x o):Inv X pins σ (upd H x o) { s with heap:=h',toks:=t' }:=I.un (Un.write mu he k heo) (I.hok.write mu he k heo new)
theorem Inv.pins_of {pins':List (Addr × Obj)} (I:Inv X pins σ H s) (h:∀ p ∈ pins',s.heap.get? p.1 = some p.2 ∧ H p.1 = none ∧ p.1 ≠ X.env.locals ∧ p.1 ∉ X.fs ∧ ∀ v,p.2.data ≠ .cell v):Inv X pins' σ H s :=
 ⟨I.ok,I.os,I.bare,I.base,I.loc,I.cell,I.free,I.freeC,fun p hp => (List.mem_append.mp hp).elim (fun z => I.pin p (List.mem_append_left _ z)) (h p),I.hok,I.len⟩

theorem nodup_ix {N:List Str} (hN:N.Nodup) {i j:Nat} {x:Str} (a:N[i]? = some x) (b:N[j]? = some x):i = j:=by
 obtain ⟨h1,e1⟩:=List.getElem?_eq_some_iff.mp a
 obtain ⟨h2,e2⟩:=List.getElem?_eq_some_iff.mp b
 exact (List.getElem_inj hN).mp (e1.trans e2.symm)

theorem store_ok2 {M:Model} {A:Around} {E:Value → Shared → Prop} {i:Nat} {x:Str} {v:V} {u:Value} {Q:Unit → Shared → Prop} (I:Inv X pins σ H s) (hN:X.N.Nodup) (hi:X.N[i]? = some x) (hx:Loc X.env.scope x) (r:RelV v u)
  (h:∀ s',Inv X pins (σ.set i (some v)) H s' → (∃ a,Heap.SameBut a s.heap s'.heap ∧ (a = X.env.locals ∨ X.env.cells.lookup x = some a)) → Q () s') (hf:X.fn x = true ∨ X.env.scope.names.lookup x = some .local:=by first | exact .inl rfl | exact .inr rfl | assumption):wpAny M A (storeName X.env x u) Q E s:=by
 obtain ⟨m,hn,hl⟩:=id I.loc
 have hcls:(X.env.scope.kind == .class || (X.env.scope.kind == .module && X.env.locals != X.env.globals)) = false:=by rw [I.ok.kind]; rfl
 have hiσ:i < σ.length:=by rw [I.len]; exact (List.getElem?_eq_some_iff.mp hi).1
 have cne:=I.cne
 have tracked:∀ {a:Addr} {h':Heap},(∃ o,s.heap.get? a = some o ∧ H a = none) → Heap.SameBut a s.heap h' → HOk X.prog X.w H h':=fun {a h'} ha hs b ob e => by
  obtain ⟨_,_,hfree⟩:=ha
  refine (I.hok b ob e).stay (fun c w' hc q => (hs.2 c ?_).trans q) (fun _ q => q) fun _ _ q => q
  rintro rfl
  rcases hc with rfl | hc
  ·rw [hfree] at e; cases e
  ·rw [hfree] at hc; cases hc
 rcases hx with hk | hk
 ·refine wpAny_storeName_local hk hn (fun h' hn' hs => ?_) hcls
  obtain ⟨oL,_,_,hoL,_⟩:=id hn
  refine h _ ⟨I.ok,I.os,I.bare,⟨fun b o e n hb hx => ?_,fun b o e n hb hx => ?_,I.base.free,fun b o e hx => ?_,I.base.tups,I.base.frzs,I.base.tbls⟩,⟨_,hn',fun j y v' e1 e2 e3 => ?_⟩,fun y c e => ?_,I.free,I.freeC,fun p hp => ?_,tracked ⟨oL,hoL,I.free⟩ hs,by simpa using I.len⟩ ⟨_,hs,.inl rfl⟩
  ·exact (hs.2 b (Nat.ne_of_lt (Nat.lt_of_lt_of_le (Heap.lt_size e) I.ok.above))).trans (I.base.keep b o e n hb hx)
  ·obtain ⟨sl,e1⟩:=I.base.slot b o e n hb hx
   exact ⟨sl,(hs.2 b (Nat.ne_of_lt (Nat.lt_of_lt_of_le (Heap.lt_size e) I.ok.above))).trans e1⟩
  ·obtain ⟨o',e1⟩:=I.base.there b o e hx
   exact ⟨o',(hs.2 b (Nat.ne_of_lt (Nat.lt_of_lt_of_le (Heap.lt_size e) I.ok.above))).trans e1⟩
  ·by_cases hj:j = i
   ·subst hj
    rw [hi] at e1; cases e1
    rw [List.getElem?_set_self hiσ] at e2
    cases e2
    exact ⟨u,r,.inl ⟨hk,by simp⟩⟩
   ·rw [List.getElem?_set_ne (Ne.symm hj)] at e2
    obtain ⟨u',r',q⟩:=hl j y v' e1 e2 e3
    refine ⟨u',r',?_⟩
    rcases q with ⟨k,e⟩ | ⟨k,c,e,z⟩
    ·refine .inl ⟨k,?_⟩
     have:y ≠ x:=fun e => hj (nodup_ix hN e1 (e ▸ hi))
     simp [this,e]
    ·exact .inr ⟨k,c,e,z.sameBut hs (cne y c e)⟩
  ·obtain ⟨w',z⟩:=I.cell y c e
   exact ⟨w',z.sameBut hs (cne y c e)⟩
  ·obtain ⟨e,n,ne,nf,d⟩:=I.pin p hp
   exact ⟨(hs.2 p.1 ne).trans e,n,ne,nf,d⟩
 ·have hfn:X.fn x = true:=by
   rcases hf with z | z
   ·exact z
   ·rw [z] at hk; cases hk
  obtain ⟨c,hc⟩:=I.ok.has x (.inl hk)
  obtain ⟨w',z⟩:=I.cell x c hc
  refine wpAny_storeName_cell I.ok.kind hk hc z (fun h' hc' hs => ?_)
  obtain ⟨oc,hoc,hocd⟩:=id z
  refine h { s with heap:=h' } ⟨I.ok,I.os,I.bare,⟨fun b o e n hb hx => ?_,fun b o e n hb hx => ?_,I.base.free,fun b o e hx => ?_,I.base.tups,I.base.frzs,I.base.tbls⟩,⟨m,hn.sameBut hs (Ne.symm (cne x c hc)),fun j y v' e1 e2 e3 => ?_⟩,fun y c' e => ?_,I.free,I.freeC,fun p hp => ?_,tracked ⟨oc,hoc,I.freeC x c hc⟩ hs,by simpa using I.len⟩ ⟨c,hs,.inr hc⟩
  ·exact (hs.2 b (Nat.ne_of_lt (Nat.lt_of_lt_of_le (Heap.lt_size e) (I.ok.cab x c hfn hc)))).trans (I.base.keep b o e n hb hx)
  ·obtain ⟨sl,e1⟩:=I.base.slot b o e n hb hx
   exact ⟨sl,(hs.2 b (Nat.ne_of_lt (Nat.lt_of_lt_of_le (Heap.lt_size e) (I.ok.cab x c hfn hc)))).trans e1⟩
  ·obtain ⟨o',e1⟩:=I.base.there b o e hx
   exact ⟨o',(hs.2 b (Nat.ne_of_lt (Nat.lt_of_lt_of_le (Heap.lt_size e) (I.ok.cab x c hfn hc)))).trans e1⟩
  ·by_cases hj:j = i
   ·subst hj
    rw [hi] at e1; cases e1
    rw [List.getElem?_set_self hiσ] at e2
    cases e2
    exact ⟨u,r,.inr ⟨.inl hk,c,hc,hc'⟩⟩
   ·rw [List.getElem?_set_ne (Ne.symm hj)] at e2
    obtain ⟨u',r',q⟩:=hl j y v' e1 e2 e3
    refine ⟨u',r',?_⟩
    rcases q with q | ⟨k,c',e,z'⟩
    ·exact .inl q
    ·refine .inr ⟨k,c',e,z'.sameBut hs ?_⟩
     rintro rfl
     exact hj (nodup_ix hN e1 (I.ok.inj _ _ _ e hc ▸ hi))
  ·by_cases hcc:c' = c
   ·subst hcc; exact ⟨_,hc'⟩
   ·obtain ⟨w2,z2⟩:=I.cell y c' e
    exact ⟨w2,z2.sameBut hs hcc⟩
  ·obtain ⟨e,n,ne,nf,d⟩:=I.pin p hp
   refine ⟨(hs.2 p.1 ?_).trans e,n,ne,nf,d⟩
   intro q
   rw [q,hoc] at e
   have q':oc = p.2:=Option.some.inj e
   exact d w' (by rw [← q']; exact hocd)
theorem store_ok {M:Model} {A:Around} {E:Value → Shared → Prop} {i:Nat} {x:Str} {v:V} {u:Value} {Q:Unit → Shared → Prop} (I:Inv X pins σ H s) (hN:X.N.Nodup) (hi:X.N[i]? = some x) (hx:Loc X.env.scope x) (r:RelV v u)
  (h:∀ s',Inv X pins (σ.set i (some v)) H s' → Q () s') (hf:X.fn x = true ∨ X.env.scope.names.lookup x = some .local:=by first | exact .inl rfl | exact .inr rfl | assumption):wpAny M A (storeName X.env x u) Q E s :=
 store_ok2 I hN hi hx r (fun s' I' _ => h s' I') hf
theorem Inv.call' {s':Shared} {ch:List Addr} (I:Inv X pins σ H s) (ho:s'.os = s.os) (u:Un (frs X.stack) ch H H' s.heap s'.heap) (hok:HOk X.prog X.w H' s'.heap) (hg:AllBare s'.gens)
  (hch:∀ b ∈ ch,(b ∈ X.ex ∨ X.s₀.heap.objs.size ≤ b) ∧ b ≠ X.env.locals ∧ (∀ x c,X.env.cells.lookup x = some c → c ≠ b) ∧ ∀ p ∈ X.pn ++ pins,p.1 ≠ b):Inv X pins σ H' s':=by
 obtain ⟨h',g',d',t',o'⟩:=s'
 have e:o' = s.os:=ho
 subst e
 exact I.call (g':=g') (t':=t') (d':=d') u hok hg hch
end

/-! ### the judgements -/
noncomputable abbrev XK:=Value → Option Addr → Hp → Prop
noncomputable abbrev St:=List (Option V)
noncomputable abbrev VK:=V → Hp → Prop
noncomputable abbrev TE:=St → Hp → VK → Prop
noncomputable abbrev TT:=St → Hp → (Bool → Hp → Prop) → Prop
noncomputable abbrev TA:=St → Hp → (List V → Hp → Prop) → Prop
structure Ends where
 nx:St → Hp → Prop
 rt:VK
 bk:St → Hp → Prop:=fun _ _ => False
 ct:St → Hp → Prop:=fun _ _ => False
noncomputable abbrev TS:=Ends → St → Hp → Prop

noncomputable def EP (X:Cx) (pins:List (Addr × Obj)) (σ:St) (Q:VK) (u:Value) (s':Shared):Prop:=∃ v H',Inv X pins σ H' s' ∧ RelV v u ∧ Q v H'
noncomputable def TP (X:Cx) (pins:List (Addr × Obj)) (σ:St) (Q:Bool → Hp → Prop) (b:Bool) (s':Shared):Prop:=∃ H',Inv X pins σ H' s' ∧ Q b H'
noncomputable def AP (X:Cx) (pins:List (Addr × Obj)) (σ:St) (Q:List V → Hp → Prop) (us:List Value) (s':Shared):Prop:=∃ vs H',Inv X pins σ H' s' ∧ Vals vs us ∧ Q vs H'
noncomputable def SP (X:Cx) (pins:List (Addr × Obj)) (D:Ends) (f:Flow) (s':Shared):Prop :=
 match f with
 | .next => ∃ σ' H',Inv X pins σ' H' s' ∧ D.nx σ' H'
 | .brk => ∃ σ' H',Inv X pins σ' H' s' ∧ D.bk σ' H'
 | .cont => ∃ σ' H',Inv X pins σ' H' s' ∧ D.ct σ' H'
 | .ret u => ∃ v σ' H',Inv X pins σ' H' s' ∧ RelV v u ∧ D.rt v H'

noncomputable def PE (X:Cx) (e:Expr) (t:TE):Prop :=
 ∀ (pins:List (Addr × Obj)) (s:Shared) (σ:St) (H:Hp) (Q:VK),Inv X pins σ H s → t σ H Q → wpAny (model X.prog X.w) X.A (eval e X.env) (EP X pins σ Q) X.xe s
noncomputable def PT (X:Cx) (e:Expr) (t:TT):Prop :=
 ∀ (pins:List (Addr × Obj)) (s:Shared) (σ:St) (H:Hp) (Q:Bool → Hp → Prop),Inv X pins σ H s → t σ H Q → wpAny (model X.prog X.w) X.A (isTrue e X.env (eval e X.env)) (TP X pins σ Q) X.xe s
noncomputable def PW (X:Cx) (e:Expr) (t:TT):Prop :=
 ∀ (whole:Sem Value) (pins:List (Addr × Obj)) (s:Shared) (σ:St) (H:Hp) (Q:Bool → Hp → Prop),Inv X pins σ H s → t σ H Q → wpAny (model X.prog X.w) X.A (isTrue e X.env whole) (TP X pins σ Q) X.xe s
theorem PW.pt {X:Cx} {e:Expr} {t:TT} (h:PW X e t):PT X e t:=h _
noncomputable def PA (X:Cx) (es:List Expr) (t:TA):Prop :=
 ∀ (pos:Pos) (pins:List (Addr × Obj)) (s:Shared) (σ:St) (H:Hp) (Q:List V → Hp → Prop),Inv X pins σ H s → t σ H Q → wpAny (model X.prog X.w) X.A (spliced (backTo pos (starEach es X.env))) (AP X pins σ Q) X.xe s
noncomputable def PS (X:Cx) (st:Stmt) (t:TS):Prop :=
 ∀ (pins:List (Addr × Obj)) (s:Shared) (σ:St) (H:Hp) (D:Ends),Inv X pins σ H s → t D σ H → wpAny (model X.prog X.w) X.A (exec st X.env) (SP X pins D) X.xe s
noncomputable def PSs (X:Cx) (st:List Stmt) (t:TS):Prop :=
 ∀ (pins:List (Addr × Obj)) (s:Shared) (σ:St) (H:Hp) (D:Ends),Inv X pins σ H s → t D σ H → wpAny (model X.prog X.w) X.A (execs st X.env) (SP X pins D) X.xe s
theorem thn {α:Type} {t:Sem α} {Q Q':α → Shared → Prop} {M:Model} {A:Around} {E:Value → Shared → Prop} {s:Shared} (h:wpAny M A t Q E s) (hQ:∀ a s,Q a s → Q' a s):wpAny M A t Q' E s:=wpAny_mono h hQ fun _ _ x => x
end L2

namespace L2
open PySem PySem.Spec PyProof.Rows
section
variable {X:Cx}


/-! ### names and constants -/
noncomputable def tVar (i:Nat):TE:=fun σ H Q => ∃ v,σ[i]? = some (some v) ∧ Q v H
noncomputable def tC (v:V):TE:=fun _ H Q => Q v H
theorem pe_var {i:Nat} {x:Str} {pos:Pos} (hN:X.N[i]? = some x) (hv:Vis X.env.scope x) (hd:(x == ("__debug__":Str)) = false:=by decide) (hcd:(x == ("__classdict__":Str)) = false:=by decide):PE X (.Name x pos) (tVar i):=by
 intro pins s σ H Q I h
 obtain ⟨v,e,h⟩:=h
 obtain ⟨m,hn,hl⟩:=I.loc
 obtain ⟨u,r,l⟩:=hl i x v hN e hv
 have fin:EP X pins σ Q u s:=⟨v,H,I,r,h⟩
 rcases l with ⟨hk,hm⟩ | ⟨hk,c,hc,hcell⟩
 ·exact wpAny_Name (wpAny_loadName_local I.ok.kind hk hn hm fin) hd
 ·rcases hk with hk | hk
  ·exact wpAny_Name (wpAny_loadName_cell I.ok.kind hk hc hcell fin) hd
  ·exact wpAny_Name (wpAny_loadName_free I.ok.kind hk hc hcell fin hcd) hd
theorem pe_int {i j pos}:PE X (.Constant (.int i) j pos) (tC (.int i)):=fun _ _ _ H _ I h => wpAny_Constant_int ⟨.int i,H,I.tok _,⟨_,rfl⟩,h⟩
theorem pe_bl {b j pos}:PE X (.Constant (.bool b) j pos) (tC (.bl b)):=fun _ _ _ H _ I h => Constant_bool ⟨.bl b,H,I,rfl,h⟩
theorem pe_str {x j pos}:PE X (.Constant (.str x) j pos) (tC (.str x)):=fun _ _ _ H _ I h => Calls.Constant_str ⟨.str x,H,I.tok _,⟨_,rfl⟩,h⟩

noncomputable def Gl (X:Cx) (x:Str):Prop:=X.env.kindOf x = some .globalImplicit
theorem ld_glob {E:Value → Shared → Prop} {pins:List (Addr × Obj)} {s:Shared} {σ:St} {H:Hp} {x:Str} {u:Value} {pos:Pos} {Q:Value → Shared → Prop} (I:Inv X pins σ H s) (hg:Gl X x) (hm:X.mg x = some u) (h:Q u s)
  (hd:(x == ("__debug__":Str)) = false:=by decide):wpAny (model X.prog X.w) X.A (eval (.Name x pos) X.env) Q E s :=
 Calls.Name_function_global I.ok.kind hg (Calls.loadGlobal_global (by rw [I.ok.glob]; exact I.mod.glob.keeps I.bk) hm h) hd
theorem ld_blt {E:Value → Shared → Prop} {pins:List (Addr × Obj)} {s:Shared} {σ:St} {H:Hp} {x:Str} {u:Value} {pos:Pos} {Q:Value → Shared → Prop} (I:Inv X pins σ H s) (hg:Gl X x) (hm:X.mg x = none) (hv:bootBuiltins x = some u) (h:Q u s)
  (hn:x ≠ "__name__":=by decide) (hd:(x == ("__debug__":Str)) = false:=by decide):wpAny (model X.prog X.w) X.A (eval (.Name x pos) X.env) Q E s:=by
 obtain ⟨mb,h1,h2⟩:=I.mod.blt
 exact Calls.Name_function_global I.ok.kind hg (Calls.loadGlobal_builtin (by rw [I.ok.glob]; exact I.mod.glob.keeps I.bk) hm (by rw [I.ok.blt]; exact h1.keeps I.bk) ((h2 x hn).trans hv) h) hd
theorem pe_glob {x:Str} {v:V} {u:Value} {pos:Pos} (hg:Gl X x) (hm:X.mg x = some u) (r:RelV v u) (hd:(x == ("__debug__":Str)) = false:=by decide):PE X (.Name x pos) (tC v) :=
 fun _ _ _ H _ I h => ld_glob I hg hm ⟨v,H,I,r,h⟩ hd
theorem pe_bltn {x:Str} {v:V} {u:Value} {pos:Pos} (hg:Gl X x) (hm:X.mg x = none) (hv:bootBuiltins x = some u) (r:RelV v u) (hn:x ≠ "__name__":=by decide) (hd:(x == ("__debug__":Str)) = false:=by decide):PE X (.Name x pos) (tC v) :=
 fun _ _ _ H _ I h => ld_blt I hg hm hv ⟨v,H,I,r,h⟩ hn hd

/-! ### arithmetic -/
variable {a b:Expr} {ta tb:TE} {pos:Pos}

/-! ### comparisons -/
theorem nobehind (b:Expr) {op:CmpOp} (h:op ≠ .In) (h2:op ≠ .NotIn):behindInMarks op b = false:=by
 have e1:(op == CmpOp.In) = false:=by cases op <;> first | rfl | exact absurd rfl h
 have e2:(op == CmpOp.NotIn) = false:=by cases op <;> first | rfl | exact absurd rfl h2
 cases b <;> simp [behindInMarks,e1,e2]
noncomputable def tB (t:TE):TT:=fun σ H Q => t σ H fun x H1 => ∃ c,x = .bl c ∧ Q c H1
theorem pt_val {e:Expr} {t:TE} (h:PE X e t) (he:∀ whole,isTrue e X.env whole = (do let v ← whole; standAt e.pos; holding [v] (truthy v)):=by intro _; rfl):PT X e (tB t):=by
 intro pins s σ H Q I hw
 refine isTrue_plain (thn (h pins s σ H _ I hw) fun v s1 ⟨x,H1,I1,r1,q1⟩ => ?_) (he _)
 obtain ⟨d,rfl,q⟩:=q1
 cases r1
 exact wpAny_truthy_bool ⟨H1,I1,q⟩

/-! ### and,or,not -/
variable {tA tB':TT} {rest:List Expr}
noncomputable def tAnd (t u:TT):TT:=fun σ H Q => t σ H fun c H1 => if c = true then u σ H1 Q else Q false H1
noncomputable def tOr (t u:TT):TT:=fun σ H Q => t σ H fun c H1 => if c = true then Q true H1 else u σ H1 Q
noncomputable def tNot (t:TT):TT:=fun σ H Q => t σ H fun c H1 => Q (!c) H1
theorem pw_and1 (ha:PT X a tA):PW X (.BoolOp .And [a] pos) tA:=by
 intro wh pins s σ H Q I h
 refine isTrue_and (thn (ha pins s σ H Q I h) fun c s1 e => ?_)
 cases c with
 | true => exact isTrue_and_nil e
 | false => exact e
theorem pw_or1 (ha:PT X a tA):PW X (.BoolOp .Or [a] pos) tA:=by
 intro wh pins s σ H Q I h
 refine isTrue_or (thn (ha pins s σ H Q I h) fun c s1 e => ?_)
 cases c with
 | false => exact isTrue_or_nil e
 | true => exact e
theorem pw_and (ha:PT X a tA) (hb:PW X (.BoolOp .And (b :: rest) pos) tB'):PW X (.BoolOp .And (a :: b :: rest) pos) (tAnd tA tB'):=by
 intro wh pins s σ H Q I h
 refine isTrue_and (thn (ha pins s σ H _ I h) fun c s1 ⟨H1,I1,q1⟩ => ?_)
 cases c with
 | true => exact hb wh pins s1 σ H1 Q I1 q1
 | false => exact ⟨H1,I1,q1⟩
theorem pw_or (ha:PT X a tA) (hb:PW X (.BoolOp .Or (b :: rest) pos) tB'):PW X (.BoolOp .Or (a :: b :: rest) pos) (tOr tA tB'):=by
 intro wh pins s σ H Q I h
 refine isTrue_or (thn (ha pins s σ H _ I h) fun c s1 ⟨H1,I1,q1⟩ => ?_)
 cases c with
 | true => exact ⟨H1,I1,q1⟩
 | false => exact hb wh pins s1 σ H1 Q I1 q1
theorem pt_not (ha:PT X a tA):PT X (.UnaryOp .Not a pos) (tNot tA):=by
 intro pins s σ H Q I h
 exact isTrue_not (ha pins s σ H (fun c H1 => Q (!c) H1) I h)
noncomputable def tAndV (ta tb:TE):TE:=fun σ H Q => ta σ H fun x H1 => ∃ c,x = .bl c ∧ if c = true then tb σ H1 Q else Q (.bl false) H1
noncomputable def tNotV (ta:TE):TE:=fun σ H Q => ta σ H fun x H1 => ∃ c,x = .bl c ∧ Q (.bl (!c)) H1
theorem pe_one {op} {t:TE} (h:PE X a t):PE X (.BoolOp op [a] pos) t:=fun pins s σ H Q I hw => BoolOp_one (h pins s σ H Q I hw)
theorem pe_and (ha:PE X a ta) (hb:PE X (.BoolOp .And (b :: rest) pos) tb):PE X (.BoolOp .And (a :: b :: rest) pos) (tAndV ta tb):=by
 intro pins s σ H Q I h
 refine BoolOp_and (thn (ha pins s σ H _ I h) fun v s1 ⟨x,H1,I1,r1,q1⟩ => ?_)
 obtain ⟨c,rfl,q1⟩:=q1
 cases r1
 refine wpAny_truthy_bool ?_
 cases c with
 | true => exact hb pins s1 σ H1 Q I1 q1
 | false => exact ⟨.bl false,H1,I1,rfl,q1⟩
theorem pe_not (ha:PE X a ta):PE X (.UnaryOp .Not a pos) (tNotV ta):=by
 intro pins s σ H Q I h
 refine UnaryOp_ (thn (ha pins s σ H _ I h) fun v s1 ⟨x,H1,I1,r1,q1⟩ => ?_)
 obtain ⟨c,rfl,q1⟩:=q1
 cases r1
 exact not_of (wpAny_truthy_bool ⟨.bl (!c),H1,I1,rfl,q1⟩)
end
end L2

namespace L2
open PySem PySem.Spec PyProof.Rows

/-! ### a list,a tuple that is read: tracked,frozen,or an object of the module -/
noncomputable def SqL (K:PySem.W.Frag) (H:Hp) (a:Addr) (xs:List V):Prop :=
 Rd H a (.lst xs) ∨
  ∃ (o:Obj) (its:Array Value) (n:Nat),K.lookup a = some o ∧ o.cls = .type "list" ∧ o.dict = none ∧ o.data = .seq its n ∧ its.size ≤ sizeLine ∧ Vals xs its.toList
noncomputable def SqT (K:PySem.W.Frag) (H:Hp) (a:Addr) (xs:List V):Prop :=
 Rd H a (.tup xs) ∨
  ∃ (o:Obj) (its:Array Value) (n:Nat),K.lookup a = some o ∧ (o.cls = .type "tuple" ∧ o.dict = none) ∧ o.data = .seq its n ∧ its.size ≤ sizeLine ∧ Vals xs its.toList
noncomputable def absV:Value → Option V
 | .none => some .non
 | .bool b => some (.bl b)
 | .int i _ => some (.int i)
 | .str x _ => some (.str x)
 | .bytes b _ => some (.byt b)
 | .float b _ => some (.flt b)
 | .ref a => some (.ref a)
 | .type n => some (.ty n)
 | _ => none
theorem RelV.abs {x:V} {u:Value} (r:RelV x u):absV u = some x:=by
 cases x with
 | non => cases r; rfl
 | bl _ => cases r; rfl
 | int _ => obtain ⟨t,rfl⟩:=r; rfl
 | str _ => obtain ⟨t,rfl⟩:=r; rfl
 | byt _ => obtain ⟨t,rfl⟩:=r; rfl
 | flt _ => obtain ⟨t,rfl⟩:=r; rfl
 | ref _ => cases r; rfl
 | ty _ => cases r; rfl
theorem RelV.inj {x y:V} {u:Value} (r:RelV x u) (q:RelV y u):x = y:=Option.some.inj (r.abs.symm.trans q.abs)
theorem Vals.inj:∀ {xs ys:List V} {us:List Value},Vals xs us → Vals ys us → xs = ys
 | _,_,_,.nil,.nil => rfl
 | _,_,_,.cons r t,.cons r' t' => by rw [r.inj r',Vals.inj t t']
section
variable {X:Cx} {pins:List (Addr × Obj)} {σ:St} {H:Hp} {s:Shared} {a:Addr} {xs ys:List V}
theorem SqL.of {K:PySem.W.Frag} (h:H a = some (.lst xs)):SqL K H a xs:=.inl (.inl h)
theorem SqT.of {K:PySem.W.Frag} (h:H a = some (.tup xs)):SqT K H a xs:=.inl (.inl h)
theorem Inv.list (I:Inv X pins σ H s) (h:SqL X.K H a xs):∃ its:List Value,Vals xs its ∧ PlainL s.heap a its.toArray ∧ xs.length ≤ sizeLine:=by
 rcases h with h | ⟨o,its,n,hk,hc,hd,hs,hz,r⟩
 ·obtain ⟨z,its,n,r,e⟩:=h.ok I.hok
  exact ⟨its,r,⟨_,n,e,rfl,rfl,rfl⟩,z⟩
 ·refine ⟨its.toList,r,⟨o,n,I.kIn a o hk,hc,hd,by simpa using hs⟩,?_⟩
  have e:=r.length
  simp only [Array.length_toList] at e
  omega
theorem Inv.tuple (I:Inv X pins σ H s) (h:SqT X.K H a xs):∃ its:List Value,Vals xs its ∧ IsTup s.heap a its.toArray ∧ xs.length ≤ sizeLine:=by
 rcases h with h | ⟨o,its,n,hk,hc,hs,hz,r⟩
 ·obtain ⟨z,its,r,p⟩:=h.ok I.hok
  exact ⟨its,r,p.tup,z⟩
 ·refine ⟨its.toList,r,⟨o,I.kIn a o hk,hc.1,n,by simpa using hs⟩,?_⟩
  have e:=r.length
  simp only [Array.length_toList] at e
  omega
theorem Inv.tupN (I:Inv X pins σ H s) (h:SqT X.K H a xs):∃ its:List Value,Vals xs its ∧ TupN s.heap a its.toArray ∧ xs.length ≤ sizeLine:=by
 rcases h with h | ⟨o,its,n,hk,hc,hs,hz,r⟩
 ·obtain ⟨z,its,r,p⟩:=h.ok I.hok
  exact ⟨its,r,p,z⟩
 ·refine ⟨its.toList,r,⟨o,I.kIn a o hk,hc.1,⟨n,by simpa using hs⟩,hc.2⟩,?_⟩
  have e:=r.length
  have e2:its.toList.length = its.size:=Array.length_toList
  omega
theorem Inv.list_inj (I:Inv X pins σ H s) (h:SqL X.K H a xs) (h':SqL X.K H a ys):xs = ys:=by
 obtain ⟨its,r,⟨o,n,e,_,_,d⟩,_⟩:=I.list h
 obtain ⟨its',r',⟨o',n',e',_,_,d'⟩,_⟩:=I.list h'
 rw [e] at e'; cases e'
 rw [d] at d'
 injection d' with d1 _
 have:its = its':=by simpa using congrArg Array.toList d1
 subst this
 exact r.inj r'
theorem Inv.tuple_inj (I:Inv X pins σ H s) (h:SqT X.K H a xs) (h':SqT X.K H a ys):xs = ys:=by
 obtain ⟨its,r,⟨o,e,_,n,d⟩,_⟩:=I.tuple h
 obtain ⟨its',r',⟨o',e',_,n',d'⟩,_⟩:=I.tuple h'
 rw [e] at e'; cases e'
 rw [d] at d'
 injection d' with d1 _
 have:its = its':=by simpa using congrArg Array.toList d1
 subst this
 exact r.inj r'
end

/-! ### another wish about exceptions -/
noncomputable abbrev Cx.wish (X:Cx) (E:Value → Shared → Prop):Cx:={ X with xe:=E }
noncomputable abbrev Cx.nox (X:Cx):Cx:=X.wish fun _ _ => False
theorem Cx.Ok.wish {X:Cx} (ok:X.Ok) (E:Value → Shared → Prop):(X.wish E).Ok :=
 ⟨ok.mod,ok.kind,ok.glob,ok.blt,ok.above,ok.inj,ok.has,ok.cab,ok.hd,ok.frames,ok.stk,ok.exf,ok.bs,ok.bsz,ok.noex,ok.exfs,ok.funs,ok.frf⟩
theorem Cx.Ok.unwish {X:Cx} {E:Value → Shared → Prop} (ok:(X.wish E).Ok):X.Ok :=
 ⟨ok.mod,ok.kind,ok.glob,ok.blt,ok.above,ok.inj,ok.has,ok.cab,ok.hd,ok.frames,ok.stk,ok.exf,ok.bs,ok.bsz,ok.noex,ok.exfs,ok.funs,ok.frf⟩
section
variable {X:Cx} {pins:List (Addr × Obj)} {σ:St} {H:Hp} {s:Shared} {E:Value → Shared → Prop}
theorem Inv.wish (I:Inv X pins σ H s) (E:Value → Shared → Prop):Inv (X.wish E) pins σ H s:=⟨I.ok.wish E,I.os,I.bare,I.base,I.loc,I.cell,I.free,I.freeC,I.pin,I.hok,I.len⟩
theorem Inv.unwish (I:Inv (X.wish E) pins σ H s):Inv X pins σ H s:=⟨I.ok.unwish,I.os,I.bare,I.base,I.loc,I.cell,I.free,I.freeC,I.pin,I.hok,I.len⟩
theorem SP.unwish {D:Ends} {f:Flow} {s':Shared} (h:SP (X.wish E) pins D f s'):SP X pins D f s':=by
 cases f with
 | next => obtain ⟨σ',H',I,q⟩:=h; exact ⟨σ',H',I.unwish,q⟩
 | brk => obtain ⟨σ',H',I,q⟩:=h; exact ⟨σ',H',I.unwish,q⟩
 | cont => obtain ⟨σ',H',I,q⟩:=h; exact ⟨σ',H',I.unwish,q⟩
 | ret u => obtain ⟨v,σ',H',I,r,q⟩:=h; exact ⟨v,σ',H',I.unwish,r,q⟩
theorem PSs.nox {st:List Stmt} {t:TS} (h:PSs X.nox st t):PSs X st t:=fun pins s σ H D I hw =>
 wpAny_mono (h pins s σ H D (I.wish _) hw) (fun _ _ q => q.unwish) fun _ _ z => False.elim z
end

/-! ### blocks and small statements -/
section
variable {X:Cx} {st:Stmt} {rest:List Stmt} {t u:TS} {e:Expr} {te:TE} {pos:Pos}
noncomputable def tNext:TS:=fun D σ H => D.nx σ H
noncomputable def tSeq (t u:TS):TS:=fun D σ H => t { D with nx:=u D } σ H
theorem pss_nil:PSs X [] tNext:=fun _ _ σ H _ I h => wpAny_execs_nil ⟨σ,H,I,h⟩
theorem pss_cons (h1:PS X st t) (h2:PSs X rest u):PSs X (st :: rest) (tSeq t u):=by
 intro pins s σ H D I h
 refine wpAny_execs_cons (thn (h1 pins s σ H { D with nx:=u D } I h) fun f s1 q => ?_)
 cases f with
 | next =>
  obtain ⟨σ',H',I',q⟩:=q
  exact h2 pins s1 σ' H' D I' q
 | ret v => exact q
 | brk => exact q
 | cont => exact q
theorem pss_one (h1:PS X st t):PSs X [st] t:=by
 intro pins s σ H D I h
 refine wpAny_execs_cons (thn (h1 pins s σ H D I h) fun f s1 q => ?_)
 cases f with
 | next => exact wpAny_execs_nil q
 | ret v => exact q
 | brk => exact q
 | cont => exact q
theorem Inv.quiet {pins:List (Addr × Obj)} {σ:St} {H:Hp} {s:Shared} (I:Inv X pins σ H s):interactive X.env = false:=by simp [interactive,I.ok.kind]
noncomputable def tDrop (te:TE):TS:=fun D σ H => te σ H fun _ H1 => D.nx σ H1
theorem ps_expr (he:PE X e te) (hs:swapsWith e none pos.line X.env = pure false:=by rfl):PS X (.Expr e pos) (tDrop te):=by
 intro pins s σ H D I h
 exact wpAny_Expr_any (thn (he pins s σ H _ I h) fun v s1 ⟨x,H1,I1,r1,q1⟩ => ⟨σ,H1,I1,q1⟩) I.quiet hs
noncomputable def tRet (te:TE):TS:=fun D σ H => te σ H D.rt
theorem ps_ret (he:PE X e te):PS X (.Return (some e) pos) (tRet te):=by
 intro pins s σ H D I h
 exact wpAny_Return_some (thn (he pins s σ H _ I h) fun v s1 ⟨x,H1,I1,r1,q1⟩ => ⟨x,σ,H1,I1,r1,q1⟩)
noncomputable def tIfS (c:TT) (t u:TS):TS:=fun D σ H => c σ H fun b H1 => if b = true then t D σ H1 else u D σ H1
theorem ps_if {c:Expr} {a b:List Stmt} {tc:TT} (hc:PT X c tc) (ha:PSs X a t) (hb:PSs X b u):PS X (.If c a b pos) (tIfS tc t u):=by
 intro pins s σ H D I h
 refine wpAny_If (thn (hc pins s σ H _ I h) fun d s1 ⟨H1,I1,q1⟩ => ?_)
 cases d with
 | true => exact ha pins s1 σ H1 D I1 q1
 | false => exact hb pins s1 σ H1 D I1 q1
end

/-! ### targets -/
noncomputable abbrev TG:=V → St → Hp → (St → Hp → Prop) → Prop
noncomputable abbrev TGs:=List V → St → Hp → (St → Hp → Prop) → Prop
noncomputable def PG (X:Cx) (target:Expr) (t:TG):Prop :=
 ∀ (pins:List (Addr × Obj)) (s:Shared) (σ:St) (H:Hp) (v:V) (u:Value) (Q:St → Hp → Prop),Inv X pins σ H s → RelV v u → t v σ H Q →
  wpAny (model X.prog X.w) X.A (assign target X.env u) (fun _ s' => ∃ σ' H',Inv X pins σ' H' s' ∧ Q σ' H') X.xe s
noncomputable def PGs (X:Cx) (ts:List Expr) (t:TGs):Prop :=
 ∀ (pins:List (Addr × Obj)) (s:Shared) (σ:St) (H:Hp) (vs:List V) (us:List Value) (Q:St → Hp → Prop),Inv X pins σ H s → Vals vs us → t vs σ H Q →
  wpAny (model X.prog X.w) X.A (assignInOrder ((assignEach ts X.env).map (·.2)) us) (fun _ s' => ∃ σ' H',Inv X pins σ' H' s' ∧ Q σ' H') X.xe s
noncomputable abbrev TSet:=V → V → V → Hp → (Hp → Prop) → Prop
noncomputable def PSet (X:Cx) (t:TSet):Prop :=
 ∀ (pins:List (Addr × Obj)) (s:Shared) (σ:St) (H:Hp) (o i v:V) (ov iv u:Value) (Q:Hp → Prop),Inv X pins σ H s → RelV o ov → RelV i iv → RelV v u → t o i v H Q →
  wpAny (model X.prog X.w) X.A (setItem ov iv u) (fun _ s' => ∃ H',Inv X pins σ H' s' ∧ Q H') X.xe s
noncomputable abbrev TIp:=V → V → Hp → VK → Prop
noncomputable def PIp (X:Cx) (op:Operator) (t:TIp):Prop :=
 ∀ (pins:List (Addr × Obj)) (s:Shared) (σ:St) (H:Hp) (x y:V) (v u:Value) (Q:VK),Inv X pins σ H s → RelV x v → RelV y u → t x y H Q →
  wpAny (model X.prog X.w) X.A (inplaceOp op v u) (EP X pins σ Q) X.xe s
section
variable {X:Cx} {pos:Pos}
noncomputable def gName (i:Nat):TG:=fun v σ H Q => Q (σ.set i (some v)) H
theorem pg_name {i:Nat} {x:Str} (hN:X.N.Nodup) (hi:X.N[i]? = some x) (hx:Loc X.env.scope x) (hf:X.fn x = true ∨ X.env.scope.names.lookup x = some .local:=by first | exact .inl rfl | exact .inr rfl | assumption):PG X (.Name x pos) (gName i):=by
 intro pins s σ H v u Q I r h
 exact wpAny_assign_Name (store_ok I hN hi hx r (fun s' I' => ⟨_,H,I',h⟩) hf)
noncomputable def gNil:TGs:=fun vs σ H Q => vs = [] ∧ Q σ H
noncomputable def gCons (t:TG) (u:TGs):TGs:=fun vs σ H Q => ∃ v r,vs = v :: r ∧ t v σ H fun σ' H' => u r σ' H' Q
theorem pgs_nil:PGs X [] gNil:=by
 intro pins s σ H vs us Q I r h
 obtain ⟨e,h⟩:=h
 subst e
 cases r
 exact assignInOrder_nil ⟨σ,H,I,h⟩
theorem pgs_cons {e:Expr} {es:List Expr} {t:TG} {u:TGs} (h1:PG X e t) (h2:PGs X es u)
  (hs:(assignEach (e :: es) X.env).map (·.2) = assign e X.env :: (assignEach es X.env).map (·.2):=by rfl):PGs X (e :: es) (gCons t u):=by
 intro pins s σ H vs us Q I r h
 obtain ⟨v,vr,e1,h⟩:=h
 subst e1
 cases r with
 | cons r rr =>
  rw [hs]
  refine assignInOrder_cons (thn (h1 pins s σ H _ _ _ I r h) fun _ s1 ⟨σ1,H1,I1,q1⟩ => ?_)
  exact h2 pins s1 σ1 H1 _ _ Q I1 rr q1
noncomputable def gTup (K:PySem.W.Frag) (n:Nat) (t:TGs):TG:=fun v σ H Q => ∃ a xs,v = .ref a ∧ SqT K H a xs ∧ xs.length = n ∧ t xs σ H Q
theorem pg_tup {es:List Expr} {k:Nat} {t:TGs} {n:Nat} (hc:X.calm = true) (h:PGs X es t)
  (hn:(assignEach es X.env).length = n:=by rfl) (hst:(assignEach es X.env).findIdx? (·.1) = none:=by rfl):PG X (.Tuple es k pos) (gTup X.K n t):=by
 intro pins s σ H v u Q I r hw
 obtain ⟨a,xs,e1,hq,hl,hw⟩:=hw
 subst e1
 cases r
 obtain ⟨its,rv,ht,hz⟩:=I.tuple hq
 refine assign_Tuple_tuple (I.ok.hd hc) ht (by simp [hn,← hl,rv.length]) hst fun h' hx => ?_
 have I1:Inv X pins σ H { s with heap:=h' }:=I.kept (t':=s.toks) fun b o e => hx b o (Nat.ne_of_lt (Heap.lt_size e)) e
 exact h pins _ σ H xs _ Q I1 (by simpa using rv) hw
noncomputable def gSub (to ti:TE) (t:TSet):TG:=fun v σ H Q => to σ H fun o H1 => ti σ H1 fun i H2 => t o i v H2 fun H3 => Q σ H3
theorem pg_sub {o i:Expr} {to ti:TE} {t:TSet} (ho:PE X o to) (hi:PE X i ti) (hs:PSet X t)
  (ha:∀ v,assign (.Subscript o i pos) X.env v = (do
   let ov ← holding [v] (eval o X.env)
   let iv ← holding [v,ov] (eval i X.env)
   standAt pos
   holding [v,ov,iv] (setItem ov iv v)
   release [v,ov,iv] []):=by intro _; rfl):PG X (.Subscript o i pos) (gSub to ti t):=by
 intro pins s σ H v u Q I r h
 rw [ha]
 refine wpAny_bind (wpAny_holding (thn (ho pins s σ H _ I h) fun ov s1 ⟨x,H1,I1,r1,q1⟩ => ?_))
 refine wpAny_bind (wpAny_holding (thn (hi pins s1 σ H1 _ I1 q1) fun iv s2 ⟨y,H2,I2,r2,q2⟩ => ?_))
 refine wpAny_bind (wpAny_standAt (wpAny_bind (wpAny_holding (thn (hs pins s2 σ H2 x y v ov iv u _ I2 r1 r2 r q2) fun _ s3 ⟨H3,I3,q3⟩ => ?_))))
 exact wpAny_release ⟨σ,H3,I3,q3⟩
noncomputable def tAsg (te:TE) (g:TG):TS:=fun D σ H => te σ H fun x H1 => g x σ H1 D.nx
theorem ps_asg {tg e:Expr} {te:TE} {g:TG} (he:PE X e te) (hg:PG X tg g) (hs:swapsWithSole [tg] e pos.line X.env = pure false:=by rfl) (hw:swappedStores [tg] e X.env = pure none:=by rfl)
  (h1:(assignEach [tg] X.env).map (·.2) = [assign tg X.env]:=by rfl):PS X (.Assign [tg] e pos) (tAsg te g):=by
 intro pins s σ H D I h
 refine wpAny_Assign_stores (thn (he pins s σ H _ I h) fun v s1 ⟨x,H1,I1,r1,q1⟩ => ?_) hs hw
 rw [h1]
 exact thn (hg pins s1 σ H1 x v _ I1 r1 q1) fun _ s2 q => q
theorem ps_set {i:Nat} {x:Str} {e:Expr} {te:TE} {pos':Pos} (hN:X.N.Nodup) (hi:X.N[i]? = some x) (hx:Loc X.env.scope x) (he:PE X e te) (hs:swapsWith e (some (.Name x pos')) pos.line X.env = pure false:=by rfl) (hf:X.fn x = true ∨ X.env.scope.names.lookup x = some .local:=by first | exact .inl rfl | exact .inr rfl | assumption) :
  PS X (.Assign [.Name x pos'] e pos) (tAsg te (gName i)):=by
 intro pins s σ H D I h
 refine wpAny_Assign_Name (thn (he pins s σ H _ I h) fun v s1 ⟨y,H1,I1,r1,q1⟩ => ?_) hs
 exact store_ok I1 hN hi hx r1 (fun s2 I2 => ⟨_,H1,I2,q1⟩) hf
noncomputable def tAug (i:Nat) (te:TE) (ti:TIp):TS:=fun D σ H => ∃ x,σ[i]? = some (some x) ∧ te σ H fun y H1 => ti x y H1 fun z H2 => D.nx (σ.set i (some z)) H2
theorem ps_aug {i:Nat} {x:Str} {e:Expr} {te:TE} {op:Operator} {ti:TIp} {pos':Pos} (hN:X.N.Nodup) (hi:X.N[i]? = some x) (hx:Loc X.env.scope x) (he:PE X e te) (ho:PIp X op ti) (hf:X.fn x = true ∨ X.env.scope.names.lookup x = some .local:=by first | exact .inl rfl | exact .inr rfl | assumption) :
  PS X (.AugAssign (.Name x pos') op e pos) (tAug i te ti):=by
 intro pins s σ H D I h
 obtain ⟨v,e1,h⟩:=h
 obtain ⟨m,hn,hl⟩:=I.loc
 have vis:Vis X.env.scope x:=by rcases hx with k | k; exact .inl k; exact .inr (.inl k)
 obtain ⟨u,r,l⟩:=hl i x v hi e1 vis
 refine wpAny_AugAssign_Name ?_
 have go:wpAny (model X.prog X.w) X.A (eval e X.env) (fun w s₂ => wpAny (model X.prog X.w) X.A (inplaceOp op u w) (fun r s₃ => wpAny (model X.prog X.w) X.A (storeName X.env x r) (fun _ => SP X pins D .next) X.xe s₃) X.xe s₂) X.xe s:=by
  refine thn (he pins s σ H _ I h) fun w s1 ⟨y,H1,I1,r1,q1⟩ => ?_
  refine thn (ho pins s1 σ H1 v y u w _ I1 r r1 q1) fun z s2 ⟨zv,H2,I2,r2,q2⟩ => ?_
  exact store_ok I2 hN hi hx r2 (fun s3 I3 => ⟨_,H2,I3,q2⟩) hf
 rcases l with ⟨hk,hm⟩ | ⟨hk,c,hc,hcell⟩
 ·exact wpAny_loadName_local I.ok.kind hk hn hm go
 ·rcases hk with hk | hk
  ·exact wpAny_loadName_cell I.ok.kind hk hc hcell go
  ·rcases hx with k | k
   ·have:X.env.scope.names.lookup x = some .free:=hk
    rw [k] at this; cases this
   ·have:X.env.scope.names.lookup x = some .free:=hk
    rw [k] at this; cases this
noncomputable def ipI (f:Int → Int → Int):TIp:=fun x y H Q => ∃ i j,x = .int i ∧ y = .int j ∧ Q (.int (f i j)) H
theorem ip_add:PIp X .Add (ipI fun i j => i + j):=by
 intro pins s σ H x y v u Q I r1 r2 h
 obtain ⟨i,j,e1,e2,q⟩:=h
 subst e1; subst e2
 obtain ⟨t,rfl⟩:=r1
 obtain ⟨t',rfl⟩:=r2
 exact iadd_int ⟨.int _,H,I.tok _,⟨_,rfl⟩,q⟩
end

/-! ### while -/
section
variable {X:Cx} {pos:Pos}
noncomputable def tWhile (c:TT) (tb:TS):TS:=fun D σ H => ∃ W:Nat → St → Hp → Prop,(∃ m,W m σ H) ∧ ∀ m σ H,W m σ H →
 c σ H fun b H1 => if b = true then ∃ N:St → Hp → Prop,(∀ σ' H',N σ' H' → ∃ m',m' < m ∧ W m' σ' H') ∧ tb { D with nx:=N,ct:=N,bk:=D.nx } σ H1 else D.nx σ H1
theorem ps_while {c:Expr} {body:List Stmt} {tc:TT} {tb:TS} (hp:PassesOwn (model X.prog X.w) X.A X.env X.xe) (hc:PT X c tc) (hb:PSs X body tb):PS X (.While c body [] pos) (tWhile tc tb):=by
 intro pins s σ H D I h
 obtain ⟨W,⟨m0,w0⟩,turn⟩:=h
 refine wpAny_While (codeAny_whileLoop (fun n s' => ∃ σ' H',Inv X pins σ' H' s' ∧ W n σ' H') ?_ m0 ⟨σ,H,I,w0⟩)
 rintro n s1 ⟨σ1,H1,I1,w1⟩
 refine wpAny_passesOwn hp (thn (hc pins s1 σ1 H1 _ I1 (turn n σ1 H1 w1)) fun b s2 ⟨H2,I2,q2⟩ => ?_)
 cases b with
 | true =>
  obtain ⟨N,hN,q2⟩:=q2
  rw [if_pos rfl]
  refine wpAny_passesOwn hp (thn (hb pins s2 σ1 H2 _ I2 q2) fun f s3 q3 => ?_)
  cases f with
  | next =>
   obtain ⟨σ3,H3,I3,n3⟩:=q3
   obtain ⟨m',hm,w3⟩:=hN σ3 H3 n3
   exact ⟨m',hm,σ3,H3,I3,w3⟩
  | cont =>
   obtain ⟨σ3,H3,I3,n3⟩:=q3
   obtain ⟨m',hm,w3⟩:=hN σ3 H3 n3
   exact ⟨m',hm,σ3,H3,I3,w3⟩
  | brk => exact q3
  | ret v => exact q3
 | false =>
  rw [if_neg Bool.false_ne_true]
  exact wpAny_execs_nil ⟨σ1,H2,I2,q2⟩
end

/-! ### what a loop or a comprehension walks -/
structure It where
 go:Nat → Hp → Prop
 yld:Nat → Hp → V → Hp → Prop
 stop:Nat → Hp → Prop
noncomputable def FpOk (X:Cx) (pins:List (Addr × Obj)) (H:Hp) (b:Addr):Prop :=
 H b = none ∧ b ≠ X.env.locals ∧ b ∉ X.fs ∧ (b ∈ X.ex ∨ X.s₀.heap.objs.size ≤ b) ∧ (∀ x c,X.env.cells.lookup x = some c → c ≠ b) ∧ ∀ p ∈ X.pn ++ pins,p.1 ≠ b
theorem Inv.fpOk {X:Cx} {pins:List (Addr × Obj)} {σ:St} {H H':Hp} {s:Shared} {b:Addr} (I:Inv X pins σ H s) (hb:s.heap.objs.size ≤ b) (hn:H' b = none):FpOk X pins H' b:=by
 refine ⟨hn,Nat.ne_of_gt (Nat.lt_of_lt_of_le I.lt hb),I.nofs hb,.inr (Nat.le_trans I.sz hb),fun x c e z => ?_,fun p hp z => ?_⟩
 ·obtain ⟨v,q⟩:=I.cell x c e
  exact absurd (Nat.lt_of_lt_of_le q.lt (by rw [z]; exact hb)) (Nat.lt_irrefl _)
 ·exact absurd (Nat.lt_of_lt_of_le (Heap.lt_size (I.pin p hp).1) (by rw [z]; exact hb)) (Nat.lt_irrefl _)
structure Turn (P:Program) (w:World) (K:PySem.W.Frag) (tg:Expr) (J:It) (fp:List Addr) (it:Addr) (tn:Nat → Heap → Prop):Prop where
 mem:it ∈ fp
 obj:∀ i h,tn i h → ∀ b ∈ fp,∃ o,h.get? b = some o ∧ ∀ v,o.data ≠ .cell v
 keep:∀ i h h',tn i h → (∀ b ∈ fp,∀ o,h.get? b = some o → h'.get? b = some o) → tn i h'
 item:∀ (X:Cx),X.prog = P → X.w = w → X.K = K → X.calm = true → ∀ (i:Nat) (pins:List (Addr × Obj)) (s:Shared) (σ:St) (H:Hp) (E:Value → Shared → Prop),Inv X pins σ H s → (∀ b ∈ fp,FpOk X pins H b) → tn i s.heap → J.go i H →
  wpAny (model P w) X.A (pyNext (.ref it)) (fun r s1 => ∃ u,r = some u ∧
   wpAny (model P w) X.A (letOwnedTupleGo tg (.ref it) u) (fun _ s2 => ∃ x H',Inv X pins σ H' s2 ∧ RelV x u ∧ J.yld i H x H' ∧ tn (i + 1) s2.heap ∧ ∀ b ∈ fp,H' b = none) E s1) E s
 done:∀ (X:Cx),X.prog = P → X.w = w → X.K = K → X.calm = true → ∀ (i:Nat) (pins:List (Addr × Obj)) (s:Shared) (σ:St) (H:Hp) (E:Value → Shared → Prop),Inv X pins σ H s → (∀ b ∈ fp,FpOk X pins H b) → tn i s.heap → J.stop i H →
  wpAny (model P w) X.A (pyNext (.ref it)) (fun r s1 => r = none ∧ Inv X pins σ H s1) E s
 self:∀ (A:Around) (i:Nat) (s:Shared) (Q:Value → Shared → Prop) (E:Value → Shared → Prop),tn i s.heap → Q (.ref it) s → wpAny (model P w) A (pyIter (.ref it)) Q E s
noncomputable abbrev TI:=St → Hp → (It → Hp → Prop) → Prop
noncomputable def PIE (X:Cx) (pins:List (Addr × Obj)) (σ:St) (tg:Expr) (R:It → Hp → Prop) (itv:Value) (s2:Shared):Prop :=
 ∃ (it:Addr) (fp:List Addr) (tn:Nat → Heap → Prop) (J:It) (H':Hp),itv = .ref it ∧ Inv X pins σ H' s2 ∧ Turn X.prog X.w X.K tg J fp it tn ∧ tn 0 s2.heap ∧ (∀ b ∈ fp,FpOk X pins H' b) ∧ R J H'
noncomputable def PI (X:Cx) (tg iter:Expr) (wi:TI):Prop :=
 ∀ (pins:List (Addr × Obj)) (s:Shared) (σ:St) (H:Hp) (R:It → Hp → Prop),Inv X pins σ H s → wi σ H R →
  wpAny (model X.prog X.w) X.A (eval iter X.env) (fun v s1 => wpAny (model X.prog X.w) X.A (pyIter v) (PIE X pins σ tg R) X.xe s1) X.xe s

theorem go_of {M:Model} {A:Around} {E:Value → Shared → Prop} {s:Shared} {tg:Expr} {it:Addr} {u:Value} {o:Obj} {n:String} {vs:Array Value} {Q:Unit → Shared → Prop} (ho:s.heap.get? it = some o) (hc:o.cls = .type n) (hd:o.data = .fields vs)
    (hn:["enumerate","zip","dict_itemiterator","dict_reverseitemiterator","odict_iterator","itertools.zip_longest","itertools.pairwise"].contains n = false) (hQ:Q () s):wpAny M A (letOwnedTupleGo tg (.ref it) u) Q E s:=by
  unfold letOwnedTupleGo
  cases tg <;> first
    | exact wpAny_pure hQ
    | (cases u <;> first
        | exact wpAny_pure hQ
        | (refine wpAny_bind (wpAny_load ho ?_)
           rw [hc,hd]
           show wpAny M A (if (["enumerate","zip","dict_itemiterator","dict_reverseitemiterator","odict_iterator","itertools.zip_longest","itertools.pairwise"].contains n && vs[0]? == some (rawInt _)) = true then _ else _) Q E s
           rw [if_neg (by intro h; rw [hn,Bool.false_and] at h; cases h)]
           exact wpAny_pure hQ))

noncomputable def Itl (K:PySem.W.Frag) (a:Addr):It :=
 ⟨fun i H => ∃ xs x,SqL K H a xs ∧ xs[i]? = some x,fun i H x H' => H' = H ∧ ∀ xs,SqL K H a xs → xs[i]? = some x,fun i H => ∃ xs,SqL K H a xs ∧ xs.length ≤ i⟩
noncomputable def Itt (K:PySem.W.Frag) (a:Addr):It :=
 ⟨fun i H => ∃ xs x,SqT K H a xs ∧ xs[i]? = some x,fun i H x H' => H' = H ∧ ∀ xs,SqT K H a xs → xs[i]? = some x,fun i H => ∃ xs,SqT K H a xs ∧ xs.length ≤ i⟩
noncomputable def Itr (lo:Int) (n:Nat):It:=⟨fun i _ => i < n,fun i H x H' => H' = H ∧ x = .int (lo + i),fun i _ => n ≤ i⟩
theorem turn_list {P:Program} {w:World} {K:PySem.W.Frag} {tg:Expr} (a it:Addr):Turn P w K tg (Itl K a) [it] it (fun i h => h.IsListIter it a i) where
 mem:=by simp
 obj:=fun i h st b hb => by
  have e:b = it:=by simpa using hb
  subst e
  obtain ⟨o,e,c,d⟩:=st
  exact ⟨o,e,fun v z => by rw [d] at z; cases z⟩
 keep:=fun i h h' st k => st.at fun o e => k it (by simp) o e
 item:=by
  intro X hP hw hK hc i pins s σ H E I hf st hg
  subst hP hw hK
  obtain ⟨xs,x,hq,hx⟩:=hg
  obtain ⟨its,rv,p,hz⟩:=I.list hq
  obtain ⟨u,hu,ru⟩:=rv.get hx
  obtain ⟨f0,f1,f2,f3,f4,f5⟩:=hf it (by simp)
  refine wpAny_pyNext_list_item st p.isList (x:=u) (by simpa using hu) fun h' st' sb => ?_
  have I1:Inv X pins σ H { s with heap:=h' }:=I.turned (t':=s.toks) (fun b o hb e => (sb.2 b hb).trans e) f0 f1 f3 f4 f5
  obtain ⟨o,e,c,d⟩:=id st'
  exact ⟨u,rfl,go_of (s:={ s with heap:=h' }) e c d (by decide) ⟨x,H,I1,ru,⟨rfl,fun ys hy => by rw [I.list_inj hy hq]; exact hx⟩,st',fun b hb => (hf b hb).1⟩⟩
 done:=by
  intro X hP hw hK hc i pins s σ H E I hf st hg
  subst hP hw hK
  obtain ⟨xs,hq,hx⟩:=hg
  obtain ⟨its,rv,p,hz⟩:=I.list hq
  obtain ⟨f0,f1,f2,f3,f4,f5⟩:=hf it (by simp)
  have hl:=rv.length
  exact wpAny_pyNext_list_end (I.ok.hd hc) st p.isList (by simp; omega) fun h' eb => ⟨rfl,I.turned (t':=s.toks) (fun b o hb e => eb b o hb e) f0 f1 f3 f4 f5⟩
 self:=fun _ _ _ _ _ st h => wpAny_pyIter_listiter st h
theorem turn_tuple {P:Program} {w:World} {K:PySem.W.Frag} {tg:Expr} (a it:Addr):Turn P w K tg (Itt K a) [it] it (fun i h => h.IsTupleIter it a i) where
 mem:=by simp
 obj:=fun i h st b hb => by
  have e:b = it:=by simpa using hb
  subst e
  obtain ⟨o,e,c,d⟩:=st
  exact ⟨o,e,fun v z => by rw [d] at z; cases z⟩
 keep:=fun i h h' st k => st.at fun o e => k it (by simp) o e
 item:=by
  intro X hP hw hK hc i pins s σ H E I hf st hg
  subst hP hw hK
  obtain ⟨xs,x,hq,hx⟩:=hg
  obtain ⟨its,rv,p,hz⟩:=I.tuple hq
  obtain ⟨u,hu,ru⟩:=rv.get hx
  obtain ⟨f0,f1,f2,f3,f4,f5⟩:=hf it (by simp)
  refine wpAny_pyNext_tuple_item st (show s.heap.IsTuple a its.toArray from p) (x:=u) (by simpa using hu) fun h' st' sb => ?_
  have I1:Inv X pins σ H { s with heap:=h' }:=I.turned (t':=s.toks) (fun b o hb e => (sb.2 b hb).trans e) f0 f1 f3 f4 f5
  obtain ⟨o,e,c,d⟩:=id st'
  exact ⟨u,rfl,go_of (s:={ s with heap:=h' }) e c d (by decide) ⟨x,H,I1,ru,⟨rfl,fun ys hy => by rw [I.tuple_inj hy hq]; exact hx⟩,st',fun b hb => (hf b hb).1⟩⟩
 done:=by
  intro X hP hw hK hc i pins s σ H E I hf st hg
  subst hP hw hK
  obtain ⟨xs,hq,hx⟩:=hg
  obtain ⟨its,rv,p,hz⟩:=I.tuple hq
  obtain ⟨f0,f1,f2,f3,f4,f5⟩:=hf it (by simp)
  have hl:=rv.length
  exact wpAny_pyNext_tuple_end (I.ok.hd hc) st (show s.heap.IsTuple a its.toArray from p) (by simp; omega) fun h' eb => ⟨rfl,I.turned (t':=s.toks) (fun b o hb e => eb b o hb e) f0 f1 f3 f4 f5⟩
 self:=fun _ _ _ _ _ st h => wpAny_pyIter_tupleiter st h
theorem turn_range {P:Program} {w:World} {K:PySem.W.Frag} {tg:Expr} (it:Addr) (lo:Int) (n:Nat):Turn P w K tg (Itr lo n) [it] it (fun i h => IsRangeIter h it (lo + (i:Nat) * 1) ((n:Int) - (i:Nat)) 1) where
 mem:=by simp
 obj:=fun i h st b hb => by
  have e:b = it:=by simpa using hb
  subst e
  exact ⟨_,st,fun v z => by
   have z':Data.fields _ = Data.cell v:=z
   cases z'⟩
 keep:=fun i h h' st k => k it (by simp) _ st
 item:=by
  intro X hP hw hK hc i pins s σ H E I hf st hg
  subst hP hw hK
  obtain ⟨f0,f1,f2,f3,f4,f5⟩:=hf it (by simp)
  have W:=Walks.range (prog:=X.prog) (w:=X.w) (I.ok.hd hc) it lo 1 n
  refine W.item i s _ _ hg st fun v h' tk hv st' kk => ?_
  obtain ⟨t,rfl⟩:=hv
  have I1:Inv X pins σ H { s with heap:=h',toks:=tk }:=I.turned (fun b o hb e => kk b o (by simpa using hb) e) f0 f1 f3 f4 f5
  refine ⟨_,rfl,go_of (s:={ s with heap:=h',toks:=tk }) (n:="range_iterator") st' rfl rfl (by decide) ⟨.int (lo + i),H,I1,⟨t,?_⟩,⟨rfl,rfl⟩,st',fun b hb => (hf b hb).1⟩⟩
  rw [Int.mul_one]
 done:=by
  intro X hP hw hK hc i pins s σ H E I hf st hg
  subst hP hw hK
  obtain ⟨f0,f1,f2,f3,f4,f5⟩:=hf it (by simp)
  exact wpAny_pyNext_range_end (I.ok.hd hc) st (by have:n ≤ i:=hg; omega) fun h' eb => ⟨rfl,I.turned (t':=s.toks) (fun b o hb e => eb b o hb e) f0 f1 f3 f4 f5⟩
 self:=fun _ _ _ _ _ st h => wpAny_pyIter_rangeiter st h
end L2

namespace L2
open PySem PySem.Spec PyProof.Rows
section
variable {X:Cx} {tg:Expr}
theorem range_it {pins:List (Addr × Obj)} {σ:St} {H:Hp} {s:Shared} {R:It → Hp → Prop} {E:Value → Shared → Prop} {lo hi:Int} {t u v:Tok} {tk:Nat} (I:Inv X pins σ H s) (h1:-(2 ^ 62) ≤ lo) (h2:lo < 2 ^ 62) (h3:-(2 ^ 62) ≤ hi) (h4:hi < 2 ^ 62)
  (q:R (Itr lo (hi - lo).toNat) H):wpAny (model X.prog X.w) X.A (pyIter (.ref s.heap.objs.size)) (PIE X pins σ tg R) E { s with heap:=s.heap.push { cls:=.type "range",data:=.fields #[.int lo t,.int hi u,.int 1 v] },toks:=tk }:=by
 refine wpAny_pyIter_range (IsRange.new ..) (small_one h1 h2 h3 h4) ?_
 have I1:Inv X pins σ H { s with heap:=s.heap.push { cls:=.type "range",data:=.fields #[.int lo t,.int hi u,.int 1 v] },toks:=tk }:=I.kept fun b o e => Heap.get?_push_of_some _ e
 refine ⟨(s.heap.push { cls:=.type "range",data:=.fields #[.int lo t,.int hi u,.int 1 v] }).objs.size,[(s.heap.push { cls:=.type "range",data:=.fields #[.int lo t,.int hi u,.int 1 v] }).objs.size],_,_,H,rfl,
  I1.kept (t':=tk) fun b o e => Heap.get?_push_of_some _ e,turn_range _ lo (hi - lo).toNat,?_,fun b hb => ?_,q⟩
 ·have e1:lo + ((0:Nat):Int) * 1 = lo:=by simp
  have e2:(((hi - lo).toNat:Nat):Int) - ((0:Nat):Int) = Builtin.Range.rangeSize lo hi 1:=by rw [rangeSize_one]; split <;> omega
  show IsRangeIter _ _ (lo + ((0:Nat):Int) * 1) ((((hi - lo).toNat:Nat):Int) - ((0:Nat):Int)) 1
  rw [e1,e2]
  exact Heap.get?_push_size _ rfl
 ·have e:b = (s.heap.push { cls:=.type "range",data:=.fields #[.int lo t,.int hi u,.int 1 v] }).objs.size:=by simpa using hb
  subst e
  exact I1.fpOk (Nat.le_refl _) (I1.hok.fresh (Nat.le_refl _))
noncomputable def iRng1 (ta:TA):TI:=fun σ H R => ta σ H fun vs H1 => ∃ j:Int,vs = [.int j] ∧ -(2 ^ 62) ≤ j ∧ j < 2 ^ 62 ∧ R (Itr 0 j.toNat) H1
theorem pi_range1 {a:Expr} {ta:TA} {p pos:Pos} (hg:Gl X "range") (hm:X.mg "range" = none) (ha:PA X [a] ta) (hs:starEach [a] X.env = [(false,eval a X.env)]:=by rfl):PI X tg (.Call (.Name "range" p) [a] [] pos) (iRng1 ta):=by
 intro pins s σ H R I h
 refine Call_ (ld_blt I hg hm boot_range (PyProof.Rows.callWith_type1 (thn (ha pos pins s σ H _ I h) fun us s1 ⟨vs,H1,I1,r1,q1⟩ => ?_) hs rfl))
 obtain ⟨j,e,q1,q2,q⟩:=q1
 subst e
 cases r1 with
 | cons r rr =>
  cases rr
  obtain ⟨t,rfl⟩:=r
  exact call_range_1 (range_it I1 (by omega) (by omega) q1 q2 (by simpa using q))

/-! ### for -/
noncomputable def tFor (wi:TI) (g:TG) (tb:TS):TS:=fun D σ H => wi σ H fun J H1 => ∃ W:Nat → Nat → St → Hp → Prop,(∃ m,W 0 m σ H1) ∧ ∀ i m σ H,W i m σ H →
 (J.stop i H ∧ D.nx σ H) ∨ (J.go i H ∧ ∃ N:St → Hp → Prop,(∀ σ' H',N σ' H' → ∃ m',m' < m ∧ W (i + 1) m' σ' H') ∧ ∀ x H',J.yld i H x H' → g x σ H' fun σ2 H2 => tb { D with nx:=N,ct:=N,bk:=D.nx } σ2 H2)
noncomputable def pinsAt (fp:List Addr) (h:Heap):List (Addr × Obj):=fp.filterMap fun b => (h.get? b).map fun o => (b,o)
theorem mem_pinsAt {fp:List Addr} {h:Heap} {b:Addr} {o:Obj} (hb:b ∈ fp) (e:h.get? b = some o):(b,o) ∈ pinsAt fp h:=List.mem_filterMap.mpr ⟨b,hb,by rw [e]; rfl⟩
theorem of_pinsAt {fp:List Addr} {h:Heap} {p:Addr × Obj} (hp:p ∈ pinsAt fp h):p.1 ∈ fp ∧ h.get? p.1 = some p.2:=by
 obtain ⟨b,hb,e⟩:=List.mem_filterMap.mp hp
 cases q:h.get? b with
 | none => rw [q] at e; cases e
 | some o =>
  rw [q] at e
  have e':(b,o) = p:=Option.some.inj e
  subst e'
  exact ⟨hb,q⟩
theorem Inv.pinned {pins:List (Addr × Obj)} {σ:St} {H:Hp} {s:Shared} {fp:List Addr} (I:Inv X pins σ H s) (hf:∀ b ∈ fp,FpOk X pins H b) (ho:∀ b ∈ fp,∃ o,s.heap.get? b = some o ∧ ∀ v,o.data ≠ .cell v):Inv X (pins ++ pinsAt fp s.heap) σ H s :=
 I.pins_of fun p hp => (List.mem_append.mp hp).elim (fun z => I.pin p (List.mem_append_right _ z)) fun z => by
  obtain ⟨hb,e⟩:=of_pinsAt z
  obtain ⟨f0,f1,f2,_⟩:=hf p.1 hb
  obtain ⟨o,e',d⟩:=ho p.1 hb
  rw [e] at e'; cases e'
  exact ⟨e,f0,f1,f2,d⟩
theorem Inv.unpinned {pins pl:List (Addr × Obj)} {σ:St} {H:Hp} {s:Shared} (I:Inv X (pins ++ pl) σ H s):Inv X pins σ H s:=I.pins_of fun p hp => I.pin p (List.mem_append_right _ (List.mem_append_left _ hp))
theorem ps_for {iter:Expr} {body:List Stmt} {wi:TI} {g:TG} {tb:TS} {pos:Pos} (hp:PassesOwn (model X.prog X.w) X.A X.env X.xe) (hc:X.calm = true) (hi:PI X tg iter wi) (hg:PG X tg g) (hb:PSs X body tb)
  (hs:∀ x,foldedSetIterable iter X.env x = pure x:=by intro _; rfl):PS X (.For tg iter body [] pos) (tFor wi g tb):=by
 intro pins s σ H D I h
 refine wpAny_For (thn (hi pins s σ H _ I h) fun v s1 h1 => thn h1 fun itv s2 h2 => ?_) hs
 obtain ⟨it,fp,tn,J,H2,e,I2,T,st2,f2,W,⟨m0,w0⟩,turn⟩:=h2
 subst e
 -- what stays true of the iterator's objects through the loop
 have stat:∀ {H':Hp},(∀ b ∈ fp,H' b = none) → ∀ b ∈ fp,FpOk X pins H' b:=fun hn b hb => ⟨hn b hb,(f2 b hb).2⟩
 refine codeAny_forLoop_any (fun n s' => ∃ i σ' H',Inv X pins σ' H' s' ∧ tn i s'.heap ∧ (∀ b ∈ fp,H' b = none) ∧ W i n σ' H') ?_ m0 ⟨0,σ,H2,I2,st2,fun b hb => (f2 b hb).1,w0⟩
 rintro n s3 ⟨i,σ3,H3,I3,st3,fr3,w3⟩
 rcases turn i n σ3 H3 w3 with ⟨stop,qn⟩ | ⟨go,N,hN,step⟩
 ·refine wpAny_passesOwn hp (thn (T.done X rfl rfl rfl hc i pins s3 σ3 H3 X.xe I3 (stat fr3) st3 stop) fun r s4 ⟨hr,I4⟩ => ?_)
  subst hr
  exact wpAny_execs_nil ⟨σ3,H3,I4,qn⟩
 ·refine wpAny_passesOwn hp (thn (T.item X rfl rfl rfl hc i pins s3 σ3 H3 X.xe I3 (stat fr3) st3 go) fun r s4 ⟨u,hr,h4⟩ => ?_)
  subst hr
  refine wpAny_passesOwn hp (thn h4 fun _ s5 ⟨x,H5,I5,r5,y5,st5,fr5⟩ => ?_)
  have I5':=I5.pinned (stat fr5) (T.obj _ _ st5)
  refine wpAny_passesOwn hp (thn (hg _ s5 σ3 H5 x u _ I5' r5 (step x H5 y5)) fun _ s6 ⟨σ6,H6,I6,q6⟩ => ?_)
  refine wpAny_passesOwn hp (thn (hb _ s6 σ6 H6 _ I6 q6) fun f s7 q7 => ?_)
  have again:∀ {σ7:St} {H7:Hp},Inv X (pins ++ pinsAt fp s5.heap) σ7 H7 s7 → N σ7 H7 → ∃ m,m < n ∧ ∃ i σ' H',Inv X pins σ' H' s7 ∧ tn i s7.heap ∧ (∀ b ∈ fp,H' b = none) ∧ W i m σ' H':=fun {σ7 H7} I7 n7 => by
   obtain ⟨m',hm,w7⟩:=hN σ7 H7 n7
   refine ⟨m',hm,i + 1,σ7,H7,I7.unpinned,T.keep _ _ _ st5 fun b hb o e => (I7.pin (b,o) (List.mem_append_right _ (List.mem_append_right _ (mem_pinsAt hb e)))).1,fun b hb => ?_,w7⟩
   obtain ⟨o,e,d⟩:=T.obj _ _ st5 b hb
   exact (I7.pin (b,o) (List.mem_append_right _ (List.mem_append_right _ (mem_pinsAt hb e)))).2.1
  cases f with
  | next => obtain ⟨σ7,H7,I7,n7⟩:=q7; exact again I7 n7
  | cont => obtain ⟨σ7,H7,I7,n7⟩:=q7; exact again I7 n7
  | brk => obtain ⟨σ7,H7,I7,q7⟩:=q7; exact ⟨σ7,H7,I7.unpinned,q7⟩
  | ret v => obtain ⟨x7,σ7,H7,I7,r7,q7⟩:=q7; exact ⟨x7,σ7,H7,I7.unpinned,r7,q7⟩
end

/-! ### the forms one uses -/
end L2

namespace L2
open PySem PySem.Spec PyProof.Rows

noncomputable abbrev R2:=V → V → Hp → VK → Prop
noncomputable def OpR (X:Cx) (f:Value → Value → Sem Value) (r:R2):Prop :=
 ∀ (pins:List (Addr × Obj)) (s:Shared) (σ:St) (H:Hp) (x y:V) (v u:Value) (Q:VK),Inv X pins σ H s → RelV x v → RelV y u → r x y H Q →
  wpAny (model X.prog X.w) X.A (f v u) (EP X pins σ Q) X.xe s
noncomputable def UnR (X:Cx) (f:Value → Sem Value) (r:V → Hp → VK → Prop):Prop :=
 ∀ (pins:List (Addr × Obj)) (s:Shared) (σ:St) (H:Hp) (x:V) (v:Value) (Q:VK),Inv X pins σ H s → RelV x v → r x H Q →
  wpAny (model X.prog X.w) X.A (f v) (EP X pins σ Q) X.xe s
noncomputable def CallR (X:Cx) (f:Value) (r:List V → Hp → VK → Prop):Prop :=
 ∀ (pins:List (Addr × Obj)) (s:Shared) (σ:St) (H:Hp) (xs:List V) (us:List Value) (Q:VK),Inv X pins σ H s → Vals xs us → r xs H Q →
  wpAny (model X.prog X.w) X.A (call f us) (EP X pins σ Q) X.xe s

noncomputable def tOp (r:R2) (ta tb:TE):TE:=fun σ H Q => ta σ H fun x H1 => tb σ H1 fun y H2 => r x y H2 Q
noncomputable def tUn (r:V → Hp → VK → Prop) (ta:TE):TE:=fun σ H Q => ta σ H fun x H1 => r x H1 Q
noncomputable def rI (C:Int → Int → Prop) (g:Int → Int → V):R2:=fun x y H Q => ∃ i j,x = .int i ∧ y = .int j ∧ C i j ∧ Q (g i j) H
noncomputable def rI0 (g:Int → Int → V):R2:=fun x y H Q => ∃ i j,x = .int i ∧ y = .int j ∧ Q (g i j) H
noncomputable def rU (g:Int → V):V → Hp → VK → Prop:=fun x H Q => ∃ i,x = .int i ∧ Q (g i) H

section
variable {X:Cx} {a b c:Expr} {ta tb tc:TE} {pos:Pos}

theorem binT (ha:PE X a ta) (hb:PE X b tb) {pins:List (Addr × Obj)} {s:Shared} {σ:St} {H:Hp} {R:V → V → Hp → Prop} (I:Inv X pins σ H s)
  (h:ta σ H fun x H1 => tb σ H1 fun y H2 => R x y H2) {Q:Value → Shared → Prop} {f:Value → Value → Sem Value}
  (hf:∀ v u s2 x y H2,Inv X pins σ H2 s2 → RelV x v → RelV y u → R x y H2 → wpAny (model X.prog X.w) X.A (f v u) Q X.xe s2) :
  wpAny (model X.prog X.w) X.A (eval a X.env) (fun v s₁ => wpAny (model X.prog X.w) X.A (eval b X.env) (fun u s₂ => wpAny (model X.prog X.w) X.A (f v u) Q X.xe s₂) X.xe s₁) X.xe s:=by
 refine thn (ha pins s σ H _ I h) fun v s1 ⟨x,H1,I1,r1,q1⟩ => ?_
 refine thn (hb pins s1 σ H1 _ I1 q1) fun u s2 ⟨y,H2,I2,r2,q2⟩ => ?_
 exact hf v u s2 x y H2 I2 r1 r2 q2

theorem pe_op {op:Operator} {r:R2} (ho:OpR X (binaryOp op) r) (ha:PE X a ta) (hb:PE X b tb):PE X (.BinOp a op b pos) (tOp r ta tb):=by
 intro pins s σ H Q I h
 exact wpAny_BinOp (binT ha hb I h fun v u s2 x y H2 I2 rx ry q => ho pins s2 σ H2 x y v u Q I2 rx ry q)
theorem pe_un {op:UnaryOp} {r:V → Hp → VK → Prop} (ho:UnR X (unaryOp op) r) (ha:PE X a ta):PE X (.UnaryOp op a pos) (tUn r ta):=by
 intro pins s σ H Q I h
 exact UnaryOp_ (thn (ha pins s σ H _ I h) fun v s1 ⟨x,H1,I1,r1,q1⟩ => ho pins s1 σ H1 x v Q I1 r1 q1)

/-! ### ints -/
theorem opI {f:Value → Value → Sem Value} {C:Int → Int → Prop} {g:Int → Int → Int}
  (rule:∀ (i j:Int) (t u:Tok) (s:Shared) (Q:Value → Shared → Prop) (E:Value → Shared → Prop),C i j → Q (.int (g i j) s.toks) { s with toks:=s.toks + 1 } → wpAny (model X.prog X.w) X.A (f (.int i t) (.int j u)) Q E s) :
  OpR X f (rI C fun i j => .int (g i j)):=by
 intro pins s σ H x y v u Q I rx ry h
 obtain ⟨i,j,rfl,rfl,hc,q⟩:=h
 obtain ⟨t,rfl⟩:=rx
 obtain ⟨t',rfl⟩:=ry
 exact rule i j t t' s _ _ hc ⟨.int (g i j),H,I.tok _,⟨_,rfl⟩,q⟩
theorem opI0 {f:Value → Value → Sem Value} {g:Int → Int → Int}
  (rule:∀ (i j:Int) (t u:Tok) (s:Shared) (Q:Value → Shared → Prop) (E:Value → Shared → Prop),Q (.int (g i j) s.toks) { s with toks:=s.toks + 1 } → wpAny (model X.prog X.w) X.A (f (.int i t) (.int j u)) Q E s) :
  OpR X f (rI0 fun i j => .int (g i j)):=by
 intro pins s σ H x y v u Q I rx ry h
 obtain ⟨i,j,rfl,rfl,q⟩:=h
 obtain ⟨t,rfl⟩:=rx
 obtain ⟨t',rfl⟩:=ry
 exact rule i j t t' s _ _ ⟨.int (g i j),H,I.tok _,⟨_,rfl⟩,q⟩
theorem opB0 {f:Value → Value → Sem Value} {g:Int → Int → Bool}
  (rule:∀ (i j:Int) (t u:Tok) (s:Shared) (Q:Value → Shared → Prop) (E:Value → Shared → Prop),Q (.bool (g i j)) s → wpAny (model X.prog X.w) X.A (f (.int i t) (.int j u)) Q E s) :
  OpR X f (rI0 fun i j => .bl (g i j)):=by
 intro pins s σ H x y v u Q I rx ry h
 obtain ⟨i,j,rfl,rfl,q⟩:=h
 obtain ⟨t,rfl⟩:=rx
 obtain ⟨t',rfl⟩:=ry
 exact rule i j t t' s _ _ ⟨.bl (g i j),H,I,rfl,q⟩

noncomputable def CDiv (i j:Int):Prop:=0 < j ∧ j < 1073741824
noncomputable def CPow (i j:Int):Prop:=0 ≤ j ∧ j ≤ 1000000 ∧ i.natAbs < 2 ^ 64
noncomputable def CMul (i j:Int):Prop:=(-(2 ^ 64) < i ∧ i < 2 ^ 64) ∨ (-(2 ^ 64) < j ∧ j < 2 ^ 64)
theorem CMul.ok {i j:Int} (h:CMul i j):IntMulOk i j:=by
 rcases h with ⟨h1,h2⟩ | ⟨h1,h2⟩
 ·exact .of_left (intBits_le_64 h1 h2)
 ·exact .of_right (intBits_le_64 h1 h2)

theorem op_add:OpR X (binaryOp .Add) (rI0 fun i j => .int (i + j)):=opI0 fun _ _ _ _ _ _ _ q => add_int q
theorem op_sub:OpR X (binaryOp .Sub) (rI0 fun i j => .int (i - j)):=opI0 fun _ _ _ _ _ _ _ q => sub_int q
theorem op_mul:OpR X (binaryOp .Mult) (rI CMul fun i j => .int (i * j)):=opI fun _ _ _ _ _ _ _ hc q => mul_int q hc.ok
theorem op_fdiv:OpR X (binaryOp .FloorDiv) (rI CDiv fun i j => .int (i / j)):=opI fun i j _ _ _ _ _ hc q => by
 have h1:(0:Int) < j:=hc.1
 have h2:j < 1073741824:=hc.2
 exact floordiv_int (by omega) (by rw [Int.fdiv_eq_ediv_of_nonneg i (by omega)]; exact q) (.inl (PyProof.noPylong_small (by omega)))
theorem op_mod:OpR X (binaryOp .Mod) (rI (fun _ j => 0 < j) fun i j => .int (i % j)):=opI fun i j _ _ _ _ _ hc q => by
 have h1:(0:Int) < j:=hc
 exact mod_int' (by omega) (by rw [Int.fmod_eq_emod_of_nonneg i (by omega)]; exact q)
theorem op_pow:OpR X (binaryOp .Pow) (rI CPow fun i j => .int (i ^ j.toNat)):=opI fun _ _ _ _ _ _ _ hc q => pow_int_small hc.1 hc.2.1 hc.2.2 q


theorem unI {f:Value → Sem Value} {g:Int → Int}
  (rule:∀ (i:Int) (t:Tok) (s:Shared) (Q:Value → Shared → Prop) (E:Value → Shared → Prop),Q (.int (g i) s.toks) { s with toks:=s.toks + 1 } → wpAny (model X.prog X.w) X.A (f (.int i t)) Q E s) :
  UnR X f (rU fun i => .int (g i)):=by
 intro pins s σ H x v Q I rx h
 obtain ⟨i,rfl,q⟩:=h
 obtain ⟨t,rfl⟩:=rx
 exact rule i t s _ _ ⟨.int (g i),H,I.tok _,⟨_,rfl⟩,q⟩
theorem un_neg:UnR X (unaryOp .USub) (rU fun i => .int (-i)):=unI fun _ _ _ _ _ q => neg_int q

/-! ### bools among ints: n += (a < b) -/
end

/-! ### comparisons -/


section
variable {X:Cx} {a b c:Expr} {ta tb tc:TE} {pos:Pos}
theorem fin_bl {pins:List (Addr × Obj)} {σ:St} {H:Hp} {s:Shared} {Q:VK} {k k':Bool} (I:Inv X pins σ H s) (q:Q (.bl k) H) (e:k = k'):EP X pins σ Q (.bool k') s:=by
 subst e
 exact ⟨.bl k,H,I,rfl,q⟩

theorem op_lt:OpR X (compareOp .Lt) (rI0 fun i j => .bl (decide (i < j))):=opB0 fun _ _ _ _ _ _ _ q => lt_int q
theorem op_le:OpR X (compareOp .LtE) (rI0 fun i j => .bl (decide (i ≤ j))):=opB0 fun _ _ _ _ _ _ _ q => le_int q
theorem op_gt:OpR X (compareOp .Gt) (rI0 fun i j => .bl (decide (j < i))):=opB0 fun _ _ _ _ _ _ _ q => gt_int q
theorem op_ge:OpR X (compareOp .GtE) (rI0 fun i j => .bl (decide (j ≤ i))):=opB0 fun _ _ _ _ _ _ _ q => ge_int q
theorem op_in_str:OpR X (compareOp .In) (fun x y H Q => ∃ i j,x = .str i ∧ y = .str j ∧ Q (.bl (!(Builtin.Str.occurrences j i 0 j.length 1).isEmpty)) H):=by
 intro pins s σ H x y v u Q I rx ry h
 obtain ⟨i,j,rfl,rfl,q⟩:=h
 obtain ⟨t,rfl⟩:=rx
 obtain ⟨t',rfl⟩:=ry
 exact in_str (fin_bl I q rfl)


theorem op_notin_str:OpR X (compareOp .NotIn) (fun x y H Q => ∃ i j,x = .str i ∧ y = .str j ∧ Q (.bl (!(!(Builtin.Str.occurrences j i 0 j.length 1).isEmpty))) H):=by
 intro pins s σ H x y v u Q I rx ry h
 obtain ⟨i,j,rfl,rfl,q⟩:=h
 obtain ⟨t,rfl⟩:=rx
 obtain ⟨t',rfl⟩:=ry
 exact notIn_str (fin_bl I q rfl)

theorem OpR.or {f:Value → Value → Sem Value} {r r':R2} (h:OpR X f r) (h':OpR X f r'):OpR X f (fun x y H Q => r x y H Q ∨ r' x y H Q):=by
 intro pins s σ H x y v u Q I rx ry q
 rcases q with q | q
 ·exact h pins s σ H x y v u Q I rx ry q
 ·exact h' pins s σ H x y v u Q I rx ry q

theorem pe_cmpR {op:CmpOp} {r:R2} (ho:OpR X (compareOp op) r) (ha:PE X a ta) (hb:PE X b tb) (hm:behindInMarks op b = false):PE X (.Compare a [op] [b] pos) (tOp r ta tb):=by
 intro pins s σ H Q I h
 exact wpAny_Compare1 (binT ha hb I h fun v u s2 x y H2 I2 rx ry q => ho pins s2 σ H2 x y v u Q I2 rx ry q) hm
noncomputable def tTest (t:TE):TT:=fun σ H Q => t σ H fun x H' => ∃ k,x = .bl k ∧ Q k H'
theorem pt_cmpR {op:CmpOp} {r:R2} (ho:OpR X (compareOp op) r) (ha:PE X a ta) (hb:PE X b tb) (hm:behindInMarks op b = false):PT X (.Compare a [op] [b] pos) (tTest (tOp r ta tb)):=by
 intro pins s σ H Q I h
 refine wpAny_isTrue_Compare1 (thn (ha pins s σ H _ I h) fun v s1 ⟨x,H1,I1,r1,q1⟩ => thn (hb pins s1 σ H1 _ I1 q1) fun u s2 ⟨y,H2,I2,r2,q2⟩ =>
  thn (ho pins s2 σ H2 x y v u _ I2 r1 r2 q2) fun c s3 ⟨z,H3,I3,r3,k,e,q3⟩ => ?_) hm
 subst e
 cases r3
 exact wpAny_truthy_bool ⟨H3,I3,q3⟩
noncomputable def tChain (r r':R2) (ta tb tc:TE):TE:=fun σ H Q => ta σ H fun x H1 => tb σ H1 fun y H2 => r x y H2 fun z H3 => ∃ k,z = .bl k ∧
 (if k = true then tc σ H3 fun w' H4 => r' y w' H4 Q else Q (.bl false) H3)
theorem pe_chain {op op':CmpOp} {r r':R2} (ho:OpR X (compareOp op) r) (ho':OpR X (compareOp op') r') (ha:PE X a ta) (hb:PE X b tb) (hc:PE X c tc)
  (hm:lastMarks [op,op'] [b,c] = false:=by with_unfolding_all rfl):PE X (.Compare a [op,op'] [b,c] pos) (tChain r r' ta tb tc):=by
 intro pins s σ H Q I h
 refine Compare_chain (thn (ha pins s σ H _ I h) fun v s1 ⟨x,H1,I1,r1,q1⟩ => chain_link (thn (hb pins s1 σ H1 _ I1 q1) fun u s2 ⟨y,H2,I2,r2,q2⟩ =>
  thn (ho pins s2 σ H2 x y v u _ I2 r1 r2 q2) fun d s3 ⟨z,H3,I3,r3,k,e,q3⟩ => ?_)) hm
 subst e
 cases r3
 refine wpAny_truthy_bool ?_
 cases k with
 | false => exact ite_ff ⟨.bl false,H3,I3,rfl,q3⟩
 | true => exact ite_tt (chain_last (thn (hc pins s3 σ H3 _ I3 q3) fun w' s4 ⟨z',H4,I4,r4,q4⟩ => ho' pins s4 σ H4 y z' u w' Q I4 r2 r4 q4))
theorem pt_chain {op op':CmpOp} {r r':R2} (ho:OpR X (compareOp op) r) (ho':OpR X (compareOp op') r') (ha:PE X a ta) (hb:PE X b tb) (hc:PE X c tc)
  (hm:lastMarks [op,op'] [b,c] = false:=by with_unfolding_all rfl):PT X (.Compare a [op,op'] [b,c] pos) (tTest (tChain r r' ta tb tc)):=by
 intro pins s σ H Q I h
 refine isTrue_chain (thn (ha pins s σ H _ I h) fun v s1 ⟨x,H1,I1,r1,q1⟩ => test_link (thn (hb pins s1 σ H1 _ I1 q1) fun u s2 ⟨y,H2,I2,r2,q2⟩ =>
  thn (ho pins s2 σ H2 x y v u _ I2 r1 r2 q2) fun d s3 ⟨z,H3,I3,r3,k,e,q3⟩ => ?_)) hm
 subst e
 cases r3
 refine wpAny_truthy_bool ?_
 cases k with
 | false =>
  obtain ⟨k',e',q'⟩:=q3
  cases e'
  exact ite_ff ⟨H3,I3,q'⟩
 | true =>
  refine ite_tt (test_last (thn (hc pins s3 σ H3 _ I3 q3) fun w' s4 ⟨z',H4,I4,r4,q4⟩ => thn (ho' pins s4 σ H4 y z' u w' _ I4 r2 r4 q4) fun d' s5 ⟨z2,H5,I5,r5,k2,e2,q5⟩ => ?_))
  subst e2
  cases r5
  exact wpAny_truthy_bool ⟨H5,I5,q5⟩

/-! ### truth -/
theorem line63:(sizeLine:Nat) < 2 ^ 63:=by rw [sizeLine_eq]; decide

/-! ### strs and bytes -/
theorem op_add_str:OpR X (binaryOp .Add) (fun x y H Q => ∃ i j,x = .str i ∧ y = .str j ∧ i.length + j.length ≤ sizeLine ∧ Q (.str (i ++ j)) H):=by
 intro pins s σ H x y v u Q I rx ry h
 obtain ⟨i,j,rfl,rfl,hz,q⟩:=h
 obtain ⟨t,rfl⟩:=rx
 obtain ⟨t',rfl⟩:=ry
 exact add_str (fun t' tk => ⟨.str (i ++ j),H,I.tok _,⟨_,rfl⟩,q⟩) hz


/-! ### scalar builtins,by CallR -/
theorem vals1 {x:V} {us:List Value} (r:Vals [x] us):∃ u,us = [u] ∧ RelV x u:=by
 cases r with
 | cons r1 r2 => cases r2; exact ⟨_,rfl,r1⟩
theorem vals2 {x y:V} {us:List Value} (r:Vals [x,y] us):∃ u w',us = [u,w'] ∧ RelV x u ∧ RelV y w':=by
 cases r with
 | cons r1 r2 =>
  cases r2 with
  | cons r3 r4 => cases r4; exact ⟨_,_,rfl,r1,r3⟩
theorem call_max2 (hc:X.calm = true):CallR X (.builtin "max") (fun xs H Q => ∃ i j,xs = [.int i,.int j] ∧ Q (.int (if j > i then j else i)) H):=by
 intro pins s σ H xs us Q I r h
 obtain ⟨i,j,rfl,q⟩:=h
 obtain ⟨u,w',rfl,⟨t,rfl⟩,⟨t',rfl⟩⟩:=vals2 r
 refine max_two_ints (I.ok.hd hc) fun h' tk k => ⟨_,H,I.kept k,?_,q⟩
 by_cases hj:j > i
 ·rw [if_pos hj,if_pos hj]; exact ⟨_,rfl⟩
 ·rw [if_neg hj,if_neg hj]; exact ⟨_,rfl⟩
end
end L2

namespace L2
open PySem PySem.Spec PyProof.Rows

/-! ### an instance,its attributes a map -/
structure ObjM (h:Heap) (x dx C:Addr) (mA:Str → Option Value):Prop where
 obj:h.get? x = some (PySem.W.instObj C dx)
 ns:h.Ns1 dx mA
 ne:dx ≠ x



section
variable {prog:Program} {w:World} {A:Around} {E:Value → Shared → Prop} {s:Shared} {K:PySem.W.Frag} {x dx C f:Addr} {mA:Str → Option Value} {name:Str} {v:Value}





end

/-! ### the attributes as a list of pairs -/


section
variable {P:Program} {w:World} {H H':Hp} {h h':Heap} {a C dx:Addr} {fs fs':List (Str × V)}
end

/-! ### what of the text a class must have -/
structure Cls (K:PySem.W.Frag) (C:Addr):Prop where
 pg:PySem.W.plainGet K C Str.empty = true
 hd:PySem.W.hasDictIn K C = true
 po:PySem.W.plainOver K C = true
 sa:PySem.W.findIn K (.ref C) "__setattr__" = some (some (.builtin "object.__setattr__"))
structure Con (K:PySem.W.Frag) (C:Addr) (f:Str) (v:V) (u:Value):Prop where
 at_:PySem.W.findIn K (.ref C) f = some (some u)
 rel:RelV v u
 get:PySem.W.specialIn K u "__get__" = some none
 cp:PySem.W.copiedNames.contains f = false
structure Meth (K:PySem.W.Frag) (C:Addr) (m:Str) (f:Addr):Prop where
 at_:PySem.W.findIn K (.ref C) m = some (some (.ref f))
 fn:PySem.W.isFn K (.ref f) = true
 kp:PySem.W.keepIn K (.ref f) = true

section
variable {X:Cx} {pins:List (Addr × Obj)} {σ:St} {H:Hp} {s:Shared} {a C dx:Addr} {fs:List (Str × V)} {f:Str} {v:V} {A:Around} {E:Value → Shared → Prop}






end

/-! ### readings and rules -/

section
variable {X:Cx} {o e value:Expr} {f:Str} {pos pos' tpos:Pos} {ta tv:TE}

end

/-! ### isinstance -/
section
variable {X:Cx} {pins:List (Addr × Obj)} {σ:St} {H:Hp} {s:Shared} {A:Around} {E:Value → Shared → Prop} {Q:Value → Shared → Prop} {c:Value} {b:Bool}
inductive TyOf (K:PySem.W.Frag) (H:Hp):V → Value → Prop where
 | non:TyOf K H .non (.type "NoneType")
 | bl (x:Bool):TyOf K H (.bl x) (.type "bool")
 | int (i:Int):TyOf K H (.int i) (.type "int")
 | str (x:Str):TyOf K H (.str x) (.type "str")
 | flt (x:UInt64):TyOf K H (.flt x) (.type "float")
 | lst {a:Addr} {xs:List V} (e:H a = some (.lst xs)):TyOf K H (.ref a) (.type "list")
 | frz {a:Addr} {o:Obj} {xs:List V} (e:H a = some (.frz o (.lst xs))):TyOf K H (.ref a) (.type "list")
 | tup {a:Addr} {xs:List V} (e:H a = some (.tup xs)):TyOf K H (.ref a) (.type "tuple")
 | dK {a:Addr} {kvs:List (Key × V)} (e:H a = some (.dK kvs)):TyOf K H (.ref a) (.type "dict")
 | dT {a:Addr} {kvs:List (List Key × V)} (e:H a = some (.dT kvs)):TyOf K H (.ref a) (.type "dict")
 | ins {a C dx:Addr} {fs:List (Str × V)} (e:H a = some (.ins C dx fs)) (cl:Cls K C) (ha:PySem.W.findIn K (.ref C) "__class__" = some (some (.builtin "object.__class__")))
   (hn:PySem.W.specialIn K (.builtin "object.__class__") "__get__" = some (some (.builtin "getset_descriptor.__get__"))) (htk:PySem.W.takesIn K (.builtin "object.__class__") = some true)
   (hm:PySem.W.mroIn K C (.type "object") = some true):TyOf K H (.ref a) (.ref C)
end
end L2

namespace L2
open PySem PySem.Spec PyProof.Rows

/-! ### room -/
structure Room (k:Nat) (A:Around):Prop where
 hd:A.handled = none
 dp:A.depth + 3 * k + 5 < recursionLimit
 un:A.units + 16 * k + 200 < cLine
theorem Room.mono {j k:Nat} {A:Around} (r:Room k A) (h:j ≤ k):Room j A:=⟨r.hd,by have:=r.dp; omega,by have:=r.un; omega⟩
theorem Room.deeper {k:Nat} {A:Around} (r:Room (k + 1) A) (env:Env):Room k (A.deeper env) :=
 ⟨r.hd,by have:=r.dp; show A.depth + 1 + 3 * k + 5 < _; omega,by have:=r.un; show A.units + 3 + 16 * k + 200 < _; omega⟩
theorem Room.depth {k:Nat} {A:Around} (r:Room k A):A.depth < recursionLimit:=by have:=r.dp; omega
theorem Room.units {k:Nat} {A:Around} (r:Room k A):A.units + 64 < cLine:=by have:=r.un; omega

/-! ### argument lists and displays -/
noncomputable def tNil:TA:=fun _ H Q => Q [] H
noncomputable def tCons (ta:TE) (tr:TA):TA:=fun σ H Q => ta σ H fun x H1 => tr σ H1 fun xs H2 => Q (x :: xs) H2
section
variable {X:Cx} {e:Expr} {es:List Expr} {te:TE} {t:TA} {pos:Pos}
theorem pa_nil:PA X [] tNil:=fun _ _ _ _ H Q I h => Calls.spliced_nil ⟨[],H,I,.nil,h⟩
theorem pa_cons (ha:PE X e te) (hr:PA X es t) (hs:starEach (e :: es) X.env = (false,eval e X.env) :: starEach es X.env:=by rfl):PA X (e :: es) (tCons te t):=by
 intro pos pins s σ H Q I h
 rw [hs]
 show wpAny _ _ (spliced ((false,eval e X.env) :: backTo pos (starEach es X.env))) _ _ s
 refine Calls.spliced_cons (thn (ha pins s σ H _ I h) fun u s1 ⟨x,H1,I1,r1,q1⟩ => ?_)
 exact thn (hr pos pins s1 σ H1 _ I1 q1) fun us s2 ⟨xs,H2,I2,r2,q2⟩ => ⟨x :: xs,H2,I2,.cons r1 r2,q2⟩

noncomputable def tTup (t:TA):TE:=fun σ H Q => t σ H fun xs H1 => xs.length ≤ sizeLine ∧ ∀ p,H1 p = none → Q (.ref p) (upd H1 p (.tup xs))
noncomputable def tLst (t:TA):TE:=fun σ H Q => t σ H fun xs H1 => xs.length ≤ sizeLine ∧ ∀ p,H1 p = none → Q (.ref p) (upd H1 p (.lst xs))
theorem pe_tup {x1} (h:PA X es t):PE X (.Tuple es x1 pos) (tTup t):=by
 intro pins s σ H Q I hq
 refine wpAny_Tuple_spliced (thn (h pos pins s σ H _ I hq) fun us s1 ⟨xs,H1,I1,r,z,q⟩ => ⟨by rw [← r.length]; exact z,?_⟩)
 have hf:H1 s1.heap.objs.size = none:=I1.hok.fresh (Nat.le_refl _)
 refine ⟨.ref s1.heap.objs.size,upd H1 s1.heap.objs.size (.tup xs),I1.laid (t':=s1.toks) (fun b u e => Heap.get?_push_of_some _ e) (Nat.le_refl _) ?_,rfl,q _ hf⟩
 exact ⟨z,us,r,⟨_,Heap.get?_push_size _ rfl,rfl,⟨_,rfl⟩,rfl⟩⟩
theorem pe_lst (h:PA X es t):PE X (.List es pos) (tLst t):=by
 intro pins s σ H Q I hq
 refine wpAny_List_spliced (thn (h pos pins s σ H _ I hq) fun us s1 ⟨xs,H1,I1,r,z,q⟩ => ⟨by rw [← r.length]; exact z,?_⟩)
 have hf:H1 s1.heap.objs.size = none:=I1.hok.fresh (Nat.le_refl _)
 refine ⟨.ref s1.heap.objs.size,upd H1 s1.heap.objs.size (.lst xs),I1.laid (t':=s1.toks) (fun b u e => Heap.get?_push_of_some _ e) (Nat.le_refl _) ?_,rfl,q _ hf⟩
 exact ⟨z,us,0,r,Heap.get?_push_size _ rfl⟩
end

/-! ### what a def promises -/
noncomputable abbrev Sp:=List V → Hp → VK → XK → Prop
noncomputable abbrev CXT:=List Env → Hp → Shared → XK → Value → Shared → Prop

structure Env0 (P:Program) (w:World) (K:PySem.W.Frag) (mg:Str → Option Value) (base:Heap) (A:Around) (outer:List Env) (s:Shared) (H:Hp):Prop where
 frames:A.frames = some outer
 mod:Mod K mg base
 bs:∀ b o,base.get? b = some o → s.heap.get? b = some o ∧ H b = none
 bsz:base.objs.size ≤ s.heap.objs.size
 funs:s.heap.FunFrames base outer
 frf:∀ b ∈ frs outer,H b = none
 hok:HOk P w H s.heap
 bare:AllBare s.gens
noncomputable def CE (outer:List Env) (P:Program) (w:World) (H:Hp) (s:Shared) (Q:VK) (u:Value) (s':Shared):Prop :=
 ∃ v H',s'.os = s.os ∧ AllBare s'.gens ∧ Un (frs outer) [] H H' s.heap s'.heap ∧ HOk P w H' s'.heap ∧ RelV v u ∧ Q v H'
noncomputable def CR (CX:CXT) (outer:List Env) (P:Program) (w:World) (H:Hp) (s:Shared) (Q:VK) (E:XK) (r:Result) (s':Shared):Prop :=
 match r with
 | .ok (.ret u) => CE outer P w H s Q u s'
 | .ok _ => False
 | .error e => CX outer H s E e s'
structure FnOk (P:Program) (w:World) (K:PySem.W.Frag) (mg:Str → Option Value) (base:Heap) (CX:CXT) (k:Nat) (f:Addr) (fd:FuncData) (ps:List Str) (sp:Sp):Prop where
 len:∀ vs H Q E,sp vs H Q E → vs.length = ps.length
 run:∀ (A:Around) (outer:List Env) (s:Shared) (H:Hp) (args:Args) (us:List Value) (vs:List V) (Q:VK) (E:XK),Room k A → Env0 P w K mg base A outer s H → BindsTo s fd args (ps.zip us) → Vals vs us → sp vs H Q E →
  codeAny (model P w) A (.call (.ref f) args) (CR CX outer P w H s Q E) s
theorem FnOk.mono {P:Program} {w:World} {K:PySem.W.Frag} {mg:Str → Option Value} {base:Heap} {CX:CXT} {j k:Nat} {f:Addr} {fd:FuncData} {ps:List Str} {sp:Sp} (F:FnOk P w K mg base CX j f fd ps sp) (h:j ≤ k) :
  FnOk P w K mg base CX k f fd ps sp:=⟨F.len,fun A outer s H args us vs Q E hr => F.run A outer s H args us vs Q E (hr.mono h)⟩
theorem FnOk.imp {P:Program} {w:World} {K:PySem.W.Frag} {mg:Str → Option Value} {base:Heap} {CX:CXT} {k:Nat} {f:Addr} {fd:FuncData} {ps:List Str} {sp sp':Sp} (F:FnOk P w K mg base CX k f fd ps sp)
  (h:∀ vs H Q E,sp' vs H Q E → sp vs H Q E):FnOk P w K mg base CX k f fd ps sp' :=
 ⟨fun vs H Q E q => F.len vs H Q E (h _ _ _ _ q),fun A outer s H args us vs Q E hr he hb hv hs => F.run A outer s H args us vs Q E hr he hb hv (h _ _ _ _ hs)⟩


section
variable {X:Cx} {pins:List (Addr × Obj)} {σ:St} {H:Hp} {s s':Shared}
theorem Inv.env0 (I:Inv X pins σ H s):Env0 X.prog X.w X.K X.mg X.base X.A X.stack s H :=
 ⟨I.ok.frames,I.ok.mod,I.bs,Nat.le_trans I.ok.bsz I.sz,I.stack,I.stkFree,I.hok,I.bare⟩
theorem Inv.after {Q:VK} {u:Value} (I:Inv X pins σ H s) (h:CE X.stack X.prog X.w H s Q u s'):EP X pins σ Q u s':=by
 obtain ⟨v,H',os,bare,un,hok,r,q⟩:=h
 obtain ⟨hh,g,d,t,os'⟩:=s'
 obtain rfl:os' = s.os:=os
 exact ⟨v,H',I.call (h':=hh) (g':=g) (d':=d) (t':=t) (ch:=[]) un hok bare (fun b z => absurd z (by simp)),r,q⟩
end

/-! ### calls -/
noncomputable def tCall (sp:Sp) (dvs:List V) (E:XK) (t:TA):TE:=fun σ H Q => t σ H fun vs H1 => sp (vs ++ dvs) H1 Q E

noncomputable def Binds (K:PySem.W.Frag) (fd:FuncData) (ps:List Str) (ds:List Value):Prop :=
 ∀ (s:Shared) (us:List Value),K.In s.heap → (us ++ ds).length = ps.length → BindsTo s fd ⟨us,[]⟩ (ps.zip (us ++ ds))
theorem Binds.all {K:PySem.W.Frag} {fd:FuncData} {ps:List Str} (h:∀ us:List Value,us.length = ps.length → bindArgs fd ⟨us,[]⟩ = pure (ps.zip us)):Binds K fd ps []:=fun s us _ hl => by
 rw [List.append_nil] at hl ⊢
 exact .of_eq (h us hl)

noncomputable def Passes (CX:CXT) (X:Cx) (E:XK):Prop:=∀ (pins:List (Addr × Obj)) (σ:St) (H:Hp) (s:Shared) (e:Value) (s':Shared),Inv X pins σ H s → CX X.stack H s E e s' → X.xe e s'

section
variable {X:Cx} {CX:CXT} {k:Nat} {f C:Addr} {fd:FuncData} {ps:List Str} {sp:Sp} {dvs:List V} {ds:List Value} {E:XK} {x m:Str} {p pos apos:Pos} {e o:Expr} {es:List Expr} {ta:TE} {t:TA}

theorem run_fn {pins:List (Addr × Obj)} {σ:St} {H:Hp} {s:Shared} {Q:VK} {us:List Value} {vs:List V} (F:FnOk X.prog X.w X.K X.mg X.base CX k f fd ps sp) (hr:Room k X.A) (hb:Binds X.K fd ps ds) (hd:Vals dvs ds) (hx:Passes CX X E)
  (I:Inv X pins σ H s) (r:Vals vs us) (h:sp (vs ++ dvs) H Q E):wpAny (model X.prog X.w) X.A (call (.ref f) us) (EP X pins σ Q) X.xe s:=by
 have r2:Vals (vs ++ dvs) (us ++ ds):=r.append hd
 have hl:(us ++ ds).length = ps.length:=by rw [← r2.length]; exact F.len _ _ _ _ h
 refine wpAny_call (codeAny_mono (F.run X.A X.stack s H ⟨us,[]⟩ (us ++ ds) (vs ++ dvs) Q E hr I.env0 (hb s us I.kIn hl) r2 h) fun r s' hq => ?_)
 cases r with
 | error e => exact hx pins σ H s e s' I hq
 | ok fl =>
  cases fl with
  | ret u => exact I.after hq
  | next => exact False.elim hq
  | brk => exact False.elim hq
  | cont => exact False.elim hq

theorem pe_call (F:FnOk X.prog X.w X.K X.mg X.base CX k f fd ps sp) (hr:Room k X.A) (hg:Gl X x) (hm:X.mg x = some (.ref f)) (hk:PySem.W.keepIn X.K (.ref f) = true) (hb:Binds X.K fd ps ds) (hd:Vals dvs ds) (hx:Passes CX X E)
  (ha:PA X (e :: es) t) (hdb:(x == ("__debug__":Str)) = false:=by decide) (he:starEach (e :: es) X.env = (false,eval e X.env) :: starEach es X.env:=by rfl) (hpl:(backTo pos (starEach es X.env)).any (·.1) = false:=by rfl) :
  PE X (.Call (.Name x p) (e :: es) [] pos) (tCall sp dvs E t):=by
 intro pins s σ H Q I h
 refine wpAny_Call_Name_kw (ld_glob I hg hm ?_ hdb)
 refine PySem.W.callWith_K (h₀:=X.base) I.ok.mod.kin hk (thn (ha pos pins s σ H _ I h) fun us s1 ⟨vs,H1,I1,r,q⟩ => ⟨I1.kIn,?_⟩) he hpl
 exact run_fn F hr hb hd hx I1 r q
theorem pe_call0 (F:FnOk X.prog X.w X.K X.mg X.base CX k f fd ps sp) (hr:Room k X.A) (hg:Gl X x) (hm:X.mg x = some (.ref f)) (hk:PySem.W.keepIn X.K (.ref f) = true) (hb:Binds X.K fd ps ds) (hd:Vals dvs ds) (hx:Passes CX X E)
  (hdb:(x == ("__debug__":Str)) = false:=by decide):PE X (.Call (.Name x p) [] [] pos) (tCall sp dvs E tNil):=by
 intro pins s σ H Q I h
 refine wpAny_Call_Name_kw (ld_glob I hg hm ?_ hdb)
 exact PySem.W.callWith_K0 I.kIn hk (run_fn (us:=[]) F hr hb hd hx I .nil h)


structure Mk (K:PySem.W.Frag) (C f:Addr):Prop where
 makes:PySem.W.makesIn K C = true
 init:PySem.W.findIn K (.ref C) "__init__" = some (some (.ref f))
 fn:PySem.W.isFn K (.ref f) = true
 kp:PySem.W.keepIn K (.ref C) = true

end

/-! ### keywords -/
section
variable {X:Cx} {CX:CXT} {k:Nat} {f C:Addr} {fd:FuncData} {ps ks:List Str} {sp:Sp} {E:XK} {x m:Str} {p pos apos kpos:Pos} {e o:Expr} {es:List Expr} {kws:List Keyword} {te ta:TE} {t tk:TA} {nm:Option Str}

structure KBinds (K:PySem.W.Frag) (fd:FuncData) (ps ks:List Str) (g:List Value → List Value → List Value) (gV:List V → List V → List V):Prop where
 to:∀ (s:Shared) (us ws:List Value),K.In s.heap → (g us ws).length = ps.length → BindsTo s fd ⟨us,ks.zip ws⟩ (ps.zip (g us ws))
 rel:∀ {vs:List V} {us:List Value} {zs:List V} {ws:List Value},Vals vs us → Vals zs ws → Vals (gV vs zs) (g us ws)
variable {g:List Value → List Value → List Value} {gV:List V → List V → List V}
end

/-! ### a def's body keeps its promise -/
structure FnScope (N P:List Str) (sc:Scope):Prop where
 kind:sc.kind = .function
 co:sc.isCoroutine = false
 gen:sc.isGenerator = false
 nd:N.Nodup
 pre:N.take P.length = P
 par:∀ x ∈ P,sc.names.lookup x = some .local ∨ sc.names.lookup x = some .cell
 nofree:∀ y ∈ sc.names,y.2 ≠ .free

theorem bindL_out {kindOf:Str → Option NameKind} {x:Str}:∀ {binds:List (Str × Value)} {m:Str → Option Value},(∀ v,(x,v) ∉ binds) → bindL kindOf binds m x = m x
 | [],_,_ => rfl
 | (n,v) :: r,m,h => by
  unfold bindL
  rw [bindL_out fun w hw => h w (List.mem_cons_of_mem _ hw)]
  split
  ·have:x ≠ n:=by rintro rfl; exact h v List.mem_cons_self
   simp [this]
  ·rfl
theorem bindC_out {kindOf:Str → Option NameKind} {x:Str}:∀ {binds:List (Str × Value)} {m:Str → Option Value},(∀ v,(x,v) ∉ binds) → bindC kindOf binds m x = m x
 | [],_,_ => rfl
 | (n,v) :: r,m,h => by
  unfold bindC
  rw [bindC_out fun w hw => h w (List.mem_cons_of_mem _ hw)]
  split
  ·rfl
  ·have:x ≠ n:=by rintro rfl; exact h v List.mem_cons_self
   simp [this]
theorem bindL_get {kindOf:Str → Option NameKind} {x:Str} {v:Value}:∀ {P:List Str} {vs:List Value} {i:Nat} {m:Str → Option Value},P.Nodup → P[i]? = some x → vs[i]? = some v → kindOf x = some .local →
  bindL kindOf (P.zip vs) m x = some v
 | [],_,_,_,_,h,_,_ => by simp at h
 | _ :: _,[],_,_,_,_,h,_ => by simp at h
 | p :: P,w :: vs,0,m,nd,h1,h2,hk => by
  simp at h1 h2; subst h1; subst h2
  show bindL kindOf ((p,w) :: P.zip vs) m p = _
  unfold bindL
  rw [bindL_out fun v hv => (List.nodup_cons.mp nd).1 (List.of_mem_zip hv).1,if_pos hk]
  simp
 | p :: P,w :: vs,i + 1,m,nd,h1,h2,hk => by
  show bindL kindOf ((p,w) :: P.zip vs) m x = _
  unfold bindL
  exact bindL_get (i:=i) (List.nodup_cons.mp nd).2 (by simpa using h1) (by simpa using h2) hk
theorem bindC_get {kindOf:Str → Option NameKind} {x:Str} {v:Value}:∀ {P:List Str} {vs:List Value} {i:Nat} {m:Str → Option Value},P.Nodup → P[i]? = some x → vs[i]? = some v → kindOf x ≠ some .local →
  bindC kindOf (P.zip vs) m x = some v
 | [],_,_,_,_,h,_,_ => by simp at h
 | _ :: _,[],_,_,_,_,h,_ => by simp at h
 | p :: P,w :: vs,0,m,nd,h1,h2,hk => by
  simp at h1 h2; subst h1; subst h2
  show bindC kindOf ((p,w) :: P.zip vs) m p = _
  unfold bindC
  rw [bindC_out fun v hv => (List.nodup_cons.mp nd).1 (List.of_mem_zip hv).1,if_neg hk]
  simp
 | p :: P,w :: vs,i + 1,m,nd,h1,h2,hk => by
  show bindC kindOf ((p,w) :: P.zip vs) m x = _
  unfold bindC
  exact bindC_get (i:=i) (List.nodup_cons.mp nd).2 (by simpa using h1) (by simpa using h2) hk

noncomputable def start (N:List Str) (vs:List V):St:=vs.map some ++ List.replicate (N.length - vs.length) none

noncomputable def cxOf (CX:CXT) (P:Program) (w:World) (K:PySem.W.Frag) (mg:Str → Option Value) (base:Heap) (N:List Str) (qual:Str) (scope:Scope) (f:Addr) (cd:Value) (A:Around) (outer:List Env) (s:Shared) (H:Hp) (E:XK):Cx where
 prog:=P
 w:=w
 K:=K
 mg:=mg
 base:=base
 A:=A.deeper (envOfC qual scope s.heap.objs.size f cd)
 N:=N
 s₀:=s
 H₀:=H
 env:=envOfC qual scope s.heap.objs.size f cd
 outer:=outer
 stack:=envOfC qual scope s.heap.objs.size f cd :: outer
 ex:=[]
 calm:=true
 fn:=fun _ => true
 pn:=[]
 xe:=fun e s' => wpAny (model P w) (A.deeper (envOfC qual scope s.heap.objs.size f cd)) (leaving (envOfC qual scope s.heap.objs.size f cd) e) (fun _ s'' => CX outer H s E e s'') (fun e' s'' => CX outer H s E e' s'') s'

theorem cell_has {sc:Scope} {n:Nat} {x:Str} (h:sc.names.lookup x = some .cell):∃ c,(cellsFrom n sc.names []).lookup x = some c:=by
 have q:=PySem.W.cellsFrom_some sc.names n [] (.inl h)
 exact Option.isSome_iff_exists.mp q

theorem inv_start {CX:CXT} {P:Program} {w:World} {K:PySem.W.Frag} {mg:Str → Option Value} {base:Heap} {N ps:List Str} {qual:Str} {scope:Scope} {f:Addr} {cd:Value} {A:Around} {outer:List Env} {s s1:Shared} {H:Hp} {E:XK} {us:List Value} {vs:List V}
  (S:FnScope N ps scope) (hd:A.handled = none) (e0:Env0 P w K mg base A outer s H) (hl:vs.length = ps.length) (r:Vals vs us)
  (x:InCallC s s.heap.objs.size (bindL (envOfC qual scope s.heap.objs.size f cd).kindOf (ps.zip us) fun _ => none) (cellsFrom (s.heap.objs.size + 1) scope.names []) (bindC (envOfC qual scope s.heap.objs.size f cd).kindOf (ps.zip us) fun _ => none) s1) :
  Inv (cxOf CX P w K mg base N qual scope f cd A outer s H E) [] (start N vs) H s1:=by
 have hpl:ps.length ≤ N.length:=by have:=congrArg List.length S.pre; rw [List.length_take] at this; omega
 obtain ⟨h1,tk,rfl,hk⟩:=x.done
 have noA:∀ b:Addr,b ∉ (cxOf CX P w K mg base N qual scope f cd A outer s H E).ex:=fun b z => absurd (show b ∈ ([]:List Addr) from z) (by simp)
 refine ⟨⟨e0.mod,S.kind,rfl,rfl,Nat.le_refl _,fun y z c h1 h2 => ?_,fun y hy => ?_,fun y c _ h => ?_,fun _ => hd,Around.frames_deeper e0.frames,.inr ⟨rfl,rfl⟩,fun b z => absurd z (noA b),e0.bs,e0.bsz,fun b _ _ => noA b,fun b z => absurd z (noA b),e0.funs,e0.frf⟩,
  rfl,e0.bare,Un.kept hk,⟨_,x.toInCall.ns,fun i y v h1 h2 h3 => ?_⟩,fun y c h => ⟨_,x.cell y c h⟩,e0.hok.fresh (Nat.le_refl _),fun y c h => ?_,fun p hp => absurd (show p ∈ ([]:List (Addr × Obj)) from hp) (by simp),e0.hok.kept hk,?_⟩
 ·exact name_of_addr x.apart (PySem.mem_of_lookup h1) (PySem.mem_of_lookup h2)
 ·have hy:scope.names.lookup y = some .cell ∨ scope.names.lookup y = some .free:=hy
  rcases hy with hy | hy
  ·exact cell_has hy
  ·exact absurd rfl (S.nofree _ (PySem.mem_of_lookup hy))
 ·exact Nat.le_of_lt (x.above y c (PySem.mem_of_lookup h))
 ·have hi:i < vs.length:=by
   unfold start at h2
   by_cases hi:i < vs.length
   ·exact hi
   ·rw [List.getElem?_append_right (by simpa using hi)] at h2
    rw [List.getElem?_replicate] at h2
    split at h2 <;> cases h2
  have ha:vs[i]? = some v:=by
   unfold start at h2
   rw [List.getElem?_append_left (by simpa using hi),List.getElem?_map] at h2
   cases e:vs[i]? with
   | none => rw [e] at h2; cases h2
   | some a => rw [e] at h2; cases h2; rfl
  obtain ⟨u,hu,rv⟩:=r.get ha
  have hp:ps[i]? = some y:=by
   rw [← S.pre,List.getElem?_take_of_lt (by omega)]; exact h1
  have ndP:ps.Nodup:=by rw [← S.pre]; exact S.nd.sublist (List.take_sublist _ _)
  refine ⟨u,rv,?_⟩
  rcases S.par y (List.mem_of_getElem? hp) with k | k
  ·exact .inl ⟨k,bindL_get ndP hp hu k⟩
  ·obtain ⟨c,e⟩:=cell_has (n:=s.heap.objs.size + 1) k
   refine .inr ⟨.inl k,c,e,?_⟩
   have q:=x.cell y c e
   rw [bindC_get ndP hp hu (by show scope.names.lookup y ≠ _; rw [k]; decide)] at q
   exact q
 ·exact e0.hok.fresh (Nat.le_of_lt (x.above y c (PySem.mem_of_lookup h)))
 ·unfold start
  show _ = N.length
  rw [List.length_append,List.length_map,List.length_replicate]
  omega

theorem fn_of {CX:CXT} {P:Program} {w:World} {K:PySem.W.Frag} {mg:Str → Option Value} {base:Heap} {k:Nat} {f:Addr} {name qual:Str} {params:Arguments} {body:List Stmt} {scope:Scope} {dV kV doc pm cdv ct oc:Value} {an od:Option Addr}
  {osl:Array (Option Value)} {N ps:List Str} {sp:Sp} (lk:K.lookup f = some ⟨oc,od,.func (PySem.W.fnOf name qual params body scope dV kV doc pm an cdv ct),osl⟩) (hcd:PySem.W.codeIn K cdv qual = true) (S:FnScope N ps scope)
  (len:∀ vs H Q E,sp vs H Q E → vs.length = ps.length)
  (hbody:∀ (A:Around) (outer:List Env) (s:Shared) (H:Hp) (vs:List V) (Q:VK) (E:XK),Room k (A.deeper (envOfC qual scope s.heap.objs.size f cdv)) → sp vs H Q E →
   ∃ t,PSs (cxOf CX P w K mg base N qual scope f cdv A outer s H E) body t ∧ t { nx:=fun _ H' => Q .non H',rt:=Q } (start N vs) H) :
  FnOk P w K mg base CX (k + 1) f (PySem.W.fnOf name qual params body scope dV kV doc pm an cdv ct) ps sp:=by
 refine ⟨len,fun A outer s H args us vs Q E hr e0 hb r hsp => ?_⟩
 have hl:=len _ _ _ _ hsp
 have KX:K.In s.heap:=e0.mod.kin.keeps fun b o e => (e0.bs b o e).1
 have lim:s.heap.NoLimit:=e0.mod.nolimit.keeps fun b o e => (e0.bs b o e).1
 have hkind:∀ y ∈ ps.zip us,scope.names.lookup y.1 = some .local ∨ (scope.names.lookup y.1 = some .cell ∧ ((cellsFrom (s.heap.objs.size + 1) scope.names []).lookup y.1).isSome = true):=fun ⟨n,v⟩ hy => by
  rcases S.par n (List.of_mem_zip hy).1 with q | q
  ·exact .inl q
  ·exact .inr ⟨q,PySem.W.cellsFrom_some _ _ _ (.inl q)⟩
 refine codeAny_call_function hr.depth (KX _ _ lk) rfl S.co S.gen rfl (PySem.W.codeRec_of KX hcd) (hb _ _ _ _ ?_)
 refine wpAny_newFunctionEnv_cells S.kind hkind fun env he s1 x => ?_
 subst he
 refine ⟨lim.keeps x.toInCall.keep,codeAny_func ?_⟩
 obtain ⟨t,ht,hq⟩:=hbody A outer s H vs Q E (hr.deeper _) hsp
 have I:Inv (cxOf CX P w K mg base N qual scope f cdv A outer s H E) [] (start N vs) H s1:=inv_start S hr.hd e0 hl r x
 refine wpAny_mono (ht [] s1 (start N vs) H _ I hq) (fun fl s' hs => ?_) fun e s' hs => hs
 have fin:∀ {σ':St} {H':Hp} {v:V} {u:Value},Inv (cxOf CX P w K mg base N qual scope f cdv A outer s H E) [] σ' H' s' → RelV v u → Q v H' → CE outer P w H s Q u s' :=
  fun {σ' H' v u} J rv q => ⟨v,H',J.os,J.bare,J.base,J.hok,rv,q⟩
 cases fl with
 | ret u =>
  obtain ⟨v,σ',H',J,rv,q⟩:=hs
  exact fin J rv q
 | next =>
  obtain ⟨σ',H',J,q⟩:=hs
  exact fin (v:=V.non) (u:=Value.none) J rfl q
 | brk =>
  obtain ⟨_,_,_,q⟩:=hs
  exact False.elim q
 | cont =>
  obtain ⟨_,_,_,q⟩:=hs
  exact False.elim q
end L2

namespace L2
open PySem PySem.Spec PyProof.Rows
section
variable {X:Cx} {x:Str} {p pos:Pos} {e:Expr} {es:List Expr} {t:TA} {id T:String} {r:List V → Hp → VK → Prop}

noncomputable def tCB (r:List V → Hp → VK → Prop) (t:TA):TE:=fun σ H Q => t σ H fun vs H1 => r vs H1 Q
theorem pe_callB (hc:CallR X (.builtin id) r) (hg:Gl X x) (hm:X.mg x = none) (hv:bootBuiltins x = some (.builtin id)) (ha:PA X (e :: es) t) (hn:x ≠ "__name__":=by decide) (hdb:(x == ("__debug__":Str)) = false:=by decide)
  (he:starEach (e :: es) X.env = (false,eval e X.env) :: starEach es X.env:=by rfl) (hpl:(backTo pos (starEach es X.env)).any (·.1) = false:=by rfl):PE X (.Call (.Name x p) (e :: es) [] pos) (tCB r t):=by
 intro pins s σ H Q I h
 refine wpAny_Call_Name_kw (ld_blt I hg hm hv ?_ hn hdb)
 exact PyProof.Rows.callWith_builtin1 (thn (ha pos pins s σ H _ I h) fun us s1 ⟨vs,H1,I1,r1,q1⟩ => hc pins s1 σ H1 vs us Q I1 r1 q1) he hpl
theorem pe_callTy (hc:CallR X (.type T) r) (hg:Gl X x) (hm:X.mg x = none) (hv:bootBuiltins x = some (.type T)) (ha:PA X (e :: es) t) (hn:x ≠ "__name__":=by decide) (hdb:(x == ("__debug__":Str)) = false:=by decide)
  (he:starEach (e :: es) X.env = (false,eval e X.env) :: starEach es X.env:=by rfl) (hpl:(backTo pos (starEach es X.env)).any (·.1) = false:=by rfl):PE X (.Call (.Name x p) (e :: es) [] pos) (tCB r t):=by
 intro pins s σ H Q I h
 refine wpAny_Call_Name_kw (ld_blt I hg hm hv ?_ hn hdb)
 exact PyProof.Rows.callWith_type1 (thn (ha pos pins s σ H _ I h) fun us s1 ⟨vs,H1,I1,r1,q1⟩ => hc pins s1 σ H1 vs us Q I1 r1 q1) he hpl
end
end L2

namespace HT
open PySem PyProof.Rows



section
open PySem.SeqAt
open PySem.AutoSeq1 (wpAny_loadPart')
open PySem.MeetsSeq PySem.MeetsSeq2 PySem.MeetsSeq3

end

section
variable {prog:Program} {w:World} {A:Around} {E:Value → Shared → Prop} {s:Shared}


theorem cat_tup {t b:Addr} {vs ws:List Value} {Q:Value → Shared → Prop} (ht:IsTup s.heap t vs.toArray) (hb:IsTup s.heap b ws.toArray) (hv:vs ≠ [])
  (h1:ws = [] → Q (.ref t) s) (h2:ws ≠ [] → Q (.ref s.heap.objs.size) { s with heap:=s.heap.push { cls:=.type "tuple",data:=.seq (vs ++ ws).toArray } })
  (hsz:vs.length + ws.length ≤ sizeLine):wpAny (model prog w) A (binaryOp .Add (.ref t) (.ref b)) Q E s:=by
 obtain ⟨⟨cls,dd,data,sl⟩,ho,hc,n,hd⟩:=id ht
 obtain ⟨⟨cls2,dd2,data2,sl2⟩,ho2,hc2,n2,hd2⟩:=id hb
 simp only at hc hd hc2 hd2
 subst hc hd hc2 hd2
 have e:vs.toArray ++ ws.toArray = (vs ++ ws).toArray:=by simp
 by_cases hw:ws = []
 ·exact concat_meets ⟨_,ho,rfl⟩ ⟨_,ho2,rfl⟩ noFill_tuple_add seq_tuple_add PySem.F.slot_tuple_add PySem.F.entry_tuple_add (PySem.F.args_tuple_add_2 _ _)
   (tuple_addW1 t b vs.toArray ws.toArray n n2 dd dd2 sl sl2 (by simpa using hv) (by simp [hw])) ⟨ho,ho2,h1 hw⟩
 ·refine concat_meets ⟨_,ho,rfl⟩ ⟨_,ho2,rfl⟩ noFill_tuple_add seq_tuple_add PySem.F.slot_tuple_add PySem.F.entry_tuple_add (PySem.F.args_tuple_add_2 _ _)
   (tuple_addW2 t b vs.toArray ws.toArray n n2 dd dd2 sl sl2 (by simpa using hv) (by simpa using hw) (by rw [List.size_toArray,List.size_toArray]; exact hsz)) ⟨ho,ho2,?_⟩
  rw [e]
  exact h2 hw

/-! ### t[a:b],not the whole -/
noncomputable def sIx (n d:Nat):Option Int → Nat
 | none => d
 | some v => if v < 0 then (v + (n:Int)).toNat else min v.toNat n
theorem sIx_none (n d:Nat):sIx n d none = d:=rfl
theorem sIx_nat (n d k:Nat):sIx n d (some (k:Int)) = min k n:=by
 show (if (k:Int) < 0 then ((k:Int) + (n:Int)).toNat else min (k:Int).toNat n) = min k n
 rw [if_neg (by omega),Int.toNat_natCast]
theorem sIx_le (n d:Nat) (hd:d ≤ n) (o:Option Int):sIx n d o ≤ n:=by
 cases o with
 | none => exact hd
 | some v =>
  show (if v < 0 then (v + (n:Int)).toNat else min v.toNat n) ≤ n
  by_cases hv:v < 0
  ·rw [if_pos hv]; omega
  ·rw [if_neg hv]; exact Nat.min_le_right _ _
theorem clip_eq (v:Int) (n d:Nat):(if v < 0 then max (v + (n:Int)) 0 else min v (n:Int)) = ((sIx n d (some v):Nat):Int):=by
 show (if v < 0 then max (v + (n:Int)) 0 else min v (n:Int)) = (((if v < 0 then (v + (n:Int)).toNat else min v.toNat n):Nat):Int)
 by_cases hv:v < 0
 ·simp only [if_pos hv]; omega
 ·simp only [if_neg hv]; omega
theorem adjust_gen (lo hi:Option Int) (n:Nat):Builtin.Slice.sliceAdjust lo hi 1 (n:Int) = (((sIx n 0 lo:Nat):Int),((sIx n n hi:Nat):Int)):=by
 have h1:¬ ((1:Int) < 0):=by omega
 unfold Builtin.Slice.sliceAdjust
 simp only [h1,if_false]
 refine Prod.ext ?_ ?_
 ·cases lo with
  | none => rfl
  | some v => exact clip_eq v n 0
 ·cases hi with
  | none => rfl
  | some v => exact clip_eq v n n
theorem places_gen (i j:Nat):Builtin.Slice.slicePlaces (i:Int) (j:Int) 1 = j - i:=by
 unfold Builtin.Slice.slicePlaces
 have h1:(1:Int) > 0:=by omega
 simp only [h1,if_true,Int.ediv_one]
 split <;> omega
theorem slicePart_ {v:Value} {o:Option Int} {Q:Option Int → Shared → Prop} (p:IsPart v o) (h:Q o s):wpAny (model prog w) A (Builtin.Slice.slicePartIndex v) Q E s:=by
 cases p with
 | none => exact slicePart_none h
 | int i t => exact slicePart_int h
theorem sliceApplied_gen {sl:Addr} {vl vu:Value} {lo hi:Option Int} {n:Nat} {Q:Int × Int × Nat → Shared → Prop} (hs:s.heap.IsSliceOf sl vl vu .none) (pl:IsPart vl lo) (pu:IsPart vu hi)
  (h:Q (((sIx n 0 lo:Nat):Int),1,sIx n n hi - sIx n 0 lo) s):wpAny (model prog w) A (Builtin.Slice.sliceApplied (.ref sl) (pure (n:Int))) Q E s:=by
 obtain ⟨os,hos,hcs,hds⟩:=id hs
 unfold Builtin.Slice.sliceApplied Builtin.Slice.sliceFields
 refine wpAny_bind (wpAny_bind (wpAny_field hos hds (x:=vl) rfl (wpAny_bind (wpAny_field hos hds (x:=vu) rfl (wpAny_bind (wpAny_field hos hds (x:=.none) rfl (wpAny_pure ?_)))))))
 refine wpAny_bind (slicePart_none ?_)
 show wpAny _ _ (if ((1:Int) == 0) = true then _ else _) _ _ s
 rw [if_neg (by decide)]
 refine wpAny_bind (slicePart_ pl (wpAny_bind (slicePart_ pu (wpAny_bind (wpAny_pure ?_)))))
 show wpAny _ _ (match Builtin.Slice.sliceAdjust lo hi 1 (n:Int) with | (lo,hi) => pure (lo,(1:Int),Builtin.Slice.slicePlaces lo hi 1)) _ _ s
 rw [adjust_gen lo hi n]
 show wpAny _ _ (pure (((sIx n 0 lo:Nat):Int),(1:Int),Builtin.Slice.slicePlaces ((sIx n 0 lo:Nat):Int) ((sIx n n hi:Nat):Int) 1)) _ _ s
 rw [places_gen]
 exact wpAny_pure h
theorem pick_gen (xs:Array Value) (i k:Nat):((List.range k).filterMap fun (m:Nat) => xs[((i:Int) + (m:Int) * 1).toNat]?).toArray = ((xs.toList.drop i).take k).toArray:=by
 have e:(fun (m:Nat) => xs[((i:Int) + (m:Int) * 1).toNat]?) = fun m => xs[i + m]?:=by
  funext m
  have:((i:Int) + (m:Int) * 1).toNat = i + m:=by omega
  rw [this]
 rw [e]
 have:=pick_run xs i k
 rw [List.filterMap_map] at this
 have e2:((fun x => xs[x]?) ∘ fun x => i + x) = fun m => xs[i + m]?:=rfl
 rw [e2] at this
 rw [this]

theorem getItem_tuple_cut {t sl:Addr} {items:Array Value} {vl vu:Value} {lo hi:Option Int} {Q:Value → Shared → Prop} (ht:IsTup s.heap t items) (hs:s.heap.IsSliceOf sl vl vu .none) (pl:IsPart vl lo) (pu:IsPart vu hi)
  (hw:¬ (sIx items.size 0 lo = 0 ∧ sIx items.size items.size hi = items.size))
  (h:Q (.ref s.heap.objs.size) { s with heap:=s.heap.push { cls:=.type "tuple",data:=.seq ((items.toList.drop (sIx items.size 0 lo)).take (sIx items.size items.size hi - sIx items.size 0 lo)).toArray } })
  (hsz:items.size ≤ sizeLine):wpAny (model prog w) A (getItem (.ref t) (.ref sl)) Q E s:=by
 have htake:sizeOk (.seq ((items.toList.drop (sIx items.size 0 lo)).take (sIx items.size items.size hi - sIx items.size 0 lo)).toArray):=by
  show ((items.toList.drop (sIx items.size 0 lo)).take (sIx items.size items.size hi - sIx items.size 0 lo)).toArray.size ≤ sizeLine
  rw [List.size_toArray,List.length_take,List.length_drop,Array.length_toList]
  omega
 have hj:sIx items.size items.size hi ≤ items.size:=sIx_le _ _ (Nat.le_refl _) hi
 obtain ⟨os,hos,hcs,hds⟩:=id hs
 have hTs:s.TypeIs (.ref sl) "slice":=⟨os,hos,hcs⟩
 unfold getItem
 try with_reducible refine wpAny_holding ?_
 first | refine wpAny_bind (wpAny_pure ?_) | skip
 refine wpAny_bind (wpAny_sequenceKey ht.typeIs (by decide) ?_)
 refine wpAny_bind (wpAny_callSpecial?_slot (name:=Str.ofString "__getitem__") ht.typeIs PyProof.Rows.slot_tuple_getitem
  (wpAny_call_entry PyProof.Rows.slot_tuple_getitem ht.typeIs entry_tuple_getitem ?_ (args_tuple_getitem _ _)))
 show wpAny _ _ (Builtin.Tuple.tupleItemsOf (.ref t) >>= _) _ _ s
 refine wpAny_bind (tupleItemsOf_ ht ?_)
 refine wpAny_bind (wpAny_typeOf hTs ?_)
 rw [if_pos (by decide)]
 refine wpAny_bind (sliceApplied_gen hs pl pu ?_)
 have hno:¬ ((((sIx items.size 0 lo:Nat):Int) == 0 && (1:Int) == 1 && (sIx items.size items.size hi - sIx items.size 0 lo) == items.size) = true):=by
  intro q
  rw [Bool.and_eq_true,Bool.and_eq_true] at q
  have q1:((sIx items.size 0 lo:Nat):Int) = 0:=eq_of_beq q.1.1
  have q2:sIx items.size items.size hi - sIx items.size 0 lo = items.size:=eq_of_beq q.2
  exact hw ⟨by omega,by omega⟩
 show wpAny _ _ (if (((sIx items.size 0 lo:Nat):Int) == 0 && (1:Int) == 1 && (sIx items.size items.size hi - sIx items.size 0 lo) == items.size) = true then _ else _) _ _ s
 rw [if_neg hno,pick_gen]
 first
  | exact wpAny_bind (m:=Builtin.Tuple.tupleExact _) (wpAny_newObj_type (wpAny_pure ⟨_,rfl,wpAny_pure h⟩) htake)
  | exact wpAny_bind (m:=Builtin.Tuple.tupleExact _) (wpAny_newObj_type (wpAny_bind (wpAny_pure (wpAny_pure ⟨_,rfl,wpAny_pure h⟩))) htake)
  | exact wpAny_bind (wpAny_bind (m:=Builtin.Tuple.tupleExact _) (wpAny_newObj_type (wpAny_pure (wpAny_pure ⟨_,rfl,wpAny_pure h⟩)) htake))
  | exact wpAny_bind (wpAny_bind (m:=Builtin.Tuple.tupleExact _) (wpAny_newObj_type (wpAny_pure ⟨_,rfl,wpAny_pure h⟩) htake))
end
end HT

namespace L2
open PySem PySem.Spec PyProof.Rows

/-! ### the parts of a slice -/
noncomputable abbrev TO:=St → Hp → (Option Int → Hp → Prop) → Prop
noncomputable def PO (X:Cx) (e:Option Expr) (t:TO):Prop :=
 ∀ (pins:List (Addr × Obj)) (s:Shared) (σ:St) (H:Hp) (Q:Option Int → Hp → Prop),Inv X pins σ H s → t σ H Q →
  wpAny (model X.prog X.w) X.A (evalPart e X.env) (fun u s' => ∃ o H',Inv X pins σ H' s' ∧ IsPart u o ∧ Q o H') X.xe s
noncomputable def tNoPart:TO:=fun _ H Q => Q none H
noncomputable def tPart (t:TE):TO:=fun σ H Q => t σ H fun x H1 => ∃ i,x = .int i ∧ Q (some i) H1


section
variable {X:Cx} {e:Expr} {te:TE} {lo hi:Option Expr} {tl th:TO} {pos p2:Pos}

theorem po_none:PO X none tNoPart:=by
 intro pins s σ H Q I h
 rw [evalPart_none]
 exact wpAny_pure ⟨none,H,I,.none,h⟩
theorem po_some (h:PE X e te):PO X (some e) (tPart te):=by
 intro pins s σ H Q I hw
 rw [evalPart_some]
 refine thn (h pins s σ H _ I hw) fun u s1 ⟨x,H1,I1,r1,q1⟩ => ?_
 obtain ⟨i,rfl,q⟩:=q1
 obtain ⟨t,rfl⟩:=r1
 exact ⟨some i,H1,I1,.int i t,q⟩

noncomputable def SlR (X:Cx) (r:V → Option Int → Option Int → Hp → VK → Prop):Prop :=
 ∀ (pins:List (Addr × Obj)) (s:Shared) (σ:St) (H:Hp) (x:V) (v vl vu:Value) (lo hi:Option Int) (sl:Addr) (Q:VK),Inv X pins σ H s → RelV x v → s.heap.IsSliceOf sl vl vu .none → IsPart vl lo → IsPart vu hi → r x lo hi H Q →
  ∃ T id,typeLookup (.type T) "__getitem__" = pure (some (.builtin id)) ∧ s.TypeIs v T ∧ wpAny (model X.prog X.w) X.A (getItem v (.ref sl)) (EP X pins σ Q) X.xe s
theorem SlR.or {r r':V → Option Int → Option Int → Hp → VK → Prop} (h:SlR X r) (h':SlR X r'):SlR X (fun x lo hi H Q => r x lo hi H Q ∨ r' x lo hi H Q):=by
 intro pins s σ H x v vl vu lo hi sl Q I rx hs pl pu q
 rcases q with q | q
 ·exact h pins s σ H x v vl vu lo hi sl Q I rx hs pl pu q
 ·exact h' pins s σ H x v vl vu lo hi sl Q I rx hs pl pu q
noncomputable def tSl (r:V → Option Int → Option Int → Hp → VK → Prop) (te:TE) (tl th:TO):TE:=fun σ H Q => te σ H fun x H1 => tl σ H1 fun l H2 => th σ H2 fun u H3 => r x l u H3 Q
theorem pe_slice {r:V → Option Int → Option Int → Hp → VK → Prop} (hr:SlR X r) (he:PE X e te) (hl:PO X lo tl) (hu:PO X hi th):PE X (.Subscript e (.Slice lo hi none p2) pos) (tSl r te tl th):=by
 intro pins s σ H Q I h
 refine Subscript_ (thn (he pins s σ H _ I h) fun v s1 ⟨x,H1,I1,r1,q1⟩ => ?_)
 refine wpAny_Slice (thn (hl pins s1 σ H1 _ I1 q1) fun vl s2 ⟨l,H2,I2,pl,q2⟩ => thn (hu pins s2 σ H2 _ I2 q2) fun vu s3 ⟨u,H3,I3,pu,q3⟩ => ?_)
 rw [evalPart_none]
 refine wpAny_pure ?_
 have I4:Inv X pins σ H3 { s3 with heap:=s3.heap.push { cls:=.type "slice",data:=.fields #[vl,vu,.none] } }:=I3.kept (t':=s3.toks) fun b ob q => Heap.get?_push_of_some _ q
 obtain ⟨T,id,hT,ht,hg⟩:=hr pins { s3 with heap:=s3.heap.push { cls:=.type "slice",data:=.fields #[vl,vu,.none] } } σ H3 x v vl vu l u s3.heap.objs.size Q I4 r1 (Heap.IsSliceOf.new ..) pl pu q3
 show wpAny (model X.prog X.w) X.A (subscriptTail e (.Slice lo hi none p2) v (.ref s3.heap.objs.size)) (EP X pins σ Q) X.xe { s3 with heap:=s3.heap.push { cls:=.type "slice",data:=.fields #[vl,vu,.none] } }
 exact tail_any (ops:=[.ref s3.heap.objs.size,v]) ht hT hg (by with_unfolding_all rfl)

noncomputable def cutV (xs:List V) (lo hi:Option Int):List V:=(xs.drop (HT.sIx xs.length 0 lo)).take (HT.sIx xs.length xs.length hi - HT.sIx xs.length 0 lo)
theorem cutV_length (xs:List V) (lo hi:Option Int):(cutV xs lo hi).length ≤ xs.length:=by
 unfold cutV
 rw [List.length_take,List.length_drop]
 omega
noncomputable def rSlT (K:PySem.W.Frag):V → Option Int → Option Int → Hp → VK → Prop:=fun x lo hi H Q => ∃ a xs,x = .ref a ∧ SqT K H a xs ∧
 ¬ (HT.sIx xs.length 0 lo = 0 ∧ HT.sIx xs.length xs.length hi = xs.length) ∧ ∀ p,H p = none → Q (.ref p) (upd H p (.tup (cutV xs lo hi)))
theorem sl_tup:SlR X (rSlT X.K):=by
 intro pins s σ H x v vl vu lo hi sl Q I rx hs pl pu h
 obtain ⟨a,xs,rfl,hx,hw,q⟩:=h
 cases rx
 obtain ⟨its,r,ht,hz⟩:=I.tuple hx
 have hlen:its.toArray.size = xs.length:=by rw [List.size_toArray]; exact r.length.symm
 refine ⟨"tuple",_,PyProof.Rows.slot_tuple_getitem.lookup,ht.typeIs,?_⟩
 refine HT.getItem_tuple_cut ht hs pl pu (by rw [hlen]; exact hw) ?_ (by rw [hlen]; exact hz)
 rw [hlen]
 refine ⟨.ref s.heap.objs.size,_,I.laid (t':=s.toks) (o:=.tup (cutV xs lo hi)) (fun b ob q => Heap.get?_push_of_some _ q) (Nat.le_refl _) ?_,rfl,q _ (I.hok.fresh (Nat.le_refl _))⟩
 exact ⟨Nat.le_trans (cutV_length xs lo hi) hz,_,(r.drop (HT.sIx xs.length 0 lo)).take (HT.sIx xs.length xs.length hi - HT.sIx xs.length 0 lo),TupN.new _ _⟩

/-! ### t < u,t + u -/
noncomputable def rCatT (K:PySem.W.Frag):R2:=fun x y H Q => ∃ a b xs ys,x = .ref a ∧ y = .ref b ∧ SqT K H a xs ∧ SqT K H b ys ∧ xs ≠ [] ∧ xs.length + ys.length ≤ sizeLine ∧
 (ys = [] → Q (.ref a) H) ∧ (ys ≠ [] → ∀ p,H p = none → Q (.ref p) (upd H p (.tup (xs ++ ys))))
theorem Vals.nil_iff {xs:List V} {us:List Value} (r:Vals xs us):us = [] ↔ xs = []:=by
 cases r with
 | nil => simp
 | cons _ _ => simp
theorem op_catT:OpR X (binaryOp .Add) (rCatT X.K):=by
 intro pins s σ H x y v u Q I rx ry h
 obtain ⟨a,b,xs,ys,rfl,rfl,ha,hb,hx,hz,q1,q2⟩:=h
 cases rx
 cases ry
 obtain ⟨its,r1,p1,_⟩:=I.tuple ha
 obtain ⟨its2,r2,p2,_⟩:=I.tuple hb
 refine HT.cat_tup p1 p2 (fun z => hx (r1.nil_iff.mp z)) (fun z => ⟨.ref a,H,I,rfl,q1 (r2.nil_iff.mp z)⟩) (fun z => ?_) (by rw [← r1.length,← r2.length]; exact hz)
 refine ⟨.ref s.heap.objs.size,_,I.laid (t':=s.toks) (o:=.tup (xs ++ ys)) (fun b ob q => Heap.get?_push_of_some _ q) (Nat.le_refl _) ?_,rfl,q2 (fun w => z (r2.nil_iff.mpr w)) _ (I.hok.fresh (Nat.le_refl _))⟩
 exact ⟨by rw [List.length_append]; exact hz,_,r1.append r2,TupN.new _ _⟩
end
end L2

namespace L2
open PySem PySem.Spec PyProof.Rows

/-! ### places -/
noncomputable def ixN (n:Nat) (i:Int):Option Nat:=if 0 ≤ i then (if i < n then some i.toNat else none) else if -(n:Int) ≤ i then some (i + n).toNat else none
noncomputable def atI {α:Type} (xs:List α) (i:Int):Option α:=(ixN xs.length i).bind fun j => xs[j]?
theorem ixN_seq {n:Nat} {i:Int} {j:Nat} (h:ixN n i = some j):seqIndex? i n = some j ∧ j < n ∧ -(n:Int) ≤ i ∧ i < n:=by
 unfold ixN at h
 by_cases h0:0 ≤ i
 ·rw [if_pos h0] at h
  by_cases h1:i < n
  ·rw [if_pos h1] at h
   have e:i.toNat = j:=Option.some.inj h
   exact ⟨by rw [seqIndex_of h0 h1,e],by omega,by omega,h1⟩
  ·rw [if_neg h1] at h; cases h
 ·rw [if_neg h0] at h
  by_cases h1:-(n:Int) ≤ i
  ·rw [if_pos h1] at h
   have e:(i + n).toNat = j:=Option.some.inj h
   exact ⟨by rw [seqIndex_neg (by omega) h1,e],by omega,h1,by omega⟩
  ·rw [if_neg h1] at h; cases h
theorem atI_get {α:Type} {xs:List α} {i:Int} {v:α} (h:atI xs i = some v):∃ j,seqIndex? i xs.length = some j ∧ xs[j]? = some v ∧ j < xs.length ∧ -(xs.length:Int) ≤ i ∧ i < xs.length:=by
 unfold atI at h
 cases e:ixN xs.length i with
 | none => rw [e] at h; cases h
 | some j =>
  rw [e] at h
  obtain ⟨h1,h2,h3,h4⟩:=ixN_seq e
  exact ⟨j,h1,h,h2,h3,h4⟩
theorem atI_nat {α:Type} {xs:List α} {j:Nat} {v:α} (h:xs[j]? = some v):atI xs (j:Int) = some v:=by
 have hj:j < xs.length:=(List.getElem?_eq_some_iff.mp h).1
 have e:ixN xs.length (j:Int) = some j:=by
  unfold ixN
  rw [if_pos (by omega),if_pos (by omega)]; simp
 unfold atI; rw [e]; exact h

/-! ### what may be subscripted -/
noncomputable def PlainIx (b:Expr):Prop:=∀ o i,subscripted b false o i = operate [o,i] (getItem o i)
noncomputable def IxR (X:Cx) (r:R2):Prop :=
 ∀ (value slice:Expr) (pins:List (Addr × Obj)) (s:Shared) (σ:St) (H:Hp) (x y:V) (v u:Value) (Q:VK),Inv X pins σ H s → RelV x v → RelV y u → r x y H Q →
  subscripted slice false v u = operate [v,u] (getItem v u) → wpAny (model X.prog X.w) X.A (subscriptTail value slice v u) (EP X pins σ Q) X.xe s
noncomputable def MtR (X:Cx) (id:String) (r:V → List V → Hp → VK → Prop):Prop :=
 ∀ (pins:List (Addr × Obj)) (s:Shared) (σ:St) (H:Hp) (x:V) (xs:List V) (v:Value) (us:List Value) (Q:VK),Inv X pins σ H s → RelV x v → Vals xs us → r x xs H Q →
  wpAny (model X.prog X.w) X.A (call (.builtin id) (v :: us)) (EP X pins σ Q) X.xe s
section
variable {X:Cx} {a b:Expr} {ta tb:TE} {pos:Pos}
theorem IxR.or {r r':R2} (h:IxR X r) (h':IxR X r'):IxR X (fun x y H Q => r x y H Q ∨ r' x y H Q):=by
 intro value slice pins s σ H x y v u Q I rx ry q hs
 rcases q with q | q
 ·exact h value slice pins s σ H x y v u Q I rx ry q hs
 ·exact h' value slice pins s σ H x y v u Q I rx ry q hs
theorem MtR.or {id:String} {r r':V → List V → Hp → VK → Prop} (h:MtR X id r) (h':MtR X id r'):MtR X id (fun x xs H Q => r x xs H Q ∨ r' x xs H Q):=by
 intro pins s σ H x xs v us Q I rx rs q
 rcases q with q | q
 ·exact h pins s σ H x xs v us Q I rx rs q
 ·exact h' pins s σ H x xs v us Q I rx rs q
theorem pe_ix {r:R2} (hr:IxR X r) (ha:PE X a ta) (hb:PE X b tb) (hs:PlainIx b):PE X (.Subscript a b pos) (tOp r ta tb):=by
 intro pins s σ H Q I h
 exact Subscript_ (binT ha hb I h fun v u s2 x y H2 I2 rx ry q => hr a b pins s2 σ H2 x y v u Q I2 rx ry q (hs _ _))

noncomputable def rIxL (K:PySem.W.Frag):R2:=fun x y H Q => ∃ p xs i v,x = .ref p ∧ y = .int i ∧ SqL K H p xs ∧ atI xs i = some v ∧ Q v H
noncomputable def rIxT (K:PySem.W.Frag):R2:=fun x y H Q => ∃ p xs i v,x = .ref p ∧ y = .int i ∧ SqT K H p xs ∧ atI xs i = some v ∧ Q v H
noncomputable def rIxS:R2:=fun x y H Q => ∃ z i c,x = .str z ∧ y = .int i ∧ z.length ≤ sizeLine ∧ atI z.cps.toList i = some c ∧ Q (.str ⟨#[c]⟩) H
theorem ix_list:IxR X (rIxL X.K):=by
 intro value slice pins s σ H x y v u Q I rx ry h hs
 obtain ⟨p,xs,i,z,rfl,rfl,hq,he,q⟩:=h
 cases rx
 obtain ⟨t,rfl⟩:=ry
 obtain ⟨its,r,pl,hz⟩:=I.list hq
 obtain ⟨j,h1,h2,h3,h4,h5⟩:=atI_get he
 obtain ⟨w,ew,rw'⟩:=r.get h2
 have hl:=r.length
 have hn:=line63
 have fin:EP X pins σ Q w s:=⟨z,H,I,rw',q⟩
 by_cases h0:0 ≤ i
 ·have hj:i.toNat = j:=by
   rw [seqIndex_of h0 h5] at h1
   exact Option.some.inj h1
  exact item_listR pl.isList h0 (by omega) (by rw [hj]; simpa using ew) fin hs
 ·have hj:(i + (its.toArray.size:Int)).toNat = j:=by
   rw [seqIndex_neg (by omega) h4] at h1
   rw [List.size_toArray,← hl]
   exact Option.some.inj h1
  exact subscriptTail_builtinR (x:=w) pl.isList.typeIs slot_list_getitem.lookup
   (wpAny_getItem_list_neg (Q:=fun r s' => r = w ∧ EP X pins σ Q r s') pl.isList (by omega) (by rw [List.size_toArray] <;> omega) (by omega) (by rw [hj]; simpa using ew) ⟨rfl,fin⟩) hs
theorem ix_tup:IxR X (rIxT X.K):=by
 intro value slice pins s σ H x y v u Q I rx ry h hs
 obtain ⟨p,xs,i,z,rfl,rfl,hq,he,q⟩:=h
 cases rx
 obtain ⟨t,rfl⟩:=ry
 obtain ⟨its,r,pl,hz⟩:=I.tuple hq
 obtain ⟨j,h1,h2,h3,h4,h5⟩:=atI_get he
 obtain ⟨w,ew,rw'⟩:=r.get h2
 have hl:=r.length
 have hn:=line63
 have fin:EP X pins σ Q w s:=⟨z,H,I,rw',q⟩
 exact subscriptTail_builtinR (x:=w) pl.typeIs slot_tuple_getitem.lookup
  (getItem_tuple (j:=j) (Q:=fun r s' => r = w ∧ EP X pins σ Q r s') pl (by omega) (by omega) (by rw [List.size_toArray,← hl]; exact h1) (by simpa using ew) ⟨rfl,fin⟩) hs
theorem ix_str:IxR X rIxS:=by
 intro value slice pins s σ H x y v u Q I rx ry h hs
 obtain ⟨z,i,c,rfl,rfl,hz,he,q⟩:=h
 obtain ⟨t,rfl⟩:=rx
 obtain ⟨t',rfl⟩:=ry
 obtain ⟨j,h1,h2,h3,h4,h5⟩:=atI_get he
 have hl:z.cps.toList.length = z.length:=by simp [Str.length]
 rw [hl] at h1 h4 h5
 have hn:=line63
 exact tail_any (typeIs_str s z t) slot_str_getitem.lookup (getItem_str (c:=c) (by
  have e1:decide (i < -(2 ^ 63:Int)) = false:=decide_eq_false (by omega)
  have e2:decide (i ≥ 2 ^ 63) = false:=decide_eq_false (by omega)
  rw [e1,e2,Bool.or_false]) (by rw [h1]; simpa using h2) ⟨.str ⟨#[c]⟩,H,I.tok _,⟨_,rfl⟩,q⟩) hs

/-! ### xs[i] = v,any sign -/
theorem mapSeq_set (its:List Value) (n j:Nat) (u:Value):Obj.mapSeq (·.setIfInBounds j u) { cls:=.type "list",data:=.seq its.toArray n } = { cls:=.type "list",data:=.seq (its.set j u).toArray n }:=by
 simp [Obj.mapSeq]
theorem Inv.lst {pins:List (Addr × Obj)} {σ:St} {H:Hp} {s:Shared} {p:Addr} {xs:List V} (I:Inv X pins σ H s) (h:H p = some (.lst xs)) :
  ∃ (its:List Value) (n:Nat),Vals xs its ∧ s.heap.get? p = some { cls:=.type "list",data:=.seq its.toArray n } ∧ xs.length ≤ sizeLine:=by
 obtain ⟨z,its,n,r,e⟩:=I.hok p _ h
 exact ⟨its,n,r,e,z⟩
theorem Inv.lstUpd {pins:List (Addr × Obj)} {σ:St} {H:Hp} {s:Shared} {p:Addr} {xs ys:List V} {its its':List Value} {n n':Nat} {f:Obj → Obj} (I:Inv X pins σ H s) (h:H p = some (.lst xs))
  (ho:s.heap.get? p = some { cls:=.type "list",data:=.seq its.toArray n }) (hf:f { cls:=.type "list",data:=.seq its.toArray n } = { cls:=.type "list",data:=.seq its'.toArray n' }) (r:Vals ys its') (hz:ys.length ≤ sizeLine) (t:Nat) :
  Inv X pins σ (upd H p (.lst ys)) { s with heap:=s.heap.update p f,toks:=t }:=by
 have e:(s.heap.update p f).get? p = some { cls:=.type "list",data:=.seq its'.toArray n' }:=by
  rw [Heap.get?_update_self f ho (by rw [hf] <;> rfl),hf]
 refine I.write (x:=p) (e:=p) (by rw [h]; trivial) (.inl rfl) (fun b u hb q => (Heap.get?_update_other _ _ (Ne.symm hb)).trans q) ⟨_,e⟩ ?_
 exact ⟨hz,its',n',r,e⟩
noncomputable def rSetL:V → V → V → Hp → (Hp → Prop) → Prop:=fun o i v H Q => ∃ p xs k j,o = .ref p ∧ i = .int k ∧ H p = some (.lst xs) ∧ ixN xs.length k = some j ∧ Q (upd H p (.lst (xs.set j v)))
theorem set_list:PSet X rSetL:=by
 intro pins s σ H o i v ov iv u Q I ro ri rv h
 obtain ⟨p,xs,k,j,rfl,rfl,hp,hj,q⟩:=h
 cases ro
 obtain ⟨t,rfl⟩:=ri
 obtain ⟨its,n,r,ho,hz⟩:=I.lst hp
 obtain ⟨h1,h2,h3,h4⟩:=ixN_seq hj
 have hl:=r.length
 have hn:=line63
 have I':Inv X pins σ (upd H p (.lst (xs.set j v))) { s with heap:=s.heap.update p (Obj.mapSeq (·.setIfInBounds j u)) } :=
  I.lstUpd hp ho (mapSeq_set its n j u) (r.set rv j) (by rw [List.length_set]; exact hz) s.toks
 by_cases h0:0 ≤ k
 ·have hk:k.toNat = j:=by
   rw [seqIndex_of h0 h4] at h1
   exact Option.some.inj h1
  exact PySem.W.ki_setAt ho h0 (by omega) (by rw [List.size_toArray,← hl]; exact h4) (by rw [hk]; exact ⟨_,I',q⟩)
 ·have hk:(k + (its.toArray.size:Int)).toNat = j:=by
   rw [seqIndex_neg (by omega) h3] at h1
   rw [List.size_toArray,← hl]
   exact Option.some.inj h1
  exact PySem.W.ki_setBack ho (by omega) (by rw [List.size_toArray,← hl]; exact h3) (by omega) (by rw [hk]; exact ⟨_,I',q⟩)

/-! ### slices -/
theorem slice_bounds (lo hi:Option Int) (n:Nat):(sliceBounds lo hi none n).1 = ((HT.sIx n 0 lo:Nat):Int) ∧ (sliceBounds lo hi none n).2.1 = ((HT.sIx n n hi:Nat):Int) ∧ (sliceBounds lo hi none n).2.2 = 1:=by
 refine ⟨?_,?_,rfl⟩
 ·cases lo with
  | none => simp [sliceBounds,HT.sIx]
  | some i =>
   simp only [sliceBounds,HT.sIx,Option.getD_none,show (1:Int) > 0 by decide,if_true]
   by_cases h:i < 0
   ·simp only [h,if_true] <;> omega
   ·simp only [h,if_false] <;> omega
 ·cases hi with
  | none => simp [sliceBounds,HT.sIx]
  | some i =>
   simp only [sliceBounds,HT.sIx,Option.getD_none,show (1:Int) > 0 by decide,if_true]
   by_cases h:i < 0
   ·simp only [h,if_true] <;> omega
   ·simp only [h,if_false] <;> omega
theorem slicePick_cut (its:List Value) (lo hi:Option Int):slicePick its.toArray lo hi none = ((its.drop (HT.sIx its.length 0 lo)).take (HT.sIx its.length its.length hi - HT.sIx its.length 0 lo)).toArray:=by
 obtain ⟨h1,h2,h3⟩:=slice_bounds lo hi its.toArray.size
 unfold slicePick
 rw [h1,h2,h3]
 simp only [sliceRange_one,pick_run,List.size_toArray] <;> rfl
noncomputable def rSlL (K:PySem.W.Frag):V → Option Int → Option Int → Hp → VK → Prop:=fun x lo hi H Q => ∃ a xs,x = .ref a ∧ SqL K H a xs ∧ ∀ p,H p = none → Q (.ref p) (upd H p (.lst (cutV xs lo hi)))
theorem sl_list:SlR X (rSlL X.K):=by
 intro pins s σ H x v vl vu lo hi sl Q I rx hs pl pu h
 obtain ⟨a,xs,rfl,hx,q⟩:=h
 cases rx
 obtain ⟨its,r,ht,hz⟩:=I.list hx
 have hlen:=r.length
 refine ⟨"list",_,slot_list_getitem.lookup,ht.isList.typeIs,?_⟩
 refine wpAny_getItem_list_slice ht.isList hs pl pu .none (by simp) ?_ (by rw [List.size_toArray] <;> omega)
 rw [slicePick_cut,← hlen]
 refine ⟨.ref s.heap.objs.size,_,I.laid (t':=s.toks) (o:=.lst (cutV xs lo hi)) (fun b ob q => Heap.get?_push_of_some _ q) (Nat.le_refl _) ?_,rfl,q _ (I.hok.fresh (Nat.le_refl _))⟩
 exact ⟨Nat.le_trans (cutV_length xs lo hi) hz,_,0,(r.drop (HT.sIx xs.length 0 lo)).take (HT.sIx xs.length xs.length hi - HT.sIx xs.length 0 lo),Heap.get?_push_size _ rfl⟩

/-! ### in,not in: flat items -/
noncomputable def flatV:V → Bool
 | .non => true
 | .bl _ => true
 | .int _ => true
 | .str _ => true
 | _ => false
noncomputable def eqV:V → V → Bool
 | .non,.non => true
 | .bl a,.bl b => a == b
 | .bl a,.int b => (if a then 1 else 0) == b
 | .int a,.bl b => a == (if b then 1 else 0)
 | .int a,.int b => a == b
 | .str a,.str b => a == b
 | _,_ => false
theorem eqAt_V {A:Around} {s:Shared} {y x:V} {u v:Value} (ry:RelV y u) (rx:RelV x v) (fy:flatV y = true) (fx:flatV x = true):SeqAt.EqAt A s u v (eqV y x):=by
 cases y with
 | non =>
  cases ry
  cases x with
  | non => cases rx; exact SeqAt.EqAt.same _
  | bl b => cases rx; exact SeqAt.EqAt.none_bool b
  | int b => obtain ⟨t,rfl⟩:=rx; exact SeqAt.EqAt.none_int b t
  | str b => obtain ⟨t,rfl⟩:=rx; exact SeqAt.EqAt.none_str b t
  | _ => exact absurd (show false = true from fx) Bool.false_ne_true
 | bl a =>
  cases ry
  cases x with
  | non => cases rx; exact SeqAt.EqAt.bool_none a
  | bl b => cases rx; exact SeqAt.EqAt.bool_bool a b
  | int b => obtain ⟨t,rfl⟩:=rx; exact SeqAt.EqAt.bool_int a b t
  | str b => obtain ⟨t,rfl⟩:=rx; exact SeqAt.EqAt.bool_str a b t
  | _ => exact absurd (show false = true from fx) Bool.false_ne_true
 | int a =>
  obtain ⟨t',rfl⟩:=ry
  cases x with
  | non => cases rx; exact SeqAt.EqAt.int_none a t'
  | bl b => cases rx; exact SeqAt.EqAt.int_bool a t' b
  | int b => obtain ⟨t,rfl⟩:=rx; exact SeqAt.EqAt.int_int a t' b t
  | str b => obtain ⟨t,rfl⟩:=rx; exact SeqAt.EqAt.int_str a t' b t
  | _ => exact absurd (show false = true from fx) Bool.false_ne_true
 | str a =>
  obtain ⟨t',rfl⟩:=ry
  cases x with
  | non => cases rx; exact SeqAt.EqAt.str_none a t'
  | bl b => cases rx; exact SeqAt.EqAt.str_bool a t' b
  | int b => obtain ⟨t,rfl⟩:=rx; exact SeqAt.EqAt.str_int a t' b t
  | str b => obtain ⟨t,rfl⟩:=rx; exact SeqAt.EqAt.str_str a t' b t
  | _ => exact absurd (show false = true from fx) Bool.false_ne_true
 | _ => exact absurd (show false = true from fy) Bool.false_ne_true
noncomputable def eqU (x:V) (u:Value):Bool:=match u with
 | .none => eqV .non x
 | .bool b => eqV (.bl b) x
 | .int i _ => eqV (.int i) x
 | .str z _ => eqV (.str z) x
 | _ => false
theorem eqU_of {x y:V} {u:Value} (r:RelV y u) (f:flatV y = true):eqU x u = eqV y x:=by
 cases y with
 | non => cases r; rfl
 | bl b => cases r; rfl
 | int i => obtain ⟨t,rfl⟩:=r; rfl
 | str z => obtain ⟨t,rfl⟩:=r; rfl
 | _ => exact absurd (show false = true from f) Bool.false_ne_true
theorem any_eqU {x:V}:∀ {xs:List V} {us:List Value},Vals xs us → xs.all flatV = true → us.any (eqU x) = xs.any fun y => eqV y x
 | _,_,.nil,_ => rfl
 | y :: xs,u :: us,.cons r t,f => by
  rw [List.all_cons,Bool.and_eq_true] at f
  rw [List.any_cons,List.any_cons,eqU_of r f.1,any_eqU t f.2]
theorem mem_eqAt {A:Around} {s:Shared} {x:V} {v:Value} (rx:RelV x v) (fx:flatV x = true):∀ {xs:List V} {us:List Value},Vals xs us → xs.all flatV = true → ∀ u ∈ us,SeqAt.EqAt A s u v (eqU x u)
 | _,_,.nil,_ => fun u hu => by cases hu
 | y :: xs,u :: us,.cons r t,f => fun u' hu => by
  rw [List.all_cons,Bool.and_eq_true] at f
  rcases List.mem_cons.mp hu with rfl | hu
  ·rw [eqU_of r f.1]; exact eqAt_V r rx f.1 fx
  ·exact mem_eqAt rx fx t f.2 u' hu
noncomputable def inV (x:V) (xs:List V):Bool:=xs.any fun y => eqV y x
noncomputable def rIn (K:PySem.W.Frag) (neg:Bool):R2:=fun x y H Q => ∃ p xs,y = .ref p ∧ (SqL K H p xs ∨ SqT K H p xs) ∧ flatV x = true ∧ xs.all flatV = true ∧ Q (.bl (if neg then !inV x xs else inV x xs)) H
theorem op_in_seq:OpR X (compareOp .In) (rIn X.K false):=by
 intro pins s σ H x y v u Q I rx ry h
 obtain ⟨p,xs,rfl,hq,fx,fs,q⟩:=h
 cases ry
 rcases hq with hq | hq
 ·obtain ⟨its,r,pl,hz⟩:=I.list hq
  refine SeqAt.in_listAt (eqU x) pl.isList (fun w hw => mem_eqAt rx fx r fs w (by simpa using hw)) ⟨.bl _,H,I,rfl,?_⟩
  rw [show its.toArray.any (eqU x) = its.any (eqU x) by simp,any_eqU r fs]
  exact q
 ·obtain ⟨its,r,pl,hz⟩:=I.tuple hq
  refine SeqAt.in_tupleAt (eqU x) pl (fun w hw => mem_eqAt rx fx r fs w (by simpa using hw)) ⟨.bl _,H,I,rfl,?_⟩
  rw [show its.toArray.any (eqU x) = its.any (eqU x) by simp,any_eqU r fs]
  exact q
theorem op_notIn_seq:OpR X (compareOp .NotIn) (rIn X.K true):=by
 intro pins s σ H x y v u Q I rx ry h
 obtain ⟨p,xs,rfl,hq,fx,fs,q⟩:=h
 cases ry
 rcases hq with hq | hq
 ·obtain ⟨its,r,pl,hz⟩:=I.list hq
  refine SeqAt.notIn_listAt (eqU x) pl.isList (fun w hw => mem_eqAt rx fx r fs w (by simpa using hw)) ⟨.bl _,H,I,rfl,?_⟩
  rw [show its.toArray.any (eqU x) = its.any (eqU x) by simp,any_eqU r fs]
  exact q
 ·obtain ⟨its,r,pl,hz⟩:=I.tuple hq
  refine SeqAt.notIn_tupleAt (eqU x) pl (fun w hw => mem_eqAt rx fx r fs w (by simpa using hw)) ⟨.bl _,H,I,rfl,?_⟩
  rw [show its.toArray.any (eqU x) = its.any (eqU x) by simp,any_eqU r fs]
  exact q

/-! ### len,list(x),tuple(x) of any list or tuple that is read -/
theorem call_len_seq:CallR X (.builtin "len") (fun xs H Q => ∃ p ys,xs = [.ref p] ∧ (SqL X.K H p ys ∨ SqT X.K H p ys) ∧ Q (.int ys.length) H):=by
 intro pins s σ H xs us Q I r h
 obtain ⟨p,ys,rfl,hq,q⟩:=h
 obtain ⟨u,rfl,rx⟩:=vals1 r
 cases rx
 have hn:=line63
 rcases hq with hq | hq
 ·obtain ⟨its,r',pl,hz⟩:=I.list hq
  have hlen:=r'.length
  exact Calls.call_len_list pl.isList (by simp only [List.size_toArray] <;> omega) ⟨.int ys.length,H,I.tok _,⟨s.toks + 1,by rw [List.size_toArray,hlen]⟩,q⟩
 ·obtain ⟨its,r',pl,hz⟩:=I.tuple hq
  have hlen:=r'.length
  exact len_tuple pl (by simp only [List.size_toArray] <;> omega) ⟨.int ys.length,H,I.tok _,⟨s.toks + 1,by rw [List.size_toArray,hlen]⟩,q⟩
theorem call_len_str:CallR X (.builtin "len") (fun xs H Q => ∃ z,xs = [.str z] ∧ z.length ≤ sizeLine ∧ Q (.int z.length) H):=by
 intro pins s σ H xs us Q I r h
 obtain ⟨z,rfl,hz,q⟩:=h
 obtain ⟨u,rfl,t,rfl⟩:=vals1 r
 have hn:=line63
 exact len_str (by omega) ⟨.int z.length,H,I.tok _,⟨_,rfl⟩,q⟩
theorem CallR.or {f:Value} {r r':List V → Hp → VK → Prop} (h:CallR X f r) (h':CallR X f r'):CallR X f (fun xs H Q => r xs H Q ∨ r' xs H Q):=by
 intro pins s σ H xs us Q I rs q
 rcases q with q | q
 ·exact h pins s σ H xs us Q I rs q
 ·exact h' pins s σ H xs us Q I rs q
theorem call_list_of:CallR X (.type "list") (fun xs H Q => ∃ p ys,xs = [.ref p] ∧ (SqL X.K H p ys ∨ SqT X.K H p ys) ∧ ∀ l,H l = none → Q (.ref l) (upd H l (.lst ys))):=by
 intro pins s σ H xs us Q I r h
 obtain ⟨p,ys,rfl,hq,q⟩:=h
 obtain ⟨u,rfl,rx⟩:=vals1 r
 cases rx
 have fin:∀ (its:List Value),Vals ys its → ys.length ≤ sizeLine → ∀ (h':Heap) (c':Nat),(∀ b o',s.heap.get? b = some o' → h'.get? b = some o') →
   h'.get? s.heap.objs.size = some { cls:=.type "list",dict:=none,data:=.seq its.toArray c',slots:=#[] } → EP X pins σ Q (.ref s.heap.objs.size) { s with heap:=h' }:=fun its r' hz h' c' kp e =>
  ⟨.ref s.heap.objs.size,_,I.laid (t':=s.toks) kp (Nat.le_refl _) (show ObjOk X.prog X.w _ h' _ (.lst ys) from ⟨hz,its,c',r',e⟩),rfl,q _ (I.hok.fresh (Nat.le_refl _))⟩
 rcases hq with hq | hq
 ·obtain ⟨its,r',pl,hz⟩:=I.list hq
  have hlen:=r'.length
  obtain ⟨o,ho,hc,n,hd⟩:=pl.isList
  exact call_list_seq p (.inl rfl) ho hc hd (fun h' c' kp e => fin its r' hz h' c' kp e) (by simp only [List.size_toArray] <;> omega)
 ·obtain ⟨its,r',pl,hz⟩:=I.tuple hq
  have hlen:=r'.length
  obtain ⟨o,ho,hc,n,hd⟩:=pl
  exact call_list_seq p (.inr rfl) ho hc hd (fun h' c' kp e => fin its r' hz h' c' kp e) (by simp only [List.size_toArray] <;> omega)
theorem call_tuple_of:CallR X (.type "tuple") (fun xs H Q => ∃ p ys,xs = [.ref p] ∧ ((SqL X.K H p ys ∧ ∀ l,H l = none → Q (.ref l) (upd H l (.tup ys))) ∨ (SqT X.K H p ys ∧ Q (.ref p) H))):=by
 intro pins s σ H xs us Q I r h
 obtain ⟨p,ys,rfl,h⟩:=h
 obtain ⟨u,rfl,rx⟩:=vals1 r
 cases rx
 rcases h with ⟨hq,q⟩ | ⟨hq,q⟩
 ·obtain ⟨its,r',pl,hz⟩:=I.list hq
  have hlen:=r'.length
  refine call_tuple_list pl.isList (fun h' kp => ?_) (by simp only [List.size_toArray] <;> omega)
  have I1:Inv X pins σ H { s with heap:=h' }:=I.kept (t':=s.toks) kp
  have I2:Inv X pins σ (upd H h'.objs.size (.tup ys)) { s with heap:=h'.push { cls:=.type "tuple",data:=.seq its.toArray } } :=
   I1.laid (t':=s.toks) (fun b o e => Heap.get?_push_of_some _ e) (Nat.le_refl _) (show ObjOk X.prog X.w _ _ _ (.tup ys) from ⟨hz,its,r',TupN.new _ _⟩)
  exact ⟨.ref h'.objs.size,_,I2,rfl,q _ (I1.hok.fresh (Nat.le_refl _))⟩
 ·obtain ⟨its,r',pl,hz⟩:=I.tuple hq
  exact call_tuple_same pl ⟨.ref p,H,I,rfl,q⟩

/-! ### the call of a builtin's method: o.m(..) -/
noncomputable def tyV (K:PySem.W.Frag) (T:String) (x:V) (H:Hp):Prop:=match x with
 | .str _ => T = "str"
 | .int _ => T = "int"
 | .ref p => (T = "list" ∧ ∃ xs,SqL K H p xs) ∨ (T = "tuple" ∧ ∃ o,K.lookup p = some o ∧ o.cls = .type "tuple" ∧ o.dict = none) ∨
   (T = "dict" ∧ ((∃ kvs,H p = some (.dK kvs)) ∨ ∃ kvs,H p = some (.dT kvs))) ∨ (T = "set" ∧ ∃ S n,H p = some (.set S n))
 | _ => False
theorem tyV_is {pins:List (Addr × Obj)} {σ:St} {H:Hp} {s:Shared} {T:String} {x:V} {v:Value} (I:Inv X pins σ H s) (r:RelV x v) (ty:tyV X.K T x H) :
  s.TypeIs v T ∧ ∀ a,v = .ref a → ∃ ob,s.heap.get? a = some ob ∧ ob.dict = none:=by
 cases x with
 | str z =>
  obtain ⟨t,rfl⟩:=r
  cases (show T = "str" from ty)
  exact ⟨typeIs_str s z t,fun _ e => nomatch e⟩
 | int i =>
  obtain ⟨t,rfl⟩:=r
  cases (show T = "int" from ty)
  exact ⟨typeIs_int s i t,fun _ e => nomatch e⟩
 | ref p =>
  cases r
  rcases ty with ⟨rfl,xs,hq⟩ | ⟨rfl,o,hk,hc,hd⟩ | ⟨rfl,hk⟩ | ⟨rfl,S,n,hk⟩
  ·obtain ⟨its,_,pl,_⟩:=I.list hq
   refine ⟨pl.isList.typeIs,fun a e => ?_⟩
   cases e
   obtain ⟨o,n,e,c,hd,_⟩:=pl
   exact ⟨o,e,hd⟩
  ·refine ⟨⟨o,I.kIn p o hk,hc⟩,fun a e => ?_⟩
   cases e
   exact ⟨o,I.kIn _ o hk,hd⟩
  ·have z:∃ o,s.heap.get? p = some o ∧ o.ExactDict:=by
    rcases hk with ⟨kvs,hk⟩ | ⟨kvs,hk⟩
    ·obtain ⟨_,_,_,_,o,_,_,e,ex,_⟩:=I.hok p _ hk
     exact ⟨o,e,ex⟩
    ·obtain ⟨_,_,_,_,o,_,_,e,ex,_⟩:=I.hok p _ hk
     exact ⟨o,e,ex⟩
   obtain ⟨o,e,ex⟩:=z
   refine ⟨⟨o,e,ex.1⟩,fun a e2 => ?_⟩
   cases e2
   exact ⟨o,e,ex.2.1⟩
  ·obtain ⟨o,_,_,_,e,ex,_⟩:=I.hok p _ hk
   refine ⟨⟨o,e,ex.1⟩,fun a e2 => ?_⟩
   cases e2
   exact ⟨o,e,ex.2.1⟩
 | _ => exact False.elim ty
noncomputable def tBM0 (K:PySem.W.Frag) (T:String) (r:V → List V → Hp → VK → Prop) (to:TE):TE:=fun σ H Q => to σ H fun x H1 => tyV K T x H1 ∧ r x [] H1 Q
noncomputable def tBM (K:PySem.W.Frag) (T:String) (r:V → List V → Hp → VK → Prop) (to:TE) (t:TA):TE:=fun σ H Q => to σ H fun x H1 => tyV K T x H1 ∧ t σ H1 fun xs H2 => r x xs H2 Q
variable {o e:Expr} {es:List Expr} {to:TE} {t:TA} {name:Str} {apos cpos:Pos} {T id:String} {r:V → List V → Hp → VK → Prop}
theorem pe_bm0 (pa:PlainAttrs T) (slot:Slot T name id) (hty:typeOf (.builtin id) = pure (.type "method_descriptor")) (hm:MtR X id r) (ho:PE X o to)
  (hbase:attributeBase o name X.env (eval o X.env) = eval o X.env:=by rfl) (hline:(apos.endLine == cpos.line) = true:=by rfl):PE X (.Call (.Attribute o name apos) [] [] cpos) (tBM0 X.K T r to):=by
 intro pins s σ H Q I h
 refine wpAny_Call_method0_late hbase hline (thn (ho pins s σ H _ I h) fun v s1 ⟨x,H1,I1,r1,ty,q1⟩ => ?_)
 obtain ⟨h1,h2⟩:=tyV_is I1 r1 ty
 exact ⟨T,id,pa,slot,hty,h1,h2,Calls.callWith_builtin rfl (PySem.evalArgs_none (hm pins s1 σ H1 x [] v [] Q I1 r1 .nil q1))⟩
theorem pe_bm (pa:PlainAttrs T) (slot:Slot T name id) (hty:typeOf (.builtin id) = pure (.type "method_descriptor")) (hm:MtR X id r) (ho:PE X o to) (ha:PA X (e :: es) t)
  (hbase:attributeBase o name X.env (eval o X.env) = eval o X.env:=by rfl)
  (hfew:((backTo cpos (starEach (e :: es) X.env)).all (fun x => !x.1) && (backToKw cpos (keywordEach [] X.env)).all (fun x => x.1.isSome)
   && decide ((e :: es).length + ([]:List Keyword).length + (if ([]:List Keyword).isEmpty then 0 else 1) < 30)) = true:=by rfl)
  (hline:(apos.endLine == cpos.line) = true:=by rfl) (hs:starEach (e :: es) X.env = (false,eval e X.env) :: starEach es X.env:=by rfl) (hplain:(backTo cpos (starEach es X.env)).any (·.1) = false:=by rfl) :
  PE X (.Call (.Attribute o name apos) (e :: es) [] cpos) (tBM X.K T r to t):=by
 intro pins s σ H Q I h
 refine wpAny_Call_method_late hbase hfew hline rfl (thn (ho pins s σ H _ I h) fun v s1 ⟨x,H1,I1,r1,ty,q1⟩ => ?_)
 obtain ⟨h1,h2⟩:=tyV_is I1 r1 ty
 refine ⟨T,id,pa,slot,hty,h1,h2,?_⟩
 have hA:=ha cpos pins s1 σ H1 _ I1 q1
 rw [hs] at hA ⊢
 refine Calls.callWith_builtin (by show (false || (backTo cpos (starEach es X.env)).any (·.1)) = false; rw [hplain] <;> rfl) (Calls.evalArgs_plain ?_)
 exact thn hA fun us s2 ⟨vs,H2,I2,r2,q2⟩ => hm pins s2 σ H2 x vs v us Q I2 r1 r2 q2
/- xs.append(e),list.index on a module's tuple .. are MtR facts of 06m -/
end
end L2

namespace L2
open PySem PySem.Spec PyProof.Rows

noncomputable def MtM (X:Cx) (id:String) (r:V → List V → Hp → VK → Prop):Prop :=
 ∀ (pins:List (Addr × Obj)) (s:Shared) (σ:St) (H:Hp) (x:V) (xs:List V) (v:Value) (us:List Value) (Q:VK),Inv X pins σ H s → RelV x v → Vals xs us → r x xs H Q →
  wpAny (model X.prog X.w) X.A (call (.builtin id) (v :: us)) (EP X pins σ Q) X.xe s

/-! ### lists of values -/
theorem Vals.un {x:V} {xs:List V} {us:List Value} (h:Vals (x :: xs) us):∃ u vs,us = u :: vs ∧ RelV x u ∧ Vals xs vs:=by
 cases h with
 | cons r t => exact ⟨_,_,rfl,r,t⟩
theorem Vals.one {x:V} {us:List Value} (h:Vals [x] us):∃ u,us = [u] ∧ RelV x u:=by
 obtain ⟨u,vs,rfl,r,t⟩:=h.un
 cases t
 exact ⟨u,rfl,r⟩
theorem Vals.two {x y:V} {us:List Value} (h:Vals [x,y] us):∃ u v,us = [u,v] ∧ RelV x u ∧ RelV y v:=by
 obtain ⟨u,vs,rfl,r,t⟩:=h.un
 obtain ⟨v,rfl,q⟩:=t.one
 exact ⟨u,v,rfl,r,q⟩
theorem Vals.zero:∀ {us:List Value},Vals [] us → us = []
 | _,.nil => rfl
theorem Vals.dropLast {xs:List V} {us:List Value} (h:Vals xs us):Vals xs.dropLast us.dropLast:=by
 induction h with
 | nil => exact .nil
 | cons r t ih =>
  cases t with
  | nil => exact .nil
  | cons q t' => exact .cons r ih
theorem Vals.reverse {xs:List V} {us:List Value} (h:Vals xs us):Vals xs.reverse us.reverse:=by
 induction h with
 | nil => exact .nil
 | cons r t ih => rw [List.reverse_cons,List.reverse_cons]; exact Vals.append ih (.cons r .nil)
theorem Vals.rep {xs:List V} {us:List Value} (h:Vals xs us):∀ k:Nat,Vals (List.replicate k xs).flatten (List.replicate k us).flatten
 | 0 => .nil
 | k + 1 => by
  rw [List.replicate_succ,List.replicate_succ,List.flatten_cons,List.flatten_cons]
  exact Vals.append h (Vals.rep h k)
theorem erase_last {α:Type} (l:List α):l.eraseIdx (l.length - 1) = l.dropLast:=by
 induction l with
 | nil => rfl
 | cons a r ih =>
  cases r with
  | nil => rfl
  | cons b r =>
   have e:(a :: b :: r).length - 1 = ((b :: r).length - 1) + 1:=by
    have h1:(a :: b :: r).length = r.length + 2:=rfl
    have h2:(b :: r).length = r.length + 1:=rfl
    omega
   rw [e,List.eraseIdx_cons_succ,ih]
   all_goals rfl
theorem foldl_rep (its:List Value):∀ (k:Nat) (acc:List Value),
  List.foldl (fun x1 x2 => x1 ++ x2) acc.toArray (List.replicate k its.toArray) = (acc ++ (List.replicate k its).flatten).toArray
 | 0,acc => by simp
 | k + 1,acc => by
  have e:acc.toArray ++ its.toArray = (acc ++ its).toArray:=by simp
  have e2:(acc ++ its) ++ (List.replicate k its).flatten = acc ++ (List.replicate (k + 1) its).flatten:=by
   rw [List.replicate_succ,List.flatten_cons,List.append_assoc]
  rw [← e2,← foldl_rep its k (acc ++ its),← e,List.replicate_succ,List.foldl_cons]

section
variable {X:Cx} {pins:List (Addr × Obj)} {σ:St} {H:Hp} {s:Shared} {l b:Addr} {xs ys zs:List V}

/-! ### the two steps: a tracked list is rewritten,a new list is laid -/
theorem Inv.lset {its its':List Value} {n:Nat} {f:Array Value → Array Value} {t':Nat} (I:Inv X pins σ H s) (hH:H l = some (.lst xs))
  (e:s.heap.get? l = some { cls:=.type "list",data:=.seq its.toArray n }) (hf:f its.toArray = its'.toArray) (hv:Vals ys its') (hz:ys.length ≤ sizeLine) :
  Inv X pins σ (upd H l (.lst ys)) { s with heap:=s.heap.update l (Obj.mapSeq f),toks:=t' }:=by
 have q:=PySem.IsL.update e f
 rw [hf] at q
 refine I.write (x:=l) (e:=l) (by rw [hH]; exact trivial) (.inl rfl) (fun b' u hb hu => (Heap.get?_update_other s.heap (Obj.mapSeq f) (Ne.symm hb)).trans hu) ⟨_,q⟩ ?_
 exact ⟨hz,its',_,hv,q⟩
theorem Inv.lnew {its:List Value} {t':Nat} (I:Inv X pins σ H s) (hv:Vals ys its) (hz:ys.length ≤ sizeLine) :
  Inv X pins σ (upd H s.heap.objs.size (.lst ys)) { s with heap:=s.heap.push { cls:=.type "list",data:=.seq its.toArray },toks:=t' } :=
 I.laid (fun _ _ q => Heap.get?_push_of_some _ q) (Nat.le_refl _) ⟨hz,its,0,hv,Heap.get?_push_size _ rfl⟩
theorem Inv.fresh (I:Inv X pins σ H s):H s.heap.objs.size = none:=I.hok.fresh (Nat.le_refl _)
theorem Inv.lstM (I:Inv X pins σ H s) (hH:H l = some (.lst xs)):xs.length ≤ sizeLine ∧ ∃ (its:List Value) (n:Nat),Vals xs its ∧ xs.length = its.length ∧ s.heap.get? l = some { cls:=.type "list",data:=.seq its.toArray n }:=by
 obtain ⟨z,its,n,r,e⟩:=I.hok l _ hH
 exact ⟨z,its,n,r,r.length,e⟩

theorem notLongL {n:Nat} (h:n ≤ sizeLine):Builtin.List.listTooLong n = false:=by
 unfold Builtin.List.listTooLong
 exact decide_eq_false (by omega)
end

section
variable {X:Cx}

/-! ### methods -/
noncomputable def rAppend:V → List V → Hp → VK → Prop:=fun x vs H Q => ∃ l xs y,x = .ref l ∧ vs = [y] ∧ H l = some (.lst xs) ∧ xs.length < sizeLine ∧ Q .non (upd H l (.lst (xs ++ [y])))
theorem mt_append:MtM X "list.append" rAppend:=by
 intro pins s σ H x vs v us Q I rx rv h
 obtain ⟨l,xs,y,rfl,rfl,hH,hz,q⟩:=h
 cases rx
 obtain ⟨u,rfl,ru⟩:=rv.one
 obtain ⟨z,its,n,r,hl,e⟩:=I.lstM hH
 refine call_meets F.slot_list_append ⟨_,e,rfl⟩ F.entry_list_append (F.args_list_append_2 _ _) (PySem.list_append l its.toArray n u (by rw [List.size_toArray]; omega)) ⟨e,?_⟩
 refine ⟨.non,_,I.lset (its':=its ++ [u]) hH e (by simp) (r.append (.cons ru .nil)) ?_,rfl,q⟩
 rw [List.length_append,List.length_singleton]
 omega

noncomputable def rExtend:V → List V → Hp → VK → Prop:=fun x vs H Q => ∃ l b xs zs,x = .ref l ∧ vs = [.ref b] ∧ H l = some (.lst xs) ∧ H b = some (.lst zs) ∧ xs.length + zs.length ≤ sizeLine ∧ Q .non (upd H l (.lst (xs ++ zs)))
theorem mt_extend:MtM X "list.extend" rExtend:=by
 intro pins s σ H x vs v us Q I rx rv h
 obtain ⟨l,b,xs,zs,rfl,rfl,hH,hB,hz,q⟩:=h
 cases rx
 obtain ⟨u,rfl,ru⟩:=rv.one
 cases ru
 obtain ⟨z,its,n,r,hl,e⟩:=I.lstM hH
 obtain ⟨z2,its2,n2,r2,hl2,e2⟩:=I.lstM hB
 have hsz:its.toArray.size + its2.toArray.size ≤ sizeLine:=by rw [List.size_toArray,List.size_toArray]; omega
 have hlong:¬ (!its.toArray.isEmpty && Builtin.List.listTooLong (its.toArray.size + its2.toArray.size)) = true:=by
  rw [notLongL hsz,Bool.and_false]
  exact Bool.false_ne_true
 refine call_meets F.slot_list_extend ⟨_,e,rfl⟩ F.entry_list_extend (F.args_list_extend_2 _ _)
  (AutoSeq1.list_extend_list_list_0 l its.toArray n b its2.toArray n2 hlong (by rw [List.size_toArray]; omega) (by omega)) ⟨e,e2,?_⟩
 refine ⟨.non,_,I.lset (its':=its ++ its2) hH e (by simp) (r.append r2) ?_,rfl,q⟩
 rw [List.length_append]
 omega

noncomputable def rPop:V → List V → Hp → VK → Prop:=fun x vs H Q => ∃ l xs y,x = .ref l ∧ vs = [] ∧ H l = some (.lst xs) ∧ xs[xs.length - 1]? = some y ∧ Q y (upd H l (.lst xs.dropLast))
theorem mt_pop:MtM X "list.pop" rPop:=by
 intro pins s σ H x vs v us Q I rx rv h
 obtain ⟨l,xs,y,rfl,rfl,hH,hy,q⟩:=h
 cases rx
 have hus:=rv.zero
 subst hus
 obtain ⟨z,its,n,r,hl,e⟩:=I.lstM hH
 obtain ⟨u,hu,ru⟩:=r.get hy
 have hy':its.toArray[its.toArray.size - 1]? = some u:=by
  show its.toArray[its.length - 1]? = some u
  rw [← Array.getElem?_toList,← hl]
  exact hu
 refine call_meets F.slot_list_pop ⟨_,e,rfl⟩ F.entry_list_pop (F.args_list_pop_1 _) (MeetsSeq.list_pop_last l its.toArray n u hy' (by rw [List.size_toArray]; omega)) ⟨e,?_⟩
 refine ⟨y,_,I.lset (its':=its.dropLast) hH e ?_ r.dropLast ?_,ru,q⟩
 ·show its.toArray.eraseIdxIfInBounds (its.toArray.size - 1) = its.dropLast.toArray
  rw [List.size_toArray,List.eraseIdxIfInBounds_toArray,erase_last]
 ·rw [List.length_dropLast]
  omega




/-! ### list + list,list += list,list * int -/
noncomputable def rCat:R2:=fun x y H Q => ∃ l b xs zs,x = .ref l ∧ y = .ref b ∧ H l = some (.lst xs) ∧ H b = some (.lst zs) ∧ xs.length + zs.length ≤ sizeLine ∧ ∀ p,H p = none → Q (.ref p) (upd H p (.lst (xs ++ zs)))
theorem op_cat:OpR X (binaryOp .Add) rCat:=by
 intro pins s σ H x y v u Q I rx ry h
 obtain ⟨l,b,xs,zs,rfl,rfl,hH,hB,hz,q⟩:=h
 cases rx
 cases ry
 obtain ⟨z,its,n,r,hl,e⟩:=I.lstM hH
 obtain ⟨z2,its2,n2,r2,hl2,e2⟩:=I.lstM hB
 refine PySem.P.add_list e e2 ?_ (by rw [List.size_toArray,List.size_toArray]; omega)
 have ea:its.toArray ++ its2.toArray = (its ++ its2).toArray:=by simp
 rw [ea]
 exact ⟨.ref _,_,I.lnew (t':=s.toks) (r.append r2) (by rw [List.length_append]; omega),rfl,q _ I.fresh⟩
noncomputable def rRep:R2:=fun x y H Q => ∃ l k xs,x = .ref l ∧ y = .int k ∧ H l = some (.lst xs) ∧ -(2 ^ 63) ≤ k ∧ k < 2 ^ 63 ∧ xs.length * k.toNat ≤ sizeLine ∧
 ∀ p,H p = none → Q (.ref p) (upd H p (.lst (List.replicate k.toNat xs).flatten))
theorem len_rep {α:Type} (xs:List α) (k:Nat):(List.replicate k xs).flatten.length = k * xs.length:=by
 induction k with
 | zero => simp
 | succ k ih => rw [List.replicate_succ,List.flatten_cons,List.length_append,ih,Nat.succ_mul,Nat.add_comm]
theorem op_rep:OpR X (binaryOp .Mult) rRep:=by
 intro pins s σ H x y v u Q I rx ry h
 obtain ⟨l,k,xs,rfl,rfl,hH,h1,h2,hz,q⟩:=h
 cases rx
 obtain ⟨t,rfl⟩:=ry
 obtain ⟨z,its,n,r,hl,e⟩:=I.lstM hH
 have hlen:its.toArray.size * k.toNat ≤ sizeLine:=by rw [List.size_toArray,← hl]; exact hz
 have hcap:¬ its.toArray.size * k.toNat > (2 ^ 63 - 1) / 8:=by
  have:(sizeLine:Nat) ≤ (2 ^ 63 - 1) / 8:=by decide
  omega
 have hfit:¬ (!Builtin.List.listFitsIndex k) = true:=by
  rw [fitsIndex_both h1 h2]
  exact Bool.false_ne_true
 have hlong:¬ Builtin.List.listTooLong (its.toArray.size * k.toNat) = true:=by
  rw [notLongL hlen]
  exact Bool.false_ne_true
 have hnew:List.foldl (fun x1 x2 => x1 ++ x2) #[] (List.replicate (if its.toArray.isEmpty = true then 0 else k.toNat) its.toArray) = (List.replicate k.toNat its).flatten.toArray:=by
  have f0:∀ m:Nat,List.foldl (fun x1 x2 => x1 ++ x2) #[] (List.replicate m its.toArray) = (List.replicate m its).flatten.toArray:=fun m => by
   have:=foldl_rep its m []
   rw [List.nil_append] at this
   exact this
  rw [f0]
  cases its with
  | nil => simp
  | cons a r' => rw [if_neg (by simp)]
 refine wpAny_binaryOp_repeat_ref (T:="list") (U:="int") (by decide) ⟨_,e,rfl⟩ (fun s' => typeIs_int s' k t) noFill_list_mul F.fills_int_mul F.slot_int_rmul repeat_list F.slot_int_index.lookup
  (call_meets F.slot_int_rmul (typeIs_int s k t) F.entry_int_rmul (F.args_int_rmul_2 _ _) (int___rmul___int_list k t l its.toArray n)
   ⟨e,rfl,⟨_,e,rfl⟩,call_meets F.slot_list_mul ⟨_,e,rfl⟩ F.entry_list_mul (F.args_list_mul_2 _ _) (AutoListH.list___mul___list_int_3 l its.toArray n k t hfit hcap hlong) ⟨e,?_⟩⟩)
 rw [hnew]
 exact ⟨.ref _,_,I.lnew (t':=s.toks) (r.rep k.toNat) (by rw [len_rep,Nat.mul_comm]; exact hz),rfl,q _ I.fresh⟩

/-! ### del xs[i] -/
end

/-! ### xs[a:b] = ys -/
section
variable {prog:Program} {w:World} {A:Around} {E:Value → Shared → Prop} {s:Shared}
set_option maxRecDepth 100000 in
end

section
variable {X:Cx}
end
end L2

namespace Att
open PySem PySem.W PySem.Calls PyProof.Rows

/-! ### the script -/
theorem ints_of_wellAll {P:Params} {h:Heap}:∀ (ns:List Int) (vs:List Value),WellAll P h vs (ns.map WData.int) → IntsAre vs ns:=by
 intro ns
 induction ns with
 | nil =>
  intro vs w
  rw [List.map_nil] at w
  cases w
  exact .nil
 | cons n ns ih =>
  intro vs w
  rw [List.map_cons] at w
  cases w with
  | cons a b =>
   cases a
   exact .cons _ _ (ih _ b)

theorem script_of {l:OpenLaw} {n:Nat} (hn:l.most = some n) {P:Params} {h:Heap} {args:List WData} {vals:List Value}
  (hpre:l.row.toRowW.claim.pre args = true) (hwl:WellAll P h vals args) :
  ∃ a vs ns,vals = [Value.ref a] ∧ args = [WData.list (ns.map WData.int)] ∧ h.get? a = some { cls:=.type "list",data:=.seq vs.toArray } ∧ IntsAre vs ns ∧ ns.length ≤ n:=by
 have hsh:WShape.hasAll [] args [.list .int] = true:=(pre_splitW hpre).1
 have hc:l.pre.holds [] { args:=args } = true:=(pre_splitW hpre).2
 obtain ⟨d,r,rfl,h1,h2⟩:=hasAllW_cons hsh
 obtain rfl:=hasAllW_nil h2
 obtain ⟨xs,rfl,h3⟩:=hasW_list h1
 obtain ⟨ns,rfl⟩:=items_int h3
 have hlen:ns.length ≤ n:=by
  unfold OpenLaw.pre at hc
  have h4:(WTm.not (.lt (.lit (.int (n:Int))) (.len (.arg 0)))).holds [] { args:=[.list (ns.map .int)] } = true:=by
   have h4:=(holds_andW hc).1
   rw [hn] at h4
   exact h4
  have h5:=condW_of h4 (w_not (w_lt w_lit (w_len_list (w_arg rfl))))
  rw [List.length_map] at h5
  refine Nat.le_of_not_lt fun q => ?_
  have q':(n:Int) < ((ns.length:Nat):Int):=by omega
  first
   | (rw [decide_eq_true q'] at h5; exact absurd h5 (by decide))
   | (simp at h5; omega)
 cases hwl with
 | cons w1 w2 =>
  cases w2
  cases w1 with
  | list ho hall => exact ⟨_,_,ns,rfl,rfl,ho,ints_of_wellAll ns _ hall,hlen⟩

theorem post_true (l:OpenLaw) (args:List WData):l.row.toRowW.claim.post args (.bool true) args = true :=
 postW_of (r:=l.row.toRowW) (X:=(true == true))
  (show WShape.has [] (.bool true) .bool = true by first | rfl | decide | simp [WShape.has,WShape.arms,WShape.armsAll])
  (show (WTm.eq .res (.lit (.bool true))).value [] { args:=args,res:=some (.bool true),after:=args } = some (.bool (true == true)) from w_eq_bool (w_res rfl) w_lit) rfl

/-! ### the attachment: holds_open's last premise (the goal 'hc' behind k_head) from a wpAny of the law's body -/

theorem attach_call {l:OpenLaw} {n:Nat} {q:Program} {loose:List Str} {XP:(Str → Option Value) → Heap → Prop} {YP:World → Heap → Prop} {d:DefRec}
  (hn:l.most = some n) (hdf:d.params.defaults = [])
  (call:∀ (w:World) (s₀ s₁:Shared) (mg mb:Str → Option Value) (fa:Addr) (o:Obj) (pm cd doc:Value) (a:Addr) (vs:List Value) (ns:List Int),
   Ground q loose [] XP w s₀ mg mb s₁.heap → YP w s₁.heap →
   s₁.heap.get? fa = some o → o.data = .func (docDef d.name d.params d.body d.scope pm cd doc) → s₁.heap.CodeRec cd d.name → mg d.name = some (.ref fa) →
   s₁.heap.get? a = some { cls:=.type "list",data:=.seq vs.toArray } → IntsAre vs ns → ns.length ≤ n → s₁.gens = #[] →
   codeAny (model l.prog w) callerA (.call (.ref fa) ⟨[.ref a],[]⟩) (fun r s' => r = .ok (.ret (.bool true)) ∧ OldK s₁.heap s'.heap ∧ s'.os = s₁.os ∧ AllBare s'.gens) s₁) :
  WalkO q loose XP YP l.row.toRowW d [] (fun f vs => PySem.call f vs):=by
 intro w s₀ s₁ mg mb G Y fa o pm cd doc dV kV ho hd hcd hD hmg hg args vals as hpre hlay hrd hwl hlo
 obtain rfl:dV = .none:=Dflts.none hD hdf
 obtain rfl:kV = .none:=Dflts.noKw hD
 obtain ⟨a,vs,ns,rfl,rfl,hobj,hints,hlen⟩:=script_of hn hpre hwl
 refine enter_call (codeAny_mono (call w s₀ s₁ mg mb fa o pm cd doc a vs ns G Y ho (fd_plain hd) hcd hmg hobj hints hlen hg) fun r s' hq => ?_)
 obtain ⟨rfl,h2,h3,h4⟩:=hq
 exact ⟨.inl ⟨.bool true,.bool true,[],rfl,fun _ => rfl,.bool true,post_true l _,fun _ => ⟨List.Pairwise.nil,fun _ hm => (nomatch hm)⟩⟩,h2,h3,h4⟩


/-! ### rules over ANY heap (no ledger) from facts about the written part K: the library's own take a ledger (News) for what they write -/
section
variable {prog:Program} {w:World} {A:Around} {E:Value → Shared → Prop} {s:Shared} {K:Frag}





/-! the whole heap as the ledger: makes every rule that writes through a ledger a rule over any heap -/

end
end Att

namespace L2
open PySem PySem.Spec PyProof.Rows

theorem vals_ints:∀ {vs:List Value} {ns:List Int},IntsAre vs ns → Vals (ns.map V.int) vs
 | _,_,.nil => .nil
 | _,_,.cons n t h => .cons ⟨t,rfl⟩ (vals_ints h)

noncomputable def Only (H:Hp):Prop:=∀ b,H b = none ∨ ∃ o xs,H b = some (.frz o (.lst xs))

theorem law_call {P:Program} {w:World} {K:PySem.W.Frag} {mg mb:Str → Option Value} {CX:CXT} {k:Nat} {fa a:Addr} {fd:FuncData} {x:Str} {sp:Sp} {s₁:Shared} {vs:List Value} {ns:List Int}
  (KX:K.In s₁.heap) (hns:s₁.heap.Ns mainGlobals mg) (hb:s₁.heap.Ns builtinsNs mb) (hbb:∀ x:Str,x ≠ "__name__" → mb x = bootBuiltins x) (hlim:s₁.heap.NoLimit) (hg:s₁.gens = #[])
  (ha:s₁.heap.get? a = some { cls:=.type "list",data:=.seq vs.toArray }) (hi:IntsAre vs ns) (hl:ns.length ≤ sizeLine) (hr:Room k callerA)
  (F:∀ base:Heap,K.In base → base.Ns mainGlobals mg → FnOk P w K mg base CX k fa fd [x] sp) (hbind:∀ (s:Shared) (u:Value),BindsTo s fd ⟨[u],[]⟩ [(x,u)])
  (hsp:∀ H:Hp,Only H → SqL K H a (ns.map V.int) → sp [.ref a] H (fun v _ => v = .bl true) fun _ _ _ => False)
  (hCX:∀ H e s',CX [] H s₁ (fun _ _ _ => False) e s' → False) :
  codeAny (model P w) callerA (.call (.ref fa) ⟨[.ref a],[]⟩) (fun r s' => r = .ok (.ret (.bool true)) ∧ OldK s₁.heap s'.heap ∧ s'.os = s₁.os ∧ AllBare s'.gens) s₁:=by
 have rv:=vals_ints hi
 have lenV:=hi.length
 -- from an abstract heap in which nothing but the script may be tracked
 have core:∀ H:Hp,Only H → SqL K H a (ns.map V.int) → HOk P w H s₁.heap → (∀ b,H b ≠ none → b = a) → (H a ≠ none → K.lookup a = none) →
   codeAny (model P w) callerA (.call (.ref fa) ⟨[.ref a],[]⟩) (fun r s' => r = .ok (.ret (.bool true)) ∧ OldK s₁.heap s'.heap ∧ s'.os = s₁.os ∧ AllBare s'.gens) s₁:=by
  intro H hO hS hok hA hK
  have base_of:∀ {b:Addr} {o:Obj},s₁.heap.get? b = some o → H b = none → (hidT s₁.heap H).get? b = some o:=fun e n => hidT_get e n
  have noA:∀ {b:Addr} {o:Obj} {es:Array DictEntry} {ep:Nat},s₁.heap.get? b = some o → o.data = .dict es ep → H b = none:=fun {b o es ep} e d => by
   cases q:H b with
   | none => rfl
   | some u =>
    have e':b = a:=hA b (by rw [q]; simp)
    subst e'
    rw [ha] at e; cases e
    have d':Data.seq vs.toArray _ = Data.dict es ep:=d
    cases d'
  have nsK:∀ {b:Addr} {m:Str → Option Value},s₁.heap.Ns b m → (hidT s₁.heap H).Ns b m:=fun {b m} ⟨o,es,ep,e,d,r⟩ => ⟨o,es,ep,base_of e (noA e d),d,r⟩
  have hKb:K.In (hidT s₁.heap H):=fun b o e => base_of (KX b o e) (by
   cases q:H b with
   | none => rfl
   | some u =>
    have e':b = a:=hA b (by rw [q]; simp)
    subst e'
    rw [hK (by rw [q]; simp)] at e; cases e)
  have hM:Mod K mg (hidT s₁.heap H):=⟨hKb,nsK hns,⟨mb,nsK hb,hbb⟩,let ⟨mc,h1,h2⟩:=hlim; ⟨mc,nsK h1,h2⟩⟩
  have e0:Env0 P w K mg (hidT s₁.heap H) callerA [] s₁ H:=⟨rfl,hM,fun b o e => of_hidT e,Nat.le_of_eq (hidT_size _ _),trivial,fun b hb => absurd (show b ∈ ([]:List Addr) from hb) (by simp),hok,.of_eq hg⟩
  refine codeAny_mono ((F _ hKb (nsK hns)).run callerA [] s₁ H ⟨[.ref a],[]⟩ [.ref a] [.ref a] _ _ hr e0 (hbind s₁ (.ref a)) (.cons rfl .nil) (hsp H hO hS)) fun r s' h => ?_
  cases r with
  | error e => exact (hCX H e s' h).elim
  | ok fl =>
   cases fl with
   | next => exact False.elim h
   | brk => exact False.elim h
   | cont => exact False.elim h
   | ret u =>
    obtain ⟨v,H',os,bare,un,hok',r',q⟩:=h
    have q':v = .bl true:=q
    subst q'
    obtain rfl:u = Value.bool true:=r'
    refine ⟨rfl,OldK.of_keep fun b o e => ?_,os,bare⟩
    cases q:H b with
    | none => exact un.keep b o e q (by intro z; exact absurd (show b ∈ ([]:List Addr) from z) (by simp)) (by simp)
    | some u =>
     rcases hO b with z | ⟨ob,xs,z⟩
     ·rw [q] at z; cases z
     ·have z2:=un.frzs b ob _ z
      obtain ⟨e1,_⟩:=hok b _ z
      obtain ⟨e2,_⟩:=hok' b _ z2
      rw [e] at e1; cases e1
      exact e2
 cases hk:K.lookup a with
 | some o =>
  -- the script is one of the module's own objects
  have e:=KX a o hk
  rw [ha] at e
  cases e
  refine core (fun _ => none) (fun _ => .inl rfl) (.inr ⟨_,vs.toArray,_,hk,rfl,rfl,rfl,by rw [List.size_toArray,lenV]; exact hl,by simpa using rv⟩) (fun b u z => by have z':(none:Option HO) = some u:=z; cases z') (fun b z => absurd rfl z) fun z => absurd rfl z
 | none =>
  refine core (fun b => if b = a then some (.frz { cls:=.type "list",data:=.seq vs.toArray } (.lst (ns.map V.int))) else none) (fun b => ?_) (.inl (.inr ⟨{ cls:=.type "list",data:=.seq vs.toArray },if_pos rfl⟩)) (fun b u z => ?_) (fun b z => ?_) fun _ => hk
  ·by_cases hb:b = a
   ·exact .inr ⟨_,_,if_pos hb⟩
   ·exact .inl (if_neg hb)
  ·by_cases hb:b = a
   ·have z':=(if_pos hb).symm.trans z
    cases z'
    subst hb
    exact ⟨ha,by rw [List.length_map]; exact hl,vs,_,rv,ha⟩
   ·have z':=(if_neg hb).symm.trans z
    cases z'
  ·by_cases hb:b = a
   ·exact hb
   ·exact absurd (if_neg hb) z
end L2

namespace L2
open PySem PySem.Spec PyProof.Rows


theorem walk_of {l:PySem.W.OpenLaw} {n k:Nat} {q:Program} {loose:List Str} {XP:(Str → Option Value) → Heap → Prop} {YP:World → Heap → Prop} {d:DefRec} {K:Params → PySem.W.Frag} {CX:World → CXT} {sp:World → Sp} {x:Str}
  (hn:l.most = some n) (hn2:n ≤ sizeLine) (hdf:d.params.defaults = []) (hr:Room k callerA)
  (hY:∀ (w:World) (h:Heap),YP w h → (K w.params).In h)
  (F:∀ (w:World) (mg:Str → Option Value) (fa:Addr) (h:Heap),(K w.params).In h → h.Ns mainGlobals mg → mg d.name = some (.ref fa) →
   ∃ fd:FuncData,(∀ (s:Shared) (u:Value),BindsTo s fd ⟨[u],[]⟩ [(x,u)]) ∧
    ∀ base:Heap,(K w.params).In base → base.Ns mainGlobals mg → FnOk l.prog w (K w.params) mg base (CX w) k fa fd [x] (sp w))
  (hsp:∀ (w:World) (H:Hp) (a:Addr) (ns:List Int),ns.length ≤ n → Only H → SqL (K w.params) H a (ns.map V.int) → sp w [.ref a] H (fun v _ => v = .bl true) fun _ _ _ => False)
  (hCX:∀ (w:World) (H:Hp) (s:Shared) (e:Value) (s':Shared),CX w [] H s (fun _ _ _ => False) e s' → False) :
  PySem.W.WalkO q loose XP YP l.row.toRowW d [] (fun f vs => PySem.call f vs):=by
 refine Att.attach_call hn hdf fun w s₀ s₁ mg mb fa o pm cd doc a vs ns G Y ho hd hcd hmg hobj hints hlen hg => ?_
 have KX:=hY w _ Y
 obtain ⟨fd,hb,hF⟩:=F w mg fa _ KX G.T.g hmg
 exact law_call KX G.T.g G.T.b G.T.builtins G.T.nolimit hg hobj hints (Nat.le_trans hlen hn2) hr hF hb (fun H hO hS => hsp w H a ns hlen hO hS) fun H e s' => hCX w H s₁ e s'
end L2

/- THE LAST THEOREM (shape; LID,My.* are yours):
   My.Adr: a structure of the addresses that your layer names (classes,functions); My.Txt K t: a structure (Prop) of the equations over K;
   My.txt_mk:{K} {implicit addresses ..} (e1:nsIn K mainGlobals "law" = some (some (.ref f))) (e2:K.lookup f = some ⟨oc,od,.func (fnOf "law" "law" params body scope dV kV doc pm an cdv ct),sl⟩) (e3:codeIn K cdv "law" = true) ..:∃ t,My.Txt K t

set_option maxRecDepth 100000 in
set_option maxHeartbeats 0 in
theorem PySem.Challenge.cw_LID_holds : PySem.Challenge.rw_LID.Holds := by
 w_on; o_law; k_head; (case hw => w_witness2)
 k_fill
 refine L2.walk_of (l:=PySem.Challenge.rw_LID) (n:=63) (k:=40) (x:="script") (CX:=fun w => ..) (sp:=fun _ => My.sp_law) rfl (by decide) rfl ⟨rfl,by decide,by decide⟩ (fun w h Y => PySem.W.kIn_of Y) ?F ?S ?C
 case F =>
  intro w mg fa h KX G hmg
  have T:∃ t,My.Txt (L2.KOf KX) t:=by
   dsimp only [L2.KOf]                          -- K must stand as «<heap const> w.params» for k_is
   refine' My.txt_mk ?e1 ?e2 ?e3 ..
   (case e1 => PySem.W.k_is)                    -- in the order: a name -> its address -> its object -> its parts
   (case e2 => PySem.W.k_is)
   ..
  obtain ⟨t,T⟩:=T
  have e0:=hmg.symm.trans (PySem.W.mg_of KX G T.law)
  cases e0                                       -- fa is the law's own address
  exact ⟨_,fun s u => .of_eq rfl,fun base kb nb => My.law_fn T kb nb⟩     -- if «.of_eq rfl» comes too early: refine' ⟨_,?b,fun base kb nb => My.law_fn T kb nb⟩; exact fun s u => .of_eq rfl
 case S => exact fun w H a ns hl hO hS => ..
 case C => exact ..
(the tactic k_is has no namespace: write k_is) -/

/-! SHORT WORDS over the layer: a def of the text,its body,what a loop and a test want. -/
namespace L2
open PySem PySem.Spec PyProof.Rows

/-! ### the text by places -/
noncomputable def defArgs (s:Stmt):Arguments:=match s with
 | .FunctionDef _ a _ _ _ _ _ _ _ _ => a
 | _ => { posonlyargs:=[],args:=[],vararg:=none,kwonlyargs:=[],kw_defaults:=[],kwarg:=none,defaults:=[] }
noncomputable def defBody (s:Stmt):List Stmt:=match s with
 | .FunctionDef _ _ b _ _ _ _ _ _ _ => b
 | _ => []
noncomputable def defScope (s:Stmt):Scope:=match s with
 | .FunctionDef _ _ _ _ _ _ sc _ _ _ => sc
 | _ => { kind:=.function,names:=[],isGenerator:=false,isCoroutine:=false }

/-! ### no exception leaves a def -/
noncomputable abbrev CX0:CXT:=fun _ _ _ _ _ _ => False
noncomputable abbrev E0:XK:=fun _ _ _ => False
theorem pass0 {X:Cx}:Passes CX0 X E0:=fun _ _ _ _ _ _ _ h => h.elim

/-! ### a def (or method) of the text as it stands behind the top -/
structure Fun (K:PySem.W.Frag) (x qual:Str) (st:Stmt) (f:Addr) (fd:FuncData):Prop where
 ex:∃ (oc:Value) (od:Option Addr) (kV doc pm:Value) (an:Option Addr) (cdv ct:Value) (osl:Array (Option Value)),
  fd = PySem.W.fnOf x qual (defArgs st) (defBody st) (defScope st) .none kV doc pm an cdv ct ∧ K.lookup f = some ⟨oc,od,.func fd,osl⟩ ∧ PySem.W.codeIn K cdv qual = true
 kp:PySem.W.keepIn K (.ref f) = true
section
variable {P:Program} {w:World} {K:PySem.W.Frag} {mg:Str → Option Value} {base:Heap}
theorem Fun.ok {x qual:Str} {st:Stmt} {f:Addr} {fd:FuncData} {N ps:List Str} {k:Nat} {sp:Sp} (F:Fun K x qual st f fd) (S:FnScope N ps (defScope st)) (len:∀ vs H Q E,sp vs H Q E → vs.length = ps.length)
  (hbody:∀ (cdv:Value) (A:Around) (outer:List Env) (s:Shared) (H:Hp) (vs:List V) (Q:VK) (E:XK),Room k (A.deeper (envOfC qual (defScope st) s.heap.objs.size f cdv)) → sp vs H Q E →
   ∃ t,PSs (cxOf CX0 P w K mg base N qual (defScope st) f cdv A outer s H E).nox (defBody st) t ∧ t { nx:=fun _ H' => Q .non H',rt:=Q } (start N vs) H):FnOk P w K mg base CX0 (k + 1) f fd ps sp:=by
 obtain ⟨oc,od,kV,doc,pm,an,cdv,ct,osl,rfl,lk,hcd⟩:=F.ex
 refine fn_of lk hcd S len fun A outer s H vs Q E hr hsp => ?_
 obtain ⟨t,h,q⟩:=hbody cdv A outer s H vs Q E hr hsp
 exact ⟨t,h.nox,q⟩
theorem Fun.binds {x qual:Str} {st:Stmt} {f:Addr} {fd:FuncData} {ps:List Str} (F:Fun K x qual st f fd)
  (h:∀ (kV doc pm:Value) (an:Option Addr) (cdv ct:Value) (us:List Value),us.length = ps.length → bindArgs (PySem.W.fnOf x qual (defArgs st) (defBody st) (defScope st) .none kV doc pm an cdv ct) ⟨us,[]⟩ = pure (ps.zip us)):Binds K fd ps []:=by
 obtain ⟨oc,od,kV,doc,pm,an,cdv,ct,osl,rfl,lk,hcd⟩:=F.ex
 exact .all (h kV doc pm an cdv ct)
theorem fun_mk {x qual:Str} {st:Stmt} {f:Addr} {oc:Value} {od an:Option Addr} {osl:Array (Option Value)} {kV doc pm cdv ct:Value} (l:K.lookup f = some ⟨oc,od,.func (PySem.W.fnOf x qual (defArgs st) (defBody st) (defScope st) .none kV doc pm an cdv ct),osl⟩)
  (c:PySem.W.codeIn K cdv qual = true) (k:PySem.W.keepIn K (.ref f) = true):Fun K x qual st f (PySem.W.fnOf x qual (defArgs st) (defBody st) (defScope st) .none kV doc pm an cdv ct):=⟨⟨oc,od,kV,doc,pm,an,cdv,ct,osl,rfl,l,c⟩,k⟩
end

/-! ### expressions in short: the name that stands in the i-th slot -/
section
variable {X:Cx}
end

/-! ### tests -/
theorem ite2 {c A B:Prop} [Decidable c] (h1:c → A) (h2:¬ c → B):if c then A else B:=by
 by_cases h:c
 ·rw [if_pos h]
  exact h1 h
 ·rw [if_neg h]
  exact h2 h

/-! ### heaps -/
noncomputable def Same (H H':Hp):Prop:=∀ b o,H b = some o → H' b = some o
theorem Same.refl (H:Hp):Same H H:=fun _ _ h => h
theorem Same.trans {H H1 H2:Hp} (a:Same H H1) (b:Same H1 H2):Same H H2:=fun c o h => b c o (a c o h)
theorem Same.free {H H':Hp} (e:Same H H') {l:Addr} (h:H' l = Option.none):H l = Option.none:=by
 cases q:H l with
 | none => rfl
 | some o =>
  rw [e l o q] at h
  cases h

end L2

set_option Elab.async false
set_option linter.all false
set_option maxRecDepth 100000
namespace L2
open PySem PySem.Spec PyProof.Rows

/-! ### lists of pairs as tables -/
section
variable {κ:Type} [DecidableEq κ]
noncomputable def valV (kvs:List (κ × V)) (k:κ):Option V:=(kvs.find? fun kv => decide (kv.1 = k)).map (·.2)
noncomputable def putK (kvs:List (κ × V)) (k:κ) (v:V):List (κ × V) :=
 if (kvs.any fun kv => decide (kv.1 = k)) = true then kvs.map (fun kv => if kv.1 = k then (kv.1,v) else kv) else kvs ++ [(k,v)]
noncomputable def dropK (kvs:List (κ × V)) (k:κ):List (κ × V):=kvs.filter fun kv => decide (kv.1 ≠ k)


theorem RelO.getD {o:Option V} {u:Option Value} {d:V} {d':Value} (r:RelO o u) (rd:RelV d d'):RelV (o.getD d) (u.getD d'):=by
 cases o with
 | none => cases u with
  | none => exact rd
  | some _ => exact (show False from r).elim
 | some _ => cases u with
  | none => exact (show False from r).elim
  | some _ => exact r

theorem KV.any {kvs:List (κ × V)} {vs:List (κ × Value)} (r:KV kvs vs) (k:κ):(kvs.any fun kv => decide (kv.1 = k)) = vs.any fun kv => decide (kv.1 = k):=by
 unfold KV at r
 induction r with
 | nil => rfl
 | cons h t ih => rw [List.any_cons,List.any_cons,ih,h.1]
theorem KV.drop {kvs:List (κ × V)} {vs:List (κ × Value)} (r:KV kvs vs) (k:κ):KV (dropK kvs k) (without vs k):=by
 unfold KV at r ⊢
 unfold dropK without
 induction r with
 | nil => exact .nil
 | @cons p q ps qs h t ih =>
  obtain ⟨h1,h2⟩:=h
  rw [List.filter_cons,List.filter_cons]
  by_cases e:p.1 = k
  ·have a:¬ decide (p.1 ≠ k) = true:=by simp [e]
   have b:¬ decide (q.1 ≠ k) = true:=by simp [h1.symm.trans e]
   rw [if_neg a,if_neg b]; exact ih
  ·have e':¬ q.1 = k:=fun z => e (h1.trans z)
   have a:decide (p.1 ≠ k) = true:=by simp [e]
   have b:decide (q.1 ≠ k) = true:=by simp [e']
   rw [if_pos a,if_pos b]; exact .cons ⟨h1,h2⟩ ih
theorem KV.length {kvs:List (κ × V)} {vs:List (κ × Value)} (r:KV kvs vs):kvs.length = vs.length:=Paired.length r
end


/-! ### a tracked dict,its keys ints and texts or tuples of these -/


section
variable {P:Program} {w:World} {H:Hp} {h:Heap} {a:Addr}
end

noncomputable def DGet (H:Hp) (a:Addr) (y:V) (r:Option V):Prop :=
 (∃ kvs k,Rd H a (.dK kvs) ∧ y = kV k ∧ r = valV kvs k) ∨ ∃ kvs k b,Rd H a (.dT kvs) ∧ y = .ref b ∧ H b = some (.tup (k.map kV)) ∧ r = valV kvs k
noncomputable def DPut (H:Hp) (a:Addr) (y v:V) (H':Hp):Prop :=
 (∃ kvs k,H a = some (.dK kvs) ∧ y = kV k ∧ kvs.length < sizeLine ∧ H' = upd H a (.dK (putK kvs k v))) ∨
 ∃ kvs k b,H a = some (.dT kvs) ∧ y = .ref b ∧ H b = some (.tup (k.map kV)) ∧ kvs.length < sizeLine ∧ H' = upd H a (.dT (putK kvs k v))
theorem DGet.k {H:Hp} {a:Addr} {kvs:List (Key × V)} {k:Key} (e:H a = some (.dK kvs)):DGet H a (kV k) (valV kvs k):=.inl ⟨kvs,k,.inl e,rfl,rfl⟩
theorem DGet.t {H:Hp} {a b:Addr} {kvs:List (List Key × V)} {k:List Key} (e:H a = some (.dT kvs)) (eb:H b = some (.tup (k.map kV))):DGet H a (.ref b) (valV kvs k):=.inr ⟨kvs,k,b,.inl e,rfl,eb,rfl⟩
theorem DPut.k {H:Hp} {a:Addr} {kvs:List (Key × V)} {k:Key} {v:V} (e:H a = some (.dK kvs)) (hl:kvs.length < sizeLine):DPut H a (kV k) v (upd H a (.dK (putK kvs k v))):=.inl ⟨kvs,k,e,rfl,hl,rfl⟩
theorem DPut.t {H:Hp} {a b:Addr} {kvs:List (List Key × V)} {k:List Key} {v:V} (e:H a = some (.dT kvs)) (eb:H b = some (.tup (k.map kV))) (hl:kvs.length < sizeLine) :
  DPut H a (.ref b) v (upd H a (.dT (putK kvs k v))):=.inr ⟨kvs,k,b,e,rfl,eb,hl,rfl⟩


section
variable {X:Cx} {pins:List (Addr × Obj)} {σ:St} {H:Hp} {s:Shared} {a:Addr} {y v:V} {u r:Value} {o:Option V} {A:Around} {E:Value → Shared → Prop}


end

section
variable {X:Cx} {pins:List (Addr × Obj)} {σ:St} {H:Hp} {s:Shared} {a:Addr} {kvs:List (Key × V)} {k:Key} {u:Value} {A:Around} {E:Value → Shared → Prop}
end


/-! ### readings and rules -/



section
variable {X:Cx} {o i e value:Expr} {pos pos' tpos:Pos} {td ty tv:TE}
end


/-! ### displays -/
section
variable {X:Cx} {pos:Pos}
end




/-! ### methods -/
structure M1 (X:Cx) (o:Expr) (m:Str) (apos:Pos) (e:Expr) (cpos:Pos):Prop where
 base:attributeBase o m X.env (eval o X.env) = eval o X.env
 few:((backTo cpos (starEach [e] X.env)).all (fun x => !x.1) && (backToKw cpos (keywordEach [] X.env)).all (fun x => x.1.isSome)
  && decide (([e]:List Expr).length + ([]:List Keyword).length + (if ([]:List Keyword).isEmpty then 0 else 1) < 30)) = true
 line:(apos.endLine == cpos.line) = true
 trees:backTo cpos (starEach [e] X.env) = [(false,eval e X.env)]
structure M2 (X:Cx) (o:Expr) (m:Str) (apos:Pos) (e f:Expr) (cpos:Pos):Prop where
 base:attributeBase o m X.env (eval o X.env) = eval o X.env
 few:((backTo cpos (starEach [e,f] X.env)).all (fun x => !x.1) && (backToKw cpos (keywordEach [] X.env)).all (fun x => x.1.isSome)
  && decide (([e,f]:List Expr).length + ([]:List Keyword).length + (if ([]:List Keyword).isEmpty then 0 else 1) < 30)) = true
 line:(apos.endLine == cpos.line) = true
 trees:backTo cpos (starEach [e,f] X.env) = [(false,eval e X.env),(false,eval f X.env)]


section
variable {X:Cx} {pins:List (Addr × Obj)} {σ:St} {H:Hp} {s:Shared} {a:Addr} {y d:V} {u r:Value} {o:Option V} {A:Around} {E:Value → Shared → Prop}
end

section
variable {X:Cx} {o e f:Expr} {apos cpos:Pos} {td ty tx:TE}
end

/-! ### dict(d): a copy -/
section
variable {X:Cx} {pins:List (Addr × Obj)} {σ:St} {H:Hp} {s:Shared} {a:Addr} {kvs:List (Key × V)} {A:Around} {E:Value → Shared → Prop}
end


section
variable {X:Cx} {pins:List (Addr × Obj)} {σ:St} {H:Hp} {s:Shared} {a:Addr} {y:V} {u:Value} {A:Around} {E:Value → Shared → Prop}
end
end L2
namespace L2
open PySem PySem.Spec PyProof.Rows
/-! ### a dict's pairs: keys that differ -/
section
variable {κ:Type} [DecidableEq κ]
end
end L2

set_option Elab.async false
set_option linter.all false
set_option maxRecDepth 100000
namespace L2
open PySem PySem.Spec PyProof.Rows

/-! a list comprehension with one clause,run over the layer's own judgements -/
noncomputable def cxComp (X:Cx) (scope:Scope) (cl:List (Str × Addr)) (N:List Str) (C:Addr) (s:Shared) (H:Hp) (ex:List Addr):Cx where
 prog:=X.prog
 w:=X.w
 K:=X.K
 mg:=X.mg
 base:=X.base
 A:=X.A
 N:=N
 s₀:=s
 H₀:=H
 env:=compEnvC scope cl C X.env
 outer:=X.stack
 stack:=X.stack
 ex:=ex
 calm:=X.calm
 fn:=fun _ => false
 pn:=[]
 xe:=fun _ _ => False

noncomputable def maskS:List Bool → St → St
 | true :: ms,v :: σ => v :: maskS ms σ
 | false :: ms,_ :: σ => none :: maskS ms σ
 | [],_ :: σ => none :: maskS [] σ
 | _,[] => []
theorem maskS_length:∀ (ms:List Bool) (σ:St),(maskS ms σ).length = σ.length
 | true :: ms,v :: σ => by simp [maskS,maskS_length ms σ]
 | false :: ms,_ :: σ => by simp [maskS,maskS_length ms σ]
 | [],_ :: σ => by simp [maskS,maskS_length [] σ]
 | [],[] => by simp [maskS]
 | true :: _,[] => by simp [maskS]
 | false :: _,[] => by simp [maskS]
theorem maskS_get:∀ {ms:List Bool} {σ:St} {i:Nat} {v:V},(maskS ms σ)[i]? = some (some v) → ms[i]? = some true ∧ σ[i]? = some (some v)
 | true :: ms,v :: σ,0,x,h => by simpa [maskS] using h
 | true :: ms,v :: σ,i + 1,x,h => by
  have:=maskS_get (ms:=ms) (σ:=σ) (i:=i) (v:=x) (by simpa [maskS] using h)
  simpa using this
 | false :: ms,_ :: σ,0,x,h => by simp [maskS] at h
 | false :: ms,_ :: σ,i + 1,x,h => by
  have:=maskS_get (ms:=ms) (σ:=σ) (i:=i) (v:=x) (by simpa [maskS] using h)
  simpa using this
 | [],_ :: σ,0,x,h => by simp [maskS] at h
 | [],_ :: σ,i + 1,x,h => by
  have:=maskS_get (ms:=[]) (σ:=σ) (i:=i) (v:=x) (by simpa [maskS] using h)
  simpa using this
 | [],[],_,_,h => by simp [maskS] at h
 | true :: _,[],_,_,h => by simp [maskS] at h
 | false :: _,[],_,_,h => by simp [maskS] at h
noncomputable def compS (ms:List Bool) (k:Nat) (σ:St):St:=maskS ms σ ++ List.replicate k none
theorem compS_get {ms:List Bool} {k:Nat} {σ:St} {i:Nat} {v:V} (h:(compS ms k σ)[i]? = some (some v)):i < σ.length ∧ ms[i]? = some true ∧ σ[i]? = some (some v):=by
 unfold compS at h
 by_cases hi:i < (maskS ms σ).length
 ·rw [List.getElem?_append_left hi] at h
  exact ⟨by rwa [maskS_length] at hi,maskS_get h⟩
 ·rw [List.getElem?_append_right (by omega),List.getElem?_replicate] at h
  split at h <;> cases h

structure CompSc (X:Cx) (scope:Scope) (cl:List (Str × Addr)) (ms:List Bool) (extra:List Str):Prop where
 kind:scope.kind = .function
 ncell:∀ y ∈ scope.names,y.2 ≠ .cell
 names:∀ y ∈ scope.names,y.2 = .local → scope.names.lookup y.1 = some .local
 clos:closureFor scope X.env = pure cl
 sub:∀ x c,cl.lookup x = some c → X.env.cells.lookup x = some c
 has:∀ x,scope.names.lookup x = some .free → ∃ c,cl.lookup x = some c
 fr:∀ x,scope.names.lookup x = some .free → X.env.scope.names.lookup x = some .cell ∨ X.env.scope.names.lookup x = some .free
 mask:∀ (i:Nat) (x:Str),ms[i]? = some true → X.N[i]? = some x → scope.names.lookup x = some .free
 mlen:ms.length ≤ X.N.length

theorem relabel_look {env:Env}:∀ {names:List (Str × NameKind)} {x:Str} {k:NameKind},
  (names.map fun (n,k) => if (k == NameKind.free && env.scope.kind == .function && env.kindOf n == some .cell) then (n,NameKind.cell) else (n,k)).lookup x = some k → (∀ y ∈ names,y.2 ≠ .cell) → k = .cell ∨ k = .free → names.lookup x = some .free
 | [],_,_,h,_,_ => by simp at h
 | (n,k0) :: r,x,k,h,hc,hk => by
  have ih:=@relabel_look env r x k
  have h:List.lookup x ((if (k0 == NameKind.free && env.scope.kind == .function && env.kindOf n == some .cell) = true then (n,NameKind.cell) else (n,k0)) :: _) = some k:=h
  cases hx:x == n with
  | true =>
   by_cases hq:(k0 == NameKind.free && env.scope.kind == .function && env.kindOf n == some .cell) = true
   ·have:k0 = .free:=by
     simp at hq
     exact hq.1.1
    subst this
    simp [List.lookup_cons,hx]
   ·rw [if_neg hq] at h
    simp only [List.lookup_cons,hx] at h
    cases h
    rcases hk with rfl | rfl
    ·exact absurd rfl (hc (n,.cell) List.mem_cons_self)
    ·simp [List.lookup_cons,hx]
  | false =>
   by_cases hq:(k0 == NameKind.free && env.scope.kind == .function && env.kindOf n == some .cell) = true
   ·rw [if_pos hq] at h
    simp only [List.lookup_cons,hx] at h ⊢
    exact ih h (fun y hy => hc y (List.mem_cons_of_mem _ hy)) hk
   ·rw [if_neg hq] at h
    simp only [List.lookup_cons,hx] at h ⊢
    exact ih h (fun y hy => hc y (List.mem_cons_of_mem _ hy)) hk
theorem relabel_free {env:Env}:∀ {names:List (Str × NameKind)} {x:Str},names.lookup x = some .free →
  (names.map fun (n,k) => if (k == NameKind.free && env.scope.kind == .function && env.kindOf n == some .cell) then (n,NameKind.cell) else (n,k)).lookup x = some .cell ∨
  (names.map fun (n,k) => if (k == NameKind.free && env.scope.kind == .function && env.kindOf n == some .cell) then (n,NameKind.cell) else (n,k)).lookup x = some .free
 | [],_,h => by simp at h
 | (n,k0) :: r,x,h => by
  have ih:=@relabel_free env r x
  show List.lookup x ((if (k0 == NameKind.free && env.scope.kind == .function && env.kindOf n == some .cell) = true then (n,NameKind.cell) else (n,k0)) :: _) = _ ∨ List.lookup x ((if (k0 == NameKind.free && env.scope.kind == .function && env.kindOf n == some .cell) = true then (n,NameKind.cell) else (n,k0)) :: _) = _
  cases hx:x == n with
  | true =>
   simp only [List.lookup_cons,hx] at h
   cases h
   split
   ·left; simp [List.lookup_cons,hx]
   ·right; simp [List.lookup_cons,hx]
  | false =>
   simp only [List.lookup_cons,hx] at h
   split <;> (simp only [List.lookup_cons,hx]; exact ih h)

section
variable {X:Cx} {pins:List (Addr × Obj)} {σ:St} {H H2:Hp} {s s2:Shared} {scope:Scope} {cl:List (Str × Addr)} {ms:List Bool} {extra:List Str}

theorem compOk (I:Inv X pins σ H s) (S:CompSc X scope cl ms extra) {fp:List Addr} (hfp:∀ b ∈ fp,FpOk X pins H b) (hlt:∀ b ∈ fp,b < s.heap.objs.size) {C:Addr} (hC:s.heap.objs.size ≤ C) :
  (cxComp X scope cl (X.N ++ extra) C s H fp).Ok where
 mod:=I.ok.mod
 kind:=S.kind
 glob:=I.ok.glob
 blt:=I.ok.blt
 above:=hC
 inj:=fun x y c h1 h2 => I.ok.inj x y c (S.sub x c h1) (S.sub y c h2)
 has:=fun x hx => S.has x (relabel_look (env:=X.env) (k:=if (cxComp X scope cl (X.N ++ extra) C s H fp).env.kindOf x = some .cell then .cell else .free) (by
  rcases hx with hx | hx
  ·rw [if_pos hx]; exact hx
  ·rw [if_neg (by rw [hx]; decide)]; exact hx) S.ncell (by split <;> simp))
 cab:=fun x c h => by cases h
 hd:=I.ok.hd
 frames:=I.ok.frames
 stk:=.inl rfl
 exf:=fun b hb => ⟨Nat.ne_of_lt (Nat.lt_of_lt_of_le (hlt b hb) hC),fun x c e => (hfp b hb).2.2.2.2.1 x c (S.sub x c e)⟩
 bs:=I.bs
 bsz:=Nat.le_trans I.ok.bsz I.sz
 noex:=fun b o e hb => by
  rcases (hfp b hb).2.2.2.1 with z | z
  ·exact I.ok.noex b o e z
  ·exact absurd (Nat.lt_of_lt_of_le (Heap.lt_size e) (Nat.le_trans I.ok.bsz z)) (Nat.lt_irrefl _)
 exfs:=fun b hb z => by
  rcases List.mem_cons.mp (I.stkSub b z) with e | e
  ·exact (hfp b hb).2.1 e
  ·exact (hfp b hb).2.2.1 e
 funs:=I.stack
 frf:=I.stkFree

theorem compInv (I:Inv X pins σ H s) (S:CompSc X scope cl ms extra) {fp:List Addr} (hfp:∀ b ∈ fp,FpOk X pins H b) (hlt:∀ b ∈ fp,b < s.heap.objs.size) {C:Addr} (hC:s.heap.objs.size ≤ C)
  (os:s2.os = s.os) (bare:AllBare s2.gens) (keep:∀ b o,s.heap.get? b = some o → s2.heap.get? b = some o) {m:Str → Option Value} (hn:s2.heap.Ns C m) :
  Inv (cxComp X scope cl (X.N ++ extra) C s H fp) [] (compS ms extra.length σ) H s2 where
 ok:=compOk I S hfp hlt hC
 os:=os
 bare:=bare
 base:=Un.kept keep
 loc:=⟨m,hn,fun i x v h1 h2 h3 => by
  obtain ⟨hi,hm,hv⟩:=compS_get h2
  have hiN:i < X.N.length:=by rw [← I.len]; exact hi
  have hx:X.N[i]? = some x:=by
   have h1':(X.N ++ extra)[i]? = some x:=h1
   rwa [List.getElem?_append_left hiN] at h1'
  have hf:=S.mask i x hm hx
  obtain ⟨m0,hn0,hl⟩:=I.loc
  obtain ⟨u,r,l⟩:=hl i x v hx hv (by rcases S.fr x hf with z | z <;> simp [Vis,z])
  refine ⟨u,r,.inr ⟨?_,?_⟩⟩
  ·exact relabel_free (env:=X.env) hf
  ·obtain ⟨c,hc⟩:=S.has x hf
   have hc':=S.sub x c hc
   rcases l with ⟨k,_⟩ | ⟨_,c',e,z⟩
   ·rcases S.fr x hf with z | z <;> (have k':X.env.scope.names.lookup x = some .local:=k; rw [z] at k'; cases k')
   ·rw [hc'] at e; cases e
    obtain ⟨o,ho,hd⟩:=z
    exact ⟨c,hc,o,keep _ _ ho,hd⟩⟩
 cell:=fun x c e => by
  obtain ⟨v,o,ho,hd⟩:=I.cell x c (S.sub x c e)
  exact ⟨v,o,keep _ _ ho,hd⟩
 free:=I.hok.fresh hC
 freeC:=fun x c e => I.freeC x c (S.sub x c e)
 pin:=fun p hp => absurd (show p ∈ ([]:List (Addr × Obj)) from hp) (by simp)
 hok:=I.hok.kept keep
 len:=by
  unfold compS
  rw [List.length_append,maskS_length,List.length_replicate,I.len]
  show _ = (X.N ++ extra).length
  rw [List.length_append]
end
end L2

set_option Elab.async false
set_option linter.all false
set_option maxRecDepth 100000
namespace L2
open PySem PySem.Spec PyProof.Rows

noncomputable def PIf (X:Cx) (ifs:List Expr) (t:TT):Prop :=
 ∀ (pins:List (Addr × Obj)) (s:Shared) (σ:St) (H:Hp) (Q:Bool → Hp → Prop),Inv X pins σ H s → t σ H Q →
  wpAny (model X.prog X.w) X.A (forIn ifs true fun c r => if r = true then do let ok ← isTrue c X.env (eval c X.env); pure (ForInStep.yield ok) else pure (ForInStep.yield r)) (TP X pins σ Q) X.xe s
noncomputable def tYes:TT:=fun _ H Q => Q true H
theorem pif_nil {X:Cx}:PIf X [] tYes:=fun _ _ _ H _ I h => wpAny_tests_nil ⟨H,I,h⟩
theorem pif_one {X:Cx} {c:Expr} {t:TT} (h:PT X c t):PIf X [c] t:=fun pins s σ H Q I q => wpAny_tests_one (h pins s σ H Q I q)

noncomputable abbrev lobj (its:List Value) (n:Nat):Obj:={ cls:=.type "list",data:=.seq its.toArray n }

noncomputable def CompTurn (J:It) (g:TG) (tc:TT) (te:TE) (W:Nat → Nat → List V → St → Hp → Prop) (Z:List V → Hp → Prop):Prop :=
 ∀ i m ys σ H,W i m ys σ H → ys.length ≤ sizeLine ∧ ((J.stop i H ∧ Z ys H) ∨
  (J.go i H ∧ ∀ x H',J.yld i H x H' → g x σ H' fun σ2 H2 => tc σ2 H2 fun b H3 => if b = true then te σ2 H3 fun y H4 => ∃ m',m' < m ∧ W (i + 1) m' (ys ++ [y]) σ2 H4 else ∃ m',m' < m ∧ W (i + 1) m' ys σ2 H3))

theorem codeAny_compLoop_any {prog:Program} {w:World} {A:Around} {R:Result → Shared → Prop} {s:Shared} {elt target iter:Expr} {ifs:List Expr} {scope:Scope} {pos:Pos} {it acc:Value} {env:Env} (I:Nat → Shared → Prop)
  (turn:∀ n s,I n s → wpAny (model prog w) A (pyNext it) (fun r s₁ => match r with
   | none => R (.ok .next) s₁
   | some v => wpAny (model prog w) A (letOwnedTupleGo target it v) (fun _ s₁ => wpAny (model prog w) A (assign target env v) (fun _ s₂ =>
     wpAny (model prog w) A (forIn ifs true fun c r => if r = true then do let ok ← isTrue c env (eval c env); pure (ForInStep.yield ok) else pure (ForInStep.yield r)) (fun ok s₃ =>
      if ok = true then wpAny (model prog w) A (eval elt env) (fun x s₄ =>
       wpAny (model prog w) A (call (.builtin "list.append") [acc,x]) (fun _ s₅ => ∃ m,m < n ∧ I m s₅) (fun _ _ => False) s₄) (fun _ _ => False) s₃
      else ∃ m,m < n ∧ I m s₃) (fun _ _ => False) s₂) (fun _ _ => False) s₁) (fun _ _ => False) s₁) (fun _ _ => False) s)
  (n:Nat) (h:I n s) :
  codeAny (model prog w) A (.compLoop (.ListComp elt [⟨target,iter,ifs,0⟩] scope pos) 0 it acc env) R s:=by
 refine codeAny_loop rfl I (fun n s hI => ?_) n h
 show wpAny _ A ((compTurn (.ListComp elt [⟨target,iter,ifs,0⟩] scope pos) 0 it acc env).onRaise (fun x => do noteFrame x env; theTreesLotGoes x)) _ _ s
 refine wpAny_noted ?_
 rw [compTurn_list]
 refine wpAny_bind (wpAny_standAt (wpAny_bind (wpAny_mono (turn n s hI) (fun r s₁ h₁ => ?_) fun _ _ h' => h'.elim)))
 cases r with
 | none => exact wpAny_pure h₁
 | some v =>
  refine wpAny_bind (wpAny_mono h₁ (fun _ s1 h₁ => ?_) fun _ _ h' => h'.elim)
  refine wpAny_bind (wpAny_mono h₁ (fun _ s₂ h₂ => wpAny_bind (wpAny_mono h₂ (fun ok s₃ h₃ => ?_) fun _ _ h' => h'.elim)) fun _ _ h' => h'.elim)
  cases ok with
  | false => exact wpAny_pure ⟨rfl,h₃⟩
  | true =>
   exact wpAny_bind (wpAny_bind (wpAny_mono h₃ (fun x s₄ h₄ => wpAny_bind (wpAny_mono h₄ (fun _ s₅ h₅ => wpAny_pure (wpAny_pure ⟨rfl,h₅⟩)) fun _ _ h' => h'.elim)) fun _ _ h' => h'.elim))

section
variable {X:Cx} {pins:List (Addr × Obj)} {σ:St} {H2:Hp} {s2:Shared} {scope:Scope} {cl:List (Str × Addr)} {ms:List Bool} {extra:List Str} {tg iter elt:Expr} {ifs:List Expr} {g:TG} {tc:TT} {te:TE} {pos:Pos}

theorem comp_core (S:CompSc X scope cl ms extra) (hcalm:X.calm = true)
  (hg:∀ C s H ex,PG (cxComp X scope cl (X.N ++ extra) C s H ex) tg g) (hif:∀ C s H ex,PIf (cxComp X scope cl (X.N ++ extra) C s H ex) ifs tc) (he:∀ C s H ex,PE (cxComp X scope cl (X.N ++ extra) C s H ex) elt te)
  (I2:Inv X pins σ H2 s2) {it:Addr} {fp:List Addr} {tn:Nat → Heap → Prop} {J:It} (T:Turn X.prog X.w X.K tg J fp it tn) (st2:tn 0 s2.heap) (f2:∀ b ∈ fp,FpOk X pins H2 b)
  {W:Nat → Nat → List V → St → Hp → Prop} {Z:List V → Hp → Prop} {m0:Nat} (w0:W 0 m0 [] (compS ms extra.length σ) H2) (turn:CompTurn J g tc te W Z)
  {RR:Value → Addr → Result → Shared → Prop} {E:Value → Shared → Prop}
  (hRR:∀ (s':Shared) (ys:List V) (its:List Value) (n:Nat) (σ':St) (H':Hp),Inv (cxComp X scope cl (X.N ++ extra) (s2.heap.objs.size + 1) s2 H2 fp) [(s2.heap.objs.size,lobj its n)] σ' H' s' → Vals ys its → ys.length ≤ sizeLine → Z ys H' →
   RR (.ref s2.heap.objs.size) (s2.heap.objs.size + 1) (.ok .next) s') :
  wpAny (model X.prog X.w) X.A (newList []) (fun acc s₃ => wpAny (model X.prog X.w) X.A (newFunctionEnv scope X.env.globals cl [] X.env.qual none .none (some X.env)) (fun cenv s₄ =>
   codeAny (model X.prog X.w) X.A (.compStart (.ListComp elt [⟨tg,iter,ifs,0⟩] scope pos) 0 (.ref it) acc { cenv with scope:=relabel scope X.env }) (RR acc cenv.locals) s₄) E s₃) E s2:=by
 refine wpAny_newObj_type (wpAny_newFunctionEnv S.ncell (by intro y hy; simp at hy) (fun h₁ hns₁ hsb₁ => ?_) S.kind)
 dsimp only at hns₁ hsb₁ ⊢
 have hsz:(s2.heap.push { cls:=.type "list",dict:=none,data:=.seq ([]:List Value).toArray }).objs.size = s2.heap.objs.size + 1:=by rw [Heap.size_push]
 rw [hsz] at hns₁ hsb₁ ⊢
 have hlt:∀ b ∈ fp,b < s2.heap.objs.size:=fun b hb => by
  obtain ⟨o,e,_⟩:=T.obj _ _ st2 b hb
  exact Heap.lt_size e
 have old:∀ b o,s2.heap.get? b = some o → h₁.get? b = some o:=fun b o e => hsb₁.extBut b o (Nat.ne_of_lt (Nat.lt_succ_of_lt (Heap.lt_size e))) (Heap.get?_push_of_some _ (Heap.get?_push_of_some _ e))
 have hacc:h₁.get? s2.heap.objs.size = some (lobj [] 0):=hsb₁.extBut _ _ (Nat.ne_of_lt (Nat.lt_succ_self _)) (Heap.get?_push_of_some _ (Heap.get?_push_size _ rfl))
 have hDn:H2 s2.heap.objs.size = none:=I2.hok.fresh (Nat.le_refl _)
 have hDfs:∀ b,s2.heap.objs.size ≤ b → b ∉ (cxComp X scope cl (X.N ++ extra) (s2.heap.objs.size + 1) s2 H2 fp).fs:=fun b hb z => by
  rcases List.mem_cons.mp (I2.stkSub b z) with e | e
  ·subst e; exact absurd (Nat.lt_of_lt_of_le I2.lt hb) (Nat.lt_irrefl _)
  ·exact I2.nofs hb e
 have loop:∀ s₃:Shared,s₃ = { s2 with heap:=h₁,toks:=s2.toks + ([]:List (Str × Value)).length } →
   codeAny (model X.prog X.w) X.A (.compLoop (.ListComp elt [⟨tg,iter,ifs,0⟩] scope pos) 0 (.ref it) (.ref s2.heap.objs.size) (compEnvC scope cl (s2.heap.objs.size + 1) X.env)) (RR (.ref s2.heap.objs.size) (s2.heap.objs.size + 1)) s₃:=by
  rintro s₃ rfl
  have I3:Inv (cxComp X scope cl (X.N ++ extra) (s2.heap.objs.size + 1) s2 H2 fp) [] (compS ms extra.length σ) H2 { s2 with heap:=h₁,toks:=s2.toks + ([]:List (Str × Value)).length } :=
   compInv I2 S f2 hlt (Nat.le_succ _) rfl I2.bare old hns₁
  have fpc:∀ {H:Hp} {n:Nat} {its:List Value},(∀ b ∈ fp,H b = none) → ∀ b ∈ fp,FpOk (cxComp X scope cl (X.N ++ extra) (s2.heap.objs.size + 1) s2 H2 fp) [(s2.heap.objs.size,lobj its n)] H b:=fun hn b hb =>
   ⟨hn b hb,Nat.ne_of_lt (Nat.lt_succ_of_lt (hlt b hb)),(compOk I2 S f2 hlt (Nat.le_succ _)).exfs b hb,.inl hb,fun x c e => (f2 b hb).2.2.2.2.1 x c (S.sub x c e),fun p hp => by
    have:p = (s2.heap.objs.size,_):=List.mem_singleton.mp (show p ∈ [(s2.heap.objs.size,_)] from hp)
    subst this
    exact Nat.ne_of_gt (hlt b hb)⟩
  refine codeAny_compLoop_any (env:=compEnvC scope cl (s2.heap.objs.size + 1) X.env)
   (fun n s' => ∃ i ys its nn σ' H',Inv (cxComp X scope cl (X.N ++ extra) (s2.heap.objs.size + 1) s2 H2 fp) [(s2.heap.objs.size,lobj its nn)] σ' H' s' ∧ Vals ys its ∧ tn i s'.heap ∧ (∀ b ∈ fp,H' b = none) ∧ W i n ys σ' H') ?_ m0
   ⟨0,[],[],0,_,H2,I3.pins_of fun p hp => ?_,.nil,T.keep _ _ _ st2 fun b _ o e => old b o e,fun b hb => (f2 b hb).1,w0⟩
  ·rintro n s' ⟨i,ys,its,nn,σ',H',I4,rv,st4,fr4,w4⟩
   obtain ⟨hz,h⟩:=turn i n ys σ' H' w4
   rcases h with ⟨stop,hZ⟩ | ⟨go,step⟩
   ·refine thn (T.done (cxComp X scope cl (X.N ++ extra) (s2.heap.objs.size + 1) s2 H2 fp) rfl rfl rfl hcalm i _ s' _ H' (fun _ _ => False) I4 (fpc fr4) st4 stop) fun r s4 ⟨hr,I5⟩ => ?_
    subst hr
    exact hRR s4 ys its nn σ' H' I5 rv hz hZ
   ·refine thn (T.item (cxComp X scope cl (X.N ++ extra) (s2.heap.objs.size + 1) s2 H2 fp) rfl rfl rfl hcalm i _ s' _ H' (fun _ _ => False) I4 (fpc fr4) st4 go) fun r s5 ⟨u,hr,h5⟩ => ?_
    subst hr
    refine thn h5 fun _ s6 ⟨x,H6,I6,r6,y6,st6,fr6⟩ => ?_
    have I6':=I6.pinned (fpc fr6) (T.obj _ _ st6)
    refine thn (hg _ _ _ _ _ s6 _ H6 x u _ I6' r6 (step x H6 y6)) fun _ s7 ⟨σ7,H7,I7,q7⟩ => ?_
    refine thn (hif _ _ _ _ _ s7 σ7 H7 _ I7 q7) fun ok s8 ⟨H8,I8,q8⟩ => ?_
    have keepfp:∀ {σ9:St} {H9:Hp} {s9:Shared},Inv (cxComp X scope cl (X.N ++ extra) (s2.heap.objs.size + 1) s2 H2 fp) ([(s2.heap.objs.size,lobj its nn)] ++ pinsAt fp s6.heap) σ9 H9 s9 → tn (i + 1) s9.heap ∧ ∀ b ∈ fp,H9 b = none:=fun {σ9 H9 s9} I9 =>
     ⟨T.keep _ _ _ st6 fun b hb o e => (I9.pin (b,o) (List.mem_append_right _ (List.mem_append_right _ (mem_pinsAt hb e)))).1,fun b hb => by
      obtain ⟨o,e,d⟩:=T.obj _ _ st6 b hb
      exact (I9.pin (b,o) (List.mem_append_right _ (List.mem_append_right _ (mem_pinsAt hb e)))).2.1⟩
    cases ok with
    | false =>
     obtain ⟨m',hm,w8⟩:=q8
     obtain ⟨a8,b8⟩:=keepfp I8
     exact ⟨m',hm,i + 1,ys,its,nn,σ7,H8,I8.unpinned,rv,a8,b8,w8⟩
    | true =>
     refine thn (he _ _ _ _ _ s8 σ7 H8 _ I8 q8) fun v s9 ⟨y,H9,I9,r9,q9⟩ => ?_
     obtain ⟨m',hm,w9⟩:=q9
     obtain ⟨a9,b9⟩:=keepfp I9
     have pacc:=I9.pin (s2.heap.objs.size,lobj its nn) (List.mem_append_right _ (List.mem_append_left _ List.mem_cons_self))
     have hzi:its.toArray.size ≤ sizeLine:=by rw [List.size_toArray,← rv.length]; exact hz
     refine PySem.wpAny_list_append_plain (hsz:=hzi) ⟨nn,pacc.1⟩ fun h' hl' hs' => ?_
     obtain ⟨n',hl'⟩:=hl'
     have hne:∀ x c,(cxComp X scope cl (X.N ++ extra) (s2.heap.objs.size + 1) s2 H2 fp).env.cells.lookup x = some c → c ≠ s2.heap.objs.size:=fun x c e => by
      obtain ⟨v,o,ho,_⟩:=I2.cell x c (S.sub x c e)
      exact Nat.ne_of_lt (Heap.lt_size ho)
     have I10:Inv (cxComp X scope cl (X.N ++ extra) (s2.heap.objs.size + 1) s2 H2 fp) [] σ7 H9 { s9 with heap:=h' } :=
      Inv.turned (t':=s9.toks) (it:=s2.heap.objs.size) (I9.pins_of fun p hp => absurd hp (by simp)) (fun b o hb e => (hs'.2 b hb).trans e) pacc.2.1 pacc.2.2.1 (.inr (Nat.le_refl _)) hne (fun p hp => absurd (show p ∈ ([]:List (Addr × Obj)) from hp) (by simp))
     refine ⟨m',hm,i + 1,ys ++ [y],its ++ [v],n',σ7,H9,I10.pins_of fun p hp => ?_,rv.append (.cons r9 .nil),T.keep _ _ _ a9 fun b hb o e => (hs'.2 b (Nat.ne_of_lt (hlt b hb))).trans e,b9,w9⟩
     have e:p = (s2.heap.objs.size,lobj (its ++ [v]) n'):=List.mem_singleton.mp hp
     subst e
     refine ⟨?_,pacc.2.1,pacc.2.2.1,pacc.2.2.2.1,fun v z => by cases z⟩
     rw [hl']
     simp [lobj]
  ·have e:p = (s2.heap.objs.size,lobj [] 0):=List.mem_singleton.mp hp
   subst e
   exact ⟨hacc,hDn,Nat.ne_of_lt (Nat.lt_succ_self _),hDfs _ (Nat.le_refl _),fun v z => by cases z⟩
 exact codeAny_compStart_list (loop _ rfl) (T.self _ 0 _ _ _ (T.keep _ _ _ st2 fun b _ o e => old b o e) (loop _ rfl))
end
end L2

set_option Elab.async false
set_option linter.all false
set_option maxRecDepth 100000
namespace L2
open PySem PySem.Spec PyProof.Rows
section
variable {X:Cx} {pins:List (Addr × Obj)} {σ σ':St} {H2 H':Hp} {s2 s':Shared} {scope:Scope} {cl:List (Str × Addr)} {ms:List Bool} {extra:List Str} {tg iter elt:Expr} {ifs:List Expr} {g:TG} {tc:TT} {te:TE} {pos:Pos}

theorem comp_back (I2:Inv X pins σ H2 s2) {fp:List Addr} (f2:∀ b ∈ fp,FpOk X pins H2 b) {its:List Value} {n:Nat} {ys:List V}
  (I':Inv (cxComp X scope cl (X.N ++ extra) (s2.heap.objs.size + 1) s2 H2 fp) [(s2.heap.objs.size,lobj its n)] σ' H' s') (rv:Vals ys its) (hz:ys.length ≤ sizeLine) {h':Heap} (hs:Heap.SameBut (s2.heap.objs.size + 1) s'.heap h') :
  Inv X pins σ (upd H' s2.heap.objs.size (.lst ys)) { s' with heap:=h' } ∧ H' s2.heap.objs.size = none:=by
 have pacc:=I'.pin (s2.heap.objs.size,lobj its n) (List.mem_append_right _ List.mem_cons_self)
 have hC:H' (s2.heap.objs.size + 1) = none:=I'.free
 have hD:H' s2.heap.objs.size = none:=pacc.2.1
 have up:∀ b o,b ≠ s2.heap.objs.size + 1 → s'.heap.get? b = some o → h'.get? b = some o:=fun b o hb e => (hs.2 b hb).trans e
 have nD:∀ b u,H' b = some u → b ≠ s2.heap.objs.size:=fun b u e z => by rw [z,hD] at e; cases e
 have nC:∀ b u,H' b = some u → b ≠ s2.heap.objs.size + 1:=fun b u e z => by rw [z,hC] at e; cases e
 have hacc:h'.get? s2.heap.objs.size = some (lobj its n):=up _ _ (Nat.ne_of_lt (Nat.lt_succ_self _)) pacc.1
 have hok:HOk X.prog X.w (upd H' s2.heap.objs.size (.lst ys)) h':=fun b u e => by
  by_cases hb:b = s2.heap.objs.size
  ·subst hb
   rw [upd_same] at e; cases e
   exact ⟨hz,its,n,rv,hacc⟩
  ·rw [upd_ne hb] at e
   refine (I'.hok b u e).stay (fun c v hc q => up c v ?_ q) (fun c q => by rw [upd_ne (nD c _ q)]; exact q) fun c xs q => by rw [upd_ne (nD c _ q)]; exact q
   rcases hc with rfl | hc
   ·exact nC _ _ e
   ·exact nC _ _ hc
 have un:Un (frs X.stack) fp H2 (upd H' s2.heap.objs.size (.lst ys)) s2.heap h':=by
  have U:=I'.base
  have ltD:∀ b o,s2.heap.get? b = some o → b ≠ s2.heap.objs.size:=fun b o e => Nat.ne_of_lt (Heap.lt_size e)
  have ltC:∀ b o,s2.heap.get? b = some o → b ≠ s2.heap.objs.size + 1:=fun b o e => Nat.ne_of_lt (Nat.lt_succ_of_lt (Heap.lt_size e))
  refine ⟨fun b o e nb hb hx => up b o (ltC b o e) (U.keep b o e nb hb hx),fun b o e nb hb hx => ?_,fun b o e nb hx => by rw [upd_ne (ltD b o e)]; exact U.free b o e nb hx,fun b o e hx => ?_,
   fun b xs e => by have q:=U.tups b xs e; rw [upd_ne (nD b _ q)]; exact q,fun b o u e => by have q:=U.frzs b o u e; rw [upd_ne (nD b _ q)]; exact q,fun b ps e => ?_⟩
  ·obtain ⟨sl,q⟩:=U.slot b o e nb hb hx
   exact ⟨sl,up b _ (ltC b o e) q⟩
  ·obtain ⟨o',q⟩:=U.there b o e hx
   exact ⟨o',up b _ (ltC b o e) q⟩
  ·obtain ⟨more,q⟩:=U.tbls b ps e
   exact ⟨more,by rw [upd_ne (nD b _ q)]; exact q⟩
 exact ⟨I2.call' (s':={ s' with heap:=h' }) (ch:=fp) I'.os un hok I'.bare fun b hb => ⟨(f2 b hb).2.2.2.1,(f2 b hb).2.1,(f2 b hb).2.2.2.2.1,(f2 b hb).2.2.2.2.2⟩,hD⟩

noncomputable def tLc (ms:List Bool) (k:Nat) (wi:TI) (g:TG) (tc:TT) (te:TE):TE:=fun σ H Q => wi σ H fun J H1 => ∃ (W:Nat → Nat → List V → St → Hp → Prop) (Z:List V → Hp → Prop),(∃ m,W 0 m [] (compS ms k σ) H1) ∧ CompTurn J g tc te W Z ∧
 ∀ ys H p,Z ys H → H p = none → Q (.ref p) (upd H p (.lst ys))

theorem pe_lc (S:CompSc X scope cl ms extra) (hcalm:X.calm = true) {wi:TI} (hi:PI X tg iter wi)
  (hg:∀ C s H ex,PG (cxComp X scope cl (X.N ++ extra) C s H ex) tg g) (hif:∀ C s H ex,PIf (cxComp X scope cl (X.N ++ extra) C s H ex) ifs tc) (he:∀ C s H ex,PE (cxComp X scope cl (X.N ++ extra) C s H ex) elt te)
  (hs:∀ x,foldedSetIterable iter X.env x = pure x:=by intro _; rfl):PE X (.ListComp elt [⟨tg,iter,ifs,0⟩] scope pos) (tLc ms extra.length wi g tc te):=by
 intro pins s σ H Q I h
 rw [eval_ListComp]
 refine wpAny_comprehension_free (use:=none) rfl hs S.clos S.kind S.names (thn (hi pins s σ H _ I h) fun v s1 h1 => thn h1 fun itv s2 h2 => ?_)
 obtain ⟨it,fp,tn,J,H2,e,I2,T,st2,f2,W,Z,⟨m0,w0⟩,turn,q⟩:=h2
 subst e
 refine comp_core S hcalm hg hif he I2 T st2 f2 w0 turn (RR:=fun acc C => compPost (model X.prog X.w) X.A X.xe none (EP X pins σ Q) acc C) ?_
 intro s' ys its n σ' H' I' rv hz hZ
 obtain ⟨m,hm,_⟩:=I'.loc
 refine ⟨m,hm,fun h' hs' => ?_⟩
 obtain ⟨I3,hD⟩:=comp_back I2 f2 I' rv hz hs'
 exact ⟨.ref s2.heap.objs.size,_,I3,rfl,q ys H' _ hZ hD⟩

theorem ps_setLc {i:Nat} {x:Str} {spos pos':Pos} (hN:X.N.Nodup) (hix:X.N[i]? = some x) (hx:X.env.scope.names.lookup x = some .local)
  (hsw:swapsWith (.ListComp elt [⟨tg,iter,ifs,0⟩] scope pos) (some (.Name x pos')) spos.line X.env = pure true)
  (S:CompSc X scope cl ms extra) (hcalm:X.calm = true) {wi:TI} (hi:PI X tg iter wi)
  (hg:∀ C s H ex,PG (cxComp X scope cl (X.N ++ extra) C s H ex) tg g) (hif:∀ C s H ex,PIf (cxComp X scope cl (X.N ++ extra) C s H ex) ifs tc) (he:∀ C s H ex,PE (cxComp X scope cl (X.N ++ extra) C s H ex) elt te)
  (hs:∀ x,foldedSetIterable iter X.env x = pure x:=by intro _; rfl):PS X (.Assign [.Name x pos'] (.ListComp elt [⟨tg,iter,ifs,0⟩] scope pos) spos) (tAsg (tLc ms extra.length wi g tc te) (gName i)):=by
 intro pins s σ H D I h
 rw [exec_Assign_Name_used _ _ _ _ hsw]
 refine wpAny_bind (wpAny_standAt (wpAny_bind ?_))
 show wpAny _ _ (do let _ ← comprehension (.ListComp elt [⟨tg,iter,ifs,0⟩] scope pos) scope X.env _ (newList []) false (eval iter X.env) (some (assign (.Name x pos') X.env))) _ _ s
 refine wpAny_bind (wpAny_mono (wpAny_comprehension_free (use:=some (assign (.Name x pos') X.env)) (Q:=fun _ s' => SP X pins D .next s') rfl hs S.clos S.kind S.names
  (thn (hi pins s σ H _ I h) fun v s1 h1 => thn h1 fun itv s2 h2 => ?_)) (fun _ s' hq => wpAny_pure (wpAny_pure hq)) fun _ _ e => e)
 obtain ⟨it,fp,tn,J,H2,e,I2,T,st2,f2,W,Z,⟨m0,w0⟩,turn,q⟩:=h2
 subst e
 refine comp_core S hcalm hg hif he I2 T st2 f2 w0 turn (RR:=fun acc C => compPost (model X.prog X.w) X.A X.xe (some (assign (.Name x pos') X.env)) (fun _ s' => SP X pins D .next s') acc C) ?_
 intro s' ys its n σ' H' I' rv hz hZ
 obtain ⟨m,hm,_⟩:=I'.loc
 obtain ⟨I3,hD⟩:=comp_back I2 f2 I' rv hz (Heap.SameBut.refl (s2.heap.objs.size + 1) s'.heap)
 have hq:=q ys H' _ hZ hD
 show wpAny _ _ (assign (.Name x pos') X.env (.ref s2.heap.objs.size)) _ _ _
 refine wpAny_assign_Name (store_ok2 I3 hN hix (.inl hx) (v:=.ref s2.heap.objs.size) rfl (fun s4 I4 hsame => ?_) (.inr hx))
 obtain ⟨a,hsb,ha⟩:=hsame
 have hLC:s2.heap.objs.size + 1 ≠ X.env.locals:=Nat.ne_of_gt (Nat.lt_succ_of_lt I2.lt)
 have haC:s2.heap.objs.size + 1 ≠ a:=by
  rcases ha with rfl | ha
  ·exact hLC
  ·intro z
   obtain ⟨v,o,ho,_⟩:=I2.cell x a ha
   exact absurd (Nat.lt_succ_of_lt (Heap.lt_size ho)) (by rw [← z]; exact Nat.lt_irrefl _)
 have hCn:upd H' s2.heap.objs.size (.lst ys) (s2.heap.objs.size + 1) = none:=by rw [upd_ne (Nat.ne_of_gt (Nat.lt_succ_self _))]; exact I'.free
 refine ⟨m,hm.sameBut hsb haC,fun h' hs' => ?_⟩
 refine ⟨_,_,?_,hq⟩
 have hL:∀ b o,b ≠ s2.heap.objs.size + 1 → s4.heap.get? b = some o → h'.get? b = some o:=fun b o hb e => (hs'.2 b hb).trans e
 have I5:=Inv.turned (t':=s4.toks) (h':=h') (it:=s2.heap.objs.size + 1) I4 (fun b o hb e => hL b o hb e) hCn hLC (.inr (Nat.le_succ_of_le I2.sz)) (fun y c e => by
  obtain ⟨v,o,ho,_⟩:=I2.cell y c e
  exact Nat.ne_of_lt (Nat.lt_succ_of_lt (Heap.lt_size ho))) (fun p hp => by
  exact Nat.ne_of_lt (Nat.lt_succ_of_lt (Heap.lt_size (I2.pin p hp).1)))
 exact I5
end
end L2

set_option Elab.async false
set_option linter.all false
set_option maxRecDepth 100000
namespace L2
open PySem PySem.Spec PyProof.Rows

/-! ### deep data: tuples and lists that stay as they are stand as values; ref: the address of a cell that is ours to change -/
inductive D where
 | non | bl (b:Bool) | int (i:Int) | str (x:Str) | tup (ds:List D) | lst (ds:List D) | scr (ds:List D) | emp | ref (a:Addr)
 deriving Inhabited
inductive HD where
 | lst (ds:List D) | dK (kvs:List (Key × D)) | dT (kvs:List (List Key × D)) | dKr (o:Obj) (ks:List (Key × V)) (kvs:List (Key × D))
 deriving Inhabited
noncomputable abbrev DH:=Addr → Option HD
noncomputable def updM (M:DH) (a:Addr) (o:HD):DH:=fun b => if b = a then some o else M b
noncomputable def delM (M:DH) (a:Addr):DH:=fun b => if b = a then none else M b
noncomputable abbrev noM:DH:=fun _ => none
theorem updM_same {M:DH} {a:Addr} {o:HD}:updM M a o a = some o:=if_pos rfl
theorem updM_ne {M:DH} {a b:Addr} {o:HD} (h:b ≠ a):updM M a o b = M b:=if_neg h
theorem updM_upd {M:DH} {a:Addr} {o u:HD}:updM (updM M a o) a u = updM M a u:=by
 funext b; unfold updM; split <;> rfl
theorem delM_same {M:DH} {a:Addr}:delM M a a = none:=if_pos rfl
theorem delM_upd {M:DH} {a:Addr} {o:HD} (h:M a = none):delM (updM M a o) a = M:=by
 funext b; unfold delM updM; split
 ·rename_i e; rw [e,h]
 ·rfl

noncomputable def TupAt (K:PySem.W.Frag) (M:DH) (H:Hp) (a:Addr) (vs:List V):Prop:=(Rd H a (.tup vs) ∧ M a = none) ∨ SqT K (fun _ => none) a vs
noncomputable def LstAt (M:DH) (H:Hp) (a:Addr) (vs:List V):Prop:=H a = some (.lst vs) ∧ M a = none
noncomputable def ScrAt (K:PySem.W.Frag) (M:DH) (H:Hp) (a:Addr) (vs:List V):Prop:=((∃ o,H a = some (.frz o (.lst vs))) ∧ M a = none) ∨ SqL K (fun _ => none) a vs
noncomputable def EmpAt (M:DH) (H:Hp) (a:Addr):Prop:=H a = some (.dK []) ∧ M a = none

mutual
noncomputable def Rep (K:PySem.W.Frag) (M:DH) (H:Hp):D → V → Prop
 | .non,v => v = .non
 | .bl b,v => v = .bl b
 | .int i,v => v = .int i
 | .str x,v => v = .str x
 | .tup ds,v => ∃ a vs,v = .ref a ∧ TupAt K M H a vs ∧ RepL K M H ds vs
 | .lst ds,v => ∃ a vs,v = .ref a ∧ LstAt M H a vs ∧ RepL K M H ds vs
 | .scr ds,v => ∃ a vs,v = .ref a ∧ ScrAt K M H a vs ∧ RepL K M H ds vs
 | .emp,v => ∃ a,v = .ref a ∧ EmpAt M H a
 | .ref a,v => v = .ref a
noncomputable def RepL (K:PySem.W.Frag) (M:DH) (H:Hp):List D → List V → Prop
 | [],vs => vs = []
 | d :: ds,vs => ∃ v ws,vs = v :: ws ∧ Rep K M H d v ∧ RepL K M H ds ws
end
noncomputable def Ext (M:DH) (H:Hp) (M':DH) (H':Hp):Prop:=∀ a o,H a = some o → M a = none → H' a = some o ∧ M' a = none
theorem Ext.refl (M:DH) (H:Hp):Ext M H M H:=fun _ _ h n => ⟨h,n⟩
theorem Ext.trans {M M1 M2:DH} {H H1 H2:Hp} (a:Ext M H M1 H1) (b:Ext M1 H1 M2 H2):Ext M H M2 H2:=fun c o h n => b c o (a c o h n).1 (a c o h n).2
variable {K:PySem.W.Frag} {M M' M1 M2:DH} {H H' H1 H2:Hp}
theorem TupAt.ext {a:Addr} {vs:List V} (h:TupAt K M H a vs) (e:Ext M H M' H'):TupAt K M' H' a vs:=by
 rcases h with ⟨r | ⟨o,r⟩,n⟩ | h
 ·exact .inl ⟨.inl (e a _ r n).1,(e a _ r n).2⟩
 ·exact .inl ⟨.inr ⟨o,(e a _ r n).1⟩,(e a _ r n).2⟩
 ·exact .inr h
theorem LstAt.ext {a:Addr} {vs:List V} (h:LstAt M H a vs) (e:Ext M H M' H'):LstAt M' H' a vs:=e a _ h.1 h.2
theorem ScrAt.ext {a:Addr} {vs:List V} (h:ScrAt K M H a vs) (e:Ext M H M' H'):ScrAt K M' H' a vs:=by
 rcases h with ⟨⟨o,r⟩,n⟩ | h
 ·exact .inl ⟨⟨o,(e a _ r n).1⟩,(e a _ r n).2⟩
 ·exact .inr h
mutual
theorem Rep.ext:∀ {d:D} {v:V},Rep K M H d v → Ext M H M' H' → Rep K M' H' d v
 | .non,_,h,_ => h
 | .bl _,_,h,_ => h
 | .int _,_,h,_ => h
 | .str _,_,h,_ => h
 | .ref _,_,h,_ => h
 | .emp,_,h,e => by
  simp only [Rep] at h ⊢
  obtain ⟨a,rfl,h1,h2⟩:=h
  exact ⟨a,rfl,e a _ h1 h2⟩
 | .tup ds,_,h,e => by
  simp only [Rep] at h ⊢
  obtain ⟨a,vs,rfl,h1,h2⟩:=h
  exact ⟨a,vs,rfl,h1.ext e,RepL.ext h2 e⟩
 | .lst ds,_,h,e => by
  simp only [Rep] at h ⊢
  obtain ⟨a,vs,rfl,h1,h2⟩:=h
  exact ⟨a,vs,rfl,h1.ext e,RepL.ext h2 e⟩
 | .scr ds,_,h,e => by
  simp only [Rep] at h ⊢
  obtain ⟨a,vs,rfl,h1,h2⟩:=h
  exact ⟨a,vs,rfl,h1.ext e,RepL.ext h2 e⟩
theorem RepL.ext:∀ {ds:List D} {vs:List V},RepL K M H ds vs → Ext M H M' H' → RepL K M' H' ds vs
 | [],_,h,_ => h
 | d :: ds,_,h,e => by
  simp only [RepL] at h ⊢
  obtain ⟨v,ws,rfl,h1,h2⟩:=h
  exact ⟨v,ws,rfl,Rep.ext h1 e,RepL.ext h2 e⟩
end
theorem RepL.length:∀ {ds:List D} {vs:List V},RepL K M H ds vs → ds.length = vs.length
 | [],_,h => by simp only [RepL] at h; subst h; rfl
 | d :: ds,_,h => by
  simp only [RepL] at h
  obtain ⟨v,ws,rfl,h1,h2⟩:=h
  simp [RepL.length h2]
theorem RepL.nil:RepL K M H [] []:=by simp [RepL]
theorem RepL.cons {d:D} {v:V} {ds:List D} {vs:List V} (h:Rep K M H d v) (t:RepL K M H ds vs):RepL K M H (d :: ds) (v :: vs):=by
 simp only [RepL]; exact ⟨v,vs,rfl,h,t⟩
theorem RepL.append:∀ {ds es:List D} {vs ws:List V},RepL K M H ds vs → RepL K M H es ws → RepL K M H (ds ++ es) (vs ++ ws)
 | [],_,_,_,h,t => by simp only [RepL] at h; subst h; exact t
 | d :: ds,es,_,ws,h,t => by
  simp only [RepL] at h
  obtain ⟨v,us,rfl,h1,h2⟩:=h
  exact RepL.cons h1 (RepL.append h2 t)
theorem RepL.get:∀ {ds:List D} {vs:List V} {i:Nat} {d:D},RepL K M H ds vs → ds[i]? = some d → ∃ v,vs[i]? = some v ∧ Rep K M H d v
 | [],_,_,_,_,e => by simp at e
 | d :: ds,_,0,x,h,e => by
  simp only [RepL] at h
  obtain ⟨v,us,rfl,h1,h2⟩:=h
  simp at e; subst e
  exact ⟨v,rfl,h1⟩
 | d :: ds,_,i + 1,x,h,e => by
  simp only [RepL] at h
  obtain ⟨v,us,rfl,h1,h2⟩:=h
  obtain ⟨w,a,b⟩:=RepL.get (i:=i) (d:=x) h2 (by simpa using e)
  exact ⟨w,by simpa using a,b⟩
theorem RepL.take:∀ {ds:List D} {vs:List V} (n:Nat),RepL K M H ds vs → RepL K M H (ds.take n) (vs.take n)
 | ds,vs,0,_ => by simp [RepL]
 | [],_,n + 1,h => by simp only [RepL] at h; subst h; simp [RepL]
 | d :: ds,_,n + 1,h => by
  simp only [RepL] at h
  obtain ⟨v,us,rfl,h1,h2⟩:=h
  exact RepL.cons h1 (RepL.take n h2)
theorem RepL.drop:∀ {ds:List D} {vs:List V} (n:Nat),RepL K M H ds vs → RepL K M H (ds.drop n) (vs.drop n)
 | ds,vs,0,h => h
 | [],_,n + 1,h => by simp only [RepL] at h; subst h; simp [RepL]
 | d :: ds,_,n + 1,h => by
  simp only [RepL] at h
  obtain ⟨v,us,rfl,h1,h2⟩:=h
  exact RepL.drop n h2
theorem RepL.set:∀ {ds:List D} {vs:List V} {d:D} {v:V} (n:Nat),RepL K M H ds vs → Rep K M H d v → RepL K M H (ds.set n d) (vs.set n v)
 | [],_,_,_,n,h,r => by simp only [RepL] at h; subst h; simp [RepL]
 | d :: ds,_,_,_,0,h,r => by
  simp only [RepL] at h
  obtain ⟨v,us,rfl,h1,h2⟩:=h
  exact RepL.cons r h2
 | d :: ds,_,_,_,n + 1,h,r => by
  simp only [RepL] at h
  obtain ⟨v,us,rfl,h1,h2⟩:=h
  exact RepL.cons h1 (RepL.set n h2 r)
theorem RepL.one {d:D} {vs:List V} (h:RepL K M H [d] vs):∃ v,vs = [v] ∧ Rep K M H d v:=by
 simp only [RepL] at h
 obtain ⟨v,us,rfl,h1,rfl⟩:=h
 exact ⟨v,rfl,h1⟩
theorem RepL.two {d e:D} {vs:List V} (h:RepL K M H [d,e] vs):∃ v w,vs = [v,w] ∧ Rep K M H d v ∧ Rep K M H e w:=by
 simp only [RepL] at h
 obtain ⟨v,us,rfl,h1,w,ws,rfl,h2,rfl⟩:=h
 exact ⟨v,w,rfl,h1,h2⟩

noncomputable def KR (K:PySem.W.Frag) (M:DH) (H:Hp) {κ:Type}:List (κ × D) → List (κ × V) → Prop:=Paired fun p q => p.1 = q.1 ∧ Rep K M H p.2 q.2
theorem KR.ext {κ:Type} {kvs:List (κ × D)} {ks:List (κ × V)} (h:KR K M H kvs ks) (e:Ext M H M' H'):KR K M' H' kvs ks:=Paired.imp' (fun _ _ r => ⟨r.1,r.2.ext e⟩) h
noncomputable def CellR (K:PySem.W.Frag) (M:DH) (H:Hp) (a:Addr):HD → Prop
 | .lst ds => ∃ vs,H a = some (.lst vs) ∧ RepL K M H ds vs
 | .dK kvs => ∃ ks,H a = some (.dK ks) ∧ KR K M H kvs ks
 | .dT kvs => ∃ ks,H a = some (.dT ks) ∧ KR K M H kvs ks
 | .dKr o ks kvs => ∃ _u:Unit,H a = some (.frz o (.dK ks)) ∧ KR K M H kvs ks
noncomputable def HR (K:PySem.W.Frag) (M:DH) (H:Hp):Prop:=∀ a o,M a = some o → CellR K M H a o
theorem CellR.some {a:Addr} {o:HD} (h:CellR K M H a o):∃ u,H a = Option.some u ∧ ∀ xs,u ≠ .tup xs ∧ ∀ ob,u ≠ .frz ob (.tup xs):=by
 cases o <;> (obtain ⟨vs,r,_⟩:=h; exact ⟨_,r,fun xs => ⟨(by intro z; cases z),(by intro ob z; cases z)⟩⟩)
theorem CellR.keep {a:Addr} {o:HD} (h:CellR K M H a o) (e:Ext M H M' H') (q:H' a = H a):CellR K M' H' a o:=by
 cases o <;> (obtain ⟨vs,r,t⟩:=h; exact ⟨vs,by rw [q]; exact r,t.ext e⟩)
theorem HR.fresh (h:HR K M H) {p:Addr} (e:H p = none):M p = none:=by
 cases q:M p with
 | none => rfl
 | some o =>
  obtain ⟨u,r,_⟩:=(h p _ q).some
  rw [e] at r; cases r
theorem HR.nil:HR K noM H:=fun _ _ h => nomatch h
theorem Ext.new {p:Addr} {o:HO} (hr:HR K M H) (h:H p = none):Ext M H M (upd H p o):=fun a u e n => by
 have:a ≠ p:=ne_of_none e h
 rw [upd_ne this]; exact ⟨e,n⟩
theorem HR.ext1 (h:HR K M H) (e:Ext M H M H') (keep:∀ a o,M a = some o → H' a = H a):HR K M H':=fun a o q => (h a o q).keep e (keep a o q)
theorem HR.new {p:Addr} {o:HO} (hr:HR K M H) (h:H p = none):HR K M (upd H p o):=hr.ext1 (Ext.new hr h) fun a u q => by
 have:a ≠ p:=fun z => by rw [z,hr.fresh h] at q; cases q
 rw [upd_ne this]
theorem Ext.own {p:Addr} {o:HO} {u:HD} (h:H p = none):Ext M H (updM M p u) (upd H p o):=fun a x e n => by
 have:a ≠ p:=ne_of_none e h
 rw [upd_ne this,updM_ne this]; exact ⟨e,n⟩
theorem HR.put {p:Addr} {o:HO} {u:HD} (hr:HR K M H) (e:Ext M H (updM M p u) (upd H p o)) (c:CellR K (updM M p u) (upd H p o) p u):HR K (updM M p u) (upd H p o):=fun a w q => by
 by_cases z:a = p
 ·subst z
  rw [updM_same] at q; cases q
  exact c
 ·rw [updM_ne z] at q
  exact (hr a w q).keep e (upd_ne z)
theorem HR.own {p:Addr} {ds:List D} {vs:List V} (hr:HR K M H) (h:H p = none) (r:RepL K M H ds vs):HR K (updM M p (.lst ds)) (upd H p (.lst vs)) :=
 hr.put (Ext.own h) ⟨vs,upd_same,r.ext (Ext.own h)⟩
theorem Ext.write {a:Addr} {o:HO} {u w:HD} (h:M a = some w):Ext M H (updM M a u) (upd H a o):=fun b x e n => by
 have:b ≠ a:=fun z => by rw [z,h] at n; cases n
 rw [upd_ne this,updM_ne this]; exact ⟨e,n⟩
theorem HR.write {a:Addr} {w:HD} {ds:List D} {vs:List V} (hr:HR K M H) (h:M a = some w) (r:RepL K M H ds vs):HR K (updM M a (.lst ds)) (upd H a (.lst vs)) :=
 hr.put (Ext.write h) ⟨vs,upd_same,r.ext (Ext.write h)⟩
/-! a smaller M: cells that are lent as they are -/
noncomputable def LeM (M1 M:DH):Prop:=∀ a o,M1 a = some o → M a = some o
theorem LeM.none (h:LeM M1 M) {a:Addr} (n:M a = none):M1 a = none:=by
 cases q:M1 a with
 | none => rfl
 | some o => rw [h a o q] at n; cases n
theorem LeM.refl:LeM M M:=fun _ _ h => h
theorem LeM.no:LeM noM M:=fun _ _ h => nomatch h
theorem LeM.del {a:Addr}:LeM (delM M a) M:=fun b o h => by
 unfold delM at h; split at h
 ·cases h
 ·exact h
theorem Ext.le (h:LeM M1 M):Ext M H M1 H:=fun a o e n => ⟨e,h.none n⟩
theorem HR.le (hr:HR K M H) (h:LeM M1 M):HR K M1 H:=fun a o q => (hr a o (h a o q)).keep (Ext.le h) rfl
theorem Rep.froze (hr:HR K M H) (h:LeM M1 M) {a:Addr} {ds:List D} (e:M a = some (.lst ds)) (n:M1 a = none):Rep K M1 H (.lst ds) (.ref a):=by
 obtain ⟨vs,r,t⟩:=hr a _ e
 simp only [Rep]
 exact ⟨a,vs,rfl,⟨r,n⟩,t.ext (Ext.le h)⟩
mutual
noncomputable def noL:D → Bool
 | .tup ds => noLs ds
 | .lst _ => false
 | .scr _ => false
 | .emp => false
 | _ => true
noncomputable def noLs:List D → Bool
 | [] => true
 | d :: ds => noL d && noLs ds
end
mutual
theorem Rep.hard:∀ {d:D} {v:V},noL d = true → Rep K M H d v → (∀ a xs,Rd H a (.tup xs) → M' a = none) → Rep K M' H d v
 | .non,_,_,h,_ => h
 | .bl _,_,_,h,_ => h
 | .int _,_,_,h,_ => h
 | .str _,_,_,h,_ => h
 | .ref _,_,_,h,_ => h
 | .emp,_,n,_,_ => by simp [noL] at n
 | .lst _,_,n,_,_ => by simp [noL] at n
 | .scr _,_,n,_,_ => by simp [noL] at n
 | .tup ds,_,n,h,e => by
  simp only [Rep] at h ⊢
  obtain ⟨a,vs,rfl,h1,h2⟩:=h
  refine ⟨a,vs,rfl,?_,RepL.hard (by simpa [noL] using n) h2 e⟩
  rcases h1 with ⟨r,_⟩ | r
  ·exact .inl ⟨r,e a vs r⟩
  ·exact .inr r
theorem RepL.hard:∀ {ds:List D} {vs:List V},noLs ds = true → RepL K M H ds vs → (∀ a xs,Rd H a (.tup xs) → M' a = none) → RepL K M' H ds vs
 | [],_,_,h,_ => h
 | d :: ds,_,n,h,e => by
  simp only [RepL] at h ⊢
  obtain ⟨v,ws,rfl,h1,h2⟩:=h
  simp only [noLs,Bool.and_eq_true] at n
  exact ⟨v,ws,rfl,Rep.hard n.1 h1 e,RepL.hard n.2 h2 e⟩
end

/-! ### the frame's names -/
noncomputable abbrev DE:=List (Option D)
noncomputable def SR (K:PySem.W.Frag) (M:DH) (H:Hp) (σ:St) (Δ:DE):Prop:=σ.length = Δ.length ∧ ∀ (i:Nat) (d:D),Δ[i]? = some (some d) → ∃ v,σ[i]? = some (some v) ∧ Rep K M H d v
theorem SR.ext {σ:St} {Δ:DE} (h:SR K M H σ Δ) (e:Ext M H M' H'):SR K M' H' σ Δ:=⟨h.1,fun i d q => let ⟨v,a,r⟩:=h.2 i d q; ⟨v,a,r.ext e⟩⟩
theorem SR.set {σ:St} {Δ:DE} {d:D} {v:V} (h:SR K M H σ Δ) (i:Nat) (r:Rep K M H d v):SR K M H (σ.set i (some v)) (Δ.set i (some d)):=by
 refine ⟨by simp [h.1],fun j e q => ?_⟩
 by_cases hj:j = i
 ·subst hj
  by_cases hl:j < Δ.length
  ·rw [List.getElem?_set_self hl] at q; cases q
   exact ⟨v,List.getElem?_set_self (by rw [h.1]; exact hl),r⟩
  ·rw [List.getElem?_eq_none (by simp; omega)] at q; cases q
 ·rw [List.getElem?_set_ne (Ne.symm hj)] at q ⊢
  exact h.2 j e q

noncomputable abbrev TEd:=DE → DH → (D → DH → Prop) → Prop
noncomputable abbrev TAd:=DE → DH → (List D → DH → Prop) → Prop
noncomputable abbrev TTd:=DE → DH → (Bool → DH → Prop) → Prop
structure EndsD where
 nx:DE → DH → Prop
 rt:D → DH → Prop
 bk:DE → DH → Prop:=fun _ _ => False
 ct:DE → DH → Prop:=fun _ _ => False
noncomputable abbrev TSd:=EndsD → DE → DH → Prop

noncomputable def up (K:PySem.W.Frag) (t:TEd):TE:=fun σ H Q => ∃ (Δ:DE) (M:DH) (R:D → DH → Prop),SR K M H σ Δ ∧ HR K M H ∧ t Δ M R ∧
 ∀ d M' v H',R d M' → Ext M H M' H' → HR K M' H' → Rep K M' H' d v → Q v H'
noncomputable def upA (K:PySem.W.Frag) (t:TAd):TA:=fun σ H Q => ∃ (Δ:DE) (M:DH) (R:List D → DH → Prop),SR K M H σ Δ ∧ HR K M H ∧ t Δ M R ∧
 ∀ ds M' vs H',R ds M' → Ext M H M' H' → HR K M' H' → RepL K M' H' ds vs → Q vs H'
noncomputable def upT (K:PySem.W.Frag) (t:TTd):TT:=fun σ H Q => ∃ (Δ:DE) (M:DH) (R:Bool → DH → Prop),SR K M H σ Δ ∧ HR K M H ∧ t Δ M R ∧
 ∀ b M' H',R b M' → Ext M H M' H' → HR K M' H' → Q b H'
structure UpE (K:PySem.W.Frag) (E:EndsD) (D:Ends) (M:DH) (H:Hp):Prop where
 nx:∀ Δ' M' σ' H',E.nx Δ' M' → Ext M H M' H' → HR K M' H' → SR K M' H' σ' Δ' → D.nx σ' H'
 bk:∀ Δ' M' σ' H',E.bk Δ' M' → Ext M H M' H' → HR K M' H' → SR K M' H' σ' Δ' → D.bk σ' H'
 ct:∀ Δ' M' σ' H',E.ct Δ' M' → Ext M H M' H' → HR K M' H' → SR K M' H' σ' Δ' → D.ct σ' H'
 rt:∀ d M' v H',E.rt d M' → Ext M H M' H' → HR K M' H' → Rep K M' H' d v → D.rt v H'
theorem UpE.ext {E:EndsD} {D:Ends} (u:UpE K E D M H) (e:Ext M H M' H'):UpE K E D M' H' :=
 ⟨fun a b c d h x => u.nx a b c d h (e.trans x),fun a b c d h x => u.bk a b c d h (e.trans x),fun a b c d h x => u.ct a b c d h (e.trans x),fun a b c d h x => u.rt a b c d h (e.trans x)⟩
noncomputable def upS (K:PySem.W.Frag) (t:TSd):TS:=fun D σ H => ∃ (Δ:DE) (M:DH) (E:EndsD),SR K M H σ Δ ∧ HR K M H ∧ t E Δ M ∧ UpE K E D M H

noncomputable def PEd (X:Cx) (e:Expr) (t:TEd):Prop:=PE X e (up X.K t)
noncomputable def PAd (X:Cx) (es:List Expr) (t:TAd):Prop:=PA X es (upA X.K t)
noncomputable def PTd (X:Cx) (e:Expr) (t:TTd):Prop:=PT X e (upT X.K t)
noncomputable def PWd (X:Cx) (e:Expr) (t:TTd):Prop:=PW X e (upT X.K t)
noncomputable def PSd (X:Cx) (st:Stmt) (t:TSd):Prop:=PS X st (upS X.K t)
noncomputable def PSsd (X:Cx) (st:List Stmt) (t:TSd):Prop:=PSs X st (upS X.K t)
end L2

set_option Elab.async false
set_option linter.all false
set_option maxRecDepth 100000
namespace L2
open PySem PySem.Spec PyProof.Rows
theorem PE.conv {X:Cx} {e:Expr} {t t':TE} (h:PE X e t) (k:∀ σ H Q,t' σ H Q → t σ H Q):PE X e t':=fun p s σ H Q I q => h p s σ H Q I (k σ H Q q)
theorem PT.conv {X:Cx} {e:Expr} {t t':TT} (h:PT X e t) (k:∀ σ H Q,t' σ H Q → t σ H Q):PT X e t':=fun p s σ H Q I q => h p s σ H Q I (k σ H Q q)
theorem PA.conv {X:Cx} {e:List Expr} {t t':TA} (h:PA X e t) (k:∀ σ H Q,t' σ H Q → t σ H Q):PA X e t':=fun ps p s σ H Q I q => h ps p s σ H Q I (k σ H Q q)
theorem PS.conv {X:Cx} {e:Stmt} {t t':TS} (h:PS X e t) (k:∀ D σ H,t' D σ H → t D σ H):PS X e t':=fun p s σ H D I q => h p s σ H D I (k D σ H q)
theorem PSs.conv {X:Cx} {e:List Stmt} {t t':TS} (h:PSs X e t) (k:∀ D σ H,t' D σ H → t D σ H):PSs X e t':=fun p s σ H D I q => h p s σ H D I (k D σ H q)

section
variable {X:Cx} {a b c:Expr} {es:List Expr} {ta tb:TEd} {pos:Pos}
noncomputable def dVar (i:Nat):TEd:=fun Δ M Q => ∃ d,Δ[i]? = some (some d) ∧ Q d M
noncomputable def dC (d:D):TEd:=fun _ M Q => Q d M
theorem d_var (i:Nat) {x:Str} {pos:Pos} (hN:X.N[i]? = some x:=by rfl) (hv:Vis X.env.scope x:=by first | exact Or.inl rfl | exact Or.inr (Or.inl rfl) | exact Or.inr (Or.inr rfl)) (hd:(x == ("__debug__":Str)) = false:=by decide)
  (hcd:(x == ("__classdict__":Str)) = false:=by decide):PEd X (.Name x pos) (dVar i) :=
 (pe_var hN hv hd hcd).conv fun σ H Q ⟨Δ,M,R,sr,hr,⟨d,e,q⟩,k⟩ => let ⟨v,ev,rv⟩:=sr.2 i d e; ⟨v,ev,k d M v H q (Ext.refl _ _) hr rv⟩
theorem d_int {i j pos}:PEd X (.Constant (.int i) j pos) (dC (.int i)):=pe_int.conv fun σ H Q ⟨Δ,M,R,sr,hr,q,k⟩ => k _ M _ H q (Ext.refl _ _) hr (by simp [Rep])
theorem d_bl {i j pos}:PEd X (.Constant (.bool i) j pos) (dC (.bl i)):=pe_bl.conv fun σ H Q ⟨Δ,M,R,sr,hr,q,k⟩ => k _ M _ H q (Ext.refl _ _) hr (by simp [Rep])
theorem d_str {i j pos}:PEd X (.Constant (.str i) j pos) (dC (.str i)):=pe_str.conv fun σ H Q ⟨Δ,M,R,sr,hr,q,k⟩ => k _ M _ H q (Ext.refl _ _) hr (by simp [Rep])
theorem d_globI {x:Str} {i:Int} {t:Tok} {pos:Pos} (hg:Gl X x) (hm:X.mg x = some (.int i t)) (hd:(x == ("__debug__":Str)) = false:=by decide):PEd X (.Name x pos) (dC (.int i)) :=
 (pe_glob (v:=.int i) hg hm ⟨t,rfl⟩ hd).conv fun σ H Q ⟨Δ,M,R,sr,hr,q,k⟩ => k _ M _ H q (Ext.refl _ _) hr (by simp [Rep])
theorem d_globS {x y:Str} {t:Tok} {pos:Pos} (hg:Gl X x) (hm:X.mg x = some (.str y t)) (hd:(x == ("__debug__":Str)) = false:=by decide):PEd X (.Name x pos) (dC (.str y)) :=
 (pe_glob (v:=.str y) hg hm ⟨t,rfl⟩ hd).conv fun σ H Q ⟨Δ,M,R,sr,hr,q,k⟩ => k _ M _ H q (Ext.refl _ _) hr (by simp [Rep])

/-! two in a row -/
noncomputable def dNil:TAd:=fun _ M Q => Q [] M
noncomputable def dCons (ta:TEd) (tr:TAd):TAd:=fun Δ M Q => ta Δ M fun x M1 => tr Δ M1 fun xs M2 => Q (x :: xs) M2
theorem d_nil:PAd X [] dNil:=pa_nil.conv fun σ H Q ⟨Δ,M,R,sr,hr,q,k⟩ => k _ M _ H q (Ext.refl _ _) hr RepL.nil
theorem d_cons {tr:TAd} (ha:PEd X a ta) (hr:PAd X es tr) (hs:starEach (a :: es) X.env = (false,eval a X.env) :: starEach es X.env:=by rfl):PAd X (a :: es) (dCons ta tr) :=
 (pa_cons ha hr hs).conv fun σ H Q ⟨Δ,M,R,sr,hr,q,k⟩ => ⟨Δ,M,_,sr,hr,q,fun d M1 v H1 q1 e1 hr1 rv => ⟨Δ,M1,_,sr.ext e1,hr1,q1,fun ds M2 vs H2 q2 e2 hr2 rvs =>
  k _ M2 _ H2 q2 (e1.trans e2) hr2 (RepL.cons (rv.ext e2) rvs)⟩⟩
noncomputable def dTup (t:TAd):TEd:=fun Δ M Q => t Δ M fun ds M1 => ds.length ≤ sizeLine ∧ Q (.tup ds) M1
noncomputable def dLst (t:TAd):TEd:=fun Δ M Q => t Δ M fun ds M1 => ds.length ≤ sizeLine ∧ Q (.lst ds) M1
noncomputable def dLstO (t:TAd):TEd:=fun Δ M Q => t Δ M fun ds M1 => ds.length ≤ sizeLine ∧ ∀ p,M1 p = none → Q (.ref p) (updM M1 p (.lst ds))
theorem d_tup {x1} {t:TAd} (h:PAd X es t):PEd X (.Tuple es x1 pos) (dTup t) :=
 (pe_tup h).conv fun σ H Q ⟨Δ,M,R,sr,hr,q,k⟩ => ⟨Δ,M,_,sr,hr,q,fun ds M1 vs H1 ⟨z,q1⟩ e1 hr1 rv => ⟨by rw [← rv.length]; exact z,fun p hp => k _ M1 _ _ q1 (e1.trans (Ext.new hr1 hp)) (hr1.new hp) (by
  simp only [Rep]; exact ⟨p,vs,rfl,.inl ⟨.inl upd_same,hr1.fresh hp⟩,rv.ext (Ext.new hr1 hp)⟩)⟩⟩
theorem d_lst {t:TAd} (h:PAd X es t):PEd X (.List es pos) (dLst t) :=
 (pe_lst h).conv fun σ H Q ⟨Δ,M,R,sr,hr,q,k⟩ => ⟨Δ,M,_,sr,hr,q,fun ds M1 vs H1 ⟨z,q1⟩ e1 hr1 rv => ⟨by rw [← rv.length]; exact z,fun p hp => k _ M1 _ _ q1 (e1.trans (Ext.new hr1 hp)) (hr1.new hp) (by
  simp only [Rep]; exact ⟨p,vs,rfl,⟨upd_same,hr1.fresh hp⟩,rv.ext (Ext.new hr1 hp)⟩)⟩⟩
theorem d_lstO {t:TAd} (h:PAd X es t):PEd X (.List es pos) (dLstO t) :=
 (pe_lst h).conv fun σ H Q ⟨Δ,M,R,sr,hr,q,k⟩ => ⟨Δ,M,_,sr,hr,q,fun ds M1 vs H1 ⟨z,q1⟩ e1 hr1 rv => ⟨by rw [← rv.length]; exact z,fun p hp => k _ _ _ _ (q1 p (hr1.fresh hp)) (e1.trans (Ext.own hp)) (hr1.own hp rv) (by
  simp only [Rep])⟩⟩

/-! ### values as they are read -/
noncomputable def rdM (M:DH):D → D
 | .ref a => match M a with | some (.lst ds) => .lst ds | _ => .ref a
 | d => d
noncomputable def RepR (K:PySem.W.Frag) (M:DH) (H:Hp) (d:D) (v:V):Prop:=match d with
 | .tup ds => ∃ a vs,v = .ref a ∧ SqT K H a vs ∧ RepL K M H ds vs
 | .lst ds => ∃ a vs,v = .ref a ∧ H a = some (.lst vs) ∧ RepL K M H ds vs
 | .scr ds => ∃ a vs,v = .ref a ∧ SqL K H a vs ∧ RepL K M H ds vs
 | d => Rep K M H d v
theorem TupAt.sq {K:PySem.W.Frag} {M:DH} {H:Hp} {a:Addr} {vs:List V} (h:TupAt K M H a vs):SqT K H a vs:=by
 rcases h with ⟨h,_⟩ | h
 ·exact .inl h
 ·rcases h with (h | ⟨_,h⟩) | h
  ·cases h
  ·cases h
  ·exact .inr h
theorem ScrAt.sq {K:PySem.W.Frag} {M:DH} {H:Hp} {a:Addr} {vs:List V} (h:ScrAt K M H a vs):SqL K H a vs:=by
 rcases h with ⟨⟨o,h⟩,_⟩ | h
 ·exact .inl (.inr ⟨o,h⟩)
 ·rcases h with (h | ⟨_,h⟩) | h
  ·cases h
  ·cases h
  ·exact .inr h
theorem Rep.rd {K:PySem.W.Frag} {M:DH} {H:Hp} {d:D} {v:V} (hr:HR K M H) (h:Rep K M H d v):RepR K M H (rdM M d) v:=by
 cases d with
 | tup ds => simp only [Rep] at h; obtain ⟨a,vs,e,t,r⟩:=h; exact ⟨a,vs,e,t.sq,r⟩
 | lst ds => simp only [Rep] at h; obtain ⟨a,vs,e,t,r⟩:=h; exact ⟨a,vs,e,t.1,r⟩
 | scr ds => simp only [Rep] at h; obtain ⟨a,vs,e,t,r⟩:=h; exact ⟨a,vs,e,t.sq,r⟩
 | ref a =>
  simp only [rdM]
  cases q:M a with
  | none => exact h
  | some o =>
   cases o with
   | lst ds =>
    obtain ⟨vs,e,r⟩:=hr a _ q
    simp only [Rep] at h
    exact ⟨a,vs,h,e,r⟩
   | dK _ => exact h
   | dT _ => exact h
   | dKr _ _ _ => exact h
 | non => exact h
 | bl b => exact h
 | int i => exact h
 | str x => exact h
 | emp => exact h
noncomputable def OpRd (X:Cx) (f:Value → Value → Sem Value) (r:D → D → Option D):Prop :=
 ∀ (pins:List (Addr × Obj)) (s:Shared) (σ:St) (H:Hp) (M:DH) (x y:V) (v u:Value) (dx dy dz:D) (Q:VK),Inv X pins σ H s → HR X.K M H → RelV x v → RelV y u → RepR X.K M H dx x → RepR X.K M H dy y → r dx dy = some dz →
  (∀ w H',Ext M H M H' → HR X.K M H' → Rep X.K M H' dz w → Q w H') → wpAny (model X.prog X.w) X.A (f v u) (EP X pins σ Q) X.xe s
noncomputable def UnRd (X:Cx) (f:Value → Sem Value) (r:D → Option D):Prop :=
 ∀ (pins:List (Addr × Obj)) (s:Shared) (σ:St) (H:Hp) (M:DH) (x:V) (v:Value) (dx dz:D) (Q:VK),Inv X pins σ H s → HR X.K M H → RelV x v → RepR X.K M H dx x → r dx = some dz →
  (∀ w H',Ext M H M H' → HR X.K M H' → Rep X.K M H' dz w → Q w H') → wpAny (model X.prog X.w) X.A (f v) (EP X pins σ Q) X.xe s
noncomputable def CallRd (X:Cx) (f:Value) (r:List D → Option D):Prop :=
 ∀ (pins:List (Addr × Obj)) (s:Shared) (σ:St) (H:Hp) (M:DH) (xs:List V) (us:List Value) (ds:List D) (dz:D) (Q:VK),Inv X pins σ H s → HR X.K M H → Vals xs us → Paired (RepR X.K M H) ds xs → r ds = some dz →
  (∀ w H',Ext M H M H' → HR X.K M H' → Rep X.K M H' dz w → Q w H') → wpAny (model X.prog X.w) X.A (call f us) (EP X pins σ Q) X.xe s
noncomputable def dOp (r:D → D → Option D) (ta tb:TEd):TEd:=fun Δ M Q => ta Δ M fun x M1 => tb Δ M1 fun y M2 => ∃ z,r (rdM M2 x) (rdM M2 y) = some z ∧ Q z M2
noncomputable def dUn (r:D → Option D) (ta:TEd):TEd:=fun Δ M Q => ta Δ M fun x M1 => ∃ z,r (rdM M1 x) = some z ∧ Q z M1
noncomputable def opV (K:PySem.W.Frag) (r:D → D → Option D):R2:=fun x y H Q => ∃ dx dy dz M,HR K M H ∧ RepR K M H dx x ∧ RepR K M H dy y ∧ r dx dy = some dz ∧ ∀ w H',Ext M H M H' → HR K M H' → Rep K M H' dz w → Q w H'
theorem OpRd.v {f:Value → Value → Sem Value} {r:D → D → Option D} (h:OpRd X f r):OpR X f (opV X.K r):=fun pins s σ H x y v u Q I rx ry ⟨dx,dy,dz,M,hr,r1,r2,e,k⟩ => h pins s σ H M x y v u dx dy dz Q I hr rx ry r1 r2 e k
theorem conv2 {K:PySem.W.Frag} {r:D → D → Option D} {ta tb:TEd}:∀ σ H Q,up K (dOp r ta tb) σ H Q → tOp (opV K r) (up K ta) (up K tb) σ H Q:=fun σ H Q ⟨Δ,M,R,sr,hr,q,k⟩ =>
 ⟨Δ,M,_,sr,hr,q,fun x M1 v H1 q1 e1 hr1 rv => ⟨Δ,M1,_,sr.ext e1,hr1,q1,fun y M2 u H2 ⟨z,ez,q2⟩ e2 hr2 ru => ⟨_,_,z,M2,hr2,(rv.ext e2).rd hr2,ru.rd hr2,ez,fun w H' e3 hr3 rw_ => k z M2 w H' q2 ((e1.trans e2).trans e3) hr3 rw_⟩⟩⟩
theorem d_op {op:Operator} {r:D → D → Option D} (ho:OpRd X (binaryOp op) r) (ha:PEd X a ta) (hb:PEd X b tb):PEd X (.BinOp a op b pos) (dOp r ta tb):=(pe_op ho.v ha hb).conv conv2
theorem d_cmp {op:CmpOp} {r:D → D → Option D} (ho:OpRd X (compareOp op) r) (ha:PEd X a ta) (hb:PEd X b tb) (hm:behindInMarks op b = false):PEd X (.Compare a [op] [b] pos) (dOp r ta tb):=(pe_cmpR ho.v ha hb hm).conv conv2
theorem d_ix {r:D → D → Option D} (ho:IxR X (opV X.K r)) (ha:PEd X a ta) (hb:PEd X b tb) (hs:PlainIx b):PEd X (.Subscript a b pos) (dOp r ta tb):=(pe_ix ho ha hb hs).conv conv2
theorem d_un {op:UnaryOp} {r:D → Option D} (ho:UnRd X (unaryOp op) r) (ha:PEd X a ta):PEd X (.UnaryOp op a pos) (dUn r ta):=by
 have h:UnR X (unaryOp op) (fun x H Q => ∃ dx dz M,HR X.K M H ∧ RepR X.K M H dx x ∧ r dx = some dz ∧ ∀ w H',Ext M H M H' → HR X.K M H' → Rep X.K M H' dz w → Q w H'):=fun pins s σ H x v Q I rx ⟨dx,dz,M,hr,r1,e,k⟩ => ho pins s σ H M x v dx dz Q I hr rx r1 e k
 exact (pe_un h ha).conv fun σ H Q ⟨Δ,M,R,sr,hr,q,k⟩ => ⟨Δ,M,_,sr,hr,q,fun x M1 v H1 ⟨z,ez,q1⟩ e1 hr1 rv => ⟨_,z,M1,hr1,rv.rd hr1,ez,fun w H' e2 hr2 rw_ => k z M1 w H' q1 (e1.trans e2) hr2 rw_⟩⟩
/-! tests -/
noncomputable def dTst (t:TEd):TTd:=fun Δ M Q => t Δ M fun x M1 => ∃ k,x = .bl k ∧ Q k M1
theorem convT {K:PySem.W.Frag} {t:TEd}:∀ σ H Q,upT K (dTst t) σ H Q → tTest (up K t) σ H Q:=fun σ H Q ⟨Δ,M,R,sr,hr,q,k⟩ =>
 ⟨Δ,M,_,sr,hr,q,fun d M1 v H1 ⟨b,e,q1⟩ e1 hr1 rv => ⟨b,by subst e; simpa only [Rep] using rv,k b M1 H1 q1 e1 hr1⟩⟩
theorem d_tcmp {op:CmpOp} {r:D → D → Option D} (ho:OpRd X (compareOp op) r) (ha:PEd X a ta) (hb:PEd X b tb) (hm:behindInMarks op b = false):PTd X (.Compare a [op] [b] pos) (dTst (dOp r ta tb)):=by
 refine (pt_cmpR ho.v ha hb hm).conv fun σ H Q h => ?_
 obtain ⟨Δ,M,R,sr,hr,q,k⟩:=h
 exact ⟨Δ,M,_,sr,hr,q,fun x M1 v H1 q1 e1 hr1 rv => ⟨Δ,M1,_,sr.ext e1,hr1,q1,fun y M2 u H2 ⟨z,ez,b,eb,q2⟩ e2 hr2 ru => ⟨_,_,z,M2,hr2,(rv.ext e2).rd hr2,ru.rd hr2,ez,fun w H' e3 hr3 rw_ =>
  ⟨b,by subst eb; simpa only [Rep] using rw_,k b M2 H' q2 ((e1.trans e2).trans e3) hr3⟩⟩⟩⟩
theorem d_tval (h:PEd X a ta) (he:∀ whole,isTrue a X.env whole = (do let v ← whole; standAt a.pos; holding [v] (truthy v)):=by intro _; rfl):PTd X a (dTst ta):=(pt_val h he).conv convT
noncomputable def dNotT (t:TTd):TTd:=fun Δ M Q => t Δ M fun c M1 => Q (!c) M1
noncomputable def dAndT (t u:TTd):TTd:=fun Δ M Q => t Δ M fun c M1 => if c = true then u Δ M1 Q else Q false M1
noncomputable def dOrT (t u:TTd):TTd:=fun Δ M Q => t Δ M fun c M1 => if c = true then Q true M1 else u Δ M1 Q
variable {tA tB':TTd} {rest:List Expr}
theorem d_tnot (h:PTd X a tA):PTd X (.UnaryOp .Not a pos) (dNotT tA):=(pt_not h).conv fun σ H Q ⟨Δ,M,R,sr,hr,q,k⟩ => ⟨Δ,M,_,sr,hr,q,fun b M1 H1 q1 e1 hr1 => k _ M1 H1 q1 e1 hr1⟩
theorem PW.conv {X:Cx} {e:Expr} {t t':TT} (h:PW X e t) (k:∀ σ H Q,t' σ H Q → t σ H Q):PW X e t':=fun w p s σ H Q I q => h w p s σ H Q I (k σ H Q q)
theorem d_tand1 (ha:PTd X a tA):PWd X (.BoolOp .And [a] pos) tA:=pw_and1 ha
theorem d_tor1 (ha:PTd X a tA):PWd X (.BoolOp .Or [a] pos) tA:=pw_or1 ha
theorem d_tand (ha:PTd X a tA) (hb:PWd X (.BoolOp .And (b :: rest) pos) tB'):PWd X (.BoolOp .And (a :: b :: rest) pos) (dAndT tA tB') :=
 (pw_and ha hb).conv fun σ H Q ⟨Δ,M,R,sr,hr,q,k⟩ => ⟨Δ,M,_,sr,hr,q,fun c M1 H1 q1 e1 hr1 => by
  cases c with
  | true => simp only [if_true] at q1 ⊢; exact ⟨Δ,M1,R,sr.ext e1,hr1,q1,fun b M2 H2 q2 e2 hr2 => k b M2 H2 q2 (e1.trans e2) hr2⟩
  | false => simp only [Bool.false_eq_true,if_false] at q1 ⊢; exact k _ M1 H1 q1 e1 hr1⟩
theorem d_tor (ha:PTd X a tA) (hb:PWd X (.BoolOp .Or (b :: rest) pos) tB'):PWd X (.BoolOp .Or (a :: b :: rest) pos) (dOrT tA tB') :=
 (pw_or ha hb).conv fun σ H Q ⟨Δ,M,R,sr,hr,q,k⟩ => ⟨Δ,M,_,sr,hr,q,fun c M1 H1 q1 e1 hr1 => by
  cases c with
  | false => simp only [Bool.false_eq_true,if_false] at q1 ⊢; exact ⟨Δ,M1,R,sr.ext e1,hr1,q1,fun b M2 H2 q2 e2 hr2 => k b M2 H2 q2 (e1.trans e2) hr2⟩
  | true => simp only [if_true] at q1 ⊢; exact k _ M1 H1 q1 e1 hr1⟩
theorem PWd.pt {e:Expr} {t:TTd} (h:PWd X e t):PTd X e t:=PW.pt h
/-! and,or,not,if as values -/
noncomputable def dAnd (ta tb:TEd):TEd:=fun Δ M Q => ta Δ M fun x M1 => ∃ c,x = .bl c ∧ if c = true then tb Δ M1 Q else Q (.bl false) M1
noncomputable def dNot (ta:TEd):TEd:=fun Δ M Q => ta Δ M fun x M1 => ∃ c,x = .bl c ∧ Q (.bl (!c)) M1
theorem d_one {op} (h:PEd X a ta):PEd X (.BoolOp op [a] pos) ta:=pe_one h
theorem d_and (ha:PEd X a ta) (hb:PEd X (.BoolOp .And (b :: rest) pos) tb):PEd X (.BoolOp .And (a :: b :: rest) pos) (dAnd ta tb) :=
 (pe_and ha hb).conv fun σ H Q ⟨Δ,M,R,sr,hr,q,k⟩ => ⟨Δ,M,_,sr,hr,q,fun d M1 v H1 ⟨c,e,q1⟩ e1 hr1 rv => ⟨c,by subst e; simpa only [Rep] using rv,by
  cases c with
  | true => simp only [if_true] at q1 ⊢; exact ⟨Δ,M1,R,sr.ext e1,hr1,q1,fun b M2 v2 H2 q2 e2 hr2 r2 => k b M2 v2 H2 q2 (e1.trans e2) hr2 r2⟩
  | false => simp only [Bool.false_eq_true,if_false] at q1 ⊢; exact k _ M1 _ H1 q1 e1 hr1 (by simp [Rep])⟩⟩
theorem d_not (ha:PEd X a ta):PEd X (.UnaryOp .Not a pos) (dNot ta):=(pe_not ha).conv fun σ H Q ⟨Δ,M,R,sr,hr,q,k⟩ => ⟨Δ,M,_,sr,hr,q,fun d M1 v H1 ⟨c,e,q1⟩ e1 hr1 rv =>
 ⟨c,by subst e; simpa only [Rep] using rv,k _ M1 _ H1 q1 e1 hr1 (by simp [Rep])⟩⟩
/-! a < b < c -/
noncomputable def dChain (r r':D → D → Option D) (ta tb tc:TEd):TEd:=fun Δ M Q => ta Δ M fun x M1 => tb Δ M1 fun y M2 => ∃ k,r (rdM M2 x) (rdM M2 y) = some (.bl k) ∧ if k = true then tc Δ M2 fun z M3 => ∃ w,r' (rdM M3 y) (rdM M3 z) = some w ∧ Q w M3 else Q (.bl false) M2
theorem d_chain {tc:TEd} {op op':CmpOp} {r r':D → D → Option D} (ho:OpRd X (compareOp op) r) (ho':OpRd X (compareOp op') r') (ha:PEd X a ta) (hb:PEd X b tb) (hc:PEd X c tc)
  (hm:lastMarks [op,op'] [b,c] = false:=by with_unfolding_all rfl):PEd X (.Compare a [op,op'] [b,c] pos) (dChain r r' ta tb tc):=by
 refine (pe_chain ho.v ho'.v ha hb hc hm).conv fun σ H Q h => ?_
 obtain ⟨Δ,M,R,sr,hr,q,k⟩:=h
 refine ⟨Δ,M,_,sr,hr,q,fun x M1 v H1 q1 e1 hr1 rv => ⟨Δ,M1,_,sr.ext e1,hr1,q1,fun y M2 u H2 ⟨b,eb,q2⟩ e2 hr2 ru => ⟨_,_,.bl b,M2,hr2,(rv.ext e2).rd hr2,ru.rd hr2,eb,fun w H3 e3 hr3 rw_ =>
  ⟨b,by simpa only [Rep] using rw_,?_⟩⟩⟩⟩
 cases b with
 | true =>
  simp only [if_true] at q2 ⊢
  exact ⟨Δ,M2,_,(sr.ext (e1.trans e2)).ext e3,hr3,q2,fun z M4 w4 H4 ⟨d,ed,q4⟩ e4 hr4 r4 => ⟨_,_,d,M4,hr4,((ru.ext e3).ext e4).rd hr4,r4.rd hr4,ed,fun w5 H5 e5 hr5 r5 => k d M4 w5 H5 q4 ((((e1.trans e2).trans e3).trans e4).trans e5) hr5 r5⟩⟩
 | false =>
  simp only [Bool.false_eq_true,if_false] at q2 ⊢
  exact k _ M2 _ H3 q2 ((e1.trans e2).trans e3) hr3 (by simp [Rep])
theorem d_tchain {tc:TEd} {op op':CmpOp} {r r':D → D → Option D} (ho:OpRd X (compareOp op) r) (ho':OpRd X (compareOp op') r') (ha:PEd X a ta) (hb:PEd X b tb) (hc:PEd X c tc)
  (hm:lastMarks [op,op'] [b,c] = false:=by with_unfolding_all rfl):PTd X (.Compare a [op,op'] [b,c] pos) (dTst (dChain r r' ta tb tc)):=by
 refine (pt_chain ho.v ho'.v ha hb hc hm).conv fun σ H Q h => ?_
 obtain ⟨Δ,M,R,sr,hr,q,k⟩:=h
 refine ⟨Δ,M,_,sr,hr,q,fun x M1 v H1 q1 e1 hr1 rv => ⟨Δ,M1,_,sr.ext e1,hr1,q1,fun y M2 u H2 ⟨b,eb,q2⟩ e2 hr2 ru => ⟨_,_,.bl b,M2,hr2,(rv.ext e2).rd hr2,ru.rd hr2,eb,fun w H3 e3 hr3 rw_ =>
  ⟨b,by simpa only [Rep] using rw_,?_⟩⟩⟩⟩
 cases b with
 | true =>
  simp only [if_true] at q2 ⊢
  exact ⟨Δ,M2,_,(sr.ext (e1.trans e2)).ext e3,hr3,q2,fun z M4 w4 H4 ⟨d,ed,kb,ekb,q4⟩ e4 hr4 r4 => ⟨_,_,d,M4,hr4,((ru.ext e3).ext e4).rd hr4,r4.rd hr4,ed,fun w5 H5 e5 hr5 r5 => ⟨kb,by subst ekb; simpa only [Rep] using r5,k kb M4 H5 q4 ((((e1.trans e2).trans e3).trans e4).trans e5) hr5⟩⟩⟩
 | false =>
  simp only [Bool.false_eq_true,if_false] at q2 ⊢
  obtain ⟨kb,ekb,q2⟩:=q2
  cases ekb
  exact ⟨false,rfl,k _ M2 H3 q2 ((e1.trans e2).trans e3) hr3⟩
/-! calls of what is built in -/
theorem rd_list {K:PySem.W.Frag} {M:DH} {H:Hp} (hr:HR K M H):∀ {ds:List D} {vs:List V},RepL K M H ds vs → Paired (RepR K M H) (ds.map (rdM M)) vs
 | [],_,h => by simp only [RepL] at h; subst h; exact .nil
 | d :: ds,_,h => by
  simp only [RepL] at h
  obtain ⟨v,ws,rfl,h1,h2⟩:=h
  exact .cons (h1.rd hr) (rd_list hr h2)
noncomputable def dCB (r:List D → Option D) (t:TAd):TEd:=fun Δ M Q => t Δ M fun ds M1 => ∃ z,r (ds.map (rdM M1)) = some z ∧ Q z M1
theorem convB {K:PySem.W.Frag} {r:List D → Option D} {t:TAd}:∀ σ H Q,up K (dCB r t) σ H Q → tCB (fun xs H Q => ∃ ds dz M,HR K M H ∧ Paired (RepR K M H) ds xs ∧ r ds = some dz ∧ ∀ w H',Ext M H M H' → HR K M H' → Rep K M H' dz w → Q w H') (upA K t) σ H Q:=fun σ H Q ⟨Δ,M,R,sr,hr,q,k⟩ =>
 ⟨Δ,M,_,sr,hr,q,fun ds M1 vs H1 ⟨z,ez,q1⟩ e1 hr1 rv => ⟨_,z,M1,hr1,rd_list hr1 rv,ez,fun w H' e2 hr2 r2 => k z M1 w H' q1 (e1.trans e2) hr2 r2⟩⟩
theorem CallRd.v {f:Value} {r:List D → Option D} (h:CallRd X f r):CallR X f (fun xs H Q => ∃ ds dz M,HR X.K M H ∧ Paired (RepR X.K M H) ds xs ∧ r ds = some dz ∧ ∀ w H',Ext M H M H' → HR X.K M H' → Rep X.K M H' dz w → Q w H') :=
 fun pins s σ H xs us Q I rv ⟨ds,dz,M,hr,rr,e,k⟩ => h pins s σ H M xs us ds dz Q I hr rv rr e k
theorem d_callB {x:Str} {p:Pos} {e:Expr} {es:List Expr} {t:TAd} {id:String} {r:List D → Option D} (hc:CallRd X (.builtin id) r) (hg:Gl X x) (hm:X.mg x = none) (hv:bootBuiltins x = some (.builtin id)) (ha:PAd X (e :: es) t) (hn:x ≠ "__name__":=by decide) (hdb:(x == ("__debug__":Str)) = false:=by decide)
  (he:starEach (e :: es) X.env = (false,eval e X.env) :: starEach es X.env:=by rfl) (hpl:(backTo pos (starEach es X.env)).any (·.1) = false:=by rfl):PEd X (.Call (.Name x p) (e :: es) [] pos) (dCB r t) :=
 (pe_callB hc.v hg hm hv ha hn hdb he hpl).conv convB
theorem d_callTy {x:Str} {p:Pos} {e:Expr} {es:List Expr} {t:TAd} {id:String} {r:List D → Option D} (hc:CallRd X (.type id) r) (hg:Gl X x) (hm:X.mg x = none) (hv:bootBuiltins x = some (.type id)) (ha:PAd X (e :: es) t) (hn:x ≠ "__name__":=by decide) (hdb:(x == ("__debug__":Str)) = false:=by decide)
  (he:starEach (e :: es) X.env = (false,eval e X.env) :: starEach es X.env:=by rfl) (hpl:(backTo pos (starEach es X.env)).any (·.1) = false:=by rfl):PEd X (.Call (.Name x p) (e :: es) [] pos) (dCB r t) :=
 (pe_callTy hc.v hg hm hv ha hn hdb he hpl).conv convB
end
end L2

set_option Elab.async false
set_option linter.all false
set_option maxRecDepth 100000
namespace L2
open PySem PySem.Spec PyProof.Rows
section
variable {X:Cx}
theorem OpRd.of {f:Value → Value → Sem Value} {r2:R2} {r:D → D → Option D} (h:OpR X f r2)
  (k:∀ (H:Hp) (M:DH) (x y:V) (dx dy dz:D) (Q:VK),HR X.K M H → RepR X.K M H dx x → RepR X.K M H dy y → r dx dy = some dz → (∀ w H',Ext M H M H' → HR X.K M H' → Rep X.K M H' dz w → Q w H') → r2 x y H Q):OpRd X f r :=
 fun pins s σ H M x y v u dx dy dz Q I hr rx ry r1 r2 e q => h pins s σ H x y v u Q I rx ry (k H M x y dx dy dz Q hr r1 r2 e q)
theorem CallRd.of {f:Value} {r2:List V → Hp → VK → Prop} {r:List D → Option D} (h:CallR X f r2)
  (k:∀ (H:Hp) (M:DH) (xs:List V) (ds:List D) (dz:D) (Q:VK),HR X.K M H → Paired (RepR X.K M H) ds xs → r ds = some dz → (∀ w H',Ext M H M H' → HR X.K M H' → Rep X.K M H' dz w → Q w H') → r2 xs H Q):CallRd X f r :=
 fun pins s σ H M xs us ds dz Q I hr rv r1 e q => h pins s σ H xs us Q I rv (k H M xs ds dz Q hr r1 e q)
theorem rInt {K:PySem.W.Frag} {M:DH} {H:Hp} {i:Int} {v:V} (h:RepR K M H (.int i) v):v = .int i:=by simpa [RepR,Rep] using h
theorem rStr {K:PySem.W.Frag} {M:DH} {H:Hp} {i:Str} {v:V} (h:RepR K M H (.str i) v):v = .str i:=by simpa [RepR,Rep] using h

/-! ### ints -/
noncomputable def iOp (f:Int → Int → Option D):D → D → Option D
 | .int a,.int b => f a b
 | _,_ => none
theorem iOp_some {f:Int → Int → Option D} {x y z:D} (h:iOp f x y = some z):∃ a b,x = .int a ∧ y = .int b ∧ f a b = some z:=by
 cases x <;> first | cases h | skip
 rename_i a
 cases y <;> first | cases h | skip
 rename_i b
 exact ⟨a,b,rfl,rfl,h⟩
noncomputable def scalD:D → Bool
 | .non => true | .bl _ => true | .int _ => true | .str _ => true | _ => false
noncomputable def toV:D → V
 | .bl b => .bl b | .int i => .int i | .str x => .str x | _ => .non
theorem scal_rep {K:PySem.W.Frag} {M:DH} {H:Hp} {d:D} (h:scalD d = true):Rep K M H d (toV d):=by
 cases d <;> first | (simp [Rep,toV]; done) | cases h
theorem opInt {f:Value → Value → Sem Value} {C:Int → Int → Prop} [∀ i j,Decidable (C i j)] {g:Int → Int → D} (hs:∀ i j,scalD (g i j) = true) (h:OpR X f (rI C fun i j => toV (g i j))) :
  OpRd X f (iOp fun i j => if C i j then some (g i j) else none) :=
 OpRd.of h fun H M x y dx dy dz Q hr r1 r2 e q => by
  obtain ⟨a,b,rfl,rfl,e'⟩:=iOp_some e
  clear e
  have e:=e'
  by_cases hc:C a b
  ·rw [if_pos hc] at e; cases e
   exact ⟨a,b,rInt r1,rInt r2,hc,q _ _ (Ext.refl _ _) hr (scal_rep (hs a b))⟩
  ·rw [if_neg hc] at e; cases e
theorem opInt0 {f:Value → Value → Sem Value} {g:Int → Int → D} (hs:∀ i j,scalD (g i j) = true) (h:OpR X f (rI0 fun i j => toV (g i j))) :
  OpRd X f (iOp fun i j => some (g i j)) :=
 OpRd.of h fun H M x y dx dy dz Q hr r1 r2 e q => by
  obtain ⟨a,b,rfl,rfl,e⟩:=iOp_some e
  cases e
  exact ⟨a,b,rInt r1,rInt r2,q _ _ (Ext.refl _ _) hr (scal_rep (hs a b))⟩
instance:∀ i j,Decidable (CDiv i j):=fun i j => by unfold CDiv; exact inferInstance
instance:∀ i j,Decidable (CMul i j):=fun i j => by unfold CMul; exact inferInstance
instance:∀ i j,Decidable (CPow i j):=fun i j => by unfold CPow; exact inferInstance
theorem o_sub:OpRd X (binaryOp .Sub) (iOp fun i j => some (.int (i - j))):=opInt0 (fun _ _ => rfl) op_sub
theorem o_mulI:OpRd X (binaryOp .Mult) (iOp fun i j => if CMul i j then some (.int (i * j)) else none):=opInt (fun _ _ => rfl) op_mul
theorem o_fdiv:OpRd X (binaryOp .FloorDiv) (iOp fun i j => if CDiv i j then some (.int (i / j)) else none):=opInt (fun _ _ => rfl) op_fdiv
theorem o_mod:OpRd X (binaryOp .Mod) (iOp fun i j => if 0 < j then some (.int (i % j)) else none):=opInt (C:=fun _ j => 0 < j) (fun _ _ => rfl) op_mod
theorem o_pow:OpRd X (binaryOp .Pow) (iOp fun i j => if CPow i j then some (.int (i ^ j.toNat)) else none):=opInt (fun _ _ => rfl) op_pow
theorem o_lt:OpRd X (compareOp .Lt) (iOp fun i j => some (.bl (decide (i < j)))):=opInt0 (fun _ _ => rfl) op_lt
theorem o_le:OpRd X (compareOp .LtE) (iOp fun i j => some (.bl (decide (i ≤ j)))):=opInt0 (fun _ _ => rfl) op_le
theorem o_gt:OpRd X (compareOp .Gt) (iOp fun i j => some (.bl (decide (j < i)))):=opInt0 (fun _ _ => rfl) op_gt
theorem o_ge:OpRd X (compareOp .GtE) (iOp fun i j => some (.bl (decide (j ≤ i)))):=opInt0 (fun _ _ => rfl) op_ge

/-! ### places -/
theorem RepL.at_ {K:PySem.W.Frag} {M:DH} {H:Hp} {ds:List D} {vs:List V} {i:Int} {d:D} (h:RepL K M H ds vs) (e:atI ds i = some d):∃ v,atI vs i = some v ∧ Rep K M H d v:=by
 unfold atI at e ⊢
 rw [← h.length]
 cases q:ixN ds.length i with
 | none => rw [q] at e; cases e
 | some j =>
  rw [q] at e
  have e':ds[j]? = some d:=e
  obtain ⟨v,a,b⟩:=h.get e'
  exact ⟨v,a,b⟩
noncomputable def ixD:D → D → Option D
 | .tup ds,.int i => atI ds i
 | .lst ds,.int i => atI ds i
 | .scr ds,.int i => atI ds i
 | .str z,.int i => if z.length ≤ sizeLine then (atI z.cps.toList i).map fun c => .str ⟨#[c]⟩ else none
 | _,_ => none
theorem o_ix:IxR X (opV X.K ixD):=by
 intro value slice pins s σ H x y v u Q I rx ry h hs
 obtain ⟨dx,dy,dz,M,hr,r1,r2,e,k⟩:=h
 cases dx with
 | tup ds =>
  cases dy with
  | int i =>
   obtain ⟨a,vs,rfl,sq,rl⟩:=r1
   obtain ⟨w,e2,rw_⟩:=rl.at_ e
   exact ix_tup value slice pins s σ H _ _ v u Q I rx ry ⟨a,vs,i,w,rfl,rInt r2,sq,e2,k w H (Ext.refl _ _) hr rw_⟩ hs
  | _ => cases e
 | lst ds =>
  cases dy with
  | int i =>
   obtain ⟨a,vs,rfl,sq,rl⟩:=r1
   obtain ⟨w,e2,rw_⟩:=rl.at_ e
   exact ix_list value slice pins s σ H _ _ v u Q I rx ry ⟨a,vs,i,w,rfl,rInt r2,SqL.of sq,e2,k w H (Ext.refl _ _) hr rw_⟩ hs
  | _ => cases e
 | scr ds =>
  cases dy with
  | int i =>
   obtain ⟨a,vs,rfl,sq,rl⟩:=r1
   obtain ⟨w,e2,rw_⟩:=rl.at_ e
   exact ix_list value slice pins s σ H _ _ v u Q I rx ry ⟨a,vs,i,w,rfl,rInt r2,sq,e2,k w H (Ext.refl _ _) hr rw_⟩ hs
  | _ => cases e
 | str z =>
  cases dy with
  | int i =>
   simp only [ixD] at e
   by_cases hz:z.length ≤ sizeLine
   ·rw [if_pos hz] at e
    cases q:atI z.cps.toList i with
    | none => rw [q] at e; cases e
    | some c =>
     rw [q] at e; cases e
     exact ix_str value slice pins s σ H _ _ v u Q I rx ry ⟨z,i,c,rStr r1,rInt r2,hz,q,k _ H (Ext.refl _ _) hr (by simp [Rep])⟩ hs
   ·rw [if_neg hz] at e; cases e
  | _ => cases e
 | _ => cases e

/-! ### + -/
noncomputable def addD:D → D → Option D
 | .int a,.int b => some (.int (a + b))
 | .str a,.str b => if a.length + b.length ≤ sizeLine then some (.str (a ++ b)) else none
 | .lst a,.lst b => if a.length + b.length ≤ sizeLine then some (.lst (a ++ b)) else none
 | .tup a,.tup b => if a.length + b.length ≤ sizeLine then some (.tup (a ++ b)) else none
 | _,_ => none
theorem freshL {K:PySem.W.Frag} {M:DH} {H:Hp} {p:Addr} {ds:List D} {vs:List V} {Q:VK} (hr:HR K M H) (hp:H p = none) (r:RepL K M H ds vs) (q:∀ w H',Ext M H M H' → HR K M H' → Rep K M H' (.lst ds) w → Q w H'):Q (.ref p) (upd H p (.lst vs)) :=
 q _ _ (Ext.new hr hp) (hr.new hp) (by simp only [Rep]; exact ⟨p,vs,rfl,⟨upd_same,hr.fresh hp⟩,r.ext (Ext.new hr hp)⟩)
theorem freshT {K:PySem.W.Frag} {M:DH} {H:Hp} {p:Addr} {ds:List D} {vs:List V} {Q:VK} (hr:HR K M H) (hp:H p = none) (r:RepL K M H ds vs) (q:∀ w H',Ext M H M H' → HR K M H' → Rep K M H' (.tup ds) w → Q w H'):Q (.ref p) (upd H p (.tup vs)) :=
 q _ _ (Ext.new hr hp) (hr.new hp) (by simp only [Rep]; exact ⟨p,vs,rfl,.inl ⟨.inl upd_same,hr.fresh hp⟩,r.ext (Ext.new hr hp)⟩)
theorem RepR.tup {K:PySem.W.Frag} {M:DH} {H:Hp} {ds:List D} {v:V} (hr:HR K M H) (h:RepR K M H (.tup ds) v):Rep K M H (.tup ds) v:=by
 obtain ⟨a,vs,rfl,sq,rl⟩:=h
 simp only [Rep]
 refine ⟨a,vs,rfl,?_,rl⟩
 rcases sq with r | k
 ·refine .inl ⟨r,?_⟩
  cases q:M a with
  | none => rfl
  | some o =>
   obtain ⟨u,z,m⟩:=(hr a _ q).some
   rcases r with r | ⟨ob,r⟩
   ·rw [z] at r; exact absurd (Option.some.inj r) (m _).1
   ·rw [z] at r; exact absurd (Option.some.inj r) ((m _).2 ob)
 ·exact .inr (.inr k)
theorem cat_tup0 {prog:Program} {w:World} {A:Around} {E:Value → Shared → Prop} {s:Shared} {t b:Addr} {ws:List Value} {Q:Value → Shared → Prop} (ht:IsTup s.heap t ([]:List Value).toArray) (hb:IsTup s.heap b ws.toArray)
  (h:Q (.ref b) s):wpAny (model prog w) A (binaryOp .Add (.ref t) (.ref b)) Q E s:=by
 obtain ⟨⟨cls,dd,data,sl⟩,ho,hc,n,hd⟩:=id ht
 obtain ⟨⟨cls2,dd2,data2,sl2⟩,ho2,hc2,n2,hd2⟩:=id hb
 simp only at hc hd hc2 hd2
 subst hc hd hc2 hd2
 exact concat_meets ⟨_,ho,rfl⟩ ⟨_,ho2,rfl⟩ noFill_tuple_add seq_tuple_add PySem.F.slot_tuple_add PySem.F.entry_tuple_add (PySem.F.args_tuple_add_2 _ _)
   (tuple_addW0 t b ([]:List Value).toArray ws.toArray n n2 dd dd2 sl sl2 (by simp)) ⟨ho,ho2,h⟩
theorem o_add:OpRd X (binaryOp .Add) addD:=by
 intro pins s σ H M x y v u dx dy dz Q I hr rx ry r1 r2 e k
 cases dx with
 | int a =>
  cases dy with
  | int b =>
   cases e
   exact op_add pins s σ H x y v u Q I rx ry ⟨a,b,rInt r1,rInt r2,k _ H (Ext.refl _ _) hr (by simp [Rep])⟩
  | _ => cases e
 | str a =>
  cases dy with
  | str b =>
   simp only [addD] at e
   by_cases hz:a.length + b.length ≤ sizeLine
   ·rw [if_pos hz] at e; cases e
    exact op_add_str pins s σ H x y v u Q I rx ry ⟨a,b,rStr r1,rStr r2,hz,k _ H (Ext.refl _ _) hr (by simp [Rep])⟩
   ·rw [if_neg hz] at e; cases e
  | _ => cases e
 | lst a =>
  cases dy with
  | lst b =>
   simp only [addD] at e
   by_cases hz:a.length + b.length ≤ sizeLine
   ·rw [if_pos hz] at e; cases e
    obtain ⟨l1,vs,rfl,h1,l1r⟩:=r1
    obtain ⟨l2,ws,rfl,h2,l2r⟩:=r2
    exact op_cat pins s σ H _ _ v u Q I rx ry ⟨l1,l2,vs,ws,rfl,rfl,h1,h2,by rw [← l1r.length,← l2r.length]; exact hz,fun p hp => freshL hr hp (l1r.append l2r) k⟩
   ·rw [if_neg hz] at e; cases e
  | _ => cases e
 | tup a =>
  cases dy with
  | tup b =>
   simp only [addD] at e
   by_cases hz:a.length + b.length ≤ sizeLine
   ·rw [if_pos hz] at e; cases e
    have t1:=RepR.tup hr r1
    have t2:=RepR.tup hr r2
    obtain ⟨l1,vs,rfl,h1,l1r⟩:=r1
    obtain ⟨l2,ws,rfl,h2,l2r⟩:=r2
    by_cases hv:vs = []
    ·subst hv
     have ea:a = []:=by
      have:=l1r.length
      cases a with
      | nil => rfl
      | cons _ _ => simp at this
     subst ea
     cases rx
     cases ry
     obtain ⟨its,q1,p1,_⟩:=I.tuple h1
     obtain ⟨its2,q2,p2,_⟩:=I.tuple h2
     cases q1
     exact cat_tup0 p1 p2 ⟨.ref l2,H,I,rfl,k _ H (Ext.refl _ _) hr t2⟩
    ·refine op_catT pins s σ H _ _ v u Q I rx ry ⟨l1,l2,vs,ws,rfl,rfl,h1,h2,hv,by rw [← l1r.length,← l2r.length]; exact hz,fun hw => ?_,fun _ p hp => freshT hr hp (l1r.append l2r) k⟩
     subst hw
     have eb:b = []:=by
      have:=l2r.length
      cases b with
      | nil => rfl
      | cons _ _ => simp at this
     subst eb
     rw [List.append_nil] at k
     exact k _ H (Ext.refl _ _) hr t1
   ·rw [if_neg hz] at e; cases e
  | _ => cases e
 | _ => cases e

/-! ### ==,deep -/
mutual
noncomputable def eqD:D → D → Bool
 | .non,.non => true
 | .bl a,.bl b => a == b
 | .bl a,.int b => (if a then 1 else 0) == b
 | .int a,.bl b => a == (if b then 1 else 0)
 | .int a,.int b => a == b
 | .str a,.str b => a == b
 | .tup a,.tup b => eqDs a b
 | .lst a,.lst b => eqDs a b
 | _,_ => false
noncomputable def eqDs:List D → List D → Bool
 | [],[] => true
 | a :: as,b :: bs => eqD a b && eqDs as bs
 | _,_ => false
end
mutual
noncomputable def dLe:D → Nat → Bool
 | .tup _,0 => false
 | .tup ds,n + 1 => dLes ds n
 | .lst _,0 => false
 | .lst ds,n + 1 => dLes ds n
 | .scr _,_ => false
 | .emp,_ => false
 | .ref _,_ => false
 | _,_ => true
noncomputable def dLes:List D → Nat → Bool
 | [],_ => true
 | d :: ds,n => dLe d n && dLes ds n
end
theorem dLes_get:∀ {ds:List D} {n i:Nat} {d:D},dLes ds n = true → ds[i]? = some d → dLe d n = true
 | [],_,_,_,_,e => by simp at e
 | d :: ds,n,0,x,h,e => by
  simp only [dLes,Bool.and_eq_true] at h
  simp at e; subst e; exact h.1
 | d :: ds,n,i + 1,x,h,e => by
  simp only [dLes,Bool.and_eq_true] at h
  exact dLes_get h.2 (by simpa using e)
theorem dLes_iff:∀ {ds:List D} {n:Nat},dLes ds n = true ↔ ∀ d ∈ ds,dLe d n = true
 | [],n => by simp [dLes]
 | d :: ds,n => by simp [dLes,dLes_iff (ds:=ds)]
noncomputable def eqN (ds es:List D) (j:Nat):Bool:=match ds[j]?,es[j]? with | some a,some b => eqD a b | _,_ => false
theorem eqDs_len:∀ {ds es:List D},eqDs ds es = true → ds.length = es.length
 | [],[],_ => rfl
 | [],_ :: _,h => by simp [eqDs] at h
 | _ :: _,[],h => by simp [eqDs] at h
 | _ :: ds,_ :: es,h => by
  simp only [eqDs,Bool.and_eq_true] at h
  simp [eqDs_len h.2]
theorem eqDs_all:∀ {ds es:List D},eqDs ds es = ((List.range (min ds.length es.length)).all (eqN ds es) && ds.length == es.length)
 | [],[] => by simp [eqDs]
 | [],_ :: _ => by simp [eqDs]
 | _ :: _,[] => by simp [eqDs]
 | a :: ds,b :: es => by
  have ih:=@eqDs_all ds es
  simp only [eqDs,List.length_cons,Nat.add_min_add_right,List.range_succ_eq_map,List.all_cons,List.all_map]
  have e0:eqN (a :: ds) (b :: es) 0 = eqD a b:=by simp [eqN]
  have e1:(eqN (a :: ds) (b :: es)) ∘ Nat.succ = eqN ds es:=by
   funext j; simp [eqN]
  rw [e0,e1,ih]
  have e2:(ds.length + 1 == es.length + 1) = (ds.length == es.length):=by
   rw [Bool.eq_iff_iff]; simp
  rw [e2,Bool.and_assoc]
theorem eqDs_all' {ds es:List D} (h:ds.length = es.length):eqDs ds es = (List.range ds.length).all (eqN ds es):=by
 rw [eqDs_all,← h,Nat.min_self]; simp
theorem Rep.r {K:PySem.W.Frag} {M:DH} {H:Hp} {d:D} {v:V} (h:Rep K M H d v):RepR K M H d v:=by
 cases d with
 | tup ds => simp only [Rep] at h; obtain ⟨a,vs,e,t,r⟩:=h; exact ⟨a,vs,e,t.sq,r⟩
 | lst ds => simp only [Rep] at h; obtain ⟨a,vs,e,t,r⟩:=h; exact ⟨a,vs,e,t.1,r⟩
 | scr ds => simp only [Rep] at h; obtain ⟨a,vs,e,t,r⟩:=h; exact ⟨a,vs,e,t.sq,r⟩
 | _ => exact h
theorem notTL {pins:List (Addr × Obj)} {σ:St} {H:Hp} {s:Shared} {a:Addr} {vs ws:List V} (I:Inv X pins σ H s) (h:SqT X.K H a vs) (h':H a = some (.lst ws)):False:=by
 obtain ⟨its,r,⟨o,e,c,n,d⟩,_⟩:=I.tuple h
 obtain ⟨_,its',n',_,e'⟩:=I.hok a _ h'
 rw [e] at e'; cases e'
 exact absurd (show Value.type "list" = Value.type "tuple" from c) (by decide)
theorem rep_same {pins:List (Addr × Obj)} {σ:St} {H:Hp} {s:Shared} (I:Inv X pins σ H s) {M M':DH}:∀ (n:Nat) {d e:D} {v:V},dLe d n = true → dLe e n = true → RepR X.K M H d v → RepR X.K M' H e v → eqD d e = true:=by
  intro n
  induction n with
  | zero =>
    intro d e v hd he r1 r2
    cases d <;> first | (simp [dLe] at hd; done) | skip
    all_goals cases e <;> first | (simp [dLe] at he; done) | skip
    all_goals (simp only [RepR,Rep] at r1 r2; subst r1; first | (cases r2; simp [eqD]; done) | cases r2)
  | succ n ih =>
    intro d e v hd he r1 r2
    have lists:∀ {ds es:List D} {vs:List V},dLes ds n = true → dLes es n = true → RepL X.K M H ds vs → RepL X.K M' H es vs → eqDs ds es = true:=by
      intro ds
      induction ds with
      | nil =>
        intro es vs _ _ h1 h2
        simp only [RepL] at h1; subst h1
        cases es with
        | nil => simp [eqDs]
        | cons _ _ => simp [RepL] at h2
      | cons a ds ihl =>
        intro es vs d1 d2 h1 h2
        simp only [RepL] at h1
        obtain ⟨v,ws,rfl,h3,h4⟩:=h1
        cases es with
        | nil => simp [RepL] at h2
        | cons b es =>
          simp only [RepL] at h2
          obtain ⟨v',ws',e',h5,h6⟩:=h2
          cases e'
          simp only [dLes,Bool.and_eq_true] at d1 d2
          simp only [eqDs,Bool.and_eq_true]
          exact ⟨ih d1.1 d2.1 h3.r h5.r,ihl d1.2 d2.2 h4 h6⟩
    cases d with
    | tup ds =>
      obtain ⟨a,vs,rfl,sq,rl⟩:=r1
      cases e with
      | tup es =>
        obtain ⟨b,ws,e',sq',rl'⟩:=r2
        cases e'
        have:=I.tuple_inj sq sq'
        subst this
        simp only [eqD]
        exact lists (by simpa [dLe] using hd) (by simpa [dLe] using he) rl rl'
      | lst es =>
        obtain ⟨b,ws,e',sq',rl'⟩:=r2
        cases e'
        exact (notTL I sq sq').elim
      | _ => first | (simp [dLe] at he; done) | (simp only [RepR,Rep] at r2; cases r2)
    | lst ds =>
      obtain ⟨a,vs,rfl,sq,rl⟩:=r1
      cases e with
      | lst es =>
        obtain ⟨b,ws,e',sq',rl'⟩:=r2
        cases e'
        rw [sq] at sq'
        cases sq'
        simp only [eqD]
        exact lists (by simpa [dLe] using hd) (by simpa [dLe] using he) rl rl'
      | tup es =>
        obtain ⟨b,ws,e',sq',rl'⟩:=r2
        cases e'
        exact (notTL I sq' sq).elim
      | _ => first | (simp [dLe] at he; done) | (simp only [RepR,Rep] at r2; cases r2)
    | _ =>
      first
      | (simp [dLe] at hd; done)
      | (cases e with
         | tup es => (obtain ⟨b,ws,e',sq',rl'⟩:=r2; subst e'; simp only [RepR,Rep] at r1; cases r1)
         | lst es => (obtain ⟨b,ws,e',sq',rl'⟩:=r2; subst e'; simp only [RepR,Rep] at r1; cases r1)
         | _ => first | (simp [dLe] at he; done) | (simp only [RepR,Rep] at r1 r2; subst r1; first | (cases r2; simp [eqD]; done) | cases r2))
open PySem.SeqAt in
theorem eqAt_D {pins:List (Addr × Obj)} {σ:St} {H:Hp} {s:Shared} (I:Inv X pins σ H s) {M M':DH}:∀ (n:Nat) {A:Around} {d e:D} {v w:V} {u1 u2:Value},A.units + n < cLine → dLe d n = true → dLe e n = true →
  RepR X.K M H d v → RepR X.K M' H e w → RelV v u1 → RelV w u2 → EqAt A s u1 u2 (eqD d e) ∧ RcAt A s u1 u2 (eqD d e):=by
 intro n
 induction n with
 | zero =>
  intro A d e v w u1 u2 hu hd he r1 r2 q1 q2
  have hu0:A.units < cLine:=by omega
  cases d <;> first | (simp [dLe] at hd; done) | skip
  all_goals cases e <;> first | (simp [dLe] at he; done) | skip
  all_goals simp only [RepR,Rep] at r1 r2
  all_goals subst r1
  all_goals subst r2
  all_goals simp only [RelV] at q1 q2
  all_goals first | (obtain ⟨t1,rfl⟩:=q1) | subst q1
  all_goals first | (obtain ⟨t2,rfl⟩:=q2) | subst q2
  all_goals simp only [eqD]
  ·exact ⟨EqAt.same _,RcAt.none_none⟩
  ·exact ⟨EqAt.none_bool _,RcAt.none_bool _⟩
  ·exact ⟨EqAt.none_int _ _,RcAt.none_int _ _⟩
  ·exact ⟨EqAt.none_str _ _,RcAt.none_str _ _⟩
  ·exact ⟨EqAt.bool_none _,RcAt.bool_none _⟩
  ·exact ⟨EqAt.bool_bool _ _,RcAt.bool_bool _ _⟩
  ·exact ⟨EqAt.bool_int _ _ _,RcAt.bool_int _ _ _⟩
  ·exact ⟨EqAt.bool_str _ _ _,RcAt.bool_str _ _ _⟩
  ·exact ⟨EqAt.int_none _ _,RcAt.int_none _ _⟩
  ·exact ⟨EqAt.int_bool _ _ _,RcAt.int_bool _ _ _⟩
  ·exact ⟨EqAt.int_int _ _ _ _,RcAt.int_int _ _ _ _⟩
  ·exact ⟨EqAt.int_str _ _ _ _,RcAt.int_str _ _ _ _⟩
  ·exact ⟨EqAt.str_none _ _,RcAt.str_none _ _⟩
  ·exact ⟨EqAt.str_bool _ _ _,RcAt.str_bool _ _ _⟩
  ·exact ⟨EqAt.str_int _ _ _ _,RcAt.str_int _ _ _ _⟩
  ·exact ⟨EqAt.str_str _ _ _ _,RcAt.str_str _ _ _ _⟩
 | succ n ih =>
  intro A d e v w u1 u2 hu hd he r1 r2 q1 q2
  have hu0:A.units < cLine:=by omega
  have hu1:A.in1.units + n < cLine:=by show A.units + 1 + n < cLine; omega
  have item:∀ {ds es:List D} {vs ws:List V} {us us2:List Value},dLes ds n = true → dLes es n = true → RepL X.K M H ds vs → RepL X.K M' H es ws → Vals vs us → Vals ws us2 →
    ∀ j (h1:j < us.toArray.size) (h2:j < us2.toArray.size),EqAt A.in1 s us.toArray[j] us2.toArray[j] (eqN ds es j):=by
   intro ds es vs ws us us2 d1 d2 h1 h2 h3 h4 j hj1 hj2
   have l1:=h1.length
   have l2:=h2.length
   have l3:=h3.length
   have l4:=h4.length
   have j1:j < ds.length:=by simp at hj1; omega
   have j2:j < es.length:=by simp at hj2; omega
   obtain ⟨v1,g1,p1⟩:=h1.get (i:=j) (d:=ds[j]) (by simp [j1])
   obtain ⟨v2,g2,p2⟩:=h2.get (i:=j) (d:=es[j]) (by simp [j2])
   obtain ⟨u1,k1,m1⟩:=h3.get g1
   obtain ⟨u2,k2,m2⟩:=h4.get g2
   have e1:us.toArray[j] = u1:=by
    simp at hj1
    simpa [List.getElem?_eq_getElem hj1] using k1
   have e2:us2.toArray[j] = u2:=by
    simp at hj2
    simpa [List.getElem?_eq_getElem hj2] using k2
   rw [e1,e2]
   have e3:eqN ds es j = eqD ds[j] es[j]:=by simp [eqN,j1,j2]
   rw [e3]
   exact (ih hu1 (dLes_get d1 (i:=j) (by simp [j1])) (dLes_get d2 (i:=j) (by simp [j2])) p1.r p2.r m1 m2).1
  cases d with
  | tup ds =>
   obtain ⟨a,vs,rfl,sq,rl⟩:=id r1
   cases q1
   obtain ⟨its,rv,pt,_⟩:=I.tuple sq
   have hd':dLes ds n = true:=by simpa [dLe] using hd
   cases e with
   | tup es =>
    obtain ⟨b,ws,rfl,sq',rl'⟩:=id r2
    cases q2
    obtain ⟨its2,rv2,pt2,_⟩:=I.tuple sq'
    have he':dLes es n = true:=by simpa [dLe] using he
    have rc:RcAt A s (.ref a) (.ref b) (eqD (.tup ds) (.tup es)):=by
     have:=RcAt.tuples (e:=eqN ds es) pt pt2 hu0 (item hd' he' rl rl' rv rv2)
     rw [List.size_toArray,List.size_toArray,← rv.length,← rv2.length,← rl.length,← rl'.length,← eqDs_all] at this
     simpa only [eqD] using this
    refine ⟨?_,rc⟩
    by_cases hab:a = b
    ·subst hab
     rw [rep_same I (n + 1) hd he r1 r2]
     exact EqAt.same _
    ·exact EqAt.of_refs hab rc
   | lst es =>
    obtain ⟨b,ws,rfl,sq',rl'⟩:=id r2
    cases q2
    obtain ⟨its2,rv2,pt2,_⟩:=I.list (SqL.of sq')
    simp only [eqD]
    exact ⟨EqAt.tuple_list pt pt2.isList hu0,RcAt.tuple_list pt pt2.isList hu0⟩
   | non =>
    simp only [RepR,Rep] at r2; subst r2; simp only [RelV] at q2
    subst q2
    simp only [eqD]
    exact ⟨EqAt.tuple_none pt hu0,RcAt.tuple_none pt hu0⟩
   | bl b =>
    simp only [RepR,Rep] at r2; subst r2; simp only [RelV] at q2
    subst q2
    simp only [eqD]
    exact ⟨EqAt.tuple_bool _ pt hu0,RcAt.tuple_bool _ pt hu0⟩
   | int b =>
    simp only [RepR,Rep] at r2; subst r2; simp only [RelV] at q2
    obtain ⟨t,rfl⟩:=q2
    simp only [eqD]
    exact ⟨EqAt.tuple_int _ _ pt hu0,RcAt.tuple_int _ _ pt hu0⟩
   | str b =>
    simp only [RepR,Rep] at r2; subst r2; simp only [RelV] at q2
    obtain ⟨t,rfl⟩:=q2
    simp only [eqD]
    exact ⟨EqAt.tuple_str _ _ pt hu0,RcAt.tuple_str _ _ pt hu0⟩
   | _ => simp [dLe] at he
  | lst ds =>
   obtain ⟨a,vs,rfl,sq,rl⟩:=id r1
   cases q1
   obtain ⟨its,rv,pt,_⟩:=I.list (SqL.of sq)
   have hd':dLes ds n = true:=by simpa [dLe] using hd
   cases e with
   | lst es =>
    obtain ⟨b,ws,rfl,sq',rl'⟩:=id r2
    cases q2
    obtain ⟨its2,rv2,pt2,_⟩:=I.list (SqL.of sq')
    have he':dLes es n = true:=by simpa [dLe] using he
    have rc:RcAt A s (.ref a) (.ref b) (eqD (.lst ds) (.lst es)):=by
     by_cases hl:ds.length = es.length
     ·have hsz:its.toArray.size = its2.toArray.size:=by rw [List.size_toArray,List.size_toArray,← rv.length,← rv2.length,← rl.length,← rl'.length]; exact hl
      have:=RcAt.lists (e:=eqN ds es) pt.isList pt2.isList hsz hu0 (item hd' he' rl rl' rv rv2)
      rw [List.size_toArray,← rv.length,← rl.length,← eqDs_all' hl] at this
      simpa only [eqD] using this
     ·have hsz:(its.toArray.size != its2.toArray.size) = true:=by rw [List.size_toArray,List.size_toArray,← rv.length,← rv2.length,← rl.length,← rl'.length]; simpa using hl
      have:=RcAt.lists_lengths pt.isList pt2.isList hsz hu0
      have e0:eqD (.lst ds) (.lst es) = false:=by
       simp only [eqD]
       cases q:eqDs ds es with
       | false => rfl
       | true => exact absurd (eqDs_len q) hl
      rw [e0]; exact this
    refine ⟨?_,rc⟩
    by_cases hab:a = b
    ·subst hab
     rw [rep_same I (n + 1) hd he r1 r2]
     exact EqAt.same _
    ·exact EqAt.of_refs hab rc
   | tup es =>
    obtain ⟨b,ws,rfl,sq',rl'⟩:=id r2
    cases q2
    obtain ⟨its2,rv2,pt2,_⟩:=I.tuple sq'
    simp only [eqD]
    exact ⟨EqAt.list_tuple pt.isList pt2 hu0,RcAt.list_tuple pt.isList pt2 hu0⟩
   | non =>
    simp only [RepR,Rep] at r2; subst r2; simp only [RelV] at q2
    subst q2
    simp only [eqD]
    exact ⟨EqAt.list_none pt.isList hu0,RcAt.list_none pt.isList hu0⟩
   | bl b =>
    simp only [RepR,Rep] at r2; subst r2; simp only [RelV] at q2
    subst q2
    simp only [eqD]
    exact ⟨EqAt.list_bool _ pt.isList hu0,RcAt.list_bool _ pt.isList hu0⟩
   | int b =>
    simp only [RepR,Rep] at r2; subst r2; simp only [RelV] at q2
    obtain ⟨t,rfl⟩:=q2
    simp only [eqD]
    exact ⟨EqAt.list_int _ _ pt.isList hu0,RcAt.list_int _ _ pt.isList hu0⟩
   | str b =>
    simp only [RepR,Rep] at r2; subst r2; simp only [RelV] at q2
    obtain ⟨t,rfl⟩:=q2
    simp only [eqD]
    exact ⟨EqAt.list_str _ _ pt.isList hu0,RcAt.list_str _ _ pt.isList hu0⟩
   | _ => simp [dLe] at he
  | non =>
   cases e with
   | tup es =>
    obtain ⟨b,ws,rfl,sq',rl'⟩:=id r2
    cases q2
    obtain ⟨its2,rv2,pt2,_⟩:=I.tuple sq'
    simp only [RepR,Rep] at r1; subst r1; simp only [RelV] at q1
    subst q1
    simp only [eqD]
    exact ⟨EqAt.none_tuple pt2 hu0,RcAt.none_tuple pt2 hu0⟩
   | lst es =>
    obtain ⟨b,ws,rfl,sq',rl'⟩:=id r2
    cases q2
    obtain ⟨its2,rv2,pt2,_⟩:=I.list (SqL.of sq')
    simp only [RepR,Rep] at r1; subst r1; simp only [RelV] at q1
    subst q1
    simp only [eqD]
    exact ⟨EqAt.none_list pt2.isList hu0,RcAt.none_list pt2.isList hu0⟩
   | _ => first | (simp [dLe] at he; done) | exact ih (A:=A) (by omega) (by simp [dLe]) (by simp [dLe]) r1 r2 q1 q2
  | bl a =>
   cases e with
   | tup es =>
    obtain ⟨b,ws,rfl,sq',rl'⟩:=id r2
    cases q2
    obtain ⟨its2,rv2,pt2,_⟩:=I.tuple sq'
    simp only [RepR,Rep] at r1; subst r1; simp only [RelV] at q1
    subst q1
    simp only [eqD]
    exact ⟨EqAt.bool_tuple _ pt2 hu0,RcAt.bool_tuple _ pt2 hu0⟩
   | lst es =>
    obtain ⟨b,ws,rfl,sq',rl'⟩:=id r2
    cases q2
    obtain ⟨its2,rv2,pt2,_⟩:=I.list (SqL.of sq')
    simp only [RepR,Rep] at r1; subst r1; simp only [RelV] at q1
    subst q1
    simp only [eqD]
    exact ⟨EqAt.bool_list _ pt2.isList hu0,RcAt.bool_list _ pt2.isList hu0⟩
   | _ => first | (simp [dLe] at he; done) | exact ih (A:=A) (by omega) (by simp [dLe]) (by simp [dLe]) r1 r2 q1 q2
  | int a =>
   cases e with
   | tup es =>
    obtain ⟨b,ws,rfl,sq',rl'⟩:=id r2
    cases q2
    obtain ⟨its2,rv2,pt2,_⟩:=I.tuple sq'
    simp only [RepR,Rep] at r1; subst r1; simp only [RelV] at q1
    obtain ⟨t,rfl⟩:=q1
    simp only [eqD]
    exact ⟨EqAt.int_tuple _ _ pt2 hu0,RcAt.int_tuple _ _ pt2 hu0⟩
   | lst es =>
    obtain ⟨b,ws,rfl,sq',rl'⟩:=id r2
    cases q2
    obtain ⟨its2,rv2,pt2,_⟩:=I.list (SqL.of sq')
    simp only [RepR,Rep] at r1; subst r1; simp only [RelV] at q1
    obtain ⟨t,rfl⟩:=q1
    simp only [eqD]
    exact ⟨EqAt.int_list _ _ pt2.isList hu0,RcAt.int_list _ _ pt2.isList hu0⟩
   | _ => first | (simp [dLe] at he; done) | exact ih (A:=A) (by omega) (by simp [dLe]) (by simp [dLe]) r1 r2 q1 q2
  | str a =>
   cases e with
   | tup es =>
    obtain ⟨b,ws,rfl,sq',rl'⟩:=id r2
    cases q2
    obtain ⟨its2,rv2,pt2,_⟩:=I.tuple sq'
    simp only [RepR,Rep] at r1; subst r1; simp only [RelV] at q1
    obtain ⟨t,rfl⟩:=q1
    simp only [eqD]
    exact ⟨EqAt.str_tuple _ _ pt2 hu0,RcAt.str_tuple _ _ pt2 hu0⟩
   | lst es =>
    obtain ⟨b,ws,rfl,sq',rl'⟩:=id r2
    cases q2
    obtain ⟨its2,rv2,pt2,_⟩:=I.list (SqL.of sq')
    simp only [RepR,Rep] at r1; subst r1; simp only [RelV] at q1
    obtain ⟨t,rfl⟩:=q1
    simp only [eqD]
    exact ⟨EqAt.str_list _ _ pt2.isList hu0,RcAt.str_list _ _ pt2.isList hu0⟩
   | _ => first | (simp [dLe] at he; done) | exact ih (A:=A) (by omega) (by simp [dLe]) (by simp [dLe]) r1 r2 q1 q2
  | _ => simp [dLe] at hd
end
end L2

set_option Elab.async false
set_option linter.all false
set_option maxRecDepth 100000
namespace L2
open PySem PySem.Spec PyProof.Rows
section
variable {X:Cx} {a b c e:Expr} {es:List Expr} {te ta tb:TEd} {pos:Pos} {st:Stmt} {rest:List Stmt} {t u:TSd}

/-! ### blocks and statements -/
noncomputable def dNext:TSd:=fun E Δ M => E.nx Δ M
noncomputable def dSeq (t u:TSd):TSd:=fun E Δ M => t { E with nx:=u E } Δ M
theorem d_snil:PSsd X [] dNext:=pss_nil.conv fun D σ H ⟨Δ,M,E,sr,hr,q,u⟩ => u.nx Δ M σ H q (Ext.refl _ _) hr sr
theorem d_scons (h1:PSd X st t) (h2:PSsd X rest u):PSsd X (st :: rest) (dSeq t u) :=
 (pss_cons h1 h2).conv fun D σ H ⟨Δ,M,E,sr,hr,q,k⟩ => ⟨Δ,M,{ E with nx:=u E },sr,hr,q,⟨fun Δ' M' σ' H' q' e' hr' sr' => ⟨Δ',M',E,sr',hr',q',k.ext e'⟩,k.bk,k.ct,k.rt⟩⟩
theorem d_sone (h1:PSd X st t):PSsd X [st] t:=pss_one h1
noncomputable def dRet (te:TEd):TSd:=fun E Δ M => te Δ M E.rt
theorem d_ret (he:PEd X e te):PSd X (.Return (some e) pos) (dRet te):=(ps_ret he).conv fun D σ H ⟨Δ,M,E,sr,hr,q,k⟩ => ⟨Δ,M,_,sr,hr,q,k.rt⟩
noncomputable def dDrop (te:TEd):TSd:=fun E Δ M => te Δ M fun _ M1 => E.nx Δ M1
theorem d_expr (he:PEd X e te) (hs:swapsWith e none pos.line X.env = pure false:=by rfl):PSd X (.Expr e pos) (dDrop te) :=
 (ps_expr he hs).conv fun D σ H ⟨Δ,M,E,sr,hr,q,k⟩ => ⟨Δ,M,_,sr,hr,q,fun d M1 v H1 q1 e1 hr1 _ => k.nx Δ M1 σ H1 q1 e1 hr1 (sr.ext e1)⟩
noncomputable def dIfS (c:TTd) (t u:TSd):TSd:=fun E Δ M => c Δ M fun b M1 => if b = true then t E Δ M1 else u E Δ M1
theorem d_ifS {sa sb:List Stmt} {tc:TTd} (hc:PTd X c tc) (ha:PSsd X sa t) (hb:PSsd X sb u):PSd X (.If c sa sb pos) (dIfS tc t u) :=
 (ps_if hc ha hb).conv fun D σ H ⟨Δ,M,E,sr,hr,q,k⟩ => ⟨Δ,M,_,sr,hr,q,fun b M1 H1 q1 e1 hr1 => by
  cases b with
  | true => simp only [if_true] at q1 ⊢; exact ⟨Δ,M1,E,sr.ext e1,hr1,q1,k.ext e1⟩
  | false => simp only [Bool.false_eq_true,if_false] at q1 ⊢; exact ⟨Δ,M1,E,sr.ext e1,hr1,q1,k.ext e1⟩⟩
/-! a name is stored -/
noncomputable def dSet (i:Nat) (te:TEd):TSd:=fun E Δ M => te Δ M fun d M1 => E.nx (Δ.set i (some d)) M1
theorem d_set {i:Nat} {x:Str} {pos':Pos} (hN:X.N.Nodup) (hi:X.N[i]? = some x) (hx:Loc X.env.scope x) (he:PEd X e te) (hs:swapsWith e (some (.Name x pos')) pos.line X.env = pure false:=by rfl) (hf:X.fn x = true ∨ X.env.scope.names.lookup x = some .local:=by first | exact .inl rfl | exact .inr rfl | assumption) :
  PSd X (.Assign [.Name x pos'] e pos) (dSet i te):=(ps_set hN hi hx he hs hf).conv fun D σ H ⟨Δ,M,E,sr,hr,q,k⟩ => ⟨Δ,M,_,sr,hr,q,fun d M1 v H1 q1 e1 hr1 rv => k.nx _ M1 _ H1 q1 e1 hr1 ((sr.ext e1).set i rv)⟩
noncomputable def dAug (i:Nat) (te:TEd) (r:D → D → Option D):TSd:=fun E Δ M => ∃ x,Δ[i]? = some (some x) ∧ te Δ M fun y M1 => ∃ z,r (rdM M1 x) (rdM M1 y) = some z ∧ E.nx (Δ.set i (some z)) M1
theorem d_aug {i:Nat} {x:Str} {op:Operator} {r:D → D → Option D} {pos':Pos} (hN:X.N.Nodup) (hi:X.N[i]? = some x) (hx:Loc X.env.scope x) (he:PEd X e te) (ho:OpRd X (inplaceOp op) r) (hf:X.fn x = true ∨ X.env.scope.names.lookup x = some .local:=by first | exact .inl rfl | exact .inr rfl | assumption) :
  PSd X (.AugAssign (.Name x pos') op e pos) (dAug i te r):=by
 have h:PIp X op (opV X.K r):=fun pins s σ H x y v u Q I rx ry q => ho.v pins s σ H x y v u Q I rx ry q
 refine (ps_aug hN hi hx he h hf).conv fun D σ H hh => ?_
 obtain ⟨Δ,M,E,sr,hr,⟨d,ed,q⟩,k⟩:=hh
 obtain ⟨v,ev,rv⟩:=sr.2 i d ed
 refine ⟨v,ev,Δ,M,_,sr,hr,q,fun y M1 w H1 ⟨z,ez,q1⟩ e1 hr1 rw_ => ⟨_,_,z,M1,hr1,(rv.ext e1).rd hr1,rw_.rd hr1,ez,fun w2 H2 e2 hr2 r2 => k.nx _ M1 _ H2 q1 (e1.trans e2) hr2 (((sr.ext e1).ext e2).set i r2)⟩⟩
/-! a ghost step: a cell of ours is ours no more,a name that holds it has the list as a value -/
noncomputable def dFroze (i:Nat) (t:TSd):TSd:=fun E Δ M => ∃ a ds,Δ[i]? = some (some (.ref a)) ∧ M a = some (.lst ds) ∧ t E (Δ.set i (some (.lst ds))) (delM M a)
theorem d_froze {sts:List Stmt} (i:Nat) (h:PSsd X sts t):PSsd X sts (dFroze i t):=PSs.conv h fun D σ H ⟨Δ,M,E,sr,hr,⟨a,ds,e1,e2,q⟩,k⟩ => by
 refine ⟨_,delM M a,E,?_,hr.le LeM.del,q,k.ext (Ext.le LeM.del)⟩
 obtain ⟨v,ev,rv⟩:=sr.2 i _ e1
 simp only [Rep] at rv
 subst rv
 have:=(sr.ext (Ext.le (M1:=delM M a) LeM.del)).set i (Rep.froze (M1:=delM M a) hr LeM.del e2 delM_same)
 have es:σ.set i (some (.ref a)) = σ:=by
  apply List.ext_getElem?
  intro j
  by_cases hj:j = i
  ·subst hj
   have hl:j < σ.length:=(List.getElem?_eq_some_iff.mp ev).1
   rw [List.getElem?_set_self hl,ev]
  ·rw [List.getElem?_set_ne (Ne.symm hj)]
 rw [es] at this
 exact this

/-! ### targets -/
noncomputable abbrev GD:=D → DE → Option DE
noncomputable def PGd (X:Cx) (tg:Expr) (g:GD):Prop:=∃ gv:TG,PG X tg gv ∧ ∀ (d:D) (v:V) (σ:St) (Δ Δ':DE) (M:DH) (H:Hp) (Q:St → Hp → Prop),SR X.K M H σ Δ → HR X.K M H → Rep X.K M H d v → g d Δ = some Δ' → (∀ σ',SR X.K M H σ' Δ' → Q σ' H) → gv v σ H Q
noncomputable def gdName (i:Nat):GD:=fun d Δ => some (Δ.set i (some d))
theorem g_name {i:Nat} {x:Str} (hN:X.N.Nodup) (hi:X.N[i]? = some x) (hx:Loc X.env.scope x) (hf:X.fn x = true ∨ X.env.scope.names.lookup x = some .local:=by first | exact .inl rfl | exact .inr rfl | assumption):PGd X (.Name x pos) (gdName i) :=
 ⟨gName i,pg_name hN hi hx hf,fun d v σ Δ Δ' M H Q sr hr rv e k => by cases e; exact k _ (sr.set i rv)⟩
noncomputable abbrev GDs:=List D → DE → Option DE
noncomputable def PGsd (X:Cx) (tgs:List Expr) (g:GDs):Prop:=∃ gv:TGs,PGs X tgs gv ∧ ∀ (ds:List D) (vs:List V) (σ:St) (Δ Δ':DE) (M:DH) (H:Hp) (Q:St → Hp → Prop),SR X.K M H σ Δ → HR X.K M H → RepL X.K M H ds vs → g ds Δ = some Δ' → (∀ σ',SR X.K M H σ' Δ' → Q σ' H) → gv vs σ H Q
noncomputable def gdNil:GDs:=fun ds Δ => match ds with | [] => some Δ | _ => none
noncomputable def gdCons (g:GD) (gs:GDs):GDs:=fun ds Δ => match ds with | [] => none | d :: r => (g d Δ).bind fun Δ1 => gs r Δ1
noncomputable def gdTup (g:GDs) (n:Nat):GD:=fun d Δ => match d with | .tup ds => if ds.length = n then g ds Δ else none | _ => none
theorem g_nil:PGsd X [] gdNil:=⟨gNil,pgs_nil,fun ds vs σ Δ Δ' M H Q sr hr rv e k => by
 cases ds with
 | nil => simp only [RepL] at rv; subst rv; cases e; exact ⟨rfl,k _ sr⟩
 | cons _ _ => cases e⟩
theorem g_cons {tg:Expr} {tgs:List Expr} {g:GD} {gs:GDs} (h1:PGd X tg g) (h2:PGsd X tgs gs)
  (hs:(assignEach (tg :: tgs) X.env).map (·.2) = assign tg X.env :: (assignEach tgs X.env).map (·.2):=by rfl):PGsd X (tg :: tgs) (gdCons g gs):=by
 obtain ⟨g1,p1,k1⟩:=h1
 obtain ⟨g2,p2,k2⟩:=h2
 refine ⟨gCons g1 g2,pgs_cons p1 p2 hs,fun ds vs σ Δ Δ' M H Q sr hr rv e k => ?_⟩
 cases ds with
 | nil => cases e
 | cons d r =>
  simp only [RepL] at rv
  obtain ⟨v,ws,rfl,h3,h4⟩:=rv
  simp only [gdCons] at e
  cases q:g d Δ with
  | none => rw [q] at e; cases e
  | some Δ1 =>
   rw [q] at e
   exact ⟨v,ws,rfl,k1 d v σ Δ Δ1 M H _ sr hr h3 q fun σ1 sr1 => k2 r ws σ1 Δ1 Δ' M H Q sr1 hr h4 e k⟩
theorem g_tup {tgs:List Expr} {kx:Nat} {g:GDs} {n:Nat} (hc:X.calm = true) (h:PGsd X tgs g) (hn:(assignEach tgs X.env).length = n:=by rfl) (hst:(assignEach tgs X.env).findIdx? (·.1) = none:=by rfl):PGd X (.Tuple tgs kx pos) (gdTup g n):=by
 obtain ⟨g1,p1,k1⟩:=h
 refine ⟨gTup X.K n g1,pg_tup hc p1 hn hst,fun d v σ Δ Δ' M H Q sr hr rv e k => ?_⟩
 cases d with
 | tup ds =>
  simp only [gdTup] at e
  by_cases hl:ds.length = n
  ·rw [if_pos hl] at e
   simp only [Rep] at rv
   obtain ⟨a,vs,rfl,ta,rl⟩:=rv
   exact ⟨a,vs,rfl,ta.sq,by rw [← rl.length]; exact hl,k1 ds vs σ Δ Δ' M H Q sr hr rl e k⟩
  ·rw [if_neg hl] at e; cases e
 | _ => cases e
noncomputable def dAsg (te:TEd) (g:GD):TSd:=fun E Δ M => te Δ M fun d M1 => ∃ Δ',g d Δ = some Δ' ∧ E.nx Δ' M1
theorem d_asg {tg:Expr} {g:GD} (he:PEd X e te) (hg:PGd X tg g) (hs:swapsWithSole [tg] e pos.line X.env = pure false:=by rfl) (hw:swappedStores [tg] e X.env = pure none:=by rfl)
  (h1:(assignEach [tg] X.env).map (·.2) = [assign tg X.env]:=by rfl):PSd X (.Assign [tg] e pos) (dAsg te g):=by
 obtain ⟨gv,pg,kg⟩:=hg
 exact (ps_asg he pg hs hw h1).conv fun D σ H ⟨Δ,M,E,sr,hr,q,k⟩ => ⟨Δ,M,_,sr,hr,q,fun d M1 v H1 ⟨Δ',eg,q1⟩ e1 hr1 rv => kg d v σ Δ Δ' M1 H1 _ (sr.ext e1) hr1 rv eg fun σ' sr' => k.nx Δ' M1 σ' H1 q1 e1 hr1 sr'⟩

/-! ### what is walked -/
noncomputable abbrev TId:=DE → DH → (List D → DH → Prop) → Prop
noncomputable def ItD (K:PySem.W.Frag) (J:It) (ds:List D) (M1:DH) (H1:Hp):Prop:=∀ M2 H2,Ext M1 H1 M2 H2 → HR K M2 H2 → ∀ i,(∀ d,ds[i]? = some d → J.go i H2 ∧ ∀ x H',J.yld i H2 x H' → Ext M2 H2 M2 H' ∧ HR K M2 H' ∧ Rep K M2 H' d x) ∧ (ds.length ≤ i → J.stop i H2)
noncomputable def upI (K:PySem.W.Frag) (wi:TId):TI:=fun σ H R => ∃ (Δ:DE) (M:DH) (R':List D → DH → Prop),SR K M H σ Δ ∧ HR K M H ∧ wi Δ M R' ∧ ∀ ds M1 J H1,R' ds M1 → Ext M H M1 H1 → HR K M1 H1 → ItD K J ds M1 H1 → R J H1
noncomputable def PId (X:Cx) (tg iter:Expr) (wi:TId):Prop:=PI X tg iter (upI X.K wi)
theorem PI.conv {tg iter:Expr} {w w':TI} (h:PI X tg iter w) (k:∀ σ H R,w' σ H R → w σ H R):PI X tg iter w':=fun p s σ H R I q => h p s σ H R I (k σ H R q)
variable {tg iter:Expr}
noncomputable def rngD (lo:Int) (n:Nat):List D:=(List.range n).map fun (k:Nat) => .int (lo + (k:Int))
theorem rngD_get {lo:Int} {n i:Nat} {d:D} (h:(rngD lo n)[i]? = some d):i < n ∧ d = .int (lo + i):=by
 unfold rngD at h
 rw [List.getElem?_map] at h
 by_cases hi:i < n
 ·rw [List.getElem?_range hi] at h; cases h; exact ⟨hi,rfl⟩
 ·rw [List.getElem?_eq_none (by simp; omega)] at h; cases h
theorem rngD_it {K:PySem.W.Frag} {lo:Int} {n:Nat} {M1:DH} {H1:Hp}:ItD K (Itr lo n) (rngD lo n) M1 H1:=fun M2 H2 e2 hr2 i => ⟨fun d hd => by
  obtain ⟨h1,rfl⟩:=rngD_get hd
  refine ⟨h1,fun x H' ⟨eH,y⟩ => ?_⟩
  subst eH; subst y
  exact ⟨Ext.refl _ _,hr2,by simp [Rep]⟩,fun hl => by
  show n ≤ i
  simpa [rngD] using hl⟩
noncomputable def diRng1 (ta:TAd):TId:=fun Δ M R => ta Δ M fun ds M1 => ∃ j:Int,ds = [.int j] ∧ -(2 ^ 62) ≤ j ∧ j < 2 ^ 62 ∧ R (rngD 0 j.toNat) M1
theorem i_rng1 {ta:TAd} {p:Pos} (hg:Gl X "range") (hm:X.mg "range" = none) (ha:PAd X [a] ta) (hs:starEach [a] X.env = [(false,eval a X.env)]:=by rfl):PId X tg (.Call (.Name "range" p) [a] [] pos) (diRng1 ta) :=
 (pi_range1 hg hm ha hs).conv fun σ H R ⟨Δ,M,R',sr,hr,q,k⟩ => ⟨Δ,M,_,sr,hr,q,fun ds M1 vs H1 ⟨j,ed,h1,h2,q1⟩ e1 hr1 rv => by
  subst ed
  obtain ⟨v,ev,rv1⟩:=rv.one
  have ev1:v = .int j:=by simpa only [Rep] using rv1
  subst ev1; subst ev
  exact ⟨j,rfl,h1,h2,k _ M1 _ H1 q1 e1 hr1 rngD_it⟩⟩

/-! ### for -/
noncomputable def forRun (g:GD) (tb:TSd) (E:EndsD):List D → DE → DH → Prop
 | [],Δ,M => E.nx Δ M
 | d :: ds,Δ,M => ∃ Δ',g d Δ = some Δ' ∧ tb { E with nx:=forRun g tb E ds,ct:=forRun g tb E ds,bk:=E.nx } Δ' M
noncomputable def dFor (wi:TId) (g:GD) (tb:TSd):TSd:=fun E Δ M => wi Δ M fun ds M1 => forRun g tb E ds Δ M1
theorem d_for {body:List Stmt} {wi:TId} {g:GD} {tb:TSd} (hp:PassesOwn (model X.prog X.w) X.A X.env X.xe) (hc:X.calm = true) (hi:PId X tg iter wi) (hg:PGd X tg g) (hb:PSsd X body tb)
  (hs:∀ x,foldedSetIterable iter X.env x = pure x:=by intro _; rfl):PSd X (.For tg iter body [] pos) (dFor wi g tb):=by
 obtain ⟨gv,pg,kg⟩:=hg
 refine (ps_for hp hc hi pg hb hs).conv fun D σ H hh => ?_
 obtain ⟨Δ,M,E,sr,hr,q,k⟩:=hh
 refine ⟨Δ,M,_,sr,hr,q,fun ds M1 J H1 q1 e1 hr1 it => ?_⟩
 refine ⟨fun i m σ' H' => ∃ Δ' M',m = ds.length - i ∧ i ≤ ds.length ∧ Ext M1 H1 M' H' ∧ HR X.K M' H' ∧ SR X.K M' H' σ' Δ' ∧ forRun g tb E (ds.drop i) Δ' M',⟨ds.length,Δ,M1,by simp,Nat.zero_le _,Ext.refl _ _,hr1,sr.ext e1,q1⟩,?_⟩
 rintro i m σ2 H2 ⟨Δ2,M2,rfl,hi2,e2,hr2,sr2,f2⟩
 obtain ⟨go,stop⟩:=it M2 H2 e2 hr2 i
 by_cases hlt:i < ds.length
 ·have hd:ds[i]? = some ds[i]:=by simp [hlt]
  obtain ⟨g1,y1⟩:=go _ hd
  rw [List.drop_eq_getElem_cons hlt] at f2
  simp only [forRun] at f2
  obtain ⟨Δ3,eg,f3⟩:=f2
  refine .inr ⟨g1,fun σ' H' => ∃ m',m' < ds.length - i ∧ ∃ Δ' M',m' = ds.length - (i + 1) ∧ i + 1 ≤ ds.length ∧ Ext M1 H1 M' H' ∧ HR X.K M' H' ∧ SR X.K M' H' σ' Δ' ∧ forRun g tb E (ds.drop (i + 1)) Δ' M',fun σ' H' z => z,fun x H' hy => ?_⟩
  obtain ⟨e3,hr3,rx⟩:=y1 x H' hy
  refine kg _ x σ2 Δ2 Δ3 M2 H' _ (sr2.ext e3) hr3 rx eg fun σ3 sr3 => ?_
  refine ⟨Δ3,M2,_,sr3,hr3,f3,⟨fun Δ' M' σ' H'' q' e' hr' sr' => ?_,fun Δ' M' σ' H'' q' e' hr' sr' => ?_,fun Δ' M' σ' H'' q' e' hr' sr' => ?_,fun d M' v H'' q' e' hr' rv' => ?_⟩⟩
  ·exact ⟨_,by omega,Δ',M',rfl,hlt,(e2.trans e3).trans e',hr',sr',q'⟩
  ·exact k.nx Δ' M' σ' H'' q' (((e1.trans e2).trans e3).trans e') hr' sr'
  ·exact ⟨_,by omega,Δ',M',rfl,hlt,(e2.trans e3).trans e',hr',sr',q'⟩
  ·exact k.rt d M' v H'' q' (((e1.trans e2).trans e3).trans e') hr' rv'
 ·rw [List.drop_eq_nil_of_le (by omega)] at f2
  exact .inl ⟨stop (by omega),k.nx Δ2 M2 σ2 H2 f2 (e1.trans e2) hr2 sr2⟩
/-! ### while -/
noncomputable def dWhile (c:TTd) (tb:TSd):TSd:=fun E Δ M => ∃ W:Nat → DE → DH → Prop,(∃ m,W m Δ M) ∧ ∀ m Δ M,W m Δ M → c Δ M fun b M1 => if b = true then tb { E with nx:=fun Δ' M' => ∃ m',m' < m ∧ W m' Δ' M',ct:=fun Δ' M' => ∃ m',m' < m ∧ W m' Δ' M',bk:=E.nx } Δ M1 else E.nx Δ M1
theorem d_while {body:List Stmt} {tc:TTd} {tb:TSd} (hp:PassesOwn (model X.prog X.w) X.A X.env X.xe) (hc:PTd X c tc) (hb:PSsd X body tb):PSd X (.While c body [] pos) (dWhile tc tb):=by
 refine (ps_while hp hc hb).conv fun D σ H hh => ?_
 obtain ⟨Δ,M,E,sr,hr,⟨W,⟨m0,w0⟩,turn⟩,k⟩:=hh
 refine ⟨fun m σ' H' => ∃ Δ' M',Ext M H M' H' ∧ HR X.K M' H' ∧ SR X.K M' H' σ' Δ' ∧ W m Δ' M',⟨m0,Δ,M,Ext.refl _ _,hr,sr,w0⟩,?_⟩
 rintro m σ1 H1 ⟨Δ1,M1,e1,hr1,sr1,w1⟩
 refine ⟨Δ1,M1,_,sr1,hr1,turn m Δ1 M1 w1,fun b M2 H2 q2 e2 hr2 => ?_⟩
 cases b with
 | true =>
  simp only [if_true] at q2 ⊢
  refine ⟨fun σ' H' => ∃ m',m' < m ∧ ∃ Δ' M',Ext M H M' H' ∧ HR X.K M' H' ∧ SR X.K M' H' σ' Δ' ∧ W m' Δ' M',fun σ' H' z => z,Δ1,M2,_,sr1.ext e2,hr2,q2,⟨fun Δ' M' σ' H'' ⟨m',hm,w'⟩ e' hr' sr' => ?_,fun Δ' M' σ' H'' q' e' hr' sr' => ?_,fun Δ' M' σ' H'' ⟨m',hm,w'⟩ e' hr' sr' => ?_,fun d M' v H'' q' e' hr' rv' => ?_⟩⟩
  ·exact ⟨m',hm,Δ',M',(e1.trans e2).trans e',hr',sr',w'⟩
  ·exact k.nx Δ' M' σ' H'' q' ((e1.trans e2).trans e') hr' sr'
  ·exact ⟨m',hm,Δ',M',(e1.trans e2).trans e',hr',sr',w'⟩
  ·exact k.rt d M' v H'' q' ((e1.trans e2).trans e') hr' rv'
 | false =>
  simp only [Bool.false_eq_true,if_false] at q2 ⊢
  exact k.nx Δ1 M2 σ1 H2 q2 (e1.trans e2) hr2 (sr1.ext e2)
end
end L2

set_option Elab.async false
set_option linter.all false
set_option maxRecDepth 100000
namespace L2
open PySem PySem.Spec PyProof.Rows
noncomputable def lenOk:D → Prop
 | .tup ds => ds.length ≤ sizeLine
 | .lst ds => ds.length ≤ sizeLine
 | .scr ds => ds.length ≤ sizeLine
 | _ => True
section
variable {X:Cx} {a b c e:Expr} {es:List Expr} {te ta tb:TEd} {pos:Pos} {tg iter elt:Expr}
theorem RepR.len {K:PySem.W.Frag} {pins:List (Addr × Obj)} {σ:St} {H:Hp} {s:Shared} {M:DH} {d:D} {v:V} (I:Inv X pins σ H s) (h:Rep X.K M H d v):lenOk d:=by
 cases d with
 | tup ds =>
  simp only [Rep] at h; obtain ⟨a,vs,e,t,r⟩:=h
  obtain ⟨_,_,_,z⟩:=I.tuple t.sq
  simp only [lenOk]; rw [r.length]; exact z
 | lst ds =>
  simp only [Rep] at h; obtain ⟨a,vs,e,t,r⟩:=h
  obtain ⟨_,_,_,z⟩:=I.list (SqL.of t.1)
  simp only [lenOk]; rw [r.length]; exact z
 | scr ds =>
  simp only [Rep] at h; obtain ⟨a,vs,e,t,r⟩:=h
  obtain ⟨_,_,_,z⟩:=I.list t.sq
  simp only [lenOk]; rw [r.length]; exact z
 | _ => trivial

/-! ### comprehensions -/
noncomputable def maskD:List Bool → DE → DE
 | true :: ms,v :: σ => v :: maskD ms σ
 | false :: ms,_ :: σ => none :: maskD ms σ
 | [],_ :: σ => none :: maskD [] σ
 | _,[] => []
noncomputable def compD (ms:List Bool) (k:Nat) (Δ:DE):DE:=maskD ms Δ ++ List.replicate k none
theorem maskD_length:∀ (ms:List Bool) (σ:DE),(maskD ms σ).length = σ.length
 | true :: ms,v :: σ => by simp [maskD,maskD_length ms σ]
 | false :: ms,_ :: σ => by simp [maskD,maskD_length ms σ]
 | [],_ :: σ => by simp [maskD,maskD_length [] σ]
 | [],[] => by simp [maskD]
 | true :: _,[] => by simp [maskD]
 | false :: _,[] => by simp [maskD]
theorem maskD_get:∀ {ms:List Bool} {σ:DE} {i:Nat} {v:D},(maskD ms σ)[i]? = some (some v) → ms[i]? = some true ∧ σ[i]? = some (some v)
 | true :: ms,v :: σ,0,x,h => by simpa [maskD] using h
 | true :: ms,v :: σ,i + 1,x,h => by
  have:=maskD_get (ms:=ms) (σ:=σ) (i:=i) (v:=x) (by simpa [maskD] using h)
  simpa using this
 | false :: ms,_ :: σ,0,x,h => by simp [maskD] at h
 | false :: ms,_ :: σ,i + 1,x,h => by
  have:=maskD_get (ms:=ms) (σ:=σ) (i:=i) (v:=x) (by simpa [maskD] using h)
  simpa using this
 | [],_ :: σ,0,x,h => by simp [maskD] at h
 | [],_ :: σ,i + 1,x,h => by
  have:=maskD_get (ms:=[]) (σ:=σ) (i:=i) (v:=x) (by simpa [maskD] using h)
  simpa using this
 | [],[],_,_,h => by simp [maskD] at h
 | true :: _,[],_,_,h => by simp [maskD] at h
 | false :: _,[],_,_,h => by simp [maskD] at h
theorem maskS_get':∀ {ms:List Bool} {σ:St} {i:Nat} {v:V},ms[i]? = some true → σ[i]? = some (some v) → (maskS ms σ)[i]? = some (some v)
 | true :: ms,v :: σ,0,x,h,h2 => by simpa [maskS] using h2
 | true :: ms,v :: σ,i + 1,x,h,h2 => by
  have:=maskS_get' (ms:=ms) (σ:=σ) (i:=i) (v:=x) (by simpa using h) (by simpa using h2)
  simpa [maskS] using this
 | false :: ms,_ :: σ,0,x,h,h2 => by simp at h
 | false :: ms,_ :: σ,i + 1,x,h,h2 => by
  have:=maskS_get' (ms:=ms) (σ:=σ) (i:=i) (v:=x) (by simpa using h) (by simpa using h2)
  simpa [maskS] using this
 | [],_,_,_,h,_ => by simp at h
 | _ :: _,[],_,_,_,h => by simp at h
theorem SR.comp {K:PySem.W.Frag} {M:DH} {H:Hp} {σ:St} {Δ:DE} (ms:List Bool) (k:Nat) (h:SR K M H σ Δ):SR K M H (compS ms k σ) (compD ms k Δ):=by
 refine ⟨by simp [compS,compD,maskS_length,maskD_length,h.1],fun i d q => ?_⟩
 unfold compD at q
 by_cases hi:i < (maskD ms Δ).length
 ·rw [List.getElem?_append_left hi] at q
  obtain ⟨m,e⟩:=maskD_get q
  obtain ⟨v,ev,rv⟩:=h.2 i d e
  refine ⟨v,?_,rv⟩
  have:=maskS_get' m ev
  unfold compS
  rw [List.getElem?_append_left (by rw [maskS_length,h.1,← maskD_length ms]; exact hi)]
  exact this
 ·rw [List.getElem?_append_right (by omega),List.getElem?_replicate] at q
  split at q <;> cases q
noncomputable def lcRun (g:GD) (tc:TTd) (te:TEd):List D → DE → DH → List D → (List D → DH → Prop) → Prop
 | [],_,M,acc,Q => Q acc M
 | d :: ds,Δ,M,acc,Q => ∃ Δ',g d Δ = some Δ' ∧ tc Δ' M fun b M1 => if b = true then te Δ' M1 fun y M2 => lcRun g tc te ds Δ' M2 (acc ++ [y]) Q else lcRun g tc te ds Δ' M1 acc Q
noncomputable def dLc (ms:List Bool) (k:Nat) (wi:TId) (g:GD) (tc:TTd) (te:TEd):TEd:=fun Δ M Q => wi Δ M fun ds M1 => ds.length ≤ sizeLine ∧ lcRun g tc te ds (compD ms k Δ) M1 [] fun ys M2 => Q (.lst ys) M2
noncomputable def PIfd (X:Cx) (ifs:List Expr) (t:TTd):Prop:=PIf X ifs (upT X.K t)
noncomputable def dYes:TTd:=fun _ M Q => Q true M
theorem i_nil:PIfd X [] dYes:=fun pins s σ H Q I ⟨Δ,M,R,sr,hr,q,k⟩ => pif_nil pins s σ H Q I (k true M H q (Ext.refl _ _) hr)
theorem i_one {tc:TTd} (h:PTd X c tc):PIfd X [c] tc:=pif_one h
theorem lc_conv {K:PySem.W.Frag} {wi:TId} {g:GD} {tc:TTd} {te:TEd} {gv:TG} {ms:List Bool} {kk:Nat}
  (kg:∀ (d:D) (v:V) (σ:St) (Δ Δ':DE) (M:DH) (H:Hp) (Q:St → Hp → Prop),SR K M H σ Δ → HR K M H → Rep K M H d v → g d Δ = some Δ' → (∀ σ',SR K M H σ' Δ' → Q σ' H) → gv v σ H Q) :
  ∀ σ H Q,up K (dLc ms kk wi g tc te) σ H Q → tLc ms kk (upI K wi) gv (upT K tc) (up K te) σ H Q:=by
 rintro σ H Q ⟨Δ,M,R,sr,hr,q,k⟩
 refine ⟨Δ,M,_,sr,hr,q,fun ds M1 J H1 ⟨hz,q1⟩ e1 hr1 it => ?_⟩
 refine ⟨fun i m ys σ' H' => ∃ Δ' M' acc,m = ds.length - i ∧ i ≤ ds.length ∧ Ext M1 H1 M' H' ∧ HR K M' H' ∧ SR K M' H' σ' Δ' ∧ RepL K M' H' acc ys ∧ acc.length ≤ i ∧ lcRun g tc te (ds.drop i) Δ' M' acc fun ys M2 => R (.lst ys) M2,
  fun ys H' => ∃ M' acc,Ext M1 H1 M' H' ∧ HR K M' H' ∧ RepL K M' H' acc ys ∧ R (.lst acc) M',⟨ds.length,_,M1,[],by simp,Nat.zero_le _,Ext.refl _ _,hr1,(sr.ext e1).comp ms kk,RepL.nil,by simp,q1⟩,?_,?_⟩
 ·rintro i m ys σ2 H2 ⟨Δ2,M2,acc,rfl,hi2,e2,hr2,sr2,ra,la,f2⟩
  have hl:ys.length ≤ sizeLine:=by rw [← ra.length]; omega
  refine ⟨hl,?_⟩
  obtain ⟨go,stop⟩:=it M2 H2 e2 hr2 i
  by_cases hlt:i < ds.length
  ·have hd:ds[i]? = some ds[i]:=by simp [hlt]
   obtain ⟨g1,y1⟩:=go _ hd
   rw [List.drop_eq_getElem_cons hlt] at f2
   simp only [lcRun] at f2
   obtain ⟨Δ3,eg,f3⟩:=f2
   refine .inr ⟨g1,fun x H' hy => ?_⟩
   obtain ⟨e3,hr3,rx⟩:=y1 x H' hy
   refine kg _ x σ2 Δ2 Δ3 M2 H' _ (sr2.ext e3) hr3 rx eg fun σ3 sr3 => ?_
   refine ⟨Δ3,M2,_,sr3,hr3,f3,fun b M4 H4 q4 e4 hr4 => ?_⟩
   cases b with
   | true =>
    simp only [if_true] at q4 ⊢
    refine ⟨Δ3,M4,_,sr3.ext e4,hr4,q4,fun y M5 v5 H5 q5 e5 hr5 rv5 => ?_⟩
    refine ⟨ds.length - (i + 1),by omega,Δ3,M5,acc ++ [y],rfl,hlt,((e2.trans e3).trans e4).trans e5,hr5,(sr3.ext e4).ext e5,(((ra.ext e3).ext e4).ext e5).append (RepL.cons rv5 RepL.nil),by simp; omega,q5⟩
   | false =>
    simp only [Bool.false_eq_true,if_false] at q4 ⊢
    exact ⟨ds.length - (i + 1),by omega,Δ3,M4,acc,rfl,hlt,(e2.trans e3).trans e4,hr4,sr3.ext e4,(ra.ext e3).ext e4,by omega,q4⟩
  ·rw [List.drop_eq_nil_of_le (by omega)] at f2
   exact .inl ⟨stop (by omega),M2,acc,e2,hr2,ra,f2⟩
 ·rintro ys H' p ⟨M',acc,e',hr',ra,q'⟩ hp
  refine k _ M' _ _ q' ((e1.trans e').trans (Ext.new hr' hp)) (hr'.new hp) ?_
  simp only [Rep]
  exact ⟨p,ys,rfl,⟨upd_same,hr'.fresh hp⟩,ra.ext (Ext.new hr' hp)⟩
variable {scope:Scope} {cl:List (Str × Addr)} {ms:List Bool} {extra:List Str} {ifs:List Expr}
noncomputable def PGa (X:Cx) (scope:Scope) (cl:List (Str × Addr)) (extra:List Str) (tg:Expr) (g:GD):Prop:=∃ gv:TG,(∀ C s H ex,PG (cxComp X scope cl (X.N ++ extra) C s H ex) tg gv) ∧ ∀ (d:D) (v:V) (σ:St) (Δ Δ':DE) (M:DH) (H:Hp) (Q:St → Hp → Prop),SR X.K M H σ Δ → HR X.K M H → Rep X.K M H d v → g d Δ = some Δ' → (∀ σ',SR X.K M H σ' Δ' → Q σ' H) → gv v σ H Q
theorem d_lc {wi:TId} {g:GD} {tc:TTd} {te:TEd} (S:CompSc X scope cl ms extra) (hcalm:X.calm = true) (hi:PId X tg iter wi) (hg:PGa X scope cl extra tg g)
  (hif:∀ C s H ex,PIfd (cxComp X scope cl (X.N ++ extra) C s H ex) ifs tc) (he:∀ C s H ex,PEd (cxComp X scope cl (X.N ++ extra) C s H ex) elt te)
  (hs:∀ x,foldedSetIterable iter X.env x = pure x:=by intro _; rfl):PEd X (.ListComp elt [⟨tg,iter,ifs,0⟩] scope pos) (dLc ms extra.length wi g tc te):=by
 obtain ⟨gv,pg,kg⟩:=hg
 exact (pe_lc (tc:=upT X.K tc) (te:=up X.K te) S hcalm hi pg hif he hs).conv (lc_conv kg)
theorem d_setLc {i:Nat} {x:Str} {spos pos':Pos} {wi:TId} {g:GD} {tc:TTd} {te:TEd} (hN:X.N.Nodup) (hix:X.N[i]? = some x) (hx:X.env.scope.names.lookup x = some .local)
  (hsw:swapsWith (.ListComp elt [⟨tg,iter,ifs,0⟩] scope pos) (some (.Name x pos')) spos.line X.env = pure true) (S:CompSc X scope cl ms extra) (hcalm:X.calm = true) (hi:PId X tg iter wi) (hg:PGa X scope cl extra tg g)
  (hif:∀ C s H ex,PIfd (cxComp X scope cl (X.N ++ extra) C s H ex) ifs tc) (he:∀ C s H ex,PEd (cxComp X scope cl (X.N ++ extra) C s H ex) elt te)
  (hs:∀ x,foldedSetIterable iter X.env x = pure x:=by intro _; rfl):PSd X (.Assign [.Name x pos'] (.ListComp elt [⟨tg,iter,ifs,0⟩] scope pos) spos) (dSet i (dLc ms extra.length wi g tc te)):=by
 obtain ⟨gv,pg,kg⟩:=hg
 refine (ps_setLc (tc:=upT X.K tc) (te:=up X.K te) hN hix hx hsw S hcalm hi pg hif he hs).conv fun D σ H hh => ?_
 obtain ⟨Δ,M,E,sr,hr,q,k⟩:=hh
 exact lc_conv kg σ H _ ⟨Δ,M,_,sr,hr,q,fun d M1 v H1 q1 e1 hr1 rv => k.nx _ M1 _ H1 q1 e1 hr1 ((sr.ext e1).set i rv)⟩
theorem ga_name {i:Nat} {x:Str} {pos:Pos} (hN:(X.N ++ extra).Nodup) (hi:(X.N ++ extra)[i]? = some x) (hx:(relabel scope X.env).names.lookup x = some .local):PGa X scope cl extra (.Name x pos) (gdName i) :=
 ⟨gName i,fun C s H ex => pg_name hN hi (.inl hx) (.inr hx),fun d v σ Δ Δ' M H Q sr hr rv e k => by cases e; exact k _ (sr.set i rv)⟩
end
end L2

set_option Elab.async false
set_option linter.all false
set_option maxRecDepth 100000
namespace L2
open PySem PySem.Spec PyProof.Rows
/-! ### a def's promise over deep data -/
noncomputable abbrev SpD:=List D → DH → (D → DH → Prop) → Prop
noncomputable def spD (K:PySem.W.Frag) (n:Nat) (S:SpD):Sp:=fun vs H Q _ => ∃ (ds:List D) (M:DH) (R:D → DH → Prop),ds.length = n ∧ RepL K M H ds vs ∧ HR K M H ∧ S ds M R ∧ ∀ d M' v H',R d M' → Ext M H M' H' → HR K M' H' → Rep K M' H' d v → Q v H'
theorem spD_len {K:PySem.W.Frag} {n:Nat} {S:SpD} {vs:List V} {H:Hp} {Q:VK} {E:XK} (h:spD K n S vs H Q E):vs.length = n:=by
 obtain ⟨ds,M,R,hl,r,_⟩:=h
 rw [← r.length]; exact hl
noncomputable def startD (N:List Str) (ds:List D):DE:=ds.map some ++ List.replicate (N.length - ds.length) none
theorem start_sr {K:PySem.W.Frag} {M:DH} {H:Hp} {N:List Str}:∀ {ds:List D} {vs:List V},RepL K M H ds vs → SR K M H (start N vs) (startD N ds):=by
 intro ds vs h
 have hl:=h.length
 refine ⟨by simp [start,startD,hl],fun i d q => ?_⟩
 unfold startD at q
 by_cases hi:i < ds.length
 ·rw [List.getElem?_append_left (by simpa using hi),List.getElem?_map] at q
  cases e:ds[i]? with
  | none => rw [e] at q; cases q
  | some d' =>
   rw [e] at q; cases q
   obtain ⟨v,gv,rv⟩:=h.get e
   refine ⟨v,?_,rv⟩
   unfold start
   rw [List.getElem?_append_left (by simp; omega),List.getElem?_map,gv]
   rfl
 ·rw [List.getElem?_append_right (by simpa using hi),List.getElem?_replicate] at q
  split at q <;> cases q
section
variable {P:Program} {w:World} {K:PySem.W.Frag} {mg:Str → Option Value} {base:Heap}
theorem Fun.okD {x qual:Str} {st:Stmt} {f:Addr} {fd:FuncData} {N ps:List Str} {k n:Nat} {S:SpD} (F:Fun K x qual st f fd) (hn:ps.length = n) (Sc:FnScope N ps (defScope st))
  (hbody:∀ (cdv:Value) (A:Around) (outer:List Env) (s:Shared) (H:Hp) (E:XK),Room k (A.deeper (envOfC qual (defScope st) s.heap.objs.size f cdv)) →
   ∃ t:TSd,PSsd (cxOf CX0 P w K mg base N qual (defScope st) f cdv A outer s H E).nox (defBody st) t ∧ ∀ ds M R,ds.length = n → S ds M R → t { nx:=fun _ M' => R .non M',rt:=R } (startD N ds) M):FnOk P w K mg base CX0 (k + 1) f fd ps (spD K n S):=by
 refine F.ok Sc (fun vs H Q E h => by rw [hn]; exact spD_len h) (fun cdv A outer s H vs Q E hr h => ?_)
 obtain ⟨t,ht,hq⟩:=hbody cdv A outer s H E hr
 obtain ⟨ds,M,R,hl,r,hrr,q,k'⟩:=h
 refine ⟨_,ht,startD N ds,M,_,start_sr r,hrr,hq ds M R hl q,⟨fun Δ' M' σ' H' q' e' hr' _ => k' .non M' .non H' q' e' hr' (by simp [Rep]),fun _ _ _ _ q' => False.elim q',fun _ _ _ _ q' => False.elim q',fun d M' v H' q' e' hr' rv => k' d M' v H' q' e' hr' rv⟩⟩
end
section
variable {X:Cx} {a b c e:Expr} {es:List Expr} {te ta tb:TEd} {t:TAd} {pos:Pos}
noncomputable def dCall (n:Nat) (S:SpD) (t:TAd):TEd:=fun Δ M Q => t Δ M fun ds M1 => ds.length = n ∧ S ds M1 Q
theorem d_call {k:Nat} {f:Addr} {fd:FuncData} {ps:List Str} {n:Nat} {S:SpD} {x:Str} {p:Pos} (F:FnOk X.prog X.w X.K X.mg X.base CX0 k f fd ps (spD X.K n S)) (hr:Room k X.A) (hg:Gl X x) (hm:X.mg x = some (.ref f)) (hk:PySem.W.keepIn X.K (.ref f) = true) (hb:Binds X.K fd ps [])
  (ha:PAd X (e :: es) t) (hdb:(x == ("__debug__":Str)) = false:=by decide) (he:starEach (e :: es) X.env = (false,eval e X.env) :: starEach es X.env:=by rfl) (hpl:(backTo pos (starEach es X.env)).any (·.1) = false:=by rfl) :
  PEd X (.Call (.Name x p) (e :: es) [] pos) (dCall n S t) :=
 (pe_call F hr hg hm hk hb .nil pass0 ha hdb he hpl).conv fun σ H Q ⟨Δ,M,R,sr,hr,q,k⟩ => ⟨Δ,M,_,sr,hr,q,fun ds M1 vs H1 ⟨hl,q1⟩ e1 hr1 rv => by
  dsimp only; rw [List.append_nil]
  exact ⟨ds,M1,R,hl,rv,hr1,q1,fun d M' v H' q' e' hr' rv' => k d M' v H' q' (e1.trans e') hr' rv'⟩⟩
theorem d_call0 {k:Nat} {f:Addr} {fd:FuncData} {ps:List Str} {n:Nat} {S:SpD} {x:Str} {p:Pos} (F:FnOk X.prog X.w X.K X.mg X.base CX0 k f fd ps (spD X.K n S)) (hr:Room k X.A) (hg:Gl X x) (hm:X.mg x = some (.ref f)) (hk:PySem.W.keepIn X.K (.ref f) = true) (hb:Binds X.K fd ps [])
  (hdb:(x == ("__debug__":Str)) = false:=by decide):PEd X (.Call (.Name x p) [] [] pos) (dCall n S dNil) :=
 (pe_call0 F hr hg hm hk hb .nil pass0 hdb).conv fun σ H Q ⟨Δ,M,R,sr,hr,⟨hl,q⟩,k⟩ => ⟨[],M,R,hl,RepL.nil,hr,q,fun d M' v H' q' e' hr' rv' => k d M' v H' q' e' hr' rv'⟩

/-! ### cells of ours are written -/
noncomputable def dPut (to ti te:TEd):TSd:=fun E Δ M => te Δ M fun d M1 => to Δ M1 fun o M2 => ti Δ M2 fun i M3 => ∃ a ds k j,o = .ref a ∧ i = .int k ∧ M3 a = some (.lst ds) ∧ ixN ds.length k = some j ∧ E.nx Δ (updM M3 a (.lst (ds.set j d)))
theorem d_put {o i:Expr} {to ti:TEd} {p:Pos} (ho:PEd X o to) (hi:PEd X i ti) (he:PEd X e te)
  (ha:∀ v,assign (.Subscript o i p) X.env v = (do
   let ov ← holding [v] (eval o X.env)
   let iv ← holding [v,ov] (eval i X.env)
   standAt p
   holding [v,ov,iv] (setItem ov iv v)
   release [v,ov,iv] []):=by intro _; rfl) (hs:swapsWithSole [.Subscript o i p] e pos.line X.env = pure false:=by rfl) (hw:swappedStores [.Subscript o i p] e X.env = pure none:=by rfl)
  (h1:(assignEach [.Subscript o i p] X.env).map (·.2) = [assign (.Subscript o i p) X.env]:=by rfl):PSd X (.Assign [.Subscript o i p] e pos) (dPut to ti te) :=
 (ps_asg he (pg_sub ho hi set_list ha) hs hw h1).conv fun D σ H ⟨Δ,M,E,sr,hr,q,k⟩ => ⟨Δ,M,_,sr,hr,q,fun d M1 v H1 q1 e1 hr1 rv => ⟨Δ,M1,_,sr.ext e1,hr1,q1,fun o M2 ov H2 q2 e2 hr2 ro => ⟨Δ,M2,_,(sr.ext e1).ext e2,hr2,q2,fun i M3 iv H3 ⟨a,ds,kk,j,eo,ei,em,ej,q3⟩ e3 hr3 ri => by
  subst eo; subst ei
  simp only [Rep] at ro ri
  subst ro; subst ri
  obtain ⟨vs,hv,rl⟩:=hr3 a _ em
  refine ⟨a,vs,kk,j,rfl,rfl,hv,by rw [← rl.length]; exact ej,?_⟩
  exact k.nx Δ _ σ _ q3 (((e1.trans e2).trans e3).trans (Ext.write em)) (hr3.write em (rl.set j ((rv.ext e2).ext e3))) ((((sr.ext e1).ext e2).ext e3).ext (Ext.write em))⟩⟩⟩
noncomputable def dApp (to te:TEd):TEd:=fun Δ M Q => to Δ M fun o M1 => ∃ a l,o = .ref a ∧ M1 a = some (.lst l) ∧ te Δ M1 fun d M2 => ∃ ds,M2 a = some (.lst ds) ∧ ds.length < sizeLine ∧ Q .non (updM M2 a (.lst (ds ++ [d])))
theorem d_app {o:Expr} {to:TEd} {apos cpos:Pos} (ho:PEd X o to) (he:PEd X e te) (hbase:attributeBase o "append" X.env (eval o X.env) = eval o X.env:=by rfl)
  (hse:starEach [e] X.env = (false,eval e X.env) :: starEach [] X.env:=by rfl)
  (hfew:((backTo cpos (starEach [e] X.env)).all (fun x => !x.1) && (backToKw cpos (keywordEach [] X.env)).all (fun x => x.1.isSome)
   && decide ([e].length + ([]:List Keyword).length + (if ([]:List Keyword).isEmpty then 0 else 1) < 30)) = true:=by rfl)
  (hline:(apos.endLine == cpos.line) = true:=by rfl) (hplain:(backTo cpos (starEach [] X.env)).any (·.1) = false:=by rfl):PEd X (.Call (.Attribute o "append" apos) [e] [] cpos) (dApp to te) :=
 (pe_bm PySem.F.plainAttrs_list PySem.F.slot_list_append PySem.F.type_list_append (show MtR X "list.append" rAppend from mt_append) ho (pa_cons he pa_nil hse) hbase hfew hline hse hplain).conv fun σ H Q ⟨Δ,M,R,sr,hr,q,k⟩ => ⟨Δ,M,_,sr,hr,q,fun o M1 ov H1 ⟨a,l,eo,em,q1⟩ e1 hr1 ro => by
  subst eo
  simp only [Rep] at ro
  subst ro
  obtain ⟨vs,hv,rl⟩:=hr1 a _ em
  refine ⟨.inl ⟨rfl,vs,SqL.of hv⟩,Δ,M1,_,sr.ext e1,hr1,q1,fun d M2 v H2 ⟨ds,em2,hz,q2⟩ e2 hr2 rv => ?_⟩
  obtain ⟨ws,hw,rl2⟩:=hr2 a _ em2
  refine ⟨a,ws,v,rfl,rfl,hw,by rw [← rl2.length]; exact hz,k _ _ _ _ q2 ((e1.trans e2).trans (Ext.write em2)) (hr2.write em2 (rl2.append (RepL.cons rv RepL.nil))) (by simp [Rep])⟩⟩
end
end L2

set_option Elab.async false
set_option linter.all false
set_option maxRecDepth 100000
namespace L2
open PySem PySem.Spec PyProof.Rows
/-! ### any source that the library walks,as a Turn -/
noncomputable def ItW (n:Nat) (Vp:Nat → V → Prop):It:=⟨fun i _ => i < n,fun i H x H' => H' = H ∧ Vp i x,fun i _ => n ≤ i⟩
theorem turn_walk {P:Program} {w:World} {K:PySem.W.Frag} {tg:Expr} {it:Addr} {n:Nat} {Pv:Nat → Value → Prop} {St:Nat → Heap → Prop} {ty:String} {Vp:Nat → V → Prop}
  (W:∀ A:Around,A.handled = none → Walks P w A it [it] [it] n Pv St) (ho:∀ i h,St i h → ∃ o,h.get? it = some o ∧ o.cls = .type ty ∧ ∃ vs,o.data = .fields vs)
  (hn:["enumerate","zip","dict_itemiterator","dict_reverseitemiterator","odict_iterator","itertools.zip_longest","itertools.pairwise"].contains ty = false)
  (hv:∀ i u,Pv i u → ∃ x,RelV x u ∧ Vp i x) (hself:∀ (A:Around) (i:Nat) (s:Shared) (Q:Value → Shared → Prop) (E:Value → Shared → Prop),St i s.heap → Q (.ref it) s → wpAny (model P w) A (pyIter (.ref it)) Q E s):Turn P w K tg (ItW n Vp) [it] it (fun i h => i ≤ n ∧ St i h) where
 mem:=by simp
 obj:=fun i h st b hb => by
  have e:b = it:=by simpa using hb
  subst e
  obtain ⟨o,e,c,vs,d⟩:=ho i h st.2
  exact ⟨o,e,fun v z => by rw [d] at z; cases z⟩
 keep:=fun i h h' st k => ⟨st.1,(W { handled:=none } rfl).frame i h h' st.2 k⟩
 item:=by
  intro X hP hw hK hc i pins s σ H E I hf st hg
  subst hP hw hK
  obtain ⟨f0,f1,f2,f3,f4,f5⟩:=hf it (by simp)
  refine (W X.A (I.ok.hd hc)).item i s _ _ hg st.2 fun v h' tk pv st' kk => ?_
  have I1:Inv X pins σ H { s with heap:=h',toks:=tk }:=I.turned (fun b o hb e => kk b o (by simpa using hb) e) f0 f1 f3 f4 f5
  obtain ⟨x,rx,vx⟩:=hv i v pv
  obtain ⟨o,e,c,vs,d⟩:=ho _ _ st'
  exact ⟨v,rfl,go_of (s:={ s with heap:=h',toks:=tk }) e c d hn ⟨x,H,I1,rx,⟨rfl,vx⟩,⟨hg,st'⟩,fun b hb => (hf b hb).1⟩⟩
 done:=by
  intro X hP hw hK hc i pins s σ H E I hf st hg
  subst hP hw hK
  obtain ⟨f0,f1,f2,f3,f4,f5⟩:=hf it (by simp)
  have e:i = n:=Nat.le_antisymm st.1 hg
  subst e
  exact (W X.A (I.ok.hd hc)).done s _ _ st.2 fun h' tk kk => ⟨rfl,I.turned (fun b o hb e => kk b o (by simpa using hb) e) f0 f1 f3 f4 f5⟩
 self:=fun A i s Q E st h => hself A i s Q E st.2 h
section
variable {X:Cx} {a b c e:Expr} {es:List Expr} {te ta tb:TEd} {t:TAd} {pos:Pos} {tg iter:Expr}
/-! ### a text's signs -/
noncomputable def signs (x:Str):List D:=x.cps.toList.map fun c => .str ⟨#[c]⟩
theorem str_pie {pins:List (Addr × Obj)} {σ:St} {H:Hp} {s:Shared} {x:Str} {t:Tok} {R:It → Hp → Prop} (I:Inv X pins σ H s) (ty:String) (hn:["enumerate","zip","dict_itemiterator","dict_reverseitemiterator","odict_iterator","itertools.zip_longest","itertools.pairwise"].contains ty = false)
  (W:∀ A:Around,A.handled = none → Walks X.prog X.w A s.heap.objs.size [s.heap.objs.size] [s.heap.objs.size] x.cps.size (SignAt x) (fun i h => h.IsStrIter s.heap.objs.size ty x t i))
  (hself:∀ (A:Around) (i:Nat) (s':Shared) (Q:Value → Shared → Prop) (E:Value → Shared → Prop),s'.heap.IsStrIter s.heap.objs.size ty x t i → Q (.ref s.heap.objs.size) s' → wpAny (model X.prog X.w) A (pyIter (.ref s.heap.objs.size)) Q E s')
  (q:R (ItW x.cps.size fun i v => ∃ c,x.cps[i]? = some c ∧ v = .str ⟨#[c]⟩) H):PIE X pins σ tg R (.ref s.heap.objs.size) { s with heap:=s.heap.push { cls:=.type ty,data:=.fields #[.str x t,.int 0 0] } }:=by
 have I1:Inv X pins σ H { s with heap:=s.heap.push { cls:=.type ty,data:=.fields #[.str x t,.int 0 0] } }:=I.kept (t':=s.toks) fun b o e => Heap.get?_push_of_some _ e
 refine ⟨s.heap.objs.size,[s.heap.objs.size],_,_,H,rfl,I1,turn_walk W (fun i h st => ?_) hn (fun i u ⟨c,t',e,ev⟩ => ⟨.str ⟨#[c]⟩,⟨t',ev⟩,c,e,rfl⟩) hself,⟨Nat.zero_le _,_,Heap.get?_push_size _ rfl,rfl,rfl⟩,fun b hb => ?_,q⟩
 ·obtain ⟨o,e,c,d⟩:=st
  exact ⟨o,e,c,_,d⟩
 ·have e:b = s.heap.objs.size:=by simpa using hb
  subst e
  exact I.fpOk (Nat.le_refl _) (I.hok.fresh (Nat.le_refl _))
end
end L2

set_option Elab.async false
set_option linter.all false
set_option maxRecDepth 100000
namespace L2
open PySem PySem.Spec PyProof.Rows
section
variable {X:Cx} {a b c e:Expr} {es:List Expr} {te ta tb:TEd} {t:TAd} {pos:Pos}
/-! ### == -/
noncomputable def eqF (x y:D):Option D:=if dLe x 60 = true ∧ dLe y 60 = true then some (.bl (eqD x y)) else none
theorem eqF_some {x y z:D} (h:eqF x y = some z):dLe x 60 = true ∧ dLe y 60 = true ∧ z = .bl (eqD x y):=by
 unfold eqF at h
 by_cases hc:dLe x 60 = true ∧ dLe y 60 = true
 ·rw [if_pos hc] at h; cases h; exact ⟨hc.1,hc.2,rfl⟩
 ·rw [if_neg hc] at h; cases h
theorem o_eq (hu:X.A.units + 64 < cLine):OpRd X (compareOp .Eq) eqF:=by
 intro pins s σ H M x y v u dx dy dz Q I hr rx ry r1 r2 e k
 obtain ⟨h1,h2,rfl⟩:=eqF_some e
 exact (eqAt_D I 60 (A:=X.A) (by omega) h1 h2 r1 r2 rx ry).2 X.prog X.w X.xe _ ⟨.bl (eqD dx dy),H,I,rfl,k _ H (Ext.refl _ _) hr (by simp [Rep])⟩

/-! ### in,not in: flat items -/
noncomputable def inD (neg:Bool) (x y:D):Option D:=match y with
 | .lst ds => if scalD x = true ∧ ds.all scalD = true then some (.bl (xor neg (ds.any fun d => eqD d x))) else none
 | .tup ds => if scalD x = true ∧ ds.all scalD = true then some (.bl (xor neg (ds.any fun d => eqD d x))) else none
 | _ => none
theorem scal_v {K:PySem.W.Frag} {M:DH} {H:Hp} {d:D} {v:V} (h:scalD d = true) (r:Rep K M H d v):v = toV d ∧ flatV v = true:=by
 cases d <;> first | (simp only [Rep] at r; subst r; exact ⟨rfl,rfl⟩) | cases h
theorem scal_eq {x y:D} (hx:scalD x = true) (hy:scalD y = true):eqV (toV x) (toV y) = eqD x y:=by
 cases x <;> cases y <;> first | (simp [scalD] at hx; done) | (simp [scalD] at hy; done) | (simp [toV,eqV,eqD]; done)
theorem any_scal {K:PySem.W.Frag} {M:DH} {H:Hp} {x:D} (hx:scalD x = true):∀ {ds:List D} {vs:List V},RepL K M H ds vs → ds.all scalD = true → vs.all flatV = true ∧ inV (toV x) vs = ds.any fun d => eqD d x
 | [],_,h,_ => by simp only [RepL] at h; subst h; simp [inV]
 | d :: ds,_,h,ha => by
  simp only [RepL] at h
  obtain ⟨v,ws,rfl,h3,h4⟩:=h
  rw [List.all_cons,Bool.and_eq_true] at ha
  obtain ⟨e1,e2⟩:=scal_v ha.1 h3
  obtain ⟨e3,e4⟩:=any_scal hx h4 ha.2
  subst e1
  refine ⟨by rw [List.all_cons,e2,e3]; rfl,?_⟩
  unfold inV at e4 ⊢
  rw [List.any_cons,List.any_cons,e4,scal_eq ha.1 hx]
theorem RepR.scal {K:PySem.W.Frag} {M:DH} {H:Hp} {d:D} {v:V} (h:scalD d = true) (r:RepR K M H d v):v = toV d ∧ flatV v = true:=by
 cases d <;> first | (simp only [RepR,Rep] at r; subst r; exact ⟨rfl,rfl⟩) | cases h
theorem o_in:OpRd X (compareOp .In) (inD false):=OpRd.of op_in_seq fun H M x y dx dy dz Q hr r1 r2 e q => by
 cases dy with
 | lst ds =>
  simp only [inD] at e
  by_cases hc:scalD dx = true ∧ ds.all scalD = true
  ·rw [if_pos hc] at e; cases e
   obtain ⟨l,vs,rfl,sq,rl⟩:=r2
   obtain ⟨e1,e2⟩:=RepR.scal hc.1 r1
   obtain ⟨e3,e4⟩:=any_scal hc.1 rl hc.2
   subst e1
   refine ⟨l,vs,rfl,.inl (SqL.of sq),e2,e3,q _ H (Ext.refl _ _) hr ?_⟩
   rw [e4]; simp [Rep]
  ·rw [if_neg hc] at e; cases e
 | tup ds =>
  simp only [inD] at e
  by_cases hc:scalD dx = true ∧ ds.all scalD = true
  ·rw [if_pos hc] at e; cases e
   obtain ⟨l,vs,rfl,sq,rl⟩:=r2
   obtain ⟨e1,e2⟩:=RepR.scal hc.1 r1
   obtain ⟨e3,e4⟩:=any_scal hc.1 rl hc.2
   subst e1
   refine ⟨l,vs,rfl,.inr sq,e2,e3,q _ H (Ext.refl _ _) hr ?_⟩
   rw [e4]; simp [Rep]
  ·rw [if_neg hc] at e; cases e
 | _ => cases e
theorem o_notin:OpRd X (compareOp .NotIn) (inD true):=OpRd.of op_notIn_seq fun H M x y dx dy dz Q hr r1 r2 e q => by
 cases dy with
 | lst ds =>
  simp only [inD] at e
  by_cases hc:scalD dx = true ∧ ds.all scalD = true
  ·rw [if_pos hc] at e; cases e
   obtain ⟨l,vs,rfl,sq,rl⟩:=r2
   obtain ⟨e1,e2⟩:=RepR.scal hc.1 r1
   obtain ⟨e3,e4⟩:=any_scal hc.1 rl hc.2
   subst e1
   refine ⟨l,vs,rfl,.inl (SqL.of sq),e2,e3,q _ H (Ext.refl _ _) hr ?_⟩
   rw [e4]; simp [Rep]
  ·rw [if_neg hc] at e; cases e
 | tup ds =>
  simp only [inD] at e
  by_cases hc:scalD dx = true ∧ ds.all scalD = true
  ·rw [if_pos hc] at e; cases e
   obtain ⟨l,vs,rfl,sq,rl⟩:=r2
   obtain ⟨e1,e2⟩:=RepR.scal hc.1 r1
   obtain ⟨e3,e4⟩:=any_scal hc.1 rl hc.2
   subst e1
   refine ⟨l,vs,rfl,.inr sq,e2,e3,q _ H (Ext.refl _ _) hr ?_⟩
   rw [e4]; simp [Rep]
  ·rw [if_neg hc] at e; cases e
 | _ => cases e

/-! ### len,abs,tuple,list -/
noncomputable def one1 (f:D → Option D):List D → Option D
 | [d] => f d
 | _ => none
theorem pair1 {K:PySem.W.Frag} {M:DH} {H:Hp} {d:D} {xs:List V} (h:Paired (RepR K M H) [d] xs):∃ v,xs = [v] ∧ RepR K M H d v:=by
 cases h with
 | cons r t => cases t; exact ⟨_,rfl,r⟩
theorem one1_some {f:D → Option D} {ds:List D} {z:D} (h:one1 f ds = some z):∃ d,ds = [d] ∧ f d = some z:=by
 match ds,h with
 | [d],h => exact ⟨d,rfl,h⟩
noncomputable def lenD:D → Option D
 | .tup ds => some (.int ds.length)
 | .lst ds => some (.int ds.length)
 | .scr ds => some (.int ds.length)
 | .str x => if x.length ≤ sizeLine then some (.int x.length) else none
 | _ => none
theorem c_len:CallRd X (.builtin "len") (one1 lenD):=CallRd.of (CallR.or call_len_seq call_len_str) fun H M xs ds dz Q hr rp e q => by
 obtain ⟨d,rfl,e0⟩:=one1_some e
 clear e
 have e:=e0
 clear e0
 obtain ⟨v,rfl,r⟩:=pair1 rp
 cases d with
 | tup ds => cases e; obtain ⟨l,vs,rfl,sq,rl⟩:=r; exact .inl ⟨l,vs,rfl,.inr sq,q _ H (Ext.refl _ _) hr (by rw [← rl.length]; simp [Rep])⟩
 | lst ds => cases e; obtain ⟨l,vs,rfl,sq,rl⟩:=r; exact .inl ⟨l,vs,rfl,.inl (SqL.of sq),q _ H (Ext.refl _ _) hr (by rw [← rl.length]; simp [Rep])⟩
 | scr ds => cases e; obtain ⟨l,vs,rfl,sq,rl⟩:=r; exact .inl ⟨l,vs,rfl,.inl sq,q _ H (Ext.refl _ _) hr (by rw [← rl.length]; simp [Rep])⟩
 | str x =>
  simp only [lenD] at e
  by_cases hz:x.length ≤ sizeLine
  ·rw [if_pos hz] at e; cases e
   exact .inr ⟨x,by rw [rStr r],hz,q _ H (Ext.refl _ _) hr (by simp [Rep])⟩
  ·rw [if_neg hz] at e; cases e
 | _ => cases e
noncomputable def absD:D → Option D
 | .int i => some (.int (if i < 0 then -i else i))
 | _ => none
noncomputable def tupD:D → Option D
 | .lst ds => some (.tup ds)
 | .tup ds => some (.tup ds)
 | _ => none
theorem c_tuple:CallRd X (.type "tuple") (one1 tupD):=CallRd.of call_tuple_of fun H M xs ds dz Q hr rp e q => by
 obtain ⟨d,rfl,e0⟩:=one1_some e
 clear e
 have e:=e0
 clear e0
 obtain ⟨v,rfl,r⟩:=pair1 rp
 cases d with
 | lst ds => cases e; obtain ⟨l,vs,rfl,sq,rl⟩:=r; exact ⟨l,vs,rfl,.inl ⟨SqL.of sq,fun p hp => freshT hr hp rl q⟩⟩
 | tup ds => cases e; have t1:=RepR.tup hr r; obtain ⟨l,vs,rfl,sq,rl⟩:=r; exact ⟨l,vs,rfl,.inr ⟨sq,q _ H (Ext.refl _ _) hr t1⟩⟩
 | _ => cases e
noncomputable def listD:D → Option D
 | .lst ds => some (.lst ds)
 | .scr ds => some (.lst ds)
 | .tup ds => some (.lst ds)
 | _ => none
theorem c_list:CallRd X (.type "list") (one1 listD):=CallRd.of call_list_of fun H M xs ds dz Q hr rp e q => by
 obtain ⟨d,rfl,e0⟩:=one1_some e
 clear e
 have e:=e0
 clear e0
 obtain ⟨v,rfl,r⟩:=pair1 rp
 cases d with
 | lst ds => cases e; obtain ⟨l,vs,rfl,sq,rl⟩:=r; exact ⟨l,vs,rfl,.inl (SqL.of sq),fun p hp => freshL hr hp rl q⟩
 | scr ds => cases e; obtain ⟨l,vs,rfl,sq,rl⟩:=r; exact ⟨l,vs,rfl,.inl sq,fun p hp => freshL hr hp rl q⟩
 | tup ds => cases e; obtain ⟨l,vs,rfl,sq,rl⟩:=r; exact ⟨l,vs,rfl,.inr sq,fun p hp => freshL hr hp rl q⟩
 | _ => cases e

/-! ### all,any of truths -/
noncomputable def isBl:D → Bool
 | .bl _ => true
 | _ => false
noncomputable def blOf:D → Bool
 | .bl b => b
 | _ => false
noncomputable def allD:D → Option D
 | .lst ds => if ds.all isBl = true then some (.bl (ds.all blOf)) else none
 | _ => none
noncomputable def anyD:D → Option D
 | .lst ds => if ds.all isBl = true then some (.bl (ds.any blOf)) else none
 | _ => none
theorem range_all {p:Nat → Bool} {q:D → Bool}:∀ {ds:List D},(∀ i d,ds[i]? = some d → p i = q d) → (List.range ds.length).all p = ds.all q:=by
 intro ds h
 rw [Bool.eq_iff_iff,List.all_eq_true,List.all_eq_true]
 constructor
 ·intro hh d hd
  obtain ⟨i,hi,e⟩:=List.mem_iff_getElem.mp hd
  rw [← h i d (by rw [List.getElem?_eq_getElem hi,e])]
  exact hh i (List.mem_range.mpr hi)
 ·intro hh i hi
  have hi:=List.mem_range.mp hi
  rw [h i ds[i] (by simp [hi])]
  exact hh _ (List.getElem_mem hi)
theorem range_any {p:Nat → Bool} {q:D → Bool}:∀ {ds:List D},(∀ i d,ds[i]? = some d → p i = q d) → (List.range ds.length).any p = ds.any q:=by
 intro ds h
 rw [Bool.eq_iff_iff,List.any_eq_true,List.any_eq_true]
 constructor
 ·rintro ⟨i,hi,hp⟩
  have hi:=List.mem_range.mp hi
  exact ⟨ds[i],List.getElem_mem hi,by rw [← h i ds[i] (by simp [hi])]; exact hp⟩
 ·rintro ⟨d,hd,hq⟩
  obtain ⟨i,hi,e⟩:=List.mem_iff_getElem.mp hd
  exact ⟨i,List.mem_range.mpr hi,by rw [h i d (by rw [List.getElem?_eq_getElem hi,e])]; exact hq⟩
theorem bools_at {K:PySem.W.Frag} {M:DH} {H:Hp} {ds:List D} {vs:List V} {us:List Value} (rl:RepL K M H ds vs) (rv:Vals vs us) (hb:ds.all isBl = true) {i:Nat} {u:Value} (h:us[i]? = some u):∃ d,ds[i]? = some d ∧ u = .bool (blOf d):=by
 have hi:i < ds.length:=by rw [rl.length,rv.length]; exact (List.getElem?_eq_some_iff.mp h).1
 obtain ⟨v,g,r⟩:=rl.get (i:=i) (d:=ds[i]) (by simp [hi])
 obtain ⟨u',g',r'⟩:=rv.get g
 rw [h] at g'; cases g'
 have hbi:=List.all_eq_true.mp hb ds[i] (List.getElem_mem hi)
 refine ⟨ds[i],by simp [hi],?_⟩
 cases q:ds[i] with
 | bl b => rw [q] at r; simp only [Rep] at r; subst r; exact r'
 | _ => rw [q] at hbi; cases hbi
theorem c_all (hc:X.calm = true):CallRd X (.builtin "all") (one1 allD):=by
 intro pins s σ H M xs us ds dz Q I hr rv rp e k
 obtain ⟨d,rfl,e0⟩:=one1_some e
 clear e
 have e:=e0
 clear e0
 obtain ⟨v,rfl,r⟩:=pair1 rp
 obtain ⟨u,rfl,ru⟩:=Vals.one rv
 cases d with
 | lst ds =>
  simp only [allD] at e
  by_cases hb:ds.all isBl = true
  ·rw [if_pos hb] at e; cases e
   obtain ⟨l,vs,rfl,sq,rl⟩:=r
   cases ru
   obtain ⟨its,rv,pl,hz⟩:=I.list (SqL.of sq)
   have hne:l ≠ s.heap.objs.size:=Nat.ne_of_lt (I.hok.lt sq)
   refine call_all_walk (wpAny_pyIter_list pl.isList ⟨s.heap.objs.size,[s.heap.objs.size,l],[s.heap.objs.size],its.toArray.size,_,_,fun i => (ds[i]?.map blOf).getD false,rfl,Walks.list (A:=X.A.in1) (show X.A.in1.handled = none from I.ok.hd hc) s.heap.objs.size l hne its.toArray,⟨⟨_,Heap.get?_push_size _ rfl,rfl,rfl⟩,?_⟩,fun i v s' Q' E' hv q => ?_,fun h' tk kk => ?_⟩)
   ·obtain ⟨o,e,c⟩:=pl.isList
    exact ⟨o,Heap.get?_push_of_some _ e,c⟩
   ·obtain ⟨d,hd,rfl⟩:=bools_at rl rv hb (i:=i) (u:=v) (by simpa using hv)
    dsimp only at q; rw [hd] at q
    exact wpAny_truthy_bool q
   ·have I1:Inv X pins σ H { s with heap:=h',toks:=tk }:=I.kept (t':=tk) fun b o e => kk b o (by simpa using Nat.ne_of_lt (Heap.lt_size e)) (Heap.get?_push_of_some _ e)
    refine ⟨.bl _,H,I1,rfl,k _ H (Ext.refl _ _) hr ?_⟩
    rw [List.size_toArray,← rv.length,← rl.length,range_all (q:=blOf) (fun i d hd => by simp [hd])]
    simp [Rep]
  ·rw [if_neg hb] at e; cases e
 | _ => cases e
theorem c_any (hc:X.calm = true):CallRd X (.builtin "any") (one1 anyD):=by
 intro pins s σ H M xs us ds dz Q I hr rv rp e k
 obtain ⟨d,rfl,e0⟩:=one1_some e
 clear e
 have e:=e0
 clear e0
 obtain ⟨v,rfl,r⟩:=pair1 rp
 obtain ⟨u,rfl,ru⟩:=Vals.one rv
 cases d with
 | lst ds =>
  simp only [anyD] at e
  by_cases hb:ds.all isBl = true
  ·rw [if_pos hb] at e; cases e
   obtain ⟨l,vs,rfl,sq,rl⟩:=r
   cases ru
   obtain ⟨its,rv,pl,hz⟩:=I.list (SqL.of sq)
   have hne:l ≠ s.heap.objs.size:=Nat.ne_of_lt (I.hok.lt sq)
   refine call_any_walk (wpAny_pyIter_list pl.isList ⟨s.heap.objs.size,[s.heap.objs.size,l],[s.heap.objs.size],its.toArray.size,_,_,fun i => (ds[i]?.map blOf).getD false,rfl,Walks.list (A:=X.A.in1) (show X.A.in1.handled = none from I.ok.hd hc) s.heap.objs.size l hne its.toArray,⟨⟨_,Heap.get?_push_size _ rfl,rfl,rfl⟩,?_⟩,fun i v s' Q' E' hv q => ?_,fun h' tk kk => ?_⟩)
   ·obtain ⟨o,e,c⟩:=pl.isList
    exact ⟨o,Heap.get?_push_of_some _ e,c⟩
   ·obtain ⟨d,hd,rfl⟩:=bools_at rl rv hb (i:=i) (u:=v) (by simpa using hv)
    dsimp only at q; rw [hd] at q
    exact wpAny_truthy_bool q
   ·have I1:Inv X pins σ H { s with heap:=h',toks:=tk }:=I.kept (t':=tk) fun b o e => kk b o (by simpa using Nat.ne_of_lt (Heap.lt_size e)) (Heap.get?_push_of_some _ e)
    refine ⟨.bl _,H,I1,rfl,k _ H (Ext.refl _ _) hr ?_⟩
    rw [List.size_toArray,← rv.length,← rl.length,range_any (q:=blOf) (fun i d hd => by simp [hd])]
    simp [Rep]
  ·rw [if_neg hb] at e; cases e
 | _ => cases e
end
end L2

set_option Elab.async false
set_option linter.all false
set_option maxRecDepth 100000
namespace L2
open PySem PySem.Spec PyProof.Rows
section
variable {X:Cx} {a b c e:Expr} {es:List Expr} {te ta tb:TEd} {t:TAd} {pos:Pos}
/-! ### isinstance -/
noncomputable def isiD (T:String):D → Option Bool
 | .non => some false
 | .bl _ => some (T == "bool" || T == "int")
 | .int _ => some (T == "int")
 | .str _ => some (T == "str")
 | .tup _ => some (T == "tuple")
 | .lst _ => some (T == "list")
 | .emp => some (T == "dict")
 | _ => none
noncomputable def okT (T:String):Bool:=T == "bool" || T == "int" || T == "str" || T == "tuple" || T == "list"
noncomputable def dIsi (T:String) (te:TEd):TEd:=fun Δ M Q => te Δ M fun d M1 => ∃ k,isiD T (rdM M1 d) = some k ∧ Q (.bl k) M1
theorem isi_call' {T:String} (hT:okT T = true) {pins:List (Addr × Obj)} {s:Shared} {σ:St} {H:Hp} {M:DH} {v:V} {u:Value} {d:D} {k:Bool} {Q:VK} (I:Inv X pins σ H s) (r:RelV v u) (rd:RepR X.K M H d v) (e:isiD T d = some k) (q:Q (.bl k) H) :
  wpAny (model X.prog X.w) X.A (call (.builtin "isinstance") [u,.type T]) (EP X pins σ Q) X.xe s:=by
 have fin:∀ {k'} ,k = k' → EP X pins σ Q (.bool k') s:=fun e => by subst e; exact ⟨.bl k,H,I,rfl,q⟩
 have fint:∀ {k'} ,k = k' → EP X pins σ Q (.bool k') { s with toks:=s.toks + 1 }:=fun e => by subst e; exact ⟨.bl k,H,I.tok _,rfl,q⟩
 have h5:T = "bool" ∨ T = "int" ∨ T = "str" ∨ T = "tuple" ∨ T = "list":=by
  simp [okT] at hT
  rcases hT with (((h | h) | h) | h) | h <;> simp [h]
 cases d with
 | non =>
  simp only [RepR,Rep] at rd; subst rd; simp only [RelV] at r; subst r; cases e
  rcases h5 with rfl | rfl | rfl | rfl | rfl
  ·exact IsiPair.NoneType_bool (fint rfl)
  ·exact IsiPair.NoneType_int (fint rfl)
  ·exact IsiPair.NoneType_str (fint rfl)
  ·exact IsiPair.NoneType_tuple (fint rfl)
  ·exact IsiPair.NoneType_list (fint rfl)
 | bl b =>
  simp only [RepR,Rep] at rd; subst rd; simp only [RelV] at r; subst r; cases e
  rcases h5 with rfl | rfl | rfl | rfl | rfl
  ·exact IsiPair.bool_bool (fin rfl)
  ·exact IsiPair.bool_int (fin rfl)
  ·exact IsiPair.bool_str (fint rfl)
  ·exact IsiPair.bool_tuple (fint rfl)
  ·exact IsiPair.bool_list (fint rfl)
 | int i =>
  simp only [RepR,Rep] at rd; subst rd; obtain ⟨t,rfl⟩:=r; cases e
  rcases h5 with rfl | rfl | rfl | rfl | rfl
  ·exact IsiPair.int_bool (fint rfl)
  ·exact IsiPair.int_int (fin rfl)
  ·exact IsiPair.int_str (fint rfl)
  ·exact IsiPair.int_tuple (fint rfl)
  ·exact IsiPair.int_list (fint rfl)
 | str x =>
  simp only [RepR,Rep] at rd; subst rd; obtain ⟨t,rfl⟩:=r; cases e
  rcases h5 with rfl | rfl | rfl | rfl | rfl
  ·exact IsiPair.str_bool (fint rfl)
  ·exact IsiPair.str_int (fint rfl)
  ·exact IsiPair.str_str (fin rfl)
  ·exact IsiPair.str_tuple (fint rfl)
  ·exact IsiPair.str_list (fint rfl)
 | tup ds =>
  obtain ⟨a,vs,rfl,sq,rl⟩:=rd
  cases r; cases e
  obtain ⟨its,rv,⟨o,ho,hc,_⟩,_⟩:=I.tuple sq
  rcases h5 with rfl | rfl | rfl | rfl | rfl
  ·exact IsiPair.tuple_bool ho hc (fint rfl)
  ·exact IsiPair.tuple_int ho hc (fint rfl)
  ·exact IsiPair.tuple_str ho hc (fint rfl)
  ·exact IsiPair.tuple_tuple ho hc (fin rfl)
  ·exact IsiPair.tuple_list ho hc (fint rfl)
 | lst ds =>
  obtain ⟨a,vs,rfl,sq,rl⟩:=rd
  cases r; cases e
  obtain ⟨its,rv,⟨o,n,ho,hc,_⟩,_⟩:=I.list (SqL.of sq)
  rcases h5 with rfl | rfl | rfl | rfl | rfl
  ·exact IsiPair.list_bool ho hc (fint rfl)
  ·exact IsiPair.list_int ho hc (fint rfl)
  ·exact IsiPair.list_str ho hc (fint rfl)
  ·exact IsiPair.list_tuple ho hc (fint rfl)
  ·exact IsiPair.list_list ho hc (fin rfl)
 | emp =>
  simp only [RepR,Rep] at rd
  obtain ⟨a,rfl,h1,_⟩:=rd
  cases r; cases e
  obtain ⟨_,_,_,_,o,es,ep,ho,ex,_⟩:=I.hok a _ h1
  rcases h5 with rfl | rfl | rfl | rfl | rfl
  ·exact IsiPair.dict_bool ho ex.1 (fint rfl)
  ·exact IsiPair.dict_int ho ex.1 (fint rfl)
  ·exact IsiPair.dict_str ho ex.1 (fint rfl)
  ·exact IsiPair.dict_tuple ho ex.1 (fint rfl)
  ·exact IsiPair.dict_list ho ex.1 (fint rfl)
 | _ => cases e
theorem d_isi {T:Str} {Tn:String} {p p2:Pos} (hT:okT Tn = true) (hg:Gl X "isinstance") (hm:X.mg "isinstance" = none) (hg2:Gl X T) (hm2:X.mg T = none) (hv2:bootBuiltins T = some (.type Tn)) (ha:PEd X a ta) (hn2:T ≠ "__name__":=by decide) (hd2:(T == ("__debug__":Str)) = false:=by decide)
  (hs:starEach [a,.Name T p2] X.env = (false,eval a X.env) :: starEach [.Name T p2] X.env:=by rfl) (hs2:starEach [.Name T p2] X.env = (false,eval (.Name T p2) X.env) :: starEach [] X.env:=by rfl) (hpl:(backTo pos (starEach [.Name T p2] X.env)).any (·.1) = false:=by rfl) :
  PEd X (.Call (.Name "isinstance" p) [a,.Name T p2] [] pos) (dIsi Tn ta):=by
 have hc:CallR X (.builtin "isinstance") (fun xs H Q => ∃ v d k M,xs = [v,.ty Tn] ∧ RepR X.K M H d v ∧ isiD Tn d = some k ∧ Q (.bl k) H):=by
  intro pins s σ H xs us Q I rv h
  obtain ⟨v,d,k,M,rfl,rd,ek,q⟩:=h
  obtain ⟨u1,u2,rfl,r1,r2⟩:=Vals.two rv
  cases r2
  exact isi_call' hT I r1 rd ek q
 refine (pe_callB hc hg hm (by kernel_rfl) (pa_cons ha (pa_cons (pe_bltn (v:=.ty Tn) hg2 hm2 hv2 rfl hn2 hd2) pa_nil hs2) hs) (by decide) (by decide) hs hpl).conv fun σ H Q hh => ?_
 obtain ⟨Δ,M,R,sr,hr,q,k⟩:=hh
 exact ⟨Δ,M,_,sr,hr,q,fun d M1 v H1 ⟨kk,ek,q1⟩ e1 hr1 rv => ⟨v,_,kk,M1,rfl,rv.rd hr1,ek,k _ M1 _ H1 q1 e1 hr1 (by simp [Rep])⟩⟩

/-! ### slices -/
noncomputable abbrev TOd:=DE → DH → (Option Int → DH → Prop) → Prop
noncomputable def upO (K:PySem.W.Frag) (t:TOd):TO:=fun σ H Q => ∃ (Δ:DE) (M:DH) (R:Option Int → DH → Prop),SR K M H σ Δ ∧ HR K M H ∧ t Δ M R ∧ ∀ i M' H',R i M' → Ext M H M' H' → HR K M' H' → Q i H'
noncomputable def POd (X:Cx) (e:Option Expr) (t:TOd):Prop:=PO X e (upO X.K t)
noncomputable def dNoPart:TOd:=fun _ M Q => Q none M
noncomputable def dPart (t:TEd):TOd:=fun Δ M Q => t Δ M fun d M1 => ∃ i,d = .int i ∧ Q (some i) M1
theorem PO.conv {e:Option Expr} {t t':TO} (h:PO X e t) (k:∀ σ H Q,t' σ H Q → t σ H Q):PO X e t':=fun p s σ H Q I q => h p s σ H Q I (k σ H Q q)
theorem od_none:POd X none dNoPart:=po_none.conv fun σ H Q ⟨Δ,M,R,sr,hr,q,k⟩ => k none M H q (Ext.refl _ _) hr
theorem od_some (h:PEd X e te):POd X (some e) (dPart te):=(po_some h).conv fun σ H Q ⟨Δ,M,R,sr,hr,q,k⟩ => ⟨Δ,M,_,sr,hr,q,fun d M1 v H1 ⟨i,ed,q1⟩ e1 hr1 rv => ⟨i,by subst ed; simpa only [Rep] using rv,k _ M1 H1 q1 e1 hr1⟩⟩
noncomputable def cutD (xs:List D) (lo hi:Option Int):List D:=(xs.drop (HT.sIx xs.length 0 lo)).take (HT.sIx xs.length xs.length hi - HT.sIx xs.length 0 lo)
noncomputable def slD:D → Option Int → Option Int → Option D
 | .lst ds,lo,hi => some (.lst (cutD ds lo hi))
 | .scr ds,lo,hi => some (.lst (cutD ds lo hi))
 | .str x,lo,hi => if x.length ≤ sizeLine then some (.str (Txt.slice x lo hi)) else none
 | .tup ds,lo,hi => if HT.sIx ds.length 0 lo = 0 ∧ HT.sIx ds.length ds.length hi = ds.length then none else some (.tup (cutD ds lo hi))
 | _,_,_ => none
noncomputable def rSlS:V → Option Int → Option Int → Hp → VK → Prop:=fun x lo hi H Q => ∃ z,x = .str z ∧ z.length ≤ sizeLine ∧ Q (.str (Txt.slice z lo hi)) H
theorem sl_str:SlR X rSlS:=by
 intro pins s σ H x v vl vu lo hi sl Q I rx hs pl pu h
 obtain ⟨z,rfl,hz,q⟩:=h
 obtain ⟨t,rfl⟩:=rx
 refine ⟨"str",_,PySem.F.slot_str_getitem.lookup,typeIs_str _ _ _,?_⟩
 have fin:∀ (t':Tok) (k:Nat),EP X pins σ Q (.str (Txt.slice z lo hi) t') { s with toks:=k }:=fun t' k => ⟨.str (Txt.slice z lo hi),H,I.tok _,⟨t',rfl⟩,q⟩
 cases pl with
 | none =>
  cases pu with
  | none => exact wpAny_getItem_str_slice (l:=none) (u:=none) (st:=none) hs rfl (post_val_or_str ⟨Nat.le_trans (Txt.slice_le z _ _) hz,fin⟩)
  | int j tj => exact wpAny_getItem_str_slice (l:=none) (u:=some (j,tj)) (st:=none) hs rfl (post_val_or_str ⟨Nat.le_trans (Txt.slice_le z _ _) hz,fin⟩)
 | int i ti =>
  cases pu with
  | none => exact wpAny_getItem_str_slice (l:=some (i,ti)) (u:=none) (st:=none) hs rfl (post_val_or_str ⟨Nat.le_trans (Txt.slice_le z _ _) hz,fin⟩)
  | int j tj => exact wpAny_getItem_str_slice (l:=some (i,ti)) (u:=some (j,tj)) (st:=none) hs rfl (post_val_or_str ⟨Nat.le_trans (Txt.slice_le z _ _) hz,fin⟩)

/-! ### join -/
end
end L2

set_option Elab.async false
set_option linter.all false
set_option maxRecDepth 100000
namespace L2
open PySem PySem.Spec PyProof.Rows
/-! ### a block's names,by one look at the text -/
noncomputable def closOf (names:List (Str × NameKind)) (cells:List (Str × Addr)):List (Str × Addr):=(names.filterMap fun y => if y.2 == .free then (cells.lookup y.1).map fun c => (y.1,c) else none).reverse
noncomputable def closStep (env:Env) (y:Str × NameKind) (cs:List (Str × Addr)):Sem (ForInStep (List (Str × Addr))):=if (y.2 == .free) = true then (do let c ← cellOf env y.1; pure (ForInStep.yield ((y.1,c) :: cs))) else pure (ForInStep.yield cs)
theorem clos_loop {env:Env}:∀ (names:List (Str × NameKind)) (acc:List (Str × Addr)),(∀ y ∈ names,y.2 = .free → (env.cells.lookup y.1).isSome = true) →
  (forIn names acc (closStep env):Sem (List (Str × Addr))) = pure (closOf names env.cells ++ acc)
 | [],acc,_ => by simp [closOf]
 | y :: r,acc,h => by
  rw [List.forIn_cons]
  by_cases hk:(y.2 == NameKind.free) = true
  ·have hs:=h y List.mem_cons_self (by simpa using hk)
   obtain ⟨c,hc⟩:=Option.isSome_iff_exists.mp hs
   have e1:closStep env y acc = pure (ForInStep.yield ((y.1,c) :: acc)):=by
    unfold closStep cellOf
    rw [if_pos hk,hc]
    simp only [pure_bind]
   rw [e1]
   simp only [pure_bind]
   rw [clos_loop r ((y.1,c) :: acc) fun y hy => h y (List.mem_cons_of_mem _ hy)]
   have e2:closOf (y :: r) env.cells = closOf r env.cells ++ [(y.1,c)]:=by
    unfold closOf
    rw [List.filterMap_cons,if_pos hk,hc]
    simp
   rw [e2]
   simp
  ·have e1:closStep env y acc = pure (ForInStep.yield acc):=by
    unfold closStep
    rw [if_neg hk]
   rw [e1]
   simp only [pure_bind]
   rw [clos_loop r acc fun y hy => h y (List.mem_cons_of_mem _ hy)]
   have e2:closOf (y :: r) env.cells = closOf r env.cells:=by
    unfold closOf
    rw [List.filterMap_cons,if_neg hk]
   rw [e2]
theorem clos_eq {scope:Scope} {env:Env} (h:∀ y ∈ scope.names,y.2 = .free → (env.cells.lookup y.1).isSome = true):closureFor scope env = pure (closOf scope.names env.cells):=by
 have:=clos_loop (env:=env) scope.names [] h
 simp only [List.append_nil] at this
 show (forIn scope.names [] (closStep env) >>= fun cs => pure cs) = _
 rw [this]
 simp only [pure_bind]
theorem clos_sub {cells:List (Str × Addr)} {names:List (Str × NameKind)} {x:Str} {c:Addr} (h:(closOf names cells).lookup x = some c):cells.lookup x = some c:=by
 have hm:=PySem.mem_of_lookup h
 unfold closOf at hm
 rw [List.mem_reverse,List.mem_filterMap] at hm
 obtain ⟨y,_,e⟩:=hm
 split at e
 ·cases q:cells.lookup y.1 with
  | none => rw [q] at e; cases e
  | some c' => rw [q] at e; cases e; exact q
 ·cases e
theorem lookup_some_of_mem:∀ {l:List (Str × Addr)} {x:Str} {c:Addr},(x,c) ∈ l → ∃ c',l.lookup x = some c'
 | (y,d) :: l,x,c,h => by
  rw [List.lookup_cons]
  cases q:x == y with
  | true => exact ⟨d,by simp⟩
  | false =>
   rcases List.mem_cons.mp h with e | h
   ·cases e; simp at q
   ·simpa using lookup_some_of_mem h
theorem clos_has {cells:List (Str × Addr)} {names:List (Str × NameKind)} {x:Str} (h:names.lookup x = some .free) (hs:(cells.lookup x).isSome = true):∃ c,(closOf names cells).lookup x = some c:=by
 obtain ⟨c,hc⟩:=Option.isSome_iff_exists.mp hs
 refine lookup_some_of_mem (c:=c) ?_
 unfold closOf
 rw [List.mem_reverse,List.mem_filterMap]
 exact ⟨(x,.free),PySem.mem_of_lookup h,by simp [hc]⟩
noncomputable def compOkB (fs:Scope) (N:List Str) (scope:Scope) (ms:List Bool):Bool :=
 scope.kind == .function && scope.names.all (fun y => y.2 != .cell) && scope.names.all (fun y => y.2 != .local || scope.names.lookup y.1 == some .local) &&
 scope.names.all (fun y => y.2 != .free || fs.names.lookup y.1 == some .cell) && (ms.zip N).all (fun y => !y.1 || scope.names.lookup y.2 == some .free) && decide (ms.length ≤ N.length)
theorem compSc_of {X:Cx} {scope:Scope} {ms:List Bool} {extra:List Str} {n0:Nat} (hX:X.env.cells = cellsFrom n0 X.env.scope.names []) (c:compOkB X.env.scope X.N scope ms = true):CompSc X scope (closOf scope.names X.env.cells) ms extra:=by
 unfold compOkB at c
 simp only [Bool.and_eq_true,List.all_eq_true,decide_eq_true_eq] at c
 obtain ⟨⟨⟨⟨⟨c1,c2⟩,c3⟩,c4⟩,c5⟩,c6⟩:=c
 have fr:∀ x,(x,NameKind.free) ∈ scope.names → X.env.scope.names.lookup x = some .cell:=fun x hx => by
  have:=c4 _ hx
  simpa using this
 have cs:∀ x,(x,NameKind.free) ∈ scope.names → (X.env.cells.lookup x).isSome = true:=fun x hx => by
  rw [hX]
  exact PySem.W.cellsFrom_some _ _ _ (.inl (fr x hx))
 refine ⟨by simpa using c1,fun y hy e => ?_,fun y hy e => ?_,clos_eq fun y hy e => ?_,fun x c h => clos_sub h,fun x h => clos_has h (cs x (PySem.mem_of_lookup h)),fun x h => .inl (fr x (PySem.mem_of_lookup h)),fun i x h1 h2 => ?_,c6⟩
 ·have:=c2 y hy
  rw [e] at this
  simp at this
 ·have:=c3 y hy
  simpa [e] using this
 ·obtain ⟨a,b⟩:=y
  cases e
  exact cs a hy
 ·have:=c5 (true,x) (by
   rw [List.mem_iff_getElem?]
   exact ⟨i,by rw [List.getElem?_zip_eq_some]; exact ⟨h1,h2⟩⟩)
  simpa using this

/-! ### a def of the text,by its name -/
structure FnD (P:Program) (w:World) (K:PySem.W.Frag) (mg:Str → Option Value) (base:Heap) (x:Str) (k n:Nat) (S:SpD):Prop where
 ex:∃ (f:Addr) (fd:FuncData) (ps:List Str),FnOk P w K mg base CX0 k f fd ps (spD K n S) ∧ mg x = some (.ref f) ∧ PySem.W.keepIn K (.ref f) = true ∧ Binds K fd ps []
section
variable {X:Cx} {e:Expr} {es:List Expr} {t:TAd} {pos p:Pos} {x:Str} {k n:Nat} {S:SpD}
theorem dc (F:FnD X.prog X.w X.K X.mg X.base x k n S) (hr:Room k X.A) (hg:Gl X x) (ha:PAd X (e :: es) t) (hdb:(x == ("__debug__":Str)) = false:=by decide) (he:starEach (e :: es) X.env = (false,eval e X.env) :: starEach es X.env:=by rfl) (hpl:(backTo pos (starEach es X.env)).any (·.1) = false:=by rfl) :
  PEd X (.Call (.Name x p) (e :: es) [] pos) (dCall n S t):=by
 obtain ⟨f,fd,ps,h1,h2,h3,h4⟩:=F.ex
 exact d_call h1 hr hg h2 h3 h4 ha hdb he hpl
theorem dc0 (F:FnD X.prog X.w X.K X.mg X.base x k n S) (hr:Room k X.A) (hg:Gl X x) (hdb:(x == ("__debug__":Str)) = false:=by decide) :
  PEd X (.Call (.Name x p) [] [] pos) (dCall n S dNil):=by
 obtain ⟨f,fd,ps,h1,h2,h3,h4⟩:=F.ex
 exact d_call0 h1 hr hg h2 h3 h4 hdb
end
end L2

set_option Elab.async false
set_option linter.all false
set_option maxRecDepth 100000
namespace L2
open PySem PySem.Spec PyProof.Rows
section
variable {X:Cx} {a b c e:Expr} {es:List Expr} {te ta tb:TEd} {t:TAd} {pos:Pos} {tg iter:Expr}
noncomputable def dRetF (te:TEd):TSd:=fun E Δ M => te Δ M fun d M1 => ∃ a ds,d = .ref a ∧ M1 a = some (.lst ds) ∧ E.rt (.lst ds) (delM M1 a)
theorem d_retF (he:PEd X e te):PSd X (.Return (some e) pos) (dRetF te):=(ps_ret he).conv fun D σ H ⟨Δ,M,E,sr,hr,q,k⟩ => ⟨Δ,M,_,sr,hr,q,fun d M1 v H1 ⟨a,ds,ed,em,q1⟩ e1 hr1 rv => by
 subst ed
 simp only [Rep] at rv
 subst rv
 exact k.rt _ _ _ H1 q1 (e1.trans (Ext.le LeM.del)) (hr1.le LeM.del) (Rep.froze hr1 LeM.del em delM_same)⟩
/-! += of ints -/
theorem o_iadd:OpRd X (inplaceOp .Add) (iOp fun i j => some (.int (i + j))):=by
 intro pins s σ H M x y v u dx dy dz Q I hr rx ry r1 r2 e k
 obtain ⟨i,j,rfl,rfl,e'⟩:=iOp_some e
 cases e'
 exact ip_add pins s σ H x y v u Q I rx ry ⟨i,j,rInt r1,rInt r2,k _ H (Ext.refl _ _) hr (by simp [Rep])⟩
theorem negU:UnRd X (unaryOp .USub) (fun d => match d with | .int i => some (.int (-i)) | _ => none):=by
 intro pins s σ H M x v dx dz Q I hr rx r1 e k
 cases dx with
 | int i => cases e; exact un_neg pins s σ H x v Q I rx ⟨i,rInt r1,k _ H (Ext.refl _ _) hr (by simp [Rep])⟩
 | _ => cases e
/-! ### whatever can be walked: a tuple,a list that stays,the script,a text -/
noncomputable def itemsD:D → Option (List D)
 | .tup ds => some ds
 | .lst ds => some ds
 | .scr ds => some ds
 | .str x => if x.length ≤ sizeLine then some (signs x) else none
 | _ => none
noncomputable def diAny (te:TEd):TId:=fun Δ M R => te Δ M fun d M1 => ∃ ds,itemsD d = some ds ∧ (ds.length ≤ sizeLine → R ds M1)
theorem one_it {pins:List (Addr × Obj)} {σ:St} {H:Hp} {s:Shared} {o:Obj} (I:Inv X pins σ H s):∀ b ∈ [s.heap.objs.size],FpOk X pins H b:=fun b hb => by
 have e:b = s.heap.objs.size:=by simpa using hb
 subst e
 exact I.fpOk (Nat.le_refl _) (I.hok.fresh (Nat.le_refl _))
theorem str_it {K:PySem.W.Frag} {x:Str} {M1:DH} {H1:Hp}:ItD K (ItW x.cps.size fun i v => ∃ c,x.cps[i]? = some c ∧ v = .str ⟨#[c]⟩) (signs x) M1 H1:=fun M2 H2 e2 hr2 i => ⟨fun d hd => by
  unfold signs at hd
  rw [List.getElem?_map] at hd
  cases q:x.cps.toList[i]? with
  | none => rw [q] at hd; cases hd
  | some c =>
   rw [q] at hd; cases hd
   have hc:x.cps[i]? = some c:=by simpa using q
   refine ⟨?_,fun y H' ⟨eH,c',hc',ey⟩ => ?_⟩
   ·exact (Array.getElem?_eq_some_iff.mp hc).1
   ·subst eH; subst ey
    rw [hc] at hc'; cases hc'
    exact ⟨Ext.refl _ _,hr2,by simp [Rep]⟩,fun hl => by
  show x.cps.size ≤ i
  simpa [signs] using hl⟩
theorem i_any (h:PEd X iter te):PId X tg iter (diAny te):=by
 intro pins s σ H R I hh
 obtain ⟨Δ,M,R',sr,hr,q,k⟩:=hh
 refine thn (h pins s σ H (fun v H1 => ∃ d ds M1,itemsD d = some ds ∧ (ds.length ≤ sizeLine → R' ds M1) ∧ Ext M H M1 H1 ∧ HR X.K M1 H1 ∧ Rep X.K M1 H1 d v) I ⟨Δ,M,_,sr,hr,q,fun d M1 v H1 ⟨ds,ed,q1⟩ e1 hr1 rv => ⟨d,ds,M1,ed,q1,e1,hr1,rv⟩⟩) fun u s1 ⟨v,H1,I1,r1,d,ds,M1,ed,q1,e1,hr1,rv⟩ => ?_
 have lo:=RepR.len (K:=X.K) I1 rv
 cases d with
 | tup es =>
  cases ed
  simp only [Rep] at rv
  obtain ⟨a,vs,rfl,ta,rl⟩:=rv
  cases r1
  obtain ⟨its,rvv,p,hz⟩:=I1.tuple ta.sq
  refine wpAny_pyIter_tuple (show s1.heap.IsTuple a its.toArray from p) ?_
  refine ⟨s1.heap.objs.size,[s1.heap.objs.size],_,_,H1,rfl,I1.kept (t':=s1.toks) fun b o e => Heap.get?_push_of_some _ e,turn_tuple a _,⟨_,Heap.get?_push_size _ rfl,rfl,rfl⟩,one_it (o:=default) I1,?_⟩
  refine k _ M1 _ H1 (q1 lo) e1 hr1 fun M2 H2 e2 hr2 i => ⟨fun d hd => ?_,fun hl => ⟨vs,(ta.ext e2).sq,by rw [← rl.length]; exact hl⟩⟩
  obtain ⟨v,gv,r⟩:=rl.get hd
  refine ⟨⟨vs,v,(ta.ext e2).sq,gv⟩,fun x H' ⟨eH,y⟩ => ?_⟩
  subst eH
  have:=y vs (ta.ext e2).sq
  rw [gv] at this; cases this
  exact ⟨Ext.refl _ _,hr2,r.ext e2⟩
 | lst es =>
  cases ed
  simp only [Rep] at rv
  obtain ⟨a,vs,rfl,ta,rl⟩:=rv
  cases r1
  obtain ⟨its,rvv,p,hz⟩:=I1.list (SqL.of ta.1)
  refine wpAny_pyIter_list p.isList ?_
  refine ⟨s1.heap.objs.size,[s1.heap.objs.size],_,_,H1,rfl,I1.kept (t':=s1.toks) fun b o e => Heap.get?_push_of_some _ e,turn_list a _,⟨_,Heap.get?_push_size _ rfl,rfl,rfl⟩,one_it (o:=default) I1,?_⟩
  refine k _ M1 _ H1 (q1 lo) e1 hr1 fun M2 H2 e2 hr2 i => ⟨fun d hd => ?_,fun hl => ⟨vs,SqL.of (ta.ext e2).1,by rw [← rl.length]; exact hl⟩⟩
  obtain ⟨v,gv,r⟩:=rl.get hd
  refine ⟨⟨vs,v,SqL.of (ta.ext e2).1,gv⟩,fun x H' ⟨eH,y⟩ => ?_⟩
  subst eH
  have:=y vs (SqL.of (ta.ext e2).1)
  rw [gv] at this; cases this
  exact ⟨Ext.refl _ _,hr2,r.ext e2⟩
 | scr es =>
  cases ed
  simp only [Rep] at rv
  obtain ⟨a,vs,rfl,ta,rl⟩:=rv
  cases r1
  obtain ⟨its,rvv,p,hz⟩:=I1.list ta.sq
  refine wpAny_pyIter_list p.isList ?_
  refine ⟨s1.heap.objs.size,[s1.heap.objs.size],_,_,H1,rfl,I1.kept (t':=s1.toks) fun b o e => Heap.get?_push_of_some _ e,turn_list a _,⟨_,Heap.get?_push_size _ rfl,rfl,rfl⟩,one_it (o:=default) I1,?_⟩
  refine k _ M1 _ H1 (q1 lo) e1 hr1 fun M2 H2 e2 hr2 i => ⟨fun d hd => ?_,fun hl => ⟨vs,(ta.ext e2).sq,by rw [← rl.length]; exact hl⟩⟩
  obtain ⟨v,gv,r⟩:=rl.get hd
  refine ⟨⟨vs,v,(ta.ext e2).sq,gv⟩,fun x H' ⟨eH,y⟩ => ?_⟩
  subst eH
  have:=y vs (ta.ext e2).sq
  rw [gv] at this; cases this
  exact ⟨Ext.refl _ _,hr2,r.ext e2⟩
 | str x =>
  simp only [itemsD] at ed
  by_cases hz:x.length ≤ sizeLine
  ·rw [if_pos hz] at ed; cases ed
   simp only [Rep] at rv
   subst rv
   obtain ⟨t,rfl⟩:=r1
   have hq:=k _ M1 _ H1 (q1 (by have hz2:x.cps.size ≤ sizeLine:=hz; simpa [signs] using hz2)) e1 hr1 str_it
   cases ha:x.cps.all (· < 128)
   ·exact wpAny_pyIter_wide ha (str_pie I1 "str_iterator" (by decide) (fun A hA => Walks.strWide hA _ x t) (fun A i s' Q E st q => wpAny_pyIter_striter_wide st q) hq)
   ·exact wpAny_pyIter_ascii ha (str_pie I1 "str_ascii_iterator" (by decide) (fun A hA => Walks.strAscii hA _ x t) (fun A i s' Q E st q => wpAny_pyIter_striter_ascii st q) hq)
  ·rw [if_neg hz] at ed; cases ed
 | _ => cases ed
end
end L2

set_option Elab.async false
set_option linter.all false
set_option maxRecDepth 100000
namespace L2
open PySem PySem.Spec PyProof.Rows
section
variable {M:DH}
theorem rdM_int {i:Int}:rdM M (.int i) = .int i:=rfl
theorem rdM_bl {i:Bool}:rdM M (.bl i) = .bl i:=rfl
theorem rdM_str {i:Str}:rdM M (.str i) = .str i:=rfl
theorem rdM_non:rdM M .non = .non:=rfl
theorem rdM_tup {i:List D}:rdM M (.tup i) = .tup i:=rfl
theorem rdM_lst {i:List D}:rdM M (.lst i) = .lst i:=rfl
theorem rdM_scr {i:List D}:rdM M (.scr i) = .scr i:=rfl
theorem rdM_ref {a:Addr} {ds:List D} (h:M a = some (.lst ds)):rdM M (.ref a) = .lst ds:=by simp [rdM,h]
theorem rdM_upd {a:Addr} {ds:List D}:rdM (updM M a (.lst ds)) (.ref a) = .lst ds:=rdM_ref updM_same
theorem iOp_ii {f:Int → Int → Option D} {a b:Int}:iOp f (.int a) (.int b) = f a b:=rfl
theorem addD_ii {a b:Int}:addD (.int a) (.int b) = some (.int (a + b)):=rfl
theorem addD_ss {a b:Str}:addD (.str a) (.str b) = if a.length + b.length ≤ sizeLine then some (.str (a ++ b)) else none:=rfl
theorem addD_ll {a b:List D}:addD (.lst a) (.lst b) = if a.length + b.length ≤ sizeLine then some (.lst (a ++ b)) else none:=rfl
theorem addD_tt {a b:List D}:addD (.tup a) (.tup b) = if a.length + b.length ≤ sizeLine then some (.tup (a ++ b)) else none:=rfl
theorem ixD_l {a:List D} {b:Int}:ixD (.lst a) (.int b) = atI a b:=rfl
theorem ixD_c {a:List D} {b:Int}:ixD (.scr a) (.int b) = atI a b:=rfl
theorem ixD_t {a:List D} {b:Int}:ixD (.tup a) (.int b) = atI a b:=rfl
theorem atI_0 {α:Type} {x:α} {xs:List α}:atI (x :: xs) 0 = some x:=atI_nat (j:=0) rfl
theorem atI_1 {α:Type} {x y:α} {xs:List α}:atI (x :: y :: xs) 1 = some y:=atI_nat (j:=1) rfl
theorem atI_2 {α:Type} {x y z:α} {xs:List α}:atI (x :: y :: z :: xs) 2 = some z:=atI_nat (j:=2) rfl
theorem one1_one {f:D → Option D} {d:D}:one1 f [d] = f d:=rfl
theorem lenD_l {a:List D}:lenD (.lst a) = some (.int a.length):=rfl
theorem lenD_t {a:List D}:lenD (.tup a) = some (.int a.length):=rfl
theorem lenD_c {a:List D}:lenD (.scr a) = some (.int a.length):=rfl
theorem lenD_s {x:Str}:lenD (.str x) = if x.length ≤ sizeLine then some (.int x.length) else none:=rfl
theorem absD_i {i:Int}:absD (.int i) = some (.int (if i < 0 then -i else i)):=rfl
theorem tupD_l {a:List D}:tupD (.lst a) = some (.tup a):=rfl
theorem tupD_t {a:List D}:tupD (.tup a) = some (.tup a):=rfl
theorem inD_l {b:Bool} {x:D} {ds:List D}:inD b x (.lst ds) = if scalD x = true ∧ ds.all scalD = true then some (.bl (xor b (ds.any fun d => eqD d x))) else none:=rfl
theorem inD_t {b:Bool} {x:D} {ds:List D}:inD b x (.tup ds) = if scalD x = true ∧ ds.all scalD = true then some (.bl (xor b (ds.any fun d => eqD d x))) else none:=rfl
theorem eqF_ii {a b:Int}:eqF (.int a) (.int b) = some (.bl (a == b)):=by simp [eqF,dLe,eqD]
theorem eqF_ss {a b:Str}:eqF (.str a) (.str b) = some (.bl (a == b)):=by simp [eqF,dLe,eqD]
theorem eqF_bb {a b:Bool}:eqF (.bl a) (.bl b) = some (.bl (a == b)):=by simp [eqF,dLe,eqD]
theorem slD_c {ds:List D} {lo hi:Option Int}:slD (.scr ds) lo hi = some (.lst (cutD ds lo hi)):=rfl
theorem slD_l {ds:List D} {lo hi:Option Int}:slD (.lst ds) lo hi = some (.lst (cutD ds lo hi)):=rfl
theorem slD_s {x:Str} {lo hi:Option Int}:slD (.str x) lo hi = if x.length ≤ sizeLine then some (.str (Txt.slice x lo hi)) else none:=rfl
theorem itemsD_l {a:List D}:itemsD (.lst a) = some a:=rfl
theorem itemsD_t {a:List D}:itemsD (.tup a) = some a:=rfl
theorem itemsD_c {a:List D}:itemsD (.scr a) = some a:=rfl
theorem itemsD_s {x:Str}:itemsD (.str x) = if x.length ≤ sizeLine then some (signs x) else none:=rfl
theorem ixN_0 {n:Nat}:ixN (n + 1) 0 = some 0:=by simp [ixN] <;> omega
theorem ixN_1 {n:Nat}:ixN (n + 2) 1 = some 1:=by simp [ixN] <;> omega
theorem ixN_2 {n:Nat}:ixN (n + 3) 2 = some 2:=by simp [ixN] <;> omega
theorem sz3 (n:Nat) (h:n ≤ 1000:=by decide):n ≤ sizeLine:=Nat.le_trans h (by decide)
theorem isiD_b {b:Bool}:isiD "bool" (.bl b) = some true:=rfl
end
end L2
namespace L2
theorem cmulR {i j:Int} (h:-18446744073709551616 < j ∧ j < 18446744073709551616):CMul i j = True:=by unfold CMul; simp; right; omega
theorem cmulL {i j:Int} (h:-18446744073709551616 < i ∧ i < 18446744073709551616):CMul i j = True:=by unfold CMul; simp; left; omega
theorem cpow1018:CPow 10 18 = True:=by simp [CPow]
theorem cdivL {i j:Int} (h:0 < j ∧ j < 1073741824):CDiv i j = True:=by unfold CDiv; simp [h]
end L2

set_option Elab.async false
set_option linter.all false
set_option maxRecDepth 100000
namespace L2
open PySem PySem.Spec PyProof.Rows
theorem eqD_str {a b:Str}:eqD (.str a) (.str b) = (a == b):=by simp [eqD]
theorem any_strs {x:Str}:∀ {ws:List Str},(ws.map D.str).any (fun d => eqD d (.str x)) = decide (x ∈ ws)
 | [] => by simp
 | w :: ws => by
  rw [List.map_cons,List.any_cons,any_strs (ws:=ws),eqD_str]
  by_cases h:w = x
  ·subst h; simp
  ·have h2:(w == x) = false:=by simpa using h
   have h3:¬ x = w:=fun e => h e.symm
   simp [h2,h3]
theorem all_scal {ws:List Str}:(ws.map D.str).all scalD = true:=by
 induction ws with
 | nil => rfl
 | cons w ws ih => rw [List.map_cons,List.all_cons,ih]; rfl
section
variable {X:Cx} {e:Expr} {te:TEd} {pos:Pos}
noncomputable def dRetG (te:TEd):TSd:=fun E Δ M => te Δ M fun d M1 => ∃ M2,LeM M2 M1 ∧ E.rt d M2
theorem d_retG (he:PEd X e te):PSd X (.Return (some e) pos) (dRetG te):=(ps_ret he).conv fun D σ H ⟨Δ,M,E,sr,hr,q,k⟩ => ⟨Δ,M,_,sr,hr,q,fun d M1 v H1 ⟨M2,hle,q1⟩ e1 hr1 rv =>
 k.rt _ _ _ H1 q1 (e1.trans (Ext.le hle)) (hr1.le hle) (rv.ext (Ext.le hle))⟩
theorem leM_upd {M:DH} {q:Addr} {o:HD} (h:M q = none):LeM M (updM M q o):=fun a u e => by
 by_cases ha:a = q
 ·subst ha; rw [h] at e; cases e
 ·rw [updM_ne ha]; exact e
end
end L2

set_option Elab.async false
set_option linter.all false
set_option maxRecDepth 100000
namespace L2
open PySem PySem.Spec PyProof.Rows PySem.Builtin.Str
/-! ### texts as lists of signs -/
noncomputable def tx (cs:List Nat):Str:=⟨cs.toArray⟩
theorem tx_list (cs:List Nat):(tx cs).cps.toList = cs:=by simp [tx]
theorem tx_len (cs:List Nat):(tx cs).length = cs.length:=by show (tx cs).cps.size = _; simp [tx]
theorem nodup_len {α:Type} [DecidableEq α]:∀ (V K:List α),V.Nodup → (∀ x ∈ V,x ∈ K) → V.length ≤ K.length
 | [],_,_,_ => Nat.zero_le _
 | x :: V,K,hn,h => by
  have hx:=h x List.mem_cons_self
  obtain ⟨h1,h2⟩:=List.nodup_cons.mp hn
  have:=nodup_len V (K.erase x) h2 fun y hy => (List.mem_erase_of_ne (by rintro rfl; exact h1 hy)).mpr (h y (List.mem_cons_of_mem _ hy))
  rw [List.length_erase_of_mem hx] at this
  have hp:0 < K.length:=List.length_pos_of_mem hx
  simp only [List.length_cons]
  omega
noncomputable abbrev abc:Str:=Str.ofString "abcdefghijklmnopqrstuvwxyz"
noncomputable def abcL:List Nat:=List.range' 97 26
theorem abc_eq:abc = tx abcL:=by decide +kernel
theorem abc_signs:signs abc = abcL.map fun c => D.str (tx [c]):=by
 unfold signs
 rw [abc_eq,tx_list]
 rfl
end L2

set_option Elab.async false
set_option linter.all false
set_option maxRecDepth 100000
namespace L2
open PySem PySem.Spec PyProof.Rows
theorem forRun_at {g:GD} {tb:TSd} {E:EndsD} {all:List D} (I:Nat → DE → DH → Prop)
  (step:∀ (i:Nat) (d:D) (Δ:DE) (M:DH) (X:DE → DH → Prop),all[i]? = some d → I i Δ M → (∀ Δ' M',I (i + 1) Δ' M' → X Δ' M') → ∃ Δ',g d Δ = some Δ' ∧ tb { E with nx:=X,ct:=X,bk:=E.nx } Δ' M)
  (fin:∀ Δ M,I all.length Δ M → E.nx Δ M):∀ (ds:List D) (i:Nat) (Δ:DE) (M:DH),all.drop i = ds → i ≤ all.length → I i Δ M → forRun g tb E ds Δ M
 | [],i,Δ,M,e,hi,h => by
  have:i = all.length:=by
   have:=congrArg List.length e
   simp at this; omega
  subst this
  simpa only [forRun] using fin Δ M h
 | d :: ds,i,Δ,M,e,hi,h => by
  have hlt:i < all.length:=by
   have:=congrArg List.length e
   simp at this; omega
  have hd:all[i]? = some d:=by
   have:=congrArg List.head? e
   simpa using this
  have hn:all.drop (i + 1) = ds:=by
   rw [← List.tail_drop,e]; rfl
  simp only [forRun]
  exact step i d Δ M _ hd h fun Δ' M' h' => forRun_at I step fin ds (i + 1) Δ' M' hn hlt h'
theorem forRun_by {g:GD} {tb:TSd} {E:EndsD} {ds:List D} {Δ:DE} {M:DH} (I:Nat → DE → DH → Prop) (h0:I 0 Δ M)
  (step:∀ (i:Nat) (d:D) (Δ:DE) (M:DH) (X:DE → DH → Prop),ds[i]? = some d → I i Δ M → (∀ Δ' M',I (i + 1) Δ' M' → X Δ' M') → ∃ Δ',g d Δ = some Δ' ∧ tb { E with nx:=X,ct:=X,bk:=E.nx } Δ' M)
  (fin:∀ Δ M,I ds.length Δ M → E.nx Δ M):forRun g tb E ds Δ M:=forRun_at I step fin ds 0 Δ M rfl (Nat.zero_le _) h0
theorem lcRun_at {g:GD} {tc:TTd} {te:TEd} {all:List D} {Q:List D → DH → Prop} (I:Nat → List D → DE → DH → Prop)
  (step:∀ (i:Nat) (d:D) (acc:List D) (Δ:DE) (M:DH) (X:List D → DE → DH → Prop),all[i]? = some d → I i acc Δ M → (∀ acc' Δ' M',I (i + 1) acc' Δ' M' → X acc' Δ' M') →
   ∃ Δ',g d Δ = some Δ' ∧ tc Δ' M fun b M1 => if b = true then te Δ' M1 fun y M2 => X (acc ++ [y]) Δ' M2 else X acc Δ' M1)
  (fin:∀ acc Δ M,I all.length acc Δ M → Q acc M):∀ (ds:List D) (i:Nat) (acc:List D) (Δ:DE) (M:DH),all.drop i = ds → i ≤ all.length → I i acc Δ M → lcRun g tc te ds Δ M acc Q
 | [],i,acc,Δ,M,e,hi,h => by
  have:i = all.length:=by
   have:=congrArg List.length e
   simp at this; omega
  subst this
  simpa only [lcRun] using fin acc Δ M h
 | d :: ds,i,acc,Δ,M,e,hi,h => by
  have hlt:i < all.length:=by
   have:=congrArg List.length e
   simp at this; omega
  have hd:all[i]? = some d:=by
   have:=congrArg List.head? e
   simpa using this
  have hn:all.drop (i + 1) = ds:=by
   rw [← List.tail_drop,e]; rfl
  simp only [lcRun]
  exact step i d acc Δ M (fun acc' Δ' M' => lcRun g tc te ds Δ' M' acc' Q) hd h fun acc' Δ' M' h' => lcRun_at I step fin ds (i + 1) acc' Δ' M' hn hlt h'
theorem lcRun_by {g:GD} {tc:TTd} {te:TEd} {ds:List D} {Δ:DE} {M:DH} {Q:List D → DH → Prop} (I:Nat → List D → DE → DH → Prop) (h0:I 0 [] Δ M)
  (step:∀ (i:Nat) (d:D) (acc:List D) (Δ:DE) (M:DH) (X:List D → DE → DH → Prop),ds[i]? = some d → I i acc Δ M → (∀ acc' Δ' M',I (i + 1) acc' Δ' M' → X acc' Δ' M') →
   ∃ Δ',g d Δ = some Δ' ∧ tc Δ' M fun b M1 => if b = true then te Δ' M1 fun y M2 => X (acc ++ [y]) Δ' M2 else X acc Δ' M1)
  (fin:∀ acc Δ M,I ds.length acc Δ M → Q acc M):lcRun g tc te ds Δ M [] Q:=lcRun_at I step fin ds 0 [] Δ M rfl (Nat.zero_le _) h0
theorem szB (n:Nat) (h:n ≤ 16000000:=by decide):n ≤ sizeLine:=Nat.le_trans h (by decide)
theorem map_get {α:Type} {f:α → D} {xs:List α} {i:Nat} {d:D} (h:(xs.map f)[i]? = some d):∃ x,xs[i]? = some x ∧ d = f x:=by
 rw [List.getElem?_map] at h
 cases e:xs[i]? with
 | none => rw [e] at h; cases h
 | some x => rw [e] at h; cases h; exact ⟨x,rfl,rfl⟩
end L2

set_option Elab.async false
set_option linter.all false
set_option maxRecDepth 100000
namespace L2
open PySem PySem.Spec PyProof.Rows
theorem ints_rep {K:PySem.W.Frag} {M:DH} {H:Hp}:∀ ns:List Int,RepL K M H (ns.map D.int) (ns.map V.int)
 | [] => RepL.nil
 | n :: ns => RepL.cons (by simp [Rep]) (ints_rep ns)
theorem scr_start {K:PySem.W.Frag} {H:Hp} {a:Addr} {ns:List Int} (hO:Only H) (hS:SqL K H a (ns.map V.int)):RepL K noM H [.scr (ns.map D.int)] [.ref a]:=by
 refine RepL.cons ?_ RepL.nil
 simp only [Rep]
 refine ⟨a,ns.map V.int,rfl,?_,ints_rep ns⟩
 rcases hS with h | h
 ·left
  rcases h with h | h
  ·rcases hO a with z | ⟨o,xs,z⟩ <;> (rw [h] at z; cases z)
  ·exact ⟨h,rfl⟩
 ·right
  exact .inr h
noncomputable def LawS (S:SpD):Prop:=∀ (ns:List Int) (R:D → DH → Prop),ns.length ≤ 63 → (∀ M',R (.bl true) M') → S [.scr (ns.map .int)] noM R
theorem walkD {S:SpD} (hS:LawS S) {k:Nat} {x:Str} {l:PySem.W.OpenLaw} {q:Program} {loose:List Str} {XP:(Str → Option Value) → Heap → Prop} {YP:World → Heap → Prop} {d:DefRec} {K:Params → PySem.W.Frag} (hr:Room k callerA) (hn:l.most = some 63) (hdf:d.params.defaults = [])
  (hY:∀ (w:World) (h:Heap),YP w h → (K w.params).In h)
  (F:∀ (w:World) (mg:Str → Option Value) (fa:Addr) (h:Heap),(K w.params).In h → h.Ns mainGlobals mg → mg d.name = some (.ref fa) →
   ∃ fd:FuncData,(∀ (s:Shared) (u:Value),BindsTo s fd ⟨[u],[]⟩ [(x,u)]) ∧ ∀ base:Heap,(K w.params).In base → base.Ns mainGlobals mg → FnOk l.prog w (K w.params) mg base CX0 k fa fd [x] (spD (K w.params) 1 S)) :
  PySem.W.WalkO q loose XP YP l.row.toRowW d [] (fun f vs => PySem.call f vs) :=
 L2.walk_of (n:=63) (k:=k) (x:=x) (CX:=fun _ => CX0) (sp:=fun w => spD (K w.params) 1 S) hn (by decide) hdf hr hY F
  (fun w H a ns hl hO hq => ⟨[.scr (ns.map .int)],noM,fun d _ => d = .bl true,rfl,scr_start hO hq,HR.nil,hS ns _ hl (fun _ => rfl),fun d M' v H' e _ _ rv => by subst e; simpa only [Rep] using rv⟩) fun _ _ _ _ _ z => z
end L2

set_option Elab.async false
set_option linter.all false
set_option maxRecDepth 100000
namespace L2
open PySem PySem.Spec PyProof.Rows
/-! ### reversed(tuple) -/
theorem owner_rev:Manifest.owners.lookup (String.ofList ['d','e','s','r','e','v','e','r'].reverse) = some Manifest.sig_reversed:=by kernel_rfl
theorem slot_rev_next:Slot "reversed" "__next__" "reversed.__next__" :=
 .of (owner:="reversed") (n:="__next__") (by rw [typeLookup_type,builtinLookup_eq_fast]; kernel_rfl) (by decide +kernel) (by decide +kernel) (by decide +kernel)
  (by first | exact .inl (by decide +kernel) | exact .inr (by decide +kernel)) (by rw [isSubtype_type]; kernel_rfl)
theorem entry_rev_next:entryFor table "reversed.__next__" = some Builtin.«reversed.__next__»:=entryFor_of_tree (by kernel_rfl)
theorem args_rev_next_1 (a:Value):argsOk "reversed.__next__" ⟨[a],[]⟩:=by
 unfold argsOk; rw [signature?_of (id:="reversed.__next__") (n:=['_','_','t','x','e','n','_','_']) (o:=['d','e','s','r','e','v','e','r']) (by kernel_rfl) owner_rev]; kernel_rfl
theorem slot_rev_iter:Slot "reversed" "__iter__" "reversed.__iter__" :=
 .of (owner:="reversed") (n:="__iter__") (by rw [typeLookup_type,builtinLookup_eq_fast]; kernel_rfl) (by decide +kernel) (by decide +kernel) (by decide +kernel)
  (by first | exact .inl (by decide +kernel) | exact .inr (by decide +kernel)) (by rw [isSubtype_type]; kernel_rfl)
theorem args_rev_iter_1 (a:Value):argsOk "reversed.__iter__" ⟨[a],[]⟩:=by
 unfold argsOk; rw [signature?_of (id:="reversed.__iter__") (n:=['_','_','r','e','t','i','_','_']) (o:=['d','e','s','r','e','v','e','r']) (by kernel_rfl) owner_rev]; kernel_rfl
theorem entry_rev_iter:entryFor table "reversed.__iter__" = some Builtin.«dict_keyiterator.__iter__» :=
 entryFor_alias (id':="dict_keyiterator.__iter__") (by kernel_rfl) (by first | rfl | decide +kernel | (unfold String.splitOn; simp +decide [String.splitOnAux])) (by decide +kernel) (by kernel_rfl)
theorem tuple_no_reversed:typeLookup (.type "tuple") "__reversed__" = pure none:=by rw [typeLookup_type,builtinLookup_eq_fast]; kernel_rfl
theorem sub_tuple_dict:isSubtype (.type "tuple") (.type "dict") = pure false:=by rw [isSubtype_type]; kernel_rfl
section
variable {prog:Program} {w:World} {A:Around} {E:Value → Shared → Prop} {s:Shared}
noncomputable def revTObj (l:Addr) (i:Int):Obj:={ cls:=.type "reversed",data:=.fields #[.ref l,rawInt i] }
noncomputable def IsRevT (h:Heap) (a l:Addr) (i:Int):Prop:=∃ o,h.get? a = some o ∧ o.cls = .type "reversed" ∧ o.data = .fields #[.ref l,rawInt i]
theorem IsRevT.typeIs {a l:Addr} {i:Int} (x:IsRevT s.heap a l i):s.TypeIs (.ref a) "reversed":=let ⟨o,ho,hc,_⟩:=x; ⟨o,ho,hc⟩
theorem IsRevT.at {h h':Heap} {a l:Addr} {i:Int} (x:IsRevT h a l i) (e:∀ o,h.get? a = some o → h'.get? a = some o):IsRevT h' a l i:=let ⟨o,ho,r⟩:=x; ⟨o,e _ ho,r⟩
theorem meets_rev_new (l:Addr) (items:Array Value) (hsz:items.size < 2 ^ 63) :
  Meets (Builtin.«reversed.__new__» ⟨[.type "reversed",.ref l],[]⟩) (fun _ R s => IsTup s.heap l items ∧ ∀ k,R (.ok (.ret (.ref s.heap.objs.size))) { s with heap:=s.heap.push (revTObj l ((items.size:Int) - 1)),toks:=k }) :=
 .of_wp fun prog w A R s h => by
  obtain ⟨hl,h⟩:=h
  unfold Builtin.«reversed.__new__»
  refine wpAny_bind (wpAny_of_eq (newClass_reversed _) ?_)
  try dsimp only
  refine wpAny_bind (wpAny_of_eq (a:=()) (by first | rfl | kernel_rfl) ?_)
  refine wpAny_bind (wpAny_of_eq (a:=()) (by first | rfl | kernel_rfl) ?_)
  try dsimp only
  refine wpAny_bind (wpAny_specialOf hl.typeIs tuple_no_reversed ?_)
  try dsimp only
  refine wpAny_bind (wpAny_bind (wpAny_isInstance hl.typeIs sub_tuple_dict ?_))
  rw [if_neg Bool.false_ne_true]
  refine wpAny_bind (wpAny_specialOf hl.typeIs slot_tuple_getitem.lookup ?_)
  dsimp only
  rw [if_pos (by decide +kernel)]
  refine wpAny_pure ?_
  rw [if_neg (by decide)]
  refine wpAny_bind (len_tuple hl (by omega) ?_)
  refine wpAny_bind (wpAny_of_eq (a:=some (items.size:Int)) rfl ?_)
  dsimp only
  show wpAny _ _ (newObj (.type "reversed") (.fields #[.ref l,rawInt ((items.size:Int) - 1)]) >>= _) _ _ _
  exact wpAny_bind (wpAny_newObj_type (wpAny_pure ⟨_,rfl,h _⟩))
theorem slot_rev_init:Slot "reversed" "__init__" "object.__init__" :=
 .of (owner:="object") (n:="__init__") (by rw [typeLookup_type,builtinLookup_eq_fast]; kernel_rfl) (by decide +kernel) (by decide +kernel) (by decide +kernel)
  (by first | exact .inl (by decide +kernel) | exact .inr (by decide +kernel)) (by rw [isSubtype_type]; kernel_rfl)
theorem called_rev:TypeCalled "reversed" "reversed.__new__" "object.__init__" :=
 ⟨by decide +kernel,by decide +kernel,⟨_,_,F.mro_reversed⟩,F.made_reversed,by decide +kernel,by rw [isSubtype_type]; kernel_rfl,slot_rev_init⟩
theorem call_rev_tuple {l:Addr} {items:Array Value} {Q:Value → Shared → Prop} (hl:IsTup s.heap l items) (hsz:items.size < 2 ^ 63)
  (h:∀ k,Q (.ref s.heap.objs.size) { s with heap:=s.heap.push (revTObj l ((items.size:Int) - 1)),toks:=k }):wpAny (model prog w) A (call (.type "reversed") [.ref l]) Q E s:=by
 refine callType_new called_rev (by decide) (F.typeCall_reversed_1 _) (F.newCall_reversed_1 _) (fun obj => F.args_object_init_2 obj _) F.entry_reversed_new (meets_rev_new l items hsz) ⟨hl,fun k => ?_⟩
 exact ⟨⟨_,Heap.get?_push_size _ rfl,rfl⟩,h k⟩
theorem wpAny_pyNext_revT_item {it l:Addr} {i:Nat} {items:Array Value} {x:Value} {Q:Option Value → Shared → Prop} (hit:IsRevT s.heap it l (i:Int)) (hl:IsTup s.heap l items) (hx:items[i]? = some x) (hsz:items.size < 2 ^ 62)
  (hQ:∀ h' k,IsRevT h' it l ((i:Int) - 1) → Heap.SameBut it s.heap h' → Q (some x) { s with heap:=h',toks:=k }):wpAny (model prog w) A (pyNext (.ref it)) Q E s:=by
 obtain ⟨o,ho,hc,hd⟩:=id hit
 have hi:i < items.size:=(Array.getElem?_eq_some_iff.mp hx).1
 unfold pyNext
 refine wpAny_bind (wpAny_attempt (wpAny_callSpecial?_slot (name:=Str.ofString "__next__") hit.typeIs slot_rev_next
  (wpAny_call_entry slot_rev_next hit.typeIs entry_rev_next ?_ (args_rev_next_1 _))))
 unfold Builtin.«reversed.__next__»
 refine wpAny_bind (wpAny_of_eq (a:=(Value.ref it,[])) rfl ?_)
 try dsimp only
 refine wpAny_bind (wpAny_field ho hd (x:=.ref l) rfl ?_)
 refine wpAny_bind (wpAny_field ho hd (x:=rawInt (i:Int)) rfl ?_)
 show wpAny _ _ (if (i:Int) < 0 then _ else _) _ _ s
 rw [if_neg (by omega)]
 refine wpAny_bind (wpAny_specialOf hl.typeIs slot_tuple_getitem.lookup ?_)
 rw [if_neg (by simp)]
 refine wpAny_bind (wpAny_mkInt ?_)
 refine wpAny_bind (wpAny_attempt (getItem_tuple (s:={ s with toks:=s.toks + 1 }) hl (by omega) (by omega) (j:=i) (by unfold seqIndex?; simp; omega) hx ?_))
 dsimp only
 refine wpAny_bind (wpAny_field (s:={ s with toks:=s.toks + 1 }) ho hd (x:=rawInt (i:Int)) rfl ?_)
 dsimp only [rawInt]
 refine wpAny_bind (wpAny_setField (s:={ s with toks:=s.toks + 1 }) ho hd (by simp) ?_)
 refine wpAny_pure ⟨x,rfl,wpAny_pure (hQ _ _ ?_ (Heap.SameBut.update ..))⟩
 exact ⟨_,Heap.get?_update_self _ ho (Obj.isFreed_of_fields (Obj.data_mapFields hd _)),(Obj.cls_mapFields ..).trans hc,by
  rw [Obj.data_mapFields hd]; simp [rawInt]⟩
theorem wpAny_pyNext_revT_end {it l:Addr} {Q:Option Value → Shared → Prop} (hh:A.handled = none) (hit:IsRevT s.heap it l (-1))
  (hQ:∀ h',Heap.ExtBut it s.heap h' → Q none { s with heap:=h' }):wpAny (model prog w) A (pyNext (.ref it)) Q E s:=by
 obtain ⟨o,ho,hc,hd⟩:=id hit
 unfold pyNext
 refine wpAny_bind (wpAny_attempt (wpAny_callSpecial?_slot (name:=Str.ofString "__next__") hit.typeIs slot_rev_next
  (wpAny_call_entry slot_rev_next hit.typeIs entry_rev_next ?_ (args_rev_next_1 _))))
 unfold Builtin.«reversed.__next__»
 refine wpAny_bind (wpAny_of_eq (a:=(Value.ref it,[])) rfl ?_)
 try dsimp only
 refine wpAny_bind (wpAny_field ho hd (x:=.ref l) rfl ?_)
 refine wpAny_bind (wpAny_field ho hd (x:=rawInt (-1)) rfl ?_)
 show wpAny _ _ (if (-1:Int) < 0 then _ else _) _ _ s
 rw [if_pos (by decide)]
 refine wpAny_bind (wpAny_rule ?_)
 have ho1:=Heap.get?_update_self (Obj.mapFields (·.setIfInBounds 1 (rawInt (-1)))) ho (Obj.isFreed_of_fields (Obj.data_mapFields hd _))
 refine wpAny_bind (wpAny_bind (wpAny_setField ho hd (by simp) (wpAny_setField ho1 (Obj.data_mapFields hd _) (by simp) ?_)))
 refine wpAny_bind ?_
 show wpAny _ _ (newExc (.type "StopIteration") [] >>= _) _ _ _
 refine wpAny_bind ?_
 simp only [newExc,newTuple]
 refine wpAny_bind (wpAny_newObj_type ?_ (by size_fits))
 refine wpAny_bind (m:=firstArgMember _ _) (wpAny_of_eq (a:=Value.none) (by first | rfl | (simp only [firstArgMember]; rfl)) ?_)
 refine wpAny_newObj_type ?_ (by size_fits)
 simp only [raiseNew]
 refine wpAny_bind (wpAny_handled ?_)
 first | rw [show A.in1.handled = none from hh] | rw [hh]
 refine wpAny_bind (wpAny_pure (wpAny_throw ?_))
 refine wpAny_bind (wpAny_isInstance (T:="StopIteration") (b:=true) ⟨_,Heap.get?_push_size _ rfl,rfl⟩ isSubtype_stop ?_)
 refine wpAny_pure (hQ _ ((Heap.ExtBut.push ?_ _).push _))
 exact fun b o hb e => ((Heap.SameBut.update ..).2 b hb).trans (((Heap.SameBut.update ..).2 b hb).trans e)
theorem wpAny_pyIter_revT {it l:Addr} {i:Int} {Q:Value → Shared → Prop} (hit:IsRevT s.heap it l i) (h:Q (.ref it) s):wpAny (model prog w) A (pyIter (.ref it)) Q E s:=by
 refine wpAny_pyIter_slot hit.typeIs slot_rev_iter (wpAny_call_entry slot_rev_iter hit.typeIs entry_rev_iter ?_ (args_rev_iter_1 _))
 show wpAny _ _ (ret (.ref it)) _ _ s
 exact wpAny_pure ⟨_,rfl,"reversed",_,hit.typeIs,slot_rev_next.lookup,h⟩
end
noncomputable def Itv (K:PySem.W.Frag) (a:Addr) (n:Nat):It :=
 ⟨fun i H => (∃ xs,SqT K H a xs ∧ xs.length = n) ∧ i < n,fun i H x H' => H' = H ∧ ∀ xs,SqT K H a xs → xs[n - 1 - i]? = some x,fun i _ => n ≤ i⟩
theorem line62:sizeLine < 2 ^ 62:=by decide
theorem turn_rev {P:Program} {w:World} {K:PySem.W.Frag} {tg:Expr} (a it:Addr) (n:Nat):Turn P w K tg (Itv K a n) [it] it (fun i h => i ≤ n ∧ IsRevT h it a ((n:Int) - 1 - (i:Int))) where
 mem:=by simp
 obj:=fun i h st b hb => by
  have e:b = it:=by simpa using hb
  subst e
  obtain ⟨_,o,e,c,d⟩:=st
  exact ⟨o,e,fun v z => by rw [d] at z; cases z⟩
 keep:=fun i h h' st k => ⟨st.1,st.2.at fun o e => k it (by simp) o e⟩
 item:=by
  intro X hP hw hK hc i pins s σ H E I hf st hg
  subst hP hw hK
  obtain ⟨⟨xs,hq,hxl⟩,hi⟩:=hg
  obtain ⟨its,rv,p,hz⟩:=I.tuple hq
  have hlen:=rv.length
  have hxi:n - 1 - i < xs.length:=by omega
  obtain ⟨u,hu,ru⟩:=rv.get (show xs[n - 1 - i]? = some xs[n - 1 - i] by simp [hxi])
  obtain ⟨f0,f1,f2,f3,f4,f5⟩:=hf it (by simp)
  have ei:(n:Int) - 1 - (i:Int) = ((n - 1 - i:Nat):Int):=by omega
  have st2:=st.2
  rw [ei] at st2
  have hsz:its.toArray.size < 2 ^ 62:=by have:=line62; simp; omega
  refine wpAny_pyNext_revT_item st2 p (x:=u) (by simpa using hu) hsz fun h' kk st' sb => ?_
  have I1:Inv X pins σ H { s with heap:=h',toks:=kk }:=I.turned (t':=kk) (fun b o hb e => (sb.2 b hb).trans e) f0 f1 f3 f4 f5
  obtain ⟨o,e,c,d⟩:=id st'
  have e2:((n - 1 - i:Nat):Int) - 1 = (n:Int) - 1 - ((i + 1:Nat):Int):=by omega
  rw [e2] at st'
  exact ⟨u,rfl,go_of (s:={ s with heap:=h',toks:=kk }) e c d (by decide) ⟨xs[n - 1 - i],H,I1,ru,⟨rfl,fun ys hy => by rw [I.tuple_inj hy hq]; simp [hxi]⟩,⟨hi,st'⟩,fun b hb => (hf b hb).1⟩⟩
 done:=by
  intro X hP hw hK hc i pins s σ H E I hf st hg
  subst hP hw hK
  obtain ⟨f0,f1,f2,f3,f4,f5⟩:=hf it (by simp)
  have e:i = n:=Nat.le_antisymm st.1 hg
  subst e
  have st2:=st.2
  rw [show (i:Int) - 1 - (i:Int) = -1 by omega] at st2
  exact wpAny_pyNext_revT_end (I.ok.hd hc) st2 fun h' eb => ⟨rfl,I.turned (t':=s.toks) (fun b o hb e => eb b o hb e) f0 f1 f3 f4 f5⟩
 self:=fun _ _ _ _ _ st h => wpAny_pyIter_revT st.2 h
section
variable {X:Cx} {a b c e:Expr} {es:List Expr} {te ta tb:TEd} {t:TAd} {pos:Pos} {tg iter:Expr}
noncomputable def diRev (ta:TAd):TId:=fun Δ M R => ta Δ M fun ds M1 => ∃ es,ds = [.tup es] ∧ (es.length ≤ sizeLine → R es.reverse M1)
theorem boot_reversed:bootBuiltins "reversed" = some (.type "reversed"):=by kernel_rfl
theorem i_rev {p:Pos} (hg:Gl X "reversed") (hm:X.mg "reversed" = none) (ha:PAd X [a] t) (hs:starEach [a] X.env = [(false,eval a X.env)]:=by rfl):PId X tg (.Call (.Name "reversed" p) [a] [] pos) (diRev t):=by
 intro pins s σ H R I hh
 obtain ⟨Δ,M,R',sr,hr,q,k⟩:=hh
 refine Call_ (ld_blt I hg hm boot_reversed (PyProof.Rows.callWith_type1 (thn (ha pos pins s σ H (fun vs H1 => ∃ es M1,RepL X.K M1 H1 [.tup es] vs ∧ (es.length ≤ sizeLine → R' es.reverse M1) ∧ Ext M H M1 H1 ∧ HR X.K M1 H1) I ⟨Δ,M,_,sr,hr,q,fun ds M1 vs H1 ⟨es,ed,q1⟩ e1 hr1 rv => ⟨es,M1,by rw [← ed]; exact rv,q1,e1,hr1⟩⟩) fun us s1 ⟨vs,H1,I1,r1,es,M1,rv,q1,e1,hr1⟩ => ?_) hs rfl))
 obtain ⟨v,rfl,rt⟩:=rv.one
 cases r1 with
 | cons r rr =>
  cases rr
  have lo:=RepR.len (K:=X.K) I1 rt
  simp only [Rep] at rt
  obtain ⟨ad,vs,rfl,ta,rl⟩:=rt
  cases r
  obtain ⟨its,rvv,pt,hz⟩:=I1.tuple ta.sq
  have hl1:=rvv.length
  have hl2:=rl.length
  have hsz:its.toArray.size < 2 ^ 63:=by have:=line62; simp; omega
  refine call_rev_tuple pt hsz fun kk => ?_
  refine wpAny_pyIter_revT (i:=(its.toArray.size:Int) - 1) ⟨_,Heap.get?_push_size _ rfl,rfl,rfl⟩ ?_
  refine ⟨s1.heap.objs.size,[s1.heap.objs.size],_,_,H1,rfl,I1.kept (t':=kk) fun b o e => Heap.get?_push_of_some _ e,turn_rev ad _ es.length,⟨Nat.zero_le _,_,Heap.get?_push_size _ rfl,rfl,?_⟩,one_it (o:=default) I1,?_⟩
  ·show Data.fields _ = _
   have e1:(its.toArray.size:Int) - 1 = (es.length:Int) - 1 - ((0:Nat):Int):=by simp; omega
   rw [e1]
  ·refine k _ M1 _ H1 (q1 lo) e1 hr1 fun M2 H2 e2 hr2 i => ⟨fun d hd => ?_,fun hl => by show es.length ≤ i; simpa using hl⟩
   have hi:i < es.length:=by
    have:=(List.getElem?_eq_some_iff.mp hd).1
    simpa using this
   rw [List.getElem?_reverse hi] at hd
   obtain ⟨v,gv,r⟩:=rl.get hd
   refine ⟨⟨⟨vs,(ta.ext e2).sq,by omega⟩,hi⟩,fun x H' ⟨eH,y⟩ => ?_⟩
   subst eH
   have:=y vs (ta.ext e2).sq
   rw [gv] at this; cases this
   exact ⟨Ext.refl _ _,hr2,r.ext e2⟩
end
end L2

set_option Elab.async false
set_option linter.all false
set_option maxRecDepth 100000
namespace L2
open PySem PySem.Spec PyProof.Rows
section
variable {X:Cx}
open PySem.SeqAt in
theorem neAt_D {pins:List (Addr × Obj)} {σ:St} {H:Hp} {s:Shared} (I:Inv X pins σ H s) {M M':DH} (n:Nat) {A:Around} {d e:D} {v w:V} {u1 u2:Value} (hu:A.units + (n + 1) < cLine) (hd:dLe d (n + 1) = true) (he:dLe e (n + 1) = true)
  (r1:RepR X.K M H d v) (r2:RepR X.K M' H e w) (q1:RelV v u1) (q2:RelV w u2):RcNeAt A s u1 u2 (!(eqD d e)):=by
 have hu0:A.units < cLine:=by omega
 have hu1:A.in1.units + n < cLine:=by show A.units + 1 + n < cLine; omega
 have item:∀ {ds es:List D} {vs ws:List V} {us us2:List Value},dLes ds n = true → dLes es n = true → RepL X.K M H ds vs → RepL X.K M' H es ws → Vals vs us → Vals ws us2 →
   ∀ j (h1:j < us.toArray.size) (h2:j < us2.toArray.size),EqAt A.in1 s us.toArray[j] us2.toArray[j] (eqN ds es j):=by
  intro ds es vs ws us us2 d1 d2 h1 h2 h3 h4 j hj1 hj2
  have l1:=h1.length
  have l2:=h2.length
  have l3:=h3.length
  have l4:=h4.length
  have j1:j < ds.length:=by simp at hj1; omega
  have j2:j < es.length:=by simp at hj2; omega
  obtain ⟨v1,g1,p1⟩:=h1.get (i:=j) (d:=ds[j]) (by simp [j1])
  obtain ⟨v2,g2,p2⟩:=h2.get (i:=j) (d:=es[j]) (by simp [j2])
  obtain ⟨u1,k1,m1⟩:=h3.get g1
  obtain ⟨u2,k2,m2⟩:=h4.get g2
  have e1:us.toArray[j] = u1:=by
   simp at hj1
   simpa [List.getElem?_eq_getElem hj1] using k1
  have e2:us2.toArray[j] = u2:=by
   simp at hj2
   simpa [List.getElem?_eq_getElem hj2] using k2
  rw [e1,e2]
  have e3:eqN ds es j = eqD ds[j] es[j]:=by simp [eqN,j1,j2]
  rw [e3]
  exact (eqAt_D I n hu1 (dLes_get d1 (i:=j) (by simp [j1])) (dLes_get d2 (i:=j) (by simp [j2])) p1.r p2.r m1 m2).1
 cases d with
 | tup ds =>
  obtain ⟨a,vs,rfl,sq,rl⟩:=id r1
  cases q1
  obtain ⟨its,rv,pt,_⟩:=I.tuple sq
  have hd':dLes ds n = true:=by simpa [dLe] using hd
  cases e with
  | tup es =>
   obtain ⟨b,ws,rfl,sq',rl'⟩:=id r2
   cases q2
   obtain ⟨its2,rv2,pt2,_⟩:=I.tuple sq'
   have he':dLes es n = true:=by simpa [dLe] using he
   have:=RcNeAt.tuples (e:=eqN ds es) pt pt2 hu0 (item hd' he' rl rl' rv rv2)
   rw [List.size_toArray,List.size_toArray,← rv.length,← rv2.length,← rl.length,← rl'.length,← eqDs_all] at this
   simpa only [eqD] using this
  | lst es =>
   obtain ⟨b,ws,rfl,sq',rl'⟩:=id r2
   cases q2
   obtain ⟨its2,rv2,pt2,_⟩:=I.list (SqL.of sq')
   simp only [eqD,Bool.not_false]
   exact RcNeAt.tuple_list pt pt2.isList hu0
  | non => simp only [RepR,Rep] at r2; subst r2; simp only [RelV] at q2; subst q2; simp only [eqD,Bool.not_false]; exact RcNeAt.tuple_none pt hu0
  | bl b => simp only [RepR,Rep] at r2; subst r2; simp only [RelV] at q2; subst q2; simp only [eqD,Bool.not_false]; exact RcNeAt.tuple_bool _ pt hu0
  | int b => simp only [RepR,Rep] at r2; subst r2; simp only [RelV] at q2; obtain ⟨t,rfl⟩:=q2; simp only [eqD,Bool.not_false]; exact RcNeAt.tuple_int _ _ pt hu0
  | str b => simp only [RepR,Rep] at r2; subst r2; simp only [RelV] at q2; obtain ⟨t,rfl⟩:=q2; simp only [eqD,Bool.not_false]; exact RcNeAt.tuple_str _ _ pt hu0
  | _ => simp [dLe] at he
 | lst ds =>
  obtain ⟨a,vs,rfl,sq,rl⟩:=id r1
  cases q1
  obtain ⟨its,rv,pt,_⟩:=I.list (SqL.of sq)
  have hd':dLes ds n = true:=by simpa [dLe] using hd
  cases e with
  | lst es =>
   obtain ⟨b,ws,rfl,sq',rl'⟩:=id r2
   cases q2
   obtain ⟨its2,rv2,pt2,_⟩:=I.list (SqL.of sq')
   have he':dLes es n = true:=by simpa [dLe] using he
   by_cases hl:ds.length = es.length
   ·have hsz:its.toArray.size = its2.toArray.size:=by rw [List.size_toArray,List.size_toArray,← rv.length,← rv2.length,← rl.length,← rl'.length]; exact hl
    have:=RcNeAt.lists (e:=eqN ds es) pt.isList pt2.isList hsz hu0 (item hd' he' rl rl' rv rv2)
    rw [List.size_toArray,← rv.length,← rl.length,← eqDs_all' hl] at this
    simpa only [eqD] using this
   ·have hsz:(its.toArray.size != its2.toArray.size) = true:=by rw [List.size_toArray,List.size_toArray,← rv.length,← rv2.length,← rl.length,← rl'.length]; simpa using hl
    have:=RcNeAt.lists_lengths pt.isList pt2.isList hsz hu0
    have e0:eqD (.lst ds) (.lst es) = false:=by
     simp only [eqD]
     cases q:eqDs ds es with
     | false => rfl
     | true => exact absurd (eqDs_len q) hl
    rw [e0]; exact this
  | tup es =>
   obtain ⟨b,ws,rfl,sq',rl'⟩:=id r2
   cases q2
   obtain ⟨its2,rv2,pt2,_⟩:=I.tuple sq'
   simp only [eqD,Bool.not_false]
   exact RcNeAt.list_tuple pt.isList pt2 hu0
  | non => simp only [RepR,Rep] at r2; subst r2; simp only [RelV] at q2; subst q2; simp only [eqD,Bool.not_false]; exact RcNeAt.list_none pt.isList hu0
  | bl b => simp only [RepR,Rep] at r2; subst r2; simp only [RelV] at q2; subst q2; simp only [eqD,Bool.not_false]; exact RcNeAt.list_bool _ pt.isList hu0
  | int b => simp only [RepR,Rep] at r2; subst r2; simp only [RelV] at q2; obtain ⟨t,rfl⟩:=q2; simp only [eqD,Bool.not_false]; exact RcNeAt.list_int _ _ pt.isList hu0
  | str b => simp only [RepR,Rep] at r2; subst r2; simp only [RelV] at q2; obtain ⟨t,rfl⟩:=q2; simp only [eqD,Bool.not_false]; exact RcNeAt.list_str _ _ pt.isList hu0
  | _ => simp [dLe] at he
 | non =>
  simp only [RepR,Rep] at r1; subst r1; simp only [RelV] at q1; subst q1
  cases e with
  | tup es => obtain ⟨b,ws,rfl,sq',rl'⟩:=id r2; cases q2; obtain ⟨its2,rv2,pt2,_⟩:=I.tuple sq'; simp only [eqD,Bool.not_false]; exact RcNeAt.none_tuple pt2 hu0
  | lst es => obtain ⟨b,ws,rfl,sq',rl'⟩:=id r2; cases q2; obtain ⟨its2,rv2,pt2,_⟩:=I.list (SqL.of sq'); simp only [eqD,Bool.not_false]; exact RcNeAt.none_list pt2.isList hu0
  | non => simp only [RepR,Rep] at r2; subst r2; simp only [RelV] at q2; subst q2; simp only [eqD,Bool.not_true]; exact RcNeAt.none_none
  | bl b => simp only [RepR,Rep] at r2; subst r2; simp only [RelV] at q2; subst q2; simp only [eqD,Bool.not_false]; exact RcNeAt.none_bool _
  | int b => simp only [RepR,Rep] at r2; subst r2; simp only [RelV] at q2; obtain ⟨t,rfl⟩:=q2; simp only [eqD,Bool.not_false]; exact RcNeAt.none_int _ _
  | str b => simp only [RepR,Rep] at r2; subst r2; simp only [RelV] at q2; obtain ⟨t,rfl⟩:=q2; simp only [eqD,Bool.not_false]; exact RcNeAt.none_str _ _
  | _ => simp [dLe] at he
 | bl a =>
  simp only [RepR,Rep] at r1; subst r1; simp only [RelV] at q1; subst q1
  cases e with
  | tup es => obtain ⟨b,ws,rfl,sq',rl'⟩:=id r2; cases q2; obtain ⟨its2,rv2,pt2,_⟩:=I.tuple sq'; simp only [eqD,Bool.not_false]; exact RcNeAt.bool_tuple _ pt2 hu0
  | lst es => obtain ⟨b,ws,rfl,sq',rl'⟩:=id r2; cases q2; obtain ⟨its2,rv2,pt2,_⟩:=I.list (SqL.of sq'); simp only [eqD,Bool.not_false]; exact RcNeAt.bool_list _ pt2.isList hu0
  | non => simp only [RepR,Rep] at r2; subst r2; simp only [RelV] at q2; subst q2; simp only [eqD,Bool.not_false]; exact RcNeAt.bool_none _
  | bl b => simp only [RepR,Rep] at r2; subst r2; simp only [RelV] at q2; subst q2; simp only [eqD]; exact RcNeAt.bool_bool _ _
  | int b => simp only [RepR,Rep] at r2; subst r2; simp only [RelV] at q2; obtain ⟨t,rfl⟩:=q2; simp only [eqD]; exact RcNeAt.bool_int _ _ _
  | str b => simp only [RepR,Rep] at r2; subst r2; simp only [RelV] at q2; obtain ⟨t,rfl⟩:=q2; simp only [eqD,Bool.not_false]; exact RcNeAt.bool_str _ _ _
  | _ => simp [dLe] at he
 | int a =>
  simp only [RepR,Rep] at r1; subst r1; simp only [RelV] at q1; obtain ⟨t1,rfl⟩:=q1
  cases e with
  | tup es => obtain ⟨b,ws,rfl,sq',rl'⟩:=id r2; cases q2; obtain ⟨its2,rv2,pt2,_⟩:=I.tuple sq'; simp only [eqD,Bool.not_false]; exact RcNeAt.int_tuple _ _ pt2 hu0
  | lst es => obtain ⟨b,ws,rfl,sq',rl'⟩:=id r2; cases q2; obtain ⟨its2,rv2,pt2,_⟩:=I.list (SqL.of sq'); simp only [eqD,Bool.not_false]; exact RcNeAt.int_list _ _ pt2.isList hu0
  | non => simp only [RepR,Rep] at r2; subst r2; simp only [RelV] at q2; subst q2; simp only [eqD,Bool.not_false]; exact RcNeAt.int_none _ _
  | bl b => simp only [RepR,Rep] at r2; subst r2; simp only [RelV] at q2; subst q2; simp only [eqD]; exact RcNeAt.int_bool _ _ _
  | int b => simp only [RepR,Rep] at r2; subst r2; simp only [RelV] at q2; obtain ⟨t,rfl⟩:=q2; simp only [eqD]; exact RcNeAt.int_int _ _ _ _
  | str b => simp only [RepR,Rep] at r2; subst r2; simp only [RelV] at q2; obtain ⟨t,rfl⟩:=q2; simp only [eqD,Bool.not_false]; exact RcNeAt.int_str _ _ _ _
  | _ => simp [dLe] at he
 | str a =>
  simp only [RepR,Rep] at r1; subst r1; simp only [RelV] at q1; obtain ⟨t1,rfl⟩:=q1
  cases e with
  | tup es => obtain ⟨b,ws,rfl,sq',rl'⟩:=id r2; cases q2; obtain ⟨its2,rv2,pt2,_⟩:=I.tuple sq'; simp only [eqD,Bool.not_false]; exact RcNeAt.str_tuple _ _ pt2 hu0
  | lst es => obtain ⟨b,ws,rfl,sq',rl'⟩:=id r2; cases q2; obtain ⟨its2,rv2,pt2,_⟩:=I.list (SqL.of sq'); simp only [eqD,Bool.not_false]; exact RcNeAt.str_list _ _ pt2.isList hu0
  | non => simp only [RepR,Rep] at r2; subst r2; simp only [RelV] at q2; subst q2; simp only [eqD,Bool.not_false]; exact RcNeAt.str_none _ _
  | bl b => simp only [RepR,Rep] at r2; subst r2; simp only [RelV] at q2; subst q2; simp only [eqD,Bool.not_false]; exact RcNeAt.str_bool _ _ _
  | int b => simp only [RepR,Rep] at r2; subst r2; simp only [RelV] at q2; obtain ⟨t,rfl⟩:=q2; simp only [eqD,Bool.not_false]; exact RcNeAt.str_int _ _ _ _
  | str b => simp only [RepR,Rep] at r2; subst r2; simp only [RelV] at q2; obtain ⟨t,rfl⟩:=q2; simp only [eqD]; exact RcNeAt.str_str _ _ _ _
  | _ => simp [dLe] at he
 | _ => simp [dLe] at hd
noncomputable def neF (x y:D):Option D:=if dLe x 60 = true ∧ dLe y 60 = true then some (.bl (!(eqD x y))) else none
theorem o_ne (hu:X.A.units + 64 < cLine):OpRd X (compareOp .NotEq) neF:=by
 intro pins s σ H M x y v u dx dy dz Q I hr rx ry r1 r2 e k
 unfold neF at e
 by_cases hc:dLe dx 60 = true ∧ dLe dy 60 = true
 ·rw [if_pos hc] at e; cases e
  exact neAt_D I 59 (A:=X.A) (by omega) hc.1 hc.2 r1 r2 rx ry X.prog X.w X.xe _ ⟨.bl (!(eqD dx dy)),H,I,rfl,k _ H (Ext.refl _ _) hr (by simp [Rep])⟩
 ·rw [if_neg hc] at e; cases e
theorem neF_ii {a b:Int}:neF (.int a) (.int b) = some (.bl (!(a == b))):=by simp [neF,dLe,eqD]
theorem neF_ss {a b:Str}:neF (.str a) (.str b) = some (.bl (!(a == b))):=by simp [neF,dLe,eqD]
theorem neF_bb {a b:Bool}:neF (.bl a) (.bl b) = some (.bl (!(a == b))):=by simp [neF,dLe,eqD]
end
end L2

set_option Elab.async false
set_option linter.all false
set_option maxRecDepth 100000
namespace HT
open PySem PyProof.Rows
section
variable {prog:Program} {w:World} {A:Around} {E:Value → Shared → Prop} {s:Shared}
theorem tupleIsExact_ {t:Addr} {items:Array Value} {Q:Bool → Shared → Prop} (ht:IsTup s.heap t items) (h:Q true s):wpAny (model prog w) A (Builtin.Tuple.tupleIsExact (.ref t)) Q E s:=by
 unfold Builtin.Tuple.tupleIsExact
 exact wpAny_bind (wpAny_typeOf ht.typeIs (wpAny_pure (by simpa using h)))
theorem getItem_tuple_whole {t sl:Addr} {items:Array Value} {vl vu:Value} {lo hi:Option Int} {Q:Value → Shared → Prop} (ht:IsTup s.heap t items) (hs:s.heap.IsSliceOf sl vl vu .none) (pl:IsPart vl lo) (pu:IsPart vu hi)
  (hw:sIx items.size 0 lo = 0 ∧ sIx items.size items.size hi = items.size) (h:Q (.ref t) s):wpAny (model prog w) A (getItem (.ref t) (.ref sl)) Q E s:=by
 obtain ⟨os,hos,hcs,hds⟩:=id hs
 have hTs:s.TypeIs (.ref sl) "slice":=⟨os,hos,hcs⟩
 unfold getItem
 try with_reducible refine wpAny_holding ?_
 first | refine wpAny_bind (wpAny_pure ?_) | skip
 refine wpAny_bind (wpAny_sequenceKey ht.typeIs (by decide) ?_)
 refine wpAny_bind (wpAny_callSpecial?_slot (name:=Str.ofString "__getitem__") ht.typeIs PyProof.Rows.slot_tuple_getitem
  (wpAny_call_entry PyProof.Rows.slot_tuple_getitem ht.typeIs entry_tuple_getitem ?_ (args_tuple_getitem _ _)))
 show wpAny _ _ (Builtin.Tuple.tupleItemsOf (.ref t) >>= _) _ _ s
 refine wpAny_bind (tupleItemsOf_ ht ?_)
 refine wpAny_bind (wpAny_typeOf hTs ?_)
 rw [if_pos (by decide)]
 refine wpAny_bind (sliceApplied_gen hs pl pu ?_)
 show wpAny _ _ (if (((sIx items.size 0 lo:Nat):Int) == 0 && (1:Int) == 1 && (sIx items.size items.size hi - sIx items.size 0 lo) == items.size) = true then _ else _) _ _ s
 rw [if_pos (by rw [hw.1,hw.2]; simp)]
 refine wpAny_bind (tupleIsExact_ ht ?_)
 rw [if_pos rfl]
 refine wpAny_bind (wpAny_rule ?_)
 first
  | exact wpAny_pure ⟨_,rfl,wpAny_pure h⟩
  | exact wpAny_bind (wpAny_pure (wpAny_pure ⟨_,rfl,wpAny_pure h⟩))
theorem sliceApplied_rev {sl:Addr} {tk:Tok} {n:Nat} {Q:Int × Int × Nat → Shared → Prop} (hs:s.heap.IsSliceOf sl .none .none (.int (-1) tk))
  (h:Q ((n:Int) - 1,-1,n) s):wpAny (model prog w) A (Builtin.Slice.sliceApplied (.ref sl) (pure (n:Int))) Q E s:=by
 obtain ⟨os,hos,hcs,hds⟩:=id hs
 unfold Builtin.Slice.sliceApplied Builtin.Slice.sliceFields
 refine wpAny_bind (wpAny_bind (wpAny_field hos hds (x:=.none) rfl (wpAny_bind (wpAny_field hos hds (x:=.none) rfl (wpAny_bind (wpAny_field hos hds (x:=.int (-1) tk) rfl (wpAny_pure ?_)))))))
 refine wpAny_bind (slicePart_int ?_)
 show wpAny _ _ (if ((-1:Int) == 0) = true then _ else _) _ _ s
 rw [if_neg (by decide)]
 refine wpAny_bind (slicePart_none (wpAny_bind (slicePart_none (wpAny_bind (wpAny_pure ?_)))))
 show wpAny _ _ (pure ((n:Int) - 1,(-1:Int),Builtin.Slice.slicePlaces ((n:Int) - 1) (-1) (-1))) _ _ s
 have e:Builtin.Slice.slicePlaces ((n:Int) - 1) (-1) (-1) = n:=by
  unfold Builtin.Slice.slicePlaces
  simp only [show ¬ ((-1:Int) > 0) by omega,if_false]
  split <;> simp <;> omega
 rw [e]
 exact wpAny_pure h
theorem pick_rev (xs:Array Value):((List.range xs.size).filterMap fun (m:Nat) => xs[((xs.size:Int) - 1 + (m:Int) * -1).toNat]?) = xs.toList.reverse:=by
 have:∀ k,k ≤ xs.size → ((List.range k).filterMap fun (m:Nat) => xs[((xs.size:Int) - 1 + (m:Int) * -1).toNat]?) = xs.toList.reverse.take k:=by
  intro k
  induction k with
  | zero => intro _; simp
  | succ k ih =>
   intro hk
   rw [List.range_succ,List.filterMap_append,ih (by omega)]
   have e1:((xs.size:Int) - 1 + (k:Int) * -1).toNat = xs.size - 1 - k:=by omega
   have e2:xs[xs.size - 1 - k]? = some xs[xs.size - 1 - k]:=by simp [show xs.size - 1 - k < xs.size by omega]
   have e3:xs.toList.reverse[k]? = some xs[xs.size - 1 - k]:=by
    rw [List.getElem?_reverse (by simp; omega)]
    simpa using e2
   rw [List.take_add_one,e3]
   have e4:(List.filterMap (fun (m:Nat) => xs[((xs.size:Int) - 1 + (m:Int) * -1).toNat]?) [k]) = [xs[xs.size - 1 - k]]:=by
    rw [List.filterMap_cons,e1,e2]; rfl
   rw [e4]; rfl
 rw [this xs.size (Nat.le_refl _)]
 exact List.take_of_length_le (by simp)
theorem getItem_tuple_rev {t sl:Addr} {items:Array Value} {tk:Tok} {Q:Value → Shared → Prop} (ht:IsTup s.heap t items) (hs:s.heap.IsSliceOf sl .none .none (.int (-1) tk))
  (h:Q (.ref s.heap.objs.size) { s with heap:=s.heap.push { cls:=.type "tuple",data:=.seq items.toList.reverse.toArray } }) (hsz:items.size ≤ sizeLine):wpAny (model prog w) A (getItem (.ref t) (.ref sl)) Q E s:=by
 have htake:sizeOk (.seq items.toList.reverse.toArray):=by
  show items.toList.reverse.toArray.size ≤ sizeLine
  simpa using hsz
 obtain ⟨os,hos,hcs,hds⟩:=id hs
 have hTs:s.TypeIs (.ref sl) "slice":=⟨os,hos,hcs⟩
 unfold getItem
 try with_reducible refine wpAny_holding ?_
 first | refine wpAny_bind (wpAny_pure ?_) | skip
 refine wpAny_bind (wpAny_sequenceKey ht.typeIs (by decide) ?_)
 refine wpAny_bind (wpAny_callSpecial?_slot (name:=Str.ofString "__getitem__") ht.typeIs PyProof.Rows.slot_tuple_getitem
  (wpAny_call_entry PyProof.Rows.slot_tuple_getitem ht.typeIs entry_tuple_getitem ?_ (args_tuple_getitem _ _)))
 show wpAny _ _ (Builtin.Tuple.tupleItemsOf (.ref t) >>= _) _ _ s
 refine wpAny_bind (tupleItemsOf_ ht ?_)
 refine wpAny_bind (wpAny_typeOf hTs ?_)
 rw [if_pos (by decide)]
 refine wpAny_bind (sliceApplied_rev hs ?_)
 show wpAny _ _ (if ((((items.size:Int) - 1) == 0 && (-1:Int) == 1 && items.size == items.size) = true) then _ else _) _ _ s
 rw [if_neg (by simp),pick_rev]
 first
  | exact wpAny_bind (m:=Builtin.Tuple.tupleExact _) (wpAny_newObj_type (wpAny_pure ⟨_,rfl,wpAny_pure h⟩) htake)
  | exact wpAny_bind (m:=Builtin.Tuple.tupleExact _) (wpAny_newObj_type (wpAny_bind (wpAny_pure (wpAny_pure ⟨_,rfl,wpAny_pure h⟩))) htake)
  | exact wpAny_bind (wpAny_bind (m:=Builtin.Tuple.tupleExact _) (wpAny_newObj_type (wpAny_pure (wpAny_pure ⟨_,rfl,wpAny_pure h⟩)) htake))
  | exact wpAny_bind (wpAny_bind (m:=Builtin.Tuple.tupleExact _) (wpAny_newObj_type (wpAny_pure ⟨_,rfl,wpAny_pure h⟩) htake))
end
end HT
namespace L2
open PySem PySem.Spec PyProof.Rows
section
variable {X:Cx} {a b c e:Expr} {es:List Expr} {te ta tb ts:TEd} {t:TAd} {pos:Pos}
/-! ### slices of tuples,the whole one too -/
noncomputable def slE:D → Option Int → Option Int → Option D
 | .tup ds,lo,hi => some (.tup (cutD ds lo hi))
 | d,lo,hi => slD d lo hi
noncomputable def rSlW (K:PySem.W.Frag):V → Option Int → Option Int → Hp → VK → Prop:=fun x lo hi H Q => ∃ a xs,x = .ref a ∧ SqT K H a xs ∧ (HT.sIx xs.length 0 lo = 0 ∧ HT.sIx xs.length xs.length hi = xs.length) ∧ Q (.ref a) H
theorem sl_whole:SlR X (rSlW X.K):=by
 intro pins s σ H x v vl vu lo hi sl Q I rx hs pl pu h
 obtain ⟨a,xs,rfl,hx,hw,q⟩:=h
 cases rx
 obtain ⟨its,r,ht,hz⟩:=I.tuple hx
 have hlen:its.toArray.size = xs.length:=by rw [List.size_toArray]; exact r.length.symm
 exact ⟨"tuple",_,PyProof.Rows.slot_tuple_getitem.lookup,ht.typeIs,HT.getItem_tuple_whole ht hs pl pu (by rw [hlen]; exact hw) ⟨.ref a,H,I,rfl,q⟩⟩
theorem cutD_whole {ds:List D} {lo hi:Option Int} (h:HT.sIx ds.length 0 lo = 0 ∧ HT.sIx ds.length ds.length hi = ds.length):cutD ds lo hi = ds:=by
 unfold cutD
 rw [h.1,h.2]; simp
noncomputable def dSlE (te:TEd) (tl th:TOd):TEd:=fun Δ M Q => te Δ M fun x M1 => tl Δ M1 fun l M2 => th Δ M2 fun u M3 => ∃ z,slE (rdM M3 x) l u = some z ∧ Q z M3
theorem d_sliceE {lo hi:Option Expr} {tl th:TOd} {p2:Pos} (he:PEd X e te) (hl:POd X lo tl) (hu:POd X hi th):PEd X (.Subscript e (.Slice lo hi none p2) pos) (dSlE te tl th):=by
 refine (pe_slice (SlR.or sl_list (SlR.or sl_tup (SlR.or sl_str sl_whole))) he hl hu).conv fun σ H Q hh => ?_
 obtain ⟨Δ,M,R,sr,hr,q,k⟩:=hh
 refine ⟨Δ,M,_,sr,hr,q,fun x M1 v H1 q1 e1 hr1 rv => ⟨Δ,M1,_,sr.ext e1,hr1,q1,fun l M2 H2 q2 e2 hr2 => ⟨Δ,M2,_,(sr.ext e1).ext e2,hr2,q2,fun u M3 H3 ⟨z,ez,q3⟩ e3 hr3 => ?_⟩⟩⟩
 have rr:=((rv.ext e2).ext e3).rd hr3
 have ee:=(e1.trans e2).trans e3
 have kk:∀ w H',Ext M3 H3 M3 H' → HR X.K M3 H' → Rep X.K M3 H' z w → Q w H':=fun w H' e4 hr4 r4 => k z M3 w H' q3 (ee.trans e4) hr4 r4
 generalize rdM M3 x = d at rr ez
 cases d with
 | lst ds =>
  cases ez
  obtain ⟨a,vs,rfl,sq,rl⟩:=rr
  refine .inl ⟨a,vs,rfl,SqL.of sq,fun p hp => freshL hr3 hp ?_ kk⟩
  unfold cutD cutV
  rw [← rl.length]
  exact (rl.drop _).take _
 | scr ds =>
  cases ez
  obtain ⟨a,vs,rfl,sq,rl⟩:=rr
  refine .inl ⟨a,vs,rfl,sq,fun p hp => freshL hr3 hp ?_ kk⟩
  unfold cutD cutV
  rw [← rl.length]
  exact (rl.drop _).take _
 | str s =>
  simp only [slE,slD] at ez
  by_cases hz:s.length ≤ sizeLine
  ·rw [if_pos hz] at ez; cases ez
   exact .inr (.inr (.inl ⟨s,rStr rr,hz,kk _ H3 (Ext.refl _ _) hr3 (by simp [Rep])⟩))
  ·rw [if_neg hz] at ez; cases ez
 | tup ds =>
  cases ez
  have rt:=RepR.tup hr3 rr
  obtain ⟨a,vs,rfl,sq,rl⟩:=rr
  by_cases hw:HT.sIx ds.length 0 l = 0 ∧ HT.sIx ds.length ds.length u = ds.length
  ·refine .inr (.inr (.inr ⟨a,vs,rfl,sq,by rw [← rl.length]; exact hw,kk _ H3 (Ext.refl _ _) hr3 ?_⟩))
   rw [cutD_whole hw]
   exact rt
  ·refine .inr (.inl ⟨a,vs,rfl,sq,by rw [← rl.length]; exact hw,fun p hp => freshT hr3 hp ?_ kk⟩)
   unfold cutD cutV
   rw [← rl.length]
   exact (rl.drop _).take _
 | _ => cases ez
theorem slE_t {ds:List D} {lo hi:Option Int}:slE (.tup ds) lo hi = some (.tup (cutD ds lo hi)):=rfl
theorem slE_l {ds:List D} {lo hi:Option Int}:slE (.lst ds) lo hi = some (.lst (cutD ds lo hi)):=rfl
theorem slE_c {ds:List D} {lo hi:Option Int}:slE (.scr ds) lo hi = some (.lst (cutD ds lo hi)):=rfl
theorem slE_s {x:Str} {lo hi:Option Int}:slE (.str x) lo hi = if x.length ≤ sizeLine then some (.str (Txt.slice x lo hi)) else none:=rfl
/-! ### t[::-1] -/
theorem RepL.reverse {K:PySem.W.Frag} {M:DH} {H:Hp}:∀ {ds:List D} {vs:List V},RepL K M H ds vs → RepL K M H ds.reverse vs.reverse
 | [],_,h => by simp only [RepL] at h; subst h; exact RepL.nil
 | d :: ds,_,h => by
  simp only [RepL] at h
  obtain ⟨v,ws,rfl,h1,h2⟩:=h
  rw [List.reverse_cons,List.reverse_cons]
  exact (RepL.reverse h2).append (RepL.cons h1 RepL.nil)
noncomputable def dRevSl (te ts:TEd):TEd:=fun Δ M Q => te Δ M fun x M1 => ts Δ M1 fun st M2 => st = .int (-1) ∧ ∃ ds,x = .tup ds ∧ Q (.tup ds.reverse) M2
theorem d_sliceR {st:Expr} {p2:Pos} (he:PEd X e te) (hs:PEd X st ts):PEd X (.Subscript e (.Slice none none (some st) p2) pos) (dRevSl te ts):=by
 intro pins s σ H Q I hh
 obtain ⟨Δ,M,R,sr,hr,q,k⟩:=hh
 refine Subscript_ (thn (he pins s σ H (fun v H1 => ∃ x M1,Rep X.K M1 H1 x v ∧ Ext M H M1 H1 ∧ HR X.K M1 H1 ∧ ts Δ M1 fun st M2 => st = .int (-1) ∧ ∃ ds,x = .tup ds ∧ R (.tup ds.reverse) M2) I
  ⟨Δ,M,_,sr,hr,q,fun x M1 v H1 q1 e1 hr1 rv => ⟨x,M1,rv,e1,hr1,q1⟩⟩) fun v s1 ⟨vx,H1,I1,r1,x,M1,rv,e1,hr1,q1⟩ => ?_)
 refine wpAny_Slice ?_
 rw [evalPart_none]
 refine wpAny_pure (wpAny_pure ?_)
 rw [evalPart_some]
 refine thn (hs pins s1 σ H1 (fun u H2 => ∃ M2 ds,u = .int (-1) ∧ x = .tup ds ∧ R (.tup ds.reverse) M2 ∧ Ext M1 H1 M2 H2 ∧ HR X.K M2 H2) I1 ⟨Δ,M1,_,sr.ext e1,hr1,q1,fun d M2 u H2 ⟨ed,ds,ex,q2⟩ e2 hr2 ru => ⟨M2,ds,by subst ed; simpa only [Rep] using ru,ex,q2,e2,hr2⟩⟩) fun u s2 ⟨vu,H2,I2,r2,M2,ds,eu,ex,q2,e2,hr2⟩ => ?_
 subst eu
 subst ex
 obtain ⟨tk,rfl⟩:=r2
 have rv2:=rv.ext e2
 simp only [Rep] at rv2
 obtain ⟨ad,vs,rfl,ta,rl⟩:=rv2
 cases r1
 have I4:Inv X pins σ H2 { s2 with heap:=s2.heap.push { cls:=.type "slice",data:=.fields #[.none,.none,.int (-1) tk] } }:=I2.kept (t':=s2.toks) fun b ob q => Heap.get?_push_of_some _ q
 obtain ⟨its,r,ht,hz⟩:=I4.tuple ta.sq
 have hl:=r.length
 refine tail_any (ops:=[.ref ad,.ref s2.heap.objs.size]) ht.typeIs PyProof.Rows.slot_tuple_getitem.lookup (HT.getItem_tuple_rev ht (Heap.IsSliceOf.new ..) ?_ (by rw [List.size_toArray,← hl]; exact hz)) (by with_unfolding_all rfl)
 have rr:Vals vs.reverse its.reverse:=Vals.reverse r
 refine ⟨.ref _,_,I4.laid (t':=s2.toks) (o:=.tup vs.reverse) (fun b ob q => Heap.get?_push_of_some _ q) (Nat.le_refl _) ?_,rfl,?_⟩
 ·exact ⟨by simpa using hz,_,rr,TupN.new _ _⟩
 ·exact freshT (ds:=ds.reverse) hr2 (I4.hok.fresh (Nat.le_refl _)) rl.reverse fun w H' e4 hr4 r4 => k _ M2 w H' q2 ((e1.trans e2).trans e4) hr4 r4
noncomputable def dNever:TSd:=fun _ _ _ => False
theorem d_never {st:Stmt}:PSd X st dNever:=fun pins s σ H D I ⟨_,_,_,_,_,q,_⟩ => False.elim q
variable {scope:Scope} {cl:List (Str × Addr)} {extra:List Str} {tg:Expr}
noncomputable def PGsa (X:Cx) (scope:Scope) (cl:List (Str × Addr)) (extra:List Str) (tgs:List Expr) (g:GDs):Prop:=∃ gv:TGs,(∀ C s H ex,PGs (cxComp X scope cl (X.N ++ extra) C s H ex) tgs gv) ∧ ∀ (ds:List D) (vs:List V) (σ:St) (Δ Δ':DE) (M:DH) (H:Hp) (Q:St → Hp → Prop),SR X.K M H σ Δ → HR X.K M H → RepL X.K M H ds vs → g ds Δ = some Δ' → (∀ σ',SR X.K M H σ' Δ' → Q σ' H) → gv vs σ H Q
theorem gs_nil:PGsa X scope cl extra [] gdNil:=⟨gNil,fun _ _ _ _ => pgs_nil,fun ds vs σ Δ Δ' M H Q sr hr rv e k => by
 cases ds with
 | nil => simp only [RepL] at rv; subst rv; cases e; exact ⟨rfl,k _ sr⟩
 | cons _ _ => cases e⟩
theorem gs_cons {tgs:List Expr} {g:GD} {gs:GDs} (h1:PGa X scope cl extra tg g) (h2:PGsa X scope cl extra tgs gs)
  (hs:∀ env,(assignEach (tg :: tgs) env).map (·.2) = assign tg env :: (assignEach tgs env).map (·.2):=by intro _; rfl):PGsa X scope cl extra (tg :: tgs) (gdCons g gs):=by
 obtain ⟨g1,p1,k1⟩:=h1
 obtain ⟨g2,p2,k2⟩:=h2
 refine ⟨gCons g1 g2,fun C s H ex => pgs_cons (p1 C s H ex) (p2 C s H ex) (hs _),fun ds vs σ Δ Δ' M H Q sr hr rv e k => ?_⟩
 cases ds with
 | nil => cases e
 | cons d r =>
  simp only [RepL] at rv
  obtain ⟨v,ws,rfl,h3,h4⟩:=rv
  simp only [gdCons] at e
  cases q:g d Δ with
  | none => rw [q] at e; cases e
  | some Δ1 =>
   rw [q] at e
   exact ⟨v,ws,rfl,k1 d v σ Δ Δ1 M H _ sr hr h3 q fun σ1 sr1 => k2 r ws σ1 Δ1 Δ' M H Q sr1 hr h4 e k⟩
theorem ga_tup {tgs:List Expr} {kx:Nat} {g:GDs} {n:Nat} (hc:X.calm = true) (h:PGsa X scope cl extra tgs g) (hn:∀ env,(assignEach tgs env).length = n:=by intro _; rfl) (hst:∀ env,(assignEach tgs env).findIdx? (·.1) = none:=by intro _; rfl):PGa X scope cl extra (.Tuple tgs kx pos) (gdTup g n):=by
 obtain ⟨g1,p1,k1⟩:=h
 refine ⟨gTup X.K n g1,fun C s H ex => pg_tup (X:=cxComp X scope cl (X.N ++ extra) C s H ex) hc (p1 C s H ex) (hn _) (hst _),fun d v σ Δ Δ' M H Q sr hr rv e k => ?_⟩
 cases d with
 | tup ds =>
  simp only [gdTup] at e
  by_cases hl:ds.length = n
  ·rw [if_pos hl] at e
   simp only [Rep] at rv
   obtain ⟨a,vs,rfl,ta,rl⟩:=rv
   exact ⟨a,vs,rfl,ta.sq,by rw [← rl.length]; exact hl,k1 ds vs σ Δ Δ' M H Q sr hr rl e k⟩
  ·rw [if_neg hl] at e; cases e
 | _ => cases e
end
end L2

set_option Elab.async false
set_option linter.all false
set_option maxRecDepth 100000
namespace L2
open PySem PySem.Spec PyProof.Rows
section
variable {X:Cx} {a b c e:Expr} {es:List Expr} {te ta tb ts:TEd} {t:TAd} {pos:Pos}
/-! ### in,not in: a text within a text,too -/
noncomputable def inE (neg:Bool) (x y:D):Option D:=match y with
 | .str j => match x with
  | .str i => some (.bl (xor neg (!(Builtin.Str.occurrences j i 0 j.length 1).isEmpty)))
  | _ => none
 | y => inD neg x y
theorem o_inE:OpRd X (compareOp .In) (inE false):=by
 intro pins s σ H M x y v u dx dy dz Q I hr rx ry r1 r2 e k
 cases dy with
 | str j =>
  cases dx with
  | str i =>
   cases e
   exact op_in_str pins s σ H x y v u Q I rx ry ⟨i,j,rStr r1,rStr r2,k _ H (Ext.refl _ _) hr (by simp [Rep])⟩
  | _ => cases e
 | _ => exact o_in pins s σ H M x y v u dx _ dz Q I hr rx ry r1 r2 e k
theorem o_notinE:OpRd X (compareOp .NotIn) (inE true):=by
 intro pins s σ H M x y v u dx dy dz Q I hr rx ry r1 r2 e k
 cases dy with
 | str j =>
  cases dx with
  | str i =>
   cases e
   exact op_notin_str pins s σ H x y v u Q I rx ry ⟨i,j,rStr r1,rStr r2,k _ H (Ext.refl _ _) hr (by simp [Rep])⟩
  | _ => cases e
 | _ => exact o_notin pins s σ H M x y v u dx _ dz Q I hr rx ry r1 r2 e k
theorem inE_l {b:Bool} {x:D} {ds:List D}:inE b x (.lst ds) = if scalD x = true ∧ ds.all scalD = true then some (.bl (xor b (ds.any fun d => eqD d x))) else none:=rfl
theorem inE_t {b:Bool} {x:D} {ds:List D}:inE b x (.tup ds) = if scalD x = true ∧ ds.all scalD = true then some (.bl (xor b (ds.any fun d => eqD d x))) else none:=rfl
theorem inE_s {b:Bool} {c:Nat} {y:Str}:inE b (.str (tx [c])) (.str y) = some (.bl (xor b (decide (c ∈ y.cps.toList)))):=by
 show some (D.bl (xor b (!(Builtin.Str.occurrences y ⟨#[c]⟩ 0 y.length 1).isEmpty))) = _
 rw [StrLaws.found_one]
/-! ### {} -/
/-! ### pop -/
/-! ### * -/
theorem noFill_tuple_mul:fillsNumberSlot (.type "tuple") "mul" = pure false :=
 PySem.fillsNumberSlot_seq (id:="tuple.__mul__") (r:=some (.builtin "tuple.__rmul__")) F.slot_tuple_mul.lookup (by decide +kernel) F.slot_tuple_rmul.lookup (by decide +kernel)
theorem repeat_tuple:seqRepeat? (.type "tuple") = pure (some (.builtin "tuple.__mul__")):=by
 unfold seqRepeat?
 rw [PySem.seqSlot_of (T:="tuple") (name:="__mul__") (id:="tuple.__mul__") F.slot_tuple_mul.lookup (by decide +kernel),PySem.seqSlot_of (T:="tuple") (name:="__rmul__") (id:="tuple.__rmul__") F.slot_tuple_rmul.lookup (by decide +kernel)]
 rfl
theorem int_rmul_tuple (a:Int) (t:Tok) (l:Addr) (items:Array Value) :
  Meets (Builtin.«int.__rmul__» ⟨[.int a t,.ref l],[]⟩) (fun _ R s => IsTup s.heap l items ∧ R (.ok (.ret Value.notImplemented)) s) :=
 .of_wp fun prog w A R s h => by
  obtain ⟨hp,g,d,tk,os⟩:=s; obtain ⟨⟨⟨cls,dd,data,sl⟩,ho,hc,n,hd⟩,h⟩:=h
  simp only at hc hd
  subst hc hd
  wp_walk; exact ⟨_,rfl,h⟩
theorem tuple_mul_new (l:Addr) (items:Array Value) (x:Int) (u:Tok) (hne:items.isEmpty = false) (hx:2 ≤ x) (hx2:x < 2 ^ 62) (hz:items.size * x.toNat ≤ sizeLine) :
  Meets (Builtin.«tuple.__mul__» ⟨[.ref l,.int x u],[]⟩) (fun _ R s => IsTup s.heap l items ∧ R (.ok (.ret (.ref s.heap.objs.size))) { s with heap:=s.heap.push { cls:=.type "tuple",data:=.seq (List.replicate x.toNat items.toList).flatten.toArray } }) :=
 .of_wp fun prog w A R s h => by
  obtain ⟨ht,h⟩:=h
  show wpAny _ _ (do
   let n ← asIndex (.int x u)
   if n < -(2 ^ 63) || n ≥ 2 ^ 63 then
    rule "tuple.repeat.overflow"; raiseError "OverflowError" s!"cannot fit '{← typeNameOf (.int x u)}' into an index-sized integer"
   let xs ← Builtin.Tuple.tupleItemsOf (.ref l)
   if xs.isEmpty || n == 1 then
    if ← Builtin.Tuple.tupleIsExact (.ref l) then rule "tuple.repeat.same-object"; return ← ret (.ref l)
   if n ≤ 0 || xs.isEmpty then return ← ret (← Builtin.Tuple.tupleExact #[])
   if xs.size * n > (2 ^ 63 - 1) / 8 then rule "tuple.repeat.no-memory"; raiseNew (← newExc (.type "MemoryError") [])
   if Builtin.Tuple.tupleTooMany (xs.size * n) then unsupported "tuple.__mul__:memory"
   ret (← Builtin.Tuple.tupleExact ((List.replicate n.toNat xs).foldl (· ++ ·) #[]))) _ _ s
  refine wpAny_bind (wpAny_of_eq (a:=x) rfl ?_)
  dsimp only
  rw [if_neg (by simp only [Bool.or_eq_true,decide_eq_true_eq]; omega)]
  refine wpAny_bind (tupleItemsOf_ ht ?_)
  rw [if_neg (by simp [hne]; omega)]
  rw [if_neg (by simp [hne]; omega)]
  have hxn:((x.toNat:Nat):Int) = x:=by omega
  have hm:(items.size:Int) * x = ((items.size * x.toNat:Nat):Int):=by rw [Int.natCast_mul,hxn]
  have h16:sizeLine = 16777216:=rfl
  rw [if_neg (by rw [hm]; omega)]
  rw [if_neg (by unfold Builtin.Tuple.tupleTooMany; rw [hm]; simp only [decide_eq_true_eq]; omega)]
  have hf:List.foldl (fun x1 x2 => x1 ++ x2) #[] (List.replicate x.toNat items) = (List.replicate x.toNat items.toList).flatten.toArray:=by
   have:=foldl_rep items.toList x.toNat []
   rw [List.nil_append] at this
   simpa using this
  rw [hf]
  have hs:sizeOk (.seq (List.replicate x.toNat items.toList).flatten.toArray):=by
   show (List.replicate x.toNat items.toList).flatten.toArray.size ≤ sizeLine
   rw [List.size_toArray,len_rep,Array.length_toList,Nat.mul_comm]
   exact hz
  exact wpAny_bind (m:=Builtin.Tuple.tupleExact _) (wpAny_newObj_type (wpAny_pure ⟨_,rfl,h⟩) hs)
theorem RepL.rep {K:PySem.W.Frag} {M:DH} {H:Hp} {ds:List D} {vs:List V} (h:RepL K M H ds vs):∀ k:Nat,RepL K M H (List.replicate k ds).flatten (List.replicate k vs).flatten
 | 0 => RepL.nil
 | k + 1 => by
  rw [List.replicate_succ,List.replicate_succ,List.flatten_cons,List.flatten_cons]
  exact h.append (RepL.rep h k)
noncomputable def mulE:D → D → Option D
 | .int a,.int b => if CMul a b then some (.int (a * b)) else none
 | .str x,.int n => if x.length ≤ 16777216 ∧ -(2 ^ 63) ≤ n ∧ n ≤ 16777216 ∧ x.length * n.toNat ≤ 16777216 then some (.str (Txt.mul x n)) else none
 | .tup ds,.int n => if 2 ≤ n ∧ n < 2 ^ 62 ∧ ds ≠ [] ∧ ds.length * n.toNat ≤ sizeLine then some (.tup (List.replicate n.toNat ds).flatten) else none
 | .lst ds,.int n => if -(2 ^ 63) ≤ n ∧ n < 2 ^ 63 ∧ ds.length * n.toNat ≤ sizeLine then some (.lst (List.replicate n.toNat ds).flatten) else none
 | _,_ => none
theorem o_mulE:OpRd X (binaryOp .Mult) mulE:=by
 intro pins s σ H M x y v u dx dy dz Q I hr rx ry r1 r2 e k
 cases dx with
 | int a =>
  cases dy with
  | int b => exact o_mulI pins s σ H M x y v u _ _ dz Q I hr rx ry r1 r2 e k
  | _ => cases e
 | str z =>
  cases dy with
  | int n =>
   simp only [mulE] at e
   by_cases hc:z.length ≤ 16777216 ∧ -(2 ^ 63) ≤ n ∧ n ≤ 16777216 ∧ z.length * n.toNat ≤ 16777216
   ·rw [if_pos hc] at e; cases e
    have e1:=rStr r1
    have e2:=rInt r2
    subst e1; subst e2
    obtain ⟨t1,rfl⟩:=rx
    obtain ⟨t2,rfl⟩:=ry
    have hok:MulOk z n:=by
     by_cases hn:0 ≤ n
     ·exact mulOk_of z.length n.toNat (Nat.le_refl _) (by omega) hc.2.1 (by omega) hc.2.2.2
     ·exact mulOk_of z.length 0 (Nat.le_refl _) (by omega) hc.2.1 (by omega) (by omega)
    exact SB.mul hok fun t' kk => ⟨.str _,H,I.tok _,⟨t',rfl⟩,k _ H (Ext.refl _ _) hr (by simp [Rep])⟩
   ·rw [if_neg hc] at e; cases e
  | _ => cases e
 | tup ds =>
  cases dy with
  | int n =>
   simp only [mulE] at e
   by_cases hc:2 ≤ n ∧ n < 2 ^ 62 ∧ ds ≠ [] ∧ ds.length * n.toNat ≤ sizeLine
   ·rw [if_pos hc] at e; cases e
    have e2:=rInt r2
    subst e2
    obtain ⟨t2,rfl⟩:=ry
    obtain ⟨a,vs,rfl,sq,rl⟩:=r1
    cases rx
    obtain ⟨its,rv,pt,hz⟩:=I.tuple sq
    have hl1:=rv.length
    have hl2:=rl.length
    have hne:its.toArray.isEmpty = false:=by
     cases its with
     | nil =>
      have h0:ds.length = 0:=by rw [hl2,hl1]; rfl
      exact absurd (List.length_eq_zero_iff.mp h0) hc.2.2.1
     | cons _ _ => rfl
    have hzz:its.toArray.size * n.toNat ≤ sizeLine:=by rw [List.size_toArray,← hl1,← hl2]; exact hc.2.2.2
    refine wpAny_binaryOp_repeat_ref (T:="tuple") (U:="int") (by decide) pt.typeIs (fun s' => typeIs_int s' n t2) noFill_tuple_mul F.fills_int_mul F.slot_int_rmul repeat_tuple F.slot_int_index.lookup
     (call_meets F.slot_int_rmul (typeIs_int s n t2) F.entry_int_rmul (F.args_int_rmul_2 _ _) (int_rmul_tuple n t2 a its.toArray)
      ⟨pt,rfl,pt.typeIs,call_meets F.slot_tuple_mul pt.typeIs F.entry_tuple_mul (F.args_tuple_mul_2 _ _) (tuple_mul_new a its.toArray n t2 hne hc.1 hc.2.1 hzz) ⟨pt,?_⟩⟩)
    have rr:Vals (List.replicate n.toNat vs).flatten (List.replicate n.toNat its).flatten:=rv.rep n.toNat
    refine ⟨.ref s.heap.objs.size,_,I.laid (t':=s.toks) (o:=.tup (List.replicate n.toNat vs).flatten) (fun b ob q => Heap.get?_push_of_some _ q) (Nat.le_refl _) ?_,rfl,?_⟩
    ·refine ⟨?_,_,rr,by simpa using TupN.new _ _⟩
     rw [len_rep,Nat.mul_comm,← hl2]; exact hc.2.2.2
    ·exact freshT hr (I.hok.fresh (Nat.le_refl _)) (rl.rep n.toNat) k
   ·rw [if_neg hc] at e; cases e
  | _ => cases e
 | lst ds =>
  cases dy with
  | int n =>
   simp only [mulE] at e
   by_cases hc:-(2 ^ 63) ≤ n ∧ n < 2 ^ 63 ∧ ds.length * n.toNat ≤ sizeLine
   ·rw [if_pos hc] at e; cases e
    obtain ⟨a,vs,rfl,sq,rl⟩:=r1
    exact op_rep pins s σ H _ _ v u Q I rx ry ⟨a,n,vs,rfl,rInt r2,sq,hc.1,hc.2.1,by rw [← rl.length]; exact hc.2.2,fun p hp => freshL hr hp (rl.rep n.toNat) k⟩
   ·rw [if_neg hc] at e; cases e
  | _ => cases e
 | _ => cases e
theorem mulE_ii {a b:Int}:mulE (.int a) (.int b) = if CMul a b then some (.int (a * b)) else none:=rfl
/-! ### is None -/
noncomputable def isNon:D → Bool
 | .non => true
 | _ => false
noncomputable def isNoneD (neg:Bool) (x y:D):Option D:=match y with | .non => some (.bl (xor neg (isNon x))) | _ => none
theorem isNoneD_n {b:Bool} {x:D}:isNoneD b x .non = some (.bl (xor b (isNon x))):=rfl
/-! ### a comprehension's list,ours -/
variable {scope:Scope} {cl:List (Str × Addr)} {ms:List Bool} {extra:List Str} {ifs:List Expr} {tg iter elt:Expr}
theorem d_globIx {x:Str} {i:Int} {pos:Pos} (hg:Gl X x) (hm:∃ tk,X.mg x = some (.int i tk)) (hd:(x == ("__debug__":Str)) = false:=by decide):PEd X (.Name x pos) (dC (.int i)):=by
 obtain ⟨t,ht⟩:=hm
 exact d_globI hg ht hd
theorem d_globSx {x y:Str} {pos:Pos} (hg:Gl X x) (hm:∃ tk,X.mg x = some (.str y tk)) (hd:(x == ("__debug__":Str)) = false:=by decide):PEd X (.Name x pos) (dC (.str y)):=by
 obtain ⟨t,ht⟩:=hm
 exact d_globS hg ht hd
end
end L2

set_option Elab.async false
set_option linter.all false
set_option maxRecDepth 100000
namespace L2
open PySem PySem.Spec PyProof.Rows
/-! ### the same rules,as judgements that are not looked into -/
@[irreducible] noncomputable def QEd (X:Cx) (e:Expr) (t:TEd):Prop:=PEd X e t
theorem QEd.eq {X:Cx} {e:Expr} {t:TEd}:QEd X e t = (PEd X e t):=by unfold QEd; rfl
@[irreducible] noncomputable def QAd (X:Cx) (e:List Expr) (t:TAd):Prop:=PAd X e t
theorem QAd.eq {X:Cx} {e:List Expr} {t:TAd}:QAd X e t = (PAd X e t):=by unfold QAd; rfl
@[irreducible] noncomputable def QTd (X:Cx) (e:Expr) (t:TTd):Prop:=PTd X e t
theorem QTd.eq {X:Cx} {e:Expr} {t:TTd}:QTd X e t = (PTd X e t):=by unfold QTd; rfl
@[irreducible] noncomputable def QWd (X:Cx) (e:Expr) (t:TTd):Prop:=PWd X e t
theorem QWd.eq {X:Cx} {e:Expr} {t:TTd}:QWd X e t = (PWd X e t):=by unfold QWd; rfl
@[irreducible] noncomputable def QSd (X:Cx) (e:Stmt) (t:TSd):Prop:=PSd X e t
theorem QSd.eq {X:Cx} {e:Stmt} {t:TSd}:QSd X e t = (PSd X e t):=by unfold QSd; rfl
@[irreducible] noncomputable def QSs (X:Cx) (e:List Stmt) (t:TSd):Prop:=PSsd X e t
theorem QSs.eq {X:Cx} {e:List Stmt} {t:TSd}:QSs X e t = (PSsd X e t):=by unfold QSs; rfl
@[irreducible] noncomputable def QId (X:Cx) (tg e:Expr) (t:TId):Prop:=PId X tg e t
theorem QId.eq {X:Cx} {tg e:Expr} {t:TId}:QId X tg e t = (PId X tg e t):=by unfold QId; rfl
@[irreducible] noncomputable def QIf (X:Cx) (e:List Expr) (t:TTd):Prop:=PIfd X e t
theorem QIf.eq {X:Cx} {e:List Expr} {t:TTd}:QIf X e t = (PIfd X e t):=by unfold QIf; rfl
@[irreducible] noncomputable def QOd (X:Cx) (e:Option Expr) (t:TOd):Prop:=POd X e t
theorem QOd.eq {X:Cx} {e:Option Expr} {t:TOd}:QOd X e t = (POd X e t):=by unfold QOd; rfl
theorem q_var {X:Cx} (i:Nat) {x:Str} {pos:Pos} (hN:X.N[i]? = some x:=by rfl) (hv:Vis X.env.scope x:=by first | exact Or.inl rfl | exact Or.inr (Or.inl rfl) | exact Or.inr (Or.inr rfl)) (hd:(x == ("__debug__":Str)) = false:=by decide)
  (hcd:(x == ("__classdict__":Str)) = false:=by decide):QEd X (.Name x pos) (dVar i):=by
 simp only [QEd.eq,QAd.eq,QTd.eq,QWd.eq,QSd.eq,QSs.eq,QId.eq,QIf.eq,QOd.eq] at *
 exact d_var (i:=i) (hN:=hN) (hv:=hv) (hd:=hd) (hcd:=hcd)
theorem q_int {X:Cx} {i j pos}:QEd X (.Constant (.int i) j pos) (dC (.int i)):=by
 simp only [QEd.eq,QAd.eq,QTd.eq,QWd.eq,QSd.eq,QSs.eq,QId.eq,QIf.eq,QOd.eq] at *
 exact d_int 
theorem q_bl {X:Cx} {i j pos}:QEd X (.Constant (.bool i) j pos) (dC (.bl i)):=by
 simp only [QEd.eq,QAd.eq,QTd.eq,QWd.eq,QSd.eq,QSs.eq,QId.eq,QIf.eq,QOd.eq] at *
 exact d_bl 
theorem q_str {X:Cx} {i j pos}:QEd X (.Constant (.str i) j pos) (dC (.str i)):=by
 simp only [QEd.eq,QAd.eq,QTd.eq,QWd.eq,QSd.eq,QSs.eq,QId.eq,QIf.eq,QOd.eq] at *
 exact d_str 
theorem q_globIx {X:Cx} {x:Str} {i:Int} {pos:Pos} (hg:Gl X x) (hm:∃ tk,X.mg x = some (.int i tk)) (hd:(x == ("__debug__":Str)) = false:=by decide):QEd X (.Name x pos) (dC (.int i)):=by
 simp only [QEd.eq,QAd.eq,QTd.eq,QWd.eq,QSd.eq,QSs.eq,QId.eq,QIf.eq,QOd.eq] at *
 exact d_globIx (hg:=hg) (hm:=hm) (hd:=hd)
theorem q_globSx {X:Cx} {x y:Str} {pos:Pos} (hg:Gl X x) (hm:∃ tk,X.mg x = some (.str y tk)) (hd:(x == ("__debug__":Str)) = false:=by decide):QEd X (.Name x pos) (dC (.str y)):=by
 simp only [QEd.eq,QAd.eq,QTd.eq,QWd.eq,QSd.eq,QSs.eq,QId.eq,QIf.eq,QOd.eq] at *
 exact d_globSx (hg:=hg) (hm:=hm) (hd:=hd)
theorem q_nil {X:Cx}:QAd X [] dNil:=by
 simp only [QEd.eq,QAd.eq,QTd.eq,QWd.eq,QSd.eq,QSs.eq,QId.eq,QIf.eq,QOd.eq] at *
 exact d_nil 
theorem q_cons {X:Cx} {a:Expr} {es:List Expr} {ta:TEd} {tr:TAd} (ha:QEd X a ta) (hr:QAd X es tr) (hs:starEach (a :: es) X.env = (false,eval a X.env) :: starEach es X.env:=by rfl):QAd X (a :: es) (dCons ta tr):=by
 simp only [QEd.eq,QAd.eq,QTd.eq,QWd.eq,QSd.eq,QSs.eq,QId.eq,QIf.eq,QOd.eq] at *
 exact d_cons (ha:=ha) (hr:=hr) (hs:=hs)
theorem q_tup {X:Cx} {es:List Expr} {pos:Pos} {x1} {t:TAd} (h:QAd X es t):QEd X (.Tuple es x1 pos) (dTup t):=by
 simp only [QEd.eq,QAd.eq,QTd.eq,QWd.eq,QSd.eq,QSs.eq,QId.eq,QIf.eq,QOd.eq] at *
 exact d_tup (h:=h)
theorem q_lst {X:Cx} {es:List Expr} {pos:Pos} {t:TAd} (h:QAd X es t):QEd X (.List es pos) (dLst t):=by
 simp only [QEd.eq,QAd.eq,QTd.eq,QWd.eq,QSd.eq,QSs.eq,QId.eq,QIf.eq,QOd.eq] at *
 exact d_lst (h:=h)
theorem q_lstO {X:Cx} {es:List Expr} {pos:Pos} {t:TAd} (h:QAd X es t):QEd X (.List es pos) (dLstO t):=by
 simp only [QEd.eq,QAd.eq,QTd.eq,QWd.eq,QSd.eq,QSs.eq,QId.eq,QIf.eq,QOd.eq] at *
 exact d_lstO (h:=h)
theorem q_op {X:Cx} {a:Expr} {b:Expr} {ta:TEd} {tb:TEd} {pos:Pos} {op:Operator} {r:D → D → Option D} (ho:OpRd X (binaryOp op) r) (ha:QEd X a ta) (hb:QEd X b tb):QEd X (.BinOp a op b pos) (dOp r ta tb):=by
 simp only [QEd.eq,QAd.eq,QTd.eq,QWd.eq,QSd.eq,QSs.eq,QId.eq,QIf.eq,QOd.eq] at *
 exact d_op (ho:=ho) (ha:=ha) (hb:=hb)
theorem q_cmp {X:Cx} {a:Expr} {b:Expr} {ta:TEd} {tb:TEd} {pos:Pos} {op:CmpOp} {r:D → D → Option D} (ho:OpRd X (compareOp op) r) (ha:QEd X a ta) (hb:QEd X b tb) (hm:behindInMarks op b = false):QEd X (.Compare a [op] [b] pos) (dOp r ta tb):=by
 simp only [QEd.eq,QAd.eq,QTd.eq,QWd.eq,QSd.eq,QSs.eq,QId.eq,QIf.eq,QOd.eq] at *
 exact d_cmp (ho:=ho) (ha:=ha) (hb:=hb) (hm:=hm)
theorem q_ix {X:Cx} {a:Expr} {b:Expr} {ta:TEd} {tb:TEd} {pos:Pos} {r:D → D → Option D} (ho:IxR X (opV X.K r)) (ha:QEd X a ta) (hb:QEd X b tb) (hs:PlainIx b):QEd X (.Subscript a b pos) (dOp r ta tb):=by
 simp only [QEd.eq,QAd.eq,QTd.eq,QWd.eq,QSd.eq,QSs.eq,QId.eq,QIf.eq,QOd.eq] at *
 exact d_ix (ho:=ho) (ha:=ha) (hb:=hb) (hs:=hs)
theorem q_un {X:Cx} {a:Expr} {ta:TEd} {pos:Pos} {op:UnaryOp} {r:D → Option D} (ho:UnRd X (unaryOp op) r) (ha:QEd X a ta):QEd X (.UnaryOp op a pos) (dUn r ta):=by
 simp only [QEd.eq,QAd.eq,QTd.eq,QWd.eq,QSd.eq,QSs.eq,QId.eq,QIf.eq,QOd.eq] at *
 exact d_un (ho:=ho) (ha:=ha)
theorem q_tcmp {X:Cx} {a:Expr} {b:Expr} {ta:TEd} {tb:TEd} {pos:Pos} {op:CmpOp} {r:D → D → Option D} (ho:OpRd X (compareOp op) r) (ha:QEd X a ta) (hb:QEd X b tb) (hm:behindInMarks op b = false):QTd X (.Compare a [op] [b] pos) (dTst (dOp r ta tb)):=by
 simp only [QEd.eq,QAd.eq,QTd.eq,QWd.eq,QSd.eq,QSs.eq,QId.eq,QIf.eq,QOd.eq] at *
 exact d_tcmp (ho:=ho) (ha:=ha) (hb:=hb) (hm:=hm)
theorem q_tval {X:Cx} {a:Expr} {ta:TEd} (h:QEd X a ta) (he:∀ whole,isTrue a X.env whole = (do let v ← whole; standAt a.pos; holding [v] (truthy v)):=by intro _; rfl):QTd X a (dTst ta):=by
 simp only [QEd.eq,QAd.eq,QTd.eq,QWd.eq,QSd.eq,QSs.eq,QId.eq,QIf.eq,QOd.eq] at *
 exact d_tval (h:=h) (he:=he)
theorem q_tnot {X:Cx} {a:Expr} {pos:Pos} {tA:TTd} (h:QTd X a tA):QTd X (.UnaryOp .Not a pos) (dNotT tA):=by
 simp only [QEd.eq,QAd.eq,QTd.eq,QWd.eq,QSd.eq,QSs.eq,QId.eq,QIf.eq,QOd.eq] at *
 exact d_tnot (h:=h)
theorem q_tand1 {X:Cx} {a:Expr} {pos:Pos} {tA:TTd} (ha:QTd X a tA):QWd X (.BoolOp .And [a] pos) tA:=by
 simp only [QEd.eq,QAd.eq,QTd.eq,QWd.eq,QSd.eq,QSs.eq,QId.eq,QIf.eq,QOd.eq] at *
 exact d_tand1 (ha:=ha)
theorem q_tor1 {X:Cx} {a:Expr} {pos:Pos} {tA:TTd} (ha:QTd X a tA):QWd X (.BoolOp .Or [a] pos) tA:=by
 simp only [QEd.eq,QAd.eq,QTd.eq,QWd.eq,QSd.eq,QSs.eq,QId.eq,QIf.eq,QOd.eq] at *
 exact d_tor1 (ha:=ha)
theorem q_tand {X:Cx} {a:Expr} {b:Expr} {pos:Pos} {tA:TTd} {tB':TTd} {rest:List Expr} (ha:QTd X a tA) (hb:QWd X (.BoolOp .And (b :: rest) pos) tB'):QWd X (.BoolOp .And (a :: b :: rest) pos) (dAndT tA tB'):=by
 simp only [QEd.eq,QAd.eq,QTd.eq,QWd.eq,QSd.eq,QSs.eq,QId.eq,QIf.eq,QOd.eq] at *
 exact d_tand (ha:=ha) (hb:=hb)
theorem q_tor {X:Cx} {a:Expr} {b:Expr} {pos:Pos} {tA:TTd} {tB':TTd} {rest:List Expr} (ha:QTd X a tA) (hb:QWd X (.BoolOp .Or (b :: rest) pos) tB'):QWd X (.BoolOp .Or (a :: b :: rest) pos) (dOrT tA tB'):=by
 simp only [QEd.eq,QAd.eq,QTd.eq,QWd.eq,QSd.eq,QSs.eq,QId.eq,QIf.eq,QOd.eq] at *
 exact d_tor (ha:=ha) (hb:=hb)
theorem q_one {X:Cx} {a:Expr} {ta:TEd} {pos:Pos} {op} (h:QEd X a ta):QEd X (.BoolOp op [a] pos) ta:=by
 simp only [QEd.eq,QAd.eq,QTd.eq,QWd.eq,QSd.eq,QSs.eq,QId.eq,QIf.eq,QOd.eq] at *
 exact d_one (h:=h)
theorem q_and {X:Cx} {a:Expr} {b:Expr} {ta:TEd} {tb:TEd} {pos:Pos} {rest:List Expr} (ha:QEd X a ta) (hb:QEd X (.BoolOp .And (b :: rest) pos) tb):QEd X (.BoolOp .And (a :: b :: rest) pos) (dAnd ta tb):=by
 simp only [QEd.eq,QAd.eq,QTd.eq,QWd.eq,QSd.eq,QSs.eq,QId.eq,QIf.eq,QOd.eq] at *
 exact d_and (ha:=ha) (hb:=hb)
theorem q_not {X:Cx} {a:Expr} {ta:TEd} {pos:Pos} (ha:QEd X a ta):QEd X (.UnaryOp .Not a pos) (dNot ta):=by
 simp only [QEd.eq,QAd.eq,QTd.eq,QWd.eq,QSd.eq,QSs.eq,QId.eq,QIf.eq,QOd.eq] at *
 exact d_not (ha:=ha)
theorem q_chain {X:Cx} {a:Expr} {b:Expr} {c:Expr} {ta:TEd} {tb:TEd} {pos:Pos} {tc:TEd} {op op':CmpOp} {r r':D → D → Option D} (ho:OpRd X (compareOp op) r) (ho':OpRd X (compareOp op') r') (ha:QEd X a ta) (hb:QEd X b tb) (hc:QEd X c tc)
  (hm:lastMarks [op,op'] [b,c] = false:=by with_unfolding_all rfl):QEd X (.Compare a [op,op'] [b,c] pos) (dChain r r' ta tb tc):=by
 simp only [QEd.eq,QAd.eq,QTd.eq,QWd.eq,QSd.eq,QSs.eq,QId.eq,QIf.eq,QOd.eq] at *
 exact d_chain (ho:=ho) (ho':=ho') (ha:=ha) (hb:=hb) (hc:=hc) (hm:=hm)
theorem q_tchain {X:Cx} {a:Expr} {b:Expr} {c:Expr} {ta:TEd} {tb:TEd} {pos:Pos} {tc:TEd} {op op':CmpOp} {r r':D → D → Option D} (ho:OpRd X (compareOp op) r) (ho':OpRd X (compareOp op') r') (ha:QEd X a ta) (hb:QEd X b tb) (hc:QEd X c tc)
  (hm:lastMarks [op,op'] [b,c] = false:=by with_unfolding_all rfl):QTd X (.Compare a [op,op'] [b,c] pos) (dTst (dChain r r' ta tb tc)):=by
 simp only [QEd.eq,QAd.eq,QTd.eq,QWd.eq,QSd.eq,QSs.eq,QId.eq,QIf.eq,QOd.eq] at *
 exact d_tchain (ho:=ho) (ho':=ho') (ha:=ha) (hb:=hb) (hc:=hc) (hm:=hm)
theorem q_callB {X:Cx} {pos:Pos} {x:Str} {p:Pos} {e:Expr} {es:List Expr} {t:TAd} {id:String} {r:List D → Option D} (hc:CallRd X (.builtin id) r) (hg:Gl X x) (hm:X.mg x = none) (hv:bootBuiltins x = some (.builtin id)) (ha:QAd X (e :: es) t) (hn:x ≠ "__name__":=by decide) (hdb:(x == ("__debug__":Str)) = false:=by decide)
  (he:starEach (e :: es) X.env = (false,eval e X.env) :: starEach es X.env:=by rfl) (hpl:(backTo pos (starEach es X.env)).any (·.1) = false:=by rfl):QEd X (.Call (.Name x p) (e :: es) [] pos) (dCB r t):=by
 simp only [QEd.eq,QAd.eq,QTd.eq,QWd.eq,QSd.eq,QSs.eq,QId.eq,QIf.eq,QOd.eq] at *
 exact d_callB (hc:=hc) (hg:=hg) (hm:=hm) (hv:=hv) (ha:=ha) (hn:=hn) (hdb:=hdb) (he:=he) (hpl:=hpl)
theorem q_callTy {X:Cx} {pos:Pos} {x:Str} {p:Pos} {e:Expr} {es:List Expr} {t:TAd} {id:String} {r:List D → Option D} (hc:CallRd X (.type id) r) (hg:Gl X x) (hm:X.mg x = none) (hv:bootBuiltins x = some (.type id)) (ha:QAd X (e :: es) t) (hn:x ≠ "__name__":=by decide) (hdb:(x == ("__debug__":Str)) = false:=by decide)
  (he:starEach (e :: es) X.env = (false,eval e X.env) :: starEach es X.env:=by rfl) (hpl:(backTo pos (starEach es X.env)).any (·.1) = false:=by rfl):QEd X (.Call (.Name x p) (e :: es) [] pos) (dCB r t):=by
 simp only [QEd.eq,QAd.eq,QTd.eq,QWd.eq,QSd.eq,QSs.eq,QId.eq,QIf.eq,QOd.eq] at *
 exact d_callTy (hc:=hc) (hg:=hg) (hm:=hm) (hv:=hv) (ha:=ha) (hn:=hn) (hdb:=hdb) (he:=he) (hpl:=hpl)
theorem q_snil {X:Cx}:QSs X [] dNext:=by
 simp only [QEd.eq,QAd.eq,QTd.eq,QWd.eq,QSd.eq,QSs.eq,QId.eq,QIf.eq,QOd.eq] at *
 exact d_snil 
theorem q_scons {X:Cx} {st:Stmt} {rest:List Stmt} {t:TSd} {u:TSd} (h1:QSd X st t) (h2:QSs X rest u):QSs X (st :: rest) (dSeq t u):=by
 simp only [QEd.eq,QAd.eq,QTd.eq,QWd.eq,QSd.eq,QSs.eq,QId.eq,QIf.eq,QOd.eq] at *
 exact d_scons (h1:=h1) (h2:=h2)
theorem q_sone {X:Cx} {st:Stmt} {t:TSd} (h1:QSd X st t):QSs X [st] t:=by
 simp only [QEd.eq,QAd.eq,QTd.eq,QWd.eq,QSd.eq,QSs.eq,QId.eq,QIf.eq,QOd.eq] at *
 exact d_sone (h1:=h1)
theorem q_ret {X:Cx} {e:Expr} {te:TEd} {pos:Pos} (he:QEd X e te):QSd X (.Return (some e) pos) (dRet te):=by
 simp only [QEd.eq,QAd.eq,QTd.eq,QWd.eq,QSd.eq,QSs.eq,QId.eq,QIf.eq,QOd.eq] at *
 exact d_ret (he:=he)
theorem q_expr {X:Cx} {e:Expr} {te:TEd} {pos:Pos} (he:QEd X e te) (hs:swapsWith e none pos.line X.env = pure false:=by rfl):QSd X (.Expr e pos) (dDrop te):=by
 simp only [QEd.eq,QAd.eq,QTd.eq,QWd.eq,QSd.eq,QSs.eq,QId.eq,QIf.eq,QOd.eq] at *
 exact d_expr (he:=he) (hs:=hs)
theorem q_ifS {X:Cx} {c:Expr} {pos:Pos} {t:TSd} {u:TSd} {sa sb:List Stmt} {tc:TTd} (hc:QTd X c tc) (ha:QSs X sa t) (hb:QSs X sb u):QSd X (.If c sa sb pos) (dIfS tc t u):=by
 simp only [QEd.eq,QAd.eq,QTd.eq,QWd.eq,QSd.eq,QSs.eq,QId.eq,QIf.eq,QOd.eq] at *
 exact d_ifS (hc:=hc) (ha:=ha) (hb:=hb)
theorem q_set {X:Cx} {e:Expr} {te:TEd} {pos:Pos} {i:Nat} {x:Str} {pos':Pos} (hN:X.N.Nodup) (hi:X.N[i]? = some x) (hx:Loc X.env.scope x) (he:QEd X e te) (hs:swapsWith e (some (.Name x pos')) pos.line X.env = pure false:=by rfl) (hf:X.fn x = true ∨ X.env.scope.names.lookup x = some .local:=by first | exact .inl rfl | exact .inr rfl | assumption) :
  QSd X (.Assign [.Name x pos'] e pos) (dSet i te):=by
 simp only [QEd.eq,QAd.eq,QTd.eq,QWd.eq,QSd.eq,QSs.eq,QId.eq,QIf.eq,QOd.eq] at *
 exact d_set (hN:=hN) (hi:=hi) (hx:=hx) (he:=he) (hs:=hs) (hf:=hf)
theorem q_aug {X:Cx} {e:Expr} {te:TEd} {pos:Pos} {i:Nat} {x:Str} {op:Operator} {r:D → D → Option D} {pos':Pos} (hN:X.N.Nodup) (hi:X.N[i]? = some x) (hx:Loc X.env.scope x) (he:QEd X e te) (ho:OpRd X (inplaceOp op) r) (hf:X.fn x = true ∨ X.env.scope.names.lookup x = some .local:=by first | exact .inl rfl | exact .inr rfl | assumption) :
  QSd X (.AugAssign (.Name x pos') op e pos) (dAug i te r):=by
 simp only [QEd.eq,QAd.eq,QTd.eq,QWd.eq,QSd.eq,QSs.eq,QId.eq,QIf.eq,QOd.eq] at *
 exact d_aug (hN:=hN) (hi:=hi) (hx:=hx) (he:=he) (ho:=ho) (hf:=hf)
theorem q_froze {X:Cx} {t:TSd} {sts:List Stmt} (i:Nat) (h:QSs X sts t):QSs X sts (dFroze i t):=by
 simp only [QEd.eq,QAd.eq,QTd.eq,QWd.eq,QSd.eq,QSs.eq,QId.eq,QIf.eq,QOd.eq] at *
 exact d_froze (i:=i) (h:=h)
theorem q_asg {X:Cx} {e:Expr} {te:TEd} {pos:Pos} {tg:Expr} {g:GD} (he:QEd X e te) (hg:PGd X tg g) (hs:swapsWithSole [tg] e pos.line X.env = pure false:=by rfl) (hw:swappedStores [tg] e X.env = pure none:=by rfl)
  (h1:(assignEach [tg] X.env).map (·.2) = [assign tg X.env]:=by rfl):QSd X (.Assign [tg] e pos) (dAsg te g):=by
 simp only [QEd.eq,QAd.eq,QTd.eq,QWd.eq,QSd.eq,QSs.eq,QId.eq,QIf.eq,QOd.eq] at *
 exact d_asg (he:=he) (hg:=hg) (hs:=hs) (hw:=hw) (h1:=h1)
theorem qi_rng1 {X:Cx} {a:Expr} {pos:Pos} {tg:Expr} {ta:TAd} {p:Pos} (hg:Gl X "range") (hm:X.mg "range" = none) (ha:QAd X [a] ta) (hs:starEach [a] X.env = [(false,eval a X.env)]:=by rfl):QId X tg (.Call (.Name "range" p) [a] [] pos) (diRng1 ta):=by
 simp only [QEd.eq,QAd.eq,QTd.eq,QWd.eq,QSd.eq,QSs.eq,QId.eq,QIf.eq,QOd.eq] at *
 exact i_rng1 (hg:=hg) (hm:=hm) (ha:=ha) (hs:=hs)
theorem q_for {X:Cx} {pos:Pos} {tg:Expr} {iter:Expr} {body:List Stmt} {wi:TId} {g:GD} {tb:TSd} (hp:PassesOwn (model X.prog X.w) X.A X.env X.xe) (hc:X.calm = true) (hi:QId X tg iter wi) (hg:PGd X tg g) (hb:QSs X body tb)
  (hs:∀ x,foldedSetIterable iter X.env x = pure x:=by intro _; rfl):QSd X (.For tg iter body [] pos) (dFor wi g tb):=by
 simp only [QEd.eq,QAd.eq,QTd.eq,QWd.eq,QSd.eq,QSs.eq,QId.eq,QIf.eq,QOd.eq] at *
 exact d_for (hp:=hp) (hc:=hc) (hi:=hi) (hg:=hg) (hb:=hb) (hs:=hs)
theorem q_while {X:Cx} {c:Expr} {pos:Pos} {body:List Stmt} {tc:TTd} {tb:TSd} (hp:PassesOwn (model X.prog X.w) X.A X.env X.xe) (hc:QTd X c tc) (hb:QSs X body tb):QSd X (.While c body [] pos) (dWhile tc tb):=by
 simp only [QEd.eq,QAd.eq,QTd.eq,QWd.eq,QSd.eq,QSs.eq,QId.eq,QIf.eq,QOd.eq] at *
 exact d_while (hp:=hp) (hc:=hc) (hb:=hb)
theorem qi_nil {X:Cx}:QIf X [] dYes:=by
 simp only [QEd.eq,QAd.eq,QTd.eq,QWd.eq,QSd.eq,QSs.eq,QId.eq,QIf.eq,QOd.eq] at *
 exact i_nil 
theorem qi_one {X:Cx} {c:Expr} {tc:TTd} (h:QTd X c tc):QIf X [c] tc:=by
 simp only [QEd.eq,QAd.eq,QTd.eq,QWd.eq,QSd.eq,QSs.eq,QId.eq,QIf.eq,QOd.eq] at *
 exact i_one (h:=h)
theorem q_lc {X:Cx} {pos:Pos} {tg:Expr} {iter:Expr} {elt:Expr} {scope:Scope} {cl:List (Str × Addr)} {ms:List Bool} {extra:List Str} {ifs:List Expr} {wi:TId} {g:GD} {tc:TTd} {te:TEd} (S:CompSc X scope cl ms extra) (hcalm:X.calm = true) (hi:QId X tg iter wi) (hg:PGa X scope cl extra tg g)
  (hif:∀ C s H ex,QIf (cxComp X scope cl (X.N ++ extra) C s H ex) ifs tc) (he:∀ C s H ex,QEd (cxComp X scope cl (X.N ++ extra) C s H ex) elt te)
  (hs:∀ x,foldedSetIterable iter X.env x = pure x:=by intro _; rfl):QEd X (.ListComp elt [⟨tg,iter,ifs,0⟩] scope pos) (dLc ms extra.length wi g tc te):=by
 simp only [QEd.eq,QAd.eq,QTd.eq,QWd.eq,QSd.eq,QSs.eq,QId.eq,QIf.eq,QOd.eq] at *
 exact d_lc (S:=S) (hcalm:=hcalm) (hi:=hi) (hg:=hg) (hif:=hif) (he:=he) (hs:=hs)
theorem q_setLc {X:Cx} {pos:Pos} {tg:Expr} {iter:Expr} {elt:Expr} {scope:Scope} {cl:List (Str × Addr)} {ms:List Bool} {extra:List Str} {ifs:List Expr} {i:Nat} {x:Str} {spos pos':Pos} {wi:TId} {g:GD} {tc:TTd} {te:TEd} (hN:X.N.Nodup) (hix:X.N[i]? = some x) (hx:X.env.scope.names.lookup x = some .local)
  (hsw:swapsWith (.ListComp elt [⟨tg,iter,ifs,0⟩] scope pos) (some (.Name x pos')) spos.line X.env = pure true) (S:CompSc X scope cl ms extra) (hcalm:X.calm = true) (hi:QId X tg iter wi) (hg:PGa X scope cl extra tg g)
  (hif:∀ C s H ex,QIf (cxComp X scope cl (X.N ++ extra) C s H ex) ifs tc) (he:∀ C s H ex,QEd (cxComp X scope cl (X.N ++ extra) C s H ex) elt te)
  (hs:∀ x,foldedSetIterable iter X.env x = pure x:=by intro _; rfl):QSd X (.Assign [.Name x pos'] (.ListComp elt [⟨tg,iter,ifs,0⟩] scope pos) spos) (dSet i (dLc ms extra.length wi g tc te)):=by
 simp only [QEd.eq,QAd.eq,QTd.eq,QWd.eq,QSd.eq,QSs.eq,QId.eq,QIf.eq,QOd.eq] at *
 exact d_setLc (hN:=hN) (hix:=hix) (hx:=hx) (hsw:=hsw) (S:=S) (hcalm:=hcalm) (hi:=hi) (hg:=hg) (hif:=hif) (he:=he) (hs:=hs)
theorem q_put {X:Cx} {e:Expr} {te:TEd} {pos:Pos} {o i:Expr} {to ti:TEd} {p:Pos} (ho:QEd X o to) (hi:QEd X i ti) (he:QEd X e te)
  (ha:∀ v,assign (.Subscript o i p) X.env v = (do
   let ov ← holding [v] (eval o X.env)
   let iv ← holding [v,ov] (eval i X.env)
   standAt p
   holding [v,ov,iv] (setItem ov iv v)
   release [v,ov,iv] []):=by intro _; rfl) (hs:swapsWithSole [.Subscript o i p] e pos.line X.env = pure false:=by rfl) (hw:swappedStores [.Subscript o i p] e X.env = pure none:=by rfl)
  (h1:(assignEach [.Subscript o i p] X.env).map (·.2) = [assign (.Subscript o i p) X.env]:=by rfl):QSd X (.Assign [.Subscript o i p] e pos) (dPut to ti te):=by
 simp only [QEd.eq,QAd.eq,QTd.eq,QWd.eq,QSd.eq,QSs.eq,QId.eq,QIf.eq,QOd.eq] at *
 exact d_put (ho:=ho) (hi:=hi) (he:=he) (ha:=ha) (hs:=hs) (hw:=hw) (h1:=h1)
theorem q_app {X:Cx} {e:Expr} {te:TEd} {o:Expr} {to:TEd} {apos cpos:Pos} (ho:QEd X o to) (he:QEd X e te) (hbase:attributeBase o "append" X.env (eval o X.env) = eval o X.env:=by rfl)
  (hse:starEach [e] X.env = (false,eval e X.env) :: starEach [] X.env:=by rfl)
  (hfew:((backTo cpos (starEach [e] X.env)).all (fun x => !x.1) && (backToKw cpos (keywordEach [] X.env)).all (fun x => x.1.isSome)
   && decide ([e].length + ([]:List Keyword).length + (if ([]:List Keyword).isEmpty then 0 else 1) < 30)) = true:=by rfl)
  (hline:(apos.endLine == cpos.line) = true:=by rfl) (hplain:(backTo cpos (starEach [] X.env)).any (·.1) = false:=by rfl):QEd X (.Call (.Attribute o "append" apos) [e] [] cpos) (dApp to te):=by
 simp only [QEd.eq,QAd.eq,QTd.eq,QWd.eq,QSd.eq,QSs.eq,QId.eq,QIf.eq,QOd.eq] at *
 exact d_app (ho:=ho) (he:=he) (hbase:=hbase) (hse:=hse) (hfew:=hfew) (hline:=hline) (hplain:=hplain)
theorem q_isi {X:Cx} {a:Expr} {ta:TEd} {pos:Pos} {T:Str} {Tn:String} {p p2:Pos} (hT:okT Tn = true) (hg:Gl X "isinstance") (hm:X.mg "isinstance" = none) (hg2:Gl X T) (hm2:X.mg T = none) (hv2:bootBuiltins T = some (.type Tn)) (ha:QEd X a ta) (hn2:T ≠ "__name__":=by decide) (hd2:(T == ("__debug__":Str)) = false:=by decide)
  (hs:starEach [a,.Name T p2] X.env = (false,eval a X.env) :: starEach [.Name T p2] X.env:=by rfl) (hs2:starEach [.Name T p2] X.env = (false,eval (.Name T p2) X.env) :: starEach [] X.env:=by rfl) (hpl:(backTo pos (starEach [.Name T p2] X.env)).any (·.1) = false:=by rfl) :
  QEd X (.Call (.Name "isinstance" p) [a,.Name T p2] [] pos) (dIsi Tn ta):=by
 simp only [QEd.eq,QAd.eq,QTd.eq,QWd.eq,QSd.eq,QSs.eq,QId.eq,QIf.eq,QOd.eq] at *
 exact d_isi (hT:=hT) (hg:=hg) (hm:=hm) (hg2:=hg2) (hm2:=hm2) (hv2:=hv2) (ha:=ha) (hn2:=hn2) (hd2:=hd2) (hs:=hs) (hs2:=hs2) (hpl:=hpl)
theorem qo_none {X:Cx}:QOd X none dNoPart:=by
 simp only [QEd.eq,QAd.eq,QTd.eq,QWd.eq,QSd.eq,QSs.eq,QId.eq,QIf.eq,QOd.eq] at *
 exact od_none 
theorem qo_some {X:Cx} {e:Expr} {te:TEd} (h:QEd X e te):QOd X (some e) (dPart te):=by
 simp only [QEd.eq,QAd.eq,QTd.eq,QWd.eq,QSd.eq,QSs.eq,QId.eq,QIf.eq,QOd.eq] at *
 exact od_some (h:=h)
theorem qc {X:Cx} {e:Expr} {es:List Expr} {t:TAd} {pos:Pos} {p:Pos} {x:Str} {k:Nat} {n:Nat} {S:SpD} (F:FnD X.prog X.w X.K X.mg X.base x k n S) (hr:Room k X.A) (hg:Gl X x) (ha:QAd X (e :: es) t) (hdb:(x == ("__debug__":Str)) = false:=by decide) (he:starEach (e :: es) X.env = (false,eval e X.env) :: starEach es X.env:=by rfl) (hpl:(backTo pos (starEach es X.env)).any (·.1) = false:=by rfl) :
  QEd X (.Call (.Name x p) (e :: es) [] pos) (dCall n S t):=by
 simp only [QEd.eq,QAd.eq,QTd.eq,QWd.eq,QSd.eq,QSs.eq,QId.eq,QIf.eq,QOd.eq] at *
 exact dc (F:=F) (hr:=hr) (hg:=hg) (ha:=ha) (hdb:=hdb) (he:=he) (hpl:=hpl)
theorem q_retF {X:Cx} {e:Expr} {te:TEd} {pos:Pos} (he:QEd X e te):QSd X (.Return (some e) pos) (dRetF te):=by
 simp only [QEd.eq,QAd.eq,QTd.eq,QWd.eq,QSd.eq,QSs.eq,QId.eq,QIf.eq,QOd.eq] at *
 exact d_retF (he:=he)
theorem qi_any {X:Cx} {te:TEd} {tg:Expr} {iter:Expr} (h:QEd X iter te):QId X tg iter (diAny te):=by
 simp only [QEd.eq,QAd.eq,QTd.eq,QWd.eq,QSd.eq,QSs.eq,QId.eq,QIf.eq,QOd.eq] at *
 exact i_any (h:=h)
theorem q_retG {X:Cx} {e:Expr} {te:TEd} {pos:Pos} (he:QEd X e te):QSd X (.Return (some e) pos) (dRetG te):=by
 simp only [QEd.eq,QAd.eq,QTd.eq,QWd.eq,QSd.eq,QSs.eq,QId.eq,QIf.eq,QOd.eq] at *
 exact d_retG (he:=he)
theorem qi_rev {X:Cx} {a:Expr} {t:TAd} {pos:Pos} {tg:Expr} {p:Pos} (hg:Gl X "reversed") (hm:X.mg "reversed" = none) (ha:QAd X [a] t) (hs:starEach [a] X.env = [(false,eval a X.env)]:=by rfl):QId X tg (.Call (.Name "reversed" p) [a] [] pos) (diRev t):=by
 simp only [QEd.eq,QAd.eq,QTd.eq,QWd.eq,QSd.eq,QSs.eq,QId.eq,QIf.eq,QOd.eq] at *
 exact i_rev (hg:=hg) (hm:=hm) (ha:=ha) (hs:=hs)
theorem q_sliceE {X:Cx} {e:Expr} {te:TEd} {pos:Pos} {lo hi:Option Expr} {tl th:TOd} {p2:Pos} (he:QEd X e te) (hl:QOd X lo tl) (hu:QOd X hi th):QEd X (.Subscript e (.Slice lo hi none p2) pos) (dSlE te tl th):=by
 simp only [QEd.eq,QAd.eq,QTd.eq,QWd.eq,QSd.eq,QSs.eq,QId.eq,QIf.eq,QOd.eq] at *
 exact d_sliceE (he:=he) (hl:=hl) (hu:=hu)
theorem q_sliceR {X:Cx} {e:Expr} {te:TEd} {ts:TEd} {pos:Pos} {st:Expr} {p2:Pos} (he:QEd X e te) (hs:QEd X st ts):QEd X (.Subscript e (.Slice none none (some st) p2) pos) (dRevSl te ts):=by
 simp only [QEd.eq,QAd.eq,QTd.eq,QWd.eq,QSd.eq,QSs.eq,QId.eq,QIf.eq,QOd.eq] at *
 exact d_sliceR (he:=he) (hs:=hs)
theorem q_never {X:Cx} {st:Stmt}:QSd X st dNever:=by
 simp only [QEd.eq,QAd.eq,QTd.eq,QWd.eq,QSd.eq,QSs.eq,QId.eq,QIf.eq,QOd.eq] at *
 exact d_never 
section
variable {X:Cx} {rest:List Stmt} {t:TSd} {e:Expr} {tt:TTd}
theorem q_block (h:QSs X rest t):PSsd X rest t:=by
 rw [QSs.eq] at h
 exact h
theorem q_pw (h:QWd X e tt):QTd X e tt:=by
 simp only [QWd.eq,QTd.eq] at *
 exact PWd.pt h
end
section
variable {P:Program} {w:World} {K:PySem.W.Frag} {mg:Str → Option Value} {base:Heap}
theorem Fun.okQ {x qual:Str} {st:Stmt} {f:Addr} {fd:FuncData} {N ps:List Str} {k n:Nat} {S:SpD} (F:Fun K x qual st f fd) (hn:ps.length = n) (Sc:FnScope N ps (defScope st))
  (hbody:∀ (cdv:Value) (A:Around) (outer:List Env) (s:Shared) (H:Hp) (E:XK),Room k (A.deeper (envOfC qual (defScope st) s.heap.objs.size f cdv)) →
   ∃ t:TSd,QSs (cxOf CX0 P w K mg base N qual (defScope st) f cdv A outer s H E).nox (defBody st) t ∧ ∀ ds M R,ds.length = n → S ds M R → t { nx:=fun _ M' => R .non M',rt:=R } (startD N ds) M):FnOk P w K mg base CX0 (k + 1) f fd ps (spD K n S):=by
 refine F.okD hn Sc fun cdv A outer s H E hr => ?_
 obtain ⟨t,h1,h2⟩:=hbody cdv A outer s H E hr
 exact ⟨t,q_block h1,h2⟩
end
end L2

set_option Elab.async false
set_option linter.all false
set_option maxRecDepth 100000
namespace L2
open PySem PySem.Spec PyProof.Rows
section
variable {X:Cx} {pos:Pos}
end
end L2

set_option Elab.async false
set_option linter.all false
set_option maxRecDepth 100000
namespace L2
open PySem PySem.Spec PyProof.Rows PySem.Builtin.Str
section
variable {prog:Program} {w:World} {A:Around} {E:Value → Shared → Prop} {s:Shared}
end
section
variable {X:Cx} {e:Expr} {te:TEd} {pos:Pos}
end
/-! ### split of joined texts -/
theorem mul_one_cp (c:Nat) (n:Nat):Txt.mul (tx [c]) (n:Int) = tx (List.replicate n c):=by
 have f:∀ (k:Nat) (acc:Array Nat),(List.replicate k #[c]).foldl (· ++ ·) acc = acc ++ (List.replicate k c).toArray:=by
  intro k
  induction k with
  | zero => intro acc; simp
  | succ k ih =>
   intro acc
   rw [List.replicate_succ,List.foldl_cons,ih,List.replicate_succ]
   apply Array.ext'
   simp
 unfold Txt.mul
 by_cases h0:n = 0
 ·subst h0; rfl
 ·rw [if_neg (by omega)]
  by_cases h1:n = 1
  ·subst h1; rfl
  ·rw [if_neg (by simp [tx_len]; omega)]
   show (⟨(List.replicate (n:Int).toNat #[c]).foldl (· ++ ·) #[]⟩:Str) = _
   rw [f]
   simp [tx]
end L2

set_option Elab.async false
set_option linter.all false
set_option maxRecDepth 100000
namespace L2
open PySem PySem.Spec PyProof.Rows
/-! ### the bits of the script's ints -/
noncomputable def Few (n:Int):Prop:=Builtin.Int.intBits n ≤ 2 ^ 20
end L2
namespace Att
open PySem PySem.W PySem.Calls PyProof.Rows
end Att
namespace L2
open PySem PySem.Spec PyProof.Rows
section
variable {X:Cx} {pos:Pos}
/-! ### * of wide ints -/
instance (n:Int):Decidable (Few n):=by unfold Few; exact inferInstance
noncomputable def CMulB (i j:Int):Prop:=CMul i j ∨ (Few i ∧ Few j)
noncomputable instance:∀ i j,Decidable (CMulB i j):=fun i j => Classical.propDecidable _
theorem CMulB.ok {i j:Int} (h:CMulB i j):IntMulOk i j:=by
 rcases h with h | ⟨a,b⟩
 ·exact h.ok
 ·exact .of_bits a b
/-! ### divmod,max -/
theorem pair2 {K:PySem.W.Frag} {M:DH} {H:Hp} {a b:D} {xs:List V} (h:Paired (RepR K M H) [a,b] xs):∃ v w,xs = [v,w] ∧ RepR K M H a v ∧ RepR K M H b w:=by
 cases h with
 | cons r t =>
  cases t with
  | cons r2 t2 => cases t2; exact ⟨_,_,rfl,r,r2⟩
noncomputable def dmD:List D → Option D
 | [.int i,.int j] => if CDiv i j then some (.tup [.int (i / j),.int (i % j)]) else none
 | _ => none
noncomputable def maxD:List D → Option D
 | [.int i,.int j] => some (.int (if j > i then j else i))
 | _ => none
theorem c_max (hc:X.calm = true):CallRd X (.builtin "max") maxD:=CallRd.of (call_max2 hc) fun H M xs ds dz Q hr rp e q => by
 unfold maxD at e
 split at e
 ·rename_i i j
  cases e
  obtain ⟨v,w,rfl,r1,r2⟩:=pair2 rp
  rw [rInt r1,rInt r2]
  exact ⟨i,j,rfl,q _ H (Ext.refl _ _) hr (by simp [Rep])⟩
 ·cases e
/-! ### o[i],y = value -/
end
end L2

set_option Elab.async false
set_option linter.all false
set_option maxRecDepth 100000
namespace L2
open PySem PySem.Spec PyProof.Rows
open AutoSeq1 (wpAny_loadPart')
section
variable {prog:Program} {w:World} {A:Around} {E:Value → Shared → Prop} {s:Shared}
/-! ### enumerate(tuple) -/
theorem nextOf_tup_item {it t:Addr} {i:Nat} {its} {x:Value} {Q:Value → Shared → Prop} (hit:s.heap.IsTupleIter it t i) (ht:s.heap.IsTuple t its) (hx:its[i]? = some x)
  (hQ:∀ h',h'.IsTupleIter it t (i + 1) → Heap.SameBut it s.heap h' → Q x { s with heap:=h' }):wpAny (model prog w) A (Builtin.SmallTypes.nextOf (.ref it)) Q E s:=by
 obtain ⟨o,ho,hc,hd⟩:=id hit
 obtain ⟨ol,hol,_,nl,hdl⟩:=ht
 unfold Builtin.SmallTypes.nextOf
 refine wpAny_bind (wpAny_callSpecial?_slot (name:=Str.ofString "__next__") hit.typeIs F.slot_tuple_iterator_next (wpAny_call_entry F.slot_tuple_iterator_next hit.typeIs F.entry_tuple_iterator_next ?_ (F.args_tuple_iterator_next_1 _)))
 show wpAny _ _ (field (.ref it) 0 >>= _) _ _ s
 refine wpAny_bind (wpAny_field ho hd (x:=.ref t) rfl ?_)
 show wpAny _ _ (if (Value.ref t == Value.none) = true then _ else _) _ _ s
 rw [if_neg (show ¬ ((Value.ref t == Value.none) = true) from Bool.false_ne_true)]
 show wpAny _ _ (field (.ref it) 1 >>= _) _ _ s
 refine wpAny_bind (wpAny_field ho hd (x:=.int i 0) rfl ?_)
 show wpAny _ _ (seqItems? (.ref t) >>= _) _ _ s
 refine wpAny_bind (wpAny_seqItems hol hdl ?_)
 simp only [Int.toNat_natCast,hx]
 refine wpAny_bind (wpAny_setField ho hd (by simp) (wpAny_pure ⟨x,rfl,wpAny_pure (hQ _ ?_ (Heap.SameBut.update ..))⟩))
 exact ⟨_,Heap.get?_update_self _ ho (Obj.isFreed_of_fields (Obj.data_mapFields hd _)),(Obj.cls_mapFields ..).trans hc,by rw [Obj.data_mapFields hd]; simp [rawInt]⟩
theorem nextOf_tup_end {it t:Addr} {i:Nat} {its} {Q:Value → Shared → Prop} (hh:A.handled = none) (hit:s.heap.IsTupleIter it t i) (ht:s.heap.IsTuple t its) (hx:its[i]? = none)
  (hE:∀ h' e,Heap.ExtBut it s.heap h' → (∃ o,h'.get? e = some o ∧ o.cls = .type "StopIteration") → E (.ref e) { s with heap:=h' }):wpAny (model prog w) A (Builtin.SmallTypes.nextOf (.ref it)) Q E s:=by
 obtain ⟨o,ho,hc,hd⟩:=id hit
 obtain ⟨ol,hol,_,nl,hdl⟩:=ht
 unfold Builtin.SmallTypes.nextOf
 refine wpAny_bind (wpAny_callSpecial?_slot (name:=Str.ofString "__next__") hit.typeIs F.slot_tuple_iterator_next (wpAny_call_entry F.slot_tuple_iterator_next hit.typeIs F.entry_tuple_iterator_next ?_ (F.args_tuple_iterator_next_1 _)))
 show wpAny _ _ (field (.ref it) 0 >>= _) _ _ s
 refine wpAny_bind (wpAny_field ho hd (x:=.ref t) rfl ?_)
 show wpAny _ _ (if (Value.ref t == Value.none) = true then _ else _) _ _ s
 rw [if_neg (show ¬ ((Value.ref t == Value.none) = true) from Bool.false_ne_true)]
 show wpAny _ _ (field (.ref it) 1 >>= _) _ _ s
 refine wpAny_bind (wpAny_field ho hd (x:=.int i 0) rfl ?_)
 show wpAny _ _ (seqItems? (.ref t) >>= _) _ _ s
 refine wpAny_bind (wpAny_seqItems hol hdl ?_)
 simp only [Int.toNat_natCast,hx]
 refine wpAny_bind (wpAny_rule (wpAny_bind (wpAny_setField ho hd (by simp) ?_)))
 show wpAny _ _ (newExc (.type "StopIteration") [] >>= _) _ _ _
 refine wpAny_bind ?_
 simp only [newExc,newTuple]
 refine wpAny_bind (wpAny_newObj_type ?_ (by size_fits))
 refine wpAny_bind (m:=firstArgMember _ _) (wpAny_of_eq (a:=Value.none) (by first | rfl | (simp only [firstArgMember]; rfl)) ?_)
 refine wpAny_newObj_type ?_ (by size_fits)
 simp only [raiseNew]
 refine wpAny_bind (wpAny_handled ?_)
 first | rw [show A.in1.handled = none from hh] | rw [hh]
 refine wpAny_bind (wpAny_pure (wpAny_throw ?_))
 exact hE _ _ (((Heap.SameBut.update ..).extBut.push _).push _) ⟨_,Heap.get?_push_size _ rfl,rfl⟩
end
section
variable {X:Cx} {pins:List (Addr × Obj)} {σ:St} {H:Hp} {s:Shared} {h':Heap}
end
end L2

set_option Elab.async false
set_option linter.all false
set_option maxRecDepth 100000
namespace L2
open PySem PySem.Spec PyProof.Rows
theorem FpOk.upd {X:Cx} {pins:List (Addr × Obj)} {H:Hp} {b T:Addr} {o:HO} (f:FpOk X pins H b) (h:b ≠ T):FpOk X pins (upd H T o) b:=by
 obtain ⟨f0,r⟩:=f
 exact ⟨by rw [upd_ne h]; exact f0,r⟩
section
variable {X:Cx} {a:Expr} {t:TAd} {pos:Pos}
end
end L2

set_option Elab.async false
set_option linter.all false
set_option maxRecDepth 100000
namespace L2
open PySem PySem.Spec PyProof.Rows
section
variable {X:Cx} {pos:Pos}
/-! ### xs[lo:hi] = ys -/
/-! ### list(tuple) as a list of our own -/
theorem dmD_ii {i j:Int}:dmD [.int i,.int j] = if CDiv i j then some (.tup [.int (i / j),.int (i % j)]) else none:=rfl
theorem maxD_ii {i j:Int}:maxD [.int i,.int j] = some (.int (if j > i then j else i)):=rfl
theorem cpow1060:CPow 10 60 = True:=by simp [CPow]
end
end L2

set_option Elab.async false
set_option linter.all false
set_option maxRecDepth 100000
namespace L2
open PySem PySem.Spec PyProof.Rows
section
variable {X:Cx} {e:Expr} {te ts:TEd} {pos:Pos}
/-! ### xs[::-1] of a list -/
end
end L2

set_option Elab.async false
set_option linter.all false
set_option maxRecDepth 100000
namespace L2
open PySem PySem.Spec PyProof.Rows
/-! ### tables of deep data -/
section
variable {κ:Type} [DecidableEq κ]
variable {K:PySem.W.Frag} {M:DH} {H:Hp}
theorem KR.any {kvs:List (κ × D)} {ks:List (κ × V)} (h:KR K M H kvs ks) (k:κ):(ks.any fun kv => decide (kv.1 = k)) = kvs.any fun kv => decide (kv.1 = k):=by
 unfold KR at h
 induction h with
 | nil => rfl
 | cons r _ ih => rw [List.any_cons,List.any_cons,ih,r.1]
theorem KR.length {kvs:List (κ × D)} {ks:List (κ × V)} (h:KR K M H kvs ks):kvs.length = ks.length:=Paired.length h
end
noncomputable def kD:Key → D
 | .inl i => .int i
 | .inr x => .str x
section
variable {X:Cx} {a b c e o i:Expr} {es:List Expr} {te to ti ta tb:TEd} {t:TAd} {pos:Pos}
/-! new dicts -/
/-! d[k],k a scalar; d[x,y] -/
/-! k in d,(x,y) in d -/
/-! d[k] = v,d[x,y] = v -/
/-! d.get((x,y),z) -/
end
end L2

set_option Elab.async false
set_option linter.all false
set_option maxRecDepth 100000
namespace L2
open PySem PySem.Spec PyProof.Rows
section
variable {X:Cx} {a b c e o:Expr} {es:List Expr} {te to:TEd} {t:TAd} {pos:Pos} {tg:Expr}
/-! min,sum -/
noncomputable def minD:List D → Option D
 | [.int i,.int j] => some (.int (if j < i then j else i))
 | _ => none
noncomputable def intsOf:List D → Option (List Int)
 | [] => some []
 | .int i :: ds => (intsOf ds).map (i :: ·)
 | _ => none
theorem intsOf_map:∀ {ns:List Int},intsOf (ns.map D.int) = some ns
 | [] => rfl
 | n :: ns => by simp [intsOf,intsOf_map (ns:=ns)]
/-! xs.pop(),xs.extend(ys) -/
noncomputable def dPop (to:TEd):TEd:=fun Δ M Q => to Δ M fun o M1 => ∃ a ds d,o = .ref a ∧ M1 a = some (.lst (ds ++ [d])) ∧ Q d (updM M1 a (.lst ds))
theorem d_pop {apos cpos:Pos} (ho:PEd X o to) (hbase:attributeBase o "pop" X.env (eval o X.env) = eval o X.env:=by rfl) (hline:(apos.endLine == cpos.line) = true:=by rfl):PEd X (.Call (.Attribute o "pop" apos) [] [] cpos) (dPop to) :=
 (pe_bm0 PySem.F.plainAttrs_list PySem.F.slot_list_pop PySem.F.type_list_pop (show MtR X "list.pop" rPop from mt_pop) ho hbase hline).conv fun σ H Q ⟨Δ,M,R,sr,hr,q,k⟩ => ⟨Δ,M,_,sr,hr,q,fun o M1 ov H1 ⟨a,ds,d,eo,em,q1⟩ e1 hr1 ro => by
  subst eo
  simp only [Rep] at ro
  subst ro
  obtain ⟨vs,hv,rl⟩:=hr1 a _ em
  have hl:=rl.length
  rw [List.length_append,List.length_cons,List.length_nil] at hl
  obtain ⟨v,gv,rv⟩:=rl.get (i:=ds.length) (d:=d) (by simp)
  have hl2:vs.length - 1 = ds.length:=by omega
  refine ⟨.inl ⟨rfl,vs,SqL.of hv⟩,a,vs,v,rfl,rfl,hv,by rw [hl2]; exact gv,?_⟩
  have ew:Ext M1 H1 (updM M1 a (.lst ds)) (upd H1 a (.lst vs.dropLast)):=Ext.write em
  refine k _ _ _ _ q1 (e1.trans ew) (hr1.write em ?_) (rv.ext ew)
  have:=RepL.take ds.length rl
  rw [List.take_left] at this
  rw [List.dropLast_eq_take,hl2]; exact this⟩
noncomputable def dExt (to te:TEd):TEd:=fun Δ M Q => to Δ M fun o M1 => ∃ a l,o = .ref a ∧ M1 a = some (.lst l) ∧ te Δ M1 fun d M2 => ∃ ds ys,d = .lst ys ∧ M2 a = some (.lst ds) ∧ ds.length + ys.length ≤ sizeLine ∧ Q .non (updM M2 a (.lst (ds ++ ys)))
theorem d_ext {apos cpos:Pos} (ho:PEd X o to) (he:PEd X e te) (hbase:attributeBase o "extend" X.env (eval o X.env) = eval o X.env:=by rfl)
  (hse:starEach [e] X.env = (false,eval e X.env) :: starEach [] X.env:=by rfl)
  (hfew:((backTo cpos (starEach [e] X.env)).all (fun x => !x.1) && (backToKw cpos (keywordEach [] X.env)).all (fun x => x.1.isSome)
   && decide ([e].length + ([]:List Keyword).length + (if ([]:List Keyword).isEmpty then 0 else 1) < 30)) = true:=by rfl)
  (hline:(apos.endLine == cpos.line) = true:=by rfl) (hplain:(backTo cpos (starEach [] X.env)).any (·.1) = false:=by rfl):PEd X (.Call (.Attribute o "extend" apos) [e] [] cpos) (dExt to te) :=
 (pe_bm PySem.F.plainAttrs_list PySem.F.slot_list_extend PySem.F.type_list_extend (show MtR X "list.extend" rExtend from mt_extend) ho (pa_cons he pa_nil hse) hbase hfew hline hse hplain).conv fun σ H Q ⟨Δ,M,R,sr,hr,q,k⟩ => ⟨Δ,M,_,sr,hr,q,fun o M1 ov H1 ⟨a,l,eo,em,q1⟩ e1 hr1 ro => by
  subst eo
  simp only [Rep] at ro
  subst ro
  obtain ⟨vs,hv,rl⟩:=hr1 a _ em
  refine ⟨.inl ⟨rfl,vs,SqL.of hv⟩,Δ,M1,_,sr.ext e1,hr1,q1,fun d M2 v H2 ⟨ds,ys,ed,em2,hz,q2⟩ e2 hr2 rv => ?_⟩
  subst ed
  simp only [Rep] at rv
  obtain ⟨b,zs,rfl,hb,rz⟩:=rv
  obtain ⟨ws,hw,rl2⟩:=hr2 a _ em2
  refine ⟨a,b,ws,zs,rfl,rfl,hw,hb.1,by rw [← rl2.length,← rz.length]; exact hz,k _ _ _ _ q2 ((e1.trans e2).trans (Ext.write em2)) (hr2.write em2 (rl2.append rz)) (by simp [Rep])⟩⟩
/-! range(a,b,c),c a written step -/
end
end L2

set_option Elab.async false
set_option linter.all false
set_option maxRecDepth 100000
namespace L2
open PySem PySem.Spec PyProof.Rows
/-! ### a comprehension whose own names are cells (another one within reads them) -/
theorem cf_look {x:Str} {c:Addr}:∀ {names:List (Str × NameKind)} {n:Nat} {acc:List (Str × Addr)},(cellsFrom n names acc).lookup x = some c → acc.lookup x = some c ∨ ((x,NameKind.cell) ∈ names ∧ n ≤ c)
 | [],_,_,h => .inl h
 | (y,k) :: r,n,acc,h => by
  unfold cellsFrom at h
  split at h
  ·rename_i hk
   rcases cf_look h with z | z
   ·rw [List.lookup_cons] at z
    cases q:x == y with
    | true =>
     rw [q] at z
     have e1:n = c:=Option.some.inj z
     have e2:x = y:=by simpa using q
     have e3:k = .cell:=by simpa using hk
     subst e1; subst e2; subst e3
     exact .inr ⟨List.mem_cons_self,Nat.le_refl _⟩
    | false => rw [q] at z; exact .inl z
   ·exact .inr ⟨List.mem_cons_of_mem _ z.1,Nat.le_of_succ_le z.2⟩
  ·rcases cf_look h with z | z
   ·exact .inl z
   ·exact .inr ⟨List.mem_cons_of_mem _ z.1,z.2⟩
theorem cf_inj:∀ {names:List (Str × NameKind)} {n:Nat} {acc:List (Str × Addr)},(∀ x y c,acc.lookup x = some c → acc.lookup y = some c → x = y) → (∀ x c,acc.lookup x = some c → c < n) →
  ∀ x y c,(cellsFrom n names acc).lookup x = some c → (cellsFrom n names acc).lookup y = some c → x = y
 | [],_,_,hi,_ => hi
 | (z,k) :: r,n,acc,hi,hl => by
  unfold cellsFrom
  split
  ·refine cf_inj (fun x y c hx hy => ?_) (fun x c hx => ?_)
   ·rw [List.lookup_cons] at hx hy
    cases q1:x == z with
    | true =>
     rw [q1] at hx
     have e1:n = c:=Option.some.inj hx
     subst e1
     cases q2:y == z with
     | true => exact (beq_iff_eq.mp q1).trans (beq_iff_eq.mp q2).symm
     | false => rw [q2] at hy; exact absurd (hl y _ hy) (Nat.lt_irrefl _)
    | false =>
     rw [q1] at hx
     cases q2:y == z with
     | true =>
      rw [q2] at hy
      have e1:n = c:=Option.some.inj hy
      subst e1
      exact absurd (hl x _ hx) (Nat.lt_irrefl _)
     | false => rw [q2] at hy; exact hi x y c hx hy
   ·rw [List.lookup_cons] at hx
    cases q1:x == z with
    | true => rw [q1] at hx; have e1:n = c:=Option.some.inj hx; exact e1 ▸ Nat.lt_succ_self _
    | false => rw [q1] at hx; exact Nat.lt_succ_of_lt (hl x c hx)
  ·exact cf_inj hi hl
theorem cf_heap {x:Str} {c:Addr}:∀ {names:List (Str × NameKind)} {h:Heap} {acc:List (Str × Addr)},(cellsFrom h.objs.size names acc).lookup x = some c → acc.lookup x = some c ∨ (pushCells h names).IsCell c none
 | [],_,_,e => .inl e
 | (y,k) :: r,h,acc,e => by
  unfold cellsFrom at e
  unfold pushCells
  split at e
  ·rename_i hk
   rw [if_pos hk]
   have e':(cellsFrom (h.push { cls:=.type "cell",data:=.cell none }).objs.size r ((y,h.objs.size) :: acc)).lookup x = some c:=by rw [Heap.size_push]; exact e
   rcases cf_heap e' with z | z
   ·rw [List.lookup_cons] at z
    cases q:x == y with
    | true =>
     rw [q] at z
     have e1:h.objs.size = c:=Option.some.inj z
     subst e1
     exact .inr ⟨_,pushCells_keeps _ _ _ _ (Heap.get?_push_size _ rfl),rfl⟩
    | false => rw [q] at z; exact .inl z
   ·exact .inr z
  ·rename_i hk
   rw [if_neg hk]
   exact cf_heap e
theorem newEnv_cells {M:Model} {A:Around} {E:Value → Shared → Prop} {s:Shared} {scope:Scope} {globals:Addr} {cl:List (Str × Addr)} {qual:Str} {outer:Env} {builtins:Addr} {Q:Env → Shared → Prop}
  (hQ:∀ h',(∀ b o,s.heap.get? b = some o → h'.get? b = some o) → h'.Ns s.heap.objs.size (fun _ => none) →
   (∀ x c,(cellsFrom (s.heap.objs.size + 1) scope.names cl).lookup x = some c → cl.lookup x = some c ∨ h'.IsCell c none) →
   Q (newEnv scope s.heap.objs.size globals (cellsFrom (s.heap.objs.size + 1) scope.names cl) qual none .none (some outer) builtins) { s with heap:=h' }) :
  wpAny M A (newFunctionEnv scope globals cl [] qual none .none (some outer) builtins) Q E s:=by
 simp only [newFunctionEnv,Option.isSome_some,if_true]
 refine wpAny_bind (wpAny_alloc ?_)
 refine wpAny_bind (wpAny_layCells _ (fun name kind cells => by cases hkc:kind == NameKind.cell <;> simp [hkc]) _ _ _ _ ?_)
 have hsz:({ s with heap:=s.heap.push { cls:=.type "dict",data:=.dict #[] } }:Shared).heap.objs.size = s.heap.objs.size + 1:=Heap.size_push ..
 rw [hsz]
 refine wpAny_bind ?_
 rw [List.forIn_nil]
 refine wpAny_pure (wpAny_pure ?_)
 refine hQ _ (fun b o e => pushCells_keeps _ _ b o (Heap.get?_push_of_some _ e)) ((Heap.Ns.new s.heap (.type "dict")).keeps (pushCells_keeps _ _)) fun x c e => ?_
 refine cf_heap (h:=s.heap.push { cls:=.type "dict",data:=.dict #[] }) ?_
 rw [Heap.size_push]; exact e
noncomputable def cxC (X:Cx) (scope:Scope) (cl:List (Str × Addr)) (N:List Str) (C:Addr) (s:Shared) (H:Hp) (ex:List Addr):Cx :=
 { cxComp X scope (cellsFrom (C + 1) scope.names cl) N C s H ex with fn:=fun x => scope.names.lookup x == some .cell }
theorem relabel_lookup {env:Env} {x:Str}:∀ {names:List (Str × NameKind)},(names.map fun (n,k) => if (k == NameKind.free && env.scope.kind == .function && env.kindOf n == some .cell) then (n,NameKind.cell) else (n,k)).lookup x =
  (names.lookup x).map fun k => if (k == NameKind.free && env.scope.kind == .function && env.kindOf x == some .cell) = true then NameKind.cell else k
 | [] => rfl
 | (n,k0) :: r => by
  have ih:=@relabel_lookup env x r
  show List.lookup x ((if (k0 == NameKind.free && env.scope.kind == .function && env.kindOf n == some .cell) = true then (n,NameKind.cell) else (n,k0)) :: _) = _
  cases hx:x == n with
  | true =>
   have e:x = n:=by simpa using hx
   subst e
   by_cases hq:(k0 == NameKind.free && env.scope.kind == .function && env.kindOf x == some .cell) = true
   ·rw [if_pos hq]; simp only [List.lookup_cons,hx,Option.map_some,hq,if_true]
   ·rw [if_neg hq]; simp only [List.lookup_cons,hx,Option.map_some,hq,if_false,Bool.false_eq_true]
  | false =>
   by_cases hq:(k0 == NameKind.free && env.scope.kind == .function && env.kindOf n == some .cell) = true
   ·rw [if_pos hq]; simp only [List.lookup_cons,hx]; exact ih
   ·rw [if_neg hq]; simp only [List.lookup_cons,hx]; exact ih
structure CompScC (X:Cx) (scope:Scope) (cl:List (Str × Addr)) (ms:List Bool) (extra:List Str):Prop where
 kind:scope.kind = .function
 names:∀ y ∈ scope.names,y.2 = .local → scope.names.lookup y.1 = some .local
 cellN:∀ y ∈ scope.names,y.2 = .cell → scope.names.lookup y.1 = some .cell
 clos:closureFor scope X.env = pure cl
 sub:∀ x c,cl.lookup x = some c → X.env.cells.lookup x = some c
 fre:∀ x c,cl.lookup x = some c → scope.names.lookup x = some .free
 has:∀ x,scope.names.lookup x = some .free → ∃ c,cl.lookup x = some c
 fr:∀ x,scope.names.lookup x = some .free → X.env.scope.names.lookup x = some .cell ∨ X.env.scope.names.lookup x = some .free
 mask:∀ (i:Nat) (x:Str),ms[i]? = some true → X.N[i]? = some x → scope.names.lookup x = some .free
 mlen:ms.length ≤ X.N.length
theorem cf_free {X:Cx} {scope:Scope} {cl:List (Str × Addr)} {ms:List Bool} {extra:List Str} (S:CompScC X scope cl ms extra) {n:Nat} {x:Str} {c:Addr} (hf:scope.names.lookup x = some .free) (hc:cl.lookup x = some c):(cellsFrom n scope.names cl).lookup x = some c:=by
 have h:=PySem.W.cellsFrom_some (x:=x) scope.names n cl (.inr (by rw [hc]; rfl))
 obtain ⟨c',e⟩:=Option.isSome_iff_exists.mp h
 rcases cf_look e with z | z
 ·rw [hc] at z; cases z; exact e
 ·have:=S.cellN _ z.1 rfl
  rw [hf] at this; cases this
section
variable {X:Cx} {pins:List (Addr × Obj)} {σ:St} {H H2:Hp} {s s2:Shared} {scope:Scope} {cl:List (Str × Addr)} {ms:List Bool} {extra:List Str}
theorem compOkC (I:Inv X pins σ H s) (S:CompScC X scope cl ms extra) {fp:List Addr} (hfp:∀ b ∈ fp,FpOk X pins H b) (hlt:∀ b ∈ fp,b < s.heap.objs.size) {C:Addr} (hC:s.heap.objs.size ≤ C) :
  (cxC X scope cl (X.N ++ extra) C s H fp).Ok where
 mod:=I.ok.mod
 kind:=S.kind
 glob:=I.ok.glob
 blt:=I.ok.blt
 above:=hC
 inj:=cf_inj (fun x y c h1 h2 => I.ok.inj x y c (S.sub x c h1) (S.sub y c h2)) fun x c h => by
  obtain ⟨v,o,ho,_⟩:=I.cell x c (S.sub x c h)
  exact Nat.lt_succ_of_lt (Nat.lt_of_lt_of_le (Heap.lt_size ho) hC)
 has:=fun x hx => by
  have hx':(relabel scope X.env).names.lookup x = some .cell ∨ (relabel scope X.env).names.lookup x = some .free:=hx
  have e:(relabel scope X.env).names.lookup x = _:=relabel_lookup (env:=X.env) (x:=x) (names:=scope.names)
  rw [e] at hx'
  refine Option.isSome_iff_exists.mp (PySem.W.cellsFrom_some _ _ _ ?_)
  cases q:scope.names.lookup x with
  | none => rw [q] at hx'; simp at hx'
  | some k =>
   rw [q] at hx'
   cases k with
   | cell => exact .inl rfl
   | free => obtain ⟨c,hc⟩:=S.has x q; exact .inr (by rw [hc]; rfl)
   | _ => simp at hx'
 cab:=fun x c h e => by
  have hq:scope.names.lookup x = some .cell:=by simpa [cxC] using h
  rcases cf_look e with z | z
  ·rw [S.fre x c z] at hq; cases hq
  ·exact Nat.le_trans hC (Nat.le_of_succ_le z.2)
 hd:=I.ok.hd
 frames:=I.ok.frames
 stk:=.inl rfl
 exf:=fun b hb => ⟨Nat.ne_of_lt (Nat.lt_of_lt_of_le (hlt b hb) hC),fun x c e => by
  rcases cf_look e with z | z
  ·exact (hfp b hb).2.2.2.2.1 x c (S.sub x c z)
  ·exact Nat.ne_of_gt (Nat.lt_of_lt_of_le (Nat.lt_of_lt_of_le (hlt b hb) hC) (Nat.le_of_succ_le z.2))⟩
 bs:=I.bs
 bsz:=Nat.le_trans I.ok.bsz I.sz
 noex:=fun b o e hb => by
  rcases (hfp b hb).2.2.2.1 with z | z
  ·exact I.ok.noex b o e z
  ·exact absurd (Nat.lt_of_lt_of_le (Heap.lt_size e) (Nat.le_trans I.ok.bsz z)) (Nat.lt_irrefl _)
 exfs:=fun b hb z => by
  rcases List.mem_cons.mp (I.stkSub b z) with e | e
  ·exact (hfp b hb).2.1 e
  ·exact (hfp b hb).2.2.1 e
 funs:=I.stack
 frf:=I.stkFree
theorem compInvC (I:Inv X pins σ H s) (S:CompScC X scope cl ms extra) {fp:List Addr} (hfp:∀ b ∈ fp,FpOk X pins H b) (hlt:∀ b ∈ fp,b < s.heap.objs.size) {C:Addr} (hC:s.heap.objs.size ≤ C)
  (os:s2.os = s.os) (bare:AllBare s2.gens) (keep:∀ b o,s.heap.get? b = some o → s2.heap.get? b = some o) {m:Str → Option Value} (hn:s2.heap.Ns C m)
  (hce:∀ x c,(cellsFrom (C + 1) scope.names cl).lookup x = some c → cl.lookup x = some c ∨ s2.heap.IsCell c none) :
  Inv (cxC X scope cl (X.N ++ extra) C s H fp) [] (compS ms extra.length σ) H s2 where
 ok:=compOkC I S hfp hlt hC
 os:=os
 bare:=bare
 base:=Un.kept keep
 loc:=⟨m,hn,fun i x v h1 h2 h3 => by
  obtain ⟨hi,hm,hv⟩:=compS_get h2
  have hiN:i < X.N.length:=by rw [← I.len]; exact hi
  have hx:X.N[i]? = some x:=by
   have h1':(X.N ++ extra)[i]? = some x:=h1
   rwa [List.getElem?_append_left hiN] at h1'
  have hf:=S.mask i x hm hx
  obtain ⟨m0,hn0,hl⟩:=I.loc
  obtain ⟨u,r,l⟩:=hl i x v hx hv (by rcases S.fr x hf with z | z <;> simp [Vis,z])
  refine ⟨u,r,.inr ⟨?_,?_⟩⟩
  ·exact relabel_free (env:=X.env) hf
  ·obtain ⟨c,hc⟩:=S.has x hf
   have hc':=S.sub x c hc
   rcases l with ⟨k,_⟩ | ⟨_,c',e,z⟩
   ·rcases S.fr x hf with z | z <;> (have k':X.env.scope.names.lookup x = some .local:=k; rw [z] at k'; cases k')
   ·rw [hc'] at e; cases e
    obtain ⟨o,ho,hd⟩:=z
    exact ⟨c,cf_free S hf hc,o,keep _ _ ho,hd⟩⟩
 cell:=fun x c e => by
  rcases hce x c e with z | z
  ·obtain ⟨v,o,ho,hd⟩:=I.cell x c (S.sub x c z)
   exact ⟨v,o,keep _ _ ho,hd⟩
  ·exact ⟨none,z⟩
 free:=I.hok.fresh hC
 freeC:=fun x c e => by
  rcases cf_look e with z | z
  ·exact I.freeC x c (S.sub x c z)
  ·exact I.hok.fresh (Nat.le_trans hC (Nat.le_of_succ_le z.2))
 pin:=fun p hp => absurd (show p ∈ ([]:List (Addr × Obj)) from hp) (by simp)
 hok:=I.hok.kept keep
 len:=by
  unfold compS
  rw [List.length_append,maskS_length,List.length_replicate,I.len]
  show _ = (X.N ++ extra).length
  rw [List.length_append]
end
section
variable {X:Cx} {pins:List (Addr × Obj)} {σ σ':St} {H2 H':Hp} {s2 s':Shared} {scope:Scope} {cl:List (Str × Addr)} {ms:List Bool} {extra:List Str} {tg iter elt:Expr} {ifs:List Expr} {g:TG} {tc:TT} {te:TE} {pos:Pos}
theorem comp_coreC (S:CompScC X scope cl ms extra) (hcalm:X.calm = true)
  (hg:∀ C s H ex,PG (cxC X scope cl (X.N ++ extra) C s H ex) tg g) (hif:∀ C s H ex,PIf (cxC X scope cl (X.N ++ extra) C s H ex) ifs tc) (he:∀ C s H ex,PE (cxC X scope cl (X.N ++ extra) C s H ex) elt te)
  (I2:Inv X pins σ H2 s2) {it:Addr} {fp:List Addr} {tn:Nat → Heap → Prop} {J:It} (T:Turn X.prog X.w X.K tg J fp it tn) (st2:tn 0 s2.heap) (f2:∀ b ∈ fp,FpOk X pins H2 b)
  {W:Nat → Nat → List V → St → Hp → Prop} {Z:List V → Hp → Prop} {m0:Nat} (w0:W 0 m0 [] (compS ms extra.length σ) H2) (turn:CompTurn J g tc te W Z)
  {RR:Value → Addr → Result → Shared → Prop} {E:Value → Shared → Prop}
  (hRR:∀ (s':Shared) (ys:List V) (its:List Value) (n:Nat) (σ':St) (H':Hp),Inv (cxC X scope cl (X.N ++ extra) (s2.heap.objs.size + 1) s2 H2 fp) [(s2.heap.objs.size,lobj its n)] σ' H' s' → Vals ys its → ys.length ≤ sizeLine → Z ys H' →
   RR (.ref s2.heap.objs.size) (s2.heap.objs.size + 1) (.ok .next) s') :
  wpAny (model X.prog X.w) X.A (newList []) (fun acc s₃ => wpAny (model X.prog X.w) X.A (newFunctionEnv scope X.env.globals cl [] X.env.qual none .none (some X.env)) (fun cenv s₄ =>
   codeAny (model X.prog X.w) X.A (.compStart (.ListComp elt [⟨tg,iter,ifs,0⟩] scope pos) 0 (.ref it) acc { cenv with scope:=relabel scope X.env }) (RR acc cenv.locals) s₄) E s₃) E s2:=by
 refine wpAny_newObj_type (newEnv_cells fun h₁ kp₁ hns₁ hce₁ => ?_)
 dsimp only at hns₁ kp₁ hce₁ ⊢
 have hsz:(s2.heap.push { cls:=.type "list",dict:=none,data:=.seq ([]:List Value).toArray }).objs.size = s2.heap.objs.size + 1:=by rw [Heap.size_push]
 rw [hsz] at hns₁ hce₁ ⊢
 have hlt:∀ b ∈ fp,b < s2.heap.objs.size:=fun b hb => by
  obtain ⟨o,e,_⟩:=T.obj _ _ st2 b hb
  exact Heap.lt_size e
 have old:∀ b o,s2.heap.get? b = some o → h₁.get? b = some o:=fun b o e => kp₁ b o (Heap.get?_push_of_some _ e)
 have hacc:h₁.get? s2.heap.objs.size = some (lobj [] 0):=kp₁ _ _ (Heap.get?_push_size _ rfl)
 have hDn:H2 s2.heap.objs.size = none:=I2.hok.fresh (Nat.le_refl _)
 have hDfs:∀ b,s2.heap.objs.size ≤ b → b ∉ (cxC X scope cl (X.N ++ extra) (s2.heap.objs.size + 1) s2 H2 fp).fs:=fun b hb z => by
  rcases List.mem_cons.mp (I2.stkSub b z) with e | e
  ·subst e; exact absurd (Nat.lt_of_lt_of_le I2.lt hb) (Nat.lt_irrefl _)
  ·exact I2.nofs hb e
 have loop:∀ s₃:Shared,s₃ = { s2 with heap:=h₁ } →
   codeAny (model X.prog X.w) X.A (.compLoop (.ListComp elt [⟨tg,iter,ifs,0⟩] scope pos) 0 (.ref it) (.ref s2.heap.objs.size) (compEnvC scope (cellsFrom (s2.heap.objs.size + 1 + 1) scope.names cl) (s2.heap.objs.size + 1) X.env)) (RR (.ref s2.heap.objs.size) (s2.heap.objs.size + 1)) s₃:=by
  rintro s₃ rfl
  have I3:Inv (cxC X scope cl (X.N ++ extra) (s2.heap.objs.size + 1) s2 H2 fp) [] (compS ms extra.length σ) H2 { s2 with heap:=h₁ } :=
   compInvC I2 S f2 hlt (Nat.le_succ _) rfl I2.bare old hns₁ hce₁
  have fpc:∀ {H:Hp} {n:Nat} {its:List Value},(∀ b ∈ fp,H b = none) → ∀ b ∈ fp,FpOk (cxC X scope cl (X.N ++ extra) (s2.heap.objs.size + 1) s2 H2 fp) [(s2.heap.objs.size,lobj its n)] H b:=fun hn b hb =>
   ⟨hn b hb,Nat.ne_of_lt (Nat.lt_succ_of_lt (hlt b hb)),(compOkC I2 S f2 hlt (Nat.le_succ _)).exfs b hb,.inl hb,fun x c e => (compOkC I2 S f2 hlt (Nat.le_succ _)).exf b hb |>.2 x c e,fun p hp => by
    have:p = (s2.heap.objs.size,_):=List.mem_singleton.mp (show p ∈ [(s2.heap.objs.size,_)] from hp)
    subst this
    exact Nat.ne_of_gt (hlt b hb)⟩
  refine codeAny_compLoop_any (env:=compEnvC scope (cellsFrom (s2.heap.objs.size + 1 + 1) scope.names cl) (s2.heap.objs.size + 1) X.env)
   (fun n s' => ∃ i ys its nn σ' H',Inv (cxC X scope cl (X.N ++ extra) (s2.heap.objs.size + 1) s2 H2 fp) [(s2.heap.objs.size,lobj its nn)] σ' H' s' ∧ Vals ys its ∧ tn i s'.heap ∧ (∀ b ∈ fp,H' b = none) ∧ W i n ys σ' H') ?_ m0
   ⟨0,[],[],0,_,H2,I3.pins_of fun p hp => ?_,.nil,T.keep _ _ _ st2 fun b _ o e => old b o e,fun b hb => (f2 b hb).1,w0⟩
  ·rintro n s' ⟨i,ys,its,nn,σ',H',I4,rv,st4,fr4,w4⟩
   obtain ⟨hz,h⟩:=turn i n ys σ' H' w4
   rcases h with ⟨stop,hZ⟩ | ⟨go,step⟩
   ·refine thn (T.done (cxC X scope cl (X.N ++ extra) (s2.heap.objs.size + 1) s2 H2 fp) rfl rfl rfl hcalm i _ s' _ H' (fun _ _ => False) I4 (fpc fr4) st4 stop) fun r s4 ⟨hr,I5⟩ => ?_
    subst hr
    exact hRR s4 ys its nn σ' H' I5 rv hz hZ
   ·refine thn (T.item (cxC X scope cl (X.N ++ extra) (s2.heap.objs.size + 1) s2 H2 fp) rfl rfl rfl hcalm i _ s' _ H' (fun _ _ => False) I4 (fpc fr4) st4 go) fun r s5 ⟨u,hr,h5⟩ => ?_
    subst hr
    refine thn h5 fun _ s6 ⟨x,H6,I6,r6,y6,st6,fr6⟩ => ?_
    have I6':=I6.pinned (fpc fr6) (T.obj _ _ st6)
    refine thn (hg _ _ _ _ _ s6 _ H6 x u _ I6' r6 (step x H6 y6)) fun _ s7 ⟨σ7,H7,I7,q7⟩ => ?_
    refine thn (hif _ _ _ _ _ s7 σ7 H7 _ I7 q7) fun ok s8 ⟨H8,I8,q8⟩ => ?_
    have keepfp:∀ {σ9:St} {H9:Hp} {s9:Shared},Inv (cxC X scope cl (X.N ++ extra) (s2.heap.objs.size + 1) s2 H2 fp) ([(s2.heap.objs.size,lobj its nn)] ++ pinsAt fp s6.heap) σ9 H9 s9 → tn (i + 1) s9.heap ∧ ∀ b ∈ fp,H9 b = none:=fun {σ9 H9 s9} I9 =>
     ⟨T.keep _ _ _ st6 fun b hb o e => (I9.pin (b,o) (List.mem_append_right _ (List.mem_append_right _ (mem_pinsAt hb e)))).1,fun b hb => by
      obtain ⟨o,e,d⟩:=T.obj _ _ st6 b hb
      exact (I9.pin (b,o) (List.mem_append_right _ (List.mem_append_right _ (mem_pinsAt hb e)))).2.1⟩
    cases ok with
    | false =>
     obtain ⟨m',hm,w8⟩:=q8
     obtain ⟨a8,b8⟩:=keepfp I8
     exact ⟨m',hm,i + 1,ys,its,nn,σ7,H8,I8.unpinned,rv,a8,b8,w8⟩
    | true =>
     refine thn (he _ _ _ _ _ s8 σ7 H8 _ I8 q8) fun v s9 ⟨y,H9,I9,r9,q9⟩ => ?_
     obtain ⟨m',hm,w9⟩:=q9
     obtain ⟨a9,b9⟩:=keepfp I9
     have pacc:=I9.pin (s2.heap.objs.size,lobj its nn) (List.mem_append_right _ (List.mem_append_left _ List.mem_cons_self))
     have hzi:its.toArray.size ≤ sizeLine:=by rw [List.size_toArray,← rv.length]; exact hz
     refine PySem.wpAny_list_append_plain (hsz:=hzi) ⟨nn,pacc.1⟩ fun h' hl' hs' => ?_
     obtain ⟨n',hl'⟩:=hl'
     have hne:∀ x c,(cxC X scope cl (X.N ++ extra) (s2.heap.objs.size + 1) s2 H2 fp).env.cells.lookup x = some c → c ≠ s2.heap.objs.size:=fun x c e => by
      rcases cf_look e with z | z
      ·obtain ⟨v,o,ho,_⟩:=I2.cell x c (S.sub x c z)
       exact Nat.ne_of_lt (Heap.lt_size ho)
      ·exact Nat.ne_of_gt (Nat.lt_of_lt_of_le (Nat.lt_succ_of_lt (Nat.lt_succ_self _)) z.2)
     have I10:Inv (cxC X scope cl (X.N ++ extra) (s2.heap.objs.size + 1) s2 H2 fp) [] σ7 H9 { s9 with heap:=h' } :=
      Inv.turned (t':=s9.toks) (it:=s2.heap.objs.size) (I9.pins_of fun p hp => absurd hp (by simp)) (fun b o hb e => (hs'.2 b hb).trans e) pacc.2.1 pacc.2.2.1 (.inr (Nat.le_refl _)) hne (fun p hp => absurd (show p ∈ ([]:List (Addr × Obj)) from hp) (by simp))
     refine ⟨m',hm,i + 1,ys ++ [y],its ++ [v],n',σ7,H9,I10.pins_of fun p hp => ?_,rv.append (.cons r9 .nil),T.keep _ _ _ a9 fun b hb o e => (hs'.2 b (Nat.ne_of_lt (hlt b hb))).trans e,b9,w9⟩
     have e:p = (s2.heap.objs.size,lobj (its ++ [v]) n'):=List.mem_singleton.mp hp
     subst e
     refine ⟨?_,pacc.2.1,pacc.2.2.1,pacc.2.2.2.1,fun v z => by cases z⟩
     rw [hl']
     simp [lobj]
  ·have e:p = (s2.heap.objs.size,lobj [] 0):=List.mem_singleton.mp hp
   subst e
   exact ⟨hacc,hDn,Nat.ne_of_lt (Nat.lt_succ_self _),hDfs _ (Nat.le_refl _),fun v z => by cases z⟩
 exact codeAny_compStart_list (loop _ rfl) (T.self _ 0 _ _ _ (T.keep _ _ _ st2 fun b _ o e => old b o e) (loop _ rfl))
theorem comp_backC (I2:Inv X pins σ H2 s2) {fp:List Addr} (f2:∀ b ∈ fp,FpOk X pins H2 b) {its:List Value} {n:Nat} {ys:List V}
  (I':Inv (cxC X scope cl (X.N ++ extra) (s2.heap.objs.size + 1) s2 H2 fp) [(s2.heap.objs.size,lobj its n)] σ' H' s') (rv:Vals ys its) (hz:ys.length ≤ sizeLine) {h':Heap} (hs:Heap.SameBut (s2.heap.objs.size + 1) s'.heap h') :
  Inv X pins σ (upd H' s2.heap.objs.size (.lst ys)) { s' with heap:=h' } ∧ H' s2.heap.objs.size = none:=by
 have pacc:=I'.pin (s2.heap.objs.size,lobj its n) (List.mem_append_right _ List.mem_cons_self)
 have hC:H' (s2.heap.objs.size + 1) = none:=I'.free
 have hD:H' s2.heap.objs.size = none:=pacc.2.1
 have up:∀ b o,b ≠ s2.heap.objs.size + 1 → s'.heap.get? b = some o → h'.get? b = some o:=fun b o hb e => (hs.2 b hb).trans e
 have nD:∀ b u,H' b = some u → b ≠ s2.heap.objs.size:=fun b u e z => by rw [z,hD] at e; cases e
 have nC:∀ b u,H' b = some u → b ≠ s2.heap.objs.size + 1:=fun b u e z => by rw [z,hC] at e; cases e
 have hacc:h'.get? s2.heap.objs.size = some (lobj its n):=up _ _ (Nat.ne_of_lt (Nat.lt_succ_self _)) pacc.1
 have hok:HOk X.prog X.w (upd H' s2.heap.objs.size (.lst ys)) h':=fun b u e => by
  by_cases hb:b = s2.heap.objs.size
  ·subst hb
   rw [upd_same] at e; cases e
   exact ⟨hz,its,n,rv,hacc⟩
  ·rw [upd_ne hb] at e
   refine (I'.hok b u e).stay (fun c v hc q => up c v ?_ q) (fun c q => by rw [upd_ne (nD c _ q)]; exact q) fun c xs q => by rw [upd_ne (nD c _ q)]; exact q
   rcases hc with rfl | hc
   ·exact nC _ _ e
   ·exact nC _ _ hc
 have un:Un (frs X.stack) fp H2 (upd H' s2.heap.objs.size (.lst ys)) s2.heap h':=by
  have U:=I'.base
  have ltD:∀ b o,s2.heap.get? b = some o → b ≠ s2.heap.objs.size:=fun b o e => Nat.ne_of_lt (Heap.lt_size e)
  have ltC:∀ b o,s2.heap.get? b = some o → b ≠ s2.heap.objs.size + 1:=fun b o e => Nat.ne_of_lt (Nat.lt_succ_of_lt (Heap.lt_size e))
  refine ⟨fun b o e nb hb hx => up b o (ltC b o e) (U.keep b o e nb hb hx),fun b o e nb hb hx => ?_,fun b o e nb hx => by rw [upd_ne (ltD b o e)]; exact U.free b o e nb hx,fun b o e hx => ?_,
   fun b xs e => by have q:=U.tups b xs e; rw [upd_ne (nD b _ q)]; exact q,fun b o u e => by have q:=U.frzs b o u e; rw [upd_ne (nD b _ q)]; exact q,fun b ps e => ?_⟩
  ·obtain ⟨sl,q⟩:=U.slot b o e nb hb hx
   exact ⟨sl,up b _ (ltC b o e) q⟩
  ·obtain ⟨o',q⟩:=U.there b o e hx
   exact ⟨o',up b _ (ltC b o e) q⟩
  ·obtain ⟨more,q⟩:=U.tbls b ps e
   exact ⟨more,by rw [upd_ne (nD b _ q)]; exact q⟩
 exact ⟨I2.call' (s':={ s' with heap:=h' }) (ch:=fp) I'.os un hok I'.bare fun b hb => ⟨(f2 b hb).2.2.2.1,(f2 b hb).2.1,(f2 b hb).2.2.2.2.1,(f2 b hb).2.2.2.2.2⟩,hD⟩

theorem pe_lcC (S:CompScC X scope cl ms extra) (hcalm:X.calm = true) {wi:TI} (hi:PI X tg iter wi)
  (hg:∀ C s H ex,PG (cxC X scope cl (X.N ++ extra) C s H ex) tg g) (hif:∀ C s H ex,PIf (cxC X scope cl (X.N ++ extra) C s H ex) ifs tc) (he:∀ C s H ex,PE (cxC X scope cl (X.N ++ extra) C s H ex) elt te)
  (hs:∀ x,foldedSetIterable iter X.env x = pure x:=by intro _; rfl):PE X (.ListComp elt [⟨tg,iter,ifs,0⟩] scope pos) (tLc ms extra.length wi g tc te):=by
 intro pins s σ H Q I h
 rw [eval_ListComp]
 refine wpAny_comprehension_free (use:=none) rfl hs S.clos S.kind S.names (thn (hi pins s σ H _ I h) fun v s1 h1 => thn h1 fun itv s2 h2 => ?_)
 obtain ⟨it,fp,tn,J,H2,e,I2,T,st2,f2,W,Z,⟨m0,w0⟩,turn,q⟩:=h2
 subst e
 refine comp_coreC S hcalm hg hif he I2 T st2 f2 w0 turn (RR:=fun acc C => compPost (model X.prog X.w) X.A X.xe none (EP X pins σ Q) acc C) ?_
 intro s' ys its n σ' H' I' rv hz hZ
 obtain ⟨m,hm,_⟩:=I'.loc
 refine ⟨m,hm,fun h' hs' => ?_⟩
 obtain ⟨I3,hD⟩:=comp_backC I2 f2 I' rv hz hs'
 exact ⟨.ref s2.heap.objs.size,_,I3,rfl,q ys H' _ hZ hD⟩

end
end L2

set_option Elab.async false
set_option linter.all false
set_option maxRecDepth 100000
namespace L2
open PySem PySem.Spec PyProof.Rows
section
variable {X:Cx} {tg iter elt:Expr} {pos:Pos} {scope:Scope} {cl:List (Str × Addr)} {ms:List Bool} {extra:List Str} {ifs:List Expr}
noncomputable def PGaC (X:Cx) (scope:Scope) (cl:List (Str × Addr)) (extra:List Str) (tg:Expr) (g:GD):Prop:=∃ gv:TG,(∀ C s H ex,PG (cxC X scope cl (X.N ++ extra) C s H ex) tg gv) ∧ ∀ (d:D) (v:V) (σ:St) (Δ Δ':DE) (M:DH) (H:Hp) (Q:St → Hp → Prop),SR X.K M H σ Δ → HR X.K M H → Rep X.K M H d v → g d Δ = some Δ' → (∀ σ',SR X.K M H σ' Δ' → Q σ' H) → gv v σ H Q
theorem d_lcC {wi:TId} {g:GD} {tc:TTd} {te:TEd} (S:CompScC X scope cl ms extra) (hcalm:X.calm = true) (hi:PId X tg iter wi) (hg:PGaC X scope cl extra tg g)
  (hif:CompScC X scope cl ms extra → ∀ C s H ex,PIfd (cxC X scope cl (X.N ++ extra) C s H ex) ifs tc) (he:CompScC X scope cl ms extra → ∀ C s H ex,PEd (cxC X scope cl (X.N ++ extra) C s H ex) elt te)
  (hs:∀ x,foldedSetIterable iter X.env x = pure x:=by intro _; rfl):PEd X (.ListComp elt [⟨tg,iter,ifs,0⟩] scope pos) (dLc ms extra.length wi g tc te):=by
 obtain ⟨gv,pg,kg⟩:=hg
 exact (pe_lcC (tc:=upT X.K tc) (te:=up X.K te) S hcalm hi pg (hif S) (he S) hs).conv (lc_conv kg)
/-! the looks at the text -/
noncomputable def relabelS (scope fs:Scope):Scope:={ scope with names:=scope.names.map fun (n,k) => if (k == .free && fs.kind == .function && fs.names.lookup n == some .cell) then (n,.cell) else (n,k) }
theorem relabel_S {env:Env}:relabel scope env = relabelS scope env.scope:=rfl
noncomputable def compOkC' (fs:Scope) (N:List Str) (scope:Scope) (ms:List Bool):Bool :=
 scope.kind == .function && scope.names.all (fun y => y.2 != .cell || scope.names.lookup y.1 == some .cell) && scope.names.all (fun y => y.2 != .local || scope.names.lookup y.1 == some .local) &&
 scope.names.all (fun y => y.2 != .free || fs.names.lookup y.1 == some .cell) && (ms.zip N).all (fun y => !y.1 || scope.names.lookup y.2 == some .free) && decide (ms.length ≤ N.length) && scope.names.all (fun y => y.2 != .free || scope.names.lookup y.1 == some .free)
theorem clos_mem {cells:List (Str × Addr)} {names:List (Str × NameKind)} {x:Str} {c:Addr} (h:(closOf names cells).lookup x = some c):(x,NameKind.free) ∈ names:=by
 have hm:=PySem.mem_of_lookup h
 unfold closOf at hm
 rw [List.mem_reverse,List.mem_filterMap] at hm
 obtain ⟨y,hy,e⟩:=hm
 split at e
 ·rename_i hk
  cases q:cells.lookup y.1 with
  | none => rw [q] at e; cases e
  | some c' =>
   rw [q] at e
   have e1:y.1 = x:=(Prod.mk.inj (Option.some.inj e)).1
   have e2:y.2 = .free:=by simpa using hk
   obtain ⟨a,b⟩:=y
   simp only at e1 e2
   subst e1; subst e2
   exact hy
 ·cases e
theorem compScC_of (cs:∀ x,(x,NameKind.free) ∈ scope.names → (X.env.cells.lookup x).isSome = true) (c:compOkC' X.env.scope X.N scope ms = true):CompScC X scope (closOf scope.names X.env.cells) ms extra:=by
 unfold compOkC' at c
 simp only [Bool.and_eq_true,List.all_eq_true,decide_eq_true_eq] at c
 obtain ⟨⟨⟨⟨⟨⟨c1,c2⟩,c3⟩,c4⟩,c5⟩,c6⟩,c7⟩:=c
 have fr:∀ x,(x,NameKind.free) ∈ scope.names → X.env.scope.names.lookup x = some .cell:=fun x hx => by
  have:=c4 _ hx
  simpa using this
 refine ⟨by simpa using c1,fun y hy e => ?_,fun y hy e => ?_,clos_eq fun y hy e => ?_,fun x c h => clos_sub h,fun x c h => ?_,fun x h => clos_has h (cs x (PySem.mem_of_lookup h)),fun x h => .inl (fr x (PySem.mem_of_lookup h)),fun i x h1 h2 => ?_,c6⟩
 ·have:=c3 y hy
  simpa [e] using this
 ·have:=c2 y hy
  simpa [e] using this
 ·obtain ⟨a,b⟩:=y
  cases e
  exact cs a hy
 ·have:=c7 _ (clos_mem h)
  simpa using this
 ·have:=c5 (true,x) (by
   rw [List.mem_iff_getElem?]
   exact ⟨i,by rw [List.getElem?_zip_eq_some]; exact ⟨h1,h2⟩⟩)
  simpa using this
theorem compScC_fn {n0:Nat} (hX:X.env.cells = cellsFrom n0 X.env.scope.names []) (c:compOkC' X.env.scope X.N scope ms = true):CompScC X scope (closOf scope.names X.env.cells) ms extra:=by
 refine compScC_of (fun x hx => ?_) c
 unfold compOkC' at c
 simp only [Bool.and_eq_true,List.all_eq_true] at c
 have:=c.1.1.1.2 _ hx
 rw [hX]
 exact PySem.W.cellsFrom_some _ _ _ (.inl (by simpa using this))
theorem cxC_cells {C:Addr} {s:Shared} {H:Hp} {ex:List Addr} {N:List Str} (S:CompScC X scope cl ms extra) {x:Str} (h:(relabel scope X.env).names.lookup x = some .cell):((cxC X scope cl N C s H ex).env.cells.lookup x).isSome = true:=by
 have e:(relabel scope X.env).names.lookup x = _:=relabel_lookup (env:=X.env) (x:=x) (names:=scope.names)
 rw [e] at h
 refine PySem.W.cellsFrom_some _ _ _ ?_
 cases q:scope.names.lookup x with
 | none => rw [q] at h; simp at h
 | some k =>
  rw [q] at h
  cases k with
  | cell => exact .inl rfl
  | free => obtain ⟨c,hc⟩:=S.has x q; exact .inr (by rw [hc]; rfl)
  | _ => simp at h
theorem compSc_in {C:Addr} {s:Shared} {H:Hp} {ex:List Addr} {N:List Str} {scope2:Scope} {ms2:List Bool} {extra2:List Str} (S:CompScC X scope cl ms extra) (c:compOkB (relabelS scope X.env.scope) N scope2 ms2 = true) :
  CompSc (cxC X scope cl N C s H ex) scope2 (closOf scope2.names (cxC X scope cl N C s H ex).env.cells) ms2 extra2:=by
 unfold compOkB at c
 simp only [Bool.and_eq_true,List.all_eq_true,decide_eq_true_eq] at c
 obtain ⟨⟨⟨⟨⟨c1,c2⟩,c3⟩,c4⟩,c5⟩,c6⟩:=c
 have fr:∀ x,(x,NameKind.free) ∈ scope2.names → (relabel scope X.env).names.lookup x = some .cell:=fun x hx => by
  have:=c4 _ hx
  rw [relabel_S]
  simpa using this
 have cs:∀ x,(x,NameKind.free) ∈ scope2.names → ((cxC X scope cl N C s H ex).env.cells.lookup x).isSome = true:=fun x hx => cxC_cells S (fr x hx)
 refine ⟨by simpa using c1,fun y hy e => ?_,fun y hy e => ?_,clos_eq fun y hy e => ?_,fun x c h => clos_sub h,fun x h => clos_has h (cs x (PySem.mem_of_lookup h)),fun x h => .inl (fr x (PySem.mem_of_lookup h)),fun i x h1 h2 => ?_,c6⟩
 ·have:=c2 y hy
  rw [e] at this
  simp at this
 ·have:=c3 y hy
  simpa [e] using this
 ·obtain ⟨a,b⟩:=y
  cases e
  exact cs a hy
 ·have:=c5 (true,x) (by
   rw [List.mem_iff_getElem?]
   exact ⟨i,by rw [List.getElem?_zip_eq_some]; exact ⟨h1,h2⟩⟩)
  simpa using this
end
end L2

set_option Elab.async false
set_option linter.all false
set_option maxRecDepth 100000
namespace L2
open PySem PySem.Spec PyProof.Rows
/-! ### for k in d: d (keys ints and texts) stays as it is from there on -/
section
variable {X:Cx} {pins:List (Addr × Obj)} {σ:St} {H:Hp} {s:Shared} {a:Addr} {o:Obj} {ks:List (Key × V)}
end
section
variable {X:Cx} {tg l:Expr} {tl:TE} {te:TEd}
end
end L2

set_option Elab.async false
set_option linter.all false
set_option maxRecDepth 100000
namespace L2
open PySem PySem.Spec PyProof.Rows
/-! ### x = {k: v for ..},the keys tuples of ints and texts -/
section
variable {X:Cx} {pins:List (Addr × Obj)} {σ σ':St} {H2 H':Hp} {s2 s':Shared} {scope:Scope} {cl:List (Str × Addr)} {ms:List Bool} {extra:List Str} {tg iter kx vx:Expr} {g:TG} {tk tv:TE} {pos:Pos}
end
end L2

set_option Elab.async false
set_option linter.all false
set_option maxRecDepth 100000
namespace L2
open PySem PySem.Spec PyProof.Rows
section
variable {X:Cx} {tg iter vx:Expr} {es:List Expr} {pos:Pos} {scope:Scope} {cl:List (Str × Addr)} {ms:List Bool} {extra:List Str}
end
end L2

set_option Elab.async false
set_option linter.all false
set_option maxRecDepth 100000
namespace L2
open PySem PySem.W PyProof.Rows
/-! ### the sort of fewer than 64 things,as a tree of questions: what it comes to -/
section
variable {α β:Type}
noncomputable def tw (n:Nat) (lt:Nat → Nat → Bool):KasT α → (α → Prop) → Prop
 | .ret a,Q => Q a
 | .ask i j k,Q => i < n ∧ j < n ∧ tw n lt (k (lt i j)) Q
theorem tw_bind {n:Nat} {lt:Nat → Nat → Bool} {f:α → KasT β} {Q:β → Prop}:∀ {t:KasT α},tw n lt t (fun a => tw n lt (f a) Q) → tw n lt (t.bind f) Q
 | .ret _,h => h
 | .ask _ _ _,h => ⟨h.1,h.2.1,tw_bind h.2.2⟩
theorem tw_run {n:Nat} {lt:Nat → Nat → Bool} {cmp:Nat → Nat → (Bool → Shared → Prop) → Shared → Prop} {J:Shared → Prop} (hc:∀ i j C s,i < n → j < n → J s → (∀ s',J s' → C (lt i j) s') → cmp i j C s) {Q:α → Prop} {G:α → Shared → Prop} (hG:∀ a s,J s → Q a → G a s) :
  ∀ {t:KasT α} {s:Shared},tw n lt t Q → J s → t.kasWp cmp G s
 | .ret _,s,h,hj => hG _ s hj h
 | .ask i j k,s,h,hj => hc i j _ s h.1 h.2.1 hj fun s' hj' => tw_run hc hG h.2.2 hj'
variable {O:KeyOrd} {key:Nat → O.α} {n:Nat}
noncomputable def byKey (O:KeyOrd) (key:Nat → O.α) (i j:Nat):Bool:=O.blt (key i) (key j)
noncomputable def kindO (O:KeyOrd) (key:Nat → O.α):KeyKind:={ O with keyOf:=fun v => match v with | .int i _ => some (key i.toNat) | _ => none,dflt:=key 0 }
noncomputable def encA (p:Array Nat):Array Keyed:=p.map fun (i:Nat) => ((Value.int (i:Int) 0,Value.none):Keyed)
noncomputable def kp (O:KeyOrd) (key:Nat → O.α) (p:Array Nat) (i:Nat):O.α:=key (p.getD i 0)
theorem kp_eq {p:Array Nat} {i:Nat} (h:i < p.size):KK (kindO O key) (encA p) i = kp O key p i:=by
 unfold KK kp encA
 rw [Array.getElem?_map,Array.getElem?_eq_getElem h]
 simp [kindO,Array.getD,h]
theorem enc_rev {p:Array Nat} {i j:Nat}:encA (kas_rev p i j) = mirror (encA p) i j ((j - i) / 2):=by
 unfold encA kas_rev mirror
 exact (kas_swaps_map _ _ _ _ _).symm
theorem enc_bub {p:Array Nat} {k d:Nat}:encA (bubble p k d) = bubble (encA p) k d:=by
 unfold encA bubble
 exact (kas_swaps_map _ _ _ _ _).symm
theorem enc_size {p:Array Nat}:(encA p).size = p.size:=by simp [encA]
theorem rev_size {p:Array Nat} {i j:Nat}:(kas_rev p i j).size = p.size:=mirror_size _ _ _ _
theorem kp_rev {p:Array Nat} {i j k:Nat} (hj:j ≤ p.size) (hk:k < p.size):kp O key (kas_rev p i j) k = if i ≤ k ∧ k < j then kp O key p (i + j - 1 - k) else kp O key p k:=by
 rw [← kp_eq (by rw [rev_size]; exact hk),enc_rev,KK_mirror (by rw [enc_size]; exact hj)]
 by_cases h:i ≤ k ∧ k < j
 ·rw [if_pos h,if_pos h,kp_eq (by omega)]
 ·rw [if_neg h,if_neg h,kp_eq hk]
theorem kp_bub {p:Array Nat} {src d k:Nat} (hs:src < p.size) (hd:d ≤ src) (hk:k < p.size):kp O key (bubble p src d) k = if k = src - d then kp O key p src else if src - d < k ∧ k ≤ src then kp O key p (k - 1) else kp O key p k:=by
 rw [← kp_eq (by rw [bubble_size]; exact hk),enc_bub,KK_bubble (by rw [enc_size]; exact hs) hd]
 by_cases h1:k = src - d
 ·rw [if_pos h1,if_pos h1,kp_eq hs]
 ·rw [if_neg h1,if_neg h1]
  by_cases h2:src - d < k ∧ k ≤ src
  ·rw [if_pos h2,if_pos h2,kp_eq (by omega)]
  ·rw [if_neg h2,if_neg h2,kp_eq hk]
noncomputable def Ordr (n:Nat) (p:Array Nat):Prop:=p.toList.Perm (List.range n)
theorem Ordr.size {p:Array Nat} (h:Ordr n p):p.size = n:=by
 have:=h.length_eq
 simpa using this
theorem Ordr.lt {p:Array Nat} (h:Ordr n p) {i:Nat} (hi:i < n):p.getD i 0 < n:=by
 have hs:=h.size
 have e:p.getD i 0 = p.toList[i]'(by simp; omega):=by simp [Array.getD,show i < p.size by omega]
 rw [e]
 exact List.mem_range.mp (h.mem_iff.mp (List.getElem_mem _))
theorem Ordr.rev {p:Array Nat} (h:Ordr n p) (i j:Nat):Ordr n (kas_rev p i j):=(Array.perm_iff_toList_perm.mp (mirror_perm p i j _)).trans h
theorem Ordr.bub {p:Array Nat} (h:Ordr n p) (i j:Nat):Ordr n (bubble p i j):=(Array.perm_iff_toList_perm.mp (bubble_perm p i j)).trans h
noncomputable def Rises (O:KeyOrd) (key:Nat → O.α) (p:Array Nat) (k:Nat):Prop:=∀ i j,i ≤ j → j < k → O.kle (kp O key p i) (kp O key p j)
noncomputable def Falls (O:KeyOrd) (key:Nat → O.α) (p:Array Nat) (k:Nat):Prop:=∀ i j,i ≤ j → j < k → O.kle (kp O key p j) (kp O key p i)
theorem Rises.more {p:Array Nat} {x:Nat} (h:Rises O key p x) (hx:1 ≤ x) (le:O.kle (kp O key p (x - 1)) (kp O key p x)):Rises O key p (x + 1):=fun i j hij hj => by
 rcases Nat.lt_or_ge j x with h1 | h1
 ·exact h i j hij h1
 ·obtain rfl:j = x:=by omega
  rcases Nat.lt_or_ge i j with h2 | h2
  ·exact KeyOrd.kle_trans (h i (j - 1) (by omega) (by omega)) le
  ·obtain rfl:i = j:=by omega
   exact KeyOrd.kle_refl _
theorem Falls.more {p:Array Nat} {x:Nat} (h:Falls O key p x) (hx:1 ≤ x) (le:O.kle (kp O key p x) (kp O key p (x - 1))):Falls O key p (x + 1):=fun i j hij hj => by
 rcases Nat.lt_or_ge j x with h1 | h1
 ·exact h i j hij h1
 ·obtain rfl:j = x:=by omega
  rcases Nat.lt_or_ge i j with h2 | h2
  ·exact KeyOrd.kle_trans le (h i (j - 1) (by omega) (by omega))
  ·obtain rfl:i = j:=by omega
   exact KeyOrd.kle_refl _
theorem tw_asc {p:Array Nat} (hp:Ordr n p):∀ {f a:Nat} {Q:Nat → Prop},1 ≤ a → a + f ≤ n → Rises O key p a →
  (∀ m,a ≤ m → m ≤ a + f → Rises O key p m → (m = a + f ∨ O.klt (kp O key p m) (kp O key p (m - 1))) → Q m) → tw n (byKey O key) (kas_asc p f a) Q
 | 0,a,Q,h1,h2,hs,k => k a (Nat.le_refl _) (Nat.le_refl _) hs (.inl rfl)
 | f + 1,a,Q,h1,h2,hs,k => by
  refine ⟨hp.lt (by omega),hp.lt (by omega),?_⟩
  cases q:byKey O key (p.getD a 0) (p.getD (a - 1) 0) with
  | true => exact k a (Nat.le_refl _) (by omega) hs (.inr q)
  | false => exact tw_asc hp (by omega) (by omega) (hs.more h1 q) fun m m1 m2 ms mo => k m (by omega) (by omega) ms (mo.imp (fun e => by omega) id)
theorem rev_like {p:Array Nat} {i j:Nat} (hj:j ≤ p.size) (he:∀ k,i ≤ k → k < j → kp O key p k = kp O key p (j - 1)) {k:Nat} (hk:k < p.size):kp O key (kas_rev p i j) k = kp O key p k:=by
 rw [kp_rev hj hk]
 by_cases h:i ≤ k ∧ k < j
 ·rw [if_pos h,he _ (by omega) (by omega),he k h.1 h.2]
 ·rw [if_neg h]
theorem tw_desc:∀ {f:Nat} {p:Array Nat} {x q:Nat} {Q:Array Nat × Nat × Nat → Prop},Ordr n p → 1 ≤ x → x + f ≤ n → Falls O key p x → q + 1 ≤ x → (∀ i,x - (q + 1) ≤ i → i < x → kp O key p i = kp O key p (x - 1)) →
  (∀ p' m q',Ordr n p' → 1 ≤ m → m ≤ x + f → Falls O key p' m → q' + 1 ≤ m → (∀ i,m - (q' + 1) ≤ i → i < m → kp O key p' i = kp O key p' (m - 1)) → Q (p',m,q')) → tw n (byKey O key) (kas_desc f p x q) Q
 | 0,p,x,q,Q,hp,h1,h2,hs,hq,he,k => k p x q hp h1 (Nat.le_refl _) hs hq he
 | f + 1,p,x,q,Q,hp,h1,h2,hs,hq,he,k => by
  have hz:=hp.size
  refine ⟨hp.lt (by omega),hp.lt (by omega),?_⟩
  cases c:byKey O key (p.getD x 0) (p.getD (x - 1) 0) with
  | true =>
   have lt:O.klt (kp O key p x) (kp O key p (x - 1)):=c
   simp only [if_true]
   by_cases h0:q > 0
   ·rw [if_pos h0]
    have same:∀ {i},i < n → kp O key (kas_rev p (x - (q + 1)) x) i = kp O key p i:=fun hi => rev_like (by omega) he (by omega)
    refine tw_desc (hp.rev _ _) (by omega) (by omega) ?_ (by omega) (fun i i1 i2 => by obtain rfl:i = x:=(by omega); rfl) fun p' m q' a b c' d e g => k p' m q' a b (by omega) d e g
    refine Falls.more (fun i j hij hj => ?_) h1 ?_
    ·rw [same (by omega),same (by omega)]; exact hs i j hij hj
    ·rw [same (by omega),same (by omega)]; exact KeyOrd.kle_of_klt lt
   ·rw [if_neg h0]
    exact tw_desc hp (by omega) (by omega) (hs.more h1 (KeyOrd.kle_of_klt lt)) (by omega) (fun i i1 i2 => by obtain rfl:i = x:=(by omega); rfl) fun p' m q' a b c' d e g => k p' m q' a b (by omega) d e g
  | false =>
   simp only [Bool.false_eq_true,if_false]
   refine ⟨hp.lt (by omega),hp.lt (by omega),?_⟩
   cases c2:byKey O key (p.getD (x - 1) 0) (p.getD x 0) with
   | true => exact k p x q hp h1 (by omega) hs hq he
   | false =>
    simp only [Bool.false_eq_true,if_false]
    have eq:kp O key p x = kp O key p (x - 1):=O.total _ _ c c2
    refine tw_desc hp (by omega) (by omega) (hs.more h1 c2) (by omega) (fun i i1 i2 => ?_) fun p' m q' a b c' d e g => k p' m q' a b (by omega) d e g
    rw [show x + 1 - 1 = x by omega]
    rcases Nat.lt_or_ge i x with h | h
    ·rw [eq]; exact he i (by omega) h
    ·obtain rfl:i = x:=by omega
     rfl
theorem tw_tail {p:Array Nat} {m nrem:Nat} {Q:Nat × Array Nat → Prop} (hp:Ordr n p) (h1:1 ≤ m) (h2:m ≤ nrem) (h3:nrem ≤ n) (hs:Falls O key p m)
  (k:∀ m' p',Ordr n p' → 1 ≤ m' → m' ≤ nrem → Rises O key p' m' → Q (m',p')):tw n (byKey O key) (kas_tail3 m nrem p) Q:=by
 have hz:=hp.size
 unfold kas_tail3
 refine tw_bind (tw_asc (hp.rev 0 m) h1 (by omega) (fun i j hij hj => ?_) fun m' a b c _ => k m' _ (hp.rev 0 m) (by omega) (by omega) c)
 rw [kp_rev (by omega) (by omega),kp_rev (by omega) (by omega),if_pos ⟨by omega,by omega⟩,if_pos ⟨by omega,by omega⟩]
 exact hs _ _ (by omega) (by omega)
theorem tw_descPart {p:Array Nat} {m nrem:Nat} {Q:Nat × Array Nat → Prop} (hp:Ordr n p) (h2:m + 1 ≤ nrem) (h3:nrem ≤ n) (hs:Falls O key p (m + 1))
  (k:∀ m' p',Ordr n p' → 1 ≤ m' → m' ≤ nrem → Rises O key p' m' → Q (m',p')):tw n (byKey O key) (kas_descPart m nrem p) Q:=by
 unfold kas_descPart
 refine tw_bind (tw_desc hp (by omega) (by omega) hs (by omega) (fun i i1 i2 => by obtain rfl:i = m:=(by omega); rfl) fun p' x q' hp' x1 x2 hs' hq he => ?_)
 have hz:=hp'.size
 dsimp only
 by_cases h0:q' > 0
 ·rw [if_pos h0]
  refine tw_tail (hp'.rev _ _) x1 (by omega) h3 (fun i j hij hj => ?_) k
  rw [rev_like (by omega) he (by omega),rev_like (by omega) he (by omega)]
  exact hs' i j hij hj
 ·rw [if_neg h0]
  exact tw_tail hp' x1 (by omega) h3 hs' k
theorem tw_count {p:Array Nat} {nrem:Nat} {Q:Nat × Array Nat → Prop} (hp:Ordr n p) (h1:1 ≤ nrem) (h3:nrem ≤ n)
  (k:∀ m' p',Ordr n p' → 1 ≤ m' → m' ≤ nrem → Rises O key p' m' → Q (m',p')):tw n (byKey O key) (kas_count nrem p) Q:=by
 have hz:=hp.size
 unfold kas_count
 refine tw_bind (tw_asc hp (Nat.le_refl 1) (by omega) (fun i j hij hj => by obtain rfl:i = j:=(by omega); exact KeyOrd.kle_refl _) fun m m1 m2 ms mo => ?_)
 by_cases e:m = nrem
 ·rw [if_pos (by simpa using e)]
  exact k m p hp m1 (by omega) ms
 ·rw [if_neg (by simpa using e)]
  have lt:O.klt (kp O key p m) (kp O key p (m - 1)):=mo.resolve_left (by omega)
  by_cases g:m > 1
  ·rw [if_pos g]
   refine ⟨hp.lt (by omega),hp.lt (by omega),?_⟩
   cases c:byKey O key (p.getD 0 0) (p.getD (m - 1) 0) with
   | true => exact k m p hp m1 (by omega) ms
   | false =>
    simp only [Bool.false_eq_true,if_false]
    have like:∀ i,0 ≤ i → i < m → kp O key p i = kp O key p (m - 1):=fun i _ hi =>
     KeyOrd.kle_antisymm (ms i (m - 1) (by omega) (by omega)) (KeyOrd.kle_trans (show O.kle (kp O key p (m - 1)) (kp O key p 0) from c) (ms 0 i (by omega) hi))
    have same:∀ {i},i < n → kp O key (kas_rev p 0 m) i = kp O key p i:=fun hi => rev_like (by omega) like (by omega)
    refine tw_descPart (hp.rev _ _) (by omega) h3 (Falls.more (fun i j hij hj => ?_) m1 ?_) k
    ·rw [same (by omega),same (by omega),like i (by omega) (by omega),like j (by omega) hj]; exact KeyOrd.kle_refl _
    ·rw [same (by omega),same (by omega)]; exact KeyOrd.kle_of_klt lt
  ·rw [if_neg g]
   obtain rfl:m = 1:=by omega
   refine tw_descPart hp (by omega) h3 (Falls.more (fun i j hij hj => by obtain rfl:i = j:=(by omega); exact KeyOrd.kle_refl _) (Nat.le_refl 1) (KeyOrd.kle_of_klt lt)) k
theorem tw_place {p:Array Nat} (hp:Ordr n p) {x:Nat} (hx:x < n) (hs:Rises O key p x):∀ {f l r:Nat} {Q:Nat → Prop},l ≤ r → r ≤ x → r - l ≤ f →
  (∀ i,i < l → O.kle (kp O key p i) (kp O key p x)) → (∀ i,r ≤ i → i < x → O.klt (kp O key p x) (kp O key p i)) →
  (∀ l',l' ≤ x → (∀ i,i < l' → O.kle (kp O key p i) (kp O key p x)) → (∀ i,l' ≤ i → i < x → O.klt (kp O key p x) (kp O key p i)) → Q l') → tw n (byKey O key) (kas_place p x f l r) Q
 | 0,l,r,Q,h1,h2,h3,a,b,k => by
  obtain rfl:l = r:=by omega
  exact k l h2 a b
 | f + 1,l,r,Q,h1,h2,h3,a,b,k => by
  unfold kas_place
  by_cases g:l ≥ r
  ·rw [if_pos g]
   obtain rfl:l = r:=by omega
   exact k l h2 a b
  ·rw [if_neg g]
   refine ⟨hp.lt hx,hp.lt (by omega),?_⟩
   cases c:byKey O key (p.getD x 0) (p.getD ((l + r) / 2) 0) with
   | true =>
    simp only [if_true]
    exact tw_place hp hx hs (by omega) (by omega) (by omega) a (fun i i1 i2 => KeyOrd.klt_of_klt_of_kle (show O.klt (kp O key p x) (kp O key p ((l + r) / 2)) from c) (hs _ _ i1 i2)) k
   | false =>
    simp only [Bool.false_eq_true,if_false]
    exact tw_place hp hx hs (by omega) (by omega) (by omega) (fun i hi => KeyOrd.kle_trans (hs i ((l + r) / 2) (by omega) (by omega)) (show O.kle (kp O key p ((l + r) / 2)) (kp O key p x) from c)) b k
theorem tw_bin:∀ {f:Nat} {p:Array Nat} {x:Nat} {Q:Array Nat → Prop},Ordr n p → 1 ≤ x → x + f ≤ n → Rises O key p x → (∀ p',Ordr n p' → Rises O key p' (x + f) → Q p') → tw n (byKey O key) (kas_bin f p x) Q
 | 0,p,x,Q,hp,_,_,hs,k => k p hp hs
 | f + 1,p,x,Q,hp,h1,h2,hs,k => by
  have hz:=hp.size
  refine tw_bind (tw_place hp (by omega) hs (Nat.zero_le _) (Nat.le_refl _) (by omega) (fun i hi => by omega) (fun i a b => by omega) fun l hl lo hi => ?_)
  refine tw_bin (hp.bub _ _) (by omega) (by omega) (fun i j hij hj => ?_) fun p' a b => k p' a (by rw [show x + (f + 1) = x + 1 + f by omega]; exact b)
  rw [kp_bub (by omega) (by omega) (by omega),kp_bub (by omega) (by omega) (by omega),show x - (x - l) = l by omega]
  by_cases a1:i = l
  ·rw [if_pos a1]
   by_cases b1:j = l
   ·rw [if_pos b1]; exact KeyOrd.kle_refl _
   ·rw [if_neg b1,if_pos (by omega)]; exact KeyOrd.kle_of_klt (hi _ (by omega) (by omega))
  ·rw [if_neg a1]
   by_cases a2:l < i ∧ i ≤ x
   ·rw [if_pos a2,if_neg (by omega),if_pos (by omega)]; exact hs _ _ (by omega) (by omega)
   ·rw [if_neg a2]
    by_cases b1:j = l
    ·rw [if_pos b1]; exact lo _ (by omega)
    ·rw [if_neg b1]
     by_cases b2:l < j ∧ j ≤ x
     ·rw [if_pos b2]; exact hs _ _ (by omega) (by omega)
     ·rw [if_neg b2]; exact hs _ _ hij (by omega)
theorem tw_sort (h:1 ≤ n) {Q:Array Nat → Prop} (k:∀ p,Ordr n p → Rises O key p n → Q p):tw n (byKey O key) (kas_sort n) Q:=by
 have h0:Ordr n (List.toArray (List.range n)):=List.Perm.refl _
 unfold kas_sort
 refine tw_bind (tw_count h0 h (Nat.le_refl _) fun m p hp m1 m2 ms => ?_)
 dsimp only
 by_cases g:m < n
 ·rw [if_pos g]
  have e:max m 1 = m:=by omega
  rw [e]
  exact tw_bin hp m1 (by omega) ms fun p' a b => k p' a (by rwa [show m + (n - m) = n by omega] at b)
 ·rw [if_neg g]
  obtain rfl:m = n:=by omega
  exact k p hp ms
end
end L2

set_option Elab.async false
set_option linter.all false
set_option maxRecDepth 100000
namespace L2
open PySem PySem.W PySem.Calls PyProof.Rows
/-! ### sorted,of a list of fewer than 64 things whose questions leave the state as it is -/
section
variable {prog:Program} {w:World} {A:Around} {E:Value → Shared → Prop} {O:KeyOrd}
noncomputable def outOf (vs:List Value) (p:Array Nat):List Value:=p.toList.map fun i => vs.getD i Value.none
theorem outOf_len {vs:List Value} {p:Array Nat} (h:Ordr vs.length p):(outOf vs p).length = vs.length:=by
 unfold outOf; rw [List.length_map,Array.length_toList]; exact h.size
noncomputable def Stays (x:Addr) (s t:Shared):Prop:=∀ b o,b ≠ x → s.heap.get? b = some o → t.heap.get? b = some o
theorem srt_in {s:Shared} {x:Addr} {vs:List Value} {n:Nat} {key:Nat → O.α} {κ:SortKind} {P:PySem.Fin → Shared → Prop} (hx:s.heap.get? x = some (seqObj "list" vs.toArray n)) (hz:vs.length < 64)
  (hk:∀ s1 Q,2 ≤ vs.length → Stays x s s1 → Q κ s1 → wpAny (model prog w) A (keyKind' vs.toArray) Q (fun _ _ => False) s1)
  (hc:∀ i j s1 C,i < vs.length → j < vs.length → Stays x s s1 → C (byKey O key i j) s1 → kas_ask prog w A κ vs i j C s1)
  (k:∀ p c h',Ordr vs.length p → Rises O key p vs.length → (∀ b o,b ≠ x → s.heap.get? b = some o → h'.get? b = some o) → h'.get? x = some (seqObj "list" (outOf vs p).toArray c) → P (.done (.ret .none)) { s with heap:=h' }) :
  wpAny (model prog w) A (Builtin.«list.sort» ⟨[.ref x],[]⟩) P E s:=by
 have lx:x < s.heap.objs.size:=Heap.lt_size hx
 obtain ⟨c1,h1⟩:∃ c,(s.heap.update x (Obj.mapSeq fun _ => #[])).get? x = some (seqObj "list" #[] c):=⟨_,get?_update_seq hx (fun _ => #[])⟩
 rw [list_sort_plain]
 refine wpAny_bind (listItems_at hx rfl (wpAny_bind (listUpdate_at hx rfl (wpAny_bind (seqEpoch_at h1 rfl (wpAny_bind (wpAny_newTuple (wpAny_bind (wpAny_newList (wpAny_holding ?_) (Nat.zero_le _))) ?_)))) ?_ (Nat.zero_le _))))
 rotate_left
 ·show vs.length ≤ _
  rw [sizeLine_eq]; omega
 ·rw [List.size_toArray,sizeLine_eq]; omega
 generalize hh:((s.heap.update x (Obj.mapSeq fun _ => #[])).push (seqObj "tuple" vs.toArray 0)).push (seqObj "list" #[] 0) = h2
 show wpAny _ A _ P E { s with heap:=h2 }
 have g2:h2.get? x = some (seqObj "list" #[] c1):=by
  rw [← hh]; exact Heap.get?_push_of_some _ (Heap.get?_push_of_some _ h1)
 have st:Stays x s { s with heap:=h2 }:=fun b o ne e => by
  show h2.get? b = some o
  rw [← hh]
  exact Heap.get?_push_of_some _ (Heap.get?_push_of_some _ (by rw [Heap.get?_update_ne _ _ _ _ ne]; exact e))
 have fin:∀ p,Ordr vs.length p → Rises O key p vs.length → P (.done (.ret .none)) { s with heap:=h2.update x (Obj.mapSeq fun _ => (outOf vs p).toArray) }:=fun p hp hr =>
  k p _ _ hp hr (fun b o ne e => by rw [Heap.get?_update_ne _ _ _ _ ne]; exact st b o ne e) (get?_update_seq g2 fun _ => (outOf vs p).toArray)
 dsimp only
 by_cases few:vs.toArray.size < 2
 ·rw [if_pos few,if_pos few]
  refine wpAny_bind (wpAny_pure ?_)
  rw [StateT.run_pure]
  refine wpAny_bind (wpAny_pure ?_)
  dsimp only
  have few':vs.length < 2:=by rw [List.size_toArray] at few; exact few
  have e0:(arrOf (SortSt.mk' general' (vs.toArray.zip vs.toArray) #[] 7 none)).map (·.2) = (outOf vs (List.toArray (List.range vs.length))).toArray:=by
   refine kat_snds rfl ?_
   have e:=kas_range (vs.toArray.zip vs.toArray)
   have z0:(vs.toArray.zip vs.toArray).size = vs.length:=by simp
   rw [z0] at e
   exact e.symm
  rw [e0]
  refine wpAny_bind (seqEpoch_at g2 rfl (wpAny_bind (listUpdate_at g2 rfl ?_ (Nat.zero_le _) ?_)))
  ·simp only [failedOf,bne_self_eq_false,Bool.false_eq_true,if_false]
   exact wpAny_pure (fin _ (List.Perm.refl _) fun i j hij hj => by
    obtain rfl:i = j:=by omega
    exact KeyOrd.kle_refl _)
  ·rw [List.size_toArray,outOf_len (show Ordr vs.length (List.toArray (List.range vs.length)) from List.Perm.refl _),sizeLine_eq]; omega
 ·rw [if_neg few,if_neg few]
  have two:2 ≤ vs.length:=by rw [List.size_toArray] at few; omega
  refine wpAny_bind (wpAny_mono (hk { s with heap:=h2 } (fun q t => q = κ ∧ t = ({ s with heap:=h2 }:Shared)) two st ⟨rfl,rfl⟩) ?_ fun _ _ z => z.elim)
  rintro κ' _ ⟨ek,rfl⟩
  rw [ek]
  have ask:(kas_sort vs.length).kasWp (kas_ask prog w A κ vs) (fun p t => t = ({ s with heap:=h2 }:Shared) ∧ Ordr vs.length p ∧ Rises O key p vs.length) { s with heap:=h2 } :=
   tw_run (J:=fun t => t = ({ s with heap:=h2 }:Shared)) (lt:=byKey O key) (Q:=fun p => Ordr vs.length p ∧ Rises O key p vs.length) (fun i j C t hi hj ht hC => by subst ht; exact hc i j _ C hi hj st (hC _ rfl)) (fun p t ht hq => ⟨ht,hq⟩) (tw_sort (by omega) fun p a b => ⟨a,b⟩) rfl
  refine wpAny_bind (wpAny_mono (kat_run (Q:=fun u t => ∃ p:Array Nat,arrOf u = p.map (kas_item (vs.toArray.zip vs.toArray)) ∧ failedOf u = none ∧ t = ({ s with heap:=h2 }:Shared) ∧ Ordr vs.length p ∧ Rises O key p vs.length) rfl two hz (fun p u t _ a2 a3 a4 => ⟨p,a2,a3,a4⟩) ask) ?_ fun _ _ z => z)
  rintro ⟨⟨⟩,u⟩ t ⟨p,ea,ef,rfl,hp,hr⟩
  dsimp only
  have e0:(arrOf u).map (·.2) = (outOf vs p).toArray:=kat_snds rfl ea
  rw [e0]
  refine wpAny_bind (seqEpoch_at g2 rfl (wpAny_bind (listUpdate_at g2 rfl ?_ (Nat.zero_le _) ?_)))
  ·rw [ef]
   simp only [bne_self_eq_false,Bool.false_eq_true,if_false]
   exact wpAny_pure (fin p hp hr)
  ·rw [List.size_toArray,outOf_len hp,sizeLine_eq]; omega
end
end L2

set_option Elab.async false
set_option linter.all false
set_option maxRecDepth 100000
namespace L2
open PySem PySem.W PySem.Calls PyProof.Rows
/-! ### sorted,of pairs of ints -/
noncomputable def ltP (a b:Int × Int):Bool:=decide (a.1 < b.1) || (decide (a.1 = b.1) && decide (a.2 < b.2))
noncomputable def leP (a b:Int × Int):Bool:=! ltP b a
theorem ltP_iff {a b:Int × Int}:ltP a b = true ↔ a.1 < b.1 ∨ (a.1 = b.1 ∧ a.2 < b.2):=by simp [ltP]
theorem ltP_no {a b:Int × Int}:ltP a b = false ↔ b.1 < a.1 ∨ (a.1 = b.1 ∧ b.2 ≤ a.2):=by
 rw [Bool.eq_false_iff,Ne,ltP_iff]; omega
noncomputable def ordP:KeyOrd where
 α:=Int × Int
 blt:=ltP
 irrefl a:=by rw [ltP_no]; omega
 trans a b c h1 h2:=by rw [ltP_iff] at *; omega
 negTrans a b c h:=by rw [ltP_iff,ltP_iff]; rw [ltP_iff] at h; omega
 total a b h1 h2:=by
  rw [ltP_no] at h1 h2
  exact Prod.ext (by omega) (by omega)
theorem leP_anti {a b:Int × Int} (h1:leP a b = true) (h2:leP b a = true):a = b:=by
 simp only [leP,Bool.not_eq_true',ltP_no] at h1 h2
 exact Prod.ext (by omega) (by omega)
noncomputable def sortP (ps:List (Int × Int)):List (Int × Int):=ps.mergeSort leP
theorem sortP_perm (ps:List (Int × Int)):(sortP ps).Perm ps:=List.mergeSort_perm _ _
theorem sortP_pw (ps:List (Int × Int)):(sortP ps).Pairwise fun a b => leP a b = true :=
 List.pairwise_mergeSort (fun a b c h1 h2 => by simp only [leP,Bool.not_eq_true',ltP_no] at *; omega) (fun a b => by
  cases h:leP a b with
  | true => rfl
  | false =>
   simp only [leP,Bool.not_eq_false',ltP_iff] at h
   simp only [Bool.false_or,leP,Bool.not_eq_true',ltP_no]; omega) ps
theorem sortP_eq {ps qs:List (Int × Int)} (h:qs.Perm ps) (hs:qs.Pairwise fun a b => leP a b = true):qs = sortP ps :=
 List.Perm.eq_of_pairwise (le:=fun a b => leP a b = true) (fun a b _ _ h1 h2 => leP_anti h1 h2) hs (sortP_pw ps) (h.trans (sortP_perm ps).symm)
noncomputable def pD (p:Int × Int):D:=.tup [.int p.1,.int p.2]
noncomputable def prsOf:List D → Option (List (Int × Int))
 | [] => some []
 | .tup [.int i,.int j] :: ds => (prsOf ds).map ((i,j) :: ·)
 | _ => none
theorem prsOf_map:∀ {ps:List (Int × Int)},prsOf (ps.map pD) = some ps
 | [] => rfl
 | p :: ps => by simp [prsOf,pD,prsOf_map (ps:=ps)]
theorem prsOf_some:∀ {ds:List D} {ps:List (Int × Int)},prsOf ds = some ps → ds = ps.map pD:=by
 intro ds
 induction ds using prsOf.induct with
 | case1 => intro ps e; cases e; rfl
 | case2 i j ds ih =>
  intro ps e
  simp only [prsOf] at e
  cases q:prsOf ds with
  | none => rw [q] at e; cases e
  | some qs => rw [q] at e; cases e; rw [ih q]; rfl
 | case3 ds h1 h2 => intro ps e; rw [prsOf] at e <;> simp_all
section
variable {X:Cx} {pins:List (Addr × Obj)} {s:Shared} {σ:St} {H:Hp} {M:DH}
theorem prs_at (I:Inv X pins σ H s) {ps:List (Int × Int)} {vs:List V} {us:List Value} (rl:RepL X.K M H (ps.map pD) vs) (rv:Vals vs us) {i:Nat} (hi:i < ps.length) :
  ∃ a t u,us[i]? = some (.ref a) ∧ IsTup s.heap a #[.int ps[i].1 t,.int ps[i].2 u]:=by
 obtain ⟨v,g,r⟩:=rl.get (i:=i) (d:=pD ps[i]) (by simp [hi])
 obtain ⟨u',g',r'⟩:=rv.get g
 simp only [pD,Rep] at r
 obtain ⟨a,ws,rfl,sq,rw_⟩:=r
 cases r'
 obtain ⟨its,rv2,tp,hz⟩:=I.tuple sq.sq
 simp only [RepL,Rep] at rw_
 obtain ⟨_,_,rfl,rfl,_,_,rfl,rfl,rfl⟩:=rw_
 obtain ⟨x,y,rfl,⟨t,rfl⟩,⟨u,rfl⟩⟩:=Vals.two rv2
 exact ⟨a,t,u,g',tp⟩
theorem getD_of {us:List Value} {i:Nat} {v:Value} (h:us[i]? = some v):us.getD i Value.none = v:=by
 rw [List.getD_eq_getElem?_getD,h]; rfl
theorem tups_of {h:Heap}:∀ {ps:List (Int × Int)} {us:List Value},us.length = ps.length → (∀ i (hi:i < ps.length),∃ a t u,us[i]? = some (.ref a) ∧ IsTup h a #[.int ps[i].1 t,.int ps[i].2 u]) → ∃ fs,KatTups h us fs ∧ fs.length = ps.length ∧ ∀ f ∈ fs,∃ i t,f = Value.int i t
 | [],[],_,_ => ⟨[],KatTups.nil,rfl,fun _ h => (nomatch h)⟩
 | p :: ps,u :: us,hl,k => by
  obtain ⟨fs,h1,h2,h3⟩:=tups_of (ps:=ps) (us:=us) (by simpa using hl) fun i hi => k (i + 1) (by simpa using hi)
  obtain ⟨a,t,t',e,o,ho,hc,n,hd⟩:=k 0 (by simp)
  simp only [List.getElem?_cons_zero,Option.some.injEq] at e
  subst e
  exact ⟨_ :: fs,KatTups.cons ho hc hd rfl h1,by simp [h2],fun f hf => by
   rcases List.mem_cons.mp hf with rfl | hf
   ·exact ⟨_,_,rfl⟩
   ·exact h3 f hf⟩
 | [],_ :: _,hl,_ => by simp at hl
 | _ :: _,[],hl,_ => by simp at hl
theorem ask_pair {prog:Program} {w:World} {A:Around} {E:Value → Shared → Prop} {s:Shared} {x y:Addr} {p q:Int × Int} {t1 t2 t3 t4:Tok} {C:Bool → Shared → Prop} (hx:IsTup s.heap x #[.int p.1 t1,.int p.2 t2]) (hy:IsTup s.heap y #[.int q.1 t3,.int q.2 t4]) (k:C (ltP p q) s) :
  wpAny (model prog w) A (keyLt' (tuples' true) (.ref x) (.ref y)) C E s:=by
 obtain ⟨o1,h1,_,n1,d1⟩:=hx
 obtain ⟨o2,h2,_,n2,d2⟩:=hy
 refine kat_lt h1 d1 h2 d2 ?_
 refine kat_cons (wpAny_eqBool_int ?_)
 cases e:(p.1 == q.1) with
 | false =>
  refine kat_no (oneLt_int ?_)
  have:decide (p.1 < q.1) = ltP p q:=by
   have e':¬ p.1 = q.1:=by simpa using e
   simp [ltP,e']
  rw [this]; exact k
 | true =>
  have e':p.1 = q.1:=by simpa using e
  refine kat_yes (kat_cons (wpAny_eqBool_int ?_))
  cases g:(p.2 == q.2) with
  | false =>
   refine kat_no (kat_one _ _ ?_)
   refine wpAny_lt_int ?_
   have:decide (p.2 < q.2) = ltP p q:=by simp [ltP,e']
   rw [this]; exact k
  | true =>
   have g':p.2 = q.2:=by simpa using g
   refine kat_yes (kat_nil ?_)
   have:decide ((#[Value.int p.1 t1,Value.int p.2 t2]:Array Value).size < (#[Value.int q.1 t3,Value.int q.2 t4]:Array Value).size) = ltP p q:=by simp [ltP,e',g']
   rw [this]; exact k
noncomputable def kp_ (p:Array Nat) (i:Nat):Nat:=p.getD i 0
theorem isTup_kept {h h':Heap} {a:Addr} {its:Array Value} (t:IsTup h a its) (k:∀ b o,h.get? b = some o → h'.get? b = some o):IsTup h' a its :=
 let ⟨o,ho,hc,hd⟩:=t
 ⟨o,k _ _ ho,hc,hd⟩
theorem vals_pick {vs:List V} {us:List Value} (rv:Vals vs us):∀ {l:List Nat},(∀ i ∈ l,i < vs.length) → Vals (l.map fun i => vs.getD i .non) (l.map fun i => us.getD i Value.none)
 | [],_ => .nil
 | i :: l,h => by
  have hi:=h i (.head _)
  obtain ⟨u,g,r⟩:=rv.get (List.getElem?_eq_getElem hi)
  rw [List.map_cons,List.map_cons]
  refine .cons ?_ (vals_pick rv fun j hj => h j (.tail _ hj))
  rw [getD_of g,List.getD_eq_getElem?_getD,List.getElem?_eq_getElem hi]
  exact r
theorem repL_pick {K:PySem.W.Frag} {ps:List (Int × Int)} {vs:List V} (rl:RepL K M H (ps.map pD) vs):∀ {l:List Nat},(∀ i ∈ l,i < ps.length) → RepL K M H ((l.map fun i => ps.getD i (0,0)).map pD) (l.map fun i => vs.getD i .non)
 | [],_ => rfl
 | i :: l,h => by
  have hi:=h i (.head _)
  obtain ⟨v,g,r⟩:=rl.get (i:=i) (d:=pD ps[i]) (by simp [hi])
  simp only [List.map_cons,RepL]
  refine ⟨v,_,?_,?_,repL_pick rl fun j hj => h j (.tail _ hj)⟩
  ·rw [List.getD_eq_getElem?_getD,g]; rfl
  ·rw [List.getD_eq_getElem?_getD,List.getElem?_eq_getElem hi]; exact r
theorem map_range (ps:List (Int × Int)):(List.range ps.length).map (fun i => ps.getD i (0,0)) = ps:=by
 apply List.ext_getElem (by simp)
 intro i h1 h2
 simp [List.getElem?_eq_getElem h2]
end
end L2

set_option Elab.async false
set_option linter.all false
set_option maxRecDepth 100000
namespace L2
open PySem PySem.Spec PyProof.Rows
theorem q_pop {X:Cx} {o:Expr} {to:TEd} {apos cpos:Pos} (ho:QEd X o to) (hbase:attributeBase o "pop" X.env (eval o X.env) = eval o X.env:=by rfl) (hline:(apos.endLine == cpos.line) = true:=by rfl):QEd X (.Call (.Attribute o "pop" apos) [] [] cpos) (dPop to):=by
 simp only [QEd.eq,QAd.eq,QTd.eq,QWd.eq,QSd.eq,QSs.eq,QId.eq,QIf.eq,QOd.eq] at *
 exact d_pop (ho:=ho) (hbase:=hbase) (hline:=hline)
theorem q_ext {X:Cx} {e:Expr} {o:Expr} {te:TEd} {to:TEd} {apos cpos:Pos} (ho:QEd X o to) (he:QEd X e te) (hbase:attributeBase o "extend" X.env (eval o X.env) = eval o X.env:=by rfl)
  (hse:starEach [e] X.env = (false,eval e X.env) :: starEach [] X.env:=by rfl)
  (hfew:((backTo cpos (starEach [e] X.env)).all (fun x => !x.1) && (backToKw cpos (keywordEach [] X.env)).all (fun x => x.1.isSome)
   && decide ([e].length + ([]:List Keyword).length + (if ([]:List Keyword).isEmpty then 0 else 1) < 30)) = true:=by rfl)
  (hline:(apos.endLine == cpos.line) = true:=by rfl) (hplain:(backTo cpos (starEach [] X.env)).any (·.1) = false:=by rfl):QEd X (.Call (.Attribute o "extend" apos) [e] [] cpos) (dExt to te):=by
 simp only [QEd.eq,QAd.eq,QTd.eq,QWd.eq,QSd.eq,QSs.eq,QId.eq,QIf.eq,QOd.eq] at *
 exact d_ext (ho:=ho) (he:=he) (hbase:=hbase) (hse:=hse) (hfew:=hfew) (hline:=hline) (hplain:=hplain)
theorem q_lcC {X:Cx} {tg:Expr} {iter:Expr} {elt:Expr} {pos:Pos} {scope:Scope} {cl:List (Str × Addr)} {ms:List Bool} {extra:List Str} {ifs:List Expr} {wi:TId} {g:GD} {tc:TTd} {te:TEd} (S:CompScC X scope cl ms extra) (hcalm:X.calm = true) (hi:QId X tg iter wi) (hg:PGaC X scope cl extra tg g)
  (hif:CompScC X scope cl ms extra → ∀ C s H ex,QIf (cxC X scope cl (X.N ++ extra) C s H ex) ifs tc) (he:CompScC X scope cl ms extra → ∀ C s H ex,QEd (cxC X scope cl (X.N ++ extra) C s H ex) elt te)
  (hs:∀ x,foldedSetIterable iter X.env x = pure x:=by intro _; rfl):QEd X (.ListComp elt [⟨tg,iter,ifs,0⟩] scope pos) (dLc ms extra.length wi g tc te):=by
 simp only [QEd.eq,QAd.eq,QTd.eq,QWd.eq,QSd.eq,QSs.eq,QId.eq,QIf.eq,QOd.eq] at *
 exact d_lcC (S:=S) (hcalm:=hcalm) (hi:=hi) (hg:=hg) (hif:=hif) (he:=he) (hs:=hs)
end L2

set_option Elab.async false
set_option linter.all false
set_option maxRecDepth 100000
namespace L2
open PySem PySem.Spec PyProof.Rows
theorem ex_kI {i:Int} {P:Key → Prop}:(∃ k,D.int i = kD k ∧ P k) ↔ P (.inl i) :=
 ⟨fun ⟨k,e,h⟩ => match k,e with | .inl _,rfl => h,fun h => ⟨_,rfl,h⟩⟩
theorem ex_kS {x:Str} {P:Key → Prop}:(∃ k,D.str x = kD k ∧ P k) ↔ P (.inr x) :=
 ⟨fun ⟨k,e,h⟩ => match k,e with | .inr _,rfl => h,fun h => ⟨_,rfl,h⟩⟩
theorem minD_ii {i j:Int}:minD [.int i,.int j] = some (.int (if j < i then j else i)):=rfl
end L2

set_option Elab.async false
set_option linter.all false
set_option maxRecDepth 100000
namespace L2
open PySem PySem.Spec PyProof.Rows
section
variable {X:Cx} {a b:Expr} {ta tb:TEd} {pos:Pos}
end
end L2

set_option Elab.async false
set_option linter.all false
set_option maxRecDepth 100000
namespace L2
open PySem PySem.Spec PyProof.Rows
/-! ### a dict of ours that stands still while an expression is worked out,and is ours again behind it -/
section
variable {X:Cx} {pins:List (Addr × Obj)} {σ:St} {H:Hp} {s:Shared} {a:Addr} {o:Obj} {ks:List (Key × V)}
end
end L2

set_option Elab.async false
set_option linter.all false
set_option maxRecDepth 100000
namespace L2
open PySem PySem.Spec PyProof.Rows
/-! ### [e for k in d],d a dict of ours that e reads and that stays ours -/
section
variable {X:Cx} {tg iter elt:Expr} {pos:Pos} {scope:Scope} {cl:List (Str × Addr)} {ms:List Bool} {extra:List Str} {o i:Expr} {to ti:TEd}
end
end L2

set_option Elab.async false
set_option linter.all false
set_option maxRecDepth 100000
namespace L2
open PySem PySem.Spec PyProof.Rows
section
variable {X:Cx} {tg iter elt:Expr} {pos:Pos} {scope:Scope} {cl:List (Str × Addr)} {ms:List Bool} {extra:List Str} {o i:Expr} {to ti:TEd}
end
end L2

set_option Elab.async false
set_option linter.all false
set_option maxRecDepth 100000
namespace L2
open PySem PySem.Spec PyProof.Rows
/-! ### comprehensions of two clauses -/
noncomputable abbrev twoE (elt t0 i0 t1 i1:Expr) (f0 f1:List Expr) (scope:Scope) (pos:Pos):Expr:=.ListComp elt [⟨t0,i0,f0,0⟩,⟨t1,i1,f1,0⟩] scope pos
section
variable {prog:Program} {w:World} {A:Around} {R:Result → Shared → Prop} {s:Shared} {elt t0 i0 t1 i1:Expr} {f0 f1:List Expr} {scope:Scope} {pos:Pos} {it acc:Value} {env:Env}
theorem two1 (elt t0 i0 t1 i1:Expr) (f0 f1:List Expr) (scope:Scope) (pos:Pos) (it acc:Value) (env:Env) :
 compTurn (twoE elt t0 i0 t1 i1 f0 f1 scope pos) 1 it acc env = (do
  standAt i1.pos
  let r ← pyNext it
  match r with
   | none => pure (Fin.done Flow.next)
   | some v => do
    letOwnedTupleGo t1 it v
    assign t1 env v
    let ok ← forIn f1 true fun c r => if r = true then do let ok ← PySem.isTrue c env (eval c env); pure (ForInStep.yield ok) else pure (ForInStep.yield r)
    if ok = true then (bind (bind (eval elt env) fun x => bind (call (Value.builtin "list.append") [acc,x]) fun _ => pure ()) fun (_:Unit) =>
      again (Code.compLoop (twoE elt t0 i0 t1 i1 f0 f1 scope pos) 1 it acc env))
     else again (Code.compLoop (twoE elt t0 i0 t1 i1 f0 f1 scope pos) 1 it acc env)):=rfl
theorem two0 (elt t0 i0 t1 i1:Expr) (f0 f1:List Expr) (scope:Scope) (pos:Pos) (it acc:Value) (env:Env) :
 compTurn (twoE elt t0 i0 t1 i1 f0 f1 scope pos) 0 it acc env = (do
  standAt i0.pos
  let r ← pyNext it
  match r with
   | none => pure (Fin.done Flow.next)
   | some v => do
    letOwnedTupleGo t0 it v
    assign t0 env v
    let ok ← forIn f0 true fun c r => if r = true then do let ok ← PySem.isTrue c env (eval c env); pure (ForInStep.yield ok) else pure (ForInStep.yield r)
    if ok = true then do
      let x ← eval i1 env
      standAt i1.pos
      let x ← foldedSetIterable i1 env x
      let it2 ← holding [x] (pyIter x)
      let _ ← runOwn (Code.compStart (twoE elt t0 i0 t1 i1 f0 f1 scope pos) 1 it2 acc env) env
      again (Code.compLoop (twoE elt t0 i0 t1 i1 f0 f1 scope pos) 0 it acc env)
     else again (Code.compLoop (twoE elt t0 i0 t1 i1 f0 f1 scope pos) 0 it acc env)):=rfl
theorem codeAny_start1 (h:codeAny (model prog w) A (.compLoop (twoE elt t0 i0 t1 i1 f0 f1 scope pos) 1 it acc env) R s)
  (h2:wpAny (model prog w) A (pyIter it) (fun it' s' => codeAny (model prog w) A (.compLoop (twoE elt t0 i0 t1 i1 f0 f1 scope pos) 1 it' acc env) R s') (fun _ _ => False) s) :
  codeAny (model prog w) A (.compStart (twoE elt t0 i0 t1 i1 f0 f1 scope pos) 1 it acc env) R s:=by
 refine codeAny_of_tree ?_
 show wpAny _ A ((compStart (twoE elt t0 i0 t1 i1 f0 f1 scope pos) 1 it acc env).onRaise (fun x => do noteFrame x env; standAt theWindowsPlace)) _ _ s
 refine wpAny_onRaise ?_
 show wpAny _ A (do
  let r ← ask
  if r.params.followText "comprehension-iter-twice" = true then again (Code.compLoop (twoE elt t0 i0 t1 i1 f0 f1 scope pos) 1 it acc env)
   else do
    rule "comprehension.iter-twice"
    standAt i1.pos
    let i ← pyIter it
    again (Code.compLoop (twoE elt t0 i0 t1 i1 f0 f1 scope pos) 1 i acc env)) _ _ s
 refine wpAny_bind (wpAny_askSetting ?_)
 dsimp only
 split
 ·exact wpAny_pure ⟨rfl,h⟩
 ·exact wpAny_bind (wpAny_rule (wpAny_bind (wpAny_standAt (wpAny_bind (wpAny_mono h2 (fun it' s' h' => wpAny_pure ⟨rfl,h'⟩) fun _ _ h' => h'.elim)))))
theorem codeAny_loop1 (I:Nat → Shared → Prop)
  (turn:∀ n s,I n s → wpAny (model prog w) A (pyNext it) (fun r s₁ => match r with
   | none => R (.ok .next) s₁
   | some v => wpAny (model prog w) A (letOwnedTupleGo t1 it v) (fun _ s₁ => wpAny (model prog w) A (assign t1 env v) (fun _ s₂ =>
     wpAny (model prog w) A (forIn f1 true fun c r => if r = true then do let ok ← isTrue c env (eval c env); pure (ForInStep.yield ok) else pure (ForInStep.yield r)) (fun ok s₃ =>
      if ok = true then wpAny (model prog w) A (eval elt env) (fun x s₄ =>
       wpAny (model prog w) A (call (.builtin "list.append") [acc,x]) (fun _ s₅ => ∃ m,m < n ∧ I m s₅) (fun _ _ => False) s₄) (fun _ _ => False) s₃
      else ∃ m,m < n ∧ I m s₃) (fun _ _ => False) s₂) (fun _ _ => False) s₁) (fun _ _ => False) s₁) (fun _ _ => False) s)
  (n:Nat) (h:I n s) :
  codeAny (model prog w) A (.compLoop (twoE elt t0 i0 t1 i1 f0 f1 scope pos) 1 it acc env) R s:=by
 refine codeAny_loop rfl I (fun n s hI => ?_) n h
 show wpAny _ A ((compTurn (twoE elt t0 i0 t1 i1 f0 f1 scope pos) 1 it acc env).onRaise (fun x => do noteFrame x env; theTreesLotGoes x)) _ _ s
 refine wpAny_noted ?_
 rw [two1]
 refine wpAny_bind (wpAny_standAt (wpAny_bind (wpAny_mono (turn n s hI) (fun r s₁ h₁ => ?_) fun _ _ h' => h'.elim)))
 cases r with
 | none => exact wpAny_pure h₁
 | some v =>
  refine wpAny_bind (wpAny_mono h₁ (fun _ s1 h₁ => ?_) fun _ _ h' => h'.elim)
  refine wpAny_bind (wpAny_mono h₁ (fun _ s₂ h₂ => wpAny_bind (wpAny_mono h₂ (fun ok s₃ h₃ => ?_) fun _ _ h' => h'.elim)) fun _ _ h' => h'.elim)
  cases ok with
  | false => exact wpAny_pure ⟨rfl,h₃⟩
  | true =>
   exact wpAny_bind (wpAny_bind (wpAny_mono h₃ (fun x s₄ h₄ => wpAny_bind (wpAny_mono h₄ (fun _ s₅ h₅ => wpAny_pure (wpAny_pure ⟨rfl,h₅⟩)) fun _ _ h' => h'.elim)) fun _ _ h' => h'.elim))
theorem codeAny_loop0 (hs:∀ x,foldedSetIterable i1 env x = pure x) (I:Nat → Shared → Prop)
  (turn:∀ n s,I n s → wpAny (model prog w) A (pyNext it) (fun r s₁ => match r with
   | none => R (.ok .next) s₁
   | some v => wpAny (model prog w) A (letOwnedTupleGo t0 it v) (fun _ s₁ => wpAny (model prog w) A (assign t0 env v) (fun _ s₂ =>
     wpAny (model prog w) A (forIn f0 true fun c r => if r = true then do let ok ← isTrue c env (eval c env); pure (ForInStep.yield ok) else pure (ForInStep.yield r)) (fun ok s₃ =>
      if ok = true then wpAny (model prog w) A (eval i1 env) (fun x s₄ => wpAny (model prog w) A (pyIter x) (fun it2 s₅ =>
       codeAny (model prog w) A (.compStart (twoE elt t0 i0 t1 i1 f0 f1 scope pos) 1 it2 acc env) (fun r s₆ => (∃ f,r = .ok f) ∧ ∃ m,m < n ∧ I m s₆) s₅) (fun _ _ => False) s₄) (fun _ _ => False) s₃
      else ∃ m,m < n ∧ I m s₃) (fun _ _ => False) s₂) (fun _ _ => False) s₁) (fun _ _ => False) s₁) (fun _ _ => False) s)
  (n:Nat) (h:I n s) :
  codeAny (model prog w) A (.compLoop (twoE elt t0 i0 t1 i1 f0 f1 scope pos) 0 it acc env) R s:=by
 refine codeAny_loop rfl I (fun n s hI => ?_) n h
 show wpAny _ A ((compTurn (twoE elt t0 i0 t1 i1 f0 f1 scope pos) 0 it acc env).onRaise (fun x => do noteFrame x env; theTreesLotGoes x)) _ _ s
 refine wpAny_noted ?_
 rw [two0]
 refine wpAny_bind (wpAny_standAt (wpAny_bind (wpAny_mono (turn n s hI) (fun r s₁ h₁ => ?_) fun _ _ h' => h'.elim)))
 cases r with
 | none => exact wpAny_pure h₁
 | some v =>
  refine wpAny_bind (wpAny_mono h₁ (fun _ s1 h₁ => ?_) fun _ _ h' => h'.elim)
  refine wpAny_bind (wpAny_mono h₁ (fun _ s₂ h₂ => wpAny_bind (wpAny_mono h₂ (fun ok s₃ h₃ => ?_) fun _ _ h' => h'.elim)) fun _ _ h' => h'.elim)
  cases ok with
  | false => exact wpAny_pure ⟨rfl,h₃⟩
  | true =>
   refine wpAny_bind (wpAny_mono h₃ (fun x s₄ h₄ => wpAny_bind (wpAny_standAt ?_)) fun _ _ h' => h'.elim)
   rw [hs x]
   refine wpAny_bind (wpAny_pure (wpAny_bind (wpAny_holding (wpAny_mono h₄ (fun it2 s₅ h₅ => ?_) fun _ _ h' => h'.elim))))
   refine wpAny_bind (wpAny_runOwn (codeAny_mono h₅ fun r s₆ h₆ => ?_))
   obtain ⟨⟨f,rfl⟩,h₆⟩:=h₆
   exact wpAny_pure ⟨rfl,h₆⟩
end
noncomputable def CompIn (J:It) (g:TG) (tc:TT) (te:TE) (W:Nat → Nat → List V → St → Hp → Prop) (Z:List V → St → Hp → Prop):Prop :=
 ∀ i m ys σ H,W i m ys σ H → ys.length ≤ sizeLine ∧ ((J.stop i H ∧ Z ys σ H) ∨
  (J.go i H ∧ ∀ x H',J.yld i H x H' → g x σ H' fun σ2 H2 => tc σ2 H2 fun b H3 => if b = true then te σ2 H3 fun y H4 => ∃ m',m' < m ∧ W (i + 1) m' (ys ++ [y]) σ2 H4 else ∃ m',m' < m ∧ W (i + 1) m' ys σ2 H3))
noncomputable def CompOut (J:It) (g0:TG) (tc0:TT) (wi:TI) (g:TG) (tc:TT) (te:TE) (W:Nat → Nat → List V → St → Hp → Prop) (Z:List V → Hp → Prop):Prop :=
 ∀ i m ys σ H,W i m ys σ H → ys.length ≤ sizeLine ∧ ((J.stop i H ∧ Z ys H) ∨
  (J.go i H ∧ ∀ x H',J.yld i H x H' → g0 x σ H' fun σ2 H2 => tc0 σ2 H2 fun b H3 => if b = true then wi σ2 H3 fun J2 H4 => ∃ W2:Nat → Nat → List V → St → Hp → Prop,(∃ m2,W2 0 m2 ys σ2 H4) ∧ CompIn J2 g tc te W2 fun ys' σ' H' => ∃ m',m' < m ∧ W (i + 1) m' ys' σ' H' else ∃ m',m' < m ∧ W (i + 1) m' ys σ2 H3))
theorem thF {α:Type} {t:Sem α} {Q Q':α → Shared → Prop} {M:Model} {A:Around} {E:Value → Shared → Prop} {s:Shared} (hE:E = fun _ _ => False) (h:wpAny M A t Q E s) (hQ:∀ a s,Q a s → Q' a s):wpAny M A t Q' (fun _ _ => False) s:=wpAny_mono h hQ fun e s x => by rw [hE] at x; exact x
section
variable {Y:Cx} {P:List (Addr × Obj)} {D:Addr} {elt t0 i0 t1 i1:Expr} {f0 f1:List Expr} {scope:Scope} {pos:Pos} {g:TG} {tc:TT} {te:TE}
theorem inner_run (hpn:Y.pn = []) (hcalm:Y.calm = true) (hxe:Y.xe = fun _ _ => False) (hex:D ∈ Y.ex ∨ Y.s₀.heap.objs.size ≤ D) (hcell:∀ x c,Y.env.cells.lookup x = some c → c ≠ D) (hPD:∀ p ∈ P,p.1 ≠ D)
  (hg:PG Y t1 g) (hif:PIf Y f1 tc) (he:PE Y elt te)
  {its0:List Value} {nn0:Nat} {ys0:List V} {σ:St} {H:Hp} {s:Shared} (I:Inv Y ([(D,lobj its0 nn0)] ++ P) σ H s) (rv0:Vals ys0 its0) {it2:Addr} {fp2:List Addr} {tn2:Nat → Heap → Prop} {J2:It} (T:Turn Y.prog Y.w Y.K t1 J2 fp2 it2 tn2) (st:tn2 0 s.heap)
  (f:∀ b ∈ fp2,FpOk Y ([(D,lobj its0 nn0)] ++ P) H b) {W2:Nat → Nat → List V → St → Hp → Prop} {Z2:List V → St → Hp → Prop} {m0:Nat} (w0:W2 0 m0 ys0 σ H) (turn:CompIn J2 g tc te W2 Z2) {R:Result → Shared → Prop}
  (hR:∀ (s':Shared) (ys:List V) (its:List Value) (n:Nat) (σ':St) (H':Hp),Inv Y ([(D,lobj its n)] ++ P) σ' H' s' → Vals ys its → Z2 ys σ' H' → R (.ok .next) s') :
  codeAny (model Y.prog Y.w) Y.A (.compStart (twoE elt t0 i0 t1 i1 f0 f1 scope pos) 1 (.ref it2) (.ref D) Y.env) R s:=by
 have fpc:∀ {H:Hp} {n:Nat} {its:List Value},(∀ b ∈ fp2,H b = none) → ∀ b ∈ fp2,FpOk Y ([(D,lobj its n)] ++ P) H b:=fun hn b hb => by
  obtain ⟨_,a1,a2,a3,a4,a5⟩:=f b hb
  refine ⟨hn b hb,a1,a2,a3,a4,fun p hp => ?_⟩
  rw [hpn,List.nil_append] at hp
  rcases List.mem_append.mp hp with z | z
  ·obtain rfl:=List.mem_singleton.mp z
   exact a5 (D,lobj its0 nn0) (by rw [hpn]; simp)
  ·exact a5 p (by rw [hpn]; simp [z])
 have loop:codeAny (model Y.prog Y.w) Y.A (.compLoop (twoE elt t0 i0 t1 i1 f0 f1 scope pos) 1 (.ref it2) (.ref D) Y.env) R s:=by
  refine codeAny_loop1 (fun n s' => ∃ i ys its nn σ' H',Inv Y ([(D,lobj its nn)] ++ P) σ' H' s' ∧ Vals ys its ∧ tn2 i s'.heap ∧ (∀ b ∈ fp2,H' b = none) ∧ W2 i n ys σ' H') ?_ m0
   ⟨0,ys0,its0,nn0,σ,H,I,rv0,st,fun b hb => (f b hb).1,w0⟩
  rintro n s' ⟨i,ys,its,nn,σ',H',I4,rv,st4,fr4,w4⟩
  obtain ⟨hz,h⟩:=turn i n ys σ' H' w4
  rcases h with ⟨stop,hZ⟩ | ⟨go,step⟩
  ·refine thn (T.done Y rfl rfl rfl hcalm i _ s' _ H' (fun _ _ => False) I4 (fpc fr4) st4 stop) fun r s4 ⟨hr,I5⟩ => ?_
   subst hr
   exact hR s4 ys its nn σ' H' I5 rv hZ
  ·refine thn (T.item Y rfl rfl rfl hcalm i _ s' _ H' (fun _ _ => False) I4 (fpc fr4) st4 go) fun r s5 ⟨u,hr,h5⟩ => ?_
   subst hr
   refine thn h5 fun _ s6 ⟨x,H6,I6,r6,y6,st6,fr6⟩ => ?_
   have I6':=I6.pinned (fpc fr6) (T.obj _ _ st6)
   refine thF hxe (hg _ s6 _ H6 x u _ I6' r6 (step x H6 y6)) fun _ s7 ⟨σ7,H7,I7,q7⟩ => ?_
   refine thF hxe (hif _ s7 σ7 H7 _ I7 q7) fun ok s8 ⟨H8,I8,q8⟩ => ?_
   have keepfp:∀ {σ9:St} {H9:Hp} {s9:Shared},Inv Y (([(D,lobj its nn)] ++ P) ++ pinsAt fp2 s6.heap) σ9 H9 s9 → tn2 (i + 1) s9.heap ∧ ∀ b ∈ fp2,H9 b = none:=fun {σ9 H9 s9} I9 =>
    ⟨T.keep _ _ _ st6 fun b hb o e => (I9.pin (b,o) (List.mem_append_right _ (List.mem_append_right _ (mem_pinsAt hb e)))).1,fun b hb => by
     obtain ⟨o,e,d⟩:=T.obj _ _ st6 b hb
     exact (I9.pin (b,o) (List.mem_append_right _ (List.mem_append_right _ (mem_pinsAt hb e)))).2.1⟩
   cases ok with
   | false =>
    obtain ⟨m',hm,w8⟩:=q8
    obtain ⟨a8,b8⟩:=keepfp I8
    exact ⟨m',hm,i + 1,ys,its,nn,σ7,H8,I8.unpinned,rv,a8,b8,w8⟩
   | true =>
    refine thF hxe (he _ s8 σ7 H8 _ I8 q8) fun v s9 ⟨y,H9,I9,r9,q9⟩ => ?_
    obtain ⟨m',hm,w9⟩:=q9
    obtain ⟨a9,b9⟩:=keepfp I9
    have pacc:=I9.pin (D,lobj its nn) (List.mem_append_right _ (List.mem_append_left _ (List.mem_append_left _ List.mem_cons_self)))
    have hzi:its.toArray.size ≤ sizeLine:=by rw [List.size_toArray,← rv.length]; exact hz
    refine PySem.wpAny_list_append_plain (hsz:=hzi) ⟨nn,pacc.1⟩ fun h' hl' hs' => ?_
    obtain ⟨n',hl'⟩:=hl'
    have nfp:∀ b ∈ fp2,b ≠ D:=fun b hb z => by
     have:=(f b hb).2.2.2.2.2 (D,lobj its0 nn0) (by rw [hpn]; simp)
     exact this z.symm
    have I10:Inv Y [] σ7 H9 { s9 with heap:=h' } :=
     Inv.turned (t':=s9.toks) (it:=D) (I9.pins_of fun p hp => absurd hp (by simp)) (fun b o hb e => (hs'.2 b hb).trans e) pacc.2.1 pacc.2.2.1 hex hcell (fun p hp => absurd (show p ∈ ([]:List (Addr × Obj)) from by rw [hpn] at hp; exact hp) (by simp))
    refine ⟨m',hm,i + 1,ys ++ [y],its ++ [v],n',σ7,H9,I10.pins_of fun p hp => ?_,rv.append (.cons r9 .nil),T.keep _ _ _ a9 fun b hb o e => (hs'.2 b (nfp b hb)).trans e,b9,w9⟩
    rcases List.mem_append.mp hp with z | z
    ·have e:p = (D,lobj (its ++ [v]) n'):=List.mem_singleton.mp z
     subst e
     refine ⟨?_,pacc.2.1,pacc.2.2.1,pacc.2.2.2.1,fun v z => by cases z⟩
     rw [hl']
     simp [lobj]
    ·obtain ⟨b1,b2,b3,b4,b5⟩:=I9.pin p (List.mem_append_right _ (List.mem_append_left _ (List.mem_append_right _ z)))
     exact ⟨(hs'.2 _ (hPD p z)).trans b1,b2,b3,b4,b5⟩
 exact codeAny_start1 loop (T.self _ 0 _ _ _ st loop)
end
section
variable {X:Cx} {pins:List (Addr × Obj)} {σ σ':St} {H2 H':Hp} {s2 s':Shared} {scope:Scope} {cl:List (Str × Addr)} {ms:List Bool} {extra:List Str} {elt t0 i0 t1 i1:Expr} {f0 f1:List Expr} {g0 g:TG} {tc0 tc:TT} {te:TE} {wi:TI} {pos:Pos}
theorem comp_core2 (S:CompSc X scope cl ms extra) (hcalm:X.calm = true)
  (hg0:∀ C s H ex,PG (cxComp X scope cl (X.N ++ extra) C s H ex) t0 g0) (hif0:∀ C s H ex,PIf (cxComp X scope cl (X.N ++ extra) C s H ex) f0 tc0) (hi1:∀ C s H ex,PI (cxComp X scope cl (X.N ++ extra) C s H ex) t1 i1 wi) (hg:∀ C s H ex,PG (cxComp X scope cl (X.N ++ extra) C s H ex) t1 g) (hif:∀ C s H ex,PIf (cxComp X scope cl (X.N ++ extra) C s H ex) f1 tc) (hs1:∀ C x,foldedSetIterable i1 (compEnvC scope cl C X.env) x = pure x) (he:∀ C s H ex,PE (cxComp X scope cl (X.N ++ extra) C s H ex) elt te)
  (I2:Inv X pins σ H2 s2) {it:Addr} {fp:List Addr} {tn:Nat → Heap → Prop} {J:It} (T:Turn X.prog X.w X.K t0 J fp it tn) (st2:tn 0 s2.heap) (f2:∀ b ∈ fp,FpOk X pins H2 b)
  {W:Nat → Nat → List V → St → Hp → Prop} {Z:List V → Hp → Prop} {m0:Nat} (w0:W 0 m0 [] (compS ms extra.length σ) H2) (turn:CompOut J g0 tc0 wi g tc te W Z)
  {RR:Value → Addr → Result → Shared → Prop} {E:Value → Shared → Prop}
  (hRR:∀ (s':Shared) (ys:List V) (its:List Value) (n:Nat) (σ':St) (H':Hp),Inv (cxComp X scope cl (X.N ++ extra) (s2.heap.objs.size + 1) s2 H2 fp) [(s2.heap.objs.size,lobj its n)] σ' H' s' → Vals ys its → ys.length ≤ sizeLine → Z ys H' →
   RR (.ref s2.heap.objs.size) (s2.heap.objs.size + 1) (.ok .next) s') :
  wpAny (model X.prog X.w) X.A (newList []) (fun acc s₃ => wpAny (model X.prog X.w) X.A (newFunctionEnv scope X.env.globals cl [] X.env.qual none .none (some X.env)) (fun cenv s₄ =>
   codeAny (model X.prog X.w) X.A (.compStart (twoE elt t0 i0 t1 i1 f0 f1 scope pos) 0 (.ref it) acc { cenv with scope:=relabel scope X.env }) (RR acc cenv.locals) s₄) E s₃) E s2:=by
 refine wpAny_newObj_type (wpAny_newFunctionEnv S.ncell (by intro y hy; simp at hy) (fun h₁ hns₁ hsb₁ => ?_) S.kind)
 dsimp only at hns₁ hsb₁ ⊢
 have hsz:(s2.heap.push { cls:=.type "list",dict:=none,data:=.seq ([]:List Value).toArray }).objs.size = s2.heap.objs.size + 1:=by rw [Heap.size_push]
 rw [hsz] at hns₁ hsb₁ ⊢
 have hlt:∀ b ∈ fp,b < s2.heap.objs.size:=fun b hb => by
  obtain ⟨o,e,_⟩:=T.obj _ _ st2 b hb
  exact Heap.lt_size e
 have old:∀ b o,s2.heap.get? b = some o → h₁.get? b = some o:=fun b o e => hsb₁.extBut b o (Nat.ne_of_lt (Nat.lt_succ_of_lt (Heap.lt_size e))) (Heap.get?_push_of_some _ (Heap.get?_push_of_some _ e))
 have hacc:h₁.get? s2.heap.objs.size = some (lobj [] 0):=hsb₁.extBut _ _ (Nat.ne_of_lt (Nat.lt_succ_self _)) (Heap.get?_push_of_some _ (Heap.get?_push_size _ rfl))
 have hDn:H2 s2.heap.objs.size = none:=I2.hok.fresh (Nat.le_refl _)
 have hDfs:∀ b,s2.heap.objs.size ≤ b → b ∉ (cxComp X scope cl (X.N ++ extra) (s2.heap.objs.size + 1) s2 H2 fp).fs:=fun b hb z => by
  rcases List.mem_cons.mp (I2.stkSub b z) with e | e
  ·subst e; exact absurd (Nat.lt_of_lt_of_le I2.lt hb) (Nat.lt_irrefl _)
  ·exact I2.nofs hb e
 have loop:∀ s₃:Shared,s₃ = { s2 with heap:=h₁,toks:=s2.toks + ([]:List (Str × Value)).length } →
   codeAny (model X.prog X.w) X.A (.compLoop (twoE elt t0 i0 t1 i1 f0 f1 scope pos) 0 (.ref it) (.ref s2.heap.objs.size) (compEnvC scope cl (s2.heap.objs.size + 1) X.env)) (RR (.ref s2.heap.objs.size) (s2.heap.objs.size + 1)) s₃:=by
  rintro s₃ rfl
  have I3:Inv (cxComp X scope cl (X.N ++ extra) (s2.heap.objs.size + 1) s2 H2 fp) [] (compS ms extra.length σ) H2 { s2 with heap:=h₁,toks:=s2.toks + ([]:List (Str × Value)).length } :=
   compInv I2 S f2 hlt (Nat.le_succ _) rfl I2.bare old hns₁
  have fpc:∀ {H:Hp} {n:Nat} {its:List Value},(∀ b ∈ fp,H b = none) → ∀ b ∈ fp,FpOk (cxComp X scope cl (X.N ++ extra) (s2.heap.objs.size + 1) s2 H2 fp) [(s2.heap.objs.size,lobj its n)] H b:=fun hn b hb =>
   ⟨hn b hb,Nat.ne_of_lt (Nat.lt_succ_of_lt (hlt b hb)),(compOk I2 S f2 hlt (Nat.le_succ _)).exfs b hb,.inl hb,fun x c e => (f2 b hb).2.2.2.2.1 x c (S.sub x c e),fun p hp => by
    have:p = (s2.heap.objs.size,_):=List.mem_singleton.mp (show p ∈ [(s2.heap.objs.size,_)] from hp)
    subst this
    exact Nat.ne_of_gt (hlt b hb)⟩
  refine codeAny_loop0 (env:=compEnvC scope cl (s2.heap.objs.size + 1) X.env) (hs1 _)
   (fun n s' => ∃ i ys its nn σ' H',Inv (cxComp X scope cl (X.N ++ extra) (s2.heap.objs.size + 1) s2 H2 fp) [(s2.heap.objs.size,lobj its nn)] σ' H' s' ∧ Vals ys its ∧ tn i s'.heap ∧ (∀ b ∈ fp,H' b = none) ∧ W i n ys σ' H') ?_ m0
   ⟨0,[],[],0,_,H2,I3.pins_of fun p hp => ?_,.nil,T.keep _ _ _ st2 fun b _ o e => old b o e,fun b hb => (f2 b hb).1,w0⟩
  ·rintro n s' ⟨i,ys,its,nn,σ',H',I4,rv,st4,fr4,w4⟩
   obtain ⟨hz,h⟩:=turn i n ys σ' H' w4
   rcases h with ⟨stop,hZ⟩ | ⟨go,step⟩
   ·refine thn (T.done (cxComp X scope cl (X.N ++ extra) (s2.heap.objs.size + 1) s2 H2 fp) rfl rfl rfl hcalm i _ s' _ H' (fun _ _ => False) I4 (fpc fr4) st4 stop) fun r s4 ⟨hr,I5⟩ => ?_
    subst hr
    exact hRR s4 ys its nn σ' H' I5 rv hz hZ
   ·refine thn (T.item (cxComp X scope cl (X.N ++ extra) (s2.heap.objs.size + 1) s2 H2 fp) rfl rfl rfl hcalm i _ s' _ H' (fun _ _ => False) I4 (fpc fr4) st4 go) fun r s5 ⟨u,hr,h5⟩ => ?_
    subst hr
    refine thn h5 fun _ s6 ⟨x,H6,I6,r6,y6,st6,fr6⟩ => ?_
    have I6':=I6.pinned (fpc fr6) (T.obj _ _ st6)
    refine thn (hg0 _ _ _ _ _ s6 _ H6 x u _ I6' r6 (step x H6 y6)) fun _ s7 ⟨σ7,H7,I7,q7⟩ => ?_
    refine thn (hif0 _ _ _ _ _ s7 σ7 H7 _ I7 q7) fun ok s8 ⟨H8,I8,q8⟩ => ?_
    have keepfp:∀ {its:List Value} {nn:Nat} {σ9:St} {H9:Hp} {s9:Shared},Inv (cxComp X scope cl (X.N ++ extra) (s2.heap.objs.size + 1) s2 H2 fp) ([(s2.heap.objs.size,lobj its nn)] ++ pinsAt fp s6.heap) σ9 H9 s9 → tn (i + 1) s9.heap ∧ ∀ b ∈ fp,H9 b = none:=fun {its nn σ9 H9 s9} I9 =>
     ⟨T.keep _ _ _ st6 fun b hb o e => (I9.pin (b,o) (List.mem_append_right _ (List.mem_append_right _ (mem_pinsAt hb e)))).1,fun b hb => by
      obtain ⟨o,e,d⟩:=T.obj _ _ st6 b hb
      exact (I9.pin (b,o) (List.mem_append_right _ (List.mem_append_right _ (mem_pinsAt hb e)))).2.1⟩
    cases ok with
    | false =>
     obtain ⟨m',hm,w8⟩:=q8
     obtain ⟨a8,b8⟩:=keepfp I8
     exact ⟨m',hm,i + 1,ys,its,nn,σ7,H8,I8.unpinned,rv,a8,b8,w8⟩
    | true =>
     refine thn (hi1 _ _ _ _ _ s8 σ7 H8 _ I8 q8) fun v s9 h9 => thn h9 fun itv s10 h10 => ?_
     obtain ⟨it2,fp2,tn2,J2,H10,e,I10,T2,st10,f10,W2,⟨m2,w2⟩,cin⟩:=h10
     subst e
     have hne:∀ x c,(cxComp X scope cl (X.N ++ extra) (s2.heap.objs.size + 1) s2 H2 fp).env.cells.lookup x = some c → c ≠ s2.heap.objs.size:=fun x c e => by
      obtain ⟨v,o,ho,_⟩:=I2.cell x c (S.sub x c e)
      exact Nat.ne_of_lt (Heap.lt_size ho)
     refine inner_run (Y:=cxComp X scope cl (X.N ++ extra) (s2.heap.objs.size + 1) s2 H2 fp) rfl hcalm rfl (.inr (Nat.le_refl _)) hne (fun p hp => Nat.ne_of_lt (hlt _ (of_pinsAt hp).1)) (hg _ _ _ _) (hif _ _ _ _) (he _ _ _ _) I10 rv T2 st10 f10 w2 cin ?_
     intro s' ys' its' n' σ' H' I' rv' ⟨m',hm,w'⟩
     obtain ⟨a9,b9⟩:=keepfp I'
     exact ⟨⟨_,rfl⟩,m',hm,i + 1,ys',its',n',σ',H',I'.unpinned,rv',a9,b9,w'⟩
  ·have e:p = (s2.heap.objs.size,lobj [] 0):=List.mem_singleton.mp hp
   subst e
   exact ⟨hacc,hDn,Nat.ne_of_lt (Nat.lt_succ_self _),hDfs _ (Nat.le_refl _),fun v z => by cases z⟩
 exact codeAny_compStart_list (loop _ rfl) (T.self _ 0 _ _ _ (T.keep _ _ _ st2 fun b _ o e => old b o e) (loop _ rfl))

noncomputable def tLc2 (ms:List Bool) (k:Nat) (w0:TI) (g0:TG) (tc0:TT) (wi:TI) (g:TG) (tc:TT) (te:TE):TE:=fun σ H Q => w0 σ H fun J H1 => ∃ (W:Nat → Nat → List V → St → Hp → Prop) (Z:List V → Hp → Prop),(∃ m,W 0 m [] (compS ms k σ) H1) ∧ CompOut J g0 tc0 wi g tc te W Z ∧
 ∀ ys H p,Z ys H → H p = none → Q (.ref p) (upd H p (.lst ys))
theorem pe_lc2 (S:CompSc X scope cl ms extra) (hcalm:X.calm = true) {w0:TI} (hi:PI X t0 i0 w0)
  (hg0:∀ C s H ex,PG (cxComp X scope cl (X.N ++ extra) C s H ex) t0 g0) (hif0:∀ C s H ex,PIf (cxComp X scope cl (X.N ++ extra) C s H ex) f0 tc0) (hi1:∀ C s H ex,PI (cxComp X scope cl (X.N ++ extra) C s H ex) t1 i1 wi) (hg:∀ C s H ex,PG (cxComp X scope cl (X.N ++ extra) C s H ex) t1 g) (hif:∀ C s H ex,PIf (cxComp X scope cl (X.N ++ extra) C s H ex) f1 tc) (he:∀ C s H ex,PE (cxComp X scope cl (X.N ++ extra) C s H ex) elt te)
  (hs:∀ x,foldedSetIterable i0 X.env x = pure x:=by intro _; rfl) (hs1:∀ C x,foldedSetIterable i1 (compEnvC scope cl C X.env) x = pure x:=by intro _ _; rfl):PE X (twoE elt t0 i0 t1 i1 f0 f1 scope pos) (tLc2 ms extra.length w0 g0 tc0 wi g tc te):=by
 intro pins s σ H Q I h
 rw [eval_ListComp]
 refine wpAny_comprehension_free (use:=none) rfl hs S.clos S.kind S.names (thn (hi pins s σ H _ I h) fun v s1 h1 => thn h1 fun itv s2 h2 => ?_)
 obtain ⟨it,fp,tn,J,H2,e,I2,T,st2,f2,W,Z,⟨m0,w0⟩,turn,q⟩:=h2
 subst e
 refine comp_core2 S hcalm hg0 hif0 hi1 hg hif hs1 he I2 T st2 f2 w0 turn (RR:=fun acc C => compPost (model X.prog X.w) X.A X.xe none (EP X pins σ Q) acc C) ?_
 intro s' ys its n σ' H' I' rv hz hZ
 obtain ⟨m,hm,_⟩:=I'.loc
 refine ⟨m,hm,fun h' hs' => ?_⟩
 obtain ⟨I3,hD⟩:=comp_back I2 f2 I' rv hz hs'
 exact ⟨.ref s2.heap.objs.size,_,I3,rfl,q ys H' _ hZ hD⟩
end
end L2

set_option Elab.async false
set_option linter.all false
set_option maxRecDepth 100000
namespace L2
open PySem PySem.Spec PyProof.Rows
/-! ### comprehensions of two clauses,in deep data -/
noncomputable def lcRunE (g:GD) (tc:TTd) (te:TEd):List D → DE → DH → List D → (List D → DE → DH → Prop) → Prop
 | [],Δ,M,acc,Q => Q acc Δ M
 | d :: ds,Δ,M,acc,Q => ∃ Δ',g d Δ = some Δ' ∧ tc Δ' M fun b M1 => if b = true then te Δ' M1 fun y M2 => lcRunE g tc te ds Δ' M2 (acc ++ [y]) Q else lcRunE g tc te ds Δ' M1 acc Q
noncomputable def lc2Run (g0:GD) (tc0:TTd) (wi:TId) (g:GD) (tc:TTd) (te:TEd):List D → DE → DH → List D → (List D → DH → Prop) → Prop
 | [],_,M,acc,Q => Q acc M
 | d :: ds,Δ,M,acc,Q => ∃ Δ',g0 d Δ = some Δ' ∧ tc0 Δ' M fun b M1 => if b = true then wi Δ' M1 fun es M2 => acc.length + es.length ≤ sizeLine ∧ lcRunE g tc te es Δ' M2 acc fun acc' Δ'' M3 => lc2Run g0 tc0 wi g tc te ds Δ'' M3 acc' Q else lc2Run g0 tc0 wi g tc te ds Δ' M1 acc Q
noncomputable def dLc2 (ms:List Bool) (k:Nat) (w0:TId) (g0:GD) (tc0:TTd) (wi:TId) (g:GD) (tc:TTd) (te:TEd):TEd:=fun Δ M Q => w0 Δ M fun ds M1 => lc2Run g0 tc0 wi g tc te ds (compD ms k Δ) M1 [] fun ys M2 => Q (.lst ys) M2
theorem lc2_conv {K:PySem.W.Frag} {w0 wi:TId} {g0 g:GD} {tc0 tc:TTd} {te:TEd} {gv0 gv:TG} {ms:List Bool} {kk:Nat}
  (kg0:∀ (d:D) (v:V) (σ:St) (Δ Δ':DE) (M:DH) (H:Hp) (Q:St → Hp → Prop),SR K M H σ Δ → HR K M H → Rep K M H d v → g0 d Δ = some Δ' → (∀ σ',SR K M H σ' Δ' → Q σ' H) → gv0 v σ H Q)
  (kg:∀ (d:D) (v:V) (σ:St) (Δ Δ':DE) (M:DH) (H:Hp) (Q:St → Hp → Prop),SR K M H σ Δ → HR K M H → Rep K M H d v → g d Δ = some Δ' → (∀ σ',SR K M H σ' Δ' → Q σ' H) → gv v σ H Q) :
  ∀ σ H Q,up K (dLc2 ms kk w0 g0 tc0 wi g tc te) σ H Q → tLc2 ms kk (upI K w0) gv0 (upT K tc0) (upI K wi) gv (upT K tc) (up K te) σ H Q:=by
 rintro σ H Q ⟨Δ,M,R,sr,hr,q,k⟩
 refine ⟨Δ,M,_,sr,hr,q,fun ds M1 J H1 q1 e1 hr1 it => ?_⟩
 refine ⟨fun i m ys σ' H' => ∃ Δ' M' acc,m = ds.length - i ∧ i ≤ ds.length ∧ Ext M1 H1 M' H' ∧ HR K M' H' ∧ SR K M' H' σ' Δ' ∧ RepL K M' H' acc ys ∧ acc.length ≤ sizeLine ∧ lc2Run g0 tc0 wi g tc te (ds.drop i) Δ' M' acc fun ys M2 => R (.lst ys) M2,
  fun ys H' => ∃ M' acc,Ext M1 H1 M' H' ∧ HR K M' H' ∧ RepL K M' H' acc ys ∧ R (.lst acc) M',⟨ds.length,_,M1,[],by simp,Nat.zero_le _,Ext.refl _ _,hr1,(sr.ext e1).comp ms kk,RepL.nil,by simp,q1⟩,?_,?_⟩
 ·rintro i m ys σ2 H2 ⟨Δ2,M2,acc,rfl,hi2,e2,hr2,sr2,ra,la,f2⟩
  refine ⟨by rw [← ra.length]; exact la,?_⟩
  obtain ⟨go,stop⟩:=it M2 H2 e2 hr2 i
  by_cases hlt:i < ds.length
  ·have hd:ds[i]? = some ds[i]:=by simp [hlt]
   obtain ⟨g1,y1⟩:=go _ hd
   rw [List.drop_eq_getElem_cons hlt] at f2
   simp only [lc2Run] at f2
   obtain ⟨Δ3,eg,f3⟩:=f2
   refine .inr ⟨g1,fun x H' hy => ?_⟩
   obtain ⟨e3,hr3,rx⟩:=y1 x H' hy
   refine kg0 _ x σ2 Δ2 Δ3 M2 H' _ (sr2.ext e3) hr3 rx eg fun σ3 sr3 => ?_
   refine ⟨Δ3,M2,_,sr3,hr3,f3,fun b M4 H4 q4 e4 hr4 => ?_⟩
   cases b with
   | true =>
    simp only [if_true] at q4 ⊢
    refine ⟨Δ3,M4,_,sr3.ext e4,hr4,q4,fun es M5 J2 H5 ⟨hz5,q5⟩ e5 hr5 it5 => ?_⟩
    refine ⟨fun j m ys' σ' H' => ∃ Δ' M' acc',m = es.length - j ∧ j ≤ es.length ∧ Ext M5 H5 M' H' ∧ HR K M' H' ∧ SR K M' H' σ' Δ' ∧ RepL K M' H' acc' ys' ∧ acc'.length ≤ acc.length + j ∧ lcRunE g tc te (es.drop j) Δ' M' acc' fun a Δ'' M3 => lc2Run g0 tc0 wi g tc te (ds.drop (i + 1)) Δ'' M3 a fun ys M2 => R (.lst ys) M2,
     ⟨es.length,Δ3,M5,acc,by simp,Nat.zero_le _,Ext.refl _ _,hr5,(sr3.ext e4).ext e5,((ra.ext e3).ext e4).ext e5,by omega,q5⟩,?_⟩
    rintro j m ys' σ6 H6 ⟨Δ6,M6,acc6,rfl,hj,e6,hr6,sr6,ra6,la6,f6⟩
    refine ⟨by rw [← ra6.length]; omega,?_⟩
    obtain ⟨go2,stop2⟩:=it5 M6 H6 e6 hr6 j
    by_cases hlt2:j < es.length
    ·have hd2:es[j]? = some es[j]:=by simp [hlt2]
     obtain ⟨g2,y2⟩:=go2 _ hd2
     rw [List.drop_eq_getElem_cons hlt2] at f6
     simp only [lcRunE] at f6
     obtain ⟨Δ7,eg7,f7⟩:=f6
     refine .inr ⟨g2,fun x7 H7 hy7 => ?_⟩
     obtain ⟨e7,hr7,rx7⟩:=y2 x7 H7 hy7
     refine kg _ x7 σ6 Δ6 Δ7 M6 H7 _ (sr6.ext e7) hr7 rx7 eg7 fun σ7 sr7 => ?_
     refine ⟨Δ7,M6,_,sr7,hr7,f7,fun b M8 H8 q8 e8 hr8 => ?_⟩
     cases b with
     | true =>
      simp only [if_true] at q8 ⊢
      refine ⟨Δ7,M8,_,sr7.ext e8,hr8,q8,fun y M9 v9 H9 q9 e9 hr9 rv9 => ?_⟩
      exact ⟨es.length - (j + 1),by omega,Δ7,M9,acc6 ++ [y],rfl,hlt2,((e6.trans e7).trans e8).trans e9,hr9,(sr7.ext e8).ext e9,(((ra6.ext e7).ext e8).ext e9).append (RepL.cons rv9 RepL.nil),by simp; omega,q9⟩
     | false =>
      simp only [Bool.false_eq_true,if_false] at q8 ⊢
      exact ⟨es.length - (j + 1),by omega,Δ7,M8,acc6,rfl,hlt2,(e6.trans e7).trans e8,hr8,sr7.ext e8,(ra6.ext e7).ext e8,by omega,q8⟩
    ·rw [List.drop_eq_nil_of_le (by omega)] at f6
     simp only [lcRunE] at f6
     exact .inl ⟨stop2 (by omega),ds.length - (i + 1),by omega,Δ6,M6,acc6,rfl,hlt,(((e2.trans e3).trans e4).trans e5).trans e6,hr6,sr6,ra6,by omega,f6⟩
   | false =>
    simp only [Bool.false_eq_true,if_false] at q4 ⊢
    exact ⟨ds.length - (i + 1),by omega,Δ3,M4,acc,rfl,hlt,(e2.trans e3).trans e4,hr4,sr3.ext e4,(ra.ext e3).ext e4,la,q4⟩
  ·rw [List.drop_eq_nil_of_le (by omega)] at f2
   simp only [lc2Run] at f2
   exact .inl ⟨stop (by omega),M2,acc,e2,hr2,ra,f2⟩
 ·rintro ys H' p ⟨M',acc,e',hr',ra,q'⟩ hp
  refine k _ M' _ _ q' ((e1.trans e').trans (Ext.new hr' hp)) (hr'.new hp) ?_
  simp only [Rep]
  exact ⟨p,ys,rfl,⟨upd_same,hr'.fresh hp⟩,ra.ext (Ext.new hr' hp)⟩
section
variable {X:Cx} {scope:Scope} {cl:List (Str × Addr)} {ms:List Bool} {extra:List Str} {elt t0 i0 t1 i1:Expr} {f0 f1:List Expr} {pos:Pos}
theorem d_lc2 {w0 wi:TId} {g0 g:GD} {tc0 tc:TTd} {te:TEd} (S:CompSc X scope cl ms extra) (hcalm:X.calm = true) (hi:PId X t0 i0 w0) (hg0:PGa X scope cl extra t0 g0)
  (hif0:∀ C s H ex,PIfd (cxComp X scope cl (X.N ++ extra) C s H ex) f0 tc0) (hi1:∀ C s H ex,PId (cxComp X scope cl (X.N ++ extra) C s H ex) t1 i1 wi) (hg:PGa X scope cl extra t1 g) (hif:∀ C s H ex,PIfd (cxComp X scope cl (X.N ++ extra) C s H ex) f1 tc) (he:∀ C s H ex,PEd (cxComp X scope cl (X.N ++ extra) C s H ex) elt te)
  (hs:∀ x,foldedSetIterable i0 X.env x = pure x:=by intro _; rfl) (hs1:∀ C x,foldedSetIterable i1 (compEnvC scope cl C X.env) x = pure x:=by intro _ _; rfl):PEd X (twoE elt t0 i0 t1 i1 f0 f1 scope pos) (dLc2 ms extra.length w0 g0 tc0 wi g tc te):=by
 obtain ⟨gv0,pg0,kg0⟩:=hg0
 obtain ⟨gv,pg,kg⟩:=hg
 exact (pe_lc2 (tc0:=upT X.K tc0) (tc:=upT X.K tc) (te:=up X.K te) (wi:=upI X.K wi) S hcalm hi pg0 hif0 hi1 pg hif he hs hs1).conv (lc2_conv kg0 kg)
end
end L2

set_option Elab.async false
set_option linter.all false
set_option maxRecDepth 100000
namespace L2
open PySem PySem.Spec PyProof.Rows
theorem q_lc2 {X:Cx} {scope:Scope} {cl:List (Str × Addr)} {ms:List Bool} {extra:List Str} {elt t0 i0 t1 i1:Expr} {f0 f1:List Expr} {pos:Pos} {w0 wi:TId} {g0 g:GD} {tc0 tc:TTd} {te:TEd} (S:CompSc X scope cl ms extra) (hcalm:X.calm = true) (hi:QId X t0 i0 w0) (hg0:PGa X scope cl extra t0 g0)
  (hif0:∀ C s H ex,QIf (cxComp X scope cl (X.N ++ extra) C s H ex) f0 tc0) (hi1:∀ C s H ex,QId (cxComp X scope cl (X.N ++ extra) C s H ex) t1 i1 wi) (hg:PGa X scope cl extra t1 g) (hif:∀ C s H ex,QIf (cxComp X scope cl (X.N ++ extra) C s H ex) f1 tc) (he:∀ C s H ex,QEd (cxComp X scope cl (X.N ++ extra) C s H ex) elt te)
  (hs:∀ x,foldedSetIterable i0 X.env x = pure x:=by intro _; rfl) (hs1:∀ C x,foldedSetIterable i1 (compEnvC scope cl C X.env) x = pure x:=by intro _ _; rfl):QEd X (.ListComp elt [⟨t0,i0,f0,0⟩,⟨t1,i1,f1,0⟩] scope pos) (dLc2 ms extra.length w0 g0 tc0 wi g tc te):=by
 simp only [QEd.eq,QAd.eq,QTd.eq,QWd.eq,QSd.eq,QSs.eq,QId.eq,QIf.eq,QOd.eq] at *
 exact d_lc2 (S:=S) (hcalm:=hcalm) (hi:=hi) (hg0:=hg0) (hif0:=hif0) (hi1:=hi1) (hg:=hg) (hif:=hif) (he:=he) (hs:=hs) (hs1:=hs1)
/-! ### the rest of a block,kept shut -/
@[irreducible] noncomputable def dHid (t:TSd):TSd:=t
theorem dHid_eq {t:TSd}:dHid t = t:=by unfold dHid; rfl
theorem dHid_of {t:TSd} {E:EndsD} {Δ:DE} {M:DH} (h:t E Δ M):dHid t E Δ M:=by rw [dHid_eq]; exact h
theorem q_hid {X:Cx} {st:List Stmt} {t:TSd} (h:QSs X st t):QSs X st (dHid t):=by rw [dHid_eq]; exact h
/-! ### the head with the whole heap of the top -/
theorem walkX_of {K:Params → PySem.W.Frag} {as:List Addr} {n t:Nat} {q:Program} {loose:List Str} {XP:(Str → Option Value) → Heap → Prop} {r:PySem.W.RowW} {d:DefRec} {kwd:List (Str × Expr)} {run:Value → List Value → Sem Value} (hk:∀ P,as = (K P).map (·.1))
  (h:PySem.W.WalkO q loose XP (fun w h => (K w.params).In h) r d kwd run):PySem.W.WalkX q loose XP (PySem.W.X.obsZ as) (PySem.W.X.valZ K n t) r d kwd run:=by
 intro w s₀ s₁ mg mb G y a o pm cd doc dV kV ho hd hcd hD hmg hg args vals as' L hpre hlay hrd hwl hlo
 refine h w s₀ s₁ mg mb G (fun b u hu => L.keeps b u ?_) a o pm cd doc dV kV ho hd hcd hD hmg hg args vals as' hpre hlay hrd hwl hlo
 have y1:as.map s₀.heap.get? = (K w.params).map fun p => some p.2:=congrArg (·.1) y
 rw [hk w.params,List.map_map] at y1
 have key:∀ (l:PySem.W.Frag),(l.map fun p => s₀.heap.get? p.1) = l.map (fun p => some p.2) → List.lookup b l = some u → s₀.heap.get? b = some u:=by
  intro l
  induction l with
  | nil => intro _ z; cases z
  | cons p l ih =>
   intro e z
   rw [List.map_cons,List.map_cons,List.cons.injEq] at e
   rw [List.lookup_cons] at z
   by_cases c:b = p.1
   ·subst c
    rw [beq_self_eq_true] at z
    cases z
    exact e.1
   ·rw [beq_eq_false_iff_ne.mpr c] at z
    exact ih e.2 z
 exact key _ y1 hu
end L2

set_option Elab.async false
set_option linter.all false
set_option maxRecDepth 100000
namespace L2
open PySem PySem.W PySem.Calls PyProof.Rows
/-! ### sorted of a list or a tuple: ints,pairs of ints -/
section
variable {prog:Program} {w:World} {A:Around} {E:Value → Shared → Prop} {O:KeyOrd}
theorem srt_callS {T:String} {o:Obj} {n:Nat} {s:Shared} {l:Addr} {vs:List Value} {key:Nat → O.α} {κ:SortKind} {Q:Value → Shared → Prop} (hT:T = "list" ∨ T = "tuple") (hg:s.heap.get? l = some o) (hcl:o.cls = .type T) (hd:o.data = .seq vs.toArray n) (hz:vs.length < 64)
  (hk:∀ s1 Q,2 ≤ vs.length → (∀ b o,s.heap.get? b = some o → s1.heap.get? b = some o) → Q κ s1 → wpAny (model prog w) A.in1.in1 (keyKind' vs.toArray) Q (fun _ _ => False) s1)
  (hc:∀ i j s1 C,i < vs.length → j < vs.length → (∀ b o,s.heap.get? b = some o → s1.heap.get? b = some o) → C (byKey O key i j) s1 → kas_ask prog w A.in1.in1 κ vs i j C s1)
  (k:∀ (h1:Heap) p x c h',(∀ b o,s.heap.get? b = some o → h1.get? b = some o) → Ordr vs.length p → Rises O key p vs.length → h1.objs.size ≤ x → (∀ b o,h1.get? b = some o → h'.get? b = some o) → h'.get? x = some (seqObj "list" (outOf vs p).toArray c) → Q (.ref x) { s with heap:=h' }) :
  wpAny (model prog w) A (call (.builtin "sorted") [.ref l]) Q E s:=by
 refine call_function_entry kind_sorted plain_sorted entry_sorted (args_sorted1 _) ?_
 unfold Builtin.«sorted»
 refine wpAny_bind (m:=checkCount "sorted" 1 1 _) (wpAny_pure ?_)
 have hz':vs.length ≤ sizeLine:=by rw [sizeLine_eq]; omega
 refine wpAny_bind (wpAny_collect_seq l hT hg hcl hd (fun h1 kp0 => wpAny_bind (wpAny_newList ?_ hz')) (by simpa using hz'))
 have kp2:∀ b o,h1.get? b = some o → (h1.push (seqObj "list" vs.toArray 0)).get? b = some o:=fun b o e => by
  rw [Heap.get?_push_ne _ _ _ (Nat.ne_of_lt (Heap.lt_size e))]; exact e
 have kp1:∀ b o,s.heap.get? b = some o → (h1.push (seqObj "list" vs.toArray 0)).get? b = some o:=fun b o e => kp2 b o (kp0 b o e)
 have new:(h1.push (seqObj "list" vs.toArray 0)).get? h1.objs.size = some (seqObj "list" vs.toArray 0):=Heap.get?_push_size _ rfl
 have old1:h1.get? h1.objs.size = none:=Heap.get?_none_of_le (Nat.le_refl _)
 have old:s.heap.get? h1.objs.size = none:=by
  cases e:s.heap.get? h1.objs.size with
  | none => rfl
  | some u => rw [kp0 _ _ e] at old1; cases old1
 show wpAny _ _ _ _ _ { s with heap:=h1.push (seqObj "list" vs.toArray 0) }
 have go:∀ (t:Shared),Stays h1.objs.size { s with heap:=h1.push (seqObj "list" vs.toArray 0) } t → ∀ b o,s.heap.get? b = some o → t.heap.get? b = some o:=fun t ht b o e => ht b o (fun q => by rw [q,old] at e; cases e) (kp1 b o e)
 have go1:∀ (t:Shared),Stays h1.objs.size { s with heap:=h1.push (seqObj "list" vs.toArray 0) } t → ∀ b o,h1.get? b = some o → t.heap.get? b = some o:=fun t ht b o e => ht b o (fun q => by rw [q,old1] at e; cases e) (kp2 b o e)
 refine wpAny_bind (wpAny_holding (wpAny_call_entry slot_list_sort ⟨_,new,rfl⟩ entry_list_sort ?_ (args_list_sort _)))
 refine srt_in (κ:=κ) (key:=key) new hz (fun t Q' two ht q => hk t Q' two (go t ht) q) (fun i j t C hi hj ht q => hc i j t C hi hj (go t ht) q) fun p c h' hp hr hs hx => ?_
 refine ⟨_,rfl,wpAny_pure ⟨_,rfl,?_⟩⟩
 exact k h1 p _ c h' kp0 hp hr (Nat.le_refl _) (fun b o e => go1 { s with heap:=h' } hs b o e) hx
end
noncomputable def ordI:KeyOrd where
 α:=Int
 blt a b:=decide (a < b)
 irrefl a:=by simp
 trans a b c h1 h2:=by simp only [decide_eq_true_eq] at *; omega
 negTrans a b c h:=by simp only [decide_eq_true_eq] at *; omega
 total a b h1 h2:=by simp only [decide_eq_false_iff_not] at *; omega
noncomputable def sortI (ns:List Int):List Int:=ns.mergeSort fun a b => decide (a ≤ b)
theorem sortI_perm (ns:List Int):(sortI ns).Perm ns:=List.mergeSort_perm _ _
theorem sortI_pw (ns:List Int):(sortI ns).Pairwise fun a b => a ≤ b:=by
 have:=List.pairwise_mergeSort (le:=fun a b:Int => decide (a ≤ b)) (fun a b c h1 h2 => by simp only [decide_eq_true_eq] at *; omega) (fun a b => by simp only [Bool.or_eq_true,decide_eq_true_eq]; omega) ns
 exact this.imp fun h => by simpa using h
theorem sortI_eq {ns ms:List Int} (h:ms.Perm ns) (hs:ms.Pairwise fun a b => a ≤ b):ms = sortI ns :=
 List.Perm.eq_of_pairwise (le:=fun a b:Int => a ≤ b) (fun a b _ _ h1 h2 => by omega) hs (sortI_pw ns) (h.trans (sortI_perm ns).symm)
section
variable {X:Cx} {pins:List (Addr × Obj)} {s:Shared} {σ:St} {H:Hp} {M:DH}
theorem map_rangeI (ns:List Int):(List.range ns.length).map (fun i => ns.getD i 0) = ns:=by
 apply List.ext_getElem (by simp)
 intro i h1 h2
 simp [List.getElem?_eq_getElem h2]
theorem int_at {K:PySem.W.Frag} {ns:List Int} {vs:List V} {us:List Value} (rl:RepL K M H (ns.map D.int) vs) (rv:Vals vs us) {i:Nat} (hi:i < ns.length):∃ t,us[i]? = some (.int ns[i] t):=by
 obtain ⟨v,g,r⟩:=rl.get (i:=i) (d:=D.int ns[i]) (by simp [hi])
 obtain ⟨u',g',r'⟩:=rv.get g
 simp only [Rep] at r
 subst r
 obtain ⟨t,rfl⟩:=r'
 exact ⟨t,g'⟩
theorem repI_pick {K:PySem.W.Frag} {ns:List Int} {vs:List V} (rl:RepL K M H (ns.map D.int) vs):∀ {l:List Nat},(∀ i ∈ l,i < ns.length) → RepL K M H ((l.map fun i => ns.getD i 0).map D.int) (l.map fun i => vs.getD i .non)
 | [],_ => rfl
 | i :: l,h => by
  have hi:=h i (.head _)
  obtain ⟨v,g,r⟩:=rl.get (i:=i) (d:=D.int ns[i]) (by simp [hi])
  simp only [List.map_cons,RepL]
  refine ⟨v,_,?_,?_,repI_pick rl fun j hj => h j (.tail _ hj)⟩
  ·rw [List.getD_eq_getElem?_getD,g]; rfl
  ·rw [List.getD_eq_getElem?_getD,List.getElem?_eq_getElem hi]; exact r
theorem ints_are {us:List Value}:∀ {ns:List Int},us.length = ns.length → (∀ i (hi:i < ns.length),∃ t,us[i]? = some (.int ns[i] t)) → IntsAre us ns:=by
 induction us with
 | nil => intro ns h _; cases ns with | nil => exact .nil | cons n ns => cases h
 | cons u us ih =>
  intro ns h hh
  cases ns with
  | nil => cases h
  | cons n ns =>
   obtain ⟨t,e⟩:=hh 0 (by simp)
   have e':u = .int n t:=by simpa using e
   subst e'
   exact .cons _ _ (ih (by simpa using h) fun i hi => by
    obtain ⟨t2,e2⟩:=hh (i + 1) (by simpa using hi)
    exact ⟨t2,by rw [List.getElem?_cons_succ] at e2; exact e2⟩)
theorem run_ints (I:Inv X pins σ H s) (hr:HR X.K M H) {ns:List Int} (h64:ns.length < 64) {l:Addr} {T:String} {o:Obj} {n:Nat} {vs:List V} {its:List Value} (rl:RepL X.K M H (ns.map D.int) vs) (rv:Vals vs its) (hzv:vs.length ≤ sizeLine)
  (hT:T = "list" ∨ T = "tuple") (hg:s.heap.get? l = some o) (hcl:o.cls = .type T) (hd:o.data = .seq its.toArray n) {Q:VK}
  (k:∀ w H',Ext M H M H' → HR X.K M H' → Rep X.K M H' (.lst ((sortI ns).map D.int)) w → Q w H'):wpAny (model X.prog X.w) X.A (call (.builtin "sorted") [.ref l]) (EP X pins σ Q) X.xe s:=by
 have hn:ns.length = its.length:=by rw [← rv.length,← rl.length,List.length_map]
 have at_:=fun i (hi:i < ns.length) => int_at rl rv hi
 have key:∀ i (hi:i < ns.length),ns.getD i 0 = ns[i]:=fun i hi => by rw [List.getD_eq_getElem?_getD,List.getElem?_eq_getElem hi]; rfl
 refine srt_callS (O:=ordI) (key:=fun i => ns.getD i 0) (κ:=oneType') hT hg hcl hd (by omega) (fun s1 Q' two kp q => ?_) (fun i j s1 C hi hj kp q => ?_) fun h1 p x c h' kp0 hp hs hx kp ho => ?_
 ·have ia:=ints_are hn.symm at_
  match its,two,ia with
  | v1 :: v2 :: r,_,ia => rw [keyKind_ints ia]; exact wpAny_pure q
 ·rw [← hn] at hi hj
  obtain ⟨t,g⟩:=at_ i hi
  obtain ⟨u,g'⟩:=at_ j hj
  show wpAny _ _ (keyLt' _ _ _) _ _ _
  rw [getD_of g,getD_of g']
  refine kat_lt_int ?_
  have q':C (decide (ns.getD i 0 < ns.getD j 0)) s1:=q
  rwa [key i hi,key j hj] at q'
 ·have hlt:∀ i ∈ p.toList,i < ns.length:=fun i hi => by rw [hn]; exact List.mem_range.mp (hp.mem_iff.mp hi)
  have hlv:vs.length = its.length:=rv.length
  have lo:(p.toList.map fun i => vs.getD i .non).length = its.length:=by rw [List.length_map,Array.length_toList]; exact hp.size
  have I1:Inv X pins σ H { s with heap:=h1,toks:=s.toks }:=I.kept kp0
  have I2:=I1.laid (t':=s.toks) (o:=.lst (p.toList.map fun i => vs.getD i .non)) kp hx (show ObjOk X.prog X.w _ h' x (.lst _) from ⟨by rw [lo,← hlv]; exact hzv,outOf its p,c,vals_pick rv (fun i hi => by rw [hlv,← hn]; exact hlt i hi),ho⟩)
  have es:(p.toList.map fun i => ns.getD i 0) = sortI ns:=by
   have hp':p.toList.Perm (List.range ns.length):=by rw [hn]; exact hp
   have hm:=hp'.map fun i => ns.getD i 0
   rw [map_rangeI] at hm
   refine sortI_eq hm ?_
   rw [List.pairwise_iff_getElem]
   intro i j hi hj hij
   have sz:p.size = its.length:=hp.size
   rw [List.length_map,Array.length_toList] at hi hj
   have:=hs i j (Nat.le_of_lt hij) (by omega)
   have e1:kp_ p i = p.toList[i]'(by simpa using hi):=by simp [kp_,Array.getD,hi]
   have e2:kp_ p j = p.toList[j]'(by simpa using hj):=by simp [kp_,Array.getD,hj]
   have g:ns.getD (kp_ p i) 0 ≤ ns.getD (kp_ p j) 0:=by
    have z:decide (ns.getD (kp_ p j) 0 < ns.getD (kp_ p i) 0) = false:=this
    simp only [decide_eq_false_iff_not] at z
    omega
   rw [e1,e2] at g
   simpa using g
  refine ⟨.ref x,_,I2,rfl,freshL hr (I1.hok.fresh hx) (repI_pick rl hlt) fun w H' a b c => ?_⟩
  rw [es] at c
  exact k w H' a b c
theorem run_pairs (I:Inv X pins σ H s) (hr:HR X.K M H) {ps:List (Int × Int)} (h64:ps.length < 64) {l:Addr} {T:String} {o:Obj} {n:Nat} {vs:List V} {its:List Value} (rl:RepL X.K M H (ps.map pD) vs) (rv:Vals vs its) (hzv:vs.length ≤ sizeLine)
  (hT:T = "list" ∨ T = "tuple") (hg:s.heap.get? l = some o) (hcl:o.cls = .type T) (hd:o.data = .seq its.toArray n) {Q:VK}
  (k:∀ w H',Ext M H M H' → HR X.K M H' → Rep X.K M H' (.lst ((sortP ps).map pD)) w → Q w H'):wpAny (model X.prog X.w) X.A (call (.builtin "sorted") [.ref l]) (EP X pins σ Q) X.xe s:=by
 have hn:ps.length = its.length:=by rw [← rv.length,← rl.length,List.length_map]
 have at_:=fun i (hi:i < ps.length) => prs_at I rl rv hi
 have key:∀ i (hi:i < ps.length),ps.getD i (0,0) = ps[i]:=fun i hi => by rw [List.getD_eq_getElem?_getD,List.getElem?_eq_getElem hi]; rfl
 refine srt_callS (O:=ordP) (key:=fun i => ps.getD i (0,0)) (κ:=tuples' true) hT hg hcl hd (by omega) (fun s1 Q' two kp q => ?_) (fun i j s1 C hi hj kp q => ?_) fun h1 p x c h' kp0 hp hs hx kp ho => ?_
 ·obtain ⟨fs,t1,t2,t3⟩:=tups_of (h:=s1.heap) hn.symm fun i hi => let ⟨a,t,u,g,z⟩:=at_ i hi; ⟨a,t,u,g,isTup_kept z kp⟩
  exact kat_kind (T:=.type "int") t1 (by omega) (fun f hf => by obtain ⟨i,t,rfl⟩:=t3 f hf; exact Looks.of_pure rfl) rfl q
 ·rw [← hn] at hi hj
  obtain ⟨a,t,u,g,z⟩:=at_ i hi
  obtain ⟨b,t',u',g',z'⟩:=at_ j hj
  show wpAny _ _ (keyLt' _ _ _) _ _ _
  rw [getD_of g,getD_of g']
  refine ask_pair (isTup_kept z kp) (isTup_kept z' kp) ?_
  have q':C (ltP (ps.getD i (0,0)) (ps.getD j (0,0))) s1:=q
  rwa [key i hi,key j hj] at q'
 ·have hlt:∀ i ∈ p.toList,i < ps.length:=fun i hi => by rw [hn]; exact List.mem_range.mp (hp.mem_iff.mp hi)
  have hlv:vs.length = its.length:=rv.length
  have lo:(p.toList.map fun i => vs.getD i .non).length = its.length:=by rw [List.length_map,Array.length_toList]; exact hp.size
  have I1:Inv X pins σ H { s with heap:=h1,toks:=s.toks }:=I.kept kp0
  have I2:=I1.laid (t':=s.toks) (o:=.lst (p.toList.map fun i => vs.getD i .non)) kp hx (show ObjOk X.prog X.w _ h' x (.lst _) from ⟨by rw [lo,← hlv]; exact hzv,outOf its p,c,vals_pick rv (fun i hi => by rw [hlv,← hn]; exact hlt i hi),ho⟩)
  have es:(p.toList.map fun i => ps.getD i (0,0)) = sortP ps:=by
   have hp':p.toList.Perm (List.range ps.length):=by rw [hn]; exact hp
   have hm:=hp'.map fun i => ps.getD i (0,0)
   rw [map_range] at hm
   refine sortP_eq hm ?_
   rw [List.pairwise_iff_getElem]
   intro i j hi hj hij
   have sz:p.size = its.length:=hp.size
   rw [List.length_map,Array.length_toList] at hi hj
   have:=hs i j (Nat.le_of_lt hij) (by omega)
   have e1:kp_ p i = p.toList[i]'(by simpa using hi):=by simp [kp_,Array.getD,hi]
   have e2:kp_ p j = p.toList[j]'(by simpa using hj):=by simp [kp_,Array.getD,hj]
   have g:leP (ps.getD (kp_ p i) (0,0)) (ps.getD (kp_ p j) (0,0)) = true:=by
    have z:ltP (ps.getD (kp_ p j) (0,0)) (ps.getD (kp_ p i) (0,0)) = false:=this
    simp only [leP,z,Bool.not_false]
   rw [e1,e2] at g
   simpa using g
  refine ⟨.ref x,_,I2,rfl,freshL hr (I1.hok.fresh hx) (repL_pick rl hlt) fun w H' a b c => ?_⟩
  rw [es] at c
  exact k w H' a b c
noncomputable def srtOf (ds:List D):Option D:=if ds.length < 64 then (match prsOf ds with | some ps => some (.lst ((sortP ps).map pD)) | none => (intsOf ds).map fun ns => .lst ((sortI ns).map D.int)) else none
noncomputable def sortE:D → Option D
 | .lst ds => srtOf ds
 | .tup ds => srtOf ds
 | _ => none
theorem intsOf_some:∀ {ds:List D} {ns:List Int},intsOf ds = some ns → ds = ns.map D.int:=by
 intro ds
 induction ds using intsOf.induct with
 | case1 => intro ns e; cases e; rfl
 | case2 i ds ih =>
  intro ns e
  simp only [intsOf] at e
  cases q:intsOf ds with
  | none => rw [q] at e; cases e
  | some qs => rw [q] at e; cases e; rw [ih q]; rfl
 | case3 ds h1 h2 => intro ns e; rw [intsOf] at e <;> simp_all
theorem srt_go (I:Inv X pins σ H s) (hr:HR X.K M H) {ds:List D} {dz:D} (e:srtOf ds = some dz) {l:Addr} {T:String} {o:Obj} {n:Nat} {vs:List V} {its:List Value} (rl:RepL X.K M H ds vs) (rv:Vals vs its) (hzv:vs.length ≤ sizeLine)
  (hT:T = "list" ∨ T = "tuple") (hg:s.heap.get? l = some o) (hcl:o.cls = .type T) (hd:o.data = .seq its.toArray n) {Q:VK}
  (k:∀ w H',Ext M H M H' → HR X.K M H' → Rep X.K M H' dz w → Q w H'):wpAny (model X.prog X.w) X.A (call (.builtin "sorted") [.ref l]) (EP X pins σ Q) X.xe s:=by
 unfold srtOf at e
 split at e
 ·rename_i h64
  split at e
  ·rename_i ps q
   cases e
   have:=prsOf_some q
   subst this
   exact run_pairs I hr (by simpa using h64) rl rv hzv hT hg hcl hd k
  ·cases q:intsOf ds with
   | none => rw [q] at e; cases e
   | some ns =>
    rw [q] at e; cases e
    have:=intsOf_some q
    subst this
    exact run_ints I hr (by simpa using h64) rl rv hzv hT hg hcl hd k
 ·cases e
theorem c_sortE:CallRd X (.builtin "sorted") (one1 sortE):=by
 intro pins s σ H M xs us ds dz Q I hr rv rp e k
 obtain ⟨d,rfl,e0⟩:=one1_some e
 clear e
 obtain ⟨v,rfl,r⟩:=pair1 rp
 obtain ⟨u,rfl,ru⟩:=Vals.one rv
 cases d with
 | lst ds =>
  obtain ⟨l,vs,rfl,sq,rl⟩:=r
  cases ru
  obtain ⟨its,rv,pl,hz⟩:=I.list (SqL.of sq)
  obtain ⟨o,ho,hc,n,hd⟩:=pl.isList
  exact srt_go I hr e0 rl rv hz (.inl rfl) ho hc hd fun w H' a b c => k w H' a b c
 | tup ds =>
  obtain ⟨l,vs,rfl,sq,rl⟩:=r
  cases ru
  obtain ⟨its,rv,tp,hz⟩:=I.tuple sq
  obtain ⟨o,ho,hc,n,hd⟩:=tp
  exact srt_go I hr e0 rl rv hz (.inr rfl) ho hc hd fun w H' a b c => k w H' a b c
 | _ => cases e0
theorem sortE_l {ps:List (Int × Int)} (h:ps.length < 64):sortE (.lst (ps.map pD)) = some (.lst ((sortP ps).map pD)):=by simp [sortE,srtOf,prsOf_map,h]
theorem sortE_t {ps:List (Int × Int)} (h:ps.length < 64):sortE (.tup (ps.map pD)) = some (.lst ((sortP ps).map pD)):=by simp [sortE,srtOf,prsOf_map,h]
theorem sortE_i {ns:List Int} (h:ns.length < 64):sortE (.lst (ns.map D.int)) = some (.lst ((sortI ns).map D.int)):=by
 cases ns with
 | nil => simp [sortE,srtOf,prsOf,sortP,sortI]
 | cons n ns => simp [sortE,srtOf,prsOf,intsOf_map,intsOf]; simp at h; omega
end
end L2

set_option Elab.async false
set_option linter.all false
set_option maxRecDepth 100000
namespace L2
open PySem PySem.Spec PyProof.Rows
/-! ### list(range(n)) -/
noncomputable def tLR (ta:TA):TE:=fun σ H Q => ta σ H fun vs H1 => ∃ j:Int,vs = [.int j] ∧ 0 ≤ j ∧ j ≤ 1000000 ∧ ∀ l,H1 l = none → Q (.ref l) (upd H1 l (.lst ((List.range j.toNat).map fun (k:Nat) => V.int (0 + (k:Int)))))
theorem vals_range:∀ {n m:Nat} {us:List Value},us.length = n → (∀ (j:Nat) (v:Value),us[j]? = some v → ∃ t,v = .int (((m + j:Nat):Int)) t) → Vals ((List.range' m n).map fun (k:Nat) => V.int (0 + (k:Int))) us
 | 0,m,us,h,_ => by
  have:us = []:=List.eq_nil_of_length_eq_zero h
  subst this; exact .nil
 | n + 1,m,[],h,_ => by cases h
 | n + 1,m,u :: us,h,hh => by
  rw [List.range'_succ,List.map_cons]
  obtain ⟨t,e⟩:=hh 0 u rfl
  subst e
  refine .cons ⟨t,by rw [Int.zero_add]; rfl⟩ (vals_range (by simpa using h) fun j v hv => ?_)
  obtain ⟨t,e⟩:=hh (j + 1) v (by simpa using hv)
  exact ⟨t,by rw [e,show m + (j + 1) = m + 1 + j by omega]⟩
section
variable {X:Cx} {a:Expr} {ta:TA} {p p2 pos pos2:Pos}
theorem pe_listRange (hcalm:X.calm = true) (hg:Gl X "list") (hm:X.mg "list" = none) (hg2:Gl X "range") (hm2:X.mg "range" = none) (ha:PA X [a] ta) (hs:starEach [a] X.env = [(false,eval a X.env)]:=by rfl)
  (hs2:starEach [.Call (.Name "range" p2) [a] [] pos2] X.env = [(false,eval (.Call (.Name "range" p2) [a] [] pos2) X.env)]:=by rfl):PE X (.Call (.Name "list" p) [.Call (.Name "range" p2) [a] [] pos2] [] pos) (tLR ta):=by
 intro pins s σ H Q I h
 refine wpAny_Call_Name_kw (ld_blt I hg hm boot_list ?_)
 refine PyProof.Rows.callWith_type1 ?_ hs2 rfl
 rw [hs2]
 show wpAny _ _ (spliced [(false,eval (.Call (.Name "range" p2) [a] [] pos2) X.env)]) _ _ s
 refine Calls.spliced_cons (Call_ (ld_blt I hg2 hm2 boot_range (PyProof.Rows.callWith_type1 (thn (ha pos2 pins s σ H _ I h) fun us s1 ⟨vs,H1,I1,r1,q1⟩ => ?_) hs rfl)))
 obtain ⟨j,e,q1,q2,q⟩:=q1
 subst e
 cases r1 with
 | cons r rr =>
  cases rr
  obtain ⟨t,rfl⟩:=r
  refine call_range_1 (Calls.spliced_nil ?_)
  refine call_list_range (I.ok.hd hcalm) (IsRange.new ..) (small_one (by omega) (by omega) (by omega) (by omega)) (n:=j.toNat) (by rw [rangeSize_one]; split <;> omega) (by omega) fun h' tk acc' c' kp e items => ?_
  have I2:Inv X pins σ H1 { s1 with heap:=s1.heap.push { cls:=.type "range",data:=.fields #[.int 0 s1.toks,.int j t,.int 1 (s1.toks + 1)] },toks:=s1.toks + 1 + 1 }:=I1.kept fun b o e => Heap.get?_push_of_some _ e
  have hv:Vals ((List.range j.toNat).map fun (k:Nat) => V.int (0 + (k:Int))) acc'.toList:=by
   rw [List.range_eq_range']
   refine vals_range (by simpa using items.1) fun i v hv => ?_
   obtain ⟨t,e⟩:=items.2 i v (by simpa using hv)
   exact ⟨t,by rw [e]; congr 1; omega⟩
  refine ⟨.ref _,_,I2.laid (t':=tk) kp (Nat.le_refl _) (show ObjOk X.prog X.w _ h' _ (.lst _) from ⟨?_,acc'.toList,c',hv,e⟩),rfl,q _ (I2.hok.fresh (Nat.le_refl _))⟩
  rw [List.length_map,List.length_range,sizeLine_eq]; omega
noncomputable def dLR (ta:TAd):TEd:=fun Δ M Q => ta Δ M fun ds M1 => ∃ j:Int,ds = [.int j] ∧ 0 ≤ j ∧ j ≤ 1000000 ∧ Q (.lst (rngD 0 j.toNat)) M1
theorem rep_ints {K:PySem.W.Frag} {M:DH} {H:Hp}:∀ (l:List Nat),RepL K M H (l.map fun (k:Nat) => D.int (0 + (k:Int))) (l.map fun (k:Nat) => V.int (0 + (k:Int)))
 | [] => rfl
 | k :: l => by simp only [List.map_cons,RepL]; exact ⟨_,_,rfl,by simp [Rep],rep_ints l⟩
theorem d_listRange {ta:TAd} (hcalm:X.calm = true) (hg:Gl X "list") (hm:X.mg "list" = none) (hg2:Gl X "range") (hm2:X.mg "range" = none) (ha:PAd X [a] ta) (hs:starEach [a] X.env = [(false,eval a X.env)]:=by rfl)
  (hs2:starEach [.Call (.Name "range" p2) [a] [] pos2] X.env = [(false,eval (.Call (.Name "range" p2) [a] [] pos2) X.env)]:=by rfl):PEd X (.Call (.Name "list" p) [.Call (.Name "range" p2) [a] [] pos2] [] pos) (dLR ta) :=
 (pe_listRange hcalm hg hm hg2 hm2 ha hs hs2).conv fun σ H Q ⟨Δ,M,R,sr,hr,q,k⟩ => ⟨Δ,M,_,sr,hr,q,fun ds M1 vs H1 ⟨j,e,h0,h1,q2⟩ e1 hr1 rp => by
  subst e
  obtain ⟨v,ev,rv1⟩:=rp.one
  have ev1:v = .int j:=by simpa only [Rep] using rv1
  subst ev1; subst ev
  exact ⟨j,rfl,h0,h1,fun l hl => freshL hr1 hl (rep_ints _) fun w H' a b c => k _ M1 w H' q2 (e1.trans a) b c⟩⟩
theorem q_listRange {ta:TAd} (hcalm:X.calm = true) (hg:Gl X "list") (hm:X.mg "list" = none) (hg2:Gl X "range") (hm2:X.mg "range" = none) (ha:QAd X [a] ta) (hs:starEach [a] X.env = [(false,eval a X.env)]:=by rfl)
  (hs2:starEach [.Call (.Name "range" p2) [a] [] pos2] X.env = [(false,eval (.Call (.Name "range" p2) [a] [] pos2) X.env)]:=by rfl):QEd X (.Call (.Name "list" p) [.Call (.Name "range" p2) [a] [] pos2] [] pos) (dLR ta):=by
 simp only [QEd.eq,QAd.eq] at *
 exact d_listRange hcalm hg hm hg2 hm2 ha hs hs2
end
end L2

set_option Elab.async false
set_option linter.all false
set_option maxRecDepth 100000
namespace L2
open PySem PySem.Spec PyProof.Rows
/-! ### a < b < c < d -/
section
variable {X:Cx} {a b c e:Expr} {pos:Pos}
noncomputable def tChain3 (r r' r'':R2) (ta tb tc te:TE):TE:=fun σ H Q => ta σ H fun x H1 => tb σ H1 fun y H2 => r x y H2 fun z H3 => ∃ k,z = .bl k ∧
 (if k = true then tc σ H3 fun w' H4 => r' y w' H4 fun z' H5 => ∃ k',z' = .bl k' ∧ (if k' = true then te σ H5 fun u' H6 => r'' w' u' H6 Q else Q (.bl false) H5) else Q (.bl false) H3)
theorem pe_chain3 {ta tb tc te:TE} {op op' op'':CmpOp} {r r' r'':R2} (ho:OpR X (compareOp op) r) (ho':OpR X (compareOp op') r') (ho'':OpR X (compareOp op'') r'') (ha:PE X a ta) (hb:PE X b tb) (hc:PE X c tc) (he:PE X e te)
  (hm:lastMarks [op,op',op''] [b,c,e] = false:=by with_unfolding_all rfl):PE X (.Compare a [op,op',op''] [b,c,e] pos) (tChain3 r r' r'' ta tb tc te):=by
 intro pins s σ H Q I h
 refine Compare_chain (thn (ha pins s σ H _ I h) fun v s1 ⟨x,H1,I1,r1,q1⟩ => chain_link (thn (hb pins s1 σ H1 _ I1 q1) fun u s2 ⟨y,H2,I2,r2,q2⟩ =>
  thn (ho pins s2 σ H2 x y v u _ I2 r1 r2 q2) fun d s3 ⟨z,H3,I3,r3,k,e,q3⟩ => ?_)) hm
 subst e
 cases r3
 refine wpAny_truthy_bool ?_
 cases k with
 | false => exact ite_ff ⟨.bl false,H3,I3,rfl,q3⟩
 | true =>
  refine ite_tt (chain_link (thn (hc pins s3 σ H3 _ I3 q3) fun w' s4 ⟨z',H4,I4,r4,q4⟩ => thn (ho' pins s4 σ H4 y z' u w' _ I4 r2 r4 q4) fun d' s5 ⟨z5,H5,I5,r5,k5,e5,q5⟩ => ?_))
  subst e5
  cases r5
  refine wpAny_truthy_bool ?_
  cases k5 with
  | false => exact ite_ff ⟨.bl false,H5,I5,rfl,q5⟩
  | true => exact ite_tt (chain_last (thn (he pins s5 σ H5 _ I5 q5) fun w6 s6 ⟨z6,H6,I6,r6,q6⟩ => ho'' pins s6 σ H6 z' z6 w' w6 Q I6 r4 r6 q6))
noncomputable def dChain3 (r r' r'':D → D → Option D) (ta tb tc te:TEd):TEd:=fun Δ M Q => ta Δ M fun x M1 => tb Δ M1 fun y M2 => ∃ k,r (rdM M2 x) (rdM M2 y) = some (.bl k) ∧ if k = true then tc Δ M2 fun z M3 => ∃ k',r' (rdM M3 y) (rdM M3 z) = some (.bl k') ∧ (if k' = true then te Δ M3 fun u M4 => ∃ w,r'' (rdM M4 z) (rdM M4 u) = some w ∧ Q w M4 else Q (.bl false) M3) else Q (.bl false) M2
theorem d_chain3 {ta tb tc te:TEd} {op op' op'':CmpOp} {r r' r'':D → D → Option D} (ho:OpRd X (compareOp op) r) (ho':OpRd X (compareOp op') r') (ho'':OpRd X (compareOp op'') r'') (ha:PEd X a ta) (hb:PEd X b tb) (hc:PEd X c tc) (he:PEd X e te)
  (hm:lastMarks [op,op',op''] [b,c,e] = false:=by with_unfolding_all rfl):PEd X (.Compare a [op,op',op''] [b,c,e] pos) (dChain3 r r' r'' ta tb tc te):=by
 refine (pe_chain3 ho.v ho'.v ho''.v ha hb hc he hm).conv fun σ H Q h => ?_
 obtain ⟨Δ,M,R,sr,hr,q,k⟩:=h
 refine ⟨Δ,M,_,sr,hr,q,fun x M1 v H1 q1 e1 hr1 rv => ⟨Δ,M1,_,sr.ext e1,hr1,q1,fun y M2 u H2 ⟨b,eb,q2⟩ e2 hr2 ru => ⟨_,_,.bl b,M2,hr2,(rv.ext e2).rd hr2,ru.rd hr2,eb,fun w H3 e3 hr3 rw_ =>
  ⟨b,by simpa only [Rep] using rw_,?_⟩⟩⟩⟩
 cases b with
 | true =>
  simp only [if_true] at q2 ⊢
  refine ⟨Δ,M2,_,(sr.ext (e1.trans e2)).ext e3,hr3,q2,fun z M4 w4 H4 ⟨b4,ed,q4⟩ e4 hr4 r4 => ⟨_,_,.bl b4,M4,hr4,((ru.ext e3).ext e4).rd hr4,r4.rd hr4,ed,fun w5 H5 e5 hr5 r5 => ⟨b4,by simpa only [Rep] using r5,?_⟩⟩⟩
  cases b4 with
  | true =>
   simp only [if_true] at q4 ⊢
   exact ⟨Δ,M4,_,(((sr.ext (e1.trans e2)).ext e3).ext e4).ext e5,hr5,q4,fun z6 M6 w6 H6 ⟨d6,ed6,q6⟩ e6 hr6 r6 => ⟨_,_,d6,M6,hr6,((r4.ext e5).ext e6).rd hr6,r6.rd hr6,ed6,fun w7 H7 e7 hr7 r7 => k d6 M6 w7 H7 q6 ((((((e1.trans e2).trans e3).trans e4).trans e5).trans e6).trans e7) hr7 r7⟩⟩
  | false =>
   simp only [Bool.false_eq_true,if_false] at q4 ⊢
   exact k _ M4 _ H5 q4 ((((e1.trans e2).trans e3).trans e4).trans e5) hr5 (by simp [Rep])
 | false =>
  simp only [Bool.false_eq_true,if_false] at q2 ⊢
  exact k _ M2 _ H3 q2 ((e1.trans e2).trans e3) hr3 (by simp [Rep])
theorem q_chain3 {ta tb tc te:TEd} {op op' op'':CmpOp} {r r' r'':D → D → Option D} (ho:OpRd X (compareOp op) r) (ho':OpRd X (compareOp op') r') (ho'':OpRd X (compareOp op'') r'') (ha:QEd X a ta) (hb:QEd X b tb) (hc:QEd X c tc) (he:QEd X e te)
  (hm:lastMarks [op,op',op''] [b,c,e] = false:=by with_unfolding_all rfl):QEd X (.Compare a [op,op',op''] [b,c,e] pos) (dChain3 r r' r'' ta tb tc te):=by
 simp only [QEd.eq] at *
 exact d_chain3 ho ho' ho'' ha hb hc he hm
end
end L2

set_option Elab.async false
set_option linter.all false
set_option maxRecDepth 100000
namespace L2
open PySem PySem.Spec PyProof.Rows
section
variable {X:Cx} {pins:List (Addr × Obj)} {σ σ':St} {H2 H':Hp} {s2 s':Shared} {scope:Scope} {cl:List (Str × Addr)} {ms:List Bool} {extra:List Str} {elt t0 i0 t1 i1:Expr} {f0 f1:List Expr} {g0 g:TG} {tc0 tc:TT} {te:TE} {wi:TI} {pos:Pos}
theorem ps_setLc2 {i:Nat} {x:Str} {spos pos':Pos} (hN:X.N.Nodup) (hix:X.N[i]? = some x) (hx:X.env.scope.names.lookup x = some .local)
  (hsw:swapsWith (twoE elt t0 i0 t1 i1 f0 f1 scope pos) (some (.Name x pos')) spos.line X.env = pure true)
  (S:CompSc X scope cl ms extra) (hcalm:X.calm = true) {w0:TI} (hi:PI X t0 i0 w0)
  (hg0:∀ C s H ex,PG (cxComp X scope cl (X.N ++ extra) C s H ex) t0 g0) (hif0:∀ C s H ex,PIf (cxComp X scope cl (X.N ++ extra) C s H ex) f0 tc0) (hi1:∀ C s H ex,PI (cxComp X scope cl (X.N ++ extra) C s H ex) t1 i1 wi) (hg:∀ C s H ex,PG (cxComp X scope cl (X.N ++ extra) C s H ex) t1 g) (hif:∀ C s H ex,PIf (cxComp X scope cl (X.N ++ extra) C s H ex) f1 tc) (he:∀ C s H ex,PE (cxComp X scope cl (X.N ++ extra) C s H ex) elt te)
  (hs:∀ x,foldedSetIterable i0 X.env x = pure x:=by intro _; rfl) (hs1:∀ C x,foldedSetIterable i1 (compEnvC scope cl C X.env) x = pure x:=by intro _ _; rfl):PS X (.Assign [.Name x pos'] (twoE elt t0 i0 t1 i1 f0 f1 scope pos) spos) (tAsg (tLc2 ms extra.length w0 g0 tc0 wi g tc te) (gName i)):=by
 intro pins s σ H D I h
 rw [exec_Assign_Name_used _ _ _ _ hsw]
 refine wpAny_bind (wpAny_standAt (wpAny_bind ?_))
 show wpAny _ _ (do let _ ← comprehension (twoE elt t0 i0 t1 i1 f0 f1 scope pos) scope X.env _ (newList []) false (eval i0 X.env) (some (assign (.Name x pos') X.env))) _ _ s
 refine wpAny_bind (wpAny_mono (wpAny_comprehension_free (use:=some (assign (.Name x pos') X.env)) (Q:=fun _ s' => SP X pins D .next s') rfl hs S.clos S.kind S.names
  (thn (hi pins s σ H _ I h) fun v s1 h1 => thn h1 fun itv s2 h2 => ?_)) (fun _ s' hq => wpAny_pure (wpAny_pure hq)) fun _ _ e => e)
 obtain ⟨it,fp,tn,J,H2,e,I2,T,st2,f2,W,Z,⟨m0,w0⟩,turn,q⟩:=h2
 subst e
 refine comp_core2 S hcalm hg0 hif0 hi1 hg hif hs1 he I2 T st2 f2 w0 turn (RR:=fun acc C => compPost (model X.prog X.w) X.A X.xe (some (assign (.Name x pos') X.env)) (fun _ s' => SP X pins D .next s') acc C) ?_
 intro s' ys its n σ' H' I' rv hz hZ
 obtain ⟨m,hm,_⟩:=I'.loc
 obtain ⟨I3,hD⟩:=comp_back I2 f2 I' rv hz (Heap.SameBut.refl (s2.heap.objs.size + 1) s'.heap)
 have hq:=q ys H' _ hZ hD
 show wpAny _ _ (assign (.Name x pos') X.env (.ref s2.heap.objs.size)) _ _ _
 refine wpAny_assign_Name (store_ok2 I3 hN hix (.inl hx) (v:=.ref s2.heap.objs.size) rfl (fun s4 I4 hsame => ?_) (.inr hx))
 obtain ⟨a,hsb,ha⟩:=hsame
 have hLC:s2.heap.objs.size + 1 ≠ X.env.locals:=Nat.ne_of_gt (Nat.lt_succ_of_lt I2.lt)
 have haC:s2.heap.objs.size + 1 ≠ a:=by
  rcases ha with rfl | ha
  ·exact hLC
  ·intro z
   obtain ⟨v,o,ho,_⟩:=I2.cell x a ha
   exact absurd (Nat.lt_succ_of_lt (Heap.lt_size ho)) (by rw [← z]; exact Nat.lt_irrefl _)
 have hCn:upd H' s2.heap.objs.size (.lst ys) (s2.heap.objs.size + 1) = none:=by rw [upd_ne (Nat.ne_of_gt (Nat.lt_succ_self _))]; exact I'.free
 refine ⟨m,hm.sameBut hsb haC,fun h' hs' => ?_⟩
 refine ⟨_,_,?_,hq⟩
 have hL:∀ b o,b ≠ s2.heap.objs.size + 1 → s4.heap.get? b = some o → h'.get? b = some o:=fun b o hb e => (hs'.2 b hb).trans e
 have I5:=Inv.turned (t':=s4.toks) (h':=h') (it:=s2.heap.objs.size + 1) I4 (fun b o hb e => hL b o hb e) hCn hLC (.inr (Nat.le_succ_of_le I2.sz)) (fun y c e => by
  obtain ⟨v,o,ho,_⟩:=I2.cell y c e
  exact Nat.ne_of_lt (Nat.lt_succ_of_lt (Heap.lt_size ho))) (fun p hp => by
  exact Nat.ne_of_lt (Nat.lt_succ_of_lt (Heap.lt_size (I2.pin p hp).1)))
 exact I5
end
section
variable {X:Cx} {scope:Scope} {cl:List (Str × Addr)} {ms:List Bool} {extra:List Str} {elt t0 i0 t1 i1:Expr} {f0 f1:List Expr} {pos:Pos}
theorem d_setLc2 {i:Nat} {x:Str} {spos pos':Pos} {w0 wi:TId} {g0 g:GD} {tc0 tc:TTd} {te:TEd} (hN:X.N.Nodup) (hix:X.N[i]? = some x) (hx:X.env.scope.names.lookup x = some .local)
  (hsw:swapsWith (twoE elt t0 i0 t1 i1 f0 f1 scope pos) (some (.Name x pos')) spos.line X.env = pure true) (S:CompSc X scope cl ms extra) (hcalm:X.calm = true) (hi:PId X t0 i0 w0) (hg0:PGa X scope cl extra t0 g0)
  (hif0:∀ C s H ex,PIfd (cxComp X scope cl (X.N ++ extra) C s H ex) f0 tc0) (hi1:∀ C s H ex,PId (cxComp X scope cl (X.N ++ extra) C s H ex) t1 i1 wi) (hg:PGa X scope cl extra t1 g) (hif:∀ C s H ex,PIfd (cxComp X scope cl (X.N ++ extra) C s H ex) f1 tc) (he:∀ C s H ex,PEd (cxComp X scope cl (X.N ++ extra) C s H ex) elt te)
  (hs:∀ x,foldedSetIterable i0 X.env x = pure x:=by intro _; rfl) (hs1:∀ C x,foldedSetIterable i1 (compEnvC scope cl C X.env) x = pure x:=by intro _ _; rfl):PSd X (.Assign [.Name x pos'] (twoE elt t0 i0 t1 i1 f0 f1 scope pos) spos) (dSet i (dLc2 ms extra.length w0 g0 tc0 wi g tc te)):=by
 obtain ⟨gv0,pg0,kg0⟩:=hg0
 obtain ⟨gv,pg,kg⟩:=hg
 refine (ps_setLc2 (tc0:=upT X.K tc0) (tc:=upT X.K tc) (te:=up X.K te) (wi:=upI X.K wi) hN hix hx hsw S hcalm hi pg0 hif0 hi1 pg hif he hs hs1).conv fun D σ H hh => ?_
 obtain ⟨Δ,M,E,sr,hr,q,k⟩:=hh
 exact lc2_conv kg0 kg σ H _ ⟨Δ,M,_,sr,hr,q,fun d M1 v H1 q1 e1 hr1 rv => k.nx _ M1 _ H1 q1 e1 hr1 ((sr.ext e1).set i rv)⟩
theorem q_setLc2 {i:Nat} {x:Str} {spos pos':Pos} {w0 wi:TId} {g0 g:GD} {tc0 tc:TTd} {te:TEd} (hN:X.N.Nodup) (hix:X.N[i]? = some x) (hx:X.env.scope.names.lookup x = some .local)
  (hsw:swapsWith (.ListComp elt [⟨t0,i0,f0,0⟩,⟨t1,i1,f1,0⟩] scope pos) (some (.Name x pos')) spos.line X.env = pure true) (S:CompSc X scope cl ms extra) (hcalm:X.calm = true) (hi:QId X t0 i0 w0) (hg0:PGa X scope cl extra t0 g0)
  (hif0:∀ C s H ex,QIf (cxComp X scope cl (X.N ++ extra) C s H ex) f0 tc0) (hi1:∀ C s H ex,QId (cxComp X scope cl (X.N ++ extra) C s H ex) t1 i1 wi) (hg:PGa X scope cl extra t1 g) (hif:∀ C s H ex,QIf (cxComp X scope cl (X.N ++ extra) C s H ex) f1 tc) (he:∀ C s H ex,QEd (cxComp X scope cl (X.N ++ extra) C s H ex) elt te)
  (hs:∀ x,foldedSetIterable i0 X.env x = pure x:=by intro _; rfl) (hs1:∀ C x,foldedSetIterable i1 (compEnvC scope cl C X.env) x = pure x:=by intro _ _; rfl):QSd X (.Assign [.Name x pos'] (.ListComp elt [⟨t0,i0,f0,0⟩,⟨t1,i1,f1,0⟩] scope pos) spos) (dSet i (dLc2 ms extra.length w0 g0 tc0 wi g tc te)):=by
 simp only [QEd.eq,QAd.eq,QTd.eq,QWd.eq,QSd.eq,QSs.eq,QId.eq,QIf.eq,QOd.eq] at *
 exact d_setLc2 hN hix hx hsw S hcalm hi hg0 hif0 hi1 hg hif he hs hs1
end
end L2

set_option Elab.async false
set_option linter.all false
set_option maxRecDepth 100000
namespace L2
open PySem PySem.Spec PyProof.Rows
section
variable {X:Cx}
/-! ### x is True -/
end
end L2

set_option Elab.async false
set_option linter.all false
set_option maxRecDepth 100000
namespace L2
open PySem PySem.Spec PyProof.Rows
/-! ### d.items(),the keys tuples -/
section
variable {X:Cx} {pins:List (Addr × Obj)} {σ:St} {H:Hp} {s:Shared} {a:Addr} {o:Obj} {ks:List (List Key × V)}
end
end L2

set_option Elab.async false
set_option linter.all false
set_option maxRecDepth 100000
namespace L2
open PySem PySem.Spec PyProof.Rows
section
variable {X:Cx} {l:Expr} {tl:TE} {te:TEd} {elts:List Expr} {x1:Nat} {pt apos cpos:Pos}
end
section
variable {X:Cx} {o e f:Expr} {to ti te:TEd} {apos cpos:Pos}
end
end L2

set_option Elab.async false
set_option linter.all false
set_option maxRecDepth 100000
namespace L2
open PySem PySem.Spec PyProof.Rows
section
variable {X:Cx}
/-! ### x in xs,the things of any depth -/
noncomputable def inF (x y:D):Option D:=match y with
 | .lst ds => if dLe x 59 = true ∧ dLes ds 59 = true then some (.bl (ds.any fun d => eqD d x)) else none
 | _ => none
theorem inF_l {x:D} {ds:List D}:inF x (.lst ds) = if dLe x 59 = true ∧ dLes ds 59 = true then some (.bl (ds.any fun d => eqD d x)) else none:=rfl
open Classical in
end
end L2

set_option Elab.async false
set_option linter.all false
set_option maxRecDepth 100000
namespace L2
open PySem PySem.Spec PyProof.Rows
section
variable {X:Cx} {a b e:Expr} {ta tb te:TEd} {pos:Pos}
noncomputable def dMulO (ta tb:TEd):TEd:=fun Δ M Q => ta Δ M fun x M1 => tb Δ M1 fun y M2 => ∃ xs n,rdM M2 x = .lst xs ∧ y = .int n ∧ -(2 ^ 63) ≤ n ∧ n < 2 ^ 63 ∧ xs.length * n.toNat ≤ sizeLine ∧ ∀ p,M2 p = none → Q (.ref p) (updM M2 p (.lst (List.replicate n.toNat xs).flatten))
theorem d_mulO (ha:PEd X a ta) (hb:PEd X b tb):PEd X (.BinOp a .Mult b pos) (dMulO ta tb) :=
 (pe_op op_rep ha hb).conv fun σ H Q ⟨Δ,M,R,sr,hr,q,k⟩ => ⟨Δ,M,_,sr,hr,q,fun x M1 v H1 q1 e1 hr1 rv => ⟨Δ,M1,_,sr.ext e1,hr1,q1,fun y M2 u H2 ⟨xs,n,ex,ey,h0,h1,hz,q2⟩ e2 hr2 ru => by
  have r1:=(rv.ext e2).rd hr2
  rw [ex] at r1
  subst ey
  simp only [Rep] at ru
  obtain ⟨l1,vs,rfl,hl,l1r⟩:=r1
  exact ⟨l1,n,vs,rfl,ru,hl,h0,h1,by rw [← l1r.length]; exact hz,fun p hp => k _ _ _ _ (q2 p (hr2.fresh hp)) ((e1.trans e2).trans (Ext.own hp)) (hr2.own hp (l1r.rep n.toNat)) (by simp only [Rep])⟩⟩⟩
theorem q_mulO (ha:QEd X a ta) (hb:QEd X b tb):QEd X (.BinOp a .Mult b pos) (dMulO ta tb):=by
 simp only [QEd.eq] at *
 exact d_mulO ha hb
/-! ### xs.index(x),the things of any depth -/
noncomputable def idxD (ds:List D) (x:D):Option Nat:=if dLe x 59 = true ∧ dLes ds 59 = true ∧ ds.length < 2 ^ 62 then ds.findIdx? (fun d => eqD d x) else none
theorem idxD_get {ds:List D} {x:D} {j:Nat} (h:idxD ds x = some j):dLe x 59 = true ∧ dLes ds 59 = true ∧ ds.length < 2 ^ 62 ∧ ∃ hj:j < ds.length,eqD ds[j] x = true ∧ ∀ m (hm:m < ds.length),m < j → eqD ds[m] x = false:=by
 unfold idxD at h
 by_cases hc:dLe x 59 = true ∧ dLes ds 59 = true ∧ ds.length < 2 ^ 62
 ·rw [if_pos hc] at h
  obtain ⟨hj,h1,h2⟩:=List.findIdx?_eq_some_iff_getElem.mp h
  exact ⟨hc.1,hc.2.1,hc.2.2,hj,h1,fun m hm hl => by have:=h2 m hl; simpa using this⟩
 ·rw [if_neg hc] at h; cases h
section
open PySem.SeqAt PySem.MeetsSeq AutoSeq1
theorem idx_loop (l:Addr) (xs:Array Value) (n:Nat) (od:Option Addr) (os:Array (Option Value)) (y:Value) (hit:Nat → Bool) (top:Int) (j:Nat) (lj:j < xs.size) (ltop:(j:Int) < top) (yes:hit j = true) :
  ∀ (k i:Nat),j - i = k → i ≤ j → (∀ m,i ≤ m → m < j → hit m = false) → Meets (Builtin.«list.index.loop» ⟨[.ref l,y,rawInt i,rawInt top],[]⟩)
   (fun B R t => t.heap.get? l = some { cls:=.type "list",dict:=od,data:=.seq xs n,slots:=os } ∧ (∀ m (h:m < xs.size),EqAt B.in1 t xs[m] y (hit m)) ∧ R (.ok (.ret (.int j t.toks))) { t with toks:=t.toks + 1 })
 | 0,i,ek,hi,no,prog,w,B,R,t,q => by
  obtain ⟨th,tg,td,tt,to⟩:=t
  obtain ⟨ql,qe,qr⟩:=q
  obtain rfl:i = j:=by omega
  wp_walk using wpAny_loadPart' ql
  rw [show (if (i:Int) < top then xs[((i:Nat):Int).toNat]? else none) = some xs[i] by simp [ltop,lj]]
  refine wpAny_bind (qe i lj prog w _ _ ?_)
  rw [yes]
  wp_walk
  exact qr
 | k + 1,i,ek,hi,no,prog,w,B,R,t,q => by
  obtain ⟨th,tg,td,tt,to⟩:=t
  obtain ⟨ql,qe,qr⟩:=q
  have li:i < xs.size:=by omega
  have lt:(i:Int) < top:=by omega
  wp_walk using wpAny_loadPart' ql
  rw [show (if (i:Int) < top then xs[((i:Nat):Int).toNat]? else none) = some xs[i] by simp [lt,li]]
  refine wpAny_bind (qe i li prog w _ _ ?_)
  rw [no i (Nat.le_refl _) (by omega)]
  wp_walk
  rw [show ((i:Int) + 1) = ((i + 1:Nat):Int) by omega]
  refine ⟨plainId_quiet plain_index_loop _,codeAny_builtin entry_index_loop ?_⟩
  rw [Around.under_plainId plain_index_loop _]
  exact idx_loop l xs n od os y hit top j lj ltop yes k (i + 1) (by omega) (by omega) (fun m a b => no m (by omega) b) prog w B R _ ⟨ql,qe,qr⟩
theorem idx_list (l:Addr) (xs:Array Value) (n:Nat) (od:Option Addr) (os:Array (Option Value)) (y:Value) (hit:Nat → Bool) (j:Nat) (lj:j < xs.size) (ls:(j:Int) < 2 ^ 63 - 1) (yes:hit j = true) (no:∀ m,m < j → hit m = false) :
  Meets (Builtin.«list.index» ⟨[.ref l,y],[]⟩)
   (fun B R t => t.heap.get? l = some { cls:=.type "list",dict:=od,data:=.seq xs n,slots:=os } ∧ (∀ m (h:m < xs.size),EqAt B.in1 t xs[m] y (hit m)) ∧ R (.ok (.ret (.int j t.toks))) { t with toks:=t.toks + 1 }):=by
 intro prog w B R t q
 obtain ⟨th,tg,td,tt,to⟩:=t
 obtain ⟨ql,qe,qr⟩:=q
 wp_walk using wpAny_loadPart' ql
 rw [show ((fun i:Int => if i < 0 then max 0 (i + (xs.size:Int)) else i) ((none:Option Int).getD 0)) = ((0:Nat):Int) by simp,show ((fun i:Int => if i < 0 then max 0 (i + (xs.size:Int)) else i) ((none:Option Int).getD (2 ^ 63 - 1))) = 2 ^ 63 - 1 by simp]
 refine ⟨plainId_quiet plain_index_loop _,codeAny_builtin entry_index_loop ?_⟩
 rw [Around.under_plainId plain_index_loop _]
 exact idx_loop l xs n od os y hit (2 ^ 63 - 1) j lj ls yes _ 0 rfl (Nat.zero_le _) (fun m _ b => no m b) prog w B R _ ⟨ql,qe,qr⟩
theorem idx_tuple (l:Addr) (xs:Array Value) (y:Value) (hit:Nat → Bool) (j:Nat) (lj:j < xs.size) (ls:(j:Int) < 2 ^ 63 - 1) (yes:hit j = true) (no:∀ m,m < j → hit m = false) :
  Meets (Builtin.«tuple.index» ⟨[.ref l,y],[]⟩)
   (fun B R t => (∃ o n,t.heap.get? l = some o ∧ o.data = .seq xs n) ∧ (∀ m (h:m < xs.size),EqAt B.in1 t xs[m] y (hit m)) ∧ R (.ok (.ret (.int j t.toks))) { t with toks:=t.toks + 1 }):=by
 intro prog w B R t q
 obtain ⟨th,tg,td,tt,to⟩:=t
 obtain ⟨⟨o,n,ql,qd⟩,qe,qr⟩:=q
 unfold Builtin.«tuple.index»
 wp_walk
 rw [qd]
 refine wpAny_pure (wpAny_pure ?_)
 refine wpAny_bind (wpAny_pure ?_)
 refine wpAny_bind (wpAny_pure ?_)
 dsimp only
 rw [Nat.min_self]
 refine wpAny_bind ?_
 rw [Std.Legacy.Range.forIn_eq_forIn_range']
 refine wpAny_forIn_list _ (fun rest b t' => b = (none,()) ∧ t' = (⟨th,tg,td,tt,to⟩:Shared) ∧ ∃ i,i ≤ j ∧ rest = List.range' i (xs.size - i) 1) _ ?_ ?_ _ _ ⟨rfl,rfl,0,Nat.zero_le _,?_⟩
 ·rintro x rest b t' ⟨rfl,rfl,i,hi,er⟩
  have li:i < xs.size:=by omega
  have e2:List.range' i (xs.size - i) 1 = i :: List.range' (i + 1) (xs.size - (i + 1)) 1:=by
   rw [show xs.size - i = xs.size - (i + 1) + 1 by omega,List.range'_succ]
  rw [e2] at er
  obtain ⟨rfl,rfl⟩:=List.cons.inj er
  rw [Array.getElem?_eq_getElem li]
  dsimp only
  refine wpAny_bind (qe x li prog w _ _ ?_)
  by_cases z:x = j
  ·subst z
   rw [yes]
   simp only [if_true]
   refine wpAny_bind ?_
   unfold retInt
   refine wpAny_bind (wpAny_mkInt (wpAny_pure ?_))
   refine wpAny_pure ?_
   exact wpAny_pure qr
  ·rw [no x (by omega)]
   simp only [Bool.false_eq_true,if_false]
   exact wpAny_pure ⟨rfl,rfl,x + 1,by omega,rfl⟩
 ·rintro b t' ⟨rfl,rfl,i,hi,er⟩
  have:=congrArg List.length er
  simp at this
  omega
 ·simp [Std.Legacy.Range.size]
end
end
end L2

set_option Elab.async false
set_option linter.all false
set_option maxRecDepth 100000
namespace L2
open PySem PySem.Spec PyProof.Rows
section
variable {X:Cx} {o e:Expr} {to te:TEd} {apos cpos:Pos}
noncomputable def hitD (ds:List D) (d:D) (m:Nat):Bool:=match ds[m]? with | some x => eqD x d | none => false
theorem idx_eqs {pins:List (Addr × Obj)} {σ:St} {H:Hp} {s:Shared} {M:DH} {ds:List D} {d:D} {vs:List V} {its:List Value} {y:V} {u:Value} (I:Inv X pins σ H s) (hu:X.A.units + 64 < cLine) (rl:RepL X.K M H ds vs) (r:Vals vs its) (r1:RepR X.K M H d y) (ry:RelV y u) (h1:dLe d 59 = true) (h2:dLes ds 59 = true) :
  ∀ m (h:m < its.toArray.size),PySem.SeqAt.EqAt X.A.in1 s its.toArray[m] u (hitD ds d m):=fun m h => by
 have hl:ds.length = its.length:=rl.length.trans r.length
 have h':m < its.length:=by simpa using h
 have h3:m < ds.length:=by omega
 obtain ⟨v1,g1,p1⟩:=rl.get (i:=m) (d:=ds[m]) (by simp [h3])
 obtain ⟨u1,k1,m1⟩:=r.get g1
 have e1:its.toArray[m] = u1:=by simpa [List.getElem?_eq_getElem h'] using k1
 rw [e1,show hitD ds d m = eqD ds[m] d by simp [hitD,h3]]
 exact (eqAt_D I 59 (by show X.A.units + 1 + 59 < cLine; omega) (dLes_get h2 (i:=m) (by simp [h3])) h1 p1.r r1 m1 ry).1
theorem idxD_hit {ds:List D} {x:D} {j:Nat} (h:idxD ds x = some j):dLe x 59 = true ∧ dLes ds 59 = true ∧ (j:Int) < 2 ^ 63 - 1 ∧ j < ds.length ∧ hitD ds x j = true ∧ ∀ m,m < j → hitD ds x m = false:=by
 obtain ⟨h1,h2,h3,lj,yes,no⟩:=idxD_get h
 refine ⟨h1,h2,by omega,lj,by simp [hitD,lj,yes],fun m hm => ?_⟩
 have hm':m < ds.length:=by omega
 simp [hitD,hm',no m hm' hm]
theorem mt_idxL (hu:X.A.units + 64 < cLine):MtR X "list.index" (fun x xs H Q => ∃ M ds d y j,xs = [y] ∧ RepR X.K M H (.lst ds) x ∧ RepR X.K M H d y ∧ idxD ds d = some j ∧ Q (.int j) H):=by
 intro pins s σ H x xs v us Q I rx rv h
 obtain ⟨M,ds,d,y,j,rfl,r2,r1,hj,q⟩:=h
 obtain ⟨u,rfl,ry⟩:=Vals.one rv
 obtain ⟨l,vs,rfl,sq,rl⟩:=r2
 cases rx
 obtain ⟨its,r,pl,hz⟩:=I.list (SqL.of sq)
 obtain ⟨h1,h2,h3,lj,yes,no⟩:=idxD_hit hj
 have hl:ds.length = its.length:=rl.length.trans r.length
 obtain ⟨⟨c,dd,dt,sl⟩,n,ho,hc,hdd,hdt⟩:=pl
 obtain rfl:c = .type "list":=hc
 obtain rfl:dt = .seq its.toArray n:=hdt
 exact call_meets F.slot_list_index ⟨_,ho,rfl⟩ F.entry_list_index (F.args_list_index_2 _ _) (idx_list l its.toArray n dd sl u (hitD ds d) j (by simp; omega) h3 yes no) ⟨ho,idx_eqs I hu rl r r1 ry h1 h2,⟨.int _,H,I.tok _,⟨_,rfl⟩,q⟩⟩
theorem mt_idxT (hu:X.A.units + 64 < cLine):MtR X "tuple.index" (fun x xs H Q => ∃ M ds d y j,xs = [y] ∧ RepR X.K M H (.tup ds) x ∧ RepR X.K M H d y ∧ idxD ds d = some j ∧ Q (.int j) H):=by
 intro pins s σ H x xs v us Q I rx rv h
 obtain ⟨M,ds,d,y,j,rfl,r2,r1,hj,q⟩:=h
 obtain ⟨u,rfl,ry⟩:=Vals.one rv
 obtain ⟨l,vs,rfl,sq,rl⟩:=r2
 cases rx
 obtain ⟨its,r,⟨ob,ho,hc,⟨n,hd⟩,_⟩,hz⟩:=I.tupN sq
 obtain ⟨h1,h2,h3,lj,yes,no⟩:=idxD_hit hj
 have hl:ds.length = its.length:=rl.length.trans r.length
 exact call_meets F.slot_tuple_index ⟨_,ho,hc⟩ F.entry_tuple_index (F.args_tuple_index_2 _ _) (idx_tuple l its.toArray u (hitD ds d) j (by simp; omega) h3 yes no) ⟨⟨ob,n,ho,hd⟩,idx_eqs I hu rl r r1 ry h1 h2,⟨.int _,H,I.tok _,⟨_,rfl⟩,q⟩⟩
noncomputable def tBMT (K:PySem.W.Frag) (r:V → List V → Hp → VK → Prop) (to:TE) (t:TA):TE:=fun σ H Q => to σ H fun x H1 => (∃ p xs,x = .ref p ∧ SqT K H1 p xs) ∧ t σ H1 fun xs H2 => r x xs H2 Q
theorem pe_bmT {name:Str} {id:String} {r:V → List V → Hp → VK → Prop} {es:List Expr} {to:TE} {t:TA} (slot:Slot "tuple" name id) (hty:typeOf (.builtin id) = pure (.type "method_descriptor")) (hm:MtR X id r) (ho:PE X o to) (ha:PA X (e :: es) t)
  (hbase:attributeBase o name X.env (eval o X.env) = eval o X.env)
  (hfew:((backTo cpos (starEach (e :: es) X.env)).all (fun x => !x.1) && (backToKw cpos (keywordEach [] X.env)).all (fun x => x.1.isSome)
   && decide ((e :: es).length + ([]:List Keyword).length + (if ([]:List Keyword).isEmpty then 0 else 1) < 30)) = true)
  (hline:(apos.endLine == cpos.line) = true) (hs:starEach (e :: es) X.env = (false,eval e X.env) :: starEach es X.env) (hplain:(backTo cpos (starEach es X.env)).any (·.1) = false) :
  PE X (.Call (.Attribute o name apos) (e :: es) [] cpos) (tBMT X.K r to t):=by
 intro pins s σ H Q I h
 refine wpAny_Call_method_late hbase hfew hline rfl (thn (ho pins s σ H _ I h) fun v s1 ⟨x,H1,I1,r1,⟨p,xs,ex,sq⟩,q1⟩ => ?_)
 subst ex
 cases r1
 obtain ⟨its,_,⟨ob,eo,ec,_,en⟩,_⟩:=I1.tupN sq
 refine ⟨"tuple",id,F.plainAttrs_tuple,slot,hty,⟨ob,eo,ec⟩,fun a z => by cases z; exact ⟨ob,eo,en⟩,?_⟩
 have hA:=ha cpos pins s1 σ H1 _ I1 q1
 rw [hs] at hA ⊢
 refine Calls.callWith_builtin (by show (false || (backTo cpos (starEach es X.env)).any (·.1)) = false; rw [hplain] <;> rfl) (Calls.evalArgs_plain ?_)
 exact thn hA fun us s2 ⟨vs,H2,I2,r2,q2⟩ => hm pins s2 σ H2 (.ref p) vs (Value.ref p) us Q I2 rfl r2 q2
noncomputable def dIdxL (to te:TEd):TEd:=fun Δ M Q => to Δ M fun o M1 => (∃ ds,rdM M1 o = .lst ds) ∧ te Δ M1 fun x M2 => ∃ ds j,rdM M2 o = .lst ds ∧ idxD ds (rdM M2 x) = some j ∧ Q (.int j) M2
theorem q_idxL (hu:X.A.units + 64 < cLine) (ho:QEd X o to) (he:QEd X e te) (hbase:attributeBase o "index" X.env (eval o X.env) = eval o X.env:=by rfl)
  (hse:starEach [e] X.env = (false,eval e X.env) :: starEach [] X.env:=by rfl)
  (hfew:((backTo cpos (starEach [e] X.env)).all (fun x => !x.1) && (backToKw cpos (keywordEach [] X.env)).all (fun x => x.1.isSome)
   && decide ([e].length + ([]:List Keyword).length + (if ([]:List Keyword).isEmpty then 0 else 1) < 30)) = true:=by rfl)
  (hline:(apos.endLine == cpos.line) = true:=by rfl) (hplain:(backTo cpos (starEach [] X.env)).any (·.1) = false:=by rfl):QEd X (.Call (.Attribute o "index" apos) [e] [] cpos) (dIdxL to te):=by
 rw [QEd.eq] at *
 refine (pe_bm PySem.F.plainAttrs_list PySem.F.slot_list_index PySem.F.type_list_index (mt_idxL hu) ho (pa_cons he pa_nil hse) hbase hfew hline hse hplain).conv fun σ H Q hh => ?_
 obtain ⟨Δ,M,R,sr,hr,q,k⟩:=hh
 refine ⟨Δ,M,_,sr,hr,q,fun o M1 ov H1 ⟨⟨ds0,e0⟩,q1⟩ e1 hr1 ro => ?_⟩
 have r0:=ro.rd hr1
 rw [e0] at r0
 obtain ⟨l0,vs0,rfl,hl0,_⟩:=r0
 refine ⟨.inl ⟨rfl,vs0,SqL.of hl0⟩,Δ,M1,_,sr.ext e1,hr1,q1,fun d M2 v H2 ⟨ds,j,ed,hj,q2⟩ e2 hr2 rv => ?_⟩
 have r2:=(ro.ext e2).rd hr2
 rw [ed] at r2
 exact ⟨M2,ds,_,v,j,rfl,r2,rv.rd hr2,hj,k _ M2 _ H2 q2 (e1.trans e2) hr2 (by simp [Rep])⟩
noncomputable def dIdxT (to te:TEd):TEd:=fun Δ M Q => to Δ M fun o M1 => ∃ ds,o = .tup ds ∧ te Δ M1 fun x M2 => ∃ j,idxD ds (rdM M2 x) = some j ∧ Q (.int j) M2
theorem q_idxT (hu:X.A.units + 64 < cLine) (ho:QEd X o to) (he:QEd X e te) (hbase:attributeBase o "index" X.env (eval o X.env) = eval o X.env:=by rfl)
  (hse:starEach [e] X.env = (false,eval e X.env) :: starEach [] X.env:=by rfl)
  (hfew:((backTo cpos (starEach [e] X.env)).all (fun x => !x.1) && (backToKw cpos (keywordEach [] X.env)).all (fun x => x.1.isSome)
   && decide ([e].length + ([]:List Keyword).length + (if ([]:List Keyword).isEmpty then 0 else 1) < 30)) = true:=by rfl)
  (hline:(apos.endLine == cpos.line) = true:=by rfl) (hplain:(backTo cpos (starEach [] X.env)).any (·.1) = false:=by rfl):QEd X (.Call (.Attribute o "index" apos) [e] [] cpos) (dIdxT to te):=by
 rw [QEd.eq] at *
 refine (pe_bmT PySem.F.slot_tuple_index PySem.F.type_tuple_index (mt_idxT hu) ho (pa_cons he pa_nil hse) hbase hfew hline hse hplain).conv fun σ H Q hh => ?_
 obtain ⟨Δ,M,R,sr,hr,q,k⟩:=hh
 refine ⟨Δ,M,_,sr,hr,q,fun o M1 ov H1 ⟨ds,eo,q1⟩ e1 hr1 ro => ?_⟩
 subst eo
 have r0:RepR X.K M1 H1 (.tup ds) ov:=ro.rd hr1
 obtain ⟨l0,vs0,rfl,hl0,_⟩:=r0
 refine ⟨⟨_,_,rfl,hl0⟩,Δ,M1,_,sr.ext e1,hr1,q1,fun d M2 v H2 ⟨j,hj,q2⟩ e2 hr2 rv => ?_⟩
 have r2:RepR X.K M2 H2 (.tup ds) (.ref l0):=(ro.ext e2).rd hr2
 exact ⟨M2,ds,_,v,j,rfl,r2,rv.rd hr2,hj,k _ M2 _ H2 q2 (e1.trans e2) hr2 (by simp [Rep])⟩
end
end L2

set_option Elab.async false
set_option linter.all false
set_option maxRecDepth 100000
namespace L2
open PySem PySem.Spec PyProof.Rows
/-! ### zip of two rows,each a list or a tuple -/
noncomputable def itN:Bool → String
 | true => "tuple_iterator"
 | false => "list_iterator"
noncomputable def sqN:Bool → String
 | true => "tuple"
 | false => "list"
noncomputable def SqIt (b:Bool) (h:Heap) (i l:Addr) (k:Nat):Prop:=∃ o,h.get? i = some o ∧ o.cls = .type (itN b) ∧ o.data = .fields #[.ref l,.int k 0]
noncomputable def SqIs (b:Bool) (h:Heap) (l:Addr) (xs:Array Value):Prop:=∃ o,h.get? l = some o ∧ o.cls = .type (sqN b) ∧ ∃ n,o.data = .seq xs n
section
variable {prog:Program} {w:World} {A:Around} {E:Value → Shared → Prop} {s:Shared} {b c:Bool}
theorem SqIt.go {h h':Heap} {i l:Addr} {k:Nat} (x:SqIt b h i l k) (f:∀ o,h.get? i = some o → h'.get? i = some o):SqIt b h' i l k:=let ⟨o,e,r⟩:=x; ⟨o,f o e,r⟩
theorem SqIs.go {h h':Heap} {l:Addr} {xs:Array Value} (x:SqIs b h l xs) (f:∀ o,h.get? l = some o → h'.get? l = some o):SqIs b h' l xs:=let ⟨o,e,r⟩:=x; ⟨o,f o e,r⟩
theorem nextZ_item {it l:Addr} {i:Nat} {xs:Array Value} {x:Value} {Q:Value → Shared → Prop} (p:SqIt b s.heap it l i) (q:SqIs b s.heap l xs) (hx:xs[i]? = some x)
  (k:∀ h',SqIt b h' it l (i + 1) → Heap.SameBut it s.heap h' → Q x { s with heap:=h' }):wpAny (model prog w) A (Builtin.SmallTypes.nextOf (.ref it)) Q E s:=by
 cases b with
 | true => exact nextOf_tup_item (show s.heap.IsTupleIter it l i from p) (show s.heap.IsTuple l xs from q) hx k
 | false => exact wpAny_nextOf_list_item (show s.heap.IsListIter it l i from p) (show s.heap.IsList l xs from q) hx k
theorem nextZ_end {it l:Addr} {i:Nat} {xs:Array Value} {Q:Value → Shared → Prop} (hh:A.handled = none) (p:SqIt b s.heap it l i) (q:SqIs b s.heap l xs) (hx:xs[i]? = none)
  (k:∀ h' e,Heap.ExtBut it s.heap h' → (∃ o,h'.get? e = some o ∧ o.cls = .type "StopIteration") → E (.ref e) { s with heap:=h' }):wpAny (model prog w) A (Builtin.SmallTypes.nextOf (.ref it)) Q E s:=by
 cases b with
 | true => exact nextOf_tup_end hh (show s.heap.IsTupleIter it l i from p) (show s.heap.IsTuple l xs from q) hx k
 | false => exact wpAny_nextOf_list_end hh (show s.heap.IsListIter it l i from p) (show s.heap.IsList l xs from q) hx k
theorem zipZ_item {z T U i j l m:Addr} {k:Nat} {xs ys:Array Value} {x y u v:Value} {Q:Value → Shared → Prop} (D:ZipApart z T U i j l m)
  (hz:IsZip s.heap z T U .none) (hT:IsPair s.heap T (.ref i) (.ref j)) (hU:IsPair s.heap U u v) (hi:SqIt b s.heap i l k) (hj:SqIt c s.heap j m k) (hl:SqIs b s.heap l xs) (hm:SqIs c s.heap m ys) (hx:xs[k]? = some x) (hy:ys[k]? = some y)
  (q:∀ h',IsZip h' z T U (rawInt s.heap.objs.size) → IsPair h' U x y → SqIt b h' i l (k + 1) → SqIt c h' j m (k + 1) → IsPair h' s.heap.objs.size x y → h'.objs.size = s.heap.objs.size + 1 →
   (∀ d o,d ≠ z → d ≠ U → d ≠ i → d ≠ j → s.heap.get? d = some o → h'.get? d = some o) → Q (.ref s.heap.objs.size) { s with heap:=h' }) :
  wpAny (model prog w) A (Builtin.«zip.__next__» ⟨[.ref z],[]⟩) (fun fin s' => ∃ v,fin = .done (.ret v) ∧ Q v s') E s:=by
 show wpAny _ _ (field (.ref z) 2 >>= _) _ _ _
 refine wpAny_bind (wpAny_field hz rfl (x:=.bool false) rfl ?_)
 show wpAny _ _ (field (.ref z) 3 >>= _) _ _ _
 refine wpAny_bind (wpAny_field hz rfl (x:=.ref T) rfl (wpAny_bind (wpAny_seqItems hT rfl ?_)))
 show wpAny _ _ (Builtin.SmallTypes.ownedTupleIsFree (.ref z) >>= _) _ _ _
 refine wpAny_bind ?_
 unfold Builtin.SmallTypes.ownedTupleIsFree
 refine wpAny_bind (wpAny_field hz rfl (x:=.none) rfl (wpAny_pure ?_))
 simp only [if_true]
 refine wpAny_bind (wpAny_rule (wpAny_bind (wpAny_field hz rfl (x:=.ref U) rfl ?_)))
 refine wpAny_bind (wpAny_setField_rec hz (by simp) fun g1 z1 s1 => ?_)
 replace z1:IsZip g1 z T U .ellipsis:=z1
 refine wpAny_bind ?_
 simp only [List.zipIdx_cons,List.zipIdx_nil,List.forIn_cons,List.forIn_nil]
 refine wpAny_bind (wpAny_bind (wpAny_onRaise ?_))
 show wpAny _ _ (Builtin.SmallTypes.nextOf (.ref i) >>= _) _ _ _
 refine wpAny_bind (nextZ_item (hi.go fun o e => s1.extBut _ _ D.i1z e) (hl.go fun o e => s1.extBut _ _ D.l1z e) hx fun g2 i2 s2 => wpAny_pure ?_)
 have u2:IsPair g2 U u v:=s2.extBut _ _ D.TOi1 (s1.extBut _ _ D.TOz hU)
 refine wpAny_bind (wpAny_seqItems u2 rfl (wpAny_bind (wpAny_updateSeq_pair u2 fun g3 u3 s3 => ?_)))
 replace u3:IsPair g3 U x v:=u3
 refine wpAny_bind (wpAny_letGo (wpAny_pure (wpAny_bind (wpAny_bind (wpAny_onRaise ?_)))))
 show wpAny _ _ (Builtin.SmallTypes.nextOf (.ref j) >>= _) _ _ _
 refine wpAny_bind (nextZ_item (hj.go fun o e => s3.extBut _ _ D.TOi2.symm (s2.extBut _ _ D.i12.symm (s1.extBut _ _ D.i2z e))) (hm.go fun o e => s3.extBut _ _ D.l2TO (s2.extBut _ _ D.l2i1 (s1.extBut _ _ D.l2z e))) hy fun g4 j4 s4 => wpAny_pure ?_)
 have u4:IsPair g4 U x v:=s4.extBut _ _ D.TOi2 u3
 refine wpAny_bind (wpAny_seqItems u4 rfl (wpAny_bind (wpAny_updateSeq_pair u4 fun g5 u5 s5 => ?_)))
 replace u5:IsPair g5 U x y:=u5
 refine wpAny_bind (wpAny_letGo (wpAny_pure (wpAny_pure (wpAny_bind (wpAny_seqItems u5 rfl (wpAny_bind (wpAny_newTuple ?_)))))))
 have sz:g5.objs.size = s.heap.objs.size:=by rw [s5.1,s4.1,s3.1,s2.1,s1.1]
 have z5:IsZip g5 z T U .ellipsis:=s5.extBut _ _ D.TOz.symm (s4.extBut _ _ D.i2z.symm (s3.extBut _ _ D.TOz.symm (s2.extBut _ _ D.i1z.symm z1)))
 have kp:∀ d o,d ≠ z → d ≠ U → d ≠ i → d ≠ j → s.heap.get? d = some o → g5.get? d = some o:=fun d o a1 a2 a3 a4 e =>
  s5.extBut _ _ a2 (s4.extBut _ _ a4 (s3.extBut _ _ a2 (s2.extBut _ _ a3 (s1.extBut _ _ a1 e))))
 have i5:SqIt b g5 i l (k + 1):=i2.go fun o e => s5.extBut _ _ D.TOi1.symm (s4.extBut _ _ D.i12 (s3.extBut _ _ D.TOi1.symm e))
 have j5:SqIt c g5 j m (k + 1):=j4.go fun o e => s5.extBut _ _ D.TOi2.symm e
 have lz:z < g5.objs.size:=Heap.lt_size z5
 show wpAny _ _ (Builtin.SmallTypes.ownedTupleHandOut (.ref z) (.ref g5.objs.size) >>= _) _ _ _
 refine wpAny_bind ?_
 unfold Builtin.SmallTypes.ownedTupleHandOut
 have z6:IsZip (g5.push { cls:=.type "tuple",data:=.seq #[x,y] }) z T U .ellipsis:=Heap.get?_push_of_some _ z5
 refine wpAny_bind (wpAny_setField_rec z6 (by simp) fun g7 z7 s7 => ?_)
 replace z7:IsZip g7 z T U (rawInt g5.objs.size):=z7
 refine wpAny_setField_rec z7 (by simp) fun g8 z8 s8 => ?_
 replace z8:IsZip g8 z T U (rawInt g5.objs.size):=z8
 have up:∀ d o,d ≠ z → g5.get? d = some o → g8.get? d = some o:=fun d o a1 e => s8.extBut _ _ a1 (s7.extBut _ _ a1 (Heap.get?_push_of_some _ e))
 have t8:IsPair g8 g5.objs.size x y:=s8.extBut _ _ (Nat.ne_of_gt lz) (s7.extBut _ _ (Nat.ne_of_gt lz) (Heap.get?_push_size _ rfl))
 have n8:g8.objs.size = g5.objs.size + 1:=by rw [s8.1,s7.1,Heap.size_push]
 rw [sz] at z8 t8 n8
 refine wpAny_pure ⟨_,rfl,?_⟩
 show Q (.ref g5.objs.size) _
 rw [sz]
 exact q g8 z8 (up _ _ D.TOz u5) (i5.go fun o e => up _ o D.i1z e) (j5.go fun o e => up _ o D.i2z e) t8 n8 fun d o a1 a2 a3 a4 e => up d o a1 (kp d o a1 a2 a3 a4 e)
theorem zipZ_end {z T U i j l m:Addr} {k:Nat} {xs ys:Array Value} {u v:Value} {Q:PySem.Fin → Shared → Prop} (hh:A.handled = none) (D:ZipApart z T U i j l m)
  (hz:IsZip s.heap z T U .none) (hT:IsPair s.heap T (.ref i) (.ref j)) (hU:IsPair s.heap U u v) (hi:SqIt b s.heap i l k) (hj:SqIt c s.heap j m k) (hl:SqIs b s.heap l xs) (hm:SqIs c s.heap m ys) (no:xs[k]? = none ∨ ys[k]? = none)
  (q:∀ h' e,(∀ d o,d ≠ z → d ≠ U → d ≠ i → d ≠ j → s.heap.get? d = some o → h'.get? d = some o) → (∃ o,h'.get? e = some o ∧ o.cls = .type "StopIteration") → E (.ref e) { s with heap:=h' }) :
  wpAny (model prog w) A (Builtin.«zip.__next__» ⟨[.ref z],[]⟩) Q E s:=by
 show wpAny _ _ (field (.ref z) 2 >>= _) _ _ _
 refine wpAny_bind (wpAny_field hz rfl (x:=.bool false) rfl ?_)
 show wpAny _ _ (field (.ref z) 3 >>= _) _ _ _
 refine wpAny_bind (wpAny_field hz rfl (x:=.ref T) rfl (wpAny_bind (wpAny_seqItems hT rfl ?_)))
 show wpAny _ _ (Builtin.SmallTypes.ownedTupleIsFree (.ref z) >>= _) _ _ _
 refine wpAny_bind ?_
 unfold Builtin.SmallTypes.ownedTupleIsFree
 refine wpAny_bind (wpAny_field hz rfl (x:=.none) rfl (wpAny_pure ?_))
 simp only [if_true]
 refine wpAny_bind (wpAny_rule (wpAny_bind (wpAny_field hz rfl (x:=.ref U) rfl ?_)))
 refine wpAny_bind (wpAny_setField_rec hz (by simp) fun g1 z1 s1 => ?_)
 replace z1:IsZip g1 z T U .ellipsis:=z1
 refine wpAny_bind ?_
 simp only [List.zipIdx_cons,List.zipIdx_nil,List.forIn_cons,List.forIn_nil]
 refine wpAny_bind (wpAny_bind (wpAny_onRaise ?_))
 show wpAny _ _ (Builtin.SmallTypes.nextOf (.ref i) >>= _) _ _ _
 cases hx:xs[k]? with
 | none =>
  refine wpAny_bind (nextZ_end hh (hi.go fun o e => s1.extBut _ _ D.i1z e) (hl.go fun o e => s1.extBut _ _ D.l1z e) hx fun g2 e s2 he => ?_)
  obtain ⟨oe,e1,e2⟩:=he
  have z2:IsZip g2 z T U .ellipsis:=s2 _ _ D.i1z.symm z1
  have ne:e ≠ z:=fun p => by subst p; rw [z2] at e1; cases e1; simp at e2
  exact wpAny_setField_rec z2 (by simp) fun g3 _ s3 => q g3 e (fun d o a1 _ a3 _ p => s3.extBut _ _ a1 (s2 _ _ a3 (s1.extBut _ _ a1 p))) ⟨oe,s3.extBut _ _ ne e1,e2⟩
 | some x =>
  have hy:ys[k]? = none:=no.resolve_left (by rw [hx]; exact nofun)
  refine wpAny_bind (nextZ_item (hi.go fun o e => s1.extBut _ _ D.i1z e) (hl.go fun o e => s1.extBut _ _ D.l1z e) hx fun g2 i2 s2 => wpAny_pure ?_)
  have u2:IsPair g2 U u v:=s2.extBut _ _ D.TOi1 (s1.extBut _ _ D.TOz hU)
  refine wpAny_bind (wpAny_seqItems u2 rfl (wpAny_bind (wpAny_updateSeq_pair u2 fun g3 u3 s3 => ?_)))
  refine wpAny_bind (wpAny_letGo (wpAny_pure (wpAny_bind (wpAny_bind (wpAny_onRaise ?_)))))
  show wpAny _ _ (Builtin.SmallTypes.nextOf (.ref j) >>= _) _ _ _
  refine wpAny_bind (nextZ_end hh (hj.go fun o e => s3.extBut _ _ D.TOi2.symm (s2.extBut _ _ D.i12.symm (s1.extBut _ _ D.i2z e))) (hm.go fun o e => s3.extBut _ _ D.l2TO (s2.extBut _ _ D.l2i1 (s1.extBut _ _ D.l2z e))) hy fun g4 e s4 he => ?_)
  obtain ⟨oe,e1,e2⟩:=he
  have z4:IsZip g4 z T U .ellipsis:=s4 _ _ D.i2z.symm (s3.extBut _ _ D.TOz.symm (s2.extBut _ _ D.i1z.symm z1))
  have ne:e ≠ z:=fun p => by subst p; rw [z4] at e1; cases e1; simp at e2
  exact wpAny_setField_rec z4 (by simp) fun g5 _ s5 => q g5 e (fun d o a1 a2 a3 a4 p => s5.extBut _ _ a1 (s4 _ _ a4 (s3.extBut _ _ a2 (s2.extBut _ _ a3 (s1.extBut _ _ a1 p))))) ⟨oe,s5.extBut _ _ ne e1,e2⟩
theorem pyNextZ_item {z T U i j l m:Addr} {k:Nat} {xs ys:Array Value} {x y u v:Value} {Q:Option Value → Shared → Prop} (D:ZipApart z T U i j l m)
  (hz:IsZip s.heap z T U .none) (hT:IsPair s.heap T (.ref i) (.ref j)) (hU:IsPair s.heap U u v) (hi:SqIt b s.heap i l k) (hj:SqIt c s.heap j m k) (hl:SqIs b s.heap l xs) (hm:SqIs c s.heap m ys) (hx:xs[k]? = some x) (hy:ys[k]? = some y)
  (q:∀ h',IsZip h' z T U (rawInt s.heap.objs.size) → IsPair h' U x y → SqIt b h' i l (k + 1) → SqIt c h' j m (k + 1) → IsPair h' s.heap.objs.size x y → h'.objs.size = s.heap.objs.size + 1 →
   (∀ d o,d ≠ z → d ≠ U → d ≠ i → d ≠ j → s.heap.get? d = some o → h'.get? d = some o) → Q (some (.ref s.heap.objs.size)) { s with heap:=h' }) :
  wpAny (model prog w) A (pyNext (.ref z)) Q E s:=by
 have ty:s.TypeIs (.ref z) "zip":=⟨_,hz,rfl⟩
 unfold pyNext
 exact wpAny_bind (wpAny_attempt (wpAny_callSpecial?_slot (name:=Str.ofString "__next__") ty F.slot_zip_next (wpAny_call_entry F.slot_zip_next ty F.entry_zip_next
  (zipZ_item D hz hT hU hi hj hl hm hx hy fun h' a1 a2 a3 a4 a5 a6 a7 => wpAny_pure (q h' a1 a2 a3 a4 a5 a6 a7)) (F.args_zip_next_1 _))))
theorem pyNextZ_end {z T U i j l m:Addr} {k:Nat} {xs ys:Array Value} {u v:Value} {Q:Option Value → Shared → Prop} (hh:A.handled = none) (D:ZipApart z T U i j l m)
  (hz:IsZip s.heap z T U .none) (hT:IsPair s.heap T (.ref i) (.ref j)) (hU:IsPair s.heap U u v) (hi:SqIt b s.heap i l k) (hj:SqIt c s.heap j m k) (hl:SqIs b s.heap l xs) (hm:SqIs c s.heap m ys) (no:xs[k]? = none ∨ ys[k]? = none)
  (q:∀ h',(∀ d o,d ≠ z → d ≠ U → d ≠ i → d ≠ j → s.heap.get? d = some o → h'.get? d = some o) → Q none { s with heap:=h' }):wpAny (model prog w) A (pyNext (.ref z)) Q E s:=by
 have ty:s.TypeIs (.ref z) "zip":=⟨_,hz,rfl⟩
 unfold pyNext
 refine wpAny_bind (wpAny_attempt (wpAny_callSpecial?_slot (name:=Str.ofString "__next__") ty F.slot_zip_next (wpAny_call_entry F.slot_zip_next ty F.entry_zip_next (zipZ_end hh D hz hT hU hi hj hl hm no fun h' e kp he => ?_) (F.args_zip_next_1 _))))
 obtain ⟨o,e1,e2⟩:=he
 exact wpAny_bind (wpAny_isInstance (T:="StopIteration") (b:=true) ⟨o,e1,e2⟩ isSubtype_stop (wpAny_pure (q _ kp)))
end
noncomputable abbrev itO (b:Bool) (l:Addr):Obj:={ cls:=.type (itN b),data:=.fields #[.ref l,.int 0 0] }
noncomputable abbrev zp1 (h:Heap) (b:Bool) (l:Addr):Heap:=h.push (itO b l)
noncomputable abbrev zp2 (h:Heap) (b c:Bool) (l m:Addr):Heap:=(zp1 h b l).push (itO c m)
noncomputable abbrev zp3 (h:Heap) (b c:Bool) (l m:Addr):Heap:=(zp2 h b c l m).push { cls:=.type "tuple",data:=.seq #[.ref h.objs.size,.ref (zp1 h b l).objs.size] }
noncomputable abbrev zp4 (h:Heap) (b c:Bool) (l m:Addr):Heap:=(zp3 h b c l m).push { cls:=.type "tuple",data:=.seq #[.none,.none] }
noncomputable abbrev zp5 (h:Heap) (b c:Bool) (l m:Addr):Heap:=(zp4 h b c l m).push { cls:=.type "zip",data:=.fields #[.none,.bool false,.bool false,.ref (zp2 h b c l m).objs.size,.ref (zp3 h b c l m).objs.size] }
set_option maxHeartbeats 4000000 in
theorem meets_zipZ (b c:Bool) (l m:Addr) (xs ys:Array Value) :
  Meets (Builtin.«zip.__new__» ⟨[.type "zip",.ref l,.ref m],[]⟩) (fun _ R s => SqIs b s.heap l xs ∧ SqIs c s.heap m ys ∧ R (.ok (.ret (.ref (zp4 s.heap b c l m).objs.size))) { s with heap:=zp5 s.heap b c l m }) :=
 .of_wp fun prog w A R s h => by
  obtain ⟨hp,g,d,tk,os⟩:=s
  obtain ⟨h1,h2,hR⟩:=h
  have hsub:=sub_zip
  cases b with
  | true =>
   have p1:Heap.IsTuple (Shared.heap ⟨hp,g,d,tk,os⟩) l xs:=h1
   cases c with
   | true =>
    have p2:Heap.IsTuple (Shared.heap ⟨hp.push { cls:=.type "tuple_iterator",data:=.fields #[.ref l,.int 0 0] },g,d,tk,os⟩) m ys:=SqIs.go (b:=true) h2 fun o e => Heap.get?_push_of_some _ e
    wp_walk using wpAny_pyIter_tuple p1,wpAny_pyIter_tuple p2
    exact ⟨_,rfl,hR⟩
   | false =>
    have p2:Heap.IsList (Shared.heap ⟨hp.push { cls:=.type "tuple_iterator",data:=.fields #[.ref l,.int 0 0] },g,d,tk,os⟩) m ys:=SqIs.go (b:=false) h2 fun o e => Heap.get?_push_of_some _ e
    wp_walk using wpAny_pyIter_tuple p1,wpAny_pyIter_list p2
    exact ⟨_,rfl,hR⟩
  | false =>
   have p1:Heap.IsList (Shared.heap ⟨hp,g,d,tk,os⟩) l xs:=h1
   cases c with
   | true =>
    have p2:Heap.IsTuple (Shared.heap ⟨hp.push { cls:=.type "list_iterator",data:=.fields #[.ref l,.int 0 0] },g,d,tk,os⟩) m ys:=SqIs.go (b:=true) h2 fun o e => Heap.get?_push_of_some _ e
    wp_walk using wpAny_pyIter_list p1,wpAny_pyIter_tuple p2
    exact ⟨_,rfl,hR⟩
   | false =>
    have p2:Heap.IsList (Shared.heap ⟨hp.push { cls:=.type "list_iterator",data:=.fields #[.ref l,.int 0 0] },g,d,tk,os⟩) m ys:=SqIs.go (b:=false) h2 fun o e => Heap.get?_push_of_some _ e
    wp_walk using wpAny_pyIter_list p1,wpAny_pyIter_list p2
    exact ⟨_,rfl,hR⟩
theorem call_zipZ {prog:Program} {w:World} {A:Around} {E:Value → Shared → Prop} {s:Shared} {b c:Bool} {l m:Addr} {xs ys:Array Value} {Q:Value → Shared → Prop} (h1:SqIs b s.heap l xs) (h2:SqIs c s.heap m ys)
  (q:∀ h',IsZip h' (s.heap.objs.size + 4) (s.heap.objs.size + 2) (s.heap.objs.size + 3) .none → IsPair h' (s.heap.objs.size + 2) (.ref s.heap.objs.size) (.ref (s.heap.objs.size + 1)) →
   IsPair h' (s.heap.objs.size + 3) .none .none → SqIt b h' s.heap.objs.size l 0 → SqIt c h' (s.heap.objs.size + 1) m 0 → h'.objs.size = s.heap.objs.size + 5 →
   (∀ d o,s.heap.get? d = some o → h'.get? d = some o) → Q (.ref (s.heap.objs.size + 4)) { s with heap:=h' }) :
  wpAny (model prog w) A (call (.type "zip") [.ref l,.ref m]) Q E s:=by
 refine callType_new F.called_zip (by decide) (F.typeCall_zip_2 _ _) (F.newCall_zip_2 _ _) (fun ob => F.args_object_init_3 ob _ _) F.entry_zip_new (meets_zipZ b c l m xs ys) ⟨h1,h2,?_⟩
 have y1:(zp1 s.heap b l).objs.size = s.heap.objs.size + 1:=Heap.size_push ..
 have y2:(zp2 s.heap b c l m).objs.size = s.heap.objs.size + 2:=by rw [Heap.size_push,y1]
 have y3:(zp3 s.heap b c l m).objs.size = s.heap.objs.size + 3:=by rw [Heap.size_push,y2]
 have y4:(zp4 s.heap b c l m).objs.size = s.heap.objs.size + 4:=by rw [Heap.size_push,y3]
 have y5:(zp5 s.heap b c l m).objs.size = s.heap.objs.size + 5:=by rw [Heap.size_push,y4]
 have f5:(zp5 s.heap b c l m).get? (zp4 s.heap b c l m).objs.size = some _:=Heap.get?_push_size _ rfl
 have f4:(zp5 s.heap b c l m).get? (zp3 s.heap b c l m).objs.size = some _:=Heap.get?_push_of_some _ (Heap.get?_push_size _ rfl)
 have f3:(zp5 s.heap b c l m).get? (zp2 s.heap b c l m).objs.size = some _:=Heap.get?_push_of_some _ (Heap.get?_push_of_some _ (Heap.get?_push_size _ rfl))
 have f2:(zp5 s.heap b c l m).get? (zp1 s.heap b l).objs.size = some _:=Heap.get?_push_of_some _ (Heap.get?_push_of_some _ (Heap.get?_push_of_some _ (Heap.get?_push_size _ rfl)))
 have f1:(zp5 s.heap b c l m).get? s.heap.objs.size = some _:=Heap.get?_push_of_some _ (Heap.get?_push_of_some _ (Heap.get?_push_of_some _ (Heap.get?_push_of_some _ (Heap.get?_push_size _ rfl))))
 show _ ∧ _
 rw [y2,y3,y4] at f5
 rw [y1,y2] at f3
 rw [y3] at f4
 rw [y1] at f2
 rw [y4]
 exact ⟨⟨_,f5,rfl⟩,q _ f5 f3 f4 ⟨_,f1,rfl,rfl⟩ ⟨_,f2,rfl,rfl⟩ y5 fun d o p => Heap.get?_push_of_some _ (Heap.get?_push_of_some _ (Heap.get?_push_of_some _ (Heap.get?_push_of_some _ (Heap.get?_push_of_some _ p))))⟩
end L2

set_option Elab.async false
set_option linter.all false
set_option maxRecDepth 100000
namespace L2
open PySem PySem.Spec PyProof.Rows
section
variable {X:Cx} {pins:List (Addr × Obj)} {σ:St} {H:Hp} {s:Shared} {h':Heap}
theorem Inv.turnedF {t':Nat} {fp:List Addr} (I:Inv X pins σ H s) (k:∀ b o,b ∉ fp → s.heap.get? b = some o → h'.get? b = some o) (f:∀ b ∈ fp,FpOk X pins H b):Inv X pins σ H { s with heap:=h',toks:=t' }:=by
 have nit:∀ b u,H b = some u → b ∉ fp:=fun b u q z => by rw [(f b z).1] at q; cases q
 refine I.step (g':=s.gens) (d':=s.drawn) (ch:=fp) (fun b hb => ?_) (fun b o _ _ hc q _ => k b o hc q) (fun b o _ _ hc q _ => ⟨o.slots,k b o hc q⟩) (fun _ _ _ _ n => n)
  (fun b o hc q => ⟨o,k b o hc q⟩) (fun _ _ q => q) (fun _ _ _ q => q) (fun b ps q => ⟨#[],by rw [q]; simp⟩) (fun m hm => ?_) (fun b u q => ?_) I.bare
 ·obtain ⟨b0,b1,b2,b3,b4,b5⟩:=f b hb
  exact ⟨b3,b1,b4,b5⟩
 ·obtain ⟨o,es,ep,ho,r⟩:=hm
  exact ⟨o,es,ep,k _ o (fun z => (f _ z).2.1 rfl) ho,r⟩
 ·refine (I.hok b u q).stay (fun c v hc q' => ?_) (fun _ q => q) fun _ _ q => q
  rcases hc with z | z
  ·rw [z] at q' ⊢; exact k _ _ (nit b u q) q'
  ·exact k c v (nit c _ z) q'
end
noncomputable def SqB (b:Bool) (K:PySem.W.Frag) (H:Hp) (a:Addr) (xs:List V):Prop:=match b with
 | true => SqT K H a xs
 | false => SqL K H a xs
theorem Inv.sqB {X:Cx} {pins:List (Addr × Obj)} {σ:St} {H:Hp} {s:Shared} {b:Bool} {a:Addr} {xs:List V} (I:Inv X pins σ H s) (h:SqB b X.K H a xs):∃ its:List Value,Vals xs its ∧ SqIs b s.heap a its.toArray:=by
 cases b with
 | true => obtain ⟨its,r,p,_⟩:=I.tuple h; exact ⟨its,r,p⟩
 | false => obtain ⟨its,r,p,_⟩:=I.list h; exact ⟨its,r,p.isList⟩
theorem Inv.sqB_inj {X:Cx} {pins:List (Addr × Obj)} {σ:St} {H:Hp} {s:Shared} {b:Bool} {a:Addr} {xs ys:List V} (I:Inv X pins σ H s) (h:SqB b X.K H a xs) (h':SqB b X.K H a ys):xs = ys:=by
 cases b with
 | true => exact I.tuple_inj h h'
 | false => exact I.list_inj h h'
noncomputable def Itz (K:PySem.W.Frag) (b c:Bool) (l m:Addr) (n:Nat):It :=
  ⟨fun i H => (∃ xs ys,SqB b K H l xs ∧ SqB c K H m ys ∧ min xs.length ys.length = n) ∧ i < n,
   fun i H x H' => ∃ T u v,x = .ref T ∧ H T = none ∧ H' = upd H T (.tup [u,v]) ∧ (∀ xs,SqB b K H l xs → xs[i]? = some u) ∧ ∀ ys,SqB c K H m ys → ys[i]? = some v,
   fun i H => (∃ xs ys,SqB b K H l xs ∧ SqB c K H m ys ∧ min xs.length ys.length = n) ∧ n ≤ i⟩
theorem turn_zip {P:Program} {w:World} {K:PySem.W.Frag} {elts:List Expr} {x1:Nat} {pt:Pos} (b c:Bool) (l m z T U i1 i2:Addr) (n:Nat):Turn P w K (.Tuple elts x1 pt) (Itz K b c l m n) [z,T,U,i1,i2] z
  (fun i h => IsZip h z T U .none ∧ IsPair h T (.ref i1) (.ref i2) ∧ (∃ u v,IsPair h U u v) ∧ SqIt b h i1 l i ∧ SqIt c h i2 m i ∧ ZipApart z T U i1 i2 l m ∧ i ≤ n) where
 mem:=by simp
 obj:=fun i h st d hd => by
  obtain ⟨a1,a2,⟨u,v,a3⟩,⟨o4,a4,_,d4⟩,⟨o5,a5,_,d5⟩,_⟩:=st
  simp only [List.mem_cons,List.not_mem_nil,or_false] at hd
  rcases hd with rfl | rfl | rfl | rfl | rfl
  ·exact ⟨_,a1,fun v y => by cases y⟩
  ·exact ⟨_,a2,fun v y => by cases y⟩
  ·exact ⟨_,a3,fun v y => by cases y⟩
  ·exact ⟨o4,a4,fun v y => by rw [d4] at y; cases y⟩
  ·exact ⟨o5,a5,fun v y => by rw [d5] at y; cases y⟩
 keep:=fun i h h' st k => by
  obtain ⟨a1,a2,⟨u,v,a3⟩,a4,a5,a6,a7⟩:=st
  exact ⟨k z (by simp) _ a1,k T (by simp) _ a2,⟨u,v,k U (by simp) _ a3⟩,a4.go fun o e => k i1 (by simp) o e,a5.go fun o e => k i2 (by simp) o e,a6,a7⟩
 item:=by
  intro X hP hw hK hc i pins s σ H E I hf st hg
  subst hP hw hK
  obtain ⟨⟨xs,ys,hq,hq2,hmin⟩,hin⟩:=hg
  obtain ⟨a1,a2,⟨u0,v0,a3⟩,a4,a5,D,le⟩:=st
  obtain ⟨its,rv,p⟩:=I.sqB hq
  obtain ⟨its2,rv2,p2⟩:=I.sqB hq2
  have l1:=rv.length
  have l2:=rv2.length
  have hx:xs[i]? = some (xs[i]'(by omega)):=by simp
  have hy:ys[i]? = some (ys[i]'(by omega)):=by simp
  generalize xs[i]'(by omega) = x at hx
  generalize ys[i]'(by omega) = y at hy
  obtain ⟨u,hu,ru⟩:=rv.get hx
  obtain ⟨v,hv,rv3⟩:=rv2.get hy
  refine pyNextZ_item D a1 a2 a3 a4 a5 p p2 (by simpa using hu) (by simpa using hv) fun h1 b1 b2 b3 b4 b5 b6 kp => ?_
  refine ⟨_,rfl,?_⟩
  have In:H s.heap.objs.size = none:=I.hok.fresh (Nat.le_refl _)
  have lt:∀ {d o},s.heap.get? d = some o → d ≠ s.heap.objs.size:=fun e => Nat.ne_of_lt (Heap.lt_size e)
  have n1:=lt a1
  have n2:=lt a2
  have n3:=lt a3
  have n4:i1 ≠ s.heap.objs.size:=by obtain ⟨o,e,_⟩:=a4; exact lt e
  have n5:i2 ≠ s.heap.objs.size:=by obtain ⟨o,e,_⟩:=a5; exact lt e
  have ne:∀ d ∈ [z,T,U,i1,i2],d ≠ s.heap.objs.size:=fun d hd => by
   simp only [List.mem_cons,List.not_mem_nil,or_false] at hd
   rcases hd with rfl | rfl | rfl | rfl | rfl <;> assumption
  have I1:Inv X pins σ (upd H s.heap.objs.size (.tup [x,y])) { s with heap:=s.heap.push { cls:=.type "tuple",data:=.seq #[u,v] },toks:=s.toks } :=
   I.laid (fun b o q => Heap.get?_push_of_some _ q) (Nat.le_refl _) ⟨by simp only [List.length_cons,List.length_nil]; rw [sizeLine_eq]; decide,[u,v],.cons ru (.cons rv3 .nil),TupN.new _ _⟩
  have f1:∀ d ∈ [z,T,U,i1,i2],FpOk X pins (upd H s.heap.objs.size (.tup [x,y])) d:=fun d hd => (hf d hd).upd (ne d hd)
  have I2:Inv X pins σ (upd H s.heap.objs.size (.tup [x,y])) { s with heap:=h1,toks:=s.toks }:=I1.turnedF (t':=s.toks) (fun d o hd q => by
   simp only [List.mem_cons,List.not_mem_nil,or_false,not_or] at hd
   by_cases hs:d = s.heap.objs.size
   ·subst hs
    rw [Heap.get?_push_size s.heap rfl] at q
    cases q
    exact b5
   ·refine kp d o hd.1 hd.2.2.1 hd.2.2.2.1 hd.2.2.2.2 ?_
    rcases Heap.get?_push_cases q with y | y
    ·exact absurd y.1 hs
    ·exact y) f1
  refine wpAny_letOwnedTupleGo_zip b1 fun h2 c1 c2 => ?_
  have I3:=I2.turnedF (t':=s.toks) (h':=h2) (fp:=[z,T,U,i1,i2]) (fun d o hd q => (c2.2 d (fun e => hd (by simp [e]))).trans q) f1
  refine ⟨.ref s.heap.objs.size,_,I3,rfl,⟨_,x,y,rfl,In,rfl,fun zs hzs => by rw [I.sqB_inj hzs hq]; exact hx,fun zs hzs => by rw [I.sqB_inj hzs hq2]; exact hy⟩,⟨c1,?_,⟨u,v,(c2.2 U D.TOz).trans b2⟩,b3.go fun o e => (c2.2 i1 D.i1z).trans e,b4.go fun o e => (c2.2 i2 D.i2z).trans e,D,hin⟩,fun d hd => (f1 d hd).1⟩
  exact (c2.2 T D.TIz).trans (kp T _ D.TIz D.TITO D.TIi1 D.TIi2 a2)
 done:=by
  intro X hP hw hK hc i pins s σ H E I hf st hg
  subst hP hw hK
  obtain ⟨⟨xs,ys,hq,hq2,hmin⟩,hin⟩:=hg
  obtain ⟨a1,a2,⟨u0,v0,a3⟩,a4,a5,D,le⟩:=st
  obtain ⟨its,rv,p⟩:=I.sqB hq
  obtain ⟨its2,rv2,p2⟩:=I.sqB hq2
  have l1:=rv.length
  have l2:=rv2.length
  refine pyNextZ_end (I.ok.hd hc) D a1 a2 a3 a4 a5 p p2 ?_ fun h' kp => ⟨rfl,I.turnedF (t':=s.toks) (fp:=[z,T,U,i1,i2]) (fun d o hd q => ?_) hf⟩
  ·rcases Nat.le_total xs.length ys.length with h | h
   ·left; simp; omega
   ·right; simp; omega
  ·simp only [List.mem_cons,List.not_mem_nil,or_false,not_or] at hd
   exact kp d o hd.1 hd.2.2.1 hd.2.2.2.1 hd.2.2.2.2 q
 self:=fun _ _ _ _ _ st h => wpAny_pyIter_zip st.1 h
noncomputable def seqD:D → Option (Bool × List D)
 | .tup es => some (true,es)
 | .lst es => some (false,es)
 | _ => none
noncomputable def zipD:List D → List D → List D
 | a :: as,b :: bs => .tup [a,b] :: zipD as bs
 | _,_ => []
theorem zipD_get:∀ (as bs:List D) (i:Nat),(zipD as bs)[i]? = match as[i]?,bs[i]? with | some a,some b => some (.tup [a,b]) | _,_ => none
 | [],bs,i => by simp [zipD]
 | a :: as,[],i => by
  simp only [zipD,List.getElem?_nil]
  cases (a :: as)[i]? <;> rfl
 | a :: as,b :: bs,0 => by simp [zipD]
 | a :: as,b :: bs,i + 1 => by simp only [zipD,List.getElem?_cons_succ]; exact zipD_get as bs i
theorem zipD_len:∀ (as bs:List D),(zipD as bs).length = min as.length bs.length
 | [],bs => by simp [zipD]
 | a :: as,[] => by simp [zipD]
 | a :: as,b :: bs => by simp only [zipD,List.length_cons,zipD_len as bs]; omega
noncomputable def diZip (ta:TAd):TId:=fun Δ M R => ta Δ M fun ds M1 => ∃ x y b c es fs,ds = [x,y] ∧ seqD x = some (b,es) ∧ seqD y = some (c,fs) ∧ R (zipD es fs) M1
theorem boot_zip:bootBuiltins "zip" = some (.type "zip"):=by kernel_rfl
theorem seqD_rep {K:PySem.W.Frag} {M:DH} {H:Hp} {x:D} {b:Bool} {es:List D} {v:V} (h:seqD x = some (b,es)) (r:Rep K M H x v):∃ a vs,v = .ref a ∧ RepL K M H es vs ∧ SqB b K H a vs ∧ ∀ M' H',Ext M H M' H' → SqB b K H' a vs ∧ RepL K M' H' es vs:=by
 cases x with
 | tup ds =>
  cases h
  simp only [Rep] at r
  obtain ⟨a,vs,rfl,t,rl⟩:=r
  exact ⟨a,vs,rfl,rl,t.sq,fun M' H' e => ⟨(t.ext e).sq,rl.ext e⟩⟩
 | lst ds =>
  cases h
  simp only [Rep] at r
  obtain ⟨a,vs,rfl,t,rl⟩:=r
  exact ⟨a,vs,rfl,rl,SqL.of t.1,fun M' H' e => ⟨SqL.of (t.ext e).1,rl.ext e⟩⟩
 | _ => cases h
section
variable {X:Cx} {a1 a2:Expr} {t:TAd} {pos:Pos}
theorem i_zip {elts:List Expr} {x1:Nat} {pt p:Pos} (hg:Gl X "zip") (hm:X.mg "zip" = none) (ha:PAd X [a1,a2] t) (hs:starEach [a1,a2] X.env = (false,eval a1 X.env) :: starEach [a2] X.env:=by rfl) (hpl:(backTo pos (starEach [a2] X.env)).any (·.1) = false:=by rfl):PId X (.Tuple elts x1 pt) (.Call (.Name "zip" p) [a1,a2] [] pos) (diZip t):=by
 intro pins s σ H R I hh
 obtain ⟨Δ,M,R',sr,hr,q,k⟩:=hh
 refine Call_ (ld_blt I hg hm boot_zip (PyProof.Rows.callWith_type1 (thn (ha pos pins s σ H (fun vs H1 => ∃ x y b c es fs M1,seqD x = some (b,es) ∧ seqD y = some (c,fs) ∧ RepL X.K M1 H1 [x,y] vs ∧ R' (zipD es fs) M1 ∧ Ext M H M1 H1 ∧ HR X.K M1 H1) I ⟨Δ,M,_,sr,hr,q,fun ds M1 vs H1 ⟨x,y,b,c,es,fs,ed,ex,ey,q1⟩ e1 hr1 rv => ⟨x,y,b,c,es,fs,M1,ex,ey,by rw [← ed]; exact rv,q1,e1,hr1⟩⟩) fun us s1 ⟨vs,H1,I1,r1,x,y,b,c,es,fs,M1,ex,ey,rv,q1,e1,hr1⟩ => ?_) hs hpl))
 obtain ⟨v1,v2,rfl,rx,ry⟩:∃ v1 v2,vs = [v1,v2] ∧ Rep X.K M1 H1 x v1 ∧ Rep X.K M1 H1 y v2:=by
  simp only [RepL] at rv
  obtain ⟨v1,ws,rfl,h1,v2,ws2,rfl,h2,rfl⟩:=rv
  exact ⟨v1,v2,rfl,h1,h2⟩
 obtain ⟨l,vs,rfl,rl,sl,kl⟩:=seqD_rep ex rx
 obtain ⟨m,ws,rfl,rm,sm,km⟩:=seqD_rep ey ry
 obtain ⟨u1,u2,rfl,w1,w2⟩:∃ u1 u2,us = [u1,u2] ∧ RelV (.ref l) u1 ∧ RelV (.ref m) u2:=by
  cases r1 with
  | cons p1 r1 =>
   cases r1 with
   | cons p2 r1 =>
    cases r1
    exact ⟨_,_,rfl,p1,p2⟩
 cases w1
 cases w2
 obtain ⟨its,rvv,pl⟩:=I1.sqB sl
 obtain ⟨its2,rvv2,pm⟩:=I1.sqB sm
 have ll:l < s1.heap.objs.size:=by obtain ⟨o,e,_⟩:=pl; exact Heap.lt_size e
 have lm:m < s1.heap.objs.size:=by obtain ⟨o,e,_⟩:=pm; exact Heap.lt_size e
 refine call_zipZ pl pm fun h' c1 c2 c3 c4 c5 c6 kp => ?_
 refine wpAny_pyIter_zip c1 ?_
 have DA:ZipApart (s1.heap.objs.size + 4) (s1.heap.objs.size + 2) (s1.heap.objs.size + 3) s1.heap.objs.size (s1.heap.objs.size + 1) l m:=zipApart_new ll lm
 refine ⟨_,[_,_,_,_,_],_,_,H1,rfl,I1.kept (t':=s1.toks) kp,turn_zip b c l m _ _ _ _ _ (min es.length fs.length),⟨c1,c2,⟨_,_,c3⟩,c4,c5,DA,Nat.zero_le _⟩,fun d hd => ?_,?_⟩
 ·have hle:s1.heap.objs.size ≤ d:=by
   simp only [List.mem_cons,List.not_mem_nil,or_false] at hd
   rcases hd with rfl | rfl | rfl | rfl | rfl
   ·exact Nat.le_add_right _ _
   ·exact Nat.le_add_right _ _
   ·exact Nat.le_add_right _ _
   ·exact Nat.le_refl _
   ·exact Nat.le_add_right _ _
  exact I1.fpOk hle (I1.hok.fresh hle)
 ·have h1:=rl.length
  have h2:=rm.length
  refine k _ M1 _ H1 q1 e1 hr1 fun M2 H2 e2 hr2 i => ⟨fun d hd => ?_,fun hl => ⟨⟨vs,ws,(kl _ _ e2).1,(km _ _ e2).1,by omega⟩,by rw [zipD_len] at hl; exact hl⟩⟩
  rw [zipD_get] at hd
  cases hda:es[i]? with
  | none => rw [hda] at hd; cases hd
  | some d1 =>
   cases hdb:fs[i]? with
   | none => rw [hda,hdb] at hd; cases hd
   | some d2 =>
    rw [hda,hdb] at hd
    have hd':D.tup [d1,d2] = d:=by simpa using hd
    subst hd'
    have hi:i < es.length:=(List.getElem?_eq_some_iff.mp hda).1
    have hi2:i < fs.length:=(List.getElem?_eq_some_iff.mp hdb).1
    obtain ⟨g1,gv,g2⟩:=(kl _ _ e2).2.get hda
    obtain ⟨g3,gw,g4⟩:=(km _ _ e2).2.get hdb
    refine ⟨⟨⟨vs,ws,(kl _ _ e2).1,(km _ _ e2).1,by omega⟩,by omega⟩,fun x' H' ⟨T,u,v,ex',hT,eH,hy1,hy2⟩ => ?_⟩
    subst ex'; subst eH
    have z1:=hy1 vs (kl _ _ e2).1
    have z2:=hy2 ws (km _ _ e2).1
    rw [gv] at z1; cases z1
    rw [gw] at z2; cases z2
    refine ⟨Ext.new hr2 hT,hr2.new hT,?_⟩
    simp only [Rep]
    refine ⟨T,[g1,g3],rfl,.inl ⟨.inl upd_same,hr2.fresh hT⟩,?_⟩
    exact RepL.cons (g2.ext (Ext.new hr2 hT)) (RepL.cons (g4.ext (Ext.new hr2 hT)) RepL.nil)
theorem qi_zip {elts:List Expr} {x1:Nat} {pt p:Pos} (hg:Gl X "zip") (hm:X.mg "zip" = none) (ha:QAd X [a1,a2] t) (hs:starEach [a1,a2] X.env = (false,eval a1 X.env) :: starEach [a2] X.env:=by rfl) (hpl:(backTo pos (starEach [a2] X.env)).any (·.1) = false:=by rfl):QId X (.Tuple elts x1 pt) (.Call (.Name "zip" p) [a1,a2] [] pos) (diZip t):=by
 simp only [QEd.eq,QAd.eq,QTd.eq,QWd.eq,QSd.eq,QSs.eq,QId.eq,QIf.eq,QOd.eq] at *
 exact i_zip hg hm ha hs hpl
end
end L2

set_option Elab.async false
set_option linter.all false
set_option maxRecDepth 100000
namespace L2
open PySem PySem.Spec PyProof.Rows
section
variable {X:Cx} {scope:Scope} {cl:List (Str × Addr)} {extra:List Str} {tg:Expr} {pos:Pos}
/-! targets of a comprehension that has others in it: names that stay its own,and tuples -/
theorem gaC_loc {i:Nat} {x:Str} (hN:(X.N ++ extra).Nodup) (hi:(X.N ++ extra)[i]? = some x) (hx:(relabel scope X.env).names.lookup x = some .local):PGaC X scope cl extra (.Name x pos) (gdName i) :=
 ⟨gName i,fun C s H ex => pg_name hN hi (.inl hx) (.inr hx),fun d v σ Δ Δ' M H Q sr hr rv e k => by cases e; exact k _ (sr.set i rv)⟩
noncomputable def PGsC (X:Cx) (scope:Scope) (cl:List (Str × Addr)) (extra:List Str) (tgs:List Expr) (g:GDs):Prop:=∃ gv:TGs,(∀ C s H ex,PGs (cxC X scope cl (X.N ++ extra) C s H ex) tgs gv) ∧ ∀ (ds:List D) (vs:List V) (σ:St) (Δ Δ':DE) (M:DH) (H:Hp) (Q:St → Hp → Prop),SR X.K M H σ Δ → HR X.K M H → RepL X.K M H ds vs → g ds Δ = some Δ' → (∀ σ',SR X.K M H σ' Δ' → Q σ' H) → gv vs σ H Q
theorem gsC_nil:PGsC X scope cl extra [] gdNil:=⟨gNil,fun _ _ _ _ => pgs_nil,fun ds vs σ Δ Δ' M H Q sr hr rv e k => by
 cases ds with
 | nil => simp only [RepL] at rv; subst rv; cases e; exact ⟨rfl,k _ sr⟩
 | cons _ _ => cases e⟩
theorem gsC_cons {tgs:List Expr} {g:GD} {gs:GDs} (h1:PGaC X scope cl extra tg g) (h2:PGsC X scope cl extra tgs gs)
  (hs:∀ env,(assignEach (tg :: tgs) env).map (·.2) = assign tg env :: (assignEach tgs env).map (·.2):=by intro _; rfl):PGsC X scope cl extra (tg :: tgs) (gdCons g gs):=by
 obtain ⟨g1,p1,k1⟩:=h1
 obtain ⟨g2,p2,k2⟩:=h2
 refine ⟨gCons g1 g2,fun C s H ex => pgs_cons (p1 C s H ex) (p2 C s H ex) (hs _),fun ds vs σ Δ Δ' M H Q sr hr rv e k => ?_⟩
 cases ds with
 | nil => cases e
 | cons d r =>
  simp only [RepL] at rv
  obtain ⟨v,ws,rfl,h3,h4⟩:=rv
  simp only [gdCons] at e
  cases q:g d Δ with
  | none => rw [q] at e; cases e
  | some Δ1 =>
   rw [q] at e
   exact ⟨v,ws,rfl,k1 d v σ Δ Δ1 M H _ sr hr h3 q fun σ1 sr1 => k2 r ws σ1 Δ1 Δ' M H Q sr1 hr h4 e k⟩
theorem gaC_tup {tgs:List Expr} {kx:Nat} {g:GDs} {n:Nat} (hc:X.calm = true) (h:PGsC X scope cl extra tgs g) (hn:∀ env,(assignEach tgs env).length = n:=by intro _; rfl) (hst:∀ env,(assignEach tgs env).findIdx? (·.1) = none:=by intro _; rfl):PGaC X scope cl extra (.Tuple tgs kx pos) (gdTup g n):=by
 obtain ⟨g1,p1,k1⟩:=h
 refine ⟨gTup X.K n g1,fun C s H ex => pg_tup (X:=cxC X scope cl (X.N ++ extra) C s H ex) hc (p1 C s H ex) (hn _) (hst _),fun d v σ Δ Δ' M H Q sr hr rv e k => ?_⟩
 cases d with
 | tup ds =>
  simp only [gdTup] at e
  by_cases hl:ds.length = n
  ·rw [if_pos hl] at e
   simp only [Rep] at rv
   obtain ⟨a,vs,rfl,ta,rl⟩:=rv
   exact ⟨a,vs,rfl,ta.sq,by rw [← rl.length]; exact hl,k1 ds vs σ Δ Δ' M H Q sr hr rl e k⟩
  ·rw [if_neg hl] at e; cases e
 | _ => cases e
end
end L2

set_option Elab.async false
set_option linter.all false
set_option maxRecDepth 100000
namespace L2
open PySem PySem.Spec PyProof.Rows
/-! ### a < b < c < d as a test -/
section
variable {X:Cx} {a b c e:Expr} {pos:Pos}
theorem pt_chain3 {ta tb tc te:TE} {op op' op'':CmpOp} {r r' r'':R2} (ho:OpR X (compareOp op) r) (ho':OpR X (compareOp op') r') (ho'':OpR X (compareOp op'') r'') (ha:PE X a ta) (hb:PE X b tb) (hc:PE X c tc) (he:PE X e te)
  (hm:lastMarks [op,op',op''] [b,c,e] = false:=by with_unfolding_all rfl):PT X (.Compare a [op,op',op''] [b,c,e] pos) (tTest (tChain3 r r' r'' ta tb tc te)):=by
 intro pins s σ H Q I h
 refine isTrue_chain (thn (ha pins s σ H _ I h) fun v s1 ⟨x,H1,I1,r1,q1⟩ => test_link (thn (hb pins s1 σ H1 _ I1 q1) fun u s2 ⟨y,H2,I2,r2,q2⟩ =>
  thn (ho pins s2 σ H2 x y v u _ I2 r1 r2 q2) fun d s3 ⟨z,H3,I3,r3,k,e,q3⟩ => ?_)) hm
 subst e
 cases r3
 refine wpAny_truthy_bool ?_
 cases k with
 | false =>
  obtain ⟨k',e',q'⟩:=q3
  cases e'
  exact ite_ff ⟨H3,I3,q'⟩
 | true =>
  refine ite_tt (test_link (thn (hc pins s3 σ H3 _ I3 q3) fun w' s4 ⟨z',H4,I4,r4,q4⟩ => thn (ho' pins s4 σ H4 y z' u w' _ I4 r2 r4 q4) fun d' s5 ⟨z5,H5,I5,r5,k5,e5,q5⟩ => ?_))
  subst e5
  cases r5
  refine wpAny_truthy_bool ?_
  cases k5 with
  | false =>
   obtain ⟨k',e',q'⟩:=q5
   cases e'
   exact ite_ff ⟨H5,I5,q'⟩
  | true =>
   refine ite_tt (test_last (thn (he pins s5 σ H5 _ I5 q5) fun w6 s6 ⟨z6,H6,I6,r6,q6⟩ => thn (ho'' pins s6 σ H6 z' z6 w' w6 _ I6 r4 r6 q6) fun d7 s7 ⟨z7,H7,I7,r7,k7,e7,q7⟩ => ?_))
   subst e7
   cases r7
   exact wpAny_truthy_bool ⟨H7,I7,q7⟩
theorem d_tchain3 {ta tb tc te:TEd} {op op' op'':CmpOp} {r r' r'':D → D → Option D} (ho:OpRd X (compareOp op) r) (ho':OpRd X (compareOp op') r') (ho'':OpRd X (compareOp op'') r'') (ha:PEd X a ta) (hb:PEd X b tb) (hc:PEd X c tc) (he:PEd X e te)
  (hm:lastMarks [op,op',op''] [b,c,e] = false:=by with_unfolding_all rfl):PTd X (.Compare a [op,op',op''] [b,c,e] pos) (dTst (dChain3 r r' r'' ta tb tc te)):=by
 refine (pt_chain3 ho.v ho'.v ho''.v ha hb hc he hm).conv fun σ H Q h => ?_
 obtain ⟨Δ,M,R,sr,hr,q,k⟩:=h
 refine ⟨Δ,M,_,sr,hr,q,fun x M1 v H1 q1 e1 hr1 rv => ⟨Δ,M1,_,sr.ext e1,hr1,q1,fun y M2 u H2 ⟨b,eb,q2⟩ e2 hr2 ru => ⟨_,_,.bl b,M2,hr2,(rv.ext e2).rd hr2,ru.rd hr2,eb,fun w H3 e3 hr3 rw_ =>
  ⟨b,by simpa only [Rep] using rw_,?_⟩⟩⟩⟩
 cases b with
 | true =>
  simp only [if_true] at q2 ⊢
  refine ⟨Δ,M2,_,(sr.ext (e1.trans e2)).ext e3,hr3,q2,fun z M4 w4 H4 ⟨b4,ed,q4⟩ e4 hr4 r4 => ⟨_,_,.bl b4,M4,hr4,((ru.ext e3).ext e4).rd hr4,r4.rd hr4,ed,fun w5 H5 e5 hr5 r5 => ⟨b4,by simpa only [Rep] using r5,?_⟩⟩⟩
  cases b4 with
  | true =>
   simp only [if_true] at q4 ⊢
   exact ⟨Δ,M4,_,(((sr.ext (e1.trans e2)).ext e3).ext e4).ext e5,hr5,q4,fun z6 M6 w6 H6 ⟨d6,ed6,kb,ekb,q6⟩ e6 hr6 r6 => ⟨_,_,d6,M6,hr6,((r4.ext e5).ext e6).rd hr6,r6.rd hr6,ed6,fun w7 H7 e7 hr7 r7 => ⟨kb,by subst ekb; simpa only [Rep] using r7,k kb M6 H7 q6 ((((((e1.trans e2).trans e3).trans e4).trans e5).trans e6).trans e7) hr7⟩⟩⟩
  | false =>
   simp only [Bool.false_eq_true,if_false] at q4 ⊢
   obtain ⟨kb,ekb,q4⟩:=q4
   cases ekb
   exact ⟨false,rfl,k _ M4 H5 q4 ((((e1.trans e2).trans e3).trans e4).trans e5) hr5⟩
 | false =>
  simp only [Bool.false_eq_true,if_false] at q2 ⊢
  obtain ⟨kb,ekb,q2⟩:=q2
  cases ekb
  exact ⟨false,rfl,k _ M2 H3 q2 ((e1.trans e2).trans e3) hr3⟩
theorem q_tchain3 {ta tb tc te:TEd} {op op' op'':CmpOp} {r r' r'':D → D → Option D} (ho:OpRd X (compareOp op) r) (ho':OpRd X (compareOp op') r') (ho'':OpRd X (compareOp op'') r'') (ha:QEd X a ta) (hb:QEd X b tb) (hc:QEd X c tc) (he:QEd X e te)
  (hm:lastMarks [op,op',op''] [b,c,e] = false:=by with_unfolding_all rfl):QTd X (.Compare a [op,op',op''] [b,c,e] pos) (dTst (dChain3 r r' r'' ta tb tc te)):=by
 simp only [QEd.eq,QTd.eq] at *
 exact d_tchain3 ho ho' ho'' ha hb hc he hm
end
end L2

set_option Elab.async false
set_option linter.all false
set_option maxRecDepth 100000
set_option maxHeartbeats 4000000
namespace My
open PySem PySem.Spec PyProof.Rows L2
noncomputable def top (i:Nat):Stmt:=PySem.Challenge.pw_wordwishes_k50_lexicons_mirrored.main.body.getD i (.Pass ⟨0,0,0,0⟩)
noncomputable abbrev s_p_is_whole:Stmt:=top 3
noncomputable abbrev s_p_is_tuple_of:Stmt:=top 4
noncomputable abbrev s_p_is_short_word:Stmt:=top 5
noncomputable abbrev s_p_reached_from:Stmt:=top 7
noncomputable abbrev s_p_at_most:Stmt:=top 8
noncomputable abbrev s_p_mark_leads:Stmt:=top 10
noncomputable abbrev s_p_cancel:Stmt:=top 11
noncomputable abbrev s_p_mirror:Stmt:=top 12
noncomputable abbrev s_p_is_arc:Stmt:=top 14
noncomputable abbrev s_p_are_arcs:Stmt:=top 15
noncomputable abbrev s_p_some_cross:Stmt:=top 16
noncomputable abbrev s_p_is_drawing:Stmt:=top 17
noncomputable abbrev s_p_words_of:Stmt:=top 23
noncomputable abbrev s_p_has_word:Stmt:=top 24
noncomputable abbrev s_p_kinds_of:Stmt:=top 25
noncomputable abbrev s_p_refuse_other_words:Stmt:=top 26
noncomputable abbrev s_p_goals_wish:Stmt:=top 28
noncomputable abbrev s_p_signs_of:Stmt:=top 30
noncomputable abbrev s_p_is_choice:Stmt:=top 32
noncomputable abbrev s_p_is_words_drawing:Stmt:=top 33
noncomputable abbrev s_p_refuse_no_drawing:Stmt:=top 34
noncomputable abbrev s_p_mirrored:Stmt:=top 36
noncomputable abbrev s_p_mirrored_arc:Stmt:=top 37
noncomputable abbrev s_p_mirrored_drawing:Stmt:=top 38
noncomputable abbrev s_l_parts:Stmt:=top 40
noncomputable abbrev s_l_letters:Stmt:=top 41
noncomputable abbrev s_l_most:Stmt:=top 42
noncomputable abbrev s_l_matched:Stmt:=top 43
noncomputable abbrev s_l_signs:Stmt:=top 44
noncomputable abbrev s_l_cut:Stmt:=top 45
noncomputable abbrev s_l_kinds:Stmt:=top 46
noncomputable abbrev s_l_sentence:Stmt:=top 47
noncomputable abbrev s_l_cancel:Stmt:=top 48
noncomputable abbrev s_l_whole:Stmt:=top 49
noncomputable abbrev s_l_arcs_right:Stmt:=top 50
noncomputable abbrev s_l_drawn:Stmt:=top 51
noncomputable abbrev s_l_mirrored:Stmt:=top 52
noncomputable abbrev s_law:Stmt:=top 53
noncomputable abbrev n_p_is_whole:List Str:=["thing"]
theorem sc_p_is_whole:FnScope n_p_is_whole ["thing"] (defScope s_p_is_whole):=⟨rfl,rfl,rfl,by decide +kernel,rfl,by decide +kernel,by decide +kernel⟩
noncomputable abbrev n_p_is_tuple_of:List Str:=["thing","many"]
theorem sc_p_is_tuple_of:FnScope n_p_is_tuple_of ["thing","many"] (defScope s_p_is_tuple_of):=⟨rfl,rfl,rfl,by decide +kernel,rfl,by decide +kernel,by decide +kernel⟩
noncomputable abbrev n_p_is_short_word:List Str:=["thing"]
theorem sc_p_is_short_word:FnScope n_p_is_short_word ["thing"] (defScope s_p_is_short_word):=⟨rfl,rfl,rfl,by decide +kernel,rfl,by decide +kernel,by decide +kernel⟩
noncomputable abbrev n_p_reached_from:List Str:=["pairs","mark","reached","at","low","high"]
theorem sc_p_reached_from:FnScope n_p_reached_from ["pairs","mark"] (defScope s_p_reached_from):=⟨rfl,rfl,rfl,by decide +kernel,rfl,by decide +kernel,by decide +kernel⟩
noncomputable abbrev n_p_at_most:List Str:=["order","one","other"]
theorem sc_p_at_most:FnScope n_p_at_most ["order","one","other"] (defScope s_p_at_most):=⟨rfl,rfl,rfl,by decide +kernel,rfl,by decide +kernel,by decide +kernel⟩
noncomputable abbrev n_p_mark_leads:List Str:=["order","turn","one","other"]
theorem sc_p_mark_leads:FnScope n_p_mark_leads ["order","turn","one","other"] (defScope s_p_mark_leads):=⟨rfl,rfl,rfl,by decide +kernel,rfl,by decide +kernel,by decide +kernel⟩
noncomputable abbrev n_p_cancel:List Str:=["order","one","other"]
theorem sc_p_cancel:FnScope n_p_cancel ["order","one","other"] (defScope s_p_cancel):=⟨rfl,rfl,rfl,by decide +kernel,rfl,by decide +kernel,by decide +kernel⟩
noncomputable abbrev n_p_mirror:List Str:=["row"]
theorem sc_p_mirror:FnScope n_p_mirror ["row"] (defScope s_p_mirror):=⟨rfl,rfl,rfl,by decide +kernel,rfl,by decide +kernel,by decide +kernel⟩
noncomputable abbrev n_p_is_arc:List Str:=["thing","many"]
theorem sc_p_is_arc:FnScope n_p_is_arc ["thing","many"] (defScope s_p_is_arc):=⟨rfl,rfl,rfl,by decide +kernel,rfl,by decide +kernel,by decide +kernel⟩
noncomputable abbrev n_p_are_arcs:List Str:=["thing","many","ends"]
theorem sc_p_are_arcs:FnScope n_p_are_arcs ["thing","many"] (defScope s_p_are_arcs):=⟨rfl,rfl,rfl,by decide +kernel,rfl,by decide +kernel,by decide +kernel⟩
noncomputable abbrev n_p_some_cross:List Str:=["arcs"]
theorem sc_p_some_cross:FnScope n_p_some_cross ["arcs"] (defScope s_p_some_cross):=⟨rfl,rfl,rfl,by decide +kernel,rfl,by decide +kernel,by decide +kernel⟩
noncomputable abbrev n_p_is_drawing:List Str:=["order","row","arcs"]
theorem sc_p_is_drawing:FnScope n_p_is_drawing ["order","row","arcs"] (defScope s_p_is_drawing):=⟨rfl,rfl,rfl,by decide +kernel,rfl,by decide +kernel,by decide +kernel⟩
noncomputable abbrev n_p_words_of:List Str:=["lexicon"]
theorem sc_p_words_of:FnScope n_p_words_of ["lexicon"] (defScope s_p_words_of):=⟨rfl,rfl,rfl,by decide +kernel,rfl,by decide +kernel,by decide +kernel⟩
noncomputable abbrev n_p_has_word:List Str:=["lexicon","thing"]
theorem sc_p_has_word:FnScope n_p_has_word ["lexicon","thing"] (defScope s_p_has_word):=⟨rfl,rfl,rfl,by decide +kernel,rfl,by decide +kernel,by decide +kernel⟩
noncomputable abbrev n_p_kinds_of:List Str:=["lexicon","word"]
theorem sc_p_kinds_of:FnScope n_p_kinds_of ["lexicon","word"] (defScope s_p_kinds_of):=⟨rfl,rfl,rfl,by decide +kernel,rfl,by decide +kernel,by decide +kernel⟩
noncomputable abbrev n_p_refuse_other_words:List Str:=["lexicon","words","word"]
theorem sc_p_refuse_other_words:FnScope n_p_refuse_other_words ["lexicon","words"] (defScope s_p_refuse_other_words):=⟨rfl,rfl,rfl,by decide +kernel,rfl,by decide +kernel,by decide +kernel⟩
noncomputable abbrev n_p_goals_wish:List Str:=["lexicon"]
theorem sc_p_goals_wish:FnScope n_p_goals_wish ["lexicon"] (defScope s_p_goals_wish):=⟨rfl,rfl,rfl,by decide +kernel,rfl,by decide +kernel,by decide +kernel⟩
noncomputable abbrev n_p_signs_of:List Str:=["lexicon","words","choice","kinds","signs"]
theorem sc_p_signs_of:FnScope n_p_signs_of ["lexicon","words","choice"] (defScope s_p_signs_of):=⟨rfl,rfl,rfl,by decide +kernel,rfl,by decide +kernel,by decide +kernel⟩
noncomputable abbrev n_p_is_choice:List Str:=["lexicon","words","thing"]
theorem sc_p_is_choice:FnScope n_p_is_choice ["lexicon","words","thing"] (defScope s_p_is_choice):=⟨rfl,rfl,rfl,by decide +kernel,rfl,by decide +kernel,by decide +kernel⟩
noncomputable abbrev n_p_is_words_drawing:List Str:=["lexicon","words","thing"]
theorem sc_p_is_words_drawing:FnScope n_p_is_words_drawing ["lexicon","words","thing"] (defScope s_p_is_words_drawing):=⟨rfl,rfl,rfl,by decide +kernel,rfl,by decide +kernel,by decide +kernel⟩
noncomputable abbrev n_p_refuse_no_drawing:List Str:=["lexicon","words","thing"]
theorem sc_p_refuse_no_drawing:FnScope n_p_refuse_no_drawing ["lexicon","words","thing"] (defScope s_p_refuse_no_drawing):=⟨rfl,rfl,rfl,by decide +kernel,rfl,by decide +kernel,by decide +kernel⟩
noncomputable abbrev n_p_mirrored:List Str:=["lexicon","order","goal","entries"]
theorem sc_p_mirrored:FnScope n_p_mirrored ["lexicon"] (defScope s_p_mirrored):=⟨rfl,rfl,rfl,by decide +kernel,rfl,by decide +kernel,by decide +kernel⟩
noncomputable abbrev n_p_mirrored_arc:List Str:=["arc","last","left","right"]
theorem sc_p_mirrored_arc:FnScope n_p_mirrored_arc ["arc","last"] (defScope s_p_mirrored_arc):=⟨rfl,rfl,rfl,by decide +kernel,rfl,by decide +kernel,by decide +kernel⟩
noncomputable abbrev n_p_mirrored_drawing:List Str:=["lexicon","words","drawing","choice","arcs","last"]
theorem sc_p_mirrored_drawing:FnScope n_p_mirrored_drawing ["lexicon","words","drawing"] (defScope s_p_mirrored_drawing):=⟨rfl,rfl,rfl,by decide +kernel,rfl,by decide +kernel,by decide +kernel⟩
noncomputable abbrev n_l_parts:List Str:=["_law_cell","_law_sizes","_law_found","_law_size","_law_seed"]
theorem sc_l_parts:FnScope n_l_parts ["_law_cell","_law_sizes"] (defScope s_l_parts):=⟨rfl,rfl,rfl,by decide +kernel,rfl,by decide +kernel,by decide +kernel⟩
noncomputable abbrev n_l_letters:List Str:=["_law_xs","_law_amount","_law_alphabet","_law_found","_law_k","_law_rest"]
theorem sc_l_letters:FnScope n_l_letters ["_law_xs","_law_amount"] (defScope s_l_letters):=⟨rfl,rfl,rfl,by decide +kernel,rfl,by decide +kernel,by decide +kernel⟩
noncomputable abbrev n_l_most:List Str:=["_law_order","_law_one","_law_other","_law_found","_law_at","_law_low","_law_high"]
theorem sc_l_most:FnScope n_l_most ["_law_order","_law_one","_law_other"] (defScope s_l_most):=⟨rfl,rfl,rfl,by decide +kernel,rfl,by decide +kernel,by decide +kernel⟩
noncomputable abbrev n_l_matched:List Str:=["_law_xs","_law_amount","_law_held","_law_found","_law_left","_law_place"]
theorem sc_l_matched:FnScope n_l_matched ["_law_xs","_law_amount"] (defScope s_l_matched):=⟨rfl,rfl,rfl,by decide +kernel,rfl,by decide +kernel,by decide +kernel⟩
noncomputable abbrev n_l_signs:List Str:=["_law_xs","_law_arcs","_law_marks","_law_order","_law_goal","_law_near","_law_one","_law_other","_law_found","_law_k","_law_turn","_law_below"]
theorem sc_l_signs:FnScope n_l_signs ["_law_xs","_law_arcs","_law_marks","_law_order","_law_goal"] (defScope s_l_signs):=⟨rfl,rfl,rfl,by decide +kernel,rfl,by decide +kernel,by decide +kernel⟩
noncomputable abbrev n_l_cut:List Str:=["_law_xs","_law_signs_here","_law_found","_law_left","_law_size"]
theorem sc_l_cut:FnScope n_l_cut ["_law_xs","_law_signs_here"] (defScope s_l_cut):=⟨rfl,rfl,rfl,by decide +kernel,rfl,by decide +kernel,by decide +kernel⟩
noncomputable abbrev n_l_kinds:List Str:=["_law_kind","_law_xs","_law_marks","_law_kinds_here","_law_more"]
theorem sc_l_kinds:FnScope n_l_kinds ["_law_kind","_law_xs","_law_marks"] (defScope s_l_kinds):=⟨rfl,rfl,rfl,by decide +kernel,rfl,by decide +kernel,by decide +kernel⟩
noncomputable abbrev n_l_sentence:List Str:=["_law_cell","_law_xs","_law_marks","_law_words","_law_k","_law_pairs","_law_order","_law_goal","_law_arcs","_law_signs_here","_law_cuts","_law_entries","_law_choice","_law_kinds_here"]
theorem sc_l_sentence:FnScope n_l_sentence ["_law_cell"] (defScope s_l_sentence):=⟨rfl,rfl,rfl,by decide +kernel,rfl,by decide +kernel,by decide +kernel⟩
noncomputable abbrev n_l_cancel:List Str:=["_law_order","_law_one","_law_other"]
theorem sc_l_cancel:FnScope n_l_cancel ["_law_order","_law_one","_law_other"] (defScope s_l_cancel):=⟨rfl,rfl,rfl,by decide +kernel,rfl,by decide +kernel,by decide +kernel⟩
noncomputable abbrev n_l_whole:List Str:=["_law_thing"]
theorem sc_l_whole:FnScope n_l_whole ["_law_thing"] (defScope s_l_whole):=⟨rfl,rfl,rfl,by decide +kernel,rfl,by decide +kernel,by decide +kernel⟩
noncomputable abbrev n_l_arcs_right:List Str:=["_law_order","_law_row","_law_arcs","_law_ends","_law_arc","_law_one"]
theorem sc_l_arcs_right:FnScope n_l_arcs_right ["_law_order","_law_row","_law_arcs"] (defScope s_l_arcs_right):=⟨rfl,rfl,rfl,by decide +kernel,rfl,by decide +kernel,by decide +kernel⟩
noncomputable abbrev n_l_drawn:List Str:=["_law_lexicon","_law_words","_law_drawing","_law_choice","_law_arcs","_law_row","_law_k","_law_kinds_here"]
theorem sc_l_drawn:FnScope n_l_drawn ["_law_lexicon","_law_words","_law_drawing"] (defScope s_l_drawn):=⟨rfl,rfl,rfl,by decide +kernel,rfl,by decide +kernel,by decide +kernel⟩
noncomputable abbrev n_l_mirrored:List Str:=["_law_lexicon","_law_entries","_law_word","_law_kinds_here"]
theorem sc_l_mirrored:FnScope n_l_mirrored ["_law_lexicon"] (defScope s_l_mirrored):=⟨rfl,rfl,rfl,by decide +kernel,rfl,by decide +kernel,by decide +kernel⟩
noncomputable abbrev n_law:List Str:=["_law_script","_law_cell","_law_lexicon","_law_words","_law_drawing","_law_found","_law_other"]
theorem sc_law:FnScope n_law ["_law_script"] (defScope s_law):=⟨rfl,rfl,rfl,by decide +kernel,rfl,by decide +kernel,by decide +kernel⟩
structure Txt (mg:Str → Option Value):Prop where
 b_isinstance:mg "isinstance" = none
 b_int:mg "int" = none
 b_bool:mg "bool" = none
 b_tuple:mg "tuple" = none
 b_len:mg "len" = none
 b_str:mg "str" = none
 b_all:mg "all" = none
 b_reversed:mg "reversed" = none
 b_sorted:mg "sorted" = none
 b_list:mg "list" = none
 b_range:mg "range" = none
 b_any:mg "any" = none
 b_zip:mg "zip" = none
 b_max:mg "max" = none
 g_SMALL_LETTERS:∃ t,mg "SMALL_LETTERS" = some (.str "abcdefghijklmnopqrstuvwxyz" t)
 g_MOST_LETTERS:∃ t,mg "MOST_LETTERS" = some (.int 8 t)
set_option hygiene false in
local macro_rules | `(tactic| walk_at "rd") => `(tactic| simp only [dSeq,dSet,dVar,dC,dIfS,dNext,dRet,dRetF,dRetG,dOp,dUn,dTst,dOrT,dAndT,dNotT,dCB,dCons,dNil,dLst,dLstO,dTup,dPut,dApp,dDrop,dAug,dAnd,dNot,dCall,dFor,diRng1,diAny,dWhile,dIsi,dSlE,dRevSl,dMulO,dIdxL,dIdxT,diZip,dmD_ii,maxD_ii,cpow1060,dChain,dChain3,diRev,dPop,dExt,HD.dKr.injEq,minD_ii,HD.dT.injEq,HD.dK.injEq,ex_kI,ex_kS,dNever,dNoPart,dPart,dLc,dLc2,dLR,dFroze,dAsg,
 rdM_int,rdM_bl,rdM_str,rdM_non,rdM_tup,rdM_lst,rdM_scr,rdM_upd,iOp_ii,addD_ii,addD_ss,addD_ll,addD_tt,ixD_l,ixD_t,ixD_c,atI_0,atI_1,atI_2,one1_one,lenD_l,lenD_t,lenD_c,lenD_s,absD_i,tupD_l,tupD_t,eqF_ii,neF_ii,neF_ss,neF_bb,slE_t,slE_l,slE_c,slE_s,eqF_ss,eqF_bb,slD_c,slD_l,slD_s,itemsD_l,itemsD_t,itemsD_c,itemsD_s,ixN_0,ixN_1,ixN_2,inD_l,inD_t,inE_l,inE_t,inE_s,inF_l,mulE_ii,isNoneD_n,isiD_b,updM_same,updM_upd,
 startD,List.map_cons,List.map_nil,List.cons_append,List.nil_append,List.length_cons,List.length_nil,List.replicate,List.set_cons_zero,List.set_cons_succ,List.getElem?_cons_zero,List.getElem?_cons_succ,Option.some.injEq,exists_eq_left',exists_eq_left,D.int.injEq,D.bl.injEq,D.str.injEq,D.ref.injEq,D.tup.injEq,D.lst.injEq,true_and,and_true,if_true,decide_eq_true_eq,exists_and_left,Nat.zero_add,Nat.reduceAdd,Nat.reduceSub,cmulR,cmulL,cpow1018,cdivL,HD.lst.injEq,List.cons.injEq,or_true,true_or,and_self,↓reduceIte,Int.reduceLT,Int.reduceLE,Int.reducePow,Int.reduceNeg,Int.reduceToNat,Nat.reducePow,Nat.reduceLT,Nat.reduceLeDiff,Int.reduceAdd,Int.reduceMul,Int.reduceSub,Bool.false_eq_true,Bool.true_eq_false,if_false])

section
variable {P:Program} {w:World} {K:PySem.W.Frag} {mg:Str → Option Value} {base:Heap}
noncomputable def pairD (x:Str × Str):D:=.tup [.str x.1,.str x.2]
theorem updM_comm {M:DH} {p q:Addr} {a b:HD} (h:p ≠ q):updM (updM M p a) q b = updM (updM M q b) p a:=by
 funext c
 unfold updM
 by_cases h1:c = q
 ·subst h1; simp [Ne.symm h]
 ·by_cases h2:c = p
  ·subst h2; simp [h]
  ·simp [h1,h2]

end
section
variable {P:Program} {w:World} {K:PySem.W.Frag} {mg:Str → Option Value} {base:Heap}
theorem cut_to {xs:List D} {n:Nat}:L2.cutD xs none (some (n:Int)) = xs.take n:=by
 unfold L2.cutD
 rw [HT.sIx_none,HT.sIx_nat,List.drop_zero,Nat.sub_zero]
 by_cases h:n ≤ xs.length
 ·rw [Nat.min_eq_left h]
 ·rw [Nat.min_eq_right (by omega),List.take_length,List.take_of_length_le (by omega)]
theorem cut_from {xs:List D} {n:Nat}:L2.cutD xs (some (n:Int)) none = xs.drop n:=by
 unfold L2.cutD
 rw [HT.sIx_none,HT.sIx_nat]
 by_cases h:n ≤ xs.length
 ·rw [Nat.min_eq_left h,List.take_of_length_le (by simp)]
 ·rw [Nat.min_eq_right (by omega),Nat.sub_self,List.take_zero,List.drop_of_length_le (by omega)]
theorem rngD_len {lo:Int} {n:Nat}:(rngD lo n).length = n:=by simp [rngD]

end
section
variable {P:Program} {w:World} {K:PySem.W.Frag} {mg:Str → Option Value} {base:Heap}
inductive Reach (ord:List (Str × Str)) (a:Str):Str → Prop
 | refl:Reach ord a a
 | step {b c:Str}:Reach ord a b → (b,c) ∈ ord → Reach ord a c
theorem reach_in {ord:List (Str × Str)} {a x:Str} {L:List Str} (h0:a ∈ L) (hc:∀ y ∈ ord,y.1 ∈ L → y.2 ∈ L) (h:Reach ord a x):x ∈ L:=by
 induction h with
 | refl => exact h0
 | step _ hm ih => exact hc _ hm ih
noncomputable def S_p_reached_from:SpD:=fun ds M R => ∃ (ord:List (Str × Str)) (a:Str),ds = [.tup (ord.map pairD),.str a] ∧ ord.length ≤ 500 ∧
 ∀ L:List Str,a ∈ L → (∀ y ∈ ord,y.1 ∈ L → y.2 ∈ L) → (∀ x ∈ L,Reach ord a x) → L.length ≤ ord.length + 1 → R (.lst (L.map .str)) M
noncomputable abbrev tIn:TSd:=dIfS (dAndT (dTst (dOp eqF (dVar 4) (dOp ixD (dVar 2) (dVar 3)))) (dTst (dOp (inE true) (dVar 5) (dVar 2)))) (dDrop (dApp (dVar 2) (dVar 5))) dNext
theorem reach_for {q:Addr} {E:EndsD} {M:DH} (hq:M q = none) (ps:D) (a:Str) (ord:List (Str × Str)) (hord:ord.length ≤ 500) (i:Nat) (L0:List Str) (hi:i < L0.length):∀ (todo done:List (Str × Str)) (x4 x5:Option D) (L:List Str),ord = done ++ todo → (∃ t,L = L0 ++ t) → L.Nodup → (∀ x ∈ L,Reach ord a x) → (∀ x ∈ L,x ∈ a :: ord.map (·.2)) → (∀ y ∈ done,y.1 = L0[i] → y.2 ∈ L) →
  (∀ (y4 y5:Option D) (L':List Str),(∃ t,L' = L0 ++ t) → L'.Nodup → (∀ x ∈ L',Reach ord a x) → (∀ x ∈ L',x ∈ a :: ord.map (·.2)) → (∀ y ∈ ord,y.1 = L0[i] → y.2 ∈ L') → E.nx [some ps,some (.str a),some (.ref q),some (.int i),y4,y5] (updM M q (.lst (L'.map .str)))) →
  forRun (gdTup (gdCons (gdName 4) (gdCons (gdName 5) gdNil)) 2) tIn E (todo.map pairD) [some ps,some (.str a),some (.ref q),some (.int i),x4,x5] (updM M q (.lst (L.map .str)))
 | [],done,x4,x5,L,ho,ht,hn,hs,hb,hd,k => by
  simp only [List.map_nil,forRun]
  exact k x4 x5 L ht hn hs hb (by rw [ho,List.append_nil]; exact hd)
 | (b,c) :: todo,done,x4,x5,L,ho,⟨t,ht⟩,hn,hs,hb,hd,k => by
  have hiL:i < L.length:=by rw [ht]; simp; omega
  have eL:L[i] = L0[i]:=by subst ht; simp [hi]
  have eat:atI (L.map D.str) (i:Int) = some (.str L[i]):=atI_nat (by simp [hiL])
  have hlen:L.length ≤ ord.length + 1:=by
   have:=nodup_len L (a :: ord.map (·.2)) hn hb
   simpa using this
  simp only [List.map_cons,pairD,forRun,gdTup,gdCons,gdName,gdNil,Option.bind_some]
  refine ⟨_,rfl,?_⟩
  walk_at "rd"
  refine ⟨_,eat,?_⟩
  walk_at "rd"
  have ho':ord = (done ++ [(b,c)]) ++ todo:=by rw [ho]; simp
  have hmem:(b,c) ∈ ord:=by rw [ho]; simp
  refine ite2 (fun h => ?_) (fun h => ?_)
  ·have hbe:b = L0[i]:=by rw [← eL]; simpa using h
   refine ⟨_,if_pos ⟨rfl,all_scal⟩,_,rfl,?_⟩
   rw [any_strs]
   by_cases hc:c ∈ L
   ·simp only [hc,decide_true,Bool.xor_true,Bool.not_true,Bool.false_eq_true,if_false]
    exact reach_for hq ps a ord hord i L0 hi todo (done ++ [(b,c)]) _ _ L ho' ⟨t,ht⟩ hn hs hb (fun y hy hy1 => by
     rcases List.mem_append.mp hy with h | h
     ·exact hd y h hy1
     ·have:y = (b,c):=by simpa using h
      subst this; exact hc) k
   ·simp only [hc,decide_false,Bool.xor_false,if_true]
    refine ⟨by rw [List.length_map]; exact Nat.lt_of_lt_of_le (by omega:L.length < 1000) (sz3 1000),?_⟩
    have ea:L.map D.str ++ [D.str c] = (L ++ [c]).map D.str:=by simp
    rw [ea]
    refine reach_for hq ps a ord hord i L0 hi todo (done ++ [(b,c)]) _ _ (L ++ [c]) ho' ⟨t ++ [c],by rw [ht]; simp⟩ ?_ (fun x hx => ?_) (fun x hx => ?_) (fun y hy hy1 => ?_) k
    ·rw [List.nodup_append]
     refine ⟨hn,by simp,fun u hu v hv => ?_⟩
     have:v = c:=by simpa using hv
     subst this
     rintro rfl
     exact hc hu
    ·rcases List.mem_append.mp hx with h | h
     ·exact hs x h
     ·have:x = c:=by simpa using h
      subst this
      exact Reach.step (hs b (by rw [hbe,← eL]; exact List.getElem_mem hiL)) hmem
    ·rcases List.mem_append.mp hx with h | h
     ·exact hb x h
     ·have:x = c:=by simpa using h
      subst this
      exact List.mem_cons_of_mem _ (List.mem_map.mpr ⟨_,hmem,rfl⟩)
    ·rcases List.mem_append.mp hy with h | h
     ·exact List.mem_append_left _ (hd y h hy1)
     ·have:y = (b,c):=by simpa using h
      subst this; simp
  ·exact reach_for hq ps a ord hord i L0 hi todo (done ++ [(b,c)]) _ _ L ho' ⟨t,ht⟩ hn hs hb (fun y hy hy1 => by
    rcases List.mem_append.mp hy with h' | h'
    ·exact hd y h' hy1
    ·have:y = (b,c):=by simpa using h'
     subst this
     exact absurd (by rw [eL]; simpa using hy1) h) k
theorem ok_p_reached_from {f:Addr} {fd:FuncData} (F:Fun K "reached_from" "reached_from" s_p_reached_from f fd) (T:Txt mg) :FnOk P w K mg base CX0 1 f fd ["pairs","mark"] (spD K 2 S_p_reached_from):=by
 have nd:=sc_p_reached_from.nd
 refine F.okQ rfl sc_p_reached_from (fun cdv A outer s H E hr => ⟨_,(q_scons (q_set (i:=2) nd rfl (Or.inl rfl) (q_lstO (q_cons (q_var 1) q_nil)))
   (q_scons (q_set (i:=3) nd rfl (Or.inl rfl) q_int)
   (q_scons (q_while PassesOwn.never (q_tcmp o_lt (q_var 3) (q_callB c_len rfl T.b_len (by kernel_rfl) (q_cons (q_var 2) q_nil)) (by first | exact nobehind _ (by decide) (by decide) | rfl)) (q_scons (q_for PassesOwn.never rfl (qi_any (q_var 0)) (g_tup rfl (g_cons (g_name (i:=4) nd rfl (Or.inl rfl)) (g_cons (g_name (i:=5) nd rfl (Or.inl rfl)) g_nil))) (q_sone (q_ifS (q_pw (q_tand (q_tcmp (o_eq hr.units) (q_var 4) (q_ix o_ix (q_var 2) (q_var 3) (fun _ _ => rfl)) (by first | exact nobehind _ (by decide) (by decide) | rfl)) (q_tand1 (q_tcmp o_notinE (q_var 5) (q_var 2) (by first | exact nobehind _ (by decide) (by decide) | rfl))))) (q_sone (q_expr (q_app (q_var 2) (q_var 5)))) q_snil)))
   (q_sone (q_aug (i:=3) nd rfl (Or.inl rfl) q_int o_iadd))))
   (q_sone (q_retF (q_var 2)))))),fun ds M R hl hS => ?_⟩)
 obtain ⟨ord,a,rfl,ho,k⟩:=hS
 walk_at "rd"
 refine ⟨sz3 1,fun q hq => ?_⟩
 refine ⟨fun m Δ M' => ∃ (i:Nat) (L:List Str) (x4 x5:Option D),Δ = [some (D.tup (ord.map pairD)),some (D.str a),some (D.ref q),some (D.int i),x4,x5] ∧ M' = updM M q (.lst (L.map .str)) ∧ i ≤ L.length ∧ L.Nodup ∧ a ∈ L ∧ (∀ x ∈ L,Reach ord a x) ∧ (∀ x ∈ L,x ∈ a :: ord.map (·.2)) ∧ (∀ y ∈ ord,∀ j,j < i → L[j]? = some y.1 → y.2 ∈ L) ∧ m = ord.length + 1 - i,
  ⟨_,0,[a],none,none,rfl,rfl,Nat.zero_le _,by simp,by simp,fun x hx => by
   have:x = a:=by simpa using hx
   subst this; exact Reach.refl,fun x hx => by
   have:x = a:=by simpa using hx
   subst this; simp,fun y _ j hj => absurd hj (by omega),rfl⟩,?_⟩
 rintro m Δ M' ⟨i,L,x4,x5,rfl,rfl,hiL,hn,ha,hs,hb,hp,rfl⟩
 have hlen:L.length ≤ ord.length + 1:=by
  have:=nodup_len L (a :: ord.map (·.2)) hn hb
  simpa using this
 walk_at "rd"
 rw [List.length_map]
 refine ite2 (fun h => ?_) (fun h => ?_)
 ·have hi:i < L.length:=by omega
  intro hz
  refine reach_for hq _ a ord ho i L hi ord [] x4 x5 L rfl ⟨[],by simp⟩ hn hs hb (fun y hy => absurd hy (by simp)) (fun y4 y5 L' hL' hn' hs' hb' hd' => ?_)
  obtain ⟨t,rfl⟩:=hL'
  walk_at "rd"
  refine ⟨ord.length + 1 - (i + 1),by omega,i + 1,L ++ t,y4,y5,?_,rfl,by simp; omega,hn',List.mem_append_left _ ha,hs',hb',fun y hy j hj hjy => ?_,rfl⟩
  ·simp
  ·by_cases hji:j = i
   ·subst hji
    refine hd' y hy ?_
    rw [List.getElem?_append_left hi,List.getElem?_eq_getElem hi] at hjy
    exact (Option.some.inj hjy).symm
   ·rw [List.getElem?_append_left (by omega)] at hjy
    exact List.mem_append_left _ (hp y hy j (by omega) hjy)
 ·rw [delM_upd hq]
  refine k L ha (fun y hy hy1 => ?_) hs hlen
  obtain ⟨j,hj,e⟩:=List.mem_iff_getElem.mp hy1
  exact hp y hy j (by omega) (by rw [List.getElem?_eq_getElem hj,e])

end
section
variable {P:Program} {w:World} {K:PySem.W.Frag} {mg:Str → Option Value} {base:Heap}
noncomputable def signD (x:Str × Int):D:=.tup [.str x.1,.int x.2]
theorem map_inj {α:Type} {f:α → D} (hf:∀ x y,f x = f y → x = y):∀ {xs ys:List α},xs.map f = ys.map f → xs = ys
 | [],[],_ => rfl
 | [],_ :: _,h => by simp at h
 | _ :: _,[],h => by simp at h
 | x :: xs,y :: ys,h => by
  simp only [List.map_cons,List.cons.injEq] at h
  rw [hf _ _ h.1,map_inj hf h.2]
theorem pairD_inj:∀ x y,pairD x = pairD y → x = y:=fun ⟨a,b⟩ ⟨c,d⟩ h => by simpa [pairD] using h
noncomputable def Leads (ord:List (Str × Str)) (t:Int) (a b:Str):Prop:=if t % 2 = 0 then Reach ord a b else Reach ord b a
open Classical in
noncomputable def rB (ord:List (Str × Str)) (a b:Str):Bool:=decide (Reach ord a b)
open Classical in
noncomputable def lB (ord:List (Str × Str)) (t:Int) (a b:Str):Bool:=decide (Leads ord t a b)
theorem rB_iff {ord:List (Str × Str)} {a b:Str}:rB ord a b = true ↔ Reach ord a b:=by simp [rB]
theorem lB_iff {ord:List (Str × Str)} {t:Int} {a b:Str}:lB ord t a b = true ↔ Leads ord t a b:=by simp [lB]
theorem lB_even {ord:List (Str × Str)} {t:Int} {a b:Str} (h:t % 2 = 0):lB ord t a b = rB ord a b:=by rw [Bool.eq_iff_iff,lB_iff,rB_iff,Leads,if_pos h]
theorem lB_odd {ord:List (Str × Str)} {t:Int} {a b:Str} (h:¬ t % 2 = 0):lB ord t a b = rB ord b a:=by rw [Bool.eq_iff_iff,lB_iff,rB_iff,Leads,if_neg h]
noncomputable def S_p_at_most:SpD:=fun ds M R => ∃ (ord:List (Str × Str)) (a b:Str),ds = [.tup (ord.map pairD),.str a,.str b] ∧ ord.length ≤ 500 ∧ R (.bl (rB ord a b)) M
noncomputable def S_p_mark_leads:SpD:=fun ds M R => ∃ (ord:List (Str × Str)) (t:Int) (a b:Str),ds = [.tup (ord.map pairD),.int t,.str a,.str b] ∧ ord.length ≤ 500 ∧ R (.bl (lB ord t a b)) M
noncomputable def S_p_cancel:SpD:=fun ds M R => ∃ (ord:List (Str × Str)) (x y:Str × Int),ds = [.tup (ord.map pairD),signD x,signD y] ∧ ord.length ≤ 500 ∧ R (.bl (x.2 + 1 == y.2 && lB ord x.2 x.1 y.1)) M
theorem S_at_most_iff {ord:List (Str × Str)} {a b:Str} {M:DH} {R:D → DH → Prop}:S_p_at_most [.tup (ord.map pairD),.str a,.str b] M R ↔ ord.length ≤ 500 ∧ R (.bl (rB ord a b)) M :=
 ⟨fun ⟨o,c,d,e,h1,h2⟩ => by
  simp only [List.cons.injEq,D.tup.injEq,D.str.injEq,and_true] at e
  obtain ⟨e1,e2,e3⟩:=e
  rw [map_inj pairD_inj e1,e2,e3]; exact ⟨h1,h2⟩,fun h => ⟨ord,a,b,rfl,h⟩⟩
theorem S_mark_leads_iff {ord:List (Str × Str)} {t:Int} {a b:Str} {M:DH} {R:D → DH → Prop}:S_p_mark_leads [.tup (ord.map pairD),.int t,.str a,.str b] M R ↔ ord.length ≤ 500 ∧ R (.bl (lB ord t a b)) M :=
 ⟨fun ⟨o,u,c,d,e,h1,h2⟩ => by
  simp only [List.cons.injEq,D.tup.injEq,D.str.injEq,D.int.injEq,and_true] at e
  obtain ⟨e1,e0,e2,e3⟩:=e
  rw [map_inj pairD_inj e1,e0,e2,e3]; exact ⟨h1,h2⟩,fun h => ⟨ord,t,a,b,rfl,h⟩⟩
theorem S_cancel_iff {ord:List (Str × Str)} {a b:Str} {t u:Int} {M:DH} {R:D → DH → Prop}:S_p_cancel [.tup (ord.map pairD),.tup [.str a,.int t],.tup [.str b,.int u]] M R ↔ ord.length ≤ 500 ∧ R (.bl (t + 1 == u && lB ord t a b)) M :=
 ⟨fun ⟨o,⟨c,v⟩,⟨d,w⟩,e,h1,h2⟩ => by
  simp only [signD,List.cons.injEq,D.tup.injEq,D.str.injEq,D.int.injEq,and_true] at e
  obtain ⟨e1,⟨e2,e3⟩,e4,e5⟩:=e
  rw [map_inj pairD_inj e1,e2,e3,e4,e5]; exact ⟨h1,h2⟩,fun h => ⟨ord,(a,t),(b,u),rfl,h⟩⟩
theorem ok_p_at_most {f:Addr} {fd:FuncData} (F:Fun K "at_most" "at_most" s_p_at_most f fd) (T:Txt mg) (g_p_reached_from:FnD P w K mg base "reached_from" 1 2 S_p_reached_from):FnOk P w K mg base CX0 2 f fd ["order","one","other"] (spD K 3 S_p_at_most):=by
 have nd:=sc_p_at_most.nd
 refine F.okQ rfl sc_p_at_most (fun cdv A outer s H E hr => ⟨_,(q_sone (q_ret (q_cmp o_inE (q_var 2) (qc g_p_reached_from (hr.mono (by decide)) rfl (q_cons (q_var 0) (q_cons (q_var 1) q_nil))) (by first | exact nobehind _ (by decide) (by decide) | rfl)))),fun ds M R hl hS => ?_⟩)
 obtain ⟨ord,a,b,rfl,ho,k⟩:=hS
 walk_at "rd"
 refine ⟨ord,a,rfl,ho,fun L h1 h2 h3 h4 => ?_⟩
 refine ⟨_,if_pos ⟨rfl,all_scal⟩,?_⟩
 rw [any_strs]
 have e:(false ^^ decide (b ∈ L)) = rB ord a b:=by
  rw [Bool.false_xor,Bool.eq_iff_iff,rB_iff,decide_eq_true_eq]
  exact ⟨fun h => h3 b h,fun h => reach_in h1 h2 h⟩
 rw [e]
 exact k
theorem ok_p_mark_leads {f:Addr} {fd:FuncData} (F:Fun K "mark_leads" "mark_leads" s_p_mark_leads f fd) (T:Txt mg) (g_p_at_most:FnD P w K mg base "at_most" 2 3 S_p_at_most):FnOk P w K mg base CX0 3 f fd ["order","turn","one","other"] (spD K 4 S_p_mark_leads):=by
 have nd:=sc_p_mark_leads.nd
 refine F.okQ rfl sc_p_mark_leads (fun cdv A outer s H E hr => ⟨_,(q_scons (q_ifS (q_tcmp (o_eq hr.units) (q_op o_mod (q_var 1) q_int) q_int (by first | exact nobehind _ (by decide) (by decide) | rfl)) (q_sone (q_ret (qc g_p_at_most (hr.mono (by decide)) rfl (q_cons (q_var 0) (q_cons (q_var 2) (q_cons (q_var 3) q_nil)))))) q_snil)
   (q_sone (q_ret (qc g_p_at_most (hr.mono (by decide)) rfl (q_cons (q_var 0) (q_cons (q_var 3) (q_cons (q_var 2) q_nil))))))),fun ds M R hl hS => ?_⟩)
 obtain ⟨ord,t,a,b,rfl,ho,k⟩:=hS
 walk_at "rd"
 simp only [S_at_most_iff]
 refine ite2 (fun h => ?_) (fun h => ?_)
 ·have h':t % 2 = 0:=by simpa using h
  rw [lB_even h'] at k
  exact ⟨ho,k⟩
 ·have h':¬ t % 2 = 0:=by simpa using h
  rw [lB_odd h'] at k
  exact ⟨ho,k⟩
theorem ok_p_cancel {f:Addr} {fd:FuncData} (F:Fun K "cancel" "cancel" s_p_cancel f fd) (T:Txt mg) (g_p_mark_leads:FnD P w K mg base "mark_leads" 3 4 S_p_mark_leads):FnOk P w K mg base CX0 4 f fd ["order","one","other"] (spD K 3 S_p_cancel):=by
 have nd:=sc_p_cancel.nd
 refine F.okQ rfl sc_p_cancel (fun cdv A outer s H E hr => ⟨_,(q_sone (q_ret (q_and (q_cmp (o_eq hr.units) (q_op o_add (q_ix o_ix (q_var 1) q_int (fun _ _ => rfl)) q_int) (q_ix o_ix (q_var 2) q_int (fun _ _ => rfl)) (by first | exact nobehind _ (by decide) (by decide) | rfl)) (q_one (qc g_p_mark_leads (hr.mono (by decide)) rfl (q_cons (q_var 0) (q_cons (q_ix o_ix (q_var 1) q_int (fun _ _ => rfl)) (q_cons (q_ix o_ix (q_var 1) q_int (fun _ _ => rfl)) (q_cons (q_ix o_ix (q_var 2) q_int (fun _ _ => rfl)) q_nil))))))))),fun ds M R hl hS => ?_⟩)
 obtain ⟨ord,⟨a,t⟩,⟨b,u⟩,rfl,ho,k⟩:=hS
 simp only [signD]
 walk_at "rd"
 simp only [S_mark_leads_iff]
 refine ite2 (fun h => ?_) (fun h => ?_)
 ·simp only [h,Bool.true_and] at k; exact ⟨ho,k⟩
 ·simp only [h,Bool.false_and] at k; exact k

end
section
variable {P:Program} {w:World} {K:PySem.W.Frag} {mg:Str → Option Value} {base:Heap}
theorem lB_flip {ord:List (Str × Str)} {t u:Int} {a b:Str} (h:¬ t % 2 = u % 2):lB ord t a b = lB ord u b a:=by
 rw [Bool.eq_iff_iff,lB_iff,lB_iff,Leads,Leads]
 by_cases h1:t % 2 = 0
 ·have h2:¬ u % 2 = 0:=by omega
  rw [if_pos h1,if_neg h2]
 ·have h2:u % 2 = 0:=by omega
  rw [if_neg h1,if_pos h2]

end
section
variable {P:Program} {w:World} {K:PySem.W.Frag} {mg:Str → Option Value} {base:Heap}
noncomputable def stD (s:Nat × Nat):D:=.tup [.int (s.1:Int),.int (s.2:Int)]
theorem lcRun_map {α:Type} {g:GD} {tc:TTd} {te:TEd} {M:DH} {Q:List D → DH → Prop} (enc:α → D) (b:α → Bool) (y:α → D) (Ok:DE → Prop):∀ (xs:List α) (Δ:DE) (acc:List D),
  (∀ x ∈ xs,∀ Δ,Ok Δ → ∃ Δ',g (enc x) Δ = some Δ' ∧ Ok Δ' ∧ (∀ Q1:Bool → DH → Prop,Q1 (b x) M → tc Δ' M Q1) ∧ (b x = true → ∀ Q2:D → DH → Prop,Q2 (y x) M → te Δ' M Q2)) → Ok Δ →
  Q (acc ++ (xs.filter b).map y) M → lcRun g tc te (xs.map enc) Δ M acc Q
 | [],Δ,acc,_,_,q => by simpa [lcRun] using q
 | x :: xs,Δ,acc,h,hΔ,q => by
  rw [List.map_cons]
  simp only [lcRun]
  obtain ⟨Δ',e,hΔ',h1,h2⟩:=h x (.head _) Δ hΔ
  refine ⟨Δ',e,h1 _ ?_⟩
  have ih:=fun acc' q' => lcRun_map (Q:=Q) enc b y Ok xs Δ' acc' (fun z hz => h z (.tail _ hz)) hΔ' q'
  cases hb:b x with
  | true =>
   simp only [if_true]
   refine h2 hb _ (ih _ ?_)
   rw [List.filter_cons_of_pos hb] at q
   simpa using q
  | false =>
   simp only [Bool.false_eq_true,if_false]
   refine ih _ ?_
   rw [List.filter_cons_of_neg (by simp [hb])] at q
   exact q
noncomputable def S_p_is_tuple_of:SpD:=fun ds M R => ∃ (es:List D) (n:Int),ds = [.tup es,.int n] ∧ R (.bl ((es.length:Int) == n)) M
theorem ok_p_is_tuple_of {f:Addr} {fd:FuncData} (F:Fun K "is_tuple_of" "is_tuple_of" s_p_is_tuple_of f fd) (T:Txt mg) :FnOk P w K mg base CX0 1 f fd ["thing","many"] (spD K 2 S_p_is_tuple_of):=by
 have nd:=sc_p_is_tuple_of.nd
 refine F.okQ rfl sc_p_is_tuple_of (fun cdv A outer s H E hr => ⟨_,(q_sone (q_ret (q_and (q_isi (Tn:="tuple") (by decide) rfl T.b_isinstance rfl T.b_tuple (by kernel_rfl) (q_var 0)) (q_one (q_cmp (o_eq hr.units) (q_callB c_len rfl T.b_len (by kernel_rfl) (q_cons (q_var 0) q_nil)) (q_var 1) (by first | exact nobehind _ (by decide) (by decide) | rfl)))))),fun ds M R hl hS => ?_⟩)
 obtain ⟨es,n,rfl,k⟩:=hS
 walk_at "rd"
 refine ⟨true,rfl,?_⟩
 walk_at "rd"
 exact k
theorem S_tup2 {a:Nat × Nat} {M:DH} {R:D → DH → Prop} (h:R (.bl true) M):S_p_is_tuple_of [stD a,.int 2] M R:=⟨_,_,rfl,h⟩
noncomputable def S_p_is_whole:SpD:=fun ds M R => ∃ i:Int,ds = [.int i] ∧ R (.bl true) M
theorem ok_p_is_whole {f:Addr} {fd:FuncData} (F:Fun K "is_whole" "is_whole" s_p_is_whole f fd) (T:Txt mg) :FnOk P w K mg base CX0 1 f fd ["thing"] (spD K 1 S_p_is_whole):=by
 have nd:=sc_p_is_whole.nd
 refine F.okQ rfl sc_p_is_whole (fun cdv A outer s H E hr => ⟨_,(q_sone (q_ret (q_and (q_isi (Tn:="int") (by decide) rfl T.b_isinstance rfl T.b_int (by kernel_rfl) (q_var 0)) (q_one (q_not (q_isi (Tn:="bool") (by decide) rfl T.b_isinstance rfl T.b_bool (by kernel_rfl) (q_var 0))))))),fun ds M R hl hS => ?_⟩)
 obtain ⟨i,rfl,k⟩:=hS
 walk_at "rd"
 refine ⟨true,rfl,?_⟩
 simp only [if_true]
 exact ⟨false,rfl,k⟩
noncomputable def S_p_is_arc:SpD:=fun ds M R => ∃ (a:Nat × Nat) (n:Nat),ds = [stD a,.int n] ∧ a.1 < a.2 ∧ a.2 < n ∧ R (.bl true) M
theorem ok_p_is_arc {f:Addr} {fd:FuncData} (F:Fun K "is_arc" "is_arc" s_p_is_arc f fd) (T:Txt mg) (g_p_is_tuple_of:FnD P w K mg base "is_tuple_of" 1 2 S_p_is_tuple_of) (g_p_is_whole:FnD P w K mg base "is_whole" 1 1 S_p_is_whole):FnOk P w K mg base CX0 2 f fd ["thing","many"] (spD K 2 S_p_is_arc):=by
 have nd:=sc_p_is_arc.nd
 refine F.okQ rfl sc_p_is_arc (fun cdv A outer s H E hr => ⟨_,(q_sone (q_ret (q_and (qc g_p_is_tuple_of (hr.mono (by decide)) rfl (q_cons (q_var 0) (q_cons q_int q_nil))) (q_and (qc g_p_is_whole (hr.mono (by decide)) rfl (q_cons (q_ix o_ix (q_var 0) q_int (fun _ _ => rfl)) q_nil)) (q_and (qc g_p_is_whole (hr.mono (by decide)) rfl (q_cons (q_ix o_ix (q_var 0) q_int (fun _ _ => rfl)) q_nil)) (q_one (q_chain3 o_le o_lt o_lt q_int (q_ix o_ix (q_var 0) q_int (fun _ _ => rfl)) (q_ix o_ix (q_var 0) q_int (fun _ _ => rfl)) (q_var 1)))))))),fun ds M R hl hS => ?_⟩)
 obtain ⟨⟨a,b⟩,n,rfl,h1,h2,k⟩:=hS
 simp only at h1 h2
 walk_at "rd"
 refine S_tup2 ⟨_,rfl,?_⟩
 rw [if_pos rfl]
 refine ⟨_,rfl,_,rfl,_,rfl,?_⟩
 rw [if_pos rfl]
 refine ⟨_,rfl,_,rfl,_,rfl,?_⟩
 rw [if_pos rfl]
 refine ⟨_,rfl,_,rfl,?_⟩
 rw [if_pos (decide_eq_true (Int.natCast_nonneg a))]
 refine ⟨_,rfl,_,rfl,?_⟩
 rw [if_pos (decide_eq_true (Int.ofNat_lt.mpr h1))]
 have e:decide ((b:Int) < (n:Int)) = true:=decide_eq_true (Int.ofNat_lt.mpr h2)
 rw [← e] at k
 exact ⟨_,rfl,k⟩
theorem lcRunE_map {β:Type} {g:GD} {tc:TTd} {te:TEd} {M:DH} {Q:List D → DE → DH → Prop} (enc:β → D) (y:β → D) (Ok:DE → Prop):∀ (zs:List β) (Δ:DE) (acc:List D),
  (∀ z ∈ zs,∀ Δ,Ok Δ → ∃ Δ',g (enc z) Δ = some Δ' ∧ Ok Δ' ∧ (∀ Q1:Bool → DH → Prop,Q1 true M → tc Δ' M Q1) ∧ (∀ Q2:D → DH → Prop,Q2 (y z) M → te Δ' M Q2)) → Ok Δ →
  (∀ Δ',Ok Δ' → Q (acc ++ zs.map y) Δ' M) → lcRunE g tc te (zs.map enc) Δ M acc Q
 | [],Δ,acc,_,ok,q => by simpa [lcRunE] using q Δ ok
 | z :: zs,Δ,acc,h,ok,q => by
  obtain ⟨Δ',e,ok',h1,h2⟩:=h z (.head _) Δ ok
  simp only [List.map_cons,lcRunE]
  refine ⟨Δ',e,h1 _ ?_⟩
  simp only [if_true]
  refine h2 _ (lcRunE_map enc y Ok zs Δ' _ (fun z hz => h z (.tail _ hz)) ok' fun Δ'' o => ?_)
  rw [List.append_assoc]; exact q Δ'' o
theorem lc2Run_map {α β:Type} {g0:GD} {tc0:TTd} {wi:TId} {g:GD} {tc:TTd} {te:TEd} {M:DH} {Q:List D → DH → Prop} (enc0:α → D) (enc:β → D) (inner:α → List β) (y:α → β → D) (Ok:DE → Prop) (Ok1:α → DE → Prop) (hk:∀ x Δ,Ok1 x Δ → Ok Δ):∀ (xs:List α) (Δ:DE) (acc:List D),
  (∀ x ∈ xs,∀ Δ,Ok Δ → ∃ Δ',g0 (enc0 x) Δ = some Δ' ∧ Ok1 x Δ' ∧ (∀ Q1:Bool → DH → Prop,Q1 true M → tc0 Δ' M Q1) ∧ (∀ Q2:List D → DH → Prop,Q2 ((inner x).map enc) M → wi Δ' M Q2)) →
  (∀ x ∈ xs,∀ z ∈ inner x,∀ Δ,Ok1 x Δ → ∃ Δ',g (enc z) Δ = some Δ' ∧ Ok1 x Δ' ∧ (∀ Q1:Bool → DH → Prop,Q1 true M → tc Δ' M Q1) ∧ (∀ Q2:D → DH → Prop,Q2 (y x z) M → te Δ' M Q2)) → Ok Δ →
  acc.length + (xs.flatMap inner).length ≤ sizeLine → Q (acc ++ xs.flatMap fun x => (inner x).map (y x)) M → lc2Run g0 tc0 wi g tc te (xs.map enc0) Δ M acc Q
 | [],Δ,acc,_,_,_,_,q => by simpa [lc2Run] using q
 | x :: xs,Δ,acc,h0,h1,ok,hz,q => by
  obtain ⟨Δ',e,ok',c1,c2⟩:=h0 x (.head _) Δ ok
  simp only [List.flatMap_cons,List.length_append] at hz
  simp only [List.map_cons,lc2Run]
  refine ⟨Δ',e,c1 _ ?_⟩
  simp only [if_true]
  refine c2 _ ⟨by rw [List.length_map]; omega,lcRunE_map enc (y x) (Ok1 x) _ _ _ (h1 x (.head _)) ok' fun Δ'' o => ?_⟩
  refine lc2Run_map enc0 enc inner y Ok Ok1 hk xs Δ'' _ (fun z hz => h0 z (.tail _ hz)) (fun z hz => h1 z (.tail _ hz)) (hk x _ o) (by rw [List.length_append,List.length_map]; omega) ?_
  rw [List.append_assoc]
  simpa only [List.flatMap_cons] using q
noncomputable def crossB (a b:Nat × Nat):Bool:=decide (a.1 < b.1 ∧ b.1 < a.2 ∧ a.2 < b.2)
noncomputable def S_p_some_cross:SpD:=fun ds M R => ∃ arcs:List (Nat × Nat),ds = [.tup (arcs.map stD)] ∧ arcs.length ≤ 30 ∧ R (.bl (arcs.any fun a => arcs.any fun b => crossB a b)) M
theorem ok_p_some_cross {f:Addr} {fd:FuncData} (F:Fun K "some_cross" "some_cross" s_p_some_cross f fd) (T:Txt mg) :FnOk P w K mg base CX0 1 f fd ["arcs"] (spD K 1 S_p_some_cross):=by
 have nd:=sc_p_some_cross.nd
 refine F.okQ rfl sc_p_some_cross (fun cdv A outer s H E hr => ⟨_,(q_sone (q_ret (q_callB (c_any rfl) rfl T.b_any (by kernel_rfl) (q_cons (q_lc2 (ms:=[true]) (extra:=["left","right","first","last"]) (compSc_of rfl (show compOkB (defScope s_p_some_cross) n_p_some_cross _ _ = true from by decide +kernel)) rfl (qi_any (q_var 0)) (ga_tup (n:=2) rfl (gs_cons (ga_name (i:=1) (show (n_p_some_cross ++ _).Nodup from by decide +kernel) rfl rfl) (gs_cons (ga_name (i:=2) (show (n_p_some_cross ++ _).Nodup from by decide +kernel) rfl rfl) gs_nil))) (fun _ _ _ _ => qi_nil) (fun _ _ _ _ => (qi_any (q_var 0))) (ga_tup (n:=2) rfl (gs_cons (ga_name (i:=3) (show (n_p_some_cross ++ _).Nodup from by decide +kernel) rfl rfl) (gs_cons (ga_name (i:=4) (show (n_p_some_cross ++ _).Nodup from by decide +kernel) rfl rfl) gs_nil))) (fun _ _ _ _ => qi_nil) (fun _ _ _ _ => (q_chain3 o_lt o_lt o_lt (q_var 1) (q_var 3) (q_var 2) (q_var 4)))) q_nil)))),fun ds M R hl hS => ?_⟩)
 obtain ⟨arcs,rfl,hl,k⟩:=hS
 walk_at "rd"
 intro hz
 have hfl:∀ l:List (Nat × Nat),(l.flatMap fun _ => arcs).length = l.length * arcs.length:=fun l => by
  induction l with
  | nil => simp
  | cons x l ih => rw [List.flatMap_cons,List.length_append,ih,List.length_cons,Nat.succ_mul]; omega
 refine lc2Run_map stD stD (fun _ => arcs) (fun a b => D.bl (crossB a b)) (fun Δ => ∃ x1 x2 x3 x4,Δ = [some (D.tup (arcs.map stD)),x1,x2,x3,x4]) (fun a Δ => ∃ x3 x4,Δ = [some (D.tup (arcs.map stD)),some (D.int a.1),some (D.int a.2),x3,x4]) (fun a Δ ⟨x3,x4,e⟩ => ⟨_,_,_,_,e⟩) arcs _ _ (fun a ha Δ hΔ => ?_) (fun a ha b hb Δ hΔ => ?_) ⟨_,_,_,_,rfl⟩ ?_ ?_
 ·obtain ⟨x1,x2,x3,x4,rfl⟩:=hΔ
  refine ⟨_,rfl,⟨_,_,rfl⟩,fun Q1 q => q,fun Q2 q => ?_⟩
  walk_at "rd"
  exact fun _ => q
 ·obtain ⟨x3,x4,rfl⟩:=hΔ
  refine ⟨_,rfl,⟨_,_,rfl⟩,fun Q1 q => q,fun Q2 q => ?_⟩
  walk_at "rd"
  refine ite2 (fun h1 => ite2 (fun h2 => ?_) (fun h2 => ?_)) (fun h1 => ?_)
  ·have:crossB a b = decide ((a.2:Int) < (b.2:Int)):=decide_eq_decide.mpr ⟨fun h => by omega,fun h => by omega⟩
   rw [this] at q; exact q
  ·have:crossB a b = false:=decide_eq_false fun h => h2 (by omega)
   rw [this] at q; exact q
  ·have:crossB a b = false:=decide_eq_false fun h => h1 (by omega)
   rw [this] at q; exact q
 ·rw [hfl]
  have:arcs.length * arcs.length ≤ 30 * 30:=Nat.mul_le_mul hl hl
  exact sz3 _ (by simp; omega)
 ·rw [List.nil_append]
  refine ⟨_,?_,k⟩
  have h1:(arcs.flatMap fun x => arcs.map fun b => D.bl (crossB x b)).all isBl = true:=by
   rw [List.all_eq_true]
   intro d hd
   obtain ⟨x,_,h⟩:=List.mem_flatMap.mp hd
   obtain ⟨b,_,rfl⟩:=List.mem_map.mp h
   rfl
  have h2:∀ l:List (Nat × Nat),(l.flatMap fun x => arcs.map fun b => D.bl (crossB x b)).any blOf = l.any fun a => arcs.any fun b => crossB a b:=fun l => by
   induction l with
   | nil => rfl
   | cons x l ih => rw [List.flatMap_cons,List.any_append,ih,List.any_cons,List.any_map]; rfl
  simp only [anyD,h1,h2,if_true]
theorem eqD_gen {α:Type} [DecidableEq α] (f:α → D) (hf:∀ x y,eqD (f x) (f y) = decide (x = y)):∀ {a b:List α},eqDs (a.map f) (b.map f) = decide (a = b)
 | [],[] => by simp [eqDs]
 | [],_ :: _ => by simp [eqDs]
 | _ :: _,[] => by simp [eqDs]
 | x :: a,y :: b => by
  rw [List.map_cons,List.map_cons,eqDs,eqD_gen f hf (a:=a) (b:=b),hf]
  simp
theorem dLes_gen {α:Type} (f:α → D) (hf:∀ x,dLe (f x) 59 = true) {a:List α}:dLes (a.map f) 59 = true:=by
 rw [dLes_iff]
 intro d hd
 obtain ⟨x,_,rfl⟩:=List.mem_map.mp hd
 exact hf x
theorem eqL_gen {α:Type} [DecidableEq α] (f:α → D) (hf:∀ x y,eqD (f x) (f y) = decide (x = y)) (hl:∀ x,dLe (f x) 59 = true) {a b:List α}:eqF (.lst (a.map f)) (.lst (b.map f)) = some (.bl (decide (a = b))):=by
 have h1:dLe (.lst (a.map f)) 60 = true:=dLes_gen f hl
 have h2:dLe (.lst (b.map f)) 60 = true:=dLes_gen f hl
 simp only [eqF,h1,h2,and_self,if_true,eqD,eqD_gen f hf]
theorem eqInts {a b:List Int}:eqF (.lst (a.map D.int)) (.lst (b.map D.int)) = some (.bl (decide (a = b))):=eqL_gen D.int (fun x y => by rw [Bool.eq_iff_iff]; simp [eqD]) (fun _ => rfl)
theorem eqPairs {a b:List (Int × Int)}:eqF (.lst (a.map pD)) (.lst (b.map pD)) = some (.bl (decide (a = b))):=eqL_gen pD (fun x y => by rw [Bool.eq_iff_iff]; obtain ⟨a,b⟩:=x; obtain ⟨c,d⟩:=y; simp [pD,eqD,eqDs]) (fun _ => rfl)
noncomputable def stI (s:Nat × Nat):Int × Int:=((s.1:Int),(s.2:Int))
theorem stI_map {l:List (Nat × Nat)}:l.map stD = (l.map stI).map pD:=by rw [List.map_map]; rfl
noncomputable def Pw (l:List (Nat × Nat)):Prop:=l.Pairwise fun a b => a.1 < b.1 ∧ b.1 ≠ a.2 ∧ b.2 ≠ a.2 ∧ ¬ (b.1 < a.2 ∧ a.2 < b.2)
structure Geo (n:Nat) (arcs:List (Nat × Nat)):Prop where
 len:2 * arcs.length = n
 arc:∀ a ∈ arcs,a.1 < a.2 ∧ a.2 < n
 pw:Pw arcs
noncomputable def ends (arcs:List (Nat × Nat)):List Int:=arcs.flatMap fun a => [(a.1:Int),(a.2:Int)]
theorem ends_len (l:List (Nat × Nat)):(ends l).length = 2 * l.length:=by
 unfold ends
 induction l with
 | nil => rfl
 | cons x l ih => rw [List.flatMap_cons,List.length_append,ih]; simp; omega
theorem ends_mem {l:List (Nat × Nat)} {x:Int}:x ∈ ends l ↔ ∃ a ∈ l,x = a.1 ∨ x = a.2:=by
 unfold ends
 rw [List.mem_flatMap]
 constructor
 ·rintro ⟨a,ha,h⟩; exact ⟨a,ha,by simpa using h⟩
 ·rintro ⟨a,ha,h⟩; exact ⟨a,ha,by simpa using h⟩
theorem ends_cons {a:Nat × Nat} {l:List (Nat × Nat)}:ends (a :: l) = (a.1:Int) :: (a.2:Int) :: ends l:=rfl
theorem ends_nodup:∀ {l:List (Nat × Nat)},(∀ a ∈ l,a.1 < a.2) → (l.Pairwise fun a b => a.1 < b.1 ∧ b.1 ≠ a.2 ∧ b.2 ≠ a.2) → (ends l).Nodup
 | [],_,_ => List.nodup_nil
 | a :: l,h,hp => by
  obtain ⟨h1,h2⟩:=List.pairwise_cons.mp hp
  have h0:=h a (.head _)
  rw [ends_cons,List.nodup_cons,List.nodup_cons]
  refine ⟨fun m => ?_,fun m => ?_,ends_nodup (fun b hb => h b (.tail _ hb)) h2⟩
  ·rcases List.mem_cons.mp m with e | m
   ·omega
   ·obtain ⟨b,hb,e⟩:=ends_mem.mp m
    have:=h1 b hb
    have:=h b (.tail _ hb)
    omega
  ·obtain ⟨b,hb,e⟩:=ends_mem.mp m
   have:=h1 b hb
   omega
theorem rise_range {n:Nat}:∀ {l:List Int} {m:Nat},l.Pairwise (fun a b => a < b) → (∀ x ∈ l,(m:Int) ≤ x ∧ x < (m + l.length:Nat)) → l = (List.range' m l.length).map fun (k:Nat) => (0:Int) + (k:Int)
 | [],_,_,_ => rfl
 | x :: l,m,hp,h => by
  obtain ⟨h1,h2⟩:=List.pairwise_cons.mp hp
  have lo:∀ (l:List Int) (m:Int),l.Pairwise (fun a b => a < b) → (∀ y ∈ l,m ≤ y) → ∀ y ∈ l.getLast?,m + l.length ≤ y + 1:=by
   intro l
   induction l with
   | nil => intro m _ _ y hy; cases hy
   | cons z l ih =>
    intro m hp hm y hy
    obtain ⟨g1,g2⟩:=List.pairwise_cons.mp hp
    cases l with
    | nil =>
     have:z = y:=by simpa using hy
     have:=hm z (.head _)
     simp only [List.length_cons,List.length_nil]; omega
    | cons w l =>
     rw [List.getLast?_cons_cons] at hy
     have:=ih (z + 1) g2 (fun u hu => by have:=g1 u hu; omega) y hy
     have:=hm z (.head _)
     simp only [List.length_cons] at *
     omega
  have ex:x = (m:Int):=by
   have hx:=h x (.head _)
   cases hl:(x :: l).getLast? with
   | none => simp at hl
   | some y =>
    have a1:=lo (x :: l) x hp (fun u hu => by rcases List.mem_cons.mp hu with rfl | hu; exact Int.le_refl _; exact Int.le_of_lt (h1 u hu)) y hl
    have a2:=h y (List.mem_of_getLast? hl)
    simp only [List.length_cons] at *
    omega
  subst ex
  rw [List.length_cons,List.range'_succ,List.map_cons,← rise_range (n:=n) (m:=m + 1) h2 fun u hu => ?_]
  ·rw [Int.zero_add]
  ·have b1:=h1 u hu
   have b2:=h u (.tail _ hu)
   simp only [List.length_cons] at b2
   omega
theorem Geo.ends {n:Nat} {arcs:List (Nat × Nat)} (h:Geo n arcs):sortI (ends arcs) = (List.range n).map (fun (k:Nat) => (0:Int) + (k:Int)):=by
 have hnd:=ends_nodup (fun a m => (h.arc a m).1) (h.pw.imp fun g => ⟨g.1,g.2.1,g.2.2.1⟩)
 have hp:=sortI_perm (My.ends arcs)
 have hl:(sortI (My.ends arcs)).length = n:=by rw [hp.length_eq,ends_len,h.len]
 have hs:(sortI (My.ends arcs)).Pairwise fun a b => a < b:=by
  have hn2:(sortI (My.ends arcs)).Nodup:=hp.nodup_iff.mpr hnd
  exact ((sortI_pw _).and hn2).imp fun ⟨g1,g2⟩ => by omega
 have:=rise_range (n:=0) (m:=0) hs fun x hx => by
  obtain ⟨a,m,e⟩:=ends_mem.mp (hp.mem_iff.mp hx)
  have:=h.arc a m
  rw [hl]
  omega
 rw [hl] at this
 rw [this,List.range_eq_range']
theorem Geo.sort {n:Nat} {arcs:List (Nat × Nat)} (h:Geo n arcs):sortP (arcs.map stI) = arcs.map stI:=by
 refine (sortP_eq (List.Perm.refl _) ?_).symm
 rw [List.pairwise_map]
 exact h.pw.imp fun {a b} g => by
  have:ltP (stI b) (stI a) = false:=ltP_no.mpr (.inl (by simp only [stI]; omega))
  simp only [leP,this,Bool.not_false]
theorem Geo.cross {n:Nat} {arcs:List (Nat × Nat)} (h:Geo n arcs):(arcs.any fun a => arcs.any fun b => crossB a b) = false:=by
 rw [Bool.eq_false_iff]
 intro hc
 obtain ⟨a,m,hc⟩:=List.any_eq_true.mp hc
 obtain ⟨b,m',hc⟩:=List.any_eq_true.mp hc
 have hc:a.1 < b.1 ∧ b.1 < a.2 ∧ a.2 < b.2:=by simpa [crossB] using hc
 obtain ⟨i,hi,rfl⟩:=List.mem_iff_getElem.mp m
 obtain ⟨j,hj,rfl⟩:=List.mem_iff_getElem.mp m'
 rcases Nat.lt_trichotomy i j with g | g | g
 ·have:=List.pairwise_iff_getElem.mp h.pw i j hi hj g
  exact this.2.2.2 ⟨hc.2.1,hc.2.2⟩
 ·subst g; omega
 ·have:=List.pairwise_iff_getElem.mp h.pw j i hj hi g
  omega
noncomputable def S_p_are_arcs:SpD:=fun ds M R => ∃ (arcs:List (Nat × Nat)) (n:Nat),ds = [.tup (arcs.map stD),.int n] ∧ n ≤ 60 ∧ Geo n arcs ∧ R (.bl true) M
theorem ok_p_are_arcs {f:Addr} {fd:FuncData} (F:Fun K "are_arcs" "are_arcs" s_p_are_arcs f fd) (T:Txt mg) (g_p_is_arc:FnD P w K mg base "is_arc" 2 2 S_p_is_arc):FnOk P w K mg base CX0 3 f fd ["thing","many"] (spD K 2 S_p_are_arcs):=by
 have nd:=sc_p_are_arcs.nd
 refine F.okQ rfl sc_p_are_arcs (fun cdv A outer s H E hr => ⟨_,(q_scons (q_ifS (q_pw (q_tor (q_tnot (q_tval (q_isi (Tn:="tuple") (by decide) rfl T.b_isinstance rfl T.b_tuple (by kernel_rfl) (q_var 0)))) (q_tor1 (q_tnot (q_tval (q_callB (c_all rfl) rfl T.b_all (by kernel_rfl) (q_cons (q_lc (ms:=[false,true,false]) (extra:=["arc"]) (compSc_of rfl (show compOkB (defScope s_p_are_arcs) n_p_are_arcs _ _ = true from by decide +kernel)) rfl (qi_any (q_var 0)) (ga_name (i:=3) (show (n_p_are_arcs ++ _).Nodup from by decide +kernel) rfl rfl) (fun _ _ _ _ => qi_nil) (fun _ _ _ _ => (qc g_p_is_arc (hr.mono (by decide)) rfl (q_cons (q_var 3) (q_cons (q_var 1) q_nil))))) q_nil))))))) (q_sone (q_ret q_bl)) q_snil)
   (q_scons (q_setLc2 (i:=2) nd rfl rfl rfl (ms:=[false,false,false]) (extra:=["arc","end"]) (compSc_of rfl (show compOkB (defScope s_p_are_arcs) n_p_are_arcs _ _ = true from by decide +kernel)) rfl (qi_any (q_var 0)) (ga_name (i:=3) (show (n_p_are_arcs ++ _).Nodup from by decide +kernel) rfl rfl) (fun _ _ _ _ => qi_nil) (fun _ _ _ _ => (qi_any (q_var 3))) (ga_name (i:=4) (show (n_p_are_arcs ++ _).Nodup from by decide +kernel) rfl rfl) (fun _ _ _ _ => qi_nil) (fun _ _ _ _ => (q_var 4)))
   (q_sone (q_ret (q_and (q_cmp (o_eq hr.units) (q_callB c_sortE rfl T.b_sorted (by kernel_rfl) (q_cons (q_var 2) q_nil)) (q_listRange rfl rfl T.b_list rfl T.b_range (q_cons (q_var 1) q_nil)) (by first | exact nobehind _ (by decide) (by decide) | rfl)) (q_one (q_cmp (o_eq hr.units) (q_callB c_sortE rfl T.b_sorted (by kernel_rfl) (q_cons (q_var 0) q_nil)) (q_callTy c_list rfl T.b_list (by kernel_rfl) (q_cons (q_var 0) q_nil)) (by first | exact nobehind _ (by decide) (by decide) | rfl)))))))),fun ds M R hl hS => ?_⟩)
 obtain ⟨arcs,n,rfl,hn,hG,k⟩:=hS
 have hdl:=hG.len
 walk_at "rd"
 refine ⟨true,rfl,?_⟩
 rw [if_neg (by simp)]
 refine fun hz => ⟨hz,?_⟩
 refine lcRun_map stD (fun _ => true) (fun _ => D.bl true) (fun Δ => ∃ x,Δ = [none,some (D.int n),none,x]) arcs _ _ (fun a hd Δ hΔ => ?_) ⟨none,rfl⟩ ?_
 ·obtain ⟨x,rfl⟩:=hΔ
  refine ⟨_,rfl,⟨_,rfl⟩,fun Q1 q => q,fun _ Q2 q => ?_⟩
  walk_at "rd"
  exact ⟨a,n,rfl,(hG.arc a hd).1,(hG.arc a hd).2,q⟩
 rw [List.filter_eq_self.mpr (fun _ _ => rfl),List.nil_append]
 have eall:allD (.lst (arcs.map fun _ => D.bl true)) = some (.bl true):=by
  have h1:(arcs.map fun _ => D.bl true).all isBl = true:=by rw [List.all_map,List.all_eq_true]; intro _ _; rfl
  have h2:(arcs.map fun _ => D.bl true).all blOf = true:=by rw [List.all_map,List.all_eq_true]; intro _ _; rfl
  simp only [allD,h1,h2,if_true]
 refine ⟨_,eall,_,rfl,?_⟩
 rw [if_neg (by simp)]
 intro hz2
 refine lc2Run_map stD D.int (fun a => [(a.1:Int),(a.2:Int)]) (fun _ i => D.int i) (fun Δ => ∃ x1 x2,Δ = [none,none,none,x1,x2]) (fun a Δ => ∃ x2,Δ = [none,none,none,some (stD a),x2]) (fun a Δ ⟨x2,e⟩ => ⟨_,_,e⟩) arcs _ _ (fun a ha Δ hΔ => ?_) (fun a ha b hb Δ hΔ => ?_) ⟨_,_,rfl⟩ ?_ ?_
 ·obtain ⟨x1,x2,rfl⟩:=hΔ
  refine ⟨_,rfl,⟨_,rfl⟩,fun Q1 q => q,fun Q2 q => ?_⟩
  walk_at "rd"
  exact ⟨_,rfl,fun _ => q⟩
 ·obtain ⟨x2,rfl⟩:=hΔ
  refine ⟨_,rfl,⟨_,rfl⟩,fun Q1 q => q,fun Q2 q => ?_⟩
  walk_at "rd"
  exact q
 ·exact sz3 _ (by rw [List.length_nil,← ends,ends_len]; omega)
 ·rw [List.nil_append]
  have ef:(arcs.flatMap fun x => [(x.1:Int),(x.2:Int)].map fun i => D.int i) = (ends arcs).map D.int:=by unfold ends; rw [List.map_flatMap]
  have er:rngD 0 ((n:Int)).toNat = ((List.range n).map fun (k:Nat) => (0:Int) + (k:Int)).map D.int:=by rw [Int.toNat_natCast,List.map_map]; rfl
  rw [ef,er]
  refine ⟨_,sortE_i (by rw [ends_len]; omega),by omega,by omega,_,eqInts,_,rfl,?_⟩
  rw [hG.ends,if_pos (by simp),stI_map]
  refine ⟨_,sortE_t (by rw [List.length_map]; omega),_,rfl,_,eqPairs,?_⟩
  rw [hG.sort]
  simpa using k

end
section
variable {P:Program} {w:World} {K:PySem.W.Frag} {mg:Str → Option Value} {base:Heap}
noncomputable def cB (ord:List (Str × Str)) (x y:Str × Int):Bool:=x.2 + 1 == y.2 && lB ord x.2 x.1 y.1
theorem S_cancel_if {ord:List (Str × Str)} {x y:Str × Int} {M:DH} {R:D → DH → Prop}:S_p_cancel [.tup (ord.map pairD),signD x,signD y] M R ↔ ord.length ≤ 500 ∧ R (.bl (cB ord x y)) M:=S_cancel_iff (a:=x.1) (b:=y.1) (t:=x.2) (u:=y.2)
noncomputable def sg (row:List (Str × Int)) (i:Nat):Str × Int:=row.getD i ("",0)
theorem sg_at {row:List (Str × Int)} {i:Nat} (h:i < row.length):atI (row.map signD) (i:Int) = some (signD (sg row i)):=by
 refine atI_nat ?_
 rw [List.getElem?_map,List.getElem?_eq_getElem h]
 simp [sg,h]
structure IsDr (R:Str × Int → Str × Int → Bool) (row:List (Str × Int)) (arcs:List (Nat × Nat)):Prop where
 len:2 * arcs.length = row.length
 arc:∀ a ∈ arcs,a.1 < a.2 ∧ a.2 < row.length ∧ R (sg row a.1) (sg row a.2) = true
 pw:arcs.Pairwise fun a b => a.1 < b.1 ∧ b.1 ≠ a.2 ∧ b.2 ≠ a.2 ∧ ¬ (b.1 < a.2 ∧ a.2 < b.2)
noncomputable def S_p_is_drawing:SpD:=fun ds M R => ∃ (ord:List (Str × Str)) (row:List (Str × Int)) (arcs:List (Nat × Nat)),ds = [.tup (ord.map pairD),.tup (row.map signD),.tup (arcs.map stD)] ∧ ord.length ≤ 500 ∧ row.length ≤ 24 ∧ Geo row.length arcs ∧ R (.bl (arcs.all fun a => cB ord (sg row (0 + a.1)) (sg row (0 + a.2)))) M
theorem ok_p_is_drawing {f:Addr} {fd:FuncData} (F:Fun K "is_drawing" "is_drawing" s_p_is_drawing f fd) (T:Txt mg) (g_p_are_arcs:FnD P w K mg base "are_arcs" 3 2 S_p_are_arcs) (g_p_some_cross:FnD P w K mg base "some_cross" 1 1 S_p_some_cross) (g_p_cancel:FnD P w K mg base "cancel" 4 3 S_p_cancel):FnOk P w K mg base CX0 5 f fd ["order","row","arcs"] (spD K 3 S_p_is_drawing):=by
 have nd:=sc_p_is_drawing.nd
 refine F.okQ rfl sc_p_is_drawing (fun cdv A outer s H E hr => ⟨_,(q_sone (q_ret (q_and (qc g_p_are_arcs (hr.mono (by decide)) rfl (q_cons (q_var 2) (q_cons (q_callB c_len rfl T.b_len (by kernel_rfl) (q_cons (q_var 1) q_nil)) q_nil))) (q_and (q_callB (c_all rfl) rfl T.b_all (by kernel_rfl) (q_cons (q_lc (ms:=[true,true,false]) (extra:=["left","right"]) (compSc_of rfl (show compOkB (defScope s_p_is_drawing) n_p_is_drawing _ _ = true from by decide +kernel)) rfl (qi_any (q_var 2)) (ga_tup (n:=2) rfl (gs_cons (ga_name (i:=3) (show (n_p_is_drawing ++ _).Nodup from by decide +kernel) rfl rfl) (gs_cons (ga_name (i:=4) (show (n_p_is_drawing ++ _).Nodup from by decide +kernel) rfl rfl) gs_nil))) (fun _ _ _ _ => qi_nil) (fun _ _ _ _ => (qc g_p_cancel (hr.mono (by decide)) rfl (q_cons (q_var 0) (q_cons (q_ix o_ix (q_var 1) (q_var 3) (fun _ _ => rfl)) (q_cons (q_ix o_ix (q_var 1) (q_var 4) (fun _ _ => rfl)) q_nil)))))) q_nil)) (q_one (q_not (qc g_p_some_cross (hr.mono (by decide)) rfl (q_cons (q_var 2) q_nil)))))))),fun ds M R hl hS => ?_⟩)
 obtain ⟨ord,row,arcs,rfl,ho,hl,hG,k⟩:=hS
 have hgl:=hG.len
 walk_at "rd"
 rw [List.length_map]
 refine ⟨arcs,row.length,rfl,by omega,hG,_,rfl,?_⟩
 rw [if_pos rfl]
 refine fun hz => ⟨hz,?_⟩
 refine lcRun_map stD (fun _ => true) (fun a => D.bl (cB ord (sg row (0 + a.1)) (sg row (0 + a.2)))) (fun Δ => ∃ x y,Δ = [some (D.tup (List.map pairD ord)),some (D.tup (List.map signD row)),none,x,y]) arcs _ _ (fun a m Δ hΔ => ?_) ⟨none,none,rfl⟩ ?_
 ·obtain ⟨x,y,rfl⟩:=hΔ
  have:=hG.arc a m
  refine ⟨_,rfl,⟨_,_,rfl⟩,fun Q1 q => q,fun _ Q2 q => ?_⟩
  walk_at "rd"
  rw [Nat.zero_add,Nat.zero_add] at q
  refine ⟨_,sg_at (by omega),_,sg_at (by omega),?_⟩
  exact S_cancel_if.mpr ⟨ho,q⟩
 ·rw [List.nil_append,List.filter_eq_self.mpr (fun _ _ => rfl)]
  have eall:allD (.lst (arcs.map fun a => D.bl (cB ord (sg row (0 + a.1)) (sg row (0 + a.2))))) = some (.bl (arcs.all fun a => cB ord (sg row (0 + a.1)) (sg row (0 + a.2)))):=by
   have g1:(arcs.map fun a => D.bl (cB ord (sg row (0 + a.1)) (sg row (0 + a.2)))).all isBl = true:=by rw [List.all_map,List.all_eq_true]; intro _ _; rfl
   have g2:(arcs.map fun a => D.bl (cB ord (sg row (0 + a.1)) (sg row (0 + a.2)))).all blOf = arcs.all fun a => cB ord (sg row (0 + a.1)) (sg row (0 + a.2)):=by rw [List.all_map]; rfl
   simp only [allD,g1,g2,if_true]
  refine ⟨_,eall,_,rfl,ite2 (fun h2 => ?_) (fun h2 => ?_)⟩
  ·refine ⟨arcs,rfl,by omega,_,rfl,?_⟩
   rw [hG.cross]
   rw [h2] at k; exact k
  ·rw [eq_false_of_ne_true h2] at k; exact k

end
section
variable {P:Program} {w:World} {K:PySem.W.Frag} {mg:Str → Option Value} {base:Heap}
noncomputable abbrev Row:=List (Str × Int)
noncomputable def kindD (r:Row):D:=.tup (r.map signD)
noncomputable def kindsD (ks:List Row):D:=.tup (ks.map kindD)
noncomputable def entD (e:Str × List Row):D:=.tup [.str e.1,kindsD e.2]
noncomputable def lexD (ord:List (Str × Str)) (goal:Str) (ents:List (Str × List Row)):D:=.tup [.tup (ord.map pairD),.str goal,.tup (ents.map entD)]
noncomputable def intsD (l:List Nat):List D:=l.map fun (c:Nat) => D.int (c:Int)
noncomputable def kin (ents:List (Str × List Row)) (w:Str):List Row:=(ents.lookup w).getD []
noncomputable def chosen (ents:List (Str × List Row)) (ws:List Str) (ch:List Nat):List Row:=List.zipWith (fun w c => (kin ents w).getD c []) ws ch
noncomputable def rowOf (ents:List (Str × List Row)) (ws:List Str) (ch:List Nat):Row:=(chosen ents ws ch).flatten
noncomputable def mirS (x:Str × Int):Str × Int:=(x.1,-x.2)
noncomputable def mir (r:Row):Row:=r.reverse.map mirS
noncomputable def mirE (e:Str × List Row):Str × List Row:=(e.1,e.2.map mir)
noncomputable def mArc (last:Nat) (a:Nat × Nat):Nat × Nat:=if a.2 = last then (last - 1 - a.1,last) else (last - 1 - a.2,last - 1 - a.1)
noncomputable def srt (l:List (Nat × Nat)):List (Nat × Nat):=(sortP (l.map stI)).map fun p => (p.1.toNat,p.2.toNat)
theorem srt_map {l:List (Nat × Nat)}:(srt l).map stI = sortP (l.map stI):=by
 unfold srt
 rw [List.map_map]
 conv => rhs; rw [← List.map_id (sortP (l.map stI))]
 refine List.map_congr_left fun p hp => ?_
 obtain ⟨a,_,rfl⟩:=List.mem_map.mp ((sortP_perm (l.map stI)).mem_iff.mp hp)
 simp [stI]
theorem map_back:∀ {l:List (Nat × Nat)},(l.map stI).map (fun p:Int × Int => (p.1.toNat,p.2.toNat)) = l
 | [] => rfl
 | a :: l => by rw [List.map_cons,List.map_cons,map_back]; simp [stI]
theorem srt_perm {l:List (Nat × Nat)}:(srt l).Perm l:=by
 have h:=(sortP_perm (l.map stI)).map fun p:Int × Int => (p.1.toNat,p.2.toNat)
 rw [map_back] at h
 exact h
theorem srt_le {l:List (Nat × Nat)}:(srt l).Pairwise fun a b => a.1 ≤ b.1:=by
 have h:((srt l).map stI).Pairwise fun a b => leP a b = true:=by rw [srt_map]; exact sortP_pw _
 rw [List.pairwise_map] at h
 refine h.imp fun {a b} g => ?_
 have:ltP (stI b) (stI a) = false:=by simpa [leP] using g
 rcases ltP_no.mp this with h | h <;> simp only [stI] at h <;> omega
theorem srt_eq {l m:List (Nat × Nat)} (hp:m.Perm l) (hs:m.Pairwise fun a b => a.1 < b.1):srt l = m:=by
 have h:m.map stI = sortP (l.map stI):=sortP_eq (hp.map stI) (by
  rw [List.pairwise_map]
  exact hs.imp fun {a b} g => by
   have:ltP (stI b) (stI a) = false:=ltP_no.mpr (.inl (by simp only [stI]; omega))
   simp only [leP,this,Bool.not_false])
 unfold srt
 rw [← h,map_back]
noncomputable def Apart (a b:Nat × Nat):Prop:=a.1 ≠ b.1 ∧ a.1 ≠ b.2 ∧ a.2 ≠ b.1 ∧ a.2 ≠ b.2 ∧ ¬ (a.1 < b.1 ∧ b.1 < a.2 ∧ a.2 < b.2) ∧ ¬ (b.1 < a.1 ∧ a.1 < b.2 ∧ b.2 < a.2)
theorem Apart.symm {a b:Nat × Nat} (h:Apart a b):Apart b a:=by unfold Apart at *; omega
theorem geo_apart {n:Nat} {arcs:List (Nat × Nat)} (h:Geo n arcs):arcs.Pairwise Apart:=by
 have hm:∀ a ∈ arcs,a.1 < a.2:=fun a m => (h.arc a m).1
 have:arcs.Pairwise fun a b => (a.1 < a.2 ∧ b.1 < b.2) ∧ a.1 < b.1 ∧ b.1 ≠ a.2 ∧ b.2 ≠ a.2 ∧ ¬ (b.1 < a.2 ∧ a.2 < b.2) :=
  List.Pairwise.and (List.pairwise_of_forall_mem_list fun a ha b hb => ⟨hm a ha,hm b hb⟩) h.pw
 exact this.imp fun {a b} g => by unfold Apart; omega
theorem geo_of {n:Nat} {l:List (Nat × Nat)} (hl:2 * l.length = n) (ha:∀ a ∈ l,a.1 < a.2 ∧ a.2 < n) (hp:l.Pairwise Apart):Geo n (srt l):=by
 have hq:(srt l).Pairwise Apart:=(srt_perm.pairwise_iff fun h => Apart.symm h).mpr hp
 have hm:∀ a ∈ srt l,a.1 < a.2 ∧ a.2 < n:=fun a m => ha a (srt_perm.mem_iff.mp m)
 refine ⟨by rw [srt_perm.length_eq]; exact hl,hm,?_⟩
 unfold Pw
 have:=List.Pairwise.and (List.pairwise_of_forall_mem_list (l:=srt l) (r:=fun a b => a.1 < a.2 ∧ b.1 < b.2) fun a ha b hb => ⟨(hm a ha).1,(hm b hb).1⟩) (List.Pairwise.and (srt_le (l:=l)) hq)
 exact this.imp fun {a b} g => by unfold Apart at g; omega
theorem mArc_apart {last:Nat} {a b:Nat × Nat} (ha:a.1 < a.2 ∧ a.2 ≤ last) (hb:b.1 < b.2 ∧ b.2 ≤ last) (h:Apart a b):Apart (mArc last a) (mArc last b):=by
 unfold Apart at *
 unfold mArc
 split <;> split <;> simp only <;> omega
theorem mArc_arc {last:Nat} {a:Nat × Nat} (ha:a.1 < a.2 ∧ a.2 < last + 1):(mArc last a).1 < (mArc last a).2 ∧ (mArc last a).2 < last + 1:=by
 unfold mArc
 split <;> simp only <;> omega
theorem mArc_mArc {last:Nat} {a:Nat × Nat} (ha:a.1 < a.2 ∧ a.2 < last + 1):mArc last (mArc last a) = a:=by
 unfold mArc
 by_cases h:a.2 = last
 ·rw [if_pos h,if_pos rfl]
  exact Prod.ext (by simp only; omega) h.symm
 ·rw [if_neg h,if_neg (by simp only; omega)]
  exact Prod.ext (by simp only; omega) (by simp only; omega)
theorem geo_mir {last:Nat} {arcs:List (Nat × Nat)} (h:Geo (last + 1) arcs):Geo (last + 1) (srt (arcs.map (mArc last))):=by
 refine geo_of (by rw [List.length_map]; exact h.len) (fun a m => ?_) ?_
 ·obtain ⟨b,hb,rfl⟩:=List.mem_map.mp m
  exact mArc_arc (h.arc b hb)
 ·rw [List.pairwise_map]
  have hm:∀ a ∈ arcs,a.1 < a.2 ∧ a.2 ≤ last:=fun a m => by have:=h.arc a m; omega
  have:=List.Pairwise.and (List.pairwise_of_forall_mem_list (r:=fun a b => (a.1 < a.2 ∧ a.2 ≤ last) ∧ b.1 < b.2 ∧ b.2 ≤ last) fun a ha b hb => ⟨hm a ha,hm b hb⟩) (geo_apart h)
  exact this.imp fun {a b} g => mArc_apart g.1.1 g.1.2 g.2
theorem geo_back {last:Nat} {arcs:List (Nat × Nat)} (h:Geo (last + 1) arcs):srt ((srt (arcs.map (mArc last))).map (mArc last)) = arcs:=by
 refine srt_eq ?_ (h.pw.imp fun g => g.1)
 have h1:=(srt_perm (l:=arcs.map (mArc last))).map (mArc last)
 rw [List.map_map] at h1
 have h2:arcs.map (mArc last ∘ mArc last) = arcs:=by
  conv => rhs; rw [← List.map_id arcs]
  exact List.map_congr_left fun a m => mArc_mArc (h.arc a m)
 rw [h2] at h1
 exact h1.symm
theorem cB_mir {ord:List (Str × Str)} {x y:Str × Int} (h:cB ord x y = true):cB ord (mirS y) (mirS x) = true:=by
 unfold cB at *
 simp only [Bool.and_eq_true,beq_iff_eq,mirS] at *
 refine ⟨by omega,?_⟩
 rw [lB_flip (u:=x.2) (by omega)]
 exact h.2
theorem mir_app (a b:Row):mir (a ++ b) = mir b ++ mir a:=by simp [mir]
theorem mir_mir (r:Row):mir (mir r) = r:=by
 unfold mir
 rw [← List.map_reverse,List.reverse_reverse,List.map_map]
 conv => rhs; rw [← List.map_id r]
 exact List.map_congr_left fun x _ => by simp [mirS]
theorem mir_flatten:∀ l:List Row,mir l.flatten = (l.reverse.map mir).flatten
 | [] => rfl
 | a :: l => by rw [List.flatten_cons,mir_app,mir_flatten l]; simp
theorem lookup_map {ents:List (Str × List Row)} (w:Str):(ents.map mirE).lookup w = (ents.lookup w).map fun ks => ks.map mir:=by
 induction ents with
 | nil => rfl
 | cons e l ih =>
  obtain ⟨a,ks⟩:=e
  rw [List.map_cons,mirE]
  simp only [List.lookup_cons]
  cases h:w == a with
  | true => rfl
  | false => exact ih
theorem kin_mir {ents:List (Str × List Row)} (w:Str):kin (ents.map mirE) w = (kin ents w).map mir:=by
 unfold kin
 rw [lookup_map]
 cases ents.lookup w <;> rfl
theorem getD_mir {ks:List Row} {c:Nat}:(ks.map mir).getD c [] = mir (ks.getD c []):=by
 simp only [List.getD_eq_getElem?_getD,List.getElem?_map]
 cases ks[c]? <;> rfl
theorem chosen_mir {ents:List (Str × List Row)} {ws:List Str} {ch:List Nat} (h:ws.length = ch.length):chosen (ents.map mirE) ws.reverse ch.reverse = ((chosen ents ws ch).map mir).reverse:=by
 unfold chosen
 rw [List.map_zipWith,List.reverse_zipWith h]
 congr 1
 funext w c
 rw [kin_mir,getD_mir]
theorem rowOf_mir {ents:List (Str × List Row)} {ws:List Str} {ch:List Nat} (h:ws.length = ch.length):rowOf (ents.map mirE) ws.reverse ch.reverse = mir (rowOf ents ws ch):=by
 unfold rowOf
 rw [chosen_mir h,mir_flatten,List.map_reverse]
theorem mir_len (r:Row):(mir r).length = r.length:=by simp [mir]
theorem sg_mir {r:Row} {g:Str × Int} {i:Nat} (h:i < r.length):sg (mir r ++ [g]) i = mirS (sg (r ++ [g]) (r.length - 1 - i)):=by
 unfold sg mir
 rw [List.getD_eq_getElem?_getD,List.getD_eq_getElem?_getD,List.getElem?_append_left (by simp [h]),List.getElem?_append_left (by omega),List.getElem?_map,List.getElem?_reverse h]
 rw [List.getElem?_eq_getElem (by omega)]
 rfl
theorem sg_last {r:Row} {g:Str × Int}:sg (r ++ [g]) r.length = g:=by simp [sg]
structure DrOf (ord:List (Str × Str)) (goal:Str) (ents:List (Str × List Row)) (ws:List Str) (ch:List Nat) (arcs:List (Nat × Nat)):Prop where
 lo:ord.length ≤ 500
 le:ents.length ≤ 8
 lw:ws.length ≤ 8
 mem:∀ w ∈ ws,w ∈ ents.map (·.1) ∧ 1 ≤ w.length ∧ w.length ≤ 8 ∧ ∀ c ∈ w.cps.toList,c ∈ abcL
 len:ch.length = ws.length
 fit:∀ p ∈ ws.zip ch,p.2 < (kin ents p.1).length
 small:(rowOf ents ws ch).length ≤ 11
 geo:Geo ((rowOf ents ws ch).length + 1) arcs
 can:∀ a ∈ arcs,cB ord (sg (rowOf ents ws ch ++ [(goal,1)]) a.1) (sg (rowOf ents ws ch ++ [(goal,1)]) a.2) = true
theorem dr_mir {ord:List (Str × Str)} {goal:Str} {ents:List (Str × List Row)} {ws:List Str} {ch:List Nat} {arcs:List (Nat × Nat)} (h:DrOf ord goal ents ws ch arcs) :
  DrOf ord goal (ents.map mirE) ws.reverse ch.reverse (srt (arcs.map (mArc (rowOf ents ws ch).length))):=by
 have e:=rowOf_mir (ents:=ents) h.len.symm
 refine ⟨h.lo,by rw [List.length_map]; exact h.le,by rw [List.length_reverse]; exact h.lw,fun w hw => ?_,by rw [List.length_reverse,List.length_reverse]; exact h.len,fun p hp => ?_,by rw [e,mir_len]; exact h.small,by rw [e,mir_len]; exact geo_mir h.geo,fun a m => ?_⟩
 ·have:=h.mem w (List.mem_reverse.mp hw)
  refine ⟨?_,this.2⟩
  have e2:(ents.map mirE).map (·.1) = ents.map (·.1):=by rw [List.map_map]; rfl
  rw [e2]; exact this.1
 ·rw [kin_mir,List.length_map]
  have e3:ws.reverse.zip ch.reverse = (ws.zip ch).reverse:=by
   simp only [List.zip]
   rw [List.reverse_zipWith h.len.symm]
  rw [e3] at hp
  exact h.fit p (List.mem_reverse.mp hp)
 ·rw [e]
  obtain ⟨b,hb,rfl⟩:=List.mem_map.mp (srt_perm.mem_iff.mp m)
  have hc:=h.can b hb
  have ha:=h.geo.arc b hb
  unfold mArc
  by_cases q:b.2 = (rowOf ents ws ch).length
  ·rw [if_pos q]
   rw [q,sg_last] at hc
   simp only
   rw [sg_mir (by omega),show (rowOf ents ws ch).length - 1 - ((rowOf ents ws ch).length - 1 - b.1) = b.1 by omega]
   have e4:sg (mir (rowOf ents ws ch) ++ [(goal,1)]) (rowOf ents ws ch).length = (goal,1):=by rw [← mir_len (rowOf ents ws ch)]; exact sg_last
   rw [e4]
   have e5:mirS (sg (rowOf ents ws ch ++ [(goal,1)]) b.1) = sg (rowOf ents ws ch ++ [(goal,1)]) b.1:=by
    unfold cB at hc
    simp only [Bool.and_eq_true,beq_iff_eq] at hc
    exact Prod.ext rfl (by simp only [mirS]; omega)
   rw [e5]; exact hc
  ·rw [if_neg q]
   simp only
   rw [sg_mir (by omega),sg_mir (by omega),show (rowOf ents ws ch).length - 1 - ((rowOf ents ws ch).length - 1 - b.1) = b.1 by omega,show (rowOf ents ws ch).length - 1 - ((rowOf ents ws ch).length - 1 - b.2) = b.2 by omega]
   exact cB_mir hc

end
section
variable {P:Program} {w:World} {K:PySem.W.Frag} {mg:Str → Option Value} {base:Heap}
noncomputable def WordOk (x:Str):Prop:=1 ≤ x.length ∧ x.length ≤ 8 ∧ ∀ c ∈ x.cps.toList,c ∈ abcL
theorem allD_true {α:Type} (l:List α):allD (.lst (l.map fun _ => D.bl true)) = some (.bl true):=by
 have h1:(l.map fun _ => D.bl true).all isBl = true:=by rw [List.all_map,List.all_eq_true]; intro _ _; rfl
 have h2:(l.map fun _ => D.bl true).all blOf = true:=by rw [List.all_map,List.all_eq_true]; intro _ _; rfl
 simp only [allD,h1,h2,if_true]
noncomputable def S_p_is_short_word:SpD:=fun ds M R => ∃ x:Str,ds = [.str x] ∧ WordOk x ∧ R (.bl true) M
theorem ok_p_is_short_word {f:Addr} {fd:FuncData} (F:Fun K "is_short_word" "is_short_word" s_p_is_short_word f fd) (T:Txt mg) :FnOk P w K mg base CX0 1 f fd ["thing"] (spD K 1 S_p_is_short_word):=by
 have nd:=sc_p_is_short_word.nd
 refine F.okQ rfl sc_p_is_short_word (fun cdv A outer s H E hr => ⟨_,(q_sone (q_ret (q_and (q_isi (Tn:="str") (by decide) rfl T.b_isinstance rfl T.b_str (by kernel_rfl) (q_var 0)) (q_and (q_chain o_le o_le q_int (q_callB c_len rfl T.b_len (by kernel_rfl) (q_cons (q_var 0) q_nil)) (q_globIx rfl T.g_MOST_LETTERS)) (q_one (q_callB (c_all rfl) rfl T.b_all (by kernel_rfl) (q_cons (q_lc (ms:=[false]) (extra:=["letter"]) (compSc_of (n0:=0) rfl (show compOkB (defScope s_p_is_short_word) n_p_is_short_word _ _ = true from by decide +kernel)) rfl (qi_any (q_var 0)) (ga_name (i:=1) (show (n_p_is_short_word ++ _).Nodup from by decide +kernel) rfl rfl) (fun _ _ _ _ => qi_nil) (fun _ _ _ _ => (q_cmp o_inE (q_var 1) (q_globSx rfl T.g_SMALL_LETTERS) (by first | exact nobehind _ (by decide) (by decide) | rfl)))) q_nil))))))),fun ds M R hl hS => ?_⟩)
 obtain ⟨x,rfl,⟨h1,h2,h3⟩,k⟩:=hS
 walk_at "rd"
 refine ⟨true,rfl,?_⟩
 walk_at "rd"
 refine ⟨_,if_pos (szB _ (by omega)),true,?_,?_⟩
 ·show some (D.bl (decide ((1:Int) ≤ (x.length:Int)))) = _
  rw [decide_eq_true (by omega)]
 rw [if_pos rfl]
 refine ⟨_,rfl,true,?_,?_⟩
 ·rw [decide_eq_true (by omega)]
 rw [if_pos rfl]
 refine ⟨_,if_pos (szB _ (by omega)),fun hz => ⟨hz,?_⟩⟩
 refine lcRun_map (fun (c:Nat) => D.str (tx [c])) (fun _ => true) (fun _ => D.bl true) (fun Δ => ∃ x,Δ = [none,x]) x.cps.toList _ _ (fun c hc Δ hΔ => ?_) ⟨none,rfl⟩ ?_
 ·obtain ⟨x1,rfl⟩:=hΔ
  refine ⟨_,rfl,⟨_,rfl⟩,fun Q1 q => q,fun _ Q2 q => ?_⟩
  walk_at "rd"
  simp only [inE_s,Option.some.injEq,exists_eq_left',Bool.false_xor]
  rw [show (Str.ofString "abcdefghijklmnopqrstuvwxyz") = abc from rfl,abc_eq,tx_list,decide_eq_true (h3 c hc)]
  exact q
 ·rw [List.nil_append,List.filter_eq_self.mpr (fun _ _ => rfl)]
  exact ⟨_,allD_true _,k⟩
noncomputable def S_p_words_of:SpD:=fun ds M R => ∃ (ord:List (Str × Str)) (goal:Str) (ents:List (Str × List Row)),ds = [lexD ord goal ents] ∧ ents.length ≤ 8 ∧ R (.lst (ents.map fun e => D.str e.1)) M
theorem ok_p_words_of {f:Addr} {fd:FuncData} (F:Fun K "words_of" "words_of" s_p_words_of f fd) (T:Txt mg) :FnOk P w K mg base CX0 1 f fd ["lexicon"] (spD K 1 S_p_words_of):=by
 have nd:=sc_p_words_of.nd
 refine F.okQ rfl sc_p_words_of (fun cdv A outer s H E hr => ⟨_,(q_sone (q_ret (q_lc (ms:=[false]) (extra:=["word","kinds"]) (compSc_of (n0:=0) rfl (show compOkB (defScope s_p_words_of) n_p_words_of _ _ = true from by decide +kernel)) rfl (qi_any (q_ix o_ix (q_var 0) q_int (fun _ _ => rfl))) (ga_tup (n:=2) rfl (gs_cons (ga_name (i:=1) (show (n_p_words_of ++ _).Nodup from by decide +kernel) rfl rfl) (gs_cons (ga_name (i:=2) (show (n_p_words_of ++ _).Nodup from by decide +kernel) rfl rfl) gs_nil))) (fun _ _ _ _ => qi_nil) (fun _ _ _ _ => (q_var 1))))),fun ds M R hl hS => ?_⟩)
 obtain ⟨ord,goal,ents,rfl,hl,k⟩:=hS
 simp only [lexD]
 walk_at "rd"
 refine fun hz => ⟨hz,?_⟩
 refine lcRun_map entD (fun _ => true) (fun e => D.str e.1) (fun Δ => ∃ x y,Δ = [none,x,y]) ents _ _ (fun e he Δ hΔ => ?_) ⟨none,none,rfl⟩ ?_
 ·obtain ⟨x,y,rfl⟩:=hΔ
  refine ⟨_,rfl,⟨_,_,rfl⟩,fun Q1 q => q,fun _ Q2 q => ?_⟩
  walk_at "rd"
  exact q
 ·rw [List.nil_append,List.filter_eq_self.mpr (fun _ _ => rfl)]
  exact k
theorem str_any {w:Str} {ents:List (Str × List Row)}:((ents.map fun e => D.str e.1).any fun d => eqD d (.str w)) = decide (w ∈ ents.map (·.1)):=by
 rw [Bool.eq_iff_iff,List.any_map,List.any_eq_true,decide_eq_true_eq,List.mem_map]
 constructor
 ·rintro ⟨e,he,h⟩; exact ⟨e,he,by simpa [eqD] using h⟩
 ·rintro ⟨e,he,h⟩; exact ⟨e,he,by simp [eqD,h]⟩
theorem strs_scal {ents:List (Str × List Row)}:(ents.map fun e => D.str e.1).all scalD = true:=by rw [List.all_map,List.all_eq_true]; intro _ _; rfl
noncomputable def S_p_has_word:SpD:=fun ds M R => ∃ (ord:List (Str × Str)) (goal:Str) (ents:List (Str × List Row)) (w:Str),ds = [lexD ord goal ents,.str w] ∧ ents.length ≤ 8 ∧ w ∈ ents.map (·.1) ∧ WordOk w ∧ R (.bl true) M
theorem ok_p_has_word {f:Addr} {fd:FuncData} (F:Fun K "has_word" "has_word" s_p_has_word f fd) (T:Txt mg) (g_p_is_short_word:FnD P w K mg base "is_short_word" 1 1 S_p_is_short_word) (g_p_words_of:FnD P w K mg base "words_of" 1 1 S_p_words_of):FnOk P w K mg base CX0 2 f fd ["lexicon","thing"] (spD K 2 S_p_has_word):=by
 have nd:=sc_p_has_word.nd
 refine F.okQ rfl sc_p_has_word (fun cdv A outer s H E hr => ⟨_,(q_sone (q_ret (q_and (qc g_p_is_short_word (hr.mono (by decide)) rfl (q_cons (q_var 1) q_nil)) (q_one (q_cmp o_inE (q_var 1) (qc g_p_words_of (hr.mono (by decide)) rfl (q_cons (q_var 0) q_nil)) (by first | exact nobehind _ (by decide) (by decide) | rfl)))))),fun ds M R hl hS => ?_⟩)
 obtain ⟨ord,goal,ents,w,rfl,hl,hw,ok,k⟩:=hS
 walk_at "rd"
 refine ⟨w,rfl,ok,_,rfl,?_⟩
 rw [if_pos rfl]
 refine ⟨ord,goal,ents,rfl,hl,?_⟩
 walk_at "rd"
 refine ⟨_,if_pos ⟨rfl,strs_scal⟩,?_⟩
 rw [str_any,decide_eq_true hw]
 exact k
theorem idx_word {w:Str}:∀ {ents:List (Str × List Row)},ents.length < 2 ^ 62 → w ∈ ents.map (·.1) → ∃ j e,idxD (ents.map fun e => D.str e.1) (.str w) = some j ∧ ents[j]? = some e ∧ e.2 = kin ents w:=by
 intro ents hl hw
 have hd:dLes (ents.map fun e => D.str e.1) 59 = true:=dLes_gen _ fun _ => rfl
 have h1:dLe (.str w) 59 = true:=rfl
 unfold idxD
 rw [if_pos ⟨h1,hd,by rw [List.length_map]; exact hl⟩]
 clear hd h1 hl
 induction ents with
 | nil => cases hw
 | cons e l ih =>
  obtain ⟨a,ks⟩:=e
  rw [List.map_cons,List.findIdx?_cons]
  by_cases h:a = w
  ·subst h
   exact ⟨0,_,by simp [eqD],rfl,by simp [kin]⟩
  ·have hne:eqD (.str a) (.str w) = false:=by simp [eqD,h]
   have hw':w ∈ l.map (·.1):=by
    rw [List.map_cons] at hw
    rcases List.mem_cons.mp hw with q | q
    ·exact absurd q.symm h
    ·exact q
   obtain ⟨j,e,q1,q2,q3⟩:=ih hw'
   refine ⟨j + 1,e,?_,by rw [List.getElem?_cons_succ]; exact q2,?_⟩
   ·simp only [hne,Bool.false_eq_true,if_false]
    rw [q1]; rfl
   ·rw [q3]
    unfold kin
    rw [List.lookup_cons]
    have:(w == a) = false:=by simpa using fun q:w = a => h q.symm
    rw [this]
noncomputable def S_p_kinds_of:SpD:=fun ds M R => ∃ (ord:List (Str × Str)) (goal:Str) (ents:List (Str × List Row)) (w:Str),ds = [lexD ord goal ents,.str w] ∧ ents.length ≤ 8 ∧ w ∈ ents.map (·.1) ∧ WordOk w ∧ R (kindsD (kin ents w)) M
theorem ok_p_kinds_of {f:Addr} {fd:FuncData} (F:Fun K "kinds_of" "kinds_of" s_p_kinds_of f fd) (T:Txt mg) (g_p_has_word:FnD P w K mg base "has_word" 2 2 S_p_has_word) (g_p_words_of:FnD P w K mg base "words_of" 1 1 S_p_words_of):FnOk P w K mg base CX0 3 f fd ["lexicon","word"] (spD K 2 S_p_kinds_of):=by
 have nd:=sc_p_kinds_of.nd
 refine F.okQ rfl sc_p_kinds_of (fun cdv A outer s H E hr => ⟨_,(q_scons (q_ifS (q_tnot (q_tval (qc g_p_has_word (hr.mono (by decide)) rfl (q_cons (q_var 0) (q_cons (q_var 1) q_nil))))) (q_sone q_never) q_snil)
   (q_sone (q_ret (q_ix o_ix (q_ix o_ix (q_ix o_ix (q_var 0) q_int (fun _ _ => rfl)) (q_idxL hr.units (qc g_p_words_of (hr.mono (by decide)) rfl (q_cons (q_var 0) q_nil)) (q_var 1)) (fun _ _ => rfl)) q_int (fun _ _ => rfl))))),fun ds M R hl hS => ?_⟩)
 obtain ⟨ord,goal,ents,w,rfl,hl,hw,ok,k⟩:=hS
 walk_at "rd"
 refine ⟨ord,goal,ents,w,rfl,hl,hw,ok,_,rfl,?_⟩
 simp only [lexD]
 rw [if_neg (by simp)]
 walk_at "rd"
 refine ⟨ord,goal,ents,rfl,hl,⟨_,rfl⟩,_,rfl,?_⟩
 obtain ⟨j,e,q1,q2,q3⟩:=idx_word (Nat.lt_of_le_of_lt hl (by decide)) hw
 refine ⟨j,q1,?_⟩
 refine ⟨_,atI_nat (by rw [List.getElem?_map,q2]; rfl),?_⟩
 simp only [entD]
 walk_at "rd"
 rw [q3]; exact k
noncomputable def S_p_refuse_other_words:SpD:=fun ds M R => ∃ (ord:List (Str × Str)) (goal:Str) (ents:List (Str × List Row)) (ws:List Str),ds = [lexD ord goal ents,.tup (ws.map .str)] ∧ ents.length ≤ 8 ∧ (∀ w ∈ ws,w ∈ ents.map (·.1) ∧ WordOk w) ∧ R .non M
theorem ok_p_refuse_other_words {f:Addr} {fd:FuncData} (F:Fun K "refuse_other_words" "refuse_other_words" s_p_refuse_other_words f fd) (T:Txt mg) (g_p_kinds_of:FnD P w K mg base "kinds_of" 3 2 S_p_kinds_of):FnOk P w K mg base CX0 4 f fd ["lexicon","words"] (spD K 2 S_p_refuse_other_words):=by
 have nd:=sc_p_refuse_other_words.nd
 refine F.okQ rfl sc_p_refuse_other_words (fun cdv A outer s H E hr => ⟨_,(q_sone (q_for PassesOwn.never rfl (qi_any (q_var 1)) (g_name (i:=2) nd rfl (Or.inl rfl)) (q_sone (q_expr (qc g_p_kinds_of (hr.mono (by decide)) rfl (q_cons (q_var 0) (q_cons (q_var 2) q_nil))))))),fun ds M R hl hS => ?_⟩)
 obtain ⟨ord,goal,ents,ws,rfl,hl,hw,k⟩:=hS
 walk_at "rd"
 intro hz
 refine forRun_by (fun i Δ M' => ∃ x,Δ = [some (lexD ord goal ents),some (D.tup (ws.map D.str)),x] ∧ M' = M) ⟨_,rfl,rfl⟩ ?_ ?_
 ·rintro i d Δ M' X hd ⟨x,rfl,rfl⟩ k'
  obtain ⟨w,hw',rfl⟩:=map_get hd
  refine ⟨_,rfl,?_⟩
  walk_at "rd"
  have:=hw w (List.mem_of_getElem? hw')
  exact ⟨ord,goal,ents,w,rfl,hl,this.1,this.2,k' _ _ ⟨_,rfl,rfl⟩⟩
 ·rintro Δ M' ⟨x,rfl,rfl⟩
  exact k
noncomputable def S_p_goals_wish:SpD:=fun ds M R => ∃ (ord:List (Str × Str)) (goal:Str) (ents:List (Str × List Row)),ds = [lexD ord goal ents] ∧ R (kindD [(goal,1)]) M
theorem ok_p_goals_wish {f:Addr} {fd:FuncData} (F:Fun K "goals_wish" "goals_wish" s_p_goals_wish f fd) (T:Txt mg) :FnOk P w K mg base CX0 1 f fd ["lexicon"] (spD K 1 S_p_goals_wish):=by
 have nd:=sc_p_goals_wish.nd
 refine F.okQ rfl sc_p_goals_wish (fun cdv A outer s H E hr => ⟨_,(q_sone (q_ret (q_tup (q_cons (q_tup (q_cons (q_ix o_ix (q_var 0) q_int (fun _ _ => rfl)) (q_cons q_int q_nil))) q_nil)))),fun ds M R hl hS => ?_⟩)
 obtain ⟨ord,goal,ents,rfl,k⟩:=hS
 simp only [lexD]
 walk_at "rd"
 exact ⟨sz3 2,sz3 1,k⟩

end
section
variable {P:Program} {w:World} {K:PySem.W.Frag} {mg:Str → Option Value} {base:Heap}
theorem zipD_map {α β:Type} (f:α → D) (g:β → D):∀ (l:List α) (m:List β),zipD (l.map f) (m.map g) = (l.zip m).map fun p => D.tup [f p.1,g p.2]
 | [],_ => by simp [zipD]
 | _ :: _,[] => by simp [zipD]
 | a :: l,b :: m => by simp only [List.map_cons,zipD,List.zip_cons_cons,zipD_map f g l m]
theorem rowOf_eq {ents:List (Str × List Row)}:∀ {ws:List Str} {ch:List Nat},rowOf ents ws ch = (ws.zip ch).flatMap fun p => (kin ents p.1).getD p.2 []
 | [],_ => by simp [rowOf,chosen]
 | _ :: _,[] => by simp [rowOf,chosen]
 | w :: ws,c :: ch => by
  rw [List.zip_cons_cons,List.flatMap_cons,← rowOf_eq (ws:=ws) (ch:=ch)]
  simp [rowOf,chosen]
theorem kind_at {ks:List Row} {c:Nat} (h:c < ks.length):atI (ks.map kindD) (c:Int) = some (kindD (ks.getD c [])):=by
 refine atI_nat ?_
 rw [List.getElem?_map,List.getElem?_eq_getElem h]
 simp [h]
noncomputable def S_p_signs_of:SpD:=fun ds M R => ∃ (ord:List (Str × Str)) (goal:Str) (ents:List (Str × List Row)) (ws:List Str) (ch:List Nat),ds = [lexD ord goal ents,.tup (ws.map .str),.tup (intsD ch)] ∧ ents.length ≤ 8 ∧ ws.length ≤ 8 ∧ (∀ w ∈ ws,w ∈ ents.map (·.1) ∧ WordOk w) ∧ (∀ p ∈ ws.zip ch,p.2 < (kin ents p.1).length) ∧ (rowOf ents ws ch).length ≤ 23 ∧
 R (.tup ((rowOf ents ws ch ++ [(goal,1)]).map signD)) M
theorem ok_p_signs_of {f:Addr} {fd:FuncData} (F:Fun K "signs_of" "signs_of" s_p_signs_of f fd) (T:Txt mg) (g_p_kinds_of:FnD P w K mg base "kinds_of" 3 2 S_p_kinds_of) (g_p_goals_wish:FnD P w K mg base "goals_wish" 1 1 S_p_goals_wish):FnOk P w K mg base CX0 4 f fd ["lexicon","words","choice"] (spD K 3 S_p_signs_of):=by
 have nd:=sc_p_signs_of.nd
 refine F.okQ rfl sc_p_signs_of (fun cdv A outer s H E hr => ⟨_,(q_scons (q_setLc (i:=3) nd rfl rfl rfl (ms:=[true,false,false,false,false]) (extra:=["word"]) (compSc_of rfl (show compOkB (defScope s_p_signs_of) n_p_signs_of _ _ = true from by decide +kernel)) rfl (qi_any (q_var 1)) (ga_name (i:=5) (show (n_p_signs_of ++ _).Nodup from by decide +kernel) rfl rfl) (fun _ _ _ _ => qi_nil) (fun _ _ _ _ => (qc g_p_kinds_of (hr.mono (by decide)) rfl (q_cons (q_var 0) (q_cons (q_var 5) q_nil)))))
   (q_scons (q_setLc2 (i:=4) nd rfl rfl rfl (ms:=[false,false,false,false,false]) (extra:=["rows","number","sign"]) (compSc_of rfl (show compOkB (defScope s_p_signs_of) n_p_signs_of _ _ = true from by decide +kernel)) rfl (qi_zip rfl T.b_zip (q_cons (q_var 3) (q_cons (q_var 2) q_nil))) (ga_tup (n:=2) rfl (gs_cons (ga_name (i:=5) (show (n_p_signs_of ++ _).Nodup from by decide +kernel) rfl rfl) (gs_cons (ga_name (i:=6) (show (n_p_signs_of ++ _).Nodup from by decide +kernel) rfl rfl) gs_nil))) (fun _ _ _ _ => qi_nil) (fun _ _ _ _ => (qi_any (q_ix o_ix (q_var 5) (q_var 6) (fun _ _ => rfl)))) (ga_name (i:=7) (show (n_p_signs_of ++ _).Nodup from by decide +kernel) rfl rfl) (fun _ _ _ _ => qi_nil) (fun _ _ _ _ => (q_var 7)))
   (q_sone (q_ret (q_op o_add (q_callTy c_tuple rfl T.b_tuple (by kernel_rfl) (q_cons (q_var 4) q_nil)) (qc g_p_goals_wish (hr.mono (by decide)) rfl (q_cons (q_var 0) q_nil))))))),fun ds M R hl hS => ?_⟩)
 obtain ⟨ord,goal,ents,ws,ch,rfl,hl,hlw,hw,hf,hs,k⟩:=hS
 walk_at "rd"
 refine fun hz => ⟨hz,?_⟩
 refine lcRun_map D.str (fun _ => true) (fun w => kindsD (kin ents w)) (fun Δ => ∃ x,Δ = [some (lexD ord goal ents),none,none,none,none,x]) ws _ _ (fun w' hw' Δ hΔ => ?_) ⟨none,rfl⟩ ?_
 ·obtain ⟨x,rfl⟩:=hΔ
  refine ⟨_,rfl,⟨_,rfl⟩,fun Q1 q => q,fun _ Q2 q => ?_⟩
  walk_at "rd"
  exact ⟨ord,goal,ents,w',rfl,hl,(hw w' hw').1,(hw w' hw').2,q⟩
 rw [List.nil_append,List.filter_eq_self.mpr (fun _ _ => rfl)]
 refine ⟨_,_,⟨rfl,rfl⟩,_,_,_,rfl,_,rfl,?_⟩
 unfold intsD
 rw [zipD_map]
 refine lc2Run_map (fun p:Str × Nat => D.tup [kindsD (kin ents p.1),D.int (p.2:Int)]) signD (fun p => (kin ents p.1).getD p.2 []) (fun _ x => signD x) (fun Δ => ∃ x5 x6 x7,Δ = [none,none,none,none,none,x5,x6,x7]) (fun p Δ => ∃ x7,Δ = [none,none,none,none,none,some (kindsD (kin ents p.1)),some (D.int (p.2:Int)),x7]) (fun p Δ ⟨x7,e⟩ => ⟨_,_,_,e⟩) (ws.zip ch) _ _ (fun p hp Δ hΔ => ?_) (fun p hp z hzz Δ hΔ => ?_) ⟨_,_,_,rfl⟩ ?_ ?_
 ·obtain ⟨x5,x6,x7,rfl⟩:=hΔ
  refine ⟨_,rfl,⟨_,rfl⟩,fun Q1 q => q,fun Q2 q => ?_⟩
  simp only [kindsD]
  walk_at "rd"
  refine ⟨_,kind_at (hf p hp),?_⟩
  simp only [kindD]
  walk_at "rd"
  exact fun _ => q
 ·obtain ⟨x7,rfl⟩:=hΔ
  refine ⟨_,rfl,⟨_,rfl⟩,fun Q1 q => q,fun Q2 q => ?_⟩
  walk_at "rd"
  exact q
 ·rw [List.length_nil,Nat.zero_add,← rowOf_eq]
  exact sz3 _ (by omega)
 ·rw [List.nil_append]
  have e:((ws.zip ch).flatMap fun x => ((kin ents x.1).getD x.2 []).map fun z => signD z) = (rowOf ents ws ch).map signD:=by rw [rowOf_eq,List.map_flatMap]
  rw [e]
  refine ⟨ord,goal,ents,rfl,?_⟩
  simp only [kindD]
  walk_at "rd"
  refine ⟨_,if_pos ?_,?_⟩
  ·rw [List.length_map]
   exact sz3 _ (by simp; omega)
  ·rw [List.map_append] at k; exact k
noncomputable def S_p_is_choice:SpD:=fun ds M R => ∃ (ord:List (Str × Str)) (goal:Str) (ents:List (Str × List Row)) (ws:List Str) (ch:List Nat),ds = [lexD ord goal ents,.tup (ws.map .str),.tup (intsD ch)] ∧ ents.length ≤ 8 ∧ ws.length ≤ 8 ∧ (∀ w ∈ ws,w ∈ ents.map (·.1) ∧ WordOk w) ∧ ch.length = ws.length ∧ (∀ p ∈ ws.zip ch,p.2 < (kin ents p.1).length) ∧ R (.bl true) M
theorem ok_p_is_choice {f:Addr} {fd:FuncData} (F:Fun K "is_choice" "is_choice" s_p_is_choice f fd) (T:Txt mg) (g_p_is_tuple_of:FnD P w K mg base "is_tuple_of" 1 2 S_p_is_tuple_of) (g_p_is_whole:FnD P w K mg base "is_whole" 1 1 S_p_is_whole) (g_p_kinds_of:FnD P w K mg base "kinds_of" 3 2 S_p_kinds_of):FnOk P w K mg base CX0 4 f fd ["lexicon","words","thing"] (spD K 3 S_p_is_choice):=by
 have nd:=sc_p_is_choice.nd
 refine F.okQ rfl sc_p_is_choice (fun cdv A outer s H E hr => ⟨_,(q_scons (q_ifS (q_pw (q_tor (q_tnot (q_tval (qc g_p_is_tuple_of (hr.mono (by decide)) rfl (q_cons (q_var 2) (q_cons (q_callB c_len rfl T.b_len (by kernel_rfl) (q_cons (q_var 1) q_nil)) q_nil))))) (q_tor1 (q_tnot (q_tval (q_callB (c_all rfl) rfl T.b_all (by kernel_rfl) (q_cons (q_lc (ms:=[false,false,false]) (extra:=["number"]) (compSc_of rfl (show compOkB (defScope s_p_is_choice) n_p_is_choice _ _ = true from by decide +kernel)) rfl (qi_any (q_var 2)) (ga_name (i:=3) (show (n_p_is_choice ++ _).Nodup from by decide +kernel) rfl rfl) (fun _ _ _ _ => qi_nil) (fun _ _ _ _ => (qc g_p_is_whole (hr.mono (by decide)) rfl (q_cons (q_var 3) q_nil)))) q_nil))))))) (q_sone (q_ret q_bl)) q_snil)
   (q_sone (q_ret (q_callB (c_all rfl) rfl T.b_all (by kernel_rfl) (q_cons (q_lc (ms:=[true,false,false]) (extra:=["word","number"]) (compSc_of rfl (show compOkB (defScope s_p_is_choice) n_p_is_choice _ _ = true from by decide +kernel)) rfl (qi_zip rfl T.b_zip (q_cons (q_var 1) (q_cons (q_var 2) q_nil))) (ga_tup (n:=2) rfl (gs_cons (ga_name (i:=3) (show (n_p_is_choice ++ _).Nodup from by decide +kernel) rfl rfl) (gs_cons (ga_name (i:=4) (show (n_p_is_choice ++ _).Nodup from by decide +kernel) rfl rfl) gs_nil))) (fun _ _ _ _ => qi_nil) (fun _ _ _ _ => (q_chain o_le o_lt q_int (q_var 4) (q_callB c_len rfl T.b_len (by kernel_rfl) (q_cons (qc g_p_kinds_of (hr.mono (by decide)) rfl (q_cons (q_var 0) (q_cons (q_var 3) q_nil))) q_nil))))) q_nil))))),fun ds M R hl hS => ?_⟩)
 obtain ⟨ord,goal,ents,ws,ch,rfl,hl,hlw,hw,hc,hf,k⟩:=hS
 walk_at "rd"
 refine ⟨_,_,rfl,_,rfl,?_⟩
 rw [show (((intsD ch).length:Int) == ((ws.map D.str).length:Int)) = true by simp [intsD,hc],if_neg (by simp)]
 refine fun hz => ⟨hz,?_⟩
 unfold intsD at *
 refine lcRun_map (fun (c:Nat) => D.int (c:Int)) (fun _ => true) (fun _ => D.bl true) (fun Δ => ∃ x,Δ = [none,none,none,x]) ch _ _ (fun c hc' Δ hΔ => ?_) ⟨none,rfl⟩ ?_
 ·obtain ⟨x,rfl⟩:=hΔ
  refine ⟨_,rfl,⟨_,rfl⟩,fun Q1 q => q,fun _ Q2 q => ?_⟩
  walk_at "rd"
  exact ⟨_,rfl,q⟩
 rw [List.nil_append,List.filter_eq_self.mpr (fun _ _ => rfl)]
 refine ⟨_,allD_true _,_,rfl,?_⟩
 rw [if_neg (by simp)]
 refine ⟨_,_,⟨rfl,rfl⟩,_,_,_,rfl,_,rfl,?_⟩
 rw [zipD_map]
 refine ⟨sz3 _ (by simp; omega),?_⟩
 refine lcRun_map (fun p:Str × Nat => D.tup [D.str p.1,D.int (p.2:Int)]) (fun _ => true) (fun _ => D.bl true) (fun Δ => ∃ x y,Δ = [some (lexD ord goal ents),none,none,x,y]) (ws.zip ch) _ _ (fun p hp Δ hΔ => ?_) ⟨none,none,rfl⟩ ?_
 ·obtain ⟨x,y,rfl⟩:=hΔ
  refine ⟨_,rfl,⟨_,_,rfl⟩,fun Q1 q => q,fun _ Q2 q => ?_⟩
  have hp1:p.1 ∈ ws:=(List.of_mem_zip hp).1
  walk_at "rd"
  rw [if_pos (Int.natCast_nonneg _)]
  refine ⟨ord,goal,ents,p.1,rfl,hl,(hw _ hp1).1,(hw _ hp1).2,?_⟩
  simp only [kindsD]
  walk_at "rd"
  rw [List.length_map,decide_eq_true (Int.ofNat_lt.mpr (hf p hp))]
  exact q
 ·rw [List.nil_append,List.filter_eq_self.mpr (fun _ _ => rfl)]
  exact ⟨_,allD_true _,k⟩

end
section
variable {P:Program} {w:World} {K:PySem.W.Frag} {mg:Str → Option Value} {base:Heap}
noncomputable def S_p_mirror:SpD:=fun ds M Q => ∃ row:List (Str × Int),ds = [.tup (row.map signD)] ∧ row.length ≤ 24 ∧ Q (.tup ((row.reverse.map fun x => (x.1,-x.2)).map signD)) M
theorem ok_p_mirror {f:Addr} {fd:FuncData} (F:Fun K "mirror" "mirror" s_p_mirror f fd) (T:Txt mg) :FnOk P w K mg base CX0 1 f fd ["row"] (spD K 1 S_p_mirror):=by
 have nd:=sc_p_mirror.nd
 refine F.okQ rfl sc_p_mirror (fun cdv A outer s H E hr => ⟨_,(q_sone (q_ret (q_callTy c_tuple rfl T.b_tuple (by kernel_rfl) (q_cons (q_lc (ms:=[false]) (extra:=["mark","turn"]) (compSc_of (n0:=0) rfl (show compOkB (defScope s_p_mirror) n_p_mirror _ _ = true from by decide +kernel)) rfl (qi_rev rfl T.b_reversed (q_cons (q_var 0) q_nil)) (ga_tup (n:=2) rfl (gs_cons (ga_name (i:=1) (show (n_p_mirror ++ _).Nodup from by decide +kernel) rfl rfl) (gs_cons (ga_name (i:=2) (show (n_p_mirror ++ _).Nodup from by decide +kernel) rfl rfl) gs_nil))) (fun _ _ _ _ => qi_nil) (fun _ _ _ _ => (q_tup (q_cons (q_var 1) (q_cons (q_un negU (q_var 2)) q_nil))))) q_nil)))),fun ds M R hl hS => ?_⟩)
 obtain ⟨row,rfl,hl,k⟩:=hS
 walk_at "rd"
 intro hz
 refine ⟨by rw [List.length_reverse]; exact hz,?_⟩
 rw [← List.map_reverse]
 refine lcRun_map signD (fun _ => true) (fun x => signD (x.1,-x.2)) (fun Δ => ∃ x y,Δ = [none,x,y]) _ _ _ (fun m hm Δ hΔ => ?_) ⟨none,none,rfl⟩ ?_
 ·obtain ⟨x,y,rfl⟩:=hΔ
  refine ⟨_,rfl,⟨_,_,rfl⟩,fun Q1 q => q,fun _ Q2 q => ?_⟩
  walk_at "rd"
  exact ⟨sz3 2,q⟩
 ·rw [List.nil_append,List.filter_eq_self.mpr (fun _ _ => rfl)]
  rw [List.map_map] at k
  exact k

end
section
variable {P:Program} {w:World} {K:PySem.W.Frag} {mg:Str → Option Value} {base:Heap}
noncomputable def S_p_is_words_drawing:SpD:=fun ds M R => ∃ (ord:List (Str × Str)) (goal:Str) (ents:List (Str × List Row)) (ws:List Str) (ch:List Nat) (arcs:List (Nat × Nat)),ds = [lexD ord goal ents,.tup (ws.map .str),.tup [.tup (intsD ch),.tup (arcs.map stD)]] ∧ DrOf ord goal ents ws ch arcs ∧ R (.bl true) M
theorem ok_p_is_words_drawing {f:Addr} {fd:FuncData} (F:Fun K "is_words_drawing" "is_words_drawing" s_p_is_words_drawing f fd) (T:Txt mg) (g_p_is_tuple_of:FnD P w K mg base "is_tuple_of" 1 2 S_p_is_tuple_of) (g_p_is_choice:FnD P w K mg base "is_choice" 4 3 S_p_is_choice) (g_p_is_drawing:FnD P w K mg base "is_drawing" 5 3 S_p_is_drawing) (g_p_signs_of:FnD P w K mg base "signs_of" 4 3 S_p_signs_of):FnOk P w K mg base CX0 6 f fd ["lexicon","words","thing"] (spD K 3 S_p_is_words_drawing):=by
 have nd:=sc_p_is_words_drawing.nd
 refine F.okQ rfl sc_p_is_words_drawing (fun cdv A outer s H E hr => ⟨_,(q_sone (q_ret (q_and (qc g_p_is_tuple_of (hr.mono (by decide)) rfl (q_cons (q_var 2) (q_cons q_int q_nil))) (q_and (qc g_p_is_choice (hr.mono (by decide)) rfl (q_cons (q_var 0) (q_cons (q_var 1) (q_cons (q_ix o_ix (q_var 2) q_int (fun _ _ => rfl)) q_nil)))) (q_one (qc g_p_is_drawing (hr.mono (by decide)) rfl (q_cons (q_ix o_ix (q_var 0) q_int (fun _ _ => rfl)) (q_cons (qc g_p_signs_of (hr.mono (by decide)) rfl (q_cons (q_var 0) (q_cons (q_var 1) (q_cons (q_ix o_ix (q_var 2) q_int (fun _ _ => rfl)) q_nil)))) (q_cons (q_ix o_ix (q_var 2) q_int (fun _ _ => rfl)) q_nil))))))))),fun ds M R hl hS => ?_⟩)
 obtain ⟨ord,goal,ents,ws,ch,arcs,rfl,h,k⟩:=hS
 have hw:∀ w ∈ ws,w ∈ ents.map (·.1) ∧ WordOk w:=fun w hw => h.mem w hw
 walk_at "rd"
 refine ⟨_,_,rfl,_,rfl,?_⟩
 rw [if_pos (by rfl)]
 refine ⟨ord,goal,ents,ws,ch,rfl,h.le,h.lw,hw,h.len,h.fit,_,rfl,?_⟩
 rw [if_pos rfl]
 simp only [lexD]
 walk_at "rd"
 refine ⟨ord,goal,ents,ws,ch,rfl,h.le,h.lw,hw,h.fit,Nat.le_trans h.small (by decide),?_⟩
 refine ⟨ord,_,arcs,rfl,h.lo,by have:=h.small; simp; omega,by rw [List.length_append]; exact h.geo,?_⟩
 have e:(arcs.all fun a => cB ord (sg (rowOf ents ws ch ++ [(goal,1)]) (0 + a.1)) (sg (rowOf ents ws ch ++ [(goal,1)]) (0 + a.2))) = true:=by
  rw [List.all_eq_true]
  intro a ha
  rw [Nat.zero_add,Nat.zero_add]
  exact h.can a ha
 rw [e]; exact k
noncomputable def S_p_refuse_no_drawing:SpD:=fun ds M R => ∃ (ord:List (Str × Str)) (goal:Str) (ents:List (Str × List Row)) (ws:List Str) (ch:List Nat) (arcs:List (Nat × Nat)),ds = [lexD ord goal ents,.tup (ws.map .str),.tup [.tup (intsD ch),.tup (arcs.map stD)]] ∧ DrOf ord goal ents ws ch arcs ∧ R .non M
theorem ok_p_refuse_no_drawing {f:Addr} {fd:FuncData} (F:Fun K "refuse_no_drawing" "refuse_no_drawing" s_p_refuse_no_drawing f fd) (T:Txt mg) (g_p_is_words_drawing:FnD P w K mg base "is_words_drawing" 6 3 S_p_is_words_drawing):FnOk P w K mg base CX0 7 f fd ["lexicon","words","thing"] (spD K 3 S_p_refuse_no_drawing):=by
 have nd:=sc_p_refuse_no_drawing.nd
 refine F.okQ rfl sc_p_refuse_no_drawing (fun cdv A outer s H E hr => ⟨_,(q_sone (q_ifS (q_tnot (q_tval (qc g_p_is_words_drawing (hr.mono (by decide)) rfl (q_cons (q_var 0) (q_cons (q_var 1) (q_cons (q_var 2) q_nil)))))) (q_sone q_never) q_snil)),fun ds M R hl hS => ?_⟩)
 obtain ⟨ord,goal,ents,ws,ch,arcs,rfl,h,k⟩:=hS
 walk_at "rd"
 refine ⟨ord,goal,ents,ws,ch,arcs,rfl,h,_,rfl,?_⟩
 rw [if_neg (by simp)]
 exact k
noncomputable def S_p_mirrored_arc:SpD:=fun ds M R => ∃ (a:Nat × Nat) (last:Nat),ds = [stD a,.int last] ∧ a.1 < a.2 ∧ a.2 ≤ last ∧ R (stD (mArc last a)) M
theorem ok_p_mirrored_arc {f:Addr} {fd:FuncData} (F:Fun K "mirrored_arc" "mirrored_arc" s_p_mirrored_arc f fd) (T:Txt mg) :FnOk P w K mg base CX0 1 f fd ["arc","last"] (spD K 2 S_p_mirrored_arc):=by
 have nd:=sc_p_mirrored_arc.nd
 refine F.okQ rfl sc_p_mirrored_arc (fun cdv A outer s H E hr => ⟨_,(q_scons (q_asg (q_var 0) (g_tup rfl (g_cons (g_name (i:=2) nd rfl (Or.inl rfl)) (g_cons (g_name (i:=3) nd rfl (Or.inl rfl)) g_nil))))
   (q_scons (q_ifS (q_tcmp (o_eq hr.units) (q_var 3) (q_var 1) (by first | exact nobehind _ (by decide) (by decide) | rfl)) (q_sone (q_ret (q_tup (q_cons (q_op o_sub (q_op o_sub (q_var 1) q_int) (q_var 2)) (q_cons (q_var 1) q_nil))))) q_snil)
   (q_sone (q_ret (q_tup (q_cons (q_op o_sub (q_op o_sub (q_var 1) q_int) (q_var 3)) (q_cons (q_op o_sub (q_op o_sub (q_var 1) q_int) (q_var 2)) q_nil))))))),fun ds M R hl hS => ?_⟩)
 obtain ⟨a,last,rfl,h1,h2,k⟩:=hS
 simp only [stD]
 walk_at "rd"
 simp only [gdTup,gdCons,gdName,gdNil,Option.bind_some]
 refine ⟨_,if_pos rfl,?_⟩
 walk_at "rd"
 refine ite2 (fun h => ?_) (fun h => ?_)
 ·have e:a.2 = last:=by have:=beq_iff_eq.mp h; omega
  have:stD (mArc last a) = .tup [.int ((last:Int) - 1 - (a.1:Int)),.int (last:Int)]:=by
   rw [mArc,if_pos e,stD,show ((last - 1 - a.1:Nat):Int) = (last:Int) - 1 - (a.1:Int) by omega]
  rw [this] at k; exact ⟨sz3 2,k⟩
 ·have e:¬ a.2 = last:=fun q => h (by rw [q]; exact beq_self_eq_true _)
  have:stD (mArc last a) = .tup [.int ((last:Int) - 1 - (a.2:Int)),.int ((last:Int) - 1 - (a.1:Int))]:=by
   rw [mArc,if_neg e,stD,show ((last - 1 - a.1:Nat):Int) = (last:Int) - 1 - (a.1:Int) by omega,show ((last - 1 - a.2:Nat):Int) = (last:Int) - 1 - (a.2:Int) by omega]
  rw [this] at k; exact ⟨sz3 2,k⟩
noncomputable def S_p_mirrored:SpD:=fun ds M R => ∃ (ord:List (Str × Str)) (goal:Str) (ents:List (Str × List Row)),ds = [lexD ord goal ents] ∧ (∀ e ∈ ents,∀ r ∈ e.2,r.length ≤ 24) ∧ R (lexD ord goal (ents.map mirE)) M
theorem ok_p_mirrored {f:Addr} {fd:FuncData} (F:Fun K "mirrored" "mirrored" s_p_mirrored f fd) (T:Txt mg) (g_p_mirror:FnD P w K mg base "mirror" 1 1 S_p_mirror):FnOk P w K mg base CX0 2 f fd ["lexicon"] (spD K 1 S_p_mirrored):=by
 have nd:=sc_p_mirrored.nd
 refine F.okQ rfl sc_p_mirrored (fun cdv A outer s H E hr => ⟨_,(q_scons (q_asg (q_var 0) (g_tup rfl (g_cons (g_name (i:=1) nd rfl (Or.inl rfl)) (g_cons (g_name (i:=2) nd rfl (Or.inl rfl)) (g_cons (g_name (i:=3) nd rfl (Or.inl rfl)) g_nil)))))
   (q_sone (q_ret (q_tup (q_cons (q_var 1) (q_cons (q_var 2) (q_cons (q_callTy c_tuple rfl T.b_tuple (by kernel_rfl) (q_cons (q_lcC (ms:=[false,false,false,false]) (extra:=["word","kinds"]) (compScC_fn (n0:=0) rfl (show compOkC' (defScope s_p_mirrored) n_p_mirrored _ _ = true from by decide +kernel)) rfl (qi_any (q_var 3)) (gaC_tup (n:=2) rfl (gsC_cons (gaC_loc (i:=4) (show (n_p_mirrored ++ _).Nodup from by decide +kernel) rfl rfl) (gsC_cons (gaC_loc (i:=5) (show (n_p_mirrored ++ _).Nodup from by decide +kernel) rfl rfl) gsC_nil))) (fun S _ _ _ _ => qi_nil) (fun S _ _ _ _ => (q_tup (q_cons (q_var 4) (q_cons (q_callTy c_tuple rfl T.b_tuple (by kernel_rfl) (q_cons (q_lc (ms:=[false,false,false,false,false,false]) (extra:=["kind"]) (compSc_in S (show compOkB (relabelS _ (defScope s_p_mirrored)) (n_p_mirrored ++ (["word","kinds"]:List Str)) _ _ = true from by decide +kernel)) rfl (qi_any (q_var 5)) (ga_name (i:=6) (show ((n_p_mirrored ++ (["word","kinds"]:List Str)) ++ _).Nodup from by decide +kernel) rfl rfl) (fun _ _ _ _ => qi_nil) (fun _ _ _ _ => (qc g_p_mirror (hr.mono (by decide)) rfl (q_cons (q_var 6) q_nil)))) q_nil)) q_nil))))) q_nil)) q_nil))))))),fun ds M R hl hS => ?_⟩)
 obtain ⟨ord,goal,ents,rfl,h,k⟩:=hS
 simp only [lexD]
 walk_at "rd"
 simp only [gdTup,gdCons,gdName,gdNil,Option.bind_some]
 refine ⟨_,if_pos rfl,?_⟩
 walk_at "rd"
 refine fun hz => ⟨hz,?_⟩
 refine lcRun_map entD (fun _ => true) (fun e => entD (mirE e)) (fun Δ => ∃ x y,Δ = [none,none,none,none,x,y]) ents _ _ (fun e he Δ hΔ => ?_) ⟨none,none,rfl⟩ ?_
 ·obtain ⟨x,y,rfl⟩:=hΔ
  refine ⟨_,rfl,⟨_,_,rfl⟩,fun Q1 q => q,fun _ Q2 q => ?_⟩
  simp only [kindsD]
  walk_at "rd"
  refine fun hz2 => ⟨hz2,?_⟩
  refine lcRun_map kindD (fun _ => true) (fun r => kindD (mir r)) (fun Δ => ∃ x,Δ = [none,none,none,none,none,none,x]) e.2 _ _ (fun r hr' Δ hΔ => ?_) ⟨none,rfl⟩ ?_
  ·obtain ⟨x,rfl⟩:=hΔ
   refine ⟨_,rfl,⟨_,rfl⟩,fun Q1 q => q,fun _ Q3 q => ?_⟩
   walk_at "rd"
   exact ⟨r,rfl,h e he r hr',q⟩
  ·rw [List.nil_append,List.filter_eq_self.mpr (fun _ _ => rfl)]
   refine ⟨sz3 2,?_⟩
   rw [show entD (mirE e) = D.tup [D.str e.1,D.tup (e.2.map fun r => kindD (mir r))] by simp only [entD,mirE,kindsD,List.map_map]; rfl] at q
   exact q
 ·rw [List.nil_append,List.filter_eq_self.mpr (fun _ _ => rfl)]
  refine ⟨sz3 3,?_⟩
  rw [lexD,List.map_map] at k
  exact k
noncomputable def S_p_mirrored_drawing:SpD:=fun ds M R => ∃ (ord:List (Str × Str)) (goal:Str) (ents:List (Str × List Row)) (ws:List Str) (ch:List Nat) (arcs:List (Nat × Nat)),ds = [lexD ord goal ents,.tup (ws.map .str),.tup [.tup (intsD ch),.tup (arcs.map stD)]] ∧ DrOf ord goal ents ws ch arcs ∧
 R (.tup [.tup (intsD ch.reverse),.tup ((srt (arcs.map (mArc (rowOf ents ws ch).length))).map stD)]) M
theorem ok_p_mirrored_drawing {f:Addr} {fd:FuncData} (F:Fun K "mirrored_drawing" "mirrored_drawing" s_p_mirrored_drawing f fd) (T:Txt mg) (g_p_refuse_other_words:FnD P w K mg base "refuse_other_words" 4 2 S_p_refuse_other_words) (g_p_refuse_no_drawing:FnD P w K mg base "refuse_no_drawing" 7 3 S_p_refuse_no_drawing) (g_p_signs_of:FnD P w K mg base "signs_of" 4 3 S_p_signs_of) (g_p_mirrored_arc:FnD P w K mg base "mirrored_arc" 1 2 S_p_mirrored_arc):FnOk P w K mg base CX0 8 f fd ["lexicon","words","drawing"] (spD K 3 S_p_mirrored_drawing):=by
 have nd:=sc_p_mirrored_drawing.nd
 refine F.okQ rfl sc_p_mirrored_drawing (fun cdv A outer s H E hr => ⟨_,(q_scons (q_expr (qc g_p_refuse_other_words (hr.mono (by decide)) rfl (q_cons (q_var 0) (q_cons (q_var 1) q_nil))))
   (q_scons (q_expr (qc g_p_refuse_no_drawing (hr.mono (by decide)) rfl (q_cons (q_var 0) (q_cons (q_var 1) (q_cons (q_var 2) q_nil)))))
   (q_scons (q_asg (q_var 2) (g_tup rfl (g_cons (g_name (i:=3) nd rfl (Or.inl rfl)) (g_cons (g_name (i:=4) nd rfl (Or.inl rfl)) g_nil))))
   (q_scons (q_set (i:=5) nd rfl (Or.inr rfl) (q_op o_sub (q_callB c_len rfl T.b_len (by kernel_rfl) (q_cons (qc g_p_signs_of (hr.mono (by decide)) rfl (q_cons (q_var 0) (q_cons (q_var 1) (q_cons (q_var 3) q_nil)))) q_nil)) q_int))
   (q_sone (q_ret (q_tup (q_cons (q_sliceR (q_var 3) (q_un negU q_int)) (q_cons (q_callTy c_tuple rfl T.b_tuple (by kernel_rfl) (q_cons (q_callB c_sortE rfl T.b_sorted (by kernel_rfl) (q_cons (q_lc (ms:=[false,false,false,false,false,true]) (extra:=["arc"]) (compSc_of rfl (show compOkB (defScope s_p_mirrored_drawing) n_p_mirrored_drawing _ _ = true from by decide +kernel)) rfl (qi_any (q_var 4)) (ga_name (i:=6) (show (n_p_mirrored_drawing ++ _).Nodup from by decide +kernel) rfl rfl) (fun _ _ _ _ => qi_nil) (fun _ _ _ _ => (qc g_p_mirrored_arc (hr.mono (by decide)) rfl (q_cons (q_var 6) (q_cons (q_var 5) q_nil))))) q_nil)) q_nil)) q_nil))))))))),fun ds M R hl hS => ?_⟩)
 obtain ⟨ord,goal,ents,ws,ch,arcs,rfl,h,k⟩:=hS
 have hw:∀ w ∈ ws,w ∈ ents.map (·.1) ∧ WordOk w:=fun w hw => h.mem w hw
 walk_at "rd"
 refine ⟨ord,goal,ents,ws,rfl,h.le,hw,ord,goal,ents,ws,ch,arcs,rfl,h,?_⟩
 simp only [gdTup,gdCons,gdName,gdNil,Option.bind_some]
 refine ⟨_,if_pos rfl,?_⟩
 walk_at "rd"
 refine ⟨ord,goal,ents,ws,ch,rfl,h.le,h.lw,hw,h.fit,Nat.le_trans h.small (by decide),?_⟩
 walk_at "rd"
 have hl2:((List.map signD (rowOf ents ws ch ++ [(goal,1)])).length:Int) - 1 = ((rowOf ents ws ch).length:Int):=by simp
 rw [hl2]
 refine fun hz => ⟨hz,?_⟩
 refine lcRun_map stD (fun _ => true) (fun a => stD (mArc (rowOf ents ws ch).length a)) (fun Δ => ∃ x,Δ = [none,none,none,none,none,some (D.int ((rowOf ents ws ch).length:Int)),x]) arcs _ _ (fun a ha Δ hΔ => ?_) ⟨none,rfl⟩ ?_
 ·obtain ⟨x,rfl⟩:=hΔ
  refine ⟨_,rfl,⟨_,rfl⟩,fun Q1 q => q,fun _ Q2 q => ?_⟩
  walk_at "rd"
  have:=h.geo.arc a ha
  exact ⟨a,_,rfl,this.1,by omega,q⟩
 ·rw [List.nil_append,List.filter_eq_self.mpr (fun _ _ => rfl)]
  have hal:arcs.length < 64:=by have:=h.geo.len; have:=h.small; omega
  have e1:(arcs.map fun a => stD (mArc (rowOf ents ws ch).length a)) = ((arcs.map (mArc (rowOf ents ws ch).length)).map stI).map pD:=by rw [← stI_map,List.map_map]; rfl
  rw [e1]
  refine ⟨_,sortE_l (by simpa using hal),?_⟩
  rw [← srt_map,← stI_map]
  walk_at "rd"
  refine ⟨sz3 2,?_⟩
  have e2:(intsD ch).reverse = intsD ch.reverse:=by simp [intsD]
  rw [e2]; exact k

end
section
variable {P:Program} {w:World} {K:PySem.W.Frag} {mg:Str → Option Value} {base:Heap}
noncomputable abbrev tInM:TSd:=dIfS (dAndT (dTst (dOp eqF (dVar 5) (dOp ixD (dVar 3) (dVar 4)))) (dTst (dOp (inE true) (dVar 6) (dVar 3)))) (dDrop (dApp (dVar 3) (dVar 6))) dNext
theorem most_for {q:Addr} {E:EndsD} {M:DH} (hq:M q = none) (ps oth:D) (a:Str) (ord:List (Str × Str)) (hord:ord.length ≤ 500) (i:Nat) (L0:List Str) (hi:i < L0.length):∀ (todo done:List (Str × Str)) (x4 x5:Option D) (L:List Str),ord = done ++ todo → (∃ t,L = L0 ++ t) → L.Nodup → (∀ x ∈ L,Reach ord a x) → (∀ x ∈ L,x ∈ a :: ord.map (·.2)) → (∀ y ∈ done,y.1 = L0[i] → y.2 ∈ L) →
  (∀ (y4 y5:Option D) (L':List Str),(∃ t,L' = L0 ++ t) → L'.Nodup → (∀ x ∈ L',Reach ord a x) → (∀ x ∈ L',x ∈ a :: ord.map (·.2)) → (∀ y ∈ ord,y.1 = L0[i] → y.2 ∈ L') → E.nx [some ps,some (.str a),some oth,some (.ref q),some (.int i),y4,y5] (updM M q (.lst (L'.map .str)))) →
  forRun (gdTup (gdCons (gdName 5) (gdCons (gdName 6) gdNil)) 2) tInM E (todo.map pairD) [some ps,some (.str a),some oth,some (.ref q),some (.int i),x4,x5] (updM M q (.lst (L.map .str)))
 | [],done,x4,x5,L,ho,ht,hn,hs,hb,hd,k => by
  simp only [List.map_nil,forRun]
  exact k x4 x5 L ht hn hs hb (by rw [ho,List.append_nil]; exact hd)
 | (b,c) :: todo,done,x4,x5,L,ho,⟨t,ht⟩,hn,hs,hb,hd,k => by
  have hiL:i < L.length:=by rw [ht]; simp; omega
  have eL:L[i] = L0[i]:=by subst ht; simp [hi]
  have eat:atI (L.map D.str) (i:Int) = some (.str L[i]):=atI_nat (by simp [hiL])
  have hlen:L.length ≤ ord.length + 1:=by
   have:=nodup_len L (a :: ord.map (·.2)) hn hb
   simpa using this
  simp only [List.map_cons,pairD,forRun,gdTup,gdCons,gdName,gdNil,Option.bind_some]
  refine ⟨_,rfl,?_⟩
  walk_at "rd"
  refine ⟨_,eat,?_⟩
  walk_at "rd"
  have ho':ord = (done ++ [(b,c)]) ++ todo:=by rw [ho]; simp
  have hmem:(b,c) ∈ ord:=by rw [ho]; simp
  refine ite2 (fun h => ?_) (fun h => ?_)
  ·have hbe:b = L0[i]:=by rw [← eL]; simpa using h
   refine ⟨_,if_pos ⟨rfl,all_scal⟩,_,rfl,?_⟩
   rw [any_strs]
   by_cases hc:c ∈ L
   ·simp only [hc,decide_true,Bool.xor_true,Bool.not_true,Bool.false_eq_true,if_false]
    exact most_for hq ps oth a ord hord i L0 hi todo (done ++ [(b,c)]) _ _ L ho' ⟨t,ht⟩ hn hs hb (fun y hy hy1 => by
     rcases List.mem_append.mp hy with h | h
     ·exact hd y h hy1
     ·have:y = (b,c):=by simpa using h
      subst this; exact hc) k
   ·simp only [hc,decide_false,Bool.xor_false,if_true]
    refine ⟨by rw [List.length_map]; exact Nat.lt_of_lt_of_le (by omega:L.length < 1000) (sz3 1000),?_⟩
    have ea:L.map D.str ++ [D.str c] = (L ++ [c]).map D.str:=by simp
    rw [ea]
    refine most_for hq ps oth a ord hord i L0 hi todo (done ++ [(b,c)]) _ _ (L ++ [c]) ho' ⟨t ++ [c],by rw [ht]; simp⟩ ?_ (fun x hx => ?_) (fun x hx => ?_) (fun y hy hy1 => ?_) k
    ·rw [List.nodup_append]
     refine ⟨hn,by simp,fun u hu v hv => ?_⟩
     have:v = c:=by simpa using hv
     subst this
     rintro rfl
     exact hc hu
    ·rcases List.mem_append.mp hx with h | h
     ·exact hs x h
     ·have:x = c:=by simpa using h
      subst this
      exact Reach.step (hs b (by rw [hbe,← eL]; exact List.getElem_mem hiL)) hmem
    ·rcases List.mem_append.mp hx with h | h
     ·exact hb x h
     ·have:x = c:=by simpa using h
      subst this
      exact List.mem_cons_of_mem _ (List.mem_map.mpr ⟨_,hmem,rfl⟩)
    ·rcases List.mem_append.mp hy with h | h
     ·exact List.mem_append_left _ (hd y h hy1)
     ·have:y = (b,c):=by simpa using h
      subst this; simp
  ·exact most_for hq ps oth a ord hord i L0 hi todo (done ++ [(b,c)]) _ _ L ho' ⟨t,ht⟩ hn hs hb (fun y hy hy1 => by
    rcases List.mem_append.mp hy with h' | h'
    ·exact hd y h' hy1
    ·have:y = (b,c):=by simpa using h'
     subst this
     exact absurd (by rw [eL]; simpa using hy1) h) k
noncomputable def S_l_most:SpD:=fun ds M R => ∃ (ord:List (Str × Str)) (a b:Str),ds = [.tup (ord.map pairD),.str a,.str b] ∧ ord.length ≤ 500 ∧ R (.bl (rB ord a b)) M
theorem ok_l_most {f:Addr} {fd:FuncData} (F:Fun K "_law_most" "_law_most" s_l_most f fd) (T:Txt mg) :FnOk P w K mg base CX0 1 f fd ["_law_order","_law_one","_law_other"] (spD K 3 S_l_most):=by
 have nd:=sc_l_most.nd
 refine F.okQ rfl sc_l_most (fun cdv A outer s H E hr => ⟨_,(q_scons (q_set (i:=3) nd rfl (Or.inl rfl) (q_lstO (q_cons (q_var 1) q_nil)))
   (q_scons (q_set (i:=4) nd rfl (Or.inl rfl) q_int)
   (q_scons (q_while PassesOwn.never (q_tcmp o_lt (q_var 4) (q_callB c_len rfl T.b_len (by kernel_rfl) (q_cons (q_var 3) q_nil)) (by first | exact nobehind _ (by decide) (by decide) | rfl)) (q_scons (q_for PassesOwn.never rfl (qi_any (q_var 0)) (g_tup rfl (g_cons (g_name (i:=5) nd rfl (Or.inl rfl)) (g_cons (g_name (i:=6) nd rfl (Or.inl rfl)) g_nil))) (q_sone (q_ifS (q_pw (q_tand (q_tcmp (o_eq hr.units) (q_var 5) (q_ix o_ix (q_var 3) (q_var 4) (fun _ _ => rfl)) (by first | exact nobehind _ (by decide) (by decide) | rfl)) (q_tand1 (q_tcmp o_notinE (q_var 6) (q_var 3) (by first | exact nobehind _ (by decide) (by decide) | rfl))))) (q_sone (q_expr (q_app (q_var 3) (q_var 6)))) q_snil)))
   (q_sone (q_set (i:=4) nd rfl (Or.inl rfl) (q_op o_add (q_var 4) q_int)))))
   (q_sone (q_retG (q_cmp o_inE (q_var 2) (q_var 3) (by first | exact nobehind _ (by decide) (by decide) | rfl))))))),fun ds M R hl hS => ?_⟩)
 obtain ⟨ord,a,b,rfl,ho,k⟩:=hS
 walk_at "rd"
 refine ⟨sz3 1,fun q hq => ?_⟩
 refine ⟨fun m Δ M' => ∃ (i:Nat) (L:List Str) (x4 x5:Option D),Δ = [some (D.tup (ord.map pairD)),some (D.str a),some (D.str b),some (D.ref q),some (D.int i),x4,x5] ∧ M' = updM M q (.lst (L.map .str)) ∧ i ≤ L.length ∧ L.Nodup ∧ a ∈ L ∧ (∀ x ∈ L,Reach ord a x) ∧ (∀ x ∈ L,x ∈ a :: ord.map (·.2)) ∧ (∀ y ∈ ord,∀ j,j < i → L[j]? = some y.1 → y.2 ∈ L) ∧ m = ord.length + 1 - i,
  ⟨_,0,[a],none,none,rfl,rfl,Nat.zero_le _,by simp,by simp,fun x hx => by
   have:x = a:=by simpa using hx
   subst this; exact Reach.refl,fun x hx => by
   have:x = a:=by simpa using hx
   subst this; simp,fun y _ j hj => absurd hj (by omega),rfl⟩,?_⟩
 rintro m Δ M' ⟨i,L,x4,x5,rfl,rfl,hiL,hn,ha,hs,hb,hp,rfl⟩
 have hlen:L.length ≤ ord.length + 1:=by
  have:=nodup_len L (a :: ord.map (·.2)) hn hb
  simpa using this
 walk_at "rd"
 rw [List.length_map]
 refine ite2 (fun h => ?_) (fun h => ?_)
 ·have hi:i < L.length:=by omega
  intro hz
  refine most_for hq _ _ a ord ho i L hi ord [] x4 x5 L rfl ⟨[],by simp⟩ hn hs hb (fun y hy => absurd hy (by simp)) (fun y4 y5 L' hL' hn' hs' hb' hd' => ?_)
  obtain ⟨t,rfl⟩:=hL'
  walk_at "rd"
  refine ⟨ord.length + 1 - (i + 1),by omega,i + 1,L ++ t,y4,y5,?_,rfl,by simp; omega,hn',List.mem_append_left _ ha,hs',hb',fun y hy j hj hjy => ?_,rfl⟩
  ·simp
  ·by_cases hji:j = i
   ·subst hji
    refine hd' y hy ?_
    rw [List.getElem?_append_left hi,List.getElem?_eq_getElem hi] at hjy
    exact (Option.some.inj hjy).symm
   ·rw [List.getElem?_append_left (by omega)] at hjy
    exact List.mem_append_left _ (hp y hy j (by omega) hjy)
 ·have hin:(b ∈ L) ↔ Reach ord a b:=⟨hs b,fun h => reach_in ha (fun y hy hy1 => by
   obtain ⟨j,hj,e⟩:=List.mem_iff_getElem.mp hy1
   exact hp y hy j (by omega) (by rw [List.getElem?_eq_getElem hj,e])) h⟩
  refine ⟨_,if_pos ⟨rfl,all_scal⟩,M,leM_upd hq,?_⟩
  rw [any_strs,Bool.false_xor]
  have e:decide (b ∈ L) = rB ord a b:=by rw [Bool.eq_iff_iff,decide_eq_true_eq,rB_iff]; exact hin
  rw [e]; exact k

end
section
variable {P:Program} {w:World} {K:PySem.W.Frag} {mg:Str → Option Value} {base:Heap}
theorem neL_gen {α:Type} [DecidableEq α] (f:α → D) (hf:∀ x y,eqD (f x) (f y) = decide (x = y)) (hl:∀ x,dLe (f x) 59 = true) {a b:List α}:neF (.lst (a.map f)) (.lst (b.map f)) = some (.bl (!decide (a = b))):=by
 have h1:dLe (.lst (a.map f)) 60 = true:=dLes_gen f hl
 have h2:dLe (.lst (b.map f)) 60 = true:=dLes_gen f hl
 simp only [neF,h1,h2,and_self,if_true,eqD,eqD_gen f hf]
theorem neInts {a b:List Int}:neF (.lst (a.map D.int)) (.lst (b.map D.int)) = some (.bl (!decide (a = b))):=neL_gen D.int (fun x y => by rw [Bool.eq_iff_iff]; simp [eqD]) (fun _ => rfl)
theorem nePairs {a b:List (Int × Int)}:neF (.lst (a.map pD)) (.lst (b.map pD)) = some (.bl (!decide (a = b))):=neL_gen pD (fun x y => by rw [Bool.eq_iff_iff]; obtain ⟨a,b⟩:=x; obtain ⟨c,d⟩:=y; simp [pD,eqD,eqDs]) (fun _ => rfl)
noncomputable def S_l_cancel:SpD:=fun ds M R => ∃ (ord:List (Str × Str)) (x y:Str × Int),ds = [.tup (ord.map pairD),signD x,signD y] ∧ ord.length ≤ 500 ∧ R (.bl (cB ord x y)) M
theorem ok_l_cancel {f:Addr} {fd:FuncData} (F:Fun K "_law_cancel" "_law_cancel" s_l_cancel f fd) (T:Txt mg) (g_l_most:FnD P w K mg base "_law_most" 1 3 S_l_most):FnOk P w K mg base CX0 2 f fd ["_law_order","_law_one","_law_other"] (spD K 3 S_l_cancel):=by
 have nd:=sc_l_cancel.nd
 refine F.okQ rfl sc_l_cancel (fun cdv A outer s H E hr => ⟨_,(q_scons (q_ifS (q_tcmp (o_ne hr.units) (q_ix o_ix (q_var 2) q_int (fun _ _ => rfl)) (q_op o_add (q_ix o_ix (q_var 1) q_int (fun _ _ => rfl)) q_int) (by first | exact nobehind _ (by decide) (by decide) | rfl)) (q_sone (q_ret q_bl)) q_snil)
   (q_scons (q_ifS (q_tcmp (o_eq hr.units) (q_op o_mod (q_ix o_ix (q_var 1) q_int (fun _ _ => rfl)) q_int) q_int (by first | exact nobehind _ (by decide) (by decide) | rfl)) (q_sone (q_ret (qc g_l_most (hr.mono (by decide)) rfl (q_cons (q_var 0) (q_cons (q_ix o_ix (q_var 1) q_int (fun _ _ => rfl)) (q_cons (q_ix o_ix (q_var 2) q_int (fun _ _ => rfl)) q_nil)))))) q_snil)
   (q_sone (q_ret (qc g_l_most (hr.mono (by decide)) rfl (q_cons (q_var 0) (q_cons (q_ix o_ix (q_var 2) q_int (fun _ _ => rfl)) (q_cons (q_ix o_ix (q_var 1) q_int (fun _ _ => rfl)) q_nil)))))))),fun ds M R hl hS => ?_⟩)
 obtain ⟨ord,x,y,rfl,ho,k⟩:=hS
 simp only [signD]
 walk_at "rd"
 by_cases h:y.2 = x.2 + 1
 ·rw [if_neg (by simp [h])]
  have e0:cB ord x y = lB ord x.2 x.1 y.1:=by simp [cB,h]
  rw [e0] at k
  refine ite2 (fun h2 => ?_) (fun h2 => ?_)
  ·rw [lB_even (beq_iff_eq.mp h2)] at k
   exact ⟨ord,_,_,rfl,ho,k⟩
  ·rw [lB_odd (fun q => h2 (by rw [q]; rfl))] at k
   exact ⟨ord,_,_,rfl,ho,k⟩
 ·rw [if_pos (by simp [h])]
  have e0:cB ord x y = false:=by
   have:(x.2 + 1 == y.2) = false:=by simpa using fun q:x.2 + 1 = y.2 => h q.symm
   simp only [cB,this,Bool.false_and]
  rw [e0] at k; exact k
noncomputable def S_l_whole:SpD:=fun ds M R => ∃ i:Int,ds = [.int i] ∧ R (.bl true) M
theorem ok_l_whole {f:Addr} {fd:FuncData} (F:Fun K "_law_whole" "_law_whole" s_l_whole f fd) (T:Txt mg) :FnOk P w K mg base CX0 1 f fd ["_law_thing"] (spD K 1 S_l_whole):=by
 have nd:=sc_l_whole.nd
 refine F.okQ rfl sc_l_whole (fun cdv A outer s H E hr => ⟨_,(q_sone (q_ret (q_and (q_isi (Tn:="int") (by decide) rfl T.b_isinstance rfl T.b_int (by kernel_rfl) (q_var 0)) (q_one (q_not (q_isi (Tn:="bool") (by decide) rfl T.b_isinstance rfl T.b_bool (by kernel_rfl) (q_var 0))))))),fun ds M R hl hS => ?_⟩)
 obtain ⟨i,rfl,k⟩:=hS
 walk_at "rd"
 refine ⟨true,rfl,?_⟩
 simp only [if_true]
 exact ⟨false,rfl,k⟩
theorem ends_take {arcs:List (Nat × Nat)} {i:Nat} {a:Nat × Nat} (h:arcs[i]? = some a):ends (arcs.take (i + 1)) = ends (arcs.take i) ++ [(a.1:Int),(a.2:Int)]:=by
 rw [List.take_add_one,h]
 simp [ends]
noncomputable def S_l_arcs_right:SpD:=fun ds M R => ∃ (ord:List (Str × Str)) (row:List (Str × Int)) (arcs:List (Nat × Nat)),ds = [.tup (ord.map pairD),.lst (row.map signD),.tup (arcs.map stD)] ∧ ord.length ≤ 500 ∧ row.length ≤ 24 ∧ Geo row.length arcs ∧ (∀ a ∈ arcs,cB ord (sg row a.1) (sg row a.2) = true) ∧ R (.bl true) M
theorem ok_l_arcs_right {f:Addr} {fd:FuncData} (F:Fun K "_law_arcs_right" "_law_arcs_right" s_l_arcs_right f fd) (T:Txt mg) (g_l_whole:FnD P w K mg base "_law_whole" 1 1 S_l_whole) (g_l_cancel:FnD P w K mg base "_law_cancel" 2 3 S_l_cancel):FnOk P w K mg base CX0 3 f fd ["_law_order","_law_row","_law_arcs"] (spD K 3 S_l_arcs_right):=by
 have nd:=sc_l_arcs_right.nd
 refine F.okQ rfl sc_l_arcs_right (fun cdv A outer s H E hr => ⟨_,(q_scons (q_ifS (q_tnot (q_tval (q_isi (Tn:="tuple") (by decide) rfl T.b_isinstance rfl T.b_tuple (by kernel_rfl) (q_var 2)))) (q_sone (q_ret q_bl)) q_snil)
   (q_scons (q_set (i:=3) nd rfl (Or.inl rfl) (q_lstO q_nil))
   (q_hid (q_scons (q_for PassesOwn.never rfl (qi_any (q_var 2)) (g_name (i:=4) nd rfl (Or.inl rfl)) (q_scons (q_ifS (q_pw (q_tor (q_tnot (q_tval (q_isi (Tn:="tuple") (by decide) rfl T.b_isinstance rfl T.b_tuple (by kernel_rfl) (q_var 4)))) (q_tor (q_tcmp (o_ne hr.units) (q_callB c_len rfl T.b_len (by kernel_rfl) (q_cons (q_var 4) q_nil)) q_int (by first | exact nobehind _ (by decide) (by decide) | rfl)) (q_tor (q_tnot (q_tval (qc g_l_whole (hr.mono (by decide)) rfl (q_cons (q_ix o_ix (q_var 4) q_int (fun _ _ => rfl)) q_nil)))) (q_tor1 (q_tnot (q_tval (qc g_l_whole (hr.mono (by decide)) rfl (q_cons (q_ix o_ix (q_var 4) q_int (fun _ _ => rfl)) q_nil))))))))) (q_sone (q_retG q_bl)) q_snil)
   (q_hid (q_scons (q_ifS (q_pw (q_tor (q_tnot (q_tchain3 o_le o_lt o_lt q_int (q_ix o_ix (q_var 4) q_int (fun _ _ => rfl)) (q_ix o_ix (q_var 4) q_int (fun _ _ => rfl)) (q_callB c_len rfl T.b_len (by kernel_rfl) (q_cons (q_var 1) q_nil)))) (q_tor1 (q_tnot (q_tval (qc g_l_cancel (hr.mono (by decide)) rfl (q_cons (q_var 0) (q_cons (q_ix o_ix (q_var 1) (q_ix o_ix (q_var 4) q_int (fun _ _ => rfl)) (fun _ _ => rfl)) (q_cons (q_ix o_ix (q_var 1) (q_ix o_ix (q_var 4) q_int (fun _ _ => rfl)) (fun _ _ => rfl)) q_nil))))))))) (q_sone (q_retG q_bl)) q_snil)
   (q_hid (q_sone (q_expr (q_ext (q_var 3) (q_callTy c_list rfl T.b_list (by kernel_rfl) (q_cons (q_var 4) q_nil))))))))))
   (q_hid (q_scons (q_ifS (q_pw (q_tor (q_tcmp (o_ne hr.units) (q_callB c_sortE rfl T.b_sorted (by kernel_rfl) (q_cons (q_var 3) q_nil)) (q_listRange rfl rfl T.b_list rfl T.b_range (q_cons (q_callB c_len rfl T.b_len (by kernel_rfl) (q_cons (q_var 1) q_nil)) q_nil)) (by first | exact nobehind _ (by decide) (by decide) | rfl)) (q_tor1 (q_tcmp (o_ne hr.units) (q_callTy c_list rfl T.b_list (by kernel_rfl) (q_cons (q_var 2) q_nil)) (q_callB c_sortE rfl T.b_sorted (by kernel_rfl) (q_cons (q_var 2) q_nil)) (by first | exact nobehind _ (by decide) (by decide) | rfl))))) (q_sone (q_retG q_bl)) q_snil)
   (q_hid (q_scons (q_for PassesOwn.never rfl (qi_any (q_var 2)) (g_name (i:=5) nd rfl (Or.inr rfl)) (q_sone (q_ifS (q_tval (q_callB (c_any rfl) rfl T.b_any (by kernel_rfl) (q_cons (q_lc (ms:=[false,false,false,false,false,true]) (extra:=["_law_other"]) (compSc_of rfl (show compOkB (defScope s_l_arcs_right) n_l_arcs_right _ _ = true from by decide +kernel)) rfl (qi_any (q_var 2)) (ga_name (i:=6) (show (n_l_arcs_right ++ _).Nodup from by decide +kernel) rfl rfl) (fun _ _ _ _ => qi_nil) (fun _ _ _ _ => (q_chain3 o_lt o_lt o_lt (q_ix o_ix (q_var 5) q_int (fun _ _ => rfl)) (q_ix o_ix (q_var 6) q_int (fun _ _ => rfl)) (q_ix o_ix (q_var 5) q_int (fun _ _ => rfl)) (q_ix o_ix (q_var 6) q_int (fun _ _ => rfl))))) q_nil))) (q_sone (q_retG q_bl)) q_snil)))
   (q_hid (q_sone (q_retG q_bl))))))))))),fun ds M R hl hS => ?_⟩)
 obtain ⟨ord,row,arcs,rfl,ho,hl,hG,hc,k⟩:=hS
 have hgl:=hG.len
 walk_at "rd"
 refine ⟨true,rfl,?_⟩
 rw [if_neg (by simp)]
 refine ⟨sz3 0,fun p hp => dHid_of ?_⟩
 walk_at "rd"
 intro hz
 refine forRun_by (fun i Δ M' => ∃ x4 x5,Δ = [some (D.tup (ord.map pairD)),some (D.lst (row.map signD)),some (D.tup (arcs.map stD)),some (D.ref p),x4,x5] ∧ M' = updM M p (.lst ((ends (arcs.take i)).map D.int))) ⟨_,_,rfl,by simp [ends]⟩ ?_ ?_
 ·rintro i d Δ M' X hd ⟨x4,x5,rfl,rfl⟩ k'
  obtain ⟨a,ha,rfl⟩:=map_get hd
  have hm:=List.mem_of_getElem? ha
  have hga:=hG.arc a hm
  refine ⟨_,rfl,?_⟩
  simp only [stD]
  walk_at "rd"
  refine ⟨true,rfl,?_⟩
  rw [if_neg (by simp),if_neg (by decide)]
  refine ⟨_,rfl,_,rfl,?_⟩
  rw [if_neg (by simp)]
  refine ⟨_,rfl,_,rfl,?_⟩
  rw [if_neg (by simp)]
  refine dHid_of ?_
  walk_at "rd"
  rw [if_pos (Int.natCast_nonneg _),if_pos (Int.ofNat_lt.mpr hga.1),if_neg (by rw [List.length_map,decide_eq_true (Int.ofNat_lt.mpr hga.2)]; simp)]
  refine ⟨_,sg_at (by omega),_,sg_at (by omega),ord,_,_,rfl,ho,_,rfl,?_⟩
  rw [hc a hm,if_neg (by simp)]
  refine dHid_of ?_
  walk_at "rd"
  refine ⟨_,rfl,_,_,rfl,rfl,?_,k' _ _ ⟨_,_,rfl,?_⟩⟩
  ·rw [List.length_map,ends_len,List.length_take]
   exact sz3 _ (by simp; omega)
  ·rw [ends_take ha,List.map_append]; rfl
 ·rintro Δ M' ⟨x4,x5,rfl,rfl⟩
  rw [List.length_map,List.take_of_length_le (Nat.le_refl _)]
  refine dHid_of ?_
  walk_at "rd"
  have er:rngD 0 ((row.length:Int)).toNat = ((List.range row.length).map fun (k:Nat) => (0:Int) + (k:Int)).map D.int:=by rw [Int.toNat_natCast,List.map_map]; rfl
  rw [List.length_map,er]
  refine ⟨_,sortE_i (by rw [ends_len]; omega),by omega,by omega,_,neInts,_,rfl,?_⟩
  rw [hG.ends,if_neg (by simp),stI_map]
  refine ⟨_,rfl,_,sortE_t (by rw [List.length_map]; omega),_,nePairs,_,rfl,?_⟩
  rw [hG.sort,if_neg (by simp)]
  refine dHid_of ?_
  walk_at "rd"
  intro hz2
  rw [← stI_map]
  refine forRun_by (fun i Δ M' => ∃ x4 x5,Δ = [some (D.tup (ord.map pairD)),some (D.lst (row.map signD)),some (D.tup (arcs.map stD)),some (D.ref p),x4,x5] ∧ M' = updM M p (.lst ((ends arcs).map D.int))) ⟨_,_,rfl,rfl⟩ ?_ ?_
  ·rintro i d Δ M' X hd ⟨x4,x5,rfl,rfl⟩ k'
   obtain ⟨a,ha,rfl⟩:=map_get hd
   have hm:=List.mem_of_getElem? ha
   refine ⟨_,rfl,?_⟩
   walk_at "rd"
   refine fun hz3 => ⟨hz3,?_⟩
   refine lcRun_map stD (fun _ => true) (fun b => D.bl (crossB a b)) (fun Δ => ∃ x,Δ = [none,none,none,none,none,some (stD a),x]) arcs _ _ (fun b hb Δ hΔ => ?_) ⟨none,rfl⟩ ?_
   ·obtain ⟨x,rfl⟩:=hΔ
    refine ⟨_,rfl,⟨_,rfl⟩,fun Q1 q => q,fun _ Q2 q => ?_⟩
    simp only [stD]
    walk_at "rd"
    refine ite2 (fun h1 => ite2 (fun h2 => ?_) (fun h2 => ?_)) (fun h1 => ?_)
    ·have:crossB a b = decide ((a.2:Int) < (b.2:Int)):=decide_eq_decide.mpr ⟨fun h => by omega,fun h => by omega⟩
     rw [this] at q; exact q
    ·have:crossB a b = false:=decide_eq_false fun h => h2 (by omega)
     rw [this] at q; exact q
    ·have:crossB a b = false:=decide_eq_false fun h => h1 (by omega)
     rw [this] at q; exact q
   ·rw [List.nil_append,List.filter_eq_self.mpr (fun _ _ => rfl)]
    have e0:arcs.any (fun b => crossB a b) = false:=by
     rw [Bool.eq_false_iff]
     intro hx
     have:=hG.cross
     rw [Bool.eq_false_iff] at this
     exact this (List.any_eq_true.mpr ⟨a,hm,hx⟩)
    have e1:anyD (.lst (arcs.map fun b => D.bl (crossB a b))) = some (.bl false):=by
     have g1:(arcs.map fun b => D.bl (crossB a b)).all isBl = true:=by rw [List.all_map,List.all_eq_true]; intro _ _; rfl
     have g2:(arcs.map fun b => D.bl (crossB a b)).any blOf = arcs.any fun b => crossB a b:=by rw [List.any_map]; rfl
     simp only [anyD,g1,g2,if_true,e0]
    refine ⟨_,e1,_,rfl,?_⟩
    rw [if_neg (by simp)]
    exact k' _ _ ⟨_,_,rfl,rfl⟩
  ·rintro Δ M' ⟨x4,x5,rfl,rfl⟩
   refine dHid_of ?_
   walk_at "rd"
   exact ⟨M,leM_upd hp,k⟩
theorem kin_first {ents:List (Str × List Row)} {w:Str} (h:w ∈ ents.map (·.1)):∃ r,(ents.filter fun e => e.1 == w).map (fun e => kindsD e.2) = kindsD (kin ents w) :: r:=by
 induction ents with
 | nil => cases h
 | cons e l ih =>
  obtain ⟨a,ks⟩:=e
  by_cases q:a = w
  ·subst q
   rw [List.filter_cons_of_pos (by simp),List.map_cons]
   exact ⟨_,by simp only [kin,List.lookup_cons,beq_self_eq_true]; rfl⟩
  ·rw [List.filter_cons_of_neg (by simpa using q)]
   have h':w ∈ l.map (·.1):=by
    rw [List.map_cons] at h
    rcases List.mem_cons.mp h with z | z
    ·exact absurd z.symm q
    ·exact z
   obtain ⟨r,e⟩:=ih h'
   refine ⟨r,?_⟩
   rw [e]
   have:(w == a) = false:=by simpa using fun z:w = a => q z.symm
   simp only [kin,List.lookup_cons,this]
theorem rowOf_take {ents:List (Str × List Row)} {ws:List Str} {ch:List Nat} {i:Nat} {w:Str} {c:Nat} (h1:ws[i]? = some w) (h2:ch[i]? = some c):rowOf ents (ws.take (i + 1)) (ch.take (i + 1)) = rowOf ents (ws.take i) (ch.take i) ++ (kin ents w).getD c []:=by
 rw [List.take_add_one,List.take_add_one,h1,h2]
 have l1:i < ws.length:=(List.getElem?_eq_some_iff.mp h1).1
 have l2:i < ch.length:=(List.getElem?_eq_some_iff.mp h2).1
 unfold rowOf chosen
 rw [List.zipWith_append (by simp; omega),List.flatten_append]
 simp
theorem rowOf_le {ents:List (Str × List Row)} {ws:List Str} {ch:List Nat} {i:Nat}:(rowOf ents (ws.take i) (ch.take i)).length ≤ (rowOf ents ws ch).length:=by
 have e:chosen ents (ws.take i) (ch.take i) = (chosen ents ws ch).take i:=by unfold chosen; rw [List.take_zipWith]
 unfold rowOf
 rw [e]
 conv => rhs; rw [← List.take_append_drop i (chosen ents ws ch),List.flatten_append,List.length_append]
 omega
noncomputable def S_l_drawn:SpD:=fun ds M R => ∃ (ord:List (Str × Str)) (goal:Str) (ents:List (Str × List Row)) (ws:List Str) (ch:List Nat) (arcs:List (Nat × Nat)),ds = [lexD ord goal ents,.tup (ws.map .str),.tup [.tup (intsD ch),.tup (arcs.map stD)]] ∧ DrOf ord goal ents ws ch arcs ∧ R (.bl true) M
theorem ok_l_drawn {f:Addr} {fd:FuncData} (F:Fun K "_law_drawn" "_law_drawn" s_l_drawn f fd) (T:Txt mg) (g_l_arcs_right:FnD P w K mg base "_law_arcs_right" 3 3 S_l_arcs_right) (g_l_whole:FnD P w K mg base "_law_whole" 1 1 S_l_whole):FnOk P w K mg base CX0 4 f fd ["_law_lexicon","_law_words","_law_drawing"] (spD K 3 S_l_drawn):=by
 have nd:=sc_l_drawn.nd
 refine F.okQ rfl sc_l_drawn (fun cdv A outer s H E hr => ⟨_,(q_scons (q_ifS (q_pw (q_tor (q_tnot (q_tval (q_isi (Tn:="tuple") (by decide) rfl T.b_isinstance rfl T.b_tuple (by kernel_rfl) (q_var 2)))) (q_tor1 (q_tcmp (o_ne hr.units) (q_callB c_len rfl T.b_len (by kernel_rfl) (q_cons (q_var 2) q_nil)) q_int (by first | exact nobehind _ (by decide) (by decide) | rfl))))) (q_sone (q_ret q_bl)) q_snil)
   (q_scons (q_asg (q_var 2) (g_tup rfl (g_cons (g_name (i:=3) nd rfl (Or.inl rfl)) (g_cons (g_name (i:=4) nd rfl (Or.inl rfl)) g_nil))))
   (q_scons (q_ifS (q_pw (q_tor (q_tnot (q_tval (q_isi (Tn:="tuple") (by decide) rfl T.b_isinstance rfl T.b_tuple (by kernel_rfl) (q_var 3)))) (q_tor1 (q_tcmp (o_ne hr.units) (q_callB c_len rfl T.b_len (by kernel_rfl) (q_cons (q_var 3) q_nil)) (q_callB c_len rfl T.b_len (by kernel_rfl) (q_cons (q_var 1) q_nil)) (by first | exact nobehind _ (by decide) (by decide) | rfl))))) (q_sone (q_ret q_bl)) q_snil)
   (q_hid (q_scons (q_set (i:=5) nd rfl (Or.inl rfl) (q_lstO q_nil))
   (q_hid (q_scons (q_for PassesOwn.never rfl (qi_rng1 rfl T.b_range (q_cons (q_callB c_len rfl T.b_len (by kernel_rfl) (q_cons (q_var 1) q_nil)) q_nil)) (g_name (i:=6) nd rfl (Or.inr rfl)) (q_scons (q_set (i:=7) nd rfl (Or.inl rfl) (q_ix o_ix (q_lc (ms:=[false,true,false,false,false,false,true,false]) (extra:=["_law_word"]) (compSc_of rfl (show compOkB (defScope s_l_drawn) n_l_drawn _ _ = true from by decide +kernel)) rfl (qi_any (q_ix o_ix (q_var 0) q_int (fun _ _ => rfl))) (ga_tup (n:=2) rfl (gs_cons (ga_name (i:=8) (show (n_l_drawn ++ _).Nodup from by decide +kernel) rfl rfl) (gs_cons (ga_name (i:=7) (show (n_l_drawn ++ _).Nodup from by decide +kernel) rfl rfl) gs_nil))) (fun _ _ _ _ => (qi_one (q_tcmp (o_eq hr.units) (q_var 8) (q_ix o_ix (q_var 1) (q_var 6) (fun _ _ => rfl)) (by first | exact nobehind _ (by decide) (by decide) | rfl)))) (fun _ _ _ _ => (q_var 7))) q_int (fun _ _ => rfl)))
   (q_hid (q_scons (q_ifS (q_pw (q_tor (q_tnot (q_tval (qc g_l_whole (hr.mono (by decide)) rfl (q_cons (q_ix o_ix (q_var 3) (q_var 6) (fun _ _ => rfl)) q_nil)))) (q_tor1 (q_tnot (q_tchain o_le o_lt q_int (q_ix o_ix (q_var 3) (q_var 6) (fun _ _ => rfl)) (q_callB c_len rfl T.b_len (by kernel_rfl) (q_cons (q_var 7) q_nil))))))) (q_sone (q_retG q_bl)) q_snil)
   (q_hid (q_sone (q_expr (q_ext (q_var 5) (q_callTy c_list rfl T.b_list (by kernel_rfl) (q_cons (q_ix o_ix (q_var 7) (q_ix o_ix (q_var 3) (q_var 6) (fun _ _ => rfl)) (fun _ _ => rfl)) q_nil))))))))))
   (q_hid (q_sone (q_retG (qc g_l_arcs_right (hr.mono (by decide)) rfl (q_cons (q_ix o_ix (q_var 0) q_int (fun _ _ => rfl)) (q_cons (q_op o_add (q_var 5) (q_lst (q_cons (q_tup (q_cons (q_ix o_ix (q_var 0) q_int (fun _ _ => rfl)) (q_cons q_int q_nil))) q_nil))) (q_cons (q_var 4) q_nil)))))))))))))),fun ds M R hl hS => ?_⟩)
 obtain ⟨ord,goal,ents,ws,ch,arcs,rfl,h,k⟩:=hS
 walk_at "rd"
 refine ⟨true,rfl,?_⟩
 rw [if_neg (by simp),if_neg (by decide)]
 simp only [gdTup,gdCons,gdName,gdNil,Option.bind_some]
 refine ⟨_,if_pos rfl,?_⟩
 walk_at "rd"
 refine ⟨true,rfl,?_⟩
 rw [if_neg (by simp),if_neg (by simp [intsD,h.len])]
 refine dHid_of ?_
 walk_at "rd"
 refine ⟨sz3 0,fun p hp => dHid_of ?_⟩
 walk_at "rd"
 have hlw:=h.lw
 have hlen:=h.len
 rw [List.length_map,Int.toNat_natCast]
 refine ⟨by omega,by omega,?_⟩
 refine forRun_by (fun i Δ M' => ∃ x6 x7,Δ = [some (lexD ord goal ents),some (D.tup (ws.map D.str)),some (D.tup [D.tup (intsD ch),D.tup (arcs.map stD)]),some (D.tup (intsD ch)),some (D.tup (arcs.map stD)),some (D.ref p),x6,x7] ∧ M' = updM M p (.lst ((rowOf ents (ws.take i) (ch.take i)).map signD))) ⟨_,_,rfl,by simp [rowOf,chosen]⟩ ?_ ?_
 ·rintro i d Δ M' X hd ⟨x6,x7,rfl,rfl⟩ k'
  obtain ⟨hi,rfl⟩:=rngD_get hd
  rw [Int.zero_add] at *
  obtain ⟨wd,hwd⟩:∃ wd,ws[i]? = some wd:=⟨_,List.getElem?_eq_getElem hi⟩
  obtain ⟨c,hcc⟩:∃ c,ch[i]? = some c:=⟨_,List.getElem?_eq_getElem (by omega)⟩
  have hwm:=h.mem wd (List.mem_of_getElem? hwd)
  have hfit:c < (kin ents wd).length:=h.fit (wd,c) (by
   rw [List.mem_iff_getElem?]
   exact ⟨i,by rw [List.getElem?_zip_eq_some]; exact ⟨hwd,hcc⟩⟩)
  refine ⟨_,rfl,?_⟩
  simp only [lexD]
  walk_at "rd"
  refine fun hz => ⟨hz,?_⟩
  refine lcRun_map entD (fun e => e.1 == wd) (fun e => kindsD e.2) (fun Δ => ∃ a b,Δ = [none,some (D.tup (ws.map D.str)),none,none,none,none,some (D.int (i:Int)),a,b]) ents _ _ (fun e he Δ hΔ => ?_) ⟨none,none,rfl⟩ ?_
  ·obtain ⟨a,b,rfl⟩:=hΔ
   refine ⟨_,rfl,⟨_,_,rfl⟩,fun Q1 q => ?_,fun _ Q2 q => ?_⟩
   ·walk_at "rd"
    refine ⟨_,atI_nat (by rw [List.getElem?_map,hwd]; rfl),?_⟩
    walk_at "rd"
    exact q
   ·walk_at "rd"
    exact q
  rw [List.nil_append]
  obtain ⟨r,er⟩:=kin_first hwm.1
  rw [er]
  refine ⟨_,atI_0,dHid_of ?_⟩
  simp only [kindsD]
  walk_at "rd"
  have hcat:atI (intsD ch) (i:Int) = some (D.int (c:Int)):=atI_nat (by rw [intsD,List.getElem?_map,hcc]; rfl)
  refine ⟨_,hcat,_,rfl,_,rfl,?_⟩
  rw [if_neg (by simp)]
  refine ⟨_,hcat,?_⟩
  walk_at "rd"
  rw [if_pos (Int.natCast_nonneg _)]
  rw [if_neg (by rw [List.length_map,decide_eq_true (Int.ofNat_lt.mpr hfit)]; simp)]
  refine dHid_of ?_
  walk_at "rd"
  refine ⟨_,hcat,?_⟩
  walk_at "rd"
  refine ⟨_,kind_at hfit,?_⟩
  simp only [kindD]
  walk_at "rd"
  have e1:=rowOf_take (ents:=ents) hwd hcc
  have e2:=rowOf_le (ents:=ents) (ws:=ws) (ch:=ch) (i:=i + 1)
  have hsm:=h.small
  refine ⟨_,rfl,_,_,rfl,rfl,?_,k' _ _ ⟨_,_,rfl,?_⟩⟩
  ·rw [e1,List.length_append] at e2
   rw [List.length_map,List.length_map]
   exact sz3 _ (by omega)
  ·rw [e1,List.map_append]
 ·rintro Δ M' ⟨x6,x7,rfl,rfl⟩
  refine dHid_of ?_
  simp only [lexD]
  walk_at "rd"
  have hrl:(rngD 0 ws.length).length = ws.length:=by simp [rngD]
  rw [hrl,List.take_of_length_le (Nat.le_refl _),List.take_of_length_le (by omega)]
  have hsm:=h.small
  refine ⟨sz3 2,sz3 1,_,if_pos (sz3 _ (by rw [List.length_map]; omega)),?_⟩
  refine ⟨ord,rowOf ents ws ch ++ [(goal,1)],arcs,by rw [List.map_append]; rfl,h.lo,by rw [List.length_append]; simp; omega,by rw [List.length_append]; exact h.geo,h.can,?_⟩
  exact ⟨M,leM_upd hp,k⟩
noncomputable def S_l_mirrored:SpD:=fun ds M R => ∃ (ord:List (Str × Str)) (goal:Str) (ents:List (Str × List Row)),ds = [lexD ord goal ents] ∧ ents.length ≤ 8 ∧ (∀ e ∈ ents,∀ r ∈ e.2,r.length ≤ 24) ∧ R (lexD ord goal (ents.map mirE)) M
theorem ok_l_mirrored {f:Addr} {fd:FuncData} (F:Fun K "_law_mirrored" "_law_mirrored" s_l_mirrored f fd) (T:Txt mg) :FnOk P w K mg base CX0 1 f fd ["_law_lexicon"] (spD K 1 S_l_mirrored):=by
 have nd:=sc_l_mirrored.nd
 refine F.okQ rfl sc_l_mirrored (fun cdv A outer s H E hr => ⟨_,(q_scons (q_set (i:=1) nd rfl (Or.inl rfl) (q_lstO q_nil))
   (q_hid (q_scons (q_for PassesOwn.never rfl (qi_any (q_ix o_ix (q_var 0) q_int (fun _ _ => rfl))) (g_tup rfl (g_cons (g_name (i:=2) nd rfl (Or.inl rfl)) (g_cons (g_name (i:=3) nd rfl (Or.inl rfl)) g_nil))) (q_sone (q_expr (q_app (q_var 1) (q_tup (q_cons (q_var 2) (q_cons (q_callTy c_tuple rfl T.b_tuple (by kernel_rfl) (q_cons (q_lcC (ms:=[false,false,false,false]) (extra:=["_law_kind"]) (compScC_fn (n0:=0) rfl (show compOkC' (defScope s_l_mirrored) n_l_mirrored _ _ = true from by decide +kernel)) rfl (qi_any (q_var 3)) (gaC_loc (i:=4) (show (n_l_mirrored ++ _).Nodup from by decide +kernel) rfl rfl) (fun S _ _ _ _ => qi_nil) (fun S _ _ _ _ => (q_callTy c_tuple rfl T.b_tuple (by kernel_rfl) (q_cons (q_lc (ms:=[false,false,false,false,false]) (extra:=["_law_mark","_law_turn"]) (compSc_in S (show compOkB (relabelS _ (defScope s_l_mirrored)) (n_l_mirrored ++ (["_law_kind"]:List Str)) _ _ = true from by decide +kernel)) rfl (qi_any (q_sliceR (q_var 4) (q_un negU q_int))) (ga_tup (n:=2) rfl (gs_cons (ga_name (i:=5) (show ((n_l_mirrored ++ (["_law_kind"]:List Str)) ++ _).Nodup from by decide +kernel) rfl rfl) (gs_cons (ga_name (i:=6) (show ((n_l_mirrored ++ (["_law_kind"]:List Str)) ++ _).Nodup from by decide +kernel) rfl rfl) gs_nil))) (fun _ _ _ _ => qi_nil) (fun _ _ _ _ => (q_tup (q_cons (q_var 5) (q_cons (q_op o_sub q_int (q_var 6)) q_nil))))) q_nil)))) q_nil)) q_nil)))))))
   (q_hid (q_sone (q_retG (q_tup (q_cons (q_ix o_ix (q_var 0) q_int (fun _ _ => rfl)) (q_cons (q_ix o_ix (q_var 0) q_int (fun _ _ => rfl)) (q_cons (q_callTy c_tuple rfl T.b_tuple (by kernel_rfl) (q_cons (q_var 1) q_nil)) q_nil)))))))))),fun ds M R hl hS => ?_⟩)
 obtain ⟨ord,goal,ents,rfl,hle,h,k⟩:=hS
 simp only [lexD]
 walk_at "rd"
 refine ⟨sz3 0,fun p hp => dHid_of ?_⟩
 walk_at "rd"
 intro hz
 refine forRun_by (fun i Δ M' => ∃ x2 x3,Δ = [some (D.tup [D.tup (ord.map pairD),D.str goal,D.tup (ents.map entD)]),some (D.ref p),x2,x3] ∧ M' = updM M p (.lst ((ents.take i).map fun e => entD (mirE e)))) ⟨_,_,rfl,rfl⟩ ?_ ?_
 ·rintro i d Δ M' X hd ⟨x2,x3,rfl,rfl⟩ k'
  obtain ⟨e,he,rfl⟩:=map_get hd
  have hi:i < ents.length:=(List.getElem?_eq_some_iff.mp he).1
  generalize hacc:((ents.take i).map fun e => entD (mirE e)) = acc
  rw [show entD e = D.tup [D.str e.1,D.tup (e.2.map kindD)] from rfl]
  simp only [gdTup,gdCons,gdName,gdNil,Option.bind_some]
  refine ⟨_,if_pos rfl,?_⟩
  walk_at "rd"
  refine fun hz2 => ⟨hz2,?_⟩
  refine lcRun_map kindD (fun _ => true) (fun r => kindD (mir r)) (fun Δ => ∃ x,Δ = [none,none,none,none,x]) e.2 _ _ (fun r hr' Δ hΔ => ?_) ⟨none,rfl⟩ ?_
  ·obtain ⟨x,rfl⟩:=hΔ
   refine ⟨_,rfl,⟨_,rfl⟩,fun Q1 q => q,fun _ Q3 q => ?_⟩
   simp only [kindD]
   walk_at "rd"
   refine fun hz3 => ⟨hz3,?_⟩
   rw [← List.map_reverse]
   refine lcRun_map signD (fun _ => true) (fun x => signD (mirS x)) (fun Δ => ∃ x y,Δ = [none,none,none,none,none,x,y]) r.reverse _ _ (fun m hm Δ hΔ => ?_) ⟨none,none,rfl⟩ ?_
   ·obtain ⟨x,y,rfl⟩:=hΔ
    refine ⟨_,rfl,⟨_,_,rfl⟩,fun Q1 q => q,fun _ Q2 q => ?_⟩
    walk_at "rd"
    refine ⟨sz3 2,?_⟩
    rw [Int.zero_sub]
    exact q
   ·rw [List.nil_append,List.filter_eq_self.mpr (fun _ _ => rfl)]
    rw [kindD,mir,List.map_map] at q
    exact q
  ·rw [List.nil_append,List.filter_eq_self.mpr (fun _ _ => rfl)]
   refine ⟨sz3 2,_,updM_same,?_,?_⟩
   ·rw [← hacc,List.length_map,List.length_take]
    exact Nat.lt_of_lt_of_le (by omega:min i ents.length < 1000) (sz3 1000)
   ·rw [updM_upd]
    refine k' _ _ ⟨_,_,rfl,?_⟩
    rw [List.take_add_one,he,List.map_append,hacc]
    simp only [Option.toList_some,List.map_cons,List.map_nil]
    rw [show entD (mirE e) = D.tup [D.str e.1,D.tup (e.2.map fun r => kindD (mir r))] by simp only [entD,mirE,kindsD,List.map_map]; rfl]
 ·rintro Δ M' ⟨x2,x3,rfl,rfl⟩
  refine dHid_of ?_
  walk_at "rd"
  rw [List.length_map,List.take_of_length_le (Nat.le_refl _)]
  refine ⟨sz3 3,M,leM_upd hp,?_⟩
  rw [lexD,List.map_map] at k
  exact k

end
section
variable {P:Program} {w:World} {K:PySem.W.Frag} {mg:Str → Option Value} {base:Heap}
noncomputable def Nums (n:Nat) (xs:List Int):Prop:=xs.length = n ∧ ∀ x ∈ xs,0 ≤ x ∧ x < 720720
theorem Nums.snoc {n:Nat} {xs:List Int} {x:Int} (h:Nums n xs) (h0:0 ≤ x) (h1:x < 720720):Nums (n + 1) (xs ++ [x]):=by
 refine ⟨by rw [List.length_append,h.1]; rfl,fun y hy => ?_⟩
 rcases List.mem_append.mp hy with q | q
 ·exact h.2 y q
 ·have:y = x:=by simpa using q
  subst this; exact ⟨h0,h1⟩
theorem any_tx {cs:List Nat} {c:Nat}:((cs.map fun c => D.str (tx [c])).any fun d => eqD d (.str (tx [c]))) = decide (c ∈ cs):=by
 rw [Bool.eq_iff_iff,List.any_map,List.any_eq_true,decide_eq_true_eq]
 constructor
 ·rintro ⟨e,he,h⟩
  have:tx [e] = tx [c]:=by simpa [eqD] using h
  have h2:=congrArg (fun z:Str => z.cps.toList) this
  simp only [tx_list] at h2
  obtain rfl:e = c:=by simpa using h2
  exact he
 ·intro h; exact ⟨c,h,by simp [eqD]⟩
theorem rest_pos {cs:List Nat} (h:cs.length < 26):0 < (abcL.filter fun c => !decide (c ∈ cs)).length:=by
 rw [List.length_pos_iff]
 intro e
 have h2:abcL.length ≤ cs.length:=nodup_len abcL cs (by decide) fun c hc => by
  rw [List.filter_eq_nil_iff] at e
  simpa using e c hc
 have:abcL.length = 26:=by decide
 omega
noncomputable def MInv (i:Nat) (h:List Nat) (F:List (Nat × Nat)):Prop:=h.length + 2 * F.length = i ∧ (∀ x ∈ h,x < i) ∧ (∀ a ∈ F,a.1 < a.2 ∧ a.2 < i) ∧ F.Pairwise Apart ∧ h.Pairwise (· < ·) ∧ ∀ x ∈ h,∀ a ∈ F,x < a.1 ∨ a.2 < x
theorem MInv.push {i:Nat} {h:List Nat} {F:List (Nat × Nat)} (I:MInv i h F):MInv (i + 1) (h ++ [i]) F:=by
 obtain ⟨h1,h2,h3,h4,h5,h6⟩:=I
 have key:∀ x ∈ h ++ [i],x ∈ h ∨ x = i:=fun x hx => by simpa using hx
 refine ⟨by rw [List.length_append]; simp; omega,fun x hx => ?_,fun a ha => ⟨(h3 a ha).1,by have:=(h3 a ha).2; omega⟩,h4,?_,fun x hx a ha => ?_⟩
 ·rcases key x hx with q | q
  ·have:=h2 x q; omega
  ·omega
 ·rw [List.pairwise_append]
  exact ⟨h5,by simp,fun x hx y hy => by rw [show y = i by simpa using hy]; exact h2 x hx⟩
 ·rcases key x hx with q | q
  ·exact h6 x q a ha
  ·right; rw [q]; exact (h3 a ha).2
theorem MInv.pop {i t:Nat} {h:List Nat} {F:List (Nat × Nat)} (I:MInv i (h ++ [t]) F):MInv (i + 1) h (F ++ [(t,i)]):=by
 obtain ⟨h1,h2,h3,h4,h5,h6⟩:=I
 rw [List.length_append] at h1
 simp only [List.length_cons,List.length_nil] at h1
 have ht:=h2 t (by simp)
 have key:∀ a ∈ F ++ [(t,i)],a ∈ F ∨ a = (t,i):=fun x hx => by simpa using hx
 rw [List.pairwise_append] at h5
 refine ⟨by rw [List.length_append]; simp; omega,fun x hx => by have:=h2 x (by simp [hx]); omega,fun a ha => ?_,?_,h5.1,fun x hx a ha => ?_⟩
 ·rcases key a ha with q | q
  ·have:=h3 a q; omega
  ·subst q; simp only; omega
 ·rw [List.pairwise_append]
  refine ⟨h4,by simp,fun a ha b hb => ?_⟩
  obtain rfl:b = (t,i):=by simpa using hb
  have q1:=h3 a ha
  have q2:=h6 t (by simp) a ha
  unfold Apart
  simp only
  omega
 ·rcases key a ha with q | q
  ·exact h6 x (by simp [hx]) a q
  ·subst q
   left
   exact h5.2.2 x hx t (by simp)
theorem leM2 {M:DH} {p q:Addr} {a b:HD} (h1:M p = none) (h2:M q = none):LeM M (updM (updM M p a) q b):=fun c o e => by
 unfold updM
 split
 ·rename_i z; rw [z,h2] at e; cases e
 ·split
  ·rename_i z; rw [z,h1] at e; cases e
  ·exact e
theorem ite_three {a b:Prop} [Decidable a] [Decidable b] {P Q:Prop} (h1:P) (h2:Q):if a then P else if b then P else Q:=by
 split
 ·exact h1
 ·split
  ·exact h1
  ·exact h2
noncomputable def S_l_parts:SpD:=fun ds M R => ∃ (c:Int) (n:Nat),ds = [.int c,.lst ((List.replicate n (720720:Int)).map D.int)] ∧ n ≤ 500 ∧ ∀ xs,Nums n xs → R (.lst (xs.map D.int)) M
theorem ok_l_parts {f:Addr} {fd:FuncData} (F:Fun K "_law_parts" "_law_parts" s_l_parts f fd) (T:Txt mg) :FnOk P w K mg base CX0 1 f fd ["_law_cell","_law_sizes"] (spD K 2 S_l_parts):=by
 have nd:=sc_l_parts.nd
 refine F.okQ rfl sc_l_parts (fun cdv A outer s H E hr => ⟨_,(q_scons (q_set (i:=2) nd rfl (Or.inl rfl) (q_lstO q_nil))
   (q_hid (q_scons (q_ifS (q_pw (q_tor (q_tcmp o_lt (q_var 0) q_int (by first | exact nobehind _ (by decide) (by decide) | rfl)) (q_tor1 (q_tcmp o_ge (q_var 0) (q_op o_pow q_int q_int) (by first | exact nobehind _ (by decide) (by decide) | rfl))))) (q_hid (q_scons (q_for PassesOwn.never rfl (qi_any (q_var 1)) (g_name (i:=3) nd rfl (Or.inl rfl)) (q_scons (q_expr (q_app (q_var 2) (q_op o_mod (q_var 0) (q_var 3))))
   (q_sone (q_set (i:=0) nd rfl (Or.inl rfl) (q_op o_fdiv (q_var 0) (q_var 3))))))
   (q_hid (q_sone (q_retF (q_var 2)))))) q_snil)
   (q_hid (q_scons (q_set (i:=4) nd rfl (Or.inl rfl) (q_op o_add (q_op o_mod (q_var 0) q_int) q_int))
   (q_hid (q_scons (q_for PassesOwn.never rfl (qi_any (q_var 1)) (g_name (i:=3) nd rfl (Or.inl rfl)) (q_scons (q_set (i:=4) nd rfl (Or.inl rfl) (q_op o_mod (q_op o_add (q_op o_mulE (q_var 4) q_int) q_int) q_int))
   (q_sone (q_expr (q_app (q_var 2) (q_op o_mod (q_op o_fdiv (q_op o_mod (q_op o_mulE (q_var 4) q_int) q_int) q_int) (q_var 3)))))))
   (q_hid (q_sone (q_retF (q_var 2))))))))))),fun ds M R hl hS => ?_⟩)
 obtain ⟨c,n,rfl,hn,k⟩:=hS
 walk_at "rd"
 refine ⟨sz3 0,fun p hp => dHid_of ?_⟩
 walk_at "rd"
 refine ite_three (dHid_of ?_) (dHid_of ?_)
 ·walk_at "rd"
  intro hz
  refine forRun_by (fun i Δ M' => ∃ (c':Int) (acc:List Int) (x3:Option D),Δ = [some (D.int c'),some (D.lst (List.map D.int (List.replicate n 720720))),some (D.ref p),x3,none] ∧ M' = updM M p (.lst (acc.map D.int)) ∧ Nums i acc) ⟨c,[],none,rfl,rfl,rfl,fun _ h => by cases h⟩ ?_ ?_
  ·rintro i d Δ M' X hd ⟨c',acc,x3,rfl,rfl,hN⟩ k'
   obtain ⟨x,hx,rfl⟩:=map_get hd
   obtain rfl:x = 720720:=List.eq_of_mem_replicate (List.mem_of_getElem? hx)
   have hi:i < n:=by have:=(List.getElem?_eq_some_iff.mp hx).1; simpa using this
   simp only [gdName]
   walk_at "rd"
   refine ⟨?_,k' _ _ ⟨_,acc ++ [c' % 720720],_,rfl,by rw [List.map_append]; rfl,hN.snoc (by omega) (by omega)⟩⟩
   rw [List.length_map,hN.1]
   exact Nat.lt_of_lt_of_le (by omega:i < 1000) (sz3 1000)
  ·rintro Δ M' ⟨c',acc,x3,rfl,rfl,hN⟩
   refine dHid_of ?_
   walk_at "rd"
   rw [delM_upd hp]
   rw [List.length_map,List.length_replicate] at hN
   exact k acc hN
 ·walk_at "rd"
  refine dHid_of ?_
  walk_at "rd"
  intro hz
  refine forRun_by (fun i Δ M' => ∃ (sd:Int) (acc:List Int) (x3:Option D),Δ = [some (D.int c),some (D.lst (List.map D.int (List.replicate n 720720))),some (D.ref p),x3,some (D.int sd)] ∧ M' = updM M p (.lst (acc.map D.int)) ∧ Nums i acc ∧ 0 ≤ sd ∧ sd < 2147483700) ⟨_,[],none,rfl,rfl,⟨rfl,fun _ h => by cases h⟩,by omega,by omega⟩ ?_ ?_
  ·rintro i d Δ M' X hd ⟨sd,acc,x3,rfl,rfl,hN,s0,s1⟩ k'
   obtain ⟨x,hx,rfl⟩:=map_get hd
   obtain rfl:x = 720720:=List.eq_of_mem_replicate (List.mem_of_getElem? hx)
   have hi:i < n:=by have:=(List.getElem?_eq_some_iff.mp hx).1; simpa using this
   refine ⟨_,rfl,?_⟩
   walk_at "rd"
   refine ⟨?_,k' _ _ ⟨_,acc ++ [(sd * 69069 + 12345) % 2147483587 * 40503 % 2147483563 / 11 % 720720],_,rfl,by rw [List.map_append]; rfl,hN.snoc (by omega) (by omega),by omega,by omega⟩⟩
   rw [List.length_map,hN.1]
   exact Nat.lt_of_lt_of_le (by omega:i < 1000) (sz3 1000)
  ·rintro Δ M' ⟨sd,acc,x3,rfl,rfl,hN,s0,s1⟩
   refine dHid_of ?_
   walk_at "rd"
   rw [delM_upd hp]
   rw [List.length_map,List.length_replicate] at hN
   exact k acc hN
noncomputable def S_l_letters:SpD:=fun ds M R => ∃ (xs:List Int) (n:Nat),ds = [.lst (xs.map D.int),.int n] ∧ n ≤ xs.length ∧ n ≤ 10 ∧ (∀ x ∈ xs,0 ≤ x ∧ x < 720720) ∧ ∀ cs:List Nat,cs.length = n → cs.Nodup → (∀ c ∈ cs,c ∈ abcL) → R (.lst (cs.map fun c => D.str (tx [c]))) M
theorem ok_l_letters {f:Addr} {fd:FuncData} (F:Fun K "_law_letters" "_law_letters" s_l_letters f fd) (T:Txt mg) :FnOk P w K mg base CX0 1 f fd ["_law_xs","_law_amount"] (spD K 2 S_l_letters):=by
 have nd:=sc_l_letters.nd
 refine F.okQ rfl sc_l_letters (fun cdv A outer s H E hr => ⟨_,(q_scons (q_set (i:=2) nd rfl (Or.inl rfl) q_str)
   (q_scons (q_set (i:=3) nd rfl (Or.inr rfl) (q_lstO q_nil))
   (q_hid (q_scons (q_for PassesOwn.never rfl (qi_rng1 rfl T.b_range (q_cons (q_var 1) q_nil)) (g_name (i:=4) nd rfl (Or.inl rfl)) (q_scons (q_setLc (i:=5) nd rfl rfl rfl (ms:=[false,false,false,true,false,false]) (extra:=["_law_sign"]) (compSc_of rfl (show compOkB (defScope s_l_letters) n_l_letters _ _ = true from by decide +kernel)) rfl (qi_any (q_var 2)) (ga_name (i:=6) (show (n_l_letters ++ _).Nodup from by decide +kernel) rfl rfl) (fun _ _ _ _ => (qi_one (q_tcmp o_notinE (q_var 6) (q_var 3) (by first | exact nobehind _ (by decide) (by decide) | rfl)))) (fun _ _ _ _ => (q_var 6)))
   (q_hid (q_sone (q_expr (q_app (q_var 3) (q_ix o_ix (q_var 5) (q_op o_mod (q_ix o_ix (q_var 0) (q_var 4) (fun _ _ => rfl)) (q_callB c_len rfl T.b_len (by kernel_rfl) (q_cons (q_var 5) q_nil))) (fun _ _ => rfl))))))))
   (q_hid (q_sone (q_retF (q_var 3)))))))),fun ds M R hl hS => ?_⟩)
 obtain ⟨xs,n,rfl,hn,hn10,hx,k⟩:=hS
 walk_at "rd"
 refine ⟨sz3 0,fun p hp => dHid_of ?_⟩
 walk_at "rd"
 rw [Int.toNat_natCast]
 refine ⟨by omega,by omega,?_⟩
 refine forRun_by (fun i Δ M' => ∃ (cs:List Nat) (x4 x5:Option D),Δ = [some (D.lst (xs.map D.int)),some (D.int n),some (D.str abc),some (D.ref p),x4,x5] ∧ M' = updM M p (.lst (cs.map fun c => D.str (tx [c]))) ∧ cs.length = i ∧ cs.Nodup ∧ ∀ c ∈ cs,c ∈ abcL) ⟨[],none,none,rfl,rfl,rfl,List.nodup_nil,fun _ h => by cases h⟩ ?_ ?_
 ·rintro i d Δ M' X hd ⟨cs,x4,x5,rfl,rfl,hl,hnd,hab⟩ k'
  obtain ⟨hi,rfl⟩:=rngD_get hd
  refine ⟨_,rfl,?_⟩
  walk_at "rd"
  refine ⟨_,if_pos (by rw [abc_eq,tx_len]; exact sz3 _),fun hz => ⟨hz,?_⟩⟩
  rw [abc_signs]
  refine lcRun_map (fun (c:Nat) => D.str (tx [c])) (fun c => !decide (c ∈ cs)) (fun c => D.str (tx [c])) (fun Δ => ∃ x,Δ = [none,none,none,some (D.ref p),none,none,x]) abcL _ _ (fun c hc Δ hΔ => ?_) ⟨none,rfl⟩ ?_
  ·obtain ⟨x,rfl⟩:=hΔ
   refine ⟨_,rfl,⟨_,rfl⟩,fun Q1 q => ?_,fun _ Q2 q => ?_⟩
   ·walk_at "rd"
    refine ⟨_,if_pos ⟨rfl,by rw [List.all_map,List.all_eq_true]; intro _ _; rfl⟩,_,rfl,?_⟩
    rw [any_tx,Bool.true_xor]
    exact q
   ·walk_at "rd"
    exact q
  rw [List.nil_append]
  have hne:=rest_pos (by omega:cs.length < 26)
  have hin:∀ c ∈ abcL.filter (fun c => !decide (c ∈ cs)),c ∈ abcL ∧ c ∉ cs:=fun c hc => by
   have:=List.mem_filter.mp hc
   exact ⟨this.1,by simpa using this.2⟩
  generalize abcL.filter (fun c => !decide (c ∈ cs)) = rest at hne hin
  refine dHid_of ?_
  walk_at "rd"
  rw [Int.zero_add]
  obtain ⟨x,hx'⟩:∃ x,xs[i]? = some x:=⟨_,List.getElem?_eq_getElem (by omega)⟩
  have hx2:=hx x (List.mem_of_getElem? hx')
  have hm0:0 ≤ x % (rest.length:Int):=Int.emod_nonneg _ (by omega)
  have hm1:x % (rest.length:Int) < (rest.length:Int):=Int.emod_lt_of_pos _ (by omega)
  obtain ⟨v,hv⟩:∃ v:Nat,x % (rest.length:Int) = (v:Int):=⟨_,(Int.toNat_of_nonneg hm0).symm⟩
  have hvl:v < rest.length:=by omega
  refine ⟨_,atI_nat (by rw [List.getElem?_map,hx']; rfl),?_⟩
  walk_at "rd"
  rw [List.length_map]
  refine ⟨_,if_pos (by omega),?_⟩
  walk_at "rd"
  rw [hv]
  have hr:=hin rest[v] (List.getElem_mem _)
  refine ⟨_,atI_nat (by rw [List.getElem?_map,List.getElem?_eq_getElem hvl]; rfl),?_,k' _ _ ⟨cs ++ [rest[v]],_,_,rfl,by rw [List.map_append]; rfl,by rw [List.length_append,hl]; rfl,?_,fun c hc => ?_⟩⟩
  ·rw [List.length_map]
   exact Nat.lt_of_lt_of_le (by omega:cs.length < 1000) (sz3 1000)
  ·rw [List.nodup_append]
   refine ⟨hnd,by simp,fun u hu w hw => ?_⟩
   obtain rfl:w = rest[v]:=by simpa using hw
   rintro rfl
   exact hr.2 hu
  ·rcases List.mem_append.mp hc with z | z
   ·exact hab c z
   ·obtain rfl:c = rest[v]:=by simpa using z
    exact hr.1
 ·rintro Δ M' ⟨cs,x4,x5,rfl,rfl,hl,hnd,hab⟩
  refine dHid_of ?_
  walk_at "rd"
  rw [delM_upd hp]
  rw [rngD_len] at hl
  exact k cs hl hnd hab
noncomputable def S_l_matched:SpD:=fun ds M R => ∃ (xs:List Int) (n:Nat),ds = [.lst (xs.map D.int),.int n] ∧ 2 * n ≤ xs.length ∧ n ≤ 6 ∧ ∀ arcs,Geo (2 * n) arcs → R (.lst (arcs.map stD)) M
theorem ok_l_matched {f:Addr} {fd:FuncData} (F:Fun K "_law_matched" "_law_matched" s_l_matched f fd) (T:Txt mg) :FnOk P w K mg base CX0 1 f fd ["_law_xs","_law_amount"] (spD K 2 S_l_matched):=by
 have nd:=sc_l_matched.nd
 refine F.okQ rfl sc_l_matched (fun cdv A outer s H E hr => ⟨_,(q_scons (q_set (i:=2) nd rfl (Or.inl rfl) (q_lstO q_nil))
   (q_scons (q_set (i:=3) nd rfl (Or.inl rfl) (q_lstO q_nil))
   (q_scons (q_set (i:=4) nd rfl (Or.inl rfl) (q_var 1))
   (q_hid (q_scons (q_for PassesOwn.never rfl (qi_rng1 rfl T.b_range (q_cons (q_op o_mulE q_int (q_var 1)) q_nil)) (g_name (i:=5) nd rfl (Or.inl rfl)) (q_sone (q_ifS (q_pw (q_tand (q_tcmp o_gt (q_var 4) q_int (by first | exact nobehind _ (by decide) (by decide) | rfl)) (q_tand1 (q_pw (q_tor (q_tcmp (o_eq hr.units) (q_var 2) (q_lst q_nil) (by first | exact nobehind _ (by decide) (by decide) | rfl)) (q_tor1 (q_tcmp (o_eq hr.units) (q_op o_mod (q_ix o_ix (q_var 0) (q_var 5) (fun _ _ => rfl)) q_int) q_int (by first | exact nobehind _ (by decide) (by decide) | rfl)))))))) (q_scons (q_expr (q_app (q_var 2) (q_var 5)))
   (q_sone (q_set (i:=4) nd rfl (Or.inl rfl) (q_op o_sub (q_var 4) q_int)))) (q_sone (q_expr (q_app (q_var 3) (q_tup (q_cons (q_pop (q_var 2)) (q_cons (q_var 5) q_nil)))))))))
   (q_hid (q_sone (q_retG (q_callB c_sortE rfl T.b_sorted (by kernel_rfl) (q_cons (q_var 3) q_nil)))))))))),fun ds M R hl hS => ?_⟩)
 obtain ⟨xs,n,rfl,hn,hn6,k⟩:=hS
 walk_at "rd"
 refine ⟨sz3 0,fun p hp => ⟨sz3 0,fun q hq => dHid_of ?_⟩⟩
 walk_at "rd"
 refine ⟨by omega,by omega,?_⟩
 have hpq:p ≠ q:=by
  intro e
  rw [e,updM_same] at hq
  cases hq
 have hMq:M q = none:=by rw [updM_ne (Ne.symm hpq)] at hq; exact hq
 rw [show (2 * (n:Int)).toNat = 2 * n by omega]
 refine forRun_by (fun i Δ M' => ∃ (h:List Nat) (F:List (Nat × Nat)) (x5:Option D),Δ = [some (D.lst (xs.map D.int)),some (D.int n),some (D.ref p),some (D.ref q),some (D.int ((n:Int) - h.length - F.length)),x5] ∧ M' = updM (updM M p (.lst (intsD h))) q (.lst (F.map stD)) ∧ MInv i h F ∧ h.length + F.length ≤ n) ⟨[],[],none,by simp,rfl,by simp [MInv],Nat.zero_le _⟩ ?_ ?_
 ·rintro i d Δ M' X hd ⟨h,F,x5,rfl,rfl,hI,hle⟩ k'
  obtain ⟨hi,rfl⟩:=rngD_get hd
  have e1:(updM (updM M p (.lst (intsD h))) q (.lst (F.map stD))) p = some (.lst (intsD h)):=by rw [updM_ne hpq,updM_same]
  have r1:rdM (updM (updM M p (.lst (intsD h))) q (.lst (F.map stD))) (.ref p) = .lst (intsD h):=rdM_ref e1
  refine ⟨_,rfl,?_⟩
  simp only [Int.zero_add]
  walk_at "rd"
  simp only [r1,e1]
  walk_at "rd"
  have hI1:=hI.1
  have push:h.length + F.length < n → (intsD h).length < sizeLine ∧ X [some (D.lst (xs.map D.int)),some (D.int n),some (D.ref p),some (D.ref q),some (D.int ((n:Int) - h.length - F.length - 1)),some (D.int (i:Int))] (updM (updM (updM M p (.lst (intsD h))) q (.lst (F.map stD))) p (.lst (intsD h ++ [D.int (i:Int)]))):=fun hlt => by
   refine ⟨?_,k' _ _ ⟨h ++ [i],F,some (D.int (i:Int)),?_,?_,hI.push,?_⟩⟩
   ·rw [intsD,List.length_map]
    exact Nat.lt_of_lt_of_le (by omega:h.length < 1000) (sz3 1000)
   ·rw [List.length_append,show ((h.length + [i].length:Nat):Int) = (h.length:Int) + 1 by simp,show (n:Int) - h.length - F.length - 1 = (n:Int) - ((h.length:Int) + 1) - F.length by omega]
   ·rw [updM_comm hpq,updM_upd,updM_comm (Ne.symm hpq)]
    simp [intsD]
   ·rw [List.length_append]; simp; omega
  have pop:h ≠ [] → ∃ x x_1,intsD h = x ++ [x_1] ∧ 2 ≤ sizeLine ∧ ∃ ds,updM (updM (updM M p (.lst (intsD h))) q (.lst (F.map stD))) p (.lst x) q = some (.lst ds) ∧ ds.length < sizeLine ∧ X [some (D.lst (xs.map D.int)),some (D.int n),some (D.ref p),some (D.ref q),some (D.int ((n:Int) - h.length - F.length)),some (D.int (i:Int))] (updM (updM (updM (updM M p (.lst (intsD h))) q (.lst (F.map stD))) p (.lst x)) q (.lst (ds ++ [D.tup [x_1,D.int (i:Int)]]))):=fun hne => by
   obtain ⟨h',t,rfl⟩:∃ h' t,h = h' ++ [t]:=⟨h.dropLast,h.getLast hne,(List.dropLast_concat_getLast hne).symm⟩
   refine ⟨intsD h',D.int (t:Int),by simp [intsD],sz3 2,F.map stD,by rw [updM_ne (Ne.symm hpq),updM_same],?_,k' _ _ ⟨h',F ++ [(t,i)],some (D.int (i:Int)),?_,?_,hI.pop,?_⟩⟩
   ·rw [List.length_map]
    exact Nat.lt_of_lt_of_le (by omega:F.length < 1000) (sz3 1000)
   ·rw [List.length_append,List.length_append,show (n:Int) - ((h'.length + [t].length:Nat):Int) - F.length = (n:Int) - h'.length - ((F.length + [(t,i)].length:Nat):Int) by simp; omega]
   ·rw [updM_comm hpq,updM_upd,updM_comm (Ne.symm hpq),updM_upd,List.map_append]
    rfl
   ·rw [List.length_append] at hle ⊢; simp at hle ⊢; omega
  have hnil:eqF (.lst (intsD h)) (.lst []) = some (.bl h.isEmpty):=by
   have h1:dLe (.lst (intsD h)) 60 = true:=dLes_gen _ fun _ => rfl
   have h2:dLe (.lst []) 60 = true:=rfl
   simp only [eqF,h1,h2,and_self,if_true]
   cases h <;> rfl
  refine ite2 (fun c1 => ?_) (fun c1 => ?_)
  ·refine ⟨sz3 0,_,hnil,_,rfl,ite2 (fun c2 => push (by omega)) (fun c2 => ?_)⟩
   obtain ⟨x,hx⟩:∃ x,xs[i]? = some x:=⟨_,List.getElem?_eq_getElem (by omega)⟩
   refine ⟨_,atI_nat (by rw [List.getElem?_map,hx]; rfl),?_⟩
   walk_at "rd"
   exact ite2 (fun c3 => push (by omega)) (fun c3 => pop (fun e => c2 (by rw [e]; rfl)))
  ·refine pop (fun e => ?_)
   rw [e] at hI1 hle c1
   simp at hI1 hle c1
   omega
 ·rintro Δ M' ⟨h,F,x5,rfl,rfl,hI,hle⟩
  refine dHid_of ?_
  walk_at "rd"
  have h0:h = []:=by
   have:=hI.1
   rw [rngD_len] at this
   exact List.length_eq_zero_iff.mp (by omega)
  subst h0
  have hF:2 * F.length = 2 * n:=by
   have:=hI.1
   rw [rngD_len] at this
   simpa using this
  rw [stI_map]
  refine ⟨_,sortE_l (by rw [List.length_map]; omega),M,leM2 hp hMq,?_⟩
  rw [← srt_map,← stI_map]
  refine k _ (geo_of hF (fun a ha => ?_) hI.2.2.2.1)
  have:=hI.2.2.1 a ha
  rw [rngD_len] at this
  exact this

end
section
variable {P:Program} {w:World} {K:PySem.W.Frag} {mg:Str → Option Value} {base:Heap}
theorem seq_by {a b:TSd} {E:EndsD} {Δ:DE} {M:DH} (C:DE → DH → Prop) (h1:∀ nx,(∀ Δ' M',C Δ' M' → nx Δ' M') → a { E with nx:=nx } Δ M) (h2:∀ Δ' M',C Δ' M' → b E Δ' M'):dSeq a b E Δ M:=h1 _ h2
theorem mod_ix {α:Type} {l:List α} (h:0 < l.length) (x:Int):∃ v:Nat,v < l.length ∧ x % (l.length:Int) = (v:Int):=by
 have h0:0 ≤ x % (l.length:Int):=Int.emod_nonneg _ (by omega)
 have h1:x % (l.length:Int) < (l.length:Int):=Int.emod_lt_of_pos _ (by omega)
 exact ⟨(x % (l.length:Int)).toNat,by omega,(Int.toNat_of_nonneg h0).symm⟩
theorem cut_in {xs:List Int} {lo hi:Option Int}:∃ ys:List Int,L2.cutD (xs.map D.int) lo hi = ys.map D.int ∧ ys.length ≤ xs.length ∧ ∀ y ∈ ys,y ∈ xs:=by
 refine ⟨(xs.drop (HT.sIx (xs.map D.int).length 0 lo)).take (HT.sIx (xs.map D.int).length (xs.map D.int).length hi - HT.sIx (xs.map D.int).length 0 lo),?_,?_,fun y hy => List.mem_of_mem_drop (List.mem_of_mem_take hy)⟩
 ·unfold L2.cutD
  rw [List.map_take,List.map_drop]
 ·simp; omega
theorem signD_eq (x y:Str × Int):eqD (signD x) (signD y) = decide (x = y):=by
 obtain ⟨a,b⟩:=x
 obtain ⟨c,d⟩:=y
 rw [Bool.eq_iff_iff]
 simp [signD,eqD,eqDs]
theorem neSigns {a b:Row}:neF (.lst (a.map signD)) (.lst (b.map signD)) = some (.bl (!decide (a = b))):=neL_gen signD signD_eq (fun _ => rfl)
theorem neKinds {a b:Row}:neF (.tup (a.map signD)) (.tup (b.map signD)) = some (.bl (!decide (a = b))):=by
 have h1:dLe (.tup (a.map signD)) 60 = true:=dLes_gen signD fun _ => rfl
 have h2:dLe (.tup (b.map signD)) 60 = true:=dLes_gen signD fun _ => rfl
 simp only [neF,h1,h2,and_self,if_true,eqD,eqD_gen signD signD_eq]
theorem ixN_nat {n j:Nat} (h:j < n):ixN n (j:Int) = some j:=by
 unfold ixN
 rw [if_pos (by omega),if_pos (by omega)]; simp
theorem sg_set {row:Row} {i:Nat} {x:Str × Int} (h:i < row.length):sg (row.set i x) i = x:=by simp [sg,h]
theorem sg_set_ne {row:Row} {i j:Nat} {x:Str × Int} (h:i ≠ j):sg (row.set i x) j = sg row j:=by simp [sg,List.getD_eq_getElem?_getD,List.getElem?_set_ne h]
noncomputable def S_l_signs:SpD:=fun ds M R => ∃ (xs:List Int) (arcs:List (Nat × Nat)) (ms:List Str) (ord:List (Str × Str)) (goal:Str),ds = [.lst (xs.map D.int),.lst (arcs.map stD),.lst (ms.map D.str),.tup (ord.map pairD),.str goal] ∧ 2 * arcs.length ≤ xs.length ∧ 1 ≤ arcs.length ∧ arcs.length ≤ 6 ∧ Geo (2 * arcs.length) arcs ∧ ms.length ≤ 10 ∧ goal ∈ ms ∧ ord.length ≤ 500 ∧
 ∀ row:Row,row.length = 2 * arcs.length → (∀ a ∈ arcs,cB ord (sg row a.1) (sg row a.2) = true) → sg row (2 * arcs.length - 1) = (goal,1) → R (.lst (row.map signD)) M
theorem ok_l_signs {f:Addr} {fd:FuncData} (F:Fun K "_law_signs" "_law_signs" s_l_signs f fd) (T:Txt mg) (g_l_most:FnD P w K mg base "_law_most" 1 3 S_l_most):FnOk P w K mg base CX0 2 f fd ["_law_xs","_law_arcs","_law_marks","_law_order","_law_goal"] (spD K 5 S_l_signs):=by
 have nd:=sc_l_signs.nd
 refine F.okQ rfl sc_l_signs (fun cdv A outer s H E hr => ⟨_,(q_scons (q_set (i:=5) nd rfl (Or.inl rfl) (q_lstO q_nil))
   (q_hid (q_scons (q_for PassesOwn.never rfl (qi_any (q_var 2)) (g_name (i:=6) nd rfl (Or.inr rfl)) (q_sone (q_expr (q_ext (q_var 5) (q_lc (ms:=[false,false,false,true,false,false,true,false,false,false,false,false]) (extra:=[]) (compSc_of rfl (show compOkB (defScope s_l_signs) n_l_signs _ _ = true from by decide +kernel)) rfl (qi_any (q_var 2)) (ga_name (i:=7) (show (n_l_signs ++ _).Nodup from by decide +kernel) rfl rfl) (fun _ _ _ _ => (qi_one (q_tval (qc g_l_most (hr.mono (by decide)) rfl (q_cons (q_var 3) (q_cons (q_var 6) (q_cons (q_var 7) q_nil))))))) (fun _ _ _ _ => (q_tup (q_cons (q_var 6) (q_cons (q_var 7) q_nil)))))))))
   (q_hid (q_froze 5 (q_scons (q_set (i:=8) nd rfl (Or.inl rfl) (q_mulO (q_lst (q_cons (q_tup (q_cons q_str (q_cons q_int q_nil))) q_nil)) (q_op o_mulE q_int (q_callB c_len rfl T.b_len (by kernel_rfl) (q_cons (q_var 1) q_nil)))))
   (q_hid (q_scons (q_for PassesOwn.never rfl (qi_rng1 rfl T.b_range (q_cons (q_callB c_len rfl T.b_len (by kernel_rfl) (q_cons (q_var 1) q_nil)) q_nil)) (g_name (i:=9) nd rfl (Or.inl rfl)) (q_scons (q_set (i:=10) nd rfl (Or.inl rfl) (q_op o_sub (q_op o_mod (q_ix o_ix (q_var 0) (q_op o_mulE q_int (q_var 9)) (fun _ _ => rfl)) q_int) q_int))
   (q_hid (q_scons (q_asg (q_ix o_ix (q_var 5) (q_op o_mod (q_ix o_ix (q_var 0) (q_op o_add (q_op o_mulE q_int (q_var 9)) q_int) (fun _ _ => rfl)) (q_callB c_len rfl T.b_len (by kernel_rfl) (q_cons (q_var 5) q_nil))) (fun _ _ => rfl)) (g_tup rfl (g_cons (g_name (i:=6) nd rfl (Or.inr rfl)) (g_cons (g_name (i:=7) nd rfl (Or.inl rfl)) g_nil))))
   (q_hid (q_scons (q_ifS (q_tcmp (o_eq hr.units) (q_op o_mod (q_var 10) q_int) q_int (by first | exact nobehind _ (by decide) (by decide) | rfl)) (q_hid (q_sone (q_asg (q_tup (q_cons (q_var 7) (q_cons (q_var 6) q_nil))) (g_tup rfl (g_cons (g_name (i:=6) nd rfl (Or.inr rfl)) (g_cons (g_name (i:=7) nd rfl (Or.inl rfl)) g_nil)))))) q_snil)
   (q_hid (q_scons (q_ifS (q_tcmp (o_eq hr.units) (q_ix o_ix (q_ix o_ix (q_var 1) (q_var 9) (fun _ _ => rfl)) q_int (fun _ _ => rfl)) (q_op o_sub (q_op o_mulE q_int (q_callB c_len rfl T.b_len (by kernel_rfl) (q_cons (q_var 1) q_nil))) q_int) (by first | exact nobehind _ (by decide) (by decide) | rfl)) (q_hid (q_scons (q_set (i:=10) nd rfl (Or.inl rfl) q_int)
   (q_hid (q_scons (q_setLc (i:=11) nd rfl rfl rfl (ms:=[false,false,false,false,true,false,false,false,false,false,false,false]) (extra:=["_law_pair"]) (compSc_of rfl (show compOkB (defScope s_l_signs) n_l_signs _ _ = true from by decide +kernel)) rfl (qi_any (q_var 5)) (ga_name (i:=12) (show (n_l_signs ++ _).Nodup from by decide +kernel) rfl rfl) (fun _ _ _ _ => (qi_one (q_tcmp (o_eq hr.units) (q_ix o_ix (q_var 12) q_int (fun _ _ => rfl)) (q_var 4) (by first | exact nobehind _ (by decide) (by decide) | rfl)))) (fun _ _ _ _ => (q_ix o_ix (q_var 12) q_int (fun _ _ => rfl))))
   (q_hid (q_sone (q_asg (q_tup (q_cons (q_ix o_ix (q_var 11) (q_op o_mod (q_ix o_ix (q_var 0) (q_op o_add (q_op o_mulE q_int (q_var 9)) q_int) (fun _ _ => rfl)) (q_callB c_len rfl T.b_len (by kernel_rfl) (q_cons (q_var 11) q_nil))) (fun _ _ => rfl)) (q_cons (q_var 4) q_nil))) (g_tup rfl (g_cons (g_name (i:=6) nd rfl (Or.inr rfl)) (g_cons (g_name (i:=7) nd rfl (Or.inl rfl)) g_nil)))))))))) q_snil)
   (q_hid (q_scons (q_put (q_var 8) (q_ix o_ix (q_ix o_ix (q_var 1) (q_var 9) (fun _ _ => rfl)) q_int (fun _ _ => rfl)) (q_tup (q_cons (q_var 6) (q_cons (q_var 10) q_nil))))
   (q_hid (q_sone (q_put (q_var 8) (q_ix o_ix (q_ix o_ix (q_var 1) (q_var 9) (fun _ _ => rfl)) q_int (fun _ _ => rfl)) (q_tup (q_cons (q_var 7) (q_cons (q_op o_add (q_var 10) q_int) q_nil))))))))))))))))
   (q_hid (q_froze 8 (q_sone (q_retG (q_var 8))))))))))))),fun ds M R hl hS => ?_⟩)
 obtain ⟨xs,arcs,ms,ord,goal,rfl,hx,ha1,ha6,hG,hms,hgo,ho,k⟩:=hS
 walk_at "rd"
 refine ⟨sz3 0,fun p hp => dHid_of ?_⟩
 walk_at "rd"
 intro hz
 refine forRun_by (fun i Δ M' => ∃ (near:List (Str × Str)) (x6 x7:Option D),Δ = [some (D.lst (xs.map D.int)),some (D.lst (arcs.map stD)),some (D.lst (ms.map D.str)),some (D.tup (ord.map pairD)),some (D.str goal),some (D.ref p),x6,x7,none,none,none,none] ∧ M' = updM M p (.lst (near.map pairD)) ∧ near.length ≤ 10 * i ∧ (∀ y ∈ near,Reach ord y.1 y.2) ∧ ∀ y ∈ ms.take i,(y,y) ∈ near) ⟨[],none,none,rfl,rfl,Nat.zero_le _,fun _ h => (by cases h),fun _ h => (by cases h)⟩ ?_ ?_
 ·rintro i d Δ M' X hd ⟨near,x6,x7,rfl,rfl,hnl,hnr,hnm⟩ k'
  obtain ⟨m,hm,rfl⟩:=map_get hd
  refine ⟨_,rfl,?_⟩
  walk_at "rd"
  refine fun hz2 => ⟨hz2,?_⟩
  refine lcRun_map D.str (fun o => rB ord m o) (fun o => pairD (m,o)) (fun Δ => ∃ x,Δ = [none,none,none,some (D.tup (ord.map pairD)),none,none,some (D.str m),x,none,none,none,none]) ms _ _ (fun o hom Δ hΔ => ?_) ⟨none,rfl⟩ ?_
  ·obtain ⟨x,rfl⟩:=hΔ
   refine ⟨_,rfl,⟨_,rfl⟩,fun Q1 q => ?_,fun _ Q2 q => ?_⟩
   ·walk_at "rd"
    exact ⟨ord,m,o,rfl,ho,_,rfl,q⟩
   ·walk_at "rd"
    exact ⟨sz3 2,q⟩
  rw [List.nil_append]
  have hfl:(ms.filter fun o => rB ord m o).length ≤ 10:=Nat.le_trans (List.length_filter_le _ _) hms
  have hi:i < ms.length:=(List.getElem?_eq_some_iff.mp hm).1
  refine ⟨_,updM_same,by rw [List.length_map,List.length_map]; exact sz3 _ (by omega),?_⟩
  rw [updM_upd]
  refine k' _ _ ⟨near ++ (ms.filter fun o => rB ord m o).map (fun o => (m,o)),_,_,rfl,by rw [List.map_append,List.map_map]; rfl,by rw [List.length_append,List.length_map]; omega,fun y hy => ?_,fun y hy => ?_⟩
  ·rcases List.mem_append.mp hy with z | z
   ·exact hnr y z
   ·obtain ⟨o,hof,rfl⟩:=List.mem_map.mp z
    exact rB_iff.mp (List.mem_filter.mp hof).2
  ·rw [List.take_add_one,hm] at hy
   rcases List.mem_append.mp hy with z | z
   ·exact List.mem_append_left _ (hnm y z)
   ·obtain rfl:y = m:=by simpa using z
    refine List.mem_append_right _ (List.mem_map.mpr ⟨y,List.mem_filter.mpr ⟨List.mem_of_getElem? hm,rB_iff.mpr Reach.refl⟩,rfl⟩)
 ·rintro Δ M' ⟨near,x6,x7,rfl,rfl,hnl,hnr,hnm⟩
  rw [List.length_map,List.take_of_length_le (Nat.le_refl _)] at hnm
  rw [List.length_map] at hnl
  refine dHid_of ?_
  walk_at "rd"
  rw [delM_upd hp,List.length_map,show (2 * (arcs.length:Int)).toNat = 2 * arcs.length by omega]
  refine ⟨sz3 2,sz3 1,by omega,by omega,sz3 _ (by omega),fun q hq => dHid_of ?_⟩
  rw [show (List.replicate (2 * arcs.length) [D.tup [D.str (Str.ofString ""),D.int 0]]).flatten = (List.replicate (2 * arcs.length) ((Str.ofString "":Str),(0:Int))).map signD by rw [List.map_replicate,List.flatten_replicate_singleton]; rfl]
  walk_at "rd"
  rw [List.length_map,Int.toNat_natCast]
  refine ⟨by omega,by omega,?_⟩
  refine forRun_by (fun i Δ M' => ∃ (row:Row) (x6 x7 x9 x10 x11:Option D),Δ = [some (D.lst (xs.map D.int)),some (D.lst (arcs.map stD)),some (D.lst (ms.map D.str)),some (D.tup (ord.map pairD)),some (D.str goal),some (D.lst (near.map pairD)),x6,x7,some (D.ref q),x9,x10,x11] ∧ M' = updM M q (.lst (row.map signD)) ∧ row.length = 2 * arcs.length ∧ ∀ a ∈ arcs.take i,cB ord (sg row a.1) (sg row a.2) = true ∧ (a.2 = 2 * arcs.length - 1 → sg row a.2 = (goal,1))) ⟨_,_,_,_,_,_,rfl,rfl,by simp,fun a h => (by cases h)⟩ ?_ ?_
  ·rintro i d Δ M' X hd ⟨row,x6,x7,x9,x10,x11,rfl,rfl,hrl,hrow⟩ k'
   obtain ⟨hi,rfl⟩:=rngD_get hd
   refine ⟨_,rfl,?_⟩
   rw [Int.zero_add]
   obtain ⟨xa,hxa⟩:∃ xa,xs[2 * i]? = some xa:=⟨_,List.getElem?_eq_getElem (by omega)⟩
   obtain ⟨xb,hxb⟩:∃ xb,xs[2 * i + 1]? = some xb:=⟨_,List.getElem?_eq_getElem (by omega)⟩
   have ea:atI (xs.map D.int) (2 * (i:Int)) = some (.int xa):=by
    rw [show (2 * (i:Int)) = ((2 * i:Nat):Int) by omega]
    exact atI_nat (by rw [List.getElem?_map,hxa]; rfl)
   have eb:atI (xs.map D.int) (2 * (i:Int) + 1) = some (.int xb):=by
    rw [show (2 * (i:Int) + 1) = ((2 * i + 1:Nat):Int) by omega]
    exact atI_nat (by rw [List.getElem?_map,hxb]; rfl)
   walk_at "rd"
   refine ⟨_,ea,?_⟩
   walk_at "rd"
   refine dHid_of ?_
   walk_at "rd"
   refine ⟨_,eb,?_⟩
   walk_at "rd"
   have hnear:0 < near.length:=List.length_pos_iff.mpr (List.ne_nil_of_mem (hnm goal hgo))
   obtain ⟨v,hv,ev⟩:=mod_ix hnear xb
   rw [List.length_map]
   refine ⟨_,if_pos (by omega),?_⟩
   walk_at "rd"
   rw [ev]
   refine ⟨_,atI_nat (by rw [List.getElem?_map,List.getElem?_eq_getElem hv]; rfl),?_⟩
   have hnv:=hnr near[v] (List.getElem_mem _)
   generalize near[v] = y at hnv
   obtain ⟨y1,y2⟩:=y
   simp only [pairD,gdTup,gdCons,gdName,gdNil,Option.bind_some]
   refine ⟨_,if_pos rfl,?_⟩
   obtain ⟨a,haa⟩:∃ a,arcs[i]? = some a:=⟨_,List.getElem?_eq_getElem hi⟩
   have ham:=List.mem_of_getElem? haa
   have hga:=hG.arc a ham
   have ata:atI (arcs.map stD) (i:Int) = some (stD a):=atI_nat (by rw [List.getElem?_map,haa]; rfl)
   refine dHid_of (seq_by (fun Δ' M' => ∃ (o1 o2:Str),Δ' = [some (D.lst (xs.map D.int)),some (D.lst (arcs.map stD)),some (D.lst (ms.map D.str)),some (D.tup (ord.map pairD)),some (D.str goal),some (D.lst (near.map pairD)),some (D.str o1),some (D.str o2),some (D.ref q),some (D.int (i:Int)),some (D.int (xa % 5 - 2)),x11] ∧ M' = updM M q (.lst (row.map signD)) ∧ lB ord (xa % 5 - 2) o1 o2 = true) (fun nx knx => ?_) ?_)
   ·walk_at "rd"
    refine ite2 (fun c1 => dHid_of ?_) (fun c1 => knx _ _ ⟨y1,y2,rfl,rfl,?_⟩)
    ·walk_at "rd"
     refine ⟨sz3 2,?_⟩
     simp only [gdTup,gdCons,gdName,gdNil,Option.bind_some]
     refine ⟨_,if_pos rfl,knx _ _ ⟨y2,y1,rfl,rfl,?_⟩⟩
     rw [lB_odd (by have:=beq_iff_eq.mp c1; omega)]
     exact rB_iff.mpr hnv
    ·rw [lB_even (by have:=(show ¬ (xa % 5 - 2) % 2 = 1 from fun e => c1 (by rw [e]; rfl)); omega)]
     exact rB_iff.mpr hnv
   rintro Δ' M' ⟨o1,o2,rfl,rfl,hlb⟩
   refine dHid_of (seq_by (fun Δ' M' => ∃ (o1 o2:Str) (t:Int) (x11:Option D),Δ' = [some (D.lst (xs.map D.int)),some (D.lst (arcs.map stD)),some (D.lst (ms.map D.str)),some (D.tup (ord.map pairD)),some (D.str goal),some (D.lst (near.map pairD)),some (D.str o1),some (D.str o2),some (D.ref q),some (D.int (i:Int)),some (D.int t),x11] ∧ M' = updM M q (.lst (row.map signD)) ∧ lB ord t o1 o2 = true ∧ (a.2 = 2 * arcs.length - 1 → (o2,t + 1) = (goal,1))) (fun nx knx => ?_) ?_)
   ·walk_at "rd"
    refine ⟨_,ata,?_⟩
    simp only [stD]
    walk_at "rd"
    rw [List.length_map]
    refine ite2 (fun c1 => dHid_of ?_) (fun c1 => knx _ _ ⟨o1,o2,_,_,rfl,rfl,hlb,fun e => absurd (by rw [e]; rw [beq_iff_eq]; omega) c1⟩)
    walk_at "rd"
    refine dHid_of ?_
    walk_at "rd"
    refine fun hz2 => ⟨hz2,?_⟩
    refine lcRun_map pairD (fun y => y.2 == goal) (fun y => D.str y.1) (fun Δ => ∃ x,Δ = [none,none,none,none,some (D.str goal),none,none,none,none,none,none,none,x]) near _ _ (fun y hy Δ hΔ => ?_) ⟨none,rfl⟩ ?_
    ·obtain ⟨x,rfl⟩:=hΔ
     refine ⟨_,rfl,⟨_,rfl⟩,fun Q1 q => ?_,fun _ Q2 q => ?_⟩
     ·simp only [pairD]
      walk_at "rd"
      exact q
     ·simp only [pairD]
      walk_at "rd"
      exact q
    rw [List.nil_append]
    have hb0:0 < (near.filter fun y => y.2 == goal).length:=List.length_pos_iff.mpr (List.ne_nil_of_mem (List.mem_filter.mpr ⟨hnm goal hgo,beq_self_eq_true goal⟩))
    have hbl:∀ y ∈ near.filter (fun y => y.2 == goal),Reach ord y.1 goal:=fun y hy => by
     have h1:=List.mem_filter.mp hy
     have h2:=hnr y h1.1
     rw [beq_iff_eq.mp h1.2] at h2
     exact h2
    generalize near.filter (fun y => y.2 == goal) = bl at hb0 hbl
    refine dHid_of ?_
    walk_at "rd"
    refine ⟨_,eb,?_⟩
    walk_at "rd"
    obtain ⟨v,hv,ev⟩:=mod_ix hb0 xb
    rw [List.length_map]
    refine ⟨_,if_pos (by omega),?_⟩
    walk_at "rd"
    rw [ev]
    refine ⟨_,atI_nat (by rw [List.getElem?_map,List.getElem?_eq_getElem hv]; rfl),?_⟩
    refine ⟨sz3 2,?_⟩
    simp only [gdTup,gdCons,gdName,gdNil,Option.bind_some]
    refine ⟨_,if_pos rfl,knx _ _ ⟨bl[v].1,goal,0,_,rfl,rfl,?_,fun _ => rfl⟩⟩
    rw [lB_even (by decide)]
    exact rB_iff.mpr (hbl _ (List.getElem_mem _))
   rintro Δ' M' ⟨o1,o2,t,y11,rfl,rfl,hlb,hlast⟩
   refine dHid_of ?_
   walk_at "rd"
   refine ⟨sz3 2,_,ata,?_⟩
   simp only [stD]
   walk_at "rd"
   rw [List.length_map]
   refine ⟨_,ixN_nat (by omega:a.1 < row.length),dHid_of ?_⟩
   walk_at "rd"
   refine ⟨sz3 2,_,ata,?_⟩
   simp only [stD]
   walk_at "rd"
   rw [List.length_set,List.length_map]
   refine ⟨_,ixN_nat (by omega:a.2 < row.length),?_⟩
   have e5:((row.map signD).set a.1 (D.tup [D.str o1,D.int t])).set a.2 (D.tup [D.str o2,D.int (t + 1)]) = ((row.set a.1 (o1,t)).set a.2 (o2,t + 1)).map signD:=by
    rw [List.map_set,List.map_set]; rfl
   rw [e5]
   refine k' _ _ ⟨_,_,_,_,_,_,rfl,rfl,by rw [List.length_set,List.length_set]; exact hrl,fun b hb => ?_⟩
   rw [List.take_add_one,haa] at hb
   have hsg1:sg ((row.set a.1 (o1,t)).set a.2 (o2,t + 1)) a.1 = (o1,t):=by
    rw [sg_set_ne (by omega),sg_set (by omega)]
   have hsg2:sg ((row.set a.1 (o1,t)).set a.2 (o2,t + 1)) a.2 = (o2,t + 1):=sg_set (by rw [List.length_set]; omega)
   rcases List.mem_append.mp hb with z | z
   ·have hba:Apart b a:=by
     obtain ⟨j,hj,rfl⟩:=List.mem_iff_getElem.mp z
     rw [List.length_take] at hj
     rw [List.getElem_take]
     have:=List.pairwise_iff_getElem.mp (geo_apart hG) j i (by omega) hi (by omega)
     rw [List.getElem?_eq_getElem hi] at haa
     cases haa
     exact this
    unfold Apart at hba
    rw [sg_set_ne (by omega),sg_set_ne (by omega),sg_set_ne (by omega),sg_set_ne (by omega)]
    exact hrow b z
   ·obtain rfl:b = a:=by simpa using z
    rw [hsg1,hsg2]
    refine ⟨?_,hlast⟩
    simp only [cB,hlb,Bool.and_true,beq_self_eq_true]
  ·rintro Δ M' ⟨row,x6,x7,x9,x10,x11,rfl,rfl,hrl,hrow⟩
   refine dHid_of ?_
   walk_at "rd"
   rw [delM_upd hq]
   refine ⟨M,fun a o e => e,k row hrl (fun a ha => ?_) ?_⟩
   ·rw [rngD_len,List.take_of_length_le (Nat.le_refl _)] at hrow
    exact (hrow a ha).1
   ·rw [rngD_len,List.take_of_length_le (Nat.le_refl _)] at hrow
    have hin:((2 * arcs.length - 1:Nat):Int) ∈ ends arcs:=by
     have e:=hG.ends
     have:((2 * arcs.length - 1:Nat):Int) ∈ sortI (ends arcs):=by
      rw [e]
      exact List.mem_map.mpr ⟨2 * arcs.length - 1,List.mem_range.mpr (by omega),by omega⟩
     exact (sortI_perm _).mem_iff.mp this
    obtain ⟨a,ha,ea⟩:=ends_mem.mp hin
    have hga:=hG.arc a ha
    have e2:a.2 = 2 * arcs.length - 1:=by omega
    rw [← e2]
    exact (hrow a ha).2 e2
noncomputable def S_l_cut:SpD:=fun ds M R => ∃ (xs:List Int) (row:Row),ds = [.lst (xs.map D.int),.lst (row.map signD)] ∧ 8 ≤ xs.length ∧ (∀ x ∈ xs,0 ≤ x ∧ x < 720720) ∧ row.length ≤ 11 ∧ ∀ cuts:List Row,cuts.flatten = row → cuts.length ≤ 8 → R (.lst (cuts.map kindD)) M
theorem ok_l_cut {f:Addr} {fd:FuncData} (F:Fun K "_law_cut" "_law_cut" s_l_cut f fd) (T:Txt mg) :FnOk P w K mg base CX0 1 f fd ["_law_xs","_law_signs_here"] (spD K 2 S_l_cut):=by
 have nd:=sc_l_cut.nd
 refine F.okQ rfl sc_l_cut (fun cdv A outer s H E hr => ⟨_,(q_scons (q_set (i:=2) nd rfl (Or.inl rfl) (q_lstO q_nil))
   (q_scons (q_set (i:=3) nd rfl (Or.inl rfl) (q_callTy c_list rfl T.b_list (by kernel_rfl) (q_cons (q_var 1) q_nil)))
   (q_hid (q_scons (q_while PassesOwn.never (q_tcmp (o_ne hr.units) (q_var 3) (q_lst q_nil) (by first | exact nobehind _ (by decide) (by decide) | rfl)) (q_scons (q_set (i:=4) nd rfl (Or.inl rfl) (q_callB (c_max rfl) rfl T.b_max (by kernel_rfl) (q_cons (q_op o_add q_int (q_op o_mod (q_ix o_ix (q_var 0) (q_callB c_len rfl T.b_len (by kernel_rfl) (q_cons (q_var 2) q_nil)) (fun _ _ => rfl)) q_int)) (q_cons (q_op o_fdiv (q_op o_sub (q_op o_add (q_callB c_len rfl T.b_len (by kernel_rfl) (q_cons (q_var 3) q_nil)) q_int) (q_callB c_len rfl T.b_len (by kernel_rfl) (q_cons (q_var 2) q_nil))) (q_op o_sub q_int (q_callB c_len rfl T.b_len (by kernel_rfl) (q_cons (q_var 2) q_nil)))) q_nil))))
   (q_hid (q_scons (q_ifS (q_pw (q_tand (q_tcmp o_lt (q_callB c_len rfl T.b_len (by kernel_rfl) (q_cons (q_var 2) q_nil)) q_int (by first | exact nobehind _ (by decide) (by decide) | rfl)) (q_tand1 (q_tcmp (o_eq hr.units) (q_op o_mod (q_ix o_ix (q_var 0) (q_callB c_len rfl T.b_len (by kernel_rfl) (q_cons (q_var 2) q_nil)) (fun _ _ => rfl)) q_int) q_int (by first | exact nobehind _ (by decide) (by decide) | rfl))))) (q_sone (q_set (i:=4) nd rfl (Or.inl rfl) q_int)) q_snil)
   (q_hid (q_scons (q_expr (q_app (q_var 2) (q_callTy c_tuple rfl T.b_tuple (by kernel_rfl) (q_cons (q_sliceE (q_var 3) qo_none (qo_some (q_var 4))) q_nil))))
   (q_hid (q_sone (q_set (i:=3) nd rfl (Or.inl rfl) (q_sliceE (q_var 3) (qo_some (q_var 4)) qo_none))))))))))
   (q_hid (q_sone (q_retF (q_var 2)))))))),fun ds M R hl hS => ?_⟩)
 obtain ⟨xs,row,rfl,hx,hxb,hl,k⟩:=hS
 walk_at "rd"
 refine ⟨sz3 0,fun p hp => ?_⟩
 refine ⟨_,rfl,dHid_of ?_⟩
 walk_at "rd"
 refine ⟨fun m Δ M' => ∃ (cuts:List Row) (left:Row) (x4:Option D),Δ = [some (D.lst (xs.map D.int)),some (D.lst (row.map signD)),some (D.ref p),some (D.lst (left.map signD)),x4] ∧ M' = updM M p (.lst (cuts.map kindD)) ∧ cuts.flatten ++ left = row ∧ (left ≠ [] → cuts.length ≤ 7) ∧ cuts.length ≤ 8 ∧ m = 8 - cuts.length,⟨8,[],row,none,rfl,rfl,rfl,fun _ => by decide,by decide,rfl⟩,?_⟩
 rintro m Δ M' ⟨cuts,left,x4,rfl,rfl,hfl,h7,h8,rfl⟩
 walk_at "rd"
 refine ⟨sz3 0,_,neSigns (b:=[]),_,rfl,ite2 (fun c1 => ?_) (fun c1 => ?_)⟩
 ·have hne:left ≠ []:=by simpa using c1
  have hc7:=h7 hne
  have hlr:left.length ≤ 11:=by
   have:=congrArg List.length hfl
   rw [List.length_append] at this
   omega
  obtain ⟨x,hx'⟩:∃ x,xs[cuts.length]? = some x:=⟨_,List.getElem?_eq_getElem (by omega)⟩
  have hxv:=hxb x (List.mem_of_getElem? hx')
  have atc:atI (xs.map D.int) (cuts.length:Int) = some (.int x):=atI_nat (by rw [List.getElem?_map,hx']; rfl)
  rw [List.length_map]
  refine ⟨_,atc,?_⟩
  walk_at "rd"
  have hcl:(cuts.length:Int) ≤ 7:=by omega
  have hcd:CDiv ((left.length:Int) + 7 - cuts.length) (8 - cuts.length):=⟨by omega,by omega⟩
  rw [List.length_map]
  refine ⟨_,if_pos hcd,?_⟩
  walk_at "rd"
  obtain ⟨sz,hsz,h77⟩:∃ sz:Nat,(if ((left.length:Int) + 7 - cuts.length) / (8 - cuts.length) > 1 + x % 5 then ((left.length:Int) + 7 - cuts.length) / (8 - cuts.length) else 1 + x % 5) = (sz:Int) ∧ (cuts.length = 7 → left.length ≤ sz):=by
   have h0:0 ≤ ((left.length:Int) + 7 - cuts.length) / (8 - cuts.length):=Int.ediv_nonneg (by omega) (by omega)
   have h1:cuts.length = 7 → ((left.length:Int) + 7 - cuts.length) / (8 - cuts.length) = left.length:=fun e => by
    rw [e,show (left.length:Int) + 7 - ((7:Nat):Int) = left.length by omega,show (8:Int) - ((7:Nat):Int) = 1 by omega,Int.ediv_one]
   generalize ((left.length:Int) + 7 - cuts.length) / (8 - cuts.length) = z at h0 h1
   by_cases g:z > 1 + x % 5
   ·rw [if_pos g]
    exact ⟨z.toNat,by omega,fun e => by have:=h1 e; omega⟩
   ·rw [if_neg g]
    exact ⟨(1 + x % 5).toNat,by omega,fun e => by have:=h1 e; omega⟩
  rw [hsz]
  refine dHid_of (seq_by (fun Δ' M' => ∃ sz:Nat,Δ' = [some (D.lst (xs.map D.int)),some (D.lst (row.map signD)),some (D.ref p),some (D.lst (left.map signD)),some (D.int (sz:Int))] ∧ M' = updM M p (.lst (cuts.map kindD)) ∧ (cuts.length = 7 → left.length ≤ sz)) (fun nx knx => ?_) ?_)
  ·walk_at "rd"
   rw [List.length_map]
   refine ite2 (fun c2 => ?_) (fun c2 => knx _ _ ⟨sz,rfl,rfl,h77⟩)
   refine ⟨_,atc,?_⟩
   walk_at "rd"
   exact ite2 (fun c3 => knx _ _ ⟨0,rfl,rfl,fun e => absurd c2 (by omega)⟩) (fun c3 => knx _ _ ⟨sz,rfl,rfl,h77⟩)
  rintro Δ' M' ⟨sz',rfl,rfl,h77'⟩
  refine dHid_of ?_
  walk_at "rd"
  rw [cut_to,← List.map_take]
  refine ⟨by rw [List.length_map]; exact Nat.lt_of_lt_of_le (by omega:cuts.length < 1000) (sz3 1000),dHid_of ?_⟩
  walk_at "rd"
  rw [cut_from,← List.map_drop]
  refine ⟨8 - (cuts ++ [left.take sz']).length,by rw [List.length_append]; simp; omega,cuts ++ [left.take sz'],left.drop sz',some (D.int (sz':Int)),⟨rfl,rfl⟩,by rw [List.map_append]; rfl,?_,fun hne' => ?_,by rw [List.length_append]; simp; omega,rfl⟩
  ·rw [List.flatten_append,List.append_assoc]
   simp only [List.flatten_cons,List.flatten_nil,List.append_nil]
   rw [List.take_append_drop]
   exact hfl
  ·rw [List.length_append]
   simp only [List.length_cons,List.length_nil]
   by_cases e:cuts.length = 7
   ·exact absurd (List.drop_of_length_le (h77' e)) hne'
   ·omega
 ·have hnil:left = []:=by simpa using c1
  refine dHid_of ?_
  walk_at "rd"
  rw [delM_upd hp]
  refine k cuts ?_ h8
  rw [hnil,List.append_nil] at hfl
  exact hfl
noncomputable def S_l_kinds:SpD:=fun ds M R => ∃ (kd:Row) (xs:List Int) (ms:List Str),ds = [kindD kd,.lst (xs.map D.int),.lst (ms.map D.str)] ∧ 5 ≤ xs.length ∧ (∀ x ∈ xs,0 ≤ x ∧ x < 720720) ∧ 0 < ms.length ∧ ms.length ≤ 10 ∧ kd.length ≤ 11 ∧ ∀ ks:List Row,kd ∈ ks → ks.length ≤ 2 → (∀ r ∈ ks,r.length ≤ 11) → R (kindsD ks) M
theorem ok_l_kinds {f:Addr} {fd:FuncData} (F:Fun K "_law_kinds" "_law_kinds" s_l_kinds f fd) (T:Txt mg) :FnOk P w K mg base CX0 1 f fd ["_law_kind","_law_xs","_law_marks"] (spD K 3 S_l_kinds):=by
 have nd:=sc_l_kinds.nd
 refine F.okQ rfl sc_l_kinds (fun cdv A outer s H E hr => ⟨_,(q_scons (q_set (i:=3) nd rfl (Or.inl rfl) (q_tup (q_cons (q_var 0) q_nil)))
   (q_hid (q_scons (q_ifS (q_tcmp (o_eq hr.units) (q_op o_mod (q_ix o_ix (q_var 1) q_int (fun _ _ => rfl)) q_int) q_int (by first | exact nobehind _ (by decide) (by decide) | rfl)) (q_hid (q_scons (q_setLc (i:=4) nd rfl rfl rfl (ms:=[false,false,true,false,false]) (extra:=["_law_x"]) (compSc_of rfl (show compOkB (defScope s_l_kinds) n_l_kinds _ _ = true from by decide +kernel)) rfl (qi_any (q_sliceE (q_var 1) (qo_some q_int) (qo_some q_int))) (ga_name (i:=5) (show (n_l_kinds ++ _).Nodup from by decide +kernel) rfl rfl) (fun _ _ _ _ => qi_nil) (fun _ _ _ _ => (q_tup (q_cons (q_ix o_ix (q_var 2) (q_op o_mod (q_var 5) (q_callB c_len rfl T.b_len (by kernel_rfl) (q_cons (q_var 2) q_nil))) (fun _ _ => rfl)) (q_cons (q_op o_sub (q_op o_mod (q_op o_fdiv (q_var 5) q_int) q_int) q_int) q_nil)))))
   (q_hid (q_scons (q_set (i:=4) nd rfl (Or.inl rfl) (q_callTy c_tuple rfl T.b_tuple (by kernel_rfl) (q_cons (q_sliceE (q_var 4) qo_none (qo_some (q_op o_mod (q_ix o_ix (q_var 1) q_int (fun _ _ => rfl)) q_int))) q_nil)))
   (q_hid (q_sone (q_ifS (q_pw (q_tand (q_tcmp (o_ne hr.units) (q_var 4) (q_var 0) (by first | exact nobehind _ (by decide) (by decide) | rfl)) (q_tand1 (q_tcmp (o_eq hr.units) (q_op o_mod (q_ix o_ix (q_var 1) q_int (fun _ _ => rfl)) q_int) q_int (by first | exact nobehind _ (by decide) (by decide) | rfl))))) (q_sone (q_set (i:=3) nd rfl (Or.inl rfl) (q_tup (q_cons (q_var 4) (q_cons (q_var 0) q_nil))))) (q_sone (q_ifS (q_tcmp (o_ne hr.units) (q_var 4) (q_var 0) (by first | exact nobehind _ (by decide) (by decide) | rfl)) (q_sone (q_set (i:=3) nd rfl (Or.inl rfl) (q_tup (q_cons (q_var 0) (q_cons (q_var 4) q_nil))))) q_snil))))))))) q_snil)
   (q_hid (q_sone (q_ret (q_var 3))))))),fun ds M R hl hS => ?_⟩)
 obtain ⟨kd,xs,ms,rfl,hx,hxb,hm0,hm,hk,k⟩:=hS
 simp only [kindD]
 walk_at "rd"
 refine ⟨sz3 1,dHid_of ?_⟩
 walk_at "rd"
 obtain ⟨x0,hx0⟩:∃ x,xs[0]? = some x:=⟨_,List.getElem?_eq_getElem (by omega)⟩
 have at0:atI (xs.map D.int) 0 = some (.int x0):=atI_nat (j:=0) (by rw [List.getElem?_map,hx0]; rfl)
 refine ⟨_,at0,?_⟩
 walk_at "rd"
 have fin1:R (kindsD [kd]) M:=k [kd] (by simp) (by simp) (by simpa using hk)
 refine ite2 (fun c1 => dHid_of ?_) (fun c1 => dHid_of ?_)
 ·walk_at "rd"
  obtain ⟨ys,hys,hyl,hym⟩:=cut_in (xs:=xs) (lo:=some 2) (hi:=some 4)
  rw [hys]
  refine fun hz => ⟨hz,?_⟩
  refine lcRun_map D.int (fun _ => true) (fun x => signD (ms.getD (x % (ms.length:Int)).toNat "",x / 8 % 5 - 2)) (fun Δ => ∃ x,Δ = [none,none,some (D.lst (ms.map D.str)),none,none,x]) ys _ _ (fun x hx' Δ hΔ => ?_) ⟨none,rfl⟩ ?_
  ·obtain ⟨x1,rfl⟩:=hΔ
   refine ⟨_,rfl,⟨_,rfl⟩,fun Q1 q => q,fun _ Q2 q => ?_⟩
   obtain ⟨v,hv,ev⟩:=mod_ix hm0 x
   walk_at "rd"
   rw [List.length_map]
   refine ⟨_,if_pos (by omega),?_⟩
   walk_at "rd"
   rw [ev]
   refine ⟨_,atI_nat (by rw [List.getElem?_map,List.getElem?_eq_getElem hv]; rfl),?_⟩
   refine ⟨sz3 2,?_⟩
   rw [ev,Int.toNat_natCast] at q
   simp only [List.getD_eq_getElem?_getD,List.getElem?_eq_getElem hv,Option.getD_some] at q
   exact q
  rw [List.nil_append,List.filter_eq_self.mpr (fun _ _ => rfl)]
  generalize hrs:(ys.map fun x => (ms.getD (x % (ms.length:Int)).toNat "",x / 8 % 5 - 2)) = rs
  have e1:(ys.map fun x => signD (ms.getD (x % (ms.length:Int)).toNat "",x / 8 % 5 - 2)) = rs.map signD:=by rw [← hrs,List.map_map]; rfl
  rw [e1]
  obtain ⟨y1,hy1⟩:∃ x,xs[1]? = some x:=⟨_,List.getElem?_eq_getElem (by omega)⟩
  have at1:atI (xs.map D.int) 1 = some (.int y1):=atI_nat (j:=1) (by rw [List.getElem?_map,hy1]; rfl)
  obtain ⟨y4,hy4⟩:∃ x,xs[4]? = some x:=⟨_,List.getElem?_eq_getElem (by omega)⟩
  have at4:atI (xs.map D.int) 4 = some (.int y4):=atI_nat (j:=4) (by rw [List.getElem?_map,hy4]; rfl)
  refine dHid_of ?_
  walk_at "rd"
  refine ⟨_,at1,?_⟩
  walk_at "rd"
  obtain ⟨v3,ev3⟩:∃ v:Nat,y1 % 3 = (v:Int):=⟨(y1 % 3).toNat,by omega⟩
  rw [ev3,cut_to,← List.map_take]
  have hrl:(rs.take v3).length ≤ 11:=by
   rw [List.length_take,← hrs,List.length_map]
   have:v3 < 3:=by omega
   omega
  generalize rs.take v3 = more at hrl
  refine dHid_of ?_
  walk_at "rd"
  refine ⟨_,neKinds,_,rfl,?_⟩
  have fin2:R (kindsD [more,kd]) M:=k _ (by simp) (by simp) (by simp; exact ⟨hrl,hk⟩)
  have fin3:R (kindsD [kd,more]) M:=k _ (by simp) (by simp) (by simp; exact ⟨hk,hrl⟩)
  refine ite2 (fun c2 => ⟨_,at4,?_⟩) (fun c2 => ⟨_,neKinds,_,rfl,ite2 (fun _ => ⟨sz3 2,dHid_of ?_⟩) (fun _ => dHid_of ?_)⟩)
  ·walk_at "rd"
   refine ite2 (fun c3 => ⟨sz3 2,dHid_of ?_⟩) (fun c3 => ⟨_,neKinds,_,rfl,ite2 (fun _ => ⟨sz3 2,dHid_of ?_⟩) (fun _ => dHid_of ?_)⟩)
   ·walk_at "rd"
    exact fin2
   ·walk_at "rd"
    exact fin3
   ·walk_at "rd"
    exact fin1
  ·walk_at "rd"
   exact fin3
  ·walk_at "rd"
   exact fin1
 ·walk_at "rd"
  exact fin1

end
section
variable {P:Program} {w:World} {K:PySem.W.Frag} {mg:Str → Option Value} {base:Heap}
theorem cut_m1 {xs:List D}:L2.cutD xs none (some (-1)) = xs.dropLast:=by
 unfold L2.cutD
 rw [HT.sIx_none,List.drop_zero,Nat.sub_zero,List.dropLast_eq_take]
 congr 1
 show (if (-1:Int) < 0 then (-1 + (xs.length:Int)).toNat else min (-1:Int).toNat xs.length) = _
 rw [if_pos (by decide)]
 omega
theorem mem_flat {cu:Row}:∀ {cuts:List Row},cu ∈ cuts → cu.length ≤ cuts.flatten.length
 | [],h => by cases h
 | a :: l,h => by
  rw [List.flatten_cons,List.length_append]
  rcases List.mem_cons.mp h with rfl | h
  ·omega
  ·have:=mem_flat h; omega
theorem kindD_eq (x y:Row):eqD (kindD x) (kindD y) = decide (x = y):=by
 simp only [kindD,eqD]
 exact eqD_gen signD signD_eq
theorem idx_kind {ks:List Row} {cu:Row} (hl:ks.length ≤ 2) (h:cu ∈ ks):∃ j,idxD (ks.map kindD) (kindD cu) = some j ∧ ks[j]? = some cu:=by
 have h1:dLe (kindD cu) 59 = true:=(dLes_iff (n:=58)).mpr fun d hd => by
  obtain ⟨x,_,rfl⟩:=List.mem_map.mp hd
  rfl
 have h2:dLes (ks.map kindD) 59 = true:=dLes_gen kindD fun x => (dLes_iff (n:=58)).mpr fun d hd => by
  obtain ⟨y,_,rfl⟩:=List.mem_map.mp hd
  rfl
 unfold idxD
 rw [if_pos ⟨h1,h2,by rw [List.length_map]; exact Nat.lt_of_le_of_lt hl (by decide)⟩]
 clear h1 h2 hl
 induction ks with
 | nil => cases h
 | cons k l ih =>
  rw [List.map_cons,List.findIdx?_cons,kindD_eq]
  by_cases e:k = cu
  ·subst e
   exact ⟨0,by simp,rfl⟩
  ·rw [decide_eq_false e]
   have h':cu ∈ l:=by
    rcases List.mem_cons.mp h with q | q
    ·exact absurd q.symm e
    ·exact q
   obtain ⟨j,q1,q2⟩:=ih h'
   refine ⟨j + 1,?_,by rw [List.getElem?_cons_succ]; exact q2⟩
   rw [q1]; rfl
structure Plant (W:List Str) (cuts:List Row) (i:Nat) (ents:List (Str × List Row)) (ch:List Nat):Prop where
 le:ents.length = i
 lc:ch.length = i
 ws:ents.map (·.1) = W.take i
 pick:List.zipWith (fun e c => e.2.getD c []) ents ch = cuts.take i
 fit:∀ p ∈ ents.zip ch,p.2 < p.1.2.length
 small:∀ e ∈ ents,∀ r ∈ e.2,r.length ≤ 24
theorem kin_nodup:∀ {ents:List (Str × List Row)},(ents.map (·.1)).Nodup → ∀ e ∈ ents,kin ents e.1 = e.2
 | [],_,e,h => by cases h
 | (a,ks) :: l,hn,e,h => by
  rw [List.map_cons,List.nodup_cons] at hn
  rcases List.mem_cons.mp h with rfl | h
  ·simp [kin]
  ·have hne:e.1 ≠ a:=fun q => hn.1 (List.mem_map.mpr ⟨e,h,q⟩)
   have:=kin_nodup hn.2 e h
   unfold kin at *
   rw [List.lookup_cons,show (e.1 == a) = false by simpa using hne]
   exact this
theorem Plant.nod {W:List Str} {cuts:List Row} {i:Nat} {ents:List (Str × List Row)} {ch:List Nat} (h:Plant W cuts i ents ch) (hn:W.Nodup):∀ e ∈ ents,kin ents e.1 = e.2:=kin_nodup (by rw [h.ws]; exact hn.sublist (List.take_sublist _ _))
theorem zipW_congr {α β γ:Type} {f g:α → β → γ}:∀ {l:List α} {m:List β},(∀ a ∈ l,∀ b,f a b = g a b) → List.zipWith f l m = List.zipWith g l m
 | [],_,_ => by simp
 | _ :: _,[],_ => by simp
 | a :: l,b :: m,h => by rw [List.zipWith_cons_cons,List.zipWith_cons_cons,h a (.head _),zipW_congr fun x hx => h x (.tail _ hx)]
theorem Plant.row {W:List Str} {cuts:List Row} {ents:List (Str × List Row)} {ch:List Nat} (h:Plant W cuts cuts.length ents ch) (hn:W.Nodup):rowOf ents (ents.map (·.1)) ch = cuts.flatten:=by
 unfold rowOf chosen
 rw [List.zipWith_map_left,zipW_congr (g:=fun e c => e.2.getD c []) fun e he c => by rw [h.nod hn e he],h.pick,List.take_of_length_le (Nat.le_refl _)]
theorem plant_nil {W:List Str} {cuts:List Row}:Plant W cuts 0 [] []:=⟨rfl,rfl,rfl,rfl,fun _ h => (by cases h),fun _ h => (by cases h)⟩
theorem plant_snoc {W:List Str} {cuts:List Row} {i:Nat} {ents:List (Str × List Row)} {ch:List Nat} (h:Plant W cuts i ents ch) {w:Str} {ks:List Row} {cu:Row} {j:Nat} (hw:W[i]? = some w) (hc:cuts[i]? = some cu) (hj:ks[j]? = some cu) (hs:∀ r ∈ ks,r.length ≤ 11):Plant W cuts (i + 1) (ents ++ [(w,ks)]) (ch ++ [j]):=by
 have hl:ents.length = ch.length:=by rw [h.le,h.lc]
 have hjl:j < ks.length:=(List.getElem?_eq_some_iff.mp hj).1
 refine ⟨by rw [List.length_append,h.le]; rfl,by rw [List.length_append,h.lc]; rfl,by rw [List.map_append,h.ws,List.take_add_one,hw]; rfl,?_,fun p hp => ?_,fun e he r hr => ?_⟩
 ·rw [List.zipWith_append hl,h.pick,List.take_add_one,hc]
  simp [hj]
 ·rw [List.zip_append hl] at hp
  rcases List.mem_append.mp hp with q | q
  ·exact h.fit p q
  ·obtain rfl:p = ((w,ks),j):=by simpa using q
   exact hjl
 ·rcases List.mem_append.mp he with q | q
  ·exact h.small e q r hr
  ·obtain rfl:e = (w,ks):=by simpa using q
   exact Nat.le_trans (hs r hr) (by decide)
theorem mul_s {c n:Nat} (h:n ≤ 1000):mulE (.str (tx [c])) (.int (n:Int)) = some (.str (tx (List.replicate n c))):=by
 have e:mulE (.str (tx [c])) (.int (n:Int)) = if (tx [c]).length ≤ 16777216 ∧ -(2 ^ 63) ≤ (n:Int) ∧ (n:Int) ≤ 16777216 ∧ (tx [c]).length * (n:Int).toNat ≤ 16777216 then some (.str (Txt.mul (tx [c]) (n:Int))) else none:=rfl
 rw [e,if_pos (by rw [tx_len]; simp; omega),mul_one_cp]
theorem nodup_map_of {α β:Type} {f:α → β}:∀ {l:List α},(∀ a b,a ∈ l → b ∈ l → f a = f b → a = b) → l.Nodup → (l.map f).Nodup
 | [],_,_ => List.nodup_nil
 | x :: l,h,hn => by
  rw [List.map_cons,List.nodup_cons]
  obtain ⟨h1,h2⟩:=List.nodup_cons.mp hn
  refine ⟨fun m => ?_,nodup_map_of (fun a b ha hb => h a b (.tail _ ha) (.tail _ hb)) h2⟩
  obtain ⟨y,hy,e⟩:=List.mem_map.mp m
  obtain rfl:=h y x (.tail _ hy) (.head _) e
  exact h1 hy
theorem mul98:mulE (.lst [.int 720720]) (.int 98) = some (.lst ((List.replicate 98 (720720:Int)).map D.int)):=by
 have e:mulE (.lst [.int 720720]) (.int 98) = if -(2 ^ 63) ≤ (98:Int) ∧ (98:Int) < 2 ^ 63 ∧ [D.int 720720].length * (98:Int).toNat ≤ sizeLine then some (.lst (List.replicate (98:Int).toNat [D.int 720720]).flatten) else none:=rfl
 rw [e,if_pos ⟨by decide,by decide,sz3 _ (by decide)⟩]
 rfl
theorem Nums.at {n:Nat} {xs:List Int} (h:Nums n xs) {i:Int} (hi:0 ≤ i ∧ i < n):∃ x,atI (xs.map D.int) i = some (.int x) ∧ 0 ≤ x ∧ x < 720720:=by
 obtain ⟨j,rfl⟩:=Int.eq_ofNat_of_zero_le hi.1
 have hl:j < xs.length:=by rw [h.1]; omega
 exact ⟨xs[j],atI_nat (by rw [List.getElem?_map,List.getElem?_eq_getElem hl]; rfl),h.2 _ (List.getElem_mem _)⟩
theorem Nums.drop {n m:Nat} {xs:List Int} (h:Nums n xs):Nums (n - m) (xs.drop m):=⟨by rw [List.length_drop,h.1],fun x hx => h.2 x (List.mem_of_mem_drop hx)⟩
noncomputable def S_l_sentence:SpD:=fun ds M R => ∃ c:Int,ds = [.int c] ∧ ∀ (ord:List (Str × Str)) (goal:Str) (ents:List (Str × List Row)) (ws:List Str) (ch:List Nat) (arcs:List (Nat × Nat)),DrOf ord goal ents ws ch arcs → (∀ e ∈ ents,∀ r ∈ e.2,r.length ≤ 24) → ents.length ≤ 8 → R (.tup [lexD ord goal ents,.tup (ws.map .str),.tup [.tup (intsD ch),.tup (arcs.map stD)]]) M
theorem ok_l_sentence {f:Addr} {fd:FuncData} (F:Fun K "_law_sentence" "_law_sentence" s_l_sentence f fd) (T:Txt mg) (g_l_parts:FnD P w K mg base "_law_parts" 1 2 S_l_parts) (g_l_matched:FnD P w K mg base "_law_matched" 1 2 S_l_matched) (g_l_signs:FnD P w K mg base "_law_signs" 2 5 S_l_signs) (g_l_cut:FnD P w K mg base "_law_cut" 1 2 S_l_cut) (g_l_letters:FnD P w K mg base "_law_letters" 1 2 S_l_letters) (g_l_kinds:FnD P w K mg base "_law_kinds" 1 3 S_l_kinds):FnOk P w K mg base CX0 3 f fd ["_law_cell"] (spD K 1 S_l_sentence):=by
 have nd:=sc_l_sentence.nd
 refine F.okQ rfl sc_l_sentence (fun cdv A outer s H E hr => ⟨_,(q_scons (q_set (i:=1) nd rfl (Or.inr rfl) (qc g_l_parts (hr.mono (by decide)) rfl (q_cons (q_var 0) (q_cons (q_op o_mulE (q_lst (q_cons q_int q_nil)) q_int) q_nil))))
   (q_hid (q_scons (q_set (i:=2) nd rfl (Or.inr rfl) (q_sliceE (qc g_l_letters (hr.mono (by decide)) rfl (q_cons (q_var 1) (q_cons q_int q_nil))) qo_none (qo_some (q_op o_add q_int (q_op o_mod (q_ix o_ix (q_var 1) q_int (fun _ _ => rfl)) q_int)))))
   (q_hid (q_scons (q_setLc (i:=3) nd rfl rfl rfl (ms:=[false,true,false,false,false,false,false,false,false,false,false,false,false,false]) (extra:=["_law_sign"]) (compSc_of rfl (show compOkB (defScope s_l_sentence) n_l_sentence _ _ = true from by decide +kernel)) rfl (qi_any (qc g_l_letters (hr.mono (by decide)) rfl (q_cons (q_sliceE (q_var 1) (qo_some q_int) qo_none) (q_cons q_int q_nil)))) (ga_name (i:=14) (show (n_l_sentence ++ _).Nodup from by decide +kernel) rfl rfl) (fun _ _ _ _ => qi_nil) (fun _ _ _ _ => (q_op o_mulE (q_var 14) (q_op o_add q_int (q_op o_mod (q_op o_fdiv (q_ix o_ix (q_var 1) q_int (fun _ _ => rfl)) q_int) q_int)))))
   (q_hid (q_scons (q_setLc (i:=5) nd rfl rfl rfl (ms:=[false,true,true,false,false,false,false,false,false,false,false,false,false,false]) (extra:=[]) (compSc_of rfl (show compOkB (defScope s_l_sentence) n_l_sentence _ _ = true from by decide +kernel)) rfl (qi_rng1 rfl T.b_range (q_cons q_int q_nil)) (ga_name (i:=4) (show (n_l_sentence ++ _).Nodup from by decide +kernel) rfl rfl) (fun _ _ _ _ => qi_nil) (fun _ _ _ _ => (q_tup (q_cons (q_ix o_ix (q_var 2) (q_op o_mod (q_ix o_ix (q_var 1) (q_op o_add q_int (q_op o_mulE q_int (q_var 4))) (fun _ _ => rfl)) (q_callB c_len rfl T.b_len (by kernel_rfl) (q_cons (q_var 2) q_nil))) (fun _ _ => rfl)) (q_cons (q_ix o_ix (q_var 2) (q_op o_mod (q_ix o_ix (q_var 1) (q_op o_add q_int (q_op o_mulE q_int (q_var 4))) (fun _ _ => rfl)) (q_callB c_len rfl T.b_len (by kernel_rfl) (q_cons (q_var 2) q_nil))) (fun _ _ => rfl)) q_nil)))))
   (q_hid (q_scons (q_set (i:=6) nd rfl (Or.inl rfl) (q_callTy c_tuple rfl T.b_tuple (by kernel_rfl) (q_cons (q_sliceE (q_var 5) qo_none (qo_some (q_op o_mod (q_ix o_ix (q_var 1) q_int (fun _ _ => rfl)) q_int))) q_nil)))
   (q_hid (q_scons (q_set (i:=7) nd rfl (Or.inl rfl) (q_ix o_ix (q_var 2) (q_op o_mod (q_ix o_ix (q_var 1) q_int (fun _ _ => rfl)) (q_callB c_len rfl T.b_len (by kernel_rfl) (q_cons (q_var 2) q_nil))) (fun _ _ => rfl)))
   (q_hid (q_scons (q_set (i:=8) nd rfl (Or.inl rfl) (qc g_l_matched (hr.mono (by decide)) rfl (q_cons (q_sliceE (q_var 1) (qo_some q_int) qo_none) (q_cons (q_op o_add q_int (q_op o_mod (q_ix o_ix (q_var 1) q_int (fun _ _ => rfl)) q_int)) q_nil))))
   (q_hid (q_scons (q_set (i:=9) nd rfl (Or.inl rfl) (qc g_l_signs (hr.mono (by decide)) rfl (q_cons (q_sliceE (q_var 1) (qo_some q_int) qo_none) (q_cons (q_var 8) (q_cons (q_var 2) (q_cons (q_var 6) (q_cons (q_var 7) q_nil)))))))
   (q_hid (q_scons (q_set (i:=10) nd rfl (Or.inl rfl) (qc g_l_cut (hr.mono (by decide)) rfl (q_cons (q_sliceE (q_var 1) (qo_some q_int) qo_none) (q_cons (q_sliceE (q_var 9) qo_none (qo_some (q_un negU q_int))) q_nil))))
   (q_hid (q_scons (q_set (i:=11) nd rfl (Or.inl rfl) (q_lstO q_nil))
   (q_hid (q_scons (q_set (i:=12) nd rfl (Or.inl rfl) (q_lstO q_nil))
   (q_hid (q_scons (q_for PassesOwn.never rfl (qi_rng1 rfl T.b_range (q_cons (q_callB c_len rfl T.b_len (by kernel_rfl) (q_cons (q_var 10) q_nil)) q_nil)) (g_name (i:=4) nd rfl (Or.inl rfl)) (q_scons (q_set (i:=13) nd rfl (Or.inl rfl) (qc g_l_kinds (hr.mono (by decide)) rfl (q_cons (q_ix o_ix (q_var 10) (q_var 4) (fun _ _ => rfl)) (q_cons (q_sliceE (q_var 1) (qo_some (q_op o_add q_int (q_op o_mulE q_int (q_var 4)))) qo_none) (q_cons (q_var 2) q_nil)))))
   (q_hid (q_scons (q_expr (q_app (q_var 11) (q_tup (q_cons (q_ix o_ix (q_var 3) (q_var 4) (fun _ _ => rfl)) (q_cons (q_var 13) q_nil)))))
   (q_hid (q_sone (q_expr (q_app (q_var 12) (q_idxT hr.units (q_var 13) (q_ix o_ix (q_var 10) (q_var 4) (fun _ _ => rfl)))))))))))
   (q_hid (q_sone (q_retG (q_tup (q_cons (q_tup (q_cons (q_var 6) (q_cons (q_var 7) (q_cons (q_callTy c_tuple rfl T.b_tuple (by kernel_rfl) (q_cons (q_var 11) q_nil)) q_nil)))) (q_cons (q_callTy c_tuple rfl T.b_tuple (by kernel_rfl) (q_cons (q_sliceE (q_var 3) qo_none (qo_some (q_callB c_len rfl T.b_len (by kernel_rfl) (q_cons (q_var 10) q_nil)))) q_nil)) (q_cons (q_tup (q_cons (q_callTy c_tuple rfl T.b_tuple (by kernel_rfl) (q_cons (q_var 12) q_nil)) (q_cons (q_callTy c_tuple rfl T.b_tuple (by kernel_rfl) (q_cons (q_var 8) q_nil)) q_nil))) q_nil)))))))))))))))))))))))))))))),fun ds M R hl hS => ?_⟩)
 obtain ⟨c,rfl,k⟩:=hS
 walk_at "rd"
 refine ⟨sz3 1,_,mul98,c,98,rfl,by decide,fun xs hN => dHid_of ?_⟩
 have hxl:=hN.1
 have hat:=fun (i:Int) (h:0 ≤ i ∧ i < 98) => hN.at (i:=i) h
 obtain ⟨x14,a14,b14,c14⟩:=hat 14 (by decide)
 obtain ⟨x15,a15,b15,c15⟩:=hat 15 (by decide)
 obtain ⟨x16,a16,b16,c16⟩:=hat 16 (by decide)
 obtain ⟨x25,a25,b25,c25⟩:=hat 25 (by decide)
 walk_at "rd"
 refine ⟨xs,4,rfl,by omega,by decide,hN.2,fun cs hcl hcn hca => ?_⟩
 walk_at "rd"
 refine ⟨_,a15,?_⟩
 walk_at "rd"
 obtain ⟨n4,e4,l4⟩:∃ n:Nat,1 + x15 % 4 = (n:Int) ∧ 1 ≤ n ∧ n ≤ 4:=⟨(1 + x15 % 4).toNat,by omega,by omega⟩
 rw [e4,cut_to,← List.map_take]
 have hml:(cs.take n4).length = n4:=by rw [List.length_take]; omega
 have hmk:((cs.take n4).map fun c => D.str (tx [c])) = ((cs.take n4).map fun c => tx [c]).map D.str:=by rw [List.map_map]; rfl
 rw [hmk]
 obtain ⟨ms,hms⟩:∃ ms,ms = (cs.take n4).map fun c => tx [c]:=⟨_,rfl⟩
 rw [← hms]
 have hm0:0 < ms.length:=by rw [hms,List.length_map]; omega
 have hm10:ms.length ≤ 10:=by rw [hms,List.length_map]; omega
 clear hmk hms hml
 refine dHid_of ?_
 walk_at "rd"
 refine ⟨xs.drop 4,10,by rw [show ((4:Int)) = ((4:Nat):Int) from rfl,cut_from,← List.map_drop]; rfl,by rw [List.length_drop]; omega,by decide,hN.drop.2,fun cs2 h2l h2n h2a => ?_⟩
 walk_at "rd"
 obtain ⟨nw,enw,lnw⟩:∃ n:Nat,1 + x15 / 4 % 8 = (n:Int) ∧ 1 ≤ n ∧ n ≤ 8:=⟨(1 + x15 / 4 % 8).toNat,by omega,by omega⟩
 refine fun hz => ⟨hz,?_⟩
 refine lcRun_map (fun (c:Nat) => D.str (tx [c])) (fun _ => true) (fun c => D.str (tx (List.replicate nw c))) (fun Δ => ∃ x,Δ = [none,some (D.lst (xs.map D.int)),none,none,none,none,none,none,none,none,none,none,none,none,x]) cs2 _ _ (fun c' hc' Δ hΔ => ?_) ⟨none,rfl⟩ ?_
 ·obtain ⟨x,rfl⟩:=hΔ
  refine ⟨_,rfl,⟨_,rfl⟩,fun Q1 q => q,fun _ Q2 q => ?_⟩
  walk_at "rd"
  refine ⟨_,a15,?_⟩
  walk_at "rd"
  rw [enw]
  exact ⟨_,mul_s (by omega),q⟩
 rw [List.nil_append,List.filter_eq_self.mpr (fun _ _ => rfl)]
 obtain ⟨W,hW⟩:∃ W,W = cs2.map fun c => tx (List.replicate nw c):=⟨_,rfl⟩
 have hWl:W.length = 10:=by rw [hW,List.length_map,h2l]
 have hWn:W.Nodup:=by
  rw [hW]
  refine nodup_map_of (fun a b ha hb e => ?_) h2n
  have e2:=congrArg (fun z:Str => z.cps.toList) e
  simp only [tx_list] at e2
  obtain ⟨j,rfl⟩:∃ j,nw = j + 1:=⟨nw - 1,by omega⟩
  rw [List.replicate_succ,List.replicate_succ] at e2
  exact (List.cons.inj e2).1
 have hWo:∀ w ∈ W,WordOk w:=fun w hw => by
  rw [hW] at hw
  obtain ⟨c',hc',rfl⟩:=List.mem_map.mp hw
  refine ⟨by rw [tx_len,List.length_replicate]; omega,by rw [tx_len,List.length_replicate]; omega,fun d hd => ?_⟩
  rw [tx_list] at hd
  rw [List.eq_of_mem_replicate hd]
  exact h2a c' hc'
 rw [show (cs2.map fun c => D.str (tx (List.replicate nw c))) = W.map D.str by rw [hW,List.map_map]; rfl]
 clear hW
 refine dHid_of ?_
 walk_at "rd"
 refine ⟨by rw [rngD_len]; exact sz3 4,?_⟩
 refine lcRun_by (fun i acc Δ M' => ∃ (prs:List (Str × Str)) (x4:Option D),Δ = [none,some (D.lst (xs.map D.int)),some (D.lst (ms.map D.str)),none,x4,none,none,none,none,none,none,none,none,none] ∧ M' = M ∧ acc = prs.map pairD ∧ prs.length = i) ⟨[],none,rfl,rfl,rfl,rfl⟩ ?_ ?_
 ·rintro i d acc Δ M' X hd ⟨prs,x4,rfl,rfl,rfl,hpl⟩ k'
  obtain ⟨hi,rfl⟩:=rngD_get hd
  refine ⟨_,rfl,?_⟩
  rw [Int.zero_add]
  simp only [dYes,if_true]
  obtain ⟨u1,au1,_,_⟩:=hat (17 + 2 * (i:Int)) (by omega)
  obtain ⟨u2,au2,_,_⟩:=hat (18 + 2 * (i:Int)) (by omega)
  obtain ⟨v1,hv1,ev1⟩:=mod_ix hm0 u1
  obtain ⟨v2,hv2,ev2⟩:=mod_ix hm0 u2
  walk_at "rd"
  refine ⟨_,au1,?_⟩
  walk_at "rd"
  rw [List.length_map]
  refine ⟨_,if_pos (by omega),?_⟩
  walk_at "rd"
  rw [ev1]
  refine ⟨_,atI_nat (by rw [List.getElem?_map,List.getElem?_eq_getElem hv1]; rfl),?_⟩
  refine ⟨_,au2,?_⟩
  walk_at "rd"
  refine ⟨_,if_pos (by omega),?_⟩
  walk_at "rd"
  rw [ev2]
  refine ⟨_,atI_nat (by rw [List.getElem?_map,List.getElem?_eq_getElem hv2]; rfl),sz3 2,k' _ _ _ ⟨prs ++ [(ms[v1],ms[v2])],_,rfl,rfl,by rw [List.map_append]; rfl,by rw [List.length_append,hpl]; rfl⟩⟩
 rintro acc Δ M' ⟨prs,x4,rfl,rfl,rfl,hpl⟩
 rw [rngD_len] at hpl
 refine dHid_of ?_
 walk_at "rd"
 refine ⟨_,a16,?_⟩
 walk_at "rd"
 obtain ⟨n5,e5⟩:∃ n:Nat,x16 % 5 = (n:Int):=⟨(x16 % 5).toNat,by omega⟩
 rw [e5,cut_to,← List.map_take]
 have hol:(prs.take n5).length ≤ 500:=by rw [List.length_take]; omega
 generalize prs.take n5 = ord at hol
 refine dHid_of ?_
 walk_at "rd"
 refine ⟨_,a25,?_⟩
 walk_at "rd"
 rw [List.length_map]
 refine ⟨_,if_pos (by omega),?_⟩
 walk_at "rd"
 obtain ⟨vg,hvg,evg⟩:=mod_ix hm0 x25
 rw [evg]
 refine ⟨_,atI_nat (by rw [List.getElem?_map,List.getElem?_eq_getElem hvg]; rfl),?_⟩
 have hgo:ms[vg] ∈ ms:=List.getElem_mem _
 generalize ms[vg] = goal at hgo
 refine dHid_of ?_
 walk_at "rd"
 refine ⟨_,a14,?_⟩
 walk_at "rd"
 obtain ⟨n6,e6,l6⟩:∃ n:Nat,1 + x14 % 6 = (n:Int) ∧ 1 ≤ n ∧ n ≤ 6:=⟨(1 + x14 % 6).toNat,by omega,by omega⟩
 have hcf:∀ m:Nat,L2.cutD (xs.map D.int) (some (m:Int)) none = (xs.drop m).map D.int:=fun m => by rw [cut_from,List.map_drop]
 have hN26:Nums 72 (xs.drop 26):=hN.drop
 have hN38:Nums 60 (xs.drop 38):=hN.drop
 have hN50:Nums 48 (xs.drop 50):=hN.drop
 rw [e6,show (26:Int) = ((26:Nat):Int) from rfl,hcf]
 refine ⟨_,n6,rfl,by rw [hN26.1]; omega,l6.2,fun arcs hG => dHid_of ?_⟩
 have hal:arcs.length = n6:=by have:=hG.len; omega
 walk_at "rd"
 rw [show (38:Int) = ((38:Nat):Int) from rfl,hcf]
 refine ⟨_,arcs,ms,ord,goal,rfl,by rw [hN38.1]; omega,by omega,by omega,by rw [hal]; exact hG,hm10,hgo,hol,fun row hrl hrc hrg => dHid_of ?_⟩
 walk_at "rd"
 rw [show (50:Int) = ((50:Nat):Int) from rfl,hcf]
 rw [cut_m1,← List.map_dropLast]
 refine ⟨_,row.dropLast,rfl,by rw [hN50.1]; omega,hN50.2,by rw [List.length_dropLast]; omega,fun cuts hcut hcl => dHid_of ?_⟩
 walk_at "rd"
 refine ⟨sz3 0,fun p hp => dHid_of ?_⟩
 walk_at "rd"
 refine ⟨sz3 0,fun q hq => dHid_of ?_⟩
 have hpq:p ≠ q:=by
  intro e
  rw [e,updM_same] at hq
  cases hq
 have hMq:M' q = none:=by rw [updM_ne (Ne.symm hpq)] at hq; exact hq
 walk_at "rd"
 rw [List.length_map,Int.toNat_natCast]
 refine ⟨by omega,by omega,?_⟩
 refine forRun_by (fun i Δ M2 => ∃ (ents:List (Str × List Row)) (ch:List Nat) (x4 x13:Option D),Δ = [some (D.int c),some (D.lst (xs.map D.int)),some (D.lst (ms.map D.str)),some (D.lst (W.map D.str)),x4,some (D.lst (prs.map pairD)),some (D.tup (ord.map pairD)),some (D.str goal),some (D.lst (arcs.map stD)),some (D.lst (row.map signD)),some (D.lst (cuts.map kindD)),some (D.ref p),some (D.ref q),x13] ∧ M2 = updM (updM M' p (.lst (ents.map entD))) q (.lst (intsD ch)) ∧ Plant W cuts i ents ch) ⟨[],[],_,_,rfl,rfl,plant_nil⟩ ?_ ?_
 ·rintro i d Δ M2 X hd ⟨ents,ch,x4,x13,rfl,rfl,hP⟩ k'
  obtain ⟨hi,rfl⟩:=rngD_get hd
  have e1:(updM (updM M' p (.lst (ents.map entD))) q (.lst (intsD ch))) p = some (.lst (ents.map entD)):=by rw [updM_ne hpq,updM_same]
  obtain ⟨cu,hcu⟩:∃ x,cuts[i]? = some x:=⟨_,List.getElem?_eq_getElem hi⟩
  have acu:atI (cuts.map kindD) (i:Int) = some (kindD cu):=atI_nat (by rw [List.getElem?_map,hcu]; rfl)
  have hcul:cu.length ≤ 11:=by
   have h1:cu.length ≤ cuts.flatten.length:=mem_flat (List.mem_of_getElem? hcu)
   rw [hcut,List.length_dropLast] at h1
   omega
  obtain ⟨wd,hwd⟩:∃ x,W[i]? = some x:=⟨_,List.getElem?_eq_getElem (by omega)⟩
  have awd:atI (W.map D.str) (i:Int) = some (D.str wd):=atI_nat (by rw [List.getElem?_map,hwd]; rfl)
  refine ⟨_,rfl,?_⟩
  rw [Int.zero_add]
  walk_at "rd"
  refine ⟨_,acu,?_⟩
  rw [show (58:Int) + 5 * (i:Int) = ((58 + 5 * i:Nat):Int) by omega,hcf]
  refine ⟨cu,_,ms,rfl,by rw [List.length_drop]; omega,fun x hx => hN.2 x (List.mem_of_mem_drop hx),hm0,hm10,hcul,fun ks hks hkl hkb => dHid_of ?_⟩
  walk_at "rd"
  refine ⟨_,e1,_,awd,sz3 2,_,e1,by rw [List.length_map,hP.le]; exact Nat.lt_of_lt_of_le (by omega:i < 1000) (sz3 1000),dHid_of ?_⟩
  obtain ⟨j,ij,hj⟩:=idx_kind hkl hks
  rw [updM_comm hpq,updM_upd,updM_comm (Ne.symm hpq)]
  walk_at "rd"
  refine ⟨_,rfl,_,acu,j,ij,by rw [intsD,List.length_map,hP.lc]; exact Nat.lt_of_lt_of_le (by omega:i < 1000) (sz3 1000),k' _ _ ⟨ents ++ [(wd,ks)],ch ++ [j],_,_,rfl,?_,plant_snoc hP hwd hcu hj hkb⟩⟩
  rw [List.map_append,intsD,intsD,List.map_append]
  rfl
 ·rintro Δ M2 ⟨ents,ch,x4,x13,rfl,rfl,hP⟩
  rw [rngD_len] at hP
  refine dHid_of ?_
  walk_at "rd"
  have hp2:rdM (updM (updM M' p (.lst (ents.map entD))) q (.lst (intsD ch))) (.ref p) = .lst (ents.map entD):=rdM_ref (by rw [updM_ne hpq,updM_same])
  rw [hp2]
  walk_at "rd"
  rw [List.length_map,cut_to,← List.map_take]
  refine ⟨sz3 3,sz3 2,sz3 3,M',leM2 hp hMq,?_⟩
  rw [← hP.ws]
  have hcn:=hP.nod hWn
  refine k ord goal ents (ents.map (·.1)) ch arcs ?_ hP.small (by rw [hP.le]; omega)
  have hrow:rowOf ents (ents.map (·.1)) ch = row.dropLast:=by rw [hP.row hWn,hcut]
  have hrl2:row.dropLast.length + 1 = row.length:=by rw [List.length_dropLast]; omega
  have hrow2:row.dropLast ++ [(goal,1)] = row:=by
   have hne:row ≠ []:=fun e => by rw [e] at hrl; simp at hrl; omega
   have h1:row.getLast hne = (goal,1):=by
    have h2:sg row (row.length - 1) = row.getLast hne:=by
     rw [List.getLast_eq_getElem]
     simp only [sg,List.getD_eq_getElem?_getD]
     rw [List.getElem?_eq_getElem (by omega)]; rfl
    rw [← h2,hrl]
    exact hrg
   rw [← h1]
   exact List.dropLast_concat_getLast hne
  refine ⟨hol,by rw [hP.le]; omega,by rw [List.length_map,hP.le]; omega,fun w hw => ⟨hw,?_⟩,by rw [List.length_map,hP.le,hP.lc],fun y hy => ?_,by rw [hrow,List.length_dropLast]; omega,?_,fun a ha => ?_⟩
  ·rw [hP.ws] at hw
   exact hWo w (List.mem_of_mem_take hw)
  ·rw [List.zip_map_left] at hy
   obtain ⟨z,hz,rfl⟩:=List.mem_map.mp hy
   have h3:=hP.fit z hz
   have h4:=hcn z.1 (List.of_mem_zip hz).1
   simp only [Prod.map_fst,Prod.map_snd,id_eq]
   rw [h4]; exact h3
  ·rw [hrow,hrl2,hrl,hal]
   exact hG
  ·rw [hrow,hrow2]
   exact hrc a ha
theorem pairD_eq (x y:Str × Str):eqD (pairD x) (pairD y) = decide (x = y):=by
 obtain ⟨a,b⟩:=x
 obtain ⟨c,d⟩:=y
 rw [Bool.eq_iff_iff]
 simp [pairD,eqD,eqDs]
theorem kindsD_eq (x y:List Row):eqD (kindsD x) (kindsD y) = decide (x = y):=by
 simp only [kindsD,eqD]
 exact eqD_gen kindD kindD_eq
theorem entD_eq (x y:Str × List Row):eqD (entD x) (entD y) = decide (x = y):=by
 obtain ⟨a,b⟩:=x
 obtain ⟨c,d⟩:=y
 rw [Bool.eq_iff_iff]
 simp [entD,eqD,eqDs,kindsD_eq]
theorem dLe_kind {n:Nat} (h:2 ≤ n) (r:Row):dLe (kindD r) n = true:=by
 obtain ⟨m,rfl⟩:∃ m,n = m + 2:=⟨n - 2,by omega⟩
 exact dLes_iff.mpr fun d hd => by
  obtain ⟨x,_,rfl⟩:=List.mem_map.mp hd
  rfl
theorem dLe_ent (e:Str × List Row):dLe (entD e) 58 = true:=by
 have h:dLe (kindsD e.2) 57 = true:=dLes_iff.mpr fun d hd => by
  obtain ⟨x,_,rfl⟩:=List.mem_map.mp hd
  exact dLe_kind (by decide) x
 have h2:dLes [D.str e.1,kindsD e.2] 57 = true:=dLes_iff.mpr fun d hd => by
  rcases List.mem_cons.mp hd with rfl | hd
  ·rfl
  ·obtain rfl:d = kindsD e.2:=by simpa using hd
   exact h
 exact h2
theorem dLe_lex {ord:List (Str × Str)} {goal:Str} {ents:List (Str × List Row)}:dLe (lexD ord goal ents) 60 = true:=by
 have h:dLes [D.tup (ord.map pairD),D.str goal,D.tup (ents.map entD)] 59 = true:=dLes_iff.mpr fun d hd => by
  rcases List.mem_cons.mp hd with rfl | hd
  ·exact dLes_iff.mpr fun d hd => by
    obtain ⟨x,_,rfl⟩:=List.mem_map.mp hd
    rfl
  ·rcases List.mem_cons.mp hd with rfl | hd
   ·rfl
   ·obtain rfl:d = D.tup (ents.map entD):=by simpa using hd
    exact dLes_iff.mpr fun d hd => by
     obtain ⟨x,_,rfl⟩:=List.mem_map.mp hd
     exact dLe_ent x
 exact h
theorem neLex {ord:List (Str × Str)} {goal:Str} {ents:List (Str × List Row)}:neF (lexD ord goal ents) (lexD ord goal ents) = some (.bl false):=by
 have e:eqD (lexD ord goal ents) (lexD ord goal ents) = true:=by
  simp only [lexD,eqD,eqDs,eqD_gen pairD pairD_eq,eqD_gen entD entD_eq,decide_true,Bool.and_true,beq_self_eq_true]
 simp only [neF,dLe_lex,and_self,if_true,e,Bool.not_true]
theorem intD_eq (x y:Nat):eqD (D.int (x:Int)) (D.int (y:Int)) = decide (x = y):=by
 rw [Bool.eq_iff_iff]
 simp [eqD]
 omega
theorem neCh {a:List Nat}:neF (.tup (intsD a)) (.tup (intsD a)) = some (.bl false):=by
 have h1:dLe (.tup (intsD a)) 60 = true:=dLes_gen (fun (c:Nat) => D.int (c:Int)) fun _ => rfl
 have e:eqD (.tup (intsD a)) (.tup (intsD a)) = true:=by
  simp only [eqD,intsD,eqD_gen (fun (c:Nat) => D.int (c:Int)) intD_eq,decide_true]
 simp only [neF,h1,and_self,if_true,e,Bool.not_true]
theorem neDraw {a:List Nat} {arcs:List (Nat × Nat)}:neF (.tup [.tup (intsD a),.tup (arcs.map stD)]) (.tup [.tup (intsD a),.tup (arcs.map stD)]) = some (.bl false):=by
 have h1:dLe (.tup [.tup (intsD a),.tup (arcs.map stD)]) 60 = true:=by
  have:dLes [D.tup (intsD a),D.tup (arcs.map stD)] 59 = true:=dLes_iff.mpr fun d hd => by
   rcases List.mem_cons.mp hd with rfl | hd
   ·exact dLes_iff.mpr fun d hd => by
     obtain ⟨x,_,rfl⟩:=List.mem_map.mp hd
     rfl
   ·obtain rfl:d = D.tup (arcs.map stD):=by simpa using hd
    exact dLes_iff.mpr fun d hd => by
     obtain ⟨x,_,rfl⟩:=List.mem_map.mp hd
     rfl
  exact this
 have hs:∀ x y:Nat × Nat,eqD (stD x) (stD y) = decide (x = y):=fun ⟨a,b⟩ ⟨c,d⟩ => by
  rw [Bool.eq_iff_iff]
  simp [stD,eqD,eqDs]
  omega
 have e:eqD (.tup [.tup (intsD a),.tup (arcs.map stD)]) (.tup [.tup (intsD a),.tup (arcs.map stD)]) = true:=by
  simp only [eqD,eqDs,intsD,eqD_gen (fun (c:Nat) => D.int (c:Int)) intD_eq,eqD_gen stD hs,decide_true,Bool.and_true]
 simp only [neF,h1,and_self,if_true,e,Bool.not_true]
noncomputable def S_law:SpD:=fun ds M R => ∃ ns:List Int,ds = [.scr (ns.map .int)] ∧ M = noM ∧ ns.length ≤ 63 ∧ ∀ M',R (.bl true) M'
theorem ok_law {f:Addr} {fd:FuncData} (F:Fun K "law" "law" s_law f fd) (T:Txt mg) (g_l_sentence:FnD P w K mg base "_law_sentence" 3 1 S_l_sentence) (g_p_mirrored:FnD P w K mg base "mirrored" 2 1 S_p_mirrored) (g_p_mirrored_drawing:FnD P w K mg base "mirrored_drawing" 8 3 S_p_mirrored_drawing) (g_l_mirrored:FnD P w K mg base "_law_mirrored" 1 1 S_l_mirrored) (g_l_drawn:FnD P w K mg base "_law_drawn" 4 3 S_l_drawn):FnOk P w K mg base CX0 9 f fd ["_law_script"] (spD K 1 S_law):=by
 have nd:=sc_law.nd
 refine F.okQ rfl sc_law (fun cdv A outer s H E hr => ⟨_,(q_scons (q_for PassesOwn.never rfl (qi_any (q_op o_add (q_callTy c_list rfl T.b_list (by kernel_rfl) (q_cons (q_sliceE (q_var 0) qo_none (qo_some q_int)) q_nil)) (q_lst (q_cons q_int q_nil)))) (g_name (i:=1) nd rfl (Or.inl rfl)) (q_scons (q_asg (qc g_l_sentence (hr.mono (by decide)) rfl (q_cons (q_var 1) q_nil)) (g_tup rfl (g_cons (g_name (i:=2) nd rfl (Or.inl rfl)) (g_cons (g_name (i:=3) nd rfl (Or.inl rfl)) (g_cons (g_name (i:=4) nd rfl (Or.inl rfl)) g_nil)))))
   (q_hid (q_scons (q_set (i:=5) nd rfl (Or.inl rfl) (qc g_p_mirrored (hr.mono (by decide)) rfl (q_cons (q_var 2) q_nil)))
   (q_hid (q_scons (q_ifS (q_pw (q_tor (q_tnot (q_tval (q_isi (Tn:="tuple") (by decide) rfl T.b_isinstance rfl T.b_tuple (by kernel_rfl) (q_var 5)))) (q_tor (q_tcmp (o_ne hr.units) (q_var 5) (qc g_l_mirrored (hr.mono (by decide)) rfl (q_cons (q_var 2) q_nil)) (by first | exact nobehind _ (by decide) (by decide) | rfl)) (q_tor1 (q_tcmp (o_ne hr.units) (qc g_p_mirrored (hr.mono (by decide)) rfl (q_cons (q_var 5) q_nil)) (q_var 2) (by first | exact nobehind _ (by decide) (by decide) | rfl)))))) (q_sone (q_ret q_bl)) q_snil)
   (q_hid (q_scons (q_set (i:=6) nd rfl (Or.inl rfl) (qc g_p_mirrored_drawing (hr.mono (by decide)) rfl (q_cons (q_var 2) (q_cons (q_var 3) (q_cons (q_var 4) q_nil)))))
   (q_hid (q_scons (q_ifS (q_pw (q_tor (q_tnot (q_tval (qc g_l_drawn (hr.mono (by decide)) rfl (q_cons (q_var 5) (q_cons (q_sliceR (q_var 3) (q_un negU q_int)) (q_cons (q_var 6) q_nil)))))) (q_tor1 (q_tcmp (o_ne hr.units) (q_ix o_ix (q_var 6) q_int (fun _ _ => rfl)) (q_sliceR (q_ix o_ix (q_var 4) q_int (fun _ _ => rfl)) (q_un negU q_int)) (by first | exact nobehind _ (by decide) (by decide) | rfl))))) (q_sone (q_ret q_bl)) q_snil)
   (q_hid (q_sone (q_ifS (q_tcmp (o_ne hr.units) (qc g_p_mirrored_drawing (hr.mono (by decide)) rfl (q_cons (q_var 5) (q_cons (q_sliceR (q_var 3) (q_un negU q_int)) (q_cons (q_var 6) q_nil)))) (q_var 4) (by first | exact nobehind _ (by decide) (by decide) | rfl)) (q_sone (q_ret q_bl)) q_snil)))))))))))))
   (q_sone (q_ret q_bl))),fun ds M R hl hS => ?_⟩)
 obtain ⟨ns,rfl,rfl,hn,k⟩:=hS
 walk_at "rd"
 obtain ⟨ys,hys,hyl⟩:∃ ys:List Int,L2.cutD (ns.map D.int) none (some 10) = ys.map D.int ∧ ys.length ≤ 10:=⟨ns.take 10,by rw [show (10:Int) = ((10:Nat):Int) from rfl,cut_to,List.map_take],by rw [List.length_take]; omega⟩
 rw [hys]
 refine ⟨_,rfl,sz3 1,_,if_pos (sz3 _ (by simp; omega)),_,rfl,fun hz => ?_⟩
 rw [show ys.map D.int ++ [D.int 0] = (ys ++ [0]).map D.int by rw [List.map_append]; rfl]
 refine forRun_by (fun i Δ M' => ∃ x1 x2 x3 x4 x5 x6,Δ = [some (D.scr (ns.map D.int)),x1,x2,x3,x4,x5,x6] ∧ M' = noM) ⟨_,_,_,_,_,_,rfl,rfl⟩ ?_ ?_
 ·rintro i d Δ M' X hd ⟨x1,x2,x3,x4,x5,x6,rfl,rfl⟩ k'
  obtain ⟨c,hc,rfl⟩:=map_get hd
  refine ⟨_,rfl,?_⟩
  walk_at "rd"
  refine ⟨c,rfl,fun ord goal ents ws ch arcs hD hsm hle => ?_⟩
  walk_at "rd"
  simp only [gdTup,gdCons,gdName,gdNil,Option.bind_some]
  refine ⟨_,if_pos rfl,dHid_of ?_⟩
  walk_at "rd"
  refine ⟨ord,goal,ents,rfl,hsm,dHid_of ?_⟩
  walk_at "rd"
  have hD2:=dr_mir hD
  have hsm2:∀ e ∈ ents.map mirE,∀ r ∈ e.2,r.length ≤ 24:=fun e he r hr => by
   obtain ⟨e0,h0,rfl⟩:=List.mem_map.mp he
   obtain ⟨r0,h1,rfl⟩:=List.mem_map.mp hr
   rw [mir_len]; exact hsm e0 h0 r0 h1
  have hback:(ents.map mirE).map mirE = ents:=by
   rw [List.map_map]
   conv => rhs; rw [← List.map_id ents]
   refine List.map_congr_left fun e _ => ?_
   refine Prod.ext rfl ?_
   show (e.2.map mir).map mir = e.2
   rw [List.map_map]
   conv => rhs; rw [← List.map_id e.2]
   exact List.map_congr_left fun r _ => mir_mir r
  refine ⟨true,rfl,?_⟩
  rw [if_neg (by simp)]
  refine ⟨ord,goal,ents,rfl,hle,hsm,_,neLex,_,rfl,?_⟩
  rw [if_neg (by simp)]
  refine ⟨ord,goal,ents.map mirE,rfl,hsm2,?_⟩
  rw [hback]
  refine ⟨_,neLex,_,rfl,?_⟩
  rw [if_neg (by simp)]
  refine dHid_of ?_
  walk_at "rd"
  refine ⟨ord,goal,ents,ws,ch,arcs,rfl,hD,dHid_of ?_⟩
  walk_at "rd"
  rw [← List.map_reverse]
  refine ⟨ord,goal,ents.map mirE,ws.reverse,ch.reverse,_,rfl,hD2,_,rfl,?_⟩
  rw [if_neg (by simp)]
  rw [show (intsD ch).reverse = intsD ch.reverse by simp [intsD]]
  refine ⟨_,neCh,_,rfl,?_⟩
  rw [if_neg (by simp)]
  refine dHid_of ?_
  walk_at "rd"
  rw [← List.map_reverse]
  refine ⟨ord,goal,ents.map mirE,ws.reverse,ch.reverse,_,rfl,hD2,?_⟩
  rw [List.reverse_reverse,rowOf_mir hD.len.symm,mir_len,geo_back hD.geo]
  refine ⟨_,neDraw,_,rfl,?_⟩
  rw [if_neg (by simp)]
  exact k' _ _ ⟨_,_,_,_,_,_,rfl,rfl⟩
 ·rintro Δ M' ⟨x1,x2,x3,x4,x5,x6,rfl,rfl⟩
  walk_at "rd"
  exact k _

end
end My

set_option Elab.async false
set_option linter.all false
set_option maxRecDepth 100000
set_option maxHeartbeats 4000000
namespace My
open PySem PySem.Spec PyProof.Rows L2
theorem law_s:LawS S_law:=fun ns R hn hR => ⟨ns,rfl,rfl,hn,hR⟩
theorem usS {p:List Value → Prop} {n:Nat} (h:∀ a us,us.length = n → p (a :: us)):∀ us:List Value,us.length = n + 1 → p us:=by
 intro us e
 cases us with
 | nil => cases e
 | cons a us => exact h a us (Nat.succ.inj e)
theorem us0 {p:List Value → Prop} (h:p []):∀ us:List Value,us.length = 0 → p us:=by
 intro us e
 cases us with
 | nil => exact h
 | cons a us => cases e
theorem us1 {p:List Value → Prop} (h:∀ a,p [a]):∀ us:List Value,us.length = 1 → p us:=usS fun a => us0 (p:=fun us => p (a :: us)) (h a)
theorem us2 {p:List Value → Prop} (h:∀ a b,p [a,b]):∀ us:List Value,us.length = 2 → p us:=usS fun a => us1 (p:=fun us => p (a :: us)) (h a)
theorem us3 {p:List Value → Prop} (h:∀ a b c,p [a,b,c]):∀ us:List Value,us.length = 3 → p us:=usS fun a => us2 (p:=fun us => p (a :: us)) (h a)
theorem us4 {p:List Value → Prop} (h:∀ a b c d,p [a,b,c,d]):∀ us:List Value,us.length = 4 → p us:=usS fun a => us3 (p:=fun us => p (a :: us)) (h a)
theorem us5 {p:List Value → Prop} (h:∀ a b c d e,p [a,b,c,d,e]):∀ us:List Value,us.length = 5 → p us:=usS fun a => us4 (p:=fun us => p (a :: us)) (h a)
theorem all_mk {l:PySem.W.OpenLaw} {w:World} {K:PySem.W.Frag} {h:Heap} {mg:Str → Option Value} {fa:Addr} (X:K.In h) (G:h.Ns mainGlobals mg) (hfa:mg "law" = some (.ref fa))
  {f0:Addr} {od0 an0:Option Addr} {sl0:Array (Option Value)} {oc0 kV0 dc0 pm0 cd0 ct0:Value}
  {f1:Addr} {od1 an1:Option Addr} {sl1:Array (Option Value)} {oc1 kV1 dc1 pm1 cd1 ct1:Value}
  {f2:Addr} {od2 an2:Option Addr} {sl2:Array (Option Value)} {oc2 kV2 dc2 pm2 cd2 ct2:Value}
  {f3:Addr} {od3 an3:Option Addr} {sl3:Array (Option Value)} {oc3 kV3 dc3 pm3 cd3 ct3:Value}
  {f4:Addr} {od4 an4:Option Addr} {sl4:Array (Option Value)} {oc4 kV4 dc4 pm4 cd4 ct4:Value}
  {f5:Addr} {od5 an5:Option Addr} {sl5:Array (Option Value)} {oc5 kV5 dc5 pm5 cd5 ct5:Value}
  {f6:Addr} {od6 an6:Option Addr} {sl6:Array (Option Value)} {oc6 kV6 dc6 pm6 cd6 ct6:Value}
  {f7:Addr} {od7 an7:Option Addr} {sl7:Array (Option Value)} {oc7 kV7 dc7 pm7 cd7 ct7:Value}
  {f8:Addr} {od8 an8:Option Addr} {sl8:Array (Option Value)} {oc8 kV8 dc8 pm8 cd8 ct8:Value}
  {f9:Addr} {od9 an9:Option Addr} {sl9:Array (Option Value)} {oc9 kV9 dc9 pm9 cd9 ct9:Value}
  {f10:Addr} {od10 an10:Option Addr} {sl10:Array (Option Value)} {oc10 kV10 dc10 pm10 cd10 ct10:Value}
  {f11:Addr} {od11 an11:Option Addr} {sl11:Array (Option Value)} {oc11 kV11 dc11 pm11 cd11 ct11:Value}
  {f12:Addr} {od12 an12:Option Addr} {sl12:Array (Option Value)} {oc12 kV12 dc12 pm12 cd12 ct12:Value}
  {f13:Addr} {od13 an13:Option Addr} {sl13:Array (Option Value)} {oc13 kV13 dc13 pm13 cd13 ct13:Value}
  {f14:Addr} {od14 an14:Option Addr} {sl14:Array (Option Value)} {oc14 kV14 dc14 pm14 cd14 ct14:Value}
  {f15:Addr} {od15 an15:Option Addr} {sl15:Array (Option Value)} {oc15 kV15 dc15 pm15 cd15 ct15:Value}
  {f16:Addr} {od16 an16:Option Addr} {sl16:Array (Option Value)} {oc16 kV16 dc16 pm16 cd16 ct16:Value}
  {f17:Addr} {od17 an17:Option Addr} {sl17:Array (Option Value)} {oc17 kV17 dc17 pm17 cd17 ct17:Value}
  {f18:Addr} {od18 an18:Option Addr} {sl18:Array (Option Value)} {oc18 kV18 dc18 pm18 cd18 ct18:Value}
  {f19:Addr} {od19 an19:Option Addr} {sl19:Array (Option Value)} {oc19 kV19 dc19 pm19 cd19 ct19:Value}
  {f20:Addr} {od20 an20:Option Addr} {sl20:Array (Option Value)} {oc20 kV20 dc20 pm20 cd20 ct20:Value}
  {f21:Addr} {od21 an21:Option Addr} {sl21:Array (Option Value)} {oc21 kV21 dc21 pm21 cd21 ct21:Value}
  {f22:Addr} {od22 an22:Option Addr} {sl22:Array (Option Value)} {oc22 kV22 dc22 pm22 cd22 ct22:Value}
  {f23:Addr} {od23 an23:Option Addr} {sl23:Array (Option Value)} {oc23 kV23 dc23 pm23 cd23 ct23:Value}
  {f24:Addr} {od24 an24:Option Addr} {sl24:Array (Option Value)} {oc24 kV24 dc24 pm24 cd24 ct24:Value}
  {f25:Addr} {od25 an25:Option Addr} {sl25:Array (Option Value)} {oc25 kV25 dc25 pm25 cd25 ct25:Value}
  {f26:Addr} {od26 an26:Option Addr} {sl26:Array (Option Value)} {oc26 kV26 dc26 pm26 cd26 ct26:Value}
  {f27:Addr} {od27 an27:Option Addr} {sl27:Array (Option Value)} {oc27 kV27 dc27 pm27 cd27 ct27:Value}
  {f28:Addr} {od28 an28:Option Addr} {sl28:Array (Option Value)} {oc28 kV28 dc28 pm28 cd28 ct28:Value}
  {f29:Addr} {od29 an29:Option Addr} {sl29:Array (Option Value)} {oc29 kV29 dc29 pm29 cd29 ct29:Value}
  {f30:Addr} {od30 an30:Option Addr} {sl30:Array (Option Value)} {oc30 kV30 dc30 pm30 cd30 ct30:Value}
  {f31:Addr} {od31 an31:Option Addr} {sl31:Array (Option Value)} {oc31 kV31 dc31 pm31 cd31 ct31:Value}
  {f32:Addr} {od32 an32:Option Addr} {sl32:Array (Option Value)} {oc32 kV32 dc32 pm32 cd32 ct32:Value}
  {f33:Addr} {od33 an33:Option Addr} {sl33:Array (Option Value)} {oc33 kV33 dc33 pm33 cd33 ct33:Value}
  {f34:Addr} {od34 an34:Option Addr} {sl34:Array (Option Value)} {oc34 kV34 dc34 pm34 cd34 ct34:Value}
  {f35:Addr} {od35 an35:Option Addr} {sl35:Array (Option Value)} {oc35 kV35 dc35 pm35 cd35 ct35:Value}
  {f36:Addr} {od36 an36:Option Addr} {sl36:Array (Option Value)} {oc36 kV36 dc36 pm36 cd36 ct36:Value}
  {f37:Addr} {od37 an37:Option Addr} {sl37:Array (Option Value)} {oc37 kV37 dc37 pm37 cd37 ct37:Value}
  {tk_SMALL_LETTERS:Tok}
  {tk_MOST_LETTERS:Tok}
  (a0:PySem.W.nsIn K mainGlobals "is_whole" = some (some (.ref f0))) (l0:K.lookup f0 = some ⟨oc0,od0,.func (PySem.W.fnOf "is_whole" "is_whole" (defArgs s_p_is_whole) (defBody s_p_is_whole) (defScope s_p_is_whole) .none kV0 dc0 pm0 an0 cd0 ct0),sl0⟩) (c0:PySem.W.codeIn K cd0 "is_whole" = true) (k0:PySem.W.keepIn K (.ref f0) = true)
  (a1:PySem.W.nsIn K mainGlobals "is_tuple_of" = some (some (.ref f1))) (l1:K.lookup f1 = some ⟨oc1,od1,.func (PySem.W.fnOf "is_tuple_of" "is_tuple_of" (defArgs s_p_is_tuple_of) (defBody s_p_is_tuple_of) (defScope s_p_is_tuple_of) .none kV1 dc1 pm1 an1 cd1 ct1),sl1⟩) (c1:PySem.W.codeIn K cd1 "is_tuple_of" = true) (k1:PySem.W.keepIn K (.ref f1) = true)
  (a2:PySem.W.nsIn K mainGlobals "is_short_word" = some (some (.ref f2))) (l2:K.lookup f2 = some ⟨oc2,od2,.func (PySem.W.fnOf "is_short_word" "is_short_word" (defArgs s_p_is_short_word) (defBody s_p_is_short_word) (defScope s_p_is_short_word) .none kV2 dc2 pm2 an2 cd2 ct2),sl2⟩) (c2:PySem.W.codeIn K cd2 "is_short_word" = true) (k2:PySem.W.keepIn K (.ref f2) = true)
  (a3:PySem.W.nsIn K mainGlobals "reached_from" = some (some (.ref f3))) (l3:K.lookup f3 = some ⟨oc3,od3,.func (PySem.W.fnOf "reached_from" "reached_from" (defArgs s_p_reached_from) (defBody s_p_reached_from) (defScope s_p_reached_from) .none kV3 dc3 pm3 an3 cd3 ct3),sl3⟩) (c3:PySem.W.codeIn K cd3 "reached_from" = true) (k3:PySem.W.keepIn K (.ref f3) = true)
  (a4:PySem.W.nsIn K mainGlobals "mirror" = some (some (.ref f4))) (l4:K.lookup f4 = some ⟨oc4,od4,.func (PySem.W.fnOf "mirror" "mirror" (defArgs s_p_mirror) (defBody s_p_mirror) (defScope s_p_mirror) .none kV4 dc4 pm4 an4 cd4 ct4),sl4⟩) (c4:PySem.W.codeIn K cd4 "mirror" = true) (k4:PySem.W.keepIn K (.ref f4) = true)
  (a5:PySem.W.nsIn K mainGlobals "some_cross" = some (some (.ref f5))) (l5:K.lookup f5 = some ⟨oc5,od5,.func (PySem.W.fnOf "some_cross" "some_cross" (defArgs s_p_some_cross) (defBody s_p_some_cross) (defScope s_p_some_cross) .none kV5 dc5 pm5 an5 cd5 ct5),sl5⟩) (c5:PySem.W.codeIn K cd5 "some_cross" = true) (k5:PySem.W.keepIn K (.ref f5) = true)
  (a6:PySem.W.nsIn K mainGlobals "words_of" = some (some (.ref f6))) (l6:K.lookup f6 = some ⟨oc6,od6,.func (PySem.W.fnOf "words_of" "words_of" (defArgs s_p_words_of) (defBody s_p_words_of) (defScope s_p_words_of) .none kV6 dc6 pm6 an6 cd6 ct6),sl6⟩) (c6:PySem.W.codeIn K cd6 "words_of" = true) (k6:PySem.W.keepIn K (.ref f6) = true)
  (a7:PySem.W.nsIn K mainGlobals "goals_wish" = some (some (.ref f7))) (l7:K.lookup f7 = some ⟨oc7,od7,.func (PySem.W.fnOf "goals_wish" "goals_wish" (defArgs s_p_goals_wish) (defBody s_p_goals_wish) (defScope s_p_goals_wish) .none kV7 dc7 pm7 an7 cd7 ct7),sl7⟩) (c7:PySem.W.codeIn K cd7 "goals_wish" = true) (k7:PySem.W.keepIn K (.ref f7) = true)
  (a8:PySem.W.nsIn K mainGlobals "mirrored_arc" = some (some (.ref f8))) (l8:K.lookup f8 = some ⟨oc8,od8,.func (PySem.W.fnOf "mirrored_arc" "mirrored_arc" (defArgs s_p_mirrored_arc) (defBody s_p_mirrored_arc) (defScope s_p_mirrored_arc) .none kV8 dc8 pm8 an8 cd8 ct8),sl8⟩) (c8:PySem.W.codeIn K cd8 "mirrored_arc" = true) (k8:PySem.W.keepIn K (.ref f8) = true)
  (a9:PySem.W.nsIn K mainGlobals "_law_parts" = some (some (.ref f9))) (l9:K.lookup f9 = some ⟨oc9,od9,.func (PySem.W.fnOf "_law_parts" "_law_parts" (defArgs s_l_parts) (defBody s_l_parts) (defScope s_l_parts) .none kV9 dc9 pm9 an9 cd9 ct9),sl9⟩) (c9:PySem.W.codeIn K cd9 "_law_parts" = true) (k9:PySem.W.keepIn K (.ref f9) = true)
  (a10:PySem.W.nsIn K mainGlobals "_law_letters" = some (some (.ref f10))) (l10:K.lookup f10 = some ⟨oc10,od10,.func (PySem.W.fnOf "_law_letters" "_law_letters" (defArgs s_l_letters) (defBody s_l_letters) (defScope s_l_letters) .none kV10 dc10 pm10 an10 cd10 ct10),sl10⟩) (c10:PySem.W.codeIn K cd10 "_law_letters" = true) (k10:PySem.W.keepIn K (.ref f10) = true)
  (a11:PySem.W.nsIn K mainGlobals "_law_most" = some (some (.ref f11))) (l11:K.lookup f11 = some ⟨oc11,od11,.func (PySem.W.fnOf "_law_most" "_law_most" (defArgs s_l_most) (defBody s_l_most) (defScope s_l_most) .none kV11 dc11 pm11 an11 cd11 ct11),sl11⟩) (c11:PySem.W.codeIn K cd11 "_law_most" = true) (k11:PySem.W.keepIn K (.ref f11) = true)
  (a12:PySem.W.nsIn K mainGlobals "_law_matched" = some (some (.ref f12))) (l12:K.lookup f12 = some ⟨oc12,od12,.func (PySem.W.fnOf "_law_matched" "_law_matched" (defArgs s_l_matched) (defBody s_l_matched) (defScope s_l_matched) .none kV12 dc12 pm12 an12 cd12 ct12),sl12⟩) (c12:PySem.W.codeIn K cd12 "_law_matched" = true) (k12:PySem.W.keepIn K (.ref f12) = true)
  (a13:PySem.W.nsIn K mainGlobals "_law_cut" = some (some (.ref f13))) (l13:K.lookup f13 = some ⟨oc13,od13,.func (PySem.W.fnOf "_law_cut" "_law_cut" (defArgs s_l_cut) (defBody s_l_cut) (defScope s_l_cut) .none kV13 dc13 pm13 an13 cd13 ct13),sl13⟩) (c13:PySem.W.codeIn K cd13 "_law_cut" = true) (k13:PySem.W.keepIn K (.ref f13) = true)
  (a14:PySem.W.nsIn K mainGlobals "_law_kinds" = some (some (.ref f14))) (l14:K.lookup f14 = some ⟨oc14,od14,.func (PySem.W.fnOf "_law_kinds" "_law_kinds" (defArgs s_l_kinds) (defBody s_l_kinds) (defScope s_l_kinds) .none kV14 dc14 pm14 an14 cd14 ct14),sl14⟩) (c14:PySem.W.codeIn K cd14 "_law_kinds" = true) (k14:PySem.W.keepIn K (.ref f14) = true)
  (a15:PySem.W.nsIn K mainGlobals "_law_whole" = some (some (.ref f15))) (l15:K.lookup f15 = some ⟨oc15,od15,.func (PySem.W.fnOf "_law_whole" "_law_whole" (defArgs s_l_whole) (defBody s_l_whole) (defScope s_l_whole) .none kV15 dc15 pm15 an15 cd15 ct15),sl15⟩) (c15:PySem.W.codeIn K cd15 "_law_whole" = true) (k15:PySem.W.keepIn K (.ref f15) = true)
  (a16:PySem.W.nsIn K mainGlobals "_law_mirrored" = some (some (.ref f16))) (l16:K.lookup f16 = some ⟨oc16,od16,.func (PySem.W.fnOf "_law_mirrored" "_law_mirrored" (defArgs s_l_mirrored) (defBody s_l_mirrored) (defScope s_l_mirrored) .none kV16 dc16 pm16 an16 cd16 ct16),sl16⟩) (c16:PySem.W.codeIn K cd16 "_law_mirrored" = true) (k16:PySem.W.keepIn K (.ref f16) = true)
  (a17:PySem.W.nsIn K mainGlobals "at_most" = some (some (.ref f17))) (l17:K.lookup f17 = some ⟨oc17,od17,.func (PySem.W.fnOf "at_most" "at_most" (defArgs s_p_at_most) (defBody s_p_at_most) (defScope s_p_at_most) .none kV17 dc17 pm17 an17 cd17 ct17),sl17⟩) (c17:PySem.W.codeIn K cd17 "at_most" = true) (k17:PySem.W.keepIn K (.ref f17) = true)
  (a18:PySem.W.nsIn K mainGlobals "is_arc" = some (some (.ref f18))) (l18:K.lookup f18 = some ⟨oc18,od18,.func (PySem.W.fnOf "is_arc" "is_arc" (defArgs s_p_is_arc) (defBody s_p_is_arc) (defScope s_p_is_arc) .none kV18 dc18 pm18 an18 cd18 ct18),sl18⟩) (c18:PySem.W.codeIn K cd18 "is_arc" = true) (k18:PySem.W.keepIn K (.ref f18) = true)
  (a19:PySem.W.nsIn K mainGlobals "has_word" = some (some (.ref f19))) (l19:K.lookup f19 = some ⟨oc19,od19,.func (PySem.W.fnOf "has_word" "has_word" (defArgs s_p_has_word) (defBody s_p_has_word) (defScope s_p_has_word) .none kV19 dc19 pm19 an19 cd19 ct19),sl19⟩) (c19:PySem.W.codeIn K cd19 "has_word" = true) (k19:PySem.W.keepIn K (.ref f19) = true)
  (a20:PySem.W.nsIn K mainGlobals "mirrored" = some (some (.ref f20))) (l20:K.lookup f20 = some ⟨oc20,od20,.func (PySem.W.fnOf "mirrored" "mirrored" (defArgs s_p_mirrored) (defBody s_p_mirrored) (defScope s_p_mirrored) .none kV20 dc20 pm20 an20 cd20 ct20),sl20⟩) (c20:PySem.W.codeIn K cd20 "mirrored" = true) (k20:PySem.W.keepIn K (.ref f20) = true)
  (a21:PySem.W.nsIn K mainGlobals "_law_signs" = some (some (.ref f21))) (l21:K.lookup f21 = some ⟨oc21,od21,.func (PySem.W.fnOf "_law_signs" "_law_signs" (defArgs s_l_signs) (defBody s_l_signs) (defScope s_l_signs) .none kV21 dc21 pm21 an21 cd21 ct21),sl21⟩) (c21:PySem.W.codeIn K cd21 "_law_signs" = true) (k21:PySem.W.keepIn K (.ref f21) = true)
  (a22:PySem.W.nsIn K mainGlobals "_law_cancel" = some (some (.ref f22))) (l22:K.lookup f22 = some ⟨oc22,od22,.func (PySem.W.fnOf "_law_cancel" "_law_cancel" (defArgs s_l_cancel) (defBody s_l_cancel) (defScope s_l_cancel) .none kV22 dc22 pm22 an22 cd22 ct22),sl22⟩) (c22:PySem.W.codeIn K cd22 "_law_cancel" = true) (k22:PySem.W.keepIn K (.ref f22) = true)
  (a23:PySem.W.nsIn K mainGlobals "mark_leads" = some (some (.ref f23))) (l23:K.lookup f23 = some ⟨oc23,od23,.func (PySem.W.fnOf "mark_leads" "mark_leads" (defArgs s_p_mark_leads) (defBody s_p_mark_leads) (defScope s_p_mark_leads) .none kV23 dc23 pm23 an23 cd23 ct23),sl23⟩) (c23:PySem.W.codeIn K cd23 "mark_leads" = true) (k23:PySem.W.keepIn K (.ref f23) = true)
  (a24:PySem.W.nsIn K mainGlobals "are_arcs" = some (some (.ref f24))) (l24:K.lookup f24 = some ⟨oc24,od24,.func (PySem.W.fnOf "are_arcs" "are_arcs" (defArgs s_p_are_arcs) (defBody s_p_are_arcs) (defScope s_p_are_arcs) .none kV24 dc24 pm24 an24 cd24 ct24),sl24⟩) (c24:PySem.W.codeIn K cd24 "are_arcs" = true) (k24:PySem.W.keepIn K (.ref f24) = true)
  (a25:PySem.W.nsIn K mainGlobals "kinds_of" = some (some (.ref f25))) (l25:K.lookup f25 = some ⟨oc25,od25,.func (PySem.W.fnOf "kinds_of" "kinds_of" (defArgs s_p_kinds_of) (defBody s_p_kinds_of) (defScope s_p_kinds_of) .none kV25 dc25 pm25 an25 cd25 ct25),sl25⟩) (c25:PySem.W.codeIn K cd25 "kinds_of" = true) (k25:PySem.W.keepIn K (.ref f25) = true)
  (a26:PySem.W.nsIn K mainGlobals "_law_sentence" = some (some (.ref f26))) (l26:K.lookup f26 = some ⟨oc26,od26,.func (PySem.W.fnOf "_law_sentence" "_law_sentence" (defArgs s_l_sentence) (defBody s_l_sentence) (defScope s_l_sentence) .none kV26 dc26 pm26 an26 cd26 ct26),sl26⟩) (c26:PySem.W.codeIn K cd26 "_law_sentence" = true) (k26:PySem.W.keepIn K (.ref f26) = true)
  (a27:PySem.W.nsIn K mainGlobals "_law_arcs_right" = some (some (.ref f27))) (l27:K.lookup f27 = some ⟨oc27,od27,.func (PySem.W.fnOf "_law_arcs_right" "_law_arcs_right" (defArgs s_l_arcs_right) (defBody s_l_arcs_right) (defScope s_l_arcs_right) .none kV27 dc27 pm27 an27 cd27 ct27),sl27⟩) (c27:PySem.W.codeIn K cd27 "_law_arcs_right" = true) (k27:PySem.W.keepIn K (.ref f27) = true)
  (a28:PySem.W.nsIn K mainGlobals "cancel" = some (some (.ref f28))) (l28:K.lookup f28 = some ⟨oc28,od28,.func (PySem.W.fnOf "cancel" "cancel" (defArgs s_p_cancel) (defBody s_p_cancel) (defScope s_p_cancel) .none kV28 dc28 pm28 an28 cd28 ct28),sl28⟩) (c28:PySem.W.codeIn K cd28 "cancel" = true) (k28:PySem.W.keepIn K (.ref f28) = true)
  (a29:PySem.W.nsIn K mainGlobals "refuse_other_words" = some (some (.ref f29))) (l29:K.lookup f29 = some ⟨oc29,od29,.func (PySem.W.fnOf "refuse_other_words" "refuse_other_words" (defArgs s_p_refuse_other_words) (defBody s_p_refuse_other_words) (defScope s_p_refuse_other_words) .none kV29 dc29 pm29 an29 cd29 ct29),sl29⟩) (c29:PySem.W.codeIn K cd29 "refuse_other_words" = true) (k29:PySem.W.keepIn K (.ref f29) = true)
  (a30:PySem.W.nsIn K mainGlobals "signs_of" = some (some (.ref f30))) (l30:K.lookup f30 = some ⟨oc30,od30,.func (PySem.W.fnOf "signs_of" "signs_of" (defArgs s_p_signs_of) (defBody s_p_signs_of) (defScope s_p_signs_of) .none kV30 dc30 pm30 an30 cd30 ct30),sl30⟩) (c30:PySem.W.codeIn K cd30 "signs_of" = true) (k30:PySem.W.keepIn K (.ref f30) = true)
  (a31:PySem.W.nsIn K mainGlobals "is_choice" = some (some (.ref f31))) (l31:K.lookup f31 = some ⟨oc31,od31,.func (PySem.W.fnOf "is_choice" "is_choice" (defArgs s_p_is_choice) (defBody s_p_is_choice) (defScope s_p_is_choice) .none kV31 dc31 pm31 an31 cd31 ct31),sl31⟩) (c31:PySem.W.codeIn K cd31 "is_choice" = true) (k31:PySem.W.keepIn K (.ref f31) = true)
  (a32:PySem.W.nsIn K mainGlobals "_law_drawn" = some (some (.ref f32))) (l32:K.lookup f32 = some ⟨oc32,od32,.func (PySem.W.fnOf "_law_drawn" "_law_drawn" (defArgs s_l_drawn) (defBody s_l_drawn) (defScope s_l_drawn) .none kV32 dc32 pm32 an32 cd32 ct32),sl32⟩) (c32:PySem.W.codeIn K cd32 "_law_drawn" = true) (k32:PySem.W.keepIn K (.ref f32) = true)
  (a33:PySem.W.nsIn K mainGlobals "is_drawing" = some (some (.ref f33))) (l33:K.lookup f33 = some ⟨oc33,od33,.func (PySem.W.fnOf "is_drawing" "is_drawing" (defArgs s_p_is_drawing) (defBody s_p_is_drawing) (defScope s_p_is_drawing) .none kV33 dc33 pm33 an33 cd33 ct33),sl33⟩) (c33:PySem.W.codeIn K cd33 "is_drawing" = true) (k33:PySem.W.keepIn K (.ref f33) = true)
  (a34:PySem.W.nsIn K mainGlobals "is_words_drawing" = some (some (.ref f34))) (l34:K.lookup f34 = some ⟨oc34,od34,.func (PySem.W.fnOf "is_words_drawing" "is_words_drawing" (defArgs s_p_is_words_drawing) (defBody s_p_is_words_drawing) (defScope s_p_is_words_drawing) .none kV34 dc34 pm34 an34 cd34 ct34),sl34⟩) (c34:PySem.W.codeIn K cd34 "is_words_drawing" = true) (k34:PySem.W.keepIn K (.ref f34) = true)
  (a35:PySem.W.nsIn K mainGlobals "refuse_no_drawing" = some (some (.ref f35))) (l35:K.lookup f35 = some ⟨oc35,od35,.func (PySem.W.fnOf "refuse_no_drawing" "refuse_no_drawing" (defArgs s_p_refuse_no_drawing) (defBody s_p_refuse_no_drawing) (defScope s_p_refuse_no_drawing) .none kV35 dc35 pm35 an35 cd35 ct35),sl35⟩) (c35:PySem.W.codeIn K cd35 "refuse_no_drawing" = true) (k35:PySem.W.keepIn K (.ref f35) = true)
  (a36:PySem.W.nsIn K mainGlobals "mirrored_drawing" = some (some (.ref f36))) (l36:K.lookup f36 = some ⟨oc36,od36,.func (PySem.W.fnOf "mirrored_drawing" "mirrored_drawing" (defArgs s_p_mirrored_drawing) (defBody s_p_mirrored_drawing) (defScope s_p_mirrored_drawing) .none kV36 dc36 pm36 an36 cd36 ct36),sl36⟩) (c36:PySem.W.codeIn K cd36 "mirrored_drawing" = true) (k36:PySem.W.keepIn K (.ref f36) = true)
  (a37:PySem.W.nsIn K mainGlobals "law" = some (some (.ref f37))) (l37:K.lookup f37 = some ⟨oc37,od37,.func (PySem.W.fnOf "law" "law" (defArgs s_law) (defBody s_law) (defScope s_law) .none kV37 dc37 pm37 an37 cd37 ct37),sl37⟩) (c37:PySem.W.codeIn K cd37 "law" = true) (k37:PySem.W.keepIn K (.ref f37) = true)
  (z_isinstance:PySem.W.nsIn K mainGlobals "isinstance" = some none)
  (z_int:PySem.W.nsIn K mainGlobals "int" = some none)
  (z_bool:PySem.W.nsIn K mainGlobals "bool" = some none)
  (z_tuple:PySem.W.nsIn K mainGlobals "tuple" = some none)
  (z_len:PySem.W.nsIn K mainGlobals "len" = some none)
  (z_str:PySem.W.nsIn K mainGlobals "str" = some none)
  (z_all:PySem.W.nsIn K mainGlobals "all" = some none)
  (z_reversed:PySem.W.nsIn K mainGlobals "reversed" = some none)
  (z_sorted:PySem.W.nsIn K mainGlobals "sorted" = some none)
  (z_list:PySem.W.nsIn K mainGlobals "list" = some none)
  (z_range:PySem.W.nsIn K mainGlobals "range" = some none)
  (z_any:PySem.W.nsIn K mainGlobals "any" = some none)
  (z_zip:PySem.W.nsIn K mainGlobals "zip" = some none)
  (z_max:PySem.W.nsIn K mainGlobals "max" = some none)
  (z_SMALL_LETTERS:PySem.W.nsIn K mainGlobals "SMALL_LETTERS" = some (some (.str "abcdefghijklmnopqrstuvwxyz" tk_SMALL_LETTERS)))
  (z_MOST_LETTERS:PySem.W.nsIn K mainGlobals "MOST_LETTERS" = some (some (.int 8 tk_MOST_LETTERS)))
 :∃ fd:FuncData,(∀ (s:Shared) (v:Value),BindsTo s fd ⟨[v],[]⟩ [("_law_script",v)]) ∧ ∀ base:Heap,K.In base → base.Ns mainGlobals mg → FnOk l.prog w K mg base CX0 9 fa fd ["_law_script"] (spD K 1 S_law):=by
 have e:=hfa.symm.trans (PySem.W.mg_of X G a37)
 cases e
 have T:Txt mg:=⟨PySem.W.mg_none_of X G z_isinstance,PySem.W.mg_none_of X G z_int,PySem.W.mg_none_of X G z_bool,PySem.W.mg_none_of X G z_tuple,PySem.W.mg_none_of X G z_len,PySem.W.mg_none_of X G z_str,PySem.W.mg_none_of X G z_all,PySem.W.mg_none_of X G z_reversed,PySem.W.mg_none_of X G z_sorted,PySem.W.mg_none_of X G z_list,PySem.W.mg_none_of X G z_range,PySem.W.mg_none_of X G z_any,PySem.W.mg_none_of X G z_zip,PySem.W.mg_none_of X G z_max,⟨_,PySem.W.mg_of X G z_SMALL_LETTERS⟩,⟨_,PySem.W.mg_of X G z_MOST_LETTERS⟩⟩
 have F0:=fun_mk (st:=s_p_is_whole) l0 c0 k0
 have b0:=F0.binds (ps:=["thing"]) fun _ _ _ _ _ _ us hl => us1 (p:=fun us => bindArgs _ ⟨us,[]⟩ = pure (List.zip _ us)) (fun _ => rfl) us hl
 have F1:=fun_mk (st:=s_p_is_tuple_of) l1 c1 k1
 have b1:=F1.binds (ps:=["thing","many"]) fun _ _ _ _ _ _ us hl => us2 (p:=fun us => bindArgs _ ⟨us,[]⟩ = pure (List.zip _ us)) (fun _ _ => rfl) us hl
 have F2:=fun_mk (st:=s_p_is_short_word) l2 c2 k2
 have b2:=F2.binds (ps:=["thing"]) fun _ _ _ _ _ _ us hl => us1 (p:=fun us => bindArgs _ ⟨us,[]⟩ = pure (List.zip _ us)) (fun _ => rfl) us hl
 have F3:=fun_mk (st:=s_p_reached_from) l3 c3 k3
 have b3:=F3.binds (ps:=["pairs","mark"]) fun _ _ _ _ _ _ us hl => us2 (p:=fun us => bindArgs _ ⟨us,[]⟩ = pure (List.zip _ us)) (fun _ _ => rfl) us hl
 have F4:=fun_mk (st:=s_p_mirror) l4 c4 k4
 have b4:=F4.binds (ps:=["row"]) fun _ _ _ _ _ _ us hl => us1 (p:=fun us => bindArgs _ ⟨us,[]⟩ = pure (List.zip _ us)) (fun _ => rfl) us hl
 have F5:=fun_mk (st:=s_p_some_cross) l5 c5 k5
 have b5:=F5.binds (ps:=["arcs"]) fun _ _ _ _ _ _ us hl => us1 (p:=fun us => bindArgs _ ⟨us,[]⟩ = pure (List.zip _ us)) (fun _ => rfl) us hl
 have F6:=fun_mk (st:=s_p_words_of) l6 c6 k6
 have b6:=F6.binds (ps:=["lexicon"]) fun _ _ _ _ _ _ us hl => us1 (p:=fun us => bindArgs _ ⟨us,[]⟩ = pure (List.zip _ us)) (fun _ => rfl) us hl
 have F7:=fun_mk (st:=s_p_goals_wish) l7 c7 k7
 have b7:=F7.binds (ps:=["lexicon"]) fun _ _ _ _ _ _ us hl => us1 (p:=fun us => bindArgs _ ⟨us,[]⟩ = pure (List.zip _ us)) (fun _ => rfl) us hl
 have F8:=fun_mk (st:=s_p_mirrored_arc) l8 c8 k8
 have b8:=F8.binds (ps:=["arc","last"]) fun _ _ _ _ _ _ us hl => us2 (p:=fun us => bindArgs _ ⟨us,[]⟩ = pure (List.zip _ us)) (fun _ _ => rfl) us hl
 have F9:=fun_mk (st:=s_l_parts) l9 c9 k9
 have b9:=F9.binds (ps:=["_law_cell","_law_sizes"]) fun _ _ _ _ _ _ us hl => us2 (p:=fun us => bindArgs _ ⟨us,[]⟩ = pure (List.zip _ us)) (fun _ _ => rfl) us hl
 have F10:=fun_mk (st:=s_l_letters) l10 c10 k10
 have b10:=F10.binds (ps:=["_law_xs","_law_amount"]) fun _ _ _ _ _ _ us hl => us2 (p:=fun us => bindArgs _ ⟨us,[]⟩ = pure (List.zip _ us)) (fun _ _ => rfl) us hl
 have F11:=fun_mk (st:=s_l_most) l11 c11 k11
 have b11:=F11.binds (ps:=["_law_order","_law_one","_law_other"]) fun _ _ _ _ _ _ us hl => us3 (p:=fun us => bindArgs _ ⟨us,[]⟩ = pure (List.zip _ us)) (fun _ _ _ => rfl) us hl
 have F12:=fun_mk (st:=s_l_matched) l12 c12 k12
 have b12:=F12.binds (ps:=["_law_xs","_law_amount"]) fun _ _ _ _ _ _ us hl => us2 (p:=fun us => bindArgs _ ⟨us,[]⟩ = pure (List.zip _ us)) (fun _ _ => rfl) us hl
 have F13:=fun_mk (st:=s_l_cut) l13 c13 k13
 have b13:=F13.binds (ps:=["_law_xs","_law_signs_here"]) fun _ _ _ _ _ _ us hl => us2 (p:=fun us => bindArgs _ ⟨us,[]⟩ = pure (List.zip _ us)) (fun _ _ => rfl) us hl
 have F14:=fun_mk (st:=s_l_kinds) l14 c14 k14
 have b14:=F14.binds (ps:=["_law_kind","_law_xs","_law_marks"]) fun _ _ _ _ _ _ us hl => us3 (p:=fun us => bindArgs _ ⟨us,[]⟩ = pure (List.zip _ us)) (fun _ _ _ => rfl) us hl
 have F15:=fun_mk (st:=s_l_whole) l15 c15 k15
 have b15:=F15.binds (ps:=["_law_thing"]) fun _ _ _ _ _ _ us hl => us1 (p:=fun us => bindArgs _ ⟨us,[]⟩ = pure (List.zip _ us)) (fun _ => rfl) us hl
 have F16:=fun_mk (st:=s_l_mirrored) l16 c16 k16
 have b16:=F16.binds (ps:=["_law_lexicon"]) fun _ _ _ _ _ _ us hl => us1 (p:=fun us => bindArgs _ ⟨us,[]⟩ = pure (List.zip _ us)) (fun _ => rfl) us hl
 have F17:=fun_mk (st:=s_p_at_most) l17 c17 k17
 have b17:=F17.binds (ps:=["order","one","other"]) fun _ _ _ _ _ _ us hl => us3 (p:=fun us => bindArgs _ ⟨us,[]⟩ = pure (List.zip _ us)) (fun _ _ _ => rfl) us hl
 have F18:=fun_mk (st:=s_p_is_arc) l18 c18 k18
 have b18:=F18.binds (ps:=["thing","many"]) fun _ _ _ _ _ _ us hl => us2 (p:=fun us => bindArgs _ ⟨us,[]⟩ = pure (List.zip _ us)) (fun _ _ => rfl) us hl
 have F19:=fun_mk (st:=s_p_has_word) l19 c19 k19
 have b19:=F19.binds (ps:=["lexicon","thing"]) fun _ _ _ _ _ _ us hl => us2 (p:=fun us => bindArgs _ ⟨us,[]⟩ = pure (List.zip _ us)) (fun _ _ => rfl) us hl
 have F20:=fun_mk (st:=s_p_mirrored) l20 c20 k20
 have b20:=F20.binds (ps:=["lexicon"]) fun _ _ _ _ _ _ us hl => us1 (p:=fun us => bindArgs _ ⟨us,[]⟩ = pure (List.zip _ us)) (fun _ => rfl) us hl
 have F21:=fun_mk (st:=s_l_signs) l21 c21 k21
 have b21:=F21.binds (ps:=["_law_xs","_law_arcs","_law_marks","_law_order","_law_goal"]) fun _ _ _ _ _ _ us hl => us5 (p:=fun us => bindArgs _ ⟨us,[]⟩ = pure (List.zip _ us)) (fun _ _ _ _ _ => rfl) us hl
 have F22:=fun_mk (st:=s_l_cancel) l22 c22 k22
 have b22:=F22.binds (ps:=["_law_order","_law_one","_law_other"]) fun _ _ _ _ _ _ us hl => us3 (p:=fun us => bindArgs _ ⟨us,[]⟩ = pure (List.zip _ us)) (fun _ _ _ => rfl) us hl
 have F23:=fun_mk (st:=s_p_mark_leads) l23 c23 k23
 have b23:=F23.binds (ps:=["order","turn","one","other"]) fun _ _ _ _ _ _ us hl => us4 (p:=fun us => bindArgs _ ⟨us,[]⟩ = pure (List.zip _ us)) (fun _ _ _ _ => rfl) us hl
 have F24:=fun_mk (st:=s_p_are_arcs) l24 c24 k24
 have b24:=F24.binds (ps:=["thing","many"]) fun _ _ _ _ _ _ us hl => us2 (p:=fun us => bindArgs _ ⟨us,[]⟩ = pure (List.zip _ us)) (fun _ _ => rfl) us hl
 have F25:=fun_mk (st:=s_p_kinds_of) l25 c25 k25
 have b25:=F25.binds (ps:=["lexicon","word"]) fun _ _ _ _ _ _ us hl => us2 (p:=fun us => bindArgs _ ⟨us,[]⟩ = pure (List.zip _ us)) (fun _ _ => rfl) us hl
 have F26:=fun_mk (st:=s_l_sentence) l26 c26 k26
 have b26:=F26.binds (ps:=["_law_cell"]) fun _ _ _ _ _ _ us hl => us1 (p:=fun us => bindArgs _ ⟨us,[]⟩ = pure (List.zip _ us)) (fun _ => rfl) us hl
 have F27:=fun_mk (st:=s_l_arcs_right) l27 c27 k27
 have b27:=F27.binds (ps:=["_law_order","_law_row","_law_arcs"]) fun _ _ _ _ _ _ us hl => us3 (p:=fun us => bindArgs _ ⟨us,[]⟩ = pure (List.zip _ us)) (fun _ _ _ => rfl) us hl
 have F28:=fun_mk (st:=s_p_cancel) l28 c28 k28
 have b28:=F28.binds (ps:=["order","one","other"]) fun _ _ _ _ _ _ us hl => us3 (p:=fun us => bindArgs _ ⟨us,[]⟩ = pure (List.zip _ us)) (fun _ _ _ => rfl) us hl
 have F29:=fun_mk (st:=s_p_refuse_other_words) l29 c29 k29
 have b29:=F29.binds (ps:=["lexicon","words"]) fun _ _ _ _ _ _ us hl => us2 (p:=fun us => bindArgs _ ⟨us,[]⟩ = pure (List.zip _ us)) (fun _ _ => rfl) us hl
 have F30:=fun_mk (st:=s_p_signs_of) l30 c30 k30
 have b30:=F30.binds (ps:=["lexicon","words","choice"]) fun _ _ _ _ _ _ us hl => us3 (p:=fun us => bindArgs _ ⟨us,[]⟩ = pure (List.zip _ us)) (fun _ _ _ => rfl) us hl
 have F31:=fun_mk (st:=s_p_is_choice) l31 c31 k31
 have b31:=F31.binds (ps:=["lexicon","words","thing"]) fun _ _ _ _ _ _ us hl => us3 (p:=fun us => bindArgs _ ⟨us,[]⟩ = pure (List.zip _ us)) (fun _ _ _ => rfl) us hl
 have F32:=fun_mk (st:=s_l_drawn) l32 c32 k32
 have b32:=F32.binds (ps:=["_law_lexicon","_law_words","_law_drawing"]) fun _ _ _ _ _ _ us hl => us3 (p:=fun us => bindArgs _ ⟨us,[]⟩ = pure (List.zip _ us)) (fun _ _ _ => rfl) us hl
 have F33:=fun_mk (st:=s_p_is_drawing) l33 c33 k33
 have b33:=F33.binds (ps:=["order","row","arcs"]) fun _ _ _ _ _ _ us hl => us3 (p:=fun us => bindArgs _ ⟨us,[]⟩ = pure (List.zip _ us)) (fun _ _ _ => rfl) us hl
 have F34:=fun_mk (st:=s_p_is_words_drawing) l34 c34 k34
 have b34:=F34.binds (ps:=["lexicon","words","thing"]) fun _ _ _ _ _ _ us hl => us3 (p:=fun us => bindArgs _ ⟨us,[]⟩ = pure (List.zip _ us)) (fun _ _ _ => rfl) us hl
 have F35:=fun_mk (st:=s_p_refuse_no_drawing) l35 c35 k35
 have b35:=F35.binds (ps:=["lexicon","words","thing"]) fun _ _ _ _ _ _ us hl => us3 (p:=fun us => bindArgs _ ⟨us,[]⟩ = pure (List.zip _ us)) (fun _ _ _ => rfl) us hl
 have F36:=fun_mk (st:=s_p_mirrored_drawing) l36 c36 k36
 have b36:=F36.binds (ps:=["lexicon","words","drawing"]) fun _ _ _ _ _ _ us hl => us3 (p:=fun us => bindArgs _ ⟨us,[]⟩ = pure (List.zip _ us)) (fun _ _ _ => rfl) us hl
 have F37:=fun_mk (st:=s_law) l37 c37 k37
 refine ⟨PySem.W.fnOf "law" "law" (defArgs s_law) (defBody s_law) (defScope s_law) .none kV37 dc37 pm37 an37 cd37 ct37,fun s v => .of_eq rfl,fun base _ _ => ?_⟩
 have g_p_is_whole:FnD l.prog w K mg base "is_whole" 1 1 S_p_is_whole:=⟨_,_,_,ok_p_is_whole F0 T ,PySem.W.mg_of X G a0,k0,b0⟩
 have g_p_is_tuple_of:FnD l.prog w K mg base "is_tuple_of" 1 2 S_p_is_tuple_of:=⟨_,_,_,ok_p_is_tuple_of F1 T ,PySem.W.mg_of X G a1,k1,b1⟩
 have g_p_is_short_word:FnD l.prog w K mg base "is_short_word" 1 1 S_p_is_short_word:=⟨_,_,_,ok_p_is_short_word F2 T ,PySem.W.mg_of X G a2,k2,b2⟩
 have g_p_reached_from:FnD l.prog w K mg base "reached_from" 1 2 S_p_reached_from:=⟨_,_,_,ok_p_reached_from F3 T ,PySem.W.mg_of X G a3,k3,b3⟩
 have g_p_mirror:FnD l.prog w K mg base "mirror" 1 1 S_p_mirror:=⟨_,_,_,ok_p_mirror F4 T ,PySem.W.mg_of X G a4,k4,b4⟩
 have g_p_some_cross:FnD l.prog w K mg base "some_cross" 1 1 S_p_some_cross:=⟨_,_,_,ok_p_some_cross F5 T ,PySem.W.mg_of X G a5,k5,b5⟩
 have g_p_words_of:FnD l.prog w K mg base "words_of" 1 1 S_p_words_of:=⟨_,_,_,ok_p_words_of F6 T ,PySem.W.mg_of X G a6,k6,b6⟩
 have g_p_goals_wish:FnD l.prog w K mg base "goals_wish" 1 1 S_p_goals_wish:=⟨_,_,_,ok_p_goals_wish F7 T ,PySem.W.mg_of X G a7,k7,b7⟩
 have g_p_mirrored_arc:FnD l.prog w K mg base "mirrored_arc" 1 2 S_p_mirrored_arc:=⟨_,_,_,ok_p_mirrored_arc F8 T ,PySem.W.mg_of X G a8,k8,b8⟩
 have g_l_parts:FnD l.prog w K mg base "_law_parts" 1 2 S_l_parts:=⟨_,_,_,ok_l_parts F9 T ,PySem.W.mg_of X G a9,k9,b9⟩
 have g_l_letters:FnD l.prog w K mg base "_law_letters" 1 2 S_l_letters:=⟨_,_,_,ok_l_letters F10 T ,PySem.W.mg_of X G a10,k10,b10⟩
 have g_l_most:FnD l.prog w K mg base "_law_most" 1 3 S_l_most:=⟨_,_,_,ok_l_most F11 T ,PySem.W.mg_of X G a11,k11,b11⟩
 have g_l_matched:FnD l.prog w K mg base "_law_matched" 1 2 S_l_matched:=⟨_,_,_,ok_l_matched F12 T ,PySem.W.mg_of X G a12,k12,b12⟩
 have g_l_cut:FnD l.prog w K mg base "_law_cut" 1 2 S_l_cut:=⟨_,_,_,ok_l_cut F13 T ,PySem.W.mg_of X G a13,k13,b13⟩
 have g_l_kinds:FnD l.prog w K mg base "_law_kinds" 1 3 S_l_kinds:=⟨_,_,_,ok_l_kinds F14 T ,PySem.W.mg_of X G a14,k14,b14⟩
 have g_l_whole:FnD l.prog w K mg base "_law_whole" 1 1 S_l_whole:=⟨_,_,_,ok_l_whole F15 T ,PySem.W.mg_of X G a15,k15,b15⟩
 have g_l_mirrored:FnD l.prog w K mg base "_law_mirrored" 1 1 S_l_mirrored:=⟨_,_,_,ok_l_mirrored F16 T ,PySem.W.mg_of X G a16,k16,b16⟩
 have g_p_at_most:FnD l.prog w K mg base "at_most" 2 3 S_p_at_most:=⟨_,_,_,ok_p_at_most F17 T g_p_reached_from,PySem.W.mg_of X G a17,k17,b17⟩
 have g_p_is_arc:FnD l.prog w K mg base "is_arc" 2 2 S_p_is_arc:=⟨_,_,_,ok_p_is_arc F18 T g_p_is_tuple_of g_p_is_whole,PySem.W.mg_of X G a18,k18,b18⟩
 have g_p_has_word:FnD l.prog w K mg base "has_word" 2 2 S_p_has_word:=⟨_,_,_,ok_p_has_word F19 T g_p_is_short_word g_p_words_of,PySem.W.mg_of X G a19,k19,b19⟩
 have g_p_mirrored:FnD l.prog w K mg base "mirrored" 2 1 S_p_mirrored:=⟨_,_,_,ok_p_mirrored F20 T g_p_mirror,PySem.W.mg_of X G a20,k20,b20⟩
 have g_l_signs:FnD l.prog w K mg base "_law_signs" 2 5 S_l_signs:=⟨_,_,_,ok_l_signs F21 T g_l_most,PySem.W.mg_of X G a21,k21,b21⟩
 have g_l_cancel:FnD l.prog w K mg base "_law_cancel" 2 3 S_l_cancel:=⟨_,_,_,ok_l_cancel F22 T g_l_most,PySem.W.mg_of X G a22,k22,b22⟩
 have g_p_mark_leads:FnD l.prog w K mg base "mark_leads" 3 4 S_p_mark_leads:=⟨_,_,_,ok_p_mark_leads F23 T g_p_at_most,PySem.W.mg_of X G a23,k23,b23⟩
 have g_p_are_arcs:FnD l.prog w K mg base "are_arcs" 3 2 S_p_are_arcs:=⟨_,_,_,ok_p_are_arcs F24 T g_p_is_arc,PySem.W.mg_of X G a24,k24,b24⟩
 have g_p_kinds_of:FnD l.prog w K mg base "kinds_of" 3 2 S_p_kinds_of:=⟨_,_,_,ok_p_kinds_of F25 T g_p_has_word g_p_words_of,PySem.W.mg_of X G a25,k25,b25⟩
 have g_l_sentence:FnD l.prog w K mg base "_law_sentence" 3 1 S_l_sentence:=⟨_,_,_,ok_l_sentence F26 T g_l_parts g_l_matched g_l_signs g_l_cut g_l_letters g_l_kinds,PySem.W.mg_of X G a26,k26,b26⟩
 have g_l_arcs_right:FnD l.prog w K mg base "_law_arcs_right" 3 3 S_l_arcs_right:=⟨_,_,_,ok_l_arcs_right F27 T g_l_whole g_l_cancel,PySem.W.mg_of X G a27,k27,b27⟩
 have g_p_cancel:FnD l.prog w K mg base "cancel" 4 3 S_p_cancel:=⟨_,_,_,ok_p_cancel F28 T g_p_mark_leads,PySem.W.mg_of X G a28,k28,b28⟩
 have g_p_refuse_other_words:FnD l.prog w K mg base "refuse_other_words" 4 2 S_p_refuse_other_words:=⟨_,_,_,ok_p_refuse_other_words F29 T g_p_kinds_of,PySem.W.mg_of X G a29,k29,b29⟩
 have g_p_signs_of:FnD l.prog w K mg base "signs_of" 4 3 S_p_signs_of:=⟨_,_,_,ok_p_signs_of F30 T g_p_kinds_of g_p_goals_wish,PySem.W.mg_of X G a30,k30,b30⟩
 have g_p_is_choice:FnD l.prog w K mg base "is_choice" 4 3 S_p_is_choice:=⟨_,_,_,ok_p_is_choice F31 T g_p_is_tuple_of g_p_is_whole g_p_kinds_of,PySem.W.mg_of X G a31,k31,b31⟩
 have g_l_drawn:FnD l.prog w K mg base "_law_drawn" 4 3 S_l_drawn:=⟨_,_,_,ok_l_drawn F32 T g_l_arcs_right g_l_whole,PySem.W.mg_of X G a32,k32,b32⟩
 have g_p_is_drawing:FnD l.prog w K mg base "is_drawing" 5 3 S_p_is_drawing:=⟨_,_,_,ok_p_is_drawing F33 T g_p_are_arcs g_p_some_cross g_p_cancel,PySem.W.mg_of X G a33,k33,b33⟩
 have g_p_is_words_drawing:FnD l.prog w K mg base "is_words_drawing" 6 3 S_p_is_words_drawing:=⟨_,_,_,ok_p_is_words_drawing F34 T g_p_is_tuple_of g_p_is_choice g_p_is_drawing g_p_signs_of,PySem.W.mg_of X G a34,k34,b34⟩
 have g_p_refuse_no_drawing:FnD l.prog w K mg base "refuse_no_drawing" 7 3 S_p_refuse_no_drawing:=⟨_,_,_,ok_p_refuse_no_drawing F35 T g_p_is_words_drawing,PySem.W.mg_of X G a35,k35,b35⟩
 have g_p_mirrored_drawing:FnD l.prog w K mg base "mirrored_drawing" 8 3 S_p_mirrored_drawing:=⟨_,_,_,ok_p_mirrored_drawing F36 T g_p_refuse_other_words g_p_refuse_no_drawing g_p_signs_of g_p_mirrored_arc,PySem.W.mg_of X G a36,k36,b36⟩
 exact ok_law F37 T g_l_sentence g_p_mirrored g_p_mirrored_drawing g_l_mirrored g_l_drawn
end My
namespace PySem.W.Fast
theorem tw10221255195715214309:True:=⟨⟩
theorem tw10372552037416407787:True:=⟨⟩
theorem tw10373498165211983117:True:=⟨⟩
theorem tw10378770329558938747:True:=⟨⟩
theorem tw10447471944918836847:True:=⟨⟩
theorem tw10499103101661444334:True:=⟨⟩
theorem tw10500571103395081578:True:=⟨⟩
theorem tw10534329100448014559:True:=⟨⟩
theorem tw10552348772324916003:True:=⟨⟩
theorem tw10585685737627985310:True:=⟨⟩
theorem tw10602223011691681260:True:=⟨⟩
theorem tw10754348699225702514:True:=⟨⟩
theorem tw10912738817955831842:True:=⟨⟩
theorem tw11041724833845177102:True:=⟨⟩
theorem tw11095564940832117951:True:=⟨⟩
theorem tw11102067184499677121:True:=⟨⟩
theorem tw11156232320122047979:True:=⟨⟩
theorem tw11171015361508767811:True:=⟨⟩
theorem tw11322446435837288465:True:=⟨⟩
theorem tw11393710268800675321:True:=⟨⟩
theorem tw11462527887778027842:True:=⟨⟩
theorem tw11505280337826039265:True:=⟨⟩
theorem tw11670421884095167722:True:=⟨⟩
theorem tw11762838361115813538:True:=⟨⟩
theorem tw11820263000683622145:True:=⟨⟩
theorem tw11824883526446653469:True:=⟨⟩
theorem tw11851691533142153046:True:=⟨⟩
theorem tw11907903117925145965:True:=⟨⟩
theorem tw11950242886056073182:True:=⟨⟩
theorem tw11957999701699659959:True:=⟨⟩
theorem tw11983962166793947781:True:=⟨⟩
theorem tw1200688303458306766:True:=⟨⟩
theorem tw12102613345074540319:True:=⟨⟩
theorem tw12469964929989996845:True:=⟨⟩
theorem tw12477499618758468206:True:=⟨⟩
theorem tw12497308746585430817:True:=⟨⟩
theorem tw12569914261444308622:True:=⟨⟩
theorem tw12611574971644571091:True:=⟨⟩
theorem tw12707700631643498184:True:=⟨⟩
theorem tw12708497615254029735:True:=⟨⟩
theorem tw12716230880212416111:True:=⟨⟩
theorem tw12868304600178409315:True:=⟨⟩
theorem tw12882936384801295774:True:=⟨⟩
theorem tw12883761716458277781:True:=⟨⟩
theorem tw13010820102123291474:True:=⟨⟩
theorem tw13050604573073710979:True:=⟨⟩
theorem tw13087436661115110760:True:=⟨⟩
theorem tw1324875306344305873:True:=⟨⟩
theorem tw13284958601654036854:True:=⟨⟩
theorem tw13291244621194846536:True:=⟨⟩
theorem tw13444731930112915261:True:=⟨⟩
theorem tw13476114468127800395:True:=⟨⟩
theorem tw13492315626202690416:True:=⟨⟩
theorem tw13554563577848371424:True:=⟨⟩
theorem tw13622696523430835818:True:=⟨⟩
theorem tw13628702257107070349:True:=⟨⟩
theorem tw13629898761448159539:True:=⟨⟩
theorem tw13702201199836940247:True:=⟨⟩
theorem tw13729289032661938802:True:=⟨⟩
theorem tw13887994358924940210:True:=⟨⟩
theorem tw13896472534679426287:True:=⟨⟩
theorem tw1394183922173354952:True:=⟨⟩
theorem tw13948055210753659299:True:=⟨⟩
theorem tw14039523165724317364:True:=⟨⟩
theorem tw14056202285907933579:True:=⟨⟩
theorem tw14078076409314462473:True:=⟨⟩
theorem tw14122231903065765823:True:=⟨⟩
theorem tw14150097584300515042:True:=⟨⟩
theorem tw14406998805583732701:True:=⟨⟩
theorem tw1450140605761213448:True:=⟨⟩
theorem tw14552932006847052088:True:=⟨⟩
theorem tw14561728573629414205:True:=⟨⟩
theorem tw14599349166091178089:True:=⟨⟩
theorem tw14615020562050581547:True:=⟨⟩
theorem tw14754379765994420598:True:=⟨⟩
theorem tw14831506416788700041:True:=⟨⟩
theorem tw15104641981466512631:True:=⟨⟩
theorem tw15131826396071667543:True:=⟨⟩
theorem tw151941900540250386:True:=⟨⟩
theorem tw15200448088225750504:True:=⟨⟩
theorem tw15282475516331639117:True:=⟨⟩
theorem tw15415456206305316535:True:=⟨⟩
theorem tw15445461490032258606:True:=⟨⟩
theorem tw15500234306380018474:True:=⟨⟩
theorem tw15505728536444986270:True:=⟨⟩
theorem tw15516089461739825986:True:=⟨⟩
theorem tw15523602830487386851:True:=⟨⟩
theorem tw15533476667066899784:True:=⟨⟩
theorem tw1560425775954986468:True:=⟨⟩
theorem tw15694059210514371408:True:=⟨⟩
theorem tw15844022417079460081:True:=⟨⟩
theorem tw15913815916323412702:True:=⟨⟩
theorem tw16038774529315493500:True:=⟨⟩
theorem tw1608691854578718498:True:=⟨⟩
theorem tw16127956273368645364:True:=⟨⟩
theorem tw16169927652909478392:True:=⟨⟩
theorem tw16191985323421652657:True:=⟨⟩
theorem tw16360246621074709477:True:=⟨⟩
theorem tw16379906832324274916:True:=⟨⟩
theorem tw16504520818155054974:True:=⟨⟩
theorem tw16573746660054939190:True:=⟨⟩
theorem tw16636278250569205352:True:=⟨⟩
theorem tw16715452103221343910:True:=⟨⟩
theorem tw16793956918136740768:True:=⟨⟩
theorem tw16815833080162902499:True:=⟨⟩
theorem tw16886751274319028072:True:=⟨⟩
theorem tw17058518962595513455:True:=⟨⟩
theorem tw17165443931749942519:True:=⟨⟩
theorem tw17203645554387368690:True:=⟨⟩
theorem tw17237562655112405515:True:=⟨⟩
theorem tw17250065026857575423:True:=⟨⟩
theorem tw17385793600942624677:True:=⟨⟩
theorem tw17524052265024596362:True:=⟨⟩
theorem tw17555623771637870557:True:=⟨⟩
theorem tw17717549806956821517:True:=⟨⟩
theorem tw17755078390415057380:True:=⟨⟩
theorem tw17771594516684925151:True:=⟨⟩
theorem tw17901900996678384664:True:=⟨⟩
theorem tw17908461473244566878:True:=⟨⟩
theorem tw18174210576904254767:True:=⟨⟩
theorem tw18244172843303556715:True:=⟨⟩
theorem tw18264435164566793533:True:=⟨⟩
theorem tw18275412070462628760:True:=⟨⟩
theorem tw18326015944674433925:True:=⟨⟩
theorem tw1833363338726309052:True:=⟨⟩
theorem tw1836191481714115287:True:=⟨⟩
theorem tw18380324891334930279:True:=⟨⟩
theorem tw18404070175060347129:True:=⟨⟩
theorem tw18418321254611308397:True:=⟨⟩
theorem tw1846279929472149580:True:=⟨⟩
theorem tw2002554043271160877:True:=⟨⟩
theorem tw2208357700240155628:True:=⟨⟩
theorem tw2283915586573534337:True:=⟨⟩
theorem tw2298799489290897070:True:=⟨⟩
theorem tw2403528969539372518:True:=⟨⟩
theorem tw2520587006243773434:True:=⟨⟩
theorem tw2554967105321466532:True:=⟨⟩
theorem tw2790154533499324673:True:=⟨⟩
theorem tw2832991062803240252:True:=⟨⟩
theorem tw2866730186421245220:True:=⟨⟩
theorem tw2896927199158698551:True:=⟨⟩
theorem tw2913007296430222340:True:=⟨⟩
theorem tw2980149236498244431:True:=⟨⟩
theorem tw3046317230014239883:True:=⟨⟩
theorem tw3126501404583451716:True:=⟨⟩
theorem tw3237501082513564719:True:=⟨⟩
theorem tw3241025206613042502:True:=⟨⟩
theorem tw334453055258938433:True:=⟨⟩
theorem tw3359789568948848919:True:=⟨⟩
theorem tw3544776713146248434:True:=⟨⟩
theorem tw3552862382838658490:True:=⟨⟩
theorem tw3624194760434896081:True:=⟨⟩
theorem tw3706961682593474354:True:=⟨⟩
theorem tw3719612461578747860:True:=⟨⟩
theorem tw3756149671660937398:True:=⟨⟩
theorem tw3849221490389161987:True:=⟨⟩
theorem tw3875192532523242353:True:=⟨⟩
theorem tw3883996031963678738:True:=⟨⟩
theorem tw3887774739356592868:True:=⟨⟩
theorem tw3900497982971342185:True:=⟨⟩
theorem tw3942220167293174182:True:=⟨⟩
theorem tw3982012683105455540:True:=⟨⟩
theorem tw4029989281283670408:True:=⟨⟩
theorem tw4060569922267842839:True:=⟨⟩
theorem tw4106256754080835900:True:=⟨⟩
theorem tw4131331579603568693:True:=⟨⟩
theorem tw4237458034182017346:True:=⟨⟩
theorem tw4530157386885399264:True:=⟨⟩
theorem tw4548285269027977911:True:=⟨⟩
theorem tw465752633624998896:True:=⟨⟩
theorem tw4663010199654466756:True:=⟨⟩
theorem tw4689644364831801988:True:=⟨⟩
theorem tw4706169972267948680:True:=⟨⟩
theorem tw4707469061295165608:True:=⟨⟩
theorem tw4723065281398077853:True:=⟨⟩
theorem tw4745271082720775002:True:=⟨⟩
theorem tw4819995203199113926:True:=⟨⟩
theorem tw4832934035315293146:True:=⟨⟩
theorem tw4919181201753864597:True:=⟨⟩
theorem tw4941569101766043084:True:=⟨⟩
theorem tw5029994292225753524:True:=⟨⟩
theorem tw5129058060278567864:True:=⟨⟩
theorem tw5242642788956205560:True:=⟨⟩
theorem tw5245536174802386392:True:=⟨⟩
theorem tw5252781260946669370:True:=⟨⟩
theorem tw525528313117392884:True:=⟨⟩
theorem tw5261855323074411080:True:=⟨⟩
theorem tw5279952225200468349:True:=⟨⟩
theorem tw5328217735762594502:True:=⟨⟩
theorem tw5421737619961536044:True:=⟨⟩
theorem tw5465297477234823097:True:=⟨⟩
theorem tw5511496199982633391:True:=⟨⟩
theorem tw5557735920141267615:True:=⟨⟩
theorem tw5721248036243619122:True:=⟨⟩
theorem tw5850269399750452943:True:=⟨⟩
theorem tw5881620721010929494:True:=⟨⟩
theorem tw6016585577385997580:True:=⟨⟩
theorem tw6073431941036498095:True:=⟨⟩
theorem tw609660055160612976:True:=⟨⟩
theorem tw6129667165921715704:True:=⟨⟩
theorem tw6154063344242047369:True:=⟨⟩
theorem tw6230890187188084045:True:=⟨⟩
theorem tw6254069313425637681:True:=⟨⟩
theorem tw6286763705362111598:True:=⟨⟩
theorem tw6318974683297038781:True:=⟨⟩
theorem tw6349707674283113290:True:=⟨⟩
theorem tw6354680454954521008:True:=⟨⟩
theorem tw6518254847429664706:True:=⟨⟩
theorem tw6521835566478271692:True:=⟨⟩
theorem tw6623275174745347710:True:=⟨⟩
theorem tw6666846969409343452:True:=⟨⟩
theorem tw6733396153025236910:True:=⟨⟩
theorem tw6834634414478114362:True:=⟨⟩
theorem tw6871029859966287245:True:=⟨⟩
theorem tw6945098681095457991:True:=⟨⟩
theorem tw6954534150578293339:True:=⟨⟩
theorem tw6964952594049930113:True:=⟨⟩
theorem tw7023158732009927537:True:=⟨⟩
theorem tw7087636404175028349:True:=⟨⟩
theorem tw7312362100873961635:True:=⟨⟩
theorem tw7439360767897126098:True:=⟨⟩
theorem tw7489019818359633526:True:=⟨⟩
theorem tw7516871725293713735:True:=⟨⟩
theorem tw7671791055161010090:True:=⟨⟩
theorem tw7681295985265695025:True:=⟨⟩
theorem tw7713699048368797979:True:=⟨⟩
theorem tw7732973819294262504:True:=⟨⟩
theorem tw7791826276900973183:True:=⟨⟩
theorem tw7835322580814360893:True:=⟨⟩
theorem tw7994410141560838430:True:=⟨⟩
theorem tw7995355104230957152:True:=⟨⟩
theorem tw8051396295249380604:True:=⟨⟩
theorem tw8072580074413890734:True:=⟨⟩
theorem tw8097685634787759081:True:=⟨⟩
theorem tw8111826792759543874:True:=⟨⟩
theorem tw8148707129600814021:True:=⟨⟩
theorem tw8155808789049092351:True:=⟨⟩
theorem tw8250818942618061214:True:=⟨⟩
theorem tw8318343921585330094:True:=⟨⟩
theorem tw8377158063426160161:True:=⟨⟩
theorem tw8383871226543927690:True:=⟨⟩
theorem tw851471373241408143:True:=⟨⟩
theorem tw8615073919708046211:True:=⟨⟩
theorem tw8727269119916162099:True:=⟨⟩
theorem tw8755907396452838163:True:=⟨⟩
theorem tw8818234586575000459:True:=⟨⟩
theorem tw8880282129469490569:True:=⟨⟩
theorem tw8889736583831339124:True:=⟨⟩
theorem tw8924138209448685356:True:=⟨⟩
theorem tw8943960276600171459:True:=⟨⟩
theorem tw9094677025770190453:True:=⟨⟩
theorem tw9113081883667398878:True:=⟨⟩
theorem tw9259765335747374566:True:=⟨⟩
theorem tw9274643608856027755:True:=⟨⟩
theorem tw9335209140811286738:True:=⟨⟩
theorem tw9386732877448248080:True:=⟨⟩
theorem tw9414224410269902795:True:=⟨⟩
theorem tw9486707513823853410:True:=⟨⟩
theorem tw9541697483318670916:True:=⟨⟩
theorem tw9699531162817980646:True:=⟨⟩
theorem tw9741928626758877443:True:=⟨⟩
theorem tw9846639774778523865:True:=⟨⟩
theorem tw9880915209616155492:True:=⟨⟩
theorem tw9956116631614276095:True:=⟨⟩
end PySem.W.Fast
open PySem PySem.W PyProof.Rows
set_option maxRecDepth 100000 in
set_option maxHeartbeats 0 in
theorem PySem.Challenge.cw_wordwishes_k50_lexicons_mirrored_holds : PySem.Challenge.rw_wordwishes_k50_lexicons_mirrored.Holds := by
 w_on; o_law; z_head; (case hw => w_witness2)
 k_fill
 refine L2.walkX_of (fun _ => rfl) ?_
 refine L2.walkD (S:=My.S_law) My.law_s (k:=9) (x:="_law_script") (l:=PySem.Challenge.rw_wordwishes_k50_lexicons_mirrored) ⟨rfl,by decide,by decide⟩ rfl rfl (fun w h Y => Y) ?F
 case F =>
  intro w mg fa h KX G hmg
  refine' My.all_mk KX G hmg ?a0 ?l0 ?c0 ?k0 ?a1 ?l1 ?c1 ?k1 ?a2 ?l2 ?c2 ?k2 ?a3 ?l3 ?c3 ?k3 ?a4 ?l4 ?c4 ?k4 ?a5 ?l5 ?c5 ?k5 ?a6 ?l6 ?c6 ?k6 ?a7 ?l7 ?c7 ?k7 ?a8 ?l8 ?c8 ?k8 ?a9 ?l9 ?c9 ?k9 ?a10 ?l10 ?c10 ?k10 ?a11 ?l11 ?c11 ?k11 ?a12 ?l12 ?c12 ?k12 ?a13 ?l13 ?c13 ?k13 ?a14 ?l14 ?c14 ?k14 ?a15 ?l15 ?c15 ?k15 ?a16 ?l16 ?c16 ?k16 ?a17 ?l17 ?c17 ?k17 ?a18 ?l18 ?c18 ?k18 ?a19 ?l19 ?c19 ?k19 ?a20 ?l20 ?c20 ?k20 ?a21 ?l21 ?c21 ?k21 ?a22 ?l22 ?c22 ?k22 ?a23 ?l23 ?c23 ?k23 ?a24 ?l24 ?c24 ?k24 ?a25 ?l25 ?c25 ?k25 ?a26 ?l26 ?c26 ?k26 ?a27 ?l27 ?c27 ?k27 ?a28 ?l28 ?c28 ?k28 ?a29 ?l29 ?c29 ?k29 ?a30 ?l30 ?c30 ?k30 ?a31 ?l31 ?c31 ?k31 ?a32 ?l32 ?c32 ?k32 ?a33 ?l33 ?c33 ?k33 ?a34 ?l34 ?c34 ?k34 ?a35 ?l35 ?c35 ?k35 ?a36 ?l36 ?c36 ?k36 ?a37 ?l37 ?c37 ?k37 ?z_isinstance ?z_int ?z_bool ?z_tuple ?z_len ?z_str ?z_all ?z_reversed ?z_sorted ?z_list ?z_range ?z_any ?z_zip ?z_max ?z_SMALL_LETTERS ?z_MOST_LETTERS
  (case a0 => k_is)
  (case l0 => k_is)
  (case c0 => k_is)
  (case k0 => k_is)
  (case a1 => k_is)
  (case l1 => k_is)
  (case c1 => k_is)
  (case k1 => k_is)
  (case a2 => k_is)
  (case l2 => k_is)
  (case c2 => k_is)
  (case k2 => k_is)
  (case a3 => k_is)
  (case l3 => k_is)
  (case c3 => k_is)
  (case k3 => k_is)
  (case a4 => k_is)
  (case l4 => k_is)
  (case c4 => k_is)
  (case k4 => k_is)
  (case a5 => k_is)
  (case l5 => k_is)
  (case c5 => k_is)
  (case k5 => k_is)
  (case a6 => k_is)
  (case l6 => k_is)
  (case c6 => k_is)
  (case k6 => k_is)
  (case a7 => k_is)
  (case l7 => k_is)
  (case c7 => k_is)
  (case k7 => k_is)
  (case a8 => k_is)
  (case l8 => k_is)
  (case c8 => k_is)
  (case k8 => k_is)
  (case a9 => k_is)
  (case l9 => k_is)
  (case c9 => k_is)
  (case k9 => k_is)
  (case a10 => k_is)
  (case l10 => k_is)
  (case c10 => k_is)
  (case k10 => k_is)
  (case a11 => k_is)
  (case l11 => k_is)
  (case c11 => k_is)
  (case k11 => k_is)
  (case a12 => k_is)
  (case l12 => k_is)
  (case c12 => k_is)
  (case k12 => k_is)
  (case a13 => k_is)
  (case l13 => k_is)
  (case c13 => k_is)
  (case k13 => k_is)
  (case a14 => k_is)
  (case l14 => k_is)
  (case c14 => k_is)
  (case k14 => k_is)
  (case a15 => k_is)
  (case l15 => k_is)
  (case c15 => k_is)
  (case k15 => k_is)
  (case a16 => k_is)
  (case l16 => k_is)
  (case c16 => k_is)
  (case k16 => k_is)
  (case a17 => k_is)
  (case l17 => k_is)
  (case c17 => k_is)
  (case k17 => k_is)
  (case a18 => k_is)
  (case l18 => k_is)
  (case c18 => k_is)
  (case k18 => k_is)
  (case a19 => k_is)
  (case l19 => k_is)
  (case c19 => k_is)
  (case k19 => k_is)
  (case a20 => k_is)
  (case l20 => k_is)
  (case c20 => k_is)
  (case k20 => k_is)
  (case a21 => k_is)
  (case l21 => k_is)
  (case c21 => k_is)
  (case k21 => k_is)
  (case a22 => k_is)
  (case l22 => k_is)
  (case c22 => k_is)
  (case k22 => k_is)
  (case a23 => k_is)
  (case l23 => k_is)
  (case c23 => k_is)
  (case k23 => k_is)
  (case a24 => k_is)
  (case l24 => k_is)
  (case c24 => k_is)
  (case k24 => k_is)
  (case a25 => k_is)
  (case l25 => k_is)
  (case c25 => k_is)
  (case k25 => k_is)
  (case a26 => k_is)
  (case l26 => k_is)
  (case c26 => k_is)
  (case k26 => k_is)
  (case a27 => k_is)
  (case l27 => k_is)
  (case c27 => k_is)
  (case k27 => k_is)
  (case a28 => k_is)
  (case l28 => k_is)
  (case c28 => k_is)
  (case k28 => k_is)
  (case a29 => k_is)
  (case l29 => k_is)
  (case c29 => k_is)
  (case k29 => k_is)
  (case a30 => k_is)
  (case l30 => k_is)
  (case c30 => k_is)
  (case k30 => k_is)
  (case a31 => k_is)
  (case l31 => k_is)
  (case c31 => k_is)
  (case k31 => k_is)
  (case a32 => k_is)
  (case l32 => k_is)
  (case c32 => k_is)
  (case k32 => k_is)
  (case a33 => k_is)
  (case l33 => k_is)
  (case c33 => k_is)
  (case k33 => k_is)
  (case a34 => k_is)
  (case l34 => k_is)
  (case c34 => k_is)
  (case k34 => k_is)
  (case a35 => k_is)
  (case l35 => k_is)
  (case c35 => k_is)
  (case k35 => k_is)
  (case a36 => k_is)
  (case l36 => k_is)
  (case c36 => k_is)
  (case k36 => k_is)
  (case a37 => k_is)
  (case l37 => k_is)
  (case c37 => k_is)
  (case k37 => k_is)
  (case z_isinstance => k_is)
  (case z_int => k_is)
  (case z_bool => k_is)
  (case z_tuple => k_is)
  (case z_len => k_is)
  (case z_str => k_is)
  (case z_all => k_is)
  (case z_reversed => k_is)
  (case z_sorted => k_is)
  (case z_list => k_is)
  (case z_range => k_is)
  (case z_any => k_is)
  (case z_zip => k_is)
  (case z_max => k_is)
  (case z_SMALL_LETTERS => k_is)
  (case z_MOST_LETTERS => k_is)
