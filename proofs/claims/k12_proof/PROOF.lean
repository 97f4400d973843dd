import PyProof.Rows.All
import Wide.All
import OpenK.AllK
import Wide.FinOn
import Lean
import PyProof.EqAt
import PyProof.EqKinds
import PyProof.TupleCall
import KE.KRevIter
import PyProof.NeKinds
import PyProof.Draws
import PyProof.EnumMake
import PySem.Challenge.RW_wordwishes_k12_neighbours_that_cancel
set_option Elab.async false
set_option linter.all false
set_option maxRecDepth 100000
set_option compiler.extract_closed false
/-! THE HAND LAYER, for ints, bools, texts, own classes, LISTS and tuples (index, slices, in, append, pop ..), calls, loops. Paste it whole ahead of your own text; what your proof does not reach may be deleted. -/
namespace L2
open PySem PySem.Spec PyProof.Rows

abbrev Key := Sum Int Str
def keyIs : Key → Value → Bool
  | .inl k, v => Value.isInt k v
  | .inr x, v => Value.isStrOf x v
def keyH (w : World) : Key → Int
  | .inl k => hashInt k
  | .inr x => hashStr w x
theorem keyIs_shape : ∀ {k : Key} {v : Value}, keyIs k v = true → (∃ i t, k = Sum.inl i ∧ v = Value.int i t) ∨ (∃ x t, k = Sum.inr x ∧ v = Value.str x t)
  | .inl i, v, h => by
    obtain ⟨t, e⟩ := Value.isInt_shape (k := i) (v := v) h
    exact .inl ⟨i, t, rfl, e⟩
  | .inr x, v, h => by
    obtain ⟨t, e⟩ := Value.isStrOf_shape (x := x) (v := v) h
    exact .inr ⟨x, t, rfl, e⟩
theorem key_ll (a b : Int) : decide ((Sum.inl a : Key) = Sum.inl b) = (a == b) := by
  by_cases e : a = b
  · subst e; simp
  · have h : ¬ (Sum.inl a : Key) = Sum.inl b := fun q => e (Sum.inl.inj q)
    rw [decide_eq_false h]
    exact (beq_eq_false_iff_ne.mpr e).symm
theorem key_rr (a b : Str) : decide ((Sum.inr a : Key) = Sum.inr b) = decide (a = b) := by
  by_cases e : a = b
  · subst e; simp
  · have h : ¬ (Sum.inr a : Key) = Sum.inr b := fun q => e (Sum.inr.inj q)
    rw [decide_eq_false h, decide_eq_false e]
theorem key_lr (a : Int) (b : Str) : decide ((Sum.inl a : Key) = Sum.inr b) = false := decide_eq_false (fun q => nomatch q)
theorem key_rl (a : Str) (b : Int) : decide ((Sum.inr a : Key) = Sum.inl b) = false := decide_eq_false (fun q => nomatch q)

def mixKind (prog : Program) (w : World) : PySem.KeyKind prog w Key where
  is := keyIs
  hash := keyH w
  inj := fun v a b ha hb => by
    rcases keyIs_shape ha with ⟨i, t, rfl, rfl⟩ | ⟨x, t, rfl, rfl⟩
    · rcases keyIs_shape hb with ⟨j, u, rfl, e⟩ | ⟨y, u, rfl, e⟩
      · injection e with e1 _; rw [e1]
      · exact nomatch e
    · rcases keyIs_shape hb with ⟨j, u, rfl, e⟩ | ⟨y, u, rfl, e⟩
      · exact nomatch e
      · injection e with e1 _; rw [e1]
  byValue := fun k v h => by
    rcases keyIs_shape h with ⟨i, t, rfl, rfl⟩ | ⟨x, t, rfl, rfl⟩ <;> rfl
  pyHash := fun hv h => by
    rcases keyIs_shape hv with ⟨i, t, rfl, rfl⟩ | ⟨x, t, rfl, rfl⟩
    · exact wpAny_pyHash_int h
    · exact wpAny_pyHash_str h
  eqBool := fun hu hv h => by
    rcases keyIs_shape hu with ⟨i, t, rfl, rfl⟩ | ⟨x, t, rfl, rfl⟩
    · rcases keyIs_shape hv with ⟨j, u, rfl, rfl⟩ | ⟨y, u, rfl, rfl⟩
      · rw [key_ll] at h; exact wpAny_eqBool_int h
      · rw [key_lr] at h; exact SeqAt.EqAt.int_str i t y u _ _ _ _ h
    · rcases keyIs_shape hv with ⟨j, u, rfl, rfl⟩ | ⟨y, u, rfl, rfl⟩
      · rw [key_rl] at h; exact SeqAt.EqAt.str_int x t j u _ _ _ _ h
      · rw [key_rr] at h; exact wpAny_eqBool_str h
  «strs» := fun k x t v h => by
    rcases keyIs_shape h with ⟨i, u, rfl, e⟩ | ⟨y, u, rfl, e⟩
    · exact nomatch e
    · injection e with e1 _
      subst e1
      cases v <;> rfl

end L2

namespace L2
open PySem PySem.Spec PyProof.Rows

inductive V where
  | non | bl (b : Bool) | int (i : Int) | str (x : Str) | byt (b : Array UInt8) | flt (b : UInt64) | ref (a : Addr) | ty (n : String)
  deriving DecidableEq

def RelV : V → Value → Prop
  | .non, u => u = Value.none
  | .bl b, u => u = Value.bool b
  | .int i, u => ∃ t, u = Value.int i t
  | .str x, u => ∃ t, u = Value.str x t
  | .byt b, u => ∃ t, u = Value.bytes b t
  | .flt b, u => ∃ t, u = Value.float b t
  | .ref a, u => u = Value.ref a
  | .ty n, u => u = Value.type n

abbrev Vals : List V → List Value → Prop := Paired RelV
theorem Vals.length {xs : List V} {us : List Value} (r : Vals xs us) : xs.length = us.length := Paired.length r
theorem Vals.get : ∀ {xs : List V} {us : List Value} {i : Nat} {x : V}, Vals xs us → xs[i]? = some x → ∃ u, us[i]? = some u ∧ RelV x u
  | _, _, _, _, .nil, e => by simp at e
  | _, _, 0, _, .cons r _, e => by simp at e; subst e; exact ⟨_, rfl, r⟩
  | _, _, i + 1, x, .cons _ t, e => by
    obtain ⟨u, h1, h2⟩ := Vals.get (i := i) (x := x) t (by simpa using e)
    exact ⟨u, by simpa using h1, h2⟩
theorem Vals.set {x : V} {u : Value} (r : RelV x u) : ∀ {xs : List V} {us : List Value} (i : Nat), Vals xs us → Vals (xs.set i x) (us.set i u)
  | _, _, _, .nil => .nil
  | _, _, 0, .cons _ t => .cons r t
  | _, _, i + 1, .cons q t => .cons q (Vals.set r i t)
theorem Vals.append : ∀ {xs ys : List V} {us ws : List Value}, Vals xs us → Vals ys ws → Vals (xs ++ ys) (us ++ ws)
  | _, _, _, _, .nil, s => s
  | _, _, _, _, .cons r t, s => .cons r (Vals.append t s)
theorem Vals.take : ∀ {xs : List V} {us : List Value} (n : Nat), Vals xs us → Vals (xs.take n) (us.take n)
  | _, _, 0, _ => .nil
  | _, _, _ + 1, .nil => .nil
  | _, _, n + 1, .cons r t => .cons r (Vals.take n t)
theorem Vals.drop : ∀ {xs : List V} {us : List Value} (n : Nat), Vals xs us → Vals (xs.drop n) (us.drop n)
  | _, _, 0, r => r
  | _, _, _ + 1, .nil => .nil
  | _, _, n + 1, .cons _ t => Vals.drop n t

def RelO : Option V → Option Value → Prop
  | some v, some u => RelV v u
  | none, none => True
  | _, _ => False
def KV {κ : Type} : List (κ × V) → List (κ × Value) → Prop := Paired fun (p : κ × V) (q : κ × Value) => p.1 = q.1 ∧ RelV p.2 q.2

def kV : Key → V
  | .inl i => .int i
  | .inr x => .str x

inductive HO where
  | lst (xs : List V)
  | tup (xs : List V)
  | dK (kvs : List (Key × V)) | dT (kvs : List (List Key × V))
  | set (S : Int → Bool) (n : Nat)
  | ins (C dx : Addr) (fs : List (Str × V))
  | own (x : Addr)
  | xd (fs : List (Str × V))
  | met (f x : Addr)
  | rng (lo hi : Int)
  | frz (o : Obj) (u : HO)
  | tbl (ps : Array Value)
  | ext (φ : Heap → Prop)

abbrev Hp := Addr → Option HO
def upd (H : Hp) (a : Addr) (o : HO) : Hp := fun b => if b = a then some o else H b
theorem upd_same {H : Hp} {a : Addr} {o : HO} : upd H a o a = some o := by unfold upd; rw [if_pos rfl]
theorem upd_ne {H : Hp} {a b : Addr} {o : HO} (h : b ≠ a) : upd H a o b = H b := by unfold upd; rw [if_neg h]
theorem upd_upd {H : Hp} {a : Addr} {o u : HO} : upd (upd H a o) a u = upd H a u := by
  funext b; unfold upd; split <;> rfl
theorem ne_of_none {H : Hp} {a b : Addr} {o : HO} (h : H a = some o) (h' : H b = none) : a ≠ b := by
  intro e; subst e; rw [h] at h'; cases h'

section
variable (P : Program) (w : World)
def ObjOk (H : Hp) (h : Heap) (a : Addr) : HO → Prop
  | .lst xs => xs.length ≤ sizeLine ∧ ∃ (its : List Value) (n : Nat), Vals xs its ∧ h.get? a = some { cls := .type "list", data := .seq its.toArray n }
  | .tup xs => xs.length ≤ sizeLine ∧ ∃ its : List Value, Vals xs its ∧ IsTup h a its.toArray
  | .dK kvs => kvs.length ≤ sizeLine ∧ (a == sysModules) = false ∧ ∃ vs, KV kvs vs ∧ h.DictOf (mixKind P w) a vs
  | .dT kvs => kvs.length ≤ sizeLine ∧ (a == sysModules) = false ∧ ∃ xs : List (List Key × Addr × Value),
      Paired (fun (p : List Key × V) (q : List Key × Addr × Value) => p.1 = q.1 ∧ H q.2.1 = some (.tup (p.1.map kV)) ∧ RelV p.2 q.2.2) kvs xs ∧
      ∃ o es ep, h.get? a = some o ∧ o.ExactDict ∧ o.data = .dict es ep ∧ es.toList = xs.map (entryOfKey (tupleKind (mixKind P w))) ∧ (xs.map (·.1)).Nodup
  | .set S n => h.SetOf (intKind P w) a S n
  | .ins C dx fs => H dx = some (.own a) ∧ fs.length ≤ 1000 ∧ dx ≠ a ∧ h.get? a = some (PySem.W.instObj C dx) ∧
      ∃ mA, h.Ns1 dx mA ∧ (∀ f, RelO (fs.lookup f) (mA f)) ∧ PySem.Within mA (fs.map (·.1))
  | .own _ => ∃ o, h.get? a = some o
  | .xd fs => ∃ mA, h.Ns1 a mA ∧ ∀ f, RelO (fs.lookup f) (mA f)
  | .rng lo hi => ∃ t u v, h.get? a = some { cls := .type "range", data := .fields #[.int lo t, .int hi u, .int 1 v] }
  | .frz o u => h.get? a = some o ∧ ObjOk H h a u
  | .tbl ps => h.get? a = some { cls := .none, data := .fields ps }
  | .met f x => h.get? a = some (PySem.W.methodObj (.ref f) (.ref x))
  | .ext φ => φ h ∧ (∃ o, h.get? a = some o) ∧ ∀ h1 h2 : Heap, φ h1 → (∀ o, h1.get? a = some o → h2.get? a = some o) → φ h2
def HOk (H : Hp) (h : Heap) : Prop := ∀ a o, H a = some o → ObjOk P w H h a o
end

section
variable {P : Program} {w : World} {H H' : Hp} {h h' : Heap} {a : Addr} {o : HO}
theorem ObjOk.lt (x : ObjOk P w H h a o) : a < h.objs.size := by
  cases o with
  | lst xs => obtain ⟨_, _, _, _, e⟩ := x; exact Heap.lt_size e
  | tup xs => obtain ⟨_, _, _, p⟩ := x; exact p.lt
  | dK kvs => obtain ⟨_, _, _, _, o, _, _, e, _⟩ := x; exact Heap.lt_size e
  | dT kvs => obtain ⟨_, _, _, _, o, _, _, e, _⟩ := x; exact Heap.lt_size e
  | set S n => obtain ⟨o, _, _, _, e, _⟩ := x; exact Heap.lt_size e
  | ins C dx fs => obtain ⟨_, _, _, e, _⟩ := x; exact Heap.lt_size e
  | own y => obtain ⟨_, e⟩ := x; exact Heap.lt_size e
  | xd fs => obtain ⟨_, ⟨_, _, _, e, _⟩, _⟩ := x; exact Heap.lt_size e
  | rng lo hi => obtain ⟨_, _, _, e⟩ := x; exact Heap.lt_size e
  | frz ob u => obtain ⟨e, _⟩ := x; exact Heap.lt_size e
  | tbl ps => exact Heap.lt_size (show h.get? a = some _ from x)
  | met f y => exact Heap.lt_size (show h.get? a = some _ from x)
  | ext φ => obtain ⟨_, ⟨_, e⟩, _⟩ := x; exact Heap.lt_size e
theorem Paired.mapP {α β : Type} {F G : α → β → Prop} : ∀ {l₁ : List α} {l₂ : List β}, Paired F l₁ l₂ → (∀ a b, F a b → G a b) → Paired G l₁ l₂
  | _, _, .nil, _ => .nil
  | _, _, .cons r t, f => .cons (f _ _ r) (Paired.mapP t f)
theorem ObjOk.stay (x : ObjOk P w H h a o) (k : ∀ b u, (b = a ∨ H b = some (.own a)) → h.get? b = some u → h'.get? b = some u)
    (ho : ∀ b, H b = some (.own a) → H' b = some (.own a)) (ht : ∀ b xs, H b = some (.tup xs) → H' b = some (.tup xs)) : ObjOk P w H' h' a o := by
  induction o with
  | lst xs => obtain ⟨z, its, n, r, e⟩ := x; exact ⟨z, its, n, r, k _ _ (.inl rfl) e⟩
  | tup xs => obtain ⟨z, its, r, ob, e, c⟩ := x; exact ⟨z, its, r, ob, k _ _ (.inl rfl) e, c⟩
  | dK kvs => obtain ⟨z, y, vs, r, ob, es, ep, e, c⟩ := x; exact ⟨z, y, vs, r, ob, es, ep, k _ _ (.inl rfl) e, c⟩
  | dT kvs =>
    obtain ⟨z, y, xs, r, ob, es, ep, e, c⟩ := x
    exact ⟨z, y, xs, Paired.mapP r fun p q z => ⟨z.1, ht _ _ z.2.1, z.2.2⟩, ob, es, ep, k _ _ (.inl rfl) e, c⟩
  | set S n => obtain ⟨ob, es, ep, t, e, c⟩ := x; exact ⟨ob, es, ep, t, k _ _ (.inl rfl) e, c⟩
  | ins C dx fs =>
    obtain ⟨d, z, ne, e, mA, ⟨od, es, ep, e2, c⟩, r⟩ := x
    exact ⟨ho _ d, z, ne, k _ _ (.inl rfl) e, mA, ⟨od, es, ep, k _ _ (.inr d) e2, c⟩, r⟩
  | own y => obtain ⟨ob, e⟩ := x; exact ⟨ob, k _ _ (.inl rfl) e⟩
  | xd fs => obtain ⟨mA, ⟨od, es, ep, e, c⟩, r⟩ := x; exact ⟨mA, ⟨od, es, ep, k _ _ (.inl rfl) e, c⟩, r⟩
  | rng lo hi => obtain ⟨t, u, v, e⟩ := x; exact ⟨t, u, v, k _ _ (.inl rfl) e⟩
  | frz ob u ih => obtain ⟨e, q⟩ := x; exact ⟨k _ _ (.inl rfl) e, ih q⟩
  | tbl ps =>
    have e : h.get? a = some { cls := .none, data := .fields ps } := x
    show h'.get? a = some { cls := .none, data := .fields ps }
    exact k a _ (.inl rfl) e
  | met f y =>
    have e : h.get? a = some (PySem.W.methodObj (.ref f) (.ref y)) := x
    show h'.get? a = some (PySem.W.methodObj (.ref f) (.ref y))
    exact k a _ (.inl rfl) e
  | ext φ => obtain ⟨p, ⟨o, e⟩, st⟩ := x; exact ⟨st _ _ p fun o q => k _ _ (.inl rfl) q, ⟨o, k _ _ (.inl rfl) e⟩, st⟩
theorem HOk.lt (x : HOk P w H h) (e : H a = some o) : a < h.objs.size := (x a o e).lt
theorem HOk.fresh (x : HOk P w H h) (e : h.objs.size ≤ a) : H a = none := by
  cases q : H a with
  | none => rfl
  | some u => exact absurd (Nat.lt_of_lt_of_le (x.lt q) e) (Nat.lt_irrefl _)
theorem HOk.kept (x : HOk P w H h) (k : ∀ b u, h.get? b = some u → h'.get? b = some u) : HOk P w H h' := fun a o e =>
  (x a o e).stay (fun b u _ q => k b u q) (fun _ q => q) fun _ _ q => q
theorem HOk.laid (x : HOk P w H h) (k : ∀ b u, h.get? b = some u → h'.get? b = some u) (hp : h.objs.size ≤ a) (new : ObjOk P w (upd H a o) h' a o) : HOk P w (upd H a o) h' := fun b u e => by
  have hn := x.fresh hp
  by_cases hb : b = a
  · subst hb; rw [upd_same] at e; cases e; exact new
  · rw [upd_ne hb] at e
    exact (x b u e).stay (fun c v _ q => k c v q) (fun c q => by rw [upd_ne (ne_of_none q hn)]; exact q) fun c xs q => by rw [upd_ne (ne_of_none q hn)]; exact q
end

def Rd (H : Hp) (a : Addr) (u : HO) : Prop := H a = some u ∨ ∃ o, H a = some (.frz o u)
theorem Rd.ok {P : Program} {w : World} {H : Hp} {h : Heap} {a : Addr} {u : HO} (r : Rd H a u) (x : HOk P w H h) : ObjOk P w H h a u := by
  rcases r with r | ⟨o, r⟩
  · exact x a u r
  · obtain ⟨_, q⟩ := x a _ r
    exact q
def Mut : Option HO → Prop
  | some (.lst _) => True
  | some (.dK _) => True
  | some (.dT _) => True
  | some (.set _ _) => True
  | some (.ins _ _ _) => True
  | some (.ext _) => True
  | _ => False
section
variable {P : Program} {w : World} {H : Hp} {h h' : Heap} {x e : Addr} {o' : HO}
theorem HOk.write (ok : HOk P w H h) (mu : Mut (H x)) (he : e = x ∨ H e = some (.own x)) (k : ∀ b u, b ≠ e → h.get? b = some u → h'.get? b = some u) (heo : ∃ u, h'.get? e = some u)
    (new : ObjOk P w (upd H x o') h' x o') : HOk P w (upd H x o') h' := fun b u q => by
  have nown : ∀ c y, H c = some (.own y) → c ≠ x := fun c y r z => by subst z; rw [r] at mu; exact mu
  have ntup : ∀ c xs, H c = some (.tup xs) → c ≠ x := fun c xs r z => by subst z; rw [r] at mu; exact mu
  by_cases hb : b = x
  · subst hb; rw [upd_same] at q; cases q; exact new
  · rw [upd_ne hb] at q
    by_cases hbe : b = e
    · have q' : H b = some (.own x) := by
        rcases he with z | z
        · exact absurd (hbe.trans z) hb
        · rw [hbe]; exact z
      rw [q] at q'; cases q'
      obtain ⟨v, hv⟩ := heo
      exact ⟨v, by rw [hbe]; exact hv⟩
    · refine (ok b u q).stay (fun c v hc r => k c v ?_ r) (fun c r => by rw [upd_ne (nown c b r)]; exact r) fun c xs r => by rw [upd_ne (ntup c xs r)]; exact r
      rcases hc with rfl | hc
      · exact hbe
      · rintro rfl
        rcases he with z | z
        · exact nown c b hc z
        · rw [hc] at z; cases z; exact hb rfl
end

/-! ### kept unless tracked; of the frames at fs (the callers') the slots may change (an exception that passes writes there); of the records at ex (iterators) nothing is said -/
structure Un (fs ex : List Addr) (H H' : Hp) (h h' : Heap) : Prop where
  keep : ∀ b o, h.get? b = some o → H b = none → b ∉ fs → b ∉ ex → h'.get? b = some o
  slot : ∀ b o, h.get? b = some o → H b = none → b ∈ fs → b ∉ ex → ∃ sl, h'.get? b = some { o with slots := sl }
  free : ∀ b o, h.get? b = some o → H b = none → b ∉ ex → H' b = none
  there : ∀ b o, h.get? b = some o → b ∉ ex → ∃ o', h'.get? b = some o'
  tups : ∀ b xs, H b = some (.tup xs) → H' b = some (.tup xs)
  frzs : ∀ b o u, H b = some (.frz o u) → H' b = some (.frz o u)
  tbls : ∀ b ps, H b = some (.tbl ps) → ∃ more, H' b = some (.tbl (ps ++ more))
section
variable {fs fs' ex ex' : List Addr} {H H1 H2 : Hp} {h h1 h2 h' : Heap} {a x e : Addr} {o : HO}
theorem Un.any (u : Un fs ex H H1 h h1) {b : Addr} {ob : Obj} (q : h.get? b = some ob) (n : H b = none) (hx : b ∉ ex) : ∃ sl, h1.get? b = some { ob with slots := sl } := by
  by_cases hb : b ∈ fs
  · exact u.slot b ob q n hb hx
  · exact ⟨ob.slots, u.keep b ob q n hb hx⟩
theorem Un.trans (a : Un fs ex H H1 h h1) (b : Un fs ex H1 H2 h1 h2) : Un fs ex H H2 h h2 where
  keep := fun c ob q n hc hx => b.keep c ob (a.keep c ob q n hc hx) (a.free c ob q n hx) hc hx
  slot := fun c ob q n hc hx => by
    obtain ⟨sl, e1⟩ := a.slot c ob q n hc hx
    obtain ⟨sl', e2⟩ := b.slot c _ e1 (a.free c ob q n hx) hc hx
    exact ⟨sl', e2⟩
  free := fun c ob q n hx => by
    obtain ⟨o', e1⟩ := a.there c ob q hx
    exact b.free c o' e1 (a.free c ob q n hx) hx
  there := fun c ob q hx => by
    obtain ⟨o', e1⟩ := a.there c ob q hx
    exact b.there c o' e1 hx
  tups := fun c xs q => b.tups c xs (a.tups c xs q)
  frzs := fun c ob xs q => b.frzs c ob xs (a.frzs c ob xs q)
  tbls := fun c ps q => by
    obtain ⟨m1, e1⟩ := a.tbls c ps q
    obtain ⟨m2, e2⟩ := b.tbls c _ e1
    exact ⟨m1 ++ m2, by rw [e2, Array.append_assoc]⟩
theorem Un.kept (k : ∀ b u, h.get? b = some u → h'.get? b = some u) : Un fs ex H H h h' :=
  ⟨fun b ob q _ _ _ => k b ob q, fun b ob q _ _ _ => ⟨ob.slots, k b ob q⟩, fun _ _ _ n _ => n, fun b ob q _ => ⟨ob, k b ob q⟩, fun _ _ q => q, fun _ _ _ q => q, fun _ ps q => ⟨#[], by rw [q]; simp⟩⟩
theorem Un.refl : Un fs ex H H h h := Un.kept fun _ _ q => q
theorem Un.laid (k : ∀ b u, h.get? b = some u → h'.get? b = some u) (hp : h.objs.size ≤ a) (hn : H a = none) : Un fs ex H (upd H a o) h h' where
  keep := fun b u q _ _ _ => k b u q
  slot := fun b u q _ _ _ => ⟨u.slots, k b u q⟩
  free := fun b u q n _ => by rw [upd_ne (Nat.ne_of_lt (Nat.lt_of_lt_of_le (Heap.lt_size q) hp))]; exact n
  there := fun b u q _ => ⟨u, k b u q⟩
  tups := fun b xs q => by rw [upd_ne (ne_of_none q hn)]; exact q
  frzs := fun b u xs q => by rw [upd_ne (ne_of_none q hn)]; exact q
  tbls := fun b ps q => ⟨#[], by rw [upd_ne (ne_of_none q hn), q]; simp⟩
theorem Un.write (mu : Mut (H x)) (he : e = x ∨ H e = some (.own x)) (k : ∀ b u, b ≠ e → h.get? b = some u → h'.get? b = some u) (heo : ∃ u, h'.get? e = some u) : Un fs ex H (upd H x o) h h' := by
  have hx : ∀ b, H b = none → b ≠ x := fun b n z => by subst z; rw [n] at mu; exact mu
  have hb : ∀ b, H b = none → b ≠ e := fun b n z => by
    subst z
    rcases he with r | r
    · exact hx b n r
    · rw [n] at r; cases r
  have hm : ∀ b u, H b = some u → ¬ Mut (some u) → b ≠ x := fun b u q nm z => by subst z; rw [q] at mu; exact nm mu
  refine ⟨fun b u q n _ _ => k b u (hb b n) q, fun b u q n _ _ => ⟨u.slots, k b u (hb b n) q⟩, fun b u q n _ => by rw [upd_ne (hx b n)]; exact n, fun b u q _ => ?_,
    fun b xs q => by rw [upd_ne (hm b _ q fun z => z)]; exact q, fun b u xs q => by rw [upd_ne (hm b _ q fun z => z)]; exact q, fun b ps q => ⟨#[], by rw [upd_ne (hm b _ q fun z => z), q]; simp⟩⟩
  by_cases hbe : b = e
  · subst hbe; exact heo
  · exact ⟨u, k b u hbe q⟩
theorem Un.mono (u : Un fs ex H H1 h h1) (hs : ∀ b ∈ fs, b ∈ fs') (hx : ∀ b ∈ ex, b ∈ ex') : Un fs' ex' H H1 h h1 :=
  ⟨fun b ob q n hb he => u.keep b ob q n (fun z => hb (hs b z)) fun z => he (hx b z), fun _ _ q n _ he => u.any q n fun z => he (hx _ z), fun b ob q n he => u.free b ob q n fun z => he (hx b z), fun b ob q he => u.there b ob q fun z => he (hx b z), u.tups, u.frzs, u.tbls⟩
end

/-! ### the heap without what is tracked -/
def trk (h : Heap) (H : Hp) : List Addr := (List.range h.objs.size).filter fun a => (H a).isSome
def hidT (h : Heap) (H : Hp) : Heap := PySem.W.hideAll h (trk h H)
theorem hidT_size (h : Heap) (H : Hp) : (hidT h H).objs.size = h.objs.size := PySem.W.hideAll_size _ _
theorem hidT_get {h : Heap} {H : Hp} {b : Addr} {o : Obj} (e : h.get? b = some o) (n : H b = none) : (hidT h H).get? b = some o :=
  PySem.W.hideAll_get _ e fun hm => by
    have q : (H b).isSome = true := (List.mem_filter.mp hm).2
    rw [n] at q; simp at q
theorem of_hidT {h : Heap} {H : Hp} {b : Addr} {o : Obj} (e : (hidT h H).get? b = some o) : h.get? b = some o ∧ H b = none := by
  have e' : h.get? b = some o := PySem.W.of_hideAll (trk h H) e
  refine ⟨e', ?_⟩
  cases q : H b with
  | none => rfl
  | some x =>
    have hm : b ∈ trk h H := List.mem_filter.mpr ⟨List.mem_range.mpr (Heap.lt_size e'), by simp [q]⟩
    have z : (hidT h H).get? b = none := PySem.W.hideAll_none (trk h H) hm
    rw [z] at e; cases e

/-! ### OpenK's ledger, filled with every new object but one -/
end L2

namespace L2
open PySem PySem.Spec PyProof.Rows

structure Mod (K : PySem.W.Frag) (mg : Str → Option Value) (base : Heap) : Prop where
  kin : K.In base
  glob : base.Ns mainGlobals mg
  blt : ∃ mb, base.Ns builtinsNs mb ∧ ∀ x : Str, x ≠ "__name__" → mb x = bootBuiltins x
  nolimit : base.NoLimit

structure Cx where
  prog : Program
  w : World
  K : PySem.W.Frag
  mg : Str → Option Value
  base : Heap
  A : Around
  N : List Str
  s₀ : Shared
  H₀ : Hp
  env : Env
  outer : List Env
  stack : List Env
  ex : List Addr
  fn : Str → Bool
  calm : Bool
  pn : List (Addr × Obj)
  xe : Value → Shared → Prop
def frs (l : List Env) : List Addr := l.filterMap (·.frame)
abbrev Cx.fs (X : Cx) : List Addr := frs X.outer

def Vis (sc : Scope) (x : Str) : Prop := sc.names.lookup x = some .local ∨ sc.names.lookup x = some .cell ∨ sc.names.lookup x = some .free
def Loc (sc : Scope) (x : Str) : Prop := sc.names.lookup x = some .local ∨ sc.names.lookup x = some .cell
def Look (env : Env) (h : Heap) (m : Str → Option Value) (x : Str) (u : Value) : Prop :=
  (env.kindOf x = some .local ∧ m x = some u) ∨ ((env.kindOf x = some .cell ∨ env.kindOf x = some .free) ∧ ∃ c, env.cells.lookup x = some c ∧ h.IsCell c (some u))

structure Cx.Ok (X : Cx) : Prop where
  mod : Mod X.K X.mg X.base
  kind : X.env.scope.kind = .function
  glob : X.env.globals = mainGlobals
  blt : X.env.builtins = builtinsNs
  above : X.s₀.heap.objs.size ≤ X.env.locals
  inj : ∀ x y c, X.env.cells.lookup x = some c → X.env.cells.lookup y = some c → x = y
  has : ∀ x, (X.env.kindOf x = some .cell ∨ X.env.kindOf x = some .free) → ∃ c, X.env.cells.lookup x = some c
  cab : ∀ x c, X.fn x = true → X.env.cells.lookup x = some c → X.s₀.heap.objs.size ≤ c
  hd : X.calm = true → X.A.handled = none
  frames : X.A.frames = some X.stack
  stk : X.stack = X.outer ∨ (X.stack = X.env :: X.outer ∧ X.env.frame = some X.env.locals)
  exf : ∀ b ∈ X.ex, b ≠ X.env.locals ∧ ∀ x c, X.env.cells.lookup x = some c → c ≠ b
  bs : ∀ b o, X.base.get? b = some o → X.s₀.heap.get? b = some o ∧ X.H₀ b = none
  bsz : X.base.objs.size ≤ X.s₀.heap.objs.size
  noex : ∀ b o, X.base.get? b = some o → b ∉ X.ex
  exfs : ∀ b ∈ X.ex, b ∉ X.fs
  funs : X.s₀.heap.FunFrames X.base X.outer
  frf : ∀ b ∈ X.fs, X.H₀ b = none

structure Inv (X : Cx) (pins : List (Addr × Obj)) (σ : List (Option V)) (H : Hp) (s : Shared) : Prop where
  ok : X.Ok
  os : s.os = X.s₀.os
  bare : AllBare s.gens
  base : Un X.fs X.ex X.H₀ H X.s₀.heap s.heap
  loc : ∃ m, s.heap.Ns X.env.locals m ∧ ∀ (i : Nat) (x : Str) (v : V), X.N[i]? = some x → σ[i]? = some (some v) → Vis X.env.scope x → ∃ u, RelV v u ∧ Look X.env s.heap m x u
  cell : ∀ x c, X.env.cells.lookup x = some c → ∃ v, s.heap.IsCell c v
  free : H X.env.locals = none
  freeC : ∀ x c, X.env.cells.lookup x = some c → H c = none
  pin : ∀ p ∈ X.pn ++ pins, s.heap.get? p.1 = some p.2 ∧ H p.1 = none ∧ p.1 ≠ X.env.locals ∧ p.1 ∉ X.fs ∧ ∀ v, p.2.data ≠ .cell v
  hok : HOk X.prog X.w H s.heap
  len : σ.length = X.N.length

section
variable {X : Cx} {pins : List (Addr × Obj)} {σ : List (Option V)} {H H' : Hp} {s : Shared} {h' : Heap}

theorem Cx.Ok.nofr (ok : X.Ok) {b : Addr} {o : Obj} (e : X.base.get? b = some o) : b ∉ X.fs := fun hb => by
  have := (ok.funs.mem hb).1
  rw [e] at this; cases this
theorem Inv.bs (I : Inv X pins σ H s) : ∀ b o, X.base.get? b = some o → s.heap.get? b = some o ∧ H b = none := fun b o e =>
  ⟨I.base.keep b o (I.ok.bs b o e).1 (I.ok.bs b o e).2 (I.ok.nofr e) (I.ok.noex b o e), I.base.free b o (I.ok.bs b o e).1 (I.ok.bs b o e).2 (I.ok.noex b o e)⟩
theorem Inv.bk (I : Inv X pins σ H s) : ∀ b o, X.base.get? b = some o → s.heap.get? b = some o := fun b o e => (I.bs b o e).1
theorem Inv.mod (I : Inv X pins σ H s) : Mod X.K X.mg X.base := I.ok.mod
theorem Inv.kIn (I : Inv X pins σ H s) : X.K.In s.heap := I.ok.mod.kin.keeps I.bk
theorem Inv.lt (I : Inv X pins σ H s) : X.env.locals < s.heap.objs.size := let ⟨_, hn, _⟩ := I.loc; hn.lt
theorem Inv.sz (I : Inv X pins σ H s) : X.s₀.heap.objs.size ≤ s.heap.objs.size := Nat.le_trans I.ok.above (Nat.le_of_lt I.lt)
theorem Inv.nofs (I : Inv X pins σ H s) {a : Addr} (h : s.heap.objs.size ≤ a) : a ∉ X.fs := fun hb => by
  obtain ⟨_, o, ho, _⟩ := I.ok.funs.mem hb
  exact absurd (Nat.lt_of_lt_of_le (Heap.lt_size ho) (Nat.le_trans I.sz h)) (Nat.lt_irrefl _)
theorem Inv.cne (I : Inv X pins σ H s) : ∀ x c, X.env.cells.lookup x = some c → c ≠ X.env.locals := fun x c e z => by
  obtain ⟨v, o, ho, hd⟩ := I.cell x c e
  obtain ⟨m, ⟨o', es, ep, ho', hd', _⟩, _⟩ := I.loc
  rw [z, ho'] at ho; cases ho; rw [hd'] at hd; cases hd
theorem Inv.funs (I : Inv X pins σ H s) : s.heap.FunFrames X.base X.outer := by
  have all : ∀ (l : List Env), (∀ b ∈ frs l, b ∈ X.fs) → X.s₀.heap.FunFrames X.base l → s.heap.FunFrames X.base l := by
    intro l
    induction l with
    | nil => intro _ _; trivial
    | cons env r ih =>
      intro hs hl
      obtain ⟨hk, ⟨L, o, hf, hn, ho, hd⟩, hr⟩ := hl
      have hL : L ∈ X.fs := hs L (by unfold frs; rw [List.filterMap_cons, hf]; exact List.mem_cons_self)
      obtain ⟨sl, e⟩ := I.base.slot L o ho (I.ok.frf L hL) hL fun z => I.ok.exfs L z hL
      exact ⟨hk, ⟨L, _, hf, hn, e, hd⟩, ih (fun b hb => hs b (by unfold frs; rw [List.filterMap_cons, hf]; exact List.mem_cons_of_mem _ hb)) hr⟩
  exact all X.outer (fun _ hb => hb) I.ok.funs

theorem Inv.stack (I : Inv X pins σ H s) : s.heap.FunFrames X.base X.stack := by
  rcases I.ok.stk with e | ⟨e, hf⟩
  · rw [e]; exact I.funs
  · rw [e]
    obtain ⟨m, hn, _⟩ := I.loc
    refine .cons (by rw [I.ok.kind]; decide) hf hn ?_ I.funs
    exact Heap.get?_none_of_le (Nat.le_trans I.ok.bsz I.ok.above)
theorem Inv.stkSub (I : Inv X pins σ H s) : ∀ b ∈ frs X.stack, b ∈ X.env.locals :: X.fs := fun b hb => by
  rcases I.ok.stk with e | ⟨e, hf⟩
  · rw [e] at hb; exact List.mem_cons_of_mem _ hb
  · rw [e] at hb
    unfold frs at hb
    rw [List.filterMap_cons, hf] at hb
    exact hb
theorem Inv.stkFree (I : Inv X pins σ H s) : ∀ b ∈ frs X.stack, H b = none := fun b hb => by
  rcases List.mem_cons.mp (I.stkSub b hb) with e | hb
  · rw [e]; exact I.free
  · obtain ⟨_, o, ho, _⟩ := I.ok.funs.mem hb
    exact I.base.free b o ho (I.ok.frf b hb) fun z => I.ok.exfs b z hb

theorem Inv.step {g' : Array GenState} {t' : Nat} {d' : Drawn} {ch : List Addr} (I : Inv X pins σ H s)
    (hch : ∀ b ∈ ch, (b ∈ X.ex ∨ X.s₀.heap.objs.size ≤ b) ∧ b ≠ X.env.locals ∧ (∀ x c, X.env.cells.lookup x = some c → c ≠ b) ∧ ∀ p ∈ X.pn ++ pins, p.1 ≠ b)
    (keep : ∀ b o, b ≠ X.env.locals → b ∉ X.fs → b ∉ ch → s.heap.get? b = some o → H b = none → h'.get? b = some o)
    (slot : ∀ b o, b ≠ X.env.locals → b ∈ X.fs → b ∉ ch → s.heap.get? b = some o → H b = none → ∃ sl, h'.get? b = some { o with slots := sl }) (free : ∀ b o, b ∉ ch → s.heap.get? b = some o → H b = none → H' b = none)
    (there : ∀ b o, b ∉ ch → s.heap.get? b = some o → ∃ o', h'.get? b = some o')
    (tups : ∀ b xs, H b = some (.tup xs) → H' b = some (.tup xs)) (frzs : ∀ b o u, H b = some (.frz o u) → H' b = some (.frz o u)) (tbls : ∀ b ps, H b = some (.tbl ps) → ∃ more, H' b = some (.tbl (ps ++ more)))
    (ns : ∀ m, s.heap.Ns X.env.locals m → h'.Ns X.env.locals m) (hok : HOk X.prog X.w H' h') (hg : AllBare g') :
    Inv X pins σ H' { s with heap := h', gens := g', drawn := d', toks := t' } := by
  have neL : ∀ b o, X.s₀.heap.get? b = some o → b ≠ X.env.locals := fun b o e => Nat.ne_of_lt (Nat.lt_of_lt_of_le (Heap.lt_size e) I.ok.above)
  have neC : ∀ b o, X.s₀.heap.get? b = some o → b ∉ X.ex → b ∉ ch := fun b o e hx hb => by
    rcases (hch b hb).1 with z | z
    · exact hx z
    · exact absurd (Nat.lt_of_lt_of_le (Heap.lt_size e) z) (Nat.lt_irrefl _)
  have cellK : ∀ x c, X.env.cells.lookup x = some c → ∀ v, s.heap.IsCell c v → h'.IsCell c v := fun x c e v ⟨o, ho, hd⟩ => by
    have nch : c ∉ ch := fun z => (hch c z).2.2.1 x c e rfl
    by_cases hc : c ∈ X.fs
    · obtain ⟨sl, q⟩ := slot c o (I.cne x c e) hc nch ho (I.freeC x c e)
      exact ⟨_, q, hd⟩
    · exact ⟨o, keep c o (I.cne x c e) hc nch ho (I.freeC x c e), hd⟩
  refine ⟨I.ok, I.os, hg, ⟨fun b o e n hb hx => ?_, fun b o e n hb hx => ?_, fun b o e n hx => ?_, fun b o e hx => ?_, fun b xs e => tups b xs (I.base.tups b xs e), fun b o xs e => frzs b o xs (I.base.frzs b o xs e), fun b ps e => ?_⟩, ?_, fun x c e => ?_, ?_, fun x c e => ?_, fun p hp => ?_, hok, I.len⟩
  · exact keep b o (neL b o e) hb (neC b o e hx) (I.base.keep b o e n hb hx) (I.base.free b o e n hx)
  · obtain ⟨sl, e1⟩ := I.base.slot b o e n hb hx
    obtain ⟨sl', e2⟩ := slot b _ (neL b o e) hb (neC b o e hx) e1 (I.base.free b o e n hx)
    exact ⟨sl', e2⟩
  · obtain ⟨o', e1⟩ := I.base.there b o e hx
    exact free b o' (neC b o e hx) e1 (I.base.free b o e n hx)
  · obtain ⟨o', e1⟩ := I.base.there b o e hx
    exact there b o' (neC b o e hx) e1
  · obtain ⟨m1, e1⟩ := I.base.tbls b ps e
    obtain ⟨m2, e2⟩ := tbls b _ e1
    exact ⟨m1 ++ m2, by rw [e2, Array.append_assoc]⟩
  · obtain ⟨m, hn, hl⟩ := I.loc
    refine ⟨m, ns m hn, fun i x v e1 e2 e3 => ?_⟩
    obtain ⟨u, r, l⟩ := hl i x v e1 e2 e3
    refine ⟨u, r, ?_⟩
    rcases l with l | ⟨k, c, e, z⟩
    · exact .inl l
    · exact .inr ⟨k, c, e, cellK x c e _ z⟩
  · obtain ⟨v, z⟩ := I.cell x c e
    exact ⟨v, cellK x c e v z⟩
  · obtain ⟨m, ⟨o, _, _, ho, _⟩, _⟩ := I.loc
    exact free _ o (fun z => (hch _ z).2.1 rfl) ho I.free
  · obtain ⟨v, o, ho, hd⟩ := I.cell x c e
    exact free c o (fun z => (hch c z).2.2.1 x c e rfl) ho (I.freeC x c e)
  · obtain ⟨e, n, ne, nf, d⟩ := I.pin p hp
    have nch : p.1 ∉ ch := fun z => (hch p.1 z).2.2.2 p hp rfl
    exact ⟨keep p.1 p.2 ne nf nch e n, free p.1 p.2 nch e n, ne, nf, d⟩
theorem Inv.un {t' : Nat} (I : Inv X pins σ H s) (u : Un X.fs [] H H' s.heap h') (hok : HOk X.prog X.w H' h') : Inv X pins σ H' { s with heap := h', toks := t' } := by
  obtain ⟨m, ⟨o, es, ep, ho, r⟩, _⟩ := id I.loc
  obtain ⟨sl, hL⟩ := u.any ho I.free (by simp)
  exact I.step (g' := s.gens) (d' := s.drawn) (ch := []) (fun _ z => nomatch z) (fun b o _ hb _ e n => u.keep b o e n hb (by simp)) (fun b o _ hb _ e n => u.slot b o e n hb (by simp)) (fun b o _ e n => u.free b o e n (by simp)) (fun b o _ e => u.there b o e (by simp)) u.tups u.frzs u.tbls (fun m' hm => by
    obtain ⟨o', es', ep', ho', r'⟩ := hm
    rw [ho] at ho'; cases ho'
    exact ⟨_, es', ep', hL, r'⟩) hok I.bare
theorem Inv.call {g' : Array GenState} {t' : Nat} {d' : Drawn} {ch : List Addr} (I : Inv X pins σ H s) (u : Un (frs X.stack) ch H H' s.heap h') (hok : HOk X.prog X.w H' h') (hg : AllBare g')
    (hch : ∀ b ∈ ch, (b ∈ X.ex ∨ X.s₀.heap.objs.size ≤ b) ∧ b ≠ X.env.locals ∧ (∀ x c, X.env.cells.lookup x = some c → c ≠ b) ∧ ∀ p ∈ X.pn ++ pins, p.1 ≠ b) :
    Inv X pins σ H' { s with heap := h', gens := g', drawn := d', toks := t' } := by
  obtain ⟨m, ⟨o, es, ep, ho, r⟩, _⟩ := id I.loc
  obtain ⟨sl, hL⟩ := u.any ho I.free fun z => (hch _ z).2.1 rfl
  exact I.step (ch := ch) hch (fun b o hL hb hc e n => u.keep b o e n (fun z => (List.mem_cons.mp (I.stkSub b z)).elim hL hb) hc) (fun b o _ _ hc e n => u.any e n hc) (fun b o hc e n => u.free b o e n hc) (fun b o hc e => u.there b o e hc) u.tups u.frzs u.tbls (fun m' hm => by
    obtain ⟨o', es', ep', ho', r'⟩ := hm
    rw [ho] at ho'; cases ho'
    exact ⟨_, es', ep', hL, r'⟩) hok hg
theorem Inv.turned {t' : Nat} {it : Addr} (I : Inv X pins σ H s) (k : ∀ b o, b ≠ it → s.heap.get? b = some o → h'.get? b = some o) (hn : H it = none) (hL : it ≠ X.env.locals)
    (h1 : it ∈ X.ex ∨ X.s₀.heap.objs.size ≤ it) (h2 : ∀ x c, X.env.cells.lookup x = some c → c ≠ it) (h3 : ∀ p ∈ X.pn ++ pins, p.1 ≠ it) : Inv X pins σ H { s with heap := h', toks := t' } := by
  have nit : ∀ b u, H b = some u → b ≠ it := fun b u e z => by rw [z, hn] at e; cases e
  refine I.step (g' := s.gens) (d' := s.drawn) (ch := [it]) (fun b hb => ?_) (fun b o _ _ hc e _ => k b o (fun z => hc (by simp [z])) e) (fun b o _ _ hc e _ => ⟨o.slots, k b o (fun z => hc (by simp [z])) e⟩) (fun _ _ _ _ n => n)
    (fun b o hc e => ⟨o, k b o (fun z => hc (by simp [z])) e⟩) (fun _ _ e => e) (fun _ _ _ e => e) (fun b ps e => ⟨#[], by rw [e]; simp⟩) (fun m hm => ?_) (fun b u e => ?_) I.bare
  · have e : b = it := by simpa using hb
    subst e
    exact ⟨h1, hL, h2, h3⟩
  · obtain ⟨o, es, ep, ho, r⟩ := hm
    exact ⟨o, es, ep, k _ o (Ne.symm hL) ho, r⟩
  · refine (I.hok b u e).stay (fun c v hc q => k c v ?_ q) (fun _ q => q) fun _ _ q => q
    rcases hc with z | z
    · rw [z]; exact nit b u e
    · exact nit c _ z
theorem Inv.tok (I : Inv X pins σ H s) (t : Nat) : Inv X pins σ H { s with toks := t } := I.un (h' := s.heap) (t' := t) Un.refl I.hok
theorem Inv.kept {t' : Nat} (I : Inv X pins σ H s) (k : ∀ b u, s.heap.get? b = some u → h'.get? b = some u) : Inv X pins σ H { s with heap := h', toks := t' } := I.un (Un.kept k) (I.hok.kept k)
theorem Inv.laid {a : Addr} {o : HO} {t' : Nat} (I : Inv X pins σ H s) (k : ∀ b u, s.heap.get? b = some u → h'.get? b = some u) (hp : s.heap.objs.size ≤ a) (new : ObjOk X.prog X.w (upd H a o) h' a o) :
    Inv X pins σ (upd H a o) { s with heap := h', toks := t' } := I.un (Un.laid k hp (I.hok.fresh hp)) (I.hok.laid k hp new)
theorem Inv.write {x e : Addr} {o : HO} {t' : Nat} (I : Inv X pins σ H s) (mu : Mut (H x)) (he : e = x ∨ H e = some (.own x)) (k : ∀ b u, b ≠ e → s.heap.get? b = some u → h'.get? b = some u) (heo : ∃ u, h'.get? e = some u)
    (new : ObjOk X.prog X.w (upd H x o) h' x o) : Inv X pins σ (upd H x o) { s with heap := h', toks := t' } := I.un (Un.write mu he k heo) (I.hok.write mu he k heo new)
theorem Inv.pins_of {pins' : List (Addr × Obj)} (I : Inv X pins σ H s) (h : ∀ p ∈ pins', s.heap.get? p.1 = some p.2 ∧ H p.1 = none ∧ p.1 ≠ X.env.locals ∧ p.1 ∉ X.fs ∧ ∀ v, p.2.data ≠ .cell v) : Inv X pins' σ H s :=
  ⟨I.ok, I.os, I.bare, I.base, I.loc, I.cell, I.free, I.freeC, fun p hp => (List.mem_append.mp hp).elim (fun z => I.pin p (List.mem_append_left _ z)) (h p), I.hok, I.len⟩

theorem nodup_ix {N : List Str} (hN : N.Nodup) {i j : Nat} {x : Str} (a : N[i]? = some x) (b : N[j]? = some x) : i = j := by
  obtain ⟨h1, e1⟩ := List.getElem?_eq_some_iff.mp a
  obtain ⟨h2, e2⟩ := List.getElem?_eq_some_iff.mp b
  exact (List.getElem_inj hN).mp (e1.trans e2.symm)

theorem store_ok2 {M : Model} {A : Around} {E : Value → Shared → Prop} {i : Nat} {x : Str} {v : V} {u : Value} {Q : Unit → Shared → Prop} (I : Inv X pins σ H s) (hN : X.N.Nodup) (hi : X.N[i]? = some x) (hx : Loc X.env.scope x) (r : RelV v u)
    (h : ∀ s', Inv X pins (σ.set i (some v)) H s' → (∃ a, Heap.SameBut a s.heap s'.heap ∧ (a = X.env.locals ∨ X.env.cells.lookup x = some a)) → Q () s') (hf : X.fn x = true ∨ X.env.scope.names.lookup x = some .local := by first | exact .inl rfl | exact .inr rfl | assumption) : wpAny M A (storeName X.env x u) Q E s := by
  obtain ⟨m, hn, hl⟩ := id I.loc
  have hcls : (X.env.scope.kind == .class || (X.env.scope.kind == .module && X.env.locals != X.env.globals)) = false := by rw [I.ok.kind]; rfl
  have hiσ : i < σ.length := by rw [I.len]; exact (List.getElem?_eq_some_iff.mp hi).1
  have cne := I.cne
  have tracked : ∀ {a : Addr} {h' : Heap}, (∃ o, s.heap.get? a = some o ∧ H a = none) → Heap.SameBut a s.heap h' → HOk X.prog X.w H h' := fun {a h'} ha hs b ob e => by
    obtain ⟨_, _, hfree⟩ := ha
    refine (I.hok b ob e).stay (fun c w' hc q => (hs.2 c ?_).trans q) (fun _ q => q) fun _ _ q => q
    rintro rfl
    rcases hc with rfl | hc
    · rw [hfree] at e; cases e
    · rw [hfree] at hc; cases hc
  rcases hx with hk | hk
  · refine wpAny_storeName_local hk hn (fun h' hn' hs => ?_) hcls
    obtain ⟨oL, _, _, hoL, _⟩ := id hn
    refine h _ ⟨I.ok, I.os, I.bare, ⟨fun b o e n hb hx => ?_, fun b o e n hb hx => ?_, I.base.free, fun b o e hx => ?_, I.base.tups, I.base.frzs, I.base.tbls⟩, ⟨_, hn', fun j y v' e1 e2 e3 => ?_⟩, fun y c e => ?_, I.free, I.freeC, fun p hp => ?_, tracked ⟨oL, hoL, I.free⟩ hs, by simpa using I.len⟩ ⟨_, hs, .inl rfl⟩
    · exact (hs.2 b (Nat.ne_of_lt (Nat.lt_of_lt_of_le (Heap.lt_size e) I.ok.above))).trans (I.base.keep b o e n hb hx)
    · obtain ⟨sl, e1⟩ := I.base.slot b o e n hb hx
      exact ⟨sl, (hs.2 b (Nat.ne_of_lt (Nat.lt_of_lt_of_le (Heap.lt_size e) I.ok.above))).trans e1⟩
    · obtain ⟨o', e1⟩ := I.base.there b o e hx
      exact ⟨o', (hs.2 b (Nat.ne_of_lt (Nat.lt_of_lt_of_le (Heap.lt_size e) I.ok.above))).trans e1⟩
    · by_cases hj : j = i
      · subst hj
        rw [hi] at e1; cases e1
        rw [List.getElem?_set_self hiσ] at e2
        cases e2
        exact ⟨u, r, .inl ⟨hk, by simp⟩⟩
      · rw [List.getElem?_set_ne (Ne.symm hj)] at e2
        obtain ⟨u', r', q⟩ := hl j y v' e1 e2 e3
        refine ⟨u', r', ?_⟩
        rcases q with ⟨k, e⟩ | ⟨k, c, e, z⟩
        · refine .inl ⟨k, ?_⟩
          have : y ≠ x := fun e => hj (nodup_ix hN e1 (e ▸ hi))
          simp [this, e]
        · exact .inr ⟨k, c, e, z.sameBut hs (cne y c e)⟩
    · obtain ⟨w', z⟩ := I.cell y c e
      exact ⟨w', z.sameBut hs (cne y c e)⟩
    · obtain ⟨e, n, ne, nf, d⟩ := I.pin p hp
      exact ⟨(hs.2 p.1 ne).trans e, n, ne, nf, d⟩
  · have hfn : X.fn x = true := by
      rcases hf with z | z
      · exact z
      · rw [z] at hk; cases hk
    obtain ⟨c, hc⟩ := I.ok.has x (.inl hk)
    obtain ⟨w', z⟩ := I.cell x c hc
    refine wpAny_storeName_cell I.ok.kind hk hc z (fun h' hc' hs => ?_)
    obtain ⟨oc, hoc, hocd⟩ := id z
    refine h { s with heap := h' } ⟨I.ok, I.os, I.bare, ⟨fun b o e n hb hx => ?_, fun b o e n hb hx => ?_, I.base.free, fun b o e hx => ?_, I.base.tups, I.base.frzs, I.base.tbls⟩, ⟨m, hn.sameBut hs (Ne.symm (cne x c hc)), fun j y v' e1 e2 e3 => ?_⟩, fun y c' e => ?_, I.free, I.freeC, fun p hp => ?_, tracked ⟨oc, hoc, I.freeC x c hc⟩ hs, by simpa using I.len⟩ ⟨c, hs, .inr hc⟩
    · exact (hs.2 b (Nat.ne_of_lt (Nat.lt_of_lt_of_le (Heap.lt_size e) (I.ok.cab x c hfn hc)))).trans (I.base.keep b o e n hb hx)
    · obtain ⟨sl, e1⟩ := I.base.slot b o e n hb hx
      exact ⟨sl, (hs.2 b (Nat.ne_of_lt (Nat.lt_of_lt_of_le (Heap.lt_size e) (I.ok.cab x c hfn hc)))).trans e1⟩
    · obtain ⟨o', e1⟩ := I.base.there b o e hx
      exact ⟨o', (hs.2 b (Nat.ne_of_lt (Nat.lt_of_lt_of_le (Heap.lt_size e) (I.ok.cab x c hfn hc)))).trans e1⟩
    · by_cases hj : j = i
      · subst hj
        rw [hi] at e1; cases e1
        rw [List.getElem?_set_self hiσ] at e2
        cases e2
        exact ⟨u, r, .inr ⟨.inl hk, c, hc, hc'⟩⟩
      · rw [List.getElem?_set_ne (Ne.symm hj)] at e2
        obtain ⟨u', r', q⟩ := hl j y v' e1 e2 e3
        refine ⟨u', r', ?_⟩
        rcases q with q | ⟨k, c', e, z'⟩
        · exact .inl q
        · refine .inr ⟨k, c', e, z'.sameBut hs ?_⟩
          rintro rfl
          exact hj (nodup_ix hN e1 (I.ok.inj _ _ _ e hc ▸ hi))
    · by_cases hcc : c' = c
      · subst hcc; exact ⟨_, hc'⟩
      · obtain ⟨w2, z2⟩ := I.cell y c' e
        exact ⟨w2, z2.sameBut hs hcc⟩
    · obtain ⟨e, n, ne, nf, d⟩ := I.pin p hp
      refine ⟨(hs.2 p.1 ?_).trans e, n, ne, nf, d⟩
      intro q
      rw [q, hoc] at e
      have q' : oc = p.2 := Option.some.inj e
      exact d w' (by rw [← q']; exact hocd)
theorem store_ok {M : Model} {A : Around} {E : Value → Shared → Prop} {i : Nat} {x : Str} {v : V} {u : Value} {Q : Unit → Shared → Prop} (I : Inv X pins σ H s) (hN : X.N.Nodup) (hi : X.N[i]? = some x) (hx : Loc X.env.scope x) (r : RelV v u)
    (h : ∀ s', Inv X pins (σ.set i (some v)) H s' → Q () s') (hf : X.fn x = true ∨ X.env.scope.names.lookup x = some .local := by first | exact .inl rfl | exact .inr rfl | assumption) : wpAny M A (storeName X.env x u) Q E s :=
  store_ok2 I hN hi hx r (fun s' I' _ => h s' I') hf
theorem Inv.call' {s' : Shared} {ch : List Addr} (I : Inv X pins σ H s) (ho : s'.os = s.os) (u : Un (frs X.stack) ch H H' s.heap s'.heap) (hok : HOk X.prog X.w H' s'.heap) (hg : AllBare s'.gens)
    (hch : ∀ b ∈ ch, (b ∈ X.ex ∨ X.s₀.heap.objs.size ≤ b) ∧ b ≠ X.env.locals ∧ (∀ x c, X.env.cells.lookup x = some c → c ≠ b) ∧ ∀ p ∈ X.pn ++ pins, p.1 ≠ b) : Inv X pins σ H' s' := by
  obtain ⟨h', g', d', t', o'⟩ := s'
  have e : o' = s.os := ho
  subst e
  exact I.call (g' := g') (t' := t') (d' := d') u hok hg hch
end

/-! ### the judgements -/
abbrev XK := Value → Option Addr → Hp → Prop
abbrev St := List (Option V)
abbrev VK := V → Hp → Prop
abbrev TE := St → Hp → VK → Prop
abbrev TT := St → Hp → (Bool → Hp → Prop) → Prop
abbrev TA := St → Hp → (List V → Hp → Prop) → Prop
structure Ends where
  nx : St → Hp → Prop
  rt : VK
  bk : St → Hp → Prop := fun _ _ => False
  ct : St → Hp → Prop := fun _ _ => False
abbrev TS := Ends → St → Hp → Prop

def EP (X : Cx) (pins : List (Addr × Obj)) (σ : St) (Q : VK) (u : Value) (s' : Shared) : Prop := ∃ v H', Inv X pins σ H' s' ∧ RelV v u ∧ Q v H'
def TP (X : Cx) (pins : List (Addr × Obj)) (σ : St) (Q : Bool → Hp → Prop) (b : Bool) (s' : Shared) : Prop := ∃ H', Inv X pins σ H' s' ∧ Q b H'
def AP (X : Cx) (pins : List (Addr × Obj)) (σ : St) (Q : List V → Hp → Prop) (us : List Value) (s' : Shared) : Prop := ∃ vs H', Inv X pins σ H' s' ∧ Vals vs us ∧ Q vs H'
def SP (X : Cx) (pins : List (Addr × Obj)) (D : Ends) (f : Flow) (s' : Shared) : Prop :=
  match f with
  | .next => ∃ σ' H', Inv X pins σ' H' s' ∧ D.nx σ' H'
  | .brk => ∃ σ' H', Inv X pins σ' H' s' ∧ D.bk σ' H'
  | .cont => ∃ σ' H', Inv X pins σ' H' s' ∧ D.ct σ' H'
  | .ret u => ∃ v σ' H', Inv X pins σ' H' s' ∧ RelV v u ∧ D.rt v H'

def PE (X : Cx) (e : Expr) (t : TE) : Prop :=
  ∀ (pins : List (Addr × Obj)) (s : Shared) (σ : St) (H : Hp) (Q : VK), Inv X pins σ H s → t σ H Q → wpAny (model X.prog X.w) X.A (eval e X.env) (EP X pins σ Q) X.xe s
def PT (X : Cx) (e : Expr) (t : TT) : Prop :=
  ∀ (pins : List (Addr × Obj)) (s : Shared) (σ : St) (H : Hp) (Q : Bool → Hp → Prop), Inv X pins σ H s → t σ H Q → wpAny (model X.prog X.w) X.A (isTrue e X.env (eval e X.env)) (TP X pins σ Q) X.xe s
def PW (X : Cx) (e : Expr) (t : TT) : Prop :=
  ∀ (whole : Sem Value) (pins : List (Addr × Obj)) (s : Shared) (σ : St) (H : Hp) (Q : Bool → Hp → Prop), Inv X pins σ H s → t σ H Q → wpAny (model X.prog X.w) X.A (isTrue e X.env whole) (TP X pins σ Q) X.xe s
theorem PW.pt {X : Cx} {e : Expr} {t : TT} (h : PW X e t) : PT X e t := h _
def PA (X : Cx) (es : List Expr) (t : TA) : Prop :=
  ∀ (pos : Pos) (pins : List (Addr × Obj)) (s : Shared) (σ : St) (H : Hp) (Q : List V → Hp → Prop), Inv X pins σ H s → t σ H Q → wpAny (model X.prog X.w) X.A (spliced (backTo pos (starEach es X.env))) (AP X pins σ Q) X.xe s
def PS (X : Cx) (st : Stmt) (t : TS) : Prop :=
  ∀ (pins : List (Addr × Obj)) (s : Shared) (σ : St) (H : Hp) (D : Ends), Inv X pins σ H s → t D σ H → wpAny (model X.prog X.w) X.A (exec st X.env) (SP X pins D) X.xe s
def PSs (X : Cx) (st : List Stmt) (t : TS) : Prop :=
  ∀ (pins : List (Addr × Obj)) (s : Shared) (σ : St) (H : Hp) (D : Ends), Inv X pins σ H s → t D σ H → wpAny (model X.prog X.w) X.A (execs st X.env) (SP X pins D) X.xe s
theorem thn {α : Type} {t : Sem α} {Q Q' : α → Shared → Prop} {M : Model} {A : Around} {E : Value → Shared → Prop} {s : Shared} (h : wpAny M A t Q E s) (hQ : ∀ a s, Q a s → Q' a s) : wpAny M A t Q' E s := wpAny_mono h hQ fun _ _ x => x
end L2

namespace L2
open PySem PySem.Spec PyProof.Rows
section
variable {X : Cx}


/-! ### names and constants -/
def tVar (i : Nat) : TE := fun σ H Q => ∃ v, σ[i]? = some (some v) ∧ Q v H
def tC (v : V) : TE := fun _ H Q => Q v H
theorem pe_var {i : Nat} {x : Str} {pos : Pos} (hN : X.N[i]? = some x) (hv : Vis X.env.scope x) (hd : (x == ("__debug__" : Str)) = false := by decide) (hcd : (x == ("__classdict__" : Str)) = false := by decide) : PE X (.Name x pos) (tVar i) := by
  intro pins s σ H Q I h
  obtain ⟨v, e, h⟩ := h
  obtain ⟨m, hn, hl⟩ := I.loc
  obtain ⟨u, r, l⟩ := hl i x v hN e hv
  have fin : EP X pins σ Q u s := ⟨v, H, I, r, h⟩
  rcases l with ⟨hk, hm⟩ | ⟨hk, c, hc, hcell⟩
  · exact wpAny_Name (wpAny_loadName_local I.ok.kind hk hn hm fin) hd
  · rcases hk with hk | hk
    · exact wpAny_Name (wpAny_loadName_cell I.ok.kind hk hc hcell fin) hd
    · exact wpAny_Name (wpAny_loadName_free I.ok.kind hk hc hcell fin hcd) hd
theorem pe_int {i j pos} : PE X (.Constant (.int i) j pos) (tC (.int i)) := fun _ _ _ H _ I h => wpAny_Constant_int ⟨.int i, H, I.tok _, ⟨_, rfl⟩, h⟩
theorem pe_bl {b j pos} : PE X (.Constant (.bool b) j pos) (tC (.bl b)) := fun _ _ _ H _ I h => Constant_bool ⟨.bl b, H, I, rfl, h⟩
theorem pe_non {j pos} : PE X (.Constant .none j pos) (tC .non) := fun _ _ _ H _ I h => Constant_none ⟨.non, H, I, rfl, h⟩
theorem pe_str {x j pos} : PE X (.Constant (.str x) j pos) (tC (.str x)) := fun _ _ _ H _ I h => Calls.Constant_str ⟨.str x, H, I.tok _, ⟨_, rfl⟩, h⟩

def Gl (X : Cx) (x : Str) : Prop := X.env.kindOf x = some .globalImplicit
theorem ld_glob {E : Value → Shared → Prop} {pins : List (Addr × Obj)} {s : Shared} {σ : St} {H : Hp} {x : Str} {u : Value} {pos : Pos} {Q : Value → Shared → Prop} (I : Inv X pins σ H s) (hg : Gl X x) (hm : X.mg x = some u) (h : Q u s)
    (hd : (x == ("__debug__" : Str)) = false := by decide) : wpAny (model X.prog X.w) X.A (eval (.Name x pos) X.env) Q E s :=
  Calls.Name_function_global I.ok.kind hg (Calls.loadGlobal_global (by rw [I.ok.glob]; exact I.mod.glob.keeps I.bk) hm h) hd
theorem ld_blt {E : Value → Shared → Prop} {pins : List (Addr × Obj)} {s : Shared} {σ : St} {H : Hp} {x : Str} {u : Value} {pos : Pos} {Q : Value → Shared → Prop} (I : Inv X pins σ H s) (hg : Gl X x) (hm : X.mg x = none) (hv : bootBuiltins x = some u) (h : Q u s)
    (hn : x ≠ "__name__" := by decide) (hd : (x == ("__debug__" : Str)) = false := by decide) : wpAny (model X.prog X.w) X.A (eval (.Name x pos) X.env) Q E s := by
  obtain ⟨mb, h1, h2⟩ := I.mod.blt
  exact Calls.Name_function_global I.ok.kind hg (Calls.loadGlobal_builtin (by rw [I.ok.glob]; exact I.mod.glob.keeps I.bk) hm (by rw [I.ok.blt]; exact h1.keeps I.bk) ((h2 x hn).trans hv) h) hd
theorem pe_bltn {x : Str} {v : V} {u : Value} {pos : Pos} (hg : Gl X x) (hm : X.mg x = none) (hv : bootBuiltins x = some u) (r : RelV v u) (hn : x ≠ "__name__" := by decide) (hd : (x == ("__debug__" : Str)) = false := by decide) : PE X (.Name x pos) (tC v) :=
  fun _ _ _ H _ I h => ld_blt I hg hm hv ⟨v, H, I, r, h⟩ hn hd

/-! ### arithmetic -/
variable {a b : Expr} {ta tb : TE} {pos : Pos}

/-! ### comparisons -/
theorem nobehind (b : Expr) {op : CmpOp} (h : op ≠ .In) (h2 : op ≠ .NotIn) : behindInMarks op b = false := by
  have e1 : (op == CmpOp.In) = false := by cases op <;> first | rfl | exact absurd rfl h
  have e2 : (op == CmpOp.NotIn) = false := by cases op <;> first | rfl | exact absurd rfl h2
  cases b <;> simp [behindInMarks, e1, e2]
def tB (t : TE) : TT := fun σ H Q => t σ H fun x H1 => ∃ c, x = .bl c ∧ Q c H1
theorem pt_val {e : Expr} {t : TE} (h : PE X e t) (he : ∀ whole, isTrue e X.env whole = (do let v ← whole; standAt e.pos; holding [v] (truthy v)) := by intro _; rfl) : PT X e (tB t) := by
  intro pins s σ H Q I hw
  refine isTrue_plain (thn (h pins s σ H _ I hw) fun v s1 ⟨x, H1, I1, r1, q1⟩ => ?_) (he _)
  obtain ⟨d, rfl, q⟩ := q1
  cases r1
  exact wpAny_truthy_bool ⟨H1, I1, q⟩

/-! ### and, or, not -/
variable {tA tB' : TT} {rest : List Expr}
def tAnd (t u : TT) : TT := fun σ H Q => t σ H fun c H1 => if c = true then u σ H1 Q else Q false H1
def tOr (t u : TT) : TT := fun σ H Q => t σ H fun c H1 => if c = true then Q true H1 else u σ H1 Q
def tNot (t : TT) : TT := fun σ H Q => t σ H fun c H1 => Q (!c) H1
theorem pw_and1 (ha : PT X a tA) : PW X (.BoolOp .And [a] pos) tA := by
  intro wh pins s σ H Q I h
  refine isTrue_and (thn (ha pins s σ H Q I h) fun c s1 e => ?_)
  cases c with
  | true => exact isTrue_and_nil e
  | false => exact e
theorem pw_or1 (ha : PT X a tA) : PW X (.BoolOp .Or [a] pos) tA := by
  intro wh pins s σ H Q I h
  refine isTrue_or (thn (ha pins s σ H Q I h) fun c s1 e => ?_)
  cases c with
  | false => exact isTrue_or_nil e
  | true => exact e
theorem pw_and (ha : PT X a tA) (hb : PW X (.BoolOp .And (b :: rest) pos) tB') : PW X (.BoolOp .And (a :: b :: rest) pos) (tAnd tA tB') := by
  intro wh pins s σ H Q I h
  refine isTrue_and (thn (ha pins s σ H _ I h) fun c s1 ⟨H1, I1, q1⟩ => ?_)
  cases c with
  | true => exact hb wh pins s1 σ H1 Q I1 q1
  | false => exact ⟨H1, I1, q1⟩
theorem pw_or (ha : PT X a tA) (hb : PW X (.BoolOp .Or (b :: rest) pos) tB') : PW X (.BoolOp .Or (a :: b :: rest) pos) (tOr tA tB') := by
  intro wh pins s σ H Q I h
  refine isTrue_or (thn (ha pins s σ H _ I h) fun c s1 ⟨H1, I1, q1⟩ => ?_)
  cases c with
  | true => exact ⟨H1, I1, q1⟩
  | false => exact hb wh pins s1 σ H1 Q I1 q1
theorem pt_not (ha : PT X a tA) : PT X (.UnaryOp .Not a pos) (tNot tA) := by
  intro pins s σ H Q I h
  exact isTrue_not (ha pins s σ H (fun c H1 => Q (!c) H1) I h)
def tAndV (ta tb : TE) : TE := fun σ H Q => ta σ H fun x H1 => ∃ c, x = .bl c ∧ if c = true then tb σ H1 Q else Q (.bl false) H1
def tNotV (ta : TE) : TE := fun σ H Q => ta σ H fun x H1 => ∃ c, x = .bl c ∧ Q (.bl (!c)) H1
theorem pe_one {op} {t : TE} (h : PE X a t) : PE X (.BoolOp op [a] pos) t := fun pins s σ H Q I hw => BoolOp_one (h pins s σ H Q I hw)
theorem pe_and (ha : PE X a ta) (hb : PE X (.BoolOp .And (b :: rest) pos) tb) : PE X (.BoolOp .And (a :: b :: rest) pos) (tAndV ta tb) := by
  intro pins s σ H Q I h
  refine BoolOp_and (thn (ha pins s σ H _ I h) fun v s1 ⟨x, H1, I1, r1, q1⟩ => ?_)
  obtain ⟨c, rfl, q1⟩ := q1
  cases r1
  refine wpAny_truthy_bool ?_
  cases c with
  | true => exact hb pins s1 σ H1 Q I1 q1
  | false => exact ⟨.bl false, H1, I1, rfl, q1⟩
theorem pe_not (ha : PE X a ta) : PE X (.UnaryOp .Not a pos) (tNotV ta) := by
  intro pins s σ H Q I h
  refine UnaryOp_ (thn (ha pins s σ H _ I h) fun v s1 ⟨x, H1, I1, r1, q1⟩ => ?_)
  obtain ⟨c, rfl, q1⟩ := q1
  cases r1
  exact not_of (wpAny_truthy_bool ⟨.bl (!c), H1, I1, rfl, q1⟩)
end
end L2

namespace L2
open PySem PySem.Spec PyProof.Rows

/-! ### a list, a tuple that is read: tracked, frozen, or an object of the module -/
def SqL (K : PySem.W.Frag) (H : Hp) (a : Addr) (xs : List V) : Prop :=
  Rd H a (.lst xs) ∨
    ∃ (o : Obj) (its : Array Value) (n : Nat), K.lookup a = some o ∧ o.cls = .type "list" ∧ o.dict = none ∧ o.data = .seq its n ∧ its.size ≤ sizeLine ∧ Vals xs its.toList
def SqT (K : PySem.W.Frag) (H : Hp) (a : Addr) (xs : List V) : Prop :=
  Rd H a (.tup xs) ∨
    ∃ (o : Obj) (its : Array Value) (n : Nat), K.lookup a = some o ∧ o.cls = .type "tuple" ∧ o.data = .seq its n ∧ its.size ≤ sizeLine ∧ Vals xs its.toList
def absV : Value → Option V
  | .none => some .non
  | .bool b => some (.bl b)
  | .int i _ => some (.int i)
  | .str x _ => some (.str x)
  | .bytes b _ => some (.byt b)
  | .float b _ => some (.flt b)
  | .ref a => some (.ref a)
  | .type n => some (.ty n)
  | _ => none
theorem RelV.abs {x : V} {u : Value} (r : RelV x u) : absV u = some x := by
  cases x with
  | non => cases r; rfl
  | bl _ => cases r; rfl
  | int _ => obtain ⟨t, rfl⟩ := r; rfl
  | str _ => obtain ⟨t, rfl⟩ := r; rfl
  | byt _ => obtain ⟨t, rfl⟩ := r; rfl
  | flt _ => obtain ⟨t, rfl⟩ := r; rfl
  | ref _ => cases r; rfl
  | ty _ => cases r; rfl
theorem RelV.inj {x y : V} {u : Value} (r : RelV x u) (q : RelV y u) : x = y := Option.some.inj (r.abs.symm.trans q.abs)
theorem Vals.inj : ∀ {xs ys : List V} {us : List Value}, Vals xs us → Vals ys us → xs = ys
  | _, _, _, .nil, .nil => rfl
  | _, _, _, .cons r t, .cons r' t' => by rw [r.inj r', Vals.inj t t']
section
variable {X : Cx} {pins : List (Addr × Obj)} {σ : St} {H : Hp} {s : Shared} {a : Addr} {xs ys : List V}
theorem SqL.of {K : PySem.W.Frag} (h : H a = some (.lst xs)) : SqL K H a xs := .inl (.inl h)
theorem Inv.list (I : Inv X pins σ H s) (h : SqL X.K H a xs) : ∃ its : List Value, Vals xs its ∧ PlainL s.heap a its.toArray ∧ xs.length ≤ sizeLine := by
  rcases h with h | ⟨o, its, n, hk, hc, hd, hs, hz, r⟩
  · obtain ⟨z, its, n, r, e⟩ := h.ok I.hok
    exact ⟨its, r, ⟨_, n, e, rfl, rfl, rfl⟩, z⟩
  · refine ⟨its.toList, r, ⟨o, n, I.kIn a o hk, hc, hd, by simpa using hs⟩, ?_⟩
    have e := r.length
    simp only [Array.length_toList] at e
    omega
theorem Inv.tuple (I : Inv X pins σ H s) (h : SqT X.K H a xs) : ∃ its : List Value, Vals xs its ∧ IsTup s.heap a its.toArray ∧ xs.length ≤ sizeLine := by
  rcases h with h | ⟨o, its, n, hk, hc, hs, hz, r⟩
  · obtain ⟨z, its, r, p⟩ := h.ok I.hok
    exact ⟨its, r, p, z⟩
  · refine ⟨its.toList, r, ⟨o, I.kIn a o hk, hc, n, by simpa using hs⟩, ?_⟩
    have e := r.length
    simp only [Array.length_toList] at e
    omega
theorem Inv.list_inj (I : Inv X pins σ H s) (h : SqL X.K H a xs) (h' : SqL X.K H a ys) : xs = ys := by
  obtain ⟨its, r, ⟨o, n, e, _, _, d⟩, _⟩ := I.list h
  obtain ⟨its', r', ⟨o', n', e', _, _, d'⟩, _⟩ := I.list h'
  rw [e] at e'; cases e'
  rw [d] at d'
  injection d' with d1 _
  have : its = its' := by simpa using congrArg Array.toList d1
  subst this
  exact r.inj r'
theorem Inv.tuple_inj (I : Inv X pins σ H s) (h : SqT X.K H a xs) (h' : SqT X.K H a ys) : xs = ys := by
  obtain ⟨its, r, ⟨o, e, _, n, d⟩, _⟩ := I.tuple h
  obtain ⟨its', r', ⟨o', e', _, n', d'⟩, _⟩ := I.tuple h'
  rw [e] at e'; cases e'
  rw [d] at d'
  injection d' with d1 _
  have : its = its' := by simpa using congrArg Array.toList d1
  subst this
  exact r.inj r'
end

/-! ### another wish about exceptions -/
abbrev Cx.wish (X : Cx) (E : Value → Shared → Prop) : Cx := { X with xe := E }
abbrev Cx.nox (X : Cx) : Cx := X.wish fun _ _ => False
theorem Cx.Ok.wish {X : Cx} (ok : X.Ok) (E : Value → Shared → Prop) : (X.wish E).Ok :=
  ⟨ok.mod, ok.kind, ok.glob, ok.blt, ok.above, ok.inj, ok.has, ok.cab, ok.hd, ok.frames, ok.stk, ok.exf, ok.bs, ok.bsz, ok.noex, ok.exfs, ok.funs, ok.frf⟩
theorem Cx.Ok.unwish {X : Cx} {E : Value → Shared → Prop} (ok : (X.wish E).Ok) : X.Ok :=
  ⟨ok.mod, ok.kind, ok.glob, ok.blt, ok.above, ok.inj, ok.has, ok.cab, ok.hd, ok.frames, ok.stk, ok.exf, ok.bs, ok.bsz, ok.noex, ok.exfs, ok.funs, ok.frf⟩
section
variable {X : Cx} {pins : List (Addr × Obj)} {σ : St} {H : Hp} {s : Shared} {E : Value → Shared → Prop}
theorem Inv.wish (I : Inv X pins σ H s) (E : Value → Shared → Prop) : Inv (X.wish E) pins σ H s := ⟨I.ok.wish E, I.os, I.bare, I.base, I.loc, I.cell, I.free, I.freeC, I.pin, I.hok, I.len⟩
theorem Inv.unwish (I : Inv (X.wish E) pins σ H s) : Inv X pins σ H s := ⟨I.ok.unwish, I.os, I.bare, I.base, I.loc, I.cell, I.free, I.freeC, I.pin, I.hok, I.len⟩
theorem SP.unwish {D : Ends} {f : Flow} {s' : Shared} (h : SP (X.wish E) pins D f s') : SP X pins D f s' := by
  cases f with
  | next => obtain ⟨σ', H', I, q⟩ := h; exact ⟨σ', H', I.unwish, q⟩
  | brk => obtain ⟨σ', H', I, q⟩ := h; exact ⟨σ', H', I.unwish, q⟩
  | cont => obtain ⟨σ', H', I, q⟩ := h; exact ⟨σ', H', I.unwish, q⟩
  | ret u => obtain ⟨v, σ', H', I, r, q⟩ := h; exact ⟨v, σ', H', I.unwish, r, q⟩
theorem PSs.nox {st : List Stmt} {t : TS} (h : PSs X.nox st t) : PSs X st t := fun pins s σ H D I hw =>
  wpAny_mono (h pins s σ H D (I.wish _) hw) (fun _ _ q => q.unwish) fun _ _ z => False.elim z
end

/-! ### blocks and small statements -/
section
variable {X : Cx} {st : Stmt} {rest : List Stmt} {t u : TS} {e : Expr} {te : TE} {pos : Pos}
def tNext : TS := fun D σ H => D.nx σ H
def tSeq (t u : TS) : TS := fun D σ H => t { D with nx := u D } σ H
theorem pss_nil : PSs X [] tNext := fun _ _ σ H _ I h => wpAny_execs_nil ⟨σ, H, I, h⟩
theorem pss_cons (h1 : PS X st t) (h2 : PSs X rest u) : PSs X (st :: rest) (tSeq t u) := by
  intro pins s σ H D I h
  refine wpAny_execs_cons (thn (h1 pins s σ H { D with nx := u D } I h) fun f s1 q => ?_)
  cases f with
  | next =>
    obtain ⟨σ', H', I', q⟩ := q
    exact h2 pins s1 σ' H' D I' q
  | ret v => exact q
  | brk => exact q
  | cont => exact q
theorem pss_one (h1 : PS X st t) : PSs X [st] t := by
  intro pins s σ H D I h
  refine wpAny_execs_cons (thn (h1 pins s σ H D I h) fun f s1 q => ?_)
  cases f with
  | next => exact wpAny_execs_nil q
  | ret v => exact q
  | brk => exact q
  | cont => exact q
theorem Inv.quiet {pins : List (Addr × Obj)} {σ : St} {H : Hp} {s : Shared} (I : Inv X pins σ H s) : interactive X.env = false := by simp [interactive, I.ok.kind]
def tDrop (te : TE) : TS := fun D σ H => te σ H fun _ H1 => D.nx σ H1
theorem ps_expr (he : PE X e te) (hs : swapsWith e none pos.line X.env = pure false := by rfl) : PS X (.Expr e pos) (tDrop te) := by
  intro pins s σ H D I h
  exact wpAny_Expr_any (thn (he pins s σ H _ I h) fun v s1 ⟨x, H1, I1, r1, q1⟩ => ⟨σ, H1, I1, q1⟩) I.quiet hs
def tRet (te : TE) : TS := fun D σ H => te σ H D.rt
theorem ps_ret (he : PE X e te) : PS X (.Return (some e) pos) (tRet te) := by
  intro pins s σ H D I h
  exact wpAny_Return_some (thn (he pins s σ H _ I h) fun v s1 ⟨x, H1, I1, r1, q1⟩ => ⟨x, σ, H1, I1, r1, q1⟩)
def tIfS (c : TT) (t u : TS) : TS := fun D σ H => c σ H fun b H1 => if b = true then t D σ H1 else u D σ H1
theorem ps_if {c : Expr} {a b : List Stmt} {tc : TT} (hc : PT X c tc) (ha : PSs X a t) (hb : PSs X b u) : PS X (.If c a b pos) (tIfS tc t u) := by
  intro pins s σ H D I h
  refine wpAny_If (thn (hc pins s σ H _ I h) fun d s1 ⟨H1, I1, q1⟩ => ?_)
  cases d with
  | true => exact ha pins s1 σ H1 D I1 q1
  | false => exact hb pins s1 σ H1 D I1 q1
end

/-! ### targets -/
abbrev TG := V → St → Hp → (St → Hp → Prop) → Prop
abbrev TGs := List V → St → Hp → (St → Hp → Prop) → Prop
def PG (X : Cx) (target : Expr) (t : TG) : Prop :=
  ∀ (pins : List (Addr × Obj)) (s : Shared) (σ : St) (H : Hp) (v : V) (u : Value) (Q : St → Hp → Prop), Inv X pins σ H s → RelV v u → t v σ H Q →
    wpAny (model X.prog X.w) X.A (assign target X.env u) (fun _ s' => ∃ σ' H', Inv X pins σ' H' s' ∧ Q σ' H') X.xe s
def PGs (X : Cx) (ts : List Expr) (t : TGs) : Prop :=
  ∀ (pins : List (Addr × Obj)) (s : Shared) (σ : St) (H : Hp) (vs : List V) (us : List Value) (Q : St → Hp → Prop), Inv X pins σ H s → Vals vs us → t vs σ H Q →
    wpAny (model X.prog X.w) X.A (assignInOrder ((assignEach ts X.env).map (·.2)) us) (fun _ s' => ∃ σ' H', Inv X pins σ' H' s' ∧ Q σ' H') X.xe s
abbrev TSet := V → V → V → Hp → (Hp → Prop) → Prop
def PSet (X : Cx) (t : TSet) : Prop :=
  ∀ (pins : List (Addr × Obj)) (s : Shared) (σ : St) (H : Hp) (o i v : V) (ov iv u : Value) (Q : Hp → Prop), Inv X pins σ H s → RelV o ov → RelV i iv → RelV v u → t o i v H Q →
    wpAny (model X.prog X.w) X.A (setItem ov iv u) (fun _ s' => ∃ H', Inv X pins σ H' s' ∧ Q H') X.xe s
abbrev TIp := V → V → Hp → VK → Prop
def PIp (X : Cx) (op : Operator) (t : TIp) : Prop :=
  ∀ (pins : List (Addr × Obj)) (s : Shared) (σ : St) (H : Hp) (x y : V) (v u : Value) (Q : VK), Inv X pins σ H s → RelV x v → RelV y u → t x y H Q →
    wpAny (model X.prog X.w) X.A (inplaceOp op v u) (EP X pins σ Q) X.xe s
section
variable {X : Cx} {pos : Pos}
def gName (i : Nat) : TG := fun v σ H Q => Q (σ.set i (some v)) H
theorem pg_name {i : Nat} {x : Str} (hN : X.N.Nodup) (hi : X.N[i]? = some x) (hx : Loc X.env.scope x) (hf : X.fn x = true ∨ X.env.scope.names.lookup x = some .local := by first | exact .inl rfl | exact .inr rfl | assumption) : PG X (.Name x pos) (gName i) := by
  intro pins s σ H v u Q I r h
  exact wpAny_assign_Name (store_ok I hN hi hx r (fun s' I' => ⟨_, H, I', h⟩) hf)
def gNil : TGs := fun vs σ H Q => vs = [] ∧ Q σ H
def gCons (t : TG) (u : TGs) : TGs := fun vs σ H Q => ∃ v r, vs = v :: r ∧ t v σ H fun σ' H' => u r σ' H' Q
theorem pgs_nil : PGs X [] gNil := by
  intro pins s σ H vs us Q I r h
  obtain ⟨e, h⟩ := h
  subst e
  cases r
  exact assignInOrder_nil ⟨σ, H, I, h⟩
theorem pgs_cons {e : Expr} {es : List Expr} {t : TG} {u : TGs} (h1 : PG X e t) (h2 : PGs X es u)
    (hs : (assignEach (e :: es) X.env).map (·.2) = assign e X.env :: (assignEach es X.env).map (·.2) := by rfl) : PGs X (e :: es) (gCons t u) := by
  intro pins s σ H vs us Q I r h
  obtain ⟨v, vr, e1, h⟩ := h
  subst e1
  cases r with
  | cons r rr =>
    rw [hs]
    refine assignInOrder_cons (thn (h1 pins s σ H _ _ _ I r h) fun _ s1 ⟨σ1, H1, I1, q1⟩ => ?_)
    exact h2 pins s1 σ1 H1 _ _ Q I1 rr q1
def gTup (K : PySem.W.Frag) (n : Nat) (t : TGs) : TG := fun v σ H Q => ∃ a xs, v = .ref a ∧ SqT K H a xs ∧ xs.length = n ∧ t xs σ H Q
theorem pg_tup {es : List Expr} {k : Nat} {t : TGs} {n : Nat} (hc : X.calm = true) (h : PGs X es t)
    (hn : (assignEach es X.env).length = n := by rfl) (hst : (assignEach es X.env).findIdx? (·.1) = none := by rfl) : PG X (.Tuple es k pos) (gTup X.K n t) := by
  intro pins s σ H v u Q I r hw
  obtain ⟨a, xs, e1, hq, hl, hw⟩ := hw
  subst e1
  cases r
  obtain ⟨its, rv, ht, hz⟩ := I.tuple hq
  refine assign_Tuple_tuple (I.ok.hd hc) ht (by simp [hn, ← hl, rv.length]) hst fun h' hx => ?_
  have I1 : Inv X pins σ H { s with heap := h' } := I.kept (t' := s.toks) fun b o e => hx b o (Nat.ne_of_lt (Heap.lt_size e)) e
  exact h pins _ σ H xs _ Q I1 (by simpa using rv) hw
def gSub (to ti : TE) (t : TSet) : TG := fun v σ H Q => to σ H fun o H1 => ti σ H1 fun i H2 => t o i v H2 fun H3 => Q σ H3
theorem pg_sub {o i : Expr} {to ti : TE} {t : TSet} (ho : PE X o to) (hi : PE X i ti) (hs : PSet X t)
    (ha : ∀ v, assign (.Subscript o i pos) X.env v = (do
      let ov ← holding [v] (eval o X.env)
      let iv ← holding [v, ov] (eval i X.env)
      standAt pos
      holding [v, ov, iv] (setItem ov iv v)
      release [v, ov, iv] []) := by intro _; rfl) : PG X (.Subscript o i pos) (gSub to ti t) := by
  intro pins s σ H v u Q I r h
  rw [ha]
  refine wpAny_bind (wpAny_holding (thn (ho pins s σ H _ I h) fun ov s1 ⟨x, H1, I1, r1, q1⟩ => ?_))
  refine wpAny_bind (wpAny_holding (thn (hi pins s1 σ H1 _ I1 q1) fun iv s2 ⟨y, H2, I2, r2, q2⟩ => ?_))
  refine wpAny_bind (wpAny_standAt (wpAny_bind (wpAny_holding (thn (hs pins s2 σ H2 x y v ov iv u _ I2 r1 r2 r q2) fun _ s3 ⟨H3, I3, q3⟩ => ?_))))
  exact wpAny_release ⟨σ, H3, I3, q3⟩
def tAsg (te : TE) (g : TG) : TS := fun D σ H => te σ H fun x H1 => g x σ H1 D.nx
theorem ps_asg {tg e : Expr} {te : TE} {g : TG} (he : PE X e te) (hg : PG X tg g) (hs : swapsWithSole [tg] e pos.line X.env = pure false := by rfl) (hw : swappedStores [tg] e X.env = pure none := by rfl)
    (h1 : (assignEach [tg] X.env).map (·.2) = [assign tg X.env] := by rfl) : PS X (.Assign [tg] e pos) (tAsg te g) := by
  intro pins s σ H D I h
  refine wpAny_Assign_stores (thn (he pins s σ H _ I h) fun v s1 ⟨x, H1, I1, r1, q1⟩ => ?_) hs hw
  rw [h1]
  exact thn (hg pins s1 σ H1 x v _ I1 r1 q1) fun _ s2 q => q
theorem ps_set {i : Nat} {x : Str} {e : Expr} {te : TE} {pos' : Pos} (hN : X.N.Nodup) (hi : X.N[i]? = some x) (hx : Loc X.env.scope x) (he : PE X e te) (hs : swapsWith e (some (.Name x pos')) pos.line X.env = pure false := by rfl) (hf : X.fn x = true ∨ X.env.scope.names.lookup x = some .local := by first | exact .inl rfl | exact .inr rfl | assumption) :
    PS X (.Assign [.Name x pos'] e pos) (tAsg te (gName i)) := by
  intro pins s σ H D I h
  refine wpAny_Assign_Name (thn (he pins s σ H _ I h) fun v s1 ⟨y, H1, I1, r1, q1⟩ => ?_) hs
  exact store_ok I1 hN hi hx r1 (fun s2 I2 => ⟨_, H1, I2, q1⟩) hf
def tAug (i : Nat) (te : TE) (ti : TIp) : TS := fun D σ H => ∃ x, σ[i]? = some (some x) ∧ te σ H fun y H1 => ti x y H1 fun z H2 => D.nx (σ.set i (some z)) H2
theorem ps_aug {i : Nat} {x : Str} {e : Expr} {te : TE} {op : Operator} {ti : TIp} {pos' : Pos} (hN : X.N.Nodup) (hi : X.N[i]? = some x) (hx : Loc X.env.scope x) (he : PE X e te) (ho : PIp X op ti) (hf : X.fn x = true ∨ X.env.scope.names.lookup x = some .local := by first | exact .inl rfl | exact .inr rfl | assumption) :
    PS X (.AugAssign (.Name x pos') op e pos) (tAug i te ti) := by
  intro pins s σ H D I h
  obtain ⟨v, e1, h⟩ := h
  obtain ⟨m, hn, hl⟩ := I.loc
  have vis : Vis X.env.scope x := by rcases hx with k | k; exact .inl k; exact .inr (.inl k)
  obtain ⟨u, r, l⟩ := hl i x v hi e1 vis
  refine wpAny_AugAssign_Name ?_
  have go : wpAny (model X.prog X.w) X.A (eval e X.env) (fun w s₂ => wpAny (model X.prog X.w) X.A (inplaceOp op u w) (fun r s₃ => wpAny (model X.prog X.w) X.A (storeName X.env x r) (fun _ => SP X pins D .next) X.xe s₃) X.xe s₂) X.xe s := by
    refine thn (he pins s σ H _ I h) fun w s1 ⟨y, H1, I1, r1, q1⟩ => ?_
    refine thn (ho pins s1 σ H1 v y u w _ I1 r r1 q1) fun z s2 ⟨zv, H2, I2, r2, q2⟩ => ?_
    exact store_ok I2 hN hi hx r2 (fun s3 I3 => ⟨_, H2, I3, q2⟩) hf
  rcases l with ⟨hk, hm⟩ | ⟨hk, c, hc, hcell⟩
  · exact wpAny_loadName_local I.ok.kind hk hn hm go
  · rcases hk with hk | hk
    · exact wpAny_loadName_cell I.ok.kind hk hc hcell go
    · rcases hx with k | k
      · have : X.env.scope.names.lookup x = some .free := hk
        rw [k] at this; cases this
      · have : X.env.scope.names.lookup x = some .free := hk
        rw [k] at this; cases this
def ipI (f : Int → Int → Int) : TIp := fun x y H Q => ∃ i j, x = .int i ∧ y = .int j ∧ Q (.int (f i j)) H
theorem ip_add : PIp X .Add (ipI fun i j => i + j) := by
  intro pins s σ H x y v u Q I r1 r2 h
  obtain ⟨i, j, e1, e2, q⟩ := h
  subst e1; subst e2
  obtain ⟨t, rfl⟩ := r1
  obtain ⟨t', rfl⟩ := r2
  exact iadd_int ⟨.int _, H, I.tok _, ⟨_, rfl⟩, q⟩
end

/-! ### while -/
section
variable {X : Cx} {pos : Pos}
def tWhile (c : TT) (tb : TS) : TS := fun D σ H => ∃ W : Nat → St → Hp → Prop, (∃ m, W m σ H) ∧ ∀ m σ H, W m σ H →
  c σ H fun b H1 => if b = true then ∃ N : St → Hp → Prop, (∀ σ' H', N σ' H' → ∃ m', m' < m ∧ W m' σ' H') ∧ tb { D with nx := N, ct := N, bk := D.nx } σ H1 else D.nx σ H1
theorem ps_while {c : Expr} {body : List Stmt} {tc : TT} {tb : TS} (hp : PassesOwn (model X.prog X.w) X.A X.env X.xe) (hc : PT X c tc) (hb : PSs X body tb) : PS X (.While c body [] pos) (tWhile tc tb) := by
  intro pins s σ H D I h
  obtain ⟨W, ⟨m0, w0⟩, turn⟩ := h
  refine wpAny_While (codeAny_whileLoop (fun n s' => ∃ σ' H', Inv X pins σ' H' s' ∧ W n σ' H') ?_ m0 ⟨σ, H, I, w0⟩)
  rintro n s1 ⟨σ1, H1, I1, w1⟩
  refine wpAny_passesOwn hp (thn (hc pins s1 σ1 H1 _ I1 (turn n σ1 H1 w1)) fun b s2 ⟨H2, I2, q2⟩ => ?_)
  cases b with
  | true =>
    obtain ⟨N, hN, q2⟩ := q2
    rw [if_pos rfl]
    refine wpAny_passesOwn hp (thn (hb pins s2 σ1 H2 _ I2 q2) fun f s3 q3 => ?_)
    cases f with
    | next =>
      obtain ⟨σ3, H3, I3, n3⟩ := q3
      obtain ⟨m', hm, w3⟩ := hN σ3 H3 n3
      exact ⟨m', hm, σ3, H3, I3, w3⟩
    | cont =>
      obtain ⟨σ3, H3, I3, n3⟩ := q3
      obtain ⟨m', hm, w3⟩ := hN σ3 H3 n3
      exact ⟨m', hm, σ3, H3, I3, w3⟩
    | brk => exact q3
    | ret v => exact q3
  | false =>
    rw [if_neg Bool.false_ne_true]
    exact wpAny_execs_nil ⟨σ1, H2, I2, q2⟩
end

/-! ### what a loop or a comprehension walks -/
structure It where
  go : Nat → Hp → Prop
  yld : Nat → Hp → V → Hp → Prop
  stop : Nat → Hp → Prop
def FpOk (X : Cx) (pins : List (Addr × Obj)) (H : Hp) (b : Addr) : Prop :=
  H b = none ∧ b ≠ X.env.locals ∧ b ∉ X.fs ∧ (b ∈ X.ex ∨ X.s₀.heap.objs.size ≤ b) ∧ (∀ x c, X.env.cells.lookup x = some c → c ≠ b) ∧ ∀ p ∈ X.pn ++ pins, p.1 ≠ b
theorem Inv.fpOk {X : Cx} {pins : List (Addr × Obj)} {σ : St} {H H' : Hp} {s : Shared} {b : Addr} (I : Inv X pins σ H s) (hb : s.heap.objs.size ≤ b) (hn : H' b = none) : FpOk X pins H' b := by
  refine ⟨hn, Nat.ne_of_gt (Nat.lt_of_lt_of_le I.lt hb), I.nofs hb, .inr (Nat.le_trans I.sz hb), fun x c e z => ?_, fun p hp z => ?_⟩
  · obtain ⟨v, q⟩ := I.cell x c e
    exact absurd (Nat.lt_of_lt_of_le q.lt (by rw [z]; exact hb)) (Nat.lt_irrefl _)
  · exact absurd (Nat.lt_of_lt_of_le (Heap.lt_size (I.pin p hp).1) (by rw [z]; exact hb)) (Nat.lt_irrefl _)
structure Turn (P : Program) (w : World) (K : PySem.W.Frag) (tg : Expr) (J : It) (fp : List Addr) (it : Addr) (tn : Nat → Heap → Prop) : Prop where
  mem : it ∈ fp
  obj : ∀ i h, tn i h → ∀ b ∈ fp, ∃ o, h.get? b = some o ∧ ∀ v, o.data ≠ .cell v
  keep : ∀ i h h', tn i h → (∀ b ∈ fp, ∀ o, h.get? b = some o → h'.get? b = some o) → tn i h'
  item : ∀ (X : Cx), X.prog = P → X.w = w → X.K = K → X.calm = true → ∀ (i : Nat) (pins : List (Addr × Obj)) (s : Shared) (σ : St) (H : Hp) (E : Value → Shared → Prop), Inv X pins σ H s → (∀ b ∈ fp, FpOk X pins H b) → tn i s.heap → J.go i H →
    wpAny (model P w) X.A (pyNext (.ref it)) (fun r s1 => ∃ u, r = some u ∧
      wpAny (model P w) X.A (letOwnedTupleGo tg (.ref it) u) (fun _ s2 => ∃ x H', Inv X pins σ H' s2 ∧ RelV x u ∧ J.yld i H x H' ∧ tn (i + 1) s2.heap ∧ ∀ b ∈ fp, H' b = none) E s1) E s
  done : ∀ (X : Cx), X.prog = P → X.w = w → X.K = K → X.calm = true → ∀ (i : Nat) (pins : List (Addr × Obj)) (s : Shared) (σ : St) (H : Hp) (E : Value → Shared → Prop), Inv X pins σ H s → (∀ b ∈ fp, FpOk X pins H b) → tn i s.heap → J.stop i H →
    wpAny (model P w) X.A (pyNext (.ref it)) (fun r s1 => r = none ∧ Inv X pins σ H s1) E s
  self : ∀ (A : Around) (i : Nat) (s : Shared) (Q : Value → Shared → Prop) (E : Value → Shared → Prop), tn i s.heap → Q (.ref it) s → wpAny (model P w) A (pyIter (.ref it)) Q E s
abbrev TI := St → Hp → (It → Hp → Prop) → Prop
def PIE (X : Cx) (pins : List (Addr × Obj)) (σ : St) (tg : Expr) (R : It → Hp → Prop) (itv : Value) (s2 : Shared) : Prop :=
  ∃ (it : Addr) (fp : List Addr) (tn : Nat → Heap → Prop) (J : It) (H' : Hp), itv = .ref it ∧ Inv X pins σ H' s2 ∧ Turn X.prog X.w X.K tg J fp it tn ∧ tn 0 s2.heap ∧ (∀ b ∈ fp, FpOk X pins H' b) ∧ R J H'
def PI (X : Cx) (tg iter : Expr) (wi : TI) : Prop :=
  ∀ (pins : List (Addr × Obj)) (s : Shared) (σ : St) (H : Hp) (R : It → Hp → Prop), Inv X pins σ H s → wi σ H R →
    wpAny (model X.prog X.w) X.A (eval iter X.env) (fun v s1 => wpAny (model X.prog X.w) X.A (pyIter v) (PIE X pins σ tg R) X.xe s1) X.xe s

theorem go_of {M : Model} {A : Around} {E : Value → Shared → Prop} {s : Shared} {tg : Expr} {it : Addr} {u : Value} {o : Obj} {n : String} {vs : Array Value} {Q : Unit → Shared → Prop} (ho : s.heap.get? it = some o) (hc : o.cls = .type n) (hd : o.data = .fields vs)
    (hn : ["enumerate", "zip", "dict_itemiterator", "dict_reverseitemiterator", "odict_iterator", "itertools.zip_longest", "itertools.pairwise"].contains n = false) (hQ : Q () s) : wpAny M A (letOwnedTupleGo tg (.ref it) u) Q E s := by
  unfold letOwnedTupleGo
  cases tg <;> first
    | exact wpAny_pure hQ
    | (cases u <;> first
        | exact wpAny_pure hQ
        | (refine wpAny_bind (wpAny_load ho ?_)
           rw [hc, hd]
           show wpAny M A (if (["enumerate", "zip", "dict_itemiterator", "dict_reverseitemiterator", "odict_iterator", "itertools.zip_longest", "itertools.pairwise"].contains n && vs[0]? == some (rawInt _)) = true then _ else _) Q E s
           rw [if_neg (by intro h; rw [hn, Bool.false_and] at h; cases h)]
           exact wpAny_pure hQ))

def Itl (K : PySem.W.Frag) (a : Addr) : It :=
  ⟨fun i H => ∃ xs x, SqL K H a xs ∧ xs[i]? = some x, fun i H x H' => H' = H ∧ ∀ xs, SqL K H a xs → xs[i]? = some x, fun i H => ∃ xs, SqL K H a xs ∧ xs.length ≤ i⟩
def Itt (K : PySem.W.Frag) (a : Addr) : It :=
  ⟨fun i H => ∃ xs x, SqT K H a xs ∧ xs[i]? = some x, fun i H x H' => H' = H ∧ ∀ xs, SqT K H a xs → xs[i]? = some x, fun i H => ∃ xs, SqT K H a xs ∧ xs.length ≤ i⟩
def Itr (lo : Int) (n : Nat) : It := ⟨fun i _ => i < n, fun i H x H' => H' = H ∧ x = .int (lo + i), fun i _ => n ≤ i⟩
theorem turn_list {P : Program} {w : World} {K : PySem.W.Frag} {tg : Expr} (a it : Addr) : Turn P w K tg (Itl K a) [it] it (fun i h => h.IsListIter it a i) where
  mem := by simp
  obj := fun i h st b hb => by
    have e : b = it := by simpa using hb
    subst e
    obtain ⟨o, e, c, d⟩ := st
    exact ⟨o, e, fun v z => by rw [d] at z; cases z⟩
  keep := fun i h h' st k => st.at fun o e => k it (by simp) o e
  item := by
    intro X hP hw hK hc i pins s σ H E I hf st hg
    subst hP hw hK
    obtain ⟨xs, x, hq, hx⟩ := hg
    obtain ⟨its, rv, p, hz⟩ := I.list hq
    obtain ⟨u, hu, ru⟩ := rv.get hx
    obtain ⟨f0, f1, f2, f3, f4, f5⟩ := hf it (by simp)
    refine wpAny_pyNext_list_item st p.isList (x := u) (by simpa using hu) fun h' st' sb => ?_
    have I1 : Inv X pins σ H { s with heap := h' } := I.turned (t' := s.toks) (fun b o hb e => (sb.2 b hb).trans e) f0 f1 f3 f4 f5
    obtain ⟨o, e, c, d⟩ := id st'
    exact ⟨u, rfl, go_of (s := { s with heap := h' }) e c d (by decide) ⟨x, H, I1, ru, ⟨rfl, fun ys hy => by rw [I.list_inj hy hq]; exact hx⟩, st', fun b hb => (hf b hb).1⟩⟩
  done := by
    intro X hP hw hK hc i pins s σ H E I hf st hg
    subst hP hw hK
    obtain ⟨xs, hq, hx⟩ := hg
    obtain ⟨its, rv, p, hz⟩ := I.list hq
    obtain ⟨f0, f1, f2, f3, f4, f5⟩ := hf it (by simp)
    have hl := rv.length
    exact wpAny_pyNext_list_end (I.ok.hd hc) st p.isList (by simp; omega) fun h' eb => ⟨rfl, I.turned (t' := s.toks) (fun b o hb e => eb b o hb e) f0 f1 f3 f4 f5⟩
  self := fun _ _ _ _ _ st h => wpAny_pyIter_listiter st h
theorem turn_tuple {P : Program} {w : World} {K : PySem.W.Frag} {tg : Expr} (a it : Addr) : Turn P w K tg (Itt K a) [it] it (fun i h => h.IsTupleIter it a i) where
  mem := by simp
  obj := fun i h st b hb => by
    have e : b = it := by simpa using hb
    subst e
    obtain ⟨o, e, c, d⟩ := st
    exact ⟨o, e, fun v z => by rw [d] at z; cases z⟩
  keep := fun i h h' st k => st.at fun o e => k it (by simp) o e
  item := by
    intro X hP hw hK hc i pins s σ H E I hf st hg
    subst hP hw hK
    obtain ⟨xs, x, hq, hx⟩ := hg
    obtain ⟨its, rv, p, hz⟩ := I.tuple hq
    obtain ⟨u, hu, ru⟩ := rv.get hx
    obtain ⟨f0, f1, f2, f3, f4, f5⟩ := hf it (by simp)
    refine wpAny_pyNext_tuple_item st (show s.heap.IsTuple a its.toArray from p) (x := u) (by simpa using hu) fun h' st' sb => ?_
    have I1 : Inv X pins σ H { s with heap := h' } := I.turned (t' := s.toks) (fun b o hb e => (sb.2 b hb).trans e) f0 f1 f3 f4 f5
    obtain ⟨o, e, c, d⟩ := id st'
    exact ⟨u, rfl, go_of (s := { s with heap := h' }) e c d (by decide) ⟨x, H, I1, ru, ⟨rfl, fun ys hy => by rw [I.tuple_inj hy hq]; exact hx⟩, st', fun b hb => (hf b hb).1⟩⟩
  done := by
    intro X hP hw hK hc i pins s σ H E I hf st hg
    subst hP hw hK
    obtain ⟨xs, hq, hx⟩ := hg
    obtain ⟨its, rv, p, hz⟩ := I.tuple hq
    obtain ⟨f0, f1, f2, f3, f4, f5⟩ := hf it (by simp)
    have hl := rv.length
    exact wpAny_pyNext_tuple_end (I.ok.hd hc) st (show s.heap.IsTuple a its.toArray from p) (by simp; omega) fun h' eb => ⟨rfl, I.turned (t' := s.toks) (fun b o hb e => eb b o hb e) f0 f1 f3 f4 f5⟩
  self := fun _ _ _ _ _ st h => wpAny_pyIter_tupleiter st h
theorem turn_range {P : Program} {w : World} {K : PySem.W.Frag} {tg : Expr} (it : Addr) (lo : Int) (n : Nat) : Turn P w K tg (Itr lo n) [it] it (fun i h => IsRangeIter h it (lo + (i : Nat) * 1) ((n : Int) - (i : Nat)) 1) where
  mem := by simp
  obj := fun i h st b hb => by
    have e : b = it := by simpa using hb
    subst e
    exact ⟨_, st, fun v z => by
      have z' : Data.fields _ = Data.cell v := z
      cases z'⟩
  keep := fun i h h' st k => k it (by simp) _ st
  item := by
    intro X hP hw hK hc i pins s σ H E I hf st hg
    subst hP hw hK
    obtain ⟨f0, f1, f2, f3, f4, f5⟩ := hf it (by simp)
    have W := Walks.range (prog := X.prog) (w := X.w) (I.ok.hd hc) it lo 1 n
    refine W.item i s _ _ hg st fun v h' tk hv st' kk => ?_
    obtain ⟨t, rfl⟩ := hv
    have I1 : Inv X pins σ H { s with heap := h', toks := tk } := I.turned (fun b o hb e => kk b o (by simpa using hb) e) f0 f1 f3 f4 f5
    refine ⟨_, rfl, go_of (s := { s with heap := h', toks := tk }) (n := "range_iterator") st' rfl rfl (by decide) ⟨.int (lo + i), H, I1, ⟨t, ?_⟩, ⟨rfl, rfl⟩, st', fun b hb => (hf b hb).1⟩⟩
    rw [Int.mul_one]
  done := by
    intro X hP hw hK hc i pins s σ H E I hf st hg
    subst hP hw hK
    obtain ⟨f0, f1, f2, f3, f4, f5⟩ := hf it (by simp)
    exact wpAny_pyNext_range_end (I.ok.hd hc) st (by have : n ≤ i := hg; omega) fun h' eb => ⟨rfl, I.turned (t' := s.toks) (fun b o hb e => eb b o hb e) f0 f1 f3 f4 f5⟩
  self := fun _ _ _ _ _ st h => wpAny_pyIter_rangeiter st h
end L2

namespace L2
open PySem PySem.Spec PyProof.Rows
section
variable {X : Cx} {tg : Expr}
theorem range_it {pins : List (Addr × Obj)} {σ : St} {H : Hp} {s : Shared} {R : It → Hp → Prop} {E : Value → Shared → Prop} {lo hi : Int} {t u v : Tok} {tk : Nat} (I : Inv X pins σ H s) (h1 : -(2 ^ 62) ≤ lo) (h2 : lo < 2 ^ 62) (h3 : -(2 ^ 62) ≤ hi) (h4 : hi < 2 ^ 62)
    (q : R (Itr lo (hi - lo).toNat) H) : wpAny (model X.prog X.w) X.A (pyIter (.ref s.heap.objs.size)) (PIE X pins σ tg R) E { s with heap := s.heap.push { cls := .type "range", data := .fields #[.int lo t, .int hi u, .int 1 v] }, toks := tk } := by
  refine wpAny_pyIter_range (IsRange.new ..) (small_one h1 h2 h3 h4) ?_
  have I1 : Inv X pins σ H { s with heap := s.heap.push { cls := .type "range", data := .fields #[.int lo t, .int hi u, .int 1 v] }, toks := tk } := I.kept fun b o e => Heap.get?_push_of_some _ e
  refine ⟨(s.heap.push { cls := .type "range", data := .fields #[.int lo t, .int hi u, .int 1 v] }).objs.size, [(s.heap.push { cls := .type "range", data := .fields #[.int lo t, .int hi u, .int 1 v] }).objs.size], _, _, H, rfl,
    I1.kept (t' := tk) fun b o e => Heap.get?_push_of_some _ e, turn_range _ lo (hi - lo).toNat, ?_, fun b hb => ?_, q⟩
  · have e1 : lo + ((0 : Nat) : Int) * 1 = lo := by simp
    have e2 : (((hi - lo).toNat : Nat) : Int) - ((0 : Nat) : Int) = Builtin.Range.rangeSize lo hi 1 := by rw [rangeSize_one]; split <;> omega
    show IsRangeIter _ _ (lo + ((0 : Nat) : Int) * 1) ((((hi - lo).toNat : Nat) : Int) - ((0 : Nat) : Int)) 1
    rw [e1, e2]
    exact Heap.get?_push_size _ rfl
  · have e : b = (s.heap.push { cls := .type "range", data := .fields #[.int lo t, .int hi u, .int 1 v] }).objs.size := by simpa using hb
    subst e
    exact I1.fpOk (Nat.le_refl _) (I1.hok.fresh (Nat.le_refl _))
def iRng1 (ta : TA) : TI := fun σ H R => ta σ H fun vs H1 => ∃ j : Int, vs = [.int j] ∧ -(2 ^ 62) ≤ j ∧ j < 2 ^ 62 ∧ R (Itr 0 j.toNat) H1
theorem pi_range1 {a : Expr} {ta : TA} {p pos : Pos} (hg : Gl X "range") (hm : X.mg "range" = none) (ha : PA X [a] ta) (hs : starEach [a] X.env = [(false, eval a X.env)] := by rfl) : PI X tg (.Call (.Name "range" p) [a] [] pos) (iRng1 ta) := by
  intro pins s σ H R I h
  refine Call_ (ld_blt I hg hm boot_range (PyProof.Rows.callWith_type1 (thn (ha pos pins s σ H _ I h) fun us s1 ⟨vs, H1, I1, r1, q1⟩ => ?_) hs rfl))
  obtain ⟨j, e, q1, q2, q⟩ := q1
  subst e
  cases r1 with
  | cons r rr =>
    cases rr
    obtain ⟨t, rfl⟩ := r
    exact call_range_1 (range_it I1 (by omega) (by omega) q1 q2 (by simpa using q))

/-! ### for -/
def tFor (wi : TI) (g : TG) (tb : TS) : TS := fun D σ H => wi σ H fun J H1 => ∃ W : Nat → Nat → St → Hp → Prop, (∃ m, W 0 m σ H1) ∧ ∀ i m σ H, W i m σ H →
  (J.stop i H ∧ D.nx σ H) ∨ (J.go i H ∧ ∃ N : St → Hp → Prop, (∀ σ' H', N σ' H' → ∃ m', m' < m ∧ W (i + 1) m' σ' H') ∧ ∀ x H', J.yld i H x H' → g x σ H' fun σ2 H2 => tb { D with nx := N, ct := N, bk := D.nx } σ2 H2)
def pinsAt (fp : List Addr) (h : Heap) : List (Addr × Obj) := fp.filterMap fun b => (h.get? b).map fun o => (b, o)
theorem mem_pinsAt {fp : List Addr} {h : Heap} {b : Addr} {o : Obj} (hb : b ∈ fp) (e : h.get? b = some o) : (b, o) ∈ pinsAt fp h := List.mem_filterMap.mpr ⟨b, hb, by rw [e]; rfl⟩
theorem of_pinsAt {fp : List Addr} {h : Heap} {p : Addr × Obj} (hp : p ∈ pinsAt fp h) : p.1 ∈ fp ∧ h.get? p.1 = some p.2 := by
  obtain ⟨b, hb, e⟩ := List.mem_filterMap.mp hp
  cases q : h.get? b with
  | none => rw [q] at e; cases e
  | some o =>
    rw [q] at e
    have e' : (b, o) = p := Option.some.inj e
    subst e'
    exact ⟨hb, q⟩
theorem Inv.pinned {pins : List (Addr × Obj)} {σ : St} {H : Hp} {s : Shared} {fp : List Addr} (I : Inv X pins σ H s) (hf : ∀ b ∈ fp, FpOk X pins H b) (ho : ∀ b ∈ fp, ∃ o, s.heap.get? b = some o ∧ ∀ v, o.data ≠ .cell v) : Inv X (pins ++ pinsAt fp s.heap) σ H s :=
  I.pins_of fun p hp => (List.mem_append.mp hp).elim (fun z => I.pin p (List.mem_append_right _ z)) fun z => by
    obtain ⟨hb, e⟩ := of_pinsAt z
    obtain ⟨f0, f1, f2, _⟩ := hf p.1 hb
    obtain ⟨o, e', d⟩ := ho p.1 hb
    rw [e] at e'; cases e'
    exact ⟨e, f0, f1, f2, d⟩
theorem Inv.unpinned {pins pl : List (Addr × Obj)} {σ : St} {H : Hp} {s : Shared} (I : Inv X (pins ++ pl) σ H s) : Inv X pins σ H s := I.pins_of fun p hp => I.pin p (List.mem_append_right _ (List.mem_append_left _ hp))
theorem ps_for {iter : Expr} {body : List Stmt} {wi : TI} {g : TG} {tb : TS} {pos : Pos} (hp : PassesOwn (model X.prog X.w) X.A X.env X.xe) (hc : X.calm = true) (hi : PI X tg iter wi) (hg : PG X tg g) (hb : PSs X body tb)
    (hs : ∀ x, foldedSetIterable iter X.env x = pure x := by intro _; rfl) : PS X (.For tg iter body [] pos) (tFor wi g tb) := by
  intro pins s σ H D I h
  refine wpAny_For (thn (hi pins s σ H _ I h) fun v s1 h1 => thn h1 fun itv s2 h2 => ?_) hs
  obtain ⟨it, fp, tn, J, H2, e, I2, T, st2, f2, W, ⟨m0, w0⟩, turn⟩ := h2
  subst e
  -- what stays true of the iterator's objects through the loop
  have stat : ∀ {H' : Hp}, (∀ b ∈ fp, H' b = none) → ∀ b ∈ fp, FpOk X pins H' b := fun hn b hb => ⟨hn b hb, (f2 b hb).2⟩
  refine codeAny_forLoop_any (fun n s' => ∃ i σ' H', Inv X pins σ' H' s' ∧ tn i s'.heap ∧ (∀ b ∈ fp, H' b = none) ∧ W i n σ' H') ?_ m0 ⟨0, σ, H2, I2, st2, fun b hb => (f2 b hb).1, w0⟩
  rintro n s3 ⟨i, σ3, H3, I3, st3, fr3, w3⟩
  rcases turn i n σ3 H3 w3 with ⟨stop, qn⟩ | ⟨go, N, hN, step⟩
  · refine wpAny_passesOwn hp (thn (T.done X rfl rfl rfl hc i pins s3 σ3 H3 X.xe I3 (stat fr3) st3 stop) fun r s4 ⟨hr, I4⟩ => ?_)
    subst hr
    exact wpAny_execs_nil ⟨σ3, H3, I4, qn⟩
  · refine wpAny_passesOwn hp (thn (T.item X rfl rfl rfl hc i pins s3 σ3 H3 X.xe I3 (stat fr3) st3 go) fun r s4 ⟨u, hr, h4⟩ => ?_)
    subst hr
    refine wpAny_passesOwn hp (thn h4 fun _ s5 ⟨x, H5, I5, r5, y5, st5, fr5⟩ => ?_)
    have I5' := I5.pinned (stat fr5) (T.obj _ _ st5)
    refine wpAny_passesOwn hp (thn (hg _ s5 σ3 H5 x u _ I5' r5 (step x H5 y5)) fun _ s6 ⟨σ6, H6, I6, q6⟩ => ?_)
    refine wpAny_passesOwn hp (thn (hb _ s6 σ6 H6 _ I6 q6) fun f s7 q7 => ?_)
    have again : ∀ {σ7 : St} {H7 : Hp}, Inv X (pins ++ pinsAt fp s5.heap) σ7 H7 s7 → N σ7 H7 → ∃ m, m < n ∧ ∃ i σ' H', Inv X pins σ' H' s7 ∧ tn i s7.heap ∧ (∀ b ∈ fp, H' b = none) ∧ W i m σ' H' := fun {σ7 H7} I7 n7 => by
      obtain ⟨m', hm, w7⟩ := hN σ7 H7 n7
      refine ⟨m', hm, i + 1, σ7, H7, I7.unpinned, T.keep _ _ _ st5 fun b hb o e => (I7.pin (b, o) (List.mem_append_right _ (List.mem_append_right _ (mem_pinsAt hb e)))).1, fun b hb => ?_, w7⟩
      obtain ⟨o, e, d⟩ := T.obj _ _ st5 b hb
      exact (I7.pin (b, o) (List.mem_append_right _ (List.mem_append_right _ (mem_pinsAt hb e)))).2.1
    cases f with
    | next => obtain ⟨σ7, H7, I7, n7⟩ := q7; exact again I7 n7
    | cont => obtain ⟨σ7, H7, I7, n7⟩ := q7; exact again I7 n7
    | brk => obtain ⟨σ7, H7, I7, q7⟩ := q7; exact ⟨σ7, H7, I7.unpinned, q7⟩
    | ret v => obtain ⟨x7, σ7, H7, I7, r7, q7⟩ := q7; exact ⟨x7, σ7, H7, I7.unpinned, r7, q7⟩
end

/-! ### the forms one uses -/
end L2

namespace L2
open PySem PySem.Spec PyProof.Rows

abbrev R2 := V → V → Hp → VK → Prop
def OpR (X : Cx) (f : Value → Value → Sem Value) (r : R2) : Prop :=
  ∀ (pins : List (Addr × Obj)) (s : Shared) (σ : St) (H : Hp) (x y : V) (v u : Value) (Q : VK), Inv X pins σ H s → RelV x v → RelV y u → r x y H Q →
    wpAny (model X.prog X.w) X.A (f v u) (EP X pins σ Q) X.xe s
def CallR (X : Cx) (f : Value) (r : List V → Hp → VK → Prop) : Prop :=
  ∀ (pins : List (Addr × Obj)) (s : Shared) (σ : St) (H : Hp) (xs : List V) (us : List Value) (Q : VK), Inv X pins σ H s → Vals xs us → r xs H Q →
    wpAny (model X.prog X.w) X.A (call f us) (EP X pins σ Q) X.xe s

def tOp (r : R2) (ta tb : TE) : TE := fun σ H Q => ta σ H fun x H1 => tb σ H1 fun y H2 => r x y H2 Q
def rI (C : Int → Int → Prop) (g : Int → Int → V) : R2 := fun x y H Q => ∃ i j, x = .int i ∧ y = .int j ∧ C i j ∧ Q (g i j) H
def rI0 (g : Int → Int → V) : R2 := fun x y H Q => ∃ i j, x = .int i ∧ y = .int j ∧ Q (g i j) H

section
variable {X : Cx} {a b c : Expr} {ta tb tc : TE} {pos : Pos}

theorem binT (ha : PE X a ta) (hb : PE X b tb) {pins : List (Addr × Obj)} {s : Shared} {σ : St} {H : Hp} {R : V → V → Hp → Prop} (I : Inv X pins σ H s)
    (h : ta σ H fun x H1 => tb σ H1 fun y H2 => R x y H2) {Q : Value → Shared → Prop} {f : Value → Value → Sem Value}
    (hf : ∀ v u s2 x y H2, Inv X pins σ H2 s2 → RelV x v → RelV y u → R x y H2 → wpAny (model X.prog X.w) X.A (f v u) Q X.xe s2) :
    wpAny (model X.prog X.w) X.A (eval a X.env) (fun v s₁ => wpAny (model X.prog X.w) X.A (eval b X.env) (fun u s₂ => wpAny (model X.prog X.w) X.A (f v u) Q X.xe s₂) X.xe s₁) X.xe s := by
  refine thn (ha pins s σ H _ I h) fun v s1 ⟨x, H1, I1, r1, q1⟩ => ?_
  refine thn (hb pins s1 σ H1 _ I1 q1) fun u s2 ⟨y, H2, I2, r2, q2⟩ => ?_
  exact hf v u s2 x y H2 I2 r1 r2 q2

theorem pe_op {op : Operator} {r : R2} (ho : OpR X (binaryOp op) r) (ha : PE X a ta) (hb : PE X b tb) : PE X (.BinOp a op b pos) (tOp r ta tb) := by
  intro pins s σ H Q I h
  exact wpAny_BinOp (binT ha hb I h fun v u s2 x y H2 I2 rx ry q => ho pins s2 σ H2 x y v u Q I2 rx ry q)

/-! ### ints -/
theorem opI {f : Value → Value → Sem Value} {C : Int → Int → Prop} {g : Int → Int → Int}
    (rule : ∀ (i j : Int) (t u : Tok) (s : Shared) (Q : Value → Shared → Prop) (E : Value → Shared → Prop), C i j → Q (.int (g i j) s.toks) { s with toks := s.toks + 1 } → wpAny (model X.prog X.w) X.A (f (.int i t) (.int j u)) Q E s) :
    OpR X f (rI C fun i j => .int (g i j)) := by
  intro pins s σ H x y v u Q I rx ry h
  obtain ⟨i, j, rfl, rfl, hc, q⟩ := h
  obtain ⟨t, rfl⟩ := rx
  obtain ⟨t', rfl⟩ := ry
  exact rule i j t t' s _ _ hc ⟨.int (g i j), H, I.tok _, ⟨_, rfl⟩, q⟩
theorem opI0 {f : Value → Value → Sem Value} {g : Int → Int → Int}
    (rule : ∀ (i j : Int) (t u : Tok) (s : Shared) (Q : Value → Shared → Prop) (E : Value → Shared → Prop), Q (.int (g i j) s.toks) { s with toks := s.toks + 1 } → wpAny (model X.prog X.w) X.A (f (.int i t) (.int j u)) Q E s) :
    OpR X f (rI0 fun i j => .int (g i j)) := by
  intro pins s σ H x y v u Q I rx ry h
  obtain ⟨i, j, rfl, rfl, q⟩ := h
  obtain ⟨t, rfl⟩ := rx
  obtain ⟨t', rfl⟩ := ry
  exact rule i j t t' s _ _ ⟨.int (g i j), H, I.tok _, ⟨_, rfl⟩, q⟩
theorem opB0 {f : Value → Value → Sem Value} {g : Int → Int → Bool}
    (rule : ∀ (i j : Int) (t u : Tok) (s : Shared) (Q : Value → Shared → Prop) (E : Value → Shared → Prop), Q (.bool (g i j)) s → wpAny (model X.prog X.w) X.A (f (.int i t) (.int j u)) Q E s) :
    OpR X f (rI0 fun i j => .bl (g i j)) := by
  intro pins s σ H x y v u Q I rx ry h
  obtain ⟨i, j, rfl, rfl, q⟩ := h
  obtain ⟨t, rfl⟩ := rx
  obtain ⟨t', rfl⟩ := ry
  exact rule i j t t' s _ _ ⟨.bl (g i j), H, I, rfl, q⟩

def CDiv (i j : Int) : Prop := 0 < j ∧ j < 1073741824
def CPow (i j : Int) : Prop := 0 ≤ j ∧ j ≤ 1000000 ∧ i.natAbs < 2 ^ 64
def CMul (i j : Int) : Prop := (-(2 ^ 64) < i ∧ i < 2 ^ 64) ∨ (-(2 ^ 64) < j ∧ j < 2 ^ 64)
theorem CMul.ok {i j : Int} (h : CMul i j) : IntMulOk i j := by
  rcases h with ⟨h1, h2⟩ | ⟨h1, h2⟩
  · exact .of_left (intBits_le_64 h1 h2)
  · exact .of_right (intBits_le_64 h1 h2)

theorem op_add : OpR X (binaryOp .Add) (rI0 fun i j => .int (i + j)) := opI0 fun _ _ _ _ _ _ _ q => add_int q
theorem op_sub : OpR X (binaryOp .Sub) (rI0 fun i j => .int (i - j)) := opI0 fun _ _ _ _ _ _ _ q => sub_int q
theorem op_mul : OpR X (binaryOp .Mult) (rI CMul fun i j => .int (i * j)) := opI fun _ _ _ _ _ _ _ hc q => mul_int q hc.ok
theorem op_mod : OpR X (binaryOp .Mod) (rI (fun _ j => 0 < j) fun i j => .int (i % j)) := opI fun i j _ _ _ _ _ hc q => by
  have h1 : (0 : Int) < j := hc
  exact mod_int' (by omega) (by rw [Int.fmod_eq_emod_of_nonneg i (by omega)]; exact q)
theorem op_pow : OpR X (binaryOp .Pow) (rI CPow fun i j => .int (i ^ j.toNat)) := opI fun _ _ _ _ _ _ _ hc q => pow_int_small hc.1 hc.2.1 hc.2.2 q



/-! ### bools among ints: n += (a < b) -/
end

/-! ### comparisons -/


section
variable {X : Cx} {a b c : Expr} {ta tb tc : TE} {pos : Pos}
theorem fin_bl {pins : List (Addr × Obj)} {σ : St} {H : Hp} {s : Shared} {Q : VK} {k k' : Bool} (I : Inv X pins σ H s) (q : Q (.bl k) H) (e : k = k') : EP X pins σ Q (.bool k') s := by
  subst e
  exact ⟨.bl k, H, I, rfl, q⟩

theorem op_lt : OpR X (compareOp .Lt) (rI0 fun i j => .bl (decide (i < j))) := opB0 fun _ _ _ _ _ _ _ q => lt_int q
theorem op_le : OpR X (compareOp .LtE) (rI0 fun i j => .bl (decide (i ≤ j))) := opB0 fun _ _ _ _ _ _ _ q => le_int q
theorem op_in_str : OpR X (compareOp .In) (fun x y H Q => ∃ i j, x = .str i ∧ y = .str j ∧ Q (.bl (!(Builtin.Str.occurrences j i 0 j.length 1).isEmpty)) H) := by
  intro pins s σ H x y v u Q I rx ry h
  obtain ⟨i, j, rfl, rfl, q⟩ := h
  obtain ⟨t, rfl⟩ := rx
  obtain ⟨t', rfl⟩ := ry
  exact in_str (fin_bl I q rfl)

theorem op_isN : OpR X (compareOp .Is) (fun x y H Q => y = .non ∧ Q (.bl (decide (x = .non))) H) := by
  intro pins s σ H x y v u Q I rx ry h
  obtain ⟨rfl, q⟩ := h
  cases ry
  refine is_none_gen (fin_bl I q ?_)
  cases x <;> first
    | (cases rx; rfl)
    | (obtain ⟨t, rfl⟩ := rx; rfl)
theorem op_notN : OpR X (compareOp .IsNot) (fun x y H Q => y = .non ∧ Q (.bl (!decide (x = .non))) H) := by
  intro pins s σ H x y v u Q I rx ry h
  obtain ⟨rfl, q⟩ := h
  cases ry
  refine isnot_none_gen (fin_bl I q ?_)
  cases x <;> first
    | (cases rx; rfl)
    | (obtain ⟨t, rfl⟩ := rx; rfl)

theorem op_notin_str : OpR X (compareOp .NotIn) (fun x y H Q => ∃ i j, x = .str i ∧ y = .str j ∧ Q (.bl (!(!(Builtin.Str.occurrences j i 0 j.length 1).isEmpty))) H) := by
  intro pins s σ H x y v u Q I rx ry h
  obtain ⟨i, j, rfl, rfl, q⟩ := h
  obtain ⟨t, rfl⟩ := rx
  obtain ⟨t', rfl⟩ := ry
  exact notIn_str (fin_bl I q rfl)


theorem pe_cmpR {op : CmpOp} {r : R2} (ho : OpR X (compareOp op) r) (ha : PE X a ta) (hb : PE X b tb) (hm : behindInMarks op b = false) : PE X (.Compare a [op] [b] pos) (tOp r ta tb) := by
  intro pins s σ H Q I h
  exact wpAny_Compare1 (binT ha hb I h fun v u s2 x y H2 I2 rx ry q => ho pins s2 σ H2 x y v u Q I2 rx ry q) hm
def tTest (t : TE) : TT := fun σ H Q => t σ H fun x H' => ∃ k, x = .bl k ∧ Q k H'
theorem pt_cmpR {op : CmpOp} {r : R2} (ho : OpR X (compareOp op) r) (ha : PE X a ta) (hb : PE X b tb) (hm : behindInMarks op b = false) : PT X (.Compare a [op] [b] pos) (tTest (tOp r ta tb)) := by
  intro pins s σ H Q I h
  refine wpAny_isTrue_Compare1 (thn (ha pins s σ H _ I h) fun v s1 ⟨x, H1, I1, r1, q1⟩ => thn (hb pins s1 σ H1 _ I1 q1) fun u s2 ⟨y, H2, I2, r2, q2⟩ =>
    thn (ho pins s2 σ H2 x y v u _ I2 r1 r2 q2) fun c s3 ⟨z, H3, I3, r3, k, e, q3⟩ => ?_) hm
  subst e
  cases r3
  exact wpAny_truthy_bool ⟨H3, I3, q3⟩
def tChain (r r' : R2) (ta tb tc : TE) : TE := fun σ H Q => ta σ H fun x H1 => tb σ H1 fun y H2 => r x y H2 fun z H3 => ∃ k, z = .bl k ∧
  (if k = true then tc σ H3 fun w' H4 => r' y w' H4 Q else Q (.bl false) H3)
theorem pe_chain {op op' : CmpOp} {r r' : R2} (ho : OpR X (compareOp op) r) (ho' : OpR X (compareOp op') r') (ha : PE X a ta) (hb : PE X b tb) (hc : PE X c tc)
    (hm : lastMarks [op, op'] [b, c] = false := by with_unfolding_all rfl) : PE X (.Compare a [op, op'] [b, c] pos) (tChain r r' ta tb tc) := by
  intro pins s σ H Q I h
  refine Compare_chain (thn (ha pins s σ H _ I h) fun v s1 ⟨x, H1, I1, r1, q1⟩ => chain_link (thn (hb pins s1 σ H1 _ I1 q1) fun u s2 ⟨y, H2, I2, r2, q2⟩ =>
    thn (ho pins s2 σ H2 x y v u _ I2 r1 r2 q2) fun d s3 ⟨z, H3, I3, r3, k, e, q3⟩ => ?_)) hm
  subst e
  cases r3
  refine wpAny_truthy_bool ?_
  cases k with
  | false => exact ite_ff ⟨.bl false, H3, I3, rfl, q3⟩
  | true => exact ite_tt (chain_last (thn (hc pins s3 σ H3 _ I3 q3) fun w' s4 ⟨z', H4, I4, r4, q4⟩ => ho' pins s4 σ H4 y z' u w' Q I4 r2 r4 q4))

/-! ### truth -/
theorem line63 : (sizeLine : Nat) < 2 ^ 63 := by rw [sizeLine_eq]; decide

/-! ### strs and bytes -/
theorem op_add_str : OpR X (binaryOp .Add) (fun x y H Q => ∃ i j, x = .str i ∧ y = .str j ∧ i.length + j.length ≤ sizeLine ∧ Q (.str (i ++ j)) H) := by
  intro pins s σ H x y v u Q I rx ry h
  obtain ⟨i, j, rfl, rfl, hz, q⟩ := h
  obtain ⟨t, rfl⟩ := rx
  obtain ⟨t', rfl⟩ := ry
  exact add_str (fun t' tk => ⟨.str (i ++ j), H, I.tok _, ⟨_, rfl⟩, q⟩) hz


/-! ### scalar builtins, by CallR -/
theorem vals1 {x : V} {us : List Value} (r : Vals [x] us) : ∃ u, us = [u] ∧ RelV x u := by
  cases r with
  | cons r1 r2 => cases r2; exact ⟨_, rfl, r1⟩
theorem vals2 {x y : V} {us : List Value} (r : Vals [x, y] us) : ∃ u w', us = [u, w'] ∧ RelV x u ∧ RelV y w' := by
  cases r with
  | cons r1 r2 =>
    cases r2 with
    | cons r3 r4 => cases r4; exact ⟨_, _, rfl, r1, r3⟩
theorem call_divmod : CallR X (.builtin "divmod") (fun xs H Q => ∃ i j, xs = [.int i, .int j] ∧ CDiv i j ∧ ∀ p, H p = none → Q (.ref p) (upd H p (.tup [.int (i / j), .int (i % j)]))) := by
  intro pins s σ H xs us Q I r h
  obtain ⟨i, j, rfl, ⟨h1, h2⟩, q⟩ := h
  obtain ⟨u, w', rfl, ⟨t, rfl⟩, ⟨t', rfl⟩⟩ := vals2 r
  refine divmod_int (by omega) ?_ (.inl (PyProof.noPylong_small (by omega)))
  rw [Int.fdiv_eq_ediv_of_nonneg i (by omega), Int.fmod_eq_emod_of_nonneg i (by omega)]
  have hn : H s.heap.objs.size = none := I.hok.fresh (Nat.le_refl _)
  refine ⟨.ref s.heap.objs.size, _, ?_, rfl, q _ hn⟩
  refine I.laid (fun b o e => Heap.get?_push_of_some _ e) (Nat.le_refl _) ⟨by simp only [List.length_cons, List.length_nil]; rw [sizeLine_eq]; decide, [.int (i / j) s.toks, .int (i % j) (s.toks + 1)], .cons ⟨_, rfl⟩ (.cons ⟨_, rfl⟩ .nil), ?_⟩
  exact ⟨_, Heap.get?_push_size s.heap rfl, rfl, 0, rfl⟩
end
end L2

namespace L2
open PySem PySem.Spec PyProof.Rows

/-! ### an instance, its attributes a map -/
structure ObjM (h : Heap) (x dx C : Addr) (mA : Str → Option Value) : Prop where
  obj : h.get? x = some (PySem.W.instObj C dx)
  ns : h.Ns1 dx mA
  ne : dx ≠ x



section
variable {prog : Program} {w : World} {A : Around} {E : Value → Shared → Prop} {s : Shared} {K : PySem.W.Frag} {x dx C f : Addr} {mA : Str → Option Value} {name : Str} {v : Value}





end

/-! ### the attributes as a list of pairs -/


section
variable {P : Program} {w : World} {H H' : Hp} {h h' : Heap} {a C dx : Addr} {fs fs' : List (Str × V)}
end

/-! ### what of the text a class must have -/
structure Cls (K : PySem.W.Frag) (C : Addr) : Prop where
  pg : PySem.W.plainGet K C Str.empty = true
  hd : PySem.W.hasDictIn K C = true
  po : PySem.W.plainOver K C = true
  sa : PySem.W.findIn K (.ref C) "__setattr__" = some (some (.builtin "object.__setattr__"))
structure Con (K : PySem.W.Frag) (C : Addr) (f : Str) (v : V) (u : Value) : Prop where
  at_ : PySem.W.findIn K (.ref C) f = some (some u)
  rel : RelV v u
  get : PySem.W.specialIn K u "__get__" = some none
  cp : PySem.W.copiedNames.contains f = false
structure Meth (K : PySem.W.Frag) (C : Addr) (m : Str) (f : Addr) : Prop where
  at_ : PySem.W.findIn K (.ref C) m = some (some (.ref f))
  fn : PySem.W.isFn K (.ref f) = true
  kp : PySem.W.keepIn K (.ref f) = true

section
variable {X : Cx} {pins : List (Addr × Obj)} {σ : St} {H : Hp} {s : Shared} {a C dx : Addr} {fs : List (Str × V)} {f : Str} {v : V} {A : Around} {E : Value → Shared → Prop}






end

/-! ### readings and rules -/

section
variable {X : Cx} {o e value : Expr} {f : Str} {pos pos' tpos : Pos} {ta tv : TE}

end

/-! ### isinstance -/
section
variable {X : Cx} {pins : List (Addr × Obj)} {σ : St} {H : Hp} {s : Shared} {A : Around} {E : Value → Shared → Prop} {Q : Value → Shared → Prop} {c : Value} {b : Bool}
inductive TyOf (K : PySem.W.Frag) (H : Hp) : V → Value → Prop where
  | non : TyOf K H .non (.type "NoneType")
  | bl (x : Bool) : TyOf K H (.bl x) (.type "bool")
  | int (i : Int) : TyOf K H (.int i) (.type "int")
  | str (x : Str) : TyOf K H (.str x) (.type "str")
  | flt (x : UInt64) : TyOf K H (.flt x) (.type "float")
  | lst {a : Addr} {xs : List V} (e : H a = some (.lst xs)) : TyOf K H (.ref a) (.type "list")
  | frz {a : Addr} {o : Obj} {xs : List V} (e : H a = some (.frz o (.lst xs))) : TyOf K H (.ref a) (.type "list")
  | tup {a : Addr} {xs : List V} (e : H a = some (.tup xs)) : TyOf K H (.ref a) (.type "tuple")
  | dK {a : Addr} {kvs : List (Key × V)} (e : H a = some (.dK kvs)) : TyOf K H (.ref a) (.type "dict")
  | dT {a : Addr} {kvs : List (List Key × V)} (e : H a = some (.dT kvs)) : TyOf K H (.ref a) (.type "dict")
  | ins {a C dx : Addr} {fs : List (Str × V)} (e : H a = some (.ins C dx fs)) (cl : Cls K C) (ha : PySem.W.findIn K (.ref C) "__class__" = some (some (.builtin "object.__class__")))
      (hn : PySem.W.specialIn K (.builtin "object.__class__") "__get__" = some (some (.builtin "getset_descriptor.__get__"))) (htk : PySem.W.takesIn K (.builtin "object.__class__") = some true)
      (hm : PySem.W.mroIn K C (.type "object") = some true) : TyOf K H (.ref a) (.ref C)
end
end L2

namespace L2
open PySem PySem.Spec PyProof.Rows

/-! ### room -/
structure Room (k : Nat) (A : Around) : Prop where
  hd : A.handled = none
  dp : A.depth + 3 * k + 5 < recursionLimit
  un : A.units + 16 * k + 200 < cLine
theorem Room.mono {j k : Nat} {A : Around} (r : Room k A) (h : j ≤ k) : Room j A := ⟨r.hd, by have := r.dp; omega, by have := r.un; omega⟩
theorem Room.deeper {k : Nat} {A : Around} (r : Room (k + 1) A) (env : Env) : Room k (A.deeper env) :=
  ⟨r.hd, by have := r.dp; show A.depth + 1 + 3 * k + 5 < _; omega, by have := r.un; show A.units + 3 + 16 * k + 200 < _; omega⟩
theorem make_depth {A : Around} {C : Addr} {us : List Value} {kw : List (Str × Value)} : (A.under (.builtin "type.__call__" ⟨.ref C :: us, kw⟩)).depth = A.depth + 1 := by
  first | rfl | simp [Around.under, Code.weight, Code.isCreation, Code.isGuard, Code.isCaller, Code.frames, Code.isFrame, guardIds]
theorem make_units {A : Around} {C : Addr} {us : List Value} {kw : List (Str × Value)} : (A.under (.builtin "type.__call__" ⟨.ref C :: us, kw⟩)).units = A.units + 1 := by
  first | rfl | simp [Around.under, Code.cUnits, Code.frames, Code.isFrame]
theorem Room.make {k : Nat} {A : Around} (r : Room (k + 1) A) (C : Addr) (us : List Value) (kw : List (Str × Value)) : Room k (A.under (.builtin "type.__call__" ⟨.ref C :: us, kw⟩)) :=
  ⟨r.hd, by have := r.dp; rw [make_depth]; omega, by have := r.un; rw [make_units]; omega⟩
theorem Room.depth {k : Nat} {A : Around} (r : Room k A) : A.depth < recursionLimit := by have := r.dp; omega
theorem Room.units {k : Nat} {A : Around} (r : Room k A) : A.units + 64 < cLine := by have := r.un; omega

/-! ### argument lists and displays -/
def tNil : TA := fun _ H Q => Q [] H
def tCons (ta : TE) (tr : TA) : TA := fun σ H Q => ta σ H fun x H1 => tr σ H1 fun xs H2 => Q (x :: xs) H2
section
variable {X : Cx} {e : Expr} {es : List Expr} {te : TE} {t : TA} {pos : Pos}
theorem pa_nil : PA X [] tNil := fun _ _ _ _ H Q I h => Calls.spliced_nil ⟨[], H, I, .nil, h⟩
theorem pa_cons (ha : PE X e te) (hr : PA X es t) (hs : starEach (e :: es) X.env = (false, eval e X.env) :: starEach es X.env := by rfl) : PA X (e :: es) (tCons te t) := by
  intro pos pins s σ H Q I h
  rw [hs]
  show wpAny _ _ (spliced ((false, eval e X.env) :: backTo pos (starEach es X.env))) _ _ s
  refine Calls.spliced_cons (thn (ha pins s σ H _ I h) fun u s1 ⟨x, H1, I1, r1, q1⟩ => ?_)
  exact thn (hr pos pins s1 σ H1 _ I1 q1) fun us s2 ⟨xs, H2, I2, r2, q2⟩ => ⟨x :: xs, H2, I2, .cons r1 r2, q2⟩

def tTup (t : TA) : TE := fun σ H Q => t σ H fun xs H1 => xs.length ≤ sizeLine ∧ ∀ p, H1 p = none → Q (.ref p) (upd H1 p (.tup xs))
def tLst (t : TA) : TE := fun σ H Q => t σ H fun xs H1 => xs.length ≤ sizeLine ∧ ∀ p, H1 p = none → Q (.ref p) (upd H1 p (.lst xs))
theorem pe_tup {x1} (h : PA X es t) : PE X (.Tuple es x1 pos) (tTup t) := by
  intro pins s σ H Q I hq
  refine wpAny_Tuple_spliced (thn (h pos pins s σ H _ I hq) fun us s1 ⟨xs, H1, I1, r, z, q⟩ => ⟨by rw [← r.length]; exact z, ?_⟩)
  have hf : H1 s1.heap.objs.size = none := I1.hok.fresh (Nat.le_refl _)
  refine ⟨.ref s1.heap.objs.size, upd H1 s1.heap.objs.size (.tup xs), I1.laid (t' := s1.toks) (fun b u e => Heap.get?_push_of_some _ e) (Nat.le_refl _) ?_, rfl, q _ hf⟩
  exact ⟨z, us, r, ⟨_, Heap.get?_push_size _ rfl, rfl, _, rfl⟩⟩
theorem pe_lst (h : PA X es t) : PE X (.List es pos) (tLst t) := by
  intro pins s σ H Q I hq
  refine wpAny_List_spliced (thn (h pos pins s σ H _ I hq) fun us s1 ⟨xs, H1, I1, r, z, q⟩ => ⟨by rw [← r.length]; exact z, ?_⟩)
  have hf : H1 s1.heap.objs.size = none := I1.hok.fresh (Nat.le_refl _)
  refine ⟨.ref s1.heap.objs.size, upd H1 s1.heap.objs.size (.lst xs), I1.laid (t' := s1.toks) (fun b u e => Heap.get?_push_of_some _ e) (Nat.le_refl _) ?_, rfl, q _ hf⟩
  exact ⟨z, us, 0, r, Heap.get?_push_size _ rfl⟩
end

/-! ### what a def promises -/
abbrev Sp := List V → Hp → VK → XK → Prop
abbrev CXT := List Env → Hp → Shared → XK → Value → Shared → Prop

structure Env0 (P : Program) (w : World) (K : PySem.W.Frag) (mg : Str → Option Value) (base : Heap) (A : Around) (outer : List Env) (s : Shared) (H : Hp) : Prop where
  frames : A.frames = some outer
  mod : Mod K mg base
  bs : ∀ b o, base.get? b = some o → s.heap.get? b = some o ∧ H b = none
  bsz : base.objs.size ≤ s.heap.objs.size
  funs : s.heap.FunFrames base outer
  frf : ∀ b ∈ frs outer, H b = none
  hok : HOk P w H s.heap
  bare : AllBare s.gens
def CE (outer : List Env) (P : Program) (w : World) (H : Hp) (s : Shared) (Q : VK) (u : Value) (s' : Shared) : Prop :=
  ∃ v H', s'.os = s.os ∧ AllBare s'.gens ∧ Un (frs outer) [] H H' s.heap s'.heap ∧ HOk P w H' s'.heap ∧ RelV v u ∧ Q v H'
def CR (CX : CXT) (outer : List Env) (P : Program) (w : World) (H : Hp) (s : Shared) (Q : VK) (E : XK) (r : Result) (s' : Shared) : Prop :=
  match r with
  | .ok (.ret u) => CE outer P w H s Q u s'
  | .ok _ => False
  | .error e => CX outer H s E e s'
structure FnOk (P : Program) (w : World) (K : PySem.W.Frag) (mg : Str → Option Value) (base : Heap) (CX : CXT) (k : Nat) (f : Addr) (fd : FuncData) (ps : List Str) (sp : Sp) : Prop where
  len : ∀ vs H Q E, sp vs H Q E → vs.length = ps.length
  run : ∀ (A : Around) (outer : List Env) (s : Shared) (H : Hp) (args : Args) (us : List Value) (vs : List V) (Q : VK) (E : XK), Room k A → Env0 P w K mg base A outer s H → BindsTo s fd args (ps.zip us) → Vals vs us → sp vs H Q E →
    codeAny (model P w) A (.call (.ref f) args) (CR CX outer P w H s Q E) s
theorem FnOk.mono {P : Program} {w : World} {K : PySem.W.Frag} {mg : Str → Option Value} {base : Heap} {CX : CXT} {j k : Nat} {f : Addr} {fd : FuncData} {ps : List Str} {sp : Sp} (F : FnOk P w K mg base CX j f fd ps sp) (h : j ≤ k) :
    FnOk P w K mg base CX k f fd ps sp := ⟨F.len, fun A outer s H args us vs Q E hr => F.run A outer s H args us vs Q E (hr.mono h)⟩

theorem Env0.make {P : Program} {w : World} {K : PySem.W.Frag} {mg : Str → Option Value} {base : Heap} {A : Around} {outer : List Env} {s : Shared} {H : Hp} (e : Env0 P w K mg base A outer s H) (C : Addr) (us : List Value) (kw : List (Str × Value)) :
    Env0 P w K mg base (A.under (.builtin "type.__call__" ⟨.ref C :: us, kw⟩)) outer s H := ⟨by first | exact e.frames | (simpa [Around.under, Code.envs, Code.isFrame, pushEnvs] using e.frames), e.mod, e.bs, e.bsz, e.funs, e.frf, e.hok, e.bare⟩

section
variable {X : Cx} {pins : List (Addr × Obj)} {σ : St} {H : Hp} {s s' : Shared}
theorem Inv.env0 (I : Inv X pins σ H s) : Env0 X.prog X.w X.K X.mg X.base X.A X.stack s H :=
  ⟨I.ok.frames, I.ok.mod, I.bs, Nat.le_trans I.ok.bsz I.sz, I.stack, I.stkFree, I.hok, I.bare⟩
theorem Inv.after {Q : VK} {u : Value} (I : Inv X pins σ H s) (h : CE X.stack X.prog X.w H s Q u s') : EP X pins σ Q u s' := by
  obtain ⟨v, H', os, bare, un, hok, r, q⟩ := h
  obtain ⟨hh, g, d, t, os'⟩ := s'
  obtain rfl : os' = s.os := os
  exact ⟨v, H', I.call (h' := hh) (g' := g) (d' := d) (t' := t) (ch := []) un hok bare (fun b z => absurd z (by simp)), r, q⟩
end

/-! ### calls -/
def tCall (sp : Sp) (dvs : List V) (E : XK) (t : TA) : TE := fun σ H Q => t σ H fun vs H1 => sp (vs ++ dvs) H1 Q E

def Binds (K : PySem.W.Frag) (fd : FuncData) (ps : List Str) (ds : List Value) : Prop :=
  ∀ (s : Shared) (us : List Value), K.In s.heap → (us ++ ds).length = ps.length → BindsTo s fd ⟨us, []⟩ (ps.zip (us ++ ds))
theorem Binds.all {K : PySem.W.Frag} {fd : FuncData} {ps : List Str} (h : ∀ us : List Value, us.length = ps.length → bindArgs fd ⟨us, []⟩ = pure (ps.zip us)) : Binds K fd ps [] := fun s us _ hl => by
  rw [List.append_nil] at hl ⊢
  exact .of_eq (h us hl)

def Passes (CX : CXT) (X : Cx) (E : XK) : Prop := ∀ (pins : List (Addr × Obj)) (σ : St) (H : Hp) (s : Shared) (e : Value) (s' : Shared), Inv X pins σ H s → CX X.stack H s E e s' → X.xe e s'

section
variable {X : Cx} {CX : CXT} {k : Nat} {f C : Addr} {fd : FuncData} {ps : List Str} {sp : Sp} {dvs : List V} {ds : List Value} {E : XK} {x m : Str} {p pos apos : Pos} {e o : Expr} {es : List Expr} {ta : TE} {t : TA}

theorem run_fn {pins : List (Addr × Obj)} {σ : St} {H : Hp} {s : Shared} {Q : VK} {us : List Value} {vs : List V} (F : FnOk X.prog X.w X.K X.mg X.base CX k f fd ps sp) (hr : Room k X.A) (hb : Binds X.K fd ps ds) (hd : Vals dvs ds) (hx : Passes CX X E)
    (I : Inv X pins σ H s) (r : Vals vs us) (h : sp (vs ++ dvs) H Q E) : wpAny (model X.prog X.w) X.A (call (.ref f) us) (EP X pins σ Q) X.xe s := by
  have r2 : Vals (vs ++ dvs) (us ++ ds) := r.append hd
  have hl : (us ++ ds).length = ps.length := by rw [← r2.length]; exact F.len _ _ _ _ h
  refine wpAny_call (codeAny_mono (F.run X.A X.stack s H ⟨us, []⟩ (us ++ ds) (vs ++ dvs) Q E hr I.env0 (hb s us I.kIn hl) r2 h) fun r s' hq => ?_)
  cases r with
  | error e => exact hx pins σ H s e s' I hq
  | ok fl =>
    cases fl with
    | ret u => exact I.after hq
    | next => exact False.elim hq
    | brk => exact False.elim hq
    | cont => exact False.elim hq

theorem pe_call (F : FnOk X.prog X.w X.K X.mg X.base CX k f fd ps sp) (hr : Room k X.A) (hg : Gl X x) (hm : X.mg x = some (.ref f)) (hk : PySem.W.keepIn X.K (.ref f) = true) (hb : Binds X.K fd ps ds) (hd : Vals dvs ds) (hx : Passes CX X E)
    (ha : PA X (e :: es) t) (hdb : (x == ("__debug__" : Str)) = false := by decide) (he : starEach (e :: es) X.env = (false, eval e X.env) :: starEach es X.env := by rfl) (hpl : (backTo pos (starEach es X.env)).any (·.1) = false := by rfl) :
    PE X (.Call (.Name x p) (e :: es) [] pos) (tCall sp dvs E t) := by
  intro pins s σ H Q I h
  refine wpAny_Call_Name_kw (ld_glob I hg hm ?_ hdb)
  refine PySem.W.callWith_K (h₀ := X.base) I.ok.mod.kin hk (thn (ha pos pins s σ H _ I h) fun us s1 ⟨vs, H1, I1, r, q⟩ => ⟨I1.kIn, ?_⟩) he hpl
  exact run_fn F hr hb hd hx I1 r q
theorem pe_call0 (F : FnOk X.prog X.w X.K X.mg X.base CX k f fd ps sp) (hr : Room k X.A) (hg : Gl X x) (hm : X.mg x = some (.ref f)) (hk : PySem.W.keepIn X.K (.ref f) = true) (hb : Binds X.K fd ps ds) (hd : Vals dvs ds) (hx : Passes CX X E)
    (hdb : (x == ("__debug__" : Str)) = false := by decide) : PE X (.Call (.Name x p) [] [] pos) (tCall sp dvs E tNil) := by
  intro pins s σ H Q I h
  refine wpAny_Call_Name_kw (ld_glob I hg hm ?_ hdb)
  exact PySem.W.callWith_K0 I.kIn hk (run_fn (us := []) F hr hb hd hx I .nil h)


structure Mk (K : PySem.W.Frag) (C f : Addr) : Prop where
  makes : PySem.W.makesIn K C = true
  init : PySem.W.findIn K (.ref C) "__init__" = some (some (.ref f))
  fn : PySem.W.isFn K (.ref f) = true
  kp : PySem.W.keepIn K (.ref C) = true

end

/-! ### keywords -/
section
variable {X : Cx} {CX : CXT} {k : Nat} {f C : Addr} {fd : FuncData} {ps ks : List Str} {sp : Sp} {E : XK} {x m : Str} {p pos apos kpos : Pos} {e o : Expr} {es : List Expr} {kws : List Keyword} {te ta : TE} {t tk : TA} {nm : Option Str}

structure KBinds (K : PySem.W.Frag) (fd : FuncData) (ps ks : List Str) (g : List Value → List Value → List Value) (gV : List V → List V → List V) : Prop where
  to : ∀ (s : Shared) (us ws : List Value), K.In s.heap → (g us ws).length = ps.length → BindsTo s fd ⟨us, ks.zip ws⟩ (ps.zip (g us ws))
  rel : ∀ {vs : List V} {us : List Value} {zs : List V} {ws : List Value}, Vals vs us → Vals zs ws → Vals (gV vs zs) (g us ws)
variable {g : List Value → List Value → List Value} {gV : List V → List V → List V}
end

/-! ### a def's body keeps its promise -/
structure FnScope (N P : List Str) (sc : Scope) : Prop where
  kind : sc.kind = .function
  co : sc.isCoroutine = false
  gen : sc.isGenerator = false
  nd : N.Nodup
  pre : N.take P.length = P
  par : ∀ x ∈ P, sc.names.lookup x = some .local ∨ sc.names.lookup x = some .cell
  nofree : ∀ y ∈ sc.names, y.2 ≠ .free

theorem bindL_out {kindOf : Str → Option NameKind} {x : Str} : ∀ {binds : List (Str × Value)} {m : Str → Option Value}, (∀ v, (x, v) ∉ binds) → bindL kindOf binds m x = m x
  | [], _, _ => rfl
  | (n, v) :: r, m, h => by
    unfold bindL
    rw [bindL_out fun w hw => h w (List.mem_cons_of_mem _ hw)]
    split
    · have : x ≠ n := by rintro rfl; exact h v List.mem_cons_self
      simp [this]
    · rfl
theorem bindC_out {kindOf : Str → Option NameKind} {x : Str} : ∀ {binds : List (Str × Value)} {m : Str → Option Value}, (∀ v, (x, v) ∉ binds) → bindC kindOf binds m x = m x
  | [], _, _ => rfl
  | (n, v) :: r, m, h => by
    unfold bindC
    rw [bindC_out fun w hw => h w (List.mem_cons_of_mem _ hw)]
    split
    · rfl
    · have : x ≠ n := by rintro rfl; exact h v List.mem_cons_self
      simp [this]
theorem bindL_get {kindOf : Str → Option NameKind} {x : Str} {v : Value} : ∀ {P : List Str} {vs : List Value} {i : Nat} {m : Str → Option Value}, P.Nodup → P[i]? = some x → vs[i]? = some v → kindOf x = some .local →
    bindL kindOf (P.zip vs) m x = some v
  | [], _, _, _, _, h, _, _ => by simp at h
  | _ :: _, [], _, _, _, _, h, _ => by simp at h
  | p :: P, w :: vs, 0, m, nd, h1, h2, hk => by
    simp at h1 h2; subst h1; subst h2
    show bindL kindOf ((p, w) :: P.zip vs) m p = _
    unfold bindL
    rw [bindL_out fun v hv => (List.nodup_cons.mp nd).1 (List.of_mem_zip hv).1, if_pos hk]
    simp
  | p :: P, w :: vs, i + 1, m, nd, h1, h2, hk => by
    show bindL kindOf ((p, w) :: P.zip vs) m x = _
    unfold bindL
    exact bindL_get (i := i) (List.nodup_cons.mp nd).2 (by simpa using h1) (by simpa using h2) hk
theorem bindC_get {kindOf : Str → Option NameKind} {x : Str} {v : Value} : ∀ {P : List Str} {vs : List Value} {i : Nat} {m : Str → Option Value}, P.Nodup → P[i]? = some x → vs[i]? = some v → kindOf x ≠ some .local →
    bindC kindOf (P.zip vs) m x = some v
  | [], _, _, _, _, h, _, _ => by simp at h
  | _ :: _, [], _, _, _, _, h, _ => by simp at h
  | p :: P, w :: vs, 0, m, nd, h1, h2, hk => by
    simp at h1 h2; subst h1; subst h2
    show bindC kindOf ((p, w) :: P.zip vs) m p = _
    unfold bindC
    rw [bindC_out fun v hv => (List.nodup_cons.mp nd).1 (List.of_mem_zip hv).1, if_neg hk]
    simp
  | p :: P, w :: vs, i + 1, m, nd, h1, h2, hk => by
    show bindC kindOf ((p, w) :: P.zip vs) m x = _
    unfold bindC
    exact bindC_get (i := i) (List.nodup_cons.mp nd).2 (by simpa using h1) (by simpa using h2) hk

def start (N : List Str) (vs : List V) : St := vs.map some ++ List.replicate (N.length - vs.length) none

def cxOf (CX : CXT) (P : Program) (w : World) (K : PySem.W.Frag) (mg : Str → Option Value) (base : Heap) (N : List Str) (qual : Str) (scope : Scope) (f : Addr) (cd : Value) (A : Around) (outer : List Env) (s : Shared) (H : Hp) (E : XK) : Cx where
  prog := P
  w := w
  K := K
  mg := mg
  base := base
  A := A.deeper (envOfC qual scope s.heap.objs.size f cd)
  N := N
  s₀ := s
  H₀ := H
  env := envOfC qual scope s.heap.objs.size f cd
  outer := outer
  stack := envOfC qual scope s.heap.objs.size f cd :: outer
  ex := []
  calm := true
  fn := fun _ => true
  pn := []
  xe := fun e s' => wpAny (model P w) (A.deeper (envOfC qual scope s.heap.objs.size f cd)) (leaving (envOfC qual scope s.heap.objs.size f cd) e) (fun _ s'' => CX outer H s E e s'') (fun e' s'' => CX outer H s E e' s'') s'

theorem cell_has {sc : Scope} {n : Nat} {x : Str} (h : sc.names.lookup x = some .cell) : ∃ c, (cellsFrom n sc.names []).lookup x = some c := by
  have q := PySem.W.cellsFrom_some sc.names n [] (.inl h)
  exact Option.isSome_iff_exists.mp q

theorem inv_start {CX : CXT} {P : Program} {w : World} {K : PySem.W.Frag} {mg : Str → Option Value} {base : Heap} {N ps : List Str} {qual : Str} {scope : Scope} {f : Addr} {cd : Value} {A : Around} {outer : List Env} {s s1 : Shared} {H : Hp} {E : XK} {us : List Value} {vs : List V}
    (S : FnScope N ps scope) (hd : A.handled = none) (e0 : Env0 P w K mg base A outer s H) (hl : vs.length = ps.length) (r : Vals vs us)
    (x : InCallC s s.heap.objs.size (bindL (envOfC qual scope s.heap.objs.size f cd).kindOf (ps.zip us) fun _ => none) (cellsFrom (s.heap.objs.size + 1) scope.names []) (bindC (envOfC qual scope s.heap.objs.size f cd).kindOf (ps.zip us) fun _ => none) s1) :
    Inv (cxOf CX P w K mg base N qual scope f cd A outer s H E) [] (start N vs) H s1 := by
  have hpl : ps.length ≤ N.length := by have := congrArg List.length S.pre; rw [List.length_take] at this; omega
  obtain ⟨h1, tk, rfl, hk⟩ := x.done
  have noA : ∀ b : Addr, b ∉ (cxOf CX P w K mg base N qual scope f cd A outer s H E).ex := fun b z => absurd (show b ∈ ([] : List Addr) from z) (by simp)
  refine ⟨⟨e0.mod, S.kind, rfl, rfl, Nat.le_refl _, fun y z c h1 h2 => ?_, fun y hy => ?_, fun y c _ h => ?_, fun _ => hd, Around.frames_deeper e0.frames, .inr ⟨rfl, rfl⟩, fun b z => absurd z (noA b), e0.bs, e0.bsz, fun b _ _ => noA b, fun b z => absurd z (noA b), e0.funs, e0.frf⟩,
    rfl, e0.bare, Un.kept hk, ⟨_, x.toInCall.ns, fun i y v h1 h2 h3 => ?_⟩, fun y c h => ⟨_, x.cell y c h⟩, e0.hok.fresh (Nat.le_refl _), fun y c h => ?_, fun p hp => absurd (show p ∈ ([] : List (Addr × Obj)) from hp) (by simp), e0.hok.kept hk, ?_⟩
  · exact name_of_addr x.apart (PySem.mem_of_lookup h1) (PySem.mem_of_lookup h2)
  · have hy : scope.names.lookup y = some .cell ∨ scope.names.lookup y = some .free := hy
    rcases hy with hy | hy
    · exact cell_has hy
    · exact absurd rfl (S.nofree _ (PySem.mem_of_lookup hy))
  · exact Nat.le_of_lt (x.above y c (PySem.mem_of_lookup h))
  · have hi : i < vs.length := by
      unfold start at h2
      by_cases hi : i < vs.length
      · exact hi
      · rw [List.getElem?_append_right (by simpa using hi)] at h2
        rw [List.getElem?_replicate] at h2
        split at h2 <;> cases h2
    have ha : vs[i]? = some v := by
      unfold start at h2
      rw [List.getElem?_append_left (by simpa using hi), List.getElem?_map] at h2
      cases e : vs[i]? with
      | none => rw [e] at h2; cases h2
      | some a => rw [e] at h2; cases h2; rfl
    obtain ⟨u, hu, rv⟩ := r.get ha
    have hp : ps[i]? = some y := by
      rw [← S.pre, List.getElem?_take_of_lt (by omega)]; exact h1
    have ndP : ps.Nodup := by rw [← S.pre]; exact S.nd.sublist (List.take_sublist _ _)
    refine ⟨u, rv, ?_⟩
    rcases S.par y (List.mem_of_getElem? hp) with k | k
    · exact .inl ⟨k, bindL_get ndP hp hu k⟩
    · obtain ⟨c, e⟩ := cell_has (n := s.heap.objs.size + 1) k
      refine .inr ⟨.inl k, c, e, ?_⟩
      have q := x.cell y c e
      rw [bindC_get ndP hp hu (by show scope.names.lookup y ≠ _; rw [k]; decide)] at q
      exact q
  · exact e0.hok.fresh (Nat.le_of_lt (x.above y c (PySem.mem_of_lookup h)))
  · unfold start
    show _ = N.length
    rw [List.length_append, List.length_map, List.length_replicate]
    omega

theorem fn_of {CX : CXT} {P : Program} {w : World} {K : PySem.W.Frag} {mg : Str → Option Value} {base : Heap} {k : Nat} {f : Addr} {name qual : Str} {params : Arguments} {body : List Stmt} {scope : Scope} {dV kV doc pm cdv ct oc : Value} {an od : Option Addr}
    {osl : Array (Option Value)} {N ps : List Str} {sp : Sp} (lk : K.lookup f = some ⟨oc, od, .func (PySem.W.fnOf name qual params body scope dV kV doc pm an cdv ct), osl⟩) (hcd : PySem.W.codeIn K cdv qual = true) (S : FnScope N ps scope)
    (len : ∀ vs H Q E, sp vs H Q E → vs.length = ps.length)
    (hbody : ∀ (A : Around) (outer : List Env) (s : Shared) (H : Hp) (vs : List V) (Q : VK) (E : XK), Room k (A.deeper (envOfC qual scope s.heap.objs.size f cdv)) → sp vs H Q E →
      ∃ t, PSs (cxOf CX P w K mg base N qual scope f cdv A outer s H E) body t ∧ t { nx := fun _ H' => Q .non H', rt := Q } (start N vs) H) :
    FnOk P w K mg base CX (k + 1) f (PySem.W.fnOf name qual params body scope dV kV doc pm an cdv ct) ps sp := by
  refine ⟨len, fun A outer s H args us vs Q E hr e0 hb r hsp => ?_⟩
  have hl := len _ _ _ _ hsp
  have KX : K.In s.heap := e0.mod.kin.keeps fun b o e => (e0.bs b o e).1
  have lim : s.heap.NoLimit := e0.mod.nolimit.keeps fun b o e => (e0.bs b o e).1
  have hkind : ∀ y ∈ ps.zip us, scope.names.lookup y.1 = some .local ∨ (scope.names.lookup y.1 = some .cell ∧ ((cellsFrom (s.heap.objs.size + 1) scope.names []).lookup y.1).isSome = true) := fun ⟨n, v⟩ hy => by
    rcases S.par n (List.of_mem_zip hy).1 with q | q
    · exact .inl q
    · exact .inr ⟨q, PySem.W.cellsFrom_some _ _ _ (.inl q)⟩
  refine codeAny_call_function hr.depth (KX _ _ lk) rfl S.co S.gen rfl (PySem.W.codeRec_of KX hcd) (hb _ _ _ _ ?_)
  refine wpAny_newFunctionEnv_cells S.kind hkind fun env he s1 x => ?_
  subst he
  refine ⟨lim.keeps x.toInCall.keep, codeAny_func ?_⟩
  obtain ⟨t, ht, hq⟩ := hbody A outer s H vs Q E (hr.deeper _) hsp
  have I : Inv (cxOf CX P w K mg base N qual scope f cdv A outer s H E) [] (start N vs) H s1 := inv_start S hr.hd e0 hl r x
  refine wpAny_mono (ht [] s1 (start N vs) H _ I hq) (fun fl s' hs => ?_) fun e s' hs => hs
  have fin : ∀ {σ' : St} {H' : Hp} {v : V} {u : Value}, Inv (cxOf CX P w K mg base N qual scope f cdv A outer s H E) [] σ' H' s' → RelV v u → Q v H' → CE outer P w H s Q u s' :=
    fun {σ' H' v u} J rv q => ⟨v, H', J.os, J.bare, J.base, J.hok, rv, q⟩
  cases fl with
  | ret u =>
    obtain ⟨v, σ', H', J, rv, q⟩ := hs
    exact fin J rv q
  | next =>
    obtain ⟨σ', H', J, q⟩ := hs
    exact fin (v := V.non) (u := Value.none) J rfl q
  | brk =>
    obtain ⟨_, _, _, q⟩ := hs
    exact False.elim q
  | cont =>
    obtain ⟨_, _, _, q⟩ := hs
    exact False.elim q
end L2

namespace L2
open PySem PySem.Spec PyProof.Rows
section
variable {X : Cx} {x : Str} {p pos : Pos} {e : Expr} {es : List Expr} {t : TA} {id T : String} {r : List V → Hp → VK → Prop}

def tCB (r : List V → Hp → VK → Prop) (t : TA) : TE := fun σ H Q => t σ H fun vs H1 => r vs H1 Q
theorem pe_callB (hc : CallR X (.builtin id) r) (hg : Gl X x) (hm : X.mg x = none) (hv : bootBuiltins x = some (.builtin id)) (ha : PA X (e :: es) t) (hn : x ≠ "__name__" := by decide) (hdb : (x == ("__debug__" : Str)) = false := by decide)
    (he : starEach (e :: es) X.env = (false, eval e X.env) :: starEach es X.env := by rfl) (hpl : (backTo pos (starEach es X.env)).any (·.1) = false := by rfl) : PE X (.Call (.Name x p) (e :: es) [] pos) (tCB r t) := by
  intro pins s σ H Q I h
  refine wpAny_Call_Name_kw (ld_blt I hg hm hv ?_ hn hdb)
  exact PyProof.Rows.callWith_builtin1 (thn (ha pos pins s σ H _ I h) fun us s1 ⟨vs, H1, I1, r1, q1⟩ => hc pins s1 σ H1 vs us Q I1 r1 q1) he hpl
theorem pe_callTy (hc : CallR X (.type T) r) (hg : Gl X x) (hm : X.mg x = none) (hv : bootBuiltins x = some (.type T)) (ha : PA X (e :: es) t) (hn : x ≠ "__name__" := by decide) (hdb : (x == ("__debug__" : Str)) = false := by decide)
    (he : starEach (e :: es) X.env = (false, eval e X.env) :: starEach es X.env := by rfl) (hpl : (backTo pos (starEach es X.env)).any (·.1) = false := by rfl) : PE X (.Call (.Name x p) (e :: es) [] pos) (tCB r t) := by
  intro pins s σ H Q I h
  refine wpAny_Call_Name_kw (ld_blt I hg hm hv ?_ hn hdb)
  exact PyProof.Rows.callWith_type1 (thn (ha pos pins s σ H _ I h) fun us s1 ⟨vs, H1, I1, r1, q1⟩ => hc pins s1 σ H1 vs us Q I1 r1 q1) he hpl
end
end L2

namespace HT
open PySem PyProof.Rows



section
open PySem.SeqAt
open PySem.AutoSeq1 (wpAny_loadPart')
open PySem.MeetsSeq PySem.MeetsSeq2 PySem.MeetsSeq3

end

section
variable {prog : Program} {w : World} {A : Around} {E : Value → Shared → Prop} {s : Shared}


theorem cat_tup {t b : Addr} {vs ws : List Value} {Q : Value → Shared → Prop} (ht : IsTup s.heap t vs.toArray) (hb : IsTup s.heap b ws.toArray) (hv : vs ≠ [])
    (h1 : ws = [] → Q (.ref t) s) (h2 : ws ≠ [] → Q (.ref s.heap.objs.size) { s with heap := s.heap.push { cls := .type "tuple", data := .seq (vs ++ ws).toArray } })
    (hsz : vs.length + ws.length ≤ sizeLine) : wpAny (model prog w) A (binaryOp .Add (.ref t) (.ref b)) Q E s := by
  obtain ⟨⟨cls, dd, data, sl⟩, ho, hc, n, hd⟩ := id ht
  obtain ⟨⟨cls2, dd2, data2, sl2⟩, ho2, hc2, n2, hd2⟩ := id hb
  simp only at hc hd hc2 hd2
  subst hc hd hc2 hd2
  have e : vs.toArray ++ ws.toArray = (vs ++ ws).toArray := by simp
  by_cases hw : ws = []
  · exact concat_meets ⟨_, ho, rfl⟩ ⟨_, ho2, rfl⟩ noFill_tuple_add seq_tuple_add PySem.F.slot_tuple_add PySem.F.entry_tuple_add (PySem.F.args_tuple_add_2 _ _)
      (tuple_addW1 t b vs.toArray ws.toArray n n2 dd dd2 sl sl2 (by simpa using hv) (by simp [hw])) ⟨ho, ho2, h1 hw⟩
  · refine concat_meets ⟨_, ho, rfl⟩ ⟨_, ho2, rfl⟩ noFill_tuple_add seq_tuple_add PySem.F.slot_tuple_add PySem.F.entry_tuple_add (PySem.F.args_tuple_add_2 _ _)
      (tuple_addW2 t b vs.toArray ws.toArray n n2 dd dd2 sl sl2 (by simpa using hv) (by simpa using hw) (by rw [List.size_toArray, List.size_toArray]; exact hsz)) ⟨ho, ho2, ?_⟩
    rw [e]
    exact h2 hw

/-! ### t[a:b], not the whole -/
def sIx (n d : Nat) : Option Int → Nat
  | none => d
  | some v => if v < 0 then (v + (n : Int)).toNat else min v.toNat n
theorem sIx_none (n d : Nat) : sIx n d none = d := rfl
theorem sIx_nat (n d k : Nat) : sIx n d (some (k : Int)) = min k n := by
  show (if (k : Int) < 0 then ((k : Int) + (n : Int)).toNat else min (k : Int).toNat n) = min k n
  rw [if_neg (by omega), Int.toNat_natCast]
theorem sIx_le (n d : Nat) (hd : d ≤ n) (o : Option Int) : sIx n d o ≤ n := by
  cases o with
  | none => exact hd
  | some v =>
    show (if v < 0 then (v + (n : Int)).toNat else min v.toNat n) ≤ n
    by_cases hv : v < 0
    · rw [if_pos hv]; omega
    · rw [if_neg hv]; exact Nat.min_le_right _ _
theorem clip_eq (v : Int) (n d : Nat) : (if v < 0 then max (v + (n : Int)) 0 else min v (n : Int)) = ((sIx n d (some v) : Nat) : Int) := by
  show (if v < 0 then max (v + (n : Int)) 0 else min v (n : Int)) = (((if v < 0 then (v + (n : Int)).toNat else min v.toNat n) : Nat) : Int)
  by_cases hv : v < 0
  · simp only [if_pos hv]; omega
  · simp only [if_neg hv]; omega
theorem adjust_gen (lo hi : Option Int) (n : Nat) : Builtin.Slice.sliceAdjust lo hi 1 (n : Int) = (((sIx n 0 lo : Nat) : Int), ((sIx n n hi : Nat) : Int)) := by
  have h1 : ¬ ((1 : Int) < 0) := by omega
  unfold Builtin.Slice.sliceAdjust
  simp only [h1, if_false]
  refine Prod.ext ?_ ?_
  · cases lo with
    | none => rfl
    | some v => exact clip_eq v n 0
  · cases hi with
    | none => rfl
    | some v => exact clip_eq v n n
theorem places_gen (i j : Nat) : Builtin.Slice.slicePlaces (i : Int) (j : Int) 1 = j - i := by
  unfold Builtin.Slice.slicePlaces
  have h1 : (1 : Int) > 0 := by omega
  simp only [h1, if_true, Int.ediv_one]
  split <;> omega
theorem slicePart_ {v : Value} {o : Option Int} {Q : Option Int → Shared → Prop} (p : IsPart v o) (h : Q o s) : wpAny (model prog w) A (Builtin.Slice.slicePartIndex v) Q E s := by
  cases p with
  | none => exact slicePart_none h
  | int i t => exact slicePart_int h
theorem sliceApplied_gen {sl : Addr} {vl vu : Value} {lo hi : Option Int} {n : Nat} {Q : Int × Int × Nat → Shared → Prop} (hs : s.heap.IsSliceOf sl vl vu .none) (pl : IsPart vl lo) (pu : IsPart vu hi)
    (h : Q (((sIx n 0 lo : Nat) : Int), 1, sIx n n hi - sIx n 0 lo) s) : wpAny (model prog w) A (Builtin.Slice.sliceApplied (.ref sl) (pure (n : Int))) Q E s := by
  obtain ⟨os, hos, hcs, hds⟩ := id hs
  unfold Builtin.Slice.sliceApplied Builtin.Slice.sliceFields
  refine wpAny_bind (wpAny_bind (wpAny_field hos hds (x := vl) rfl (wpAny_bind (wpAny_field hos hds (x := vu) rfl (wpAny_bind (wpAny_field hos hds (x := .none) rfl (wpAny_pure ?_)))))))
  refine wpAny_bind (slicePart_none ?_)
  show wpAny _ _ (if ((1 : Int) == 0) = true then _ else _) _ _ s
  rw [if_neg (by decide)]
  refine wpAny_bind (slicePart_ pl (wpAny_bind (slicePart_ pu (wpAny_bind (wpAny_pure ?_)))))
  show wpAny _ _ (match Builtin.Slice.sliceAdjust lo hi 1 (n : Int) with | (lo, hi) => pure (lo, (1 : Int), Builtin.Slice.slicePlaces lo hi 1)) _ _ s
  rw [adjust_gen lo hi n]
  show wpAny _ _ (pure (((sIx n 0 lo : Nat) : Int), (1 : Int), Builtin.Slice.slicePlaces ((sIx n 0 lo : Nat) : Int) ((sIx n n hi : Nat) : Int) 1)) _ _ s
  rw [places_gen]
  exact wpAny_pure h
theorem pick_gen (xs : Array Value) (i k : Nat) : ((List.range k).filterMap fun (m : Nat) => xs[((i : Int) + (m : Int) * 1).toNat]?).toArray = ((xs.toList.drop i).take k).toArray := by
  have e : (fun (m : Nat) => xs[((i : Int) + (m : Int) * 1).toNat]?) = fun m => xs[i + m]? := by
    funext m
    have : ((i : Int) + (m : Int) * 1).toNat = i + m := by omega
    rw [this]
  rw [e]
  have := pick_run xs i k
  rw [List.filterMap_map] at this
  have e2 : ((fun x => xs[x]?) ∘ fun x => i + x) = fun m => xs[i + m]? := rfl
  rw [e2] at this
  rw [this]

theorem getItem_tuple_cut {t sl : Addr} {items : Array Value} {vl vu : Value} {lo hi : Option Int} {Q : Value → Shared → Prop} (ht : IsTup s.heap t items) (hs : s.heap.IsSliceOf sl vl vu .none) (pl : IsPart vl lo) (pu : IsPart vu hi)
    (hw : ¬ (sIx items.size 0 lo = 0 ∧ sIx items.size items.size hi = items.size))
    (h : Q (.ref s.heap.objs.size) { s with heap := s.heap.push { cls := .type "tuple", data := .seq ((items.toList.drop (sIx items.size 0 lo)).take (sIx items.size items.size hi - sIx items.size 0 lo)).toArray } })
    (hsz : items.size ≤ sizeLine) : wpAny (model prog w) A (getItem (.ref t) (.ref sl)) Q E s := by
  have htake : sizeOk (.seq ((items.toList.drop (sIx items.size 0 lo)).take (sIx items.size items.size hi - sIx items.size 0 lo)).toArray) := by
    show ((items.toList.drop (sIx items.size 0 lo)).take (sIx items.size items.size hi - sIx items.size 0 lo)).toArray.size ≤ sizeLine
    rw [List.size_toArray, List.length_take, List.length_drop, Array.length_toList]
    omega
  have hj : sIx items.size items.size hi ≤ items.size := sIx_le _ _ (Nat.le_refl _) hi
  obtain ⟨os, hos, hcs, hds⟩ := id hs
  have hTs : s.TypeIs (.ref sl) "slice" := ⟨os, hos, hcs⟩
  unfold getItem
  try with_reducible refine wpAny_holding ?_
  first | refine wpAny_bind (wpAny_pure ?_) | skip
  refine wpAny_bind (wpAny_sequenceKey ht.typeIs (by decide) ?_)
  refine wpAny_bind (wpAny_callSpecial?_slot (name := Str.ofString "__getitem__") ht.typeIs PyProof.Rows.slot_tuple_getitem
    (wpAny_call_entry PyProof.Rows.slot_tuple_getitem ht.typeIs entry_tuple_getitem ?_ (args_tuple_getitem _ _)))
  show wpAny _ _ (Builtin.Tuple.tupleItemsOf (.ref t) >>= _) _ _ s
  refine wpAny_bind (tupleItemsOf_ ht ?_)
  refine wpAny_bind (wpAny_typeOf hTs ?_)
  rw [if_pos (by decide)]
  refine wpAny_bind (sliceApplied_gen hs pl pu ?_)
  have hno : ¬ ((((sIx items.size 0 lo : Nat) : Int) == 0 && (1 : Int) == 1 && (sIx items.size items.size hi - sIx items.size 0 lo) == items.size) = true) := by
    intro q
    rw [Bool.and_eq_true, Bool.and_eq_true] at q
    have q1 : ((sIx items.size 0 lo : Nat) : Int) = 0 := eq_of_beq q.1.1
    have q2 : sIx items.size items.size hi - sIx items.size 0 lo = items.size := eq_of_beq q.2
    exact hw ⟨by omega, by omega⟩
  show wpAny _ _ (if (((sIx items.size 0 lo : Nat) : Int) == 0 && (1 : Int) == 1 && (sIx items.size items.size hi - sIx items.size 0 lo) == items.size) = true then _ else _) _ _ s
  rw [if_neg hno, pick_gen]
  first
    | exact wpAny_bind (m := Builtin.Tuple.tupleExact _) (wpAny_newObj_type (wpAny_pure ⟨_, rfl, wpAny_pure h⟩) htake)
    | exact wpAny_bind (m := Builtin.Tuple.tupleExact _) (wpAny_newObj_type (wpAny_bind (wpAny_pure (wpAny_pure ⟨_, rfl, wpAny_pure h⟩))) htake)
    | exact wpAny_bind (wpAny_bind (m := Builtin.Tuple.tupleExact _) (wpAny_newObj_type (wpAny_pure (wpAny_pure ⟨_, rfl, wpAny_pure h⟩)) htake))
    | exact wpAny_bind (wpAny_bind (m := Builtin.Tuple.tupleExact _) (wpAny_newObj_type (wpAny_pure ⟨_, rfl, wpAny_pure h⟩) htake))
end
end HT

namespace L2
open PySem PySem.Spec PyProof.Rows

/-! ### the parts of a slice -/
abbrev TO := St → Hp → (Option Int → Hp → Prop) → Prop
def PO (X : Cx) (e : Option Expr) (t : TO) : Prop :=
  ∀ (pins : List (Addr × Obj)) (s : Shared) (σ : St) (H : Hp) (Q : Option Int → Hp → Prop), Inv X pins σ H s → t σ H Q →
    wpAny (model X.prog X.w) X.A (evalPart e X.env) (fun u s' => ∃ o H', Inv X pins σ H' s' ∧ IsPart u o ∧ Q o H') X.xe s
def tNoPart : TO := fun _ H Q => Q none H
def tPart (t : TE) : TO := fun σ H Q => t σ H fun x H1 => ∃ i, x = .int i ∧ Q (some i) H1


section
variable {X : Cx} {e : Expr} {te : TE} {lo hi : Option Expr} {tl th : TO} {pos p2 : Pos}

theorem po_none : PO X none tNoPart := by
  intro pins s σ H Q I h
  rw [evalPart_none]
  exact wpAny_pure ⟨none, H, I, .none, h⟩
theorem po_some (h : PE X e te) : PO X (some e) (tPart te) := by
  intro pins s σ H Q I hw
  rw [evalPart_some]
  refine thn (h pins s σ H _ I hw) fun u s1 ⟨x, H1, I1, r1, q1⟩ => ?_
  obtain ⟨i, rfl, q⟩ := q1
  obtain ⟨t, rfl⟩ := r1
  exact ⟨some i, H1, I1, .int i t, q⟩

def SlR (X : Cx) (r : V → Option Int → Option Int → Hp → VK → Prop) : Prop :=
  ∀ (pins : List (Addr × Obj)) (s : Shared) (σ : St) (H : Hp) (x : V) (v vl vu : Value) (lo hi : Option Int) (sl : Addr) (Q : VK), Inv X pins σ H s → RelV x v → s.heap.IsSliceOf sl vl vu .none → IsPart vl lo → IsPart vu hi → r x lo hi H Q →
    ∃ T id, typeLookup (.type T) "__getitem__" = pure (some (.builtin id)) ∧ s.TypeIs v T ∧ wpAny (model X.prog X.w) X.A (getItem v (.ref sl)) (EP X pins σ Q) X.xe s
theorem SlR.or {r r' : V → Option Int → Option Int → Hp → VK → Prop} (h : SlR X r) (h' : SlR X r') : SlR X (fun x lo hi H Q => r x lo hi H Q ∨ r' x lo hi H Q) := by
  intro pins s σ H x v vl vu lo hi sl Q I rx hs pl pu q
  rcases q with q | q
  · exact h pins s σ H x v vl vu lo hi sl Q I rx hs pl pu q
  · exact h' pins s σ H x v vl vu lo hi sl Q I rx hs pl pu q
def tSl (r : V → Option Int → Option Int → Hp → VK → Prop) (te : TE) (tl th : TO) : TE := fun σ H Q => te σ H fun x H1 => tl σ H1 fun l H2 => th σ H2 fun u H3 => r x l u H3 Q
theorem pe_slice {r : V → Option Int → Option Int → Hp → VK → Prop} (hr : SlR X r) (he : PE X e te) (hl : PO X lo tl) (hu : PO X hi th) : PE X (.Subscript e (.Slice lo hi none p2) pos) (tSl r te tl th) := by
  intro pins s σ H Q I h
  refine Subscript_ (thn (he pins s σ H _ I h) fun v s1 ⟨x, H1, I1, r1, q1⟩ => ?_)
  refine wpAny_Slice (thn (hl pins s1 σ H1 _ I1 q1) fun vl s2 ⟨l, H2, I2, pl, q2⟩ => thn (hu pins s2 σ H2 _ I2 q2) fun vu s3 ⟨u, H3, I3, pu, q3⟩ => ?_)
  rw [evalPart_none]
  refine wpAny_pure ?_
  have I4 : Inv X pins σ H3 { s3 with heap := s3.heap.push { cls := .type "slice", data := .fields #[vl, vu, .none] } } := I3.kept (t' := s3.toks) fun b ob q => Heap.get?_push_of_some _ q
  obtain ⟨T, id, hT, ht, hg⟩ := hr pins { s3 with heap := s3.heap.push { cls := .type "slice", data := .fields #[vl, vu, .none] } } σ H3 x v vl vu l u s3.heap.objs.size Q I4 r1 (Heap.IsSliceOf.new ..) pl pu q3
  show wpAny (model X.prog X.w) X.A (subscriptTail e (.Slice lo hi none p2) v (.ref s3.heap.objs.size)) (EP X pins σ Q) X.xe { s3 with heap := s3.heap.push { cls := .type "slice", data := .fields #[vl, vu, .none] } }
  exact tail_any (ops := [.ref s3.heap.objs.size, v]) ht hT hg (by with_unfolding_all rfl)

def cutV (xs : List V) (lo hi : Option Int) : List V := (xs.drop (HT.sIx xs.length 0 lo)).take (HT.sIx xs.length xs.length hi - HT.sIx xs.length 0 lo)
theorem cutV_length (xs : List V) (lo hi : Option Int) : (cutV xs lo hi).length ≤ xs.length := by
  unfold cutV
  rw [List.length_take, List.length_drop]
  omega
def rSlT (K : PySem.W.Frag) : V → Option Int → Option Int → Hp → VK → Prop := fun x lo hi H Q => ∃ a xs, x = .ref a ∧ SqT K H a xs ∧
  ¬ (HT.sIx xs.length 0 lo = 0 ∧ HT.sIx xs.length xs.length hi = xs.length) ∧ ∀ p, H p = none → Q (.ref p) (upd H p (.tup (cutV xs lo hi)))
theorem sl_tup : SlR X (rSlT X.K) := by
  intro pins s σ H x v vl vu lo hi sl Q I rx hs pl pu h
  obtain ⟨a, xs, rfl, hx, hw, q⟩ := h
  cases rx
  obtain ⟨its, r, ht, hz⟩ := I.tuple hx
  have hlen : its.toArray.size = xs.length := by rw [List.size_toArray]; exact r.length.symm
  refine ⟨"tuple", _, PyProof.Rows.slot_tuple_getitem.lookup, ht.typeIs, ?_⟩
  refine HT.getItem_tuple_cut ht hs pl pu (by rw [hlen]; exact hw) ?_ (by rw [hlen]; exact hz)
  rw [hlen]
  refine ⟨.ref s.heap.objs.size, _, I.laid (t' := s.toks) (o := .tup (cutV xs lo hi)) (fun b ob q => Heap.get?_push_of_some _ q) (Nat.le_refl _) ?_, rfl, q _ (I.hok.fresh (Nat.le_refl _))⟩
  exact ⟨Nat.le_trans (cutV_length xs lo hi) hz, _, (r.drop (HT.sIx xs.length 0 lo)).take (HT.sIx xs.length xs.length hi - HT.sIx xs.length 0 lo), IsTup.new _ _⟩

/-! ### t < u, t + u -/
def rCatT (K : PySem.W.Frag) : R2 := fun x y H Q => ∃ a b xs ys, x = .ref a ∧ y = .ref b ∧ SqT K H a xs ∧ SqT K H b ys ∧ xs ≠ [] ∧ xs.length + ys.length ≤ sizeLine ∧
  (ys = [] → Q (.ref a) H) ∧ (ys ≠ [] → ∀ p, H p = none → Q (.ref p) (upd H p (.tup (xs ++ ys))))
theorem Vals.nil_iff {xs : List V} {us : List Value} (r : Vals xs us) : us = [] ↔ xs = [] := by
  cases r with
  | nil => simp
  | cons _ _ => simp
theorem op_catT : OpR X (binaryOp .Add) (rCatT X.K) := by
  intro pins s σ H x y v u Q I rx ry h
  obtain ⟨a, b, xs, ys, rfl, rfl, ha, hb, hx, hz, q1, q2⟩ := h
  cases rx
  cases ry
  obtain ⟨its, r1, p1, _⟩ := I.tuple ha
  obtain ⟨its2, r2, p2, _⟩ := I.tuple hb
  refine HT.cat_tup p1 p2 (fun z => hx (r1.nil_iff.mp z)) (fun z => ⟨.ref a, H, I, rfl, q1 (r2.nil_iff.mp z)⟩) (fun z => ?_) (by rw [← r1.length, ← r2.length]; exact hz)
  refine ⟨.ref s.heap.objs.size, _, I.laid (t' := s.toks) (o := .tup (xs ++ ys)) (fun b ob q => Heap.get?_push_of_some _ q) (Nat.le_refl _) ?_, rfl, q2 (fun w => z (r2.nil_iff.mpr w)) _ (I.hok.fresh (Nat.le_refl _))⟩
  exact ⟨by rw [List.length_append]; exact hz, _, r1.append r2, IsTup.new _ _⟩
end
end L2

namespace L2
open PySem PySem.Spec PyProof.Rows

/-! ### places -/
def ixN (n : Nat) (i : Int) : Option Nat := if 0 ≤ i then (if i < n then some i.toNat else none) else if -(n : Int) ≤ i then some (i + n).toNat else none
def atI {α : Type} (xs : List α) (i : Int) : Option α := (ixN xs.length i).bind fun j => xs[j]?
theorem ixN_seq {n : Nat} {i : Int} {j : Nat} (h : ixN n i = some j) : seqIndex? i n = some j ∧ j < n ∧ -(n : Int) ≤ i ∧ i < n := by
  unfold ixN at h
  by_cases h0 : 0 ≤ i
  · rw [if_pos h0] at h
    by_cases h1 : i < n
    · rw [if_pos h1] at h
      have e : i.toNat = j := Option.some.inj h
      exact ⟨by rw [seqIndex_of h0 h1, e], by omega, by omega, h1⟩
    · rw [if_neg h1] at h; cases h
  · rw [if_neg h0] at h
    by_cases h1 : -(n : Int) ≤ i
    · rw [if_pos h1] at h
      have e : (i + n).toNat = j := Option.some.inj h
      exact ⟨by rw [seqIndex_neg (by omega) h1, e], by omega, h1, by omega⟩
    · rw [if_neg h1] at h; cases h
theorem atI_get {α : Type} {xs : List α} {i : Int} {v : α} (h : atI xs i = some v) : ∃ j, seqIndex? i xs.length = some j ∧ xs[j]? = some v ∧ j < xs.length ∧ -(xs.length : Int) ≤ i ∧ i < xs.length := by
  unfold atI at h
  cases e : ixN xs.length i with
  | none => rw [e] at h; cases h
  | some j =>
    rw [e] at h
    obtain ⟨h1, h2, h3, h4⟩ := ixN_seq e
    exact ⟨j, h1, h, h2, h3, h4⟩
theorem atI_nat {α : Type} {xs : List α} {j : Nat} {v : α} (h : xs[j]? = some v) : atI xs (j : Int) = some v := by
  have hj : j < xs.length := (List.getElem?_eq_some_iff.mp h).1
  have e : ixN xs.length (j : Int) = some j := by
    unfold ixN
    rw [if_pos (by omega), if_pos (by omega)]; simp
  unfold atI; rw [e]; exact h

/-! ### what may be subscripted -/
def PlainIx (b : Expr) : Prop := ∀ o i, subscripted b false o i = operate [o, i] (getItem o i)
def IxR (X : Cx) (r : R2) : Prop :=
  ∀ (value slice : Expr) (pins : List (Addr × Obj)) (s : Shared) (σ : St) (H : Hp) (x y : V) (v u : Value) (Q : VK), Inv X pins σ H s → RelV x v → RelV y u → r x y H Q →
    subscripted slice false v u = operate [v, u] (getItem v u) → wpAny (model X.prog X.w) X.A (subscriptTail value slice v u) (EP X pins σ Q) X.xe s
def MtR (X : Cx) (id : String) (r : V → List V → Hp → VK → Prop) : Prop :=
  ∀ (pins : List (Addr × Obj)) (s : Shared) (σ : St) (H : Hp) (x : V) (xs : List V) (v : Value) (us : List Value) (Q : VK), Inv X pins σ H s → RelV x v → Vals xs us → r x xs H Q →
    wpAny (model X.prog X.w) X.A (call (.builtin id) (v :: us)) (EP X pins σ Q) X.xe s
section
variable {X : Cx} {a b : Expr} {ta tb : TE} {pos : Pos}
theorem pe_ix {r : R2} (hr : IxR X r) (ha : PE X a ta) (hb : PE X b tb) (hs : PlainIx b) : PE X (.Subscript a b pos) (tOp r ta tb) := by
  intro pins s σ H Q I h
  exact Subscript_ (binT ha hb I h fun v u s2 x y H2 I2 rx ry q => hr a b pins s2 σ H2 x y v u Q I2 rx ry q (hs _ _))

def rIxL (K : PySem.W.Frag) : R2 := fun x y H Q => ∃ p xs i v, x = .ref p ∧ y = .int i ∧ SqL K H p xs ∧ atI xs i = some v ∧ Q v H
def rIxT (K : PySem.W.Frag) : R2 := fun x y H Q => ∃ p xs i v, x = .ref p ∧ y = .int i ∧ SqT K H p xs ∧ atI xs i = some v ∧ Q v H
def rIxS : R2 := fun x y H Q => ∃ z i c, x = .str z ∧ y = .int i ∧ z.length ≤ sizeLine ∧ atI z.cps.toList i = some c ∧ Q (.str ⟨#[c]⟩) H
theorem ix_list : IxR X (rIxL X.K) := by
  intro value slice pins s σ H x y v u Q I rx ry h hs
  obtain ⟨p, xs, i, z, rfl, rfl, hq, he, q⟩ := h
  cases rx
  obtain ⟨t, rfl⟩ := ry
  obtain ⟨its, r, pl, hz⟩ := I.list hq
  obtain ⟨j, h1, h2, h3, h4, h5⟩ := atI_get he
  obtain ⟨w, ew, rw'⟩ := r.get h2
  have hl := r.length
  have hn := line63
  have fin : EP X pins σ Q w s := ⟨z, H, I, rw', q⟩
  by_cases h0 : 0 ≤ i
  · have hj : i.toNat = j := by
      rw [seqIndex_of h0 h5] at h1
      exact Option.some.inj h1
    exact item_listR pl.isList h0 (by omega) (by rw [hj]; simpa using ew) fin hs
  · have hj : (i + (its.toArray.size : Int)).toNat = j := by
      rw [seqIndex_neg (by omega) h4] at h1
      rw [List.size_toArray, ← hl]
      exact Option.some.inj h1
    exact subscriptTail_builtinR (x := w) pl.isList.typeIs slot_list_getitem.lookup
      (wpAny_getItem_list_neg (Q := fun r s' => r = w ∧ EP X pins σ Q r s') pl.isList (by omega) (by rw [List.size_toArray] <;> omega) (by omega) (by rw [hj]; simpa using ew) ⟨rfl, fin⟩) hs
theorem ix_tup : IxR X (rIxT X.K) := by
  intro value slice pins s σ H x y v u Q I rx ry h hs
  obtain ⟨p, xs, i, z, rfl, rfl, hq, he, q⟩ := h
  cases rx
  obtain ⟨t, rfl⟩ := ry
  obtain ⟨its, r, pl, hz⟩ := I.tuple hq
  obtain ⟨j, h1, h2, h3, h4, h5⟩ := atI_get he
  obtain ⟨w, ew, rw'⟩ := r.get h2
  have hl := r.length
  have hn := line63
  have fin : EP X pins σ Q w s := ⟨z, H, I, rw', q⟩
  exact subscriptTail_builtinR (x := w) pl.typeIs slot_tuple_getitem.lookup
    (getItem_tuple (j := j) (Q := fun r s' => r = w ∧ EP X pins σ Q r s') pl (by omega) (by omega) (by rw [List.size_toArray, ← hl]; exact h1) (by simpa using ew) ⟨rfl, fin⟩) hs
theorem ix_str : IxR X rIxS := by
  intro value slice pins s σ H x y v u Q I rx ry h hs
  obtain ⟨z, i, c, rfl, rfl, hz, he, q⟩ := h
  obtain ⟨t, rfl⟩ := rx
  obtain ⟨t', rfl⟩ := ry
  obtain ⟨j, h1, h2, h3, h4, h5⟩ := atI_get he
  have hl : z.cps.toList.length = z.length := by simp [Str.length]
  rw [hl] at h1 h4 h5
  have hn := line63
  exact tail_any (typeIs_str s z t) slot_str_getitem.lookup (getItem_str (c := c) (by
    have e1 : decide (i < -(2 ^ 63 : Int)) = false := decide_eq_false (by omega)
    have e2 : decide (i ≥ 2 ^ 63) = false := decide_eq_false (by omega)
    rw [e1, e2, Bool.or_false]) (by rw [h1]; simpa using h2) ⟨.str ⟨#[c]⟩, H, I.tok _, ⟨_, rfl⟩, q⟩) hs

/-! ### xs[i] = v, any sign -/
theorem mapSeq_set (its : List Value) (n j : Nat) (u : Value) : Obj.mapSeq (·.setIfInBounds j u) { cls := .type "list", data := .seq its.toArray n } = { cls := .type "list", data := .seq (its.set j u).toArray n } := by
  simp [Obj.mapSeq]
theorem Inv.lst {pins : List (Addr × Obj)} {σ : St} {H : Hp} {s : Shared} {p : Addr} {xs : List V} (I : Inv X pins σ H s) (h : H p = some (.lst xs)) :
    ∃ (its : List Value) (n : Nat), Vals xs its ∧ s.heap.get? p = some { cls := .type "list", data := .seq its.toArray n } ∧ xs.length ≤ sizeLine := by
  obtain ⟨z, its, n, r, e⟩ := I.hok p _ h
  exact ⟨its, n, r, e, z⟩
theorem Inv.lstUpd {pins : List (Addr × Obj)} {σ : St} {H : Hp} {s : Shared} {p : Addr} {xs ys : List V} {its its' : List Value} {n n' : Nat} {f : Obj → Obj} (I : Inv X pins σ H s) (h : H p = some (.lst xs))
    (ho : s.heap.get? p = some { cls := .type "list", data := .seq its.toArray n }) (hf : f { cls := .type "list", data := .seq its.toArray n } = { cls := .type "list", data := .seq its'.toArray n' }) (r : Vals ys its') (hz : ys.length ≤ sizeLine) (t : Nat) :
    Inv X pins σ (upd H p (.lst ys)) { s with heap := s.heap.update p f, toks := t } := by
  have e : (s.heap.update p f).get? p = some { cls := .type "list", data := .seq its'.toArray n' } := by
    rw [Heap.get?_update_self f ho (by rw [hf] <;> rfl), hf]
  refine I.write (x := p) (e := p) (by rw [h]; trivial) (.inl rfl) (fun b u hb q => (Heap.get?_update_other _ _ (Ne.symm hb)).trans q) ⟨_, e⟩ ?_
  exact ⟨hz, its', n', r, e⟩
def rSetL : V → V → V → Hp → (Hp → Prop) → Prop := fun o i v H Q => ∃ p xs k j, o = .ref p ∧ i = .int k ∧ H p = some (.lst xs) ∧ ixN xs.length k = some j ∧ Q (upd H p (.lst (xs.set j v)))
theorem set_list : PSet X rSetL := by
  intro pins s σ H o i v ov iv u Q I ro ri rv h
  obtain ⟨p, xs, k, j, rfl, rfl, hp, hj, q⟩ := h
  cases ro
  obtain ⟨t, rfl⟩ := ri
  obtain ⟨its, n, r, ho, hz⟩ := I.lst hp
  obtain ⟨h1, h2, h3, h4⟩ := ixN_seq hj
  have hl := r.length
  have hn := line63
  have I' : Inv X pins σ (upd H p (.lst (xs.set j v))) { s with heap := s.heap.update p (Obj.mapSeq (·.setIfInBounds j u)) } :=
    I.lstUpd hp ho (mapSeq_set its n j u) (r.set rv j) (by rw [List.length_set]; exact hz) s.toks
  by_cases h0 : 0 ≤ k
  · have hk : k.toNat = j := by
      rw [seqIndex_of h0 h4] at h1
      exact Option.some.inj h1
    exact PySem.W.ki_setAt ho h0 (by omega) (by rw [List.size_toArray, ← hl]; exact h4) (by rw [hk]; exact ⟨_, I', q⟩)
  · have hk : (k + (its.toArray.size : Int)).toNat = j := by
      rw [seqIndex_neg (by omega) h3] at h1
      rw [List.size_toArray, ← hl]
      exact Option.some.inj h1
    exact PySem.W.ki_setBack ho (by omega) (by rw [List.size_toArray, ← hl]; exact h3) (by omega) (by rw [hk]; exact ⟨_, I', q⟩)

/-! ### slices -/
theorem slice_bounds (lo hi : Option Int) (n : Nat) : (sliceBounds lo hi none n).1 = ((HT.sIx n 0 lo : Nat) : Int) ∧ (sliceBounds lo hi none n).2.1 = ((HT.sIx n n hi : Nat) : Int) ∧ (sliceBounds lo hi none n).2.2 = 1 := by
  refine ⟨?_, ?_, rfl⟩
  · cases lo with
    | none => simp [sliceBounds, HT.sIx]
    | some i =>
      simp only [sliceBounds, HT.sIx, Option.getD_none, show (1 : Int) > 0 by decide, if_true]
      by_cases h : i < 0
      · simp only [h, if_true] <;> omega
      · simp only [h, if_false] <;> omega
  · cases hi with
    | none => simp [sliceBounds, HT.sIx]
    | some i =>
      simp only [sliceBounds, HT.sIx, Option.getD_none, show (1 : Int) > 0 by decide, if_true]
      by_cases h : i < 0
      · simp only [h, if_true] <;> omega
      · simp only [h, if_false] <;> omega
theorem slicePick_cut (its : List Value) (lo hi : Option Int) : slicePick its.toArray lo hi none = ((its.drop (HT.sIx its.length 0 lo)).take (HT.sIx its.length its.length hi - HT.sIx its.length 0 lo)).toArray := by
  obtain ⟨h1, h2, h3⟩ := slice_bounds lo hi its.toArray.size
  unfold slicePick
  rw [h1, h2, h3]
  simp only [sliceRange_one, pick_run, List.size_toArray] <;> rfl
def rSlL (K : PySem.W.Frag) : V → Option Int → Option Int → Hp → VK → Prop := fun x lo hi H Q => ∃ a xs, x = .ref a ∧ SqL K H a xs ∧ ∀ p, H p = none → Q (.ref p) (upd H p (.lst (cutV xs lo hi)))
theorem sl_list : SlR X (rSlL X.K) := by
  intro pins s σ H x v vl vu lo hi sl Q I rx hs pl pu h
  obtain ⟨a, xs, rfl, hx, q⟩ := h
  cases rx
  obtain ⟨its, r, ht, hz⟩ := I.list hx
  have hlen := r.length
  refine ⟨"list", _, slot_list_getitem.lookup, ht.isList.typeIs, ?_⟩
  refine wpAny_getItem_list_slice ht.isList hs pl pu .none (by simp) ?_ (by rw [List.size_toArray] <;> omega)
  rw [slicePick_cut, ← hlen]
  refine ⟨.ref s.heap.objs.size, _, I.laid (t' := s.toks) (o := .lst (cutV xs lo hi)) (fun b ob q => Heap.get?_push_of_some _ q) (Nat.le_refl _) ?_, rfl, q _ (I.hok.fresh (Nat.le_refl _))⟩
  exact ⟨Nat.le_trans (cutV_length xs lo hi) hz, _, 0, (r.drop (HT.sIx xs.length 0 lo)).take (HT.sIx xs.length xs.length hi - HT.sIx xs.length 0 lo), Heap.get?_push_size _ rfl⟩

/-! ### in, not in: flat items -/
def flatV : V → Bool
  | .non => true
  | .bl _ => true
  | .int _ => true
  | .str _ => true
  | _ => false
def eqV : V → V → Bool
  | .non, .non => true
  | .bl a, .bl b => a == b
  | .bl a, .int b => (if a then 1 else 0) == b
  | .int a, .bl b => a == (if b then 1 else 0)
  | .int a, .int b => a == b
  | .str a, .str b => a == b
  | _, _ => false
theorem eqAt_V {A : Around} {s : Shared} {y x : V} {u v : Value} (ry : RelV y u) (rx : RelV x v) (fy : flatV y = true) (fx : flatV x = true) : SeqAt.EqAt A s u v (eqV y x) := by
  cases y with
  | non =>
    cases ry
    cases x with
    | non => cases rx; exact SeqAt.EqAt.same _
    | bl b => cases rx; exact SeqAt.EqAt.none_bool b
    | int b => obtain ⟨t, rfl⟩ := rx; exact SeqAt.EqAt.none_int b t
    | str b => obtain ⟨t, rfl⟩ := rx; exact SeqAt.EqAt.none_str b t
    | _ => exact absurd (show false = true from fx) Bool.false_ne_true
  | bl a =>
    cases ry
    cases x with
    | non => cases rx; exact SeqAt.EqAt.bool_none a
    | bl b => cases rx; exact SeqAt.EqAt.bool_bool a b
    | int b => obtain ⟨t, rfl⟩ := rx; exact SeqAt.EqAt.bool_int a b t
    | str b => obtain ⟨t, rfl⟩ := rx; exact SeqAt.EqAt.bool_str a b t
    | _ => exact absurd (show false = true from fx) Bool.false_ne_true
  | int a =>
    obtain ⟨t', rfl⟩ := ry
    cases x with
    | non => cases rx; exact SeqAt.EqAt.int_none a t'
    | bl b => cases rx; exact SeqAt.EqAt.int_bool a t' b
    | int b => obtain ⟨t, rfl⟩ := rx; exact SeqAt.EqAt.int_int a t' b t
    | str b => obtain ⟨t, rfl⟩ := rx; exact SeqAt.EqAt.int_str a t' b t
    | _ => exact absurd (show false = true from fx) Bool.false_ne_true
  | str a =>
    obtain ⟨t', rfl⟩ := ry
    cases x with
    | non => cases rx; exact SeqAt.EqAt.str_none a t'
    | bl b => cases rx; exact SeqAt.EqAt.str_bool a t' b
    | int b => obtain ⟨t, rfl⟩ := rx; exact SeqAt.EqAt.str_int a t' b t
    | str b => obtain ⟨t, rfl⟩ := rx; exact SeqAt.EqAt.str_str a t' b t
    | _ => exact absurd (show false = true from fx) Bool.false_ne_true
  | _ => exact absurd (show false = true from fy) Bool.false_ne_true
def eqU (x : V) (u : Value) : Bool := match u with
  | .none => eqV .non x
  | .bool b => eqV (.bl b) x
  | .int i _ => eqV (.int i) x
  | .str z _ => eqV (.str z) x
  | _ => false
theorem eqU_of {x y : V} {u : Value} (r : RelV y u) (f : flatV y = true) : eqU x u = eqV y x := by
  cases y with
  | non => cases r; rfl
  | bl b => cases r; rfl
  | int i => obtain ⟨t, rfl⟩ := r; rfl
  | str z => obtain ⟨t, rfl⟩ := r; rfl
  | _ => exact absurd (show false = true from f) Bool.false_ne_true
theorem any_eqU {x : V} : ∀ {xs : List V} {us : List Value}, Vals xs us → xs.all flatV = true → us.any (eqU x) = xs.any fun y => eqV y x
  | _, _, .nil, _ => rfl
  | y :: xs, u :: us, .cons r t, f => by
    rw [List.all_cons, Bool.and_eq_true] at f
    rw [List.any_cons, List.any_cons, eqU_of r f.1, any_eqU t f.2]
theorem mem_eqAt {A : Around} {s : Shared} {x : V} {v : Value} (rx : RelV x v) (fx : flatV x = true) : ∀ {xs : List V} {us : List Value}, Vals xs us → xs.all flatV = true → ∀ u ∈ us, SeqAt.EqAt A s u v (eqU x u)
  | _, _, .nil, _ => fun u hu => by cases hu
  | y :: xs, u :: us, .cons r t, f => fun u' hu => by
    rw [List.all_cons, Bool.and_eq_true] at f
    rcases List.mem_cons.mp hu with rfl | hu
    · rw [eqU_of r f.1]; exact eqAt_V r rx f.1 fx
    · exact mem_eqAt rx fx t f.2 u' hu
def inV (x : V) (xs : List V) : Bool := xs.any fun y => eqV y x
def rIn (K : PySem.W.Frag) (neg : Bool) : R2 := fun x y H Q => ∃ p xs, y = .ref p ∧ (SqL K H p xs ∨ SqT K H p xs) ∧ flatV x = true ∧ xs.all flatV = true ∧ Q (.bl (if neg then !inV x xs else inV x xs)) H
theorem op_in_seq : OpR X (compareOp .In) (rIn X.K false) := by
  intro pins s σ H x y v u Q I rx ry h
  obtain ⟨p, xs, rfl, hq, fx, fs, q⟩ := h
  cases ry
  rcases hq with hq | hq
  · obtain ⟨its, r, pl, hz⟩ := I.list hq
    refine SeqAt.in_listAt (eqU x) pl.isList (fun w hw => mem_eqAt rx fx r fs w (by simpa using hw)) ⟨.bl _, H, I, rfl, ?_⟩
    rw [show its.toArray.any (eqU x) = its.any (eqU x) by simp, any_eqU r fs]
    exact q
  · obtain ⟨its, r, pl, hz⟩ := I.tuple hq
    refine SeqAt.in_tupleAt (eqU x) pl (fun w hw => mem_eqAt rx fx r fs w (by simpa using hw)) ⟨.bl _, H, I, rfl, ?_⟩
    rw [show its.toArray.any (eqU x) = its.any (eqU x) by simp, any_eqU r fs]
    exact q
theorem op_notIn_seq : OpR X (compareOp .NotIn) (rIn X.K true) := by
  intro pins s σ H x y v u Q I rx ry h
  obtain ⟨p, xs, rfl, hq, fx, fs, q⟩ := h
  cases ry
  rcases hq with hq | hq
  · obtain ⟨its, r, pl, hz⟩ := I.list hq
    refine SeqAt.notIn_listAt (eqU x) pl.isList (fun w hw => mem_eqAt rx fx r fs w (by simpa using hw)) ⟨.bl _, H, I, rfl, ?_⟩
    rw [show its.toArray.any (eqU x) = its.any (eqU x) by simp, any_eqU r fs]
    exact q
  · obtain ⟨its, r, pl, hz⟩ := I.tuple hq
    refine SeqAt.notIn_tupleAt (eqU x) pl (fun w hw => mem_eqAt rx fx r fs w (by simpa using hw)) ⟨.bl _, H, I, rfl, ?_⟩
    rw [show its.toArray.any (eqU x) = its.any (eqU x) by simp, any_eqU r fs]
    exact q

/-! ### len, list(x), tuple(x) of any list or tuple that is read -/
theorem call_len_seq : CallR X (.builtin "len") (fun xs H Q => ∃ p ys, xs = [.ref p] ∧ (SqL X.K H p ys ∨ SqT X.K H p ys) ∧ Q (.int ys.length) H) := by
  intro pins s σ H xs us Q I r h
  obtain ⟨p, ys, rfl, hq, q⟩ := h
  obtain ⟨u, rfl, rx⟩ := vals1 r
  cases rx
  have hn := line63
  rcases hq with hq | hq
  · obtain ⟨its, r', pl, hz⟩ := I.list hq
    have hlen := r'.length
    exact Calls.call_len_list pl.isList (by simp only [List.size_toArray] <;> omega) ⟨.int ys.length, H, I.tok _, ⟨s.toks + 1, by rw [List.size_toArray, hlen]⟩, q⟩
  · obtain ⟨its, r', pl, hz⟩ := I.tuple hq
    have hlen := r'.length
    exact len_tuple pl (by simp only [List.size_toArray] <;> omega) ⟨.int ys.length, H, I.tok _, ⟨s.toks + 1, by rw [List.size_toArray, hlen]⟩, q⟩
theorem call_len_str : CallR X (.builtin "len") (fun xs H Q => ∃ z, xs = [.str z] ∧ z.length ≤ sizeLine ∧ Q (.int z.length) H) := by
  intro pins s σ H xs us Q I r h
  obtain ⟨z, rfl, hz, q⟩ := h
  obtain ⟨u, rfl, t, rfl⟩ := vals1 r
  have hn := line63
  exact len_str (by omega) ⟨.int z.length, H, I.tok _, ⟨_, rfl⟩, q⟩
theorem CallR.or {f : Value} {r r' : List V → Hp → VK → Prop} (h : CallR X f r) (h' : CallR X f r') : CallR X f (fun xs H Q => r xs H Q ∨ r' xs H Q) := by
  intro pins s σ H xs us Q I rs q
  rcases q with q | q
  · exact h pins s σ H xs us Q I rs q
  · exact h' pins s σ H xs us Q I rs q
theorem call_list_of : CallR X (.type "list") (fun xs H Q => ∃ p ys, xs = [.ref p] ∧ (SqL X.K H p ys ∨ SqT X.K H p ys) ∧ ∀ l, H l = none → Q (.ref l) (upd H l (.lst ys))) := by
  intro pins s σ H xs us Q I r h
  obtain ⟨p, ys, rfl, hq, q⟩ := h
  obtain ⟨u, rfl, rx⟩ := vals1 r
  cases rx
  have fin : ∀ (its : List Value), Vals ys its → ys.length ≤ sizeLine → ∀ (h' : Heap) (c' : Nat), (∀ b o', s.heap.get? b = some o' → h'.get? b = some o') →
      h'.get? s.heap.objs.size = some { cls := .type "list", dict := none, data := .seq its.toArray c', slots := #[] } → EP X pins σ Q (.ref s.heap.objs.size) { s with heap := h' } := fun its r' hz h' c' kp e =>
    ⟨.ref s.heap.objs.size, _, I.laid (t' := s.toks) kp (Nat.le_refl _) (show ObjOk X.prog X.w _ h' _ (.lst ys) from ⟨hz, its, c', r', e⟩), rfl, q _ (I.hok.fresh (Nat.le_refl _))⟩
  rcases hq with hq | hq
  · obtain ⟨its, r', pl, hz⟩ := I.list hq
    have hlen := r'.length
    obtain ⟨o, ho, hc, n, hd⟩ := pl.isList
    exact call_list_seq p (.inl rfl) ho hc hd (fun h' c' kp e => fin its r' hz h' c' kp e) (by simp only [List.size_toArray] <;> omega)
  · obtain ⟨its, r', pl, hz⟩ := I.tuple hq
    have hlen := r'.length
    obtain ⟨o, ho, hc, n, hd⟩ := pl
    exact call_list_seq p (.inr rfl) ho hc hd (fun h' c' kp e => fin its r' hz h' c' kp e) (by simp only [List.size_toArray] <;> omega)
theorem call_tuple_of : CallR X (.type "tuple") (fun xs H Q => ∃ p ys, xs = [.ref p] ∧ ((SqL X.K H p ys ∧ ∀ l, H l = none → Q (.ref l) (upd H l (.tup ys))) ∨ (SqT X.K H p ys ∧ Q (.ref p) H))) := by
  intro pins s σ H xs us Q I r h
  obtain ⟨p, ys, rfl, h⟩ := h
  obtain ⟨u, rfl, rx⟩ := vals1 r
  cases rx
  rcases h with ⟨hq, q⟩ | ⟨hq, q⟩
  · obtain ⟨its, r', pl, hz⟩ := I.list hq
    have hlen := r'.length
    refine call_tuple_list pl.isList (fun h' kp => ?_) (by simp only [List.size_toArray] <;> omega)
    have I1 : Inv X pins σ H { s with heap := h' } := I.kept (t' := s.toks) kp
    have I2 : Inv X pins σ (upd H h'.objs.size (.tup ys)) { s with heap := h'.push { cls := .type "tuple", data := .seq its.toArray } } :=
      I1.laid (t' := s.toks) (fun b o e => Heap.get?_push_of_some _ e) (Nat.le_refl _) (show ObjOk X.prog X.w _ _ _ (.tup ys) from ⟨hz, its, r', IsTup.new _ _⟩)
    exact ⟨.ref h'.objs.size, _, I2, rfl, q _ (I1.hok.fresh (Nat.le_refl _))⟩
  · obtain ⟨its, r', pl, hz⟩ := I.tuple hq
    exact call_tuple_same pl ⟨.ref p, H, I, rfl, q⟩

/-! ### the call of a builtin's method: o.m(..) -/
def tyV (K : PySem.W.Frag) (T : String) (x : V) (H : Hp) : Prop := match x with
  | .str _ => T = "str"
  | .int _ => T = "int"
  | .ref p => (T = "list" ∧ ∃ xs, SqL K H p xs) ∨ (T = "tuple" ∧ ∃ o, K.lookup p = some o ∧ o.cls = .type "tuple" ∧ o.dict = none) ∨
      (T = "dict" ∧ ((∃ kvs, H p = some (.dK kvs)) ∨ ∃ kvs, H p = some (.dT kvs))) ∨ (T = "set" ∧ ∃ S n, H p = some (.set S n))
  | _ => False
theorem tyV_is {pins : List (Addr × Obj)} {σ : St} {H : Hp} {s : Shared} {T : String} {x : V} {v : Value} (I : Inv X pins σ H s) (r : RelV x v) (ty : tyV X.K T x H) :
    s.TypeIs v T ∧ ∀ a, v = .ref a → ∃ ob, s.heap.get? a = some ob ∧ ob.dict = none := by
  cases x with
  | str z =>
    obtain ⟨t, rfl⟩ := r
    cases (show T = "str" from ty)
    exact ⟨typeIs_str s z t, fun _ e => nomatch e⟩
  | int i =>
    obtain ⟨t, rfl⟩ := r
    cases (show T = "int" from ty)
    exact ⟨typeIs_int s i t, fun _ e => nomatch e⟩
  | ref p =>
    cases r
    rcases ty with ⟨rfl, xs, hq⟩ | ⟨rfl, o, hk, hc, hd⟩ | ⟨rfl, hk⟩ | ⟨rfl, S, n, hk⟩
    · obtain ⟨its, _, pl, _⟩ := I.list hq
      refine ⟨pl.isList.typeIs, fun a e => ?_⟩
      cases e
      obtain ⟨o, n, e, c, hd, _⟩ := pl
      exact ⟨o, e, hd⟩
    · refine ⟨⟨o, I.kIn p o hk, hc⟩, fun a e => ?_⟩
      cases e
      exact ⟨o, I.kIn _ o hk, hd⟩
    · have z : ∃ o, s.heap.get? p = some o ∧ o.ExactDict := by
        rcases hk with ⟨kvs, hk⟩ | ⟨kvs, hk⟩
        · obtain ⟨_, _, _, _, o, _, _, e, ex, _⟩ := I.hok p _ hk
          exact ⟨o, e, ex⟩
        · obtain ⟨_, _, _, _, o, _, _, e, ex, _⟩ := I.hok p _ hk
          exact ⟨o, e, ex⟩
      obtain ⟨o, e, ex⟩ := z
      refine ⟨⟨o, e, ex.1⟩, fun a e2 => ?_⟩
      cases e2
      exact ⟨o, e, ex.2.1⟩
    · obtain ⟨o, _, _, _, e, ex, _⟩ := I.hok p _ hk
      refine ⟨⟨o, e, ex.1⟩, fun a e2 => ?_⟩
      cases e2
      exact ⟨o, e, ex.2.1⟩
  | _ => exact False.elim ty
def tBM (K : PySem.W.Frag) (T : String) (r : V → List V → Hp → VK → Prop) (to : TE) (t : TA) : TE := fun σ H Q => to σ H fun x H1 => tyV K T x H1 ∧ t σ H1 fun xs H2 => r x xs H2 Q
variable {o e : Expr} {es : List Expr} {to : TE} {t : TA} {name : Str} {apos cpos : Pos} {T id : String} {r : V → List V → Hp → VK → Prop}
theorem pe_bm (pa : PlainAttrs T) (slot : Slot T name id) (hty : typeOf (.builtin id) = pure (.type "method_descriptor")) (hm : MtR X id r) (ho : PE X o to) (ha : PA X (e :: es) t)
    (hbase : attributeBase o name X.env (eval o X.env) = eval o X.env := by rfl)
    (hfew : ((backTo cpos (starEach (e :: es) X.env)).all (fun x => !x.1) && (backToKw cpos (keywordEach [] X.env)).all (fun x => x.1.isSome)
      && decide ((e :: es).length + ([] : List Keyword).length + (if ([] : List Keyword).isEmpty then 0 else 1) < 30)) = true := by rfl)
    (hline : (apos.endLine == cpos.line) = true := by rfl) (hs : starEach (e :: es) X.env = (false, eval e X.env) :: starEach es X.env := by rfl) (hplain : (backTo cpos (starEach es X.env)).any (·.1) = false := by rfl) :
    PE X (.Call (.Attribute o name apos) (e :: es) [] cpos) (tBM X.K T r to t) := by
  intro pins s σ H Q I h
  refine wpAny_Call_method_late hbase hfew hline rfl (thn (ho pins s σ H _ I h) fun v s1 ⟨x, H1, I1, r1, ty, q1⟩ => ?_)
  obtain ⟨h1, h2⟩ := tyV_is I1 r1 ty
  refine ⟨T, id, pa, slot, hty, h1, h2, ?_⟩
  have hA := ha cpos pins s1 σ H1 _ I1 q1
  rw [hs] at hA ⊢
  refine Calls.callWith_builtin (by show (false || (backTo cpos (starEach es X.env)).any (·.1)) = false; rw [hplain] <;> rfl) (Calls.evalArgs_plain ?_)
  exact thn hA fun us s2 ⟨vs, H2, I2, r2, q2⟩ => hm pins s2 σ H2 x vs v us Q I2 r1 r2 q2
/- xs.append(e), list.index on a module's tuple .. are MtR facts of 06m -/
end
end L2

namespace L2
open PySem PySem.Spec PyProof.Rows

def MtM (X : Cx) (id : String) (r : V → List V → Hp → VK → Prop) : Prop :=
  ∀ (pins : List (Addr × Obj)) (s : Shared) (σ : St) (H : Hp) (x : V) (xs : List V) (v : Value) (us : List Value) (Q : VK), Inv X pins σ H s → RelV x v → Vals xs us → r x xs H Q →
    wpAny (model X.prog X.w) X.A (call (.builtin id) (v :: us)) (EP X pins σ Q) X.xe s

/-! ### lists of values -/
theorem Vals.one : ∀ {x : V} {us : List Value}, Vals [x] us → ∃ u, us = [u] ∧ RelV x u
  | _, _, .cons r .nil => ⟨_, rfl, r⟩
theorem Vals.two : ∀ {x y : V} {us : List Value}, Vals [x, y] us → ∃ u v, us = [u, v] ∧ RelV x u ∧ RelV y v
  | _, _, _, .cons r (.cons q .nil) => ⟨_, _, rfl, r, q⟩
theorem Vals.rep {xs : List V} {us : List Value} (h : Vals xs us) : ∀ k : Nat, Vals (List.replicate k xs).flatten (List.replicate k us).flatten
  | 0 => .nil
  | k + 1 => by
    rw [List.replicate_succ, List.replicate_succ, List.flatten_cons, List.flatten_cons]
    exact Vals.append h (Vals.rep h k)
theorem foldl_rep (its : List Value) : ∀ (k : Nat) (acc : List Value),
    List.foldl (fun x1 x2 => x1 ++ x2) acc.toArray (List.replicate k its.toArray) = (acc ++ (List.replicate k its).flatten).toArray
  | 0, acc => by simp
  | k + 1, acc => by
    have e : acc.toArray ++ its.toArray = (acc ++ its).toArray := by simp
    have e2 : (acc ++ its) ++ (List.replicate k its).flatten = acc ++ (List.replicate (k + 1) its).flatten := by
      rw [List.replicate_succ, List.flatten_cons, List.append_assoc]
    rw [← e2, ← foldl_rep its k (acc ++ its), ← e, List.replicate_succ, List.foldl_cons]

section
variable {X : Cx} {pins : List (Addr × Obj)} {σ : St} {H : Hp} {s : Shared} {l b : Addr} {xs ys zs : List V}

/-! ### the two steps: a tracked list is rewritten, a new list is laid -/
theorem Inv.lset {its its' : List Value} {n : Nat} {f : Array Value → Array Value} {t' : Nat} (I : Inv X pins σ H s) (hH : H l = some (.lst xs))
    (e : s.heap.get? l = some { cls := .type "list", data := .seq its.toArray n }) (hf : f its.toArray = its'.toArray) (hv : Vals ys its') (hz : ys.length ≤ sizeLine) :
    Inv X pins σ (upd H l (.lst ys)) { s with heap := s.heap.update l (Obj.mapSeq f), toks := t' } := by
  have q := PySem.IsL.update e f
  rw [hf] at q
  refine I.write (x := l) (e := l) (by rw [hH]; exact trivial) (.inl rfl) (fun b' u hb hu => (Heap.get?_update_other s.heap (Obj.mapSeq f) (Ne.symm hb)).trans hu) ⟨_, q⟩ ?_
  exact ⟨hz, its', _, hv, q⟩
theorem Inv.lnew {its : List Value} {t' : Nat} (I : Inv X pins σ H s) (hv : Vals ys its) (hz : ys.length ≤ sizeLine) :
    Inv X pins σ (upd H s.heap.objs.size (.lst ys)) { s with heap := s.heap.push { cls := .type "list", data := .seq its.toArray }, toks := t' } :=
  I.laid (fun _ _ q => Heap.get?_push_of_some _ q) (Nat.le_refl _) ⟨hz, its, 0, hv, Heap.get?_push_size _ rfl⟩
theorem Inv.fresh (I : Inv X pins σ H s) : H s.heap.objs.size = none := I.hok.fresh (Nat.le_refl _)
theorem Inv.lstM (I : Inv X pins σ H s) (hH : H l = some (.lst xs)) : xs.length ≤ sizeLine ∧ ∃ (its : List Value) (n : Nat), Vals xs its ∧ xs.length = its.length ∧ s.heap.get? l = some { cls := .type "list", data := .seq its.toArray n } := by
  obtain ⟨z, its, n, r, e⟩ := I.hok l _ hH
  exact ⟨z, its, n, r, r.length, e⟩

theorem notLongL {n : Nat} (h : n ≤ sizeLine) : Builtin.List.listTooLong n = false := by
  unfold Builtin.List.listTooLong
  exact decide_eq_false (by omega)
end

section
variable {X : Cx}

/-! ### methods -/
def rAppend : V → List V → Hp → VK → Prop := fun x vs H Q => ∃ l xs y, x = .ref l ∧ vs = [y] ∧ H l = some (.lst xs) ∧ xs.length < sizeLine ∧ Q .non (upd H l (.lst (xs ++ [y])))
theorem mt_append : MtM X "list.append" rAppend := by
  intro pins s σ H x vs v us Q I rx rv h
  obtain ⟨l, xs, y, rfl, rfl, hH, hz, q⟩ := h
  cases rx
  obtain ⟨u, rfl, ru⟩ := rv.one
  obtain ⟨z, its, n, r, hl, e⟩ := I.lstM hH
  refine call_meets F.slot_list_append ⟨_, e, rfl⟩ F.entry_list_append (F.args_list_append_2 _ _) (PySem.list_append l its.toArray n u (by rw [List.size_toArray]; omega)) ⟨e, ?_⟩
  refine ⟨.non, _, I.lset (its' := its ++ [u]) hH e (by simp) (r.append (.cons ru .nil)) ?_, rfl, q⟩
  rw [List.length_append, List.length_singleton]
  omega






/-! ### list + list, list += list, list * int -/
def rCat : R2 := fun x y H Q => ∃ l b xs zs, x = .ref l ∧ y = .ref b ∧ H l = some (.lst xs) ∧ H b = some (.lst zs) ∧ xs.length + zs.length ≤ sizeLine ∧ ∀ p, H p = none → Q (.ref p) (upd H p (.lst (xs ++ zs)))
theorem op_cat : OpR X (binaryOp .Add) rCat := by
  intro pins s σ H x y v u Q I rx ry h
  obtain ⟨l, b, xs, zs, rfl, rfl, hH, hB, hz, q⟩ := h
  cases rx
  cases ry
  obtain ⟨z, its, n, r, hl, e⟩ := I.lstM hH
  obtain ⟨z2, its2, n2, r2, hl2, e2⟩ := I.lstM hB
  refine PySem.P.add_list e e2 ?_ (by rw [List.size_toArray, List.size_toArray]; omega)
  have ea : its.toArray ++ its2.toArray = (its ++ its2).toArray := by simp
  rw [ea]
  exact ⟨.ref _, _, I.lnew (t' := s.toks) (r.append r2) (by rw [List.length_append]; omega), rfl, q _ I.fresh⟩
def rRep : R2 := fun x y H Q => ∃ l k xs, x = .ref l ∧ y = .int k ∧ H l = some (.lst xs) ∧ -(2 ^ 63) ≤ k ∧ k < 2 ^ 63 ∧ xs.length * k.toNat ≤ sizeLine ∧
  ∀ p, H p = none → Q (.ref p) (upd H p (.lst (List.replicate k.toNat xs).flatten))
theorem len_rep {α : Type} (xs : List α) (k : Nat) : (List.replicate k xs).flatten.length = k * xs.length := by
  induction k with
  | zero => simp
  | succ k ih => rw [List.replicate_succ, List.flatten_cons, List.length_append, ih, Nat.succ_mul, Nat.add_comm]
theorem op_rep : OpR X (binaryOp .Mult) rRep := by
  intro pins s σ H x y v u Q I rx ry h
  obtain ⟨l, k, xs, rfl, rfl, hH, h1, h2, hz, q⟩ := h
  cases rx
  obtain ⟨t, rfl⟩ := ry
  obtain ⟨z, its, n, r, hl, e⟩ := I.lstM hH
  have hlen : its.toArray.size * k.toNat ≤ sizeLine := by rw [List.size_toArray, ← hl]; exact hz
  have hcap : ¬ its.toArray.size * k.toNat > (2 ^ 63 - 1) / 8 := by
    have : (sizeLine : Nat) ≤ (2 ^ 63 - 1) / 8 := by decide
    omega
  have hfit : ¬ (!Builtin.List.listFitsIndex k) = true := by
    rw [fitsIndex_both h1 h2]
    exact Bool.false_ne_true
  have hlong : ¬ Builtin.List.listTooLong (its.toArray.size * k.toNat) = true := by
    rw [notLongL hlen]
    exact Bool.false_ne_true
  have hnew : List.foldl (fun x1 x2 => x1 ++ x2) #[] (List.replicate (if its.toArray.isEmpty = true then 0 else k.toNat) its.toArray) = (List.replicate k.toNat its).flatten.toArray := by
    have f0 : ∀ m : Nat, List.foldl (fun x1 x2 => x1 ++ x2) #[] (List.replicate m its.toArray) = (List.replicate m its).flatten.toArray := fun m => by
      have := foldl_rep its m []
      rw [List.nil_append] at this
      exact this
    rw [f0]
    cases its with
    | nil => simp
    | cons a r' => rw [if_neg (by simp)]
  refine wpAny_binaryOp_repeat_ref (T := "list") (U := "int") (by decide) ⟨_, e, rfl⟩ (fun s' => typeIs_int s' k t) noFill_list_mul F.fills_int_mul F.slot_int_rmul repeat_list F.slot_int_index.lookup
    (call_meets F.slot_int_rmul (typeIs_int s k t) F.entry_int_rmul (F.args_int_rmul_2 _ _) (int___rmul___int_list k t l its.toArray n)
      ⟨e, rfl, ⟨_, e, rfl⟩, call_meets F.slot_list_mul ⟨_, e, rfl⟩ F.entry_list_mul (F.args_list_mul_2 _ _) (AutoListH.list___mul___list_int_3 l its.toArray n k t hfit hcap hlong) ⟨e, ?_⟩⟩)
  rw [hnew]
  exact ⟨.ref _, _, I.lnew (t' := s.toks) (r.rep k.toNat) (by rw [len_rep, Nat.mul_comm]; exact hz), rfl, q _ I.fresh⟩

/-! ### del xs[i] -/
end

/-! ### xs[a:b] = ys -/
section
variable {prog : Program} {w : World} {A : Around} {E : Value → Shared → Prop} {s : Shared}
theorem splice_eq (its its2 : List Value) (a c : Nat) : its.toArray.extract 0 a ++ its2.toArray ++ its.toArray.extract c its.toArray.size = (its.take a ++ its2 ++ its.drop c).toArray := by
  apply Array.toList_inj.mp
  first
    | (simp
       exact List.take_of_length_le (by simp))
    | simp [List.take_of_length_le]
    | simp
theorem bounds_run {a c n : Nat} (hac : a ≤ c) (hc : c ≤ n) : sliceBounds (some (a : Int)) (some (c : Int)) none n = ((a : Int), (c : Int), 1) := by
  simp only [sliceBounds, Option.getD_none]
  have h1 : ¬ ((a : Int) < 0) := by omega
  have h2 : ¬ ((c : Int) < 0) := by omega
  simp only [h1, h2, if_false, show (1 : Int) > 0 by decide, if_true]
  congr 1
  · omega
  · congr 1; omega
set_option maxRecDepth 100000 in
theorem setItem_slice {l b sl : Addr} {items new : Array Value} {n n2 : Nat} {vl vu : Value} {a c : Nat} {Q : Unit → Shared → Prop}
    (e : s.heap.get? l = some { cls := .type "list", data := .seq items n }) (e2 : s.heap.get? b = some { cls := .type "list", data := .seq new n2 }) (hne : l ≠ b)
    (hs : s.heap.IsSliceOf sl vl vu .none) (pl : IsPart vl (some (a : Int))) (pu : IsPart vu (some (c : Int))) (hac : a ≤ c) (hc : c ≤ items.size)
    (hsz : items.size + new.size ≤ sizeLine) (h : Q () { s with heap := s.heap.update l (Obj.mapSeq fun xs => xs.extract 0 a ++ new ++ xs.extract c xs.size) }) :
    wpAny (model prog w) A (setItem (.ref l) (.ref sl) (.ref b)) Q E s := by
  have hl : s.heap.IsList l items := PySem.IsL.isList e
  have hb : s.heap.IsList b new := PySem.IsL.isList e2
  obtain ⟨os, hos, hcs, hds⟩ := id hs
  have hTs : s.TypeIs (.ref sl) "slice" := ⟨os, hos, hcs⟩
  have hstep : ¬ ((rawPart none == rawInt 0) = true) := Bool.false_ne_true
  have hsame : Builtin.List.listSameRef (.ref l) (.ref b) = false := by
    unfold Builtin.List.listSameRef
    exact beq_eq_false_iff_ne.mpr hne
  have hmax : (max (a : Int) (c : Int)).toNat = c := by omega
  have hz' : ((fun xs : Array Value => xs.extract 0 a ++ new ++ xs.extract c xs.size) items).size ≤ sizeLine + 1 := by
    simp only [Array.size_append, Array.size_extract]
    omega
  unfold setItem
  try with_reducible refine wpAny_holding ?_
  first | refine wpAny_bind (wpAny_pure ?_) | skip
  refine wpAny_bind (wpAny_sequenceKey hl.typeIs (by decide) ?_)
  refine wpAny_bind (wpAny_callSpecial?_slot (name := Str.ofString "__setitem__") hl.typeIs slot_list_setitem
    (wpAny_call_entry slot_list_setitem hl.typeIs entry_list_setitem ?_ (args_list_setitem _ _ _)))
  show wpAny _ _ (Builtin.List.listSubscript? (.ref sl) >>= _) _ _ s
  refine wpAny_bind ?_
  unfold Builtin.List.listSubscript?
  refine wpAny_bind (wpAny_specialOf hTs slice_no_index ?_)
  simp only [Option.isNone_none, if_true]
  refine wpAny_pure ?_
  show wpAny _ _ (typeOf (.ref sl) >>= _) _ _ s
  refine wpAny_bind (wpAny_typeOf hTs ?_)
  first
    | rw [if_neg (by decide)]
    | refine PySem.W.KFB.if_not (by decide) ?_
  rw [listSliceParts_eq]
  refine wpAny_bind (wpAny_bind (wpAny_field hos hds (x := .none) rfl (wpAny_bind (wpAny_listPart .none ?_))))
  rw [if_neg hstep]
  refine wpAny_bind (wpAny_field hos hds (x := vl) rfl (wpAny_bind (wpAny_listPart pl ?_)))
  refine wpAny_bind (wpAny_field hos hds (x := vu) rfl (wpAny_bind (wpAny_listPart pu (wpAny_pure ?_))))
  first
    | simp only [hsame, Bool.false_eq_true, if_false]
    | refine PySem.W.KFB.if_not hsame ?_
    | (dsimp only
       rw [if_neg (by rw [hsame]; exact Bool.false_ne_true)])
  refine wpAny_bind (m := Builtin.List.listAllItems (.ref b) "must assign iterable to extended slice") ?_
  unfold Builtin.List.listAllItems
  refine wpAny_bind (wpAny_typeOf hb.typeIs ?_)
  first
    | refine PySem.W.KFB.if_so (by decide) ?_
    | rw [if_pos (by decide)]
    | simp only [beq_self_eq_true, Bool.true_or, if_true]
  unfold Builtin.List.listItems
  refine wpAny_bind (wpAny_seqItems e2 rfl (wpAny_pure ?_))
  refine wpAny_bind (wpAny_bind (wpAny_seqItems e rfl (wpAny_pure ?_)))
  refine wpAny_bind (wpAny_of_eq ((sliceIndices_raw (some (a : Int)) (some (c : Int)) none items.size (by simp)).trans (congrArg (pure : Int × Int × Int → Sem (Int × Int × Int)) (bounds_run hac hc))) ?_)
  show wpAny _ _ (if ((1 : Int) == 1) = true then _ else _) _ _ s
  rw [if_pos (by decide)]
  refine wpAny_bind (wpAny_rule ?_)
  first
    | simp only [notLongL hsz, Bool.false_eq_true, if_false]
    | refine PySem.W.KFB.if_not (notLongL hsz) ?_
  first | refine wpAny_bind (wpAny_pure ?_) | skip
  show wpAny _ _ (updateSeq l (fun xs => xs.extract 0 ((a : Int)).toNat ++ new ++ xs.extract (max (a : Int) (c : Int)).toNat xs.size) >>= _) _ _ s
  rw [hmax, Int.toNat_natCast]
  refine wpAny_bind (wpAny_updateSeq (hz := Nat.le_trans (Nat.le_add_right _ _) hsz) (_hz' := hz') e rfl ?_)
  refine wpAny_bind (wpAny_letGo ?_)
  first
    | exact wpAny_bind (wpAny_pure (wpAny_pure ⟨.none, rfl, wpAny_pure h⟩))
    | exact wpAny_pure ⟨.none, rfl, wpAny_pure h⟩
end

section
variable {X : Cx}
theorem set_slice {pins : List (Addr × Obj)} {s : Shared} {σ : St} {H : Hp} {l b sl : Addr} {xs ys : List V} {a c : Int} {vl vu : Value} {Q : Unit → Shared → Prop} (I : Inv X pins σ H s)
    (hH : H l = some (.lst xs)) (hB : H b = some (.lst ys)) (hne : l ≠ b) (hs : s.heap.IsSliceOf sl vl vu .none) (ra : RelV (.int a) vl) (rc : RelV (.int c) vu) (h0 : 0 ≤ a) (hac : a ≤ c) (hc : c ≤ xs.length)
    (hz : xs.length + ys.length ≤ sizeLine) (h : ∀ s', Inv X pins σ (upd H l (.lst (xs.take a.toNat ++ ys ++ xs.drop c.toNat))) s' → Q () s') :
    wpAny (model X.prog X.w) X.A (setItem (.ref l) (.ref sl) (.ref b)) Q X.xe s := by
  obtain ⟨ta, rfl⟩ := ra
  obtain ⟨tc, rfl⟩ := rc
  obtain ⟨z, its, n, r, hl, e⟩ := I.lstM hH
  obtain ⟨z2, its2, n2, r2, hl2, e2⟩ := I.lstM hB
  obtain ⟨a', rfl⟩ := Int.eq_ofNat_of_zero_le h0
  obtain ⟨c', rfl⟩ := Int.eq_ofNat_of_zero_le (Int.le_trans h0 hac)
  simp only [Int.toNat_natCast] at h
  refine setItem_slice (a := a') (c := c') e e2 hne hs (.int _ _) (.int _ _) (by omega) (by rw [List.size_toArray]; omega) (by rw [List.size_toArray, List.size_toArray]; omega) (h _ ?_)
  refine I.lset (its' := its.take a' ++ its2 ++ its.drop c') (t' := s.toks) hH e ?_ (Vals.append (Vals.append (r.take _) r2) (r.drop _)) ?_
  · exact splice_eq its its2 a' c'
  · rw [List.length_append, List.length_append, List.length_take, List.length_drop]
    omega
end
end L2

namespace Att
open PySem PySem.W PySem.Calls PyProof.Rows

/-! ### the script -/
theorem ints_of_wellAll {P : Params} {h : Heap} : ∀ (ns : List Int) (vs : List Value), WellAll P h vs (ns.map WData.int) → IntsAre vs ns := by
  intro ns
  induction ns with
  | nil =>
    intro vs w
    rw [List.map_nil] at w
    cases w
    exact .nil
  | cons n ns ih =>
    intro vs w
    rw [List.map_cons] at w
    cases w with
    | cons a b =>
      cases a
      exact .cons _ _ (ih _ b)

theorem script_of {l : OpenLaw} {n : Nat} (hn : l.most = some n) {P : Params} {h : Heap} {args : List WData} {vals : List Value}
    (hpre : l.row.toRowW.claim.pre args = true) (hwl : WellAll P h vals args) :
    ∃ a vs ns, vals = [Value.ref a] ∧ args = [WData.list (ns.map WData.int)] ∧ h.get? a = some { cls := .type "list", data := .seq vs.toArray } ∧ IntsAre vs ns ∧ ns.length ≤ n := by
  have hsh : WShape.hasAll [] args [.list .int] = true := (pre_splitW hpre).1
  have hc : l.pre.holds [] { args := args } = true := (pre_splitW hpre).2
  obtain ⟨d, r, rfl, h1, h2⟩ := hasAllW_cons hsh
  obtain rfl := hasAllW_nil h2
  obtain ⟨xs, rfl, h3⟩ := hasW_list h1
  obtain ⟨ns, rfl⟩ := items_int h3
  have hlen : ns.length ≤ n := by
    unfold OpenLaw.pre at hc
    have h4 : (WTm.not (.lt (.lit (.int (n : Int))) (.len (.arg 0)))).holds [] { args := [.list (ns.map .int)] } = true := by
      have h4 := (holds_andW hc).1
      rw [hn] at h4
      exact h4
    have h5 := condW_of h4 (w_not (w_lt w_lit (w_len_list (w_arg rfl))))
    rw [List.length_map] at h5
    refine Nat.le_of_not_lt fun q => ?_
    have q' : (n : Int) < ((ns.length : Nat) : Int) := by omega
    first
      | (rw [decide_eq_true q'] at h5; exact absurd h5 (by decide))
      | (simp at h5; omega)
  cases hwl with
  | cons w1 w2 =>
    cases w2
    cases w1 with
    | list ho hall => exact ⟨_, _, ns, rfl, rfl, ho, ints_of_wellAll ns _ hall, hlen⟩

theorem post_true (l : OpenLaw) (args : List WData) : l.row.toRowW.claim.post args (.bool true) args = true :=
  postW_of (r := l.row.toRowW) (X := (true == true))
    (show WShape.has [] (.bool true) .bool = true by first | rfl | decide | simp [WShape.has, WShape.arms, WShape.armsAll])
    (show (WTm.eq .res (.lit (.bool true))).value [] { args := args, res := some (.bool true), after := args } = some (.bool (true == true)) from w_eq_bool (w_res rfl) w_lit) rfl

/-! ### the attachment: holds_open's last premise (the goal 'hc' behind k_head) from a wpAny of the law's body -/



/-! ### rules over ANY heap (no ledger) from facts about the written part K: the library's own take a ledger (News) for what they write -/
section
variable {prog : Program} {w : World} {A : Around} {E : Value → Shared → Prop} {s : Shared} {K : Frag}





/-! the whole heap as the ledger: makes every rule that writes through a ledger a rule over any heap -/

end
end Att

namespace L2
open PySem PySem.Spec PyProof.Rows

theorem vals_ints : ∀ {vs : List Value} {ns : List Int}, IntsAre vs ns → Vals (ns.map V.int) vs
  | _, _, .nil => .nil
  | _, _, .cons n t h => .cons ⟨t, rfl⟩ (vals_ints h)

def Only (H : Hp) : Prop := ∀ b, H b = none ∨ ∃ o xs, H b = some (.frz o (.lst xs))

theorem law_call {P : Program} {w : World} {K : PySem.W.Frag} {mg mb : Str → Option Value} {CX : CXT} {k : Nat} {fa a : Addr} {fd : FuncData} {x : Str} {sp : Sp} {s₁ : Shared} {vs : List Value} {ns : List Int}
    (KX : K.In s₁.heap) (hns : s₁.heap.Ns mainGlobals mg) (hb : s₁.heap.Ns builtinsNs mb) (hbb : ∀ x : Str, x ≠ "__name__" → mb x = bootBuiltins x) (hlim : s₁.heap.NoLimit) (hg : s₁.gens = #[])
    (ha : s₁.heap.get? a = some { cls := .type "list", data := .seq vs.toArray }) (hi : IntsAre vs ns) (hl : ns.length ≤ sizeLine) (hr : Room k callerA)
    (F : ∀ base : Heap, K.In base → base.Ns mainGlobals mg → FnOk P w K mg base CX k fa fd [x] sp) (hbind : ∀ (s : Shared) (u : Value), BindsTo s fd ⟨[u], []⟩ [(x, u)])
    (hsp : ∀ H : Hp, Only H → SqL K H a (ns.map V.int) → sp [.ref a] H (fun v _ => v = .bl true) fun _ _ _ => False)
    (hCX : ∀ H e s', CX [] H s₁ (fun _ _ _ => False) e s' → False) :
    codeAny (model P w) callerA (.call (.ref fa) ⟨[.ref a], []⟩) (fun r s' => r = .ok (.ret (.bool true)) ∧ OldK s₁.heap s'.heap ∧ s'.os = s₁.os ∧ AllBare s'.gens) s₁ := by
  have rv := vals_ints hi
  have lenV := hi.length
  -- from an abstract heap in which nothing but the script may be tracked
  have core : ∀ H : Hp, Only H → SqL K H a (ns.map V.int) → HOk P w H s₁.heap → (∀ b, H b ≠ none → b = a) → (H a ≠ none → K.lookup a = none) →
      codeAny (model P w) callerA (.call (.ref fa) ⟨[.ref a], []⟩) (fun r s' => r = .ok (.ret (.bool true)) ∧ OldK s₁.heap s'.heap ∧ s'.os = s₁.os ∧ AllBare s'.gens) s₁ := by
    intro H hO hS hok hA hK
    have base_of : ∀ {b : Addr} {o : Obj}, s₁.heap.get? b = some o → H b = none → (hidT s₁.heap H).get? b = some o := fun e n => hidT_get e n
    have noA : ∀ {b : Addr} {o : Obj} {es : Array DictEntry} {ep : Nat}, s₁.heap.get? b = some o → o.data = .dict es ep → H b = none := fun {b o es ep} e d => by
      cases q : H b with
      | none => rfl
      | some u =>
        have e' : b = a := hA b (by rw [q]; simp)
        subst e'
        rw [ha] at e; cases e
        have d' : Data.seq vs.toArray _ = Data.dict es ep := d
        cases d'
    have nsK : ∀ {b : Addr} {m : Str → Option Value}, s₁.heap.Ns b m → (hidT s₁.heap H).Ns b m := fun {b m} ⟨o, es, ep, e, d, r⟩ => ⟨o, es, ep, base_of e (noA e d), d, r⟩
    have hKb : K.In (hidT s₁.heap H) := fun b o e => base_of (KX b o e) (by
      cases q : H b with
      | none => rfl
      | some u =>
        have e' : b = a := hA b (by rw [q]; simp)
        subst e'
        rw [hK (by rw [q]; simp)] at e; cases e)
    have hM : Mod K mg (hidT s₁.heap H) := ⟨hKb, nsK hns, ⟨mb, nsK hb, hbb⟩, let ⟨mc, h1, h2⟩ := hlim; ⟨mc, nsK h1, h2⟩⟩
    have e0 : Env0 P w K mg (hidT s₁.heap H) callerA [] s₁ H := ⟨rfl, hM, fun b o e => of_hidT e, Nat.le_of_eq (hidT_size _ _), trivial, fun b hb => absurd (show b ∈ ([] : List Addr) from hb) (by simp), hok, .of_eq hg⟩
    refine codeAny_mono ((F _ hKb (nsK hns)).run callerA [] s₁ H ⟨[.ref a], []⟩ [.ref a] [.ref a] _ _ hr e0 (hbind s₁ (.ref a)) (.cons rfl .nil) (hsp H hO hS)) fun r s' h => ?_
    cases r with
    | error e => exact (hCX H e s' h).elim
    | ok fl =>
      cases fl with
      | next => exact False.elim h
      | brk => exact False.elim h
      | cont => exact False.elim h
      | ret u =>
        obtain ⟨v, H', os, bare, un, hok', r', q⟩ := h
        have q' : v = .bl true := q
        subst q'
        obtain rfl : u = Value.bool true := r'
        refine ⟨rfl, OldK.of_keep fun b o e => ?_, os, bare⟩
        cases q : H b with
        | none => exact un.keep b o e q (by intro z; exact absurd (show b ∈ ([] : List Addr) from z) (by simp)) (by simp)
        | some u =>
          rcases hO b with z | ⟨ob, xs, z⟩
          · rw [q] at z; cases z
          · have z2 := un.frzs b ob _ z
            obtain ⟨e1, _⟩ := hok b _ z
            obtain ⟨e2, _⟩ := hok' b _ z2
            rw [e] at e1; cases e1
            exact e2
  cases hk : K.lookup a with
  | some o =>
    -- the script is one of the module's own objects
    have e := KX a o hk
    rw [ha] at e
    cases e
    refine core (fun _ => none) (fun _ => .inl rfl) (.inr ⟨_, vs.toArray, _, hk, rfl, rfl, rfl, by rw [List.size_toArray, lenV]; exact hl, by simpa using rv⟩) (fun b u z => by have z' : (none : Option HO) = some u := z; cases z') (fun b z => absurd rfl z) fun z => absurd rfl z
  | none =>
    refine core (fun b => if b = a then some (.frz { cls := .type "list", data := .seq vs.toArray } (.lst (ns.map V.int))) else none) (fun b => ?_) (.inl (.inr ⟨{ cls := .type "list", data := .seq vs.toArray }, if_pos rfl⟩)) (fun b u z => ?_) (fun b z => ?_) fun _ => hk
    · by_cases hb : b = a
      · exact .inr ⟨_, _, if_pos hb⟩
      · exact .inl (if_neg hb)
    · by_cases hb : b = a
      · have z' := (if_pos hb).symm.trans z
        cases z'
        subst hb
        exact ⟨ha, by rw [List.length_map]; exact hl, vs, _, rv, ha⟩
      · have z' := (if_neg hb).symm.trans z
        cases z'
    · by_cases hb : b = a
      · exact hb
      · exact absurd (if_neg hb) z
end L2

namespace L2
open PySem PySem.Spec PyProof.Rows


end L2

/- THE LAST THEOREM (shape; LID, My.* are yours):
   My.Adr: a structure of the addresses that your layer names (classes, functions); My.Txt K t: a structure (Prop) of the equations over K;
   My.txt_mk : {K} {implicit addresses ..} (e1 : nsIn K mainGlobals "law" = some (some (.ref f))) (e2 : K.lookup f = some ⟨oc, od, .func (fnOf "law" "law" params body scope dV kV doc pm an cdv ct), sl⟩) (e3 : codeIn K cdv "law" = true) .. : ∃ t, My.Txt K t

set_option maxRecDepth 100000 in
set_option maxHeartbeats 0 in
theorem PySem.Challenge.cw_LID_holds : PySem.Challenge.rw_LID.Holds := by
  w_on; o_law; k_head; (case hw => w_witness2)
  k_fill
  refine L2.walk_of (l := PySem.Challenge.rw_LID) (n := 63) (k := 40) (x := "script") (CX := fun w => ..) (sp := fun _ => My.sp_law) rfl (by decide) rfl ⟨rfl, by decide, by decide⟩ (fun w h Y => PySem.W.kIn_of Y) ?F ?S ?C
  case F =>
    intro w mg fa h KX G hmg
    have T : ∃ t, My.Txt (L2.KOf KX) t := by
      dsimp only [L2.KOf]                          -- K must stand as «<heap const> w.params» for k_is
      refine' My.txt_mk ?e1 ?e2 ?e3 ..
      (case e1 => PySem.W.k_is)                    -- in the order: a name -> its address -> its object -> its parts
      (case e2 => PySem.W.k_is)
      ..
    obtain ⟨t, T⟩ := T
    have e0 := hmg.symm.trans (PySem.W.mg_of KX G T.law)
    cases e0                                       -- fa is the law's own address
    exact ⟨_, fun s u => .of_eq rfl, fun base kb nb => My.law_fn T kb nb⟩     -- if «.of_eq rfl» comes too early: refine' ⟨_, ?b, fun base kb nb => My.law_fn T kb nb⟩; exact fun s u => .of_eq rfl
  case S => exact fun w H a ns hl hO hS => ..
  case C => exact ..
(the tactic k_is has no namespace: write k_is) -/

/-! SHORT WORDS over the layer: a def of the text, its body, what a loop and a test want. -/
namespace L2
open PySem PySem.Spec PyProof.Rows

/-! ### the text by places -/
def defArgs (s : Stmt) : Arguments := match s with
  | .FunctionDef _ a _ _ _ _ _ _ _ _ => a
  | _ => { posonlyargs := [], args := [], vararg := none, kwonlyargs := [], kw_defaults := [], kwarg := none, defaults := [] }
def defBody (s : Stmt) : List Stmt := match s with
  | .FunctionDef _ _ b _ _ _ _ _ _ _ => b
  | _ => []
def defScope (s : Stmt) : Scope := match s with
  | .FunctionDef _ _ _ _ _ _ sc _ _ _ => sc
  | _ => { kind := .function, names := [], isGenerator := false, isCoroutine := false }

/-! ### no exception leaves a def -/
abbrev CX0 : CXT := fun _ _ _ _ _ _ => False
abbrev E0 : XK := fun _ _ _ => False
theorem pass0 {X : Cx} : Passes CX0 X E0 := fun _ _ _ _ _ _ _ h => h.elim

/-! ### a def (or method) of the text as it stands behind the top -/
structure Fun (K : PySem.W.Frag) (x qual : Str) (st : Stmt) (f : Addr) (fd : FuncData) : Prop where
  ex : ∃ (oc : Value) (od : Option Addr) (kV doc pm : Value) (an : Option Addr) (cdv ct : Value) (osl : Array (Option Value)),
    fd = PySem.W.fnOf x qual (defArgs st) (defBody st) (defScope st) .none kV doc pm an cdv ct ∧ K.lookup f = some ⟨oc, od, .func fd, osl⟩ ∧ PySem.W.codeIn K cdv qual = true
  kp : PySem.W.keepIn K (.ref f) = true
section
variable {P : Program} {w : World} {K : PySem.W.Frag} {mg : Str → Option Value} {base : Heap}
theorem Fun.ok {x qual : Str} {st : Stmt} {f : Addr} {fd : FuncData} {N ps : List Str} {k : Nat} {sp : Sp} (F : Fun K x qual st f fd) (S : FnScope N ps (defScope st)) (len : ∀ vs H Q E, sp vs H Q E → vs.length = ps.length)
    (hbody : ∀ (cdv : Value) (A : Around) (outer : List Env) (s : Shared) (H : Hp) (vs : List V) (Q : VK) (E : XK), Room k (A.deeper (envOfC qual (defScope st) s.heap.objs.size f cdv)) → sp vs H Q E →
      ∃ t, PSs (cxOf CX0 P w K mg base N qual (defScope st) f cdv A outer s H E).nox (defBody st) t ∧ t { nx := fun _ H' => Q .non H', rt := Q } (start N vs) H) : FnOk P w K mg base CX0 (k + 1) f fd ps sp := by
  obtain ⟨oc, od, kV, doc, pm, an, cdv, ct, osl, rfl, lk, hcd⟩ := F.ex
  refine fn_of lk hcd S len fun A outer s H vs Q E hr hsp => ?_
  obtain ⟨t, h, q⟩ := hbody cdv A outer s H vs Q E hr hsp
  exact ⟨t, h.nox, q⟩
theorem Fun.binds {x qual : Str} {st : Stmt} {f : Addr} {fd : FuncData} {ps : List Str} (F : Fun K x qual st f fd)
    (h : ∀ (kV doc pm : Value) (an : Option Addr) (cdv ct : Value) (us : List Value), us.length = ps.length → bindArgs (PySem.W.fnOf x qual (defArgs st) (defBody st) (defScope st) .none kV doc pm an cdv ct) ⟨us, []⟩ = pure (ps.zip us)) : Binds K fd ps [] := by
  obtain ⟨oc, od, kV, doc, pm, an, cdv, ct, osl, rfl, lk, hcd⟩ := F.ex
  exact .all (h kV doc pm an cdv ct)
theorem fun_mk {x qual : Str} {st : Stmt} {f : Addr} {oc : Value} {od an : Option Addr} {osl : Array (Option Value)} {kV doc pm cdv ct : Value} (l : K.lookup f = some ⟨oc, od, .func (PySem.W.fnOf x qual (defArgs st) (defBody st) (defScope st) .none kV doc pm an cdv ct), osl⟩)
    (c : PySem.W.codeIn K cdv qual = true) (k : PySem.W.keepIn K (.ref f) = true) : Fun K x qual st f (PySem.W.fnOf x qual (defArgs st) (defBody st) (defScope st) .none kV doc pm an cdv ct) := ⟨⟨oc, od, kV, doc, pm, an, cdv, ct, osl, rfl, l, c⟩, k⟩
end
theorem small1000 {n : Nat} (h : n ≤ 1000) : n < sizeLine := Nat.lt_of_le_of_lt h (by decide)

/-! ### expressions in short: the name that stands in the i-th slot -/
section
variable {X : Cx}
theorem pv (i : Nat) {x : Str} {pos : Pos} (hN : X.N[i]? = some x := by rfl) (hv : Vis X.env.scope x := by first | exact Or.inl rfl | exact Or.inr (Or.inl rfl) | exact Or.inr (Or.inr rfl)) (hd : (x == ("__debug__" : Str)) = false := by decide)
    (hcd : (x == ("__classdict__" : Str)) = false := by decide) : PE X (.Name x pos) (tVar i) := pe_var hN hv hd hcd
end

/-! ### tests -/
theorem ite2 {c A B : Prop} [Decidable c] (h1 : c → A) (h2 : ¬ c → B) : if c then A else B := by
  by_cases h : c
  · rw [if_pos h]
    exact h1 h
  · rw [if_neg h]
    exact h2 h

/-! ### heaps -/
def Same (H H' : Hp) : Prop := ∀ b o, H b = some o → H' b = some o
theorem Same.refl (H : Hp) : Same H H := fun _ _ h => h
theorem Same.trans {H H1 H2 : Hp} (a : Same H H1) (b : Same H1 H2) : Same H H2 := fun c o h => b c o (a c o h)
theorem Same.free {H H' : Hp} (e : Same H H') {l : Addr} (h : H' l = Option.none) : H l = Option.none := by
  cases q : H l with
  | none => rfl
  | some o =>
    rw [e l o q] at h
    cases h

end L2

set_option Elab.async false
set_option linter.all false
set_option maxRecDepth 100000
namespace L2
open PySem PySem.Spec PyProof.Rows

/-! a list comprehension with one clause, run over the layer's own judgements -/
def cxComp (X : Cx) (scope : Scope) (cl : List (Str × Addr)) (N : List Str) (C : Addr) (s : Shared) (H : Hp) (ex : List Addr) : Cx where
  prog := X.prog
  w := X.w
  K := X.K
  mg := X.mg
  base := X.base
  A := X.A
  N := N
  s₀ := s
  H₀ := H
  env := compEnvC scope cl C X.env
  outer := X.stack
  stack := X.stack
  ex := ex
  calm := X.calm
  fn := fun _ => false
  pn := []
  xe := fun _ _ => False

def maskS : List Bool → St → St
  | true :: ms, v :: σ => v :: maskS ms σ
  | false :: ms, _ :: σ => none :: maskS ms σ
  | [], _ :: σ => none :: maskS [] σ
  | _, [] => []
theorem maskS_length : ∀ (ms : List Bool) (σ : St), (maskS ms σ).length = σ.length
  | true :: ms, v :: σ => by simp [maskS, maskS_length ms σ]
  | false :: ms, _ :: σ => by simp [maskS, maskS_length ms σ]
  | [], _ :: σ => by simp [maskS, maskS_length [] σ]
  | [], [] => by simp [maskS]
  | true :: _, [] => by simp [maskS]
  | false :: _, [] => by simp [maskS]
theorem maskS_get : ∀ {ms : List Bool} {σ : St} {i : Nat} {v : V}, (maskS ms σ)[i]? = some (some v) → ms[i]? = some true ∧ σ[i]? = some (some v)
  | true :: ms, v :: σ, 0, x, h => by simpa [maskS] using h
  | true :: ms, v :: σ, i + 1, x, h => by
    have := maskS_get (ms := ms) (σ := σ) (i := i) (v := x) (by simpa [maskS] using h)
    simpa using this
  | false :: ms, _ :: σ, 0, x, h => by simp [maskS] at h
  | false :: ms, _ :: σ, i + 1, x, h => by
    have := maskS_get (ms := ms) (σ := σ) (i := i) (v := x) (by simpa [maskS] using h)
    simpa using this
  | [], _ :: σ, 0, x, h => by simp [maskS] at h
  | [], _ :: σ, i + 1, x, h => by
    have := maskS_get (ms := []) (σ := σ) (i := i) (v := x) (by simpa [maskS] using h)
    simpa using this
  | [], [], _, _, h => by simp [maskS] at h
  | true :: _, [], _, _, h => by simp [maskS] at h
  | false :: _, [], _, _, h => by simp [maskS] at h
def compS (ms : List Bool) (k : Nat) (σ : St) : St := maskS ms σ ++ List.replicate k none
theorem compS_get {ms : List Bool} {k : Nat} {σ : St} {i : Nat} {v : V} (h : (compS ms k σ)[i]? = some (some v)) : i < σ.length ∧ ms[i]? = some true ∧ σ[i]? = some (some v) := by
  unfold compS at h
  by_cases hi : i < (maskS ms σ).length
  · rw [List.getElem?_append_left hi] at h
    exact ⟨by rwa [maskS_length] at hi, maskS_get h⟩
  · rw [List.getElem?_append_right (by omega), List.getElem?_replicate] at h
    split at h <;> cases h

structure CompSc (X : Cx) (scope : Scope) (cl : List (Str × Addr)) (ms : List Bool) (extra : List Str) : Prop where
  kind : scope.kind = .function
  ncell : ∀ y ∈ scope.names, y.2 ≠ .cell
  names : ∀ y ∈ scope.names, y.2 = .local → scope.names.lookup y.1 = some .local
  clos : closureFor scope X.env = pure cl
  sub : ∀ x c, cl.lookup x = some c → X.env.cells.lookup x = some c
  has : ∀ x, scope.names.lookup x = some .free → ∃ c, cl.lookup x = some c
  fr : ∀ x, scope.names.lookup x = some .free → X.env.scope.names.lookup x = some .cell ∨ X.env.scope.names.lookup x = some .free
  mask : ∀ (i : Nat) (x : Str), ms[i]? = some true → X.N[i]? = some x → scope.names.lookup x = some .free
  mlen : ms.length ≤ X.N.length

theorem relabel_look {env : Env} : ∀ {names : List (Str × NameKind)} {x : Str} {k : NameKind},
    (names.map fun (n, k) => if (k == NameKind.free && env.scope.kind == .function && env.kindOf n == some .cell) then (n, NameKind.cell) else (n, k)).lookup x = some k → (∀ y ∈ names, y.2 ≠ .cell) → k = .cell ∨ k = .free → names.lookup x = some .free
  | [], _, _, h, _, _ => by simp at h
  | (n, k0) :: r, x, k, h, hc, hk => by
    have ih := @relabel_look env r x k
    have h : List.lookup x ((if (k0 == NameKind.free && env.scope.kind == .function && env.kindOf n == some .cell) = true then (n, NameKind.cell) else (n, k0)) :: _) = some k := h
    cases hx : x == n with
    | true =>
      by_cases hq : (k0 == NameKind.free && env.scope.kind == .function && env.kindOf n == some .cell) = true
      · have : k0 = .free := by
          simp at hq
          exact hq.1.1
        subst this
        simp [List.lookup_cons, hx]
      · rw [if_neg hq] at h
        simp only [List.lookup_cons, hx] at h
        cases h
        rcases hk with rfl | rfl
        · exact absurd rfl (hc (n, .cell) List.mem_cons_self)
        · simp [List.lookup_cons, hx]
    | false =>
      by_cases hq : (k0 == NameKind.free && env.scope.kind == .function && env.kindOf n == some .cell) = true
      · rw [if_pos hq] at h
        simp only [List.lookup_cons, hx] at h ⊢
        exact ih h (fun y hy => hc y (List.mem_cons_of_mem _ hy)) hk
      · rw [if_neg hq] at h
        simp only [List.lookup_cons, hx] at h ⊢
        exact ih h (fun y hy => hc y (List.mem_cons_of_mem _ hy)) hk
theorem relabel_free {env : Env} : ∀ {names : List (Str × NameKind)} {x : Str}, names.lookup x = some .free →
    (names.map fun (n, k) => if (k == NameKind.free && env.scope.kind == .function && env.kindOf n == some .cell) then (n, NameKind.cell) else (n, k)).lookup x = some .cell ∨
    (names.map fun (n, k) => if (k == NameKind.free && env.scope.kind == .function && env.kindOf n == some .cell) then (n, NameKind.cell) else (n, k)).lookup x = some .free
  | [], _, h => by simp at h
  | (n, k0) :: r, x, h => by
    have ih := @relabel_free env r x
    show List.lookup x ((if (k0 == NameKind.free && env.scope.kind == .function && env.kindOf n == some .cell) = true then (n, NameKind.cell) else (n, k0)) :: _) = _ ∨ List.lookup x ((if (k0 == NameKind.free && env.scope.kind == .function && env.kindOf n == some .cell) = true then (n, NameKind.cell) else (n, k0)) :: _) = _
    cases hx : x == n with
    | true =>
      simp only [List.lookup_cons, hx] at h
      cases h
      split
      · left; simp [List.lookup_cons, hx]
      · right; simp [List.lookup_cons, hx]
    | false =>
      simp only [List.lookup_cons, hx] at h
      split <;> (simp only [List.lookup_cons, hx]; exact ih h)

section
variable {X : Cx} {pins : List (Addr × Obj)} {σ : St} {H H2 : Hp} {s s2 : Shared} {scope : Scope} {cl : List (Str × Addr)} {ms : List Bool} {extra : List Str}

theorem compOk (I : Inv X pins σ H s) (S : CompSc X scope cl ms extra) {fp : List Addr} (hfp : ∀ b ∈ fp, FpOk X pins H b) (hlt : ∀ b ∈ fp, b < s.heap.objs.size) {C : Addr} (hC : s.heap.objs.size ≤ C) :
    (cxComp X scope cl (X.N ++ extra) C s H fp).Ok where
  mod := I.ok.mod
  kind := S.kind
  glob := I.ok.glob
  blt := I.ok.blt
  above := hC
  inj := fun x y c h1 h2 => I.ok.inj x y c (S.sub x c h1) (S.sub y c h2)
  has := fun x hx => S.has x (relabel_look (env := X.env) (k := if (cxComp X scope cl (X.N ++ extra) C s H fp).env.kindOf x = some .cell then .cell else .free) (by
    rcases hx with hx | hx
    · rw [if_pos hx]; exact hx
    · rw [if_neg (by rw [hx]; decide)]; exact hx) S.ncell (by split <;> simp))
  cab := fun x c h => by cases h
  hd := I.ok.hd
  frames := I.ok.frames
  stk := .inl rfl
  exf := fun b hb => ⟨Nat.ne_of_lt (Nat.lt_of_lt_of_le (hlt b hb) hC), fun x c e => (hfp b hb).2.2.2.2.1 x c (S.sub x c e)⟩
  bs := I.bs
  bsz := Nat.le_trans I.ok.bsz I.sz
  noex := fun b o e hb => by
    rcases (hfp b hb).2.2.2.1 with z | z
    · exact I.ok.noex b o e z
    · exact absurd (Nat.lt_of_lt_of_le (Heap.lt_size e) (Nat.le_trans I.ok.bsz z)) (Nat.lt_irrefl _)
  exfs := fun b hb z => by
    rcases List.mem_cons.mp (I.stkSub b z) with e | e
    · exact (hfp b hb).2.1 e
    · exact (hfp b hb).2.2.1 e
  funs := I.stack
  frf := I.stkFree

theorem compInv (I : Inv X pins σ H s) (S : CompSc X scope cl ms extra) {fp : List Addr} (hfp : ∀ b ∈ fp, FpOk X pins H b) (hlt : ∀ b ∈ fp, b < s.heap.objs.size) {C : Addr} (hC : s.heap.objs.size ≤ C)
    (os : s2.os = s.os) (bare : AllBare s2.gens) (keep : ∀ b o, s.heap.get? b = some o → s2.heap.get? b = some o) {m : Str → Option Value} (hn : s2.heap.Ns C m) :
    Inv (cxComp X scope cl (X.N ++ extra) C s H fp) [] (compS ms extra.length σ) H s2 where
  ok := compOk I S hfp hlt hC
  os := os
  bare := bare
  base := Un.kept keep
  loc := ⟨m, hn, fun i x v h1 h2 h3 => by
    obtain ⟨hi, hm, hv⟩ := compS_get h2
    have hiN : i < X.N.length := by rw [← I.len]; exact hi
    have hx : X.N[i]? = some x := by
      have h1' : (X.N ++ extra)[i]? = some x := h1
      rwa [List.getElem?_append_left hiN] at h1'
    have hf := S.mask i x hm hx
    obtain ⟨m0, hn0, hl⟩ := I.loc
    obtain ⟨u, r, l⟩ := hl i x v hx hv (by rcases S.fr x hf with z | z <;> simp [Vis, z])
    refine ⟨u, r, .inr ⟨?_, ?_⟩⟩
    · exact relabel_free (env := X.env) hf
    · obtain ⟨c, hc⟩ := S.has x hf
      have hc' := S.sub x c hc
      rcases l with ⟨k, _⟩ | ⟨_, c', e, z⟩
      · rcases S.fr x hf with z | z <;> (have k' : X.env.scope.names.lookup x = some .local := k; rw [z] at k'; cases k')
      · rw [hc'] at e; cases e
        obtain ⟨o, ho, hd⟩ := z
        exact ⟨c, hc, o, keep _ _ ho, hd⟩⟩
  cell := fun x c e => by
    obtain ⟨v, o, ho, hd⟩ := I.cell x c (S.sub x c e)
    exact ⟨v, o, keep _ _ ho, hd⟩
  free := I.hok.fresh hC
  freeC := fun x c e => I.freeC x c (S.sub x c e)
  pin := fun p hp => absurd (show p ∈ ([] : List (Addr × Obj)) from hp) (by simp)
  hok := I.hok.kept keep
  len := by
    unfold compS
    rw [List.length_append, maskS_length, List.length_replicate, I.len]
    show _ = (X.N ++ extra).length
    rw [List.length_append]
end
end L2

set_option Elab.async false
set_option linter.all false
set_option maxRecDepth 100000
namespace L2
open PySem PySem.Spec PyProof.Rows

def PIf (X : Cx) (ifs : List Expr) (t : TT) : Prop :=
  ∀ (pins : List (Addr × Obj)) (s : Shared) (σ : St) (H : Hp) (Q : Bool → Hp → Prop), Inv X pins σ H s → t σ H Q →
    wpAny (model X.prog X.w) X.A (forIn ifs true fun c r => if r = true then do let ok ← isTrue c X.env (eval c X.env); pure (ForInStep.yield ok) else pure (ForInStep.yield r)) (TP X pins σ Q) X.xe s
def tYes : TT := fun _ H Q => Q true H
theorem pif_nil {X : Cx} : PIf X [] tYes := fun _ _ _ H _ I h => wpAny_tests_nil ⟨H, I, h⟩
theorem pif_one {X : Cx} {c : Expr} {t : TT} (h : PT X c t) : PIf X [c] t := fun pins s σ H Q I q => wpAny_tests_one (h pins s σ H Q I q)

abbrev lobj (its : List Value) (n : Nat) : Obj := { cls := .type "list", data := .seq its.toArray n }

def CompTurn (J : It) (g : TG) (tc : TT) (te : TE) (W : Nat → Nat → List V → St → Hp → Prop) (Z : List V → Hp → Prop) : Prop :=
  ∀ i m ys σ H, W i m ys σ H → ys.length ≤ sizeLine ∧ ((J.stop i H ∧ Z ys H) ∨
    (J.go i H ∧ ∀ x H', J.yld i H x H' → g x σ H' fun σ2 H2 => tc σ2 H2 fun b H3 => if b = true then te σ2 H3 fun y H4 => ∃ m', m' < m ∧ W (i + 1) m' (ys ++ [y]) σ2 H4 else ∃ m', m' < m ∧ W (i + 1) m' ys σ2 H3))

theorem codeAny_compLoop_any {prog : Program} {w : World} {A : Around} {R : Result → Shared → Prop} {s : Shared} {elt target iter : Expr} {ifs : List Expr} {scope : Scope} {pos : Pos} {it acc : Value} {env : Env} (I : Nat → Shared → Prop)
    (turn : ∀ n s, I n s → wpAny (model prog w) A (pyNext it) (fun r s₁ => match r with
      | none => R (.ok .next) s₁
      | some v => wpAny (model prog w) A (letOwnedTupleGo target it v) (fun _ s₁ => wpAny (model prog w) A (assign target env v) (fun _ s₂ =>
          wpAny (model prog w) A (forIn ifs true fun c r => if r = true then do let ok ← isTrue c env (eval c env); pure (ForInStep.yield ok) else pure (ForInStep.yield r)) (fun ok s₃ =>
            if ok = true then wpAny (model prog w) A (eval elt env) (fun x s₄ =>
              wpAny (model prog w) A (call (.builtin "list.append") [acc, x]) (fun _ s₅ => ∃ m, m < n ∧ I m s₅) (fun _ _ => False) s₄) (fun _ _ => False) s₃
            else ∃ m, m < n ∧ I m s₃) (fun _ _ => False) s₂) (fun _ _ => False) s₁) (fun _ _ => False) s₁) (fun _ _ => False) s)
    (n : Nat) (h : I n s) :
    codeAny (model prog w) A (.compLoop (.ListComp elt [⟨target, iter, ifs, 0⟩] scope pos) 0 it acc env) R s := by
  refine codeAny_loop rfl I (fun n s hI => ?_) n h
  show wpAny _ A ((compTurn (.ListComp elt [⟨target, iter, ifs, 0⟩] scope pos) 0 it acc env).onRaise (fun x => do noteFrame x env; theTreesLotGoes x)) _ _ s
  refine wpAny_noted ?_
  rw [compTurn_list]
  refine wpAny_bind (wpAny_standAt (wpAny_bind (wpAny_mono (turn n s hI) (fun r s₁ h₁ => ?_) fun _ _ h' => h'.elim)))
  cases r with
  | none => exact wpAny_pure h₁
  | some v =>
    refine wpAny_bind (wpAny_mono h₁ (fun _ s1 h₁ => ?_) fun _ _ h' => h'.elim)
    refine wpAny_bind (wpAny_mono h₁ (fun _ s₂ h₂ => wpAny_bind (wpAny_mono h₂ (fun ok s₃ h₃ => ?_) fun _ _ h' => h'.elim)) fun _ _ h' => h'.elim)
    cases ok with
    | false => exact wpAny_pure ⟨rfl, h₃⟩
    | true =>
      exact wpAny_bind (wpAny_bind (wpAny_mono h₃ (fun x s₄ h₄ => wpAny_bind (wpAny_mono h₄ (fun _ s₅ h₅ => wpAny_pure (wpAny_pure ⟨rfl, h₅⟩)) fun _ _ h' => h'.elim)) fun _ _ h' => h'.elim))

section
variable {X : Cx} {pins : List (Addr × Obj)} {σ : St} {H2 : Hp} {s2 : Shared} {scope : Scope} {cl : List (Str × Addr)} {ms : List Bool} {extra : List Str} {tg iter elt : Expr} {ifs : List Expr} {g : TG} {tc : TT} {te : TE} {pos : Pos}

theorem comp_core (S : CompSc X scope cl ms extra) (hcalm : X.calm = true)
    (hg : ∀ C s H ex, PG (cxComp X scope cl (X.N ++ extra) C s H ex) tg g) (hif : ∀ C s H ex, PIf (cxComp X scope cl (X.N ++ extra) C s H ex) ifs tc) (he : ∀ C s H ex, PE (cxComp X scope cl (X.N ++ extra) C s H ex) elt te)
    (I2 : Inv X pins σ H2 s2) {it : Addr} {fp : List Addr} {tn : Nat → Heap → Prop} {J : It} (T : Turn X.prog X.w X.K tg J fp it tn) (st2 : tn 0 s2.heap) (f2 : ∀ b ∈ fp, FpOk X pins H2 b)
    {W : Nat → Nat → List V → St → Hp → Prop} {Z : List V → Hp → Prop} {m0 : Nat} (w0 : W 0 m0 [] (compS ms extra.length σ) H2) (turn : CompTurn J g tc te W Z)
    {RR : Value → Addr → Result → Shared → Prop} {E : Value → Shared → Prop}
    (hRR : ∀ (s' : Shared) (ys : List V) (its : List Value) (n : Nat) (σ' : St) (H' : Hp), Inv (cxComp X scope cl (X.N ++ extra) (s2.heap.objs.size + 1) s2 H2 fp) [(s2.heap.objs.size, lobj its n)] σ' H' s' → Vals ys its → ys.length ≤ sizeLine → Z ys H' →
      RR (.ref s2.heap.objs.size) (s2.heap.objs.size + 1) (.ok .next) s') :
    wpAny (model X.prog X.w) X.A (newList []) (fun acc s₃ => wpAny (model X.prog X.w) X.A (newFunctionEnv scope X.env.globals cl [] X.env.qual none .none (some X.env)) (fun cenv s₄ =>
      codeAny (model X.prog X.w) X.A (.compStart (.ListComp elt [⟨tg, iter, ifs, 0⟩] scope pos) 0 (.ref it) acc { cenv with scope := relabel scope X.env }) (RR acc cenv.locals) s₄) E s₃) E s2 := by
  refine wpAny_newObj_type (wpAny_newFunctionEnv S.ncell (by intro y hy; simp at hy) (fun h₁ hns₁ hsb₁ => ?_) S.kind)
  dsimp only at hns₁ hsb₁ ⊢
  have hsz : (s2.heap.push { cls := .type "list", dict := none, data := .seq ([] : List Value).toArray }).objs.size = s2.heap.objs.size + 1 := by rw [Heap.size_push]
  rw [hsz] at hns₁ hsb₁ ⊢
  have hlt : ∀ b ∈ fp, b < s2.heap.objs.size := fun b hb => by
    obtain ⟨o, e, _⟩ := T.obj _ _ st2 b hb
    exact Heap.lt_size e
  have old : ∀ b o, s2.heap.get? b = some o → h₁.get? b = some o := fun b o e => hsb₁.extBut b o (Nat.ne_of_lt (Nat.lt_succ_of_lt (Heap.lt_size e))) (Heap.get?_push_of_some _ (Heap.get?_push_of_some _ e))
  have hacc : h₁.get? s2.heap.objs.size = some (lobj [] 0) := hsb₁.extBut _ _ (Nat.ne_of_lt (Nat.lt_succ_self _)) (Heap.get?_push_of_some _ (Heap.get?_push_size _ rfl))
  have hDn : H2 s2.heap.objs.size = none := I2.hok.fresh (Nat.le_refl _)
  have hDfs : ∀ b, s2.heap.objs.size ≤ b → b ∉ (cxComp X scope cl (X.N ++ extra) (s2.heap.objs.size + 1) s2 H2 fp).fs := fun b hb z => by
    rcases List.mem_cons.mp (I2.stkSub b z) with e | e
    · subst e; exact absurd (Nat.lt_of_lt_of_le I2.lt hb) (Nat.lt_irrefl _)
    · exact I2.nofs hb e
  have loop : ∀ s₃ : Shared, s₃ = { s2 with heap := h₁, toks := s2.toks + ([] : List (Str × Value)).length } →
      codeAny (model X.prog X.w) X.A (.compLoop (.ListComp elt [⟨tg, iter, ifs, 0⟩] scope pos) 0 (.ref it) (.ref s2.heap.objs.size) (compEnvC scope cl (s2.heap.objs.size + 1) X.env)) (RR (.ref s2.heap.objs.size) (s2.heap.objs.size + 1)) s₃ := by
    rintro s₃ rfl
    have I3 : Inv (cxComp X scope cl (X.N ++ extra) (s2.heap.objs.size + 1) s2 H2 fp) [] (compS ms extra.length σ) H2 { s2 with heap := h₁, toks := s2.toks + ([] : List (Str × Value)).length } :=
      compInv I2 S f2 hlt (Nat.le_succ _) rfl I2.bare old hns₁
    have fpc : ∀ {H : Hp} {n : Nat} {its : List Value}, (∀ b ∈ fp, H b = none) → ∀ b ∈ fp, FpOk (cxComp X scope cl (X.N ++ extra) (s2.heap.objs.size + 1) s2 H2 fp) [(s2.heap.objs.size, lobj its n)] H b := fun hn b hb =>
      ⟨hn b hb, Nat.ne_of_lt (Nat.lt_succ_of_lt (hlt b hb)), (compOk I2 S f2 hlt (Nat.le_succ _)).exfs b hb, .inl hb, fun x c e => (f2 b hb).2.2.2.2.1 x c (S.sub x c e), fun p hp => by
        have : p = (s2.heap.objs.size, _) := List.mem_singleton.mp (show p ∈ [(s2.heap.objs.size, _)] from hp)
        subst this
        exact Nat.ne_of_gt (hlt b hb)⟩
    refine codeAny_compLoop_any (env := compEnvC scope cl (s2.heap.objs.size + 1) X.env)
      (fun n s' => ∃ i ys its nn σ' H', Inv (cxComp X scope cl (X.N ++ extra) (s2.heap.objs.size + 1) s2 H2 fp) [(s2.heap.objs.size, lobj its nn)] σ' H' s' ∧ Vals ys its ∧ tn i s'.heap ∧ (∀ b ∈ fp, H' b = none) ∧ W i n ys σ' H') ?_ m0
      ⟨0, [], [], 0, _, H2, I3.pins_of fun p hp => ?_, .nil, T.keep _ _ _ st2 fun b _ o e => old b o e, fun b hb => (f2 b hb).1, w0⟩
    · rintro n s' ⟨i, ys, its, nn, σ', H', I4, rv, st4, fr4, w4⟩
      obtain ⟨hz, h⟩ := turn i n ys σ' H' w4
      rcases h with ⟨stop, hZ⟩ | ⟨go, step⟩
      · refine thn (T.done (cxComp X scope cl (X.N ++ extra) (s2.heap.objs.size + 1) s2 H2 fp) rfl rfl rfl hcalm i _ s' _ H' (fun _ _ => False) I4 (fpc fr4) st4 stop) fun r s4 ⟨hr, I5⟩ => ?_
        subst hr
        exact hRR s4 ys its nn σ' H' I5 rv hz hZ
      · refine thn (T.item (cxComp X scope cl (X.N ++ extra) (s2.heap.objs.size + 1) s2 H2 fp) rfl rfl rfl hcalm i _ s' _ H' (fun _ _ => False) I4 (fpc fr4) st4 go) fun r s5 ⟨u, hr, h5⟩ => ?_
        subst hr
        refine thn h5 fun _ s6 ⟨x, H6, I6, r6, y6, st6, fr6⟩ => ?_
        have I6' := I6.pinned (fpc fr6) (T.obj _ _ st6)
        refine thn (hg _ _ _ _ _ s6 _ H6 x u _ I6' r6 (step x H6 y6)) fun _ s7 ⟨σ7, H7, I7, q7⟩ => ?_
        refine thn (hif _ _ _ _ _ s7 σ7 H7 _ I7 q7) fun ok s8 ⟨H8, I8, q8⟩ => ?_
        have keepfp : ∀ {σ9 : St} {H9 : Hp} {s9 : Shared}, Inv (cxComp X scope cl (X.N ++ extra) (s2.heap.objs.size + 1) s2 H2 fp) ([(s2.heap.objs.size, lobj its nn)] ++ pinsAt fp s6.heap) σ9 H9 s9 → tn (i + 1) s9.heap ∧ ∀ b ∈ fp, H9 b = none := fun {σ9 H9 s9} I9 =>
          ⟨T.keep _ _ _ st6 fun b hb o e => (I9.pin (b, o) (List.mem_append_right _ (List.mem_append_right _ (mem_pinsAt hb e)))).1, fun b hb => by
            obtain ⟨o, e, d⟩ := T.obj _ _ st6 b hb
            exact (I9.pin (b, o) (List.mem_append_right _ (List.mem_append_right _ (mem_pinsAt hb e)))).2.1⟩
        cases ok with
        | false =>
          obtain ⟨m', hm, w8⟩ := q8
          obtain ⟨a8, b8⟩ := keepfp I8
          exact ⟨m', hm, i + 1, ys, its, nn, σ7, H8, I8.unpinned, rv, a8, b8, w8⟩
        | true =>
          refine thn (he _ _ _ _ _ s8 σ7 H8 _ I8 q8) fun v s9 ⟨y, H9, I9, r9, q9⟩ => ?_
          obtain ⟨m', hm, w9⟩ := q9
          obtain ⟨a9, b9⟩ := keepfp I9
          have pacc := I9.pin (s2.heap.objs.size, lobj its nn) (List.mem_append_right _ (List.mem_append_left _ List.mem_cons_self))
          have hzi : its.toArray.size ≤ sizeLine := by rw [List.size_toArray, ← rv.length]; exact hz
          refine PySem.wpAny_list_append_plain (hsz := hzi) ⟨nn, pacc.1⟩ fun h' hl' hs' => ?_
          obtain ⟨n', hl'⟩ := hl'
          have hne : ∀ x c, (cxComp X scope cl (X.N ++ extra) (s2.heap.objs.size + 1) s2 H2 fp).env.cells.lookup x = some c → c ≠ s2.heap.objs.size := fun x c e => by
            obtain ⟨v, o, ho, _⟩ := I2.cell x c (S.sub x c e)
            exact Nat.ne_of_lt (Heap.lt_size ho)
          have I10 : Inv (cxComp X scope cl (X.N ++ extra) (s2.heap.objs.size + 1) s2 H2 fp) [] σ7 H9 { s9 with heap := h' } :=
            Inv.turned (t' := s9.toks) (it := s2.heap.objs.size) (I9.pins_of fun p hp => absurd hp (by simp)) (fun b o hb e => (hs'.2 b hb).trans e) pacc.2.1 pacc.2.2.1 (.inr (Nat.le_refl _)) hne (fun p hp => absurd (show p ∈ ([] : List (Addr × Obj)) from hp) (by simp))
          refine ⟨m', hm, i + 1, ys ++ [y], its ++ [v], n', σ7, H9, I10.pins_of fun p hp => ?_, rv.append (.cons r9 .nil), T.keep _ _ _ a9 fun b hb o e => (hs'.2 b (Nat.ne_of_lt (hlt b hb))).trans e, b9, w9⟩
          have e : p = (s2.heap.objs.size, lobj (its ++ [v]) n') := List.mem_singleton.mp hp
          subst e
          refine ⟨?_, pacc.2.1, pacc.2.2.1, pacc.2.2.2.1, fun v z => by cases z⟩
          rw [hl']
          simp [lobj]
    · have e : p = (s2.heap.objs.size, lobj [] 0) := List.mem_singleton.mp hp
      subst e
      exact ⟨hacc, hDn, Nat.ne_of_lt (Nat.lt_succ_self _), hDfs _ (Nat.le_refl _), fun v z => by cases z⟩
  exact codeAny_compStart_list (loop _ rfl) (T.self _ 0 _ _ _ (T.keep _ _ _ st2 fun b _ o e => old b o e) (loop _ rfl))
end
end L2

set_option Elab.async false
set_option linter.all false
set_option maxRecDepth 100000
namespace L2
open PySem PySem.Spec PyProof.Rows
section
variable {X : Cx} {pins : List (Addr × Obj)} {σ σ' : St} {H2 H' : Hp} {s2 s' : Shared} {scope : Scope} {cl : List (Str × Addr)} {ms : List Bool} {extra : List Str} {tg iter elt : Expr} {ifs : List Expr} {g : TG} {tc : TT} {te : TE} {pos : Pos}

theorem comp_back (I2 : Inv X pins σ H2 s2) {fp : List Addr} (f2 : ∀ b ∈ fp, FpOk X pins H2 b) {its : List Value} {n : Nat} {ys : List V}
    (I' : Inv (cxComp X scope cl (X.N ++ extra) (s2.heap.objs.size + 1) s2 H2 fp) [(s2.heap.objs.size, lobj its n)] σ' H' s') (rv : Vals ys its) (hz : ys.length ≤ sizeLine) {h' : Heap} (hs : Heap.SameBut (s2.heap.objs.size + 1) s'.heap h') :
    Inv X pins σ (upd H' s2.heap.objs.size (.lst ys)) { s' with heap := h' } ∧ H' s2.heap.objs.size = none := by
  have pacc := I'.pin (s2.heap.objs.size, lobj its n) (List.mem_append_right _ List.mem_cons_self)
  have hC : H' (s2.heap.objs.size + 1) = none := I'.free
  have hD : H' s2.heap.objs.size = none := pacc.2.1
  have up : ∀ b o, b ≠ s2.heap.objs.size + 1 → s'.heap.get? b = some o → h'.get? b = some o := fun b o hb e => (hs.2 b hb).trans e
  have nD : ∀ b u, H' b = some u → b ≠ s2.heap.objs.size := fun b u e z => by rw [z, hD] at e; cases e
  have nC : ∀ b u, H' b = some u → b ≠ s2.heap.objs.size + 1 := fun b u e z => by rw [z, hC] at e; cases e
  have hacc : h'.get? s2.heap.objs.size = some (lobj its n) := up _ _ (Nat.ne_of_lt (Nat.lt_succ_self _)) pacc.1
  have hok : HOk X.prog X.w (upd H' s2.heap.objs.size (.lst ys)) h' := fun b u e => by
    by_cases hb : b = s2.heap.objs.size
    · subst hb
      rw [upd_same] at e; cases e
      exact ⟨hz, its, n, rv, hacc⟩
    · rw [upd_ne hb] at e
      refine (I'.hok b u e).stay (fun c v hc q => up c v ?_ q) (fun c q => by rw [upd_ne (nD c _ q)]; exact q) fun c xs q => by rw [upd_ne (nD c _ q)]; exact q
      rcases hc with rfl | hc
      · exact nC _ _ e
      · exact nC _ _ hc
  have un : Un (frs X.stack) fp H2 (upd H' s2.heap.objs.size (.lst ys)) s2.heap h' := by
    have U := I'.base
    have ltD : ∀ b o, s2.heap.get? b = some o → b ≠ s2.heap.objs.size := fun b o e => Nat.ne_of_lt (Heap.lt_size e)
    have ltC : ∀ b o, s2.heap.get? b = some o → b ≠ s2.heap.objs.size + 1 := fun b o e => Nat.ne_of_lt (Nat.lt_succ_of_lt (Heap.lt_size e))
    refine ⟨fun b o e nb hb hx => up b o (ltC b o e) (U.keep b o e nb hb hx), fun b o e nb hb hx => ?_, fun b o e nb hx => by rw [upd_ne (ltD b o e)]; exact U.free b o e nb hx, fun b o e hx => ?_,
      fun b xs e => by have q := U.tups b xs e; rw [upd_ne (nD b _ q)]; exact q, fun b o u e => by have q := U.frzs b o u e; rw [upd_ne (nD b _ q)]; exact q, fun b ps e => ?_⟩
    · obtain ⟨sl, q⟩ := U.slot b o e nb hb hx
      exact ⟨sl, up b _ (ltC b o e) q⟩
    · obtain ⟨o', q⟩ := U.there b o e hx
      exact ⟨o', up b _ (ltC b o e) q⟩
    · obtain ⟨more, q⟩ := U.tbls b ps e
      exact ⟨more, by rw [upd_ne (nD b _ q)]; exact q⟩
  exact ⟨I2.call' (s' := { s' with heap := h' }) (ch := fp) I'.os un hok I'.bare fun b hb => ⟨(f2 b hb).2.2.2.1, (f2 b hb).2.1, (f2 b hb).2.2.2.2.1, (f2 b hb).2.2.2.2.2⟩, hD⟩

def tLc (ms : List Bool) (k : Nat) (wi : TI) (g : TG) (tc : TT) (te : TE) : TE := fun σ H Q => wi σ H fun J H1 => ∃ (W : Nat → Nat → List V → St → Hp → Prop) (Z : List V → Hp → Prop), (∃ m, W 0 m [] (compS ms k σ) H1) ∧ CompTurn J g tc te W Z ∧
  ∀ ys H p, Z ys H → H p = none → Q (.ref p) (upd H p (.lst ys))

theorem pe_lc (S : CompSc X scope cl ms extra) (hcalm : X.calm = true) {wi : TI} (hi : PI X tg iter wi)
    (hg : ∀ C s H ex, PG (cxComp X scope cl (X.N ++ extra) C s H ex) tg g) (hif : ∀ C s H ex, PIf (cxComp X scope cl (X.N ++ extra) C s H ex) ifs tc) (he : ∀ C s H ex, PE (cxComp X scope cl (X.N ++ extra) C s H ex) elt te)
    (hs : ∀ x, foldedSetIterable iter X.env x = pure x := by intro _; rfl) : PE X (.ListComp elt [⟨tg, iter, ifs, 0⟩] scope pos) (tLc ms extra.length wi g tc te) := by
  intro pins s σ H Q I h
  rw [eval_ListComp]
  refine wpAny_comprehension_free (use := none) rfl hs S.clos S.kind S.names (thn (hi pins s σ H _ I h) fun v s1 h1 => thn h1 fun itv s2 h2 => ?_)
  obtain ⟨it, fp, tn, J, H2, e, I2, T, st2, f2, W, Z, ⟨m0, w0⟩, turn, q⟩ := h2
  subst e
  refine comp_core S hcalm hg hif he I2 T st2 f2 w0 turn (RR := fun acc C => compPost (model X.prog X.w) X.A X.xe none (EP X pins σ Q) acc C) ?_
  intro s' ys its n σ' H' I' rv hz hZ
  obtain ⟨m, hm, _⟩ := I'.loc
  refine ⟨m, hm, fun h' hs' => ?_⟩
  obtain ⟨I3, hD⟩ := comp_back I2 f2 I' rv hz hs'
  exact ⟨.ref s2.heap.objs.size, _, I3, rfl, q ys H' _ hZ hD⟩

theorem ps_setLc {i : Nat} {x : Str} {spos pos' : Pos} (hN : X.N.Nodup) (hix : X.N[i]? = some x) (hx : X.env.scope.names.lookup x = some .local)
    (hsw : swapsWith (.ListComp elt [⟨tg, iter, ifs, 0⟩] scope pos) (some (.Name x pos')) spos.line X.env = pure true)
    (S : CompSc X scope cl ms extra) (hcalm : X.calm = true) {wi : TI} (hi : PI X tg iter wi)
    (hg : ∀ C s H ex, PG (cxComp X scope cl (X.N ++ extra) C s H ex) tg g) (hif : ∀ C s H ex, PIf (cxComp X scope cl (X.N ++ extra) C s H ex) ifs tc) (he : ∀ C s H ex, PE (cxComp X scope cl (X.N ++ extra) C s H ex) elt te)
    (hs : ∀ x, foldedSetIterable iter X.env x = pure x := by intro _; rfl) : PS X (.Assign [.Name x pos'] (.ListComp elt [⟨tg, iter, ifs, 0⟩] scope pos) spos) (tAsg (tLc ms extra.length wi g tc te) (gName i)) := by
  intro pins s σ H D I h
  rw [exec_Assign_Name_used _ _ _ _ hsw]
  refine wpAny_bind (wpAny_standAt (wpAny_bind ?_))
  show wpAny _ _ (do let _ ← comprehension (.ListComp elt [⟨tg, iter, ifs, 0⟩] scope pos) scope X.env _ (newList []) false (eval iter X.env) (some (assign (.Name x pos') X.env))) _ _ s
  refine wpAny_bind (wpAny_mono (wpAny_comprehension_free (use := some (assign (.Name x pos') X.env)) (Q := fun _ s' => SP X pins D .next s') rfl hs S.clos S.kind S.names
    (thn (hi pins s σ H _ I h) fun v s1 h1 => thn h1 fun itv s2 h2 => ?_)) (fun _ s' hq => wpAny_pure (wpAny_pure hq)) fun _ _ e => e)
  obtain ⟨it, fp, tn, J, H2, e, I2, T, st2, f2, W, Z, ⟨m0, w0⟩, turn, q⟩ := h2
  subst e
  refine comp_core S hcalm hg hif he I2 T st2 f2 w0 turn (RR := fun acc C => compPost (model X.prog X.w) X.A X.xe (some (assign (.Name x pos') X.env)) (fun _ s' => SP X pins D .next s') acc C) ?_
  intro s' ys its n σ' H' I' rv hz hZ
  obtain ⟨m, hm, _⟩ := I'.loc
  obtain ⟨I3, hD⟩ := comp_back I2 f2 I' rv hz (Heap.SameBut.refl (s2.heap.objs.size + 1) s'.heap)
  have hq := q ys H' _ hZ hD
  show wpAny _ _ (assign (.Name x pos') X.env (.ref s2.heap.objs.size)) _ _ _
  refine wpAny_assign_Name (store_ok2 I3 hN hix (.inl hx) (v := .ref s2.heap.objs.size) rfl (fun s4 I4 hsame => ?_) (.inr hx))
  obtain ⟨a, hsb, ha⟩ := hsame
  have hLC : s2.heap.objs.size + 1 ≠ X.env.locals := Nat.ne_of_gt (Nat.lt_succ_of_lt I2.lt)
  have haC : s2.heap.objs.size + 1 ≠ a := by
    rcases ha with rfl | ha
    · exact hLC
    · intro z
      obtain ⟨v, o, ho, _⟩ := I2.cell x a ha
      exact absurd (Nat.lt_succ_of_lt (Heap.lt_size ho)) (by rw [← z]; exact Nat.lt_irrefl _)
  have hCn : upd H' s2.heap.objs.size (.lst ys) (s2.heap.objs.size + 1) = none := by rw [upd_ne (Nat.ne_of_gt (Nat.lt_succ_self _))]; exact I'.free
  refine ⟨m, hm.sameBut hsb haC, fun h' hs' => ?_⟩
  refine ⟨_, _, ?_, hq⟩
  have hL : ∀ b o, b ≠ s2.heap.objs.size + 1 → s4.heap.get? b = some o → h'.get? b = some o := fun b o hb e => (hs'.2 b hb).trans e
  have I5 := Inv.turned (t' := s4.toks) (h' := h') (it := s2.heap.objs.size + 1) I4 (fun b o hb e => hL b o hb e) hCn hLC (.inr (Nat.le_succ_of_le I2.sz)) (fun y c e => by
    obtain ⟨v, o, ho, _⟩ := I2.cell y c e
    exact Nat.ne_of_lt (Nat.lt_succ_of_lt (Heap.lt_size ho))) (fun p hp => by
    exact Nat.ne_of_lt (Nat.lt_succ_of_lt (Heap.lt_size (I2.pin p hp).1)))
  exact I5
end
end L2

set_option Elab.async false
set_option linter.all false
set_option maxRecDepth 100000
namespace L2
open PySem PySem.Spec PyProof.Rows

/-! ### deep data: tuples and lists that stay as they are stand as values; ref: the address of a cell that is ours to change -/
inductive D where
  | non | bl (b : Bool) | int (i : Int) | str (x : Str) | tup (ds : List D) | lst (ds : List D) | scr (ds : List D) | emp | ref (a : Addr)
  deriving Inhabited
inductive HD where
  | lst (ds : List D)
  deriving Inhabited
abbrev DH := Addr → Option HD
def updM (M : DH) (a : Addr) (o : HD) : DH := fun b => if b = a then some o else M b
def delM (M : DH) (a : Addr) : DH := fun b => if b = a then none else M b
abbrev noM : DH := fun _ => none
theorem updM_same {M : DH} {a : Addr} {o : HD} : updM M a o a = some o := if_pos rfl
theorem updM_ne {M : DH} {a b : Addr} {o : HD} (h : b ≠ a) : updM M a o b = M b := if_neg h
theorem updM_upd {M : DH} {a : Addr} {o u : HD} : updM (updM M a o) a u = updM M a u := by
  funext b; unfold updM; split <;> rfl
theorem delM_same {M : DH} {a : Addr} : delM M a a = none := if_pos rfl
theorem delM_upd {M : DH} {a : Addr} {o : HD} (h : M a = none) : delM (updM M a o) a = M := by
  funext b; unfold delM updM; split
  · rename_i e; rw [e, h]
  · rfl

def TupAt (K : PySem.W.Frag) (M : DH) (H : Hp) (a : Addr) (vs : List V) : Prop := (Rd H a (.tup vs) ∧ M a = none) ∨ SqT K (fun _ => none) a vs
def LstAt (M : DH) (H : Hp) (a : Addr) (vs : List V) : Prop := H a = some (.lst vs) ∧ M a = none
def ScrAt (K : PySem.W.Frag) (M : DH) (H : Hp) (a : Addr) (vs : List V) : Prop := ((∃ o, H a = some (.frz o (.lst vs))) ∧ M a = none) ∨ SqL K (fun _ => none) a vs
def EmpAt (M : DH) (H : Hp) (a : Addr) : Prop := H a = some (.dK []) ∧ M a = none

mutual
def Rep (K : PySem.W.Frag) (M : DH) (H : Hp) : D → V → Prop
  | .non, v => v = .non
  | .bl b, v => v = .bl b
  | .int i, v => v = .int i
  | .str x, v => v = .str x
  | .tup ds, v => ∃ a vs, v = .ref a ∧ TupAt K M H a vs ∧ RepL K M H ds vs
  | .lst ds, v => ∃ a vs, v = .ref a ∧ LstAt M H a vs ∧ RepL K M H ds vs
  | .scr ds, v => ∃ a vs, v = .ref a ∧ ScrAt K M H a vs ∧ RepL K M H ds vs
  | .emp, v => ∃ a, v = .ref a ∧ EmpAt M H a
  | .ref a, v => v = .ref a
def RepL (K : PySem.W.Frag) (M : DH) (H : Hp) : List D → List V → Prop
  | [], vs => vs = []
  | d :: ds, vs => ∃ v ws, vs = v :: ws ∧ Rep K M H d v ∧ RepL K M H ds ws
end
def Ext (M : DH) (H : Hp) (M' : DH) (H' : Hp) : Prop := ∀ a o, H a = some o → M a = none → H' a = some o ∧ M' a = none
theorem Ext.refl (M : DH) (H : Hp) : Ext M H M H := fun _ _ h n => ⟨h, n⟩
theorem Ext.trans {M M1 M2 : DH} {H H1 H2 : Hp} (a : Ext M H M1 H1) (b : Ext M1 H1 M2 H2) : Ext M H M2 H2 := fun c o h n => b c o (a c o h n).1 (a c o h n).2
variable {K : PySem.W.Frag} {M M' M1 M2 : DH} {H H' H1 H2 : Hp}
theorem TupAt.ext {a : Addr} {vs : List V} (h : TupAt K M H a vs) (e : Ext M H M' H') : TupAt K M' H' a vs := by
  rcases h with ⟨r | ⟨o, r⟩, n⟩ | h
  · exact .inl ⟨.inl (e a _ r n).1, (e a _ r n).2⟩
  · exact .inl ⟨.inr ⟨o, (e a _ r n).1⟩, (e a _ r n).2⟩
  · exact .inr h
theorem LstAt.ext {a : Addr} {vs : List V} (h : LstAt M H a vs) (e : Ext M H M' H') : LstAt M' H' a vs := e a _ h.1 h.2
theorem ScrAt.ext {a : Addr} {vs : List V} (h : ScrAt K M H a vs) (e : Ext M H M' H') : ScrAt K M' H' a vs := by
  rcases h with ⟨⟨o, r⟩, n⟩ | h
  · exact .inl ⟨⟨o, (e a _ r n).1⟩, (e a _ r n).2⟩
  · exact .inr h
mutual
theorem Rep.ext : ∀ {d : D} {v : V}, Rep K M H d v → Ext M H M' H' → Rep K M' H' d v
  | .non, _, h, _ => h
  | .bl _, _, h, _ => h
  | .int _, _, h, _ => h
  | .str _, _, h, _ => h
  | .ref _, _, h, _ => h
  | .emp, _, h, e => by
    simp only [Rep] at h ⊢
    obtain ⟨a, rfl, h1, h2⟩ := h
    exact ⟨a, rfl, e a _ h1 h2⟩
  | .tup ds, _, h, e => by
    simp only [Rep] at h ⊢
    obtain ⟨a, vs, rfl, h1, h2⟩ := h
    exact ⟨a, vs, rfl, h1.ext e, RepL.ext h2 e⟩
  | .lst ds, _, h, e => by
    simp only [Rep] at h ⊢
    obtain ⟨a, vs, rfl, h1, h2⟩ := h
    exact ⟨a, vs, rfl, h1.ext e, RepL.ext h2 e⟩
  | .scr ds, _, h, e => by
    simp only [Rep] at h ⊢
    obtain ⟨a, vs, rfl, h1, h2⟩ := h
    exact ⟨a, vs, rfl, h1.ext e, RepL.ext h2 e⟩
theorem RepL.ext : ∀ {ds : List D} {vs : List V}, RepL K M H ds vs → Ext M H M' H' → RepL K M' H' ds vs
  | [], _, h, _ => h
  | d :: ds, _, h, e => by
    simp only [RepL] at h ⊢
    obtain ⟨v, ws, rfl, h1, h2⟩ := h
    exact ⟨v, ws, rfl, Rep.ext h1 e, RepL.ext h2 e⟩
end
theorem RepL.length : ∀ {ds : List D} {vs : List V}, RepL K M H ds vs → ds.length = vs.length
  | [], _, h => by simp only [RepL] at h; subst h; rfl
  | d :: ds, _, h => by
    simp only [RepL] at h
    obtain ⟨v, ws, rfl, h1, h2⟩ := h
    simp [RepL.length h2]
theorem RepL.nil : RepL K M H [] [] := by simp [RepL]
theorem RepL.cons {d : D} {v : V} {ds : List D} {vs : List V} (h : Rep K M H d v) (t : RepL K M H ds vs) : RepL K M H (d :: ds) (v :: vs) := by
  simp only [RepL]; exact ⟨v, vs, rfl, h, t⟩
theorem RepL.append : ∀ {ds es : List D} {vs ws : List V}, RepL K M H ds vs → RepL K M H es ws → RepL K M H (ds ++ es) (vs ++ ws)
  | [], _, _, _, h, t => by simp only [RepL] at h; subst h; exact t
  | d :: ds, es, _, ws, h, t => by
    simp only [RepL] at h
    obtain ⟨v, us, rfl, h1, h2⟩ := h
    exact RepL.cons h1 (RepL.append h2 t)
theorem RepL.get : ∀ {ds : List D} {vs : List V} {i : Nat} {d : D}, RepL K M H ds vs → ds[i]? = some d → ∃ v, vs[i]? = some v ∧ Rep K M H d v
  | [], _, _, _, _, e => by simp at e
  | d :: ds, _, 0, x, h, e => by
    simp only [RepL] at h
    obtain ⟨v, us, rfl, h1, h2⟩ := h
    simp at e; subst e
    exact ⟨v, rfl, h1⟩
  | d :: ds, _, i + 1, x, h, e => by
    simp only [RepL] at h
    obtain ⟨v, us, rfl, h1, h2⟩ := h
    obtain ⟨w, a, b⟩ := RepL.get (i := i) (d := x) h2 (by simpa using e)
    exact ⟨w, by simpa using a, b⟩
theorem RepL.take : ∀ {ds : List D} {vs : List V} (n : Nat), RepL K M H ds vs → RepL K M H (ds.take n) (vs.take n)
  | ds, vs, 0, _ => by simp [RepL]
  | [], _, n + 1, h => by simp only [RepL] at h; subst h; simp [RepL]
  | d :: ds, _, n + 1, h => by
    simp only [RepL] at h
    obtain ⟨v, us, rfl, h1, h2⟩ := h
    exact RepL.cons h1 (RepL.take n h2)
theorem RepL.drop : ∀ {ds : List D} {vs : List V} (n : Nat), RepL K M H ds vs → RepL K M H (ds.drop n) (vs.drop n)
  | ds, vs, 0, h => h
  | [], _, n + 1, h => by simp only [RepL] at h; subst h; simp [RepL]
  | d :: ds, _, n + 1, h => by
    simp only [RepL] at h
    obtain ⟨v, us, rfl, h1, h2⟩ := h
    exact RepL.drop n h2
theorem RepL.set : ∀ {ds : List D} {vs : List V} {d : D} {v : V} (n : Nat), RepL K M H ds vs → Rep K M H d v → RepL K M H (ds.set n d) (vs.set n v)
  | [], _, _, _, n, h, r => by simp only [RepL] at h; subst h; simp [RepL]
  | d :: ds, _, _, _, 0, h, r => by
    simp only [RepL] at h
    obtain ⟨v, us, rfl, h1, h2⟩ := h
    exact RepL.cons r h2
  | d :: ds, _, _, _, n + 1, h, r => by
    simp only [RepL] at h
    obtain ⟨v, us, rfl, h1, h2⟩ := h
    exact RepL.cons h1 (RepL.set n h2 r)
theorem RepL.one {d : D} {vs : List V} (h : RepL K M H [d] vs) : ∃ v, vs = [v] ∧ Rep K M H d v := by
  simp only [RepL] at h
  obtain ⟨v, us, rfl, h1, rfl⟩ := h
  exact ⟨v, rfl, h1⟩
theorem RepL.two {d e : D} {vs : List V} (h : RepL K M H [d, e] vs) : ∃ v w, vs = [v, w] ∧ Rep K M H d v ∧ Rep K M H e w := by
  simp only [RepL] at h
  obtain ⟨v, us, rfl, h1, w, ws, rfl, h2, rfl⟩ := h
  exact ⟨v, w, rfl, h1, h2⟩

def HR (K : PySem.W.Frag) (M : DH) (H : Hp) : Prop := ∀ a o, M a = some o → match o with | .lst ds => ∃ vs, H a = some (.lst vs) ∧ RepL K M H ds vs
theorem HR.fresh (h : HR K M H) {p : Addr} (e : H p = none) : M p = none := by
  cases q : M p with
  | none => rfl
  | some o =>
    cases o with
    | lst ds => obtain ⟨vs, r, _⟩ := h p _ q; rw [e] at r; cases r
theorem HR.nil : HR K noM H := fun _ _ h => nomatch h
theorem Ext.new {p : Addr} {o : HO} (hr : HR K M H) (h : H p = none) : Ext M H M (upd H p o) := fun a u e n => by
  have : a ≠ p := ne_of_none e h
  rw [upd_ne this]; exact ⟨e, n⟩
theorem HR.ext1 (h : HR K M H) (e : Ext M H M H') (keep : ∀ a o, M a = some o → H' a = H a) : HR K M H' := fun a o q => by
  cases o with
  | lst ds =>
    obtain ⟨vs, r, t⟩ := h a _ q
    exact ⟨vs, by rw [keep a _ q]; exact r, t.ext e⟩
theorem HR.new {p : Addr} {o : HO} (hr : HR K M H) (h : H p = none) : HR K M (upd H p o) := hr.ext1 (Ext.new hr h) fun a u q => by
  have : a ≠ p := fun z => by rw [z, hr.fresh h] at q; cases q
  rw [upd_ne this]
theorem Ext.own {p : Addr} {o : HO} {u : HD} (h : H p = none) : Ext M H (updM M p u) (upd H p o) := fun a x e n => by
  have : a ≠ p := ne_of_none e h
  rw [upd_ne this, updM_ne this]; exact ⟨e, n⟩
theorem HR.own {p : Addr} {ds : List D} {vs : List V} (hr : HR K M H) (h : H p = none) (r : RepL K M H ds vs) : HR K (updM M p (.lst ds)) (upd H p (.lst vs)) := fun a o q => by
  by_cases e : a = p
  · subst e
    rw [updM_same] at q; cases q
    exact ⟨vs, upd_same, r.ext (Ext.own h)⟩
  · rw [updM_ne e] at q
    cases o with
    | lst ds' =>
      obtain ⟨vs', r', t⟩ := hr a _ q
      exact ⟨vs', by rw [upd_ne e]; exact r', t.ext (Ext.own h)⟩
theorem Ext.write {a : Addr} {o : HO} {u w : HD} (h : M a = some w) : Ext M H (updM M a u) (upd H a o) := fun b x e n => by
  have : b ≠ a := fun z => by rw [z, h] at n; cases n
  rw [upd_ne this, updM_ne this]; exact ⟨e, n⟩
theorem HR.write {a : Addr} {w : HD} {ds : List D} {vs : List V} (hr : HR K M H) (h : M a = some w) (r : RepL K M H ds vs) : HR K (updM M a (.lst ds)) (upd H a (.lst vs)) := fun b o q => by
  by_cases e : b = a
  · subst e
    rw [updM_same] at q; cases q
    exact ⟨vs, upd_same, r.ext (Ext.write h)⟩
  · rw [updM_ne e] at q
    cases o with
    | lst ds' =>
      obtain ⟨vs', r', t⟩ := hr b _ q
      exact ⟨vs', by rw [upd_ne e]; exact r', t.ext (Ext.write h)⟩
/-! a smaller M: cells that are lent as they are -/
def LeM (M1 M : DH) : Prop := ∀ a o, M1 a = some o → M a = some o
theorem LeM.none (h : LeM M1 M) {a : Addr} (n : M a = none) : M1 a = none := by
  cases q : M1 a with
  | none => rfl
  | some o => rw [h a o q] at n; cases n
theorem LeM.refl : LeM M M := fun _ _ h => h
theorem LeM.del {a : Addr} : LeM (delM M a) M := fun b o h => by
  unfold delM at h; split at h
  · cases h
  · exact h
theorem Ext.le (h : LeM M1 M) : Ext M H M1 H := fun a o e n => ⟨e, h.none n⟩
theorem HR.le (hr : HR K M H) (h : LeM M1 M) : HR K M1 H := fun a o q => by
  cases o with
  | lst ds =>
    obtain ⟨vs, r, t⟩ := hr a _ (h a _ q)
    exact ⟨vs, r, t.ext (Ext.le h)⟩
theorem Rep.froze (hr : HR K M H) (h : LeM M1 M) {a : Addr} {ds : List D} (e : M a = some (.lst ds)) (n : M1 a = none) : Rep K M1 H (.lst ds) (.ref a) := by
  obtain ⟨vs, r, t⟩ := hr a _ e
  simp only [Rep]
  exact ⟨a, vs, rfl, ⟨r, n⟩, t.ext (Ext.le h)⟩
mutual
def noL : D → Bool
  | .tup ds => noLs ds
  | .lst _ => false
  | .scr _ => false
  | .emp => false
  | _ => true
def noLs : List D → Bool
  | [] => true
  | d :: ds => noL d && noLs ds
end
mutual
theorem Rep.hard : ∀ {d : D} {v : V}, noL d = true → Rep K M H d v → (∀ a xs, Rd H a (.tup xs) → M' a = none) → Rep K M' H d v
  | .non, _, _, h, _ => h
  | .bl _, _, _, h, _ => h
  | .int _, _, _, h, _ => h
  | .str _, _, _, h, _ => h
  | .ref _, _, _, h, _ => h
  | .emp, _, n, _, _ => by simp [noL] at n
  | .lst _, _, n, _, _ => by simp [noL] at n
  | .scr _, _, n, _, _ => by simp [noL] at n
  | .tup ds, _, n, h, e => by
    simp only [Rep] at h ⊢
    obtain ⟨a, vs, rfl, h1, h2⟩ := h
    refine ⟨a, vs, rfl, ?_, RepL.hard (by simpa [noL] using n) h2 e⟩
    rcases h1 with ⟨r, _⟩ | r
    · exact .inl ⟨r, e a vs r⟩
    · exact .inr r
theorem RepL.hard : ∀ {ds : List D} {vs : List V}, noLs ds = true → RepL K M H ds vs → (∀ a xs, Rd H a (.tup xs) → M' a = none) → RepL K M' H ds vs
  | [], _, _, h, _ => h
  | d :: ds, _, n, h, e => by
    simp only [RepL] at h ⊢
    obtain ⟨v, ws, rfl, h1, h2⟩ := h
    simp only [noLs, Bool.and_eq_true] at n
    exact ⟨v, ws, rfl, Rep.hard n.1 h1 e, RepL.hard n.2 h2 e⟩
end

/-! ### the frame's names -/
abbrev DE := List (Option D)
def SR (K : PySem.W.Frag) (M : DH) (H : Hp) (σ : St) (Δ : DE) : Prop := σ.length = Δ.length ∧ ∀ (i : Nat) (d : D), Δ[i]? = some (some d) → ∃ v, σ[i]? = some (some v) ∧ Rep K M H d v
theorem SR.ext {σ : St} {Δ : DE} (h : SR K M H σ Δ) (e : Ext M H M' H') : SR K M' H' σ Δ := ⟨h.1, fun i d q => let ⟨v, a, r⟩ := h.2 i d q; ⟨v, a, r.ext e⟩⟩
theorem SR.set {σ : St} {Δ : DE} {d : D} {v : V} (h : SR K M H σ Δ) (i : Nat) (r : Rep K M H d v) : SR K M H (σ.set i (some v)) (Δ.set i (some d)) := by
  refine ⟨by simp [h.1], fun j e q => ?_⟩
  by_cases hj : j = i
  · subst hj
    by_cases hl : j < Δ.length
    · rw [List.getElem?_set_self hl] at q; cases q
      exact ⟨v, List.getElem?_set_self (by rw [h.1]; exact hl), r⟩
    · rw [List.getElem?_eq_none (by simp; omega)] at q; cases q
  · rw [List.getElem?_set_ne (Ne.symm hj)] at q ⊢
    exact h.2 j e q

abbrev TEd := DE → DH → (D → DH → Prop) → Prop
abbrev TAd := DE → DH → (List D → DH → Prop) → Prop
abbrev TTd := DE → DH → (Bool → DH → Prop) → Prop
structure EndsD where
  nx : DE → DH → Prop
  rt : D → DH → Prop
  bk : DE → DH → Prop := fun _ _ => False
  ct : DE → DH → Prop := fun _ _ => False
abbrev TSd := EndsD → DE → DH → Prop

def up (K : PySem.W.Frag) (t : TEd) : TE := fun σ H Q => ∃ (Δ : DE) (M : DH) (R : D → DH → Prop), SR K M H σ Δ ∧ HR K M H ∧ t Δ M R ∧
  ∀ d M' v H', R d M' → Ext M H M' H' → HR K M' H' → Rep K M' H' d v → Q v H'
def upA (K : PySem.W.Frag) (t : TAd) : TA := fun σ H Q => ∃ (Δ : DE) (M : DH) (R : List D → DH → Prop), SR K M H σ Δ ∧ HR K M H ∧ t Δ M R ∧
  ∀ ds M' vs H', R ds M' → Ext M H M' H' → HR K M' H' → RepL K M' H' ds vs → Q vs H'
def upT (K : PySem.W.Frag) (t : TTd) : TT := fun σ H Q => ∃ (Δ : DE) (M : DH) (R : Bool → DH → Prop), SR K M H σ Δ ∧ HR K M H ∧ t Δ M R ∧
  ∀ b M' H', R b M' → Ext M H M' H' → HR K M' H' → Q b H'
structure UpE (K : PySem.W.Frag) (E : EndsD) (D : Ends) (M : DH) (H : Hp) : Prop where
  nx : ∀ Δ' M' σ' H', E.nx Δ' M' → Ext M H M' H' → HR K M' H' → SR K M' H' σ' Δ' → D.nx σ' H'
  bk : ∀ Δ' M' σ' H', E.bk Δ' M' → Ext M H M' H' → HR K M' H' → SR K M' H' σ' Δ' → D.bk σ' H'
  ct : ∀ Δ' M' σ' H', E.ct Δ' M' → Ext M H M' H' → HR K M' H' → SR K M' H' σ' Δ' → D.ct σ' H'
  rt : ∀ d M' v H', E.rt d M' → Ext M H M' H' → HR K M' H' → Rep K M' H' d v → D.rt v H'
theorem UpE.ext {E : EndsD} {D : Ends} (u : UpE K E D M H) (e : Ext M H M' H') : UpE K E D M' H' :=
  ⟨fun a b c d h x => u.nx a b c d h (e.trans x), fun a b c d h x => u.bk a b c d h (e.trans x), fun a b c d h x => u.ct a b c d h (e.trans x), fun a b c d h x => u.rt a b c d h (e.trans x)⟩
def upS (K : PySem.W.Frag) (t : TSd) : TS := fun D σ H => ∃ (Δ : DE) (M : DH) (E : EndsD), SR K M H σ Δ ∧ HR K M H ∧ t E Δ M ∧ UpE K E D M H

def PEd (X : Cx) (e : Expr) (t : TEd) : Prop := PE X e (up X.K t)
def PAd (X : Cx) (es : List Expr) (t : TAd) : Prop := PA X es (upA X.K t)
def PTd (X : Cx) (e : Expr) (t : TTd) : Prop := PT X e (upT X.K t)
def PWd (X : Cx) (e : Expr) (t : TTd) : Prop := PW X e (upT X.K t)
def PSd (X : Cx) (st : Stmt) (t : TSd) : Prop := PS X st (upS X.K t)
def PSsd (X : Cx) (st : List Stmt) (t : TSd) : Prop := PSs X st (upS X.K t)
end L2

set_option Elab.async false
set_option linter.all false
set_option maxRecDepth 100000
namespace L2
open PySem PySem.Spec PyProof.Rows
theorem PE.conv {X : Cx} {e : Expr} {t t' : TE} (h : PE X e t) (k : ∀ σ H Q, t' σ H Q → t σ H Q) : PE X e t' := fun p s σ H Q I q => h p s σ H Q I (k σ H Q q)
theorem PT.conv {X : Cx} {e : Expr} {t t' : TT} (h : PT X e t) (k : ∀ σ H Q, t' σ H Q → t σ H Q) : PT X e t' := fun p s σ H Q I q => h p s σ H Q I (k σ H Q q)
theorem PA.conv {X : Cx} {e : List Expr} {t t' : TA} (h : PA X e t) (k : ∀ σ H Q, t' σ H Q → t σ H Q) : PA X e t' := fun ps p s σ H Q I q => h ps p s σ H Q I (k σ H Q q)
theorem PS.conv {X : Cx} {e : Stmt} {t t' : TS} (h : PS X e t) (k : ∀ D σ H, t' D σ H → t D σ H) : PS X e t' := fun p s σ H D I q => h p s σ H D I (k D σ H q)
theorem PSs.conv {X : Cx} {e : List Stmt} {t t' : TS} (h : PSs X e t) (k : ∀ D σ H, t' D σ H → t D σ H) : PSs X e t' := fun p s σ H D I q => h p s σ H D I (k D σ H q)

section
variable {X : Cx} {a b c : Expr} {es : List Expr} {ta tb : TEd} {pos : Pos}
def dVar (i : Nat) : TEd := fun Δ M Q => ∃ d, Δ[i]? = some (some d) ∧ Q d M
def dC (d : D) : TEd := fun _ M Q => Q d M
theorem d_var (i : Nat) {x : Str} {pos : Pos} (hN : X.N[i]? = some x := by rfl) (hv : Vis X.env.scope x := by first | exact Or.inl rfl | exact Or.inr (Or.inl rfl) | exact Or.inr (Or.inr rfl)) (hd : (x == ("__debug__" : Str)) = false := by decide)
    (hcd : (x == ("__classdict__" : Str)) = false := by decide) : PEd X (.Name x pos) (dVar i) :=
  (pe_var hN hv hd hcd).conv fun σ H Q ⟨Δ, M, R, sr, hr, ⟨d, e, q⟩, k⟩ => let ⟨v, ev, rv⟩ := sr.2 i d e; ⟨v, ev, k d M v H q (Ext.refl _ _) hr rv⟩
theorem d_int {i j pos} : PEd X (.Constant (.int i) j pos) (dC (.int i)) := pe_int.conv fun σ H Q ⟨Δ, M, R, sr, hr, q, k⟩ => k _ M _ H q (Ext.refl _ _) hr (by simp [Rep])
theorem d_bl {i j pos} : PEd X (.Constant (.bool i) j pos) (dC (.bl i)) := pe_bl.conv fun σ H Q ⟨Δ, M, R, sr, hr, q, k⟩ => k _ M _ H q (Ext.refl _ _) hr (by simp [Rep])
theorem d_str {i j pos} : PEd X (.Constant (.str i) j pos) (dC (.str i)) := pe_str.conv fun σ H Q ⟨Δ, M, R, sr, hr, q, k⟩ => k _ M _ H q (Ext.refl _ _) hr (by simp [Rep])
theorem d_non {j pos} : PEd X (.Constant .none j pos) (dC .non) := pe_non.conv fun σ H Q ⟨Δ, M, R, sr, hr, q, k⟩ => k _ M _ H q (Ext.refl _ _) hr (by simp [Rep])

/-! two in a row -/
def dNil : TAd := fun _ M Q => Q [] M
def dCons (ta : TEd) (tr : TAd) : TAd := fun Δ M Q => ta Δ M fun x M1 => tr Δ M1 fun xs M2 => Q (x :: xs) M2
theorem d_nil : PAd X [] dNil := pa_nil.conv fun σ H Q ⟨Δ, M, R, sr, hr, q, k⟩ => k _ M _ H q (Ext.refl _ _) hr RepL.nil
theorem d_cons {tr : TAd} (ha : PEd X a ta) (hr : PAd X es tr) (hs : starEach (a :: es) X.env = (false, eval a X.env) :: starEach es X.env := by rfl) : PAd X (a :: es) (dCons ta tr) :=
  (pa_cons ha hr hs).conv fun σ H Q ⟨Δ, M, R, sr, hr, q, k⟩ => ⟨Δ, M, _, sr, hr, q, fun d M1 v H1 q1 e1 hr1 rv => ⟨Δ, M1, _, sr.ext e1, hr1, q1, fun ds M2 vs H2 q2 e2 hr2 rvs =>
    k _ M2 _ H2 q2 (e1.trans e2) hr2 (RepL.cons (rv.ext e2) rvs)⟩⟩
def dTup (t : TAd) : TEd := fun Δ M Q => t Δ M fun ds M1 => ds.length ≤ sizeLine ∧ Q (.tup ds) M1
def dLst (t : TAd) : TEd := fun Δ M Q => t Δ M fun ds M1 => ds.length ≤ sizeLine ∧ Q (.lst ds) M1
def dLstO (t : TAd) : TEd := fun Δ M Q => t Δ M fun ds M1 => ds.length ≤ sizeLine ∧ ∀ p, M1 p = none → Q (.ref p) (updM M1 p (.lst ds))
theorem d_tup {x1} {t : TAd} (h : PAd X es t) : PEd X (.Tuple es x1 pos) (dTup t) :=
  (pe_tup h).conv fun σ H Q ⟨Δ, M, R, sr, hr, q, k⟩ => ⟨Δ, M, _, sr, hr, q, fun ds M1 vs H1 ⟨z, q1⟩ e1 hr1 rv => ⟨by rw [← rv.length]; exact z, fun p hp => k _ M1 _ _ q1 (e1.trans (Ext.new hr1 hp)) (hr1.new hp) (by
    simp only [Rep]; exact ⟨p, vs, rfl, .inl ⟨.inl upd_same, hr1.fresh hp⟩, rv.ext (Ext.new hr1 hp)⟩)⟩⟩
theorem d_lst {t : TAd} (h : PAd X es t) : PEd X (.List es pos) (dLst t) :=
  (pe_lst h).conv fun σ H Q ⟨Δ, M, R, sr, hr, q, k⟩ => ⟨Δ, M, _, sr, hr, q, fun ds M1 vs H1 ⟨z, q1⟩ e1 hr1 rv => ⟨by rw [← rv.length]; exact z, fun p hp => k _ M1 _ _ q1 (e1.trans (Ext.new hr1 hp)) (hr1.new hp) (by
    simp only [Rep]; exact ⟨p, vs, rfl, ⟨upd_same, hr1.fresh hp⟩, rv.ext (Ext.new hr1 hp)⟩)⟩⟩
theorem d_lstO {t : TAd} (h : PAd X es t) : PEd X (.List es pos) (dLstO t) :=
  (pe_lst h).conv fun σ H Q ⟨Δ, M, R, sr, hr, q, k⟩ => ⟨Δ, M, _, sr, hr, q, fun ds M1 vs H1 ⟨z, q1⟩ e1 hr1 rv => ⟨by rw [← rv.length]; exact z, fun p hp => k _ _ _ _ (q1 p (hr1.fresh hp)) (e1.trans (Ext.own hp)) (hr1.own hp rv) (by
    simp only [Rep])⟩⟩

/-! ### values as they are read -/
def rdM (M : DH) : D → D
  | .ref a => match M a with | some (.lst ds) => .lst ds | none => .ref a
  | d => d
def RepR (K : PySem.W.Frag) (M : DH) (H : Hp) (d : D) (v : V) : Prop := match d with
  | .tup ds => ∃ a vs, v = .ref a ∧ SqT K H a vs ∧ RepL K M H ds vs
  | .lst ds => ∃ a vs, v = .ref a ∧ H a = some (.lst vs) ∧ RepL K M H ds vs
  | .scr ds => ∃ a vs, v = .ref a ∧ SqL K H a vs ∧ RepL K M H ds vs
  | d => Rep K M H d v
theorem TupAt.sq {K : PySem.W.Frag} {M : DH} {H : Hp} {a : Addr} {vs : List V} (h : TupAt K M H a vs) : SqT K H a vs := by
  rcases h with ⟨h, _⟩ | h
  · exact .inl h
  · rcases h with (h | ⟨_, h⟩) | h
    · cases h
    · cases h
    · exact .inr h
theorem ScrAt.sq {K : PySem.W.Frag} {M : DH} {H : Hp} {a : Addr} {vs : List V} (h : ScrAt K M H a vs) : SqL K H a vs := by
  rcases h with ⟨⟨o, h⟩, _⟩ | h
  · exact .inl (.inr ⟨o, h⟩)
  · rcases h with (h | ⟨_, h⟩) | h
    · cases h
    · cases h
    · exact .inr h
theorem Rep.rd {K : PySem.W.Frag} {M : DH} {H : Hp} {d : D} {v : V} (hr : HR K M H) (h : Rep K M H d v) : RepR K M H (rdM M d) v := by
  cases d with
  | tup ds => simp only [Rep] at h; obtain ⟨a, vs, e, t, r⟩ := h; exact ⟨a, vs, e, t.sq, r⟩
  | lst ds => simp only [Rep] at h; obtain ⟨a, vs, e, t, r⟩ := h; exact ⟨a, vs, e, t.1, r⟩
  | scr ds => simp only [Rep] at h; obtain ⟨a, vs, e, t, r⟩ := h; exact ⟨a, vs, e, t.sq, r⟩
  | ref a =>
    simp only [rdM]
    cases q : M a with
    | none => exact h
    | some o =>
      cases o with
      | lst ds =>
        obtain ⟨vs, e, r⟩ := hr a _ q
        simp only [Rep] at h
        exact ⟨a, vs, h, e, r⟩
  | non => exact h
  | bl b => exact h
  | int i => exact h
  | str x => exact h
  | emp => exact h
def OpRd (X : Cx) (f : Value → Value → Sem Value) (r : D → D → Option D) : Prop :=
  ∀ (pins : List (Addr × Obj)) (s : Shared) (σ : St) (H : Hp) (M : DH) (x y : V) (v u : Value) (dx dy dz : D) (Q : VK), Inv X pins σ H s → HR X.K M H → RelV x v → RelV y u → RepR X.K M H dx x → RepR X.K M H dy y → r dx dy = some dz →
    (∀ w H', Ext M H M H' → HR X.K M H' → Rep X.K M H' dz w → Q w H') → wpAny (model X.prog X.w) X.A (f v u) (EP X pins σ Q) X.xe s
def CallRd (X : Cx) (f : Value) (r : List D → Option D) : Prop :=
  ∀ (pins : List (Addr × Obj)) (s : Shared) (σ : St) (H : Hp) (M : DH) (xs : List V) (us : List Value) (ds : List D) (dz : D) (Q : VK), Inv X pins σ H s → HR X.K M H → Vals xs us → Paired (RepR X.K M H) ds xs → r ds = some dz →
    (∀ w H', Ext M H M H' → HR X.K M H' → Rep X.K M H' dz w → Q w H') → wpAny (model X.prog X.w) X.A (call f us) (EP X pins σ Q) X.xe s
def dOp (r : D → D → Option D) (ta tb : TEd) : TEd := fun Δ M Q => ta Δ M fun x M1 => tb Δ M1 fun y M2 => ∃ z, r (rdM M2 x) (rdM M2 y) = some z ∧ Q z M2
def opV (K : PySem.W.Frag) (r : D → D → Option D) : R2 := fun x y H Q => ∃ dx dy dz M, HR K M H ∧ RepR K M H dx x ∧ RepR K M H dy y ∧ r dx dy = some dz ∧ ∀ w H', Ext M H M H' → HR K M H' → Rep K M H' dz w → Q w H'
theorem OpRd.v {f : Value → Value → Sem Value} {r : D → D → Option D} (h : OpRd X f r) : OpR X f (opV X.K r) := fun pins s σ H x y v u Q I rx ry ⟨dx, dy, dz, M, hr, r1, r2, e, k⟩ => h pins s σ H M x y v u dx dy dz Q I hr rx ry r1 r2 e k
theorem conv2 {K : PySem.W.Frag} {r : D → D → Option D} {ta tb : TEd} : ∀ σ H Q, up K (dOp r ta tb) σ H Q → tOp (opV K r) (up K ta) (up K tb) σ H Q := fun σ H Q ⟨Δ, M, R, sr, hr, q, k⟩ =>
  ⟨Δ, M, _, sr, hr, q, fun x M1 v H1 q1 e1 hr1 rv => ⟨Δ, M1, _, sr.ext e1, hr1, q1, fun y M2 u H2 ⟨z, ez, q2⟩ e2 hr2 ru => ⟨_, _, z, M2, hr2, (rv.ext e2).rd hr2, ru.rd hr2, ez, fun w H' e3 hr3 rw_ => k z M2 w H' q2 ((e1.trans e2).trans e3) hr3 rw_⟩⟩⟩
theorem d_op {op : Operator} {r : D → D → Option D} (ho : OpRd X (binaryOp op) r) (ha : PEd X a ta) (hb : PEd X b tb) : PEd X (.BinOp a op b pos) (dOp r ta tb) := (pe_op ho.v ha hb).conv conv2
theorem d_cmp {op : CmpOp} {r : D → D → Option D} (ho : OpRd X (compareOp op) r) (ha : PEd X a ta) (hb : PEd X b tb) (hm : behindInMarks op b = false) : PEd X (.Compare a [op] [b] pos) (dOp r ta tb) := (pe_cmpR ho.v ha hb hm).conv conv2
theorem d_ix {r : D → D → Option D} (ho : IxR X (opV X.K r)) (ha : PEd X a ta) (hb : PEd X b tb) (hs : PlainIx b) : PEd X (.Subscript a b pos) (dOp r ta tb) := (pe_ix ho ha hb hs).conv conv2
/-! tests -/
def dTst (t : TEd) : TTd := fun Δ M Q => t Δ M fun x M1 => ∃ k, x = .bl k ∧ Q k M1
theorem convT {K : PySem.W.Frag} {t : TEd} : ∀ σ H Q, upT K (dTst t) σ H Q → tTest (up K t) σ H Q := fun σ H Q ⟨Δ, M, R, sr, hr, q, k⟩ =>
  ⟨Δ, M, _, sr, hr, q, fun d M1 v H1 ⟨b, e, q1⟩ e1 hr1 rv => ⟨b, by subst e; simpa only [Rep] using rv, k b M1 H1 q1 e1 hr1⟩⟩
theorem d_tcmp {op : CmpOp} {r : D → D → Option D} (ho : OpRd X (compareOp op) r) (ha : PEd X a ta) (hb : PEd X b tb) (hm : behindInMarks op b = false) : PTd X (.Compare a [op] [b] pos) (dTst (dOp r ta tb)) := by
  refine (pt_cmpR ho.v ha hb hm).conv fun σ H Q h => ?_
  obtain ⟨Δ, M, R, sr, hr, q, k⟩ := h
  exact ⟨Δ, M, _, sr, hr, q, fun x M1 v H1 q1 e1 hr1 rv => ⟨Δ, M1, _, sr.ext e1, hr1, q1, fun y M2 u H2 ⟨z, ez, b, eb, q2⟩ e2 hr2 ru => ⟨_, _, z, M2, hr2, (rv.ext e2).rd hr2, ru.rd hr2, ez, fun w H' e3 hr3 rw_ =>
    ⟨b, by subst eb; simpa only [Rep] using rw_, k b M2 H' q2 ((e1.trans e2).trans e3) hr3⟩⟩⟩⟩
theorem d_tval (h : PEd X a ta) (he : ∀ whole, isTrue a X.env whole = (do let v ← whole; standAt a.pos; holding [v] (truthy v)) := by intro _; rfl) : PTd X a (dTst ta) := (pt_val h he).conv convT
def dNotT (t : TTd) : TTd := fun Δ M Q => t Δ M fun c M1 => Q (!c) M1
def dAndT (t u : TTd) : TTd := fun Δ M Q => t Δ M fun c M1 => if c = true then u Δ M1 Q else Q false M1
def dOrT (t u : TTd) : TTd := fun Δ M Q => t Δ M fun c M1 => if c = true then Q true M1 else u Δ M1 Q
variable {tA tB' : TTd} {rest : List Expr}
theorem d_tnot (h : PTd X a tA) : PTd X (.UnaryOp .Not a pos) (dNotT tA) := (pt_not h).conv fun σ H Q ⟨Δ, M, R, sr, hr, q, k⟩ => ⟨Δ, M, _, sr, hr, q, fun b M1 H1 q1 e1 hr1 => k _ M1 H1 q1 e1 hr1⟩
theorem PW.conv {X : Cx} {e : Expr} {t t' : TT} (h : PW X e t) (k : ∀ σ H Q, t' σ H Q → t σ H Q) : PW X e t' := fun w p s σ H Q I q => h w p s σ H Q I (k σ H Q q)
theorem d_tand1 (ha : PTd X a tA) : PWd X (.BoolOp .And [a] pos) tA := pw_and1 ha
theorem d_tor1 (ha : PTd X a tA) : PWd X (.BoolOp .Or [a] pos) tA := pw_or1 ha
theorem d_tand (ha : PTd X a tA) (hb : PWd X (.BoolOp .And (b :: rest) pos) tB') : PWd X (.BoolOp .And (a :: b :: rest) pos) (dAndT tA tB') :=
  (pw_and ha hb).conv fun σ H Q ⟨Δ, M, R, sr, hr, q, k⟩ => ⟨Δ, M, _, sr, hr, q, fun c M1 H1 q1 e1 hr1 => by
    cases c with
    | true => simp only [if_true] at q1 ⊢; exact ⟨Δ, M1, R, sr.ext e1, hr1, q1, fun b M2 H2 q2 e2 hr2 => k b M2 H2 q2 (e1.trans e2) hr2⟩
    | false => simp only [Bool.false_eq_true, if_false] at q1 ⊢; exact k _ M1 H1 q1 e1 hr1⟩
theorem d_tor (ha : PTd X a tA) (hb : PWd X (.BoolOp .Or (b :: rest) pos) tB') : PWd X (.BoolOp .Or (a :: b :: rest) pos) (dOrT tA tB') :=
  (pw_or ha hb).conv fun σ H Q ⟨Δ, M, R, sr, hr, q, k⟩ => ⟨Δ, M, _, sr, hr, q, fun c M1 H1 q1 e1 hr1 => by
    cases c with
    | false => simp only [Bool.false_eq_true, if_false] at q1 ⊢; exact ⟨Δ, M1, R, sr.ext e1, hr1, q1, fun b M2 H2 q2 e2 hr2 => k b M2 H2 q2 (e1.trans e2) hr2⟩
    | true => simp only [if_true] at q1 ⊢; exact k _ M1 H1 q1 e1 hr1⟩
theorem PWd.pt {e : Expr} {t : TTd} (h : PWd X e t) : PTd X e t := PW.pt h
/-! and, or, not, if as values -/
def dAnd (ta tb : TEd) : TEd := fun Δ M Q => ta Δ M fun x M1 => ∃ c, x = .bl c ∧ if c = true then tb Δ M1 Q else Q (.bl false) M1
def dNot (ta : TEd) : TEd := fun Δ M Q => ta Δ M fun x M1 => ∃ c, x = .bl c ∧ Q (.bl (!c)) M1
theorem d_one {op} (h : PEd X a ta) : PEd X (.BoolOp op [a] pos) ta := pe_one h
theorem d_and (ha : PEd X a ta) (hb : PEd X (.BoolOp .And (b :: rest) pos) tb) : PEd X (.BoolOp .And (a :: b :: rest) pos) (dAnd ta tb) :=
  (pe_and ha hb).conv fun σ H Q ⟨Δ, M, R, sr, hr, q, k⟩ => ⟨Δ, M, _, sr, hr, q, fun d M1 v H1 ⟨c, e, q1⟩ e1 hr1 rv => ⟨c, by subst e; simpa only [Rep] using rv, by
    cases c with
    | true => simp only [if_true] at q1 ⊢; exact ⟨Δ, M1, R, sr.ext e1, hr1, q1, fun b M2 v2 H2 q2 e2 hr2 r2 => k b M2 v2 H2 q2 (e1.trans e2) hr2 r2⟩
    | false => simp only [Bool.false_eq_true, if_false] at q1 ⊢; exact k _ M1 _ H1 q1 e1 hr1 (by simp [Rep])⟩⟩
theorem d_not (ha : PEd X a ta) : PEd X (.UnaryOp .Not a pos) (dNot ta) := (pe_not ha).conv fun σ H Q ⟨Δ, M, R, sr, hr, q, k⟩ => ⟨Δ, M, _, sr, hr, q, fun d M1 v H1 ⟨c, e, q1⟩ e1 hr1 rv =>
  ⟨c, by subst e; simpa only [Rep] using rv, k _ M1 _ H1 q1 e1 hr1 (by simp [Rep])⟩⟩
/-! a < b < c -/
def dChain (r r' : D → D → Option D) (ta tb tc : TEd) : TEd := fun Δ M Q => ta Δ M fun x M1 => tb Δ M1 fun y M2 => ∃ k, r (rdM M2 x) (rdM M2 y) = some (.bl k) ∧ if k = true then tc Δ M2 fun z M3 => ∃ w, r' (rdM M3 y) (rdM M3 z) = some w ∧ Q w M3 else Q (.bl false) M2
theorem d_chain {tc : TEd} {op op' : CmpOp} {r r' : D → D → Option D} (ho : OpRd X (compareOp op) r) (ho' : OpRd X (compareOp op') r') (ha : PEd X a ta) (hb : PEd X b tb) (hc : PEd X c tc)
    (hm : lastMarks [op, op'] [b, c] = false := by with_unfolding_all rfl) : PEd X (.Compare a [op, op'] [b, c] pos) (dChain r r' ta tb tc) := by
  refine (pe_chain ho.v ho'.v ha hb hc hm).conv fun σ H Q h => ?_
  obtain ⟨Δ, M, R, sr, hr, q, k⟩ := h
  refine ⟨Δ, M, _, sr, hr, q, fun x M1 v H1 q1 e1 hr1 rv => ⟨Δ, M1, _, sr.ext e1, hr1, q1, fun y M2 u H2 ⟨b, eb, q2⟩ e2 hr2 ru => ⟨_, _, .bl b, M2, hr2, (rv.ext e2).rd hr2, ru.rd hr2, eb, fun w H3 e3 hr3 rw_ =>
    ⟨b, by simpa only [Rep] using rw_, ?_⟩⟩⟩⟩
  cases b with
  | true =>
    simp only [if_true] at q2 ⊢
    exact ⟨Δ, M2, _, (sr.ext (e1.trans e2)).ext e3, hr3, q2, fun z M4 w4 H4 ⟨d, ed, q4⟩ e4 hr4 r4 => ⟨_, _, d, M4, hr4, ((ru.ext e3).ext e4).rd hr4, r4.rd hr4, ed, fun w5 H5 e5 hr5 r5 => k d M4 w5 H5 q4 ((((e1.trans e2).trans e3).trans e4).trans e5) hr5 r5⟩⟩
  | false =>
    simp only [Bool.false_eq_true, if_false] at q2 ⊢
    exact k _ M2 _ H3 q2 ((e1.trans e2).trans e3) hr3 (by simp [Rep])
/-! calls of what is built in -/
theorem rd_list {K : PySem.W.Frag} {M : DH} {H : Hp} (hr : HR K M H) : ∀ {ds : List D} {vs : List V}, RepL K M H ds vs → Paired (RepR K M H) (ds.map (rdM M)) vs
  | [], _, h => by simp only [RepL] at h; subst h; exact .nil
  | d :: ds, _, h => by
    simp only [RepL] at h
    obtain ⟨v, ws, rfl, h1, h2⟩ := h
    exact .cons (h1.rd hr) (rd_list hr h2)
def dCB (r : List D → Option D) (t : TAd) : TEd := fun Δ M Q => t Δ M fun ds M1 => ∃ z, r (ds.map (rdM M1)) = some z ∧ Q z M1
theorem convB {K : PySem.W.Frag} {r : List D → Option D} {t : TAd} : ∀ σ H Q, up K (dCB r t) σ H Q → tCB (fun xs H Q => ∃ ds dz M, HR K M H ∧ Paired (RepR K M H) ds xs ∧ r ds = some dz ∧ ∀ w H', Ext M H M H' → HR K M H' → Rep K M H' dz w → Q w H') (upA K t) σ H Q := fun σ H Q ⟨Δ, M, R, sr, hr, q, k⟩ =>
  ⟨Δ, M, _, sr, hr, q, fun ds M1 vs H1 ⟨z, ez, q1⟩ e1 hr1 rv => ⟨_, z, M1, hr1, rd_list hr1 rv, ez, fun w H' e2 hr2 r2 => k z M1 w H' q1 (e1.trans e2) hr2 r2⟩⟩
theorem CallRd.v {f : Value} {r : List D → Option D} (h : CallRd X f r) : CallR X f (fun xs H Q => ∃ ds dz M, HR X.K M H ∧ Paired (RepR X.K M H) ds xs ∧ r ds = some dz ∧ ∀ w H', Ext M H M H' → HR X.K M H' → Rep X.K M H' dz w → Q w H') :=
  fun pins s σ H xs us Q I rv ⟨ds, dz, M, hr, rr, e, k⟩ => h pins s σ H M xs us ds dz Q I hr rv rr e k
theorem d_callB {x : Str} {p : Pos} {e : Expr} {es : List Expr} {t : TAd} {id : String} {r : List D → Option D} (hc : CallRd X (.builtin id) r) (hg : Gl X x) (hm : X.mg x = none) (hv : bootBuiltins x = some (.builtin id)) (ha : PAd X (e :: es) t) (hn : x ≠ "__name__" := by decide) (hdb : (x == ("__debug__" : Str)) = false := by decide)
    (he : starEach (e :: es) X.env = (false, eval e X.env) :: starEach es X.env := by rfl) (hpl : (backTo pos (starEach es X.env)).any (·.1) = false := by rfl) : PEd X (.Call (.Name x p) (e :: es) [] pos) (dCB r t) :=
  (pe_callB hc.v hg hm hv ha hn hdb he hpl).conv convB
theorem d_callTy {x : Str} {p : Pos} {e : Expr} {es : List Expr} {t : TAd} {id : String} {r : List D → Option D} (hc : CallRd X (.type id) r) (hg : Gl X x) (hm : X.mg x = none) (hv : bootBuiltins x = some (.type id)) (ha : PAd X (e :: es) t) (hn : x ≠ "__name__" := by decide) (hdb : (x == ("__debug__" : Str)) = false := by decide)
    (he : starEach (e :: es) X.env = (false, eval e X.env) :: starEach es X.env := by rfl) (hpl : (backTo pos (starEach es X.env)).any (·.1) = false := by rfl) : PEd X (.Call (.Name x p) (e :: es) [] pos) (dCB r t) :=
  (pe_callTy hc.v hg hm hv ha hn hdb he hpl).conv convB
end
end L2

set_option Elab.async false
set_option linter.all false
set_option maxRecDepth 100000
namespace L2
open PySem PySem.Spec PyProof.Rows
section
variable {X : Cx}
theorem OpRd.of {f : Value → Value → Sem Value} {r2 : R2} {r : D → D → Option D} (h : OpR X f r2)
    (k : ∀ (H : Hp) (M : DH) (x y : V) (dx dy dz : D) (Q : VK), HR X.K M H → RepR X.K M H dx x → RepR X.K M H dy y → r dx dy = some dz → (∀ w H', Ext M H M H' → HR X.K M H' → Rep X.K M H' dz w → Q w H') → r2 x y H Q) : OpRd X f r :=
  fun pins s σ H M x y v u dx dy dz Q I hr rx ry r1 r2 e q => h pins s σ H x y v u Q I rx ry (k H M x y dx dy dz Q hr r1 r2 e q)
theorem CallRd.of {f : Value} {r2 : List V → Hp → VK → Prop} {r : List D → Option D} (h : CallR X f r2)
    (k : ∀ (H : Hp) (M : DH) (xs : List V) (ds : List D) (dz : D) (Q : VK), HR X.K M H → Paired (RepR X.K M H) ds xs → r ds = some dz → (∀ w H', Ext M H M H' → HR X.K M H' → Rep X.K M H' dz w → Q w H') → r2 xs H Q) : CallRd X f r :=
  fun pins s σ H M xs us ds dz Q I hr rv r1 e q => h pins s σ H xs us Q I rv (k H M xs ds dz Q hr r1 e q)
theorem rInt {K : PySem.W.Frag} {M : DH} {H : Hp} {i : Int} {v : V} (h : RepR K M H (.int i) v) : v = .int i := by simpa [RepR, Rep] using h
theorem rStr {K : PySem.W.Frag} {M : DH} {H : Hp} {i : Str} {v : V} (h : RepR K M H (.str i) v) : v = .str i := by simpa [RepR, Rep] using h
theorem rNon {K : PySem.W.Frag} {M : DH} {H : Hp} {v : V} (h : RepR K M H .non v) : v = .non := by simpa [RepR, Rep] using h

/-! ### ints -/
def iOp (f : Int → Int → Option D) : D → D → Option D
  | .int a, .int b => f a b
  | _, _ => none
theorem iOp_some {f : Int → Int → Option D} {x y z : D} (h : iOp f x y = some z) : ∃ a b, x = .int a ∧ y = .int b ∧ f a b = some z := by
  cases x <;> first | cases h | skip
  rename_i a
  cases y <;> first | cases h | skip
  rename_i b
  exact ⟨a, b, rfl, rfl, h⟩
def scalD : D → Bool
  | .non => true | .bl _ => true | .int _ => true | .str _ => true | _ => false
def toV : D → V
  | .bl b => .bl b | .int i => .int i | .str x => .str x | _ => .non
theorem scal_rep {K : PySem.W.Frag} {M : DH} {H : Hp} {d : D} (h : scalD d = true) : Rep K M H d (toV d) := by
  cases d <;> first | (simp [Rep, toV]; done) | cases h
theorem opInt {f : Value → Value → Sem Value} {C : Int → Int → Prop} [∀ i j, Decidable (C i j)] {g : Int → Int → D} (hs : ∀ i j, scalD (g i j) = true) (h : OpR X f (rI C fun i j => toV (g i j))) :
    OpRd X f (iOp fun i j => if C i j then some (g i j) else none) :=
  OpRd.of h fun H M x y dx dy dz Q hr r1 r2 e q => by
    obtain ⟨a, b, rfl, rfl, e'⟩ := iOp_some e
    clear e
    have e := e'
    by_cases hc : C a b
    · rw [if_pos hc] at e; cases e
      exact ⟨a, b, rInt r1, rInt r2, hc, q _ _ (Ext.refl _ _) hr (scal_rep (hs a b))⟩
    · rw [if_neg hc] at e; cases e
theorem opInt0 {f : Value → Value → Sem Value} {g : Int → Int → D} (hs : ∀ i j, scalD (g i j) = true) (h : OpR X f (rI0 fun i j => toV (g i j))) :
    OpRd X f (iOp fun i j => some (g i j)) :=
  OpRd.of h fun H M x y dx dy dz Q hr r1 r2 e q => by
    obtain ⟨a, b, rfl, rfl, e⟩ := iOp_some e
    cases e
    exact ⟨a, b, rInt r1, rInt r2, q _ _ (Ext.refl _ _) hr (scal_rep (hs a b))⟩
instance : ∀ i j, Decidable (CDiv i j) := fun i j => by unfold CDiv; exact inferInstance
instance : ∀ i j, Decidable (CMul i j) := fun i j => by unfold CMul; exact inferInstance
instance : ∀ i j, Decidable (CPow i j) := fun i j => by unfold CPow; exact inferInstance
theorem o_sub : OpRd X (binaryOp .Sub) (iOp fun i j => some (.int (i - j))) := opInt0 (fun _ _ => rfl) op_sub
theorem o_mulI : OpRd X (binaryOp .Mult) (iOp fun i j => if CMul i j then some (.int (i * j)) else none) := opInt (fun _ _ => rfl) op_mul
theorem o_mod : OpRd X (binaryOp .Mod) (iOp fun i j => if 0 < j then some (.int (i % j)) else none) := opInt (C := fun _ j => 0 < j) (fun _ _ => rfl) op_mod
theorem o_pow : OpRd X (binaryOp .Pow) (iOp fun i j => if CPow i j then some (.int (i ^ j.toNat)) else none) := opInt (fun _ _ => rfl) op_pow
theorem o_lt : OpRd X (compareOp .Lt) (iOp fun i j => some (.bl (decide (i < j)))) := opInt0 (fun _ _ => rfl) op_lt
theorem o_le : OpRd X (compareOp .LtE) (iOp fun i j => some (.bl (decide (i ≤ j)))) := opInt0 (fun _ _ => rfl) op_le

/-! ### places -/
theorem RepL.at_ {K : PySem.W.Frag} {M : DH} {H : Hp} {ds : List D} {vs : List V} {i : Int} {d : D} (h : RepL K M H ds vs) (e : atI ds i = some d) : ∃ v, atI vs i = some v ∧ Rep K M H d v := by
  unfold atI at e ⊢
  rw [← h.length]
  cases q : ixN ds.length i with
  | none => rw [q] at e; cases e
  | some j =>
    rw [q] at e
    have e' : ds[j]? = some d := e
    obtain ⟨v, a, b⟩ := h.get e'
    exact ⟨v, a, b⟩
def ixD : D → D → Option D
  | .tup ds, .int i => atI ds i
  | .lst ds, .int i => atI ds i
  | .scr ds, .int i => atI ds i
  | .str z, .int i => if z.length ≤ sizeLine then (atI z.cps.toList i).map fun c => .str ⟨#[c]⟩ else none
  | _, _ => none
theorem o_ix : IxR X (opV X.K ixD) := by
  intro value slice pins s σ H x y v u Q I rx ry h hs
  obtain ⟨dx, dy, dz, M, hr, r1, r2, e, k⟩ := h
  cases dx with
  | tup ds =>
    cases dy with
    | int i =>
      obtain ⟨a, vs, rfl, sq, rl⟩ := r1
      obtain ⟨w, e2, rw_⟩ := rl.at_ e
      exact ix_tup value slice pins s σ H _ _ v u Q I rx ry ⟨a, vs, i, w, rfl, rInt r2, sq, e2, k w H (Ext.refl _ _) hr rw_⟩ hs
    | _ => cases e
  | lst ds =>
    cases dy with
    | int i =>
      obtain ⟨a, vs, rfl, sq, rl⟩ := r1
      obtain ⟨w, e2, rw_⟩ := rl.at_ e
      exact ix_list value slice pins s σ H _ _ v u Q I rx ry ⟨a, vs, i, w, rfl, rInt r2, SqL.of sq, e2, k w H (Ext.refl _ _) hr rw_⟩ hs
    | _ => cases e
  | scr ds =>
    cases dy with
    | int i =>
      obtain ⟨a, vs, rfl, sq, rl⟩ := r1
      obtain ⟨w, e2, rw_⟩ := rl.at_ e
      exact ix_list value slice pins s σ H _ _ v u Q I rx ry ⟨a, vs, i, w, rfl, rInt r2, sq, e2, k w H (Ext.refl _ _) hr rw_⟩ hs
    | _ => cases e
  | str z =>
    cases dy with
    | int i =>
      simp only [ixD] at e
      by_cases hz : z.length ≤ sizeLine
      · rw [if_pos hz] at e
        cases q : atI z.cps.toList i with
        | none => rw [q] at e; cases e
        | some c =>
          rw [q] at e; cases e
          exact ix_str value slice pins s σ H _ _ v u Q I rx ry ⟨z, i, c, rStr r1, rInt r2, hz, q, k _ H (Ext.refl _ _) hr (by simp [Rep])⟩ hs
      · rw [if_neg hz] at e; cases e
    | _ => cases e
  | _ => cases e

/-! ### + -/
def addD : D → D → Option D
  | .int a, .int b => some (.int (a + b))
  | .str a, .str b => if a.length + b.length ≤ sizeLine then some (.str (a ++ b)) else none
  | .lst a, .lst b => if a.length + b.length ≤ sizeLine then some (.lst (a ++ b)) else none
  | .tup a, .tup b => if a.length + b.length ≤ sizeLine then some (.tup (a ++ b)) else none
  | _, _ => none
theorem freshL {K : PySem.W.Frag} {M : DH} {H : Hp} {p : Addr} {ds : List D} {vs : List V} {Q : VK} (hr : HR K M H) (hp : H p = none) (r : RepL K M H ds vs) (q : ∀ w H', Ext M H M H' → HR K M H' → Rep K M H' (.lst ds) w → Q w H') : Q (.ref p) (upd H p (.lst vs)) :=
  q _ _ (Ext.new hr hp) (hr.new hp) (by simp only [Rep]; exact ⟨p, vs, rfl, ⟨upd_same, hr.fresh hp⟩, r.ext (Ext.new hr hp)⟩)
theorem freshT {K : PySem.W.Frag} {M : DH} {H : Hp} {p : Addr} {ds : List D} {vs : List V} {Q : VK} (hr : HR K M H) (hp : H p = none) (r : RepL K M H ds vs) (q : ∀ w H', Ext M H M H' → HR K M H' → Rep K M H' (.tup ds) w → Q w H') : Q (.ref p) (upd H p (.tup vs)) :=
  q _ _ (Ext.new hr hp) (hr.new hp) (by simp only [Rep]; exact ⟨p, vs, rfl, .inl ⟨.inl upd_same, hr.fresh hp⟩, r.ext (Ext.new hr hp)⟩)
theorem RepR.tup {K : PySem.W.Frag} {M : DH} {H : Hp} {ds : List D} {v : V} (hr : HR K M H) (h : RepR K M H (.tup ds) v) : Rep K M H (.tup ds) v := by
  obtain ⟨a, vs, rfl, sq, rl⟩ := h
  simp only [Rep]
  refine ⟨a, vs, rfl, ?_, rl⟩
  rcases sq with r | k
  · refine .inl ⟨r, ?_⟩
    cases q : M a with
    | none => rfl
    | some o =>
      cases o with
      | lst es =>
        obtain ⟨us, z, _⟩ := hr a _ q
        rcases r with r | ⟨o, r⟩ <;> (rw [z] at r; cases r)
  · exact .inr (.inr k)
theorem cat_tup0 {prog : Program} {w : World} {A : Around} {E : Value → Shared → Prop} {s : Shared} {t b : Addr} {ws : List Value} {Q : Value → Shared → Prop} (ht : IsTup s.heap t ([] : List Value).toArray) (hb : IsTup s.heap b ws.toArray)
    (h : Q (.ref b) s) : wpAny (model prog w) A (binaryOp .Add (.ref t) (.ref b)) Q E s := by
  obtain ⟨⟨cls, dd, data, sl⟩, ho, hc, n, hd⟩ := id ht
  obtain ⟨⟨cls2, dd2, data2, sl2⟩, ho2, hc2, n2, hd2⟩ := id hb
  simp only at hc hd hc2 hd2
  subst hc hd hc2 hd2
  exact concat_meets ⟨_, ho, rfl⟩ ⟨_, ho2, rfl⟩ noFill_tuple_add seq_tuple_add PySem.F.slot_tuple_add PySem.F.entry_tuple_add (PySem.F.args_tuple_add_2 _ _)
      (tuple_addW0 t b ([] : List Value).toArray ws.toArray n n2 dd dd2 sl sl2 (by simp)) ⟨ho, ho2, h⟩
theorem o_add : OpRd X (binaryOp .Add) addD := by
  intro pins s σ H M x y v u dx dy dz Q I hr rx ry r1 r2 e k
  cases dx with
  | int a =>
    cases dy with
    | int b =>
      cases e
      exact op_add pins s σ H x y v u Q I rx ry ⟨a, b, rInt r1, rInt r2, k _ H (Ext.refl _ _) hr (by simp [Rep])⟩
    | _ => cases e
  | str a =>
    cases dy with
    | str b =>
      simp only [addD] at e
      by_cases hz : a.length + b.length ≤ sizeLine
      · rw [if_pos hz] at e; cases e
        exact op_add_str pins s σ H x y v u Q I rx ry ⟨a, b, rStr r1, rStr r2, hz, k _ H (Ext.refl _ _) hr (by simp [Rep])⟩
      · rw [if_neg hz] at e; cases e
    | _ => cases e
  | lst a =>
    cases dy with
    | lst b =>
      simp only [addD] at e
      by_cases hz : a.length + b.length ≤ sizeLine
      · rw [if_pos hz] at e; cases e
        obtain ⟨l1, vs, rfl, h1, l1r⟩ := r1
        obtain ⟨l2, ws, rfl, h2, l2r⟩ := r2
        exact op_cat pins s σ H _ _ v u Q I rx ry ⟨l1, l2, vs, ws, rfl, rfl, h1, h2, by rw [← l1r.length, ← l2r.length]; exact hz, fun p hp => freshL hr hp (l1r.append l2r) k⟩
      · rw [if_neg hz] at e; cases e
    | _ => cases e
  | tup a =>
    cases dy with
    | tup b =>
      simp only [addD] at e
      by_cases hz : a.length + b.length ≤ sizeLine
      · rw [if_pos hz] at e; cases e
        have t1 := RepR.tup hr r1
        have t2 := RepR.tup hr r2
        obtain ⟨l1, vs, rfl, h1, l1r⟩ := r1
        obtain ⟨l2, ws, rfl, h2, l2r⟩ := r2
        by_cases hv : vs = []
        · subst hv
          have ea : a = [] := by
            have := l1r.length
            cases a with
            | nil => rfl
            | cons _ _ => simp at this
          subst ea
          cases rx
          cases ry
          obtain ⟨its, q1, p1, _⟩ := I.tuple h1
          obtain ⟨its2, q2, p2, _⟩ := I.tuple h2
          cases q1
          exact cat_tup0 p1 p2 ⟨.ref l2, H, I, rfl, k _ H (Ext.refl _ _) hr t2⟩
        · refine op_catT pins s σ H _ _ v u Q I rx ry ⟨l1, l2, vs, ws, rfl, rfl, h1, h2, hv, by rw [← l1r.length, ← l2r.length]; exact hz, fun hw => ?_, fun _ p hp => freshT hr hp (l1r.append l2r) k⟩
          subst hw
          have eb : b = [] := by
            have := l2r.length
            cases b with
            | nil => rfl
            | cons _ _ => simp at this
          subst eb
          rw [List.append_nil] at k
          exact k _ H (Ext.refl _ _) hr t1
      · rw [if_neg hz] at e; cases e
    | _ => cases e
  | _ => cases e

/-! ### ==, deep -/
mutual
def eqD : D → D → Bool
  | .non, .non => true
  | .bl a, .bl b => a == b
  | .bl a, .int b => (if a then 1 else 0) == b
  | .int a, .bl b => a == (if b then 1 else 0)
  | .int a, .int b => a == b
  | .str a, .str b => a == b
  | .tup a, .tup b => eqDs a b
  | .lst a, .lst b => eqDs a b
  | _, _ => false
def eqDs : List D → List D → Bool
  | [], [] => true
  | a :: as, b :: bs => eqD a b && eqDs as bs
  | _, _ => false
end
mutual
def dLe : D → Nat → Bool
  | .tup _, 0 => false
  | .tup ds, n + 1 => dLes ds n
  | .lst _, 0 => false
  | .lst ds, n + 1 => dLes ds n
  | .scr _, _ => false
  | .emp, _ => false
  | .ref _, _ => false
  | _, _ => true
def dLes : List D → Nat → Bool
  | [], _ => true
  | d :: ds, n => dLe d n && dLes ds n
end
theorem dLes_get : ∀ {ds : List D} {n i : Nat} {d : D}, dLes ds n = true → ds[i]? = some d → dLe d n = true
  | [], _, _, _, _, e => by simp at e
  | d :: ds, n, 0, x, h, e => by
    simp only [dLes, Bool.and_eq_true] at h
    simp at e; subst e; exact h.1
  | d :: ds, n, i + 1, x, h, e => by
    simp only [dLes, Bool.and_eq_true] at h
    exact dLes_get h.2 (by simpa using e)
theorem dLes_iff : ∀ {ds : List D} {n : Nat}, dLes ds n = true ↔ ∀ d ∈ ds, dLe d n = true
  | [], n => by simp [dLes]
  | d :: ds, n => by simp [dLes, dLes_iff (ds := ds)]
def eqN (ds es : List D) (j : Nat) : Bool := match ds[j]?, es[j]? with | some a, some b => eqD a b | _, _ => false
theorem eqDs_len : ∀ {ds es : List D}, eqDs ds es = true → ds.length = es.length
  | [], [], _ => rfl
  | [], _ :: _, h => by simp [eqDs] at h
  | _ :: _, [], h => by simp [eqDs] at h
  | _ :: ds, _ :: es, h => by
    simp only [eqDs, Bool.and_eq_true] at h
    simp [eqDs_len h.2]
theorem eqDs_all : ∀ {ds es : List D}, eqDs ds es = ((List.range (min ds.length es.length)).all (eqN ds es) && ds.length == es.length)
  | [], [] => by simp [eqDs]
  | [], _ :: _ => by simp [eqDs]
  | _ :: _, [] => by simp [eqDs]
  | a :: ds, b :: es => by
    have ih := @eqDs_all ds es
    simp only [eqDs, List.length_cons, Nat.add_min_add_right, List.range_succ_eq_map, List.all_cons, List.all_map]
    have e0 : eqN (a :: ds) (b :: es) 0 = eqD a b := by simp [eqN]
    have e1 : (eqN (a :: ds) (b :: es)) ∘ Nat.succ = eqN ds es := by
      funext j; simp [eqN]
    rw [e0, e1, ih]
    have e2 : (ds.length + 1 == es.length + 1) = (ds.length == es.length) := by
      rw [Bool.eq_iff_iff]; simp
    rw [e2, Bool.and_assoc]
theorem eqDs_all' {ds es : List D} (h : ds.length = es.length) : eqDs ds es = (List.range ds.length).all (eqN ds es) := by
  rw [eqDs_all, ← h, Nat.min_self]; simp
theorem Rep.r {K : PySem.W.Frag} {M : DH} {H : Hp} {d : D} {v : V} (h : Rep K M H d v) : RepR K M H d v := by
  cases d with
  | tup ds => simp only [Rep] at h; obtain ⟨a, vs, e, t, r⟩ := h; exact ⟨a, vs, e, t.sq, r⟩
  | lst ds => simp only [Rep] at h; obtain ⟨a, vs, e, t, r⟩ := h; exact ⟨a, vs, e, t.1, r⟩
  | scr ds => simp only [Rep] at h; obtain ⟨a, vs, e, t, r⟩ := h; exact ⟨a, vs, e, t.sq, r⟩
  | _ => exact h
theorem notTL {pins : List (Addr × Obj)} {σ : St} {H : Hp} {s : Shared} {a : Addr} {vs ws : List V} (I : Inv X pins σ H s) (h : SqT X.K H a vs) (h' : H a = some (.lst ws)) : False := by
  obtain ⟨its, r, ⟨o, e, c, n, d⟩, _⟩ := I.tuple h
  obtain ⟨_, its', n', _, e'⟩ := I.hok a _ h'
  rw [e] at e'; cases e'
  exact absurd (show Value.type "list" = Value.type "tuple" from c) (by decide)
theorem rep_same {pins : List (Addr × Obj)} {σ : St} {H : Hp} {s : Shared} (I : Inv X pins σ H s) {M M' : DH} : ∀ (n : Nat) {d e : D} {v : V}, dLe d n = true → dLe e n = true → RepR X.K M H d v → RepR X.K M' H e v → eqD d e = true := by
  intro n
  induction n with
  | zero =>
    intro d e v hd he r1 r2
    cases d <;> first | (simp [dLe] at hd; done) | skip
    all_goals cases e <;> first | (simp [dLe] at he; done) | skip
    all_goals (simp only [RepR, Rep] at r1 r2; subst r1; first | (cases r2; simp [eqD]; done) | cases r2)
  | succ n ih =>
    intro d e v hd he r1 r2
    have lists : ∀ {ds es : List D} {vs : List V}, dLes ds n = true → dLes es n = true → RepL X.K M H ds vs → RepL X.K M' H es vs → eqDs ds es = true := by
      intro ds
      induction ds with
      | nil =>
        intro es vs _ _ h1 h2
        simp only [RepL] at h1; subst h1
        cases es with
        | nil => simp [eqDs]
        | cons _ _ => simp [RepL] at h2
      | cons a ds ihl =>
        intro es vs d1 d2 h1 h2
        simp only [RepL] at h1
        obtain ⟨v, ws, rfl, h3, h4⟩ := h1
        cases es with
        | nil => simp [RepL] at h2
        | cons b es =>
          simp only [RepL] at h2
          obtain ⟨v', ws', e', h5, h6⟩ := h2
          cases e'
          simp only [dLes, Bool.and_eq_true] at d1 d2
          simp only [eqDs, Bool.and_eq_true]
          exact ⟨ih d1.1 d2.1 h3.r h5.r, ihl d1.2 d2.2 h4 h6⟩
    cases d with
    | tup ds =>
      obtain ⟨a, vs, rfl, sq, rl⟩ := r1
      cases e with
      | tup es =>
        obtain ⟨b, ws, e', sq', rl'⟩ := r2
        cases e'
        have := I.tuple_inj sq sq'
        subst this
        simp only [eqD]
        exact lists (by simpa [dLe] using hd) (by simpa [dLe] using he) rl rl'
      | lst es =>
        obtain ⟨b, ws, e', sq', rl'⟩ := r2
        cases e'
        exact (notTL I sq sq').elim
      | _ => first | (simp [dLe] at he; done) | (simp only [RepR, Rep] at r2; cases r2)
    | lst ds =>
      obtain ⟨a, vs, rfl, sq, rl⟩ := r1
      cases e with
      | lst es =>
        obtain ⟨b, ws, e', sq', rl'⟩ := r2
        cases e'
        rw [sq] at sq'
        cases sq'
        simp only [eqD]
        exact lists (by simpa [dLe] using hd) (by simpa [dLe] using he) rl rl'
      | tup es =>
        obtain ⟨b, ws, e', sq', rl'⟩ := r2
        cases e'
        exact (notTL I sq' sq).elim
      | _ => first | (simp [dLe] at he; done) | (simp only [RepR, Rep] at r2; cases r2)
    | _ =>
      first
      | (simp [dLe] at hd; done)
      | (cases e with
         | tup es => (obtain ⟨b, ws, e', sq', rl'⟩ := r2; subst e'; simp only [RepR, Rep] at r1; cases r1)
         | lst es => (obtain ⟨b, ws, e', sq', rl'⟩ := r2; subst e'; simp only [RepR, Rep] at r1; cases r1)
         | _ => first | (simp [dLe] at he; done) | (simp only [RepR, Rep] at r1 r2; subst r1; first | (cases r2; simp [eqD]; done) | cases r2))
open PySem.SeqAt in
theorem eqAt_D {pins : List (Addr × Obj)} {σ : St} {H : Hp} {s : Shared} (I : Inv X pins σ H s) {M M' : DH} : ∀ (n : Nat) {A : Around} {d e : D} {v w : V} {u1 u2 : Value}, A.units + n < cLine → dLe d n = true → dLe e n = true →
    RepR X.K M H d v → RepR X.K M' H e w → RelV v u1 → RelV w u2 → EqAt A s u1 u2 (eqD d e) ∧ RcAt A s u1 u2 (eqD d e) := by
  intro n
  induction n with
  | zero =>
    intro A d e v w u1 u2 hu hd he r1 r2 q1 q2
    have hu0 : A.units < cLine := by omega
    cases d <;> first | (simp [dLe] at hd; done) | skip
    all_goals cases e <;> first | (simp [dLe] at he; done) | skip
    all_goals simp only [RepR, Rep] at r1 r2
    all_goals subst r1
    all_goals subst r2
    all_goals simp only [RelV] at q1 q2
    all_goals first | (obtain ⟨t1, rfl⟩ := q1) | subst q1
    all_goals first | (obtain ⟨t2, rfl⟩ := q2) | subst q2
    all_goals simp only [eqD]
    · exact ⟨EqAt.same _, RcAt.none_none⟩
    · exact ⟨EqAt.none_bool _, RcAt.none_bool _⟩
    · exact ⟨EqAt.none_int _ _, RcAt.none_int _ _⟩
    · exact ⟨EqAt.none_str _ _, RcAt.none_str _ _⟩
    · exact ⟨EqAt.bool_none _, RcAt.bool_none _⟩
    · exact ⟨EqAt.bool_bool _ _, RcAt.bool_bool _ _⟩
    · exact ⟨EqAt.bool_int _ _ _, RcAt.bool_int _ _ _⟩
    · exact ⟨EqAt.bool_str _ _ _, RcAt.bool_str _ _ _⟩
    · exact ⟨EqAt.int_none _ _, RcAt.int_none _ _⟩
    · exact ⟨EqAt.int_bool _ _ _, RcAt.int_bool _ _ _⟩
    · exact ⟨EqAt.int_int _ _ _ _, RcAt.int_int _ _ _ _⟩
    · exact ⟨EqAt.int_str _ _ _ _, RcAt.int_str _ _ _ _⟩
    · exact ⟨EqAt.str_none _ _, RcAt.str_none _ _⟩
    · exact ⟨EqAt.str_bool _ _ _, RcAt.str_bool _ _ _⟩
    · exact ⟨EqAt.str_int _ _ _ _, RcAt.str_int _ _ _ _⟩
    · exact ⟨EqAt.str_str _ _ _ _, RcAt.str_str _ _ _ _⟩
  | succ n ih =>
    intro A d e v w u1 u2 hu hd he r1 r2 q1 q2
    have hu0 : A.units < cLine := by omega
    have hu1 : A.in1.units + n < cLine := by show A.units + 1 + n < cLine; omega
    have item : ∀ {ds es : List D} {vs ws : List V} {us us2 : List Value}, dLes ds n = true → dLes es n = true → RepL X.K M H ds vs → RepL X.K M' H es ws → Vals vs us → Vals ws us2 →
        ∀ j (h1 : j < us.toArray.size) (h2 : j < us2.toArray.size), EqAt A.in1 s us.toArray[j] us2.toArray[j] (eqN ds es j) := by
      intro ds es vs ws us us2 d1 d2 h1 h2 h3 h4 j hj1 hj2
      have l1 := h1.length
      have l2 := h2.length
      have l3 := h3.length
      have l4 := h4.length
      have j1 : j < ds.length := by simp at hj1; omega
      have j2 : j < es.length := by simp at hj2; omega
      obtain ⟨v1, g1, p1⟩ := h1.get (i := j) (d := ds[j]) (by simp [j1])
      obtain ⟨v2, g2, p2⟩ := h2.get (i := j) (d := es[j]) (by simp [j2])
      obtain ⟨u1, k1, m1⟩ := h3.get g1
      obtain ⟨u2, k2, m2⟩ := h4.get g2
      have e1 : us.toArray[j] = u1 := by
        simp at hj1
        simpa [List.getElem?_eq_getElem hj1] using k1
      have e2 : us2.toArray[j] = u2 := by
        simp at hj2
        simpa [List.getElem?_eq_getElem hj2] using k2
      rw [e1, e2]
      have e3 : eqN ds es j = eqD ds[j] es[j] := by simp [eqN, j1, j2]
      rw [e3]
      exact (ih hu1 (dLes_get d1 (i := j) (by simp [j1])) (dLes_get d2 (i := j) (by simp [j2])) p1.r p2.r m1 m2).1
    cases d with
    | tup ds =>
      obtain ⟨a, vs, rfl, sq, rl⟩ := id r1
      cases q1
      obtain ⟨its, rv, pt, _⟩ := I.tuple sq
      have hd' : dLes ds n = true := by simpa [dLe] using hd
      cases e with
      | tup es =>
        obtain ⟨b, ws, rfl, sq', rl'⟩ := id r2
        cases q2
        obtain ⟨its2, rv2, pt2, _⟩ := I.tuple sq'
        have he' : dLes es n = true := by simpa [dLe] using he
        have rc : RcAt A s (.ref a) (.ref b) (eqD (.tup ds) (.tup es)) := by
          have := RcAt.tuples (e := eqN ds es) pt pt2 hu0 (item hd' he' rl rl' rv rv2)
          rw [List.size_toArray, List.size_toArray, ← rv.length, ← rv2.length, ← rl.length, ← rl'.length, ← eqDs_all] at this
          simpa only [eqD] using this
        refine ⟨?_, rc⟩
        by_cases hab : a = b
        · subst hab
          rw [rep_same I (n + 1) hd he r1 r2]
          exact EqAt.same _
        · exact EqAt.of_refs hab rc
      | lst es =>
        obtain ⟨b, ws, rfl, sq', rl'⟩ := id r2
        cases q2
        obtain ⟨its2, rv2, pt2, _⟩ := I.list (SqL.of sq')
        simp only [eqD]
        exact ⟨EqAt.tuple_list pt pt2.isList hu0, RcAt.tuple_list pt pt2.isList hu0⟩
      | non =>
        simp only [RepR, Rep] at r2; subst r2; simp only [RelV] at q2
        subst q2
        simp only [eqD]
        exact ⟨EqAt.tuple_none pt hu0, RcAt.tuple_none pt hu0⟩
      | bl b =>
        simp only [RepR, Rep] at r2; subst r2; simp only [RelV] at q2
        subst q2
        simp only [eqD]
        exact ⟨EqAt.tuple_bool _ pt hu0, RcAt.tuple_bool _ pt hu0⟩
      | int b =>
        simp only [RepR, Rep] at r2; subst r2; simp only [RelV] at q2
        obtain ⟨t, rfl⟩ := q2
        simp only [eqD]
        exact ⟨EqAt.tuple_int _ _ pt hu0, RcAt.tuple_int _ _ pt hu0⟩
      | str b =>
        simp only [RepR, Rep] at r2; subst r2; simp only [RelV] at q2
        obtain ⟨t, rfl⟩ := q2
        simp only [eqD]
        exact ⟨EqAt.tuple_str _ _ pt hu0, RcAt.tuple_str _ _ pt hu0⟩
      | _ => simp [dLe] at he
    | lst ds =>
      obtain ⟨a, vs, rfl, sq, rl⟩ := id r1
      cases q1
      obtain ⟨its, rv, pt, _⟩ := I.list (SqL.of sq)
      have hd' : dLes ds n = true := by simpa [dLe] using hd
      cases e with
      | lst es =>
        obtain ⟨b, ws, rfl, sq', rl'⟩ := id r2
        cases q2
        obtain ⟨its2, rv2, pt2, _⟩ := I.list (SqL.of sq')
        have he' : dLes es n = true := by simpa [dLe] using he
        have rc : RcAt A s (.ref a) (.ref b) (eqD (.lst ds) (.lst es)) := by
          by_cases hl : ds.length = es.length
          · have hsz : its.toArray.size = its2.toArray.size := by rw [List.size_toArray, List.size_toArray, ← rv.length, ← rv2.length, ← rl.length, ← rl'.length]; exact hl
            have := RcAt.lists (e := eqN ds es) pt.isList pt2.isList hsz hu0 (item hd' he' rl rl' rv rv2)
            rw [List.size_toArray, ← rv.length, ← rl.length, ← eqDs_all' hl] at this
            simpa only [eqD] using this
          · have hsz : (its.toArray.size != its2.toArray.size) = true := by rw [List.size_toArray, List.size_toArray, ← rv.length, ← rv2.length, ← rl.length, ← rl'.length]; simpa using hl
            have := RcAt.lists_lengths pt.isList pt2.isList hsz hu0
            have e0 : eqD (.lst ds) (.lst es) = false := by
              simp only [eqD]
              cases q : eqDs ds es with
              | false => rfl
              | true => exact absurd (eqDs_len q) hl
            rw [e0]; exact this
        refine ⟨?_, rc⟩
        by_cases hab : a = b
        · subst hab
          rw [rep_same I (n + 1) hd he r1 r2]
          exact EqAt.same _
        · exact EqAt.of_refs hab rc
      | tup es =>
        obtain ⟨b, ws, rfl, sq', rl'⟩ := id r2
        cases q2
        obtain ⟨its2, rv2, pt2, _⟩ := I.tuple sq'
        simp only [eqD]
        exact ⟨EqAt.list_tuple pt.isList pt2 hu0, RcAt.list_tuple pt.isList pt2 hu0⟩
      | non =>
        simp only [RepR, Rep] at r2; subst r2; simp only [RelV] at q2
        subst q2
        simp only [eqD]
        exact ⟨EqAt.list_none pt.isList hu0, RcAt.list_none pt.isList hu0⟩
      | bl b =>
        simp only [RepR, Rep] at r2; subst r2; simp only [RelV] at q2
        subst q2
        simp only [eqD]
        exact ⟨EqAt.list_bool _ pt.isList hu0, RcAt.list_bool _ pt.isList hu0⟩
      | int b =>
        simp only [RepR, Rep] at r2; subst r2; simp only [RelV] at q2
        obtain ⟨t, rfl⟩ := q2
        simp only [eqD]
        exact ⟨EqAt.list_int _ _ pt.isList hu0, RcAt.list_int _ _ pt.isList hu0⟩
      | str b =>
        simp only [RepR, Rep] at r2; subst r2; simp only [RelV] at q2
        obtain ⟨t, rfl⟩ := q2
        simp only [eqD]
        exact ⟨EqAt.list_str _ _ pt.isList hu0, RcAt.list_str _ _ pt.isList hu0⟩
      | _ => simp [dLe] at he
    | non =>
      cases e with
      | tup es =>
        obtain ⟨b, ws, rfl, sq', rl'⟩ := id r2
        cases q2
        obtain ⟨its2, rv2, pt2, _⟩ := I.tuple sq'
        simp only [RepR, Rep] at r1; subst r1; simp only [RelV] at q1
        subst q1
        simp only [eqD]
        exact ⟨EqAt.none_tuple pt2 hu0, RcAt.none_tuple pt2 hu0⟩
      | lst es =>
        obtain ⟨b, ws, rfl, sq', rl'⟩ := id r2
        cases q2
        obtain ⟨its2, rv2, pt2, _⟩ := I.list (SqL.of sq')
        simp only [RepR, Rep] at r1; subst r1; simp only [RelV] at q1
        subst q1
        simp only [eqD]
        exact ⟨EqAt.none_list pt2.isList hu0, RcAt.none_list pt2.isList hu0⟩
      | _ => first | (simp [dLe] at he; done) | exact ih (A := A) (by omega) (by simp [dLe]) (by simp [dLe]) r1 r2 q1 q2
    | bl a =>
      cases e with
      | tup es =>
        obtain ⟨b, ws, rfl, sq', rl'⟩ := id r2
        cases q2
        obtain ⟨its2, rv2, pt2, _⟩ := I.tuple sq'
        simp only [RepR, Rep] at r1; subst r1; simp only [RelV] at q1
        subst q1
        simp only [eqD]
        exact ⟨EqAt.bool_tuple _ pt2 hu0, RcAt.bool_tuple _ pt2 hu0⟩
      | lst es =>
        obtain ⟨b, ws, rfl, sq', rl'⟩ := id r2
        cases q2
        obtain ⟨its2, rv2, pt2, _⟩ := I.list (SqL.of sq')
        simp only [RepR, Rep] at r1; subst r1; simp only [RelV] at q1
        subst q1
        simp only [eqD]
        exact ⟨EqAt.bool_list _ pt2.isList hu0, RcAt.bool_list _ pt2.isList hu0⟩
      | _ => first | (simp [dLe] at he; done) | exact ih (A := A) (by omega) (by simp [dLe]) (by simp [dLe]) r1 r2 q1 q2
    | int a =>
      cases e with
      | tup es =>
        obtain ⟨b, ws, rfl, sq', rl'⟩ := id r2
        cases q2
        obtain ⟨its2, rv2, pt2, _⟩ := I.tuple sq'
        simp only [RepR, Rep] at r1; subst r1; simp only [RelV] at q1
        obtain ⟨t, rfl⟩ := q1
        simp only [eqD]
        exact ⟨EqAt.int_tuple _ _ pt2 hu0, RcAt.int_tuple _ _ pt2 hu0⟩
      | lst es =>
        obtain ⟨b, ws, rfl, sq', rl'⟩ := id r2
        cases q2
        obtain ⟨its2, rv2, pt2, _⟩ := I.list (SqL.of sq')
        simp only [RepR, Rep] at r1; subst r1; simp only [RelV] at q1
        obtain ⟨t, rfl⟩ := q1
        simp only [eqD]
        exact ⟨EqAt.int_list _ _ pt2.isList hu0, RcAt.int_list _ _ pt2.isList hu0⟩
      | _ => first | (simp [dLe] at he; done) | exact ih (A := A) (by omega) (by simp [dLe]) (by simp [dLe]) r1 r2 q1 q2
    | str a =>
      cases e with
      | tup es =>
        obtain ⟨b, ws, rfl, sq', rl'⟩ := id r2
        cases q2
        obtain ⟨its2, rv2, pt2, _⟩ := I.tuple sq'
        simp only [RepR, Rep] at r1; subst r1; simp only [RelV] at q1
        obtain ⟨t, rfl⟩ := q1
        simp only [eqD]
        exact ⟨EqAt.str_tuple _ _ pt2 hu0, RcAt.str_tuple _ _ pt2 hu0⟩
      | lst es =>
        obtain ⟨b, ws, rfl, sq', rl'⟩ := id r2
        cases q2
        obtain ⟨its2, rv2, pt2, _⟩ := I.list (SqL.of sq')
        simp only [RepR, Rep] at r1; subst r1; simp only [RelV] at q1
        obtain ⟨t, rfl⟩ := q1
        simp only [eqD]
        exact ⟨EqAt.str_list _ _ pt2.isList hu0, RcAt.str_list _ _ pt2.isList hu0⟩
      | _ => first | (simp [dLe] at he; done) | exact ih (A := A) (by omega) (by simp [dLe]) (by simp [dLe]) r1 r2 q1 q2
    | _ => simp [dLe] at hd
end
end L2

set_option Elab.async false
set_option linter.all false
set_option maxRecDepth 100000
namespace L2
open PySem PySem.Spec PyProof.Rows
section
variable {X : Cx} {a b c e : Expr} {es : List Expr} {te ta tb : TEd} {pos : Pos} {st : Stmt} {rest : List Stmt} {t u : TSd}

/-! ### blocks and statements -/
def dNext : TSd := fun E Δ M => E.nx Δ M
def dSeq (t u : TSd) : TSd := fun E Δ M => t { E with nx := u E } Δ M
theorem d_snil : PSsd X [] dNext := pss_nil.conv fun D σ H ⟨Δ, M, E, sr, hr, q, u⟩ => u.nx Δ M σ H q (Ext.refl _ _) hr sr
theorem d_scons (h1 : PSd X st t) (h2 : PSsd X rest u) : PSsd X (st :: rest) (dSeq t u) :=
  (pss_cons h1 h2).conv fun D σ H ⟨Δ, M, E, sr, hr, q, k⟩ => ⟨Δ, M, { E with nx := u E }, sr, hr, q, ⟨fun Δ' M' σ' H' q' e' hr' sr' => ⟨Δ', M', E, sr', hr', q', k.ext e'⟩, k.bk, k.ct, k.rt⟩⟩
theorem d_sone (h1 : PSd X st t) : PSsd X [st] t := pss_one h1
def dRet (te : TEd) : TSd := fun E Δ M => te Δ M E.rt
theorem d_ret (he : PEd X e te) : PSd X (.Return (some e) pos) (dRet te) := (ps_ret he).conv fun D σ H ⟨Δ, M, E, sr, hr, q, k⟩ => ⟨Δ, M, _, sr, hr, q, k.rt⟩
def dDrop (te : TEd) : TSd := fun E Δ M => te Δ M fun _ M1 => E.nx Δ M1
theorem d_expr (he : PEd X e te) (hs : swapsWith e none pos.line X.env = pure false := by rfl) : PSd X (.Expr e pos) (dDrop te) :=
  (ps_expr he hs).conv fun D σ H ⟨Δ, M, E, sr, hr, q, k⟩ => ⟨Δ, M, _, sr, hr, q, fun d M1 v H1 q1 e1 hr1 _ => k.nx Δ M1 σ H1 q1 e1 hr1 (sr.ext e1)⟩
def dIfS (c : TTd) (t u : TSd) : TSd := fun E Δ M => c Δ M fun b M1 => if b = true then t E Δ M1 else u E Δ M1
theorem d_ifS {sa sb : List Stmt} {tc : TTd} (hc : PTd X c tc) (ha : PSsd X sa t) (hb : PSsd X sb u) : PSd X (.If c sa sb pos) (dIfS tc t u) :=
  (ps_if hc ha hb).conv fun D σ H ⟨Δ, M, E, sr, hr, q, k⟩ => ⟨Δ, M, _, sr, hr, q, fun b M1 H1 q1 e1 hr1 => by
    cases b with
    | true => simp only [if_true] at q1 ⊢; exact ⟨Δ, M1, E, sr.ext e1, hr1, q1, k.ext e1⟩
    | false => simp only [Bool.false_eq_true, if_false] at q1 ⊢; exact ⟨Δ, M1, E, sr.ext e1, hr1, q1, k.ext e1⟩⟩
/-! a name is stored -/
def dSet (i : Nat) (te : TEd) : TSd := fun E Δ M => te Δ M fun d M1 => E.nx (Δ.set i (some d)) M1
theorem d_set {i : Nat} {x : Str} {pos' : Pos} (hN : X.N.Nodup) (hi : X.N[i]? = some x) (hx : Loc X.env.scope x) (he : PEd X e te) (hs : swapsWith e (some (.Name x pos')) pos.line X.env = pure false := by rfl) (hf : X.fn x = true ∨ X.env.scope.names.lookup x = some .local := by first | exact .inl rfl | exact .inr rfl | assumption) :
    PSd X (.Assign [.Name x pos'] e pos) (dSet i te) := (ps_set hN hi hx he hs hf).conv fun D σ H ⟨Δ, M, E, sr, hr, q, k⟩ => ⟨Δ, M, _, sr, hr, q, fun d M1 v H1 q1 e1 hr1 rv => k.nx _ M1 _ H1 q1 e1 hr1 ((sr.ext e1).set i rv)⟩
def dAug (i : Nat) (te : TEd) (r : D → D → Option D) : TSd := fun E Δ M => ∃ x, Δ[i]? = some (some x) ∧ te Δ M fun y M1 => ∃ z, r (rdM M1 x) (rdM M1 y) = some z ∧ E.nx (Δ.set i (some z)) M1
theorem d_aug {i : Nat} {x : Str} {op : Operator} {r : D → D → Option D} {pos' : Pos} (hN : X.N.Nodup) (hi : X.N[i]? = some x) (hx : Loc X.env.scope x) (he : PEd X e te) (ho : OpRd X (inplaceOp op) r) (hf : X.fn x = true ∨ X.env.scope.names.lookup x = some .local := by first | exact .inl rfl | exact .inr rfl | assumption) :
    PSd X (.AugAssign (.Name x pos') op e pos) (dAug i te r) := by
  have h : PIp X op (opV X.K r) := fun pins s σ H x y v u Q I rx ry q => ho.v pins s σ H x y v u Q I rx ry q
  refine (ps_aug hN hi hx he h hf).conv fun D σ H hh => ?_
  obtain ⟨Δ, M, E, sr, hr, ⟨d, ed, q⟩, k⟩ := hh
  obtain ⟨v, ev, rv⟩ := sr.2 i d ed
  refine ⟨v, ev, Δ, M, _, sr, hr, q, fun y M1 w H1 ⟨z, ez, q1⟩ e1 hr1 rw_ => ⟨_, _, z, M1, hr1, (rv.ext e1).rd hr1, rw_.rd hr1, ez, fun w2 H2 e2 hr2 r2 => k.nx _ M1 _ H2 q1 (e1.trans e2) hr2 (((sr.ext e1).ext e2).set i r2)⟩⟩
/-! a ghost step: a cell of ours is ours no more, a name that holds it has the list as a value -/

/-! ### targets -/
abbrev GD := D → DE → Option DE
def PGd (X : Cx) (tg : Expr) (g : GD) : Prop := ∃ gv : TG, PG X tg gv ∧ ∀ (d : D) (v : V) (σ : St) (Δ Δ' : DE) (M : DH) (H : Hp) (Q : St → Hp → Prop), SR X.K M H σ Δ → HR X.K M H → Rep X.K M H d v → g d Δ = some Δ' → (∀ σ', SR X.K M H σ' Δ' → Q σ' H) → gv v σ H Q
def gdName (i : Nat) : GD := fun d Δ => some (Δ.set i (some d))
theorem g_name {i : Nat} {x : Str} (hN : X.N.Nodup) (hi : X.N[i]? = some x) (hx : Loc X.env.scope x) (hf : X.fn x = true ∨ X.env.scope.names.lookup x = some .local := by first | exact .inl rfl | exact .inr rfl | assumption) : PGd X (.Name x pos) (gdName i) :=
  ⟨gName i, pg_name hN hi hx hf, fun d v σ Δ Δ' M H Q sr hr rv e k => by cases e; exact k _ (sr.set i rv)⟩
abbrev GDs := List D → DE → Option DE
def PGsd (X : Cx) (tgs : List Expr) (g : GDs) : Prop := ∃ gv : TGs, PGs X tgs gv ∧ ∀ (ds : List D) (vs : List V) (σ : St) (Δ Δ' : DE) (M : DH) (H : Hp) (Q : St → Hp → Prop), SR X.K M H σ Δ → HR X.K M H → RepL X.K M H ds vs → g ds Δ = some Δ' → (∀ σ', SR X.K M H σ' Δ' → Q σ' H) → gv vs σ H Q
def gdNil : GDs := fun ds Δ => match ds with | [] => some Δ | _ => none
def gdCons (g : GD) (gs : GDs) : GDs := fun ds Δ => match ds with | [] => none | d :: r => (g d Δ).bind fun Δ1 => gs r Δ1
def gdTup (g : GDs) (n : Nat) : GD := fun d Δ => match d with | .tup ds => if ds.length = n then g ds Δ else none | _ => none
theorem g_nil : PGsd X [] gdNil := ⟨gNil, pgs_nil, fun ds vs σ Δ Δ' M H Q sr hr rv e k => by
  cases ds with
  | nil => simp only [RepL] at rv; subst rv; cases e; exact ⟨rfl, k _ sr⟩
  | cons _ _ => cases e⟩
theorem g_cons {tg : Expr} {tgs : List Expr} {g : GD} {gs : GDs} (h1 : PGd X tg g) (h2 : PGsd X tgs gs)
    (hs : (assignEach (tg :: tgs) X.env).map (·.2) = assign tg X.env :: (assignEach tgs X.env).map (·.2) := by rfl) : PGsd X (tg :: tgs) (gdCons g gs) := by
  obtain ⟨g1, p1, k1⟩ := h1
  obtain ⟨g2, p2, k2⟩ := h2
  refine ⟨gCons g1 g2, pgs_cons p1 p2 hs, fun ds vs σ Δ Δ' M H Q sr hr rv e k => ?_⟩
  cases ds with
  | nil => cases e
  | cons d r =>
    simp only [RepL] at rv
    obtain ⟨v, ws, rfl, h3, h4⟩ := rv
    simp only [gdCons] at e
    cases q : g d Δ with
    | none => rw [q] at e; cases e
    | some Δ1 =>
      rw [q] at e
      exact ⟨v, ws, rfl, k1 d v σ Δ Δ1 M H _ sr hr h3 q fun σ1 sr1 => k2 r ws σ1 Δ1 Δ' M H Q sr1 hr h4 e k⟩
theorem g_tup {tgs : List Expr} {kx : Nat} {g : GDs} {n : Nat} (hc : X.calm = true) (h : PGsd X tgs g) (hn : (assignEach tgs X.env).length = n := by rfl) (hst : (assignEach tgs X.env).findIdx? (·.1) = none := by rfl) : PGd X (.Tuple tgs kx pos) (gdTup g n) := by
  obtain ⟨g1, p1, k1⟩ := h
  refine ⟨gTup X.K n g1, pg_tup hc p1 hn hst, fun d v σ Δ Δ' M H Q sr hr rv e k => ?_⟩
  cases d with
  | tup ds =>
    simp only [gdTup] at e
    by_cases hl : ds.length = n
    · rw [if_pos hl] at e
      simp only [Rep] at rv
      obtain ⟨a, vs, rfl, ta, rl⟩ := rv
      exact ⟨a, vs, rfl, ta.sq, by rw [← rl.length]; exact hl, k1 ds vs σ Δ Δ' M H Q sr hr rl e k⟩
    · rw [if_neg hl] at e; cases e
  | _ => cases e
def dAsg (te : TEd) (g : GD) : TSd := fun E Δ M => te Δ M fun d M1 => ∃ Δ', g d Δ = some Δ' ∧ E.nx Δ' M1
theorem d_asg {tg : Expr} {g : GD} (he : PEd X e te) (hg : PGd X tg g) (hs : swapsWithSole [tg] e pos.line X.env = pure false := by rfl) (hw : swappedStores [tg] e X.env = pure none := by rfl)
    (h1 : (assignEach [tg] X.env).map (·.2) = [assign tg X.env] := by rfl) : PSd X (.Assign [tg] e pos) (dAsg te g) := by
  obtain ⟨gv, pg, kg⟩ := hg
  exact (ps_asg he pg hs hw h1).conv fun D σ H ⟨Δ, M, E, sr, hr, q, k⟩ => ⟨Δ, M, _, sr, hr, q, fun d M1 v H1 ⟨Δ', eg, q1⟩ e1 hr1 rv => kg d v σ Δ Δ' M1 H1 _ (sr.ext e1) hr1 rv eg fun σ' sr' => k.nx Δ' M1 σ' H1 q1 e1 hr1 sr'⟩

/-! ### what is walked -/
abbrev TId := DE → DH → (List D → DH → Prop) → Prop
def ItD (K : PySem.W.Frag) (J : It) (ds : List D) (M1 : DH) (H1 : Hp) : Prop := ∀ M2 H2, Ext M1 H1 M2 H2 → HR K M2 H2 → ∀ i, (∀ d, ds[i]? = some d → J.go i H2 ∧ ∀ x H', J.yld i H2 x H' → Ext M2 H2 M2 H' ∧ HR K M2 H' ∧ Rep K M2 H' d x) ∧ (ds.length ≤ i → J.stop i H2)
def upI (K : PySem.W.Frag) (wi : TId) : TI := fun σ H R => ∃ (Δ : DE) (M : DH) (R' : List D → DH → Prop), SR K M H σ Δ ∧ HR K M H ∧ wi Δ M R' ∧ ∀ ds M1 J H1, R' ds M1 → Ext M H M1 H1 → HR K M1 H1 → ItD K J ds M1 H1 → R J H1
def PId (X : Cx) (tg iter : Expr) (wi : TId) : Prop := PI X tg iter (upI X.K wi)
theorem PI.conv {tg iter : Expr} {w w' : TI} (h : PI X tg iter w) (k : ∀ σ H R, w' σ H R → w σ H R) : PI X tg iter w' := fun p s σ H R I q => h p s σ H R I (k σ H R q)
variable {tg iter : Expr}
def rngD (lo : Int) (n : Nat) : List D := (List.range n).map fun (k : Nat) => .int (lo + (k : Int))
theorem rngD_get {lo : Int} {n i : Nat} {d : D} (h : (rngD lo n)[i]? = some d) : i < n ∧ d = .int (lo + i) := by
  unfold rngD at h
  rw [List.getElem?_map] at h
  by_cases hi : i < n
  · rw [List.getElem?_range hi] at h; cases h; exact ⟨hi, rfl⟩
  · rw [List.getElem?_eq_none (by simp; omega)] at h; cases h
theorem rngD_it {K : PySem.W.Frag} {lo : Int} {n : Nat} {M1 : DH} {H1 : Hp} : ItD K (Itr lo n) (rngD lo n) M1 H1 := fun M2 H2 e2 hr2 i => ⟨fun d hd => by
    obtain ⟨h1, rfl⟩ := rngD_get hd
    refine ⟨h1, fun x H' ⟨eH, y⟩ => ?_⟩
    subst eH; subst y
    exact ⟨Ext.refl _ _, hr2, by simp [Rep]⟩, fun hl => by
    show n ≤ i
    simpa [rngD] using hl⟩
def diRng1 (ta : TAd) : TId := fun Δ M R => ta Δ M fun ds M1 => ∃ j : Int, ds = [.int j] ∧ -(2 ^ 62) ≤ j ∧ j < 2 ^ 62 ∧ R (rngD 0 j.toNat) M1
theorem i_rng1 {ta : TAd} {p : Pos} (hg : Gl X "range") (hm : X.mg "range" = none) (ha : PAd X [a] ta) (hs : starEach [a] X.env = [(false, eval a X.env)] := by rfl) : PId X tg (.Call (.Name "range" p) [a] [] pos) (diRng1 ta) :=
  (pi_range1 hg hm ha hs).conv fun σ H R ⟨Δ, M, R', sr, hr, q, k⟩ => ⟨Δ, M, _, sr, hr, q, fun ds M1 vs H1 ⟨j, ed, h1, h2, q1⟩ e1 hr1 rv => by
    subst ed
    obtain ⟨v, ev, rv1⟩ := rv.one
    have ev1 : v = .int j := by simpa only [Rep] using rv1
    subst ev1; subst ev
    exact ⟨j, rfl, h1, h2, k _ M1 _ H1 q1 e1 hr1 rngD_it⟩⟩

/-! ### for -/
def forRun (g : GD) (tb : TSd) (E : EndsD) : List D → DE → DH → Prop
  | [], Δ, M => E.nx Δ M
  | d :: ds, Δ, M => ∃ Δ', g d Δ = some Δ' ∧ tb { E with nx := forRun g tb E ds, ct := forRun g tb E ds, bk := E.nx } Δ' M
def dFor (wi : TId) (g : GD) (tb : TSd) : TSd := fun E Δ M => wi Δ M fun ds M1 => forRun g tb E ds Δ M1
theorem d_for {body : List Stmt} {wi : TId} {g : GD} {tb : TSd} (hp : PassesOwn (model X.prog X.w) X.A X.env X.xe) (hc : X.calm = true) (hi : PId X tg iter wi) (hg : PGd X tg g) (hb : PSsd X body tb)
    (hs : ∀ x, foldedSetIterable iter X.env x = pure x := by intro _; rfl) : PSd X (.For tg iter body [] pos) (dFor wi g tb) := by
  obtain ⟨gv, pg, kg⟩ := hg
  refine (ps_for hp hc hi pg hb hs).conv fun D σ H hh => ?_
  obtain ⟨Δ, M, E, sr, hr, q, k⟩ := hh
  refine ⟨Δ, M, _, sr, hr, q, fun ds M1 J H1 q1 e1 hr1 it => ?_⟩
  refine ⟨fun i m σ' H' => ∃ Δ' M', m = ds.length - i ∧ i ≤ ds.length ∧ Ext M1 H1 M' H' ∧ HR X.K M' H' ∧ SR X.K M' H' σ' Δ' ∧ forRun g tb E (ds.drop i) Δ' M', ⟨ds.length, Δ, M1, by simp, Nat.zero_le _, Ext.refl _ _, hr1, sr.ext e1, q1⟩, ?_⟩
  rintro i m σ2 H2 ⟨Δ2, M2, rfl, hi2, e2, hr2, sr2, f2⟩
  obtain ⟨go, stop⟩ := it M2 H2 e2 hr2 i
  by_cases hlt : i < ds.length
  · have hd : ds[i]? = some ds[i] := by simp [hlt]
    obtain ⟨g1, y1⟩ := go _ hd
    rw [List.drop_eq_getElem_cons hlt] at f2
    simp only [forRun] at f2
    obtain ⟨Δ3, eg, f3⟩ := f2
    refine .inr ⟨g1, fun σ' H' => ∃ m', m' < ds.length - i ∧ ∃ Δ' M', m' = ds.length - (i + 1) ∧ i + 1 ≤ ds.length ∧ Ext M1 H1 M' H' ∧ HR X.K M' H' ∧ SR X.K M' H' σ' Δ' ∧ forRun g tb E (ds.drop (i + 1)) Δ' M', fun σ' H' z => z, fun x H' hy => ?_⟩
    obtain ⟨e3, hr3, rx⟩ := y1 x H' hy
    refine kg _ x σ2 Δ2 Δ3 M2 H' _ (sr2.ext e3) hr3 rx eg fun σ3 sr3 => ?_
    refine ⟨Δ3, M2, _, sr3, hr3, f3, ⟨fun Δ' M' σ' H'' q' e' hr' sr' => ?_, fun Δ' M' σ' H'' q' e' hr' sr' => ?_, fun Δ' M' σ' H'' q' e' hr' sr' => ?_, fun d M' v H'' q' e' hr' rv' => ?_⟩⟩
    · exact ⟨_, by omega, Δ', M', rfl, hlt, (e2.trans e3).trans e', hr', sr', q'⟩
    · exact k.nx Δ' M' σ' H'' q' (((e1.trans e2).trans e3).trans e') hr' sr'
    · exact ⟨_, by omega, Δ', M', rfl, hlt, (e2.trans e3).trans e', hr', sr', q'⟩
    · exact k.rt d M' v H'' q' (((e1.trans e2).trans e3).trans e') hr' rv'
  · rw [List.drop_eq_nil_of_le (by omega)] at f2
    exact .inl ⟨stop (by omega), k.nx Δ2 M2 σ2 H2 f2 (e1.trans e2) hr2 sr2⟩
/-! ### while -/
def dWhile (c : TTd) (tb : TSd) : TSd := fun E Δ M => ∃ W : Nat → DE → DH → Prop, (∃ m, W m Δ M) ∧ ∀ m Δ M, W m Δ M → c Δ M fun b M1 => if b = true then tb { E with nx := fun Δ' M' => ∃ m', m' < m ∧ W m' Δ' M', ct := fun Δ' M' => ∃ m', m' < m ∧ W m' Δ' M', bk := E.nx } Δ M1 else E.nx Δ M1
theorem d_while {body : List Stmt} {tc : TTd} {tb : TSd} (hp : PassesOwn (model X.prog X.w) X.A X.env X.xe) (hc : PTd X c tc) (hb : PSsd X body tb) : PSd X (.While c body [] pos) (dWhile tc tb) := by
  refine (ps_while hp hc hb).conv fun D σ H hh => ?_
  obtain ⟨Δ, M, E, sr, hr, ⟨W, ⟨m0, w0⟩, turn⟩, k⟩ := hh
  refine ⟨fun m σ' H' => ∃ Δ' M', Ext M H M' H' ∧ HR X.K M' H' ∧ SR X.K M' H' σ' Δ' ∧ W m Δ' M', ⟨m0, Δ, M, Ext.refl _ _, hr, sr, w0⟩, ?_⟩
  rintro m σ1 H1 ⟨Δ1, M1, e1, hr1, sr1, w1⟩
  refine ⟨Δ1, M1, _, sr1, hr1, turn m Δ1 M1 w1, fun b M2 H2 q2 e2 hr2 => ?_⟩
  cases b with
  | true =>
    simp only [if_true] at q2 ⊢
    refine ⟨fun σ' H' => ∃ m', m' < m ∧ ∃ Δ' M', Ext M H M' H' ∧ HR X.K M' H' ∧ SR X.K M' H' σ' Δ' ∧ W m' Δ' M', fun σ' H' z => z, Δ1, M2, _, sr1.ext e2, hr2, q2, ⟨fun Δ' M' σ' H'' ⟨m', hm, w'⟩ e' hr' sr' => ?_, fun Δ' M' σ' H'' q' e' hr' sr' => ?_, fun Δ' M' σ' H'' ⟨m', hm, w'⟩ e' hr' sr' => ?_, fun d M' v H'' q' e' hr' rv' => ?_⟩⟩
    · exact ⟨m', hm, Δ', M', (e1.trans e2).trans e', hr', sr', w'⟩
    · exact k.nx Δ' M' σ' H'' q' ((e1.trans e2).trans e') hr' sr'
    · exact ⟨m', hm, Δ', M', (e1.trans e2).trans e', hr', sr', w'⟩
    · exact k.rt d M' v H'' q' ((e1.trans e2).trans e') hr' rv'
  | false =>
    simp only [Bool.false_eq_true, if_false] at q2 ⊢
    exact k.nx Δ1 M2 σ1 H2 q2 (e1.trans e2) hr2 (sr1.ext e2)
end
end L2

set_option Elab.async false
set_option linter.all false
set_option maxRecDepth 100000
namespace L2
open PySem PySem.Spec PyProof.Rows
def lenOk : D → Prop
  | .tup ds => ds.length ≤ sizeLine
  | .lst ds => ds.length ≤ sizeLine
  | .scr ds => ds.length ≤ sizeLine
  | _ => True
section
variable {X : Cx} {a b c e : Expr} {es : List Expr} {te ta tb : TEd} {pos : Pos} {tg iter elt : Expr}
theorem RepR.len {K : PySem.W.Frag} {pins : List (Addr × Obj)} {σ : St} {H : Hp} {s : Shared} {M : DH} {d : D} {v : V} (I : Inv X pins σ H s) (h : Rep X.K M H d v) : lenOk d := by
  cases d with
  | tup ds =>
    simp only [Rep] at h; obtain ⟨a, vs, e, t, r⟩ := h
    obtain ⟨_, _, _, z⟩ := I.tuple t.sq
    simp only [lenOk]; rw [r.length]; exact z
  | lst ds =>
    simp only [Rep] at h; obtain ⟨a, vs, e, t, r⟩ := h
    obtain ⟨_, _, _, z⟩ := I.list (SqL.of t.1)
    simp only [lenOk]; rw [r.length]; exact z
  | scr ds =>
    simp only [Rep] at h; obtain ⟨a, vs, e, t, r⟩ := h
    obtain ⟨_, _, _, z⟩ := I.list t.sq
    simp only [lenOk]; rw [r.length]; exact z
  | _ => trivial

/-! ### comprehensions -/
def maskD : List Bool → DE → DE
  | true :: ms, v :: σ => v :: maskD ms σ
  | false :: ms, _ :: σ => none :: maskD ms σ
  | [], _ :: σ => none :: maskD [] σ
  | _, [] => []
def compD (ms : List Bool) (k : Nat) (Δ : DE) : DE := maskD ms Δ ++ List.replicate k none
theorem maskD_length : ∀ (ms : List Bool) (σ : DE), (maskD ms σ).length = σ.length
  | true :: ms, v :: σ => by simp [maskD, maskD_length ms σ]
  | false :: ms, _ :: σ => by simp [maskD, maskD_length ms σ]
  | [], _ :: σ => by simp [maskD, maskD_length [] σ]
  | [], [] => by simp [maskD]
  | true :: _, [] => by simp [maskD]
  | false :: _, [] => by simp [maskD]
theorem maskD_get : ∀ {ms : List Bool} {σ : DE} {i : Nat} {v : D}, (maskD ms σ)[i]? = some (some v) → ms[i]? = some true ∧ σ[i]? = some (some v)
  | true :: ms, v :: σ, 0, x, h => by simpa [maskD] using h
  | true :: ms, v :: σ, i + 1, x, h => by
    have := maskD_get (ms := ms) (σ := σ) (i := i) (v := x) (by simpa [maskD] using h)
    simpa using this
  | false :: ms, _ :: σ, 0, x, h => by simp [maskD] at h
  | false :: ms, _ :: σ, i + 1, x, h => by
    have := maskD_get (ms := ms) (σ := σ) (i := i) (v := x) (by simpa [maskD] using h)
    simpa using this
  | [], _ :: σ, 0, x, h => by simp [maskD] at h
  | [], _ :: σ, i + 1, x, h => by
    have := maskD_get (ms := []) (σ := σ) (i := i) (v := x) (by simpa [maskD] using h)
    simpa using this
  | [], [], _, _, h => by simp [maskD] at h
  | true :: _, [], _, _, h => by simp [maskD] at h
  | false :: _, [], _, _, h => by simp [maskD] at h
theorem maskS_get' : ∀ {ms : List Bool} {σ : St} {i : Nat} {v : V}, ms[i]? = some true → σ[i]? = some (some v) → (maskS ms σ)[i]? = some (some v)
  | true :: ms, v :: σ, 0, x, h, h2 => by simpa [maskS] using h2
  | true :: ms, v :: σ, i + 1, x, h, h2 => by
    have := maskS_get' (ms := ms) (σ := σ) (i := i) (v := x) (by simpa using h) (by simpa using h2)
    simpa [maskS] using this
  | false :: ms, _ :: σ, 0, x, h, h2 => by simp at h
  | false :: ms, _ :: σ, i + 1, x, h, h2 => by
    have := maskS_get' (ms := ms) (σ := σ) (i := i) (v := x) (by simpa using h) (by simpa using h2)
    simpa [maskS] using this
  | [], _, _, _, h, _ => by simp at h
  | _ :: _, [], _, _, _, h => by simp at h
theorem SR.comp {K : PySem.W.Frag} {M : DH} {H : Hp} {σ : St} {Δ : DE} (ms : List Bool) (k : Nat) (h : SR K M H σ Δ) : SR K M H (compS ms k σ) (compD ms k Δ) := by
  refine ⟨by simp [compS, compD, maskS_length, maskD_length, h.1], fun i d q => ?_⟩
  unfold compD at q
  by_cases hi : i < (maskD ms Δ).length
  · rw [List.getElem?_append_left hi] at q
    obtain ⟨m, e⟩ := maskD_get q
    obtain ⟨v, ev, rv⟩ := h.2 i d e
    refine ⟨v, ?_, rv⟩
    have := maskS_get' m ev
    unfold compS
    rw [List.getElem?_append_left (by rw [maskS_length, h.1, ← maskD_length ms]; exact hi)]
    exact this
  · rw [List.getElem?_append_right (by omega), List.getElem?_replicate] at q
    split at q <;> cases q
def lcRun (g : GD) (tc : TTd) (te : TEd) : List D → DE → DH → List D → (List D → DH → Prop) → Prop
  | [], _, M, acc, Q => Q acc M
  | d :: ds, Δ, M, acc, Q => ∃ Δ', g d Δ = some Δ' ∧ tc Δ' M fun b M1 => if b = true then te Δ' M1 fun y M2 => lcRun g tc te ds Δ' M2 (acc ++ [y]) Q else lcRun g tc te ds Δ' M1 acc Q
def dLc (ms : List Bool) (k : Nat) (wi : TId) (g : GD) (tc : TTd) (te : TEd) : TEd := fun Δ M Q => wi Δ M fun ds M1 => ds.length ≤ sizeLine ∧ lcRun g tc te ds (compD ms k Δ) M1 [] fun ys M2 => Q (.lst ys) M2
def PIfd (X : Cx) (ifs : List Expr) (t : TTd) : Prop := PIf X ifs (upT X.K t)
def dYes : TTd := fun _ M Q => Q true M
theorem i_nil : PIfd X [] dYes := fun pins s σ H Q I ⟨Δ, M, R, sr, hr, q, k⟩ => pif_nil pins s σ H Q I (k true M H q (Ext.refl _ _) hr)
theorem i_one {tc : TTd} (h : PTd X c tc) : PIfd X [c] tc := pif_one h
theorem lc_conv {K : PySem.W.Frag} {wi : TId} {g : GD} {tc : TTd} {te : TEd} {gv : TG} {ms : List Bool} {kk : Nat}
    (kg : ∀ (d : D) (v : V) (σ : St) (Δ Δ' : DE) (M : DH) (H : Hp) (Q : St → Hp → Prop), SR K M H σ Δ → HR K M H → Rep K M H d v → g d Δ = some Δ' → (∀ σ', SR K M H σ' Δ' → Q σ' H) → gv v σ H Q) :
    ∀ σ H Q, up K (dLc ms kk wi g tc te) σ H Q → tLc ms kk (upI K wi) gv (upT K tc) (up K te) σ H Q := by
  rintro σ H Q ⟨Δ, M, R, sr, hr, q, k⟩
  refine ⟨Δ, M, _, sr, hr, q, fun ds M1 J H1 ⟨hz, q1⟩ e1 hr1 it => ?_⟩
  refine ⟨fun i m ys σ' H' => ∃ Δ' M' acc, m = ds.length - i ∧ i ≤ ds.length ∧ Ext M1 H1 M' H' ∧ HR K M' H' ∧ SR K M' H' σ' Δ' ∧ RepL K M' H' acc ys ∧ acc.length ≤ i ∧ lcRun g tc te (ds.drop i) Δ' M' acc fun ys M2 => R (.lst ys) M2,
    fun ys H' => ∃ M' acc, Ext M1 H1 M' H' ∧ HR K M' H' ∧ RepL K M' H' acc ys ∧ R (.lst acc) M', ⟨ds.length, _, M1, [], by simp, Nat.zero_le _, Ext.refl _ _, hr1, (sr.ext e1).comp ms kk, RepL.nil, by simp, q1⟩, ?_, ?_⟩
  · rintro i m ys σ2 H2 ⟨Δ2, M2, acc, rfl, hi2, e2, hr2, sr2, ra, la, f2⟩
    have hl : ys.length ≤ sizeLine := by rw [← ra.length]; omega
    refine ⟨hl, ?_⟩
    obtain ⟨go, stop⟩ := it M2 H2 e2 hr2 i
    by_cases hlt : i < ds.length
    · have hd : ds[i]? = some ds[i] := by simp [hlt]
      obtain ⟨g1, y1⟩ := go _ hd
      rw [List.drop_eq_getElem_cons hlt] at f2
      simp only [lcRun] at f2
      obtain ⟨Δ3, eg, f3⟩ := f2
      refine .inr ⟨g1, fun x H' hy => ?_⟩
      obtain ⟨e3, hr3, rx⟩ := y1 x H' hy
      refine kg _ x σ2 Δ2 Δ3 M2 H' _ (sr2.ext e3) hr3 rx eg fun σ3 sr3 => ?_
      refine ⟨Δ3, M2, _, sr3, hr3, f3, fun b M4 H4 q4 e4 hr4 => ?_⟩
      cases b with
      | true =>
        simp only [if_true] at q4 ⊢
        refine ⟨Δ3, M4, _, sr3.ext e4, hr4, q4, fun y M5 v5 H5 q5 e5 hr5 rv5 => ?_⟩
        refine ⟨ds.length - (i + 1), by omega, Δ3, M5, acc ++ [y], rfl, hlt, ((e2.trans e3).trans e4).trans e5, hr5, (sr3.ext e4).ext e5, (((ra.ext e3).ext e4).ext e5).append (RepL.cons rv5 RepL.nil), by simp; omega, q5⟩
      | false =>
        simp only [Bool.false_eq_true, if_false] at q4 ⊢
        exact ⟨ds.length - (i + 1), by omega, Δ3, M4, acc, rfl, hlt, (e2.trans e3).trans e4, hr4, sr3.ext e4, (ra.ext e3).ext e4, by omega, q4⟩
    · rw [List.drop_eq_nil_of_le (by omega)] at f2
      exact .inl ⟨stop (by omega), M2, acc, e2, hr2, ra, f2⟩
  · rintro ys H' p ⟨M', acc, e', hr', ra, q'⟩ hp
    refine k _ M' _ _ q' ((e1.trans e').trans (Ext.new hr' hp)) (hr'.new hp) ?_
    simp only [Rep]
    exact ⟨p, ys, rfl, ⟨upd_same, hr'.fresh hp⟩, ra.ext (Ext.new hr' hp)⟩
variable {scope : Scope} {cl : List (Str × Addr)} {ms : List Bool} {extra : List Str} {ifs : List Expr}
def PGa (X : Cx) (scope : Scope) (cl : List (Str × Addr)) (extra : List Str) (tg : Expr) (g : GD) : Prop := ∃ gv : TG, (∀ C s H ex, PG (cxComp X scope cl (X.N ++ extra) C s H ex) tg gv) ∧ ∀ (d : D) (v : V) (σ : St) (Δ Δ' : DE) (M : DH) (H : Hp) (Q : St → Hp → Prop), SR X.K M H σ Δ → HR X.K M H → Rep X.K M H d v → g d Δ = some Δ' → (∀ σ', SR X.K M H σ' Δ' → Q σ' H) → gv v σ H Q
theorem d_lc {wi : TId} {g : GD} {tc : TTd} {te : TEd} (S : CompSc X scope cl ms extra) (hcalm : X.calm = true) (hi : PId X tg iter wi) (hg : PGa X scope cl extra tg g)
    (hif : ∀ C s H ex, PIfd (cxComp X scope cl (X.N ++ extra) C s H ex) ifs tc) (he : ∀ C s H ex, PEd (cxComp X scope cl (X.N ++ extra) C s H ex) elt te)
    (hs : ∀ x, foldedSetIterable iter X.env x = pure x := by intro _; rfl) : PEd X (.ListComp elt [⟨tg, iter, ifs, 0⟩] scope pos) (dLc ms extra.length wi g tc te) := by
  obtain ⟨gv, pg, kg⟩ := hg
  exact (pe_lc (tc := upT X.K tc) (te := up X.K te) S hcalm hi pg hif he hs).conv (lc_conv kg)
theorem d_setLc {i : Nat} {x : Str} {spos pos' : Pos} {wi : TId} {g : GD} {tc : TTd} {te : TEd} (hN : X.N.Nodup) (hix : X.N[i]? = some x) (hx : X.env.scope.names.lookup x = some .local)
    (hsw : swapsWith (.ListComp elt [⟨tg, iter, ifs, 0⟩] scope pos) (some (.Name x pos')) spos.line X.env = pure true) (S : CompSc X scope cl ms extra) (hcalm : X.calm = true) (hi : PId X tg iter wi) (hg : PGa X scope cl extra tg g)
    (hif : ∀ C s H ex, PIfd (cxComp X scope cl (X.N ++ extra) C s H ex) ifs tc) (he : ∀ C s H ex, PEd (cxComp X scope cl (X.N ++ extra) C s H ex) elt te)
    (hs : ∀ x, foldedSetIterable iter X.env x = pure x := by intro _; rfl) : PSd X (.Assign [.Name x pos'] (.ListComp elt [⟨tg, iter, ifs, 0⟩] scope pos) spos) (dSet i (dLc ms extra.length wi g tc te)) := by
  obtain ⟨gv, pg, kg⟩ := hg
  refine (ps_setLc (tc := upT X.K tc) (te := up X.K te) hN hix hx hsw S hcalm hi pg hif he hs).conv fun D σ H hh => ?_
  obtain ⟨Δ, M, E, sr, hr, q, k⟩ := hh
  exact lc_conv kg σ H _ ⟨Δ, M, _, sr, hr, q, fun d M1 v H1 q1 e1 hr1 rv => k.nx _ M1 _ H1 q1 e1 hr1 ((sr.ext e1).set i rv)⟩
theorem ga_name {i : Nat} {x : Str} {pos : Pos} (hN : (X.N ++ extra).Nodup) (hi : (X.N ++ extra)[i]? = some x) (hx : (relabel scope X.env).names.lookup x = some .local) : PGa X scope cl extra (.Name x pos) (gdName i) :=
  ⟨gName i, fun C s H ex => pg_name hN hi (.inl hx) (.inr hx), fun d v σ Δ Δ' M H Q sr hr rv e k => by cases e; exact k _ (sr.set i rv)⟩
end
end L2

set_option Elab.async false
set_option linter.all false
set_option maxRecDepth 100000
namespace L2
open PySem PySem.Spec PyProof.Rows
/-! ### a def's promise over deep data -/
abbrev SpD := List D → DH → (D → DH → Prop) → Prop
def spD (K : PySem.W.Frag) (n : Nat) (S : SpD) : Sp := fun vs H Q _ => ∃ (ds : List D) (M : DH) (R : D → DH → Prop), ds.length = n ∧ RepL K M H ds vs ∧ HR K M H ∧ S ds M R ∧ ∀ d M' v H', R d M' → Ext M H M' H' → HR K M' H' → Rep K M' H' d v → Q v H'
theorem spD_len {K : PySem.W.Frag} {n : Nat} {S : SpD} {vs : List V} {H : Hp} {Q : VK} {E : XK} (h : spD K n S vs H Q E) : vs.length = n := by
  obtain ⟨ds, M, R, hl, r, _⟩ := h
  rw [← r.length]; exact hl
def startD (N : List Str) (ds : List D) : DE := ds.map some ++ List.replicate (N.length - ds.length) none
theorem start_sr {K : PySem.W.Frag} {M : DH} {H : Hp} {N : List Str} : ∀ {ds : List D} {vs : List V}, RepL K M H ds vs → SR K M H (start N vs) (startD N ds) := by
  intro ds vs h
  have hl := h.length
  refine ⟨by simp [start, startD, hl], fun i d q => ?_⟩
  unfold startD at q
  by_cases hi : i < ds.length
  · rw [List.getElem?_append_left (by simpa using hi), List.getElem?_map] at q
    cases e : ds[i]? with
    | none => rw [e] at q; cases q
    | some d' =>
      rw [e] at q; cases q
      obtain ⟨v, gv, rv⟩ := h.get e
      refine ⟨v, ?_, rv⟩
      unfold start
      rw [List.getElem?_append_left (by simp; omega), List.getElem?_map, gv]
      rfl
  · rw [List.getElem?_append_right (by simpa using hi), List.getElem?_replicate] at q
    split at q <;> cases q
section
variable {P : Program} {w : World} {K : PySem.W.Frag} {mg : Str → Option Value} {base : Heap}
theorem Fun.okD {x qual : Str} {st : Stmt} {f : Addr} {fd : FuncData} {N ps : List Str} {k n : Nat} {S : SpD} (F : Fun K x qual st f fd) (hn : ps.length = n) (Sc : FnScope N ps (defScope st))
    (hbody : ∀ (cdv : Value) (A : Around) (outer : List Env) (s : Shared) (H : Hp) (E : XK), Room k (A.deeper (envOfC qual (defScope st) s.heap.objs.size f cdv)) →
      ∃ t : TSd, PSsd (cxOf CX0 P w K mg base N qual (defScope st) f cdv A outer s H E).nox (defBody st) t ∧ ∀ ds M R, ds.length = n → S ds M R → t { nx := fun _ M' => R .non M', rt := R } (startD N ds) M) : FnOk P w K mg base CX0 (k + 1) f fd ps (spD K n S) := by
  refine F.ok Sc (fun vs H Q E h => by rw [hn]; exact spD_len h) (fun cdv A outer s H vs Q E hr h => ?_)
  obtain ⟨t, ht, hq⟩ := hbody cdv A outer s H E hr
  obtain ⟨ds, M, R, hl, r, hrr, q, k'⟩ := h
  refine ⟨_, ht, startD N ds, M, _, start_sr r, hrr, hq ds M R hl q, ⟨fun Δ' M' σ' H' q' e' hr' _ => k' .non M' .non H' q' e' hr' (by simp [Rep]), fun _ _ _ _ q' => False.elim q', fun _ _ _ _ q' => False.elim q', fun d M' v H' q' e' hr' rv => k' d M' v H' q' e' hr' rv⟩⟩
end
section
variable {X : Cx} {a b c e : Expr} {es : List Expr} {te ta tb : TEd} {t : TAd} {pos : Pos}
def dCall (n : Nat) (S : SpD) (t : TAd) : TEd := fun Δ M Q => t Δ M fun ds M1 => ds.length = n ∧ S ds M1 Q
theorem d_call {k : Nat} {f : Addr} {fd : FuncData} {ps : List Str} {n : Nat} {S : SpD} {x : Str} {p : Pos} (F : FnOk X.prog X.w X.K X.mg X.base CX0 k f fd ps (spD X.K n S)) (hr : Room k X.A) (hg : Gl X x) (hm : X.mg x = some (.ref f)) (hk : PySem.W.keepIn X.K (.ref f) = true) (hb : Binds X.K fd ps [])
    (ha : PAd X (e :: es) t) (hdb : (x == ("__debug__" : Str)) = false := by decide) (he : starEach (e :: es) X.env = (false, eval e X.env) :: starEach es X.env := by rfl) (hpl : (backTo pos (starEach es X.env)).any (·.1) = false := by rfl) :
    PEd X (.Call (.Name x p) (e :: es) [] pos) (dCall n S t) :=
  (pe_call F hr hg hm hk hb .nil pass0 ha hdb he hpl).conv fun σ H Q ⟨Δ, M, R, sr, hr, q, k⟩ => ⟨Δ, M, _, sr, hr, q, fun ds M1 vs H1 ⟨hl, q1⟩ e1 hr1 rv => by
    dsimp only; rw [List.append_nil]
    exact ⟨ds, M1, R, hl, rv, hr1, q1, fun d M' v H' q' e' hr' rv' => k d M' v H' q' (e1.trans e') hr' rv'⟩⟩
theorem d_call0 {k : Nat} {f : Addr} {fd : FuncData} {ps : List Str} {n : Nat} {S : SpD} {x : Str} {p : Pos} (F : FnOk X.prog X.w X.K X.mg X.base CX0 k f fd ps (spD X.K n S)) (hr : Room k X.A) (hg : Gl X x) (hm : X.mg x = some (.ref f)) (hk : PySem.W.keepIn X.K (.ref f) = true) (hb : Binds X.K fd ps [])
    (hdb : (x == ("__debug__" : Str)) = false := by decide) : PEd X (.Call (.Name x p) [] [] pos) (dCall n S dNil) :=
  (pe_call0 F hr hg hm hk hb .nil pass0 hdb).conv fun σ H Q ⟨Δ, M, R, sr, hr, ⟨hl, q⟩, k⟩ => ⟨[], M, R, hl, RepL.nil, hr, q, fun d M' v H' q' e' hr' rv' => k d M' v H' q' e' hr' rv'⟩

/-! ### cells of ours are written -/
def dApp (to te : TEd) : TEd := fun Δ M Q => to Δ M fun o M1 => ∃ a l, o = .ref a ∧ M1 a = some (.lst l) ∧ te Δ M1 fun d M2 => ∃ ds, M2 a = some (.lst ds) ∧ ds.length < sizeLine ∧ Q .non (updM M2 a (.lst (ds ++ [d])))
theorem d_app {o : Expr} {to : TEd} {apos cpos : Pos} (ho : PEd X o to) (he : PEd X e te) (hbase : attributeBase o "append" X.env (eval o X.env) = eval o X.env := by rfl)
    (hse : starEach [e] X.env = (false, eval e X.env) :: starEach [] X.env := by rfl)
    (hfew : ((backTo cpos (starEach [e] X.env)).all (fun x => !x.1) && (backToKw cpos (keywordEach [] X.env)).all (fun x => x.1.isSome)
      && decide ([e].length + ([] : List Keyword).length + (if ([] : List Keyword).isEmpty then 0 else 1) < 30)) = true := by rfl)
    (hline : (apos.endLine == cpos.line) = true := by rfl) (hplain : (backTo cpos (starEach [] X.env)).any (·.1) = false := by rfl) : PEd X (.Call (.Attribute o "append" apos) [e] [] cpos) (dApp to te) :=
  (pe_bm PySem.F.plainAttrs_list PySem.F.slot_list_append PySem.F.type_list_append (show MtR X "list.append" rAppend from mt_append) ho (pa_cons he pa_nil hse) hbase hfew hline hse hplain).conv fun σ H Q ⟨Δ, M, R, sr, hr, q, k⟩ => ⟨Δ, M, _, sr, hr, q, fun o M1 ov H1 ⟨a, l, eo, em, q1⟩ e1 hr1 ro => by
    subst eo
    simp only [Rep] at ro
    subst ro
    obtain ⟨vs, hv, rl⟩ := hr1 a _ em
    refine ⟨.inl ⟨rfl, vs, SqL.of hv⟩, Δ, M1, _, sr.ext e1, hr1, q1, fun d M2 v H2 ⟨ds, em2, hz, q2⟩ e2 hr2 rv => ?_⟩
    obtain ⟨ws, hw, rl2⟩ := hr2 a _ em2
    refine ⟨a, ws, v, rfl, rfl, hw, by rw [← rl2.length]; exact hz, k _ _ _ _ q2 ((e1.trans e2).trans (Ext.write em2)) (hr2.write em2 (rl2.append (RepL.cons rv RepL.nil))) (by simp [Rep])⟩⟩
end
end L2

set_option Elab.async false
set_option linter.all false
set_option maxRecDepth 100000
namespace L2
open PySem PySem.Spec PyProof.Rows
/-! ### any source that the library walks, as a Turn -/
def ItW (n : Nat) (Vp : Nat → V → Prop) : It := ⟨fun i _ => i < n, fun i H x H' => H' = H ∧ Vp i x, fun i _ => n ≤ i⟩
theorem turn_walk {P : Program} {w : World} {K : PySem.W.Frag} {tg : Expr} {it : Addr} {n : Nat} {Pv : Nat → Value → Prop} {St : Nat → Heap → Prop} {ty : String} {Vp : Nat → V → Prop}
    (W : ∀ A : Around, A.handled = none → Walks P w A it [it] [it] n Pv St) (ho : ∀ i h, St i h → ∃ o, h.get? it = some o ∧ o.cls = .type ty ∧ ∃ vs, o.data = .fields vs)
    (hn : ["enumerate", "zip", "dict_itemiterator", "dict_reverseitemiterator", "odict_iterator", "itertools.zip_longest", "itertools.pairwise"].contains ty = false)
    (hv : ∀ i u, Pv i u → ∃ x, RelV x u ∧ Vp i x) (hself : ∀ (A : Around) (i : Nat) (s : Shared) (Q : Value → Shared → Prop) (E : Value → Shared → Prop), St i s.heap → Q (.ref it) s → wpAny (model P w) A (pyIter (.ref it)) Q E s) : Turn P w K tg (ItW n Vp) [it] it (fun i h => i ≤ n ∧ St i h) where
  mem := by simp
  obj := fun i h st b hb => by
    have e : b = it := by simpa using hb
    subst e
    obtain ⟨o, e, c, vs, d⟩ := ho i h st.2
    exact ⟨o, e, fun v z => by rw [d] at z; cases z⟩
  keep := fun i h h' st k => ⟨st.1, (W { handled := none } rfl).frame i h h' st.2 k⟩
  item := by
    intro X hP hw hK hc i pins s σ H E I hf st hg
    subst hP hw hK
    obtain ⟨f0, f1, f2, f3, f4, f5⟩ := hf it (by simp)
    refine (W X.A (I.ok.hd hc)).item i s _ _ hg st.2 fun v h' tk pv st' kk => ?_
    have I1 : Inv X pins σ H { s with heap := h', toks := tk } := I.turned (fun b o hb e => kk b o (by simpa using hb) e) f0 f1 f3 f4 f5
    obtain ⟨x, rx, vx⟩ := hv i v pv
    obtain ⟨o, e, c, vs, d⟩ := ho _ _ st'
    exact ⟨v, rfl, go_of (s := { s with heap := h', toks := tk }) e c d hn ⟨x, H, I1, rx, ⟨rfl, vx⟩, ⟨hg, st'⟩, fun b hb => (hf b hb).1⟩⟩
  done := by
    intro X hP hw hK hc i pins s σ H E I hf st hg
    subst hP hw hK
    obtain ⟨f0, f1, f2, f3, f4, f5⟩ := hf it (by simp)
    have e : i = n := Nat.le_antisymm st.1 hg
    subst e
    exact (W X.A (I.ok.hd hc)).done s _ _ st.2 fun h' tk kk => ⟨rfl, I.turned (fun b o hb e => kk b o (by simpa using hb) e) f0 f1 f3 f4 f5⟩
  self := fun A i s Q E st h => hself A i s Q E st.2 h
section
variable {X : Cx} {a b c e : Expr} {es : List Expr} {te ta tb : TEd} {t : TAd} {pos : Pos} {tg iter : Expr}
/-! ### a text's signs -/
def signs (x : Str) : List D := x.cps.toList.map fun c => .str ⟨#[c]⟩
theorem str_pie {pins : List (Addr × Obj)} {σ : St} {H : Hp} {s : Shared} {x : Str} {t : Tok} {R : It → Hp → Prop} (I : Inv X pins σ H s) (ty : String) (hn : ["enumerate", "zip", "dict_itemiterator", "dict_reverseitemiterator", "odict_iterator", "itertools.zip_longest", "itertools.pairwise"].contains ty = false)
    (W : ∀ A : Around, A.handled = none → Walks X.prog X.w A s.heap.objs.size [s.heap.objs.size] [s.heap.objs.size] x.cps.size (SignAt x) (fun i h => h.IsStrIter s.heap.objs.size ty x t i))
    (hself : ∀ (A : Around) (i : Nat) (s' : Shared) (Q : Value → Shared → Prop) (E : Value → Shared → Prop), s'.heap.IsStrIter s.heap.objs.size ty x t i → Q (.ref s.heap.objs.size) s' → wpAny (model X.prog X.w) A (pyIter (.ref s.heap.objs.size)) Q E s')
    (q : R (ItW x.cps.size fun i v => ∃ c, x.cps[i]? = some c ∧ v = .str ⟨#[c]⟩) H) : PIE X pins σ tg R (.ref s.heap.objs.size) { s with heap := s.heap.push { cls := .type ty, data := .fields #[.str x t, .int 0 0] } } := by
  have I1 : Inv X pins σ H { s with heap := s.heap.push { cls := .type ty, data := .fields #[.str x t, .int 0 0] } } := I.kept (t' := s.toks) fun b o e => Heap.get?_push_of_some _ e
  refine ⟨s.heap.objs.size, [s.heap.objs.size], _, _, H, rfl, I1, turn_walk W (fun i h st => ?_) hn (fun i u ⟨c, t', e, ev⟩ => ⟨.str ⟨#[c]⟩, ⟨t', ev⟩, c, e, rfl⟩) hself, ⟨Nat.zero_le _, _, Heap.get?_push_size _ rfl, rfl, rfl⟩, fun b hb => ?_, q⟩
  · obtain ⟨o, e, c, d⟩ := st
    exact ⟨o, e, c, _, d⟩
  · have e : b = s.heap.objs.size := by simpa using hb
    subst e
    exact I.fpOk (Nat.le_refl _) (I.hok.fresh (Nat.le_refl _))
end
end L2

set_option Elab.async false
set_option linter.all false
set_option maxRecDepth 100000
namespace L2
open PySem PySem.Spec PyProof.Rows
section
variable {X : Cx} {a b c e : Expr} {es : List Expr} {te ta tb : TEd} {t : TAd} {pos : Pos}
/-! ### == -/
def eqF (x y : D) : Option D := if dLe x 60 = true ∧ dLe y 60 = true then some (.bl (eqD x y)) else none
theorem eqF_some {x y z : D} (h : eqF x y = some z) : dLe x 60 = true ∧ dLe y 60 = true ∧ z = .bl (eqD x y) := by
  unfold eqF at h
  by_cases hc : dLe x 60 = true ∧ dLe y 60 = true
  · rw [if_pos hc] at h; cases h; exact ⟨hc.1, hc.2, rfl⟩
  · rw [if_neg hc] at h; cases h
theorem o_eq (hu : X.A.units + 64 < cLine) : OpRd X (compareOp .Eq) eqF := by
  intro pins s σ H M x y v u dx dy dz Q I hr rx ry r1 r2 e k
  obtain ⟨h1, h2, rfl⟩ := eqF_some e
  exact (eqAt_D I 60 (A := X.A) (by omega) h1 h2 r1 r2 rx ry).2 X.prog X.w X.xe _ ⟨.bl (eqD dx dy), H, I, rfl, k _ H (Ext.refl _ _) hr (by simp [Rep])⟩

/-! ### in, not in: flat items -/
def inD (neg : Bool) (x y : D) : Option D := match y with
  | .lst ds => if scalD x = true ∧ ds.all scalD = true then some (.bl (xor neg (ds.any fun d => eqD d x))) else none
  | .tup ds => if scalD x = true ∧ ds.all scalD = true then some (.bl (xor neg (ds.any fun d => eqD d x))) else none
  | _ => none
theorem scal_v {K : PySem.W.Frag} {M : DH} {H : Hp} {d : D} {v : V} (h : scalD d = true) (r : Rep K M H d v) : v = toV d ∧ flatV v = true := by
  cases d <;> first | (simp only [Rep] at r; subst r; exact ⟨rfl, rfl⟩) | cases h
theorem scal_eq {x y : D} (hx : scalD x = true) (hy : scalD y = true) : eqV (toV x) (toV y) = eqD x y := by
  cases x <;> cases y <;> first | (simp [scalD] at hx; done) | (simp [scalD] at hy; done) | (simp [toV, eqV, eqD]; done)
theorem any_scal {K : PySem.W.Frag} {M : DH} {H : Hp} {x : D} (hx : scalD x = true) : ∀ {ds : List D} {vs : List V}, RepL K M H ds vs → ds.all scalD = true → vs.all flatV = true ∧ inV (toV x) vs = ds.any fun d => eqD d x
  | [], _, h, _ => by simp only [RepL] at h; subst h; simp [inV]
  | d :: ds, _, h, ha => by
    simp only [RepL] at h
    obtain ⟨v, ws, rfl, h3, h4⟩ := h
    rw [List.all_cons, Bool.and_eq_true] at ha
    obtain ⟨e1, e2⟩ := scal_v ha.1 h3
    obtain ⟨e3, e4⟩ := any_scal hx h4 ha.2
    subst e1
    refine ⟨by rw [List.all_cons, e2, e3]; rfl, ?_⟩
    unfold inV at e4 ⊢
    rw [List.any_cons, List.any_cons, e4, scal_eq ha.1 hx]
theorem RepR.scal {K : PySem.W.Frag} {M : DH} {H : Hp} {d : D} {v : V} (h : scalD d = true) (r : RepR K M H d v) : v = toV d ∧ flatV v = true := by
  cases d <;> first | (simp only [RepR, Rep] at r; subst r; exact ⟨rfl, rfl⟩) | cases h
theorem o_in : OpRd X (compareOp .In) (inD false) := OpRd.of op_in_seq fun H M x y dx dy dz Q hr r1 r2 e q => by
  cases dy with
  | lst ds =>
    simp only [inD] at e
    by_cases hc : scalD dx = true ∧ ds.all scalD = true
    · rw [if_pos hc] at e; cases e
      obtain ⟨l, vs, rfl, sq, rl⟩ := r2
      obtain ⟨e1, e2⟩ := RepR.scal hc.1 r1
      obtain ⟨e3, e4⟩ := any_scal hc.1 rl hc.2
      subst e1
      refine ⟨l, vs, rfl, .inl (SqL.of sq), e2, e3, q _ H (Ext.refl _ _) hr ?_⟩
      rw [e4]; simp [Rep]
    · rw [if_neg hc] at e; cases e
  | tup ds =>
    simp only [inD] at e
    by_cases hc : scalD dx = true ∧ ds.all scalD = true
    · rw [if_pos hc] at e; cases e
      obtain ⟨l, vs, rfl, sq, rl⟩ := r2
      obtain ⟨e1, e2⟩ := RepR.scal hc.1 r1
      obtain ⟨e3, e4⟩ := any_scal hc.1 rl hc.2
      subst e1
      refine ⟨l, vs, rfl, .inr sq, e2, e3, q _ H (Ext.refl _ _) hr ?_⟩
      rw [e4]; simp [Rep]
    · rw [if_neg hc] at e; cases e
  | _ => cases e
theorem o_notin : OpRd X (compareOp .NotIn) (inD true) := OpRd.of op_notIn_seq fun H M x y dx dy dz Q hr r1 r2 e q => by
  cases dy with
  | lst ds =>
    simp only [inD] at e
    by_cases hc : scalD dx = true ∧ ds.all scalD = true
    · rw [if_pos hc] at e; cases e
      obtain ⟨l, vs, rfl, sq, rl⟩ := r2
      obtain ⟨e1, e2⟩ := RepR.scal hc.1 r1
      obtain ⟨e3, e4⟩ := any_scal hc.1 rl hc.2
      subst e1
      refine ⟨l, vs, rfl, .inl (SqL.of sq), e2, e3, q _ H (Ext.refl _ _) hr ?_⟩
      rw [e4]; simp [Rep]
    · rw [if_neg hc] at e; cases e
  | tup ds =>
    simp only [inD] at e
    by_cases hc : scalD dx = true ∧ ds.all scalD = true
    · rw [if_pos hc] at e; cases e
      obtain ⟨l, vs, rfl, sq, rl⟩ := r2
      obtain ⟨e1, e2⟩ := RepR.scal hc.1 r1
      obtain ⟨e3, e4⟩ := any_scal hc.1 rl hc.2
      subst e1
      refine ⟨l, vs, rfl, .inr sq, e2, e3, q _ H (Ext.refl _ _) hr ?_⟩
      rw [e4]; simp [Rep]
    · rw [if_neg hc] at e; cases e
  | _ => cases e

/-! ### len, abs, tuple, list -/
def one1 (f : D → Option D) : List D → Option D
  | [d] => f d
  | _ => none
theorem pair1 {K : PySem.W.Frag} {M : DH} {H : Hp} {d : D} {xs : List V} (h : Paired (RepR K M H) [d] xs) : ∃ v, xs = [v] ∧ RepR K M H d v := by
  cases h with
  | cons r t => cases t; exact ⟨_, rfl, r⟩
theorem one1_some {f : D → Option D} {ds : List D} {z : D} (h : one1 f ds = some z) : ∃ d, ds = [d] ∧ f d = some z := by
  match ds, h with
  | [d], h => exact ⟨d, rfl, h⟩
def lenD : D → Option D
  | .tup ds => some (.int ds.length)
  | .lst ds => some (.int ds.length)
  | .scr ds => some (.int ds.length)
  | .str x => if x.length ≤ sizeLine then some (.int x.length) else none
  | _ => none
theorem c_len : CallRd X (.builtin "len") (one1 lenD) := CallRd.of (CallR.or call_len_seq call_len_str) fun H M xs ds dz Q hr rp e q => by
  obtain ⟨d, rfl, e0⟩ := one1_some e
  clear e
  have e := e0
  clear e0
  obtain ⟨v, rfl, r⟩ := pair1 rp
  cases d with
  | tup ds => cases e; obtain ⟨l, vs, rfl, sq, rl⟩ := r; exact .inl ⟨l, vs, rfl, .inr sq, q _ H (Ext.refl _ _) hr (by rw [← rl.length]; simp [Rep])⟩
  | lst ds => cases e; obtain ⟨l, vs, rfl, sq, rl⟩ := r; exact .inl ⟨l, vs, rfl, .inl (SqL.of sq), q _ H (Ext.refl _ _) hr (by rw [← rl.length]; simp [Rep])⟩
  | scr ds => cases e; obtain ⟨l, vs, rfl, sq, rl⟩ := r; exact .inl ⟨l, vs, rfl, .inl sq, q _ H (Ext.refl _ _) hr (by rw [← rl.length]; simp [Rep])⟩
  | str x =>
    simp only [lenD] at e
    by_cases hz : x.length ≤ sizeLine
    · rw [if_pos hz] at e; cases e
      exact .inr ⟨x, by rw [rStr r], hz, q _ H (Ext.refl _ _) hr (by simp [Rep])⟩
    · rw [if_neg hz] at e; cases e
  | _ => cases e
def absD : D → Option D
  | .int i => some (.int (if i < 0 then -i else i))
  | _ => none
def tupD : D → Option D
  | .lst ds => some (.tup ds)
  | .tup ds => some (.tup ds)
  | _ => none
theorem c_tuple : CallRd X (.type "tuple") (one1 tupD) := CallRd.of call_tuple_of fun H M xs ds dz Q hr rp e q => by
  obtain ⟨d, rfl, e0⟩ := one1_some e
  clear e
  have e := e0
  clear e0
  obtain ⟨v, rfl, r⟩ := pair1 rp
  cases d with
  | lst ds => cases e; obtain ⟨l, vs, rfl, sq, rl⟩ := r; exact ⟨l, vs, rfl, .inl ⟨SqL.of sq, fun p hp => freshT hr hp rl q⟩⟩
  | tup ds => cases e; have t1 := RepR.tup hr r; obtain ⟨l, vs, rfl, sq, rl⟩ := r; exact ⟨l, vs, rfl, .inr ⟨sq, q _ H (Ext.refl _ _) hr t1⟩⟩
  | _ => cases e

/-! ### all, any of truths -/
end
end L2

set_option Elab.async false
set_option linter.all false
set_option maxRecDepth 100000
namespace L2
open PySem PySem.Spec PyProof.Rows
section
variable {X : Cx} {a b c e : Expr} {es : List Expr} {te ta tb : TEd} {t : TAd} {pos : Pos}
/-! ### isinstance -/
def isiD (T : String) : D → Option Bool
  | .non => some false
  | .bl _ => some (T == "bool" || T == "int")
  | .int _ => some (T == "int")
  | .str _ => some (T == "str")
  | .tup _ => some (T == "tuple")
  | .lst _ => some (T == "list")
  | .emp => some (T == "dict")
  | _ => none
def okT (T : String) : Bool := T == "bool" || T == "int" || T == "str" || T == "tuple" || T == "list"
def dIsi (T : String) (te : TEd) : TEd := fun Δ M Q => te Δ M fun d M1 => ∃ k, isiD T (rdM M1 d) = some k ∧ Q (.bl k) M1
theorem isi_call' {T : String} (hT : okT T = true) {pins : List (Addr × Obj)} {s : Shared} {σ : St} {H : Hp} {M : DH} {v : V} {u : Value} {d : D} {k : Bool} {Q : VK} (I : Inv X pins σ H s) (r : RelV v u) (rd : RepR X.K M H d v) (e : isiD T d = some k) (q : Q (.bl k) H) :
    wpAny (model X.prog X.w) X.A (call (.builtin "isinstance") [u, .type T]) (EP X pins σ Q) X.xe s := by
  have fin : ∀ {k'} , k = k' → EP X pins σ Q (.bool k') s := fun e => by subst e; exact ⟨.bl k, H, I, rfl, q⟩
  have fint : ∀ {k'} , k = k' → EP X pins σ Q (.bool k') { s with toks := s.toks + 1 } := fun e => by subst e; exact ⟨.bl k, H, I.tok _, rfl, q⟩
  have h5 : T = "bool" ∨ T = "int" ∨ T = "str" ∨ T = "tuple" ∨ T = "list" := by
    simp [okT] at hT
    rcases hT with (((h | h) | h) | h) | h <;> simp [h]
  cases d with
  | non =>
    simp only [RepR, Rep] at rd; subst rd; simp only [RelV] at r; subst r; cases e
    rcases h5 with rfl | rfl | rfl | rfl | rfl
    · exact IsiPair.NoneType_bool (fint rfl)
    · exact IsiPair.NoneType_int (fint rfl)
    · exact IsiPair.NoneType_str (fint rfl)
    · exact IsiPair.NoneType_tuple (fint rfl)
    · exact IsiPair.NoneType_list (fint rfl)
  | bl b =>
    simp only [RepR, Rep] at rd; subst rd; simp only [RelV] at r; subst r; cases e
    rcases h5 with rfl | rfl | rfl | rfl | rfl
    · exact IsiPair.bool_bool (fin rfl)
    · exact IsiPair.bool_int (fin rfl)
    · exact IsiPair.bool_str (fint rfl)
    · exact IsiPair.bool_tuple (fint rfl)
    · exact IsiPair.bool_list (fint rfl)
  | int i =>
    simp only [RepR, Rep] at rd; subst rd; obtain ⟨t, rfl⟩ := r; cases e
    rcases h5 with rfl | rfl | rfl | rfl | rfl
    · exact IsiPair.int_bool (fint rfl)
    · exact IsiPair.int_int (fin rfl)
    · exact IsiPair.int_str (fint rfl)
    · exact IsiPair.int_tuple (fint rfl)
    · exact IsiPair.int_list (fint rfl)
  | str x =>
    simp only [RepR, Rep] at rd; subst rd; obtain ⟨t, rfl⟩ := r; cases e
    rcases h5 with rfl | rfl | rfl | rfl | rfl
    · exact IsiPair.str_bool (fint rfl)
    · exact IsiPair.str_int (fint rfl)
    · exact IsiPair.str_str (fin rfl)
    · exact IsiPair.str_tuple (fint rfl)
    · exact IsiPair.str_list (fint rfl)
  | tup ds =>
    obtain ⟨a, vs, rfl, sq, rl⟩ := rd
    cases r; cases e
    obtain ⟨its, rv, ⟨o, ho, hc, _⟩, _⟩ := I.tuple sq
    rcases h5 with rfl | rfl | rfl | rfl | rfl
    · exact IsiPair.tuple_bool ho hc (fint rfl)
    · exact IsiPair.tuple_int ho hc (fint rfl)
    · exact IsiPair.tuple_str ho hc (fint rfl)
    · exact IsiPair.tuple_tuple ho hc (fin rfl)
    · exact IsiPair.tuple_list ho hc (fint rfl)
  | lst ds =>
    obtain ⟨a, vs, rfl, sq, rl⟩ := rd
    cases r; cases e
    obtain ⟨its, rv, ⟨o, n, ho, hc, _⟩, _⟩ := I.list (SqL.of sq)
    rcases h5 with rfl | rfl | rfl | rfl | rfl
    · exact IsiPair.list_bool ho hc (fint rfl)
    · exact IsiPair.list_int ho hc (fint rfl)
    · exact IsiPair.list_str ho hc (fint rfl)
    · exact IsiPair.list_tuple ho hc (fint rfl)
    · exact IsiPair.list_list ho hc (fin rfl)
  | emp =>
    simp only [RepR, Rep] at rd
    obtain ⟨a, rfl, h1, _⟩ := rd
    cases r; cases e
    obtain ⟨_, _, _, _, o, es, ep, ho, ex, _⟩ := I.hok a _ h1
    rcases h5 with rfl | rfl | rfl | rfl | rfl
    · exact IsiPair.dict_bool ho ex.1 (fint rfl)
    · exact IsiPair.dict_int ho ex.1 (fint rfl)
    · exact IsiPair.dict_str ho ex.1 (fint rfl)
    · exact IsiPair.dict_tuple ho ex.1 (fint rfl)
    · exact IsiPair.dict_list ho ex.1 (fint rfl)
  | _ => cases e
theorem d_isi {T : Str} {Tn : String} {p p2 : Pos} (hT : okT Tn = true) (hg : Gl X "isinstance") (hm : X.mg "isinstance" = none) (hg2 : Gl X T) (hm2 : X.mg T = none) (hv2 : bootBuiltins T = some (.type Tn)) (ha : PEd X a ta) (hn2 : T ≠ "__name__" := by decide) (hd2 : (T == ("__debug__" : Str)) = false := by decide)
    (hs : starEach [a, .Name T p2] X.env = (false, eval a X.env) :: starEach [.Name T p2] X.env := by rfl) (hs2 : starEach [.Name T p2] X.env = (false, eval (.Name T p2) X.env) :: starEach [] X.env := by rfl) (hpl : (backTo pos (starEach [.Name T p2] X.env)).any (·.1) = false := by rfl) :
    PEd X (.Call (.Name "isinstance" p) [a, .Name T p2] [] pos) (dIsi Tn ta) := by
  have hc : CallR X (.builtin "isinstance") (fun xs H Q => ∃ v d k M, xs = [v, .ty Tn] ∧ RepR X.K M H d v ∧ isiD Tn d = some k ∧ Q (.bl k) H) := by
    intro pins s σ H xs us Q I rv h
    obtain ⟨v, d, k, M, rfl, rd, ek, q⟩ := h
    obtain ⟨u1, u2, rfl, r1, r2⟩ := Vals.two rv
    cases r2
    exact isi_call' hT I r1 rd ek q
  refine (pe_callB hc hg hm (by kernel_rfl) (pa_cons ha (pa_cons (pe_bltn (v := .ty Tn) hg2 hm2 hv2 rfl hn2 hd2) pa_nil hs2) hs) (by decide) (by decide) hs hpl).conv fun σ H Q hh => ?_
  obtain ⟨Δ, M, R, sr, hr, q, k⟩ := hh
  exact ⟨Δ, M, _, sr, hr, q, fun d M1 v H1 ⟨kk, ek, q1⟩ e1 hr1 rv => ⟨v, _, kk, M1, rfl, rv.rd hr1, ek, k _ M1 _ H1 q1 e1 hr1 (by simp [Rep])⟩⟩

/-! ### slices -/
abbrev TOd := DE → DH → (Option Int → DH → Prop) → Prop
def upO (K : PySem.W.Frag) (t : TOd) : TO := fun σ H Q => ∃ (Δ : DE) (M : DH) (R : Option Int → DH → Prop), SR K M H σ Δ ∧ HR K M H ∧ t Δ M R ∧ ∀ i M' H', R i M' → Ext M H M' H' → HR K M' H' → Q i H'
def POd (X : Cx) (e : Option Expr) (t : TOd) : Prop := PO X e (upO X.K t)
def dNoPart : TOd := fun _ M Q => Q none M
def dPart (t : TEd) : TOd := fun Δ M Q => t Δ M fun d M1 => ∃ i, d = .int i ∧ Q (some i) M1
theorem PO.conv {e : Option Expr} {t t' : TO} (h : PO X e t) (k : ∀ σ H Q, t' σ H Q → t σ H Q) : PO X e t' := fun p s σ H Q I q => h p s σ H Q I (k σ H Q q)
theorem od_none : POd X none dNoPart := po_none.conv fun σ H Q ⟨Δ, M, R, sr, hr, q, k⟩ => k none M H q (Ext.refl _ _) hr
theorem od_some (h : PEd X e te) : POd X (some e) (dPart te) := (po_some h).conv fun σ H Q ⟨Δ, M, R, sr, hr, q, k⟩ => ⟨Δ, M, _, sr, hr, q, fun d M1 v H1 ⟨i, ed, q1⟩ e1 hr1 rv => ⟨i, by subst ed; simpa only [Rep] using rv, k _ M1 H1 q1 e1 hr1⟩⟩
def cutD (xs : List D) (lo hi : Option Int) : List D := (xs.drop (HT.sIx xs.length 0 lo)).take (HT.sIx xs.length xs.length hi - HT.sIx xs.length 0 lo)
def slD : D → Option Int → Option Int → Option D
  | .lst ds, lo, hi => some (.lst (cutD ds lo hi))
  | .scr ds, lo, hi => some (.lst (cutD ds lo hi))
  | .str x, lo, hi => if x.length ≤ sizeLine then some (.str (Txt.slice x lo hi)) else none
  | .tup ds, lo, hi => if HT.sIx ds.length 0 lo = 0 ∧ HT.sIx ds.length ds.length hi = ds.length then none else some (.tup (cutD ds lo hi))
  | _, _, _ => none
def rSlS : V → Option Int → Option Int → Hp → VK → Prop := fun x lo hi H Q => ∃ z, x = .str z ∧ z.length ≤ sizeLine ∧ Q (.str (Txt.slice z lo hi)) H
theorem sl_str : SlR X rSlS := by
  intro pins s σ H x v vl vu lo hi sl Q I rx hs pl pu h
  obtain ⟨z, rfl, hz, q⟩ := h
  obtain ⟨t, rfl⟩ := rx
  refine ⟨"str", _, PySem.F.slot_str_getitem.lookup, typeIs_str _ _ _, ?_⟩
  have fin : ∀ (t' : Tok) (k : Nat), EP X pins σ Q (.str (Txt.slice z lo hi) t') { s with toks := k } := fun t' k => ⟨.str (Txt.slice z lo hi), H, I.tok _, ⟨t', rfl⟩, q⟩
  cases pl with
  | none =>
    cases pu with
    | none => exact wpAny_getItem_str_slice (l := none) (u := none) (st := none) hs rfl (post_val_or_str ⟨Nat.le_trans (Txt.slice_le z _ _) hz, fin⟩)
    | int j tj => exact wpAny_getItem_str_slice (l := none) (u := some (j, tj)) (st := none) hs rfl (post_val_or_str ⟨Nat.le_trans (Txt.slice_le z _ _) hz, fin⟩)
  | int i ti =>
    cases pu with
    | none => exact wpAny_getItem_str_slice (l := some (i, ti)) (u := none) (st := none) hs rfl (post_val_or_str ⟨Nat.le_trans (Txt.slice_le z _ _) hz, fin⟩)
    | int j tj => exact wpAny_getItem_str_slice (l := some (i, ti)) (u := some (j, tj)) (st := none) hs rfl (post_val_or_str ⟨Nat.le_trans (Txt.slice_le z _ _) hz, fin⟩)

/-! ### join -/
end
end L2

set_option Elab.async false
set_option linter.all false
set_option maxRecDepth 100000
namespace L2
open PySem PySem.Spec PyProof.Rows
/-! ### a block's names, by one look at the text -/
def closOf (names : List (Str × NameKind)) (cells : List (Str × Addr)) : List (Str × Addr) := (names.filterMap fun y => if y.2 == .free then (cells.lookup y.1).map fun c => (y.1, c) else none).reverse
def closStep (env : Env) (y : Str × NameKind) (cs : List (Str × Addr)) : Sem (ForInStep (List (Str × Addr))) := if (y.2 == .free) = true then (do let c ← cellOf env y.1; pure (ForInStep.yield ((y.1, c) :: cs))) else pure (ForInStep.yield cs)
theorem clos_loop {env : Env} : ∀ (names : List (Str × NameKind)) (acc : List (Str × Addr)), (∀ y ∈ names, y.2 = .free → (env.cells.lookup y.1).isSome = true) →
    (forIn names acc (closStep env) : Sem (List (Str × Addr))) = pure (closOf names env.cells ++ acc)
  | [], acc, _ => by simp [closOf]
  | y :: r, acc, h => by
    rw [List.forIn_cons]
    by_cases hk : (y.2 == NameKind.free) = true
    · have hs := h y List.mem_cons_self (by simpa using hk)
      obtain ⟨c, hc⟩ := Option.isSome_iff_exists.mp hs
      have e1 : closStep env y acc = pure (ForInStep.yield ((y.1, c) :: acc)) := by
        unfold closStep cellOf
        rw [if_pos hk, hc]
        simp only [pure_bind]
      rw [e1]
      simp only [pure_bind]
      rw [clos_loop r ((y.1, c) :: acc) fun y hy => h y (List.mem_cons_of_mem _ hy)]
      have e2 : closOf (y :: r) env.cells = closOf r env.cells ++ [(y.1, c)] := by
        unfold closOf
        rw [List.filterMap_cons, if_pos hk, hc]
        simp
      rw [e2]
      simp
    · have e1 : closStep env y acc = pure (ForInStep.yield acc) := by
        unfold closStep
        rw [if_neg hk]
      rw [e1]
      simp only [pure_bind]
      rw [clos_loop r acc fun y hy => h y (List.mem_cons_of_mem _ hy)]
      have e2 : closOf (y :: r) env.cells = closOf r env.cells := by
        unfold closOf
        rw [List.filterMap_cons, if_neg hk]
      rw [e2]
theorem clos_eq {scope : Scope} {env : Env} (h : ∀ y ∈ scope.names, y.2 = .free → (env.cells.lookup y.1).isSome = true) : closureFor scope env = pure (closOf scope.names env.cells) := by
  have := clos_loop (env := env) scope.names [] h
  simp only [List.append_nil] at this
  show (forIn scope.names [] (closStep env) >>= fun cs => pure cs) = _
  rw [this]
  simp only [pure_bind]
theorem clos_sub {cells : List (Str × Addr)} {names : List (Str × NameKind)} {x : Str} {c : Addr} (h : (closOf names cells).lookup x = some c) : cells.lookup x = some c := by
  have hm := PySem.mem_of_lookup h
  unfold closOf at hm
  rw [List.mem_reverse, List.mem_filterMap] at hm
  obtain ⟨y, _, e⟩ := hm
  split at e
  · cases q : cells.lookup y.1 with
    | none => rw [q] at e; cases e
    | some c' => rw [q] at e; cases e; exact q
  · cases e
theorem lookup_some_of_mem : ∀ {l : List (Str × Addr)} {x : Str} {c : Addr}, (x, c) ∈ l → ∃ c', l.lookup x = some c'
  | (y, d) :: l, x, c, h => by
    rw [List.lookup_cons]
    cases q : x == y with
    | true => exact ⟨d, by simp⟩
    | false =>
      rcases List.mem_cons.mp h with e | h
      · cases e; simp at q
      · simpa using lookup_some_of_mem h
theorem clos_has {cells : List (Str × Addr)} {names : List (Str × NameKind)} {x : Str} (h : names.lookup x = some .free) (hs : (cells.lookup x).isSome = true) : ∃ c, (closOf names cells).lookup x = some c := by
  obtain ⟨c, hc⟩ := Option.isSome_iff_exists.mp hs
  refine lookup_some_of_mem (c := c) ?_
  unfold closOf
  rw [List.mem_reverse, List.mem_filterMap]
  exact ⟨(x, .free), PySem.mem_of_lookup h, by simp [hc]⟩
def compOkB (fs : Scope) (N : List Str) (scope : Scope) (ms : List Bool) : Bool :=
  scope.kind == .function && scope.names.all (fun y => y.2 != .cell) && scope.names.all (fun y => y.2 != .local || scope.names.lookup y.1 == some .local) &&
  scope.names.all (fun y => y.2 != .free || fs.names.lookup y.1 == some .cell) && (ms.zip N).all (fun y => !y.1 || scope.names.lookup y.2 == some .free) && decide (ms.length ≤ N.length)
theorem compSc_of {X : Cx} {scope : Scope} {ms : List Bool} {extra : List Str} {n0 : Nat} (hX : X.env.cells = cellsFrom n0 X.env.scope.names []) (c : compOkB X.env.scope X.N scope ms = true) : CompSc X scope (closOf scope.names X.env.cells) ms extra := by
  unfold compOkB at c
  simp only [Bool.and_eq_true, List.all_eq_true, decide_eq_true_eq] at c
  obtain ⟨⟨⟨⟨⟨c1, c2⟩, c3⟩, c4⟩, c5⟩, c6⟩ := c
  have fr : ∀ x, (x, NameKind.free) ∈ scope.names → X.env.scope.names.lookup x = some .cell := fun x hx => by
    have := c4 _ hx
    simpa using this
  have cs : ∀ x, (x, NameKind.free) ∈ scope.names → (X.env.cells.lookup x).isSome = true := fun x hx => by
    rw [hX]
    exact PySem.W.cellsFrom_some _ _ _ (.inl (fr x hx))
  refine ⟨by simpa using c1, fun y hy e => ?_, fun y hy e => ?_, clos_eq fun y hy e => ?_, fun x c h => clos_sub h, fun x h => clos_has h (cs x (PySem.mem_of_lookup h)), fun x h => .inl (fr x (PySem.mem_of_lookup h)), fun i x h1 h2 => ?_, c6⟩
  · have := c2 y hy
    rw [e] at this
    simp at this
  · have := c3 y hy
    simpa [e] using this
  · obtain ⟨a, b⟩ := y
    cases e
    exact cs a hy
  · have := c5 (true, x) (by
      rw [List.mem_iff_getElem?]
      exact ⟨i, by rw [List.getElem?_zip_eq_some]; exact ⟨h1, h2⟩⟩)
    simpa using this

/-! ### a def of the text, by its name -/
structure FnD (P : Program) (w : World) (K : PySem.W.Frag) (mg : Str → Option Value) (base : Heap) (x : Str) (k n : Nat) (S : SpD) : Prop where
  ex : ∃ (f : Addr) (fd : FuncData) (ps : List Str), FnOk P w K mg base CX0 k f fd ps (spD K n S) ∧ mg x = some (.ref f) ∧ PySem.W.keepIn K (.ref f) = true ∧ Binds K fd ps []
section
variable {X : Cx} {e : Expr} {es : List Expr} {t : TAd} {pos p : Pos} {x : Str} {k n : Nat} {S : SpD}
theorem dc (F : FnD X.prog X.w X.K X.mg X.base x k n S) (hr : Room k X.A) (hg : Gl X x) (ha : PAd X (e :: es) t) (hdb : (x == ("__debug__" : Str)) = false := by decide) (he : starEach (e :: es) X.env = (false, eval e X.env) :: starEach es X.env := by rfl) (hpl : (backTo pos (starEach es X.env)).any (·.1) = false := by rfl) :
    PEd X (.Call (.Name x p) (e :: es) [] pos) (dCall n S t) := by
  obtain ⟨f, fd, ps, h1, h2, h3, h4⟩ := F.ex
  exact d_call h1 hr hg h2 h3 h4 ha hdb he hpl
theorem dc0 (F : FnD X.prog X.w X.K X.mg X.base x k n S) (hr : Room k X.A) (hg : Gl X x) (hdb : (x == ("__debug__" : Str)) = false := by decide) :
    PEd X (.Call (.Name x p) [] [] pos) (dCall n S dNil) := by
  obtain ⟨f, fd, ps, h1, h2, h3, h4⟩ := F.ex
  exact d_call0 h1 hr hg h2 h3 h4 hdb
end
end L2

set_option Elab.async false
set_option linter.all false
set_option maxRecDepth 100000
namespace L2
open PySem PySem.Spec PyProof.Rows
section
variable {X : Cx} {a b c e : Expr} {es : List Expr} {te ta tb : TEd} {t : TAd} {pos : Pos} {tg iter : Expr}
def dRetF (te : TEd) : TSd := fun E Δ M => te Δ M fun d M1 => ∃ a ds, d = .ref a ∧ M1 a = some (.lst ds) ∧ E.rt (.lst ds) (delM M1 a)
theorem d_retF (he : PEd X e te) : PSd X (.Return (some e) pos) (dRetF te) := (ps_ret he).conv fun D σ H ⟨Δ, M, E, sr, hr, q, k⟩ => ⟨Δ, M, _, sr, hr, q, fun d M1 v H1 ⟨a, ds, ed, em, q1⟩ e1 hr1 rv => by
  subst ed
  simp only [Rep] at rv
  subst rv
  exact k.rt _ _ _ H1 q1 (e1.trans (Ext.le LeM.del)) (hr1.le LeM.del) (Rep.froze hr1 LeM.del em delM_same)⟩
/-! += of ints -/
theorem o_iadd : OpRd X (inplaceOp .Add) (iOp fun i j => some (.int (i + j))) := by
  intro pins s σ H M x y v u dx dy dz Q I hr rx ry r1 r2 e k
  obtain ⟨i, j, rfl, rfl, e'⟩ := iOp_some e
  cases e'
  exact ip_add pins s σ H x y v u Q I rx ry ⟨i, j, rInt r1, rInt r2, k _ H (Ext.refl _ _) hr (by simp [Rep])⟩
/-! ### whatever can be walked: a tuple, a list that stays, the script, a text -/
def itemsD : D → Option (List D)
  | .tup ds => some ds
  | .lst ds => some ds
  | .scr ds => some ds
  | .str x => if x.length ≤ sizeLine then some (signs x) else none
  | _ => none
def diAny (te : TEd) : TId := fun Δ M R => te Δ M fun d M1 => ∃ ds, itemsD d = some ds ∧ (ds.length ≤ sizeLine → R ds M1)
theorem one_it {pins : List (Addr × Obj)} {σ : St} {H : Hp} {s : Shared} {o : Obj} (I : Inv X pins σ H s) : ∀ b ∈ [s.heap.objs.size], FpOk X pins H b := fun b hb => by
  have e : b = s.heap.objs.size := by simpa using hb
  subst e
  exact I.fpOk (Nat.le_refl _) (I.hok.fresh (Nat.le_refl _))
theorem str_it {K : PySem.W.Frag} {x : Str} {M1 : DH} {H1 : Hp} : ItD K (ItW x.cps.size fun i v => ∃ c, x.cps[i]? = some c ∧ v = .str ⟨#[c]⟩) (signs x) M1 H1 := fun M2 H2 e2 hr2 i => ⟨fun d hd => by
    unfold signs at hd
    rw [List.getElem?_map] at hd
    cases q : x.cps.toList[i]? with
    | none => rw [q] at hd; cases hd
    | some c =>
      rw [q] at hd; cases hd
      have hc : x.cps[i]? = some c := by simpa using q
      refine ⟨?_, fun y H' ⟨eH, c', hc', ey⟩ => ?_⟩
      · exact (Array.getElem?_eq_some_iff.mp hc).1
      · subst eH; subst ey
        rw [hc] at hc'; cases hc'
        exact ⟨Ext.refl _ _, hr2, by simp [Rep]⟩, fun hl => by
    show x.cps.size ≤ i
    simpa [signs] using hl⟩
theorem i_any (h : PEd X iter te) : PId X tg iter (diAny te) := by
  intro pins s σ H R I hh
  obtain ⟨Δ, M, R', sr, hr, q, k⟩ := hh
  refine thn (h pins s σ H (fun v H1 => ∃ d ds M1, itemsD d = some ds ∧ (ds.length ≤ sizeLine → R' ds M1) ∧ Ext M H M1 H1 ∧ HR X.K M1 H1 ∧ Rep X.K M1 H1 d v) I ⟨Δ, M, _, sr, hr, q, fun d M1 v H1 ⟨ds, ed, q1⟩ e1 hr1 rv => ⟨d, ds, M1, ed, q1, e1, hr1, rv⟩⟩) fun u s1 ⟨v, H1, I1, r1, d, ds, M1, ed, q1, e1, hr1, rv⟩ => ?_
  have lo := RepR.len (K := X.K) I1 rv
  cases d with
  | tup es =>
    cases ed
    simp only [Rep] at rv
    obtain ⟨a, vs, rfl, ta, rl⟩ := rv
    cases r1
    obtain ⟨its, rvv, p, hz⟩ := I1.tuple ta.sq
    refine wpAny_pyIter_tuple (show s1.heap.IsTuple a its.toArray from p) ?_
    refine ⟨s1.heap.objs.size, [s1.heap.objs.size], _, _, H1, rfl, I1.kept (t' := s1.toks) fun b o e => Heap.get?_push_of_some _ e, turn_tuple a _, ⟨_, Heap.get?_push_size _ rfl, rfl, rfl⟩, one_it (o := default) I1, ?_⟩
    refine k _ M1 _ H1 (q1 lo) e1 hr1 fun M2 H2 e2 hr2 i => ⟨fun d hd => ?_, fun hl => ⟨vs, (ta.ext e2).sq, by rw [← rl.length]; exact hl⟩⟩
    obtain ⟨v, gv, r⟩ := rl.get hd
    refine ⟨⟨vs, v, (ta.ext e2).sq, gv⟩, fun x H' ⟨eH, y⟩ => ?_⟩
    subst eH
    have := y vs (ta.ext e2).sq
    rw [gv] at this; cases this
    exact ⟨Ext.refl _ _, hr2, r.ext e2⟩
  | lst es =>
    cases ed
    simp only [Rep] at rv
    obtain ⟨a, vs, rfl, ta, rl⟩ := rv
    cases r1
    obtain ⟨its, rvv, p, hz⟩ := I1.list (SqL.of ta.1)
    refine wpAny_pyIter_list p.isList ?_
    refine ⟨s1.heap.objs.size, [s1.heap.objs.size], _, _, H1, rfl, I1.kept (t' := s1.toks) fun b o e => Heap.get?_push_of_some _ e, turn_list a _, ⟨_, Heap.get?_push_size _ rfl, rfl, rfl⟩, one_it (o := default) I1, ?_⟩
    refine k _ M1 _ H1 (q1 lo) e1 hr1 fun M2 H2 e2 hr2 i => ⟨fun d hd => ?_, fun hl => ⟨vs, SqL.of (ta.ext e2).1, by rw [← rl.length]; exact hl⟩⟩
    obtain ⟨v, gv, r⟩ := rl.get hd
    refine ⟨⟨vs, v, SqL.of (ta.ext e2).1, gv⟩, fun x H' ⟨eH, y⟩ => ?_⟩
    subst eH
    have := y vs (SqL.of (ta.ext e2).1)
    rw [gv] at this; cases this
    exact ⟨Ext.refl _ _, hr2, r.ext e2⟩
  | scr es =>
    cases ed
    simp only [Rep] at rv
    obtain ⟨a, vs, rfl, ta, rl⟩ := rv
    cases r1
    obtain ⟨its, rvv, p, hz⟩ := I1.list ta.sq
    refine wpAny_pyIter_list p.isList ?_
    refine ⟨s1.heap.objs.size, [s1.heap.objs.size], _, _, H1, rfl, I1.kept (t' := s1.toks) fun b o e => Heap.get?_push_of_some _ e, turn_list a _, ⟨_, Heap.get?_push_size _ rfl, rfl, rfl⟩, one_it (o := default) I1, ?_⟩
    refine k _ M1 _ H1 (q1 lo) e1 hr1 fun M2 H2 e2 hr2 i => ⟨fun d hd => ?_, fun hl => ⟨vs, (ta.ext e2).sq, by rw [← rl.length]; exact hl⟩⟩
    obtain ⟨v, gv, r⟩ := rl.get hd
    refine ⟨⟨vs, v, (ta.ext e2).sq, gv⟩, fun x H' ⟨eH, y⟩ => ?_⟩
    subst eH
    have := y vs (ta.ext e2).sq
    rw [gv] at this; cases this
    exact ⟨Ext.refl _ _, hr2, r.ext e2⟩
  | str x =>
    simp only [itemsD] at ed
    by_cases hz : x.length ≤ sizeLine
    · rw [if_pos hz] at ed; cases ed
      simp only [Rep] at rv
      subst rv
      obtain ⟨t, rfl⟩ := r1
      have hq := k _ M1 _ H1 (q1 (by have hz2 : x.cps.size ≤ sizeLine := hz; simpa [signs] using hz2)) e1 hr1 str_it
      cases ha : x.cps.all (· < 128)
      · exact wpAny_pyIter_wide ha (str_pie I1 "str_iterator" (by decide) (fun A hA => Walks.strWide hA _ x t) (fun A i s' Q E st q => wpAny_pyIter_striter_wide st q) hq)
      · exact wpAny_pyIter_ascii ha (str_pie I1 "str_ascii_iterator" (by decide) (fun A hA => Walks.strAscii hA _ x t) (fun A i s' Q E st q => wpAny_pyIter_striter_ascii st q) hq)
    · rw [if_neg hz] at ed; cases ed
  | _ => cases ed
end
end L2

set_option Elab.async false
set_option linter.all false
set_option maxRecDepth 100000
namespace L2
open PySem PySem.Spec PyProof.Rows
section
variable {M : DH}
theorem rdM_int {i : Int} : rdM M (.int i) = .int i := rfl
theorem rdM_bl {i : Bool} : rdM M (.bl i) = .bl i := rfl
theorem rdM_str {i : Str} : rdM M (.str i) = .str i := rfl
theorem rdM_non : rdM M .non = .non := rfl
theorem rdM_tup {i : List D} : rdM M (.tup i) = .tup i := rfl
theorem rdM_lst {i : List D} : rdM M (.lst i) = .lst i := rfl
theorem rdM_scr {i : List D} : rdM M (.scr i) = .scr i := rfl
theorem rdM_ref {a : Addr} {ds : List D} (h : M a = some (.lst ds)) : rdM M (.ref a) = .lst ds := by simp [rdM, h]
theorem rdM_upd {a : Addr} {ds : List D} : rdM (updM M a (.lst ds)) (.ref a) = .lst ds := rdM_ref updM_same
theorem iOp_ii {f : Int → Int → Option D} {a b : Int} : iOp f (.int a) (.int b) = f a b := rfl
theorem addD_ii {a b : Int} : addD (.int a) (.int b) = some (.int (a + b)) := rfl
theorem addD_ss {a b : Str} : addD (.str a) (.str b) = if a.length + b.length ≤ sizeLine then some (.str (a ++ b)) else none := rfl
theorem addD_ll {a b : List D} : addD (.lst a) (.lst b) = if a.length + b.length ≤ sizeLine then some (.lst (a ++ b)) else none := rfl
theorem addD_tt {a b : List D} : addD (.tup a) (.tup b) = if a.length + b.length ≤ sizeLine then some (.tup (a ++ b)) else none := rfl
theorem ixD_l {a : List D} {b : Int} : ixD (.lst a) (.int b) = atI a b := rfl
theorem ixD_c {a : List D} {b : Int} : ixD (.scr a) (.int b) = atI a b := rfl
theorem ixD_t {a : List D} {b : Int} : ixD (.tup a) (.int b) = atI a b := rfl
theorem atI_0 {α : Type} {x : α} {xs : List α} : atI (x :: xs) 0 = some x := atI_nat (j := 0) rfl
theorem atI_1 {α : Type} {x y : α} {xs : List α} : atI (x :: y :: xs) 1 = some y := atI_nat (j := 1) rfl
theorem atI_2 {α : Type} {x y z : α} {xs : List α} : atI (x :: y :: z :: xs) 2 = some z := atI_nat (j := 2) rfl
theorem one1_one {f : D → Option D} {d : D} : one1 f [d] = f d := rfl
theorem lenD_l {a : List D} : lenD (.lst a) = some (.int a.length) := rfl
theorem lenD_t {a : List D} : lenD (.tup a) = some (.int a.length) := rfl
theorem lenD_c {a : List D} : lenD (.scr a) = some (.int a.length) := rfl
theorem lenD_s {x : Str} : lenD (.str x) = if x.length ≤ sizeLine then some (.int x.length) else none := rfl
theorem absD_i {i : Int} : absD (.int i) = some (.int (if i < 0 then -i else i)) := rfl
theorem tupD_l {a : List D} : tupD (.lst a) = some (.tup a) := rfl
theorem tupD_t {a : List D} : tupD (.tup a) = some (.tup a) := rfl
theorem inD_l {b : Bool} {x : D} {ds : List D} : inD b x (.lst ds) = if scalD x = true ∧ ds.all scalD = true then some (.bl (xor b (ds.any fun d => eqD d x))) else none := rfl
theorem inD_t {b : Bool} {x : D} {ds : List D} : inD b x (.tup ds) = if scalD x = true ∧ ds.all scalD = true then some (.bl (xor b (ds.any fun d => eqD d x))) else none := rfl
theorem eqF_ii {a b : Int} : eqF (.int a) (.int b) = some (.bl (a == b)) := by simp [eqF, dLe, eqD]
theorem eqF_ss {a b : Str} : eqF (.str a) (.str b) = some (.bl (a == b)) := by simp [eqF, dLe, eqD]
theorem eqF_bb {a b : Bool} : eqF (.bl a) (.bl b) = some (.bl (a == b)) := by simp [eqF, dLe, eqD]
theorem slD_c {ds : List D} {lo hi : Option Int} : slD (.scr ds) lo hi = some (.lst (cutD ds lo hi)) := rfl
theorem slD_l {ds : List D} {lo hi : Option Int} : slD (.lst ds) lo hi = some (.lst (cutD ds lo hi)) := rfl
theorem slD_s {x : Str} {lo hi : Option Int} : slD (.str x) lo hi = if x.length ≤ sizeLine then some (.str (Txt.slice x lo hi)) else none := rfl
theorem itemsD_l {a : List D} : itemsD (.lst a) = some a := rfl
theorem itemsD_t {a : List D} : itemsD (.tup a) = some a := rfl
theorem itemsD_c {a : List D} : itemsD (.scr a) = some a := rfl
theorem itemsD_s {x : Str} : itemsD (.str x) = if x.length ≤ sizeLine then some (signs x) else none := rfl
theorem ixN_0 {n : Nat} : ixN (n + 1) 0 = some 0 := by simp [ixN] <;> omega
theorem ixN_1 {n : Nat} : ixN (n + 2) 1 = some 1 := by simp [ixN] <;> omega
theorem ixN_2 {n : Nat} : ixN (n + 3) 2 = some 2 := by simp [ixN] <;> omega
theorem sz3 (n : Nat) (h : n ≤ 1000 := by decide) : n ≤ sizeLine := Nat.le_trans h (by decide)
theorem isiD_b {b : Bool} : isiD "bool" (.bl b) = some true := rfl
end
end L2
namespace L2
theorem cmulR {i j : Int} (h : -18446744073709551616 < j ∧ j < 18446744073709551616) : CMul i j = True := by unfold CMul; simp; right; omega
theorem cmulL {i j : Int} (h : -18446744073709551616 < i ∧ i < 18446744073709551616) : CMul i j = True := by unfold CMul; simp; left; omega
theorem cpow1018 : CPow 10 18 = True := by simp [CPow]
theorem cdivL {i j : Int} (h : 0 < j ∧ j < 1073741824) : CDiv i j = True := by unfold CDiv; simp [h]
end L2

set_option Elab.async false
set_option linter.all false
set_option maxRecDepth 100000
namespace L2
open PySem PySem.Spec PyProof.Rows
theorem eqD_str {a b : Str} : eqD (.str a) (.str b) = (a == b) := by simp [eqD]
theorem any_strs {x : Str} : ∀ {ws : List Str}, (ws.map D.str).any (fun d => eqD d (.str x)) = decide (x ∈ ws)
  | [] => by simp
  | w :: ws => by
    rw [List.map_cons, List.any_cons, any_strs (ws := ws), eqD_str]
    by_cases h : w = x
    · subst h; simp
    · have h2 : (w == x) = false := by simpa using h
      have h3 : ¬ x = w := fun e => h e.symm
      simp [h2, h3]
theorem all_scal {ws : List Str} : (ws.map D.str).all scalD = true := by
  induction ws with
  | nil => rfl
  | cons w ws ih => rw [List.map_cons, List.all_cons, ih]; rfl
section
variable {X : Cx} {e : Expr} {te : TEd} {pos : Pos}
def dRetG (te : TEd) : TSd := fun E Δ M => te Δ M fun d M1 => ∃ M2, LeM M2 M1 ∧ E.rt d M2
theorem d_retG (he : PEd X e te) : PSd X (.Return (some e) pos) (dRetG te) := (ps_ret he).conv fun D σ H ⟨Δ, M, E, sr, hr, q, k⟩ => ⟨Δ, M, _, sr, hr, q, fun d M1 v H1 ⟨M2, hle, q1⟩ e1 hr1 rv =>
  k.rt _ _ _ H1 q1 (e1.trans (Ext.le hle)) (hr1.le hle) (rv.ext (Ext.le hle))⟩
theorem leM_upd {M : DH} {q : Addr} {o : HD} (h : M q = none) : LeM M (updM M q o) := fun a u e => by
  by_cases ha : a = q
  · subst ha; rw [h] at e; cases e
  · rw [updM_ne ha]; exact e
end
end L2

set_option Elab.async false
set_option linter.all false
set_option maxRecDepth 100000
namespace L2
open PySem PySem.Spec PyProof.Rows PySem.Builtin.Str
/-! ### texts as lists of signs -/
def tx (cs : List Nat) : Str := ⟨cs.toArray⟩
theorem nodup_len {α : Type} [DecidableEq α] : ∀ (V K : List α), V.Nodup → (∀ x ∈ V, x ∈ K) → V.length ≤ K.length
  | [], _, _, _ => Nat.zero_le _
  | x :: V, K, hn, h => by
    have hx := h x List.mem_cons_self
    obtain ⟨h1, h2⟩ := List.nodup_cons.mp hn
    have := nodup_len V (K.erase x) h2 fun y hy => (List.mem_erase_of_ne (by rintro rfl; exact h1 hy)).mpr (h y (List.mem_cons_of_mem _ hy))
    rw [List.length_erase_of_mem hx] at this
    have hp : 0 < K.length := List.length_pos_of_mem hx
    simp only [List.length_cons]
    omega
end L2

set_option Elab.async false
set_option linter.all false
set_option maxRecDepth 100000
namespace L2
open PySem PySem.Spec PyProof.Rows
theorem forRun_at {g : GD} {tb : TSd} {E : EndsD} {all : List D} (I : Nat → DE → DH → Prop)
    (step : ∀ (i : Nat) (d : D) (Δ : DE) (M : DH) (X : DE → DH → Prop), all[i]? = some d → I i Δ M → (∀ Δ' M', I (i + 1) Δ' M' → X Δ' M') → ∃ Δ', g d Δ = some Δ' ∧ tb { E with nx := X, ct := X, bk := E.nx } Δ' M)
    (fin : ∀ Δ M, I all.length Δ M → E.nx Δ M) : ∀ (ds : List D) (i : Nat) (Δ : DE) (M : DH), all.drop i = ds → i ≤ all.length → I i Δ M → forRun g tb E ds Δ M
  | [], i, Δ, M, e, hi, h => by
    have : i = all.length := by
      have := congrArg List.length e
      simp at this; omega
    subst this
    simpa only [forRun] using fin Δ M h
  | d :: ds, i, Δ, M, e, hi, h => by
    have hlt : i < all.length := by
      have := congrArg List.length e
      simp at this; omega
    have hd : all[i]? = some d := by
      have := congrArg List.head? e
      simpa using this
    have hn : all.drop (i + 1) = ds := by
      rw [← List.tail_drop, e]; rfl
    simp only [forRun]
    exact step i d Δ M _ hd h fun Δ' M' h' => forRun_at I step fin ds (i + 1) Δ' M' hn hlt h'
theorem forRun_by {g : GD} {tb : TSd} {E : EndsD} {ds : List D} {Δ : DE} {M : DH} (I : Nat → DE → DH → Prop) (h0 : I 0 Δ M)
    (step : ∀ (i : Nat) (d : D) (Δ : DE) (M : DH) (X : DE → DH → Prop), ds[i]? = some d → I i Δ M → (∀ Δ' M', I (i + 1) Δ' M' → X Δ' M') → ∃ Δ', g d Δ = some Δ' ∧ tb { E with nx := X, ct := X, bk := E.nx } Δ' M)
    (fin : ∀ Δ M, I ds.length Δ M → E.nx Δ M) : forRun g tb E ds Δ M := forRun_at I step fin ds 0 Δ M rfl (Nat.zero_le _) h0
theorem lcRun_at {g : GD} {tc : TTd} {te : TEd} {all : List D} {Q : List D → DH → Prop} (I : Nat → List D → DE → DH → Prop)
    (step : ∀ (i : Nat) (d : D) (acc : List D) (Δ : DE) (M : DH) (X : List D → DE → DH → Prop), all[i]? = some d → I i acc Δ M → (∀ acc' Δ' M', I (i + 1) acc' Δ' M' → X acc' Δ' M') →
      ∃ Δ', g d Δ = some Δ' ∧ tc Δ' M fun b M1 => if b = true then te Δ' M1 fun y M2 => X (acc ++ [y]) Δ' M2 else X acc Δ' M1)
    (fin : ∀ acc Δ M, I all.length acc Δ M → Q acc M) : ∀ (ds : List D) (i : Nat) (acc : List D) (Δ : DE) (M : DH), all.drop i = ds → i ≤ all.length → I i acc Δ M → lcRun g tc te ds Δ M acc Q
  | [], i, acc, Δ, M, e, hi, h => by
    have : i = all.length := by
      have := congrArg List.length e
      simp at this; omega
    subst this
    simpa only [lcRun] using fin acc Δ M h
  | d :: ds, i, acc, Δ, M, e, hi, h => by
    have hlt : i < all.length := by
      have := congrArg List.length e
      simp at this; omega
    have hd : all[i]? = some d := by
      have := congrArg List.head? e
      simpa using this
    have hn : all.drop (i + 1) = ds := by
      rw [← List.tail_drop, e]; rfl
    simp only [lcRun]
    exact step i d acc Δ M (fun acc' Δ' M' => lcRun g tc te ds Δ' M' acc' Q) hd h fun acc' Δ' M' h' => lcRun_at I step fin ds (i + 1) acc' Δ' M' hn hlt h'
theorem lcRun_by {g : GD} {tc : TTd} {te : TEd} {ds : List D} {Δ : DE} {M : DH} {Q : List D → DH → Prop} (I : Nat → List D → DE → DH → Prop) (h0 : I 0 [] Δ M)
    (step : ∀ (i : Nat) (d : D) (acc : List D) (Δ : DE) (M : DH) (X : List D → DE → DH → Prop), ds[i]? = some d → I i acc Δ M → (∀ acc' Δ' M', I (i + 1) acc' Δ' M' → X acc' Δ' M') →
      ∃ Δ', g d Δ = some Δ' ∧ tc Δ' M fun b M1 => if b = true then te Δ' M1 fun y M2 => X (acc ++ [y]) Δ' M2 else X acc Δ' M1)
    (fin : ∀ acc Δ M, I ds.length acc Δ M → Q acc M) : lcRun g tc te ds Δ M [] Q := lcRun_at I step fin ds 0 [] Δ M rfl (Nat.zero_le _) h0
theorem szB (n : Nat) (h : n ≤ 16000000 := by decide) : n ≤ sizeLine := Nat.le_trans h (by decide)
theorem map_get {α : Type} {f : α → D} {xs : List α} {i : Nat} {d : D} (h : (xs.map f)[i]? = some d) : ∃ x, xs[i]? = some x ∧ d = f x := by
  rw [List.getElem?_map] at h
  cases e : xs[i]? with
  | none => rw [e] at h; cases h
  | some x => rw [e] at h; cases h; exact ⟨x, rfl, rfl⟩
end L2

set_option Elab.async false
set_option linter.all false
set_option maxRecDepth 100000
namespace L2
open PySem PySem.Spec PyProof.Rows
theorem ints_rep {K : PySem.W.Frag} {M : DH} {H : Hp} : ∀ ns : List Int, RepL K M H (ns.map D.int) (ns.map V.int)
  | [] => RepL.nil
  | n :: ns => RepL.cons (by simp [Rep]) (ints_rep ns)
theorem scr_start {K : PySem.W.Frag} {H : Hp} {a : Addr} {ns : List Int} (hO : Only H) (hS : SqL K H a (ns.map V.int)) : RepL K noM H [.scr (ns.map D.int)] [.ref a] := by
  refine RepL.cons ?_ RepL.nil
  simp only [Rep]
  refine ⟨a, ns.map V.int, rfl, ?_, ints_rep ns⟩
  rcases hS with h | h
  · left
    rcases h with h | h
    · rcases hO a with z | ⟨o, xs, z⟩ <;> (rw [h] at z; cases z)
    · exact ⟨h, rfl⟩
  · right
    exact .inr h
end L2

set_option Elab.async false
set_option linter.all false
set_option maxRecDepth 100000
namespace L2
open PySem PySem.Spec PyProof.Rows
/-! ### reversed(tuple) -/
section
variable {prog : Program} {w : World} {A : Around} {E : Value → Shared → Prop} {s : Shared}
def IsRevT (h : Heap) (a l : Addr) (i : Int) : Prop := ∃ o, h.get? a = some o ∧ o.cls = .type "reversed" ∧ o.data = .fields #[.ref l, rawInt i]
theorem IsRevT.at {h h' : Heap} {a l : Addr} {i : Int} (x : IsRevT h a l i) (e : ∀ o, h.get? a = some o → h'.get? a = some o) : IsRevT h' a l i := let ⟨o, ho, r⟩ := x; ⟨o, e _ ho, r⟩
end
section
variable {X : Cx} {a b c e : Expr} {es : List Expr} {te ta tb : TEd} {t : TAd} {pos : Pos} {tg iter : Expr}
end
end L2

set_option Elab.async false
set_option linter.all false
set_option maxRecDepth 100000
namespace L2
open PySem PySem.Spec PyProof.Rows
section
variable {X : Cx}
open PySem.SeqAt in
theorem neAt_D {pins : List (Addr × Obj)} {σ : St} {H : Hp} {s : Shared} (I : Inv X pins σ H s) {M M' : DH} (n : Nat) {A : Around} {d e : D} {v w : V} {u1 u2 : Value} (hu : A.units + (n + 1) < cLine) (hd : dLe d (n + 1) = true) (he : dLe e (n + 1) = true)
    (r1 : RepR X.K M H d v) (r2 : RepR X.K M' H e w) (q1 : RelV v u1) (q2 : RelV w u2) : RcNeAt A s u1 u2 (!(eqD d e)) := by
  have hu0 : A.units < cLine := by omega
  have hu1 : A.in1.units + n < cLine := by show A.units + 1 + n < cLine; omega
  have item : ∀ {ds es : List D} {vs ws : List V} {us us2 : List Value}, dLes ds n = true → dLes es n = true → RepL X.K M H ds vs → RepL X.K M' H es ws → Vals vs us → Vals ws us2 →
      ∀ j (h1 : j < us.toArray.size) (h2 : j < us2.toArray.size), EqAt A.in1 s us.toArray[j] us2.toArray[j] (eqN ds es j) := by
    intro ds es vs ws us us2 d1 d2 h1 h2 h3 h4 j hj1 hj2
    have l1 := h1.length
    have l2 := h2.length
    have l3 := h3.length
    have l4 := h4.length
    have j1 : j < ds.length := by simp at hj1; omega
    have j2 : j < es.length := by simp at hj2; omega
    obtain ⟨v1, g1, p1⟩ := h1.get (i := j) (d := ds[j]) (by simp [j1])
    obtain ⟨v2, g2, p2⟩ := h2.get (i := j) (d := es[j]) (by simp [j2])
    obtain ⟨u1, k1, m1⟩ := h3.get g1
    obtain ⟨u2, k2, m2⟩ := h4.get g2
    have e1 : us.toArray[j] = u1 := by
      simp at hj1
      simpa [List.getElem?_eq_getElem hj1] using k1
    have e2 : us2.toArray[j] = u2 := by
      simp at hj2
      simpa [List.getElem?_eq_getElem hj2] using k2
    rw [e1, e2]
    have e3 : eqN ds es j = eqD ds[j] es[j] := by simp [eqN, j1, j2]
    rw [e3]
    exact (eqAt_D I n hu1 (dLes_get d1 (i := j) (by simp [j1])) (dLes_get d2 (i := j) (by simp [j2])) p1.r p2.r m1 m2).1
  cases d with
  | tup ds =>
    obtain ⟨a, vs, rfl, sq, rl⟩ := id r1
    cases q1
    obtain ⟨its, rv, pt, _⟩ := I.tuple sq
    have hd' : dLes ds n = true := by simpa [dLe] using hd
    cases e with
    | tup es =>
      obtain ⟨b, ws, rfl, sq', rl'⟩ := id r2
      cases q2
      obtain ⟨its2, rv2, pt2, _⟩ := I.tuple sq'
      have he' : dLes es n = true := by simpa [dLe] using he
      have := RcNeAt.tuples (e := eqN ds es) pt pt2 hu0 (item hd' he' rl rl' rv rv2)
      rw [List.size_toArray, List.size_toArray, ← rv.length, ← rv2.length, ← rl.length, ← rl'.length, ← eqDs_all] at this
      simpa only [eqD] using this
    | lst es =>
      obtain ⟨b, ws, rfl, sq', rl'⟩ := id r2
      cases q2
      obtain ⟨its2, rv2, pt2, _⟩ := I.list (SqL.of sq')
      simp only [eqD, Bool.not_false]
      exact RcNeAt.tuple_list pt pt2.isList hu0
    | non => simp only [RepR, Rep] at r2; subst r2; simp only [RelV] at q2; subst q2; simp only [eqD, Bool.not_false]; exact RcNeAt.tuple_none pt hu0
    | bl b => simp only [RepR, Rep] at r2; subst r2; simp only [RelV] at q2; subst q2; simp only [eqD, Bool.not_false]; exact RcNeAt.tuple_bool _ pt hu0
    | int b => simp only [RepR, Rep] at r2; subst r2; simp only [RelV] at q2; obtain ⟨t, rfl⟩ := q2; simp only [eqD, Bool.not_false]; exact RcNeAt.tuple_int _ _ pt hu0
    | str b => simp only [RepR, Rep] at r2; subst r2; simp only [RelV] at q2; obtain ⟨t, rfl⟩ := q2; simp only [eqD, Bool.not_false]; exact RcNeAt.tuple_str _ _ pt hu0
    | _ => simp [dLe] at he
  | lst ds =>
    obtain ⟨a, vs, rfl, sq, rl⟩ := id r1
    cases q1
    obtain ⟨its, rv, pt, _⟩ := I.list (SqL.of sq)
    have hd' : dLes ds n = true := by simpa [dLe] using hd
    cases e with
    | lst es =>
      obtain ⟨b, ws, rfl, sq', rl'⟩ := id r2
      cases q2
      obtain ⟨its2, rv2, pt2, _⟩ := I.list (SqL.of sq')
      have he' : dLes es n = true := by simpa [dLe] using he
      by_cases hl : ds.length = es.length
      · have hsz : its.toArray.size = its2.toArray.size := by rw [List.size_toArray, List.size_toArray, ← rv.length, ← rv2.length, ← rl.length, ← rl'.length]; exact hl
        have := RcNeAt.lists (e := eqN ds es) pt.isList pt2.isList hsz hu0 (item hd' he' rl rl' rv rv2)
        rw [List.size_toArray, ← rv.length, ← rl.length, ← eqDs_all' hl] at this
        simpa only [eqD] using this
      · have hsz : (its.toArray.size != its2.toArray.size) = true := by rw [List.size_toArray, List.size_toArray, ← rv.length, ← rv2.length, ← rl.length, ← rl'.length]; simpa using hl
        have := RcNeAt.lists_lengths pt.isList pt2.isList hsz hu0
        have e0 : eqD (.lst ds) (.lst es) = false := by
          simp only [eqD]
          cases q : eqDs ds es with
          | false => rfl
          | true => exact absurd (eqDs_len q) hl
        rw [e0]; exact this
    | tup es =>
      obtain ⟨b, ws, rfl, sq', rl'⟩ := id r2
      cases q2
      obtain ⟨its2, rv2, pt2, _⟩ := I.tuple sq'
      simp only [eqD, Bool.not_false]
      exact RcNeAt.list_tuple pt.isList pt2 hu0
    | non => simp only [RepR, Rep] at r2; subst r2; simp only [RelV] at q2; subst q2; simp only [eqD, Bool.not_false]; exact RcNeAt.list_none pt.isList hu0
    | bl b => simp only [RepR, Rep] at r2; subst r2; simp only [RelV] at q2; subst q2; simp only [eqD, Bool.not_false]; exact RcNeAt.list_bool _ pt.isList hu0
    | int b => simp only [RepR, Rep] at r2; subst r2; simp only [RelV] at q2; obtain ⟨t, rfl⟩ := q2; simp only [eqD, Bool.not_false]; exact RcNeAt.list_int _ _ pt.isList hu0
    | str b => simp only [RepR, Rep] at r2; subst r2; simp only [RelV] at q2; obtain ⟨t, rfl⟩ := q2; simp only [eqD, Bool.not_false]; exact RcNeAt.list_str _ _ pt.isList hu0
    | _ => simp [dLe] at he
  | non =>
    simp only [RepR, Rep] at r1; subst r1; simp only [RelV] at q1; subst q1
    cases e with
    | tup es => obtain ⟨b, ws, rfl, sq', rl'⟩ := id r2; cases q2; obtain ⟨its2, rv2, pt2, _⟩ := I.tuple sq'; simp only [eqD, Bool.not_false]; exact RcNeAt.none_tuple pt2 hu0
    | lst es => obtain ⟨b, ws, rfl, sq', rl'⟩ := id r2; cases q2; obtain ⟨its2, rv2, pt2, _⟩ := I.list (SqL.of sq'); simp only [eqD, Bool.not_false]; exact RcNeAt.none_list pt2.isList hu0
    | non => simp only [RepR, Rep] at r2; subst r2; simp only [RelV] at q2; subst q2; simp only [eqD, Bool.not_true]; exact RcNeAt.none_none
    | bl b => simp only [RepR, Rep] at r2; subst r2; simp only [RelV] at q2; subst q2; simp only [eqD, Bool.not_false]; exact RcNeAt.none_bool _
    | int b => simp only [RepR, Rep] at r2; subst r2; simp only [RelV] at q2; obtain ⟨t, rfl⟩ := q2; simp only [eqD, Bool.not_false]; exact RcNeAt.none_int _ _
    | str b => simp only [RepR, Rep] at r2; subst r2; simp only [RelV] at q2; obtain ⟨t, rfl⟩ := q2; simp only [eqD, Bool.not_false]; exact RcNeAt.none_str _ _
    | _ => simp [dLe] at he
  | bl a =>
    simp only [RepR, Rep] at r1; subst r1; simp only [RelV] at q1; subst q1
    cases e with
    | tup es => obtain ⟨b, ws, rfl, sq', rl'⟩ := id r2; cases q2; obtain ⟨its2, rv2, pt2, _⟩ := I.tuple sq'; simp only [eqD, Bool.not_false]; exact RcNeAt.bool_tuple _ pt2 hu0
    | lst es => obtain ⟨b, ws, rfl, sq', rl'⟩ := id r2; cases q2; obtain ⟨its2, rv2, pt2, _⟩ := I.list (SqL.of sq'); simp only [eqD, Bool.not_false]; exact RcNeAt.bool_list _ pt2.isList hu0
    | non => simp only [RepR, Rep] at r2; subst r2; simp only [RelV] at q2; subst q2; simp only [eqD, Bool.not_false]; exact RcNeAt.bool_none _
    | bl b => simp only [RepR, Rep] at r2; subst r2; simp only [RelV] at q2; subst q2; simp only [eqD]; exact RcNeAt.bool_bool _ _
    | int b => simp only [RepR, Rep] at r2; subst r2; simp only [RelV] at q2; obtain ⟨t, rfl⟩ := q2; simp only [eqD]; exact RcNeAt.bool_int _ _ _
    | str b => simp only [RepR, Rep] at r2; subst r2; simp only [RelV] at q2; obtain ⟨t, rfl⟩ := q2; simp only [eqD, Bool.not_false]; exact RcNeAt.bool_str _ _ _
    | _ => simp [dLe] at he
  | int a =>
    simp only [RepR, Rep] at r1; subst r1; simp only [RelV] at q1; obtain ⟨t1, rfl⟩ := q1
    cases e with
    | tup es => obtain ⟨b, ws, rfl, sq', rl'⟩ := id r2; cases q2; obtain ⟨its2, rv2, pt2, _⟩ := I.tuple sq'; simp only [eqD, Bool.not_false]; exact RcNeAt.int_tuple _ _ pt2 hu0
    | lst es => obtain ⟨b, ws, rfl, sq', rl'⟩ := id r2; cases q2; obtain ⟨its2, rv2, pt2, _⟩ := I.list (SqL.of sq'); simp only [eqD, Bool.not_false]; exact RcNeAt.int_list _ _ pt2.isList hu0
    | non => simp only [RepR, Rep] at r2; subst r2; simp only [RelV] at q2; subst q2; simp only [eqD, Bool.not_false]; exact RcNeAt.int_none _ _
    | bl b => simp only [RepR, Rep] at r2; subst r2; simp only [RelV] at q2; subst q2; simp only [eqD]; exact RcNeAt.int_bool _ _ _
    | int b => simp only [RepR, Rep] at r2; subst r2; simp only [RelV] at q2; obtain ⟨t, rfl⟩ := q2; simp only [eqD]; exact RcNeAt.int_int _ _ _ _
    | str b => simp only [RepR, Rep] at r2; subst r2; simp only [RelV] at q2; obtain ⟨t, rfl⟩ := q2; simp only [eqD, Bool.not_false]; exact RcNeAt.int_str _ _ _ _
    | _ => simp [dLe] at he
  | str a =>
    simp only [RepR, Rep] at r1; subst r1; simp only [RelV] at q1; obtain ⟨t1, rfl⟩ := q1
    cases e with
    | tup es => obtain ⟨b, ws, rfl, sq', rl'⟩ := id r2; cases q2; obtain ⟨its2, rv2, pt2, _⟩ := I.tuple sq'; simp only [eqD, Bool.not_false]; exact RcNeAt.str_tuple _ _ pt2 hu0
    | lst es => obtain ⟨b, ws, rfl, sq', rl'⟩ := id r2; cases q2; obtain ⟨its2, rv2, pt2, _⟩ := I.list (SqL.of sq'); simp only [eqD, Bool.not_false]; exact RcNeAt.str_list _ _ pt2.isList hu0
    | non => simp only [RepR, Rep] at r2; subst r2; simp only [RelV] at q2; subst q2; simp only [eqD, Bool.not_false]; exact RcNeAt.str_none _ _
    | bl b => simp only [RepR, Rep] at r2; subst r2; simp only [RelV] at q2; subst q2; simp only [eqD, Bool.not_false]; exact RcNeAt.str_bool _ _ _
    | int b => simp only [RepR, Rep] at r2; subst r2; simp only [RelV] at q2; obtain ⟨t, rfl⟩ := q2; simp only [eqD, Bool.not_false]; exact RcNeAt.str_int _ _ _ _
    | str b => simp only [RepR, Rep] at r2; subst r2; simp only [RelV] at q2; obtain ⟨t, rfl⟩ := q2; simp only [eqD]; exact RcNeAt.str_str _ _ _ _
    | _ => simp [dLe] at he
  | _ => simp [dLe] at hd
def neF (x y : D) : Option D := if dLe x 60 = true ∧ dLe y 60 = true then some (.bl (!(eqD x y))) else none
theorem o_ne (hu : X.A.units + 64 < cLine) : OpRd X (compareOp .NotEq) neF := by
  intro pins s σ H M x y v u dx dy dz Q I hr rx ry r1 r2 e k
  unfold neF at e
  by_cases hc : dLe dx 60 = true ∧ dLe dy 60 = true
  · rw [if_pos hc] at e; cases e
    exact neAt_D I 59 (A := X.A) (by omega) hc.1 hc.2 r1 r2 rx ry X.prog X.w X.xe _ ⟨.bl (!(eqD dx dy)), H, I, rfl, k _ H (Ext.refl _ _) hr (by simp [Rep])⟩
  · rw [if_neg hc] at e; cases e
theorem neF_ii {a b : Int} : neF (.int a) (.int b) = some (.bl (!(a == b))) := by simp [neF, dLe, eqD]
theorem neF_ss {a b : Str} : neF (.str a) (.str b) = some (.bl (!(a == b))) := by simp [neF, dLe, eqD]
theorem neF_bb {a b : Bool} : neF (.bl a) (.bl b) = some (.bl (!(a == b))) := by simp [neF, dLe, eqD]
end
end L2

set_option Elab.async false
set_option linter.all false
set_option maxRecDepth 100000
namespace HT
open PySem PyProof.Rows
section
variable {prog : Program} {w : World} {A : Around} {E : Value → Shared → Prop} {s : Shared}
theorem tupleIsExact_ {t : Addr} {items : Array Value} {Q : Bool → Shared → Prop} (ht : IsTup s.heap t items) (h : Q true s) : wpAny (model prog w) A (Builtin.Tuple.tupleIsExact (.ref t)) Q E s := by
  unfold Builtin.Tuple.tupleIsExact
  exact wpAny_bind (wpAny_typeOf ht.typeIs (wpAny_pure (by simpa using h)))
theorem getItem_tuple_whole {t sl : Addr} {items : Array Value} {vl vu : Value} {lo hi : Option Int} {Q : Value → Shared → Prop} (ht : IsTup s.heap t items) (hs : s.heap.IsSliceOf sl vl vu .none) (pl : IsPart vl lo) (pu : IsPart vu hi)
    (hw : sIx items.size 0 lo = 0 ∧ sIx items.size items.size hi = items.size) (h : Q (.ref t) s) : wpAny (model prog w) A (getItem (.ref t) (.ref sl)) Q E s := by
  obtain ⟨os, hos, hcs, hds⟩ := id hs
  have hTs : s.TypeIs (.ref sl) "slice" := ⟨os, hos, hcs⟩
  unfold getItem
  try with_reducible refine wpAny_holding ?_
  first | refine wpAny_bind (wpAny_pure ?_) | skip
  refine wpAny_bind (wpAny_sequenceKey ht.typeIs (by decide) ?_)
  refine wpAny_bind (wpAny_callSpecial?_slot (name := Str.ofString "__getitem__") ht.typeIs PyProof.Rows.slot_tuple_getitem
    (wpAny_call_entry PyProof.Rows.slot_tuple_getitem ht.typeIs entry_tuple_getitem ?_ (args_tuple_getitem _ _)))
  show wpAny _ _ (Builtin.Tuple.tupleItemsOf (.ref t) >>= _) _ _ s
  refine wpAny_bind (tupleItemsOf_ ht ?_)
  refine wpAny_bind (wpAny_typeOf hTs ?_)
  rw [if_pos (by decide)]
  refine wpAny_bind (sliceApplied_gen hs pl pu ?_)
  show wpAny _ _ (if (((sIx items.size 0 lo : Nat) : Int) == 0 && (1 : Int) == 1 && (sIx items.size items.size hi - sIx items.size 0 lo) == items.size) = true then _ else _) _ _ s
  rw [if_pos (by rw [hw.1, hw.2]; simp)]
  refine wpAny_bind (tupleIsExact_ ht ?_)
  rw [if_pos rfl]
  refine wpAny_bind (wpAny_rule ?_)
  first
    | exact wpAny_pure ⟨_, rfl, wpAny_pure h⟩
    | exact wpAny_bind (wpAny_pure (wpAny_pure ⟨_, rfl, wpAny_pure h⟩))
end
end HT
namespace L2
open PySem PySem.Spec PyProof.Rows
section
variable {X : Cx} {a b c e : Expr} {es : List Expr} {te ta tb ts : TEd} {t : TAd} {pos : Pos}
/-! ### slices of tuples, the whole one too -/
def slE : D → Option Int → Option Int → Option D
  | .tup ds, lo, hi => some (.tup (cutD ds lo hi))
  | d, lo, hi => slD d lo hi
def rSlW (K : PySem.W.Frag) : V → Option Int → Option Int → Hp → VK → Prop := fun x lo hi H Q => ∃ a xs, x = .ref a ∧ SqT K H a xs ∧ (HT.sIx xs.length 0 lo = 0 ∧ HT.sIx xs.length xs.length hi = xs.length) ∧ Q (.ref a) H
theorem sl_whole : SlR X (rSlW X.K) := by
  intro pins s σ H x v vl vu lo hi sl Q I rx hs pl pu h
  obtain ⟨a, xs, rfl, hx, hw, q⟩ := h
  cases rx
  obtain ⟨its, r, ht, hz⟩ := I.tuple hx
  have hlen : its.toArray.size = xs.length := by rw [List.size_toArray]; exact r.length.symm
  exact ⟨"tuple", _, PyProof.Rows.slot_tuple_getitem.lookup, ht.typeIs, HT.getItem_tuple_whole ht hs pl pu (by rw [hlen]; exact hw) ⟨.ref a, H, I, rfl, q⟩⟩
theorem cutD_whole {ds : List D} {lo hi : Option Int} (h : HT.sIx ds.length 0 lo = 0 ∧ HT.sIx ds.length ds.length hi = ds.length) : cutD ds lo hi = ds := by
  unfold cutD
  rw [h.1, h.2]; simp
def dSlE (te : TEd) (tl th : TOd) : TEd := fun Δ M Q => te Δ M fun x M1 => tl Δ M1 fun l M2 => th Δ M2 fun u M3 => ∃ z, slE (rdM M3 x) l u = some z ∧ Q z M3
theorem d_sliceE {lo hi : Option Expr} {tl th : TOd} {p2 : Pos} (he : PEd X e te) (hl : POd X lo tl) (hu : POd X hi th) : PEd X (.Subscript e (.Slice lo hi none p2) pos) (dSlE te tl th) := by
  refine (pe_slice (SlR.or sl_list (SlR.or sl_tup (SlR.or sl_str sl_whole))) he hl hu).conv fun σ H Q hh => ?_
  obtain ⟨Δ, M, R, sr, hr, q, k⟩ := hh
  refine ⟨Δ, M, _, sr, hr, q, fun x M1 v H1 q1 e1 hr1 rv => ⟨Δ, M1, _, sr.ext e1, hr1, q1, fun l M2 H2 q2 e2 hr2 => ⟨Δ, M2, _, (sr.ext e1).ext e2, hr2, q2, fun u M3 H3 ⟨z, ez, q3⟩ e3 hr3 => ?_⟩⟩⟩
  have rr := ((rv.ext e2).ext e3).rd hr3
  have ee := (e1.trans e2).trans e3
  have kk : ∀ w H', Ext M3 H3 M3 H' → HR X.K M3 H' → Rep X.K M3 H' z w → Q w H' := fun w H' e4 hr4 r4 => k z M3 w H' q3 (ee.trans e4) hr4 r4
  generalize rdM M3 x = d at rr ez
  cases d with
  | lst ds =>
    cases ez
    obtain ⟨a, vs, rfl, sq, rl⟩ := rr
    refine .inl ⟨a, vs, rfl, SqL.of sq, fun p hp => freshL hr3 hp ?_ kk⟩
    unfold cutD cutV
    rw [← rl.length]
    exact (rl.drop _).take _
  | scr ds =>
    cases ez
    obtain ⟨a, vs, rfl, sq, rl⟩ := rr
    refine .inl ⟨a, vs, rfl, sq, fun p hp => freshL hr3 hp ?_ kk⟩
    unfold cutD cutV
    rw [← rl.length]
    exact (rl.drop _).take _
  | str s =>
    simp only [slE, slD] at ez
    by_cases hz : s.length ≤ sizeLine
    · rw [if_pos hz] at ez; cases ez
      exact .inr (.inr (.inl ⟨s, rStr rr, hz, kk _ H3 (Ext.refl _ _) hr3 (by simp [Rep])⟩))
    · rw [if_neg hz] at ez; cases ez
  | tup ds =>
    cases ez
    have rt := RepR.tup hr3 rr
    obtain ⟨a, vs, rfl, sq, rl⟩ := rr
    by_cases hw : HT.sIx ds.length 0 l = 0 ∧ HT.sIx ds.length ds.length u = ds.length
    · refine .inr (.inr (.inr ⟨a, vs, rfl, sq, by rw [← rl.length]; exact hw, kk _ H3 (Ext.refl _ _) hr3 ?_⟩))
      rw [cutD_whole hw]
      exact rt
    · refine .inr (.inl ⟨a, vs, rfl, sq, by rw [← rl.length]; exact hw, fun p hp => freshT hr3 hp ?_ kk⟩)
      unfold cutD cutV
      rw [← rl.length]
      exact (rl.drop _).take _
  | _ => cases ez
theorem slE_t {ds : List D} {lo hi : Option Int} : slE (.tup ds) lo hi = some (.tup (cutD ds lo hi)) := rfl
theorem slE_l {ds : List D} {lo hi : Option Int} : slE (.lst ds) lo hi = some (.lst (cutD ds lo hi)) := rfl
theorem slE_c {ds : List D} {lo hi : Option Int} : slE (.scr ds) lo hi = some (.lst (cutD ds lo hi)) := rfl
theorem slE_s {x : Str} {lo hi : Option Int} : slE (.str x) lo hi = if x.length ≤ sizeLine then some (.str (Txt.slice x lo hi)) else none := rfl
/-! ### t[::-1] -/
variable {scope : Scope} {cl : List (Str × Addr)} {extra : List Str} {tg : Expr}
end
end L2

set_option Elab.async false
set_option linter.all false
set_option maxRecDepth 100000
namespace L2
open PySem PySem.Spec PyProof.Rows
section
variable {X : Cx} {a b c e : Expr} {es : List Expr} {te ta tb ts : TEd} {t : TAd} {pos : Pos}
/-! ### in, not in: a text within a text, too -/
def inE (neg : Bool) (x y : D) : Option D := match y with
  | .str j => match x with
    | .str i => some (.bl (xor neg (!(Builtin.Str.occurrences j i 0 j.length 1).isEmpty)))
    | _ => none
  | y => inD neg x y
theorem o_inE : OpRd X (compareOp .In) (inE false) := by
  intro pins s σ H M x y v u dx dy dz Q I hr rx ry r1 r2 e k
  cases dy with
  | str j =>
    cases dx with
    | str i =>
      cases e
      exact op_in_str pins s σ H x y v u Q I rx ry ⟨i, j, rStr r1, rStr r2, k _ H (Ext.refl _ _) hr (by simp [Rep])⟩
    | _ => cases e
  | _ => exact o_in pins s σ H M x y v u dx _ dz Q I hr rx ry r1 r2 e k
theorem o_notinE : OpRd X (compareOp .NotIn) (inE true) := by
  intro pins s σ H M x y v u dx dy dz Q I hr rx ry r1 r2 e k
  cases dy with
  | str j =>
    cases dx with
    | str i =>
      cases e
      exact op_notin_str pins s σ H x y v u Q I rx ry ⟨i, j, rStr r1, rStr r2, k _ H (Ext.refl _ _) hr (by simp [Rep])⟩
    | _ => cases e
  | _ => exact o_notin pins s σ H M x y v u dx _ dz Q I hr rx ry r1 r2 e k
theorem inE_l {b : Bool} {x : D} {ds : List D} : inE b x (.lst ds) = if scalD x = true ∧ ds.all scalD = true then some (.bl (xor b (ds.any fun d => eqD d x))) else none := rfl
theorem inE_t {b : Bool} {x : D} {ds : List D} : inE b x (.tup ds) = if scalD x = true ∧ ds.all scalD = true then some (.bl (xor b (ds.any fun d => eqD d x))) else none := rfl
theorem inE_s {b : Bool} {c : Nat} {y : Str} : inE b (.str (tx [c])) (.str y) = some (.bl (xor b (decide (c ∈ y.cps.toList)))) := by
  show some (D.bl (xor b (!(Builtin.Str.occurrences y ⟨#[c]⟩ 0 y.length 1).isEmpty))) = _
  rw [StrLaws.found_one]
/-! ### {} -/
/-! ### pop -/
/-! ### * -/
theorem noFill_tuple_mul : fillsNumberSlot (.type "tuple") "mul" = pure false :=
  PySem.fillsNumberSlot_seq (id := "tuple.__mul__") (r := some (.builtin "tuple.__rmul__")) F.slot_tuple_mul.lookup (by decide +kernel) F.slot_tuple_rmul.lookup (by decide +kernel)
theorem repeat_tuple : seqRepeat? (.type "tuple") = pure (some (.builtin "tuple.__mul__")) := by
  unfold seqRepeat?
  rw [PySem.seqSlot_of (T := "tuple") (name := "__mul__") (id := "tuple.__mul__") F.slot_tuple_mul.lookup (by decide +kernel), PySem.seqSlot_of (T := "tuple") (name := "__rmul__") (id := "tuple.__rmul__") F.slot_tuple_rmul.lookup (by decide +kernel)]
  rfl
theorem int_rmul_tuple (a : Int) (t : Tok) (l : Addr) (items : Array Value) :
    Meets (Builtin.«int.__rmul__» ⟨[.int a t, .ref l], []⟩) (fun _ R s => IsTup s.heap l items ∧ R (.ok (.ret Value.notImplemented)) s) :=
  .of_wp fun prog w A R s h => by
    obtain ⟨hp, g, d, tk, os⟩ := s; obtain ⟨⟨⟨cls, dd, data, sl⟩, ho, hc, n, hd⟩, h⟩ := h
    simp only at hc hd
    subst hc hd
    wp_walk; exact ⟨_, rfl, h⟩
theorem tuple_mul_new (l : Addr) (items : Array Value) (x : Int) (u : Tok) (hne : items.isEmpty = false) (hx : 2 ≤ x) (hx2 : x < 2 ^ 62) (hz : items.size * x.toNat ≤ sizeLine) :
    Meets (Builtin.«tuple.__mul__» ⟨[.ref l, .int x u], []⟩) (fun _ R s => IsTup s.heap l items ∧ R (.ok (.ret (.ref s.heap.objs.size))) { s with heap := s.heap.push { cls := .type "tuple", data := .seq (List.replicate x.toNat items.toList).flatten.toArray } }) :=
  .of_wp fun prog w A R s h => by
    obtain ⟨ht, h⟩ := h
    show wpAny _ _ (do
      let n ← asIndex (.int x u)
      if n < -(2 ^ 63) || n ≥ 2 ^ 63 then
        rule "tuple.repeat.overflow"; raiseError "OverflowError" s!"cannot fit '{← typeNameOf (.int x u)}' into an index-sized integer"
      let xs ← Builtin.Tuple.tupleItemsOf (.ref l)
      if xs.isEmpty || n == 1 then
        if ← Builtin.Tuple.tupleIsExact (.ref l) then rule "tuple.repeat.same-object"; return ← ret (.ref l)
      if n ≤ 0 || xs.isEmpty then return ← ret (← Builtin.Tuple.tupleExact #[])
      if xs.size * n > (2 ^ 63 - 1) / 8 then rule "tuple.repeat.no-memory"; raiseNew (← newExc (.type "MemoryError") [])
      if Builtin.Tuple.tupleTooMany (xs.size * n) then unsupported "tuple.__mul__:memory"
      ret (← Builtin.Tuple.tupleExact ((List.replicate n.toNat xs).foldl (· ++ ·) #[]))) _ _ s
    refine wpAny_bind (wpAny_of_eq (a := x) rfl ?_)
    dsimp only
    rw [if_neg (by simp only [Bool.or_eq_true, decide_eq_true_eq]; omega)]
    refine wpAny_bind (tupleItemsOf_ ht ?_)
    rw [if_neg (by simp [hne]; omega)]
    rw [if_neg (by simp [hne]; omega)]
    have hxn : ((x.toNat : Nat) : Int) = x := by omega
    have hm : (items.size : Int) * x = ((items.size * x.toNat : Nat) : Int) := by rw [Int.natCast_mul, hxn]
    have h16 : sizeLine = 16777216 := rfl
    rw [if_neg (by rw [hm]; omega)]
    rw [if_neg (by unfold Builtin.Tuple.tupleTooMany; rw [hm]; simp only [decide_eq_true_eq]; omega)]
    have hf : List.foldl (fun x1 x2 => x1 ++ x2) #[] (List.replicate x.toNat items) = (List.replicate x.toNat items.toList).flatten.toArray := by
      have := foldl_rep items.toList x.toNat []
      rw [List.nil_append] at this
      simpa using this
    rw [hf]
    have hs : sizeOk (.seq (List.replicate x.toNat items.toList).flatten.toArray) := by
      show (List.replicate x.toNat items.toList).flatten.toArray.size ≤ sizeLine
      rw [List.size_toArray, len_rep, Array.length_toList, Nat.mul_comm]
      exact hz
    exact wpAny_bind (m := Builtin.Tuple.tupleExact _) (wpAny_newObj_type (wpAny_pure ⟨_, rfl, h⟩) hs)
theorem RepL.rep {K : PySem.W.Frag} {M : DH} {H : Hp} {ds : List D} {vs : List V} (h : RepL K M H ds vs) : ∀ k : Nat, RepL K M H (List.replicate k ds).flatten (List.replicate k vs).flatten
  | 0 => RepL.nil
  | k + 1 => by
    rw [List.replicate_succ, List.replicate_succ, List.flatten_cons, List.flatten_cons]
    exact h.append (RepL.rep h k)
def mulE : D → D → Option D
  | .int a, .int b => if CMul a b then some (.int (a * b)) else none
  | .str x, .int n => if x.length ≤ 16777216 ∧ -(2 ^ 63) ≤ n ∧ n ≤ 16777216 ∧ x.length * n.toNat ≤ 16777216 then some (.str (Txt.mul x n)) else none
  | .tup ds, .int n => if 2 ≤ n ∧ n < 2 ^ 62 ∧ ds ≠ [] ∧ ds.length * n.toNat ≤ sizeLine then some (.tup (List.replicate n.toNat ds).flatten) else none
  | .lst ds, .int n => if -(2 ^ 63) ≤ n ∧ n < 2 ^ 63 ∧ ds.length * n.toNat ≤ sizeLine then some (.lst (List.replicate n.toNat ds).flatten) else none
  | _, _ => none
theorem o_mulE : OpRd X (binaryOp .Mult) mulE := by
  intro pins s σ H M x y v u dx dy dz Q I hr rx ry r1 r2 e k
  cases dx with
  | int a =>
    cases dy with
    | int b => exact o_mulI pins s σ H M x y v u _ _ dz Q I hr rx ry r1 r2 e k
    | _ => cases e
  | str z =>
    cases dy with
    | int n =>
      simp only [mulE] at e
      by_cases hc : z.length ≤ 16777216 ∧ -(2 ^ 63) ≤ n ∧ n ≤ 16777216 ∧ z.length * n.toNat ≤ 16777216
      · rw [if_pos hc] at e; cases e
        have e1 := rStr r1
        have e2 := rInt r2
        subst e1; subst e2
        obtain ⟨t1, rfl⟩ := rx
        obtain ⟨t2, rfl⟩ := ry
        have hok : MulOk z n := by
          by_cases hn : 0 ≤ n
          · exact mulOk_of z.length n.toNat (Nat.le_refl _) (by omega) hc.2.1 (by omega) hc.2.2.2
          · exact mulOk_of z.length 0 (Nat.le_refl _) (by omega) hc.2.1 (by omega) (by omega)
        exact SB.mul hok fun t' kk => ⟨.str _, H, I.tok _, ⟨t', rfl⟩, k _ H (Ext.refl _ _) hr (by simp [Rep])⟩
      · rw [if_neg hc] at e; cases e
    | _ => cases e
  | tup ds =>
    cases dy with
    | int n =>
      simp only [mulE] at e
      by_cases hc : 2 ≤ n ∧ n < 2 ^ 62 ∧ ds ≠ [] ∧ ds.length * n.toNat ≤ sizeLine
      · rw [if_pos hc] at e; cases e
        have e2 := rInt r2
        subst e2
        obtain ⟨t2, rfl⟩ := ry
        obtain ⟨a, vs, rfl, sq, rl⟩ := r1
        cases rx
        obtain ⟨its, rv, pt, hz⟩ := I.tuple sq
        have hl1 := rv.length
        have hl2 := rl.length
        have hne : its.toArray.isEmpty = false := by
          cases its with
          | nil =>
            have h0 : ds.length = 0 := by rw [hl2, hl1]; rfl
            exact absurd (List.length_eq_zero_iff.mp h0) hc.2.2.1
          | cons _ _ => rfl
        have hzz : its.toArray.size * n.toNat ≤ sizeLine := by rw [List.size_toArray, ← hl1, ← hl2]; exact hc.2.2.2
        refine wpAny_binaryOp_repeat_ref (T := "tuple") (U := "int") (by decide) pt.typeIs (fun s' => typeIs_int s' n t2) noFill_tuple_mul F.fills_int_mul F.slot_int_rmul repeat_tuple F.slot_int_index.lookup
          (call_meets F.slot_int_rmul (typeIs_int s n t2) F.entry_int_rmul (F.args_int_rmul_2 _ _) (int_rmul_tuple n t2 a its.toArray)
            ⟨pt, rfl, pt.typeIs, call_meets F.slot_tuple_mul pt.typeIs F.entry_tuple_mul (F.args_tuple_mul_2 _ _) (tuple_mul_new a its.toArray n t2 hne hc.1 hc.2.1 hzz) ⟨pt, ?_⟩⟩)
        have rr : Vals (List.replicate n.toNat vs).flatten (List.replicate n.toNat its).flatten := rv.rep n.toNat
        refine ⟨.ref s.heap.objs.size, _, I.laid (t' := s.toks) (o := .tup (List.replicate n.toNat vs).flatten) (fun b ob q => Heap.get?_push_of_some _ q) (Nat.le_refl _) ?_, rfl, ?_⟩
        · refine ⟨?_, _, rr, by simpa using IsTup.new _ _⟩
          rw [len_rep, Nat.mul_comm, ← hl2]; exact hc.2.2.2
        · exact freshT hr (I.hok.fresh (Nat.le_refl _)) (rl.rep n.toNat) k
      · rw [if_neg hc] at e; cases e
    | _ => cases e
  | lst ds =>
    cases dy with
    | int n =>
      simp only [mulE] at e
      by_cases hc : -(2 ^ 63) ≤ n ∧ n < 2 ^ 63 ∧ ds.length * n.toNat ≤ sizeLine
      · rw [if_pos hc] at e; cases e
        obtain ⟨a, vs, rfl, sq, rl⟩ := r1
        exact op_rep pins s σ H _ _ v u Q I rx ry ⟨a, n, vs, rfl, rInt r2, sq, hc.1, hc.2.1, by rw [← rl.length]; exact hc.2.2, fun p hp => freshL hr hp (rl.rep n.toNat) k⟩
      · rw [if_neg hc] at e; cases e
    | _ => cases e
  | _ => cases e
theorem mulE_ii {a b : Int} : mulE (.int a) (.int b) = if CMul a b then some (.int (a * b)) else none := rfl
/-! ### is None -/
def isNon : D → Bool
  | .non => true
  | _ => false
def isNoneD (neg : Bool) (x y : D) : Option D := match y with | .non => some (.bl (xor neg (isNon x))) | _ => none
theorem isNon_v {K : PySem.W.Frag} {M : DH} {H : Hp} {d : D} {x : V} (r : RepR K M H d x) : decide (x = V.non) = isNon d := by
  cases d with
  | tup ds => obtain ⟨a, vs, rfl, _⟩ := r; rfl
  | lst ds => obtain ⟨a, vs, rfl, _⟩ := r; rfl
  | scr ds => obtain ⟨a, vs, rfl, _⟩ := r; rfl
  | emp => simp only [RepR, Rep] at r; obtain ⟨a, rfl, _⟩ := r; rfl
  | _ => simp only [RepR, Rep] at r; subst r; rfl
theorem o_is : OpRd X (compareOp .Is) (isNoneD false) := by
  intro pins s σ H M x y v u dx dy dz Q I hr rx ry r1 r2 e k
  cases dy with
  | non =>
    cases e
    refine op_isN pins s σ H x y v u Q I rx ry ⟨rNon r2, ?_⟩
    rw [isNon_v r1]
    exact k _ H (Ext.refl _ _) hr (by simp [Rep])
  | _ => cases e
theorem o_isnot : OpRd X (compareOp .IsNot) (isNoneD true) := by
  intro pins s σ H M x y v u dx dy dz Q I hr rx ry r1 r2 e k
  cases dy with
  | non =>
    cases e
    refine op_notN pins s σ H x y v u Q I rx ry ⟨rNon r2, ?_⟩
    rw [isNon_v r1]
    exact k _ H (Ext.refl _ _) hr (by simp [Rep])
  | _ => cases e
theorem isNoneD_n {b : Bool} {x : D} : isNoneD b x .non = some (.bl (xor b (isNon x))) := rfl
/-! ### a comprehension's list, ours -/
def dLcO (ms : List Bool) (k : Nat) (wi : TId) (g : GD) (tc : TTd) (te : TEd) : TEd := fun Δ M Q => wi Δ M fun ds M1 => ds.length ≤ sizeLine ∧ lcRun g tc te ds (compD ms k Δ) M1 [] fun ys M2 => ∀ p, M2 p = none → Q (.ref p) (updM M2 p (.lst ys))
theorem lc_convO {K : PySem.W.Frag} {wi : TId} {g : GD} {tc : TTd} {te : TEd} {gv : TG} {ms : List Bool} {kk : Nat}
    (kg : ∀ (d : D) (v : V) (σ : St) (Δ Δ' : DE) (M : DH) (H : Hp) (Q : St → Hp → Prop), SR K M H σ Δ → HR K M H → Rep K M H d v → g d Δ = some Δ' → (∀ σ', SR K M H σ' Δ' → Q σ' H) → gv v σ H Q) :
    ∀ σ H Q, up K (dLcO ms kk wi g tc te) σ H Q → tLc ms kk (upI K wi) gv (upT K tc) (up K te) σ H Q := by
  rintro σ H Q ⟨Δ, M, R, sr, hr, q, k⟩
  refine ⟨Δ, M, _, sr, hr, q, fun ds M1 J H1 ⟨hz, q1⟩ e1 hr1 it => ?_⟩
  refine ⟨fun i m ys σ' H' => ∃ Δ' M' acc, m = ds.length - i ∧ i ≤ ds.length ∧ Ext M1 H1 M' H' ∧ HR K M' H' ∧ SR K M' H' σ' Δ' ∧ RepL K M' H' acc ys ∧ acc.length ≤ i ∧ lcRun g tc te (ds.drop i) Δ' M' acc fun ys M2 => ∀ p, M2 p = none → R (.ref p) (updM M2 p (.lst ys)),
    fun ys H' => ∃ M' acc, Ext M1 H1 M' H' ∧ HR K M' H' ∧ RepL K M' H' acc ys ∧ ∀ p, M' p = none → R (.ref p) (updM M' p (.lst acc)), ⟨ds.length, _, M1, [], by simp, Nat.zero_le _, Ext.refl _ _, hr1, (sr.ext e1).comp ms kk, RepL.nil, by simp, q1⟩, ?_, ?_⟩
  · rintro i m ys σ2 H2 ⟨Δ2, M2, acc, rfl, hi2, e2, hr2, sr2, ra, la, f2⟩
    have hl : ys.length ≤ sizeLine := by rw [← ra.length]; omega
    refine ⟨hl, ?_⟩
    obtain ⟨go, stop⟩ := it M2 H2 e2 hr2 i
    by_cases hlt : i < ds.length
    · have hd : ds[i]? = some ds[i] := by simp [hlt]
      obtain ⟨g1, y1⟩ := go _ hd
      rw [List.drop_eq_getElem_cons hlt] at f2
      simp only [lcRun] at f2
      obtain ⟨Δ3, eg, f3⟩ := f2
      refine .inr ⟨g1, fun x H' hy => ?_⟩
      obtain ⟨e3, hr3, rx⟩ := y1 x H' hy
      refine kg _ x σ2 Δ2 Δ3 M2 H' _ (sr2.ext e3) hr3 rx eg fun σ3 sr3 => ?_
      refine ⟨Δ3, M2, _, sr3, hr3, f3, fun b M4 H4 q4 e4 hr4 => ?_⟩
      cases b with
      | true =>
        simp only [if_true] at q4 ⊢
        refine ⟨Δ3, M4, _, sr3.ext e4, hr4, q4, fun y M5 v5 H5 q5 e5 hr5 rv5 => ?_⟩
        refine ⟨ds.length - (i + 1), by omega, Δ3, M5, acc ++ [y], rfl, hlt, ((e2.trans e3).trans e4).trans e5, hr5, (sr3.ext e4).ext e5, (((ra.ext e3).ext e4).ext e5).append (RepL.cons rv5 RepL.nil), by simp; omega, q5⟩
      | false =>
        simp only [Bool.false_eq_true, if_false] at q4 ⊢
        exact ⟨ds.length - (i + 1), by omega, Δ3, M4, acc, rfl, hlt, (e2.trans e3).trans e4, hr4, sr3.ext e4, (ra.ext e3).ext e4, by omega, q4⟩
    · rw [List.drop_eq_nil_of_le (by omega)] at f2
      exact .inl ⟨stop (by omega), M2, acc, e2, hr2, ra, f2⟩
  · rintro ys H' p ⟨M', acc, e', hr', ra, q'⟩ hp
    exact k _ _ _ _ (q' p (hr'.fresh hp)) ((e1.trans e').trans (Ext.own hp)) (hr'.own hp ra) (by simp only [Rep])
variable {scope : Scope} {cl : List (Str × Addr)} {ms : List Bool} {extra : List Str} {ifs : List Expr} {tg iter elt : Expr}
theorem d_lcO {wi : TId} {g : GD} {tc : TTd} {te : TEd} (S : CompSc X scope cl ms extra) (hcalm : X.calm = true) (hi : PId X tg iter wi) (hg : PGa X scope cl extra tg g)
    (hif : ∀ C s H ex, PIfd (cxComp X scope cl (X.N ++ extra) C s H ex) ifs tc) (he : ∀ C s H ex, PEd (cxComp X scope cl (X.N ++ extra) C s H ex) elt te)
    (hs : ∀ x, foldedSetIterable iter X.env x = pure x := by intro _; rfl) : PEd X (.ListComp elt [⟨tg, iter, ifs, 0⟩] scope pos) (dLcO ms extra.length wi g tc te) := by
  obtain ⟨gv, pg, kg⟩ := hg
  exact (pe_lc (tc := upT X.K tc) (te := up X.K te) S hcalm hi pg hif he hs).conv (lc_convO kg)
theorem d_setLcO {i : Nat} {x : Str} {spos pos' : Pos} {wi : TId} {g : GD} {tc : TTd} {te : TEd} (hN : X.N.Nodup) (hix : X.N[i]? = some x) (hx : X.env.scope.names.lookup x = some .local)
    (hsw : swapsWith (.ListComp elt [⟨tg, iter, ifs, 0⟩] scope pos) (some (.Name x pos')) spos.line X.env = pure true) (S : CompSc X scope cl ms extra) (hcalm : X.calm = true) (hi : PId X tg iter wi) (hg : PGa X scope cl extra tg g)
    (hif : ∀ C s H ex, PIfd (cxComp X scope cl (X.N ++ extra) C s H ex) ifs tc) (he : ∀ C s H ex, PEd (cxComp X scope cl (X.N ++ extra) C s H ex) elt te)
    (hs : ∀ x, foldedSetIterable iter X.env x = pure x := by intro _; rfl) : PSd X (.Assign [.Name x pos'] (.ListComp elt [⟨tg, iter, ifs, 0⟩] scope pos) spos) (dSet i (dLcO ms extra.length wi g tc te)) := by
  obtain ⟨gv, pg, kg⟩ := hg
  refine (ps_setLc (tc := upT X.K tc) (te := up X.K te) hN hix hx hsw S hcalm hi pg hif he hs).conv fun D σ H hh => ?_
  obtain ⟨Δ, M, E, sr, hr, q, k⟩ := hh
  exact lc_convO kg σ H _ ⟨Δ, M, _, sr, hr, q, fun d M1 v H1 q1 e1 hr1 rv => k.nx _ M1 _ H1 q1 e1 hr1 ((sr.ext e1).set i rv)⟩
end
end L2

set_option Elab.async false
set_option linter.all false
set_option maxRecDepth 100000
namespace L2
open PySem PySem.Spec PyProof.Rows
/-! ### the same rules, as judgements that are not looked into -/
@[irreducible] def QEd (X : Cx) (e : Expr) (t : TEd) : Prop := PEd X e t
theorem QEd.eq {X : Cx} {e : Expr} {t : TEd} : QEd X e t = (PEd X e t) := by unfold QEd; rfl
@[irreducible] def QAd (X : Cx) (e : List Expr) (t : TAd) : Prop := PAd X e t
theorem QAd.eq {X : Cx} {e : List Expr} {t : TAd} : QAd X e t = (PAd X e t) := by unfold QAd; rfl
@[irreducible] def QTd (X : Cx) (e : Expr) (t : TTd) : Prop := PTd X e t
theorem QTd.eq {X : Cx} {e : Expr} {t : TTd} : QTd X e t = (PTd X e t) := by unfold QTd; rfl
@[irreducible] def QWd (X : Cx) (e : Expr) (t : TTd) : Prop := PWd X e t
theorem QWd.eq {X : Cx} {e : Expr} {t : TTd} : QWd X e t = (PWd X e t) := by unfold QWd; rfl
@[irreducible] def QSd (X : Cx) (e : Stmt) (t : TSd) : Prop := PSd X e t
theorem QSd.eq {X : Cx} {e : Stmt} {t : TSd} : QSd X e t = (PSd X e t) := by unfold QSd; rfl
@[irreducible] def QSs (X : Cx) (e : List Stmt) (t : TSd) : Prop := PSsd X e t
theorem QSs.eq {X : Cx} {e : List Stmt} {t : TSd} : QSs X e t = (PSsd X e t) := by unfold QSs; rfl
@[irreducible] def QId (X : Cx) (tg e : Expr) (t : TId) : Prop := PId X tg e t
theorem QId.eq {X : Cx} {tg e : Expr} {t : TId} : QId X tg e t = (PId X tg e t) := by unfold QId; rfl
@[irreducible] def QIf (X : Cx) (e : List Expr) (t : TTd) : Prop := PIfd X e t
theorem QIf.eq {X : Cx} {e : List Expr} {t : TTd} : QIf X e t = (PIfd X e t) := by unfold QIf; rfl
@[irreducible] def QOd (X : Cx) (e : Option Expr) (t : TOd) : Prop := POd X e t
theorem QOd.eq {X : Cx} {e : Option Expr} {t : TOd} : QOd X e t = (POd X e t) := by unfold QOd; rfl
theorem q_var {X : Cx} (i : Nat) {x : Str} {pos : Pos} (hN : X.N[i]? = some x := by rfl) (hv : Vis X.env.scope x := by first | exact Or.inl rfl | exact Or.inr (Or.inl rfl) | exact Or.inr (Or.inr rfl)) (hd : (x == ("__debug__" : Str)) = false := by decide)
    (hcd : (x == ("__classdict__" : Str)) = false := by decide) : QEd X (.Name x pos) (dVar i) := by
  simp only [QEd.eq, QAd.eq, QTd.eq, QWd.eq, QSd.eq, QSs.eq, QId.eq, QIf.eq, QOd.eq] at *
  exact d_var (i := i) (hN := hN) (hv := hv) (hd := hd) (hcd := hcd)
theorem q_int {X : Cx} {i j pos} : QEd X (.Constant (.int i) j pos) (dC (.int i)) := by
  simp only [QEd.eq, QAd.eq, QTd.eq, QWd.eq, QSd.eq, QSs.eq, QId.eq, QIf.eq, QOd.eq] at *
  exact d_int 
theorem q_bl {X : Cx} {i j pos} : QEd X (.Constant (.bool i) j pos) (dC (.bl i)) := by
  simp only [QEd.eq, QAd.eq, QTd.eq, QWd.eq, QSd.eq, QSs.eq, QId.eq, QIf.eq, QOd.eq] at *
  exact d_bl 
theorem q_str {X : Cx} {i j pos} : QEd X (.Constant (.str i) j pos) (dC (.str i)) := by
  simp only [QEd.eq, QAd.eq, QTd.eq, QWd.eq, QSd.eq, QSs.eq, QId.eq, QIf.eq, QOd.eq] at *
  exact d_str 
theorem q_non {X : Cx} {j pos} : QEd X (.Constant .none j pos) (dC .non) := by
  simp only [QEd.eq, QAd.eq, QTd.eq, QWd.eq, QSd.eq, QSs.eq, QId.eq, QIf.eq, QOd.eq] at *
  exact d_non 
theorem q_nil {X : Cx} : QAd X [] dNil := by
  simp only [QEd.eq, QAd.eq, QTd.eq, QWd.eq, QSd.eq, QSs.eq, QId.eq, QIf.eq, QOd.eq] at *
  exact d_nil 
theorem q_cons {X : Cx} {a : Expr} {es : List Expr} {ta : TEd} {tr : TAd} (ha : QEd X a ta) (hr : QAd X es tr) (hs : starEach (a :: es) X.env = (false, eval a X.env) :: starEach es X.env := by rfl) : QAd X (a :: es) (dCons ta tr) := by
  simp only [QEd.eq, QAd.eq, QTd.eq, QWd.eq, QSd.eq, QSs.eq, QId.eq, QIf.eq, QOd.eq] at *
  exact d_cons (ha := ha) (hr := hr) (hs := hs)
theorem q_tup {X : Cx} {es : List Expr} {pos : Pos} {x1} {t : TAd} (h : QAd X es t) : QEd X (.Tuple es x1 pos) (dTup t) := by
  simp only [QEd.eq, QAd.eq, QTd.eq, QWd.eq, QSd.eq, QSs.eq, QId.eq, QIf.eq, QOd.eq] at *
  exact d_tup (h := h)
theorem q_lst {X : Cx} {es : List Expr} {pos : Pos} {t : TAd} (h : QAd X es t) : QEd X (.List es pos) (dLst t) := by
  simp only [QEd.eq, QAd.eq, QTd.eq, QWd.eq, QSd.eq, QSs.eq, QId.eq, QIf.eq, QOd.eq] at *
  exact d_lst (h := h)
theorem q_lstO {X : Cx} {es : List Expr} {pos : Pos} {t : TAd} (h : QAd X es t) : QEd X (.List es pos) (dLstO t) := by
  simp only [QEd.eq, QAd.eq, QTd.eq, QWd.eq, QSd.eq, QSs.eq, QId.eq, QIf.eq, QOd.eq] at *
  exact d_lstO (h := h)
theorem q_op {X : Cx} {a : Expr} {b : Expr} {ta : TEd} {tb : TEd} {pos : Pos} {op : Operator} {r : D → D → Option D} (ho : OpRd X (binaryOp op) r) (ha : QEd X a ta) (hb : QEd X b tb) : QEd X (.BinOp a op b pos) (dOp r ta tb) := by
  simp only [QEd.eq, QAd.eq, QTd.eq, QWd.eq, QSd.eq, QSs.eq, QId.eq, QIf.eq, QOd.eq] at *
  exact d_op (ho := ho) (ha := ha) (hb := hb)
theorem q_cmp {X : Cx} {a : Expr} {b : Expr} {ta : TEd} {tb : TEd} {pos : Pos} {op : CmpOp} {r : D → D → Option D} (ho : OpRd X (compareOp op) r) (ha : QEd X a ta) (hb : QEd X b tb) (hm : behindInMarks op b = false) : QEd X (.Compare a [op] [b] pos) (dOp r ta tb) := by
  simp only [QEd.eq, QAd.eq, QTd.eq, QWd.eq, QSd.eq, QSs.eq, QId.eq, QIf.eq, QOd.eq] at *
  exact d_cmp (ho := ho) (ha := ha) (hb := hb) (hm := hm)
theorem q_ix {X : Cx} {a : Expr} {b : Expr} {ta : TEd} {tb : TEd} {pos : Pos} {r : D → D → Option D} (ho : IxR X (opV X.K r)) (ha : QEd X a ta) (hb : QEd X b tb) (hs : PlainIx b) : QEd X (.Subscript a b pos) (dOp r ta tb) := by
  simp only [QEd.eq, QAd.eq, QTd.eq, QWd.eq, QSd.eq, QSs.eq, QId.eq, QIf.eq, QOd.eq] at *
  exact d_ix (ho := ho) (ha := ha) (hb := hb) (hs := hs)
theorem q_tcmp {X : Cx} {a : Expr} {b : Expr} {ta : TEd} {tb : TEd} {pos : Pos} {op : CmpOp} {r : D → D → Option D} (ho : OpRd X (compareOp op) r) (ha : QEd X a ta) (hb : QEd X b tb) (hm : behindInMarks op b = false) : QTd X (.Compare a [op] [b] pos) (dTst (dOp r ta tb)) := by
  simp only [QEd.eq, QAd.eq, QTd.eq, QWd.eq, QSd.eq, QSs.eq, QId.eq, QIf.eq, QOd.eq] at *
  exact d_tcmp (ho := ho) (ha := ha) (hb := hb) (hm := hm)
theorem q_tval {X : Cx} {a : Expr} {ta : TEd} (h : QEd X a ta) (he : ∀ whole, isTrue a X.env whole = (do let v ← whole; standAt a.pos; holding [v] (truthy v)) := by intro _; rfl) : QTd X a (dTst ta) := by
  simp only [QEd.eq, QAd.eq, QTd.eq, QWd.eq, QSd.eq, QSs.eq, QId.eq, QIf.eq, QOd.eq] at *
  exact d_tval (h := h) (he := he)
theorem q_tnot {X : Cx} {a : Expr} {pos : Pos} {tA : TTd} (h : QTd X a tA) : QTd X (.UnaryOp .Not a pos) (dNotT tA) := by
  simp only [QEd.eq, QAd.eq, QTd.eq, QWd.eq, QSd.eq, QSs.eq, QId.eq, QIf.eq, QOd.eq] at *
  exact d_tnot (h := h)
theorem q_tand1 {X : Cx} {a : Expr} {pos : Pos} {tA : TTd} (ha : QTd X a tA) : QWd X (.BoolOp .And [a] pos) tA := by
  simp only [QEd.eq, QAd.eq, QTd.eq, QWd.eq, QSd.eq, QSs.eq, QId.eq, QIf.eq, QOd.eq] at *
  exact d_tand1 (ha := ha)
theorem q_tor1 {X : Cx} {a : Expr} {pos : Pos} {tA : TTd} (ha : QTd X a tA) : QWd X (.BoolOp .Or [a] pos) tA := by
  simp only [QEd.eq, QAd.eq, QTd.eq, QWd.eq, QSd.eq, QSs.eq, QId.eq, QIf.eq, QOd.eq] at *
  exact d_tor1 (ha := ha)
theorem q_tand {X : Cx} {a : Expr} {b : Expr} {pos : Pos} {tA : TTd} {tB' : TTd} {rest : List Expr} (ha : QTd X a tA) (hb : QWd X (.BoolOp .And (b :: rest) pos) tB') : QWd X (.BoolOp .And (a :: b :: rest) pos) (dAndT tA tB') := by
  simp only [QEd.eq, QAd.eq, QTd.eq, QWd.eq, QSd.eq, QSs.eq, QId.eq, QIf.eq, QOd.eq] at *
  exact d_tand (ha := ha) (hb := hb)
theorem q_tor {X : Cx} {a : Expr} {b : Expr} {pos : Pos} {tA : TTd} {tB' : TTd} {rest : List Expr} (ha : QTd X a tA) (hb : QWd X (.BoolOp .Or (b :: rest) pos) tB') : QWd X (.BoolOp .Or (a :: b :: rest) pos) (dOrT tA tB') := by
  simp only [QEd.eq, QAd.eq, QTd.eq, QWd.eq, QSd.eq, QSs.eq, QId.eq, QIf.eq, QOd.eq] at *
  exact d_tor (ha := ha) (hb := hb)
theorem q_one {X : Cx} {a : Expr} {ta : TEd} {pos : Pos} {op} (h : QEd X a ta) : QEd X (.BoolOp op [a] pos) ta := by
  simp only [QEd.eq, QAd.eq, QTd.eq, QWd.eq, QSd.eq, QSs.eq, QId.eq, QIf.eq, QOd.eq] at *
  exact d_one (h := h)
theorem q_and {X : Cx} {a : Expr} {b : Expr} {ta : TEd} {tb : TEd} {pos : Pos} {rest : List Expr} (ha : QEd X a ta) (hb : QEd X (.BoolOp .And (b :: rest) pos) tb) : QEd X (.BoolOp .And (a :: b :: rest) pos) (dAnd ta tb) := by
  simp only [QEd.eq, QAd.eq, QTd.eq, QWd.eq, QSd.eq, QSs.eq, QId.eq, QIf.eq, QOd.eq] at *
  exact d_and (ha := ha) (hb := hb)
theorem q_not {X : Cx} {a : Expr} {ta : TEd} {pos : Pos} (ha : QEd X a ta) : QEd X (.UnaryOp .Not a pos) (dNot ta) := by
  simp only [QEd.eq, QAd.eq, QTd.eq, QWd.eq, QSd.eq, QSs.eq, QId.eq, QIf.eq, QOd.eq] at *
  exact d_not (ha := ha)
theorem q_chain {X : Cx} {a : Expr} {b : Expr} {c : Expr} {ta : TEd} {tb : TEd} {pos : Pos} {tc : TEd} {op op' : CmpOp} {r r' : D → D → Option D} (ho : OpRd X (compareOp op) r) (ho' : OpRd X (compareOp op') r') (ha : QEd X a ta) (hb : QEd X b tb) (hc : QEd X c tc)
    (hm : lastMarks [op, op'] [b, c] = false := by with_unfolding_all rfl) : QEd X (.Compare a [op, op'] [b, c] pos) (dChain r r' ta tb tc) := by
  simp only [QEd.eq, QAd.eq, QTd.eq, QWd.eq, QSd.eq, QSs.eq, QId.eq, QIf.eq, QOd.eq] at *
  exact d_chain (ho := ho) (ho' := ho') (ha := ha) (hb := hb) (hc := hc) (hm := hm)
theorem q_callB {X : Cx} {pos : Pos} {x : Str} {p : Pos} {e : Expr} {es : List Expr} {t : TAd} {id : String} {r : List D → Option D} (hc : CallRd X (.builtin id) r) (hg : Gl X x) (hm : X.mg x = none) (hv : bootBuiltins x = some (.builtin id)) (ha : QAd X (e :: es) t) (hn : x ≠ "__name__" := by decide) (hdb : (x == ("__debug__" : Str)) = false := by decide)
    (he : starEach (e :: es) X.env = (false, eval e X.env) :: starEach es X.env := by rfl) (hpl : (backTo pos (starEach es X.env)).any (·.1) = false := by rfl) : QEd X (.Call (.Name x p) (e :: es) [] pos) (dCB r t) := by
  simp only [QEd.eq, QAd.eq, QTd.eq, QWd.eq, QSd.eq, QSs.eq, QId.eq, QIf.eq, QOd.eq] at *
  exact d_callB (hc := hc) (hg := hg) (hm := hm) (hv := hv) (ha := ha) (hn := hn) (hdb := hdb) (he := he) (hpl := hpl)
theorem q_callTy {X : Cx} {pos : Pos} {x : Str} {p : Pos} {e : Expr} {es : List Expr} {t : TAd} {id : String} {r : List D → Option D} (hc : CallRd X (.type id) r) (hg : Gl X x) (hm : X.mg x = none) (hv : bootBuiltins x = some (.type id)) (ha : QAd X (e :: es) t) (hn : x ≠ "__name__" := by decide) (hdb : (x == ("__debug__" : Str)) = false := by decide)
    (he : starEach (e :: es) X.env = (false, eval e X.env) :: starEach es X.env := by rfl) (hpl : (backTo pos (starEach es X.env)).any (·.1) = false := by rfl) : QEd X (.Call (.Name x p) (e :: es) [] pos) (dCB r t) := by
  simp only [QEd.eq, QAd.eq, QTd.eq, QWd.eq, QSd.eq, QSs.eq, QId.eq, QIf.eq, QOd.eq] at *
  exact d_callTy (hc := hc) (hg := hg) (hm := hm) (hv := hv) (ha := ha) (hn := hn) (hdb := hdb) (he := he) (hpl := hpl)
theorem q_snil {X : Cx} : QSs X [] dNext := by
  simp only [QEd.eq, QAd.eq, QTd.eq, QWd.eq, QSd.eq, QSs.eq, QId.eq, QIf.eq, QOd.eq] at *
  exact d_snil 
theorem q_scons {X : Cx} {st : Stmt} {rest : List Stmt} {t : TSd} {u : TSd} (h1 : QSd X st t) (h2 : QSs X rest u) : QSs X (st :: rest) (dSeq t u) := by
  simp only [QEd.eq, QAd.eq, QTd.eq, QWd.eq, QSd.eq, QSs.eq, QId.eq, QIf.eq, QOd.eq] at *
  exact d_scons (h1 := h1) (h2 := h2)
theorem q_sone {X : Cx} {st : Stmt} {t : TSd} (h1 : QSd X st t) : QSs X [st] t := by
  simp only [QEd.eq, QAd.eq, QTd.eq, QWd.eq, QSd.eq, QSs.eq, QId.eq, QIf.eq, QOd.eq] at *
  exact d_sone (h1 := h1)
theorem q_ret {X : Cx} {e : Expr} {te : TEd} {pos : Pos} (he : QEd X e te) : QSd X (.Return (some e) pos) (dRet te) := by
  simp only [QEd.eq, QAd.eq, QTd.eq, QWd.eq, QSd.eq, QSs.eq, QId.eq, QIf.eq, QOd.eq] at *
  exact d_ret (he := he)
theorem q_expr {X : Cx} {e : Expr} {te : TEd} {pos : Pos} (he : QEd X e te) (hs : swapsWith e none pos.line X.env = pure false := by rfl) : QSd X (.Expr e pos) (dDrop te) := by
  simp only [QEd.eq, QAd.eq, QTd.eq, QWd.eq, QSd.eq, QSs.eq, QId.eq, QIf.eq, QOd.eq] at *
  exact d_expr (he := he) (hs := hs)
theorem q_ifS {X : Cx} {c : Expr} {pos : Pos} {t : TSd} {u : TSd} {sa sb : List Stmt} {tc : TTd} (hc : QTd X c tc) (ha : QSs X sa t) (hb : QSs X sb u) : QSd X (.If c sa sb pos) (dIfS tc t u) := by
  simp only [QEd.eq, QAd.eq, QTd.eq, QWd.eq, QSd.eq, QSs.eq, QId.eq, QIf.eq, QOd.eq] at *
  exact d_ifS (hc := hc) (ha := ha) (hb := hb)
theorem q_set {X : Cx} {e : Expr} {te : TEd} {pos : Pos} {i : Nat} {x : Str} {pos' : Pos} (hN : X.N.Nodup) (hi : X.N[i]? = some x) (hx : Loc X.env.scope x) (he : QEd X e te) (hs : swapsWith e (some (.Name x pos')) pos.line X.env = pure false := by rfl) (hf : X.fn x = true ∨ X.env.scope.names.lookup x = some .local := by first | exact .inl rfl | exact .inr rfl | assumption) :
    QSd X (.Assign [.Name x pos'] e pos) (dSet i te) := by
  simp only [QEd.eq, QAd.eq, QTd.eq, QWd.eq, QSd.eq, QSs.eq, QId.eq, QIf.eq, QOd.eq] at *
  exact d_set (hN := hN) (hi := hi) (hx := hx) (he := he) (hs := hs) (hf := hf)
theorem q_aug {X : Cx} {e : Expr} {te : TEd} {pos : Pos} {i : Nat} {x : Str} {op : Operator} {r : D → D → Option D} {pos' : Pos} (hN : X.N.Nodup) (hi : X.N[i]? = some x) (hx : Loc X.env.scope x) (he : QEd X e te) (ho : OpRd X (inplaceOp op) r) (hf : X.fn x = true ∨ X.env.scope.names.lookup x = some .local := by first | exact .inl rfl | exact .inr rfl | assumption) :
    QSd X (.AugAssign (.Name x pos') op e pos) (dAug i te r) := by
  simp only [QEd.eq, QAd.eq, QTd.eq, QWd.eq, QSd.eq, QSs.eq, QId.eq, QIf.eq, QOd.eq] at *
  exact d_aug (hN := hN) (hi := hi) (hx := hx) (he := he) (ho := ho) (hf := hf)
theorem q_asg {X : Cx} {e : Expr} {te : TEd} {pos : Pos} {tg : Expr} {g : GD} (he : QEd X e te) (hg : PGd X tg g) (hs : swapsWithSole [tg] e pos.line X.env = pure false := by rfl) (hw : swappedStores [tg] e X.env = pure none := by rfl)
    (h1 : (assignEach [tg] X.env).map (·.2) = [assign tg X.env] := by rfl) : QSd X (.Assign [tg] e pos) (dAsg te g) := by
  simp only [QEd.eq, QAd.eq, QTd.eq, QWd.eq, QSd.eq, QSs.eq, QId.eq, QIf.eq, QOd.eq] at *
  exact d_asg (he := he) (hg := hg) (hs := hs) (hw := hw) (h1 := h1)
theorem qi_rng1 {X : Cx} {a : Expr} {pos : Pos} {tg : Expr} {ta : TAd} {p : Pos} (hg : Gl X "range") (hm : X.mg "range" = none) (ha : QAd X [a] ta) (hs : starEach [a] X.env = [(false, eval a X.env)] := by rfl) : QId X tg (.Call (.Name "range" p) [a] [] pos) (diRng1 ta) := by
  simp only [QEd.eq, QAd.eq, QTd.eq, QWd.eq, QSd.eq, QSs.eq, QId.eq, QIf.eq, QOd.eq] at *
  exact i_rng1 (hg := hg) (hm := hm) (ha := ha) (hs := hs)
theorem q_for {X : Cx} {pos : Pos} {tg : Expr} {iter : Expr} {body : List Stmt} {wi : TId} {g : GD} {tb : TSd} (hp : PassesOwn (model X.prog X.w) X.A X.env X.xe) (hc : X.calm = true) (hi : QId X tg iter wi) (hg : PGd X tg g) (hb : QSs X body tb)
    (hs : ∀ x, foldedSetIterable iter X.env x = pure x := by intro _; rfl) : QSd X (.For tg iter body [] pos) (dFor wi g tb) := by
  simp only [QEd.eq, QAd.eq, QTd.eq, QWd.eq, QSd.eq, QSs.eq, QId.eq, QIf.eq, QOd.eq] at *
  exact d_for (hp := hp) (hc := hc) (hi := hi) (hg := hg) (hb := hb) (hs := hs)
theorem q_while {X : Cx} {c : Expr} {pos : Pos} {body : List Stmt} {tc : TTd} {tb : TSd} (hp : PassesOwn (model X.prog X.w) X.A X.env X.xe) (hc : QTd X c tc) (hb : QSs X body tb) : QSd X (.While c body [] pos) (dWhile tc tb) := by
  simp only [QEd.eq, QAd.eq, QTd.eq, QWd.eq, QSd.eq, QSs.eq, QId.eq, QIf.eq, QOd.eq] at *
  exact d_while (hp := hp) (hc := hc) (hb := hb)
theorem qi_nil {X : Cx} : QIf X [] dYes := by
  simp only [QEd.eq, QAd.eq, QTd.eq, QWd.eq, QSd.eq, QSs.eq, QId.eq, QIf.eq, QOd.eq] at *
  exact i_nil 
theorem qi_one {X : Cx} {c : Expr} {tc : TTd} (h : QTd X c tc) : QIf X [c] tc := by
  simp only [QEd.eq, QAd.eq, QTd.eq, QWd.eq, QSd.eq, QSs.eq, QId.eq, QIf.eq, QOd.eq] at *
  exact i_one (h := h)
theorem q_lc {X : Cx} {pos : Pos} {tg : Expr} {iter : Expr} {elt : Expr} {scope : Scope} {cl : List (Str × Addr)} {ms : List Bool} {extra : List Str} {ifs : List Expr} {wi : TId} {g : GD} {tc : TTd} {te : TEd} (S : CompSc X scope cl ms extra) (hcalm : X.calm = true) (hi : QId X tg iter wi) (hg : PGa X scope cl extra tg g)
    (hif : ∀ C s H ex, QIf (cxComp X scope cl (X.N ++ extra) C s H ex) ifs tc) (he : ∀ C s H ex, QEd (cxComp X scope cl (X.N ++ extra) C s H ex) elt te)
    (hs : ∀ x, foldedSetIterable iter X.env x = pure x := by intro _; rfl) : QEd X (.ListComp elt [⟨tg, iter, ifs, 0⟩] scope pos) (dLc ms extra.length wi g tc te) := by
  simp only [QEd.eq, QAd.eq, QTd.eq, QWd.eq, QSd.eq, QSs.eq, QId.eq, QIf.eq, QOd.eq] at *
  exact d_lc (S := S) (hcalm := hcalm) (hi := hi) (hg := hg) (hif := hif) (he := he) (hs := hs)
theorem q_setLc {X : Cx} {pos : Pos} {tg : Expr} {iter : Expr} {elt : Expr} {scope : Scope} {cl : List (Str × Addr)} {ms : List Bool} {extra : List Str} {ifs : List Expr} {i : Nat} {x : Str} {spos pos' : Pos} {wi : TId} {g : GD} {tc : TTd} {te : TEd} (hN : X.N.Nodup) (hix : X.N[i]? = some x) (hx : X.env.scope.names.lookup x = some .local)
    (hsw : swapsWith (.ListComp elt [⟨tg, iter, ifs, 0⟩] scope pos) (some (.Name x pos')) spos.line X.env = pure true) (S : CompSc X scope cl ms extra) (hcalm : X.calm = true) (hi : QId X tg iter wi) (hg : PGa X scope cl extra tg g)
    (hif : ∀ C s H ex, QIf (cxComp X scope cl (X.N ++ extra) C s H ex) ifs tc) (he : ∀ C s H ex, QEd (cxComp X scope cl (X.N ++ extra) C s H ex) elt te)
    (hs : ∀ x, foldedSetIterable iter X.env x = pure x := by intro _; rfl) : QSd X (.Assign [.Name x pos'] (.ListComp elt [⟨tg, iter, ifs, 0⟩] scope pos) spos) (dSet i (dLc ms extra.length wi g tc te)) := by
  simp only [QEd.eq, QAd.eq, QTd.eq, QWd.eq, QSd.eq, QSs.eq, QId.eq, QIf.eq, QOd.eq] at *
  exact d_setLc (hN := hN) (hix := hix) (hx := hx) (hsw := hsw) (S := S) (hcalm := hcalm) (hi := hi) (hg := hg) (hif := hif) (he := he) (hs := hs)
theorem q_app {X : Cx} {e : Expr} {te : TEd} {o : Expr} {to : TEd} {apos cpos : Pos} (ho : QEd X o to) (he : QEd X e te) (hbase : attributeBase o "append" X.env (eval o X.env) = eval o X.env := by rfl)
    (hse : starEach [e] X.env = (false, eval e X.env) :: starEach [] X.env := by rfl)
    (hfew : ((backTo cpos (starEach [e] X.env)).all (fun x => !x.1) && (backToKw cpos (keywordEach [] X.env)).all (fun x => x.1.isSome)
      && decide ([e].length + ([] : List Keyword).length + (if ([] : List Keyword).isEmpty then 0 else 1) < 30)) = true := by rfl)
    (hline : (apos.endLine == cpos.line) = true := by rfl) (hplain : (backTo cpos (starEach [] X.env)).any (·.1) = false := by rfl) : QEd X (.Call (.Attribute o "append" apos) [e] [] cpos) (dApp to te) := by
  simp only [QEd.eq, QAd.eq, QTd.eq, QWd.eq, QSd.eq, QSs.eq, QId.eq, QIf.eq, QOd.eq] at *
  exact d_app (ho := ho) (he := he) (hbase := hbase) (hse := hse) (hfew := hfew) (hline := hline) (hplain := hplain)
theorem q_isi {X : Cx} {a : Expr} {ta : TEd} {pos : Pos} {T : Str} {Tn : String} {p p2 : Pos} (hT : okT Tn = true) (hg : Gl X "isinstance") (hm : X.mg "isinstance" = none) (hg2 : Gl X T) (hm2 : X.mg T = none) (hv2 : bootBuiltins T = some (.type Tn)) (ha : QEd X a ta) (hn2 : T ≠ "__name__" := by decide) (hd2 : (T == ("__debug__" : Str)) = false := by decide)
    (hs : starEach [a, .Name T p2] X.env = (false, eval a X.env) :: starEach [.Name T p2] X.env := by rfl) (hs2 : starEach [.Name T p2] X.env = (false, eval (.Name T p2) X.env) :: starEach [] X.env := by rfl) (hpl : (backTo pos (starEach [.Name T p2] X.env)).any (·.1) = false := by rfl) :
    QEd X (.Call (.Name "isinstance" p) [a, .Name T p2] [] pos) (dIsi Tn ta) := by
  simp only [QEd.eq, QAd.eq, QTd.eq, QWd.eq, QSd.eq, QSs.eq, QId.eq, QIf.eq, QOd.eq] at *
  exact d_isi (hT := hT) (hg := hg) (hm := hm) (hg2 := hg2) (hm2 := hm2) (hv2 := hv2) (ha := ha) (hn2 := hn2) (hd2 := hd2) (hs := hs) (hs2 := hs2) (hpl := hpl)
theorem qo_none {X : Cx} : QOd X none dNoPart := by
  simp only [QEd.eq, QAd.eq, QTd.eq, QWd.eq, QSd.eq, QSs.eq, QId.eq, QIf.eq, QOd.eq] at *
  exact od_none 
theorem qo_some {X : Cx} {e : Expr} {te : TEd} (h : QEd X e te) : QOd X (some e) (dPart te) := by
  simp only [QEd.eq, QAd.eq, QTd.eq, QWd.eq, QSd.eq, QSs.eq, QId.eq, QIf.eq, QOd.eq] at *
  exact od_some (h := h)
theorem qc {X : Cx} {e : Expr} {es : List Expr} {t : TAd} {pos : Pos} {p : Pos} {x : Str} {k : Nat} {n : Nat} {S : SpD} (F : FnD X.prog X.w X.K X.mg X.base x k n S) (hr : Room k X.A) (hg : Gl X x) (ha : QAd X (e :: es) t) (hdb : (x == ("__debug__" : Str)) = false := by decide) (he : starEach (e :: es) X.env = (false, eval e X.env) :: starEach es X.env := by rfl) (hpl : (backTo pos (starEach es X.env)).any (·.1) = false := by rfl) :
    QEd X (.Call (.Name x p) (e :: es) [] pos) (dCall n S t) := by
  simp only [QEd.eq, QAd.eq, QTd.eq, QWd.eq, QSd.eq, QSs.eq, QId.eq, QIf.eq, QOd.eq] at *
  exact dc (F := F) (hr := hr) (hg := hg) (ha := ha) (hdb := hdb) (he := he) (hpl := hpl)
theorem q_retF {X : Cx} {e : Expr} {te : TEd} {pos : Pos} (he : QEd X e te) : QSd X (.Return (some e) pos) (dRetF te) := by
  simp only [QEd.eq, QAd.eq, QTd.eq, QWd.eq, QSd.eq, QSs.eq, QId.eq, QIf.eq, QOd.eq] at *
  exact d_retF (he := he)
theorem qi_any {X : Cx} {te : TEd} {tg : Expr} {iter : Expr} (h : QEd X iter te) : QId X tg iter (diAny te) := by
  simp only [QEd.eq, QAd.eq, QTd.eq, QWd.eq, QSd.eq, QSs.eq, QId.eq, QIf.eq, QOd.eq] at *
  exact i_any (h := h)
theorem q_retG {X : Cx} {e : Expr} {te : TEd} {pos : Pos} (he : QEd X e te) : QSd X (.Return (some e) pos) (dRetG te) := by
  simp only [QEd.eq, QAd.eq, QTd.eq, QWd.eq, QSd.eq, QSs.eq, QId.eq, QIf.eq, QOd.eq] at *
  exact d_retG (he := he)
theorem q_sliceE {X : Cx} {e : Expr} {te : TEd} {pos : Pos} {lo hi : Option Expr} {tl th : TOd} {p2 : Pos} (he : QEd X e te) (hl : QOd X lo tl) (hu : QOd X hi th) : QEd X (.Subscript e (.Slice lo hi none p2) pos) (dSlE te tl th) := by
  simp only [QEd.eq, QAd.eq, QTd.eq, QWd.eq, QSd.eq, QSs.eq, QId.eq, QIf.eq, QOd.eq] at *
  exact d_sliceE (he := he) (hl := hl) (hu := hu)
theorem q_lcO {X : Cx} {pos : Pos} {scope : Scope} {cl : List (Str × Addr)} {ms : List Bool} {extra : List Str} {ifs : List Expr} {tg : Expr} {iter : Expr} {elt : Expr} {wi : TId} {g : GD} {tc : TTd} {te : TEd} (S : CompSc X scope cl ms extra) (hcalm : X.calm = true) (hi : QId X tg iter wi) (hg : PGa X scope cl extra tg g)
    (hif : ∀ C s H ex, QIf (cxComp X scope cl (X.N ++ extra) C s H ex) ifs tc) (he : ∀ C s H ex, QEd (cxComp X scope cl (X.N ++ extra) C s H ex) elt te)
    (hs : ∀ x, foldedSetIterable iter X.env x = pure x := by intro _; rfl) : QEd X (.ListComp elt [⟨tg, iter, ifs, 0⟩] scope pos) (dLcO ms extra.length wi g tc te) := by
  simp only [QEd.eq, QAd.eq, QTd.eq, QWd.eq, QSd.eq, QSs.eq, QId.eq, QIf.eq, QOd.eq] at *
  exact d_lcO (S := S) (hcalm := hcalm) (hi := hi) (hg := hg) (hif := hif) (he := he) (hs := hs)
theorem q_setLcO {X : Cx} {pos : Pos} {scope : Scope} {cl : List (Str × Addr)} {ms : List Bool} {extra : List Str} {ifs : List Expr} {tg : Expr} {iter : Expr} {elt : Expr} {i : Nat} {x : Str} {spos pos' : Pos} {wi : TId} {g : GD} {tc : TTd} {te : TEd} (hN : X.N.Nodup) (hix : X.N[i]? = some x) (hx : X.env.scope.names.lookup x = some .local)
    (hsw : swapsWith (.ListComp elt [⟨tg, iter, ifs, 0⟩] scope pos) (some (.Name x pos')) spos.line X.env = pure true) (S : CompSc X scope cl ms extra) (hcalm : X.calm = true) (hi : QId X tg iter wi) (hg : PGa X scope cl extra tg g)
    (hif : ∀ C s H ex, QIf (cxComp X scope cl (X.N ++ extra) C s H ex) ifs tc) (he : ∀ C s H ex, QEd (cxComp X scope cl (X.N ++ extra) C s H ex) elt te)
    (hs : ∀ x, foldedSetIterable iter X.env x = pure x := by intro _; rfl) : QSd X (.Assign [.Name x pos'] (.ListComp elt [⟨tg, iter, ifs, 0⟩] scope pos) spos) (dSet i (dLcO ms extra.length wi g tc te)) := by
  simp only [QEd.eq, QAd.eq, QTd.eq, QWd.eq, QSd.eq, QSs.eq, QId.eq, QIf.eq, QOd.eq] at *
  exact d_setLcO (hN := hN) (hix := hix) (hx := hx) (hsw := hsw) (S := S) (hcalm := hcalm) (hi := hi) (hg := hg) (hif := hif) (he := he) (hs := hs)
section
variable {X : Cx} {rest : List Stmt} {t : TSd} {e : Expr} {tt : TTd}
theorem q_block (h : QSs X rest t) : PSsd X rest t := by
  rw [QSs.eq] at h
  exact h
theorem q_pw (h : QWd X e tt) : QTd X e tt := by
  simp only [QWd.eq, QTd.eq] at *
  exact PWd.pt h
end
section
variable {P : Program} {w : World} {K : PySem.W.Frag} {mg : Str → Option Value} {base : Heap}
theorem Fun.okQ {x qual : Str} {st : Stmt} {f : Addr} {fd : FuncData} {N ps : List Str} {k n : Nat} {S : SpD} (F : Fun K x qual st f fd) (hn : ps.length = n) (Sc : FnScope N ps (defScope st))
    (hbody : ∀ (cdv : Value) (A : Around) (outer : List Env) (s : Shared) (H : Hp) (E : XK), Room k (A.deeper (envOfC qual (defScope st) s.heap.objs.size f cdv)) →
      ∃ t : TSd, QSs (cxOf CX0 P w K mg base N qual (defScope st) f cdv A outer s H E).nox (defBody st) t ∧ ∀ ds M R, ds.length = n → S ds M R → t { nx := fun _ M' => R .non M', rt := R } (startD N ds) M) : FnOk P w K mg base CX0 (k + 1) f fd ps (spD K n S) := by
  refine F.okD hn Sc fun cdv A outer s H E hr => ?_
  obtain ⟨t, h1, h2⟩ := hbody cdv A outer s H E hr
  exact ⟨t, q_block h1, h2⟩
end
end L2

set_option Elab.async false
set_option linter.all false
set_option maxRecDepth 100000
namespace L2
open PySem PySem.Spec PyProof.Rows
section
variable {X : Cx} {pos : Pos}
end
end L2

set_option Elab.async false
set_option linter.all false
set_option maxRecDepth 100000
namespace L2
open PySem PySem.Spec PyProof.Rows PySem.Builtin.Str
section
variable {prog : Program} {w : World} {A : Around} {E : Value → Shared → Prop} {s : Shared}
end
section
variable {X : Cx} {e : Expr} {te : TEd} {pos : Pos}
end
/-! ### split of joined texts -/
end L2

set_option Elab.async false
set_option linter.all false
set_option maxRecDepth 100000
namespace L2
open PySem PySem.Spec PyProof.Rows
/-! ### the bits of the script's ints -/
def Few (n : Int) : Prop := Builtin.Int.intBits n ≤ 2 ^ 20
theorem few_all {ns : List Int} : PySem.W.WData.weightAll (ns.map .int) ≤ 2 ^ 20 → ∀ n ∈ ns, Few n := by
  induction ns with
  | nil => intro _ n h; cases h
  | cons a r ih =>
    intro h n hn
    rw [List.map_cons, PySem.W.WData.weightAll] at h
    rcases List.mem_cons.mp hn with e | e
    · subst e
      have : PySem.W.WData.weight (.int n) = Builtin.Int.intBits n := by unfold PySem.W.WData.weight Builtin.Int.intBits; rfl
      unfold Few
      omega
    · exact ih (by omega) n e
theorem few_lay {ns : List Int} (h : PySem.W.WData.layableAll [.list (ns.map .int)] = true) : ∀ n ∈ ns, Few n := by
  refine few_all ?_
  have h1 : PySem.W.WData.layable (.list (ns.map .int)) = true := by
    unfold PySem.W.WData.layableAll at h
    simpa using h
  unfold PySem.W.WData.layable at h1
  have h2 := (Bool.and_eq_true_iff.mp h1).2
  have h3 := of_decide_eq_true h2
  unfold PySem.W.WData.weight at h3
  exact h3
end L2
namespace Att
open PySem PySem.W PySem.Calls PyProof.Rows
theorem attach_callB {l : OpenLaw} {n : Nat} {q : Program} {loose : List Str} {XP : (Str → Option Value) → Heap → Prop} {YP : World → Heap → Prop} {d : DefRec}
    (hn : l.most = some n) (hdf : d.params.defaults = [])
    (call : ∀ (w : World) (s₀ s₁ : Shared) (mg mb : Str → Option Value) (fa : Addr) (o : Obj) (pm cd doc : Value) (a : Addr) (vs : List Value) (ns : List Int),
      Ground q loose [] XP w s₀ mg mb s₁.heap → YP w s₁.heap →
      s₁.heap.get? fa = some o → o.data = .func (docDef d.name d.params d.body d.scope pm cd doc) → s₁.heap.CodeRec cd d.name → mg d.name = some (.ref fa) →
      s₁.heap.get? a = some { cls := .type "list", data := .seq vs.toArray } → IntsAre vs ns → ns.length ≤ n → (∀ m ∈ ns, L2.Few m) → s₁.gens = #[] →
      codeAny (model l.prog w) callerA (.call (.ref fa) ⟨[.ref a], []⟩) (fun r s' => r = .ok (.ret (.bool true)) ∧ OldK s₁.heap s'.heap ∧ s'.os = s₁.os ∧ AllBare s'.gens) s₁) :
    WalkO q loose XP YP l.row.toRowW d [] (fun f vs => PySem.call f vs) := by
  intro w s₀ s₁ mg mb G Y fa o pm cd doc dV kV ho hd hcd hD hmg hg args vals as hpre hlay hrd hwl hlo
  obtain rfl : dV = .none := Dflts.none hD hdf
  obtain rfl : kV = .none := Dflts.noKw hD
  obtain ⟨a, vs, ns, rfl, rfl, hobj, hints, hlen⟩ := script_of hn hpre hwl
  refine enter_call (codeAny_mono (call w s₀ s₁ mg mb fa o pm cd doc a vs ns G Y ho (fd_plain hd) hcd hmg hobj hints hlen (L2.few_lay hlay) hg) fun r s' hq => ?_)
  obtain ⟨rfl, h2, h3, h4⟩ := hq
  exact ⟨.inl ⟨.bool true, .bool true, [], rfl, fun _ => rfl, .bool true, post_true l _, fun _ => ⟨List.Pairwise.nil, fun _ hm => (nomatch hm)⟩⟩, h2, h3, h4⟩
end Att
namespace L2
open PySem PySem.Spec PyProof.Rows
def LawSB (S : SpD) : Prop := ∀ (ns : List Int) (R : D → DH → Prop), ns.length ≤ 63 → (∀ m ∈ ns, Few m) → (∀ M', R (.bl true) M') → S [.scr (ns.map .int)] noM R
theorem walkDB {S : SpD} (hS : LawSB S) {k : Nat} {x : Str} {l : PySem.W.OpenLaw} {q : Program} {loose : List Str} {XP : (Str → Option Value) → Heap → Prop} {YP : World → Heap → Prop} {d : DefRec} {K : Params → PySem.W.Frag} (hr : Room k callerA) (hn : l.most = some 63) (hdf : d.params.defaults = [])
    (hY : ∀ (w : World) (h : Heap), YP w h → (K w.params).In h)
    (F : ∀ (w : World) (mg : Str → Option Value) (fa : Addr) (h : Heap), (K w.params).In h → h.Ns mainGlobals mg → mg d.name = some (.ref fa) →
      ∃ fd : FuncData, (∀ (s : Shared) (u : Value), BindsTo s fd ⟨[u], []⟩ [(x, u)]) ∧ ∀ base : Heap, (K w.params).In base → base.Ns mainGlobals mg → FnOk l.prog w (K w.params) mg base CX0 k fa fd [x] (spD (K w.params) 1 S)) :
    PySem.W.WalkO q loose XP YP l.row.toRowW d [] (fun f vs => PySem.call f vs) := by
  refine Att.attach_callB hn hdf fun w s₀ s₁ mg mb fa o pm cd doc a vs ns G Y ho hd hcd hmg hobj hints hlen hfew hg => ?_
  have KX := hY w _ Y
  obtain ⟨fd, hb, hF⟩ := F w mg fa _ KX G.T.g hmg
  exact law_call (CX := CX0) (sp := spD (K w.params) 1 S) KX G.T.g G.T.b G.T.builtins G.T.nolimit hg hobj hints (Nat.le_trans hlen (by decide)) hr hF hb
    (fun H hO hq => ⟨[.scr (ns.map .int)], noM, fun d _ => d = .bl true, rfl, scr_start hO hq, HR.nil, hS ns _ hlen hfew (fun _ => rfl), fun d M' v H' e _ _ rv => by subst e; simpa only [Rep] using rv⟩) fun _ _ _ z => z
section
variable {X : Cx} {pos : Pos}
/-! ### * of wide ints -/
instance (n : Int) : Decidable (Few n) := by unfold Few; exact inferInstance
def CMulB (i j : Int) : Prop := CMul i j ∨ (Few i ∧ Few j)
instance : ∀ i j, Decidable (CMulB i j) := fun i j => by unfold CMulB; exact inferInstance
theorem CMulB.ok {i j : Int} (h : CMulB i j) : IntMulOk i j := by
  rcases h with h | ⟨a, b⟩
  · exact h.ok
  · exact .of_bits a b
theorem op_mulB : OpR X (binaryOp .Mult) (rI CMulB fun i j => .int (i * j)) := opI fun _ _ _ _ _ _ _ hc q => mul_int q hc.ok
theorem o_mulB : OpRd X (binaryOp .Mult) (iOp fun i j => if CMulB i j then some (.int (i * j)) else none) := opInt (fun _ _ => rfl) op_mulB
/-! ### divmod, max -/
theorem pair2 {K : PySem.W.Frag} {M : DH} {H : Hp} {a b : D} {xs : List V} (h : Paired (RepR K M H) [a, b] xs) : ∃ v w, xs = [v, w] ∧ RepR K M H a v ∧ RepR K M H b w := by
  cases h with
  | cons r t =>
    cases t with
    | cons r2 t2 => cases t2; exact ⟨_, _, rfl, r, r2⟩
def dmD : List D → Option D
  | [.int i, .int j] => if CDiv i j then some (.tup [.int (i / j), .int (i % j)]) else none
  | _ => none
theorem c_divmod : CallRd X (.builtin "divmod") dmD := CallRd.of call_divmod fun H M xs ds dz Q hr rp e q => by
  unfold dmD at e
  split at e
  · rename_i i j
    by_cases hc : CDiv i j
    · rw [if_pos hc] at e; cases e
      obtain ⟨v, w, rfl, r1, r2⟩ := pair2 rp
      rw [rInt r1, rInt r2]
      refine ⟨i, j, rfl, hc, fun p hp => ?_⟩
      exact freshT hr hp (RepL.cons (by simp [Rep]) (RepL.cons (by simp [Rep]) RepL.nil)) q
    · rw [if_neg hc] at e; cases e
  · cases e
def maxD : List D → Option D
  | [.int i, .int j] => some (.int (if j > i then j else i))
  | _ => none
/-! ### o[i], y = value -/
def dPutN (n : Nat) (to ti te : TEd) : TSd := fun E Δ M => te Δ M fun d M1 => ∃ d1 d2, d = .tup [d1, d2] ∧ to Δ M1 fun o M2 => ti Δ M2 fun i M3 => ∃ a ds k j, o = .ref a ∧ i = .int k ∧ M3 a = some (.lst ds) ∧ ixN ds.length k = some j ∧ E.nx (Δ.set n (some d2)) (updM M3 a (.lst (ds.set j d1)))
theorem d_putN {n : Nat} {x : Str} {o i e : Expr} {to ti te : TEd} {p px pt : Pos} {kx : Nat} (hc : X.calm = true) (hN : X.N.Nodup) (hn : X.N[n]? = some x) (hx : Loc X.env.scope x) (ho : PEd X o to) (hi : PEd X i ti) (he : PEd X e te)
    (hf : X.fn x = true ∨ X.env.scope.names.lookup x = some .local := by first | exact .inl rfl | exact .inr rfl | assumption)
    (ha : ∀ v, assign (.Subscript o i p) X.env v = (do
      let ov ← holding [v] (eval o X.env)
      let iv ← holding [v, ov] (eval i X.env)
      standAt p
      holding [v, ov, iv] (setItem ov iv v)
      release [v, ov, iv] []) := by intro _; rfl)
    (hs1 : (assignEach [.Subscript o i p, .Name x px] X.env).map (·.2) = assign (.Subscript o i p) X.env :: (assignEach [.Name x px] X.env).map (·.2) := by rfl)
    (hs2 : (assignEach [.Name x px] X.env).map (·.2) = assign (.Name x px) X.env :: (assignEach [] X.env).map (·.2) := by rfl)
    (hl2 : (assignEach [.Subscript o i p, .Name x px] X.env).length = 2 := by rfl) (hst : (assignEach [.Subscript o i p, .Name x px] X.env).findIdx? (·.1) = none := by rfl)
    (hs : swapsWithSole [.Tuple [.Subscript o i p, .Name x px] kx pt] e pos.line X.env = pure false := by rfl) (hw : swappedStores [.Tuple [.Subscript o i p, .Name x px] kx pt] e X.env = pure none := by rfl)
    (h1 : (assignEach [.Tuple [.Subscript o i p, .Name x px] kx pt] X.env).map (·.2) = [assign (.Tuple [.Subscript o i p, .Name x px] kx pt) X.env] := by rfl) : PSd X (.Assign [.Tuple [.Subscript o i p, .Name x px] kx pt] e pos) (dPutN n to ti te) :=
  (ps_asg he (pg_tup hc (pgs_cons (pg_sub ho hi set_list ha) (pgs_cons (pg_name hN hn hx hf) pgs_nil hs2) hs1) hl2 hst) hs hw h1).conv fun D σ H ⟨Δ, M, E, sr, hr, q, k⟩ => ⟨Δ, M, _, sr, hr, q, fun d M1 v H1 ⟨d1, d2, ed, q1⟩ e1 hr1 rv => by
    subst ed
    simp only [Rep] at rv
    obtain ⟨ad, vs, rfl, ta, rl⟩ := rv
    simp only [RepL] at rl
    obtain ⟨v1, r1, rfl, h3, v2, r2, rfl, h4, rfl⟩ := rl
    refine ⟨ad, [v1, v2], rfl, ta.sq, rfl, v1, [v2], rfl, Δ, M1, _, sr.ext e1, hr1, q1, fun o M2 ov H2 q2 e2 hr2 ro => ⟨Δ, M2, _, (sr.ext e1).ext e2, hr2, q2, fun i M3 iv H3 ⟨a, ds, kk, j, eo, ei, em, ej, q3⟩ e3 hr3 ri => by
    subst eo; subst ei
    simp only [Rep] at ro ri
    subst ro; subst ri
    obtain ⟨vs, hv, rl⟩ := hr3 a _ em
    refine ⟨a, vs, kk, j, rfl, rfl, hv, by rw [← rl.length]; exact ej, v2, [], rfl, rfl, ?_⟩
    exact k.nx _ _ _ _ q3 (((e1.trans e2).trans e3).trans (Ext.write em)) (hr3.write em (rl.set j ((h3.ext e2).ext e3))) (((((sr.ext e1).ext e2).ext e3).ext (Ext.write em)).set n (((h4.ext e2).ext e3).ext (Ext.write em)))⟩⟩⟩
theorem q_putN {n : Nat} {x : Str} {o i e : Expr} {to ti te : TEd} {p px pt : Pos} {kx : Nat} (hc : X.calm = true) (hN : X.N.Nodup) (hn : X.N[n]? = some x) (hx : Loc X.env.scope x) (ho : QEd X o to) (hi : QEd X i ti) (he : QEd X e te)
    (hf : X.fn x = true ∨ X.env.scope.names.lookup x = some .local := by first | exact .inl rfl | exact .inr rfl | assumption)
    (ha : ∀ v, assign (.Subscript o i p) X.env v = (do
      let ov ← holding [v] (eval o X.env)
      let iv ← holding [v, ov] (eval i X.env)
      standAt p
      holding [v, ov, iv] (setItem ov iv v)
      release [v, ov, iv] []) := by intro _; rfl)
    (hs1 : (assignEach [.Subscript o i p, .Name x px] X.env).map (·.2) = assign (.Subscript o i p) X.env :: (assignEach [.Name x px] X.env).map (·.2) := by rfl)
    (hs2 : (assignEach [.Name x px] X.env).map (·.2) = assign (.Name x px) X.env :: (assignEach [] X.env).map (·.2) := by rfl)
    (hl2 : (assignEach [.Subscript o i p, .Name x px] X.env).length = 2 := by rfl) (hst : (assignEach [.Subscript o i p, .Name x px] X.env).findIdx? (·.1) = none := by rfl)
    (hs : swapsWithSole [.Tuple [.Subscript o i p, .Name x px] kx pt] e pos.line X.env = pure false := by rfl) (hw : swappedStores [.Tuple [.Subscript o i p, .Name x px] kx pt] e X.env = pure none := by rfl)
    (h1 : (assignEach [.Tuple [.Subscript o i p, .Name x px] kx pt] X.env).map (·.2) = [assign (.Tuple [.Subscript o i p, .Name x px] kx pt) X.env] := by rfl) : QSd X (.Assign [.Tuple [.Subscript o i p, .Name x px] kx pt] e pos) (dPutN n to ti te) := by
  simp only [QEd.eq, QAd.eq, QTd.eq, QWd.eq, QSd.eq, QSs.eq, QId.eq, QIf.eq, QOd.eq] at *
  exact d_putN hc hN hn hx ho hi he hf ha hs1 hs2 hl2 hst hs hw h1
end
end L2

set_option Elab.async false
set_option linter.all false
set_option maxRecDepth 100000
namespace L2
open PySem PySem.Spec PyProof.Rows
open AutoSeq1 (wpAny_loadPart')
section
variable {prog : Program} {w : World} {A : Around} {E : Value → Shared → Prop} {s : Shared}
/-! ### enumerate(tuple) -/
theorem meets_enum_newT (l : Addr) (its : Array Value) (n : Nat) (dct : Option Addr) (sl : Array (Option Value)) :
    Meets (Builtin.«enumerate.__new__» ⟨[.type "enumerate", .ref l], []⟩) (fun _ R s => s.heap.get? l = some { cls := .type "tuple", dict := dct, data := .seq its n, slots := sl } ∧
      R (.ok (.ret (.ref (s.heap.push { cls := .type "tuple_iterator", data := .fields #[.ref l, .int 0 0] }).objs.size)))
        { s with heap := (s.heap.push { cls := .type "tuple_iterator", data := .fields #[.ref l, .int 0 0] }).push { cls := .type "enumerate", data := .fields #[.none, .bool false, .ref s.heap.objs.size, rawInt 0, .none, .none] } }) :=
  .of_wp fun prog w A R s h => by
    obtain ⟨hp, g, d, tk, os⟩ := s
    have hl := h.1
    have hR := h.2
    have hsb := sub_enumerate
    have hT : Heap.IsTuple (Shared.heap ⟨hp, g, d, tk, os⟩) l its := ⟨_, hl, rfl, n, rfl⟩
    wp_walk using wpAny_loadPart' hl
    refine wpAny_stack_any fun st => wpAny_pure ?_
    split
    · rename_i c _ _ _ _ _
      cases (c == Value.type "enumerate") <;> (wp_walk using wpAny_loadPart' hl, wpAny_pyIter_tuple hT; exact ⟨_, rfl, hR⟩)
    · wp_walk using wpAny_loadPart' hl, wpAny_pyIter_tuple hT
      exact ⟨_, rfl, hR⟩
theorem call_enum_tuple {l : Addr} {its : Array Value} {Q : Value → Shared → Prop} (hL : s.heap.IsTuple l its)
    (h : ∀ h', IsEnum h' (s.heap.objs.size + 1) s.heap.objs.size 0 .none → h'.IsTupleIter s.heap.objs.size l 0 → h'.objs.size = s.heap.objs.size + 2 →
      (∀ b o, s.heap.get? b = some o → h'.get? b = some o) → Q (.ref (s.heap.objs.size + 1)) { s with heap := h' }) :
    wpAny (model prog w) A (call (.type "enumerate") [.ref l]) Q E s := by
  obtain ⟨⟨c, dct, dt, sl⟩, hl, hc, n, hd⟩ := hL
  obtain rfl : c = .type "tuple" := hc
  obtain rfl : dt = .seq its n := hd
  refine callType_new F.called_enumerate (by decide) (F.typeCall_enumerate_1 _) (F.newCall_enumerate_1 _) (fun ob => F.args_object_init_2 ob _) F.entry_enumerate_new (meets_enum_newT l its n dct sl) ⟨hl, ?_⟩
  have hz : (s.heap.push { cls := .type "tuple_iterator", data := .fields #[.ref l, .int 0 0] }).objs.size = s.heap.objs.size + 1 := Heap.size_push ..
  show _ ∧ _
  rw [hz]
  have he : IsEnum ((s.heap.push { cls := .type "tuple_iterator", data := .fields #[.ref l, .int 0 0] }).push { cls := .type "enumerate", data := .fields #[.none, .bool false, .ref s.heap.objs.size, rawInt 0, .none, .none] }) (s.heap.objs.size + 1) s.heap.objs.size 0 .none := by
    have q := Heap.get?_push_size (s.heap.push { cls := .type "tuple_iterator", data := .fields #[.ref l, .int 0 0] }) (o := { cls := .type "enumerate", data := .fields #[.none, .bool false, .ref s.heap.objs.size, rawInt 0, .none, .none] }) rfl
    rwa [hz] at q
  exact ⟨⟨_, he, rfl⟩, h _ he ⟨_, Heap.get?_push_of_some _ (Heap.get?_push_size _ rfl), rfl, rfl⟩ (by rw [Heap.size_push, hz]) fun b o x => Heap.get?_push_of_some _ (Heap.get?_push_of_some _ x)⟩
theorem nextOf_tup_item {it t : Addr} {i : Nat} {its} {x : Value} {Q : Value → Shared → Prop} (hit : s.heap.IsTupleIter it t i) (ht : s.heap.IsTuple t its) (hx : its[i]? = some x)
    (hQ : ∀ h', h'.IsTupleIter it t (i + 1) → Heap.SameBut it s.heap h' → Q x { s with heap := h' }) : wpAny (model prog w) A (Builtin.SmallTypes.nextOf (.ref it)) Q E s := by
  obtain ⟨o, ho, hc, hd⟩ := id hit
  obtain ⟨ol, hol, _, nl, hdl⟩ := ht
  unfold Builtin.SmallTypes.nextOf
  refine wpAny_bind (wpAny_callSpecial?_slot (name := Str.ofString "__next__") hit.typeIs F.slot_tuple_iterator_next (wpAny_call_entry F.slot_tuple_iterator_next hit.typeIs F.entry_tuple_iterator_next ?_ (F.args_tuple_iterator_next_1 _)))
  show wpAny _ _ (field (.ref it) 0 >>= _) _ _ s
  refine wpAny_bind (wpAny_field ho hd (x := .ref t) rfl ?_)
  show wpAny _ _ (if (Value.ref t == Value.none) = true then _ else _) _ _ s
  rw [if_neg (show ¬ ((Value.ref t == Value.none) = true) from Bool.false_ne_true)]
  show wpAny _ _ (field (.ref it) 1 >>= _) _ _ s
  refine wpAny_bind (wpAny_field ho hd (x := .int i 0) rfl ?_)
  show wpAny _ _ (seqItems? (.ref t) >>= _) _ _ s
  refine wpAny_bind (wpAny_seqItems hol hdl ?_)
  simp only [Int.toNat_natCast, hx]
  refine wpAny_bind (wpAny_setField ho hd (by simp) (wpAny_pure ⟨x, rfl, wpAny_pure (hQ _ ?_ (Heap.SameBut.update ..))⟩))
  exact ⟨_, Heap.get?_update_self _ ho (Obj.isFreed_of_fields (Obj.data_mapFields hd _)), (Obj.cls_mapFields ..).trans hc, by rw [Obj.data_mapFields hd]; simp [rawInt]⟩
theorem nextOf_tup_end {it t : Addr} {i : Nat} {its} {Q : Value → Shared → Prop} (hh : A.handled = none) (hit : s.heap.IsTupleIter it t i) (ht : s.heap.IsTuple t its) (hx : its[i]? = none)
    (hE : ∀ h' e, Heap.ExtBut it s.heap h' → (∃ o, h'.get? e = some o ∧ o.cls = .type "StopIteration") → E (.ref e) { s with heap := h' }) : wpAny (model prog w) A (Builtin.SmallTypes.nextOf (.ref it)) Q E s := by
  obtain ⟨o, ho, hc, hd⟩ := id hit
  obtain ⟨ol, hol, _, nl, hdl⟩ := ht
  unfold Builtin.SmallTypes.nextOf
  refine wpAny_bind (wpAny_callSpecial?_slot (name := Str.ofString "__next__") hit.typeIs F.slot_tuple_iterator_next (wpAny_call_entry F.slot_tuple_iterator_next hit.typeIs F.entry_tuple_iterator_next ?_ (F.args_tuple_iterator_next_1 _)))
  show wpAny _ _ (field (.ref it) 0 >>= _) _ _ s
  refine wpAny_bind (wpAny_field ho hd (x := .ref t) rfl ?_)
  show wpAny _ _ (if (Value.ref t == Value.none) = true then _ else _) _ _ s
  rw [if_neg (show ¬ ((Value.ref t == Value.none) = true) from Bool.false_ne_true)]
  show wpAny _ _ (field (.ref it) 1 >>= _) _ _ s
  refine wpAny_bind (wpAny_field ho hd (x := .int i 0) rfl ?_)
  show wpAny _ _ (seqItems? (.ref t) >>= _) _ _ s
  refine wpAny_bind (wpAny_seqItems hol hdl ?_)
  simp only [Int.toNat_natCast, hx]
  refine wpAny_bind (wpAny_rule (wpAny_bind (wpAny_setField ho hd (by simp) ?_)))
  show wpAny _ _ (newExc (.type "StopIteration") [] >>= _) _ _ _
  refine wpAny_bind ?_
  simp only [newExc, newTuple]
  refine wpAny_bind (wpAny_newObj_type ?_ (by size_fits))
  refine wpAny_bind (m := firstArgMember _ _) (wpAny_of_eq (a := Value.none) (by first | rfl | (simp only [firstArgMember]; rfl)) ?_)
  refine wpAny_newObj_type ?_ (by size_fits)
  simp only [raiseNew]
  refine wpAny_bind (wpAny_handled ?_)
  first | rw [show A.in1.handled = none from hh] | rw [hh]
  refine wpAny_bind (wpAny_pure (wpAny_throw ?_))
  exact hE _ _ (((Heap.SameBut.update ..).extBut.push _).push _) ⟨_, Heap.get?_push_size _ rfl, rfl⟩
theorem draws_tup {prog : Program} {w : World} {A : Around} (hh : A.handled = none) (it l : Addr) (hne : l ≠ it) (its : Array Value) :
    Draws prog w A it [it, l] its.size (fun i v => its[i]? = some v) (fun i h => h.IsTupleIter it l i ∧ h.IsTuple l its) where
  live := fun _ _ st => let ⟨o, ho, _⟩ := st.1; ⟨o, ho⟩
  frame := fun _ _ _ st hk => ⟨let ⟨o, ho, r⟩ := st.1; ⟨o, hk it (by simp) o ho, r⟩, let ⟨o, ho, r⟩ := st.2; ⟨o, hk l (by simp) o ho, r⟩⟩
  item := fun i s Q E hi st hQ => nextOf_tup_item st.1 st.2 (x := its[i]) (by simp [hi]) fun h' hit' hs' => hQ _ h' s.toks (by simp [hi]) ⟨hit', st.2.extBut hs'.extBut hne⟩ hs'
  done := fun s Q E st hE => nextOf_tup_end hh st.1 st.2 (by simp) hE
end
section
variable {X : Cx} {pins : List (Addr × Obj)} {σ : St} {H : Hp} {s : Shared} {h' : Heap}
theorem Inv.turned2 {t' : Nat} {e it : Addr} (I : Inv X pins σ H s) (k : ∀ b o, b ≠ e → b ≠ it → s.heap.get? b = some o → h'.get? b = some o) (f1 : FpOk X pins H e) (f2 : FpOk X pins H it) : Inv X pins σ H { s with heap := h', toks := t' } := by
  obtain ⟨a0, a1, a2, a3, a4, a5⟩ := f1
  obtain ⟨b0, b1, b2, b3, b4, b5⟩ := f2
  have nit : ∀ b u, H b = some u → b ≠ e ∧ b ≠ it := fun b u q => ⟨fun z => (by rw [z, a0] at q; cases q), fun z => (by rw [z, b0] at q; cases q)⟩
  have kk : ∀ b o, b ∉ [e, it] → s.heap.get? b = some o → h'.get? b = some o := fun b o hc q => k b o (fun z => hc (by simp [z])) (fun z => hc (by simp [z])) q
  refine I.step (g' := s.gens) (d' := s.drawn) (ch := [e, it]) (fun b hb => ?_) (fun b o _ _ hc q _ => kk b o hc q) (fun b o _ _ hc q _ => ⟨o.slots, kk b o hc q⟩) (fun _ _ _ _ n => n)
    (fun b o hc q => ⟨o, kk b o hc q⟩) (fun _ _ q => q) (fun _ _ _ q => q) (fun b ps q => ⟨#[], by rw [q]; simp⟩) (fun m hm => ?_) (fun b u q => ?_) I.bare
  · rcases List.mem_cons.mp hb with z | z
    · subst z; exact ⟨a3, a1, a4, a5⟩
    · have z := List.mem_singleton.mp z
      subst z; exact ⟨b3, b1, b4, b5⟩
  · obtain ⟨o, es, ep, ho, r⟩ := hm
    exact ⟨o, es, ep, k _ o (Ne.symm a1) (Ne.symm b1) ho, r⟩
  · refine (I.hok b u q).stay (fun c v hc q' => ?_) (fun _ q => q) fun _ _ q => q
    rcases hc with z | z
    · rw [z] at q' ⊢; exact k _ _ (nit b u q).1 (nit b u q).2 q'
    · exact k c v (nit c _ z).1 (nit c _ z).2 q'
end
def Ite (K : PySem.W.Frag) (a : Addr) (n : Nat) : It :=
  ⟨fun i H => (∃ xs, SqT K H a xs ∧ xs.length = n) ∧ i < n, fun i H x H' => ∃ T y, x = .ref T ∧ H T = none ∧ H' = upd H T (.tup [.int i, y]) ∧ ∀ xs, SqT K H a xs → xs[i]? = some y, fun i H => (∃ xs, SqT K H a xs ∧ xs.length = n) ∧ n ≤ i⟩
end L2

set_option Elab.async false
set_option linter.all false
set_option maxRecDepth 100000
namespace L2
open PySem PySem.Spec PyProof.Rows
theorem FpOk.upd {X : Cx} {pins : List (Addr × Obj)} {H : Hp} {b T : Addr} {o : HO} (f : FpOk X pins H b) (h : b ≠ T) : FpOk X pins (upd H T o) b := by
  obtain ⟨f0, r⟩ := f
  exact ⟨by rw [upd_ne h]; exact f0, r⟩
theorem turn_enum {P : Program} {w : World} {K : PySem.W.Frag} {elts : List Expr} {x1 : Nat} {pt : Pos} (a e it : Addr) (n : Nat) : Turn P w K (.Tuple elts x1 pt) (Ite K a n) [e, it] e (fun i h => (∃ old, IsEnum h e it i old) ∧ h.IsTupleIter it a i ∧ e ≠ it ∧ i ≤ n) where
  mem := by simp
  obj := fun i h st b hb => by
    rcases List.mem_cons.mp hb with z | z
    · subst z
      obtain ⟨⟨old, q⟩, _⟩ := st
      exact ⟨_, q, fun v z => by cases z⟩
    · have z := List.mem_singleton.mp z
      subst z
      obtain ⟨_, ⟨o, q, c, d⟩, _⟩ := st
      exact ⟨o, q, fun v z => by rw [d] at z; cases z⟩
  keep := fun i h h' st k => by
    obtain ⟨⟨old, q⟩, ⟨o, q2, r⟩, ne, le⟩ := st
    exact ⟨⟨old, k e (by simp) _ q⟩, ⟨o, k it (by simp) o q2, r⟩, ne, le⟩
  item := by
    intro X hP hw hK hc i pins s σ H E I hf st hg
    subst hP hw hK
    obtain ⟨⟨xs, hq, hxl⟩, hin⟩ := hg
    have hx : xs[i]? = some (xs[i]'(by omega)) := by simp [hxl, hin]
    generalize xs[i]'(by omega) = x at hx
    obtain ⟨⟨old, he⟩, hit, hne, hle⟩ := st
    obtain ⟨its, rv, p, hz⟩ := I.tuple hq
    obtain ⟨u, hu, ru⟩ := rv.get hx
    have hT : s.heap.IsTuple a its.toArray := p
    have hal : a ≠ it := fun z => by
      obtain ⟨o, q, c, _⟩ := hT
      obtain ⟨o', q', c', _⟩ := hit
      rw [z, q'] at q; cases q; rw [c'] at c; exact absurd c (by decide)
    have hea : e ≠ a := fun z => by
      obtain ⟨o, q, c, _⟩ := hT
      rw [← z, he] at q; cases q; exact absurd (show Value.type "enumerate" = Value.type "tuple" from c) (by decide)
    have fe := hf e (by simp)
    have fi := hf it (by simp)
    have hlt : i < its.toArray.size := by
      have h1 := (List.getElem?_eq_some_iff.mp hu).1
      simpa using h1
    have eT : e < s.heap.objs.size := Heap.lt_size he
    have iT : it < s.heap.objs.size := by obtain ⟨o, q, _⟩ := hit; exact Heap.lt_size q
    refine wpAny_pyNext_enum_itemD (draws_tup (A := X.A.in1) (I.ok.hd hc) it a hal its.toArray) he ⟨hit, hT⟩ hlt hne (by simp [hne, hea]) fun y h1 tk hy hout hst hTn hsz hk => ?_
    have ey : y = u := by
      have h2 : its[i]? = some y := by simpa using hy
      rw [hu] at h2; cases h2; rfl
    subst ey
    refine ⟨_, rfl, ?_⟩
    have In : H s.heap.objs.size = none := I.hok.fresh (Nat.le_refl _)
    have I1 : Inv X pins σ (upd H s.heap.objs.size (.tup [.int i, x])) { s with heap := s.heap.push { cls := .type "tuple", data := .seq #[.int i tk, y] }, toks := tk + 1 } :=
      I.laid (fun b o q => Heap.get?_push_of_some _ q) (Nat.le_refl _) ⟨by simp only [List.length_cons, List.length_nil]; rw [sizeLine_eq]; decide, [.int i tk, y], .cons ⟨_, rfl⟩ (.cons ru .nil), ⟨_, Heap.get?_push_size s.heap rfl, rfl, 0, rfl⟩⟩
    have fe1 : FpOk X pins (upd H s.heap.objs.size (.tup [.int i, x])) e := fe.upd (Nat.ne_of_lt eT)
    have fi1 : FpOk X pins (upd H s.heap.objs.size (.tup [.int i, x])) it := fi.upd (Nat.ne_of_lt iT)
    have I2 : Inv X pins σ (upd H s.heap.objs.size (.tup [.int i, x])) { s with heap := h1, toks := tk + 1 } := I1.turned2 (t' := tk + 1) (fun b o hb1 hb2 q => by
      by_cases hbs : b = s.heap.objs.size
      · subst hbs
        rw [Heap.get?_push_size s.heap rfl] at q
        cases q
        exact hTn
      · refine hk b o hb1 hb2 ?_
        rcases Heap.get?_push_cases q with z | z
        · exact absurd z.1 hbs
        · exact z) fe1 fi1
    refine wpAny_letOwnedTupleGo_enum hout fun h2 he2 hs2 => ?_
    obtain ⟨g0, g1, g2, g3, g4, g5⟩ := fe1
    have I3 := I2.turned (t' := tk + 1) (h' := h2) (it := e) (fun b o hb q => (hs2.2 b hb).trans q) g0 g1 g3 g4 g5
    refine ⟨.ref s.heap.objs.size, _, I3, rfl, ⟨_, x, rfl, In, rfl, fun ys hys => by rw [I.tuple_inj hys hq]; exact hx⟩, ⟨⟨y, by simpa using he2⟩, ?_, hne, hin⟩, fun b hb => ?_⟩
    · obtain ⟨o, q, r⟩ := hst.1
      exact ⟨o, (hs2.2 it (Ne.symm hne)).trans q, r⟩
    · rcases List.mem_cons.mp hb with z | z
      · subst z; exact g0
      · rw [List.mem_singleton.mp z]; exact fi1.1
  done := by
    intro X hP hw hK hc i pins s σ H E I hf st hg
    subst hP hw hK
    obtain ⟨⟨xs, hq, hxl⟩, hx⟩ := hg
    obtain ⟨⟨old, he⟩, hit, hne, hle⟩ := st
    obtain ⟨its, rv, p, hz⟩ := I.tuple hq
    have hT : s.heap.IsTuple a its.toArray := p
    have hal : a ≠ it := fun z => by
      obtain ⟨o, q, c, _⟩ := hT
      obtain ⟨o', q', c', _⟩ := hit
      rw [z, q'] at q; cases q; rw [c'] at c; exact absurd c (by decide)
    obtain ⟨f0, f1, f2, f3, f4, f5⟩ := hf it (by simp)
    have hl := rv.length
    have hi : i = its.toArray.size := by simp; omega
    rw [hi] at hit
    exact wpAny_pyNext_enum_endD (draws_tup (A := X.A.in1) (I.ok.hd hc) it a hal its.toArray) he ⟨hit, hT⟩ fun h' eb => ⟨rfl, I.turned (t' := s.toks) (fun b o hb q => eb b o hb q) f0 f1 f3 f4 f5⟩
  self := fun _ _ _ _ _ st h => by
    obtain ⟨⟨old, he⟩, _⟩ := st
    exact wpAny_pyIter_enum he h
section
variable {X : Cx} {a : Expr} {t : TAd} {pos : Pos}
def numD (n : Nat) : List D → List D
  | [] => []
  | d :: r => .tup [.int n, d] :: numD (n + 1) r
theorem numD_get : ∀ (ds : List D) (n i : Nat), (numD n ds)[i]? = (ds[i]?).map fun d => .tup [.int ((n + i : Nat) : Int), d]
  | [], n, i => by simp [numD]
  | d :: r, n, 0 => by simp [numD]
  | d :: r, n, i + 1 => by
    simp only [numD, List.getElem?_cons_succ]
    rw [numD_get r (n + 1) i]
    have : n + 1 + i = n + (i + 1) := by omega
    rw [this]
theorem numD_len : ∀ (ds : List D) (n : Nat), (numD n ds).length = ds.length
  | [], _ => rfl
  | d :: r, n => by simp [numD, numD_len r (n + 1)]
def diEnum (ta : TAd) : TId := fun Δ M R => ta Δ M fun ds M1 => ∃ es, ds = [.tup es] ∧ (es.length ≤ sizeLine → R (numD 0 es) M1)
theorem boot_enumerate : bootBuiltins "enumerate" = some (.type "enumerate") := by kernel_rfl
theorem i_enum {elts : List Expr} {x1 : Nat} {pt p : Pos} (hg : Gl X "enumerate") (hm : X.mg "enumerate" = none) (ha : PAd X [a] t) (hs : starEach [a] X.env = [(false, eval a X.env)] := by rfl) : PId X (.Tuple elts x1 pt) (.Call (.Name "enumerate" p) [a] [] pos) (diEnum t) := by
  intro pins s σ H R I hh
  obtain ⟨Δ, M, R', sr, hr, q, k⟩ := hh
  refine Call_ (ld_blt I hg hm boot_enumerate (PyProof.Rows.callWith_type1 (thn (ha pos pins s σ H (fun vs H1 => ∃ es M1, RepL X.K M1 H1 [.tup es] vs ∧ (es.length ≤ sizeLine → R' (numD 0 es) M1) ∧ Ext M H M1 H1 ∧ HR X.K M1 H1) I ⟨Δ, M, _, sr, hr, q, fun ds M1 vs H1 ⟨es, ed, q1⟩ e1 hr1 rv => ⟨es, M1, by rw [← ed]; exact rv, q1, e1, hr1⟩⟩) fun us s1 ⟨vs, H1, I1, r1, es, M1, rv, q1, e1, hr1⟩ => ?_) hs rfl))
  obtain ⟨v, rfl, rt⟩ := rv.one
  cases r1 with
  | cons r rr =>
    cases rr
    have lo := RepR.len (K := X.K) I1 rt
    simp only [Rep] at rt
    obtain ⟨ad, vs, rfl, ta, rl⟩ := rt
    cases r
    obtain ⟨its, rvv, pt', hz⟩ := I1.tuple ta.sq
    have hl2 := rl.length
    refine call_enum_tuple (show s1.heap.IsTuple ad its.toArray from pt') fun h' he hit hsz hk => ?_
    refine wpAny_pyIter_enum he ?_
    refine ⟨s1.heap.objs.size + 1, [s1.heap.objs.size + 1, s1.heap.objs.size], _, _, H1, rfl, I1.kept (t' := s1.toks) hk, turn_enum ad _ _ es.length, ⟨⟨_, he⟩, hit, Nat.succ_ne_self _, Nat.zero_le _⟩, fun b hb => ?_, ?_⟩
    · rcases List.mem_cons.mp hb with z | z
      · subst z; exact I1.fpOk (by omega) (I1.hok.fresh (by omega))
      · rw [List.mem_singleton.mp z]; exact I1.fpOk (Nat.le_refl _) (I1.hok.fresh (Nat.le_refl _))
    · refine k _ M1 _ H1 (q1 lo) e1 hr1 fun M2 H2 e2 hr2 i => ⟨fun d hd => ?_, fun hl => ⟨⟨vs, (ta.ext e2).sq, by omega⟩, by rw [numD_len] at hl; exact hl⟩⟩
      rw [numD_get] at hd
      cases hdi : es[i]? with
      | none => rw [hdi] at hd; cases hd
      | some d0 =>
        rw [hdi] at hd
        have hd' : D.tup [.int ((0 + i : Nat) : Int), d0] = d := by simpa using hd
        subst hd'
        have hi : i < es.length := (List.getElem?_eq_some_iff.mp hdi).1
        obtain ⟨v0, gv, r0⟩ := rl.get hdi
        refine ⟨⟨⟨vs, (ta.ext e2).sq, by omega⟩, hi⟩, fun x H' ⟨T, y, ex, hT, eH, hy⟩ => ?_⟩
        subst ex; subst eH
        have hh := hy vs (ta.ext e2).sq
        rw [gv] at hh; cases hh
        refine ⟨Ext.new hr2 hT, hr2.new hT, ?_⟩
        simp only [Rep]
        refine ⟨T, [.int i, v0], rfl, .inl ⟨.inl upd_same, hr2.fresh hT⟩, ?_⟩
        exact RepL.cons (by simp [Rep]) (RepL.cons ((r0.ext e2).ext (Ext.new hr2 hT)) RepL.nil)
theorem qi_enum {elts : List Expr} {x1 : Nat} {pt p : Pos} (hg : Gl X "enumerate") (hm : X.mg "enumerate" = none) (ha : QAd X [a] t) (hs : starEach [a] X.env = [(false, eval a X.env)] := by rfl) : QId X (.Tuple elts x1 pt) (.Call (.Name "enumerate" p) [a] [] pos) (diEnum t) := by
  simp only [QEd.eq, QAd.eq, QTd.eq, QWd.eq, QSd.eq, QSs.eq, QId.eq, QIf.eq, QOd.eq] at *
  exact i_enum hg hm ha hs
end
end L2

set_option Elab.async false
set_option linter.all false
set_option maxRecDepth 100000
namespace L2
open PySem PySem.Spec PyProof.Rows
section
variable {X : Cx} {pos : Pos}
/-! ### xs[lo:hi] = ys -/
def gSubS (to : TE) (tl th : TO) : TG := fun v σ H Q => to σ H fun o H1 => tl σ H1 fun l H2 => th σ H2 fun u H3 => ∃ la b xs ys a c, o = .ref la ∧ v = .ref b ∧ l = some a ∧ u = some c ∧ H3 la = some (.lst xs) ∧ H3 b = some (.lst ys) ∧ la ≠ b ∧ 0 ≤ a ∧ a ≤ c ∧ c ≤ xs.length ∧ xs.length + ys.length ≤ sizeLine ∧ Q σ (upd H3 la (.lst (xs.take a.toNat ++ ys ++ xs.drop c.toNat)))
theorem pg_subS {o lo hi : Expr} {to : TE} {tl th : TO} {p2 : Pos} (ho : PE X o to) (hl : PO X (some lo) tl) (hu : PO X (some hi) th)
    (ha : ∀ v, assign (.Subscript o (.Slice (some lo) (some hi) none p2) pos) X.env v = (do
      let ov ← holding [v] (eval o X.env)
      let iv ← holding [v, ov] (eval (.Slice (some lo) (some hi) none p2) X.env)
      standAt pos
      holding [v, ov, iv] (setItem ov iv v)
      release [iv, v, ov] []) := by intro _; rfl) : PG X (.Subscript o (.Slice (some lo) (some hi) none p2) pos) (gSubS to tl th) := by
  intro pins s σ H v u Q I r h
  rw [ha]
  refine wpAny_bind (wpAny_holding (thn (ho pins s σ H _ I h) fun ov s1 ⟨x, H1, I1, r1, q1⟩ => ?_))
  refine wpAny_bind (wpAny_holding (wpAny_Slice (thn (hl pins s1 σ H1 _ I1 q1) fun vl s2 ⟨l, H2, I2, pl, q2⟩ => thn (hu pins s2 σ H2 _ I2 q2) fun vu s3 ⟨c, H3, I3, pu, q3⟩ => ?_)))
  rw [evalPart_none]
  refine wpAny_pure ?_
  have I4 : Inv X pins σ H3 { s3 with heap := s3.heap.push { cls := .type "slice", data := .fields #[vl, vu, .none] } } := I3.kept (t' := s3.toks) fun b ob q => Heap.get?_push_of_some _ q
  obtain ⟨la, b, xs, ys, i, j, e1, e2, e3, e4, h1, h2, hne, h3, h4, h5, h6, q⟩ := q3
  subst e1; subst e2; subst e3; subst e4
  cases r1
  cases r
  have ra : RelV (.int i) vl := by cases pl; exact ⟨_, rfl⟩
  have rc : RelV (.int j) vu := by cases pu; exact ⟨_, rfl⟩
  exact wpAny_bind (wpAny_standAt (wpAny_bind (wpAny_holding (set_slice I4 h1 h2 hne (Heap.IsSliceOf.new ..) ra rc h3 h4 h5 h6 fun s' I5 => wpAny_release ⟨σ, _, I5, q⟩))))
def dPutS (to te : TEd) (tl th : TOd) : TSd := fun E Δ M => te Δ M fun d M1 => to Δ M1 fun o M2 => tl Δ M2 fun l M3 => th Δ M3 fun u M4 => ∃ a ds ys i j, o = .ref a ∧ d = .lst ys ∧ l = some i ∧ u = some j ∧ M4 a = some (.lst ds) ∧ 0 ≤ i ∧ i ≤ j ∧ j ≤ ds.length ∧ ds.length + ys.length ≤ sizeLine ∧ E.nx Δ (updM M4 a (.lst (ds.take i.toNat ++ ys ++ ds.drop j.toNat)))
theorem d_putS {o lo hi e : Expr} {to te : TEd} {tl th : TOd} {p p2 : Pos} (ho : PEd X o to) (hl : POd X (some lo) tl) (hu : POd X (some hi) th) (he : PEd X e te)
    (ha : ∀ v, assign (.Subscript o (.Slice (some lo) (some hi) none p2) p) X.env v = (do
      let ov ← holding [v] (eval o X.env)
      let iv ← holding [v, ov] (eval (.Slice (some lo) (some hi) none p2) X.env)
      standAt p
      holding [v, ov, iv] (setItem ov iv v)
      release [iv, v, ov] []) := by intro _; rfl) (hs : swapsWithSole [.Subscript o (.Slice (some lo) (some hi) none p2) p] e pos.line X.env = pure false := by rfl) (hw : swappedStores [.Subscript o (.Slice (some lo) (some hi) none p2) p] e X.env = pure none := by rfl)
    (h1 : (assignEach [.Subscript o (.Slice (some lo) (some hi) none p2) p] X.env).map (·.2) = [assign (.Subscript o (.Slice (some lo) (some hi) none p2) p) X.env] := by rfl) : PSd X (.Assign [.Subscript o (.Slice (some lo) (some hi) none p2) p] e pos) (dPutS to te tl th) :=
  (ps_asg he (pg_subS ho hl hu ha) hs hw h1).conv fun D σ H ⟨Δ, M, E, sr, hr, q, k⟩ => ⟨Δ, M, _, sr, hr, q, fun d M1 v H1 q1 e1 hr1 rv => ⟨Δ, M1, _, sr.ext e1, hr1, q1, fun o M2 ov H2 q2 e2 hr2 ro => ⟨Δ, M2, _, (sr.ext e1).ext e2, hr2, q2, fun l M3 H3 q3 e3 hr3 => ⟨Δ, M3, _, ((sr.ext e1).ext e2).ext e3, hr3, q3, fun u M4 H4 ⟨a, ds, ys, i, j, eo, ed, el, eu, em, b1, b2, b3, b4, q4⟩ e4 hr4 => by
    subst eo; subst ed; subst el; subst eu
    have rv4 := (((rv.ext e2).ext e3).ext e4)
    simp only [Rep] at ro rv4
    subst ro
    obtain ⟨b, ws, rfl, tb, rw4⟩ := rv4
    obtain ⟨vs, hv, rl⟩ := hr4 a _ em
    have hne : a ≠ b := fun z => by
      have h := tb.2
      rw [← z, em] at h; cases h
    refine ⟨a, b, vs, ws, i, j, rfl, rfl, rfl, rfl, hv, tb.1, hne, b1, b2, by rw [← rl.length]; exact b3, by rw [← rl.length, ← rw4.length]; exact b4, ?_⟩
    exact k.nx Δ _ σ _ q4 ((((e1.trans e2).trans e3).trans e4).trans (Ext.write em)) (hr4.write em (((rl.take _).append rw4).append (rl.drop _))) (((((sr.ext e1).ext e2).ext e3).ext e4).ext (Ext.write em))⟩⟩⟩⟩
theorem q_putS {o lo hi e : Expr} {to te : TEd} {tl th : TOd} {p p2 : Pos} (ho : QEd X o to) (hl : QOd X (some lo) tl) (hu : QOd X (some hi) th) (he : QEd X e te)
    (ha : ∀ v, assign (.Subscript o (.Slice (some lo) (some hi) none p2) p) X.env v = (do
      let ov ← holding [v] (eval o X.env)
      let iv ← holding [v, ov] (eval (.Slice (some lo) (some hi) none p2) X.env)
      standAt p
      holding [v, ov, iv] (setItem ov iv v)
      release [iv, v, ov] []) := by intro _; rfl) (hs : swapsWithSole [.Subscript o (.Slice (some lo) (some hi) none p2) p] e pos.line X.env = pure false := by rfl) (hw : swappedStores [.Subscript o (.Slice (some lo) (some hi) none p2) p] e X.env = pure none := by rfl)
    (h1 : (assignEach [.Subscript o (.Slice (some lo) (some hi) none p2) p] X.env).map (·.2) = [assign (.Subscript o (.Slice (some lo) (some hi) none p2) p) X.env] := by rfl) : QSd X (.Assign [.Subscript o (.Slice (some lo) (some hi) none p2) p] e pos) (dPutS to te tl th) := by
  simp only [QEd.eq, QAd.eq, QTd.eq, QWd.eq, QSd.eq, QSs.eq, QId.eq, QIf.eq, QOd.eq] at *
  exact d_putS ho hl hu he ha hs hw h1
/-! ### list(tuple) as a list of our own -/
def dListO (t : TAd) : TEd := fun Δ M Q => t Δ M fun ds M1 => ∃ es, ds = [.tup es] ∧ ∀ p, M1 p = none → Q (.ref p) (updM M1 p (.lst es))
theorem d_listO {e : Expr} {t : TAd} {p : Pos} (hg : Gl X "list") (hm : X.mg "list" = none) (hv : bootBuiltins "list" = some (.type "list")) (ha : PAd X [e] t)
    (he : starEach [e] X.env = (false, eval e X.env) :: starEach [] X.env := by rfl) (hpl : (backTo pos (starEach [] X.env)).any (·.1) = false := by rfl) : PEd X (.Call (.Name "list" p) [e] [] pos) (dListO t) :=
  (pe_callTy call_list_of hg hm hv ha (by decide) (by decide) he hpl).conv fun σ H Q ⟨Δ, M, R, sr, hr, q, k⟩ => ⟨Δ, M, _, sr, hr, q, fun ds M1 vs H1 ⟨es, ed, q1⟩ e1 hr1 rv => by
    subst ed
    obtain ⟨v, rfl, rt⟩ := rv.one
    simp only [Rep] at rt
    obtain ⟨a, ws, rfl, ta, rl⟩ := rt
    exact ⟨a, ws, rfl, .inr ta.sq, fun l hl => k _ _ _ _ (q1 l (hr1.fresh hl)) (e1.trans (Ext.own hl)) (hr1.own hl rl) (by simp only [Rep])⟩⟩
theorem q_listO {e : Expr} {t : TAd} {p : Pos} (hg : Gl X "list") (hm : X.mg "list" = none) (hv : bootBuiltins "list" = some (.type "list")) (ha : QAd X [e] t)
    (he : starEach [e] X.env = (false, eval e X.env) :: starEach [] X.env := by rfl) (hpl : (backTo pos (starEach [] X.env)).any (·.1) = false := by rfl) : QEd X (.Call (.Name "list" p) [e] [] pos) (dListO t) := by
  simp only [QEd.eq, QAd.eq, QTd.eq, QWd.eq, QSd.eq, QSs.eq, QId.eq, QIf.eq, QOd.eq] at *
  exact d_listO hg hm hv ha he hpl
theorem dmD_ii {i j : Int} : dmD [.int i, .int j] = if CDiv i j then some (.tup [.int (i / j), .int (i % j)]) else none := rfl
theorem maxD_ii {i j : Int} : maxD [.int i, .int j] = some (.int (if j > i then j else i)) := rfl
theorem cpow1060 : CPow 10 60 = True := by simp [CPow]
theorem few_60 {x : Int} (h0 : -(10 ^ 60) < x) (h1 : x < 10 ^ 60) : Few x := by
  unfold Few
  rw [intBits_le_iff]
  have h2 : x.natAbs < 10 ^ 60 := by omega
  exact Nat.lt_of_lt_of_le h2 (Nat.le_trans (by decide : 10 ^ 60 ≤ 2 ^ 200) (Nat.pow_le_pow_right (by decide) (by decide)))
theorem cmulF {i j : Int} (h : Few i ∧ Few j) : CMulB i j = True := by simp [CMulB, h]
end
end L2

set_option Elab.async false
set_option linter.all false
set_option maxRecDepth 100000
namespace L2
open PySem PySem.Spec PyProof.Rows
section
variable {X : Cx} {e : Expr} {te ts : TEd} {pos : Pos}
/-! ### xs[::-1] of a list -/
end
end L2

set_option Elab.async false
set_option linter.all false
set_option maxRecDepth 100000
namespace L2
open PySem PySem.Spec PyProof.Rows
/-! ### the rest of a block, kept shut -/
@[irreducible] def dHid (t : TSd) : TSd := t
theorem dHid_eq {t : TSd} : dHid t = t := by unfold dHid; rfl
theorem dHid_of {t : TSd} {E : EndsD} {Δ : DE} {M : DH} (h : t E Δ M) : dHid t E Δ M := by rw [dHid_eq]; exact h
theorem q_hid {X : Cx} {st : List Stmt} {t : TSd} (h : QSs X st t) : QSs X st (dHid t) := by rw [dHid_eq]; exact h
/-! ### the head with the whole heap of the top -/
theorem walkX_of {K : Params → PySem.W.Frag} {as : List Addr} {n t : Nat} {q : Program} {loose : List Str} {XP : (Str → Option Value) → Heap → Prop} {r : PySem.W.RowW} {d : DefRec} {kwd : List (Str × Expr)} {run : Value → List Value → Sem Value} (hk : ∀ P, as = (K P).map (·.1))
    (h : PySem.W.WalkO q loose XP (fun w h => (K w.params).In h) r d kwd run) : PySem.W.WalkX q loose XP (PySem.W.X.obsZ as) (PySem.W.X.valZ K n t) r d kwd run := by
  intro w s₀ s₁ mg mb G y a o pm cd doc dV kV ho hd hcd hD hmg hg args vals as' L hpre hlay hrd hwl hlo
  refine h w s₀ s₁ mg mb G (fun b u hu => L.keeps b u ?_) a o pm cd doc dV kV ho hd hcd hD hmg hg args vals as' hpre hlay hrd hwl hlo
  have y1 : as.map s₀.heap.get? = (K w.params).map fun p => some p.2 := congrArg (·.1) y
  rw [hk w.params, List.map_map] at y1
  have key : ∀ (l : PySem.W.Frag), (l.map fun p => s₀.heap.get? p.1) = l.map (fun p => some p.2) → List.lookup b l = some u → s₀.heap.get? b = some u := by
    intro l
    induction l with
    | nil => intro _ z; cases z
    | cons p l ih =>
      intro e z
      rw [List.map_cons, List.map_cons, List.cons.injEq] at e
      rw [List.lookup_cons] at z
      by_cases c : b = p.1
      · subst c
        rw [beq_self_eq_true] at z
        cases z
        exact e.1
      · rw [beq_eq_false_iff_ne.mpr c] at z
        exact ih e.2 z
  exact key _ y1 hu
end L2

set_option Elab.async false
set_option linter.all false
set_option maxRecDepth 100000
namespace L2
open PySem PySem.Spec PyProof.Rows
section
variable {X : Cx} {a b c e o : Expr} {es : List Expr} {te to : TEd} {t : TAd} {pos : Pos} {tg : Expr}
def intsOf : List D → Option (List Int)
  | [] => some []
  | .int i :: ds => (intsOf ds).map (i :: ·)
  | _ => none
theorem intsOf_map : ∀ {ns : List Int}, intsOf (ns.map D.int) = some ns
  | [] => rfl
  | n :: ns => by simp [intsOf, intsOf_map (ns := ns)]
def sumD : D → Option D
  | .lst ds => (intsOf ds).map fun ns => .int ns.sum
  | _ => none
theorem sumD_l {ns : List Int} : sumD (.lst (ns.map D.int)) = some (.int ns.sum) := by simp [sumD, intsOf_map]
theorem ints_vals {K : PySem.W.Frag} {M : DH} {H : Hp} : ∀ {ds : List D} {ns : List Int} {vs : List V} {us : List Value}, intsOf ds = some ns → RepL K M H ds vs → Vals vs us → ∃ xs : Array (Int × Tok), us.toArray = intItems xs ∧ xs.toList.map (·.1) = ns
  | [], _, _, _, e, h, r => by
    simp only [intsOf, Option.some.injEq] at e; subst e
    simp only [RepL] at h; subst h
    cases r
    exact ⟨#[], by simp [intItems], rfl⟩
  | .int i :: ds, ns, vs, us, e, h, r => by
    simp only [intsOf] at e
    cases q : intsOf ds with
    | none => rw [q] at e; cases e
    | some ms =>
      rw [q] at e; cases e
      simp only [RepL] at h
      obtain ⟨v, ws, rfl, h1, h2⟩ := h
      simp only [Rep] at h1; subst h1
      cases r with
      | @cons x u xs' us' r1 r2 =>
        obtain ⟨t, rfl⟩ := r1
        obtain ⟨ys, e1, e2⟩ := ints_vals q h2 r2
        refine ⟨(((i, t) :: ys.toList)).toArray, ?_, by simp [e2]⟩
        have : us' = (intItems ys).toList := by rw [← e1]
        rw [this]
        simp [intItems]
  | .non :: _, _, _, _, e, _, _ => by cases e
  | .bl _ :: _, _, _, _, e, _, _ => by cases e
  | .str _ :: _, _, _, _, e, _, _ => by cases e
  | .tup _ :: _, _, _, _, e, _, _ => by cases e
  | .lst _ :: _, _, _, _, e, _, _ => by cases e
  | .scr _ :: _, _, _, _, e, _, _ => by cases e
  | .emp :: _, _, _, _, e, _, _ => by cases e
  | .ref _ :: _, _, _, _, e, _, _ => by cases e
theorem c_sum (hc : X.calm = true) : CallRd X (.builtin "sum") (one1 sumD) := by
  intro pins s σ H M xs us ds dz Q I hr rv rp e k
  obtain ⟨d, rfl, e0⟩ := one1_some e
  clear e
  have e := e0
  clear e0
  obtain ⟨v, rfl, r⟩ := pair1 rp
  obtain ⟨u, rfl, ru⟩ := Vals.one rv
  cases d with
  | lst ds =>
    simp only [sumD] at e
    cases q : intsOf ds with
    | none => rw [q] at e; cases e
    | some ns =>
      rw [q] at e; cases e
      obtain ⟨l, vs, rfl, sq, rl⟩ := r
      cases ru
      obtain ⟨its, rv, pl, hz⟩ := I.list (SqL.of sq)
      obtain ⟨ys, e1, e2⟩ := ints_vals q rl rv
      refine sum_intListG (xs := ys) (I.ok.hd hc) (by rw [← e1]; exact pl.isList) fun h' tk t' kk => ?_
      have I1 : Inv X pins σ H { s with heap := h', toks := tk } := I.kept (t' := tk) kk
      refine ⟨.int _, H, I1, ⟨_, rfl⟩, k _ H (Ext.refl _ _) hr ?_⟩
      have e3 : preSum (numAt ys) ys.size = ns.sum := by
        rw [preSum_eq, List.take_of_length_le (by simp), e2]
      rw [e3]
      simp [Rep]
  | _ => cases e
end
end L2

set_option Elab.async false
set_option linter.all false
set_option maxRecDepth 100000
namespace L2
open PySem PySem.Spec PyProof.Rows
/-! ### an exception of an own class with an own __init__, made and raised -/
theorem type_call_initT {prog : Program} {w : World} {A : Around} {E : Value → Shared → Prop} {h : Heap} {g : Array GenState} {d : Drawn} {t : Nat} {os : OsState} {nm q : Str} {C N : Addr} {bs bm bmB : List Value} {hdct : Bool}
    {sn : List Str} {sub : List Value} {ab : Bool} {col : Option Bool} {dd : Option Addr} {k0 k1 k2 k3 k5 : Option Value} {B newId initId : String} (F : ExcBaseFacts B newId initId bmB) (T : OwnTail h bmB bm)
    {K : PySem.W.Frag} {rest : List Value} {fI : Addr} {oI : Obj} {Q : PySem.Fin → Shared → Prop} (hC : h.get? C = some (excClassObj nm q C N bs bm hdct sn sub ab col dd k0 k1 k2 k3 k5 newId)) (hn : K.In h)
    (hi : PySem.W.findIn K (.ref C) "__init__" = some (some (Value.ref fI))) (hfI : h.get? fI = some oI) (hfc : oI.cls = Value.type "function")
    (hq : ∀ (h' : Heap) (e : Addr), h.objs.size ≤ e → h.MadeExcOf h' e (Value.ref C) rest → wpAny (model prog w) A (call (Value.ref fI) (Value.ref e :: rest)) (fun r s' => r = Value.none ∧ Q (Fin.done (Flow.ret (Value.ref e))) s') E { heap := h', gens := g, drawn := d, toks := t, os := os })
    (hrest : rest.length ≤ sizeLine) : wpAny (model prog w) A (Builtin.«type.__call__» { pos := Value.ref C :: rest }) Q E { heap := h, gens := g, drawn := d, toks := t, os := os } := by
  unfold Builtin.«type.__call__»
  dsimp only
  refine wpAny_ite_false (Eq.refl (decide ((Value.ref C == Value.type "type") = true))) (wpAny_bind ?_)
  show wpAny _ _ (Bind.bind _ _) _ _ _
  refine wpAny_bind ?_
  show wpAny _ _ (Bind.bind _ _) _ _ _
  refine wpAny_bind (wpAny_load' hC (wpAny_pure (wpAny_pure ?_)))
  refine wpAny_ite_false (Eq.refl (decide ({ name := nm, bases := bs, mro := Value.ref C :: bm, ns := N, qualname := q, hasDict := hdct, slotNames := sn, subclasses := sub, abstract := ab, collection := col : ClassData }.mro.isEmpty = true))) ?_
  refine wpAny_bind (wpAny_madeBy_exc hC (wpAny_bind (wpAny_pure (wpAny_bind (wpAny_holding (wpAny_call ?_))))))
  refine codeAny_call_builtin_code (Code.quiet_builtin { pos := Value.ref C :: rest } F.quiet) (wpAny_check_new_subT F T hC (codeAny_exc_new_subT F T hC ?_ hrest))
  have hC₁ := Heap.get?_push_of_some { cls := Value.ref C, data := Data.fields #[Value.ref h.objs.size, Value.none, Value.none, Value.none, Value.bool false, Value.none] } (Heap.get?_push_of_some { cls := Value.type "tuple", data := Data.seq rest.toArray } hC)
  have hfI₁ := Heap.get?_push_of_some { cls := Value.ref C, data := Data.fields #[Value.ref h.objs.size, Value.none, Value.none, Value.none, Value.bool false, Value.none] } (Heap.get?_push_of_some { cls := Value.type "tuple", data := Data.seq rest.toArray } hfI)
  have kp : ∀ b o, h.get? b = some o → ((h.push { cls := Value.type "tuple", data := Data.seq rest.toArray }).push { cls := Value.ref C, data := Data.fields #[Value.ref h.objs.size, Value.none, Value.none, Value.none, Value.bool false, Value.none] }).get? b = some o := fun b o e => Heap.get?_push_of_some _ (Heap.get?_push_of_some _ e)
  have hn₁ := hn.keeps kp
  have hget := Heap.get?_push_at (h := h.push { cls := Value.type "tuple", data := Data.seq rest.toArray }) (a := h.objs.size + 1) (o := { cls := Value.ref C, data := Data.fields #[Value.ref h.objs.size, Value.none, Value.none, Value.none, Value.bool false, Value.none] }) (by rw [Heap.size_push]) rfl
  show wpAny _ _ (Bind.bind _ _) _ _ _
  refine wpAny_bind (wpAny_bind ?_)
  show wpAny _ _ (Bind.bind _ _) _ _ _
  refine wpAny_bind (wpAny_loadPart_at hget (wpAny_pure (wpAny_isSubtype_exc hC₁ ?_)))
  rw [show (Value.ref C :: bm).contains (Value.ref C) = true by simp]
  refine wpAny_ite_false (Eq.refl (decide ((!true) = true))) (wpAny_bind (wpAny_holding ?_))
  show wpAny _ _ (Bind.bind _ _) _ _ _
  refine wpAny_bind ?_
  show wpAny _ _ (Bind.bind _ _) _ _ _
  refine wpAny_bind ?_
  show wpAny _ _ (Bind.bind _ _) _ _ _
  refine wpAny_bind (wpAny_loadPart_at hget (wpAny_pure ?_))
  refine PySem.W.Looks.here (PySem.W.looks_findIn hn₁ hi) ?_
  refine wpAny_holding (wpAny_bind ?_)
  show wpAny _ _ (Bind.bind _ _) _ _ _
  refine wpAny_bind (wpAny_typeOf ⟨oI, hfI₁, hfc⟩ ?_)
  refine wpAny_ite_true (Eq.refl (decide ((Value.type "function" == Value.type "function" || Value.type "function" == Value.type "method_descriptor" || Value.type "function" == Value.type "wrapper_descriptor") = true))) (wpAny_pure ?_)
  refine wpAny_bind (wpAny_mono (hq _ (h.objs.size + 1) (Nat.le_succ _) ⟨kp, ?_, h.objs.size, hget, ?_, ?_⟩) ?_ fun _ _ z => z)
  · exact Heap.get?_none_of_le (Nat.le_succ _)
  · exact Heap.get?_none_of_le (Nat.le_refl _)
  · exact Heap.get?_push_of_some _ (Heap.get?_push_size _ rfl)
  · rintro r s' ⟨rfl, hQ⟩
    exact wpAny_pure (wpAny_ite_false (Eq.refl (decide ((Value.none != Value.none) = true))) (wpAny_pure hQ))
theorem call_initT {prog : Program} {w : World} {A : Around} {E : Value → Shared → Prop} {h : Heap} {g : Array GenState} {d : Drawn} {t : Nat} {os : OsState} {nm q : Str} {C N : Addr} {bs bm bmB : List Value} {hdct : Bool}
    {sn : List Str} {sub : List Value} {ab : Bool} {col : Option Bool} {dd : Option Addr} {k0 k1 k2 k3 k5 : Option Value} {B newId initId : String} (F : ExcBaseFacts B newId initId bmB) (T : OwnTail h bmB bm)
    {K : PySem.W.Frag} {rest : List Value} {fI : Addr} {oI : Obj} {Q : Value → Shared → Prop} (hC : h.get? C = some (excClassObj nm q C N bs bm hdct sn sub ab col dd k0 k1 k2 k3 k5 newId)) (hn : K.In h)
    (hi : PySem.W.findIn K (.ref C) "__init__" = some (some (Value.ref fI))) (hfI : h.get? fI = some oI) (hfc : oI.cls = Value.type "function")
    (hq : ∀ (h' : Heap) (e : Addr), h.objs.size ≤ e → h.MadeExcOf h' e (Value.ref C) rest → wpAny (model prog w) (A.under (Code.builtin "type.__call__" { pos := Value.ref C :: rest })) (call (Value.ref fI) (Value.ref e :: rest)) (fun r s' => r = Value.none ∧ Q (Value.ref e) s') E { heap := h', gens := g, drawn := d, toks := t, os := os })
    (hrest : rest.length ≤ sizeLine) : wpAny (model prog w) A (call (Value.ref C) rest) Q E { heap := h, gens := g, drawn := d, toks := t, os := os } := by
  have f1 := tc_lookup
  have f2 := tc_bind (Value.ref C)
  have hT : Shared.TypeIs { heap := h, gens := g, drawn := d, toks := t, os := os } (Value.ref C) "type" := ⟨_, hC, rfl⟩
  refine wpAny_call (codeAny_of_tree ?_)
  show wpAny _ _ (Bind.bind _ _) _ _ _
  refine wpAny_bind (wpAny_load' hC ?_)
  show wpAny _ _ (Bind.bind _ _) _ _ _
  refine wpAny_bind (wpAny_specialOf hT f1 (wpAny_bind (wpAny_of_eq f2 (wpAny_bind ?_))))
  refine wpAny_pure (wpAny_ite_true (Eq.refl (decide (("type.__call__" == "type.__call__") = true))) ?_)
  refine wpAny_pure ⟨rfl, codeAny_call_builtin_at (Code.quiet_builtin _ (by decide +kernel)) entry_typeCall (wpAny_check_type_call_sub hC (type_call_initT F T hC hn hi hfI hfc (fun h' e hz hm => hq h' e hz hm) hrest))⟩
theorem call_base_init {prog : Program} {w : World} {A : Around} {E : Value → Shared → Prop} {h : Heap} {g : Array GenState} {d : Drawn} {t : Nat} {os : OsState} {nm q : Str} {C N e : Addr} {bs bm bmB : List Value} {hdct : Bool}
    {sn : List Str} {sub : List Value} {ab : Bool} {col : Option Bool} {dd : Option Addr} {k0 k1 k2 k3 k5 : Option Value} {B newId initId : String} (F : ExcBaseFacts B newId initId bmB) (T : OwnTail h bmB bm)
    {rest : List Value} {oe : Obj} {a0 a1 a2 a3 a4 a5 : Value} {Q : Value → Shared → Prop} (hC : h.get? C = some (excClassObj nm q C N bs bm hdct sn sub ab col dd k0 k1 k2 k3 k5 newId))
    (he : h.get? e = some oe) (hcl : oe.cls = .ref C) (hda : oe.data = .fields #[a0, a1, a2, a3, a4, a5])
    (hq : ∀ (h' : Heap) (t' : Addr), (∀ b o, b ≠ e → h.get? b = some o → h'.get? b = some o) → h'.get? e = some { oe with data := .fields #[.ref t', a1, a2, a3, a4, a5] } → Q .none { heap := h', gens := g, drawn := d, toks := t, os := os })
    (hrest : rest.length ≤ sizeLine) : wpAny (model prog w) A (call (Value.builtin initId) (Value.ref e :: rest)) Q E { heap := h, gens := g, drawn := d, toks := t, os := os } := by
  refine wpAny_call (codeAny_call_builtin F.init.plain F.initEntry (wpAny_check_init_subT F T hC he hcl ?_))
  unfold Builtin.«BaseException.__init__»
  dsimp only
  refine wpAny_ite_false (Eq.refl (decide ((!({ pos := Value.ref e :: rest } : Args).kw.isEmpty) = true))) ?_
  refine wpAny_bind ?_
  unfold newTuple
  obtain ⟨oc, od, oda, osl⟩ := oe
  obtain rfl : oc = .ref C := hcl
  obtain rfl : oda = _ := hda
  have he1 := Heap.get?_push_of_some { cls := Value.type "tuple", data := Data.seq rest.toArray } he
  refine wpAny_ite_false (by rw [decide_eq_false_iff_not]; simpa using hrest) ?_
  refine wpAny_bind (wpAny_alloc' (wpAny_pure ?_))
  refine wpAny_bind ?_
  unfold Builtin.BaseException.bexcPut
  refine wpAny_bind ?_
  show wpAny _ _ (Bind.bind _ _) _ _ _
  refine wpAny_bind ?_
  show wpAny _ _ (Bind.bind _ _) _ _ _
  refine wpAny_bind (wpAny_load' he1 (wpAny_pure (wpAny_pure (wpAny_bind ?_))))
  show wpAny _ _ (Bind.bind _ _) _ _ _
  refine wpAny_bind (wpAny_load' he1 ?_)
  dsimp only
  refine wpAny_ite_true (Eq.refl (decide (0 < #[a0, a1, a2, a3, a4, a5].size))) (wpAny_update' he1 ?_)
  have fin : Q Value.none { heap := (h.push { cls := Value.type "tuple", data := Data.seq rest.toArray }).update e (Obj.mapFields fun x => x.setIfInBounds 0 (Value.ref h.objs.size)), gens := g, drawn := d, toks := t, os := os } := by
    refine hq _ h.objs.size (fun b o hb hbo => ?_) ?_
    · rw [Heap.get?_update_other _ _ (Ne.symm hb)]; exact Heap.get?_push_of_some _ hbo
    · exact Heap.get?_update_self _ he1 rfl
  cases a0
  all_goals first
    | exact wpAny_letGo (wpAny_pure fin)
    | exact wpAny_pure (wpAny_pure fin)
theorem set_excattr {prog : Program} {w : World} {A : Around} {E : Value → Shared → Prop} {s : Shared} {K : W.Frag} {x C : Addr} {ox : Obj} {name : Str} {v : Value} {vs : Array Value} {cd : ClassData} {Q : Unit → Shared → Prop}
    (X : K.In s.heap) (he : s.heap.get? x = some ox) (hcls : ox.cls = .ref C) (hdict : ox.dict = none) (hdata : ox.data = .fields vs)
    (hs : W.findIn K (.ref C) "__setattr__" = some (some (.builtin "object.__setattr__"))) (hc : W.clsIn K C = some cd) (hob : W.mroIn K C (.type "object") = some true)
    (href : ∀ self, refuseLoop self "__setattr__" cd.mro = pure ()) (ha : W.findIn K (.ref C) name = some none) (hh : cd.hasDict = true)
    (h : ∀ (h' : Heap) (d : Addr), (∀ b o, b ≠ x → s.heap.get? b = some o → h'.get? b = some o) → s.heap.get? d = none → h'.get? x = some { ox with dict := some d } → Q () { s with heap := h', toks := s.toks + 2 }) :
    wpAny (model prog w) A (setAttr (.ref x) name v) Q E s := by
  have I : W.InstAt s.heap x ox C none := ⟨he, hcls, by unfold W.notCls; rw [hdata], by rw [hdict]; trivial⟩
  refine W.set_plain X I hs ?_
  have SF := F.store_object
  have sub : W.Looks (model prog w) s.heap (isInstance (.ref x) (.type "object")) true := W.Looks.andThen (W.InstAt.type I) (W.looks_mroIn X hob)
  refine codeAny_call_builtin SF.slot.plain SF.entry ?_
  have hk := SF.kind
  have hsp := SF.split
  have har := SF.args (Value.ref x) (Value.str name s.toks) v
  refine W.check_slot (i := "object.__setattr__") (owner := "object") (self := .ref x) (rest := [Value.str name s.toks, v]) (kw := []) hk hsp sub har ?_
  rw [W.osa_eq, refuse_eq]
  have hm : W.Looks (model prog w) s.heap (mroOf (.ref C)) cd.mro := W.Looks.andThen (W.looks_clsIn X hc) W.Looks.now
  refine wpAny_bind (wpAny_bind (W.Looks.here (W.InstAt.type I) (wpAny_bind (W.Looks.here hm ?_))))
  rw [href]
  refine wpAny_pure (wpAny_bind (W.Looks.here (W.InstAt.type I) (wpAny_bind (W.Looks.here (W.looks_findIn X ha) (wpAny_bind (W.Looks.here (r := none) W.Looks.now ?_))))))
  obtain ⟨oc, od, oda, osl⟩ := ox
  obtain rfl : oc = .ref C := hcls
  obtain rfl : od = none := hdict
  obtain rfl : oda = .fields vs := hdata
  obtain ⟨hp, g, d, t, os⟩ := s
  refine wpAny_bind (wpAny_pure (wpAny_bind (wpAny_bind (wpAny_loadPart he (wpAny_bind (W.Looks.here (W.looks_clsIn X hc) ?_))))))
  rw [hh]
  refine wpAny_ite_false (Eq.refl (decide ((!true) = true))) ?_
  refine wpAny_ite_false (Eq.refl (decide ((!true || !typeHasDict (Value.ref C)) = true))) ?_
  refine wpAny_bind (wpAny_alloc (wpAny_bind (wpAny_update (Heap.get?_push_of_some _ he) ?_)))
  dsimp only
  have hsz : hp.get? hp.objs.size = none := Heap.get?_none_of_le (Nat.le_refl _)
  have hne : hp.objs.size ≠ x := fun z => by rw [z] at hsz; dsimp only at he; rw [he] at hsz; cases hsz
  refine wpAny_pure ?_
  have hx0 : (hp.push { cls := Value.type "dict", data := Data.dict #[] }).get? x = some { cls := .ref C, data := .fields vs, slots := osl } := Heap.get?_push_of_some _ he
  have hx1 : ((hp.push { cls := Value.type "dict", data := Data.dict #[] }).update x fun o => { cls := o.cls, dict := some hp.objs.size, data := o.data, slots := o.slots }).get? x = some { cls := .ref C, dict := some hp.objs.size, data := .fields vs, slots := osl } :=
    Heap.get?_update_self _ hx0 rfl
  have hd1 : ((hp.push { cls := Value.type "dict", data := Data.dict #[] }).update x fun o => { cls := o.cls, dict := some hp.objs.size, data := o.data, slots := o.slots }).get? hp.objs.size = some { cls := Value.type "dict", data := Data.dict #[] } := by
    rw [Heap.get?_update_other _ _ (Ne.symm hne)]; exact Heap.get?_push_size _ rfl
  have hk1 : ∀ b o, b ≠ x → hp.get? b = some o → ((hp.push { cls := Value.type "dict", data := Data.dict #[] }).update x fun o => { cls := o.cls, dict := some hp.objs.size, data := o.data, slots := o.slots }).get? b = some o := fun b o hb e => by
    rw [Heap.get?_update_other _ _ (Ne.symm hb)]; exact Heap.get?_push_of_some _ e
  generalize ((hp.push { cls := Value.type "dict", data := Data.dict #[] }).update x fun o => { cls := o.cls, dict := some hp.objs.size, data := o.data, slots := o.slots }) = h1 at *
  refine wpAny_bind (wpAny_pure (wpAny_bind ?_))
  show wpAny _ _ (Bind.bind _ _) _ _ _
  refine wpAny_bind (wpAny_bind (wpAny_askSetting (wpAny_pure ?_)))
  refine wpAny_bind (wpAny_mkText (wpAny_bind (wpAny_loadPart hd1 ?_)))
  dsimp only
  refine wpAny_ite_false (show decide (aRefKeyMayBeTheName name #[] = true) = false from rfl) (wpAny_updatePart hd1 ?_)
  dsimp only
  have hd2 := Heap.get?_update_self (Obj.putName name (if name.cps.isEmpty = true then 0 else reduceHash ((model prog w).w.params.strHash name.cps)) (Value.str name (t + 1)) v) hd1 rfl
  refine wpAny_bind (wpAny_bind (wpAny_loadPart hd2 ?_))
  refine wpAny_pure (wpAny_pure ?_)
  refine h _ hp.objs.size (fun b o hb e => ?_) hsz ?_
  · rw [Heap.get?_update_other _ _ (fun z => by subst z; dsimp only at e; rw [hsz] at e; cases e)]; exact hk1 b o hb e
  · rw [Heap.get?_update_other _ _ hne]; exact hx1
theorem raise_made {M : Model} {A : Around} {E : Value → Shared → Prop} {env : Env} {nm q : Str} {C N : Addr} {bs bm : List Value} {hdct : Bool} {sn : List Str} {sub : List Value} {ab : Bool} {col : Option Bool} {dd : Option Addr}
    {k0 k1 k2 k3 k5 : Option Value} {newId : String} {s : Shared} {x : Expr} {pos : Pos} {Q : Flow → Shared → Prop} (hbase : bm.contains (Value.type "BaseException") = true) (hh : A.handled = none)
    (h : wpAny M A (eval x env) (fun v s₁ => ∃ e od a0 osl, v = Value.ref e ∧ s₁.heap.get? C = some (excClassObj nm q C N bs bm hdct sn sub ab col dd k0 k1 k2 k3 k5 newId) ∧
      s₁.heap.get? e = some { cls := Value.ref C, dict := od, data := Data.fields #[a0, Value.none, Value.none, Value.none, Value.bool false, Value.none], slots := osl } ∧ E (Value.ref e) s₁) E s) :
    wpAny M A (exec (Stmt.Raise (some x) none pos) env) Q E s := by
  have hcB : (Value.ref C :: bm).contains (Value.type "BaseException") = true := by
    rw [List.contains_cons, hbase, Bool.or_true]
  rw [arm_exec_Raise]
  show wpAny _ _ (Bind.bind _ _) _ _ _
  refine wpAny_bind ?_
  refine wpAny_standAt ?_
  show wpAny _ _ (Bind.bind _ _) _ _ _
  refine wpAny_bind (wpAny_bind (wpAny_mono h (fun v s₁ h₁ => ?_) fun _ _ z => z))
  obtain ⟨e, od, a0, osl, rfl, hC, he, hE⟩ := h₁
  obtain ⟨hp, g, d, tk, os⟩ := s₁
  dsimp only at hC he
  refine wpAny_bind (wpAny_standAt (wpAny_pure ?_))
  refine wpAny_bind (wpAny_pure (wpAny_bind (wpAny_holding ?_)))
  show wpAny _ _ (Bind.bind _ _) _ _ _
  refine wpAny_bind ?_
  show wpAny _ _ (Bind.bind _ _) _ _ _
  refine wpAny_bind ?_
  show wpAny _ _ (Bind.bind _ _) _ _ _
  refine wpAny_bind ?_
  refine wpAny_loadPart_at he (wpAny_pure (wpAny_ite_false ?_ (wpAny_pure (wpAny_ite_false (Eq.refl (decide (false = true))) ?_))))
  · rfl
  refine wpAny_bind ?_
  show wpAny _ _ (Bind.bind _ _) _ _ _
  refine wpAny_bind ?_
  show wpAny _ _ (Bind.bind _ _) _ _ _
  refine wpAny_bind (wpAny_loadPart_at he (wpAny_pure (wpAny_isSubtype_exc hC ?_)))
  rw [hcB]
  refine wpAny_ite_true (Eq.refl (decide (true = true))) (wpAny_pure (wpAny_bind ?_))
  show wpAny _ _ (Bind.bind _ _) _ _ _
  refine wpAny_bind ?_
  refine wpAny_loadPart_at he (wpAny_pure (wpAny_ite_false ?_ (wpAny_bind ?_)))
  · rfl
  show wpAny _ _ (Bind.bind _ _) _ _ _
  refine wpAny_bind ?_
  show wpAny _ _ (Bind.bind _ _) _ _ _
  refine wpAny_bind (wpAny_loadPart_at he (wpAny_pure (wpAny_bind ?_)))
  show wpAny _ _ (Bind.bind _ _) _ _ _
  refine wpAny_bind (wpAny_loadPart_at hC (wpAny_pure (wpAny_ite_true ?_ (wpAny_pure (wpAny_bind ?_)))))
  · rfl
  show wpAny _ _ (Bind.bind _ _) _ _ _
  refine wpAny_bind ?_
  show wpAny _ _ (Bind.bind _ _) _ _ _
  refine wpAny_bind ?_
  show wpAny _ _ (Bind.bind _ _) _ _ _
  refine wpAny_bind (wpAny_load' he (wpAny_pure (wpAny_pure (wpAny_ite_false ?_ (wpAny_pure (wpAny_raiseNew_none hh hE))))))
  rfl
abbrev veM : List Value := [.type "ValueError", .type "Exception", .type "BaseException", .type "object"]
theorem refuse_ve (self : Value) (C W : Addr) : refuseLoop self "__setattr__" [.ref C, .ref W, .type "ValueError", .type "Exception", .type "BaseException", .type "object"] = pure () := by
  kernel_rfl
def ExcN (C e : Addr) (h : Heap) : Prop := ∃ a0 osl, h.get? e = some { cls := .ref C, dict := none, data := .fields #[a0, .none, .none, .none, .bool false, .none], slots := osl }
def ExcO (C e : Addr) (h : Heap) : Prop := ∃ od a0 osl, h.get? e = some { cls := .ref C, dict := od, data := .fields #[a0, .none, .none, .none, .bool false, .none], slots := osl }
theorem excN_ok {P : Program} {w : World} {H : Hp} {h : Heap} {C e : Addr} (x : ExcN C e h) : ObjOk P w H h e (.ext (ExcN C e)) := by
  obtain ⟨a0, osl, g⟩ := x
  exact ⟨⟨a0, osl, g⟩, ⟨_, g⟩, fun h1 h2 ⟨a, b, q⟩ k => ⟨a, b, k _ q⟩⟩
theorem excO_ok {P : Program} {w : World} {H : Hp} {h : Heap} {C e : Addr} (x : ExcO C e h) : ObjOk P w H h e (.ext (ExcO C e)) := by
  obtain ⟨od, a0, osl, g⟩ := x
  exact ⟨⟨od, a0, osl, g⟩, ⟨_, g⟩, fun h1 h2 ⟨a, b, c, q⟩ k => ⟨a, b, c, k _ q⟩⟩
structure ExcK (K : PySem.W.Frag) (mg : Str → Option Value) (xC xW fld : Str) (C W fI : Addr) : Prop where
  gC : mg xC = some (.ref C)
  gW : mg xW = some (.ref W)
  kC : PySem.W.keepIn K (.ref C) = true
  lC : ∃ nm q N bs sn sub ab col dd k0 k1 k2 k3 k5, K.lookup C = some (excClassObj nm q C N bs [.ref W, .type "ValueError", .type "Exception", .type "BaseException", .type "object"] true sn sub ab col dd k0 k1 k2 k3 k5 "ValueError.__new__")
  iC : PySem.W.findIn K (.ref C) "__init__" = some (some (.ref fI))
  lW : ∃ c0 dW cdW slW cN dN es ep sN, K.lookup W = some ⟨c0, dW, .cls cdW, slW⟩ ∧ K.lookup cdW.ns = some ⟨cN, dN, .dict es ep, sN⟩ ∧ es.toList.all (fun e => e.key.isStr "__init__" == false && match e.key with | .str _ _ => true | _ => false) = true
  sW : PySem.W.specialIn K (.ref W) "__getattribute__" = some (some (.builtin "type.__getattribute__"))
  rW : PySem.W.readsIn K W (.type "type") = true
  fW : PySem.W.findCls K (.ref W) (.type "type") "__init__" = some (.val (.builtin "ValueError.__init__"))
  sC : PySem.W.findIn K (.ref C) "__setattr__" = some (some (.builtin "object.__setattr__"))
  mC : PySem.W.mroIn K C (.type "object") = some true
  tC : PySem.W.findIn K (.ref C) fld = some none
theorem ExcK.tail {K : PySem.W.Frag} {mg : Str → Option Value} {xC xW fld : Str} {C W fI : Addr} {h : Heap} (Y : ExcK K mg xC xW fld C W fI) (KX : K.In h) : OwnTail h veM (.ref W :: veM) := by
  obtain ⟨c0, dW, cdW, slW, cN, dN, es, ep, sN, h1, h2, h3⟩ := Y.lW
  rw [List.all_eq_true] at h3
  refine OwnTail.own (KX _ _ h1) (mA := nsFind es) ⟨_, es, ep, KX _ _ h2, rfl, fun e he => ?_, fun _ => rfl⟩ ?_ OwnTail.base
  · have := h3 e (by simpa using he)
    rw [Bool.and_eq_true] at this
    cases q : e.key with
    | str n t => exact ⟨n, t, rfl⟩
    | _ => rw [q] at this; simp at this
  · unfold nsFind findBy
    rw [Option.map_eq_none_iff, Array.find?_eq_none]
    intro e he
    have := h3 e (by simpa using he)
    rw [Bool.and_eq_true] at this
    simpa using this.1
section
variable {X : Cx} {xC xW fld : Str} {C W fI : Addr}
def tWI (C : Addr) (i : Nat) : TE := fun σ H Q => ∃ e, σ[i]? = some (some (.ref e)) ∧ H e = some (.ext (ExcN C e)) ∧ Q .non H
theorem pe_wi (Y : ExcK X.K X.mg xC xW fld C W fI) (i : Nat) {x : Str} {pl : Sem Bool} {p pa ps pos pc : Pos} {txt : Str} {j : Nat} (hg : Gl X xW) (hx : PE X (.Name x ps) (tVar i)) (ht : PE X (.Constant (.str txt) j pc) (tC (.str txt)))
    (hdb : (xW == ("__debug__" : Str)) = false := by decide)
    (hst : starEach [.Name x ps, .Constant (.str txt) j pc] X.env = (false, eval (.Name x ps) X.env) :: starEach [.Constant (.str txt) j pc] X.env := by rfl) (hpl : (backTo pos (starEach [.Constant (.str txt) j pc] X.env)).any (·.1) = false := by rfl)
    (hev : eval (.Call (.Attribute (.Name xW p) "__init__" pa) [.Name x ps, .Constant (.str txt) j pc] [] pos) X.env = (do
      let ov ← eval (.Name xW p) X.env
      standAt pa.atName
      let (f, first) ← holding [ov] (getMethod ov "__init__" pl)
      callWith pos f first (backTo pos (starEach [.Name x ps, .Constant (.str txt) j pc] X.env)) (backToKw pos (keywordEach [] X.env))) := by rfl) :
    PE X (.Call (.Attribute (.Name xW p) "__init__" pa) [.Name x ps, .Constant (.str txt) j pc] [] pos) (tWI C i) := by
  intro pins s σ H Q I h
  obtain ⟨e, ei, he, q⟩ := h
  refine PySem.W.methodCall_KW (pl := pl) (ld_glob I hg Y.gW ?_ hdb) hev
  refine PySem.W.method_cls I.kIn Y.sW (PySem.W.cls_value I.kIn Y.rW Y.fW rfl ?_)
  have I1 := I.tok (s.toks + 1)
  have ha : PA X [.Name x ps, .Constant (.str txt) j pc] (tCons (tVar i) (tCons (tC (.str txt)) tNil)) := pa_cons hx (pa_cons ht pa_nil)
  refine PyProof.Rows.callWith_builtin1 (thn (ha pos pins _ σ H (fun vs H1 => vs = [.ref e, .str txt] ∧ H1 = H) I1 ?_) fun us s1 hs => ?_) hst hpl
  · exact ⟨.ref e, ei, rfl, rfl⟩
  obtain ⟨vs, H1, I2, rv, rfl, rfl⟩ := hs
  obtain ⟨u1, u2, rfl, r1, r2⟩ : ∃ u1 u2, us = [u1, u2] ∧ RelV (.ref e) u1 ∧ RelV (.str txt) u2 := by
    cases rv with
    | cons r1 rv =>
      cases rv with
      | cons r2 rv =>
        cases rv
        exact ⟨_, _, rfl, r1, r2⟩
  obtain rfl : u1 = .ref e := r1
  obtain ⟨⟨a0, osl, g⟩, _⟩ := I2.hok e _ he
  obtain ⟨nm, q', N, bs, sn, sub, ab, col, dd, k0, k1, k2, k3, k5, lC⟩ := Y.lC
  obtain ⟨hp, gs, d, t, os⟩ := s1
  refine call_base_init F.excBase_ValueError (Y.tail I2.kIn) (I2.kIn _ _ lC) g rfl rfl (fun h' t' kp ge => ?_) (Nat.le_of_lt (small1000 (by simp)))
  have I3 := I2.write (t' := t) (h' := h') (x := e) (e := e) (o := .ext (ExcN C e)) (by rw [he]; trivial) (.inl rfl) (fun b u hb hu => kp b u hb hu) ⟨_, ge⟩ (excN_ok ⟨_, _, ge⟩)
  have eu : upd H1 e (.ext (ExcN C e)) = H1 := by
    funext b
    unfold upd
    split
    · next z => rw [z, he]
    · rfl
  rw [eu] at I3
  exact ⟨.non, H1, I3, rfl, q⟩
def tSA (C : Addr) (i j : Nat) : TS := fun D σ H => ∃ e v, σ[i]? = some (some (.ref e)) ∧ σ[j]? = some (some v) ∧ H e = some (.ext (ExcN C e)) ∧ D.nx σ (upd H e (.ext (ExcO C e)))
theorem ps_sa (Y : ExcK X.K X.mg xC xW fld C W fI) (i j : Nat) {x y : Str} {px py pa pos : Pos} (hx : PE X (.Name x px) (tVar i)) (hy : PE X (.Name y py) (tVar j))
    (hs : swapsWith (.Name y py) (some (.Attribute (.Name x px) fld pa)) pos.line X.env = pure false := by rfl) : PS X (.Assign [.Attribute (.Name x px) fld pa] (.Name y py) pos) (tSA C i j) := by
  intro pins s σ H D I h
  obtain ⟨e, v, ei, ej, he, q⟩ := h
  refine plainObj_wpAny_Assign_Attribute (thn (hy pins s σ H (fun v1 H1 => v1 = v ∧ H1 = H) I ⟨v, ej, rfl, rfl⟩) fun u s1 hs1 => ?_) hs
  obtain ⟨_, _, I1, rv, rfl, rfl⟩ := hs1
  refine thn (hx pins s1 σ _ (fun v1 H1 => v1 = .ref e ∧ H1 = _) I1 ⟨_, ei, rfl, rfl⟩) fun u2 s2 hs2 => ?_
  obtain ⟨_, H2, I2, rv2, rfl, rfl⟩ := hs2
  obtain rfl : u2 = .ref e := rv2
  obtain ⟨⟨a0, osl, g⟩, _⟩ := I2.hok e _ he
  obtain ⟨nm, q', N, bs, sn, sub, ab, col, dd, k0, k1, k2, k3, k5, lC⟩ := Y.lC
  refine set_excattr I2.kIn g rfl rfl rfl Y.sC (cd := { name := nm, bases := bs, mro := [.ref C, .ref W, .type "ValueError", .type "Exception", .type "BaseException", .type "object"], ns := N, qualname := q', hasDict := true, slotNames := sn, subclasses := sub, abstract := ab, collection := col }) ?_ Y.mC (fun self => refuse_ve self C W) Y.tC rfl fun h' d' kp hd ge => ?_
  · unfold PySem.W.clsIn
    rw [lC]
  · exact ⟨σ, _, I2.write (t' := s2.toks + 2) (x := e) (e := e) (o := .ext (ExcO C e)) (by rw [he]; trivial) (.inl rfl) (fun b u hb hu => kp b u hb hu) ⟨_, ge⟩ (excO_ok ⟨_, _, _, ge⟩), q⟩
end
def spI (C : Addr) : Sp := fun vs H Q _ => ∃ e v, vs = [.ref e, v] ∧ H e = some (.ext (ExcN C e)) ∧ Q .non (upd H e (.ext (ExcO C e)))
section
variable {X : Cx} {xC xW fld : Str} {C W fI : Addr} {pins : List (Addr × Obj)} {σ : St} {H : Hp} {s : Shared}
theorem Inv.forget {e : Addr} {φ : Heap → Prop} (I : Inv X pins σ (upd H e (.ext φ)) s) (hn : H e = none) : Inv X pins σ H s := by
  have ne : ∀ {b o}, upd H e (.ext φ) b = some o → (∀ ψ, o ≠ .ext ψ) → H b = some o := fun {b o} q z => by
    by_cases hb : b = e
    · subst hb; rw [upd_same] at q; cases q; exact absurd rfl (z φ)
    · rw [upd_ne hb] at q; exact q
  have nn : ∀ {b}, upd H e (.ext φ) b = none → H b = none := fun {b} q => by
    by_cases hb : b = e
    · subst hb; exact hn
    · rw [upd_ne hb] at q; exact q
  refine ⟨I.ok, I.os, I.bare, ⟨I.base.keep, I.base.slot, fun b o q n x => nn (I.base.free b o q n x), I.base.there, fun b xs q => ne (I.base.tups b xs q) (fun _ z => by cases z), fun b o u q => ne (I.base.frzs b o u q) (fun _ z => by cases z), fun b ps q => ?_⟩, I.loc, I.cell, nn I.free, fun x c q => nn (I.freeC x c q), fun p hp => ?_, fun a o q => ?_, I.len⟩
  · obtain ⟨more, q'⟩ := I.base.tbls b ps q
    exact ⟨more, ne q' (fun _ z => by cases z)⟩
  · obtain ⟨h1, h2, h3⟩ := I.pin p hp
    exact ⟨h1, nn h2, h3⟩
  · have ha : a ≠ e := by rintro rfl; rw [hn] at q; cases q
    refine (I.hok a o (by rw [upd_ne ha]; exact q)).stay (fun c v _ r => r) (fun c r => ne r (fun _ z => by cases z)) fun c xs r => ne r (fun _ z => by cases z)
def tRs (XW : Hp → Prop) (te : TE) : TS := fun _ σ H => te σ H fun x H1 => [x].length = 1 ∧ XW H1
theorem ps_rs {XW : Hp → Prop} {k : Nat} {fd : FuncData} {ps : List Str} {e : Expr} {te : TE} {p pos pc : Pos} (Y : ExcK X.K X.mg xC xW fld C W fI) (F : FnOk X.prog X.w X.K X.mg X.base CX0 k fI fd ps (spI C)) (hb : Binds X.K fd ps []) (hf : ∃ oI, X.K.lookup fI = some oI ∧ oI.cls = Value.type "function")
    (hr : Room (k + 1) X.A) (hg : Gl X xC) (hc : X.calm = true) (he : PE X e te)
    (hx : ∀ pins σ H s a, Inv X pins σ H s → XW H → H a = none → ExcO C a s.heap → X.s₀.heap.get? a = none → X.xe (.ref a) s)
    (hdb : (xC == ("__debug__" : Str)) = false := by decide) (hst : starEach [e] X.env = (false, eval e X.env) :: starEach [] X.env := by rfl) :
    PS X (.Raise (some (.Call (.Name xC p) [e] [] pc)) none pos) (tRs XW te) := by
  intro pins s σ H D I h
  obtain ⟨nm, q', N, bs, sn, sub, ab, col, dd, k0, k1, k2, k3, k5, lC⟩ := Y.lC
  obtain ⟨oI, lI, cI⟩ := hf
  refine raise_made (C := C) (bm := [.ref W, .type "ValueError", .type "Exception", .type "BaseException", .type "object"]) (hdct := true) (nm := nm) (q := q') (N := N) (bs := bs) (sn := sn) (sub := sub) (ab := ab) (col := col) (dd := dd) (k0 := k0) (k1 := k1) (k2 := k2) (k3 := k3) (k5 := k5) (newId := "ValueError.__new__") rfl (I.ok.hd hc) (wpAny_Call_Name_kw (ld_glob I hg Y.gC ?_ hdb))
  have ha : PA X [e] (tCons te tNil) := pa_cons he pa_nil hst
  refine PySem.W.callWith_K (h₀ := X.base) I.ok.mod.kin Y.kC (thn (ha pc pins s σ H (fun vs H1 => vs.length = 1 ∧ XW H1) I h) fun us s1 hs => ⟨?_, ?_⟩) hst rfl
  · obtain ⟨vs, H1, I1, rv, _⟩ := hs
    exact I1.kIn
  obtain ⟨vs, H1, I1, rv, hl, q⟩ := hs
  obtain ⟨hp, gs, d, t, os⟩ := s1
  have hul : us.length = 1 := by rw [← rv.length]; exact hl
  refine call_initT PySem.F.excBase_ValueError (Y.tail I1.kIn) (I1.kIn _ _ lC) I1.kIn Y.iC (I1.kIn _ _ lI) cI (fun h' a hsz made => ?_) ?_
  · obtain ⟨kp, new, t', ge, _, _⟩ := made
    have I2 : Inv X pins σ (upd H1 a (.ext (ExcN C a))) { heap := h', gens := gs, drawn := d, toks := t, os := os } := I1.laid (t' := t) kp hsz (excN_ok ⟨_, _, ge⟩)
    have hn1 : H1 a = none := I1.hok.fresh hsz
    obtain ⟨v, rfl⟩ : ∃ v, vs = [v] := by
      match vs, hl with
      | [v], _ => exact ⟨v, rfl⟩
    have r2 : Vals [V.ref a, v] (Value.ref a :: us) := .cons rfl rv
    have hsp : spI C [V.ref a, v] (upd H1 a (.ext (ExcN C a))) (fun u H2 => u = .non ∧ H2 = upd H1 a (.ext (ExcO C a))) E0 := ⟨a, v, rfl, upd_same, rfl, upd_upd⟩
    have hpl : (Value.ref a :: us ++ []).length = ps.length := by
      rw [List.append_nil, ← r2.length]; exact F.len _ _ _ _ hsp
    refine wpAny_call (codeAny_mono (F.run _ X.stack _ _ ⟨Value.ref a :: us, []⟩ (Value.ref a :: us) _ _ E0 (hr.make C us []) (I2.env0.make C us []) (by simpa using hb _ (Value.ref a :: us) I2.kIn hpl) r2 hsp) fun r s' hq' => ?_)
    cases r with
    | error e => exact hq'.elim
    | ok fl =>
      cases fl with
      | ret u =>
        obtain ⟨v3, H3, I3, rv3, rfl, rfl⟩ := I2.after hq'
        obtain rfl : u = Value.none := rv3
        obtain ⟨od, a0, osl, g3⟩ := (I3.hok a _ upd_same).1
        refine ⟨rfl, a, od, a0, osl, rfl, I3.kIn _ _ lC, g3, ?_⟩
        refine hx pins σ H1 s' a (I3.forget hn1) q hn1 ⟨od, a0, osl, g3⟩ ?_
        exact Heap.get?_none_of_le (Nat.le_trans I1.sz hsz)
      | next => exact False.elim hq'
      | brk => exact False.elim hq'
      | cont => exact False.elim hq'
  · rw [List.nil_append, hul]; exact Nat.le_of_lt (small1000 (by decide))
end
theorem ObjOk.is {P : Program} {w : World} {H : Hp} {h : Heap} {a : Addr} {o : HO} (x : ObjOk P w H h a o) : ∃ u, h.get? a = some u := by
  cases o with
  | lst xs => obtain ⟨_, _, _, _, e⟩ := x; exact ⟨_, e⟩
  | tup xs => obtain ⟨_, _, _, ob, e, _⟩ := x; exact ⟨_, e⟩
  | dK kvs => obtain ⟨_, _, _, _, o, _, _, e, _⟩ := x; exact ⟨_, e⟩
  | dT kvs => obtain ⟨_, _, _, _, o, _, _, e, _⟩ := x; exact ⟨_, e⟩
  | set S n => obtain ⟨o, _, _, _, e, _⟩ := x; exact ⟨_, e⟩
  | ins C dx fs => obtain ⟨_, _, _, e, _⟩ := x; exact ⟨_, e⟩
  | own y => exact x
  | xd fs => obtain ⟨_, ⟨_, _, _, e, _⟩, _⟩ := x; exact ⟨_, e⟩
  | rng lo hi => obtain ⟨_, _, _, e⟩ := x; exact ⟨_, e⟩
  | frz ob u => obtain ⟨e, _⟩ := x; exact ⟨_, e⟩
  | tbl ps => exact ⟨_, x⟩
  | met f y => exact ⟨_, x⟩
  | ext φ => exact x.2.1
def Flyn (C a T : Addr) (h0 h : Heap) : Prop := ∃ oe vs oT ts a0, h.get? a = some oe ∧ (oe.cls = .ref C ∧ vs[0]? = some a0) ∧ oe.data = .fields vs ∧ vs[1]? = some (.ref T) ∧ h0.get? T = none ∧ T ≠ a ∧ h.get? T = some oT ∧ oT.data = .fields ts ∧ ts[3]? = some .none
def CX1 (P : Program) (w : World) (C : Addr) : CXT := fun outer H s E e s' => ∃ a T H', e = .ref a ∧ s'.os = s.os ∧ AllBare s'.gens ∧ Un (frs outer) [] H H' s.heap s'.heap ∧ HOk P w H' s'.heap ∧ s.heap.get? a = none ∧ H' a = none ∧ H' T = none ∧ Flyn C a T s.heap s'.heap ∧ E (.ref C) none H'
section
variable {P : Program} {w : World} {K : PySem.W.Frag} {mg : Str → Option Value} {base : Heap} {N : List Str} {qual : Str} {scope : Scope} {f : Addr} {cd : Value} {A : Around} {outer : List Env} {s : Shared} {H : Hp} {E : XK} {C : Addr}
theorem leave1 {pins : List (Addr × Obj)} {σ : St} {H1 : Hp} {s1 : Shared} {a : Addr} (I : Inv (cxOf (CX1 P w C) P w K mg base N qual scope f cd A outer s H E) pins σ H1 s1) (q : E (.ref C) none H1) (hn : H1 a = none) (x : ExcO C a s1.heap) (h0 : s.heap.get? a = none) :
    (cxOf (CX1 P w C) P w K mg base N qual scope f cd A outer s H E).xe (.ref a) s1 := by
  obtain ⟨od, a0, osl, g⟩ := x
  have hst := I.stack
  have hfr : ∀ b ∈ frs (envOfC qual scope s.heap.objs.size f cd :: outer), ∃ o, s1.heap.get? b = some o ∧ ∀ vs : Array Value, o.data ≠ Data.fields vs := fun b hb => (hst.mem hb).2
  have hany : a ∉ frs (envOfC qual scope s.heap.objs.size f cd :: outer) := fun hb => by
    obtain ⟨o, e, d⟩ := hfr a hb
    rw [g] at e; cases e
    exact d _ rfl
  refine wpAny_leaving_firstW (base := PySem.W.hideAll s1.heap (a :: frs (envOfC qual scope s.heap.objs.size f cd :: outer))) I.ok.frames ?_ (L := s.heap.objs.size) rfl g ?_ ?_ rfl rfl rfl fun h' lf => ?_
  · exact PySem.W.funFrames_hide hst fun env he b hb => List.mem_cons_of_mem _ (List.mem_filterMap.mpr ⟨env, he, hb⟩)
  · exact fun b o e => PySem.W.of_hideAll _ e
  · exact PySem.W.hideAll_none _ List.mem_cons_self
  obtain ⟨st, ff, ⟨oe, vs, T, oT, ts, t1, t2, t3, t4, t5, t6, t7, t8, t9⟩, up⟩ := lf
  have keep : ∀ b o, s1.heap.get? b = some o → b ≠ a → b ∉ frs (envOfC qual scope s.heap.objs.size f cd :: outer) → h'.get? b = some o := fun b o e hb hf => st b o (PySem.W.hideAll_get _ e (fun z => (List.mem_cons.mp z).elim hb hf))
  have hT : s1.heap.get? T = none := by
    cases e : s1.heap.get? T with
    | none => rfl
    | some o =>
      by_cases hf : T ∈ frs (envOfC qual scope s.heap.objs.size f cd :: outer)
      · obtain ⟨o', e', d'⟩ := hfr T hf
        obtain ⟨sl, e2⟩ := up T o' e' d'
        rw [t7] at e2
        cases e2
        exact absurd t8 (d' ts)
      · rw [PySem.W.hideAll_get _ e (fun z => (List.mem_cons.mp z).elim t6 hf)] at t5
        cases t5
  have un : Un (frs outer) [] H H1 s.heap s1.heap := I.base
  have hfree : ∀ b ∈ frs (envOfC qual scope s.heap.objs.size f cd :: outer), H1 b = none := I.stkFree
  have hsz : ∀ b o, s.heap.get? b = some o → b ∈ frs (envOfC qual scope s.heap.objs.size f cd :: outer) → b ∈ frs outer := fun b o e hb => by
    rcases List.mem_cons.mp hb with z | z
    · subst z
      exact absurd (Heap.lt_size e) (Nat.lt_irrefl _)
    · exact z
  refine ⟨a, T, H1, rfl, I.os, I.bare, ⟨fun b o e n h1 h2 => ?_, fun b o e n h1 h2 => ?_, fun b o e n h2 => un.free b o e n h2, fun b o e h2 => ?_, un.tups, un.frzs, un.tbls⟩, fun b o e => ?_, h0, hn, ?_, ⟨oe, vs, oT, ts, a0, t1, t2, t3, t4, ?_, t6, t7, t8, t9⟩, q⟩
  · exact keep b o (un.keep b o e n h1 h2) (fun z => by rw [z, h0] at e; cases e) fun z => h1 (hsz b o e z)
  · obtain ⟨sl, e1⟩ := un.slot b o e n h1 h2
    obtain ⟨o', e', d'⟩ := hfr b (List.mem_cons_of_mem _ h1)
    rw [e1] at e'; cases e'
    obtain ⟨sl', e2⟩ := up b _ e1 d'
    exact ⟨sl', e2⟩
  · obtain ⟨o1, e1⟩ := un.there b o e h2
    by_cases hf : b ∈ frs (envOfC qual scope s.heap.objs.size f cd :: outer)
    · obtain ⟨o', e', d'⟩ := hfr b hf
      obtain ⟨sl', e2⟩ := up b _ e' d'
      exact ⟨_, e2⟩
    · exact ⟨o1, keep b o1 e1 (fun z => by rw [z, h0] at e; cases e) hf⟩
  · refine (I.hok b o e).stay (fun c v hc r => keep c v r ?_ ?_) (fun c r => r) fun c xs r => r
    · rintro rfl
      rcases hc with rfl | hc
      · rw [hn] at e; cases e
      · rw [hn] at hc; cases hc
    · intro hf
      have := hfree c hf
      rcases hc with rfl | hc
      · rw [this] at e; cases e
      · rw [this] at hc; cases hc
  · cases e : H1 T with
    | none => rfl
    | some o =>
      obtain ⟨o1, e1⟩ := (I.hok T o e).is
      rw [hT] at e1; cases e1
  · cases e : s.heap.get? T with
    | none => rfl
    | some o =>
      obtain ⟨o1, e1⟩ := un.there T o e (by simp)
      rw [hT] at e1; cases e1
end
end L2

set_option Elab.async false
set_option linter.all false
set_option maxRecDepth 100000
namespace L2
open PySem PySem.Spec PyProof.Rows
/-! ### blocks that may raise: what is wanted of the answer None is wanted of the exception too -/
def upSX (K : PySem.W.Frag) (XW : Hp → Prop) (t : TSd) : TS := fun D σ H => ∃ (Δ : DE) (M : DH) (E : EndsD), SR K M H σ Δ ∧ HR K M H ∧ t E Δ M ∧ UpE K E D M H ∧ ∀ M' H', E.rt .non M' → Ext M H M' H' → HR K M' H' → XW H'
def PSx (X : Cx) (XW : Hp → Prop) (st : Stmt) (t : TSd) : Prop := PS X st (upSX X.K XW t)
def PSsx (X : Cx) (XW : Hp → Prop) (st : List Stmt) (t : TSd) : Prop := PSs X st (upSX X.K XW t)
section
variable {X : Cx} {XW : Hp → Prop} {a b c e : Expr} {te : TEd} {pos : Pos} {st : Stmt} {rest : List Stmt} {t u : TSd} {xC xW fld : Str} {C W fI : Addr}
theorem x_of (h : QSd X st t) : PSx X XW st t := by
  rw [QSd.eq] at h
  exact PS.conv h fun D σ H ⟨Δ, M, E, sr, hr, q, k, _⟩ => ⟨Δ, M, E, sr, hr, q, k⟩
theorem xs_nil : PSsx X XW [] dNext := pss_nil.conv fun D σ H ⟨Δ, M, E, sr, hr, q, u, _⟩ => u.nx Δ M σ H q (Ext.refl _ _) hr sr
theorem xs_cons (h1 : PSx X XW st t) (h2 : PSsx X XW rest u) : PSsx X XW (st :: rest) (dSeq t u) :=
  (pss_cons h1 h2).conv fun D σ H ⟨Δ, M, E, sr, hr, q, k, x⟩ => ⟨Δ, M, { E with nx := u E }, sr, hr, q, ⟨fun Δ' M' σ' H' q' e' hr' sr' => ⟨Δ', M', E, sr', hr', q', k.ext e', fun M'' H'' z1 z2 z3 => x M'' H'' z1 (e'.trans z2) z3⟩, k.bk, k.ct, k.rt⟩, x⟩
theorem xs_one (h1 : PSx X XW st t) : PSsx X XW [st] t := pss_one h1
theorem x_if {sa sb : List Stmt} {tc : TTd} (hc : QTd X c tc) (ha : PSsx X XW sa t) (hb : PSsx X XW sb u) : PSx X XW (.If c sa sb pos) (dIfS tc t u) := by
  rw [QTd.eq] at hc
  exact (ps_if hc ha hb).conv fun D σ H ⟨Δ, M, E, sr, hr, q, k, x⟩ => ⟨Δ, M, _, sr, hr, q, fun b M1 H1 q1 e1 hr1 => by
    cases b with
    | true => simp only [if_true] at q1 ⊢; exact ⟨Δ, M1, E, sr.ext e1, hr1, q1, k.ext e1, fun M'' H'' z1 z2 z3 => x M'' H'' z1 (e1.trans z2) z3⟩
    | false => simp only [Bool.false_eq_true, if_false] at q1 ⊢; exact ⟨Δ, M1, E, sr.ext e1, hr1, q1, k.ext e1, fun M'' H'' z1 z2 z3 => x M'' H'' z1 (e1.trans z2) z3⟩⟩
def dRaise (te : TEd) : TSd := fun E Δ M => te Δ M fun _ M1 => ∃ M2, LeM M2 M1 ∧ E.rt .non M2
theorem x_rs {k : Nat} {fd : FuncData} {ps : List Str} {p pc : Pos} (Y : ExcK X.K X.mg xC xW fld C W fI) (F : FnOk X.prog X.w X.K X.mg X.base CX0 k fI fd ps (spI C)) (hb : Binds X.K fd ps []) (hf : ∃ oI, X.K.lookup fI = some oI ∧ oI.cls = Value.type "function")
    (hr : Room (k + 1) X.A) (hg : Gl X xC) (hc : X.calm = true) (he : QEd X e te)
    (hx : ∀ pins σ H s a, Inv X pins σ H s → XW H → H a = none → ExcO C a s.heap → X.s₀.heap.get? a = none → X.xe (.ref a) s)
    (hdb : (xC == ("__debug__" : Str)) = false := by decide) (hst : starEach [e] X.env = (false, eval e X.env) :: starEach [] X.env := by rfl) :
    PSx X XW (.Raise (some (.Call (.Name xC p) [e] [] pc)) none pos) (dRaise te) := by
  rw [QEd.eq] at he
  exact (ps_rs (XW := XW) Y F hb hf hr hg hc he hx hdb hst).conv fun D σ H ⟨Δ, M, E, sr, hr, q, k, x⟩ => ⟨Δ, M, _, sr, hr, q, fun d M1 v H1 ⟨M2, hle, q1⟩ e1 hr1 _ => ⟨rfl, x M2 H1 q1 (e1.trans (Ext.le hle)) (hr1.le hle)⟩⟩
theorem x_for {tg iter : Expr} {body : List Stmt} {wi : TId} {g : GD} {tb : TSd} (hp : PassesOwn (model X.prog X.w) X.A X.env X.xe) (hc : X.calm = true) (hi : QId X tg iter wi) (hg : PGd X tg g) (hb : PSsx X XW body tb)
    (hs : ∀ x, foldedSetIterable iter X.env x = pure x := by intro _; rfl) : PSx X XW (.For tg iter body [] pos) (dFor wi g tb) := by
  rw [QId.eq] at hi
  obtain ⟨gv, pg, kg⟩ := hg
  refine (ps_for hp hc hi pg hb hs).conv fun D σ H hh => ?_
  obtain ⟨Δ, M, E, sr, hr, q, k, xx⟩ := hh
  refine ⟨Δ, M, _, sr, hr, q, fun ds M1 J H1 q1 e1 hr1 it => ?_⟩
  refine ⟨fun i m σ' H' => ∃ Δ' M', m = ds.length - i ∧ i ≤ ds.length ∧ Ext M1 H1 M' H' ∧ HR X.K M' H' ∧ SR X.K M' H' σ' Δ' ∧ forRun g tb E (ds.drop i) Δ' M', ⟨ds.length, Δ, M1, by simp, Nat.zero_le _, Ext.refl _ _, hr1, sr.ext e1, q1⟩, ?_⟩
  rintro i m σ2 H2 ⟨Δ2, M2, rfl, hi2, e2, hr2, sr2, f2⟩
  obtain ⟨go, stop⟩ := it M2 H2 e2 hr2 i
  by_cases hlt : i < ds.length
  · have hd : ds[i]? = some ds[i] := by simp [hlt]
    obtain ⟨g1, y1⟩ := go _ hd
    rw [List.drop_eq_getElem_cons hlt] at f2
    simp only [forRun] at f2
    obtain ⟨Δ3, eg, f3⟩ := f2
    refine .inr ⟨g1, fun σ' H' => ∃ m', m' < ds.length - i ∧ ∃ Δ' M', m' = ds.length - (i + 1) ∧ i + 1 ≤ ds.length ∧ Ext M1 H1 M' H' ∧ HR X.K M' H' ∧ SR X.K M' H' σ' Δ' ∧ forRun g tb E (ds.drop (i + 1)) Δ' M', fun σ' H' z => z, fun x H' hy => ?_⟩
    obtain ⟨e3, hr3, rx⟩ := y1 x H' hy
    refine kg _ x σ2 Δ2 Δ3 M2 H' _ (sr2.ext e3) hr3 rx eg fun σ3 sr3 => ?_
    refine ⟨Δ3, M2, _, sr3, hr3, f3, ⟨fun Δ' M' σ' H'' q' e' hr' sr' => ?_, fun Δ' M' σ' H'' q' e' hr' sr' => ?_, fun Δ' M' σ' H'' q' e' hr' sr' => ?_, fun d M' v H'' q' e' hr' rv' => ?_⟩, fun M'' H'' z1 z2 z3 => xx M'' H'' z1 (((e1.trans e2).trans e3).trans z2) z3⟩
    · exact ⟨_, by omega, Δ', M', rfl, hlt, (e2.trans e3).trans e', hr', sr', q'⟩
    · exact k.nx Δ' M' σ' H'' q' (((e1.trans e2).trans e3).trans e') hr' sr'
    · exact ⟨_, by omega, Δ', M', rfl, hlt, (e2.trans e3).trans e', hr', sr', q'⟩
    · exact k.rt d M' v H'' q' (((e1.trans e2).trans e3).trans e') hr' rv'
  · rw [List.drop_eq_nil_of_le (by omega)] at f2
    exact .inl ⟨stop (by omega), k.nx Δ2 M2 σ2 H2 f2 (e1.trans e2) hr2 sr2⟩
end
def spX (K : PySem.W.Frag) (n : Nat) (S : SpD) (C : Addr) : Sp := fun vs H Q E => ∃ (ds : List D) (M : DH) (R : D → DH → Prop), ds.length = n ∧ RepL K M H ds vs ∧ HR K M H ∧ S ds M R ∧ (∀ d M' v H', R d M' → Ext M H M' H' → HR K M' H' → Rep K M' H' d v → Q v H') ∧
  ∀ M' H', R .non M' → Ext M H M' H' → HR K M' H' → E (.ref C) none H'
section
variable {P : Program} {w : World} {K : PySem.W.Frag} {mg : Str → Option Value} {base : Heap}
theorem Fun.okX {x qual : Str} {st : Stmt} {f : Addr} {fd : FuncData} {N ps : List Str} {k n : Nat} {S : SpD} {C : Addr} (F : Fun K x qual st f fd) (hn : ps.length = n) (Sc : FnScope N ps (defScope st))
    (hbody : ∀ (cdv : Value) (A : Around) (outer : List Env) (s : Shared) (H : Hp) (E : XK), Room k (A.deeper (envOfC qual (defScope st) s.heap.objs.size f cdv)) →
      ∃ t : TSd, PSsx (cxOf (CX1 P w C) P w K mg base N qual (defScope st) f cdv A outer s H E) (fun H' => E (.ref C) none H') (defBody st) t ∧ ∀ ds M R, ds.length = n → S ds M R → t { nx := fun _ M' => R .non M', rt := R } (startD N ds) M) : FnOk P w K mg base (CX1 P w C) (k + 1) f fd ps (spX K n S C) := by
  obtain ⟨oc, od, kV, doc, pm, an, cdv, ct, osl, rfl, lk, hcd⟩ := F.ex
  refine fn_of lk hcd Sc (fun vs H Q E h => ?_) fun A outer s H vs Q E hr h => ?_
  · obtain ⟨ds, M, R, hl, r, _⟩ := h
    rw [hn, ← r.length]; exact hl
  obtain ⟨t, ht, hq⟩ := hbody cdv A outer s H E hr
  obtain ⟨ds, M, R, hl, r, hrr, q, k', kx⟩ := h
  exact ⟨_, ht, startD N ds, M, _, start_sr r, hrr, hq ds M R hl q, ⟨fun Δ' M' σ' H' q' e' hr' _ => k' .non M' .non H' q' e' hr' (by simp [Rep]), fun _ _ _ _ q' => False.elim q', fun _ _ _ _ q' => False.elim q', fun d M' v H' q' e' hr' rv => k' d M' v H' q' e' hr' rv⟩, kx⟩
end
structure FnX (P : Program) (w : World) (K : PySem.W.Frag) (mg : Str → Option Value) (base : Heap) (x : Str) (k n : Nat) (S : SpD) (C : Addr) : Prop where
  ex : ∃ (f : Addr) (fd : FuncData) (ps : List Str), FnOk P w K mg base (CX1 P w C) k f fd ps (spX K n S C) ∧ mg x = some (.ref f) ∧ PySem.W.keepIn K (.ref f) = true ∧ Binds K fd ps []
end L2

set_option Elab.async false
set_option linter.all false
set_option maxRecDepth 100000
namespace L2
open PySem PySem.Spec PyProof.Rows
section
variable {X : Cx} {pins : List (Addr × Obj)} {σ : St} {H1 H' : Hp} {s1 s' : Shared} {C a T : Addr}
theorem inv_over {h : Heap} {Z : List Addr} (I1 : Inv X pins σ H1 s1) (os : s'.os = s1.os) (bare : AllBare s'.gens) (un : Un (frs X.stack) [] H1 H' s1.heap s'.heap) (hok : HOk X.prog X.w H' s'.heap)
    (kp : ∀ b o, s'.heap.get? b = some o → b ∉ Z → b ∉ frs X.stack → h.get? b = some o) (fr : ∀ b o, b ∈ frs X.stack → s'.heap.get? b = some o → ∃ sl, h.get? b = some { o with slots := sl })
    (hz : ∀ b ∈ Z, s1.heap.get? b = none ∧ H' b = none) : Inv X pins σ H' { s' with heap := h } := by
  have I' : Inv X pins σ H' s' := I1.call' (ch := []) os un hok bare fun b z => absurd z (by simp)
  have hfree := I'.stkFree
  have nz : ∀ {b o}, s1.heap.get? b = some o → b ∉ Z := fun {b o} e z => by rw [(hz b z).1] at e; cases e
  refine I1.call' (s' := { s' with heap := h }) (ch := []) os ⟨fun b o e n h1 h2 => kp b o (un.keep b o e n h1 h2) (nz e) h1, fun b o e n h1 h2 => ?_, un.free, fun b o e h2 => ?_, un.tups, un.frzs, un.tbls⟩ (fun b o e => ?_) bare fun b z => absurd z (by simp)
  · obtain ⟨sl, e1⟩ := un.slot b o e n h1 h2
    obtain ⟨sl', e2⟩ := fr b _ h1 e1
    exact ⟨sl', e2⟩
  · obtain ⟨o1, e1⟩ := un.there b o e h2
    by_cases hf : b ∈ frs X.stack
    · obtain ⟨sl', e2⟩ := fr b _ hf e1
      exact ⟨_, e2⟩
    · exact ⟨o1, kp b o1 e1 (nz e) hf⟩
  · refine (hok b o e).stay (fun c v hc r => kp c v r (fun z => ?_) (fun z => ?_)) (fun c r => r) fun c xs r => r
    · have := (hz c z).2
      rcases hc with rfl | hc
      · rw [this] at e; cases e
      · rw [this] at hc; cases hc
    · have := hfree c z
      rcases hc with rfl | hc
      · rw [this] at e; cases e
      · rw [this] at hc; cases hc
theorem caught1 {xC : Str} {p pos : Pos} {b0 : Stmt} {suite : List Stmt} {Q : Flow → Shared → Prop} {E' : Value → Shared → Prop} (I1 : Inv X pins σ H1 s1) (hsk : X.stack = X.env :: X.outer) (hfm : X.env.frame = some X.env.locals) (hg : Gl X xC) (hm : X.mg xC = some (.ref C))
    (lC : ∃ nm q N bs bm hd sn sub ab col dd k0 k1 k2 k3 k5 newId, X.K.lookup C = some (excClassObj nm q C N bs bm hd sn sub ab col dd k0 k1 k2 k3 k5 newId) ∧ bm.contains (.type "BaseException") = true)
    (os : s'.os = s1.os) (bare : AllBare s'.gens) (un : Un (frs X.stack) [] H1 H' s1.heap s'.heap) (hok : HOk X.prog X.w H' s'.heap) (ha : s1.heap.get? a = none) (hna : H' a = none) (hnT : H' T = none) (fl : Flyn C a T s1.heap s'.heap)
    (k : ∀ h, Inv X pins σ H' { s' with heap := h } → wpAny (model X.prog X.w) (X.A.mark (some (.ref a))) (execs (b0 :: suite) X.env) Q (fun _ _ => False) { s' with heap := h }) (hdb : (xC == ("__debug__" : Str)) = false := by decide) :
    wpAny (model X.prog X.w) X.A (noteFrame (.ref a) X.env) (fun _ s2 => wpAny (model X.prog X.w) X.A (setFlight (.ref a) none) (fun _ s3 => wpAny (model X.prog X.w) X.A (handleBy (.ref a) X.env [.ExceptHandler (some (.Name xC p)) none (b0 :: suite) pos]) Q E' s3) E' s2) E' s' := by
  obtain ⟨oe, vs, oT, ts, a0, f1, f2, f3, f4, f5, f6, f7, f8, f9⟩ := fl
  have I' : Inv X pins σ H' s' := I1.call' (ch := []) os un hok bare fun b z => absurd z (by simp)
  have hst := I'.stack
  have hfr : ∀ b ∈ frs X.stack, ∃ o, s'.heap.get? b = some o ∧ ∀ vs : Array Value, o.data ≠ Data.fields vs := fun b hb => (hst.mem hb).2
  have hA : X.A.frames = some (X.env :: X.outer) := by rw [← hsk]; exact I1.ok.frames
  have fly : (PySem.W.hideAll s'.heap (a :: T :: frs X.stack)).FlyingW (X.env :: X.outer) a (.ref C) a0 s'.heap :=
    ⟨fun b o e => PySem.W.of_hideAll _ e, PySem.W.hideAll_none _ (by simp), by rw [← hsk]; exact PySem.W.funFrames_hide hst fun env he b hb => List.mem_cons_of_mem _ (List.mem_cons_of_mem _ (List.mem_filterMap.mpr ⟨env, he, hb⟩)),
      oe, vs, T, oT, ts, f1, f2, f3, f4, PySem.W.hideAll_none _ (by simp), f6, f7, f8, f9⟩
  refine wpAny_looks_onW hA hfm fly fun h1 held up1 => wpAny_landsW held fun h2 fly2 up2 => ?_
  obtain ⟨st2, n2, ff2, oe2, vs2, T2, oT2, ts2, t1, t2, t3, t4, t5, t6, t7, t8, t9⟩ := fly2
  have kp2 : ∀ b o, s'.heap.get? b = some o → b ∉ [a, T] → b ∉ frs X.stack → h2.get? b = some o := fun b o e hz hf => st2 b o (PySem.W.hideAll_get _ e fun z => by
    rcases List.mem_cons.mp z with z | z
    · exact hz (by simp [z])
    rcases List.mem_cons.mp z with z | z
    · exact hz (by simp [z])
    · exact hf z)
  have fr2 : ∀ b o, b ∈ frs X.stack → s'.heap.get? b = some o → ∃ sl, h2.get? b = some { o with slots := sl } := fun b o hb e => by
    obtain ⟨o', e', d'⟩ := hfr b hb
    rw [e] at e'; cases e'
    obtain ⟨sl, q1⟩ := up1 b o e d'
    obtain ⟨sl', q2⟩ := up2 b _ q1 d'
    exact ⟨sl', q2⟩
  have hz2 : ∀ b ∈ [a, T], s1.heap.get? b = none ∧ H' b = none := fun b hb => by
    rcases List.mem_cons.mp hb with rfl | hb
    · exact ⟨ha, hna⟩
    · obtain rfl := List.mem_singleton.mp hb
      exact ⟨f5, hnT⟩
  have I2 := inv_over I1 os bare un hok kp2 fr2 hz2
  obtain ⟨nm, q, N, bs, bm, hd, sn, sub, ab, col, dd, k0, k1, k2, k3, k5, newId, lC, hbm⟩ := lC
  refine wpAny_handleBy_cons (codeAny_handlers_test (Calls.Name_function_global I2.ok.kind hg (Calls.loadGlobal_global (by rw [I2.ok.glob]; exact I2.mod.glob.keeps I2.bk) hm ?_) hdb)) (by intro z; cases z)
  refine wpAny_excMatches_sub_self (I2.kIn _ _ lC) t1 t2.1 hbm ?_
  refine codeAny_handlers_suite ?_
  have hts : 3 < ts2.size := (Array.getElem?_eq_some_iff.mp t9).1
  refine wpAny_setFlight_none t1 t3 t4 t7 t8 hts ?_
  have hT2f : T2 ∉ frs X.stack := fun hb => by
    obtain ⟨o', e', d'⟩ := hfr T2 hb
    obtain ⟨sl, q2⟩ := fr2 T2 o' hb e'
    rw [t7] at q2; cases q2
    exact d' _ t8
  have hT2 : T2 = T ∨ s'.heap.get? T2 = none := by
    by_cases z : T2 = T
    · exact .inl z
    · right
      cases e : s'.heap.get? T2 with
      | none => rfl
      | some o =>
        rw [PySem.W.hideAll_get _ e fun z' => by
          rcases List.mem_cons.mp z' with z' | z'
          · exact t6 z'
          rcases List.mem_cons.mp z' with z' | z'
          · exact z z'
          · exact hT2f z'] at t5
        cases t5
  have hz3 : ∀ b ∈ [a, T, T2], s1.heap.get? b = none ∧ H' b = none := fun b hb => by
    rcases List.mem_cons.mp hb with rfl | hb
    · exact ⟨ha, hna⟩
    rcases List.mem_cons.mp hb with rfl | hb
    · exact ⟨f5, hnT⟩
    obtain rfl := List.mem_singleton.mp hb
    rcases hT2 with rfl | z
    · exact ⟨f5, hnT⟩
    · constructor
      · cases e : s1.heap.get? b with
        | none => rfl
        | some o =>
          obtain ⟨o1, e1⟩ := un.there b o e (by simp)
          rw [z] at e1; cases e1
      · cases e : H' b with
        | none => rfl
        | some o =>
          obtain ⟨o1, e1⟩ := (hok b o e).is
          rw [z] at e1; cases e1
  have I3 := inv_over (h := h2.update T2 (Obj.mapFields fun x => x.setIfInBounds 3 Value.none)) I1 os bare un hok (Z := [a, T, T2]) (fun b o e hz hf => by
      rw [Heap.get?_update_other _ _ (fun z => hz (by simp [z]))]
      exact kp2 b o e (fun z => hz (by
        rcases List.mem_cons.mp z with z | z
        · simp [z]
        · simp [List.mem_singleton.mp z])) hf)
    (fun b o hb e => by
      rw [Heap.get?_update_other _ _ (fun z => hT2f (by rw [z]; exact hb))]
      exact fr2 b o hb e) hz3
  exact wpAny_mono (k _ I3) (fun f s2 z => z) fun _ _ z => z.elim
end
section
variable {X : Cx} {e : Expr} {es : List Expr} {t : TAd} {S : SpD} {C : Addr} {fn xC : Str}
def dTry (i n : Nat) (S : SpD) (t : TAd) : TSd := fun E Δ M => t Δ M fun ds M1 => ds.length = n ∧ S ds M1 fun d M2 => E.nx (Δ.set i (some d)) M2
theorem d_try {i k n : Nat} {x : Str} {p1 p2 p3 p4 p5 p6 p7 p8 p9 p10 : Pos} {j : Nat} (FX : FnX X.prog X.w X.K X.mg X.base fn k n S C) (hr : Room k X.A) (hgf : Gl X fn) (hno : ∀ e s, ¬ X.xe e s) (hsk : X.stack = X.env :: X.outer) (hfm : X.env.frame = some X.env.locals) (hg : Gl X xC) (hm : X.mg xC = some (.ref C))
    (lC : ∃ nm q N bs bm hd sn sub ab col dd k0 k1 k2 k3 k5 newId, X.K.lookup C = some (excClassObj nm q C N bs bm hd sn sub ab col dd k0 k1 k2 k3 k5 newId) ∧ bm.contains (.type "BaseException") = true)
    (hN : X.N.Nodup) (hi : X.N[i]? = some x) (hx : Loc X.env.scope x) (ha : PAd X (e :: es) t) (hdf : (fn == ("__debug__" : Str)) = false := by decide) (hdb : (xC == ("__debug__" : Str)) = false := by decide)
    (he : starEach (e :: es) X.env = (false, eval e X.env) :: starEach es X.env := by rfl) (hpl : (backTo p3 (starEach es X.env)).any (·.1) = false := by rfl)
    (hs : swapsWith (.Call (.Name fn p2) (e :: es) [] p3) (some (.Name x p1)) p4.line X.env = pure false := by rfl) (hs2 : swapsWith (.Constant .none j p7) (some (.Name x p6)) p8.line X.env = pure false := by rfl)
    (hf : X.fn x = true ∨ X.env.scope.names.lookup x = some .local := by first | exact .inl rfl | exact .inr rfl | assumption) :
    PSd X (.Try [.Assign [.Name x p1] (.Call (.Name fn p2) (e :: es) [] p3) p4] [.ExceptHandler (some (.Name xC p5)) none [.Assign [.Name x p6] (.Constant .none j p7) p8] p9] [] [] p10) (dTry i n S t) := by
  intro pins s σ H D I hh
  obtain ⟨Δ, M, E, sr, hrr, q, kk⟩ := hh
  obtain ⟨f, fd, ps, F, hmf, hkf, hbf⟩ := FX.ex
  refine wpAny_Try_except (wpAny_execs_cons (wpAny_Assign_Name (wpAny_Call_Name_kw (ld_glob I hgf hmf ?_ hdf)) hs))
  refine PySem.W.callWith_K (h₀ := X.base) I.ok.mod.kin hkf (wpAny_mono (ha p3 pins s σ H (fun vs H1 => ∃ ds M1, ds.length = n ∧ S ds M1 (fun d M2 => E.nx (Δ.set i (some d)) M2) ∧ Ext M H M1 H1 ∧ HR X.K M1 H1 ∧ RepL X.K M1 H1 ds vs) I
    ⟨Δ, M, _, sr, hrr, q, fun ds M1 vs H1 ⟨hl, q1⟩ e1 hr1 rl => ⟨ds, M1, hl, q1, e1, hr1, rl⟩⟩) (fun us s1 hs => ⟨?_, ?_⟩) fun e s' z => (hno e s' z).elim) he hpl
  · obtain ⟨vs, H1, I1, _⟩ := hs
    exact I1.kIn
  obtain ⟨vs, H1, I1, rv, ds, M1, hl, q1, e1, hr1, rl⟩ := hs
  have hsp : spX X.K n S C vs H1 (fun v H2 => D.nx (σ.set i (some v)) H2) (fun _ _ H2 => D.nx (σ.set i (some .non)) H2) :=
    ⟨ds, M1, _, hl, rl, hr1, q1, fun d M' v H' q' e' hr' rv' => kk.nx _ M' _ H' q' (e1.trans e') hr' (((sr.ext e1).ext e').set i rv'), fun M' H' q' e' hr' => kk.nx _ M' _ H' q' (e1.trans e') hr' (((sr.ext e1).ext e').set i (by simp [Rep]))⟩
  have hpl2 : (us ++ []).length = ps.length := by
    rw [List.append_nil, ← rv.length]; exact F.len _ _ _ _ hsp
  refine wpAny_call (codeAny_mono (F.run X.A X.stack s1 H1 ⟨us, []⟩ us vs _ _ hr I1.env0 (by simpa using hbf s1 us I1.kIn hpl2) rv hsp) fun r s' hq => ?_)
  cases r with
  | error e =>
    obtain ⟨a, T, H', rfl, os, bare, un, hok, h0, hna, hnT, fl, qx⟩ := hq
    refine caught1 I1 hsk hfm hg hm lC os bare un hok h0 hna hnT fl (fun h I3 => ?_) hdb
    let X2 : Cx := { X with A := X.A.mark (some (.ref a)), calm := false, xe := fun _ _ => False }
    have J : Inv X2 pins σ H' { s' with heap := h } := ⟨⟨I3.ok.mod, I3.ok.kind, I3.ok.glob, I3.ok.blt, I3.ok.above, I3.ok.inj, I3.ok.has, I3.ok.cab, fun z => (by cases z), I3.ok.frames, I3.ok.stk, I3.ok.exf, I3.ok.bs, I3.ok.bsz, I3.ok.noex, I3.ok.exfs, I3.ok.funs, I3.ok.frf⟩, I3.os, I3.bare, I3.base, I3.loc, I3.cell, I3.free, I3.freeC, I3.pin, I3.hok, I3.len⟩
    have hset : PSs X2 [.Assign [.Name x p6] (.Constant .none j p7) p8] (tAsg (tC .non) (gName i)) := pss_one (ps_set (X := X2) hN hi hx pe_non hs2 hf)
    refine wpAny_mono (hset pins _ σ H' D J qx) (fun fl s2 z => ?_) fun _ _ z => z
    cases fl with
    | next => obtain ⟨σ2, H2, J2, q2⟩ := z; exact ⟨σ2, H2, ⟨I.ok, J2.os, J2.bare, J2.base, J2.loc, J2.cell, J2.free, J2.freeC, J2.pin, J2.hok, J2.len⟩, q2⟩
    | brk => obtain ⟨σ2, H2, J2, q2⟩ := z; exact ⟨σ2, H2, ⟨I.ok, J2.os, J2.bare, J2.base, J2.loc, J2.cell, J2.free, J2.freeC, J2.pin, J2.hok, J2.len⟩, q2⟩
    | cont => obtain ⟨σ2, H2, J2, q2⟩ := z; exact ⟨σ2, H2, ⟨I.ok, J2.os, J2.bare, J2.base, J2.loc, J2.cell, J2.free, J2.freeC, J2.pin, J2.hok, J2.len⟩, q2⟩
    | ret u => obtain ⟨v2, σ2, H2, J2, r2, q2⟩ := z; exact ⟨v2, σ2, H2, ⟨I.ok, J2.os, J2.bare, J2.base, J2.loc, J2.cell, J2.free, J2.freeC, J2.pin, J2.hok, J2.len⟩, r2, q2⟩
  | ok fl =>
    cases fl with
    | ret u =>
      obtain ⟨v2, H2, I2, rv2, q2⟩ := I1.after hq
      exact store_ok I2 hN hi hx rv2 (fun s2 I3 => wpAny_execs_nil (wpAny_execs_nil ⟨_, H2, I3, q2⟩)) hf
    | next => exact False.elim hq
    | brk => exact False.elim hq
    | cont => exact False.elim hq
theorem q_try {i k n : Nat} {x : Str} {p1 p2 p3 p4 p5 p6 p7 p8 p9 p10 : Pos} {j : Nat} (FX : FnX X.prog X.w X.K X.mg X.base fn k n S C) (hr : Room k X.A) (hgf : Gl X fn) (hno : ∀ e s, ¬ X.xe e s) (hsk : X.stack = X.env :: X.outer) (hfm : X.env.frame = some X.env.locals) (hg : Gl X xC) (hm : X.mg xC = some (.ref C))
    (lC : ∃ nm q N bs bm hd sn sub ab col dd k0 k1 k2 k3 k5 newId, X.K.lookup C = some (excClassObj nm q C N bs bm hd sn sub ab col dd k0 k1 k2 k3 k5 newId) ∧ bm.contains (.type "BaseException") = true)
    (hN : X.N.Nodup) (hi : X.N[i]? = some x) (hx : Loc X.env.scope x) (ha : QAd X (e :: es) t) (hdf : (fn == ("__debug__" : Str)) = false := by decide) (hdb : (xC == ("__debug__" : Str)) = false := by decide)
    (he : starEach (e :: es) X.env = (false, eval e X.env) :: starEach es X.env := by rfl) (hpl : (backTo p3 (starEach es X.env)).any (·.1) = false := by rfl)
    (hs : swapsWith (.Call (.Name fn p2) (e :: es) [] p3) (some (.Name x p1)) p4.line X.env = pure false := by rfl) (hs2 : swapsWith (.Constant .none j p7) (some (.Name x p6)) p8.line X.env = pure false := by rfl)
    (hf : X.fn x = true ∨ X.env.scope.names.lookup x = some .local := by first | exact .inl rfl | exact .inr rfl | assumption) :
    QSd X (.Try [.Assign [.Name x p1] (.Call (.Name fn p2) (e :: es) [] p3) p4] [.ExceptHandler (some (.Name xC p5)) none [.Assign [.Name x p6] (.Constant .none j p7) p8] p9] [] [] p10) (dTry i n S t) := by
  rw [QSd.eq]
  rw [QAd.eq] at ha
  exact d_try FX hr hgf hno hsk hfm hg hm lC hN hi hx ha hdf hdb he hpl hs hs2 hf
end
theorem ExcK.cls {K : PySem.W.Frag} {mg : Str → Option Value} {xC xW fld : Str} {C W fI : Addr} (Y : ExcK K mg xC xW fld C W fI) : ∃ nm q N bs bm hd sn sub ab col dd k0 k1 k2 k3 k5 newId, K.lookup C = some (excClassObj nm q C N bs bm hd sn sub ab col dd k0 k1 k2 k3 k5 newId) ∧ bm.contains (.type "BaseException") = true := by
  obtain ⟨nm, q, N, bs, sn, sub, ab, col, dd, k0, k1, k2, k3, k5, lC⟩ := Y.lC
  exact ⟨nm, q, N, bs, _, _, sn, sub, ab, col, dd, k0, k1, k2, k3, k5, _, lC, rfl⟩
def clsAt (s : Stmt) (i : Nat) : Stmt := match s with
  | .ClassDef _ _ _ b _ _ _ _ _ _ _ => b.getD i (.Pass ⟨0, 0, 0, 0⟩)
  | _ => .Pass ⟨0, 0, 0, 0⟩
def neverS : SpD := fun _ _ _ => False
theorem ok_never {P : Program} {w : World} {K : PySem.W.Frag} {mg : Str → Option Value} {base : Heap} {CX : CXT} {k n : Nat} {f : Addr} {fd : FuncData} {ps : List Str} : FnOk P w K mg base CX k f fd ps (spD K n neverS) :=
  ⟨fun vs H Q E h => by obtain ⟨_, _, _, _, _, _, h, _⟩ := h; exact h.elim, fun A outer s H args us vs Q E _ _ _ _ h => by obtain ⟨_, _, _, _, _, _, h, _⟩ := h; exact h.elim⟩
end L2

set_option Elab.async false
set_option linter.all false
set_option maxRecDepth 100000
set_option maxHeartbeats 4000000
namespace My
open PySem PySem.Spec PyProof.Rows L2
def top (i : Nat) : Stmt := PySem.Challenge.pw_wordwishes_k12_neighbours_that_cancel.main.body.getD i (.Pass ⟨0, 0, 0, 0⟩)
abbrev s_p_is_whole : Stmt := top 6
abbrev s_p_is_tuple_of : Stmt := top 7
abbrev s_p_is_tuple_called : Stmt := top 8
abbrev s_p_is_short_word : Stmt := top 9
abbrev s_p_are_alike : Stmt := top 10
abbrev s_p_is_mark : Stmt := top 12
abbrev s_p_reached_from : Stmt := top 13
abbrev s_p_at_most : Stmt := top 14
abbrev s_p_is_turn : Stmt := top 17
abbrev s_p_is_sign : Stmt := top 18
abbrev s_p_mark_leads : Stmt := top 19
abbrev s_p_leads : Stmt := top 20
abbrev s_p_cancel : Stmt := top 21
abbrev s_p_may_grow : Stmt := top 22
abbrev s_p_is_place : Stmt := top 24
abbrev s_p_by_cancel : Stmt := top 25
abbrev s_p_by_order : Stmt := top 26
abbrev s_p_by_grow : Stmt := top 27
abbrev s_p_by_step : Stmt := top 28
abbrev s_p_gone : Stmt := top 29
abbrev s_p_cancels_in : Stmt := top 30
abbrev s_l_mixed : Stmt := top 32
abbrev s_l_pack : Stmt := top 33
abbrev s_l_take : Stmt := top 34
abbrev s_l_marks : Stmt := top 35
abbrev s_l_order : Stmt := top 36
abbrev s_l_above : Stmt := top 37
abbrev s_l_leads : Stmt := top 38
abbrev s_l_cancels : Stmt := top 39
abbrev s_l_row : Stmt := top 40
abbrev s_l_gone : Stmt := top 41
abbrev s_l_long_right : Stmt := top 42
abbrev s_law : Stmt := top 43
abbrev n_p_is_whole : List Str := ["thing"]
theorem sc_p_is_whole : FnScope n_p_is_whole ["thing"] (defScope s_p_is_whole) := ⟨rfl, rfl, rfl, by decide +kernel, rfl, by decide +kernel, by decide +kernel⟩
abbrev n_p_is_tuple_of : List Str := ["thing", "many"]
theorem sc_p_is_tuple_of : FnScope n_p_is_tuple_of ["thing", "many"] (defScope s_p_is_tuple_of) := ⟨rfl, rfl, rfl, by decide +kernel, rfl, by decide +kernel, by decide +kernel⟩
abbrev n_p_is_tuple_called : List Str := ["thing", "name", "many"]
theorem sc_p_is_tuple_called : FnScope n_p_is_tuple_called ["thing", "name", "many"] (defScope s_p_is_tuple_called) := ⟨rfl, rfl, rfl, by decide +kernel, rfl, by decide +kernel, by decide +kernel⟩
abbrev n_p_is_short_word : List Str := ["thing"]
abbrev n_p_are_alike : List Str := ["one", "other"]
theorem sc_p_are_alike : FnScope n_p_are_alike ["one", "other"] (defScope s_p_are_alike) := ⟨rfl, rfl, rfl, by decide +kernel, rfl, by decide +kernel, by decide +kernel⟩
abbrev n_p_is_mark : List Str := ["thing"]
abbrev n_p_reached_from : List Str := ["pairs", "mark", "reached", "at", "low", "high"]
theorem sc_p_reached_from : FnScope n_p_reached_from ["pairs", "mark"] (defScope s_p_reached_from) := ⟨rfl, rfl, rfl, by decide +kernel, rfl, by decide +kernel, by decide +kernel⟩
abbrev n_p_at_most : List Str := ["order", "one", "other"]
theorem sc_p_at_most : FnScope n_p_at_most ["order", "one", "other"] (defScope s_p_at_most) := ⟨rfl, rfl, rfl, by decide +kernel, rfl, by decide +kernel, by decide +kernel⟩
abbrev n_p_is_turn : List Str := ["thing"]
abbrev n_p_is_sign : List Str := ["thing"]
abbrev n_p_mark_leads : List Str := ["order", "turn", "one", "other"]
theorem sc_p_mark_leads : FnScope n_p_mark_leads ["order", "turn", "one", "other"] (defScope s_p_mark_leads) := ⟨rfl, rfl, rfl, by decide +kernel, rfl, by decide +kernel, by decide +kernel⟩
abbrev n_p_leads : List Str := ["order", "one", "other"]
abbrev n_p_cancel : List Str := ["order", "one", "other"]
theorem sc_p_cancel : FnScope n_p_cancel ["order", "one", "other"] (defScope s_p_cancel) := ⟨rfl, rfl, rfl, by decide +kernel, rfl, by decide +kernel, by decide +kernel⟩
abbrev n_p_may_grow : List Str := ["order", "one", "other"]
abbrev n_p_is_place : List Str := ["thing", "most"]
theorem sc_p_is_place : FnScope n_p_is_place ["thing", "most"] (defScope s_p_is_place) := ⟨rfl, rfl, rfl, by decide +kernel, rfl, by decide +kernel, by decide +kernel⟩
abbrev n_p_by_cancel : List Str := ["order", "signs", "place"]
theorem sc_p_by_cancel : FnScope n_p_by_cancel ["order", "signs", "place"] (defScope s_p_by_cancel) := ⟨rfl, rfl, rfl, by decide +kernel, rfl, by decide +kernel, by decide +kernel⟩
abbrev n_p_by_order : List Str := ["order", "signs", "place", "mark", "sign"]
abbrev n_p_by_grow : List Str := ["order", "signs", "place", "one", "other"]
abbrev n_p_by_step : List Str := ["order", "signs", "step"]
theorem sc_p_by_step : FnScope n_p_by_step ["order", "signs", "step"] (defScope s_p_by_step) := ⟨rfl, rfl, rfl, by decide +kernel, rfl, by decide +kernel, by decide +kernel⟩
abbrev n_p_gone : List Str := ["order", "row", "walk", "signs", "number", "step", "change", "begin", "end", "put"]
theorem sc_p_gone : FnScope n_p_gone ["order", "row", "walk"] (defScope s_p_gone) := ⟨rfl, rfl, rfl, by decide +kernel, rfl, by decide +kernel, by decide +kernel⟩
abbrev n_p_cancels_in : List Str := ["order", "row"]
theorem sc_p_cancels_in : FnScope n_p_cancels_in ["order", "row"] (defScope s_p_cancels_in) := ⟨rfl, rfl, rfl, by decide +kernel, rfl, by decide +kernel, by decide +kernel⟩
abbrev n_l_mixed : List Str := ["_law_cell"]
theorem sc_l_mixed : FnScope n_l_mixed ["_law_cell"] (defScope s_l_mixed) := ⟨rfl, rfl, rfl, by decide +kernel, rfl, by decide +kernel, by decide +kernel⟩
abbrev n_l_pack : List Str := ["_law_script", "_law_k", "_law_found", "_law_cell"]
theorem sc_l_pack : FnScope n_l_pack ["_law_script", "_law_k"] (defScope s_l_pack) := ⟨rfl, rfl, rfl, by decide +kernel, rfl, by decide +kernel, by decide +kernel⟩
abbrev n_l_take : List Str := ["_law_pack_here", "_law_size", "_law_digit"]
theorem sc_l_take : FnScope n_l_take ["_law_pack_here", "_law_size"] (defScope s_l_take) := ⟨rfl, rfl, rfl, by decide +kernel, rfl, by decide +kernel, by decide +kernel⟩
abbrev n_l_marks : List Str := ["_law_pack_here", "_law_some"]
theorem sc_l_marks : FnScope n_l_marks ["_law_pack_here"] (defScope s_l_marks) := ⟨rfl, rfl, rfl, by decide +kernel, rfl, by decide +kernel, by decide +kernel⟩
abbrev n_l_order : List Str := ["_law_pack_here", "_law_marks_here", "_law_found", "_law_k", "_law_start"]
theorem sc_l_order : FnScope n_l_order ["_law_pack_here", "_law_marks_here"] (defScope s_l_order) := ⟨rfl, rfl, rfl, by decide +kernel, rfl, by decide +kernel, by decide +kernel⟩
abbrev n_l_above : List Str := ["_law_order_here", "_law_mark", "_law_found", "_law_k", "_law_low", "_law_high"]
theorem sc_l_above : FnScope n_l_above ["_law_order_here", "_law_mark"] (defScope s_l_above) := ⟨rfl, rfl, rfl, by decide +kernel, rfl, by decide +kernel, by decide +kernel⟩
abbrev n_l_leads : List Str := ["_law_order_here", "_law_one", "_law_other"]
theorem sc_l_leads : FnScope n_l_leads ["_law_order_here", "_law_one", "_law_other"] (defScope s_l_leads) := ⟨rfl, rfl, rfl, by decide +kernel, rfl, by decide +kernel, by decide +kernel⟩
abbrev n_l_cancels : List Str := ["_law_order_here", "_law_one", "_law_other"]
theorem sc_l_cancels : FnScope n_l_cancels ["_law_order_here", "_law_one", "_law_other"] (defScope s_l_cancels) := ⟨rfl, rfl, rfl, by decide +kernel, rfl, by decide +kernel, by decide +kernel⟩
abbrev n_l_row : List Str := ["_law_pack_here", "_law_marks_here", "_law_row_here", "_law_turn", "_law_k"]
theorem sc_l_row : FnScope n_l_row ["_law_pack_here", "_law_marks_here"] (defScope s_l_row) := ⟨rfl, rfl, rfl, by decide +kernel, rfl, by decide +kernel, by decide +kernel⟩
abbrev n_l_gone : List Str := ["_law_order_here", "_law_row_here", "_law_place", "_law_found"]
theorem sc_l_gone : FnScope n_l_gone ["_law_order_here", "_law_row_here", "_law_place"] (defScope s_l_gone) := ⟨rfl, rfl, rfl, by decide +kernel, rfl, by decide +kernel, by decide +kernel⟩
abbrev n_l_long_right : List Str := ["_law_order_here", "_law_row_here", "_law_script", "_law_size", "_law_wide", "_law_pairs", "_law_long", "_law_due", "_law_last"]
theorem sc_l_long_right : FnScope n_l_long_right ["_law_order_here", "_law_row_here", "_law_script"] (defScope s_l_long_right) := ⟨rfl, rfl, rfl, by decide +kernel, rfl, by decide +kernel, by decide +kernel⟩
abbrev n_law : List Str := ["_law_script", "_law_pack_here", "_law_marks_here", "_law_order_here", "_law_cell", "_law_row_here", "_law_due", "_law_found", "_law_place", "_law_told"]
theorem sc_law : FnScope n_law ["_law_script"] (defScope s_law) := ⟨rfl, rfl, rfl, by decide +kernel, rfl, by decide +kernel, by decide +kernel⟩
abbrev s_init : Stmt := clsAt (top 2) 0
theorem sc_init : FnScope ["self", "number"] ["self", "number"] (defScope s_init) := ⟨rfl, rfl, rfl, by decide +kernel, rfl, by decide +kernel, by decide +kernel⟩
theorem ok_init {P : Program} {w : World} {K : PySem.W.Frag} {mg : Str → Option Value} {base : Heap} {C W fI f : Addr} {fd : FuncData} (F : Fun K "__init__" "NoStep.__init__" s_init f fd) (Y : ExcK K mg "NoStep" "WishError" "number" C W fI) : FnOk P w K mg base CX0 1 f fd ["self", "number"] (spI C) := by
  refine F.ok sc_init (fun vs H Q E h => ?_) (fun cdv A outer s H vs Q E hr h => ⟨_, pss_cons (ps_expr (pe_wi Y 0 rfl (pv 0) pe_str)) (pss_one (ps_sa Y 0 1 (pv 0) (pv 1))), ?_⟩)
  · obtain ⟨e, v, rfl, _⟩ := h; rfl
  · obtain ⟨e, v, rfl, he, q⟩ := h
    exact ⟨e, rfl, he, e, v, rfl, rfl, he, q⟩
structure Txt (mg : Str → Option Value) : Prop where
  b_isinstance : mg "isinstance" = none
  b_int : mg "int" = none
  b_bool : mg "bool" = none
  b_tuple : mg "tuple" = none
  b_len : mg "len" = none
  b_str : mg "str" = none
  b_all : mg "all" = none
  b_list : mg "list" = none
  b_enumerate : mg "enumerate" = none
  b_range : mg "range" = none
  b_divmod : mg "divmod" = none
  b_sum : mg "sum" = none
  g_SMALL_LETTERS : ∃ t, mg "SMALL_LETTERS" = some (.str "abcdefghijklmnopqrstuvwxyz" t)
  g_MOST_LETTERS : ∃ t, mg "MOST_LETTERS" = some (.int 8 t)
  g_MOST_TURN : ∃ t, mg "MOST_TURN" = some (.int 99 t)
set_option hygiene false in
local macro_rules | `(tactic| walk_at "rd") => `(tactic| simp only [dSeq, dTry, dRaise, dSet, dVar, dC, dIfS, dNext, dRet, dRetF, dRetG, dOp, dTst, dOrT, dAndT, dNotT, dCB, dCons, dNil, dLst, dLstO, dTup, dApp, dDrop, dAug, dAnd, dNot, dCall, dFor, diRng1, diAny, dWhile, dIsi, dSlE, dPutN, dPutS, dListO, diEnum, dmD_ii, maxD_ii, cpow1060, dChain, dLcO, dNoPart, dPart, dLc, dAsg,
  rdM_int, rdM_bl, rdM_str, rdM_non, rdM_tup, rdM_lst, rdM_scr, rdM_upd, iOp_ii, addD_ii, addD_ss, addD_ll, addD_tt, ixD_l, ixD_t, ixD_c, atI_0, atI_1, atI_2, one1_one, lenD_l, lenD_t, lenD_c, lenD_s, absD_i, tupD_l, tupD_t, eqF_ii, neF_ii, neF_ss, neF_bb, slE_t, slE_l, slE_c, slE_s, eqF_ss, eqF_bb, slD_c, slD_l, slD_s, itemsD_l, itemsD_t, itemsD_c, itemsD_s, ixN_0, ixN_1, ixN_2, inD_l, inD_t, inE_l, inE_t, inE_s, mulE_ii, isNoneD_n, isiD_b, updM_same, updM_upd,
  startD, List.map_cons, List.map_nil, List.cons_append, List.nil_append, List.length_cons, List.length_nil, List.replicate, List.set_cons_zero, List.set_cons_succ, List.getElem?_cons_zero, List.getElem?_cons_succ, Option.some.injEq, exists_eq_left', exists_eq_left, D.int.injEq, D.bl.injEq, D.str.injEq, D.ref.injEq, D.tup.injEq, D.lst.injEq, true_and, and_true, if_true, decide_eq_true_eq, exists_and_left, Nat.zero_add, Nat.reduceAdd, Nat.reduceSub, cmulR, cmulL, cpow1018, cdivL, HD.lst.injEq, List.cons.injEq, or_true, true_or, and_self, ↓reduceIte, Int.reduceLT, Int.reduceLE, Int.reducePow, Int.reduceNeg, Int.reduceToNat, Nat.reducePow, Nat.reduceLT, Nat.reduceLeDiff, Int.reduceAdd, Int.reduceMul, Int.reduceSub, Bool.false_eq_true, Bool.true_eq_false, if_false])

section
variable {P : Program} {w : World} {K : PySem.W.Frag} {mg : Str → Option Value} {base : Heap}
def IsPool (l : List D) : Prop := ∃ N : Int, l = [.int N]
def S_l_mixed : SpD := fun ds M R => ∃ c, ds = [.int c] ∧ Few c ∧ ∀ v, 0 ≤ v → v < 10 ^ 60 → R (.int v) M
def S_l_pack : SpD := fun ds M R => ∃ (ns : List Int) (k : Int), ds = [.scr (ns.map .int), .int k] ∧ (∀ m ∈ ns, Few m) ∧ ns.length ≤ 63 ∧ 0 ≤ k ∧ k ≤ 100 ∧ ∀ p l, M p = none → IsPool l → R (.ref p) (updM M p (.lst l))
def S_l_take : SpD := fun ds M R => ∃ p l n, ds = [.ref p, .int n] ∧ M p = some (.lst l) ∧ IsPool l ∧ 0 < n ∧ n < 1073741824 ∧ ∀ v l', 0 ≤ v → v < n → IsPool l' → R (.int v) (updM M p (.lst l'))
theorem ok_l_mixed {f : Addr} {fd : FuncData} (F : Fun K "_law_mixed" "_law_mixed" s_l_mixed f fd) (T : Txt mg)  : FnOk P w K mg base CX0 1 f fd ["_law_cell"] (spD K 1 S_l_mixed) := by
  have nd := sc_l_mixed.nd
  refine F.okQ rfl sc_l_mixed (fun cdv A outer s H E hr => ⟨_, (q_sone (q_ret (q_op o_mod (q_op o_mulB (q_var 0) q_int) (q_op o_pow q_int q_int)))), fun ds M R hl hS => ?_⟩)
  obtain ⟨c, rfl, hc, k⟩ := hS
  have hm : CMulB c 577215664901532860606512090082402431042159335939923598805767 = True := cmulF ⟨hc, few_60 (by decide) (by decide)⟩
  walk_at "rd"
  simp only [hm]
  walk_at "rd"
  exact k _ (by omega) (by omega)
theorem ok_l_take {f : Addr} {fd : FuncData} (F : Fun K "_law_take" "_law_take" s_l_take f fd) (T : Txt mg)  : FnOk P w K mg base CX0 1 f fd ["_law_pack_here", "_law_size"] (spD K 2 S_l_take) := by
  have nd := sc_l_take.nd
  refine F.okQ rfl sc_l_take (fun cdv A outer s H E hr => ⟨_, (q_scons (q_putN (n := 2) rfl nd rfl (Or.inl rfl) (q_var 0) q_int (q_callB c_divmod rfl T.b_divmod (by kernel_rfl) (q_cons (q_ix o_ix (q_var 0) q_int (fun _ _ => rfl)) (q_cons (q_var 1) q_nil))))
      (q_sone (q_ret (q_var 2)))), fun ds M R hl hS => ?_⟩)
  obtain ⟨p, l, n, rfl, hM, ⟨N, rfl⟩, h0, h1, k⟩ := hS
  have hrd := rdM_ref hM
  have hcd : ∀ x, CDiv x n := fun x => ⟨h0, h1⟩
  walk_at "rd"
  simp only [hrd, hM, hcd]
  walk_at "rd"
  exact ⟨_, if_pos (hcd N), _, _, rfl, k _ _ (Int.emod_nonneg _ (by omega)) (Int.emod_lt_of_pos _ h0) ⟨_, rfl⟩⟩
theorem map_getI {ms : List Int} {i : Nat} {d : D} (h : (ms.map D.int)[i]? = some d) : ∃ c, c ∈ ms ∧ d = .int c := by
  rw [List.getElem?_map] at h
  cases q : ms[i]? with
  | none => rw [q] at h; cases h
  | some c => rw [q] at h; cases h; exact ⟨c, List.mem_of_getElem? q, rfl⟩
theorem cut_sub {ns : List Int} {lo hi : Option Int} : ∃ ms : List Int, L2.cutD (ns.map D.int) lo hi = ms.map D.int ∧ ms.length ≤ ns.length ∧ ∀ m ∈ ms, m ∈ ns := by
  refine ⟨(ns.drop (HT.sIx (ns.map D.int).length 0 lo)).take (HT.sIx (ns.map D.int).length (ns.map D.int).length hi - HT.sIx (ns.map D.int).length 0 lo), ?_, ?_, ?_⟩
  · unfold L2.cutD
    rw [List.map_take, List.map_drop]
  · simp; omega
  · intro m hm
    exact List.mem_of_mem_drop (List.mem_of_mem_take hm)
theorem few_pow {x : Int} {n : Nat} (h0 : 0 ≤ x) (h1 : x < 10 ^ n) (hn : n ≤ 10000) : Few x := by
  unfold Few
  rw [intBits_le_iff]
  obtain ⟨m, rfl⟩ := Int.eq_ofNat_of_zero_le h0
  have h2 : m < 10 ^ n := by exact_mod_cast h1
  have h3 : 10 ^ n ≤ (2 ^ 4) ^ n := Nat.pow_le_pow_left (by decide) n
  rw [← Nat.pow_mul] at h3
  have h4 : 2 ^ (4 * n) ≤ 2 ^ (2 ^ 20) := Nat.pow_le_pow_right (by decide) (by have : (2:Nat) ^ 20 = 1048576 := by decide
                                                                               omega)
  have e : (Int.ofNat m).natAbs = m := rfl
  show (Int.ofNat m).natAbs < _
  rw [e]
  exact Nat.lt_of_lt_of_le h2 (Nat.le_trans h3 h4)
theorem ok_l_pack {f : Addr} {fd : FuncData} (F : Fun K "_law_pack" "_law_pack" s_l_pack f fd) (T : Txt mg) (g_l_mixed : FnD P w K mg base "_law_mixed" 1 1 S_l_mixed) : FnOk P w K mg base CX0 2 f fd ["_law_script", "_law_k"] (spD K 2 S_l_pack) := by
  have nd := sc_l_pack.nd
  refine F.okQ rfl sc_l_pack (fun cdv A outer s H E hr => ⟨_, (q_scons (q_set (i := 2) nd rfl (Or.inl rfl) q_int)
      (q_scons (q_for PassesOwn.never rfl (qi_any (q_sliceE (q_var 0) (qo_some (q_var 1)) (qo_some (q_op o_add (q_var 1) q_int)))) (g_name (i := 3) nd rfl (Or.inl rfl)) (q_sone (q_set (i := 2) nd rfl (Or.inl rfl) (q_op o_add (q_op o_mulB (q_var 2) (q_op o_pow q_int q_int)) (qc g_l_mixed (hr.mono (by decide)) rfl (q_cons (q_var 3) q_nil))))))
      (q_sone (q_ret (q_lstO (q_cons (q_var 2) q_nil)))))), fun ds M R hl hS => ?_⟩)
  obtain ⟨ns, k0, rfl, hf, hl, h0, h1, k⟩ := hS
  walk_at "rd"
  obtain ⟨ms, hms, hml, hin⟩ := cut_sub (ns := ns) (lo := some k0) (hi := some (k0 + 2))
  rw [hms]
  intro hz
  refine forRun_by (fun i Δ M' => ∃ (x : Int) (y : Option D), Δ = [some (D.scr (List.map D.int ns)), some (D.int k0), some (D.int x), y] ∧ M' = M ∧ 0 ≤ x ∧ x < 10 ^ (60 * i)) ⟨0, none, rfl, rfl, by omega, by simp⟩ ?_ ?_
  · rintro i d Δ M' X hd ⟨x, y, rfl, rfl, hx0, hx1⟩ k'
    have hi : i < ms.length := by
      have := (List.getElem?_eq_some_iff.mp hd).1
      simpa using this
    obtain ⟨c, hc, rfl⟩ := map_getI hd
    simp only [gdName]
    have hm : CMulB x (10 ^ (60 : Nat)) = True := cmulF ⟨few_pow hx0 hx1 (by omega), few_pow (n := 61) (by decide) (by decide) (by decide)⟩
    walk_at "rd"
    simp only [Int.reducePow] at hm
    simp only [hm]
    walk_at "rd"
    refine ⟨c, rfl, hf c (hin c hc), fun v hv0 hv1 => ?_⟩
    walk_at "rd"
    refine k' _ _ ⟨_, _, rfl, rfl, by omega, ?_⟩
    have e : (10 : Int) ^ (60 * (i + 1)) = 10 ^ (60 * i) * 10 ^ 60 := by rw [Nat.mul_add, Int.pow_add]
    rw [e]
    generalize (10 : Int) ^ (60 * i) = Z at hx1
    omega
  · rintro Δ M' ⟨x, y, rfl, rfl, hx0, hx1⟩
    walk_at "rd"
    exact ⟨sz3 1, fun p hp => k p _ hp ⟨x, rfl⟩⟩

end
section
variable {P : Program} {w : World} {K : PySem.W.Frag} {mg : Str → Option Value} {base : Heap}
def pairD (x : Str × Str) : D := .tup [.str x.1, .str x.2]
theorem marks_at {marks : List Str} {v : Int} (h0 : 0 ≤ v) (h1 : v < (marks.length : Int)) : ∃ m ∈ marks, atI (marks.map D.str) v = some (.str m) := by
  obtain ⟨n, rfl⟩ := Int.eq_ofNat_of_zero_le h0
  have hn : n < marks.length := by omega
  exact ⟨marks[n], List.getElem_mem hn, atI_nat (by simp [hn])⟩
theorem updM_comm {M : DH} {p q : Addr} {a b : HD} (h : p ≠ q) : updM (updM M p a) q b = updM (updM M q b) p a := by
  funext c
  unfold updM
  by_cases h1 : c = q
  · subst h1; simp [Ne.symm h]
  · by_cases h2 : c = p
    · subst h2; simp [h]
    · simp [h1, h2]

end
section
variable {P : Program} {w : World} {K : PySem.W.Frag} {mg : Str → Option Value} {base : Heap}
mutual
def goodD : D → Bool
  | .tup ds => goodDs ds
  | .lst ds => goodDs ds
  | .str x => decide (x.length ≤ 1000000)
  | .scr _ => false
  | .ref _ => false
  | _ => true
def goodDs : List D → Bool
  | [] => true
  | d :: ds => goodD d && goodDs ds
end
theorem rdM_good {M : DH} {d : D} (h : goodD d = true) : rdM M d = d := by
  cases d <;> first | rfl | (simp [goodD] at h)
def tupOf : D → Int → Bool
  | .tup ds, n => (ds.length : Int) == n
  | _, _ => false
def S_p_is_tuple_of : SpD := fun ds M R => ∃ d n, ds = [d, .int n] ∧ goodD d = true ∧ R (.bl (tupOf d n)) M
theorem S_is_tuple_of_iff {d : D} {n : Int} {M : DH} {R : D → DH → Prop} : S_p_is_tuple_of [d, .int n] M R ↔ goodD d = true ∧ R (.bl (tupOf d n)) M :=
  ⟨fun ⟨d', n', e, h⟩ => by simp only [List.cons.injEq, D.int.injEq, and_true] at e; rw [e.1, e.2]; exact h, fun h => ⟨d, n, rfl, h⟩⟩
theorem ok_p_is_tuple_of {f : Addr} {fd : FuncData} (F : Fun K "is_tuple_of" "is_tuple_of" s_p_is_tuple_of f fd) (T : Txt mg)  : FnOk P w K mg base CX0 1 f fd ["thing", "many"] (spD K 2 S_p_is_tuple_of) := by
  have nd := sc_p_is_tuple_of.nd
  refine F.okQ rfl sc_p_is_tuple_of (fun cdv A outer s H E hr => ⟨_, (q_sone (q_ret (q_and (q_isi (Tn := "tuple") (by decide) rfl T.b_isinstance rfl T.b_tuple (by kernel_rfl) (q_var 0)) (q_one (q_cmp (o_eq hr.units) (q_callB c_len rfl T.b_len (by kernel_rfl) (q_cons (q_var 0) q_nil)) (q_var 1) (by first | exact nobehind _ (by decide) (by decide) | rfl)))))), fun ds M R hl hS => ?_⟩)
  obtain ⟨d, n, rfl, hd, k⟩ := hS
  walk_at "rd"
  simp only [rdM_good hd]
  cases d with
  | tup ds =>
    refine ⟨true, rfl, ?_⟩
    walk_at "rd"
    exact k
  | scr _ => simp [goodD] at hd
  | ref _ => simp [goodD] at hd
  | _ => exact ⟨false, rfl, by simp only [Bool.false_eq_true, if_false]; exact k⟩
theorem ok_p_is_short_word {f : Addr} {fd : FuncData} (F : Fun K "is_short_word" "is_short_word" s_p_is_short_word f fd) (T : Txt mg)  : FnOk P w K mg base CX0 1 f fd ["thing"] (spD K 1 neverS) := ok_never
theorem ok_p_is_mark {f : Addr} {fd : FuncData} (F : Fun K "is_mark" "is_mark" s_p_is_mark f fd) (T : Txt mg) (g_p_is_short_word : FnD P w K mg base "is_short_word" 1 1 neverS) : FnOk P w K mg base CX0 2 f fd ["thing"] (spD K 1 neverS) := ok_never

end
section
variable {P : Program} {w : World} {K : PySem.W.Frag} {mg : Str → Option Value} {base : Heap}
theorem cut_to {xs : List D} {n : Nat} : L2.cutD xs none (some (n : Int)) = xs.take n := by
  unfold L2.cutD
  rw [HT.sIx_none, HT.sIx_nat, List.drop_zero, Nat.sub_zero]
  by_cases h : n ≤ xs.length
  · rw [Nat.min_eq_left h]
  · rw [Nat.min_eq_right (by omega), List.take_length, List.take_of_length_le (by omega)]
theorem cut_from {xs : List D} {n : Nat} : L2.cutD xs (some (n : Int)) none = xs.drop n := by
  unfold L2.cutD
  rw [HT.sIx_none, HT.sIx_nat]
  by_cases h : n ≤ xs.length
  · rw [Nat.min_eq_left h, List.take_of_length_le (by simp)]
  · rw [Nat.min_eq_right (by omega), Nat.sub_self, List.take_zero, List.drop_of_length_le (by omega)]
theorem slE_to {ws : List Str} {n : Nat} : slE (.lst (ws.map .str)) none (some (n : Int)) = some (.lst ((ws.take n).map .str)) := by rw [slE_l, cut_to, List.map_take]
theorem rngD_len {lo : Int} {n : Nat} : (rngD lo n).length = n := by simp [rngD]

end
section
variable {P : Program} {w : World} {K : PySem.W.Frag} {mg : Str → Option Value} {base : Heap}
def S_l_marks : SpD := fun ds M R => ∃ p l, ds = [.ref p] ∧ M p = some (.lst l) ∧ IsPool l ∧ ∀ (ws : List Str) l', ws ≠ [] → ws.length ≤ 9 → IsPool l' → R (.lst (ws.map .str)) (updM M p (.lst l'))
def mk1 : List Str := ["n", "s", "pp", "vmark", "abcdefgh", "nn", "ss", "q", "zzzzzzzz"]
def mk2 : List Str := ["a", "aa", "aaa", "ab", "b", "ba", "bb", "c", "ac"]
def mk3 : List Str := ["ijk", "lmo", "qrt", "uwx", "yzg", "de", "fh", "o", "i"]
theorem three_lists {v : Int} (h0 : 0 ≤ v) (h1 : v < 3) : ∃ ws : List Str, ws.length = 9 ∧ atI [D.lst (mk1.map D.str), D.lst (mk2.map D.str), D.lst (mk3.map D.str)] v = some (D.lst (ws.map D.str)) := by
  have : v = 0 ∨ v = 1 ∨ v = 2 := by omega
  rcases this with rfl | rfl | rfl
  · exact ⟨mk1, rfl, rfl⟩
  · exact ⟨mk2, rfl, rfl⟩
  · exact ⟨mk3, rfl, rfl⟩
theorem eight_at {v : Int} (h0 : 0 ≤ v) (h1 : v < 8) : ∃ n : Nat, 1 ≤ n ∧ n ≤ 9 ∧ atI [D.int 1, D.int 2, D.int 3, D.int 4, D.int 5, D.int 3, D.int 4, D.int 9] v = some (.int (n : Int)) := by
  have : v = 0 ∨ v = 1 ∨ v = 2 ∨ v = 3 ∨ v = 4 ∨ v = 5 ∨ v = 6 ∨ v = 7 := by omega
  rcases this with rfl | rfl | rfl | rfl | rfl | rfl | rfl | rfl
  · exact ⟨1, by omega, by omega, rfl⟩
  · exact ⟨2, by omega, by omega, rfl⟩
  · exact ⟨3, by omega, by omega, rfl⟩
  · exact ⟨4, by omega, by omega, rfl⟩
  · exact ⟨5, by omega, by omega, rfl⟩
  · exact ⟨3, by omega, by omega, rfl⟩
  · exact ⟨4, by omega, by omega, rfl⟩
  · exact ⟨9, by omega, by omega, rfl⟩
theorem ok_l_marks {f : Addr} {fd : FuncData} (F : Fun K "_law_marks" "_law_marks" s_l_marks f fd) (T : Txt mg) (g_l_take : FnD P w K mg base "_law_take" 1 2 S_l_take) : FnOk P w K mg base CX0 2 f fd ["_law_pack_here"] (spD K 1 S_l_marks) := by
  have nd := sc_l_marks.nd
  refine F.okQ rfl sc_l_marks (fun cdv A outer s H E hr => ⟨_, (q_scons (q_set (i := 1) nd rfl (Or.inl rfl) (q_lstO (q_cons (q_lst (q_cons q_str (q_cons q_str (q_cons q_str (q_cons q_str (q_cons q_str (q_cons q_str (q_cons q_str (q_cons q_str (q_cons q_str q_nil)))))))))) q_nil)))
      (q_scons (q_expr (q_app (q_var 1) (q_lst (q_cons q_str (q_cons q_str (q_cons q_str (q_cons q_str (q_cons q_str (q_cons q_str (q_cons q_str (q_cons q_str (q_cons q_str q_nil))))))))))))
      (q_scons (q_expr (q_app (q_var 1) (q_lst (q_cons q_str (q_cons q_str (q_cons q_str (q_cons q_str (q_cons q_str (q_cons q_str (q_cons q_str (q_cons q_str (q_cons q_str q_nil))))))))))))
      (q_sone (q_retG (q_sliceE (q_ix o_ix (q_var 1) (qc g_l_take (hr.mono (by decide)) rfl (q_cons (q_var 0) (q_cons q_int q_nil))) (fun _ _ => rfl)) qo_none (qo_some (q_ix o_ix (q_lst (q_cons q_int (q_cons q_int (q_cons q_int (q_cons q_int (q_cons q_int (q_cons q_int (q_cons q_int (q_cons q_int q_nil))))))))) (qc g_l_take (hr.mono (by decide)) rfl (q_cons (q_var 0) (q_cons q_int q_nil))) (fun _ _ => rfl))))))))), fun ds M R hl hS => ?_⟩)
  obtain ⟨p, l, rfl, hM, hP, k⟩ := hS
  walk_at "rd"
  refine ⟨sz3 9, sz3 1, fun q hq => ⟨sz3 9, sz3 2, sz3 9, sz3 3, ?_⟩⟩
  have hpq : p ≠ q := by rintro rfl; rw [hM] at hq; cases hq
  refine ⟨p, l, 3, rfl, by rw [updM_ne hpq]; exact hM, hP, by omega, by omega, fun v l1 h0 h1 hP1 => ?_⟩
  obtain ⟨ws, hw1, hw3⟩ := three_lists h0 h1
  refine ⟨D.lst (ws.map D.str), ?_, sz3 8, ?_⟩
  · rw [rdM_ref (show (updM (updM M q _) p (HD.lst l1)) q = some (.lst _) from by rw [updM_ne (Ne.symm hpq), updM_same])]
    exact hw3
  refine ⟨p, l1, 8, rfl, updM_same, hP1, by omega, by omega, fun v2 l2 h2 h3 hP2 => ?_⟩
  obtain ⟨n, hn1, hn2, hn3⟩ := eight_at h2 h3
  refine ⟨_, hn3, _, rfl, _, slE_to, _, ?_, k (ws.take n) l2 ?_ ?_ hP2⟩
  · rw [updM_upd, updM_comm (Ne.symm hpq)]
    exact leM_upd (by rw [updM_ne (Ne.symm hpq)]; exact hq)
  · intro e
    have hh : (ws.take n).length = 0 := by rw [e]; rfl
    rw [List.length_take] at hh
    omega
  · simp; omega
def S_l_order : SpD := fun ds M R => ∃ (p : Addr) (l : List D) (marks : List Str), ds = [.ref p, .lst (marks.map .str)] ∧ M p = some (.lst l) ∧ IsPool l ∧ marks ≠ [] ∧ marks.length ≤ 9 ∧
  ∀ (ord : List (Str × Str)) l', ord.length ≤ 8 → (∀ x ∈ ord, x.1 ∈ marks ∧ x.2 ∈ marks) → IsPool l' → R (.tup (ord.map pairD)) (updM M p (.lst l'))
theorem ok_l_order {f : Addr} {fd : FuncData} (F : Fun K "_law_order" "_law_order" s_l_order f fd) (T : Txt mg) (g_l_take : FnD P w K mg base "_law_take" 1 2 S_l_take) : FnOk P w K mg base CX0 2 f fd ["_law_pack_here", "_law_marks_here"] (spD K 2 S_l_order) := by
  have nd := sc_l_order.nd
  refine F.okQ rfl sc_l_order (fun cdv A outer s H E hr => ⟨_, (q_scons (q_set (i := 2) nd rfl (Or.inl rfl) (q_lstO q_nil))
      (q_scons (q_for PassesOwn.never rfl (qi_rng1 rfl T.b_range (q_cons (qc g_l_take (hr.mono (by decide)) rfl (q_cons (q_var 0) (q_cons q_int q_nil))) q_nil)) (g_name (i := 3) nd rfl (Or.inl rfl)) (q_sone (q_expr (q_app (q_var 2) (q_tup (q_cons (q_ix o_ix (q_var 1) (qc g_l_take (hr.mono (by decide)) rfl (q_cons (q_var 0) (q_cons (q_callB c_len rfl T.b_len (by kernel_rfl) (q_cons (q_var 1) q_nil)) q_nil))) (fun _ _ => rfl)) (q_cons (q_ix o_ix (q_var 1) (qc g_l_take (hr.mono (by decide)) rfl (q_cons (q_var 0) (q_cons (q_callB c_len rfl T.b_len (by kernel_rfl) (q_cons (q_var 1) q_nil)) q_nil))) (fun _ _ => rfl)) q_nil)))))))
      (q_scons (q_ifS (q_tcmp (o_eq hr.units) (qc g_l_take (hr.mono (by decide)) rfl (q_cons (q_var 0) (q_cons q_int q_nil))) q_int (by first | exact nobehind _ (by decide) (by decide) | rfl)) (q_scons (q_setLcO (i := 2) nd rfl rfl rfl (ms := [false, true, false, false, false]) (extra := []) (compSc_of rfl (show compOkB (defScope s_l_order) n_l_order _ _ = true from by decide +kernel)) rfl (qi_rng1 rfl T.b_range (q_cons (q_op o_sub (q_callB c_len rfl T.b_len (by kernel_rfl) (q_cons (q_var 1) q_nil)) q_int) q_nil)) (ga_name (i := 3) (show (n_l_order ++ _).Nodup from by decide +kernel) rfl rfl) (fun _ _ _ _ => qi_nil) (fun _ _ _ _ => (q_tup (q_cons (q_ix o_ix (q_var 1) (q_var 3) (fun _ _ => rfl)) (q_cons (q_ix o_ix (q_var 1) (q_op o_add (q_var 3) q_int) (fun _ _ => rfl)) q_nil)))))
      (q_scons (q_set (i := 4) nd rfl (Or.inl rfl) (qc g_l_take (hr.mono (by decide)) rfl (q_cons (q_var 0) (q_cons (q_callB c_len rfl T.b_len (by kernel_rfl) (q_cons (q_var 1) q_nil)) q_nil))))
      (q_sone (q_set (i := 2) nd rfl (Or.inl rfl) (q_op o_add (q_sliceE (q_var 2) (qo_some (q_var 4)) qo_none) (q_sliceE (q_var 2) qo_none (qo_some (q_var 4)))))))) q_snil)
      (q_sone (q_retG (q_callTy c_tuple rfl T.b_tuple (by kernel_rfl) (q_cons (q_var 2) q_nil))))))), fun ds M R hl hS => ?_⟩)
  obtain ⟨p, l, marks, rfl, hM, hP, hm, hml, k⟩ := hS
  walk_at "rd"
  refine ⟨sz3 0, fun q hq => ?_⟩
  have hpq : p ≠ q := by rintro rfl; rw [hM] at hq; cases hq
  refine ⟨p, l, 6, rfl, by rw [updM_ne hpq]; exact hM, hP, by omega, by omega, fun v l1 h2 h3 hP1 => ?_⟩
  refine ⟨v, rfl, by omega, by omega, ?_⟩
  have hmp := List.length_pos_iff.mpr hm
  refine forRun_by (fun i Δ M' => ∃ (x3 x4 : Option D) (l2 : List D) (ord : List (Str × Str)), Δ = [some (D.ref p), some (D.lst (marks.map D.str)), some (D.ref q), x3, x4] ∧ M' = updM (updM M p (.lst l2)) q (.lst (ord.map pairD)) ∧ IsPool l2 ∧ ord.length = i ∧ ∀ x ∈ ord, x.1 ∈ marks ∧ x.2 ∈ marks)
    ⟨_, _, l1, [], rfl, updM_comm (Ne.symm hpq), hP1, rfl, fun x hx => absurd hx (by simp)⟩ ?_ ?_
  · rintro i d Δ M' X hd ⟨x3, x4, l2, ord, rfl, rfl, hP2, hol, ho⟩ k'
    have hi : i < 6 := by have := (rngD_get hd).1; omega
    simp only [gdName]
    walk_at "rd"
    rw [List.length_map]
    refine ⟨p, l2, _, rfl, by rw [updM_ne hpq, updM_same], hP2, by omega, by omega, fun v1 l3 a0 a1 hP3 => ?_⟩
    obtain ⟨m1, hm1, e1⟩ := marks_at a0 a1
    refine ⟨_, e1, ?_⟩
    refine ⟨p, l3, _, rfl, updM_same, hP3, by omega, by omega, fun v2 l4 b0 b1 hP4 => ?_⟩
    obtain ⟨m2, hm2, e2⟩ := marks_at b0 b1
    refine ⟨_, e2, sz3 2, ?_⟩
    have em : updM (updM (updM (updM M p (.lst l2)) q (.lst (ord.map pairD))) p (.lst l3)) p (.lst l4) = updM (updM M p (.lst l4)) q (.lst (ord.map pairD)) := by
      rw [updM_upd, ← updM_comm hpq, updM_upd]
    rw [em]
    refine ⟨_, updM_same, by rw [List.length_map]; exact Nat.lt_of_lt_of_le (by omega : ord.length < 1000) (sz3 1000), ?_⟩
    rw [updM_upd]
    refine k' _ _ ⟨_, _, l4, ord ++ [(m1, m2)], rfl, by simp [pairD], hP4, by simp; omega, fun x hx => ?_⟩
    rcases List.mem_append.mp hx with h | h
    · exact ho x h
    · have : x = (m1, m2) := by simpa using h
      subst this; exact ⟨hm1, hm2⟩
  · rintro Δ M' ⟨x3, x4, l2, ord, rfl, rfl, hP2, hol, ho⟩
    rw [rngD_len] at hol
    walk_at "rd"
    refine ⟨p, l2, 4, rfl, by rw [updM_ne hpq, updM_same], hP2, by omega, by omega, fun v1 l3 a0 a1 hP3 => ?_⟩
    have em : updM (updM (updM M p (.lst l2)) q (.lst (ord.map pairD))) p (.lst l3) = updM (updM M p (.lst l3)) q (.lst (ord.map pairD)) := by
      rw [← updM_comm hpq, updM_upd]
    rw [em]
    walk_at "rd"
    refine ite2 (fun h => ?_) (fun h => ?_)
    · rw [List.length_map]
      have hcn : ((marks.length : Int) - 1).toNat = marks.length - 1 := by omega
      refine ⟨by omega, by omega, by rw [rngD_len]; exact sz3 _ (by omega), ?_⟩
      refine lcRun_by (fun i acc Δ M' => ∃ (x : Option D) (ps : List (Str × Str)), Δ = [none, some (.lst (marks.map D.str)), none, x, none] ∧ M' = updM (updM M p (.lst l3)) q (.lst (ord.map pairD)) ∧ acc = ps.map pairD ∧ ps.length = i ∧ ∀ x ∈ ps, x.1 ∈ marks ∧ x.2 ∈ marks) ⟨none, [], rfl, rfl, rfl, rfl, fun x hx => absurd hx (by simp)⟩ ?_ ?_
      · rintro i d acc Δ M' X hd ⟨x, ps, rfl, rfl, rfl, hpl, hp⟩ k'
        obtain ⟨hi, rfl⟩ := rngD_get hd
        rw [hcn] at hi
        obtain ⟨m1, hm1, e1⟩ := marks_at (marks := marks) (v := 0 + (i : Int)) (by omega) (by omega)
        obtain ⟨m2, hm2, e2⟩ := marks_at (marks := marks) (v := 0 + (i : Int) + 1) (by omega) (by omega)
        refine ⟨_, rfl, ?_⟩
        walk_at "rd"
        simp only [dYes, if_true]
        refine ⟨_, e1, _, e2, sz3 2, ?_⟩
        refine k' _ _ _ ⟨_, ps ++ [(m1, m2)], rfl, rfl, by simp [pairD], by simp; omega, fun x hx => ?_⟩
        rcases List.mem_append.mp hx with h | h
        · exact hp x h
        · have : x = (m1, m2) := by simpa using h
          subst this; exact ⟨hm1, hm2⟩
      · rintro acc Δ M' ⟨x, ps, rfl, rfl, rfl, hpl, hp⟩
        rw [rngD_len] at hpl
        intro q2 hq2
        have hq2p : p ≠ q2 := by rintro rfl; rw [updM_ne hpq, updM_same] at hq2; cases hq2
        have hq2q : q2 ≠ q := by rintro rfl; rw [updM_same] at hq2; cases hq2
        have hMq2 : M q2 = none := by rw [updM_ne hq2q, updM_ne (Ne.symm hq2p)] at hq2; exact hq2
        refine ⟨p, l3, _, rfl, by rw [updM_ne hq2p, updM_ne hpq, updM_same], hP3, by omega, by omega, fun v2 l4 b0 b1 hP4 => ?_⟩
        have hrd : rdM (updM (updM (updM (updM M p (.lst l3)) q (.lst (ord.map pairD))) q2 (.lst (ps.map pairD))) p (.lst l4)) (D.ref q2) = .lst (ps.map pairD) := rdM_ref (by rw [updM_ne (Ne.symm hq2p), updM_same])
        obtain ⟨n, rfl⟩ := Int.eq_ofNat_of_zero_le b0
        refine ⟨_, rfl, ?_⟩
        rw [hrd]
        refine ⟨_, slE_l, _, rfl, _, slE_l, ?_⟩
        walk_at "rd"
        rw [cut_to, cut_from, ← List.map_take, ← List.map_drop]
        refine ⟨_, if_pos (by rw [List.length_map, List.length_map]; exact sz3 _ (by simp; omega)), ?_⟩
        walk_at "rd"
        rw [← List.map_append]
        refine ⟨_, ?_, k (ps.drop n ++ ps.take n) l4 (by simp; omega) (fun x hx => ?_) hP4⟩
        · intro a u e
          by_cases hap : a = p
          · subst hap; rw [updM_same] at e ⊢; exact e
          · rw [updM_ne hap] at e ⊢
            have h1 : a ≠ q2 := by rintro rfl; rw [hMq2] at e; cases e
            have h2 : a ≠ q := by rintro rfl; rw [hq] at e; cases e
            rw [updM_ne h1, updM_ne h2, updM_ne hap]; exact e
        · rcases List.mem_append.mp hx with h | h
          · exact hp x (List.mem_of_mem_drop h)
          · exact hp x (List.mem_of_mem_take h)
    · exact ⟨_, leM_upd (by rw [updM_ne (Ne.symm hpq)]; exact hq), k ord l3 (by omega) ho hP3⟩

end
section
variable {P : Program} {w : World} {K : PySem.W.Frag} {mg : Str → Option Value} {base : Heap}
inductive Reach (ord : List (Str × Str)) (a : Str) : Str → Prop
  | refl : Reach ord a a
  | step {b c : Str} : Reach ord a b → (b, c) ∈ ord → Reach ord a c
theorem reach_in {ord : List (Str × Str)} {a x : Str} {L : List Str} (h0 : a ∈ L) (hc : ∀ y ∈ ord, y.1 ∈ L → y.2 ∈ L) (h : Reach ord a x) : x ∈ L := by
  induction h with
  | refl => exact h0
  | step _ hm ih => exact hc _ hm ih
def S_p_reached_from : SpD := fun ds M R => ∃ (ord : List (Str × Str)) (a : Str), ds = [.tup (ord.map pairD), .str a] ∧ ord.length ≤ 500 ∧
  ∀ L : List Str, a ∈ L → (∀ y ∈ ord, y.1 ∈ L → y.2 ∈ L) → (∀ x ∈ L, Reach ord a x) → L.length ≤ ord.length + 1 → R (.lst (L.map .str)) M
abbrev tIn : TSd := dIfS (dAndT (dTst (dOp eqF (dVar 4) (dOp ixD (dVar 2) (dVar 3)))) (dTst (dOp (inE true) (dVar 5) (dVar 2)))) (dDrop (dApp (dVar 2) (dVar 5))) dNext
theorem reach_for {q : Addr} {E : EndsD} {M : DH} (hq : M q = none) (ps : D) (a : Str) (ord : List (Str × Str)) (hord : ord.length ≤ 500) (i : Nat) (L0 : List Str) (hi : i < L0.length) : ∀ (todo done : List (Str × Str)) (x4 x5 : Option D) (L : List Str), ord = done ++ todo → (∃ t, L = L0 ++ t) → L.Nodup → (∀ x ∈ L, Reach ord a x) → (∀ x ∈ L, x ∈ a :: ord.map (·.2)) → (∀ y ∈ done, y.1 = L0[i] → y.2 ∈ L) →
    (∀ (y4 y5 : Option D) (L' : List Str), (∃ t, L' = L0 ++ t) → L'.Nodup → (∀ x ∈ L', Reach ord a x) → (∀ x ∈ L', x ∈ a :: ord.map (·.2)) → (∀ y ∈ ord, y.1 = L0[i] → y.2 ∈ L') → E.nx [some ps, some (.str a), some (.ref q), some (.int i), y4, y5] (updM M q (.lst (L'.map .str)))) →
    forRun (gdTup (gdCons (gdName 4) (gdCons (gdName 5) gdNil)) 2) tIn E (todo.map pairD) [some ps, some (.str a), some (.ref q), some (.int i), x4, x5] (updM M q (.lst (L.map .str)))
  | [], done, x4, x5, L, ho, ht, hn, hs, hb, hd, k => by
    simp only [List.map_nil, forRun]
    exact k x4 x5 L ht hn hs hb (by rw [ho, List.append_nil]; exact hd)
  | (b, c) :: todo, done, x4, x5, L, ho, ⟨t, ht⟩, hn, hs, hb, hd, k => by
    have hiL : i < L.length := by rw [ht]; simp; omega
    have eL : L[i] = L0[i] := by subst ht; simp [hi]
    have eat : atI (L.map D.str) (i : Int) = some (.str L[i]) := atI_nat (by simp [hiL])
    have hlen : L.length ≤ ord.length + 1 := by
      have := nodup_len L (a :: ord.map (·.2)) hn hb
      simpa using this
    simp only [List.map_cons, pairD, forRun, gdTup, gdCons, gdName, gdNil, Option.bind_some]
    refine ⟨_, rfl, ?_⟩
    walk_at "rd"
    refine ⟨_, eat, ?_⟩
    walk_at "rd"
    have ho' : ord = (done ++ [(b, c)]) ++ todo := by rw [ho]; simp
    have hmem : (b, c) ∈ ord := by rw [ho]; simp
    refine ite2 (fun h => ?_) (fun h => ?_)
    · have hbe : b = L0[i] := by rw [← eL]; simpa using h
      refine ⟨_, if_pos ⟨rfl, all_scal⟩, _, rfl, ?_⟩
      rw [any_strs]
      by_cases hc : c ∈ L
      · simp only [hc, decide_true, Bool.xor_true, Bool.not_true, Bool.false_eq_true, if_false]
        exact reach_for hq ps a ord hord i L0 hi todo (done ++ [(b, c)]) _ _ L ho' ⟨t, ht⟩ hn hs hb (fun y hy hy1 => by
          rcases List.mem_append.mp hy with h | h
          · exact hd y h hy1
          · have : y = (b, c) := by simpa using h
            subst this; exact hc) k
      · simp only [hc, decide_false, Bool.xor_false, if_true]
        refine ⟨by rw [List.length_map]; exact Nat.lt_of_lt_of_le (by omega : L.length < 1000) (sz3 1000), ?_⟩
        have ea : L.map D.str ++ [D.str c] = (L ++ [c]).map D.str := by simp
        rw [ea]
        refine reach_for hq ps a ord hord i L0 hi todo (done ++ [(b, c)]) _ _ (L ++ [c]) ho' ⟨t ++ [c], by rw [ht]; simp⟩ ?_ (fun x hx => ?_) (fun x hx => ?_) (fun y hy hy1 => ?_) k
        · rw [List.nodup_append]
          refine ⟨hn, by simp, fun u hu v hv => ?_⟩
          have : v = c := by simpa using hv
          subst this
          rintro rfl
          exact hc hu
        · rcases List.mem_append.mp hx with h | h
          · exact hs x h
          · have : x = c := by simpa using h
            subst this
            exact Reach.step (hs b (by rw [hbe, ← eL]; exact List.getElem_mem hiL)) hmem
        · rcases List.mem_append.mp hx with h | h
          · exact hb x h
          · have : x = c := by simpa using h
            subst this
            exact List.mem_cons_of_mem _ (List.mem_map.mpr ⟨_, hmem, rfl⟩)
        · rcases List.mem_append.mp hy with h | h
          · exact List.mem_append_left _ (hd y h hy1)
          · have : y = (b, c) := by simpa using h
            subst this; simp
    · exact reach_for hq ps a ord hord i L0 hi todo (done ++ [(b, c)]) _ _ L ho' ⟨t, ht⟩ hn hs hb (fun y hy hy1 => by
        rcases List.mem_append.mp hy with h' | h'
        · exact hd y h' hy1
        · have : y = (b, c) := by simpa using h'
          subst this
          exact absurd (by rw [eL]; simpa using hy1) h) k
theorem ok_p_reached_from {f : Addr} {fd : FuncData} (F : Fun K "reached_from" "reached_from" s_p_reached_from f fd) (T : Txt mg)  : FnOk P w K mg base CX0 1 f fd ["pairs", "mark"] (spD K 2 S_p_reached_from) := by
  have nd := sc_p_reached_from.nd
  refine F.okQ rfl sc_p_reached_from (fun cdv A outer s H E hr => ⟨_, (q_scons (q_set (i := 2) nd rfl (Or.inl rfl) (q_lstO (q_cons (q_var 1) q_nil)))
      (q_scons (q_set (i := 3) nd rfl (Or.inl rfl) q_int)
      (q_scons (q_while PassesOwn.never (q_tcmp o_lt (q_var 3) (q_callB c_len rfl T.b_len (by kernel_rfl) (q_cons (q_var 2) q_nil)) (by first | exact nobehind _ (by decide) (by decide) | rfl)) (q_scons (q_for PassesOwn.never rfl (qi_any (q_var 0)) (g_tup rfl (g_cons (g_name (i := 4) nd rfl (Or.inl rfl)) (g_cons (g_name (i := 5) nd rfl (Or.inl rfl)) g_nil))) (q_sone (q_ifS (q_pw (q_tand (q_tcmp (o_eq hr.units) (q_var 4) (q_ix o_ix (q_var 2) (q_var 3) (fun _ _ => rfl)) (by first | exact nobehind _ (by decide) (by decide) | rfl)) (q_tand1 (q_tcmp o_notinE (q_var 5) (q_var 2) (by first | exact nobehind _ (by decide) (by decide) | rfl))))) (q_sone (q_expr (q_app (q_var 2) (q_var 5)))) q_snil)))
      (q_sone (q_aug (i := 3) nd rfl (Or.inl rfl) q_int o_iadd))))
      (q_sone (q_retF (q_var 2)))))), fun ds M R hl hS => ?_⟩)
  obtain ⟨ord, a, rfl, ho, k⟩ := hS
  walk_at "rd"
  refine ⟨sz3 1, fun q hq => ?_⟩
  refine ⟨fun m Δ M' => ∃ (i : Nat) (L : List Str) (x4 x5 : Option D), Δ = [some (D.tup (ord.map pairD)), some (D.str a), some (D.ref q), some (D.int i), x4, x5] ∧ M' = updM M q (.lst (L.map .str)) ∧ i ≤ L.length ∧ L.Nodup ∧ a ∈ L ∧ (∀ x ∈ L, Reach ord a x) ∧ (∀ x ∈ L, x ∈ a :: ord.map (·.2)) ∧ (∀ y ∈ ord, ∀ j, j < i → L[j]? = some y.1 → y.2 ∈ L) ∧ m = ord.length + 1 - i,
    ⟨_, 0, [a], none, none, rfl, rfl, Nat.zero_le _, by simp, by simp, fun x hx => by
      have : x = a := by simpa using hx
      subst this; exact Reach.refl, fun x hx => by
      have : x = a := by simpa using hx
      subst this; simp, fun y _ j hj => absurd hj (by omega), rfl⟩, ?_⟩
  rintro m Δ M' ⟨i, L, x4, x5, rfl, rfl, hiL, hn, ha, hs, hb, hp, rfl⟩
  have hlen : L.length ≤ ord.length + 1 := by
    have := nodup_len L (a :: ord.map (·.2)) hn hb
    simpa using this
  walk_at "rd"
  rw [List.length_map]
  refine ite2 (fun h => ?_) (fun h => ?_)
  · have hi : i < L.length := by omega
    intro hz
    refine reach_for hq _ a ord ho i L hi ord [] x4 x5 L rfl ⟨[], by simp⟩ hn hs hb (fun y hy => absurd hy (by simp)) (fun y4 y5 L' hL' hn' hs' hb' hd' => ?_)
    obtain ⟨t, rfl⟩ := hL'
    walk_at "rd"
    refine ⟨ord.length + 1 - (i + 1), by omega, i + 1, L ++ t, y4, y5, ?_, rfl, by simp; omega, hn', List.mem_append_left _ ha, hs', hb', fun y hy j hj hjy => ?_, rfl⟩
    · simp
    · by_cases hji : j = i
      · subst hji
        refine hd' y hy ?_
        rw [List.getElem?_append_left hi, List.getElem?_eq_getElem hi] at hjy
        exact (Option.some.inj hjy).symm
      · rw [List.getElem?_append_left (by omega)] at hjy
        exact List.mem_append_left _ (hp y hy j (by omega) hjy)
  · rw [delM_upd hq]
    refine k L ha (fun y hy hy1 => ?_) hs hlen
    obtain ⟨j, hj, e⟩ := List.mem_iff_getElem.mp hy1
    exact hp y hy j (by omega) (by rw [List.getElem?_eq_getElem hj, e])

end
section
variable {P : Program} {w : World} {K : PySem.W.Frag} {mg : Str → Option Value} {base : Heap}
def signD (x : Str × Int) : D := .tup [.str x.1, .int x.2]
theorem map_inj {α : Type} {f : α → D} (hf : ∀ x y, f x = f y → x = y) : ∀ {xs ys : List α}, xs.map f = ys.map f → xs = ys
  | [], [], _ => rfl
  | [], _ :: _, h => by simp at h
  | _ :: _, [], h => by simp at h
  | x :: xs, y :: ys, h => by
    simp only [List.map_cons, List.cons.injEq] at h
    rw [hf _ _ h.1, map_inj hf h.2]
theorem pairD_inj : ∀ x y, pairD x = pairD y → x = y := fun ⟨a, b⟩ ⟨c, d⟩ h => by simpa [pairD] using h
def Leads (ord : List (Str × Str)) (t : Int) (a b : Str) : Prop := if t % 2 = 0 then Reach ord a b else Reach ord b a
open Classical in
noncomputable def rB (ord : List (Str × Str)) (a b : Str) : Bool := decide (Reach ord a b)
open Classical in
noncomputable def lB (ord : List (Str × Str)) (t : Int) (a b : Str) : Bool := decide (Leads ord t a b)
theorem rB_iff {ord : List (Str × Str)} {a b : Str} : rB ord a b = true ↔ Reach ord a b := by simp [rB]
theorem lB_iff {ord : List (Str × Str)} {t : Int} {a b : Str} : lB ord t a b = true ↔ Leads ord t a b := by simp [lB]
theorem lB_even {ord : List (Str × Str)} {t : Int} {a b : Str} (h : t % 2 = 0) : lB ord t a b = rB ord a b := by rw [Bool.eq_iff_iff, lB_iff, rB_iff, Leads, if_pos h]
theorem lB_odd {ord : List (Str × Str)} {t : Int} {a b : Str} (h : ¬ t % 2 = 0) : lB ord t a b = rB ord b a := by rw [Bool.eq_iff_iff, lB_iff, rB_iff, Leads, if_neg h]
def S_p_at_most : SpD := fun ds M R => ∃ (ord : List (Str × Str)) (a b : Str), ds = [.tup (ord.map pairD), .str a, .str b] ∧ ord.length ≤ 500 ∧ R (.bl (rB ord a b)) M
def S_p_mark_leads : SpD := fun ds M R => ∃ (ord : List (Str × Str)) (t : Int) (a b : Str), ds = [.tup (ord.map pairD), .int t, .str a, .str b] ∧ ord.length ≤ 500 ∧ R (.bl (lB ord t a b)) M
def S_p_cancel : SpD := fun ds M R => ∃ (ord : List (Str × Str)) (x y : Str × Int), ds = [.tup (ord.map pairD), signD x, signD y] ∧ ord.length ≤ 500 ∧ R (.bl (x.2 + 1 == y.2 && lB ord x.2 x.1 y.1)) M
theorem S_at_most_iff {ord : List (Str × Str)} {a b : Str} {M : DH} {R : D → DH → Prop} : S_p_at_most [.tup (ord.map pairD), .str a, .str b] M R ↔ ord.length ≤ 500 ∧ R (.bl (rB ord a b)) M :=
  ⟨fun ⟨o, c, d, e, h1, h2⟩ => by
    simp only [List.cons.injEq, D.tup.injEq, D.str.injEq, and_true] at e
    obtain ⟨e1, e2, e3⟩ := e
    rw [map_inj pairD_inj e1, e2, e3]; exact ⟨h1, h2⟩, fun h => ⟨ord, a, b, rfl, h⟩⟩
theorem S_mark_leads_iff {ord : List (Str × Str)} {t : Int} {a b : Str} {M : DH} {R : D → DH → Prop} : S_p_mark_leads [.tup (ord.map pairD), .int t, .str a, .str b] M R ↔ ord.length ≤ 500 ∧ R (.bl (lB ord t a b)) M :=
  ⟨fun ⟨o, u, c, d, e, h1, h2⟩ => by
    simp only [List.cons.injEq, D.tup.injEq, D.str.injEq, D.int.injEq, and_true] at e
    obtain ⟨e1, e0, e2, e3⟩ := e
    rw [map_inj pairD_inj e1, e0, e2, e3]; exact ⟨h1, h2⟩, fun h => ⟨ord, t, a, b, rfl, h⟩⟩
theorem S_cancel_iff {ord : List (Str × Str)} {a b : Str} {t u : Int} {M : DH} {R : D → DH → Prop} : S_p_cancel [.tup (ord.map pairD), .tup [.str a, .int t], .tup [.str b, .int u]] M R ↔ ord.length ≤ 500 ∧ R (.bl (t + 1 == u && lB ord t a b)) M :=
  ⟨fun ⟨o, ⟨c, v⟩, ⟨d, w⟩, e, h1, h2⟩ => by
    simp only [signD, List.cons.injEq, D.tup.injEq, D.str.injEq, D.int.injEq, and_true] at e
    obtain ⟨e1, ⟨e2, e3⟩, e4, e5⟩ := e
    rw [map_inj pairD_inj e1, e2, e3, e4, e5]; exact ⟨h1, h2⟩, fun h => ⟨ord, (a, t), (b, u), rfl, h⟩⟩
theorem ok_p_at_most {f : Addr} {fd : FuncData} (F : Fun K "at_most" "at_most" s_p_at_most f fd) (T : Txt mg) (g_p_reached_from : FnD P w K mg base "reached_from" 1 2 S_p_reached_from) : FnOk P w K mg base CX0 2 f fd ["order", "one", "other"] (spD K 3 S_p_at_most) := by
  have nd := sc_p_at_most.nd
  refine F.okQ rfl sc_p_at_most (fun cdv A outer s H E hr => ⟨_, (q_sone (q_ret (q_cmp o_inE (q_var 2) (qc g_p_reached_from (hr.mono (by decide)) rfl (q_cons (q_var 0) (q_cons (q_var 1) q_nil))) (by first | exact nobehind _ (by decide) (by decide) | rfl)))), fun ds M R hl hS => ?_⟩)
  obtain ⟨ord, a, b, rfl, ho, k⟩ := hS
  walk_at "rd"
  refine ⟨ord, a, rfl, ho, fun L h1 h2 h3 h4 => ?_⟩
  refine ⟨_, if_pos ⟨rfl, all_scal⟩, ?_⟩
  rw [any_strs]
  have e : (false ^^ decide (b ∈ L)) = rB ord a b := by
    rw [Bool.false_xor, Bool.eq_iff_iff, rB_iff, decide_eq_true_eq]
    exact ⟨fun h => h3 b h, fun h => reach_in h1 h2 h⟩
  rw [e]
  exact k
theorem ok_p_mark_leads {f : Addr} {fd : FuncData} (F : Fun K "mark_leads" "mark_leads" s_p_mark_leads f fd) (T : Txt mg) (g_p_at_most : FnD P w K mg base "at_most" 2 3 S_p_at_most) : FnOk P w K mg base CX0 3 f fd ["order", "turn", "one", "other"] (spD K 4 S_p_mark_leads) := by
  have nd := sc_p_mark_leads.nd
  refine F.okQ rfl sc_p_mark_leads (fun cdv A outer s H E hr => ⟨_, (q_scons (q_ifS (q_tcmp (o_eq hr.units) (q_op o_mod (q_var 1) q_int) q_int (by first | exact nobehind _ (by decide) (by decide) | rfl)) (q_sone (q_ret (qc g_p_at_most (hr.mono (by decide)) rfl (q_cons (q_var 0) (q_cons (q_var 2) (q_cons (q_var 3) q_nil)))))) q_snil)
      (q_sone (q_ret (qc g_p_at_most (hr.mono (by decide)) rfl (q_cons (q_var 0) (q_cons (q_var 3) (q_cons (q_var 2) q_nil))))))), fun ds M R hl hS => ?_⟩)
  obtain ⟨ord, t, a, b, rfl, ho, k⟩ := hS
  walk_at "rd"
  simp only [S_at_most_iff]
  refine ite2 (fun h => ?_) (fun h => ?_)
  · have h' : t % 2 = 0 := by simpa using h
    rw [lB_even h'] at k
    exact ⟨ho, k⟩
  · have h' : ¬ t % 2 = 0 := by simpa using h
    rw [lB_odd h'] at k
    exact ⟨ho, k⟩
theorem ok_p_cancel {f : Addr} {fd : FuncData} (F : Fun K "cancel" "cancel" s_p_cancel f fd) (T : Txt mg) (g_p_mark_leads : FnD P w K mg base "mark_leads" 3 4 S_p_mark_leads) : FnOk P w K mg base CX0 4 f fd ["order", "one", "other"] (spD K 3 S_p_cancel) := by
  have nd := sc_p_cancel.nd
  refine F.okQ rfl sc_p_cancel (fun cdv A outer s H E hr => ⟨_, (q_sone (q_ret (q_and (q_cmp (o_eq hr.units) (q_op o_add (q_ix o_ix (q_var 1) q_int (fun _ _ => rfl)) q_int) (q_ix o_ix (q_var 2) q_int (fun _ _ => rfl)) (by first | exact nobehind _ (by decide) (by decide) | rfl)) (q_one (qc g_p_mark_leads (hr.mono (by decide)) rfl (q_cons (q_var 0) (q_cons (q_ix o_ix (q_var 1) q_int (fun _ _ => rfl)) (q_cons (q_ix o_ix (q_var 1) q_int (fun _ _ => rfl)) (q_cons (q_ix o_ix (q_var 2) q_int (fun _ _ => rfl)) q_nil))))))))), fun ds M R hl hS => ?_⟩)
  obtain ⟨ord, ⟨a, t⟩, ⟨b, u⟩, rfl, ho, k⟩ := hS
  simp only [signD]
  walk_at "rd"
  simp only [S_mark_leads_iff]
  refine ite2 (fun h => ?_) (fun h => ?_)
  · simp only [h, Bool.true_and] at k; exact ⟨ho, k⟩
  · simp only [h, Bool.false_and] at k; exact k
theorem ok_p_leads {f : Addr} {fd : FuncData} (F : Fun K "leads" "leads" s_p_leads f fd) (T : Txt mg) (g_p_mark_leads : FnD P w K mg base "mark_leads" 3 4 S_p_mark_leads) : FnOk P w K mg base CX0 4 f fd ["order", "one", "other"] (spD K 3 neverS) := ok_never
theorem ok_p_may_grow {f : Addr} {fd : FuncData} (F : Fun K "may_grow" "may_grow" s_p_may_grow f fd) (T : Txt mg) (g_p_mark_leads : FnD P w K mg base "mark_leads" 3 4 S_p_mark_leads) : FnOk P w K mg base CX0 4 f fd ["order", "one", "other"] (spD K 3 neverS) := ok_never

end
section
variable {P : Program} {w : World} {K : PySem.W.Frag} {mg : Str → Option Value} {base : Heap}
def wholeB : D → Bool
  | .int _ => true
  | _ => false
def S_one (f : D → Bool) : SpD := fun ds M R => ∃ d, ds = [d] ∧ goodD d = true ∧ R (.bl (f d)) M
theorem S_one_iff {f : D → Bool} {d : D} {M : DH} {R : D → DH → Prop} : S_one f [d] M R ↔ goodD d = true ∧ R (.bl (f d)) M :=
  ⟨fun ⟨d', e, h⟩ => by simp only [List.cons.injEq, and_true] at e; rw [e]; exact h, fun h => ⟨d, rfl, h⟩⟩
def S_p_is_whole : SpD := S_one wholeB
theorem ok_p_is_whole {f : Addr} {fd : FuncData} (F : Fun K "is_whole" "is_whole" s_p_is_whole f fd) (T : Txt mg)  : FnOk P w K mg base CX0 1 f fd ["thing"] (spD K 1 S_p_is_whole) := by
  have nd := sc_p_is_whole.nd
  refine F.okQ rfl sc_p_is_whole (fun cdv A outer s H E hr => ⟨_, (q_sone (q_ret (q_and (q_isi (Tn := "int") (by decide) rfl T.b_isinstance rfl T.b_int (by kernel_rfl) (q_var 0)) (q_one (q_not (q_isi (Tn := "bool") (by decide) rfl T.b_isinstance rfl T.b_bool (by kernel_rfl) (q_var 0))))))), fun ds M R hl hS => ?_⟩)
  obtain ⟨d, rfl, hd, k⟩ := hS
  walk_at "rd"
  simp only [rdM_good hd]
  cases d with
  | int i => exact ⟨true, rfl, by simp only [if_true]; exact ⟨false, rfl, k⟩⟩
  | bl b => exact ⟨true, rfl, by simp only [if_true]; exact ⟨true, rfl, k⟩⟩
  | scr _ => simp [goodD] at hd
  | ref _ => simp [goodD] at hd
  | _ => exact ⟨false, rfl, by simp only [Bool.false_eq_true, if_false]; exact k⟩
theorem ok_p_is_turn {f : Addr} {fd : FuncData} (F : Fun K "is_turn" "is_turn" s_p_is_turn f fd) (T : Txt mg) (g_p_is_whole : FnD P w K mg base "is_whole" 1 1 S_p_is_whole) : FnOk P w K mg base CX0 2 f fd ["thing"] (spD K 1 neverS) := ok_never
theorem ok_p_is_sign {f : Addr} {fd : FuncData} (F : Fun K "is_sign" "is_sign" s_p_is_sign f fd) (T : Txt mg) (g_p_is_tuple_of : FnD P w K mg base "is_tuple_of" 1 2 S_p_is_tuple_of) (g_p_is_mark : FnD P w K mg base "is_mark" 2 1 neverS) (g_p_is_turn : FnD P w K mg base "is_turn" 2 1 neverS) : FnOk P w K mg base CX0 3 f fd ["thing"] (spD K 1 neverS) := ok_never

end
section
variable {P : Program} {w : World} {K : PySem.W.Frag} {mg : Str → Option Value} {base : Heap}
def S_p_is_place : SpD := fun ds M R => ∃ i m : Int, ds = [.int i, .int m] ∧ R (.bl (decide (0 ≤ i) && decide (i ≤ m))) M
theorem S_is_place_iff {i m : Int} {M : DH} {R : D → DH → Prop} : S_p_is_place [.int i, .int m] M R ↔ R (.bl (decide (0 ≤ i) && decide (i ≤ m))) M :=
  ⟨fun ⟨d', n', e, h⟩ => by simp only [List.cons.injEq, D.int.injEq, and_true] at e; rw [e.1, e.2]; exact h, fun h => ⟨i, m, rfl, h⟩⟩
theorem ok_p_is_place {f : Addr} {fd : FuncData} (F : Fun K "is_place" "is_place" s_p_is_place f fd) (T : Txt mg) (g_p_is_whole : FnD P w K mg base "is_whole" 1 1 S_p_is_whole) : FnOk P w K mg base CX0 2 f fd ["thing", "most"] (spD K 2 S_p_is_place) := by
  have nd := sc_p_is_place.nd
  refine F.okQ rfl sc_p_is_place (fun cdv A outer s H E hr => ⟨_, (q_sone (q_ret (q_and (qc g_p_is_whole (hr.mono (by decide)) rfl (q_cons (q_var 0) q_nil)) (q_one (q_chain o_le o_le q_int (q_var 0) (q_var 1)))))), fun ds M R hl hS => ?_⟩)
  obtain ⟨i, m, rfl, k⟩ := hS
  walk_at "rd"
  refine S_one_iff.mpr ⟨rfl, ?_⟩
  simp only [wholeB]
  walk_at "rd"
  refine ite2 (fun h => ?_) (fun h => ?_)
  · rw [decide_eq_true h, Bool.true_and] at k; exact k
  · rw [decide_eq_false h, Bool.false_and] at k; exact k
def S_p_are_alike : SpD := fun ds M R => ∃ (s nm : Str), ds = [.str s, .str nm] ∧ R (.bl (s == nm)) M
theorem S_are_alike_iff {s nm : Str} {M : DH} {R : D → DH → Prop} : S_p_are_alike [.str s, .str nm] M R ↔ R (.bl (s == nm)) M :=
  ⟨fun ⟨s', nm', e, h⟩ => by
    simp only [List.cons.injEq, D.str.injEq, and_true] at e
    obtain ⟨e1, e2⟩ := e
    rw [e1, e2]; exact h, fun h => ⟨s, nm, rfl, h⟩⟩
theorem ok_p_are_alike {f : Addr} {fd : FuncData} (F : Fun K "are_alike" "are_alike" s_p_are_alike f fd) (T : Txt mg)  : FnOk P w K mg base CX0 1 f fd ["one", "other"] (spD K 2 S_p_are_alike) := by
  have nd := sc_p_are_alike.nd
  refine F.okQ rfl sc_p_are_alike (fun cdv A outer s H E hr => ⟨_, (q_scons (q_ifS (q_pw (q_tor (q_tval (q_isi (Tn := "str") (by decide) rfl T.b_isinstance rfl T.b_str (by kernel_rfl) (q_var 0))) (q_tor1 (q_tval (q_isi (Tn := "str") (by decide) rfl T.b_isinstance rfl T.b_str (by kernel_rfl) (q_var 1)))))) (q_sone (q_ret (q_and (q_isi (Tn := "str") (by decide) rfl T.b_isinstance rfl T.b_str (by kernel_rfl) (q_var 0)) (q_and (q_isi (Tn := "str") (by decide) rfl T.b_isinstance rfl T.b_str (by kernel_rfl) (q_var 1)) (q_one (q_cmp (o_eq hr.units) (q_var 0) (q_var 1) (by first | exact nobehind _ (by decide) (by decide) | rfl))))))) q_snil)
      (q_sone (q_ret (q_cmp o_inE (q_var 0) (q_tup (q_cons (q_var 1) q_nil)) (by first | exact nobehind _ (by decide) (by decide) | rfl))))), fun ds M R hl hS => ?_⟩)
  obtain ⟨s', nm, rfl, k⟩ := hS
  walk_at "rd"
  exact ⟨true, rfl, ⟨true, rfl, ⟨true, rfl, k⟩⟩⟩
def S_p_is_tuple_called : SpD := fun ds M R => ∃ (s nm : Str) (r : List D) (n : Int), ds = [.tup (.str s :: r), .str nm, .int n] ∧ goodD (.tup (.str s :: r)) = true ∧ R (.bl (((r.length + 1 : Nat) : Int) == n && s == nm)) M
theorem S_is_tuple_called_iff {s nm : Str} {r : List D} {n : Int} {M : DH} {R : D → DH → Prop} : S_p_is_tuple_called [.tup (.str s :: r), .str nm, .int n] M R ↔ goodD (.tup (.str s :: r)) = true ∧ R (.bl (((r.length + 1 : Nat) : Int) == n && s == nm)) M :=
  ⟨fun ⟨s', nm', r', n', e, h⟩ => by
    simp only [List.cons.injEq, D.tup.injEq, D.str.injEq, D.int.injEq, and_true] at e
    obtain ⟨⟨e1, e2⟩, e3, e4⟩ := e
    rw [e1, e2, e3, e4]; exact h, fun h => ⟨s, nm, r, n, rfl, h⟩⟩
theorem ok_p_is_tuple_called {f : Addr} {fd : FuncData} (F : Fun K "is_tuple_called" "is_tuple_called" s_p_is_tuple_called f fd) (T : Txt mg) (g_p_is_tuple_of : FnD P w K mg base "is_tuple_of" 1 2 S_p_is_tuple_of) (g_p_are_alike : FnD P w K mg base "are_alike" 1 2 S_p_are_alike) : FnOk P w K mg base CX0 2 f fd ["thing", "name", "many"] (spD K 3 S_p_is_tuple_called) := by
  have nd := sc_p_is_tuple_called.nd
  refine F.okQ rfl sc_p_is_tuple_called (fun cdv A outer s H E hr => ⟨_, (q_sone (q_ret (q_and (qc g_p_is_tuple_of (hr.mono (by decide)) rfl (q_cons (q_var 0) (q_cons (q_var 2) q_nil))) (q_one (qc g_p_are_alike (hr.mono (by decide)) rfl (q_cons (q_ix o_ix (q_var 0) q_int (fun _ _ => rfl)) (q_cons (q_var 1) q_nil))))))), fun ds M R hl hS => ?_⟩)
  obtain ⟨s', nm, r, n, rfl, hg, k⟩ := hS
  walk_at "rd"
  refine S_is_tuple_of_iff.mpr ⟨hg, ?_⟩
  walk_at "rd"
  have e : tupOf (D.tup (D.str s' :: r)) n = (((r.length + 1 : Nat) : Int) == n) := by simp [tupOf]
  rw [e]
  refine ite2 (fun h => ?_) (fun h => ?_)
  · simp only [h, Bool.true_and] at k
    try (walk_at "rd")
    exact S_are_alike_iff.mpr k
  · simp only [h, Bool.false_and] at k
    exact k

end
section
variable {P : Program} {w : World} {K : PySem.W.Frag} {mg : Str → Option Value} {base : Heap}
def Closed (ord : List (Str × Str)) (F : List Str) : Prop := ∀ p ∈ ord, p.1 ∈ F → p.2 ∈ F
def hits (ord : List (Str × Str)) (F : List Str) : Nat := (ord.filter fun p => decide (p.2 ∈ F)).length
theorem hits_mono {F G : List Str} (h : ∀ x ∈ F, x ∈ G) : ∀ {ord : List (Str × Str)}, hits ord F ≤ hits ord G
  | [] => Nat.le_refl _
  | p :: ord => by
    have ih := hits_mono h (ord := ord)
    unfold hits at ih ⊢
    by_cases h1 : p.2 ∈ F
    · simp [List.filter_cons, h1, h _ h1]; exact ih
    · by_cases h2 : p.2 ∈ G
      · simp [List.filter_cons, h1, h2]; omega
      · simp [List.filter_cons, h1, h2]; exact ih
theorem hits_lt {F G : List Str} (h : ∀ x ∈ F, x ∈ G) {q : Str × Str} (h1 : q.2 ∉ F) (h2 : q.2 ∈ G) : ∀ {ord : List (Str × Str)}, q ∈ ord → hits ord F < hits ord G
  | p :: ord, hm => by
    have im := hits_mono h (ord := ord)
    rcases List.mem_cons.mp hm with e | hm
    · subst e
      unfold hits at im ⊢
      simp [List.filter_cons, h1, h2]; omega
    · have ih := hits_lt h h1 h2 hm
      unfold hits at im ih ⊢
      by_cases h3 : p.2 ∈ F
      · simp [List.filter_cons, h3, h _ h3]; exact ih
      · by_cases h4 : p.2 ∈ G
        · simp [List.filter_cons, h3, h4]; omega
        · simp [List.filter_cons, h3, h4]; exact ih
theorem hits_le {ord : List (Str × Str)} {F : List Str} : hits ord F ≤ ord.length := List.length_filter_le _ _
theorem hits_all {F : List Str} : ∀ {ord : List (Str × Str)}, ord.length ≤ hits ord F → ∀ p ∈ ord, p.2 ∈ F
  | p :: ord, h, q, hq => by
    have hl := hits_le (ord := ord) (F := F)
    unfold hits at h hl
    by_cases h3 : p.2 ∈ F
    · rcases List.mem_cons.mp hq with e | hq
      · subst e; exact h3
      · refine hits_all (ord := ord) ?_ q hq
        unfold hits
        simp [List.filter_cons, h3] at h
        exact h
    · simp [List.filter_cons, h3] at h
      omega
theorem round_end {ord : List (Str × Str)} {F : List Str} (h : Closed ord F ∨ ord.length ≤ hits ord F) : Closed ord F := by
  rcases h with h | h
  · exact h
  · exact fun p hp _ => hits_all h p hp

end
section
variable {P : Program} {w : World} {K : PySem.W.Frag} {mg : Str → Option Value} {base : Heap}
def S_l_above : SpD := fun ds M R => ∃ (ord : List (Str × Str)) (a : Str), ds = [.tup (ord.map pairD), .str a] ∧ ord.length ≤ 500 ∧
  ∀ L : List Str, a ∈ L → Closed ord L → (∀ x ∈ L, Reach ord a x) → R (.lst (L.map .str)) M
theorem ok_l_above {f : Addr} {fd : FuncData} (F : Fun K "_law_above" "_law_above" s_l_above f fd) (T : Txt mg)  : FnOk P w K mg base CX0 1 f fd ["_law_order_here", "_law_mark"] (spD K 2 S_l_above) := by
  have nd := sc_l_above.nd
  refine F.okQ rfl sc_l_above (fun cdv A outer s H E hr => ⟨_, (q_scons (q_set (i := 2) nd rfl (Or.inl rfl) (q_lstO (q_cons (q_var 1) q_nil)))
      (q_scons (q_for PassesOwn.never rfl (qi_rng1 rfl T.b_range (q_cons (q_op o_add (q_callB c_len rfl T.b_len (by kernel_rfl) (q_cons (q_var 0) q_nil)) q_int) q_nil)) (g_name (i := 3) nd rfl (Or.inl rfl)) (q_sone (q_for PassesOwn.never rfl (qi_any (q_var 0)) (g_tup rfl (g_cons (g_name (i := 4) nd rfl (Or.inl rfl)) (g_cons (g_name (i := 5) nd rfl (Or.inl rfl)) g_nil))) (q_sone (q_ifS (q_pw (q_tand (q_tcmp o_inE (q_var 4) (q_var 2) (by first | exact nobehind _ (by decide) (by decide) | rfl)) (q_tand1 (q_tcmp o_notinE (q_var 5) (q_var 2) (by first | exact nobehind _ (by decide) (by decide) | rfl))))) (q_sone (q_expr (q_app (q_var 2) (q_var 5)))) q_snil)))))
      (q_sone (q_retF (q_var 2))))), fun ds M R hl hS => ?_⟩)
  obtain ⟨ord, a, rfl, ho, k⟩ := hS
  walk_at "rd"
  rw [List.length_map]
  refine ⟨sz3 1, fun q hq => ⟨by omega, by omega, ?_⟩⟩
  refine forRun_by (fun i Δ M' => ∃ (x3 x4 x5 : Option D) (L : List Str), Δ = [some (D.tup (ord.map pairD)), some (D.str a), some (D.ref q), x3, x4, x5] ∧ M' = updM M q (.lst (L.map .str)) ∧ a ∈ L ∧ L.Nodup ∧ (∀ x ∈ L, Reach ord a x) ∧ (∀ x ∈ L, x ∈ a :: ord.map (·.2)) ∧ (Closed ord L ∨ i ≤ hits ord L))
    ⟨_, _, _, [a], rfl, rfl, by simp, by simp, fun x hx => by rw [List.mem_singleton.mp hx]; exact Reach.refl, fun x hx => by rw [List.mem_singleton.mp hx]; simp, .inr (Nat.zero_le _)⟩ ?_ ?_
  · rintro i d Δ M' X hd ⟨x3, x4, x5, L0, rfl, rfl, ha, hn, hs, hb, hC⟩ k'
    simp only [gdName]
    walk_at "rd"
    intro hz
    refine forRun_by (fun j Δ M' => ∃ (x4 x5 : Option D) (L : List Str), Δ = [some (D.tup (ord.map pairD)), some (D.str a), some (D.ref q), some d, x4, x5] ∧ M' = updM M q (.lst (L.map .str)) ∧ (∀ x ∈ L0, x ∈ L) ∧ L.Nodup ∧ (∀ x ∈ L, Reach ord a x) ∧ (∀ x ∈ L, x ∈ a :: ord.map (·.2)) ∧ (∀ n y, n < j → ord[n]? = some y → y.1 ∈ L0 → y.2 ∈ L) ∧ (Closed ord L0 → L = L0))
      ⟨_, _, L0, rfl, rfl, fun _ h => h, hn, hs, hb, fun n y h => absurd h (by omega), fun _ => rfl⟩ ?_ ?_
    · rintro j d2 Δ M' X2 hd2 ⟨y4, y5, L, rfl, rfl, hsub, hn2, hs2, hb2, hd', hc⟩ k2
      obtain ⟨⟨b, c⟩, hbc, rfl⟩ := map_get hd2
      have hmem : (b, c) ∈ ord := List.mem_of_getElem? hbc
      have hlen : L.length ≤ ord.length + 1 := by
        have := nodup_len L (a :: ord.map (·.2)) hn2 hb2
        simpa using this
      simp only [pairD, gdTup, gdCons, gdName, gdNil, Option.bind_some]
      refine ⟨_, rfl, ?_⟩
      walk_at "rd"
      refine ⟨_, if_pos ⟨rfl, all_scal⟩, _, rfl, ?_⟩
      rw [any_strs]
      simp only [Bool.false_xor]
      by_cases hbL : b ∈ L
      · simp only [hbL, decide_true, if_true]
        refine ⟨_, if_pos ⟨rfl, all_scal⟩, _, rfl, ?_⟩
        rw [any_strs]
        by_cases hcL : c ∈ L
        · simp only [hcL, decide_true, Bool.xor_true, Bool.not_true, Bool.false_eq_true, if_false]
          refine k2 _ _ ⟨_, _, L, rfl, rfl, hsub, hn2, hs2, hb2, fun n y hnj hy hy0 => ?_, hc⟩
          by_cases hnj' : n < j
          · exact hd' n y hnj' hy hy0
          · have : n = j := by omega
            subst this; rw [hbc] at hy; cases hy; exact hcL
        · simp only [hcL, decide_false, Bool.xor_false, if_true]
          refine ⟨by rw [List.length_map]; exact Nat.lt_of_lt_of_le (by omega : L.length < 1000) (sz3 1000), ?_⟩
          have ea : L.map D.str ++ [D.str c] = (L ++ [c]).map D.str := by simp
          rw [ea]
          refine k2 _ _ ⟨_, _, L ++ [c], rfl, rfl, fun x hx => List.mem_append_left _ (hsub x hx), ?_, fun x hx => ?_, fun x hx => ?_, fun n y hnj hy hy0 => ?_, fun hcl => ?_⟩
          · rw [List.nodup_append]
            refine ⟨hn2, by simp, fun u hu v hv => ?_⟩
            have : v = c := by simpa using hv
            subst this
            rintro rfl
            exact hcL hu
          · rcases List.mem_append.mp hx with h | h
            · exact hs2 x h
            · have : x = c := by simpa using h
              subst this; exact Reach.step (hs2 b hbL) hmem
          · rcases List.mem_append.mp hx with h | h
            · exact hb2 x h
            · have : x = c := by simpa using h
              subst this; exact List.mem_cons_of_mem _ (List.mem_map.mpr ⟨_, hmem, rfl⟩)
          · by_cases hnj' : n < j
            · exact List.mem_append_left _ (hd' n y hnj' hy hy0)
            · have : n = j := by omega
              subst this; rw [hbc] at hy; cases hy; simp
          · have e := hc hcl
            rw [e] at hbL hcL
            exact absurd (hcl _ hmem hbL) hcL
      · simp only [hbL, decide_false, Bool.false_eq_true, if_false]
        refine k2 _ _ ⟨_, _, L, rfl, rfl, hsub, hn2, hs2, hb2, fun n y hnj hy hy0 => ?_, hc⟩
        by_cases hnj' : n < j
        · exact hd' n y hnj' hy hy0
        · have : n = j := by omega
          subst this; rw [hbc] at hy; cases hy; exact absurd (hsub _ hy0) hbL
    · rintro Δ M' ⟨y4, y5, L, rfl, rfl, hsub, hn2, hs2, hb2, hd', hc⟩
      refine k' _ _ ⟨_, _, _, L, rfl, rfl, hsub a ha, hn2, hs2, hb2, ?_⟩
      by_cases hcl : Closed ord L0
      · rw [hc hcl]; exact .inl hcl
      · right
        have hk := hC.resolve_left hcl
        have : ∃ p ∈ ord, p.1 ∈ L0 ∧ p.2 ∉ L0 := Classical.byContradiction fun hn => hcl fun p hp h1 => Classical.byContradiction fun h2 => hn ⟨p, hp, h1, h2⟩
        obtain ⟨p, hp, h1, h2⟩ := this
        obtain ⟨n, hn', en⟩ := List.mem_iff_getElem.mp hp
        have hin : p.2 ∈ L := hd' n p (by rw [List.length_map]; exact hn') (by rw [List.getElem?_eq_getElem hn', en]) h1
        have := hits_lt hsub h2 hin hp
        omega
  · rintro Δ M' ⟨x3, x4, x5, L, rfl, rfl, ha, hn, hs, hb, hC⟩
    have hC' : Closed ord L := round_end (by rw [rngD_len] at hC; rcases hC with h | h; exact .inl h; right; omega)
    walk_at "rd"
    rw [delM_upd hq]
    exact k L ha hC' hs

end
section
variable {P : Program} {w : World} {K : PySem.W.Frag} {mg : Str → Option Value} {base : Heap}
def S_l_leads : SpD := fun ds M R => ∃ (ord : List (Str × Str)) (x y : Str × Int), ds = [.tup (ord.map pairD), signD x, signD y] ∧ ord.length ≤ 500 ∧ R (.bl (x.2 == y.2 && lB ord x.2 x.1 y.1)) M
def S_l_cancels : SpD := S_p_cancel
theorem S_l_leads_iff {ord : List (Str × Str)} {a b : Str} {t u : Int} {M : DH} {R : D → DH → Prop} : S_l_leads [.tup (ord.map pairD), .tup [.str a, .int t], .tup [.str b, .int u]] M R ↔ ord.length ≤ 500 ∧ R (.bl (t == u && lB ord t a b)) M :=
  ⟨fun ⟨o, ⟨c, v⟩, ⟨d, w⟩, e, h1, h2⟩ => by
    simp only [signD, List.cons.injEq, D.tup.injEq, D.str.injEq, D.int.injEq, and_true] at e
    obtain ⟨e1, ⟨e2, e3⟩, e4, e5⟩ := e
    rw [map_inj pairD_inj e1, e2, e3, e4, e5]; exact ⟨h1, h2⟩, fun h => ⟨ord, (a, t), (b, u), rfl, h⟩⟩
theorem S_l_cancels_iff {ord : List (Str × Str)} {a b : Str} {t u : Int} {M : DH} {R : D → DH → Prop} : S_l_cancels [.tup (ord.map pairD), .tup [.str a, .int t], .tup [.str b, .int u]] M R ↔ ord.length ≤ 500 ∧ R (.bl (t + 1 == u && lB ord t a b)) M := S_cancel_iff
theorem in_above {ord : List (Str × Str)} {a b : Str} {L : List Str} (h1 : a ∈ L) (h2 : Closed ord L) (h3 : ∀ x ∈ L, Reach ord a x) : (false ^^ decide (b ∈ L)) = rB ord a b := by
  rw [Bool.false_xor, Bool.eq_iff_iff, rB_iff, decide_eq_true_eq]
  exact ⟨fun h => h3 b h, fun h => reach_in h1 h2 h⟩
theorem ok_l_leads {f : Addr} {fd : FuncData} (F : Fun K "_law_leads" "_law_leads" s_l_leads f fd) (T : Txt mg) (g_l_above : FnD P w K mg base "_law_above" 1 2 S_l_above) : FnOk P w K mg base CX0 2 f fd ["_law_order_here", "_law_one", "_law_other"] (spD K 3 S_l_leads) := by
  have nd := sc_l_leads.nd
  refine F.okQ rfl sc_l_leads (fun cdv A outer s H E hr => ⟨_, (q_scons (q_ifS (q_tcmp (o_ne hr.units) (q_ix o_ix (q_var 1) q_int (fun _ _ => rfl)) (q_ix o_ix (q_var 2) q_int (fun _ _ => rfl)) (by first | exact nobehind _ (by decide) (by decide) | rfl)) (q_sone (q_ret q_bl)) q_snil)
      (q_scons (q_ifS (q_tcmp (o_eq hr.units) (q_op o_mod (q_ix o_ix (q_var 1) q_int (fun _ _ => rfl)) q_int) q_int (by first | exact nobehind _ (by decide) (by decide) | rfl)) (q_sone (q_ret (q_cmp o_inE (q_ix o_ix (q_var 2) q_int (fun _ _ => rfl)) (qc g_l_above (hr.mono (by decide)) rfl (q_cons (q_var 0) (q_cons (q_ix o_ix (q_var 1) q_int (fun _ _ => rfl)) q_nil))) (by first | exact nobehind _ (by decide) (by decide) | rfl)))) q_snil)
      (q_sone (q_ret (q_cmp o_inE (q_ix o_ix (q_var 1) q_int (fun _ _ => rfl)) (qc g_l_above (hr.mono (by decide)) rfl (q_cons (q_var 0) (q_cons (q_ix o_ix (q_var 2) q_int (fun _ _ => rfl)) q_nil))) (by first | exact nobehind _ (by decide) (by decide) | rfl)))))), fun ds M R hl hS => ?_⟩)
  obtain ⟨ord, ⟨a, t⟩, ⟨b, u⟩, rfl, ho, k⟩ := hS
  simp only [signD]
  walk_at "rd"
  refine ite2 (fun h => ?_) (fun h => ?_)
  · have h' : (t == u) = false := by simpa using h
    rw [h', Bool.false_and] at k; exact k
  · have h' : (t == u) = true := by simpa using h
    rw [h', Bool.true_and] at k
    refine ite2 (fun h2 => ?_) (fun h2 => ?_)
    · rw [lB_even (by simpa using h2)] at k
      refine ⟨ord, a, rfl, ho, fun L g1 g2 g3 => ?_⟩
      walk_at "rd"
      refine ⟨_, if_pos ⟨rfl, all_scal⟩, ?_⟩
      rw [any_strs, in_above g1 g2 g3]; exact k
    · rw [lB_odd (by simpa using h2)] at k
      refine ⟨ord, b, rfl, ho, fun L g1 g2 g3 => ?_⟩
      walk_at "rd"
      refine ⟨_, if_pos ⟨rfl, all_scal⟩, ?_⟩
      rw [any_strs, in_above g1 g2 g3]; exact k
theorem ok_l_cancels {f : Addr} {fd : FuncData} (F : Fun K "_law_cancels" "_law_cancels" s_l_cancels f fd) (T : Txt mg) (g_l_leads : FnD P w K mg base "_law_leads" 2 3 S_l_leads) : FnOk P w K mg base CX0 3 f fd ["_law_order_here", "_law_one", "_law_other"] (spD K 3 S_l_cancels) := by
  have nd := sc_l_cancels.nd
  refine F.okQ rfl sc_l_cancels (fun cdv A outer s H E hr => ⟨_, (q_sone (q_ret (q_and (q_cmp (o_eq hr.units) (q_ix o_ix (q_var 2) q_int (fun _ _ => rfl)) (q_op o_add (q_ix o_ix (q_var 1) q_int (fun _ _ => rfl)) q_int) (by first | exact nobehind _ (by decide) (by decide) | rfl)) (q_one (qc g_l_leads (hr.mono (by decide)) rfl (q_cons (q_var 0) (q_cons (q_var 1) (q_cons (q_tup (q_cons (q_ix o_ix (q_var 2) q_int (fun _ _ => rfl)) (q_cons (q_ix o_ix (q_var 1) q_int (fun _ _ => rfl)) q_nil))) q_nil)))))))), fun ds M R hl hS => ?_⟩)
  obtain ⟨ord, ⟨a, t⟩, ⟨b, u⟩, rfl, ho, k⟩ := hS
  simp only [signD]
  walk_at "rd"
  simp only [S_l_leads_iff]
  have e : (u == t + 1) = (t + 1 == u) := by rw [Bool.eq_iff_iff]; simp; omega
  rw [← e] at k
  refine ite2 (fun h => ?_) (fun h => ?_)
  · simp only [h, Bool.true_and] at k
    refine ⟨sz3 2, ho, ?_⟩
    simp only [beq_self_eq_true, Bool.true_and]
    exact k
  · simp only [h, Bool.false_and] at k; exact k

end
section
variable {P : Program} {w : World} {K : PySem.W.Frag} {mg : Str → Option Value} {base : Heap}
theorem row_at {row : List (Str × Int)} {i : Nat} {x : Str × Int} (h : row[i]? = some x) : atI (row.map signD) (i : Int) = some (signD x) := atI_nat (by rw [List.getElem?_map, h]; rfl)
noncomputable def cB (o : List (Str × Str)) (x y : Str × Int) : Bool := x.2 + 1 == y.2 && lB o x.2 x.1 y.1
noncomputable def cnB (o : List (Str × Str)) (row : List (Str × Int)) (k : Nat) : Bool := match row[k]?, row[k + 1]? with
  | some x, some y => cB o x y
  | _, _ => false
theorem cnB_at {o : List (Str × Str)} {row : List (Str × Int)} {k : Nat} {x y : Str × Int} (h1 : row[k]? = some x) (h2 : row[k + 1]? = some y) : cnB o row k = cB o x y := by unfold cnB; rw [h1, h2]
theorem cnB_no {o : List (Str × Str)} {row : List (Str × Int)} {k : Nat} (h : ¬ k + 1 < row.length) : cnB o row k = false := by
  unfold cnB
  rw [List.getElem?_eq_none (i := k + 1) (by omega)]
  cases row[k]? <;> rfl
noncomputable def canD (o : List (Str × Str)) (row : List (Str × Int)) (i : Nat) : D := if cnB o row i = true then .tup [.int i, .int (i + 2), .lst []] else .non
def S_p_by_cancel : SpD := fun ds M R => ∃ (q : Addr) (o : List (Str × Str)) (row : List (Str × Int)) (i : Nat), ds = [.tup (o.map pairD), .ref q, .int i] ∧ M q = some (.lst (row.map signD)) ∧ o.length ≤ 500 ∧ row.length ≤ 5000 ∧ R (canD o row i) M
theorem ok_p_by_cancel {f : Addr} {fd : FuncData} (F : Fun K "by_cancel" "by_cancel" s_p_by_cancel f fd) (T : Txt mg) (g_p_is_place : FnD P w K mg base "is_place" 2 2 S_p_is_place) (g_p_cancel : FnD P w K mg base "cancel" 4 3 S_p_cancel) : FnOk P w K mg base CX0 5 f fd ["order", "signs", "place"] (spD K 3 S_p_by_cancel) := by
  have nd := sc_p_by_cancel.nd
  refine F.okQ rfl sc_p_by_cancel (fun cdv A outer s H E hr => ⟨_, (q_scons (q_ifS (q_pw (q_tand (q_tval (qc g_p_is_place (hr.mono (by decide)) rfl (q_cons (q_var 2) (q_cons (q_op o_sub (q_callB c_len rfl T.b_len (by kernel_rfl) (q_cons (q_var 1) q_nil)) q_int) q_nil)))) (q_tand1 (q_tval (qc g_p_cancel (hr.mono (by decide)) rfl (q_cons (q_var 0) (q_cons (q_ix o_ix (q_var 1) (q_var 2) (fun _ _ => rfl)) (q_cons (q_ix o_ix (q_var 1) (q_op o_add (q_var 2) q_int) (fun _ _ => rfl)) q_nil)))))))) (q_sone (q_ret (q_tup (q_cons (q_var 2) (q_cons (q_op o_add (q_var 2) q_int) (q_cons (q_lst q_nil) q_nil)))))) q_snil)
      (q_sone (q_ret q_non))), fun ds M R hl hS => ?_⟩)
  obtain ⟨q, o, row, i, rfl, hM, ho, hl, k⟩ := hS
  have hrd := rdM_ref hM
  walk_at "rd"
  simp only [hrd]
  walk_at "rd"
  simp only [S_is_place_iff, List.length_map]
  rw [decide_eq_true (by omega : (0 : Int) ≤ i)]
  simp only [Bool.true_and]
  walk_at "rd"
  by_cases h1 : i + 1 < row.length
  · rw [if_pos (by omega : (i : Int) ≤ (row.length : Int) - 2), hrd]
    obtain ⟨x, hx⟩ : ∃ x, row[i]? = some x := ⟨_, List.getElem?_eq_getElem (by omega)⟩
    obtain ⟨y, hy⟩ : ∃ y, row[i + 1]? = some y := ⟨_, List.getElem?_eq_getElem h1⟩
    have hy' : atI (row.map signD) ((i : Int) + 1) = some (signD y) := by rw [show (i : Int) + 1 = ((i + 1 : Nat) : Int) by omega]; exact row_at hy
    walk_at "rd"
    refine ⟨_, row_at hx, _, hy', ?_⟩
    unfold canD at k
    rw [cnB_at hx hy] at k
    obtain ⟨a, t⟩ := x
    obtain ⟨b, u⟩ := y
    simp only [signD, S_cancel_iff]
    refine ⟨ho, ?_⟩
    walk_at "rd"
    unfold cB at k
    refine ite2 (fun h => ?_) (fun h => ?_)
    · rw [if_pos h] at k
      exact ⟨sz3 0, sz3 3, k⟩
    · rw [if_neg h] at k
      exact k
  · rw [if_neg (by omega : ¬ (i : Int) ≤ (row.length : Int) - 2)]
    unfold canD at k
    rw [cnB_no h1, if_neg (by decide)] at k
    exact k
theorem ok_p_by_order {f : Addr} {fd : FuncData} (F : Fun K "by_order" "by_order" s_p_by_order f fd) (T : Txt mg) (g_p_leads : FnD P w K mg base "leads" 4 3 neverS) (g_p_is_place : FnD P w K mg base "is_place" 2 2 S_p_is_place) (g_p_is_mark : FnD P w K mg base "is_mark" 2 1 neverS) : FnOk P w K mg base CX0 5 f fd ["order", "signs", "place", "mark"] (spD K 4 neverS) := ok_never
theorem ok_p_by_grow {f : Addr} {fd : FuncData} (F : Fun K "by_grow" "by_grow" s_p_by_grow f fd) (T : Txt mg) (g_p_is_place : FnD P w K mg base "is_place" 2 2 S_p_is_place) (g_p_is_sign : FnD P w K mg base "is_sign" 3 1 neverS) (g_p_may_grow : FnD P w K mg base "may_grow" 4 3 neverS) : FnOk P w K mg base CX0 5 f fd ["order", "signs", "place", "one", "other"] (spD K 5 neverS) := ok_never
def S_p_by_step : SpD := fun ds M R => ∃ (q : Addr) (o : List (Str × Str)) (row : List (Str × Int)) (i : Nat), ds = [.tup (o.map pairD), .ref q, .tup [.str (Str.ofString "cancel"), .int i]] ∧ M q = some (.lst (row.map signD)) ∧ o.length ≤ 500 ∧ row.length ≤ 5000 ∧ R (canD o row i) M
theorem ok_p_by_step {f : Addr} {fd : FuncData} (F : Fun K "by_step" "by_step" s_p_by_step f fd) (T : Txt mg) (g_p_is_tuple_called : FnD P w K mg base "is_tuple_called" 2 3 S_p_is_tuple_called) (g_p_by_cancel : FnD P w K mg base "by_cancel" 5 3 S_p_by_cancel) (g_p_by_order : FnD P w K mg base "by_order" 5 4 neverS) (g_p_by_grow : FnD P w K mg base "by_grow" 5 5 neverS) : FnOk P w K mg base CX0 6 f fd ["order", "signs", "step"] (spD K 3 S_p_by_step) := by
  have nd := sc_p_by_step.nd
  refine F.okQ rfl sc_p_by_step (fun cdv A outer s H E hr => ⟨_, (q_scons (q_ifS (q_tval (qc g_p_is_tuple_called (hr.mono (by decide)) rfl (q_cons (q_var 2) (q_cons q_str (q_cons q_int q_nil))))) (q_hid (q_sone (q_ret (qc g_p_by_cancel (hr.mono (by decide)) rfl (q_cons (q_var 0) (q_cons (q_var 1) (q_cons (q_ix o_ix (q_var 2) q_int (fun _ _ => rfl)) q_nil))))))) q_snil)
      (q_hid (q_scons (q_ifS (q_tval (qc g_p_is_tuple_called (hr.mono (by decide)) rfl (q_cons (q_var 2) (q_cons q_str (q_cons q_int q_nil))))) (q_hid (q_sone (q_ret (qc g_p_by_order (hr.mono (by decide)) rfl (q_cons (q_var 0) (q_cons (q_var 1) (q_cons (q_ix o_ix (q_var 2) q_int (fun _ _ => rfl)) (q_cons (q_ix o_ix (q_var 2) q_int (fun _ _ => rfl)) q_nil)))))))) q_snil)
      (q_hid (q_scons (q_ifS (q_tval (qc g_p_is_tuple_called (hr.mono (by decide)) rfl (q_cons (q_var 2) (q_cons q_str (q_cons q_int q_nil))))) (q_hid (q_sone (q_ret (qc g_p_by_grow (hr.mono (by decide)) rfl (q_cons (q_var 0) (q_cons (q_var 1) (q_cons (q_ix o_ix (q_var 2) q_int (fun _ _ => rfl)) (q_cons (q_ix o_ix (q_var 2) q_int (fun _ _ => rfl)) (q_cons (q_ix o_ix (q_var 2) q_int (fun _ _ => rfl)) q_nil))))))))) q_snil)
      (q_hid (q_sone (q_ret q_non)))))))), fun ds M R hl hS => ?_⟩)
  obtain ⟨q, o, row, i, rfl, hM, ho, hrl, k⟩ := hS
  walk_at "rd"
  simp only [S_is_tuple_called_iff]
  refine ⟨rfl, ?_⟩
  walk_at "rd"
  rw [if_pos (by decide +kernel)]
  refine dHid_of ?_
  walk_at "rd"
  exact ⟨q, o, row, i, rfl, hM, ho, hrl, k⟩
noncomputable def gonD (o : List (Str × Str)) (row : List (Str × Int)) (i : Nat) : D := if cnB o row i = true then .tup ((row.take i ++ row.drop (i + 2)).map signD) else .non
def S_p_gone : SpD := fun ds M R => ∃ (o : List (Str × Str)) (row : List (Str × Int)) (i : Nat), ds = [.tup (o.map pairD), .tup (row.map signD), .tup [.tup [.str (Str.ofString "cancel"), .int i]]] ∧ o.length ≤ 500 ∧ row.length ≤ 5000 ∧ R (gonD o row i) M
theorem ok_p_gone {f : Addr} {fd : FuncData} (F : Fun K "gone" "gone" s_p_gone f fd) (T : Txt mg) {C W fI : Addr} (Y : ExcK K mg "NoStep" "WishError" "number" C W fI) {fdI : FuncData} (FI : FnOk P w K mg base CX0 1 fI fdI ["self", "number"] (spI C)) (hbI : Binds K fdI ["self", "number"] []) (hfI : ∃ oI, K.lookup fI = some oI ∧ oI.cls = Value.type "function") (g_p_by_step : FnD P w K mg base "by_step" 6 3 S_p_by_step) : FnOk P w K mg base (CX1 P w C) 7 f fd ["order", "row", "walk"] (spX K 3 S_p_gone C) := by
  have nd := sc_p_gone.nd
  refine F.okX rfl sc_p_gone (fun cdv A outer s H E hr => ⟨_, (xs_cons (x_of (q_set (i := 3) nd rfl (Or.inl rfl) (q_listO rfl T.b_list (by kernel_rfl) (q_cons (q_var 1) q_nil))))
      (xs_cons (x_for PassesOwn.leaving rfl (qi_enum rfl T.b_enumerate (q_cons (q_var 2) q_nil)) (g_tup rfl (g_cons (g_name (i := 4) nd rfl (Or.inl rfl)) (g_cons (g_name (i := 5) nd rfl (Or.inl rfl)) g_nil))) (xs_cons (x_of (q_set (i := 6) nd rfl (Or.inl rfl) (qc g_p_by_step (hr.mono (by decide)) rfl (q_cons (q_var 0) (q_cons (q_var 3) (q_cons (q_var 5) q_nil))))))
      (xs_cons (x_if (q_tcmp o_is (q_var 6) q_non (by first | exact nobehind _ (by decide) (by decide) | rfl)) (xs_one (x_rs Y FI hbI hfI (hr.mono (by decide)) rfl rfl (q_var 4) fun pins σ H s a I q h1 h2 h3 => leave1 I q h1 h2 h3)) xs_nil)
      (xs_cons (x_of (q_asg (q_var 6) (g_tup rfl (g_cons (g_name (i := 7) nd rfl (Or.inl rfl)) (g_cons (g_name (i := 8) nd rfl (Or.inl rfl)) (g_cons (g_name (i := 9) nd rfl (Or.inl rfl)) g_nil))))))
      (xs_one (x_of (q_putS (q_var 3) (qo_some (q_var 7)) (qo_some (q_var 8)) (q_var 9))))))))
      (xs_one (x_of (q_retG (q_callTy c_tuple rfl T.b_tuple (by kernel_rfl) (q_cons (q_var 3) q_nil))))))), fun ds M R hl hS => ?_⟩)
  obtain ⟨o, row, i, rfl, ho, hl, k⟩ := hS
  walk_at "rd"
  intro p hp hz
  simp only [numD, forRun, gdTup, gdCons, gdName, gdNil, Option.bind_some]
  refine ⟨_, rfl, ?_⟩
  walk_at "rd"
  refine ⟨p, o, row, i, rfl, updM_same, ho, hl, ?_⟩
  unfold gonD at k
  unfold canD
  by_cases h : cnB o row i = true
  · rw [if_pos h] at k ⊢
    have hi : i + 1 < row.length := by
      by_cases z : i + 1 < row.length
      · exact z
      · rw [cnB_no z] at h; cases h
    walk_at "rd"
    simp only [isNon, Bool.xor_self, Bool.false_eq_true, if_false]
    refine ⟨_, rfl, ?_⟩
    walk_at "rd"
    refine ⟨by omega, by omega, by rw [List.length_map]; omega, by rw [List.length_map]; exact szB _ (by omega), ?_⟩
    rw [show ((i : Int) + 2).toNat = i + 2 by omega, Int.toNat_natCast, ← List.map_take, ← List.map_drop, List.append_nil, ← List.map_append]
    exact ⟨_, leM_upd hp, k⟩
  · rw [if_neg h] at k ⊢
    walk_at "rd"
    exact ite2 (fun _ => ⟨_, leM_upd hp, k⟩) (fun z => absurd (show (false ^^ isNon D.non) = true from rfl) z)
def S_l_gone : SpD := fun ds M R => ∃ (o : List (Str × Str)) (row : List (Str × Int)) (i : Nat), ds = [.tup (o.map pairD), .tup (row.map signD), .int i] ∧ o.length ≤ 500 ∧ row.length ≤ 5000 ∧ R (gonD o row i) M
theorem ok_l_gone {f : Addr} {fd : FuncData} (F : Fun K "_law_gone" "_law_gone" s_l_gone f fd) (T : Txt mg) {C W fI : Addr} (Y : ExcK K mg "NoStep" "WishError" "number" C W fI) (g_p_gone : FnX P w K mg base "gone" 7 3 S_p_gone C) : FnOk P w K mg base CX0 8 f fd ["_law_order_here", "_law_row_here", "_law_place"] (spD K 3 S_l_gone) := by
  have nd := sc_l_gone.nd
  refine F.okQ rfl sc_l_gone (fun cdv A outer s H E hr => ⟨_, (q_scons (q_set (i := 3) nd rfl (Or.inl rfl) q_non)
      (q_scons (q_try (i := 3) g_p_gone (hr.mono (by decide)) rfl (fun _ _ h => h) rfl rfl rfl Y.gC Y.cls nd rfl (Or.inl rfl) (q_cons (q_var 0) (q_cons (q_var 1) (q_cons (q_tup (q_cons (q_tup (q_cons q_str (q_cons (q_var 2) q_nil))) q_nil)) q_nil))))
      (q_sone (q_ret (q_var 3))))), fun ds M R hl hS => ?_⟩)
  obtain ⟨o, row, i, rfl, ho, hl, k⟩ := hS
  walk_at "rd"
  refine ⟨sz3 2, sz3 1, o, row, i, rfl, ho, hl, ?_⟩
  walk_at "rd"
  exact k
noncomputable def cns (o : List (Str × Str)) (row : List (Str × Int)) : List Nat := (List.range (row.length - 1)).filter (cnB o row)
def natD (k : Nat) : D := .int (k : Int)
def S_p_cancels_in : SpD := fun ds M R => ∃ (o : List (Str × Str)) (row : List (Str × Int)), ds = [.tup (o.map pairD), .tup (row.map signD)] ∧ o.length ≤ 500 ∧ row.length ≤ 5000 ∧ ∀ p, M p = none → R (.ref p) (updM M p (.lst ((cns o row).map natD)))
theorem filt_lc {te : TEd} {tc : TTd} {g : GD} {n : Nat} {Δ0 : Option D → DE} {x : Option D} {M : DH} {Q : List D → DH → Prop} (f : Nat → Bool) (hg : ∀ d y, g d (Δ0 y) = some (Δ0 (some d)))
    (hc : ∀ (i : Nat) (Q1 : Bool → DH → Prop), i < n → Q1 (f i) M → tc (Δ0 (some (.int (0 + (i : Int))))) M Q1) (he : ∀ (i : Nat) (Q2 : D → DH → Prop), i < n → Q2 (.int (0 + (i : Int))) M → te (Δ0 (some (.int (0 + (i : Int))))) M Q2)
    (q : Q (((List.range n).filter f).map natD) M) : lcRun g tc te (rngD 0 n) (Δ0 x) M [] Q := by
  refine lcRun_by (fun i acc Δ M' => ∃ x, Δ = Δ0 x ∧ M' = M ∧ acc = ((List.range i).filter f).map natD) ⟨x, rfl, rfl, rfl⟩ ?_ ?_
  · rintro i d acc Δ M' X hd ⟨x, rfl, rfl, rfl⟩ k'
    obtain ⟨hi, rfl⟩ := rngD_get hd
    refine ⟨_, hg _ _, hc i _ hi ?_⟩
    have e : (List.range (i + 1)).filter f = (List.range i).filter f ++ if f i = true then [i] else [] := by
      rw [List.range_succ, List.filter_append]
      cases h : f i <;> simp [h]
    by_cases h : f i = true
    · rw [if_pos h] at e ⊢
      refine he i _ hi (k' _ _ _ ⟨_, rfl, rfl, ?_⟩)
      rw [e, List.map_append]
      simp [natD]
    · rw [if_neg h] at e ⊢
      refine k' _ _ _ ⟨_, rfl, rfl, ?_⟩
      rw [e, List.append_nil]
  · rintro acc Δ M' ⟨x, rfl, rfl, rfl⟩
    rw [rngD_len]
    exact q
theorem ok_p_cancels_in {f : Addr} {fd : FuncData} (F : Fun K "cancels_in" "cancels_in" s_p_cancels_in f fd) (T : Txt mg) (g_p_cancel : FnD P w K mg base "cancel" 4 3 S_p_cancel) : FnOk P w K mg base CX0 5 f fd ["order", "row"] (spD K 2 S_p_cancels_in) := by
  have nd := sc_p_cancels_in.nd
  refine F.okQ rfl sc_p_cancels_in (fun cdv A outer s H E hr => ⟨_, (q_sone (q_ret (q_lcO (ms := [true, true]) (extra := ["place"]) (compSc_of rfl (show compOkB (defScope s_p_cancels_in) n_p_cancels_in _ _ = true from by decide +kernel)) rfl (qi_rng1 rfl T.b_range (q_cons (q_op o_sub (q_callB c_len rfl T.b_len (by kernel_rfl) (q_cons (q_var 1) q_nil)) q_int) q_nil)) (ga_name (i := 2) (show (n_p_cancels_in ++ _).Nodup from by decide +kernel) rfl rfl) (fun _ _ _ _ => (qi_one (q_tval (qc g_p_cancel (hr.mono (by decide)) rfl (q_cons (q_var 0) (q_cons (q_ix o_ix (q_var 1) (q_var 2) (fun _ _ => rfl)) (q_cons (q_ix o_ix (q_var 1) (q_op o_add (q_var 2) q_int) (fun _ _ => rfl)) q_nil))))))) (fun _ _ _ _ => (q_var 2))))), fun ds M R hl hS => ?_⟩)
  obtain ⟨o, row, rfl, ho, hl, k⟩ := hS
  walk_at "rd"
  rw [List.length_map]
  have en : ((row.length : Int) - 1).toNat = row.length - 1 := by omega
  rw [en]
  refine ⟨by omega, by omega, by rw [rngD_len]; exact szB _ (by omega), ?_⟩
  refine filt_lc (Δ0 := fun x => [some (.tup (o.map pairD)), some (.tup (row.map signD)), x]) (cnB o row) (fun d y => rfl) (fun i Q1 hi q => ?_) (fun i Q2 hi q => ?_) fun p hp => k p hp
  · obtain ⟨⟨a, t⟩, hx⟩ : ∃ x, row[i]? = some x := ⟨_, List.getElem?_eq_getElem (by omega)⟩
    obtain ⟨⟨b, u⟩, hy⟩ : ∃ y, row[i + 1]? = some y := ⟨_, List.getElem?_eq_getElem (by omega)⟩
    rw [cnB_at hx hy] at q
    have e0 : (0 : Int) + (i : Int) = ((i : Nat) : Int) := by omega
    have e1 : ((i : Nat) : Int) + 1 = ((i + 1 : Nat) : Int) := by omega
    walk_at "rd"
    rw [e0, e1]
    refine ⟨_, row_at hx, _, row_at hy, ?_⟩
    simp only [signD, S_cancel_iff]
    refine ⟨ho, ?_⟩
    walk_at "rd"
    exact q
  · walk_at "rd"
    exact q

end
section
variable {P : Program} {w : World} {K : PySem.W.Frag} {mg : Str → Option Value} {base : Heap}
def S_l_row : SpD := fun ds M R => ∃ (p : Addr) (l : List D) (ws : List Str), ds = [.ref p, .lst (ws.map .str)] ∧ M p = some (.lst l) ∧ IsPool l ∧ ws ≠ [] ∧ ws.length ≤ 9 ∧
  ∀ (row : List (Str × Int)) l', row.length ≤ 12 → R (.tup (row.map signD)) (updM M p (.lst l'))
theorem ok_l_row {f : Addr} {fd : FuncData} (F : Fun K "_law_row" "_law_row" s_l_row f fd) (T : Txt mg) (g_l_take : FnD P w K mg base "_law_take" 1 2 S_l_take) : FnOk P w K mg base CX0 2 f fd ["_law_pack_here", "_law_marks_here"] (spD K 2 S_l_row) := by
  have nd := sc_l_row.nd
  refine F.okQ rfl sc_l_row (fun cdv A outer s H E hr => ⟨_, (q_scons (q_set (i := 2) nd rfl (Or.inl rfl) (q_lstO q_nil))
      (q_scons (q_set (i := 3) nd rfl (Or.inl rfl) (q_op o_sub (qc g_l_take (hr.mono (by decide)) rfl (q_cons (q_var 0) (q_cons q_int q_nil))) q_int))
      (q_scons (q_for PassesOwn.never rfl (qi_rng1 rfl T.b_range (q_cons (qc g_l_take (hr.mono (by decide)) rfl (q_cons (q_var 0) (q_cons q_int q_nil))) q_nil)) (g_name (i := 4) nd rfl (Or.inl rfl)) (q_scons (q_expr (q_app (q_var 2) (q_tup (q_cons (q_ix o_ix (q_var 1) (qc g_l_take (hr.mono (by decide)) rfl (q_cons (q_var 0) (q_cons (q_callB c_len rfl T.b_len (by kernel_rfl) (q_cons (q_var 1) q_nil)) q_nil))) (fun _ _ => rfl)) (q_cons (q_var 3) q_nil)))))
      (q_sone (q_set (i := 3) nd rfl (Or.inl rfl) (q_ix o_ix (q_lst (q_cons (q_op o_add (q_var 3) q_int) (q_cons (q_op o_add (q_var 3) q_int) (q_cons (q_op o_sub (q_var 3) q_int) (q_cons (q_op o_sub (qc g_l_take (hr.mono (by decide)) rfl (q_cons (q_var 0) (q_cons q_int q_nil))) q_int) q_nil))))) (qc g_l_take (hr.mono (by decide)) rfl (q_cons (q_var 0) (q_cons q_int q_nil))) (fun _ _ => rfl))))))
      (q_sone (q_retG (q_callTy c_tuple rfl T.b_tuple (by kernel_rfl) (q_cons (q_var 2) q_nil))))))), fun ds M R hl hS => ?_⟩)
  obtain ⟨p, l, ws, rfl, hM, hP, hw, hwl, k⟩ := hS
  walk_at "rd"
  refine ⟨sz3 0, fun q hq => ?_⟩
  have hpq : p ≠ q := by rintro rfl; rw [hM] at hq; cases hq
  have hwp := List.length_pos_iff.mpr hw
  refine ⟨p, l, 7, rfl, by rw [updM_ne hpq]; exact hM, hP, by omega, by omega, fun v0 l0 z0 z1 hP0 => ?_⟩
  walk_at "rd"
  refine ⟨p, l0, 13, rfl, updM_same, hP0, by omega, by omega, fun v l1 a0 a1 hP1 => ?_⟩
  refine ⟨v, rfl, by omega, by omega, ?_⟩
  refine forRun_by (fun i Δ M' => ∃ (t : Int) (x4 : Option D) (l2 : List D) (row : List (Str × Int)), Δ = [some (D.ref p), some (D.lst (ws.map D.str)), some (D.ref q), some (D.int t), x4] ∧ M' = updM (updM M p (.lst l2)) q (.lst (row.map signD)) ∧ IsPool l2 ∧ row.length = i)
    ⟨_, _, l1, [], rfl, by rw [updM_upd]; exact updM_comm (Ne.symm hpq), hP1, rfl⟩ ?_ ?_
  · rintro i d Δ M' X hd ⟨t, x4, l2, row, rfl, rfl, hP2, hol⟩ k'
    have hi : i < 13 := by have := (rngD_get hd).1; omega
    simp only [gdName]
    walk_at "rd"
    rw [List.length_map]
    refine ⟨p, l2, _, rfl, by rw [updM_ne hpq, updM_same], hP2, by omega, by omega, fun v1 l3 b0 b1 hP3 => ?_⟩
    obtain ⟨m1, hm1, e1⟩ := marks_at b0 b1
    have em1 : updM (updM (updM M p (.lst l2)) q (.lst (row.map signD))) p (.lst l3) = updM (updM M p (.lst l3)) q (.lst (row.map signD)) := by
      rw [← updM_comm hpq, updM_upd]
    rw [em1]
    refine ⟨_, e1, sz3 2, _, updM_same, by rw [List.length_map]; exact Nat.lt_of_lt_of_le (by omega : row.length < 1000) (sz3 1000), ?_⟩
    rw [updM_upd]
    refine ⟨p, l3, 7, rfl, by rw [updM_ne hpq, updM_same], hP3, by omega, by omega, fun v2 l4 c0 c1 hP4 => ?_⟩
    walk_at "rd"
    refine ⟨sz3 4, p, l4, 4, rfl, updM_same, hP4, by omega, by omega, fun v3 l5 d0 d1 hP5 => ?_⟩
    have em : updM (updM (updM (updM M p (.lst l3)) q (.lst (row.map signD ++ [D.tup [D.str m1, D.int t]]))) p (.lst l4)) p (.lst l5) = updM (updM M p (.lst l5)) q (.lst ((row ++ [(m1, t)]).map signD)) := by
      rw [updM_upd, ← updM_comm hpq, updM_upd]; simp [signD]
    rw [em]
    have kk : ∀ t' : Int, X _ _ := fun t' => k' _ _ ⟨t', some d, l5, row ++ [(m1, t)], rfl, rfl, hP5, by simp; omega⟩
    have : v3 = 0 ∨ v3 = 1 ∨ v3 = 2 ∨ v3 = 3 := by omega
    rcases this with rfl | rfl | rfl | rfl
    · exact ⟨_, rfl, kk _⟩
    · exact ⟨_, rfl, kk _⟩
    · exact ⟨_, rfl, kk _⟩
    · exact ⟨_, rfl, kk _⟩
  · rintro Δ M' ⟨t, x4, l2, row, rfl, rfl, hP2, hol⟩
    rw [rngD_len] at hol
    walk_at "rd"
    exact ⟨_, leM_upd (by rw [updM_ne (Ne.symm hpq)]; exact hq), k row l2 (by omega)⟩

end
section
variable {P : Program} {w : World} {K : PySem.W.Frag} {mg : Str → Option Value} {base : Heap}
theorem eqD_sign {x y : Str × Int} : eqD (signD x) (signD y) = decide (x = y) := by
  obtain ⟨a, t⟩ := x
  obtain ⟨b, u⟩ := y
  rw [Bool.eq_iff_iff]
  simp [signD, eqD, eqDs]
theorem eqDs_signs : ∀ {r1 r2 : List (Str × Int)}, eqDs (r1.map signD) (r2.map signD) = decide (r1 = r2)
  | [], [] => by simp [eqDs]
  | [], _ :: _ => by simp [eqDs]
  | _ :: _, [] => by simp [eqDs]
  | x :: r1, y :: r2 => by
    rw [List.map_cons, List.map_cons, eqDs, eqDs_signs (r1 := r1) (r2 := r2), eqD_sign]
    simp
theorem dLes_signs {r : List (Str × Int)} : dLes (r.map signD) 59 = true := by
  rw [dLes_iff]
  intro d hd
  obtain ⟨x, _, rfl⟩ := List.mem_map.mp hd
  rfl
theorem neR {r1 r2 : List (Str × Int)} : neF (.tup (r1.map signD)) (.tup (r2.map signD)) = some (.bl (!decide (r1 = r2))) := by
  have h1 : dLe (.tup (r1.map signD)) 60 = true := dLes_signs
  have h2 : dLe (.tup (r2.map signD)) 60 = true := dLes_signs
  simp only [neF, h1, h2, and_self, if_true, eqD, eqDs_signs]

end
section
variable {P : Program} {w : World} {K : PySem.W.Frag} {mg : Str → Option Value} {base : Heap}
theorem rep_map {xs : List (Str × Int)} : ∀ k : Nat, (List.replicate k (xs.map signD)).flatten = ((List.replicate k xs).flatten).map signD
  | 0 => rfl
  | k + 1 => by rw [List.replicate_succ, List.replicate_succ, List.flatten_cons, List.flatten_cons, List.map_append, rep_map k]
theorem rep_at {xs : List (Str × Int)} : ∀ (n k : Nat), k < n * xs.length → ((List.replicate n xs).flatten)[k]? = xs[k % xs.length]?
  | 0, k, h => by simp at h
  | n + 1, k, h => by
    rw [List.replicate_succ, List.flatten_cons]
    by_cases hk : k < xs.length
    · rw [List.getElem?_append_left hk, Nat.mod_eq_of_lt hk]
    · rw [List.getElem?_append_right (by omega), rep_at n (k - xs.length) (by rw [Nat.succ_mul] at h; omega)]
      have e : k % xs.length = (k - xs.length) % xs.length := Nat.mod_eq_sub_mod (by omega)
      rw [e]
theorem eqDs_nats : ∀ {a b : List Nat}, eqDs (a.map natD) (b.map natD) = decide (a = b)
  | [], [] => by simp [eqDs]
  | [], _ :: _ => by simp [eqDs]
  | _ :: _, [] => by simp [eqDs]
  | x :: a, y :: b => by
    rw [List.map_cons, List.map_cons, eqDs, eqDs_nats (a := a) (b := b)]
    have : eqD (natD x) (natD y) = decide (x = y) := by
      rw [Bool.eq_iff_iff]; simp [natD, eqD]; omega
    rw [this]; simp
theorem dLe_nats {a : List Nat} : dLe (.lst (a.map natD)) 60 = true := by
  show dLes _ 59 = true
  rw [dLes_iff]
  intro d hd
  obtain ⟨x, _, rfl⟩ := List.mem_map.mp hd
  rfl
theorem eqN_l {a b : List Nat} : eqF (.lst (a.map natD)) (.lst (b.map natD)) = some (.bl (decide (a = b))) := by
  simp only [eqF, dLe_nats, and_self, if_true, eqD, eqDs_nats]
theorem neN_l {a b : List Nat} : neF (.lst (a.map natD)) (.lst (b.map natD)) = some (.bl (!decide (a = b))) := by
  simp only [neF, dLe_nats, and_self, if_true, eqD, eqDs_nats]
theorem any_nats {x : Nat} : ∀ {ws : List Nat}, (ws.map natD).any (fun d => eqD d (.int (x : Int))) = decide (x ∈ ws)
  | [] => by simp
  | y :: ws => by
    rw [List.map_cons, List.any_cons, any_nats (ws := ws)]
    have : eqD (natD y) (.int (x : Int)) = decide (x = y) := by
      rw [Bool.eq_iff_iff]; simp [natD, eqD]; omega
    rw [this]; simp
theorem all_nats {ws : List Nat} : (ws.map natD).all scalD = true := by
  rw [List.all_map, List.all_eq_true]; intro _ _; rfl
theorem in_nats {x : Nat} {ws : List Nat} : (if scalD (.int (x : Int)) = true ∧ (ws.map natD).all scalD = true then some (D.bl (false ^^ (ws.map natD).any (fun d => eqD d (.int (x : Int))))) else none) = some (.bl (decide (x ∈ ws))) := by
  rw [if_pos ⟨rfl, all_nats⟩, any_nats, Bool.false_xor]
theorem map_lc {te : TEd} {g : GD} {n : Nat} {Δ0 : Option D → DE} {x : Option D} {M : DH} {Q : List D → DH → Prop} (f : Nat → D) (hg : ∀ d y, g d (Δ0 y) = some (Δ0 (some d)))
    (he : ∀ (i : Nat) (Q2 : D → DH → Prop), i < n → Q2 (f i) M → te (Δ0 (some (.int (0 + (i : Int))))) M Q2) (q : Q ((List.range n).map f) M) : lcRun g dYes te (rngD 0 n) (Δ0 x) M [] Q := by
  refine lcRun_by (fun i acc Δ M' => ∃ x, Δ = Δ0 x ∧ M' = M ∧ acc = (List.range i).map f) ⟨x, rfl, rfl, rfl⟩ ?_ ?_
  · rintro i d acc Δ M' X hd ⟨x, rfl, rfl, rfl⟩ k'
    obtain ⟨hi, rfl⟩ := rngD_get hd
    refine ⟨_, hg _ _, ?_⟩
    simp only [dYes, if_true]
    refine he i _ hi (k' _ _ _ ⟨_, rfl, rfl, ?_⟩)
    rw [List.range_succ, List.map_append]; rfl
  · rintro acc Δ M' ⟨x, rfl, rfl, rfl⟩
    rw [rngD_len]; exact q
theorem len_rep {xs : List (Str × Int)} : ∀ k : Nat, (List.replicate k xs).flatten.length = k * xs.length
  | 0 => by simp
  | k + 1 => by rw [List.replicate_succ, List.flatten_cons, List.length_append, len_rep k, Nat.succ_mul]; omega
theorem big_row {row : List (Str × Int)} {n : Nat} (hne : row ≠ []) (hl : row.length ≤ 13) (hn : n < 1500) : ∃ big : List (Str × Int), mulE (D.tup (row.map signD)) (D.int 1500) = some (.tup (big.map signD)) ∧ (∀ j, j < n → big[j]? = row[j % row.length]?) ∧ n ≤ big.length := by
  have hw := List.length_pos_iff.mpr hne
  have hbig : 1500 * 1 ≤ 1500 * row.length := Nat.mul_le_mul_left _ hw
  refine ⟨(List.replicate 1500 row).flatten, ?_, fun j hj => rep_at 1500 j (by omega), by rw [len_rep]; omega⟩
  have e : mulE (D.tup (row.map signD)) (D.int 1500) = if 2 ≤ (1500 : Int) ∧ (1500 : Int) < 2 ^ 62 ∧ row.map signD ≠ [] ∧ (row.map signD).length * (1500 : Int).toNat ≤ sizeLine then some (.tup (List.replicate (1500 : Int).toNat (row.map signD)).flatten) else none := rfl
  rw [e, if_pos ⟨by decide, by decide, by simpa using hne, by rw [List.length_map]; exact szB _ (Nat.le_trans (Nat.mul_le_mul_right 1500 hl) (by decide))⟩]
  rw [show (1500 : Int).toNat = 1500 from rfl, rep_map]
theorem in_cns {o : List (Str × Str)} {row : List (Str × Int)} {i : Nat} : decide (i ∈ cns o row) = cnB o row i := by
  rw [Bool.eq_iff_iff, decide_eq_true_eq]
  unfold cns
  rw [List.mem_filter, List.mem_range]
  refine ⟨fun h => h.2, fun h => ⟨?_, h⟩⟩
  by_cases z : i + 1 < row.length
  · omega
  · rw [cnB_no z] at h; cases h
theorem gon_t {o : List (Str × Str)} {row : List (Str × Int)} {i : Nat} (h : cnB o row i = true) : gonD o row i = .tup ((row.take i ++ row.drop (i + 2)).map signD) := if_pos h
theorem gon_f {o : List (Str × Str)} {row : List (Str × Int)} {i : Nat} (h : ¬ cnB o row i = true) : gonD o row i = .non := if_neg h
def S_l_long_right : SpD := fun ds M R => ∃ (o : List (Str × Str)) (row : List (Str × Int)) (ns : List Int), ds = [.tup (o.map pairD), .tup (row.map signD), .scr (ns.map .int)] ∧ o.length ≤ 500 ∧ row ≠ [] ∧ row.length ≤ 13 ∧ R (.bl true) M
theorem ok_l_long_right {f : Addr} {fd : FuncData} (F : Fun K "_law_long_right" "_law_long_right" s_l_long_right f fd) (T : Txt mg) (g_l_gone : FnD P w K mg base "_law_gone" 8 3 S_l_gone) (g_l_cancels : FnD P w K mg base "_law_cancels" 3 3 S_l_cancels) (g_p_cancels_in : FnD P w K mg base "cancels_in" 5 2 S_p_cancels_in) : FnOk P w K mg base CX0 9 f fd ["_law_order_here", "_law_row_here", "_law_script"] (spD K 3 S_l_long_right) := by
  have nd := sc_l_long_right.nd
  refine F.okQ rfl sc_l_long_right (fun cdv A outer s H E hr => ⟨_, (q_scons (q_set (i := 3) nd rfl (Or.inl rfl) (q_op o_add q_int (q_op o_mod (q_callB (c_sum rfl) rfl T.b_sum (by kernel_rfl) (q_cons (q_sliceE (q_var 2) qo_none (qo_some q_int)) q_nil)) q_int)))
      (q_hid (q_scons (q_set (i := 4) nd rfl (Or.inr rfl) (q_callB c_len rfl T.b_len (by kernel_rfl) (q_cons (q_var 1) q_nil)))
      (q_hid (q_scons (q_set (i := 5) nd rfl (Or.inr rfl) (q_lc (ms := [true, true, false, false, true, false, false, false, false]) (extra := ["_law_k"]) (compSc_of rfl (show compOkB (defScope s_l_long_right) n_l_long_right _ _ = true from by decide +kernel)) rfl (qi_rng1 rfl T.b_range (q_cons (q_var 4) q_nil)) (ga_name (i := 9) (show (n_l_long_right ++ _).Nodup from by decide +kernel) rfl rfl) (fun _ _ _ _ => qi_nil) (fun _ _ _ _ => (qc g_l_cancels (hr.mono (by decide)) rfl (q_cons (q_var 0) (q_cons (q_ix o_ix (q_var 1) (q_var 9) (fun _ _ => rfl)) (q_cons (q_ix o_ix (q_var 1) (q_op o_mod (q_op o_add (q_var 9) q_int) (q_var 4)) (fun _ _ => rfl)) q_nil)))))))
      (q_hid (q_scons (q_set (i := 6) nd rfl (Or.inl rfl) (q_sliceE (q_op o_mulE (q_var 1) q_int) qo_none (qo_some (q_var 3))))
      (q_hid (q_scons (q_setLc (i := 7) nd rfl rfl rfl (ms := [false, false, false, false, true, true, false, false, false]) (extra := ["_law_k"]) (compSc_of rfl (show compOkB (defScope s_l_long_right) n_l_long_right _ _ = true from by decide +kernel)) rfl (qi_rng1 rfl T.b_range (q_cons (q_op o_sub (q_var 3) q_int) q_nil)) (ga_name (i := 9) (show (n_l_long_right ++ _).Nodup from by decide +kernel) rfl rfl) (fun _ _ _ _ => (qi_one (q_tval (q_ix o_ix (q_var 5) (q_op o_mod (q_var 9) (q_var 4)) (fun _ _ => rfl))))) (fun _ _ _ _ => (q_var 9)))
      (q_hid (q_scons (q_set (i := 8) nd rfl (Or.inl rfl) (qc g_l_gone (hr.mono (by decide)) rfl (q_cons (q_var 0) (q_cons (q_var 6) (q_cons (q_op o_sub (q_var 3) q_int) q_nil)))))
      (q_hid (q_scons (q_ifS (q_pw (q_tor (q_tcmp (o_ne hr.units) (q_cmp o_isnot (q_var 8) q_non (by first | exact nobehind _ (by decide) (by decide) | rfl)) (q_cmp o_inE (q_op o_sub (q_var 3) q_int) (q_var 7) (by first | exact nobehind _ (by decide) (by decide) | rfl)) (by first | exact nobehind _ (by decide) (by decide) | rfl)) (q_tor1 (q_pw (q_tand (q_tcmp o_isnot (q_var 8) q_non (by first | exact nobehind _ (by decide) (by decide) | rfl)) (q_tand1 (q_tcmp (o_ne hr.units) (q_var 8) (q_sliceE (q_var 6) qo_none (qo_some (q_op o_sub (q_var 3) q_int))) (by first | exact nobehind _ (by decide) (by decide) | rfl)))))))) (q_sone (q_ret q_bl)) q_snil)
      (q_hid (q_sone (q_retG (q_cmp (o_eq hr.units) (qc g_p_cancels_in (hr.mono (by decide)) rfl (q_cons (q_var 0) (q_cons (q_var 6) q_nil))) (q_var 7) (by first | exact nobehind _ (by decide) (by decide) | rfl)))))))))))))))))), fun ds M R hl hS => ?_⟩)
  obtain ⟨o, row, ns, rfl, ho, hne, hl, k⟩ := hS
  have hw := List.length_pos_iff.mpr hne
  walk_at "rd"
  have hcut : L2.cutD (ns.map D.int) none (some 1) = (ns.take 1).map D.int := by rw [show (1 : Int) = ((1 : Nat) : Int) from rfl, cut_to, List.map_take]
  rw [hcut]
  refine ⟨_, sumD_l, ?_⟩
  walk_at "rd"
  obtain ⟨n, hn⟩ : ∃ n : Nat, 100 + (ns.take 1).sum % 1400 = (n : Int) := ⟨(100 + (ns.take 1).sum % 1400).toNat, by omega⟩
  have hn0 : 100 ≤ n := by omega
  have hn1 : n < 1500 := by omega
  rw [hn]
  refine dHid_of ?_
  walk_at "rd"
  rw [List.length_map]
  refine dHid_of ?_
  walk_at "rd"
  have ew : ((row.length : Nat) : Int).toNat = row.length := by omega
  rw [ew]
  refine ⟨by omega, by omega, by rw [rngD_len]; exact sz3 _ (by omega), ?_⟩
  have hmod : ∀ j, j % row.length < row.length := fun j => Nat.mod_lt _ hw
  obtain ⟨fw, hfw⟩ : ∃ fw : Nat → Bool, ∀ i x y, row[i]? = some x → row[(i + 1) % row.length]? = some y → fw i = cB o x y :=
    ⟨fun i => match row[i]?, row[(i + 1) % row.length]? with | some x, some y => cB o x y | _, _ => false, fun i x y h1 h2 => by simp only [h1, h2]⟩
  refine map_lc (Δ0 := fun x => [some (.tup (o.map pairD)), some (.tup (row.map signD)), none, none, some (.int row.length), none, none, none, none, x]) (fun i => .bl (fw i)) (fun d y => rfl) (fun i Q2 hi q => ?_) (dHid_of ?_)
  · obtain ⟨⟨a, t⟩, hx⟩ : ∃ x, row[i]? = some x := ⟨_, List.getElem?_eq_getElem hi⟩
    obtain ⟨⟨b, u⟩, hy⟩ : ∃ y, row[(i + 1) % row.length]? = some y := ⟨_, List.getElem?_eq_getElem (hmod _)⟩
    rw [hfw i _ _ hx hy] at q
    have e0 : (0 : Int) + (i : Int) = ((i : Nat) : Int) := by omega
    have e1 : (((i : Nat) : Int) + 1) % ((row.length : Nat) : Int) = (((i + 1) % row.length : Nat) : Int) := by rw [Int.natCast_emod, Int.natCast_add]; rfl
    walk_at "rd"
    rw [e0]
    refine ⟨_, row_at hx, _, if_pos (by omega), ?_⟩
    rw [e1]
    refine ⟨_, row_at hy, ?_⟩
    simp only [signD, S_l_cancels_iff]
    exact ⟨ho, q⟩
  walk_at "rd"
  obtain ⟨big, emul, hbat, hblen⟩ := big_row hne hl hn1
  refine ⟨_, emul, ?_⟩
  walk_at "rd"
  rw [cut_to, ← List.map_take]
  have hlat : ∀ j, j < n → (big.take n)[j]? = row[j % row.length]? := fun j hj => by
    rw [List.getElem?_take_of_lt hj]; exact hbat j hj
  have hllen : (big.take n).length = n := by rw [List.length_take]; omega
  generalize big.take n = long at hlat hllen
  refine dHid_of ?_
  walk_at "rd"
  have en : ((n : Int) - 1).toNat = n - 1 := by omega
  rw [en]
  refine ⟨by omega, by omega, by rw [rngD_len]; exact szB _ (by omega), ?_⟩
  have hcn : ∀ j, j < n - 1 → fw (j % row.length) = cnB o long j := fun j hj => by
    obtain ⟨x, hx⟩ : ∃ x, row[j % row.length]? = some x := ⟨_, List.getElem?_eq_getElem (hmod _)⟩
    obtain ⟨y, hy⟩ : ∃ y, row[(j + 1) % row.length]? = some y := ⟨_, List.getElem?_eq_getElem (hmod _)⟩
    have hy' : row[(j % row.length + 1) % row.length]? = some y := by rw [Nat.mod_add_mod]; exact hy
    rw [hfw _ _ _ hx hy', cnB_at (by rw [hlat j (by omega)]; exact hx) (by rw [hlat (j + 1) (by omega)]; exact hy)]
  refine filt_lc (Δ0 := fun x => [none, none, none, none, some (.int row.length), some (.lst ((List.range row.length).map fun i => .bl (fw i))), none, none, none, x]) (cnB o long) (fun d y => rfl) (fun i Q1 hi q => ?_) (fun i Q2 hi q => ?_) (dHid_of ?_)
  · have e0 : (0 : Int) + (i : Int) = ((i : Nat) : Int) := by omega
    have e1 : ((i : Nat) : Int) % ((row.length : Nat) : Int) = ((i % row.length : Nat) : Int) := (Int.natCast_emod _ _).symm
    walk_at "rd"
    rw [e0]
    refine ⟨_, if_pos (by omega), ?_⟩
    rw [e1]
    refine ⟨D.bl (fw (i % row.length)), atI_nat (by rw [List.getElem?_map, List.getElem?_range (hmod _)]; rfl), _, rfl, ?_⟩
    rw [hcn i hi]; exact q
  · walk_at "rd"
    exact q
  have edue : (List.range (n - 1)).filter (cnB o long) = cns o long := by unfold cns; rw [hllen]
  rw [edue]
  walk_at "rd"
  have e2 : (n : Int) - 2 = ((n - 2 : Nat) : Int) := by omega
  rw [e2]
  refine ⟨o, long, n - 2, rfl, ho, by omega, dHid_of ?_⟩
  walk_at "rd"
  rw [e2]
  refine ⟨_, in_nats, ?_⟩
  rw [in_cns]
  have fin : dHid (dRetG (dOp eqF (dCall 2 S_p_cancels_in (dCons (dVar 0) (dCons (dVar 6) dNil))) (dVar 7))) { nx := fun x M' => R D.non M', rt := R }
      [some (D.tup (o.map pairD)), some (D.tup (row.map signD)), some (D.scr (ns.map D.int)), some (D.int n), some (D.int row.length), some (D.lst ((List.range row.length).map fun i => D.bl (fw i))), some (D.tup (long.map signD)), some (D.lst ((cns o long).map natD)), some (gonD o long (n - 2))] M := by
    refine dHid_of ?_
    walk_at "rd"
    refine ⟨o, long, rfl, ho, by omega, fun p hp => ?_⟩
    dsimp only
    rw [rdM_ref updM_same]
    refine ⟨_, eqN_l, _, leM_upd hp, ?_⟩
    rw [decide_eq_true rfl]; exact k
  by_cases h : cnB o long (n - 2) = true
  · rw [gon_t h, h] at *
    walk_at "rd"
    rw [cut_to, ← List.map_take]
    refine ⟨_, neR, _, rfl, ?_⟩
    have e3 : long.take (n - 2) ++ long.drop (n - 2 + 2) = long.take (n - 2) := by rw [List.drop_of_length_le (by omega), List.append_nil]
    rw [e3] at fin ⊢
    rw [decide_eq_true rfl, if_neg (by decide)]
    exact fin
  · rw [gon_f h, eq_false_of_ne_true h] at *
    walk_at "rd"
    exact fin

end
section
variable {P : Program} {w : World} {K : PySem.W.Frag} {mg : Str → Option Value} {base : Heap}
theorem few0 : Few 0 := few_pow (n := 1) (by decide) (by decide) (by decide)
theorem one_cut {ns : List Int} (hf : ∀ m ∈ ns, Few m) : ∃ c, sumD (.lst (L2.cutD (ns.map D.int) (some 2) (some 3))) = some (.int c) ∧ Few c := by
  obtain ⟨ms, e, _, hin⟩ := cut_sub (ns := ns) (lo := some 2) (hi := some 3)
  have hlen : ms.length ≤ 1 := by
    have h := congrArg List.length e
    rw [List.length_map] at h
    rw [← h]
    unfold L2.cutD
    rw [show (2 : Int) = ((2 : Nat) : Int) from rfl, show (3 : Int) = ((3 : Nat) : Int) from rfl, HT.sIx_nat, HT.sIx_nat, List.length_take, List.length_drop]
    omega
  rw [e]
  match ms, hlen, hin with
  | [], _, _ => exact ⟨0, sumD_l, few0⟩
  | [m], _, hin => exact ⟨m, by rw [sumD_l]; simp, hf m (hin m (by simp))⟩
def S_law : SpD := fun ds M R => ∃ ns : List Int, ds = [.scr (ns.map .int)] ∧ M = noM ∧ ns.length ≤ 63 ∧ (∀ m ∈ ns, Few m) ∧ ∀ M', R (.bl true) M'
theorem ok_law {f : Addr} {fd : FuncData} (F : Fun K "law" "law" s_law f fd) (T : Txt mg) (g_l_pack : FnD P w K mg base "_law_pack" 2 2 S_l_pack) (g_l_marks : FnD P w K mg base "_law_marks" 2 1 S_l_marks) (g_l_order : FnD P w K mg base "_law_order" 2 2 S_l_order) (g_l_long_right : FnD P w K mg base "_law_long_right" 9 3 S_l_long_right) (g_l_row : FnD P w K mg base "_law_row" 2 2 S_l_row) (g_p_cancels_in : FnD P w K mg base "cancels_in" 5 2 S_p_cancels_in) (g_l_gone : FnD P w K mg base "_law_gone" 8 3 S_l_gone) (g_l_mixed : FnD P w K mg base "_law_mixed" 1 1 S_l_mixed) (g_l_cancels : FnD P w K mg base "_law_cancels" 3 3 S_l_cancels) : FnOk P w K mg base CX0 10 f fd ["_law_script"] (spD K 1 S_law) := by
  have nd := sc_law.nd
  refine F.okQ rfl sc_law (fun cdv A outer s H E hr => ⟨_, (q_scons (q_set (i := 1) nd rfl (Or.inl rfl) (qc g_l_pack (hr.mono (by decide)) rfl (q_cons (q_var 0) (q_cons q_int q_nil))))
      (q_hid (q_scons (q_set (i := 2) nd rfl (Or.inl rfl) (qc g_l_marks (hr.mono (by decide)) rfl (q_cons (q_var 1) q_nil)))
      (q_hid (q_scons (q_set (i := 3) nd rfl (Or.inr rfl) (qc g_l_order (hr.mono (by decide)) rfl (q_cons (q_var 1) (q_cons (q_var 2) q_nil))))
      (q_hid (q_scons (q_for PassesOwn.never rfl (qi_any (q_op o_add (q_lst (q_cons (q_callB (c_sum rfl) rfl T.b_sum (by kernel_rfl) (q_cons (q_sliceE (q_var 0) (qo_some q_int) (qo_some q_int)) q_nil)) q_nil)) (q_sliceE (q_var 0) (qo_some q_int) (qo_some q_int)))) (g_name (i := 4) nd rfl (Or.inl rfl)) (q_scons (q_set (i := 5) nd rfl (Or.inr rfl) (qc g_l_row (hr.mono (by decide)) rfl (q_cons (q_lstO (q_cons (qc g_l_mixed (hr.mono (by decide)) rfl (q_cons (q_var 4) q_nil)) q_nil)) (q_cons (q_var 2) q_nil))))
      (q_hid (q_scons (q_setLc (i := 6) nd rfl rfl rfl (ms := [false, false, false, true, false, true, false, false, false, false]) (extra := ["_law_k"]) (compSc_of rfl (show compOkB (defScope s_law) n_law _ _ = true from by decide +kernel)) rfl (qi_rng1 rfl T.b_range (q_cons (q_op o_sub (q_callB c_len rfl T.b_len (by kernel_rfl) (q_cons (q_var 5) q_nil)) q_int) q_nil)) (ga_name (i := 10) (show (n_law ++ _).Nodup from by decide +kernel) rfl rfl) (fun _ _ _ _ => (qi_one (q_tval (qc g_l_cancels (hr.mono (by decide)) rfl (q_cons (q_var 3) (q_cons (q_ix o_ix (q_var 5) (q_var 10) (fun _ _ => rfl)) (q_cons (q_ix o_ix (q_var 5) (q_op o_add (q_var 10) q_int) (fun _ _ => rfl)) q_nil))))))) (fun _ _ _ _ => (q_var 10)))
      (q_hid (q_scons (q_set (i := 7) nd rfl (Or.inl rfl) (qc g_p_cancels_in (hr.mono (by decide)) rfl (q_cons (q_var 3) (q_cons (q_var 5) q_nil))))
      (q_hid (q_scons (q_ifS (q_pw (q_tor (q_tnot (q_tval (q_isi (Tn := "list") (by decide) rfl T.b_isinstance rfl T.b_list (by kernel_rfl) (q_var 7)))) (q_tor1 (q_tcmp (o_ne hr.units) (q_var 7) (q_var 6) (by first | exact nobehind _ (by decide) (by decide) | rfl))))) (q_sone (q_ret q_bl)) q_snil)
      (q_hid (q_scons (q_expr (q_app (q_var 7) q_int))
      (q_hid (q_scons (q_ifS (q_tcmp (o_ne hr.units) (qc g_p_cancels_in (hr.mono (by decide)) rfl (q_cons (q_var 3) (q_cons (q_var 5) q_nil))) (q_var 6) (by first | exact nobehind _ (by decide) (by decide) | rfl)) (q_sone (q_ret q_bl)) q_snil)
      (q_hid (q_sone (q_for PassesOwn.never rfl (qi_rng1 rfl T.b_range (q_cons (q_op o_add (q_callB c_len rfl T.b_len (by kernel_rfl) (q_cons (q_var 5) q_nil)) q_int) q_nil)) (g_name (i := 8) nd rfl (Or.inl rfl)) (q_scons (q_set (i := 9) nd rfl (Or.inl rfl) (qc g_l_gone (hr.mono (by decide)) rfl (q_cons (q_var 3) (q_cons (q_var 5) (q_cons (q_var 8) q_nil)))))
      (q_hid (q_sone (q_ifS (q_pw (q_tor (q_tcmp (o_ne hr.units) (q_cmp o_isnot (q_var 9) q_non (by first | exact nobehind _ (by decide) (by decide) | rfl)) (q_cmp o_inE (q_var 8) (q_var 6) (by first | exact nobehind _ (by decide) (by decide) | rfl)) (by first | exact nobehind _ (by decide) (by decide) | rfl)) (q_tor1 (q_pw (q_tand (q_tcmp o_isnot (q_var 9) q_non (by first | exact nobehind _ (by decide) (by decide) | rfl)) (q_tand1 (q_tcmp (o_ne hr.units) (q_var 9) (q_op o_add (q_sliceE (q_var 5) qo_none (qo_some (q_var 8))) (q_sliceE (q_var 5) (qo_some (q_op o_add (q_var 8) q_int)) qo_none)) (by first | exact nobehind _ (by decide) (by decide) | rfl)))))))) (q_sone (q_ret q_bl)) q_snil)))))))))))))))))))
      (q_hid (q_sone (q_ret (qc g_l_long_right (hr.mono (by decide)) rfl (q_cons (q_var 3) (q_cons (q_op o_add (qc g_l_row (hr.mono (by decide)) rfl (q_cons (q_lstO (q_cons (qc g_l_mixed (hr.mono (by decide)) rfl (q_cons (q_callB (c_sum rfl) rfl T.b_sum (by kernel_rfl) (q_cons (q_sliceE (q_var 0) (qo_some q_int) (qo_some q_int)) q_nil)) q_nil)) q_nil)) (q_cons (q_var 2) q_nil))) (q_tup (q_cons (q_tup (q_cons (q_ix o_ix (q_var 2) q_int (fun _ _ => rfl)) (q_cons q_int q_nil))) q_nil))) (q_cons (q_var 0) q_nil)))))))))))))), fun ds M R hl hS => ?_⟩)
  obtain ⟨ns, rfl, rfl, hl, hf, k⟩ := hS
  walk_at "rd"
  refine ⟨ns, 0, rfl, hf, hl, by omega, by omega, fun p l hp hP => dHid_of ?_⟩
  walk_at "rd"
  refine ⟨p, l, rfl, updM_same, hP, fun ws l1 hw0 hw1 hP1 => dHid_of ?_⟩
  rw [updM_upd]
  walk_at "rd"
  refine ⟨p, l1, ws, rfl, updM_same, hP1, hw0, hw1, fun ord l2 ho hom hP2 => dHid_of ?_⟩
  walk_at "rd"
  obtain ⟨c0, hc0, hfc0⟩ := one_cut hf
  obtain ⟨ms, ems, hml, hmin⟩ := cut_sub (ns := ns) (lo := some 3) (hi := some 30)
  rw [ems]
  refine ⟨_, hc0, sz3 1, _, if_pos (by rw [List.length_map]; exact sz3 _ (by omega)), ?_⟩
  refine ⟨_, rfl, fun hz => ?_⟩
  have ecells : D.int c0 :: ms.map D.int = (c0 :: ms).map D.int := rfl
  rw [ecells]
  have hcells : ∀ m ∈ c0 :: ms, Few m := fun m hm => by
    rcases List.mem_cons.mp hm with rfl | hm
    · exact hfc0
    · exact hf m (hmin m hm)
  generalize c0 :: ms = cells at hcells
  refine forRun_by (fun i Δ M' => ∃ (x4 x5 x6 x7 x8 x9 : Option D), Δ = [some (D.scr (ns.map D.int)), some (D.ref p), some (D.lst (ws.map D.str)), some (D.tup (ord.map pairD)), x4, x5, x6, x7, x8, x9]) ⟨_, _, _, _, _, _, rfl⟩ ?_ ?_
  · rintro i d Δ M1 X hd ⟨x4, x5, x6, x7, x8, x9, rfl⟩ k'
    obtain ⟨c, hc, rfl⟩ := map_getI hd
    simp only [gdName]
    walk_at "rd"
    refine ⟨c, rfl, hcells c hc, fun v hv0 hv1 => ⟨sz3 1, fun q hq => ⟨q, _, ws, rfl, updM_same, ⟨v, rfl⟩, hw0, hw1, fun row l' hrl => dHid_of ?_⟩⟩⟩
    rw [updM_upd]
    generalize updM M1 q (HD.lst l') = M2
    walk_at "rd"
    rw [List.length_map]
    have en : ((row.length : Int) - 1).toNat = row.length - 1 := by omega
    rw [en]
    refine ⟨by omega, by omega, by rw [rngD_len]; exact sz3 _ (by omega), ?_⟩
    refine filt_lc (Δ0 := fun x => [none, none, none, some (.tup (ord.map pairD)), none, some (.tup (row.map signD)), none, none, none, none, x]) (cnB ord row) (fun d y => rfl) (fun i Q1 hi q => ?_) (fun i Q2 hi q => ?_) (dHid_of ?_)
    · obtain ⟨⟨a, t⟩, hx⟩ : ∃ x, row[i]? = some x := ⟨_, List.getElem?_eq_getElem (by omega)⟩
      obtain ⟨⟨b, u⟩, hy⟩ : ∃ y, row[i + 1]? = some y := ⟨_, List.getElem?_eq_getElem (by omega)⟩
      rw [cnB_at hx hy] at q
      have e0 : (0 : Int) + (i : Int) = ((i : Nat) : Int) := by omega
      have e1 : ((i : Nat) : Int) + 1 = ((i + 1 : Nat) : Int) := by omega
      walk_at "rd"
      rw [e0, e1]
      refine ⟨_, row_at hx, _, row_at hy, ?_⟩
      simp only [signD, S_l_cancels_iff]
      exact ⟨by omega, _, rfl, q⟩
    · walk_at "rd"
      exact q
    have edue : (List.range (row.length - 1)).filter (cnB ord row) = cns ord row := rfl
    rw [edue]
    walk_at "rd"
    refine ⟨ord, row, rfl, by omega, by omega, fun q2 hq2 => dHid_of ?_⟩
    walk_at "rd"
    refine ⟨true, rfl, ?_⟩
    rw [if_neg (by decide)]
    refine ⟨_, neN_l, _, rfl, ?_⟩
    rw [decide_eq_true rfl, if_neg (by decide)]
    refine dHid_of ?_
    walk_at "rd"
    refine ⟨by rw [List.length_map]; exact Nat.lt_of_lt_of_le (by have := List.length_filter_le (cnB ord row) (List.range (row.length - 1)); rw [List.length_range] at this; unfold cns; omega : (cns ord row).length < 1000) (sz3 1000), dHid_of ?_⟩
    generalize updM _ q2 _ = M3
    walk_at "rd"
    refine ⟨ord, row, rfl, by omega, by omega, fun q3 hq3 => ?_⟩
    walk_at "rd"
    refine ⟨_, neN_l, _, rfl, ?_⟩
    rw [decide_eq_true rfl, if_neg (by decide)]
    generalize updM _ q3 _ = M4
    refine dHid_of ?_
    walk_at "rd"
    rw [List.length_map]
    have en1 : ((row.length : Int) + 1).toNat = row.length + 1 := by omega
    rw [en1]
    refine ⟨by omega, by omega, ?_⟩
    refine forRun_by (fun i Δ M' => ∃ (x8 x9 : Option D), Δ = [some (D.scr (ns.map D.int)), some (D.ref p), some (D.lst (ws.map D.str)), some (D.tup (ord.map pairD)), some (D.int c), some (D.tup (row.map signD)), some (D.lst ((cns ord row).map natD)), some (D.ref q2), x8, x9]) ⟨_, _, rfl⟩ ?_ ?_
    · rintro i d Δ M5 X2 hd2 ⟨x8, x9, rfl⟩ k2
      obtain ⟨hi, rfl⟩ := rngD_get hd2
      have e0 : (0 : Int) + (i : Int) = ((i : Nat) : Int) := by omega
      rw [e0]
      simp only [gdName]
      walk_at "rd"
      refine ⟨ord, row, i, rfl, by omega, by omega, dHid_of ?_⟩
      walk_at "rd"
      refine ⟨_, in_nats, ?_⟩
      rw [in_cns]
      have fin : ∀ y, X2 [some (D.scr (ns.map D.int)), some (D.ref p), some (D.lst (ws.map D.str)), some (D.tup (ord.map pairD)), some (D.int c), some (D.tup (row.map signD)), some (D.lst ((cns ord row).map natD)), some (D.ref q2), some (D.int i), y] M5 := fun y => k2 _ _ ⟨_, _, rfl⟩
      by_cases h : cnB ord row i = true
      · rw [gon_t h, h]
        walk_at "rd"
        simp only [isNon, Bool.xor_false, Bool.true_eq, beq_self_eq_true, Bool.not_true, Bool.false_eq_true, if_false, if_true]
        have e2 : (i : Int) + 2 = ((i + 2 : Nat) : Int) := by omega
        rw [e2, cut_to, cut_from, ← List.map_take, ← List.map_drop]
        refine ⟨_, if_pos (by rw [List.length_map, List.length_map]; exact sz3 _ (by simp; omega)), ?_⟩
        rw [← List.map_append, rdM_tup]
        refine ⟨_, neR, _, rfl, ?_⟩
        rw [decide_eq_true rfl, if_neg (by decide)]
        exact fin _
      · rw [gon_f h, eq_false_of_ne_true h]
        walk_at "rd"
        exact fin _
    · rintro Δ M' ⟨x8, x9, rfl⟩
      exact k' _ _ ⟨_, _, _, _, _, _, rfl⟩
  · rintro Δ M' ⟨x4, x5, x6, x7, x8, x9, rfl⟩
    refine dHid_of ?_
    walk_at "rd"
    refine ⟨_, hc0, c0, rfl, hfc0, fun v hv0 hv1 => ⟨sz3 1, fun q hq => ⟨q, _, ws, rfl, updM_same, ⟨v, rfl⟩, hw0, hw1, fun row l' hrl => ?_⟩⟩⟩
    dsimp only
    rw [updM_upd]
    obtain ⟨m1, hm1, e1⟩ := marks_at (marks := ws) (v := 0) (by omega) (by have := List.length_pos_iff.mpr hw0; omega)
    refine ⟨_, e1, sz3 2, sz3 1, D.tup ((row ++ [(m1, 0)]).map signD), ?_, ord, row ++ [(m1, 0)], ns, rfl, by omega, by simp, by simp; omega, k _⟩
    rw [rdM_tup, addD_tt, if_pos (by simp; exact sz3 _ (by omega))]
    simp [signD]

end
end My

set_option Elab.async false
set_option linter.all false
set_option maxRecDepth 100000
set_option maxHeartbeats 4000000
namespace My
open PySem PySem.Spec PyProof.Rows L2
theorem law_s : LawSB S_law := fun ns R hn hf hR => ⟨ns, rfl, rfl, hn, hf, hR⟩
theorem us1 {p : List Value → Prop} (h : ∀ a, p [a]) : ∀ us : List Value, us.length = 1 → p us
  | [a], _ => h a
theorem us2 {p : List Value → Prop} (h : ∀ a b, p [a, b]) : ∀ us : List Value, us.length = 2 → p us
  | [a, b], _ => h a b
theorem us3 {p : List Value → Prop} (h : ∀ a b c, p [a, b, c]) : ∀ us : List Value, us.length = 3 → p us
  | [a, b, c], _ => h a b c
theorem us4 {p : List Value → Prop} (h : ∀ a b c d, p [a, b, c, d]) : ∀ us : List Value, us.length = 4 → p us
  | [a, b, c, d], _ => h a b c d
theorem us5 {p : List Value → Prop} (h : ∀ a b c d e, p [a, b, c, d, e]) : ∀ us : List Value, us.length = 5 → p us
  | [a, b, c, d, e], _ => h a b c d e
theorem all_mk {l : PySem.W.OpenLaw} {w : World} {K : PySem.W.Frag} {h : Heap} {mg : Str → Option Value} {fa : Addr} (X : K.In h) (G : h.Ns mainGlobals mg) (hfa : mg "law" = some (.ref fa))
    {f0 : Addr} {od0 an0 : Option Addr} {sl0 : Array (Option Value)} {oc0 kV0 dc0 pm0 cd0 ct0 : Value}
    {f1 : Addr} {od1 an1 : Option Addr} {sl1 : Array (Option Value)} {oc1 kV1 dc1 pm1 cd1 ct1 : Value}
    {f2 : Addr} {od2 an2 : Option Addr} {sl2 : Array (Option Value)} {oc2 kV2 dc2 pm2 cd2 ct2 : Value}
    {f3 : Addr} {od3 an3 : Option Addr} {sl3 : Array (Option Value)} {oc3 kV3 dc3 pm3 cd3 ct3 : Value}
    {f4 : Addr} {od4 an4 : Option Addr} {sl4 : Array (Option Value)} {oc4 kV4 dc4 pm4 cd4 ct4 : Value}
    {f5 : Addr} {od5 an5 : Option Addr} {sl5 : Array (Option Value)} {oc5 kV5 dc5 pm5 cd5 ct5 : Value}
    {f6 : Addr} {od6 an6 : Option Addr} {sl6 : Array (Option Value)} {oc6 kV6 dc6 pm6 cd6 ct6 : Value}
    {f7 : Addr} {od7 an7 : Option Addr} {sl7 : Array (Option Value)} {oc7 kV7 dc7 pm7 cd7 ct7 : Value}
    {f8 : Addr} {od8 an8 : Option Addr} {sl8 : Array (Option Value)} {oc8 kV8 dc8 pm8 cd8 ct8 : Value}
    {f9 : Addr} {od9 an9 : Option Addr} {sl9 : Array (Option Value)} {oc9 kV9 dc9 pm9 cd9 ct9 : Value}
    {f10 : Addr} {od10 an10 : Option Addr} {sl10 : Array (Option Value)} {oc10 kV10 dc10 pm10 cd10 ct10 : Value}
    {f11 : Addr} {od11 an11 : Option Addr} {sl11 : Array (Option Value)} {oc11 kV11 dc11 pm11 cd11 ct11 : Value}
    {f12 : Addr} {od12 an12 : Option Addr} {sl12 : Array (Option Value)} {oc12 kV12 dc12 pm12 cd12 ct12 : Value}
    {f13 : Addr} {od13 an13 : Option Addr} {sl13 : Array (Option Value)} {oc13 kV13 dc13 pm13 cd13 ct13 : Value}
    {f14 : Addr} {od14 an14 : Option Addr} {sl14 : Array (Option Value)} {oc14 kV14 dc14 pm14 cd14 ct14 : Value}
    {f15 : Addr} {od15 an15 : Option Addr} {sl15 : Array (Option Value)} {oc15 kV15 dc15 pm15 cd15 ct15 : Value}
    {f16 : Addr} {od16 an16 : Option Addr} {sl16 : Array (Option Value)} {oc16 kV16 dc16 pm16 cd16 ct16 : Value}
    {f17 : Addr} {od17 an17 : Option Addr} {sl17 : Array (Option Value)} {oc17 kV17 dc17 pm17 cd17 ct17 : Value}
    {f18 : Addr} {od18 an18 : Option Addr} {sl18 : Array (Option Value)} {oc18 kV18 dc18 pm18 cd18 ct18 : Value}
    {f19 : Addr} {od19 an19 : Option Addr} {sl19 : Array (Option Value)} {oc19 kV19 dc19 pm19 cd19 ct19 : Value}
    {f20 : Addr} {od20 an20 : Option Addr} {sl20 : Array (Option Value)} {oc20 kV20 dc20 pm20 cd20 ct20 : Value}
    {f21 : Addr} {od21 an21 : Option Addr} {sl21 : Array (Option Value)} {oc21 kV21 dc21 pm21 cd21 ct21 : Value}
    {f22 : Addr} {od22 an22 : Option Addr} {sl22 : Array (Option Value)} {oc22 kV22 dc22 pm22 cd22 ct22 : Value}
    {f23 : Addr} {od23 an23 : Option Addr} {sl23 : Array (Option Value)} {oc23 kV23 dc23 pm23 cd23 ct23 : Value}
    {f24 : Addr} {od24 an24 : Option Addr} {sl24 : Array (Option Value)} {oc24 kV24 dc24 pm24 cd24 ct24 : Value}
    {f25 : Addr} {od25 an25 : Option Addr} {sl25 : Array (Option Value)} {oc25 kV25 dc25 pm25 cd25 ct25 : Value}
    {f26 : Addr} {od26 an26 : Option Addr} {sl26 : Array (Option Value)} {oc26 kV26 dc26 pm26 cd26 ct26 : Value}
    {f27 : Addr} {od27 an27 : Option Addr} {sl27 : Array (Option Value)} {oc27 kV27 dc27 pm27 cd27 ct27 : Value}
    {f28 : Addr} {od28 an28 : Option Addr} {sl28 : Array (Option Value)} {oc28 kV28 dc28 pm28 cd28 ct28 : Value}
    {f29 : Addr} {od29 an29 : Option Addr} {sl29 : Array (Option Value)} {oc29 kV29 dc29 pm29 cd29 ct29 : Value}
    {f30 : Addr} {od30 an30 : Option Addr} {sl30 : Array (Option Value)} {oc30 kV30 dc30 pm30 cd30 ct30 : Value}
    {f31 : Addr} {od31 an31 : Option Addr} {sl31 : Array (Option Value)} {oc31 kV31 dc31 pm31 cd31 ct31 : Value}
    {f32 : Addr} {od32 an32 : Option Addr} {sl32 : Array (Option Value)} {oc32 kV32 dc32 pm32 cd32 ct32 : Value}
    {C W N fI NW : Addr} {nm q : Str} {bs : List Value} {sn : List Str} {sub : List Value} {ab : Bool} {col : Option Bool} {dd : Option Addr} {xk0 xk1 xk2 xk3 xk5 : Option Value} {xc0 : Value} {dW : Option Addr} {cdW : ClassData} {slW : Array (Option Value)} {cN : Value} {dN : Option Addr} {es : Array DictEntry} {ep : Nat} {sN : Array (Option Value)} {odI anI : Option Addr} {slI : Array (Option Value)} {kVI dcI pmI cdI ctI : Value}
    {tk_SMALL_LETTERS : Tok}
    {tk_MOST_LETTERS : Tok}
    {tk_MOST_TURN : Tok}
    (a0 : PySem.W.nsIn K mainGlobals "is_whole" = some (some (.ref f0))) (l0 : K.lookup f0 = some ⟨oc0, od0, .func (PySem.W.fnOf "is_whole" "is_whole" (defArgs s_p_is_whole) (defBody s_p_is_whole) (defScope s_p_is_whole) .none kV0 dc0 pm0 an0 cd0 ct0), sl0⟩) (c0 : PySem.W.codeIn K cd0 "is_whole" = true) (k0 : PySem.W.keepIn K (.ref f0) = true)
    (a1 : PySem.W.nsIn K mainGlobals "is_tuple_of" = some (some (.ref f1))) (l1 : K.lookup f1 = some ⟨oc1, od1, .func (PySem.W.fnOf "is_tuple_of" "is_tuple_of" (defArgs s_p_is_tuple_of) (defBody s_p_is_tuple_of) (defScope s_p_is_tuple_of) .none kV1 dc1 pm1 an1 cd1 ct1), sl1⟩) (c1 : PySem.W.codeIn K cd1 "is_tuple_of" = true) (k1 : PySem.W.keepIn K (.ref f1) = true)
    (a2 : PySem.W.nsIn K mainGlobals "is_short_word" = some (some (.ref f2))) (l2 : K.lookup f2 = some ⟨oc2, od2, .func (PySem.W.fnOf "is_short_word" "is_short_word" (defArgs s_p_is_short_word) (defBody s_p_is_short_word) (defScope s_p_is_short_word) .none kV2 dc2 pm2 an2 cd2 ct2), sl2⟩) (c2 : PySem.W.codeIn K cd2 "is_short_word" = true) (k2 : PySem.W.keepIn K (.ref f2) = true)
    (a3 : PySem.W.nsIn K mainGlobals "are_alike" = some (some (.ref f3))) (l3 : K.lookup f3 = some ⟨oc3, od3, .func (PySem.W.fnOf "are_alike" "are_alike" (defArgs s_p_are_alike) (defBody s_p_are_alike) (defScope s_p_are_alike) .none kV3 dc3 pm3 an3 cd3 ct3), sl3⟩) (c3 : PySem.W.codeIn K cd3 "are_alike" = true) (k3 : PySem.W.keepIn K (.ref f3) = true)
    (a4 : PySem.W.nsIn K mainGlobals "reached_from" = some (some (.ref f4))) (l4 : K.lookup f4 = some ⟨oc4, od4, .func (PySem.W.fnOf "reached_from" "reached_from" (defArgs s_p_reached_from) (defBody s_p_reached_from) (defScope s_p_reached_from) .none kV4 dc4 pm4 an4 cd4 ct4), sl4⟩) (c4 : PySem.W.codeIn K cd4 "reached_from" = true) (k4 : PySem.W.keepIn K (.ref f4) = true)
    (a5 : PySem.W.nsIn K mainGlobals "_law_mixed" = some (some (.ref f5))) (l5 : K.lookup f5 = some ⟨oc5, od5, .func (PySem.W.fnOf "_law_mixed" "_law_mixed" (defArgs s_l_mixed) (defBody s_l_mixed) (defScope s_l_mixed) .none kV5 dc5 pm5 an5 cd5 ct5), sl5⟩) (c5 : PySem.W.codeIn K cd5 "_law_mixed" = true) (k5 : PySem.W.keepIn K (.ref f5) = true)
    (a6 : PySem.W.nsIn K mainGlobals "_law_take" = some (some (.ref f6))) (l6 : K.lookup f6 = some ⟨oc6, od6, .func (PySem.W.fnOf "_law_take" "_law_take" (defArgs s_l_take) (defBody s_l_take) (defScope s_l_take) .none kV6 dc6 pm6 an6 cd6 ct6), sl6⟩) (c6 : PySem.W.codeIn K cd6 "_law_take" = true) (k6 : PySem.W.keepIn K (.ref f6) = true)
    (a7 : PySem.W.nsIn K mainGlobals "_law_above" = some (some (.ref f7))) (l7 : K.lookup f7 = some ⟨oc7, od7, .func (PySem.W.fnOf "_law_above" "_law_above" (defArgs s_l_above) (defBody s_l_above) (defScope s_l_above) .none kV7 dc7 pm7 an7 cd7 ct7), sl7⟩) (c7 : PySem.W.codeIn K cd7 "_law_above" = true) (k7 : PySem.W.keepIn K (.ref f7) = true)
    (a8 : PySem.W.nsIn K mainGlobals "is_tuple_called" = some (some (.ref f8))) (l8 : K.lookup f8 = some ⟨oc8, od8, .func (PySem.W.fnOf "is_tuple_called" "is_tuple_called" (defArgs s_p_is_tuple_called) (defBody s_p_is_tuple_called) (defScope s_p_is_tuple_called) .none kV8 dc8 pm8 an8 cd8 ct8), sl8⟩) (c8 : PySem.W.codeIn K cd8 "is_tuple_called" = true) (k8 : PySem.W.keepIn K (.ref f8) = true)
    (a9 : PySem.W.nsIn K mainGlobals "is_mark" = some (some (.ref f9))) (l9 : K.lookup f9 = some ⟨oc9, od9, .func (PySem.W.fnOf "is_mark" "is_mark" (defArgs s_p_is_mark) (defBody s_p_is_mark) (defScope s_p_is_mark) .none kV9 dc9 pm9 an9 cd9 ct9), sl9⟩) (c9 : PySem.W.codeIn K cd9 "is_mark" = true) (k9 : PySem.W.keepIn K (.ref f9) = true)
    (a10 : PySem.W.nsIn K mainGlobals "at_most" = some (some (.ref f10))) (l10 : K.lookup f10 = some ⟨oc10, od10, .func (PySem.W.fnOf "at_most" "at_most" (defArgs s_p_at_most) (defBody s_p_at_most) (defScope s_p_at_most) .none kV10 dc10 pm10 an10 cd10 ct10), sl10⟩) (c10 : PySem.W.codeIn K cd10 "at_most" = true) (k10 : PySem.W.keepIn K (.ref f10) = true)
    (a11 : PySem.W.nsIn K mainGlobals "is_turn" = some (some (.ref f11))) (l11 : K.lookup f11 = some ⟨oc11, od11, .func (PySem.W.fnOf "is_turn" "is_turn" (defArgs s_p_is_turn) (defBody s_p_is_turn) (defScope s_p_is_turn) .none kV11 dc11 pm11 an11 cd11 ct11), sl11⟩) (c11 : PySem.W.codeIn K cd11 "is_turn" = true) (k11 : PySem.W.keepIn K (.ref f11) = true)
    (a12 : PySem.W.nsIn K mainGlobals "is_place" = some (some (.ref f12))) (l12 : K.lookup f12 = some ⟨oc12, od12, .func (PySem.W.fnOf "is_place" "is_place" (defArgs s_p_is_place) (defBody s_p_is_place) (defScope s_p_is_place) .none kV12 dc12 pm12 an12 cd12 ct12), sl12⟩) (c12 : PySem.W.codeIn K cd12 "is_place" = true) (k12 : PySem.W.keepIn K (.ref f12) = true)
    (a13 : PySem.W.nsIn K mainGlobals "_law_pack" = some (some (.ref f13))) (l13 : K.lookup f13 = some ⟨oc13, od13, .func (PySem.W.fnOf "_law_pack" "_law_pack" (defArgs s_l_pack) (defBody s_l_pack) (defScope s_l_pack) .none kV13 dc13 pm13 an13 cd13 ct13), sl13⟩) (c13 : PySem.W.codeIn K cd13 "_law_pack" = true) (k13 : PySem.W.keepIn K (.ref f13) = true)
    (a14 : PySem.W.nsIn K mainGlobals "_law_marks" = some (some (.ref f14))) (l14 : K.lookup f14 = some ⟨oc14, od14, .func (PySem.W.fnOf "_law_marks" "_law_marks" (defArgs s_l_marks) (defBody s_l_marks) (defScope s_l_marks) .none kV14 dc14 pm14 an14 cd14 ct14), sl14⟩) (c14 : PySem.W.codeIn K cd14 "_law_marks" = true) (k14 : PySem.W.keepIn K (.ref f14) = true)
    (a15 : PySem.W.nsIn K mainGlobals "_law_order" = some (some (.ref f15))) (l15 : K.lookup f15 = some ⟨oc15, od15, .func (PySem.W.fnOf "_law_order" "_law_order" (defArgs s_l_order) (defBody s_l_order) (defScope s_l_order) .none kV15 dc15 pm15 an15 cd15 ct15), sl15⟩) (c15 : PySem.W.codeIn K cd15 "_law_order" = true) (k15 : PySem.W.keepIn K (.ref f15) = true)
    (a16 : PySem.W.nsIn K mainGlobals "_law_leads" = some (some (.ref f16))) (l16 : K.lookup f16 = some ⟨oc16, od16, .func (PySem.W.fnOf "_law_leads" "_law_leads" (defArgs s_l_leads) (defBody s_l_leads) (defScope s_l_leads) .none kV16 dc16 pm16 an16 cd16 ct16), sl16⟩) (c16 : PySem.W.codeIn K cd16 "_law_leads" = true) (k16 : PySem.W.keepIn K (.ref f16) = true)
    (a17 : PySem.W.nsIn K mainGlobals "_law_row" = some (some (.ref f17))) (l17 : K.lookup f17 = some ⟨oc17, od17, .func (PySem.W.fnOf "_law_row" "_law_row" (defArgs s_l_row) (defBody s_l_row) (defScope s_l_row) .none kV17 dc17 pm17 an17 cd17 ct17), sl17⟩) (c17 : PySem.W.codeIn K cd17 "_law_row" = true) (k17 : PySem.W.keepIn K (.ref f17) = true)
    (a18 : PySem.W.nsIn K mainGlobals "is_sign" = some (some (.ref f18))) (l18 : K.lookup f18 = some ⟨oc18, od18, .func (PySem.W.fnOf "is_sign" "is_sign" (defArgs s_p_is_sign) (defBody s_p_is_sign) (defScope s_p_is_sign) .none kV18 dc18 pm18 an18 cd18 ct18), sl18⟩) (c18 : PySem.W.codeIn K cd18 "is_sign" = true) (k18 : PySem.W.keepIn K (.ref f18) = true)
    (a19 : PySem.W.nsIn K mainGlobals "mark_leads" = some (some (.ref f19))) (l19 : K.lookup f19 = some ⟨oc19, od19, .func (PySem.W.fnOf "mark_leads" "mark_leads" (defArgs s_p_mark_leads) (defBody s_p_mark_leads) (defScope s_p_mark_leads) .none kV19 dc19 pm19 an19 cd19 ct19), sl19⟩) (c19 : PySem.W.codeIn K cd19 "mark_leads" = true) (k19 : PySem.W.keepIn K (.ref f19) = true)
    (a20 : PySem.W.nsIn K mainGlobals "_law_cancels" = some (some (.ref f20))) (l20 : K.lookup f20 = some ⟨oc20, od20, .func (PySem.W.fnOf "_law_cancels" "_law_cancels" (defArgs s_l_cancels) (defBody s_l_cancels) (defScope s_l_cancels) .none kV20 dc20 pm20 an20 cd20 ct20), sl20⟩) (c20 : PySem.W.codeIn K cd20 "_law_cancels" = true) (k20 : PySem.W.keepIn K (.ref f20) = true)
    (a21 : PySem.W.nsIn K mainGlobals "leads" = some (some (.ref f21))) (l21 : K.lookup f21 = some ⟨oc21, od21, .func (PySem.W.fnOf "leads" "leads" (defArgs s_p_leads) (defBody s_p_leads) (defScope s_p_leads) .none kV21 dc21 pm21 an21 cd21 ct21), sl21⟩) (c21 : PySem.W.codeIn K cd21 "leads" = true) (k21 : PySem.W.keepIn K (.ref f21) = true)
    (a22 : PySem.W.nsIn K mainGlobals "cancel" = some (some (.ref f22))) (l22 : K.lookup f22 = some ⟨oc22, od22, .func (PySem.W.fnOf "cancel" "cancel" (defArgs s_p_cancel) (defBody s_p_cancel) (defScope s_p_cancel) .none kV22 dc22 pm22 an22 cd22 ct22), sl22⟩) (c22 : PySem.W.codeIn K cd22 "cancel" = true) (k22 : PySem.W.keepIn K (.ref f22) = true)
    (a23 : PySem.W.nsIn K mainGlobals "may_grow" = some (some (.ref f23))) (l23 : K.lookup f23 = some ⟨oc23, od23, .func (PySem.W.fnOf "may_grow" "may_grow" (defArgs s_p_may_grow) (defBody s_p_may_grow) (defScope s_p_may_grow) .none kV23 dc23 pm23 an23 cd23 ct23), sl23⟩) (c23 : PySem.W.codeIn K cd23 "may_grow" = true) (k23 : PySem.W.keepIn K (.ref f23) = true)
    (a24 : PySem.W.nsIn K mainGlobals "by_cancel" = some (some (.ref f24))) (l24 : K.lookup f24 = some ⟨oc24, od24, .func (PySem.W.fnOf "by_cancel" "by_cancel" (defArgs s_p_by_cancel) (defBody s_p_by_cancel) (defScope s_p_by_cancel) .none kV24 dc24 pm24 an24 cd24 ct24), sl24⟩) (c24 : PySem.W.codeIn K cd24 "by_cancel" = true) (k24 : PySem.W.keepIn K (.ref f24) = true)
    (a25 : PySem.W.nsIn K mainGlobals "by_order" = some (some (.ref f25))) (l25 : K.lookup f25 = some ⟨oc25, od25, .func (PySem.W.fnOf "by_order" "by_order" (defArgs s_p_by_order) (defBody s_p_by_order) (defScope s_p_by_order) .none kV25 dc25 pm25 an25 cd25 ct25), sl25⟩) (c25 : PySem.W.codeIn K cd25 "by_order" = true) (k25 : PySem.W.keepIn K (.ref f25) = true)
    (a26 : PySem.W.nsIn K mainGlobals "by_grow" = some (some (.ref f26))) (l26 : K.lookup f26 = some ⟨oc26, od26, .func (PySem.W.fnOf "by_grow" "by_grow" (defArgs s_p_by_grow) (defBody s_p_by_grow) (defScope s_p_by_grow) .none kV26 dc26 pm26 an26 cd26 ct26), sl26⟩) (c26 : PySem.W.codeIn K cd26 "by_grow" = true) (k26 : PySem.W.keepIn K (.ref f26) = true)
    (a27 : PySem.W.nsIn K mainGlobals "cancels_in" = some (some (.ref f27))) (l27 : K.lookup f27 = some ⟨oc27, od27, .func (PySem.W.fnOf "cancels_in" "cancels_in" (defArgs s_p_cancels_in) (defBody s_p_cancels_in) (defScope s_p_cancels_in) .none kV27 dc27 pm27 an27 cd27 ct27), sl27⟩) (c27 : PySem.W.codeIn K cd27 "cancels_in" = true) (k27 : PySem.W.keepIn K (.ref f27) = true)
    (a28 : PySem.W.nsIn K mainGlobals "by_step" = some (some (.ref f28))) (l28 : K.lookup f28 = some ⟨oc28, od28, .func (PySem.W.fnOf "by_step" "by_step" (defArgs s_p_by_step) (defBody s_p_by_step) (defScope s_p_by_step) .none kV28 dc28 pm28 an28 cd28 ct28), sl28⟩) (c28 : PySem.W.codeIn K cd28 "by_step" = true) (k28 : PySem.W.keepIn K (.ref f28) = true)
    (a29 : PySem.W.nsIn K mainGlobals "gone" = some (some (.ref f29))) (l29 : K.lookup f29 = some ⟨oc29, od29, .func (PySem.W.fnOf "gone" "gone" (defArgs s_p_gone) (defBody s_p_gone) (defScope s_p_gone) .none kV29 dc29 pm29 an29 cd29 ct29), sl29⟩) (c29 : PySem.W.codeIn K cd29 "gone" = true) (k29 : PySem.W.keepIn K (.ref f29) = true)
    (a30 : PySem.W.nsIn K mainGlobals "_law_gone" = some (some (.ref f30))) (l30 : K.lookup f30 = some ⟨oc30, od30, .func (PySem.W.fnOf "_law_gone" "_law_gone" (defArgs s_l_gone) (defBody s_l_gone) (defScope s_l_gone) .none kV30 dc30 pm30 an30 cd30 ct30), sl30⟩) (c30 : PySem.W.codeIn K cd30 "_law_gone" = true) (k30 : PySem.W.keepIn K (.ref f30) = true)
    (a31 : PySem.W.nsIn K mainGlobals "_law_long_right" = some (some (.ref f31))) (l31 : K.lookup f31 = some ⟨oc31, od31, .func (PySem.W.fnOf "_law_long_right" "_law_long_right" (defArgs s_l_long_right) (defBody s_l_long_right) (defScope s_l_long_right) .none kV31 dc31 pm31 an31 cd31 ct31), sl31⟩) (c31 : PySem.W.codeIn K cd31 "_law_long_right" = true) (k31 : PySem.W.keepIn K (.ref f31) = true)
    (a32 : PySem.W.nsIn K mainGlobals "law" = some (some (.ref f32))) (l32 : K.lookup f32 = some ⟨oc32, od32, .func (PySem.W.fnOf "law" "law" (defArgs s_law) (defBody s_law) (defScope s_law) .none kV32 dc32 pm32 an32 cd32 ct32), sl32⟩) (c32 : PySem.W.codeIn K cd32 "law" = true) (k32 : PySem.W.keepIn K (.ref f32) = true)
    (aC : PySem.W.nsIn K mainGlobals "NoStep" = some (some (.ref C))) (aW : PySem.W.nsIn K mainGlobals "WishError" = some (some (.ref W))) (kC : PySem.W.keepIn K (.ref C) = true)
    (lC : K.lookup C = some (excClassObj nm q C N bs [.ref W, .type "ValueError", .type "Exception", .type "BaseException", .type "object"] true sn sub ab col dd xk0 xk1 xk2 xk3 xk5 "ValueError.__new__"))
    (iC : PySem.W.findIn K (.ref C) "__init__" = some (some (.ref fI)))
    (lI : K.lookup fI = some ⟨.type "function", odI, .func (PySem.W.fnOf "__init__" "NoStep.__init__" (defArgs s_init) (defBody s_init) (defScope s_init) .none kVI dcI pmI anI cdI ctI), slI⟩) (cI : PySem.W.codeIn K cdI "NoStep.__init__" = true) (kI : PySem.W.keepIn K (.ref fI) = true)
    (lW : K.lookup W = some ⟨xc0, dW, .cls cdW, slW⟩) (eN : cdW.ns = NW) (lN : K.lookup NW = some ⟨cN, dN, .dict es ep, sN⟩) (hN : es.toList.all (fun e => e.key.isStr "__init__" == false && match e.key with | .str _ _ => true | _ => false) = true)
    (sW : PySem.W.specialIn K (.ref W) "__getattribute__" = some (some (.builtin "type.__getattribute__"))) (rW : PySem.W.readsIn K W (.type "type") = true) (fW : PySem.W.findCls K (.ref W) (.type "type") "__init__" = some (.val (.builtin "ValueError.__init__")))
    (sC : PySem.W.findIn K (.ref C) "__setattr__" = some (some (.builtin "object.__setattr__"))) (mC : PySem.W.mroIn K C (.type "object") = some true) (tC : PySem.W.findIn K (.ref C) "number" = some none)
    (z_isinstance : PySem.W.nsIn K mainGlobals "isinstance" = some none)
    (z_int : PySem.W.nsIn K mainGlobals "int" = some none)
    (z_bool : PySem.W.nsIn K mainGlobals "bool" = some none)
    (z_tuple : PySem.W.nsIn K mainGlobals "tuple" = some none)
    (z_len : PySem.W.nsIn K mainGlobals "len" = some none)
    (z_str : PySem.W.nsIn K mainGlobals "str" = some none)
    (z_all : PySem.W.nsIn K mainGlobals "all" = some none)
    (z_list : PySem.W.nsIn K mainGlobals "list" = some none)
    (z_enumerate : PySem.W.nsIn K mainGlobals "enumerate" = some none)
    (z_range : PySem.W.nsIn K mainGlobals "range" = some none)
    (z_divmod : PySem.W.nsIn K mainGlobals "divmod" = some none)
    (z_sum : PySem.W.nsIn K mainGlobals "sum" = some none)
    (z_SMALL_LETTERS : PySem.W.nsIn K mainGlobals "SMALL_LETTERS" = some (some (.str "abcdefghijklmnopqrstuvwxyz" tk_SMALL_LETTERS)))
    (z_MOST_LETTERS : PySem.W.nsIn K mainGlobals "MOST_LETTERS" = some (some (.int 8 tk_MOST_LETTERS)))
    (z_MOST_TURN : PySem.W.nsIn K mainGlobals "MOST_TURN" = some (some (.int 99 tk_MOST_TURN)))
    : ∃ fd : FuncData, (∀ (s : Shared) (v : Value), BindsTo s fd ⟨[v], []⟩ [("_law_script", v)]) ∧ ∀ base : Heap, K.In base → base.Ns mainGlobals mg → FnOk l.prog w K mg base CX0 10 fa fd ["_law_script"] (spD K 1 S_law) := by
  have e := hfa.symm.trans (PySem.W.mg_of X G a32)
  cases e
  have T : Txt mg := ⟨PySem.W.mg_none_of X G z_isinstance, PySem.W.mg_none_of X G z_int, PySem.W.mg_none_of X G z_bool, PySem.W.mg_none_of X G z_tuple, PySem.W.mg_none_of X G z_len, PySem.W.mg_none_of X G z_str, PySem.W.mg_none_of X G z_all, PySem.W.mg_none_of X G z_list, PySem.W.mg_none_of X G z_enumerate, PySem.W.mg_none_of X G z_range, PySem.W.mg_none_of X G z_divmod, PySem.W.mg_none_of X G z_sum, ⟨_, PySem.W.mg_of X G z_SMALL_LETTERS⟩, ⟨_, PySem.W.mg_of X G z_MOST_LETTERS⟩, ⟨_, PySem.W.mg_of X G z_MOST_TURN⟩⟩
  have F0 := fun_mk (st := s_p_is_whole) l0 c0 k0
  have b0 := F0.binds (ps := ["thing"]) fun _ _ _ _ _ _ us hl => us1 (p := fun us => bindArgs _ ⟨us, []⟩ = pure (List.zip _ us)) (fun _ => rfl) us hl
  have F1 := fun_mk (st := s_p_is_tuple_of) l1 c1 k1
  have b1 := F1.binds (ps := ["thing", "many"]) fun _ _ _ _ _ _ us hl => us2 (p := fun us => bindArgs _ ⟨us, []⟩ = pure (List.zip _ us)) (fun _ _ => rfl) us hl
  have F2 := fun_mk (st := s_p_is_short_word) l2 c2 k2
  have b2 := F2.binds (ps := ["thing"]) fun _ _ _ _ _ _ us hl => us1 (p := fun us => bindArgs _ ⟨us, []⟩ = pure (List.zip _ us)) (fun _ => rfl) us hl
  have F3 := fun_mk (st := s_p_are_alike) l3 c3 k3
  have b3 := F3.binds (ps := ["one", "other"]) fun _ _ _ _ _ _ us hl => us2 (p := fun us => bindArgs _ ⟨us, []⟩ = pure (List.zip _ us)) (fun _ _ => rfl) us hl
  have F4 := fun_mk (st := s_p_reached_from) l4 c4 k4
  have b4 := F4.binds (ps := ["pairs", "mark"]) fun _ _ _ _ _ _ us hl => us2 (p := fun us => bindArgs _ ⟨us, []⟩ = pure (List.zip _ us)) (fun _ _ => rfl) us hl
  have F5 := fun_mk (st := s_l_mixed) l5 c5 k5
  have b5 := F5.binds (ps := ["_law_cell"]) fun _ _ _ _ _ _ us hl => us1 (p := fun us => bindArgs _ ⟨us, []⟩ = pure (List.zip _ us)) (fun _ => rfl) us hl
  have F6 := fun_mk (st := s_l_take) l6 c6 k6
  have b6 := F6.binds (ps := ["_law_pack_here", "_law_size"]) fun _ _ _ _ _ _ us hl => us2 (p := fun us => bindArgs _ ⟨us, []⟩ = pure (List.zip _ us)) (fun _ _ => rfl) us hl
  have F7 := fun_mk (st := s_l_above) l7 c7 k7
  have b7 := F7.binds (ps := ["_law_order_here", "_law_mark"]) fun _ _ _ _ _ _ us hl => us2 (p := fun us => bindArgs _ ⟨us, []⟩ = pure (List.zip _ us)) (fun _ _ => rfl) us hl
  have F8 := fun_mk (st := s_p_is_tuple_called) l8 c8 k8
  have b8 := F8.binds (ps := ["thing", "name", "many"]) fun _ _ _ _ _ _ us hl => us3 (p := fun us => bindArgs _ ⟨us, []⟩ = pure (List.zip _ us)) (fun _ _ _ => rfl) us hl
  have F9 := fun_mk (st := s_p_is_mark) l9 c9 k9
  have b9 := F9.binds (ps := ["thing"]) fun _ _ _ _ _ _ us hl => us1 (p := fun us => bindArgs _ ⟨us, []⟩ = pure (List.zip _ us)) (fun _ => rfl) us hl
  have F10 := fun_mk (st := s_p_at_most) l10 c10 k10
  have b10 := F10.binds (ps := ["order", "one", "other"]) fun _ _ _ _ _ _ us hl => us3 (p := fun us => bindArgs _ ⟨us, []⟩ = pure (List.zip _ us)) (fun _ _ _ => rfl) us hl
  have F11 := fun_mk (st := s_p_is_turn) l11 c11 k11
  have b11 := F11.binds (ps := ["thing"]) fun _ _ _ _ _ _ us hl => us1 (p := fun us => bindArgs _ ⟨us, []⟩ = pure (List.zip _ us)) (fun _ => rfl) us hl
  have F12 := fun_mk (st := s_p_is_place) l12 c12 k12
  have b12 := F12.binds (ps := ["thing", "most"]) fun _ _ _ _ _ _ us hl => us2 (p := fun us => bindArgs _ ⟨us, []⟩ = pure (List.zip _ us)) (fun _ _ => rfl) us hl
  have F13 := fun_mk (st := s_l_pack) l13 c13 k13
  have b13 := F13.binds (ps := ["_law_script", "_law_k"]) fun _ _ _ _ _ _ us hl => us2 (p := fun us => bindArgs _ ⟨us, []⟩ = pure (List.zip _ us)) (fun _ _ => rfl) us hl
  have F14 := fun_mk (st := s_l_marks) l14 c14 k14
  have b14 := F14.binds (ps := ["_law_pack_here"]) fun _ _ _ _ _ _ us hl => us1 (p := fun us => bindArgs _ ⟨us, []⟩ = pure (List.zip _ us)) (fun _ => rfl) us hl
  have F15 := fun_mk (st := s_l_order) l15 c15 k15
  have b15 := F15.binds (ps := ["_law_pack_here", "_law_marks_here"]) fun _ _ _ _ _ _ us hl => us2 (p := fun us => bindArgs _ ⟨us, []⟩ = pure (List.zip _ us)) (fun _ _ => rfl) us hl
  have F16 := fun_mk (st := s_l_leads) l16 c16 k16
  have b16 := F16.binds (ps := ["_law_order_here", "_law_one", "_law_other"]) fun _ _ _ _ _ _ us hl => us3 (p := fun us => bindArgs _ ⟨us, []⟩ = pure (List.zip _ us)) (fun _ _ _ => rfl) us hl
  have F17 := fun_mk (st := s_l_row) l17 c17 k17
  have b17 := F17.binds (ps := ["_law_pack_here", "_law_marks_here"]) fun _ _ _ _ _ _ us hl => us2 (p := fun us => bindArgs _ ⟨us, []⟩ = pure (List.zip _ us)) (fun _ _ => rfl) us hl
  have F18 := fun_mk (st := s_p_is_sign) l18 c18 k18
  have b18 := F18.binds (ps := ["thing"]) fun _ _ _ _ _ _ us hl => us1 (p := fun us => bindArgs _ ⟨us, []⟩ = pure (List.zip _ us)) (fun _ => rfl) us hl
  have F19 := fun_mk (st := s_p_mark_leads) l19 c19 k19
  have b19 := F19.binds (ps := ["order", "turn", "one", "other"]) fun _ _ _ _ _ _ us hl => us4 (p := fun us => bindArgs _ ⟨us, []⟩ = pure (List.zip _ us)) (fun _ _ _ _ => rfl) us hl
  have F20 := fun_mk (st := s_l_cancels) l20 c20 k20
  have b20 := F20.binds (ps := ["_law_order_here", "_law_one", "_law_other"]) fun _ _ _ _ _ _ us hl => us3 (p := fun us => bindArgs _ ⟨us, []⟩ = pure (List.zip _ us)) (fun _ _ _ => rfl) us hl
  have F21 := fun_mk (st := s_p_leads) l21 c21 k21
  have b21 := F21.binds (ps := ["order", "one", "other"]) fun _ _ _ _ _ _ us hl => us3 (p := fun us => bindArgs _ ⟨us, []⟩ = pure (List.zip _ us)) (fun _ _ _ => rfl) us hl
  have F22 := fun_mk (st := s_p_cancel) l22 c22 k22
  have b22 := F22.binds (ps := ["order", "one", "other"]) fun _ _ _ _ _ _ us hl => us3 (p := fun us => bindArgs _ ⟨us, []⟩ = pure (List.zip _ us)) (fun _ _ _ => rfl) us hl
  have F23 := fun_mk (st := s_p_may_grow) l23 c23 k23
  have b23 := F23.binds (ps := ["order", "one", "other"]) fun _ _ _ _ _ _ us hl => us3 (p := fun us => bindArgs _ ⟨us, []⟩ = pure (List.zip _ us)) (fun _ _ _ => rfl) us hl
  have F24 := fun_mk (st := s_p_by_cancel) l24 c24 k24
  have b24 := F24.binds (ps := ["order", "signs", "place"]) fun _ _ _ _ _ _ us hl => us3 (p := fun us => bindArgs _ ⟨us, []⟩ = pure (List.zip _ us)) (fun _ _ _ => rfl) us hl
  have F25 := fun_mk (st := s_p_by_order) l25 c25 k25
  have b25 := F25.binds (ps := ["order", "signs", "place", "mark"]) fun _ _ _ _ _ _ us hl => us4 (p := fun us => bindArgs _ ⟨us, []⟩ = pure (List.zip _ us)) (fun _ _ _ _ => rfl) us hl
  have F26 := fun_mk (st := s_p_by_grow) l26 c26 k26
  have b26 := F26.binds (ps := ["order", "signs", "place", "one", "other"]) fun _ _ _ _ _ _ us hl => us5 (p := fun us => bindArgs _ ⟨us, []⟩ = pure (List.zip _ us)) (fun _ _ _ _ _ => rfl) us hl
  have F27 := fun_mk (st := s_p_cancels_in) l27 c27 k27
  have b27 := F27.binds (ps := ["order", "row"]) fun _ _ _ _ _ _ us hl => us2 (p := fun us => bindArgs _ ⟨us, []⟩ = pure (List.zip _ us)) (fun _ _ => rfl) us hl
  have F28 := fun_mk (st := s_p_by_step) l28 c28 k28
  have b28 := F28.binds (ps := ["order", "signs", "step"]) fun _ _ _ _ _ _ us hl => us3 (p := fun us => bindArgs _ ⟨us, []⟩ = pure (List.zip _ us)) (fun _ _ _ => rfl) us hl
  have F29 := fun_mk (st := s_p_gone) l29 c29 k29
  have b29 := F29.binds (ps := ["order", "row", "walk"]) fun _ _ _ _ _ _ us hl => us3 (p := fun us => bindArgs _ ⟨us, []⟩ = pure (List.zip _ us)) (fun _ _ _ => rfl) us hl
  have F30 := fun_mk (st := s_l_gone) l30 c30 k30
  have b30 := F30.binds (ps := ["_law_order_here", "_law_row_here", "_law_place"]) fun _ _ _ _ _ _ us hl => us3 (p := fun us => bindArgs _ ⟨us, []⟩ = pure (List.zip _ us)) (fun _ _ _ => rfl) us hl
  have F31 := fun_mk (st := s_l_long_right) l31 c31 k31
  have b31 := F31.binds (ps := ["_law_order_here", "_law_row_here", "_law_script"]) fun _ _ _ _ _ _ us hl => us3 (p := fun us => bindArgs _ ⟨us, []⟩ = pure (List.zip _ us)) (fun _ _ _ => rfl) us hl
  have F32 := fun_mk (st := s_law) l32 c32 k32
  have Y : ExcK K mg "NoStep" "WishError" "number" C W fI := ⟨PySem.W.mg_of X G aC, PySem.W.mg_of X G aW, kC, ⟨_, _, _, _, _, _, _, _, _, _, _, _, _, _, lC⟩, iC, ⟨_, _, _, _, _, _, _, _, _, lW, by rw [eN]; exact lN, hN⟩, sW, rW, fW, sC, mC, tC⟩
  have FI0 := fun_mk (st := s_init) lI cI kI
  have hbI := FI0.binds (ps := ["self", "number"]) fun _ _ _ _ _ _ us hl => us2 (p := fun us => bindArgs _ ⟨us, []⟩ = pure (List.zip _ us)) (fun _ _ => rfl) us hl
  refine ⟨PySem.W.fnOf "law" "law" (defArgs s_law) (defBody s_law) (defScope s_law) .none kV32 dc32 pm32 an32 cd32 ct32, fun s v => .of_eq rfl, fun base _ _ => ?_⟩
  have g_p_is_whole : FnD l.prog w K mg base "is_whole" 1 1 S_p_is_whole := ⟨_, _, _, ok_p_is_whole F0 T , PySem.W.mg_of X G a0, k0, b0⟩
  have g_p_is_tuple_of : FnD l.prog w K mg base "is_tuple_of" 1 2 S_p_is_tuple_of := ⟨_, _, _, ok_p_is_tuple_of F1 T , PySem.W.mg_of X G a1, k1, b1⟩
  have g_p_is_short_word : FnD l.prog w K mg base "is_short_word" 1 1 neverS := ⟨_, _, _, ok_p_is_short_word F2 T , PySem.W.mg_of X G a2, k2, b2⟩
  have g_p_are_alike : FnD l.prog w K mg base "are_alike" 1 2 S_p_are_alike := ⟨_, _, _, ok_p_are_alike F3 T , PySem.W.mg_of X G a3, k3, b3⟩
  have g_p_reached_from : FnD l.prog w K mg base "reached_from" 1 2 S_p_reached_from := ⟨_, _, _, ok_p_reached_from F4 T , PySem.W.mg_of X G a4, k4, b4⟩
  have g_l_mixed : FnD l.prog w K mg base "_law_mixed" 1 1 S_l_mixed := ⟨_, _, _, ok_l_mixed F5 T , PySem.W.mg_of X G a5, k5, b5⟩
  have g_l_take : FnD l.prog w K mg base "_law_take" 1 2 S_l_take := ⟨_, _, _, ok_l_take F6 T , PySem.W.mg_of X G a6, k6, b6⟩
  have g_l_above : FnD l.prog w K mg base "_law_above" 1 2 S_l_above := ⟨_, _, _, ok_l_above F7 T , PySem.W.mg_of X G a7, k7, b7⟩
  have g_p_is_tuple_called : FnD l.prog w K mg base "is_tuple_called" 2 3 S_p_is_tuple_called := ⟨_, _, _, ok_p_is_tuple_called F8 T g_p_is_tuple_of g_p_are_alike, PySem.W.mg_of X G a8, k8, b8⟩
  have g_p_is_mark : FnD l.prog w K mg base "is_mark" 2 1 neverS := ⟨_, _, _, ok_p_is_mark F9 T g_p_is_short_word, PySem.W.mg_of X G a9, k9, b9⟩
  have g_p_at_most : FnD l.prog w K mg base "at_most" 2 3 S_p_at_most := ⟨_, _, _, ok_p_at_most F10 T g_p_reached_from, PySem.W.mg_of X G a10, k10, b10⟩
  have g_p_is_turn : FnD l.prog w K mg base "is_turn" 2 1 neverS := ⟨_, _, _, ok_p_is_turn F11 T g_p_is_whole, PySem.W.mg_of X G a11, k11, b11⟩
  have g_p_is_place : FnD l.prog w K mg base "is_place" 2 2 S_p_is_place := ⟨_, _, _, ok_p_is_place F12 T g_p_is_whole, PySem.W.mg_of X G a12, k12, b12⟩
  have g_l_pack : FnD l.prog w K mg base "_law_pack" 2 2 S_l_pack := ⟨_, _, _, ok_l_pack F13 T g_l_mixed, PySem.W.mg_of X G a13, k13, b13⟩
  have g_l_marks : FnD l.prog w K mg base "_law_marks" 2 1 S_l_marks := ⟨_, _, _, ok_l_marks F14 T g_l_take, PySem.W.mg_of X G a14, k14, b14⟩
  have g_l_order : FnD l.prog w K mg base "_law_order" 2 2 S_l_order := ⟨_, _, _, ok_l_order F15 T g_l_take, PySem.W.mg_of X G a15, k15, b15⟩
  have g_l_leads : FnD l.prog w K mg base "_law_leads" 2 3 S_l_leads := ⟨_, _, _, ok_l_leads F16 T g_l_above, PySem.W.mg_of X G a16, k16, b16⟩
  have g_l_row : FnD l.prog w K mg base "_law_row" 2 2 S_l_row := ⟨_, _, _, ok_l_row F17 T g_l_take, PySem.W.mg_of X G a17, k17, b17⟩
  have g_p_is_sign : FnD l.prog w K mg base "is_sign" 3 1 neverS := ⟨_, _, _, ok_p_is_sign F18 T g_p_is_tuple_of g_p_is_mark g_p_is_turn, PySem.W.mg_of X G a18, k18, b18⟩
  have g_p_mark_leads : FnD l.prog w K mg base "mark_leads" 3 4 S_p_mark_leads := ⟨_, _, _, ok_p_mark_leads F19 T g_p_at_most, PySem.W.mg_of X G a19, k19, b19⟩
  have g_l_cancels : FnD l.prog w K mg base "_law_cancels" 3 3 S_l_cancels := ⟨_, _, _, ok_l_cancels F20 T g_l_leads, PySem.W.mg_of X G a20, k20, b20⟩
  have g_p_leads : FnD l.prog w K mg base "leads" 4 3 neverS := ⟨_, _, _, ok_p_leads F21 T g_p_mark_leads, PySem.W.mg_of X G a21, k21, b21⟩
  have g_p_cancel : FnD l.prog w K mg base "cancel" 4 3 S_p_cancel := ⟨_, _, _, ok_p_cancel F22 T g_p_mark_leads, PySem.W.mg_of X G a22, k22, b22⟩
  have g_p_may_grow : FnD l.prog w K mg base "may_grow" 4 3 neverS := ⟨_, _, _, ok_p_may_grow F23 T g_p_mark_leads, PySem.W.mg_of X G a23, k23, b23⟩
  have g_p_by_cancel : FnD l.prog w K mg base "by_cancel" 5 3 S_p_by_cancel := ⟨_, _, _, ok_p_by_cancel F24 T g_p_is_place g_p_cancel, PySem.W.mg_of X G a24, k24, b24⟩
  have g_p_by_order : FnD l.prog w K mg base "by_order" 5 4 neverS := ⟨_, _, _, ok_p_by_order F25 T g_p_leads g_p_is_place g_p_is_mark, PySem.W.mg_of X G a25, k25, b25⟩
  have g_p_by_grow : FnD l.prog w K mg base "by_grow" 5 5 neverS := ⟨_, _, _, ok_p_by_grow F26 T g_p_is_place g_p_is_sign g_p_may_grow, PySem.W.mg_of X G a26, k26, b26⟩
  have g_p_cancels_in : FnD l.prog w K mg base "cancels_in" 5 2 S_p_cancels_in := ⟨_, _, _, ok_p_cancels_in F27 T g_p_cancel, PySem.W.mg_of X G a27, k27, b27⟩
  have g_p_by_step : FnD l.prog w K mg base "by_step" 6 3 S_p_by_step := ⟨_, _, _, ok_p_by_step F28 T g_p_is_tuple_called g_p_by_cancel g_p_by_order g_p_by_grow, PySem.W.mg_of X G a28, k28, b28⟩
  have g_p_gone : FnX l.prog w K mg base "gone" 7 3 S_p_gone C := ⟨_, _, _, ok_p_gone F29 T Y (ok_init FI0 Y) hbI ⟨_, lI, rfl⟩ g_p_by_step, PySem.W.mg_of X G a29, k29, b29⟩
  have g_l_gone : FnD l.prog w K mg base "_law_gone" 8 3 S_l_gone := ⟨_, _, _, ok_l_gone F30 T Y g_p_gone, PySem.W.mg_of X G a30, k30, b30⟩
  have g_l_long_right : FnD l.prog w K mg base "_law_long_right" 9 3 S_l_long_right := ⟨_, _, _, ok_l_long_right F31 T g_l_gone g_l_cancels g_p_cancels_in, PySem.W.mg_of X G a31, k31, b31⟩
  exact ok_law F32 T g_l_pack g_l_marks g_l_order g_l_long_right g_l_row g_p_cancels_in g_l_gone g_l_mixed g_l_cancels
end My
open PySem PySem.W PyProof.Rows
set_option maxRecDepth 100000 in
set_option maxHeartbeats 0 in
theorem PySem.Challenge.cw_wordwishes_k12_neighbours_that_cancel_holds : PySem.Challenge.rw_wordwishes_k12_neighbours_that_cancel.Holds := by
  w_on; o_law; z_head; (case hw => w_witness2)
  k_fill
  refine L2.walkX_of (fun _ => rfl) ?_
  refine L2.walkDB (S := My.S_law) My.law_s (k := 10) (x := "_law_script") (l := PySem.Challenge.rw_wordwishes_k12_neighbours_that_cancel) ⟨rfl, by decide, by decide⟩ rfl rfl (fun w h Y => Y) ?F
  case F =>
    intro w mg fa h KX G hmg
    refine' My.all_mk KX G hmg ?a0 ?l0 ?c0 ?k0 ?a1 ?l1 ?c1 ?k1 ?a2 ?l2 ?c2 ?k2 ?a3 ?l3 ?c3 ?k3 ?a4 ?l4 ?c4 ?k4 ?a5 ?l5 ?c5 ?k5 ?a6 ?l6 ?c6 ?k6 ?a7 ?l7 ?c7 ?k7 ?a8 ?l8 ?c8 ?k8 ?a9 ?l9 ?c9 ?k9 ?a10 ?l10 ?c10 ?k10 ?a11 ?l11 ?c11 ?k11 ?a12 ?l12 ?c12 ?k12 ?a13 ?l13 ?c13 ?k13 ?a14 ?l14 ?c14 ?k14 ?a15 ?l15 ?c15 ?k15 ?a16 ?l16 ?c16 ?k16 ?a17 ?l17 ?c17 ?k17 ?a18 ?l18 ?c18 ?k18 ?a19 ?l19 ?c19 ?k19 ?a20 ?l20 ?c20 ?k20 ?a21 ?l21 ?c21 ?k21 ?a22 ?l22 ?c22 ?k22 ?a23 ?l23 ?c23 ?k23 ?a24 ?l24 ?c24 ?k24 ?a25 ?l25 ?c25 ?k25 ?a26 ?l26 ?c26 ?k26 ?a27 ?l27 ?c27 ?k27 ?a28 ?l28 ?c28 ?k28 ?a29 ?l29 ?c29 ?k29 ?a30 ?l30 ?c30 ?k30 ?a31 ?l31 ?c31 ?k31 ?a32 ?l32 ?c32 ?k32 ?aC ?aW ?kC ?lC ?iC ?lI ?cI ?kI ?lW ?eN ?lN ?hN ?sW ?rW ?fW ?sC ?mC ?tC ?z_isinstance ?z_int ?z_bool ?z_tuple ?z_len ?z_str ?z_all ?z_list ?z_enumerate ?z_range ?z_divmod ?z_sum ?z_SMALL_LETTERS ?z_MOST_LETTERS ?z_MOST_TURN
    (case a0 => k_is)
    (case l0 => k_is)
    (case c0 => k_is)
    (case k0 => k_is)
    (case a1 => k_is)
    (case l1 => k_is)
    (case c1 => k_is)
    (case k1 => k_is)
    (case a2 => k_is)
    (case l2 => k_is)
    (case c2 => k_is)
    (case k2 => k_is)
    (case a3 => k_is)
    (case l3 => k_is)
    (case c3 => k_is)
    (case k3 => k_is)
    (case a4 => k_is)
    (case l4 => k_is)
    (case c4 => k_is)
    (case k4 => k_is)
    (case a5 => k_is)
    (case l5 => k_is)
    (case c5 => k_is)
    (case k5 => k_is)
    (case a6 => k_is)
    (case l6 => k_is)
    (case c6 => k_is)
    (case k6 => k_is)
    (case a7 => k_is)
    (case l7 => k_is)
    (case c7 => k_is)
    (case k7 => k_is)
    (case a8 => k_is)
    (case l8 => k_is)
    (case c8 => k_is)
    (case k8 => k_is)
    (case a9 => k_is)
    (case l9 => k_is)
    (case c9 => k_is)
    (case k9 => k_is)
    (case a10 => k_is)
    (case l10 => k_is)
    (case c10 => k_is)
    (case k10 => k_is)
    (case a11 => k_is)
    (case l11 => k_is)
    (case c11 => k_is)
    (case k11 => k_is)
    (case a12 => k_is)
    (case l12 => k_is)
    (case c12 => k_is)
    (case k12 => k_is)
    (case a13 => k_is)
    (case l13 => k_is)
    (case c13 => k_is)
    (case k13 => k_is)
    (case a14 => k_is)
    (case l14 => k_is)
    (case c14 => k_is)
    (case k14 => k_is)
    (case a15 => k_is)
    (case l15 => k_is)
    (case c15 => k_is)
    (case k15 => k_is)
    (case a16 => k_is)
    (case l16 => k_is)
    (case c16 => k_is)
    (case k16 => k_is)
    (case a17 => k_is)
    (case l17 => k_is)
    (case c17 => k_is)
    (case k17 => k_is)
    (case a18 => k_is)
    (case l18 => k_is)
    (case c18 => k_is)
    (case k18 => k_is)
    (case a19 => k_is)
    (case l19 => k_is)
    (case c19 => k_is)
    (case k19 => k_is)
    (case a20 => k_is)
    (case l20 => k_is)
    (case c20 => k_is)
    (case k20 => k_is)
    (case a21 => k_is)
    (case l21 => k_is)
    (case c21 => k_is)
    (case k21 => k_is)
    (case a22 => k_is)
    (case l22 => k_is)
    (case c22 => k_is)
    (case k22 => k_is)
    (case a23 => k_is)
    (case l23 => k_is)
    (case c23 => k_is)
    (case k23 => k_is)
    (case a24 => k_is)
    (case l24 => k_is)
    (case c24 => k_is)
    (case k24 => k_is)
    (case a25 => k_is)
    (case l25 => k_is)
    (case c25 => k_is)
    (case k25 => k_is)
    (case a26 => k_is)
    (case l26 => k_is)
    (case c26 => k_is)
    (case k26 => k_is)
    (case a27 => k_is)
    (case l27 => k_is)
    (case c27 => k_is)
    (case k27 => k_is)
    (case a28 => k_is)
    (case l28 => k_is)
    (case c28 => k_is)
    (case k28 => k_is)
    (case a29 => k_is)
    (case l29 => k_is)
    (case c29 => k_is)
    (case k29 => k_is)
    (case a30 => k_is)
    (case l30 => k_is)
    (case c30 => k_is)
    (case k30 => k_is)
    (case a31 => k_is)
    (case l31 => k_is)
    (case c31 => k_is)
    (case k31 => k_is)
    (case a32 => k_is)
    (case l32 => k_is)
    (case c32 => k_is)
    (case k32 => k_is)
    (case aC => k_is)
    (case aW => k_is)
    (case kC => k_is)
    (case lC => k_is)
    (case iC => k_is)
    (case lI => k_is)
    (case cI => k_is)
    (case kI => k_is)
    (case lW => k_is)
    (case eN => exact rfl)
    (case lN => k_is)
    (case hN => exact rfl)
    (case sW => k_is)
    (case rW => k_is)
    (case fW => k_is)
    (case sC => k_is)
    (case mC => k_is)
    (case tC => k_is)
    (case z_isinstance => k_is)
    (case z_int => k_is)
    (case z_bool => k_is)
    (case z_tuple => k_is)
    (case z_len => k_is)
    (case z_str => k_is)
    (case z_all => k_is)
    (case z_list => k_is)
    (case z_enumerate => k_is)
    (case z_range => k_is)
    (case z_divmod => k_is)
    (case z_sum => k_is)
    (case z_SMALL_LETTERS => k_is)
    (case z_MOST_LETTERS => k_is)
    (case z_MOST_TURN => k_is)
