import PyProof.Rows.All
import Wide.All
import OpenK.AllK
import Wide.FinOn
import Lean
import PyProof.EqAt
import PyProof.EqKinds
import PyProof.TupleCall
import PyProof.ZipIter
import PyProof.Draws
import PyProof.EnumMake
import KE.KStateDown
import PyProof.Rows.EqDataRows
import PySem.Challenge.RW_evennotes_k40_one_shape
theorem zSet {α : Type} : (∀ (a : α) (l : List α) (n : Nat) (b : α), (a :: l).set (n + 1) b = a :: l.set n b) ∧ ∀ (a : α) (l : List α) (b : α), (a :: l).set 0 b = b :: l := ⟨fun _ _ _ _ => rfl, fun _ _ _ => rfl⟩
theorem zMap {α β : Type} : (∀ (f : α → β) (a : α) (l : List α), (a :: l).map f = f a :: l.map f) ∧ ∀ f : α → β, [].map f = [] := ⟨fun _ _ _ => rfl, fun _ => rfl⟩
theorem zLen {α : Type} : (∀ (a : α) (l : List α), (a :: l).length = l.length + 1) ∧ ([] : List α).length = 0 := ⟨fun _ _ => rfl, rfl⟩
theorem zApp {α : Type} : (∀ (a : α) (l m : List α), (a :: l) ++ m = a :: (l ++ m)) ∧ ∀ l : List α, [] ++ l = l := ⟨fun _ _ _ => rfl, fun _ => rfl⟩
theorem oB {α β : Type} {f : α → Option β} {a : α} : (some a).bind f = f a := rfl
open PySem.W (nsIn fnOf keepIn codeIn)
set_option Elab.async false
set_option linter.all false
set_option maxRecDepth 100000
namespace L2
open PySem PySem.Spec PyProof.Rows
abbrev Key := Sum Int Str
def keyIs : Key → Value → Bool
 | .inl k, v => Value.isInt k v
 | .inr x, v => Value.isStrOf x v
def keyH (w : World) : Key → Int
 | .inl k => hashInt k
 | .inr x => hashStr w x
theorem keyIs_shape : ∀ {k : Key} {v : Value}, keyIs k v = true → (∃ i t, k = Sum.inl i ∧ v = Value.int i t) ∨ (∃ x t, k = Sum.inr x ∧ v = Value.str x t)
 | .inl i, v, h => by
  obtain ⟨t, e⟩ := Value.isInt_shape (k := i) (v := v) h
  exact .inl ⟨i, t, rfl, e⟩
 | .inr x, v, h => by
  obtain ⟨t, e⟩ := Value.isStrOf_shape (x := x) (v := v) h
  exact .inr ⟨x, t, rfl, e⟩
theorem key_ll (a b : Int) : decide ((Sum.inl a : Key) = Sum.inl b) = (a == b) := by
 by_cases e : a = b
 ·subst e; simp
 ·have h : ¬ (Sum.inl a : Key) = Sum.inl b := fun q => e (Sum.inl.inj q)
  rw [decide_eq_false h]
  exact (beq_eq_false_iff_ne.mpr e).symm
theorem key_rr (a b : Str) : decide ((Sum.inr a : Key) = Sum.inr b) = decide (a = b) := by
 by_cases e : a = b
 ·subst e; simp
 ·have h : ¬ (Sum.inr a : Key) = Sum.inr b := fun q => e (Sum.inr.inj q)
  rw [decide_eq_false h, decide_eq_false e]
theorem key_lr (a : Int) (b : Str) : decide ((Sum.inl a : Key) = Sum.inr b) = false := decide_eq_false (fun q => nomatch q)
theorem key_rl (a : Str) (b : Int) : decide ((Sum.inr a : Key) = Sum.inl b) = false := decide_eq_false (fun q => nomatch q)
def mixKind (prog : Program) (w : World) : PySem.KeyKind prog w Key where
 is := keyIs
 hash := keyH w
 inj := fun v a b ha hb => by
  rcases keyIs_shape ha with ⟨i, t, rfl, rfl⟩ | ⟨x, t, rfl, rfl⟩
  ·rcases keyIs_shape hb with ⟨j, u, rfl, e⟩ | ⟨y, u, rfl, e⟩
   ·injection e with e1 _; rw [e1]
   ·exact nomatch e
  ·rcases keyIs_shape hb with ⟨j, u, rfl, e⟩ | ⟨y, u, rfl, e⟩
   ·exact nomatch e
   ·injection e with e1 _; rw [e1]
 byValue := fun k v h => by
  rcases keyIs_shape h with ⟨i, t, rfl, rfl⟩ | ⟨x, t, rfl, rfl⟩ <;> rfl
 pyHash := fun hv h => by
  rcases keyIs_shape hv with ⟨i, t, rfl, rfl⟩ | ⟨x, t, rfl, rfl⟩
  ·exact wpAny_pyHash_int h
  ·exact wpAny_pyHash_str h
 eqBool := fun hu hv h => by
  rcases keyIs_shape hu with ⟨i, t, rfl, rfl⟩ | ⟨x, t, rfl, rfl⟩
  ·rcases keyIs_shape hv with ⟨j, u, rfl, rfl⟩ | ⟨y, u, rfl, rfl⟩
   ·rw [key_ll] at h; exact wpAny_eqBool_int h
   ·rw [key_lr] at h; exact SeqAt.EqAt.int_str i t y u _ _ _ _ h
  ·rcases keyIs_shape hv with ⟨j, u, rfl, rfl⟩ | ⟨y, u, rfl, rfl⟩
   ·rw [key_rl] at h; exact SeqAt.EqAt.str_int x t j u _ _ _ _ h
   ·rw [key_rr] at h; exact wpAny_eqBool_str h
 «strs» := fun k x t v h => by
  rcases keyIs_shape h with ⟨i, u, rfl, e⟩ | ⟨y, u, rfl, e⟩
  ·exact nomatch e
  ·injection e with e1 _
   subst e1
   cases v <;> rfl
end L2
namespace L2
open PySem PySem.Spec PyProof.Rows
inductive V where
 | non | bl (b : Bool) | int (i : Int) | str (x : Str) | byt (b : Array UInt8) | flt (b : UInt64) | ref (a : Addr) | ty (n : String)
 deriving DecidableEq
def RelV : V → Value → Prop
 | .non, u => u = Value.none
 | .bl b, u => u = Value.bool b
 | .int i, u => ∃ t, u = Value.int i t
 | .str x, u => ∃ t, u = Value.str x t
 | .byt b, u => ∃ t, u = Value.bytes b t
 | .flt b, u => ∃ t, u = Value.float b t
 | .ref a, u => u = Value.ref a
 | .ty n, u => u = Value.type n
abbrev zN : List V → List Value → Prop := Paired RelV
theorem zN.length {xs : List V} {us : List Value} (r : zN xs us) : xs.length = us.length := Paired.length r
theorem zN.get : ∀ {xs : List V} {us : List Value} {i : Nat} {x : V}, zN xs us → xs[i]? = some x → ∃ u, us[i]? = some u ∧ RelV x u
 | _, _, _, _, .nil, e => by simp at e
 | _, _, 0, _, .cons r _, e => by simp at e; subst e; exact ⟨_, rfl, r⟩
 | _, _, i + 1, x, .cons _ t, e => by
  obtain ⟨u, h1, h2⟩ := zN.get (i := i) (x := x) t (by simpa using e)
  exact ⟨u, by simpa using h1, h2⟩
theorem zN.set {x : V} {u : Value} (r : RelV x u) : ∀ {xs : List V} {us : List Value} (i : Nat), zN xs us → zN (xs.set i x) (us.set i u)
 | _, _, _, .nil => .nil
 | _, _, 0, .cons _ t => .cons r t
 | _, _, i + 1, .cons q t => .cons q (zN.set r i t)
theorem zN.append : ∀ {xs ys : List V} {us ws : List Value}, zN xs us → zN ys ws → zN (xs ++ ys) (us ++ ws)
 | _, _, _, _, .nil, s => s
 | _, _, _, _, .cons r t, s => .cons r (zN.append t s)
theorem zN.take : ∀ {xs : List V} {us : List Value} (n : Nat), zN xs us → zN (xs.take n) (us.take n)
 | _, _, 0, _ => .nil
 | _, _, _ + 1, .nil => .nil
 | _, _, n + 1, .cons r t => .cons r (zN.take n t)
theorem zN.drop : ∀ {xs : List V} {us : List Value} (n : Nat), zN xs us → zN (xs.drop n) (us.drop n)
 | _, _, 0, r => r
 | _, _, _ + 1, .nil => .nil
 | _, _, n + 1, .cons _ t => zN.drop n t
def RelO : Option V → Option Value → Prop
 | some v, some u => RelV v u
 | none, none => True
 | _, _ => False
def KV {κ : Type} : List (κ × V) → List (κ × Value) → Prop := Paired fun (p : κ × V) (q : κ × Value) => p.1 = q.1 ∧ RelV p.2 q.2
def kV : Key → V
 | .inl i => .int i
 | .inr x => .str x
inductive HO where
  | lst (xs : List V)
  | tup (xs : List V)
  | dK (kvs : List (Key × V)) | dT (kvs : List (List Key × V))
  | set (S : Int → Bool) (n : Nat)
  | ins (C dx : Addr) (fs : List (Str × V))
  | own (x : Addr)
  | xd (fs : List (Str × V))
  | met (f x : Addr)
  | rng (lo hi : Int)
  | frz (o : Obj) (u : HO)
  | tbl (ps : Array Value)
  | ext (φ : Heap → Prop)
abbrev Hp := Addr → Option HO
def upd (H : Hp) (a : Addr) (o : HO) : Hp := fun b => if b = a then some o else H b
theorem zv {H : Hp} {a : Addr} {o : HO} : upd H a o a = some o := by unfold upd; rw [if_pos rfl]
theorem zA {H : Hp} {a b : Addr} {o : HO} (h : b ≠ a) : upd H a o b = H b := by unfold upd; rw [if_neg h]
theorem ne_of_none {H : Hp} {a b : Addr} {o : HO} (h : H a = some o) (h' : H b = none) : a ≠ b := by
 intro e; subst e; rw [h] at h'; cases h'
section
variable (P : Program) (w : World)
def ObjOk (H : Hp) (h : Heap) (a : Addr) : HO → Prop
 | .lst xs => xs.length ≤ sizeLine ∧ ∃ (its : List Value) (n : Nat), zN xs its ∧ h.get? a = some { cls := .type "list", data := .seq its.toArray n }
 | .tup xs => xs.length ≤ sizeLine ∧ ∃ its : List Value, zN xs its ∧ IsTup h a its.toArray
 | .dK kvs => kvs.length ≤ sizeLine ∧ (a == sysModules) = false ∧ ∃ vs, KV kvs vs ∧ h.DictOf (mixKind P w) a vs
 | .dT kvs => kvs.length ≤ sizeLine ∧ (a == sysModules) = false ∧ ∃ xs : List (List Key × Addr × Value),
   Paired (fun (p : List Key × V) (q : List Key × Addr × Value) => p.1 = q.1 ∧ H q.2.1 = some (.tup (p.1.map kV)) ∧ RelV p.2 q.2.2) kvs xs ∧
   ∃ o es ep, h.get? a = some o ∧ o.ExactDict ∧ o.data = .dict es ep ∧ es.toList = xs.map (entryOfKey (tupleKind (mixKind P w))) ∧ (xs.map (·.1)).Nodup
 | .set S n => h.SetOf (intKind P w) a S n
 | .ins C dx fs => H dx = some (.own a) ∧ fs.length ≤ 1000 ∧ dx ≠ a ∧ h.get? a = some (PySem.W.instObj C dx) ∧
   ∃ mA, h.Ns1 dx mA ∧ (∀ f, RelO (fs.lookup f) (mA f)) ∧ PySem.Within mA (fs.map (·.1))
 | .own _ => ∃ o, h.get? a = some o
 | .xd fs => ∃ mA, h.Ns1 a mA ∧ ∀ f, RelO (fs.lookup f) (mA f)
 | .rng lo hi => ∃ t u v, h.get? a = some { cls := .type "range", data := .fields #[.int lo t, .int hi u, .int 1 v] }
 | .frz o u => h.get? a = some o ∧ ObjOk H h a u
 | .tbl ps => h.get? a = some { cls := .none, data := .fields ps }
 | .met f x => h.get? a = some (PySem.W.methodObj (.ref f) (.ref x))
 | .ext φ => φ h ∧ (∃ o, h.get? a = some o) ∧ ∀ h1 h2 : Heap, φ h1 → (∀ o, h1.get? a = some o → h2.get? a = some o) → φ h2
def HOk (H : Hp) (h : Heap) : Prop := ∀ a o, H a = some o → ObjOk P w H h a o
end
section
variable {P : Program} {w : World} {H H' : Hp} {h h' : Heap} {a : Addr} {o : HO}
theorem ObjOk.lt (x : ObjOk P w H h a o) : a < h.objs.size := by
 cases o with
 | lst xs => obtain ⟨_, _, _, _, e⟩ := x; exact Heap.lt_size e
 | tup xs => obtain ⟨_, _, _, p⟩ := x; exact p.lt
 | dK kvs => obtain ⟨_, _, _, _, o, _, _, e, _⟩ := x; exact Heap.lt_size e
 | dT kvs => obtain ⟨_, _, _, _, o, _, _, e, _⟩ := x; exact Heap.lt_size e
 | set S n => obtain ⟨o, _, _, _, e, _⟩ := x; exact Heap.lt_size e
 | ins C dx fs => obtain ⟨_, _, _, e, _⟩ := x; exact Heap.lt_size e
 | own y => obtain ⟨_, e⟩ := x; exact Heap.lt_size e
 | xd fs => obtain ⟨_, ⟨_, _, _, e, _⟩, _⟩ := x; exact Heap.lt_size e
 | rng lo hi => obtain ⟨_, _, _, e⟩ := x; exact Heap.lt_size e
 | frz ob u => obtain ⟨e, _⟩ := x; exact Heap.lt_size e
 | tbl ps => exact Heap.lt_size (show h.get? a = some _ from x)
 | met f y => exact Heap.lt_size (show h.get? a = some _ from x)
 | ext φ => obtain ⟨_, ⟨_, e⟩, _⟩ := x; exact Heap.lt_size e
theorem Paired.mapP {α β : Type} {F G : α → β → Prop} : ∀ {l₁ : List α} {l₂ : List β}, Paired F l₁ l₂ → (∀ a b, F a b → G a b) → Paired G l₁ l₂
 | _, _, .nil, _ => .nil
 | _, _, .cons r t, f => .cons (f _ _ r) (Paired.mapP t f)
theorem ObjOk.stay (x : ObjOk P w H h a o) (k : ∀ b u, (b = a ∨ H b = some (.own a)) → h.get? b = some u → h'.get? b = some u)
  (ho : ∀ b, H b = some (.own a) → H' b = some (.own a)) (ht : ∀ b xs, H b = some (.tup xs) → H' b = some (.tup xs)) : ObjOk P w H' h' a o := by
 induction o with
 | lst xs => obtain ⟨z, its, n, r, e⟩ := x; exact ⟨z, its, n, r, k _ _ (.inl rfl) e⟩
 | tup xs => obtain ⟨z, its, r, ob, e, c⟩ := x; exact ⟨z, its, r, ob, k _ _ (.inl rfl) e, c⟩
 | dK kvs => obtain ⟨z, y, vs, r, ob, es, ep, e, c⟩ := x; exact ⟨z, y, vs, r, ob, es, ep, k _ _ (.inl rfl) e, c⟩
 | dT kvs =>
  obtain ⟨z, y, xs, r, ob, es, ep, e, c⟩ := x
  exact ⟨z, y, xs, Paired.mapP r fun p q z => ⟨z.1, ht _ _ z.2.1, z.2.2⟩, ob, es, ep, k _ _ (.inl rfl) e, c⟩
 | set S n => obtain ⟨ob, es, ep, t, e, c⟩ := x; exact ⟨ob, es, ep, t, k _ _ (.inl rfl) e, c⟩
 | ins C dx fs =>
  obtain ⟨d, z, ne, e, mA, ⟨od, es, ep, e2, c⟩, r⟩ := x
  exact ⟨ho _ d, z, ne, k _ _ (.inl rfl) e, mA, ⟨od, es, ep, k _ _ (.inr d) e2, c⟩, r⟩
 | own y => obtain ⟨ob, e⟩ := x; exact ⟨ob, k _ _ (.inl rfl) e⟩
 | xd fs => obtain ⟨mA, ⟨od, es, ep, e, c⟩, r⟩ := x; exact ⟨mA, ⟨od, es, ep, k _ _ (.inl rfl) e, c⟩, r⟩
 | rng lo hi => obtain ⟨t, u, v, e⟩ := x; exact ⟨t, u, v, k _ _ (.inl rfl) e⟩
 | frz ob u ih => obtain ⟨e, q⟩ := x; exact ⟨k _ _ (.inl rfl) e, ih q⟩
 | tbl ps =>
  have e : h.get? a = some { cls := .none, data := .fields ps } := x
  show h'.get? a = some { cls := .none, data := .fields ps }
  exact k a _ (.inl rfl) e
 | met f y =>
  have e : h.get? a = some (PySem.W.methodObj (.ref f) (.ref y)) := x
  show h'.get? a = some (PySem.W.methodObj (.ref f) (.ref y))
  exact k a _ (.inl rfl) e
 | ext φ => obtain ⟨p, ⟨o, e⟩, st⟩ := x; exact ⟨st _ _ p fun o q => k _ _ (.inl rfl) q, ⟨o, k _ _ (.inl rfl) e⟩, st⟩
theorem HOk.lt (x : HOk P w H h) (e : H a = some o) : a < h.objs.size := (x a o e).lt
theorem HOk.fresh (x : HOk P w H h) (e : h.objs.size ≤ a) : H a = none := by
 cases q : H a with
 | none => rfl
 | some u => exact absurd (Nat.lt_of_lt_of_le (x.lt q) e) (Nat.lt_irrefl _)
theorem HOk.kept (x : HOk P w H h) (k : ∀ b u, h.get? b = some u → h'.get? b = some u) : HOk P w H h' := fun a o e =>
 (x a o e).stay (fun b u _ q => k b u q) (fun _ q => q) fun _ _ q => q
theorem HOk.laid (x : HOk P w H h) (k : ∀ b u, h.get? b = some u → h'.get? b = some u) (hp : h.objs.size ≤ a) (new : ObjOk P w (upd H a o) h' a o) : HOk P w (upd H a o) h' := fun b u e => by
 have hn := x.fresh hp
 by_cases hb : b = a
 ·subst hb; rw [zv] at e; cases e; exact new
 ·rw [zA hb] at e
  exact (x b u e).stay (fun c v _ q => k c v q) (fun c q => by rw [zA (ne_of_none q hn)]; exact q) fun c xs q => by rw [zA (ne_of_none q hn)]; exact q
end
def Rd (H : Hp) (a : Addr) (u : HO) : Prop := H a = some u ∨ ∃ o, H a = some (.frz o u)
theorem Rd.ok {P : Program} {w : World} {H : Hp} {h : Heap} {a : Addr} {u : HO} (r : Rd H a u) (x : HOk P w H h) : ObjOk P w H h a u := by
 rcases r with r | ⟨o, r⟩
 ·exact x a u r
 ·obtain ⟨_, q⟩ := x a _ r
  exact q
def Mut : Option HO → Prop
 | some (.lst _) => True
 | some (.dK _) => True
 | some (.dT _) => True
 | some (.set _ _) => True
 | some (.ins _ _ _) => True
 | some (.ext _) => True
 | _ => False
section
variable {P : Program} {w : World} {H : Hp} {h h' : Heap} {x e : Addr} {o' : HO}
theorem HOk.write (ok : HOk P w H h) (mu : Mut (H x)) (he : e = x ∨ H e = some (.own x)) (k : ∀ b u, b ≠ e → h.get? b = some u → h'.get? b = some u) (heo : ∃ u, h'.get? e = some u)
  (new : ObjOk P w (upd H x o') h' x o') : HOk P w (upd H x o') h' := fun b u q => by
 have nown : ∀ c y, H c = some (.own y) → c ≠ x := fun c y r z => by subst z; rw [r] at mu; exact mu
 have ntup : ∀ c xs, H c = some (.tup xs) → c ≠ x := fun c xs r z => by subst z; rw [r] at mu; exact mu
 by_cases hb : b = x
 ·subst hb; rw [zv] at q; cases q; exact new
 ·rw [zA hb] at q
  by_cases hbe : b = e
  ·have q' : H b = some (.own x) := by
    rcases he with z | z
    ·exact absurd (hbe.trans z) hb
    ·rw [hbe]; exact z
   rw [q] at q'; cases q'
   obtain ⟨v, hv⟩ := heo
   exact ⟨v, by rw [hbe]; exact hv⟩
  ·refine (ok b u q).stay (fun c v hc r => k c v ?_ r) (fun c r => by rw [zA (nown c b r)]; exact r) fun c xs r => by rw [zA (ntup c xs r)]; exact r
   rcases hc with rfl | hc
   ·exact hbe
   ·rintro rfl
    rcases he with z | z
    ·exact nown c b hc z
    ·rw [hc] at z; cases z; exact hb rfl
end
structure Un (fs ex : List Addr) (H H' : Hp) (h h' : Heap) : Prop where
 keep : ∀ b o, h.get? b = some o → H b = none → b ∉ fs → b ∉ ex → h'.get? b = some o
 slot : ∀ b o, h.get? b = some o → H b = none → b ∈ fs → b ∉ ex → ∃ sl, h'.get? b = some { o with slots := sl }
 free : ∀ b o, h.get? b = some o → H b = none → b ∉ ex → H' b = none
 there : ∀ b o, h.get? b = some o → b ∉ ex → ∃ o', h'.get? b = some o'
 tups : ∀ b xs, H b = some (.tup xs) → H' b = some (.tup xs)
 frzs : ∀ b o u, H b = some (.frz o u) → H' b = some (.frz o u)
 tbls : ∀ b ps, H b = some (.tbl ps) → ∃ more, H' b = some (.tbl (ps ++ more))
section
variable {fs fs' ex ex' : List Addr} {H H1 H2 : Hp} {h h1 h2 h' : Heap} {a x e : Addr} {o : HO}
theorem Un.any (u : Un fs ex H H1 h h1) {b : Addr} {ob : Obj} (q : h.get? b = some ob) (n : H b = none) (hx : b ∉ ex) : ∃ sl, h1.get? b = some { ob with slots := sl } := by
 by_cases hb : b ∈ fs
 ·exact u.slot b ob q n hb hx
 ·exact ⟨ob.slots, u.keep b ob q n hb hx⟩
theorem Un.trans (a : Un fs ex H H1 h h1) (b : Un fs ex H1 H2 h1 h2) : Un fs ex H H2 h h2 where
 keep := fun c ob q n hc hx => b.keep c ob (a.keep c ob q n hc hx) (a.free c ob q n hx) hc hx
 slot := fun c ob q n hc hx => by
  obtain ⟨sl, e1⟩ := a.slot c ob q n hc hx
  obtain ⟨sl', e2⟩ := b.slot c _ e1 (a.free c ob q n hx) hc hx
  exact ⟨sl', e2⟩
 free := fun c ob q n hx => by
  obtain ⟨o', e1⟩ := a.there c ob q hx
  exact b.free c o' e1 (a.free c ob q n hx) hx
 there := fun c ob q hx => by
  obtain ⟨o', e1⟩ := a.there c ob q hx
  exact b.there c o' e1 hx
 tups := fun c xs q => b.tups c xs (a.tups c xs q)
 frzs := fun c ob xs q => b.frzs c ob xs (a.frzs c ob xs q)
 tbls := fun c ps q => by
  obtain ⟨m1, e1⟩ := a.tbls c ps q
  obtain ⟨m2, e2⟩ := b.tbls c _ e1
  exact ⟨m1 ++ m2, by rw [e2, Array.append_assoc]⟩
theorem Un.kept (k : ∀ b u, h.get? b = some u → h'.get? b = some u) : Un fs ex H H h h' :=
 ⟨fun b ob q _ _ _ => k b ob q, fun b ob q _ _ _ => ⟨ob.slots, k b ob q⟩, fun _ _ _ n _ => n, fun b ob q _ => ⟨ob, k b ob q⟩, fun _ _ q => q, fun _ _ _ q => q, fun _ ps q => ⟨#[], by rw [q]; simp⟩⟩
theorem Un.refl : Un fs ex H H h h := Un.kept fun _ _ q => q
theorem Un.laid (k : ∀ b u, h.get? b = some u → h'.get? b = some u) (hp : h.objs.size ≤ a) (hn : H a = none) : Un fs ex H (upd H a o) h h' where
 keep := fun b u q _ _ _ => k b u q
 slot := fun b u q _ _ _ => ⟨u.slots, k b u q⟩
 free := fun b u q n _ => by rw [zA (Nat.ne_of_lt (Nat.lt_of_lt_of_le (Heap.lt_size q) hp))]; exact n
 there := fun b u q _ => ⟨u, k b u q⟩
 tups := fun b xs q => by rw [zA (ne_of_none q hn)]; exact q
 frzs := fun b u xs q => by rw [zA (ne_of_none q hn)]; exact q
 tbls := fun b ps q => ⟨#[], by rw [zA (ne_of_none q hn), q]; simp⟩
theorem Un.write (mu : Mut (H x)) (he : e = x ∨ H e = some (.own x)) (k : ∀ b u, b ≠ e → h.get? b = some u → h'.get? b = some u) (heo : ∃ u, h'.get? e = some u) : Un fs ex H (upd H x o) h h' := by
 have hx : ∀ b, H b = none → b ≠ x := fun b n z => by subst z; rw [n] at mu; exact mu
 have hb : ∀ b, H b = none → b ≠ e := fun b n z => by
  subst z
  rcases he with r | r
  ·exact hx b n r
  ·rw [n] at r; cases r
 have hm : ∀ b u, H b = some u → ¬ Mut (some u) → b ≠ x := fun b u q nm z => by subst z; rw [q] at mu; exact nm mu
 refine ⟨fun b u q n _ _ => k b u (hb b n) q, fun b u q n _ _ => ⟨u.slots, k b u (hb b n) q⟩, fun b u q n _ => by rw [zA (hx b n)]; exact n, fun b u q _ => ?_,
  fun b xs q => by rw [zA (hm b _ q fun z => z)]; exact q, fun b u xs q => by rw [zA (hm b _ q fun z => z)]; exact q, fun b ps q => ⟨#[], by rw [zA (hm b _ q fun z => z), q]; simp⟩⟩
 by_cases hbe : b = e
 ·subst hbe; exact heo
 ·exact ⟨u, k b u hbe q⟩
end
def trk (h : Heap) (H : Hp) : List Addr := (List.range h.objs.size).filter fun a => (H a).isSome
def hidT (h : Heap) (H : Hp) : Heap := PySem.W.hideAll h (trk h H)
theorem hidT_size (h : Heap) (H : Hp) : (hidT h H).objs.size = h.objs.size := PySem.W.hideAll_size _ _
theorem hidT_get {h : Heap} {H : Hp} {b : Addr} {o : Obj} (e : h.get? b = some o) (n : H b = none) : (hidT h H).get? b = some o :=
 PySem.W.hideAll_get _ e fun hm => by
  have q : (H b).isSome = true := (List.mem_filter.mp hm).2
  rw [n] at q; simp at q
theorem of_hidT {h : Heap} {H : Hp} {b : Addr} {o : Obj} (e : (hidT h H).get? b = some o) : h.get? b = some o ∧ H b = none := by
 have e' : h.get? b = some o := PySem.W.of_hideAll (trk h H) e
 refine ⟨e', ?_⟩
 cases q : H b with
 | none => rfl
 | some x =>
  have hm : b ∈ trk h H := List.mem_filter.mpr ⟨List.mem_range.mpr (Heap.lt_size e'), by simp [q]⟩
  have z : (hidT h H).get? b = none := PySem.W.hideAll_none (trk h H) hm
  rw [z] at e; cases e
def allNews (g h : Heap) (L : Addr) : List (Addr × Obj) := (List.range h.objs.size).filterMap fun a => if a = L ∨ (g.get? a).isSome = true then none else (h.get? a).map fun o => (a, o)
def rest (g h : Heap) (L d : Addr) : List (Addr × Obj) := (allNews g h L).filter fun p => decide (p.1 ≠ d)
end L2
namespace L2
open PySem PySem.Spec PyProof.Rows
structure Mod (K : PySem.W.Frag) (mg : Str → Option Value) (base : Heap) : Prop where
 kin : K.In base
 glob : base.Ns mainGlobals mg
 blt : ∃ mb, base.Ns builtinsNs mb ∧ ∀ x : Str, x ≠ "__name__" → mb x = bootBuiltins x
 nolimit : base.NoLimit
 seer : base.NoSeer
structure Cx where
 prog : Program
 w : World
 K : PySem.W.Frag
 mg : Str → Option Value
 base : Heap
 A : Around
 N : List Str
 s₀ : Shared
 H₀ : Hp
 env : Env
 outer : List Env
 stack : List Env
 ex : List Addr
 fn : Str → Bool
 calm : Bool
 pn : List (Addr × Obj)
 xe : Value → Shared → Prop
def frs (l : List Env) : List Addr := l.filterMap (·.frame)
abbrev Cx.fs (X : Cx) : List Addr := frs X.outer
def Vis (sc : Scope) (x : Str) : Prop := sc.names.lookup x = some .local ∨ sc.names.lookup x = some .cell ∨ sc.names.lookup x = some .free
def Loc (sc : Scope) (x : Str) : Prop := sc.names.lookup x = some .local ∨ sc.names.lookup x = some .cell
def Look (env : Env) (h : Heap) (m : Str → Option Value) (x : Str) (u : Value) : Prop :=
 (env.kindOf x = some .local ∧ m x = some u) ∨ ((env.kindOf x = some .cell ∨ env.kindOf x = some .free) ∧ ∃ c, env.cells.lookup x = some c ∧ h.IsCell c (some u))
structure Cx.Ok (X : Cx) : Prop where
 mod : Mod X.K X.mg X.base
 kind : X.env.scope.kind = .function
 glob : X.env.globals = mainGlobals
 blt : X.env.builtins = builtinsNs
 above : X.s₀.heap.objs.size ≤ X.env.locals
 inj : ∀ x y c, X.env.cells.lookup x = some c → X.env.cells.lookup y = some c → x = y
 has : ∀ x, (X.env.kindOf x = some .cell ∨ X.env.kindOf x = some .free) → ∃ c, X.env.cells.lookup x = some c
 cab : ∀ x c, X.fn x = true → X.env.cells.lookup x = some c → X.s₀.heap.objs.size ≤ c
 hd : X.calm = true → X.A.handled = none
 frames : X.A.frames = some X.stack
 stk : X.stack = X.outer ∨ (X.stack = X.env :: X.outer ∧ X.env.frame = some X.env.locals)
 exf : ∀ b ∈ X.ex, b ≠ X.env.locals ∧ ∀ x c, X.env.cells.lookup x = some c → c ≠ b
 bs : ∀ b o, X.base.get? b = some o → X.s₀.heap.get? b = some o ∧ X.H₀ b = none
 bsz : X.base.objs.size ≤ X.s₀.heap.objs.size
 noex : ∀ b o, X.base.get? b = some o → b ∉ X.ex
 exfs : ∀ b ∈ X.ex, b ∉ X.fs
 funs : X.s₀.heap.FunFrames X.base X.outer
 frf : ∀ b ∈ X.fs, X.H₀ b = none
 top : ∃ e l, X.stack = e :: l ∧ e.scope.isGenerator = false ∧ e.scope.isCoroutine = false ∧ e.builtins = builtinsNs ∧ e.globals = mainGlobals
 tree : X.prog.given.tree = none
structure Inv (X : Cx) (pins : List (Addr × Obj)) (σ : List (Option V)) (H : Hp) (s : Shared) : Prop where
 ok : X.Ok
 os : s.os = X.s₀.os
 bare : AllBare s.gens
 base : Un X.fs X.ex X.H₀ H X.s₀.heap s.heap
 loc : ∃ m, s.heap.Ns X.env.locals m ∧ ∀ (i : Nat) (x : Str) (v : V), X.N[i]? = some x → σ[i]? = some (some v) → Vis X.env.scope x → ∃ u, RelV v u ∧ Look X.env s.heap m x u
 cell : ∀ x c, X.env.cells.lookup x = some c → ∃ v, s.heap.IsCell c v
 free : H X.env.locals = none
 freeC : ∀ x c, X.env.cells.lookup x = some c → H c = none
 pin : ∀ p ∈ X.pn ++ pins, s.heap.get? p.1 = some p.2 ∧ H p.1 = none ∧ p.1 ≠ X.env.locals ∧ p.1 ∉ X.fs ∧ ∀ v, p.2.data ≠ .cell v
 hok : HOk X.prog X.w H s.heap
 len : σ.length = X.N.length
section
variable {X : Cx} {pins : List (Addr × Obj)} {σ : List (Option V)} {H H' : Hp} {s : Shared} {h' : Heap}
theorem Cx.Ok.nofr (ok : X.Ok) {b : Addr} {o : Obj} (e : X.base.get? b = some o) : b ∉ X.fs := fun hb => by
 have := (ok.funs.mem hb).1
 rw [e] at this; cases this
theorem Inv.bs (I : Inv X pins σ H s) : ∀ b o, X.base.get? b = some o → s.heap.get? b = some o ∧ H b = none := fun b o e =>
 ⟨I.base.keep b o (I.ok.bs b o e).1 (I.ok.bs b o e).2 (I.ok.nofr e) (I.ok.noex b o e), I.base.free b o (I.ok.bs b o e).1 (I.ok.bs b o e).2 (I.ok.noex b o e)⟩
theorem Inv.bk (I : Inv X pins σ H s) : ∀ b o, X.base.get? b = some o → s.heap.get? b = some o := fun b o e => (I.bs b o e).1
theorem Inv.mod (I : Inv X pins σ H s) : Mod X.K X.mg X.base := I.ok.mod
theorem Inv.kIn (I : Inv X pins σ H s) : X.K.In s.heap := I.ok.mod.kin.keeps I.bk
theorem Inv.nolimit (I : Inv X pins σ H s) : s.heap.NoLimit := I.ok.mod.nolimit.keeps I.bk
theorem Inv.fr (I : Inv X pins σ H s) : ∃ m, Fr X.base X.env.locals s.heap m :=
 let ⟨m, hn, _⟩ := I.loc
 ⟨m, hn, I.bk, Nat.le_trans I.ok.bsz I.ok.above⟩
theorem Inv.lt (I : Inv X pins σ H s) : X.env.locals < s.heap.objs.size := let ⟨_, hn, _⟩ := I.loc; hn.lt
theorem Inv.sz (I : Inv X pins σ H s) : X.s₀.heap.objs.size ≤ s.heap.objs.size := Nat.le_trans I.ok.above (Nat.le_of_lt I.lt)
theorem Inv.nofs (I : Inv X pins σ H s) {a : Addr} (h : s.heap.objs.size ≤ a) : a ∉ X.fs := fun hb => by
 obtain ⟨_, o, ho, _⟩ := I.ok.funs.mem hb
 exact absurd (Nat.lt_of_lt_of_le (Heap.lt_size ho) (Nat.le_trans I.sz h)) (Nat.lt_irrefl _)
theorem Inv.cne (I : Inv X pins σ H s) : ∀ x c, X.env.cells.lookup x = some c → c ≠ X.env.locals := fun x c e z => by
 obtain ⟨v, o, ho, hd⟩ := I.cell x c e
 obtain ⟨m, ⟨o', es, ep, ho', hd', _⟩, _⟩ := I.loc
 rw [z, ho'] at ho; cases ho; rw [hd'] at hd; cases hd
theorem Inv.funs (I : Inv X pins σ H s) : s.heap.FunFrames X.base X.outer := by
 have all : ∀ (l : List Env), (∀ b ∈ frs l, b ∈ X.fs) → X.s₀.heap.FunFrames X.base l → s.heap.FunFrames X.base l := by
  intro l
  induction l with
  | nil => intro _ _; trivial
  | cons env r ih =>
   intro hs hl
   obtain ⟨hk, ⟨L, o, hf, hn, ho, hd⟩, hr⟩ := hl
   have hL : L ∈ X.fs := hs L (by unfold frs; rw [List.filterMap_cons, hf]; exact List.mem_cons_self)
   obtain ⟨sl, e⟩ := I.base.slot L o ho (I.ok.frf L hL) hL fun z => I.ok.exfs L z hL
   exact ⟨hk, ⟨L, _, hf, hn, e, hd⟩, ih (fun b hb => hs b (by unfold frs; rw [List.filterMap_cons, hf]; exact List.mem_cons_of_mem _ hb)) hr⟩
 exact all X.outer (fun _ hb => hb) I.ok.funs
theorem Inv.stack (I : Inv X pins σ H s) : s.heap.FunFrames X.base X.stack := by
 rcases I.ok.stk with e | ⟨e, hf⟩
 ·rw [e]; exact I.funs
 ·rw [e]
  obtain ⟨m, hn, _⟩ := I.loc
  refine .cons (by rw [I.ok.kind]; decide) hf hn ?_ I.funs
  exact Heap.get?_none_of_le (Nat.le_trans I.ok.bsz I.ok.above)
theorem Inv.stkSub (I : Inv X pins σ H s) : ∀ b ∈ frs X.stack, b ∈ X.env.locals :: X.fs := fun b hb => by
 rcases I.ok.stk with e | ⟨e, hf⟩
 ·rw [e] at hb; exact List.mem_cons_of_mem _ hb
 ·rw [e] at hb
  unfold frs at hb
  rw [List.filterMap_cons, hf] at hb
  exact hb
theorem Inv.stkFree (I : Inv X pins σ H s) : ∀ b ∈ frs X.stack, H b = none := fun b hb => by
 rcases List.mem_cons.mp (I.stkSub b hb) with e | hb
 ·rw [e]; exact I.free
 ·obtain ⟨_, o, ho, _⟩ := I.ok.funs.mem hb
  exact I.base.free b o ho (I.ok.frf b hb) fun z => I.ok.exfs b z hb
theorem Inv.step {g' : Array GenState} {t' : Nat} {d' : Drawn} {ch : List Addr} (I : Inv X pins σ H s)
  (hch : ∀ b ∈ ch, (b ∈ X.ex ∨ X.s₀.heap.objs.size ≤ b) ∧ b ≠ X.env.locals ∧ (∀ x c, X.env.cells.lookup x = some c → c ≠ b) ∧ ∀ p ∈ X.pn ++ pins, p.1 ≠ b)
  (keep : ∀ b o, b ≠ X.env.locals → b ∉ X.fs → b ∉ ch → s.heap.get? b = some o → H b = none → h'.get? b = some o)
  (slot : ∀ b o, b ≠ X.env.locals → b ∈ X.fs → b ∉ ch → s.heap.get? b = some o → H b = none → ∃ sl, h'.get? b = some { o with slots := sl }) (free : ∀ b o, b ∉ ch → s.heap.get? b = some o → H b = none → H' b = none)
  (there : ∀ b o, b ∉ ch → s.heap.get? b = some o → ∃ o', h'.get? b = some o')
  (tups : ∀ b xs, H b = some (.tup xs) → H' b = some (.tup xs)) (frzs : ∀ b o u, H b = some (.frz o u) → H' b = some (.frz o u)) (tbls : ∀ b ps, H b = some (.tbl ps) → ∃ more, H' b = some (.tbl (ps ++ more)))
  (ns : ∀ m, s.heap.Ns X.env.locals m → h'.Ns X.env.locals m) (hok : HOk X.prog X.w H' h') (hg : AllBare g') :
  Inv X pins σ H' { s with heap := h', gens := g', drawn := d', toks := t' } := by
 have neL : ∀ b o, X.s₀.heap.get? b = some o → b ≠ X.env.locals := fun b o e => Nat.ne_of_lt (Nat.lt_of_lt_of_le (Heap.lt_size e) I.ok.above)
 have neC : ∀ b o, X.s₀.heap.get? b = some o → b ∉ X.ex → b ∉ ch := fun b o e hx hb => by
  rcases (hch b hb).1 with z | z
  ·exact hx z
  ·exact absurd (Nat.lt_of_lt_of_le (Heap.lt_size e) z) (Nat.lt_irrefl _)
 have cellK : ∀ x c, X.env.cells.lookup x = some c → ∀ v, s.heap.IsCell c v → h'.IsCell c v := fun x c e v ⟨o, ho, hd⟩ => by
  have nch : c ∉ ch := fun z => (hch c z).2.2.1 x c e rfl
  by_cases hc : c ∈ X.fs
  ·obtain ⟨sl, q⟩ := slot c o (I.cne x c e) hc nch ho (I.freeC x c e)
   exact ⟨_, q, hd⟩
  ·exact ⟨o, keep c o (I.cne x c e) hc nch ho (I.freeC x c e), hd⟩
 refine ⟨I.ok, I.os, hg, ⟨fun b o e n hb hx => ?_, fun b o e n hb hx => ?_, fun b o e n hx => ?_, fun b o e hx => ?_, fun b xs e => tups b xs (I.base.tups b xs e), fun b o xs e => frzs b o xs (I.base.frzs b o xs e), fun b ps e => ?_⟩, ?_, fun x c e => ?_, ?_, fun x c e => ?_, fun p hp => ?_, hok, I.len⟩
 ·exact keep b o (neL b o e) hb (neC b o e hx) (I.base.keep b o e n hb hx) (I.base.free b o e n hx)
 ·obtain ⟨sl, e1⟩ := I.base.slot b o e n hb hx
  obtain ⟨sl', e2⟩ := slot b _ (neL b o e) hb (neC b o e hx) e1 (I.base.free b o e n hx)
  exact ⟨sl', e2⟩
 ·obtain ⟨o', e1⟩ := I.base.there b o e hx
  exact free b o' (neC b o e hx) e1 (I.base.free b o e n hx)
 ·obtain ⟨o', e1⟩ := I.base.there b o e hx
  exact there b o' (neC b o e hx) e1
 ·obtain ⟨m1, e1⟩ := I.base.tbls b ps e
  obtain ⟨m2, e2⟩ := tbls b _ e1
  exact ⟨m1 ++ m2, by rw [e2, Array.append_assoc]⟩
 ·obtain ⟨m, hn, hl⟩ := I.loc
  refine ⟨m, ns m hn, fun i x v e1 e2 e3 => ?_⟩
  obtain ⟨u, r, l⟩ := hl i x v e1 e2 e3
  refine ⟨u, r, ?_⟩
  rcases l with l | ⟨k, c, e, z⟩
  ·exact .inl l
  ·exact .inr ⟨k, c, e, cellK x c e _ z⟩
 ·obtain ⟨v, z⟩ := I.cell x c e
  exact ⟨v, cellK x c e v z⟩
 ·obtain ⟨m, ⟨o, _, _, ho, _⟩, _⟩ := I.loc
  exact free _ o (fun z => (hch _ z).2.1 rfl) ho I.free
 ·obtain ⟨v, o, ho, hd⟩ := I.cell x c e
  exact free c o (fun z => (hch c z).2.2.1 x c e rfl) ho (I.freeC x c e)
 ·obtain ⟨e, n, ne, nf, d⟩ := I.pin p hp
  have nch : p.1 ∉ ch := fun z => (hch p.1 z).2.2.2 p hp rfl
  exact ⟨keep p.1 p.2 ne nf nch e n, free p.1 p.2 nch e n, ne, nf, d⟩
theorem Inv.un {t' : Nat} (I : Inv X pins σ H s) (u : Un X.fs [] H H' s.heap h') (hok : HOk X.prog X.w H' h') : Inv X pins σ H' { s with heap := h', toks := t' } := by
 obtain ⟨m, ⟨o, es, ep, ho, r⟩, _⟩ := id I.loc
 obtain ⟨sl, hL⟩ := u.any ho I.free (by simp)
 exact I.step (g' := s.gens) (d' := s.drawn) (ch := []) (fun _ z => nomatch z) (fun b o _ hb _ e n => u.keep b o e n hb (by simp)) (fun b o _ hb _ e n => u.slot b o e n hb (by simp)) (fun b o _ e n => u.free b o e n (by simp)) (fun b o _ e => u.there b o e (by simp)) u.tups u.frzs u.tbls (fun m' hm => by
  obtain ⟨o', es', ep', ho', r'⟩ := hm
  rw [ho] at ho'; cases ho'
  exact ⟨_, es', ep', hL, r'⟩) hok I.bare
theorem Inv.call {g' : Array GenState} {t' : Nat} {d' : Drawn} {ch : List Addr} (I : Inv X pins σ H s) (u : Un (frs X.stack) ch H H' s.heap h') (hok : HOk X.prog X.w H' h') (hg : AllBare g')
  (hch : ∀ b ∈ ch, (b ∈ X.ex ∨ X.s₀.heap.objs.size ≤ b) ∧ b ≠ X.env.locals ∧ (∀ x c, X.env.cells.lookup x = some c → c ≠ b) ∧ ∀ p ∈ X.pn ++ pins, p.1 ≠ b) :
  Inv X pins σ H' { s with heap := h', gens := g', drawn := d', toks := t' } := by
 obtain ⟨m, ⟨o, es, ep, ho, r⟩, _⟩ := id I.loc
 obtain ⟨sl, hL⟩ := u.any ho I.free fun z => (hch _ z).2.1 rfl
 exact I.step (ch := ch) hch (fun b o hL hb hc e n => u.keep b o e n (fun z => (List.mem_cons.mp (I.stkSub b z)).elim hL hb) hc) (fun b o _ _ hc e n => u.any e n hc) (fun b o hc e n => u.free b o e n hc) (fun b o hc e => u.there b o e hc) u.tups u.frzs u.tbls (fun m' hm => by
  obtain ⟨o', es', ep', ho', r'⟩ := hm
  rw [ho] at ho'; cases ho'
  exact ⟨_, es', ep', hL, r'⟩) hok hg
theorem Inv.turned {t' : Nat} {it : Addr} (I : Inv X pins σ H s) (k : ∀ b o, b ≠ it → s.heap.get? b = some o → h'.get? b = some o) (hn : H it = none) (hL : it ≠ X.env.locals)
  (h1 : it ∈ X.ex ∨ X.s₀.heap.objs.size ≤ it) (h2 : ∀ x c, X.env.cells.lookup x = some c → c ≠ it) (h3 : ∀ p ∈ X.pn ++ pins, p.1 ≠ it) : Inv X pins σ H { s with heap := h', toks := t' } := by
 have nit : ∀ b u, H b = some u → b ≠ it := fun b u e z => by rw [z, hn] at e; cases e
 refine I.step (g' := s.gens) (d' := s.drawn) (ch := [it]) (fun b hb => ?_) (fun b o _ _ hc e _ => k b o (fun z => hc (by simp [z])) e) (fun b o _ _ hc e _ => ⟨o.slots, k b o (fun z => hc (by simp [z])) e⟩) (fun _ _ _ _ n => n)
  (fun b o hc e => ⟨o, k b o (fun z => hc (by simp [z])) e⟩) (fun _ _ e => e) (fun _ _ _ e => e) (fun b ps e => ⟨#[], by rw [e]; simp⟩) (fun m hm => ?_) (fun b u e => ?_) I.bare
 ·have e : b = it := by simpa using hb
  subst e
  exact ⟨h1, hL, h2, h3⟩
 ·obtain ⟨o, es, ep, ho, r⟩ := hm
  exact ⟨o, es, ep, k _ o (Ne.symm hL) ho, r⟩
 ·refine (I.hok b u e).stay (fun c v hc q => k c v ?_ q) (fun _ q => q) fun _ _ q => q
  rcases hc with z | z
  ·rw [z]; exact nit b u e
  ·exact nit c _ z
theorem Inv.tok (I : Inv X pins σ H s) (t : Nat) : Inv X pins σ H { s with toks := t } := I.un (h' := s.heap) (t' := t) Un.refl I.hok
theorem Inv.kept {t' : Nat} (I : Inv X pins σ H s) (k : ∀ b u, s.heap.get? b = some u → h'.get? b = some u) : Inv X pins σ H { s with heap := h', toks := t' } := I.un (Un.kept k) (I.hok.kept k)
theorem Inv.laid {a : Addr} {o : HO} {t' : Nat} (I : Inv X pins σ H s) (k : ∀ b u, s.heap.get? b = some u → h'.get? b = some u) (hp : s.heap.objs.size ≤ a) (new : ObjOk X.prog X.w (upd H a o) h' a o) :
  Inv X pins σ (upd H a o) { s with heap := h', toks := t' } := I.un (Un.laid k hp (I.hok.fresh hp)) (I.hok.laid k hp new)
theorem Inv.write {x e : Addr} {o : HO} {t' : Nat} (I : Inv X pins σ H s) (mu : Mut (H x)) (he : e = x ∨ H e = some (.own x)) (k : ∀ b u, b ≠ e → s.heap.get? b = some u → h'.get? b = some u) (heo : ∃ u, h'.get? e = some u)
  (new : ObjOk X.prog X.w (upd H x o) h' x o) : Inv X pins σ (upd H x o) { s with heap := h', toks := t' } := I.un (Un.write mu he k heo) (I.hok.write mu he k heo new)
theorem Inv.pins_of {pins' : List (Addr × Obj)} (I : Inv X pins σ H s) (h : ∀ p ∈ pins', s.heap.get? p.1 = some p.2 ∧ H p.1 = none ∧ p.1 ≠ X.env.locals ∧ p.1 ∉ X.fs ∧ ∀ v, p.2.data ≠ .cell v) : Inv X pins' σ H s :=
 ⟨I.ok, I.os, I.bare, I.base, I.loc, I.cell, I.free, I.freeC, fun p hp => (List.mem_append.mp hp).elim (fun z => I.pin p (List.mem_append_left _ z)) (h p), I.hok, I.len⟩
theorem nodup_ix {N : List Str} (hN : N.Nodup) {i j : Nat} {x : Str} (a : N[i]? = some x) (b : N[j]? = some x) : i = j := by
 obtain ⟨h1, e1⟩ := List.getElem?_eq_some_iff.mp a
 obtain ⟨h2, e2⟩ := List.getElem?_eq_some_iff.mp b
 exact (List.getElem_inj hN).mp (e1.trans e2.symm)
theorem store_ok2 {M : Model} {A : Around} {E : Value → Shared → Prop} {i : Nat} {x : Str} {v : V} {u : Value} {Q : Unit → Shared → Prop} (I : Inv X pins σ H s) (hN : X.N.Nodup) (hi : X.N[i]? = some x) (hx : Loc X.env.scope x) (r : RelV v u)
  (h : ∀ s', Inv X pins (σ.set i (some v)) H s' → (∃ a, Heap.SameBut a s.heap s'.heap ∧ (a = X.env.locals ∨ X.env.cells.lookup x = some a)) → Q () s') (hf : X.fn x = true ∨ X.env.scope.names.lookup x = some .local := by first | exact .inl rfl | exact .inr rfl | assumption) : wpAny M A (storeName X.env x u) Q E s := by
 obtain ⟨m, hn, hl⟩ := id I.loc
 have hcls : (X.env.scope.kind == .class || (X.env.scope.kind == .module && X.env.locals != X.env.globals)) = false := by rw [I.ok.kind]; rfl
 have hiσ : i < σ.length := by rw [I.len]; exact (List.getElem?_eq_some_iff.mp hi).1
 have cne := I.cne
 have tracked : ∀ {a : Addr} {h' : Heap}, (∃ o, s.heap.get? a = some o ∧ H a = none) → Heap.SameBut a s.heap h' → HOk X.prog X.w H h' := fun {a h'} ha hs b ob e => by
  obtain ⟨_, _, hfree⟩ := ha
  refine (I.hok b ob e).stay (fun c w' hc q => (hs.2 c ?_).trans q) (fun _ q => q) fun _ _ q => q
  rintro rfl
  rcases hc with rfl | hc
  ·rw [hfree] at e; cases e
  ·rw [hfree] at hc; cases hc
 rcases hx with hk | hk
 ·refine wpAny_storeName_local hk hn (fun h' hn' hs => ?_) hcls
  obtain ⟨oL, _, _, hoL, _⟩ := id hn
  refine h _ ⟨I.ok, I.os, I.bare, ⟨fun b o e n hb hx => ?_, fun b o e n hb hx => ?_, I.base.free, fun b o e hx => ?_, I.base.tups, I.base.frzs, I.base.tbls⟩, ⟨_, hn', fun j y v' e1 e2 e3 => ?_⟩, fun y c e => ?_, I.free, I.freeC, fun p hp => ?_, tracked ⟨oL, hoL, I.free⟩ hs, by simpa using I.len⟩ ⟨_, hs, .inl rfl⟩
  ·exact (hs.2 b (Nat.ne_of_lt (Nat.lt_of_lt_of_le (Heap.lt_size e) I.ok.above))).trans (I.base.keep b o e n hb hx)
  ·obtain ⟨sl, e1⟩ := I.base.slot b o e n hb hx
   exact ⟨sl, (hs.2 b (Nat.ne_of_lt (Nat.lt_of_lt_of_le (Heap.lt_size e) I.ok.above))).trans e1⟩
  ·obtain ⟨o', e1⟩ := I.base.there b o e hx
   exact ⟨o', (hs.2 b (Nat.ne_of_lt (Nat.lt_of_lt_of_le (Heap.lt_size e) I.ok.above))).trans e1⟩
  ·by_cases hj : j = i
   ·subst hj
    rw [hi] at e1; cases e1
    rw [List.getElem?_set_self hiσ] at e2
    cases e2
    exact ⟨u, r, .inl ⟨hk, by simp⟩⟩
   ·rw [List.getElem?_set_ne (Ne.symm hj)] at e2
    obtain ⟨u', r', q⟩ := hl j y v' e1 e2 e3
    refine ⟨u', r', ?_⟩
    rcases q with ⟨k, e⟩ | ⟨k, c, e, z⟩
    ·refine .inl ⟨k, ?_⟩
     have : y ≠ x := fun e => hj (nodup_ix hN e1 (e ▸ hi))
     simp [this, e]
    ·exact .inr ⟨k, c, e, z.sameBut hs (cne y c e)⟩
  ·obtain ⟨w', z⟩ := I.cell y c e
   exact ⟨w', z.sameBut hs (cne y c e)⟩
  ·obtain ⟨e, n, ne, nf, d⟩ := I.pin p hp
   exact ⟨(hs.2 p.1 ne).trans e, n, ne, nf, d⟩
 ·have hfn : X.fn x = true := by
   rcases hf with z | z
   ·exact z
   ·rw [z] at hk; cases hk
  obtain ⟨c, hc⟩ := I.ok.has x (.inl hk)
  obtain ⟨w', z⟩ := I.cell x c hc
  refine wpAny_storeName_cell I.ok.kind hk hc z (fun h' hc' hs => ?_)
  obtain ⟨oc, hoc, hocd⟩ := id z
  refine h { s with heap := h' } ⟨I.ok, I.os, I.bare, ⟨fun b o e n hb hx => ?_, fun b o e n hb hx => ?_, I.base.free, fun b o e hx => ?_, I.base.tups, I.base.frzs, I.base.tbls⟩, ⟨m, hn.sameBut hs (Ne.symm (cne x c hc)), fun j y v' e1 e2 e3 => ?_⟩, fun y c' e => ?_, I.free, I.freeC, fun p hp => ?_, tracked ⟨oc, hoc, I.freeC x c hc⟩ hs, by simpa using I.len⟩ ⟨c, hs, .inr hc⟩
  ·exact (hs.2 b (Nat.ne_of_lt (Nat.lt_of_lt_of_le (Heap.lt_size e) (I.ok.cab x c hfn hc)))).trans (I.base.keep b o e n hb hx)
  ·obtain ⟨sl, e1⟩ := I.base.slot b o e n hb hx
   exact ⟨sl, (hs.2 b (Nat.ne_of_lt (Nat.lt_of_lt_of_le (Heap.lt_size e) (I.ok.cab x c hfn hc)))).trans e1⟩
  ·obtain ⟨o', e1⟩ := I.base.there b o e hx
   exact ⟨o', (hs.2 b (Nat.ne_of_lt (Nat.lt_of_lt_of_le (Heap.lt_size e) (I.ok.cab x c hfn hc)))).trans e1⟩
  ·by_cases hj : j = i
   ·subst hj
    rw [hi] at e1; cases e1
    rw [List.getElem?_set_self hiσ] at e2
    cases e2
    exact ⟨u, r, .inr ⟨.inl hk, c, hc, hc'⟩⟩
   ·rw [List.getElem?_set_ne (Ne.symm hj)] at e2
    obtain ⟨u', r', q⟩ := hl j y v' e1 e2 e3
    refine ⟨u', r', ?_⟩
    rcases q with q | ⟨k, c', e, z'⟩
    ·exact .inl q
    ·refine .inr ⟨k, c', e, z'.sameBut hs ?_⟩
     rintro rfl
     exact hj (nodup_ix hN e1 (I.ok.inj _ _ _ e hc ▸ hi))
  ·by_cases hcc : c' = c
   ·subst hcc; exact ⟨_, hc'⟩
   ·obtain ⟨w2, z2⟩ := I.cell y c' e
    exact ⟨w2, z2.sameBut hs hcc⟩
  ·obtain ⟨e, n, ne, nf, d⟩ := I.pin p hp
   refine ⟨(hs.2 p.1 ?_).trans e, n, ne, nf, d⟩
   intro q
   rw [q, hoc] at e
   have q' : oc = p.2 := Option.some.inj e
   exact d w' (by rw [← q']; exact hocd)
theorem store_ok {M : Model} {A : Around} {E : Value → Shared → Prop} {i : Nat} {x : Str} {v : V} {u : Value} {Q : Unit → Shared → Prop} (I : Inv X pins σ H s) (hN : X.N.Nodup) (hi : X.N[i]? = some x) (hx : Loc X.env.scope x) (r : RelV v u)
  (h : ∀ s', Inv X pins (σ.set i (some v)) H s' → Q () s') (hf : X.fn x = true ∨ X.env.scope.names.lookup x = some .local := by first | exact .inl rfl | exact .inr rfl | assumption) : wpAny M A (storeName X.env x u) Q E s :=
 store_ok2 I hN hi hx r (fun s' I' _ => h s' I') hf
theorem Inv.call' {s' : Shared} {ch : List Addr} (I : Inv X pins σ H s) (ho : s'.os = s.os) (u : Un (frs X.stack) ch H H' s.heap s'.heap) (hok : HOk X.prog X.w H' s'.heap) (hg : AllBare s'.gens)
  (hch : ∀ b ∈ ch, (b ∈ X.ex ∨ X.s₀.heap.objs.size ≤ b) ∧ b ≠ X.env.locals ∧ (∀ x c, X.env.cells.lookup x = some c → c ≠ b) ∧ ∀ p ∈ X.pn ++ pins, p.1 ≠ b) : Inv X pins σ H' s' := by
 obtain ⟨h', g', d', t', o'⟩ := s'
 have e : o' = s.os := ho
 subst e
 exact I.call (g' := g') (t' := t') (d' := d') u hok hg hch
end
abbrev XK := Value → Option Addr → Hp → Prop
abbrev St := List (Option V)
abbrev VK := V → Hp → Prop
abbrev TE := St → Hp → VK → Prop
abbrev TT := St → Hp → (Bool → Hp → Prop) → Prop
abbrev TA := St → Hp → (List V → Hp → Prop) → Prop
structure Ends where
 nx : St → Hp → Prop
 rt : VK
 bk : St → Hp → Prop := fun _ _ => False
 ct : St → Hp → Prop := fun _ _ => False
abbrev TS := Ends → St → Hp → Prop
def EP (X : Cx) (pins : List (Addr × Obj)) (σ : St) (Q : VK) (u : Value) (s' : Shared) : Prop := ∃ v H', Inv X pins σ H' s' ∧ RelV v u ∧ Q v H'
def TP (X : Cx) (pins : List (Addr × Obj)) (σ : St) (Q : Bool → Hp → Prop) (b : Bool) (s' : Shared) : Prop := ∃ H', Inv X pins σ H' s' ∧ Q b H'
def AP (X : Cx) (pins : List (Addr × Obj)) (σ : St) (Q : List V → Hp → Prop) (us : List Value) (s' : Shared) : Prop := ∃ vs H', Inv X pins σ H' s' ∧ zN vs us ∧ Q vs H'
def SP (X : Cx) (pins : List (Addr × Obj)) (D : Ends) (f : Flow) (s' : Shared) : Prop :=
 match f with
 | .next => ∃ σ' H', Inv X pins σ' H' s' ∧ D.nx σ' H'
 | .brk => ∃ σ' H', Inv X pins σ' H' s' ∧ D.bk σ' H'
 | .cont => ∃ σ' H', Inv X pins σ' H' s' ∧ D.ct σ' H'
 | .ret u => ∃ v σ' H', Inv X pins σ' H' s' ∧ RelV v u ∧ D.rt v H'
def PE (X : Cx) (e : Expr) (t : TE) : Prop :=
 ∀ (pins : List (Addr × Obj)) (s : Shared) (σ : St) (H : Hp) (Q : VK), Inv X pins σ H s → t σ H Q → wpAny (model X.prog X.w) X.A (eval e X.env) (EP X pins σ Q) X.xe s
def PT (X : Cx) (e : Expr) (t : TT) : Prop :=
 ∀ (pins : List (Addr × Obj)) (s : Shared) (σ : St) (H : Hp) (Q : Bool → Hp → Prop), Inv X pins σ H s → t σ H Q → wpAny (model X.prog X.w) X.A (isTrue e X.env (eval e X.env)) (TP X pins σ Q) X.xe s
def PW (X : Cx) (e : Expr) (t : TT) : Prop :=
 ∀ (whole : Sem Value) (pins : List (Addr × Obj)) (s : Shared) (σ : St) (H : Hp) (Q : Bool → Hp → Prop), Inv X pins σ H s → t σ H Q → wpAny (model X.prog X.w) X.A (isTrue e X.env whole) (TP X pins σ Q) X.xe s
theorem PW.pt {X : Cx} {e : Expr} {t : TT} (h : PW X e t) : PT X e t := h _
def PA (X : Cx) (es : List Expr) (t : TA) : Prop :=
 ∀ (pos : Pos) (pins : List (Addr × Obj)) (s : Shared) (σ : St) (H : Hp) (Q : List V → Hp → Prop), Inv X pins σ H s → t σ H Q → wpAny (model X.prog X.w) X.A (spliced (backTo pos (starEach es X.env))) (AP X pins σ Q) X.xe s
def PS (X : Cx) (st : Stmt) (t : TS) : Prop :=
 ∀ (pins : List (Addr × Obj)) (s : Shared) (σ : St) (H : Hp) (D : Ends), Inv X pins σ H s → t D σ H → wpAny (model X.prog X.w) X.A (exec st X.env) (SP X pins D) X.xe s
def PSs (X : Cx) (st : List Stmt) (t : TS) : Prop :=
 ∀ (pins : List (Addr × Obj)) (s : Shared) (σ : St) (H : Hp) (D : Ends), Inv X pins σ H s → t D σ H → wpAny (model X.prog X.w) X.A (execs st X.env) (SP X pins D) X.xe s
theorem thn {α : Type} {t : Sem α} {Q Q' : α → Shared → Prop} {M : Model} {A : Around} {E : Value → Shared → Prop} {s : Shared} (h : wpAny M A t Q E s) (hQ : ∀ a s, Q a s → Q' a s) : wpAny M A t Q' E s := wpAny_mono h hQ fun _ _ x => x
end L2
namespace L2
open PySem PySem.Spec PyProof.Rows
section
variable {X : Cx}
theorem bin {a b : Expr} {ta tb : TE} (ha : PE X a ta) (hb : PE X b tb) {pins : List (Addr × Obj)} {s : Shared} {σ : St} {H : Hp} {R : V → V → Hp → Prop} (I : Inv X pins σ H s) (h : ta σ H fun x H1 => tb σ H1 fun y H2 => R x y H2)
  {α : Type} {Q : α → Shared → Prop} {f : Value → Value → Sem α}
  (hf : ∀ v u s2 x y H2, Inv X pins σ H2 s2 → RelV x v → RelV y u → R x y H2 → wpAny (model X.prog X.w) X.A (f v u) Q X.xe s2) :
  wpAny (model X.prog X.w) X.A (eval a X.env) (fun v s₁ => wpAny (model X.prog X.w) X.A (eval b X.env) (fun u s₂ => wpAny (model X.prog X.w) X.A (f v u) Q X.xe s₂) X.xe s₁) X.xe s := by
 refine thn (ha pins s σ H _ I h) fun v s1 ⟨x, H1, I1, r1, q1⟩ => ?_
 refine thn (hb pins s1 σ H1 _ I1 q1) fun u s2 ⟨y, H2, I2, r2, q2⟩ => ?_
 exact hf v u s2 x y H2 I2 r1 r2 q2
def tVar (i : Nat) : TE := fun σ H Q => ∃ v, σ[i]? = some (some v) ∧ Q v H
def tC (v : V) : TE := fun _ H Q => Q v H
theorem pe_var {i : Nat} {x : Str} {pos : Pos} (hN : X.N[i]? = some x) (hv : Vis X.env.scope x) (hd : (x == ("__debug__" : Str)) = false := by decide) (hcd : (x == ("__classdict__" : Str)) = false := by decide) : PE X (.Name x pos) (tVar i) := by
 intro pins s σ H Q I h
 obtain ⟨v, e, h⟩ := h
 obtain ⟨m, hn, hl⟩ := I.loc
 obtain ⟨u, r, l⟩ := hl i x v hN e hv
 have fin : EP X pins σ Q u s := ⟨v, H, I, r, h⟩
 rcases l with ⟨hk, hm⟩ | ⟨hk, c, hc, hcell⟩
 ·exact wpAny_Name (wpAny_loadName_local I.ok.kind hk hn hm fin) hd
 ·rcases hk with hk | hk
  ·exact wpAny_Name (wpAny_loadName_cell I.ok.kind hk hc hcell fin) hd
  ·exact wpAny_Name (wpAny_loadName_free I.ok.kind hk hc hcell fin hcd) hd
theorem pe_int {i j pos} : PE X (.Constant (.int i) j pos) (tC (.int i)) := fun _ _ _ H _ I h => wpAny_Constant_int ⟨.int i, H, I.tok _, ⟨_, rfl⟩, h⟩
theorem pe_bl {b j pos} : PE X (.Constant (.bool b) j pos) (tC (.bl b)) := fun _ _ _ H _ I h => Constant_bool ⟨.bl b, H, I, rfl, h⟩
theorem pe_str {x j pos} : PE X (.Constant (.str x) j pos) (tC (.str x)) := fun _ _ _ H _ I h => Calls.Constant_str ⟨.str x, H, I.tok _, ⟨_, rfl⟩, h⟩
def Gl (X : Cx) (x : Str) : Prop := X.env.kindOf x = some .globalImplicit
theorem ld_glob {E : Value → Shared → Prop} {pins : List (Addr × Obj)} {s : Shared} {σ : St} {H : Hp} {x : Str} {u : Value} {pos : Pos} {Q : Value → Shared → Prop} (I : Inv X pins σ H s) (hg : Gl X x) (hm : X.mg x = some u) (h : Q u s)
  (hd : (x == ("__debug__" : Str)) = false := by decide) : wpAny (model X.prog X.w) X.A (eval (.Name x pos) X.env) Q E s :=
 Calls.Name_function_global I.ok.kind hg (Calls.loadGlobal_global (by rw [I.ok.glob]; exact I.mod.glob.keeps I.bk) hm h) hd
theorem ld_blt {E : Value → Shared → Prop} {pins : List (Addr × Obj)} {s : Shared} {σ : St} {H : Hp} {x : Str} {u : Value} {pos : Pos} {Q : Value → Shared → Prop} (I : Inv X pins σ H s) (hg : Gl X x) (hm : X.mg x = none) (hv : bootBuiltins x = some u) (h : Q u s)
  (hn : x ≠ "__name__" := by decide) (hd : (x == ("__debug__" : Str)) = false := by decide) : wpAny (model X.prog X.w) X.A (eval (.Name x pos) X.env) Q E s := by
 obtain ⟨mb, h1, h2⟩ := I.mod.blt
 exact Calls.Name_function_global I.ok.kind hg (Calls.loadGlobal_builtin (by rw [I.ok.glob]; exact I.mod.glob.keeps I.bk) hm (by rw [I.ok.blt]; exact h1.keeps I.bk) ((h2 x hn).trans hv) h) hd
theorem pe_glob {x : Str} {v : V} {u : Value} {pos : Pos} (hg : Gl X x) (hm : X.mg x = some u) (r : RelV v u) (hd : (x == ("__debug__" : Str)) = false := by decide) : PE X (.Name x pos) (tC v) :=
 fun _ _ _ H _ I h => ld_glob I hg hm ⟨v, H, I, r, h⟩ hd
theorem pe_bltn {x : Str} {v : V} {u : Value} {pos : Pos} (hg : Gl X x) (hm : X.mg x = none) (hv : bootBuiltins x = some u) (r : RelV v u) (hn : x ≠ "__name__" := by decide) (hd : (x == ("__debug__" : Str)) = false := by decide) : PE X (.Name x pos) (tC v) :=
 fun _ _ _ H _ I h => ld_blt I hg hm hv ⟨v, H, I, r, h⟩ hn hd
variable {a b : Expr} {ta tb : TE} {pos : Pos}
def PC (X : Cx) (op : CmpOp) (a b : Expr) (t : TE) : Prop :=
 ∀ (pins : List (Addr × Obj)) (s : Shared) (σ : St) (H : Hp) (Q : VK), Inv X pins σ H s → t σ H Q →
  wpAny (model X.prog X.w) X.A (eval a X.env) (fun v s₁ => wpAny (model X.prog X.w) X.A (eval b X.env) (fun u s₂ => wpAny (model X.prog X.w) X.A (compareOp op v u) (EP X pins σ Q) X.xe s₂) X.xe s₁) X.xe s
theorem nobehind (b : Expr) {op : CmpOp} (h : op ≠ .In) (h2 : op ≠ .NotIn) : behindInMarks op b = false := by
 have e1 : (op == CmpOp.In) = false := by cases op <;> first | rfl | exact absurd rfl h
 have e2 : (op == CmpOp.NotIn) = false := by cases op <;> first | rfl | exact absurd rfl h2
 cases b <;> simp [behindInMarks, e1, e2]
def tB (t : TE) : TT := fun σ H Q => t σ H fun x H1 => ∃ c, x = .bl c ∧ Q c H1
theorem pt_cmp {op : CmpOp} {t : TE} (h : PC X op a b t) (h1 : behindInMarks op b = false := by first | exact nobehind _ (by decide) (by decide) | rfl) : PT X (.Compare a [op] [b] pos) (tB t) := by
 intro pins s σ H Q I hw
 refine wpAny_isTrue_Compare1 (thn (h pins s σ H _ I hw) fun v s1 h1 => thn h1 fun u s2 h2 => thn h2 fun c s3 ⟨x, H1, I1, r1, q1⟩ => ?_) h1
 obtain ⟨d, rfl, q⟩ := q1
 cases r1
 exact wpAny_truthy_bool ⟨H1, I1, q⟩
theorem pt_val {e : Expr} {t : TE} (h : PE X e t) (he : ∀ whole, isTrue e X.env whole = (do let v ← whole; standAt e.pos; holding [v] (truthy v)) := by intro _; rfl) : PT X e (tB t) := by
 intro pins s σ H Q I hw
 refine isTrue_plain (thn (h pins s σ H _ I hw) fun v s1 ⟨x, H1, I1, r1, q1⟩ => ?_) (he _)
 obtain ⟨d, rfl, q⟩ := q1
 cases r1
 exact wpAny_truthy_bool ⟨H1, I1, q⟩
variable {tA tB' : TT} {rest : List Expr}
def tAnd (t u : TT) : TT := fun σ H Q => t σ H fun c H1 => if c = true then u σ H1 Q else Q false H1
def tOr (t u : TT) : TT := fun σ H Q => t σ H fun c H1 => if c = true then Q true H1 else u σ H1 Q
def tNot (t : TT) : TT := fun σ H Q => t σ H fun c H1 => Q (!c) H1
theorem pw_and1 (ha : PT X a tA) : PW X (.BoolOp .And [a] pos) tA := by
 intro wh pins s σ H Q I h
 refine isTrue_and (thn (ha pins s σ H Q I h) fun c s1 e => ?_)
 cases c with
 | true => exact isTrue_and_nil e
 | false => exact e
theorem pw_or1 (ha : PT X a tA) : PW X (.BoolOp .Or [a] pos) tA := by
 intro wh pins s σ H Q I h
 refine isTrue_or (thn (ha pins s σ H Q I h) fun c s1 e => ?_)
 cases c with
 | false => exact isTrue_or_nil e
 | true => exact e
theorem pw_and (ha : PT X a tA) (hb : PW X (.BoolOp .And (b :: rest) pos) tB') : PW X (.BoolOp .And (a :: b :: rest) pos) (tAnd tA tB') := by
 intro wh pins s σ H Q I h
 refine isTrue_and (thn (ha pins s σ H _ I h) fun c s1 ⟨H1, I1, q1⟩ => ?_)
 cases c with
 | true => exact hb wh pins s1 σ H1 Q I1 q1
 | false => exact ⟨H1, I1, q1⟩
theorem pw_or (ha : PT X a tA) (hb : PW X (.BoolOp .Or (b :: rest) pos) tB') : PW X (.BoolOp .Or (a :: b :: rest) pos) (tOr tA tB') := by
 intro wh pins s σ H Q I h
 refine isTrue_or (thn (ha pins s σ H _ I h) fun c s1 ⟨H1, I1, q1⟩ => ?_)
 cases c with
 | true => exact ⟨H1, I1, q1⟩
 | false => exact hb wh pins s1 σ H1 Q I1 q1
theorem pt_not (ha : PT X a tA) : PT X (.UnaryOp .Not a pos) (tNot tA) := by
 intro pins s σ H Q I h
 exact isTrue_not (ha pins s σ H (fun c H1 => Q (!c) H1) I h)
def tAndV (ta tb : TE) : TE := fun σ H Q => ta σ H fun x H1 => ∃ c, x = .bl c ∧ if c = true then tb σ H1 Q else Q (.bl false) H1
theorem pe_one {op} {t : TE} (h : PE X a t) : PE X (.BoolOp op [a] pos) t := fun pins s σ H Q I hw => BoolOp_one (h pins s σ H Q I hw)
theorem pe_and (ha : PE X a ta) (hb : PE X (.BoolOp .And (b :: rest) pos) tb) : PE X (.BoolOp .And (a :: b :: rest) pos) (tAndV ta tb) := by
 intro pins s σ H Q I h
 refine BoolOp_and (thn (ha pins s σ H _ I h) fun v s1 ⟨x, H1, I1, r1, q1⟩ => ?_)
 obtain ⟨c, rfl, q1⟩ := q1
 cases r1
 refine wpAny_truthy_bool ?_
 cases c with
 | true => exact hb pins s1 σ H1 Q I1 q1
 | false => exact ⟨.bl false, H1, I1, rfl, q1⟩
end
end L2
namespace L2
open PySem PySem.Spec PyProof.Rows
def SqL (K : PySem.W.Frag) (H : Hp) (a : Addr) (xs : List V) : Prop :=
 Rd H a (.lst xs) ∨
  ∃ (o : Obj) (its : Array Value) (n : Nat), K.lookup a = some o ∧ o.cls = .type "list" ∧ o.dict = none ∧ o.data = .seq its n ∧ its.size ≤ sizeLine ∧ zN xs its.toList
def SqT (K : PySem.W.Frag) (H : Hp) (a : Addr) (xs : List V) : Prop :=
 Rd H a (.tup xs) ∨
  ∃ (o : Obj) (its : Array Value) (n : Nat), K.lookup a = some o ∧ o.cls = .type "tuple" ∧ o.data = .seq its n ∧ its.size ≤ sizeLine ∧ zN xs its.toList
def absV : Value → Option V
 | .none => some .non
 | .bool b => some (.bl b)
 | .int i _ => some (.int i)
 | .str x _ => some (.str x)
 | .bytes b _ => some (.byt b)
 | .float b _ => some (.flt b)
 | .ref a => some (.ref a)
 | .type n => some (.ty n)
 | _ => none
theorem RelV.abs {x : V} {u : Value} (r : RelV x u) : absV u = some x := by
 cases x with
 | non => cases r; rfl
 | bl _ => cases r; rfl
 | int _ => obtain ⟨t, rfl⟩ := r; rfl
 | str _ => obtain ⟨t, rfl⟩ := r; rfl
 | byt _ => obtain ⟨t, rfl⟩ := r; rfl
 | flt _ => obtain ⟨t, rfl⟩ := r; rfl
 | ref _ => cases r; rfl
 | ty _ => cases r; rfl
theorem RelV.inj {x y : V} {u : Value} (r : RelV x u) (q : RelV y u) : x = y := Option.some.inj (r.abs.symm.trans q.abs)
theorem zN.inj : ∀ {xs ys : List V} {us : List Value}, zN xs us → zN ys us → xs = ys
 | _, _, _, .nil, .nil => rfl
 | _, _, _, .cons r t, .cons r' t' => by rw [r.inj r', zN.inj t t']
section
variable {X : Cx} {pins : List (Addr × Obj)} {σ : St} {H : Hp} {s : Shared} {a : Addr} {xs ys : List V}
theorem Inv.list (I : Inv X pins σ H s) (h : SqL X.K H a xs) : ∃ its : List Value, zN xs its ∧ PlainL s.heap a its.toArray ∧ xs.length ≤ sizeLine := by
 rcases h with h | ⟨o, its, n, hk, hc, hd, hs, hz, r⟩
 ·obtain ⟨z, its, n, r, e⟩ := h.ok I.hok
  exact ⟨its, r, ⟨_, n, e, rfl, rfl, rfl⟩, z⟩
 ·refine ⟨its.toList, r, ⟨o, n, I.kIn a o hk, hc, hd, by simpa using hs⟩, ?_⟩
  have e := r.length
  simp only [Array.length_toList] at e
  omega
theorem Inv.tuple (I : Inv X pins σ H s) (h : SqT X.K H a xs) : ∃ its : List Value, zN xs its ∧ IsTup s.heap a its.toArray ∧ xs.length ≤ sizeLine := by
 rcases h with h | ⟨o, its, n, hk, hc, hs, hz, r⟩
 ·obtain ⟨z, its, r, p⟩ := h.ok I.hok
  exact ⟨its, r, p, z⟩
 ·refine ⟨its.toList, r, ⟨o, I.kIn a o hk, hc, n, by simpa using hs⟩, ?_⟩
  have e := r.length
  simp only [Array.length_toList] at e
  omega
theorem Inv.list_inj (I : Inv X pins σ H s) (h : SqL X.K H a xs) (h' : SqL X.K H a ys) : xs = ys := by
 obtain ⟨its, r, ⟨o, n, e, _, _, d⟩, _⟩ := I.list h
 obtain ⟨its', r', ⟨o', n', e', _, _, d'⟩, _⟩ := I.list h'
 rw [e] at e'; cases e'
 rw [d] at d'
 injection d' with d1 _
 have : its = its' := by simpa using congrArg Array.toList d1
 subst this
 exact r.inj r'
theorem Inv.tuple_inj (I : Inv X pins σ H s) (h : SqT X.K H a xs) (h' : SqT X.K H a ys) : xs = ys := by
 obtain ⟨its, r, ⟨o, e, _, n, d⟩, _⟩ := I.tuple h
 obtain ⟨its', r', ⟨o', e', _, n', d'⟩, _⟩ := I.tuple h'
 rw [e] at e'; cases e'
 rw [d] at d'
 injection d' with d1 _
 have : its = its' := by simpa using congrArg Array.toList d1
 subst this
 exact r.inj r'
end
abbrev Cx.wish (X : Cx) (E : Value → Shared → Prop) : Cx := { X with xe := E }
abbrev Cx.nox (X : Cx) : Cx := X.wish fun _ _ => False
theorem Cx.Ok.wish {X : Cx} (ok : X.Ok) (E : Value → Shared → Prop) : (X.wish E).Ok :=
 ⟨ok.mod, ok.kind, ok.glob, ok.blt, ok.above, ok.inj, ok.has, ok.cab, ok.hd, ok.frames, ok.stk, ok.exf, ok.bs, ok.bsz, ok.noex, ok.exfs, ok.funs, ok.frf, ok.top, ok.tree⟩
theorem Cx.Ok.unwish {X : Cx} {E : Value → Shared → Prop} (ok : (X.wish E).Ok) : X.Ok :=
 ⟨ok.mod, ok.kind, ok.glob, ok.blt, ok.above, ok.inj, ok.has, ok.cab, ok.hd, ok.frames, ok.stk, ok.exf, ok.bs, ok.bsz, ok.noex, ok.exfs, ok.funs, ok.frf, ok.top, ok.tree⟩
section
variable {X : Cx} {pins : List (Addr × Obj)} {σ : St} {H : Hp} {s : Shared} {E : Value → Shared → Prop}
theorem Inv.wish (I : Inv X pins σ H s) (E : Value → Shared → Prop) : Inv (X.wish E) pins σ H s := ⟨I.ok.wish E, I.os, I.bare, I.base, I.loc, I.cell, I.free, I.freeC, I.pin, I.hok, I.len⟩
theorem Inv.unwish (I : Inv (X.wish E) pins σ H s) : Inv X pins σ H s := ⟨I.ok.unwish, I.os, I.bare, I.base, I.loc, I.cell, I.free, I.freeC, I.pin, I.hok, I.len⟩
theorem SP.unwish {D : Ends} {f : Flow} {s' : Shared} (h : SP (X.wish E) pins D f s') : SP X pins D f s' := by
 cases f with
 | next => obtain ⟨σ', H', I, q⟩ := h; exact ⟨σ', H', I.unwish, q⟩
 | brk => obtain ⟨σ', H', I, q⟩ := h; exact ⟨σ', H', I.unwish, q⟩
 | cont => obtain ⟨σ', H', I, q⟩ := h; exact ⟨σ', H', I.unwish, q⟩
 | ret u => obtain ⟨v, σ', H', I, r, q⟩ := h; exact ⟨v, σ', H', I.unwish, r, q⟩
theorem PE.nox {e : Expr} {t : TE} (h : PE X.nox e t) : PE X e t := fun pins s σ H Q I hw =>
 wpAny_mono (h pins s σ H Q (I.wish _) hw) (fun _ _ ⟨v, H', I', r, q⟩ => ⟨v, H', I'.unwish, r, q⟩) fun _ _ z => False.elim z
theorem PT.nox {e : Expr} {t : TT} (h : PT X.nox e t) : PT X e t := fun pins s σ H Q I hw =>
 wpAny_mono (h pins s σ H Q (I.wish _) hw) (fun _ _ ⟨H', I', q⟩ => ⟨H', I'.unwish, q⟩) fun _ _ z => False.elim z
theorem PSs.nox {st : List Stmt} {t : TS} (h : PSs X.nox st t) : PSs X st t := fun pins s σ H D I hw =>
 wpAny_mono (h pins s σ H D (I.wish _) hw) (fun _ _ q => q.unwish) fun _ _ z => False.elim z
end
section
variable {X : Cx} {st : Stmt} {rest : List Stmt} {t u : TS} {e : Expr} {te : TE} {pos : Pos}
def tNext : TS := fun D σ H => D.nx σ H
def tSeq (t u : TS) : TS := fun D σ H => t { D with nx := u D } σ H
theorem pss_nil : PSs X [] tNext := fun _ _ σ H _ I h => wpAny_execs_nil ⟨σ, H, I, h⟩
theorem pss_cons (h1 : PS X st t) (h2 : PSs X rest u) : PSs X (st :: rest) (tSeq t u) := by
 intro pins s σ H D I h
 refine wpAny_execs_cons (thn (h1 pins s σ H { D with nx := u D } I h) fun f s1 q => ?_)
 cases f with
 | next =>
  obtain ⟨σ', H', I', q⟩ := q
  exact h2 pins s1 σ' H' D I' q
 | ret v => exact q
 | brk => exact q
 | cont => exact q
theorem pss_one (h1 : PS X st t) : PSs X [st] t := by
 intro pins s σ H D I h
 refine wpAny_execs_cons (thn (h1 pins s σ H D I h) fun f s1 q => ?_)
 cases f with
 | next => exact wpAny_execs_nil q
 | ret v => exact q
 | brk => exact q
 | cont => exact q
theorem Inv.quiet {pins : List (Addr × Obj)} {σ : St} {H : Hp} {s : Shared} (I : Inv X pins σ H s) : interactive X.env = false := by simp [interactive, I.ok.kind]
def tDrop (te : TE) : TS := fun D σ H => te σ H fun _ H1 => D.nx σ H1
theorem ps_expr (he : PE X e te) (hs : swapsWith e none pos.line X.env = pure false := by rfl) : PS X (.Expr e pos) (tDrop te) := by
 intro pins s σ H D I h
 exact wpAny_Expr_any (thn (he pins s σ H _ I h) fun v s1 ⟨x, H1, I1, r1, q1⟩ => ⟨σ, H1, I1, q1⟩) I.quiet hs
def tRet (te : TE) : TS := fun D σ H => te σ H D.rt
theorem ps_ret (he : PE X e te) : PS X (.Return (some e) pos) (tRet te) := by
 intro pins s σ H D I h
 exact wpAny_Return_some (thn (he pins s σ H _ I h) fun v s1 ⟨x, H1, I1, r1, q1⟩ => ⟨x, σ, H1, I1, r1, q1⟩)
def tIfS (c : TT) (t u : TS) : TS := fun D σ H => c σ H fun b H1 => if b = true then t D σ H1 else u D σ H1
theorem ps_if {c : Expr} {a b : List Stmt} {tc : TT} (hc : PT X c tc) (ha : PSs X a t) (hb : PSs X b u) : PS X (.If c a b pos) (tIfS tc t u) := by
 intro pins s σ H D I h
 refine wpAny_If (thn (hc pins s σ H _ I h) fun d s1 ⟨H1, I1, q1⟩ => ?_)
 cases d with
 | true => exact ha pins s1 σ H1 D I1 q1
 | false => exact hb pins s1 σ H1 D I1 q1
end
abbrev TG := V → St → Hp → (St → Hp → Prop) → Prop
abbrev TGs := List V → St → Hp → (St → Hp → Prop) → Prop
def PG (X : Cx) (target : Expr) (t : TG) : Prop :=
 ∀ (pins : List (Addr × Obj)) (s : Shared) (σ : St) (H : Hp) (v : V) (u : Value) (Q : St → Hp → Prop), Inv X pins σ H s → RelV v u → t v σ H Q →
  wpAny (model X.prog X.w) X.A (assign target X.env u) (fun _ s' => ∃ σ' H', Inv X pins σ' H' s' ∧ Q σ' H') X.xe s
def PGs (X : Cx) (ts : List Expr) (t : TGs) : Prop :=
 ∀ (pins : List (Addr × Obj)) (s : Shared) (σ : St) (H : Hp) (vs : List V) (us : List Value) (Q : St → Hp → Prop), Inv X pins σ H s → zN vs us → t vs σ H Q →
  wpAny (model X.prog X.w) X.A (assignInOrder ((assignEach ts X.env).map (·.2)) us) (fun _ s' => ∃ σ' H', Inv X pins σ' H' s' ∧ Q σ' H') X.xe s
abbrev TSet := V → V → V → Hp → (Hp → Prop) → Prop
def PSet (X : Cx) (t : TSet) : Prop :=
 ∀ (pins : List (Addr × Obj)) (s : Shared) (σ : St) (H : Hp) (o i v : V) (ov iv u : Value) (Q : Hp → Prop), Inv X pins σ H s → RelV o ov → RelV i iv → RelV v u → t o i v H Q →
  wpAny (model X.prog X.w) X.A (setItem ov iv u) (fun _ s' => ∃ H', Inv X pins σ H' s' ∧ Q H') X.xe s
section
variable {X : Cx} {pos : Pos}
def gName (i : Nat) : TG := fun v σ H Q => Q (σ.set i (some v)) H
theorem pg_name {i : Nat} {x : Str} (hN : X.N.Nodup) (hi : X.N[i]? = some x) (hx : Loc X.env.scope x) (hf : X.fn x = true ∨ X.env.scope.names.lookup x = some .local := by first | exact .inl rfl | exact .inr rfl | assumption) : PG X (.Name x pos) (gName i) := by
 intro pins s σ H v u Q I r h
 exact wpAny_assign_Name (store_ok I hN hi hx r (fun s' I' => ⟨_, H, I', h⟩) hf)
def gNil : TGs := fun vs σ H Q => vs = [] ∧ Q σ H
def gCons (t : TG) (u : TGs) : TGs := fun vs σ H Q => ∃ v r, vs = v :: r ∧ t v σ H fun σ' H' => u r σ' H' Q
theorem pgs_nil : PGs X [] gNil := by
 intro pins s σ H vs us Q I r h
 obtain ⟨e, h⟩ := h
 subst e
 cases r
 exact assignInOrder_nil ⟨σ, H, I, h⟩
theorem pgs_cons {e : Expr} {es : List Expr} {t : TG} {u : TGs} (h1 : PG X e t) (h2 : PGs X es u)
  (hs : (assignEach (e :: es) X.env).map (·.2) = assign e X.env :: (assignEach es X.env).map (·.2) := by rfl) : PGs X (e :: es) (gCons t u) := by
 intro pins s σ H vs us Q I r h
 obtain ⟨v, vr, e1, h⟩ := h
 subst e1
 cases r with
 | cons r rr =>
  rw [hs]
  refine assignInOrder_cons (thn (h1 pins s σ H _ _ _ I r h) fun _ s1 ⟨σ1, H1, I1, q1⟩ => ?_)
  exact h2 pins s1 σ1 H1 _ _ Q I1 rr q1
def gTup (K : PySem.W.Frag) (n : Nat) (t : TGs) : TG := fun v σ H Q => ∃ a xs, v = .ref a ∧ SqT K H a xs ∧ xs.length = n ∧ t xs σ H Q
theorem pg_tup {es : List Expr} {k : Nat} {t : TGs} {n : Nat} (hc : X.calm = true) (h : PGs X es t)
  (hn : (assignEach es X.env).length = n := by rfl) (hst : (assignEach es X.env).findIdx? (·.1) = none := by rfl) : PG X (.Tuple es k pos) (gTup X.K n t) := by
 intro pins s σ H v u Q I r hw
 obtain ⟨a, xs, e1, hq, hl, hw⟩ := hw
 subst e1
 cases r
 obtain ⟨its, rv, ht, hz⟩ := I.tuple hq
 refine assign_Tuple_tuple (I.ok.hd hc) ht (by simp [hn, ← hl, rv.length]) hst fun h' hx => ?_
 have I1 : Inv X pins σ H { s with heap := h' } := I.kept (t' := s.toks) fun b o e => hx b o (Nat.ne_of_lt (Heap.lt_size e)) e
 exact h pins _ σ H xs _ Q I1 (by simpa using rv) hw
def gSub (to ti : TE) (t : TSet) : TG := fun v σ H Q => to σ H fun o H1 => ti σ H1 fun i H2 => t o i v H2 fun H3 => Q σ H3
theorem pg_sub {o i : Expr} {to ti : TE} {t : TSet} (ho : PE X o to) (hi : PE X i ti) (hs : PSet X t)
  (ha : ∀ v, assign (.Subscript o i pos) X.env v = (do
   let ov ← holding [v] (eval o X.env)
   let iv ← holding [v, ov] (eval i X.env)
   standAt pos
   holding [v, ov, iv] (setItem ov iv v)
   release [v, ov, iv] []) := by intro _; rfl) : PG X (.Subscript o i pos) (gSub to ti t) := by
 intro pins s σ H v u Q I r h
 rw [ha]
 refine wpAny_bind (wpAny_holding (thn (ho pins s σ H _ I h) fun ov s1 ⟨x, H1, I1, r1, q1⟩ => ?_))
 refine wpAny_bind (wpAny_holding (thn (hi pins s1 σ H1 _ I1 q1) fun iv s2 ⟨y, H2, I2, r2, q2⟩ => ?_))
 refine wpAny_bind (wpAny_standAt (wpAny_bind (wpAny_holding (thn (hs pins s2 σ H2 x y v ov iv u _ I2 r1 r2 r q2) fun _ s3 ⟨H3, I3, q3⟩ => ?_))))
 exact wpAny_release ⟨σ, H3, I3, q3⟩
def tAsg (te : TE) (g : TG) : TS := fun D σ H => te σ H fun x H1 => g x σ H1 D.nx
theorem ps_asg {tg e : Expr} {te : TE} {g : TG} (he : PE X e te) (hg : PG X tg g) (hs : swapsWithSole [tg] e pos.line X.env = pure false := by rfl) (hw : swappedStores [tg] e X.env = pure none := by rfl)
  (h1 : (assignEach [tg] X.env).map (·.2) = [assign tg X.env] := by rfl) : PS X (.Assign [tg] e pos) (tAsg te g) := by
 intro pins s σ H D I h
 refine wpAny_Assign_stores (thn (he pins s σ H _ I h) fun v s1 ⟨x, H1, I1, r1, q1⟩ => ?_) hs hw
 rw [h1]
 exact thn (hg pins s1 σ H1 x v _ I1 r1 q1) fun _ s2 q => q
theorem ps_set {i : Nat} {x : Str} {e : Expr} {te : TE} {pos' : Pos} (hN : X.N.Nodup) (hi : X.N[i]? = some x) (hx : Loc X.env.scope x) (he : PE X e te) (hs : swapsWith e (some (.Name x pos')) pos.line X.env = pure false := by rfl) (hf : X.fn x = true ∨ X.env.scope.names.lookup x = some .local := by first | exact .inl rfl | exact .inr rfl | assumption) :
  PS X (.Assign [.Name x pos'] e pos) (tAsg te (gName i)) := by
 intro pins s σ H D I h
 refine wpAny_Assign_Name (thn (he pins s σ H _ I h) fun v s1 ⟨y, H1, I1, r1, q1⟩ => ?_) hs
 exact store_ok I1 hN hi hx r1 (fun s2 I2 => ⟨_, H1, I2, q1⟩) hf
end
section
variable {X : Cx} {pos : Pos}
end
structure It where
 go : Nat → Hp → Prop
 yld : Nat → Hp → V → Hp → Prop
 stop : Nat → Hp → Prop
def FpOk (X : Cx) (pins : List (Addr × Obj)) (H : Hp) (b : Addr) : Prop :=
 H b = none ∧ b ≠ X.env.locals ∧ b ∉ X.fs ∧ (b ∈ X.ex ∨ X.s₀.heap.objs.size ≤ b) ∧ (∀ x c, X.env.cells.lookup x = some c → c ≠ b) ∧ ∀ p ∈ X.pn ++ pins, p.1 ≠ b
theorem Inv.fpOk {X : Cx} {pins : List (Addr × Obj)} {σ : St} {H H' : Hp} {s : Shared} {b : Addr} (I : Inv X pins σ H s) (hb : s.heap.objs.size ≤ b) (hn : H' b = none) : FpOk X pins H' b := by
 refine ⟨hn, Nat.ne_of_gt (Nat.lt_of_lt_of_le I.lt hb), I.nofs hb, .inr (Nat.le_trans I.sz hb), fun x c e z => ?_, fun p hp z => ?_⟩
 ·obtain ⟨v, q⟩ := I.cell x c e
  exact absurd (Nat.lt_of_lt_of_le q.lt (by rw [z]; exact hb)) (Nat.lt_irrefl _)
 ·exact absurd (Nat.lt_of_lt_of_le (Heap.lt_size (I.pin p hp).1) (by rw [z]; exact hb)) (Nat.lt_irrefl _)
structure Turn (P : Program) (w : World) (K : PySem.W.Frag) (tg : Expr) (J : It) (fp : List Addr) (it : Addr) (tn : Nat → Heap → Prop) : Prop where
 mem : it ∈ fp
 obj : ∀ i h, tn i h → ∀ b ∈ fp, ∃ o, h.get? b = some o ∧ ∀ v, o.data ≠ .cell v
 keep : ∀ i h h', tn i h → (∀ b ∈ fp, ∀ o, h.get? b = some o → h'.get? b = some o) → tn i h'
 item : ∀ (X : Cx), X.prog = P → X.w = w → X.K = K → X.calm = true → ∀ (i : Nat) (pins : List (Addr × Obj)) (s : Shared) (σ : St) (H : Hp) (E : Value → Shared → Prop), Inv X pins σ H s → (∀ b ∈ fp, FpOk X pins H b) → tn i s.heap → J.go i H →
  wpAny (model P w) X.A (pyNext (.ref it)) (fun r s1 => ∃ u, r = some u ∧
   wpAny (model P w) X.A (letOwnedTupleGo tg (.ref it) u) (fun _ s2 => ∃ x H', Inv X pins σ H' s2 ∧ RelV x u ∧ J.yld i H x H' ∧ tn (i + 1) s2.heap ∧ ∀ b ∈ fp, H' b = none) E s1) E s
 done : ∀ (X : Cx), X.prog = P → X.w = w → X.K = K → X.calm = true → ∀ (i : Nat) (pins : List (Addr × Obj)) (s : Shared) (σ : St) (H : Hp) (E : Value → Shared → Prop), Inv X pins σ H s → (∀ b ∈ fp, FpOk X pins H b) → tn i s.heap → J.stop i H →
  wpAny (model P w) X.A (pyNext (.ref it)) (fun r s1 => r = none ∧ Inv X pins σ H s1) E s
 self : ∀ (A : Around) (i : Nat) (s : Shared) (Q : Value → Shared → Prop) (E : Value → Shared → Prop), tn i s.heap → Q (.ref it) s → wpAny (model P w) A (pyIter (.ref it)) Q E s
abbrev TI := St → Hp → (It → Hp → Prop) → Prop
def PIE (X : Cx) (pins : List (Addr × Obj)) (σ : St) (tg : Expr) (R : It → Hp → Prop) (itv : Value) (s2 : Shared) : Prop :=
 ∃ (it : Addr) (fp : List Addr) (tn : Nat → Heap → Prop) (J : It) (H' : Hp), itv = .ref it ∧ Inv X pins σ H' s2 ∧ Turn X.prog X.w X.K tg J fp it tn ∧ tn 0 s2.heap ∧ (∀ b ∈ fp, FpOk X pins H' b) ∧ R J H'
def PI (X : Cx) (tg iter : Expr) (wi : TI) : Prop :=
 ∀ (pins : List (Addr × Obj)) (s : Shared) (σ : St) (H : Hp) (R : It → Hp → Prop), Inv X pins σ H s → wi σ H R →
  wpAny (model X.prog X.w) X.A (eval iter X.env) (fun v s1 => wpAny (model X.prog X.w) X.A (pyIter v) (PIE X pins σ tg R) X.xe s1) X.xe s
theorem go_of {M : Model} {A : Around} {E : Value → Shared → Prop} {s : Shared} {tg : Expr} {it : Addr} {u : Value} {o : Obj} {n : String} {vs : Array Value} {Q : Unit → Shared → Prop} (ho : s.heap.get? it = some o) (hc : o.cls = .type n) (hd : o.data = .fields vs)
    (hn : ["enumerate", "zip", "dict_itemiterator", "dict_reverseitemiterator", "odict_iterator", "itertools.zip_longest", "itertools.pairwise"].contains n = false) (hQ : Q () s) : wpAny M A (letOwnedTupleGo tg (.ref it) u) Q E s := by
  unfold letOwnedTupleGo
  cases tg <;> first
    | exact wpAny_pure hQ
    | (cases u <;> first
        | exact wpAny_pure hQ
        | (refine wpAny_bind (wpAny_load ho ?_)
           rw [hc, hd]
           show wpAny M A (if (["enumerate", "zip", "dict_itemiterator", "dict_reverseitemiterator", "odict_iterator", "itertools.zip_longest", "itertools.pairwise"].contains n && vs[0]? == some (rawInt _)) = true then _ else _) Q E s
           rw [if_neg (by intro h; rw [hn, Bool.false_and] at h; cases h)]
           exact wpAny_pure hQ))
def Itl (K : PySem.W.Frag) (a : Addr) : It :=
 ⟨fun i H => ∃ xs x, SqL K H a xs ∧ xs[i]? = some x, fun i H x H' => H' = H ∧ ∀ xs, SqL K H a xs → xs[i]? = some x, fun i H => ∃ xs, SqL K H a xs ∧ xs.length ≤ i⟩
def Itt (K : PySem.W.Frag) (a : Addr) : It :=
 ⟨fun i H => ∃ xs x, SqT K H a xs ∧ xs[i]? = some x, fun i H x H' => H' = H ∧ ∀ xs, SqT K H a xs → xs[i]? = some x, fun i H => ∃ xs, SqT K H a xs ∧ xs.length ≤ i⟩
def Itr (lo : Int) (n : Nat) : It := ⟨fun i _ => i < n, fun i H x H' => H' = H ∧ x = .int (lo + i), fun i _ => n ≤ i⟩
theorem turn_list {P : Program} {w : World} {K : PySem.W.Frag} {tg : Expr} (a it : Addr) : Turn P w K tg (Itl K a) [it] it (fun i h => h.IsListIter it a i) where
 mem := by simp
 obj := fun i h st b hb => by
  have e : b = it := by simpa using hb
  subst e
  obtain ⟨o, e, c, d⟩ := st
  exact ⟨o, e, fun v z => by rw [d] at z; cases z⟩
 keep := fun i h h' st k => st.at fun o e => k it (by simp) o e
 item := by
  intro X hP hw hK hc i pins s σ H E I hf st hg
  subst hP hw hK
  obtain ⟨xs, x, hq, hx⟩ := hg
  obtain ⟨its, rv, p, hz⟩ := I.list hq
  obtain ⟨u, hu, ru⟩ := rv.get hx
  obtain ⟨f0, f1, f2, f3, f4, f5⟩ := hf it (by simp)
  refine wpAny_pyNext_list_item st p.isList (x := u) (by simpa using hu) fun h' st' sb => ?_
  have I1 : Inv X pins σ H { s with heap := h' } := I.turned (t' := s.toks) (fun b o hb e => (sb.2 b hb).trans e) f0 f1 f3 f4 f5
  obtain ⟨o, e, c, d⟩ := id st'
  exact ⟨u, rfl, go_of (s := { s with heap := h' }) e c d (by decide) ⟨x, H, I1, ru, ⟨rfl, fun ys hy => by rw [I.list_inj hy hq]; exact hx⟩, st', fun b hb => (hf b hb).1⟩⟩
 done := by
  intro X hP hw hK hc i pins s σ H E I hf st hg
  subst hP hw hK
  obtain ⟨xs, hq, hx⟩ := hg
  obtain ⟨its, rv, p, hz⟩ := I.list hq
  obtain ⟨f0, f1, f2, f3, f4, f5⟩ := hf it (by simp)
  have hl := rv.length
  exact wpAny_pyNext_list_end (I.ok.hd hc) st p.isList (by simp; omega) fun h' eb => ⟨rfl, I.turned (t' := s.toks) (fun b o hb e => eb b o hb e) f0 f1 f3 f4 f5⟩
 self := fun _ _ _ _ _ st h => wpAny_pyIter_listiter st h
theorem turn_tuple {P : Program} {w : World} {K : PySem.W.Frag} {tg : Expr} (a it : Addr) : Turn P w K tg (Itt K a) [it] it (fun i h => h.IsTupleIter it a i) where
 mem := by simp
 obj := fun i h st b hb => by
  have e : b = it := by simpa using hb
  subst e
  obtain ⟨o, e, c, d⟩ := st
  exact ⟨o, e, fun v z => by rw [d] at z; cases z⟩
 keep := fun i h h' st k => st.at fun o e => k it (by simp) o e
 item := by
  intro X hP hw hK hc i pins s σ H E I hf st hg
  subst hP hw hK
  obtain ⟨xs, x, hq, hx⟩ := hg
  obtain ⟨its, rv, p, hz⟩ := I.tuple hq
  obtain ⟨u, hu, ru⟩ := rv.get hx
  obtain ⟨f0, f1, f2, f3, f4, f5⟩ := hf it (by simp)
  refine wpAny_pyNext_tuple_item st (show s.heap.IsTuple a its.toArray from p) (x := u) (by simpa using hu) fun h' st' sb => ?_
  have I1 : Inv X pins σ H { s with heap := h' } := I.turned (t' := s.toks) (fun b o hb e => (sb.2 b hb).trans e) f0 f1 f3 f4 f5
  obtain ⟨o, e, c, d⟩ := id st'
  exact ⟨u, rfl, go_of (s := { s with heap := h' }) e c d (by decide) ⟨x, H, I1, ru, ⟨rfl, fun ys hy => by rw [I.tuple_inj hy hq]; exact hx⟩, st', fun b hb => (hf b hb).1⟩⟩
 done := by
  intro X hP hw hK hc i pins s σ H E I hf st hg
  subst hP hw hK
  obtain ⟨xs, hq, hx⟩ := hg
  obtain ⟨its, rv, p, hz⟩ := I.tuple hq
  obtain ⟨f0, f1, f2, f3, f4, f5⟩ := hf it (by simp)
  have hl := rv.length
  exact wpAny_pyNext_tuple_end (I.ok.hd hc) st (show s.heap.IsTuple a its.toArray from p) (by simp; omega) fun h' eb => ⟨rfl, I.turned (t' := s.toks) (fun b o hb e => eb b o hb e) f0 f1 f3 f4 f5⟩
 self := fun _ _ _ _ _ st h => wpAny_pyIter_tupleiter st h
theorem turn_range {P : Program} {w : World} {K : PySem.W.Frag} {tg : Expr} (it : Addr) (lo : Int) (n : Nat) : Turn P w K tg (Itr lo n) [it] it (fun i h => IsRangeIter h it (lo + (i : Nat) * 1) ((n : Int) - (i : Nat)) 1) where
 mem := by simp
 obj := fun i h st b hb => by
  have e : b = it := by simpa using hb
  subst e
  exact ⟨_, st, fun v z => by
   have z' : Data.fields _ = Data.cell v := z
   cases z'⟩
 keep := fun i h h' st k => k it (by simp) _ st
 item := by
  intro X hP hw hK hc i pins s σ H E I hf st hg
  subst hP hw hK
  obtain ⟨f0, f1, f2, f3, f4, f5⟩ := hf it (by simp)
  have W := Walks.range (prog := X.prog) (w := X.w) (I.ok.hd hc) it lo 1 n
  refine W.item i s _ _ hg st fun v h' tk hv st' kk => ?_
  obtain ⟨t, rfl⟩ := hv
  have I1 : Inv X pins σ H { s with heap := h', toks := tk } := I.turned (fun b o hb e => kk b o (by simpa using hb) e) f0 f1 f3 f4 f5
  refine ⟨_, rfl, go_of (s := { s with heap := h', toks := tk }) (n := "range_iterator") st' rfl rfl (by decide) ⟨.int (lo + i), H, I1, ⟨t, ?_⟩, ⟨rfl, rfl⟩, st', fun b hb => (hf b hb).1⟩⟩
  rw [Int.mul_one]
 done := by
  intro X hP hw hK hc i pins s σ H E I hf st hg
  subst hP hw hK
  obtain ⟨f0, f1, f2, f3, f4, f5⟩ := hf it (by simp)
  exact wpAny_pyNext_range_end (I.ok.hd hc) st (by have : n ≤ i := hg; omega) fun h' eb => ⟨rfl, I.turned (t' := s.toks) (fun b o hb e => eb b o hb e) f0 f1 f3 f4 f5⟩
 self := fun _ _ _ _ _ st h => wpAny_pyIter_rangeiter st h
end L2
namespace L2
open PySem PySem.Spec PyProof.Rows
section
variable {X : Cx} {tg : Expr}
def iList (K : PySem.W.Frag) (tl : TE) : TI := fun σ H R => tl σ H fun x H1 => ∃ a, x = .ref a ∧ (∃ xs, SqL K H1 a xs) ∧ R (Itl K a) H1
def iTup (K : PySem.W.Frag) (tl : TE) : TI := fun σ H R => tl σ H fun x H1 => ∃ a, x = .ref a ∧ (∃ xs, SqT K H1 a xs) ∧ R (Itt K a) H1
theorem pi_list {l : Expr} {tl : TE} (hl : PE X l tl) : PI X tg l (iList X.K tl) := by
 intro pins s σ H R I h
 refine thn (hl pins s σ H _ I h) fun v s1 ⟨x, H1, I1, r1, q1⟩ => ?_
 obtain ⟨a, e, ⟨xs, hq⟩, q⟩ := q1
 subst e
 cases r1
 obtain ⟨its, rv, p, hz⟩ := I1.list hq
 refine wpAny_pyIter_list p.isList ?_
 refine ⟨s1.heap.objs.size, [s1.heap.objs.size], _, _, H1, rfl, I1.kept (t' := s1.toks) fun b o e => Heap.get?_push_of_some _ e, turn_list a _, ⟨_, Heap.get?_push_size _ rfl, rfl, rfl⟩, fun b hb => ?_, q⟩
 have e : b = s1.heap.objs.size := by simpa using hb
 subst e
 exact I1.fpOk (Nat.le_refl _) (I1.hok.fresh (Nat.le_refl _))
theorem pi_tup {l : Expr} {tl : TE} (hl : PE X l tl) : PI X tg l (iTup X.K tl) := by
 intro pins s σ H R I h
 refine thn (hl pins s σ H _ I h) fun v s1 ⟨x, H1, I1, r1, q1⟩ => ?_
 obtain ⟨a, e, ⟨xs, hq⟩, q⟩ := q1
 subst e
 cases r1
 obtain ⟨its, rv, p, hz⟩ := I1.tuple hq
 refine wpAny_pyIter_tuple (show s1.heap.IsTuple a its.toArray from p) ?_
 refine ⟨s1.heap.objs.size, [s1.heap.objs.size], _, _, H1, rfl, I1.kept (t' := s1.toks) fun b o e => Heap.get?_push_of_some _ e, turn_tuple a _, ⟨_, Heap.get?_push_size _ rfl, rfl, rfl⟩, fun b hb => ?_, q⟩
 have e : b = s1.heap.objs.size := by simpa using hb
 subst e
 exact I1.fpOk (Nat.le_refl _) (I1.hok.fresh (Nat.le_refl _))
theorem range_it {pins : List (Addr × Obj)} {σ : St} {H : Hp} {s : Shared} {R : It → Hp → Prop} {E : Value → Shared → Prop} {lo hi : Int} {t u v : Tok} {tk : Nat} (I : Inv X pins σ H s) (h1 : -(2 ^ 62) ≤ lo) (h2 : lo < 2 ^ 62) (h3 : -(2 ^ 62) ≤ hi) (h4 : hi < 2 ^ 62)
  (q : R (Itr lo (hi - lo).toNat) H) : wpAny (model X.prog X.w) X.A (pyIter (.ref s.heap.objs.size)) (PIE X pins σ tg R) E { s with heap := s.heap.push { cls := .type "range", data := .fields #[.int lo t, .int hi u, .int 1 v] }, toks := tk } := by
 refine wpAny_pyIter_range (IsRange.new ..) (small_one h1 h2 h3 h4) ?_
 have I1 : Inv X pins σ H { s with heap := s.heap.push { cls := .type "range", data := .fields #[.int lo t, .int hi u, .int 1 v] }, toks := tk } := I.kept fun b o e => Heap.get?_push_of_some _ e
 refine ⟨(s.heap.push { cls := .type "range", data := .fields #[.int lo t, .int hi u, .int 1 v] }).objs.size, [(s.heap.push { cls := .type "range", data := .fields #[.int lo t, .int hi u, .int 1 v] }).objs.size], _, _, H, rfl,
  I1.kept (t' := tk) fun b o e => Heap.get?_push_of_some _ e, turn_range _ lo (hi - lo).toNat, ?_, fun b hb => ?_, q⟩
 ·have e1 : lo + ((0 : Nat) : Int) * 1 = lo := by simp
  have e2 : (((hi - lo).toNat : Nat) : Int) - ((0 : Nat) : Int) = Builtin.Range.rangeSize lo hi 1 := by rw [rangeSize_one]; split <;> omega
  show IsRangeIter _ _ (lo + ((0 : Nat) : Int) * 1) ((((hi - lo).toNat : Nat) : Int) - ((0 : Nat) : Int)) 1
  rw [e1, e2]
  exact Heap.get?_push_size _ rfl
 ·have e : b = (s.heap.push { cls := .type "range", data := .fields #[.int lo t, .int hi u, .int 1 v] }).objs.size := by simpa using hb
  subst e
  exact I1.fpOk (Nat.le_refl _) (I1.hok.fresh (Nat.le_refl _))
def iRng1 (ta : TA) : TI := fun σ H R => ta σ H fun vs H1 => ∃ j : Int, vs = [.int j] ∧ -(2 ^ 62) ≤ j ∧ j < 2 ^ 62 ∧ R (Itr 0 j.toNat) H1
theorem pi_range1 {a : Expr} {ta : TA} {p pos : Pos} (hg : Gl X "range") (hm : X.mg "range" = none) (ha : PA X [a] ta) (hs : starEach [a] X.env = [(false, eval a X.env)] := by rfl) : PI X tg (.Call (.Name "range" p) [a] [] pos) (iRng1 ta) := by
 intro pins s σ H R I h
 refine Call_ (ld_blt I hg hm boot_range (PyProof.Rows.callWith_type1 (thn (ha pos pins s σ H _ I h) fun us s1 ⟨vs, H1, I1, r1, q1⟩ => ?_) hs rfl))
 obtain ⟨j, e, q1, q2, q⟩ := q1
 subst e
 cases r1 with
 | cons r rr =>
  cases rr
  obtain ⟨t, rfl⟩ := r
  exact call_range_1 (range_it I1 (by omega) (by omega) q1 q2 (by simpa using q))
def tFor (wi : TI) (g : TG) (tb : TS) : TS := fun D σ H => wi σ H fun J H1 => ∃ W : Nat → Nat → St → Hp → Prop, (∃ m, W 0 m σ H1) ∧ ∀ i m σ H, W i m σ H →
 (J.stop i H ∧ D.nx σ H) ∨ (J.go i H ∧ ∃ N : St → Hp → Prop, (∀ σ' H', N σ' H' → ∃ m', m' < m ∧ W (i + 1) m' σ' H') ∧ ∀ x H', J.yld i H x H' → g x σ H' fun σ2 H2 => tb { D with nx := N, ct := N, bk := D.nx } σ2 H2)
def pinsAt (fp : List Addr) (h : Heap) : List (Addr × Obj) := fp.filterMap fun b => (h.get? b).map fun o => (b, o)
theorem mem_pinsAt {fp : List Addr} {h : Heap} {b : Addr} {o : Obj} (hb : b ∈ fp) (e : h.get? b = some o) : (b, o) ∈ pinsAt fp h := List.mem_filterMap.mpr ⟨b, hb, by rw [e]; rfl⟩
theorem of_pinsAt {fp : List Addr} {h : Heap} {p : Addr × Obj} (hp : p ∈ pinsAt fp h) : p.1 ∈ fp ∧ h.get? p.1 = some p.2 := by
 obtain ⟨b, hb, e⟩ := List.mem_filterMap.mp hp
 cases q : h.get? b with
 | none => rw [q] at e; cases e
 | some o =>
  rw [q] at e
  have e' : (b, o) = p := Option.some.inj e
  subst e'
  exact ⟨hb, q⟩
theorem Inv.pinned {pins : List (Addr × Obj)} {σ : St} {H : Hp} {s : Shared} {fp : List Addr} (I : Inv X pins σ H s) (hf : ∀ b ∈ fp, FpOk X pins H b) (ho : ∀ b ∈ fp, ∃ o, s.heap.get? b = some o ∧ ∀ v, o.data ≠ .cell v) : Inv X (pins ++ pinsAt fp s.heap) σ H s :=
 I.pins_of fun p hp => (List.mem_append.mp hp).elim (fun z => I.pin p (List.mem_append_right _ z)) fun z => by
  obtain ⟨hb, e⟩ := of_pinsAt z
  obtain ⟨f0, f1, f2, _⟩ := hf p.1 hb
  obtain ⟨o, e', d⟩ := ho p.1 hb
  rw [e] at e'; cases e'
  exact ⟨e, f0, f1, f2, d⟩
theorem Inv.unpinned {pins pl : List (Addr × Obj)} {σ : St} {H : Hp} {s : Shared} (I : Inv X (pins ++ pl) σ H s) : Inv X pins σ H s := I.pins_of fun p hp => I.pin p (List.mem_append_right _ (List.mem_append_left _ hp))
theorem ps_for {iter : Expr} {body : List Stmt} {wi : TI} {g : TG} {tb : TS} {pos : Pos} (hp : PassesOwn (model X.prog X.w) X.A X.env X.xe) (hc : X.calm = true) (hi : PI X tg iter wi) (hg : PG X tg g) (hb : PSs X body tb)
  (hs : ∀ x, foldedSetIterable iter X.env x = pure x := by intro _; rfl) : PS X (.For tg iter body [] pos) (tFor wi g tb) := by
 intro pins s σ H D I h
 refine wpAny_For (thn (hi pins s σ H _ I h) fun v s1 h1 => thn h1 fun itv s2 h2 => ?_) hs
 obtain ⟨it, fp, tn, J, H2, e, I2, T, st2, f2, W, ⟨m0, w0⟩, turn⟩ := h2
 subst e
 have stat : ∀ {H' : Hp}, (∀ b ∈ fp, H' b = none) → ∀ b ∈ fp, FpOk X pins H' b := fun hn b hb => ⟨hn b hb, (f2 b hb).2⟩
 refine codeAny_forLoop_any (fun n s' => ∃ i σ' H', Inv X pins σ' H' s' ∧ tn i s'.heap ∧ (∀ b ∈ fp, H' b = none) ∧ W i n σ' H') ?_ m0 ⟨0, σ, H2, I2, st2, fun b hb => (f2 b hb).1, w0⟩
 rintro n s3 ⟨i, σ3, H3, I3, st3, fr3, w3⟩
 rcases turn i n σ3 H3 w3 with ⟨stop, qn⟩ | ⟨go, N, hN, step⟩
 ·refine wpAny_passesOwn hp (thn (T.done X rfl rfl rfl hc i pins s3 σ3 H3 X.xe I3 (stat fr3) st3 stop) fun r s4 ⟨hr, I4⟩ => ?_)
  subst hr
  exact wpAny_execs_nil ⟨σ3, H3, I4, qn⟩
 ·refine wpAny_passesOwn hp (thn (T.item X rfl rfl rfl hc i pins s3 σ3 H3 X.xe I3 (stat fr3) st3 go) fun r s4 ⟨u, hr, h4⟩ => ?_)
  subst hr
  refine wpAny_passesOwn hp (thn h4 fun _ s5 ⟨x, H5, I5, r5, y5, st5, fr5⟩ => ?_)
  have I5' := I5.pinned (stat fr5) (T.obj _ _ st5)
  refine wpAny_passesOwn hp (thn (hg _ s5 σ3 H5 x u _ I5' r5 (step x H5 y5)) fun _ s6 ⟨σ6, H6, I6, q6⟩ => ?_)
  refine wpAny_passesOwn hp (thn (hb _ s6 σ6 H6 _ I6 q6) fun f s7 q7 => ?_)
  have again : ∀ {σ7 : St} {H7 : Hp}, Inv X (pins ++ pinsAt fp s5.heap) σ7 H7 s7 → N σ7 H7 → ∃ m, m < n ∧ ∃ i σ' H', Inv X pins σ' H' s7 ∧ tn i s7.heap ∧ (∀ b ∈ fp, H' b = none) ∧ W i m σ' H' := fun {σ7 H7} I7 n7 => by
   obtain ⟨m', hm, w7⟩ := hN σ7 H7 n7
   refine ⟨m', hm, i + 1, σ7, H7, I7.unpinned, T.keep _ _ _ st5 fun b hb o e => (I7.pin (b, o) (List.mem_append_right _ (List.mem_append_right _ (mem_pinsAt hb e)))).1, fun b hb => ?_, w7⟩
   obtain ⟨o, e, d⟩ := T.obj _ _ st5 b hb
   exact (I7.pin (b, o) (List.mem_append_right _ (List.mem_append_right _ (mem_pinsAt hb e)))).2.1
  cases f with
  | next => obtain ⟨σ7, H7, I7, n7⟩ := q7; exact again I7 n7
  | cont => obtain ⟨σ7, H7, I7, n7⟩ := q7; exact again I7 n7
  | brk => obtain ⟨σ7, H7, I7, q7⟩ := q7; exact ⟨σ7, H7, I7.unpinned, q7⟩
  | ret v => obtain ⟨x7, σ7, H7, I7, r7, q7⟩ := q7; exact ⟨x7, σ7, H7, I7.unpinned, r7, q7⟩
end
end L2
namespace L2
open PySem PySem.Spec PyProof.Rows
abbrev R2 := V → V → Hp → VK → Prop
def OpR (X : Cx) (f : Value → Value → Sem Value) (r : R2) : Prop :=
 ∀ (pins : List (Addr × Obj)) (s : Shared) (σ : St) (H : Hp) (x y : V) (v u : Value) (Q : VK), Inv X pins σ H s → RelV x v → RelV y u → r x y H Q →
  wpAny (model X.prog X.w) X.A (f v u) (EP X pins σ Q) X.xe s
def UnR (X : Cx) (f : Value → Sem Value) (r : V → Hp → VK → Prop) : Prop :=
 ∀ (pins : List (Addr × Obj)) (s : Shared) (σ : St) (H : Hp) (x : V) (v : Value) (Q : VK), Inv X pins σ H s → RelV x v → r x H Q →
  wpAny (model X.prog X.w) X.A (f v) (EP X pins σ Q) X.xe s
def CallR (X : Cx) (f : Value) (r : List V → Hp → VK → Prop) : Prop :=
 ∀ (pins : List (Addr × Obj)) (s : Shared) (σ : St) (H : Hp) (xs : List V) (us : List Value) (Q : VK), Inv X pins σ H s → zN xs us → r xs H Q →
  wpAny (model X.prog X.w) X.A (call f us) (EP X pins σ Q) X.xe s
def tOp (r : R2) (ta tb : TE) : TE := fun σ H Q => ta σ H fun x H1 => tb σ H1 fun y H2 => r x y H2 Q
def tUn (r : V → Hp → VK → Prop) (ta : TE) : TE := fun σ H Q => ta σ H fun x H1 => r x H1 Q
def rI (C : Int → Int → Prop) (g : Int → Int → V) : R2 := fun x y H Q => ∃ i j, x = .int i ∧ y = .int j ∧ C i j ∧ Q (g i j) H
def rI0 (g : Int → Int → V) : R2 := fun x y H Q => ∃ i j, x = .int i ∧ y = .int j ∧ Q (g i j) H
def rU (g : Int → V) : V → Hp → VK → Prop := fun x H Q => ∃ i, x = .int i ∧ Q (g i) H
section
variable {X : Cx} {a b c : Expr} {ta tb tc : TE} {pos : Pos}
theorem binT (ha : PE X a ta) (hb : PE X b tb) {pins : List (Addr × Obj)} {s : Shared} {σ : St} {H : Hp} {R : V → V → Hp → Prop} (I : Inv X pins σ H s)
  (h : ta σ H fun x H1 => tb σ H1 fun y H2 => R x y H2) {Q : Value → Shared → Prop} {f : Value → Value → Sem Value}
  (hf : ∀ v u s2 x y H2, Inv X pins σ H2 s2 → RelV x v → RelV y u → R x y H2 → wpAny (model X.prog X.w) X.A (f v u) Q X.xe s2) :
  wpAny (model X.prog X.w) X.A (eval a X.env) (fun v s₁ => wpAny (model X.prog X.w) X.A (eval b X.env) (fun u s₂ => wpAny (model X.prog X.w) X.A (f v u) Q X.xe s₂) X.xe s₁) X.xe s := by
 refine thn (ha pins s σ H _ I h) fun v s1 ⟨x, H1, I1, r1, q1⟩ => ?_
 refine thn (hb pins s1 σ H1 _ I1 q1) fun u s2 ⟨y, H2, I2, r2, q2⟩ => ?_
 exact hf v u s2 x y H2 I2 r1 r2 q2
theorem pe_op {op : Operator} {r : R2} (ho : OpR X (binaryOp op) r) (ha : PE X a ta) (hb : PE X b tb) : PE X (.BinOp a op b pos) (tOp r ta tb) := by
 intro pins s σ H Q I h
 exact wpAny_BinOp (binT ha hb I h fun v u s2 x y H2 I2 rx ry q => ho pins s2 σ H2 x y v u Q I2 rx ry q)
theorem pe_un {op : UnaryOp} {r : V → Hp → VK → Prop} (ho : UnR X (unaryOp op) r) (ha : PE X a ta) : PE X (.UnaryOp op a pos) (tUn r ta) := by
 intro pins s σ H Q I h
 exact UnaryOp_ (thn (ha pins s σ H _ I h) fun v s1 ⟨x, H1, I1, r1, q1⟩ => ho pins s1 σ H1 x v Q I1 r1 q1)
theorem opI {f : Value → Value → Sem Value} {C : Int → Int → Prop} {g : Int → Int → Int}
  (rule : ∀ (i j : Int) (t u : Tok) (s : Shared) (Q : Value → Shared → Prop) (E : Value → Shared → Prop), C i j → Q (.int (g i j) s.toks) { s with toks := s.toks + 1 } → wpAny (model X.prog X.w) X.A (f (.int i t) (.int j u)) Q E s) :
  OpR X f (rI C fun i j => .int (g i j)) := by
 intro pins s σ H x y v u Q I rx ry h
 obtain ⟨i, j, rfl, rfl, hc, q⟩ := h
 obtain ⟨t, rfl⟩ := rx
 obtain ⟨t', rfl⟩ := ry
 exact rule i j t t' s _ _ hc ⟨.int (g i j), H, I.tok _, ⟨_, rfl⟩, q⟩
theorem opI0 {f : Value → Value → Sem Value} {g : Int → Int → Int}
  (rule : ∀ (i j : Int) (t u : Tok) (s : Shared) (Q : Value → Shared → Prop) (E : Value → Shared → Prop), Q (.int (g i j) s.toks) { s with toks := s.toks + 1 } → wpAny (model X.prog X.w) X.A (f (.int i t) (.int j u)) Q E s) :
  OpR X f (rI0 fun i j => .int (g i j)) := by
 intro pins s σ H x y v u Q I rx ry h
 obtain ⟨i, j, rfl, rfl, q⟩ := h
 obtain ⟨t, rfl⟩ := rx
 obtain ⟨t', rfl⟩ := ry
 exact rule i j t t' s _ _ ⟨.int (g i j), H, I.tok _, ⟨_, rfl⟩, q⟩
theorem opB0 {f : Value → Value → Sem Value} {g : Int → Int → Bool}
  (rule : ∀ (i j : Int) (t u : Tok) (s : Shared) (Q : Value → Shared → Prop) (E : Value → Shared → Prop), Q (.bool (g i j)) s → wpAny (model X.prog X.w) X.A (f (.int i t) (.int j u)) Q E s) :
  OpR X f (rI0 fun i j => .bl (g i j)) := by
 intro pins s σ H x y v u Q I rx ry h
 obtain ⟨i, j, rfl, rfl, q⟩ := h
 obtain ⟨t, rfl⟩ := rx
 obtain ⟨t', rfl⟩ := ry
 exact rule i j t t' s _ _ ⟨.bl (g i j), H, I, rfl, q⟩
def CDiv (i j : Int) : Prop := 0 < j ∧ j < 1073741824
def CPow (i j : Int) : Prop := 0 ≤ j ∧ j ≤ 1000000 ∧ i.natAbs < 2 ^ 64
def CMul (i j : Int) : Prop := (-(2 ^ 64) < i ∧ i < 2 ^ 64) ∨ (-(2 ^ 64) < j ∧ j < 2 ^ 64)
theorem CMul.ok {i j : Int} (h : CMul i j) : IntMulOk i j := by
 rcases h with ⟨h1, h2⟩ | ⟨h1, h2⟩
 ·exact .of_left (intBits_le_64 h1 h2)
 ·exact .of_right (intBits_le_64 h1 h2)
theorem op_add : OpR X (binaryOp .Add) (rI0 fun i j => .int (i + j)) := opI0 fun _ _ _ _ _ _ _ q => add_int q
theorem op_sub : OpR X (binaryOp .Sub) (rI0 fun i j => .int (i - j)) := opI0 fun _ _ _ _ _ _ _ q => sub_int q
theorem op_fdiv : OpR X (binaryOp .FloorDiv) (rI CDiv fun i j => .int (i / j)) := opI fun i j _ _ _ _ _ hc q => by
 have h1 : (0 : Int) < j := hc.1
 have h2 : j < 1073741824 := hc.2
 exact floordiv_int (by omega) (by rw [Int.fdiv_eq_ediv_of_nonneg i (by omega)]; exact q) (.inl (PyProof.noPylong_small (by omega)))
theorem zW : OpR X (binaryOp .Mod) (rI (fun _ j => 0 < j) fun i j => .int (i % j)) := opI fun i j _ _ _ _ _ hc q => by
 have h1 : (0 : Int) < j := hc
 exact mod_int' (by omega) (by rw [Int.fmod_eq_emod_of_nonneg i (by omega)]; exact q)
theorem unI {f : Value → Sem Value} {g : Int → Int}
  (rule : ∀ (i : Int) (t : Tok) (s : Shared) (Q : Value → Shared → Prop) (E : Value → Shared → Prop), Q (.int (g i) s.toks) { s with toks := s.toks + 1 } → wpAny (model X.prog X.w) X.A (f (.int i t)) Q E s) :
  UnR X f (rU fun i => .int (g i)) := by
 intro pins s σ H x v Q I rx h
 obtain ⟨i, rfl, q⟩ := h
 obtain ⟨t, rfl⟩ := rx
 exact rule i t s _ _ ⟨.int (g i), H, I.tok _, ⟨_, rfl⟩, q⟩
theorem un_neg : UnR X (unaryOp .USub) (rU fun i => .int (-i)) := unI fun _ _ _ _ _ q => neg_int q
end
def scal : V → V → Bool
 | .non, .non => true | .non, .int _ => true | .int _, .non => true | .non, .bl _ => true | .bl _, .non => true | .non, .str _ => true | .str _, .non => true
 | .int _, .int _ => true | .bl _, .bl _ => true | .str _, .str _ => true | .byt _, .byt _ => true
 | .int _, .str _ => true | .str _, .int _ => true | .bl _, .str _ => true | .str _, .bl _ => true
 | _, _ => false
def rEq : R2 := fun x y H Q => scal x y = true ∧ Q (.bl (decide (x = y))) H
def rNe : R2 := fun x y H Q => scal x y = true ∧ Q (.bl (!decide (x = y))) H
theorem dec_int {i j : Int} : decide (V.int i = V.int j) = (i == j) := by
 rw [Bool.eq_iff_iff]
 simp
theorem dec_bl {i j : Bool} : decide (V.bl i = V.bl j) = (i == j) := by
 rw [Bool.eq_iff_iff]
 simp
theorem dec_str {i j : Str} : decide (V.str i = V.str j) = (i == j) := by
 rw [Bool.eq_iff_iff]
 simp
theorem dec_byt {i j : Array UInt8} : decide (V.byt i = V.byt j) = (i.toList == j.toList) := by
 rw [Bool.eq_iff_iff]
 cases i
 cases j
 simp
section
variable {X : Cx} {a b c : Expr} {ta tb tc : TE} {pos : Pos}
theorem Zj {pins : List (Addr × Obj)} {σ : St} {H : Hp} {s : Shared} {Q : VK} {k k' : Bool} (I : Inv X pins σ H s) (q : Q (.bl k) H) (e : k = k') : EP X pins σ Q (.bool k') s := by
 subst e
 exact ⟨.bl k, H, I, rfl, q⟩
theorem op_eq : OpR X (compareOp .Eq) rEq := by
 intro pins s σ H x y v u Q I rx ry h
 obtain ⟨hs, q⟩ := h
 cases x with
 | non =>
  cases rx
  cases y with
  | non => cases ry; exact PySem.EqNone.eq_none_none (Zj I q (by simp))
  | bl j => cases ry; exact PySem.EqNone.eq_none_bool (Zj I q (by simp))
  | int j => obtain ⟨t', rfl⟩ := ry; exact PySem.EqNone.eq_none_int (Zj I q (by simp))
  | str j => obtain ⟨t', rfl⟩ := ry; exact PySem.EqNone.eq_none_str (Zj I q (by simp))
  | _ => exact absurd (show false = true from hs) Bool.false_ne_true
 | bl i =>
  cases rx
  cases y with
  | non => cases ry; exact PySem.EqNone.eq_bool_none (Zj I q (by simp))
  | bl j => cases ry; exact eq_bool (Zj I q dec_bl)
  | str j => obtain ⟨t', rfl⟩ := ry; exact PySem.EqMixed.eq_bool_str (Zj I q (by simp))
  | _ => exact absurd (show false = true from hs) Bool.false_ne_true
 | int i =>
  obtain ⟨t, rfl⟩ := rx
  cases y with
  | non => cases ry; exact PySem.EqNone.eq_int_none (Zj I q (by simp))
  | int j => obtain ⟨t', rfl⟩ := ry; exact eq_int (Zj I q dec_int)
  | str j => obtain ⟨t', rfl⟩ := ry; exact PySem.EqMixed.eq_int_str (Zj I q (by simp))
  | _ => exact absurd (show false = true from hs) Bool.false_ne_true
 | str i =>
  obtain ⟨t, rfl⟩ := rx
  cases y with
  | non => cases ry; exact PySem.EqNone.eq_str_none (Zj I q (by simp))
  | bl j => cases ry; exact PySem.EqMixed.eq_str_bool (Zj I q (by simp))
  | int j => obtain ⟨t', rfl⟩ := ry; exact PySem.EqMixed.eq_str_int (Zj I q (by simp))
  | str j => obtain ⟨t', rfl⟩ := ry; exact eq_str (Zj I q dec_str)
  | _ => exact absurd (show false = true from hs) Bool.false_ne_true
 | byt i =>
  obtain ⟨t, rfl⟩ := rx
  cases y with
  | byt j => obtain ⟨t', rfl⟩ := ry; exact PySem.W.eq_bytes (Zj I q dec_byt)
  | _ => exact absurd (show false = true from hs) Bool.false_ne_true
 | _ => cases y <;> exact absurd (show false = true from hs) Bool.false_ne_true
theorem op_ne : OpR X (compareOp .NotEq) rNe := by
 intro pins s σ H x y v u Q I rx ry h
 obtain ⟨hs, q⟩ := h
 cases x with
 | non =>
  cases rx
  cases y with
  | non => cases ry; exact PySem.EqNone.ne_none_none (Zj I q (by simp))
  | bl j => cases ry; exact PySem.EqNone.ne_none_bool (Zj I q (by simp))
  | int j => obtain ⟨t', rfl⟩ := ry; exact PySem.EqNone.ne_none_int (Zj I q (by simp))
  | str j => obtain ⟨t', rfl⟩ := ry; exact PySem.EqNone.ne_none_str (Zj I q (by simp))
  | _ => exact absurd (show false = true from hs) Bool.false_ne_true
 | bl i =>
  cases rx
  cases y with
  | non => cases ry; exact PySem.EqNone.ne_bool_none (Zj I q (by simp))
  | bl j => cases ry; exact ne_bool (Zj I q (congrArg not dec_bl))
  | str j => obtain ⟨t', rfl⟩ := ry; exact PySem.EqMixed.ne_bool_str (Zj I q (by simp))
  | _ => exact absurd (show false = true from hs) Bool.false_ne_true
 | int i =>
  obtain ⟨t, rfl⟩ := rx
  cases y with
  | non => cases ry; exact PySem.EqNone.ne_int_none (Zj I q (by simp))
  | int j => obtain ⟨t', rfl⟩ := ry; exact ne_int (Zj I q (congrArg not dec_int))
  | str j => obtain ⟨t', rfl⟩ := ry; exact PySem.EqMixed.ne_int_str (Zj I q (by simp))
  | _ => exact absurd (show false = true from hs) Bool.false_ne_true
 | str i =>
  obtain ⟨t, rfl⟩ := rx
  cases y with
  | non => cases ry; exact PySem.EqNone.ne_str_none (Zj I q (by simp))
  | bl j => cases ry; exact PySem.EqMixed.ne_str_bool (Zj I q (by simp))
  | int j => obtain ⟨t', rfl⟩ := ry; exact PySem.EqMixed.ne_str_int (Zj I q (by simp))
  | str j => obtain ⟨t', rfl⟩ := ry; exact ne_str (Zj I q (congrArg not dec_str))
  | _ => exact absurd (show false = true from hs) Bool.false_ne_true
 | byt i =>
  obtain ⟨t, rfl⟩ := rx
  cases y with
  | byt j => obtain ⟨t', rfl⟩ := ry; exact PySem.W.ne_bytes (Zj I q (congrArg not dec_byt))
  | _ => exact absurd (show false = true from hs) Bool.false_ne_true
 | _ => cases y <;> exact absurd (show false = true from hs) Bool.false_ne_true
theorem op_lt : OpR X (compareOp .Lt) (rI0 fun i j => .bl (decide (i < j))) := opB0 fun _ _ _ _ _ _ _ q => lt_int q
theorem op_le : OpR X (compareOp .LtE) (rI0 fun i j => .bl (decide (i ≤ j))) := opB0 fun _ _ _ _ _ _ _ q => le_int q
theorem op_gt : OpR X (compareOp .Gt) (rI0 fun i j => .bl (decide (j < i))) := opB0 fun _ _ _ _ _ _ _ q => gt_int q
theorem zE (b : Expr) {op : CmpOp} (h : op ≠ .In := by decide) (h2 : op ≠ .NotIn := by decide) : behindInMarks op b = false := by
 have e1 : (op == CmpOp.In) = false := by cases op <;> first | rfl | exact absurd rfl h
 have e2 : (op == CmpOp.NotIn) = false := by cases op <;> first | rfl | exact absurd rfl h2
 cases b <;> simp [behindInMarks, e1, e2]
theorem pe_cmpR {op : CmpOp} {r : R2} (ho : OpR X (compareOp op) r) (ha : PE X a ta) (hb : PE X b tb) (hm : behindInMarks op b = false) : PE X (.Compare a [op] [b] pos) (tOp r ta tb) := by
 intro pins s σ H Q I h
 exact wpAny_Compare1 (binT ha hb I h fun v u s2 x y H2 I2 rx ry q => ho pins s2 σ H2 x y v u Q I2 rx ry q) hm
def tTest (t : TE) : TT := fun σ H Q => t σ H fun x H' => ∃ k, x = .bl k ∧ Q k H'
theorem pt_cmpR {op : CmpOp} {r : R2} (ho : OpR X (compareOp op) r) (ha : PE X a ta) (hb : PE X b tb) (hm : behindInMarks op b = false) : PT X (.Compare a [op] [b] pos) (tTest (tOp r ta tb)) := by
 intro pins s σ H Q I h
 refine wpAny_isTrue_Compare1 (thn (ha pins s σ H _ I h) fun v s1 ⟨x, H1, I1, r1, q1⟩ => thn (hb pins s1 σ H1 _ I1 q1) fun u s2 ⟨y, H2, I2, r2, q2⟩ =>
  thn (ho pins s2 σ H2 x y v u _ I2 r1 r2 q2) fun c s3 ⟨z, H3, I3, r3, k, e, q3⟩ => ?_) hm
 subst e
 cases r3
 exact wpAny_truthy_bool ⟨H3, I3, q3⟩
def tChain (r r' : R2) (ta tb tc : TE) : TE := fun σ H Q => ta σ H fun x H1 => tb σ H1 fun y H2 => r x y H2 fun z H3 => ∃ k, z = .bl k ∧
 (if k = true then tc σ H3 fun w' H4 => r' y w' H4 Q else Q (.bl false) H3)
theorem pt_chain {op op' : CmpOp} {r r' : R2} (ho : OpR X (compareOp op) r) (ho' : OpR X (compareOp op') r') (ha : PE X a ta) (hb : PE X b tb) (hc : PE X c tc)
  (hm : lastMarks [op, op'] [b, c] = false := by with_unfolding_all rfl) : PT X (.Compare a [op, op'] [b, c] pos) (tTest (tChain r r' ta tb tc)) := by
 intro pins s σ H Q I h
 refine isTrue_chain (thn (ha pins s σ H _ I h) fun v s1 ⟨x, H1, I1, r1, q1⟩ => test_link (thn (hb pins s1 σ H1 _ I1 q1) fun u s2 ⟨y, H2, I2, r2, q2⟩ =>
  thn (ho pins s2 σ H2 x y v u _ I2 r1 r2 q2) fun d s3 ⟨z, H3, I3, r3, k, e, q3⟩ => ?_)) hm
 subst e
 cases r3
 refine wpAny_truthy_bool ?_
 cases k with
 | false =>
  obtain ⟨k', e', q'⟩ := q3
  cases e'
  exact ite_ff ⟨H3, I3, q'⟩
 | true =>
  refine ite_tt (test_last (thn (hc pins s3 σ H3 _ I3 q3) fun w' s4 ⟨z', H4, I4, r4, q4⟩ => thn (ho' pins s4 σ H4 y z' u w' _ I4 r2 r4 q4) fun d' s5 ⟨z2, H5, I5, r5, k2, e2, q5⟩ => ?_))
  subst e2
  cases r5
  exact wpAny_truthy_bool ⟨H5, I5, q5⟩
theorem line63 : (sizeLine : Nat) < 2 ^ 63 := by rw [sizeLine_eq]; decide
theorem vals1 {x : V} {us : List Value} (r : zN [x] us) : ∃ u, us = [u] ∧ RelV x u := by
 cases r with
 | cons r1 r2 => cases r2; exact ⟨_, rfl, r1⟩
theorem vals2 {x y : V} {us : List Value} (r : zN [x, y] us) : ∃ u w', us = [u, w'] ∧ RelV x u ∧ RelV y w' := by
 cases r with
 | cons r1 r2 =>
  cases r2 with
  | cons r3 r4 => cases r4; exact ⟨_, _, rfl, r1, r3⟩
theorem call_int1 : CallR X (.type "int") (fun xs H Q => (∃ i, xs = [.int i] ∧ Q (.int i) H) ∨ ∃ k, xs = [.bl k] ∧ Q (.int (if k then 1 else 0)) H) := by
 intro pins s σ H xs us Q I r h
 rcases h with ⟨i, rfl, q⟩ | ⟨k, rfl, q⟩
 ·obtain ⟨u, rfl, t, rfl⟩ := vals1 r
  exact call_int_int ⟨.int i, H, I, ⟨_, rfl⟩, q⟩
 ·obtain ⟨u, rfl, r1⟩ := vals1 r
  cases r1
  exact call_int_bool ⟨.int (if k then 1 else 0), H, I.tok _, ⟨_, rfl⟩, q⟩
end
end L2
namespace L2
open PySem PySem.Spec PyProof.Rows
section
variable {prog : Program} {w : World} {A : Around} {E : Value → Shared → Prop} {s : Shared} {K : PySem.W.Frag} {x dx C f : Addr} {mA : Str → Option Value} {name : Str} {v : Value}
end
section
variable {P : Program} {w : World} {H H' : Hp} {h h' : Heap} {a C dx : Addr} {fs fs' : List (Str × V)}
end
section
variable {X : Cx} {pins : List (Addr × Obj)} {σ : St} {H : Hp} {s : Shared} {a C dx : Addr} {fs : List (Str × V)} {f : Str} {v : V} {A : Around} {E : Value → Shared → Prop}
end
section
variable {X : Cx} {o e value : Expr} {f : Str} {pos pos' tpos : Pos} {ta tv : TE}
end
section
variable {X : Cx} {pins : List (Addr × Obj)} {σ : St} {H : Hp} {s : Shared} {A : Around} {E : Value → Shared → Prop} {Q : Value → Shared → Prop} {c : Value} {b : Bool}
end
end L2
namespace L2
open PySem PySem.Spec PyProof.Rows
structure Room (k : Nat) (A : Around) : Prop where
 hd : A.handled = none
 dp : A.depth + 3 * k + 5 < recursionLimit
 un : A.units + 16 * k + 200 < cLine
 gd : A.guards = some []
theorem Room.mono {j k : Nat} {A : Around} (r : Room k A) (h : j ≤ k) : Room j A := ⟨r.hd, by have := r.dp; omega, by have := r.un; omega, r.gd⟩
theorem Room.deeper {k : Nat} {A : Around} (r : Room (k + 1) A) (env : Env) : Room k (A.deeper env) :=
 ⟨r.hd, by have := r.dp; show A.depth + 1 + 3 * k + 5 < _; omega, by have := r.un; show A.units + 3 + 16 * k + 200 < _; omega, r.gd⟩
theorem Room.depth {k : Nat} {A : Around} (r : Room k A) : A.depth < recursionLimit := by have := r.dp; omega
theorem Room.units {k : Nat} {A : Around} (r : Room k A) : A.units + 64 < cLine := by have := r.un; omega
def tNil : TA := fun _ H Q => Q [] H
def Za (ta : TE) (tr : TA) : TA := fun σ H Q => ta σ H fun x H1 => tr σ H1 fun xs H2 => Q (x :: xs) H2
section
variable {X : Cx} {e : Expr} {es : List Expr} {te : TE} {t : TA} {pos : Pos}
theorem Zr : PA X [] tNil := fun _ _ _ _ H Q I h => Calls.spliced_nil ⟨[], H, I, .nil, h⟩
theorem zG (ha : PE X e te) (hr : PA X es t) (hs : starEach (e :: es) X.env = (false, eval e X.env) :: starEach es X.env := by rfl) : PA X (e :: es) (Za te t) := by
 intro pos pins s σ H Q I h
 rw [hs]
 show wpAny _ _ (spliced ((false, eval e X.env) :: backTo pos (starEach es X.env))) _ _ s
 refine Calls.spliced_cons (thn (ha pins s σ H _ I h) fun u s1 ⟨x, H1, I1, r1, q1⟩ => ?_)
 exact thn (hr pos pins s1 σ H1 _ I1 q1) fun us s2 ⟨xs, H2, I2, r2, q2⟩ => ⟨x :: xs, H2, I2, .cons r1 r2, q2⟩
def tTup (t : TA) : TE := fun σ H Q => t σ H fun xs H1 => xs.length ≤ sizeLine ∧ ∀ p, H1 p = none → Q (.ref p) (upd H1 p (.tup xs))
def tLst (t : TA) : TE := fun σ H Q => t σ H fun xs H1 => xs.length ≤ sizeLine ∧ ∀ p, H1 p = none → Q (.ref p) (upd H1 p (.lst xs))
theorem pe_tup {x1} (h : PA X es t) : PE X (.Tuple es x1 pos) (tTup t) := by
 intro pins s σ H Q I hq
 refine wpAny_Tuple_spliced (thn (h pos pins s σ H _ I hq) fun us s1 ⟨xs, H1, I1, r, z, q⟩ => ⟨by rw [← r.length]; exact z, ?_⟩)
 have hf : H1 s1.heap.objs.size = none := I1.hok.fresh (Nat.le_refl _)
 refine ⟨.ref s1.heap.objs.size, upd H1 s1.heap.objs.size (.tup xs), I1.laid (t' := s1.toks) (fun b u e => Heap.get?_push_of_some _ e) (Nat.le_refl _) ?_, rfl, q _ hf⟩
 exact ⟨z, us, r, ⟨_, Heap.get?_push_size _ rfl, rfl, _, rfl⟩⟩
theorem pe_lst (h : PA X es t) : PE X (.List es pos) (tLst t) := by
 intro pins s σ H Q I hq
 refine wpAny_List_spliced (thn (h pos pins s σ H _ I hq) fun us s1 ⟨xs, H1, I1, r, z, q⟩ => ⟨by rw [← r.length]; exact z, ?_⟩)
 have hf : H1 s1.heap.objs.size = none := I1.hok.fresh (Nat.le_refl _)
 refine ⟨.ref s1.heap.objs.size, upd H1 s1.heap.objs.size (.lst xs), I1.laid (t' := s1.toks) (fun b u e => Heap.get?_push_of_some _ e) (Nat.le_refl _) ?_, rfl, q _ hf⟩
 exact ⟨z, us, 0, r, Heap.get?_push_size _ rfl⟩
end
abbrev Sp := List V → Hp → VK → XK → Prop
abbrev CXT := List Env → Hp → Shared → XK → Value → Shared → Prop
structure Env0 (P : Program) (w : World) (K : PySem.W.Frag) (mg : Str → Option Value) (base : Heap) (A : Around) (outer : List Env) (s : Shared) (H : Hp) : Prop where
 frames : A.frames = some outer
 mod : Mod K mg base
 bs : ∀ b o, base.get? b = some o → s.heap.get? b = some o ∧ H b = none
 bsz : base.objs.size ≤ s.heap.objs.size
 funs : s.heap.FunFrames base outer
 frf : ∀ b ∈ frs outer, H b = none
 hok : HOk P w H s.heap
 bare : AllBare s.gens
 tree : P.given.tree = none
def CE (outer : List Env) (P : Program) (w : World) (H : Hp) (s : Shared) (Q : VK) (u : Value) (s' : Shared) : Prop :=
 ∃ v H', s'.os = s.os ∧ AllBare s'.gens ∧ Un (frs outer) [] H H' s.heap s'.heap ∧ HOk P w H' s'.heap ∧ RelV v u ∧ Q v H'
def CR (CX : CXT) (outer : List Env) (P : Program) (w : World) (H : Hp) (s : Shared) (Q : VK) (E : XK) (r : Result) (s' : Shared) : Prop :=
 match r with
 | .ok (.ret u) => CE outer P w H s Q u s'
 | .ok _ => False
 | .error e => CX outer H s E e s'
structure FnOk (P : Program) (w : World) (K : PySem.W.Frag) (mg : Str → Option Value) (base : Heap) (CX : CXT) (k : Nat) (f : Addr) (fd : FuncData) (ps : List Str) (sp : Sp) : Prop where
 len : ∀ vs H Q E, sp vs H Q E → vs.length = ps.length
 run : ∀ (A : Around) (outer : List Env) (s : Shared) (H : Hp) (args : Args) (us : List Value) (vs : List V) (Q : VK) (E : XK), Room k A → Env0 P w K mg base A outer s H → BindsTo s fd args (ps.zip us) → zN vs us → sp vs H Q E →
  codeAny (model P w) A (.call (.ref f) args) (CR CX outer P w H s Q E) s
section
variable {X : Cx} {pins : List (Addr × Obj)} {σ : St} {H : Hp} {s s' : Shared}
theorem Inv.env0 (I : Inv X pins σ H s) : Env0 X.prog X.w X.K X.mg X.base X.A X.stack s H :=
 ⟨I.ok.frames, I.ok.mod, I.bs, Nat.le_trans I.ok.bsz I.sz, I.stack, I.stkFree, I.hok, I.bare, I.ok.tree⟩
theorem Inv.after {Q : VK} {u : Value} (I : Inv X pins σ H s) (h : CE X.stack X.prog X.w H s Q u s') : EP X pins σ Q u s' := by
 obtain ⟨v, H', os, bare, un, hok, r, q⟩ := h
 obtain ⟨hh, g, d, t, os'⟩ := s'
 obtain rfl : os' = s.os := os
 exact ⟨v, H', I.call (h' := hh) (g' := g) (d' := d) (t' := t) (ch := []) un hok bare (fun b z => absurd z (by simp)), r, q⟩
end
def tCall (sp : Sp) (dvs : List V) (E : XK) (t : TA) : TE := fun σ H Q => t σ H fun vs H1 => sp (vs ++ dvs) H1 Q E
def Binds (K : PySem.W.Frag) (fd : FuncData) (ps : List Str) (ds : List Value) : Prop :=
 ∀ (s : Shared) (us : List Value), K.In s.heap → (us ++ ds).length = ps.length → BindsTo s fd ⟨us, []⟩ (ps.zip (us ++ ds))
theorem Binds.all {K : PySem.W.Frag} {fd : FuncData} {ps : List Str} (h : ∀ us : List Value, us.length = ps.length → bindArgs fd ⟨us, []⟩ = pure (ps.zip us)) : Binds K fd ps [] := fun s us _ hl => by
 rw [List.append_nil] at hl ⊢
 exact .of_eq (h us hl)
def Passes (CX : CXT) (X : Cx) (E : XK) : Prop := ∀ (pins : List (Addr × Obj)) (σ : St) (H : Hp) (s : Shared) (e : Value) (s' : Shared), Inv X pins σ H s → CX X.stack H s E e s' → X.xe e s'
section
variable {X : Cx} {CX : CXT} {k : Nat} {f C : Addr} {fd : FuncData} {ps : List Str} {sp : Sp} {dvs : List V} {ds : List Value} {E : XK} {x m : Str} {p pos apos : Pos} {e o : Expr} {es : List Expr} {ta : TE} {t : TA}
theorem run_fn {pins : List (Addr × Obj)} {σ : St} {H : Hp} {s : Shared} {Q : VK} {us : List Value} {vs : List V} (F : FnOk X.prog X.w X.K X.mg X.base CX k f fd ps sp) (hr : Room k X.A) (hb : Binds X.K fd ps ds) (hd : zN dvs ds) (hx : Passes CX X E)
  (I : Inv X pins σ H s) (r : zN vs us) (h : sp (vs ++ dvs) H Q E) : wpAny (model X.prog X.w) X.A (call (.ref f) us) (EP X pins σ Q) X.xe s := by
 have r2 : zN (vs ++ dvs) (us ++ ds) := r.append hd
 have hl : (us ++ ds).length = ps.length := by rw [← r2.length]; exact F.len _ _ _ _ h
 refine wpAny_call (codeAny_mono (F.run X.A X.stack s H ⟨us, []⟩ (us ++ ds) (vs ++ dvs) Q E hr I.env0 (hb s us I.kIn hl) r2 h) fun r s' hq => ?_)
 cases r with
 | error e => exact hx pins σ H s e s' I hq
 | ok fl =>
  cases fl with
  | ret u => exact I.after hq
  | next => exact False.elim hq
  | brk => exact False.elim hq
  | cont => exact False.elim hq
theorem pe_call (F : FnOk X.prog X.w X.K X.mg X.base CX k f fd ps sp) (hr : Room k X.A) (hg : Gl X x) (hm : X.mg x = some (.ref f)) (hk : keepIn X.K (.ref f) = true) (hb : Binds X.K fd ps ds) (hd : zN dvs ds) (hx : Passes CX X E)
  (ha : PA X (e :: es) t) (hdb : (x == ("__debug__" : Str)) = false := by decide) (he : starEach (e :: es) X.env = (false, eval e X.env) :: starEach es X.env := by rfl) (hpl : (backTo pos (starEach es X.env)).any (·.1) = false := by rfl) :
  PE X (.Call (.Name x p) (e :: es) [] pos) (tCall sp dvs E t) := by
 intro pins s σ H Q I h
 refine wpAny_Call_Name_kw (ld_glob I hg hm ?_ hdb)
 refine PySem.W.callWith_K (h₀ := X.base) I.ok.mod.kin hk (thn (ha pos pins s σ H _ I h) fun us s1 ⟨vs, H1, I1, r, q⟩ => ⟨I1.kIn, ?_⟩) he hpl
 exact run_fn F hr hb hd hx I1 r q
end
section
variable {X : Cx} {CX : CXT} {k : Nat} {f C : Addr} {fd : FuncData} {ps ks : List Str} {sp : Sp} {E : XK} {x m : Str} {p pos apos kpos : Pos} {e o : Expr} {es : List Expr} {kws : List Keyword} {te ta : TE} {t tk : TA} {nm : Option Str}
variable {g : List Value → List Value → List Value} {gV : List V → List V → List V}
end
structure FnScope (N P : List Str) (sc : Scope) : Prop where
 kind : sc.kind = .function
 co : sc.isCoroutine = false
 gen : sc.isGenerator = false
 nd : N.Nodup
 pre : N.take P.length = P
 par : ∀ x ∈ P, sc.names.lookup x = some .local ∨ sc.names.lookup x = some .cell
 nofree : ∀ y ∈ sc.names, y.2 ≠ .free
theorem bindL_out {kindOf : Str → Option NameKind} {x : Str} : ∀ {binds : List (Str × Value)} {m : Str → Option Value}, (∀ v, (x, v) ∉ binds) → bindL kindOf binds m x = m x
 | [], _, _ => rfl
 | (n, v) :: r, m, h => by
  unfold bindL
  rw [bindL_out fun w hw => h w (List.mem_cons_of_mem _ hw)]
  split
  ·have : x ≠ n := by rintro rfl; exact h v List.mem_cons_self
   simp [this]
  ·rfl
theorem bindC_out {kindOf : Str → Option NameKind} {x : Str} : ∀ {binds : List (Str × Value)} {m : Str → Option Value}, (∀ v, (x, v) ∉ binds) → bindC kindOf binds m x = m x
 | [], _, _ => rfl
 | (n, v) :: r, m, h => by
  unfold bindC
  rw [bindC_out fun w hw => h w (List.mem_cons_of_mem _ hw)]
  split
  ·rfl
  ·have : x ≠ n := by rintro rfl; exact h v List.mem_cons_self
   simp [this]
theorem bindL_get {kindOf : Str → Option NameKind} {x : Str} {v : Value} : ∀ {P : List Str} {vs : List Value} {i : Nat} {m : Str → Option Value}, P.Nodup → P[i]? = some x → vs[i]? = some v → kindOf x = some .local →
  bindL kindOf (P.zip vs) m x = some v
 | [], _, _, _, _, h, _, _ => by simp at h
 | _ :: _, [], _, _, _, _, h, _ => by simp at h
 | p :: P, w :: vs, 0, m, nd, h1, h2, hk => by
  simp at h1 h2; subst h1; subst h2
  show bindL kindOf ((p, w) :: P.zip vs) m p = _
  unfold bindL
  rw [bindL_out fun v hv => (List.nodup_cons.mp nd).1 (List.of_mem_zip hv).1, if_pos hk]
  simp
 | p :: P, w :: vs, i + 1, m, nd, h1, h2, hk => by
  show bindL kindOf ((p, w) :: P.zip vs) m x = _
  unfold bindL
  exact bindL_get (i := i) (List.nodup_cons.mp nd).2 (by simpa using h1) (by simpa using h2) hk
theorem bindC_get {kindOf : Str → Option NameKind} {x : Str} {v : Value} : ∀ {P : List Str} {vs : List Value} {i : Nat} {m : Str → Option Value}, P.Nodup → P[i]? = some x → vs[i]? = some v → kindOf x ≠ some .local →
  bindC kindOf (P.zip vs) m x = some v
 | [], _, _, _, _, h, _, _ => by simp at h
 | _ :: _, [], _, _, _, _, h, _ => by simp at h
 | p :: P, w :: vs, 0, m, nd, h1, h2, hk => by
  simp at h1 h2; subst h1; subst h2
  show bindC kindOf ((p, w) :: P.zip vs) m p = _
  unfold bindC
  rw [bindC_out fun v hv => (List.nodup_cons.mp nd).1 (List.of_mem_zip hv).1, if_neg hk]
  simp
 | p :: P, w :: vs, i + 1, m, nd, h1, h2, hk => by
  show bindC kindOf ((p, w) :: P.zip vs) m x = _
  unfold bindC
  exact bindC_get (i := i) (List.nodup_cons.mp nd).2 (by simpa using h1) (by simpa using h2) hk
def start (N : List Str) (vs : List V) : St := vs.map some ++ List.replicate (N.length - vs.length) none
def cxOf (CX : CXT) (P : Program) (w : World) (K : PySem.W.Frag) (mg : Str → Option Value) (base : Heap) (N : List Str) (qual : Str) (scope : Scope) (f : Addr) (cd : Value) (A : Around) (outer : List Env) (s : Shared) (H : Hp) (E : XK) : Cx where
 prog := P
 w := w
 K := K
 mg := mg
 base := base
 A := A.deeper (envOfC qual scope s.heap.objs.size f cd)
 N := N
 s₀ := s
 H₀ := H
 env := envOfC qual scope s.heap.objs.size f cd
 outer := outer
 stack := envOfC qual scope s.heap.objs.size f cd :: outer
 ex := []
 calm := true
 fn := fun _ => true
 pn := []
 xe := fun e s' => wpAny (model P w) (A.deeper (envOfC qual scope s.heap.objs.size f cd)) (leaving (envOfC qual scope s.heap.objs.size f cd) e) (fun _ s'' => CX outer H s E e s'') (fun e' s'' => CX outer H s E e' s'') s'
theorem cell_has {sc : Scope} {n : Nat} {x : Str} (h : sc.names.lookup x = some .cell) : ∃ c, (cellsFrom n sc.names []).lookup x = some c := by
 have q := PySem.W.cellsFrom_some sc.names n [] (.inl h)
 exact Option.isSome_iff_exists.mp q
theorem inv_start {CX : CXT} {P : Program} {w : World} {K : PySem.W.Frag} {mg : Str → Option Value} {base : Heap} {N ps : List Str} {qual : Str} {scope : Scope} {f : Addr} {cd : Value} {A : Around} {outer : List Env} {s s1 : Shared} {H : Hp} {E : XK} {us : List Value} {vs : List V}
  (S : FnScope N ps scope) (hd : A.handled = none) (e0 : Env0 P w K mg base A outer s H) (hl : vs.length = ps.length) (r : zN vs us)
  (x : InCallC s s.heap.objs.size (bindL (envOfC qual scope s.heap.objs.size f cd).kindOf (ps.zip us) fun _ => none) (cellsFrom (s.heap.objs.size + 1) scope.names []) (bindC (envOfC qual scope s.heap.objs.size f cd).kindOf (ps.zip us) fun _ => none) s1) :
  Inv (cxOf CX P w K mg base N qual scope f cd A outer s H E) [] (start N vs) H s1 := by
 have hpl : ps.length ≤ N.length := by have := congrArg List.length S.pre; rw [List.length_take] at this; omega
 obtain ⟨h1, tk, rfl, hk⟩ := x.done
 have noA : ∀ b : Addr, b ∉ (cxOf CX P w K mg base N qual scope f cd A outer s H E).ex := fun b z => absurd (show b ∈ ([] : List Addr) from z) (by simp)
 refine ⟨⟨e0.mod, S.kind, rfl, rfl, Nat.le_refl _, fun y z c h1 h2 => ?_, fun y hy => ?_, fun y c _ h => ?_, fun _ => hd, Around.frames_deeper e0.frames, .inr ⟨rfl, rfl⟩, fun b z => absurd z (noA b), e0.bs, e0.bsz, fun b _ _ => noA b, fun b z => absurd z (noA b), e0.funs, e0.frf, ⟨_, _, rfl, S.gen, S.co, rfl, rfl⟩, e0.tree⟩,
  rfl, e0.bare, Un.kept hk, ⟨_, x.toInCall.ns, fun i y v h1 h2 h3 => ?_⟩, fun y c h => ⟨_, x.cell y c h⟩, e0.hok.fresh (Nat.le_refl _), fun y c h => ?_, fun p hp => absurd (show p ∈ ([] : List (Addr × Obj)) from hp) (by simp), e0.hok.kept hk, ?_⟩
 ·exact name_of_addr x.apart (PySem.mem_of_lookup h1) (PySem.mem_of_lookup h2)
 ·have hy : scope.names.lookup y = some .cell ∨ scope.names.lookup y = some .free := hy
  rcases hy with hy | hy
  ·exact cell_has hy
  ·exact absurd rfl (S.nofree _ (PySem.mem_of_lookup hy))
 ·exact Nat.le_of_lt (x.above y c (PySem.mem_of_lookup h))
 ·have hi : i < vs.length := by
   unfold start at h2
   by_cases hi : i < vs.length
   ·exact hi
   ·rw [List.getElem?_append_right (by simpa using hi)] at h2
    rw [List.getElem?_replicate] at h2
    split at h2 <;> cases h2
  have ha : vs[i]? = some v := by
   unfold start at h2
   rw [List.getElem?_append_left (by simpa using hi), List.getElem?_map] at h2
   cases e : vs[i]? with
   | none => rw [e] at h2; cases h2
   | some a => rw [e] at h2; cases h2; rfl
  obtain ⟨u, hu, rv⟩ := r.get ha
  have hp : ps[i]? = some y := by
   rw [← S.pre, List.getElem?_take_of_lt (by omega)]; exact h1
  have ndP : ps.Nodup := by rw [← S.pre]; exact S.nd.sublist (List.take_sublist _ _)
  refine ⟨u, rv, ?_⟩
  rcases S.par y (List.mem_of_getElem? hp) with k | k
  ·exact .inl ⟨k, bindL_get ndP hp hu k⟩
  ·obtain ⟨c, e⟩ := cell_has (n := s.heap.objs.size + 1) k
   refine .inr ⟨.inl k, c, e, ?_⟩
   have q := x.cell y c e
   rw [bindC_get ndP hp hu (by show scope.names.lookup y ≠ _; rw [k]; decide)] at q
   exact q
 ·exact e0.hok.fresh (Nat.le_of_lt (x.above y c (PySem.mem_of_lookup h)))
 ·unfold start
  show _ = N.length
  rw [List.length_append, List.length_map, List.length_replicate]
  omega
theorem fn_of {CX : CXT} {P : Program} {w : World} {K : PySem.W.Frag} {mg : Str → Option Value} {base : Heap} {k : Nat} {f : Addr} {name qual : Str} {params : Arguments} {body : List Stmt} {scope : Scope} {dV kV doc pm cdv ct oc : Value} {an od : Option Addr}
  {osl : Array (Option Value)} {N ps : List Str} {sp : Sp} (lk : K.lookup f = some ⟨oc, od, .func (fnOf name qual params body scope dV kV doc pm an cdv ct), osl⟩) (hcd : codeIn K cdv qual = true) (S : FnScope N ps scope)
  (len : ∀ vs H Q E, sp vs H Q E → vs.length = ps.length)
  (hbody : ∀ (A : Around) (outer : List Env) (s : Shared) (H : Hp) (vs : List V) (Q : VK) (E : XK), Room k (A.deeper (envOfC qual scope s.heap.objs.size f cdv)) → sp vs H Q E →
   ∃ t, PSs (cxOf CX P w K mg base N qual scope f cdv A outer s H E) body t ∧ t { nx := fun _ H' => Q .non H', rt := Q } (start N vs) H) :
  FnOk P w K mg base CX (k + 1) f (fnOf name qual params body scope dV kV doc pm an cdv ct) ps sp := by
 refine ⟨len, fun A outer s H args us vs Q E hr e0 hb r hsp => ?_⟩
 have hl := len _ _ _ _ hsp
 have KX : K.In s.heap := e0.mod.kin.keeps fun b o e => (e0.bs b o e).1
 have lim : s.heap.NoLimit := e0.mod.nolimit.keeps fun b o e => (e0.bs b o e).1
 have hkind : ∀ y ∈ ps.zip us, scope.names.lookup y.1 = some .local ∨ (scope.names.lookup y.1 = some .cell ∧ ((cellsFrom (s.heap.objs.size + 1) scope.names []).lookup y.1).isSome = true) := fun ⟨n, v⟩ hy => by
  rcases S.par n (List.of_mem_zip hy).1 with q | q
  ·exact .inl q
  ·exact .inr ⟨q, PySem.W.cellsFrom_some _ _ _ (.inl q)⟩
 refine codeAny_call_function hr.depth (KX _ _ lk) rfl S.co S.gen rfl (PySem.W.codeRec_of KX hcd) (hb _ _ _ _ ?_)
 refine wpAny_newFunctionEnv_cells S.kind hkind fun env he s1 x => ?_
 subst he
 refine ⟨lim.keeps x.toInCall.keep, codeAny_func ?_⟩
 obtain ⟨t, ht, hq⟩ := hbody A outer s H vs Q E (hr.deeper _) hsp
 have I : Inv (cxOf CX P w K mg base N qual scope f cdv A outer s H E) [] (start N vs) H s1 := inv_start S hr.hd e0 hl r x
 refine wpAny_mono (ht [] s1 (start N vs) H _ I hq) (fun fl s' hs => ?_) fun e s' hs => hs
 have fin : ∀ {σ' : St} {H' : Hp} {v : V} {u : Value}, Inv (cxOf CX P w K mg base N qual scope f cdv A outer s H E) [] σ' H' s' → RelV v u → Q v H' → CE outer P w H s Q u s' :=
  fun {σ' H' v u} J rv q => ⟨v, H', J.os, J.bare, J.base, J.hok, rv, q⟩
 cases fl with
 | ret u =>
  obtain ⟨v, σ', H', J, rv, q⟩ := hs
  exact fin J rv q
 | next =>
  obtain ⟨σ', H', J, q⟩ := hs
  exact fin (v := V.non) (u := Value.none) J rfl q
 | brk =>
  obtain ⟨_, _, _, q⟩ := hs
  exact False.elim q
 | cont =>
  obtain ⟨_, _, _, q⟩ := hs
  exact False.elim q
end L2
namespace L2
open PySem PySem.Spec PyProof.Rows
section
variable {X : Cx} {x : Str} {p pos : Pos} {e : Expr} {es : List Expr} {t : TA} {id T : String} {r : List V → Hp → VK → Prop}
def tCB (r : List V → Hp → VK → Prop) (t : TA) : TE := fun σ H Q => t σ H fun vs H1 => r vs H1 Q
theorem pe_callB (hc : CallR X (.builtin id) r) (hg : Gl X x) (hm : X.mg x = none) (hv : bootBuiltins x = some (.builtin id)) (ha : PA X (e :: es) t) (hn : x ≠ "__name__" := by decide) (hdb : (x == ("__debug__" : Str)) = false := by decide)
  (he : starEach (e :: es) X.env = (false, eval e X.env) :: starEach es X.env := by rfl) (hpl : (backTo pos (starEach es X.env)).any (·.1) = false := by rfl) : PE X (.Call (.Name x p) (e :: es) [] pos) (tCB r t) := by
 intro pins s σ H Q I h
 refine wpAny_Call_Name_kw (ld_blt I hg hm hv ?_ hn hdb)
 exact PyProof.Rows.callWith_builtin1 (thn (ha pos pins s σ H _ I h) fun us s1 ⟨vs, H1, I1, r1, q1⟩ => hc pins s1 σ H1 vs us Q I1 r1 q1) he hpl
theorem pe_callTy (hc : CallR X (.type T) r) (hg : Gl X x) (hm : X.mg x = none) (hv : bootBuiltins x = some (.type T)) (ha : PA X (e :: es) t) (hn : x ≠ "__name__" := by decide) (hdb : (x == ("__debug__" : Str)) = false := by decide)
  (he : starEach (e :: es) X.env = (false, eval e X.env) :: starEach es X.env := by rfl) (hpl : (backTo pos (starEach es X.env)).any (·.1) = false := by rfl) : PE X (.Call (.Name x p) (e :: es) [] pos) (tCB r t) := by
 intro pins s σ H Q I h
 refine wpAny_Call_Name_kw (ld_blt I hg hm hv ?_ hn hdb)
 exact PyProof.Rows.callWith_type1 (thn (ha pos pins s σ H _ I h) fun us s1 ⟨vs, H1, I1, r1, q1⟩ => hc pins s1 σ H1 vs us Q I1 r1 q1) he hpl
end
end L2
namespace HT
open PySem PyProof.Rows
section
open PySem.SeqAt
open PySem.AutoSeq1 (wpAny_loadPart')
open PySem.MeetsSeq PySem.MeetsSeq2 PySem.MeetsSeq3
end
section
variable {prog : Program} {w : World} {A : Around} {E : Value → Shared → Prop} {s : Shared}
theorem cat_tup {t b : Addr} {vs ws : List Value} {Q : Value → Shared → Prop} (ht : IsTup s.heap t vs.toArray) (hb : IsTup s.heap b ws.toArray) (hv : vs ≠ [])
  (h1 : ws = [] → Q (.ref t) s) (h2 : ws ≠ [] → Q (.ref s.heap.objs.size) { s with heap := s.heap.push { cls := .type "tuple", data := .seq (vs ++ ws).toArray } })
  (hsz : vs.length + ws.length ≤ sizeLine) : wpAny (model prog w) A (binaryOp .Add (.ref t) (.ref b)) Q E s := by
 obtain ⟨⟨cls, dd, data, sl⟩, ho, hc, n, hd⟩ := id ht
 obtain ⟨⟨cls2, dd2, data2, sl2⟩, ho2, hc2, n2, hd2⟩ := id hb
 simp only at hc hd hc2 hd2
 subst hc hd hc2 hd2
 have e : vs.toArray ++ ws.toArray = (vs ++ ws).toArray := by simp
 by_cases hw : ws = []
 ·exact concat_meets ⟨_, ho, rfl⟩ ⟨_, ho2, rfl⟩ noFill_tuple_add seq_tuple_add PySem.F.slot_tuple_add PySem.F.entry_tuple_add (PySem.F.args_tuple_add_2 _ _)
   (tuple_addW1 t b vs.toArray ws.toArray n n2 dd dd2 sl sl2 (by simpa using hv) (by simp [hw])) ⟨ho, ho2, h1 hw⟩
 ·refine concat_meets ⟨_, ho, rfl⟩ ⟨_, ho2, rfl⟩ noFill_tuple_add seq_tuple_add PySem.F.slot_tuple_add PySem.F.entry_tuple_add (PySem.F.args_tuple_add_2 _ _)
   (tuple_addW2 t b vs.toArray ws.toArray n n2 dd dd2 sl sl2 (by simpa using hv) (by simpa using hw) (by rw [List.size_toArray, List.size_toArray]; exact hsz)) ⟨ho, ho2, ?_⟩
  rw [e]
  exact h2 hw
def sIx (n d : Nat) : Option Int → Nat
 | none => d
 | some v => if v < 0 then (v + (n : Int)).toNat else min v.toNat n
theorem sIx_none (n d : Nat) : sIx n d none = d := rfl
theorem sIx_nat (n d k : Nat) : sIx n d (some (k : Int)) = min k n := by
 show (if (k : Int) < 0 then ((k : Int) + (n : Int)).toNat else min (k : Int).toNat n) = min k n
 rw [if_neg (by omega), Int.toNat_natCast]
theorem sIx_le (n d : Nat) (hd : d ≤ n) (o : Option Int) : sIx n d o ≤ n := by
 cases o with
 | none => exact hd
 | some v =>
  show (if v < 0 then (v + (n : Int)).toNat else min v.toNat n) ≤ n
  by_cases hv : v < 0
  ·rw [if_pos hv]; omega
  ·rw [if_neg hv]; exact Nat.min_le_right _ _
theorem clip_eq (v : Int) (n d : Nat) : (if v < 0 then max (v + (n : Int)) 0 else min v (n : Int)) = ((sIx n d (some v) : Nat) : Int) := by
 show (if v < 0 then max (v + (n : Int)) 0 else min v (n : Int)) = (((if v < 0 then (v + (n : Int)).toNat else min v.toNat n) : Nat) : Int)
 by_cases hv : v < 0
 ·simp only [if_pos hv]; omega
 ·simp only [if_neg hv]; omega
theorem adjust_gen (lo hi : Option Int) (n : Nat) : Builtin.Slice.sliceAdjust lo hi 1 (n : Int) = (((sIx n 0 lo : Nat) : Int), ((sIx n n hi : Nat) : Int)) := by
 have h1 : ¬ ((1 : Int) < 0) := by omega
 unfold Builtin.Slice.sliceAdjust
 simp only [h1, if_false]
 refine Prod.ext ?_ ?_
 ·cases lo with
  | none => rfl
  | some v => exact clip_eq v n 0
 ·cases hi with
  | none => rfl
  | some v => exact clip_eq v n n
theorem places_gen (i j : Nat) : Builtin.Slice.slicePlaces (i : Int) (j : Int) 1 = j - i := by
 unfold Builtin.Slice.slicePlaces
 have h1 : (1 : Int) > 0 := by omega
 simp only [h1, if_true, Int.ediv_one]
 split <;> omega
theorem slicePart_ {v : Value} {o : Option Int} {Q : Option Int → Shared → Prop} (p : IsPart v o) (h : Q o s) : wpAny (model prog w) A (Builtin.Slice.slicePartIndex v) Q E s := by
 cases p with
 | none => exact slicePart_none h
 | int i t => exact slicePart_int h
theorem sliceApplied_gen {sl : Addr} {vl vu : Value} {lo hi : Option Int} {n : Nat} {Q : Int × Int × Nat → Shared → Prop} (hs : s.heap.IsSliceOf sl vl vu .none) (pl : IsPart vl lo) (pu : IsPart vu hi)
  (h : Q (((sIx n 0 lo : Nat) : Int), 1, sIx n n hi - sIx n 0 lo) s) : wpAny (model prog w) A (Builtin.Slice.sliceApplied (.ref sl) (pure (n : Int))) Q E s := by
 obtain ⟨os, hos, hcs, hds⟩ := id hs
 unfold Builtin.Slice.sliceApplied Builtin.Slice.sliceFields
 refine wpAny_bind (wpAny_bind (wpAny_field hos hds (x := vl) rfl (wpAny_bind (wpAny_field hos hds (x := vu) rfl (wpAny_bind (wpAny_field hos hds (x := .none) rfl (wpAny_pure ?_)))))))
 refine wpAny_bind (slicePart_none ?_)
 show wpAny _ _ (if ((1 : Int) == 0) = true then _ else _) _ _ s
 rw [if_neg (by decide)]
 refine wpAny_bind (slicePart_ pl (wpAny_bind (slicePart_ pu (wpAny_bind (wpAny_pure ?_)))))
 show wpAny _ _ (match Builtin.Slice.sliceAdjust lo hi 1 (n : Int) with | (lo, hi) => pure (lo, (1 : Int), Builtin.Slice.slicePlaces lo hi 1)) _ _ s
 rw [adjust_gen lo hi n]
 show wpAny _ _ (pure (((sIx n 0 lo : Nat) : Int), (1 : Int), Builtin.Slice.slicePlaces ((sIx n 0 lo : Nat) : Int) ((sIx n n hi : Nat) : Int) 1)) _ _ s
 rw [places_gen]
 exact wpAny_pure h
theorem pick_gen (xs : Array Value) (i k : Nat) : ((List.range k).filterMap fun (m : Nat) => xs[((i : Int) + (m : Int) * 1).toNat]?).toArray = ((xs.toList.drop i).take k).toArray := by
 have e : (fun (m : Nat) => xs[((i : Int) + (m : Int) * 1).toNat]?) = fun m => xs[i + m]? := by
  funext m
  have : ((i : Int) + (m : Int) * 1).toNat = i + m := by omega
  rw [this]
 rw [e]
 have := pick_run xs i k
 rw [List.filterMap_map] at this
 have e2 : ((fun x => xs[x]?) ∘ fun x => i + x) = fun m => xs[i + m]? := rfl
 rw [e2] at this
 rw [this]
theorem getItem_tuple_cut {t sl : Addr} {items : Array Value} {vl vu : Value} {lo hi : Option Int} {Q : Value → Shared → Prop} (ht : IsTup s.heap t items) (hs : s.heap.IsSliceOf sl vl vu .none) (pl : IsPart vl lo) (pu : IsPart vu hi)
  (hw : ¬ (sIx items.size 0 lo = 0 ∧ sIx items.size items.size hi = items.size))
  (h : Q (.ref s.heap.objs.size) { s with heap := s.heap.push { cls := .type "tuple", data := .seq ((items.toList.drop (sIx items.size 0 lo)).take (sIx items.size items.size hi - sIx items.size 0 lo)).toArray } })
  (hsz : items.size ≤ sizeLine) : wpAny (model prog w) A (getItem (.ref t) (.ref sl)) Q E s := by
 have htake : sizeOk (.seq ((items.toList.drop (sIx items.size 0 lo)).take (sIx items.size items.size hi - sIx items.size 0 lo)).toArray) := by
  show ((items.toList.drop (sIx items.size 0 lo)).take (sIx items.size items.size hi - sIx items.size 0 lo)).toArray.size ≤ sizeLine
  rw [List.size_toArray, List.length_take, List.length_drop, Array.length_toList]
  omega
 have hj : sIx items.size items.size hi ≤ items.size := sIx_le _ _ (Nat.le_refl _) hi
 obtain ⟨os, hos, hcs, hds⟩ := id hs
 have hTs : s.TypeIs (.ref sl) "slice" := ⟨os, hos, hcs⟩
 unfold getItem
 try with_reducible refine wpAny_holding ?_
 first | refine wpAny_bind (wpAny_pure ?_) | skip
 refine wpAny_bind (wpAny_sequenceKey ht.typeIs (by decide) ?_)
 refine wpAny_bind (wpAny_callSpecial?_slot (name := Str.ofString "__getitem__") ht.typeIs PyProof.Rows.slot_tuple_getitem
  (wpAny_call_entry PyProof.Rows.slot_tuple_getitem ht.typeIs entry_tuple_getitem ?_ (args_tuple_getitem _ _)))
 show wpAny _ _ (Builtin.Tuple.tupleItemsOf (.ref t) >>= _) _ _ s
 refine wpAny_bind (tupleItemsOf_ ht ?_)
 refine wpAny_bind (wpAny_typeOf hTs ?_)
 rw [if_pos (by decide)]
 refine wpAny_bind (sliceApplied_gen hs pl pu ?_)
 have hno : ¬ ((((sIx items.size 0 lo : Nat) : Int) == 0 && (1 : Int) == 1 && (sIx items.size items.size hi - sIx items.size 0 lo) == items.size) = true) := by
  intro q
  rw [Bool.and_eq_true, Bool.and_eq_true] at q
  have q1 : ((sIx items.size 0 lo : Nat) : Int) = 0 := eq_of_beq q.1.1
  have q2 : sIx items.size items.size hi - sIx items.size 0 lo = items.size := eq_of_beq q.2
  exact hw ⟨by omega, by omega⟩
 show wpAny _ _ (if (((sIx items.size 0 lo : Nat) : Int) == 0 && (1 : Int) == 1 && (sIx items.size items.size hi - sIx items.size 0 lo) == items.size) = true then _ else _) _ _ s
 rw [if_neg hno, pick_gen]
 first
  | exact wpAny_bind (m := Builtin.Tuple.tupleExact _) (wpAny_newObj_type (wpAny_pure ⟨_, rfl, wpAny_pure h⟩) htake)
  | exact wpAny_bind (m := Builtin.Tuple.tupleExact _) (wpAny_newObj_type (wpAny_bind (wpAny_pure (wpAny_pure ⟨_, rfl, wpAny_pure h⟩))) htake)
  | exact wpAny_bind (wpAny_bind (m := Builtin.Tuple.tupleExact _) (wpAny_newObj_type (wpAny_pure (wpAny_pure ⟨_, rfl, wpAny_pure h⟩)) htake))
  | exact wpAny_bind (wpAny_bind (m := Builtin.Tuple.tupleExact _) (wpAny_newObj_type (wpAny_pure ⟨_, rfl, wpAny_pure h⟩) htake))
end
end HT
namespace L2
open PySem PySem.Spec PyProof.Rows
abbrev TO := St → Hp → (Option Int → Hp → Prop) → Prop
def PO (X : Cx) (e : Option Expr) (t : TO) : Prop :=
 ∀ (pins : List (Addr × Obj)) (s : Shared) (σ : St) (H : Hp) (Q : Option Int → Hp → Prop), Inv X pins σ H s → t σ H Q →
  wpAny (model X.prog X.w) X.A (evalPart e X.env) (fun u s' => ∃ o H', Inv X pins σ H' s' ∧ IsPart u o ∧ Q o H') X.xe s
def tNoPart : TO := fun _ H Q => Q none H
def tPart (t : TE) : TO := fun σ H Q => t σ H fun x H1 => ∃ i, x = .int i ∧ Q (some i) H1
section
variable {X : Cx} {e : Expr} {te : TE} {lo hi : Option Expr} {tl th : TO} {pos p2 : Pos}
theorem po_none : PO X none tNoPart := by
 intro pins s σ H Q I h
 rw [evalPart_none]
 exact wpAny_pure ⟨none, H, I, .none, h⟩
theorem po_some (h : PE X e te) : PO X (some e) (tPart te) := by
 intro pins s σ H Q I hw
 rw [evalPart_some]
 refine thn (h pins s σ H _ I hw) fun u s1 ⟨x, H1, I1, r1, q1⟩ => ?_
 obtain ⟨i, rfl, q⟩ := q1
 obtain ⟨t, rfl⟩ := r1
 exact ⟨some i, H1, I1, .int i t, q⟩
def SlR (X : Cx) (r : V → Option Int → Option Int → Hp → VK → Prop) : Prop :=
 ∀ (pins : List (Addr × Obj)) (s : Shared) (σ : St) (H : Hp) (x : V) (v vl vu : Value) (lo hi : Option Int) (sl : Addr) (Q : VK), Inv X pins σ H s → RelV x v → s.heap.IsSliceOf sl vl vu .none → IsPart vl lo → IsPart vu hi → r x lo hi H Q →
  ∃ T id, typeLookup (.type T) "__getitem__" = pure (some (.builtin id)) ∧ s.TypeIs v T ∧ wpAny (model X.prog X.w) X.A (getItem v (.ref sl)) (EP X pins σ Q) X.xe s
def tSl (r : V → Option Int → Option Int → Hp → VK → Prop) (te : TE) (tl th : TO) : TE := fun σ H Q => te σ H fun x H1 => tl σ H1 fun l H2 => th σ H2 fun u H3 => r x l u H3 Q
theorem pe_slice {r : V → Option Int → Option Int → Hp → VK → Prop} (hr : SlR X r) (he : PE X e te) (hl : PO X lo tl) (hu : PO X hi th) : PE X (.Subscript e (.Slice lo hi none p2) pos) (tSl r te tl th) := by
 intro pins s σ H Q I h
 refine Subscript_ (thn (he pins s σ H _ I h) fun v s1 ⟨x, H1, I1, r1, q1⟩ => ?_)
 refine wpAny_Slice (thn (hl pins s1 σ H1 _ I1 q1) fun vl s2 ⟨l, H2, I2, pl, q2⟩ => thn (hu pins s2 σ H2 _ I2 q2) fun vu s3 ⟨u, H3, I3, pu, q3⟩ => ?_)
 rw [evalPart_none]
 refine wpAny_pure ?_
 have I4 : Inv X pins σ H3 { s3 with heap := s3.heap.push { cls := .type "slice", data := .fields #[vl, vu, .none] } } := I3.kept (t' := s3.toks) fun b ob q => Heap.get?_push_of_some _ q
 obtain ⟨T, id, hT, ht, hg⟩ := hr pins { s3 with heap := s3.heap.push { cls := .type "slice", data := .fields #[vl, vu, .none] } } σ H3 x v vl vu l u s3.heap.objs.size Q I4 r1 (Heap.IsSliceOf.new ..) pl pu q3
 show wpAny (model X.prog X.w) X.A (subscriptTail e (.Slice lo hi none p2) v (.ref s3.heap.objs.size)) (EP X pins σ Q) X.xe { s3 with heap := s3.heap.push { cls := .type "slice", data := .fields #[vl, vu, .none] } }
 exact tail_any (ops := [.ref s3.heap.objs.size, v]) ht hT hg (by with_unfolding_all rfl)
def cutV (xs : List V) (lo hi : Option Int) : List V := (xs.drop (HT.sIx xs.length 0 lo)).take (HT.sIx xs.length xs.length hi - HT.sIx xs.length 0 lo)
theorem cutV_length (xs : List V) (lo hi : Option Int) : (cutV xs lo hi).length ≤ xs.length := by
 unfold cutV
 rw [List.length_take, List.length_drop]
 omega
def rSlT (K : PySem.W.Frag) : V → Option Int → Option Int → Hp → VK → Prop := fun x lo hi H Q => ∃ a xs, x = .ref a ∧ SqT K H a xs ∧
 ¬ (HT.sIx xs.length 0 lo = 0 ∧ HT.sIx xs.length xs.length hi = xs.length) ∧ ∀ p, H p = none → Q (.ref p) (upd H p (.tup (cutV xs lo hi)))
theorem sl_tup : SlR X (rSlT X.K) := by
 intro pins s σ H x v vl vu lo hi sl Q I rx hs pl pu h
 obtain ⟨a, xs, rfl, hx, hw, q⟩ := h
 cases rx
 obtain ⟨its, r, ht, hz⟩ := I.tuple hx
 have hlen : its.toArray.size = xs.length := by rw [List.size_toArray]; exact r.length.symm
 refine ⟨"tuple", _, PyProof.Rows.slot_tuple_getitem.lookup, ht.typeIs, ?_⟩
 refine HT.getItem_tuple_cut ht hs pl pu (by rw [hlen]; exact hw) ?_ (by rw [hlen]; exact hz)
 rw [hlen]
 refine ⟨.ref s.heap.objs.size, _, I.laid (t' := s.toks) (o := .tup (cutV xs lo hi)) (fun b ob q => Heap.get?_push_of_some _ q) (Nat.le_refl _) ?_, rfl, q _ (I.hok.fresh (Nat.le_refl _))⟩
 exact ⟨Nat.le_trans (cutV_length xs lo hi) hz, _, (r.drop (HT.sIx xs.length 0 lo)).take (HT.sIx xs.length xs.length hi - HT.sIx xs.length 0 lo), IsTup.new _ _⟩
def rCatT (K : PySem.W.Frag) : R2 := fun x y H Q => ∃ a b xs ys, x = .ref a ∧ y = .ref b ∧ SqT K H a xs ∧ SqT K H b ys ∧ xs ≠ [] ∧ xs.length + ys.length ≤ sizeLine ∧
 (ys = [] → Q (.ref a) H) ∧ (ys ≠ [] → ∀ p, H p = none → Q (.ref p) (upd H p (.tup (xs ++ ys))))
theorem zN.nil_iff {xs : List V} {us : List Value} (r : zN xs us) : us = [] ↔ xs = [] := by
 cases r with
 | nil => simp
 | cons _ _ => simp
theorem op_catT : OpR X (binaryOp .Add) (rCatT X.K) := by
 intro pins s σ H x y v u Q I rx ry h
 obtain ⟨a, b, xs, ys, rfl, rfl, ha, hb, hx, hz, q1, q2⟩ := h
 cases rx
 cases ry
 obtain ⟨its, r1, p1, _⟩ := I.tuple ha
 obtain ⟨its2, r2, p2, _⟩ := I.tuple hb
 refine HT.cat_tup p1 p2 (fun z => hx (r1.nil_iff.mp z)) (fun z => ⟨.ref a, H, I, rfl, q1 (r2.nil_iff.mp z)⟩) (fun z => ?_) (by rw [← r1.length, ← r2.length]; exact hz)
 refine ⟨.ref s.heap.objs.size, _, I.laid (t' := s.toks) (o := .tup (xs ++ ys)) (fun b ob q => Heap.get?_push_of_some _ q) (Nat.le_refl _) ?_, rfl, q2 (fun w => z (r2.nil_iff.mpr w)) _ (I.hok.fresh (Nat.le_refl _))⟩
 exact ⟨by rw [List.length_append]; exact hz, _, r1.append r2, IsTup.new _ _⟩
end
end L2
namespace L2
open PySem PySem.Spec PyProof.Rows
def ixN (n : Nat) (i : Int) : Option Nat := if 0 ≤ i then (if i < n then some i.toNat else none) else if -(n : Int) ≤ i then some (i + n).toNat else none
def atI {α : Type} (xs : List α) (i : Int) : Option α := (ixN xs.length i).bind fun j => xs[j]?
theorem ixN_seq {n : Nat} {i : Int} {j : Nat} (h : ixN n i = some j) : seqIndex? i n = some j ∧ j < n ∧ -(n : Int) ≤ i ∧ i < n := by
 unfold ixN at h
 by_cases h0 : 0 ≤ i
 ·rw [if_pos h0] at h
  by_cases h1 : i < n
  ·rw [if_pos h1] at h
   have e : i.toNat = j := Option.some.inj h
   exact ⟨by rw [seqIndex_of h0 h1, e], by omega, by omega, h1⟩
  ·rw [if_neg h1] at h; cases h
 ·rw [if_neg h0] at h
  by_cases h1 : -(n : Int) ≤ i
  ·rw [if_pos h1] at h
   have e : (i + n).toNat = j := Option.some.inj h
   exact ⟨by rw [seqIndex_neg (by omega) h1, e], by omega, h1, by omega⟩
  ·rw [if_neg h1] at h; cases h
theorem atI_get {α : Type} {xs : List α} {i : Int} {v : α} (h : atI xs i = some v) : ∃ j, seqIndex? i xs.length = some j ∧ xs[j]? = some v ∧ j < xs.length ∧ -(xs.length : Int) ≤ i ∧ i < xs.length := by
 unfold atI at h
 cases e : ixN xs.length i with
 | none => rw [e] at h; cases h
 | some j =>
  rw [e] at h
  obtain ⟨h1, h2, h3, h4⟩ := ixN_seq e
  exact ⟨j, h1, h, h2, h3, h4⟩
theorem zY {α : Type} {xs : List α} {j : Nat} {v : α} (h : xs[j]? = some v) : atI xs (j : Int) = some v := by
 have hj : j < xs.length := (List.getElem?_eq_some_iff.mp h).1
 have e : ixN xs.length (j : Int) = some j := by
  unfold ixN
  rw [if_pos (by omega), if_pos (by omega)]; simp
 unfold atI; rw [e]; exact h
def PlainIx (b : Expr) : Prop := ∀ o i, subscripted b false o i = operate [o, i] (getItem o i)
def IxR (X : Cx) (r : R2) : Prop :=
 ∀ (value slice : Expr) (pins : List (Addr × Obj)) (s : Shared) (σ : St) (H : Hp) (x y : V) (v u : Value) (Q : VK), Inv X pins σ H s → RelV x v → RelV y u → r x y H Q →
  subscripted slice false v u = operate [v, u] (getItem v u) → wpAny (model X.prog X.w) X.A (subscriptTail value slice v u) (EP X pins σ Q) X.xe s
def MtR (X : Cx) (id : String) (r : V → List V → Hp → VK → Prop) : Prop :=
 ∀ (pins : List (Addr × Obj)) (s : Shared) (σ : St) (H : Hp) (x : V) (xs : List V) (v : Value) (us : List Value) (Q : VK), Inv X pins σ H s → RelV x v → zN xs us → r x xs H Q →
  wpAny (model X.prog X.w) X.A (call (.builtin id) (v :: us)) (EP X pins σ Q) X.xe s
section
variable {X : Cx} {a b : Expr} {ta tb : TE} {pos : Pos}
theorem pe_ix {r : R2} (hr : IxR X r) (ha : PE X a ta) (hb : PE X b tb) (hs : PlainIx b) : PE X (.Subscript a b pos) (tOp r ta tb) := by
 intro pins s σ H Q I h
 exact Subscript_ (binT ha hb I h fun v u s2 x y H2 I2 rx ry q => hr a b pins s2 σ H2 x y v u Q I2 rx ry q (hs _ _))
def rIxL (K : PySem.W.Frag) : R2 := fun x y H Q => ∃ p xs i v, x = .ref p ∧ y = .int i ∧ SqL K H p xs ∧ atI xs i = some v ∧ Q v H
def rIxT (K : PySem.W.Frag) : R2 := fun x y H Q => ∃ p xs i v, x = .ref p ∧ y = .int i ∧ SqT K H p xs ∧ atI xs i = some v ∧ Q v H
theorem ix_list : IxR X (rIxL X.K) := by
 intro value slice pins s σ H x y v u Q I rx ry h hs
 obtain ⟨p, xs, i, z, rfl, rfl, hq, he, q⟩ := h
 cases rx
 obtain ⟨t, rfl⟩ := ry
 obtain ⟨its, r, pl, hz⟩ := I.list hq
 obtain ⟨j, h1, h2, h3, h4, h5⟩ := atI_get he
 obtain ⟨w, ew, rw'⟩ := r.get h2
 have hl := r.length
 have hn := line63
 have fin : EP X pins σ Q w s := ⟨z, H, I, rw', q⟩
 by_cases h0 : 0 ≤ i
 ·have hj : i.toNat = j := by
   rw [seqIndex_of h0 h5] at h1
   exact Option.some.inj h1
  exact item_listR pl.isList h0 (by omega) (by rw [hj]; simpa using ew) fin hs
 ·have hj : (i + (its.toArray.size : Int)).toNat = j := by
   rw [seqIndex_neg (by omega) h4] at h1
   rw [List.size_toArray, ← hl]
   exact Option.some.inj h1
  exact subscriptTail_builtinR (x := w) pl.isList.typeIs slot_list_getitem.lookup
   (wpAny_getItem_list_neg (Q := fun r s' => r = w ∧ EP X pins σ Q r s') pl.isList (by omega) (by rw [List.size_toArray] <;> omega) (by omega) (by rw [hj]; simpa using ew) ⟨rfl, fin⟩) hs
theorem ix_tup : IxR X (rIxT X.K) := by
 intro value slice pins s σ H x y v u Q I rx ry h hs
 obtain ⟨p, xs, i, z, rfl, rfl, hq, he, q⟩ := h
 cases rx
 obtain ⟨t, rfl⟩ := ry
 obtain ⟨its, r, pl, hz⟩ := I.tuple hq
 obtain ⟨j, h1, h2, h3, h4, h5⟩ := atI_get he
 obtain ⟨w, ew, rw'⟩ := r.get h2
 have hl := r.length
 have hn := line63
 have fin : EP X pins σ Q w s := ⟨z, H, I, rw', q⟩
 exact subscriptTail_builtinR (x := w) pl.typeIs slot_tuple_getitem.lookup
  (getItem_tuple (j := j) (Q := fun r s' => r = w ∧ EP X pins σ Q r s') pl (by omega) (by omega) (by rw [List.size_toArray, ← hl]; exact h1) (by simpa using ew) ⟨rfl, fin⟩) hs
theorem mapSeq_set (its : List Value) (n j : Nat) (u : Value) : Obj.mapSeq (·.setIfInBounds j u) { cls := .type "list", data := .seq its.toArray n } = { cls := .type "list", data := .seq (its.set j u).toArray n } := by
 simp [Obj.mapSeq]
theorem Inv.lst {pins : List (Addr × Obj)} {σ : St} {H : Hp} {s : Shared} {p : Addr} {xs : List V} (I : Inv X pins σ H s) (h : H p = some (.lst xs)) :
  ∃ (its : List Value) (n : Nat), zN xs its ∧ s.heap.get? p = some { cls := .type "list", data := .seq its.toArray n } ∧ xs.length ≤ sizeLine := by
 obtain ⟨z, its, n, r, e⟩ := I.hok p _ h
 exact ⟨its, n, r, e, z⟩
theorem Inv.lstUpd {pins : List (Addr × Obj)} {σ : St} {H : Hp} {s : Shared} {p : Addr} {xs ys : List V} {its its' : List Value} {n n' : Nat} {f : Obj → Obj} (I : Inv X pins σ H s) (h : H p = some (.lst xs))
  (ho : s.heap.get? p = some { cls := .type "list", data := .seq its.toArray n }) (hf : f { cls := .type "list", data := .seq its.toArray n } = { cls := .type "list", data := .seq its'.toArray n' }) (r : zN ys its') (hz : ys.length ≤ sizeLine) (t : Nat) :
  Inv X pins σ (upd H p (.lst ys)) { s with heap := s.heap.update p f, toks := t } := by
 have e : (s.heap.update p f).get? p = some { cls := .type "list", data := .seq its'.toArray n' } := by
  rw [Heap.get?_update_self f ho (by rw [hf] <;> rfl), hf]
 refine I.write (x := p) (e := p) (by rw [h]; trivial) (.inl rfl) (fun b u hb q => (Heap.get?_update_other _ _ (Ne.symm hb)).trans q) ⟨_, e⟩ ?_
 exact ⟨hz, its', n', r, e⟩
def rSetL : V → V → V → Hp → (Hp → Prop) → Prop := fun o i v H Q => ∃ p xs k j, o = .ref p ∧ i = .int k ∧ H p = some (.lst xs) ∧ ixN xs.length k = some j ∧ Q (upd H p (.lst (xs.set j v)))
theorem set_list : PSet X rSetL := by
 intro pins s σ H o i v ov iv u Q I ro ri rv h
 obtain ⟨p, xs, k, j, rfl, rfl, hp, hj, q⟩ := h
 cases ro
 obtain ⟨t, rfl⟩ := ri
 obtain ⟨its, n, r, ho, hz⟩ := I.lst hp
 obtain ⟨h1, h2, h3, h4⟩ := ixN_seq hj
 have hl := r.length
 have hn := line63
 have I' : Inv X pins σ (upd H p (.lst (xs.set j v))) { s with heap := s.heap.update p (Obj.mapSeq (·.setIfInBounds j u)) } :=
  I.lstUpd hp ho (mapSeq_set its n j u) (r.set rv j) (by rw [List.length_set]; exact hz) s.toks
 by_cases h0 : 0 ≤ k
 ·have hk : k.toNat = j := by
   rw [seqIndex_of h0 h4] at h1
   exact Option.some.inj h1
  exact PySem.W.ki_setAt ho h0 (by omega) (by rw [List.size_toArray, ← hl]; exact h4) (by rw [hk]; exact ⟨_, I', q⟩)
 ·have hk : (k + (its.toArray.size : Int)).toNat = j := by
   rw [seqIndex_neg (by omega) h3] at h1
   rw [List.size_toArray, ← hl]
   exact Option.some.inj h1
  exact PySem.W.ki_setBack ho (by omega) (by rw [List.size_toArray, ← hl]; exact h3) (by omega) (by rw [hk]; exact ⟨_, I', q⟩)
theorem slice_bounds (lo hi : Option Int) (n : Nat) : (sliceBounds lo hi none n).1 = ((HT.sIx n 0 lo : Nat) : Int) ∧ (sliceBounds lo hi none n).2.1 = ((HT.sIx n n hi : Nat) : Int) ∧ (sliceBounds lo hi none n).2.2 = 1 := by
 refine ⟨?_, ?_, rfl⟩
 ·cases lo with
  | none => simp [sliceBounds, HT.sIx]
  | some i =>
   simp only [sliceBounds, HT.sIx, Option.getD_none, show (1 : Int) > 0 by decide, if_true]
   by_cases h : i < 0
   ·simp only [h, if_true] <;> omega
   ·simp only [h, if_false] <;> omega
 ·cases hi with
  | none => simp [sliceBounds, HT.sIx]
  | some i =>
   simp only [sliceBounds, HT.sIx, Option.getD_none, show (1 : Int) > 0 by decide, if_true]
   by_cases h : i < 0
   ·simp only [h, if_true] <;> omega
   ·simp only [h, if_false] <;> omega
theorem slicePick_cut (its : List Value) (lo hi : Option Int) : slicePick its.toArray lo hi none = ((its.drop (HT.sIx its.length 0 lo)).take (HT.sIx its.length its.length hi - HT.sIx its.length 0 lo)).toArray := by
 obtain ⟨h1, h2, h3⟩ := slice_bounds lo hi its.toArray.size
 unfold slicePick
 rw [h1, h2, h3]
 simp only [sliceRange_one, pick_run, List.size_toArray] <;> rfl
def rSlL (K : PySem.W.Frag) : V → Option Int → Option Int → Hp → VK → Prop := fun x lo hi H Q => ∃ a xs, x = .ref a ∧ SqL K H a xs ∧ ∀ p, H p = none → Q (.ref p) (upd H p (.lst (cutV xs lo hi)))
theorem sl_list : SlR X (rSlL X.K) := by
 intro pins s σ H x v vl vu lo hi sl Q I rx hs pl pu h
 obtain ⟨a, xs, rfl, hx, q⟩ := h
 cases rx
 obtain ⟨its, r, ht, hz⟩ := I.list hx
 have hlen := r.length
 refine ⟨"list", _, slot_list_getitem.lookup, ht.isList.typeIs, ?_⟩
 refine wpAny_getItem_list_slice ht.isList hs pl pu .none (by simp) ?_ (by rw [List.size_toArray] <;> omega)
 rw [slicePick_cut, ← hlen]
 refine ⟨.ref s.heap.objs.size, _, I.laid (t' := s.toks) (o := .lst (cutV xs lo hi)) (fun b ob q => Heap.get?_push_of_some _ q) (Nat.le_refl _) ?_, rfl, q _ (I.hok.fresh (Nat.le_refl _))⟩
 exact ⟨Nat.le_trans (cutV_length xs lo hi) hz, _, 0, (r.drop (HT.sIx xs.length 0 lo)).take (HT.sIx xs.length xs.length hi - HT.sIx xs.length 0 lo), Heap.get?_push_size _ rfl⟩
def flatV : V → Bool
 | .non => true
 | .bl _ => true
 | .int _ => true
 | .str _ => true
 | _ => false
def eqV : V → V → Bool
 | .non, .non => true
 | .bl a, .bl b => a == b
 | .bl a, .int b => (if a then 1 else 0) == b
 | .int a, .bl b => a == (if b then 1 else 0)
 | .int a, .int b => a == b
 | .str a, .str b => a == b
 | _, _ => false
theorem eqAt_V {A : Around} {s : Shared} {y x : V} {u v : Value} (ry : RelV y u) (rx : RelV x v) (fy : flatV y = true) (fx : flatV x = true) : SeqAt.EqAt A s u v (eqV y x) := by
 cases y with
 | non =>
  cases ry
  cases x with
  | non => cases rx; exact SeqAt.EqAt.same _
  | bl b => cases rx; exact SeqAt.EqAt.none_bool b
  | int b => obtain ⟨t, rfl⟩ := rx; exact SeqAt.EqAt.none_int b t
  | str b => obtain ⟨t, rfl⟩ := rx; exact SeqAt.EqAt.none_str b t
  | _ => exact absurd (show false = true from fx) Bool.false_ne_true
 | bl a =>
  cases ry
  cases x with
  | non => cases rx; exact SeqAt.EqAt.bool_none a
  | bl b => cases rx; exact SeqAt.EqAt.bool_bool a b
  | int b => obtain ⟨t, rfl⟩ := rx; exact SeqAt.EqAt.bool_int a b t
  | str b => obtain ⟨t, rfl⟩ := rx; exact SeqAt.EqAt.bool_str a b t
  | _ => exact absurd (show false = true from fx) Bool.false_ne_true
 | int a =>
  obtain ⟨t', rfl⟩ := ry
  cases x with
  | non => cases rx; exact SeqAt.EqAt.int_none a t'
  | bl b => cases rx; exact SeqAt.EqAt.int_bool a t' b
  | int b => obtain ⟨t, rfl⟩ := rx; exact SeqAt.EqAt.int_int a t' b t
  | str b => obtain ⟨t, rfl⟩ := rx; exact SeqAt.EqAt.int_str a t' b t
  | _ => exact absurd (show false = true from fx) Bool.false_ne_true
 | str a =>
  obtain ⟨t', rfl⟩ := ry
  cases x with
  | non => cases rx; exact SeqAt.EqAt.str_none a t'
  | bl b => cases rx; exact SeqAt.EqAt.str_bool a t' b
  | int b => obtain ⟨t, rfl⟩ := rx; exact SeqAt.EqAt.str_int a t' b t
  | str b => obtain ⟨t, rfl⟩ := rx; exact SeqAt.EqAt.str_str a t' b t
  | _ => exact absurd (show false = true from fx) Bool.false_ne_true
 | _ => exact absurd (show false = true from fy) Bool.false_ne_true
def eqU (x : V) (u : Value) : Bool := match u with
 | .none => eqV .non x
 | .bool b => eqV (.bl b) x
 | .int i _ => eqV (.int i) x
 | .str z _ => eqV (.str z) x
 | _ => false
theorem eqU_of {x y : V} {u : Value} (r : RelV y u) (f : flatV y = true) : eqU x u = eqV y x := by
 cases y with
 | non => cases r; rfl
 | bl b => cases r; rfl
 | int i => obtain ⟨t, rfl⟩ := r; rfl
 | str z => obtain ⟨t, rfl⟩ := r; rfl
 | _ => exact absurd (show false = true from f) Bool.false_ne_true
theorem any_eqU {x : V} : ∀ {xs : List V} {us : List Value}, zN xs us → xs.all flatV = true → us.any (eqU x) = xs.any fun y => eqV y x
 | _, _, .nil, _ => rfl
 | y :: xs, u :: us, .cons r t, f => by
  rw [List.all_cons, Bool.and_eq_true] at f
  rw [List.any_cons, List.any_cons, eqU_of r f.1, any_eqU t f.2]
theorem mem_eqAt {A : Around} {s : Shared} {x : V} {v : Value} (rx : RelV x v) (fx : flatV x = true) : ∀ {xs : List V} {us : List Value}, zN xs us → xs.all flatV = true → ∀ u ∈ us, SeqAt.EqAt A s u v (eqU x u)
 | _, _, .nil, _ => fun u hu => by cases hu
 | y :: xs, u :: us, .cons r t, f => fun u' hu => by
  rw [List.all_cons, Bool.and_eq_true] at f
  rcases List.mem_cons.mp hu with rfl | hu
  ·rw [eqU_of r f.1]; exact eqAt_V r rx f.1 fx
  ·exact mem_eqAt rx fx t f.2 u' hu
def inV (x : V) (xs : List V) : Bool := xs.any fun y => eqV y x
def rIn (K : PySem.W.Frag) (neg : Bool) : R2 := fun x y H Q => ∃ p xs, y = .ref p ∧ (SqL K H p xs ∨ SqT K H p xs) ∧ flatV x = true ∧ xs.all flatV = true ∧ Q (.bl (if neg then !inV x xs else inV x xs)) H
theorem op_in_seq : OpR X (compareOp .In) (rIn X.K false) := by
 intro pins s σ H x y v u Q I rx ry h
 obtain ⟨p, xs, rfl, hq, fx, fs, q⟩ := h
 cases ry
 rcases hq with hq | hq
 ·obtain ⟨its, r, pl, hz⟩ := I.list hq
  refine SeqAt.in_listAt (eqU x) pl.isList (fun w hw => mem_eqAt rx fx r fs w (by simpa using hw)) ⟨.bl _, H, I, rfl, ?_⟩
  rw [show its.toArray.any (eqU x) = its.any (eqU x) by simp, any_eqU r fs]
  exact q
 ·obtain ⟨its, r, pl, hz⟩ := I.tuple hq
  refine SeqAt.in_tupleAt (eqU x) pl (fun w hw => mem_eqAt rx fx r fs w (by simpa using hw)) ⟨.bl _, H, I, rfl, ?_⟩
  rw [show its.toArray.any (eqU x) = its.any (eqU x) by simp, any_eqU r fs]
  exact q
theorem call_len_seq : CallR X (.builtin "len") (fun xs H Q => ∃ p ys, xs = [.ref p] ∧ (SqL X.K H p ys ∨ SqT X.K H p ys) ∧ Q (.int ys.length) H) := by
 intro pins s σ H xs us Q I r h
 obtain ⟨p, ys, rfl, hq, q⟩ := h
 obtain ⟨u, rfl, rx⟩ := vals1 r
 cases rx
 have hn := line63
 rcases hq with hq | hq
 ·obtain ⟨its, r', pl, hz⟩ := I.list hq
  have hlen := r'.length
  exact Calls.call_len_list pl.isList (by simp only [List.size_toArray] <;> omega) ⟨.int ys.length, H, I.tok _, ⟨s.toks + 1, by rw [List.size_toArray, hlen]⟩, q⟩
 ·obtain ⟨its, r', pl, hz⟩ := I.tuple hq
  have hlen := r'.length
  exact len_tuple pl (by simp only [List.size_toArray] <;> omega) ⟨.int ys.length, H, I.tok _, ⟨s.toks + 1, by rw [List.size_toArray, hlen]⟩, q⟩
theorem call_tuple_of : CallR X (.type "tuple") (fun xs H Q => ∃ p ys, xs = [.ref p] ∧ ((SqL X.K H p ys ∧ ∀ l, H l = none → Q (.ref l) (upd H l (.tup ys))) ∨ (SqT X.K H p ys ∧ Q (.ref p) H))) := by
 intro pins s σ H xs us Q I r h
 obtain ⟨p, ys, rfl, h⟩ := h
 obtain ⟨u, rfl, rx⟩ := vals1 r
 cases rx
 rcases h with ⟨hq, q⟩ | ⟨hq, q⟩
 ·obtain ⟨its, r', pl, hz⟩ := I.list hq
  have hlen := r'.length
  refine call_tuple_list pl.isList (fun h' kp => ?_) (by simp only [List.size_toArray] <;> omega)
  have I1 : Inv X pins σ H { s with heap := h' } := I.kept (t' := s.toks) kp
  have I2 : Inv X pins σ (upd H h'.objs.size (.tup ys)) { s with heap := h'.push { cls := .type "tuple", data := .seq its.toArray } } :=
   I1.laid (t' := s.toks) (fun b o e => Heap.get?_push_of_some _ e) (Nat.le_refl _) (show ObjOk X.prog X.w _ _ _ (.tup ys) from ⟨hz, its, r', IsTup.new _ _⟩)
  exact ⟨.ref h'.objs.size, _, I2, rfl, q _ (I1.hok.fresh (Nat.le_refl _))⟩
 ·obtain ⟨its, r', pl, hz⟩ := I.tuple hq
  exact call_tuple_same pl ⟨.ref p, H, I, rfl, q⟩
def tyV (K : PySem.W.Frag) (T : String) (x : V) (H : Hp) : Prop := match x with
 | .str _ => T = "str"
 | .int _ => T = "int"
 | .ref p => (T = "list" ∧ ∃ xs, SqL K H p xs) ∨ (T = "tuple" ∧ ∃ o, K.lookup p = some o ∧ o.cls = .type "tuple" ∧ o.dict = none) ∨
   (T = "dict" ∧ ((∃ kvs, H p = some (.dK kvs)) ∨ ∃ kvs, H p = some (.dT kvs))) ∨ (T = "set" ∧ ∃ S n, H p = some (.set S n))
 | _ => False
theorem tyV_is {pins : List (Addr × Obj)} {σ : St} {H : Hp} {s : Shared} {T : String} {x : V} {v : Value} (I : Inv X pins σ H s) (r : RelV x v) (ty : tyV X.K T x H) :
  s.TypeIs v T ∧ ∀ a, v = .ref a → ∃ ob, s.heap.get? a = some ob ∧ ob.dict = none := by
 cases x with
 | str z =>
  obtain ⟨t, rfl⟩ := r
  cases (show T = "str" from ty)
  exact ⟨typeIs_str s z t, fun _ e => nomatch e⟩
 | int i =>
  obtain ⟨t, rfl⟩ := r
  cases (show T = "int" from ty)
  exact ⟨typeIs_int s i t, fun _ e => nomatch e⟩
 | ref p =>
  cases r
  rcases ty with ⟨rfl, xs, hq⟩ | ⟨rfl, o, hk, hc, hd⟩ | ⟨rfl, hk⟩ | ⟨rfl, S, n, hk⟩
  ·obtain ⟨its, _, pl, _⟩ := I.list hq
   refine ⟨pl.isList.typeIs, fun a e => ?_⟩
   cases e
   obtain ⟨o, n, e, c, hd, _⟩ := pl
   exact ⟨o, e, hd⟩
  ·refine ⟨⟨o, I.kIn p o hk, hc⟩, fun a e => ?_⟩
   cases e
   exact ⟨o, I.kIn _ o hk, hd⟩
  ·have z : ∃ o, s.heap.get? p = some o ∧ o.ExactDict := by
    rcases hk with ⟨kvs, hk⟩ | ⟨kvs, hk⟩
    ·obtain ⟨_, _, _, _, o, _, _, e, ex, _⟩ := I.hok p _ hk
     exact ⟨o, e, ex⟩
    ·obtain ⟨_, _, _, _, o, _, _, e, ex, _⟩ := I.hok p _ hk
     exact ⟨o, e, ex⟩
   obtain ⟨o, e, ex⟩ := z
   refine ⟨⟨o, e, ex.1⟩, fun a e2 => ?_⟩
   cases e2
   exact ⟨o, e, ex.2.1⟩
  ·obtain ⟨o, _, _, _, e, ex, _⟩ := I.hok p _ hk
   refine ⟨⟨o, e, ex.1⟩, fun a e2 => ?_⟩
   cases e2
   exact ⟨o, e, ex.2.1⟩
 | _ => exact False.elim ty
def tBM0 (K : PySem.W.Frag) (T : String) (r : V → List V → Hp → VK → Prop) (to : TE) : TE := fun σ H Q => to σ H fun x H1 => tyV K T x H1 ∧ r x [] H1 Q
def tBM (K : PySem.W.Frag) (T : String) (r : V → List V → Hp → VK → Prop) (to : TE) (t : TA) : TE := fun σ H Q => to σ H fun x H1 => tyV K T x H1 ∧ t σ H1 fun xs H2 => r x xs H2 Q
variable {o e : Expr} {es : List Expr} {to : TE} {t : TA} {name : Str} {apos cpos : Pos} {T id : String} {r : V → List V → Hp → VK → Prop}
theorem pe_bm0 (pa : PlainAttrs T) (slot : Slot T name id) (hty : typeOf (.builtin id) = pure (.type "method_descriptor")) (hm : MtR X id r) (ho : PE X o to)
  (hbase : attributeBase o name X.env (eval o X.env) = eval o X.env := by rfl) (hline : (apos.endLine == cpos.line) = true := by rfl) : PE X (.Call (.Attribute o name apos) [] [] cpos) (tBM0 X.K T r to) := by
 intro pins s σ H Q I h
 refine wpAny_Call_method0_late hbase hline (thn (ho pins s σ H _ I h) fun v s1 ⟨x, H1, I1, r1, ty, q1⟩ => ?_)
 obtain ⟨h1, h2⟩ := tyV_is I1 r1 ty
 exact ⟨T, id, pa, slot, hty, h1, h2, Calls.callWith_builtin rfl (PySem.evalArgs_none (hm pins s1 σ H1 x [] v [] Q I1 r1 .nil q1))⟩
theorem pe_bm (pa : PlainAttrs T) (slot : Slot T name id) (hty : typeOf (.builtin id) = pure (.type "method_descriptor")) (hm : MtR X id r) (ho : PE X o to) (ha : PA X (e :: es) t)
  (hbase : attributeBase o name X.env (eval o X.env) = eval o X.env := by rfl)
  (hfew : ((backTo cpos (starEach (e :: es) X.env)).all (fun x => !x.1) && (backToKw cpos (keywordEach [] X.env)).all (fun x => x.1.isSome)
   && decide ((e :: es).length + ([] : List Keyword).length + (if ([] : List Keyword).isEmpty then 0 else 1) < 30)) = true := by rfl)
  (hline : (apos.endLine == cpos.line) = true := by rfl) (hs : starEach (e :: es) X.env = (false, eval e X.env) :: starEach es X.env := by rfl) (hplain : (backTo cpos (starEach es X.env)).any (·.1) = false := by rfl) :
  PE X (.Call (.Attribute o name apos) (e :: es) [] cpos) (tBM X.K T r to t) := by
 intro pins s σ H Q I h
 refine wpAny_Call_method_late hbase hfew hline rfl (thn (ho pins s σ H _ I h) fun v s1 ⟨x, H1, I1, r1, ty, q1⟩ => ?_)
 obtain ⟨h1, h2⟩ := tyV_is I1 r1 ty
 refine ⟨T, id, pa, slot, hty, h1, h2, ?_⟩
 have hA := ha cpos pins s1 σ H1 _ I1 q1
 rw [hs] at hA ⊢
 refine Calls.callWith_builtin (by show (false || (backTo cpos (starEach es X.env)).any (·.1)) = false; rw [hplain] <;> rfl) (Calls.evalArgs_plain ?_)
 exact thn hA fun us s2 ⟨vs, H2, I2, r2, q2⟩ => hm pins s2 σ H2 x vs v us Q I2 r1 r2 q2
end
end L2
namespace L2
open PySem PySem.Spec PyProof.Rows
def MtM (X : Cx) (id : String) (r : V → List V → Hp → VK → Prop) : Prop :=
 ∀ (pins : List (Addr × Obj)) (s : Shared) (σ : St) (H : Hp) (x : V) (xs : List V) (v : Value) (us : List Value) (Q : VK), Inv X pins σ H s → RelV x v → zN xs us → r x xs H Q →
  wpAny (model X.prog X.w) X.A (call (.builtin id) (v :: us)) (EP X pins σ Q) X.xe s
theorem zN.one : ∀ {x : V} {us : List Value}, zN [x] us → ∃ u, us = [u] ∧ RelV x u
 | _, _, .cons r .nil => ⟨_, rfl, r⟩
theorem zN.zero : ∀ {us : List Value}, zN [] us → us = []
 | _, .nil => rfl
theorem zN.dropLast {xs : List V} {us : List Value} (h : zN xs us) : zN xs.dropLast us.dropLast := by
 induction h with
 | nil => exact .nil
 | cons r t ih =>
  cases t with
  | nil => exact .nil
  | cons q t' => exact .cons r ih
theorem zN.eraseIdx : ∀ {xs : List V} {us : List Value} (i : Nat), zN xs us → zN (xs.eraseIdx i) (us.eraseIdx i)
 | _, _, _, .nil => .nil
 | _, _, 0, .cons _ t => t
 | _, _, i + 1, .cons r t => .cons r (zN.eraseIdx i t)
theorem zN.reverse {xs : List V} {us : List Value} (h : zN xs us) : zN xs.reverse us.reverse := by
 induction h with
 | nil => exact .nil
 | cons r t ih => rw [List.reverse_cons, List.reverse_cons]; exact zN.append ih (.cons r .nil)
theorem erase_last {α : Type} (l : List α) : l.eraseIdx (l.length - 1) = l.dropLast := by
 induction l with
 | nil => rfl
 | cons a r ih =>
  cases r with
  | nil => rfl
  | cons b r =>
   have e : (a :: b :: r).length - 1 = ((b :: r).length - 1) + 1 := by
    have h1 : (a :: b :: r).length = r.length + 2 := rfl
    have h2 : (b :: r).length = r.length + 1 := rfl
    omega
   rw [e, List.eraseIdx_cons_succ, ih]
   all_goals rfl
theorem len_erase {α : Type} : ∀ (l : List α) (i : Nat), (l.eraseIdx i).length ≤ l.length
 | [], _ => Nat.le_refl _
 | _ :: _, 0 => Nat.le_succ _
 | _ :: r, i + 1 => Nat.succ_le_succ (len_erase r i)
section
variable {X : Cx} {pins : List (Addr × Obj)} {σ : St} {H : Hp} {s : Shared} {l b : Addr} {xs ys zs : List V}
theorem Inv.lset {its its' : List Value} {n : Nat} {f : Array Value → Array Value} {t' : Nat} (I : Inv X pins σ H s) (hH : H l = some (.lst xs))
  (e : s.heap.get? l = some { cls := .type "list", data := .seq its.toArray n }) (hf : f its.toArray = its'.toArray) (hv : zN ys its') (hz : ys.length ≤ sizeLine) :
  Inv X pins σ (upd H l (.lst ys)) { s with heap := s.heap.update l (Obj.mapSeq f), toks := t' } := by
 have q := PySem.IsL.update e f
 rw [hf] at q
 refine I.write (x := l) (e := l) (by rw [hH]; exact trivial) (.inl rfl) (fun b' u hb hu => (Heap.get?_update_other s.heap (Obj.mapSeq f) (Ne.symm hb)).trans hu) ⟨_, q⟩ ?_
 exact ⟨hz, its', _, hv, q⟩
theorem Inv.lnew {its : List Value} {t' : Nat} (I : Inv X pins σ H s) (hv : zN ys its) (hz : ys.length ≤ sizeLine) :
  Inv X pins σ (upd H s.heap.objs.size (.lst ys)) { s with heap := s.heap.push { cls := .type "list", data := .seq its.toArray }, toks := t' } :=
 I.laid (fun _ _ q => Heap.get?_push_of_some _ q) (Nat.le_refl _) ⟨hz, its, 0, hv, Heap.get?_push_size _ rfl⟩
theorem Inv.fresh (I : Inv X pins σ H s) : H s.heap.objs.size = none := I.hok.fresh (Nat.le_refl _)
theorem Inv.lstM (I : Inv X pins σ H s) (hH : H l = some (.lst xs)) : xs.length ≤ sizeLine ∧ ∃ (its : List Value) (n : Nat), zN xs its ∧ xs.length = its.length ∧ s.heap.get? l = some { cls := .type "list", data := .seq its.toArray n } := by
 obtain ⟨z, its, n, r, e⟩ := I.hok l _ hH
 exact ⟨z, its, n, r, r.length, e⟩
theorem notLongL {n : Nat} (h : n ≤ sizeLine) : Builtin.List.listTooLong n = false := by
 unfold Builtin.List.listTooLong
 exact decide_eq_false (by omega)
end
section
variable {X : Cx}
def rAppend : V → List V → Hp → VK → Prop := fun x vs H Q => ∃ l xs y, x = .ref l ∧ vs = [y] ∧ H l = some (.lst xs) ∧ xs.length < sizeLine ∧ Q .non (upd H l (.lst (xs ++ [y])))
theorem mt_append : MtM X "list.append" rAppend := by
 intro pins s σ H x vs v us Q I rx rv h
 obtain ⟨l, xs, y, rfl, rfl, hH, hz, q⟩ := h
 cases rx
 obtain ⟨u, rfl, ru⟩ := rv.one
 obtain ⟨z, its, n, r, hl, e⟩ := I.lstM hH
 refine call_meets F.slot_list_append ⟨_, e, rfl⟩ F.entry_list_append (F.args_list_append_2 _ _) (PySem.list_append l its.toArray n u (by rw [List.size_toArray]; omega)) ⟨e, ?_⟩
 refine ⟨.non, _, I.lset (its' := its ++ [u]) hH e (by simp) (r.append (.cons ru .nil)) ?_, rfl, q⟩
 rw [List.length_append, List.length_singleton]
 omega
def rPop : V → List V → Hp → VK → Prop := fun x vs H Q => ∃ l xs y, x = .ref l ∧ vs = [] ∧ H l = some (.lst xs) ∧ xs[xs.length - 1]? = some y ∧ Q y (upd H l (.lst xs.dropLast))
theorem mt_pop : MtM X "list.pop" rPop := by
 intro pins s σ H x vs v us Q I rx rv h
 obtain ⟨l, xs, y, rfl, rfl, hH, hy, q⟩ := h
 cases rx
 have hus := rv.zero
 subst hus
 obtain ⟨z, its, n, r, hl, e⟩ := I.lstM hH
 obtain ⟨u, hu, ru⟩ := r.get hy
 have hy' : its.toArray[its.toArray.size - 1]? = some u := by
  show its.toArray[its.length - 1]? = some u
  rw [← Array.getElem?_toList, ← hl]
  exact hu
 refine call_meets F.slot_list_pop ⟨_, e, rfl⟩ F.entry_list_pop (F.args_list_pop_1 _) (MeetsSeq.list_pop_last l its.toArray n u hy' (by rw [List.size_toArray]; omega)) ⟨e, ?_⟩
 refine ⟨y, _, I.lset (its' := its.dropLast) hH e ?_ r.dropLast ?_, ru, q⟩
 ·show its.toArray.eraseIdxIfInBounds (its.toArray.size - 1) = its.dropLast.toArray
  rw [List.size_toArray, List.eraseIdxIfInBounds_toArray, erase_last]
 ·rw [List.length_dropLast]
  omega
def rPopAt : V → List V → Hp → VK → Prop := fun x vs H Q => ∃ l xs i k y, x = .ref l ∧ vs = [.int i] ∧ H l = some (.lst xs) ∧ -(2 ^ 63) ≤ i ∧ i < 2 ^ 63 ∧ seqIndex? i xs.length = some k ∧ xs[k]? = some y ∧ Q y (upd H l (.lst (xs.eraseIdx k)))
theorem mt_popAt : MtM X "list.pop" rPopAt := by
 intro pins s σ H x vs v us Q I rx rv h
 obtain ⟨l, xs, i, k, y, rfl, rfl, hH, h1, h2, hk, hy, q⟩ := h
 cases rx
 obtain ⟨u, rfl, ru⟩ := rv.one
 obtain ⟨t, rfl⟩ := ru
 obtain ⟨z, its, n, r, hl, e⟩ := I.lstM hH
 obtain ⟨w, hw, rw'⟩ := r.get hy
 refine call_meets F.slot_list_pop ⟨_, e, rfl⟩ F.entry_list_pop (F.args_list_pop_2 _ _)
  (MeetsSeq.list_pop_at l its.toArray n i t k w (fitsIndex_both h1 h2) (by rw [List.size_toArray, ← hl]; exact hk) (by rw [← Array.getElem?_toList]; exact hw) (by rw [List.size_toArray]; omega)) ⟨e, ?_⟩
 refine ⟨y, _, I.lset (its' := its.eraseIdx k) hH e ?_ (r.eraseIdx k) ?_, rw', q⟩
 ·show its.toArray.eraseIdxIfInBounds k = (its.eraseIdx k).toArray
  rw [List.eraseIdxIfInBounds_toArray]
 ·have := len_erase xs k
  omega
end
section
variable {prog : Program} {w : World} {A : Around} {E : Value → Shared → Prop} {s : Shared}
end
section
variable {X : Cx}
end
end L2
namespace Att
open PySem PySem.W PySem.Calls PyProof.Rows
theorem ints_of_wellAll {P : Params} {h : Heap} : ∀ (ns : List Int) (vs : List Value), WellAll P h vs (ns.map WData.int) → IntsAre vs ns := by
 intro ns
 induction ns with
 | nil =>
  intro vs w
  rw [List.map_nil] at w
  cases w
  exact .nil
 | cons n ns ih =>
  intro vs w
  rw [List.map_cons] at w
  cases w with
  | cons a b =>
   cases a
   exact .cons _ _ (ih _ b)
theorem script_of {l : OpenLaw} {n : Nat} (hn : l.most = some n) {P : Params} {h : Heap} {args : List WData} {vals : List Value}
  (hpre : l.row.toRowW.claim.pre args = true) (hwl : WellAll P h vals args) :
  ∃ a vs ns, vals = [Value.ref a] ∧ args = [WData.list (ns.map WData.int)] ∧ h.get? a = some { cls := .type "list", data := .seq vs.toArray } ∧ IntsAre vs ns ∧ ns.length ≤ n := by
 have hsh : WShape.hasAll [] args [.list .int] = true := (pre_splitW hpre).1
 have hc : l.pre.holds [] { args := args } = true := (pre_splitW hpre).2
 obtain ⟨d, r, rfl, h1, h2⟩ := hasAllW_cons hsh
 obtain rfl := hasAllW_nil h2
 obtain ⟨xs, rfl, h3⟩ := hasW_list h1
 obtain ⟨ns, rfl⟩ := items_int h3
 have hlen : ns.length ≤ n := by
  unfold OpenLaw.pre at hc
  have h4 : (WTm.not (.lt (.lit (.int (n : Int))) (.len (.arg 0)))).holds [] { args := [.list (ns.map .int)] } = true := by
   have h4 := (holds_andW hc).1
   rw [hn] at h4
   exact h4
  have h5 := condW_of h4 (w_not (w_lt w_lit (w_len_list (w_arg rfl))))
  rw [List.length_map] at h5
  refine Nat.le_of_not_lt fun q => ?_
  have q' : (n : Int) < ((ns.length : Nat) : Int) := by omega
  first
   | (rw [decide_eq_true q'] at h5; exact absurd h5 (by decide))
   | (simp at h5; omega)
 cases hwl with
 | cons w1 w2 =>
  cases w2
  cases w1 with
  | list ho hall => exact ⟨_, _, ns, rfl, rfl, ho, ints_of_wellAll ns _ hall, hlen⟩
theorem post_true (l : OpenLaw) (args : List WData) : l.row.toRowW.claim.post args (.bool true) args = true :=
 postW_of (r := l.row.toRowW) (X := (true == true))
  (show WShape.has [] (.bool true) .bool = true by first | rfl | decide | simp [WShape.has, WShape.arms, WShape.armsAll])
  (show (WTm.eq .res (.lit (.bool true))).value [] { args := args, res := some (.bool true), after := args } = some (.bool (true == true)) from w_eq_bool (w_res rfl) w_lit) rfl
theorem attach_call {l : OpenLaw} {n : Nat} {q : Program} {loose : List Str} {XP : (Str → Option Value) → Heap → Prop} {YP : World → Heap → Prop} {d : DefRec}
  (hn : l.most = some n) (hdf : d.params.defaults = [])
  (call : ∀ (w : World) (s₀ s₁ : Shared) (mg mb : Str → Option Value) (fa : Addr) (o : Obj) (pm cd doc : Value) (a : Addr) (vs : List Value) (ns : List Int),
   Ground q loose [] XP w s₀ mg mb s₁.heap → YP w s₁.heap →
   s₁.heap.get? fa = some o → o.data = .func (docDef d.name d.params d.body d.scope pm cd doc) → s₁.heap.CodeRec cd d.name → mg d.name = some (.ref fa) →
   s₁.heap.get? a = some { cls := .type "list", data := .seq vs.toArray } → IntsAre vs ns → ns.length ≤ n → s₁.gens = #[] →
   codeAny (model l.prog w) callerA (.call (.ref fa) ⟨[.ref a], []⟩) (fun r s' => r = .ok (.ret (.bool true)) ∧ OldK s₁.heap s'.heap ∧ s'.os = s₁.os ∧ AllBare s'.gens) s₁) :
  WalkO q loose XP YP l.row.toRowW d [] (fun f vs => PySem.call f vs) := by
 intro w s₀ s₁ mg mb G Y fa o pm cd doc dV kV ho hd hcd hD hmg hg args vals as hpre hlay hrd hwl hlo
 obtain rfl : dV = .none := Dflts.none hD hdf
 obtain rfl : kV = .none := Dflts.noKw hD
 obtain ⟨a, vs, ns, rfl, rfl, hobj, hints, hlen⟩ := script_of hn hpre hwl
 refine enter_call (codeAny_mono (call w s₀ s₁ mg mb fa o pm cd doc a vs ns G Y ho (fd_plain hd) hcd hmg hobj hints hlen hg) fun r s' hq => ?_)
 obtain ⟨rfl, h2, h3, h4⟩ := hq
 exact ⟨.inl ⟨.bool true, .bool true, [], rfl, fun _ => rfl, .bool true, post_true l _, fun _ => ⟨List.Pairwise.nil, fun _ hm => (nomatch hm)⟩⟩, h2, h3, h4⟩
section
variable {prog : Program} {w : World} {A : Around} {E : Value → Shared → Prop} {s : Shared} {K : Frag}
end
end Att
namespace L2
open PySem PySem.Spec PyProof.Rows
theorem vals_ints : ∀ {vs : List Value} {ns : List Int}, IntsAre vs ns → zN (ns.map V.int) vs
 | _, _, .nil => .nil
 | _, _, .cons n t h => .cons ⟨t, rfl⟩ (vals_ints h)
def Only (H : Hp) : Prop := ∀ b, H b = none ∨ ∃ o xs, H b = some (.frz o (.lst xs))
theorem law_call {P : Program} {w : World} {K : PySem.W.Frag} {mg mb : Str → Option Value} {CX : CXT} {k : Nat} {fa a : Addr} {fd : FuncData} {x : Str} {sp : Sp} {s₁ : Shared} {vs : List Value} {ns : List Int}
  (KX : K.In s₁.heap) (hns : s₁.heap.Ns mainGlobals mg) (hb : s₁.heap.Ns builtinsNs mb) (hbb : ∀ x : Str, x ≠ "__name__" → mb x = bootBuiltins x) (hlim : s₁.heap.NoLimit) (hseer : s₁.heap.NoSeer) (htree : P.given.tree = none) (hg : s₁.gens = #[])
  (ha : s₁.heap.get? a = some { cls := .type "list", data := .seq vs.toArray }) (hi : IntsAre vs ns) (hl : ns.length ≤ sizeLine) (hr : Room k callerA)
  (F : ∀ base : Heap, K.In base → base.Ns mainGlobals mg → FnOk P w K mg base CX k fa fd [x] sp) (hbind : ∀ (s : Shared) (u : Value), BindsTo s fd ⟨[u], []⟩ [(x, u)])
  (hsp : ∀ H : Hp, Only H → SqL K H a (ns.map V.int) → sp [.ref a] H (fun v _ => v = .bl true) fun _ _ _ => False)
  (hCX : ∀ H e s', CX [] H s₁ (fun _ _ _ => False) e s' → False) :
  codeAny (model P w) callerA (.call (.ref fa) ⟨[.ref a], []⟩) (fun r s' => r = .ok (.ret (.bool true)) ∧ OldK s₁.heap s'.heap ∧ s'.os = s₁.os ∧ AllBare s'.gens) s₁ := by
 have rv := vals_ints hi
 have lenV := hi.length
 have core : ∀ H : Hp, Only H → SqL K H a (ns.map V.int) → HOk P w H s₁.heap → (∀ b, H b ≠ none → b = a) → (H a ≠ none → K.lookup a = none) →
   codeAny (model P w) callerA (.call (.ref fa) ⟨[.ref a], []⟩) (fun r s' => r = .ok (.ret (.bool true)) ∧ OldK s₁.heap s'.heap ∧ s'.os = s₁.os ∧ AllBare s'.gens) s₁ := by
  intro H hO hS hok hA hK
  have base_of : ∀ {b : Addr} {o : Obj}, s₁.heap.get? b = some o → H b = none → (hidT s₁.heap H).get? b = some o := fun e n => hidT_get e n
  have noA : ∀ {b : Addr} {o : Obj} {es : Array DictEntry} {ep : Nat}, s₁.heap.get? b = some o → o.data = .dict es ep → H b = none := fun {b o es ep} e d => by
   cases q : H b with
   | none => rfl
   | some u =>
    have e' : b = a := hA b (by rw [q]; simp)
    subst e'
    rw [ha] at e; cases e
    have d' : Data.seq vs.toArray _ = Data.dict es ep := d
    cases d'
  have nsK : ∀ {b : Addr} {m : Str → Option Value}, s₁.heap.Ns b m → (hidT s₁.heap H).Ns b m := fun {b m} ⟨o, es, ep, e, d, r⟩ => ⟨o, es, ep, base_of e (noA e d), d, r⟩
  have hKb : K.In (hidT s₁.heap H) := fun b o e => base_of (KX b o e) (by
   cases q : H b with
   | none => rfl
   | some u =>
    have e' : b = a := hA b (by rw [q]; simp)
    subst e'
    rw [hK (by rw [q]; simp)] at e; cases e)
  have hM : Mod K mg (hidT s₁.heap H) := ⟨hKb, nsK hns, ⟨mb, nsK hb, hbb⟩, let ⟨mc, h1, h2⟩ := hlim; ⟨mc, nsK h1, h2⟩, (by
   obtain ⟨⟨mc, x1, x2⟩, ⟨mm, x3, x4⟩, ⟨mb', x5, x6⟩, ⟨mg', bm, ob, x7, x8, x9, x10, x11⟩⟩ := hseer
   refine ⟨⟨mc, nsK x1, x2⟩, ⟨mm, nsK x3, x4⟩, ⟨mb', nsK x5, x6⟩, ⟨mg', bm, ob, nsK x7, x8, base_of x9 ?_, x10, x11⟩⟩
   cases q : H bm with
   | none => rfl
   | some u =>
    have e' : bm = a := hA bm (by rw [q]; simp)
    subst e'
    rw [ha] at x9; cases x9
    simp at x10)⟩
  have e0 : Env0 P w K mg (hidT s₁.heap H) callerA [] s₁ H := ⟨rfl, hM, fun b o e => of_hidT e, Nat.le_of_eq (hidT_size _ _), trivial, fun b hb => absurd (show b ∈ ([] : List Addr) from hb) (by simp), hok, .of_eq hg, htree⟩
  refine codeAny_mono ((F _ hKb (nsK hns)).run callerA [] s₁ H ⟨[.ref a], []⟩ [.ref a] [.ref a] _ _ hr e0 (hbind s₁ (.ref a)) (.cons rfl .nil) (hsp H hO hS)) fun r s' h => ?_
  cases r with
  | error e => exact (hCX H e s' h).elim
  | ok fl =>
   cases fl with
   | next => exact False.elim h
   | brk => exact False.elim h
   | cont => exact False.elim h
   | ret u =>
    obtain ⟨v, H', os, bare, un, hok', r', q⟩ := h
    have q' : v = .bl true := q
    subst q'
    obtain rfl : u = Value.bool true := r'
    refine ⟨rfl, OldK.of_keep fun b o e => ?_, os, bare⟩
    cases q : H b with
    | none => exact un.keep b o e q (by intro z; exact absurd (show b ∈ ([] : List Addr) from z) (by simp)) (by simp)
    | some u =>
     rcases hO b with z | ⟨ob, xs, z⟩
     ·rw [q] at z; cases z
     ·have z2 := un.frzs b ob _ z
      obtain ⟨e1, _⟩ := hok b _ z
      obtain ⟨e2, _⟩ := hok' b _ z2
      rw [e] at e1; cases e1
      exact e2
 cases hk : K.lookup a with
 | some o =>
  have e := KX a o hk
  rw [ha] at e
  cases e
  refine core (fun _ => none) (fun _ => .inl rfl) (.inr ⟨_, vs.toArray, _, hk, rfl, rfl, rfl, by rw [List.size_toArray, lenV]; exact hl, by simpa using rv⟩) (fun b u z => by have z' : (none : Option HO) = some u := z; cases z') (fun b z => absurd rfl z) fun z => absurd rfl z
 | none =>
  refine core (fun b => if b = a then some (.frz { cls := .type "list", data := .seq vs.toArray } (.lst (ns.map V.int))) else none) (fun b => ?_) (.inl (.inr ⟨{ cls := .type "list", data := .seq vs.toArray }, if_pos rfl⟩)) (fun b u z => ?_) (fun b z => ?_) fun _ => hk
  ·by_cases hb : b = a
   ·exact .inr ⟨_, _, if_pos hb⟩
   ·exact .inl (if_neg hb)
  ·by_cases hb : b = a
   ·have z' := (if_pos hb).symm.trans z
    cases z'
    subst hb
    exact ⟨ha, by rw [List.length_map]; exact hl, vs, _, rv, ha⟩
   ·have z' := (if_neg hb).symm.trans z
    cases z'
  ·by_cases hb : b = a
   ·exact hb
   ·exact absurd (if_neg hb) z
end L2
namespace L2
open PySem PySem.Spec PyProof.Rows
theorem walk_of {l : PySem.W.OpenLaw} {n k : Nat} {q : Program} {loose : List Str} {XP : (Str → Option Value) → Heap → Prop} {YP : World → Heap → Prop} {d : DefRec} {K : Params → PySem.W.Frag} {CX : World → CXT} {sp : World → Sp} {x : Str}
  (hn : l.most = some n) (hn2 : n ≤ sizeLine) (hdf : d.params.defaults = []) (hr : Room k callerA) (himp : importsNone q = true) (htree : l.prog.given.tree = none)
  (hY : ∀ (w : World) (h : Heap), YP w h → (K w.params).In h)
  (F : ∀ (w : World) (mg : Str → Option Value) (fa : Addr) (h : Heap), (K w.params).In h → h.Ns mainGlobals mg → mg d.name = some (.ref fa) →
   ∃ fd : FuncData, (∀ (s : Shared) (u : Value), BindsTo s fd ⟨[u], []⟩ [(x, u)]) ∧
    ∀ base : Heap, (K w.params).In base → base.Ns mainGlobals mg → FnOk l.prog w (K w.params) mg base (CX w) k fa fd [x] (sp w))
  (hsp : ∀ (w : World) (H : Hp) (a : Addr) (ns : List Int), ns.length ≤ n → Only H → SqL (K w.params) H a (ns.map V.int) → sp w [.ref a] H (fun v _ => v = .bl true) fun _ _ _ => False)
  (hCX : ∀ (w : World) (H : Hp) (s : Shared) (e : Value) (s' : Shared), CX w [] H s (fun _ _ _ => False) e s' → False) :
  PySem.W.WalkO q loose XP YP l.row.toRowW d [] (fun f vs => PySem.call f vs) := by
 refine Att.attach_call hn hdf fun w s₀ s₁ mg mb fa o pm cd doc a vs ns G Y ho hd hcd hmg hobj hints hlen hg => ?_
 have KX := hY w _ Y
 obtain ⟨fd, hb, hF⟩ := F w mg fa _ KX G.T.g hmg
 exact law_call KX G.T.g G.T.b G.T.builtins G.T.nolimit (G.T.seer himp) htree hg hobj hints (Nat.le_trans hlen hn2) hr hF hb (fun H hO hS => hsp w H a ns hlen hO hS) fun H e s' => hCX w H s₁ e s'
end L2
namespace L2
open PySem PySem.Spec PyProof.Rows
def zw (s : Stmt) : Arguments := match s with
 | .FunctionDef _ a _ _ _ _ _ _ _ _ => a
 | _ => { posonlyargs := [], args := [], vararg := none, kwonlyargs := [], kw_defaults := [], kwarg := none, defaults := [] }
def zt (s : Stmt) : List Stmt := match s with
 | .FunctionDef _ _ b _ _ _ _ _ _ _ => b
 | _ => []
def zh (s : Stmt) : Scope := match s with
 | .FunctionDef _ _ _ _ _ _ sc _ _ _ => sc
 | _ => { kind := .function, names := [], isGenerator := false, isCoroutine := false }
abbrev CX0 : CXT := fun _ _ _ _ _ _ => False
abbrev E0 : XK := fun _ _ _ => False
theorem pass0 {X : Cx} : Passes CX0 X E0 := fun _ _ _ _ _ _ _ h => h.elim
structure Fun (K : PySem.W.Frag) (x qual : Str) (st : Stmt) (f : Addr) (fd : FuncData) : Prop where
 ex : ∃ (oc : Value) (od : Option Addr) (kV doc pm : Value) (an : Option Addr) (cdv ct : Value) (osl : Array (Option Value)),
  fd = fnOf x qual (zw st) (zt st) (zh st) .none kV doc pm an cdv ct ∧ K.lookup f = some ⟨oc, od, .func fd, osl⟩ ∧ codeIn K cdv qual = true
 kp : keepIn K (.ref f) = true
section
variable {P : Program} {w : World} {K : PySem.W.Frag} {mg : Str → Option Value} {base : Heap}
theorem Fun.ok {x qual : Str} {st : Stmt} {f : Addr} {fd : FuncData} {N ps : List Str} {k : Nat} {sp : Sp} (F : Fun K x qual st f fd) (S : FnScope N ps (zh st)) (len : ∀ vs H Q E, sp vs H Q E → vs.length = ps.length)
  (hbody : ∀ (cdv : Value) (A : Around) (outer : List Env) (s : Shared) (H : Hp) (vs : List V) (Q : VK) (E : XK), Room k (A.deeper (envOfC qual (zh st) s.heap.objs.size f cdv)) → sp vs H Q E →
   ∃ t, PSs (cxOf CX0 P w K mg base N qual (zh st) f cdv A outer s H E).nox (zt st) t ∧ t { nx := fun _ H' => Q .non H', rt := Q } (start N vs) H) : FnOk P w K mg base CX0 (k + 1) f fd ps sp := by
 obtain ⟨oc, od, kV, doc, pm, an, cdv, ct, osl, rfl, lk, hcd⟩ := F.ex
 refine fn_of lk hcd S len fun A outer s H vs Q E hr hsp => ?_
 obtain ⟨t, h, q⟩ := hbody cdv A outer s H vs Q E hr hsp
 exact ⟨t, h.nox, q⟩
theorem Fun.binds {x qual : Str} {st : Stmt} {f : Addr} {fd : FuncData} {ps : List Str} (F : Fun K x qual st f fd)
  (h : ∀ (kV doc pm : Value) (an : Option Addr) (cdv ct : Value) (us : List Value), us.length = ps.length → bindArgs (fnOf x qual (zw st) (zt st) (zh st) .none kV doc pm an cdv ct) ⟨us, []⟩ = pure (ps.zip us)) : Binds K fd ps [] := by
 obtain ⟨oc, od, kV, doc, pm, an, cdv, ct, osl, rfl, lk, hcd⟩ := F.ex
 exact .all (h kV doc pm an cdv ct)
theorem zX {x qual : Str} {st : Stmt} {f : Addr} {oc : Value} {od an : Option Addr} {osl : Array (Option Value)} {kV doc pm cdv ct : Value} (l : K.lookup f = some ⟨oc, od, .func (fnOf x qual (zw st) (zt st) (zh st) .none kV doc pm an cdv ct), osl⟩)
  (c : codeIn K cdv qual = true) (k : keepIn K (.ref f) = true) : Fun K x qual st f (fnOf x qual (zw st) (zt st) (zh st) .none kV doc pm an cdv ct) := ⟨⟨oc, od, kV, doc, pm, an, cdv, ct, osl, rfl, l, c⟩, k⟩
end
section
variable {X : Cx}
theorem pv (i : Nat) {x : Str} {pos : Pos} (hN : X.N[i]? = some x := by rfl) (hv : Vis X.env.scope x := by first | exact Or.inl rfl | exact Or.inr (Or.inl rfl) | exact Or.inr (Or.inr rfl)) (hd : (x == ("__debug__" : Str)) = false := by decide)
  (hcd : (x == ("__classdict__" : Str)) = false := by decide) : PE X (.Name x pos) (tVar i) := pe_var hN hv hd hcd
end
def zJ (H H' : Hp) : Prop := ∀ b o, H b = some o → H' b = some o
theorem zJ.refl (H : Hp) : zJ H H := fun _ _ h => h
theorem zJ.trans {H H1 H2 : Hp} (a : zJ H H1) (b : zJ H1 H2) : zJ H H2 := fun c o h => b c o (a c o h)
theorem zJ.free {H H' : Hp} (e : zJ H H') {l : Addr} (h : H' l = Option.none) : H l = Option.none := by
 cases q : H l with
 | none => rfl
 | some o =>
  rw [e l o q] at h
  cases h
theorem zJ.seq {K : PySem.W.Frag} {H H' : Hp} {a : Addr} {xs : List V} (e : zJ H H') (h : SqL K H a xs) : SqL K H' a xs := by
 rcases h with (h | ⟨o, h⟩) | h
 ·exact .inl (.inl (e _ _ h))
 ·exact .inl (.inr ⟨o, e _ _ h⟩)
 ·exact .inr h
end L2
set_option maxHeartbeats 4000000
namespace L2
open PySem PySem.Spec PyProof.Rows
def clOf (env : Env) : List (Str × NameKind) → List (Str × Addr) → List (Str × Addr)
 | [], acc => acc
 | (n, k) :: r, acc => if k == .free then (match env.cells.lookup n with | some a => clOf env r ((n, a) :: acc) | none => clOf env r acc) else clOf env r acc
theorem closure_of {env : Env} {scope : Scope} (h : ∀ x ∈ scope.names, x.2 = .free → ∃ c, env.cells.lookup x.1 = some c) : closureFor scope env = pure (clOf env scope.names []) := by
 suffices ∀ (names : List (Str × NameKind)) (acc : List (Str × Addr)), (∀ x ∈ names, x.2 = .free → ∃ c, env.cells.lookup x.1 = some c) →
   (forIn names acc fun (x : Str × NameKind) cs => (do
    if x.2 == .free then
     let a ← cellOf env x.1
     pure (ForInStep.yield ((x.1, a) :: cs))
    else pure (ForInStep.yield cs) : Sem (ForInStep (List (Str × Addr))))) = pure (clOf env names acc) by
  have q := this scope.names [] h
  unfold closureFor
  refine Eq.trans (bind_pure _) ?_
  rw [← q]
 intro names
 induction names with
 | nil => intro acc _; rfl
 | cons x r ih =>
  intro acc h
  obtain ⟨n, k⟩ := x
  rw [List.forIn_cons]
  cases hk : k == NameKind.free with
  | false =>
   simp only [hk, Bool.false_eq_true, if_false, pure_bind]
   rw [ih acc fun y hy => h y (List.mem_cons_of_mem _ hy)]
   simp [clOf, hk]
  | true =>
   obtain ⟨c, hc⟩ := h (n, k) List.mem_cons_self (by simpa using hk)
   have hc' : env.cells.lookup n = some c := hc
   have e1 : cellOf env n = pure c := by unfold cellOf; rw [hc']
   simp only [hk, if_true, e1, pure_bind]
   rw [ih _ fun y hy => h y (List.mem_cons_of_mem _ hy)]
   simp [clOf, hk, hc']
theorem clOf_mem {env : Env} : ∀ (names : List (Str × NameKind)) (acc : List (Str × Addr)) (n : Str) (c : Addr), (n, c) ∈ clOf env names acc → (n, c) ∈ acc ∨ (∃ k, (n, k) ∈ names ∧ k = .free ∧ env.cells.lookup n = some c)
 | [], _, _, _, h => .inl h
 | (m, k) :: r, acc, n, c, h => by
  unfold clOf at h
  cases hk : k == NameKind.free with
  | false =>
   rw [hk] at h
   rcases clOf_mem r acc n c (by simpa using h) with q | ⟨k', q1, q2⟩
   ·exact .inl q
   ·exact .inr ⟨k', List.mem_cons_of_mem _ q1, q2⟩
  | true =>
   rw [hk] at h
   have hk' : k = .free := by simpa using hk
   cases hc : env.cells.lookup m with
   | none =>
    rw [hc] at h
    rcases clOf_mem r acc n c (by simpa using h) with q | ⟨k', q1, q2⟩
    ·exact .inl q
    ·exact .inr ⟨k', List.mem_cons_of_mem _ q1, q2⟩
   | some a =>
    rw [hc] at h
    rcases clOf_mem r _ n c (by simpa using h) with q | ⟨k', q1, q2⟩
    ·rcases List.mem_cons.mp q with e | q
     ·cases e; exact .inr ⟨k, List.mem_cons_self, hk', hc⟩
     ·exact .inl q
    ·exact .inr ⟨k', List.mem_cons_of_mem _ q1, q2⟩
theorem clOf_has {env : Env} : ∀ (names : List (Str × NameKind)) (acc : List (Str × Addr)) (n : Str), ((n, NameKind.free) ∈ names ∧ (∃ c, env.cells.lookup n = some c)) ∨ (acc.lookup n).isSome = true → ((clOf env names acc).lookup n).isSome = true
 | [], _, _, h => h.elim (fun ⟨q, _⟩ => nomatch q) id
 | (m, k) :: r, acc, n, h => by
  unfold clOf
  cases hk : k == NameKind.free with
  | false =>
   refine (clOf_has r acc n ?_)
   rcases h with ⟨q, c⟩ | h
   ·rcases List.mem_cons.mp q with e | q
    ·cases e; simp at hk
    ·exact .inl ⟨q, c⟩
   ·exact .inr h
  | true =>
   have hk' : k = .free := by simpa using hk
   subst hk'
   simp only [if_true]
   cases hc : env.cells.lookup m with
   | none =>
    refine (clOf_has r acc n ?_)
    rcases h with ⟨q, c, hc2⟩ | h
    ·rcases List.mem_cons.mp q with e | q
     ·cases e; rw [hc] at hc2; cases hc2
     ·exact .inl ⟨q, c, hc2⟩
    ·exact .inr h
   | some a =>
    refine (clOf_has r _ n ?_)
    by_cases e : n = m
    ·exact .inr (by simp [List.lookup_cons, e])
    ·have e' : (n == m) = false := by simpa using e
     rcases h with ⟨q, c⟩ | h
     ·rcases List.mem_cons.mp q with e2 | q
      ·cases e2; exact absurd rfl e
      ·exact .inl ⟨q, c⟩
     ·exact .inr (by simpa [List.lookup_cons, e'] using h)
theorem clOf_free {env : Env} {n : Str} {names : List (Str × NameKind)} (h : ((n, NameKind.free) ∈ names)) {c : Addr} (hc : env.cells.lookup n = some c) : (clOf env names []).lookup n = some c := by
 have q := clOf_has names [] n (.inl ⟨h, c, hc⟩)
 obtain ⟨c', e⟩ := Option.isSome_iff_exists.mp q
 rcases clOf_mem names [] n c' (mem_of_lookup e) with z | ⟨_, _, _, z⟩
 ·cases z
 ·rw [hc] at z; cases z; exact e
theorem newEnv_comp {M : Model} {A : Around} {E : Value → Shared → Prop} {s : Shared} {scope : Scope} {globals : Addr} {cl : List (Str × Addr)} {qual : Str} {env : Env} {Q : Env → Shared → Prop}
  (hQ : ∀ h', (∀ b o, s.heap.get? b = some o → h'.get? b = some o) → h'.Ns s.heap.objs.size (fun _ => none) →
   (∀ n c, (n, c) ∈ cellsFrom (s.heap.objs.size + 1) scope.names cl → (n, c) ∈ cl ∨ ((n, c) ∈ cellsFrom (s.heap.objs.size + 1) scope.names [] ∧ s.heap.objs.size < c ∧ h'.IsCell c none)) →
   ((cellsFrom (s.heap.objs.size + 1) scope.names []).Pairwise fun x y => x.2 ≠ y.2) →
   Q (newEnv scope s.heap.objs.size globals (cellsFrom (s.heap.objs.size + 1) scope.names cl) qual none .none (some env) builtinsNs) { s with heap := h' }) :
  wpAny M A (newFunctionEnv scope globals cl [] qual none .none (some env)) Q E s := by
 unfold newFunctionEnv
 simp only [Option.isSome_some, if_true]
 refine wpAny_bind (wpAny_alloc ?_)
 refine wpAny_bind (wpAny_layCells _ (fun name kind cells => by cases hkc : kind == NameKind.cell <;> simp [hkc]) _ _ _ _ ?_)
 have ok := cellsFrom_ok scope.names (s.heap.push { cls := .type "dict", data := .dict #[] }) (s.heap.objs.size + 1) [] ⟨fun _ _ hm => (nomatch hm), List.Pairwise.nil⟩ (by rw [Heap.size_push]; exact Nat.le_refl _)
 rw [Heap.size_push] at ok
 rw [show ({ s with heap := s.heap.push { cls := .type "dict", data := .dict #[] } } : Shared).heap.objs.size = s.heap.objs.size + 1 from Heap.size_push ..]
 simp only [List.forIn_nil, pure_bind]
 refine wpAny_pure (hQ _ (fun b o e => pushCells_keeps _ _ b o (Heap.get?_push_of_some _ e)) ((Heap.Ns.new s.heap (.type "dict")).keeps (pushCells_keeps _ _)) ?_ ok.apart)
 have app : ∀ (names : List (Str × NameKind)) (n : Nat) (acc : List (Str × Addr)) (x : Str × Addr), x ∈ cellsFrom n names (acc ++ cl) → x ∈ cl ∨ x ∈ cellsFrom n names acc := by
  intro names
  induction names with
  | nil => intro n acc x h; exact (List.mem_append.mp h).symm
  | cons y r ih =>
   intro n acc x h
   obtain ⟨m, k⟩ := y
   unfold cellsFrom at h ⊢
   split at h
   ·rename_i hk; rw [if_pos hk]; exact ih (n + 1) ((m, n) :: acc) x h
   ·rename_i hk; rw [if_neg hk]; exact ih n acc x h
 intro n c hm
 rcases app scope.names _ [] (n, c) hm with q | q
 ·exact .inl q
 ·obtain ⟨z1, z2⟩ := ok.empty n c q
  exact .inr ⟨q, z2, z1⟩
theorem codeAny_compLoop_gen {prog : Program} {w : World} {A : Around} {R : Result → Shared → Prop} {s : Shared} {elt target iter : Expr} {ifs : List Expr} {scope : Scope} {pos : Pos} {it acc : Value} {env : Env} (I : Nat → Shared → Prop)
  (turn : ∀ n s, I n s → wpAny (model prog w) A (pyNext it) (fun r s₁ => match r with
   | none => R (.ok .next) s₁
   | some v => wpAny (model prog w) A (letOwnedTupleGo target it v) (fun _ s₁' => wpAny (model prog w) A (assign target env v) (fun _ s₂ =>
     wpAny (model prog w) A (forIn ifs true fun c r => if r = true then do let ok ← isTrue c env (eval c env); pure (ForInStep.yield ok) else pure (ForInStep.yield r)) (fun ok s₃ =>
      if ok = true then wpAny (model prog w) A (eval elt env) (fun x s₄ =>
       wpAny (model prog w) A (call (.builtin "list.append") [acc, x]) (fun _ s₅ => ∃ m, m < n ∧ I m s₅) (fun _ _ => False) s₄) (fun _ _ => False) s₃
      else ∃ m, m < n ∧ I m s₃) (fun _ _ => False) s₂) (fun _ _ => False) s₁') (fun _ _ => False) s₁) (fun _ _ => False) s)
  (n : Nat) (h : I n s) :
  codeAny (model prog w) A (.compLoop (.ListComp elt [⟨target, iter, ifs, 0⟩] scope pos) 0 it acc env) R s := by
 refine codeAny_loop rfl I (fun n s hI => ?_) n h
 show wpAny _ A ((compTurn (.ListComp elt [⟨target, iter, ifs, 0⟩] scope pos) 0 it acc env).onRaise (fun x => do noteFrame x env; theTreesLotGoes x)) _ _ s
 refine wpAny_noted ?_
 rw [compTurn_list]
 refine wpAny_bind (wpAny_standAt (wpAny_bind (wpAny_mono (turn n s hI) (fun r s₁ h₁ => ?_) fun _ _ h' => h'.elim)))
 cases r with
 | none => exact wpAny_pure h₁
 | some v =>
  refine wpAny_bind (wpAny_mono h₁ (fun _ s₁' h₁' => ?_) fun _ _ h' => h'.elim)
  refine wpAny_bind (wpAny_mono h₁' (fun _ s₂ h₂ => wpAny_bind (wpAny_mono h₂ (fun ok s₃ h₃ => ?_) fun _ _ h' => h'.elim)) fun _ _ h' => h'.elim)
  cases ok with
  | false => exact wpAny_pure ⟨rfl, h₃⟩
  | true =>
   exact wpAny_bind (wpAny_bind (wpAny_mono h₃ (fun x s₄ h₄ => wpAny_bind (wpAny_mono h₄ (fun _ s₅ h₅ => wpAny_pure (wpAny_pure ⟨rfl, h₅⟩)) fun _ _ h' => h'.elim)) fun _ _ h' => h'.elim))
end L2
namespace L2
open PySem PySem.Spec PyProof.Rows
theorem lookup_relabel {env : Env} {x : Str} {k : NameKind} : ∀ {names : List (Str × NameKind)},
  (names.map fun (n, k) => if (k == NameKind.free && env.scope.kind == .function && env.kindOf n == some .cell) then (n, NameKind.cell) else (n, k)).lookup x = some k →
  ∃ k', names.lookup x = some k' ∧ (k = k' ∨ (k' = .free ∧ k = .cell))
 | [], h => by simp at h
 | (n, k') :: r, h => by
  have ih := @lookup_relabel env x k r
  rw [List.map_cons] at h
  by_cases hc : (k' == NameKind.free && env.scope.kind == .function && env.kindOf n == some .cell) = true
  ·simp only [hc, if_true] at h
   have hf : k' = .free := by
    simp only [Bool.and_eq_true, beq_iff_eq] at hc
    exact hc.1.1
   cases hx : x == n with
   | true => simp only [List.lookup_cons, hx] at h ⊢; cases h; exact ⟨k', rfl, .inr ⟨hf, rfl⟩⟩
   | false => simp only [List.lookup_cons, hx] at h ⊢; exact ih h
  ·have hc' : (k' == NameKind.free && env.scope.kind == .function && env.kindOf n == some .cell) = false := by simpa using hc
   simp only [hc', Bool.false_eq_true, if_false] at h
   cases hx : x == n with
   | true => simp only [List.lookup_cons, hx] at h ⊢; cases h; exact ⟨k, rfl, .inl rfl⟩
   | false => simp only [List.lookup_cons, hx] at h ⊢; exact ih h
theorem relabel_lookup {env : Env} {x : Str} {k' : NameKind} : ∀ {names : List (Str × NameKind)}, names.lookup x = some k' →
  ∃ k, (names.map fun (n, k) => if (k == NameKind.free && env.scope.kind == .function && env.kindOf n == some .cell) then (n, NameKind.cell) else (n, k)).lookup x = some k ∧ (k = k' ∨ (k' = .free ∧ k = .cell))
 | [], h => by simp at h
 | (n, k1) :: r, h => by
  have ih := @relabel_lookup env x k' r
  rw [List.map_cons]
  by_cases hc : (k1 == NameKind.free && env.scope.kind == .function && env.kindOf n == some .cell) = true
  ·simp only [hc, if_true]
   have hf : k1 = .free := by
    simp only [Bool.and_eq_true, beq_iff_eq] at hc
    exact hc.1.1
   cases hx : x == n with
   | true => simp only [List.lookup_cons, hx] at h ⊢; cases h; exact ⟨_, rfl, .inr ⟨hf, rfl⟩⟩
   | false => simp only [List.lookup_cons, hx] at h ⊢; exact ih h
  ·have hc' : (k1 == NameKind.free && env.scope.kind == .function && env.kindOf n == some .cell) = false := by simpa using hc
   simp only [hc', Bool.false_eq_true, if_false]
   cases hx : x == n with
   | true => simp only [List.lookup_cons, hx] at h ⊢; cases h; exact ⟨_, rfl, .inl rfl⟩
   | false => simp only [List.lookup_cons, hx] at h ⊢; exact ih h
theorem cellsFrom_skip {x : Str} : ∀ (names : List (Str × NameKind)) (n : Nat) (acc : List (Str × Addr)), (∀ y ∈ names, y.2 = .cell → y.1 ≠ x) → (cellsFrom n names acc).lookup x = acc.lookup x
 | [], _, _, _ => rfl
 | (m, k) :: r, n, acc, h => by
  unfold cellsFrom
  split
  ·rename_i hk
   rw [cellsFrom_skip r _ _ fun y hy => h y (List.mem_cons_of_mem _ hy)]
   have : x ≠ m := fun e => h (m, k) List.mem_cons_self (by simpa using hk) e.symm
   have e' : (x == m) = false := by simpa using this
   rw [List.lookup_cons, e']
  ·exact cellsFrom_skip r _ _ fun y hy => h y (List.mem_cons_of_mem _ hy)
def Zf (X : Cx) (scope : Scope) (own N' : List Str) (s₂ : Shared) (H₂ : Hp) (fp : List Addr) (C : Addr) : Cx where
 prog := X.prog
 w := X.w
 K := X.K
 mg := X.mg
 base := X.base
 A := X.A
 N := N'
 s₀ := s₂
 H₀ := H₂
 env := compEnvC scope (cellsFrom (C + 1) scope.names (clOf X.env scope.names [])) C X.env
 outer := X.stack
 stack := X.stack
 ex := fp
 fn := fun x => own.contains x
 calm := X.calm
 pn := []
 xe := fun _ _ => False
structure CompOk (X : Cx) (scope : Scope) (own N' : List Str) (k : Nat) : Prop where
 kind : scope.kind = .function
 loc : ∀ y ∈ scope.names, y.2 = .local → scope.names.lookup y.1 = some .local
 cel : ∀ y ∈ scope.names, y.2 = .cell → scope.names.lookup y.1 = some .cell
 free : ∀ y ∈ scope.names, y.2 = .free → X.env.scope.names.lookup y.1 = some .cell ∨ X.env.scope.names.lookup y.1 = some .free
 own : ∀ y ∈ scope.names, y.2 = .free → own.contains y.1 = false
 len : N'.length = X.N.length + k
 nm : ∀ (i : Nat) (x : Str), i < X.N.length → N'[i]? = some x → scope.names.lookup x = none ∨ (X.N[i]? = some x ∧ scope.names.lookup x = some .free)
def PF (X : Cx) (ifs : List Expr) (t : TT) : Prop :=
 ∀ (pins : List (Addr × Obj)) (s : Shared) (σ : St) (H : Hp) (Q : Bool → Hp → Prop), Inv X pins σ H s → t σ H Q →
  wpAny (model X.prog X.w) X.A (forIn ifs true fun c r => if r = true then do let ok ← isTrue c X.env (eval c X.env); pure (ForInStep.yield ok) else pure (ForInStep.yield r)) (TP X pins σ Q) X.xe s
def tYes : TT := fun _ H Q => Q true H
theorem pf_nil {X : Cx} : PF X [] tYes := fun pins s σ H Q I h => wpAny_pure ⟨H, I, h⟩
theorem pf_one {X : Cx} {c : Expr} {t : TT} (h : PT X c t) : PF X [c] t := fun pins s σ H Q I q => wpAny_tests_one (h pins s σ H Q I q)
def tComp (k : Nat) (wi : TI) (g : TG) (tc : TT) (te : TE) : TE := fun σ H Q => wi σ H fun J H1 => ∀ D, H1 D = none →
 ∃ W : Nat → Nat → List V → St → Hp → Prop, (∃ m, W 0 m [] (σ ++ List.replicate k none) (upd H1 D (.lst []))) ∧ ∀ i m ys σ' H', W i m ys σ' H' → H' D = some (.lst ys) ∧
  ((J.stop i H' ∧ Q (.ref D) H') ∨ (J.go i H' ∧ ∀ x H2, J.yld i H' x H2 → g x σ' H2 fun σ3 H3 => tc σ3 H3 fun b H4 =>
   if b = true then te σ3 H4 fun v H5 => H5 D = some (.lst ys) ∧ ys.length < sizeLine ∧ ∃ m', m' < m ∧ W (i + 1) m' (ys ++ [v]) σ3 (upd H5 D (.lst (ys ++ [v])))
   else ∃ m', m' < m ∧ W (i + 1) m' ys σ3 H4))
section
variable {X : Cx} {scope : Scope} {own N' : List Str} {k : Nat}
theorem inv_comp {pins : List (Addr × Obj)} {σ : St} {H : Hp} {s : Shared} {fp : List Addr} {h' : Heap} {t' : Nat} {h1 : Heap} {D : Addr} (c : CompOk X scope own N' k) (I : Inv X pins σ H s) (hf : ∀ b ∈ fp, FpOk X pins H b) (hfl : ∀ b ∈ fp, b < s.heap.objs.size)
  (h1sz : s.heap.objs.size < h1.objs.size) (up1 : ∀ b o, s.heap.get? b = some o → h1.get? b = some o) (hD : H D = none) (un1 : Un (frs X.stack) fp H (upd H D (.lst [])) s.heap h1) (hok1 : HOk X.prog X.w (upd H D (.lst [])) h1)
  (up : ∀ b o, h1.get? b = some o → h'.get? b = some o) (ns : h'.Ns h1.objs.size (fun _ => none))
  (cs : ∀ n a, (n, a) ∈ cellsFrom (h1.objs.size + 1) scope.names (clOf X.env scope.names []) → (n, a) ∈ clOf X.env scope.names [] ∨ ((n, a) ∈ cellsFrom (h1.objs.size + 1) scope.names [] ∧ h1.objs.size < a ∧ h'.IsCell a none))
  (ap : (cellsFrom (h1.objs.size + 1) scope.names []).Pairwise fun x y => x.2 ≠ y.2) :
  Inv (Zf X scope own N' s H fp h1.objs.size) [] (σ ++ List.replicate k none) (upd H D (.lst [])) { s with heap := h', toks := t' } := by
 have hCs : s.heap.objs.size ≤ h1.objs.size := Nat.le_of_lt h1sz
 have old : ∀ n a, (n, a) ∈ clOf X.env scope.names [] → X.env.cells.lookup n = some a := fun n a hm => by
  rcases clOf_mem _ _ _ _ hm with z | ⟨_, _, _, z⟩
  ·cases z
  ·exact z
 have oldlt : ∀ n a, (n, a) ∈ clOf X.env scope.names [] → @LT.lt Nat instLTNat a s.heap.objs.size := fun n a hm => by
  obtain ⟨v, q⟩ := I.cell n a (old n a hm)
  exact q.lt
 have inj : ∀ x y a, (x, a) ∈ cellsFrom (h1.objs.size + 1) scope.names (clOf X.env scope.names []) → (y, a) ∈ cellsFrom (h1.objs.size + 1) scope.names (clOf X.env scope.names []) → x = y := fun x y a hx hy => by
  rcases cs x a hx with p | ⟨p, p1, _⟩ <;> rcases cs y a hy with q | ⟨q, q1, _⟩
  ·exact I.ok.inj x y a (old _ _ p) (old _ _ q)
  ·have := oldlt _ _ p; omega
  ·have := oldlt _ _ q; omega
  ·exact name_of_addr ap p q
 have freeC : ∀ x a, (x, a) ∈ cellsFrom (h1.objs.size + 1) scope.names (clOf X.env scope.names []) → (upd H D (.lst [])) a = none := fun x a hx => by
  rcases cs x a hx with p | ⟨p, p1, _⟩
  ·obtain ⟨v, o, ho, hd⟩ := I.cell x a (old _ _ p)
   refine un1.free a o ho (I.freeC x a (old _ _ p)) fun z => ?_
   exact (hf a z).2.2.2.2.1 x a (old _ _ p) rfl
  ·exact hok1.fresh (Nat.le_of_lt p1)
 have fsn : ∀ b ∈ frs X.stack, b < s.heap.objs.size := fun b hb => by
  obtain ⟨_, o, ho, _⟩ := I.stack.mem hb
  exact Heap.lt_size ho
 refine ⟨⟨I.ok.mod, c.kind, I.ok.glob, I.ok.blt, hCs, fun x y a h1' h2' => inj x y a (mem_of_lookup h1') (mem_of_lookup h2'), fun x hx => ?_, fun x a hx ha => ?_, I.ok.hd, I.ok.frames, .inl rfl, fun b hb => ⟨?_, fun x a ha => ?_⟩, I.bs, Nat.le_trans I.ok.bsz I.sz, fun b o e hb => ?_, fun b hb hb2 => ?_, I.stack, I.stkFree, I.ok.top, I.ok.tree⟩,
  rfl, I.bare, un1.trans (Un.kept up), ⟨_, ns, fun i x v e1 e2 e3 => ?_⟩, fun x a ha => ?_, ?_, fun x a ha => freeC x a (mem_of_lookup ha), fun p hp => absurd (show p ∈ ([] : List (Addr × Obj)) from hp) (by simp), hok1.kept up, ?_⟩
 ·-- has
  have hx' : (scope.names.map fun (n, k) => if (k == NameKind.free && X.env.scope.kind == .function && X.env.kindOf n == some .cell) then (n, NameKind.cell) else (n, k)).lookup x = some .cell ∨ (scope.names.map fun (n, k) => if (k == NameKind.free && X.env.scope.kind == .function && X.env.kindOf n == some .cell) then (n, NameKind.cell) else (n, k)).lookup x = some .free := hx
  have hk : scope.names.lookup x = some .cell ∨ scope.names.lookup x = some .free := by
   rcases hx' with z | z
   ·obtain ⟨k', e, q⟩ := lookup_relabel z
    rcases q with q | ⟨q, _⟩
    ·exact .inl (by rw [e, ← q])
    ·exact .inr (by rw [e, q])
   ·obtain ⟨k', e, q⟩ := lookup_relabel z
    rcases q with q | ⟨q, _⟩
    ·exact .inr (by rw [e, ← q])
    ·exact .inr (by rw [e, q])
  refine Option.isSome_iff_exists.mp (PySem.W.cellsFrom_some scope.names _ _ ?_)
  rcases hk with z | z
  ·exact .inl z
  ·refine .inr (clOf_has _ _ _ (.inl ⟨mem_of_lookup z, ?_⟩))
   rcases c.free (x, .free) (mem_of_lookup z) rfl with q | q
   ·exact I.ok.has x (.inl q)
   ·exact I.ok.has x (.inr q)
 ·-- cab
  rcases cs x a (mem_of_lookup ha) with p | ⟨p, p1, _⟩
  ·rcases clOf_mem _ _ _ _ p with z | ⟨k', z1, z2, _⟩
   ·cases z
   ·have := c.own (x, k') z1 z2
    have hx' : own.contains x = true := hx
    rw [hx'] at this; cases this
  ·exact Nat.le_trans hCs (Nat.le_of_lt p1)
 ·exact Nat.ne_of_lt (Nat.lt_of_lt_of_le (hfl b hb) hCs)
 ·rcases cs x a (mem_of_lookup ha) with p | ⟨p, p1, _⟩
  ·exact (hf b hb).2.2.2.2.1 x a (old _ _ p)
  ·have q : @LT.lt Nat instLTNat b s.heap.objs.size := hfl b hb
   exact fun z => by subst z; omega
 ·-- noex
  have hb : b ∈ fp := hb
  rcases (hf b hb).2.2.2.1 with z | z
  ·exact I.ok.noex b o e z
  ·have q1 : @LT.lt Nat instLTNat b X.base.objs.size := Heap.lt_size e
   have := I.ok.bsz
   omega
 ·have hb : b ∈ fp := hb
  rcases List.mem_cons.mp (I.stkSub b hb2) with z | z
  ·exact (hf b hb).2.1 z
  ·exact (hf b hb).2.2.1 z
 ·-- loc
  have hiσ : i < σ.length := by
   by_cases hi : i < σ.length
   ·exact hi
   ·rw [List.getElem?_append_right (by omega), List.getElem?_replicate] at e2
    split at e2 <;> cases e2
  rw [List.getElem?_append_left hiσ] at e2
  have hiN : i < X.N.length := by rw [← I.len]; exact hiσ
  have e1 : N'[i]? = some x := e1
  have vis : scope.names.lookup x ≠ none := by
   have e3 : Vis (relabel scope X.env) x := e3
   unfold Vis at e3
   rcases e3 with z | z | z <;> (obtain ⟨k', q, _⟩ := lookup_relabel z; rw [q]; simp)
  rcases c.nm i x hiN e1 with z | ⟨z1, z2⟩
  ·exact absurd z vis
  obtain ⟨m, hn, hl⟩ := I.loc
  have hfr := c.free (x, .free) (mem_of_lookup z2) rfl
  obtain ⟨u, r, l⟩ := hl i x v z1 e2 (hfr.elim (fun q => .inr (.inl q)) fun q => .inr (.inr q))
  refine ⟨u, r, ?_⟩
  rcases l with ⟨kk, _⟩ | ⟨kk, a, ea, ca⟩
  ·have kk : X.env.scope.names.lookup x = some .local := kk
   rcases hfr with q | q
   ·have q : X.env.scope.names.lookup x = some .cell := q
    rw [kk] at q; cases q
   ·have q : X.env.scope.names.lookup x = some .free := q
    rw [kk] at q; cases q
  ·obtain ⟨k2, q1, q2⟩ := relabel_lookup (env := X.env) z2
   refine .inr ⟨?_, a, ?_, ?_⟩
   ·rcases q2 with q2 | ⟨_, q2⟩
    ·exact .inr (by subst q2; exact q1)
    ·exact .inl (by subst q2; exact q1)
   ·show (cellsFrom (h1.objs.size + 1) scope.names (clOf X.env scope.names [])).lookup x = some a
    rw [cellsFrom_skip scope.names _ _ fun y hy hk e => by
     have := c.cel y hy hk
     rw [e, z2] at this; cases this]
    exact clOf_free (mem_of_lookup z2) ea
   ·exact (ca.keeps up1).keeps up
 ·-- cells
  rcases cs x a (mem_of_lookup ha) with p | ⟨p, p1, p2⟩
  ·obtain ⟨v, q⟩ := I.cell x a (old _ _ p)
   exact ⟨v, (q.keeps up1).keeps up⟩
  ·exact ⟨none, p2⟩
 ·exact hok1.fresh (Nat.le_refl _)
 ·show (σ ++ List.replicate k none).length = N'.length
  rw [List.length_append, List.length_replicate, I.len, c.len]
theorem Un.but {fs ex : List Addr} {H H' : Hp} {h h1 h2 : Heap} {C : Addr} (u : Un fs ex H H' h h1) (hs : Heap.SameBut C h1 h2) (hC : h.objs.size ≤ C) : Un fs ex H H' h h2 := by
 have ne : ∀ b o, h.get? b = some o → b ≠ C := fun b o e => Nat.ne_of_lt (Nat.lt_of_lt_of_le (Heap.lt_size e) hC)
 exact ⟨fun b o e n hb hx => (hs.2 b (ne b o e)).trans (u.keep b o e n hb hx), fun b o e n hb hx => by
   obtain ⟨sl, q⟩ := u.slot b o e n hb hx
   exact ⟨sl, (hs.2 b (ne b o e)).trans q⟩, u.free, fun b o e hx => by
   obtain ⟨o', q⟩ := u.there b o e hx
   exact ⟨o', (hs.2 b (ne b o e)).trans q⟩, u.tups, u.frzs, u.tbls⟩
theorem HOk.but {P : Program} {w : World} {H : Hp} {h h2 : Heap} {C : Addr} (ok : HOk P w H h) (hs : Heap.SameBut C h h2) (hC : H C = none) : HOk P w H h2 := fun b o e =>
 (ok b o e).stay (fun c v hc q => (hs.2 c (by
  rintro rfl
  rcases hc with rfl | hc
  ·rw [hC] at e; cases e
  ·rw [hC] at hc; cases hc)).trans q) (fun _ q => q) fun _ _ q => q
theorem comp_block {elt target iter : Expr} {ifs : List Expr} {pos : Pos} {g : TG} {tc : TT} {te : TE} (c : CompOk X scope own N' k) (hc : X.calm = true)
  (hg : ∀ s₂ H₂ fp C, PG (Zf X scope own N' s₂ H₂ fp C) target g) (ht : ∀ s₂ H₂ fp C, PF (Zf X scope own N' s₂ H₂ fp C) ifs tc) (he : ∀ s₂ H₂ fp C, PE (Zf X scope own N' s₂ H₂ fp C) elt te)
  {pins : List (Addr × Obj)} {σ : St} {H : Hp} {s : Shared} {E : Value → Shared → Prop} {Q : VK} {it : Addr} {fp : List Addr} {tn : Nat → Heap → Prop} {J : It} (I : Inv X pins σ H s) (T : Turn X.prog X.w X.K target J fp it tn) (st : tn 0 s.heap) (hf : ∀ b ∈ fp, FpOk X pins H b)
  (hw : ∀ D, H D = none → ∃ W : Nat → Nat → List V → St → Hp → Prop, (∃ m, W 0 m [] (σ ++ List.replicate k none) (upd H D (.lst []))) ∧ ∀ i m ys σ' H', W i m ys σ' H' → H' D = some (.lst ys) ∧
   ((J.stop i H' ∧ Q (.ref D) H') ∨ (J.go i H' ∧ ∀ x H2, J.yld i H' x H2 → g x σ' H2 fun σ3 H3 => tc σ3 H3 fun b H4 =>
    if b = true then te σ3 H4 fun v H5 => H5 D = some (.lst ys) ∧ ys.length < sizeLine ∧ ∃ m', m' < m ∧ W (i + 1) m' (ys ++ [v]) σ3 (upd H5 D (.lst (ys ++ [v])))
    else ∃ m', m' < m ∧ W (i + 1) m' ys σ3 H4)))
  {RR : Value → Addr → Result → Shared → Prop}
  (hR : ∀ D C σ' H' s', s.heap.objs.size ≤ C → Inv (Zf X scope own N' s H fp C) [] σ' H' s' → Q (.ref D) H' → RR (.ref D) C (.ok .next) s') :
  wpAny (model X.prog X.w) X.A (newList []) (fun acc s₃ => wpAny (model X.prog X.w) X.A (newFunctionEnv scope X.env.globals (clOf X.env scope.names []) [] X.env.qual none .none (some X.env)) (fun cenv s₄ =>
   codeAny (model X.prog X.w) X.A (.compStart (.ListComp elt [⟨target, iter, ifs, 0⟩] scope pos) 0 (.ref it) acc { cenv with scope := relabel scope X.env }) (RR acc cenv.locals) s₄) E s₃) E s := by
 have hfl : ∀ b ∈ fp, b < s.heap.objs.size := fun b hb => by
  obtain ⟨o, e, _⟩ := T.obj 0 s.heap st b hb
  exact Heap.lt_size e
 refine wpAny_newObj_type ?_
 have fr : H s.heap.objs.size = none := I.hok.fresh (Nat.le_refl _)
 have up1 : ∀ b o, s.heap.get? b = some o → (s.heap.push { cls := .type "list", dict := none, data := .seq ([] : List Value).toArray }).get? b = some o := fun b o e => Heap.get?_push_of_some _ e
 have ok1 : HOk X.prog X.w (upd H s.heap.objs.size (.lst [])) (s.heap.push { cls := .type "list", dict := none, data := .seq ([] : List Value).toArray }) :=
  I.hok.laid up1 (Nat.le_refl _) ⟨Nat.zero_le _, [], 0, .nil, Heap.get?_push_size _ rfl⟩
 have un1 : Un (frs X.stack) fp H (upd H s.heap.objs.size (.lst [])) s.heap (s.heap.push { cls := .type "list", dict := none, data := .seq ([] : List Value).toArray }) := Un.laid up1 (Nat.le_refl _) fr
 have sz1 : s.heap.objs.size < (s.heap.push { cls := .type "list", dict := none, data := .seq ([] : List Value).toArray }).objs.size := by rw [Heap.size_push]; exact Nat.lt_succ_self _
 generalize (s.heap.push { cls := .type "list", dict := none, data := .seq ([] : List Value).toArray }) = h1 at up1 ok1 un1 sz1 ⊢
 refine newEnv_comp fun h' up ns cs ap => ?_
 dsimp only at up ns cs ap ⊢
 obtain ⟨W, ⟨m0, w0⟩, turn⟩ := hw _ fr
 have I4 : Inv (Zf X scope own N' s H fp h1.objs.size) [] (σ ++ List.replicate k none) (upd H s.heap.objs.size (.lst [])) { s with heap := h' } := inv_comp (t' := s.toks) c I hf hfl sz1 up1 fr un1 ok1 up ns cs ap
 have st4 : tn 0 h' := T.keep 0 _ _ st fun b hb o e => up b o (up1 b o e)
 have fr4 : ∀ b ∈ fp, (upd H s.heap.objs.size (.lst [])) b = none := fun b hb => by
  rw [zA (Nat.ne_of_lt (hfl b hb))]; exact (hf b hb).1
 generalize ha : s.heap.objs.size = D at *
 have stat : ∀ {H' : Hp} , (∀ b ∈ fp, H' b = none) → ∀ b ∈ fp, FpOk (Zf X scope own N' s H fp h1.objs.size) [] H' b := fun hn b hb => ⟨hn b hb, (I4.ok.exf b hb).1, I4.ok.exfs b hb, .inl hb, (I4.ok.exf b hb).2, fun p hp => absurd (show p ∈ ([] : List (Addr × Obj)) from hp) (by simp)⟩
 have loop : codeAny (model X.prog X.w) X.A (.compLoop (.ListComp elt [⟨target, iter, ifs, 0⟩] scope pos) 0 (.ref it) (.ref D) (Zf X scope own N' s H fp h1.objs.size).env) (RR (.ref D) h1.objs.size) { s with heap := h' } := by
  refine codeAny_compLoop_gen (fun n s' => ∃ i ys σ' H', Inv (Zf X scope own N' s H fp h1.objs.size) [] σ' H' s' ∧ tn i s'.heap ∧ (∀ b ∈ fp, H' b = none) ∧ W i n ys σ' H') ?_ m0 ⟨0, [], _, _, I4, st4, fr4, w0⟩
  rintro n s3 ⟨i, ys, σ3, H3, I3, st3, fr3, w3⟩
  obtain ⟨hD3, alt⟩ := turn i n ys σ3 H3 w3
  rcases alt with ⟨stop, qn⟩ | ⟨go, step⟩
  ·refine thn (T.done (Zf X scope own N' s H fp h1.objs.size) rfl rfl rfl hc i [] s3 σ3 H3 _ I3 (stat fr3) st3 stop) fun r s4 ⟨hr, I4'⟩ => ?_
   subst hr
   exact hR D _ σ3 H3 s4 (Nat.le_of_lt sz1) I4' qn
  ·refine thn (T.item (Zf X scope own N' s H fp h1.objs.size) rfl rfl rfl hc i [] s3 σ3 H3 _ I3 (stat fr3) st3 go) fun r s4 ⟨u, hr, h4⟩ => ?_
   subst hr
   refine thn h4 fun _ s5 ⟨x, H5, I5, r5, y5, st5, fr5⟩ => ?_
   have I5' := I5.pinned (stat fr5) (T.obj _ _ st5)
   refine thn (hg s H fp h1.objs.size _ s5 σ3 H5 x u _ I5' r5 (step x H5 y5)) fun _ s6 ⟨σ6, H6, I6, q6⟩ => ?_
   refine thn (ht s H fp h1.objs.size _ s6 σ6 H6 _ I6 q6) fun b s7 ⟨H7, I7, q7⟩ => ?_
   have again : ∀ {ys' : List V} {σ8 : St} {H8 : Hp} {s8 : Shared} {m' : Nat}, Inv (Zf X scope own N' s H fp h1.objs.size) ([] ++ pinsAt fp s5.heap) σ8 H8 s8 → m' < n → W (i + 1) m' ys' σ8 H8 → ∃ m, m < n ∧ ∃ i ys σ' H', Inv (Zf X scope own N' s H fp h1.objs.size) [] σ' H' s8 ∧ tn i s8.heap ∧ (∀ b ∈ fp, H' b = none) ∧ W i m ys σ' H' := fun {ys' σ8 H8 s8 m'} I8 hm w8 => by
    refine ⟨m', hm, i + 1, ys', σ8, H8, I8.unpinned, T.keep _ _ _ st5 fun b hb o e => (I8.pin (b, o) (List.mem_append_right _ (List.mem_append_right _ (mem_pinsAt hb e)))).1, fun b hb => ?_, w8⟩
    obtain ⟨o, e, d⟩ := T.obj _ _ st5 b hb
    exact (I8.pin (b, o) (List.mem_append_right _ (List.mem_append_right _ (mem_pinsAt hb e)))).2.1
   cases b with
   | false =>
    obtain ⟨m', hm, w7⟩ : ∃ m', m' < n ∧ W (i + 1) m' ys σ6 H7 := q7
    exact again I7 hm w7
   | true =>
    show wpAny _ _ (eval elt (Zf X scope own N' s H fp h1.objs.size).env) _ _ s7
    refine thn (he s H fp h1.objs.size _ s7 σ6 H7 _ I7 q7) fun u8 s8 ⟨v8, H8, I8, r8, hD8, hz8, m', hm, w8⟩ => ?_
    refine thn (mt_append (X := Zf X scope own N' s H fp h1.objs.size) _ s8 σ6 H8 (.ref D) [v8] (.ref D) [u8] (fun _ H9 => H9 = upd H8 D (.lst (ys ++ [v8]))) I8 rfl (.cons r8 .nil) ⟨D, ys, v8, rfl, rfl, hD8, hz8, rfl⟩) fun _ s9 ⟨_, H9, I9, _, e9⟩ => ?_
    subst e9
    exact again I9 hm w8
 exact codeAny_compStart_list loop (T.self _ 0 _ _ _ st4 loop)
theorem clos_ok (c : CompOk X scope own N' k) (hX : X.Ok) : closureFor scope X.env = pure (clOf X.env scope.names []) := closure_of fun x hx hk => by
 rcases c.free x hx hk with q | q
 ·exact hX.has x.1 (.inl q)
 ·exact hX.has x.1 (.inr q)
theorem after_comp {pins : List (Addr × Obj)} {σ σ' : St} {H H' : Hp} {s s' : Shared} {fp : List Addr} {C : Addr} {h2 : Heap} (I : Inv X pins σ H s) (hf : ∀ b ∈ fp, FpOk X pins H b) (hC : s.heap.objs.size ≤ C) (J : Inv (Zf X scope own N' s H fp C) [] σ' H' s') (hs : Heap.SameBut C s'.heap h2) :
  Inv X pins σ H' { s' with heap := h2 } :=
 I.call' (s' := { s' with heap := h2 }) (ch := fp) J.os (J.base.but hs hC) (J.hok.but hs J.free) J.bare fun b hb => ⟨(hf b hb).2.2.2.1, (hf b hb).2.1, (hf b hb).2.2.2.2.1, (hf b hb).2.2.2.2.2⟩
theorem pe_comp {elt target iter : Expr} {ifs : List Expr} {pos : Pos} {wi : TI} {g : TG} {tc : TT} {te : TE} (c : CompOk X scope own N' k) (hc : X.calm = true) (hi : PI X target iter wi)
  (hg : ∀ s₂ H₂ fp C, PG (Zf X scope own N' s₂ H₂ fp C) target g) (ht : ∀ s₂ H₂ fp C, PF (Zf X scope own N' s₂ H₂ fp C) ifs tc) (he : ∀ s₂ H₂ fp C, PE (Zf X scope own N' s₂ H₂ fp C) elt te)
  (hs : ∀ x, foldedSetIterable iter X.env x = pure x := by intro _; rfl) : PE X (.ListComp elt [⟨target, iter, ifs, 0⟩] scope pos) (tComp k wi g tc te) := by
 intro pins s σ H Q I h
 rw [eval_ListComp]
 refine wpAny_comprehension_free (use := none) rfl hs (clos_ok c I.ok) c.kind c.loc ?_
 refine thn (hi pins s σ H _ I h) fun v s1 h1 => thn h1 fun itv s2 h2 => ?_
 obtain ⟨it, fp, tn, J, H2, e, I2, T, st2, f2, hw⟩ := h2
 subst e
 refine comp_block (RR := fun acc C => compPost (model X.prog X.w) X.A X.xe none (EP X pins σ Q) acc C) c hc hg ht he I2 T st2 f2 hw ?_
 intro D C σ' H' s' hC J' q
 obtain ⟨m, hn, _⟩ := J'.loc
 exact ⟨m, hn, fun h2 hs2 => ⟨.ref D, H', after_comp I2 f2 hC J' hs2, rfl, q⟩⟩
theorem ps_setComp {i : Nat} {x : Str} {pos' spos : Pos} {elt target iter : Expr} {ifs : List Expr} {pos : Pos} {wi : TI} {g : TG} {tc : TT} {te : TE} (hN : X.N.Nodup) (hix : X.N[i]? = some x) (hx : X.env.scope.names.lookup x = some .local) (c : CompOk X scope own N' k) (hc : X.calm = true) (hi : PI X target iter wi)
  (hg : ∀ s₂ H₂ fp C, PG (Zf X scope own N' s₂ H₂ fp C) target g) (ht : ∀ s₂ H₂ fp C, PF (Zf X scope own N' s₂ H₂ fp C) ifs tc) (he : ∀ s₂ H₂ fp C, PE (Zf X scope own N' s₂ H₂ fp C) elt te)
  (hsw : swapsWith (.ListComp elt [⟨target, iter, ifs, 0⟩] scope pos) (some (.Name x pos')) spos.line X.env = pure true)
  (hs : ∀ x, foldedSetIterable iter X.env x = pure x := by intro _; rfl) : PS X (.Assign [.Name x pos'] (.ListComp elt [⟨target, iter, ifs, 0⟩] scope pos) spos) (tAsg (tComp k wi g tc te) (gName i)) := by
 intro pins s σ H Dn I h
 rw [exec_Assign_Name_used _ _ _ _ hsw]
 refine wpAny_bind (wpAny_standAt (wpAny_bind ?_))
 show wpAny _ X.A (do let _ ← comprehension (.ListComp elt [⟨target, iter, ifs, 0⟩] scope pos) scope X.env _ (newList []) false (eval iter X.env) (some (assign (.Name x pos') X.env))) _ _ s
 refine wpAny_bind (thn (wpAny_comprehension_free (use := some (assign (.Name x pos') X.env)) (Q := fun _ s' => SP X pins Dn .next s') rfl hs (clos_ok c I.ok) c.kind c.loc ?_) fun _ s' hq => wpAny_pure (wpAny_pure hq))
 refine thn (hi pins s σ H _ I h) fun v s1 h1 => thn h1 fun itv s2 h2 => ?_
 obtain ⟨it, fp, tn, J, H2, e, I2, T, st2, f2, hw⟩ := h2
 subst e
 refine comp_block (Q := fun x H1 => gName i x σ H1 Dn.nx) (RR := fun acc C => compPost (model X.prog X.w) X.A X.xe (some (assign (.Name x pos') X.env)) (fun _ s' => SP X pins Dn .next s') acc C) c hc hg ht he I2 T st2 f2 hw ?_
 intro D C σ' H' s' hC J' q
 obtain ⟨m, hn, _⟩ := J'.loc
 have I3 : Inv X pins σ H' s' := after_comp I2 f2 hC J' (.refl ..)
 show wpAny _ X.A (assign (.Name x pos') X.env (.ref D)) _ _ _
 refine wpAny_assign_Name (store_ok2 (v := .ref D) I3 hN hix (.inl hx) rfl (fun s4 I4 ⟨a, sb, ha⟩ => ?_) (.inr hx))
 have hLa : a = X.env.locals ∨ X.env.cells.lookup x = some a := ha
 have hlt : @LT.lt Nat instLTNat a s2.heap.objs.size := by
  rcases hLa with z | z
  ·rw [z]; exact I2.lt
  ·obtain ⟨v, q⟩ := I2.cell x a z
   exact q.lt
 have hne : C ≠ a := by omega
 refine ⟨m, hn.sameBut sb hne, fun h2 hs2 => ⟨_, H', ?_, q⟩⟩
 have hpin : ∀ p ∈ X.pn ++ pins, p.1 ≠ C := fun p hp z => by
  exact absurd (Nat.lt_of_lt_of_le (Heap.lt_size (I2.pin p hp).1) hC) (by rw [z]; exact Nat.lt_irrefl _)
 have hcell : ∀ y a, X.env.cells.lookup y = some a → a ≠ C := fun y a e z => by
  obtain ⟨v, q⟩ := I2.cell y a e
  exact absurd (Nat.lt_of_lt_of_le q.lt hC) (by rw [z]; exact Nat.lt_irrefl _)
 exact I4.turned (t' := s4.toks) (fun b o hb e => (hs2.2 b hb).trans e) J'.free (fun z => absurd (Nat.lt_of_lt_of_le I2.lt hC) (by rw [z]; exact Nat.lt_irrefl _)) (.inr (Nat.le_trans I2.sz hC)) hcell hpin
end
end L2
namespace L2
open PySem
def itCls : Bool → String
 | true => "list_iterator"
 | false => "tuple_iterator"
def Zv (k : Bool) (h : Heap) (it l : Addr) (i : Nat) : Prop := ∃ o, h.get? it = some o ∧ o.cls = .type (itCls k) ∧ o.data = .fields #[.ref l, .int i 0]
def SeqAt : Bool → Heap → Addr → Array Value → Prop
 | true, h, l, xs => h.IsList l xs
 | false, h, l, xs => h.IsTuple l xs
theorem Zv.at {k : Bool} {h h' : Heap} {it l : Addr} {i : Nat} (x : Zv k h it l i) (e : ∀ o, h.get? it = some o → h'.get? it = some o) : Zv k h' it l i := let ⟨o, ho, r⟩ := x; ⟨o, e o ho, r⟩
theorem Zv.but {k : Bool} {h h' : Heap} {it l b : Addr} {i : Nat} (x : Zv k h it l i) (e : Heap.ExtBut b h h') (n : it ≠ b) : Zv k h' it l i := x.at fun o q => e it o n q
theorem SeqAt.at {k : Bool} {h h' : Heap} {l : Addr} {xs : Array Value} (x : SeqAt k h l xs) (e : ∀ o, h.get? l = some o → h'.get? l = some o) : SeqAt k h' l xs := by
 cases k with
 | true => obtain ⟨o, ho, r⟩ := x; exact ⟨o, e o ho, r⟩
 | false => obtain ⟨o, ho, r⟩ := x; exact ⟨o, e o ho, r⟩
theorem SeqAt.but {k : Bool} {h h' : Heap} {l b : Addr} {xs : Array Value} (x : SeqAt k h l xs) (e : Heap.ExtBut b h h') (n : l ≠ b) : SeqAt k h' l xs := x.at fun o q => e l o n q
theorem SeqAt.lt {k : Bool} {h : Heap} {l : Addr} {xs : Array Value} (x : SeqAt k h l xs) : l < h.objs.size := by
 cases k with
 | true => obtain ⟨o, ho, r⟩ := x; exact Heap.lt_size ho
 | false => obtain ⟨o, ho, r⟩ := x; exact Heap.lt_size ho
section
variable {prog : Program} {w : World} {A : Around} {E : Value → Shared → Prop} {s : Shared}
theorem nextOf_tup_item {it t : Addr} {i : Nat} {xs : Array Value} {x : Value} {Q : Value → Shared → Prop} (hi : s.heap.IsTupleIter it t i) (hl : s.heap.IsTuple t xs) (hx : xs[i]? = some x)
  (hQ : ∀ h', h'.IsTupleIter it t (i + 1) → Heap.SameBut it s.heap h' → Q x { s with heap := h' }) : wpAny (model prog w) A (Builtin.SmallTypes.nextOf (.ref it)) Q E s := by
 obtain ⟨o, ho, hc, hd⟩ := id hi
 obtain ⟨ot, hot, _, nt, hdt⟩ := hl
 unfold Builtin.SmallTypes.nextOf
 refine wpAny_bind (wpAny_callSpecial?_slot (name := Str.ofString "__next__") hi.typeIs F.slot_tuple_iterator_next (wpAny_call_entry F.slot_tuple_iterator_next hi.typeIs F.entry_tuple_iterator_next ?_ (F.args_tuple_iterator_next_1 _)))
 show wpAny _ _ (field (.ref it) 0 >>= _) _ _ s; refine wpAny_bind (wpAny_field ho hd (x := .ref t) rfl ?_)
 show wpAny _ _ (if (Value.ref t == Value.none) = true then _ else _) _ _ s; rw [if_neg (show ¬ ((Value.ref t == Value.none) = true) from Bool.false_ne_true)]
 show wpAny _ _ (field (.ref it) 1 >>= _) _ _ s; refine wpAny_bind (wpAny_field ho hd (x := .int i 0) rfl ?_)
 show wpAny _ _ (seqItems? (.ref t) >>= _) _ _ s; refine wpAny_bind (wpAny_seqItems hot hdt ?_)
 simp only [Int.toNat_natCast, hx]
 refine wpAny_bind (wpAny_setField ho hd (by simp) (wpAny_pure ⟨x, rfl, wpAny_pure (hQ _ ?_ (Heap.SameBut.update ..))⟩))
 exact ⟨_, Heap.get?_update_self _ ho (Obj.isFreed_of_fields (Obj.data_mapFields hd _)), (Obj.cls_mapFields ..).trans hc, by rw [Obj.data_mapFields hd]; simp [rawInt]⟩
theorem nextOf_tup_end {it t : Addr} {i : Nat} {xs : Array Value} {Q : Value → Shared → Prop} (hh : A.handled = none) (hi : s.heap.IsTupleIter it t i) (hl : s.heap.IsTuple t xs) (hx : xs[i]? = none)
  (hE : ∀ h' e, Heap.ExtBut it s.heap h' → (∃ o, h'.get? e = some o ∧ o.cls = .type "StopIteration") → E (.ref e) { s with heap := h' }) : wpAny (model prog w) A (Builtin.SmallTypes.nextOf (.ref it)) Q E s := by
 obtain ⟨o, ho, hc, hd⟩ := id hi
 obtain ⟨ot, hot, _, nt, hdt⟩ := hl
 unfold Builtin.SmallTypes.nextOf
 refine wpAny_bind (wpAny_callSpecial?_slot (name := Str.ofString "__next__") hi.typeIs F.slot_tuple_iterator_next (wpAny_call_entry F.slot_tuple_iterator_next hi.typeIs F.entry_tuple_iterator_next ?_ (F.args_tuple_iterator_next_1 _)))
 show wpAny _ _ (field (.ref it) 0 >>= _) _ _ s; refine wpAny_bind (wpAny_field ho hd (x := .ref t) rfl ?_)
 show wpAny _ _ (if (Value.ref t == Value.none) = true then _ else _) _ _ s; rw [if_neg (show ¬ ((Value.ref t == Value.none) = true) from Bool.false_ne_true)]
 show wpAny _ _ (field (.ref it) 1 >>= _) _ _ s; refine wpAny_bind (wpAny_field ho hd (x := .int i 0) rfl ?_)
 show wpAny _ _ (seqItems? (.ref t) >>= _) _ _ s; refine wpAny_bind (wpAny_seqItems hot hdt ?_)
 simp only [Int.toNat_natCast, hx]
 refine wpAny_bind (wpAny_rule (wpAny_bind (wpAny_setField ho hd (by simp) ?_)))
 show wpAny _ _ (newExc (.type "StopIteration") [] >>= _) _ _ _; refine wpAny_bind ?_
 simp only [newExc, newTuple]; refine wpAny_bind (wpAny_newObj_type ?_ (by size_fits))
 refine wpAny_bind (m := firstArgMember _ _) (wpAny_of_eq (a := Value.none) (by first | rfl | (simp only [firstArgMember]; rfl)) ?_); refine wpAny_newObj_type ?_ (by size_fits)
 simp only [raiseNew]; refine wpAny_bind (wpAny_handled ?_); first | rw [show A.in1.handled = none from hh] | rw [hh]
 refine wpAny_bind (wpAny_pure (wpAny_throw ?_)); exact hE _ _ (((Heap.SameBut.update ..).extBut.push _).push _) ⟨_, Heap.get?_push_size _ rfl, rfl⟩
theorem nextOf_item {k : Bool} {it l : Addr} {i : Nat} {xs : Array Value} {x : Value} {Q : Value → Shared → Prop} (hi : Zv k s.heap it l i) (hl : SeqAt k s.heap l xs) (hx : xs[i]? = some x)
  (hQ : ∀ h', Zv k h' it l (i + 1) → Heap.SameBut it s.heap h' → Q x { s with heap := h' }) : wpAny (model prog w) A (Builtin.SmallTypes.nextOf (.ref it)) Q E s := by
 cases k with
 | true => exact wpAny_nextOf_list_item hi hl hx hQ
 | false => exact nextOf_tup_item hi hl hx hQ
theorem nextOf_end {k : Bool} {it l : Addr} {i : Nat} {xs : Array Value} {Q : Value → Shared → Prop} (hh : A.handled = none) (hi : Zv k s.heap it l i) (hl : SeqAt k s.heap l xs) (hx : xs[i]? = none)
  (hE : ∀ h' e, Heap.ExtBut it s.heap h' → (∃ o, h'.get? e = some o ∧ o.cls = .type "StopIteration") → E (.ref e) { s with heap := h' }) : wpAny (model prog w) A (Builtin.SmallTypes.nextOf (.ref it)) Q E s := by
 cases k with
 | true => exact wpAny_nextOf_list_end hh hi hl hx hE
 | false => exact nextOf_tup_end hh hi hl hx hE
def itObj (k : Bool) (l : Addr) : Obj := { cls := .type (itCls k), data := .fields #[.ref l, .int 0 0] }
theorem pyIter_seq {k : Bool} {l : Addr} {xs : Array Value} {Q : Value → Shared → Prop} (hl : SeqAt k s.heap l xs) (hQ : Q (.ref s.heap.objs.size) { s with heap := s.heap.push (itObj k l) }) : wpAny (model prog w) A (pyIter (.ref l)) Q E s := by
 cases k with
 | true => exact wpAny_pyIter_list hl hQ
 | false => exact wpAny_pyIter_tuple hl hQ
theorem Zv.new {k : Bool} {h h' : Heap} {l : Addr} (e : h'.get? h.objs.size = some (itObj k l)) : Zv k h' h.objs.size l 0 := ⟨_, e, rfl, rfl⟩
structure ZApart (z TI TO i1 i2 : Addr) : Prop where
 TIz : TI ≠ z
 TOz : TO ≠ z
 i1z : i1 ≠ z
 i2z : i2 ≠ z
 TITO : TI ≠ TO
 TIi1 : TI ≠ i1
 TIi2 : TI ≠ i2
 TOi1 : TO ≠ i1
 TOi2 : TO ≠ i2
 i12 : i1 ≠ i2
def ZNot (z TI TO i1 i2 l : Addr) : Prop := l ≠ z ∧ l ≠ TO ∧ l ≠ i1 ∧ l ≠ i2
variable {z TI TO i1 i2 l1 l2 : Addr} {j1 j2 : Bool} {k1 k2 : Nat} {xs ys : Array Value} {x y a b : Value}
theorem zipn_item {Q : Value → Shared → Prop} (D : ZApart z TI TO i1 i2) (n1 : ZNot z TI TO i1 i2 l1) (n2 : ZNot z TI TO i1 i2 l2) (hz : IsZip s.heap z TI TO .none) (hTI : IsPair s.heap TI (.ref i1) (.ref i2)) (hTO : IsPair s.heap TO a b)
  (h1 : Zv j1 s.heap i1 l1 k1) (h2 : Zv j2 s.heap i2 l2 k2) (hl1 : SeqAt j1 s.heap l1 xs) (hl2 : SeqAt j2 s.heap l2 ys) (hx : xs[k1]? = some x) (hy : ys[k2]? = some y)
  (hQ : ∀ h', IsZip h' z TI TO (rawInt s.heap.objs.size) → IsPair h' TO x y → Zv j1 h' i1 l1 (k1 + 1) → Zv j2 h' i2 l2 (k2 + 1) → IsPair h' s.heap.objs.size x y → h'.objs.size = s.heap.objs.size + 1 →
   (∀ c o, c ≠ z → c ≠ TO → c ≠ i1 → c ≠ i2 → s.heap.get? c = some o → h'.get? c = some o) → Q (.ref s.heap.objs.size) { s with heap := h' }) :
  wpAny (model prog w) A (Builtin.«zip.__next__» ⟨[.ref z], []⟩) (fun fin s' => ∃ v, fin = .done (.ret v) ∧ Q v s') E s := by
 obtain ⟨p1, p2, p3, p4⟩ := n1
 obtain ⟨q1, q2, q3, q4⟩ := n2
 show wpAny _ _ (field (.ref z) 2 >>= _) _ _ _; refine wpAny_bind (wpAny_field hz rfl (x := .bool false) rfl ?_)
 show wpAny _ _ (field (.ref z) 3 >>= _) _ _ _; refine wpAny_bind (wpAny_field hz rfl (x := .ref TI) rfl ?_)
 refine wpAny_bind (wpAny_seqItems hTI rfl ?_)
 show wpAny _ _ (Builtin.SmallTypes.ownedTupleIsFree (.ref z) >>= _) _ _ _; refine wpAny_bind ?_
 unfold Builtin.SmallTypes.ownedTupleIsFree
 refine wpAny_bind (wpAny_field hz rfl (x := .none) rfl (wpAny_pure ?_))
 simp only [if_true]
 refine wpAny_bind (wpAny_rule ?_)
 refine wpAny_bind (wpAny_field hz rfl (x := .ref TO) rfl ?_)
 refine wpAny_bind (wpAny_setField_rec hz (by simp) fun g1 hz1 s1 => ?_)
 replace hz1 : IsZip g1 z TI TO .ellipsis := hz1
 refine wpAny_bind ?_
 simp only [List.zipIdx_cons, List.zipIdx_nil, List.forIn_cons, List.forIn_nil]
 refine wpAny_bind (wpAny_bind (wpAny_onRaise ?_))
 show wpAny _ _ (Builtin.SmallTypes.nextOf (.ref i1) >>= _) _ _ _
 refine wpAny_bind (nextOf_item (h1.but s1.extBut D.i1z) (hl1.but s1.extBut p1) hx fun g2 u2 s2 => wpAny_pure ?_)
 have t2 : IsPair g2 TO a b := s2.extBut _ _ D.TOi1 (s1.extBut _ _ D.TOz hTO)
 refine wpAny_bind (wpAny_seqItems t2 rfl ?_)
 refine wpAny_bind (wpAny_updateSeq_pair t2 fun g3 t3 s3 => ?_)
 replace t3 : IsPair g3 TO x b := t3
 refine wpAny_bind (wpAny_letGo (wpAny_pure ?_))
 refine wpAny_bind (wpAny_bind (wpAny_onRaise ?_))
 show wpAny _ _ (Builtin.SmallTypes.nextOf (.ref i2) >>= _) _ _ _
 refine wpAny_bind (nextOf_item (((h2.but s1.extBut D.i2z).but s2.extBut D.i12.symm).but s3.extBut D.TOi2.symm) (((hl2.but s1.extBut q1).but s2.extBut q3).but s3.extBut q2) hy fun g4 u4 s4 => wpAny_pure ?_)
 have t4 : IsPair g4 TO x b := s4.extBut _ _ D.TOi2 t3
 refine wpAny_bind (wpAny_seqItems t4 rfl ?_)
 refine wpAny_bind (wpAny_updateSeq_pair t4 fun g5 t5 s5 => ?_)
 replace t5 : IsPair g5 TO x y := t5
 refine wpAny_bind (wpAny_letGo (wpAny_pure (wpAny_pure ?_)))
 refine wpAny_bind (wpAny_seqItems t5 rfl ?_)
 refine wpAny_bind (wpAny_newTuple ?_)
 have sz : g5.objs.size = s.heap.objs.size := by rw [s5.1, s4.1, s3.1, s2.1, s1.1]
 have hz5 : IsZip g5 z TI TO .ellipsis := s5.extBut _ _ D.TOz.symm (s4.extBut _ _ D.i2z.symm (s3.extBut _ _ D.TOz.symm (s2.extBut _ _ D.i1z.symm hz1)))
 have k5 : ∀ c o, c ≠ z → c ≠ TO → c ≠ i1 → c ≠ i2 → s.heap.get? c = some o → g5.get? c = some o := fun c o c1 c2 c3 c4 e => s5.extBut _ _ c2 (s4.extBut _ _ c4 (s3.extBut _ _ c2 (s2.extBut _ _ c3 (s1.extBut _ _ c1 e))))
 have v1 : Zv j1 g5 i1 l1 (k1 + 1) := ((u2.but s3.extBut D.TOi1.symm).but s4.extBut D.i12).but s5.extBut D.TOi1.symm
 have v2 : Zv j2 g5 i2 l2 (k2 + 1) := u4.but s5.extBut D.TOi2.symm
 have zlt : z < g5.objs.size := Heap.lt_size hz5
 show wpAny _ _ (Builtin.SmallTypes.ownedTupleHandOut (.ref z) (.ref g5.objs.size) >>= _) _ _ _; refine wpAny_bind ?_
 unfold Builtin.SmallTypes.ownedTupleHandOut
 have hz6 : IsZip (g5.push { cls := .type "tuple", data := .seq #[x, y] }) z TI TO .ellipsis := Heap.get?_push_of_some _ hz5
 refine wpAny_bind (wpAny_setField_rec hz6 (by simp) fun g7 hz7 s7 => ?_)
 replace hz7 : IsZip g7 z TI TO (rawInt g5.objs.size) := hz7
 refine wpAny_setField_rec hz7 (by simp) fun g8 hz8 s8 => ?_
 replace hz8 : IsZip g8 z TI TO (rawInt g5.objs.size) := hz8
 have up : ∀ c o, c ≠ z → g5.get? c = some o → g8.get? c = some o := fun c o c1 e => s8.extBut _ _ c1 (s7.extBut _ _ c1 (Heap.get?_push_of_some _ e))
 have T8 : IsPair g8 g5.objs.size x y := s8.extBut _ _ (Nat.ne_of_gt zlt) (s7.extBut _ _ (Nat.ne_of_gt zlt) (Heap.get?_push_size _ rfl))
 have e8 : g8.objs.size = g5.objs.size + 1 := by rw [s8.1, s7.1, Heap.size_push]
 rw [sz] at hz8 T8 e8
 refine wpAny_pure ⟨_, rfl, ?_⟩
 show Q (.ref g5.objs.size) _
 rw [sz]
 exact hQ g8 hz8 (up _ _ D.TOz t5) (v1.at fun o e => up _ o D.i1z e) (v2.at fun o e => up _ o D.i2z e) T8 e8 fun c o c1 c2 c3 c4 e => up c o c1 (k5 c o c1 c2 c3 c4 e)
theorem zipn_end {Q : Fin → Shared → Prop} (hh : A.handled = none) (D : ZApart z TI TO i1 i2) (n1 : ZNot z TI TO i1 i2 l1) (n2 : ZNot z TI TO i1 i2 l2) (hz : IsZip s.heap z TI TO .none) (hTI : IsPair s.heap TI (.ref i1) (.ref i2)) (hTO : IsPair s.heap TO a b)
  (h1 : Zv j1 s.heap i1 l1 k1) (h2 : Zv j2 s.heap i2 l2 k2) (hl1 : SeqAt j1 s.heap l1 xs) (hl2 : SeqAt j2 s.heap l2 ys) (hend : xs[k1]? = none ∨ ys[k2]? = none)
  (hE : ∀ h' e, (∀ c o, c ≠ z → c ≠ TO → c ≠ i1 → c ≠ i2 → s.heap.get? c = some o → h'.get? c = some o) → (∃ o, h'.get? e = some o ∧ o.cls = .type "StopIteration") → E (.ref e) { s with heap := h' }) :
  wpAny (model prog w) A (Builtin.«zip.__next__» ⟨[.ref z], []⟩) Q E s := by
 obtain ⟨p1, p2, p3, p4⟩ := n1
 obtain ⟨q1, q2, q3, q4⟩ := n2
 show wpAny _ _ (field (.ref z) 2 >>= _) _ _ _; refine wpAny_bind (wpAny_field hz rfl (x := .bool false) rfl ?_)
 show wpAny _ _ (field (.ref z) 3 >>= _) _ _ _; refine wpAny_bind (wpAny_field hz rfl (x := .ref TI) rfl ?_)
 refine wpAny_bind (wpAny_seqItems hTI rfl ?_)
 show wpAny _ _ (Builtin.SmallTypes.ownedTupleIsFree (.ref z) >>= _) _ _ _; refine wpAny_bind ?_
 unfold Builtin.SmallTypes.ownedTupleIsFree
 refine wpAny_bind (wpAny_field hz rfl (x := .none) rfl (wpAny_pure ?_))
 simp only [if_true]
 refine wpAny_bind (wpAny_rule ?_)
 refine wpAny_bind (wpAny_field hz rfl (x := .ref TO) rfl ?_)
 refine wpAny_bind (wpAny_setField_rec hz (by simp) fun g1 hz1 s1 => ?_)
 replace hz1 : IsZip g1 z TI TO .ellipsis := hz1
 refine wpAny_bind ?_
 simp only [List.zipIdx_cons, List.zipIdx_nil, List.forIn_cons, List.forIn_nil]
 refine wpAny_bind (wpAny_bind (wpAny_onRaise ?_))
 show wpAny _ _ (Builtin.SmallTypes.nextOf (.ref i1) >>= _) _ _ _
 cases hx : xs[k1]? with
 | none =>
  refine wpAny_bind (nextOf_end hh (h1.but s1.extBut D.i1z) (hl1.but s1.extBut p1) hx fun g2 e s2 he => ?_)
  obtain ⟨oe, hoe, hce⟩ := he
  have hz2 : IsZip g2 z TI TO .ellipsis := s2 _ _ D.i1z.symm hz1
  have ez : e ≠ z := fun x => by subst x; rw [hz2] at hoe; cases hoe; simp at hce
  exact wpAny_setField_rec hz2 (by simp) fun g3 _ s3 => hE g3 e (fun c o c1 _ c3 _ x => s3.extBut _ _ c1 (s2 _ _ c3 (s1.extBut _ _ c1 x))) ⟨oe, s3.extBut _ _ ez hoe, hce⟩
 | some x =>
  have hy : ys[k2]? = none := by rcases hend with h | h; rw [hx] at h; cases h; exact h
  refine wpAny_bind (nextOf_item (h1.but s1.extBut D.i1z) (hl1.but s1.extBut p1) hx fun g2 u2 s2 => wpAny_pure ?_)
  have t2 : IsPair g2 TO a b := s2.extBut _ _ D.TOi1 (s1.extBut _ _ D.TOz hTO)
  refine wpAny_bind (wpAny_seqItems t2 rfl ?_)
  refine wpAny_bind (wpAny_updateSeq_pair t2 fun g3 t3 s3 => ?_)
  refine wpAny_bind (wpAny_letGo (wpAny_pure ?_))
  refine wpAny_bind (wpAny_bind (wpAny_onRaise ?_))
  show wpAny _ _ (Builtin.SmallTypes.nextOf (.ref i2) >>= _) _ _ _
  refine wpAny_bind (nextOf_end hh (((h2.but s1.extBut D.i2z).but s2.extBut D.i12.symm).but s3.extBut D.TOi2.symm) (((hl2.but s1.extBut q1).but s2.extBut q3).but s3.extBut q2) hy fun g4 e s4 he => ?_)
  obtain ⟨oe, hoe, hce⟩ := he
  have hz4 : IsZip g4 z TI TO .ellipsis := s4 _ _ D.i2z.symm (s3.extBut _ _ D.TOz.symm (s2.extBut _ _ D.i1z.symm hz1))
  have ez : e ≠ z := fun x => by subst x; rw [hz4] at hoe; cases hoe; simp at hce
  exact wpAny_setField_rec hz4 (by simp) fun g5 _ s5 => hE g5 e (fun c o c1 c2 c3 c4 x => s5.extBut _ _ c1 (s4 _ _ c4 (s3.extBut _ _ c2 (s2.extBut _ _ c3 (s1.extBut _ _ c1 x))))) ⟨oe, s5.extBut _ _ ez hoe, hce⟩
theorem pyNext_zip_item {Q : Option Value → Shared → Prop} (D : ZApart z TI TO i1 i2) (n1 : ZNot z TI TO i1 i2 l1) (n2 : ZNot z TI TO i1 i2 l2) (hz : IsZip s.heap z TI TO .none) (hTI : IsPair s.heap TI (.ref i1) (.ref i2)) (hTO : IsPair s.heap TO a b)
  (h1 : Zv j1 s.heap i1 l1 k1) (h2 : Zv j2 s.heap i2 l2 k2) (hl1 : SeqAt j1 s.heap l1 xs) (hl2 : SeqAt j2 s.heap l2 ys) (hx : xs[k1]? = some x) (hy : ys[k2]? = some y)
  (hQ : ∀ h', IsZip h' z TI TO (rawInt s.heap.objs.size) → IsPair h' TO x y → Zv j1 h' i1 l1 (k1 + 1) → Zv j2 h' i2 l2 (k2 + 1) → IsPair h' s.heap.objs.size x y → h'.objs.size = s.heap.objs.size + 1 →
   (∀ c o, c ≠ z → c ≠ TO → c ≠ i1 → c ≠ i2 → s.heap.get? c = some o → h'.get? c = some o) → Q (some (.ref s.heap.objs.size)) { s with heap := h' }) : wpAny (model prog w) A (pyNext (.ref z)) Q E s := by
 have hT : s.TypeIs (.ref z) "zip" := ⟨_, hz, rfl⟩
 unfold pyNext
 exact wpAny_bind (wpAny_attempt (wpAny_callSpecial?_slot (name := Str.ofString "__next__") hT F.slot_zip_next (wpAny_call_entry F.slot_zip_next hT F.entry_zip_next
  (zipn_item D n1 n2 hz hTI hTO h1 h2 hl1 hl2 hx hy fun h' a1 a2 a3 a4 a5 a6 a7 => wpAny_pure (hQ h' a1 a2 a3 a4 a5 a6 a7)) (F.args_zip_next_1 _))))
theorem pyNext_zip_end {Q : Option Value → Shared → Prop} (hh : A.handled = none) (D : ZApart z TI TO i1 i2) (n1 : ZNot z TI TO i1 i2 l1) (n2 : ZNot z TI TO i1 i2 l2) (hz : IsZip s.heap z TI TO .none) (hTI : IsPair s.heap TI (.ref i1) (.ref i2)) (hTO : IsPair s.heap TO a b)
  (h1 : Zv j1 s.heap i1 l1 k1) (h2 : Zv j2 s.heap i2 l2 k2) (hl1 : SeqAt j1 s.heap l1 xs) (hl2 : SeqAt j2 s.heap l2 ys) (hend : xs[k1]? = none ∨ ys[k2]? = none)
  (hQ : ∀ h', (∀ c o, c ≠ z → c ≠ TO → c ≠ i1 → c ≠ i2 → s.heap.get? c = some o → h'.get? c = some o) → Q none { s with heap := h' }) : wpAny (model prog w) A (pyNext (.ref z)) Q E s := by
 have hT : s.TypeIs (.ref z) "zip" := ⟨_, hz, rfl⟩
 unfold pyNext
 refine wpAny_bind (wpAny_attempt (wpAny_callSpecial?_slot (name := Str.ofString "__next__") hT F.slot_zip_next (wpAny_call_entry F.slot_zip_next hT F.entry_zip_next (zipn_end hh D n1 n2 hz hTI hTO h1 h2 hl1 hl2 hend fun h' e hk he => ?_) (F.args_zip_next_1 _))))
 obtain ⟨o, ho, hc⟩ := he
 refine wpAny_bind (wpAny_isInstance (T := "StopIteration") (b := true) ⟨o, ho, hc⟩ isSubtype_stop ?_)
 exact wpAny_pure (hQ _ hk)
end
abbrev zH1 (j : Bool) (h : Heap) (l1 : Addr) : Heap := h.push (itObj j l1)
abbrev zH2 (j1 j2 : Bool) (h : Heap) (l1 l2 : Addr) : Heap := (zH1 j1 h l1).push (itObj j2 l2)
abbrev zH3 (j1 j2 : Bool) (h : Heap) (l1 l2 : Addr) : Heap := (zH2 j1 j2 h l1 l2).push { cls := .type "tuple", data := .seq #[.ref h.objs.size, .ref (zH1 j1 h l1).objs.size] }
abbrev zH4 (j1 j2 : Bool) (h : Heap) (l1 l2 : Addr) : Heap := (zH3 j1 j2 h l1 l2).push { cls := .type "tuple", data := .seq #[.none, .none] }
abbrev zH5 (j1 j2 : Bool) (h : Heap) (l1 l2 : Addr) : Heap := (zH4 j1 j2 h l1 l2).push { cls := .type "zip", data := .fields #[.none, .bool false, .bool false, .ref (zH2 j1 j2 h l1 l2).objs.size, .ref (zH3 j1 j2 h l1 l2).objs.size] }
theorem zip_new (j1 j2 : Bool) (l1 l2 : Addr) (xs ys : Array Value) :
  Meets (Builtin.«zip.__new__» ⟨[.type "zip", .ref l1, .ref l2], []⟩) (fun _ R s => SeqAt j1 s.heap l1 xs ∧ SeqAt j2 s.heap l2 ys ∧ R (.ok (.ret (.ref (zH4 j1 j2 s.heap l1 l2).objs.size))) { s with heap := zH5 j1 j2 s.heap l1 l2 }) :=
 .of_wp fun prog w A R s h => by
  obtain ⟨hp, g, d, tk, os⟩ := s
  obtain ⟨hl1, hl2, h⟩ := h
  have hsub := sub_zip
  have L1 : SeqAt j1 (Shared.heap ⟨hp, g, d, tk, os⟩) l1 xs := hl1
  have L2 : SeqAt j2 (Shared.heap ⟨hp.push (itObj j1 l1), g, d, tk, os⟩) l2 ys := hl2.at fun o e => Heap.get?_push_of_some _ e
  wp_walk using pyIter_seq L1, pyIter_seq L2
  exact ⟨_, rfl, h⟩
section
variable {prog : Program} {w : World} {A : Around} {E : Value → Shared → Prop} {s : Shared}
theorem call_zip_seq {j1 j2 : Bool} {l1 l2 : Addr} {xs ys : Array Value} {Q : Value → Shared → Prop} (hl1 : SeqAt j1 s.heap l1 xs) (hl2 : SeqAt j2 s.heap l2 ys)
  (h : ∀ h', IsZip h' (s.heap.objs.size + 4) (s.heap.objs.size + 2) (s.heap.objs.size + 3) .none → IsPair h' (s.heap.objs.size + 2) (.ref s.heap.objs.size) (.ref (s.heap.objs.size + 1)) →
   IsPair h' (s.heap.objs.size + 3) .none .none → Zv j1 h' s.heap.objs.size l1 0 → Zv j2 h' (s.heap.objs.size + 1) l2 0 → h'.objs.size = s.heap.objs.size + 5 →
   (∀ c o, s.heap.get? c = some o → h'.get? c = some o) → Q (.ref (s.heap.objs.size + 4)) { s with heap := h' }) : wpAny (model prog w) A (call (.type "zip") [.ref l1, .ref l2]) Q E s := by
 refine callType_new F.called_zip (by decide) (F.typeCall_zip_2 _ _) (F.newCall_zip_2 _ _) (fun obj => F.args_object_init_3 obj _ _) F.entry_zip_new (zip_new j1 j2 l1 l2 xs ys) ⟨hl1, hl2, ?_⟩
 have z1 : (zH1 j1 s.heap l1).objs.size = s.heap.objs.size + 1 := Heap.size_push ..
 have z2 : (zH2 j1 j2 s.heap l1 l2).objs.size = s.heap.objs.size + 2 := by rw [Heap.size_push, z1]
 have z3 : (zH3 j1 j2 s.heap l1 l2).objs.size = s.heap.objs.size + 3 := by rw [Heap.size_push, z2]
 have z4 : (zH4 j1 j2 s.heap l1 l2).objs.size = s.heap.objs.size + 4 := by rw [Heap.size_push, z3]
 have z5 : (zH5 j1 j2 s.heap l1 l2).objs.size = s.heap.objs.size + 5 := by rw [Heap.size_push, z4]
 have g5 : (zH5 j1 j2 s.heap l1 l2).get? (zH4 j1 j2 s.heap l1 l2).objs.size = some _ := Heap.get?_push_size _ rfl
 have g4 : (zH5 j1 j2 s.heap l1 l2).get? (zH3 j1 j2 s.heap l1 l2).objs.size = some _ := Heap.get?_push_of_some _ (Heap.get?_push_size _ rfl)
 have g3 : (zH5 j1 j2 s.heap l1 l2).get? (zH2 j1 j2 s.heap l1 l2).objs.size = some _ := Heap.get?_push_of_some _ (Heap.get?_push_of_some _ (Heap.get?_push_size _ rfl))
 have g2 : (zH5 j1 j2 s.heap l1 l2).get? (zH1 j1 s.heap l1).objs.size = some (itObj j2 l2) := Heap.get?_push_of_some _ (Heap.get?_push_of_some _ (Heap.get?_push_of_some _ (Heap.get?_push_size _ rfl)))
 have g1 : (zH5 j1 j2 s.heap l1 l2).get? s.heap.objs.size = some (itObj j1 l1) := Heap.get?_push_of_some _ (Heap.get?_push_of_some _ (Heap.get?_push_of_some _ (Heap.get?_push_of_some _ (Heap.get?_push_size _ rfl))))
 show _ ∧ _
 rw [z2, z3, z4] at g5
 rw [z1, z2] at g3
 rw [z3] at g4
 rw [z1] at g2
 rw [z4]
 exact ⟨⟨_, g5, rfl⟩, h _ g5 g3 g4 ⟨_, g1, rfl, rfl⟩ ⟨_, g2, rfl, rfl⟩ z5 fun c o x => Heap.get?_push_of_some _ (Heap.get?_push_of_some _ (Heap.get?_push_of_some _ (Heap.get?_push_of_some _ (Heap.get?_push_of_some _ x))))⟩
end
end L2
namespace L2
open PySem
open AutoSeq1 (wpAny_loadPart')
section
variable {prog : Program} {w : World} {A : Around} {E : Value → Shared → Prop} {s : Shared}
end
end L2
namespace L2
open PySem PySem.Spec PyProof.Rows
def Sq (k : Bool) (K : PySem.W.Frag) (H : Hp) (a : Addr) (xs : List V) : Prop := match k with | true => SqL K H a xs | false => SqT K H a xs
theorem Inv.seq {X : Cx} {pins : List (Addr × Obj)} {σ : St} {H : Hp} {s : Shared} {k : Bool} {a : Addr} {xs : List V} (I : Inv X pins σ H s) (h : Sq k X.K H a xs) : ∃ its : List Value, zN xs its ∧ SeqAt k s.heap a its.toArray ∧ xs.length ≤ sizeLine := by
 cases k with
 | true => obtain ⟨its, r, p, z⟩ := I.list h; exact ⟨its, r, p.isList, z⟩
 | false => obtain ⟨its, r, p, z⟩ := I.tuple h; exact ⟨its, r, p, z⟩
theorem Inv.seq_inj {X : Cx} {pins : List (Addr × Obj)} {σ : St} {H : Hp} {s : Shared} {k : Bool} {a : Addr} {xs ys : List V} (I : Inv X pins σ H s) (h : Sq k X.K H a xs) (h' : Sq k X.K H a ys) : xs = ys := by
 cases k with
 | true => exact I.list_inj h h'
 | false => exact I.tuple_inj h h'
def Itz (j1 j2 : Bool) (K : PySem.W.Frag) (a b : Addr) : It :=
  ⟨fun i H => ∃ xs ys x y, Sq j1 K H a xs ∧ Sq j2 K H b ys ∧ xs[i]? = some x ∧ ys[i]? = some y,
   fun i H v H' => ∃ p x y, v = .ref p ∧ H p = none ∧ H' = upd H p (.tup [x, y]) ∧ (∀ xs, Sq j1 K H a xs → xs[i]? = some x) ∧ ∀ ys, Sq j2 K H b ys → ys[i]? = some y,
   fun i H => ∃ xs ys, Sq j1 K H a xs ∧ Sq j2 K H b ys ∧ (xs.length ≤ i ∨ ys.length ≤ i)⟩
def tnZip (j1 j2 : Bool) (z TI TO i1 i2 l1 l2 : Addr) (i : Nat) (h : Heap) : Prop := IsZip h z TI TO .none ∧ IsPair h TI (.ref i1) (.ref i2) ∧ (∃ a b, IsPair h TO a b) ∧ Zv j1 h i1 l1 i ∧ Zv j2 h i2 l2 i
theorem fpne {X : Cx} {pins : List (Addr × Obj)} {σ : St} {H : Hp} {s : Shared} {k : Bool} {a b : Addr} {xs : List V} (I : Inv X pins σ H s) (h : Sq k X.K H a xs) (hb : FpOk X pins H b) : a ≠ b := by
 intro e
 subst e
 obtain ⟨h0, h1, h2, h3, h4, h5⟩ := hb
 have key : ∀ u, Rd H a u → False := fun u r => by
  rcases r with r | ⟨o, r⟩ <;> (rw [h0] at r; cases r)
 have mod : ∀ o, X.K.lookup a = some o → False := fun o e => by
  obtain ⟨o', e', _⟩ : ∃ o', X.base.get? a = some o' ∧ True := ⟨_, I.ok.mod.kin a o e, trivial⟩
  rcases h3 with z | z
  ·exact I.ok.noex a o' e' z
  ·have q1 : @LT.lt Nat instLTNat a X.base.objs.size := Heap.lt_size e'
   have := I.ok.bsz
   omega
 cases k with
 | true =>
  rcases h with h | ⟨o, _, _, e, _⟩
  ·exact key _ h
  ·exact mod o e
 | false =>
  rcases h with h | ⟨o, _, _, e, _⟩
  ·exact key _ h
  ·exact mod o e
theorem turn_zip {P : Program} {w : World} {K : PySem.W.Frag} {elts : List Expr} {kk : Nat} {pp : Pos} {j1 j2 : Bool} {z TI TO i1 i2 l1 l2 : Addr} (D : ZApart z TI TO i1 i2) :
  Turn P w K (.Tuple elts kk pp) (Itz j1 j2 K l1 l2) [z, TI, TO, i1, i2] z (tnZip j1 j2 z TI TO i1 i2 l1 l2) where
 mem := by simp
 obj := fun i h st b hb => by
  obtain ⟨a1, a2, ⟨_, _, a3⟩, ⟨o4, a4, _, d4⟩, ⟨o5, a5, _, d5⟩⟩ := st
  simp only [List.mem_cons, List.not_mem_nil, or_false] at hb
  rcases hb with rfl | rfl | rfl | rfl | rfl
  ·exact ⟨_, a1, fun v q => by cases (show Data.fields _ = Data.cell v from q)⟩
  ·exact ⟨_, a2, fun v q => by cases (show Data.seq _ _ = Data.cell v from q)⟩
  ·exact ⟨_, a3, fun v q => by cases (show Data.seq _ _ = Data.cell v from q)⟩
  ·exact ⟨_, a4, fun v q => by rw [d4] at q; cases q⟩
  ·exact ⟨_, a5, fun v q => by rw [d5] at q; cases q⟩
 keep := fun i h h' st k => by
  obtain ⟨a1, a2, ⟨a, b, a3⟩, a4, a5⟩ := st
  exact ⟨k z (by simp) _ a1, k TI (by simp) _ a2, ⟨a, b, k TO (by simp) _ a3⟩, a4.at fun o e => k i1 (by simp) o e, a5.at fun o e => k i2 (by simp) o e⟩
 item := by
  intro X hP hw hK hc i pins s σ H E I hf st hg
  subst hP hw hK
  obtain ⟨xs, ys, x, y, hq1, hq2, hx, hy⟩ := hg
  obtain ⟨its1, r1, p1, _⟩ := I.seq hq1
  obtain ⟨its2, r2, p2, _⟩ := I.seq hq2
  obtain ⟨u1, e1, ru1⟩ := r1.get hx
  obtain ⟨u2, e2, ru2⟩ := r2.get hy
  obtain ⟨a1, a2, ⟨a, b, a3⟩, a4, a5⟩ := st
  have fz := hf z (by simp)
  have fO := hf TO (by simp)
  have f1 := hf i1 (by simp)
  have f2 := hf i2 (by simp)
  have fI := hf TI (by simp)
  refine pyNext_zip_item D ⟨fpne I hq1 fz, fpne I hq1 fO, fpne I hq1 f1, fpne I hq1 f2⟩ ⟨fpne I hq2 fz, fpne I hq2 fO, fpne I hq2 f1, fpne I hq2 f2⟩ a1 a2 a3 a4 a5 p1 p2 (x := u1) (y := u2) (by simpa using e1) (by simpa using e2) fun h' b1 b2 b3 b4 b5 b6 hk => ?_
  refine ⟨.ref s.heap.objs.size, rfl, wpAny_letOwnedTupleGo_zip b1 fun h2 c1 sb => ?_⟩
  have hlt : ∀ c ∈ [z, TI, TO, i1, i2], c < s.heap.objs.size := fun c hc => by
   obtain ⟨⟨_, _⟩, q⟩ : (∃ o, s.heap.get? c = some o) ∧ True := ⟨by
    simp only [List.mem_cons, List.not_mem_nil, or_false] at hc
    rcases hc with rfl | rfl | rfl | rfl | rfl
    ·exact ⟨_, a1⟩
    ·exact ⟨_, a2⟩
    ·exact ⟨_, a3⟩
    ·exact ⟨_, a4.choose_spec.1⟩
    ·exact ⟨_, a5.choose_spec.1⟩, trivial⟩
   rename_i o ho
   exact Heap.lt_size ho
  have fr : H s.heap.objs.size = none := I.hok.fresh (Nat.le_refl _)
  have k2 : ∀ c o, c ∉ [z, TO, i1, i2] → s.heap.get? c = some o → h2.get? c = some o := fun c o hc e => by
   simp only [List.mem_cons, List.not_mem_nil, or_false, not_or] at hc
   exact (sb.2 c hc.1).trans (hk c o hc.1 hc.2.1 hc.2.2.1 hc.2.2.2 e)
  have T2 : h2.get? s.heap.objs.size = some { cls := .type "tuple", data := .seq #[u1, u2] } := (sb.2 _ (Nat.ne_of_gt (hlt z (by simp)))).trans b5
  have hch : ∀ b ∈ [z, TO, i1, i2], (b ∈ X.ex ∨ X.s₀.heap.objs.size ≤ b) ∧ b ≠ X.env.locals ∧ (∀ x c, X.env.cells.lookup x = some c → c ≠ b) ∧ ∀ p ∈ X.pn ++ pins, p.1 ≠ b := fun b hb => by
   have fb : FpOk X pins H b := hf b (by simp only [List.mem_cons, List.not_mem_nil, or_false] at hb ⊢; rcases hb with rfl | rfl | rfl | rfl <;> simp)
   exact ⟨fb.2.2.2.1, fb.2.1, fb.2.2.2.2.1, fb.2.2.2.2.2⟩
  have hnone : ∀ b ∈ [z, TO, i1, i2], H b = none := fun b hb => (hf b (by simp only [List.mem_cons, List.not_mem_nil, or_false] at hb ⊢; rcases hb with rfl | rfl | rfl | rfl <;> simp)).1
  have ntr : ∀ b u, H b = some u → b ∉ [z, TO, i1, i2] := fun b u e hb => by rw [hnone b hb] at e; cases e
  have Hok : HOk X.prog X.w (upd H s.heap.objs.size (.tup [x, y])) h2 := fun c o e => by
   by_cases hcs : c = s.heap.objs.size
   ·subst hcs
    rw [zv] at e
    cases e
    exact ⟨by show 2 ≤ sizeLine; decide, [u1, u2], .cons ru1 (.cons ru2 .nil), ⟨_, T2, rfl, _, rfl⟩⟩
   ·rw [zA hcs] at e
    refine (I.hok c o e).stay (fun d v hd q => k2 d v ?_ q) (fun d q => ?_) fun d xs q => ?_
    ·rcases hd with rfl | hd
     ·exact ntr _ _ e
     ·exact ntr _ _ hd
    ·rw [zA (ne_of_none q fr)]; exact q
    ·rw [zA (ne_of_none q fr)]; exact q
  have nsz : ∀ c o, s.heap.get? c = some o → c ≠ s.heap.objs.size := fun c o e => Nat.ne_of_lt (Heap.lt_size e)
  have thr : ∀ c ∈ [z, TO, i1, i2], ∃ o, h2.get? c = some o := fun c hc => by
   simp only [List.mem_cons, List.not_mem_nil, or_false] at hc
   rcases hc with rfl | rfl | rfl | rfl
   ·exact ⟨_, c1⟩
   ·exact ⟨_, (sb.2 _ D.TOz).trans b2⟩
   ·obtain ⟨o, ho, _⟩ := b3; exact ⟨_, (sb.2 _ D.i1z).trans ho⟩
   ·obtain ⟨o, ho, _⟩ := b4; exact ⟨_, (sb.2 _ D.i2z).trans ho⟩
  have I2 : Inv X pins σ (upd H s.heap.objs.size (.tup [x, y])) { s with heap := h2, toks := s.toks } := by
   refine I.step (g' := s.gens) (d' := s.drawn) (ch := [z, TO, i1, i2]) hch (fun b o _ _ hb e _ => k2 b o hb e) (fun b o _ _ hb e _ => ⟨o.slots, k2 b o hb e⟩) (fun b o _ e n => by rw [zA (nsz b o e)]; exact n) (fun b o hb e => ⟨o, k2 b o hb e⟩)
    (fun b xs e => by rw [zA (ne_of_none e fr)]; exact e) (fun b o u e => by rw [zA (ne_of_none e fr)]; exact e) (fun b ps e => ⟨#[], by rw [zA (ne_of_none e fr), e]; simp⟩) (fun m hm => ?_) Hok I.bare
   obtain ⟨o, es, ep, ho, r⟩ := hm
   refine ⟨o, es, ep, k2 _ o (fun hb => (hch _ hb).2.1 rfl) ho, r⟩
  refine ⟨.ref s.heap.objs.size, _, I2, rfl, ⟨_, x, y, rfl, fr, rfl, fun zs hz => by rw [I.seq_inj hz hq1]; exact hx, fun zs hz => by rw [I.seq_inj hz hq2]; exact hy⟩, ⟨c1, ?_, ⟨_, _, (sb.2 _ D.TOz).trans b2⟩, b3.at fun o e => (sb.2 _ D.i1z).trans e, b4.at fun o e => (sb.2 _ D.i2z).trans e⟩, fun b hb => ?_⟩
  ·exact k2 TI _ (by simp only [List.mem_cons, List.not_mem_nil, or_false, not_or]; exact ⟨D.TIz, D.TITO, D.TIi1, D.TIi2⟩) a2
  ·rw [zA (Nat.ne_of_lt (hlt b hb))]; exact (hf b hb).1
 done := by
  intro X hP hw hK hc i pins s σ H E I hf st hg
  subst hP hw hK
  obtain ⟨xs, ys, hq1, hq2, hend⟩ := hg
  obtain ⟨its1, r1, p1, _⟩ := I.seq hq1
  obtain ⟨its2, r2, p2, _⟩ := I.seq hq2
  obtain ⟨a1, a2, ⟨a, b, a3⟩, a4, a5⟩ := st
  have fz := hf z (by simp)
  have fO := hf TO (by simp)
  have f1 := hf i1 (by simp)
  have f2 := hf i2 (by simp)
  have l1' := r1.length
  have l2' := r2.length
  refine pyNext_zip_end (I.ok.hd hc) D ⟨fpne I hq1 fz, fpne I hq1 fO, fpne I hq1 f1, fpne I hq1 f2⟩ ⟨fpne I hq2 fz, fpne I hq2 fO, fpne I hq2 f1, fpne I hq2 f2⟩ a1 a2 a3 a4 a5 p1 p2 (hend.imp (fun q => by simp; omega) fun q => by simp; omega) fun h' hk => ⟨rfl, ?_⟩
  have hch : ∀ b ∈ [z, TO, i1, i2], (b ∈ X.ex ∨ X.s₀.heap.objs.size ≤ b) ∧ b ≠ X.env.locals ∧ (∀ x c, X.env.cells.lookup x = some c → c ≠ b) ∧ ∀ p ∈ X.pn ++ pins, p.1 ≠ b := fun b hb => by
   have fb : FpOk X pins H b := hf b (by simp only [List.mem_cons, List.not_mem_nil, or_false] at hb ⊢; rcases hb with rfl | rfl | rfl | rfl <;> simp)
   exact ⟨fb.2.2.2.1, fb.2.1, fb.2.2.2.2.1, fb.2.2.2.2.2⟩
  have hnone : ∀ b ∈ [z, TO, i1, i2], H b = none := fun b hb => (hf b (by simp only [List.mem_cons, List.not_mem_nil, or_false] at hb ⊢; rcases hb with rfl | rfl | rfl | rfl <;> simp)).1
  have ntr : ∀ b u, H b = some u → b ∉ [z, TO, i1, i2] := fun b u e hb => by rw [hnone b hb] at e; cases e
  have k2 : ∀ c o, c ∉ [z, TO, i1, i2] → s.heap.get? c = some o → h'.get? c = some o := fun c o hc e => by
   simp only [List.mem_cons, List.not_mem_nil, or_false, not_or] at hc
   exact hk c o hc.1 hc.2.1 hc.2.2.1 hc.2.2.2 e
  refine I.step (g' := s.gens) (d' := s.drawn) (t' := s.toks) (ch := [z, TO, i1, i2]) hch (fun b o _ _ hb e _ => k2 b o hb e) (fun b o _ _ hb e _ => ⟨o.slots, k2 b o hb e⟩) (fun b o _ e n => n) (fun b o hb e => ⟨o, k2 b o hb e⟩)
   (fun b xs e => e) (fun b o u e => e) (fun b ps e => ⟨#[], by rw [e]; simp⟩) (fun m hm => ?_) (fun c o e => ?_) I.bare
  ·obtain ⟨o, es, ep, ho, r⟩ := hm
   exact ⟨o, es, ep, k2 _ o (fun hb => (hch _ hb).2.1 rfl) ho, r⟩
  ·refine (I.hok c o e).stay (fun d v hd q => k2 d v ?_ q) (fun d q => q) fun d xs q => q
   rcases hd with rfl | hd
   ·exact ntr _ _ e
   ·exact ntr _ _ hd
 self := fun _ _ _ _ _ st h => wpAny_pyIter_zip st.1 h
theorem zapart_new (n : Nat) : ZApart (n + 4) (n + 2) (n + 3) n (n + 1) := by
 constructor <;> exact (show ∀ a b : Nat, a ≠ b → a ≠ b from fun _ _ h => h) _ _ (by omega)
section
variable {X : Cx}
def iZip (j1 j2 : Bool) (K : PySem.W.Frag) (ta : TA) : TI := fun σ H R => ta σ H fun vs H1 => ∃ a b, vs = [.ref a, .ref b] ∧ (∃ xs, Sq j1 K H1 a xs) ∧ (∃ ys, Sq j2 K H1 b ys) ∧ R (Itz j1 j2 K a b) H1
theorem pi_zip (j1 j2 : Bool) {elts : List Expr} {kk : Nat} {pp : Pos} {a b : Expr} {ta : TA} {p pos : Pos} (hg : Gl X "zip") (hm : X.mg "zip" = none) (ha : PA X [a, b] ta) (hs : starEach [a, b] X.env = [(false, eval a X.env), (false, eval b X.env)] := by rfl) (hs2 : starEach [b] X.env = [(false, eval b X.env)] := by rfl) :
  PI X (.Tuple elts kk pp) (.Call (.Name "zip" p) [a, b] [] pos) (iZip j1 j2 X.K ta) := by
 intro pins s σ H R I h
 refine Call_ (ld_blt I hg hm boot_zip (PyProof.Rows.callWith_type1 (thn (ha pos pins s σ H _ I h) fun us s1 ⟨vs, H1, I1, r1, q1⟩ => ?_) (by rw [hs, hs2]) (by rw [hs2]; rfl)))
 obtain ⟨a, b, e, ⟨xs, hx⟩, ⟨ys, hy⟩, q⟩ := q1
 subst e
 cases r1 with
 | cons r rr =>
  cases rr with
  | cons r' rr =>
   cases rr
   cases r
   cases r'
   obtain ⟨its1, _, p1, _⟩ := I1.seq hx
   obtain ⟨its2, _, p2, _⟩ := I1.seq hy
   refine call_zip_seq p1 p2 fun h' c1 c2 c3 c4 c5 c6 up => wpAny_pyIter_zip c1 ?_
   have I2 : Inv X pins σ H1 { s1 with heap := h' } := I1.kept (t' := s1.toks) up
   refine ⟨s1.heap.objs.size + 4, [s1.heap.objs.size + 4, s1.heap.objs.size + 2, s1.heap.objs.size + 3, s1.heap.objs.size, s1.heap.objs.size + 1], _, _, H1, rfl, I2, turn_zip (j1 := j1) (j2 := j2) (TI := s1.heap.objs.size + 2) (TO := s1.heap.objs.size + 3) (i1 := s1.heap.objs.size) (i2 := s1.heap.objs.size + 1) (zapart_new _), ⟨c1, c2, ⟨_, _, c3⟩, c4, c5⟩, fun b hb => ?_, q⟩
   have hb' : @LE.le Nat instLENat s1.heap.objs.size b := by
    simp only [List.mem_cons, List.not_mem_nil, or_false] at hb
    rcases hb with rfl | rfl | rfl | rfl | rfl
    ·exact Nat.le_add_right _ 4
    ·exact Nat.le_add_right _ 2
    ·exact Nat.le_add_right _ 3
    ·exact Nat.le_refl _
    ·exact Nat.le_add_right _ 1
   have := I1.fpOk (H' := H1) hb' (I1.hok.fresh hb')
   exact this
end
end L2
namespace M
open PySem PySem.Spec L2
open PySem.W (Frag)
inductive D where
 | non | bl (b : Bool) | int (i : Int) | str (x : Str) | tup (xs : List D) | lst (xs : List D) | dict (ks : List Key) (vs : List D)
  | scr (ns : List Int)
  | adr (a : Addr)
  | kset (ks : List (List Int))
  | tk (ns : List Int)
  | pin (a : Addr) (d : D)
def KL (K : Frag) (a : Addr) (xs : List V) : Prop :=
 ∃ (o : Obj) (its : Array Value) (n : Nat), K.lookup a = some o ∧ o.cls = .type "list" ∧ o.dict = none ∧ o.data = .seq its n ∧ its.size ≤ sizeLine ∧ zN xs its.toList
def RL (K : Frag) (H : Hp) (B : Addr → Prop) (a : Addr) (xs : List V) : Prop := Rd H a (.lst xs) ∧ ¬ B a
def RS (K : Frag) (H : Hp) (a : Addr) (xs : List V) : Prop := (∃ o, H a = some (.frz o (.lst xs))) ∨ KL K a xs
theorem RS.sq {K : Frag} {H : Hp} {a : Addr} {xs : List V} (h : RS K H a xs) : SqL K H a xs := by
 rcases h with h | h
 ·exact .inl (.inr h)
 ·exact .inr h
theorem RL.sq {K : Frag} {H : Hp} {B : Addr → Prop} {a : Addr} {xs : List V} (h : RL K H B a xs) : SqL K H a xs := .inl h.1
mutual
def Rep (K : Frag) (H : Hp) (B : Addr → Prop) : D → V → Prop
 | .non, v => v = .non
 | .bl b, v => v = .bl b
 | .int i, v => v = .int i
 | .str x, v => v = .str x
 | .tup ds, v => ∃ a xs, v = .ref a ∧ SqT K H a xs ∧ zk K H B ds xs
 | .lst ds, v => ∃ a xs, v = .ref a ∧ RL K H B a xs ∧ zk K H B ds xs
 | .dict ks ds, v => ∃ a kvs, v = .ref a ∧ (H a = some (.dK kvs) ∧ ¬ B a) ∧ kvs.map (·.1) = ks ∧ zk K H B ds (kvs.map (·.2))
 | .scr ns, v => ∃ a, v = .ref a ∧ RS K H a (ns.map V.int)
 | .adr a, v => v = .ref a
 | .kset _, v => ∃ a, v = .ref a
 | .tk ns, v => ∃ a, v = .ref a ∧ H a = some (.tup (ns.map V.int))
 | .pin a d, v => v = .ref a ∧ Rep K H B d v
def zk (K : Frag) (H : Hp) (B : Addr → Prop) : List D → List V → Prop
 | [], vs => vs = []
 | d :: ds, vs => ∃ v r, vs = v :: r ∧ Rep K H B d v ∧ zk K H B ds r
end
mutual
def D.flat : D → Bool
 | .tup ds => flats ds
 | .lst _ => false
 | .dict _ _ => false
 | .kset _ => false
 | .pin _ d => d.flat
 | _ => true
def flats : List D → Bool
 | [] => true
 | d :: ds => d.flat && flats ds
end
section
variable {K : Frag} {H H' : Hp} {B B' : Addr → Prop}
theorem SqT.same {a : Addr} {xs : List V} (e : zJ H H') (h : SqT K H a xs) : SqT K H' a xs := by
 rcases h with (h | ⟨o, h⟩) | h
 ·exact .inl (.inl (e _ _ h))
 ·exact .inl (.inr ⟨o, e _ _ h⟩)
 ·exact .inr h
theorem Rd.same {a : Addr} {u : HO} (e : zJ H H') (h : Rd H a u) : Rd H' a u := by
 rcases h with h | ⟨o, h⟩
 ·exact .inl (e _ _ h)
 ·exact .inr ⟨o, e _ _ h⟩
structure Goes (H H' : Hp) (B B' : Addr → Prop) : Prop where
 tup : ∀ a xs, Rd H a (.tup xs) → Rd H' a (.tup xs)
 lst : ∀ a xs, Rd H a (.lst xs) → ¬ B a → Rd H' a (.lst xs) ∧ ¬ B' a
 dct : ∀ a kvs, H a = some (.dK kvs) → ¬ B a → H' a = some (.dK kvs) ∧ ¬ B' a
 frz : ∀ a o u, H a = some (.frz o u) → H' a = some (.frz o u)
 tkt : ∀ a xs, H a = some (.tup xs) → H' a = some (.tup xs)
mutual
theorem Rep.goes (g : Goes H H' B B') : ∀ (d : D) (v : V), Rep K H B d v → Rep K H' B' d v
 | .non, v, h => by simpa [Rep] using h
 | .bl b, v, h => by simpa [Rep] using h
 | .int i, v, h => by simpa [Rep] using h
 | .str x, v, h => by simpa [Rep] using h
 | .tup ds, v, h => by
  simp only [Rep] at h ⊢
  obtain ⟨a, xs, e, hq, hr⟩ := h
  refine ⟨a, xs, e, ?_, zk.goes g ds xs hr⟩
  rcases hq with hq | hq
  ·exact .inl (g.tup a xs hq)
  ·exact .inr hq
 | .lst ds, v, h => by
  simp only [Rep] at h ⊢
  obtain ⟨a, xs, e, hq, hr⟩ := h
  exact ⟨a, xs, e, g.lst a xs hq.1 hq.2, zk.goes g ds xs hr⟩
 | .dict ks ds, v, h => by
  simp only [Rep] at h ⊢
  obtain ⟨a, kvs, e, ⟨hq, hb⟩, hk, hr⟩ := h
  exact ⟨a, kvs, e, g.dct a kvs hq hb, hk, zk.goes g ds _ hr⟩
 | .scr ns, v, h => by
  simp only [Rep] at h ⊢
  obtain ⟨a, e, hq⟩ := h
  refine ⟨a, e, ?_⟩
  rcases hq with ⟨o, hq⟩ | hq
  ·exact .inl ⟨o, g.frz a o _ hq⟩
  ·exact .inr hq
 | .adr a, v, h => by simpa [Rep] using h
 | .kset ks, v, h => by simpa [Rep] using h
 | .tk ns, v, h => by
  simp only [Rep] at h ⊢
  obtain ⟨a, e, q⟩ := h
  exact ⟨a, e, g.tkt a _ q⟩
 | .pin a d, v, h => by
  simp only [Rep] at h ⊢
  exact ⟨h.1, Rep.goes g d v h.2⟩
theorem zk.goes (g : Goes H H' B B') : ∀ (ds : List D) (vs : List V), zk K H B ds vs → zk K H' B' ds vs
 | [], vs, h => by simpa [zk] using h
 | d :: ds, vs, h => by
  simp only [zk] at h ⊢
  obtain ⟨v, r, e, h1, h2⟩ := h
  exact ⟨v, r, e, Rep.goes g d v h1, zk.goes g ds r h2⟩
end
theorem Goes.less (h : ∀ a, B' a → B a) (e : zJ H H') : Goes H H' B B' :=
 ⟨fun _ _ q => Rd.same e q, fun a _ q n => ⟨Rd.same e q, fun z => n (h a z)⟩, fun a _ q n => ⟨e _ _ q, fun z => n (h a z)⟩, fun _ _ _ q => e _ _ q, fun _ _ q => e _ _ q⟩
theorem Goes.same (e : zJ H H') : Goes H H' B B := .less (fun _ z => z) e
theorem Goes.fresh {a : Addr} (hn : H a = none) (e : zJ H H') : Goes H H' B (fun b => B b ∨ b = a) :=
  ⟨fun _ _ q => Rd.same e q, fun b xs q n => ⟨Rd.same e q, fun z => z.elim n fun z => by subst z; rcases q with q | ⟨o, q⟩ <;> (rw [hn] at q; cases q)⟩,
   fun b _ q n => ⟨e _ _ q, fun z => z.elim n fun z => by subst z; rw [hn] at q; cases q⟩, fun _ _ _ q => e _ _ q, fun _ _ q => e _ _ q⟩
theorem Goes.write {a : Addr} {o u : HO} (hB : B a) (ha : H a = some u) (hm : Mut (some u)) : Goes H (upd H a o) B B := by
 have nt : ∀ b w, H b = some w → (¬ ∃ z : Mut (some w), True) → b ≠ a := fun b w q z e => by subst e; rw [ha] at q; cases q; exact z ⟨hm, trivial⟩
 refine ⟨fun b xs q => ?_, fun b xs q n => ?_, fun b kvs q n => ?_, fun b ob w q => by rw [zA (nt b _ q fun ⟨z, _⟩ => z)]; exact q, fun b xs q => by rw [zA (nt b _ q fun ⟨z, _⟩ => z)]; exact q⟩
 ·rcases q with q | ⟨ob, q⟩
  ·exact .inl (by rw [zA (nt b _ q fun ⟨z, _⟩ => z)]; exact q)
  ·exact .inr ⟨ob, by rw [zA (nt b _ q fun ⟨z, _⟩ => z)]; exact q⟩
 ·have hne : b ≠ a := fun e => n (by rw [e]; exact hB)
  refine ⟨?_, n⟩
  rcases q with q | ⟨ob, q⟩
  ·exact .inl (by rw [zA hne]; exact q)
  ·exact .inr ⟨ob, by rw [zA hne]; exact q⟩
 ·have hne : b ≠ a := fun e => n (by rw [e]; exact hB)
  exact ⟨by rw [zA hne]; exact q, n⟩
mutual
theorem Rep.flat : ∀ (d : D) (v : V), d.flat = true → Rep K H B d v → Rep K H B' d v
 | .non, v, _, h => by simpa [Rep] using h
 | .bl b, v, _, h => by simpa [Rep] using h
 | .int i, v, _, h => by simpa [Rep] using h
 | .str x, v, _, h => by simpa [Rep] using h
 | .tup ds, v, f, h => by
  simp only [Rep] at h ⊢
  simp only [D.flat] at f
  obtain ⟨a, xs, e, hq, hr⟩ := h
  exact ⟨a, xs, e, hq, zk.flat ds xs f hr⟩
 | .lst ds, v, f, h => by simp [D.flat] at f
 | .dict ks ds, v, f, h => by simp [D.flat] at f
 | .scr ns, v, f, h => by simpa [Rep] using h
 | .adr a, v, f, h => by simpa [Rep] using h
 | .kset ks, v, f, h => by simp [D.flat] at f
 | .tk ns, v, f, h => by simpa [Rep] using h
 | .pin a d, v, f, h => by
  simp only [Rep] at h ⊢
  simp only [D.flat] at f
  exact ⟨h.1, Rep.flat d v f h.2⟩
theorem zk.flat : ∀ (ds : List D) (vs : List V), flats ds = true → zk K H B ds vs → zk K H B' ds vs
 | [], vs, _, h => by simpa [zk] using h
 | d :: ds, vs, f, h => by
  simp only [zk] at h ⊢
  simp only [flats, Bool.and_eq_true] at f
  obtain ⟨v, r, e, h1, h2⟩ := h
  exact ⟨v, r, e, Rep.flat d v f.1 h1, zk.flat ds r f.2 h2⟩
end
theorem zk.length : ∀ {ds : List D} {vs : List V}, zk K H B ds vs → vs.length = ds.length
 | [], vs, h => by simp only [zk] at h; subst h; rfl
 | d :: ds, vs, h => by
  simp only [zk] at h
  obtain ⟨v, r, e, h1, h2⟩ := h
  subst e
  simp [zk.length h2]
theorem zk.get : ∀ {ds : List D} {vs : List V} {i : Nat} {d : D}, zk K H B ds vs → ds[i]? = some d → ∃ v, vs[i]? = some v ∧ Rep K H B d v
 | [], vs, i, d, h, e => by simp at e
 | d :: ds, vs, 0, d', h, e => by
  simp only [zk] at h
  obtain ⟨v, r, ev, h1, h2⟩ := h
  simp at e; subst e; subst ev
  exact ⟨v, rfl, h1⟩
 | d :: ds, vs, i + 1, d', h, e => by
  simp only [zk] at h
  obtain ⟨v, r, ev, h1, h2⟩ := h
  subst ev
  obtain ⟨v', q1, q2⟩ := zk.get (i := i) (d := d') h2 (by simpa using e)
  exact ⟨v', by simpa using q1, q2⟩
theorem zk.append : ∀ {ds es : List D} {vs ws : List V}, zk K H B ds vs → zk K H B es ws → zk K H B (ds ++ es) (vs ++ ws)
 | [], es, vs, ws, h, h' => by simp only [zk] at h; subst h; exact h'
 | d :: ds, es, vs, ws, h, h' => by
  simp only [zk] at h
  obtain ⟨v, r, ev, h1, h2⟩ := h
  subst ev
  simp only [List.cons_append, zk]
  exact ⟨v, r ++ ws, rfl, h1, zk.append h2 h'⟩
theorem zk.nil : zk K H B [] [] := by simp [zk]
theorem zk.cons {d : D} {ds : List D} {v : V} {vs : List V} (h : Rep K H B d v) (h' : zk K H B ds vs) : zk K H B (d :: ds) (v :: vs) := by
 simp only [zk]; exact ⟨v, vs, rfl, h, h'⟩
theorem zk.one {d : D} {v : V} (h : Rep K H B d v) : zk K H B [d] [v] := .cons h .nil
theorem zk.set : ∀ {ds : List D} {vs : List V} {d : D} {v : V} (i : Nat), zk K H B ds vs → Rep K H B d v → zk K H B (ds.set i d) (vs.set i v)
 | [], vs, d, v, i, h, _ => by simp only [zk] at h; subst h; simp [zk]
 | d' :: ds, vs, d, v, 0, h, h' => by
  simp only [zk] at h
  obtain ⟨v', r, ev, h1, h2⟩ := h
  subst ev
  exact .cons h' h2
 | d' :: ds, vs, d, v, i + 1, h, h' => by
  simp only [zk] at h
  obtain ⟨v', r, ev, h1, h2⟩ := h
  subst ev
  exact .cons h1 (zk.set i h2 h')
theorem zk.take : ∀ {ds : List D} {vs : List V} (n : Nat), zk K H B ds vs → zk K H B (ds.take n) (vs.take n)
 | [], vs, n, h => by simp only [zk] at h; subst h; simp [zk]
 | d :: ds, vs, 0, h => by simp [zk]
 | d :: ds, vs, n + 1, h => by
  simp only [zk] at h
  obtain ⟨v', r, ev, h1, h2⟩ := h
  subst ev
  exact .cons h1 (zk.take n h2)
theorem zk.drop : ∀ {ds : List D} {vs : List V} (n : Nat), zk K H B ds vs → zk K H B (ds.drop n) (vs.drop n)
 | [], vs, n, h => by simp only [zk] at h; subst h; simp [zk]
 | d :: ds, vs, 0, h => h
 | d :: ds, vs, n + 1, h => by
  simp only [zk] at h
  obtain ⟨v', r, ev, h1, h2⟩ := h
  subst ev
  exact zk.drop n h2
theorem zk.reverse : ∀ {ds : List D} {vs : List V}, zk K H B ds vs → zk K H B ds.reverse vs.reverse
 | [], vs, h => by simp only [zk] at h; subst h; exact .nil
 | d :: ds, vs, h => by
  simp only [zk] at h
  obtain ⟨v', r, ev, h1, h2⟩ := h
  subst ev
  rw [List.reverse_cons, List.reverse_cons]
  exact .append (zk.reverse h2) (.one h1)
theorem zk.ints {ns : List Int} : zk K H B (ns.map D.int) (ns.map V.int) := by
 induction ns with
 | nil => exact .nil
 | cons n r ih => exact .cons (by simp [Rep]) ih
theorem zk.ints' : ∀ {ns : List Int} {vs : List V}, zk K H B (ns.map D.int) vs → vs = ns.map V.int
 | [], vs, h => by simpa [zk] using h
 | n :: r, vs, h => by
  simp only [List.map_cons, zk, Rep] at h
  obtain ⟨v, r', e, h1, h2⟩ := h
  subst e; subst h1
  rw [zk.ints' h2]; rfl
end
abbrev Ev := List (Option D)
def Bl (B₀ : Addr → Prop) (os : List Nat) (σ : St) (a : Addr) : Prop := B₀ a ∨ ∃ i, i ∈ os ∧ σ[i]? = some (some (.ref a))
def BB (st : Bool) (B₀ : Addr → Prop) (os : List Nat) (σ : St) : Addr → Prop := match st with | true => Bl B₀ os σ | false => B₀
def Own (K : Frag) (H : Hp) (B : Addr → Prop) : HO → D → Prop
 | .lst xs, .lst ds => zk K H B ds xs
 | .dK kvs, .dict ks ds => kvs.map (·.1) = ks ∧ zk K H B ds (kvs.map (·.2))
 | .dT kvs, .kset ks => kvs = ks.map fun k => (k.map Sum.inl, V.bl true)
 | _, _ => False
theorem Own.goes {K : Frag} {H H' : Hp} {B B' : Addr → Prop} (g : Goes H H' B B') {o : HO} {d : D} (h : Own K H B o d) : Own K H' B' o d := by
 cases o <;> cases d <;> simp only [Own] at h ⊢
 ·exact zk.goes g _ _ h
 ·exact ⟨h.1, zk.goes g _ _ h.2⟩
 ·exact h
theorem Own.mut {K : Frag} {H : Hp} {B : Addr → Prop} {o : HO} {d : D} (h : Own K H B o d) : Mut (some o) := by
 cases o <;> cases d <;> simp only [Own] at h <;> trivial
structure Md (K : Frag) (H₀ : Hp) (B₀ : Addr → Prop) (os : List Nat) (σ : St) (H : Hp) (ρ : Ev) : Prop where
 grow : zJ H₀ H
 blk : ∀ a, B₀ a → ∃ o, H a = some o
 len : σ.length = ρ.length
 sh : ∀ (i : Nat) d, ρ[i]? = some (some d) → i ∉ os → ∃ v, σ[i]? = some (some v) ∧ Rep K H (Bl B₀ os σ) d v
 own : ∀ (i : Nat), i ∈ os → ∃ a o d, σ[i]? = some (some (.ref a)) ∧ ρ[i]? = some (some d) ∧ H a = some o ∧ (H₀ a = none ∧ ¬ B₀ a) ∧ Own K H (Bl B₀ os σ) o d
 sep : ∀ (i j : Nat) a, i ∈ os → j ∈ os → σ[i]? = some (some (.ref a)) → σ[j]? = some (some (.ref a)) → i = j
section
variable {K : Frag} {H₀ H H' : Hp} {B₀ : Addr → Prop} {os os' : List Nat} {σ : St} {ρ : Ev}
theorem Md.up (m : Md K H₀ B₀ os σ H ρ) (e : zJ H H') : Md K H₀ B₀ os σ H' ρ where
 grow := m.grow.trans e
 blk := fun a h => let ⟨o, q⟩ := m.blk a h; ⟨o, e _ _ q⟩
 len := m.len
 sh := fun i d q n => by obtain ⟨v, h1, h2⟩ := m.sh i d q n; exact ⟨v, h1, Rep.goes (.same e) _ _ h2⟩
 own := fun i hi => by
  obtain ⟨a, o, d, h1, h2, h3, h4, h5⟩ := m.own i hi
  exact ⟨a, o, d, h1, h2, e _ _ h3, h4, h5.goes (.same e)⟩
 sep := m.sep
theorem Md.tracked (m : Md K H₀ B₀ os σ H ρ) {a : Addr} (h : Bl B₀ os σ a) : ∃ o, H a = some o := by
 rcases h with h | ⟨i, hi, e⟩
 ·exact m.blk a h
 ·obtain ⟨a', o, d, h1, _, h3, _⟩ := m.own i hi
  rw [e] at h1; cases h1
  exact ⟨o, h3⟩
theorem Md.ntracked (m : Md K H₀ B₀ os σ H ρ) {a : Addr} (h : H a = none) : ¬ Bl B₀ os σ a := fun z => by
 obtain ⟨o, q⟩ := m.tracked z; rw [h] at q; cases q
theorem Md.freeze (m : Md K H₀ B₀ os σ H ρ) (hs : ∀ i ∈ os', i ∈ os) : Md K H₀ B₀ os' σ H ρ := by
 have less : ∀ a, Bl B₀ os' σ a → Bl B₀ os σ a := fun a z => z.elim .inl fun ⟨i, h1, h2⟩ => .inr ⟨i, hs i h1, h2⟩
 have g : Goes H H (Bl B₀ os σ) (Bl B₀ os' σ) := .less less (.refl H)
 refine ⟨m.grow, m.blk, m.len, fun i d q n => ?_, fun i hi => ?_, fun i j a h1 h2 => m.sep i j a (hs i h1) (hs j h2)⟩
 ·by_cases hi : i ∈ os
  ·obtain ⟨a, o, d', h1, h2, h3, h4, h5⟩ := m.own i hi
   rw [q] at h2; cases h2
   refine ⟨_, h1, ?_⟩
   have nb : ¬ Bl B₀ os' σ a := fun z => by
    rcases z with z | ⟨j, hj, e⟩
    ·exact h4.2 z
    ·exact n ((m.sep i j a hi (hs j hj) h1 e) ▸ hj)
   cases o <;> cases d <;> simp only [Own] at h5
   ·simp only [Rep]; exact ⟨a, _, rfl, ⟨.inl h3, nb⟩, zk.goes g _ _ h5⟩
   ·simp only [Rep]; exact ⟨a, _, rfl, ⟨h3, nb⟩, h5.1, zk.goes g _ _ h5.2⟩
   ·simp only [Rep]; exact ⟨a, rfl⟩
  ·obtain ⟨v, h1, h2⟩ := m.sh i d q hi
   exact ⟨v, h1, Rep.goes g _ _ h2⟩
 ·obtain ⟨a, o, d, h1, h2, h3, h4, h5⟩ := m.own i (hs i hi)
  exact ⟨a, o, d, h1, h2, h3, h4, h5.goes g⟩
theorem za {α : Type} {l : List α} {i j : Nat} {x : α} (h : j ≠ i) : (l.set i x)[j]? = l[j]? := by
 rw [List.getElem?_set]; simp [Ne.symm h]
theorem get_set_eq {α : Type} {l : List α} {i : Nat} {x y : α} (h : (l.set i x)[i]? = some y) : y = x := by
 rw [List.getElem?_set] at h
 by_cases hi : i < l.length
 ·simp [hi] at h; exact h.symm
 ·simp [hi] at h
theorem zz {α : Type} {l : List α} {i : Nat} {x : α} (h : i < l.length) : (l.set i x)[i]? = some x := by simp [h]
theorem Md.put (m : Md K H₀ B₀ os σ H ρ) {i : Nat} {v : V} {d : D} (hs : ∀ j ∈ os', j ∈ os ∧ j ≠ i) (hs2 : ∀ j ∈ os, j ∈ os' ∨ j = i) (h : Rep K H (Bl B₀ os σ) d v) : Md K H₀ B₀ os' (σ.set i (some v)) H (ρ.set i (some d)) := by
 have less : ∀ a, Bl B₀ os' (σ.set i (some v)) a → Bl B₀ os σ a := fun a z => z.elim .inl fun ⟨j, h1, h2⟩ => .inr ⟨j, (hs j h1).1, by rw [za (hs j h1).2] at h2; exact h2⟩
 have g : Goes H H (Bl B₀ os σ) (Bl B₀ os' (σ.set i (some v))) := .less less (.refl H)
 refine ⟨m.grow, m.blk, by rw [List.length_set, List.length_set]; exact m.len, fun j e q n => ?_, fun j hj => ?_, fun j k a h1 h2 => ?_⟩
 ·by_cases hj : j = i
  ·subst hj
   have := get_set_eq q
   cases this
   have hi : j < ρ.length := by have := (List.getElem?_eq_some_iff.mp q).1; rwa [List.length_set] at this
   exact ⟨v, zz (by rw [m.len]; exact hi), Rep.goes g _ _ h⟩
  ·rw [za hj] at q
   obtain ⟨w', h1, h2⟩ := m.sh j e q (fun z => (hs2 j z).elim n hj)
   exact ⟨w', by rw [za hj]; exact h1, Rep.goes g _ _ h2⟩
 ·obtain ⟨a, o, e, h1, h2, h3, h4, h5⟩ := m.own j (hs j hj).1
  exact ⟨a, o, e, by rw [za (hs j hj).2]; exact h1, by rw [za (hs j hj).2]; exact h2, h3, h4, h5.goes g⟩
 ·rw [za (hs j h1).2, za (hs k h2).2]
  exact m.sep j k a (hs j h1).1 (hs k h2).1
theorem Md.putNew (m : Md K H₀ B₀ os σ H ρ) {i : Nat} {a : Addr} {o : HO} {d : D} (hi : i < ρ.length) (hs : ∀ j ∈ os', j = i ∨ (j ∈ os ∧ j ≠ i)) (hs2 : ∀ j ∈ os, j ∈ os' ∨ j = i) (hm : i ∈ os') (e : zJ H H') (hn : H a = none) (ho : H' a = some o)
  (h : Own K H' (fun b => Bl B₀ os σ b ∨ b = a) o d) : Md K H₀ B₀ os' (σ.set i (some (.ref a))) H' (ρ.set i (some d)) := by
 have hil : i < σ.length := by rw [m.len]; exact hi
 have less : ∀ b, Bl B₀ os' (σ.set i (some (.ref a))) b → Bl B₀ os σ b ∨ b = a := fun b z => by
  rcases z with z | ⟨j, h1, h2⟩
  ·exact .inl (.inl z)
  ·rcases hs j h1 with rfl | ⟨q1, q2⟩
   ·rw [zz hil] at h2; cases h2; exact .inr rfl
   ·rw [za q2] at h2; exact .inl (.inr ⟨j, q1, h2⟩)
 have g : Goes H H' (Bl B₀ os σ) (Bl B₀ os' (σ.set i (some (.ref a)))) := by
  have g1 := Goes.fresh (B := Bl B₀ os σ) hn e
  exact ⟨g1.tup, fun b xs q n => ⟨(g1.lst b xs q n).1, fun z => (g1.lst b xs q n).2 (less b z)⟩, fun b xs q n => ⟨(g1.dct b xs q n).1, fun z => (g1.dct b xs q n).2 (less b z)⟩, g1.frz, g1.tkt⟩
 have h0 : H₀ a = none ∧ ¬ B₀ a := ⟨m.grow.free hn, fun z => by obtain ⟨u, q⟩ := m.blk a z; rw [hn] at q; cases q⟩
 refine ⟨m.grow.trans e, fun b h => (let ⟨u, q⟩ := m.blk b h; ⟨u, e _ _ q⟩), by rw [List.length_set, List.length_set]; exact m.len, fun j c q n => ?_, fun j hj => ?_, fun j k b h1 h2 => ?_⟩
 ·have hj : j ≠ i := fun z => n (z ▸ hm)
  rw [za hj] at q
  obtain ⟨w', h1, h2⟩ := m.sh j c q (fun z => (hs2 j z).elim n hj)
  exact ⟨w', by rw [za hj]; exact h1, Rep.goes g _ _ h2⟩
 ·rcases hs j hj with rfl | ⟨q1, q2⟩
  ·exact ⟨a, o, d, zz hil, zz hi, ho, h0, h.goes (.less less (.refl H'))⟩
  ·obtain ⟨b, u, c, h1, h2, h3, h4, h5⟩ := m.own j q1
   exact ⟨b, u, c, by rw [za q2]; exact h1, by rw [za q2]; exact h2, e _ _ h3, h4, h5.goes g⟩
 ·have nown : ∀ l, l ∈ os → σ[l]? = some (some (.ref a)) → False := fun l hl q => by
   obtain ⟨b, u, c, h1, h2, h3, _⟩ := m.own l hl
   rw [q] at h1; cases h1
   rw [hn] at h3; cases h3
  intro e1 e2
  rcases hs j h1 with rfl | ⟨q1, q2⟩
  ·rcases hs k h2 with rfl | ⟨q3, q4⟩
   ·rfl
   ·rw [zz hil] at e1; cases e1
    rw [za q4] at e2
    exact (nown k q3 e2).elim
  ·rcases hs k h2 with rfl | ⟨q3, q4⟩
   ·rw [zz hil] at e2; cases e2
    rw [za q2] at e1
    exact (nown j q1 e1).elim
   ·rw [za q2] at e1; rw [za q4] at e2
    exact m.sep j k b q1 q3 e1 e2
theorem Md.write (m : Md K H₀ B₀ os σ H ρ) {i : Nat} {a : Addr} {o : HO} {d : D} (hi : i ∈ os) (hs : σ[i]? = some (some (.ref a)))
  (h : Own K H (Bl B₀ os σ) o d) : Md K H₀ B₀ os σ (upd H a o) (ρ.set i (some d)) := by
 obtain ⟨a', o', d', h1, h2, h3, h4, h5⟩ := m.own i hi
 rw [hs] at h1; cases h1
 have hB : Bl B₀ os σ a := .inr ⟨i, hi, hs⟩
 have g : Goes H (upd H a o) (Bl B₀ os σ) (Bl B₀ os σ) := .write hB h3 h5.mut
 have hil : i < ρ.length := (List.getElem?_eq_some_iff.mp h2).1
 refine ⟨fun b u q => ?_, fun b hb => ?_, by rw [List.length_set]; exact m.len, fun j c q n => ?_, fun j hj => ?_, m.sep⟩
 rotate_left
 ·by_cases z : b = a
  ·subst z; exact ⟨_, zv⟩
  ·rw [zA z]; exact m.blk b hb
 rotate_left
 rotate_left
 ·by_cases hb : b = a
  ·subst hb; rw [h4.1] at q; cases q
  ·rw [zA hb]; exact m.grow _ _ q
 ·have hj : j ≠ i := fun z => n (z ▸ hi)
  rw [za hj] at q
  obtain ⟨w', q1, q2⟩ := m.sh j c q n
  exact ⟨w', q1, Rep.goes g _ _ q2⟩
 ·by_cases hji : j = i
  ·subst hji
   exact ⟨a, o, d, hs, zz hil, zv, h4, h.goes g⟩
  ·obtain ⟨b, u, c, q1, q2, q3, q4, q5⟩ := m.own j hj
   have hb : b ≠ a := fun z => hji (m.sep j i a hj hi (z ▸ q1) hs)
   exact ⟨b, u, c, q1, by rw [za hji]; exact q2, by rw [zA hb]; exact q3, q4, q5.goes g⟩
theorem Md.get (m : Md K H₀ B₀ os σ H ρ) {i : Nat} {d : D} (q : ρ[i]? = some (some d)) : ∃ v, σ[i]? = some (some v) ∧ Rep K H B₀ d v := by
 obtain ⟨v, h1, h2⟩ := (m.freeze (os' := []) (fun _ z => nomatch z)).sh i d q (by simp)
 exact ⟨v, h1, Rep.goes (.less (fun a z => .inl z) (.refl H)) _ _ h2⟩
def unown (H : Hp) (os : List Nat) (σ : St) : Hp := fun a => open Classical in if ∃ i, i ∈ os ∧ σ[i]? = some (some (.ref a)) then none else H a
theorem unown_of {a : Addr} {o : HO} (h : unown H os σ a = some o) : H a = some o ∧ ¬ ∃ i, i ∈ os ∧ σ[i]? = some (some (.ref a)) := by
 unfold unown at h
 split at h
 ·cases h
 ·rename_i z; exact ⟨h, z⟩
theorem unown_eq {a : Addr} (h : ¬ ∃ i, i ∈ os ∧ σ[i]? = some (some (.ref a))) : unown H os σ a = H a := by
 unfold unown; rw [if_neg h]
theorem unown_own {a : Addr} (h : ∃ i, i ∈ os ∧ σ[i]? = some (some (.ref a))) : unown H os σ a = none := by
 unfold unown; rw [if_pos h]
theorem Md.sub (m : Md K H₀ B₀ os σ H ρ) : zJ H₀ (unown H os σ) := fun a o q => by
 have : ¬ ∃ i, i ∈ os ∧ σ[i]? = some (some (.ref a)) := fun ⟨i, hi, e⟩ => by
  obtain ⟨a', o', d, h1, _, _, h4, _⟩ := m.own i hi
  rw [e] at h1; cases h1
  rw [h4.1] at q; cases q
 rw [unown_eq this]; exact m.grow _ _ q
theorem Md.deep (m : Md K H₀ B₀ os σ H ρ) : Md K (unown H os σ) B₀ os σ H ρ :=
 ⟨fun a o q => (unown_of q).1, m.blk, m.len, m.sh, fun i hi => by
  obtain ⟨a, o, d, h1, h2, h3, h4, h5⟩ := m.own i hi
  exact ⟨a, o, d, h1, h2, h3, ⟨unown_own ⟨i, hi, h1⟩, h4.2⟩, h5⟩, m.sep⟩
theorem Md.shallow {H₁ : Hp} (m : Md K H₁ B₀ os σ H ρ) (e : zJ H₀ H₁) : Md K H₀ B₀ os σ H ρ :=
 ⟨e.trans m.grow, m.blk, m.len, m.sh, fun i hi => by
  obtain ⟨a, o, d, h1, h2, h3, h4, h5⟩ := m.own i hi
  exact ⟨a, o, d, h1, h2, h3, ⟨e.free h4.1, h4.2⟩, h5⟩, m.sep⟩
theorem Md.goDown (m : Md K H₀ B₀ os σ H ρ) : Goes H (unown H os σ) (Bl B₀ os σ) B₀ := by
 have nt : ∀ a xs, Rd H a (.tup xs) → ¬ ∃ i, i ∈ os ∧ σ[i]? = some (some (.ref a)) := fun a xs q ⟨i, hi, e⟩ => by
  obtain ⟨a', o', d, h1, _, h3, _, h5⟩ := m.own i hi
  rw [e] at h1; cases h1
  rcases q with q | ⟨ob, q⟩ <;> (rw [q] at h3; cases h3; cases d <;> simp only [Own] at h5)
 refine ⟨fun a xs q => ?_, fun a xs q n => ?_, fun a kvs q n => ?_, fun a ob w q => ?_, fun a xs q => (unown_eq (H := H) (nt a xs (.inl q))).trans q⟩
 rotate_left 3
 ·refine (unown_eq (H := H) ?_).trans q
  rintro ⟨i, hi, e⟩
  obtain ⟨a', o', d, h1, _, h3, _, h5⟩ := m.own i hi
  rw [e] at h1; cases h1
  rw [q] at h3; cases h3; cases d <;> simp only [Own] at h5
 ·have z := unown_eq (H := H) (nt a xs q)
  rcases q with q | ⟨ob, q⟩
  ·exact .inl (z.trans q)
  ·exact .inr ⟨ob, z.trans q⟩
 ·have z := unown_eq (H := H) (fun z => n (.inr z))
  refine ⟨?_, fun b => n (.inl b)⟩
  rcases q with q | ⟨ob, q⟩
  ·exact .inl (z.trans q)
  ·exact .inr ⟨ob, z.trans q⟩
 ·exact ⟨(unown_eq (H := H) (fun z => n (.inr z))).trans q, fun b => n (.inl b)⟩
theorem Md.goUp (m : Md K H₀ B₀ os σ H ρ) : Goes H₀ H B₀ (Bl B₀ os σ) := by
 have nb : ∀ a o, H₀ a = some o → ¬ B₀ a → ¬ Bl B₀ os σ a := fun a o q n z => z.elim n fun ⟨i, hi, e⟩ => by
  obtain ⟨a', o', d, h1, _, _, h4, _⟩ := m.own i hi
  rw [e] at h1; cases h1
  rw [h4.1] at q; cases q
 refine ⟨fun a xs q => Rd.same m.grow q, fun a xs q n => ⟨Rd.same m.grow q, ?_⟩, fun a kvs q n => ⟨m.grow _ _ q, nb a _ q n⟩, fun a o u q => m.grow _ _ q, fun a xs q => m.grow _ _ q⟩
 rcases q with q | ⟨ob, q⟩ <;> exact nb a _ q n
theorem Md.upB (m : Md K H₀ B₀ os σ H ρ) {a : Addr} {o u : HO} (hB : B₀ a) (h0 : H₀ a = none) (ha : H a = some u) (hm : Mut (some u)) : Md K H₀ B₀ os σ (upd H a o) ρ := by
 have g : Goes H (upd H a o) (Bl B₀ os σ) (Bl B₀ os σ) := .write (.inl hB) ha hm
 refine ⟨fun b v q => ?_, fun b hb => ?_, m.len, fun i d q n => ?_, fun i hi => ?_, m.sep⟩
 ·by_cases hb : b = a
  ·subst hb; rw [h0] at q; cases q
  ·rw [zA hb]; exact m.grow _ _ q
 ·by_cases z : b = a
  ·subst z; exact ⟨_, zv⟩
  ·rw [zA z]; exact m.blk b hb
 ·obtain ⟨v, h1, h2⟩ := m.sh i d q n
  exact ⟨v, h1, Rep.goes g _ _ h2⟩
 ·obtain ⟨b, w', d, h1, h2, h3, h4, h5⟩ := m.own i hi
  have hne : b ≠ a := fun z => h4.2 (by rw [z]; exact hB)
  exact ⟨b, w', d, h1, h2, by rw [zA hne]; exact h3, h4, h5.goes g⟩
end
def EOk (K : Frag) (st : Bool) (os : List Nat) (t : TE) (f : Ev → Option D) : Prop :=
 ∀ (H₀ : Hp) (B₀ : Addr → Prop) (σ : St) (H : Hp) (ρ : Ev) (d : D) (Q : VK), Md K H₀ B₀ os σ H ρ → f ρ = some d → (∀ v H', zJ H H' → Rep K H' (BB st B₀ os σ) d v → Q v H') → t σ H Q
def FOk (K : Frag) (os : List Nat) (t : TE) (f : Ev → Option D) : Prop :=
 ∀ (H₀ : Hp) (B₀ : Addr → Prop) (σ : St) (H : Hp) (ρ : Ev) (d : D) (Q : VK), Md K H₀ B₀ os σ H ρ → f ρ = some d → (∀ a o H', zJ H H' → H a = none → H' a = some o → Own K H' (fun b => Bl B₀ os σ b ∨ b = a) o d → Q (.ref a) H') → t σ H Q
def COk (K : Frag) (k : Bool) (os : List Nat) (t : TE) (f : Ev → Option (List D)) : Prop :=
 ∀ (H₀ : Hp) (B₀ : Addr → Prop) (σ : St) (H : Hp) (ρ : Ev) (ds : List D) (Q : VK), Md K H₀ B₀ os σ H ρ → f ρ = some ds → (∀ a xs H', zJ H H' → Sq k K H' a xs → zk K H' (Bl B₀ os σ) ds xs → Q (.ref a) H') → t σ H Q
def TOk (K : Frag) (os : List Nat) (t : TT) (f : Ev → Option Bool) : Prop :=
 ∀ (H₀ : Hp) (B₀ : Addr → Prop) (σ : St) (H : Hp) (ρ : Ev) (b : Bool) (Q : Bool → Hp → Prop), Md K H₀ B₀ os σ H ρ → f ρ = some b → (∀ H', zJ H H' → Q b H') → t σ H Q
def AOk (K : Frag) (st : Bool) (os : List Nat) (t : TA) (f : Ev → Option (List D)) : Prop :=
 ∀ (H₀ : Hp) (B₀ : Addr → Prop) (σ : St) (H : Hp) (ρ : Ev) (ds : List D) (Q : List V → Hp → Prop), Md K H₀ B₀ os σ H ρ → f ρ = some ds → (∀ vs H', zJ H H' → zk K H' (BB st B₀ os σ) ds vs → Q vs H') → t σ H Q
structure SE (X : Cx) (st : Bool) (os : List Nat) (e : Expr) (t : TE) (f : Ev → Option D) : Prop where
 pe : PE X e t
 ok : EOk X.K st os t f
structure SF (X : Cx) (os : List Nat) (e : Expr) (t : TE) (f : Ev → Option D) : Prop where
 pe : PE X e t
 ok : FOk X.K os t f
structure SC (X : Cx) (k : Bool) (os : List Nat) (e : Expr) (t : TE) (f : Ev → Option (List D)) : Prop where
 pe : PE X e t
 ok : COk X.K k os t f
structure SB (X : Cx) (os : List Nat) (e : Expr) (t : TT) (f : Ev → Option Bool) : Prop where
 pt : PT X e t
 ok : TOk X.K os t f
structure SW (X : Cx) (os : List Nat) (e : Expr) (t : TT) (f : Ev → Option Bool) : Prop where
 pw : PW X e t
 ok : TOk X.K os t f
structure SA (X : Cx) (st : Bool) (os : List Nat) (es : List Expr) (t : TA) (f : Ev → Option (List D)) : Prop where
 pa : PA X es t
 ok : AOk X.K st os t f
section
variable {K : Frag} {H₀ H H' : Hp} {B₀ : Addr → Prop} {os : List Nat} {σ : St} {ρ : Ev} {st : Bool}
theorem Md.bb (m : Md K H₀ B₀ os σ H ρ) (st : Bool) : ∀ a, BB st B₀ os σ a → ∃ o, H a = some o := fun a h => by
 cases st with
 | true => exact m.tracked h
 | false => exact m.tracked (.inl h)
theorem bb_le (st : Bool) : ∀ a, BB st B₀ os σ a → Bl B₀ os σ a := fun a h => by
 cases st with
 | true => exact h
 | false => exact .inl h
theorem Rep.bb {d : D} {v : V} (h : Rep K H (Bl B₀ os σ) d v) : Rep K H (BB st B₀ os σ) d v := Rep.goes (.less (bb_le st) (.refl H)) _ _ h
theorem Rep.up {B : Addr → Prop} {d : D} {v : V} (e : zJ H H') (h : Rep K H B d v) : Rep K H' B d v := Rep.goes (.same e) _ _ h
theorem zk.up {B : Addr → Prop} {d : List D} {v : List V} (e : zJ H H') (h : zk K H B d v) : zk K H' B d v := zk.goes (.same e) _ _ h
theorem Own.rep {B : Addr → Prop} {a : Addr} {o : HO} {d : D} (h : Own K H (fun b => B b ∨ b = a) o d) (ha : H a = some o) (nb : ¬ B a) : Rep K H B d (.ref a) := by
 have g : Goes H H (fun b => B b ∨ b = a) B := .less (fun _ z => .inl z) (.refl H)
 cases o <;> cases d <;> simp only [Own] at h
 ·simp only [Rep]; exact ⟨a, _, rfl, ⟨.inl ha, nb⟩, zk.goes g _ _ h⟩
 ·simp only [Rep]; exact ⟨a, _, rfl, ⟨ha, nb⟩, h.1, zk.goes g _ _ h.2⟩
 ·simp only [Rep]; exact ⟨a, rfl⟩
theorem zy {a : Addr} {o : HO} (h : H a = none) : zJ H (upd H a o) := fun b u q => by
 rw [zA (fun z => by subst z; rw [h] at q; cases q)]; exact q
end
def asK : Bool → D → Option (List D)
 | true, .lst ds => some ds
 | true, .scr ns => some (ns.map .int)
 | false, .tup ds => some ds
 | _, _ => none
def asB : D → Option Bool
 | .bl b => some b
 | _ => none
def zd (i : Nat) : Ev → Option D := fun ρ => ρ[i]?.join
def fC (d : D) : Ev → Option D := fun _ => some d
def f1 (g : D → Option D) (fa : Ev → Option D) : Ev → Option D := fun ρ => (fa ρ).bind g
def f2 (g : D → D → Option D) (fa fb : Ev → Option D) : Ev → Option D := fun ρ => (fa ρ).bind fun x => (fb ρ).bind fun y => g x y
def zl (k : Bool) (fa : Ev → Option D) : Ev → Option (List D) := fun ρ => (fa ρ).bind (asK k)
def fFlat (fa : Ev → Option D) : Ev → Option D := fun ρ => (fa ρ).bind fun d => if d.flat then some d else none
def zC (fa : Ev → Option D) : Ev → Option Bool := fun ρ => (fa ρ).bind asB
def fAnd (fa fb : Ev → Option Bool) : Ev → Option Bool := fun ρ => (fa ρ).bind fun c => if c then fb ρ else some false
def fOr (fa fb : Ev → Option Bool) : Ev → Option Bool := fun ρ => (fa ρ).bind fun c => if c then some true else fb ρ
def fNot (fa : Ev → Option Bool) : Ev → Option Bool := fun ρ => (fa ρ).map (!·)
def fAndV (fa fb : Ev → Option D) : Ev → Option D := fun ρ => ((fa ρ).bind asB).bind fun c => if c then fb ρ else some (.bl false)
def fOrV (fa fb : Ev → Option D) : Ev → Option D := fun ρ => ((fa ρ).bind asB).bind fun c => if c then some (.bl true) else fb ρ
def fNotV (fa : Ev → Option D) : Ev → Option D := fun ρ => ((fa ρ).bind asB).map fun c => .bl (!c)
def fIf (fc : Ev → Option Bool) (fa fb : Ev → Option D) : Ev → Option D := fun ρ => (fc ρ).bind fun c => if c then fa ρ else fb ρ
def zj : Ev → Option (List D) := fun _ => some []
def ze (fa : Ev → Option D) (fr : Ev → Option (List D)) : Ev → Option (List D) := fun ρ => (fa ρ).bind fun x => (fr ρ).map (x :: ·)
def dLst (ds : List D) : Option D := if ds.length ≤ sizeLine then some (.lst ds) else none
def dTup (ds : List D) : Option D := if ds.length ≤ sizeLine then some (.tup ds) else none
def fLst (f : Ev → Option (List D)) : Ev → Option D := fun ρ => (f ρ).bind dLst
def fTup (f : Ev → Option (List D)) : Ev → Option D := fun ρ => (f ρ).bind dTup
def fA (g : List D → Option D) (f : Ev → Option (List D)) : Ev → Option D := fun ρ => (f ρ).bind g
theorem zb {α β : Type} {o : Option α} {g : α → Option β} {y : β} (h : o.bind g = some y) : ∃ x, o = some x ∧ g x = some y := by
 cases o with
 | none => cases h
 | some x => exact ⟨x, rfl, h⟩
theorem map_some {α β : Type} {o : Option α} {g : α → β} {y : β} (h : o.map g = some y) : ∃ x, o = some x ∧ g x = y := by
 cases o with
 | none => cases h
 | some x => exact ⟨x, rfl, by simpa using h⟩
section
variable {X : Cx} {st : Bool} {os : List Nat} {e a b c : Expr} {t ta tb tc : TE} {tA tB' : TT} {f fa fb fc : Ev → Option D} {ga gb : Ev → Option Bool} {pos : Pos}
theorem SF.se (h : SF X os e t f) : SE X st os e t f := ⟨h.pe, fun H₀ B₀ σ H ρ d Q m q k => h.ok H₀ B₀ σ H ρ d Q m q fun a o H' s hn ho hw =>
 k _ _ s (Rep.bb (hw.rep ho (m.ntracked hn)))⟩
theorem SE.flat (h : SE X false os e t f) : SE X true os e t (fFlat f) := ⟨h.pe, fun H₀ B₀ σ H ρ d Q m q k => by
 obtain ⟨x, h1, h2⟩ := zb q
 split at h2
 ·cases h2
  rename_i hf
  exact h.ok H₀ B₀ σ H ρ _ Q m h1 fun v H' s r => k v H' s (Rep.flat _ _ hf r)
 ·cases h2⟩
theorem SE.seq {k : Bool} (h : SE X true os e t f) : SC X k os e t (zl k f) := ⟨h.pe, fun H₀ B₀ σ H ρ ds Q m q kk => by
 obtain ⟨x, h1, h2⟩ := zb q
 refine h.ok H₀ B₀ σ H ρ _ Q m h1 fun v H' s r => ?_
 cases k with
 | true =>
  cases x <;> simp only [asK] at h2 <;> cases h2
  ·simp only [Rep] at r
   obtain ⟨a, xs, rfl, hl, hr⟩ := r
   exact kk a xs H' s hl.sq hr
  ·simp only [Rep] at r
   obtain ⟨a, rfl, hl⟩ := r
   exact kk a _ H' s hl.sq .ints
 | false =>
  cases x <;> simp only [asK] at h2 <;> cases h2
  simp only [Rep] at r
  obtain ⟨a, xs, rfl, hl, hr⟩ := r
  exact kk a xs H' s hl hr⟩
theorem SF.seq (h : SF X os e t f) : SC X true os e t (zl true f) := SE.seq (SF.se h)
theorem zc (i : Nat) {x : Str} (hi : i ∉ os := by decide) (hN : X.N[i]? = some x := by rfl) (hv : Vis X.env.scope x := by first | exact Or.inl rfl | exact Or.inr (Or.inl rfl) | exact Or.inr (Or.inr rfl)) (hd : (x == ("__debug__" : Str)) = false := by decide)
  (hcd : (x == ("__classdict__" : Str)) = false := by decide) : SE X st os (.Name x pos) (tVar i) (zd i) := ⟨pv i hN hv hd hcd, fun H₀ B₀ σ H ρ d Q m q k => by
 have q' : ρ[i]? = some (some d) := by
  unfold zd at q
  cases z : ρ[i]? with
  | none => rw [z] at q; cases q
  | some o => rw [z] at q; cases o <;> simp at q; rw [q]
 obtain ⟨v, h1, h2⟩ := m.sh i d q' hi
 exact ⟨v, h1, k v H (.refl H) (Rep.bb h2)⟩⟩
theorem se_look (i : Nat) {x : Str} (hN : X.N[i]? = some x := by rfl) (hv : Vis X.env.scope x := by first | exact Or.inl rfl | exact Or.inr (Or.inl rfl) | exact Or.inr (Or.inr rfl)) (hd : (x == ("__debug__" : Str)) = false := by decide)
  (hcd : (x == ("__classdict__" : Str)) = false := by decide) : SE X false os (.Name x pos) (tVar i) (zd i) := ⟨pv i hN hv hd hcd, fun H₀ B₀ σ H ρ d Q m q k => by
 have q' : ρ[i]? = some (some d) := by
  unfold zd at q
  cases z : ρ[i]? with
  | none => rw [z] at q; cases q
  | some o => rw [z] at q; cases o <;> simp at q; rw [q]
 obtain ⟨v, h1, h2⟩ := m.get q'
 exact ⟨v, h1, k v H (.refl H) h2⟩⟩
theorem sc_own (i : Nat) {x : Str} (hi : i ∈ os := by decide) (hN : X.N[i]? = some x := by rfl) (hv : Vis X.env.scope x := by first | exact Or.inl rfl | exact Or.inr (Or.inl rfl) | exact Or.inr (Or.inr rfl)) (hd : (x == ("__debug__" : Str)) = false := by decide)
  (hcd : (x == ("__classdict__" : Str)) = false := by decide) : SC X true os (.Name x pos) (tVar i) (zl true (zd i)) := ⟨pv i hN hv hd hcd, fun H₀ B₀ σ H ρ ds Q m q k => by
 obtain ⟨a, o, d, h1, h2, h3, h4, h5⟩ := m.own i hi
 simp only [zl, zd, h2, Option.join, oB] at q
 cases o <;> cases d <;> simp only [Own] at h5 <;> simp only [id, oB, asK] at q <;> cases q
 exact ⟨_, h1, k a _ H (.refl H) (.inl (.inl h3)) h5⟩⟩
theorem zg {i : Int} {j p} : SE X st os (.Constant (.int i) j p) (tC (.int i)) (fC (.int i)) := ⟨pe_int, fun H₀ B₀ σ H ρ d Q m q k => by cases q; exact k _ H (.refl H) (by simp [Rep])⟩
theorem se_bl {i : Bool} {j p} : SE X st os (.Constant (.bool i) j p) (tC (.bl i)) (fC (.bl i)) := ⟨pe_bl, fun H₀ B₀ σ H ρ d Q m q k => by cases q; exact k _ H (.refl H) (by simp [Rep])⟩
theorem Zd {i : Str} {j p} : SE X st os (.Constant (.str i) j p) (tC (.str i)) (fC (.str i)) := ⟨pe_str, fun H₀ B₀ σ H ρ d Q m q k => by cases q; exact k _ H (.refl H) (by simp [Rep])⟩
def ROk (K : Frag) (r : R2) (g : D → D → Option D) : Prop := ∀ (H : Hp) (B : Addr → Prop) (x y : V) (d1 d2 d : D) (Q : VK), (∀ a, B a → ∃ o, H a = some o) → Rep K H B d1 x → Rep K H B d2 y → g d1 d2 = some d →
 (∀ v H', zJ H H' → Rep K H' B d v → Q v H') → r x y H Q
theorem EOk.op {r : R2} {g : D → D → Option D} (hr : ROk X.K r g) (ha : EOk X.K st os ta fa) (hb : EOk X.K st os tb fb) : EOk X.K st os (tOp r ta tb) (f2 g fa fb) := fun H₀ B₀ σ H ρ d Q m q k => by
 obtain ⟨x, h1, h2⟩ := zb q
 obtain ⟨y, h3, h4⟩ := zb h2
 refine ha H₀ B₀ σ H ρ x _ m h1 fun v H1 s1 r1 => ?_
 refine hb H₀ B₀ σ H1 ρ y _ (m.up s1) h3 fun u H2 s2 r2 => ?_
 exact hr H2 _ v u x y d Q ((m.up (s1.trans s2)).bb st) (r1.up s2) r2 h4 fun w' H3 s3 r3 => k w' H3 ((s1.trans s2).trans s3) r3
theorem zB {op : Operator} {r : R2} {g : D → D → Option D} (ho : OpR X (binaryOp op) r) (hr : ROk X.K r g) (ha : SE X st os a ta fa) (hb : SE X st os b tb fb) : SE X st os (.BinOp a op b pos) (tOp r ta tb) (f2 g fa fb) :=
 ⟨pe_op ho ha.pe hb.pe, EOk.op hr ha.ok hb.ok⟩
theorem se_cmp {op : CmpOp} {r : R2} {g : D → D → Option D} (ho : OpR X (compareOp op) r) (hr : ROk X.K r g) (ha : SE X false os a ta fa) (hb : SE X false os b tb fb) (hm : behindInMarks op b = false) : SE X false os (.Compare a [op] [b] pos) (tOp r ta tb) (f2 g fa fb) :=
 ⟨pe_cmpR ho ha.pe hb.pe hm, EOk.op hr ha.ok hb.ok⟩
theorem EOk.test (h : EOk X.K false os t f) : TOk X.K os (tTest t) (zC f) := fun H₀ B₀ σ H ρ b Q m q k => by
 obtain ⟨x, h1, h2⟩ := zb q
 refine h H₀ B₀ σ H ρ x _ m h1 fun v H' s r => ?_
 cases x <;> simp only [asB] at h2 <;> cases h2
 simp only [Rep] at r
 exact ⟨_, r, k H' s⟩
theorem zI {op : CmpOp} {r : R2} {g : D → D → Option D} (ho : OpR X (compareOp op) r) (hr : ROk X.K r g) (ha : SE X false os a ta fa) (hb : SE X false os b tb fb) (hm : behindInMarks op b = false) : SB X os (.Compare a [op] [b] pos) (tTest (tOp r ta tb)) (zC (f2 g fa fb)) :=
 ⟨pt_cmpR ho ha.pe hb.pe hm, EOk.test (EOk.op hr ha.ok hb.ok)⟩
def fChain (g g' : D → D → Option D) (fa fb fc : Ev → Option D) : Ev → Option D := fun ρ => (fa ρ).bind fun x => (fb ρ).bind fun y => ((g x y).bind asB).bind fun c => if c then (fc ρ).bind fun z => g' y z else some (.bl false)
theorem EOk.chain {r r' : R2} {g g' : D → D → Option D} (hr : ROk X.K r g) (hr' : ROk X.K r' g') (ha : EOk X.K false os ta fa) (hb : EOk X.K false os tb fb) (hc : EOk X.K false os tc fc) : EOk X.K false os (tChain r r' ta tb tc) (fChain g g' fa fb fc) := fun H₀ B₀ σ H ρ d Q m q k => by
 obtain ⟨x, h1, h2⟩ := zb q
 obtain ⟨y, h3, h4⟩ := zb h2
 obtain ⟨cc, h5, h6⟩ := zb h4
 obtain ⟨z, h7, h8⟩ := zb h5
 refine ha H₀ B₀ σ H ρ x _ m h1 fun v H1 s1 r1 => ?_
 refine hb H₀ B₀ σ H1 ρ y _ (m.up s1) h3 fun u H2 s2 r2 => ?_
 refine hr H2 _ v u x y z _ ((m.up (s1.trans s2)).bb false) (r1.up s2) r2 h7 fun w' H3 s3 r3 => ?_
 cases z <;> simp only [asB] at h8 <;> cases h8
 simp only [Rep] at r3
 refine ⟨_, r3, ?_⟩
 cases cc with
 | true =>
  rw [if_pos rfl] at h6 ⊢
  obtain ⟨z, h9, h10⟩ := zb h6
  refine hc H₀ B₀ σ H3 ρ z _ (m.up ((s1.trans s2).trans s3)) h9 fun w2 H4 s4 r4 => ?_
  exact hr' H4 _ u w2 y z d Q ((m.up (((s1.trans s2).trans s3).trans s4)).bb false) (r2.up (s3.trans s4)) r4 h10 fun w3 H5 s5 r5 => k w3 H5 ((((s1.trans s2).trans s3).trans s4).trans s5) r5
 | false =>
  rw [if_neg Bool.false_ne_true] at h6 ⊢
  cases h6
  exact k _ H3 ((s1.trans s2).trans s3) (by simp [Rep])
theorem sb_chain {op op' : CmpOp} {r r' : R2} {g g' : D → D → Option D} (ho : OpR X (compareOp op) r) (hr : ROk X.K r g) (ho' : OpR X (compareOp op') r') (hr' : ROk X.K r' g') (ha : SE X false os a ta fa) (hb : SE X false os b tb fb) (hc : SE X false os c tc fc)
  (hm : lastMarks [op, op'] [b, c] = false := by with_unfolding_all rfl) : SB X os (.Compare a [op, op'] [b, c] pos) (tTest (tChain r r' ta tb tc)) (zC (fChain g g' fa fb fc)) := ⟨pt_chain ho ho' ha.pe hb.pe hc.pe hm, EOk.test (EOk.chain hr hr' ha.ok hb.ok hc.ok)⟩
def UOk (K : Frag) (r : V → Hp → VK → Prop) (g : D → Option D) : Prop := ∀ (H : Hp) (B : Addr → Prop) (x : V) (d1 d : D) (Q : VK), (∀ a, B a → ∃ o, H a = some o) → Rep K H B d1 x → g d1 = some d →
 (∀ v H', zJ H H' → Rep K H' B d v → Q v H') → r x H Q
theorem se_un {op : UnaryOp} {r : V → Hp → VK → Prop} {g : D → Option D} (ho : UnR X (unaryOp op) r) (hr : UOk X.K r g) (ha : SE X st os a ta fa) : SE X st os (.UnaryOp op a pos) (tUn r ta) (f1 g fa) :=
 ⟨pe_un ho ha.pe, fun H₀ B₀ σ H ρ d Q m q k => by
  obtain ⟨x, h1, h2⟩ := zb q
  refine ha.ok H₀ B₀ σ H ρ x _ m h1 fun v H1 s1 r1 => ?_
  exact hr H1 _ v x d Q ((m.up s1).bb st) r1 h2 fun w' H3 s3 r3 => k w' H3 (s1.trans s3) r3⟩
theorem sb_val (h : SE X false os e t f) (he : ∀ whole, isTrue e X.env whole = (do let v ← whole; standAt e.pos; holding [v] (truthy v)) := by intro _; rfl) : SB X os e (tB t) (zC f) := ⟨pt_val h.pe he, EOk.test h.ok⟩
theorem sb_not (h : SB X os a tA ga) : SB X os (.UnaryOp .Not a pos) (tNot tA) (fNot ga) := ⟨pt_not h.pt, fun H₀ B₀ σ H ρ b Q m q k => by
 obtain ⟨x, h1, h2⟩ := map_some q
 subst h2
 exact h.ok H₀ B₀ σ H ρ x _ m h1 fun H' s => k H' s⟩
theorem SW.sb (h : SW X os e tA ga) : SB X os e tA ga := ⟨h.pw.pt, h.ok⟩
theorem sw_and1 (h : SB X os a tA ga) : SW X os (.BoolOp .And [a] pos) tA ga := ⟨pw_and1 h.pt, h.ok⟩
theorem sw_or1 (h : SB X os a tA ga) : SW X os (.BoolOp .Or [a] pos) tA ga := ⟨pw_or1 h.pt, h.ok⟩
theorem sw_and {rest : List Expr} (ha : SB X os a tA ga) (hb : SW X os (.BoolOp .And (b :: rest) pos) tB' gb) : SW X os (.BoolOp .And (a :: b :: rest) pos) (tAnd tA tB') (fAnd ga gb) := ⟨pw_and ha.pt hb.pw, fun H₀ B₀ σ H ρ b Q m q k => by
 obtain ⟨x, h1, h2⟩ := zb q
 refine ha.ok H₀ B₀ σ H ρ x _ m h1 fun H' s => ?_
 cases x with
 | true => rw [if_pos rfl] at h2 ⊢; exact hb.ok H₀ B₀ σ H' ρ b Q (m.up s) h2 fun H2 s2 => k H2 (s.trans s2)
 | false => rw [if_neg Bool.false_ne_true] at h2 ⊢; cases h2; exact k H' s⟩
theorem sw_or {rest : List Expr} (ha : SB X os a tA ga) (hb : SW X os (.BoolOp .Or (b :: rest) pos) tB' gb) : SW X os (.BoolOp .Or (a :: b :: rest) pos) (tOr tA tB') (fOr ga gb) := ⟨pw_or ha.pt hb.pw, fun H₀ B₀ σ H ρ b Q m q k => by
 obtain ⟨x, h1, h2⟩ := zb q
 refine ha.ok H₀ B₀ σ H ρ x _ m h1 fun H' s => ?_
 cases x with
 | true => rw [if_pos rfl] at h2 ⊢; cases h2; exact k H' s
 | false => rw [if_neg Bool.false_ne_true] at h2 ⊢; exact hb.ok H₀ B₀ σ H' ρ b Q (m.up s) h2 fun H2 s2 => k H2 (s.trans s2)⟩
theorem se_one {op} (h : SE X st os a t f) : SE X st os (.BoolOp op [a] pos) t f := ⟨pe_one h.pe, h.ok⟩
theorem se_and {rest : List Expr} (ha : SE X st os a ta fa) (hb : SE X st os (.BoolOp .And (b :: rest) pos) tb fb) : SE X st os (.BoolOp .And (a :: b :: rest) pos) (tAndV ta tb) (fAndV fa fb) := ⟨pe_and ha.pe hb.pe, fun H₀ B₀ σ H ρ d Q m q k => by
 obtain ⟨x, h1, h2⟩ := zb q
 obtain ⟨y, h3, h4⟩ := zb h1
 refine ha.ok H₀ B₀ σ H ρ y _ m h3 fun v H' s r => ?_
 cases y <;> simp only [asB] at h4 <;> cases h4
 simp only [Rep] at r
 refine ⟨_, r, ?_⟩
 cases x with
 | true => rw [if_pos rfl] at h2 ⊢; exact hb.ok H₀ B₀ σ H' ρ d Q (m.up s) h2 fun v H2 s2 => k v H2 (s.trans s2)
 | false => rw [if_neg Bool.false_ne_true] at h2 ⊢; cases h2; exact k _ H' s (by simp [Rep])⟩
variable {es : List Expr} {tl : TA} {fl : Ev → Option (List D)}
theorem zr : SA X st os [] tNil zj := ⟨Zr, fun H₀ B₀ σ H ρ ds Q m q k => by cases q; exact k [] H (.refl H) .nil⟩
theorem zf (ha : SE X st os e t f) (hr : SA X st os es tl fl) (hs : starEach (e :: es) X.env = (false, eval e X.env) :: starEach es X.env := by rfl) : SA X st os (e :: es) (Za t tl) (ze f fl) := ⟨zG ha.pe hr.pa hs, fun H₀ B₀ σ H ρ ds Q m q k => by
 obtain ⟨x, h1, h2⟩ := zb q
 obtain ⟨y, h3, h4⟩ := map_some h2
 subst h4
 refine ha.ok H₀ B₀ σ H ρ x _ m h1 fun v H1 s1 r1 => ?_
 refine hr.ok H₀ B₀ σ H1 ρ y _ (m.up s1) h3 fun vs H2 s2 r2 => ?_
 exact k _ H2 (s1.trans s2) (.cons (r1.up s2) r2)⟩
theorem se_tup {x1} (h : SA X st os es tl fl) : SE X st os (.Tuple es x1 pos) (tTup tl) (fTup fl) := ⟨pe_tup h.pa, fun H₀ B₀ σ H ρ d Q m q k => by
 obtain ⟨ds, h1, h2⟩ := zb q
 unfold dTup at h2
 split at h2
 ·cases h2
  rename_i hl
  refine h.ok H₀ B₀ σ H ρ ds _ m h1 fun vs H1 s1 r1 => ⟨by rw [r1.length]; exact hl, fun p hp => ?_⟩
  refine k _ _ (s1.trans (zy hp)) ?_
  simp only [Rep]
  exact ⟨p, vs, rfl, .inl (.inl zv), r1.up (zy hp)⟩
 ·cases h2⟩
theorem sf_lst (h : SA X true os es tl fl) : SF X os (.List es pos) (tLst tl) (fLst fl) := ⟨pe_lst h.pa, fun H₀ B₀ σ H ρ d Q m q k => by
 obtain ⟨ds, h1, h2⟩ := zb q
 unfold dLst at h2
 split at h2
 ·cases h2
  rename_i hl
  refine h.ok H₀ B₀ σ H ρ ds _ m h1 fun vs H1 s1 r1 => ⟨by rw [r1.length]; exact hl, fun p hp => ?_⟩
  exact k p _ _ (s1.trans (zy hp)) (s1.free hp) zv (zk.goes (.fresh hp (zy hp)) _ _ r1)
 ·cases h2⟩
def dIx (ds : List D) (d : D) : Option D := match d with | .int i => atI ds i | _ => none
def fIx (fa : Ev → Option (List D)) (fb : Ev → Option D) : Ev → Option D := fun ρ => (fa ρ).bind fun ds => (fb ρ).bind fun i => dIx ds i
theorem zk.atI {K : Frag} {H : Hp} {B : Addr → Prop} {ds : List D} {vs : List V} {i : Int} {d : D} (h : zk K H B ds vs) (e : L2.atI ds i = some d) : ∃ v, L2.atI vs i = some v ∧ Rep K H B d v := by
 unfold L2.atI at e ⊢
 rw [h.length]
 cases z : ixN ds.length i with
 | none => rw [z] at e; cases e
 | some j =>
  rw [z] at e
  exact h.get e
theorem se_ixL {ca : Ev → Option (List D)} (ha : SC X true os a ta ca) (hb : SE X true os b tb fb) (hs : PlainIx b := by intro _ _; rfl) {K' : Frag} (hK : X.K = K' := by rfl) : SE X st os (.Subscript a b pos) (tOp (rIxL K') ta tb) (fIx ca fb) := by
 subst hK
 exact ⟨pe_ix ix_list ha.pe hb.pe hs, fun H₀ B₀ σ H ρ d Q m q k => by
 obtain ⟨ds, h1, h2⟩ := zb q
 obtain ⟨y, h3, h4⟩ := zb h2
 refine ha.ok H₀ B₀ σ H ρ ds _ m h1 fun p xs H1 s1 hq r1 => ?_
 refine hb.ok H₀ B₀ σ H1 ρ y _ (m.up s1) h3 fun u H2 s2 r2 => ?_
 cases y <;> simp only [dIx] at h4 <;> try (cases h4)
 simp only [Rep] at r2
 obtain ⟨v, q1, q2⟩ := (r1.up s2).atI h4
 exact ⟨p, xs, _, v, rfl, r2, s2.seq hq, q1, k v H2 (s1.trans s2) (Rep.bb q2)⟩⟩
theorem zM {ca : Ev → Option (List D)} (ha : SC X false os a ta ca) (hb : SE X true os b tb fb) (hs : PlainIx b := by intro _ _; rfl) {K' : Frag} (hK : X.K = K' := by rfl) : SE X st os (.Subscript a b pos) (tOp (rIxT K') ta tb) (fIx ca fb) := by
 subst hK
 exact ⟨pe_ix ix_tup ha.pe hb.pe hs, fun H₀ B₀ σ H ρ d Q m q k => by
 obtain ⟨ds, h1, h2⟩ := zb q
 obtain ⟨y, h3, h4⟩ := zb h2
 refine ha.ok H₀ B₀ σ H ρ ds _ m h1 fun p xs H1 s1 hq r1 => ?_
 refine hb.ok H₀ B₀ σ H1 ρ y _ (m.up s1) h3 fun u H2 s2 r2 => ?_
 cases y <;> simp only [dIx] at h4 <;> try (cases h4)
 simp only [Rep] at r2
 obtain ⟨v, q1, q2⟩ := (r1.up s2).atI h4
 exact ⟨p, xs, _, v, rfl, r2, SqT.same s2 hq, q1, k v H2 (s1.trans s2) (Rep.bb q2)⟩⟩
structure SO (X : Cx) (os : List Nat) (e : Option Expr) (t : TO) (f : Ev → Option (Option Int)) : Prop where
 po : PO X e t
 ok : ∀ (H₀ : Hp) (B₀ : Addr → Prop) (σ : St) (H : Hp) (ρ : Ev) (d : Option Int) (Q : Option Int → Hp → Prop), Md X.K H₀ B₀ os σ H ρ → f ρ = some d → (∀ H', zJ H H' → Q d H') → t σ H Q
def asI : D → Option Int
 | .int i => some i
 | _ => none
def fNo : Ev → Option (Option Int) := fun _ => some none
def fPart (f : Ev → Option D) : Ev → Option (Option Int) := fun ρ => (f ρ).bind fun d => (asI d).map some
theorem so_none : SO X os none tNoPart fNo := ⟨po_none, fun H₀ B₀ σ H ρ d Q m q k => by cases q; exact k H (.refl H)⟩
theorem so_some (h : SE X false os e t f) : SO X os (some e) (tPart t) (fPart f) := ⟨po_some h.pe, fun H₀ B₀ σ H ρ d Q m q k => by
 obtain ⟨x, h1, h2⟩ := zb q
 obtain ⟨i, h3, h4⟩ := map_some h2
 subst h4
 refine h.ok H₀ B₀ σ H ρ x _ m h1 fun v H' s r => ?_
 cases x <;> simp only [asI] at h3 <;> cases h3
 simp only [Rep] at r
 exact ⟨_, r, k H' s⟩⟩
def cutD (ds : List D) (lo hi : Option Int) : List D := (ds.drop (HT.sIx ds.length 0 lo)).take (HT.sIx ds.length ds.length hi - HT.sIx ds.length 0 lo)
theorem zk.cut {K : Frag} {H : Hp} {B : Addr → Prop} {ds : List D} {vs : List V} {lo hi : Option Int} (h : zk K H B ds vs) : zk K H B (cutD ds lo hi) (cutV vs lo hi) := by
 unfold cutD cutV
 rw [h.length]
 exact (h.drop _).take _
def fCut (g : List D → D) (fa : Ev → Option (List D)) (fl fu : Ev → Option (Option Int)) : Ev → Option D := fun ρ => (fa ρ).bind fun ds => (fl ρ).bind fun lo => (fu ρ).bind fun hi => some (g (cutD ds lo hi))
end
end M
namespace L2
open PySem PySem.Spec PyProof.Rows
section
variable {X : Cx}
theorem iter_seq {k : Bool} {pins : List (Addr × Obj)} {s : Shared} {σ : St} {H : Hp} {p : Addr} {xs : List V} {E : Value → Shared → Prop} {R : Value → Shared → Prop} (hc : X.calm = true) (I : Inv X pins σ H s) (hq : Sq k X.K H p xs)
  (h : ∀ (its : List Value) (s₂ : Shared) (fp wr : List Addr) (S : Nat → Heap → Prop), zN xs its → Walks X.prog X.w X.A.in1 s.heap.objs.size fp wr its.toArray.size (fun i v => its.toArray[i]? = some v) S → S 0 s₂.heap → (∀ b ∈ fp, b < s₂.heap.objs.size) →
   (∀ h' tk, (∀ b o, b ∉ wr → s₂.heap.get? b = some o → h'.get? b = some o) → Inv X pins σ H { s₂ with heap := h', toks := tk }) → R (.ref s.heap.objs.size) s₂) :
  wpAny (model X.prog X.w) X.A.in1 (pyIter (.ref p)) R E s := by
 obtain ⟨its, r, pl, hz⟩ := I.seq hq
 have hh : X.A.in1.handled = none := I.ok.hd hc
 have hlt : p < s.heap.objs.size := pl.lt
 have hne : p ≠ s.heap.objs.size := Nat.ne_of_lt hlt
 have old : ∀ (ob : Obj) (h' : Heap), (∀ b o, b ∉ [s.heap.objs.size] → (s.heap.push ob).get? b = some o → h'.get? b = some o) → ∀ b o, s.heap.get? b = some o → h'.get? b = some o := fun ob h' hk b o e =>
  hk b o (fun hm => by
   have : b = s.heap.objs.size := by simpa using hm
   exact absurd (this ▸ Heap.lt_size e) (Nat.lt_irrefl _)) (Heap.get?_push_of_some _ e)
 cases k with
 | true =>
  refine wpAny_pyIter_list pl (h its _ [s.heap.objs.size, p] [s.heap.objs.size] _ r (Walks.list hh _ p hne its.toArray) ⟨⟨_, Heap.get?_push_size _ rfl, rfl, rfl⟩, Heap.IsList.at pl fun o e => Heap.get?_push_of_some _ e⟩ ?_ fun h' tk hk => I.kept (old _ h' hk))
  intro b hb
  rw [Heap.size_push]
  rcases List.mem_cons.mp hb with rfl | hb
  ·exact Nat.lt_succ_self _
  ·have : b = p := by simpa using hb
   subst this; exact Nat.lt_succ_of_lt hlt
 | false =>
  refine wpAny_pyIter_tuple pl (h its _ [s.heap.objs.size, p] [s.heap.objs.size] _ r (Walks.tuple hh _ p hne its.toArray) ⟨⟨_, Heap.get?_push_size _ rfl, rfl, rfl⟩, Heap.IsTuple.at pl fun o e => Heap.get?_push_of_some _ e⟩ ?_ fun h' tk hk => I.kept (old _ h' hk))
  intro b hb
  rw [Heap.size_push]
  rcases List.mem_cons.mp hb with rfl | hb
  ·exact Nat.lt_succ_self _
  ·have : b = p := by simpa using hb
   subst this; exact Nat.lt_succ_of_lt hlt
theorem vals_int {ns : List Int} {its : List Value} (r : zN (ns.map V.int) its) {i : Nat} {v : Value} (h : its.toArray[i]? = some v) : ∃ t, v = .int (ns.getD i 0) t := by
 have hl := r.length
 rw [List.length_map] at hl
 have h' : its[i]? = some v := by simpa using h
 have hi : i < ns.length := by have := (List.getElem?_eq_some_iff.mp h').1; omega
 obtain ⟨u, h1, h2⟩ := r.get (i := i) (x := .int ns[i]) (by simp [hi])
 rw [h'] at h1; cases h1
 obtain ⟨t, rfl⟩ := h2
 exact ⟨t, by simp [List.getD, hi]⟩
theorem preSum_add (val : Nat → Int) (a : Int) : ∀ n, preSum (fun i => if i = 0 then a else val (i - 1)) (n + 1) = a + preSum val n
 | 0 => by simp [preSum]
 | n + 1 => by rw [preSum, preSum_add val a n, preSum]; simp; omega
theorem preSum_list : ∀ (ns : List Int), preSum (fun i => ns.getD i 0) ns.length = ns.sum
 | [] => rfl
 | a :: r => by
  have e : (fun i => (a :: r).getD i 0) = fun i => if i = 0 then a else r.getD (i - 1) 0 := by
   funext i; cases i <;> simp [List.getD]
  rw [e, List.length_cons, preSum_add (fun j => r.getD j 0) a, preSum_list r, List.sum_cons]
theorem call_sumI (k : Bool) (hc : X.calm = true) : CallR X (.builtin "sum") (fun xs H Q => ∃ (p : Addr) (ns : List Int), xs = [.ref p] ∧ Sq k X.K H p (ns.map V.int) ∧ Q (.int ns.sum) H) := by
 intro pins s σ H xs us Q I r h
 obtain ⟨p, ns, rfl, hq, q⟩ := h
 obtain ⟨u, rfl, ru⟩ := vals1 r
 cases ru
 refine call_sum_walkG (iter_seq hc I hq fun its s₂ fp wr S rv W st hfp fin => ?_)
 refine ⟨_, fp, wr, _, _, S, fun i => ns.getD i 0, rfl, W, st, hfp, fun i v hv => vals_int rv hv, fun h' tk t' hk => ?_⟩
 have hl : its.toArray.size = ns.length := by have := rv.length; simpa using this.symm
 rw [hl, preSum_list]
 exact ⟨.int ns.sum, H, fin h' tk hk, ⟨_, rfl⟩, q⟩
theorem range_all {α : Type} (ns : List α) (p : α → Bool) (d : α) : (List.range ns.length).all (fun i => p (ns.getD i d)) = ns.all p := by
 induction ns with
 | nil => rfl
 | cons a r ih =>
  rw [List.length_cons, List.range_succ_eq_map, List.all_cons, List.all_map, List.all_cons, ← ih]
  congr 1
theorem vals_bl {ns : List Bool} {its : List Value} (r : zN (ns.map V.bl) its) {i : Nat} {v : Value} (h : its.toArray[i]? = some v) : v = .bool (ns.getD i false) := by
 have hl := r.length
 rw [List.length_map] at hl
 have h' : its[i]? = some v := by simpa using h
 have hi : i < ns.length := by have := (List.getElem?_eq_some_iff.mp h').1; omega
 obtain ⟨u, h1, h2⟩ := r.get (i := i) (x := .bl ns[i]) (by simp [hi])
 rw [h'] at h1; cases h1
 cases h2
 simp [List.getD, hi]
theorem truthOf_bl {A : Around} {its : List Value} {ns : List Bool} (r : zN (ns.map V.bl) its) : TruthOf X.prog X.w A (fun i v => its.toArray[i]? = some v) (fun i => ns.getD i false) := fun i v s Q E hv hq => by
 cases vals_bl r hv
 exact wpAny_truthy_bool hq
theorem call_allB (k : Bool) (hc : X.calm = true) : CallR X (.builtin "all") (fun xs H Q => ∃ (p : Addr) (ns : List Bool), xs = [.ref p] ∧ Sq k X.K H p (ns.map V.bl) ∧ Q (.bl (ns.all id)) H) := by
 intro pins s σ H xs us Q I r h
 obtain ⟨p, ns, rfl, hq, q⟩ := h
 obtain ⟨u, rfl, ru⟩ := vals1 r
 cases ru
 refine call_all_walk (iter_seq hc I hq fun its s₂ fp wr S rv W st hfp fin => ?_)
 refine ⟨_, fp, wr, _, _, S, _, rfl, W, st, truthOf_bl rv, fun h' tk hk => ?_⟩
 have hl : its.toArray.size = ns.length := by have := rv.length; simpa using this.symm
 rw [hl, show ((List.range ns.length).all fun i => ns.getD i false) = ns.all id from range_all ns id false]
 exact ⟨.bl _, H, fin h' tk hk, rfl, q⟩
def tyTab : List String := ["int", "bool", "str", "list", "tuple", "dict"]
theorem ty_type : ∀ T ∈ tyTab, typeOf (.type T) = pure (.type "type") := by
 intro T h
 simp only [tyTab, List.mem_cons, List.not_mem_nil, or_false] at h
 rcases h with rfl | rfl | rfl | rfl | rfl | rfl <;> rfl
theorem sub_tab : ∀ Tx ∈ ("NoneType" :: tyTab), ∀ T ∈ tyTab, isSubtype (.type Tx) (.type T) = pure (Tx == T || (Tx == "bool" && T == "int")) := by
 intro Tx hx T h
 rw [isSubtype_type]
 simp only [tyTab, List.mem_cons, List.not_mem_nil, or_false] at h hx
 rcases hx with rfl | rfl | rfl | rfl | rfl | rfl | rfl <;> rcases h with rfl | rfl | rfl | rfl | rfl | rfl <;> kernel_rfl
def TyN (K : PySem.W.Frag) (H : Hp) (x : V) (n : String) : Prop := match x with
 | .non => n = "NoneType"
 | .bl _ => n = "bool"
 | .int _ => n = "int"
 | .str _ => n = "str"
 | .ref p => (n = "list" ∧ ∃ xs, SqL K H p xs) ∨ (n = "tuple" ∧ ∃ xs, SqT K H p xs) ∨ (n = "dict" ∧ ∃ kvs, H p = some (.dK kvs))
 | _ => False
theorem call_isi : CallR X (.builtin "isinstance") (fun xs H Q => ∃ x T n, xs = [x, .ty T] ∧ T ∈ tyTab ∧ TyN X.K H x n ∧ Q (.bl (n == T || (n == "bool" && T == "int"))) H) := by
 intro pins s σ H xs us Q I r h
 obtain ⟨x, T, n, rfl, hT, hn, q⟩ := h
 obtain ⟨u, u', rfl, ru, ru'⟩ := vals2 r
 obtain rfl : u' = Value.type T := ru'
 have fin : ∀ tk, EP X pins σ Q (.bool (n == T || (n == "bool" && T == "int"))) { s with toks := tk } := fun tk => ⟨.bl _, H, I.tok tk, rfl, q⟩
 have nm : n ∈ ("NoneType" :: tyTab) := by
  cases x with
  | non => cases (show n = _ from hn); decide
  | bl b => cases (show n = _ from hn); decide
  | int b => cases (show n = _ from hn); decide
  | str b => cases (show n = _ from hn); decide
  | ref p => rcases hn with ⟨rfl, _⟩ | ⟨rfl, _⟩ | ⟨rfl, _⟩ <;> decide
  | _ => exact (show False from hn).elim
 have hs := sub_tab n nm T hT
 have ty : s.TypeIs u n := by
  cases x with
  | non => cases (show n = _ from hn); cases ru; exact PySem.typeIs_none s
  | bl b => cases (show n = _ from hn); cases ru; exact PySem.typeIs_bool s b
  | int b => cases (show n = _ from hn); obtain ⟨t, rfl⟩ := ru; exact typeIs_int s b t
  | str b => cases (show n = _ from hn); obtain ⟨t, rfl⟩ := ru; exact typeIs_str s b t
  | ref p =>
   cases ru
   rcases hn with ⟨rfl, xs, hq⟩ | ⟨rfl, xs, hq⟩ | ⟨rfl, kvs, hk⟩
   ·obtain ⟨its, _, pl, _⟩ := I.list hq; exact pl.isList.typeIs
   ·obtain ⟨its, _, pl, _⟩ := I.tuple hq; exact pl.typeIs
   ·obtain ⟨_, _, _, _, o, _, _, e, ex, _⟩ := I.hok p _ hk; exact ⟨o, e, ex.1⟩
  | _ => exact (show False from hn).elim
 cases hb : (n == T || (n == "bool" && T == "int")) with
 | true =>
  rw [hb] at hs
  have f := fin s.toks
  rw [hb] at f
  exact call_isinstance (isinstance_true (ty_type T hT) hs) ⟨ty, f⟩
 | false =>
  rw [hb] at hs
  have f := fin (s.toks + 1)
  rw [hb] at f
  have hne : (Value.type n == Value.type T) = false := by
   have e : (n == T) = false := by cases z : (n == T) <;> simp [z] at hb ⊢
   have e' : n ≠ T := by simpa using e
   exact beq_eq_false_iff_ne.mpr fun z => e' (by injection z)
  cases x with
  | non => cases (show n = _ from hn); cases ru; exact call_isinstance (isinstance_false_none hne (ty_type T hT) hs) f
  | bl b => cases (show n = _ from hn); cases ru; exact call_isinstance (isinstance_false_bool hne (ty_type T hT) hs) f
  | int b => cases (show n = _ from hn); obtain ⟨t, rfl⟩ := ru; exact call_isinstance (isinstance_false_int hne (ty_type T hT) hs) f
  | str b => cases (show n = _ from hn); obtain ⟨t, rfl⟩ := ru; exact call_isinstance (isinstance_false_str hne (ty_type T hT) hs) f
  | ref p =>
   cases ru
   rcases hn with ⟨rfl, _⟩ | ⟨rfl, _⟩ | ⟨rfl, _⟩
   ·obtain ⟨o, e, c⟩ := ty; exact call_isinstance (isinstance_false_list hne (ty_type T hT) hs) ⟨⟨o, e, c⟩, f⟩
   ·obtain ⟨o, e, c⟩ := ty; exact call_isinstance (isinstance_false_tuple hne (ty_type T hT) hs) ⟨⟨o, e, c⟩, f⟩
   ·obtain ⟨o, e, c⟩ := ty; exact call_isinstance (isinstance_false_dict hne (ty_type T hT) hs) ⟨⟨o, e, c⟩, f⟩
  | _ => exact (show False from hn).elim
def rCatS : R2 := fun x y H Q => ∃ l b xs zs, x = .ref l ∧ y = .ref b ∧ Rd H l (.lst xs) ∧ Rd H b (.lst zs) ∧ xs.length + zs.length ≤ sizeLine ∧ ∀ p, H p = none → Q (.ref p) (upd H p (.lst (xs ++ zs)))
theorem op_catS : OpR X (binaryOp .Add) rCatS := by
 intro pins s σ H x y v u Q I rx ry h
 obtain ⟨l, b, xs, zs, rfl, rfl, hH, hB, hz, q⟩ := h
 cases rx
 cases ry
 obtain ⟨z, its, n, r, e⟩ := hH.ok I.hok
 obtain ⟨z2, its2, n2, r2, e2⟩ := hB.ok I.hok
 have hl := r.length
 have hl2 := r2.length
 refine PySem.P.add_list e e2 ?_ (by rw [List.size_toArray, List.size_toArray]; omega)
 have ea : its.toArray ++ its2.toArray = (its ++ its2).toArray := by simp
 rw [ea]
 exact ⟨.ref _, _, I.lnew (t' := s.toks) (r.append r2) (by rw [List.length_append]; omega), rfl, q _ I.fresh⟩
theorem op_mulB : OpR X (binaryOp .Mult) (rI IntMulOk fun i j => .int (i * j)) := opI fun _ _ _ _ _ _ _ hc q => mul_int q hc
def CDivB (i j : Int) : Prop := j ≠ 0
theorem op_fdivP (hr : Room 34 X.A) : OpR X (binaryOp .FloorDiv) (rI CDivB fun i j => .int (i.fdiv j)) := by
 intro pins s σ H x y v u Q I rx ry h
 obtain ⟨i, j, rfl, rfl, hc, q⟩ := h
 obtain ⟨t, rfl⟩ := rx
 obtain ⟨t', rfl⟩ := ry
 refine floordiv_int hc ⟨.int (i.fdiv j), H, I.tok _, ⟨_, rfl⟩, q⟩ (.inr ?_)
 obtain ⟨e, l, h1, h2, h3, h4, h5⟩ := I.ok.top
 exact PylongRoom.of I.nolimit (by have := hr.dp; show X.A.depth + 100 < _; omega) (SeerAt.of (I.mod.seer.keeps I.bk) I.ok.tree (by rw [I.ok.frames, h1]) h2 h3 h4 h5)
end
end L2
namespace M
open PySem PySem.Spec L2
open PySem.W (Frag)
def dI (g : Int → Int → D) : D → D → Option D
 | .int i, .int j => some (g i j)
 | _, _ => none
noncomputable def dIc (C : Int → Int → Prop) (g : Int → Int → D) : D → D → Option D
 | .int i, .int j => open Classical in if C i j then some (g i j) else none
 | _, _ => none
section
variable {K : Frag}
theorem rok_I0 {g : Int → Int → V} {g' : Int → Int → D} (h : ∀ H B i j, Rep K H B (g' i j) (g i j)) : ROk K (rI0 g) (dI g') := fun H B x y d1 d2 d Q hB r1 r2 e k => by
 cases d1 <;> cases d2 <;> simp only [dI] at e <;> cases e
 simp only [Rep] at r1 r2
 exact ⟨_, _, r1, r2, k _ H (.refl H) (h _ _ _ _)⟩
theorem rok_I {C : Int → Int → Prop} {g : Int → Int → V} {g' : Int → Int → D} (h : ∀ H B i j, Rep K H B (g' i j) (g i j)) : ROk K (rI C g) (dIc C g') := fun H B x y d1 d2 d Q hB r1 r2 e k => by
 cases d1 <;> cases d2 <;> simp only [dIc] at e <;> try (cases e; done)
 split at e
 ·rename_i hc
  cases e
  simp only [Rep] at r1 r2
  exact ⟨_, _, r1, r2, hc, k _ H (.refl H) (h _ _ _ _)⟩
 ·cases e
theorem rep_int {H : Hp} {B : Addr → Prop} {i : Int} : Rep K H B (.int i) (.int i) := by simp [Rep]
theorem rep_bl {H : Hp} {B : Addr → Prop} {i : Bool} : Rep K H B (.bl i) (.bl i) := by simp [Rep]
abbrev dAdd := dI fun i j => .int (i + j)
abbrev dSub := dI fun i j => .int (i - j)
noncomputable abbrev dMul := dIc IntMulOk fun i j => .int (i * j)
noncomputable abbrev dDiv := dIc CDiv fun i j => .int (i / j)
noncomputable abbrev dDivP := dIc CDivB fun i j => .int (i.fdiv j)
noncomputable abbrev dMod := dIc (fun _ j => 0 < j) fun i j => .int (i % j)
noncomputable abbrev dPow := dIc CPow fun i j => .int (i ^ j.toNat)
abbrev dLt := dI fun i j => .bl (decide (i < j))
abbrev dGt := dI fun i j => .bl (decide (j < i))
theorem rok_add : ROk K (rI0 fun i j => .int (i + j)) dAdd := rok_I0 fun _ _ _ _ => rep_int
theorem rok_sub : ROk K (rI0 fun i j => .int (i - j)) dSub := rok_I0 fun _ _ _ _ => rep_int
theorem rok_mul : ROk K (rI IntMulOk fun i j => .int (i * j)) dMul := rok_I fun _ _ _ _ => rep_int
theorem rok_div : ROk K (rI CDiv fun i j => .int (i / j)) dDiv := rok_I fun _ _ _ _ => rep_int
theorem rok_divP : ROk K (rI CDivB fun i j => .int (i.fdiv j)) dDivP := rok_I fun _ _ _ _ => rep_int
theorem zK : ROk K (rI (fun _ j => 0 < j) fun i j => .int (i % j)) dMod := rok_I fun _ _ _ _ => rep_int
theorem rok_lt : ROk K (rI0 fun i j => .bl (decide (i < j))) dLt := rok_I0 fun _ _ _ _ => rep_bl
theorem rok_gt : ROk K (rI0 fun i j => .bl (decide (j < i))) dGt := rok_I0 fun _ _ _ _ => rep_bl
def eqS : D → D → Option Bool
 | .int i, .int j => some (decide (i = j))
 | .bl i, .bl j => some (decide (i = j))
 | .str i, .str j => some (decide (i = j))
 | .non, .non => some true
 | .non, .int _ => some false | .int _, .non => some false | .non, .bl _ => some false | .bl _, .non => some false | .non, .str _ => some false | .str _, .non => some false
 | .int _, .str _ => some false | .str _, .int _ => some false | .bl _, .str _ => some false | .str _, .bl _ => some false
 | _, _ => none
def dEqS (x y : D) : Option D := (eqS x y).map .bl
def dNeS (x y : D) : Option D := (eqS x y).map fun b => .bl (!b)
theorem eqS_v {H : Hp} {B : Addr → Prop} {d1 d2 : D} {x y : V} {b : Bool} (r1 : Rep K H B d1 x) (r2 : Rep K H B d2 y) (e : eqS d1 d2 = some b) : scal x y = true ∧ decide (x = y) = b := by
 cases d1 <;> cases d2 <;> simp only [eqS] at e <;> cases e <;> simp only [Rep] at r1 r2 <;> subst r1 <;> subst r2 <;> simp [scal]
theorem Zu : ROk K rEq dEqS := fun H B x y d1 d2 d Q hB r1 r2 e k => by
 obtain ⟨b, h1, rfl⟩ := map_some e
 obtain ⟨h2, h3⟩ := eqS_v r1 r2 h1
 exact ⟨h2, k _ H (.refl H) (by rw [h3]; exact rep_bl)⟩
theorem rok_neS : ROk K rNe dNeS := fun H B x y d1 d2 d Q hB r1 r2 e k => by
 obtain ⟨b, h1, rfl⟩ := map_some e
 obtain ⟨h2, h3⟩ := eqS_v r1 r2 h1
 exact ⟨h2, k _ H (.refl H) (by rw [h3]; exact rep_bl)⟩
def isNon : D → Bool
 | .non => true
 | _ => false
def dIsN (x y : D) : Option D := if isNon y then some (.bl (isNon x)) else none
def dNotN (x y : D) : Option D := if isNon y then some (.bl (!isNon x)) else none
def dNeg : D → Option D
 | .int i => some (.int (-i))
 | _ => none
theorem uok_neg : UOk K (rU fun i => .int (-i)) dNeg := fun H B x d1 d Q hB r e k => by
 cases d1 <;> simp only [dNeg] at e <;> cases e
 simp only [Rep] at r
 exact ⟨_, r, k _ H (.refl H) rep_int⟩
def truD : D → Option Bool
 | .non => some false
 | .bl b => some b
 | .int i => some (i != 0)
 | .lst ds => some (!ds.isEmpty)
 | .tup ds => some (!ds.isEmpty)
 | .dict ks _ => some (!ks.isEmpty)
 | .scr ns => some (!ns.isEmpty)
 | .str _ => none
 | .adr _ => none
 | .kset _ => none
 | .tk _ => none
 | .pin _ _ => none
theorem zk.isEmpty {H : Hp} {B : Addr → Prop} {ds : List D} {vs : List V} (h : zk K H B ds vs) : vs.isEmpty = ds.isEmpty := by
 have := h.length
 cases vs <;> cases ds <;> simp_all
end
def fTru (f : Ev → Option D) : Ev → Option Bool := fun ρ => (f ρ).bind truD
section
variable {X : Cx} {st : Bool} {os : List Nat} {e a b c : Expr} {es : List Expr} {t ta tb tc : TE} {tl : TA} {f fa fb fc : Ev → Option D} {fl : Ev → Option (List D)} {pos p : Pos} {x : Str}
def fCat (fa fb : Ev → Option (List D)) : Ev → Option D := fun ρ => (fa ρ).bind fun x => (fb ρ).bind fun y => dLst (x ++ y)
def asL : D → Option (List D)
 | .lst ds => some ds
 | _ => none
structure SL (X : Cx) (os : List Nat) (e : Expr) (t : TE) (f : Ev → Option (List D)) : Prop where
 pe : PE X e t
 ok : ∀ (H₀ : Hp) (B₀ : Addr → Prop) (σ : St) (H : Hp) (ρ : Ev) (ds : List D) (Q : VK), Md X.K H₀ B₀ os σ H ρ → f ρ = some ds → (∀ a xs H', zJ H H' → Rd H' a (.lst xs) → zk X.K H' (Bl B₀ os σ) ds xs → Q (.ref a) H') → t σ H Q
def fL (f : Ev → Option D) : Ev → Option (List D) := fun ρ => (f ρ).bind asL
theorem SE.sl (h : SE X true os e t f) : SL X os e t (fL f) := ⟨h.pe, fun H₀ B₀ σ H ρ ds Q m q k => by
 obtain ⟨x, h1, h2⟩ := zb q
 cases x <;> simp only [asL] at h2 <;> cases h2
 refine h.ok H₀ B₀ σ H ρ _ Q m h1 fun v H' s r => ?_
 simp only [Rep] at r
 obtain ⟨a, xs, rfl, hl, hr⟩ := r
 exact k a xs H' s hl.1 hr⟩
theorem SF.sl (h : SF X os e t f) : SL X os e t (fL f) := SE.sl (SF.se h)
variable {la lb : Ev → Option (List D)}
theorem sf_cat (ha : SL X os a ta la) (hb : SL X os b tb lb) : SF X os (.BinOp a .Add b pos) (tOp rCatS ta tb) (fCat la lb) := ⟨pe_op op_catS ha.pe hb.pe, fun H₀ B₀ σ H ρ d Q m q k => by
 obtain ⟨x, h1, h2⟩ := zb q
 obtain ⟨y, h3, h4⟩ := zb h2
 unfold dLst at h4
 split at h4
 ·rename_i hl
  cases h4
  refine ha.ok H₀ B₀ σ H ρ x _ m h1 fun p1 xs H1 s1 hq1 r1 => ?_
  refine hb.ok H₀ B₀ σ H1 ρ y _ (m.up s1) h3 fun p2 ys H2 s2 hq2 r2 => ?_
  refine ⟨p1, p2, xs, ys, rfl, rfl, Rd.same s2 hq1, hq2, by rw [r1.length, r2.length, ← List.length_append]; exact hl, fun p' hp => ?_⟩
  exact k p' _ _ ((s1.trans s2).trans (zy hp)) ((s1.trans s2).free hp) zv (zk.goes (.fresh hp (zy hp)) _ _ ((r1.up s2).append r2))
 ·cases h4⟩
def spM (K : Frag) (m : List D → Option D) : Sp := fun vs H Q _ => ∃ (B : Addr → Prop) (ds : List D) (d : D), (∀ a, B a → ∃ o, H a = some o) ∧ zk K H B ds vs ∧ m ds = some d ∧ ∀ v H', zJ H H' → Rep K H' B d v → Q v H'
theorem zQ {k : Nat} {fn : Addr} {fd : FuncData} {ps : List Str} {m : List D → Option D} (F : FnOk X.prog X.w X.K X.mg X.base CX0 k fn fd ps (spM X.K m)) (hr : Room k X.A) (hg : Gl X x) (hm : X.mg x = some (.ref fn)) (hk : keepIn X.K (.ref fn) = true) (hb : Binds X.K fd ps [])
  (ha : SA X st os (e :: es) tl fl) (hdb : (x == ("__debug__" : Str)) = false := by decide) (he : starEach (e :: es) X.env = (false, eval e X.env) :: starEach es X.env := by rfl) (hpl : (backTo pos (starEach es X.env)).any (·.1) = false := by rfl) {K' : Frag} (hK : X.K = K' := by rfl) :
  SE X st os (.Call (.Name x p) (e :: es) [] pos) (tCall (spM K' m) [] E0 tl) (fA m fl) := by
 subst hK
 exact ⟨pe_call F hr hg hm hk hb .nil pass0 ha.pa hdb he hpl, fun H₀ B₀ σ H ρ d Q M q kk => by
 obtain ⟨ds, h1, h2⟩ := zb q
 refine ha.ok H₀ B₀ σ H ρ ds _ M h1 fun vs H1 s1 r1 => ?_
 refine ⟨BB st B₀ os σ, ds, d, (M.up s1).bb st, by rw [List.append_nil]; exact r1, h2, fun v H' s2 r2 => kk v H' (s1.trans s2) r2⟩⟩
def CaOk (K : Frag) (r : List V → Hp → VK → Prop) (g : List D → Option D) : Prop := ∀ (H : Hp) (B : Addr → Prop) (xs : List V) (ds : List D) (d : D) (Q : VK), (∀ a, B a → ∃ o, H a = some o) → zk K H B ds xs → g ds = some d → (∀ v H', zJ H H' → Rep K H' B d v → Q v H') → r xs H Q
theorem EOk.call {r : List V → Hp → VK → Prop} {g : List D → Option D} (hr : CaOk X.K r g) (ha : AOk X.K st os tl fl) : EOk X.K st os (tCB r tl) (fA g fl) := fun H₀ B₀ σ H ρ d Q m q k => by
 obtain ⟨ds, h1, h2⟩ := zb q
 refine ha H₀ B₀ σ H ρ ds _ m h1 fun vs H1 s1 r1 => ?_
 exact hr H1 _ vs ds d Q ((m.up s1).bb st) r1 h2 fun v H' s2 r2 => k v H' (s1.trans s2) r2
theorem se_callTy {T : String} {r : List V → Hp → VK → Prop} {g : List D → Option D} (hc : CallR X (.type T) r) (hr : CaOk X.K r g) (hg : Gl X x) (hm : X.mg x = none) (hv : bootBuiltins x = some (.type T)) (ha : SA X st os (e :: es) tl fl) (hn : x ≠ "__name__" := by decide) (hdb : (x == ("__debug__" : Str)) = false := by decide)
  (he : starEach (e :: es) X.env = (false, eval e X.env) :: starEach es X.env := by rfl) (hpl : (backTo pos (starEach es X.env)).any (·.1) = false := by rfl) : SE X st os (.Call (.Name x p) (e :: es) [] pos) (tCB r tl) (fA g fl) := ⟨pe_callTy hc hg hm hv ha.pa hn hdb he hpl, EOk.call hr ha.ok⟩
def gAbs : List D → Option D
 | [.int i] => some (.int (if i < 0 then -i else i))
 | _ => none
def gInt : List D → Option D
 | [.int i] => some (.int i)
 | [.bl k] => some (.int (if k then 1 else 0))
 | _ => none
theorem reps1 {K : Frag} {H : Hp} {B : Addr → Prop} {d : D} {vs : List V} (h : zk K H B [d] vs) : ∃ v, vs = [v] ∧ Rep K H B d v := by
 simp only [zk] at h
 obtain ⟨v, r, rfl, h1, rfl⟩ := h
 exact ⟨v, rfl, h1⟩
theorem caok_int {K : Frag} : CaOk K (fun xs H Q => (∃ i, xs = [.int i] ∧ Q (.int i) H) ∨ ∃ k, xs = [.bl k] ∧ Q (.int (if k then 1 else 0)) H) gInt := fun H B xs ds d Q hB r e k => by
 unfold gInt at e
 split at e <;> cases e
 ·obtain ⟨v, rfl, h1⟩ := reps1 r
  simp only [Rep] at h1
  subst h1
  exact .inl ⟨_, rfl, k _ H (.refl H) rep_int⟩
 ·obtain ⟨v, rfl, h1⟩ := reps1 r
  simp only [Rep] at h1
  subst h1
  exact .inr ⟨_, rfl, k _ H (.refl H) rep_int⟩
def tyD : D → String
 | .non => "NoneType" | .bl _ => "bool" | .int _ => "int" | .str _ => "str" | .lst _ => "list" | .tup _ => "tuple" | .dict _ _ => "dict" | .scr _ => "list" | .adr _ => "" | .kset _ => "" | .tk _ => "" | .pin _ d => tyD d
def dIsi (T : String) (d : D) : D := .bl (tyD d == T || (tyD d == "bool" && T == "int"))
def gIsi (T : String) : D → Option D
 | .adr _ => none
 | .kset _ => none
 | .tk _ => none
 | .pin _ d => gIsi T d
 | d => some (dIsi T d)
def Plain : D → Prop
 | .adr _ => False
 | .kset _ => False
 | .tk _ => False
 | .pin _ d => Plain d
 | _ => True
theorem gIsi_ {T : String} : ∀ {d d' : D}, gIsi T d = some d' → Plain d ∧ d' = dIsi T d
 | .non, d', h | .bl _, d', h | .int _, d', h | .str _, d', h | .tup _, d', h | .lst _, d', h | .dict _ _, d', h | .scr _, d', h => by simp only [gIsi] at h; cases h; exact ⟨trivial, rfl⟩
 | .adr _, d', h | .kset _, d', h | .tk _, d', h => by simp only [gIsi] at h; cases h
 | .pin _ d, d', h => by
  simp only [gIsi] at h
  obtain ⟨h1, h2⟩ := gIsi_ h
  exact ⟨h1, h2⟩
theorem tyN {K : Frag} {H : Hp} {B : Addr → Prop} : ∀ {d : D} {v : V}, Plain d → Rep K H B d v → TyN K H v (tyD d)
 | .non, v, _, r => by simp only [Rep] at r; subst r; rfl
 | .bl _, v, _, r => by simp only [Rep] at r; subst r; rfl
 | .int _, v, _, r => by simp only [Rep] at r; subst r; rfl
 | .str _, v, _, r => by simp only [Rep] at r; subst r; rfl
 | .tup _, v, _, r => by simp only [Rep] at r; obtain ⟨a, xs, rfl, hq, hr⟩ := r; exact .inr (.inl ⟨rfl, xs, hq⟩)
 | .lst _, v, _, r => by simp only [Rep] at r; obtain ⟨a, xs, rfl, hq, hr⟩ := r; exact .inl ⟨rfl, xs, hq.sq⟩
 | .dict _ _, v, _, r => by simp only [Rep] at r; obtain ⟨a, kvs, rfl, hq, hk, hr⟩ := r; exact .inr (.inr ⟨rfl, kvs, hq.1⟩)
 | .scr _, v, _, r => by simp only [Rep] at r; obtain ⟨a, rfl, hq⟩ := r; exact .inl ⟨rfl, _, hq.sq⟩
 | .adr _, v, h, _ => h.elim
 | .kset _, v, h, _ => h.elim
 | .tk _, v, h, _ => h.elim
 | .pin _ d, v, h, r => by simp only [Rep] at r; exact tyN (d := d) h r.2
theorem se_isi {y : Str} {T : String} {p' : Pos} (hg : Gl X "isinstance") (hm : X.mg "isinstance" = none) (hg2 : Gl X y) (hm2 : X.mg y = none) (hv2 : bootBuiltins y = some (.type T)) (hT : T ∈ tyTab) (ha : SE X false os a ta fa) (hn : y ≠ "__name__" := by decide) (hdb : (y == ("__debug__" : Str)) = false := by decide)
  (h1 : starEach [a, .Name y p'] X.env = (false, eval a X.env) :: starEach [.Name y p'] X.env := by rfl) (h2 : starEach [.Name y p'] X.env = (false, eval (.Name y p') X.env) :: starEach [] X.env := by rfl) (hpl : (backTo pos (starEach [.Name y p'] X.env)).any (·.1) = false := by rfl) {K' : Frag} (hK : X.K = K' := by rfl) :
  SE X st os (.Call (.Name "isinstance" p) [a, .Name y p'] [] pos) (tCB (fun xs H Q => ∃ x T n, xs = [x, .ty T] ∧ T ∈ tyTab ∧ TyN K' H x n ∧ Q (.bl (n == T || (n == "bool" && T == "int"))) H) (Za ta (Za (tC (.ty T)) tNil))) (f1 (gIsi T) fa) := by
 subst hK
 exact
 ⟨pe_callB call_isi hg hm PyProof.Rows.boot_isinstance (zG ha.pe (zG (pe_bltn (v := .ty T) hg2 hm2 hv2 rfl hn hdb) Zr h2) h1) (by decide) (by decide) h1 hpl, fun H₀ B₀ σ H ρ d Q m q k => by
  obtain ⟨x, h1, h2⟩ := zb q
  obtain ⟨h3, rfl⟩ := gIsi_ h2
  refine ha.ok H₀ B₀ σ H ρ x _ m h1 fun v H1 s1 r1 => ?_
  exact ⟨v, T, tyD x, rfl, hT, tyN h3 r1, k _ H1 s1 rep_bl⟩⟩
theorem EOk.callC {k : Bool} {r : List V → Hp → VK → Prop} {g : List D → Option D} {ca : Ev → Option (List D)}
  (hr : ∀ (H : Hp) (B : Addr → Prop) (q : Addr) (xs : List V) (ds : List D) (d : D) (Q : VK), Sq k X.K H q xs → zk X.K H B ds xs → g ds = some d → (∀ v H', zJ H H' → Rep X.K H' B d v → Q v H') → r [.ref q] H Q)
  (ha : COk X.K k os ta ca) : EOk X.K st os (tCB r (Za ta tNil)) (fA g ca) := fun H₀ B₀ σ H ρ d Q m q kk => by
 obtain ⟨ds, h1, h2⟩ := zb q
 refine ha H₀ B₀ σ H ρ ds _ m h1 fun a xs H1 s1 hq r1 => ?_
 exact hr H1 (Bl B₀ os σ) a xs ds d Q hq r1 h2 fun v H' s2 r2 => kk v H' (s1.trans s2) (Rep.bb r2)
variable {ca : Ev → Option (List D)} {k : Bool}
def gLen (ds : List D) : Option D := some (.int ds.length)
theorem se_len (hg : Gl X "len") (hm : X.mg "len" = none) (ha : SC X k os a ta ca) (h1 : starEach [a] X.env = (false, eval a X.env) :: starEach [] X.env := by rfl) (hpl : (backTo pos (starEach [] X.env)).any (·.1) = false := by rfl) {K' : Frag} (hK : X.K = K' := by rfl) :
  SE X st os (.Call (.Name "len" p) [a] [] pos) (tCB (fun xs H Q => ∃ p ys, xs = [.ref p] ∧ (SqL K' H p ys ∨ SqT K' H p ys) ∧ Q (.int ys.length) H) (Za ta tNil)) (fA gLen ca) := by
 subst hK
 exact
 ⟨pe_callB call_len_seq hg hm PySem.boot_len (zG ha.pe Zr h1) (by decide) (by decide) h1 hpl, EOk.callC (k := k) (fun H B q xs ds d Q hq r e kk => by
  cases e
  refine ⟨q, xs, rfl, ?_, kk _ H (.refl H) (by rw [r.length]; exact rep_int)⟩
  cases k with
  | true => exact .inl hq
  | false => exact .inr hq) ha.ok⟩
def intsD : List D → Option (List Int)
 | [] => some []
 | .int i :: r => (intsD r).map (i :: ·)
 | _ :: _ => none
def boolsD : List D → Option (List Bool)
 | [] => some []
 | .bl i :: r => (boolsD r).map (i :: ·)
 | _ :: _ => none
theorem intsD_map (ns : List Int) : intsD (ns.map .int) = some ns := by
 induction ns with
 | nil => rfl
 | cons n r ih => simp [intsD, ih]
theorem of_intsD : ∀ {ds : List D} {ns : List Int}, intsD ds = some ns → ds = ns.map .int
 | [], ns, h => by simp only [intsD] at h; cases h; rfl
 | d :: r, ns, h => by
  cases d <;> simp only [intsD] at h <;> try (cases h; done)
  obtain ⟨ms, h1, rfl⟩ := map_some h
  rw [of_intsD h1]; rfl
theorem of_boolsD : ∀ {ds : List D} {ns : List Bool}, boolsD ds = some ns → ds = ns.map .bl
 | [], ns, h => by simp only [boolsD] at h; cases h; rfl
 | d :: r, ns, h => by
  cases d <;> simp only [boolsD] at h <;> try (cases h; done)
  obtain ⟨ms, h1, rfl⟩ := map_some h
  rw [of_boolsD h1]; rfl
theorem zk.bls : ∀ {K : Frag} {H : Hp} {B : Addr → Prop} {ns : List Bool} {vs : List V}, zk K H B (ns.map D.bl) vs → vs = ns.map V.bl
 | K, H, B, [], vs, h => by simpa [zk] using h
 | K, H, B, n :: r, vs, h => by
  simp only [List.map_cons, zk, Rep] at h
  obtain ⟨v, r', e, h1, h2⟩ := h
  subst e; subst h1
  rw [zk.bls h2]; rfl
def gSum (ds : List D) : Option D := (intsD ds).map fun ns => .int ns.sum
def gAnyI (ds : List D) : Option D := (intsD ds).map fun ns => .bl (ns.any (· != 0))
def gAllB (ds : List D) : Option D := (boolsD ds).map fun ns => .bl (ns.all id)
theorem se_sum (hc : X.calm = true) (hg : Gl X "sum") (hm : X.mg "sum" = none) (ha : SC X k os a ta ca) (h1 : starEach [a] X.env = (false, eval a X.env) :: starEach [] X.env := by rfl) (hpl : (backTo pos (starEach [] X.env)).any (·.1) = false := by rfl) {K' : Frag} (hK : X.K = K' := by rfl) :
  SE X st os (.Call (.Name "sum" p) [a] [] pos) (tCB (fun xs H Q => ∃ (p : Addr) (ns : List Int), xs = [.ref p] ∧ Sq k K' H p (ns.map V.int) ∧ Q (.int ns.sum) H) (Za ta tNil)) (fA gSum ca) := by
 subst hK
 exact
 ⟨pe_callB (call_sumI k hc) hg hm PyProof.Rows.boot_sum (zG ha.pe Zr h1) (by decide) (by decide) h1 hpl, EOk.callC (k := k) (fun H B q xs ds d Q hq r e kk => by
  obtain ⟨ns, h1, rfl⟩ := map_some e
  rw [of_intsD h1] at r
  rw [r.ints'] at hq
  exact ⟨q, ns, rfl, hq, kk _ H (.refl H) rep_int⟩) ha.ok⟩
theorem boot_all' : bootBuiltins "all" = some (.builtin "all") := by decide +kernel
theorem se_allB (hc : X.calm = true) (hg : Gl X "all") (hm : X.mg "all" = none) (ha : SC X k os a ta ca) (h1 : starEach [a] X.env = (false, eval a X.env) :: starEach [] X.env := by rfl) (hpl : (backTo pos (starEach [] X.env)).any (·.1) = false := by rfl) {K' : Frag} (hK : X.K = K' := by rfl) :
  SE X st os (.Call (.Name "all" p) [a] [] pos) (tCB (fun xs H Q => ∃ (p : Addr) (ns : List Bool), xs = [.ref p] ∧ Sq k K' H p (ns.map V.bl) ∧ Q (.bl (ns.all id)) H) (Za ta tNil)) (fA gAllB ca) := by
 subst hK
 exact
 ⟨pe_callB (call_allB k hc) hg hm boot_all' (zG ha.pe Zr h1) (by decide) (by decide) h1 hpl, EOk.callC (k := k) (fun H B q xs ds d Q hq r e kk => by
  obtain ⟨ns, h1, rfl⟩ := map_some e
  rw [of_boolsD h1] at r
  rw [r.bls] at hq
  exact ⟨q, ns, rfl, hq, kk _ H (.refl H) rep_bl⟩) ha.ok⟩
def gTuple (ds : List D) : Option D := some (.tup ds)
theorem se_tuple (hg : Gl X "tuple") (hm : X.mg "tuple" = none) (ha : SC X true os a ta ca) (h1 : starEach [a] X.env = (false, eval a X.env) :: starEach [] X.env := by rfl) (hpl : (backTo pos (starEach [] X.env)).any (·.1) = false := by rfl) {K' : Frag} (hK : X.K = K' := by rfl) :
  SE X st os (.Call (.Name "tuple" p) [a] [] pos) (tCB (fun xs H Q => ∃ p ys, xs = [.ref p] ∧ ((SqL K' H p ys ∧ ∀ l, H l = none → Q (.ref l) (upd H l (.tup ys))) ∨ (SqT K' H p ys ∧ Q (.ref p) H))) (Za ta tNil)) (fA gTuple ca) := by
 subst hK
 exact
 ⟨pe_callTy call_tuple_of hg hm PyProof.Rows.boot_tuple (zG ha.pe Zr h1) (by decide) (by decide) h1 hpl, EOk.callC (k := true) (fun H B q xs ds d Q hq r e kk => by
  cases e
  refine ⟨q, xs, rfl, .inl ⟨hq, fun l hl => kk _ _ (zy hl) ?_⟩⟩
  simp only [Rep]
  exact ⟨l, xs, rfl, .inl (.inl zv), r.up (zy hl)⟩) ha.ok⟩
end
def SqS (k : Bool) (K : Frag) (H : Hp) (B : Addr → Prop) (a : Addr) (xs : List V) : Prop := match k with
 | true => RL K H B a xs ∨ RS K H a xs
 | false => SqT K H a xs
def Cn (s k : Bool) (K : Frag) (H : Hp) (B : Addr → Prop) (a : Addr) (xs : List V) : Prop := match s with
 | true => SqS k K H B a xs
 | false => Sq k K H a xs
theorem Cn.sq {s k : Bool} {K : Frag} {H : Hp} {B : Addr → Prop} {a : Addr} {xs : List V} (h : Cn s k K H B a xs) : Sq k K H a xs := by
 cases s with
 | false => exact h
 | true =>
  cases k with
  | true => exact h.elim RL.sq RS.sq
  | false => exact h
theorem Cn.mv {k : Bool} {K : Frag} {H H' : Hp} {B B' : Addr → Prop} {a : Addr} {xs : List V} (g : Goes H H' B B') (h : Cn true k K H B a xs) : Cn true k K H' B' a xs := by
 cases k with
 | true =>
  rcases h with h | h
  ·exact .inl (g.lst a xs h.1 h.2)
  ·rcases h with ⟨o, h⟩ | h
   ·exact .inr (.inl ⟨o, g.frz a o _ h⟩)
   ·exact .inr (.inr h)
 | false =>
  rcases h with h | h
  ·exact .inl (g.tup a xs h)
  ·exact .inr h
theorem Sq.same {k : Bool} {K : Frag} {H H' : Hp} {a : Addr} {xs : List V} (e : zJ H H') (h : Sq k K H a xs) : Sq k K H' a xs := by
 cases k with
 | true => exact e.seq h
 | false => exact SqT.same e h
theorem Cn.up {s k : Bool} {K : Frag} {H H' : Hp} {B : Addr → Prop} {a : Addr} {xs : List V} (e : zJ H H') (h : Cn s k K H B a xs) : Cn s k K H' B a xs := by
 cases s with
 | false => exact Sq.same e h
 | true => exact Cn.mv (.same e) h
structure SN (X : Cx) (s k : Bool) (os : List Nat) (e : Expr) (t : TE) (f : Ev → Option (List D)) : Prop where
 pe : PE X e t
 ok : ∀ (H₀ : Hp) (B₀ : Addr → Prop) (σ : St) (H : Hp) (ρ : Ev) (ds : List D) (Q : VK), Md X.K H₀ B₀ os σ H ρ → f ρ = some ds → (∀ a xs H', zJ H H' → Cn s k X.K H' (Bl B₀ os σ) a xs → zk X.K H' (Bl B₀ os σ) ds xs → Q (.ref a) H') → t σ H Q
def Mv (H' : Hp) (ok : Hp → (Addr → Prop) → Prop) : Prop := ∀ n, H' n = none → ∀ Ha Hb Ba Bb, Goes Ha Hb Ba Bb → (∀ b o, b ≠ n → Ha b = some o → Hb b = some o) → ok Ha Ba → ok Hb Bb
theorem Cn.split {s k : Bool} {K : Frag} {H : Hp} {B : Addr → Prop} {a : Addr} {xs : List V} (h : Cn s k K H B a xs) : ∃ P : Hp → (Addr → Prop) → Prop, P H B ∧ (∀ H B, P H B → Sq k K H a xs) ∧ Mv H P ∧ (s = true → ∀ Ha Hb Ba Bb, Goes Ha Hb Ba Bb → P Ha Ba → P Hb Bb) := by
 cases s with
 | true => exact ⟨fun H B => Cn true k K H B a xs, h, fun H B q => q.sq, fun n hn Ha Hb Ba Bb g _ q => q.mv g, fun _ Ha Hb Ba Bb g q => q.mv g⟩
 | false =>
  have h' : Sq k K H a xs := h
  cases k with
  | true =>
   rcases h' with h' | h'
   ·refine ⟨fun H _ => Rd H a (.lst xs), h', fun H B q => .inl q, fun n hn Ha Hb Ba Bb g kp q => ?_, fun z => by cases z⟩
    have hne : a ≠ n := fun e => by subst e; rcases h' with h' | ⟨o, h'⟩ <;> (rw [hn] at h'; cases h')
    rcases q with q | ⟨o, q⟩
    ·exact .inl (kp _ _ hne q)
    ·exact .inr ⟨o, kp _ _ hne q⟩
   ·exact ⟨fun _ _ => True, trivial, fun _ _ _ => .inr h', fun _ _ _ _ _ _ _ _ _ => trivial, fun z => by cases z⟩
  | false =>
   rcases h' with h' | h'
   ·refine ⟨fun H _ => Rd H a (.tup xs), h', fun H B q => .inl q, fun n hn Ha Hb Ba Bb g kp q => g.tup _ _ q, fun z => by cases z⟩
   ·exact ⟨fun _ _ => True, trivial, fun _ _ _ => .inr h', fun _ _ _ _ _ _ _ _ _ => trivial, fun z => by cases z⟩
structure IW (K : Frag) (J : It) (ds : List D) (ok : Hp → (Addr → Prop) → Prop) : Prop where
 go : ∀ H B (i : Nat) d, ok H B → ds[i]? = some d → J.go i H
 yld : ∀ H B (i : Nat) d x H', ok H B → ds[i]? = some d → J.yld i H x H' → zJ H H' ∧ Rep K H' B d x
 stop : ∀ H B (i : Nat), ok H B → ds.length ≤ i → J.stop i H
def IOk (K : Frag) (s : Bool) (os : List Nat) (wi : TI) (fi : Ev → Option (List D)) : Prop :=
 ∀ (H₀ : Hp) (B₀ : Addr → Prop) (σ : St) (H : Hp) (ρ : Ev) (ds : List D) (R : It → Hp → Prop), Md K H₀ B₀ os σ H ρ → fi ρ = some ds →
  (∀ (J : It) (H' : Hp) (ok : Hp → (Addr → Prop) → Prop), zJ H H' → IW K J ds ok → Mv H' ok → (s = true → ∀ H H' B B', Goes H H' B B' → ok H B → ok H' B') → ok H' (Bl B₀ os σ) → R J H') → wi σ H R
structure SI (X : Cx) (s : Bool) (os : List Nat) (tg iter : Expr) (wi : TI) (fi : Ev → Option (List D)) : Prop where
 pi : PI X tg iter wi
 ok : IOk X.K s os wi fi
section
variable {X : Cx} {s k : Bool} {os : List Nat} {e a b tg : Expr} {t ta tb : TE} {f fa fb : Ev → Option D} {fl ca cb : Ev → Option (List D)} {pos p : Pos}
theorem SE.sn (h : SE X true os e t f) : SN X true k os e t (zl k f) := ⟨h.pe, fun H₀ B₀ σ H ρ ds Q m q kk => by
 obtain ⟨x, h1, h2⟩ := zb q
 refine h.ok H₀ B₀ σ H ρ _ Q m h1 fun v H' s r => ?_
 cases k with
 | true =>
  cases x <;> simp only [asK] at h2 <;> cases h2
  ·simp only [Rep] at r
   obtain ⟨a, xs, rfl, hl, hr⟩ := r
   exact kk a xs H' s (.inl hl) hr
  ·simp only [Rep] at r
   obtain ⟨a, rfl, hl⟩ := r
   exact kk a _ H' s (.inr hl) .ints
 | false =>
  cases x <;> simp only [asK] at h2 <;> cases h2
  simp only [Rep] at r
  obtain ⟨a, xs, rfl, hl, hr⟩ := r
  exact kk a xs H' s hl hr⟩
theorem SC.sn (h : SC X k os e t fl) : SN X false k os e t fl := ⟨h.pe, fun H₀ B₀ σ H ρ ds Q m q kk => h.ok H₀ B₀ σ H ρ ds Q m q fun a xs H' s hq r => kk a xs H' s hq r⟩
theorem si_list (h : SN X s true os e t fl) {K' : Frag} (hK : X.K = K' := by rfl) : SI X s os tg e (iList K' t) fl := by
 subst hK
 exact ⟨pi_list h.pe, fun H₀ B₀ σ H ρ ds R m q kk => by
 refine h.ok H₀ B₀ σ H ρ ds _ m q fun a xs H1 s1 hc r => ⟨a, rfl, ⟨xs, hc.sq⟩, ?_⟩
 obtain ⟨P, p0, psq, pmv, pst⟩ := hc.split
 refine kk _ H1 (fun H B => P H B ∧ zk X.K H B ds xs) s1 ⟨fun H B i d ok e => ?_, fun H B i d x H' ok e y => ?_, fun H B i ok hl => ?_⟩ (fun n hn Ha Hb Ba Bb g kp ok => ⟨pmv n hn _ _ _ _ g kp ok.1, zk.goes g _ _ ok.2⟩) (fun hs H H' B B' g ok => ⟨pst hs _ _ _ _ g ok.1, zk.goes g _ _ ok.2⟩) ⟨p0, r⟩
 ·obtain ⟨v, h1, h2⟩ := ok.2.get e
  exact ⟨xs, v, psq _ _ ok.1, h1⟩
 ·obtain ⟨rfl, h1⟩ := y
  obtain ⟨v, h2, h3⟩ := ok.2.get e
  have := h1 xs (psq _ _ ok.1)
  rw [h2] at this; cases this
  exact ⟨.refl _, h3⟩
 ·exact ⟨xs, psq _ _ ok.1, by rw [ok.2.length]; exact hl⟩⟩
theorem si_tup (h : SN X s false os e t fl) {K' : Frag} (hK : X.K = K' := by rfl) : SI X s os tg e (iTup K' t) fl := by
 subst hK
 exact ⟨pi_tup h.pe, fun H₀ B₀ σ H ρ ds R m q kk => by
 refine h.ok H₀ B₀ σ H ρ ds _ m q fun a xs H1 s1 hc r => ⟨a, rfl, ⟨xs, hc.sq⟩, ?_⟩
 obtain ⟨P, p0, psq, pmv, pst⟩ := hc.split
 refine kk _ H1 (fun H B => P H B ∧ zk X.K H B ds xs) s1 ⟨fun H B i d ok e => ?_, fun H B i d x H' ok e y => ?_, fun H B i ok hl => ?_⟩ (fun n hn Ha Hb Ba Bb g kp ok => ⟨pmv n hn _ _ _ _ g kp ok.1, zk.goes g _ _ ok.2⟩) (fun hs H H' B B' g ok => ⟨pst hs _ _ _ _ g ok.1, zk.goes g _ _ ok.2⟩) ⟨p0, r⟩
 ·obtain ⟨v, h1, h2⟩ := ok.2.get e
  exact ⟨xs, v, psq _ _ ok.1, h1⟩
 ·obtain ⟨rfl, h1⟩ := y
  obtain ⟨v, h2, h3⟩ := ok.2.get e
  have := h1 xs (psq _ _ ok.1)
  rw [h2] at this; cases this
  exact ⟨.refl _, h3⟩
 ·exact ⟨xs, psq _ _ ok.1, by rw [ok.2.length]; exact hl⟩⟩
def rangeD (lo : Int) (n : Nat) : List D := (List.range n).map fun i => .int (lo + (i : Nat))
theorem iw_range {K : Frag} (lo : Int) (n : Nat) : IW K (Itr lo n) (rangeD lo n) (fun _ _ => True) := by
 have hl : (rangeD lo n).length = n := by simp [rangeD]
 refine ⟨fun H B i d _ e => ?_, fun H B i d x H' _ e y => ?_, fun H B i _ h => ?_⟩
 ·have := (List.getElem?_eq_some_iff.mp e).1
  rw [hl] at this; exact this
 ·obtain ⟨rfl, rfl⟩ := y
  have hi : i < n := by have := (List.getElem?_eq_some_iff.mp e).1; rw [hl] at this; exact this
  simp [rangeD, hi] at e
  subst e
  exact ⟨.refl _, rep_int⟩
 ·rw [hl] at h; exact h
def fRng1 (fa : Ev → Option D) : Ev → Option (List D) := fun ρ => (fa ρ).bind fun d => (asI d).bind fun j => if -(2 ^ 62) ≤ j ∧ j < 2 ^ 62 then some (rangeD 0 j.toNat) else none
def fRng2 (fa fb : Ev → Option D) : Ev → Option (List D) := fun ρ => (fa ρ).bind fun d => (fb ρ).bind fun d' => (asI d).bind fun i => (asI d').bind fun j => if -(2 ^ 62) ≤ i ∧ i < 2 ^ 62 ∧ -(2 ^ 62) ≤ j ∧ j < 2 ^ 62 then some (rangeD i (j - i).toNat) else none
theorem asI_v {K : Frag} {H : Hp} {B : Addr → Prop} {d : D} {v : V} {i : Int} (r : Rep K H B d v) (e : asI d = some i) : v = .int i := by
 cases d <;> simp only [asI] at e <;> cases e
 simpa [Rep] using r
theorem si_range1 (hg : Gl X "range") (hm : X.mg "range" = none) (ha : SE X false os a ta fa) (h1 : starEach [a] X.env = (false, eval a X.env) :: starEach [] X.env := by rfl) (hs : starEach [a] X.env = [(false, eval a X.env)] := by rfl) :
  SI X s os tg (.Call (.Name "range" p) [a] [] pos) (iRng1 (Za ta tNil)) (fRng1 fa) := ⟨pi_range1 hg hm (zG ha.pe Zr h1) hs, fun H₀ B₀ σ H ρ ds R m q kk => by
 obtain ⟨x, h1, h2⟩ := zb q
 obtain ⟨j, h3, h4⟩ := zb h2
 split at h4
 ·cases h4
  rename_i hb
  refine ha.ok H₀ B₀ σ H ρ x _ m h1 fun v H1 s1 r => ?_
  have := asI_v r h3
  subst this
  exact ⟨j, rfl, hb.1, hb.2, kk _ H1 _ s1 (iw_range 0 _) (fun _ _ _ _ _ _ _ _ _ => trivial) (fun _ _ _ _ _ _ _ => trivial) trivial⟩
 ·cases h4⟩
def zipD (xs ys : List D) : List D := List.zipWith (fun x y => .tup [x, y]) xs ys
def fZip (ca cb : Ev → Option (List D)) : Ev → Option (List D) := fun ρ => (ca ρ).bind fun xs => (cb ρ).map fun ys => zipD xs ys
theorem si_zip {j1 j2 : Bool} {elts : List Expr} {kk : Nat} {pp : Pos} (hg : Gl X "zip") (hm : X.mg "zip" = none) (ha : SN X s j1 os a ta ca) (hb : SN X s j2 os b tb cb) (h1 : starEach [a, b] X.env = (false, eval a X.env) :: starEach [b] X.env := by rfl) (h2 : starEach [b] X.env = (false, eval b X.env) :: starEach [] X.env := by rfl)
  (hs : starEach [a, b] X.env = [(false, eval a X.env), (false, eval b X.env)] := by rfl) (hs2 : starEach [b] X.env = [(false, eval b X.env)] := by rfl) {K' : Frag} (hK : X.K = K' := by rfl) :
  SI X s os (.Tuple elts kk pp) (.Call (.Name "zip" p) [a, b] [] pos) (iZip j1 j2 K' (Za ta (Za tb tNil))) (fZip ca cb) := by
 subst hK
 exact ⟨pi_zip j1 j2 hg hm (zG ha.pe (zG hb.pe Zr h2) h1) hs hs2, fun H₀ B₀ σ H ρ ds R m q kk => by
 obtain ⟨dx, h1, h2⟩ := zb q
 obtain ⟨dy, h3, rfl⟩ := map_some h2
 refine ha.ok H₀ B₀ σ H ρ dx _ m h1 fun a xs H1 s1 hc1 r1 => ?_
 refine hb.ok H₀ B₀ σ H1 ρ dy _ (m.up s1) h3 fun b ys H2 s2 hc2 r2 => ?_
 have hc1' := hc1.up s2
 have r1' := r1.up s2
 refine ⟨a, b, rfl, ⟨xs, hc1'.sq⟩, ⟨ys, hc2.sq⟩, ?_⟩
 obtain ⟨P, p0, psq, pmv, pst⟩ := hc1'.split
 obtain ⟨P2, p02, psq2, pmv2, pst2⟩ := hc2.split
 refine kk _ H2 (fun H B => (P H B ∧ zk X.K H B dx xs) ∧ P2 H B ∧ zk X.K H B dy ys) (s1.trans s2) ⟨fun H B i d ok e => ?_, fun H B i d x H' ok e y => ?_, fun H B i ok hl => ?_⟩
  (fun n hn Ha Hb Ba Bb g kp ok => ⟨⟨pmv n hn _ _ _ _ g kp ok.1.1, zk.goes g _ _ ok.1.2⟩, pmv2 n hn _ _ _ _ g kp ok.2.1, zk.goes g _ _ ok.2.2⟩) (fun hs H H' B B' g ok => ⟨⟨pst hs _ _ _ _ g ok.1.1, zk.goes g _ _ ok.1.2⟩, pst2 hs _ _ _ _ g ok.2.1, zk.goes g _ _ ok.2.2⟩) ⟨⟨p0, r1'⟩, p02, r2⟩
 ·have := (List.getElem?_eq_some_iff.mp e).1
  simp only [zipD, List.length_zipWith] at this
  obtain ⟨u, h5, _⟩ := ok.1.2.get (i := i) (d := dx[i]) (by simp [show i < dx.length by omega])
  obtain ⟨v, h6, _⟩ := ok.2.2.get (i := i) (d := dy[i]) (by simp [show i < dy.length by omega])
  exact ⟨xs, ys, u, v, psq _ _ ok.1.1, psq2 _ _ ok.2.1, h5, h6⟩
 ·have hi := (List.getElem?_eq_some_iff.mp e).1
  simp only [zipD, List.length_zipWith] at hi
  obtain ⟨u, h5, h5'⟩ := ok.1.2.get (i := i) (d := dx[i]) (by simp [show i < dx.length by omega])
  obtain ⟨v, h6, h6'⟩ := ok.2.2.get (i := i) (d := dy[i]) (by simp [show i < dy.length by omega])
  obtain ⟨q', x1, y1, rfl, hn, rfl, hx, hy⟩ := y
  have e1 := hx xs (psq _ _ ok.1.1)
  have e2 := hy ys (psq2 _ _ ok.2.1)
  rw [h5] at e1; cases e1
  rw [h6] at e2; cases e2
  have e3 : d = .tup [dx[i], dy[i]] := by
   simp only [zipD] at e
   rw [List.getElem?_zipWith] at e
   simp [show i < dx.length by omega, show i < dy.length by omega] at e
   exact e.symm
  subst e3
  refine ⟨zy hn, ?_⟩
  simp only [Rep]
  exact ⟨q', _, rfl, .inl (.inl zv), (zk.cons h5' (.one h6')).up (zy hn)⟩
 ·simp only [zipD, List.length_zipWith] at hl
  exact ⟨xs, ys, psq _ _ ok.1.1, psq2 _ _ ok.2.1, by rw [ok.1.2.length, ok.2.2.length]; omega⟩⟩
end
def GOk (K : Frag) (os : List Nat) (g : TG) (u : D → Ev → Option Ev) : Prop := ∀ (H₀ : Hp) (B₀ : Addr → Prop) (σ : St) (H : Hp) (ρ ρ' : Ev) (d : D) (v : V) (Q : St → Hp → Prop), Md K H₀ B₀ os σ H ρ → Rep K H (Bl B₀ os σ) d v → u d ρ = some ρ' →
 (∀ σ', σ'.length = σ.length → (∀ i ∈ os, σ'[i]? = σ[i]?) → Md K H₀ B₀ os σ' H ρ' → Q σ' H) → g v σ H Q
structure SG (X : Cx) (os : List Nat) (tg : Expr) (g : TG) (u : D → Ev → Option Ev) : Prop where
 pg : PG X tg g
 ok : GOk X.K os g u
structure SGs (X : Cx) (os : List Nat) (ts : List Expr) (g : TGs) (n : Nat) (u : List D → Ev → Option Ev) : Prop where
 pg : PGs X ts g
 len : ∀ ds ρ ρ', u ds ρ = some ρ' → ds.length = n
 ok : ∀ (H₀ : Hp) (B₀ : Addr → Prop) (σ : St) (H : Hp) (ρ ρ' : Ev) (ds : List D) (vs : List V) (Q : St → Hp → Prop), Md X.K H₀ B₀ os σ H ρ → zk X.K H (Bl B₀ os σ) ds vs → u ds ρ = some ρ' →
  (∀ σ', σ'.length = σ.length → (∀ i ∈ os, σ'[i]? = σ[i]?) → Md X.K H₀ B₀ os σ' H ρ' → Q σ' H) → g vs σ H Q
def zD (i : Nat) : D → Ev → Option Ev := fun d ρ => some (ρ.set i (some d))
def uNil : List D → Ev → Option Ev
 | [], ρ => some ρ
 | _ :: _, _ => none
def uCons (u : D → Ev → Option Ev) (us : List D → Ev → Option Ev) : List D → Ev → Option Ev
 | [], _ => none
 | d :: ds, ρ => (u d ρ).bind fun ρ' => us ds ρ'
def uTup (us : List D → Ev → Option Ev) : D → Ev → Option Ev := fun d ρ => (asK false d).bind fun ds => us ds ρ
def uLst (us : List D → Ev → Option Ev) : D → Ev → Option Ev := fun d ρ => (asK true d).bind fun ds => us ds ρ
section
variable {X : Cx} {os : List Nat} {pos : Pos}
theorem bl_eq {B₀ : Addr → Prop} {σ σ' : St} (h : ∀ i ∈ os, σ'[i]? = σ[i]?) : Bl B₀ os σ' = Bl B₀ os σ := by
 funext a
 unfold Bl
 apply propext
 constructor
 ·rintro (z | ⟨i, hi, e⟩)
  ·exact .inl z
  ·exact .inr ⟨i, hi, by rw [← h i hi]; exact e⟩
 ·rintro (z | ⟨i, hi, e⟩)
  ·exact .inl z
  ·exact .inr ⟨i, hi, by rw [h i hi]; exact e⟩
theorem zP {i : Nat} {x : Str} (hN : X.N.Nodup) (hi : X.N[i]? = some x) (hx : Loc X.env.scope x) (ho : i ∉ os := by decide) (hf : X.fn x = true ∨ X.env.scope.names.lookup x = some .local := by first | exact .inl rfl | exact .inr rfl | assumption) : SG X os (.Name x pos) (gName i) (zD i) :=
 ⟨pg_name hN hi hx hf, fun H₀ B₀ σ H ρ ρ' d v Q m r e k => by
  cases e
  refine k _ (by rw [List.length_set]) (fun j hj => za fun z => ho (z ▸ hj)) (m.put (fun j hj => ⟨hj, fun z => ho (z ▸ hj)⟩) (fun j hj => .inl hj) r)⟩
theorem sgs_nil : SGs X os [] gNil 0 uNil := ⟨pgs_nil, fun ds ρ ρ' e => (by cases ds <;> first | rfl | cases e), fun H₀ B₀ σ H ρ ρ' ds vs Q m r e k => by
 cases ds with
 | nil => cases e; simp only [zk] at r; exact ⟨r, k σ rfl (fun _ _ => rfl) m⟩
 | cons a r => cases e⟩
theorem sgs_cons {e : Expr} {es : List Expr} {t : TG} {u : TGs} {n : Nat} {f : D → Ev → Option Ev} {fs : List D → Ev → Option Ev} (h1 : SG X os e t f) (h2 : SGs X os es u n fs)
  (hs : (assignEach (e :: es) X.env).map (·.2) = assign e X.env :: (assignEach es X.env).map (·.2) := by rfl) : SGs X os (e :: es) (gCons t u) (n + 1) (uCons f fs) := ⟨pgs_cons h1.pg h2.pg hs, fun ds ρ ρ' e => (by
 cases ds with
 | nil => cases e
 | cons a r =>
  obtain ⟨x, _, q⟩ := zb e
  rw [List.length_cons, h2.len _ _ _ q]), fun H₀ B₀ σ H ρ ρ' ds vs Q m r e k => by
 cases ds with
 | nil => cases e
 | cons d ds =>
  obtain ⟨ρ1, q1, q2⟩ := zb e
  simp only [zk] at r
  obtain ⟨v, vr, rfl, r1, r2⟩ := r
  refine ⟨v, vr, rfl, h1.ok H₀ B₀ σ H ρ ρ1 d v _ m r1 q1 fun σ1 l1 a1 m1 => ?_⟩
  refine h2.ok H₀ B₀ σ1 H ρ1 ρ' ds vr _ m1 (by rw [bl_eq a1]; exact r2) q2 fun σ2 l2 a2 m2 => ?_
  exact k σ2 (l2.trans l1) (fun i hi => (a2 i hi).trans (a1 i hi)) m2⟩
theorem sg_tup {es : List Expr} {k : Nat} {t : TGs} {n : Nat} {fs : List D → Ev → Option Ev} (hc : X.calm = true) (h : SGs X os es t n fs) (hn : (assignEach es X.env).length = n := by rfl) (hst : (assignEach es X.env).findIdx? (·.1) = none := by rfl) {K' : Frag} (hK : X.K = K' := by rfl) :
  SG X os (.Tuple es k pos) (gTup K' n t) (uTup fs) := by
 subst hK
 exact ⟨pg_tup hc h.pg hn hst, fun H₀ B₀ σ H ρ ρ' d v Q m r e kk => by
 obtain ⟨ds, q1, q2⟩ := zb e
 cases d <;> simp only [asK] at q1 <;> cases q1
 simp only [Rep] at r
 obtain ⟨a, xs, rfl, hq, hr⟩ := r
 exact ⟨a, xs, rfl, hq, by rw [hr.length, h.len _ _ _ q2], h.ok H₀ B₀ σ H ρ ρ' ds xs Q m hr q2 kk⟩⟩
end
def compD (u : D → Ev → Option Ev) (c : Ev → Option Bool) (e : Ev → Option D) : List D → Ev → Option (List D)
 | [], _ => some []
 | d :: ds, ρ => (u d ρ).bind fun ρ1 => (c ρ1).bind fun b => if b then (e ρ1).bind fun x => (compD u c e ds ρ1).map (x :: ·) else compD u c e ds ρ1
def fComp (k : Nat) (fi : Ev → Option (List D)) (u : D → Ev → Option Ev) (c : Ev → Option Bool) (e : Ev → Option D) : Ev → Option D := fun ρ => (fi ρ).bind fun ds => (compD u c e ds (ρ ++ List.replicate k none)).bind dLst
structure SPF (X : Cx) (os : List Nat) (ifs : List Expr) (t : TT) (f : Ev → Option Bool) : Prop where
 pf : PF X ifs t
 ok : TOk X.K os t f
def fYes : Ev → Option Bool := fun _ => some true
theorem spf_nil {X : Cx} {os : List Nat} : SPF X os [] tYes fYes := ⟨pf_nil, fun H₀ B₀ σ H ρ b Q m q k => by cases q; exact k H (.refl H)⟩
theorem spf_one {X : Cx} {os : List Nat} {c : Expr} {t : TT} {f : Ev → Option Bool} (h : SB X os c t f) : SPF X os [c] t f := ⟨pf_one h.pt, h.ok⟩
section
variable {K : Frag} {os : List Nat}
theorem get_append_left {α : Type} {l r : List α} {i : Nat} {x : α} (h : l[i]? = some x) : (l ++ r)[i]? = some x := by
 rw [List.getElem?_append_left (List.getElem?_eq_some_iff.mp h).1]; exact h
theorem Md.extend {H₀ H : Hp} {B₀ : Addr → Prop} {σ : St} {ρ : Ev} (m : Md K H₀ B₀ os σ H ρ) (k : Nat) {D' : Addr} (hn : H D' = none) :
  Md K H₀ (fun b => B₀ b ∨ b = D') os (σ ++ List.replicate k none) (upd H D' (.lst [])) (ρ ++ List.replicate k none) := by
 have hs : zJ H (upd H D' (.lst [])) := zy hn
 have osl : ∀ i ∈ os, (σ ++ List.replicate k none)[i]? = σ[i]? := fun i hi => by
  obtain ⟨a, o, d, h1, _⟩ := m.own i hi
  rw [get_append_left h1, h1]
 have nown : ∀ i ∈ os, σ[i]? ≠ some (some (.ref D')) := fun i hi e => by
  obtain ⟨a, o, d, h1, _, h3, _⟩ := m.own i hi
  rw [e] at h1; cases h1; rw [hn] at h3; cases h3
 have less : ∀ b, Bl (fun b => B₀ b ∨ b = D') os (σ ++ List.replicate k none) b → Bl B₀ os σ b ∨ b = D' := fun b z => by
  rcases z with (z | z) | ⟨i, hi, e⟩
  ·exact .inl (.inl z)
  ·exact .inr z
  ·rw [osl i hi] at e; exact .inl (.inr ⟨i, hi, e⟩)
 have g : Goes H (upd H D' (.lst [])) (Bl B₀ os σ) (Bl (fun b => B₀ b ∨ b = D') os (σ ++ List.replicate k none)) := by
  have g1 := Goes.fresh (B := Bl B₀ os σ) hn hs
  exact ⟨g1.tup, fun b xs q n => ⟨(g1.lst b xs q n).1, fun z => (g1.lst b xs q n).2 (less b z)⟩, fun b xs q n => ⟨(g1.dct b xs q n).1, fun z => (g1.dct b xs q n).2 (less b z)⟩, g1.frz, g1.tkt⟩
 refine ⟨m.grow.trans hs, fun a z => ?_, by rw [List.length_append, List.length_append, m.len]; simp, fun i d q n => ?_, fun i hi => ?_, fun i j a h1 h2 e1 e2 => ?_⟩
 ·rcases z with z | rfl
  ·obtain ⟨o, q⟩ := m.blk a z; exact ⟨o, hs _ _ q⟩
  ·exact ⟨_, zv⟩
 ·by_cases hl : i < ρ.length
  ·rw [List.getElem?_append_left hl] at q
   obtain ⟨v, h1, h2⟩ := m.sh i d q n
   exact ⟨v, get_append_left h1, Rep.goes g _ _ h2⟩
  ·rw [List.getElem?_append_right (by omega), List.getElem?_replicate] at q
   split at q <;> cases q
 ·obtain ⟨a, o, d, h1, h2, h3, h4, h5⟩ := m.own i hi
  exact ⟨a, o, d, by rw [osl i hi]; exact h1, get_append_left h2, hs _ _ h3, ⟨h4.1, fun z => z.elim h4.2 fun z => nown i hi (z ▸ h1)⟩, h5.goes g⟩
 ·rw [osl i h1] at e1; rw [osl j h2] at e2
  exact m.sep i j a h1 h2 e1 e2
theorem fok_comp {s : Bool} {k : Nat} {wi : TI} {g : TG} {tc : TT} {te : TE} {fi : Ev → Option (List D)} {u : D → Ev → Option Ev} {c : Ev → Option Bool} {e : Ev → Option D} (hi : IOk K s os wi fi) (hg : GOk K os g u) (hc : TOk K os tc c) (he : EOk K true os te e) :
  FOk K os (tComp k wi g tc te) (fComp k fi u c e) := fun H₀ B₀ σ H ρ d Q m q kk => by
 obtain ⟨ds, h1, h2⟩ := zb q
 obtain ⟨es, h3, h4⟩ := zb h2
 unfold dLst at h4
 split at h4
 case isFalse => cases h4
 rename_i hsz
 cases h4
 refine hi H₀ B₀ σ H ρ ds _ m h1 fun J H1 ok s1 W up _ ok1 => ?_
 intro D' hD
 have m1 := m.up s1
 have mE := m1.extend k hD
 have ok2 : ok (upd H1 D' (.lst [])) (fun b => Bl B₀ os σ b ∨ b = D') := up D' hD _ _ _ _ (.fresh hD (zy hD)) (fun b o _ q => zy hD _ _ q) ok1
 refine ⟨fun i mm ys σ' H' => mm = ds.length - i ∧ i ≤ ds.length ∧ ∃ ρ' done rest, Md K H₀ (fun b => B₀ b ∨ b = D') os σ' H' ρ' ∧ (∀ j ∈ os, σ'[j]? = (σ ++ List.replicate k none)[j]?) ∧ H' D' = some (.lst ys) ∧
  ok H' (fun b => Bl B₀ os σ b ∨ b = D') ∧ zJ H1 H' ∧ zk K H' (Bl (fun b => B₀ b ∨ b = D') os σ') done ys ∧ compD u c e (ds.drop i) ρ' = some rest ∧ es = done ++ rest, ⟨ds.length, by simp, Nat.zero_le _, _, [], es, mE, fun _ _ => rfl, zv, ok2, zy hD, .nil, by simpa using h3, rfl⟩, ?_⟩
 rintro i mm ys σ' H' ⟨rfl, hile, ρ', done, rest, mM, ag, hDl, okH, sm, rd, hcomp, hes⟩
 refine ⟨hDl, ?_⟩
 have hH0 : H₀ D' = none := (m.grow.trans s1).free hD
 have osl : ∀ j ∈ os, σ'[j]? = σ[j]? := fun j hj => by
  rw [ag j hj]
  obtain ⟨a, o, d, q1, _⟩ := m.own j hj
  rw [get_append_left q1, q1]
 have blE : ∀ b, Bl (fun b => B₀ b ∨ b = D') os σ' b ↔ (Bl B₀ os σ b ∨ b = D') := fun b => by
  constructor
  ·rintro ((z | z) | ⟨j, hj, q⟩)
   ·exact .inl (.inl z)
   ·exact .inr z
   ·rw [osl j hj] at q; exact .inl (.inr ⟨j, hj, q⟩)
  ·rintro ((z | ⟨j, hj, q⟩) | z)
   ·exact .inl (.inl z)
   ·exact .inr ⟨j, hj, by rw [osl j hj]; exact q⟩
   ·exact .inl (.inr z)
 have blF : Bl (fun b => B₀ b ∨ b = D') os σ' = fun b => Bl B₀ os σ b ∨ b = D' := funext fun b => propext (blE b)
 by_cases hlt : i < ds.length
 ·right
  have hd : ds[i]? = some ds[i] := by simp [hlt]
  refine ⟨W.go _ _ i _ okH hd, fun x H2 y => ?_⟩
  obtain ⟨s2, rx⟩ := W.yld _ _ i _ x H2 okH hd y
  rw [List.drop_eq_getElem_cons hlt] at hcomp
  simp only [compD] at hcomp
  obtain ⟨ρ1, q1, q2⟩ := zb hcomp
  obtain ⟨bb, q3, q4⟩ := zb q2
  have mM2 := mM.up s2
  have rx' : Rep K H2 (Bl (fun b => B₀ b ∨ b = D') os σ') ds[i] x := by rw [blF]; exact rx
  have okUp : ∀ Hb, zJ H' Hb → ok Hb (fun b => Bl B₀ os σ b ∨ b = D') := fun Hb sb => up D' hD _ _ _ _ (.same sb) (fun b o _ q => sb _ _ q) okH
  refine hg H₀ _ σ' H2 ρ' ρ1 ds[i] x _ mM2 rx' q1 fun σ3 l3 a3 m3 => ?_
  refine hc H₀ _ σ3 H2 ρ1 bb _ m3 q3 fun H4 s4 => ?_
  have m4 := m3.up s4
  cases bb with
  | true =>
   rw [if_pos rfl] at q4 ⊢
   obtain ⟨z, q5, q6⟩ := zb q4
   obtain ⟨rest', q7, rfl⟩ := map_some q6
   refine he H₀ _ σ3 H4 ρ1 z _ m4 q5 fun v H5 s5 r5 => ?_
   have m5 := m4.up s5
   have hDl5 : H5 D' = some (.lst ys) := s5 _ _ (s4 _ _ (s2 _ _ hDl))
   have hlen : ys.length = done.length := rd.length
   have hlt' : ys.length < sizeLine := by
    rw [hes] at hsz
    simp only [List.length_append, List.length_cons] at hsz
    omega
   have ble : Bl (fun b => B₀ b ∨ b = D') os σ3 = Bl (fun b => B₀ b ∨ b = D') os σ' := bl_eq a3
   have g6 : Goes H5 (upd H5 D' (.lst (ys ++ [v]))) (Bl (fun b => B₀ b ∨ b = D') os σ3) (Bl (fun b => B₀ b ∨ b = D') os σ3) := .write (.inl (.inr rfl)) hDl5 trivial
   refine ⟨hDl5, hlt', ds.length - (i + 1), by omega, rfl, hlt, ρ1, done ++ [z], rest', m5.upB (.inr rfl) hH0 hDl5 trivial, fun j hj => (a3 j hj).trans (ag j hj), zv, ?_, ?_, ?_, q7, ?_⟩
   ·have g7 : Goes H5 (upd H5 D' (.lst (ys ++ [v]))) (fun b => Bl B₀ os σ b ∨ b = D') (fun b => Bl B₀ os σ b ∨ b = D') := .write (.inr rfl) hDl5 trivial
    exact up D' hD _ _ _ _ g7 (fun b o hb q => by rw [zA hb]; exact q) (okUp H5 ((s2.trans s4).trans s5))
   ·intro b o q
    by_cases hb : b = D'
    ·subst hb; rw [hD] at q; cases q
    ·rw [zA hb]; exact s5 _ _ (s4 _ _ (s2 _ _ (sm _ _ q)))
   ·refine zk.goes g6 _ _ (zk.append ?_ (.one r5))
    rw [ble]
    exact rd.up ((s2.trans s4).trans s5)
   ·rw [hes]; simp
  | false =>
   rw [if_neg Bool.false_ne_true] at q4 ⊢
   refine ⟨ds.length - (i + 1), by omega, rfl, hlt, ρ1, done, rest, m4, fun j hj => (a3 j hj).trans (ag j hj), s4 _ _ (s2 _ _ hDl), okUp H4 (s2.trans s4), sm.trans (s2.trans s4), ?_, q4, hes⟩
   rw [bl_eq a3]
   exact rd.up (s2.trans s4)
 ·left
  have hi' : i = ds.length := by omega
  subst hi'
  refine ⟨W.stop _ _ _ okH (Nat.le_refl _), ?_⟩
  rw [List.drop_length] at hcomp
  cases hcomp
  rw [List.append_nil] at hes
  subst hes
  refine kk D' _ H' (s1.trans sm) (s1.free hD) hDl ?_
  simp only [Own]
  refine zk.goes ⟨fun _ _ q => q, fun b xs q n => ⟨q, fun z => n ((blE b).mpr z)⟩, fun b xs q n => ⟨q, fun z => n ((blE b).mpr z)⟩, fun _ _ _ q => q, fun _ _ q => q⟩ _ _ rd
end
inductive Out where
 | nx (ρ : Ev) | rt (d : D) | bk (ρ : Ev) | ct (ρ : Ev)
def FR (K : Frag) (H H' : Hp) (B : Addr → Prop) (d : D) (v : V) : Prop :=
 (∃ a o, v = .ref a ∧ H a = none ∧ H' a = some o ∧ Own K H' (fun b => B b ∨ b = a) o d) ∨ (d.flat = true ∧ Rep K H' B d v) ∨
 ∃ (b : Addr) (x : Str) (as : List Addr), v = .ref b ∧ d = .tup (.str x :: as.map fun _ => .lst []) ∧ as.Nodup ∧ (∀ a ∈ as, H a = none ∧ H' a = some (.lst [])) ∧ H' b = some (.tup (.str x :: as.map V.ref))
theorem reps_empties {K : Frag} {H H' : Hp} {B : Addr → Prop} (hB : ∀ a, B a → ∃ o, H a = some o) : ∀ {as : List Addr}, (∀ a ∈ as, H a = none ∧ H' a = some (.lst [])) → zk K H' B (as.map fun _ => D.lst []) (as.map V.ref)
 | [], _ => .nil
 | a :: as, h => .cons (by
   obtain ⟨h1, h2⟩ := h a List.mem_cons_self
   simp only [Rep]
   exact ⟨a, [], rfl, ⟨.inl h2, fun z => by obtain ⟨o, q⟩ := hB a z; rw [h1] at q; cases q⟩, .nil⟩) (reps_empties hB fun x hx => h x (List.mem_cons_of_mem _ hx))
theorem FR.back {K : Frag} {H₀ H H' : Hp} {B : Addr → Prop} {d : D} {v : V} (hs : zJ H₀ H) (h : FR K H H' B d v) : FR K H₀ H' B d v := by
 rcases h with ⟨a, o, e, hn, q⟩ | q | ⟨b, x, as, h1, h2, h3, h4, h5⟩
 ·exact .inl ⟨a, o, e, hs.free hn, q⟩
 ·exact .inr (.inl q)
 ·exact .inr (.inr ⟨b, x, as, h1, h2, h3, fun a ha => ⟨hs.free (h4 a ha).1, (h4 a ha).2⟩, h5⟩)
def RtOk (K : Frag) (fr : Bool) (H₀ H : Hp) (B₀ : Addr → Prop) (d : D) (v : V) : Prop := match fr with
 | true => FR K H₀ H B₀ d v
 | false => Rep K H B₀ d v
def EndOk (K : Frag) (fr : Bool) (H₀ : Hp) (B₀ : Addr → Prop) (os' ol : List Nat) (E : Ends) : Out → Prop
 | .nx ρ => ∀ σ H, Md K H₀ B₀ os' σ H ρ → E.nx σ H
 | .rt d => ∀ v H, zJ H₀ H → (∀ a, B₀ a → ∃ o, H a = some o) → RtOk K fr H₀ H B₀ d v → E.rt v H
 | .bk ρ => ∀ σ H, Md K H₀ B₀ ol σ H ρ → E.bk σ H
 | .ct ρ => ∀ σ H, Md K H₀ B₀ ol σ H ρ → E.ct σ H
def SOk (K : Frag) (fr : Bool) (os os' ol : List Nat) (t : TS) (m : Ev → Option Out) : Prop :=
 ∀ (H₀ : Hp) (B₀ : Addr → Prop) (σ : St) (H : Hp) (ρ : Ev) (o : Out) (E : Ends), Md K H₀ B₀ os σ H ρ → m ρ = some o → EndOk K fr H₀ B₀ os' ol E o → t E σ H
structure SS (X : Cx) (fr : Bool) (os os' ol : List Nat) (st : Stmt) (t : TS) (m : Ev → Option Out) : Prop where
 ps : PS X st t
 ok : SOk X.K fr os os' ol t m
structure SSs (X : Cx) (fr : Bool) (os os' ol : List Nat) (st : List Stmt) (t : TS) (m : Ev → Option Out) : Prop where
 ps : PSs X st t
 ok : SOk X.K fr os os' ol t m
def mNext : Ev → Option Out := fun ρ => some (.nx ρ)
def zO (m1 m2 : Ev → Option Out) : Ev → Option Out := fun ρ => (m1 ρ).bind fun o => match o with
 | .nx ρ' => m2 ρ'
 | o => some o
def mRet (f : Ev → Option D) : Ev → Option Out := fun ρ => (f ρ).map .rt
def mRetN : Ev → Option Out := fun _ => some (.rt .non)
def mSet (i : Nat) (f : Ev → Option D) : Ev → Option Out := fun ρ => (f ρ).map fun d => .nx (ρ.set i (some d))
def mNew (i : Nat) (f : Ev → Option D) : Ev → Option Out := fun ρ => (f ρ).bind fun d => if i < ρ.length then some (.nx (ρ.set i (some d))) else none
def mAsg (u : D → Ev → Option Ev) (f : Ev → Option D) : Ev → Option Out := fun ρ => (f ρ).bind fun d => (u d ρ).map .nx
def mIf (c : Ev → Option Bool) (m1 m2 : Ev → Option Out) : Ev → Option Out := fun ρ => (c ρ).bind fun b => if b then m1 ρ else m2 ρ
def mDrop (f : Ev → Option D) : Ev → Option Out := fun ρ => (f ρ).map fun _ => .nx ρ
def mUpd (i : Nat) (g : List D → D → Option (List D)) (f : Ev → Option D) : Ev → Option Out := fun ρ => (f ρ).bind fun d => (ρ[i]?.join).bind fun x => (asL x).bind fun ds => (g ds d).map fun ds' => .nx (ρ.set i (some (.lst ds')))
def zS (ds : List D) (d : D) : Option (List D) := if ds.length < sizeLine then some (ds ++ [d]) else none
def mSetIx (i : Nat) (f fi : Ev → Option D) : Ev → Option Out := fun ρ => (f ρ).bind fun d => (ρ[i]?.join).bind fun x => (asL x).bind fun ds => (fi ρ).bind fun k => (asI k).bind fun k => (ixN ds.length k).map fun j => .nx (ρ.set i (some (.lst (ds.set j d))))
def forD (u : D → Ev → Option Ev) (b : Ev → Option Out) : List D → Ev → Option Out
 | [], ρ => some (.nx ρ)
 | d :: ds, ρ => (u d ρ).bind fun ρ1 => (b ρ1).bind fun o => match o with
  | .nx ρ2 => forD u b ds ρ2
  | .ct ρ2 => forD u b ds ρ2
  | .bk ρ2 => some (.nx ρ2)
  | .rt d => some (.rt d)
def mFor (fi : Ev → Option (List D)) (u : D → Ev → Option Ev) (b : Ev → Option Out) : Ev → Option Out := fun ρ => (fi ρ).bind fun ds => forD u b ds ρ
section
variable {X : Cx} {fr : Bool} {os o1 os' os2 ol : List Nat} {st : Stmt} {rest sts sts2 : List Stmt} {t u : TS} {m m1 m2 : Ev → Option Out} {e a tg : Expr} {te ta : TE} {f fa : Ev → Option D} {pos : Pos}
theorem EndOk.mono {K : Frag} {fr : Bool} {H₀ : Hp} {B₀ : Addr → Prop} {os' os2 ol : List Nat} {E : Ends} {o : Out} (hs : ∀ i ∈ os', i ∈ os2) (h : EndOk K fr H₀ B₀ os' ol E o) : EndOk K fr H₀ B₀ os2 ol E o := by
 cases o with
 | nx ρ => exact fun σ H m => h σ H (m.freeze hs)
 | rt d => exact h
 | bk ρ => exact h
 | ct ρ => exact h
theorem Zo : SSs X fr os os ol [] tNext mNext := ⟨pss_nil, fun H₀ B₀ σ H ρ o E m q k => by cases q; exact k σ H m⟩
theorem zx (h : SS X fr os os' ol st t m) : SSs X fr os os' ol [st] t m := ⟨pss_one h.ps, h.ok⟩
theorem SOk.seq {K : Frag} (h1 : SOk K fr os o1 ol t m1) (h2 : SOk K fr o1 os' ol u m2) : SOk K fr os os' ol (tSeq t u) (zO m1 m2) := fun H₀ B₀ σ H ρ o E m q k => by
 obtain ⟨o', q1, q2⟩ := zb q
 refine h1 H₀ B₀ σ H ρ o' _ m q1 ?_
 cases o' with
 | nx ρ' => exact fun σ' H' m' => h2 H₀ B₀ σ' H' ρ' o E m' q2 k
 | rt d => cases q2; exact k
 | bk ρ' => cases q2; exact k
 | ct ρ' => cases q2; exact k
theorem zm (h1 : SS X fr os o1 ol st t m1) (h2 : SSs X fr o1 os' ol rest u m2) : SSs X fr os os' ol (st :: rest) (tSeq t u) (zO m1 m2) := ⟨pss_cons h1.ps h2.ps, SOk.seq h1.ok h2.ok⟩
theorem SSs.pre (h : SSs X fr os2 os' ol sts t m) (hs : ∀ i ∈ os2, i ∈ os := by decide) : SSs X fr os os' ol sts t m := ⟨h.ps, fun H₀ B₀ σ H ρ o E mm q k => h.ok H₀ B₀ σ H ρ o E (mm.freeze hs) q k⟩
theorem SS.pre (h : SS X fr os2 os' ol st t m) (hs : ∀ i ∈ os2, i ∈ os := by decide) : SS X fr os os' ol st t m := ⟨h.ps, fun H₀ B₀ σ H ρ o E mm q k => h.ok H₀ B₀ σ H ρ o E (mm.freeze hs) q k⟩
theorem SSs.post (h : SSs X fr os os2 ol sts t m) (hs : ∀ i ∈ os', i ∈ os2 := by decide) : SSs X fr os os' ol sts t m := ⟨h.ps, fun H₀ B₀ σ H ρ o E mm q k => h.ok H₀ B₀ σ H ρ o E mm q (k.mono hs)⟩
theorem ss_ret (h : SE X false os e te f) : SS X false os os' ol (.Return (some e) pos) (tRet te) (mRet f) := ⟨ps_ret h.pe, fun H₀ B₀ σ H ρ o E mm q k => by
 obtain ⟨d, h1, rfl⟩ := map_some q
 exact h.ok H₀ B₀ σ H ρ d _ mm h1 fun v H' s r => k v H' ((mm.up s).grow) (mm.up s).blk r⟩
theorem ss_retFl (h : SE X false os e te f) : SS X true os os' ol (.Return (some e) pos) (tRet te) (mRet (fFlat f)) := ⟨ps_ret h.pe, fun H₀ B₀ σ H ρ o E mm q k => by
 obtain ⟨d, h1, rfl⟩ := map_some q
 obtain ⟨x, h2, h3⟩ := zb h1
 split at h3
 ·rename_i hf
  cases h3
  exact h.ok H₀ B₀ σ H ρ _ _ mm h2 fun v H' s r => k v H' ((mm.up s).grow) (mm.up s).blk (.inr (.inl ⟨hf, r⟩))
 ·cases h3⟩
structure SR (X : Cx) (st : Bool) (os : List Nat) (e : Expr) (t : TE) (f : Ev → Option D) : Prop where
 pe : PE X e t
 ok : ∀ (H₀ : Hp) (B₀ : Addr → Prop) (σ : St) (H : Hp) (ρ : Ev) (d : D) (Q : VK), Md X.K H₀ B₀ os σ H ρ → f ρ = some d → (∀ v H', zJ H H' → FR X.K H H' (BB st B₀ os σ) d v → Q v H') → t σ H Q
def isLs : D → Bool
 | .lst _ => true
 | .dict _ _ => true
 | _ => false
def itemsFlat : D → Bool
 | .lst ds => flats ds
 | .dict _ ds => flats ds
 | _ => false
def mNewR (i : Nat) (f : Ev → Option D) : Ev → Option Out := fun ρ => (f ρ).bind fun d => if i < ρ.length ∧ isLs d = true then some (.nx (ρ.set i (some d))) else none
def mNewRW (i : Nat) (f : Ev → Option D) : Ev → Option Out := fun ρ => (f ρ).bind fun d => if i < ρ.length ∧ itemsFlat d = true then some (.nx (ρ.set i (some d))) else none
theorem SOk.set {K : Frag} {i : Nat} (h : EOk K true os te f) (hs : ∀ j ∈ os', j ∈ os ∧ j ≠ i) (hs2 : ∀ j ∈ os, j ∈ os' ∨ j = i) : SOk K fr os os' ol (tAsg te (gName i)) (mSet i f) := fun H₀ B₀ σ H ρ o E mm q k => by
 obtain ⟨d, h1, rfl⟩ := map_some q
 exact h H₀ B₀ σ H ρ d _ mm h1 fun v H' s r => k _ H' ((mm.up s).put hs hs2 r)
theorem Zs {i : Nat} {x : Str} {pos' : Pos} (hN : X.N.Nodup) (hi : X.N[i]? = some x) (hx : Loc X.env.scope x) (h : SE X true os e te f) (hs : ∀ j ∈ os', j ∈ os ∧ j ≠ i := by decide) (hs2 : ∀ j ∈ os, j ∈ os' ∨ j = i := by decide)
  (hsw : swapsWith e (some (.Name x pos')) pos.line X.env = pure false := by rfl) (hf : X.fn x = true ∨ X.env.scope.names.lookup x = some .local := by first | exact .inl rfl | exact .inr rfl | assumption) :
  SS X fr os os' ol (.Assign [.Name x pos'] e pos) (tAsg te (gName i)) (mSet i f) := ⟨ps_set hN hi hx h.pe hsw hf, SOk.set h.ok hs hs2⟩
theorem SOk.new {K : Frag} {i : Nat} (h : FOk K os te f) (hs : ∀ j ∈ os', j = i ∨ (j ∈ os ∧ j ≠ i)) (hs2 : ∀ j ∈ os, j ∈ os' ∨ j = i) (hm : i ∈ os') : SOk K fr os os' ol (tAsg te (gName i)) (mNew i f) := fun H₀ B₀ σ H ρ o E mm q k => by
 obtain ⟨d, h1, h2⟩ := zb q
 split at h2
 ·rename_i hi
  cases h2
  exact h H₀ B₀ σ H ρ d _ mm h1 fun a u H' s hn ho hw => k _ H' (mm.putNew hi hs hs2 hm s hn ho hw)
 ·cases h2
theorem ss_new {i : Nat} {x : Str} {pos' : Pos} (hN : X.N.Nodup) (hi : X.N[i]? = some x) (hx : Loc X.env.scope x) (h : SF X os e te f) (hs : ∀ j ∈ os', j = i ∨ (j ∈ os ∧ j ≠ i) := by decide) (hs2 : ∀ j ∈ os, j ∈ os' ∨ j = i := by decide) (hm : i ∈ os' := by decide)
  (hsw : swapsWith e (some (.Name x pos')) pos.line X.env = pure false := by rfl) (hf : X.fn x = true ∨ X.env.scope.names.lookup x = some .local := by first | exact .inl rfl | exact .inr rfl | assumption) :
  SS X fr os os' ol (.Assign [.Name x pos'] e pos) (tAsg te (gName i)) (mNew i f) := ⟨ps_set hN hi hx h.pe hsw hf, SOk.new h.ok hs hs2 hm⟩
theorem FOk.eok {K : Frag} {b : Bool} (h : FOk K os te f) : EOk K b os te f := fun H₀ B₀ σ H ρ d Q m q k => h H₀ B₀ σ H ρ d Q m q fun a o H' s hn ho hw => k _ _ s (Rep.bb (hw.rep ho (m.ntracked hn)))
theorem ss_setC {i : Nat} (hp : PS X st (tAsg te (gName i))) (h : FOk X.K os te f) (hs : ∀ j ∈ os', j ∈ os ∧ j ≠ i := by decide) (hs2 : ∀ j ∈ os, j ∈ os' ∨ j = i := by decide) : SS X fr os os' ol st (tAsg te (gName i)) (mSet i f) := ⟨hp, SOk.set h.eok hs hs2⟩
theorem ss_asg {g : TG} {u : D → Ev → Option Ev} (h : SE X true os e te f) (hg : SG X os tg g u) (hs : swapsWithSole [tg] e pos.line X.env = pure false := by rfl) (hw : swappedStores [tg] e X.env = pure none := by rfl)
  (h1 : (assignEach [tg] X.env).map (·.2) = [assign tg X.env] := by rfl) : SS X fr os os ol (.Assign [tg] e pos) (tAsg te g) (mAsg u f) := ⟨ps_asg h.pe hg.pg hs hw h1, fun H₀ B₀ σ H ρ o E mm q k => by
 obtain ⟨d, h1, h2⟩ := zb q
 obtain ⟨ρ', h3, rfl⟩ := map_some h2
 exact h.ok H₀ B₀ σ H ρ d _ mm h1 fun v H' s r => hg.ok H₀ B₀ σ H' ρ ρ' d v _ (mm.up s) r h3 fun σ' _ _ m' => k σ' H' m'⟩
theorem join_get {α : Type} {ρ : List (Option α)} {i : Nat} {d : α} (q : ρ[i]?.join = some d) : ρ[i]? = some (some d) := by
 cases z : ρ[i]? with
 | none => rw [z] at q; cases q
 | some o => rw [z] at q; cases o <;> simp at q; rw [q]
theorem pe_append {i : Nat} {x : Str} {p apos cpos : Pos} (he : PE X e te) (hN : X.N[i]? = some x := by rfl) (hv : Vis X.env.scope x := by first | exact Or.inl rfl | exact Or.inr (Or.inl rfl) | exact Or.inr (Or.inr rfl)) (hd : (x == ("__debug__" : Str)) = false := by decide)
  (hcd : (x == ("__classdict__" : Str)) = false := by decide) (hs1 : starEach [e] X.env = (false, eval e X.env) :: starEach [] X.env := by rfl)
  (hbase : attributeBase (.Name x p) "append" X.env (eval (.Name x p) X.env) = eval (.Name x p) X.env := by rfl)
  (hfew : ((backTo cpos (starEach [e] X.env)).all (fun x => !x.1) && (backToKw cpos (keywordEach [] X.env)).all (fun x => x.1.isSome)
   && decide ([e].length + ([] : List Keyword).length + (if ([] : List Keyword).isEmpty then 0 else 1) < 30)) = true := by rfl)
  (hline : (apos.endLine == cpos.line) = true := by rfl) (hplain : (backTo cpos (starEach [] X.env)).any (·.1) = false := by rfl) : PE X (.Call (.Attribute (.Name x p) "append" apos) [e] [] cpos) (tBM X.K "list" rAppend (tVar i) (Za te tNil)) :=
 pe_bm PySem.F.plainAttrs_list PySem.F.slot_list_append PySem.F.type_list_append mt_append (pv i hN hv hd hcd) (zG he Zr hs1) hbase hfew hline hs1 hplain
theorem ss_append {i : Nat} {x : Str} {p apos : Pos} (h : SE X true os e te f) (ho : i ∈ os := by decide) (hN : X.N[i]? = some x := by rfl) (hv : Vis X.env.scope x := by first | exact Or.inl rfl | exact Or.inr (Or.inl rfl) | exact Or.inr (Or.inr rfl)) (hd : (x == ("__debug__" : Str)) = false := by decide)
  (hcd : (x == ("__classdict__" : Str)) = false := by decide) {cpos : Pos} (hs1 : starEach [e] X.env = (false, eval e X.env) :: starEach [] X.env := by rfl)
  (hbase : attributeBase (.Name x p) "append" X.env (eval (.Name x p) X.env) = eval (.Name x p) X.env := by rfl)
  (hfew : ((backTo cpos (starEach [e] X.env)).all (fun x => !x.1) && (backToKw cpos (keywordEach [] X.env)).all (fun x => x.1.isSome)
   && decide ([e].length + ([] : List Keyword).length + (if ([] : List Keyword).isEmpty then 0 else 1) < 30)) = true := by rfl)
  (hline : (apos.endLine == cpos.line) = true := by rfl) (hplain : (backTo cpos (starEach [] X.env)).any (·.1) = false := by rfl) (hs : swapsWith (.Call (.Attribute (.Name x p) "append" apos) [e] [] cpos) none pos.line X.env = pure false := by rfl) :
  SS X fr os os ol (.Expr (.Call (.Attribute (.Name x p) "append" apos) [e] [] cpos) pos) (tDrop (tBM X.K "list" rAppend (tVar i) (Za te tNil))) (mUpd i zS f) := ⟨ps_expr (pe_append h.pe hN hv hd hcd hs1 hbase hfew hline hplain) hs, fun H₀ B₀ σ H ρ o E mm q k => by
 obtain ⟨d, h1, h2⟩ := zb q
 obtain ⟨y, h3, h4⟩ := zb h2
 obtain ⟨ds, h5, h6⟩ := zb h4
 obtain ⟨ds', h7, rfl⟩ := map_some h6
 unfold zS at h7
 split at h7
 case isFalse => cases h7
 rename_i hl
 cases h7
 cases y <;> simp only [asL] at h5 <;> cases h5
 obtain ⟨a, ob, d', q1, q2, q3, q4, q5⟩ := mm.own i ho
 have h3' := join_get h3
 rw [h3'] at q2; cases q2
 cases ob <;> simp only [Own] at q5
 refine ⟨.ref a, q1, .inl ⟨rfl, _, .inl (.inl q3)⟩, ?_⟩
 refine h.ok H₀ B₀ σ H ρ d _ mm h1 fun v H' s r => ?_
 have m' := mm.up s
 have q5' := zk.up s q5
 refine ⟨a, _, v, rfl, rfl, s _ _ q3, by rw [q5.length]; exact hl, k σ _ ?_⟩
 exact m'.write ho q1 (o := .lst _) (d := .lst _) (by simp only [Own]; exact q5'.append (.one r))⟩
theorem ss_if {c : Expr} {a b : List Stmt} {tc : TT} {g : Ev → Option Bool} (hc : SB X os c tc g) (ha : SSs X fr os os' ol a t m1) (hb : SSs X fr os os' ol b u m2) : SS X fr os os' ol (.If c a b pos) (tIfS tc t u) (mIf g m1 m2) := ⟨ps_if hc.pt ha.ps hb.ps, fun H₀ B₀ σ H ρ o E mm q k => by
 obtain ⟨d, h1, h2⟩ := zb q
 refine hc.ok H₀ B₀ σ H ρ d _ mm h1 fun H' s => ?_
 cases d with
 | true => rw [if_pos rfl] at h2 ⊢; exact ha.ok H₀ B₀ σ H' ρ o E (mm.up s) h2 k
 | false => rw [if_neg Bool.false_ne_true] at h2 ⊢; exact hb.ok H₀ B₀ σ H' ρ o E (mm.up s) h2 k⟩
theorem EndOk.shallow {K : Frag} {fr : Bool} {H₀ H₁ : Hp} {B₀ : Addr → Prop} {os' ol : List Nat} {E : Ends} {o : Out} (hs : zJ H₀ H₁) (h : EndOk K fr H₀ B₀ os' ol E o) : EndOk K fr H₁ B₀ os' ol E o := by
 cases o with
 | nx ρ => exact fun σ H m => h σ H (m.shallow hs)
 | rt d => exact fun v H s b r => h v H (hs.trans s) b (by
   cases fr with
   | false => exact r
   | true =>
    exact FR.back hs r)
 | bk ρ => exact fun σ H m => h σ H (m.shallow hs)
 | ct ρ => exact fun σ H m => h σ H (m.shallow hs)
theorem ss_for {iter : Expr} {body : List Stmt} {wi : TI} {g : TG} {tb : TS} {fi : Ev → Option (List D)} {ug : D → Ev → Option Ev} (hc : X.calm = true) (hi : SI X true os tg iter wi fi) (hg : SG X os tg g ug) (hb : SSs X fr os os os body tb m)
  (hp : PassesOwn (model X.prog X.w) X.A X.env X.xe := by exact PassesOwn.never) (hs : ∀ x, foldedSetIterable iter X.env x = pure x := by intro _; rfl) : SS X fr os os ol (.For tg iter body [] pos) (tFor wi g tb) (mFor fi ug m) := ⟨ps_for hp hc hi.pi hg.pg hb.ps hs, fun H₀ B₀ σ H ρ o E mm q k => by
 obtain ⟨ds, h1, h2⟩ := zb q
 refine hi.ok H₀ B₀ σ H ρ ds _ mm h1 fun J H1 ok s1 W up mv ok1 => ?_
 have m1 := mm.up s1
 have mD := m1.deep
 have okB := mv rfl _ _ _ _ m1.goDown ok1
 have k' := k.shallow m1.sub
 refine ⟨fun i n σ' H' => n = ds.length - i ∧ i ≤ ds.length ∧ ∃ ρ', Md X.K (unown H1 os σ) B₀ os σ' H' ρ' ∧ forD ug m (ds.drop i) ρ' = some o, ⟨ds.length, by simp, Nat.zero_le _, ρ, mD, by simpa using h2⟩, ?_⟩
 rintro i n σ' H' ⟨rfl, hile, ρ', mM, hf⟩
 have okN := mv rfl _ _ _ _ mM.goUp okB
 by_cases hlt : i < ds.length
 ·right
  have hd : ds[i]? = some ds[i] := by simp [hlt]
  rw [List.drop_eq_getElem_cons hlt] at hf
  simp only [forD] at hf
  obtain ⟨ρ1, q1, q2⟩ := zb hf
  obtain ⟨o', q3, q4⟩ := zb q2
  refine ⟨W.go _ _ i _ okN hd, fun σ2 H2 => ∃ ρ2, Md X.K (unown H1 os σ) B₀ os σ2 H2 ρ2 ∧ forD ug m (ds.drop (i + 1)) ρ2 = some o, fun σ2 H2 ⟨ρ2, m2, f2⟩ => ⟨ds.length - (i + 1), by omega, rfl, hlt, ρ2, m2, f2⟩, fun x H2 y => ?_⟩
  obtain ⟨s2, rx⟩ := W.yld _ _ i _ x H2 okN hd y
  refine hg.ok _ B₀ σ' H2 ρ' ρ1 ds[i] x _ (mM.up s2) rx q1 fun σ3 l3 a3 m3 => ?_
  refine hb.ok _ B₀ σ3 H2 ρ1 o' _ m3 q3 ?_
  cases o' with
  | nx ρ2 => exact fun σ4 H4 m4 => ⟨ρ2, m4, q4⟩
  | ct ρ2 => exact fun σ4 H4 m4 => ⟨ρ2, m4, q4⟩
  | bk ρ2 => cases q4; exact fun σ4 H4 m4 => k' σ4 H4 m4
  | rt d => cases q4; exact k'
 ·left
  have hi' : i = ds.length := by omega
  subst hi'
  rw [List.drop_length] at hf
  cases hf
  exact ⟨W.stop _ _ _ okN (Nat.le_refl _), k' σ' H' mM⟩⟩
end
def startD (n : Nat) (ds : List D) : Ev := ds.map some ++ List.replicate (n - ds.length) none
def outD : Out → Option D
 | .nx _ => some .non
 | .rt d => some d
 | _ => none
def mDef (k n : Nat) (m : Ev → Option Out) : List D → Option D := fun ds => if ds.length = k then (m (startD n ds)).bind outD else none
section
variable {P : Program} {w : World} {K : PySem.W.Frag} {mg : Str → Option Value} {base : Heap}
theorem md_start {H : Hp} {B : Addr → Prop} {N : List Str} {ds : List D} {vs : List V} (hB : ∀ a, B a → ∃ o, H a = some o) (r : zk K H B ds vs) : Md K H B [] (L2.start N vs) H (startD N.length ds) := by
 have hl := r.length
 refine ⟨.refl H, hB, by simp [L2.start, startD, hl], fun i d q _ => ?_, fun i hi => (nomatch hi), fun i j a hi => (nomatch hi)⟩
 have hb : Bl B [] (L2.start N vs) = B := by funext a; unfold Bl; apply propext; exact ⟨fun z => z.elim id fun ⟨i, hi, _⟩ => (nomatch hi), .inl⟩
 rw [hb]
 unfold startD at q
 unfold L2.start
 by_cases hi : i < ds.length
 ·rw [List.getElem?_append_left (by simpa using hi), List.getElem?_map] at q
  obtain ⟨v, h1, h2⟩ := r.get (i := i) (d := ds[i]) (by simp [hi])
  have : d = ds[i] := by simp [hi] at q; exact q.symm
  subst this
  exact ⟨v, by rw [List.getElem?_append_left (by simp; omega), List.getElem?_map, h1]; rfl, h2⟩
 ·rw [List.getElem?_append_right (by simp; omega), List.getElem?_replicate] at q
  split at q <;> cases q
def spF (K : Frag) (m : List D → Option D) : Sp := fun vs H Q _ => ∃ (B : Addr → Prop) (ds : List D) (d : D), (∀ a, B a → ∃ o, H a = some o) ∧ zk K H B ds vs ∧ m ds = some d ∧ ∀ v H', zJ H H' → FR K H H' B d v → Q v H'
theorem fn_ok {x qual : Str} {st : Stmt} {f : Addr} {fd : FuncData} {N ps : List Str} {k : Nat} {m : Ev → Option Out} (F : Fun K x qual st f fd) (S : FnScope N ps (zh st))
  (hbody : ∀ (cdv : Value) (A : Around) (outer : List Env) (s : Shared) (H : Hp) (E : XK), Room k (A.deeper (PyProof.Rows.envOfC qual (zh st) s.heap.objs.size f cdv)) →
   ∃ t os', SSs (cxOf CX0 P w K mg base N qual (zh st) f cdv A outer s H E).nox false [] os' [] (zt st) t m) : FnOk P w K mg base CX0 (k + 1) f fd ps (spM K (mDef ps.length N.length m)) := by
 refine F.ok S (fun vs H Q E h => ?_) (fun cdv A outer s H vs Q E hr h => ?_)
 ·obtain ⟨B, ds, d, hB, r, q, _⟩ := h
  unfold mDef at q
  split at q
  ·rw [r.length]; assumption
  ·cases q
 ·obtain ⟨B, ds, d, hB, r, q, kk⟩ := h
  unfold mDef at q
  split at q
  case isFalse => cases q
  obtain ⟨o, q1, q2⟩ := zb q
  obtain ⟨t, os', hS⟩ := hbody cdv A outer s H E hr
  refine ⟨t, hS.ps, hS.ok H B (L2.start N vs) H (startD N.length ds) o _ (md_start hB r) q1 ?_⟩
  cases o with
  | nx ρ => simp only [outD] at q2; cases q2; exact fun σ' H' m' => kk _ H' m'.grow (by simp [Rep])
  | rt d' => simp only [outD] at q2; cases q2; exact fun v H' s _ r' => kk v H' s r'
  | bk ρ => cases q2
  | ct ρ => cases q2
theorem fn_okF {x qual : Str} {st : Stmt} {f : Addr} {fd : FuncData} {N ps : List Str} {k : Nat} {m : Ev → Option Out} (F : Fun K x qual st f fd) (S : FnScope N ps (zh st))
  (hbody : ∀ (cdv : Value) (A : Around) (outer : List Env) (s : Shared) (H : Hp) (E : XK), Room k (A.deeper (PyProof.Rows.envOfC qual (zh st) s.heap.objs.size f cdv)) →
   ∃ t os', SSs (cxOf CX0 P w K mg base N qual (zh st) f cdv A outer s H E).nox true [] os' [] (zt st) t m) : FnOk P w K mg base CX0 (k + 1) f fd ps (spF K (mDef ps.length N.length m)) := by
 refine F.ok S (fun vs H Q E h => ?_) (fun cdv A outer s H vs Q E hr h => ?_)
 ·obtain ⟨B, ds, d, hB, r, q, _⟩ := h
  unfold mDef at q
  split at q
  ·rw [r.length]; assumption
  ·cases q
 ·obtain ⟨B, ds, d, hB, r, q, kk⟩ := h
  unfold mDef at q
  split at q
  case isFalse => cases q
  obtain ⟨o, q1, q2⟩ := zb q
  obtain ⟨t, os', hS⟩ := hbody cdv A outer s H E hr
  refine ⟨t, hS.ps, hS.ok H B (L2.start N vs) H (startD N.length ds) o _ (md_start hB r) q1 ?_⟩
  cases o with
  | nx ρ => simp only [outD] at q2; cases q2; exact fun σ' H' m' => kk _ H' m'.grow (.inr (.inl ⟨rfl, by simp [Rep]⟩))
  | rt d' => simp only [outD] at q2; cases q2; exact fun v H' s _ r' => kk v H' s r'
  | bk ρ => cases q2
  | ct ρ => cases q2
theorem sr_call {X : Cx} {st : Bool} {os : List Nat} {e : Expr} {es : List Expr} {tl : TA} {fl : Ev → Option (List D)} {pos p : Pos} {x : Str} {k : Nat} {fn : Addr} {fd : FuncData} {ps : List Str} {m : List D → Option D} (F : FnOk X.prog X.w X.K X.mg X.base CX0 k fn fd ps (spF X.K m)) (hr : Room k X.A) (hg : Gl X x) (hm : X.mg x = some (.ref fn)) (hk : keepIn X.K (.ref fn) = true) (hb : Binds X.K fd ps [])
  (ha : SA X st os (e :: es) tl fl) (hdb : (x == ("__debug__" : Str)) = false := by decide) (he : starEach (e :: es) X.env = (false, eval e X.env) :: starEach es X.env := by rfl) (hpl : (backTo pos (starEach es X.env)).any (·.1) = false := by rfl) :
  SR X st os (.Call (.Name x p) (e :: es) [] pos) (tCall (spF X.K m) [] E0 tl) (fA m fl) := ⟨pe_call F hr hg hm hk hb .nil pass0 ha.pa hdb he hpl, fun H₀ B₀ σ H ρ d Q M q kk => by
 obtain ⟨ds, h1, h2⟩ := zb q
 refine ha.ok H₀ B₀ σ H ρ ds _ M h1 fun vs H1 s1 r1 => ?_
 refine ⟨BB st B₀ os σ, ds, d, (M.up s1).bb st, by rw [List.append_nil]; exact r1, h2, fun v H' s2 r2 => kk v H' (s1.trans s2) (r2.back s1)⟩⟩
end
end M
namespace L2
open PySem PySem.Spec PyProof.Rows
section
variable {prog : Program} {w : World} {A : Around} {E : Value → Shared → Prop} {s : Shared}
end
section
variable {X : Cx} {pos : Pos}
end
end L2
namespace M
open PySem PySem.Spec L2
open PySem.W (Frag)
section
variable {X : Cx} {os : List Nat} {pos : Pos}
theorem compOk_of {X : Cx} {scope : Scope} {own N' : List Str} {k : Nat} (h : (decide (scope.kind = .function) && scope.names.all (fun y => (!(y.2 == .local) || scope.names.lookup y.1 == some .local) && (!(y.2 == .cell) || scope.names.lookup y.1 == some .cell) &&
  (!(y.2 == .free) || ((X.env.scope.names.lookup y.1 == some .cell || X.env.scope.names.lookup y.1 == some .free) && !own.contains y.1))) && decide (N'.length = X.N.length + k) &&
  (List.range X.N.length).all (fun i => match N'[i]? with | some x => scope.names.lookup x == none || (X.N[i]? == some x && scope.names.lookup x == some .free) | none => true)) = true) : CompOk X scope own N' k := by
 simp only [Bool.and_eq_true, List.all_eq_true, decide_eq_true_eq, Bool.or_eq_true, Bool.not_eq_true', beq_iff_eq, List.mem_range] at h
 obtain ⟨⟨⟨h1, h2⟩, h3⟩, h4⟩ := h
 refine ⟨h1, fun y hy e => ?_, fun y hy e => ?_, fun y hy e => ?_, fun y hy e => ?_, h3, fun i x hi e => ?_⟩
 ·rcases (h2 y hy).1.1 with z | z
  ·rw [e] at z; simp at z
  ·exact z
 ·rcases (h2 y hy).1.2 with z | z
  ·rw [e] at z; simp at z
  ·exact z
 ·rcases (h2 y hy).2 with z | z
  ·rw [e] at z; simp at z
  ·exact z.1
 ·rcases (h2 y hy).2 with z | z
  ·rw [e] at z; simp at z
  ·exact z.2
 ·have q := h4 i hi
  rw [e] at q
  simpa using q
end
theorem law_end {l : PySem.W.OpenLaw} {m : List D → Option D} {K : Frag} {H : Hp} {a : Addr} {ns : List Int} (hO : Only H) (hq : SqL K H a (ns.map V.int)) (hm : m [.scr ns] = some (.bl true)) :
  spM K m [.ref a] H (fun v _ => v = .bl true) (fun _ _ _ => False) := by
 refine ⟨fun _ => False, [.scr ns], .bl true, fun _ z => z.elim, .one ?_, hm, fun v H' _ r => by simpa [Rep] using r⟩
 simp only [Rep]
 refine ⟨a, rfl, ?_⟩
 rcases hq with hq | hq
 ·rcases hq with hq | hq
  ·rcases hO a with z | ⟨o, xs, z⟩ <;> (rw [z] at hq; cases hq)
  ·exact .inl hq
 ·exact .inr hq
section
variable {X : Cx} {fr : Bool} {os os' ol : List Nat} {pos : Pos} {s : Bool} {scope : Scope} {own N' : List Str} {k : Nat} {elt target iter : Expr} {ifs : List Expr} {wi : TI} {g : TG} {tc : TT} {te : TE} {fi : Ev → Option (List D)} {u : D → Ev → Option Ev} {cf : Ev → Option Bool} {e : Ev → Option D}
theorem sf_comp (c : CompOk X scope own N' k) (hc : X.calm = true) (hi : SI X s os target iter wi fi) (hg : ∀ s₂ H₂ fp C, SG (Zf X scope own N' s₂ H₂ fp C) os target g u) (ht : ∀ s₂ H₂ fp C, SPF (Zf X scope own N' s₂ H₂ fp C) os ifs tc cf)
  (he : ∀ s₂ H₂ fp C, SE (Zf X scope own N' s₂ H₂ fp C) true os elt te e) (hs : ∀ x, foldedSetIterable iter X.env x = pure x := by intro _; rfl) : SF X os (.ListComp elt [⟨target, iter, ifs, 0⟩] scope pos) (tComp k wi g tc te) (fComp k fi u cf e) :=
 ⟨pe_comp c hc hi.pi (fun a b c d => (hg a b c d).pg) (fun a b c d => (ht a b c d).pf) (fun a b c d => (he a b c d).pe) hs, fok_comp hi.ok (hg X.s₀ X.H₀ [] 0).ok (ht X.s₀ X.H₀ [] 0).ok (he X.s₀ X.H₀ [] 0).ok⟩
theorem ss_setComp {i : Nat} {x : Str} {pos' spos : Pos} (hN : X.N.Nodup) (hix : X.N[i]? = some x) (hx : X.env.scope.names.lookup x = some .local) (c : CompOk X scope own N' k) (hc : X.calm = true) (hi : SI X s os target iter wi fi) (hg : ∀ s₂ H₂ fp C, SG (Zf X scope own N' s₂ H₂ fp C) os target g u) (ht : ∀ s₂ H₂ fp C, SPF (Zf X scope own N' s₂ H₂ fp C) os ifs tc cf)
  (he : ∀ s₂ H₂ fp C, SE (Zf X scope own N' s₂ H₂ fp C) true os elt te e) (hsw : swapsWith (.ListComp elt [⟨target, iter, ifs, 0⟩] scope pos) (some (.Name x pos')) spos.line X.env = pure true := by rfl)
  (h1 : ∀ j ∈ os', j ∈ os ∧ j ≠ i := by decide) (h2 : ∀ j ∈ os, j ∈ os' ∨ j = i := by decide) (hs : ∀ x, foldedSetIterable iter X.env x = pure x := by intro _; rfl) :
  SS X fr os os' ol (.Assign [.Name x pos'] (.ListComp elt [⟨target, iter, ifs, 0⟩] scope pos) spos) (tAsg (tComp k wi g tc te) (gName i)) (mSet i (fComp k fi u cf e)) :=
 ss_setC (ps_setComp hN hix hx c hc hi.pi (fun a b c d => (hg a b c d).pg) (fun a b c d => (ht a b c d).pf) (fun a b c d => (he a b c d).pe) hsw hs) (fok_comp hi.ok (hg X.s₀ X.H₀ [] 0).ok (ht X.s₀ X.H₀ [] 0).ok (he X.s₀ X.H₀ [] 0).ok) h1 h2
end
open PySem L2
section
variable {ρ : Ev} {f fa fb fc : Ev → Option D} {fl ca cb : Ev → Option (List D)} {g g' : D → D → Option D} {c c1 c2 : Ev → Option Bool} {m m1 m2 : Ev → Option Out} {i k n : Nat} {d : D} {ds : List D} {u : D → Ev → Option Ev} {us : List D → Ev → Option Ev} {h : D → Option D} {gl : List D → Option D}
@[simp] theorem fVar_ : zd i ρ = ρ[i]?.join := rfl
@[simp] theorem fC_ : fC d ρ = some d := rfl
@[simp] theorem f1_ : f1 h fa ρ = (fa ρ).bind h := rfl
@[simp] theorem f2_ : f2 g fa fb ρ = (fa ρ).bind fun x => (fb ρ).bind fun y => g x y := rfl
@[simp] theorem fSeq_ {b : Bool} : zl b fa ρ = (fa ρ).bind (asK b) := rfl
@[simp] theorem fFlat_ : fFlat fa ρ = (fa ρ).bind fun d => if d.flat then some d else none := rfl
@[simp] theorem fTest_ : zC fa ρ = (fa ρ).bind asB := rfl
@[simp] theorem fTru_ : fTru fa ρ = (fa ρ).bind truD := rfl
@[simp] theorem fAnd_ : fAnd c1 c2 ρ = (c1 ρ).bind fun c => if c then c2 ρ else some false := rfl
@[simp] theorem fOr_ : fOr c1 c2 ρ = (c1 ρ).bind fun c => if c then some true else c2 ρ := rfl
@[simp] theorem fNot_ : fNot c ρ = (c ρ).map (!·) := rfl
@[simp] theorem fAndV_ : fAndV fa fb ρ = ((fa ρ).bind asB).bind fun c => if c then fb ρ else some (.bl false) := rfl
@[simp] theorem fOrV_ : fOrV fa fb ρ = ((fa ρ).bind asB).bind fun c => if c then some (.bl true) else fb ρ := rfl
@[simp] theorem fNotV_ : fNotV fa ρ = ((fa ρ).bind asB).map fun c => .bl (!c) := rfl
@[simp] theorem fIf_ : fIf c fa fb ρ = (c ρ).bind fun c => if c then fa ρ else fb ρ := rfl
@[simp] theorem fChain_ : fChain g g' fa fb fc ρ = (fa ρ).bind fun x => (fb ρ).bind fun y => ((g x y).bind asB).bind fun c => if c then (fc ρ).bind fun z => g' y z else some (.bl false) := rfl
@[simp] theorem fNil_ : zj ρ = some [] := rfl
@[simp] theorem fCons_ : ze fa fl ρ = (fa ρ).bind fun x => (fl ρ).map (x :: ·) := rfl
@[simp] theorem fLst_ : fLst fl ρ = (fl ρ).bind dLst := rfl
@[simp] theorem fTup_ : fTup fl ρ = (fl ρ).bind dTup := rfl
@[simp] theorem fA_ : fA gl fl ρ = (fl ρ).bind gl := rfl
@[simp] theorem fIx_ : fIx fl fb ρ = (fl ρ).bind fun ds => (fb ρ).bind fun i => dIx ds i := rfl
@[simp] theorem fL_ : fL fa ρ = (fa ρ).bind asL := rfl
@[simp] theorem fCat_ : fCat ca cb ρ = (ca ρ).bind fun x => (cb ρ).bind fun y => dLst (x ++ y) := rfl
@[simp] theorem fNo_ : fNo ρ = some none := rfl
@[simp] theorem fPart_ : fPart fa ρ = (fa ρ).bind fun d => (asI d).map some := rfl
@[simp] theorem fCut_ {w : List D → D} {f1 f2 : Ev → Option (Option Int)} : fCut w fl f1 f2 ρ = (fl ρ).bind fun ds => (f1 ρ).bind fun lo => (f2 ρ).bind fun hi => some (w (cutD ds lo hi)) := rfl
theorem fRng1_ : fRng1 fa ρ = (fa ρ).bind fun d => (asI d).bind fun j => if -(2 ^ 62) ≤ j ∧ j < 2 ^ 62 then some (rangeD 0 j.toNat) else none := rfl
theorem fRng2_ : fRng2 fa fb ρ = (fa ρ).bind fun d => (fb ρ).bind fun d' => (asI d).bind fun i => (asI d').bind fun j => if -(2 ^ 62) ≤ i ∧ i < 2 ^ 62 ∧ -(2 ^ 62) ≤ j ∧ j < 2 ^ 62 then some (rangeD i (j - i).toNat) else none := rfl
@[simp] theorem fZip_ : fZip ca cb ρ = (ca ρ).bind fun xs => (cb ρ).map fun ys => zipD xs ys := rfl
@[simp] theorem fComp_ {e : Ev → Option D} : fComp k fl u c e ρ = (fl ρ).bind fun ds => (compD u c e ds (ρ ++ List.replicate k none)).bind dLst := rfl
@[simp] theorem fYes_ : fYes ρ = some true := rfl
@[simp] theorem uName_ : zD i d ρ = some (ρ.set i (some d)) := rfl
@[simp] theorem uTup_ : uTup us d ρ = (asK false d).bind fun ds => us ds ρ := rfl
@[simp] theorem uLst_ : uLst us d ρ = (asK true d).bind fun ds => us ds ρ := rfl
@[simp] theorem uNil_ : uNil [] ρ = some ρ := rfl
@[simp] theorem uCons_ : uCons u us (d :: ds) ρ = (u d ρ).bind fun ρ' => us ds ρ' := rfl
@[simp] theorem mNext_ : mNext ρ = some (.nx ρ) := rfl
@[simp] theorem mRet_ : mRet f ρ = (f ρ).map .rt := rfl
@[simp] theorem mRetN_ : mRetN ρ = some (.rt .non) := rfl
@[simp] theorem mSet_ : mSet i f ρ = (f ρ).map fun d => .nx (ρ.set i (some d)) := rfl
@[simp] theorem mNew_ : mNew i f ρ = (f ρ).bind fun d => if i < ρ.length then some (.nx (ρ.set i (some d))) else none := rfl
@[simp] theorem mAsg_ : mAsg u f ρ = (f ρ).bind fun d => (u d ρ).map .nx := rfl
@[simp] theorem mIf_ : mIf c m1 m2 ρ = (c ρ).bind fun b => if b then m1 ρ else m2 ρ := rfl
@[simp] theorem mDrop_ : mDrop f ρ = (f ρ).map fun _ => .nx ρ := rfl
@[simp] theorem mFor_ : mFor fl u m ρ = (fl ρ).bind fun ds => forD u m ds ρ := rfl
@[simp] theorem mUpd_ {w : List D → D → Option (List D)} : mUpd i w f ρ = (f ρ).bind fun d => (ρ[i]?.join).bind fun x => (asL x).bind fun ds => (w ds d).map fun ds' => .nx (ρ.set i (some (.lst ds'))) := rfl
@[simp] theorem mSetIx_ {fi : Ev → Option D} : mSetIx i f fi ρ = (f ρ).bind fun d => (ρ[i]?.join).bind fun x => (asL x).bind fun ds => (fi ρ).bind fun k => (asI k).bind fun k => (ixN ds.length k).map fun j => .nx (ρ.set i (some (.lst (ds.set j d)))) := rfl
@[simp] theorem asK_t {ds : List D} : asK true (.lst ds) = some ds := rfl
@[simp] theorem asK_s {ns : List Int} : asK true (.scr ns) = some (ns.map .int) := rfl
@[simp] theorem asK_f {ds : List D} : asK false (.tup ds) = some ds := rfl
@[simp] theorem asL_ {ds : List D} : asL (.lst ds) = some ds := rfl
@[simp] theorem asB_ {b : Bool} : asB (.bl b) = some b := rfl
@[simp] theorem asI_ {j : Int} : asI (.int j) = some j := rfl
@[simp] theorem dI_ {w : Int → Int → D} {a b : Int} : dI w (.int a) (.int b) = some (w a b) := rfl
theorem dIc_ {C : Int → Int → Prop} {w : Int → Int → D} {a b : Int} (hc : C a b) : dIc C w (.int a) (.int b) = some (w a b) := by unfold dIc; exact if_pos hc
@[simp] theorem dMul_s {a b : Int} (hc : IntMulOk a b) : dMul (.int a) (.int b) = some (.int (a * b)) := dIc_ hc
@[simp] theorem Ze {a b : Int} (hc : 0 < b) : dMod (.int a) (.int b) = some (.int (a % b)) := dIc_ (C := fun _ j => 0 < j) hc
@[simp] theorem dDiv_s {a b : Int} (h0 : 0 < b) (h1 : b < 1073741824) : dDiv (.int a) (.int b) = some (.int (a / b)) := dIc_ (C := CDiv) ⟨h0, h1⟩
theorem dDivP_s {a b : Int} (h : CDivB a b) : dDivP (.int a) (.int b) = some (.int (a.fdiv b)) := dIc_ h
@[simp] theorem dPow_s {a b : Int} (h0 : 0 ≤ b) (h1 : b ≤ 1000000) (h2 : a.natAbs < 2 ^ 64) : dPow (.int a) (.int b) = some (.int (a ^ b.toNat)) := dIc_ (C := CPow) ⟨h0, h1, h2⟩
@[simp] theorem dNeg_ {a : Int} : dNeg (.int a) = some (.int (-a)) := rfl
@[simp] theorem dEqS_ {a b : Int} : dEqS (.int a) (.int b) = some (.bl (decide (a = b))) := rfl
@[simp] theorem dNeS_ {a b : Int} : dNeS (.int a) (.int b) = some (.bl (!decide (a = b))) := rfl
@[simp] theorem dIx_ {a : Int} : dIx ds (.int a) = atI ds a := rfl
@[simp] theorem gLen_ : gLen ds = some (.int ds.length) := rfl
@[simp] theorem gTuple_ : gTuple ds = some (.tup ds) := rfl
@[simp] theorem gSum_ {ns : List Int} : gSum (ns.map .int) = some (.int ns.sum) := by simp [gSum, intsD_map]
@[simp] theorem gAnyI_ {ns : List Int} : gAnyI (ns.map .int) = some (.bl (ns.any (· != 0))) := by simp [gAnyI, intsD_map]
@[simp] theorem gIntB {b : Bool} : gInt [.bl b] = some (.int (if b then 1 else 0)) := rfl
@[simp] theorem gIntI {b : Int} : gInt [.int b] = some (.int b) := rfl
@[simp] theorem gAbs_ {b : Int} : gAbs [.int b] = some (.int (if b < 0 then -b else b)) := rfl
@[simp] theorem dIsi_i {T : String} {a : Int} : dIsi T (.int a) = .bl ("int" == T || ("int" == "bool" && T == "int")) := rfl
@[simp] theorem flat_int {a : Int} : D.flat (.int a) = true := rfl
@[simp] theorem flat_bl {a : Bool} : D.flat (.bl a) = true := rfl
theorem lAppend_ (h : ds.length < sizeLine) : zS ds d = some (ds ++ [d]) := by unfold zS; exact if_pos h
theorem dLst_ (h : ds.length ≤ sizeLine) : dLst ds = some (.lst ds) := by unfold dLst; exact if_pos h
theorem dTup_ (h : ds.length ≤ sizeLine) : dTup ds = some (.tup ds) := by unfold dTup; exact if_pos h
theorem size_of {n : Nat} (h : n ≤ 1000000) : n ≤ sizeLine := Nat.le_trans h (by decide)
theorem size_lt {n : Nat} (h : n ≤ 1000000) : n < sizeLine := Nat.lt_of_le_of_lt h (by decide)
theorem mSeq_nx {ρ' : Ev} {o : Option Out} (h1 : m1 ρ = some (.nx ρ')) (h2 : m2 ρ' = o) : zO m1 m2 ρ = o := by
 unfold zO; rw [h1]; exact h2
theorem mDef_ {ds : List D} {d : D} (hl : ds.length = k) (h : m (startD n ds) = some (.rt d)) : mDef k n m ds = some d := by
 unfold mDef; rw [if_pos hl, h]; rfl
theorem forD_inv (I : Nat → Ev → Prop) : ∀ (ds : List D) (i0 : Nat) (ρ : Ev), I i0 ρ → (∀ (i : Nat) d ρ, ds[i]? = some d → I (i0 + i) ρ → ∃ ρ1, u d ρ = some ρ1 ∧ ∃ ρ2, m ρ1 = some (.nx ρ2) ∧ I (i0 + i + 1) ρ2) → ∃ ρ', forD u m ds ρ = some (.nx ρ') ∧ I (i0 + ds.length) ρ'
 | [], i0, ρ, h0, _ => ⟨ρ, rfl, h0⟩
 | d :: ds, i0, ρ, h0, hs => by
  obtain ⟨ρ1, h1, ρ2, h2, h3⟩ := hs 0 d ρ (by simp) h0
  obtain ⟨ρ', h4, h5⟩ := forD_inv I ds (i0 + 1) ρ2 h3 fun i d' ρ hd hi => by
   have := hs (i + 1) d' ρ (by simpa using hd) (by rw [show i0 + (i + 1) = i0 + 1 + i by omega]; exact hi)
   rw [show i0 + (i + 1) + 1 = i0 + 1 + i + 1 by omega] at this
   exact this
  refine ⟨ρ', ?_, by rw [List.length_cons, show i0 + (ds.length + 1) = i0 + 1 + ds.length by omega]; exact h5⟩
  rw [forD, h1, oB, h2, oB]
  exact h4
theorem compD_at {e : Ev → Option D} (I : Ev → Prop) (R : Nat → D → Prop) : ∀ (ds : List D) (i0 : Nat) (ρ : Ev), I ρ → (∀ (i : Nat) d ρ, ds[i]? = some d → I ρ → ∃ ρ1, u d ρ = some ρ1 ∧ c ρ1 = some true ∧ (∃ x, e ρ1 = some x ∧ R (i0 + i) x) ∧ I ρ1) →
  ∃ xs, compD u c e ds ρ = some xs ∧ xs.length = ds.length ∧ ∀ (i : Nat) x, xs[i]? = some x → R (i0 + i) x
 | [], i0, ρ, _, _ => ⟨[], rfl, rfl, fun i x h => by simp at h⟩
 | d :: ds, i0, ρ, h0, hs => by
  obtain ⟨ρ1, h1, h2, ⟨x, h3, h5⟩, h4⟩ := hs 0 d ρ (by simp) h0
  obtain ⟨xs, q1, q2, q3⟩ := compD_at I R ds (i0 + 1) ρ1 h4 fun i d' ρ hd hi => by
   have := hs (i + 1) d' ρ (by simpa using hd) hi
   rw [show i0 + (i + 1) = i0 + 1 + i by omega] at this
   exact this
  refine ⟨x :: xs, by rw [compD, h1, oB, h2, oB, if_pos rfl, h3, oB, q1]; rfl, by simp [q2], fun i y hy => ?_⟩
  cases i with
  | zero => simp at hy; subst hy; exact h5
  | succ i => rw [show i0 + (i + 1) = i0 + 1 + i by omega]; exact q3 i y (by simpa using hy)
theorem rangeD_get {lo : Int} {n i : Nat} {d : D} (h : (rangeD lo n)[i]? = some d) : i < n ∧ d = .int (lo + (i : Nat)) := by
 unfold rangeD at h
 rw [List.getElem?_map] at h
 by_cases hi : i < n
 ·simp [hi] at h; exact ⟨hi, h.symm⟩
 ·simp [hi] at h
@[simp] theorem rangeD_length {lo : Int} {n : Nat} : (rangeD lo n).length = n := by simp [rangeD]
theorem atI_map {ns : List Int} {i : Int} (h0 : 0 ≤ i) (h1 : i < ns.length) : atI (ns.map D.int) i = some (.int (ns.getD i.toNat 0)) := by
 have e := zY (xs := ns.map D.int) (j := i.toNat) (v := .int (ns.getD i.toNat 0)) (by
  rw [List.getElem?_map]
  have hi : i.toNat < ns.length := by omega
  simp [hi, List.getD])
 rwa [show ((i.toNat : Nat) : Int) = i by omega] at e
end
def Wo {α : Type} (o : Option α) (P : α → Prop) : Prop := ∃ x, o = some x ∧ P x
theorem Wo.eq {α : Type} {o : Option α} {y : α} (h : Wo o (· = y)) : o = some y := let ⟨x, e, p⟩ := h; p ▸ e
section
variable {α β : Type} {P : α → Prop} {Q : β → Prop} {x : α} {o : Option α} {g : α → Option β} {w : α → β}
@[simp] theorem zL : Wo (some x) P ↔ P x := ⟨fun ⟨y, e, p⟩ => by cases e; exact p, fun p => ⟨x, rfl, p⟩⟩
@[simp] theorem wo_none : Wo (none : Option α) P ↔ False := ⟨fun ⟨y, e, p⟩ => (by cases e), False.elim⟩
@[simp] theorem wo_bind : Wo (o.bind g) Q ↔ Wo o fun x => Wo (g x) Q := by
 cases o with
 | none => simp
 | some x => simp
@[simp] theorem wo_map : Wo (o.map w) Q ↔ Wo o fun x => Q (w x) := by
 cases o with
 | none => simp
 | some x => simp
@[simp] theorem wo_guard {c : Prop} [Decidable c] {a : Option α} : Wo (if c then a else none) P ↔ c ∧ Wo a P := by
 split <;> simp_all
end
section
variable {P : D → Prop} {R : List D → Prop} {T : Out → Prop} {a b : Int} {ds : List D} {d : D} {ρ : Ev} {m m1 m2 : Ev → Option Out}
theorem wo_dIc {C : Int → Int → Prop} {w : Int → Int → D} : Wo (dIc C w (.int a) (.int b)) P ↔ C a b ∧ P (w a b) := by
 unfold dIc; split <;> simp_all
@[simp] theorem wo_mul : Wo (dMul (.int a) (.int b)) P ↔ IntMulOk a b ∧ P (.int (a * b)) := wo_dIc
@[simp] theorem wo_mod : Wo (dMod (.int a) (.int b)) P ↔ 0 < b ∧ P (.int (a % b)) := wo_dIc
@[simp] theorem wo_div : Wo (dDiv (.int a) (.int b)) P ↔ (0 < b ∧ b < 1073741824) ∧ P (.int (a / b)) := wo_dIc
@[simp] theorem wo_divP : Wo (dDivP (.int a) (.int b)) P ↔ b ≠ 0 ∧ P (.int (a.fdiv b)) := wo_dIc
@[simp] theorem wo_pow : Wo (dPow (.int a) (.int b)) P ↔ (0 ≤ b ∧ b ≤ 1000000 ∧ a.natAbs < 2 ^ 64) ∧ P (.int (a ^ b.toNat)) := wo_dIc
@[simp] theorem wo_dI {w : Int → Int → D} : Wo (dI w (.int a) (.int b)) P ↔ P (w a b) := by simp
@[simp] theorem wo_lst : Wo (dLst ds) P ↔ ds.length ≤ sizeLine ∧ P (.lst ds) := by unfold dLst; rw [wo_guard]; simp
@[simp] theorem wo_tup : Wo (dTup ds) P ↔ ds.length ≤ sizeLine ∧ P (.tup ds) := by unfold dTup; rw [wo_guard]; simp
@[simp] theorem wo_append : Wo (zS ds d) R ↔ ds.length < sizeLine ∧ R (ds ++ [d]) := by unfold zS; rw [wo_guard]; simp
theorem p62 : (2 : Int) ^ 62 = 4611686018427387904 := by decide
@[simp] theorem wo_rng1 {fa : Ev → Option D} : Wo (fRng1 fa ρ) R ↔ Wo (fa ρ) fun d => Wo (asI d) fun j => (-4611686018427387904 ≤ j ∧ j < 4611686018427387904) ∧ R (rangeD 0 j.toNat) := by
 rw [fRng1_, wo_bind, ← p62]
 simp only [wo_bind, wo_guard, zL]
@[simp] theorem wo_rng2 {fa fb : Ev → Option D} : Wo (fRng2 fa fb ρ) R ↔ Wo (fa ρ) fun d => Wo (fb ρ) fun d' => Wo (asI d) fun i => Wo (asI d') fun j => (-4611686018427387904 ≤ i ∧ i < 4611686018427387904 ∧ -4611686018427387904 ≤ j ∧ j < 4611686018427387904) ∧ R (rangeD i (j - i).toNat) := by
 rw [fRng2_, wo_bind, ← p62]
 simp only [wo_bind, wo_guard, zL]
def Then (m : Ev → Option Out) (T : Out → Prop) : Out → Prop
 | .nx ρ => Wo (m ρ) T
 | o => T o
@[simp] theorem zu : Then m T (.nx ρ) = Wo (m ρ) T := rfl
@[simp] theorem then_rt : Then m T (.rt d) = T (.rt d) := rfl
@[simp] theorem then_bk : Then m T (.bk ρ) = T (.bk ρ) := rfl
@[simp] theorem then_ct : Then m T (.ct ρ) = T (.ct ρ) := rfl
@[simp] theorem zF : Wo (zO m1 m2 ρ) T ↔ Wo (m1 ρ) (Then m2 T) := by
 unfold zO
 cases h : m1 ρ with
 | none => simp
 | some o => cases o <;> simp [Then]
def Back (P : D → Prop) : Out → Prop
 | .nx _ => P .non
 | .rt d => P d
 | _ => False
@[simp] theorem back_rt : Back P (.rt d) = P d := rfl
@[simp] theorem back_nx : Back P (.nx ρ) = P .non := rfl
theorem wo_def {k n : Nat} : Wo (mDef k n m ds) P ↔ ds.length = k ∧ Wo (m (startD n ds)) (Back P) := by
 unfold mDef
 split
 ·rename_i h
  simp only [h, true_and, wo_bind]
  cases m (startD n ds) with
  | none => simp
  | some o => cases o <;> simp [outD, Back]
 ·simp_all
def Turn (u : D → Ev → Option Ev) (m : Ev → Option Out) (ds : List D) (T : Out → Prop) : Out → Prop
 | .nx ρ => Wo (forD u m ds ρ) T
 | .ct ρ => Wo (forD u m ds ρ) T
 | .bk ρ => T (.nx ρ)
 | .rt d => T (.rt d)
@[simp] theorem turn_nx {u : D → Ev → Option Ev} : Turn u m ds T (.nx ρ) = Wo (forD u m ds ρ) T := rfl
@[simp] theorem turn_ct {u : D → Ev → Option Ev} : Turn u m ds T (.ct ρ) = Wo (forD u m ds ρ) T := rfl
@[simp] theorem turn_bk {u : D → Ev → Option Ev} : Turn u m ds T (.bk ρ) = T (.nx ρ) := rfl
@[simp] theorem turn_rt {u : D → Ev → Option Ev} : Turn u m ds T (.rt d) = T (.rt d) := rfl
theorem wo_for {u : D → Ev → Option Ev} {ds : List D} (I : Nat → Ev → Prop) (h0 : I 0 ρ) (hs : ∀ (i : Nat) d ρ, ds[i]? = some d → I i ρ → Wo (u d ρ) fun ρ1 => Wo (m ρ1) fun o => match o with
  | .nx ρ2 => I (i + 1) ρ2
  | .ct ρ2 => I (i + 1) ρ2
  | .bk ρ2 => T (.nx ρ2)
  | .rt r => T (.rt r)) (hd : ∀ ρ, I ds.length ρ → T (.nx ρ)) : Wo (forD u m ds ρ) T := by
 suffices ∀ (es : List D) (k : Nat) (ρ : Ev), ds = ds.take k ++ es → k + es.length = ds.length → I k ρ → Wo (forD u m es ρ) T from this ds 0 ρ (by simp) (by simp) h0
 intro es
 induction es with
 | nil =>
  intro k ρ _ hl hi
  simp only [List.length_nil, Nat.add_zero] at hl
  subst hl
  simp [forD, hd ρ hi]
 | cons d es ih =>
  intro k ρ he hl hi
  have hk : ds[k]? = some d := by
   have h1 : (ds.take k).length = k := by rw [List.length_take]; simp at hl; omega
   rw [he, List.getElem?_append_right (by omega), h1]; simp
  have he' : ds = ds.take (k + 1) ++ es := by
   have h2 := List.take_append_drop (k + 1) ds
   have h3 : ds.drop (k + 1) = es := by
    have h1 : (ds.take k).length = k := by rw [List.length_take]; simp at hl; omega
    have : ds.drop k = d :: es := by
     conv => lhs; rw [he]
     rw [List.drop_append, h1]; simp
    rw [← List.drop_drop, this]; simp
   rw [h3] at h2; exact h2.symm
  obtain ⟨ρ1, e1, o, e2, p⟩ := hs k d ρ hk hi
  simp only [forD, e1, e2, oB]
  cases o with
  | nx ρ2 => exact ih (k + 1) ρ2 he' (by simp at hl ⊢; omega) p
  | ct ρ2 => exact ih (k + 1) ρ2 he' (by simp at hl ⊢; omega) p
  | bk ρ2 => simpa using p
  | rt r => simpa using p
variable {u : D → Ev → Option Ev} {c : Ev → Option Bool} {e : Ev → Option D}
theorem wo_compAt (I : Ev → Prop) (F : Nat → D → Prop) (h0 : I ρ) (hs : ∀ (i : Nat) d ρ, ds[i]? = some d → I ρ → Wo (u d ρ) fun ρ1 => c ρ1 = some true ∧ Wo (e ρ1) (F i) ∧ I ρ1) (hd : ∀ xs, xs.length = ds.length → (∀ (i : Nat) x, xs[i]? = some x → F i x) → R xs) : Wo (compD u c e ds ρ) R := by
 obtain ⟨xs, q1, q2, q3⟩ := compD_at I F ds 0 ρ h0 fun i d ρ h1 h2 => (by
  obtain ⟨ρ1, a1, a2, a3, a4⟩ := hs i d ρ h1 h2
  exact ⟨ρ1, a1, a2, by rw [Nat.zero_add]; exact a3, a4⟩)
 exact ⟨xs, q1, hd xs q2 fun i x h => by have := q3 i x h; rwa [Nat.zero_add] at this⟩
end
theorem mulS {a b : Int} (h1 : -(2 ^ 64) < a) (h2 : a < 2 ^ 64) : IntMulOk a b := .of_left (intBits_le_64 h1 h2)
theorem cutD_from {ds : List D} (k : Nat) : cutD ds (some (k : Int)) none = ds.drop k := by
 unfold cutD
 rw [HT.sIx_nat, HT.sIx_none]
 by_cases h2 : k ≤ ds.length
 ·rw [Nat.min_eq_left h2, List.take_of_length_le (by simp)]
 ·rw [Nat.min_eq_right (by omega), List.drop_eq_nil_of_le (by omega : ds.length ≤ k), List.drop_length]; simp
end M
namespace L2
open PySem PySem.Spec PyProof.Rows
def ItrD (lo : Int) (n : Nat) : It := ⟨fun i _ => i < n, fun i H x H' => H' = H ∧ x = .int (lo - i), fun i _ => n ≤ i⟩
theorem turn_rangeD {P : Program} {w : World} {K : PySem.W.Frag} {tg : Expr} (it : Addr) (lo : Int) (n : Nat) : Turn P w K tg (ItrD lo n) [it] it (fun i h => IsRangeIter h it (lo + (i : Nat) * (-1)) ((n : Int) - (i : Nat)) (-1)) where
 mem := by simp
 obj := fun i h st b hb => by
  have e : b = it := by simpa using hb
  subst e
  exact ⟨_, st, fun v z => by
   have z' : Data.fields _ = Data.cell v := z
   cases z'⟩
 keep := fun i h h' st k => k it (by simp) _ st
 item := by
  intro X hP hw hK hc i pins s σ H E I hf st hg
  subst hP hw hK
  obtain ⟨f0, f1, f2, f3, f4, f5⟩ := hf it (by simp)
  have W := Walks.range (prog := X.prog) (w := X.w) (I.ok.hd hc) it lo (-1) n
  refine W.item i s _ _ hg st fun v h' tk hv st' kk => ?_
  obtain ⟨t, rfl⟩ := hv
  have I1 : Inv X pins σ H { s with heap := h', toks := tk } := I.turned (fun b o hb e => kk b o (by simpa using hb) e) f0 f1 f3 f4 f5
  refine ⟨_, rfl, go_of (s := { s with heap := h', toks := tk }) (n := "range_iterator") st' rfl rfl (by decide) ⟨.int (lo - i), H, I1, ⟨t, ?_⟩, ⟨rfl, rfl⟩, st', fun b hb => (hf b hb).1⟩⟩
  rw [show lo - (i : Int) = lo + (i : Int) * (-1) by omega]
 done := by
  intro X hP hw hK hc i pins s σ H E I hf st hg
  subst hP hw hK
  obtain ⟨f0, f1, f2, f3, f4, f5⟩ := hf it (by simp)
  exact wpAny_pyNext_range_end (I.ok.hd hc) st (by have : n ≤ i := hg; omega) fun h' eb => ⟨rfl, I.turned (t' := s.toks) (fun b o hb e => eb b o hb e) f0 f1 f3 f4 f5⟩
 self := fun _ _ _ _ _ st h => wpAny_pyIter_rangeiter st h
section
variable {X : Cx} {tg : Expr}
def iRngD (ta : TA) : TI := fun σ H R => ta σ H fun vs H1 => ∃ i j : Int, vs = [.int i, .int j, .int (-1)] ∧ (-(2 ^ 62) ≤ i ∧ i < 2 ^ 62 ∧ -(2 ^ 62) ≤ j ∧ j < 2 ^ 62) ∧ R (ItrD i (i - j).toNat) H1
theorem pi_rangeD {a b c : Expr} {ta : TA} {p pos : Pos} (hg : Gl X "range") (hm : X.mg "range" = none) (ha : PA X [a, b, c] ta) (hs : starEach [a, b, c] X.env = [(false, eval a X.env), (false, eval b X.env), (false, eval c X.env)] := by rfl) (hs2 : starEach [b, c] X.env = [(false, eval b X.env), (false, eval c X.env)] := by rfl) :
  PI X tg (.Call (.Name "range" p) [a, b, c] [] pos) (iRngD ta) := by
 intro pins s σ H R I h
 refine Call_ (ld_blt I hg hm boot_range (PyProof.Rows.callWith_type1 (thn (ha pos pins s σ H _ I h) fun us s1 ⟨vs, H1, I1, r1, q1⟩ => ?_) (by rw [hs, hs2]) (by rw [hs2]; rfl)))
 obtain ⟨i, j, e, ⟨q1, q2, q3, q4⟩, q⟩ := q1
 subst e
 cases r1 with
 | cons r rr =>
  cases rr with
  | cons r' rr =>
   cases rr with
   | cons r'' rr =>
    cases rr
    obtain ⟨t, rfl⟩ := r
    obtain ⟨t', rfl⟩ := r'
    obtain ⟨t'', rfl⟩ := r''
    refine call_range_3 (by decide) ?_
    refine wpAny_pyIter_range (IsRange.new ..) (PySem.W.small_down q1 q2 q3 q4) ?_
    have I2 : ∀ (ob : Obj) (tk : Nat), Inv X pins σ H1 { s1 with heap := s1.heap.push ob, toks := tk } := fun ob tk => I1.kept fun b o e => Heap.get?_push_of_some _ e
    refine ⟨_, [_], _, _, H1, rfl, (I2 _ _).kept (t' := _) fun b o e => Heap.get?_push_of_some _ e, turn_rangeD _ i (i - j).toNat, ?_, fun b hb => ?_, q⟩
    ·have e1 : i + ((0 : Nat) : Int) * (-1) = i := by simp
     have e2 : (((i - j).toNat : Nat) : Int) - ((0 : Nat) : Int) = Builtin.Range.rangeSize i j (-1) := by rw [PySem.W.rangeSize_downNat]; simp
     show IsRangeIter _ _ (i + ((0 : Nat) : Int) * (-1)) ((((i - j).toNat : Nat) : Int) - ((0 : Nat) : Int)) (-1)
     rw [e1, e2]
     exact Heap.get?_push_size _ rfl
    ·have e := List.mem_singleton.mp hb
     subst e
     exact (I2 _ _).fpOk (Nat.le_refl _) ((I2 _ _).hok.fresh (Nat.le_refl _))
end
section
variable {X : Cx}
def rCatA (K : PySem.W.Frag) : R2 := fun x y H Q => ∃ a b xs ys, x = .ref a ∧ y = .ref b ∧ SqT K H a xs ∧ SqT K H b ys ∧ xs.length + ys.length ≤ sizeLine ∧ (xs = [] → Q (.ref b) H) ∧
 (xs ≠ [] → ys = [] → Q (.ref a) H) ∧ (xs ≠ [] → ys ≠ [] → ∀ p, H p = none → Q (.ref p) (upd H p (.tup (xs ++ ys))))
theorem op_catA {K' : PySem.W.Frag} (hK : X.K = K' := by rfl) : OpR X (binaryOp .Add) (rCatA K') := by
 subst hK
 intro pins s σ H x y v u Q I rx ry h
 obtain ⟨a, b, xs, ys, rfl, rfl, ha, hb, hz, q0, q1, q2⟩ := h
 by_cases hx : xs = []
 ·cases rx
  cases ry
  obtain ⟨its, r1, p1, _⟩ := I.tuple ha
  obtain ⟨its2, r2, p2, _⟩ := I.tuple hb
  obtain ⟨⟨cls, dd, data, sl⟩, ho, hc, n, hd⟩ := id p1
  obtain ⟨⟨cls2, dd2, data2, sl2⟩, ho2, hc2, n2, hd2⟩ := id p2
  simp only at hc hd hc2 hd2
  subst hc hd hc2 hd2
  have he : its = [] := r1.nil_iff.mpr hx
  exact concat_meets ⟨_, ho, rfl⟩ ⟨_, ho2, rfl⟩ noFill_tuple_add seq_tuple_add PySem.F.slot_tuple_add PySem.F.entry_tuple_add (PySem.F.args_tuple_add_2 _ _)
   (tuple_addW0 a b its.toArray its2.toArray n n2 dd dd2 sl sl2 (by simp [he])) ⟨ho, ho2, ⟨.ref b, H, I, rfl, q0 hx⟩⟩
 ·exact op_catT pins s σ H _ _ v u Q I rx ry ⟨a, b, xs, ys, rfl, rfl, ha, hb, hx, hz, q1 hx, q2 hx⟩
end
end L2
namespace M
open PySem PySem.Spec L2
open PySem.W (Frag)
def rangeDn (lo : Int) (n : Nat) : List D := (List.range n).map fun i => .int (lo - (i : Nat))
@[simp] theorem rangeDn_length {lo : Int} {n : Nat} : (rangeDn lo n).length = n := by simp [rangeDn]
theorem rangeDn_get {lo : Int} {n i : Nat} {d : D} (h : (rangeDn lo n)[i]? = some d) : i < n ∧ d = .int (lo - (i : Nat)) := by
 unfold rangeDn at h
 rw [List.getElem?_map] at h
 by_cases hi : i < n
 ·simp [hi] at h; exact ⟨hi, h.symm⟩
 ·simp [hi] at h
theorem iw_rangeD {K : Frag} (lo : Int) (n : Nat) : IW K (ItrD lo n) (rangeDn lo n) (fun _ _ => True) := by
 refine ⟨fun H B i d _ e => (rangeDn_get e).1, fun H B i d x H' _ e y => ?_, fun H B i _ h => by rw [rangeDn_length] at h; exact h⟩
 obtain ⟨rfl, rfl⟩ := y
 obtain ⟨_, rfl⟩ := rangeDn_get e
 exact ⟨.refl _, rep_int⟩
def fRngD (fa fb : Ev → Option D) : Ev → Option (List D) := fun ρ => (fa ρ).bind fun d => (fb ρ).bind fun d' => (asI d).bind fun i => (asI d').bind fun j => if -(2 ^ 62) ≤ i ∧ i < 2 ^ 62 ∧ -(2 ^ 62) ≤ j ∧ j < 2 ^ 62 then some (rangeDn i (i - j).toNat) else none
section
variable {X : Cx} {fr st s : Bool} {os os' ol : List Nat} {tg e a b : Expr} {t ta tb te : TE} {f fa fb : Ev → Option D} {pos p : Pos}
theorem si_rangeD {jj : Nat} {p1 p2 : Pos} (hg : Gl X "range") (hm : X.mg "range" = none) (ha : SE X false os a ta fa) (hb : SE X false os b tb fb)
  (h1 : starEach [a, b, .UnaryOp .USub (.Constant (.int 1) jj p1) p2] X.env = (false, eval a X.env) :: starEach [b, .UnaryOp .USub (.Constant (.int 1) jj p1) p2] X.env := by rfl)
  (h2 : starEach [b, .UnaryOp .USub (.Constant (.int 1) jj p1) p2] X.env = (false, eval b X.env) :: starEach [.UnaryOp .USub (.Constant (.int 1) jj p1) p2] X.env := by rfl)
  (h3 : starEach [.UnaryOp .USub (.Constant (.int 1) jj p1) p2] X.env = (false, eval (.UnaryOp .USub (.Constant (.int 1) jj p1) p2) X.env) :: starEach [] X.env := by rfl)
  (hs : starEach [a, b, .UnaryOp .USub (.Constant (.int 1) jj p1) p2] X.env = [(false, eval a X.env), (false, eval b X.env), (false, eval (.UnaryOp .USub (.Constant (.int 1) jj p1) p2) X.env)] := by rfl)
  (hs2 : starEach [b, .UnaryOp .USub (.Constant (.int 1) jj p1) p2] X.env = [(false, eval b X.env), (false, eval (.UnaryOp .USub (.Constant (.int 1) jj p1) p2) X.env)] := by rfl) :
  SI X s os tg (.Call (.Name "range" p) [a, b, .UnaryOp .USub (.Constant (.int 1) jj p1) p2] [] pos) (iRngD (Za ta (Za tb (Za (tUn (rU fun i => .int (-i)) (tC (.int 1))) tNil)))) (fRngD fa fb) :=
 ⟨pi_rangeD hg hm (zG ha.pe (zG hb.pe (zG (pe_un un_neg pe_int) Zr h3) h2) h1) hs hs2, fun H₀ B₀ σ H ρ ds R m q kk => by
 obtain ⟨x, h1, h2⟩ := zb q
 obtain ⟨y, h3, h4⟩ := zb h2
 obtain ⟨i, h5, h6⟩ := zb h4
 obtain ⟨j, h7, h8⟩ := zb h6
 split at h8
 ·cases h8
  rename_i hc
  refine ha.ok H₀ B₀ σ H ρ x _ m h1 fun v H1 s1 r => ?_
  refine hb.ok H₀ B₀ σ H1 ρ y _ (m.up s1) h3 fun v' H2 s2 r2 => ?_
  have e1 := asI_v r h5
  have e2 := asI_v r2 h7
  subst e1; subst e2
  exact ⟨1, rfl, i, j, rfl, hc, kk _ H2 _ (s1.trans s2) (iw_rangeD i _) (fun _ _ _ _ _ _ _ _ _ => trivial) (fun _ _ _ _ _ _ _ => trivial) trivial⟩
 ·cases h8⟩
def fCutT (fa : Ev → Option (List D)) (fl fu : Ev → Option (Option Int)) : Ev → Option D := fun ρ => (fa ρ).bind fun ds => (fl ρ).bind fun lo => (fu ρ).bind fun hi => if HT.sIx ds.length 0 lo = 0 ∧ HT.sIx ds.length ds.length hi = ds.length then none else some (.tup (cutD ds lo hi))
theorem se_cutT {ca : Ev → Option (List D)} {lo hi : Option Expr} {t1 t2 : TO} {g1 g2 : Ev → Option (Option Int)} {p2 : Pos} (ha : SC X false os a ta ca) (hl : SO X os lo t1 g1) (hu : SO X os hi t2 g2) {K' : Frag} (hK : X.K = K' := by rfl) :
  SE X st os (.Subscript a (.Slice lo hi none p2) pos) (tSl (rSlT K') ta t1 t2) (fCutT ca g1 g2) := by
 subst hK
 exact ⟨pe_slice sl_tup ha.pe hl.po hu.po, fun H₀ B₀ σ H ρ d Q m q k => by
 obtain ⟨ds, h1, h2⟩ := zb q
 obtain ⟨l, h3, h4⟩ := zb h2
 obtain ⟨u, h5, h6⟩ := zb h4
 split at h6
 ·cases h6
 rename_i hne
 cases h6
 refine ha.ok H₀ B₀ σ H ρ ds _ m h1 fun p xs H1 s1 hq r1 => ?_
 refine hl.ok H₀ B₀ σ H1 ρ l _ (m.up s1) h3 fun H2 s2 => ?_
 refine hu.ok H₀ B₀ σ H2 ρ u _ (m.up (s1.trans s2)) h5 fun H3 s3 => ?_
 refine ⟨p, xs, rfl, SqT.same (s2.trans s3) hq, by rw [r1.length]; exact hne, fun p' hp => ?_⟩
 refine k _ _ (((s1.trans s2).trans s3).trans (zy hp)) (Rep.bb ?_)
 simp only [Rep]
 exact ⟨p', _, rfl, .inl (.inl zv), (zk.cut (r1.up (s2.trans s3))).up (zy hp)⟩⟩
end
def fCatT (fa fb : Ev → Option D) : Ev → Option D := fun ρ => (zl false fa ρ).bind fun x => (zl false fb ρ).bind fun y => dTup (x ++ y)
@[simp] theorem fCatT_ {fa fb : Ev → Option D} {ρ : Ev} : fCatT fa fb ρ = (zl false fa ρ).bind fun x => (zl false fb ρ).bind fun y => dTup (x ++ y) := rfl
theorem se_catA {X : Cx} {st : Bool} {os : List Nat} {a b : Expr} {ta tb : TE} {fa fb : Ev → Option D} {pos : Pos} (ha : SE X true os a ta fa) (hb : SE X true os b tb fb) {K' : Frag} (hK : X.K = K' := by rfl) : SE X st os (.BinOp a .Add b pos) (tOp (rCatA K') ta tb) (fCatT fa fb) := by
 subst hK
 exact ⟨pe_op op_catA ha.pe hb.pe, fun H₀ B₀ σ H ρ d Q m q k => by
 obtain ⟨x, h1, h2⟩ := zb q
 obtain ⟨y, h3, h4⟩ := zb h2
 unfold dTup at h4
 split at h4
 ·rename_i hl
  cases h4
  refine (SE.seq (k := false) ha).ok H₀ B₀ σ H ρ x _ m h1 fun p1 xs H1 s1 hq1 r1 => ?_
  refine (SE.seq (k := false) hb).ok H₀ B₀ σ H1 ρ y _ (m.up s1) h3 fun p2 ys H2 s2 hq2 r2 => ?_
  have e1 := r1.length
  have e2 := r2.length
  refine ⟨p1, p2, xs, ys, rfl, rfl, SqT.same s2 hq1, hq2, ?_, fun z => ?_, fun _ z => ?_, fun _ _ p' hp => ?_⟩
  ·rw [e1, e2, ← List.length_append]; exact hl
  ·subst z
   have : x = [] := List.length_eq_zero_iff.mp e1.symm
   subst this
   refine k _ H2 (s1.trans s2) (Rep.bb ?_)
   simp only [Rep, List.nil_append]
   exact ⟨p2, ys, rfl, hq2, r2⟩
  ·subst z
   have : y = [] := List.length_eq_zero_iff.mp e2.symm
   subst this
   refine k _ H2 (s1.trans s2) (Rep.bb ?_)
   simp only [Rep, List.append_nil]
   exact ⟨p1, xs, rfl, SqT.same s2 hq1, r1.up s2⟩
  ·refine k _ _ ((s1.trans s2).trans (zy hp)) (Rep.bb ?_)
   simp only [Rep]
   exact ⟨p', _, rfl, .inl (.inl zv), ((r1.up s2).append r2).up (zy hp)⟩
 ·cases h4⟩
mutual
def Zc : D → PyData
 | .non => .none
 | .bl b => .bool b
 | .int i => .int i
 | .str x => .str x
 | .tup ds => .tuple (zZ ds)
 | .lst ds => .list (zZ ds)
 | .dict _ _ => .dict []
 | .scr ns => .list (ns.map .int)
 | .adr _ => .dict []
 | .kset _ => .dict []
 | .tk _ => .dict []
 | .pin _ _ => .dict []
def zZ : List D → List PyData
 | [] => []
 | d :: ds => Zc d :: zZ ds
end
def eqD (x y : D) : Bool := PyData.eqv (Zc x) (Zc y)
def pyOk (x : D) : Bool := SeqAt.shaped (Zc x)
def dEqD (x y : D) : Option D := if pyOk x = true ∧ pyOk y = true then some (.bl (eqD x y)) else none
def dNeD (x y : D) : Option D := if pyOk x = true ∧ pyOk y = true then some (.bl (!eqD x y)) else none
section
variable {X : Cx} {pins : List (Addr × Obj)} {σ : St} {H : Hp} {s : Shared} {B : Addr → Prop}
theorem readsInts (h : Heap) : ∀ {ns : List Int} {us : List Value}, zN (ns.map V.int) us → ∃ as, ReadsAll h us (ns.map PyData.int) as
 | [], _, .nil => ⟨_, .nil⟩
 | n :: r, _, .cons q t => by
  obtain ⟨tk, rfl⟩ := q
  obtain ⟨as, z⟩ := readsInts h t
  exact ⟨_, .cons (.int n tk) z⟩
mutual
theorem Rep.reads (I : Inv X pins σ H s) : ∀ (d : D) (v : V) (u : Value), (Zc d).canLay0 = true → Rep X.K H B d v → RelV v u → ∃ as, Reads s.heap u (Zc d) as
 | .non, v, u, _, h, r => by simp only [Rep] at h; subst h; cases r; exact ⟨_, .none⟩
 | .bl b, v, u, _, h, r => by simp only [Rep] at h; subst h; cases r; exact ⟨_, .bool b⟩
 | .int i, v, u, _, h, r => by simp only [Rep] at h; subst h; obtain ⟨t, rfl⟩ := r; exact ⟨_, .int i t⟩
 | .str x, v, u, _, h, r => by simp only [Rep] at h; subst h; obtain ⟨t, rfl⟩ := r; exact ⟨_, .str x t⟩
 | .tup ds, v, u, c, h, r => by
  simp only [Rep] at h
  obtain ⟨a, xs, rfl, hq, hr⟩ := h
  cases r
  obtain ⟨its, rv, ht, _⟩ := I.tuple hq
  obtain ⟨o, e1, e2, n, e3⟩ := ht
  obtain ⟨as, z⟩ := zk.reads I ds xs its (by simpa [Zc, PyData.canLay0] using c) hr rv
  exact ⟨as, .tuple e1 e2 e3 z⟩
 | .lst ds, v, u, c, h, r => by
  simp only [Rep] at h
  obtain ⟨a, xs, rfl, hq, hr⟩ := h
  cases r
  obtain ⟨its, rv, ht, _⟩ := I.list hq.sq
  obtain ⟨o, n, e1, e2, _, e3⟩ := ht
  obtain ⟨as, z⟩ := zk.reads I ds xs its (by simpa [Zc, PyData.canLay0] using c) hr rv
  exact ⟨_, .list e1 e2 e3 z⟩
 | .dict ks ds, v, u, c, h, r => by simp [Zc, PyData.canLay0] at c
 | .scr ns, v, u, c, h, r => by
  simp only [Rep] at h
  obtain ⟨a, rfl, hq⟩ := h
  cases r
  obtain ⟨its, rv, ht, _⟩ := I.list hq.sq
  obtain ⟨o, n, e1, e2, _, e3⟩ := ht
  obtain ⟨as, z⟩ := readsInts s.heap rv
  exact ⟨_, .list e1 e2 e3 z⟩
 | .adr a, v, u, c, h, r => by simp [Zc, PyData.canLay0] at c
 | .kset a, v, u, c, h, r => by simp [Zc, PyData.canLay0] at c
 | .tk a, v, u, c, h, r => by simp [Zc, PyData.canLay0] at c
 | .pin a d, v, u, c, h, r => by simp [Zc, PyData.canLay0] at c
theorem zk.reads (I : Inv X pins σ H s) : ∀ (ds : List D) (vs : List V) (us : List Value), PyData.canLayAll0 (zZ ds) = true → zk X.K H B ds vs → zN vs us → ∃ as, ReadsAll s.heap us (zZ ds) as
 | [], vs, us, _, h, r => by simp only [zk] at h; subst h; cases r; exact ⟨_, .nil⟩
 | d :: ds, vs, us, c, h, r => by
  simp only [zk] at h
  obtain ⟨v, vr, rfl, h1, h2⟩ := h
  simp only [zZ, PyData.canLayAll0, Bool.and_eq_true] at c
  cases r with
  | cons q t =>
   obtain ⟨as, z⟩ := Rep.reads I d v _ c.1 h1 q
   obtain ⟨bs, y⟩ := zk.reads I ds vr _ c.2 h2 t
   exact ⟨_, .cons z y⟩
end
def rEqD (K : Frag) (neg : Bool) : R2 := fun x y H Q => ∃ (B : Addr → Prop) (d1 d2 : D), Rep K H B d1 x ∧ Rep K H B d2 y ∧ pyOk d1 = true ∧ pyOk d2 = true ∧ Q (.bl (if neg then !eqD d1 d2 else eqD d1 d2)) H
theorem op_eqD {k : Nat} (hr : Room k X.A) {K' : Frag} (hK : X.K = K' := by rfl) : OpR X (compareOp .Eq) (rEqD K' false) := by
 subst hK
 intro pins s σ H x y v u Q I rx ry h
 obtain ⟨B, d1, d2, h1, h2, o1, o2, q⟩ := h
 obtain ⟨as, r1⟩ := Rep.reads I d1 x v (SeqAt.canLay_of_shaped o1) h1 rx
 obtain ⟨bs, r2⟩ := Rep.reads I d2 y u (SeqAt.canLay_of_shaped o2) h2 ry
 exact PyProof.Rows.eq_dataH r1 r2 o1 o2 hr.units ⟨.bl _, H, I, rfl, q⟩
theorem op_neD {k : Nat} (hr : Room k X.A) {K' : Frag} (hK : X.K = K' := by rfl) : OpR X (compareOp .NotEq) (rEqD K' true) := by
 subst hK
 intro pins s σ H x y v u Q I rx ry h
 obtain ⟨B, d1, d2, h1, h2, o1, o2, q⟩ := h
 obtain ⟨as, r1⟩ := Rep.reads I d1 x v (SeqAt.canLay_of_shaped o1) h1 rx
 obtain ⟨bs, r2⟩ := Rep.reads I d2 y u (SeqAt.canLay_of_shaped o2) h2 ry
 exact PyProof.Rows.ne_dataH r1 r2 o1 o2 hr.units ⟨.bl _, H, I, rfl, q⟩
theorem rok_eqD {K : Frag} : ROk K (rEqD K false) dEqD := fun H B x y d1 d2 d Q hB r1 r2 e k => by
 unfold dEqD at e
 split at e
 ·rename_i hc
  cases e
  exact ⟨B, d1, d2, r1, r2, hc.1, hc.2, k _ H (.refl H) rep_bl⟩
 ·cases e
theorem rok_neD {K : Frag} : ROk K (rEqD K true) dNeD := fun H B x y d1 d2 d Q hB r1 r2 e k => by
 unfold dNeD at e
 split at e
 ·rename_i hc
  cases e
  exact ⟨B, d1, d2, r1, r2, hc.1, hc.2, k _ H (.refl H) rep_bl⟩
 ·cases e
end
theorem eqD_self {x : D} (h : pyOk x = true) : eqD x x = true := SeqAt.eqv_refl _ (SeqAt.canLay_of_shaped h)
theorem fRngD_ {fa fb : Ev → Option D} {ρ : Ev} : fRngD fa fb ρ = (fa ρ).bind fun d => (fb ρ).bind fun d' => (asI d).bind fun i => (asI d').bind fun j => if -(2 ^ 62) ≤ i ∧ i < 2 ^ 62 ∧ -(2 ^ 62) ≤ j ∧ j < 2 ^ 62 then some (rangeDn i (i - j).toNat) else none := rfl
@[simp] theorem wo_rngD {fa fb : Ev → Option D} {ρ : Ev} {R : List D → Prop} : Wo (fRngD fa fb ρ) R ↔ Wo (fa ρ) fun d => Wo (fb ρ) fun d' => Wo (asI d) fun i => Wo (asI d') fun j => (-4611686018427387904 ≤ i ∧ i < 4611686018427387904 ∧ -4611686018427387904 ≤ j ∧ j < 4611686018427387904) ∧ R (rangeDn i (i - j).toNat) := by
 rw [fRngD_, wo_bind, ← p62]
 simp only [wo_bind, wo_guard, zL]
@[simp] theorem fCutT_ {fl : Ev → Option (List D)} {f1 f2 : Ev → Option (Option Int)} {ρ : Ev} : fCutT fl f1 f2 ρ = (fl ρ).bind fun ds => (f1 ρ).bind fun lo => (f2 ρ).bind fun hi => if HT.sIx ds.length 0 lo = 0 ∧ HT.sIx ds.length ds.length hi = ds.length then none else some (.tup (cutD ds lo hi)) := rfl
@[simp] theorem mNewR_ {i : Nat} {f : Ev → Option D} {ρ : Ev} : mNewR i f ρ = (f ρ).bind fun d => if i < ρ.length ∧ isLs d = true then some (.nx (ρ.set i (some d))) else none := rfl
@[simp] theorem mNewRW_ {i : Nat} {f : Ev → Option D} {ρ : Ev} : mNewRW i f ρ = (f ρ).bind fun d => if i < ρ.length ∧ itemsFlat d = true then some (.nx (ρ.set i (some d))) else none := rfl
@[simp] theorem isLs_ {ds : List D} : isLs (.lst ds) = true := rfl
@[simp] theorem itemsFlat_ {ds : List D} : itemsFlat (.lst ds) = flats ds := rfl
theorem flats_ints (ns : List Int) : flats (ns.map .int) = true := by
 induction ns with
 | nil => rfl
 | cons n r ih => simp [flats, ih]
@[simp] theorem flat_line {ns : List Int} : D.flat (.tup (ns.map .int)) = true := by simp [D.flat, flats_ints]
@[simp] theorem flat_non : D.flat .non = true := rfl
@[simp] theorem dIsN_ {x : D} : dIsN x .non = some (.bl (isNon x)) := rfl
@[simp] theorem dNotN_ {x : D} : dNotN x .non = some (.bl (!isNon x)) := rfl
@[simp] theorem isNon_l {ds : List D} : isNon (.lst ds) = false := rfl
@[simp] theorem isNon_t {ds : List D} : isNon (.tup ds) = false := rfl
@[simp] theorem isNon_n : isNon .non = true := rfl
@[simp] theorem dIsi_l {T : String} {ds : List D} : dIsi T (.lst ds) = .bl ("list" == T || ("list" == "bool" && T == "int")) := rfl
@[simp] theorem dIsi_n {T : String} : dIsi T .non = .bl ("NoneType" == T || ("NoneType" == "bool" && T == "int")) := rfl
@[simp] theorem dIsi_t {T : String} {ds : List D} : dIsi T (.tup ds) = .bl ("tuple" == T || ("tuple" == "bool" && T == "int")) := rfl
open PySem L2
abbrev lstI (xs : List Int) : D := .lst (xs.map .int)
def pairD (w : Int → Int → Int) : D → D
 | .tup [.int x, .int y] => .int (w x y)
 | _ => .non
@[simp] theorem pairD_ {w : Int → Int → Int} {x y : Int} : pairD w (.tup [.int x, .int y]) = .int (w x y) := rfl
def intD (g : Int → Int) : D → D
 | .int j => .int (g j)
 | _ => .non
@[simp] theorem intD_ {g : Int → Int} {x : Int} : intD g (.int x) = .int (g x) := rfl
def less (q : Int) (l r : List Int) : List Int := List.zipWith (fun x y => 1 * x + -q * y) l r
section
variable {ρ : Ev} {T : Out → Prop} {i : Nat} {f fa fb : Ev → Option D} {c c1 c2 : Ev → Option Bool} {m1 m2 : Ev → Option Out} {x y d : D} {ds ds' : List D} {g : List D → Option D} {h : D → D → Option D} {fl : Ev → Option (List D)} {P : D → Prop}
theorem set_ (e : f ρ = some d) (k : T (.nx (ρ.set i (some d)))) : Wo (mSet i f ρ) T := by rw [mSet_, e]; exact ⟨_, rfl, k⟩
theorem upd_ {w : List D → D → Option (List D)} (e : f ρ = some d) (ex : ρ[i]?.join = some (.lst ds)) (hw : w ds d = some ds') (k : T (.nx (ρ.set i (some (.lst ds'))))) : Wo (mUpd i w f ρ) T := by rw [mUpd_, e, ex, oB, oB, asL_, oB, hw]; exact ⟨_, rfl, k⟩
theorem fA2 (h1 : fa ρ = some x) (h2 : fb ρ = some y) (e : g [x, y] = some d) : fA g (ze fa (ze fb zj)) ρ = some d := by rw [fA_, fCons_, h1, oB, fCons_, h2]; exact e
theorem f2v (h1 : fa ρ = some x) (h2 : fb ρ = some y) (e : h x y = some d) : f2 h fa fb ρ = some d := by rw [f2_, h1, oB, h2]; exact e
theorem fIxv {k : Int} (h1 : fl ρ = some ds) (h2 : fb ρ = some (.int k)) (e : atI ds k = some d) : fIx fl fb ρ = some d := by rw [fIx_, h1, oB, h2]; exact e
theorem zU {b : Bool} (e : f ρ = some (.bl b)) : zC f ρ = some b := by rw [fTest_, e]; rfl
theorem not_t (e : c ρ = some true) : fNot c ρ = some false := by rw [fNot_, e]; rfl
theorem or_ff (e1 : c1 ρ = some false) (e2 : c2 ρ = some false) : fOr c1 c2 ρ = some false := by rw [fOr_, e1]; exact e2
theorem if_f (e : c ρ = some false) (k : Wo (m2 ρ) T) : Wo (mIf c m1 m2 ρ) T := by rw [mIf_, e]; exact k
theorem andV_t (e1 : fa ρ = some (.bl true)) (e2 : fb ρ = some d) : fAndV fa fb ρ = some d := by rw [fAndV_, e1]; exact e2
theorem ret_ (e : f ρ = some d) (k : P d) : Wo (mRet f ρ) (Back P) := by rw [mRet_, e]; exact ⟨_, rfl, k⟩
theorem tupL (e : f ρ = some (.lst ds)) : fA gTuple (zl true f) ρ = some (.tup ds) := by rw [fA_, fSeq_, e]; rfl
theorem tup1_ (e : f ρ = some d) : fTup (ze f zj) ρ = some (.tup [d]) := by rw [fTup_, fCons_, e]; exact dTup_ (size_of (by simp))
theorem catT_ {xs ys : List D} (h1 : fa ρ = some (.tup xs)) (h2 : fb ρ = some (.tup ys)) (hl : xs.length + ys.length ≤ 1000000) : fCatT fa fb ρ = some (.tup (xs ++ ys)) := by
 rw [fCatT_, fSeq_, h1, oB, asK_f, oB, fSeq_, h2, oB, asK_f, oB]
 exact dTup_ (size_of (by rw [List.length_append]; exact hl))
theorem cutFrom_ {k : Nat} (hl : fl ρ = some ds) (e : f ρ = some (.int (k : Nat))) (hk : 0 < k) (h0 : 0 < ds.length) : fCutT fl (fPart f) fNo ρ = some (.tup (ds.drop k)) := by
 rw [fCutT_, hl, oB, fPart_, e, oB, asI_, Option.map_some, oB, fNo_, oB, if_neg, cutD_from]
 rw [HT.sIx_nat]; omega
theorem seqT (e : f ρ = some (.tup ds)) : zl false f ρ = some ds := by rw [fSeq_, e]; rfl
theorem seqL (e : f ρ = some (.lst ds)) : zl true f ρ = some ds := by rw [fSeq_, e]; rfl
theorem fA1 (h1 : fa ρ = some x) (e : g [x] = some d) : fA g (ze fa zj) ρ = some d := by rw [fA_, fCons_, h1]; exact e
theorem fA3 {fc : Ev → Option D} {z : D} (h1 : fa ρ = some x) (h2 : fb ρ = some y) (h3 : fc ρ = some z) (e : g [x, y, z] = some d) : fA g (ze fa (ze fb (ze fc zj))) ρ = some d := by rw [fA_, fCons_, h1, oB, fCons_, h2, oB, fCons_, h3]; exact e
theorem fA4 {fc fd : Ev → Option D} {z t : D} (h1 : fa ρ = some x) (h2 : fb ρ = some y) (h3 : fc ρ = some z) (h4 : fd ρ = some t) (e : g [x, y, z, t] = some d) : fA g (ze fa (ze fb (ze fc (ze fd zj)))) ρ = some d := by rw [fA_, fCons_, h1, oB, fCons_, h2, oB, fCons_, h3, oB, fCons_, h4]; exact e
theorem f1v {h1 : D → Option D} (e1 : fa ρ = some x) (e : h1 x = some d) : f1 h1 fa ρ = some d := by rw [f1_, e1]; exact e
theorem new_ (e : f ρ = some d) (hi : i < ρ.length) (k : T (.nx (ρ.set i (some d)))) : Wo (mNew i f ρ) T := by rw [mNew_, e]; exact ⟨_, if_pos hi, k⟩
theorem flatv (e : f ρ = some d) (h : d.flat = true) : fFlat f ρ = some d := by rw [fFlat_, e, oB, if_pos h]
theorem ixN_nat {n k : Nat} (h : k < n) : ixN n (k : Int) = some k := by unfold ixN; rw [if_pos (by omega), if_pos (by omega)]; simp
end
section
variable {X : Cx} {fr : Bool} {os ol : List Nat} {pos : Pos}
end
end M
namespace L2
open PySem PySem.Spec PyProof.Rows
section
variable {X : Cx} {pins : List (Addr × Obj)} {σ : St} {H H' : Hp} {s : Shared}
end
end L2
namespace L2
open PySem PySem.Spec PyProof.Rows
section
variable {X : Cx}
end
end L2
namespace L2
open PySem PySem.Spec PyProof.Rows
section
variable {X : Cx} {e : Expr} {te : TE} {g : Str} {p p' kp pos : Pos} {k : Nat} {f : Addr} {fd : FuncData} {p1 : Str} {sp : Sp}
end
end L2
namespace M
open PySem PySem.Spec L2
open PySem.W (Frag)
section
variable {X : Cx} {os : List Nat} {a : Expr} {ta : TE} {ca : Ev → Option (List D)} {p pos p' kp : Pos} {g : Str} {k : Nat} {fn : Addr} {fd : FuncData} {p1 : Str} {m : List D → Option D}
end
end M
namespace L2
open PySem PySem.Spec PyProof.Rows
section
variable {X : Cx}
def rExtendS : V → List V → Hp → VK → Prop := fun x vs H Q => ∃ l b xs zs, x = .ref l ∧ vs = [.ref b] ∧ H l = some (.lst xs) ∧ Rd H b (.lst zs) ∧ l ≠ b ∧ xs.length + zs.length ≤ sizeLine ∧ Q .non (upd H l (.lst (xs ++ zs)))
theorem mt_extendS : MtM X "list.extend" rExtendS := by
 intro pins s σ H x vs v us Q I rx rv h
 obtain ⟨l, b, xs, zs, rfl, rfl, hH, hB, hne, hz, q⟩ := h
 cases rx
 obtain ⟨u, rfl, ru⟩ := rv.one
 cases ru
 obtain ⟨z, its, n, r, hl, e⟩ := I.lstM hH
 obtain ⟨z2, its2, n2, r2, e2⟩ := hB.ok I.hok
 have hl2 := r2.length
 have hsz : its.toArray.size + its2.toArray.size ≤ sizeLine := by rw [List.size_toArray, List.size_toArray]; omega
 have hlong : ¬ (!its.toArray.isEmpty && Builtin.List.listTooLong (its.toArray.size + its2.toArray.size)) = true := by
  rw [notLongL hsz, Bool.and_false]
  exact Bool.false_ne_true
 refine call_meets F.slot_list_extend ⟨_, e, rfl⟩ F.entry_list_extend (F.args_list_extend_2 _ _)
  (AutoSeq1.list_extend_list_list_0 l its.toArray n b its2.toArray n2 hlong (by rw [List.size_toArray]; omega) (by omega)) ⟨e, e2, ?_⟩
 refine ⟨.non, _, I.lset (its' := its ++ its2) hH e (by simp) (r.append r2) ?_, rfl, q⟩
 rw [List.length_append]
 omega
end
end L2
namespace M
open PySem PySem.Spec L2
open PySem.W (Frag)
section
variable {X : Cx} {s : Bool} {os : List Nat} {a : Expr} {ta : TE} {ca : Ev → Option (List D)} {p pos : Pos}
end
def mExt (i : Nat) (f : Ev → Option D) : Ev → Option Out := fun ρ => (f ρ).bind fun d => (asL d).bind fun es => (ρ[i]?.join).bind fun x => (asL x).bind fun ds => if ds.length + es.length ≤ sizeLine then some (.nx (ρ.set i (some (.lst (ds ++ es))))) else none
section
variable {X : Cx} {fr : Bool} {os ol : List Nat} {e ek : Expr} {te tk : TE} {f fk : Ev → Option D} {pos : Pos}
theorem ss_extendS {i : Nat} {x : Str} {p apos cpos : Pos} (h : SE X true os e te f) (ho : i ∈ os := by decide) (hN : X.N[i]? = some x := by rfl) (hv : Vis X.env.scope x := by first | exact Or.inl rfl | exact Or.inr (Or.inl rfl) | exact Or.inr (Or.inr rfl)) (hd : (x == ("__debug__" : Str)) = false := by decide)
  (hcd : (x == ("__classdict__" : Str)) = false := by decide) (hs1 : starEach [e] X.env = (false, eval e X.env) :: starEach [] X.env := by rfl)
  (hbase : attributeBase (.Name x p) "extend" X.env (eval (.Name x p) X.env) = eval (.Name x p) X.env := by rfl)
  (hfew : ((backTo cpos (starEach [e] X.env)).all (fun x => !x.1) && (backToKw cpos (keywordEach [] X.env)).all (fun x => x.1.isSome)
   && decide ([e].length + ([] : List Keyword).length + (if ([] : List Keyword).isEmpty then 0 else 1) < 30)) = true := by rfl)
  (hline : (apos.endLine == cpos.line) = true := by rfl) (hplain : (backTo cpos (starEach [] X.env)).any (·.1) = false := by rfl) (hs : swapsWith (.Call (.Attribute (.Name x p) "extend" apos) [e] [] cpos) none pos.line X.env = pure false := by rfl) :
  SS X fr os os ol (.Expr (.Call (.Attribute (.Name x p) "extend" apos) [e] [] cpos) pos) (tDrop (tBM X.K "list" rExtendS (tVar i) (Za te tNil))) (mExt i f) := ⟨ps_expr (pe_bm PySem.F.plainAttrs_list PySem.F.slot_list_extend PySem.F.type_list_extend mt_extendS (pv i hN hv hd hcd) (zG h.pe Zr hs1) hbase hfew hline hs1 hplain) hs, fun H₀ B₀ σ H ρ o E mm q k => by
 obtain ⟨d, h1, h2⟩ := zb q
 obtain ⟨es, h3, h4⟩ := zb h2
 obtain ⟨y, h5, h6⟩ := zb h4
 obtain ⟨ds, h7, h8⟩ := zb h6
 split at h8
 case isFalse => cases h8
 rename_i hc
 cases h8
 cases y <;> simp only [asL] at h7 <;> cases h7
 cases d <;> simp only [asL] at h3 <;> cases h3
 obtain ⟨a, ob, d', q1, q2, q3, q4, q5⟩ := mm.own i ho
 have h5' := join_get h5
 rw [h5'] at q2; cases q2
 cases ob <;> simp only [Own] at q5
 refine ⟨.ref a, q1, .inl ⟨rfl, _, .inl (.inl q3)⟩, ?_⟩
 refine h.ok H₀ B₀ σ H ρ _ _ mm h1 fun v H1 s1 r1 => ?_
 have r1 : Rep X.K H1 (Bl B₀ os σ) (.lst es) v := r1
 simp only [Rep] at r1
 obtain ⟨b, zs, rfl, hb, hr⟩ := r1
 have hne : a ≠ b := fun z => hb.2 (.inr ⟨i, ho, by rw [← z]; exact q1⟩)
 have q5' := zk.up s1 q5
 refine ⟨a, b, _, _, rfl, rfl, s1 _ _ q3, hb.1, hne, by rw [q5.length, hr.length]; exact hc, k σ _ ?_⟩
 exact (mm.up s1).write ho q1 (o := .lst _) (d := .lst _) (by simp only [Own]; exact q5'.append hr)⟩
end
end M
namespace EV
open PySem L2 M
theorem ret_T {T : Out → Prop} {f : Ev → Option D} {ρ : Ev} {d : D} (e : f ρ = some d) (k : T (.rt d)) : Wo (mRet f ρ) T := by rw [mRet_, e]; exact ⟨_, rfl, k⟩
section
variable {ρ : Ev} {fa fb : Ev → Option (List D)}
theorem catv {xs ys : List D} (h1 : fa ρ = some xs) (h2 : fb ρ = some ys) (hl : xs.length + ys.length ≤ 1000000) : fCat fa fb ρ = some (.lst (xs ++ ys)) := by
 rw [fCat_, h1, oB, h2, oB]
 exact dLst_ (size_of (by rw [List.length_append]; exact hl))
theorem lv {f : Ev → Option D} {xs : List D} (h : f ρ = some (.lst xs)) : fL f ρ = some xs := by rw [fL_, h]; rfl
theorem lst1_ {f : Ev → Option D} {d : D} (e : f ρ = some d) : fLst (ze f zj) ρ = some (.lst [d]) := by rw [fLst_, fCons_, e]; exact dLst_ (size_of (by simp))
end
theorem ints_at : ∀ {l : List D} {P : Nat → Int → Prop}, (∀ (i : Nat) x, l[i]? = some x → ∃ v, x = .int v ∧ P i v) → ∃ vs : List Int, l = vs.map .int ∧ vs.length = l.length ∧ ∀ i, i < l.length → P i (vs.getD i 0)
 | [], _, _ => ⟨[], rfl, rfl, fun i hi => by simp at hi⟩
 | x :: l, P, h => by
  obtain ⟨v, rfl, pv⟩ := h 0 x rfl
  obtain ⟨vs, e1, e2, e3⟩ := ints_at (l := l) (P := fun i => P (i + 1)) fun i y hy => h (i + 1) y (by simpa using hy)
  refine ⟨v :: vs, by rw [e1]; rfl, by simp [e2], fun i hi => ?_⟩
  cases i with
  | zero => exact pv
  | succ i => exact e3 i (by simpa using hi)
theorem fcomp_ints {k : Nat} {fl : Ev → Option (List D)} {u : D → Ev → Option Ev} {c : Ev → Option Bool} {e : Ev → Option D} {ρ : Ev} {ds : List D} (P : Nat → Int → Prop) (I : Ev → Prop) (hfl : fl ρ = some ds) (hm : ds.length ≤ 1000) (h0 : I (ρ ++ List.replicate k none))
  (hs : ∀ (i : Nat) d ρ, ds[i]? = some d → I ρ → Wo (u d ρ) fun ρ1 => c ρ1 = some true ∧ Wo (e ρ1) (fun x => ∃ v, x = .int v ∧ P i v) ∧ I ρ1) : ∃ vs : List Int, fComp k fl u c e ρ = some (lstI vs) ∧ vs.length = ds.length ∧ ∀ i, i < ds.length → P i (vs.getD i 0) := by
 suffices h : Wo (fComp k fl u c e ρ) fun d => ∃ vs : List Int, d = lstI vs ∧ vs.length = ds.length ∧ ∀ i, i < ds.length → P i (vs.getD i 0) by
  obtain ⟨d, e, vs, rfl, q⟩ := h
  exact ⟨vs, e, q⟩
 rw [fComp_, hfl, oB, wo_bind]
 refine wo_compAt I (fun i x => ∃ v, x = .int v ∧ P i v) h0 hs fun xs hx hF => ?_
 obtain ⟨vs, rfl, e2, e3⟩ := ints_at hF
 rw [dLst_ (size_of (by rw [hx]; omega)), zL]
 rw [hx] at e2 e3
 exact ⟨vs, rfl, e2, e3⟩
section
variable {ρ : Ev} {fl ga gb : Ev → Option (List D)} {f f1 f2 f3 f4 : Ev → Option D} {ds xs ys : List D} {d1 d2 d3 d4 : D} {c1 c2 : Ev → Option Bool}
theorem zipv (e1 : ga ρ = some xs) (e2 : gb ρ = some ys) : fZip ga gb ρ = some (zipD xs ys) := by rw [fZip_, e1, oB, e2]; rfl
end
theorem rng1v {f : Ev → Option D} {ρ : Ev} {n : Nat} (h : f ρ = some (.int (n : Nat))) (hn : n ≤ 1000) : fRng1 f ρ = some (rangeD 0 n) := by
 refine Wo.eq ?_
 rw [wo_rng1, h, zL, asI_, zL]
 exact ⟨⟨by omega, by omega⟩, by rw [Int.toNat_natCast]⟩
theorem asg_ {ρ ρ' : Ev} {T : Out → Prop} {f : Ev → Option D} {u : D → Ev → Option Ev} {d : D} (e : f ρ = some d) (eu : u d ρ = some ρ') (k : T (.nx ρ')) : Wo (mAsg u f ρ) T := by rw [mAsg_, e, oB, eu]; exact ⟨_, rfl, k⟩
end EV
namespace M
open PySem PySem.Spec L2
open PySem.W (Frag)
section
variable {K : Frag} {H₀ H : Hp} {B₀ : Addr → Prop} {os os2 : List Nat} {σ : St} {ρ : Ev} {i : Nat} {a : Addr}
end
section
variable {X : Cx} {fr : Bool} {os os2 ol : List Nat} {pos p : Pos} {tg : Expr} {m : Ev → Option Out}
end
end M
namespace L2
open PySem PySem.Spec PyProof.Rows
section
variable {X : Cx} {a : Expr} {ta : TE} {p p2 pos pos2 : Pos}
end
end L2
namespace M
open PySem PySem.Spec L2
open PySem.W (Frag)
section
variable {X : Cx} {os : List Nat} {a : Expr} {ta : TE} {ca : Ev → Option (List D)} {p p2 pos pos2 : Pos} {k : Nat}
end
end M
namespace L2
open PySem PySem.Spec PyProof.Rows
section
variable {κ : Type} [DecidableEq κ]
def valV (kvs : List (κ × V)) (k : κ) : Option V := (kvs.find? fun kv => decide (kv.1 = k)).map (·.2)
def putK (kvs : List (κ × V)) (k : κ) (v : V) : List (κ × V) :=
 if (kvs.any fun kv => decide (kv.1 = k)) = true then kvs.map (fun kv => if kv.1 = k then (kv.1, v) else kv) else kvs ++ [(k, v)]
def dropK (kvs : List (κ × V)) (k : κ) : List (κ × V) := kvs.filter fun kv => decide (kv.1 ≠ k)
theorem valV_pos {p : κ × V} {r : List (κ × V)} {k : κ} (e : p.1 = k) : valV (p :: r) k = some p.2 := by simp [valV, List.find?_cons, e]
theorem valV_neg {p : κ × V} {r : List (κ × V)} {k : κ} (e : ¬ p.1 = k) : valV (p :: r) k = valV r k := by simp [valV, List.find?_cons, e]
theorem RelO.getD {o : Option V} {u : Option Value} {d : V} {d' : Value} (r : RelO o u) (rd : RelV d d') : RelV (o.getD d) (u.getD d') := by
 cases o with
 | none => cases u with
  | none => exact rd
  | some _ => exact (show False from r).elim
 | some _ => cases u with
  | none => exact (show False from r).elim
  | some _ => exact r
theorem KV.val {kvs : List (κ × V)} {vs : List (κ × Value)} (r : KV kvs vs) (k : κ) : RelO (valV kvs k) (valueAt vs k) := by
 unfold KV at r
 induction r with
 | nil => exact True.intro
 | @cons p q ps qs h t ih =>
  obtain ⟨h1, h2⟩ := h
  by_cases e : p.1 = k
  ·have e' : q.1 = k := h1.symm.trans e
   have b : valueAt (q :: qs) k = some q.2 := by simp [valueAt, List.find?_cons, e']
   rw [valV_pos e, b]; exact h2
  ·have e' : ¬ q.1 = k := fun z => e (h1.trans z)
   have b : valueAt (q :: qs) k = valueAt qs k := by simp [valueAt, List.find?_cons, e']
   rw [valV_neg e, b]; exact ih
theorem KV.any {kvs : List (κ × V)} {vs : List (κ × Value)} (r : KV kvs vs) (k : κ) : (kvs.any fun kv => decide (kv.1 = k)) = vs.any fun kv => decide (kv.1 = k) := by
 unfold KV at r
 induction r with
 | nil => rfl
 | cons h t ih => rw [List.any_cons, List.any_cons, ih, h.1]
theorem KV.drop {kvs : List (κ × V)} {vs : List (κ × Value)} (r : KV kvs vs) (k : κ) : KV (dropK kvs k) (without vs k) := by
 unfold KV at r ⊢
 unfold dropK without
 induction r with
 | nil => exact .nil
 | @cons p q ps qs h t ih =>
  obtain ⟨h1, h2⟩ := h
  rw [List.filter_cons, List.filter_cons]
  by_cases e : p.1 = k
  ·have a : ¬ decide (p.1 ≠ k) = true := by simp [e]
   have b : ¬ decide (q.1 ≠ k) = true := by simp [h1.symm.trans e]
   rw [if_neg a, if_neg b]; exact ih
  ·have e' : ¬ q.1 = k := fun z => e (h1.trans z)
   have a : decide (p.1 ≠ k) = true := by simp [e]
   have b : decide (q.1 ≠ k) = true := by simp [e']
   rw [if_pos a, if_pos b]; exact .cons ⟨h1, h2⟩ ih
theorem KV.length {kvs : List (κ × V)} {vs : List (κ × Value)} (r : KV kvs vs) : kvs.length = vs.length := Paired.length r
end
abbrev KT (H : Hp) : List (List Key × V) → List (List Key × Addr × Value) → Prop := Paired fun p q => p.1 = q.1 ∧ H q.2.1 = some (.tup (p.1.map kV)) ∧ RelV p.2 q.2.2
theorem KT.val {H : Hp} {kvs : List (List Key × V)} {xs : List (List Key × Addr × Value)} (r : KT H kvs xs) (k : List Key) : RelO (valV kvs k) ((atKey xs k).map (·.2)) := by
 induction r with
 | nil => exact True.intro
 | @cons p q ps qs h t ih =>
  obtain ⟨h1, _, h2⟩ := h
  by_cases e : p.1 = k
  ·have e' : q.1 = k := h1.symm.trans e
   have b : atKey (q :: qs) k = some q.2 := by simp [atKey, List.find?_cons, e']
   rw [valV_pos e, b]; exact h2
  ·have e' : ¬ q.1 = k := fun z => e (h1.trans z)
   have b : atKey (q :: qs) k = atKey qs k := by simp [atKey, List.find?_cons, e']
   rw [valV_neg e, b]; exact ih
section
variable {P : Program} {w : World} {H : Hp} {h : Heap} {a : Addr}
end
def DGet (H : Hp) (a : Addr) (y : V) (r : Option V) : Prop :=
 (∃ kvs k, Rd H a (.dK kvs) ∧ y = kV k ∧ r = valV kvs k) ∨ ∃ kvs k b, Rd H a (.dT kvs) ∧ y = .ref b ∧ H b = some (.tup (k.map kV)) ∧ r = valV kvs k
def DPut (H : Hp) (a : Addr) (y v : V) (H' : Hp) : Prop :=
 (∃ kvs k, H a = some (.dK kvs) ∧ y = kV k ∧ kvs.length < sizeLine ∧ H' = upd H a (.dK (putK kvs k v))) ∨
 ∃ kvs k b, H a = some (.dT kvs) ∧ y = .ref b ∧ H b = some (.tup (k.map kV)) ∧ kvs.length < sizeLine ∧ H' = upd H a (.dT (putK kvs k v))
theorem DGet.k {H : Hp} {a : Addr} {kvs : List (Key × V)} {k : Key} (e : H a = some (.dK kvs)) : DGet H a (kV k) (valV kvs k) := .inl ⟨kvs, k, .inl e, rfl, rfl⟩
theorem DGet.t {H : Hp} {a b : Addr} {kvs : List (List Key × V)} {k : List Key} (e : H a = some (.dT kvs)) (eb : H b = some (.tup (k.map kV))) : DGet H a (.ref b) (valV kvs k) := .inr ⟨kvs, k, b, .inl e, rfl, eb, rfl⟩
theorem DPut.k {H : Hp} {a : Addr} {kvs : List (Key × V)} {k : Key} {v : V} (e : H a = some (.dK kvs)) (hl : kvs.length < sizeLine) : DPut H a (kV k) v (upd H a (.dK (putK kvs k v))) := .inl ⟨kvs, k, e, rfl, hl, rfl⟩
theorem DPut.t {H : Hp} {a b : Addr} {kvs : List (List Key × V)} {k : List Key} {v : V} (e : H a = some (.dT kvs)) (eb : H b = some (.tup (k.map kV))) (hl : kvs.length < sizeLine) :
  DPut H a (.ref b) v (upd H a (.dT (putK kvs k v))) := .inr ⟨kvs, k, b, e, rfl, eb, hl, rfl⟩
section
variable {X : Cx} {pins : List (Addr × Obj)} {σ : St} {H : Hp} {s : Shared} {a : Addr} {y v : V} {u r : Value} {o : Option V} {A : Around} {E : Value → Shared → Prop}
end
section
variable {X : Cx} {pins : List (Addr × Obj)} {σ : St} {H : Hp} {s : Shared} {a : Addr} {kvs : List (Key × V)} {k : Key} {u : Value} {A : Around} {E : Value → Shared → Prop}
end
section
variable {X : Cx} {o i e value : Expr} {pos pos' tpos : Pos} {td ty tv : TE}
end
section
variable {X : Cx} {pos : Pos}
end
end L2
namespace L2
open PySem PySem.Spec PyProof.Rows
section
variable {X : Cx}
end
end L2
namespace M
open PySem PySem.Spec L2
open PySem.W (Frag)
section
variable {X : Cx} {fr st : Bool} {os os' ol : List Nat} {a : Expr} {ta : TE} {ca : Ev → Option (List D)} {p p' pos pos' : Pos} {k : Nat}
end
end M
namespace L2
open PySem PySem.Spec PyProof.Rows
section
variable {X : Cx} {pins : List (Addr × Obj)} {σ : St} {H : Hp} {s : Shared} {a : Addr}
end
end L2
namespace M
open PySem PySem.Spec L2
open PySem.W (Frag)
theorem Md.forget {K : Frag} {H₀ H : Hp} {B₀ : Addr → Prop} {os : List Nat} {σ : St} {ρ : Ev} (m : Md K H₀ B₀ os σ H ρ) {i : Nat} {v : Option V} (hi : i ∉ os) : Md K H₀ B₀ os (σ.set i v) H (ρ.set i none) := by
 have hb : Bl B₀ os (σ.set i v) = Bl B₀ os σ := bl_eq fun j hj => za fun z => hi (z ▸ hj)
 refine ⟨m.grow, m.blk, by rw [List.length_set, List.length_set]; exact m.len, fun j d q n => ?_, fun j hj => ?_, fun j k a h1 h2 => ?_⟩
 ·have hj : j ≠ i := fun z => by
   subst z
   have := get_set_eq q
   cases this
  rw [za hj] at q
  obtain ⟨w', q1, q2⟩ := m.sh j d q n
  exact ⟨w', by rw [za hj]; exact q1, by rw [hb]; exact q2⟩
 ·have hne : j ≠ i := fun z => hi (z ▸ hj)
  obtain ⟨a, o, d, q1, q2, q3, q4, q5⟩ := m.own j hj
  exact ⟨a, o, d, by rw [za hne]; exact q1, by rw [za hne]; exact q2, q3, q4, by rw [hb]; exact q5⟩
 ·rw [za (show j ≠ i from fun z => hi (z ▸ h1)), za (show k ≠ i from fun z => hi (z ▸ h2))]
  exact m.sep j k a h1 h2
section
variable {X : Cx} {fr : Bool} {i : Nat} {os' ol : List Nat} {rest : List Stmt} {t : TS} {m : Ev → Option Out} {pos : Pos}
end
end M
namespace L2
open PySem PySem.Spec PyProof.Rows
section
variable {prog : Program} {w : World} {A : Around} {R : Result → Shared → Prop} {I : Addr} {fp wr : List Addr} {n : Nat} {P : Nat → Value → Prop} {St : Nat → Heap → Prop}
end
section
variable {X : Cx} {tg : Expr}
end
end L2
namespace M
open PySem PySem.Spec L2
open PySem.W (Frag)
def lookD : List Key → List D → Key → Option D
 | k' :: ks, d :: ds, k => if k' = k then some d else lookD ks ds k
 | _, _, _ => none
section
variable {K : Frag} {H : Hp} {B : Addr → Prop}
end
section
variable {X : Cx} {fr st s : Bool} {os os' ol : List Nat} {o a i e tg : Expr} {td ta ti te : TE} {fo fa fi f : Ev → Option D} {ca : Ev → Option (List D)} {p p' pos pos' : Pos} {k : Nat}
end
theorem _root_.L2.FnOk.no {P : Program} {w : World} {K : Frag} {mg : Str → Option Value} {base : Heap} {k : Nat} {f : Addr} {fd : FuncData} {ps : List Str} : FnOk P w K mg base CX0 k f fd ps (spM K fun _ => none) :=
 ⟨fun _ _ _ _ ⟨_, _, _, _, _, e, _⟩ => (nomatch e), fun _ _ _ _ _ _ _ _ _ _ _ _ _ ⟨_, _, _, _, _, e, _⟩ => (nomatch e)⟩
section
variable {X : Cx} {os os' ol : List Nat} {pos p p1 p2 p3 : Pos} {x : Str} {j q : Nat}
theorem ss_retRow1 (h1 : starEach [.Constant (.str x) j p1, .List [] p2] X.env = (false, eval (.Constant (.str x) j p1) X.env) :: starEach [.List [] p2] X.env := by rfl) (h2 : starEach [.List [] p2] X.env = (false, eval (.List [] p2) X.env) :: starEach [] X.env := by rfl) :
  SS X true os os' ol (.Return (some (.Tuple [.Constant (.str x) j p1, .List [] p2] q p)) pos) (tRet (tTup (Za (tC (.str x)) (Za (tLst tNil) tNil)))) (mRet (fTup (ze (fC (.str x)) (ze (fLst zj) zj)))) :=
 ⟨ps_ret (pe_tup (zG pe_str (zG (pe_lst Zr) Zr h2) h1)), fun H₀ B₀ σ H ρ o E mm qq k => by
 obtain ⟨d, e1, rfl⟩ := map_some qq
 have e2 : fTup (ze (fC (.str x)) (ze (fLst zj) zj)) ρ = some (.tup [.str x, .lst []]) := by
  show (some [D.str x, D.lst []]).bind dTup = _
  rw [oB, dTup, if_pos (by show 2 ≤ sizeLine; decide)]
 rw [e2] at e1; cases e1
 refine ⟨by show 0 ≤ sizeLine; decide, fun a ha => ⟨by show 2 ≤ sizeLine; decide, fun b hb => ?_⟩⟩
 have s1 : zJ H (upd H a (.lst [])) := zy ha
 have s2 : zJ (upd H a (.lst [])) (upd (upd H a (.lst [])) b (.tup [.str x, .ref a])) := zy hb
 refine k _ _ ((mm.up (s1.trans s2)).grow) (mm.up (s1.trans s2)).blk (.inr (.inr ⟨b, x, [a], rfl, rfl, by simp, fun c hc => ?_, zv⟩))
 rw [List.mem_singleton.mp hc]
 exact ⟨mm.grow.free ha, s2 _ _ zv⟩⟩
theorem ss_retRow2 (h1 : starEach [.Constant (.str x) j p1, .List [] p2, .List [] p3] X.env = (false, eval (.Constant (.str x) j p1) X.env) :: starEach [.List [] p2, .List [] p3] X.env := by rfl) (h2 : starEach [.List [] p2, .List [] p3] X.env = (false, eval (.List [] p2) X.env) :: starEach [.List [] p3] X.env := by rfl)
  (h3 : starEach [.List [] p3] X.env = (false, eval (.List [] p3) X.env) :: starEach [] X.env := by rfl) :
  SS X true os os' ol (.Return (some (.Tuple [.Constant (.str x) j p1, .List [] p2, .List [] p3] q p)) pos) (tRet (tTup (Za (tC (.str x)) (Za (tLst tNil) (Za (tLst tNil) tNil))))) (mRet (fTup (ze (fC (.str x)) (ze (fLst zj) (ze (fLst zj) zj))))) :=
 ⟨ps_ret (pe_tup (zG pe_str (zG (pe_lst Zr) (zG (pe_lst Zr) Zr h3) h2) h1)), fun H₀ B₀ σ H ρ o E mm qq k => by
 obtain ⟨d, e1, rfl⟩ := map_some qq
 have e2 : fTup (ze (fC (.str x)) (ze (fLst zj) (ze (fLst zj) zj))) ρ = some (.tup [.str x, .lst [], .lst []]) := by
  show (some [D.str x, D.lst [], D.lst []]).bind dTup = _
  rw [oB, dTup, if_pos (by show 3 ≤ sizeLine; decide)]
 rw [e2] at e1; cases e1
 refine ⟨by show 0 ≤ sizeLine; decide, fun a ha => ⟨by show 0 ≤ sizeLine; decide, fun a2 ha2 => ⟨by show 3 ≤ sizeLine; decide, fun b hb => ?_⟩⟩⟩
 have s1 : zJ H (upd H a (.lst [])) := zy ha
 have s2 : zJ (upd H a (.lst [])) (upd (upd H a (.lst [])) a2 (.lst [])) := zy ha2
 have s3 : zJ (upd (upd H a (.lst [])) a2 (.lst [])) (upd (upd (upd H a (.lst [])) a2 (.lst [])) b (.tup [.str x, .ref a, .ref a2])) := zy hb
 have ne : a ≠ a2 := fun z => by rw [← z, zv] at ha2; cases ha2
 refine k _ _ ((mm.up ((s1.trans s2).trans s3)).grow) (mm.up ((s1.trans s2).trans s3)).blk (.inr (.inr ⟨b, x, [a, a2], rfl, rfl, by simp [ne], fun c hc => ?_, zv⟩))
 rcases List.mem_cons.mp hc with rfl | hc
 ·exact ⟨mm.grow.free ha, s3 _ _ (s2 _ _ zv)⟩
 ·rw [List.mem_singleton.mp hc]
  exact ⟨mm.grow.free (s1.free ha2), s3 _ _ zv⟩⟩
end
structure Fr where
 done : List D
 x : Str
 pre : List D
 post : List D
def shut (f : Fr) (top : List D) : List D := f.done ++ [.tup (.str f.x :: (f.pre ++ .lst top :: f.post))]
def close : List D → List Fr → List D
 | top, [] => top
 | top, f :: fs => close (shut f top) fs
def Ch (K : Frag) (H : Hp) (B : Addr → Prop) : List Fr → Addr → List Addr → Prop
 | [], _, [] => True
 | f :: fs, a, a' :: as => (∃ (vs pv qv : List V) (b : Addr), H a' = some (.lst (vs ++ [.ref b])) ∧ zk K H B f.done vs ∧ H b = some (.tup (.str f.x :: (pv ++ .ref a :: qv))) ∧ zk K H B f.pre pv ∧ zk K H B f.post qv) ∧ Ch K H B fs a' as
 | _, _, _ => False
theorem Ch.len {K : Frag} {H : Hp} {B : Addr → Prop} : ∀ {fs : List Fr} {a : Addr} {as : List Addr}, Ch K H B fs a as → fs.length = as.length
 | [], _, [], _ => rfl
 | f :: fs, a, a' :: as, h => by simp only [List.length_cons]; rw [Ch.len h.2]
 | [], _, _ :: _, h => by cases h
 | _ :: _, _, [], h => by cases h
theorem Ch.mv {K : Frag} {H H' : Hp} {B B' : Addr → Prop} (g : Goes H H' B B') : ∀ {fs : List Fr} {a : Addr} {as : List Addr}, (∀ x ∈ as, ∀ o, H x = some o → H' x = some o) → (∀ b xs, H b = some (.tup xs) → H' b = some (.tup xs)) → Ch K H B fs a as → Ch K H' B' fs a as
 | [], _, [], _, _, _ => trivial
 | f :: fs, a, a' :: as, h1, h2, ⟨⟨vs, pv, qv, b, q1, q2, q3, q4, q5⟩, r⟩ =>
  ⟨⟨vs, pv, qv, b, h1 a' List.mem_cons_self _ q1, zk.goes g _ _ q2, h2 _ _ q3, zk.goes g _ _ q4, zk.goes g _ _ q5⟩, Ch.mv g (fun x hx => h1 x (List.mem_cons_of_mem _ hx)) h2 r⟩
 | [], _, _ :: _, _, _, h => by cases h
 | _ :: _, _, [], _, _, h => by cases h
def Bo (B₀ : Addr → Prop) (w a : Addr) (as : List Addr) : Addr → Prop := fun x => B₀ x ∨ x ∈ w :: a :: as
structure Zp (K : Frag) (H₀ : Hp) (B₀ : Addr → Prop) (H : Hp) (w a : Addr) (as : List Addr) (top : List D) (fs : List Fr) : Prop where
 whr : H w = some (.lst ((as.reverse ++ [a]).map V.ref))
 top : ∃ vs, H a = some (.lst vs) ∧ zk K H (Bo B₀ w a as) top vs
 ch : Ch K H (Bo B₀ w a as) fs a as
 nd : (w :: a :: as).Nodup
 new : ∀ x ∈ w :: a :: as, H₀ x = none ∧ ¬ B₀ x
section
variable {K : Frag} {H₀ H H1 : Hp} {B₀ : Addr → Prop} {w a : Addr} {as : List Addr} {top : List D} {fs : List Fr}
theorem Ch.track {B : Addr → Prop} : ∀ {fs : List Fr} {a : Addr} {as : List Addr}, Ch K H B fs a as → ∀ x ∈ as, ∃ xs, H x = some (.lst xs)
 | f :: fs, a, a' :: as, ⟨⟨vs, pv, qv, b, q1, _⟩, r⟩, x, hx => by
  rcases List.mem_cons.mp hx with rfl | hx
  ·exact ⟨_, q1⟩
  ·exact Ch.track r x hx
 | [], _, [], _, x, hx => by cases hx
 | [], _, _ :: _, h, _, _ => by cases h
 | _ :: _, _, [], h, _, _ => by cases h
theorem Zp.track (z : Zp K H₀ B₀ H w a as top fs) : ∀ x ∈ w :: a :: as, ∃ xs, H x = some (.lst xs) := fun x hx => by
 rcases List.mem_cons.mp hx with rfl | hx
 ·exact ⟨_, z.whr⟩
 ·rcases List.mem_cons.mp hx with rfl | hx
  ·obtain ⟨vs, h, _⟩ := z.top; exact ⟨_, h⟩
  ·exact z.ch.track x hx
theorem reps_reps {B : Addr → Prop} {ls : List Addr} (h : ∀ c ∈ ls, H c = some (.lst []) ∧ ¬ B c) : zk K H B (ls.map fun _ => D.lst []) (ls.map V.ref) := by
 induction ls with
 | nil => exact .nil
 | cons c ls ih =>
  refine .cons ?_ (ih fun x hx => h x (List.mem_cons_of_mem _ hx))
  simp only [Rep]
  exact ⟨c, [], rfl, ⟨.inl (h c List.mem_cons_self).1, (h c List.mem_cons_self).2⟩, .nil⟩
theorem Zp.open (z : Zp K H₀ B₀ H w a as top fs) (gr : zJ H₀ H) (hb0 : ∀ x, B₀ x → ∃ o, H x = some o) (s : zJ H H1) {vs : List V} (hv : H a = some (.lst vs)) {b : Addr} {x : Str} {l1 l2 : List Addr} {c : Addr} (hnd : (l1 ++ c :: l2).Nodup) (hl : ∀ e ∈ l1 ++ c :: l2, H e = none ∧ H1 e = some (.lst [])) (hb : H1 b = some (.tup (.str x :: (l1 ++ c :: l2).map V.ref))) :
  Zp K H₀ B₀ (upd (upd H1 a (.lst (vs ++ [.ref b]))) w (.lst (((as.reverse ++ [a]) ++ [c]).map V.ref))) w c (a :: as) [] (⟨top, x, l1.map fun _ => .lst [], l2.map fun _ => .lst []⟩ :: fs) ∧ Goes H (upd (upd H1 a (.lst (vs ++ [.ref b]))) w (.lst (((as.reverse ++ [a]) ++ [c]).map V.ref))) (Bo B₀ w a as) (Bo B₀ w c (a :: as)) := by
 have nd := z.nd
 have hwa : w ≠ a := fun e => by rw [e] at nd; simp at nd
 have haas : a ∉ as := by rw [List.nodup_cons, List.nodup_cons] at nd; exact nd.2.1
 have hwas : w ∉ as := by rw [List.nodup_cons] at nd; exact fun q => nd.1 (List.mem_cons_of_mem _ q)
 have fresh : ∀ e ∈ l1 ++ c :: l2, e ∉ w :: a :: as := fun e he hm => by
  obtain ⟨xs, q⟩ := z.track e hm
  rw [(hl e he).1] at q; cases q
 have hc : c ∈ l1 ++ c :: l2 := by simp
 have hcw : c ≠ w := fun e => fresh c hc (by rw [e]; simp)
 have hca : c ≠ a := fun e => fresh c hc (by rw [e]; simp)
 have hnB : ∀ e ∈ l1 ++ c :: l2, ¬ B₀ e := fun e he q => by
  obtain ⟨o, h⟩ := hb0 e q
  rw [(hl e he).1] at h; cases h
 generalize hH3 : upd (upd H1 a (.lst (vs ++ [.ref b]))) w (.lst (((as.reverse ++ [a]) ++ [c]).map V.ref)) = H3
 have at3 : ∀ e, e ≠ w → e ≠ a → H3 e = H1 e := fun e h1 h2 => by rw [← hH3, zA h1, zA h2]
 have a3 : H3 a = some (.lst (vs ++ [.ref b])) := by rw [← hH3, zA (Ne.symm hwa), zv]
 have w3 : H3 w = some (.lst (((as.reverse ++ [a]) ++ [c]).map V.ref)) := by rw [← hH3, zv]
 have hbn : b ≠ w ∧ b ≠ a := by
  refine ⟨fun e => ?_, fun e => ?_⟩
  ·rw [e, s _ _ z.whr] at hb; cases hb
  ·rw [e, s _ _ hv] at hb; cases hb
 have tups : ∀ e xs, H e = some (.tup xs) → H3 e = some (.tup xs) := fun e xs h => by
  rw [at3 e (fun q => by rw [q, z.whr] at h; cases h) (fun q => by rw [q, hv] at h; cases h)]
  exact s _ _ h
 have g : Goes H H3 (Bo B₀ w a as) (Bo B₀ w c (a :: as)) := by
  have g1 : Goes H H1 (Bo B₀ w a as) (fun e => Bo B₀ w a as e ∨ e = c) := .fresh (hl c hc).1 s
  have g2 : Goes H1 (upd H1 a (.lst (vs ++ [.ref b]))) (fun e => Bo B₀ w a as e ∨ e = c) (fun e => Bo B₀ w a as e ∨ e = c) := .write (.inl (.inr (by simp))) (s _ _ hv) trivial
  have g3 : Goes (upd H1 a (.lst (vs ++ [.ref b]))) H3 (fun e => Bo B₀ w a as e ∨ e = c) (fun e => Bo B₀ w a as e ∨ e = c) := by
   rw [← hH3]
   exact .write (u := .lst ((as.reverse ++ [a]).map V.ref)) (.inl (.inr (by simp))) (by rw [zA hwa]; exact s _ _ z.whr) trivial
  have less : ∀ e, Bo B₀ w c (a :: as) e → Bo B₀ w a as e ∨ e = c := fun e h => by
   rcases h with h | h
   ·exact .inl (.inl h)
   ·rcases List.mem_cons.mp h with rfl | h
    ·exact .inl (.inr (by simp))
    ·rcases List.mem_cons.mp h with rfl | h
     ·exact .inr rfl
     ·exact .inl (.inr (List.mem_cons_of_mem _ h))
  exact ⟨fun e xs q => g3.tup _ _ (g2.tup _ _ (g1.tup _ _ q)), fun e xs q n => by
   obtain ⟨q1, n1⟩ := g1.lst e xs q n
   obtain ⟨q2, n2⟩ := g2.lst e xs q1 n1
   obtain ⟨q3, n3⟩ := g3.lst e xs q2 n2
   exact ⟨q3, fun z => n3 (less e z)⟩, fun e xs q n => by
   obtain ⟨q1, n1⟩ := g1.dct e xs q n
   obtain ⟨q2, n2⟩ := g2.dct e xs q1 n1
   obtain ⟨q3, n3⟩ := g3.dct e xs q2 n2
   exact ⟨q3, fun z => n3 (less e z)⟩, fun e o u q => g3.frz _ _ _ (g2.frz _ _ _ (g1.frz _ _ _ q)), fun e xs q => g3.tkt _ _ (g2.tkt _ _ (g1.tkt _ _ q))⟩
 obtain ⟨vs', h1, h2⟩ := z.top
 rw [hv] at h1; cases h1
 have side : ∀ e ∈ l1 ++ c :: l2, e ≠ c → H3 e = some (.lst []) ∧ ¬ Bo B₀ w c (a :: as) e := fun e he hne => by
  have f := fresh e he
  refine ⟨by rw [at3 e (fun q => f (by rw [q]; simp)) (fun q => f (by rw [q]; simp))]; exact (hl e he).2, fun q => ?_⟩
  rcases q with q | q
  ·exact hnB e he q
  ·rcases List.mem_cons.mp q with q | q
   ·exact f (by rw [q]; simp)
   ·rcases List.mem_cons.mp q with q | q
    ·exact hne q
    ·exact f (List.mem_cons_of_mem _ q)
 have nd1 : ∀ e ∈ l1, e ≠ c := fun e he q => by
  rw [List.nodup_append] at hnd
  exact hnd.2.2 e he c (by simp) q
 have nd2 : ∀ e ∈ l2, e ≠ c := fun e he q => by
  rw [List.nodup_append] at hnd
  have := hnd.2.1
  rw [List.nodup_cons] at this
  exact this.1 (q ▸ he)
 refine ⟨?_, g⟩
 refine ⟨?_, ⟨[], by rw [at3 c hcw hca]; exact (hl c hc).2, .nil⟩, ⟨⟨vs, l1.map V.ref, l2.map V.ref, b, a3, zk.goes g _ _ h2, ?_, ?_, ?_⟩, z.ch.mv g (fun e he o h => ?_) tups⟩, ?_, fun e he => ?_⟩
 ·rw [w3]; simp
 ·rw [at3 b hbn.1 hbn.2, hb]; simp
 ·exact reps_reps fun e he => side e (by simp [he]) (nd1 e he)
 ·exact reps_reps fun e he => side e (by simp [he]) (nd2 e he)
 ·rw [at3 e (fun q => hwas (q ▸ he)) (fun q => haas (q ▸ he))]; exact s _ _ h
 ·rw [List.nodup_cons, List.nodup_cons] at nd
  rw [List.nodup_cons, List.nodup_cons, List.nodup_cons]
  refine ⟨fun q => ?_, fun q => ?_, nd.2.1, nd.2.2⟩
  ·rcases List.mem_cons.mp q with q | q
   ·exact hcw q.symm
   ·exact nd.1 q
  ·exact fresh c hc (List.mem_cons_of_mem _ q)
 ·rcases List.mem_cons.mp he with rfl | he
  ·exact z.new _ (by simp)
  ·rcases List.mem_cons.mp he with rfl | he
   ·exact ⟨gr.free (hl _ hc).1, hnB _ hc⟩
   ·exact z.new e (List.mem_cons_of_mem _ he)
end
def openNames : List V := [.str "loop", .str "either"]
def emp (n : Nat) : List D := List.replicate n (.lst [])
def stepZ (c : Int) (d : D) (top : List D) (fs : List Fr) : Option (List D × List Fr) := match d with
 | .tup (.str x :: ps) => if top.length < sizeLine then
   if inV (.str x) openNames = true ∧ fs.length + 1 < 4 then
    (if 0 < ps.length ∧ x = x ∧ ps.all (fun d => match d with | .lst [] => true | _ => false) = true then
     some ([], ⟨top, x, emp (c / 32 % (ps.length : Nat)).toNat, emp (ps.length - 1 - (c / 32 % (ps.length : Nat)).toNat)⟩ :: fs) else none)
   else if c % 4 = 0 then (match fs with
    | f :: fs' => some (shut f (top ++ [d]), fs')
    | [] => some (top ++ [d], []))
   else some (top ++ [d], fs)
  else none
 | _ => none
abbrev lenR (K : Frag) : List V → Hp → VK → Prop := fun xs H Q => ∃ p ys, xs = [.ref p] ∧ (SqL K H p ys ∨ SqT K H p ys) ∧ Q (.int ys.length) H
theorem bl_nil {B₀ : Addr → Prop} {σ : St} : Bl B₀ [] σ = B₀ := by
 funext a
 refine propext ⟨fun h => ?_, Or.inl⟩
 rcases h with h | ⟨i, hi, _⟩
 ·exact h
 ·cases hi
theorem Md.base {K : Frag} {H₀ H : Hp} {B₀ : Addr → Prop} {σ : St} {ρ : Ev} (m : Md K H₀ B₀ [] σ H ρ) : Md K H B₀ [] σ H ρ :=
 ⟨.refl H, m.blk, m.len, m.sh, fun i hi => (by cases hi), fun i j a hi => by cases hi⟩
theorem Md.go {K : Frag} {H₀ H H' : Hp} {B B' : Addr → Prop} {σ : St} {ρ : Ev} (m : Md K H₀ B [] σ H ρ) (g : Goes H H' B B') (s : zJ H₀ H') (hb : ∀ a, B' a → ∃ o, H' a = some o) : Md K H₀ B' [] σ H' ρ :=
 ⟨s, hb, m.len, fun i d q n => by
  obtain ⟨v, h1, h2⟩ := m.sh i d q n
  rw [bl_nil] at h2 ⊢
  exact ⟨v, h1, Rep.goes g _ _ h2⟩, fun i hi => (by cases hi), fun i j a hi => by cases hi⟩
theorem atI_last {xs : List V} {x : V} : atI (xs ++ [x]) (-1) = some x := by
 unfold atI ixN
 rw [if_neg (by omega), if_pos (by simp; omega)]
 have : ((-1 : Int) + ((xs ++ [x]).length : Nat)).toNat = xs.length := by rw [List.length_append, List.length_singleton]; omega
 rw [this, oB]
 simp
theorem all_emp {ps : List D} (h : ps.all (fun d => match d with | .lst [] => true | _ => false) = true) : ∀ d ∈ ps, d = .lst [] := fun d hd => by
 have := List.all_eq_true.mp h d hd
 cases d <;> try (simp at this)
 rename_i xs
 cases xs with
 | nil => rfl
 | cons _ _ => simp at this
section
variable {K : Frag} {te : TE} {f : Ev → Option D} {H : Hp} {B₀ : Addr → Prop} {ρ : Ev} {p : Addr} {top top' : List D} {fs fs' : List Fr} {c : Int} {d : D} {N : St → Hp → Prop} {E : Ends}
theorem ifT {P Q : Prop} (h : P) : if true = true then P else Q := by rw [if_pos rfl]; exact h
theorem ifF {P Q : Prop} (h : Q) : if false = true then P else Q := by rw [if_neg Bool.false_ne_true]; exact h
end
end M
namespace L2
open PySem PySem.Spec PyProof.Rows
section
variable {X : Cx}
end
end L2
namespace M
open PySem PySem.Spec L2
open PySem.W (Frag)
section
variable {X : Cx} {st : Bool} {os : List Nat} {a b e o : Expr} {ta tb te to : TE} {fa fb fe fo : Ev → Option D} {p pos : Pos} {k : Nat}
end
theorem goes_own {H H' : Hp} {B B' O : Addr → Prop} (h1 : ∀ e o, H e = some o → ¬ O e → H' e = some o) (hO : ∀ e, O e → H e = none ∨ ∃ xs, H e = some (.lst xs)) (hOB : ∀ e xs, O e → H e = some (.lst xs) → B e) (hB : ∀ e, B' e → B e ∨ H e = none) : Goes H H' B B' := by
 have no : ∀ e o, H e = some o → (∀ xs, o ≠ .lst xs) → ¬ O e := fun e o q n z => by
  rcases hO e z with h | ⟨xs, h⟩
  ·rw [h] at q; cases q
  ·rw [h] at q; cases q; exact n xs rfl
 refine ⟨fun a xs q => ?_, fun a xs q n => ⟨?_, fun z => ?_⟩, fun a kvs q n => ⟨?_, fun z => ?_⟩, fun a o u q => h1 _ _ q (no _ _ q fun xs z => by cases z), fun a xs q => h1 _ _ q (no _ _ q fun xs z => by cases z)⟩
 ·rcases q with q | ⟨o, q⟩
  ·exact .inl (h1 _ _ q (no _ _ q fun xs z => by cases z))
  ·exact .inr ⟨o, h1 _ _ q (no _ _ q fun xs z => by cases z)⟩
 ·rcases q with q | ⟨o, q⟩
  ·exact .inl (h1 _ _ q fun z => n (hOB _ _ z q))
  ·exact .inr ⟨o, h1 _ _ q (no _ _ q fun xs z => by cases z)⟩
 ·rcases hB a z with h | h
  ·exact n h
  ·rcases q with q | ⟨o, q⟩ <;> (rw [h] at q; cases q)
 ·exact h1 _ _ q (no _ _ q fun xs z => by cases z)
 ·rcases hB a z with h | h
  ·exact n h
  ·rw [h] at q; cases q
structure Lv where
 a : Addr
 q : Addr
 ps : List Addr
def Lv.own (l : Lv) : List Addr := l.a :: l.q :: l.ps
def owns (w : Addr) (ls : List Lv) : List Addr := w :: ls.flatMap Lv.own
def Bq (B₀ : Addr → Prop) (w : Addr) (ls : List Lv) : Addr → Prop := fun x => B₀ x ∨ x ∈ owns w ls
def Lv.ok (H : Hp) (l : Lv) : Prop := H l.q = some (.lst ((l.a :: l.ps).map V.ref)) ∧ ∀ p ∈ l.ps, H p = some (.lst [])
def Cq (K : Frag) (H : Hp) (B : Addr → Prop) : List Fr → List Lv → Prop
 | [], [_] => True
 | f :: fs, l :: l' :: ls => (∃ (vs pv : List V) (b : Addr), H l'.a = some (.lst (vs ++ [.ref b])) ∧ zk K H B f.done vs ∧ H b = some (.tup (.str f.x :: (pv ++ (l.a :: l.ps).map V.ref))) ∧ zk K H B f.pre pv ∧ f.post = l.ps.map fun _ => D.lst []) ∧ Cq K H B fs (l' :: ls)
 | _, _ => False
structure Zq (K : Frag) (H₀ : Hp) (B₀ : Addr → Prop) (H : Hp) (w : Addr) (l : Lv) (ls : List Lv) (top : List D) (fs : List Fr) : Prop where
 whr : H w = some (.lst (((l :: ls).reverse).map fun x => V.ref x.q))
 top : ∃ vs, H l.a = some (.lst vs) ∧ zk K H (Bq B₀ w (l :: ls)) top vs
 lv : ∀ x ∈ l :: ls, x.ok H
 ch : Cq K H (Bq B₀ w (l :: ls)) fs (l :: ls)
 nd : (owns w (l :: ls)).Nodup
 new : ∀ x ∈ owns w (l :: ls), H₀ x = none ∧ ¬ B₀ x
theorem Cq.len {K : Frag} {H : Hp} {B : Addr → Prop} : ∀ {fs : List Fr} {ls : List Lv}, Cq K H B fs ls → ls.length = fs.length + 1
 | [], [_], _ => rfl
 | f :: fs, l :: l' :: ls, h => by simp only [List.length_cons]; have := Cq.len h.2; simp only [List.length_cons] at this; omega
 | [], [], h => by cases h
 | [], _ :: _ :: _, h => by cases h
 | _ :: _, [], h => by cases h
 | _ :: _, [_], h => by cases h
theorem Cq.mv {K : Frag} {H H' : Hp} {B B' : Addr → Prop} (g : Goes H H' B B') : ∀ {fs : List Fr} {l : Lv} {ls : List Lv}, (∀ x ∈ ls, ∀ o, H x.a = some o → H' x.a = some o) → Cq K H B fs (l :: ls) → Cq K H' B' fs (l :: ls)
 | [], l, [], _, _ => trivial
 | f :: fs, l, l' :: ls, h1, ⟨⟨vs, pv, b, q1, q2, q3, q4, q5⟩, r⟩ =>
  ⟨⟨vs, pv, b, h1 l' List.mem_cons_self _ q1, zk.goes g _ _ q2, g.tkt _ _ q3, zk.goes g _ _ q4, q5⟩, Cq.mv g (fun x hx => h1 x (List.mem_cons_of_mem _ hx)) r⟩
 | [], _, _ :: _, _, h => by cases h
 | _ :: _, _, [], _, h => by cases h
theorem Cq.track {K : Frag} {H : Hp} {B : Addr → Prop} : ∀ {fs : List Fr} {l : Lv} {ls : List Lv}, Cq K H B fs (l :: ls) → ∀ x ∈ ls, ∃ xs, H x.a = some (.lst xs)
 | f :: fs, l, l' :: ls, ⟨⟨vs, pv, b, q1, _⟩, r⟩, x, hx => by
  rcases List.mem_cons.mp hx with rfl | hx
  ·exact ⟨_, q1⟩
  ·exact Cq.track r x hx
 | [], _, [], _, x, hx => by cases hx
 | [], _, _ :: _, h, _, _ => by cases h
 | _ :: _, _, [], h, _, _ => by cases h
section
variable {K : Frag} {H₀ H H' H1 : Hp} {B₀ : Addr → Prop} {w : Addr} {l : Lv} {ls : List Lv} {top : List D} {fs : List Fr}
theorem zR {x : Addr} {ls : List Lv} : x ∈ owns w ls ↔ x = w ∨ ∃ l ∈ ls, x = l.a ∨ x = l.q ∨ x ∈ l.ps := by
 unfold owns
 rw [List.mem_cons, List.mem_flatMap]
 simp only [Lv.own, List.mem_cons]
theorem Zq.lists (z : Zq K H₀ B₀ H w l ls top fs) : ∀ x ∈ owns w (l :: ls), ∃ xs, H x = some (.lst xs) := fun x hx => by
 rcases zR.mp hx with rfl | ⟨v, hv, rfl | rfl | hp⟩
 ·exact ⟨_, z.whr⟩
 ·rcases List.mem_cons.mp hv with rfl | hv
  ·obtain ⟨vs, h, _⟩ := z.top; exact ⟨_, h⟩
  ·exact z.ch.track v hv
 ·exact ⟨_, (z.lv v hv).1⟩
 ·exact ⟨_, (z.lv v hv).2 x hp⟩
theorem Zq.up (z : Zq K H₀ B₀ H w l ls top fs) (s : zJ H H1) : Zq K H₀ B₀ H1 w l ls top fs :=
 ⟨s _ _ z.whr, (by obtain ⟨vs, h1, h2⟩ := z.top; exact ⟨vs, s _ _ h1, h2.up s⟩), fun x hx => ⟨s _ _ (z.lv x hx).1, fun p hp => s _ _ ((z.lv x hx).2 p hp)⟩, z.ch.mv (.same s) (fun x _ o h => s _ _ h), z.nd, z.new⟩
theorem nodup_l (h : (owns w (l :: ls)).Nodup) : w ≠ l.a ∧ w ≠ l.q ∧ l.a ≠ l.q ∧ w ∉ l.ps ∧ l.a ∉ l.ps ∧ l.q ∉ l.ps ∧ l.ps.Nodup ∧ (owns w ls).Nodup ∧ ∀ v ∈ ls, ∀ x, (x = v.a ∨ x = v.q ∨ x ∈ v.ps) → x ≠ l.a ∧ x ≠ l.q ∧ x ∉ l.ps ∧ x ≠ w := by
 unfold owns at h
 rw [List.flatMap_cons] at h
 have hw := List.nodup_cons.mp h
 have hl := List.nodup_append.mp hw.2
 have h1 := List.nodup_cons.mp hl.1
 have h2 := List.nodup_cons.mp h1.2
 have hm : ∀ v ∈ ls, ∀ x, (x = v.a ∨ x = v.q ∨ x ∈ v.ps) → x ∈ ls.flatMap Lv.own := fun v hv x hx => List.mem_flatMap.mpr ⟨v, hv, by simp only [Lv.own, List.mem_cons]; exact hx⟩
 refine ⟨fun e => hw.1 (by simp [Lv.own, e]), fun e => hw.1 (by simp [Lv.own, e]), fun e => h1.1 (by simp [e]), fun e => hw.1 (by simp [Lv.own, e]), fun e => h1.1 (by simp [e]), h2.1, h2.2, List.nodup_cons.mpr ⟨fun e => hw.1 (List.mem_append.mpr (.inr e)), hl.2.1⟩, fun v hv x hx => ⟨fun e => ?_, fun e => ?_, fun e => ?_, fun e => ?_⟩⟩
 ·exact hl.2.2 l.a (by simp [Lv.own]) x (hm v hv x hx) e.symm
 ·exact hl.2.2 l.q (by simp [Lv.own]) x (hm v hv x hx) e.symm
 ·exact hl.2.2 x (by simp [Lv.own, e]) x (hm v hv x hx) rfl
 ·exact hw.1 (List.mem_append.mpr (.inr (e ▸ hm v hv x hx)))
theorem Zq.add (z : Zq K H₀ B₀ H w l ls top fs) {vs : List V} {d : D} {v : V} (hv : H l.a = some (.lst vs)) (hd : Rep K H (Bq B₀ w (l :: ls)) d v) (ha : H' l.a = some (.lst (vs ++ [v]))) (hn : ∀ e o, H e = some o → e ≠ l.a → H' e = some o) : Zq K H₀ B₀ H' w l ls (top ++ [d]) fs := by
 obtain ⟨wa, wq, aq, wp, ap, qp, pn, _, out⟩ := nodup_l z.nd
 have g : Goes H H' (Bq B₀ w (l :: ls)) (Bq B₀ w (l :: ls)) := goes_own (O := fun e => e = l.a) hn (fun e he => by rw [he]; exact .inr ⟨_, hv⟩) (fun e xs he _ => .inr (by rw [he]; exact zR.mpr (.inr ⟨l, by simp, .inl rfl⟩))) (fun e he => .inl he)
 obtain ⟨vs', h1, h2⟩ := z.top
 rw [hv] at h1; cases h1
 refine ⟨hn _ _ z.whr wa, ⟨_, ha, (zk.goes g _ _ h2).append (.one (Rep.goes g _ _ hd))⟩, fun x hx => ?_, z.ch.mv g (fun x hx o h => hn _ _ h (out x hx x.a (.inl rfl)).1), z.nd, z.new⟩
 rcases List.mem_cons.mp hx with rfl | hx'
 ·exact ⟨hn _ _ (z.lv x hx).1 (Ne.symm aq), fun p hp => hn _ _ ((z.lv x hx).2 p hp) fun e => ap (e ▸ hp)⟩
 ·exact ⟨hn _ _ (z.lv x hx).1 (out x hx' _ (.inr (.inl rfl))).1, fun p hp => hn _ _ ((z.lv x hx).2 p hp) (out x hx' p (.inr (.inr hp))).1⟩
theorem Zq.push (z : Zq K H₀ B₀ H w l ls top fs) (gr : zJ H₀ H) (hb0 : ∀ x, B₀ x → ∃ o, H x = some o) {vs : List V} (hv : H l.a = some (.lst vs)) {b q c : Addr} {x : Str} {cs : List Addr} (hnd : (c :: q :: cs).Nodup) (fr : ∀ e ∈ c :: q :: cs, H e = none)
  (ha : H' l.a = some (.lst (vs ++ [.ref b]))) (hb : H' b = some (.tup (.str x :: (c :: cs).map V.ref))) (hq : H' q = some (.lst ((c :: cs).map V.ref))) (hc : ∀ e ∈ c :: cs, H' e = some (.lst [])) (hw : H' w = some (.lst (((l :: ls).reverse).map (fun x => V.ref x.q) ++ [.ref q]))) (hn : ∀ e o, H e = some o → e ≠ l.a → e ≠ w → H' e = some o) :
  Zq K H₀ B₀ H' w ⟨c, q, cs⟩ (l :: ls) [] (⟨top, x, [], cs.map fun _ => .lst []⟩ :: fs) ∧ Goes H H' (Bq B₀ w (l :: ls)) (Bq B₀ w (⟨c, q, cs⟩ :: l :: ls)) := by
 obtain ⟨wa, wq, aq, wp, ap, qp, pn, _, out⟩ := nodup_l z.nd
 have mem' : ∀ e, e ∈ owns w (⟨c, q, cs⟩ :: l :: ls) ↔ e ∈ owns w (l :: ls) ∨ e ∈ c :: q :: cs := fun e => by
  rw [zR, zR]
  constructor
  ·rintro (h | ⟨v, hv, h⟩)
   ·exact .inl (.inl h)
   ·rcases List.mem_cons.mp hv with rfl | hv
    ·right; simp only [List.mem_cons]; exact h
    ·exact .inl (.inr ⟨v, hv, h⟩)
  ·rintro ((h | ⟨v, hv, h⟩) | h)
   ·exact .inl h
   ·exact .inr ⟨v, List.mem_cons_of_mem _ hv, h⟩
   ·exact .inr ⟨_, List.mem_cons_self, by simpa only [List.mem_cons] using h⟩
 have old : ∀ e ∈ owns w (l :: ls), e ∉ c :: q :: cs := fun e he hm => by
  obtain ⟨xs, h⟩ := z.lists e he
  rw [fr e hm] at h; cases h
 have g : Goes H H' (Bq B₀ w (l :: ls)) (Bq B₀ w (⟨c, q, cs⟩ :: l :: ls)) := goes_own (O := fun e => e = l.a ∨ e = w) (fun e o h n => hn e o h (fun z => n (.inl z)) fun z => n (.inr z)) (fun e he => by
   rcases he with rfl | rfl
   ·exact .inr ⟨_, hv⟩
   ·exact .inr ⟨_, z.whr⟩) (fun e xs he _ => .inr (by
   rcases he with rfl | rfl
   ·exact zR.mpr (.inr ⟨l, by simp, .inl rfl⟩)
   ·exact zR.mpr (.inl rfl))) (fun e he => by
   rcases he with he | he
   ·exact .inl (.inl he)
   ·rcases (mem' e).mp he with he | he
    ·exact .inl (.inr he)
    ·exact .inr (fr e he))
 obtain ⟨vs', h1, h2⟩ := z.top
 rw [hv] at h1; cases h1
 refine ⟨⟨by rw [hw]; simp, ⟨[], hc c (by simp), .nil⟩, fun v hv' => ?_, ⟨⟨vs, [], b, ha, zk.goes g _ _ h2, hb, .nil, rfl⟩, z.ch.mv g fun v hv' o h => hn _ _ h (out v hv' v.a (.inl rfl)).1 (out v hv' v.a (.inl rfl)).2.2.2⟩, ?_, fun e he => ?_⟩, g⟩
 ·rcases List.mem_cons.mp hv' with rfl | hv'
  ·exact ⟨hq, fun p hp => hc p (List.mem_cons_of_mem _ hp)⟩
  ·have hk := z.lv v hv'
   rcases List.mem_cons.mp hv' with rfl | hv2
   ·exact ⟨hn _ _ hk.1 (Ne.symm aq) (Ne.symm wq), fun p hp => hn _ _ (hk.2 p hp) (fun e => ap (e ▸ hp)) fun e => wp (e ▸ hp)⟩
   ·exact ⟨hn _ _ hk.1 (out v hv2 _ (.inr (.inl rfl))).1 (out v hv2 _ (.inr (.inl rfl))).2.2.2, fun p hp => hn _ _ (hk.2 p hp) (out v hv2 p (.inr (.inr hp))).1 (out v hv2 p (.inr (.inr hp))).2.2.2⟩
 ·have nd := z.nd
  unfold owns at nd ⊢
  have nd2 := List.nodup_cons.mp nd
  rw [List.flatMap_cons]
  refine List.nodup_cons.mpr ⟨fun e => ?_, List.nodup_append.mpr ⟨hnd, nd2.2, fun e1 he1 e2 he2 ee => ?_⟩⟩
  ·rcases List.mem_append.mp e with e | e
   ·exact old w (zR.mpr (.inl rfl)) e
   ·exact nd2.1 e
  ·subst ee
   exact old e1 (List.mem_cons_of_mem _ he2) he1
 ·rcases (mem' e).mp he with he | he
  ·exact z.new e he
  ·exact ⟨gr.free (fr e he), fun q => by obtain ⟨o, h⟩ := hb0 e q; rw [fr e he] at h; cases h⟩
theorem Zq.next {f : Fr} {p : Addr} {ps : List Addr} (z : Zq K H₀ B₀ H w l ls top (f :: fs)) (hps : l.ps = p :: ps) (hq : H' l.q = some (.lst ((p :: ps).map V.ref))) (hn : ∀ e o, H e = some o → e ≠ l.q → H' e = some o) :
  Zq K H₀ B₀ H' w ⟨p, l.q, ps⟩ ls [] (⟨f.done, f.x, f.pre ++ [.lst top], ps.map fun _ => .lst []⟩ :: fs) ∧ Goes H H' (Bq B₀ w (l :: ls)) (Bq B₀ w (⟨p, l.q, ps⟩ :: ls)) := by
 obtain ⟨wa, wq, aq, wp, ap, qp, pn, ndl, out⟩ := nodup_l z.nd
 have mem' : ∀ e, e ∈ owns w (⟨p, l.q, ps⟩ :: ls) → e ∈ owns w (l :: ls) ∧ e ≠ l.a := fun e he => by
  rcases zR.mp he with rfl | ⟨v, hv, h⟩
  ·exact ⟨zR.mpr (.inl rfl), wa⟩
  ·rcases List.mem_cons.mp hv with rfl | hv
   ·rcases h with h | h | h
    ·simp only at h; rw [h]; exact ⟨zR.mpr (.inr ⟨l, by simp, .inr (.inr (by rw [hps]; simp))⟩), fun q => ap (by rw [hps, ← q]; simp)⟩
    ·simp only at h; rw [h]; exact ⟨zR.mpr (.inr ⟨l, by simp, .inr (.inl rfl)⟩), Ne.symm aq⟩
    ·simp only at h; exact ⟨zR.mpr (.inr ⟨l, by simp, .inr (.inr (by rw [hps]; simp [h]))⟩), fun q => ap (by rw [hps, ← q]; simp [h])⟩
   ·exact ⟨zR.mpr (.inr ⟨v, List.mem_cons_of_mem _ hv, h⟩), (out v hv e h).1⟩
 have g : Goes H H' (Bq B₀ w (l :: ls)) (Bq B₀ w (⟨p, l.q, ps⟩ :: ls)) := goes_own (O := fun e => e = l.q) hn (fun e he => by rw [he]; exact .inr ⟨_, (z.lv l (by simp)).1⟩) (fun e xs he _ => .inr (by rw [he]; exact zR.mpr (.inr ⟨l, by simp, .inr (.inl rfl)⟩))) (fun e he => by
  rcases he with he | he
  ·exact .inl (.inl he)
  ·exact .inl (.inr (mem' e he).1))
 have lp := (z.lv l (by simp)).2
 have pq : ∀ e ∈ l.ps, e ≠ l.q := fun e he q => qp (q ▸ he)
 obtain ⟨us, t1, t2⟩ := z.top
 refine ⟨?_, g⟩
 cases ls with
 | nil => exact absurd z.ch.len (by simp)
 | cons l' ls =>
  obtain ⟨⟨vs, pv, b, q1, q2, q3, q4, q5⟩, r⟩ := z.ch
  refine ⟨?_, ⟨[], hn _ _ (lp p (by rw [hps]; simp)) (pq p (by rw [hps]; simp)), .nil⟩, fun v hv => ?_, ⟨⟨vs, pv ++ [.ref l.a], b, hn _ _ q1 (out l' (by simp) _ (.inl rfl)).2.1, zk.goes g _ _ q2, ?_, (zk.goes g _ _ q4).append (.one ?_), rfl⟩, r.mv g fun v hv o h => hn _ _ h (out v (List.mem_cons_of_mem _ hv) _ (.inl rfl)).2.1⟩, ?_, fun e he => z.new e (mem' e he).1⟩
  ·rw [hn _ _ z.whr wq]; simp
  ·rcases List.mem_cons.mp hv with rfl | hv
   ·exact ⟨hq, fun e he => hn _ _ (lp e (by rw [hps]; simp [he])) (pq e (by rw [hps]; simp [he]))⟩
   ·have hk := z.lv v (List.mem_cons_of_mem _ hv)
    exact ⟨hn _ _ hk.1 (out v hv _ (.inr (.inl rfl))).2.1, fun e he => hn _ _ (hk.2 e he) (out v hv e (.inr (.inr he))).2.1⟩
  ·rw [g.tkt _ _ q3, hps]; simp
  ·simp only [Rep]
   refine ⟨l.a, us, rfl, ⟨.inl (hn _ _ t1 aq), fun q => ?_⟩, zk.goes g _ _ t2⟩
   rcases q with q | q
   ·exact (z.new l.a (zR.mpr (.inr ⟨l, by simp, .inl rfl⟩))).2 q
   ·exact (mem' _ q).2 rfl
  ·have pn' : (p :: ps).Nodup := hps ▸ pn
   have nd := ndl
   unfold owns at nd ⊢
   have nd2 := List.nodup_cons.mp nd
   rw [List.flatMap_cons]
   refine List.nodup_cons.mpr ⟨fun e => ?_, List.nodup_append.mpr ⟨?_, nd2.2, fun e1 he1 e2 he2 ee => ?_⟩⟩
   ·rcases List.mem_append.mp e with e | e
    ·simp only [Lv.own, List.mem_cons] at e
     rcases e with e | e | e
     ·exact wp (by rw [hps, e]; simp)
     ·exact wq e
     ·exact wp (by rw [hps]; simp [e])
    ·exact nd2.1 e
   ·simp only [Lv.own]
    have pp := List.nodup_cons.mp pn'
    refine List.nodup_cons.mpr ⟨fun e => ?_, List.nodup_cons.mpr ⟨fun e => qp (by rw [hps]; simp [e]), pp.2⟩⟩
    rcases List.mem_cons.mp e with e | e
    ·exact qp (by rw [hps, ← e]; simp)
    ·exact pp.1 e
   ·subst ee
    obtain ⟨v, hv, hx⟩ := List.mem_flatMap.mp he2
    simp only [Lv.own, List.mem_cons] at hx he1
    have ho := out v hv e1 hx
    rcases he1 with h | h | h
    ·exact ho.2.2.1 (by rw [hps, h]; simp)
    ·exact ho.2.1 h
    ·exact ho.2.2.1 (by rw [hps]; simp [h])
theorem Zq.out {f : Fr} {l' : Lv} (z : Zq K H₀ B₀ H w l (l' :: ls) top (f :: fs)) (hps : l.ps = []) (hw : H' w = some (.lst (((l' :: ls).reverse).map fun x => V.ref x.q))) (hn : ∀ e o, H e = some o → e ≠ l.q → e ≠ w → H' e = some o) :
  Zq K H₀ B₀ H' w l' ls (shut f top) fs ∧ Goes H H' (Bq B₀ w (l :: l' :: ls)) (Bq B₀ w (l' :: ls)) := by
 obtain ⟨wa, wq, aq, wp, ap, qp, pn, ndl, out⟩ := nodup_l z.nd
 have mem' : ∀ e, e ∈ owns w (l' :: ls) → e ∈ owns w (l :: l' :: ls) ∧ e ≠ l.a := fun e he => by
  rcases zR.mp he with rfl | ⟨v, hv, h⟩
  ·exact ⟨zR.mpr (.inl rfl), wa⟩
  ·exact ⟨zR.mpr (.inr ⟨v, List.mem_cons_of_mem _ hv, h⟩), (out v hv e h).1⟩
 have g : Goes H H' (Bq B₀ w (l :: l' :: ls)) (Bq B₀ w (l' :: ls)) := goes_own (O := fun e => e = l.q ∨ e = w) (fun e o h n => hn e o h (fun z => n (.inl z)) fun z => n (.inr z)) (fun e he => by
   rcases he with rfl | rfl
   ·exact .inr ⟨_, (z.lv l (by simp)).1⟩
   ·exact .inr ⟨_, z.whr⟩) (fun e xs he _ => .inr (by
   rcases he with rfl | rfl
   ·exact zR.mpr (.inr ⟨l, by simp, .inr (.inl rfl)⟩)
   ·exact zR.mpr (.inl rfl))) (fun e he => by
   rcases he with he | he
   ·exact .inl (.inl he)
   ·exact .inl (.inr (mem' e he).1))
 obtain ⟨us, t1, t2⟩ := z.top
 obtain ⟨⟨vs, pv, b, q1, q2, q3, q4, q5⟩, r⟩ := z.ch
 have keep : ∀ v ∈ l' :: ls, ∀ x, (x = v.a ∨ x = v.q ∨ x ∈ v.ps) → ∀ o, H x = some o → H' x = some o := fun v hv x hx o h => hn _ _ h (out v hv x hx).2.1 (out v hv x hx).2.2.2
 refine ⟨⟨hw, ⟨vs ++ [.ref b], keep l' (by simp) _ (.inl rfl) _ q1, ?_⟩, fun v hv => ?_, r.mv g fun v hv o h => keep v (List.mem_cons_of_mem _ hv) _ (.inl rfl) o h, ndl, fun e he => z.new e (mem' e he).1⟩, g⟩
 ·refine (zk.goes g _ _ q2).append (.one ?_)
  rw [hps] at q3 q5
  simp only [Rep]
  refine ⟨b, _, rfl, .inl (.inl (g.tkt _ _ q3)), .cons (by simp [Rep]) ((zk.goes g _ _ q4).append ?_)⟩
  rw [q5]
  refine .one ?_
  simp only [Rep]
  refine ⟨l.a, us, rfl, ⟨.inl (hn _ _ t1 aq (Ne.symm wa)), fun q => ?_⟩, zk.goes g _ _ t2⟩
  rcases q with q | q
  ·exact (z.new l.a (zR.mpr (.inr ⟨l, by simp, .inl rfl⟩))).2 q
  ·exact (mem' _ q).2 rfl
 ·have hk := z.lv v (List.mem_cons_of_mem _ hv)
  exact ⟨keep v hv _ (.inr (.inl rfl)) _ hk.1, fun p hp => keep v hv p (.inr (.inr hp)) _ (hk.2 p hp)⟩
theorem Cq.root : ∀ {fs : List Fr} {l : Lv} {ls : List Lv} {top : List D}, (∀ v ∈ l :: ls, (∀ x, (x = v.a ∨ x ∈ v.ps) → ¬ B₀ x) ∧ ∀ p ∈ v.ps, H p = some (.lst [])) → Rep K H B₀ (.lst top) (.ref l.a) → Cq K H B₀ fs (l :: ls) → Rep K H B₀ (.lst (close top fs)) (.ref ((l :: ls).getLast (by simp)).a)
 | [], l, [], top, _, h, _ => h
 | f :: fs, l, l' :: ls, top, hn, h, ⟨⟨vs, pv, b, q1, q2, q3, q4, q5⟩, r⟩ => by
  have e : (l :: l' :: ls).getLast (by simp) = (l' :: ls).getLast (by simp) := by rw [List.getLast_cons (by simp)]
  rw [e, close]
  refine Cq.root (fun x hx => hn x (List.mem_cons_of_mem _ hx)) ?_ r
  simp only [Rep]
  refine ⟨l'.a, _, rfl, ⟨.inl q1, (hn l' (by simp)).1 _ (.inl rfl)⟩, q2.append (.one ?_)⟩
  simp only [Rep]
  refine ⟨b, _, rfl, .inl (.inl q3), .cons (by simp [Rep]) (q4.append ?_)⟩
  rw [q5]
  exact .cons h (reps_reps fun c hc => ⟨(hn l (by simp)).2 c hc, (hn l (by simp)).1 c (.inr hc)⟩)
 | [], _, _ :: _, _, _, _, h => by cases h
 | _ :: _, _, [], _, _, _, h => by cases h
theorem Zq.root (z : Zq K H₀ B₀ H w l ls top fs) : Rep K H B₀ (.lst (close top fs)) (.ref ((l :: ls).getLast (by simp)).a) := by
 have g : Goes H H (Bq B₀ w (l :: ls)) B₀ := .less (fun e h => .inl h) (.refl H)
 obtain ⟨vs, h1, h2⟩ := z.top
 refine Cq.root (fun v hv => ⟨fun x hx => (z.new x (zR.mpr (.inr ⟨v, hv, hx.elim .inl fun h => .inr (.inr h)⟩))).2, (z.lv v hv).2⟩) ?_ (z.ch.mv g fun _ _ _ h => h)
 simp only [Rep]
 exact ⟨l.a, vs, rfl, ⟨.inl h1, (z.new l.a (zR.mpr (.inr ⟨l, by simp, .inl rfl⟩))).2⟩, zk.goes g _ _ h2⟩
end
abbrev tQ (K : Frag) : TE := tOp (rIxL K) (tVar 6) (tUn (rU fun i => .int (-i)) (tC (.int 1)))
abbrev tPopB (K : Frag) : TS := tSeq (tDrop (tBM K "list" rPopAt (tQ K) (Za (tC (.int 0)) tNil))) (tIfS (tTest (tOp (rEqD K false) (tQ K) (tLst tNil))) (tDrop (tBM0 K "list" rPop (tVar 6))) tNext)
theorem lay_emps : ∀ ps : List Addr, PyData.canLayAll0 (zZ (ps.map fun _ => D.lst [])) = true ∧ PyData.depthAll (zZ (ps.map fun _ => D.lst [])) ≤ 1
 | [] => ⟨by rw [List.map_nil, zZ, PyData.canLayAll0], by rw [List.map_nil, zZ, PyData.depthAll]; omega⟩
 | p :: ps => by
  obtain ⟨h1, h2⟩ := lay_emps ps
  rw [List.map_cons, zZ, PyData.canLayAll0, PyData.depthAll, h1, Zc, zZ, PyData.canLay0, PyData.canLayAll0, PyData.depth, PyData.depthAll]
  exact ⟨rfl, by omega⟩
theorem py_emps (ps : List Addr) : pyOk (.lst (ps.map fun _ => D.lst [])) = true := by
 obtain ⟨h1, h2⟩ := lay_emps ps
 unfold pyOk SeqAt.shaped
 rw [Zc, PyData.canLay0, PyData.depth, h1, decide_eq_true (by omega)]; rfl
theorem eq_emps (ps : List Addr) : eqD (.lst (ps.map fun _ => D.lst [])) (.lst []) = decide (ps = []) := by
 unfold eqD
 cases ps with
 | nil => rw [List.map_nil, Zc, zZ, PyData.eqv]; simp [PyData.eqvAll]
 | cons p ps => rw [List.map_cons, Zc, zZ, Zc, zZ, PyData.eqv]; simp [PyData.eqvAll]
section
variable {K : Frag} {H₀ H : Hp} {B₀ : Addr → Prop} {w : Addr} {l : Lv} {ls : List Lv} {top : List D} {f : Fr} {fs : List Fr} {σ : St} {E : Ends}
theorem Zq.whr' (z : Zq K H₀ B₀ H w l ls top fs) : H w = some (.lst ((ls.reverse.map fun x => V.ref x.q) ++ [.ref l.q])) := by
 rw [z.whr]; simp
theorem pop15 (z : Zq K H₀ B₀ H w l ls top (f :: fs)) (g6 : σ[6]? = some (some (.ref w)))
  (k1 : ∀ (p : Addr) (ps : List Addr) (H' : Hp), l.ps = p :: ps → Zq K H₀ B₀ H' w ⟨p, l.q, ps⟩ ls [] (⟨f.done, f.x, f.pre ++ [.lst top], ps.map fun _ => .lst []⟩ :: fs) → Goes H H' (Bq B₀ w (l :: ls)) (Bq B₀ w (⟨p, l.q, ps⟩ :: ls)) → (∀ e o, H e = some o → e ∉ owns w (l :: ls) → H' e = some o) → E.nx σ H')
  (k2 : ∀ (l' : Lv) (ls' : List Lv) (H' : Hp), ls = l' :: ls' → l.ps = [] → Zq K H₀ B₀ H' w l' ls' (shut f top) fs → Goes H H' (Bq B₀ w (l :: ls)) (Bq B₀ w ls) → (∀ e o, H e = some o → e ∉ owns w (l :: ls) → H' e = some o) → E.nx σ H') : tPopB K E σ H := by
 obtain ⟨wa, wq, aq, wp, ap, qp, pn, ndl, out⟩ := nodup_l z.nd
 have hw := z.whr'
 obtain ⟨hq, hp⟩ := z.lv l (by simp)
 have oq : l.q ∈ owns w (l :: ls) := zR.mpr (.inr ⟨l, by simp, .inr (.inl rfl)⟩)
 have ow : w ∈ owns w (l :: ls) := zR.mpr (.inl rfl)
 refine ⟨.ref w, g6, 1, rfl, w, _, -1, .ref l.q, rfl, rfl, .inl (.inl hw), atI_last, .inl ⟨rfl, _, .inl (.inl hq)⟩, l.q, (l.a :: l.ps).map V.ref, 0, 0, .ref l.a, rfl, rfl, hq, by decide, by decide, ?_, rfl, ?_⟩
 ·rw [List.length_map, List.length_cons]; unfold seqIndex?; simp
 have e1 : ((l.a :: l.ps).map V.ref).eraseIdx 0 = l.ps.map V.ref := rfl
 rw [e1]
 have w1 : upd H l.q (.lst (l.ps.map V.ref)) w = some (.lst ((ls.reverse.map fun x => V.ref x.q) ++ [.ref l.q])) := by rw [zA wq]; exact hw
 have q1 : upd H l.q (.lst (l.ps.map V.ref)) l.q = some (.lst (l.ps.map V.ref)) := zv
 have n1 : ∀ e o, H e = some o → e ≠ l.q → upd H l.q (.lst (l.ps.map V.ref)) e = some o := fun e o h n => by rw [zA n]; exact h
 generalize upd H l.q (.lst (l.ps.map V.ref)) = H1 at *
 refine ⟨.ref w, g6, 1, rfl, w, _, -1, .ref l.q, rfl, rfl, .inl (.inl w1), atI_last, by show 0 ≤ sizeLine; decide, fun e he => ?_⟩
 have s2 : zJ H1 (upd H1 e (.lst [])) := zy he
 have e2 : upd H1 e (.lst []) e = some (.lst []) := zv
 generalize upd H1 e (.lst []) = H2 at *
 have n2 : ∀ e o, H e = some o → e ≠ l.q → H2 e = some o := fun e o h n => s2 _ _ (n1 e o h n)
 refine ⟨fun _ => False, .lst (l.ps.map fun _ => .lst []), .lst [], ?_, ?_, py_emps _, by decide, decide (l.ps = []), ?_, ?_⟩
 ·simp only [Rep]
  exact ⟨l.q, _, rfl, ⟨.inl (s2 _ _ q1), fun z => z⟩, reps_reps fun c hc => ⟨n2 _ _ (hp c hc) fun z => qp (z ▸ hc), fun z => z⟩⟩
 ·simp only [Rep]
  exact ⟨e, [], rfl, ⟨.inl e2, fun z => z⟩, .nil⟩
 ·rw [if_neg Bool.false_ne_true, eq_emps]
 ·cases hps : l.ps with
  | nil =>
   rw [decide_eq_true rfl]
   refine ifT ?_
   cases ls with
   | nil => exact absurd z.ch.len (by simp)
   | cons l' ls' =>
    have w2 := s2 _ _ w1
    refine ⟨.ref w, g6, .inl ⟨rfl, _, .inl (.inl w2)⟩, w, _, .ref l.q, rfl, rfl, w2, by simp, ?_⟩
    rw [List.dropLast_concat]
    obtain ⟨zo, go⟩ := z.out (H' := upd H2 w (.lst ((l' :: ls').reverse.map fun x => V.ref x.q))) hps zv (fun e o h n n' => by rw [zA n']; exact n2 e o h n)
    exact k2 l' ls' _ rfl hps zo go fun e o h n => by
     rw [zA (show e ≠ w from fun z => n (by rw [z]; exact ow))]
     exact n2 e o h fun z => n (by rw [z]; exact oq)
  | cons p ps =>
   rw [decide_eq_false (by simp)]
   refine ifF ?_
   obtain ⟨zn, gn⟩ := z.next (H' := H2) hps (by rw [← hps]; exact s2 _ _ q1) n2
   exact k1 p ps _ hps zn gn fun e o h n => n2 e o h fun z => n (by rw [z]; exact oq)
end
theorem cutV_from {xs : List V} (k : Nat) : cutV xs (some (k : Int)) none = xs.drop k := by
 unfold cutV
 rw [HT.sIx_nat, HT.sIx_none]
 by_cases h2 : k ≤ xs.length
 ·rw [Nat.min_eq_left h2, List.take_of_length_le (by simp)]
 ·rw [Nat.min_eq_right (by omega), List.drop_eq_nil_of_le (by omega : xs.length ≤ k), List.drop_length]; simp
abbrev tRest (K : Frag) (n : Nat) : TE := tComp 1 (iTup K (tSl (rSlT K) (tVar 9) (tPart (tC (.int 1))) tNoPart)) (gName n) tYes (tVar n)
section
variable {K : Frag} {H : Hp} {σ : St}
theorem comp_rest {n : Nat} {b : Addr} {x : V} {vs : List V} {Q : VK} (hσ : σ.length = n) (g9 : σ[9]? = some (some (.ref b))) (hb : SqT K H b (x :: vs)) (hl : vs.length ≤ 1000)
  (q : ∀ (t e : Addr) (H' : Hp), H t = none → e ≠ t → H e = none → H' e = some (.lst vs) → zJ H H' → Q (.ref e) H') : tRest K n σ H Q := by
 refine ⟨.ref b, g9, 1, rfl, b, x :: vs, rfl, hb, ?_, fun t ht => ?_⟩
 ·have := HT.sIx_nat (x :: vs).length 0 1
  rintro ⟨z, -⟩
  rw [show ((1 : Int)) = ((1 : Nat) : Int) from rfl, HT.sIx_nat] at z
  simp only [List.length_cons] at z
  omega
 have ec : cutV (x :: vs) (some 1) none = vs := cutV_from 1
 rw [ec]
 have s1 : zJ H (upd H t (.tup vs)) := zy ht
 have t1 : upd H t (.tup vs) t = some (.tup vs) := zv
 have f1 : ∀ e, upd H t (.tup vs) e = none → e ≠ t ∧ H e = none := fun e he => by
  have h1 : e ≠ t := fun z => by rw [z, zv] at he; cases he
  rw [zA h1] at he
  exact ⟨h1, he⟩
 generalize upd H t (.tup vs) = H1 at *
 refine ⟨t, rfl, ⟨vs, .inl (.inl t1)⟩, fun e he => ?_⟩
 obtain ⟨et, hen⟩ := f1 e he
 refine ⟨fun i m ys σ' H' => ys = vs.take i ∧ m = vs.length - i ∧ i ≤ vs.length ∧ H' e = some (.lst ys) ∧ (∀ a o, H1 a = some o → H' a = some o) ∧ ∃ z, σ' = σ ++ [z], ⟨vs.length, rfl, by simp, Nat.zero_le _, zv, fun a o h => ?_, none, rfl⟩, ?_⟩
 ·rw [zA (fun z => by rw [z, he] at h; cases h)]; exact h
 rintro i m ys σ' H' ⟨rfl, rfl, hi, he', hs, z, rfl⟩
 refine ⟨he', ?_⟩
 have tt := hs _ _ t1
 by_cases hlt : i < vs.length
 ·right
  refine ⟨⟨vs, vs[i], .inl (.inl tt), by simp [hlt]⟩, fun v H2 y => ?_⟩
  obtain ⟨rfl, hy⟩ := y
  have hv := hy vs (.inl (.inl tt))
  rw [List.getElem?_eq_getElem hlt] at hv
  cases hv
  unfold gName tYes
  dsimp only
  rw [if_pos rfl]
  have e1 : (σ ++ [z]).set n (some vs[i]) = σ ++ [some vs[i]] := by
   rw [← hσ, List.set_append_right _ _ (by omega)]; simp
  refine ⟨vs[i], ?_, he', by rw [List.length_take]; exact Nat.lt_of_le_of_lt (Nat.min_le_right _ _) (size_lt (by omega)), vs.length - (i + 1), by omega, ?_, rfl, hlt, zv, fun a o h => ?_, some vs[i], e1⟩
  ·rw [e1, List.getElem?_append_right (by omega), ← hσ]; simp
  ·rw [List.take_succ, List.getElem?_eq_getElem hlt]; rfl
  ·rw [zA (fun z => by rw [z, he] at h; cases h)]; exact hs a o h
 ·left
  have hi' : i = vs.length := by omega
  subst hi'
  rw [List.take_length] at he'
  exact ⟨⟨vs, .inl (.inl tt), by simp⟩, q t e H' ht et hen he' fun a o h => hs _ _ (s1 _ _ h)⟩
end
def names2 : List V := [.str "either", .str "loop"]
def addQ (deep : Int) (d : D) (top : List D) (fs : List Fr) : Option (List D × List Fr) := match d with
 | .tup (.str x :: ps) => if top.length < sizeLine ∧ fs.length < 1000 ∧ ps.length ≤ 1000 then
   if inV (.str x) names2 = true ∧ ((fs.length + 1 : Nat) : Int) < deep then
    (if 0 < ps.length ∧ ps.all (fun d => match d with | .lst [] => true | _ => false) = true then some ([], ⟨top, x, [], ps.tail⟩ :: fs) else none)
   else some (top ++ [d], fs)
  else none
 | _ => none
abbrev tAdd15 (K : Frag) : TS := tDrop (tBM K "list" rAppend (tOp (rIxL K) (tQ K) (tC (.int 0))) (Za (tVar 9) tNil))
abbrev tT15 (K : Frag) : TT := tAnd (tTest (tOp (rIn K false) (tOp (rIxT K) (tVar 9) (tC (.int 0))) (tTup (Za (tC (.str "either")) (Za (tC (.str "loop")) tNil))))) (tTest (tOp (rI0 fun i j => .bl (decide (i < j))) (tCB (lenR K) (Za (tVar 6) tNil)) (tVar 3)))
abbrev tPush15 (K : Frag) (n : Nat) : TS := tDrop (tBM K "list" rAppend (tVar 6) (Za (tRest K n) tNil))
abbrev tJoin15 (K : Frag) (n : Nat) : TS := tSeq (tAdd15 K) (tIfS (tT15 K) (tPush15 K n) tNext)
section
variable {K : Frag} {H₀ H2 H : Hp} {B₀ : Addr → Prop} {w : Addr} {l : Lv} {ls : List Lv} {top top' : List D} {fs fs' : List Fr} {σ : St} {E : Ends}
theorem join15 {n : Nat} {b : Addr} {x : Str} {ps : List D} {tr : List V} {deep : Int} (z : Zq K H₀ B₀ H2 w l ls top fs) (gr : zJ H₀ H2) (hb0 : ∀ x, B₀ x → ∃ o, H2 x = some o) (s3 : zJ H2 H) (hσ : σ.length = n) (g6 : σ[6]? = some (some (.ref w))) (g9 : σ[9]? = some (some (.ref b))) (g3 : σ[3]? = some (some (.int deep)))
  (htup : SqT K H b (.str x :: tr)) (hps : zk K H (Bq B₀ w (l :: ls)) ps tr) (alt : flats ps = true ∨ ∃ cs : List Addr, ps = cs.map (fun _ => D.lst []) ∧ tr = cs.map V.ref ∧ cs.Nodup ∧ (∀ e ∈ cs, H2 e = none ∧ H e = some (.lst [])) ∧ H b = some (.tup (.str x :: cs.map V.ref)))
  (hs : addQ deep (.tup (.str x :: ps)) top fs = some (top', fs'))
  (k : ∀ (l' : Lv) (ls' : List Lv) (H' : Hp), Zq K H₀ B₀ H' w l' ls' top' fs' → Goes H2 H' (Bq B₀ w (l :: ls)) (Bq B₀ w (l' :: ls')) → (∀ e o, H2 e = some o → e ∉ owns w (l :: ls) → H' e = some o) → (l' :: ls').getLast (by simp) = (l :: ls).getLast (by simp) → E.nx σ H') : tJoin15 K n E σ H := by
 unfold addQ at hs
 simp only at hs
 split at hs
 case isFalse => cases hs
 rename_i hsz
 obtain ⟨wa, wq, aq, wp, ap, qp, pn, ndl, out⟩ := nodup_l z.nd
 have z3 := z.up s3
 have hw := z3.whr'
 obtain ⟨hq, hp⟩ := z3.lv l (by simp)
 obtain ⟨vs, hv2, hvs⟩ := z.top
 have hv := s3 _ _ hv2
 have oa : l.a ∈ owns w (l :: ls) := zR.mpr (.inr ⟨l, by simp, .inl rfl⟩)
 have ow : w ∈ owns w (l :: ls) := zR.mpr (.inl rfl)
 have hvl : vs.length < sizeLine := by rw [hvs.length]; exact hsz.1
 refine ⟨.ref w, g6, 1, rfl, w, _, -1, .ref l.q, rfl, rfl, .inl (.inl hw), atI_last, l.q, (l.a :: l.ps).map V.ref, 0, .ref l.a, rfl, rfl, .inl (.inl hq), zY (j := 0) rfl, .inl ⟨rfl, vs, .inl (.inl hv)⟩, .ref b, g9, l.a, vs, .ref b, rfl, rfl, hv, hvl, ?_⟩
 have gadd : Goes H (upd H l.a (.lst (vs ++ [.ref b]))) (Bq B₀ w (l :: ls)) (Bq B₀ w (l :: ls)) := .write (.inr oa) hv trivial
 have tup4 : SqT K (upd H l.a (.lst (vs ++ [.ref b]))) b (.str x :: tr) := by
  rcases htup with q | q
  ·exact .inl (gadd.tup _ _ q)
  ·exact .inr q
 have a4 : upd H l.a (.lst (vs ++ [.ref b])) l.a = some (.lst (vs ++ [.ref b])) := zv
 have n4 : ∀ e o, H e = some o → e ≠ l.a → upd H l.a (.lst (vs ++ [.ref b])) e = some o := fun e o h n => by rw [zA n]; exact h
 generalize upd H l.a (.lst (vs ++ [.ref b])) = H4 at *
 have w4 := n4 _ _ hw wa
 refine ⟨.ref b, g9, b, _, 0, .str x, rfl, rfl, tup4, zY (j := 0) rfl, by show 2 ≤ sizeLine; decide, fun e he => ⟨e, names2, rfl, .inr (.inl (.inl zv)), rfl, rfl, inV (.str x) names2, rfl, ?_⟩⟩
 have s5 : zJ H4 (upd H4 e (.tup [.str "either", .str "loop"])) := zy he
 generalize upd H4 e (.tup [V.str "either", V.str "loop"]) = H5 at *
 have w5 := s5 _ _ w4
 have a5 := s5 _ _ a4
 have n5 : ∀ e o, H e = some o → e ≠ l.a → H5 e = some o := fun e o h n => s5 _ _ (n4 e o h n)
 have tup5 : SqT K H5 b (.str x :: tr) := SqT.same s5 tup4
 have wl : (((ls.reverse.map fun x => V.ref x.q) ++ [.ref l.q]) : List V).length = fs.length + 1 := by
  have := z.ch.len
  simp only [List.length_cons] at this
  rw [List.length_append, List.length_map, List.length_reverse]; simp only [List.length_cons, List.length_nil]; omega
 have plain : fs' = fs ∧ top' = top ++ [.tup (.str x :: ps)] → E.nx σ H5 := by
  rintro ⟨rfl, rfl⟩
  have r' : Rep K H (Bq B₀ w (l :: ls)) (.tup (.str x :: ps)) (.ref b) := by
   simp only [Rep]
   exact ⟨b, _, rfl, htup, .cons (by simp [Rep]) hps⟩
  refine k l ls H5 (z3.add hv r' a5 n5) (goes_own (O := fun e => e = l.a) (fun e o h n => n5 e o (s3 _ _ h) n) (fun e he => by rw [he]; exact .inr ⟨_, hv2⟩) (fun e xs he _ => .inr (by rw [he]; exact oa)) fun e he => .inl he) (fun e o h n => n5 e o (s3 _ _ h) fun q => n (by rw [q]; exact oa)) rfl
 by_cases hin : inV (.str x) names2 = true
 ·rw [hin]
  refine ifT ?_
  refine ⟨.ref w, g6, w, _, rfl, .inl (.inl (.inl w5)), .int deep, g3, _, deep, rfl, rfl, decide (((((ls.reverse.map fun x => V.ref x.q) ++ [.ref l.q]) : List V).length : Int) < deep), rfl, ?_⟩
  by_cases hd : ((fs.length + 1 : Nat) : Int) < deep
  ·rw [wl, decide_eq_true hd]
   refine ifT ?_
   rw [if_pos ⟨hin, hd⟩] at hs
   split at hs
   case isFalse => cases hs
   rename_i hop
   cases hs
   have pe := all_emp hop.2
   rcases alt with hfl | ⟨cs, rfl, rfl, hnd, hcs, hb'⟩
   ·exfalso
    cases ps with
    | nil => simp at hop
    | cons q ps' =>
     have := pe q (by simp)
     subst this
     simp [D.flat, flats] at hfl
   ·cases cs with
    | nil => simp at hop
    | cons c cs =>
     refine ⟨.ref w, g6, .inl ⟨rfl, _, .inl (.inl w5)⟩, ?_⟩
     show tRest K n σ H5 (fun x H1 => tNil σ H1 fun xs H2 => rAppend (.ref w) (x :: xs) H2 fun _ H1 => E.nx σ H1)
     refine comp_rest hσ g9 tup5 (by have := hsz.2.2; simpa using this) fun t e' H6 ht net he' hq' s6 => ?_
     refine ⟨w, _, .ref e', rfl, rfl, s6 _ _ w5, by rw [wl]; exact size_lt (by omega), ?_⟩
     have ea : e' ≠ l.a := fun q => by rw [q, a5] at he'; cases he'
     have ew : e' ≠ w := fun q => by rw [q, w5] at he'; cases he'
     have h2n : ∀ y, H5 y = none → H2 y = none := fun y hy => by
      cases q : H2 y with
      | none => rfl
      | some o =>
       by_cases e : y = l.a
       ·rw [e, a5] at hy; cases hy
       ·rw [n5 y o (s3 _ _ q) e] at hy; cases hy
     have ec : ∀ y ∈ c :: cs, y ≠ l.a ∧ y ≠ w := fun y hy => by
      refine ⟨fun q => ?_, fun q => ?_⟩
      ·have := (hcs y hy).1; rw [q, hv2] at this; cases this
      ·have := (hcs y hy).1; rw [q, z.whr] at this; cases this
     have c5 : ∀ y ∈ c :: cs, H5 y = some (.lst []) := fun y hy => n5 _ _ (hcs y hy).2 (ec y hy).1
     have eq : ∀ y ∈ c :: cs, y ≠ e' := fun y hy q => by have := c5 y hy; rw [q, he'] at this; cases this
     have bl : b ≠ l.a := fun q => by rw [q, hv] at hb'; cases hb'
     have bw : b ≠ w := fun q => by rw [q, hw] at hb'; cases hb'
     have hn6 : ∀ y o, H2 y = some o → y ≠ l.a → y ≠ w → upd H6 w (.lst (((ls.reverse.map fun x => V.ref x.q) ++ [.ref l.q]) ++ [.ref e'])) y = some o := fun y o h n1 n2 => by rw [zA n2]; exact s6 _ _ (n5 _ _ (s3 _ _ h) n1)
     obtain ⟨zp, gp⟩ := z.push (H' := upd H6 w (.lst (((ls.reverse.map fun x => V.ref x.q) ++ [.ref l.q]) ++ [.ref e']))) gr hb0 hv2 (b := b) (q := e') (c := c) (x := x) (cs := cs) (by
       have hc := List.nodup_cons.mp hnd
       refine List.nodup_cons.mpr ⟨fun q => ?_, List.nodup_cons.mpr ⟨fun q => eq e' (List.mem_cons_of_mem _ q) rfl, hc.2⟩⟩
       rcases List.mem_cons.mp q with q | q
       ·exact eq c (by simp) q
       ·exact hc.1 q) (fun y hy => by
       rcases List.mem_cons.mp hy with rfl | hy
       ·exact (hcs _ (by simp)).1
       ·rcases List.mem_cons.mp hy with rfl | hy
        ·exact h2n _ he'
        ·exact (hcs _ (List.mem_cons_of_mem _ hy)).1)
      (by rw [zA (Ne.symm wa)]; exact s6 _ _ a5) (by rw [zA bw]; exact s6 _ _ (n5 _ _ hb' bl)) (by rw [zA ew]; exact hq') (fun y hy => by rw [zA (ec y hy).2]; exact s6 _ _ (c5 y hy)) (by rw [zv]; simp) hn6
     have et : (List.map (fun _ => D.lst []) (c :: cs)).tail = cs.map fun _ => D.lst [] := rfl
     rw [et] at k
     exact k _ _ _ zp gp (fun y o h n => hn6 y o h (fun q => n (by rw [q]; exact oa)) fun q => n (by rw [q]; exact ow)) (by rw [List.getLast_cons (by simp)])
  ·rw [wl, decide_eq_false hd]
   refine ifF ?_
   rw [if_neg (fun q => hd q.2)] at hs
   cases hs
   exact plain ⟨rfl, rfl⟩
 ·rw [Bool.eq_false_iff.mpr hin]
  refine ifF (ifF ?_)
  rw [if_neg (fun q => hin q.1)] at hs
  cases hs
  exact plain ⟨rfl, rfl⟩
end
def popQ (top : List D) : List Fr → Option (List D × List Fr)
 | f :: fs => match f.post with
  | [] => some (shut f top, fs)
  | _ :: ps => some ([], ⟨f.done, f.x, f.pre ++ [.lst top], ps⟩ :: fs)
 | [] => none
def evQ (ρ : Ev) (u : Int) : Ev := (((((ρ.set 5 none).set 6 none).set 9 none).set 10 none).set 8 none).set 7 (some (.int u))
def isRowT : D → Bool
 | .tup (.str _ :: _) => true
 | _ => false
def stepQ (deep most : Int) (ρ : Ev) (f c1 c2 : Ev → Option D) (c : Int) (top : List D) (fs : List Fr) (u : Int) : Option ((List D × List Fr) × Int) :=
 if c % 8 = 0 ∧ 0 < fs.length then (popQ top fs).map fun r => (r, u)
 else (f ((evQ ρ u).set 8 (some (.int c)))).bind fun d => if isRowT d = true then (c1 (((evQ ρ u).set 8 (some (.int c))).set 9 (some d))).bind fun k1 => (c2 ((((evQ ρ u).set 8 (some (.int c))).set 9 (some d)).set 10 (some k1))).bind fun k2 => (asI k2).bind fun k =>
  if u + k ≤ most then (addQ deep d top fs).map fun r => (r, u + k) else some ((top, fs), u)
  else none
def goQ (deep most : Int) (ρ : Ev) (f c1 c2 : Ev → Option D) : List Int → List D → List Fr → Int → Option (List D × Int)
 | [], top, fs, u => some (close top fs, u)
 | c :: cs, top, fs, u => (stepQ deep most ρ f c1 c2 c top fs u).bind fun r => goQ deep most ρ f c1 c2 cs r.1.1 r.1.2 r.2
abbrev tc8 (K : Frag) : TT := tAnd (tTest (tOp rEq (tOp (rI (fun _ j => 0 < j) fun i j => .int (i % j)) (tVar 8) (tC (.int 8))) (tC (.int 0)))) (tTest (tOp (rI0 fun i j => .bl (decide (j < i))) (tCB (lenR K) (Za (tVar 6) tNil)) (tC (.int 1))))
abbrev tSum15 : TE := tOp (rI0 fun i j => .int (i + j)) (tVar 7) (tVar 10)
abbrev tCell15 (K : Frag) (n : Nat) (te tk1 tk2 : TE) : TS := tIfS (tc8 K) (tPopB K) (tSeq (tAsg te (gName 9)) (tSeq (tAsg tk1 (gName 10)) (tSeq (tAsg tk2 (gName 10)) (tIfS (tTest (tOp (rI0 fun i j => .bl (decide (i ≤ j))) tSum15 (tVar 4))) (tSeq (tAsg tSum15 (gName 7)) (tJoin15 K n)) tNext))))
theorem md_sub {K : Frag} {H₀ H : Hp} {B : Addr → Prop} {σ : St} {ρ ρ' : Ev} (m : Md K H₀ B [] σ H ρ) (hl : ρ'.length = ρ.length) (h : ∀ (i : Nat) d, ρ'[i]? = some (some d) → ρ[i]? = some (some d)) : Md K H₀ B [] σ H ρ' :=
 ⟨m.grow, m.blk, by rw [hl]; exact m.len, fun i d q n => m.sh i d (h i d q) n, fun i hi => (by cases hi), fun i j a hi => by cases hi⟩
structure St15 (K : Frag) (H : Hp) (B₀ : Addr → Prop) (ρ : Ev) (p : Addr) (top : List D) (fs : List Fr) (u : Int) (r : Addr) (σ' : St) (H' : Hp) : Prop where
 ex : ∃ (w : Addr) (l : Lv) (ls : List Lv), Md K H (Bq B₀ w (l :: ls)) [] σ' H' (evQ ρ u) ∧ Zq K H B₀ H' w l ls top fs ∧ σ'[6]? = some (some (.ref w)) ∧ ((l :: ls).getLast (by simp)).a = r ∧ σ'[5]? = some (some (.ref r)) ∧ σ'[0]? = some (some (.ref p))
section
variable {K : Frag} {te tk1 tk2 : TE} {f c1 c2 : Ev → Option D} {H : Hp} {B₀ : Addr → Prop} {ρ : Ev} {p r : Addr} {top top' : List D} {fs fs' : List Fr} {c u u' deep most : Int} {N : St → Hp → Prop} {E : Ends}
theorem bq_le {w : Addr} {l : Lv} {ls : List Lv} {H' : Hp} (hb : ∀ x, B₀ x → ∃ o, H' x = some o) (z : Zq K H B₀ H' w l ls top fs) : ∀ x, Bq B₀ w (l :: ls) x → ∃ o, H' x = some o := fun x h => by
 rcases h with h | h
 ·exact hb x h
 ·obtain ⟨xs, q⟩ := z.lists x h; exact ⟨_, q⟩
theorem evQ_len : (evQ ρ u).length = ρ.length := by unfold evQ; simp
theorem evQ_at {i : Nat} (h : i ≠ 5 ∧ i ≠ 6 ∧ i ≠ 7 ∧ i ≠ 8 ∧ i ≠ 9 ∧ i ≠ 10) : (evQ ρ u)[i]? = ρ[i]? := by
 unfold evQ
 rw [za h.2.2.1, za h.2.2.2.1, za h.2.2.2.2.2, za h.2.2.2.2.1, za h.2.1, za h.1]
theorem evQ_no {i : Nat} (h : i = 5 ∨ i = 6 ∨ i = 8 ∨ i = 9 ∨ i = 10) {d : D} : (evQ ρ u)[i]? ≠ some (some d) := by
 unfold evQ
 intro q
 rw [za (by omega)] at q
 by_cases h8 : i = 8
 ·subst h8; have := get_set_eq q; cases this
 ·rw [za h8] at q
  by_cases h10 : i = 10
  ·subst h10; have := get_set_eq q; cases this
  ·rw [za h10] at q
   by_cases h9 : i = 9
   ·subst h9; have := get_set_eq q; cases this
   ·rw [za h9] at q
    by_cases h6 : i = 6
    ·subst h6; have := get_set_eq q; cases this
    ·rw [za h6] at q
     have h5 : i = 5 := by omega
     subst h5; have := get_set_eq q; cases this
theorem evQ_sub {ρ' : Ev} {u' : Int} (hl : ρ'.length = ρ.length) (h7 : ρ'[7]? = some (some (.int u'))) (h : ∀ i, i ≠ 5 ∧ i ≠ 6 ∧ i ≠ 7 ∧ i ≠ 8 ∧ i ≠ 9 ∧ i ≠ 10 → ρ'[i]? = ρ[i]?) : ∀ (i : Nat) d, (evQ ρ u')[i]? = some (some d) → ρ'[i]? = some (some d) := fun i d q => by
 by_cases h1 : i = 5 ∨ i = 6 ∨ i = 8 ∨ i = 9 ∨ i = 10
 ·exact absurd q (evQ_no h1)
 ·by_cases hi : i = 7
  ·subst hi
   have : (evQ ρ u')[7]? = some (some (.int u')) := by
    unfold evQ
    rw [List.getElem?_set_self]
    have := (List.getElem?_eq_some_iff.mp h7).1
    simp only [List.length_set]; omega
   rw [this] at q; cases q; exact h7
  ·rw [h i (by omega), ← evQ_at (ρ := ρ) (u := u') (by omega)]; exact q
theorem cell15 (hrow : ∀ (H₀ : Hp) (B₀ : Addr → Prop) (σ : St) (H : Hp) (ρ : Ev) (d : D) (Q : VK), Md K H₀ B₀ [] σ H ρ → f ρ = some d → (∀ v H', zJ H H' → FR K H H' B₀ d v → Q v H') → te σ H Q)
  (hk1 : ∀ (H₀ : Hp) (B₀ : Addr → Prop) (σ : St) (H : Hp) (ρ : Ev) (d : D) (Q : VK), Md K H₀ B₀ [] σ H ρ → c1 ρ = some d → (∀ v H', zJ H H' → Rep K H' B₀ d v → Q v H') → tk1 σ H Q)
  (hk2 : ∀ (H₀ : Hp) (B₀ : Addr → Prop) (σ : St) (H : Hp) (ρ : Ev) (d : D) (Q : VK), Md K H₀ B₀ [] σ H ρ → c2 ρ = some d → (∀ v H', zJ H H' → Rep K H' B₀ d v → Q v H') → tk2 σ H Q)
  {n : Nat} (hn : ρ.length = n) (hn2 : 10 < n) (hb0 : ∀ x, B₀ x → ∃ o, H x = some o) (h3 : ρ[3]? = some (some (.int deep))) (h4 : ρ[4]? = some (some (.int most)))
  {w : Addr} {l : Lv} {ls : List Lv} {σ : St} {H2 : Hp} (md : Md K H (Bq B₀ w (l :: ls)) [] σ H2 ((evQ ρ u).set 8 (some (.int c)))) (z : Zq K H B₀ H2 w l ls top fs) (g6 : σ[6]? = some (some (.ref w))) (gr : ((l :: ls).getLast (by simp)).a = r) (g5 : σ[5]? = some (some (.ref r))) (g0 : σ[0]? = some (some (.ref p)))
  (hs : stepQ deep most ρ f c1 c2 c top fs u = some ((top', fs'), u')) (hN : ∀ σ' H', St15 K H B₀ ρ p top' fs' u' r σ' H' → N σ' H') :
  tCell15 K n te tk1 tk2 { E with nx := N, ct := N } σ H2 := by
 have hlen : σ.length = n := by rw [md.len, List.length_set, evQ_len, hn]
 have slot : ∀ (i : Nat) (j : Int), ((evQ ρ u).set 8 (some (.int c)))[i]? = some (some (.int j)) → σ[i]? = some (some (.int j)) := fun i j q => by
  obtain ⟨v, h1, h2⟩ := md.sh i _ q (by simp)
  simp only [Rep] at h2
  rw [h2] at h1; exact h1
 have s8 : σ[8]? = some (some (.int c)) := slot 8 c (List.getElem?_set_self (by rw [evQ_len]; omega))
 have e7 : (evQ ρ u)[7]? = some (some (.int u)) := by unfold evQ; rw [List.getElem?_set_self (by simp only [List.length_set]; omega)]
 have s7 : σ[7]? = some (some (.int u)) := slot 7 u (by rw [za (by decide)]; exact e7)
 have s3' : σ[3]? = some (some (.int deep)) := slot 3 deep (by rw [za (by decide), evQ_at (by decide)]; exact h3)
 have s4' : σ[4]? = some (some (.int most)) := slot 4 most (by rw [za (by decide), evQ_at (by decide)]; exact h4)
 have wl : (((ls.reverse.map fun x => V.ref x.q) ++ [.ref l.q]) : List V).length = fs.length + 1 := by
  have := z.ch.len
  simp only [List.length_cons] at this
  rw [List.length_append, List.length_map, List.length_reverse]; simp only [List.length_cons, List.length_nil]; omega
 have other : ¬ (c % 8 = 0 ∧ 0 < fs.length) → tSeq (tAsg te (gName 9)) (tSeq (tAsg tk1 (gName 10)) (tSeq (tAsg tk2 (gName 10)) (tIfS (tTest (tOp (rI0 fun i j => .bl (decide (i ≤ j))) tSum15 (tVar 4))) (tSeq (tAsg tSum15 (gName 7)) (tJoin15 K n)) tNext))) { E with nx := N, ct := N } σ H2 := fun hno => by
  unfold stepQ at hs
  rw [if_neg hno] at hs
  obtain ⟨d, hd, hs1⟩ := zb hs
  split at hs1
  case isFalse => cases hs1
  rename_i hrt
  obtain ⟨k1, hk1', hs2⟩ := zb hs1
  obtain ⟨k2, hk2', hs3⟩ := zb hs2
  obtain ⟨k, hk', hs4⟩ := zb hs3
  clear hs hs1 hs2 hs3
  have ek2 : k2 = .int k := by cases k2 <;> simp only [asI] at hk' <;> cases hk'; rfl
  subst ek2
  refine hrow _ _ σ H2 _ d _ md hd fun v H3 s3 fr => ?_
  have md3 := md.up s3
  obtain ⟨x, ps, rfl⟩ : ∃ x ps, d = .tup (.str x :: ps) := by
   unfold isRowT at hrt
   split at hrt
   ·exact ⟨_, _, rfl⟩
   ·cases hrt
  obtain ⟨b, tr, rfl, htup, hps, alt⟩ : ∃ (b : Addr) (tr : List V), v = .ref b ∧ SqT K H3 b (.str x :: tr) ∧ zk K H3 (Bq B₀ w (l :: ls)) ps tr ∧ (flats ps = true ∨ ∃ cs : List Addr, ps = cs.map (fun _ => D.lst []) ∧ tr = cs.map V.ref ∧ cs.Nodup ∧ (∀ e ∈ cs, H2 e = none ∧ H3 e = some (.lst [])) ∧ H3 b = some (.tup (.str x :: cs.map V.ref))) := by
   rcases fr with ⟨_, q, _, _, _, hw⟩ | ⟨hfl, rep⟩ | ⟨b', x', cs, eb, ed, hnd, hls, hb'⟩
   ·cases q <;> simp only [Own] at hw
   ·simp only [Rep] at rep
    obtain ⟨b, ts, rfl, htup, hts⟩ := rep
    simp only [zk] at hts
    obtain ⟨tx, tr, rfl, hx, hps⟩ := hts
    simp only [Rep] at hx
    subst hx
    exact ⟨b, tr, rfl, htup, hps, .inl (by simpa [D.flat, flats] using hfl)⟩
   ·cases ed
    exact ⟨b', _, eb, .inl (.inl hb'), reps_empties md.blk hls, .inr ⟨cs, rfl, rfl, hnd, hls, hb'⟩⟩
  have rd : Rep K H3 (Bq B₀ w (l :: ls)) (.tup (.str x :: ps)) (.ref b) := by
   simp only [Rep]
   exact ⟨b, _, rfl, htup, .cons (by simp [Rep]) hps⟩
  have md9 : Md K H (Bq B₀ w (l :: ls)) [] (σ.set 9 (some (.ref b))) H3 (((evQ ρ u).set 8 (some (.int c))).set 9 (some (.tup (.str x :: ps)))) := md3.put (os' := []) (fun _ z => nomatch z) (fun _ z => nomatch z) (by rw [bl_nil]; exact rd)
  refine hk1 _ _ _ H3 _ k1 _ md9 hk1' fun v1 H4 s4 r1 => ?_
  have md10 := (md9.up s4).put (i := 10) (os' := []) (v := v1) (d := k1) (fun _ z => nomatch z) (fun _ z => nomatch z) (by rw [bl_nil]; exact r1)
  refine hk2 _ _ _ H4 _ _ _ md10 hk2' fun v2 H5 s5 r2 => ?_
  simp only [Rep] at r2
  subst r2
  have x7 : ((((σ.set 9 (some (.ref b))).set 10 (some v1)).set 10 (some (.int k))) : St)[7]? = some (some (.int u)) := by rw [za (by decide), za (by decide), za (by decide)]; exact s7
  have x4 : ((((σ.set 9 (some (.ref b))).set 10 (some v1)).set 10 (some (.int k))) : St)[4]? = some (some (.int most)) := by rw [za (by decide), za (by decide), za (by decide)]; exact s4'
  have x10 : ((((σ.set 9 (some (.ref b))).set 10 (some v1)).set 10 (some (.int k))) : St)[10]? = some (some (.int k)) := zz (by simp only [List.length_set]; omega)
  refine ⟨.int u, x7, .int k, x10, u, k, rfl, rfl, .int most, x4, u + k, most, rfl, rfl, decide (u + k ≤ most), rfl, ?_⟩
  have s35 : zJ H2 H5 := s3.trans (s4.trans s5)
  by_cases hm : u + k ≤ most
  ·rw [decide_eq_true hm]
   refine ifT ?_
   rw [if_pos hm] at hs4
   obtain ⟨rr, ha, e⟩ := map_some hs4
   cases e
   refine ⟨.int u, x7, .int k, x10, u, k, rfl, rfl, ?_⟩
   have s45 : zJ H3 H5 := s4.trans s5
   refine join15 z md.grow (fun y hy => md.blk y (.inl hy)) s35 (by simp only [List.length_set]; exact hlen) (by rw [za (by decide), za (by decide), za (by decide), za (by decide)]; exact g6) (by rw [za (by decide), za (by decide), za (by decide)]; exact zz (by omega)) (by rw [za (by decide), za (by decide), za (by decide), za (by decide)]; exact s3') (SqT.same s45 htup) (hps.up s45) ?_ ha fun l' ls' H' zq gq keep hlast => ?_
   ·rcases alt with h | ⟨cs, a1, a2, a3, a4, a5⟩
    ·exact .inl h
    ·exact .inr ⟨cs, a1, a2, a3, fun e he => ⟨(a4 e he).1, s45 _ _ (a4 e he).2⟩, s45 _ _ a5⟩
   ·have grow : zJ H H' := fun y o q => keep y o (md.grow _ _ q) fun hm => by rw [(z.new y hm).1] at q; cases q
    have m0 := md.go gq grow (bq_le (fun y hy => by obtain ⟨o, q⟩ := hb0 y hy; exact ⟨o, grow _ _ q⟩) zq)
    have m1 := ((((m0.forget (i := 9) (v := some (.ref b)) (by simp)).forget (i := 10) (v := some v1) (by simp)).forget (i := 10) (v := some (.int k)) (by simp)).put (i := 7) (os' := []) (v := .int (u + k)) (d := .int (u + k)) (fun _ z => nomatch z) (fun _ z => nomatch z) (by simp [Rep]))
    have m2 := md_sub m1 (ρ' := evQ ρ (u + k)) (by simp only [List.length_set, evQ_len]) (evQ_sub (by simp only [List.length_set, evQ_len]) (List.getElem?_set_self (by simp only [List.length_set, evQ_len]; omega)) fun i hi => by
     rw [za hi.2.2.1, za hi.2.2.2.2.2, za hi.2.2.2.2.2, za hi.2.2.2.2.1, za hi.2.2.2.1]; exact evQ_at hi)
    exact hN _ _ ⟨w, l', ls', m2, zq, by rw [za (by decide), za (by decide), za (by decide), za (by decide)]; exact g6, by rw [hlast]; exact gr, by rw [za (by decide), za (by decide), za (by decide), za (by decide)]; exact g5, by rw [za (by decide), za (by decide), za (by decide), za (by decide)]; exact g0⟩
  ·rw [decide_eq_false hm]
   refine ifF ?_
   rw [if_neg hm] at hs4
   cases hs4
   have m1 := (md10.up s5).put (i := 10) (os' := []) (v := .int k) (d := .int k) (fun _ z => nomatch z) (fun _ z => nomatch z) (by simp [Rep])
   have m2 := md_sub m1 (ρ' := evQ ρ u) (by simp only [List.length_set, evQ_len]) (evQ_sub (by simp only [List.length_set, evQ_len]) (by rw [za (by decide), za (by decide), za (by decide), za (by decide)]; exact e7) fun i hi => by
    rw [za hi.2.2.2.2.2, za hi.2.2.2.2.2, za hi.2.2.2.2.1, za hi.2.2.2.1]; exact evQ_at hi)
   exact hN _ _ ⟨w, l, ls, m2, z.up s35, by rw [za (by decide), za (by decide), za (by decide)]; exact g6, gr, by rw [za (by decide), za (by decide), za (by decide)]; exact g5, by rw [za (by decide), za (by decide), za (by decide)]; exact g0⟩
 refine ⟨_, s8, c, 8, rfl, rfl, (show (0 : Int) < 8 by decide), rfl, decide (c % 8 = 0), by rw [show (decide (V.int (c % 8) = V.int 0)) = decide (c % 8 = 0) by simp], ?_⟩
 by_cases h8 : c % 8 = 0
 ·rw [decide_eq_true h8]
  refine ifT ?_
  refine ⟨.ref w, g6, w, _, rfl, .inl (.inl (.inl z.whr')), _, 1, rfl, rfl, decide ((1 : Int) < (((ls.reverse.map fun x => V.ref x.q) ++ [.ref l.q]) : List V).length), rfl, ?_⟩
  cases fs with
  | nil =>
   rw [decide_eq_false (by rw [wl]; simp)]
   refine ifF ?_
   exact other fun q => absurd q.2 (by simp)
  | cons f0 fs0 =>
   rw [decide_eq_true (by rw [wl]; simp; omega)]
   refine ifT ?_
   unfold stepQ at hs
   rw [if_pos ⟨h8, by simp⟩] at hs
   obtain ⟨rr, hp, e⟩ := map_some hs
   cases e
   cases ls with
   | nil => exact absurd z.ch.len (by simp)
   | cons l1 ls1 =>
    have hpost : f0.post = l.ps.map fun _ => D.lst [] := by
     obtain ⟨⟨_, _, _, _, _, _, _, q5⟩, _⟩ := z.ch
     exact q5
    have fin : ∀ (l' : Lv) (ls' : List Lv) (H' : Hp), Zq K H B₀ H' w l' ls' top' fs' → Goes H2 H' (Bq B₀ w (l :: l1 :: ls1)) (Bq B₀ w (l' :: ls')) → (∀ e o, H2 e = some o → e ∉ owns w (l :: l1 :: ls1) → H' e = some o) → (l' :: ls').getLast (by simp) = (l :: l1 :: ls1).getLast (by simp) → N σ H' := fun l' ls' H' zq gq keep hlast => by
     have grow : zJ H H' := fun y o q => keep y o (md.grow _ _ q) fun hm => by rw [(z.new y hm).1] at q; cases q
     have m0 := md.go gq grow (bq_le (fun y hy => by obtain ⟨o, q⟩ := hb0 y hy; exact ⟨o, grow _ _ q⟩) zq)
     have m2 := md_sub m0 (ρ' := evQ ρ u) (by simp only [List.length_set, evQ_len]) (evQ_sub (by simp only [List.length_set, evQ_len]) (by rw [za (by decide)]; exact e7) fun i hi => by
      rw [za hi.2.2.2.1]; exact evQ_at hi)
     exact hN _ _ ⟨w, l', ls', m2, zq, g6, by rw [hlast]; exact gr, g5, g0⟩
    refine pop15 z g6 (fun p' ps' H' hps zq gq keep => ?_) (fun l' ls' H' hls hps zq gq keep => ?_)
    ·unfold popQ at hp
     simp only [hpost, hps, List.map_cons] at hp
     cases hp
     exact fin _ _ H' zq gq keep ((List.getLast_cons (by simp)).trans (List.getLast_cons (by simp)).symm)
    ·cases hls
     unfold popQ at hp
     simp only [hpost, hps, List.map_nil] at hp
     cases hp
     exact fin _ _ H' zq gq keep (List.getLast_cons (by simp)).symm
 ·rw [decide_eq_false h8]
  refine ifF (ifF ?_)
  exact other fun q => h8 q.1
end
def mB15 (f c1 c2 : Ev → Option D) : Ev → Option Out := fun ρ => ((ρ[0]?.join).bind asL).bind fun ds => (intsD ds).bind fun cs => ((ρ[3]?.join).bind asI).bind fun deep => ((ρ[4]?.join).bind asI).bind fun most =>
 if ρ.length = 11 then (goQ deep most ρ f c1 c2 cs [] [] 0).map fun r => .rt (.tup [.lst r.1, .int r.2]) else none
abbrev tB15 (K : Frag) (te tk1 tk2 : TE) : TS := tSeq (tAsg (tLst tNil) (gName 5)) (tSeq (tAsg (tLst (Za (tLst (Za (tVar 5) tNil)) tNil)) (gName 6)) (tSeq (tAsg (tC (.int 0)) (gName 7)) (tSeq (tFor (iList K (tVar 0)) (gName 8) (tCell15 K 11 te tk1 tk2)) (tRet (tTup (Za (tVar 5) (Za (tVar 7) tNil)))))))
section
variable {K : Frag} {te tk1 tk2 : TE} {f c1 c2 : Ev → Option D}
theorem sok_b15 {ol : List Nat} (hrow : ∀ (H₀ : Hp) (B₀ : Addr → Prop) (σ : St) (H : Hp) (ρ : Ev) (d : D) (Q : VK), Md K H₀ B₀ [] σ H ρ → f ρ = some d → (∀ v H', zJ H H' → FR K H H' B₀ d v → Q v H') → te σ H Q)
  (hk1 : ∀ (H₀ : Hp) (B₀ : Addr → Prop) (σ : St) (H : Hp) (ρ : Ev) (d : D) (Q : VK), Md K H₀ B₀ [] σ H ρ → c1 ρ = some d → (∀ v H', zJ H H' → Rep K H' B₀ d v → Q v H') → tk1 σ H Q)
  (hk2 : ∀ (H₀ : Hp) (B₀ : Addr → Prop) (σ : St) (H : Hp) (ρ : Ev) (d : D) (Q : VK), Md K H₀ B₀ [] σ H ρ → c2 ρ = some d → (∀ v H', zJ H H' → Rep K H' B₀ d v → Q v H') → tk2 σ H Q) : SOk K false [] [] ol (tB15 K te tk1 tk2) (mB15 f c1 c2) := by
 intro H₀ B₀ σ H ρ o E mm q k
 obtain ⟨ds, q1, q2⟩ := zb q
 obtain ⟨x0, q3, q4⟩ := zb q1
 obtain ⟨cs, q5, q6⟩ := zb q2
 obtain ⟨deep, q8, q9⟩ := zb q6
 obtain ⟨y3, q10, q11⟩ := zb q8
 obtain ⟨most, q12, q13⟩ := zb q9
 obtain ⟨y4, q14, q15⟩ := zb q12
 split at q13
 case isFalse => cases q13
 rename_i hlen
 obtain ⟨res, q7, rfl⟩ := map_some q13
 have e3 : y3 = .int deep := by cases y3 <;> simp only [asI] at q11 <;> cases q11; rfl
 have e4 : y4 = .int most := by cases y4 <;> simp only [asI] at q15 <;> cases q15; rfl
 subst e3 e4
 cases x0 <;> simp only [asL] at q4 <;> cases q4
 have eds := of_intsD q5
 subst eds
 obtain ⟨v0, h0, r0⟩ := mm.sh 0 _ (join_get q3) (by simp)
 simp only [Rep] at r0
 obtain ⟨p, xs0, rfl, hl0, hr0⟩ := r0
 have e0 := hr0.ints'
 subst e0
 have hσ : σ.length = 11 := by rw [mm.len]; exact hlen
 have mb := mm.base
 refine ⟨by show 0 ≤ sizeLine; decide, fun a ha => ?_⟩
 have s1 : zJ H (upd H a (.lst [])) := zy ha
 refine ⟨.ref a, zz (by rw [hσ]; decide), by show 1 ≤ sizeLine; decide, fun qa hqa => ⟨by show 1 ≤ sizeLine; decide, fun w hw => ?_⟩⟩
 have qne : qa ≠ a := fun e => by rw [e, zv] at hqa; cases hqa
 have s2 : zJ (upd H a (.lst [])) (upd (upd H a (.lst [])) qa (.lst [.ref a])) := zy hqa
 have wq : w ≠ qa := fun e => by rw [e, zv] at hw; cases hw
 have wa : w ≠ a := fun e => by rw [e, zA (Ne.symm qne), zv] at hw; cases hw
 have s3 : zJ (upd (upd H a (.lst [])) qa (.lst [.ref a])) (upd (upd (upd H a (.lst [])) qa (.lst [.ref a])) w (.lst [.ref qa])) := zy hw
 have hqH : H qa = none := s1.free hqa
 have hwH : H w = none := s1.free (s2.free hw)
 have nB : ∀ y, H y = none → ¬ B₀ y := fun y hy hb => by obtain ⟨u, qu⟩ := mm.blk y hb; rw [hy] at qu; cases qu
 have a3 : upd (upd (upd H a (.lst [])) qa (.lst [.ref a])) w (.lst [.ref qa]) a = some (.lst []) := by rw [zA (Ne.symm wa), zA (Ne.symm qne), zv]
 have q3' : upd (upd (upd H a (.lst [])) qa (.lst [.ref a])) w (.lst [.ref qa]) qa = some (.lst [.ref a]) := by rw [zA (Ne.symm wq), zv]
 have w3 : upd (upd (upd H a (.lst [])) qa (.lst [.ref a])) w (.lst [.ref qa]) w = some (.lst [.ref qa]) := zv
 have s13 := s1.trans (s2.trans s3)
 generalize upd (upd (upd H a (.lst [])) qa (.lst [.ref a])) w (.lst [V.ref qa]) = H3 at *
 have own3 : ∀ y ∈ owns w [⟨a, qa, []⟩], H y = none := fun y hy => by
  rcases zR.mp hy with rfl | ⟨v, hv, h⟩
  ·exact hwH
  ·rw [List.mem_singleton.mp hv] at h
   rcases h with rfl | rfl | h
   ·exact ha
   ·exact hqH
   ·cases h
 have z0 : Zq K H B₀ H3 w ⟨a, qa, []⟩ [] [] [] := by
  refine ⟨w3, ⟨[], a3, .nil⟩, fun v hv => ?_, trivial, ?_, fun y hy => ⟨own3 y hy, nB y (own3 y hy)⟩⟩
  ·rw [List.mem_singleton.mp hv]; exact ⟨q3', fun p hp => by cases hp⟩
  ·simp [owns, Lv.own, wa, wq, Ne.symm qne]
 have g13 : Goes H H3 B₀ (Bq B₀ w [⟨a, qa, []⟩]) := goes_own (O := fun _ => False) (fun e o h _ => s13 _ _ h) (fun e z => z.elim) (fun e xs z => z.elim) (fun e he => by
  rcases he with he | he
  ·exact .inl he
  ·exact .inr (own3 e he))
 have m2 : Md K H (Bq B₀ w [⟨a, qa, []⟩]) [] (((σ.set 5 (some (.ref a))).set 6 (some (.ref w))).set 7 (some (.int 0))) H3 (evQ ρ 0) := by
  have m := mb.go g13 s13 (bq_le (fun y hy => by obtain ⟨u, qu⟩ := mm.blk y hy; exact ⟨u, s13 _ _ qu⟩) z0)
  have m1 := ((m.forget (i := 5) (v := some (.ref a)) (by simp)).forget (i := 6) (v := some (.ref w)) (by simp)).put (i := 7) (os' := []) (v := .int 0) (d := .int 0) (fun _ z => nomatch z) (fun _ z => nomatch z) (by simp [Rep])
  exact md_sub m1 (by simp only [List.length_set, evQ_len]) (evQ_sub (by simp only [List.length_set]) (List.getElem?_set_self (by simp only [List.length_set]; omega)) fun i hi => by
   rw [za hi.2.2.1, za hi.2.1, za hi.1])
 have st0 : St15 K H B₀ ρ p [] [] 0 a (((σ.set 5 (some (.ref a))).set 6 (some (.ref w))).set 7 (some (.int 0))) H3 := by
  refine ⟨w, ⟨a, qa, []⟩, [], m2, z0, ?_, rfl, ?_, ?_⟩
  ·rw [za (by decide)]; exact zz (by simp [hσ])
  ·rw [za (by decide), za (by decide)]; exact zz (by rw [hσ]; decide)
  ·rw [za (by decide), za (by decide), za (by decide)]; exact h0
 have e00 : ∀ u, (evQ ρ u)[0]? = some (some (.lst (cs.map .int))) := fun u => by
  rw [evQ_at (by decide)]; exact join_get q3
 have cells : ∀ {top fs u σ' H'}, St15 K H B₀ ρ p top fs u a σ' H' → SqL K H' p (cs.map V.int) := fun {top fs u σ' H'} st => by
  obtain ⟨w', l', ls', md, -, -, -, -, g0⟩ := st.ex
  obtain ⟨v, u1, u2⟩ := md.sh 0 _ (e00 u) (by simp)
  rw [g0] at u1; cases u1
  simp only [Rep] at u2
  obtain ⟨p', xs, ep, hl, hr⟩ := u2
  cases ep
  rw [hr.ints'] at hl
  exact hl.sq
 have h0' : ((((σ.set 5 (some (V.ref a))).set 6 (some (.ref w))).set 7 (some (.int 0))) : St)[0]? = some (some (.ref p)) := by
  rw [za (by decide), za (by decide), za (by decide)]; exact h0
 refine ⟨.ref p, h0', p, rfl, ⟨_, cells st0⟩, ?_⟩
 refine ⟨fun i n σ' H' => n = cs.length - i ∧ i ≤ cs.length ∧ ∃ top fs u, St15 K H B₀ ρ p top fs u a σ' H' ∧ goQ deep most ρ f c1 c2 (cs.drop i) top fs u = some res, ⟨cs.length, by simp, Nat.zero_le _, [], [], 0, st0, by simpa using q7⟩, ?_⟩
 rintro i n σ' H' ⟨rfl, hile, top, fs, u, st, hg⟩
 have hc := cells st
 by_cases hlt : i < cs.length
 ·right
  rw [List.drop_eq_getElem_cons hlt] at hg
  simp only [goQ] at hg
  obtain ⟨⟨⟨top', fs'⟩, u'⟩, r3, r4⟩ := zb hg
  refine ⟨⟨_, .int cs[i], hc, by simp [hlt]⟩, fun σ2 H3 => St15 K H B₀ ρ p top' fs' u' a σ2 H3, fun σ2 H3 st2 => ⟨cs.length - (i + 1), by omega, rfl, hlt, top', fs', u', st2, r4⟩, fun x H3 y => ?_⟩
  obtain ⟨rfl, hy⟩ := y
  have hx := hy _ hc
  rw [List.getElem?_map, List.getElem?_eq_getElem hlt] at hx
  cases hx
  obtain ⟨w', l', ls', md, zp, g6, gl, g5, g0⟩ := st.ex
  have md2 := md.put (i := 8) (os' := []) (v := .int cs[i]) (d := .int cs[i]) (fun _ z => nomatch z) (fun _ z => nomatch z) (by simp [Rep])
  exact cell15 (E := { nx := fun _ _ => True, rt := E.rt, bk := tRet (tTup (Za (tVar 5) (Za (tVar 7) tNil))) E, ct := fun _ _ => True }) hrow hk1 hk2 hlen (by decide) mm.blk (join_get q10) (join_get q14) md2 zp (by rw [za (by decide)]; exact g6) gl (by rw [za (by decide)]; exact g5) (by rw [za (by decide)]; exact g0) r3 fun σ2 H4 h => h
 ·left
  have hi : i = cs.length := by omega
  subst hi
  rw [List.drop_length] at hg
  cases hg
  refine ⟨⟨_, hc, by simp⟩, ?_⟩
  obtain ⟨w', l', ls', md, zp, g6, gl, g5, g0⟩ := st.ex
  have s7 : σ'[7]? = some (some (.int u)) := by
   obtain ⟨v, h1, h2⟩ := md.sh 7 (.int u) (by unfold evQ; rw [List.getElem?_set_self (by simp only [List.length_set]; omega)]) (by simp)
   simp only [Rep] at h2
   rw [h2] at h1; exact h1
  refine ⟨.ref a, g5, .int u, s7, by show 2 ≤ sizeLine; decide, fun t ht => ?_⟩
  have st' : zJ H' (upd H' t (.tup [.ref a, .int u])) := zy ht
  have hr := zp.root
  rw [gl] at hr
  refine k _ _ ((mm.grow.trans md.grow).trans st') (fun y hy => by obtain ⟨o, q⟩ := md.blk y (.inl hy); exact ⟨o, st' _ _ q⟩) ?_
  simp only [Rep]
  exact ⟨t, _, rfl, .inl (.inl zv), .cons (hr.up st') (.cons (by simp [Rep]) .nil)⟩
end
theorem sss_b15 {X : Cx} {ol : List Nat} {s1 s2 s3 s5 : Stmt} {a rest : List Stmt} {tg it t9 t10 t11 c8 : Expr} {p9 p10 p11 pi pf : Pos} {te tk1 tk2 : TE} {f c1 c2 : Ev → Option D} {er e1 e2 : Expr} (hr : SR X true [] er te f) (h1 : SE X true [] e1 tk1 c1) (h2 : SE X true [] e2 tk2 c2)
  (hp : PE X er te → PE X e1 tk1 → PE X e2 tk2 → PSs X [s1, s2, s3, .For tg it [.If c8 a (.Assign [t9] er p9 :: .Assign [t10] e1 p10 :: .Assign [t11] e2 p11 :: rest) pi] [] pf, s5] (tB15 X.K te tk1 tk2)) :
  SSs X false [] [] ol [s1, s2, s3, .For tg it [.If c8 a (.Assign [t9] er p9 :: .Assign [t10] e1 p10 :: .Assign [t11] e2 p11 :: rest) pi] [] pf, s5] (tB15 X.K te tk1 tk2) (mB15 f c1 c2) := by
 have e : ∀ (B₀ : Addr → Prop) (σ : St), BB true B₀ [] σ = B₀ := fun B₀ σ => bl_nil
 exact ⟨hp hr.pe h1.pe h2.pe, sok_b15 (fun H₀ B₀ σ H ρ d Q md hf k => hr.ok H₀ B₀ σ H ρ d Q md hf fun v H' s fr => k v H' s (by rw [e] at fr; exact fr)) (fun H₀ B₀ σ H ρ d Q md hf k => h1.ok H₀ B₀ σ H ρ d Q md hf fun v H' s fr => k v H' s (by rw [e] at fr; exact fr)) (fun H₀ B₀ σ H ρ d Q md hf k => h2.ok H₀ B₀ σ H ρ d Q md hf fun v H' s fr => k v H' s (by rw [e] at fr; exact fr))⟩
structure Kd where
 hd : Frag → Hp → (Addr → Prop) → (Addr → Prop) → Addr → List D → Prop
 mtb : ∀ {K : Frag} {H : Hp} {B P : Addr → Prop} {h : Addr} {S : List D}, hd K H B P h S → ∀ b, P b → ∃ o, H b = some o ∧ Mut (some o)
 goes : ∀ {K : Frag} {H H' : Hp} {B B' P : Addr → Prop} {h : Addr} {S : List D}, hd K H B P h S → Goes H H' B B' → (∀ b o, P b → H b = some o → H' b = some o) → hd K H' B' P h S
def kL : Kd where
 hd K H B P h S := (∀ b, P b ↔ b = h) ∧ ∃ hs, H h = some (.lst hs) ∧ zk K H B S hs
 mtb := fun ⟨p, hs, e, _⟩ b hb => ⟨.lst hs, by rw [(p b).1 hb]; exact e, trivial⟩
 goes := fun ⟨p, hs, e, r⟩ g k => ⟨p, hs, k _ _ ((p _).2 rfl) e, zk.goes g _ _ r⟩
section
variable {K : Frag} {κ : Kd} {H₀ H H' : Hp} {B₀ P : Addr → Prop} {os : List Nat} {σ : St} {ρ : Ev} {h : Addr} {i : Nat} {S S' : List D}
theorem goes_but {B B' P : Addr → Prop} (h1 : ∀ e o, H e = some o → ¬ P e → H' e = some o) (hm : ∀ e o, P e → H e = some o → Mut (some o)) (hP : ∀ e, P e → B e) (hB : ∀ e, B' e → B e ∨ H e = none) : Goes H H' B B' := by
 have nm : ∀ e o, H e = some o → ¬ Mut (some o) → H' e = some o := fun e o q n => h1 _ _ q fun z => n (hm _ _ z q)
 have nb : ∀ e o, H e = some o → ¬ B e → H' e = some o ∧ ¬ B' e := fun e o q n => ⟨h1 _ _ q fun z => n (hP _ z), fun z => (hB e z).elim n fun z => by rw [q] at z; cases z⟩
 refine ⟨fun a xs q => ?_, fun a xs q n => ?_, fun a kvs q n => nb _ _ q n, fun a o u q => nm _ _ q fun z => z, fun a xs q => nm _ _ q fun z => z⟩
 ·rcases q with q | ⟨o, q⟩
  ·exact .inl (nm _ _ q fun z => z)
  ·exact .inr ⟨o, nm _ _ q fun z => z⟩
 ·rcases q with q | ⟨o, q⟩
  ·exact ⟨.inl (nb _ _ q n).1, (nb _ _ q n).2⟩
  ·exact ⟨.inr ⟨o, (nb _ _ q n).1⟩, (nb _ _ q n).2⟩
theorem md_but {P : Addr → Prop} (m : Md K H₀ B₀ os σ H ρ) (hB : ∀ b, P b → B₀ b) (hn : ∀ b, P b → H₀ b = none) (hm : ∀ b, P b → ∃ o, H b = some o ∧ Mut (some o)) (hk : ∀ b o, H b = some o → ¬ P b → H' b = some o) (he : ∀ b, P b → ∃ o, H' b = some o) : Md K H₀ B₀ os σ H' ρ ∧ Goes H H' (Bl B₀ os σ) (Bl B₀ os σ) := by
 have g : Goes H H' (Bl B₀ os σ) (Bl B₀ os σ) := goes_but hk (fun e o z q => by obtain ⟨o', q', n⟩ := hm e z; rw [q] at q'; cases q'; exact n) (fun e z => .inl (hB e z)) fun e z => .inl z
 refine ⟨⟨fun b u q => hk _ _ (m.grow _ _ q) fun e => (by rw [hn b e] at q; cases q), fun b hb => ?_, m.len, fun j d q n => ?_, fun j hj => ?_, m.sep⟩, g⟩
 ·by_cases e : P b
  ·exact he b e
  ·obtain ⟨o, q⟩ := m.blk b hb; exact ⟨o, hk _ _ q e⟩
 ·obtain ⟨v, h1, h2⟩ := m.sh j d q n
  exact ⟨v, h1, Rep.goes g _ _ h2⟩
 ·obtain ⟨a, u, d, h1, h2, h3, h4, h5⟩ := m.own j hj
  exact ⟨a, u, d, h1, h2, hk _ _ h3 (fun e => h4.2 (hB a e)), h4, h5.goes g⟩
structure Wd (K : Frag) (κ : Kd) (H₀ : Hp) (B₀ P : Addr → Prop) (os : List Nat) (i : Nat) (h : Addr) (S : List D) (σ : St) (H : Hp) (ρ : Ev) : Prop where
 md : Md K H₀ B₀ os σ H ρ
 blk : ∀ b, P b → B₀ b
 new : ∀ b, P b → H₀ b = none
 at_ : κ.hd K H (Bl B₀ os σ) P h S
 slot : ρ[i]? = some (some (.adr h))
 off : i ∉ os
theorem Wd.ref (w : Wd K κ H₀ B₀ P os i h S σ H ρ) : σ[i]? = some (some (.ref h)) := by
 obtain ⟨v, h1, h2⟩ := w.md.sh i _ w.slot w.off
 simp only [Rep] at h2
 rw [h2] at h1; exact h1
theorem Wd.free (w : Wd K κ H₀ B₀ P os i h S σ H ρ) {b : Addr} (hb : P b) : ¬ ∃ j, j ∈ os ∧ σ[j]? = some (some (.ref b)) := by
 rintro ⟨j, hj, e⟩
 obtain ⟨a, u, d, h1, h2, h3, h4, h5⟩ := w.md.own j hj
 rw [e] at h1; cases h1
 exact h4.2 (w.blk b hb)
theorem Wd.write (w : Wd K κ H₀ B₀ P os i h S σ H ρ) (hk : ∀ b o, H b = some o → ¬ P b → H' b = some o) (r : κ.hd K H' (Bl B₀ os σ) P h S') : Wd K κ H₀ B₀ P os i h S' σ H' ρ :=
 ⟨(md_but w.md w.blk w.new (κ.mtb w.at_) hk fun b z => by obtain ⟨o, q, _⟩ := κ.mtb r b z; exact ⟨o, q⟩).1, w.blk, w.new, r, w.slot, w.off⟩
theorem Wd.goes (w : Wd K κ H₀ B₀ P os i h S σ H ρ) (hk : ∀ b o, H b = some o → ¬ P b → H' b = some o) : Goes H H' (Bl B₀ os σ) (Bl B₀ os σ) :=
 goes_but hk (fun e o z q => by obtain ⟨o', q', n⟩ := κ.mtb w.at_ e z; rw [q] at q'; cases q'; exact n) (fun e z => .inl (w.blk e z)) fun e z => .inl z
def WEOk (K : Frag) (κ : Kd) (st : Bool) (os : List Nat) (i : Nat) (t : TE) (F : Ev → List D → Option (D × List D)) : Prop :=
 ∀ (H₀ : Hp) (B₀ P : Addr → Prop) (h : Addr) (σ : St) (H : Hp) (ρ : Ev) (S : List D) (d : D) (S' : List D) (Q : VK), Wd K κ H₀ B₀ P os i h S σ H ρ → F ρ S = some (d, S') →
  (∀ v H', (∀ b o, H b = some o → ¬ P b → H' b = some o) → Wd K κ H₀ B₀ P os i h S' σ H' ρ → Rep K H' (BB st B₀ os σ) d v → Q v H') → t σ H Q
def WAOk (K : Frag) (κ : Kd) (os : List Nat) (i : Nat) (t : TA) (F : Ev → List D → Option (List D × List D)) : Prop :=
 ∀ (H₀ : Hp) (B₀ P : Addr → Prop) (h : Addr) (σ : St) (H : Hp) (ρ : Ev) (S : List D) (ds : List D) (S' : List D) (Q : List V → Hp → Prop), Wd K κ H₀ B₀ P os i h S σ H ρ → F ρ S = some (ds, S') →
  (∀ vs H', (∀ b o, H b = some o → ¬ P b → H' b = some o) → Wd K κ H₀ B₀ P os i h S' σ H' ρ → zk K H' (Bl B₀ os σ) ds vs → Q vs H') → t σ H Q
def WFOk (K : Frag) (κ : Kd) (os : List Nat) (i : Nat) (t : TE) (F : Ev → List D → Option (D × List D)) : Prop :=
 ∀ (H₀ : Hp) (B₀ P : Addr → Prop) (h : Addr) (σ : St) (H : Hp) (ρ : Ev) (S : List D) (d : D) (S' : List D) (Q : VK), Wd K κ H₀ B₀ P os i h S σ H ρ → F ρ S = some (d, S') →
  (∀ a o H', (∀ b o, H b = some o → ¬ P b → H' b = some o) → Wd K κ H₀ B₀ P os i h S' σ H' ρ → H a = none → H' a = some o → Own K H' (fun b => Bl B₀ os σ b ∨ b = a) o d → κ.hd K H' (fun b => Bl B₀ os σ b ∨ b = a) P h S' → Q (.ref a) H') → t σ H Q
def wL {α : Type} (f : Ev → Option α) : Ev → List D → Option (α × List D) := fun ρ S => (f ρ).map fun d => (d, S)
theorem Wd.up (w : Wd K κ H₀ B₀ P os i h S σ H ρ) (s : zJ H H') : Wd K κ H₀ B₀ P os i h S σ H' ρ :=
 ⟨w.md.up s, w.blk, w.new, κ.goes w.at_ (w.goes fun b o q _ => s _ _ q) fun b o _ q => s _ _ q, w.slot, w.off⟩
theorem we_lift {st : Bool} {t : TE} {f : Ev → Option D} (e : EOk K st os t f) : WEOk K κ st os i t (wL f) := fun H₀ B₀ P h σ H ρ S d S' Q w q k => by
 obtain ⟨d', q1, q2⟩ := map_some q
 cases q2
 exact e H₀ B₀ σ H ρ d Q w.md q1 fun v H' s r => k v H' (fun b o q _ => s _ _ q) (w.up s) r
theorem wa_lift {t : TA} {f : Ev → Option (List D)} (e : AOk K true os t f) : WAOk K κ os i t (wL f) := fun H₀ B₀ P h σ H ρ S d S' Q w q k => by
 obtain ⟨d', q1, q2⟩ := map_some q
 cases q2
 exact e H₀ B₀ σ H ρ d Q w.md q1 fun v H' s r => k v H' (fun b o q _ => s _ _ q) (w.up s) r
def WEnd (K : Frag) (κ : Kd) (H₀ : Hp) (B₀ P : Addr → Prop) (os' ol : List Nat) (i : Nat) (h : Addr) (E : Ends) : Out → List D → Prop
 | .nx ρ', S' => ∀ σ' H', Wd K κ H₀ B₀ P os' i h S' σ' H' ρ' → E.nx σ' H'
 | .rt d, S' => ∀ v H', zJ H₀ H' → κ.hd K H' B₀ P h S' → (∀ b, B₀ b → ∃ o, H' b = some o) → Rep K H' B₀ d v → E.rt v H'
 | .bk ρ', S' => ∀ σ' H', Wd K κ H₀ B₀ P ol i h S' σ' H' ρ' → E.bk σ' H'
 | .ct ρ', S' => ∀ σ' H', Wd K κ H₀ B₀ P ol i h S' σ' H' ρ' → E.ct σ' H'
def WOk (K : Frag) (κ : Kd) (os os' ol : List Nat) (i : Nat) (t : TS) (M : Ev → List D → Option (Out × List D)) : Prop :=
 ∀ (H₀ : Hp) (B₀ P : Addr → Prop) (h : Addr) (σ : St) (H : Hp) (ρ : Ev) (S : List D) (o : Out) (S' : List D) (E : Ends), Wd K κ H₀ B₀ P os i h S σ H ρ → M ρ S = some (o, S') → WEnd K κ H₀ B₀ P os' ol i h E o S' → t E σ H
open Classical in
noncomputable def bare (os : List Nat) (σ : St) (H : Hp) : Hp := fun b => if ∃ j, j ∈ os ∧ σ[j]? = some (some (.ref b)) then none else H b
theorem bare_own {b : Addr} (hb : ∃ j, j ∈ os ∧ σ[j]? = some (some (.ref b))) : bare os σ H b = none := if_pos hb
theorem bare_no {b : Addr} (hb : ¬ ∃ j, j ∈ os ∧ σ[j]? = some (some (.ref b))) : bare os σ H b = H b := if_neg hb
theorem Md.bare (m : Md K H₀ B₀ os σ H ρ) : Md K (M.bare os σ H) B₀ os σ H ρ := by
 refine ⟨fun b o q => ?_, m.blk, m.len, m.sh, fun j hj => ?_, m.sep⟩
 ·by_cases e : ∃ j, j ∈ os ∧ σ[j]? = some (some (.ref b))
  ·rw [bare_own e] at q; cases q
  ·rwa [bare_no e] at q
 ·obtain ⟨a, u, d, h1, h2, h3, h4, h5⟩ := m.own j hj
  exact ⟨a, u, d, h1, h2, h3, ⟨bare_own ⟨j, hj, h1⟩, h4.2⟩, h5⟩
theorem Md.same0 (m : Md K H₀ B₀ os σ H ρ) (s : zJ (M.bare os σ H) H') : zJ H₀ H' := fun b o q => s _ _ (by
 rw [bare_no]
 ·exact m.grow _ _ q
 ·rintro ⟨j, hj, e⟩
  obtain ⟨a, u, d, h1, h2, h3, h4, h5⟩ := m.own j hj
  rw [e] at h1; cases h1
  rw [h4.1] at q; cases q)
theorem Md.unbare {os' : List Nat} {σ' : St} {ρ' : Ev} (m : Md K H₀ B₀ os σ H ρ) (m' : Md K (M.bare os σ H) B₀ os' σ' H' ρ') : Md K H₀ B₀ os' σ' H' ρ' := by
 refine ⟨m.same0 m'.grow, m'.blk, m'.len, m'.sh, fun j hj => ?_, m'.sep⟩
 obtain ⟨a, u, d, h1, h2, h3, h4, h5⟩ := m'.own j hj
 refine ⟨a, u, d, h1, h2, h3, ⟨?_, h4.2⟩, h5⟩
 cases q : H₀ a with
 | none => rfl
 | some o => have := m.same0 (H' := M.bare os σ H) (.refl _) a o q; rw [h4.1] at this; cases this
theorem Md.goesB {os' : List Nat} {σ' : St} (m : Md K H₀ B₀ os σ H ρ) (s : zJ (M.bare os σ H) H') (hB : ∀ a, Bl B₀ os' σ' a → B₀ a ∨ M.bare os σ H a = none) : Goes H H' (Bl B₀ os σ) (Bl B₀ os' σ') := by
 have no : ∀ e o, H e = some o → ¬ Mut (some o) → ¬ ∃ j, j ∈ os ∧ σ[j]? = some (some (.ref e)) := by
  rintro e o q n ⟨j, hj, z⟩
  obtain ⟨a, u, d, h1, h2, h3, h4, h5⟩ := m.own j hj
  rw [z] at h1; cases h1
  rw [q] at h3; cases h3
  exact n h5.mut
 have kp : ∀ e o, H e = some o → (¬ ∃ j, j ∈ os ∧ σ[j]? = some (some (.ref e))) → H' e = some o := fun e o h n => s _ _ (by rw [bare_no n]; exact h)
 have nb : ∀ e o, H e = some o → ¬ Bl B₀ os σ e → ¬ Bl B₀ os' σ' e := fun e o q n z => by
  rcases hB e z with h | h
  ·exact n (.inl h)
  ·rw [bare_no (fun z => n (.inr z)), q] at h; cases h
 refine ⟨fun a xs q => ?_, fun a xs q n => ⟨?_, ?_⟩, fun a kvs q n => ⟨kp _ _ q fun z => n (.inr z), nb _ _ q n⟩, fun a o u q => kp _ _ q (no _ _ q fun z => z), fun a xs q => kp _ _ q (no _ _ q fun z => z)⟩
 ·rcases q with q | ⟨o, q⟩
  ·exact .inl (kp _ _ q (no _ _ q fun z => z))
  ·exact .inr ⟨o, kp _ _ q (no _ _ q fun z => z)⟩
 ·rcases q with q | ⟨o, q⟩
  ·exact .inl (kp _ _ q fun z => n (.inr z))
  ·exact .inr ⟨o, kp _ _ q fun z => n (.inr z)⟩
 ·rcases q with q | ⟨o, q⟩
  ·exact nb _ _ q n
  ·exact nb _ _ q n
def wM (m : Ev → Option Out) : Ev → List D → Option (Out × List D) := fun ρ S => (m ρ).map fun o => (o, S)
def Keeps (i : Nat) (m : Ev → Option Out) : Prop := ∀ ρ o, m ρ = some o → match o with
 | .nx ρ' => ρ'[i]? = ρ[i]?
 | .bk ρ' => ρ'[i]? = ρ[i]?
 | .ct ρ' => ρ'[i]? = ρ[i]?
 | .rt _ => True
theorem ws_lift {os' ol : List Nat} {t : TS} {m : Ev → Option Out} (hs : SOk K false os os' ol t m) (hi : i ∉ os') (hl : i ∉ ol) (hk : Keeps i m) : WOk K κ os os' ol i t (wM m) := fun H₀ B₀ P h σ H ρ S o S' E w q k => by
 obtain ⟨o', q1, q2⟩ := map_some q
 cases q2
 have hh : ∀ b, P b → M.bare os σ H b = H b := fun b hb => bare_no (w.free hb)
 have own : ∀ {os2 : List Nat} {σ2 : St} {H2 : Hp} {ρ2 : Ev}, Md K (M.bare os σ H) B₀ os2 σ2 H2 ρ2 → ∀ a, Bl B₀ os2 σ2 a → B₀ a ∨ M.bare os σ H a = none := fun m2 a ha => by
  rcases ha with ha | ⟨j, hj, e⟩
  ·exact .inl ha
  ·obtain ⟨a', u, d, g1, g2, g3, g4, g5⟩ := m2.own j hj
   rw [e] at g1; cases g1
   exact .inr g4.1
 have fin : ∀ {os2 : List Nat} {σ2 : St} {H2 : Hp} {ρ2 : Ev}, i ∉ os2 → ρ2[i]? = ρ[i]? → Md K (M.bare os σ H) B₀ os2 σ2 H2 ρ2 → Wd K κ H₀ B₀ P os2 i h S σ2 H2 ρ2 := fun hi2 e m2 =>
  ⟨w.md.unbare m2, w.blk, w.new, κ.goes w.at_ (w.md.goesB m2.grow (own m2)) fun b o hb q => m2.grow _ _ (by rw [hh b hb]; exact q), e.trans w.slot, hi2⟩
 refine hs (M.bare os σ H) B₀ σ H ρ o E w.md.bare q1 ?_
 have kk := hk ρ o q1
 cases o with
 | nx ρ' => exact fun σ' H' m' => k σ' H' (fin hi kk m')
 | bk ρ' => exact fun σ' H' m' => k σ' H' (fin hl kk m')
 | ct ρ' => exact fun σ' H' m' => k σ' H' (fin hl kk m')
 | rt d =>
  have g : ∀ {H' : Hp}, zJ (M.bare os σ H) H' → Goes H H' (Bl B₀ os σ) (Bl B₀ [] σ) := fun s => w.md.goesB (os' := []) (σ' := σ) s fun a ha => .inl (by rw [bl_nil] at ha; exact ha)
  refine fun v H' s hb r => k v H' (w.md.same0 s) ?_ hb r
  have := κ.goes w.at_ (g s) fun b o hb q => s _ _ (by rw [hh b hb]; exact q)
  rwa [bl_nil] at this
end
abbrev WF := Ev → List D → Option (D × List D)
abbrev WM := Ev → List D → Option (Out × List D)
section
variable {K : Frag} {κ : Kd} {os os1 os' ol : List Nat} {i : Nat} {t u : TS} {M1 M2 : WM} {H₀ H H' : Hp} {B₀ P : Addr → Prop} {σ : St} {ρ : Ev} {h : Addr} {S S' : List D}
theorem Rep.low {st : Bool} {d : D} {v : V} (r : Rep K H (Bl B₀ os σ) d v) : Rep K H (BB st B₀ os σ) d v := by
 cases st with
 | true => exact r
 | false => exact Rep.goes (Goes.less (B := Bl B₀ os σ) (fun a ha => Or.inl ha) (.refl H)) _ _ r
def wSeq (M1 M2 : WM) : WM := fun ρ S => (M1 ρ S).bind fun r => match r.1 with
 | .nx ρ' => M2 ρ' r.2
 | o => some (o, r.2)
theorem ws_seq (h1 : WOk K κ os os1 ol i t M1) (h2 : WOk K κ os1 os' ol i u M2) : WOk K κ os os' ol i (tSeq t u) (wSeq M1 M2) := fun H₀ B₀ P h σ H ρ S o S' E w q k => by
 obtain ⟨⟨o1, S1⟩, q1, q2⟩ := zb q
 refine h1 H₀ B₀ P h σ H ρ S o1 S1 _ w q1 ?_
 cases o1 with
 | nx ρ' => exact fun σ' H' w' => h2 H₀ B₀ P h σ' H' ρ' S1 o S' E w' q2 k
 | rt d => cases q2; exact k
 | bk ρ' => cases q2; exact k
 | ct ρ' => cases q2; exact k
def WTOk (K : Frag) (κ : Kd) (os : List Nat) (i : Nat) (t : TT) (c : Ev → List D → Option (Bool × List D)) : Prop :=
 ∀ (H₀ : Hp) (B₀ P : Addr → Prop) (h : Addr) (σ : St) (H : Hp) (ρ : Ev) (S : List D) (b : Bool) (S' : List D) (Q : Bool → Hp → Prop), Wd K κ H₀ B₀ P os i h S σ H ρ → c ρ S = some (b, S') →
  (∀ H', (∀ b o, H b = some o → ¬ P b → H' b = some o) → Wd K κ H₀ B₀ P os i h S' σ H' ρ → Q b H') → t σ H Q
theorem wt_lift {t : TT} {c : Ev → Option Bool} (hc : TOk K os t c) : WTOk K κ os i t (wL c) := fun H₀ B₀ P h σ H ρ S b S' Q w q k => by
 obtain ⟨d', q1, q2⟩ := map_some q
 cases q2
 exact hc H₀ B₀ σ H ρ b Q w.md q1 fun H' s => k H' (fun b o q _ => s _ _ q) (w.up s)
def wTest (F : WF) : Ev → List D → Option (Bool × List D) := fun ρ S => (F ρ S).bind fun r => (asB r.1).map fun b => (b, r.2)
theorem wt_val {te : TE} {F : WF} (he : WEOk K κ false os i te F) : WTOk K κ os i (tTest te) (wTest F) := fun H₀ B₀ P h σ H ρ S b S' Q w q k => by
 obtain ⟨⟨x, S1⟩, h1, h2⟩ := zb q
 obtain ⟨c, h3, h4⟩ := map_some h2
 cases h4
 refine he H₀ B₀ P h σ H ρ S x S1 _ w h1 fun v H' hk w' r => ?_
 cases x <;> simp only [asB] at h3 <;> cases h3
 simp only [Rep] at r
 exact ⟨_, r, k H' hk w'⟩
def wIf (c : Ev → List D → Option (Bool × List D)) (M1 M2 : WM) : WM := fun ρ S => (c ρ S).bind fun r => if r.1 then M1 ρ r.2 else M2 ρ r.2
theorem ws_if {tc : TT} {c : Ev → List D → Option (Bool × List D)} (hc : WTOk K κ os i tc c) (h1 : WOk K κ os os' ol i t M1) (h2 : WOk K κ os os' ol i u M2) : WOk K κ os os' ol i (tIfS tc t u) (wIf c M1 M2) := fun H₀ B₀ P h σ H ρ S o S' E w q k => by
 obtain ⟨⟨b, S1⟩, q1, q2⟩ := zb q
 refine hc H₀ B₀ P h σ H ρ S b S1 _ w q1 fun H' s w' => ?_
 cases b with
 | true => exact ifT (h1 H₀ B₀ P h σ H' ρ S1 o S' E w' q2 k)
 | false => exact ifF (h2 H₀ B₀ P h σ H' ρ S1 o S' E w' q2 k)
theorem Wd.put {j : Nat} {d : D} {v : V} (w : Wd K κ H₀ B₀ P os i h S σ H ρ) (hj : j ≠ i) (hos : ∀ x ∈ os, x ≠ j) (r : Rep K H (Bl B₀ os σ) d v) : Wd K κ H₀ B₀ P os i h S (σ.set j (some v)) H (ρ.set j (some d)) :=
 ⟨w.md.put (fun x hx => ⟨hx, hos x hx⟩) (fun x hx => .inl hx) r, w.blk, w.new, κ.goes w.at_ (.less (fun a ha => by
  rcases ha with ha | ⟨x, hx, e⟩
  ·exact .inl ha
  ·exact .inr ⟨x, hx, by rw [za (hos x hx)] at e; exact e⟩) (.refl H)) (fun _ _ _ q => q), by rw [za (Ne.symm hj)]; exact w.slot, w.off⟩
def wSet (j : Nat) (F : WF) : WM := fun ρ S => (F ρ S).map fun r => (.nx (ρ.set j (some r.1)), r.2)
theorem ws_set {j : Nat} {te : TE} {F : WF} (he : WEOk K κ true os i te F) (hj : j ≠ i) (hos : ∀ x ∈ os, x ≠ j) : WOk K κ os os ol i (tAsg te (gName j)) (wSet j F) := fun H₀ B₀ P h σ H ρ S o S' E w q k => by
 obtain ⟨⟨d, S1⟩, q1, q2⟩ := map_some q
 cases q2
 exact he H₀ B₀ P h σ H ρ S d _ _ w q1 fun v H' hk w' r => k _ _ (w'.put hj hos r)
def wRet (F : WF) : WM := fun ρ S => (F ρ S).map fun r => (.rt r.1, r.2)
theorem Wd.out (w : Wd K κ H₀ B₀ P os i h S σ H ρ) : κ.hd K H B₀ P h S := κ.goes w.at_ (Goes.less (B := Bl B₀ os σ) (fun a ha => Or.inl ha) (.refl H)) fun _ _ _ q => q
theorem ws_ret {te : TE} {F : WF} (he : WEOk K κ false os i te F) : WOk K κ os os' ol i (tRet te) (wRet F) := fun H₀ B₀ P h σ H ρ S o S' E w q k => by
 obtain ⟨⟨d, S1⟩, q1, q2⟩ := map_some q
 cases q2
 exact he H₀ B₀ P h σ H ρ S d _ _ w q1 fun v H' hk w' r => k v H' w'.md.grow w'.out w'.md.blk r
theorem Wd.list {vs : List V} (w : Wd K kL H₀ B₀ P os i h S σ H ρ) (r : zk K H (Bl B₀ os σ) S' vs) : Wd K kL H₀ B₀ P os i h S' σ (upd H h (.lst vs)) ρ := by
 obtain ⟨p, hs, h1, h2⟩ := w.at_
 have hk : ∀ b o, H b = some o → ¬ P b → upd H h (.lst vs) b = some o := fun b o q n => by rw [zA (fun e => n ((p b).2 e))]; exact q
 exact w.write hk ⟨p, vs, zv, zk.goes (w.goes hk) _ _ r⟩
def wIx (fk : Ev → Option D) : WF := fun ρ S => (fk ρ).bind fun d => (asI d).bind fun k => (atI S k).map fun x => (x, S)
theorem we_ix {st : Bool} {tk : TE} {fk : Ev → Option D} (he : EOk K true os tk fk) : WEOk K kL st os i (tOp (rIxL K) (tVar i) tk) (wIx fk) := fun H₀ B₀ P h σ H ρ S d S' Q w q k => by
 obtain ⟨dk, q1, q2⟩ := zb q
 obtain ⟨n, q3, q4⟩ := zb q2
 obtain ⟨x, q5, q6⟩ := map_some q4
 cases q6
 have e : dk = .int n := by cases dk <;> simp only [asI] at q3 <;> cases q3; rfl
 subst e
 refine ⟨.ref h, w.ref, he H₀ B₀ σ H ρ _ _ w.md q1 fun v H' s r => ?_⟩
 simp only [Rep] at r
 subst r
 have w' := w.up s
 obtain ⟨p, hs, h1, h2⟩ := w'.at_
 obtain ⟨v, e1, r1⟩ := h2.atI q5
 exact ⟨h, hs, n, v, rfl, rfl, .inl (.inl h1), e1, k v H' (fun b o q _ => s _ _ q) w' r1.low⟩
def wSetIx (F : WF) (fk : Ev → Option D) : WM := fun ρ S => (F ρ S).bind fun r => (fk ρ).bind fun d => (asI d).bind fun k => (ixN r.2.length k).map fun j => (.nx ρ, r.2.set j r.1)
theorem ws_hset {te ti : TE} {F : WF} {fk : Ev → Option D} (he : WEOk K kL true os i te F) (hk : EOk K false os ti fk) : WOk K kL os os ol i (tAsg te (gSub (tVar i) ti rSetL)) (wSetIx F fk) := fun H₀ B₀ P h σ H ρ S o S' E w q k => by
 obtain ⟨⟨d, S1⟩, q1, q2⟩ := zb q
 obtain ⟨kd, q3, q4⟩ := zb q2
 obtain ⟨n, q5, q6⟩ := zb q4
 obtain ⟨j, q7, q8⟩ := map_some q6
 cases q8
 refine he H₀ B₀ P h σ H ρ S d S1 _ w q1 fun v H1 hk1 w1 r1 => ?_
 refine ⟨.ref h, w1.ref, ?_⟩
 refine hk H₀ B₀ σ H1 ρ kd _ w1.md q3 fun w' H2 s2 r2 => ?_
 have e2 := asI_v r2 q5
 subst e2
 have w2 := w1.up s2
 obtain ⟨p, hs, h1, h2⟩ := w2.at_
 exact ⟨h, _, n, j, rfl, rfl, h1, by rw [h2.length]; exact q7, k σ _ (w2.list (h2.set j (Rep.up s2 r1)))⟩
def w2 (g : D → D → Option D) (F G : WF) : WF := fun ρ S => (F ρ S).bind fun r => (G ρ r.2).bind fun q => (g r.1 q.1).map fun d => (d, q.2)
theorem we_opOk {st : Bool} {r : R2} {g : D → D → Option D} {ta tb : TE} {F G : WF} (hr : ROk K r g) (ha : WEOk K κ true os i ta F) (hb : WEOk K κ true os i tb G) : WEOk K κ st os i (tOp r ta tb) (w2 g F G) := fun H₀ B₀ P h σ H ρ S d S' Q w q k => by
 obtain ⟨⟨x, S1⟩, q1, q2⟩ := zb q
 obtain ⟨⟨y, S2⟩, q3, q4⟩ := zb q2
 obtain ⟨z, q5, q6⟩ := map_some q4
 cases q6
 refine ha H₀ B₀ P h σ H ρ S x S1 _ w q1 fun v H1 k1 w1 r1 => ?_
 refine hb H₀ B₀ P h σ H1 ρ S1 y _ _ w1 q3 fun u H2 k2 w2 r2 => ?_
 exact hr H2 (Bl B₀ os σ) v u x y _ Q (fun a ha => w2.md.tracked ha) (Rep.goes (w1.goes k2) _ _ r1) r2 q5 fun z H3 s3 r3 => k z H3 (fun b o q n => s3 _ _ (k2 _ _ (k1 _ _ q n) n)) (w2.up s3) r3.low
theorem WFOk.eok {st : Bool} {te : TE} {F : WF} (h : WFOk K κ os i te F) : WEOk K κ st os i te F := fun H₀ B₀ P h' σ H ρ S d S' Q w q k => h H₀ B₀ P h' σ H ρ S d S' Q w q fun a o H' s w' hn ho hw _ => k _ _ s w' (Rep.bb (hw.rep ho (w.md.ntracked hn)))
abbrev WL := Ev → List D → Option (List D × List D)
def zH (F : WF) (G : WL) : WL := fun ρ S => (F ρ S).bind fun r => (G ρ r.2).map fun q => (r.1 :: q.1, q.2)
theorem wa_consOk {te : TE} {tl : TA} {F : WF} {G : WL} (ha : WEOk K κ true os i te F) (hr : WAOk K κ os i tl G) : WAOk K κ os i (Za te tl) (zH F G) := fun H₀ B₀ P h σ H ρ S ds S' Q w q k => by
 obtain ⟨⟨x, S1⟩, q1, q2⟩ := zb q
 obtain ⟨⟨ys, S2⟩, q3, q4⟩ := map_some q2
 cases q4
 refine ha H₀ B₀ P h σ H ρ S x S1 _ w q1 fun v H1 k1 w1 r1 => ?_
 refine hr H₀ B₀ P h σ H1 ρ S1 ys _ _ w1 q3 fun vs H2 k2 w2 r2 => ?_
 exact k _ H2 (fun b o q n => k2 _ _ (k1 _ _ q n) n) w2 (.cons (Rep.goes (w1.goes k2) _ _ r1) r2)
def wTup (G : WL) : WF := fun ρ S => (G ρ S).bind fun r => (dTup r.1).map fun d => (d, r.2)
theorem we_tupOk {st : Bool} {tl : TA} {G : WL} (ha : WAOk K κ os i tl G) : WEOk K κ st os i (tTup tl) (wTup G) := fun H₀ B₀ P h σ H ρ S d S' Q w q k => by
 obtain ⟨⟨ds, S1⟩, q1, q2⟩ := zb q
 obtain ⟨d', q3, q4⟩ := map_some q2
 cases q4
 unfold dTup at q3
 split at q3
 case isFalse => cases q3
 cases q3
 rename_i hl
 refine ha H₀ B₀ P h σ H ρ S ds _ _ w q1 fun vs H1 k1 w1 r1 => ⟨by rw [r1.length]; exact hl, fun p hp => ?_⟩
 refine k _ _ (fun b o q n => zy hp _ _ (k1 _ _ q n)) (w1.up (zy hp)) (Rep.low ?_)
 simp only [Rep]
 exact ⟨p, vs, rfl, .inl (.inl zv), r1.up (zy hp)⟩
def spW (K : Frag) (κ : Kd) (i0 : Nat) (m : List D → List D → Option (D × List D)) : Sp := fun vs H Q _ => ∃ (B P : Addr → Prop) (ds : List D) (d : D) (S S' : List D) (h : Addr), (∀ a, B a → ∃ o, H a = some o) ∧ (∀ b, P b → B b) ∧ κ.hd K H B P h S ∧ zk K H B ds vs ∧ ds[i0]? = some (.adr h) ∧ m ds S = some (d, S') ∧
 ∀ v H', (∀ b o, H b = some o → ¬ P b → H' b = some o) → κ.hd K H' B P h S' → Rep K H' B d v → Q v H'
def wCall (i0 : Nat) (m : List D → List D → Option (D × List D)) (G : WL) : WF := fun ρ S => (G ρ S).bind fun r => m r.1 r.2
theorem we_callOk {st : Bool} {i0 : Nat} {m : List D → List D → Option (D × List D)} {tl : TA} {G : WL} (ha : WAOk K κ os i tl G) (hi : ∀ ρ S ds S', G ρ S = some (ds, S') → ds[i0]? = ρ[i]?.join) : WEOk K κ st os i (fun σ H Q => tl σ H fun vs H1 => spW K κ i0 m vs H1 Q E0) (wCall i0 m G) := fun H₀ B₀ P h σ H ρ S d S' Q w q k => by
 obtain ⟨⟨ds, S1⟩, q1, q2⟩ := zb q
 refine ha H₀ B₀ P h σ H ρ S ds S1 _ w q1 fun vs H1 k1 w1 r => ?_
 refine ⟨Bl B₀ os σ, P, ds, d, S1, S', h, fun a ha => w1.md.tracked ha, fun b hb => .inl (w1.blk b hb), w1.at_, r, by rw [hi ρ S ds S1 q1, w1.slot]; rfl, q2, fun v H' hk r1 r2 => ?_⟩
 exact k v H' (fun b o q n => hk _ _ (k1 _ _ q n) n) (w1.write hk r1) r2.low
end
section
variable {K : Frag} {κ : Kd} {H₀ H H' : Hp} {B₀ P : Addr → Prop} {os os' : List Nat} {σ σ' : St} {ρ ρ' : Ev} {h : Addr} {i : Nat} {S S' : List D}
open Classical in
noncomputable def bareH (os : List Nat) (σ : St) (P : Addr → Prop) (H : Hp) : Hp := fun b => if P b then none else bare os σ H b
theorem bareH_no {b : Addr} (hb : ¬ ∃ j, j ∈ os ∧ σ[j]? = some (some (.ref b))) (n : ¬ P b) : bareH os σ P H b = H b := by unfold bareH; rw [if_neg n, bare_no hb]
theorem bareH_in {b : Addr} (n : P b) : bareH os σ P H b = none := by unfold bareH; rw [if_pos n]
theorem bareH_some {b : Addr} {o : HO} (q : bareH os σ P H b = some o) : H b = some o ∧ ¬ P b ∧ ¬ ∃ j, j ∈ os ∧ σ[j]? = some (some (.ref b)) := by
 unfold bareH at q
 by_cases n : P b
 ·rw [if_pos n] at q; cases q
 ·rw [if_neg n] at q
  by_cases z : ∃ j, j ∈ os ∧ σ[j]? = some (some (.ref b))
  ·rw [bare_own z] at q; cases q
  ·rw [bare_no z] at q; exact ⟨q, n, z⟩
theorem Wd.bare (w : Wd K κ H₀ B₀ P os i h S σ H ρ) : Wd K κ (bareH os σ P H) B₀ P os i h S σ H ρ := by
 refine ⟨⟨fun b o q => (bareH_some q).1, w.md.blk, w.md.len, w.md.sh, fun j hj => ?_, w.md.sep⟩, w.blk, fun b hb => bareH_in hb, w.at_, w.slot, w.off⟩
 obtain ⟨a, u, d, h1, h2, h3, h4, h5⟩ := w.md.own j hj
 refine ⟨a, u, d, h1, h2, h3, ⟨?_, h4.2⟩, h5⟩
 cases q : bareH os σ P H a with
 | none => rfl
 | some o => exact absurd ⟨j, hj, h1⟩ (bareH_some q).2.2
theorem Wd.same0 (w : Wd K κ H₀ B₀ P os i h S σ H ρ) (s : zJ (bareH os σ P H) H') : zJ H₀ H' := fun b o q => s _ _ (by
 rw [bareH_no]
 ·exact w.md.grow _ _ q
 ·rintro ⟨j, hj, e⟩
  obtain ⟨a, u, d, h1, h2, h3, h4, h5⟩ := w.md.own j hj
  rw [e] at h1; cases h1
  rw [h4.1] at q; cases q
 ·intro z
  rw [w.new b z] at q; cases q)
theorem Wd.unbare (w : Wd K κ H₀ B₀ P os i h S σ H ρ) (w' : Wd K κ (bareH os σ P H) B₀ P os' i h S' σ' H' ρ') : Wd K κ H₀ B₀ P os' i h S' σ' H' ρ' := by
 refine ⟨⟨w.same0 w'.md.grow, w'.md.blk, w'.md.len, w'.md.sh, fun j hj => ?_, w'.md.sep⟩, w.blk, w.new, w'.at_, w'.slot, w'.off⟩
 obtain ⟨a, u, d, h1, h2, h3, h4, h5⟩ := w'.md.own j hj
 refine ⟨a, u, d, h1, h2, h3, ⟨?_, h4.2⟩, h5⟩
 cases q : H₀ a with
 | none => rfl
 | some o => have := w.same0 (H' := bareH os σ P H) (.refl _) a o q; rw [h4.1] at this; cases this
theorem Wd.goesB (w : Wd K κ H₀ B₀ P os i h S σ H ρ) (w' : Wd K κ (bareH os σ P H) B₀ P os' i h S' σ' H' ρ') : Goes H H' (Bl B₀ os σ) (Bl B₀ os' σ') := by
 refine goes_but (P := fun b => P b ∨ ∃ j, j ∈ os ∧ σ[j]? = some (some (.ref b))) (fun e o q n => w'.md.grow _ _ (by rw [bareH_no (fun z => n (.inr z)) fun z => n (.inl z)]; exact q)) (fun e o z q => ?_) (fun e z => ?_) fun e z => ?_
 ·rcases z with z | ⟨j, hj, z⟩
  ·obtain ⟨o', q', n⟩ := κ.mtb w.at_ e z; rw [q] at q'; cases q'; exact n
  ·obtain ⟨a, u, d, h1, h2, h3, h4, h5⟩ := w.md.own j hj
   rw [z] at h1; cases h1
   rw [q] at h3; cases h3
   exact h5.mut
 ·rcases z with z | z
  ·exact .inl (w.blk e z)
  ·exact .inr z
 ·rcases z with z | ⟨j, hj, z⟩
  ·exact .inl (.inl z)
  ·obtain ⟨a, u, d, g1, g2, g3, g4, g5⟩ := w'.md.own j hj
   rw [z] at g1; cases g1
   by_cases c : Bl B₀ os σ e
   ·exact .inl c
   ·have := g4.1
    rw [bareH_no (fun z => c (.inr z)) fun z => c (.inl (w.blk e z))] at this
    exact .inr this
end
def forW (u : D → Ev → Option Ev) (M : WM) : List D → Ev → List D → Option (Out × List D)
 | [], ρ, S => some (.nx ρ, S)
 | d :: ds, ρ, S => (u d ρ).bind fun ρ1 => (M ρ1 S).bind fun r => match r.1 with
  | .nx ρ2 => forW u M ds ρ2 r.2
  | .ct ρ2 => forW u M ds ρ2 r.2
  | .bk ρ2 => some (.nx ρ2, r.2)
  | .rt d => some (.rt d, r.2)
def wFor (fi : Ev → Option (List D)) (u : D → Ev → Option Ev) (M : WM) : WM := fun ρ S => (fi ρ).bind fun ds => forW u M ds ρ S
def KeepsG (i : Nat) (u : D → Ev → Option Ev) : Prop := ∀ d ρ ρ', u d ρ = some ρ' → ρ'[i]? = ρ[i]?
section
variable {K : Frag} {κ : Kd} {os ol : List Nat} {i : Nat}
theorem kg_name {j : Nat} (hj : j ≠ i := by decide) : KeepsG i (zD j) := fun d ρ ρ' q => by
 cases q
 exact za (Ne.symm hj)
theorem ws_forOk {wi : TI} {g : TG} {tb : TS} {fi : Ev → Option (List D)} {ug : D → Ev → Option Ev} {M : WM} (hi : IOk K true os wi fi) (hg : GOk K os g ug) (hk : KeepsG i ug) (hb : WOk K κ os os os i tb M) : WOk K κ os os ol i (tFor wi g tb) (wFor fi ug M) := fun H₀ B₀ P h σ H ρ S o S' E w q k => by
 obtain ⟨ds, h1, h2⟩ := zb q
 refine hi H₀ B₀ σ H ρ ds _ w.md h1 fun J H1 ok s1 W up mv ok1 => ?_
 have w1 := w.up s1
 refine ⟨fun a n σ' H' => n = ds.length - a ∧ a ≤ ds.length ∧ ∃ ρ' S1, Wd K κ (bareH os σ P H1) B₀ P os i h S1 σ' H' ρ' ∧ forW ug M (ds.drop a) ρ' S1 = some (o, S'), ⟨ds.length, by simp, Nat.zero_le _, ρ, S, w1.bare, by simpa using h2⟩, ?_⟩
 rintro a n σ' H' ⟨rfl, hile, ρ', S1, wM, hf⟩
 have okN := mv rfl _ _ _ _ (w1.goesB wM) ok1
 by_cases hlt : a < ds.length
 ·right
  have hd : ds[a]? = some ds[a] := by simp [hlt]
  rw [List.drop_eq_getElem_cons hlt] at hf
  simp only [forW] at hf
  obtain ⟨ρ1, q1, q2⟩ := zb hf
  obtain ⟨⟨o', S2⟩, q3, q4⟩ := zb q2
  refine ⟨W.go _ _ a _ okN hd, fun σ2 H2 => ∃ ρ2 S3, Wd K κ (bareH os σ P H1) B₀ P os i h S3 σ2 H2 ρ2 ∧ forW ug M (ds.drop (a + 1)) ρ2 S3 = some (o, S'), fun σ2 H2 ⟨ρ2, S3, m2, f2⟩ => ⟨ds.length - (a + 1), by omega, rfl, hlt, ρ2, S3, m2, f2⟩, fun x H2 y => ?_⟩
  obtain ⟨s2, rx⟩ := W.yld _ _ a _ x H2 okN hd y
  have w2 := wM.up s2
  refine hg _ B₀ σ' H2 ρ' ρ1 ds[a] x _ w2.md rx q1 fun σ3 l3 a3 m3 => ?_
  have w3 : Wd K κ (bareH os σ P H1) B₀ P os i h S1 σ3 H2 ρ1 := by
   refine ⟨m3, w2.blk, w2.new, κ.goes w2.at_ (.less (fun b hb => ?_) (.refl H2)) (fun _ _ _ q => q), (hk _ _ _ q1).trans w2.slot, w2.off⟩
   rcases hb with hb | ⟨j, hj, e⟩
   ·exact .inl hb
   ·exact .inr ⟨j, hj, by rw [← a3 j hj]; exact e⟩
  refine hb _ B₀ P h σ3 H2 ρ1 S1 o' S2 _ w3 q3 ?_
  cases o' with
  | nx ρ2 => exact fun σ4 H4 w4 => ⟨ρ2, S2, w4, q4⟩
  | ct ρ2 => exact fun σ4 H4 w4 => ⟨ρ2, S2, w4, q4⟩
  | bk ρ2 => cases q4; exact fun σ4 H4 w4 => k σ4 H4 (w1.unbare w4)
  | rt d => cases q4; exact fun v H4 s e b r => k v H4 (w1.same0 s) e b r
 ·left
  have hi' : a = ds.length := by omega
  subst hi'
  rw [List.drop_length] at hf
  cases hf
  exact ⟨W.stop _ _ _ okN (Nat.le_refl _), k σ' H' (w1.unbare wM)⟩
end
def compW (u : D → Ev → Option Ev) (F : WF) : List D → Ev → List D → Option (List D × List D)
 | [], _, S => some ([], S)
 | d :: ds, ρ, S => (u d ρ).bind fun ρ1 => (F ρ1 S).bind fun r => (compW u F ds ρ1 r.2).map fun q => (r.1 :: q.1, q.2)
def wComp (k : Nat) (fi : Ev → Option (List D)) (u : D → Ev → Option Ev) (F : WF) : WF := fun ρ S => (fi ρ).bind fun ds => (compW u F ds (ρ ++ List.replicate k none) S).bind fun q => (dLst q.1).map fun d => (d, q.2)
section
variable {K : Frag} {κ : Kd} {os : List Nat} {i : Nat}
theorem wf_compOk {k : Nat} {wi : TI} {g : TG} {te : TE} {fi : Ev → Option (List D)} {u : D → Ev → Option Ev} {F : WF} (hi : IOk K true os wi fi) (hg : GOk K os g u) (hkg : KeepsG i u) (he : WEOk K κ true os i te F) :
  WFOk K κ os i (tComp k wi g tYes te) (wComp k fi u F) := fun H₀ B₀ P h σ H ρ S d S' Q w q kk => by
 obtain ⟨ds, h1, h2⟩ := zb q
 obtain ⟨⟨es, Sn⟩, h3, h4⟩ := zb h2
 obtain ⟨d', h5, h6⟩ := map_some h4
 cases h6
 unfold dLst at h5
 split at h5
 case isFalse => cases h5
 rename_i hsz
 cases h5
 refine hi H₀ B₀ σ H ρ ds _ w.md h1 fun J H1 ok s1 W up mv ok1 => ?_
 intro D' hD
 have w1 := w.up s1
 have mE := w1.md.extend k hD
 have osl0 : ∀ j ∈ os, (σ ++ List.replicate k none)[j]? = σ[j]? := fun j hj => by
  obtain ⟨a, o, d, q1, _⟩ := w.md.own j hj
  rw [get_append_left q1, q1]
 have ok2 : ok (upd H1 D' (.lst [])) (fun b => Bl B₀ os σ b ∨ b = D') := up D' hD _ _ _ _ (.fresh hD (zy hD)) (fun b o _ q => zy hD _ _ q) ok1
 have pD : ¬ P D' := fun z => by obtain ⟨o, q, _⟩ := κ.mtb w1.at_ D' z; rw [hD] at q; cases q
 have hH0 : H₀ D' = none := (w.md.grow.trans s1).free hD
 have wE : Wd K κ H₀ (fun b => B₀ b ∨ b = D') P os i h S (σ ++ List.replicate k none) (upd H1 D' (.lst [])) (ρ ++ List.replicate k none) := by
  refine ⟨mE, fun b hb => .inl (w1.blk b hb), w1.new, κ.goes w1.at_ (goes_but (P := fun _ => False) (fun e o q _ => zy hD _ _ q) (fun _ _ z => z.elim) (fun _ z => z.elim) fun e z => ?_) (fun b o _ q => zy hD _ _ q), get_append_left w1.slot, w1.off⟩
  rcases z with (z | z) | ⟨j, hj, z⟩
  ·exact .inl (.inl z)
  ·exact .inr (by rw [z]; exact hD)
  ·exact .inl (.inr ⟨j, hj, by rw [← osl0 j hj]; exact z⟩)
 refine ⟨fun a mm ys σ' H' => mm = ds.length - a ∧ a ≤ ds.length ∧ ∃ ρ' S1 done rest, Wd K κ H₀ (fun b => B₀ b ∨ b = D') P os i h S1 σ' H' ρ' ∧ (∀ j ∈ os, σ'[j]? = (σ ++ List.replicate k none)[j]?) ∧ H' D' = some (.lst ys) ∧
  ok H' (fun b => Bl B₀ os σ b ∨ b = D') ∧ (∀ b o, H1 b = some o → ¬ P b → H' b = some o) ∧ zk K H' (Bl (fun b => B₀ b ∨ b = D') os σ') done ys ∧ compW u F (ds.drop a) ρ' S1 = some (rest, Sn) ∧ es = done ++ rest, ⟨ds.length, by simp, Nat.zero_le _, _, S, [], es, wE, fun _ _ => rfl, zv, ok2, fun b o q _ => zy hD _ _ q, .nil, by simpa using h3, rfl⟩, ?_⟩
 rintro a mm ys σ' H' ⟨rfl, hile, ρ', S1, done, rest, wM, ag, hDl, okH, sm, rd, hcomp, hes⟩
 refine ⟨hDl, ?_⟩
 have osl : ∀ j ∈ os, σ'[j]? = σ[j]? := fun j hj => (ag j hj).trans (osl0 j hj)
 have blE : ∀ b, Bl (fun b => B₀ b ∨ b = D') os σ' b ↔ (Bl B₀ os σ b ∨ b = D') := fun b => by
  constructor
  ·rintro ((z | z) | ⟨j, hj, q⟩)
   ·exact .inl (.inl z)
   ·exact .inr z
   ·rw [osl j hj] at q; exact .inl (.inr ⟨j, hj, q⟩)
  ·rintro ((z | ⟨j, hj, q⟩) | z)
   ·exact .inl (.inl z)
   ·exact .inr ⟨j, hj, by rw [osl j hj]; exact q⟩
   ·exact .inl (.inr z)
 have blF : Bl (fun b => B₀ b ∨ b = D') os σ' = fun b => Bl B₀ os σ b ∨ b = D' := funext fun b => propext (blE b)
 by_cases hlt : a < ds.length
 ·right
  have hd : ds[a]? = some ds[a] := by simp [hlt]
  refine ⟨W.go _ _ a _ okH hd, fun x H2 y => ?_⟩
  obtain ⟨s2, rx⟩ := W.yld _ _ a _ x H2 okH hd y
  rw [List.drop_eq_getElem_cons hlt] at hcomp
  simp only [compW] at hcomp
  obtain ⟨ρ1, q1, q2⟩ := zb hcomp
  obtain ⟨⟨z, S2⟩, q5, q6⟩ := zb q2
  obtain ⟨⟨rest', Sx⟩, q7, q8⟩ := map_some q6
  cases q8
  have w2 := wM.up s2
  have rx' : Rep K H2 (Bl (fun b => B₀ b ∨ b = D') os σ') ds[a] x := by rw [blF]; exact rx
  refine hg H₀ _ σ' H2 ρ' ρ1 ds[a] x _ w2.md rx' q1 fun σ3 l3 a3 m3 => ?_
  unfold tYes
  dsimp only
  rw [if_pos rfl]
  have ble : Bl (fun b => B₀ b ∨ b = D') os σ3 = Bl (fun b => B₀ b ∨ b = D') os σ' := bl_eq a3
  have w3 : Wd K κ H₀ (fun b => B₀ b ∨ b = D') P os i h S1 σ3 H2 ρ1 := ⟨m3, w2.blk, w2.new, by rw [ble]; exact w2.at_, (hkg _ _ _ q1).trans w2.slot, w2.off⟩
  refine he H₀ _ P h σ3 H2 ρ1 S1 z S2 _ w3 q5 fun v H5 k5 w5 r5 => ?_
  have hDl5 : H5 D' = some (.lst ys) := k5 _ _ (s2 _ _ hDl) pD
  have hlen : ys.length = done.length := rd.length
  have hlt' : ys.length < sizeLine := by
   rw [hes] at hsz
   simp only [List.length_append, List.length_cons] at hsz
   omega
  have g25 : Goes H2 H5 (Bl (fun b => B₀ b ∨ b = D') os σ3) (Bl (fun b => B₀ b ∨ b = D') os σ3) := w3.goes k5
  have g6 : Goes H5 (upd H5 D' (.lst (ys ++ [v]))) (Bl (fun b => B₀ b ∨ b = D') os σ3) (Bl (fun b => B₀ b ∨ b = D') os σ3) := .write (.inl (.inr rfl)) hDl5 trivial
  refine ⟨hDl5, hlt', ds.length - (a + 1), by omega, rfl, hlt, ρ1, S2, done ++ [z], rest', ⟨w5.md.upB (.inr rfl) hH0 hDl5 trivial, w5.blk, w5.new, κ.goes w5.at_ g6 (fun b o hb q => by rw [zA (fun e => pD (by rw [← e]; exact hb))]; exact q), w5.slot, w5.off⟩, fun j hj => (a3 j hj).trans (ag j hj), zv, ?_, ?_, ?_, q7, ?_⟩
  ·have o2 := up D' hD _ _ _ _ (.same s2) (fun b o _ q => s2 _ _ q) okH
   have e3 : (fun b => Bl B₀ os σ b ∨ b = D') = Bl (fun b => B₀ b ∨ b = D') os σ3 := by rw [ble, blF]
   rw [e3] at o2 ⊢
   exact mv rfl _ _ _ _ g6 (mv rfl _ _ _ _ g25 o2)
  ·intro b o q n
   by_cases hb : b = D'
   ·subst hb; rw [hD] at q; cases q
   ·rw [zA hb]; exact k5 _ _ (s2 _ _ (sm _ _ q n)) n
  ·refine zk.goes g6 _ _ (zk.append ?_ (.one r5))
   refine zk.goes g25 _ _ ?_
   rw [ble]
   exact rd.up s2
  ·rw [hes]; simp
 ·left
  have hi' : a = ds.length := by omega
  subst hi'
  refine ⟨W.stop _ _ _ okH (Nat.le_refl _), ?_⟩
  rw [List.drop_length] at hcomp
  cases hcomp
  rw [List.append_nil] at hes
  subst hes
  have gl : Goes H' H' (Bl (fun b => B₀ b ∨ b = D') os σ') (Bl B₀ os σ) := .less (fun b z => (blE b).mpr (.inl z)) (.refl H')
  refine kk D' _ H' (fun b o q n => sm _ _ (s1 _ _ q) n) ⟨(md_but w1.md w1.blk w1.new (κ.mtb w1.at_) sm fun b z => by obtain ⟨o, q, _⟩ := κ.mtb wM.at_ b z; exact ⟨o, q⟩).1, w1.blk, w1.new, κ.goes wM.at_ gl (fun _ _ _ q => q), w1.slot, w1.off⟩ (s1.free hD) hDl ?_ ?_
  ·simp only [Own]
   rw [blF] at rd
   exact rd
  ·have := wM.at_
   rw [blF] at this
   exact this
end
structure WE (X : Cx) (κ : Kd) (st : Bool) (os : List Nat) (i : Nat) (e : Expr) (t : TE) (F : WF) : Prop where
 pe : PE X e t
 ok : WEOk X.K κ st os i t F
structure WN (X : Cx) (κ : Kd) (os : List Nat) (i : Nat) (e : Expr) (t : TE) (F : WF) : Prop where
 pe : PE X e t
 ok : WFOk X.K κ os i t F
structure WA (X : Cx) (κ : Kd) (os : List Nat) (i : Nat) (es : List Expr) (t : TA) (F : WL) : Prop where
 pa : PA X es t
 ok : WAOk X.K κ os i t F
structure WB (X : Cx) (κ : Kd) (os : List Nat) (i : Nat) (e : Expr) (t : TT) (c : Ev → List D → Option (Bool × List D)) : Prop where
 pt : PT X e t
 ok : WTOk X.K κ os i t c
structure WS (X : Cx) (κ : Kd) (os os' ol : List Nat) (i : Nat) (st : Stmt) (t : TS) (M : WM) : Prop where
 ps : PS X st t
 ok : WOk X.K κ os os' ol i t M
structure WSs (X : Cx) (κ : Kd) (os os' ol : List Nat) (i : Nat) (st : List Stmt) (t : TS) (M : WM) : Prop where
 ps : PSs X st t
 ok : WOk X.K κ os os' ol i t M
def HasAt (n i : Nat) (G : WL) : Prop := ∀ ρ S ds S', G ρ S = some (ds, S') → ds[n]? = ρ[i]?.join
theorem ha_0 {i : Nat} {G : WL} : HasAt 0 i (zH (wL (zd i)) G) := fun ρ S ds S' q => by
 obtain ⟨⟨x, S1⟩, q1, q2⟩ := zb q
 obtain ⟨⟨ys, S2⟩, q3, q4⟩ := map_some q2
 obtain ⟨y, q5, q6⟩ := map_some q1
 cases q6
 cases q4
 exact q5.symm
theorem ha_s {n i : Nat} {F : WF} {G : WL} (h : HasAt n i G) : HasAt (n + 1) i (zH F G) := fun ρ S ds S' q => by
 obtain ⟨⟨x, S1⟩, q1, q2⟩ := zb q
 obtain ⟨⟨ys, S2⟩, q3, q4⟩ := map_some q2
 cases q4
 exact h ρ S1 ys S2 q3
section
variable {X : Cx} {κ : Kd} {st fr : Bool} {os os1 os' ol : List Nat} {i : Nat} {e a b : Expr} {es : List Expr} {t u : TS} {ta tb te : TE} {tl : TA} {F F' : WF} {G : WL} {M1 M2 : WM} {x : Str} {p pos : Pos}
theorem SE.we {f : Ev → Option D} (h : SE X st os e te f) : WE X κ st os i e te (wL f) := ⟨h.pe, we_lift h.ok⟩
theorem SB.wb {c : Ev → Option Bool} {tt : TT} (h : SB X os e tt c) : WB X κ os i e tt (wL c) := ⟨h.pt, wt_lift h.ok⟩
theorem WN.we (h : WN X κ os i e te F) : WE X κ st os i e te F := ⟨h.pe, h.ok.eok⟩
theorem wa_nil : WA X κ os i [] tNil (wL zj) := ⟨Zr, wa_lift zr.ok⟩
theorem Zg (ha : WE X κ true os i e te F) (hr : WA X κ os i es tl G) (hs : starEach (e :: es) X.env = (false, eval e X.env) :: starEach es X.env := by rfl) : WA X κ os i (e :: es) (Za te tl) (zH F G) := ⟨zG ha.pe hr.pa hs, wa_consOk ha.ok hr.ok⟩
theorem we_tup {x1} (h : WA X κ os i es tl G) : WE X κ st os i (.Tuple es x1 pos) (tTup tl) (wTup G) := ⟨pe_tup h.pa, we_tupOk h.ok⟩
theorem we_op {op : Operator} {r : R2} {g : D → D → Option D} (ho : OpR X (binaryOp op) r) (hr : ROk X.K r g) (ha : WE X κ true os i a ta F) (hb : WE X κ true os i b tb F') : WE X κ st os i (.BinOp a op b pos) (tOp r ta tb) (w2 g F F') := ⟨pe_op ho ha.pe hb.pe, we_opOk hr ha.ok hb.ok⟩
theorem wb_cmp {op : CmpOp} {r : R2} {g : D → D → Option D} (ho : OpR X (compareOp op) r) (hr : ROk X.K r g) (ha : WE X κ true os i a ta F) (hb : WE X κ true os i b tb F') (hm : behindInMarks op b = false) : WB X κ os i (.Compare a [op] [b] pos) (tTest (tOp r ta tb)) (wTest (w2 g F F')) := ⟨pt_cmpR ho ha.pe hb.pe hm, wt_val (we_opOk hr ha.ok hb.ok)⟩
theorem we_hix {f : Ev → Option D} (hb : SE X true os b tb f) (hN : X.N[i]? = some x := by rfl) (hv : Vis X.env.scope x := by first | exact Or.inl rfl | exact Or.inr (Or.inl rfl) | exact Or.inr (Or.inr rfl)) (hd : (x == ("__debug__" : Str)) = false := by decide)
  (hcd : (x == ("__classdict__" : Str)) = false := by decide) (hs : PlainIx b := by intro _ _; rfl) {K' : Frag} (hK : X.K = K' := by rfl) : WE X kL st os i (.Subscript (.Name x p) b pos) (tOp (rIxL K') (tVar i) tb) (wIx f) := by
 subst hK
 exact ⟨pe_ix ix_list (pv i hN hv hd hcd) hb.pe hs, we_ix hb.ok⟩
theorem we_call {k i0 : Nat} {fn : Addr} {fd : FuncData} {ps : List Str} {m : List D → List D → Option (D × List D)} (F : FnOk X.prog X.w X.K X.mg X.base CX0 k fn fd ps (spW X.K κ i0 m)) (hr : Room k X.A) (hg : Gl X x) (hm : X.mg x = some (.ref fn)) (hk : keepIn X.K (.ref fn) = true) (hb : Binds X.K fd ps [])
  (hi : HasAt i0 i G) (ha : WA X κ os i (e :: es) tl G) (hdb : (x == ("__debug__" : Str)) = false := by decide) (he : starEach (e :: es) X.env = (false, eval e X.env) :: starEach es X.env := by rfl) (hpl : (backTo pos (starEach es X.env)).any (·.1) = false := by rfl) {K' : Frag} (hK : X.K = K' := by rfl) :
  WE X κ st os i (.Call (.Name x p) (e :: es) [] pos) (tCall (spW K' κ i0 m) [] E0 tl) (wCall i0 m G) := by
 subst hK
 refine ⟨pe_call F hr hg hm hk hb .nil pass0 ha.pa hdb he hpl, ?_⟩
 have e : tCall (spW X.K κ i0 m) [] E0 tl = fun σ H Q => tl σ H fun vs H1 => spW X.K κ i0 m vs H1 Q E0 := by
  funext σ H Q
  unfold tCall
  simp only [List.append_nil]
 rw [e]
 exact we_callOk ha.ok hi
theorem wss_cons {s : Stmt} {ss : List Stmt} (h1 : WS X κ os os1 ol i s t M1) (h2 : WSs X κ os1 os' ol i ss u M2) : WSs X κ os os' ol i (s :: ss) (tSeq t u) (wSeq M1 M2) := ⟨pss_cons h1.ps h2.ps, ws_seq h1.ok h2.ok⟩
theorem wss_one {s : Stmt} (h1 : WS X κ os os' ol i s t M1) : WSs X κ os os' ol i [s] t M1 := ⟨pss_one h1.ps, h1.ok⟩
theorem SS.ws {s : Stmt} {m : Ev → Option Out} (h : SS X false os os' ol s t m) (hk : Keeps i m) (hi : i ∉ os' := by decide) (hl : i ∉ ol := by decide) : WS X κ os os' ol i s t (wM m) := ⟨h.ps, ws_lift h.ok hi hl hk⟩
theorem wst_set {j : Nat} {pos' : Pos} (hN : X.N.Nodup) (hx : X.N[j]? = some x) (hlo : Loc X.env.scope x) (h : WE X κ true os i e te F) (hj : j ≠ i := by decide) (hos : ∀ y ∈ os, y ≠ j := by decide)
  (hsw : swapsWith e (some (.Name x pos')) pos.line X.env = pure false := by rfl) (hf : X.fn x = true ∨ X.env.scope.names.lookup x = some .local := by first | exact .inl rfl | exact .inr rfl | assumption) : WS X κ os os ol i (.Assign [.Name x pos'] e pos) (tAsg te (gName j)) (wSet j F) := ⟨ps_set hN hx hlo h.pe hsw hf, ws_set h.ok hj hos⟩
theorem wst_ret (h : WE X κ false os i e te F) : WS X κ os os' ol i (.Return (some e) pos) (tRet te) (wRet F) := ⟨ps_ret h.pe, ws_ret h.ok⟩
theorem wst_if {c : Expr} {as bs : List Stmt} {tc : TT} {g : Ev → List D → Option (Bool × List D)} (hc : WB X κ os i c tc g) (ha : WSs X κ os os' ol i as t M1) (hb : WSs X κ os os' ol i bs u M2) : WS X κ os os' ol i (.If c as bs pos) (tIfS tc t u) (wIf g M1 M2) := ⟨ps_if hc.pt ha.ps hb.ps, ws_if hc.ok ha.ok hb.ok⟩
theorem wst_for {tg iter : Expr} {body : List Stmt} {wi : TI} {g : TG} {tb : TS} {fi : Ev → Option (List D)} {ug : D → Ev → Option Ev} (hc : X.calm = true) (hi : SI X true os tg iter wi fi) (hg : SG X os tg g ug) (hk : KeepsG i ug) (hb : WSs X κ os os os i body tb M1)
  (hp : PassesOwn (model X.prog X.w) X.A X.env X.xe := by exact PassesOwn.never) (hs : ∀ x, foldedSetIterable iter X.env x = pure x := by intro _; rfl) : WS X κ os os ol i (.For tg iter body [] pos) (tFor wi g tb) (wFor fi ug M1) := ⟨ps_for hp hc hi.pi hg.pg hb.ps hs, ws_forOk hi.ok hg.ok hk hb.ok⟩
theorem wst_hset {ik : Expr} {ti : TE} {fi : Ev → Option D} (h : WE X kL true os i e te F) (hk : SE X false os ik ti fi) (hN : X.N[i]? = some x := by rfl) (hv : Vis X.env.scope x := by first | exact Or.inl rfl | exact Or.inr (Or.inl rfl) | exact Or.inr (Or.inr rfl)) (hd : (x == ("__debug__" : Str)) = false := by decide)
  (hcd : (x == ("__classdict__" : Str)) = false := by decide) {spos : Pos} (ha : ∀ v, assign (.Subscript (.Name x p) ik spos) X.env v = (do
   let ov ← holding [v] (eval (.Name x p) X.env)
   let iv ← holding [v, ov] (eval ik X.env)
   standAt spos
   holding [v, ov, iv] (setItem ov iv v)
   release [v, ov, iv] []) := by intro _; rfl) (hs : swapsWithSole [.Subscript (.Name x p) ik spos] e pos.line X.env = pure false := by rfl) (hw : swappedStores [.Subscript (.Name x p) ik spos] e X.env = pure none := by rfl)
  (h1 : (assignEach [.Subscript (.Name x p) ik spos] X.env).map (·.2) = [assign (.Subscript (.Name x p) ik spos) X.env] := by rfl) :
  WS X kL os os ol i (.Assign [.Subscript (.Name x p) ik spos] e pos) (tAsg te (gSub (tVar i) ti rSetL)) (wSetIx F fi) := ⟨ps_asg h.pe (pg_sub (pv i hN hv hd hcd) hk.pe set_list ha) hs hw h1, ws_hset h.ok hk.ok⟩
end
section
variable {X : Cx} {κ : Kd} {os os' ol : List Nat} {i : Nat} {pos : Pos} {scope : Scope} {own N' : List Str} {k : Nat} {elt target iter : Expr} {wi : TI} {g : TG} {te : TE} {fi : Ev → Option (List D)} {u : D → Ev → Option Ev} {F : WF}
theorem wf_comp (c : CompOk X scope own N' k) (hc : X.calm = true) (hi : SI X true os target iter wi fi) (hg : ∀ s₂ H₂ fp C, SG (Zf X scope own N' s₂ H₂ fp C) os target g u) (hk : KeepsG i u)
  (he : ∀ s₂ H₂ fp C, WE (Zf X scope own N' s₂ H₂ fp C) κ true os i elt te F) (hs : ∀ x, foldedSetIterable iter X.env x = pure x := by intro _; rfl) : WN X κ os i (.ListComp elt [⟨target, iter, [], 0⟩] scope pos) (tComp k wi g tYes te) (wComp k fi u F) :=
 ⟨pe_comp c hc hi.pi (fun a b c d => (hg a b c d).pg) (fun a b c d => (spf_nil (os := os)).pf) (fun a b c d => (he a b c d).pe) hs, wf_compOk hi.ok (hg X.s₀ X.H₀ [] 0).ok hk (he X.s₀ X.H₀ [] 0).ok⟩
end
section
variable {P : Program} {w : World} {K : Frag} {κ : Kd} {mg : Str → Option Value} {base : Heap}
def wDef (k n : Nat) (M : WM) : List D → List D → Option (D × List D) := fun ds S => if ds.length = k then (M (startD n ds) S).bind fun r => (outD r.1).map fun d => (d, r.2) else none
open Classical in
theorem fnW_ok {x qual : Str} {st : Stmt} {f : Addr} {fd : FuncData} {N ps : List Str} {k i0 : Nat} {M : WM} (F : Fun K x qual st f fd) (S : FnScope N ps (zh st)) (hi0 : i0 < ps.length)
  (hbody : ∀ (cdv : Value) (A : Around) (outer : List Env) (s : Shared) (H : Hp) (E : XK), Room k (A.deeper (PyProof.Rows.envOfC qual (zh st) s.heap.objs.size f cdv)) →
   ∃ t os', WSs (cxOf CX0 P w K mg base N qual (zh st) f cdv A outer s H E).nox κ [] os' [] i0 (zt st) t M) : FnOk P w K mg base CX0 (k + 1) f fd ps (spW K κ i0 (wDef ps.length N.length M)) := by
 refine F.ok S (fun vs H Q E h => ?_) (fun cdv A outer s H vs Q E hr h => ?_)
 ·obtain ⟨B, Pt, ds, d, S0, S', h, hB, hb, h1, r, e, q, _⟩ := h
  unfold wDef at q
  split at q
  ·rw [r.length]; assumption
  ·cases q
 ·obtain ⟨B, Pt, ds, d, S0, S', h, hB, hb, h1, r, e, q, kk⟩ := h
  unfold wDef at q
  split at q
  case isFalse => cases q
  rename_i hlen
  obtain ⟨⟨o, S1⟩, q1, q2⟩ := zb q
  obtain ⟨d', q3, q4⟩ := map_some q2
  cases q4
  obtain ⟨t, os', hS⟩ := hbody cdv A outer s H E hr
  have m0 := md_start (N := N) hB r
  have m1 : Md K (fun b => if Pt b then none else H b) B [] (L2.start N vs) H (startD N.length ds) := ⟨fun b o q => by
   by_cases z : Pt b
   ·simp [z] at q
   ·simpa [z] using q, m0.blk, m0.len, m0.sh, fun i hi => (by cases hi), fun i j a hi => by cases hi⟩
  have slot : (startD N.length ds)[i0]? = some (some (.adr h)) := by
   unfold startD
   rw [List.getElem?_append_left (by rw [List.length_map]; omega), List.getElem?_map, e]; rfl
  have but : ∀ {H' : Hp}, zJ (fun b => if Pt b then none else H b) H' → ∀ b o, H b = some o → ¬ Pt b → H' b = some o := fun s b o q n => s b o (by simpa [n] using q)
  refine ⟨t, hS.ps, hS.ok (fun b => if Pt b then none else H b) B Pt h (L2.start N vs) H (startD N.length ds) S0 o _ _ ⟨m1, hb, fun b z => by simp [z], by rw [bl_nil]; exact h1, slot, by simp⟩ q1 ?_⟩
  cases o with
  | nx ρ =>
   simp only [outD] at q3; cases q3
   exact fun σ' H' w' => kk _ H' (but w'.md.grow) w'.out (by simp [Rep])
  | rt d' =>
   simp only [outD] at q3; cases q3
   exact fun v H' s' e1 _ r' => kk v H' (but s') e1 r'
  | bk ρ => cases q3
  | ct ρ => cases q3
theorem _root_.L2.FnOk.noW {i0 k : Nat} {f : Addr} {fd : FuncData} {ps : List Str} : FnOk P w K mg base CX0 k f fd ps (spW K κ i0 fun _ _ => none) :=
 ⟨fun _ _ _ _ ⟨_, _, _, _, _, _, _, _, _, _, _, _, e, _⟩ => (nomatch e), fun _ _ _ _ _ _ _ _ _ _ _ _ _ ⟨_, _, _, _, _, _, _, _, _, _, _, _, e, _⟩ => (nomatch e)⟩
end
open Classical in
noncomputable def mLend (j : Nat) (M : WM) : Ev → Option Out := fun ρ => (ρ[j]?.join).bind fun x => (asL x).bind fun S =>
 if h : ∃ r : Ev × List D, ∀ a, M (ρ.set j (some (.adr a))) S = some (.nx (r.1.set j (some (.adr a))), r.2) then some (.nx (h.choose.1.set j (some (.lst h.choose.2)))) else none
theorem mLend_eq {j : Nat} {M : WM} {ρ ρ' : Ev} {S S' : List D} (h1 : ρ[j]? = some (some (.lst S))) (h2 : ∀ a, M (ρ.set j (some (.adr a))) S = some (.nx (ρ'.set j (some (.adr a))), S')) : mLend j M ρ = some (.nx (ρ'.set j (some (.lst S')))) := by
 have h : ∃ r : Ev × List D, ∀ a, M (ρ.set j (some (.adr a))) S = some (.nx (r.1.set j (some (.adr a))), r.2) := ⟨(ρ', S'), h2⟩
 unfold mLend
 rw [h1]
 simp only [Option.join_some, oB, asL]
 rw [dif_pos h]
 have e := (h.choose_spec 0).symm.trans (h2 0)
 have e1 : h.choose.2 = S' := by
  have := congrArg (fun o => o.map Prod.snd) e
  simpa using this
 have e2 : h.choose.1.set j (some (.adr 0)) = ρ'.set j (some (.adr 0)) := by
  have := congrArg (fun o => o.map Prod.fst) e
  simpa using this
 have e3 := congrArg (fun l => l.set j (some (D.lst S'))) e2
 simp only [List.set_set] at e3
 rw [e1, e3]
section
variable {K : Frag} {fr : Bool} {os os1 ol ol1 : List Nat} {j : Nat}
theorem sok_lend {t : TS} {M : WM} (hw : WOk K kL os1 os1 ol1 j t M) (hj : j ∈ os) (hn : j ∉ os1) (h1 : ∀ x ∈ os, x = j ∨ x ∈ os1) (h2 : ∀ x ∈ os1, x ∈ os) : SOk K fr os os ol t (mLend j M) := fun H₀ B₀ σ H ρ o E mm q k => by
 obtain ⟨x, q1, q2⟩ := zb q
 obtain ⟨S, q3, q4⟩ := zb q2
 split at q4
 case isFalse => cases q4
 rename_i hc
 cases q4
 cases x <;> simp only [asL] at q3 <;> cases q3
 obtain ⟨a, ob, d, g1, g2, g3, g4, g5⟩ := mm.own j hj
 have q1' := join_get q1
 rw [q1'] at g2; cases g2
 cases ob <;> simp only [Own] at g5
 rename_i hs
 have hlj : j < ρ.length := (List.getElem?_eq_some_iff.mp q1').1
 have bl : ∀ (σ' : St), σ'[j]? = some (some (.ref a)) → Bl (fun b => B₀ b ∨ b = a) os1 σ' = Bl B₀ os σ' := fun σ' e => funext fun b => propext ⟨fun z => by
  rcases z with (z | z) | ⟨x, hx, z⟩
  ·exact .inl z
  ·exact .inr ⟨j, hj, by rw [z]; exact e⟩
  ·exact .inr ⟨x, h2 x hx, z⟩, fun z => by
  rcases z with z | ⟨x, hx, z⟩
  ·exact .inl (.inl z)
  ·rcases h1 x hx with rfl | hx
   ·rw [e] at z; cases z; exact .inl (.inr rfl)
   ·exact .inr ⟨x, hx, z⟩⟩
 have w0 : Wd K kL H₀ (fun b => B₀ b ∨ b = a) (fun b => b = a) os1 j a S σ H (ρ.set j (some (.adr a))) := by
  refine ⟨⟨mm.grow, fun b hb => ?_, by rw [List.length_set]; exact mm.len, fun x d q n => ?_, fun x hx => ?_, fun x y b hx hy => mm.sep x y b (h2 x hx) (h2 y hy)⟩, fun b hb => .inr hb, fun b hb => (by rw [hb]; exact g4.1), ⟨fun b => Iff.rfl, hs, g3, by rw [bl σ g1]; exact g5⟩, zz hlj, hn⟩
  ·rcases hb with hb | hb
   ·exact mm.blk b hb
   ·rw [hb]; exact ⟨_, g3⟩
  ·by_cases e : x = j
   ·subst e
    rw [zz hlj] at q; cases q
    exact ⟨_, g1, by simp [Rep]⟩
   ·rw [za e] at q
    obtain ⟨v, e1, e2⟩ := mm.sh x d q fun z => (h1 x z).elim e n
    exact ⟨v, e1, by rw [bl σ g1]; exact e2⟩
  ·have hne : x ≠ j := fun e => hn (e ▸ hx)
   obtain ⟨a', u, d, e1, e2, e3, e4, e5⟩ := mm.own x (h2 x hx)
   exact ⟨a', u, d, e1, by rw [za hne]; exact e2, e3, ⟨e4.1, fun z => z.elim e4.2 fun z => hne (mm.sep x j a (h2 x hx) hj (by rw [← z]; exact e1) g1)⟩, by rw [bl σ g1]; exact e5⟩
 refine hw H₀ _ _ a σ H _ S _ _ E w0 (hc.choose_spec a) ?_
 generalize hc.choose = r at *
 intro σ' H' w'
 obtain ⟨p, hs', f1, f2⟩ := w'.at_
 have rf := w'.ref
 have hl' : j < r.1.length := by
  have := (List.getElem?_eq_some_iff.mp w'.slot).1
  simpa using this
 refine k σ' H' ⟨w'.md.grow, fun b hb => w'.md.blk b (.inl hb), by have := w'.md.len; rw [List.length_set] at this ⊢; exact this, fun x d q n => ?_, fun x hx => ?_, fun x y b hx hy e1 e2 => ?_⟩
 ·have hne : x ≠ j := fun e => n (e ▸ hj)
  rw [za hne] at q
  obtain ⟨v, e1, e2⟩ := w'.md.sh x d (by rw [za hne]; exact q) fun z => n (h2 x z)
  exact ⟨v, e1, by rw [← bl σ' rf]; exact e2⟩
 ·rcases h1 x hx with rfl | hx'
  ·exact ⟨a, _, _, rf, zz hl', f1, g4, by simp only [Own]; rw [← bl σ' rf]; exact f2⟩
  ·have hne : x ≠ j := fun e => hn (e ▸ hx')
   obtain ⟨a', u, d, e1, e2, e3, e4, e5⟩ := w'.md.own x hx'
   rw [za hne] at e2
   exact ⟨a', u, d, e1, by rw [za hne]; exact e2, e3, ⟨e4.1, fun z => e4.2 (.inl z)⟩, by rw [← bl σ' rf]; exact e5⟩
 ·rcases h1 x hx with rfl | hx' <;> rcases h1 y hy with e | hy'
  ·exact e.symm
  ·rw [rf] at e1; cases e1
   obtain ⟨a', u, d, c1, c2, c3, c4, c5⟩ := w'.md.own y hy'
   rw [e2] at c1; cases c1
   exact absurd (.inr rfl) c4.2
  ·subst e
   rw [rf] at e2; cases e2
   obtain ⟨a', u, d, c1, c2, c3, c4, c5⟩ := w'.md.own x hx'
   rw [e1] at c1; cases c1
   exact absurd (.inr rfl) c4.2
  ·exact w'.md.sep x y b hx' hy' e1 e2
end
theorem ss_lend {X : Cx} {fr : Bool} {os os1 ol ol1 : List Nat} {j : Nat} {s : Stmt} {t : TS} {M1 : WM} (hw : WS X kL os1 os1 ol1 j s t M1) (hj : j ∈ os := by decide) (hn : j ∉ os1 := by decide) (h1 : ∀ x ∈ os, x = j ∨ x ∈ os1 := by decide) (h2 : ∀ x ∈ os1, x ∈ os := by decide) : SS X fr os os ol s t (mLend j M1) := ⟨hw.ps, sok_lend hw.ok hj hn h1 h2⟩
section
variable {K : Frag} {C : Addr} {os os' ol : List Nat} {i : Nat} {st : Bool}
end
section
variable {X : Cx} {C : Addr} {os os' ol : List Nat} {i : Nat} {st : Bool} {x : Str} {p pos : Pos}
variable {k : Nat} {fn : Addr} {fd : FuncData} {ps : List Str} {mf : List D → List D → Option (D × List D)} {mn : Str}
end
open Classical in
noncomputable def mLaid (mp : List D → Option D) (f : Ev → Option D) (M2 : WM) : Ev → Option Out := fun ρ => (f ρ).bind fun b => (mp [b]).bind fun l =>
 if h : ∃ r : Int × List D, ∀ a, ∃ ρ', M2 (ρ.set 1 (some (.adr a))) [.int 1, b, l] = some (.nx ρ', r.2) ∧ ρ'[2]? = some (some (.int r.1)) then
  match h.choose.2 with
  | .int c :: _ :: _ :: st => some (.rt (.tup [.int c, .lst st, .int h.choose.1]))
  | _ => none
 else none
section
variable {P : Program} {w : World} {K : Frag} {mg : Str → Option Value} {base : Heap} {C : Addr}
end
section
variable {X : Cx} {fr : Bool} {i : Nat} {os' ol : List Nat} {rest : List Stmt} {t : TS} {m : Ev → Option Out} {pos : Pos}
end
section
variable {K : Frag} {κ : Kd} {os os1 os' ol : List Nat} {i : Nat} {t u : TS} {H₀ H H' : Hp} {B₀ P : Addr → Prop} {σ : St} {ρ : Ev} {h : Addr} {S S' : List D}
theorem Wd.ownWrite {j : Nat} {a : Addr} {o : HO} {d : D} (w : Wd K κ H₀ B₀ P os i h S σ H ρ) (hj : j ∈ os) (hs : σ[j]? = some (some (.ref a))) (hO : Own K H (Bl B₀ os σ) o d) : Wd K κ H₀ B₀ P os i h S σ (upd H a o) (ρ.set j (some d)) := by
 obtain ⟨a', o', d', h1, h2, h3, h4, h5⟩ := w.md.own j hj
 rw [hs] at h1; cases h1
 have g : Goes H (upd H a o) (Bl B₀ os σ) (Bl B₀ os σ) := .write (.inr ⟨j, hj, hs⟩) h3 h5.mut
 refine ⟨w.md.write hj hs hO, w.blk, w.new, κ.goes w.at_ g fun b o' hb q => ?_, ?_, w.off⟩
 ·rw [zA (fun e => h4.2 (by rw [← e]; exact w.blk b hb))]; exact q
 ·rw [za (fun e => w.off (by rw [e]; exact hj))]; exact w.slot
def wOwn (j : Nat) (F : WF) : WM := fun ρ S => (F ρ S).bind fun r => (ρ[j]?.join).bind fun x => (asL x).bind fun ds => if ds.length < sizeLine then some (.nx (ρ.set j (some (.lst (ds ++ [r.1])))), r.2) else none
theorem ws_own {j : Nat} {te : TE} {F : WF} (he : WEOk K κ true os i te F) (hj : j ∈ os) : WOk K κ os os ol i (tDrop (tBM K "list" rAppend (tVar j) (Za te tNil))) (wOwn j F) := fun H₀ B₀ P h σ H ρ S o S' E w q k => by
 obtain ⟨⟨d, S1⟩, q1, qa⟩ := zb q
 obtain ⟨x, q2, qb⟩ := zb qa
 obtain ⟨ds, q3, qc⟩ := zb qb
 split at qc
 case isFalse => cases qc
 rename_i hl
 cases qc
 cases x <;> simp only [asL] at q3 <;> cases q3
 have q2' := join_get q2
 obtain ⟨a, ob, d', h1, h2, h3, h4, h5⟩ := w.md.own j hj
 rw [q2'] at h2; cases h2
 cases ob <;> simp only [Own] at h5
 refine ⟨.ref a, h1, .inl ⟨rfl, _, .inl (.inl h3)⟩, ?_⟩
 refine he H₀ B₀ P h σ H ρ S d _ _ w q1 fun v H1 k1 w1 r1 => ?_
 obtain ⟨a1, ob1, d1, g1, g2, g3, g4, g5⟩ := w1.md.own j hj
 rw [h1] at g1; cases g1
 rw [q2'] at g2; cases g2
 cases ob1 <;> simp only [Own] at g5
 exact ⟨a, _, v, rfl, rfl, g3, by rw [g5.length]; exact hl, k _ _ (w1.ownWrite (o := .lst _) (d := .lst _) hj h1 (by simp only [Own]; exact g5.append (.one r1)))⟩
def wOwnSet (j : Nat) (F : WF) (fk : Ev → Option D) : WM := fun ρ S => (F ρ S).bind fun r => (ρ[j]?.join).bind fun x => (asL x).bind fun ds => (fk ρ).bind fun d => (asI d).bind fun k => (ixN ds.length k).map fun n => (.nx (ρ.set j (some (.lst (ds.set n r.1)))), r.2)
theorem ws_ownSet {j : Nat} {te ti : TE} {F : WF} {fk : Ev → Option D} (he : WEOk K κ true os i te F) (hk : EOk K false os ti fk) (hj : j ∈ os) : WOk K κ os os ol i (tAsg te (gSub (tVar j) ti rSetL)) (wOwnSet j F fk) := fun H₀ B₀ P h σ H ρ S o S' E w q k => by
 obtain ⟨⟨d, S1⟩, q1, qa⟩ := zb q
 obtain ⟨x, q2, qb⟩ := zb qa
 obtain ⟨ds, q3, qc⟩ := zb qb
 obtain ⟨kd, q4, qd⟩ := zb qc
 obtain ⟨n, q5, qe⟩ := zb qd
 obtain ⟨m, q6, q7⟩ := map_some qe
 cases q7
 cases x <;> simp only [asL] at q3 <;> cases q3
 have q2' := join_get q2
 refine he H₀ B₀ P h σ H ρ S d _ _ w q1 fun v H1 k1 w1 r1 => ?_
 obtain ⟨a, ob, d', h1, h2, h3, h4, h5⟩ := w1.md.own j hj
 rw [q2'] at h2; cases h2
 cases ob <;> simp only [Own] at h5
 refine ⟨.ref a, h1, ?_⟩
 refine hk H₀ B₀ σ H1 ρ kd _ w1.md q4 fun w' H2 s2 r2 => ?_
 have e2 := asI_v r2 q5
 subst e2
 have w2 := w1.up s2
 have h5' := zk.up s2 h5
 exact ⟨a, _, n, m, rfl, rfl, s2 _ _ h3, by rw [h5.length]; exact q6, k σ _ (w2.ownWrite (o := .lst _) (d := .lst _) hj h1 (by simp only [Own]; exact h5'.set m (Rep.up s2 r1)))⟩
def wNew (j : Nat) (F : WF) : WM := fun ρ S => (F ρ S).bind fun r => if j < ρ.length then some (.nx (ρ.set j (some r.1)), r.2) else none
theorem ws_new {j : Nat} {te : TE} {F : WF} (he : WFOk K κ os i te F) (hji : j ≠ i) (hs : ∀ x ∈ os', x = j ∨ (x ∈ os ∧ x ≠ j)) (hs2 : ∀ x ∈ os, x ∈ os' ∨ x = j) (hm : j ∈ os') : WOk K κ os os' ol i (tAsg te (gName j)) (wNew j F) := fun H₀ B₀ P h σ H ρ S o S' E w q k => by
 obtain ⟨⟨d, S1⟩, q1, q2⟩ := zb q
 split at q2
 case isFalse => cases q2
 rename_i hl
 cases q2
 refine he H₀ B₀ P h σ H ρ S d _ _ w q1 fun a o H' hk w' hn ho hO hat => ?_
 have hls : j < σ.length := by rw [w.md.len]; exact hl
 have nP : ¬ P a := fun z => by obtain ⟨o, q, _⟩ := κ.mtb w.at_ a z; rw [hn] at q; cases q
 have nB : ¬ B₀ a := fun z => by obtain ⟨o, q⟩ := w.md.blk a z; rw [hn] at q; cases q
 have nH : H₀ a = none := w.md.grow.free hn
 have nown : ∀ x ∈ os, σ[x]? ≠ some (some (.ref a)) := fun x hx e => by
  obtain ⟨a', u, d, g1, g2, g3, _⟩ := w.md.own x hx
  rw [e] at g1; cases g1; rw [hn] at g3; cases g3
 have less : ∀ b, Bl B₀ os' (σ.set j (some (.ref a))) b → Bl B₀ os σ b ∨ b = a := fun b z => by
  rcases z with z | ⟨x, hx, z⟩
  ·exact .inl (.inl z)
  ·rcases hs x hx with rfl | ⟨h1, h2⟩
   ·rw [zz hls] at z; cases z; exact .inr rfl
   ·rw [za h2] at z; exact .inl (.inr ⟨x, h1, z⟩)
 have g : Goes H H' (Bl B₀ os σ) (Bl B₀ os' (σ.set j (some (.ref a)))) := goes_but hk (fun e o z q => by obtain ⟨o', q', n⟩ := κ.mtb w.at_ e z; rw [q] at q'; cases q'; exact n) (fun e z => .inl (w.blk e z)) fun e z => (less e z).imp id fun z => by rw [z]; exact hn
 have hsub : ∀ {b : Addr}, Bl B₀ os' (σ.set j (some (.ref a))) b → Bl B₀ os σ b ∨ b = a := fun z => less _ z
 refine k _ _ ⟨⟨w'.md.grow, w'.md.blk, by rw [List.length_set, List.length_set]; exact w.md.len, fun x e q n => ?_, fun x hx => ?_, fun x y b hx hy e1 e2 => ?_⟩, w.blk, w.new, ?_, ?_, ?_⟩
 ·have hne : x ≠ j := fun e => n (by rw [e]; exact hm)
  have hno : x ∉ os := fun z => (hs2 x z).elim n hne
  rw [za hne] at q
  obtain ⟨v, g1, g2⟩ := w.md.sh x e q hno
  exact ⟨v, by rw [za hne]; exact g1, Rep.goes g _ _ g2⟩
 ·rcases hs x hx with rfl | ⟨h1, h2⟩
  ·exact ⟨a, o, _, zz hls, zz hl, ho, ⟨nH, nB⟩, hO.goes (.less (fun b z => less b z) (.refl H'))⟩
  ·obtain ⟨a', u, d', g1, g2, g3, g4, g5⟩ := w.md.own x h1
   exact ⟨a', u, d', by rw [za h2]; exact g1, by rw [za h2]; exact g2, hk _ _ g3 (fun z => g4.2 (w.blk _ z)), g4, g5.goes g⟩
 ·rcases hs x hx with rfl | ⟨h1, h2⟩ <;> rcases hs y hy with e | ⟨h3, h4⟩
  ·exact e.symm
  ·rw [zz hls] at e1; cases e1
   rw [za h4] at e2
   exact absurd e2 (nown y h3)
  ·subst e
   rw [zz hls] at e2; cases e2
   rw [za h2] at e1
   exact absurd e1 (nown x h1)
  ·rw [za h2] at e1
   rw [za h4] at e2
   exact w.md.sep x y b h1 h3 e1 e2
 ·exact κ.goes hat (.less (fun b z => less b z) (.refl H')) fun _ _ _ q => q
 ·rw [za (Ne.symm hji)]; exact w.slot
 ·exact fun z => (hs i z).elim (fun e => hji e.symm) fun e => w.off e.1
end
def asT2 : D → Option (List D)
 | .tup ds => some ds
 | _ => none
def wCat (F G : WF) : WF := fun ρ S => (F ρ S).bind fun r => (asT2 r.1).bind fun x => (G ρ r.2).bind fun q => (asT2 q.1).bind fun y => (dTup (x ++ y)).map fun d => (d, q.2)
def wTuple (F : WF) : WF := fun ρ S => (F ρ S).bind fun r => (asL r.1).map fun ds => (.tup ds, r.2)
section
variable {K : Frag} {κ : Kd} {os : List Nat} {i : Nat} {st : Bool}
theorem we_catOk {ta tb : TE} {F G : WF} (ha : WEOk K κ true os i ta F) (hb : WEOk K κ true os i tb G) : WEOk K κ st os i (tOp (rCatA K) ta tb) (wCat F G) := fun H₀ B₀ P h σ H ρ S d S' Q w q k => by
 obtain ⟨⟨d1, S1⟩, q1, qa⟩ := zb q
 obtain ⟨x, q2, qb⟩ := zb qa
 obtain ⟨⟨d2, S2⟩, q3, qc⟩ := zb qb
 obtain ⟨y, q4, qd⟩ := zb qc
 obtain ⟨d3, q5, q6⟩ := map_some qd
 cases q6
 unfold dTup at q5
 split at q5
 case isFalse => cases q5
 rename_i hl
 cases q5
 cases d1 <;> simp only [asT2] at q2 <;> cases q2
 cases d2 <;> simp only [asT2] at q4 <;> cases q4
 refine ha H₀ B₀ P h σ H ρ S _ _ _ w q1 fun v H1 k1 w1 r1 => ?_
 refine hb H₀ B₀ P h σ H1 ρ _ _ _ _ w1 q3 fun u H2 k2 w2 r2 => ?_
 have r1' : Rep K H2 (Bl B₀ os σ) (.tup x) v := Rep.goes (w1.goes k2) _ _ r1
 have r2' : Rep K H2 (Bl B₀ os σ) (.tup y) u := r2
 simp only [Rep] at r1' r2'
 obtain ⟨p1, xs, rfl, hq1, e1⟩ := r1'
 obtain ⟨p2, ys, rfl, hq2, e2⟩ := r2'
 have l1 := e1.length
 have l2 := e2.length
 have fr : ∀ {H3 : Hp}, zJ H2 H3 → ∀ b o, H b = some o → ¬ P b → H3 b = some o := fun s b o q n => s _ _ (k2 _ _ (k1 _ _ q n) n)
 refine ⟨p1, p2, xs, ys, rfl, rfl, hq1, hq2, ?_, fun z => ?_, fun _ z => ?_, fun _ _ p' hp => ?_⟩
 ·rw [l1, l2, ← List.length_append]; exact hl
 ·subst z
  have : x = [] := List.length_eq_zero_iff.mp l1.symm
  subst this
  refine k _ H2 (fr (.refl H2)) w2 (Rep.low ?_)
  simp only [Rep, List.nil_append]
  exact ⟨p2, ys, rfl, hq2, e2⟩
 ·subst z
  have : y = [] := List.length_eq_zero_iff.mp l2.symm
  subst this
  refine k _ H2 (fr (.refl H2)) w2 (Rep.low ?_)
  simp only [Rep, List.append_nil]
  exact ⟨p1, xs, rfl, hq1, e1⟩
 ·refine k _ _ (fr (zy hp)) (w2.up (zy hp)) (Rep.low ?_)
  simp only [Rep]
  exact ⟨p', _, rfl, .inl (.inl zv), (e1.append e2).up (zy hp)⟩
theorem we_tupleOk {te : TE} {F : WF} (he : WEOk K κ true os i te F) : WEOk K κ st os i (tCB (fun xs H Q => ∃ p ys, xs = [.ref p] ∧ ((SqL K H p ys ∧ ∀ l, H l = none → Q (.ref l) (upd H l (.tup ys))) ∨ (SqT K H p ys ∧ Q (.ref p) H))) (Za te tNil)) (wTuple F) := fun H₀ B₀ P h σ H ρ S d S' Q w q k => by
 obtain ⟨⟨d1, S1⟩, q1, qa⟩ := zb q
 obtain ⟨ds, q2, q3⟩ := map_some qa
 cases q3
 cases d1 <;> simp only [asL] at q2 <;> cases q2
 refine he H₀ B₀ P h σ H ρ S _ _ _ w q1 fun v H1 k1 w1 r1 => ?_
 have r1' : Rep K H1 (Bl B₀ os σ) (.lst ds) v := r1
 simp only [Rep] at r1'
 obtain ⟨a, xs, rfl, hq, hr⟩ := r1'
 refine ⟨a, xs, rfl, .inl ⟨.inl hq.1, fun l hl => k _ _ (fun b o q n => zy hl _ _ (k1 _ _ q n)) (w1.up (zy hl)) (Rep.low ?_)⟩⟩
 simp only [Rep]
 exact ⟨l, xs, rfl, .inl (.inl zv), hr.up (zy hl)⟩
end
section
variable {X : Cx} {κ : Kd} {st : Bool} {os os' ol : List Nat} {i : Nat} {e a b : Expr} {ta tb te : TE} {F G : WF} {x : Str} {p pos : Pos}
theorem we_cat (ha : WE X κ true os i a ta F) (hb : WE X κ true os i b tb G) {K' : Frag} (hK : X.K = K' := by rfl) : WE X κ st os i (.BinOp a .Add b pos) (tOp (rCatA K') ta tb) (wCat F G) := by
 subst hK
 exact ⟨pe_op op_catA ha.pe hb.pe, we_catOk ha.ok hb.ok⟩
theorem we_tuple (hg : Gl X "tuple") (hm : X.mg "tuple" = none) (ha : WE X κ true os i a ta F) (h1 : starEach [a] X.env = (false, eval a X.env) :: starEach [] X.env := by rfl) (hpl : (backTo pos (starEach [] X.env)).any (·.1) = false := by rfl) {K' : Frag} (hK : X.K = K' := by rfl) :
  WE X κ st os i (.Call (.Name "tuple" p) [a] [] pos) (tCB (fun xs H Q => ∃ p ys, xs = [.ref p] ∧ ((SqL K' H p ys ∧ ∀ l, H l = none → Q (.ref l) (upd H l (.tup ys))) ∨ (SqT K' H p ys ∧ Q (.ref p) H))) (Za ta tNil)) (wTuple F) := by
 subst hK
 exact ⟨pe_callTy call_tuple_of hg hm PyProof.Rows.boot_tuple (zG ha.pe Zr h1) (by decide) (by decide) h1 hpl, we_tupleOk ha.ok⟩
theorem wst_own {j : Nat} {apos cpos : Pos} (h : WE X κ true os i e te F) (hj : j ∈ os := by decide) (hN : X.N[j]? = some x := by rfl) (hv : Vis X.env.scope x := by first | exact Or.inl rfl | exact Or.inr (Or.inl rfl) | exact Or.inr (Or.inr rfl)) (hd : (x == ("__debug__" : Str)) = false := by decide)
  (hcd : (x == ("__classdict__" : Str)) = false := by decide) (hs1 : starEach [e] X.env = (false, eval e X.env) :: starEach [] X.env := by rfl)
  (hbase : attributeBase (.Name x p) "append" X.env (eval (.Name x p) X.env) = eval (.Name x p) X.env := by rfl)
  (hfew : ((backTo cpos (starEach [e] X.env)).all (fun x => !x.1) && (backToKw cpos (keywordEach [] X.env)).all (fun x => x.1.isSome)
   && decide ([e].length + ([] : List Keyword).length + (if ([] : List Keyword).isEmpty then 0 else 1) < 30)) = true := by rfl)
  (hline : (apos.endLine == cpos.line) = true := by rfl) (hplain : (backTo cpos (starEach [] X.env)).any (·.1) = false := by rfl) (hs : swapsWith (.Call (.Attribute (.Name x p) "append" apos) [e] [] cpos) none pos.line X.env = pure false := by rfl) :
  WS X κ os os ol i (.Expr (.Call (.Attribute (.Name x p) "append" apos) [e] [] cpos) pos) (tDrop (tBM X.K "list" rAppend (tVar j) (Za te tNil))) (wOwn j F) := ⟨ps_expr (pe_append h.pe hN hv hd hcd hs1 hbase hfew hline hplain) hs, ws_own h.ok hj⟩
theorem wst_ownSet {j : Nat} {ik : Expr} {ti : TE} {fi : Ev → Option D} (h : WE X κ true os i e te F) (hk : SE X false os ik ti fi) (hj : j ∈ os := by decide) (hN : X.N[j]? = some x := by rfl) (hv : Vis X.env.scope x := by first | exact Or.inl rfl | exact Or.inr (Or.inl rfl) | exact Or.inr (Or.inr rfl)) (hd : (x == ("__debug__" : Str)) = false := by decide)
  (hcd : (x == ("__classdict__" : Str)) = false := by decide) {spos : Pos} (ha : ∀ v, assign (.Subscript (.Name x p) ik spos) X.env v = (do
   let ov ← holding [v] (eval (.Name x p) X.env)
   let iv ← holding [v, ov] (eval ik X.env)
   standAt spos
   holding [v, ov, iv] (setItem ov iv v)
   release [v, ov, iv] []) := by intro _; rfl) (hs : swapsWithSole [.Subscript (.Name x p) ik spos] e pos.line X.env = pure false := by rfl) (hw : swappedStores [.Subscript (.Name x p) ik spos] e X.env = pure none := by rfl)
  (h1 : (assignEach [.Subscript (.Name x p) ik spos] X.env).map (·.2) = [assign (.Subscript (.Name x p) ik spos) X.env] := by rfl) :
  WS X κ os os ol i (.Assign [.Subscript (.Name x p) ik spos] e pos) (tAsg te (gSub (tVar j) ti rSetL)) (wOwnSet j F fi) := ⟨ps_asg h.pe (pg_sub (pv j hN hv hd hcd) hk.pe set_list ha) hs hw h1, ws_ownSet h.ok hk.ok hj⟩
end
section
variable {X : Cx} {κ : Kd} {os os' ol : List Nat} {i : Nat} {pos : Pos} {scope : Scope} {own N' : List Str} {k : Nat} {elt target iter : Expr} {wi : TI} {g : TG} {te : TE} {fi : Ev → Option (List D)} {u : D → Ev → Option Ev} {F : WF}
theorem wst_newComp {j : Nat} {x : Str} {pos' spos : Pos} (hN : X.N.Nodup) (hix : X.N[j]? = some x) (hx : X.env.scope.names.lookup x = some .local) (c : CompOk X scope own N' k) (hc : X.calm = true) (hi : SI X true os target iter wi fi) (hg : ∀ s₂ H₂ fp C, SG (Zf X scope own N' s₂ H₂ fp C) os target g u) (hk : KeepsG i u)
  (he : ∀ s₂ H₂ fp C, WE (Zf X scope own N' s₂ H₂ fp C) κ true os i elt te F) (hj : j ≠ i := by decide) (h1 : ∀ y ∈ os', y = j ∨ (y ∈ os ∧ y ≠ j) := by decide) (h2 : ∀ y ∈ os, y ∈ os' ∨ y = j := by decide) (hm : j ∈ os' := by decide) (hsw : swapsWith (.ListComp elt [⟨target, iter, [], 0⟩] scope pos) (some (.Name x pos')) spos.line X.env = pure true := by rfl)
  (hs : ∀ x, foldedSetIterable iter X.env x = pure x := by intro _; rfl) : WS X κ os os' ol i (.Assign [.Name x pos'] (.ListComp elt [⟨target, iter, [], 0⟩] scope pos) spos) (tAsg (tComp k wi g tYes te) (gName j)) (wNew j (wComp k fi u F)) :=
 ⟨ps_setComp hN hix hx c hc hi.pi (fun a b c d => (hg a b c d).pg) (fun a b c d => (spf_nil (os := os)).pf) (fun a b c d => (he a b c d).pe) hsw hs, ws_new (wf_compOk hi.ok (hg X.s₀ X.H₀ [] 0).ok hk (he X.s₀ X.H₀ [] 0).ok) hj h1 h2 hm⟩
end
section
variable {i j : Nat} {f : Ev → Option D}
theorem kp_new (h : j ≠ i := by decide) : Keeps i (mNew j f) := fun ρ o q => by
 obtain ⟨d, _, q2⟩ := zb q
 split at q2
 ·cases q2; exact za (Ne.symm h)
 ·cases q2
theorem kp_upd {w : List D → D → Option (List D)} (h : j ≠ i := by decide) : Keeps i (mUpd j w f) := fun ρ o q => by
 obtain ⟨d, _, q2⟩ := zb q
 obtain ⟨x, _, q3⟩ := zb q2
 obtain ⟨ds, _, q4⟩ := zb q3
 obtain ⟨ds', _, q5⟩ := map_some q4
 cases q5
 exact za (Ne.symm h)
theorem kp_ext (h : j ≠ i := by decide) : Keeps i (mExt j f) := fun ρ o q => by
 obtain ⟨d, _, q2⟩ := zb q
 obtain ⟨es, _, q3⟩ := zb q2
 obtain ⟨x, _, q4⟩ := zb q3
 obtain ⟨ds, _, q5⟩ := zb q4
 split at q5
 ·cases q5; exact za (Ne.symm h)
 ·cases q5
end
def rIsB : R2 := fun x y H Q => ∃ a b, x = .bl a ∧ y = .bl b ∧ Q (.bl (a == b)) H
theorem op_isB {X : Cx} : OpR X (compareOp .Is) rIsB := by
 intro pins s σ H x y v u Q I rx ry h
 obtain ⟨a, b, rfl, rfl, q⟩ := h
 cases rx
 cases ry
 exact PyProof.Rows.is_bool (Zj I q rfl)
def dIsB : D → D → Option D
 | .bl a, .bl b => some (.bl (a == b))
 | _, _ => none
theorem rok_isB {K : Frag} : ROk K rIsB dIsB := fun H B x y d1 d2 d Q hB r1 r2 e k => by
 cases d1 <;> cases d2 <;> simp only [dIsB] at e <;> cases e
 simp only [Rep] at r1 r2
 exact ⟨_, _, r1, r2, k _ H (.refl H) (by simp [Rep])⟩
section
variable {K : Frag} {fr : Bool} {os os' os1 os2 ol ol1 : List Nat} {j : Nat}
theorem sok_lend2 {t : TS} {M : WM} (hw : WOk K kL os1 os2 ol1 j t M) (hj : j ∈ os) (hn : j ∉ os1) (h1 : ∀ x ∈ os, x = j ∨ x ∈ os1) (h2 : ∀ x ∈ os1, x ∈ os) (hj' : j ∈ os') (hn' : j ∉ os2) (h1' : ∀ x ∈ os', x = j ∨ x ∈ os2) (h2' : ∀ x ∈ os2, x ∈ os') : SOk K fr os os' ol t (mLend j M) := fun H₀ B₀ σ H ρ o E mm q k => by
 obtain ⟨x, q1, q2⟩ := zb q
 obtain ⟨S, q3, q4⟩ := zb q2
 split at q4
 case isFalse => cases q4
 rename_i hc
 cases q4
 cases x <;> simp only [asL] at q3 <;> cases q3
 obtain ⟨a, ob, d, g1, g2, g3, g4, g5⟩ := mm.own j hj
 have q1' := join_get q1
 rw [q1'] at g2; cases g2
 cases ob <;> simp only [Own] at g5
 rename_i hs
 have hlj : j < ρ.length := (List.getElem?_eq_some_iff.mp q1').1
 have bl : ∀ (σ' : St), σ'[j]? = some (some (.ref a)) → Bl (fun b => B₀ b ∨ b = a) os1 σ' = Bl B₀ os σ' := fun σ' e => funext fun b => propext ⟨fun z => by
  rcases z with (z | z) | ⟨x, hx, z⟩
  ·exact .inl z
  ·exact .inr ⟨j, hj, by rw [z]; exact e⟩
  ·exact .inr ⟨x, h2 x hx, z⟩, fun z => by
  rcases z with z | ⟨x, hx, z⟩
  ·exact .inl (.inl z)
  ·rcases h1 x hx with rfl | hx
   ·rw [e] at z; cases z; exact .inl (.inr rfl)
   ·exact .inr ⟨x, hx, z⟩⟩
 have w0 : Wd K kL H₀ (fun b => B₀ b ∨ b = a) (fun b => b = a) os1 j a S σ H (ρ.set j (some (.adr a))) := by
  refine ⟨⟨mm.grow, fun b hb => ?_, by rw [List.length_set]; exact mm.len, fun x d q n => ?_, fun x hx => ?_, fun x y b hx hy => mm.sep x y b (h2 x hx) (h2 y hy)⟩, fun b hb => .inr hb, fun b hb => (by rw [hb]; exact g4.1), ⟨fun b => Iff.rfl, hs, g3, by rw [bl σ g1]; exact g5⟩, zz hlj, hn⟩
  ·rcases hb with hb | hb
   ·exact mm.blk b hb
   ·rw [hb]; exact ⟨_, g3⟩
  ·by_cases e : x = j
   ·subst e
    rw [zz hlj] at q; cases q
    exact ⟨_, g1, by simp [Rep]⟩
   ·rw [za e] at q
    obtain ⟨v, e1, e2⟩ := mm.sh x d q fun z => (h1 x z).elim e n
    exact ⟨v, e1, by rw [bl σ g1]; exact e2⟩
  ·have hne : x ≠ j := fun e => hn (e ▸ hx)
   obtain ⟨a', u, d, e1, e2, e3, e4, e5⟩ := mm.own x (h2 x hx)
   exact ⟨a', u, d, e1, by rw [za hne]; exact e2, e3, ⟨e4.1, fun z => z.elim e4.2 fun z => hne (mm.sep x j a (h2 x hx) hj (by rw [← z]; exact e1) g1)⟩, by rw [bl σ g1]; exact e5⟩
 have bl' : ∀ (σ' : St), σ'[j]? = some (some (.ref a)) → Bl (fun b => B₀ b ∨ b = a) os2 σ' = Bl B₀ os' σ' := fun σ' e => funext fun b => propext ⟨fun z => by
  rcases z with (z | z) | ⟨x, hx, z⟩
  ·exact .inl z
  ·exact .inr ⟨j, hj', by rw [z]; exact e⟩
  ·exact .inr ⟨x, h2' x hx, z⟩, fun z => by
  rcases z with z | ⟨x, hx, z⟩
  ·exact .inl (.inl z)
  ·rcases h1' x hx with rfl | hx
   ·rw [e] at z; cases z; exact .inl (.inr rfl)
   ·exact .inr ⟨x, hx, z⟩⟩
 refine hw H₀ _ _ a σ H _ S _ _ E w0 (hc.choose_spec a) ?_
 generalize hc.choose = r at *
 intro σ' H' w'
 obtain ⟨p, hs', f1, f2⟩ := w'.at_
 have rf := w'.ref
 have hl' : j < r.1.length := by
  have := (List.getElem?_eq_some_iff.mp w'.slot).1
  simpa using this
 refine k σ' H' ⟨w'.md.grow, fun b hb => w'.md.blk b (.inl hb), by have := w'.md.len; rw [List.length_set] at this ⊢; exact this, fun x d q n => ?_, fun x hx => ?_, fun x y b hx hy e1 e2 => ?_⟩
 ·have hne : x ≠ j := fun e => n (e ▸ hj')
  rw [za hne] at q
  obtain ⟨v, e1, e2⟩ := w'.md.sh x d (by rw [za hne]; exact q) fun z => n (h2' x z)
  exact ⟨v, e1, by rw [← bl' σ' rf]; exact e2⟩
 ·rcases h1' x hx with rfl | hx'
  ·exact ⟨a, _, _, rf, zz hl', f1, g4, by simp only [Own]; rw [← bl' σ' rf]; exact f2⟩
  ·have hne : x ≠ j := fun e => hn' (e ▸ hx')
   obtain ⟨a', u, d, e1, e2, e3, e4, e5⟩ := w'.md.own x hx'
   rw [za hne] at e2
   exact ⟨a', u, d, e1, by rw [za hne]; exact e2, e3, ⟨e4.1, fun z => e4.2 (.inl z)⟩, by rw [← bl' σ' rf]; exact e5⟩
 ·rcases h1' x hx with rfl | hx' <;> rcases h1' y hy with e | hy'
  ·exact e.symm
  ·rw [rf] at e1; cases e1
   obtain ⟨a', u, d, c1, c2, c3, c4, c5⟩ := w'.md.own y hy'
   rw [e2] at c1; cases c1
   exact absurd (.inr rfl) c4.2
  ·subst e
   rw [rf] at e2; cases e2
   obtain ⟨a', u, d, c1, c2, c3, c4, c5⟩ := w'.md.own x hx'
   rw [e1] at c1; cases c1
   exact absurd (.inr rfl) c4.2
  ·exact w'.md.sep x y b hx' hy' e1 e2
end
theorem ss_lend2 {X : Cx} {fr : Bool} {os os' os1 os2 ol ol1 : List Nat} {j : Nat} {s : Stmt} {t : TS} {M1 : WM} (hw : WS X kL os1 os2 ol1 j s t M1) (hj : j ∈ os := by decide) (hn : j ∉ os1 := by decide) (h1 : ∀ x ∈ os, x = j ∨ x ∈ os1 := by decide) (h2 : ∀ x ∈ os1, x ∈ os := by decide) (hj' : j ∈ os' := by decide) (hn' : j ∉ os2 := by decide) (h1' : ∀ x ∈ os', x = j ∨ x ∈ os2 := by decide) (h2' : ∀ x ∈ os2, x ∈ os' := by decide) : SS X fr os os' ol s t (mLend j M1) := ⟨hw.ps, sok_lend2 hw.ok hj hn h1 h2 hj' hn' h1' h2'⟩
def tCallV (i : Nat) (f : Addr) (sp : Sp) (t : TA) : TE := fun σ H Q => σ[i]? = some (some (.ref f)) ∧ t σ H fun vs H1 => sp vs H1 Q E0
def isAdr (f : Addr) : Option D → Bool
 | some (.adr a) => decide (a = f)
 | _ => false
def fCallV (i : Nat) (f : Addr) (m : List D → Option D) (fl : Ev → Option (List D)) : Ev → Option D := fun ρ => if isAdr f ρ[i]?.join = true then (fl ρ).bind m else none
theorem fCallV_ {i : Nat} {f : Addr} {m : List D → Option D} {fl : Ev → Option (List D)} {ρ : Ev} {ds : List D} {d : D} (h : ρ[i]? = some (some (.adr f))) (h1 : fl ρ = some ds) (h2 : m ds = some d) : fCallV i f m fl ρ = some d := by
 unfold fCallV
 rw [h, if_pos (by simp [isAdr]), h1]
 exact h2
section
variable {X : Cx} {st : Bool} {os : List Nat} {e : Expr} {es : List Expr} {tl : TA} {fl : Ev → Option (List D)} {x : Str} {p pos : Pos}
theorem se_callV {i k : Nat} {fn : Addr} {fd : FuncData} {ps : List Str} {m : List D → Option D} (F : FnOk X.prog X.w X.K X.mg X.base CX0 k fn fd ps (spM X.K m)) (hr : Room k X.A) (hk : keepIn X.K (.ref fn) = true) (hb : Binds X.K fd ps [])
  (ha : SA X true os (e :: es) tl fl) (hi : i ∉ os := by decide) (hN : X.N[i]? = some x := by rfl) (hv : Vis X.env.scope x := by first | exact Or.inl rfl | exact Or.inr (Or.inl rfl) | exact Or.inr (Or.inr rfl)) (hd : (x == ("__debug__" : Str)) = false := by decide) (hcd : (x == ("__classdict__" : Str)) = false := by decide)
  (he : starEach (e :: es) X.env = (false, eval e X.env) :: starEach es X.env := by rfl) (hpl : (backTo pos (starEach es X.env)).any (·.1) = false := by rfl) {K' : Frag} (hK : X.K = K' := by rfl) :
  SE X st os (.Call (.Name x p) (e :: es) [] pos) (tCallV i fn (spM K' m) tl) (fCallV i fn m fl) := by
 subst hK
 refine ⟨?_, ?_⟩
 ·rintro pins s σ H Q I ⟨hs, h⟩
  refine wpAny_Call_Name_kw (thn (pe_var hN hv hd hcd pins s σ H (fun v H1 => v = .ref fn ∧ tl σ H1 fun vs H2 => spM X.K m vs H2 Q E0) I ⟨.ref fn, hs, rfl, h⟩) fun u s1 ⟨v, H1, I1, r1, e1, q1⟩ => ?_)
  subst e1
  obtain rfl : u = Value.ref fn := r1
  refine PySem.W.callWith_K (h₀ := X.base) I1.ok.mod.kin hk (thn (ha.pa pos pins s1 σ H1 _ I1 q1) fun us s2 ⟨vs, H2, I2, r, q⟩ => ⟨I2.kIn, ?_⟩) he hpl
  exact run_fn (dvs := []) (ds := []) F hr hb .nil pass0 I2 r (by rw [List.append_nil]; exact q)
 ·intro H₀ B₀ σ H ρ d Q mm q k
  unfold fCallV at q
  split at q
  case isFalse => cases q
  rename_i hA
  obtain ⟨ds, h1, h2⟩ := zb q
  have hs : ρ[i]? = some (some (.adr fn)) := by
   unfold isAdr at hA
   split at hA
   ·rename_i a ea
    have := of_decide_eq_true hA
    subst this
    exact join_get ea
   ·cases hA
  obtain ⟨v, g1, g2⟩ := mm.sh i _ hs hi
  simp only [Rep] at g2
  subst g2
  refine ⟨g1, ha.ok H₀ B₀ σ H ρ ds _ mm h1 fun vs H1 s1 r1 => ?_⟩
  exact ⟨Bl B₀ os σ, ds, d, fun a z => (mm.up s1).tracked z, r1, h2, fun v H' s2 r2 => k v H' (s1.trans s2) (Rep.bb r2)⟩
end
open Classical in
noncomputable def hideF (mf : Addr → List D → Option D) : List D → Option D := fun ds => if h : ∃ d, ∀ f, mf f (ds ++ [.adr f]) = some d then some h.choose else none
theorem hideF_eq {mf : Addr → List D → Option D} {ds : List D} {d : D} (h : ∀ f, mf f (ds ++ [.adr f]) = some d) : hideF mf ds = some d := by
 have hx : ∃ d, ∀ f, mf f (ds ++ [.adr f]) = some d := ⟨d, h⟩
 unfold hideF
 rw [dif_pos hx]
 exact (hx.choose_spec 0).symm.trans (h 0)
def spA (K : Frag) (f : Addr) (m : List D → Option D) : Sp := fun vs H Q _ => ∃ (B : Addr → Prop) (ds : List D) (d : D) (us : List V), vs = us ++ [.ref f] ∧ (∀ a, B a → ∃ o, H a = some o) ∧ zk K H B ds us ∧ m ds = some d ∧ ∀ v H', zJ H H' → Rep K H' B d v → Q v H'
theorem _root_.L2.FnOk.hide {P : Program} {w : World} {K : Frag} {mg : Str → Option Value} {base : Heap} {k : Nat} {f g : Addr} {fd : FuncData} {ps : List Str} {mf : Addr → List D → Option D} (h : FnOk P w K mg base CX0 k f fd ps (spM K (mf g))) : FnOk P w K mg base CX0 k f fd ps (spA K g (hideF mf)) :=
 have z : ∀ {vs : List V} {H : Hp} {Q : VK} {E : XK}, spA K g (hideF mf) vs H Q E → spM K (mf g) vs H Q E := fun ⟨B, ds, d, us, e, hB, r, q, kk⟩ => by
  unfold hideF at q
  split at q
  ·rename_i hx
   cases q
   exact ⟨B, ds ++ [.adr g], _, hB, by rw [e]; exact r.append (.one (by simp [Rep])), hx.choose_spec g, kk⟩
  ·cases q
 ⟨fun vs H Q E x => h.len vs H Q E (z x), fun A outer s H bd us vs Q E hr I hb r x => h.run A outer s H bd us vs Q E hr I hb r (z x)⟩
theorem _root_.L2.FnOk.noA {P : Program} {w : World} {K : Frag} {mg : Str → Option Value} {base : Heap} {k : Nat} {f g : Addr} {fd : FuncData} {ps : List Str} : FnOk P w K mg base CX0 k f fd ps (spA K g fun _ => none) :=
 ⟨fun _ _ _ _ ⟨_, _, _, _, _, _, _, e, _⟩ => (nomatch e), fun _ _ _ _ _ _ _ _ _ _ _ _ _ ⟨_, _, _, _, _, _, _, e, _⟩ => (nomatch e)⟩
theorem se_callA {X : Cx} {st : Bool} {os : List Nat} {e1 e2 : Expr} {t1 t2 : TE} {f1 f2 : Ev → Option D} {x y : Str} {p p' pos : Pos} {k : Nat} {fn g : Addr} {fd : FuncData} {ps : List Str} {m : List D → Option D} (F : FnOk X.prog X.w X.K X.mg X.base CX0 k fn fd ps (spA X.K g m)) (hr : Room k X.A) (hg : Gl X x) (hm : X.mg x = some (.ref fn)) (hk : keepIn X.K (.ref fn) = true) (hb : Binds X.K fd ps [])
  (hg2 : Gl X y) (hm2 : X.mg y = some (.ref g)) (h1 : SE X st os e1 t1 f1) (h2 : SE X st os e2 t2 f2) (hdb : (x == ("__debug__" : Str)) = false := by decide) (hdb2 : (y == ("__debug__" : Str)) = false := by decide) (he : starEach [e1, e2, .Name y p'] X.env = (false, eval e1 X.env) :: starEach [e2, .Name y p'] X.env := by rfl) (he2 : starEach [e2, .Name y p'] X.env = (false, eval e2 X.env) :: starEach [.Name y p'] X.env := by rfl) (he3 : starEach [.Name y p'] X.env = (false, eval (.Name y p') X.env) :: starEach [] X.env := by rfl) (hpl : (backTo pos (starEach [e2, .Name y p'] X.env)).any (·.1) = false := by rfl) {K' : Frag} (hK : X.K = K' := by rfl) :
  SE X st os (.Call (.Name x p) [e1, e2, .Name y p'] [] pos) (tCall (spA K' g m) [] E0 (Za t1 (Za t2 (Za (tC (.ref g)) tNil)))) (fA m (ze f1 (ze f2 zj))) := by
 subst hK
 refine ⟨pe_call F hr hg hm hk hb .nil pass0 (zG h1.pe (zG h2.pe (zG (pe_glob hg2 hm2 rfl hdb2) Zr he3) he2) he) hdb he hpl, fun H₀ B₀ σ H ρ d Q mm q kk => ?_⟩
 obtain ⟨ds, q1, q2⟩ := zb q
 obtain ⟨x1, q3, q4⟩ := zb q1
 obtain ⟨y1, q5, q6⟩ := map_some q4
 obtain ⟨x2, q7, q8⟩ := zb q5
 cases q8
 cases q6
 refine h1.ok H₀ B₀ σ H ρ _ _ mm q3 fun v1 H1 s1 r1 => ?_
 refine h2.ok H₀ B₀ σ H1 ρ _ _ (mm.up s1) q7 fun v2 H2 s2 r2 => ?_
 exact ⟨BB st B₀ os σ, _, d, [v1, v2], rfl, (mm.up (s1.trans s2)).bb st, .cons (r1.up s2) (.cons r2 .nil), q2, fun v H' s3 r3 => kk v H' ((s1.trans s2).trans s3) r3⟩
def strsD : List D → Option (List Str)
 | [] => some []
 | .str x :: r => (strsD r).map (x :: ·)
 | _ :: _ => none
theorem of_strsD {K : Frag} {H : Hp} {B : Addr → Prop} : ∀ {ds : List D} {xs : List Str} {vs : List V}, strsD ds = some xs → zk K H B ds vs → vs = xs.map V.str
 | [], xs, vs, e, r => by cases e; simp only [zk] at r; exact r
 | .str x :: ds, xs, vs, e, r => by
  obtain ⟨ys, e1, rfl⟩ := map_some e
  simp only [zk] at r
  obtain ⟨v, t, rfl, h1, h2⟩ := r
  simp only [Rep] at h1
  rw [h1, of_strsD e1 h2]; rfl
 | .non :: _, _, _, e, _ | .bl _ :: _, _, _, e, _ | .int _ :: _, _, _, e, _ | .tup _ :: _, _, _, e, _ | .lst _ :: _, _, _, e, _ | .dict _ _ :: _, _, _, e, _ | .scr _ :: _, _, _, e, _ | .adr _ :: _, _, _, e, _ | .kset _ :: _, _, _, e, _ | .tk _ :: _, _, _, e, _ | .pin _ _ :: _, _, _, e, _ => by simp [strsD] at e
def dInT : D → D → Option D
 | .str x, .tup ds => (strsD ds).map fun xs => .bl (inV (.str x) (xs.map V.str))
 | _, _ => none
theorem rok_inT {K : Frag} : ROk K (rIn K false) dInT := fun H B x y d1 d2 d Q hB r1 r2 e k => by
 cases d1 <;> cases d2 <;> simp only [dInT] at e <;> try (cases e; done)
 rename_i x0 ds
 obtain ⟨xs, e1, rfl⟩ := map_some e
 simp only [Rep] at r1 r2
 subst r1
 obtain ⟨p, vs, rfl, hq, hr⟩ := r2
 have := of_strsD e1 hr
 subst this
 exact ⟨p, _, rfl, .inr hq, rfl, by simp [flatV], k _ H (.refl H) (by simp [Rep])⟩
theorem dInT_t {x : Str} {xs : List Str} (h : x ∈ xs) {ds : List D} (hd : strsD ds = some xs) : dInT (.str x) (.tup ds) = some (.bl true) := by
 show (strsD ds).map _ = _
 rw [hd]
 show some (D.bl _) = _
 have : inV (.str x) (xs.map V.str) = true := by
  unfold inV
  rw [List.any_eq_true]
  exact ⟨.str x, List.mem_map.mpr ⟨x, h, rfl⟩, by simp [eqV]⟩
 rw [this]
theorem dInT_f {x : Str} {xs : List Str} (h : x ∉ xs) {ds : List D} (hd : strsD ds = some xs) : dInT (.str x) (.tup ds) = some (.bl false) := by
 show (strsD ds).map _ = _
 rw [hd]
 show some (D.bl _) = _
 have : inV (.str x) (xs.map V.str) = false := by
  unfold inV
  rw [List.any_eq_false]
  intro y hy
  obtain ⟨z, hz, rfl⟩ := List.mem_map.mp hy
  simp [eqV]
  exact fun e => h (by rw [← e]; exact hz)
 rw [this]
end M
namespace EV
open PySem L2 M
open PySem.W (Frag)
noncomputable def b_lists_in : Ev → Option Out :=
  (mRet (fComp 1 (zl false (zd 0)) (zD 1) (zC (f1 (gIsi "list") (zd 1))) (zd 1)))
noncomputable def m_lists_in : List D → Option D := mDef 1 1 b_lists_in
noncomputable def b_all_alike (fa : Addr) (ra : List D → Option D) : Ev → Option Out :=
  (zO (mIf (zC (f2 dNeS (fA gLen (zl true (zd 0))) (fA gLen (zl true (zd 1)))))
  (mRet (fC (.bl false)))
  mNext)
  (mRet (fA gAllB (zl true (fComp 2 (fZip (zl true (zd 0)) (zl true (zd 1))) (uTup (uCons (zD 3) (uCons (zD 4) uNil))) fYes (fCallV 2 fa ra (ze (zd 3) (ze (zd 4) zj))))))))
noncomputable def b_rows_alike (r_all_alike_1 r_all_alike_2 r_rows_alike r_row_alike : List D → Option D) : Ev → Option Out :=
  (mRet (fA r_all_alike_2 (ze (zd 0) (ze (zd 1) zj))))
noncomputable def b_row_alike (r_all_alike_1 r_all_alike_2 r_rows_alike r_row_alike : List D → Option D) : Ev → Option Out :=
  (zO (mIf (zC (f2 dNeS (fIx (zl false (zd 0)) (fC (.int 0))) (fIx (zl false (zd 1)) (fC (.int 0)))))
  (mRet (fC (.bl false)))
  mNext)
  (zO (mIf (zC (f2 dEqS (fIx (zl false (zd 0)) (fC (.int 0))) (fC (.str "call"))))
  (mRet (f2 dEqD (fIx (zl false (zd 0)) (fC (.int 1))) (fIx (zl false (zd 1)) (fC (.int 1)))))
  mNext)
  (mRet (fA r_all_alike_1 (ze (fA m_lists_in (ze (zd 0) zj)) (ze (fA m_lists_in (ze (zd 1) zj)) zj))))))
noncomputable def zi : Nat → (List D → Option D) × (List D → Option D) × (List D → Option D) × (List D → Option D)
 | 0 => ((fun _ => none), (fun _ => none), (fun _ => none), (fun _ => none))
 | n + 1 => (hideF (fun fa => mDef 3 3 (b_all_alike fa ((zi n).2.2.1))), hideF (fun fa => mDef 3 3 (b_all_alike fa ((zi n).2.2.2))), mDef 2 2 (b_rows_alike ((zi n).1) ((zi n).2.1) ((zi n).2.2.1) ((zi n).2.2.2)), mDef 2 2 (b_row_alike ((zi n).1) ((zi n).2.1) ((zi n).2.2.1) ((zi n).2.2.2)))
noncomputable def m_all_alike_1 : List D → Option D := (zi 40).1
noncomputable def m_all_alike_2 : List D → Option D := (zi 40).2.1
noncomputable def m_rows_alike : List D → Option D := (zi 40).2.2.1
noncomputable def m_row_alike : List D → Option D := (zi 40).2.2.2
noncomputable def b_one_shape : Ev → Option Out :=
  (mRet (fA m_all_alike_1 (ze (fIx (zl false (zd 0)) (fC (.int 1))) (ze (fIx (zl false (zd 1)) (fC (.int 1))) zj))))
noncomputable def m_one_shape : List D → Option D := mDef 2 2 b_one_shape
noncomputable def b'cell : Ev → Option Out :=
  (zO (mIf (zC (f2 dLt (zd 1) (fA gLen (zl true (zd 0)))))
  (mRet (fIx (zl true (zd 0)) (zd 1)))
  mNext)
  (zO (mSet 2 (f2 dAdd (f2 dMul (zd 1) (fC (.int 7919))) (fC (.int 5))))
  (zO (mIf (zC (f2 dGt (fA gLen (zl true (zd 0))) (fC (.int 0))))
  (mSet 2 (f2 dMod (f2 dAdd (f2 dMul (fIx (zl true (zd 0)) (f2 dMod (f2 dMul (zd 1) (fC (.int 7))) (fA gLen (zl true (zd 0))))) (fC (.int 48271))) (f2 dMul (zd 1) (fC (.int 7919)))) (fC (.int 2147483647))))
  mNext)
  (zO (mSet 2 (f2 dMod (f2 dMul (zd 2) (zd 2)) (fC (.int 2147483629))))
  (mRet (f2 dMod (f2 dMul (f2 dAdd (zd 2) (fC (.int 11))) (f2 dAdd (zd 2) (fC (.int 3)))) (fC (.int 2147483587))))))))
noncomputable def m'cell : List D → Option D := mDef 2 3 b'cell
noncomputable def b'line : Ev → Option Out :=
  (zO (mNew 2 (fLst zj))
  (zO (mFor (fRng1 (f2 dAdd (zd 1) (fC (.int 1)))) (zD 3)
  (zO (mSet 4 (f2 dMod (f2 dAdd (f2 dMul (f2 dDivP (zd 0) (f2 dAdd (f2 dMul (zd 3) (zd 3)) (fC (.int 3)))) (fC (.int 48271))) (f2 dMul (zd 3) (fC (.int 69621)))) (fC (.int 2147483647))))
  (zO (mSet 5 (fIx (zl true (fLst (ze (fC (.int 0)) (ze (fC (.int 1)) (ze (fC (.int 0)) (ze (f1 dNeg (fC (.int 1))) (ze (fC (.int 1)) (ze (fC (.int 2)) (ze (fC (.int 0)) (ze (fC (.int 3)) (ze (f1 dNeg (fC (.int 2))) zj))))))))))) (f2 dMod (zd 4) (fC (.int 9)))))
  (zO (mIf (zC (f2 dEqS (f2 dMod (f2 dDiv (zd 4) (fC (.int 9))) (fC (.int 60))) (fC (.int 7))))
  (zO (mSet 5 (f2 dSub (f2 dMod (f2 dDiv (zd 4) (fC (.int 540))) (fC (.int 1999999))) (fC (.int 999999))))
  (mIf (zC (f2 dGt (zd 3) (fC (.int 0))))
  (mSet 5 (f2 dSub (f2 dMod (zd 5) (fC (.int 19))) (fC (.int 9))))
  mNext))
  mNext)
  (mUpd 2 zS (zd 5))))))
  (mRet (fA gTuple (zl true (zd 2))))))
noncomputable def m'line : List D → Option D := mDef 2 6 b'line
noncomputable def b'deed : Ev → Option Out :=
  (zO (mSet 3 (f2 dMod (f2 dDiv (zd 0) (fC (.int 8))) (fC (.int 13))))
  (zO (mIf (fAnd (zC (f2 dGt (zd 3) (fC (.int 10)))) (zC (f2 dNeD (zd 2) (fLst zj))))
  (mRet (fFlat (fIx (zl true (fComp 1 (zl true (zd 2)) (zD 5) fYes (fTup (ze (fC (.str "call")) (ze (fIx (zl false (zd 5)) (fC (.int 0))) zj))))) (f2 dMod (f2 dDiv (zd 0) (fC (.int 104))) (fA gLen (zl true (zd 2)))))))
  mNext)
  (zO (mIf (zC (f2 dEqS (zd 3) (fC (.int 8))))
  (mRet (fTup (ze (fC (.str "either")) (ze (fLst zj) (ze (fLst zj) zj)))))
  mNext)
  (zO (mIf (zC (f2 dEqS (zd 3) (fC (.int 9))))
  (mRet (fTup (ze (fC (.str "loop")) (ze (fLst zj) zj))))
  mNext)
  (zO (mIf (fAnd (zC (f2 dEqS (zd 3) (fC (.int 10)))) (zC (f2 dEqS (f2 dMod (f2 dDiv (zd 0) (fC (.int 104))) (fC (.int 3))) (fC (.int 0)))))
  (mRet (fFlat (fTup (ze (fC (.str "halt")) zj))))
  mNext)
  (zO (mIf (fOr (zC (f2 dEqS (zd 3) (fC (.int 7)))) (zC (f2 dEqS (zd 1) (fC (.int 0)))))
  (mRet (fFlat (fTup (ze (fC (.str "skip")) zj))))
  mNext)
  (zO (mSet 4 (f2 dMod (f2 dDiv (zd 0) (fC (.int 104))) (zd 1)))
  (zO (mIf (fAnd (zC (f2 dGt (zd 3) (fC (.int 4)))) (zC (f2 dLt (zd 3) (fC (.int 7)))))
  (mRet (fFlat (fTup (ze (fC (.str "take")) (ze (zd 4) zj)))))
  mNext)
  (mRet (fFlat (fTup (ze (fC (.str "set")) (ze (zd 4) (ze (fA m'line (ze (f2 dDiv (zd 0) (fC (.int 13))) (ze (zd 1) zj))) zj))))))))))))))
noncomputable def m'deed : List D → Option D := mDef 3 5 b'deed
noncomputable def b'body : Ev → Option Out :=
  (mB15 (fA m'deed (ze (zd 8) (ze (zd 1) (ze (zd 2) zj)))) (fA gSum (zl true (fComp 1 (zl true (zd 2)) (zD 11) (fAnd (zC (f2 dEqS (fIx (zl false (zd 9)) (fC (.int 0))) (fC (.str "call")))) (zC (f2 dEqD (fIx (zl false (zd 11)) (fC (.int 0))) (fIx (zl false (zd 9)) (fC (.int 1)))))) (fIx (zl false (zd 11)) (fC (.int 1)))))) (f2 dAdd (zd 10) (fA gInt (ze (fFlat (f2 dNeS (fIx (zl false (zd 9)) (fC (.int 0))) (fC (.str "call")))) zj))))
noncomputable def m'body : List D → Option D := mDef 5 11 b'body
noncomputable def b'program : Ev → Option Out :=
  (zO (mSet 4 (fLst zj))
  (zO (mSet 5 (fLst zj))
  (zO (mSet 6 (f2 dAdd (fC (.int 1)) (f2 dMod (fA m'cell (ze (zd 0) (ze (zd 1) zj))) (fC (.int 4)))))
  (zO (mFor (fRngD (f2 dSub (zd 6) (fC (.int 1))) (f1 dNeg (fC (.int 1)))) (zD 7)
  (zO (mSet 8 (fC (.int 4)))
  (zO (mSet 9 (fC (.int 2)))
  (zO (mIf (zC (f2 dEqS (zd 7) (fC (.int 0))))
  (zO (mSet 8 (f2 dAdd (fC (.int 6)) (f2 dMod (f2 dDiv (fA m'cell (ze (zd 0) (ze (zd 1) zj))) (fC (.int 4))) (fC (.int 9)))))
  (mSet 9 (fC (.int 3))))
  mNext)
  (zO (mSet 10 (f2 dAdd (f2 dAdd (f2 dAdd (zd 1) (fC (.int 1))) (f2 dMul (fC (.int 11)) (fA gInt (ze (fFlat (f2 dGt (zd 7) (fC (.int 0)))) zj)))) (f2 dMul (fC (.int 4)) (zd 7))))
  (zO (mSet 11 (fComp 1 (fRng1 (zd 8)) (zD 14) fYes (fA m'cell (ze (zd 0) (ze (f2 dAdd (zd 10) (zd 14)) zj)))))
  (zO (mAsg (uTup (uCons (zD 12) (uCons (zD 13) uNil))) (fA m'body (ze (zd 11) (ze (zd 2) (ze (zd 5) (ze (zd 9) (ze (zd 3) zj)))))))
  (zO (mSet 4 (fCat (fL (fLst (ze (zd 12) zj))) (fL (zd 4))))
  (mSet 5 (fCat (fL (fLst (ze (fTup (ze (zd 7) (ze (zd 13) zj))) zj))) (fL (zd 5))))))))))))
  (mRet (fTup (ze (zd 2) (ze (zd 4) zj))))))))
noncomputable def m'program : List D → Option D := mDef 4 14 b'program
noncomputable def b'like (r'like : List D → List D → Option (D × List D)) : WM :=
  (wSeq (wM (mNew 3 (fLst zj)))
  (wSeq (wFor (zl true (zd 0)) (zD 4)
  (wSeq (wSetIx (w2 dMod (w2 dAdd (w2 dMul (wIx (fC (.int 0))) (wL (fC (.int 48271)))) (wL (fC (.int 11)))) (wL (fC (.int 2147483647)))) (fC (.int 0)))
  (wSeq (wSet 5 (wIx (fC (.int 0))))
  (wIf (wL (zC (f2 dEqS (fIx (zl false (zd 4)) (fC (.int 0))) (fC (.str "set")))))
  (wM (mUpd 3 zS (fTup (ze (fC (.str "set")) (ze (f2 dMod (zd 5) (zd 1)) (ze (fA m'line (ze (f2 dDiv (zd 5) (fC (.int 7))) (ze (zd 1) zj))) zj))))))
  (wIf (wL (zC (f2 dEqS (fIx (zl false (zd 4)) (fC (.int 0))) (fC (.str "take")))))
  (wM (mUpd 3 zS (fTup (ze (fC (.str "take")) (ze (f2 dMod (zd 5) (zd 1)) zj)))))
  (wIf (wL (zC (f2 dEqS (fIx (zl false (zd 4)) (fC (.int 0))) (fC (.str "loop")))))
  (wOwn 3 (wTup (zH (wL (fC (.str "loop"))) (zH (wCall 2 r'like (zH (wL (fIx (zl false (zd 4)) (fC (.int 1)))) (zH (wL (zd 1)) (zH (wL (zd 2)) (wL zj))))) (wL zj)))))
  (wIf (wL (zC (f2 dEqS (fIx (zl false (zd 4)) (fC (.int 0))) (fC (.str "either")))))
  (wSeq (wSet 6 (wCall 2 r'like (zH (wL (fIx (zl false (zd 4)) (fC (.int 1)))) (zH (wL (zd 1)) (zH (wL (zd 2)) (wL zj))))))
  (wOwn 3 (wTup (zH (wL (fC (.str "either"))) (zH (wL (zd 6)) (zH (wCall 2 r'like (zH (wL (fIx (zl false (zd 4)) (fC (.int 2)))) (zH (wL (zd 1)) (zH (wL (zd 2)) (wL zj))))) (wL zj)))))))
  (wM (mUpd 3 zS (zd 4))))))))))
  (wRet (wL (zd 3)))))
noncomputable def R'like : Nat → (List D → List D → Option (D × List D))
 | 0 => (fun _ _ => none)
 | n + 1 => wDef 3 7 (b'like ((R'like n)))
noncomputable def m'like : List D → List D → Option (D × List D) := (R'like 40)
noncomputable def b'shape (r'shape : List D → Option D) : Ev → Option Out :=
  (zO (mNew 1 (fLst zj))
  (zO (mFor (zl true (zd 0)) (zD 2)
  (mIf (zC (f2 dEqS (fIx (zl false (zd 2)) (fC (.int 0))) (fC (.str "call"))))
  (mUpd 1 zS (zd 2))
  (mIf (zC (f2 dInT (fIx (zl false (zd 2)) (fC (.int 0))) (fTup (ze (fC (.str "either")) (ze (fC (.str "loop")) zj)))))
  (mUpd 1 zS (fTup (ze (fIx (zl false (zd 2)) (fC (.int 0))) (ze (fComp 1 (zl false (fCutT (zl false (zd 2)) (fPart (fC (.int 1))) fNo)) (zD 3) fYes (fA r'shape (ze (zd 3) zj))) zj))))
  (mUpd 1 zS (fIx (zl false (zd 2)) (fC (.int 0)))))))
  (mRet (zd 1))))
noncomputable def R'shape : Nat → (List D → Option D)
 | 0 => (fun _ => none)
 | n + 1 => mDef 1 3 (b'shape ((R'shape n)))
noncomputable def m'shape : List D → Option D := (R'shape 40)
noncomputable def b'copied (r'copied : List D → Option D) : Ev → Option Out :=
  (zO (mNew 1 (fLst zj))
  (zO (mFor (zl true (zd 0)) (zD 2)
  (mIf (zC (f2 dInT (fIx (zl false (zd 2)) (fC (.int 0))) (fTup (ze (fC (.str "either")) (ze (fC (.str "loop")) zj)))))
  (mUpd 1 zS (fCatT (fTup (ze (fIx (zl false (zd 2)) (fC (.int 0))) zj)) (fA gTuple (zl true (fComp 1 (zl false (fCutT (zl false (zd 2)) (fPart (fC (.int 1))) fNo)) (zD 3) fYes (fA r'copied (ze (zd 3) zj)))))))
  (mUpd 1 zS (zd 2))))
  (mRet (zd 1))))
noncomputable def R'copied : Nat → (List D → Option D)
 | 0 => (fun _ => none)
 | n + 1 => mDef 1 3 (b'copied ((R'copied n)))
noncomputable def m'copied : List D → Option D := (R'copied 40)
noncomputable def b'many (r'many : List D → Option D) : Ev → Option Out :=
  (zO (mSet 1 (fC (.int 0)))
  (zO (mFor (zl true (zd 0)) (zD 2)
  (zO (mSet 1 (f2 dAdd (zd 1) (fC (.int 1))))
  (mIf (zC (f2 dInT (fIx (zl false (zd 2)) (fC (.int 0))) (fTup (ze (fC (.str "either")) (ze (fC (.str "loop")) zj)))))
  (mFor (zl false (fCutT (zl false (zd 2)) (fPart (fC (.int 1))) fNo)) (zD 3)
  (mSet 1 (f2 dAdd (zd 1) (fA r'many (ze (zd 3) zj)))))
  mNext)))
  (mRet (zd 1))))
noncomputable def R'many : Nat → (List D → Option D)
 | 0 => (fun _ => none)
 | n + 1 => mDef 1 4 (b'many ((R'many n)))
noncomputable def m'many : List D → Option D := (R'many 40)
noncomputable def b'other_row : Ev → Option Out :=
  (zO (mIf (zC (f2 dEqS (f2 dMod (zd 1) (fC (.int 7))) (fC (.int 0))))
  (mRet (fLst zj))
  mNext)
  (zO (mIf (zC (f2 dEqS (f2 dMod (zd 1) (fC (.int 7))) (fC (.int 1))))
  (mRet (fLst (ze (zd 0) (ze (zd 0) zj))))
  mNext)
  (zO (mIf (fAnd (zC (f2 dEqS (fIx (zl false (zd 0)) (fC (.int 0))) (fC (.str "either")))) (zC (f2 dLt (f2 dMod (zd 1) (fC (.int 7))) (fC (.int 4)))))
  (mRet (fLst (ze (fTup (ze (fC (.str "either")) (ze (fIx (zl false (zd 0)) (fC (.int 2))) (ze (fIx (zl false (zd 0)) (fC (.int 1))) zj)))) zj)))
  mNext)
  (zO (mIf (fAnd (zC (f2 dInT (fIx (zl false (zd 0)) (fC (.int 0))) (fTup (ze (fC (.str "either")) (ze (fC (.str "loop")) zj))))) (zC (f2 dEqS (f2 dMod (zd 1) (fC (.int 7))) (fC (.int 4)))))
  (mRet (fLst (ze (fCatT (fTup (ze (fIx (zl false (zd 0)) (fC (.int 0))) zj)) (fA gTuple (zl true (fComp 1 (zl false (fCutT (zl false (zd 0)) (fPart (fC (.int 1))) fNo)) (zD 3) fYes (fLst zj))))) zj)))
  mNext)
  (zO (mIf (fAnd (zC (f2 dEqS (fIx (zl false (zd 0)) (fC (.int 0))) (fC (.str "call")))) (fAnd (zC (f2 dGt (zd 2) (fC (.int 1)))) (zC (f2 dLt (f2 dMod (zd 1) (fC (.int 7))) (fC (.int 5))))))
  (mRet (fLst (ze (fTup (ze (fC (.str "call")) (ze (f2 dAdd (fC (.int 1)) (f2 dMod (f2 dDiv (zd 1) (fC (.int 7))) (f2 dSub (zd 2) (fC (.int 1))))) zj))) zj)))
  mNext)
  (mRet (fIx (zl true (fLst (ze (fLst (ze (fTup (ze (fC (.str "skip")) zj)) zj)) (ze (fLst (ze (fTup (ze (fC (.str "halt")) zj)) zj)) zj)))) (f2 dMod (f2 dDiv (zd 1) (fC (.int 7))) (fC (.int 2))))))))))
noncomputable def m'other_row : List D → Option D := mDef 3 3 b'other_row
noncomputable def b'bent (r'bent : List D → List D → Option (D × List D)) : WM :=
  (wSeq (wM (mNew 4 (fLst zj)))
  (wSeq (wFor (zl true (zd 0)) (zD 5)
  (wSeq (wSetIx (w2 dSub (wIx (fC (.int 0))) (wL (fC (.int 1)))) (fC (.int 0)))
  (wIf (wTest (w2 dEqS (wIx (fC (.int 0))) (wL (f1 dNeg (fC (.int 1))))))
  (wM (mExt 4 (fA m'other_row (ze (zd 5) (ze (zd 2) (ze (zd 3) zj))))))
  (wIf (wL (zC (f2 dInT (fIx (zl false (zd 5)) (fC (.int 0))) (fTup (ze (fC (.str "either")) (ze (fC (.str "loop")) zj))))))
  (wOwn 4 (wCat (wL (fTup (ze (fIx (zl false (zd 5)) (fC (.int 0))) zj))) (wTuple (wComp 1 (zl false (fCutT (zl false (zd 5)) (fPart (fC (.int 1))) fNo)) (zD 6) (wCall 1 r'bent (zH (wL (zd 6)) (zH (wL (zd 1)) (zH (wL (zd 2)) (zH (wL (zd 3)) (wL zj))))))))))
  (wM (mUpd 4 zS (zd 5)))))))
  (wRet (wL (zd 4)))))
noncomputable def R'bent : Nat → (List D → List D → Option (D × List D))
 | 0 => (fun _ _ => none)
 | n + 1 => wDef 4 6 (b'bent ((R'bent n)))
noncomputable def m'bent : List D → List D → Option (D × List D) := (R'bent 40)
noncomputable def b_law : Ev → Option Out :=
  (zO (mSet 1 (fA m'program (ze (zd 0) (ze (fC (.int 0)) (ze (f2 dMod (fA m'cell (ze (zd 0) (ze (fC (.int 30)) zj))) (fC (.int 4))) (ze (fC (.int 18)) zj))))))
  (zO (mSet 2 (f2 dAdd (fC (.int 1)) (f2 dMod (fA m'cell (ze (zd 0) (ze (fC (.int 31)) zj))) (fC (.int 3)))))
  (zO (mNew 3 (fLst (ze (f2 dMod (fA m'cell (ze (zd 0) (ze (fC (.int 32)) zj))) (fC (.int 2147483647))) zj)))
  (zO (mLend 3 (wNew 4 (wComp 1 (zl true (fIx (zl false (zd 1)) (fC (.int 1)))) (zD 12) (wCall 2 m'like (zH (wL (zd 12)) (zH (wL (zd 2)) (zH (wL (zd 3)) (wL zj))))))))
  (zO (mSet 5 (fA m'cell (ze (zd 0) (ze (fC (.int 33)) zj))))
  (zO (mIf (fAnd (zC (f2 dGt (f2 dMod (zd 5) (fC (.int 3))) (fC (.int 0)))) (fAnd (zC (fChain dLt dLt (fC (.int 1)) (fA gLen (zl true (zd 4))) (fC (.int 4)))) (zC (f2 dEqS (f2 dMod (f2 dDiv (zd 5) (fC (.int 3))) (fC (.int 9))) (fC (.int 0))))))
  (mUpd 4 zS (fLst zj))
  (mIf (zC (f2 dGt (f2 dMod (zd 5) (fC (.int 3))) (fC (.int 0))))
  (zO (mSet 6 (f2 dMod (f2 dDiv (zd 5) (fC (.int 27))) (fA gLen (zl true (zd 4)))))
  (mIf (zC (f2 dNeD (fIx (zl true (zd 4)) (zd 6)) (fLst zj)))
  (zO (mNew 7 (fLst (ze (f2 dMod (fA m'cell (ze (zd 0) (ze (fC (.int 34)) zj))) (fA m'many (ze (fIx (zl true (zd 4)) (zd 6)) zj))) zj)))
  (mLend 7 (wOwnSet 4 (wCall 1 m'bent (zH (wL (fIx (zl true (zd 4)) (zd 6))) (zH (wL (zd 7)) (zH (wL (fA m'cell (ze (zd 0) (ze (fC (.int 35)) zj)))) (zH (wL (f2 dMul (fA gLen (zl true (zd 4))) (fA gInt (ze (fFlat (f2 dEqS (zd 6) (fC (.int 0)))) zj)))) (wL zj)))))) (zd 6))))
  mNext))
  mNext))
  (zO (mSet 8 (fTup (ze (zd 2) (ze (zd 4) zj))))
  (zO (mSet 9 (fLst (ze (fTup (ze (fIx (zl false (zd 1)) (fC (.int 0))) (ze (fComp 1 (zl true (fIx (zl false (zd 1)) (fC (.int 1)))) (zD 12) fYes (fA m'copied (ze (zd 12) zj))) zj))) (ze (fTup (ze (zd 2) (ze (fComp 1 (zl true (zd 4)) (zD 12) fYes (fA m'copied (ze (zd 12) zj))) zj))) zj))))
  (zO (mSet 10 (fFlat (f2 dEqD (fComp 1 (zl true (fIx (zl false (zd 1)) (fC (.int 1)))) (zD 12) fYes (fA m'shape (ze (zd 12) zj))) (fComp 1 (zl true (zd 4)) (zD 12) fYes (fA m'shape (ze (zd 12) zj))))))
  (zO (mFor (zl true (fLst (ze (fA m_one_shape (ze (zd 1) (ze (zd 8) zj))) (ze (fA m_one_shape (ze (zd 8) (ze (zd 1) zj))) zj)))) (zD 11)
  (mIf (fOr (fNot (zC (f1 (gIsi "bool") (zd 11)))) (zC (f2 dNeS (zd 11) (zd 10))))
  (mRet (fC (.bl false)))
  mNext))
  (mRet (fAndV (f2 dIsB (fA m_one_shape (ze (zd 1) (ze (zd 1) zj))) (fC (.bl true))) (fAndV (f2 dIsB (fA m_one_shape (ze (zd 8) (ze (zd 8) zj))) (fC (.bl true))) (f2 dEqD (fLst (ze (zd 1) (ze (zd 8) zj))) (zd 9)))))))))))))))
noncomputable def m_law : List D → Option D := mDef 1 12 b_law
def top (i : Nat) : Stmt := PySem.Challenge.pw_evennotes_k40_one_shape.main.body.getD i (.Pass ⟨0, 0, 0, 0⟩)
abbrev s_lists_in : Stmt := top 1
abbrev Zl : Stmt := top 3
abbrev Zm : Stmt := top 4
abbrev zV : Stmt := top 5
abbrev Zk : Stmt := top 6
abbrev s'cell : Stmt := top 8
abbrev s'line : Stmt := top 9
abbrev s'deed : Stmt := top 10
abbrev s'body : Stmt := top 11
abbrev s'program : Stmt := top 12
abbrev s'like : Stmt := top 13
abbrev s'shape : Stmt := top 14
abbrev s'copied : Stmt := top 15
abbrev s'many : Stmt := top 16
abbrev Zn : Stmt := top 17
abbrev s'bent : Stmt := top 18
abbrev s_law : Stmt := top 19
structure Ads where
 f_lists_in : Addr
 d_lists_in : FuncData
 f_one_shape : Addr
 d_one_shape : FuncData
 f_all_alike : Addr
 d_all_alike : FuncData
 f_rows_alike : Addr
 d_rows_alike : FuncData
 f_row_alike : Addr
 d_row_alike : FuncData
 f'cell : Addr
 d'cell : FuncData
 f'line : Addr
 d'line : FuncData
 f'deed : Addr
 d'deed : FuncData
 f'body : Addr
 d'body : FuncData
 f'program : Addr
 d'program : FuncData
 f'like : Addr
 d'like : FuncData
 f'shape : Addr
 d'shape : FuncData
 f'copied : Addr
 d'copied : FuncData
 f'many : Addr
 d'many : FuncData
 f'other_row : Addr
 d'other_row : FuncData
 f'bent : Addr
 d'bent : FuncData
 f_law : Addr
 d_law : FuncData
structure Txt (K : Frag) (mg : Str → Option Value) (Z : Ads) : Prop where
 F_lists_in : Fun K "lists_in" "lists_in" s_lists_in Z.f_lists_in Z.d_lists_in
 b_lists_in : Binds K Z.d_lists_in ["row"] []
 m_lists_in : mg "lists_in" = some (.ref Z.f_lists_in)
 F_one_shape : Fun K "one_shape" "one_shape" Zl Z.f_one_shape Z.d_one_shape
 b_one_shape : Binds K Z.d_one_shape ["one", "other"] []
 m_one_shape : mg "one_shape" = some (.ref Z.f_one_shape)
 F_all_alike : Fun K "all_alike" "all_alike" Zm Z.f_all_alike Z.d_all_alike
 b_all_alike : Binds K Z.d_all_alike ["ones", "others", "alike"] []
 m_all_alike : mg "all_alike" = some (.ref Z.f_all_alike)
 F_rows_alike : Fun K "rows_alike" "rows_alike" zV Z.f_rows_alike Z.d_rows_alike
 b_rows_alike : Binds K Z.d_rows_alike ["rows", "others"] []
 m_rows_alike : mg "rows_alike" = some (.ref Z.f_rows_alike)
 F_row_alike : Fun K "row_alike" "row_alike" Zk Z.f_row_alike Z.d_row_alike
 b_row_alike : Binds K Z.d_row_alike ["row", "other"] []
 m_row_alike : mg "row_alike" = some (.ref Z.f_row_alike)
 F'cell : Fun K "_law_cell" "_law_cell" s'cell Z.f'cell Z.d'cell
 b'cell : Binds K Z.d'cell ["_law_script", "_law_k"] []
 m'cell : mg "_law_cell" = some (.ref Z.f'cell)
 F'line : Fun K "_law_line" "_law_line" s'line Z.f'line Z.d'line
 b'line : Binds K Z.d'line ["_law_cell_here", "_law_many_here"] []
 m'line : mg "_law_line" = some (.ref Z.f'line)
 F'deed : Fun K "_law_deed" "_law_deed" s'deed Z.f'deed Z.d'deed
 b'deed : Binds K Z.d'deed ["_law_cell_here", "_law_many_here", "_law_later_on"] []
 m'deed : mg "_law_deed" = some (.ref Z.f'deed)
 F'body : Fun K "_law_body" "_law_body" s'body Z.f'body Z.d'body
 b'body : Binds K Z.d'body ["_law_cells", "_law_many_here", "_law_later_on", "_law_deep", "_law_most"] []
 m'body : mg "_law_body" = some (.ref Z.f'body)
 F'program : Fun K "_law_program" "_law_program" s'program Z.f'program Z.d'program
 b'program : Binds K Z.d'program ["_law_script", "_law_at", "_law_many_here", "_law_most"] []
 m'program : mg "_law_program" = some (.ref Z.f'program)
 F'like : Fun K "_law_like" "_law_like" s'like Z.f'like Z.d'like
 b'like : Binds K Z.d'like ["_law_rows", "_law_many_here", "_law_state"] []
 m'like : mg "_law_like" = some (.ref Z.f'like)
 F'shape : Fun K "_law_shape" "_law_shape" s'shape Z.f'shape Z.d'shape
 b'shape : Binds K Z.d'shape ["_law_rows"] []
 m'shape : mg "_law_shape" = some (.ref Z.f'shape)
 F'copied : Fun K "_law_copied" "_law_copied" s'copied Z.f'copied Z.d'copied
 b'copied : Binds K Z.d'copied ["_law_rows"] []
 m'copied : mg "_law_copied" = some (.ref Z.f'copied)
 F'many : Fun K "_law_many" "_law_many" s'many Z.f'many Z.d'many
 b'many : Binds K Z.d'many ["_law_rows"] []
 m'many : mg "_law_many" = some (.ref Z.f'many)
 F'other_row : Fun K "_law_other_row" "_law_other_row" Zn Z.f'other_row Z.d'other_row
 b'other_row : Binds K Z.d'other_row ["_law_row", "_law_cell_here", "_law_count"] []
 m'other_row : mg "_law_other_row" = some (.ref Z.f'other_row)
 F'bent : Fun K "_law_bent" "_law_bent" s'bent Z.f'bent Z.d'bent
 b'bent : Binds K Z.d'bent ["_law_rows", "_law_at", "_law_cell_here", "_law_count"] []
 m'bent : mg "_law_bent" = some (.ref Z.f'bent)
 F_law : Fun K "law" "law" s_law Z.f_law Z.d_law
 b_law : Binds K Z.d_law ["_law_script"] []
 m_law : mg "law" = some (.ref Z.f_law)
 z_all : mg "all" = none
 z_bool : mg "bool" = none
 z_int : mg "int" = none
 z_isinstance : mg "isinstance" = none
 z_len : mg "len" = none
 z_list : mg "list" = none
 z_range : mg "range" = none
 z_sum : mg "sum" = none
 z_tuple : mg "tuple" = none
 z_zip : mg "zip" = none
theorem sc_lists_in : FnScope ["row"] ["row"] (zh s_lists_in) := ⟨rfl, rfl, rfl, by decide +kernel, rfl, by decide +kernel, by decide +kernel⟩
theorem sc_one_shape : FnScope ["one", "other"] ["one", "other"] (zh Zl) := ⟨rfl, rfl, rfl, by decide +kernel, rfl, by decide +kernel, by decide +kernel⟩
theorem sc_all_alike : FnScope ["ones", "others", "alike"] ["ones", "others", "alike"] (zh Zm) := ⟨rfl, rfl, rfl, by decide +kernel, rfl, by decide +kernel, by decide +kernel⟩
theorem sc_rows_alike : FnScope ["rows", "others"] ["rows", "others"] (zh zV) := ⟨rfl, rfl, rfl, by decide +kernel, rfl, by decide +kernel, by decide +kernel⟩
theorem sc_row_alike : FnScope ["row", "other"] ["row", "other"] (zh Zk) := ⟨rfl, rfl, rfl, by decide +kernel, rfl, by decide +kernel, by decide +kernel⟩
theorem sc'cell : FnScope ["_law_script", "_law_k", "_law_number"] ["_law_script", "_law_k"] (zh s'cell) := ⟨rfl, rfl, rfl, by decide +kernel, rfl, by decide +kernel, by decide +kernel⟩
theorem sc'line : FnScope ["_law_cell_here", "_law_many_here", "_law_line_here", "_law_k", "_law_number", "_law_one"] ["_law_cell_here", "_law_many_here"] (zh s'line) := ⟨rfl, rfl, rfl, by decide +kernel, rfl, by decide +kernel, by decide +kernel⟩
theorem sc'deed : FnScope ["_law_cell_here", "_law_many_here", "_law_later_on", "_law_kind", "_law_box"] ["_law_cell_here", "_law_many_here", "_law_later_on"] (zh s'deed) := ⟨rfl, rfl, rfl, by decide +kernel, rfl, by decide +kernel, by decide +kernel⟩
theorem sc'body : FnScope ["_law_cells", "_law_many_here", "_law_later_on", "_law_deep", "_law_most", "_law_body_here", "_law_stack", "_law_used", "_law_cell_here", "_law_row", "_law_cost"] ["_law_cells", "_law_many_here", "_law_later_on", "_law_deep", "_law_most"] (zh s'body) := ⟨rfl, rfl, rfl, by decide +kernel, rfl, by decide +kernel, by decide +kernel⟩
theorem Zi : FnScope ["_law_script", "_law_at", "_law_many_here", "_law_most", "_law_bodies", "_law_later_on", "_law_count", "_law_k", "_law_size", "_law_deep", "_law_begin", "_law_cells", "_law_body_here", "_law_used"] ["_law_script", "_law_at", "_law_many_here", "_law_most"] (zh s'program) := ⟨rfl, rfl, rfl, by decide +kernel, rfl, by decide +kernel, by decide +kernel⟩
theorem sc'like : FnScope ["_law_rows", "_law_many_here", "_law_state", "_law_found", "_law_row", "_law_cell_here", "_law_ones"] ["_law_rows", "_law_many_here", "_law_state"] (zh s'like) := ⟨rfl, rfl, rfl, by decide +kernel, rfl, by decide +kernel, by decide +kernel⟩
theorem sc'shape : FnScope ["_law_rows", "_law_found", "_law_row"] ["_law_rows"] (zh s'shape) := ⟨rfl, rfl, rfl, by decide +kernel, rfl, by decide +kernel, by decide +kernel⟩
theorem sc'copied : FnScope ["_law_rows", "_law_found", "_law_row"] ["_law_rows"] (zh s'copied) := ⟨rfl, rfl, rfl, by decide +kernel, rfl, by decide +kernel, by decide +kernel⟩
theorem sc'many : FnScope ["_law_rows", "_law_total", "_law_row", "_law_inner"] ["_law_rows"] (zh s'many) := ⟨rfl, rfl, rfl, by decide +kernel, rfl, by decide +kernel, by decide +kernel⟩
theorem sc'other_row : FnScope ["_law_row", "_law_cell_here", "_law_count"] ["_law_row", "_law_cell_here", "_law_count"] (zh Zn) := ⟨rfl, rfl, rfl, by decide +kernel, rfl, by decide +kernel, by decide +kernel⟩
theorem sc'bent : FnScope ["_law_rows", "_law_at", "_law_cell_here", "_law_count", "_law_found", "_law_row"] ["_law_rows", "_law_at", "_law_cell_here", "_law_count"] (zh s'bent) := ⟨rfl, rfl, rfl, by decide +kernel, rfl, by decide +kernel, by decide +kernel⟩
theorem sc_law : FnScope ["_law_script", "_law_one", "_law_many_here", "_law_state", "_law_bodies", "_law_cell_here", "_law_k", "_law_at", "_law_other", "_law_kept", "_law_due", "_law_found"] ["_law_script"] (zh s_law) := ⟨rfl, rfl, rfl, by decide +kernel, rfl, by decide +kernel, by decide +kernel⟩
theorem nd_0 : (["row", "part"] : List Str).Nodup := by decide +kernel
theorem nd_1 : (["ones", "others", "alike", "one", "other"] : List Str).Nodup := by decide +kernel
theorem nd_2 : (["_law_cell_here", "_law_many_here", "_law_later_on", "_law_kind", "_law_box", "_law_pair"] : List Str).Nodup := by decide +kernel
theorem nd_3 : (["_law_cells", "_law_many_here", "_law_later_on", "_law_deep", "_law_most", "_law_body_here", "_law_stack", "_law_used", "_law_cell_here", "_law_row", "_law_cost", "_law_pair"] : List Str).Nodup := by decide +kernel
theorem nd_4 : (["_law_cells", "_law_many_here", "_law_later_on", "_law_deep", "_law_most", "_law_body_here", "_law_stack", "_law_used", "_law_cell_here", "_law_row", "_law_cost", "_law_inner"] : List Str).Nodup := by decide +kernel
theorem nd_5 : (["_law_script", "_law_at", "_law_many_here", "_law_most", "_law_bodies", "_law_later_on", "_law_count", "_law_k", "_law_size", "_law_deep", "_law_begin", "_law_cells", "_law_body_here", "_law_used", "_law_j"] : List Str).Nodup := by decide +kernel
theorem nd_6 : (["_law_rows", "_law_found", "_law_row", "_law_inner"] : List Str).Nodup := by decide +kernel
theorem nd_7 : (["_law_row", "_law_cell_here", "_law_count", "_law_inner"] : List Str).Nodup := by decide +kernel
theorem nd_8 : (["_law_rows", "_law_at", "_law_cell_here", "_law_count", "_law_found", "_law_row", "_law_inner"] : List Str).Nodup := by decide +kernel
theorem nd_9 : (["_law_script", "_law_one", "_law_many_here", "_law_state", "_law_bodies", "_law_cell_here", "_law_k", "_law_at", "_law_other", "_law_kept", "_law_due", "_law_found", "_law_body_here"] : List Str).Nodup := by decide +kernel
section
variable {P : Program} {w : World} {K : Frag} {mg : Str → Option Value} {base : Heap} {Z : Ads}
theorem ok_lists_in (T : Txt K mg Z)  : FnOk P w K mg base CX0 36 Z.f_lists_in Z.d_lists_in ["row"] (spM K m_lists_in) := by
 have h := fn_ok (P := P) (w := w) (mg := mg) (base := base) (k := 35) (m := b_lists_in) T.F_lists_in sc_lists_in fun cdv A outer s H E hr => ⟨_, [], by
  unfold b_lists_in
  exact (zx (ss_ret (SF.se (st := false) (sf_comp (s := false) (own := ["part"]) (N' := ["row", "part"]) (k := 1) (compOk_of (by kernel_rfl)) rfl (si_tup (K' := K) (SC.sn (SE.seq (k := false) (zc 0)))) (fun _ _ _ _ => (zP (i := 1) nd_0 rfl (Or.inl rfl))) (fun _ _ _ _ => (spf_one (sb_val (se_isi (K' := K) (st := false) (by rfl) (by exact T.z_isinstance) (by rfl) (by exact T.z_list) PyProof.Rows.boot_list (by decide) (zc 1))))) (fun _ _ _ _ => (zc 1))))))⟩
 exact h
theorem okR_all_alike (T : Txt K mg Z) (G_lists_in : FnOk P w K mg base CX0 36 Z.f_lists_in Z.d_lists_in ["row"] (spM K m_lists_in)) (n : Nat) : FnOk P w K mg base CX0 (38 + 2 * n) Z.f_all_alike Z.d_all_alike ["ones", "others", "alike"] (spA K Z.f_rows_alike ((zi n).1)) ∧ FnOk P w K mg base CX0 (38 + 2 * n) Z.f_all_alike Z.d_all_alike ["ones", "others", "alike"] (spA K Z.f_row_alike ((zi n).2.1)) ∧ FnOk P w K mg base CX0 (38 + 2 * n) Z.f_rows_alike Z.d_rows_alike ["rows", "others"] (spM K ((zi n).2.2.1)) ∧ FnOk P w K mg base CX0 (38 + 2 * n) Z.f_row_alike Z.d_row_alike ["row", "other"] (spM K ((zi n).2.2.2)) := by
 induction n with
 | zero => exact ⟨FnOk.noA, FnOk.noA, FnOk.no, FnOk.no⟩
 | succ n ih =>
  obtain ⟨G_all_alike_1, G_all_alike_2, G_rows_alike, G_row_alike⟩ := ih
  refine ⟨?_, ?_, ?_, ?_⟩
  ·have h := fn_ok (P := P) (w := w) (mg := mg) (base := base) (k := 38 + 2 * n + 1) (m := b_all_alike Z.f_rows_alike ((zi n).2.2.1)) T.F_all_alike sc_all_alike fun cdv A outer s H E hr => ⟨_, [], by
   unfold b_all_alike
   exact (zm (ss_if (os' := []) (zI op_ne rok_neS (se_len (K' := K) (st := false) (by rfl) (by exact T.z_len) (SE.seq (k := true) (zc 0))) (se_len (K' := K) (st := false) (by rfl) (by exact T.z_len) (SE.seq (k := true) (zc 1))) (zE _))
   (zx (ss_ret se_bl))
   Zo)
   (zx (ss_ret (se_allB (K' := K) (st := false) rfl (by rfl) (by exact T.z_all) (SF.seq (sf_comp (s := false) (own := ["one", "other"]) (N' := ["ones", "others", "alike", "one", "other"]) (k := 2) (compOk_of (by kernel_rfl)) rfl (si_zip (K' := K) (by rfl) (by exact T.z_zip) (SC.sn (SE.seq (k := true) (zc 0))) (SC.sn (SE.seq (k := true) (zc 1)))) (fun _ _ _ _ => (sg_tup (K' := K) rfl (sgs_cons (zP (i := 3) nd_1 rfl (Or.inl rfl)) (sgs_cons (zP (i := 4) nd_1 rfl (Or.inl rfl)) sgs_nil)))) (fun _ _ _ _ => spf_nil) (fun _ _ _ _ => (se_callV (K' := K) (i := 2) G_rows_alike (hr.mono (by omega)) T.F_rows_alike.kp T.b_rows_alike (zf (zc 3) (zf (zc 4) zr))))))))))⟩
   exact FnOk.hide (mf := fun fa => mDef 3 3 (b_all_alike fa ((zi n).2.2.1))) h
  ·have h := fn_ok (P := P) (w := w) (mg := mg) (base := base) (k := 38 + 2 * n + 1) (m := b_all_alike Z.f_row_alike ((zi n).2.2.2)) T.F_all_alike sc_all_alike fun cdv A outer s H E hr => ⟨_, [], by
   unfold b_all_alike
   exact (zm (ss_if (os' := []) (zI op_ne rok_neS (se_len (K' := K) (st := false) (by rfl) (by exact T.z_len) (SE.seq (k := true) (zc 0))) (se_len (K' := K) (st := false) (by rfl) (by exact T.z_len) (SE.seq (k := true) (zc 1))) (zE _))
   (zx (ss_ret se_bl))
   Zo)
   (zx (ss_ret (se_allB (K' := K) (st := false) rfl (by rfl) (by exact T.z_all) (SF.seq (sf_comp (s := false) (own := ["one", "other"]) (N' := ["ones", "others", "alike", "one", "other"]) (k := 2) (compOk_of (by kernel_rfl)) rfl (si_zip (K' := K) (by rfl) (by exact T.z_zip) (SC.sn (SE.seq (k := true) (zc 0))) (SC.sn (SE.seq (k := true) (zc 1)))) (fun _ _ _ _ => (sg_tup (K' := K) rfl (sgs_cons (zP (i := 3) nd_1 rfl (Or.inl rfl)) (sgs_cons (zP (i := 4) nd_1 rfl (Or.inl rfl)) sgs_nil)))) (fun _ _ _ _ => spf_nil) (fun _ _ _ _ => (se_callV (K' := K) (i := 2) G_row_alike (hr.mono (by omega)) T.F_row_alike.kp T.b_row_alike (zf (zc 3) (zf (zc 4) zr))))))))))⟩
   exact FnOk.hide (mf := fun fa => mDef 3 3 (b_all_alike fa ((zi n).2.2.2))) h
  ·have h := fn_ok (P := P) (w := w) (mg := mg) (base := base) (k := 38 + 2 * n + 1) (m := b_rows_alike ((zi n).1) ((zi n).2.1) ((zi n).2.2.1) ((zi n).2.2.2)) T.F_rows_alike sc_rows_alike fun cdv A outer s H E hr => ⟨_, [], by
   unfold b_rows_alike
   exact (zx (ss_ret (se_callA (K' := K) G_all_alike_2 (hr.mono (by omega)) (by rfl) T.m_all_alike T.F_all_alike.kp T.b_all_alike (by rfl) T.m_row_alike (zc 0) (zc 1))))⟩
   exact h
  ·have h := fn_ok (P := P) (w := w) (mg := mg) (base := base) (k := 38 + 2 * n + 1) (m := b_row_alike ((zi n).1) ((zi n).2.1) ((zi n).2.2.1) ((zi n).2.2.2)) T.F_row_alike sc_row_alike fun cdv A outer s H E hr => ⟨_, [], by
   unfold b_row_alike
   exact (zm (ss_if (os' := []) (zI op_ne rok_neS (zM (K' := K) (st := false) (SE.seq (k := false) (zc 0)) zg) (zM (K' := K) (st := false) (SE.seq (k := false) (zc 1)) zg) (zE _))
   (zx (ss_ret se_bl))
   Zo)
   (zm (ss_if (os' := []) (zI op_eq Zu (zM (K' := K) (st := false) (SE.seq (k := false) (zc 0)) zg) Zd (zE _))
   (zx (ss_ret (se_cmp (op_eqD (K' := K) hr) rok_eqD (zM (K' := K) (st := false) (SE.seq (k := false) (zc 0)) zg) (zM (K' := K) (st := false) (SE.seq (k := false) (zc 1)) zg) (zE _))))
   Zo)
   (zx (ss_ret (se_callA (K' := K) G_all_alike_1 (hr.mono (by omega)) (by rfl) T.m_all_alike T.F_all_alike.kp T.b_all_alike (by rfl) T.m_rows_alike (zQ (K' := K) G_lists_in (hr.mono (by omega)) (by rfl) T.m_lists_in T.F_lists_in.kp T.b_lists_in (zf (zc 0) zr)) (zQ (K' := K) G_lists_in (hr.mono (by omega)) (by rfl) T.m_lists_in T.F_lists_in.kp T.b_lists_in (zf (zc 1) zr)))))))⟩
   exact h
theorem ok_all_alike_1 (T : Txt K mg Z) (G_lists_in : FnOk P w K mg base CX0 36 Z.f_lists_in Z.d_lists_in ["row"] (spM K m_lists_in)) : FnOk P w K mg base CX0 118 Z.f_all_alike Z.d_all_alike ["ones", "others", "alike"] (spA K Z.f_rows_alike (m_all_alike_1)) := (okR_all_alike (P := P) (w := w) (base := base) T G_lists_in 40).1
theorem ok_all_alike_2 (T : Txt K mg Z) (G_lists_in : FnOk P w K mg base CX0 36 Z.f_lists_in Z.d_lists_in ["row"] (spM K m_lists_in)) : FnOk P w K mg base CX0 118 Z.f_all_alike Z.d_all_alike ["ones", "others", "alike"] (spA K Z.f_row_alike (m_all_alike_2)) := (okR_all_alike (P := P) (w := w) (base := base) T G_lists_in 40).2.1
theorem ok_rows_alike (T : Txt K mg Z) (G_lists_in : FnOk P w K mg base CX0 36 Z.f_lists_in Z.d_lists_in ["row"] (spM K m_lists_in)) : FnOk P w K mg base CX0 118 Z.f_rows_alike Z.d_rows_alike ["rows", "others"] (spM K (m_rows_alike)) := (okR_all_alike (P := P) (w := w) (base := base) T G_lists_in 40).2.2.1
theorem ok_row_alike (T : Txt K mg Z) (G_lists_in : FnOk P w K mg base CX0 36 Z.f_lists_in Z.d_lists_in ["row"] (spM K m_lists_in)) : FnOk P w K mg base CX0 118 Z.f_row_alike Z.d_row_alike ["row", "other"] (spM K (m_row_alike)) := (okR_all_alike (P := P) (w := w) (base := base) T G_lists_in 40).2.2.2
theorem ok_one_shape (T : Txt K mg Z) (G_all_alike_1 : FnOk P w K mg base CX0 118 Z.f_all_alike Z.d_all_alike ["ones", "others", "alike"] (spA K Z.f_rows_alike m_all_alike_1)) : FnOk P w K mg base CX0 120 Z.f_one_shape Z.d_one_shape ["one", "other"] (spM K m_one_shape) := by
 have h := fn_ok (P := P) (w := w) (mg := mg) (base := base) (k := 119) (m := b_one_shape) T.F_one_shape sc_one_shape fun cdv A outer s H E hr => ⟨_, [], by
  unfold b_one_shape
  exact (zx (ss_ret (se_callA (K' := K) G_all_alike_1 (hr.mono (by decide)) (by rfl) T.m_all_alike T.F_all_alike.kp T.b_all_alike (by rfl) T.m_rows_alike (zM (K' := K) (st := false) (SE.seq (k := false) (zc 0)) zg) (zM (K' := K) (st := false) (SE.seq (k := false) (zc 1)) zg))))⟩
 exact h
theorem ok'cell (T : Txt K mg Z)  : FnOk P w K mg base CX0 36 Z.f'cell Z.d'cell ["_law_script", "_law_k"] (spM K m'cell) := by
 have h := fn_ok (P := P) (w := w) (mg := mg) (base := base) (k := 35) (m := b'cell) T.F'cell sc'cell fun cdv A outer s H E hr => ⟨_, [], by
  unfold b'cell
  exact (zm (ss_if (os' := []) (zI op_lt rok_lt (zc 1) (se_len (K' := K) (st := false) (by rfl) (by exact T.z_len) (SE.seq (k := true) (zc 0))) (zE _))
   (zx (ss_ret (se_ixL (K' := K) (st := false) (SE.seq (k := true) (zc 0)) (zc 1))))
   Zo)
   (zm (Zs (os := []) (os' := []) (i := 2) sc'cell.nd rfl (Or.inl rfl) (zB op_add rok_add (zB op_mulB rok_mul (zc 1) zg) zg))
   (zm (ss_if (os' := []) (zI op_gt rok_gt (se_len (K' := K) (st := false) (by rfl) (by exact T.z_len) (SE.seq (k := true) (zc 0))) zg (zE _))
   (zx (Zs (os := []) (os' := []) (i := 2) sc'cell.nd rfl (Or.inl rfl) (zB zW zK (zB op_add rok_add (zB op_mulB rok_mul (se_ixL (K' := K) (st := true) (SE.seq (k := true) (zc 0)) (zB zW zK (zB op_mulB rok_mul (zc 1) zg) (se_len (K' := K) (st := true) (by rfl) (by exact T.z_len) (SE.seq (k := true) (zc 0))))) zg) (zB op_mulB rok_mul (zc 1) zg)) zg)))
   Zo)
   (zm (Zs (os := []) (os' := []) (i := 2) sc'cell.nd rfl (Or.inl rfl) (zB zW zK (zB op_mulB rok_mul (zc 2) (zc 2)) zg))
   (zx (ss_ret (zB zW zK (zB op_mulB rok_mul (zB op_add rok_add (zc 2) zg) (zB op_add rok_add (zc 2) zg)) zg)))))))⟩
 exact h
theorem ok'line (T : Txt K mg Z)  : FnOk P w K mg base CX0 36 Z.f'line Z.d'line ["_law_cell_here", "_law_many_here"] (spM K m'line) := by
 have h := fn_ok (P := P) (w := w) (mg := mg) (base := base) (k := 35) (m := b'line) T.F'line sc'line fun cdv A outer s H E hr => ⟨_, [2], by
  unfold b'line
  exact (zm (ss_new (os := []) (os' := [2]) (i := 2) sc'line.nd rfl (Or.inl rfl) (sf_lst zr))
   (zm (ss_for (os := [2]) rfl (si_range1 (by rfl) (by exact T.z_range) (zB op_add rok_add (zc 1) zg)) (zP (i := 3) sc'line.nd rfl (Or.inl rfl))
   (zm (Zs (os := [2]) (os' := [2]) (i := 4) sc'line.nd rfl (Or.inl rfl) (zB zW zK (zB op_add rok_add (zB op_mulB rok_mul (zB (op_fdivP (hr.mono (by decide))) rok_divP (zc 0) (zB op_add rok_add (zB op_mulB rok_mul (zc 3) (zc 3)) zg)) zg) (zB op_mulB rok_mul (zc 3) zg)) zg))
   (zm (Zs (os := [2]) (os' := [2]) (i := 5) sc'line.nd rfl (Or.inl rfl) (se_ixL (K' := K) (st := true) (SF.seq (sf_lst (zf zg (zf zg (zf zg (zf (se_un un_neg uok_neg zg) (zf zg (zf zg (zf zg (zf zg (zf (se_un un_neg uok_neg zg) zr))))))))))) (zB zW zK (zc 4) zg)))
   (zm (ss_if (os' := [2]) (zI op_eq Zu (zB zW zK (zB op_fdiv rok_div (zc 4) zg) zg) zg (zE _))
   (zm (Zs (os := [2]) (os' := [2]) (i := 5) sc'line.nd rfl (Or.inl rfl) (zB op_sub rok_sub (zB zW zK (zB op_fdiv rok_div (zc 4) zg) zg) zg))
   (zx (ss_if (os' := [2]) (zI op_gt rok_gt (zc 3) zg (zE _))
   (zx (Zs (os := [2]) (os' := [2]) (i := 5) sc'line.nd rfl (Or.inl rfl) (zB op_sub rok_sub (zB zW zK (zc 5) zg) zg)))
   Zo)))
   Zo)
   (zx (ss_append (os := [2]) (i := 2) (zc 5)))))))
   (zx (ss_ret (se_tuple (K' := K) (st := false) (by rfl) (by exact T.z_tuple) (sc_own 2))))))⟩
 exact h
theorem ok'deed (T : Txt K mg Z) (G'line : FnOk P w K mg base CX0 36 Z.f'line Z.d'line ["_law_cell_here", "_law_many_here"] (spM K m'line)) : FnOk P w K mg base CX0 38 Z.f'deed Z.d'deed ["_law_cell_here", "_law_many_here", "_law_later_on"] (spF K m'deed) := by
 have h := fn_okF (P := P) (w := w) (mg := mg) (base := base) (k := 37) (m := b'deed) T.F'deed sc'deed fun cdv A outer s H E hr => ⟨_, [], by
  unfold b'deed
  exact (zm (Zs (os := []) (os' := []) (i := 3) sc'deed.nd rfl (Or.inl rfl) (zB zW zK (zB op_fdiv rok_div (zc 0) zg) zg))
   (zm (ss_if (os' := []) (SW.sb (sw_and (zI op_gt rok_gt (zc 3) zg (zE _)) (sw_and1 (zI (op_neD (K' := K) hr) rok_neD (zc 2) (SF.se (st := false) (sf_lst zr)) (zE _)))))
   (zx (ss_retFl (se_ixL (K' := K) (st := false) (SF.seq (sf_comp (s := false) (own := ["_law_pair"]) (N' := ["_law_cell_here", "_law_many_here", "_law_later_on", "_law_kind", "_law_box", "_law_pair"]) (k := 1) (compOk_of (by kernel_rfl)) rfl (si_list (K' := K) (SC.sn (SE.seq (k := true) (zc 2)))) (fun _ _ _ _ => (zP (i := 5) nd_2 rfl (Or.inl rfl))) (fun _ _ _ _ => spf_nil) (fun _ _ _ _ => (se_tup (zf Zd (zf (zM (K' := K) (st := true) (SE.seq (k := false) (zc 5)) zg) zr)))))) (zB zW zK (zB op_fdiv rok_div (zc 0) zg) (se_len (K' := K) (st := true) (by rfl) (by exact T.z_len) (SE.seq (k := true) (zc 2)))))))
   Zo)
   (zm (ss_if (os' := []) (zI op_eq Zu (zc 3) zg (zE _))
   (zx (ss_retRow2 (os := [])))
   Zo)
   (zm (ss_if (os' := []) (zI op_eq Zu (zc 3) zg (zE _))
   (zx (ss_retRow1 (os := [])))
   Zo)
   (zm (ss_if (os' := []) (SW.sb (sw_and (zI op_eq Zu (zc 3) zg (zE _)) (sw_and1 (zI op_eq Zu (zB zW zK (zB op_fdiv rok_div (zc 0) zg) zg) zg (zE _)))))
   (zx (ss_retFl (se_tup (zf Zd zr))))
   Zo)
   (zm (ss_if (os' := []) (SW.sb (sw_or (zI op_eq Zu (zc 3) zg (zE _)) (sw_or1 (zI op_eq Zu (zc 1) zg (zE _)))))
   (zx (ss_retFl (se_tup (zf Zd zr))))
   Zo)
   (zm (Zs (os := []) (os' := []) (i := 4) sc'deed.nd rfl (Or.inl rfl) (zB zW zK (zB op_fdiv rok_div (zc 0) zg) (zc 1)))
   (zm (ss_if (os' := []) (SW.sb (sw_and (zI op_gt rok_gt (zc 3) zg (zE _)) (sw_and1 (zI op_lt rok_lt (zc 3) zg (zE _)))))
   (zx (ss_retFl (se_tup (zf Zd (zf (zc 4) zr)))))
   Zo)
   (zx (ss_retFl (se_tup (zf Zd (zf (zc 4) (zf (zQ (K' := K) G'line (hr.mono (by decide)) (by rfl) T.m'line T.F'line.kp T.b'line (zf (zB op_fdiv rok_div (zc 0) zg) (zf (zc 1) zr))) zr))))))))))))))⟩
 exact h
theorem ok'body (T : Txt K mg Z) (G'deed : FnOk P w K mg base CX0 38 Z.f'deed Z.d'deed ["_law_cell_here", "_law_many_here", "_law_later_on"] (spF K m'deed)) : FnOk P w K mg base CX0 40 Z.f'body Z.d'body ["_law_cells", "_law_many_here", "_law_later_on", "_law_deep", "_law_most"] (spM K m'body) := by
 have h := fn_ok (P := P) (w := w) (mg := mg) (base := base) (k := 39) (m := b'body) T.F'body sc'body fun cdv A outer s H E hr => ⟨_, [], by
  unfold b'body
  exact (sss_b15 (sr_call G'deed (hr.mono (by decide)) (by rfl) T.m'deed T.F'deed.kp T.b'deed (zf (zc 8) (zf (zc 1) (zf (zc 2) zr)))) (se_sum (K' := K) (st := true) rfl (by rfl) (by exact T.z_sum) (SF.seq (sf_comp (s := false) (own := ["_law_pair"]) (N' := ["_law_cells", "_law_many_here", "_law_later_on", "_law_deep", "_law_most", "_law_body_here", "_law_stack", "_law_used", "_law_cell_here", "_law_row", "_law_cost", "_law_pair"]) (k := 1) (compOk_of (by kernel_rfl)) rfl (si_list (K' := K) (SC.sn (SE.seq (k := true) (zc 2)))) (fun _ _ _ _ => (zP (i := 11) nd_3 rfl (Or.inl rfl))) (fun _ _ _ _ => (spf_one (SW.sb (sw_and (zI op_eq Zu (zM (K' := K) (st := false) (SE.seq (k := false) (zc 9)) zg) Zd (zE _)) (sw_and1 (zI (op_eqD (K' := K) hr) rok_eqD (zM (K' := K) (st := false) (SE.seq (k := false) (zc 11)) zg) (zM (K' := K) (st := false) (SE.seq (k := false) (zc 9)) zg) (zE _))))))) (fun _ _ _ _ => (zM (K' := K) (st := true) (SE.seq (k := false) (zc 11)) zg))))) (zB op_add rok_add (zc 10) (se_callTy call_int1 caok_int (by rfl) (by exact T.z_int) PyProof.Rows.boot_int (zf (SE.flat (se_cmp op_ne rok_neS (zM (K' := K) (st := false) (SE.seq (k := false) (zc 9)) zg) Zd (zE _))) zr))) (fun hR hK1 hK2 => (pss_cons (ps_set (i := 5) sc'body.nd rfl (Or.inl rfl) (pe_lst Zr)) (pss_cons (ps_set (i := 6) sc'body.nd rfl (Or.inl rfl) (pe_lst (zG (pe_lst (zG (pv 5) Zr)) Zr))) (pss_cons (ps_set (i := 7) sc'body.nd rfl (Or.inl rfl) pe_int) (pss_cons (ps_for PassesOwn.never rfl (pi_list (pv 0)) (pg_name (i := 8) sc'body.nd rfl (Or.inl rfl)) (pss_one (ps_if (PW.pt (pw_and (pt_cmpR op_eq (pe_op zW (pv 8) pe_int) pe_int (zE _)) (pw_and1 (pt_cmpR op_gt (pe_callB call_len_seq (by rfl) (by exact T.z_len) PySem.boot_len (zG (pv 6) Zr)) pe_int (zE _))))) (pss_cons (ps_expr (pe_bm PySem.F.plainAttrs_list PySem.F.slot_list_pop PySem.F.type_list_pop mt_popAt (pe_ix ix_list (pv 6) (pe_un un_neg pe_int) (fun _ _ => rfl)) (zG pe_int Zr))) (pss_one (ps_if (pt_cmpR (op_eqD (K' := K) hr) (pe_ix ix_list (pv 6) (pe_un un_neg pe_int) (fun _ _ => rfl)) (pe_lst Zr) (zE _)) (pss_one (ps_expr (pe_bm0 PySem.F.plainAttrs_list PySem.F.slot_list_pop PySem.F.type_list_pop mt_pop (pv 6)))) pss_nil))) (pss_cons (ps_set (i := 9) sc'body.nd rfl (Or.inr rfl) hR) (pss_cons (ps_set (i := 10) sc'body.nd rfl (Or.inl rfl) hK1) (pss_cons (ps_set (i := 10) sc'body.nd rfl (Or.inl rfl) hK2) (pss_one (ps_if (pt_cmpR op_le (pe_op op_add (pv 7) (pv 10)) (pv 4) (zE _)) (pss_cons (ps_set (i := 7) sc'body.nd rfl (Or.inl rfl) (pe_op op_add (pv 7) (pv 10))) (pss_cons (ps_expr (pe_bm PySem.F.plainAttrs_list PySem.F.slot_list_append PySem.F.type_list_append mt_append (pe_ix ix_list (pe_ix ix_list (pv 6) (pe_un un_neg pe_int) (fun _ _ => rfl)) pe_int (fun _ _ => rfl)) (zG (pv 9) Zr))) (pss_one (ps_if (PW.pt (pw_and (pt_cmpR op_in_seq (pe_ix ix_tup (pv 9) pe_int (fun _ _ => rfl)) (pe_tup (zG pe_str (zG pe_str Zr))) rfl) (pw_and1 (pt_cmpR op_lt (pe_callB call_len_seq (by rfl) (by exact T.z_len) PySem.boot_len (zG (pv 6) Zr)) (pv 3) (zE _))))) (pss_one (ps_expr (pe_bm PySem.F.plainAttrs_list PySem.F.slot_list_append PySem.F.type_list_append mt_append (pv 6) (zG (SF.pe (os := []) (sf_comp (s := false) (own := ["_law_inner"]) (N' := ["_law_cells", "_law_many_here", "_law_later_on", "_law_deep", "_law_most", "_law_body_here", "_law_stack", "_law_used", "_law_cell_here", "_law_row", "_law_cost", "_law_inner"]) (k := 1) (compOk_of (by kernel_rfl)) rfl (si_tup (K' := K) (SC.sn (SE.seq (k := false) (se_cutT (K' := K) (st := true) (SE.seq (k := false) (zc 9)) (so_some zg) so_none)))) (fun _ _ _ _ => (zP (i := 11) nd_4 rfl (Or.inl rfl))) (fun _ _ _ _ => spf_nil) (fun _ _ _ _ => (zc 11)))) Zr)))) pss_nil)))) pss_nil)))))))) (pss_one (ps_ret (pe_tup (zG (pv 5) (zG (pv 7) Zr)))))))))))⟩
 exact h
theorem ok'program (T : Txt K mg Z) (G'cell : FnOk P w K mg base CX0 36 Z.f'cell Z.d'cell ["_law_script", "_law_k"] (spM K m'cell)) (G'body : FnOk P w K mg base CX0 40 Z.f'body Z.d'body ["_law_cells", "_law_many_here", "_law_later_on", "_law_deep", "_law_most"] (spM K m'body)) : FnOk P w K mg base CX0 42 Z.f'program Z.d'program ["_law_script", "_law_at", "_law_many_here", "_law_most"] (spM K m'program) := by
 have h := fn_ok (P := P) (w := w) (mg := mg) (base := base) (k := 41) (m := b'program) T.F'program Zi fun cdv A outer s H E hr => ⟨_, [], by
  unfold b'program
  exact (zm (Zs (os := []) (os' := []) (i := 4) Zi.nd rfl (Or.inl rfl) (SF.se (st := true) (sf_lst zr)))
   (zm (Zs (os := []) (os' := []) (i := 5) Zi.nd rfl (Or.inl rfl) (SF.se (st := true) (sf_lst zr)))
   (zm (Zs (os := []) (os' := []) (i := 6) Zi.nd rfl (Or.inl rfl) (zB op_add rok_add zg (zB zW zK (zQ (K' := K) G'cell (hr.mono (by decide)) (by rfl) T.m'cell T.F'cell.kp T.b'cell (zf (zc 0) (zf (zc 1) zr))) zg)))
   (zm (ss_for (os := []) rfl (si_rangeD (by rfl) (by exact T.z_range) (zB op_sub rok_sub (zc 6) zg) (se_un un_neg uok_neg zg)) (zP (i := 7) Zi.nd rfl (Or.inl rfl))
   (zm (Zs (os := []) (os' := []) (i := 8) Zi.nd rfl (Or.inl rfl) zg)
   (zm (Zs (os := []) (os' := []) (i := 9) Zi.nd rfl (Or.inl rfl) zg)
   (zm (ss_if (os' := []) (zI op_eq Zu (zc 7) zg (zE _))
   (zm (Zs (os := []) (os' := []) (i := 8) Zi.nd rfl (Or.inl rfl) (zB op_add rok_add zg (zB zW zK (zB op_fdiv rok_div (zQ (K' := K) G'cell (hr.mono (by decide)) (by rfl) T.m'cell T.F'cell.kp T.b'cell (zf (zc 0) (zf (zc 1) zr))) zg) zg)))
   (zx (Zs (os := []) (os' := []) (i := 9) Zi.nd rfl (Or.inl rfl) zg)))
   Zo)
   (zm (Zs (os := []) (os' := []) (i := 10) Zi.nd rfl (Or.inr rfl) (zB op_add rok_add (zB op_add rok_add (zB op_add rok_add (zc 1) zg) (zB op_mulB rok_mul zg (se_callTy call_int1 caok_int (by rfl) (by exact T.z_int) PyProof.Rows.boot_int (zf (SE.flat (se_cmp op_gt rok_gt (zc 7) zg (zE _))) zr)))) (zB op_mulB rok_mul zg (zc 7))))
   (zm (ss_setComp (os := []) (os' := []) (i := 11) Zi.nd rfl rfl (s := false) (own := ["_law_j"]) (N' := ["_law_script", "_law_at", "_law_many_here", "_law_most", "_law_bodies", "_law_later_on", "_law_count", "_law_k", "_law_size", "_law_deep", "_law_begin", "_law_cells", "_law_body_here", "_law_used", "_law_j"]) (k := 1) (compOk_of (by kernel_rfl)) rfl (si_range1 (by rfl) (by exact T.z_range) (zc 8)) (fun _ _ _ _ => (zP (i := 14) nd_5 rfl (Or.inl rfl))) (fun _ _ _ _ => spf_nil) (fun _ _ _ _ => (zQ (K' := K) G'cell (hr.mono (by decide)) (by rfl) T.m'cell T.F'cell.kp T.b'cell (zf (zc 0) (zf (zB op_add rok_add (zc 10) (zc 14)) zr)))))
   (zm (ss_asg (os := []) (zQ (K' := K) G'body (hr.mono (by decide)) (by rfl) T.m'body T.F'body.kp T.b'body (zf (zc 11) (zf (zc 2) (zf (zc 5) (zf (zc 9) (zf (zc 3) zr)))))) (sg_tup (K' := K) rfl (sgs_cons (zP (i := 12) Zi.nd rfl (Or.inl rfl)) (sgs_cons (zP (i := 13) Zi.nd rfl (Or.inl rfl)) sgs_nil))))
   (zm (Zs (os := []) (os' := []) (i := 4) Zi.nd rfl (Or.inl rfl) (SF.se (st := true) (sf_cat (SF.sl (sf_lst (zf (zc 12) zr))) (SE.sl (zc 4)))))
   (zx (Zs (os := []) (os' := []) (i := 5) Zi.nd rfl (Or.inl rfl) (SF.se (st := true) (sf_cat (SF.sl (sf_lst (zf (se_tup (zf (zc 7) (zf (zc 13) zr))) zr))) (SE.sl (zc 5))))))))))))))
   (zx (ss_ret (se_tup (zf (zc 2) (zf (zc 4) zr)))))))))⟩
 exact h
theorem okR'like (T : Txt K mg Z) (G'line : FnOk P w K mg base CX0 36 Z.f'line Z.d'line ["_law_cell_here", "_law_many_here"] (spM K m'line)) (n : Nat) : FnOk P w K mg base CX0 (38 + 2 * n) Z.f'like Z.d'like ["_law_rows", "_law_many_here", "_law_state"] (spW K kL 2 ((R'like n))) := by
 induction n with
 | zero => exact FnOk.noW
 | succ n ih =>
  have G'like := ih
  refine ?_
  ·have h := fnW_ok (κ := kL) (i0 := 2) (P := P) (w := w) (mg := mg) (base := base) (k := 38 + 2 * n + 1) (M := b'like ((R'like n))) T.F'like sc'like (by decide) fun cdv A outer s H E hr => ⟨_, [3], by
   unfold b'like
   exact (wss_cons (SS.ws (ss_new (os := []) (os' := [3]) (i := 3) sc'like.nd rfl (Or.inl rfl) (sf_lst zr)) kp_new)
   (wss_cons (wst_for rfl (si_list (K' := K) (SE.sn (k := true) (zc 0))) (zP (i := 4) sc'like.nd rfl (Or.inl rfl)) kg_name
   (wss_cons (wst_hset (we_op (st := true) zW zK (we_op (st := true) op_add rok_add (we_op (st := true) op_mulB rok_mul (we_hix (K' := K) (st := true) zg) (SE.we zg)) (SE.we zg)) (SE.we zg)) zg)
   (wss_cons (wst_set (j := 5) sc'like.nd rfl (Or.inl rfl) (we_hix (K' := K) (st := true) zg))
   (wss_one (wst_if (SB.wb (zI op_eq Zu (zM (K' := K) (st := false) (SE.seq (k := false) (zc 4)) zg) Zd (zE _)))
   (wss_one (SS.ws (ss_append (os := [3]) (i := 3) (se_tup (zf Zd (zf (zB zW zK (zc 5) (zc 1)) (zf (zQ (K' := K) G'line (hr.mono (by omega)) (by rfl) T.m'line T.F'line.kp T.b'line (zf (zB op_fdiv rok_div (zc 5) zg) (zf (zc 1) zr))) zr))))) kp_upd))
   (wss_one (wst_if (SB.wb (zI op_eq Zu (zM (K' := K) (st := false) (SE.seq (k := false) (zc 4)) zg) Zd (zE _)))
   (wss_one (SS.ws (ss_append (os := [3]) (i := 3) (se_tup (zf Zd (zf (zB zW zK (zc 5) (zc 1)) zr)))) kp_upd))
   (wss_one (wst_if (SB.wb (zI op_eq Zu (zM (K' := K) (st := false) (SE.seq (k := false) (zc 4)) zg) Zd (zE _)))
   (wss_one (wst_own (j := 3) (we_tup (st := true) (Zg (SE.we Zd) (Zg (we_call (K' := K) (st := true) G'like (hr.mono (by omega)) (by rfl) T.m'like T.F'like.kp T.b'like (ha_s (ha_s ha_0)) (Zg (SE.we (zM (K' := K) (st := true) (SE.seq (k := false) (zc 4)) zg)) (Zg (SE.we (zc 1)) (Zg (SE.we (zc 2)) wa_nil)))) wa_nil)))))
   (wss_one (wst_if (SB.wb (zI op_eq Zu (zM (K' := K) (st := false) (SE.seq (k := false) (zc 4)) zg) Zd (zE _)))
   (wss_cons (wst_set (j := 6) sc'like.nd rfl (Or.inl rfl) (we_call (K' := K) (st := true) G'like (hr.mono (by omega)) (by rfl) T.m'like T.F'like.kp T.b'like (ha_s (ha_s ha_0)) (Zg (SE.we (zM (K' := K) (st := true) (SE.seq (k := false) (zc 4)) zg)) (Zg (SE.we (zc 1)) (Zg (SE.we (zc 2)) wa_nil)))))
   (wss_one (wst_own (j := 3) (we_tup (st := true) (Zg (SE.we Zd) (Zg (SE.we (zc 6)) (Zg (we_call (K' := K) (st := true) G'like (hr.mono (by omega)) (by rfl) T.m'like T.F'like.kp T.b'like (ha_s (ha_s ha_0)) (Zg (SE.we (zM (K' := K) (st := true) (SE.seq (k := false) (zc 4)) zg)) (Zg (SE.we (zc 1)) (Zg (SE.we (zc 2)) wa_nil)))) wa_nil)))))))
   (wss_one (SS.ws (ss_append (os := [3]) (i := 3) (zc 4)) kp_upd)))))))))))))
   (wss_one (wst_ret (SE.we (se_look 3))))))⟩
   exact h
theorem ok'like (T : Txt K mg Z) (G'line : FnOk P w K mg base CX0 36 Z.f'line Z.d'line ["_law_cell_here", "_law_many_here"] (spM K m'line)) : FnOk P w K mg base CX0 118 Z.f'like Z.d'like ["_law_rows", "_law_many_here", "_law_state"] (spW K kL 2 m'like) := okR'like (P := P) (w := w) (base := base) T G'line 40
theorem okR'shape (T : Txt K mg Z)  (n : Nat) : FnOk P w K mg base CX0 (36 + 2 * n) Z.f'shape Z.d'shape ["_law_rows"] (spM K ((R'shape n))) := by
 induction n with
 | zero => exact FnOk.no
 | succ n ih =>
  have G'shape := ih
  refine ?_
  ·have h := fn_ok (P := P) (w := w) (mg := mg) (base := base) (k := 36 + 2 * n + 1) (m := b'shape ((R'shape n))) T.F'shape sc'shape fun cdv A outer s H E hr => ⟨_, [1], by
   unfold b'shape
   exact (zm (ss_new (os := []) (os' := [1]) (i := 1) sc'shape.nd rfl (Or.inl rfl) (sf_lst zr))
   (zm (ss_for (os := [1]) rfl (si_list (K' := K) (SE.sn (k := true) (zc 0))) (zP (i := 2) sc'shape.nd rfl (Or.inl rfl))
   (zx (ss_if (os' := [1]) (zI op_eq Zu (zM (K' := K) (st := false) (SE.seq (k := false) (zc 2)) zg) Zd (zE _))
   (zx (ss_append (os := [1]) (i := 1) (zc 2)))
   (zx (ss_if (os' := [1]) (zI op_in_seq rok_inT (zM (K' := K) (st := false) (SE.seq (k := false) (zc 2)) zg) (se_tup (zf Zd (zf Zd zr))) rfl)
   (zx (ss_append (os := [1]) (i := 1) (se_tup (zf (zM (K' := K) (st := true) (SE.seq (k := false) (zc 2)) zg) (zf (SF.se (st := true) (sf_comp (s := false) (own := ["_law_inner"]) (N' := ["_law_rows", "_law_found", "_law_row", "_law_inner"]) (k := 1) (compOk_of (by kernel_rfl)) rfl (si_tup (K' := K) (SC.sn (SE.seq (k := false) (se_cutT (K' := K) (st := true) (SE.seq (k := false) (zc 2)) (so_some zg) so_none)))) (fun _ _ _ _ => (zP (i := 3) nd_6 rfl (Or.inl rfl))) (fun _ _ _ _ => spf_nil) (fun _ _ _ _ => (zQ (K' := K) G'shape (hr.mono (by omega)) (by rfl) T.m'shape T.F'shape.kp T.b'shape (zf (zc 3) zr))))) zr)))))
   (zx (ss_append (os := [1]) (i := 1) (zM (K' := K) (st := true) (SE.seq (k := false) (zc 2)) zg))))))))
   (zx (ss_ret (se_look 1)))))⟩
   exact h
theorem ok'shape (T : Txt K mg Z)  : FnOk P w K mg base CX0 116 Z.f'shape Z.d'shape ["_law_rows"] (spM K m'shape) := okR'shape (P := P) (w := w) (base := base) T  40
theorem okR'copied (T : Txt K mg Z)  (n : Nat) : FnOk P w K mg base CX0 (36 + 2 * n) Z.f'copied Z.d'copied ["_law_rows"] (spM K ((R'copied n))) := by
 induction n with
 | zero => exact FnOk.no
 | succ n ih =>
  have G'copied := ih
  refine ?_
  ·have h := fn_ok (P := P) (w := w) (mg := mg) (base := base) (k := 36 + 2 * n + 1) (m := b'copied ((R'copied n))) T.F'copied sc'copied fun cdv A outer s H E hr => ⟨_, [1], by
   unfold b'copied
   exact (zm (ss_new (os := []) (os' := [1]) (i := 1) sc'copied.nd rfl (Or.inl rfl) (sf_lst zr))
   (zm (ss_for (os := [1]) rfl (si_list (K' := K) (SE.sn (k := true) (zc 0))) (zP (i := 2) sc'copied.nd rfl (Or.inl rfl))
   (zx (ss_if (os' := [1]) (zI op_in_seq rok_inT (zM (K' := K) (st := false) (SE.seq (k := false) (zc 2)) zg) (se_tup (zf Zd (zf Zd zr))) rfl)
   (zx (ss_append (os := [1]) (i := 1) (se_catA (K' := K) (st := true) (se_tup (zf (zM (K' := K) (st := true) (SE.seq (k := false) (zc 2)) zg) zr)) (se_tuple (K' := K) (st := true) (by rfl) (by exact T.z_tuple) (SF.seq (sf_comp (s := false) (own := ["_law_inner"]) (N' := ["_law_rows", "_law_found", "_law_row", "_law_inner"]) (k := 1) (compOk_of (by kernel_rfl)) rfl (si_tup (K' := K) (SC.sn (SE.seq (k := false) (se_cutT (K' := K) (st := true) (SE.seq (k := false) (zc 2)) (so_some zg) so_none)))) (fun _ _ _ _ => (zP (i := 3) nd_6 rfl (Or.inl rfl))) (fun _ _ _ _ => spf_nil) (fun _ _ _ _ => (zQ (K' := K) G'copied (hr.mono (by omega)) (by rfl) T.m'copied T.F'copied.kp T.b'copied (zf (zc 3) zr)))))))))
   (zx (ss_append (os := [1]) (i := 1) (zc 2))))))
   (zx (ss_ret (se_look 1)))))⟩
   exact h
theorem ok'copied (T : Txt K mg Z)  : FnOk P w K mg base CX0 116 Z.f'copied Z.d'copied ["_law_rows"] (spM K m'copied) := okR'copied (P := P) (w := w) (base := base) T  40
theorem okR'many (T : Txt K mg Z)  (n : Nat) : FnOk P w K mg base CX0 (36 + 2 * n) Z.f'many Z.d'many ["_law_rows"] (spM K ((R'many n))) := by
 induction n with
 | zero => exact FnOk.no
 | succ n ih =>
  have G'many := ih
  refine ?_
  ·have h := fn_ok (P := P) (w := w) (mg := mg) (base := base) (k := 36 + 2 * n + 1) (m := b'many ((R'many n))) T.F'many sc'many fun cdv A outer s H E hr => ⟨_, [], by
   unfold b'many
   exact (zm (Zs (os := []) (os' := []) (i := 1) sc'many.nd rfl (Or.inl rfl) zg)
   (zm (ss_for (os := []) rfl (si_list (K' := K) (SE.sn (k := true) (zc 0))) (zP (i := 2) sc'many.nd rfl (Or.inl rfl))
   (zm (Zs (os := []) (os' := []) (i := 1) sc'many.nd rfl (Or.inl rfl) (zB op_add rok_add (zc 1) zg))
   (zx (ss_if (os' := []) (zI op_in_seq rok_inT (zM (K' := K) (st := false) (SE.seq (k := false) (zc 2)) zg) (se_tup (zf Zd (zf Zd zr))) rfl)
   (zx (ss_for (os := []) rfl (si_tup (K' := K) (SE.sn (k := false) (se_cutT (K' := K) (st := true) (SE.seq (k := false) (zc 2)) (so_some zg) so_none))) (zP (i := 3) sc'many.nd rfl (Or.inl rfl))
   (zx (Zs (os := []) (os' := []) (i := 1) sc'many.nd rfl (Or.inl rfl) (zB op_add rok_add (zc 1) (zQ (K' := K) G'many (hr.mono (by omega)) (by rfl) T.m'many T.F'many.kp T.b'many (zf (zc 3) zr)))))))
   Zo))))
   (zx (ss_ret (zc 1)))))⟩
   exact h
theorem ok'many (T : Txt K mg Z)  : FnOk P w K mg base CX0 116 Z.f'many Z.d'many ["_law_rows"] (spM K m'many) := okR'many (P := P) (w := w) (base := base) T  40
theorem ok'other_row (T : Txt K mg Z)  : FnOk P w K mg base CX0 36 Z.f'other_row Z.d'other_row ["_law_row", "_law_cell_here", "_law_count"] (spM K m'other_row) := by
 have h := fn_ok (P := P) (w := w) (mg := mg) (base := base) (k := 35) (m := b'other_row) T.F'other_row sc'other_row fun cdv A outer s H E hr => ⟨_, [], by
  unfold b'other_row
  exact (zm (ss_if (os' := []) (zI op_eq Zu (zB zW zK (zc 1) zg) zg (zE _))
   (zx (ss_ret (SF.se (st := false) (sf_lst zr))))
   Zo)
   (zm (ss_if (os' := []) (zI op_eq Zu (zB zW zK (zc 1) zg) zg (zE _))
   (zx (ss_ret (SF.se (st := false) (sf_lst (zf (zc 0) (zf (zc 0) zr))))))
   Zo)
   (zm (ss_if (os' := []) (SW.sb (sw_and (zI op_eq Zu (zM (K' := K) (st := false) (SE.seq (k := false) (zc 0)) zg) Zd (zE _)) (sw_and1 (zI op_lt rok_lt (zB zW zK (zc 1) zg) zg (zE _)))))
   (zx (ss_ret (SF.se (st := false) (sf_lst (zf (se_tup (zf Zd (zf (zM (K' := K) (st := true) (SE.seq (k := false) (zc 0)) zg) (zf (zM (K' := K) (st := true) (SE.seq (k := false) (zc 0)) zg) zr)))) zr)))))
   Zo)
   (zm (ss_if (os' := []) (SW.sb (sw_and (zI op_in_seq rok_inT (zM (K' := K) (st := false) (SE.seq (k := false) (zc 0)) zg) (se_tup (zf Zd (zf Zd zr))) rfl) (sw_and1 (zI op_eq Zu (zB zW zK (zc 1) zg) zg (zE _)))))
   (zx (ss_ret (SF.se (st := false) (sf_lst (zf (se_catA (K' := K) (st := true) (se_tup (zf (zM (K' := K) (st := true) (SE.seq (k := false) (zc 0)) zg) zr)) (se_tuple (K' := K) (st := true) (by rfl) (by exact T.z_tuple) (SF.seq (sf_comp (s := false) (own := ["_law_inner"]) (N' := ["_law_row", "_law_cell_here", "_law_count", "_law_inner"]) (k := 1) (compOk_of (by kernel_rfl)) rfl (si_tup (K' := K) (SC.sn (SE.seq (k := false) (se_cutT (K' := K) (st := true) (SE.seq (k := false) (zc 0)) (so_some zg) so_none)))) (fun _ _ _ _ => (zP (i := 3) nd_7 rfl (Or.inl rfl))) (fun _ _ _ _ => spf_nil) (fun _ _ _ _ => (SF.se (st := true) (sf_lst zr))))))) zr)))))
   Zo)
   (zm (ss_if (os' := []) (SW.sb (sw_and (zI op_eq Zu (zM (K' := K) (st := false) (SE.seq (k := false) (zc 0)) zg) Zd (zE _)) (sw_and (zI op_gt rok_gt (zc 2) zg (zE _)) (sw_and1 (zI op_lt rok_lt (zB zW zK (zc 1) zg) zg (zE _))))))
   (zx (ss_ret (SF.se (st := false) (sf_lst (zf (se_tup (zf Zd (zf (zB op_add rok_add zg (zB zW zK (zB op_fdiv rok_div (zc 1) zg) (zB op_sub rok_sub (zc 2) zg))) zr))) zr)))))
   Zo)
   (zx (ss_ret (se_ixL (K' := K) (st := false) (SF.seq (sf_lst (zf (SF.se (st := true) (sf_lst (zf (se_tup (zf Zd zr)) zr))) (zf (SF.se (st := true) (sf_lst (zf (se_tup (zf Zd zr)) zr))) zr)))) (zB zW zK (zB op_fdiv rok_div (zc 1) zg) zg)))))))))⟩
 exact h
theorem okR'bent (T : Txt K mg Z) (G'other_row : FnOk P w K mg base CX0 36 Z.f'other_row Z.d'other_row ["_law_row", "_law_cell_here", "_law_count"] (spM K m'other_row)) (n : Nat) : FnOk P w K mg base CX0 (38 + 2 * n) Z.f'bent Z.d'bent ["_law_rows", "_law_at", "_law_cell_here", "_law_count"] (spW K kL 1 ((R'bent n))) := by
 induction n with
 | zero => exact FnOk.noW
 | succ n ih =>
  have G'bent := ih
  refine ?_
  ·have h := fnW_ok (κ := kL) (i0 := 1) (P := P) (w := w) (mg := mg) (base := base) (k := 38 + 2 * n + 1) (M := b'bent ((R'bent n))) T.F'bent sc'bent (by decide) fun cdv A outer s H E hr => ⟨_, [4], by
   unfold b'bent
   exact (wss_cons (SS.ws (ss_new (os := []) (os' := [4]) (i := 4) sc'bent.nd rfl (Or.inl rfl) (sf_lst zr)) kp_new)
   (wss_cons (wst_for rfl (si_list (K' := K) (SE.sn (k := true) (zc 0))) (zP (i := 5) sc'bent.nd rfl (Or.inl rfl)) kg_name
   (wss_cons (wst_hset (we_op (st := true) op_sub rok_sub (we_hix (K' := K) (st := true) zg) (SE.we zg)) zg)
   (wss_one (wst_if (wb_cmp op_eq Zu (we_hix (K' := K) (st := true) zg) (SE.we (se_un un_neg uok_neg zg)) (zE _))
   (wss_one (SS.ws (ss_extendS (os := [4]) (i := 4) (zQ (K' := K) G'other_row (hr.mono (by omega)) (by rfl) T.m'other_row T.F'other_row.kp T.b'other_row (zf (zc 5) (zf (zc 2) (zf (zc 3) zr))))) kp_ext))
   (wss_one (wst_if (SB.wb (zI op_in_seq rok_inT (zM (K' := K) (st := false) (SE.seq (k := false) (zc 5)) zg) (se_tup (zf Zd (zf Zd zr))) rfl))
   (wss_one (wst_own (j := 4) (we_cat (K' := K) (st := true) (SE.we (se_tup (zf (zM (K' := K) (st := true) (SE.seq (k := false) (zc 5)) zg) zr))) (we_tuple (K' := K) (st := true) (by rfl) (by exact T.z_tuple) (WN.we (wf_comp (own := ["_law_inner"]) (N' := ["_law_rows", "_law_at", "_law_cell_here", "_law_count", "_law_found", "_law_row", "_law_inner"]) (k := 1) (compOk_of (by kernel_rfl)) rfl (si_tup (K' := K) (SE.sn (k := false) (se_cutT (K' := K) (st := true) (SE.seq (k := false) (zc 5)) (so_some zg) so_none))) (fun _ _ _ _ => (zP (i := 6) nd_8 rfl (Or.inl rfl))) kg_name (fun _ _ _ _ => (we_call (K' := K) (st := true) G'bent (hr.mono (by omega)) (by rfl) T.m'bent T.F'bent.kp T.b'bent (ha_s ha_0) (Zg (SE.we (zc 6)) (Zg (SE.we (zc 1)) (Zg (SE.we (zc 2)) (Zg (SE.we (zc 3)) wa_nil))))))))))))
   (wss_one (SS.ws (ss_append (os := [4]) (i := 4) (zc 5)) kp_upd))))))))
   (wss_one (wst_ret (SE.we (se_look 4))))))⟩
   exact h
theorem ok'bent (T : Txt K mg Z) (G'other_row : FnOk P w K mg base CX0 36 Z.f'other_row Z.d'other_row ["_law_row", "_law_cell_here", "_law_count"] (spM K m'other_row)) : FnOk P w K mg base CX0 118 Z.f'bent Z.d'bent ["_law_rows", "_law_at", "_law_cell_here", "_law_count"] (spW K kL 1 m'bent) := okR'bent (P := P) (w := w) (base := base) T G'other_row 40
theorem ok_law (T : Txt K mg Z) (G'program : FnOk P w K mg base CX0 42 Z.f'program Z.d'program ["_law_script", "_law_at", "_law_many_here", "_law_most"] (spM K m'program)) (G'cell : FnOk P w K mg base CX0 36 Z.f'cell Z.d'cell ["_law_script", "_law_k"] (spM K m'cell)) (G'like : FnOk P w K mg base CX0 118 Z.f'like Z.d'like ["_law_rows", "_law_many_here", "_law_state"] (spW K kL 2 m'like)) (G'many : FnOk P w K mg base CX0 116 Z.f'many Z.d'many ["_law_rows"] (spM K m'many)) (G'bent : FnOk P w K mg base CX0 118 Z.f'bent Z.d'bent ["_law_rows", "_law_at", "_law_cell_here", "_law_count"] (spW K kL 1 m'bent)) (G'copied : FnOk P w K mg base CX0 116 Z.f'copied Z.d'copied ["_law_rows"] (spM K m'copied)) (G'shape : FnOk P w K mg base CX0 116 Z.f'shape Z.d'shape ["_law_rows"] (spM K m'shape)) (G_one_shape : FnOk P w K mg base CX0 120 Z.f_one_shape Z.d_one_shape ["one", "other"] (spM K m_one_shape)) : FnOk P w K mg base CX0 122 Z.f_law Z.d_law ["_law_script"] (spM K m_law) := by
 have h := fn_ok (P := P) (w := w) (mg := mg) (base := base) (k := 121) (m := b_law) T.F_law sc_law fun cdv A outer s H E hr => ⟨_, [3], by
  unfold b_law
  exact (zm (Zs (os := []) (os' := []) (i := 1) sc_law.nd rfl (Or.inl rfl) (zQ (K' := K) G'program (hr.mono (by decide)) (by rfl) T.m'program T.F'program.kp T.b'program (zf (zc 0) (zf zg (zf (zB zW zK (zQ (K' := K) G'cell (hr.mono (by decide)) (by rfl) T.m'cell T.F'cell.kp T.b'cell (zf (zc 0) (zf zg zr))) zg) (zf zg zr))))))
   (zm (Zs (os := []) (os' := []) (i := 2) sc_law.nd rfl (Or.inr rfl) (zB op_add rok_add zg (zB zW zK (zQ (K' := K) G'cell (hr.mono (by decide)) (by rfl) T.m'cell T.F'cell.kp T.b'cell (zf (zc 0) (zf zg zr))) zg)))
   (zm (ss_new (os := []) (os' := [3]) (i := 3) sc_law.nd rfl (Or.inr rfl) (sf_lst (zf (zB zW zK (zQ (K' := K) G'cell (hr.mono (by decide)) (by rfl) T.m'cell T.F'cell.kp T.b'cell (zf (zc 0) (zf zg zr))) zg) zr)))
   (zm (ss_lend2 (os := [3]) (os' := [3, 4]) (os1 := []) (os2 := [4]) (ol1 := []) (j := 3) (wst_newComp (os := []) (os' := [4]) (j := 4) sc_law.nd rfl rfl (own := ["_law_body_here"]) (N' := ["_law_script", "_law_one", "_law_many_here", "_law_state", "_law_bodies", "_law_cell_here", "_law_k", "_law_at", "_law_other", "_law_kept", "_law_due", "_law_found", "_law_body_here"]) (k := 1) (compOk_of (by kernel_rfl)) rfl (si_list (K' := K) (SE.sn (k := true) (zM (K' := K) (st := true) (SE.seq (k := false) (zc 1)) zg))) (fun _ _ _ _ => (zP (i := 12) nd_9 rfl (Or.inl rfl))) kg_name (fun _ _ _ _ => (we_call (K' := K) (st := true) G'like (hr.mono (by decide)) (by rfl) T.m'like T.F'like.kp T.b'like (ha_s (ha_s ha_0)) (Zg (SE.we (zc 12)) (Zg (SE.we (zc 2)) (Zg (SE.we (zc 3)) wa_nil)))))))
   (zm (Zs (os := [3, 4]) (os' := [3, 4]) (i := 5) sc_law.nd rfl (Or.inl rfl) (zQ (K' := K) G'cell (hr.mono (by decide)) (by rfl) T.m'cell T.F'cell.kp T.b'cell (zf (zc 0) (zf zg zr))))
   (zm (ss_if (os' := [3, 4]) (SW.sb (sw_and (zI op_gt rok_gt (zB zW zK (zc 5) zg) zg (zE _)) (sw_and (sb_chain op_lt rok_lt op_lt rok_lt zg (se_len (K' := K) (st := false) (by rfl) (by exact T.z_len) (sc_own 4)) zg) (sw_and1 (zI op_eq Zu (zB zW zK (zB op_fdiv rok_div (zc 5) zg) zg) zg (zE _))))))
   (zx (ss_append (os := [3, 4]) (i := 4) (SF.se (st := true) (sf_lst zr))))
   (zx (ss_if (os' := [3, 4]) (zI op_gt rok_gt (zB zW zK (zc 5) zg) zg (zE _))
   (zm (Zs (os := [3, 4]) (os' := [3, 4]) (i := 6) sc_law.nd rfl (Or.inl rfl) (zB zW zK (zB op_fdiv rok_div (zc 5) zg) (se_len (K' := K) (st := true) (by rfl) (by exact T.z_len) (sc_own 4))))
   (zx (ss_if (os' := [3, 4]) (zI (op_neD (K' := K) hr) rok_neD (se_ixL (K' := K) (st := false) (sc_own 4) (zc 6)) (SF.se (st := false) (sf_lst zr)) (zE _))
   (SSs.post (os2 := [3, 4, 7]) (os' := [3, 4]) (zm (ss_new (os := [3, 4]) (os' := [3, 4, 7]) (i := 7) sc_law.nd rfl (Or.inl rfl) (sf_lst (zf (zB zW zK (zQ (K' := K) G'cell (hr.mono (by decide)) (by rfl) T.m'cell T.F'cell.kp T.b'cell (zf (zc 0) (zf zg zr))) (zQ (K' := K) G'many (hr.mono (by decide)) (by rfl) T.m'many T.F'many.kp T.b'many (zf (se_ixL (K' := K) (st := true) (sc_own 4) (zc 6)) zr))) zr)))
   (zx (ss_lend (os := [3, 4, 7]) (os1 := [3, 4]) (ol1 := []) (j := 7) (wst_ownSet (j := 4) (we_call (K' := K) (st := true) G'bent (hr.mono (by decide)) (by rfl) T.m'bent T.F'bent.kp T.b'bent (ha_s ha_0) (Zg (SE.we (se_ixL (K' := K) (st := true) (sc_own 4) (zc 6))) (Zg (SE.we (zc 7)) (Zg (SE.we (zQ (K' := K) G'cell (hr.mono (by decide)) (by rfl) T.m'cell T.F'cell.kp T.b'cell (zf (zc 0) (zf zg zr)))) (Zg (SE.we (zB op_mulB rok_mul (se_len (K' := K) (st := true) (by rfl) (by exact T.z_len) (sc_own 4)) (se_callTy call_int1 caok_int (by rfl) (by exact T.z_int) PyProof.Rows.boot_int (zf (SE.flat (se_cmp op_eq Zu (zc 6) zg (zE _))) zr)))) wa_nil))))) (zc 6))))))
   Zo)))
   Zo)))
   (zm (SS.pre (os2 := [3]) (Zs (os := [3]) (os' := [3]) (i := 8) sc_law.nd rfl (Or.inl rfl) (se_tup (zf (zc 2) (zf (zc 4) zr)))))
   (zm (Zs (os := [3]) (os' := [3]) (i := 9) sc_law.nd rfl (Or.inl rfl) (SF.se (st := true) (sf_lst (zf (se_tup (zf (zM (K' := K) (st := true) (SE.seq (k := false) (zc 1)) zg) (zf (SF.se (st := true) (sf_comp (s := false) (own := ["_law_body_here"]) (N' := ["_law_script", "_law_one", "_law_many_here", "_law_state", "_law_bodies", "_law_cell_here", "_law_k", "_law_at", "_law_other", "_law_kept", "_law_due", "_law_found", "_law_body_here"]) (k := 1) (compOk_of (by kernel_rfl)) rfl (si_list (K' := K) (SC.sn (SE.seq (k := true) (zM (K' := K) (st := true) (SE.seq (k := false) (zc 1)) zg)))) (fun _ _ _ _ => (zP (i := 12) nd_9 rfl (Or.inl rfl))) (fun _ _ _ _ => spf_nil) (fun _ _ _ _ => (zQ (K' := K) G'copied (hr.mono (by decide)) (by rfl) T.m'copied T.F'copied.kp T.b'copied (zf (zc 12) zr))))) zr))) (zf (se_tup (zf (zc 2) (zf (SF.se (st := true) (sf_comp (s := false) (own := ["_law_body_here"]) (N' := ["_law_script", "_law_one", "_law_many_here", "_law_state", "_law_bodies", "_law_cell_here", "_law_k", "_law_at", "_law_other", "_law_kept", "_law_due", "_law_found", "_law_body_here"]) (k := 1) (compOk_of (by kernel_rfl)) rfl (si_list (K' := K) (SC.sn (SE.seq (k := true) (zc 4)))) (fun _ _ _ _ => (zP (i := 12) nd_9 rfl (Or.inl rfl))) (fun _ _ _ _ => spf_nil) (fun _ _ _ _ => (zQ (K' := K) G'copied (hr.mono (by decide)) (by rfl) T.m'copied T.F'copied.kp T.b'copied (zf (zc 12) zr))))) zr))) zr)))))
   (zm (Zs (os := [3]) (os' := [3]) (i := 10) sc_law.nd rfl (Or.inl rfl) (SE.flat (se_cmp (op_eqD (K' := K) hr) rok_eqD (SF.se (st := false) (sf_comp (s := false) (own := ["_law_body_here"]) (N' := ["_law_script", "_law_one", "_law_many_here", "_law_state", "_law_bodies", "_law_cell_here", "_law_k", "_law_at", "_law_other", "_law_kept", "_law_due", "_law_found", "_law_body_here"]) (k := 1) (compOk_of (by kernel_rfl)) rfl (si_list (K' := K) (SC.sn (SE.seq (k := true) (zM (K' := K) (st := true) (SE.seq (k := false) (zc 1)) zg)))) (fun _ _ _ _ => (zP (i := 12) nd_9 rfl (Or.inl rfl))) (fun _ _ _ _ => spf_nil) (fun _ _ _ _ => (zQ (K' := K) G'shape (hr.mono (by decide)) (by rfl) T.m'shape T.F'shape.kp T.b'shape (zf (zc 12) zr))))) (SF.se (st := false) (sf_comp (s := false) (own := ["_law_body_here"]) (N' := ["_law_script", "_law_one", "_law_many_here", "_law_state", "_law_bodies", "_law_cell_here", "_law_k", "_law_at", "_law_other", "_law_kept", "_law_due", "_law_found", "_law_body_here"]) (k := 1) (compOk_of (by kernel_rfl)) rfl (si_list (K' := K) (SC.sn (SE.seq (k := true) (zc 4)))) (fun _ _ _ _ => (zP (i := 12) nd_9 rfl (Or.inl rfl))) (fun _ _ _ _ => spf_nil) (fun _ _ _ _ => (zQ (K' := K) G'shape (hr.mono (by decide)) (by rfl) T.m'shape T.F'shape.kp T.b'shape (zf (zc 12) zr))))) (zE _))))
   (zm (ss_for (os := [3]) rfl (si_list (K' := K) (SE.sn (k := true) (SF.se (st := true) (sf_lst (zf (zQ (K' := K) G_one_shape (hr.mono (by decide)) (by rfl) T.m_one_shape T.F_one_shape.kp T.b_one_shape (zf (zc 1) (zf (zc 8) zr))) (zf (zQ (K' := K) G_one_shape (hr.mono (by decide)) (by rfl) T.m_one_shape T.F_one_shape.kp T.b_one_shape (zf (zc 8) (zf (zc 1) zr))) zr)))))) (zP (i := 11) sc_law.nd rfl (Or.inl rfl))
   (zx (ss_if (os' := [3]) (SW.sb (sw_or (sb_not (sb_val (se_isi (K' := K) (st := false) (by rfl) (by exact T.z_isinstance) (by rfl) (by exact T.z_bool) PyProof.Rows.boot_bool (by decide) (zc 11)))) (sw_or1 (zI op_ne rok_neS (zc 11) (zc 10) (zE _)))))
   (zx (ss_ret se_bl))
   Zo)))
   (zx (ss_ret (se_and (se_cmp op_isB rok_isB (zQ (K' := K) G_one_shape (hr.mono (by decide)) (by rfl) T.m_one_shape T.F_one_shape.kp T.b_one_shape (zf (zc 1) (zf (zc 1) zr))) se_bl (zE _)) (se_and (se_cmp op_isB rok_isB (zQ (K' := K) G_one_shape (hr.mono (by decide)) (by rfl) T.m_one_shape T.F_one_shape.kp T.b_one_shape (zf (zc 8) (zf (zc 8) zr))) se_bl (zE _)) (se_one (se_cmp (op_eqD (K' := K) hr) rok_eqD (SF.se (st := false) (sf_lst (zf (zc 1) (zf (zc 8) zr)))) (zc 9) (zE _)))))))))))))))))⟩
 exact h
end
end EV
namespace M
open PySem PySem.Spec L2
section
variable {ρ ρ1 ρ2 : Ev} {S S1 S2 : List D} {d d1 d2 : D} {F F' : WF} {G : WL} {M1 M2 : WM} {f : Ev → Option D}
theorem wseq_ {r : Option (Out × List D)} (h1 : M1 ρ S = some (.nx ρ1, S1)) (h2 : M2 ρ1 S1 = r) : wSeq M1 M2 ρ S = r := by unfold wSeq; rw [h1]; exact h2
theorem wif_t {c : Ev → List D → Option (Bool × List D)} {r : Option (Out × List D)} (h1 : c ρ S = some (true, S1)) (h2 : M1 ρ S1 = r) : wIf c M1 M2 ρ S = r := by unfold wIf; rw [h1]; exact h2
theorem wif_f {c : Ev → List D → Option (Bool × List D)} {r : Option (Out × List D)} (h1 : c ρ S = some (false, S1)) (h2 : M2 ρ S1 = r) : wIf c M1 M2 ρ S = r := by unfold wIf; rw [h1]; exact h2
theorem wl_ {α : Type} {g : Ev → Option α} {x : α} (h : g ρ = some x) : wL g ρ S = some (x, S) := by unfold wL; rw [h]; rfl
theorem wset_ {j : Nat} (h : F ρ S = some (d, S1)) : wSet j F ρ S = some (.nx (ρ.set j (some d)), S1) := by unfold wSet; rw [h]; rfl
theorem wret_ (h : F ρ S = some (d, S1)) : wRet F ρ S = some (.rt d, S1) := by unfold wRet; rw [h]; rfl
theorem wcall_ {i0 : Nat} {m : List D → List D → Option (D × List D)} {ds : List D} {r : Option (D × List D)} (h : G ρ S = some (ds, S1)) (h2 : m ds S1 = r) : wCall i0 m G ρ S = r := by unfold wCall; rw [h]; exact h2
theorem Zb {ds : List D} (h : F ρ S = some (d, S1)) (h2 : G ρ S1 = some (ds, S2)) : zH F G ρ S = some (d :: ds, S2) := by unfold zH; rw [h]; simp only [oB]; rw [h2]; rfl
theorem wnil_ : wL zj ρ S = some ([], S) := rfl
theorem wtup_ {ds : List D} (h : G ρ S = some (ds, S1)) (hl : ds.length ≤ sizeLine) : wTup G ρ S = some (.tup ds, S1) := by
 unfold wTup; rw [h]; simp only [oB]; unfold dTup; rw [if_pos hl]; rfl
theorem wix_ {k : Int} (h : f ρ = some (.int k)) (h2 : atI S k = some d) : wIx f ρ S = some (d, S) := by unfold wIx; rw [h]; simp only [oB, asI]; rw [h2]; rfl
theorem wsetix_ {k : Int} {j : Nat} (h : F ρ S = some (d, S1)) (h2 : f ρ = some (.int k)) (h3 : ixN S1.length k = some j) : wSetIx F f ρ S = some (.nx ρ, S1.set j d) := by
 unfold wSetIx; rw [h]; simp only [oB]; rw [h2]; simp only [oB, asI]; rw [h3]; rfl
theorem w2_ {g : D → D → Option D} (h : F ρ S = some (d1, S1)) (h2 : F' ρ S1 = some (d2, S2)) (h3 : g d1 d2 = some d) : w2 g F F' ρ S = some (d, S2) := by
 unfold w2; rw [h]; simp only [oB]; rw [h2]; simp only [oB]; rw [h3]; rfl
theorem wtest_ {b : Bool} (h : F ρ S = some (.bl b, S1)) : wTest F ρ S = some (b, S1) := by unfold wTest; rw [h]; rfl
theorem wdef_ {k n : Nat} {M : WM} {ds : List D} (hl : ds.length = k) (h : M (startD n ds) S = some (.rt d, S1)) : wDef k n M ds S = some (d, S1) := by unfold wDef; rw [if_pos hl, h]; rfl
theorem wfor_ {fi : Ev → Option (List D)} {u : D → Ev → Option Ev} {ds : List D} {r : Option (Out × List D)} (h : fi ρ = some ds) (h2 : forW u M1 ds ρ S = r) : wFor fi u M1 ρ S = r := by unfold wFor; rw [h]; exact h2
theorem wcomp_ {k : Nat} {fi : Ev → Option (List D)} {u : D → Ev → Option Ev} {ds es : List D} (h : fi ρ = some ds) (h2 : compW u F ds (ρ ++ List.replicate k none) S = some (es, S1)) (hl : es.length ≤ sizeLine) : wComp k fi u F ρ S = some (.lst es, S1) := by
 unfold wComp; rw [h]; simp only [oB]; rw [h2]; simp only [oB]; unfold dLst; rw [if_pos hl]; rfl
theorem compW_nil {u : D → Ev → Option Ev} : compW u F [] ρ S = some ([], S) := rfl
theorem compW_cons {u : D → Ev → Option Ev} {ds es : List D} (h : u d ρ = some ρ1) (h2 : F ρ1 S = some (d1, S1)) (h3 : compW u F ds ρ1 S1 = some (es, S2)) : compW u F (d :: ds) ρ S = some (d1 :: es, S2) := by
 rw [compW, h]; simp only [oB]; rw [h2]; simp only [oB]; rw [h3]; rfl
end
end M
namespace RW
open PySem PySem.Spec L2 M
def names : List Str := ["set", "take", "skip", "halt", "either", "loop", "call"]
def Sc : D → Bool
 | .non => true
 | .bl _ => true
 | .int i => decide (i.natAbs ≤ 10 ^ 50)
 | .str x => names.contains x
 | _ => false
def Fi : Nat → D → Prop
 | 0, d => Sc d = true
 | n + 1, d => Sc d = true ∨ ∃ ds, (d = .tup ds ∨ d = .lst ds) ∧ ∀ r ∈ ds, Fi n r
theorem Fi.sc {d : D} (h : Sc d = true) : ∀ n, Fi n d
 | 0 => h
 | n + 1 => .inl h
theorem Fi.up : ∀ {n : Nat} {d : D}, Fi n d → Fi (n + 1) d
 | 0, d, h => .inl h
 | n + 1, d, h => by
  rcases h with h | ⟨ds, e, h⟩
  ·exact .inl h
  ·exact .inr ⟨ds, e, fun r hr => (h r hr).up⟩
theorem Fi.mono {n m : Nat} {d : D} (h : Fi n d) (hm : n ≤ m) : Fi m d := by
  induction m with
  | zero => have e : n = 0 := by omega
            subst e; exact h
  | succ m ih =>
    by_cases e : n = m + 1
    · subst e; exact h
    · exact (ih (by omega)).up
theorem Fi.int {i : Int} (h : i.natAbs ≤ 10 ^ 50) (n : Nat) : Fi n (.int i) := Fi.sc (d := .int i) (decide_eq_true h) n
theorem Fi.str {x : Str} (h : names.contains x = true) (n : Nat) : Fi n (.str x) := Fi.sc (d := .str x) h n
theorem names_ok : names.all PyData.strOk = true := by decide +kernel
theorem sc_lay {d : D} (h : Sc d = true) : (Zc d).canLay0 = true ∧ (Zc d).depth = 0 := by
 cases d with
 | str x =>
  refine ⟨?_, by simp only [Zc]; rw [PyData.depth]⟩
  simp only [Zc]
  rw [PyData.canLay0]
  exact List.all_eq_true.mp names_ok x (by simpa [Sc] using h)
 | non => exact ⟨by simp only [Zc]; rw [PyData.canLay0], by simp only [Zc]; rw [PyData.depth]⟩
 | bl b => exact ⟨by simp only [Zc]; rw [PyData.canLay0], by simp only [Zc]; rw [PyData.depth]⟩
 | int i => exact ⟨by simp only [Zc]; rw [PyData.canLay0], by simp only [Zc]; rw [PyData.depth]⟩
 | _ => cases h
theorem lay_all : ∀ {ds : List D} {k : Nat}, (∀ r ∈ ds, (Zc r).canLay0 = true ∧ (Zc r).depth ≤ k) → PyData.canLayAll0 (zZ ds) = true ∧ PyData.depthAll (zZ ds) ≤ k
 | [], k, _ => ⟨by rw [zZ, PyData.canLayAll0], by rw [zZ, PyData.depthAll]; omega⟩
 | d :: ds, k, h => by
  obtain ⟨h1, h2⟩ := h d List.mem_cons_self
  obtain ⟨h3, h4⟩ := lay_all fun r hr => h r (List.mem_cons_of_mem _ hr)
  rw [zZ, PyData.canLayAll0, PyData.depthAll, h1, h3]
  exact ⟨rfl, by omega⟩
theorem Fi.lay : ∀ {n : Nat} {d : D}, Fi n d → (Zc d).canLay0 = true ∧ (Zc d).depth ≤ n
 | 0, d, h => ⟨(sc_lay h).1, by rw [(sc_lay h).2]; omega⟩
 | n + 1, d, h => by
  rcases h with h | ⟨ds, rfl | rfl, h⟩
  ·exact ⟨(sc_lay h).1, by rw [(sc_lay h).2]; omega⟩
  ·obtain ⟨h1, h2⟩ := lay_all fun r hr => (h r hr).lay
   rw [Zc, PyData.canLay0, PyData.depth]
   exact ⟨h1, by omega⟩
  ·obtain ⟨h1, h2⟩ := lay_all fun r hr => (h r hr).lay
   rw [Zc, PyData.canLay0, PyData.depth]
   exact ⟨h1, by omega⟩
theorem Fi.py {n : Nat} {d : D} (h : Fi n d) (hn : n ≤ 64) : pyOk d = true := by
 obtain ⟨h1, h2⟩ := h.lay
 unfold pyOk SeqAt.shaped
 rw [h1, decide_eq_true (by omega)]; rfl
mutual
def wt : D → Nat
 | .tup ds => wts ds
 | .lst ds => wts ds
 | _ => 8
def wts : List D → Nat
 | [] => 0
 | d :: ds => wt d + 1 + wts ds
end
theorem wts_app : ∀ a b : List D, wts (a ++ b) = wts a + wts b
 | [], b => by rw [List.nil_append, wts]; omega
 | d :: a, b => by rw [List.cons_append, wts, wts, wts_app a b]; omega
def Py (n : Nat) (d : D) : Prop := (Zc d).canLay0 = true ∧ (Zc d).depth ≤ n
theorem Fi.pyd {n : Nat} {d : D} (h : Fi n d) : Py n d := h.lay
theorem Py.mono {n m : Nat} {d : D} (h : Py n d) (hm : n ≤ m) : Py m d := ⟨h.1, Nat.le_trans h.2 hm⟩
theorem Py.int (i : Int) (n : Nat) : Py n (.int i) := ⟨by rw [Zc, PyData.canLay0], by rw [Zc, PyData.depth]; omega⟩
theorem Py.tup {n : Nat} {ds : List D} (h : ∀ r ∈ ds, Py n r) : Py (n + 1) (.tup ds) := by
 obtain ⟨h1, h2⟩ := lay_all h
 unfold Py
 rw [Zc, PyData.canLay0, PyData.depth]
 exact ⟨h1, by omega⟩
theorem Py.lst {n : Nat} {ds : List D} (h : ∀ r ∈ ds, Py n r) : Py (n + 1) (.lst ds) := by
 obtain ⟨h1, h2⟩ := lay_all h
 unfold Py
 rw [Zc, PyData.canLay0, PyData.depth]
 exact ⟨h1, by omega⟩
theorem Py.eq {n : Nat} {d : D} (h : Py n d) (hn : n ≤ 64) : dEqD d d = some (.bl true) := by
 have hp : pyOk d = true := by
  unfold pyOk SeqAt.shaped
  rw [h.1, decide_eq_true (Nat.le_trans h.2 hn)]; rfl
 unfold dEqD
 rw [if_pos ⟨hp, hp⟩, eqD_self hp]
open PySem L2 M
inductive Rw where
 | skip | halt | call (k : Nat) | loop (rs : List Rw) | either (a b : List Rw)
mutual
def Rw.ht : Rw → Nat
 | .loop rs => hts rs + 1
 | .either a b => max (hts a) (hts b) + 1
 | _ => 0
def hts : List Rw → Nat
 | [] => 0
 | r :: rs => max r.ht (hts rs)
end
mutual
def Rw.toD : Rw → D
 | .skip => .tup [.str "skip"]
 | .halt => .tup [.str "halt"]
 | .call k => .tup [.str "call", .int (k : Nat)]
 | .loop rs => .tup [.str "loop", .lst (toDs rs)]
 | .either a b => .tup [.str "either", .lst (toDs a), .lst (toDs b)]
def toDs : List Rw → List D
 | [] => []
 | r :: rs => r.toD :: toDs rs
end
mutual
def Rw.ok (f l : Nat) : Rw → Prop
 | .call k => f ≤ k ∧ k ≤ l
 | .loop rs => oks f l rs ∧ rs.length ≤ 100
 | .either a b => (oks f l a ∧ a.length ≤ 100) ∧ oks f l b ∧ b.length ≤ 100
 | _ => True
def oks (f l : Nat) : List Rw → Prop
 | [] => True
 | r :: rs => r.ok f l ∧ oks f l rs
end
mutual
def Rw.dp (g : Nat → Int) : Rw → Int
 | .call k => max 1 (g k)
 | .loop rs => 1 + dps g rs
 | .either a b => 1 + max (dps g a) (dps g b)
 | _ => 1
def dps (g : Nat → Int) : List Rw → Int
 | [] => 0
 | r :: rs => max (r.dp g) (dps g rs)
end
theorem mulT {a b : Int} (h1 : -(2 ^ 64) < b) (h2 : b < 2 ^ 64) : IntMulOk a b := by
 have := mulS (a := b) (b := a) h1 h2
 unfold IntMulOk at *
 rw [Bool.and_comm (decide (Builtin.Int.intBits a > shortFactorBits)), Int.add_comm]
 exact this
structure Dc (d : D) (m : Nat) (g : Nat → Option Int) : Prop where
 ex : ∃ ks ds, d = .dict ks ds ∧ ks.length = ds.length ∧ ks.length ≤ m ∧ ∀ j : Nat, lookD ks ds (.inl (j : Int)) = (g j).map D.int
theorem Dc.nil : Dc (.dict [] []) 0 (fun _ => none) := ⟨[], [], rfl, rfl, Nat.le_refl _, fun j => by simp [lookD]⟩
end RW
namespace EV
open PySem PySem.Spec L2 M
inductive Rq where
 | one (x : Str) (ps : List D) | call (k : Nat) | loop (rs : List Rq) | either (a b : List Rq)
mutual
def Rq.toD : Rq → D
 | .one x ps => .tup (.str x :: ps)
 | .call k => .tup [.str "call", .int (k : Nat)]
 | .loop rs => .tup [.str "loop", .lst (qDs rs)]
 | .either a b => .tup [.str "either", .lst (qDs a), .lst (qDs b)]
def qDs : List Rq → List D
 | [] => []
 | r :: rs => r.toD :: qDs rs
end
theorem qDs_map : ∀ rs : List Rq, qDs rs = rs.map Rq.toD
 | [] => by simp [qDs]
 | r :: rs => by simp [qDs, qDs_map rs]
def Lf : D → Bool
 | .int _ => true
 | .tup _ => true
 | _ => false
mutual
def Rq.ok (nb : Nat) : Rq → Prop
 | .one x ps => (x ≠ "call" ∧ x ≠ "loop" ∧ x ≠ "either") ∧ ps.length ≤ 10 ∧ (∀ p ∈ ps, Lf p = true) ∧ RW.Py 5 (.tup (.str x :: ps))
 | .call k => k < nb
 | .loop rs => oks nb rs ∧ rs.length ≤ 100
 | .either a b => (oks nb a ∧ a.length ≤ 100) ∧ oks nb b ∧ b.length ≤ 100
def oks (nb : Nat) : List Rq → Prop
 | [] => True
 | r :: rs => r.ok nb ∧ oks nb rs
end
mutual
def Rq.rk (g : Nat → Nat) : Rq → Nat
 | .one _ _ => 0
 | .call k => g k + 1
 | .loop rs => rks g rs + 1
 | .either a b => max (rks g a) (rks g b) + 1
def rks (g : Nat → Nat) : List Rq → Nat
 | [] => 0
 | r :: rs => max (r.rk g) (rks g rs)
end
theorem rks_mem {g : Nat → Nat} : ∀ {rs : List Rq} {r : Rq}, r ∈ rs → r.rk g ≤ rks g rs
 | x :: rs, r, h => by
  rw [rks]
  rcases List.mem_cons.mp h with rfl | h
  ·omega
  ·have := rks_mem (g := g) h; omega
theorem zT {ρ : Ev} {i : Nat} {d : D} (h : ρ[i]? = some (some d)) : zd i ρ = some d := by unfold zd; rw [h]; rfl
theorem eq_t {x : Str} : dEqS (.str x) (.str x) = some (.bl true) := by unfold dEqS; rw [eqS, decide_eq_true rfl]; rfl
theorem eq_f {x y : Str} (h : x ≠ y) : dEqS (.str x) (.str y) = some (.bl false) := by unfold dEqS; rw [eqS, decide_eq_false h]; rfl
theorem ne_t {x y : Str} (h : x ≠ y) : dNeS (.str x) (.str y) = some (.bl true) := by unfold dNeS; rw [eqS, decide_eq_false h]; rfl
theorem ne_f {x : Str} : dNeS (.str x) (.str x) = some (.bl false) := by unfold dNeS; rw [eqS, decide_eq_true rfl]; rfl
theorem kind_ {ρ : Ev} {i : Nat} {x : Str} {ps : List D} (h : ρ[i]? = some (some (.tup (.str x :: ps)))) : fIx (zl false (zd i)) (fC (.int 0)) ρ = some (.str x) := fIxv (seqT (zT h)) rfl (zY (j := 0) rfl)
theorem kis {ρ : Ev} {i : Nat} {x : Str} {ps : List D} (h : ρ[i]? = some (some (.tup (.str x :: ps)))) : zC (f2 dEqS (fIx (zl false (zd i)) (fC (.int 0))) (fC (.str x))) ρ = some true := zU (f2v (kind_ h) rfl eq_t)
theorem kno {ρ : Ev} {i : Nat} {x y : Str} {ps : List D} (h : ρ[i]? = some (some (.tup (.str x :: ps)))) (n : x ≠ y) : zC (f2 dEqS (fIx (zl false (zd i)) (fC (.int 0))) (fC (.str y))) ρ = some false := zU (f2v (kind_ h) rfl (eq_f n))
theorem tup3v {ρ : Ev} {f f' f'' : Ev → Option D} {d d' d'' : D} (e : f ρ = some d) (e' : f' ρ = some d') (e'' : f'' ρ = some d'') : fTup (ze f (ze f' (ze f'' zj))) ρ = some (.tup [d, d', d'']) := by
 rw [fTup_, fCons_, e, oB, fCons_, e', oB, fCons_, e'']; exact dTup_ (size_of (by simp))
theorem add_ {a b : Int} : dAdd (.int a) (.int b) = some (.int (a + b)) := rfl
mutual
def Rq.lat (f : Nat) : Rq → Prop
 | .one _ _ => True
 | .call k => f ≤ k
 | .loop rs => lats f rs
 | .either a b => lats f a ∧ lats f b
def lats (f : Nat) : List Rq → Prop
 | [] => True
 | r :: rs => r.lat f ∧ lats f rs
end
theorem compD_pairs {u : D → Ev → Option Ev} {c : Ev → Option Bool} {e : Ev → Option D} (I : Ev → Prop) : ∀ (ps : List (D × D)) (ρ : Ev), I ρ → (∀ p ρ, p ∈ ps → I ρ → ∃ ρ1, u p.1 ρ = some ρ1 ∧ c ρ1 = some true ∧ e ρ1 = some p.2 ∧ I ρ1) → compD u c e (ps.map Prod.fst) ρ = some (ps.map Prod.snd)
 | [], ρ, _, _ => rfl
 | p :: ps, ρ, hi, h => by
  obtain ⟨ρ1, h1, h2, h3, h4⟩ := h p ρ List.mem_cons_self hi
  rw [List.map_cons, compD, h1, oB, h2, oB, if_pos rfl, h3, oB, compD_pairs I ps ρ1 h4 fun q ρ' hq => h q ρ' (List.mem_cons_of_mem _ hq)]
  rfl
theorem fcomp_pairs {k : Nat} {fl : Ev → Option (List D)} {u : D → Ev → Option Ev} {c : Ev → Option Bool} {e : Ev → Option D} {ρ : Ev} (ps : List (D × D)) (I : Ev → Prop) (hfl : fl ρ = some (ps.map Prod.fst)) (hm : ps.length ≤ 1000) (h0 : I (ρ ++ List.replicate k none))
  (hs : ∀ p ρ, p ∈ ps → I ρ → ∃ ρ1, u p.1 ρ = some ρ1 ∧ c ρ1 = some true ∧ e ρ1 = some p.2 ∧ I ρ1) : fComp k fl u c e ρ = some (.lst (ps.map Prod.snd)) := by
 rw [fComp_, hfl, oB, compD_pairs I ps _ h0 hs, oB]
 exact dLst_ (size_of (by rw [List.length_map]; omega))
def subs : Rq → List (List Rq)
 | .loop rs => [rs]
 | .either a b => [a, b]
 | _ => []
theorem subs_rk {g : Nat → Nat} {r : Rq} {x : List Rq} (h : x ∈ subs r) : rks g x + 1 ≤ r.rk g := by
 cases r with
 | one _ _ => cases h
 | call _ => cases h
 | loop a => simp only [subs, List.mem_singleton] at h; subst h; rw [Rq.rk]; omega
 | either a b =>
  simp only [subs, List.mem_cons, List.not_mem_nil, or_false] at h
  rw [Rq.rk]
  rcases h with rfl | rfl <;> omega
theorem lf_isi {d : D} (h : Lf d = true) : gIsi "list" d = some (.bl false) := by cases d <;> first | rfl | cases h
theorem comp_none : ∀ (ds : List D) (ρ : Ev), (∀ d ∈ ds, gIsi "list" d = some (.bl false)) → ρ.length = 2 → compD (zD 1) (zC (f1 (gIsi "list") (zd 1))) (zd 1) ds ρ = some []
 | [], ρ, _, _ => rfl
 | d :: ds, ρ, h, hl => by
  rw [compD, zD, oB]
  have e : zC (f1 (gIsi "list") (zd 1)) (ρ.set 1 (some d)) = some false := zU (f1v (zT (zz (by omega))) (h d List.mem_cons_self))
  rw [e, oB, if_neg (by simp)]
  exact comp_none ds _ (fun x hx => h x (List.mem_cons_of_mem _ hx)) (by simpa using hl)
open RW (Py Fi Sc wt wts names wts_app mulT)
theorem if_t {c : Ev → Option Bool} {m1 m2 : Ev → Option Out} {ρ : Ev} {T : Out → Prop} (e : c ρ = some true) (k : Wo (m1 ρ) T) : Wo (mIf c m1 m2 ρ) T := by rw [mIf_, e]; exact k
theorem if_b {c : Ev → Option Bool} {m1 m2 : Ev → Option Out} {ρ : Ev} {T : Out → Prop} {b : Bool} (e : c ρ = some b) (k1 : b = true → Wo (m1 ρ) T) (k2 : b = false → Wo (m2 ρ) T) : Wo (mIf c m1 m2 ρ) T := by
 rw [mIf_, e]
 cases b with
 | true => exact k1 rfl
 | false => exact k2 rfl
theorem orv {c1 c2 : Ev → Option Bool} {ρ : Ev} {a b : Bool} (e1 : c1 ρ = some a) (e : a = false → c2 ρ = some b) : fOr c1 c2 ρ = some (a || b) := by
 rw [fOr_, e1]
 cases a with
 | true => rfl
 | false => exact e rfl
theorem andc {c1 c2 : Ev → Option Bool} {ρ : Ev} {a b : Bool} (e1 : c1 ρ = some a) (e : a = true → c2 ρ = some b) : fAnd c1 c2 ρ = some (a && b) := by
 rw [fAnd_, e1]
 cases a with
 | true => exact e rfl
 | false => rfl
theorem lt_ {a b : Int} : dLt (.int a) (.int b) = some (.bl (decide (a < b))) := rfl
theorem gt_ {a b : Int} : dGt (.int a) (.int b) = some (.bl (decide (b < a))) := rfl
theorem sub_ {a b : Int} : dSub (.int a) (.int b) = some (.int (a - b)) := rfl
theorem nilv {ρ : Ev} : fLst zj ρ = some (.lst []) := by rw [fLst_]; exact dLst_ (ds := []) (size_of (by simp))
theorem tup2v {ρ : Ev} {f f' : Ev → Option D} {d d' : D} (e : f ρ = some d) (e' : f' ρ = some d') : fTup (ze f (ze f' zj)) ρ = some (.tup [d, d']) := by
 rw [fTup_, fCons_, e, oB, fCons_, e']; exact dTup_ (size_of (by simp))
theorem atB {B : List D} {j : Nat} (h : j < B.length) : atI B ((j : Nat) : Int) = some (B.getD j .non) := zY (by simp [List.getD, h])
theorem mem_getD {B : List D} {j : Nat} (h : j < B.length) : B.getD j .non ∈ B := by
 simp only [List.getD, List.getElem?_eq_getElem h, Option.getD_some]
 exact List.getElem_mem h
theorem cell_ok (ns : List Int) (k : Int) (h0 : 0 ≤ k) (hk : k ≤ 1000) : ∃ v : Int, m'cell [.scr ns, .int k] = some (.int v) := by
 suffices h : Wo (m'cell [.scr ns, .int k]) fun d => ∃ v : Int, d = .int v by
  obtain ⟨d, e, v, rfl⟩ := h
  exact ⟨v, e⟩
 unfold m'cell b'cell
 rw [wo_def]
 refine ⟨rfl, ?_⟩
 simp only [startD, zMap, zLen, List.replicate, zApp, Nat.zero_add, Nat.reduceAdd, Nat.reduceSub]
 have el : ∀ ρ : Ev, ρ[0]?.join = some (.scr ns) → fA gLen (zl true (zd 0)) ρ = some (.int (ns.length : Nat)) := fun ρ h => by
  rw [fA_, fSeq_, show zd 0 ρ = some (.scr ns) from h, oB]
  show gLen (ns.map D.int) = _
  rw [gLen_, List.length_map]
 have tail : ∀ v : Int, Wo (zO (mSet 2 (f2 dMod (f2 dMul (zd 2) (zd 2)) (fC (.int 2147483629)))) (mRet (f2 dMod (f2 dMul (f2 dAdd (zd 2) (fC (.int 11))) (f2 dAdd (zd 2) (fC (.int 3)))) (fC (.int 2147483587)))) [some (.scr ns), some (.int k), some (.int v)]) (Back fun d => ∃ v : Int, d = .int v) ∨ ¬ (-(2 ^ 64) < v ∧ v < 2 ^ 64) := fun v => by
  by_cases hv : -(2 ^ 64) < v ∧ v < 2 ^ 64
  ·left
   rw [zF]
   refine set_ (f2v (f2v rfl rfl (dMul_s (mulS hv.1 hv.2))) rfl (Ze (by decide))) ?_
   simp only [zSet, zu]
   have m0 := Int.emod_nonneg (v * v) (show (2147483629 : Int) ≠ 0 by decide)
   have m1 := Int.emod_lt_of_pos (v * v) (show (0 : Int) < 2147483629 by decide)
   exact ret_ (f2v (f2v (f2v rfl rfl rfl) (f2v rfl rfl rfl) (dMul_s (mulS (by omega) (by omega)))) rfl (Ze (by decide))) ⟨_, rfl⟩
  ·exact .inr hv
 by_cases hlt : k < (ns.length : Nat)
 ·rw [zF]
  refine if_t (zU (f2v rfl (el _ rfl) (by show some (D.bl (decide (k < ((ns.length : Nat) : Int)))) = _; rw [decide_eq_true hlt]))) ?_
  exact ret_T (fIxv (ds := ns.map .int) rfl rfl (atI_map h0 hlt)) ⟨_, rfl⟩
 ·rw [zF]
  refine if_f (zU (f2v rfl (el _ rfl) (by show some (D.bl (decide (k < ((ns.length : Nat) : Int)))) = _; rw [decide_eq_false hlt]))) ?_
  rw [mNext_, zL, zu, zF]
  refine set_ (f2v (f2v rfl rfl (dMul_s (mulS (by omega) (by omega)))) rfl rfl) ?_
  simp only [zSet, zu]
  rw [zF]
  by_cases hp : (0 : Int) < (ns.length : Nat)
  ·refine if_t (zU (f2v (el _ rfl) rfl (by rw [gt_, decide_eq_true hp]))) ?_
   have q0 := Int.emod_nonneg (k * 7) (show ((ns.length : Nat) : Int) ≠ 0 by omega)
   have q1 := Int.emod_lt_of_pos (k * 7) hp
   refine set_ (f2v (f2v (f2v (fIxv (ds := ns.map .int) rfl (f2v (f2v rfl rfl (dMul_s (mulS (by omega) (by omega)))) (el _ rfl) (Ze hp)) (atI_map q0 q1)) rfl (dMul_s (mulT (by decide) (by decide)))) (f2v rfl rfl (dMul_s (mulS (by omega) (by omega)))) rfl) rfl (Ze (by decide))) ?_
   simp only [zSet, zu]
   refine (tail _).resolve_right fun z => z ?_
   have r0 := Int.emod_nonneg (ns.getD (k * 7 % ((ns.length : Nat) : Int)).toNat 0 * 48271 + k * 7919) (show (2147483647 : Int) ≠ 0 by decide)
   have r1 := Int.emod_lt_of_pos (ns.getD (k * 7 % ((ns.length : Nat) : Int)).toNat 0 * 48271 + k * 7919) (show (0 : Int) < 2147483647 by decide)
   exact ⟨by omega, by omega⟩
  ·refine if_f (zU (f2v (el _ rfl) rfl (by rw [gt_, decide_eq_false hp]))) ?_
   rw [mNext_, zL, zu]
   exact (tail _).resolve_right fun z => z ⟨by omega, by omega⟩
theorem at_mod {L : List D} {c : Int} (h : 0 < L.length) : ∃ d ∈ L, atI L (c % (L.length : Nat)) = some d := by
 have h0 := Int.emod_nonneg c (show ((L.length : Nat) : Int) ≠ 0 by omega)
 have h1 := Int.emod_lt_of_pos c (show (0 : Int) < (L.length : Nat) by omega)
 obtain ⟨j, hj⟩ : ∃ j : Nat, c % (L.length : Nat) = (j : Nat) := ⟨(c % (L.length : Nat)).toNat, by omega⟩
 have hl : j < L.length := by omega
 exact ⟨L.getD j .non, mem_getD hl, by rw [hj]; exact atB hl⟩
theorem ns_small : ∀ x ∈ ([0, 1, 0, -1, 1, 2, 0, 3, -2] : List Int), x.natAbs ≤ 3 := by decide
theorem line_ok (c : Int) {many : Nat} (hm : many ≤ 6) : ∃ ns : List Int, m'line [.int c, .int (many : Nat)] = some (.tup (ns.map .int)) ∧ ns.length = many + 1 ∧ ∀ x ∈ ns, x.natAbs ≤ 2000000 := by
 suffices h : Wo (m'line [.int c, .int (many : Nat)]) fun d => ∃ ns : List Int, d = .tup (ns.map .int) ∧ ns.length = many + 1 ∧ ∀ x ∈ ns, x.natAbs ≤ 2000000 by
  obtain ⟨d, e, ns, rfl, q⟩ := h
  exact ⟨ns, e, q⟩
 unfold m'line b'line
 rw [wo_def]
 refine ⟨rfl, ?_⟩
 simp only [startD, zMap, zLen, List.replicate, zApp, Nat.zero_add, Nat.reduceAdd, Nat.reduceSub]
 rw [zF]
 refine new_ nilv (by simp) ?_
 simp only [zSet, zu]
 rw [zF, mFor_, rng1v (n := many + 1) (f2v rfl rfl rfl) (by omega), oB]
 refine wo_for (fun i ρ => ∃ (ns : List Int) (a b e : Option D), ρ = [some (.int c), some (.int (many : Nat)), some (.lst (ns.map .int)), a, b, e] ∧ ns.length = i ∧ ∀ x ∈ ns, x.natAbs ≤ 2000000) ⟨[], _, _, _, rfl, rfl, fun x hx => by cases hx⟩ ?_ ?_
 ·rintro i d ρ hd ⟨ns, a, b, e, rfl, hl, hb⟩
  obtain ⟨hi, rfl⟩ := rangeD_get hd
  rw [Int.zero_add, uName_, zL]
  simp only [zSet]
  have hii : ((i : Nat) : Int) * (i : Nat) = ((i * i : Nat) : Int) := by rw [Int.natCast_mul]
  have hpos : (0 : Int) ≤ (i : Nat) * (i : Nat) := by rw [hii]; omega
  rw [zF]
  refine set_ (f2v (f2v (f2v (f2v rfl (f2v (f2v rfl rfl (dMul_s (mulS (by omega) (by omega)))) rfl add_) (dDivP_s (show (i : Nat) * (i : Nat) + 3 ≠ (0 : Int) by omega))) rfl (dMul_s (mulT (by decide) (by decide)))) (f2v rfl rfl (dMul_s (mulS (by omega) (by omega)))) add_) rfl (Ze (by decide))) ?_
  simp only [zSet, zu]
  generalize (c.fdiv ((i : Nat) * (i : Nat) + 3) * 48271 + (i : Nat) * 69621) % 2147483647 = v
  have q0 := Int.emod_nonneg v (show (9 : Int) ≠ 0 by decide)
  have q1 := Int.emod_lt_of_pos v (show (0 : Int) < 9 by decide)
  rw [zF]
  refine set_ (d := .int (([0, 1, 0, -1, 1, 2, 0, 3, -2] : List Int).getD (v % 9).toNat 0)) (fIxv (ds := ([0, 1, 0, -1, 1, 2, 0, 3, -2] : List Int).map .int) rfl (f2v rfl rfl (Ze (by decide))) (atI_map q0 q1)) ?_
  simp only [zSet, zu]
  have hx0 : (([0, 1, 0, -1, 1, 2, 0, 3, -2] : List Int).getD (v % 9).toNat 0).natAbs ≤ 3 := by
   refine ns_small _ ?_
   have hlt : (v % 9).toNat < 9 := by omega
   simp only [List.getD]
   rw [List.getElem?_eq_getElem (by simpa using hlt), Option.getD_some]
   exact List.getElem_mem _
  generalize (([0, 1, 0, -1, 1, 2, 0, 3, -2] : List Int).getD (v % 9).toNat 0) = x0 at hx0
  have fin : ∀ x : Int, x.natAbs ≤ 2000000 → Wo (mUpd 2 zS (zd 5) [some (.int c), some (.int (many : Nat)), some (.lst (ns.map .int)), some (.int (i : Nat)), some (.int v), some (.int x)]) fun o => match o with
    | .nx ρ2 => ∃ (ns : List Int) (a b e : Option D), ρ2 = [some (.int c), some (.int (many : Nat)), some (.lst (ns.map .int)), a, b, e] ∧ ns.length = i + 1 ∧ ∀ x ∈ ns, x.natAbs ≤ 2000000
    | .ct ρ2 => ∃ (ns : List Int) (a b e : Option D), ρ2 = [some (.int c), some (.int (many : Nat)), some (.lst (ns.map .int)), a, b, e] ∧ ns.length = i + 1 ∧ ∀ x ∈ ns, x.natAbs ≤ 2000000
    | .bk ρ2 => Then (mRet (fA gTuple (zl true (zd 2)))) (Back fun d => ∃ ns : List Int, d = .tup (ns.map .int) ∧ ns.length = many + 1 ∧ ∀ x ∈ ns, x.natAbs ≤ 2000000) (.nx ρ2)
    | .rt r => Then (mRet (fA gTuple (zl true (zd 2)))) (Back fun d => ∃ ns : List Int, d = .tup (ns.map .int) ∧ ns.length = many + 1 ∧ ∀ x ∈ ns, x.natAbs ≤ 2000000) (.rt r) := fun x hx => by
   refine upd_ (d := .int x) rfl rfl (lAppend_ (size_lt (by rw [List.length_map]; omega))) ?_
   simp only [zSet]
   refine ⟨ns ++ [x], _, _, _, by rw [List.map_append]; rfl, by simp [hl], fun y hy => ?_⟩
   rcases List.mem_append.mp hy with hy | hy
   ·exact hb y hy
   ·rw [List.mem_singleton.mp hy]; exact hx
  rw [zF]
  refine if_b (zU (f2v (f2v (f2v rfl rfl (dDiv_s (by decide) (by decide))) rfl (Ze (by decide))) rfl dEqS_)) (fun _ => ?_) (fun _ => ?_)
  ·rw [zF]
   have w0 := Int.emod_nonneg (v / 540) (show (1999999 : Int) ≠ 0 by decide)
   have w1 := Int.emod_lt_of_pos (v / 540) (show (0 : Int) < 1999999 by decide)
   refine set_ (f2v (f2v (f2v rfl rfl (dDiv_s (by decide) (by decide))) rfl (Ze (by decide))) rfl sub_) ?_
   simp only [zSet, zu]
   refine if_b (zU (f2v rfl rfl gt_)) (fun _ => ?_) (fun _ => ?_)
   ·have u0 := Int.emod_nonneg (v / 540 % 1999999 - 999999) (show (19 : Int) ≠ 0 by decide)
    have u1 := Int.emod_lt_of_pos (v / 540 % 1999999 - 999999) (show (0 : Int) < 19 by decide)
    refine set_ (f2v (f2v rfl rfl (Ze (by decide))) rfl sub_) ?_
    simp only [zSet, zu]
    exact fin _ (by omega)
   ·rw [mNext_, zL, zu]
    exact fin _ (by omega)
  ·rw [mNext_, zL, zu]
   exact fin _ (by omega)
 ·rintro ρ ⟨ns, a, b, e, rfl, hl, hb⟩
  rw [rangeD_length] at hl
  rw [zu]
  exact ret_ (tupL rfl) ⟨ns, rfl, hl, hb⟩
theorem wts_ints : ∀ ns : List Int, wts (ns.map .int) = 9 * ns.length
 | [] => by simp [wts]
 | n :: ns => by rw [List.map_cons, wts, wts_ints ns, wt, List.length_cons]; omega; all_goals (intros; simp_all)
theorem wt_tup {ds : List D} : wt (.tup ds) = wts ds := by rw [wt]
theorem wt_lst {ds : List D} : wt (.lst ds) = wts ds := by rw [wt]
theorem wt_int {i : Int} : wt (.int i) = 8 := by simp [wt]
theorem wt_str {x : Str} : wt (.str x) = 8 := by simp [wt]
theorem ne_nil {xs : List D} (h : pyOk (.lst xs) = true) : dNeD (.lst xs) (.lst []) = some (.bl (!xs.isEmpty)) := by
 unfold dNeD
 rw [if_pos ⟨h, by decide⟩]
 unfold eqD
 cases xs with
 | nil => rw [Zc, zZ, PyData.eqv]; simp [PyData.eqvAll]
 | cons a t => rw [Zc, zZ, Zc, zZ, PyData.eqv]; simp [PyData.eqvAll]
open RW (Py Fi Sc wt wts names wts_app)
mutual
def nd : D → Nat
 | .tup ds => 1 + nds ds
 | .lst ds => nds ds
 | _ => 0
def nds : List D → Nat
 | [] => 0
 | d :: ds => nd d + nds ds
end
theorem nd_tup {ds : List D} : nd (.tup ds) = 1 + nds ds := by rw [nd]
theorem nd_lst {ds : List D} : nd (.lst ds) = nds ds := by rw [nd]
theorem nd_int {i : Int} : nd (.int i) = 0 := by simp [nd]
theorem nd_str {x : Str} : nd (.str x) = 0 := by simp [nd]
theorem nds_app : ∀ a b : List D, nds (a ++ b) = nds a + nds b
 | [], b => by rw [List.nil_append, nds]; omega
 | d :: a, b => by rw [List.cons_append, nds, nds, nds_app a b]; omega
theorem nds_ints : ∀ ns : List Int, nds (ns.map .int) = 0
 | [] => by simp [nds]
 | n :: ns => by rw [List.map_cons, nds, nds_ints ns, nd_int]
abbrev r0 : Nat → Nat := fun _ => 0
def RowT (nb f : Nat) (d : D) : Prop := ∃ t : Rq, d = t.toD ∧ t.ok nb ∧ t.lat f ∧ t.rk r0 ≤ 1 ∧ Fi 3 d ∧ (wt d ≤ 150 ∧ nd d ≤ 2) ∧ ((t = .loop [] ∨ t = .either [] []) ∨ (∃ k, t = .call k) ∨ ∃ x ps, t = .one x ps)
def pairD (p : Nat × Int) : D := .tup [.int (p.1 : Nat), .int p.2]
def latD (later : List (Nat × Int)) : D := .lst (later.map pairD)
structure LatOk (nb f : Nat) (later : List (Nat × Int)) : Prop where
 few : later.length ≤ 4
 few2 : nb ≤ 4
 mem : ∀ p ∈ later, f ≤ p.1 ∧ p.1 < nb
theorem lat_py (later : List (Nat × Int)) : pyOk (latD later) = true := by
 have h : Py 2 (latD later) := .lst fun d hd => by
  obtain ⟨p, hp, rfl⟩ := List.mem_map.mp hd
  refine Py.tup (n := 0) fun e he => ?_
  simp only [List.mem_cons, List.not_mem_nil, or_false] at he
  rcases he with rfl | rfl <;> exact .int _ _
 unfold pyOk SeqAt.shaped
 rw [h.1, decide_eq_true (Nat.le_trans h.2 (by omega))]; rfl
theorem toD_one (x : Str) (ps : List D) : (Rq.one x ps).toD = .tup (.str x :: ps) := by rw [Rq.toD]
theorem toD_call (k : Nat) : (Rq.call k).toD = .tup [.str "call", .int (k : Nat)] := by rw [Rq.toD]
theorem toD_loop (a : List Rq) : (Rq.loop a).toD = .tup [.str "loop", .lst (qDs a)] := by rw [Rq.toD]
theorem Zh (a b : List Rq) : (Rq.either a b).toD = .tup [.str "either", .lst (qDs a), .lst (qDs b)] := by rw [Rq.toD]
theorem fi_tup {n : Nat} {ds : List D} (h : ∀ r ∈ ds, Fi n r) : Fi (n + 1) (.tup ds) := .inr ⟨ds, .inl rfl, h⟩
theorem fi_lst {n : Nat} {ds : List D} (h : ∀ r ∈ ds, Fi n r) : Fi (n + 1) (.lst ds) := .inr ⟨ds, .inr rfl, h⟩
theorem row_one {nb f : Nat} {x : Str} {ps : List D} (hx : x ≠ "call" ∧ x ≠ "loop" ∧ x ≠ "either") (hn : names.contains x = true) (hp : ps.length ≤ 10) (hl : ∀ p ∈ ps, Lf p = true) (hf : ∀ p ∈ ps, Fi 2 p) (hw : wt (.tup (.str x :: ps)) ≤ 150) (hn2 : nds ps ≤ 1) : RowT nb f (.tup (.str x :: ps)) := by
 have hfi : Fi 3 (.tup (.str x :: ps)) := fi_tup fun r hr => by
  rcases List.mem_cons.mp hr with rfl | hr
  ·exact .str hn _
  ·exact hf r hr
 exact ⟨.one x ps, (toD_one x ps).symm, by rw [Rq.ok]; exact ⟨hx, hp, hl, hfi.pyd.mono (by omega)⟩, by rw [Rq.lat]; trivial, by rw [Rq.rk]; omega, hfi, ⟨hw, by rw [nd_tup, nds, nd_str]; omega⟩, .inr (.inr ⟨_, _, rfl⟩)⟩
theorem row_call {nb f k : Nat} (h1 : f ≤ k) (h2 : k < nb) (hnb : nb ≤ 4) : RowT nb f (.tup [.str "call", .int (k : Nat)]) :=
 ⟨.call k, (toD_call k).symm, by rw [Rq.ok]; exact h2, by rw [Rq.lat]; exact h1, by rw [Rq.rk]; exact Nat.le_refl 1, fi_tup fun r hr => by
  simp only [List.mem_cons, List.not_mem_nil, or_false] at hr
  rcases hr with rfl | rfl
  ·exact .str (by decide) _
  ·exact .int (Nat.le_trans (m := 10) (by omega) (by decide)) _, ⟨by simp only [wt_tup, wts, wt_str, wt_int]; omega, by simp only [nd_tup, nds, nd_str, nd_int]; omega⟩, .inr (.inl ⟨_, rfl⟩)⟩
theorem fi_nil (n : Nat) : Fi (n + 1) (.lst []) := fi_lst fun r hr => by cases hr
theorem row_loop {nb f : Nat} : RowT nb f (.tup [.str "loop", .lst []]) :=
 ⟨.loop [], by rw [toD_loop, qDs], by rw [Rq.ok, oks]; exact ⟨trivial, by simp⟩, by rw [Rq.lat, lats]; trivial, by rw [Rq.rk, rks]; omega, fi_tup fun r hr => by
  simp only [List.mem_cons, List.not_mem_nil, or_false] at hr
  rcases hr with rfl | rfl
  ·exact .str (by decide) _
  ·exact fi_nil 1, ⟨by simp only [wt_tup, wts, wt_str, wt_lst]; omega, by simp only [nd_tup, nds, nd_str, nd_lst]; omega⟩, .inl (.inl rfl)⟩
theorem row_either {nb f : Nat} : RowT nb f (.tup [.str "either", .lst [], .lst []]) :=
 ⟨.either [] [], by rw [Zh, qDs], by rw [Rq.ok, oks]; exact ⟨⟨trivial, by simp⟩, trivial, by simp⟩, by rw [Rq.lat, lats]; exact ⟨trivial, trivial⟩, by rw [Rq.rk, rks]; omega, fi_tup fun r hr => by
  simp only [List.mem_cons, List.not_mem_nil, or_false] at hr
  rcases hr with rfl | rfl | rfl
  ·exact .str (by decide) _
  ·exact fi_nil 1
  ·exact fi_nil 1, ⟨by simp only [wt_tup, wts, wt_str, wt_lst]; omega, by simp only [nd_tup, nds, nd_str, nd_lst]; omega⟩, .inl (.inr rfl)⟩
theorem lenv {f : Ev → Option D} {ρ : Ev} {ds : List D} (h : f ρ = some (.lst ds)) : fA gLen (zl true f) ρ = some (.int (ds.length : Nat)) := by rw [fA_, seqL h, oB, gLen_]
theorem deed_ok (c : Int) {many nb f : Nat} (hm : many ≤ 6) {later : List (Nat × Int)} (hl : LatOk nb f later) : ∃ d, m'deed [.int c, .int (many : Nat), latD later] = some d ∧ RowT nb f d := by
 suffices h : Wo (m'deed [.int c, .int (many : Nat), latD later]) (RowT nb f) by
  obtain ⟨d, e, q⟩ := h
  exact ⟨d, e, q⟩
 unfold m'deed b'deed
 rw [wo_def]
 refine ⟨rfl, ?_⟩
 simp only [startD, zMap, zLen, List.replicate, zApp, Nat.zero_add, Nat.reduceAdd, Nat.reduceSub]
 rw [zF]
 refine set_ (f2v (f2v rfl rfl (dDiv_s (by decide) (by decide))) rfl (Ze (by decide))) ?_
 simp only [zSet, zu]
 generalize c / 8 % 13 = kd
 rw [zF]
 refine if_b (andc (zU (f2v rfl rfl gt_)) fun _ => zU (f2v rfl nilv (ne_nil (lat_py later)))) (fun e => ?_) (fun _ => ?_)
 ·simp only [Bool.and_eq_true, decide_eq_true_eq, Bool.not_eq_true', List.isEmpty_eq_false_iff, ne_eq, List.map_eq_nil_iff] at e
  have hpos : 0 < later.length := List.length_pos_iff.mpr e.2
  have ec : fComp 1 (zl true (zd 2)) (zD 5) fYes (fTup (ze (fC (.str "call")) (ze (fIx (zl false (zd 5)) (fC (.int 0))) zj))) [some (.int c), some (.int (many : Nat)), some (latD later), some (.int kd), none] = some (.lst (later.map fun p => .tup [.str "call", .int (p.1 : Nat)])) := by
   have := fcomp_pairs (k := 1) (fl := zl true (zd 2)) (u := zD 5) (c := fYes) (e := fTup (ze (fC (.str "call")) (ze (fIx (zl false (zd 5)) (fC (.int 0))) zj))) (ρ := [some (.int c), some (.int (many : Nat)), some (latD later), some (.int kd), none]) (later.map fun p => (pairD p, .tup [.str "call", .int (p.1 : Nat)])) (fun ρ => ∃ z : Option D, ρ = [some (.int c), some (.int (many : Nat)), some (latD later), some (.int kd), none, z])
    ((seqL (ds := later.map pairD) rfl).trans (by rw [List.map_map]; rfl)) (by rw [List.length_map]; have := hl.few; omega) ⟨none, rfl⟩ (by
     rintro p ρ hp ⟨z, rfl⟩
     obtain ⟨x, hx, rfl⟩ := List.mem_map.mp hp
     exact ⟨_, rfl, rfl, tup2v rfl (fIxv (seqT (zT rfl)) rfl (zY (j := 0) rfl)), _, rfl⟩)
   rw [this, List.map_map]
   rfl
  obtain ⟨d, hd, ed⟩ := at_mod (L := later.map fun p => .tup [.str "call", .int (p.1 : Nat)]) (c := c / 104) (by rw [List.length_map]; exact hpos)
  rw [List.length_map] at ed
  obtain ⟨p, hp, rfl⟩ := List.mem_map.mp hd
  refine ret_T (flatv (fIxv (seqL ec) (f2v (f2v rfl rfl (dDiv_s (by decide) (by decide))) (lenv (ds := later.map pairD) rfl) (by rw [List.length_map]; exact Ze (by omega))) ed) rfl) ?_
  exact row_call (hl.mem p hp).1 (hl.mem p hp).2 hl.few2
 ·rw [mNext_, zL, zu, zF]
  refine if_b (zU (f2v rfl rfl dEqS_)) (fun e => ?_) (fun _ => ?_)
  ·exact ret_T (tup3v rfl nilv nilv) row_either
  ·rw [mNext_, zL, zu, zF]
   refine if_b (zU (f2v rfl rfl dEqS_)) (fun e => ?_) (fun _ => ?_)
   ·exact ret_T (tup2v rfl nilv) row_loop
   ·rw [mNext_, zL, zu, zF]
    refine if_b (andc (zU (f2v rfl rfl dEqS_)) fun _ => zU (f2v (f2v (f2v rfl rfl (dDiv_s (by decide) (by decide))) rfl (Ze (by decide))) rfl dEqS_)) (fun e => ?_) (fun _ => ?_)
    ·exact ret_T (flatv (tup1_ rfl) rfl) (row_one (ps := []) (by decide) (by decide) (by simp) (fun p hp => by cases hp) (fun p hp => by cases hp) (by simp only [wt_tup, wts, wt_str]; omega) (by simp only [nds]; omega))
    ·rw [mNext_, zL, zu, zF]
     refine if_b (orv (zU (f2v rfl rfl dEqS_)) fun _ => zU (f2v rfl rfl dEqS_)) (fun e => ?_) (fun e => ?_)
     ·exact ret_T (flatv (tup1_ rfl) rfl) (row_one (ps := []) (by decide) (by decide) (by simp) (fun p hp => by cases hp) (fun p hp => by cases hp) (by simp only [wt_tup, wts, wt_str]; omega) (by simp only [nds]; omega))
     ·rw [mNext_, zL, zu, zF]
      simp only [Bool.or_eq_false_iff, decide_eq_false_iff_not] at e
      have hpos : (0 : Int) < (many : Nat) := by omega
      have q0 := Int.emod_nonneg (c / 104) (show ((many : Nat) : Int) ≠ 0 by omega)
      have q1 := Int.emod_lt_of_pos (c / 104) hpos
      refine set_ (f2v (f2v rfl rfl (dDiv_s (by decide) (by decide))) rfl (Ze hpos)) ?_
      simp only [zSet, zu]
      generalize c / 104 % ((many : Nat) : Int) = box at q0 q1
      have fb : Fi 2 (.int box) := .int (Nat.le_trans (m := 10) (by omega) (by decide)) _
      rw [zF]
      refine if_b (andc (zU (f2v rfl rfl gt_)) fun _ => zU (f2v rfl rfl lt_)) (fun _ => ?_) (fun _ => ?_)
      ·refine ret_T (flatv (tup2v rfl rfl) rfl) (row_one (ps := [.int box]) (by decide) (by decide) (by simp) (fun p hp => ?_) (fun p hp => ?_) (by simp only [wt_tup, wts, wt_str, wt_int]; omega) (by simp only [nds, nd_int]; omega))
       ·rw [List.mem_singleton.mp hp]; rfl
       ·rw [List.mem_singleton.mp hp]; exact fb
      ·rw [mNext_, zL, zu]
       obtain ⟨ns, el, hln, hx⟩ := line_ok (c / 13) hm
       refine ret_T (flatv (tup3v rfl rfl (fA2 (f2v rfl rfl (dDiv_s (by decide) (by decide))) rfl el)) (by simp [D.flat, flats, flats_ints])) (row_one (ps := [.int box, .tup (ns.map .int)]) (by decide) (by decide) (by simp) (fun p hp => ?_) (fun p hp => ?_) (by simp only [wt_tup, wts, wt_str, wt_int, wts_ints]; omega) (by simp only [nds, nd_int, nd_tup, nds_ints]; omega))
       ·simp only [List.mem_cons, List.not_mem_nil, or_false] at hp
        rcases hp with rfl | rfl <;> rfl
       ·simp only [List.mem_cons, List.not_mem_nil, or_false] at hp
        rcases hp with rfl | rfl
        ·exact fb
        ·refine fi_tup fun r hr => ?_
         obtain ⟨x, hx', rfl⟩ := List.mem_map.mp hr
         exact .int (Nat.le_trans (hx x hx') (by decide)) _
def Gq (nb f n : Nat) (d : D) : Prop := ∃ t : Rq, d = t.toD ∧ t.ok nb ∧ t.lat f ∧ t.rk r0 ≤ n ∧ Fi (2 * n + 3) d
section
variable {nb f : Nat}
theorem Gq.mono {n m : Nat} {d : D} (h : Gq nb f n d) (hm : n ≤ m) : Gq nb f m d := by
 obtain ⟨t, a, b, c, e, g⟩ := h
 exact ⟨t, a, b, c, by omega, g.mono (by omega)⟩
theorem RowT.gq {d : D} (h : RowT nb f d) {n : Nat} (hn : 1 ≤ n) : Gq nb f n d := by
 obtain ⟨t, a, b, c, e, g, _⟩ := h
 exact ⟨t, a, b, c, by omega, g.mono (by omega)⟩
theorem gq_list {n : Nat} : ∀ {ds : List D}, (∀ r ∈ ds, Gq nb f n r) → ∃ ts : List Rq, ds = qDs ts ∧ oks nb ts ∧ lats f ts ∧ rks r0 ts ≤ n ∧ ts.length = ds.length
 | [], _ => ⟨[], by rw [qDs], by rw [oks]; trivial, by rw [lats]; trivial, by rw [rks]; omega, rfl⟩
 | d :: ds, h => by
  obtain ⟨t, a, b, c, e, _⟩ := h d List.mem_cons_self
  obtain ⟨ts, a', b', c', e', l'⟩ := gq_list fun r hr => h r (List.mem_cons_of_mem _ hr)
  exact ⟨t :: ts, by rw [qDs, ← a, ← a'], by rw [oks]; exact ⟨b, b'⟩, by rw [lats]; exact ⟨c, c'⟩, by rw [rks]; omega, by simp [l']⟩
theorem gq_fi {n : Nat} {ds : List D} (h : ∀ r ∈ ds, Gq nb f n r) : Fi (2 * n + 4) (.lst ds) := fi_lst fun r hr => by obtain ⟨_, _, _, _, _, g⟩ := h r hr; exact g
theorem gq_loop {n : Nat} {ds : List D} (hl : ds.length ≤ 100) (h : ∀ r ∈ ds, Gq nb f n r) : Gq nb f (n + 1) (.tup [.str "loop", .lst ds]) := by
 obtain ⟨ts, rfl, b, c, e, l⟩ := gq_list h
 refine ⟨.loop ts, (toD_loop ts).symm, by rw [Rq.ok]; exact ⟨b, by omega⟩, by rw [Rq.lat]; exact c, by rw [Rq.rk]; omega, ?_⟩
 refine fi_tup (n := 2 * n + 4) fun r hr => ?_
 simp only [List.mem_cons, List.not_mem_nil, or_false] at hr
 rcases hr with rfl | rfl
 ·exact .str (by decide) _
 ·exact gq_fi h
theorem gq_either {n : Nat} {as bs : List D} (la : as.length ≤ 100) (ha : ∀ r ∈ as, Gq nb f n r) (lb : bs.length ≤ 100) (hb : ∀ r ∈ bs, Gq nb f n r) : Gq nb f (n + 1) (.tup [.str "either", .lst as, .lst bs]) := by
 obtain ⟨ts, rfl, b, c, e, l⟩ := gq_list ha
 obtain ⟨us, rfl, b', c', e', l'⟩ := gq_list hb
 refine ⟨.either ts us, (Zh ts us).symm, by rw [Rq.ok]; exact ⟨⟨b, by omega⟩, b', by omega⟩, by rw [Rq.lat]; exact ⟨c, c'⟩, by rw [Rq.rk]; omega, ?_⟩
 refine fi_tup (n := 2 * n + 4) fun r hr => ?_
 simp only [List.mem_cons, List.not_mem_nil, or_false] at hr
 rcases hr with rfl | rfl | rfl
 ·exact .str (by decide) _
 ·exact gq_fi ha
 ·exact gq_fi hb
def FrOk (nb f m n : Nat) (fr : Fr) : Prop := (fr.x = "loop" ∧ fr.pre = [] ∧ fr.post = []) ∨ (fr.x = "either" ∧ fr.pre = [] ∧ fr.post = [.lst []]) ∨ (fr.x = "either" ∧ fr.post = [] ∧ ∃ a, fr.pre = [.lst a] ∧ a.length ≤ m ∧ ∀ r ∈ a, Gq nb f n r)
def Fq (nb f dp m : Nat) : Nat → List Fr → Prop
 | n, [] => n = dp
 | n, fr :: fs => FrOk nb f m n fr ∧ fr.done.length + 1 ≤ m ∧ (∀ r ∈ fr.done, Gq nb f (n + 1) r) ∧ Fq nb f dp m (n + 1) fs
structure Zt (nb f dp m n : Nat) (top : List D) (fs : List Fr) : Prop where
 len : top.length ≤ m
 gq : ∀ r ∈ top, Gq nb f n r
 pos : 1 ≤ n
 fq : Fq nb f dp m n fs
variable {dp : Nat}
theorem FrOk.up {m n : Nat} {fr : Fr} (h : FrOk nb f m n fr) : FrOk nb f (m + 1) n fr := by
 rcases h with h | h | ⟨h1, h2, a, h3, h4, h5⟩
 ·exact .inl h
 ·exact .inr (.inl h)
 ·exact .inr (.inr ⟨h1, h2, a, h3, by omega, h5⟩)
theorem Fq.up {m : Nat} : ∀ {n : Nat} {fs : List Fr}, Fq nb f dp m n fs → Fq nb f dp (m + 1) n fs
 | n, [], h => h
 | n, fr :: fs, ⟨a, b, c, d⟩ => ⟨a.up, by omega, c, d.up⟩
theorem Fq.sum {m : Nat} : ∀ {n : Nat} {fs : List Fr}, Fq nb f dp m n fs → n + fs.length = dp
 | n, [], h => h
 | n, fr :: fs, ⟨_, _, _, d⟩ => by have := d.sum; simp only [List.length_cons]; omega
theorem Zt.up {m n : Nat} {top : List D} {fs : List Fr} (z : Zt nb f dp m n top fs) : Zt nb f dp (m + 1) n top fs := ⟨Nat.le_succ_of_le z.len, z.gq, z.pos, z.fq.up⟩
theorem Zt.row {m n : Nat} {top : List D} {fr : Fr} {fs : List Fr} (z : Zt nb f dp m n top (fr :: fs)) (hm : m ≤ 100) : Zt nb f dp m (n + 1) (shut fr top) fs := by
 obtain ⟨a, b, c, d⟩ := z.fq
 refine ⟨?_, fun r hr => ?_, by omega, d⟩
 ·unfold shut; rw [List.length_append]; simp only [List.length_cons, List.length_nil]; omega
 ·unfold shut at hr
  rcases List.mem_append.mp hr with hr | hr
  ·exact c r hr
  ·rw [List.mem_singleton.mp hr]
   have hl := z.len
   rcases a with ⟨h1, h2, h3⟩ | ⟨h1, h2, h3⟩ | ⟨h1, h2, e, h3, h4, h5⟩
   ·rw [h1, h2, h3]; exact gq_loop (by omega) z.gq
   ·rw [h1, h2, h3]; exact gq_either (by omega) z.gq (by simp) fun r hr => by cases hr
   ·rw [h1, h2, h3]; exact gq_either (by omega) h5 (by omega) z.gq
theorem Zt.shut {m : Nat} (hm : m ≤ 100) : ∀ {fs : List Fr} {n : Nat} {top : List D}, Zt nb f dp m n top fs → (close top fs).length ≤ m ∧ ∀ r ∈ close top fs, Gq nb f dp r
 | [], n, top, z => by
  have e : n = dp := z.fq
  subst e
  exact ⟨z.len, z.gq⟩
 | fr :: fs, n, top, z => by rw [close]; exact Zt.shut hm (z.row hm)
theorem wts_close : ∀ (fs : List Fr) (top : List D), wts (close top fs) = wts top + wts (close [] fs)
 | [], top => by rw [close, close]; simp only [wts]; omega
 | fr :: fs, top => by
  rw [close, close, wts_close fs (M.shut fr top), wts_close fs (M.shut fr [])]
  unfold M.shut
  simp only [wts_app, wts, wt_tup, wt_lst]
  omega
theorem nds_close : ∀ (fs : List Fr) (top : List D), nds (close top fs) = nds top + nds (close [] fs)
 | [], top => by rw [close, close]; simp only [nds]; omega
 | fr :: fs, top => by
  rw [close, close, nds_close fs (M.shut fr top), nds_close fs (M.shut fr [])]
  unfold M.shut
  simp only [nds_app, nds, nd_tup, nd_lst]
  omega
theorem inV2 {x : Str} (h1 : x ≠ "either") (h2 : x ≠ "loop") : inV (.str x) names2 = false := by
 unfold inV names2
 simp only [List.any_cons, List.any_nil, Bool.or_false, Bool.or_eq_false_iff]
 exact ⟨by simp [eqV]; exact fun e => h1 e.symm, by simp [eqV]; exact fun e => h2 e.symm⟩
theorem add_ok {m n : Nat} {top : List D} {fs : List Fr} {d : D} (z : Zt nb f dp m n top fs) (hd : RowT nb f d) (hm : m < 100) (hdp : dp ≤ 10) : ∃ top' fs' n', addQ (dp : Nat) d top fs = some (top', fs') ∧ Zt nb f dp (m + 1) n' top' fs' ∧ close top' fs' = close (top ++ [d]) fs := by
 have hg := hd.gq z.pos
 have hl := z.len
 have hs := z.fq.sum
 have zup : Zt nb f dp (m + 1) n (top ++ [d]) fs := ⟨by rw [List.length_append]; simp only [List.length_cons, List.length_nil]; omega, fun r hr => by
  rcases List.mem_append.mp hr with hr | hr
  ·exact z.gq r hr
  ·rw [List.mem_singleton.mp hr]; exact hg, z.pos, z.fq.up⟩
 have htop : top.length < sizeLine := size_lt (by omega)
 obtain ⟨t, rfl, ok, _, _, _, _, hk⟩ := hd
 have hn := z.pos
 have fit : ∀ {x : Str} {ps : List D}, FrOk nb f (m + 1) (n - 1) ⟨top, x, [], ps⟩ → ((fs.length + 1 : Nat) : Int) < (dp : Nat) → Zt nb f dp (m + 1) (n - 1) [] (⟨top, x, [], ps⟩ :: fs) := fun hF hlt =>
  ⟨by simp, fun r hr => (by cases hr), by omega, hF, by simp only; omega, fun r hr => by rw [show n - 1 + 1 = n by omega]; exact z.gq r hr, by rw [show n - 1 + 1 = n by omega]; exact z.fq.up⟩
 rcases hk with (rfl | rfl) | ⟨k, rfl⟩ | ⟨x, ps, rfl⟩
 ·rw [toD_loop, qDs] at zup ⊢
  unfold addQ
  simp only
  rw [if_pos ⟨htop, by omega, by simp⟩]
  by_cases ho : inV (.str "loop") names2 = true ∧ ((fs.length + 1 : Nat) : Int) < (dp : Nat)
  ·rw [if_pos ho, if_pos ⟨by simp, by simp⟩]
   exact ⟨_, _, n - 1, rfl, fit (.inl ⟨rfl, rfl, rfl⟩) ho.2, by rw [close]; rfl⟩
  ·rw [if_neg ho]
   exact ⟨_, _, n, rfl, zup, rfl⟩
 ·rw [Zh, qDs] at zup ⊢
  unfold addQ
  simp only
  rw [if_pos ⟨htop, by omega, by simp⟩]
  by_cases ho : inV (.str "either") names2 = true ∧ ((fs.length + 1 : Nat) : Int) < (dp : Nat)
  ·rw [if_pos ho, if_pos ⟨by simp, by simp⟩]
   exact ⟨_, _, n - 1, rfl, fit (.inr (.inl ⟨rfl, rfl, rfl⟩)) ho.2, by rw [close]; rfl⟩
  ·rw [if_neg ho]
   exact ⟨_, _, n, rfl, zup, rfl⟩
 ·rw [toD_call] at zup ⊢
  unfold addQ
  simp only
  rw [if_pos ⟨htop, by omega, by simp⟩, if_neg (fun h => by rw [inV2 (by decide) (by decide)] at h; cases h.1)]
  exact ⟨_, _, n, rfl, zup, rfl⟩
 ·rw [Rq.ok] at ok
  rw [toD_one] at zup ⊢
  unfold addQ
  simp only
  rw [if_pos ⟨htop, by omega, by omega⟩, if_neg (fun h => by rw [inV2 ok.1.2.2 ok.1.2.1] at h; cases h.1)]
  exact ⟨_, _, n, rfl, zup, rfl⟩
theorem pop_ok {m n : Nat} {top : List D} {fs : List Fr} (z : Zt nb f dp m n top fs) (hm : m ≤ 100) (hp : 0 < fs.length) : ∃ top' fs' n', popQ top fs = some (top', fs') ∧ Zt nb f dp m n' top' fs' ∧ close top' fs' = close top fs := by
 cases fs with
 | nil => simp at hp
 | cons fr fs =>
  obtain ⟨a, b, c, d⟩ := id z.fq
  rcases a with ⟨h1, h2, h3⟩ | ⟨h1, h2, h3⟩ | ⟨h1, h2, e, h3, h4, h5⟩
  ·refine ⟨_, _, n + 1, by rw [popQ, h3], z.row hm, by rw [close]⟩
  ·refine ⟨[], ⟨fr.done, fr.x, fr.pre ++ [.lst top], []⟩ :: fs, n, by rw [popQ, h3], ⟨by simp, fun r hr => (by cases hr), z.pos, .inr (.inr ⟨h1, rfl, top, by rw [h2]; rfl, z.len, z.gq⟩), b, c, d⟩, ?_⟩
   rw [close, close]
   unfold M.shut
   simp only
   rw [h2, h3]
   rfl
  ·refine ⟨_, _, n + 1, by rw [popQ, h2], z.row hm, by rw [close]⟩
def Draws (nb f : Nat) (ρ : Ev) (F c1 c2 : Ev → Option D) : Prop := ∀ (u c : Int), ∃ (d k1 : D) (k : Int), F ((evQ ρ u).set 8 (some (.int c))) = some d ∧ RowT nb f d ∧ c1 (((evQ ρ u).set 8 (some (.int c))).set 9 (some d)) = some k1 ∧ c2 ((((evQ ρ u).set 8 (some (.int c))).set 9 (some d)).set 10 (some k1)) = some (.int k)
theorem step_ok {ρ : Ev} {F c1 c2 : Ev → Option D} (hD : Draws nb f ρ F c1 c2) {m n : Nat} {top : List D} {fs : List Fr} {c u most : Int} (z : Zt nb f dp m n top fs) (hm : m < 100) (hdp : dp ≤ 10) : ∃ top' fs' n' u', stepQ (dp : Nat) most ρ F c1 c2 c top fs u = some ((top', fs'), u') ∧ Zt nb f dp (m + 1) n' top' fs' ∧ wts (close top' fs') ≤ wts (close top fs) + 151 ∧ nds (close top' fs') ≤ nds (close top fs) + 2 := by
 unfold stepQ
 by_cases hc : c % 8 = 0 ∧ 0 < fs.length
 ·rw [if_pos hc]
  obtain ⟨top', fs', n', e, z', hcl⟩ := pop_ok z (by omega) hc.2
  exact ⟨top', fs', n', u, by rw [e]; rfl, z'.up, by rw [hcl]; omega, by rw [hcl]; omega⟩
 ·rw [if_neg hc]
  obtain ⟨d, k1, k, e1, hd, e2, e3⟩ := hD u c
  have hr : isRowT d = true := by
   obtain ⟨t, rfl, _⟩ := hd
   cases t with
   | one x ps => rw [toD_one]; rfl
   | call k => rw [toD_call]; rfl
   | loop a => rw [toD_loop]; rfl
   | either a b => rw [Zh]; rfl
  rw [e1, oB, if_pos hr, e2, oB, e3, oB, asI_, oB]
  by_cases hu : u + k ≤ most
  ·rw [if_pos hu]
   obtain ⟨top', fs', n', e, z', hcl⟩ := add_ok z hd hm hdp
   obtain ⟨_, _, _, _, _, _, hw, _⟩ := hd
   refine ⟨top', fs', n', u + k, by rw [e]; rfl, z', ?_, ?_⟩
   ·rw [hcl, wts_close fs (top ++ [d]), wts_close fs top, wts_app]
    simp only [wts]
    omega
   ·rw [hcl, nds_close fs (top ++ [d]), nds_close fs top, nds_app]
    simp only [nds]
    omega
  ·rw [if_neg hu]
   exact ⟨top, fs, n, u, rfl, z.up, by omega, by omega⟩
theorem goQ_ok {ρ : Ev} {F c1 c2 : Ev → Option D} (hD : Draws nb f ρ F c1 c2) {most : Int} (hdp : dp ≤ 10) : ∀ (cs : List Int) (m n : Nat) (top : List D) (fs : List Fr) (u : Int), Zt nb f dp m n top fs → m + cs.length ≤ 100 → ∃ out u', goQ (dp : Nat) most ρ F c1 c2 cs top fs u = some (out, u') ∧ out.length ≤ m + cs.length ∧ (∀ r ∈ out, Gq nb f dp r) ∧ wts out ≤ wts (close top fs) + 151 * cs.length ∧ nds out ≤ nds (close top fs) + 2 * cs.length
 | [], m, n, top, fs, u, z, hm => by
  obtain ⟨h1, h2⟩ := z.shut (by simp at hm; omega)
  exact ⟨_, u, by rw [goQ], by simpa using h1, h2, by simp, by simp⟩
 | c :: cs, m, n, top, fs, u, z, hm => by
  simp only [List.length_cons] at hm
  obtain ⟨top', fs', n', u', e, z', hw, hn⟩ := step_ok (c := c) (u := u) (most := most) hD z (by omega) hdp
  obtain ⟨out, u2, e2, hl, hg, hw2, hn2⟩ := goQ_ok hD hdp cs (m + 1) n' top' fs' u' z' (by omega)
  refine ⟨out, u2, ?_, by simp only [List.length_cons]; omega, hg, by simp only [List.length_cons]; omega, by simp only [List.length_cons]; omega⟩
  rw [goQ, e, oB]
  exact e2
end
theorem eqD_ii (a b : Int) : ∃ w : Bool, dEqD (.int a) (.int b) = some (.bl w) := by
 have h : ∀ i : Int, pyOk (.int i) = true := fun i => by
  unfold pyOk SeqAt.shaped
  rw [(Py.int i 0).1, decide_eq_true (Nat.le_trans (Py.int i 0).2 (by omega))]; rfl
 exact ⟨_, by unfold dEqD; rw [if_pos ⟨h a, h b⟩]⟩
theorem cost_comp {nb f : Nat} {d : D} (hd : RowT nb f d) : ∀ (later : List (Nat × Int)) (ρ : Ev), ρ.length = 12 → ρ[9]? = some (some d) → ∃ vs : List Int, compD (zD 11) (fAnd (zC (f2 dEqS (fIx (zl false (zd 9)) (fC (.int 0))) (fC (.str "call")))) (zC (f2 dEqD (fIx (zl false (zd 11)) (fC (.int 0))) (fIx (zl false (zd 9)) (fC (.int 1)))))) (fIx (zl false (zd 11)) (fC (.int 1))) (later.map pairD) ρ = some (vs.map .int) ∧ vs.length ≤ later.length
 | [], ρ, _, _ => ⟨[], rfl, Nat.le_refl _⟩
 | p :: later, ρ, hl, h9 => by
  have l1 : (ρ.set 11 (some (pairD p))).length = 12 := by simpa using hl
  have h9' : (ρ.set 11 (some (pairD p)))[9]? = some (some d) := by rw [za (by decide)]; exact h9
  have h11 : (ρ.set 11 (some (pairD p)))[11]? = some (some (pairD p)) := zz (by omega)
  obtain ⟨vs, e, hv⟩ := cost_comp hd later _ l1 h9'
  have et : ∃ b, fAnd (zC (f2 dEqS (fIx (zl false (zd 9)) (fC (.int 0))) (fC (.str "call")))) (zC (f2 dEqD (fIx (zl false (zd 11)) (fC (.int 0))) (fIx (zl false (zd 9)) (fC (.int 1))))) (ρ.set 11 (some (pairD p))) = some b := by
   obtain ⟨t, rfl, ok, _, _, _, _, hk⟩ := hd
   rcases hk with (rfl | rfl) | ⟨k, rfl⟩ | ⟨x, ps, rfl⟩
   ·rw [toD_loop] at h9'
    exact ⟨_, andc (kno h9' (by decide)) (b := false) fun z => by cases z⟩
   ·rw [Zh] at h9'
    exact ⟨_, andc (kno h9' (by decide)) (b := false) fun z => by cases z⟩
   ·rw [toD_call] at h9'
    obtain ⟨w, ew⟩ := eqD_ii (p.1 : Nat) (k : Nat)
    exact ⟨_, andc (kis h9') fun _ => zU (f2v (fIxv (seqT (zT h11)) rfl (zY (j := 0) rfl)) (fIxv (seqT (zT h9')) rfl (zY (j := 1) rfl)) ew)⟩
   ·rw [Rq.ok] at ok
    rw [toD_one] at h9'
    exact ⟨_, andc (kno h9' ok.1.1) (b := false) fun z => by cases z⟩
  obtain ⟨b, eb⟩ := et
  rw [List.map_cons, compD, zD, oB, eb, oB]
  cases b with
  | true =>
   rw [if_pos rfl, fIxv (d := .int p.2) (seqT (zT h11)) rfl (zY (j := 1) rfl), oB, e]
   exact ⟨p.2 :: vs, rfl, by simp; omega⟩
  | false =>
   rw [if_neg (by simp), e]
   exact ⟨vs, rfl, by simp; omega⟩
theorem draws_ok {nb f many : Nat} (hm : many ≤ 6) {later : List (Nat × Int)} (hl : LatOk nb f later) (cells : D) (deep most : Int) : Draws nb f (startD 11 [cells, .int (many : Nat), latD later, .int deep, .int most]) (fA m'deed (ze (zd 8) (ze (zd 1) (ze (zd 2) zj)))) (fA gSum (zl true (fComp 1 (zl true (zd 2)) (zD 11) (fAnd (zC (f2 dEqS (fIx (zl false (zd 9)) (fC (.int 0))) (fC (.str "call")))) (zC (f2 dEqD (fIx (zl false (zd 11)) (fC (.int 0))) (fIx (zl false (zd 9)) (fC (.int 1)))))) (fIx (zl false (zd 11)) (fC (.int 1)))))) (f2 dAdd (zd 10) (fA gInt (ze (fFlat (f2 dNeS (fIx (zl false (zd 9)) (fC (.int 0))) (fC (.str "call")))) zj))) := by
 intro u c
 obtain ⟨d, ed, hd⟩ := deed_ok c hm hl
 obtain ⟨vs, ev, hv⟩ := cost_comp hd later ([some cells, some (.int (many : Nat)), some (latD later), some (.int deep), some (.int most), none, none, some (.int u), some (.int c), some d, none] ++ List.replicate 1 none) rfl rfl
 have en : ∃ b : Bool, f2 dNeS (fIx (zl false (zd 9)) (fC (.int 0))) (fC (.str "call")) [some cells, some (.int (many : Nat)), some (latD later), some (.int deep), some (.int most), none, none, some (.int u), some (.int c), some d, some (.int vs.sum)] = some (.bl b) := by
  obtain ⟨t, rfl, _⟩ := hd
  have key : ∀ (x : Str) (ps : List D), t.toD = .tup (.str x :: ps) → _ := fun x ps e => (⟨_, f2v (kind_ (x := x) (ps := ps) (by rw [e]; rfl)) rfl rfl⟩ : ∃ b : Bool, f2 dNeS (fIx (zl false (zd 9)) (fC (.int 0))) (fC (.str "call")) [some cells, some (.int (many : Nat)), some (latD later), some (.int deep), some (.int most), none, none, some (.int u), some (.int c), some t.toD, some (.int vs.sum)] = some (.bl b))
  cases t with
  | one x ps => exact key _ _ (toD_one x ps)
  | call k => exact key _ _ (toD_call k)
  | loop a => exact key _ _ (toD_loop a)
  | either a b => exact key _ _ (Zh a b)
 obtain ⟨b, eb⟩ := en
 refine ⟨d, .int vs.sum, vs.sum + (if b then 1 else 0), fA3 rfl rfl rfl ed, hd, ?_, ?_⟩
 ·show fA gSum _ [some cells, some (.int (many : Nat)), some (latD later), some (.int deep), some (.int most), none, none, some (.int u), some (.int c), some d, none] = _
  have hfew := hl.few
  have ec : fComp 1 (zl true (zd 2)) (zD 11) (fAnd (zC (f2 dEqS (fIx (zl false (zd 9)) (fC (.int 0))) (fC (.str "call")))) (zC (f2 dEqD (fIx (zl false (zd 11)) (fC (.int 0))) (fIx (zl false (zd 9)) (fC (.int 1)))))) (fIx (zl false (zd 11)) (fC (.int 1))) [some cells, some (.int (many : Nat)), some (latD later), some (.int deep), some (.int most), none, none, some (.int u), some (.int c), some d, none] = some (.lst (vs.map .int)) := by
   rw [fComp_, seqL (ds := later.map pairD) rfl, oB, ev, oB]
   exact dLst_ (size_of (by rw [List.length_map]; omega))
  rw [fA_, seqL ec, oB]
  exact gSum_
 ·exact f2v (x := .int vs.sum) (y := .int (if b then 1 else 0)) rfl (fA1 (flatv eb rfl) rfl) rfl
theorem body_ok {nb f many dp : Nat} (hm : many ≤ 6) {later : List (Nat × Int)} (hl : LatOk nb f later) {cs : List Int} (hc : cs.length ≤ 20) (hd1 : 1 ≤ dp) (hd2 : dp ≤ 10) (most : Int) : ∃ (out : List D) (u : Int), m'body [.lst (cs.map .int), .int (many : Nat), latD later, .int (dp : Nat), .int most] = some (.tup [.lst out, .int u]) ∧ out.length ≤ 20 ∧ (∀ r ∈ out, Gq nb f dp r) ∧ wts out ≤ 151 * cs.length ∧ nds out ≤ 2 * cs.length := by
 obtain ⟨out, u, e, h1, h2, h3, h4⟩ := goQ_ok (draws_ok hm hl (.lst (cs.map .int)) (dp : Nat) most) (most := most) hd2 cs 0 dp [] [] 0 ⟨by simp, fun r hr => (by cases hr), hd1, rfl⟩ (by omega)
 refine ⟨out, u, ?_, by omega, h2, by simpa [close, wts] using h3, by simpa [close, nds] using h4⟩
 refine mDef_ rfl ?_
 unfold b'body mB15
 show Option.bind (intsD (cs.map .int)) _ = _
 rw [intsD_map, oB]
 show Option.bind (some ((dp : Nat) : Int)) _ = _
 rw [oB]
 show Option.bind (some most) _ = _
 rw [oB, if_pos (by rfl), e]
 rfl
theorem fA5 {ρ : Ev} {fa fb fc fd fe : Ev → Option D} {x y z t w d : D} {g : List D → Option D} (h1 : fa ρ = some x) (h2 : fb ρ = some y) (h3 : fc ρ = some z) (h4 : fd ρ = some t) (h5 : fe ρ = some w) (e : g [x, y, z, t, w] = some d) : fA g (ze fa (ze fb (ze fc (ze fd (ze fe zj))))) ρ = some d := by
 rw [fA_, fCons_, h1, oB, fCons_, h2, oB, fCons_, h3, oB, fCons_, h4, oB, fCons_, h5]; exact e
def hb (n k : Nat) : Nat := if k = 0 then 3 else 2
structure BodG (n k : Nat) (ds : List D) : Prop where
 len : ds.length ≤ 20
 gq : ∀ r ∈ ds, Gq n (k + 1) (hb n k) r
 wt : wts ds ≤ 2500
 nd : nds ds ≤ if k = 0 then 40 else 8
theorem prog_ok (ns : List Int) {at_ many : Nat} (ha : at_ ≤ 100) (hm : many ≤ 6) (most : Int) : ∃ L : List (List D), m'program [.scr ns, .int (at_ : Nat), .int (many : Nat), .int most] = some (.tup [.int (many : Nat), .lst (L.map .lst)]) ∧ 1 ≤ L.length ∧ L.length ≤ 4 ∧ ∀ k, k < L.length → BodG L.length k (L.getD k []) := by
 suffices h : Wo (m'program [.scr ns, .int (at_ : Nat), .int (many : Nat), .int most]) fun d => ∃ L : List (List D), d = .tup [.int (many : Nat), .lst (L.map .lst)] ∧ 1 ≤ L.length ∧ L.length ≤ 4 ∧ ∀ k, k < L.length → BodG L.length k (L.getD k []) by
  obtain ⟨d, e, L, rfl, q⟩ := h
  exact ⟨L, e, q⟩
 unfold m'program b'program
 rw [wo_def]
 refine ⟨rfl, ?_⟩
 simp only [startD, zMap, zLen, List.replicate, zApp, Nat.zero_add, Nat.reduceAdd, Nat.reduceSub]
 obtain ⟨v0, e0⟩ := cell_ok ns (at_ : Nat) (by omega) (by omega)
 have p0 := Int.emod_nonneg v0 (show (4 : Int) ≠ 0 by decide)
 have p1 := Int.emod_lt_of_pos v0 (show (0 : Int) < 4 by decide)
 obtain ⟨n, hn⟩ : ∃ n : Nat, 1 + v0 % 4 = n := ⟨(1 + v0 % 4).toNat, by omega⟩
 have n1 : 1 ≤ n := by omega
 have n4 : n ≤ 4 := by omega
 rw [zF]
 refine set_ nilv ?_
 simp only [zSet, zu]
 rw [zF]
 refine set_ nilv ?_
 simp only [zSet, zu]
 rw [zF]
 refine set_ (d := .int (n : Nat)) (f2v rfl (f2v (fA2 rfl rfl e0) rfl (Ze (by decide))) (add_.trans (by rw [hn]))) ?_
 simp only [zSet, zu]
 have er : fRngD (f2 dSub (zd 6) (fC (.int 1))) (f1 dNeg (fC (.int 1))) [some (.scr ns), some (.int (at_ : Nat)), some (.int (many : Nat)), some (.int most), some (.lst []), some (.lst []), some (.int (n : Nat)), none, none, none, none, none, none, none] = some (rangeDn ((n : Int) - 1) n) := by
  unfold fRngD
  rw [show f2 dSub (zd 6) (fC (.int 1)) [some (.scr ns), some (.int (at_ : Nat)), some (.int (many : Nat)), some (.int most), some (.lst []), some (.lst []), some (.int (n : Nat)), none, none, none, none, none, none, none] = some (.int ((n : Int) - 1)) from rfl, oB, show f1 dNeg (fC (.int 1)) [some (.scr ns), some (.int (at_ : Nat)), some (.int (many : Nat)), some (.int most), some (.lst []), some (.lst []), some (.int (n : Nat)), none, none, none, none, none, none, none] = some (.int (-1)) from rfl, oB, asI_, oB, asI_, oB, if_pos (by omega)]
  congr 2
  omega
 rw [zF, mFor_, er, oB]
 refine wo_for (fun i ρ => i ≤ n ∧ ∃ (L : List (List D)) (later : List (Nat × Int)) (z7 z8 z9 z10 z11 z12 z13 : Option D), ρ = [some (.scr ns), some (.int (at_ : Nat)), some (.int (many : Nat)), some (.int most), some (.lst (L.map .lst)), some (latD later), some (.int (n : Nat)), z7, z8, z9, z10, z11, z12, z13] ∧ L.length = i ∧ later.length = i ∧ (∀ p ∈ later, n - i ≤ p.1 ∧ p.1 < n) ∧ ∀ t, t < i → BodG n (n - i + t) (L.getD t [])) ⟨Nat.zero_le _, [], [], _, _, _, _, _, _, _, rfl, rfl, rfl, fun p hp => (by cases hp), fun t ht => by omega⟩ ?_ ?_
 ·rintro i d ρ hd ⟨hi, L, later, z7, z8, z9, z10, z11, z12, z13, rfl, hL, hla, hmem, hG⟩
  obtain ⟨hin, rfl⟩ := rangeDn_get hd
  obtain ⟨k, hk⟩ : ∃ k : Nat, k = n - 1 - i := ⟨_, rfl⟩
  have ej : (n : Int) - 1 - (i : Nat) = ((k : Nat) : Int) := by omega
  rw [ej, uName_, zL]
  simp only [zSet]
  rw [zF]
  refine set_ rfl ?_
  simp only [zSet, zu]
  rw [zF]
  refine set_ rfl ?_
  simp only [zSet, zu]
  rw [zF]
  have rest : ∀ (sz dp : Nat), sz ≤ (if k = 0 then 15 else 4) → dp = (if k = 0 then 3 else 2) → Wo (zO (mSet 10 (f2 dAdd (f2 dAdd (f2 dAdd (zd 1) (fC (.int 1))) (f2 dMul (fC (.int 11)) (fA gInt (ze (fFlat (f2 dGt (zd 7) (fC (.int 0)))) zj)))) (f2 dMul (fC (.int 4)) (zd 7))))
    (zO (mSet 11 (fComp 1 (fRng1 (zd 8)) (zD 14) fYes (fA m'cell (ze (zd 0) (ze (f2 dAdd (zd 10) (zd 14)) zj)))))
    (zO (mAsg (uTup (uCons (zD 12) (uCons (zD 13) uNil))) (fA m'body (ze (zd 11) (ze (zd 2) (ze (zd 5) (ze (zd 9) (ze (zd 3) zj)))))))
    (zO (mSet 4 (fCat (fL (fLst (ze (zd 12) zj))) (fL (zd 4))))
    (mSet 5 (fCat (fL (fLst (ze (fTup (ze (zd 7) (ze (zd 13) zj))) zj))) (fL (zd 5)))))))
    [some (.scr ns), some (.int (at_ : Nat)), some (.int (many : Nat)), some (.int most), some (.lst (L.map .lst)), some (latD later), some (.int (n : Nat)), some (.int (k : Nat)), some (.int (sz : Nat)), some (.int (dp : Nat)), z10, z11, z12, z13]) fun o => ∃ ρ2, o = .nx ρ2 ∧ i + 1 ≤ n ∧ ∃ (L : List (List D)) (later : List (Nat × Int)) (z7 z8 z9 z10 z11 z12 z13 : Option D), ρ2 = [some (.scr ns), some (.int (at_ : Nat)), some (.int (many : Nat)), some (.int most), some (.lst (L.map .lst)), some (latD later), some (.int (n : Nat)), z7, z8, z9, z10, z11, z12, z13] ∧ L.length = i + 1 ∧ later.length = i + 1 ∧ (∀ p ∈ later, n - (i + 1) ≤ p.1 ∧ p.1 < n) ∧ ∀ t, t < i + 1 → BodG n (n - (i + 1) + t) (L.getD t []) := by
   intro sz dp hsz hdp
   have hsz' : sz ≤ 15 := by split at hsz <;> omega
   have hdp1 : 1 ≤ dp ∧ dp ≤ 3 := by split at hdp <;> omega
   obtain ⟨bg, hbg, ebg⟩ : ∃ bg : Nat, bg ≤ 200 ∧ f2 dAdd (f2 dAdd (f2 dAdd (zd 1) (fC (.int 1))) (f2 dMul (fC (.int 11)) (fA gInt (ze (fFlat (f2 dGt (zd 7) (fC (.int 0)))) zj)))) (f2 dMul (fC (.int 4)) (zd 7)) [some (.scr ns), some (.int (at_ : Nat)), some (.int (many : Nat)), some (.int most), some (.lst (L.map .lst)), some (latD later), some (.int (n : Nat)), some (.int (k : Nat)), some (.int (sz : Nat)), some (.int (dp : Nat)), z10, z11, z12, z13] = some (.int (bg : Nat)) := by
    by_cases h0 : (0 : Int) < (k : Nat)
    ·refine ⟨at_ + 1 + 11 + 4 * k, by omega, f2v (f2v (f2v rfl rfl add_) (f2v (x := .int 11) (y := .int 1) rfl (fA1 (x := .bl true) (flatv (f2v rfl rfl (by rw [gt_, decide_eq_true h0])) rfl) rfl) (dMul_s (mulS (by decide) (by decide)))) add_) (f2v rfl rfl (dMul_s (mulS (by decide) (by decide)))) (add_.trans ?_)⟩
     congr 2
    ·refine ⟨at_ + 1 + 4 * k, by omega, f2v (f2v (f2v rfl rfl add_) (f2v (x := .int 11) (y := .int 0) rfl (fA1 (x := .bl false) (flatv (f2v rfl rfl (by rw [gt_, decide_eq_false h0])) rfl) rfl) (dMul_s (mulS (by decide) (by decide)))) add_) (f2v rfl rfl (dMul_s (mulS (by decide) (by decide)))) (add_.trans ?_)⟩
     congr 2
   rw [zF]
   refine set_ ebg ?_
   simp only [zSet, zu]
   obtain ⟨cs, ecs, hcs, _⟩ := fcomp_ints (k := 1) (fl := fRng1 (zd 8)) (u := zD 14) (c := fYes) (e := fA m'cell (ze (zd 0) (ze (f2 dAdd (zd 10) (zd 14)) zj))) (ρ := [some (.scr ns), some (.int (at_ : Nat)), some (.int (many : Nat)), some (.int most), some (.lst (L.map .lst)), some (latD later), some (.int (n : Nat)), some (.int (k : Nat)), some (.int (sz : Nat)), some (.int (dp : Nat)), some (.int (bg : Nat)), z11, z12, z13]) (ds := rangeD 0 sz) (fun _ _ => True) (fun ρ => ∃ z : Option D, ρ = [some (.scr ns), some (.int (at_ : Nat)), some (.int (many : Nat)), some (.int most), some (.lst (L.map .lst)), some (latD later), some (.int (n : Nat)), some (.int (k : Nat)), some (.int (sz : Nat)), some (.int (dp : Nat)), some (.int (bg : Nat)), z11, z12, z13, z])
    (rng1v (n := sz) rfl (by omega)) (by rw [rangeD_length]; omega) ⟨none, rfl⟩ (by
     rintro t d ρ hd ⟨z, rfl⟩
     obtain ⟨ht, rfl⟩ := rangeD_get hd
     rw [uName_, zL]
     simp only [zSet]
     obtain ⟨v, ev⟩ := cell_ok ns ((bg : Nat) + (0 + (t : Nat))) (by omega) (by omega)
     exact ⟨rfl, ⟨_, fA2 rfl (f2v rfl rfl add_) ev, v, rfl, trivial⟩, _, rfl⟩)
   rw [rangeD_length] at hcs
   rw [zF]
   refine set_ ecs ?_
   simp only [zSet, zu]
   have hlat : LatOk n (k + 1) later := ⟨by omega, n4, fun p hp => ⟨by have := (hmem p hp).1; omega, (hmem p hp).2⟩⟩
   obtain ⟨out, u, eo, o1, o2, o3, o4⟩ := body_ok (cs := cs) (many := many) (dp := dp) hm hlat (by omega) (by omega) (by omega) most
   rw [zF]
   refine asg_ (fA5 rfl rfl rfl rfl rfl eo) rfl ?_
   simp only [zSet, zu]
   have fin : ∀ body : List D, BodG n k body → Wo (zO (mSet 4 (fCat (fL (fLst (ze (zd 12) zj))) (fL (zd 4)))) (mSet 5 (fCat (fL (fLst (ze (fTup (ze (zd 7) (ze (zd 13) zj))) zj))) (fL (zd 5)))) [some (.scr ns), some (.int (at_ : Nat)), some (.int (many : Nat)), some (.int most), some (.lst (L.map .lst)), some (latD later), some (.int (n : Nat)), some (.int (k : Nat)), some (.int (sz : Nat)), some (.int (dp : Nat)), some (.int (bg : Nat)), some (lstI cs), some (.lst body), some (.int u)]) fun o => ∃ ρ2, o = .nx ρ2 ∧ i + 1 ≤ n ∧ ∃ (L : List (List D)) (later : List (Nat × Int)) (z7 z8 z9 z10 z11 z12 z13 : Option D), ρ2 = [some (.scr ns), some (.int (at_ : Nat)), some (.int (many : Nat)), some (.int most), some (.lst (L.map .lst)), some (latD later), some (.int (n : Nat)), z7, z8, z9, z10, z11, z12, z13] ∧ L.length = i + 1 ∧ later.length = i + 1 ∧ (∀ p ∈ later, n - (i + 1) ≤ p.1 ∧ p.1 < n) ∧ ∀ t, t < i + 1 → BodG n (n - (i + 1) + t) (L.getD t []) := by
    intro body hb
    rw [zF]
    refine set_ (catv (lv (lst1_ (d := .lst body) rfl)) (lv (xs := L.map .lst) rfl) (by rw [List.length_map]; simp only [List.length_cons, List.length_nil]; omega)) ?_
    simp only [zSet, zu]
    refine set_ (catv (lv (lst1_ (tup2v (d := .int (k : Nat)) (d' := .int u) rfl rfl))) (lv (xs := later.map pairD) rfl) (by rw [List.length_map]; simp only [List.length_cons, List.length_nil]; omega)) ?_
    simp only [zSet]
    refine ⟨_, rfl, by omega, body :: L, (k, u) :: later, _, _, _, _, _, _, _, rfl, by simp [hL], by simp [hla], fun p hp => ?_, fun t ht => ?_⟩
    ·rcases List.mem_cons.mp hp with rfl | hp
     ·simp only; omega
     ·have := hmem p hp; omega
    ·cases t with
     | zero => rw [show n - (i + 1) + 0 = k by omega]; simpa using hb
     | succ t =>
      rw [show n - (i + 1) + (t + 1) = n - i + t by omega]
      simpa using hG t (by omega)
   have bodg : ¬ (n = 1) ∨ True → (dp ≤ hb n k) → BodG n k out := fun _ hle => ⟨o1, fun r hr => (o2 r hr).mono hle, by omega, by
    split
    ·rename_i h0; rw [if_pos h0] at hsz; omega
    ·rename_i h0; rw [if_neg h0] at hsz; omega⟩
   have hle : dp ≤ hb n k := by
    unfold hb
    rw [hdp]
    split <;> omega
   exact fin out (bodg (.inr trivial) hle)
  have conv : ∀ {m : Ev → Option Out} {ρ : Ev}, Wo (m ρ) (fun o => ∃ ρ2, o = .nx ρ2 ∧ i + 1 ≤ n ∧ ∃ (L : List (List D)) (later : List (Nat × Int)) (z7 z8 z9 z10 z11 z12 z13 : Option D), ρ2 = [some (.scr ns), some (.int (at_ : Nat)), some (.int (many : Nat)), some (.int most), some (.lst (L.map .lst)), some (latD later), some (.int (n : Nat)), z7, z8, z9, z10, z11, z12, z13] ∧ L.length = i + 1 ∧ later.length = i + 1 ∧ (∀ p ∈ later, n - (i + 1) ≤ p.1 ∧ p.1 < n) ∧ ∀ t, t < i + 1 → BodG n (n - (i + 1) + t) (L.getD t [])) → ∃ ρ2, m ρ = some (.nx ρ2) ∧ i + 1 ≤ n ∧ ∃ (L : List (List D)) (later : List (Nat × Int)) (z7 z8 z9 z10 z11 z12 z13 : Option D), ρ2 = [some (.scr ns), some (.int (at_ : Nat)), some (.int (many : Nat)), some (.int most), some (.lst (L.map .lst)), some (latD later), some (.int (n : Nat)), z7, z8, z9, z10, z11, z12, z13] ∧ L.length = i + 1 ∧ later.length = i + 1 ∧ (∀ p ∈ later, n - (i + 1) ≤ p.1 ∧ p.1 < n) ∧ ∀ t, t < i + 1 → BodG n (n - (i + 1) + t) (L.getD t []) := fun ⟨o, e, ρ2, ho, q⟩ => ⟨ρ2, by rw [e, ho], q⟩
  have s0 := Int.emod_nonneg (v0 / 4) (show (9 : Int) ≠ 0 by decide)
  have s1 := Int.emod_lt_of_pos (v0 / 4) (show (0 : Int) < 9 by decide)
  refine if_b (zU (f2v rfl rfl dEqS_)) (fun e => ?_) (fun e => ?_)
  ·simp only [decide_eq_true_eq] at e
   obtain ⟨sz, hsz⟩ : ∃ m : Nat, 6 + v0 / 4 % 9 = m := ⟨(6 + v0 / 4 % 9).toNat, by omega⟩
   rw [zF]
   refine set_ (d := .int (sz : Nat)) (f2v rfl (f2v (f2v (fA2 rfl rfl e0) rfl (dDiv_s (by decide) (by decide))) rfl (Ze (by decide))) (add_.trans (by rw [hsz]))) ?_
   simp only [zSet, zu]
   refine set_ rfl ?_
   simp only [zSet, zu]
   obtain ⟨ρ2, e2, q⟩ := conv (rest sz 3 (by rw [if_pos (by omega)]; omega) (by rw [if_pos (by omega)]))
   exact ⟨_, e2, q⟩
  ·simp only [decide_eq_false_iff_not] at e
   rw [mNext_, zL, zu]
   obtain ⟨ρ2, e2, q⟩ := conv (rest 4 2 (by rw [if_neg (by omega)]; omega) (by rw [if_neg (by omega)]))
   exact ⟨_, e2, q⟩
 ·rintro ρ ⟨-, L, later, z7, z8, z9, z10, z11, z12, z13, rfl, hL, hla, hmem, hG⟩
  rw [rangeDn_length] at hL hG
  rw [zu]
  refine ret_ (tup2v rfl rfl) ⟨L, rfl, by omega, by omega, fun k hk => ?_⟩
  rw [hL]
  have := hG k (by omega)
  rwa [show n - n + k = k by omega] at this
mutual
def Rq.tk : Rq → Prop
 | .one x ps => (x ≠ "call" ∧ x ≠ "loop" ∧ x ≠ "either") ∧ (∀ p ∈ ps, Lf p = true) ∧ Py 5 (.tup (.str x :: ps))
 | .call _ => True
 | .loop rs => tks rs
 | .either a b => tks a ∧ tks b
def tks : List Rq → Prop
 | [] => True
 | r :: rs => r.tk ∧ tks rs
end
mutual
def Rq.cn : Rq → Nat
 | .one _ _ => 1
 | .call _ => 1
 | .loop rs => 1 + cns rs
 | .either a b => 1 + (cns a + cns b)
def cns : List Rq → Nat
 | [] => 0
 | r :: rs => r.cn + cns rs
end
theorem cn_pos (r : Rq) : 1 ≤ r.cn := by cases r <;> simp only [Rq.cn] <;> omega
theorem len_cns : ∀ rs : List Rq, rs.length ≤ cns rs
 | [] => by simp [cns]
 | r :: rs => by have := len_cns rs; have := cn_pos r; rw [cns, List.length_cons]; omega
theorem tks_mem : ∀ {rs : List Rq} {r : Rq}, tks rs → r ∈ rs → r.tk
 | x :: rs, r, o, h => by
  rw [tks] at o
  rcases List.mem_cons.mp h with rfl | h
  ·exact o.1
  ·exact tks_mem o.2 h
theorem cns_mem : ∀ {rs : List Rq} {r : Rq}, r ∈ rs → r.cn ≤ cns rs
 | x :: rs, r, h => by
  rw [cns]
  rcases List.mem_cons.mp h with rfl | h
  ·omega
  ·have := cns_mem h; omega
mutual
def alk : Rq → Rq → Bool
 | .one x _, .one y _ => decide (x = y)
 | .call k, .call j => decide (k = j)
 | .loop a, .loop b => alks a b
 | .either a b, .either c d => alks a c && alks b d
 | _, _ => false
def alks : List Rq → List Rq → Bool
 | [], [] => true
 | r :: rs, s :: ss => alk r s && alks rs ss
 | _, _ => false
end
def all2 {α : Type} (p : α → α → Bool) : List α → List α → Bool
 | [], [] => true
 | a :: as, b :: bs => p a b && all2 p as bs
 | _, _ => false
theorem alks_all2 : ∀ a b : List Rq, alks a b = all2 alk a b
 | [], [] => by rw [alks, all2]
 | [], _ :: _ => by rw [alks, all2] <;> simp
 | _ :: _, [] => by rw [alks, all2] <;> simp
 | r :: a, s :: b => by rw [alks, all2, alks_all2 a b]
theorem all2_len {α : Type} {p : α → α → Bool} : ∀ {a b : List α}, a.length ≠ b.length → all2 p a b = false
 | [], [], h => absurd rfl h
 | [], _ :: _, _ => rfl
 | _ :: _, [], _ => rfl
 | x :: a, y :: b, h => by rw [all2, all2_len (by simpa using h)]; simp
theorem all2_zip {α : Type} {p : α → α → Bool} : ∀ {a b : List α}, a.length = b.length → all2 p a b = ((a.zip b).map fun q => p q.1 q.2).all id
 | [], [], _ => rfl
 | x :: a, y :: b, h => by rw [all2, all2_zip (by simpa using h)]; simp
theorem bools_map (bs : List Bool) : boolsD (bs.map .bl) = some bs := by
 induction bs with
 | nil => rfl
 | cons b bs ih => rw [List.map_cons, boolsD, ih]; rfl
theorem zipD_map {α : Type} (f : α → D) : ∀ a b : List α, zipD (a.map f) (b.map f) = (a.zip b).map fun q => .tup [f q.1, f q.2]
 | [], _ => by simp [zipD]
 | _ :: _, [] => by simp [zipD]
 | x :: a, y :: b => by
  have := zipD_map f a b
  unfold zipD at this ⊢
  simp only [List.map_cons, List.zipWith_cons_cons, List.zip_cons_cons, this]
theorem all_gen {α : Type} (f : α → D) (p : α → α → Bool) (fa : Addr) {ra : List D → Option D} {A B : List α} (hl : A.length ≤ 1000) (h : ∀ a ∈ A, ∀ b ∈ B, ra [f a, f b] = some (.bl (p a b))) : mDef 3 3 (b_all_alike fa ra) ([.lst (A.map f), .lst (B.map f)] ++ [.adr fa]) = some (.bl (all2 p A B)) := by
 refine Wo.eq ?_
 unfold b_all_alike
 rw [wo_def]
 refine ⟨rfl, ?_⟩
 simp only [startD, zMap, zLen, List.replicate, zApp, Nat.zero_add, Nat.reduceAdd, Nat.reduceSub]
 rw [zF]
 refine if_b (zU (f2v (lenv rfl) (lenv rfl) dNeS_)) (fun e => ?_) (fun e => ?_)
 ·refine ret_T (d := .bl false) rfl ?_
  rw [List.length_map, List.length_map] at e
  show D.bl false = .bl (all2 p A B)
  rw [all2_len fun z => by rw [z] at e; simp at e]
 ·rw [List.length_map, List.length_map] at e
  have e' : A.length = B.length := by simp at e; omega
  rw [mNext_, zL, zu]
  have ec := fcomp_pairs (k := 2) (fl := fZip (zl true (zd 0)) (zl true (zd 1))) (u := uTup (uCons (zD 3) (uCons (zD 4) uNil))) (c := fYes) (e := fCallV 2 fa ra (ze (zd 3) (ze (zd 4) zj))) (ρ := [some (.lst (A.map f)), some (.lst (B.map f)), some (.adr fa)]) ((A.zip B).map fun q => (.tup [f q.1, f q.2], .bl (p q.1 q.2))) (fun ρ => ∃ z1 z2 : Option D, ρ = [some (.lst (A.map f)), some (.lst (B.map f)), some (.adr fa), z1, z2])
   ((zipv (seqL (zT rfl)) (seqL (zT rfl))).trans (by rw [zipD_map, List.map_map]; rfl)) (by rw [List.length_map, List.length_zip]; omega) ⟨none, none, rfl⟩ (by
    rintro q ρ hq ⟨z1, z2, rfl⟩
    obtain ⟨x, hx, rfl⟩ := List.mem_map.mp hq
    exact ⟨_, rfl, rfl, fCallV_ rfl (ds := [f x.1, f x.2]) rfl (h _ (List.of_mem_zip hx).1 _ (List.of_mem_zip hx).2), _, _, rfl⟩)
  refine ret_ (d := .bl (all2 p A B)) ?_ rfl
  rw [fA_, seqL ec, oB, List.map_map]
  unfold gAllB
  rw [show List.map (Prod.snd ∘ fun q : α × α => (D.tup [f q.1, f q.2], D.bl (p q.1 q.2))) (A.zip B) = ((A.zip B).map fun q => p q.1 q.2).map D.bl by rw [List.map_map]; rfl, bools_map, all2_zip e']
  rfl
noncomputable abbrev rA1 (n : Nat) := (zi n).1
noncomputable abbrev rA2 (n : Nat) := (zi n).2.1
noncomputable abbrev rRows (n : Nat) := (zi n).2.2.1
noncomputable abbrev rRow (n : Nat) := (zi n).2.2.2
theorem E_1 (n : Nat) : rA1 (n + 1) = hideF (fun fa => mDef 3 3 (b_all_alike fa (rRows n))) := by unfold rA1; rw [zi]
theorem E_2 (n : Nat) : rA2 (n + 1) = hideF (fun fa => mDef 3 3 (b_all_alike fa (rRow n))) := by unfold rA2; rw [zi]
theorem E_3 (n : Nat) : rRows (n + 1) = mDef 2 2 (b_rows_alike (rA1 n) (rA2 n) (rRows n) (rRow n)) := by unfold rRows; rw [zi]
theorem E_4 (n : Nat) : rRow (n + 1) = mDef 2 2 (b_row_alike (rA1 n) (rA2 n) (rRows n) (rRow n)) := by unfold rRow; rw [zi]
theorem dEq_ints (a b : Nat) : dEqD (.int (a : Nat)) (.int (b : Nat)) = some (.bl (decide (a = b))) := by
 have h : ∀ i : Int, pyOk (.int i) = true := fun i => by
  unfold pyOk SeqAt.shaped
  rw [(Py.int i 0).1, decide_eq_true (Nat.le_trans (Py.int i 0).2 (by omega))]; rfl
 unfold dEqD
 rw [if_pos ⟨h _, h _⟩]
 unfold eqD
 rw [Zc, Zc, PyData.eqv]
 congr 2
 by_cases e : a = b
 ·subst e; simp
 ·have e' : ((a : Nat) : Int) ≠ b := fun z => e (by omega)
  simp [e, e']
theorem tk_lists (r : Rq) (ho : r.tk) : m_lists_in [r.toD] = some (.lst ((subs r).map fun x => .lst (qDs x))) := by
 refine Wo.eq ?_
 unfold m_lists_in b_lists_in
 rw [wo_def]
 refine ⟨rfl, ?_⟩
 simp only [startD, zMap, zLen, List.replicate, zApp, Nat.zero_add, Nat.reduceAdd, Nat.reduceSub]
 refine ret_ (d := .lst ((subs r).map fun x => .lst (qDs x))) ?_ rfl
 cases r with
 | one x ps =>
  rw [Rq.tk] at ho
  rw [Rq.toD, fComp_, M.seqT (zT rfl), oB, comp_none _ _ (fun d hd => ?_) rfl]
  ·rfl
  ·rcases List.mem_cons.mp hd with rfl | hd
   ·rfl
   ·exact lf_isi (ho.2.1 d hd)
 | call k => rw [Rq.toD]; rfl
 | loop a => rw [Rq.toD]; rfl
 | either a b => rw [Rq.toD]; rfl
def kdS : Rq → Str
 | .one x _ => x
 | .call _ => "call"
 | .loop _ => "loop"
 | .either _ _ => "either"
def prts : Rq → List D
 | .one _ ps => ps
 | .call k => [.int (k : Nat)]
 | .loop a => [.lst (qDs a)]
 | .either a b => [.lst (qDs a), .lst (qDs b)]
theorem toD_kd (r : Rq) : r.toD = .tup (.str (kdS r) :: prts r) := by cases r <;> rw [Rq.toD] <;> rfl
theorem alk_subs (r s : Rq) (hk : kdS r = kdS s) (hn : kdS r ≠ "call") (hr : r.tk) (hs : s.tk) : alk r s = all2 alks (subs r) (subs s) := by
 cases r with
 | one x ps =>
  rw [Rq.tk] at hr
  cases s with
  | one y qs => rw [alk]; simp only [kdS] at hk; rw [decide_eq_true hk]; rfl
  | call k => exact absurd hk hr.1.1
  | loop a => exact absurd hk hr.1.2.1
  | either a b => exact absurd hk hr.1.2.2
 | call k => exact absurd rfl hn
 | loop a =>
  cases s with
  | one y qs => rw [Rq.tk] at hs; exact absurd hk.symm hs.1.2.1
  | call k => exact absurd (show ("loop" : Str) = "call" from hk) (by decide)
  | loop b => rw [alk]; simp [subs, all2]
  | either b c => exact absurd (show ("loop" : Str) = "either" from hk) (by decide)
 | either a b =>
  cases s with
  | one y qs => rw [Rq.tk] at hs; exact absurd hk.symm hs.1.2.2
  | call k => exact absurd (show ("either" : Str) = "call" from hk) (by decide)
  | loop b => exact absurd (show ("either" : Str) = "loop" from hk) (by decide)
  | either c d => rw [alk]; simp [subs, all2]
theorem alk_kd (r s : Rq) (hk : kdS r ≠ kdS s) (hr : r.tk) (hs : s.tk) : alk r s = false := by
 cases r <;> cases s <;> simp only [alk] <;> first | (exact decide_eq_false hk) | exact absurd rfl hk
theorem alk_call (r s : Rq) (hk : kdS r = kdS s) (hc : kdS r = "call") (hr : r.tk) (hs : s.tk) : ∃ k j : Nat, r = .call k ∧ s = .call j := by
 cases r with
 | one x ps => rw [Rq.tk] at hr; exact absurd hc hr.1.1
 | loop a => exact absurd (show ("loop" : Str) = "call" from hc) (by decide)
 | either a b => exact absurd (show ("either" : Str) = "call" from hc) (by decide)
 | call k =>
  cases s with
  | one y qs => rw [Rq.tk] at hs; exact absurd hk.symm hs.1.1
  | loop a => exact absurd (show ("call" : Str) = "loop" from hk) (by decide)
  | either a b => exact absurd (show ("call" : Str) = "either" from hk) (by decide)
  | call j => exact ⟨k, j, rfl, rfl⟩
theorem tk_subs {r : Rq} {x : List Rq} (ho : r.tk) (h : x ∈ subs r) : tks x ∧ cns x ≤ r.cn := by
 cases r with
 | one _ _ => cases h
 | call _ => cases h
 | loop a => simp only [subs, List.mem_singleton] at h; subst h; rw [Rq.tk] at ho; rw [Rq.cn]; exact ⟨ho, by omega⟩
 | either a b =>
  simp only [subs, List.mem_cons, List.not_mem_nil, or_false] at h
  rw [Rq.tk] at ho
  rw [Rq.cn]
  rcases h with rfl | rfl
  ·exact ⟨ho.1, by omega⟩
  ·exact ⟨ho.2, by omega⟩
theorem row_alike_ok {n : Nat} {r s : Rq} (hr : r.tk) (hs : s.tk) (h : ∀ x ∈ subs r, ∀ y ∈ subs s, rRows n [.lst (qDs x), .lst (qDs y)] = some (.bl (alks x y))) : rRow (n + 2) [r.toD, s.toD] = some (.bl (alk r s)) := by
 refine Wo.eq ?_
 rw [E_4]
 unfold b_row_alike
 rw [wo_def]
 refine ⟨rfl, ?_⟩
 simp only [startD, zMap, zLen, List.replicate, zApp, Nat.zero_add, Nat.reduceAdd, Nat.reduceSub]
 have k1 : fIx (zl false (zd 0)) (fC (.int 0)) [some r.toD, some s.toD] = some (.str (kdS r)) := kind_ (by rw [toD_kd r]; rfl)
 have k2 : fIx (zl false (zd 1)) (fC (.int 0)) [some r.toD, some s.toD] = some (.str (kdS s)) := kind_ (by rw [toD_kd s]; rfl)
 rw [zF]
 by_cases hk : kdS r = kdS s
 ·refine if_f (zU (f2v k1 k2 (by rw [hk]; exact ne_f))) ?_
  rw [mNext_, zL, zu, zF]
  by_cases hc : kdS r = "call"
  ·obtain ⟨k, j, rfl, rfl⟩ := alk_call r s hk hc hr hs
   refine if_t (zU (f2v k1 rfl eq_t)) ?_
   rw [toD_call, toD_call, alk]
   exact ret_T (f2v (fIxv (M.seqT (zT rfl)) rfl (zY (j := 1) rfl)) (fIxv (M.seqT (zT rfl)) rfl (zY (j := 1) rfl)) (dEq_ints k j)) rfl
  ·refine if_f (zU (f2v k1 rfl (eq_f hc))) ?_
   rw [mNext_, zL, zu]
   have hA : rA1 (n + 1) [.lst ((subs r).map fun x => .lst (qDs x)), .lst ((subs s).map fun x => .lst (qDs x))] = some (.bl (all2 alks (subs r) (subs s))) := by
    rw [E_1]
    exact hideF_eq fun fa => all_gen (fun x => .lst (qDs x)) alks fa (by cases r <;> simp [subs]) fun a ha b hb => h a ha b hb
   rw [alk_subs r s hk hc hr hs]
   exact ret_ (fA2 (fA1 rfl (tk_lists r hr)) (fA1 rfl (tk_lists s hs)) hA) rfl
 ·refine if_t (zU (f2v k1 k2 (ne_t hk))) ?_
  rw [alk_kd r s hk hr hs]
  exact ret_T (d := .bl false) rfl rfl
theorem rows_alike_ok {n : Nat} {a b : List Rq} (hl : a.length ≤ 1000) (h : ∀ r ∈ a, ∀ s ∈ b, rRow n [r.toD, s.toD] = some (.bl (alk r s))) : rRows (n + 2) [.lst (qDs a), .lst (qDs b)] = some (.bl (alks a b)) := by
 refine Wo.eq ?_
 rw [E_3]
 unfold b_rows_alike
 rw [wo_def]
 refine ⟨rfl, ?_⟩
 simp only [startD, zMap, zLen, List.replicate, zApp, Nat.zero_add, Nat.reduceAdd, Nat.reduceSub]
 have hA : rA2 (n + 1) [.lst (qDs a), .lst (qDs b)] = some (.bl (alks a b)) := by
  rw [E_2, qDs_map, qDs_map, alks_all2]
  exact hideF_eq fun fa => all_gen Rq.toD alk fa hl h
 exact ret_ (fA2 rfl rfl hA) rfl
theorem alike_all : ∀ (h n : Nat), 4 * h + 4 ≤ n → ∀ a b : List Rq, rks r0 a ≤ h → tks a → tks b → cns a ≤ 1000 → rRows n [.lst (qDs a), .lst (qDs b)] = some (.bl (alks a b))
 | 0, n, hn, a, b, ha, ta, tb, ca => by
  obtain ⟨n, rfl⟩ : ∃ m, n = m + 4 := ⟨n - 4, by omega⟩
  refine rows_alike_ok (n := n + 2) (Nat.le_trans (len_cns a) ca) fun r hr s hs => row_alike_ok (tks_mem ta hr) (tks_mem tb hs) fun x hx y hy => ?_
  have h1 := rks_mem (g := r0) hr
  have h2 := subs_rk (g := r0) hx
  omega
 | h + 1, n, hn, a, b, ha, ta, tb, ca => by
  obtain ⟨n, rfl⟩ : ∃ m, n = m + 4 := ⟨n - 4, by omega⟩
  refine rows_alike_ok (n := n + 2) (Nat.le_trans (len_cns a) ca) fun r hr s hs => row_alike_ok (tks_mem ta hr) (tks_mem tb hs) fun x hx y hy => ?_
  have h1 := rks_mem (g := r0) hr
  have h2 := subs_rk (g := r0) hx
  have h3 := cns_mem hr
  obtain ⟨t1, c1⟩ := tk_subs (tks_mem ta hr) hx
  obtain ⟨t2, c2⟩ := tk_subs (tks_mem tb hs) hy
  exact alike_all h n (by omega) x y (by omega) t1 t2 (by omega)
def bodsQ (B : List (List Rq)) : D := .lst (B.map fun b => .lst (qDs b))
structure Pq (B : List (List Rq)) : Prop where
 len : B.length ≤ 5
 tk : ∀ b ∈ B, tks b
 rk : ∀ b ∈ B, rks r0 b ≤ 6
 cn : ∀ b ∈ B, cns b ≤ 500
theorem one_shape_ok {A B : List (List Rq)} (hA : Pq A) (hB : Pq B) (m1 m2 : Int) : m_one_shape [.tup [.int m1, bodsQ A], .tup [.int m2, bodsQ B]] = some (.bl (all2 alks A B)) := by
 refine Wo.eq ?_
 unfold m_one_shape b_one_shape
 rw [wo_def]
 refine ⟨rfl, ?_⟩
 simp only [startD, zMap, zLen, List.replicate, zApp, Nat.zero_add, Nat.reduceAdd, Nat.reduceSub]
 have hx : m_all_alike_1 [bodsQ A, bodsQ B] = some (.bl (all2 alks A B)) := by
  show rA1 40 _ = _
  rw [E_1]
  exact hideF_eq fun fa => all_gen (fun x => .lst (qDs x)) alks fa (Nat.le_trans hA.len (by omega)) fun a ha b hb => alike_all 6 39 (by omega) a b (hA.rk a ha) (hA.tk a ha) (hB.tk b hb) (Nat.le_trans (hA.cn a ha) (by omega))
 exact ret_ (fA2 (fIxv (M.seqT (zT rfl)) rfl (zY (j := 1) rfl)) (fIxv (M.seqT (zT rfl)) rfl (zY (j := 1) rfl)) hx) rfl
mutual
def shD : Rq → D
 | .one x _ => .str x
 | .call k => .tup [.str "call", .int (k : Nat)]
 | .loop a => .tup [.str "loop", .lst [.lst (shDs a)]]
 | .either a b => .tup [.str "either", .lst [.lst (shDs a), .lst (shDs b)]]
def shDs : List Rq → List D
 | [] => []
 | r :: rs => shD r :: shDs rs
end
theorem shDs_map : ∀ rs : List Rq, shDs rs = rs.map shD
 | [] => by simp [shDs]
 | r :: rs => by simp [shDs, shDs_map rs]
theorem for_acc {R : D} {m : Ev → Option Out} (g : Rq → D) : ∀ (ss : List Rq) (acc : List D) (z : Option D), (∀ r ∈ ss, ∀ acc : List D, acc.length ≤ 1000 → m [some R, some (.lst acc), some r.toD] = some (.nx [some R, some (.lst (acc ++ [g r])), some r.toD])) → acc.length + ss.length ≤ 1000 → ∃ z', forD (zD 2) m (ss.map Rq.toD) [some R, some (.lst acc), z] = some (.nx [some R, some (.lst (acc ++ ss.map g)), z'])
 | [], acc, z, _, _ => ⟨z, by simp [forD]⟩
 | r :: ss, acc, z, h, hl => by
  simp only [List.length_cons] at hl
  obtain ⟨z', e⟩ := for_acc g ss (acc ++ [g r]) (some r.toD) (fun x hx => h x (List.mem_cons_of_mem _ hx)) (by rw [List.length_append]; simp only [List.length_cons, List.length_nil]; omega)
  refine ⟨z', ?_⟩
  rw [List.map_cons, forD, zD, oB]
  show (m [some R, some (.lst acc), some r.toD]).bind _ = _
  rw [h r List.mem_cons_self acc (by omega), oB]
  show forD (zD 2) m (ss.map Rq.toD) [some R, some (.lst (acc ++ [g r])), some r.toD] = _
  rw [e, List.map_cons, List.append_assoc]
  rfl
theorem inEL {ρ : Ev} {i : Nat} {x : Str} {ps : List D} (h : ρ[i]? = some (some (.tup (.str x :: ps)))) : zC (f2 dInT (fIx (zl false (zd i)) (fC (.int 0))) (fTup (ze (fC (.str "either")) (ze (fC (.str "loop")) zj)))) ρ = some (decide (x = "either" ∨ x = "loop")) := by
 refine zU (f2v (kind_ h) (tup2v rfl rfl) ?_)
 by_cases e : x = "either" ∨ x = "loop"
 ·rw [decide_eq_true e]
  exact dInT_t (xs := ["either", "loop"]) (by simpa using e) rfl
 ·rw [decide_eq_false e]
  exact dInT_f (xs := ["either", "loop"]) (by simpa using e) rfl
def opn : Rq → Bool
 | .loop _ => true
 | .either _ _ => true
 | _ => false
theorem opn_kd {r : Rq} (h : r.tk) : decide (kdS r = "either" ∨ kdS r = "loop") = opn r := by
 cases r with
 | one x ps => rw [Rq.tk] at h; exact decide_eq_false fun z => z.elim h.1.2.2 h.1.2.1
 | call k => exact decide_eq_false fun z => z.elim (fun z => absurd (show ("call" : Str) = "either" from z) (by decide)) fun z => absurd (show ("call" : Str) = "loop" from z) (by decide)
 | loop a => exact decide_eq_true (.inr rfl)
 | either a b => exact decide_eq_true (.inl rfl)
theorem opn_prts {r : Rq} (h : opn r = true) : prts r = (subs r).map fun x => .lst (qDs x) := by cases r <;> first | rfl | cases h
theorem inR {ρ : Ev} {i : Nat} {r : Rq} (hr : r.tk) (h : ρ[i]? = some (some r.toD)) : zC (f2 dInT (fIx (zl false (zd i)) (fC (.int 0))) (fTup (ze (fC (.str "either")) (ze (fC (.str "loop")) zj)))) ρ = some (opn r) := by
 rw [toD_kd] at h
 rw [inEL h, opn_kd hr]
theorem kindR {ρ : Ev} {i : Nat} {r : Rq} (h : ρ[i]? = some (some r.toD)) : fIx (zl false (zd i)) (fC (.int 0)) ρ = some (.str (kdS r)) := by
 rw [toD_kd] at h
 exact kind_ h
theorem restR {ρ : Ev} {i : Nat} {r : Rq} (ho : opn r = true) (h : ρ[i]? = some (some r.toD)) : zl false (fCutT (zl false (zd i)) (fPart (fC (.int 1))) fNo) ρ = some ((subs r).map fun x => .lst (qDs x)) := by
 rw [toD_kd] at h
 rw [← opn_prts ho]
 exact M.seqT (cutFrom_ (k := 1) (M.seqT (zT h)) rfl (by omega) (by simp))
theorem opn_toD {r : Rq} (ho : opn r = true) : r.toD = .tup (.str (kdS r) :: (subs r).map fun x => .lst (qDs x)) := by rw [toD_kd, opn_prts ho]
theorem subs_len (r : Rq) : (subs r).length ≤ 2 := by cases r <;> simp [subs]
theorem subComp {R : D} {acc : D} {r : Rq} (ho : opn r = true) {m : List D → Option D} {g : List Rq → D} (h : ∀ x ∈ subs r, m [.lst (qDs x)] = some (g x)) : fComp 1 (zl false (fCutT (zl false (zd 2)) (fPart (fC (.int 1))) fNo)) (zD 3) fYes (fA m (ze (zd 3) zj)) [some R, some acc, some r.toD] = some (.lst ((subs r).map g)) := by
 have := fcomp_pairs (k := 1) (fl := zl false (fCutT (zl false (zd 2)) (fPart (fC (.int 1))) fNo)) (u := zD 3) (c := fYes) (e := fA m (ze (zd 3) zj)) (ρ := [some R, some acc, some r.toD]) ((subs r).map fun x => (.lst (qDs x), g x)) (fun ρ => ∃ z : Option D, ρ = [some R, some acc, some r.toD, z])
  ((restR ho rfl).trans (by rw [List.map_map]; rfl)) (by rw [List.length_map]; have := subs_len r; omega) ⟨none, rfl⟩ (by
   rintro p ρ hp ⟨z, rfl⟩
   obtain ⟨x, hx, rfl⟩ := List.mem_map.mp hp
   exact ⟨_, rfl, rfl, fA1 rfl (h x hx), _, rfl⟩)
 rw [this, List.map_map]
 rfl
theorem appA {R : D} {acc : List D} {z : Option D} {d : D} {f : Ev → Option D} (hl : acc.length ≤ 1000) (h : f [some R, some (.lst acc), z] = some d) : mUpd 1 zS f [some R, some (.lst acc), z] = some (.nx [some R, some (.lst (acc ++ [d])), z]) := by
 rw [mUpd_, h, oB]
 show (zS acc d).map _ = _
 rw [lAppend_ (size_lt (by omega))]
 rfl
theorem ifT {c : Ev → Option Bool} {m1 m2 : Ev → Option Out} {ρ : Ev} {o : Option Out} (e : c ρ = some true) (k : m1 ρ = o) : mIf c m1 m2 ρ = o := by rw [mIf_, e]; exact k
theorem ifF {c : Ev → Option Bool} {m1 m2 : Ev → Option Out} {ρ : Ev} {o : Option Out} (e : c ρ = some false) (k : m2 ρ = o) : mIf c m1 m2 ρ = o := by rw [mIf_, e]; exact k
theorem mk_found {n : Nat} {b : Ev → Option Out} {rs : List Rq} (g : Rq → D) (hl : rs.length ≤ 1000) (h : ∀ r ∈ rs, ∀ acc : List D, acc.length ≤ 1000 → b [some (.lst (qDs rs)), some (.lst acc), some r.toD] = some (.nx [some (.lst (qDs rs)), some (.lst (acc ++ [g r])), some r.toD])) :
  mDef 1 3 (zO (mNew 1 (fLst zj)) (zO (mFor (zl true (zd 0)) (zD 2) b) (mRet (zd 1)))) [.lst (qDs rs)] = some (.lst (rs.map g)) := by
 refine mDef_ rfl ?_
 refine mSeq_nx (ρ' := [some (.lst (qDs rs)), some (.lst []), none]) rfl ?_
 obtain ⟨z, e⟩ := for_acc (R := .lst (qDs rs)) g rs [] none h (by simpa using hl)
 rw [← qDs_map, List.nil_append] at e
 refine mSeq_nx (ρ' := [some (.lst (qDs rs)), some (.lst (rs.map g)), z]) ?_ rfl
 rw [mFor_, seqL (zT rfl), oB]
 exact e
theorem shape_step {n : Nat} {rs : List Rq} (hl : rs.length ≤ 1000) (ht : tks rs) (h : ∀ r ∈ rs, ∀ x ∈ subs r, R'shape n [.lst (qDs x)] = some (.lst (shDs x))) : R'shape (n + 1) [.lst (qDs rs)] = some (.lst (shDs rs)) := by
 rw [R'shape, shDs_map]
 unfold b'shape
 refine mk_found (n := n) shD hl fun r hr acc ha => ?_
 have tr := tks_mem ht hr
 by_cases hc : kdS r = "call"
 ·obtain ⟨k, rfl⟩ : ∃ k, r = .call k := by
   cases r with
   | one x ps => rw [Rq.tk] at tr; exact absurd hc tr.1.1
   | call k => exact ⟨k, rfl⟩
   | loop a => exact absurd (show ("loop" : Str) = "call" from hc) (by decide)
   | either a b => exact absurd (show ("either" : Str) = "call" from hc) (by decide)
  refine ifT (zU (f2v (kindR rfl) rfl eq_t)) ?_
  have e : shD (.call k) = (Rq.call k).toD := by rw [shD, toD_call]
  rw [e]
  exact appA ha (zT rfl)
 ·refine ifF (zU (f2v (kindR rfl) rfl (eq_f hc))) ?_
  cases ho : opn r with
  | true =>
   refine ifT ((inR tr rfl).trans (by rw [ho])) ?_
   have e : shD r = .tup [.str (kdS r), .lst ((subs r).map fun x => .lst (shDs x))] := by cases r <;> first | (rw [shD]; rfl) | cases ho
   rw [e]
   exact appA ha (tup2v (kindR rfl) (subComp ho (h r hr)))
  | false =>
   refine ifF ((inR tr rfl).trans (by rw [ho])) ?_
   have e : shD r = .str (kdS r) := by
    cases r with
    | one x ps => rw [shD]; rfl
    | call k => exact absurd rfl hc
    | loop a => cases ho
    | either a b => cases ho
   rw [e]
   exact appA ha (kindR rfl)
theorem copy_step {n : Nat} {rs : List Rq} (hl : rs.length ≤ 1000) (ht : tks rs) (h : ∀ r ∈ rs, ∀ x ∈ subs r, R'copied n [.lst (qDs x)] = some (.lst (qDs x))) : R'copied (n + 1) [.lst (qDs rs)] = some (.lst (qDs rs)) := by
 rw [R'copied]
 unfold b'copied
 have := mk_found (n := n) (b := mIf (zC (f2 dInT (fIx (zl false (zd 2)) (fC (.int 0))) (fTup (ze (fC (.str "either")) (ze (fC (.str "loop")) zj))))) (mUpd 1 zS (fCatT (fTup (ze (fIx (zl false (zd 2)) (fC (.int 0))) zj)) (fA gTuple (zl true (fComp 1 (zl false (fCutT (zl false (zd 2)) (fPart (fC (.int 1))) fNo)) (zD 3) fYes (fA (R'copied n) (ze (zd 3) zj))))))) (mUpd 1 zS (zd 2))) (rs := rs) Rq.toD hl fun r hr acc ha => ?_
 ·rw [← qDs_map] at this
  exact this
 ·have tr := tks_mem ht hr
  cases ho : opn r with
  | true =>
   refine ifT ((inR tr rfl).trans (by rw [ho])) ?_
   have := appA (R := .lst (qDs rs)) (z := some r.toD) ha (catT_ (tup1_ (kindR (i := 2) (r := r) rfl)) (tupL (subComp ho (h r hr))) (by rw [List.length_map]; have := subs_len r; simp only [List.length_cons, List.length_nil]; omega))
   rw [this, opn_toD ho]
   rfl
  | false => exact ifF ((inR tr rfl).trans (by rw [ho])) (appA ha (zT rfl))
theorem tower {P : Nat → List Rq → Prop} (hs : ∀ n rs, rs.length ≤ 1000 → tks rs → (∀ r ∈ rs, ∀ x ∈ subs r, P n x) → P (n + 1) rs) : ∀ (h n : Nat), h + 1 ≤ n → ∀ rs : List Rq, rks r0 rs ≤ h → tks rs → cns rs ≤ 1000 → P n rs
 | 0, n, hn, rs, hk, ht, hc => by
  obtain ⟨n, rfl⟩ : ∃ m, n = m + 1 := ⟨n - 1, by omega⟩
  refine hs n rs (Nat.le_trans (len_cns rs) hc) ht fun r hr x hx => ?_
  have h1 := rks_mem (g := r0) hr
  have h2 := subs_rk (g := r0) hx
  omega
 | h + 1, n, hn, rs, hk, ht, hc => by
  obtain ⟨n, rfl⟩ : ∃ m, n = m + 1 := ⟨n - 1, by omega⟩
  refine hs n rs (Nat.le_trans (len_cns rs) hc) ht fun r hr x hx => ?_
  have h1 := rks_mem (g := r0) hr
  have h2 := subs_rk (g := r0) hx
  have h3 := cns_mem hr
  obtain ⟨t1, c1⟩ := tk_subs (tks_mem ht hr) hx
  exact tower hs h n (by omega) x (by omega) t1 (by omega)
theorem shape_ok {rs : List Rq} (hk : rks r0 rs ≤ 6) (ht : tks rs) (hc : cns rs ≤ 1000) : m'shape [.lst (qDs rs)] = some (.lst (shDs rs)) := tower (P := fun n x => R'shape n [.lst (qDs x)] = some (.lst (shDs x))) (fun n rs a b c => shape_step a b c) 6 40 (by omega) rs hk ht hc
theorem copied_ok {rs : List Rq} (hk : rks r0 rs ≤ 6) (ht : tks rs) (hc : cns rs ≤ 1000) : m'copied [.lst (qDs rs)] = some (.lst (qDs rs)) := tower (P := fun n x => R'copied n [.lst (qDs x)] = some (.lst (qDs x))) (fun n rs a b c => copy_step a b c) 6 40 (by omega) rs hk ht hc
theorem bq_str (x y : Str) : (x == y) = decide (x = y) := by
 by_cases h : x = y
 ·subst h; simp
 ·simp [h]
theorem cl : (("call" : Str) == "loop") = false ∧ (("call" : Str) == "either") = false ∧ (("loop" : Str) == "call") = false ∧ (("loop" : Str) == "either") = false ∧ (("either" : Str) == "call") = false ∧ (("either" : Str) == "loop") = false := by decide
theorem clr : (("call" : Str) == "call") = true ∧ (("loop" : Str) == "loop") = true ∧ (("either" : Str) == "either") = true := by decide
mutual
theorem eq_sh : ∀ r s : Rq, PyData.eqv (Zc (shD r)) (Zc (shD s)) = alk r s
 | .one x _, .one y _ => by simp only [shD, Zc, PyData.eqv, alk, bq_str]
 | .one x _, .call j => by simp only [shD, Zc, PyData.eqv, alk]
 | .one x _, .loop a => by simp only [shD, Zc, PyData.eqv, alk]
 | .one x _, .either a b => by simp only [shD, Zc, PyData.eqv, alk]
 | .call k, .one y _ => by simp only [shD, Zc, PyData.eqv, alk]
 | .call k, .call j => by
  simp only [shD, Zc, zZ, PyData.eqv, PyData.eqvAll, alk, clr]
  by_cases h : k = j
  ·subst h; simp
  ·have h' : ((k : Nat) : Int) ≠ j := fun z => h (by omega)
   simp [h, h']
 | .call k, .loop a => by simp only [shD, Zc, zZ, PyData.eqv, PyData.eqvAll, alk, cl, Bool.false_and]
 | .call k, .either a b => by simp only [shD, Zc, zZ, PyData.eqv, PyData.eqvAll, alk, cl, Bool.false_and]
 | .loop a, .one y _ => by simp only [shD, Zc, PyData.eqv, alk]
 | .loop a, .call j => by simp only [shD, Zc, zZ, PyData.eqv, PyData.eqvAll, alk, cl, Bool.false_and]
 | .loop a, .loop b => by
  simp only [shD, Zc, zZ, PyData.eqv, PyData.eqvAll, alk, clr, Bool.true_and, Bool.and_true]
  exact eq_shs a b
 | .loop a, .either b c => by simp only [shD, Zc, zZ, PyData.eqv, PyData.eqvAll, alk, cl, Bool.false_and]
 | .either a b, .one y _ => by simp only [shD, Zc, PyData.eqv, alk]
 | .either a b, .call j => by simp only [shD, Zc, zZ, PyData.eqv, PyData.eqvAll, alk, cl, Bool.false_and]
 | .either a b, .loop c => by simp only [shD, Zc, zZ, PyData.eqv, PyData.eqvAll, alk, cl, Bool.false_and]
 | .either a b, .either c d => by
  simp only [shD, Zc, zZ, PyData.eqv, PyData.eqvAll, alk, clr, Bool.true_and, Bool.and_true]
  rw [eq_shs a c, eq_shs b d]
theorem eq_shs : ∀ a b : List Rq, PyData.eqvAll (zZ (shDs a)) (zZ (shDs b)) = alks a b
 | [], [] => by simp only [shDs, zZ, PyData.eqvAll, alks]
 | [], _ :: _ => by simp only [shDs, zZ, PyData.eqvAll, alks]
 | _ :: _, [] => by simp only [shDs, zZ, PyData.eqvAll, alks]
 | r :: a, s :: b => by
  simp only [shDs, zZ, PyData.eqvAll, alks]
  rw [eq_sh r s, eq_shs a b]
end
theorem eq_all : ∀ A B : List (List Rq), PyData.eqvAll (zZ (A.map fun a => .lst (shDs a))) (zZ (B.map fun a => .lst (shDs a))) = all2 alks A B
 | [], [] => by simp only [List.map_nil, zZ, PyData.eqvAll, all2]
 | [], _ :: _ => by simp only [List.map_nil, List.map_cons, zZ, PyData.eqvAll, all2]
 | _ :: _, [] => by simp only [List.map_nil, List.map_cons, zZ, PyData.eqvAll, all2]
 | a :: A, b :: B => by
  simp only [List.map_cons, zZ, Zc, PyData.eqvAll, PyData.eqv, all2]
  rw [eq_shs a b, eq_all A B]
theorem py_head {n : Nat} {d : D} {ds : List D} (h : Py n (.tup (d :: ds))) : Py n d := by
 unfold Py at h ⊢
 rw [Zc, zZ, PyData.canLay0, PyData.depth, PyData.canLayAll0, PyData.depthAll] at h
 obtain ⟨h1, h2⟩ := h
 rw [Bool.and_eq_true] at h1
 exact ⟨h1.1, by omega⟩
theorem py_str {x : Str} (h : names.contains x = true) (n : Nat) : Py n (.str x) := (Fi.str h n).pyd
mutual
theorem sh_py : ∀ r : Rq, r.tk → Py (3 * r.rk r0 + 5) (shD r)
 | .one x ps, h => by rw [Rq.tk] at h; rw [shD, Rq.rk]; exact py_head h.2.2
 | .call k, _ => by
  rw [shD]
  refine (Py.tup (n := 1) fun r hr => ?_).mono (by rw [Rq.rk]; omega)
  simp only [List.mem_cons, List.not_mem_nil, or_false] at hr
  rcases hr with rfl | rfl
  ·exact py_str (by decide) _
  ·exact .int _ _
 | .loop a, h => by
  rw [Rq.tk] at h
  rw [shD, Rq.rk]
  refine (Py.tup (n := 3 * rks r0 a + 7) fun r hr => ?_).mono (by omega)
  simp only [List.mem_cons, List.not_mem_nil, or_false] at hr
  rcases hr with rfl | rfl
  ·exact py_str (by decide) _
  ·refine .lst fun r hr => ?_
   rw [List.mem_singleton.mp hr]
   exact .lst (shs_py a h)
 | .either a b, h => by
  rw [Rq.tk] at h
  rw [shD, Rq.rk]
  refine (Py.tup (n := 3 * max (rks r0 a) (rks r0 b) + 7) fun r hr => ?_).mono (by omega)
  simp only [List.mem_cons, List.not_mem_nil, or_false] at hr
  rcases hr with rfl | rfl
  ·exact py_str (by decide) _
  ·refine .lst fun r hr => ?_
   simp only [List.mem_cons, List.not_mem_nil, or_false] at hr
   rcases hr with rfl | rfl
   ·exact .lst fun r hr => (shs_py a h.1 r hr).mono (by omega)
   ·exact .lst fun r hr => (shs_py b h.2 r hr).mono (by omega)
theorem shs_py : ∀ rs : List Rq, tks rs → ∀ d ∈ shDs rs, Py (3 * rks r0 rs + 5) d
 | [], _, d, hd => by rw [shDs] at hd; cases hd
 | r :: rs, h, d, hd => by
  rw [tks] at h
  rw [shDs] at hd
  rw [rks]
  rcases List.mem_cons.mp hd with rfl | hd
  ·exact (sh_py r h.1).mono (by omega)
  ·exact (shs_py rs h.2 d hd).mono (by omega)
end
mutual
theorem row_py : ∀ r : Rq, r.tk → Py (3 * r.rk r0 + 5) r.toD
 | .one x ps, h => by rw [Rq.tk] at h; rw [toD_one, Rq.rk]; exact h.2.2
 | .call k, _ => by
  rw [toD_call]
  refine (Py.tup (n := 1) fun r hr => ?_).mono (by rw [Rq.rk]; omega)
  simp only [List.mem_cons, List.not_mem_nil, or_false] at hr
  rcases hr with rfl | rfl
  ·exact py_str (by decide) _
  ·exact .int _ _
 | .loop a, h => by
  rw [Rq.tk] at h
  rw [toD_loop, Rq.rk]
  refine (Py.tup (n := 3 * rks r0 a + 6) fun r hr => ?_).mono (by omega)
  simp only [List.mem_cons, List.not_mem_nil, or_false] at hr
  rcases hr with rfl | rfl
  ·exact py_str (by decide) _
  ·exact .lst (rows_py a h)
 | .either a b, h => by
  rw [Rq.tk] at h
  rw [Zh, Rq.rk]
  refine (Py.tup (n := 3 * max (rks r0 a) (rks r0 b) + 6) fun r hr => ?_).mono (by omega)
  simp only [List.mem_cons, List.not_mem_nil, or_false] at hr
  rcases hr with rfl | rfl | rfl
  ·exact py_str (by decide) _
  ·exact .lst fun r hr => (rows_py a h.1 r hr).mono (by omega)
  ·exact .lst fun r hr => (rows_py b h.2 r hr).mono (by omega)
theorem rows_py : ∀ rs : List Rq, tks rs → ∀ d ∈ qDs rs, Py (3 * rks r0 rs + 5) d
 | [], _, d, hd => by rw [qDs] at hd; cases hd
 | r :: rs, h, d, hd => by
  rw [tks] at h
  rw [qDs] at hd
  rw [rks]
  rcases List.mem_cons.mp hd with rfl | hd
  ·exact (row_py r h.1).mono (by omega)
  ·exact (rows_py rs h.2 d hd).mono (by omega)
end
theorem py_ok {n : Nat} {d : D} (h : Py n d) (hn : n ≤ 64) : pyOk d = true := by
 unfold pyOk SeqAt.shaped
 rw [h.1, decide_eq_true (Nat.le_trans h.2 hn)]; rfl
theorem due_eq {A B : List (List Rq)} (hA : Pq A) (hB : Pq B) : dEqD (.lst (A.map fun a => .lst (shDs a))) (.lst (B.map fun a => .lst (shDs a))) = some (.bl (all2 alks A B)) := by
 have py : ∀ {C : List (List Rq)}, Pq C → pyOk (.lst (C.map fun a => .lst (shDs a))) = true := fun hC => py_ok (n := 25) (.lst fun d hd => by
  obtain ⟨a, ha, rfl⟩ := List.mem_map.mp hd
  refine (Py.lst (n := 23) fun d hd => ?_)
  have := hC.rk a ha
  exact (shs_py a (hC.tk a ha) d hd).mono (by omega)) (by omega)
 unfold dEqD
 rw [if_pos ⟨py hA, py hB⟩]
 unfold eqD
 rw [Zc, Zc, PyData.eqv, eq_all]
theorem bods_py {C : List (List Rq)} (hC : Pq C) : Py 25 (bodsQ C) := .lst fun d hd => by
 obtain ⟨a, ha, rfl⟩ := List.mem_map.mp hd
 refine (Py.lst (n := 23) fun d hd => ?_)
 have := hC.rk a ha
 exact (rows_py a (hC.tk a ha) d hd).mono (by omega)
theorem cn_subs (r : Rq) : r.cn = 1 + ((subs r).map cns).sum := by cases r <;> simp [Rq.cn, subs]
theorem for_in {R d : D} {rm : List D → Option D} : ∀ (xs : List (List Rq)) (t : Int) (z : Option D), (∀ x ∈ xs, rm [.lst (qDs x)] = some (.int (cns x : Nat))) → ∃ z', forD (zD 3) (mSet 1 (f2 dAdd (zd 1) (fA rm (ze (zd 3) zj)))) (xs.map fun x => .lst (qDs x)) [some R, some (.int t), some d, z] = some (.nx [some R, some (.int (t + ((xs.map cns).sum : Nat))), some d, z'])
 | [], t, z, _ => ⟨z, by simp [forD]⟩
 | x :: xs, t, z, h => by
  obtain ⟨z', e⟩ := for_in (R := R) (d := d) xs (t + (cns x : Nat)) (some (.lst (qDs x))) fun y hy => h y (List.mem_cons_of_mem _ hy)
  refine ⟨z', ?_⟩
  rw [List.map_cons, forD, zD, oB]
  show (mSet 1 _ [some R, some (.int t), some d, some (.lst (qDs x))]).bind _ = _
  rw [mSet_, f2v (d := .int (t + (cns x : Nat))) (zT rfl) (fA1 (zT rfl) (h x List.mem_cons_self)) add_]
  show forD _ _ _ [some R, some (.int (t + (cns x : Nat))), some d, some (.lst (qDs x))] = _
  rw [e, List.map_cons, List.sum_cons]
  congr 6
  omega
theorem for_tot {R : D} {m : Ev → Option Out} : ∀ (ss : List Rq) (t : Int) (z2 z3 : Option D), (∀ r ∈ ss, ∀ (t : Int) (z3 : Option D), ∃ z3', m [some R, some (.int t), some r.toD, z3] = some (.nx [some R, some (.int (t + (r.cn : Nat))), some r.toD, z3'])) → ∃ z2' z3', forD (zD 2) m (ss.map Rq.toD) [some R, some (.int t), z2, z3] = some (.nx [some R, some (.int (t + (cns ss : Nat))), z2', z3'])
 | [], t, z2, z3, _ => ⟨z2, z3, by simp [forD, cns]⟩
 | r :: ss, t, z2, z3, h => by
  obtain ⟨z3', e1⟩ := h r List.mem_cons_self t z3
  obtain ⟨y2, y3, e⟩ := for_tot (R := R) ss (t + (r.cn : Nat)) (some r.toD) z3' fun y hy => h y (List.mem_cons_of_mem _ hy)
  refine ⟨y2, y3, ?_⟩
  rw [List.map_cons, forD, zD, oB]
  show (m [some R, some (.int t), some r.toD, z3]).bind _ = _
  rw [e1]
  show forD _ _ _ [some R, some (.int (t + (r.cn : Nat))), some r.toD, z3'] = _
  rw [e, cns]
  congr 6
  omega
theorem many_step {n : Nat} {rs : List Rq} (ht : tks rs) (h : ∀ r ∈ rs, ∀ x ∈ subs r, R'many n [.lst (qDs x)] = some (.int (cns x : Nat))) : R'many (n + 1) [.lst (qDs rs)] = some (.int (cns rs : Nat)) := by
 rw [R'many]
 refine mDef_ rfl ?_
 unfold b'many
 refine mSeq_nx (ρ' := [some (.lst (qDs rs)), some (.int 0), none, none]) rfl ?_
 obtain ⟨z2, z3, e⟩ := for_tot (R := .lst (qDs rs)) (m := zO (mSet 1 (f2 dAdd (zd 1) (fC (.int 1)))) (mIf (zC (f2 dInT (fIx (zl false (zd 2)) (fC (.int 0))) (fTup (ze (fC (.str "either")) (ze (fC (.str "loop")) zj))))) (mFor (zl false (fCutT (zl false (zd 2)) (fPart (fC (.int 1))) fNo)) (zD 3) (mSet 1 (f2 dAdd (zd 1) (fA (R'many n) (ze (zd 3) zj))))) mNext)) rs 0 none none fun r hr t z3 => by
  have tr := tks_mem ht hr
  cases ho : opn r with
  | true =>
   obtain ⟨z', e⟩ := for_in (R := .lst (qDs rs)) (d := r.toD) (subs r) (t + 1) z3 (h r hr)
   refine ⟨z', mSeq_nx (ρ' := [some (.lst (qDs rs)), some (.int (t + 1)), some r.toD, z3]) rfl (ifT ((inR tr rfl).trans (by rw [ho])) ?_)⟩
   rw [mFor_, restR ho rfl, oB, e, cn_subs r]
   congr 6
   omega
  | false =>
   refine ⟨z3, mSeq_nx (ρ' := [some (.lst (qDs rs)), some (.int (t + 1)), some r.toD, z3]) rfl (ifF ((inR tr rfl).trans (by rw [ho])) ?_)⟩
   have : r.cn = 1 := by cases r <;> first | (rw [Rq.cn]; done) | cases ho
   rw [this]; rfl
 rw [← qDs_map, Int.zero_add] at e
 refine mSeq_nx (ρ' := [some (.lst (qDs rs)), some (.int (cns rs : Nat)), z2, z3]) ?_ rfl
 rw [mFor_, seqL (zT rfl), oB]
 exact e
theorem many_ok {rs : List Rq} (hk : rks r0 rs ≤ 6) (ht : tks rs) (hc : cns rs ≤ 1000) : m'many [.lst (qDs rs)] = some (.int (cns rs : Nat)) := tower (P := fun n x => R'many n [.lst (qDs x)] = some (.int (cns x : Nat))) (fun n rs a b c => many_step b c) 6 40 (by omega) rs hk ht hc
theorem wm_ {m : Ev → Option Out} {ρ : Ev} {S : List D} {o : Out} (h : m ρ = some o) : wM m ρ S = some (o, S) := by unfold wM; rw [h]; rfl
theorem wown_ {j : Nat} {F : WF} {ρ : Ev} {S S1 : List D} {d : D} {ds : List D} (h : F ρ S = some (d, S1)) (h2 : ρ[j]? = some (some (.lst ds))) (hl : ds.length ≤ 1000) : wOwn j F ρ S = some (.nx (ρ.set j (some (.lst (ds ++ [d])))), S1) := by
 unfold wOwn
 rw [h]
 simp only [oB]
 rw [h2]
 simp only [Option.join_some, oB, asL]
 rw [if_pos (size_lt (by omega))]
theorem mupd_ {j : Nat} {f : Ev → Option D} {ρ : Ev} {d : D} {ds : List D} (h : f ρ = some d) (h2 : ρ[j]? = some (some (.lst ds))) (hl : ds.length ≤ 1000) : mUpd j zS f ρ = some (.nx (ρ.set j (some (.lst (ds ++ [d]))))) := by
 rw [mUpd_, h, oB, h2]
 show (zS ds d).map _ = _
 rw [lAppend_ (size_lt (by omega))]
 rfl
theorem one_tk {x : Str} {ps : List D} (hx : x ≠ "call" ∧ x ≠ "loop" ∧ x ≠ "either") (hn : names.contains x = true) (hl : ∀ p ∈ ps, Lf p = true) (hf : ∀ p ∈ ps, Py 4 p) : (Rq.one x ps).tk := by
 rw [Rq.tk]
 refine ⟨hx, hl, .tup fun r hr => ?_⟩
 rcases List.mem_cons.mp hr with rfl | hr
 ·exact py_str hn _
 ·exact hf r hr
structure Lk (r r' : Rq) : Prop where
 tk : r'.tk
 rk : r'.rk r0 ≤ r.rk r0
 cn : r'.cn ≤ r.cn
structure Lks (rs rs' : List Rq) : Prop where
 tk : tks rs'
 rk : rks r0 rs' ≤ rks r0 rs
 cn : cns rs' ≤ cns rs
 len : rs'.length = rs.length
def LikeAt (n : Nat) (many : Nat) (x : List Rq) : Prop := ∀ c : Int, ∃ (x' : List Rq) (c' : Int), Lks x x' ∧ ∀ a, R'like n [.lst (qDs x), .int (many : Nat), .adr a] [.int c] = some (.lst (qDs x'), [.int c'])
abbrev evK (R : D) (many : Nat) (a : Addr) (acc : List D) (z4 z5 z6 : Option D) : Ev := [some R, some (.int (many : Nat)), some (.adr a), some (.lst acc), z4, z5, z6]
theorem like_row {n many : Nat} (h1 : 1 ≤ many) (hm : many ≤ 6) {R : D} {r : Rq} (tr : r.tk) (ih : ∀ x ∈ subs r, LikeAt n many x) (c : Int) : ∃ (r' : Rq) (c' : Int), Lk r r' ∧ ∀ a acc z5 z6, acc.length ≤ 1000 → ∃ z5' z6',
  (wSeq (wSetIx (w2 dMod (w2 dAdd (w2 dMul (wIx (fC (.int 0))) (wL (fC (.int 48271)))) (wL (fC (.int 11)))) (wL (fC (.int 2147483647)))) (fC (.int 0)))
  (wSeq (wSet 5 (wIx (fC (.int 0))))
  (wIf (wL (zC (f2 dEqS (fIx (zl false (zd 4)) (fC (.int 0))) (fC (.str "set")))))
  (wM (mUpd 3 zS (fTup (ze (fC (.str "set")) (ze (f2 dMod (zd 5) (zd 1)) (ze (fA m'line (ze (f2 dDiv (zd 5) (fC (.int 7))) (ze (zd 1) zj))) zj))))))
  (wIf (wL (zC (f2 dEqS (fIx (zl false (zd 4)) (fC (.int 0))) (fC (.str "take")))))
  (wM (mUpd 3 zS (fTup (ze (fC (.str "take")) (ze (f2 dMod (zd 5) (zd 1)) zj)))))
  (wIf (wL (zC (f2 dEqS (fIx (zl false (zd 4)) (fC (.int 0))) (fC (.str "loop")))))
  (wOwn 3 (wTup (zH (wL (fC (.str "loop"))) (zH (wCall 2 (R'like n) (zH (wL (fIx (zl false (zd 4)) (fC (.int 1)))) (zH (wL (zd 1)) (zH (wL (zd 2)) (wL zj))))) (wL zj)))))
  (wIf (wL (zC (f2 dEqS (fIx (zl false (zd 4)) (fC (.int 0))) (fC (.str "either")))))
  (wSeq (wSet 6 (wCall 2 (R'like n) (zH (wL (fIx (zl false (zd 4)) (fC (.int 1)))) (zH (wL (zd 1)) (zH (wL (zd 2)) (wL zj))))))
  (wOwn 3 (wTup (zH (wL (fC (.str "either"))) (zH (wL (zd 6)) (zH (wCall 2 (R'like n) (zH (wL (fIx (zl false (zd 4)) (fC (.int 2)))) (zH (wL (zd 1)) (zH (wL (zd 2)) (wL zj))))) (wL zj)))))))
  (wM (mUpd 3 zS (zd 4))))))))) (evK R many a acc (some r.toD) z5 z6) [.int c] = some (.nx (evK R many a (acc ++ [r'.toD]) (some r.toD) z5' z6'), [.int c']) := by
 obtain ⟨c1, hc1⟩ : ∃ c1, c1 = (c * 48271 + 11) % 2147483647 := ⟨_, rfl⟩
 have head : ∀ {M2 : WM} {a : Addr} {acc : List D} {z5 z6 : Option D} {o : Option (Out × List D)}, M2 (evK R many a acc (some r.toD) (some (.int c1)) z6) [.int c1] = o → wSeq (wSetIx (w2 dMod (w2 dAdd (w2 dMul (wIx (fC (.int 0))) (wL (fC (.int 48271)))) (wL (fC (.int 11)))) (wL (fC (.int 2147483647)))) (fC (.int 0))) (wSeq (wSet 5 (wIx (fC (.int 0)))) M2) (evK R many a acc (some r.toD) z5 z6) [.int c] = o := fun h => by
  refine wseq_ (wsetix_ (d := .int c1) (w2_ (w2_ (w2_ (wix_ rfl (zY (j := 0) rfl)) (wl_ rfl) (dMul_s (mulT (by decide) (by decide)))) (wl_ rfl) add_) (wl_ rfl) ((Ze (by decide)).trans (by rw [hc1]))) rfl (ixN_nat (k := 0) (by simp))) ?_
  refine wseq_ (wset_ (wix_ (d := .int c1) rfl (zY (j := 0) rfl))) ?_
  exact h
 have hpos : (0 : Int) < (many : Nat) := by omega
 have q0 := Int.emod_nonneg c1 (show ((many : Nat) : Int) ≠ 0 by omega)
 have isK : ∀ {a : Addr} {acc : List D} {z5 z6 : Option D} {x : Str}, kdS r = x → zC (f2 dEqS (fIx (zl false (zd 4)) (fC (.int 0))) (fC (.str x))) (evK R many a acc (some r.toD) z5 z6) = some true := fun e => zU (f2v (kindR (i := 4) (r := r) rfl) rfl (by rw [e]; exact eq_t))
 have noK : ∀ {a : Addr} {acc : List D} {z5 z6 : Option D} {x : Str}, kdS r ≠ x → zC (f2 dEqS (fIx (zl false (zd 4)) (fC (.int 0))) (fC (.str x))) (evK R many a acc (some r.toD) z5 z6) = some false := fun e => zU (f2v (kindR (i := 4) (r := r) rfl) rfl (eq_f e))
 by_cases ks : kdS r = "set"
 ·obtain ⟨ns, el, hln, hx⟩ := line_ok (c1 / 7) hm
  refine ⟨.one "set" [.int (c1 % (many : Nat)), .tup (ns.map .int)], c1, ⟨one_tk (by decide) (by decide) (fun p hp => ?_) (fun p hp => ?_), by rw [Rq.rk]; omega, by rw [Rq.cn]; exact cn_pos r⟩, fun a acc z5 z6 ha => ⟨some (.int c1), z6, head (wif_t (wl_ (isK ks)) ?_)⟩⟩
  ·simp only [List.mem_cons, List.not_mem_nil, or_false] at hp
   rcases hp with rfl | rfl <;> rfl
  ·simp only [List.mem_cons, List.not_mem_nil, or_false] at hp
   rcases hp with rfl | rfl
   ·exact .int _ _
   ·exact (Py.tup (n := 0) fun r hr => by obtain ⟨x, _, rfl⟩ := List.mem_map.mp hr; exact .int _ _).mono (by omega)
  ·rw [toD_one]
   exact wm_ (mupd_ (tup3v rfl (f2v (zT rfl) (zT rfl) (Ze hpos)) (fA2 (f2v (zT rfl) rfl (dDiv_s (by decide) (by decide))) (zT rfl) el)) rfl ha)
 by_cases kt : kdS r = "take"
 ·refine ⟨.one "take" [.int (c1 % (many : Nat))], c1, ⟨one_tk (by decide) (by decide) (fun p hp => ?_) (fun p hp => ?_), by rw [Rq.rk]; omega, by rw [Rq.cn]; exact cn_pos r⟩, fun a acc z5 z6 ha => ⟨some (.int c1), z6, head (wif_f (wl_ (noK ks)) (wif_t (wl_ (isK kt)) ?_))⟩⟩
  ·rw [List.mem_singleton.mp hp]; rfl
  ·rw [List.mem_singleton.mp hp]; exact .int _ _
  ·rw [toD_one]
   exact wm_ (mupd_ (tup2v rfl (f2v (zT rfl) (zT rfl) (Ze hpos))) rfl ha)
 cases r with
 | loop x =>
  obtain ⟨x', c', L, e⟩ := ih x (by simp [subs]) c1
  refine ⟨.loop x', c', ⟨by rw [Rq.tk]; exact L.tk, by rw [Rq.rk, Rq.rk]; have := L.rk; omega, by rw [Rq.cn, Rq.cn]; have := L.cn; omega⟩, fun a acc z5 z6 ha => ⟨some (.int c1), z6, head (wif_f (wl_ (noK ks)) (wif_f (wl_ (noK kt)) (wif_t (wl_ (isK rfl)) ?_)))⟩⟩
  rw [toD_loop, toD_loop]
  exact wown_ (wtup_ (Zb (wl_ rfl) (Zb (wcall_ (Zb (wl_ (fIxv (M.seqT (zT rfl)) rfl (zY (j := 1) rfl))) (Zb (wl_ (zT rfl)) (Zb (wl_ (zT rfl)) wnil_))) (e a)) wnil_)) (size_of (by simp))) rfl ha
 | either x y =>
  obtain ⟨x', c', L, e⟩ := ih x (by simp [subs]) c1
  obtain ⟨y', c2, L2, e2⟩ := ih y (by simp [subs]) c'
  refine ⟨.either x' y', c2, ⟨by rw [Rq.tk]; exact ⟨L.tk, L2.tk⟩, by rw [Rq.rk, Rq.rk]; have := L.rk; have := L2.rk; omega, by rw [Rq.cn, Rq.cn]; have := L.cn; have := L2.cn; omega⟩, fun a acc z5 z6 ha => ⟨some (.int c1), some (.lst (qDs x')), head (wif_f (wl_ (noK ks)) (wif_f (wl_ (noK kt)) (wif_f (wl_ (noK (x := "loop") (fun e => absurd (show ("either" : Str) = "loop" from e) (by decide)))) (wif_t (wl_ (isK rfl)) ?_))))⟩⟩
  rw [Zh, Zh]
  refine wseq_ (wset_ (wcall_ (Zb (wl_ (fIxv (M.seqT (zT rfl)) rfl (zY (j := 1) rfl))) (Zb (wl_ (zT rfl)) (Zb (wl_ (zT rfl)) wnil_))) (e a))) ?_
  exact wown_ (wtup_ (Zb (wl_ rfl) (Zb (wl_ (zT rfl)) (Zb (wcall_ (Zb (wl_ (fIxv (M.seqT (zT rfl)) rfl (zY (j := 2) rfl))) (Zb (wl_ (zT rfl)) (Zb (wl_ (zT rfl)) wnil_))) (e2 a)) wnil_))) (size_of (by simp))) rfl ha
 | one x ps =>
  have t := tr
  rw [Rq.tk] at t
  exact ⟨.one x ps, c1, ⟨tr, Nat.le_refl _, Nat.le_refl _⟩, fun a acc z5 z6 ha => ⟨some (.int c1), z6, head (wif_f (wl_ (noK ks)) (wif_f (wl_ (noK kt)) (wif_f (wl_ (noK t.1.2.1)) (wif_f (wl_ (noK t.1.2.2)) (wm_ (mupd_ (zT rfl) rfl ha))))))⟩⟩
 | call k =>
  exact ⟨.call k, c1, ⟨tr, Nat.le_refl _, Nat.le_refl _⟩, fun a acc z5 z6 ha => ⟨some (.int c1), z6, head (wif_f (wl_ (noK ks)) (wif_f (wl_ (noK kt)) (wif_f (wl_ (noK (x := "loop") (fun e => absurd (show ("call" : Str) = "loop" from e) (by decide)))) (wif_f (wl_ (noK (x := "either") (fun e => absurd (show ("call" : Str) = "either" from e) (by decide)))) (wm_ (mupd_ (zT rfl) rfl ha))))))⟩⟩
theorem like_rows {n many : Nat} {R : D} {M1 : WM} : ∀ (ss : List Rq), (∀ r ∈ ss, ∀ c : Int, ∃ (r' : Rq) (c' : Int), Lk r r' ∧ ∀ a acc z5 z6, acc.length ≤ 1000 → ∃ z5' z6', M1 (evK R many a acc (some r.toD) z5 z6) [.int c] = some (.nx (evK R many a (acc ++ [r'.toD]) (some r.toD) z5' z6'), [.int c'])) →
  ∀ c : Int, ∃ (ss' : List Rq) (c' : Int), Lks ss ss' ∧ ∀ a acc z4 z5 z6, acc.length + ss.length ≤ 1000 → ∃ z4' z5' z6', forW (zD 4) M1 (ss.map Rq.toD) (evK R many a acc z4 z5 z6) [.int c] = some (.nx (evK R many a (acc ++ qDs ss') z4' z5' z6'), [.int c'])
 | [], h, c => ⟨[], c, ⟨by rw [tks]; trivial, Nat.le_refl _, Nat.le_refl _, rfl⟩, fun a acc z4 z5 z6 _ => ⟨z4, z5, z6, by rw [qDs, List.append_nil]; rfl⟩⟩
 | r :: ss, h, c => by
  obtain ⟨r', c1, L, e⟩ := h r List.mem_cons_self c
  obtain ⟨ss', c', Ls, es⟩ := like_rows (n := n) ss (fun x hx => h x (List.mem_cons_of_mem _ hx)) c1
  refine ⟨r' :: ss', c', ⟨by rw [tks]; exact ⟨L.tk, Ls.tk⟩, by rw [rks, rks]; have := L.rk; have := Ls.rk; omega, by rw [cns, cns]; have := L.cn; have := Ls.cn; omega, by simp [Ls.len]⟩, fun a acc z4 z5 z6 hl => ?_⟩
  simp only [List.length_cons] at hl
  obtain ⟨y5, y6, e1⟩ := e a acc z5 z6 (by omega)
  obtain ⟨y4', y5', y6', e2⟩ := es a (acc ++ [r'.toD]) (some r.toD) y5 y6 (by rw [List.length_append]; simp only [List.length_cons, List.length_nil]; omega)
  refine ⟨y4', y5', y6', ?_⟩
  rw [List.map_cons, forW]
  show ((some (evK R many a acc (some r.toD) z5 z6) : Option Ev).bind _) = _
  rw [oB, e1, oB]
  show forW (zD 4) M1 (ss.map Rq.toD) (evK R many a (acc ++ [r'.toD]) (some r.toD) y5 y6) [.int c1] = _
  rw [e2, qDs, List.append_assoc]
  rfl
theorem like_step {n many : Nat} (h1 : 1 ≤ many) (hm : many ≤ 6) {rs : List Rq} (hl : rs.length ≤ 1000) (ht : tks rs) (ih : ∀ r ∈ rs, ∀ x ∈ subs r, LikeAt n many x) : LikeAt (n + 1) many rs := by
 intro c
 obtain ⟨ss', c', L, e⟩ := like_rows (n := n) (many := many) (R := .lst (qDs rs)) rs (fun r hr c => like_row h1 hm (tks_mem ht hr) (ih r hr) c) c
 refine ⟨ss', c', L, fun a => ?_⟩
 obtain ⟨z4, z5, z6, ef⟩ := e a [] none none none (by simpa using hl)
 rw [R'like]
 refine wdef_ rfl ?_
 unfold b'like
 refine wseq_ (ρ1 := evK (.lst (qDs rs)) many a [] none none none) (wm_ rfl) ?_
 refine wseq_ (wfor_ (ds := rs.map Rq.toD) (by rw [← qDs_map]; exact seqL (zT rfl)) ef) ?_
 exact wret_ (wl_ (zT rfl))
theorem like_ok {many : Nat} (h1 : 1 ≤ many) (hm : many ≤ 6) {rs : List Rq} (hk : rks r0 rs ≤ 6) (ht : tks rs) (hc : cns rs ≤ 1000) : ∀ c : Int, ∃ (x' : List Rq) (c' : Int), Lks rs x' ∧ ∀ a, m'like [.lst (qDs rs), .int (many : Nat), .adr a] [.int c] = some (.lst (qDs x'), [.int c']) :=
 tower (P := fun n x => LikeAt n many x) (fun n rs a b c => like_step h1 hm a b c) 6 40 (by omega) rs hk ht hc
theorem skip_tk (x : Str) (h : x = "skip" ∨ x = "halt") : (Rq.one x []).tk := one_tk (by rcases h with rfl | rfl <;> decide) (by rcases h with rfl | rfl <;> decide) (fun p hp => by cases hp) (fun p hp => by cases hp)
structure Ot (r : Rq) (rs : List Rq) : Prop where
 tk : tks rs
 rk : rks r0 rs ≤ max (r.rk r0) 1
 cn : cns rs ≤ 2 * r.cn
 len : rs.length ≤ 2
theorem ot_one {r s : Rq} (ht : s.tk) (hk : s.rk r0 ≤ max (r.rk r0) 1) (hc : s.cn ≤ r.cn) : Ot r [s] := ⟨by rw [tks, tks]; exact ⟨ht, trivial⟩, by rw [rks, rks]; omega, by rw [cns, cns]; omega, by simp⟩
theorem other_ok {r : Rq} (tr : r.tk) (c count : Int) : ∃ rs, m'other_row [r.toD, .int c, .int count] = some (.lst (qDs rs)) ∧ Ot r rs := by
 suffices h : Wo (m'other_row [r.toD, .int c, .int count]) fun d => ∃ rs, d = .lst (qDs rs) ∧ Ot r rs by
  obtain ⟨d, e, rs, rfl, q⟩ := h
  exact ⟨rs, e, q⟩
 have one : ∀ s : Rq, D.lst [s.toD] = .lst (qDs [s]) := fun s => by rw [qDs, qDs]
 have cp := cn_pos r
 unfold m'other_row b'other_row
 rw [wo_def]
 refine ⟨rfl, ?_⟩
 simp only [startD, zMap, zLen, List.replicate, zApp, Nat.zero_add, Nat.reduceAdd, Nat.reduceSub]
 rw [zF]
 refine if_b (zU (f2v (f2v rfl rfl (Ze (by decide))) rfl dEqS_)) (fun _ => ?_) (fun _ => ?_)
 ·exact ret_T nilv ⟨[], by rw [qDs], by rw [tks]; trivial, by rw [rks]; omega, by rw [cns]; omega, by simp⟩
 rw [mNext_, zL, zu, zF]
 refine if_b (zU (f2v (f2v rfl rfl (Ze (by decide))) rfl dEqS_)) (fun _ => ?_) (fun _ => ?_)
 ·exact ret_T (d := .lst [r.toD, r.toD]) rfl ⟨[r, r], by rw [qDs, qDs, qDs], by rw [tks, tks, tks]; exact ⟨tr, tr, trivial⟩, by rw [rks, rks, rks]; omega, by rw [cns, cns, cns]; omega, by simp⟩
 rw [mNext_, zL, zu, zF]
 refine if_b (andc (zU (f2v (kindR (i := 0) (r := r) rfl) rfl rfl)) fun _ => zU (f2v (f2v rfl rfl (Ze (by decide))) rfl lt_)) (fun e => ?_) (fun _ => ?_)
 ·simp only [Bool.and_eq_true, decide_eq_true_eq] at e
  obtain ⟨a, b, rfl⟩ : ∃ a b, r = .either a b := by
   cases r with
   | one x ps => rw [Rq.tk] at tr; exact absurd e.1 tr.1.2.2
   | call k => exact absurd (show ("call" : Str) = "either" from e.1) (by decide)
   | loop a => exact absurd (show ("loop" : Str) = "either" from e.1) (by decide)
   | either a b => exact ⟨a, b, rfl⟩
  rw [Rq.tk] at tr
  refine ret_T (d := .lst [.tup [.str "either", .lst (qDs b), .lst (qDs a)]]) (lst1_ (tup3v rfl ?_ ?_)) ⟨[.either b a], by rw [qDs, qDs, Zh], ot_one (by rw [Rq.tk]; exact ⟨tr.2, tr.1⟩) (by simp only [Rq.rk]; omega) (by simp only [Rq.cn]; omega)⟩
  ·rw [Zh]; exact fIxv (M.seqT (zT rfl)) rfl (zY (j := 2) rfl)
  ·rw [Zh]; exact fIxv (M.seqT (zT rfl)) rfl (zY (j := 1) rfl)
 rw [mNext_, zL, zu, zF]
 refine if_b (andc (inR tr rfl) fun _ => zU (f2v (f2v rfl rfl (Ze (by decide))) rfl dEqS_)) (fun e => ?_) (fun _ => ?_)
 ·simp only [Bool.and_eq_true, decide_eq_true_eq] at e
  have ec : fComp 1 (zl false (fCutT (zl false (zd 0)) (fPart (fC (.int 1))) fNo)) (zD 3) fYes (fLst zj) [some r.toD, some (.int c), some (.int count)] = some (.lst ((subs r).map fun _ => .lst [])) := by
   have := fcomp_pairs (k := 1) (fl := zl false (fCutT (zl false (zd 0)) (fPart (fC (.int 1))) fNo)) (u := zD 3) (c := fYes) (e := fLst zj) (ρ := [some r.toD, some (.int c), some (.int count)]) ((subs r).map fun x => (.lst (qDs x), .lst [])) (fun ρ => ∃ z : Option D, ρ = [some r.toD, some (.int c), some (.int count), z])
    ((restR e.1 rfl).trans (by rw [List.map_map]; rfl)) (by rw [List.length_map]; have := subs_len r; omega) ⟨none, rfl⟩ (by
     rintro p ρ hp ⟨z, rfl⟩
     obtain ⟨x, hx, rfl⟩ := List.mem_map.mp hp
     exact ⟨_, rfl, rfl, nilv, _, rfl⟩)
   rw [this, List.map_map]
   rfl
  refine ret_T (lst1_ (catT_ (tup1_ (kindR (i := 0) (r := r) rfl)) (tupL ec) (by rw [List.length_map]; have := subs_len r; simp only [List.length_cons, List.length_nil]; omega))) ?_
  cases r with
  | one x ps => cases e.1
  | call k => cases e.1
  | loop a => exact ⟨[.loop []], by rw [qDs, qDs, toD_loop, qDs]; rfl, ot_one (by rw [Rq.tk, tks]; trivial) (by simp only [Rq.rk, rks]; omega) (by simp only [Rq.cn, cns]; omega)⟩
  | either a b => exact ⟨[.either [] []], by rw [qDs, qDs, Zh, qDs]; rfl, ot_one (by rw [Rq.tk, tks]; exact ⟨trivial, trivial⟩) (by simp only [Rq.rk, rks]; omega) (by simp only [Rq.cn, cns]; omega)⟩
 rw [mNext_, zL, zu, zF]
 refine if_b (andc (zU (f2v (kindR (i := 0) (r := r) rfl) rfl rfl)) fun _ => andc (zU (f2v rfl rfl gt_)) fun _ => zU (f2v (f2v rfl rfl (Ze (by decide))) rfl lt_)) (fun e => ?_) (fun _ => ?_)
 ·simp only [Bool.and_eq_true, decide_eq_true_eq] at e
  have hp : (0 : Int) < count - 1 := by omega
  have q0 := Int.emod_nonneg (c / 7) (show count - 1 ≠ 0 by omega)
  obtain ⟨k, hk⟩ : ∃ k : Nat, 1 + c / 7 % (count - 1) = (k : Nat) := ⟨(1 + c / 7 % (count - 1)).toNat, by omega⟩
  exact ret_T (lst1_ (tup2v rfl (f2v rfl (f2v (f2v rfl rfl (dDiv_s (by decide) (by decide))) (f2v rfl rfl sub_) (Ze hp)) (add_.trans (by rw [hk]))))) ⟨[.call k], by rw [qDs, qDs, toD_call], ot_one (by rw [Rq.tk]; trivial) (by simp only [Rq.rk]; show 0 + 1 ≤ _; omega) (by simp only [Rq.cn]; omega)⟩
 rw [mNext_, zL, zu]
 have e0 : fLst (ze (fLst (ze (fTup (ze (fC (.str "skip")) zj)) zj)) (ze (fLst (ze (fTup (ze (fC (.str "halt")) zj)) zj)) zj)) [some r.toD, some (.int c), some (.int count)] = some (.lst [.lst [.tup [.str "skip"]], .lst [.tup [.str "halt"]]]) := rfl
 obtain ⟨d, hd, ed⟩ := at_mod (L := [.lst [.tup [.str "skip"]], .lst [.tup [.str "halt"]]]) (c := c / 7) (by simp)
 refine ret_ (fIxv (seqL e0) (f2v (f2v rfl rfl (dDiv_s (by decide) (by decide))) rfl (Ze (by decide))) ed) ?_
 simp only [List.mem_cons, List.not_mem_nil, or_false] at hd
 rcases hd with rfl | rfl
 ·exact ⟨[.one "skip" []], by rw [qDs, qDs, toD_one], ot_one (skip_tk _ (.inl rfl)) (by simp only [Rq.rk]; omega) (by simp only [Rq.cn]; omega)⟩
 ·exact ⟨[.one "halt" []], by rw [qDs, qDs, toD_one], ot_one (skip_tk _ (.inr rfl)) (by simp only [Rq.rk]; omega) (by simp only [Rq.cn]; omega)⟩
theorem wcat_ {F G : WF} {ρ : Ev} {S S1 S2 : List D} {x y : List D} (h1 : F ρ S = some (.tup x, S1)) (h2 : G ρ S1 = some (.tup y, S2)) (hl : x.length + y.length ≤ 1000) : wCat F G ρ S = some (.tup (x ++ y), S2) := by
 unfold wCat
 rw [h1]
 simp only [oB, asT2]
 rw [h2]
 simp only [oB, asT2]
 rw [dTup_ (size_of (by rw [List.length_append]; omega))]
 rfl
theorem wtuple_ {F : WF} {ρ : Ev} {S S1 : List D} {x : List D} (h1 : F ρ S = some (.lst x, S1)) : wTuple F ρ S = some (.tup x, S1) := by
 unfold wTuple
 rw [h1]
 rfl
theorem mext_ {j : Nat} {f : Ev → Option D} {ρ : Ev} {es ds : List D} (h : f ρ = some (.lst es)) (h2 : ρ[j]? = some (some (.lst ds))) (hl : ds.length + es.length ≤ 100000) : mExt j f ρ = some (.nx (ρ.set j (some (.lst (ds ++ es))))) := by
 unfold mExt
 rw [h, oB]
 show Option.bind (some es) _ = _
 rw [oB, h2]
 simp only [Option.join_some, oB, asL]
 rw [if_pos (size_of (by omega))]
structure Bt (r : Rq) (rs : List Rq) : Prop where
 tk : tks rs
 rk : rks r0 rs ≤ r.rk r0 + 1
 cn : cns rs ≤ 2 * r.cn
 len : rs.length ≤ 2
structure Bts (rs rs' : List Rq) : Prop where
 tk : tks rs'
 rk : rks r0 rs' ≤ rks r0 rs + 1
 cn : cns rs' ≤ 2 * cns rs
def BentAt (n : Nat) (cell count : Int) (x : List Rq) : Prop := ∀ t : Int, ∃ (x' : List Rq) (t' : Int), Bts x x' ∧ ∀ a, R'bent n [.lst (qDs x), .adr a, .int cell, .int count] [.int t] = some (.lst (qDs x'), [.int t'])
abbrev evB (R : D) (a : Addr) (cell count : Int) (acc : List D) (z5 : Option D) : Ev := [some R, some (.adr a), some (.int cell), some (.int count), some (.lst acc), z5]
noncomputable abbrev bentM (n : Nat) : WM := (wSeq (wSetIx (w2 dSub (wIx (fC (.int 0))) (wL (fC (.int 1)))) (fC (.int 0)))
  (wIf (wTest (w2 dEqS (wIx (fC (.int 0))) (wL (f1 dNeg (fC (.int 1))))))
  (wM (mExt 4 (fA m'other_row (ze (zd 5) (ze (zd 2) (ze (zd 3) zj))))))
  (wIf (wL (zC (f2 dInT (fIx (zl false (zd 5)) (fC (.int 0))) (fTup (ze (fC (.str "either")) (ze (fC (.str "loop")) zj))))))
  (wOwn 4 (wCat (wL (fTup (ze (fIx (zl false (zd 5)) (fC (.int 0))) zj))) (wTuple (wComp 1 (zl false (fCutT (zl false (zd 5)) (fPart (fC (.int 1))) fNo)) (zD 6) (wCall 1 (R'bent n) (zH (wL (zd 6)) (zH (wL (zd 1)) (zH (wL (zd 2)) (zH (wL (zd 3)) (wL zj))))))))))
  (wM (mUpd 4 zS (zd 5))))))
theorem bent_row {n : Nat} {cell count : Int} {R : D} {r : Rq} (tr : r.tk) (ih : ∀ x ∈ subs r, BentAt n cell count x) (t : Int) : ∃ (rs' : List Rq) (t' : Int), Bt r rs' ∧ ∀ a acc, acc.length ≤ 1000 → bentM n (evB R a cell count acc (some r.toD)) [.int t] = some (.nx (evB R a cell count (acc ++ qDs rs') (some r.toD)), [.int t']) := by
 have head : ∀ {M2 : WM} {a : Addr} {acc : List D} {o : Option (Out × List D)}, M2 (evB R a cell count acc (some r.toD)) [.int (t - 1)] = o → wSeq (wSetIx (w2 dSub (wIx (fC (.int 0))) (wL (fC (.int 1)))) (fC (.int 0))) M2 (evB R a cell count acc (some r.toD)) [.int t] = o := fun h =>
  wseq_ (wsetix_ (d := .int (t - 1)) (w2_ (wix_ rfl (zY (j := 0) rfl)) (wl_ rfl) sub_) rfl (ixN_nat (k := 0) (by simp))) h
 have tst : ∀ {a : Addr} {acc : List D}, wTest (w2 dEqS (wIx (fC (.int 0))) (wL (f1 dNeg (fC (.int 1))))) (evB R a cell count acc (some r.toD)) [.int (t - 1)] = some (decide (t - 1 = -1), [.int (t - 1)]) := wtest_ (w2_ (wix_ rfl (zY (j := 0) rfl)) (wl_ (x := .int (-1)) rfl) dEqS_)
 by_cases h1 : t - 1 = -1
 ·obtain ⟨rs', eo, O⟩ := other_ok tr cell count
  refine ⟨rs', t - 1, ⟨O.tk, by have := O.rk; omega, O.cn, O.len⟩, fun a acc ha => head (wif_t (tst.trans (by rw [decide_eq_true h1])) (wm_ ?_))⟩
  exact mext_ (fA3 (zT rfl) (zT rfl) (zT rfl) eo) rfl (by have := O.len; rw [qDs_map, List.length_map]; omega)
 ·have one : ∀ s : Rq, qDs [s] = [s.toD] := fun s => by rw [qDs, qDs]
  cases ho : opn r with
  | false =>
   refine ⟨[r], t - 1, ⟨by rw [tks, tks]; exact ⟨tr, trivial⟩, by rw [rks, rks]; omega, by rw [cns, cns]; omega, by simp⟩, fun a acc ha => head (wif_f (tst.trans (by rw [decide_eq_false h1])) (wif_f (wl_ ((inR (i := 5) tr rfl).trans (by rw [ho]))) (wm_ ?_)))⟩
   rw [one]
   exact mupd_ (zT rfl) rfl ha
  | true =>
   have fin : ∀ {r' : Rq} {t' : Int}, r'.tk → r'.rk r0 ≤ r.rk r0 + 1 → r'.cn ≤ 2 * r.cn → (∀ a acc, wCat (wL (fTup (ze (fIx (zl false (zd 5)) (fC (.int 0))) zj))) (wTuple (wComp 1 (zl false (fCutT (zl false (zd 5)) (fPart (fC (.int 1))) fNo)) (zD 6) (wCall 1 (R'bent n) (zH (wL (zd 6)) (zH (wL (zd 1)) (zH (wL (zd 2)) (zH (wL (zd 3)) (wL zj)))))))) (evB R a cell count acc (some r.toD)) [.int (t - 1)] = some (r'.toD, [.int t'])) → ∃ (rs' : List Rq) (t' : Int), Bt r rs' ∧ ∀ a acc, acc.length ≤ 1000 → bentM n (evB R a cell count acc (some r.toD)) [.int t] = some (.nx (evB R a cell count (acc ++ qDs rs') (some r.toD)), [.int t']) := fun {r'} {t'} h2 h3 h4 h5 => by
    refine ⟨[r'], t', ⟨by rw [tks, tks]; exact ⟨h2, trivial⟩, by rw [rks, rks]; omega, by rw [cns, cns]; omega, by simp⟩, fun a acc ha => head (wif_f (tst.trans (by rw [decide_eq_false h1])) (wif_t (wl_ ((inR (i := 5) tr rfl).trans (by rw [ho]))) ?_))⟩
    rw [one]
    exact wown_ (h5 a acc) rfl ha
   cases r with
   | one x ps => cases ho
   | call k => cases ho
   | loop x =>
    obtain ⟨x', t1, L, e⟩ := ih x (by simp [subs]) (t - 1)
    refine fin (r' := .loop x') (t' := t1) (by rw [Rq.tk]; exact L.tk) (by rw [Rq.rk, Rq.rk]; have := L.rk; omega) (by rw [Rq.cn, Rq.cn]; have := L.cn; omega) fun a acc => ?_
    rw [toD_loop x']
    exact wcat_ (x := [.str "loop"]) (y := [.lst (qDs x')]) (wl_ (tup1_ (kindR (i := 5) (r := .loop x) rfl))) (wtuple_ (wcomp_ (ds := [.lst (qDs x)]) (restR (i := 5) (r := .loop x) rfl rfl) (compW_cons rfl (wcall_ (Zb (wl_ (zT rfl)) (Zb (wl_ (zT rfl)) (Zb (wl_ (zT rfl)) (Zb (wl_ (zT rfl)) wnil_)))) (e a)) compW_nil) (size_of (by simp)))) (by simp)
   | either x y =>
    obtain ⟨x', t1, L, e⟩ := ih x (by simp [subs]) (t - 1)
    obtain ⟨y', t2, L2, e2⟩ := ih y (by simp [subs]) t1
    refine fin (r' := .either x' y') (t' := t2) (by rw [Rq.tk]; exact ⟨L.tk, L2.tk⟩) (by rw [Rq.rk, Rq.rk]; have := L.rk; have := L2.rk; omega) (by rw [Rq.cn, Rq.cn]; have := L.cn; have := L2.cn; omega) fun a acc => ?_
    rw [Zh x' y']
    exact wcat_ (x := [.str "either"]) (y := [.lst (qDs x'), .lst (qDs y')]) (wl_ (tup1_ (kindR (i := 5) (r := .either x y) rfl))) (wtuple_ (wcomp_ (ds := [.lst (qDs x), .lst (qDs y)]) (restR (i := 5) (r := .either x y) rfl rfl) (compW_cons rfl (wcall_ (Zb (wl_ (zT rfl)) (Zb (wl_ (zT rfl)) (Zb (wl_ (zT rfl)) (Zb (wl_ (zT rfl)) wnil_)))) (e a)) (compW_cons rfl (wcall_ (Zb (wl_ (zT rfl)) (Zb (wl_ (zT rfl)) (Zb (wl_ (zT rfl)) (Zb (wl_ (zT rfl)) wnil_)))) (e2 a)) compW_nil)) (size_of (by simp)))) (by simp)
theorem tks_app : ∀ {a b : List Rq}, tks a → tks b → tks (a ++ b)
 | [], b, _, h => h
 | r :: a, b, h1, h2 => by rw [tks] at h1; rw [List.cons_append, tks]; exact ⟨h1.1, tks_app h1.2 h2⟩
theorem rks_app (g : Nat → Nat) : ∀ a b : List Rq, rks g (a ++ b) = max (rks g a) (rks g b)
 | [], b => by rw [List.nil_append, rks]; omega
 | r :: a, b => by rw [List.cons_append, rks, rks, rks_app g a b]; omega
theorem cns_app : ∀ a b : List Rq, cns (a ++ b) = cns a + cns b
 | [], b => by rw [List.nil_append, cns]; omega
 | r :: a, b => by rw [List.cons_append, cns, cns, cns_app a b]; omega
theorem qDs_app (a b : List Rq) : qDs (a ++ b) = qDs a ++ qDs b := by rw [qDs_map, qDs_map, qDs_map, List.map_append]
theorem bent_rows {n : Nat} {cell count : Int} {R : D} : ∀ (ss : List Rq), (∀ r ∈ ss, ∀ t : Int, ∃ (rs' : List Rq) (t' : Int), Bt r rs' ∧ ∀ a acc, acc.length ≤ 1000 → bentM n (evB R a cell count acc (some r.toD)) [.int t] = some (.nx (evB R a cell count (acc ++ qDs rs') (some r.toD)), [.int t'])) →
  ∀ t : Int, ∃ (ss' : List Rq) (t' : Int), Bts ss ss' ∧ ∀ a acc z5, acc.length + 2 * ss.length ≤ 1000 → ∃ z5', forW (zD 5) (bentM n) (ss.map Rq.toD) (evB R a cell count acc z5) [.int t] = some (.nx (evB R a cell count (acc ++ qDs ss') z5'), [.int t'])
 | [], h, t => ⟨[], t, ⟨by rw [tks]; trivial, Nat.le_succ _, by rw [cns]; omega⟩, fun a acc z5 _ => ⟨z5, by rw [qDs, List.append_nil]; rfl⟩⟩
 | r :: ss, h, t => by
  obtain ⟨rs', t1, L, e⟩ := h r List.mem_cons_self t
  obtain ⟨ss', t', Ls, es⟩ := bent_rows ss (fun x hx => h x (List.mem_cons_of_mem _ hx)) t1
  refine ⟨rs' ++ ss', t', ⟨tks_app L.tk Ls.tk, by rw [rks_app, rks]; have := L.rk; have := Ls.rk; omega, by rw [cns_app, cns]; have := L.cn; have := Ls.cn; omega⟩, fun a acc z5 hl => ?_⟩
  simp only [List.length_cons] at hl
  obtain ⟨y5, e2⟩ := es a (acc ++ qDs rs') (some r.toD) (by rw [List.length_append, qDs_map, List.length_map]; have := L.len; omega)
  refine ⟨y5, ?_⟩
  rw [List.map_cons, forW]
  show ((some (evB R a cell count acc (some r.toD)) : Option Ev).bind _) = _
  rw [oB, e a acc (by omega), oB]
  show forW (zD 5) (bentM n) (ss.map Rq.toD) (evB R a cell count (acc ++ qDs rs') (some r.toD)) [.int t1] = _
  rw [e2, qDs_app, List.append_assoc]
theorem bent_step {n : Nat} {cell count : Int} {rs : List Rq} (hl : rs.length ≤ 500) (ht : tks rs) (ih : ∀ r ∈ rs, ∀ x ∈ subs r, BentAt n cell count x) : BentAt (n + 1) cell count rs := by
 intro t
 obtain ⟨ss', t', L, e⟩ := bent_rows (n := n) (cell := cell) (count := count) (R := .lst (qDs rs)) rs (fun r hr t => bent_row (tks_mem ht hr) (ih r hr) t) t
 refine ⟨ss', t', L, fun a => ?_⟩
 obtain ⟨z5, ef⟩ := e a [] none (by simp; omega)
 rw [R'bent]
 refine wdef_ rfl ?_
 unfold b'bent
 refine wseq_ (ρ1 := evB (.lst (qDs rs)) a cell count [] none) (wm_ rfl) ?_
 refine wseq_ (wfor_ (ds := rs.map Rq.toD) (by rw [← qDs_map]; exact seqL (zT rfl)) ef) ?_
 exact wret_ (wl_ (zT rfl))
theorem bent_all {cell count : Int} : ∀ (h n : Nat), h + 1 ≤ n → ∀ rs : List Rq, rks r0 rs ≤ h → tks rs → cns rs ≤ 500 → BentAt n cell count rs
 | 0, n, hn, rs, hk, ht, hc => by
  obtain ⟨n, rfl⟩ : ∃ m, n = m + 1 := ⟨n - 1, by omega⟩
  refine bent_step (Nat.le_trans (len_cns rs) hc) ht fun r hr x hx => ?_
  have h1 := rks_mem (g := r0) hr
  have h2 := subs_rk (g := r0) hx
  omega
 | h + 1, n, hn, rs, hk, ht, hc => by
  obtain ⟨n, rfl⟩ : ∃ m, n = m + 1 := ⟨n - 1, by omega⟩
  refine bent_step (Nat.le_trans (len_cns rs) hc) ht fun r hr x hx => ?_
  have h1 := rks_mem (g := r0) hr
  have h2 := subs_rk (g := r0) hx
  have h3 := cns_mem hr
  obtain ⟨t1, c1⟩ := tk_subs (tks_mem ht hr) hx
  exact bent_all h n (by omega) x (by omega) t1 (by omega)
theorem bent_ok (cell count : Int) {rs : List Rq} (hk : rks r0 rs ≤ 6) (ht : tks rs) (hc : cns rs ≤ 500) : ∀ t : Int, ∃ (x' : List Rq) (t' : Int), Bts rs x' ∧ ∀ a, m'bent [.lst (qDs rs), .adr a, .int cell, .int count] [.int t] = some (.lst (qDs x'), [.int t']) := bent_all 6 40 (by omega) rs hk ht hc
mutual
theorem ok_tk {nb : Nat} : ∀ r : Rq, r.ok nb → r.tk
 | .one x ps, h => by rw [Rq.ok] at h; rw [Rq.tk]; exact ⟨h.1, h.2.2.1, h.2.2.2⟩
 | .call k, _ => by rw [Rq.tk]; trivial
 | .loop a, h => by rw [Rq.ok] at h; rw [Rq.tk]; exact oks_tks a h.1
 | .either a b, h => by rw [Rq.ok] at h; rw [Rq.tk]; exact ⟨oks_tks a h.1.1, oks_tks b h.2.1⟩
theorem oks_tks {nb : Nat} : ∀ rs : List Rq, oks nb rs → tks rs
 | [], _ => by rw [tks]; trivial
 | r :: rs, h => by rw [oks] at h; rw [tks]; exact ⟨ok_tk r h.1, oks_tks rs h.2⟩
end
mutual
theorem cn_nd : ∀ r : Rq, r.cn ≤ nd r.toD
 | .one x ps => by rw [toD_one, nd_tup, Rq.cn]; omega
 | .call k => by rw [toD_call, nd_tup, Rq.cn]; omega
 | .loop a => by have := cns_nds a; rw [toD_loop, nd_tup, nds, nds, nds, nd_str, nd_lst, Rq.cn]; omega
 | .either a b => by have := cns_nds a; have := cns_nds b; rw [Zh, nd_tup, nds, nds, nds, nds, nd_str, nd_lst, nd_lst, Rq.cn]; omega
theorem cns_nds : ∀ rs : List Rq, cns rs ≤ nds (qDs rs)
 | [] => by rw [cns]; omega
 | r :: rs => by have := cn_nd r; have := cns_nds rs; rw [cns, qDs, nds]; omega
end
mutual
theorem alk_comm : ∀ r s : Rq, alk r s = alk s r
 | .one x _, .one y _ => by rw [alk, alk]; by_cases h : x = y <;> simp [h, eq_comm]
 | .one x _, .call j => by simp only [alk]
 | .one x _, .loop a => by simp only [alk]
 | .one x _, .either a b => by simp only [alk]
 | .call k, .one y _ => by simp only [alk]
 | .call k, .call j => by rw [alk, alk]; by_cases h : k = j <;> simp [h, eq_comm]
 | .call k, .loop a => by simp only [alk]
 | .call k, .either a b => by simp only [alk]
 | .loop a, .one y _ => by simp only [alk]
 | .loop a, .call j => by simp only [alk]
 | .loop a, .loop b => by rw [alk, alk, alks_comm a b]
 | .loop a, .either b c => by simp only [alk]
 | .either a b, .one y _ => by simp only [alk]
 | .either a b, .call j => by simp only [alk]
 | .either a b, .loop c => by simp only [alk]
 | .either a b, .either c d => by rw [alk, alk, alks_comm a c, alks_comm b d]
theorem alks_comm : ∀ a b : List Rq, alks a b = alks b a
 | [], [] => rfl
 | [], _ :: _ => by rw [alks, alks] <;> simp
 | _ :: _, [] => by rw [alks, alks] <;> simp
 | r :: a, s :: b => by rw [alks, alks, alk_comm r s, alks_comm a b]
end
mutual
theorem alk_self : ∀ r : Rq, alk r r = true
 | .one x _ => by rw [alk]; simp
 | .call k => by rw [alk]; simp
 | .loop a => by rw [alk, alks_self a]
 | .either a b => by rw [alk, alks_self a, alks_self b]; rfl
theorem alks_self : ∀ a : List Rq, alks a a = true
 | [] => by rw [alks]
 | r :: a => by rw [alks, alk_self r, alks_self a]; rfl
end
theorem all_comm : ∀ A B : List (List Rq), all2 alks A B = all2 alks B A
 | [], [] => rfl
 | [], _ :: _ => rfl
 | _ :: _, [] => rfl
 | a :: A, b :: B => by rw [all2, all2, alks_comm a b, all_comm A B]
theorem all_self : ∀ A : List (List Rq), all2 alks A A = true
 | [] => rfl
 | a :: A => by rw [all2, alks_self a, all_self A]; rfl
structure Pk (k c : Nat) (B : List (List Rq)) : Prop where
 tk : ∀ b ∈ B, tks b
 rk : ∀ b ∈ B, rks r0 b ≤ k
 cn : ∀ b ∈ B, cns b ≤ c
theorem Pk.pq {k c : Nat} {B : List (List Rq)} (h : Pk k c B) (hl : B.length ≤ 5) (hk : k ≤ 6) (hc : c ≤ 500) : Pq B := ⟨hl, h.tk, fun b hb => Nat.le_trans (h.rk b hb) hk, fun b hb => Nat.le_trans (h.cn b hb) hc⟩
theorem trees_of : ∀ {L : List (List D)}, (∀ b ∈ L, ∃ ts : List Rq, b = qDs ts ∧ tks ts ∧ rks r0 ts ≤ 3 ∧ cns ts ≤ 40) → ∃ A : List (List Rq), L.map D.lst = A.map (fun a => .lst (qDs a)) ∧ A.length = L.length ∧ Pk 3 40 A
 | [], _ => ⟨[], rfl, rfl, ⟨fun b hb => (by cases hb), fun b hb => (by cases hb), fun b hb => (by cases hb)⟩⟩
 | b :: L, h => by
  obtain ⟨ts, e1, h1, h2, h3⟩ := h b List.mem_cons_self
  obtain ⟨A, e2, hl, P⟩ := trees_of fun x hx => h x (List.mem_cons_of_mem _ hx)
  refine ⟨ts :: A, by rw [List.map_cons, List.map_cons, e2, e1], by simp [hl], ⟨fun x hx => ?_, fun x hx => ?_, fun x hx => ?_⟩⟩
  ·rcases List.mem_cons.mp hx with rfl | hx
   ·exact h1
   ·exact P.tk x hx
  ·rcases List.mem_cons.mp hx with rfl | hx
   ·exact h2
   ·exact P.rk x hx
  ·rcases List.mem_cons.mp hx with rfl | hx
   ·exact h3
   ·exact P.cn x hx
theorem prog_trees (ns : List Int) {many : Nat} (hm : many ≤ 6) : ∃ A : List (List Rq), m'program [.scr ns, .int 0, .int (many : Nat), .int 18] = some (.tup [.int (many : Nat), bodsQ A]) ∧ 1 ≤ A.length ∧ A.length ≤ 4 ∧ Pk 3 40 A := by
 obtain ⟨L, e, l1, l4, hG⟩ := prog_ok ns (at_ := 0) (many := many) (by omega) hm 18
 obtain ⟨A, eA, hl, P⟩ := trees_of (L := L) fun b hbm => by
  obtain ⟨k, hk, eb⟩ := List.getElem_of_mem hbm
  have g := hG k hk
  rw [show L.getD k [] = b by simp [List.getD, hk, eb]] at g
  obtain ⟨ts, a1, a2, _, a4, _⟩ := gq_list g.gq
  have h1 : hb L.length k ≤ 3 := by unfold hb; split <;> omega
  have h2 := g.nd
  have h3 := cns_nds ts
  rw [← a1] at h3
  exact ⟨ts, a1, oks_tks ts a2, by omega, by split at h2 <;> omega⟩
 refine ⟨A, ?_, by omega, by omega, P⟩
 unfold bodsQ
 rw [← eA]
 exact e
theorem like_comp {many : Nat} (h1 : 1 ≤ many) (hm : many ≤ 6) (p0 p1 : Option D) (q : List (Option D)) (hq : q.length = 8) : ∀ (A : List (List Rq)), Pk 3 40 A → ∀ c : Int, ∃ (B : List (List Rq)) (c' : Int), Pk 3 40 B ∧ B.length = A.length ∧ ∀ (a : Addr) (z : Option D), compW (zD 12) (wCall 2 m'like (zH (wL (zd 12)) (zH (wL (zd 2)) (zH (wL (zd 3)) (wL zj))))) (A.map fun a => .lst (qDs a)) ([p0, p1, some (.int (many : Nat)), some (.adr a)] ++ q ++ [z]) [.int c] = some (B.map (fun a => .lst (qDs a)), [.int c'])
 | [], _, c => ⟨[], c, ⟨fun b hb => (by cases hb), fun b hb => (by cases hb), fun b hb => (by cases hb)⟩, rfl, fun a z => rfl⟩
 | x :: A, P, c => by
  have m0 := List.mem_cons_self (a := x) (l := A)
  obtain ⟨x', c1, Lx, e1⟩ := like_ok h1 hm (Nat.le_trans (P.rk x m0) (by omega)) (P.tk x m0) (Nat.le_trans (P.cn x m0) (by omega)) c
  obtain ⟨B, c', PB, hl, e2⟩ := like_comp h1 hm p0 p1 q hq A ⟨fun b hb => P.tk b (List.mem_cons_of_mem _ hb), fun b hb => P.rk b (List.mem_cons_of_mem _ hb), fun b hb => P.cn b (List.mem_cons_of_mem _ hb)⟩ c1
  refine ⟨x' :: B, c', ⟨fun b hb => ?_, fun b hb => ?_, fun b hb => ?_⟩, by simp [hl], fun a z => ?_⟩
  ·rcases List.mem_cons.mp hb with rfl | hb
   ·exact Lx.tk
   ·exact PB.tk b hb
  ·rcases List.mem_cons.mp hb with rfl | hb
   ·exact Nat.le_trans Lx.rk (P.rk x m0)
   ·exact PB.rk b hb
  ·rcases List.mem_cons.mp hb with rfl | hb
   ·exact Nat.le_trans Lx.cn (P.cn x m0)
   ·exact PB.cn b hb
  ·obtain ⟨q0, q1, q2, q3, q4, q5, q6, q7, rfl⟩ : ∃ q0 q1 q2 q3 q4 q5 q6 q7, q = [q0, q1, q2, q3, q4, q5, q6, q7] := by
    match q, hq with
    | [q0, q1, q2, q3, q4, q5, q6, q7], _ => exact ⟨_, _, _, _, _, _, _, _, rfl⟩
   rw [List.map_cons, List.map_cons]
   exact compW_cons rfl (wcall_ (Zb (wl_ (zT rfl)) (Zb (wl_ (zT rfl)) (Zb (wl_ (zT rfl)) wnil_))) (e1 a)) (e2 a (some (.lst (qDs x))))
theorem bodyComp {q : List (Option D)} (hq : q.length = 12) {fl : Ev → Option (List D)} {m : List D → Option D} {g : List Rq → D} {A : List (List Rq)} (hl : A.length ≤ 5) (hf : fl q = some (A.map fun a => .lst (qDs a))) (h : ∀ x ∈ A, m [.lst (qDs x)] = some (g x)) : fComp 1 fl (zD 12) fYes (fA m (ze (zd 12) zj)) q = some (.lst (A.map g)) := by
 have := fcomp_pairs (k := 1) (fl := fl) (u := zD 12) (c := fYes) (e := fA m (ze (zd 12) zj)) (ρ := q) (A.map fun x => (.lst (qDs x), g x)) (fun ρ => ρ.length = 13) (hf.trans (by rw [List.map_map]; rfl)) (by rw [List.length_map]; omega) (by simp [hq]) (by
  rintro p ρ hp hρ
  obtain ⟨x, hx, rfl⟩ := List.mem_map.mp hp
  exact ⟨_, rfl, rfl, fA1 (zT (zz (by omega))) (h x hx), by simpa using hρ⟩)
 rw [this, List.map_map]
 rfl
theorem wownset_ {j n : Nat} {F : WF} {ρ : Ev} {S S1 : List D} {d : D} {ds : List D} {fk : Ev → Option D} {k : Int} (h : F ρ S = some (d, S1)) (h2 : ρ[j]? = some (some (.lst ds))) (h3 : fk ρ = some (.int k)) (h4 : ixN ds.length k = some n) : wOwnSet j F fk ρ S = some (.nx (ρ.set j (some (.lst (ds.set n d)))), S1) := by
 unfold wOwnSet
 rw [h]
 simp only [oB]
 rw [h2]
 simp only [Option.join_some, oB, asL]
 rw [h3]
 simp only [oB, asI]
 rw [h4]
 rfl
theorem law_holds (ns : List Int) (hl : ns.length ≤ 63) : m_law [.scr ns] = some (.bl true) := by
 refine Wo.eq ?_
 unfold m_law b_law
 rw [wo_def]
 refine ⟨rfl, ?_⟩
 simp only [startD, zMap, zLen, List.replicate, zApp, Nat.zero_add, Nat.reduceAdd, Nat.reduceSub]
 obtain ⟨v30, e30⟩ := cell_ok ns 30 (by omega) (by omega)
 obtain ⟨v31, e31⟩ := cell_ok ns 31 (by omega) (by omega)
 obtain ⟨v32, e32⟩ := cell_ok ns 32 (by omega) (by omega)
 obtain ⟨v33, e33⟩ := cell_ok ns 33 (by omega) (by omega)
 obtain ⟨v34, e34⟩ := cell_ok ns 34 (by omega) (by omega)
 obtain ⟨v35, e35⟩ := cell_ok ns 35 (by omega) (by omega)
 have q0 := Int.emod_nonneg v30 (show (4 : Int) ≠ 0 by decide)
 have q1 := Int.emod_lt_of_pos v30 (show (0 : Int) < 4 by decide)
 have q2 := Int.emod_nonneg v31 (show (3 : Int) ≠ 0 by decide)
 have q3 := Int.emod_lt_of_pos v31 (show (0 : Int) < 3 by decide)
 obtain ⟨m0, hm0⟩ : ∃ n : Nat, v30 % 4 = n := ⟨(v30 % 4).toNat, by omega⟩
 obtain ⟨many, hmany⟩ : ∃ n : Nat, 1 + v31 % 3 = n := ⟨(1 + v31 % 3).toNat, by omega⟩
 obtain ⟨A, eA, a1, a4, PA⟩ := prog_trees ns (many := m0) (by omega)
 rw [zF]
 refine set_ (fA4 rfl rfl (f2v (fA2 rfl rfl e30) rfl ((Ze (by decide)).trans (by rw [hm0]))) rfl eA) ?_
 simp only [zSet, zu]
 rw [zF]
 refine set_ (d := .int (many : Nat)) (f2v rfl (f2v (fA2 rfl rfl e31) rfl (Ze (by decide))) (add_.trans (by rw [hmany]))) ?_
 simp only [zSet, zu]
 rw [zF]
 refine new_ (lst1_ (f2v (fA2 rfl rfl e32) rfl (Ze (by decide)))) (by simp) ?_
 simp only [zSet, zu]
 generalize v32 % 2147483647 = c0
 obtain ⟨B, c1, PB, hBl, eB⟩ := like_comp (many := many) (by omega) (by omega) (some (.scr ns)) (some (.tup [.int (m0 : Nat), bodsQ A])) [none, none, none, none, none, none, none, none] rfl A PA c0
 rw [zF]
 refine ⟨_, mLend_eq (ρ' := [some (.scr ns), some (.tup [.int (m0 : Nat), bodsQ A]), some (.int (many : Nat)), none, some (bodsQ B), none, none, none, none, none, none, none]) (S' := [.int c1]) rfl (fun a => ?_), ?_⟩
 ·unfold wNew
  rw [wcomp_ (ds := A.map fun a => .lst (qDs a)) (seqL (fIxv (M.seqT (zT (i := 1) rfl)) rfl (zY (j := 1) rfl))) (eB a none) (size_of (by rw [List.length_map]; omega))]
  rfl
 simp only [zSet, zu]
 rw [zF]
 refine set_ (fA2 rfl rfl e33) ?_
 simp only [zSet, zu]
 have lenB : ∀ (z3 z5 z6 z7 : Option D), fA gLen (zl true (zd 4)) [some (.scr ns), some (.tup [.int (m0 : Nat), bodsQ A]), some (.int (many : Nat)), z3, some (bodsQ B), z5, z6, z7, none, none, none, none] = some (.int (B.length : Nat)) := fun z3 z5 z6 z7 => (lenv (ds := B.map fun b => .lst (qDs b)) rfl).trans (by rw [List.length_map])
 have rest : ∀ (C : List (List Rq)) (z3 z5 z6 z7 : Option D), Pk 4 80 C → C.length ≤ 5 → Wo ((zO (mSet 8 (fTup (ze (zd 2) (ze (zd 4) zj))))
  (zO (mSet 9 (fLst (ze (fTup (ze (fIx (zl false (zd 1)) (fC (.int 0))) (ze (fComp 1 (zl true (fIx (zl false (zd 1)) (fC (.int 1)))) (zD 12) fYes (fA m'copied (ze (zd 12) zj))) zj))) (ze (fTup (ze (zd 2) (ze (fComp 1 (zl true (zd 4)) (zD 12) fYes (fA m'copied (ze (zd 12) zj))) zj))) zj))))
  (zO (mSet 10 (fFlat (f2 dEqD (fComp 1 (zl true (fIx (zl false (zd 1)) (fC (.int 1)))) (zD 12) fYes (fA m'shape (ze (zd 12) zj))) (fComp 1 (zl true (zd 4)) (zD 12) fYes (fA m'shape (ze (zd 12) zj))))))
  (zO (mFor (zl true (fLst (ze (fA m_one_shape (ze (zd 1) (ze (zd 8) zj))) (ze (fA m_one_shape (ze (zd 8) (ze (zd 1) zj))) zj)))) (zD 11)
  (mIf (fOr (fNot (zC (f1 (gIsi "bool") (zd 11)))) (zC (f2 dNeS (zd 11) (zd 10))))
  (mRet (fC (.bl false)))
  mNext))
  (mRet (fAndV (f2 dIsB (fA m_one_shape (ze (zd 1) (ze (zd 1) zj))) (fC (.bl true))) (fAndV (f2 dIsB (fA m_one_shape (ze (zd 8) (ze (zd 8) zj))) (fC (.bl true))) (f2 dEqD (fLst (ze (zd 1) (ze (zd 8) zj))) (zd 9))))))))) [some (.scr ns), some (.tup [.int (m0 : Nat), bodsQ A]), some (.int (many : Nat)), z3, some (bodsQ C), z5, z6, z7, none, none, none, none]) (Back fun x => x = .bl true) := by
  intro C z3 z5 z6 z7 PC lC
  have pA := PA.pq (by omega) (by omega) (by omega)
  have pC := PC.pq lC (by omega) (by omega)
  have cpy : ∀ {D' : List (List Rq)}, Pq D' → ∀ x ∈ D', m'copied [.lst (qDs x)] = some (.lst (qDs x)) := fun P x hx => copied_ok (P.rk x hx) (P.tk x hx) (Nat.le_trans (P.cn x hx) (by omega))
  have shp : ∀ {D' : List (List Rq)}, Pq D' → ∀ x ∈ D', m'shape [.lst (qDs x)] = some (.lst (shDs x)) := fun P x hx => shape_ok (P.rk x hx) (P.tk x hx) (Nat.le_trans (P.cn x hx) (by omega))
  have s1 := one_shape_ok pA pC (m0 : Nat) (many : Nat)
  have s2 := one_shape_ok pC pA (many : Nat) (m0 : Nat)
  rw [all_comm C A] at s2
  have s3 := one_shape_ok pA pA (m0 : Nat) (m0 : Nat)
  have s4 := one_shape_ok pC pC (many : Nat) (many : Nat)
  rw [all_self] at s3 s4
  generalize hw : all2 alks A C = w at s1 s2
  rw [zF]
  refine set_ (tup2v rfl rfl) ?_
  simp only [zSet, zu]
  rw [zF]
  have lst2v : ∀ {ρ : Ev} {f f' : Ev → Option D} {d d' : D}, f ρ = some d → f' ρ = some d' → fLst (ze f (ze f' zj)) ρ = some (.lst [d, d']) := fun e e' => by rw [fLst_, fCons_, e, oB, fCons_, e']; exact dLst_ (size_of (by simp))
  refine set_ (d := .lst [.tup [.int (m0 : Nat), bodsQ A], .tup [.int (many : Nat), bodsQ C]]) (lst2v (tup2v (fIxv (M.seqT (zT rfl)) rfl (zY (j := 0) rfl)) (bodyComp rfl pA.len (seqL (fIxv (M.seqT (zT rfl)) rfl (zY (j := 1) rfl))) (cpy pA))) (tup2v rfl (bodyComp rfl pC.len (seqL (zT rfl)) (cpy pC)))) ?_
  simp only [zSet, zu]
  rw [zF]
  refine set_ (d := .bl w) (flatv (f2v (bodyComp rfl pA.len (seqL (fIxv (M.seqT (zT rfl)) rfl (zY (j := 1) rfl))) (shp pA)) (bodyComp rfl pC.len (seqL (zT rfl)) (shp pC)) ((due_eq pA pC).trans (by rw [hw]))) rfl) ?_
  simp only [zSet, zu]
  rw [zF, mFor_, seqL (lst2v (fA2 rfl rfl s1) (fA2 rfl rfl s2)), oB]
  refine wo_for (fun _ ρ => ∃ z : Option D, ρ = [some (.scr ns), some (.tup [.int (m0 : Nat), bodsQ A]), some (.int (many : Nat)), z3, some (bodsQ C), z5, z6, z7, some (.tup [.int (many : Nat), bodsQ C]), some (.lst [.tup [.int (m0 : Nat), bodsQ A], .tup [.int (many : Nat), bodsQ C]]), some (.bl w), z]) ⟨none, rfl⟩ ?_ ?_
  ·rintro i d ρ hd ⟨z, rfl⟩
   have hd' : d = .bl w := by
    have := List.mem_of_getElem? hd
    simpa using this
   subst hd'
   rw [uName_, zL]
   simp only [zSet]
   refine if_f (or_ff (not_t (zU (f1v rfl rfl))) (zU (f2v rfl rfl ?_))) ?_
   ·cases w <;> rfl
   ·exact ⟨_, rfl, _, rfl⟩
  ·rintro ρ ⟨z, rfl⟩
   rw [zu]
   have hp : Py 28 (.lst [.tup [.int (m0 : Nat), bodsQ A], .tup [.int (many : Nat), bodsQ C]]) := by
    refine .lst fun d hd => ?_
    simp only [List.mem_cons, List.not_mem_nil, or_false] at hd
    rcases hd with rfl | rfl
    ·refine Py.tup (n := 26) fun d hd => ?_
     simp only [List.mem_cons, List.not_mem_nil, or_false] at hd
     rcases hd with rfl | rfl
     ·exact .int _ _
     ·exact (bods_py pA).mono (by omega)
    ·refine Py.tup (n := 26) fun d hd => ?_
     simp only [List.mem_cons, List.not_mem_nil, or_false] at hd
     rcases hd with rfl | rfl
     ·exact .int _ _
     ·exact (bods_py pC).mono (by omega)
   exact ret_ (andV_t (f2v (fA2 rfl rfl s3) rfl rfl) (andV_t (f2v (fA2 rfl rfl s4) rfl rfl) (f2v (lst2v rfl rfl) rfl (hp.eq (by omega))))) rfl
 have up : ∀ {k c : Nat} {D' : List (List Rq)}, Pk k c D' → k ≤ 4 → c ≤ 80 → Pk 4 80 D' := fun P h1 h2 => ⟨P.tk, fun b hb => Nat.le_trans (P.rk b hb) h1, fun b hb => Nat.le_trans (P.cn b hb) h2⟩
 rw [zF]
 have chain : zC (fChain dLt dLt (fC (.int 1)) (fA gLen (zl true (zd 4))) (fC (.int 4))) [some (.scr ns), some (.tup [.int (m0 : Nat), bodsQ A]), some (.int (many : Nat)), some (.lst [.int c1]), some (bodsQ B), some (.int v33), none, none, none, none, none, none] = some (decide ((1 : Int) < (B.length : Nat)) && decide (((B.length : Nat) : Int) < 4)) := by
  refine zU ?_
  unfold fChain
  rw [show fC (.int 1) [some (.scr ns), some (.tup [.int (m0 : Nat), bodsQ A]), some (.int (many : Nat)), some (.lst [.int c1]), some (bodsQ B), some (.int v33), none, none, none, none, none, none] = some (.int 1) from rfl, oB, lenB, oB, lt_, oB]
  show Option.bind (some (decide ((1 : Int) < (B.length : Nat)))) _ = _
  rw [oB]
  by_cases h : (1 : Int) < (B.length : Nat)
  ·rw [decide_eq_true h, if_pos rfl]
   rfl
  ·rw [decide_eq_false h, if_neg (by simp)]
   rfl
 refine if_b (andc (zU (f2v (f2v rfl rfl (Ze (by decide))) rfl gt_)) fun _ => andc chain fun _ => zU (f2v (f2v (f2v rfl rfl (dDiv_s (by decide) (by decide))) rfl (Ze (by decide))) rfl dEqS_)) (fun e => ?_) (fun _ => ?_)
 ·-- one body more
  refine ⟨_, mupd_ (j := 4) (ds := B.map fun b => .lst (qDs b)) nilv rfl (by rw [List.length_map]; omega), ?_⟩
  simp only [zSet, zu]
  have eC : (B.map fun b => D.lst (qDs b)) ++ [.lst []] = (B ++ [[]]).map fun b => .lst (qDs b) := by rw [List.map_append]; simp [qDs]
  rw [eC]
  have PB' := up PB (by omega) (by omega)
  refine rest (B ++ [[]]) _ _ _ _ ⟨fun b hb => ?_, fun b hb => ?_, fun b hb => ?_⟩ (by rw [List.length_append]; simp only [List.length_cons, List.length_nil]; omega)
  ·rcases List.mem_append.mp hb with hb | hb
   ·exact PB'.tk b hb
   ·rw [List.mem_singleton.mp hb, tks]; trivial
  ·rcases List.mem_append.mp hb with hb | hb
   ·exact PB'.rk b hb
   ·rw [List.mem_singleton.mp hb, rks]; omega
  ·rcases List.mem_append.mp hb with hb | hb
   ·exact PB'.cn b hb
   ·rw [List.mem_singleton.mp hb, cns]; omega
 refine if_b (zU (f2v (f2v rfl rfl (Ze (by decide))) rfl gt_)) (fun _ => ?_) (fun _ => ?_)
 ·have hpos : (0 : Int) < (B.length : Nat) := by omega
  have w0 := Int.emod_nonneg (v33 / 27) (show ((B.length : Nat) : Int) ≠ 0 by omega)
  have w1 := Int.emod_lt_of_pos (v33 / 27) hpos
  obtain ⟨k, hk⟩ : ∃ k : Nat, v33 / 27 % ((B.length : Nat) : Int) = k := ⟨(v33 / 27 % ((B.length : Nat) : Int)).toNat, by omega⟩
  have hkl : k < B.length := by omega
  rw [zF]
  refine set_ (d := .int (k : Nat)) (f2v (f2v rfl rfl (dDiv_s (by decide) (by decide))) (lenB _ _ _ _) ((Ze hpos).trans (by rw [hk]))) ?_
  simp only [zSet, zu]
  have mk : B[k] ∈ B := List.getElem_mem hkl
  have atk : ∀ (z3 z5 z7 : Option D), fIx (zl true (zd 4)) (zd 6) [some (.scr ns), some (.tup [.int (m0 : Nat), bodsQ A]), some (.int (many : Nat)), z3, some (bodsQ B), z5, some (.int (k : Nat)), z7, none, none, none, none] = some (.lst (qDs B[k])) := fun z3 z5 z7 => fIxv (seqL (ds := B.map fun b => .lst (qDs b)) rfl) rfl (zY (by simp [hkl]))
  have pyk : pyOk (.lst (qDs B[k])) = true := py_ok (n := 20) (.lst fun d hd => (rows_py B[k] (PB.tk _ mk) d hd).mono (by have := PB.rk _ mk; omega)) (by omega)
  refine if_b (zU (f2v (atk _ _ _) nilv (ne_nil pyk))) (fun e => ?_) (fun _ => ?_)
  ·have hne : 1 ≤ cns B[k] := by
    cases hb : B[k] with
    | nil => rw [hb, qDs] at e; cases e
    | cons r rs => have := cn_pos r; rw [cns]; omega
   have c40 := PB.cn _ mk
   have r3 := PB.rk _ mk
   rw [zF]
   refine new_ (lst1_ (f2v (fA2 rfl rfl e34) (fA1 (atk _ _ _) (many_ok (by omega) (PB.tk _ mk) (by omega))) (Ze (by omega)))) (by simp) ?_
   simp only [zSet, zu]
   generalize v34 % ((cns B[k] : Nat) : Int) = t0
   obtain ⟨cnt, hcnt⟩ : ∃ cnt : Int, ∀ (z3 z5 z7 : Option D), f2 dMul (fA gLen (zl true (zd 4))) (fA gInt (ze (fFlat (f2 dEqS (zd 6) (fC (.int 0)))) zj)) [some (.scr ns), some (.tup [.int (m0 : Nat), bodsQ A]), some (.int (many : Nat)), z3, some (bodsQ B), z5, some (.int (k : Nat)), z7, none, none, none, none] = some (.int cnt) := by
    refine ⟨(B.length : Nat) * (if decide (((k : Nat) : Int) = 0) = true then 1 else 0), fun z3 z5 z7 => f2v (lenB _ _ _ _) (fA1 (x := .bl (decide (((k : Nat) : Int) = 0))) (flatv (f2v rfl rfl dEqS_) rfl) rfl) (dMul_s (mulS (by omega) (by omega)))⟩
   obtain ⟨x', t1, Lb, eb⟩ := bent_ok v35 cnt (rs := B[k]) (by omega) (PB.tk _ mk) (by omega) t0
   refine ⟨_, mLend_eq (ρ' := [some (.scr ns), some (.tup [.int (m0 : Nat), bodsQ A]), some (.int (many : Nat)), some (.lst [.int c1]), some (bodsQ (B.set k x')), some (.int v33), some (.int (k : Nat)), none, none, none, none, none]) (S' := [.int t1]) rfl (fun a => ?_), ?_⟩
   ·have ec : wCall 1 m'bent (zH (wL (fIx (zl true (zd 4)) (zd 6))) (zH (wL (zd 7)) (zH (wL (fA m'cell (ze (zd 0) (ze (fC (.int 35)) zj)))) (zH (wL (f2 dMul (fA gLen (zl true (zd 4))) (fA gInt (ze (fFlat (f2 dEqS (zd 6) (fC (.int 0)))) zj)))) (wL zj))))) [some (.scr ns), some (.tup [.int (m0 : Nat), bodsQ A]), some (.int (many : Nat)), some (.lst [.int c1]), some (bodsQ B), some (.int v33), some (.int (k : Nat)), some (.adr a), none, none, none, none] [.int t0] = some (.lst (qDs x'), [.int t1]) :=
     wcall_ (Zb (wl_ (atk _ _ _)) (Zb (wl_ (zT rfl)) (Zb (wl_ (fA2 rfl rfl e35)) (Zb (wl_ (hcnt _ _ _)) wnil_)))) (eb a)
    refine (wownset_ (ds := B.map fun b => .lst (qDs b)) ec rfl rfl ((congrArg (fun n => ixN n ((k : Nat) : Int)) (List.length_map ..)).trans (ixN_nat hkl))).trans ?_
    rw [← List.map_set]
    rfl
   simp only [zSet, zu]
   have PB' := up PB (by omega) (by omega)
   have mset : ∀ b ∈ B.set k x', b = x' ∨ b ∈ B := fun b hb => (List.mem_or_eq_of_mem_set hb).symm
   refine rest (B.set k x') _ _ _ _ ⟨fun b hb => ?_, fun b hb => ?_, fun b hb => ?_⟩ (by rw [List.length_set]; omega)
   ·rcases mset b hb with rfl | hb
    ·exact Lb.tk
    ·exact PB'.tk b hb
   ·rcases mset b hb with rfl | hb
    ·have := Lb.rk; omega
    ·exact PB'.rk b hb
   ·rcases mset b hb with rfl | hb
    ·have := Lb.cn; omega
    ·exact PB'.cn b hb
  ·rw [mNext_, zL, zu]
   exact rest B _ _ _ _ (up PB (by omega) (by omega)) (by omega)
 ·rw [mNext_, zL, zu]
  exact rest B _ _ _ _ (up PB (by omega) (by omega)) (by omega)
open PySem L2 M
open PySem.W (Frag)
theorem txt_mk {K : Frag} {h : Heap} {mg : Str → Option Value} (X : K.In h) (G : h.Ns mainGlobals mg)
    {f0 : Addr} {od0 an0 : Option Addr} {sl0 : Array (Option Value)} {oc0 kV0 dc0 pm0 cd0 ct0 : Value}
    {f1 : Addr} {od1 an1 : Option Addr} {sl1 : Array (Option Value)} {oc1 kV1 dc1 pm1 cd1 ct1 : Value}
    {f2 : Addr} {od2 an2 : Option Addr} {sl2 : Array (Option Value)} {oc2 kV2 dc2 pm2 cd2 ct2 : Value}
    {f3 : Addr} {od3 an3 : Option Addr} {sl3 : Array (Option Value)} {oc3 kV3 dc3 pm3 cd3 ct3 : Value}
    {f4 : Addr} {od4 an4 : Option Addr} {sl4 : Array (Option Value)} {oc4 kV4 dc4 pm4 cd4 ct4 : Value}
    {f5 : Addr} {od5 an5 : Option Addr} {sl5 : Array (Option Value)} {oc5 kV5 dc5 pm5 cd5 ct5 : Value}
    {f6 : Addr} {od6 an6 : Option Addr} {sl6 : Array (Option Value)} {oc6 kV6 dc6 pm6 cd6 ct6 : Value}
    {f7 : Addr} {od7 an7 : Option Addr} {sl7 : Array (Option Value)} {oc7 kV7 dc7 pm7 cd7 ct7 : Value}
    {f8 : Addr} {od8 an8 : Option Addr} {sl8 : Array (Option Value)} {oc8 kV8 dc8 pm8 cd8 ct8 : Value}
    {f9 : Addr} {od9 an9 : Option Addr} {sl9 : Array (Option Value)} {oc9 kV9 dc9 pm9 cd9 ct9 : Value}
    {f10 : Addr} {od10 an10 : Option Addr} {sl10 : Array (Option Value)} {oc10 kV10 dc10 pm10 cd10 ct10 : Value}
    {f11 : Addr} {od11 an11 : Option Addr} {sl11 : Array (Option Value)} {oc11 kV11 dc11 pm11 cd11 ct11 : Value}
    {f12 : Addr} {od12 an12 : Option Addr} {sl12 : Array (Option Value)} {oc12 kV12 dc12 pm12 cd12 ct12 : Value}
    {f13 : Addr} {od13 an13 : Option Addr} {sl13 : Array (Option Value)} {oc13 kV13 dc13 pm13 cd13 ct13 : Value}
    {f14 : Addr} {od14 an14 : Option Addr} {sl14 : Array (Option Value)} {oc14 kV14 dc14 pm14 cd14 ct14 : Value}
    {f15 : Addr} {od15 an15 : Option Addr} {sl15 : Array (Option Value)} {oc15 kV15 dc15 pm15 cd15 ct15 : Value}
    {f16 : Addr} {od16 an16 : Option Addr} {sl16 : Array (Option Value)} {oc16 kV16 dc16 pm16 cd16 ct16 : Value}
    (a0 : nsIn K mainGlobals "lists_in" = some (some (.ref f0))) (l0 : K.lookup f0 = some ⟨oc0, od0, .func (fnOf "lists_in" "lists_in" (zw s_lists_in) (zt s_lists_in) (zh s_lists_in) .none kV0 dc0 pm0 an0 cd0 ct0), sl0⟩) (c0 : codeIn K cd0 "lists_in" = true) (k0 : keepIn K (.ref f0) = true)
    (a1 : nsIn K mainGlobals "one_shape" = some (some (.ref f1))) (l1 : K.lookup f1 = some ⟨oc1, od1, .func (fnOf "one_shape" "one_shape" (zw Zl) (zt Zl) (zh Zl) .none kV1 dc1 pm1 an1 cd1 ct1), sl1⟩) (c1 : codeIn K cd1 "one_shape" = true) (k1 : keepIn K (.ref f1) = true)
    (a2 : nsIn K mainGlobals "all_alike" = some (some (.ref f2))) (l2 : K.lookup f2 = some ⟨oc2, od2, .func (fnOf "all_alike" "all_alike" (zw Zm) (zt Zm) (zh Zm) .none kV2 dc2 pm2 an2 cd2 ct2), sl2⟩) (c2 : codeIn K cd2 "all_alike" = true) (k2 : keepIn K (.ref f2) = true)
    (a3 : nsIn K mainGlobals "rows_alike" = some (some (.ref f3))) (l3 : K.lookup f3 = some ⟨oc3, od3, .func (fnOf "rows_alike" "rows_alike" (zw zV) (zt zV) (zh zV) .none kV3 dc3 pm3 an3 cd3 ct3), sl3⟩) (c3 : codeIn K cd3 "rows_alike" = true) (k3 : keepIn K (.ref f3) = true)
    (a4 : nsIn K mainGlobals "row_alike" = some (some (.ref f4))) (l4 : K.lookup f4 = some ⟨oc4, od4, .func (fnOf "row_alike" "row_alike" (zw Zk) (zt Zk) (zh Zk) .none kV4 dc4 pm4 an4 cd4 ct4), sl4⟩) (c4 : codeIn K cd4 "row_alike" = true) (k4 : keepIn K (.ref f4) = true)
    (a5 : nsIn K mainGlobals "_law_cell" = some (some (.ref f5))) (l5 : K.lookup f5 = some ⟨oc5, od5, .func (fnOf "_law_cell" "_law_cell" (zw s'cell) (zt s'cell) (zh s'cell) .none kV5 dc5 pm5 an5 cd5 ct5), sl5⟩) (c5 : codeIn K cd5 "_law_cell" = true) (k5 : keepIn K (.ref f5) = true)
    (a6 : nsIn K mainGlobals "_law_line" = some (some (.ref f6))) (l6 : K.lookup f6 = some ⟨oc6, od6, .func (fnOf "_law_line" "_law_line" (zw s'line) (zt s'line) (zh s'line) .none kV6 dc6 pm6 an6 cd6 ct6), sl6⟩) (c6 : codeIn K cd6 "_law_line" = true) (k6 : keepIn K (.ref f6) = true)
    (a7 : nsIn K mainGlobals "_law_deed" = some (some (.ref f7))) (l7 : K.lookup f7 = some ⟨oc7, od7, .func (fnOf "_law_deed" "_law_deed" (zw s'deed) (zt s'deed) (zh s'deed) .none kV7 dc7 pm7 an7 cd7 ct7), sl7⟩) (c7 : codeIn K cd7 "_law_deed" = true) (k7 : keepIn K (.ref f7) = true)
    (a8 : nsIn K mainGlobals "_law_body" = some (some (.ref f8))) (l8 : K.lookup f8 = some ⟨oc8, od8, .func (fnOf "_law_body" "_law_body" (zw s'body) (zt s'body) (zh s'body) .none kV8 dc8 pm8 an8 cd8 ct8), sl8⟩) (c8 : codeIn K cd8 "_law_body" = true) (k8 : keepIn K (.ref f8) = true)
    (a9 : nsIn K mainGlobals "_law_program" = some (some (.ref f9))) (l9 : K.lookup f9 = some ⟨oc9, od9, .func (fnOf "_law_program" "_law_program" (zw s'program) (zt s'program) (zh s'program) .none kV9 dc9 pm9 an9 cd9 ct9), sl9⟩) (c9 : codeIn K cd9 "_law_program" = true) (k9 : keepIn K (.ref f9) = true)
    (a10 : nsIn K mainGlobals "_law_like" = some (some (.ref f10))) (l10 : K.lookup f10 = some ⟨oc10, od10, .func (fnOf "_law_like" "_law_like" (zw s'like) (zt s'like) (zh s'like) .none kV10 dc10 pm10 an10 cd10 ct10), sl10⟩) (c10 : codeIn K cd10 "_law_like" = true) (k10 : keepIn K (.ref f10) = true)
    (a11 : nsIn K mainGlobals "_law_shape" = some (some (.ref f11))) (l11 : K.lookup f11 = some ⟨oc11, od11, .func (fnOf "_law_shape" "_law_shape" (zw s'shape) (zt s'shape) (zh s'shape) .none kV11 dc11 pm11 an11 cd11 ct11), sl11⟩) (c11 : codeIn K cd11 "_law_shape" = true) (k11 : keepIn K (.ref f11) = true)
    (a12 : nsIn K mainGlobals "_law_copied" = some (some (.ref f12))) (l12 : K.lookup f12 = some ⟨oc12, od12, .func (fnOf "_law_copied" "_law_copied" (zw s'copied) (zt s'copied) (zh s'copied) .none kV12 dc12 pm12 an12 cd12 ct12), sl12⟩) (c12 : codeIn K cd12 "_law_copied" = true) (k12 : keepIn K (.ref f12) = true)
    (a13 : nsIn K mainGlobals "_law_many" = some (some (.ref f13))) (l13 : K.lookup f13 = some ⟨oc13, od13, .func (fnOf "_law_many" "_law_many" (zw s'many) (zt s'many) (zh s'many) .none kV13 dc13 pm13 an13 cd13 ct13), sl13⟩) (c13 : codeIn K cd13 "_law_many" = true) (k13 : keepIn K (.ref f13) = true)
    (a14 : nsIn K mainGlobals "_law_other_row" = some (some (.ref f14))) (l14 : K.lookup f14 = some ⟨oc14, od14, .func (fnOf "_law_other_row" "_law_other_row" (zw Zn) (zt Zn) (zh Zn) .none kV14 dc14 pm14 an14 cd14 ct14), sl14⟩) (c14 : codeIn K cd14 "_law_other_row" = true) (k14 : keepIn K (.ref f14) = true)
    (a15 : nsIn K mainGlobals "_law_bent" = some (some (.ref f15))) (l15 : K.lookup f15 = some ⟨oc15, od15, .func (fnOf "_law_bent" "_law_bent" (zw s'bent) (zt s'bent) (zh s'bent) .none kV15 dc15 pm15 an15 cd15 ct15), sl15⟩) (c15 : codeIn K cd15 "_law_bent" = true) (k15 : keepIn K (.ref f15) = true)
    (a16 : nsIn K mainGlobals "law" = some (some (.ref f16))) (l16 : K.lookup f16 = some ⟨oc16, od16, .func (fnOf "law" "law" (zw s_law) (zt s_law) (zh s_law) .none kV16 dc16 pm16 an16 cd16 ct16), sl16⟩) (c16 : codeIn K cd16 "law" = true) (k16 : keepIn K (.ref f16) = true)
    (z_all : nsIn K mainGlobals "all" = some none)
    (z_bool : nsIn K mainGlobals "bool" = some none)
    (z_int : nsIn K mainGlobals "int" = some none)
    (z_isinstance : nsIn K mainGlobals "isinstance" = some none)
    (z_len : nsIn K mainGlobals "len" = some none)
    (z_list : nsIn K mainGlobals "list" = some none)
    (z_range : nsIn K mainGlobals "range" = some none)
    (z_sum : nsIn K mainGlobals "sum" = some none)
    (z_tuple : nsIn K mainGlobals "tuple" = some none)
    (z_zip : nsIn K mainGlobals "zip" = some none) :
    Txt K mg ⟨f0, (fnOf "lists_in" "lists_in" (zw s_lists_in) (zt s_lists_in) (zh s_lists_in) .none kV0 dc0 pm0 an0 cd0 ct0), f1, (fnOf "one_shape" "one_shape" (zw Zl) (zt Zl) (zh Zl) .none kV1 dc1 pm1 an1 cd1 ct1), f2, (fnOf "all_alike" "all_alike" (zw Zm) (zt Zm) (zh Zm) .none kV2 dc2 pm2 an2 cd2 ct2), f3, (fnOf "rows_alike" "rows_alike" (zw zV) (zt zV) (zh zV) .none kV3 dc3 pm3 an3 cd3 ct3), f4, (fnOf "row_alike" "row_alike" (zw Zk) (zt Zk) (zh Zk) .none kV4 dc4 pm4 an4 cd4 ct4), f5, (fnOf "_law_cell" "_law_cell" (zw s'cell) (zt s'cell) (zh s'cell) .none kV5 dc5 pm5 an5 cd5 ct5), f6, (fnOf "_law_line" "_law_line" (zw s'line) (zt s'line) (zh s'line) .none kV6 dc6 pm6 an6 cd6 ct6), f7, (fnOf "_law_deed" "_law_deed" (zw s'deed) (zt s'deed) (zh s'deed) .none kV7 dc7 pm7 an7 cd7 ct7), f8, (fnOf "_law_body" "_law_body" (zw s'body) (zt s'body) (zh s'body) .none kV8 dc8 pm8 an8 cd8 ct8), f9, (fnOf "_law_program" "_law_program" (zw s'program) (zt s'program) (zh s'program) .none kV9 dc9 pm9 an9 cd9 ct9), f10, (fnOf "_law_like" "_law_like" (zw s'like) (zt s'like) (zh s'like) .none kV10 dc10 pm10 an10 cd10 ct10), f11, (fnOf "_law_shape" "_law_shape" (zw s'shape) (zt s'shape) (zh s'shape) .none kV11 dc11 pm11 an11 cd11 ct11), f12, (fnOf "_law_copied" "_law_copied" (zw s'copied) (zt s'copied) (zh s'copied) .none kV12 dc12 pm12 an12 cd12 ct12), f13, (fnOf "_law_many" "_law_many" (zw s'many) (zt s'many) (zh s'many) .none kV13 dc13 pm13 an13 cd13 ct13), f14, (fnOf "_law_other_row" "_law_other_row" (zw Zn) (zt Zn) (zh Zn) .none kV14 dc14 pm14 an14 cd14 ct14), f15, (fnOf "_law_bent" "_law_bent" (zw s'bent) (zt s'bent) (zh s'bent) .none kV15 dc15 pm15 an15 cd15 ct15), f16, (fnOf "law" "law" (zw s_law) (zt s_law) (zh s_law) .none kV16 dc16 pm16 an16 cd16 ct16)⟩ :=
  ⟨zX (st := s_lists_in) l0 c0 k0,
   (zX (st := s_lists_in) l0 c0 k0).binds (ps := ["row"]) fun _ _ _ _ _ _ us hl => match us, hl with | [_], _ => rfl,
   PySem.W.mg_of X G a0,
   zX (st := Zl) l1 c1 k1,
   (zX (st := Zl) l1 c1 k1).binds (ps := ["one", "other"]) fun _ _ _ _ _ _ us hl => match us, hl with | [_, _], _ => rfl,
   PySem.W.mg_of X G a1,
   zX (st := Zm) l2 c2 k2,
   (zX (st := Zm) l2 c2 k2).binds (ps := ["ones", "others", "alike"]) fun _ _ _ _ _ _ us hl => match us, hl with | [_, _, _], _ => rfl,
   PySem.W.mg_of X G a2,
   zX (st := zV) l3 c3 k3,
   (zX (st := zV) l3 c3 k3).binds (ps := ["rows", "others"]) fun _ _ _ _ _ _ us hl => match us, hl with | [_, _], _ => rfl,
   PySem.W.mg_of X G a3,
   zX (st := Zk) l4 c4 k4,
   (zX (st := Zk) l4 c4 k4).binds (ps := ["row", "other"]) fun _ _ _ _ _ _ us hl => match us, hl with | [_, _], _ => rfl,
   PySem.W.mg_of X G a4,
   zX (st := s'cell) l5 c5 k5,
   (zX (st := s'cell) l5 c5 k5).binds (ps := ["_law_script", "_law_k"]) fun _ _ _ _ _ _ us hl => match us, hl with | [_, _], _ => rfl,
   PySem.W.mg_of X G a5,
   zX (st := s'line) l6 c6 k6,
   (zX (st := s'line) l6 c6 k6).binds (ps := ["_law_cell_here", "_law_many_here"]) fun _ _ _ _ _ _ us hl => match us, hl with | [_, _], _ => rfl,
   PySem.W.mg_of X G a6,
   zX (st := s'deed) l7 c7 k7,
   (zX (st := s'deed) l7 c7 k7).binds (ps := ["_law_cell_here", "_law_many_here", "_law_later_on"]) fun _ _ _ _ _ _ us hl => match us, hl with | [_, _, _], _ => rfl,
   PySem.W.mg_of X G a7,
   zX (st := s'body) l8 c8 k8,
   (zX (st := s'body) l8 c8 k8).binds (ps := ["_law_cells", "_law_many_here", "_law_later_on", "_law_deep", "_law_most"]) fun _ _ _ _ _ _ us hl => match us, hl with | [_, _, _, _, _], _ => rfl,
   PySem.W.mg_of X G a8,
   zX (st := s'program) l9 c9 k9,
   (zX (st := s'program) l9 c9 k9).binds (ps := ["_law_script", "_law_at", "_law_many_here", "_law_most"]) fun _ _ _ _ _ _ us hl => match us, hl with | [_, _, _, _], _ => rfl,
   PySem.W.mg_of X G a9,
   zX (st := s'like) l10 c10 k10,
   (zX (st := s'like) l10 c10 k10).binds (ps := ["_law_rows", "_law_many_here", "_law_state"]) fun _ _ _ _ _ _ us hl => match us, hl with | [_, _, _], _ => rfl,
   PySem.W.mg_of X G a10,
   zX (st := s'shape) l11 c11 k11,
   (zX (st := s'shape) l11 c11 k11).binds (ps := ["_law_rows"]) fun _ _ _ _ _ _ us hl => match us, hl with | [_], _ => rfl,
   PySem.W.mg_of X G a11,
   zX (st := s'copied) l12 c12 k12,
   (zX (st := s'copied) l12 c12 k12).binds (ps := ["_law_rows"]) fun _ _ _ _ _ _ us hl => match us, hl with | [_], _ => rfl,
   PySem.W.mg_of X G a12,
   zX (st := s'many) l13 c13 k13,
   (zX (st := s'many) l13 c13 k13).binds (ps := ["_law_rows"]) fun _ _ _ _ _ _ us hl => match us, hl with | [_], _ => rfl,
   PySem.W.mg_of X G a13,
   zX (st := Zn) l14 c14 k14,
   (zX (st := Zn) l14 c14 k14).binds (ps := ["_law_row", "_law_cell_here", "_law_count"]) fun _ _ _ _ _ _ us hl => match us, hl with | [_, _, _], _ => rfl,
   PySem.W.mg_of X G a14,
   zX (st := s'bent) l15 c15 k15,
   (zX (st := s'bent) l15 c15 k15).binds (ps := ["_law_rows", "_law_at", "_law_cell_here", "_law_count"]) fun _ _ _ _ _ _ us hl => match us, hl with | [_, _, _, _], _ => rfl,
   PySem.W.mg_of X G a15,
   zX (st := s_law) l16 c16 k16,
   (zX (st := s_law) l16 c16 k16).binds (ps := ["_law_script"]) fun _ _ _ _ _ _ us hl => match us, hl with | [_], _ => rfl,
   PySem.W.mg_of X G a16,
   PySem.W.mg_none_of X G z_all,
   PySem.W.mg_none_of X G z_bool,
   PySem.W.mg_none_of X G z_int,
   PySem.W.mg_none_of X G z_isinstance,
   PySem.W.mg_none_of X G z_len,
   PySem.W.mg_none_of X G z_list,
   PySem.W.mg_none_of X G z_range,
   PySem.W.mg_none_of X G z_sum,
   PySem.W.mg_none_of X G z_tuple,
   PySem.W.mg_none_of X G z_zip⟩
theorem all_mk {l : PySem.W.OpenLaw} {w : World} {K : Frag} {h : Heap} {mg : Str → Option Value} {fa : Addr} (X : K.In h) (G : h.Ns mainGlobals mg) (hfa : mg "law" = some (.ref fa))
  {f0 : Addr} {od0 an0 : Option Addr} {sl0 : Array (Option Value)} {oc0 kV0 dc0 pm0 cd0 ct0 : Value}
  {f1 : Addr} {od1 an1 : Option Addr} {sl1 : Array (Option Value)} {oc1 kV1 dc1 pm1 cd1 ct1 : Value}
  {f2 : Addr} {od2 an2 : Option Addr} {sl2 : Array (Option Value)} {oc2 kV2 dc2 pm2 cd2 ct2 : Value}
  {f3 : Addr} {od3 an3 : Option Addr} {sl3 : Array (Option Value)} {oc3 kV3 dc3 pm3 cd3 ct3 : Value}
  {f4 : Addr} {od4 an4 : Option Addr} {sl4 : Array (Option Value)} {oc4 kV4 dc4 pm4 cd4 ct4 : Value}
  {f5 : Addr} {od5 an5 : Option Addr} {sl5 : Array (Option Value)} {oc5 kV5 dc5 pm5 cd5 ct5 : Value}
  {f6 : Addr} {od6 an6 : Option Addr} {sl6 : Array (Option Value)} {oc6 kV6 dc6 pm6 cd6 ct6 : Value}
  {f7 : Addr} {od7 an7 : Option Addr} {sl7 : Array (Option Value)} {oc7 kV7 dc7 pm7 cd7 ct7 : Value}
  {f8 : Addr} {od8 an8 : Option Addr} {sl8 : Array (Option Value)} {oc8 kV8 dc8 pm8 cd8 ct8 : Value}
  {f9 : Addr} {od9 an9 : Option Addr} {sl9 : Array (Option Value)} {oc9 kV9 dc9 pm9 cd9 ct9 : Value}
  {f10 : Addr} {od10 an10 : Option Addr} {sl10 : Array (Option Value)} {oc10 kV10 dc10 pm10 cd10 ct10 : Value}
  {f11 : Addr} {od11 an11 : Option Addr} {sl11 : Array (Option Value)} {oc11 kV11 dc11 pm11 cd11 ct11 : Value}
  {f12 : Addr} {od12 an12 : Option Addr} {sl12 : Array (Option Value)} {oc12 kV12 dc12 pm12 cd12 ct12 : Value}
  {f13 : Addr} {od13 an13 : Option Addr} {sl13 : Array (Option Value)} {oc13 kV13 dc13 pm13 cd13 ct13 : Value}
  {f14 : Addr} {od14 an14 : Option Addr} {sl14 : Array (Option Value)} {oc14 kV14 dc14 pm14 cd14 ct14 : Value}
  {f15 : Addr} {od15 an15 : Option Addr} {sl15 : Array (Option Value)} {oc15 kV15 dc15 pm15 cd15 ct15 : Value}
  {f16 : Addr} {od16 an16 : Option Addr} {sl16 : Array (Option Value)} {oc16 kV16 dc16 pm16 cd16 ct16 : Value}
  (a0 : nsIn K mainGlobals "lists_in" = some (some (.ref f0))) (l0 : K.lookup f0 = some ⟨oc0, od0, .func (fnOf "lists_in" "lists_in" (zw s_lists_in) (zt s_lists_in) (zh s_lists_in) .none kV0 dc0 pm0 an0 cd0 ct0), sl0⟩) (c0 : codeIn K cd0 "lists_in" = true) (k0 : keepIn K (.ref f0) = true)
  (a1 : nsIn K mainGlobals "one_shape" = some (some (.ref f1))) (l1 : K.lookup f1 = some ⟨oc1, od1, .func (fnOf "one_shape" "one_shape" (zw Zl) (zt Zl) (zh Zl) .none kV1 dc1 pm1 an1 cd1 ct1), sl1⟩) (c1 : codeIn K cd1 "one_shape" = true) (k1 : keepIn K (.ref f1) = true)
  (a2 : nsIn K mainGlobals "all_alike" = some (some (.ref f2))) (l2 : K.lookup f2 = some ⟨oc2, od2, .func (fnOf "all_alike" "all_alike" (zw Zm) (zt Zm) (zh Zm) .none kV2 dc2 pm2 an2 cd2 ct2), sl2⟩) (c2 : codeIn K cd2 "all_alike" = true) (k2 : keepIn K (.ref f2) = true)
  (a3 : nsIn K mainGlobals "rows_alike" = some (some (.ref f3))) (l3 : K.lookup f3 = some ⟨oc3, od3, .func (fnOf "rows_alike" "rows_alike" (zw zV) (zt zV) (zh zV) .none kV3 dc3 pm3 an3 cd3 ct3), sl3⟩) (c3 : codeIn K cd3 "rows_alike" = true) (k3 : keepIn K (.ref f3) = true)
  (a4 : nsIn K mainGlobals "row_alike" = some (some (.ref f4))) (l4 : K.lookup f4 = some ⟨oc4, od4, .func (fnOf "row_alike" "row_alike" (zw Zk) (zt Zk) (zh Zk) .none kV4 dc4 pm4 an4 cd4 ct4), sl4⟩) (c4 : codeIn K cd4 "row_alike" = true) (k4 : keepIn K (.ref f4) = true)
  (a5 : nsIn K mainGlobals "_law_cell" = some (some (.ref f5))) (l5 : K.lookup f5 = some ⟨oc5, od5, .func (fnOf "_law_cell" "_law_cell" (zw s'cell) (zt s'cell) (zh s'cell) .none kV5 dc5 pm5 an5 cd5 ct5), sl5⟩) (c5 : codeIn K cd5 "_law_cell" = true) (k5 : keepIn K (.ref f5) = true)
  (a6 : nsIn K mainGlobals "_law_line" = some (some (.ref f6))) (l6 : K.lookup f6 = some ⟨oc6, od6, .func (fnOf "_law_line" "_law_line" (zw s'line) (zt s'line) (zh s'line) .none kV6 dc6 pm6 an6 cd6 ct6), sl6⟩) (c6 : codeIn K cd6 "_law_line" = true) (k6 : keepIn K (.ref f6) = true)
  (a7 : nsIn K mainGlobals "_law_deed" = some (some (.ref f7))) (l7 : K.lookup f7 = some ⟨oc7, od7, .func (fnOf "_law_deed" "_law_deed" (zw s'deed) (zt s'deed) (zh s'deed) .none kV7 dc7 pm7 an7 cd7 ct7), sl7⟩) (c7 : codeIn K cd7 "_law_deed" = true) (k7 : keepIn K (.ref f7) = true)
  (a8 : nsIn K mainGlobals "_law_body" = some (some (.ref f8))) (l8 : K.lookup f8 = some ⟨oc8, od8, .func (fnOf "_law_body" "_law_body" (zw s'body) (zt s'body) (zh s'body) .none kV8 dc8 pm8 an8 cd8 ct8), sl8⟩) (c8 : codeIn K cd8 "_law_body" = true) (k8 : keepIn K (.ref f8) = true)
  (a9 : nsIn K mainGlobals "_law_program" = some (some (.ref f9))) (l9 : K.lookup f9 = some ⟨oc9, od9, .func (fnOf "_law_program" "_law_program" (zw s'program) (zt s'program) (zh s'program) .none kV9 dc9 pm9 an9 cd9 ct9), sl9⟩) (c9 : codeIn K cd9 "_law_program" = true) (k9 : keepIn K (.ref f9) = true)
  (a10 : nsIn K mainGlobals "_law_like" = some (some (.ref f10))) (l10 : K.lookup f10 = some ⟨oc10, od10, .func (fnOf "_law_like" "_law_like" (zw s'like) (zt s'like) (zh s'like) .none kV10 dc10 pm10 an10 cd10 ct10), sl10⟩) (c10 : codeIn K cd10 "_law_like" = true) (k10 : keepIn K (.ref f10) = true)
  (a11 : nsIn K mainGlobals "_law_shape" = some (some (.ref f11))) (l11 : K.lookup f11 = some ⟨oc11, od11, .func (fnOf "_law_shape" "_law_shape" (zw s'shape) (zt s'shape) (zh s'shape) .none kV11 dc11 pm11 an11 cd11 ct11), sl11⟩) (c11 : codeIn K cd11 "_law_shape" = true) (k11 : keepIn K (.ref f11) = true)
  (a12 : nsIn K mainGlobals "_law_copied" = some (some (.ref f12))) (l12 : K.lookup f12 = some ⟨oc12, od12, .func (fnOf "_law_copied" "_law_copied" (zw s'copied) (zt s'copied) (zh s'copied) .none kV12 dc12 pm12 an12 cd12 ct12), sl12⟩) (c12 : codeIn K cd12 "_law_copied" = true) (k12 : keepIn K (.ref f12) = true)
  (a13 : nsIn K mainGlobals "_law_many" = some (some (.ref f13))) (l13 : K.lookup f13 = some ⟨oc13, od13, .func (fnOf "_law_many" "_law_many" (zw s'many) (zt s'many) (zh s'many) .none kV13 dc13 pm13 an13 cd13 ct13), sl13⟩) (c13 : codeIn K cd13 "_law_many" = true) (k13 : keepIn K (.ref f13) = true)
  (a14 : nsIn K mainGlobals "_law_other_row" = some (some (.ref f14))) (l14 : K.lookup f14 = some ⟨oc14, od14, .func (fnOf "_law_other_row" "_law_other_row" (zw Zn) (zt Zn) (zh Zn) .none kV14 dc14 pm14 an14 cd14 ct14), sl14⟩) (c14 : codeIn K cd14 "_law_other_row" = true) (k14 : keepIn K (.ref f14) = true)
  (a15 : nsIn K mainGlobals "_law_bent" = some (some (.ref f15))) (l15 : K.lookup f15 = some ⟨oc15, od15, .func (fnOf "_law_bent" "_law_bent" (zw s'bent) (zt s'bent) (zh s'bent) .none kV15 dc15 pm15 an15 cd15 ct15), sl15⟩) (c15 : codeIn K cd15 "_law_bent" = true) (k15 : keepIn K (.ref f15) = true)
  (a16 : nsIn K mainGlobals "law" = some (some (.ref f16))) (l16 : K.lookup f16 = some ⟨oc16, od16, .func (fnOf "law" "law" (zw s_law) (zt s_law) (zh s_law) .none kV16 dc16 pm16 an16 cd16 ct16), sl16⟩) (c16 : codeIn K cd16 "law" = true) (k16 : keepIn K (.ref f16) = true)
  (z_all : nsIn K mainGlobals "all" = some none)
  (z_bool : nsIn K mainGlobals "bool" = some none)
  (z_int : nsIn K mainGlobals "int" = some none)
  (z_isinstance : nsIn K mainGlobals "isinstance" = some none)
  (z_len : nsIn K mainGlobals "len" = some none)
  (z_list : nsIn K mainGlobals "list" = some none)
  (z_range : nsIn K mainGlobals "range" = some none)
  (z_sum : nsIn K mainGlobals "sum" = some none)
  (z_tuple : nsIn K mainGlobals "tuple" = some none)
  (z_zip : nsIn K mainGlobals "zip" = some none) :
  ∃ fd : FuncData, (∀ (s : Shared) (v : Value), BindsTo s fd ⟨[v], []⟩ [("_law_script", v)]) ∧ ∀ base : Heap, K.In base → base.Ns mainGlobals mg → FnOk l.prog w K mg base CX0 122 fa fd ["_law_script"] (spM K m_law) := by
 have T := txt_mk X G a0 l0 c0 k0 a1 l1 c1 k1 a2 l2 c2 k2 a3 l3 c3 k3 a4 l4 c4 k4 a5 l5 c5 k5 a6 l6 c6 k6 a7 l7 c7 k7 a8 l8 c8 k8 a9 l9 c9 k9 a10 l10 c10 k10 a11 l11 c11 k11 a12 l12 c12 k12 a13 l13 c13 k13 a14 l14 c14 k14 a15 l15 c15 k15 a16 l16 c16 k16 z_all z_bool z_int z_isinstance z_len z_list z_range z_sum z_tuple z_zip
 have e := hfa.symm.trans (PySem.W.mg_of X G a16)
 cases e
 refine' ⟨_, ?b, fun base kb nb => ?c⟩
 case c =>
  have G_lists_in := ok_lists_in (P := l.prog) (w := w) (base := base) T
  have G_all_alike_1 := ok_all_alike_1 (P := l.prog) (w := w) (base := base) T G_lists_in
  have G_all_alike_2 := ok_all_alike_2 (P := l.prog) (w := w) (base := base) T G_lists_in
  have G_rows_alike := ok_rows_alike (P := l.prog) (w := w) (base := base) T G_lists_in
  have G_row_alike := ok_row_alike (P := l.prog) (w := w) (base := base) T G_lists_in
  have G_one_shape := ok_one_shape (P := l.prog) (w := w) (base := base) T G_all_alike_1
  have G'cell := ok'cell (P := l.prog) (w := w) (base := base) T
  have G'line := ok'line (P := l.prog) (w := w) (base := base) T
  have G'deed := ok'deed (P := l.prog) (w := w) (base := base) T G'line
  have G'body := ok'body (P := l.prog) (w := w) (base := base) T G'deed
  have G'program := ok'program (P := l.prog) (w := w) (base := base) T G'cell G'body
  have G'like := ok'like (P := l.prog) (w := w) (base := base) T G'line
  have G'shape := ok'shape (P := l.prog) (w := w) (base := base) T
  have G'copied := ok'copied (P := l.prog) (w := w) (base := base) T
  have G'many := ok'many (P := l.prog) (w := w) (base := base) T
  have G'other_row := ok'other_row (P := l.prog) (w := w) (base := base) T
  have G'bent := ok'bent (P := l.prog) (w := w) (base := base) T G'other_row
  exact ok_law (P := l.prog) (w := w) (base := base) T G'program G'cell G'like G'many G'bent G'copied G'shape G_one_shape
 case b => exact fun s v => .of_eq rfl
theorem walk {l : PySem.W.OpenLaw} {q : Program} {loose : List Str} {XP : (Str → Option Value) → Heap → Prop} {YP : World → Heap → Prop} {d : DefRec} {K : Params → Frag} (hn : l.most = some 63) (hdf : d.params.defaults = []) (himp : PyProof.Rows.importsNone q = true) (htree : l.prog.given.tree = none)
  (hY : ∀ (w : World) (h : Heap), YP w h → (K w.params).In h)
  (F : ∀ (w : World) (mg : Str → Option Value) (fa : Addr) (h : Heap), (K w.params).In h → h.Ns mainGlobals mg → mg d.name = some (.ref fa) →
   ∃ fd : FuncData, (∀ (s : Shared) (u : Value), BindsTo s fd ⟨[u], []⟩ [("_law_script", u)]) ∧ ∀ base : Heap, (K w.params).In base → base.Ns mainGlobals mg → FnOk l.prog w (K w.params) mg base CX0 122 fa fd ["_law_script"] (spM (K w.params) m_law)) :
  PySem.W.WalkO q loose XP YP l.row.toRowW d [] (fun f vs => PySem.call f vs) :=
 L2.walk_of (n := 63) (k := 122) (x := "_law_script") (CX := fun _ => CX0) (sp := fun w => spM (K w.params) m_law) hn (by decide) hdf ⟨rfl, by decide, by decide, rfl⟩ himp htree hY F (fun _ _ a ns hl hO hS => law_end (l := l) hO hS (law_holds ns hl)) fun _ _ _ _ _ z => z
end EV
open PySem PySem.W PyProof.Rows
set_option maxRecDepth 100000 in
set_option maxHeartbeats 0 in
theorem PySem.Challenge.cw_evennotes_k40_one_shape_holds : PySem.Challenge.rw_evennotes_k40_one_shape.Holds := by
 w_on; o_law; k_head; (case hw => w_witness2)
 k_fill
 refine EV.walk (l := PySem.Challenge.rw_evennotes_k40_one_shape) rfl rfl (by rfl) rfl (fun w h Y => PySem.W.kIn_of Y) ?F
 case F =>
  intro w mg fa h KX G hmg
  refine' EV.all_mk KX G hmg ?a0 ?l0 ?c0 ?k0 ?a1 ?l1 ?c1 ?k1 ?a2 ?l2 ?c2 ?k2 ?a3 ?l3 ?c3 ?k3 ?a4 ?l4 ?c4 ?k4 ?a5 ?l5 ?c5 ?k5 ?a6 ?l6 ?c6 ?k6 ?a7 ?l7 ?c7 ?k7 ?a8 ?l8 ?c8 ?k8 ?a9 ?l9 ?c9 ?k9 ?a10 ?l10 ?c10 ?k10 ?a11 ?l11 ?c11 ?k11 ?a12 ?l12 ?c12 ?k12 ?a13 ?l13 ?c13 ?k13 ?a14 ?l14 ?c14 ?k14 ?a15 ?l15 ?c15 ?k15 ?a16 ?l16 ?c16 ?k16 ?z_all ?z_bool ?z_int ?z_isinstance ?z_len ?z_list ?z_range ?z_sum ?z_tuple ?z_zip
  (case a0 => k_is)
  (case l0 => k_is)
  (case c0 => k_is)
  (case k0 => k_is)
  (case a1 => k_is)
  (case l1 => k_is)
  (case c1 => k_is)
  (case k1 => k_is)
  (case a2 => k_is)
  (case l2 => k_is)
  (case c2 => k_is)
  (case k2 => k_is)
  (case a3 => k_is)
  (case l3 => k_is)
  (case c3 => k_is)
  (case k3 => k_is)
  (case a4 => k_is)
  (case l4 => k_is)
  (case c4 => k_is)
  (case k4 => k_is)
  (case a5 => k_is)
  (case l5 => k_is)
  (case c5 => k_is)
  (case k5 => k_is)
  (case a6 => k_is)
  (case l6 => k_is)
  (case c6 => k_is)
  (case k6 => k_is)
  (case a7 => k_is)
  (case l7 => k_is)
  (case c7 => k_is)
  (case k7 => k_is)
  (case a8 => k_is)
  (case l8 => k_is)
  (case c8 => k_is)
  (case k8 => k_is)
  (case a9 => k_is)
  (case l9 => k_is)
  (case c9 => k_is)
  (case k9 => k_is)
  (case a10 => k_is)
  (case l10 => k_is)
  (case c10 => k_is)
  (case k10 => k_is)
  (case a11 => k_is)
  (case l11 => k_is)
  (case c11 => k_is)
  (case k11 => k_is)
  (case a12 => k_is)
  (case l12 => k_is)
  (case c12 => k_is)
  (case k12 => k_is)
  (case a13 => k_is)
  (case l13 => k_is)
  (case c13 => k_is)
  (case k13 => k_is)
  (case a14 => k_is)
  (case l14 => k_is)
  (case c14 => k_is)
  (case k14 => k_is)
  (case a15 => k_is)
  (case l15 => k_is)
  (case c15 => k_is)
  (case k15 => k_is)
  (case a16 => k_is)
  (case l16 => k_is)
  (case c16 => k_is)
  (case k16 => k_is)
  (case z_all => k_is)
  (case z_bool => k_is)
  (case z_int => k_is)
  (case z_isinstance => k_is)
  (case z_len => k_is)
  (case z_list => k_is)
  (case z_range => k_is)
  (case z_sum => k_is)
  (case z_tuple => k_is)
  (case z_zip => k_is)

