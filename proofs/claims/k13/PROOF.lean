import PyProof.Rows.All
import Wide.All
import OpenK.AllK
import Wide.FinOn
import Lean
import PyProof.EqAt
import PyProof.EqKinds
import PyProof.TupleCall
import PyProof.ZipIter
import PyProof.Draws
import PyProof.EnumMake
import KE.KStateDown
import PyProof.Rows.EqDataRows
import PySem.Challenge.RW_evennotes_k13_what_is_a_program
theorem zSet {α : Type} : (∀ (a : α) (l : List α) (n : Nat) (b : α), (a :: l).set (n + 1) b = a :: l.set n b) ∧ ∀ (a : α) (l : List α) (b : α), (a :: l).set 0 b = b :: l := ⟨fun _ _ _ _ => rfl, fun _ _ _ => rfl⟩
theorem zMap {α β : Type} : (∀ (f : α → β) (a : α) (l : List α), (a :: l).map f = f a :: l.map f) ∧ ∀ f : α → β, [].map f = [] := ⟨fun _ _ _ => rfl, fun _ => rfl⟩
theorem zLen {α : Type} : (∀ (a : α) (l : List α), (a :: l).length = l.length + 1) ∧ ([] : List α).length = 0 := ⟨fun _ _ => rfl, rfl⟩
theorem zApp {α : Type} : (∀ (a : α) (l m : List α), (a :: l) ++ m = a :: (l ++ m)) ∧ ∀ l : List α, [] ++ l = l := ⟨fun _ _ _ => rfl, fun _ => rfl⟩
theorem oB {α β : Type} {f : α → Option β} {a : α} : (some a).bind f = f a := rfl
open PySem.W (nsIn fnOf keepIn codeIn)
set_option Elab.async false
set_option linter.all false
set_option maxRecDepth 100000
namespace L2
open PySem PySem.Spec PyProof.Rows
abbrev Key := Sum Int Str
def keyIs : Key → Value → Bool
 | .inl k, v => Value.isInt k v
 | .inr x, v => Value.isStrOf x v
def keyH (w : World) : Key → Int
 | .inl k => hashInt k
 | .inr x => hashStr w x
theorem keyIs_shape : ∀ {k : Key} {v : Value}, keyIs k v = true → (∃ i t, k = Sum.inl i ∧ v = Value.int i t) ∨ (∃ x t, k = Sum.inr x ∧ v = Value.str x t)
 | .inl i, v, h => by
  obtain ⟨t, e⟩ := Value.isInt_shape (k := i) (v := v) h
  exact .inl ⟨i, t, rfl, e⟩
 | .inr x, v, h => by
  obtain ⟨t, e⟩ := Value.isStrOf_shape (x := x) (v := v) h
  exact .inr ⟨x, t, rfl, e⟩
theorem keyIs_int (i : Int) (t : Tok) : keyIs (.inl i) (.int i t) = true := by simp [keyIs, Value.isInt]
theorem keyIs_str (x : Str) (t : Tok) : keyIs (.inr x) (.str x t) = true := by simp [keyIs, Value.isStrOf]
theorem key_ll (a b : Int) : decide ((Sum.inl a : Key) = Sum.inl b) = (a == b) := by
 by_cases e : a = b
 ·subst e; simp
 ·have h : ¬ (Sum.inl a : Key) = Sum.inl b := fun q => e (Sum.inl.inj q)
  rw [decide_eq_false h]
  exact (beq_eq_false_iff_ne.mpr e).symm
theorem key_rr (a b : Str) : decide ((Sum.inr a : Key) = Sum.inr b) = decide (a = b) := by
 by_cases e : a = b
 ·subst e; simp
 ·have h : ¬ (Sum.inr a : Key) = Sum.inr b := fun q => e (Sum.inr.inj q)
  rw [decide_eq_false h, decide_eq_false e]
theorem key_lr (a : Int) (b : Str) : decide ((Sum.inl a : Key) = Sum.inr b) = false := decide_eq_false (fun q => nomatch q)
theorem key_rl (a : Str) (b : Int) : decide ((Sum.inr a : Key) = Sum.inl b) = false := decide_eq_false (fun q => nomatch q)
def mixKind (prog : Program) (w : World) : PySem.KeyKind prog w Key where
 is := keyIs
 hash := keyH w
 inj := fun v a b ha hb => by
  rcases keyIs_shape ha with ⟨i, t, rfl, rfl⟩ | ⟨x, t, rfl, rfl⟩
  ·rcases keyIs_shape hb with ⟨j, u, rfl, e⟩ | ⟨y, u, rfl, e⟩
   ·injection e with e1 _; rw [e1]
   ·exact nomatch e
  ·rcases keyIs_shape hb with ⟨j, u, rfl, e⟩ | ⟨y, u, rfl, e⟩
   ·exact nomatch e
   ·injection e with e1 _; rw [e1]
 byValue := fun k v h => by
  rcases keyIs_shape h with ⟨i, t, rfl, rfl⟩ | ⟨x, t, rfl, rfl⟩ <;> rfl
 pyHash := fun hv h => by
  rcases keyIs_shape hv with ⟨i, t, rfl, rfl⟩ | ⟨x, t, rfl, rfl⟩
  ·exact wpAny_pyHash_int h
  ·exact wpAny_pyHash_str h
 eqBool := fun hu hv h => by
  rcases keyIs_shape hu with ⟨i, t, rfl, rfl⟩ | ⟨x, t, rfl, rfl⟩
  ·rcases keyIs_shape hv with ⟨j, u, rfl, rfl⟩ | ⟨y, u, rfl, rfl⟩
   ·rw [key_ll] at h; exact wpAny_eqBool_int h
   ·rw [key_lr] at h; exact SeqAt.EqAt.int_str i t y u _ _ _ _ h
  ·rcases keyIs_shape hv with ⟨j, u, rfl, rfl⟩ | ⟨y, u, rfl, rfl⟩
   ·rw [key_rl] at h; exact SeqAt.EqAt.str_int x t j u _ _ _ _ h
   ·rw [key_rr] at h; exact wpAny_eqBool_str h
 «strs» := fun k x t v h => by
  rcases keyIs_shape h with ⟨i, u, rfl, e⟩ | ⟨y, u, rfl, e⟩
  ·exact nomatch e
  ·injection e with e1 _
   subst e1
   cases v <;> rfl
theorem mixKind_int (prog : Program) (w : World) (i : Int) (t : Tok) : (mixKind prog w).is (.inl i) (.int i t) = true := keyIs_int i t
theorem mixKind_str (prog : Program) (w : World) (x : Str) (t : Tok) : (mixKind prog w).is (.inr x) (.str x t) = true := keyIs_str x t
end L2
namespace L2
open PySem PySem.Spec PyProof.Rows
inductive V where
 | non | bl (b : Bool) | int (i : Int) | str (x : Str) | byt (b : Array UInt8) | flt (b : UInt64) | ref (a : Addr) | ty (n : String)
 deriving DecidableEq
def ZE : V → Value → Prop
 | .non, u => u = Value.none
 | .bl b, u => u = Value.bool b
 | .int i, u => ∃ t, u = Value.int i t
 | .str x, u => ∃ t, u = Value.str x t
 | .byt b, u => ∃ t, u = Value.bytes b t
 | .flt b, u => ∃ t, u = Value.float b t
 | .ref a, u => u = Value.ref a
 | .ty n, u => u = Value.type n
abbrev Za : List V → List Value → Prop := Paired ZE
theorem Za.length {xs : List V} {us : List Value} (r : Za xs us) : xs.length = us.length := Paired.length r
theorem Za.get : ∀ {xs : List V} {us : List Value} {i : Nat} {x : V}, Za xs us → xs[i]? = some x → ∃ u, us[i]? = some u ∧ ZE x u
 | _, _, _, _, .nil, e => by simp at e
 | _, _, 0, _, .cons r _, e => by simp at e; subst e; exact ⟨_, rfl, r⟩
 | _, _, i + 1, x, .cons _ t, e => by
  obtain ⟨u, h1, h2⟩ := Za.get (i := i) (x := x) t (by simpa using e)
  exact ⟨u, by simpa using h1, h2⟩
theorem Za.set {x : V} {u : Value} (r : ZE x u) : ∀ {xs : List V} {us : List Value} (i : Nat), Za xs us → Za (xs.set i x) (us.set i u)
 | _, _, _, .nil => .nil
 | _, _, 0, .cons _ t => .cons r t
 | _, _, i + 1, .cons q t => .cons q (Za.set r i t)
theorem Za.append : ∀ {xs ys : List V} {us ws : List Value}, Za xs us → Za ys ws → Za (xs ++ ys) (us ++ ws)
 | _, _, _, _, .nil, s => s
 | _, _, _, _, .cons r t, s => .cons r (Za.append t s)
theorem Za.take : ∀ {xs : List V} {us : List Value} (n : Nat), Za xs us → Za (xs.take n) (us.take n)
 | _, _, 0, _ => .nil
 | _, _, _ + 1, .nil => .nil
 | _, _, n + 1, .cons r t => .cons r (Za.take n t)
theorem Za.drop : ∀ {xs : List V} {us : List Value} (n : Nat), Za xs us → Za (xs.drop n) (us.drop n)
 | _, _, 0, r => r
 | _, _, _ + 1, .nil => .nil
 | _, _, n + 1, .cons _ t => Za.drop n t
def RelO : Option V → Option Value → Prop
 | some v, some u => ZE v u
 | none, none => True
 | _, _ => False
def KV {κ : Type} : List (κ × V) → List (κ × Value) → Prop := Paired fun (p : κ × V) (q : κ × Value) => p.1 = q.1 ∧ ZE p.2 q.2
def kV : Key → V
 | .inl i => .int i
 | .inr x => .str x
inductive HO where
  | lst (xs : List V)
  | tup (xs : List V)
  | dK (kvs : List (Key × V)) | dT (kvs : List (List Key × V))
  | set (S : Int → Bool) (n : Nat)
  | ins (C dx : Addr) (fs : List (Str × V))
  | own (x : Addr)
  | xd (fs : List (Str × V))
  | met (f x : Addr)
  | rng (lo hi : Int)
  | frz (o : Obj) (u : HO)
  | tbl (ps : Array Value)
  | ext (φ : Heap → Prop)
abbrev Hp := Addr → Option HO
def upd (H : Hp) (a : Addr) (o : HO) : Hp := fun b => if b = a then some o else H b
theorem zK {H : Hp} {a : Addr} {o : HO} : upd H a o a = some o := by unfold upd; rw [if_pos rfl]
theorem zI {H : Hp} {a b : Addr} {o : HO} (h : b ≠ a) : upd H a o b = H b := by unfold upd; rw [if_neg h]
theorem ne_of {H : Hp} {a b : Addr} {o u : HO} (h : H a = some o) (h' : H b = some u) (d : o ≠ u) : a ≠ b := by
 intro e; subst e; rw [h] at h'; exact d (Option.some.inj h')
theorem ne_of_none {H : Hp} {a b : Addr} {o : HO} (h : H a = some o) (h' : H b = none) : a ≠ b := by
 intro e; subst e; rw [h] at h'; cases h'
section
variable (P : Program) (w : World)
def ObjOk (H : Hp) (h : Heap) (a : Addr) : HO → Prop
 | .lst xs => xs.length ≤ sizeLine ∧ ∃ (its : List Value) (n : Nat), Za xs its ∧ h.get? a = some { cls := .type "list", data := .seq its.toArray n }
 | .tup xs => xs.length ≤ sizeLine ∧ ∃ its : List Value, Za xs its ∧ IsTup h a its.toArray
 | .dK kvs => kvs.length ≤ sizeLine ∧ (a == sysModules) = false ∧ ∃ vs, KV kvs vs ∧ h.DictOf (mixKind P w) a vs
 | .dT kvs => kvs.length ≤ sizeLine ∧ (a == sysModules) = false ∧ ∃ xs : List (List Key × Addr × Value),
   Paired (fun (p : List Key × V) (q : List Key × Addr × Value) => p.1 = q.1 ∧ H q.2.1 = some (.tup (p.1.map kV)) ∧ ZE p.2 q.2.2) kvs xs ∧
   ∃ o es ep, h.get? a = some o ∧ o.ExactDict ∧ o.data = .dict es ep ∧ es.toList = xs.map (entryOfKey (tupleKind (mixKind P w))) ∧ (xs.map (·.1)).Nodup
 | .set S n => h.SetOf (intKind P w) a S n
 | .ins C dx fs => H dx = some (.own a) ∧ fs.length ≤ 1000 ∧ dx ≠ a ∧ h.get? a = some (PySem.W.instObj C dx) ∧
   ∃ mA, h.Ns1 dx mA ∧ (∀ f, RelO (fs.lookup f) (mA f)) ∧ PySem.Within mA (fs.map (·.1))
 | .own _ => ∃ o, h.get? a = some o
 | .xd fs => ∃ mA, h.Ns1 a mA ∧ ∀ f, RelO (fs.lookup f) (mA f)
 | .rng lo hi => ∃ t u v, h.get? a = some { cls := .type "range", data := .fields #[.int lo t, .int hi u, .int 1 v] }
 | .frz o u => h.get? a = some o ∧ ObjOk H h a u
 | .tbl ps => h.get? a = some { cls := .none, data := .fields ps }
 | .met f x => h.get? a = some (PySem.W.methodObj (.ref f) (.ref x))
 | .ext φ => φ h ∧ (∃ o, h.get? a = some o) ∧ ∀ h1 h2 : Heap, φ h1 → (∀ o, h1.get? a = some o → h2.get? a = some o) → φ h2
def HOk (H : Hp) (h : Heap) : Prop := ∀ a o, H a = some o → ObjOk P w H h a o
end
section
variable {P : Program} {w : World} {H H' : Hp} {h h' : Heap} {a : Addr} {o : HO}
theorem ObjOk.lt (x : ObjOk P w H h a o) : a < h.objs.size := by
 cases o with
 | lst xs => obtain ⟨_, _, _, _, e⟩ := x; exact Heap.lt_size e
 | tup xs => obtain ⟨_, _, _, p⟩ := x; exact p.lt
 | dK kvs => obtain ⟨_, _, _, _, o, _, _, e, _⟩ := x; exact Heap.lt_size e
 | dT kvs => obtain ⟨_, _, _, _, o, _, _, e, _⟩ := x; exact Heap.lt_size e
 | set S n => obtain ⟨o, _, _, _, e, _⟩ := x; exact Heap.lt_size e
 | ins C dx fs => obtain ⟨_, _, _, e, _⟩ := x; exact Heap.lt_size e
 | own y => obtain ⟨_, e⟩ := x; exact Heap.lt_size e
 | xd fs => obtain ⟨_, ⟨_, _, _, e, _⟩, _⟩ := x; exact Heap.lt_size e
 | rng lo hi => obtain ⟨_, _, _, e⟩ := x; exact Heap.lt_size e
 | frz ob u => obtain ⟨e, _⟩ := x; exact Heap.lt_size e
 | tbl ps => exact Heap.lt_size (show h.get? a = some _ from x)
 | met f y => exact Heap.lt_size (show h.get? a = some _ from x)
 | ext φ => obtain ⟨_, ⟨_, e⟩, _⟩ := x; exact Heap.lt_size e
theorem Paired.mapP {α β : Type} {F G : α → β → Prop} : ∀ {l₁ : List α} {l₂ : List β}, Paired F l₁ l₂ → (∀ a b, F a b → G a b) → Paired G l₁ l₂
 | _, _, .nil, _ => .nil
 | _, _, .cons r t, f => .cons (f _ _ r) (Paired.mapP t f)
theorem ObjOk.stay (x : ObjOk P w H h a o) (k : ∀ b u, (b = a ∨ H b = some (.own a)) → h.get? b = some u → h'.get? b = some u)
  (ho : ∀ b, H b = some (.own a) → H' b = some (.own a)) (ht : ∀ b xs, H b = some (.tup xs) → H' b = some (.tup xs)) : ObjOk P w H' h' a o := by
 induction o with
 | lst xs => obtain ⟨z, its, n, r, e⟩ := x; exact ⟨z, its, n, r, k _ _ (.inl rfl) e⟩
 | tup xs => obtain ⟨z, its, r, ob, e, c⟩ := x; exact ⟨z, its, r, ob, k _ _ (.inl rfl) e, c⟩
 | dK kvs => obtain ⟨z, y, vs, r, ob, es, ep, e, c⟩ := x; exact ⟨z, y, vs, r, ob, es, ep, k _ _ (.inl rfl) e, c⟩
 | dT kvs =>
  obtain ⟨z, y, xs, r, ob, es, ep, e, c⟩ := x
  exact ⟨z, y, xs, Paired.mapP r fun p q z => ⟨z.1, ht _ _ z.2.1, z.2.2⟩, ob, es, ep, k _ _ (.inl rfl) e, c⟩
 | set S n => obtain ⟨ob, es, ep, t, e, c⟩ := x; exact ⟨ob, es, ep, t, k _ _ (.inl rfl) e, c⟩
 | ins C dx fs =>
  obtain ⟨d, z, ne, e, mA, ⟨od, es, ep, e2, c⟩, r⟩ := x
  exact ⟨ho _ d, z, ne, k _ _ (.inl rfl) e, mA, ⟨od, es, ep, k _ _ (.inr d) e2, c⟩, r⟩
 | own y => obtain ⟨ob, e⟩ := x; exact ⟨ob, k _ _ (.inl rfl) e⟩
 | xd fs => obtain ⟨mA, ⟨od, es, ep, e, c⟩, r⟩ := x; exact ⟨mA, ⟨od, es, ep, k _ _ (.inl rfl) e, c⟩, r⟩
 | rng lo hi => obtain ⟨t, u, v, e⟩ := x; exact ⟨t, u, v, k _ _ (.inl rfl) e⟩
 | frz ob u ih => obtain ⟨e, q⟩ := x; exact ⟨k _ _ (.inl rfl) e, ih q⟩
 | tbl ps =>
  have e : h.get? a = some { cls := .none, data := .fields ps } := x
  show h'.get? a = some { cls := .none, data := .fields ps }
  exact k a _ (.inl rfl) e
 | met f y =>
  have e : h.get? a = some (PySem.W.methodObj (.ref f) (.ref y)) := x
  show h'.get? a = some (PySem.W.methodObj (.ref f) (.ref y))
  exact k a _ (.inl rfl) e
 | ext φ => obtain ⟨p, ⟨o, e⟩, st⟩ := x; exact ⟨st _ _ p fun o q => k _ _ (.inl rfl) q, ⟨o, k _ _ (.inl rfl) e⟩, st⟩
theorem HOk.lt (x : HOk P w H h) (e : H a = some o) : a < h.objs.size := (x a o e).lt
theorem HOk.fresh (x : HOk P w H h) (e : h.objs.size ≤ a) : H a = none := by
 cases q : H a with
 | none => rfl
 | some u => exact absurd (Nat.lt_of_lt_of_le (x.lt q) e) (Nat.lt_irrefl _)
theorem HOk.kept (x : HOk P w H h) (k : ∀ b u, h.get? b = some u → h'.get? b = some u) : HOk P w H h' := fun a o e =>
 (x a o e).stay (fun b u _ q => k b u q) (fun _ q => q) fun _ _ q => q
theorem HOk.laid (x : HOk P w H h) (k : ∀ b u, h.get? b = some u → h'.get? b = some u) (hp : h.objs.size ≤ a) (new : ObjOk P w (upd H a o) h' a o) : HOk P w (upd H a o) h' := fun b u e => by
 have hn := x.fresh hp
 by_cases hb : b = a
 ·subst hb; rw [zK] at e; cases e; exact new
 ·rw [zI hb] at e
  exact (x b u e).stay (fun c v _ q => k c v q) (fun c q => by rw [zI (ne_of_none q hn)]; exact q) fun c xs q => by rw [zI (ne_of_none q hn)]; exact q
end
def Rd (H : Hp) (a : Addr) (u : HO) : Prop := H a = some u ∨ ∃ o, H a = some (.frz o u)
theorem Rd.ok {P : Program} {w : World} {H : Hp} {h : Heap} {a : Addr} {u : HO} (r : Rd H a u) (x : HOk P w H h) : ObjOk P w H h a u := by
 rcases r with r | ⟨o, r⟩
 ·exact x a u r
 ·obtain ⟨_, q⟩ := x a _ r
  exact q
def Mut : Option HO → Prop
 | some (.lst _) => True
 | some (.dK _) => True
 | some (.dT _) => True
 | some (.set _ _) => True
 | some (.ins _ _ _) => True
 | some (.ext _) => True
 | _ => False
section
variable {P : Program} {w : World} {H : Hp} {h h' : Heap} {x e : Addr} {o' : HO}
theorem HOk.write (ok : HOk P w H h) (mu : Mut (H x)) (he : e = x ∨ H e = some (.own x)) (k : ∀ b u, b ≠ e → h.get? b = some u → h'.get? b = some u) (heo : ∃ u, h'.get? e = some u)
  (new : ObjOk P w (upd H x o') h' x o') : HOk P w (upd H x o') h' := fun b u q => by
 have nown : ∀ c y, H c = some (.own y) → c ≠ x := fun c y r z => by subst z; rw [r] at mu; exact mu
 have ntup : ∀ c xs, H c = some (.tup xs) → c ≠ x := fun c xs r z => by subst z; rw [r] at mu; exact mu
 by_cases hb : b = x
 ·subst hb; rw [zK] at q; cases q; exact new
 ·rw [zI hb] at q
  by_cases hbe : b = e
  ·have q' : H b = some (.own x) := by
    rcases he with z | z
    ·exact absurd (hbe.trans z) hb
    ·rw [hbe]; exact z
   rw [q] at q'; cases q'
   obtain ⟨v, hv⟩ := heo
   exact ⟨v, by rw [hbe]; exact hv⟩
  ·refine (ok b u q).stay (fun c v hc r => k c v ?_ r) (fun c r => by rw [zI (nown c b r)]; exact r) fun c xs r => by rw [zI (ntup c xs r)]; exact r
   rcases hc with rfl | hc
   ·exact hbe
   ·rintro rfl
    rcases he with z | z
    ·exact nown c b hc z
    ·rw [hc] at z; cases z; exact hb rfl
end
structure Un (fs ex : List Addr) (H H' : Hp) (h h' : Heap) : Prop where
 keep : ∀ b o, h.get? b = some o → H b = none → b ∉ fs → b ∉ ex → h'.get? b = some o
 slot : ∀ b o, h.get? b = some o → H b = none → b ∈ fs → b ∉ ex → ∃ sl, h'.get? b = some { o with slots := sl }
 free : ∀ b o, h.get? b = some o → H b = none → b ∉ ex → H' b = none
 there : ∀ b o, h.get? b = some o → b ∉ ex → ∃ o', h'.get? b = some o'
 tups : ∀ b xs, H b = some (.tup xs) → H' b = some (.tup xs)
 frzs : ∀ b o u, H b = some (.frz o u) → H' b = some (.frz o u)
 tbls : ∀ b ps, H b = some (.tbl ps) → ∃ more, H' b = some (.tbl (ps ++ more))
section
variable {fs fs' ex ex' : List Addr} {H H1 H2 : Hp} {h h1 h2 h' : Heap} {a x e : Addr} {o : HO}
theorem Un.any (u : Un fs ex H H1 h h1) {b : Addr} {ob : Obj} (q : h.get? b = some ob) (n : H b = none) (hx : b ∉ ex) : ∃ sl, h1.get? b = some { ob with slots := sl } := by
 by_cases hb : b ∈ fs
 ·exact u.slot b ob q n hb hx
 ·exact ⟨ob.slots, u.keep b ob q n hb hx⟩
theorem Un.trans (a : Un fs ex H H1 h h1) (b : Un fs ex H1 H2 h1 h2) : Un fs ex H H2 h h2 where
 keep := fun c ob q n hc hx => b.keep c ob (a.keep c ob q n hc hx) (a.free c ob q n hx) hc hx
 slot := fun c ob q n hc hx => by
  obtain ⟨sl, e1⟩ := a.slot c ob q n hc hx
  obtain ⟨sl', e2⟩ := b.slot c _ e1 (a.free c ob q n hx) hc hx
  exact ⟨sl', e2⟩
 free := fun c ob q n hx => by
  obtain ⟨o', e1⟩ := a.there c ob q hx
  exact b.free c o' e1 (a.free c ob q n hx) hx
 there := fun c ob q hx => by
  obtain ⟨o', e1⟩ := a.there c ob q hx
  exact b.there c o' e1 hx
 tups := fun c xs q => b.tups c xs (a.tups c xs q)
 frzs := fun c ob xs q => b.frzs c ob xs (a.frzs c ob xs q)
 tbls := fun c ps q => by
  obtain ⟨m1, e1⟩ := a.tbls c ps q
  obtain ⟨m2, e2⟩ := b.tbls c _ e1
  exact ⟨m1 ++ m2, by rw [e2, Array.append_assoc]⟩
theorem Un.kept (k : ∀ b u, h.get? b = some u → h'.get? b = some u) : Un fs ex H H h h' :=
 ⟨fun b ob q _ _ _ => k b ob q, fun b ob q _ _ _ => ⟨ob.slots, k b ob q⟩, fun _ _ _ n _ => n, fun b ob q _ => ⟨ob, k b ob q⟩, fun _ _ q => q, fun _ _ _ q => q, fun _ ps q => ⟨#[], by rw [q]; simp⟩⟩
theorem Un.refl : Un fs ex H H h h := Un.kept fun _ _ q => q
theorem Un.laid (k : ∀ b u, h.get? b = some u → h'.get? b = some u) (hp : h.objs.size ≤ a) (hn : H a = none) : Un fs ex H (upd H a o) h h' where
 keep := fun b u q _ _ _ => k b u q
 slot := fun b u q _ _ _ => ⟨u.slots, k b u q⟩
 free := fun b u q n _ => by rw [zI (Nat.ne_of_lt (Nat.lt_of_lt_of_le (Heap.lt_size q) hp))]; exact n
 there := fun b u q _ => ⟨u, k b u q⟩
 tups := fun b xs q => by rw [zI (ne_of_none q hn)]; exact q
 frzs := fun b u xs q => by rw [zI (ne_of_none q hn)]; exact q
 tbls := fun b ps q => ⟨#[], by rw [zI (ne_of_none q hn), q]; simp⟩
theorem Un.write (mu : Mut (H x)) (he : e = x ∨ H e = some (.own x)) (k : ∀ b u, b ≠ e → h.get? b = some u → h'.get? b = some u) (heo : ∃ u, h'.get? e = some u) : Un fs ex H (upd H x o) h h' := by
 have hx : ∀ b, H b = none → b ≠ x := fun b n z => by subst z; rw [n] at mu; exact mu
 have hb : ∀ b, H b = none → b ≠ e := fun b n z => by
  subst z
  rcases he with r | r
  ·exact hx b n r
  ·rw [n] at r; cases r
 have hm : ∀ b u, H b = some u → ¬ Mut (some u) → b ≠ x := fun b u q nm z => by subst z; rw [q] at mu; exact nm mu
 refine ⟨fun b u q n _ _ => k b u (hb b n) q, fun b u q n _ _ => ⟨u.slots, k b u (hb b n) q⟩, fun b u q n _ => by rw [zI (hx b n)]; exact n, fun b u q _ => ?_,
  fun b xs q => by rw [zI (hm b _ q fun z => z)]; exact q, fun b u xs q => by rw [zI (hm b _ q fun z => z)]; exact q, fun b ps q => ⟨#[], by rw [zI (hm b _ q fun z => z), q]; simp⟩⟩
 by_cases hbe : b = e
 ·subst hbe; exact heo
 ·exact ⟨u, k b u hbe q⟩
end
def trk (h : Heap) (H : Hp) : List Addr := (List.range h.objs.size).filter fun a => (H a).isSome
def hidT (h : Heap) (H : Hp) : Heap := PySem.W.hideAll h (trk h H)
theorem hidT_size (h : Heap) (H : Hp) : (hidT h H).objs.size = h.objs.size := PySem.W.hideAll_size _ _
theorem hidT_get {h : Heap} {H : Hp} {b : Addr} {o : Obj} (e : h.get? b = some o) (n : H b = none) : (hidT h H).get? b = some o :=
 PySem.W.hideAll_get _ e fun hm => by
  have q : (H b).isSome = true := (List.mem_filter.mp hm).2
  rw [n] at q; simp at q
theorem of_hidT {h : Heap} {H : Hp} {b : Addr} {o : Obj} (e : (hidT h H).get? b = some o) : h.get? b = some o ∧ H b = none := by
 have e' : h.get? b = some o := PySem.W.of_hideAll (trk h H) e
 refine ⟨e', ?_⟩
 cases q : H b with
 | none => rfl
 | some x =>
  have hm : b ∈ trk h H := List.mem_filter.mpr ⟨List.mem_range.mpr (Heap.lt_size e'), by simp [q]⟩
  have z : (hidT h H).get? b = none := PySem.W.hideAll_none (trk h H) hm
  rw [z] at e; cases e
def allNews (g h : Heap) (L : Addr) : List (Addr × Obj) := (List.range h.objs.size).filterMap fun a => if a = L ∨ (g.get? a).isSome = true then none else (h.get? a).map fun o => (a, o)
def rest (g h : Heap) (L d : Addr) : List (Addr × Obj) := (allNews g h L).filter fun p => decide (p.1 ≠ d)
end L2
namespace L2
open PySem PySem.Spec PyProof.Rows
structure Mod (K : PySem.W.Frag) (mg : Str → Option Value) (base : Heap) : Prop where
 kin : K.In base
 glob : base.Ns mainGlobals mg
 blt : ∃ mb, base.Ns builtinsNs mb ∧ ∀ x : Str, x ≠ "__name__" → mb x = bootBuiltins x
 nolimit : base.NoLimit
 seer : base.NoSeer
structure Cx where
 prog : Program
 w : World
 K : PySem.W.Frag
 mg : Str → Option Value
 base : Heap
 A : Around
 N : List Str
 s₀ : Shared
 H₀ : Hp
 env : Env
 outer : List Env
 stack : List Env
 ex : List Addr
 fn : Str → Bool
 calm : Bool
 pn : List (Addr × Obj)
 xe : Value → Shared → Prop
def frs (l : List Env) : List Addr := l.filterMap (·.frame)
abbrev Cx.fs (X : Cx) : List Addr := frs X.outer
def Vis (sc : Scope) (x : Str) : Prop := sc.names.lookup x = some .local ∨ sc.names.lookup x = some .cell ∨ sc.names.lookup x = some .free
def Loc (sc : Scope) (x : Str) : Prop := sc.names.lookup x = some .local ∨ sc.names.lookup x = some .cell
def Look (env : Env) (h : Heap) (m : Str → Option Value) (x : Str) (u : Value) : Prop :=
 (env.kindOf x = some .local ∧ m x = some u) ∨ ((env.kindOf x = some .cell ∨ env.kindOf x = some .free) ∧ ∃ c, env.cells.lookup x = some c ∧ h.IsCell c (some u))
structure Cx.Ok (X : Cx) : Prop where
 mod : Mod X.K X.mg X.base
 kind : X.env.scope.kind = .function
 glob : X.env.globals = mainGlobals
 blt : X.env.builtins = builtinsNs
 above : X.s₀.heap.objs.size ≤ X.env.locals
 inj : ∀ x y c, X.env.cells.lookup x = some c → X.env.cells.lookup y = some c → x = y
 has : ∀ x, (X.env.kindOf x = some .cell ∨ X.env.kindOf x = some .free) → ∃ c, X.env.cells.lookup x = some c
 cab : ∀ x c, X.fn x = true → X.env.cells.lookup x = some c → X.s₀.heap.objs.size ≤ c
 hd : X.calm = true → X.A.handled = none
 frames : X.A.frames = some X.stack
 stk : X.stack = X.outer ∨ (X.stack = X.env :: X.outer ∧ X.env.frame = some X.env.locals)
 exf : ∀ b ∈ X.ex, b ≠ X.env.locals ∧ ∀ x c, X.env.cells.lookup x = some c → c ≠ b
 bs : ∀ b o, X.base.get? b = some o → X.s₀.heap.get? b = some o ∧ X.H₀ b = none
 bsz : X.base.objs.size ≤ X.s₀.heap.objs.size
 noex : ∀ b o, X.base.get? b = some o → b ∉ X.ex
 exfs : ∀ b ∈ X.ex, b ∉ X.fs
 funs : X.s₀.heap.FunFrames X.base X.outer
 frf : ∀ b ∈ X.fs, X.H₀ b = none
 top : ∃ e l, X.stack = e :: l ∧ e.scope.isGenerator = false ∧ e.scope.isCoroutine = false ∧ e.builtins = builtinsNs ∧ e.globals = mainGlobals
 tree : X.prog.given.tree = none
structure Inv (X : Cx) (pins : List (Addr × Obj)) (σ : List (Option V)) (H : Hp) (s : Shared) : Prop where
 ok : X.Ok
 os : s.os = X.s₀.os
 bare : AllBare s.gens
 base : Un X.fs X.ex X.H₀ H X.s₀.heap s.heap
 loc : ∃ m, s.heap.Ns X.env.locals m ∧ ∀ (i : Nat) (x : Str) (v : V), X.N[i]? = some x → σ[i]? = some (some v) → Vis X.env.scope x → ∃ u, ZE v u ∧ Look X.env s.heap m x u
 cell : ∀ x c, X.env.cells.lookup x = some c → ∃ v, s.heap.IsCell c v
 free : H X.env.locals = none
 freeC : ∀ x c, X.env.cells.lookup x = some c → H c = none
 pin : ∀ p ∈ X.pn ++ pins, s.heap.get? p.1 = some p.2 ∧ H p.1 = none ∧ p.1 ≠ X.env.locals ∧ p.1 ∉ X.fs ∧ ∀ v, p.2.data ≠ .cell v
 hok : HOk X.prog X.w H s.heap
 len : σ.length = X.N.length
section
variable {X : Cx} {pins : List (Addr × Obj)} {σ : List (Option V)} {H H' : Hp} {s : Shared} {h' : Heap}
theorem Cx.Ok.nofr (ok : X.Ok) {b : Addr} {o : Obj} (e : X.base.get? b = some o) : b ∉ X.fs := fun hb => by
 have := (ok.funs.mem hb).1
 rw [e] at this; cases this
theorem Inv.bs (I : Inv X pins σ H s) : ∀ b o, X.base.get? b = some o → s.heap.get? b = some o ∧ H b = none := fun b o e =>
 ⟨I.base.keep b o (I.ok.bs b o e).1 (I.ok.bs b o e).2 (I.ok.nofr e) (I.ok.noex b o e), I.base.free b o (I.ok.bs b o e).1 (I.ok.bs b o e).2 (I.ok.noex b o e)⟩
theorem Inv.bk (I : Inv X pins σ H s) : ∀ b o, X.base.get? b = some o → s.heap.get? b = some o := fun b o e => (I.bs b o e).1
theorem Inv.mod (I : Inv X pins σ H s) : Mod X.K X.mg X.base := I.ok.mod
theorem Inv.kIn (I : Inv X pins σ H s) : X.K.In s.heap := I.ok.mod.kin.keeps I.bk
theorem Inv.nolimit (I : Inv X pins σ H s) : s.heap.NoLimit := I.ok.mod.nolimit.keeps I.bk
theorem Inv.fr (I : Inv X pins σ H s) : ∃ m, Fr X.base X.env.locals s.heap m :=
 let ⟨m, hn, _⟩ := I.loc
 ⟨m, hn, I.bk, Nat.le_trans I.ok.bsz I.ok.above⟩
theorem Inv.lt (I : Inv X pins σ H s) : X.env.locals < s.heap.objs.size := let ⟨_, hn, _⟩ := I.loc; hn.lt
theorem Inv.sz (I : Inv X pins σ H s) : X.s₀.heap.objs.size ≤ s.heap.objs.size := Nat.le_trans I.ok.above (Nat.le_of_lt I.lt)
theorem Inv.nofs (I : Inv X pins σ H s) {a : Addr} (h : s.heap.objs.size ≤ a) : a ∉ X.fs := fun hb => by
 obtain ⟨_, o, ho, _⟩ := I.ok.funs.mem hb
 exact absurd (Nat.lt_of_lt_of_le (Heap.lt_size ho) (Nat.le_trans I.sz h)) (Nat.lt_irrefl _)
theorem Inv.cne (I : Inv X pins σ H s) : ∀ x c, X.env.cells.lookup x = some c → c ≠ X.env.locals := fun x c e z => by
 obtain ⟨v, o, ho, hd⟩ := I.cell x c e
 obtain ⟨m, ⟨o', es, ep, ho', hd', _⟩, _⟩ := I.loc
 rw [z, ho'] at ho; cases ho; rw [hd'] at hd; cases hd
theorem Inv.funs (I : Inv X pins σ H s) : s.heap.FunFrames X.base X.outer := by
 have all : ∀ (l : List Env), (∀ b ∈ frs l, b ∈ X.fs) → X.s₀.heap.FunFrames X.base l → s.heap.FunFrames X.base l := by
  intro l
  induction l with
  | nil => intro _ _; trivial
  | cons env r ih =>
   intro hs hl
   obtain ⟨hk, ⟨L, o, hf, hn, ho, hd⟩, hr⟩ := hl
   have hL : L ∈ X.fs := hs L (by unfold frs; rw [List.filterMap_cons, hf]; exact List.mem_cons_self)
   obtain ⟨sl, e⟩ := I.base.slot L o ho (I.ok.frf L hL) hL fun z => I.ok.exfs L z hL
   exact ⟨hk, ⟨L, _, hf, hn, e, hd⟩, ih (fun b hb => hs b (by unfold frs; rw [List.filterMap_cons, hf]; exact List.mem_cons_of_mem _ hb)) hr⟩
 exact all X.outer (fun _ hb => hb) I.ok.funs
theorem Inv.stack (I : Inv X pins σ H s) : s.heap.FunFrames X.base X.stack := by
 rcases I.ok.stk with e | ⟨e, hf⟩
 ·rw [e]; exact I.funs
 ·rw [e]
  obtain ⟨m, hn, _⟩ := I.loc
  refine .cons (by rw [I.ok.kind]; decide) hf hn ?_ I.funs
  exact Heap.get?_none_of_le (Nat.le_trans I.ok.bsz I.ok.above)
theorem Inv.stkSub (I : Inv X pins σ H s) : ∀ b ∈ frs X.stack, b ∈ X.env.locals :: X.fs := fun b hb => by
 rcases I.ok.stk with e | ⟨e, hf⟩
 ·rw [e] at hb; exact List.mem_cons_of_mem _ hb
 ·rw [e] at hb
  unfold frs at hb
  rw [List.filterMap_cons, hf] at hb
  exact hb
theorem Inv.stkFree (I : Inv X pins σ H s) : ∀ b ∈ frs X.stack, H b = none := fun b hb => by
 rcases List.mem_cons.mp (I.stkSub b hb) with e | hb
 ·rw [e]; exact I.free
 ·obtain ⟨_, o, ho, _⟩ := I.ok.funs.mem hb
  exact I.base.free b o ho (I.ok.frf b hb) fun z => I.ok.exfs b z hb
theorem Inv.step {g' : Array GenState} {t' : Nat} {d' : Drawn} {ch : List Addr} (I : Inv X pins σ H s)
  (hch : ∀ b ∈ ch, (b ∈ X.ex ∨ X.s₀.heap.objs.size ≤ b) ∧ b ≠ X.env.locals ∧ (∀ x c, X.env.cells.lookup x = some c → c ≠ b) ∧ ∀ p ∈ X.pn ++ pins, p.1 ≠ b)
  (keep : ∀ b o, b ≠ X.env.locals → b ∉ X.fs → b ∉ ch → s.heap.get? b = some o → H b = none → h'.get? b = some o)
  (slot : ∀ b o, b ≠ X.env.locals → b ∈ X.fs → b ∉ ch → s.heap.get? b = some o → H b = none → ∃ sl, h'.get? b = some { o with slots := sl }) (free : ∀ b o, b ∉ ch → s.heap.get? b = some o → H b = none → H' b = none)
  (there : ∀ b o, b ∉ ch → s.heap.get? b = some o → ∃ o', h'.get? b = some o')
  (tups : ∀ b xs, H b = some (.tup xs) → H' b = some (.tup xs)) (frzs : ∀ b o u, H b = some (.frz o u) → H' b = some (.frz o u)) (tbls : ∀ b ps, H b = some (.tbl ps) → ∃ more, H' b = some (.tbl (ps ++ more)))
  (ns : ∀ m, s.heap.Ns X.env.locals m → h'.Ns X.env.locals m) (hok : HOk X.prog X.w H' h') (hg : AllBare g') :
  Inv X pins σ H' { s with heap := h', gens := g', drawn := d', toks := t' } := by
 have neL : ∀ b o, X.s₀.heap.get? b = some o → b ≠ X.env.locals := fun b o e => Nat.ne_of_lt (Nat.lt_of_lt_of_le (Heap.lt_size e) I.ok.above)
 have neC : ∀ b o, X.s₀.heap.get? b = some o → b ∉ X.ex → b ∉ ch := fun b o e hx hb => by
  rcases (hch b hb).1 with z | z
  ·exact hx z
  ·exact absurd (Nat.lt_of_lt_of_le (Heap.lt_size e) z) (Nat.lt_irrefl _)
 have cellK : ∀ x c, X.env.cells.lookup x = some c → ∀ v, s.heap.IsCell c v → h'.IsCell c v := fun x c e v ⟨o, ho, hd⟩ => by
  have nch : c ∉ ch := fun z => (hch c z).2.2.1 x c e rfl
  by_cases hc : c ∈ X.fs
  ·obtain ⟨sl, q⟩ := slot c o (I.cne x c e) hc nch ho (I.freeC x c e)
   exact ⟨_, q, hd⟩
  ·exact ⟨o, keep c o (I.cne x c e) hc nch ho (I.freeC x c e), hd⟩
 refine ⟨I.ok, I.os, hg, ⟨fun b o e n hb hx => ?_, fun b o e n hb hx => ?_, fun b o e n hx => ?_, fun b o e hx => ?_, fun b xs e => tups b xs (I.base.tups b xs e), fun b o xs e => frzs b o xs (I.base.frzs b o xs e), fun b ps e => ?_⟩, ?_, fun x c e => ?_, ?_, fun x c e => ?_, fun p hp => ?_, hok, I.len⟩
 ·exact keep b o (neL b o e) hb (neC b o e hx) (I.base.keep b o e n hb hx) (I.base.free b o e n hx)
 ·obtain ⟨sl, e1⟩ := I.base.slot b o e n hb hx
  obtain ⟨sl', e2⟩ := slot b _ (neL b o e) hb (neC b o e hx) e1 (I.base.free b o e n hx)
  exact ⟨sl', e2⟩
 ·obtain ⟨o', e1⟩ := I.base.there b o e hx
  exact free b o' (neC b o e hx) e1 (I.base.free b o e n hx)
 ·obtain ⟨o', e1⟩ := I.base.there b o e hx
  exact there b o' (neC b o e hx) e1
 ·obtain ⟨m1, e1⟩ := I.base.tbls b ps e
  obtain ⟨m2, e2⟩ := tbls b _ e1
  exact ⟨m1 ++ m2, by rw [e2, Array.append_assoc]⟩
 ·obtain ⟨m, hn, hl⟩ := I.loc
  refine ⟨m, ns m hn, fun i x v e1 e2 e3 => ?_⟩
  obtain ⟨u, r, l⟩ := hl i x v e1 e2 e3
  refine ⟨u, r, ?_⟩
  rcases l with l | ⟨k, c, e, z⟩
  ·exact .inl l
  ·exact .inr ⟨k, c, e, cellK x c e _ z⟩
 ·obtain ⟨v, z⟩ := I.cell x c e
  exact ⟨v, cellK x c e v z⟩
 ·obtain ⟨m, ⟨o, _, _, ho, _⟩, _⟩ := I.loc
  exact free _ o (fun z => (hch _ z).2.1 rfl) ho I.free
 ·obtain ⟨v, o, ho, hd⟩ := I.cell x c e
  exact free c o (fun z => (hch c z).2.2.1 x c e rfl) ho (I.freeC x c e)
 ·obtain ⟨e, n, ne, nf, d⟩ := I.pin p hp
  have nch : p.1 ∉ ch := fun z => (hch p.1 z).2.2.2 p hp rfl
  exact ⟨keep p.1 p.2 ne nf nch e n, free p.1 p.2 nch e n, ne, nf, d⟩
theorem Inv.un {t' : Nat} (I : Inv X pins σ H s) (u : Un X.fs [] H H' s.heap h') (hok : HOk X.prog X.w H' h') : Inv X pins σ H' { s with heap := h', toks := t' } := by
 obtain ⟨m, ⟨o, es, ep, ho, r⟩, _⟩ := id I.loc
 obtain ⟨sl, hL⟩ := u.any ho I.free (by simp)
 exact I.step (g' := s.gens) (d' := s.drawn) (ch := []) (fun _ z => nomatch z) (fun b o _ hb _ e n => u.keep b o e n hb (by simp)) (fun b o _ hb _ e n => u.slot b o e n hb (by simp)) (fun b o _ e n => u.free b o e n (by simp)) (fun b o _ e => u.there b o e (by simp)) u.tups u.frzs u.tbls (fun m' hm => by
  obtain ⟨o', es', ep', ho', r'⟩ := hm
  rw [ho] at ho'; cases ho'
  exact ⟨_, es', ep', hL, r'⟩) hok I.bare
theorem Inv.call {g' : Array GenState} {t' : Nat} {d' : Drawn} {ch : List Addr} (I : Inv X pins σ H s) (u : Un (frs X.stack) ch H H' s.heap h') (hok : HOk X.prog X.w H' h') (hg : AllBare g')
  (hch : ∀ b ∈ ch, (b ∈ X.ex ∨ X.s₀.heap.objs.size ≤ b) ∧ b ≠ X.env.locals ∧ (∀ x c, X.env.cells.lookup x = some c → c ≠ b) ∧ ∀ p ∈ X.pn ++ pins, p.1 ≠ b) :
  Inv X pins σ H' { s with heap := h', gens := g', drawn := d', toks := t' } := by
 obtain ⟨m, ⟨o, es, ep, ho, r⟩, _⟩ := id I.loc
 obtain ⟨sl, hL⟩ := u.any ho I.free fun z => (hch _ z).2.1 rfl
 exact I.step (ch := ch) hch (fun b o hL hb hc e n => u.keep b o e n (fun z => (List.mem_cons.mp (I.stkSub b z)).elim hL hb) hc) (fun b o _ _ hc e n => u.any e n hc) (fun b o hc e n => u.free b o e n hc) (fun b o hc e => u.there b o e hc) u.tups u.frzs u.tbls (fun m' hm => by
  obtain ⟨o', es', ep', ho', r'⟩ := hm
  rw [ho] at ho'; cases ho'
  exact ⟨_, es', ep', hL, r'⟩) hok hg
theorem Inv.turned {t' : Nat} {it : Addr} (I : Inv X pins σ H s) (k : ∀ b o, b ≠ it → s.heap.get? b = some o → h'.get? b = some o) (hn : H it = none) (hL : it ≠ X.env.locals)
  (h1 : it ∈ X.ex ∨ X.s₀.heap.objs.size ≤ it) (h2 : ∀ x c, X.env.cells.lookup x = some c → c ≠ it) (h3 : ∀ p ∈ X.pn ++ pins, p.1 ≠ it) : Inv X pins σ H { s with heap := h', toks := t' } := by
 have nit : ∀ b u, H b = some u → b ≠ it := fun b u e z => by rw [z, hn] at e; cases e
 refine I.step (g' := s.gens) (d' := s.drawn) (ch := [it]) (fun b hb => ?_) (fun b o _ _ hc e _ => k b o (fun z => hc (by simp [z])) e) (fun b o _ _ hc e _ => ⟨o.slots, k b o (fun z => hc (by simp [z])) e⟩) (fun _ _ _ _ n => n)
  (fun b o hc e => ⟨o, k b o (fun z => hc (by simp [z])) e⟩) (fun _ _ e => e) (fun _ _ _ e => e) (fun b ps e => ⟨#[], by rw [e]; simp⟩) (fun m hm => ?_) (fun b u e => ?_) I.bare
 ·have e : b = it := by simpa using hb
  subst e
  exact ⟨h1, hL, h2, h3⟩
 ·obtain ⟨o, es, ep, ho, r⟩ := hm
  exact ⟨o, es, ep, k _ o (Ne.symm hL) ho, r⟩
 ·refine (I.hok b u e).stay (fun c v hc q => k c v ?_ q) (fun _ q => q) fun _ _ q => q
  rcases hc with z | z
  ·rw [z]; exact nit b u e
  ·exact nit c _ z
theorem Inv.tok (I : Inv X pins σ H s) (t : Nat) : Inv X pins σ H { s with toks := t } := I.un (h' := s.heap) (t' := t) Un.refl I.hok
theorem Inv.kept {t' : Nat} (I : Inv X pins σ H s) (k : ∀ b u, s.heap.get? b = some u → h'.get? b = some u) : Inv X pins σ H { s with heap := h', toks := t' } := I.un (Un.kept k) (I.hok.kept k)
theorem Inv.laid {a : Addr} {o : HO} {t' : Nat} (I : Inv X pins σ H s) (k : ∀ b u, s.heap.get? b = some u → h'.get? b = some u) (hp : s.heap.objs.size ≤ a) (new : ObjOk X.prog X.w (upd H a o) h' a o) :
  Inv X pins σ (upd H a o) { s with heap := h', toks := t' } := I.un (Un.laid k hp (I.hok.fresh hp)) (I.hok.laid k hp new)
theorem Inv.write {x e : Addr} {o : HO} {t' : Nat} (I : Inv X pins σ H s) (mu : Mut (H x)) (he : e = x ∨ H e = some (.own x)) (k : ∀ b u, b ≠ e → s.heap.get? b = some u → h'.get? b = some u) (heo : ∃ u, h'.get? e = some u)
  (new : ObjOk X.prog X.w (upd H x o) h' x o) : Inv X pins σ (upd H x o) { s with heap := h', toks := t' } := I.un (Un.write mu he k heo) (I.hok.write mu he k heo new)
theorem Inv.pins_of {pins' : List (Addr × Obj)} (I : Inv X pins σ H s) (h : ∀ p ∈ pins', s.heap.get? p.1 = some p.2 ∧ H p.1 = none ∧ p.1 ≠ X.env.locals ∧ p.1 ∉ X.fs ∧ ∀ v, p.2.data ≠ .cell v) : Inv X pins' σ H s :=
 ⟨I.ok, I.os, I.bare, I.base, I.loc, I.cell, I.free, I.freeC, fun p hp => (List.mem_append.mp hp).elim (fun z => I.pin p (List.mem_append_left _ z)) (h p), I.hok, I.len⟩
theorem nodup_ix {N : List Str} (hN : N.Nodup) {i j : Nat} {x : Str} (a : N[i]? = some x) (b : N[j]? = some x) : i = j := by
 obtain ⟨h1, e1⟩ := List.getElem?_eq_some_iff.mp a
 obtain ⟨h2, e2⟩ := List.getElem?_eq_some_iff.mp b
 exact (List.getElem_inj hN).mp (e1.trans e2.symm)
theorem store_ok2 {M : Model} {A : Around} {E : Value → Shared → Prop} {i : Nat} {x : Str} {v : V} {u : Value} {Q : Unit → Shared → Prop} (I : Inv X pins σ H s) (hN : X.N.Nodup) (hi : X.N[i]? = some x) (hx : Loc X.env.scope x) (r : ZE v u)
  (h : ∀ s', Inv X pins (σ.set i (some v)) H s' → (∃ a, Heap.SameBut a s.heap s'.heap ∧ (a = X.env.locals ∨ X.env.cells.lookup x = some a)) → Q () s') (hf : X.fn x = true ∨ X.env.scope.names.lookup x = some .local := by first | exact .inl rfl | exact .inr rfl | assumption) : wpAny M A (storeName X.env x u) Q E s := by
 obtain ⟨m, hn, hl⟩ := id I.loc
 have hcls : (X.env.scope.kind == .class || (X.env.scope.kind == .module && X.env.locals != X.env.globals)) = false := by rw [I.ok.kind]; rfl
 have hiσ : i < σ.length := by rw [I.len]; exact (List.getElem?_eq_some_iff.mp hi).1
 have cne := I.cne
 have tracked : ∀ {a : Addr} {h' : Heap}, (∃ o, s.heap.get? a = some o ∧ H a = none) → Heap.SameBut a s.heap h' → HOk X.prog X.w H h' := fun {a h'} ha hs b ob e => by
  obtain ⟨_, _, hfree⟩ := ha
  refine (I.hok b ob e).stay (fun c w' hc q => (hs.2 c ?_).trans q) (fun _ q => q) fun _ _ q => q
  rintro rfl
  rcases hc with rfl | hc
  ·rw [hfree] at e; cases e
  ·rw [hfree] at hc; cases hc
 rcases hx with hk | hk
 ·refine wpAny_storeName_local hk hn (fun h' hn' hs => ?_) hcls
  obtain ⟨oL, _, _, hoL, _⟩ := id hn
  refine h _ ⟨I.ok, I.os, I.bare, ⟨fun b o e n hb hx => ?_, fun b o e n hb hx => ?_, I.base.free, fun b o e hx => ?_, I.base.tups, I.base.frzs, I.base.tbls⟩, ⟨_, hn', fun j y v' e1 e2 e3 => ?_⟩, fun y c e => ?_, I.free, I.freeC, fun p hp => ?_, tracked ⟨oL, hoL, I.free⟩ hs, by simpa using I.len⟩ ⟨_, hs, .inl rfl⟩
  ·exact (hs.2 b (Nat.ne_of_lt (Nat.lt_of_lt_of_le (Heap.lt_size e) I.ok.above))).trans (I.base.keep b o e n hb hx)
  ·obtain ⟨sl, e1⟩ := I.base.slot b o e n hb hx
   exact ⟨sl, (hs.2 b (Nat.ne_of_lt (Nat.lt_of_lt_of_le (Heap.lt_size e) I.ok.above))).trans e1⟩
  ·obtain ⟨o', e1⟩ := I.base.there b o e hx
   exact ⟨o', (hs.2 b (Nat.ne_of_lt (Nat.lt_of_lt_of_le (Heap.lt_size e) I.ok.above))).trans e1⟩
  ·by_cases hj : j = i
   ·subst hj
    rw [hi] at e1; cases e1
    rw [List.getElem?_set_self hiσ] at e2
    cases e2
    exact ⟨u, r, .inl ⟨hk, by simp⟩⟩
   ·rw [List.getElem?_set_ne (Ne.symm hj)] at e2
    obtain ⟨u', r', q⟩ := hl j y v' e1 e2 e3
    refine ⟨u', r', ?_⟩
    rcases q with ⟨k, e⟩ | ⟨k, c, e, z⟩
    ·refine .inl ⟨k, ?_⟩
     have : y ≠ x := fun e => hj (nodup_ix hN e1 (e ▸ hi))
     simp [this, e]
    ·exact .inr ⟨k, c, e, z.sameBut hs (cne y c e)⟩
  ·obtain ⟨w', z⟩ := I.cell y c e
   exact ⟨w', z.sameBut hs (cne y c e)⟩
  ·obtain ⟨e, n, ne, nf, d⟩ := I.pin p hp
   exact ⟨(hs.2 p.1 ne).trans e, n, ne, nf, d⟩
 ·have hfn : X.fn x = true := by
   rcases hf with z | z
   ·exact z
   ·rw [z] at hk; cases hk
  obtain ⟨c, hc⟩ := I.ok.has x (.inl hk)
  obtain ⟨w', z⟩ := I.cell x c hc
  refine wpAny_storeName_cell I.ok.kind hk hc z (fun h' hc' hs => ?_)
  obtain ⟨oc, hoc, hocd⟩ := id z
  refine h { s with heap := h' } ⟨I.ok, I.os, I.bare, ⟨fun b o e n hb hx => ?_, fun b o e n hb hx => ?_, I.base.free, fun b o e hx => ?_, I.base.tups, I.base.frzs, I.base.tbls⟩, ⟨m, hn.sameBut hs (Ne.symm (cne x c hc)), fun j y v' e1 e2 e3 => ?_⟩, fun y c' e => ?_, I.free, I.freeC, fun p hp => ?_, tracked ⟨oc, hoc, I.freeC x c hc⟩ hs, by simpa using I.len⟩ ⟨c, hs, .inr hc⟩
  ·exact (hs.2 b (Nat.ne_of_lt (Nat.lt_of_lt_of_le (Heap.lt_size e) (I.ok.cab x c hfn hc)))).trans (I.base.keep b o e n hb hx)
  ·obtain ⟨sl, e1⟩ := I.base.slot b o e n hb hx
   exact ⟨sl, (hs.2 b (Nat.ne_of_lt (Nat.lt_of_lt_of_le (Heap.lt_size e) (I.ok.cab x c hfn hc)))).trans e1⟩
  ·obtain ⟨o', e1⟩ := I.base.there b o e hx
   exact ⟨o', (hs.2 b (Nat.ne_of_lt (Nat.lt_of_lt_of_le (Heap.lt_size e) (I.ok.cab x c hfn hc)))).trans e1⟩
  ·by_cases hj : j = i
   ·subst hj
    rw [hi] at e1; cases e1
    rw [List.getElem?_set_self hiσ] at e2
    cases e2
    exact ⟨u, r, .inr ⟨.inl hk, c, hc, hc'⟩⟩
   ·rw [List.getElem?_set_ne (Ne.symm hj)] at e2
    obtain ⟨u', r', q⟩ := hl j y v' e1 e2 e3
    refine ⟨u', r', ?_⟩
    rcases q with q | ⟨k, c', e, z'⟩
    ·exact .inl q
    ·refine .inr ⟨k, c', e, z'.sameBut hs ?_⟩
     rintro rfl
     exact hj (nodup_ix hN e1 (I.ok.inj _ _ _ e hc ▸ hi))
  ·by_cases hcc : c' = c
   ·subst hcc; exact ⟨_, hc'⟩
   ·obtain ⟨w2, z2⟩ := I.cell y c' e
    exact ⟨w2, z2.sameBut hs hcc⟩
  ·obtain ⟨e, n, ne, nf, d⟩ := I.pin p hp
   refine ⟨(hs.2 p.1 ?_).trans e, n, ne, nf, d⟩
   intro q
   rw [q, hoc] at e
   have q' : oc = p.2 := Option.some.inj e
   exact d w' (by rw [← q']; exact hocd)
theorem store_ok {M : Model} {A : Around} {E : Value → Shared → Prop} {i : Nat} {x : Str} {v : V} {u : Value} {Q : Unit → Shared → Prop} (I : Inv X pins σ H s) (hN : X.N.Nodup) (hi : X.N[i]? = some x) (hx : Loc X.env.scope x) (r : ZE v u)
  (h : ∀ s', Inv X pins (σ.set i (some v)) H s' → Q () s') (hf : X.fn x = true ∨ X.env.scope.names.lookup x = some .local := by first | exact .inl rfl | exact .inr rfl | assumption) : wpAny M A (storeName X.env x u) Q E s :=
 store_ok2 I hN hi hx r (fun s' I' _ => h s' I') hf
theorem Inv.call' {s' : Shared} {ch : List Addr} (I : Inv X pins σ H s) (ho : s'.os = s.os) (u : Un (frs X.stack) ch H H' s.heap s'.heap) (hok : HOk X.prog X.w H' s'.heap) (hg : AllBare s'.gens)
  (hch : ∀ b ∈ ch, (b ∈ X.ex ∨ X.s₀.heap.objs.size ≤ b) ∧ b ≠ X.env.locals ∧ (∀ x c, X.env.cells.lookup x = some c → c ≠ b) ∧ ∀ p ∈ X.pn ++ pins, p.1 ≠ b) : Inv X pins σ H' s' := by
 obtain ⟨h', g', d', t', o'⟩ := s'
 have e : o' = s.os := ho
 subst e
 exact I.call (g' := g') (t' := t') (d' := d') u hok hg hch
end
abbrev XK := Value → Option Addr → Hp → Prop
abbrev St := List (Option V)
abbrev VK := V → Hp → Prop
abbrev TE := St → Hp → VK → Prop
abbrev TT := St → Hp → (Bool → Hp → Prop) → Prop
abbrev TA := St → Hp → (List V → Hp → Prop) → Prop
structure Ends where
 nx : St → Hp → Prop
 rt : VK
 bk : St → Hp → Prop := fun _ _ => False
 ct : St → Hp → Prop := fun _ _ => False
abbrev TS := Ends → St → Hp → Prop
def EP (X : Cx) (pins : List (Addr × Obj)) (σ : St) (Q : VK) (u : Value) (s' : Shared) : Prop := ∃ v H', Inv X pins σ H' s' ∧ ZE v u ∧ Q v H'
def TP (X : Cx) (pins : List (Addr × Obj)) (σ : St) (Q : Bool → Hp → Prop) (b : Bool) (s' : Shared) : Prop := ∃ H', Inv X pins σ H' s' ∧ Q b H'
def AP (X : Cx) (pins : List (Addr × Obj)) (σ : St) (Q : List V → Hp → Prop) (us : List Value) (s' : Shared) : Prop := ∃ vs H', Inv X pins σ H' s' ∧ Za vs us ∧ Q vs H'
def SP (X : Cx) (pins : List (Addr × Obj)) (D : Ends) (f : Flow) (s' : Shared) : Prop :=
 match f with
 | .next => ∃ σ' H', Inv X pins σ' H' s' ∧ D.nx σ' H'
 | .brk => ∃ σ' H', Inv X pins σ' H' s' ∧ D.bk σ' H'
 | .cont => ∃ σ' H', Inv X pins σ' H' s' ∧ D.ct σ' H'
 | .ret u => ∃ v σ' H', Inv X pins σ' H' s' ∧ ZE v u ∧ D.rt v H'
def PE (X : Cx) (e : Expr) (t : TE) : Prop :=
 ∀ (pins : List (Addr × Obj)) (s : Shared) (σ : St) (H : Hp) (Q : VK), Inv X pins σ H s → t σ H Q → wpAny (model X.prog X.w) X.A (eval e X.env) (EP X pins σ Q) X.xe s
def PT (X : Cx) (e : Expr) (t : TT) : Prop :=
 ∀ (pins : List (Addr × Obj)) (s : Shared) (σ : St) (H : Hp) (Q : Bool → Hp → Prop), Inv X pins σ H s → t σ H Q → wpAny (model X.prog X.w) X.A (isTrue e X.env (eval e X.env)) (TP X pins σ Q) X.xe s
def PW (X : Cx) (e : Expr) (t : TT) : Prop :=
 ∀ (whole : Sem Value) (pins : List (Addr × Obj)) (s : Shared) (σ : St) (H : Hp) (Q : Bool → Hp → Prop), Inv X pins σ H s → t σ H Q → wpAny (model X.prog X.w) X.A (isTrue e X.env whole) (TP X pins σ Q) X.xe s
theorem PW.pt {X : Cx} {e : Expr} {t : TT} (h : PW X e t) : PT X e t := h _
def PA (X : Cx) (es : List Expr) (t : TA) : Prop :=
 ∀ (pos : Pos) (pins : List (Addr × Obj)) (s : Shared) (σ : St) (H : Hp) (Q : List V → Hp → Prop), Inv X pins σ H s → t σ H Q → wpAny (model X.prog X.w) X.A (spliced (backTo pos (starEach es X.env))) (AP X pins σ Q) X.xe s
def PS (X : Cx) (st : Stmt) (t : TS) : Prop :=
 ∀ (pins : List (Addr × Obj)) (s : Shared) (σ : St) (H : Hp) (D : Ends), Inv X pins σ H s → t D σ H → wpAny (model X.prog X.w) X.A (exec st X.env) (SP X pins D) X.xe s
def PSs (X : Cx) (st : List Stmt) (t : TS) : Prop :=
 ∀ (pins : List (Addr × Obj)) (s : Shared) (σ : St) (H : Hp) (D : Ends), Inv X pins σ H s → t D σ H → wpAny (model X.prog X.w) X.A (execs st X.env) (SP X pins D) X.xe s
theorem thn {α : Type} {t : Sem α} {Q Q' : α → Shared → Prop} {M : Model} {A : Around} {E : Value → Shared → Prop} {s : Shared} (h : wpAny M A t Q E s) (hQ : ∀ a s, Q a s → Q' a s) : wpAny M A t Q' E s := wpAny_mono h hQ fun _ _ x => x
end L2
namespace L2
open PySem PySem.Spec PyProof.Rows
section
variable {X : Cx}
theorem bin {a b : Expr} {ta tb : TE} (ha : PE X a ta) (hb : PE X b tb) {pins : List (Addr × Obj)} {s : Shared} {σ : St} {H : Hp} {R : V → V → Hp → Prop} (I : Inv X pins σ H s) (h : ta σ H fun x H1 => tb σ H1 fun y H2 => R x y H2)
  {α : Type} {Q : α → Shared → Prop} {f : Value → Value → Sem α}
  (hf : ∀ v u s2 x y H2, Inv X pins σ H2 s2 → ZE x v → ZE y u → R x y H2 → wpAny (model X.prog X.w) X.A (f v u) Q X.xe s2) :
  wpAny (model X.prog X.w) X.A (eval a X.env) (fun v s₁ => wpAny (model X.prog X.w) X.A (eval b X.env) (fun u s₂ => wpAny (model X.prog X.w) X.A (f v u) Q X.xe s₂) X.xe s₁) X.xe s := by
 refine thn (ha pins s σ H _ I h) fun v s1 ⟨x, H1, I1, r1, q1⟩ => ?_
 refine thn (hb pins s1 σ H1 _ I1 q1) fun u s2 ⟨y, H2, I2, r2, q2⟩ => ?_
 exact hf v u s2 x y H2 I2 r1 r2 q2
def tVar (i : Nat) : TE := fun σ H Q => ∃ v, σ[i]? = some (some v) ∧ Q v H
def tC (v : V) : TE := fun _ H Q => Q v H
theorem pe_var {i : Nat} {x : Str} {pos : Pos} (hN : X.N[i]? = some x) (hv : Vis X.env.scope x) (hd : (x == ("__debug__" : Str)) = false := by decide) (hcd : (x == ("__classdict__" : Str)) = false := by decide) : PE X (.Name x pos) (tVar i) := by
 intro pins s σ H Q I h
 obtain ⟨v, e, h⟩ := h
 obtain ⟨m, hn, hl⟩ := I.loc
 obtain ⟨u, r, l⟩ := hl i x v hN e hv
 have fin : EP X pins σ Q u s := ⟨v, H, I, r, h⟩
 rcases l with ⟨hk, hm⟩ | ⟨hk, c, hc, hcell⟩
 ·exact wpAny_Name (wpAny_loadName_local I.ok.kind hk hn hm fin) hd
 ·rcases hk with hk | hk
  ·exact wpAny_Name (wpAny_loadName_cell I.ok.kind hk hc hcell fin) hd
  ·exact wpAny_Name (wpAny_loadName_free I.ok.kind hk hc hcell fin hcd) hd
theorem pe_int {i j pos} : PE X (.Constant (.int i) j pos) (tC (.int i)) := fun _ _ _ H _ I h => wpAny_Constant_int ⟨.int i, H, I.tok _, ⟨_, rfl⟩, h⟩
theorem pe_bl {b j pos} : PE X (.Constant (.bool b) j pos) (tC (.bl b)) := fun _ _ _ H _ I h => Constant_bool ⟨.bl b, H, I, rfl, h⟩
theorem pe_non {j pos} : PE X (.Constant .none j pos) (tC .non) := fun _ _ _ H _ I h => Constant_none ⟨.non, H, I, rfl, h⟩
theorem pe_str {x j pos} : PE X (.Constant (.str x) j pos) (tC (.str x)) := fun _ _ _ H _ I h => Calls.Constant_str ⟨.str x, H, I.tok _, ⟨_, rfl⟩, h⟩
def Gl (X : Cx) (x : Str) : Prop := X.env.kindOf x = some .globalImplicit
theorem ld_glob {E : Value → Shared → Prop} {pins : List (Addr × Obj)} {s : Shared} {σ : St} {H : Hp} {x : Str} {u : Value} {pos : Pos} {Q : Value → Shared → Prop} (I : Inv X pins σ H s) (hg : Gl X x) (hm : X.mg x = some u) (h : Q u s)
  (hd : (x == ("__debug__" : Str)) = false := by decide) : wpAny (model X.prog X.w) X.A (eval (.Name x pos) X.env) Q E s :=
 Calls.Name_function_global I.ok.kind hg (Calls.loadGlobal_global (by rw [I.ok.glob]; exact I.mod.glob.keeps I.bk) hm h) hd
theorem ld_blt {E : Value → Shared → Prop} {pins : List (Addr × Obj)} {s : Shared} {σ : St} {H : Hp} {x : Str} {u : Value} {pos : Pos} {Q : Value → Shared → Prop} (I : Inv X pins σ H s) (hg : Gl X x) (hm : X.mg x = none) (hv : bootBuiltins x = some u) (h : Q u s)
  (hn : x ≠ "__name__" := by decide) (hd : (x == ("__debug__" : Str)) = false := by decide) : wpAny (model X.prog X.w) X.A (eval (.Name x pos) X.env) Q E s := by
 obtain ⟨mb, h1, h2⟩ := I.mod.blt
 exact Calls.Name_function_global I.ok.kind hg (Calls.loadGlobal_builtin (by rw [I.ok.glob]; exact I.mod.glob.keeps I.bk) hm (by rw [I.ok.blt]; exact h1.keeps I.bk) ((h2 x hn).trans hv) h) hd
theorem pe_glob {x : Str} {v : V} {u : Value} {pos : Pos} (hg : Gl X x) (hm : X.mg x = some u) (r : ZE v u) (hd : (x == ("__debug__" : Str)) = false := by decide) : PE X (.Name x pos) (tC v) :=
 fun _ _ _ H _ I h => ld_glob I hg hm ⟨v, H, I, r, h⟩ hd
theorem pe_bltn {x : Str} {v : V} {u : Value} {pos : Pos} (hg : Gl X x) (hm : X.mg x = none) (hv : bootBuiltins x = some u) (r : ZE v u) (hn : x ≠ "__name__" := by decide) (hd : (x == ("__debug__" : Str)) = false := by decide) : PE X (.Name x pos) (tC v) :=
 fun _ _ _ H _ I h => ld_blt I hg hm hv ⟨v, H, I, r, h⟩ hn hd
variable {a b : Expr} {ta tb : TE} {pos : Pos}
def PC (X : Cx) (op : CmpOp) (a b : Expr) (t : TE) : Prop :=
 ∀ (pins : List (Addr × Obj)) (s : Shared) (σ : St) (H : Hp) (Q : VK), Inv X pins σ H s → t σ H Q →
  wpAny (model X.prog X.w) X.A (eval a X.env) (fun v s₁ => wpAny (model X.prog X.w) X.A (eval b X.env) (fun u s₂ => wpAny (model X.prog X.w) X.A (compareOp op v u) (EP X pins σ Q) X.xe s₂) X.xe s₁) X.xe s
def tB (t : TE) : TT := fun σ H Q => t σ H fun x H1 => ∃ c, x = .bl c ∧ Q c H1
theorem pt_cmp {op : CmpOp} {t : TE} (h : PC X op a b t) (h1 : behindInMarks op b = false := by first | exact nobehind _ (by decide) (by decide) | rfl) : PT X (.Compare a [op] [b] pos) (tB t) := by
 intro pins s σ H Q I hw
 refine wpAny_isTrue_Compare1 (thn (h pins s σ H _ I hw) fun v s1 h1 => thn h1 fun u s2 h2 => thn h2 fun c s3 ⟨x, H1, I1, r1, q1⟩ => ?_) h1
 obtain ⟨d, rfl, q⟩ := q1
 cases r1
 exact wpAny_truthy_bool ⟨H1, I1, q⟩
theorem pt_val {e : Expr} {t : TE} (h : PE X e t) (he : ∀ whole, isTrue e X.env whole = (do let v ← whole; standAt e.pos; holding [v] (truthy v)) := by intro _; rfl) : PT X e (tB t) := by
 intro pins s σ H Q I hw
 refine isTrue_plain (thn (h pins s σ H _ I hw) fun v s1 ⟨x, H1, I1, r1, q1⟩ => ?_) (he _)
 obtain ⟨d, rfl, q⟩ := q1
 cases r1
 exact wpAny_truthy_bool ⟨H1, I1, q⟩
variable {tA tB' : TT} {rest : List Expr}
def tAnd (t u : TT) : TT := fun σ H Q => t σ H fun c H1 => if c = true then u σ H1 Q else Q false H1
def tOr (t u : TT) : TT := fun σ H Q => t σ H fun c H1 => if c = true then Q true H1 else u σ H1 Q
def tNot (t : TT) : TT := fun σ H Q => t σ H fun c H1 => Q (!c) H1
theorem pw_and1 (ha : PT X a tA) : PW X (.BoolOp .And [a] pos) tA := by
 intro wh pins s σ H Q I h
 refine isTrue_and (thn (ha pins s σ H Q I h) fun c s1 e => ?_)
 cases c with
 | true => exact isTrue_and_nil e
 | false => exact e
theorem pw_or1 (ha : PT X a tA) : PW X (.BoolOp .Or [a] pos) tA := by
 intro wh pins s σ H Q I h
 refine isTrue_or (thn (ha pins s σ H Q I h) fun c s1 e => ?_)
 cases c with
 | false => exact isTrue_or_nil e
 | true => exact e
theorem pw_and (ha : PT X a tA) (hb : PW X (.BoolOp .And (b :: rest) pos) tB') : PW X (.BoolOp .And (a :: b :: rest) pos) (tAnd tA tB') := by
 intro wh pins s σ H Q I h
 refine isTrue_and (thn (ha pins s σ H _ I h) fun c s1 ⟨H1, I1, q1⟩ => ?_)
 cases c with
 | true => exact hb wh pins s1 σ H1 Q I1 q1
 | false => exact ⟨H1, I1, q1⟩
theorem pw_or (ha : PT X a tA) (hb : PW X (.BoolOp .Or (b :: rest) pos) tB') : PW X (.BoolOp .Or (a :: b :: rest) pos) (tOr tA tB') := by
 intro wh pins s σ H Q I h
 refine isTrue_or (thn (ha pins s σ H _ I h) fun c s1 ⟨H1, I1, q1⟩ => ?_)
 cases c with
 | true => exact ⟨H1, I1, q1⟩
 | false => exact hb wh pins s1 σ H1 Q I1 q1
theorem pt_not (ha : PT X a tA) : PT X (.UnaryOp .Not a pos) (tNot tA) := by
 intro pins s σ H Q I h
 exact isTrue_not (ha pins s σ H (fun c H1 => Q (!c) H1) I h)
def tAndV (ta tb : TE) : TE := fun σ H Q => ta σ H fun x H1 => ∃ c, x = .bl c ∧ if c = true then tb σ H1 Q else Q (.bl false) H1
def tNotV (ta : TE) : TE := fun σ H Q => ta σ H fun x H1 => ∃ c, x = .bl c ∧ Q (.bl (!c)) H1
theorem pe_one {op} {t : TE} (h : PE X a t) : PE X (.BoolOp op [a] pos) t := fun pins s σ H Q I hw => BoolOp_one (h pins s σ H Q I hw)
theorem pe_and (ha : PE X a ta) (hb : PE X (.BoolOp .And (b :: rest) pos) tb) : PE X (.BoolOp .And (a :: b :: rest) pos) (tAndV ta tb) := by
 intro pins s σ H Q I h
 refine BoolOp_and (thn (ha pins s σ H _ I h) fun v s1 ⟨x, H1, I1, r1, q1⟩ => ?_)
 obtain ⟨c, rfl, q1⟩ := q1
 cases r1
 refine wpAny_truthy_bool ?_
 cases c with
 | true => exact hb pins s1 σ H1 Q I1 q1
 | false => exact ⟨.bl false, H1, I1, rfl, q1⟩
theorem pe_not (ha : PE X a ta) : PE X (.UnaryOp .Not a pos) (tNotV ta) := by
 intro pins s σ H Q I h
 refine UnaryOp_ (thn (ha pins s σ H _ I h) fun v s1 ⟨x, H1, I1, r1, q1⟩ => ?_)
 obtain ⟨c, rfl, q1⟩ := q1
 cases r1
 exact not_of (wpAny_truthy_bool ⟨.bl (!c), H1, I1, rfl, q1⟩)
end
end L2
namespace L2
open PySem PySem.Spec PyProof.Rows
def SqL (K : PySem.W.Frag) (H : Hp) (a : Addr) (xs : List V) : Prop :=
 Rd H a (.lst xs) ∨
  ∃ (o : Obj) (its : Array Value) (n : Nat), K.lookup a = some o ∧ o.cls = .type "list" ∧ o.dict = none ∧ o.data = .seq its n ∧ its.size ≤ sizeLine ∧ Za xs its.toList
def SqT (K : PySem.W.Frag) (H : Hp) (a : Addr) (xs : List V) : Prop :=
 Rd H a (.tup xs) ∨
  ∃ (o : Obj) (its : Array Value) (n : Nat), K.lookup a = some o ∧ o.cls = .type "tuple" ∧ o.data = .seq its n ∧ its.size ≤ sizeLine ∧ Za xs its.toList
def absV : Value → Option V
 | .none => some .non
 | .bool b => some (.bl b)
 | .int i _ => some (.int i)
 | .str x _ => some (.str x)
 | .bytes b _ => some (.byt b)
 | .float b _ => some (.flt b)
 | .ref a => some (.ref a)
 | .type n => some (.ty n)
 | _ => none
theorem ZE.abs {x : V} {u : Value} (r : ZE x u) : absV u = some x := by
 cases x with
 | non => cases r; rfl
 | bl _ => cases r; rfl
 | int _ => obtain ⟨t, rfl⟩ := r; rfl
 | str _ => obtain ⟨t, rfl⟩ := r; rfl
 | byt _ => obtain ⟨t, rfl⟩ := r; rfl
 | flt _ => obtain ⟨t, rfl⟩ := r; rfl
 | ref _ => cases r; rfl
 | ty _ => cases r; rfl
theorem ZE.inj {x y : V} {u : Value} (r : ZE x u) (q : ZE y u) : x = y := Option.some.inj (r.abs.symm.trans q.abs)
theorem Za.inj : ∀ {xs ys : List V} {us : List Value}, Za xs us → Za ys us → xs = ys
 | _, _, _, .nil, .nil => rfl
 | _, _, _, .cons r t, .cons r' t' => by rw [r.inj r', Za.inj t t']
section
variable {X : Cx} {pins : List (Addr × Obj)} {σ : St} {H : Hp} {s : Shared} {a : Addr} {xs ys : List V}
theorem Inv.list (I : Inv X pins σ H s) (h : SqL X.K H a xs) : ∃ its : List Value, Za xs its ∧ PlainL s.heap a its.toArray ∧ xs.length ≤ sizeLine := by
 rcases h with h | ⟨o, its, n, hk, hc, hd, hs, hz, r⟩
 ·obtain ⟨z, its, n, r, e⟩ := h.ok I.hok
  exact ⟨its, r, ⟨_, n, e, rfl, rfl, rfl⟩, z⟩
 ·refine ⟨its.toList, r, ⟨o, n, I.kIn a o hk, hc, hd, by simpa using hs⟩, ?_⟩
  have e := r.length
  simp only [Array.length_toList] at e
  omega
theorem Inv.tuple (I : Inv X pins σ H s) (h : SqT X.K H a xs) : ∃ its : List Value, Za xs its ∧ IsTup s.heap a its.toArray ∧ xs.length ≤ sizeLine := by
 rcases h with h | ⟨o, its, n, hk, hc, hs, hz, r⟩
 ·obtain ⟨z, its, r, p⟩ := h.ok I.hok
  exact ⟨its, r, p, z⟩
 ·refine ⟨its.toList, r, ⟨o, I.kIn a o hk, hc, n, by simpa using hs⟩, ?_⟩
  have e := r.length
  simp only [Array.length_toList] at e
  omega
theorem Inv.list_inj (I : Inv X pins σ H s) (h : SqL X.K H a xs) (h' : SqL X.K H a ys) : xs = ys := by
 obtain ⟨its, r, ⟨o, n, e, _, _, d⟩, _⟩ := I.list h
 obtain ⟨its', r', ⟨o', n', e', _, _, d'⟩, _⟩ := I.list h'
 rw [e] at e'; cases e'
 rw [d] at d'
 injection d' with d1 _
 have : its = its' := by simpa using congrArg Array.toList d1
 subst this
 exact r.inj r'
theorem Inv.tuple_inj (I : Inv X pins σ H s) (h : SqT X.K H a xs) (h' : SqT X.K H a ys) : xs = ys := by
 obtain ⟨its, r, ⟨o, e, _, n, d⟩, _⟩ := I.tuple h
 obtain ⟨its', r', ⟨o', e', _, n', d'⟩, _⟩ := I.tuple h'
 rw [e] at e'; cases e'
 rw [d] at d'
 injection d' with d1 _
 have : its = its' := by simpa using congrArg Array.toList d1
 subst this
 exact r.inj r'
end
abbrev Cx.wish (X : Cx) (E : Value → Shared → Prop) : Cx := { X with xe := E }
abbrev Cx.nox (X : Cx) : Cx := X.wish fun _ _ => False
theorem Cx.Ok.wish {X : Cx} (ok : X.Ok) (E : Value → Shared → Prop) : (X.wish E).Ok :=
 ⟨ok.mod, ok.kind, ok.glob, ok.blt, ok.above, ok.inj, ok.has, ok.cab, ok.hd, ok.frames, ok.stk, ok.exf, ok.bs, ok.bsz, ok.noex, ok.exfs, ok.funs, ok.frf, ok.top, ok.tree⟩
theorem Cx.Ok.unwish {X : Cx} {E : Value → Shared → Prop} (ok : (X.wish E).Ok) : X.Ok :=
 ⟨ok.mod, ok.kind, ok.glob, ok.blt, ok.above, ok.inj, ok.has, ok.cab, ok.hd, ok.frames, ok.stk, ok.exf, ok.bs, ok.bsz, ok.noex, ok.exfs, ok.funs, ok.frf, ok.top, ok.tree⟩
section
variable {X : Cx} {pins : List (Addr × Obj)} {σ : St} {H : Hp} {s : Shared} {E : Value → Shared → Prop}
theorem Inv.wish (I : Inv X pins σ H s) (E : Value → Shared → Prop) : Inv (X.wish E) pins σ H s := ⟨I.ok.wish E, I.os, I.bare, I.base, I.loc, I.cell, I.free, I.freeC, I.pin, I.hok, I.len⟩
theorem Inv.unwish (I : Inv (X.wish E) pins σ H s) : Inv X pins σ H s := ⟨I.ok.unwish, I.os, I.bare, I.base, I.loc, I.cell, I.free, I.freeC, I.pin, I.hok, I.len⟩
theorem SP.unwish {D : Ends} {f : Flow} {s' : Shared} (h : SP (X.wish E) pins D f s') : SP X pins D f s' := by
 cases f with
 | next => obtain ⟨σ', H', I, q⟩ := h; exact ⟨σ', H', I.unwish, q⟩
 | brk => obtain ⟨σ', H', I, q⟩ := h; exact ⟨σ', H', I.unwish, q⟩
 | cont => obtain ⟨σ', H', I, q⟩ := h; exact ⟨σ', H', I.unwish, q⟩
 | ret u => obtain ⟨v, σ', H', I, r, q⟩ := h; exact ⟨v, σ', H', I.unwish, r, q⟩
theorem PSs.nox {st : List Stmt} {t : TS} (h : PSs X.nox st t) : PSs X st t := fun pins s σ H D I hw =>
 wpAny_mono (h pins s σ H D (I.wish _) hw) (fun _ _ q => q.unwish) fun _ _ z => False.elim z
end
section
variable {X : Cx} {st : Stmt} {rest : List Stmt} {t u : TS} {e : Expr} {te : TE} {pos : Pos}
def tNext : TS := fun D σ H => D.nx σ H
def tSeq (t u : TS) : TS := fun D σ H => t { D with nx := u D } σ H
theorem pss_nil : PSs X [] tNext := fun _ _ σ H _ I h => wpAny_execs_nil ⟨σ, H, I, h⟩
theorem pss_cons (h1 : PS X st t) (h2 : PSs X rest u) : PSs X (st :: rest) (tSeq t u) := by
 intro pins s σ H D I h
 refine wpAny_execs_cons (thn (h1 pins s σ H { D with nx := u D } I h) fun f s1 q => ?_)
 cases f with
 | next =>
  obtain ⟨σ', H', I', q⟩ := q
  exact h2 pins s1 σ' H' D I' q
 | ret v => exact q
 | brk => exact q
 | cont => exact q
theorem pss_one (h1 : PS X st t) : PSs X [st] t := by
 intro pins s σ H D I h
 refine wpAny_execs_cons (thn (h1 pins s σ H D I h) fun f s1 q => ?_)
 cases f with
 | next => exact wpAny_execs_nil q
 | ret v => exact q
 | brk => exact q
 | cont => exact q
theorem Inv.quiet {pins : List (Addr × Obj)} {σ : St} {H : Hp} {s : Shared} (I : Inv X pins σ H s) : interactive X.env = false := by simp [interactive, I.ok.kind]
def tDrop (te : TE) : TS := fun D σ H => te σ H fun _ H1 => D.nx σ H1
theorem ps_expr (he : PE X e te) (hs : swapsWith e none pos.line X.env = pure false := by rfl) : PS X (.Expr e pos) (tDrop te) := by
 intro pins s σ H D I h
 exact wpAny_Expr_any (thn (he pins s σ H _ I h) fun v s1 ⟨x, H1, I1, r1, q1⟩ => ⟨σ, H1, I1, q1⟩) I.quiet hs
def tRet (te : TE) : TS := fun D σ H => te σ H D.rt
theorem ps_ret (he : PE X e te) : PS X (.Return (some e) pos) (tRet te) := by
 intro pins s σ H D I h
 exact wpAny_Return_some (thn (he pins s σ H _ I h) fun v s1 ⟨x, H1, I1, r1, q1⟩ => ⟨x, σ, H1, I1, r1, q1⟩)
def tIfS (c : TT) (t u : TS) : TS := fun D σ H => c σ H fun b H1 => if b = true then t D σ H1 else u D σ H1
theorem ps_if {c : Expr} {a b : List Stmt} {tc : TT} (hc : PT X c tc) (ha : PSs X a t) (hb : PSs X b u) : PS X (.If c a b pos) (tIfS tc t u) := by
 intro pins s σ H D I h
 refine wpAny_If (thn (hc pins s σ H _ I h) fun d s1 ⟨H1, I1, q1⟩ => ?_)
 cases d with
 | true => exact ha pins s1 σ H1 D I1 q1
 | false => exact hb pins s1 σ H1 D I1 q1
end
abbrev TG := V → St → Hp → (St → Hp → Prop) → Prop
abbrev TGs := List V → St → Hp → (St → Hp → Prop) → Prop
def PG (X : Cx) (target : Expr) (t : TG) : Prop :=
 ∀ (pins : List (Addr × Obj)) (s : Shared) (σ : St) (H : Hp) (v : V) (u : Value) (Q : St → Hp → Prop), Inv X pins σ H s → ZE v u → t v σ H Q →
  wpAny (model X.prog X.w) X.A (assign target X.env u) (fun _ s' => ∃ σ' H', Inv X pins σ' H' s' ∧ Q σ' H') X.xe s
def PGs (X : Cx) (ts : List Expr) (t : TGs) : Prop :=
 ∀ (pins : List (Addr × Obj)) (s : Shared) (σ : St) (H : Hp) (vs : List V) (us : List Value) (Q : St → Hp → Prop), Inv X pins σ H s → Za vs us → t vs σ H Q →
  wpAny (model X.prog X.w) X.A (assignInOrder ((assignEach ts X.env).map (·.2)) us) (fun _ s' => ∃ σ' H', Inv X pins σ' H' s' ∧ Q σ' H') X.xe s
abbrev TSet := V → V → V → Hp → (Hp → Prop) → Prop
def PSet (X : Cx) (t : TSet) : Prop :=
 ∀ (pins : List (Addr × Obj)) (s : Shared) (σ : St) (H : Hp) (o i v : V) (ov iv u : Value) (Q : Hp → Prop), Inv X pins σ H s → ZE o ov → ZE i iv → ZE v u → t o i v H Q →
  wpAny (model X.prog X.w) X.A (setItem ov iv u) (fun _ s' => ∃ H', Inv X pins σ H' s' ∧ Q H') X.xe s
section
variable {X : Cx} {pos : Pos}
def gName (i : Nat) : TG := fun v σ H Q => Q (σ.set i (some v)) H
theorem pg_name {i : Nat} {x : Str} (hN : X.N.Nodup) (hi : X.N[i]? = some x) (hx : Loc X.env.scope x) (hf : X.fn x = true ∨ X.env.scope.names.lookup x = some .local := by first | exact .inl rfl | exact .inr rfl | assumption) : PG X (.Name x pos) (gName i) := by
 intro pins s σ H v u Q I r h
 exact wpAny_assign_Name (store_ok I hN hi hx r (fun s' I' => ⟨_, H, I', h⟩) hf)
def gNil : TGs := fun vs σ H Q => vs = [] ∧ Q σ H
def gCons (t : TG) (u : TGs) : TGs := fun vs σ H Q => ∃ v r, vs = v :: r ∧ t v σ H fun σ' H' => u r σ' H' Q
theorem pgs_nil : PGs X [] gNil := by
 intro pins s σ H vs us Q I r h
 obtain ⟨e, h⟩ := h
 subst e
 cases r
 exact assignInOrder_nil ⟨σ, H, I, h⟩
theorem pgs_cons {e : Expr} {es : List Expr} {t : TG} {u : TGs} (h1 : PG X e t) (h2 : PGs X es u)
  (hs : (assignEach (e :: es) X.env).map (·.2) = assign e X.env :: (assignEach es X.env).map (·.2) := by rfl) : PGs X (e :: es) (gCons t u) := by
 intro pins s σ H vs us Q I r h
 obtain ⟨v, vr, e1, h⟩ := h
 subst e1
 cases r with
 | cons r rr =>
  rw [hs]
  refine assignInOrder_cons (thn (h1 pins s σ H _ _ _ I r h) fun _ s1 ⟨σ1, H1, I1, q1⟩ => ?_)
  exact h2 pins s1 σ1 H1 _ _ Q I1 rr q1
def gTup (K : PySem.W.Frag) (n : Nat) (t : TGs) : TG := fun v σ H Q => ∃ a xs, v = .ref a ∧ SqT K H a xs ∧ xs.length = n ∧ t xs σ H Q
theorem pg_tup {es : List Expr} {k : Nat} {t : TGs} {n : Nat} (hc : X.calm = true) (h : PGs X es t)
  (hn : (assignEach es X.env).length = n := by rfl) (hst : (assignEach es X.env).findIdx? (·.1) = none := by rfl) : PG X (.Tuple es k pos) (gTup X.K n t) := by
 intro pins s σ H v u Q I r hw
 obtain ⟨a, xs, e1, hq, hl, hw⟩ := hw
 subst e1
 cases r
 obtain ⟨its, rv, ht, hz⟩ := I.tuple hq
 refine assign_Tuple_tuple (I.ok.hd hc) ht (by simp [hn, ← hl, rv.length]) hst fun h' hx => ?_
 have I1 : Inv X pins σ H { s with heap := h' } := I.kept (t' := s.toks) fun b o e => hx b o (Nat.ne_of_lt (Heap.lt_size e)) e
 exact h pins _ σ H xs _ Q I1 (by simpa using rv) hw
def gSub (to ti : TE) (t : TSet) : TG := fun v σ H Q => to σ H fun o H1 => ti σ H1 fun i H2 => t o i v H2 fun H3 => Q σ H3
theorem pg_sub {o i : Expr} {to ti : TE} {t : TSet} (ho : PE X o to) (hi : PE X i ti) (hs : PSet X t)
  (ha : ∀ v, assign (.Subscript o i pos) X.env v = (do
   let ov ← holding [v] (eval o X.env)
   let iv ← holding [v, ov] (eval i X.env)
   standAt pos
   holding [v, ov, iv] (setItem ov iv v)
   release [v, ov, iv] []) := by intro _; rfl) : PG X (.Subscript o i pos) (gSub to ti t) := by
 intro pins s σ H v u Q I r h
 rw [ha]
 refine wpAny_bind (wpAny_holding (thn (ho pins s σ H _ I h) fun ov s1 ⟨x, H1, I1, r1, q1⟩ => ?_))
 refine wpAny_bind (wpAny_holding (thn (hi pins s1 σ H1 _ I1 q1) fun iv s2 ⟨y, H2, I2, r2, q2⟩ => ?_))
 refine wpAny_bind (wpAny_standAt (wpAny_bind (wpAny_holding (thn (hs pins s2 σ H2 x y v ov iv u _ I2 r1 r2 r q2) fun _ s3 ⟨H3, I3, q3⟩ => ?_))))
 exact wpAny_release ⟨σ, H3, I3, q3⟩
def tAsg (te : TE) (g : TG) : TS := fun D σ H => te σ H fun x H1 => g x σ H1 D.nx
theorem ps_asg {tg e : Expr} {te : TE} {g : TG} (he : PE X e te) (hg : PG X tg g) (hs : swapsWithSole [tg] e pos.line X.env = pure false := by rfl) (hw : swappedStores [tg] e X.env = pure none := by rfl)
  (h1 : (assignEach [tg] X.env).map (·.2) = [assign tg X.env] := by rfl) : PS X (.Assign [tg] e pos) (tAsg te g) := by
 intro pins s σ H D I h
 refine wpAny_Assign_stores (thn (he pins s σ H _ I h) fun v s1 ⟨x, H1, I1, r1, q1⟩ => ?_) hs hw
 rw [h1]
 exact thn (hg pins s1 σ H1 x v _ I1 r1 q1) fun _ s2 q => q
theorem ps_set {i : Nat} {x : Str} {e : Expr} {te : TE} {pos' : Pos} (hN : X.N.Nodup) (hi : X.N[i]? = some x) (hx : Loc X.env.scope x) (he : PE X e te) (hs : swapsWith e (some (.Name x pos')) pos.line X.env = pure false := by rfl) (hf : X.fn x = true ∨ X.env.scope.names.lookup x = some .local := by first | exact .inl rfl | exact .inr rfl | assumption) :
  PS X (.Assign [.Name x pos'] e pos) (tAsg te (gName i)) := by
 intro pins s σ H D I h
 refine wpAny_Assign_Name (thn (he pins s σ H _ I h) fun v s1 ⟨y, H1, I1, r1, q1⟩ => ?_) hs
 exact store_ok I1 hN hi hx r1 (fun s2 I2 => ⟨_, H1, I2, q1⟩) hf
end
section
variable {X : Cx} {pos : Pos}
end
structure It where
 go : Nat → Hp → Prop
 yld : Nat → Hp → V → Hp → Prop
 stop : Nat → Hp → Prop
def FpOk (X : Cx) (pins : List (Addr × Obj)) (H : Hp) (b : Addr) : Prop :=
 H b = none ∧ b ≠ X.env.locals ∧ b ∉ X.fs ∧ (b ∈ X.ex ∨ X.s₀.heap.objs.size ≤ b) ∧ (∀ x c, X.env.cells.lookup x = some c → c ≠ b) ∧ ∀ p ∈ X.pn ++ pins, p.1 ≠ b
theorem Inv.fpOk {X : Cx} {pins : List (Addr × Obj)} {σ : St} {H H' : Hp} {s : Shared} {b : Addr} (I : Inv X pins σ H s) (hb : s.heap.objs.size ≤ b) (hn : H' b = none) : FpOk X pins H' b := by
 refine ⟨hn, Nat.ne_of_gt (Nat.lt_of_lt_of_le I.lt hb), I.nofs hb, .inr (Nat.le_trans I.sz hb), fun x c e z => ?_, fun p hp z => ?_⟩
 ·obtain ⟨v, q⟩ := I.cell x c e
  exact absurd (Nat.lt_of_lt_of_le q.lt (by rw [z]; exact hb)) (Nat.lt_irrefl _)
 ·exact absurd (Nat.lt_of_lt_of_le (Heap.lt_size (I.pin p hp).1) (by rw [z]; exact hb)) (Nat.lt_irrefl _)
structure Turn (P : Program) (w : World) (K : PySem.W.Frag) (tg : Expr) (J : It) (fp : List Addr) (it : Addr) (tn : Nat → Heap → Prop) : Prop where
 mem : it ∈ fp
 obj : ∀ i h, tn i h → ∀ b ∈ fp, ∃ o, h.get? b = some o ∧ ∀ v, o.data ≠ .cell v
 keep : ∀ i h h', tn i h → (∀ b ∈ fp, ∀ o, h.get? b = some o → h'.get? b = some o) → tn i h'
 item : ∀ (X : Cx), X.prog = P → X.w = w → X.K = K → X.calm = true → ∀ (i : Nat) (pins : List (Addr × Obj)) (s : Shared) (σ : St) (H : Hp) (E : Value → Shared → Prop), Inv X pins σ H s → (∀ b ∈ fp, FpOk X pins H b) → tn i s.heap → J.go i H →
  wpAny (model P w) X.A (pyNext (.ref it)) (fun r s1 => ∃ u, r = some u ∧
   wpAny (model P w) X.A (letOwnedTupleGo tg (.ref it) u) (fun _ s2 => ∃ x H', Inv X pins σ H' s2 ∧ ZE x u ∧ J.yld i H x H' ∧ tn (i + 1) s2.heap ∧ ∀ b ∈ fp, H' b = none) E s1) E s
 done : ∀ (X : Cx), X.prog = P → X.w = w → X.K = K → X.calm = true → ∀ (i : Nat) (pins : List (Addr × Obj)) (s : Shared) (σ : St) (H : Hp) (E : Value → Shared → Prop), Inv X pins σ H s → (∀ b ∈ fp, FpOk X pins H b) → tn i s.heap → J.stop i H →
  wpAny (model P w) X.A (pyNext (.ref it)) (fun r s1 => r = none ∧ Inv X pins σ H s1) E s
 self : ∀ (A : Around) (i : Nat) (s : Shared) (Q : Value → Shared → Prop) (E : Value → Shared → Prop), tn i s.heap → Q (.ref it) s → wpAny (model P w) A (pyIter (.ref it)) Q E s
abbrev TI := St → Hp → (It → Hp → Prop) → Prop
def PIE (X : Cx) (pins : List (Addr × Obj)) (σ : St) (tg : Expr) (R : It → Hp → Prop) (itv : Value) (s2 : Shared) : Prop :=
 ∃ (it : Addr) (fp : List Addr) (tn : Nat → Heap → Prop) (J : It) (H' : Hp), itv = .ref it ∧ Inv X pins σ H' s2 ∧ Turn X.prog X.w X.K tg J fp it tn ∧ tn 0 s2.heap ∧ (∀ b ∈ fp, FpOk X pins H' b) ∧ R J H'
def PI (X : Cx) (tg iter : Expr) (wi : TI) : Prop :=
 ∀ (pins : List (Addr × Obj)) (s : Shared) (σ : St) (H : Hp) (R : It → Hp → Prop), Inv X pins σ H s → wi σ H R →
  wpAny (model X.prog X.w) X.A (eval iter X.env) (fun v s1 => wpAny (model X.prog X.w) X.A (pyIter v) (PIE X pins σ tg R) X.xe s1) X.xe s
theorem go_of {M : Model} {A : Around} {E : Value → Shared → Prop} {s : Shared} {tg : Expr} {it : Addr} {u : Value} {o : Obj} {n : String} {vs : Array Value} {Q : Unit → Shared → Prop} (ho : s.heap.get? it = some o) (hc : o.cls = .type n) (hd : o.data = .fields vs)
    (hn : ["enumerate", "zip", "dict_itemiterator", "dict_reverseitemiterator", "odict_iterator", "itertools.zip_longest", "itertools.pairwise"].contains n = false) (hQ : Q () s) : wpAny M A (letOwnedTupleGo tg (.ref it) u) Q E s := by
  unfold letOwnedTupleGo
  cases tg <;> first
    | exact wpAny_pure hQ
    | (cases u <;> first
        | exact wpAny_pure hQ
        | (refine wpAny_bind (wpAny_load ho ?_)
           rw [hc, hd]
           show wpAny M A (if (["enumerate", "zip", "dict_itemiterator", "dict_reverseitemiterator", "odict_iterator", "itertools.zip_longest", "itertools.pairwise"].contains n && vs[0]? == some (rawInt _)) = true then _ else _) Q E s
           rw [if_neg (by intro h; rw [hn, Bool.false_and] at h; cases h)]
           exact wpAny_pure hQ))
def Itl (K : PySem.W.Frag) (a : Addr) : It :=
 ⟨fun i H => ∃ xs x, SqL K H a xs ∧ xs[i]? = some x, fun i H x H' => H' = H ∧ ∀ xs, SqL K H a xs → xs[i]? = some x, fun i H => ∃ xs, SqL K H a xs ∧ xs.length ≤ i⟩
def Itt (K : PySem.W.Frag) (a : Addr) : It :=
 ⟨fun i H => ∃ xs x, SqT K H a xs ∧ xs[i]? = some x, fun i H x H' => H' = H ∧ ∀ xs, SqT K H a xs → xs[i]? = some x, fun i H => ∃ xs, SqT K H a xs ∧ xs.length ≤ i⟩
def Itr (lo : Int) (n : Nat) : It := ⟨fun i _ => i < n, fun i H x H' => H' = H ∧ x = .int (lo + i), fun i _ => n ≤ i⟩
theorem turn_list {P : Program} {w : World} {K : PySem.W.Frag} {tg : Expr} (a it : Addr) : Turn P w K tg (Itl K a) [it] it (fun i h => h.IsListIter it a i) where
 mem := by simp
 obj := fun i h st b hb => by
  have e : b = it := by simpa using hb
  subst e
  obtain ⟨o, e, c, d⟩ := st
  exact ⟨o, e, fun v z => by rw [d] at z; cases z⟩
 keep := fun i h h' st k => st.at fun o e => k it (by simp) o e
 item := by
  intro X hP hw hK hc i pins s σ H E I hf st hg
  subst hP hw hK
  obtain ⟨xs, x, hq, hx⟩ := hg
  obtain ⟨its, rv, p, hz⟩ := I.list hq
  obtain ⟨u, hu, ru⟩ := rv.get hx
  obtain ⟨f0, f1, f2, f3, f4, f5⟩ := hf it (by simp)
  refine wpAny_pyNext_list_item st p.isList (x := u) (by simpa using hu) fun h' st' sb => ?_
  have I1 : Inv X pins σ H { s with heap := h' } := I.turned (t' := s.toks) (fun b o hb e => (sb.2 b hb).trans e) f0 f1 f3 f4 f5
  obtain ⟨o, e, c, d⟩ := id st'
  exact ⟨u, rfl, go_of (s := { s with heap := h' }) e c d (by decide) ⟨x, H, I1, ru, ⟨rfl, fun ys hy => by rw [I.list_inj hy hq]; exact hx⟩, st', fun b hb => (hf b hb).1⟩⟩
 done := by
  intro X hP hw hK hc i pins s σ H E I hf st hg
  subst hP hw hK
  obtain ⟨xs, hq, hx⟩ := hg
  obtain ⟨its, rv, p, hz⟩ := I.list hq
  obtain ⟨f0, f1, f2, f3, f4, f5⟩ := hf it (by simp)
  have hl := rv.length
  exact wpAny_pyNext_list_end (I.ok.hd hc) st p.isList (by simp; omega) fun h' eb => ⟨rfl, I.turned (t' := s.toks) (fun b o hb e => eb b o hb e) f0 f1 f3 f4 f5⟩
 self := fun _ _ _ _ _ st h => wpAny_pyIter_listiter st h
theorem turn_tuple {P : Program} {w : World} {K : PySem.W.Frag} {tg : Expr} (a it : Addr) : Turn P w K tg (Itt K a) [it] it (fun i h => h.IsTupleIter it a i) where
 mem := by simp
 obj := fun i h st b hb => by
  have e : b = it := by simpa using hb
  subst e
  obtain ⟨o, e, c, d⟩ := st
  exact ⟨o, e, fun v z => by rw [d] at z; cases z⟩
 keep := fun i h h' st k => st.at fun o e => k it (by simp) o e
 item := by
  intro X hP hw hK hc i pins s σ H E I hf st hg
  subst hP hw hK
  obtain ⟨xs, x, hq, hx⟩ := hg
  obtain ⟨its, rv, p, hz⟩ := I.tuple hq
  obtain ⟨u, hu, ru⟩ := rv.get hx
  obtain ⟨f0, f1, f2, f3, f4, f5⟩ := hf it (by simp)
  refine wpAny_pyNext_tuple_item st (show s.heap.IsTuple a its.toArray from p) (x := u) (by simpa using hu) fun h' st' sb => ?_
  have I1 : Inv X pins σ H { s with heap := h' } := I.turned (t' := s.toks) (fun b o hb e => (sb.2 b hb).trans e) f0 f1 f3 f4 f5
  obtain ⟨o, e, c, d⟩ := id st'
  exact ⟨u, rfl, go_of (s := { s with heap := h' }) e c d (by decide) ⟨x, H, I1, ru, ⟨rfl, fun ys hy => by rw [I.tuple_inj hy hq]; exact hx⟩, st', fun b hb => (hf b hb).1⟩⟩
 done := by
  intro X hP hw hK hc i pins s σ H E I hf st hg
  subst hP hw hK
  obtain ⟨xs, hq, hx⟩ := hg
  obtain ⟨its, rv, p, hz⟩ := I.tuple hq
  obtain ⟨f0, f1, f2, f3, f4, f5⟩ := hf it (by simp)
  have hl := rv.length
  exact wpAny_pyNext_tuple_end (I.ok.hd hc) st (show s.heap.IsTuple a its.toArray from p) (by simp; omega) fun h' eb => ⟨rfl, I.turned (t' := s.toks) (fun b o hb e => eb b o hb e) f0 f1 f3 f4 f5⟩
 self := fun _ _ _ _ _ st h => wpAny_pyIter_tupleiter st h
theorem turn_range {P : Program} {w : World} {K : PySem.W.Frag} {tg : Expr} (it : Addr) (lo : Int) (n : Nat) : Turn P w K tg (Itr lo n) [it] it (fun i h => IsRangeIter h it (lo + (i : Nat) * 1) ((n : Int) - (i : Nat)) 1) where
 mem := by simp
 obj := fun i h st b hb => by
  have e : b = it := by simpa using hb
  subst e
  exact ⟨_, st, fun v z => by
   have z' : Data.fields _ = Data.cell v := z
   cases z'⟩
 keep := fun i h h' st k => k it (by simp) _ st
 item := by
  intro X hP hw hK hc i pins s σ H E I hf st hg
  subst hP hw hK
  obtain ⟨f0, f1, f2, f3, f4, f5⟩ := hf it (by simp)
  have W := Walks.range (prog := X.prog) (w := X.w) (I.ok.hd hc) it lo 1 n
  refine W.item i s _ _ hg st fun v h' tk hv st' kk => ?_
  obtain ⟨t, rfl⟩ := hv
  have I1 : Inv X pins σ H { s with heap := h', toks := tk } := I.turned (fun b o hb e => kk b o (by simpa using hb) e) f0 f1 f3 f4 f5
  refine ⟨_, rfl, go_of (s := { s with heap := h', toks := tk }) (n := "range_iterator") st' rfl rfl (by decide) ⟨.int (lo + i), H, I1, ⟨t, ?_⟩, ⟨rfl, rfl⟩, st', fun b hb => (hf b hb).1⟩⟩
  rw [Int.mul_one]
 done := by
  intro X hP hw hK hc i pins s σ H E I hf st hg
  subst hP hw hK
  obtain ⟨f0, f1, f2, f3, f4, f5⟩ := hf it (by simp)
  exact wpAny_pyNext_range_end (I.ok.hd hc) st (by have : n ≤ i := hg; omega) fun h' eb => ⟨rfl, I.turned (t' := s.toks) (fun b o hb e => eb b o hb e) f0 f1 f3 f4 f5⟩
 self := fun _ _ _ _ _ st h => wpAny_pyIter_rangeiter st h
end L2
namespace L2
open PySem PySem.Spec PyProof.Rows
section
variable {X : Cx} {tg : Expr}
def iList (K : PySem.W.Frag) (tl : TE) : TI := fun σ H R => tl σ H fun x H1 => ∃ a, x = .ref a ∧ (∃ xs, SqL K H1 a xs) ∧ R (Itl K a) H1
def iTup (K : PySem.W.Frag) (tl : TE) : TI := fun σ H R => tl σ H fun x H1 => ∃ a, x = .ref a ∧ (∃ xs, SqT K H1 a xs) ∧ R (Itt K a) H1
theorem pi_list {l : Expr} {tl : TE} (hl : PE X l tl) : PI X tg l (iList X.K tl) := by
 intro pins s σ H R I h
 refine thn (hl pins s σ H _ I h) fun v s1 ⟨x, H1, I1, r1, q1⟩ => ?_
 obtain ⟨a, e, ⟨xs, hq⟩, q⟩ := q1
 subst e
 cases r1
 obtain ⟨its, rv, p, hz⟩ := I1.list hq
 refine wpAny_pyIter_list p.isList ?_
 refine ⟨s1.heap.objs.size, [s1.heap.objs.size], _, _, H1, rfl, I1.kept (t' := s1.toks) fun b o e => Heap.get?_push_of_some _ e, turn_list a _, ⟨_, Heap.get?_push_size _ rfl, rfl, rfl⟩, fun b hb => ?_, q⟩
 have e : b = s1.heap.objs.size := by simpa using hb
 subst e
 exact I1.fpOk (Nat.le_refl _) (I1.hok.fresh (Nat.le_refl _))
theorem pi_tup {l : Expr} {tl : TE} (hl : PE X l tl) : PI X tg l (iTup X.K tl) := by
 intro pins s σ H R I h
 refine thn (hl pins s σ H _ I h) fun v s1 ⟨x, H1, I1, r1, q1⟩ => ?_
 obtain ⟨a, e, ⟨xs, hq⟩, q⟩ := q1
 subst e
 cases r1
 obtain ⟨its, rv, p, hz⟩ := I1.tuple hq
 refine wpAny_pyIter_tuple (show s1.heap.IsTuple a its.toArray from p) ?_
 refine ⟨s1.heap.objs.size, [s1.heap.objs.size], _, _, H1, rfl, I1.kept (t' := s1.toks) fun b o e => Heap.get?_push_of_some _ e, turn_tuple a _, ⟨_, Heap.get?_push_size _ rfl, rfl, rfl⟩, fun b hb => ?_, q⟩
 have e : b = s1.heap.objs.size := by simpa using hb
 subst e
 exact I1.fpOk (Nat.le_refl _) (I1.hok.fresh (Nat.le_refl _))
theorem range_it {pins : List (Addr × Obj)} {σ : St} {H : Hp} {s : Shared} {R : It → Hp → Prop} {E : Value → Shared → Prop} {lo hi : Int} {t u v : Tok} {tk : Nat} (I : Inv X pins σ H s) (h1 : -(2 ^ 62) ≤ lo) (h2 : lo < 2 ^ 62) (h3 : -(2 ^ 62) ≤ hi) (h4 : hi < 2 ^ 62)
  (q : R (Itr lo (hi - lo).toNat) H) : wpAny (model X.prog X.w) X.A (pyIter (.ref s.heap.objs.size)) (PIE X pins σ tg R) E { s with heap := s.heap.push { cls := .type "range", data := .fields #[.int lo t, .int hi u, .int 1 v] }, toks := tk } := by
 refine wpAny_pyIter_range (IsRange.new ..) (small_one h1 h2 h3 h4) ?_
 have I1 : Inv X pins σ H { s with heap := s.heap.push { cls := .type "range", data := .fields #[.int lo t, .int hi u, .int 1 v] }, toks := tk } := I.kept fun b o e => Heap.get?_push_of_some _ e
 refine ⟨(s.heap.push { cls := .type "range", data := .fields #[.int lo t, .int hi u, .int 1 v] }).objs.size, [(s.heap.push { cls := .type "range", data := .fields #[.int lo t, .int hi u, .int 1 v] }).objs.size], _, _, H, rfl,
  I1.kept (t' := tk) fun b o e => Heap.get?_push_of_some _ e, turn_range _ lo (hi - lo).toNat, ?_, fun b hb => ?_, q⟩
 ·have e1 : lo + ((0 : Nat) : Int) * 1 = lo := by simp
  have e2 : (((hi - lo).toNat : Nat) : Int) - ((0 : Nat) : Int) = Builtin.Range.rangeSize lo hi 1 := by rw [rangeSize_one]; split <;> omega
  show IsRangeIter _ _ (lo + ((0 : Nat) : Int) * 1) ((((hi - lo).toNat : Nat) : Int) - ((0 : Nat) : Int)) 1
  rw [e1, e2]
  exact Heap.get?_push_size _ rfl
 ·have e : b = (s.heap.push { cls := .type "range", data := .fields #[.int lo t, .int hi u, .int 1 v] }).objs.size := by simpa using hb
  subst e
  exact I1.fpOk (Nat.le_refl _) (I1.hok.fresh (Nat.le_refl _))
def iRng1 (ta : TA) : TI := fun σ H R => ta σ H fun vs H1 => ∃ j : Int, vs = [.int j] ∧ -(2 ^ 62) ≤ j ∧ j < 2 ^ 62 ∧ R (Itr 0 j.toNat) H1
def iRng2 (ta : TA) : TI := fun σ H R => ta σ H fun vs H1 => ∃ i j : Int, vs = [.int i, .int j] ∧ (-(2 ^ 62) ≤ i ∧ i < 2 ^ 62 ∧ -(2 ^ 62) ≤ j ∧ j < 2 ^ 62) ∧ R (Itr i (j - i).toNat) H1
theorem pi_range1 {a : Expr} {ta : TA} {p pos : Pos} (hg : Gl X "range") (hm : X.mg "range" = none) (ha : PA X [a] ta) (hs : starEach [a] X.env = [(false, eval a X.env)] := by rfl) : PI X tg (.Call (.Name "range" p) [a] [] pos) (iRng1 ta) := by
 intro pins s σ H R I h
 refine Call_ (ld_blt I hg hm boot_range (PyProof.Rows.callWith_type1 (thn (ha pos pins s σ H _ I h) fun us s1 ⟨vs, H1, I1, r1, q1⟩ => ?_) hs rfl))
 obtain ⟨j, e, q1, q2, q⟩ := q1
 subst e
 cases r1 with
 | cons r rr =>
  cases rr
  obtain ⟨t, rfl⟩ := r
  exact call_range_1 (range_it I1 (by omega) (by omega) q1 q2 (by simpa using q))
theorem pi_range2 {a b : Expr} {ta : TA} {p pos : Pos} (hg : Gl X "range") (hm : X.mg "range" = none) (ha : PA X [a, b] ta) (hs : starEach [a, b] X.env = [(false, eval a X.env), (false, eval b X.env)] := by rfl) (hs2 : starEach [b] X.env = [(false, eval b X.env)] := by rfl) :
  PI X tg (.Call (.Name "range" p) [a, b] [] pos) (iRng2 ta) := by
 intro pins s σ H R I h
 refine Call_ (ld_blt I hg hm boot_range (PyProof.Rows.callWith_type1 (thn (ha pos pins s σ H _ I h) fun us s1 ⟨vs, H1, I1, r1, q1⟩ => ?_) (by rw [hs, hs2]) (by rw [hs2]; rfl)))
 obtain ⟨i, j, e, ⟨q1, q2, q3, q4⟩, q⟩ := q1
 subst e
 cases r1 with
 | cons r rr =>
  cases rr with
  | cons r' rr =>
   cases rr
   obtain ⟨t, rfl⟩ := r
   obtain ⟨t', rfl⟩ := r'
   exact call_range_2 (range_it I1 q1 q2 q3 q4 q)
def tFor (wi : TI) (g : TG) (tb : TS) : TS := fun D σ H => wi σ H fun J H1 => ∃ W : Nat → Nat → St → Hp → Prop, (∃ m, W 0 m σ H1) ∧ ∀ i m σ H, W i m σ H →
 (J.stop i H ∧ D.nx σ H) ∨ (J.go i H ∧ ∃ N : St → Hp → Prop, (∀ σ' H', N σ' H' → ∃ m', m' < m ∧ W (i + 1) m' σ' H') ∧ ∀ x H', J.yld i H x H' → g x σ H' fun σ2 H2 => tb { D with nx := N, ct := N, bk := D.nx } σ2 H2)
def pinsAt (fp : List Addr) (h : Heap) : List (Addr × Obj) := fp.filterMap fun b => (h.get? b).map fun o => (b, o)
theorem mem_pinsAt {fp : List Addr} {h : Heap} {b : Addr} {o : Obj} (hb : b ∈ fp) (e : h.get? b = some o) : (b, o) ∈ pinsAt fp h := List.mem_filterMap.mpr ⟨b, hb, by rw [e]; rfl⟩
theorem of_pinsAt {fp : List Addr} {h : Heap} {p : Addr × Obj} (hp : p ∈ pinsAt fp h) : p.1 ∈ fp ∧ h.get? p.1 = some p.2 := by
 obtain ⟨b, hb, e⟩ := List.mem_filterMap.mp hp
 cases q : h.get? b with
 | none => rw [q] at e; cases e
 | some o =>
  rw [q] at e
  have e' : (b, o) = p := Option.some.inj e
  subst e'
  exact ⟨hb, q⟩
theorem Inv.pinned {pins : List (Addr × Obj)} {σ : St} {H : Hp} {s : Shared} {fp : List Addr} (I : Inv X pins σ H s) (hf : ∀ b ∈ fp, FpOk X pins H b) (ho : ∀ b ∈ fp, ∃ o, s.heap.get? b = some o ∧ ∀ v, o.data ≠ .cell v) : Inv X (pins ++ pinsAt fp s.heap) σ H s :=
 I.pins_of fun p hp => (List.mem_append.mp hp).elim (fun z => I.pin p (List.mem_append_right _ z)) fun z => by
  obtain ⟨hb, e⟩ := of_pinsAt z
  obtain ⟨f0, f1, f2, _⟩ := hf p.1 hb
  obtain ⟨o, e', d⟩ := ho p.1 hb
  rw [e] at e'; cases e'
  exact ⟨e, f0, f1, f2, d⟩
theorem Inv.unpinned {pins pl : List (Addr × Obj)} {σ : St} {H : Hp} {s : Shared} (I : Inv X (pins ++ pl) σ H s) : Inv X pins σ H s := I.pins_of fun p hp => I.pin p (List.mem_append_right _ (List.mem_append_left _ hp))
theorem ps_for {iter : Expr} {body : List Stmt} {wi : TI} {g : TG} {tb : TS} {pos : Pos} (hp : PassesOwn (model X.prog X.w) X.A X.env X.xe) (hc : X.calm = true) (hi : PI X tg iter wi) (hg : PG X tg g) (hb : PSs X body tb)
  (hs : ∀ x, foldedSetIterable iter X.env x = pure x := by intro _; rfl) : PS X (.For tg iter body [] pos) (tFor wi g tb) := by
 intro pins s σ H D I h
 refine wpAny_For (thn (hi pins s σ H _ I h) fun v s1 h1 => thn h1 fun itv s2 h2 => ?_) hs
 obtain ⟨it, fp, tn, J, H2, e, I2, T, st2, f2, W, ⟨m0, w0⟩, turn⟩ := h2
 subst e
 have stat : ∀ {H' : Hp}, (∀ b ∈ fp, H' b = none) → ∀ b ∈ fp, FpOk X pins H' b := fun hn b hb => ⟨hn b hb, (f2 b hb).2⟩
 refine codeAny_forLoop_any (fun n s' => ∃ i σ' H', Inv X pins σ' H' s' ∧ tn i s'.heap ∧ (∀ b ∈ fp, H' b = none) ∧ W i n σ' H') ?_ m0 ⟨0, σ, H2, I2, st2, fun b hb => (f2 b hb).1, w0⟩
 rintro n s3 ⟨i, σ3, H3, I3, st3, fr3, w3⟩
 rcases turn i n σ3 H3 w3 with ⟨stop, qn⟩ | ⟨go, N, hN, step⟩
 ·refine wpAny_passesOwn hp (thn (T.done X rfl rfl rfl hc i pins s3 σ3 H3 X.xe I3 (stat fr3) st3 stop) fun r s4 ⟨hr, I4⟩ => ?_)
  subst hr
  exact wpAny_execs_nil ⟨σ3, H3, I4, qn⟩
 ·refine wpAny_passesOwn hp (thn (T.item X rfl rfl rfl hc i pins s3 σ3 H3 X.xe I3 (stat fr3) st3 go) fun r s4 ⟨u, hr, h4⟩ => ?_)
  subst hr
  refine wpAny_passesOwn hp (thn h4 fun _ s5 ⟨x, H5, I5, r5, y5, st5, fr5⟩ => ?_)
  have I5' := I5.pinned (stat fr5) (T.obj _ _ st5)
  refine wpAny_passesOwn hp (thn (hg _ s5 σ3 H5 x u _ I5' r5 (step x H5 y5)) fun _ s6 ⟨σ6, H6, I6, q6⟩ => ?_)
  refine wpAny_passesOwn hp (thn (hb _ s6 σ6 H6 _ I6 q6) fun f s7 q7 => ?_)
  have again : ∀ {σ7 : St} {H7 : Hp}, Inv X (pins ++ pinsAt fp s5.heap) σ7 H7 s7 → N σ7 H7 → ∃ m, m < n ∧ ∃ i σ' H', Inv X pins σ' H' s7 ∧ tn i s7.heap ∧ (∀ b ∈ fp, H' b = none) ∧ W i m σ' H' := fun {σ7 H7} I7 n7 => by
   obtain ⟨m', hm, w7⟩ := hN σ7 H7 n7
   refine ⟨m', hm, i + 1, σ7, H7, I7.unpinned, T.keep _ _ _ st5 fun b hb o e => (I7.pin (b, o) (List.mem_append_right _ (List.mem_append_right _ (mem_pinsAt hb e)))).1, fun b hb => ?_, w7⟩
   obtain ⟨o, e, d⟩ := T.obj _ _ st5 b hb
   exact (I7.pin (b, o) (List.mem_append_right _ (List.mem_append_right _ (mem_pinsAt hb e)))).2.1
  cases f with
  | next => obtain ⟨σ7, H7, I7, n7⟩ := q7; exact again I7 n7
  | cont => obtain ⟨σ7, H7, I7, n7⟩ := q7; exact again I7 n7
  | brk => obtain ⟨σ7, H7, I7, q7⟩ := q7; exact ⟨σ7, H7, I7.unpinned, q7⟩
  | ret v => obtain ⟨x7, σ7, H7, I7, r7, q7⟩ := q7; exact ⟨x7, σ7, H7, I7.unpinned, r7, q7⟩
end
end L2
namespace L2
open PySem PySem.Spec PyProof.Rows
abbrev R2 := V → V → Hp → VK → Prop
def OpR (X : Cx) (f : Value → Value → Sem Value) (r : R2) : Prop :=
 ∀ (pins : List (Addr × Obj)) (s : Shared) (σ : St) (H : Hp) (x y : V) (v u : Value) (Q : VK), Inv X pins σ H s → ZE x v → ZE y u → r x y H Q →
  wpAny (model X.prog X.w) X.A (f v u) (EP X pins σ Q) X.xe s
def UnR (X : Cx) (f : Value → Sem Value) (r : V → Hp → VK → Prop) : Prop :=
 ∀ (pins : List (Addr × Obj)) (s : Shared) (σ : St) (H : Hp) (x : V) (v : Value) (Q : VK), Inv X pins σ H s → ZE x v → r x H Q →
  wpAny (model X.prog X.w) X.A (f v) (EP X pins σ Q) X.xe s
def CallR (X : Cx) (f : Value) (r : List V → Hp → VK → Prop) : Prop :=
 ∀ (pins : List (Addr × Obj)) (s : Shared) (σ : St) (H : Hp) (xs : List V) (us : List Value) (Q : VK), Inv X pins σ H s → Za xs us → r xs H Q →
  wpAny (model X.prog X.w) X.A (call f us) (EP X pins σ Q) X.xe s
def tOp (r : R2) (ta tb : TE) : TE := fun σ H Q => ta σ H fun x H1 => tb σ H1 fun y H2 => r x y H2 Q
def tUn (r : V → Hp → VK → Prop) (ta : TE) : TE := fun σ H Q => ta σ H fun x H1 => r x H1 Q
def rI (C : Int → Int → Prop) (g : Int → Int → V) : R2 := fun x y H Q => ∃ i j, x = .int i ∧ y = .int j ∧ C i j ∧ Q (g i j) H
def rI0 (g : Int → Int → V) : R2 := fun x y H Q => ∃ i j, x = .int i ∧ y = .int j ∧ Q (g i j) H
def rU (g : Int → V) : V → Hp → VK → Prop := fun x H Q => ∃ i, x = .int i ∧ Q (g i) H
section
variable {X : Cx} {a b c : Expr} {ta tb tc : TE} {pos : Pos}
theorem binT (ha : PE X a ta) (hb : PE X b tb) {pins : List (Addr × Obj)} {s : Shared} {σ : St} {H : Hp} {R : V → V → Hp → Prop} (I : Inv X pins σ H s)
  (h : ta σ H fun x H1 => tb σ H1 fun y H2 => R x y H2) {Q : Value → Shared → Prop} {f : Value → Value → Sem Value}
  (hf : ∀ v u s2 x y H2, Inv X pins σ H2 s2 → ZE x v → ZE y u → R x y H2 → wpAny (model X.prog X.w) X.A (f v u) Q X.xe s2) :
  wpAny (model X.prog X.w) X.A (eval a X.env) (fun v s₁ => wpAny (model X.prog X.w) X.A (eval b X.env) (fun u s₂ => wpAny (model X.prog X.w) X.A (f v u) Q X.xe s₂) X.xe s₁) X.xe s := by
 refine thn (ha pins s σ H _ I h) fun v s1 ⟨x, H1, I1, r1, q1⟩ => ?_
 refine thn (hb pins s1 σ H1 _ I1 q1) fun u s2 ⟨y, H2, I2, r2, q2⟩ => ?_
 exact hf v u s2 x y H2 I2 r1 r2 q2
theorem pe_op {op : Operator} {r : R2} (ho : OpR X (binaryOp op) r) (ha : PE X a ta) (hb : PE X b tb) : PE X (.BinOp a op b pos) (tOp r ta tb) := by
 intro pins s σ H Q I h
 exact wpAny_BinOp (binT ha hb I h fun v u s2 x y H2 I2 rx ry q => ho pins s2 σ H2 x y v u Q I2 rx ry q)
theorem pe_un {op : UnaryOp} {r : V → Hp → VK → Prop} (ho : UnR X (unaryOp op) r) (ha : PE X a ta) : PE X (.UnaryOp op a pos) (tUn r ta) := by
 intro pins s σ H Q I h
 exact UnaryOp_ (thn (ha pins s σ H _ I h) fun v s1 ⟨x, H1, I1, r1, q1⟩ => ho pins s1 σ H1 x v Q I1 r1 q1)
theorem opI {f : Value → Value → Sem Value} {C : Int → Int → Prop} {g : Int → Int → Int}
  (rule : ∀ (i j : Int) (t u : Tok) (s : Shared) (Q : Value → Shared → Prop) (E : Value → Shared → Prop), C i j → Q (.int (g i j) s.toks) { s with toks := s.toks + 1 } → wpAny (model X.prog X.w) X.A (f (.int i t) (.int j u)) Q E s) :
  OpR X f (rI C fun i j => .int (g i j)) := by
 intro pins s σ H x y v u Q I rx ry h
 obtain ⟨i, j, rfl, rfl, hc, q⟩ := h
 obtain ⟨t, rfl⟩ := rx
 obtain ⟨t', rfl⟩ := ry
 exact rule i j t t' s _ _ hc ⟨.int (g i j), H, I.tok _, ⟨_, rfl⟩, q⟩
theorem opI0 {f : Value → Value → Sem Value} {g : Int → Int → Int}
  (rule : ∀ (i j : Int) (t u : Tok) (s : Shared) (Q : Value → Shared → Prop) (E : Value → Shared → Prop), Q (.int (g i j) s.toks) { s with toks := s.toks + 1 } → wpAny (model X.prog X.w) X.A (f (.int i t) (.int j u)) Q E s) :
  OpR X f (rI0 fun i j => .int (g i j)) := by
 intro pins s σ H x y v u Q I rx ry h
 obtain ⟨i, j, rfl, rfl, q⟩ := h
 obtain ⟨t, rfl⟩ := rx
 obtain ⟨t', rfl⟩ := ry
 exact rule i j t t' s _ _ ⟨.int (g i j), H, I.tok _, ⟨_, rfl⟩, q⟩
theorem opB0 {f : Value → Value → Sem Value} {g : Int → Int → Bool}
  (rule : ∀ (i j : Int) (t u : Tok) (s : Shared) (Q : Value → Shared → Prop) (E : Value → Shared → Prop), Q (.bool (g i j)) s → wpAny (model X.prog X.w) X.A (f (.int i t) (.int j u)) Q E s) :
  OpR X f (rI0 fun i j => .bl (g i j)) := by
 intro pins s σ H x y v u Q I rx ry h
 obtain ⟨i, j, rfl, rfl, q⟩ := h
 obtain ⟨t, rfl⟩ := rx
 obtain ⟨t', rfl⟩ := ry
 exact rule i j t t' s _ _ ⟨.bl (g i j), H, I, rfl, q⟩
def CDiv (i j : Int) : Prop := 0 < j ∧ j < 1073741824
def CPow (i j : Int) : Prop := 0 ≤ j ∧ j ≤ 1000000 ∧ i.natAbs < 2 ^ 64
def CMul (i j : Int) : Prop := (-(2 ^ 64) < i ∧ i < 2 ^ 64) ∨ (-(2 ^ 64) < j ∧ j < 2 ^ 64)
theorem CMul.ok {i j : Int} (h : CMul i j) : IntMulOk i j := by
 rcases h with ⟨h1, h2⟩ | ⟨h1, h2⟩
 ·exact .of_left (intBits_le_64 h1 h2)
 ·exact .of_right (intBits_le_64 h1 h2)
theorem ZH : OpR X (binaryOp .Add) (rI0 fun i j => .int (i + j)) := opI0 fun _ _ _ _ _ _ _ q => add_int q
theorem op_sub : OpR X (binaryOp .Sub) (rI0 fun i j => .int (i - j)) := opI0 fun _ _ _ _ _ _ _ q => sub_int q
theorem op_fdiv : OpR X (binaryOp .FloorDiv) (rI CDiv fun i j => .int (i / j)) := opI fun i j _ _ _ _ _ hc q => by
 have h1 : (0 : Int) < j := hc.1
 have h2 : j < 1073741824 := hc.2
 exact floordiv_int (by omega) (by rw [Int.fdiv_eq_ediv_of_nonneg i (by omega)]; exact q) (.inl (PyProof.noPylong_small (by omega)))
theorem ZG : OpR X (binaryOp .Mod) (rI (fun _ j => 0 < j) fun i j => .int (i % j)) := opI fun i j _ _ _ _ _ hc q => by
 have h1 : (0 : Int) < j := hc
 exact mod_int' (by omega) (by rw [Int.fmod_eq_emod_of_nonneg i (by omega)]; exact q)
theorem op_pow : OpR X (binaryOp .Pow) (rI CPow fun i j => .int (i ^ j.toNat)) := opI fun _ _ _ _ _ _ _ hc q => pow_int_small hc.1 hc.2.1 hc.2.2 q
theorem unI {f : Value → Sem Value} {g : Int → Int}
  (rule : ∀ (i : Int) (t : Tok) (s : Shared) (Q : Value → Shared → Prop) (E : Value → Shared → Prop), Q (.int (g i) s.toks) { s with toks := s.toks + 1 } → wpAny (model X.prog X.w) X.A (f (.int i t)) Q E s) :
  UnR X f (rU fun i => .int (g i)) := by
 intro pins s σ H x v Q I rx h
 obtain ⟨i, rfl, q⟩ := h
 obtain ⟨t, rfl⟩ := rx
 exact rule i t s _ _ ⟨.int (g i), H, I.tok _, ⟨_, rfl⟩, q⟩
theorem un_neg : UnR X (unaryOp .USub) (rU fun i => .int (-i)) := unI fun _ _ _ _ _ q => neg_int q
end
def scal : V → V → Bool
 | .non, .non => true | .non, .int _ => true | .int _, .non => true | .non, .bl _ => true | .bl _, .non => true | .non, .str _ => true | .str _, .non => true
 | .int _, .int _ => true | .bl _, .bl _ => true | .str _, .str _ => true | .byt _, .byt _ => true
 | .int _, .str _ => true | .str _, .int _ => true | .bl _, .str _ => true | .str _, .bl _ => true
 | _, _ => false
def rEq : R2 := fun x y H Q => scal x y = true ∧ Q (.bl (decide (x = y))) H
def rNe : R2 := fun x y H Q => scal x y = true ∧ Q (.bl (!decide (x = y))) H
theorem dec_int {i j : Int} : decide (V.int i = V.int j) = (i == j) := by
 rw [Bool.eq_iff_iff]
 simp
theorem dec_bl {i j : Bool} : decide (V.bl i = V.bl j) = (i == j) := by
 rw [Bool.eq_iff_iff]
 simp
theorem dec_str {i j : Str} : decide (V.str i = V.str j) = (i == j) := by
 rw [Bool.eq_iff_iff]
 simp
theorem dec_byt {i j : Array UInt8} : decide (V.byt i = V.byt j) = (i.toList == j.toList) := by
 rw [Bool.eq_iff_iff]
 cases i
 cases j
 simp
section
variable {X : Cx} {a b c : Expr} {ta tb tc : TE} {pos : Pos}
theorem Zw {pins : List (Addr × Obj)} {σ : St} {H : Hp} {s : Shared} {Q : VK} {k k' : Bool} (I : Inv X pins σ H s) (q : Q (.bl k) H) (e : k = k') : EP X pins σ Q (.bool k') s := by
 subst e
 exact ⟨.bl k, H, I, rfl, q⟩
theorem op_eq : OpR X (compareOp .Eq) rEq := by
 intro pins s σ H x y v u Q I rx ry h
 obtain ⟨hs, q⟩ := h
 cases x with
 | non =>
  cases rx
  cases y with
  | non => cases ry; exact PySem.EqNone.eq_none_none (Zw I q (by simp))
  | bl j => cases ry; exact PySem.EqNone.eq_none_bool (Zw I q (by simp))
  | int j => obtain ⟨t', rfl⟩ := ry; exact PySem.EqNone.eq_none_int (Zw I q (by simp))
  | str j => obtain ⟨t', rfl⟩ := ry; exact PySem.EqNone.eq_none_str (Zw I q (by simp))
  | _ => exact absurd (show false = true from hs) Bool.false_ne_true
 | bl i =>
  cases rx
  cases y with
  | non => cases ry; exact PySem.EqNone.eq_bool_none (Zw I q (by simp))
  | bl j => cases ry; exact eq_bool (Zw I q dec_bl)
  | str j => obtain ⟨t', rfl⟩ := ry; exact PySem.EqMixed.eq_bool_str (Zw I q (by simp))
  | _ => exact absurd (show false = true from hs) Bool.false_ne_true
 | int i =>
  obtain ⟨t, rfl⟩ := rx
  cases y with
  | non => cases ry; exact PySem.EqNone.eq_int_none (Zw I q (by simp))
  | int j => obtain ⟨t', rfl⟩ := ry; exact eq_int (Zw I q dec_int)
  | str j => obtain ⟨t', rfl⟩ := ry; exact PySem.EqMixed.eq_int_str (Zw I q (by simp))
  | _ => exact absurd (show false = true from hs) Bool.false_ne_true
 | str i =>
  obtain ⟨t, rfl⟩ := rx
  cases y with
  | non => cases ry; exact PySem.EqNone.eq_str_none (Zw I q (by simp))
  | bl j => cases ry; exact PySem.EqMixed.eq_str_bool (Zw I q (by simp))
  | int j => obtain ⟨t', rfl⟩ := ry; exact PySem.EqMixed.eq_str_int (Zw I q (by simp))
  | str j => obtain ⟨t', rfl⟩ := ry; exact eq_str (Zw I q dec_str)
  | _ => exact absurd (show false = true from hs) Bool.false_ne_true
 | byt i =>
  obtain ⟨t, rfl⟩ := rx
  cases y with
  | byt j => obtain ⟨t', rfl⟩ := ry; exact PySem.W.eq_bytes (Zw I q dec_byt)
  | _ => exact absurd (show false = true from hs) Bool.false_ne_true
 | _ => cases y <;> exact absurd (show false = true from hs) Bool.false_ne_true
theorem op_ne : OpR X (compareOp .NotEq) rNe := by
 intro pins s σ H x y v u Q I rx ry h
 obtain ⟨hs, q⟩ := h
 cases x with
 | non =>
  cases rx
  cases y with
  | non => cases ry; exact PySem.EqNone.ne_none_none (Zw I q (by simp))
  | bl j => cases ry; exact PySem.EqNone.ne_none_bool (Zw I q (by simp))
  | int j => obtain ⟨t', rfl⟩ := ry; exact PySem.EqNone.ne_none_int (Zw I q (by simp))
  | str j => obtain ⟨t', rfl⟩ := ry; exact PySem.EqNone.ne_none_str (Zw I q (by simp))
  | _ => exact absurd (show false = true from hs) Bool.false_ne_true
 | bl i =>
  cases rx
  cases y with
  | non => cases ry; exact PySem.EqNone.ne_bool_none (Zw I q (by simp))
  | bl j => cases ry; exact ne_bool (Zw I q (congrArg not dec_bl))
  | str j => obtain ⟨t', rfl⟩ := ry; exact PySem.EqMixed.ne_bool_str (Zw I q (by simp))
  | _ => exact absurd (show false = true from hs) Bool.false_ne_true
 | int i =>
  obtain ⟨t, rfl⟩ := rx
  cases y with
  | non => cases ry; exact PySem.EqNone.ne_int_none (Zw I q (by simp))
  | int j => obtain ⟨t', rfl⟩ := ry; exact ne_int (Zw I q (congrArg not dec_int))
  | str j => obtain ⟨t', rfl⟩ := ry; exact PySem.EqMixed.ne_int_str (Zw I q (by simp))
  | _ => exact absurd (show false = true from hs) Bool.false_ne_true
 | str i =>
  obtain ⟨t, rfl⟩ := rx
  cases y with
  | non => cases ry; exact PySem.EqNone.ne_str_none (Zw I q (by simp))
  | bl j => cases ry; exact PySem.EqMixed.ne_str_bool (Zw I q (by simp))
  | int j => obtain ⟨t', rfl⟩ := ry; exact PySem.EqMixed.ne_str_int (Zw I q (by simp))
  | str j => obtain ⟨t', rfl⟩ := ry; exact ne_str (Zw I q (congrArg not dec_str))
  | _ => exact absurd (show false = true from hs) Bool.false_ne_true
 | byt i =>
  obtain ⟨t, rfl⟩ := rx
  cases y with
  | byt j => obtain ⟨t', rfl⟩ := ry; exact PySem.W.ne_bytes (Zw I q (congrArg not dec_byt))
  | _ => exact absurd (show false = true from hs) Bool.false_ne_true
 | _ => cases y <;> exact absurd (show false = true from hs) Bool.false_ne_true
theorem op_lt : OpR X (compareOp .Lt) (rI0 fun i j => .bl (decide (i < j))) := opB0 fun _ _ _ _ _ _ _ q => lt_int q
theorem op_le : OpR X (compareOp .LtE) (rI0 fun i j => .bl (decide (i ≤ j))) := opB0 fun _ _ _ _ _ _ _ q => le_int q
theorem op_gt : OpR X (compareOp .Gt) (rI0 fun i j => .bl (decide (j < i))) := opB0 fun _ _ _ _ _ _ _ q => gt_int q
theorem op_isN : OpR X (compareOp .Is) (fun x y H Q => y = .non ∧ Q (.bl (decide (x = .non))) H) := by
 intro pins s σ H x y v u Q I rx ry h
 obtain ⟨rfl, q⟩ := h
 cases ry
 refine is_none_gen (Zw I q ?_)
 cases x <;> first
  | (cases rx; rfl)
  | (obtain ⟨t, rfl⟩ := rx; rfl)
theorem zS (b : Expr) {op : CmpOp} (h : op ≠ .In := by decide) (h2 : op ≠ .NotIn := by decide) : behindInMarks op b = false := by
 have e1 : (op == CmpOp.In) = false := by cases op <;> first | rfl | exact absurd rfl h
 have e2 : (op == CmpOp.NotIn) = false := by cases op <;> first | rfl | exact absurd rfl h2
 cases b <;> simp [behindInMarks, e1, e2]
theorem pe_cmpR {op : CmpOp} {r : R2} (ho : OpR X (compareOp op) r) (ha : PE X a ta) (hb : PE X b tb) (hm : behindInMarks op b = false) : PE X (.Compare a [op] [b] pos) (tOp r ta tb) := by
 intro pins s σ H Q I h
 exact wpAny_Compare1 (binT ha hb I h fun v u s2 x y H2 I2 rx ry q => ho pins s2 σ H2 x y v u Q I2 rx ry q) hm
def tTest (t : TE) : TT := fun σ H Q => t σ H fun x H' => ∃ k, x = .bl k ∧ Q k H'
theorem pt_cmpR {op : CmpOp} {r : R2} (ho : OpR X (compareOp op) r) (ha : PE X a ta) (hb : PE X b tb) (hm : behindInMarks op b = false) : PT X (.Compare a [op] [b] pos) (tTest (tOp r ta tb)) := by
 intro pins s σ H Q I h
 refine wpAny_isTrue_Compare1 (thn (ha pins s σ H _ I h) fun v s1 ⟨x, H1, I1, r1, q1⟩ => thn (hb pins s1 σ H1 _ I1 q1) fun u s2 ⟨y, H2, I2, r2, q2⟩ =>
  thn (ho pins s2 σ H2 x y v u _ I2 r1 r2 q2) fun c s3 ⟨z, H3, I3, r3, k, e, q3⟩ => ?_) hm
 subst e
 cases r3
 exact wpAny_truthy_bool ⟨H3, I3, q3⟩
def tChain (r r' : R2) (ta tb tc : TE) : TE := fun σ H Q => ta σ H fun x H1 => tb σ H1 fun y H2 => r x y H2 fun z H3 => ∃ k, z = .bl k ∧
 (if k = true then tc σ H3 fun w' H4 => r' y w' H4 Q else Q (.bl false) H3)
theorem pe_chain {op op' : CmpOp} {r r' : R2} (ho : OpR X (compareOp op) r) (ho' : OpR X (compareOp op') r') (ha : PE X a ta) (hb : PE X b tb) (hc : PE X c tc)
  (hm : lastMarks [op, op'] [b, c] = false := by with_unfolding_all rfl) : PE X (.Compare a [op, op'] [b, c] pos) (tChain r r' ta tb tc) := by
 intro pins s σ H Q I h
 refine Compare_chain (thn (ha pins s σ H _ I h) fun v s1 ⟨x, H1, I1, r1, q1⟩ => chain_link (thn (hb pins s1 σ H1 _ I1 q1) fun u s2 ⟨y, H2, I2, r2, q2⟩ =>
  thn (ho pins s2 σ H2 x y v u _ I2 r1 r2 q2) fun d s3 ⟨z, H3, I3, r3, k, e, q3⟩ => ?_)) hm
 subst e
 cases r3
 refine wpAny_truthy_bool ?_
 cases k with
 | false => exact ite_ff ⟨.bl false, H3, I3, rfl, q3⟩
 | true => exact ite_tt (chain_last (thn (hc pins s3 σ H3 _ I3 q3) fun w' s4 ⟨z', H4, I4, r4, q4⟩ => ho' pins s4 σ H4 y z' u w' Q I4 r2 r4 q4))
theorem pt_chain {op op' : CmpOp} {r r' : R2} (ho : OpR X (compareOp op) r) (ho' : OpR X (compareOp op') r') (ha : PE X a ta) (hb : PE X b tb) (hc : PE X c tc)
  (hm : lastMarks [op, op'] [b, c] = false := by with_unfolding_all rfl) : PT X (.Compare a [op, op'] [b, c] pos) (tTest (tChain r r' ta tb tc)) := by
 intro pins s σ H Q I h
 refine isTrue_chain (thn (ha pins s σ H _ I h) fun v s1 ⟨x, H1, I1, r1, q1⟩ => test_link (thn (hb pins s1 σ H1 _ I1 q1) fun u s2 ⟨y, H2, I2, r2, q2⟩ =>
  thn (ho pins s2 σ H2 x y v u _ I2 r1 r2 q2) fun d s3 ⟨z, H3, I3, r3, k, e, q3⟩ => ?_)) hm
 subst e
 cases r3
 refine wpAny_truthy_bool ?_
 cases k with
 | false =>
  obtain ⟨k', e', q'⟩ := q3
  cases e'
  exact ite_ff ⟨H3, I3, q'⟩
 | true =>
  refine ite_tt (test_last (thn (hc pins s3 σ H3 _ I3 q3) fun w' s4 ⟨z', H4, I4, r4, q4⟩ => thn (ho' pins s4 σ H4 y z' u w' _ I4 r2 r4 q4) fun d' s5 ⟨z2, H5, I5, r5, k2, e2, q5⟩ => ?_))
  subst e2
  cases r5
  exact wpAny_truthy_bool ⟨H5, I5, q5⟩
theorem line63 : (sizeLine : Nat) < 2 ^ 63 := by rw [sizeLine_eq]; decide
theorem vals1 {x : V} {us : List Value} (r : Za [x] us) : ∃ u, us = [u] ∧ ZE x u := by
 cases r with
 | cons r1 r2 => cases r2; exact ⟨_, rfl, r1⟩
theorem vals2 {x y : V} {us : List Value} (r : Za [x, y] us) : ∃ u w', us = [u, w'] ∧ ZE x u ∧ ZE y w' := by
 cases r with
 | cons r1 r2 =>
  cases r2 with
  | cons r3 r4 => cases r4; exact ⟨_, _, rfl, r1, r3⟩
theorem call_abs : CallR X (.builtin "abs") (fun xs H Q => ∃ i, xs = [.int i] ∧ Q (.int (if i < 0 then -i else i)) H) := by
 intro pins s σ H xs us Q I r h
 obtain ⟨i, rfl, q⟩ := h
 obtain ⟨u, rfl, t, rfl⟩ := vals1 r
 exact call_abs_int fun u tk => ⟨.int (if i < 0 then -i else i), H, I.tok _, ⟨_, rfl⟩, q⟩
theorem call_max2 (hc : X.calm = true) : CallR X (.builtin "max") (fun xs H Q => ∃ i j, xs = [.int i, .int j] ∧ Q (.int (if j > i then j else i)) H) := by
 intro pins s σ H xs us Q I r h
 obtain ⟨i, j, rfl, q⟩ := h
 obtain ⟨u, w', rfl, ⟨t, rfl⟩, ⟨t', rfl⟩⟩ := vals2 r
 refine max_two_ints (I.ok.hd hc) fun h' tk k => ⟨_, H, I.kept k, ?_, q⟩
 by_cases hj : j > i
 ·rw [if_pos hj, if_pos hj]; exact ⟨_, rfl⟩
 ·rw [if_neg hj, if_neg hj]; exact ⟨_, rfl⟩
theorem call_int1 : CallR X (.type "int") (fun xs H Q => (∃ i, xs = [.int i] ∧ Q (.int i) H) ∨ ∃ k, xs = [.bl k] ∧ Q (.int (if k then 1 else 0)) H) := by
 intro pins s σ H xs us Q I r h
 rcases h with ⟨i, rfl, q⟩ | ⟨k, rfl, q⟩
 ·obtain ⟨u, rfl, t, rfl⟩ := vals1 r
  exact call_int_int ⟨.int i, H, I, ⟨_, rfl⟩, q⟩
 ·obtain ⟨u, rfl, r1⟩ := vals1 r
  cases r1
  exact call_int_bool ⟨.int (if k then 1 else 0), H, I.tok _, ⟨_, rfl⟩, q⟩
theorem call_str_int : CallR X (.type "str") (fun xs H Q => ∃ i, xs = [.int i] ∧ i.natAbs.log2 < 1920 ∧ Q (.str (toString i)) H) := by
 intro pins s σ H xs us Q I r h
 obtain ⟨i, rfl, hz, q⟩ := h
 obtain ⟨u, rfl, t, rfl⟩ := vals1 r
 exact PySem.P.str_of_int hz ⟨.str _, H, I.tok _, ⟨_, rfl⟩, q⟩
end
end L2
namespace L2
open PySem PySem.Spec PyProof.Rows
structure ObjM (h : Heap) (x dx C : Addr) (mA : Str → Option Value) : Prop where
 obj : h.get? x = some (PySem.W.instObj C dx)
 ns : h.Ns1 dx mA
 ne : dx ≠ x
theorem lookIn_ns {h : Heap} {dx : Addr} {mA : Str → Option Value} (n : h.Ns1 dx mA) : ∃ od, h.get? dx = some od ∧ ∀ name, PySem.W.lookIn name od = some (mA name) := by
 obtain ⟨o, es, ep, ho, hd, hk, _, hm⟩ := n
 refine ⟨o, ho, fun name => ?_⟩
 have e := hm name
 unfold nsFind findBy at e
 rw [← Array.find?_toList] at e
 unfold PySem.W.lookIn
 rw [hd]
 dsimp only
 split
 ·rename_i y q
  rw [q] at e
  exact congrArg some e
 ·rename_i q
  rw [q] at e
  have a : es.toList.any (·.refKey) = false := by
   rw [List.any_eq_false]
   intro y hy
   obtain ⟨z, t, hkey⟩ := hk y (Array.mem_toList_iff.mp hy)
   simp [DictEntry.refKey, hkey]
  have a' : ¬ es.toList.any (·.refKey) = true := by rw [a]; exact Bool.false_ne_true
  rw [if_neg a']
  exact congrArg some e
theorem ObjM.look {h : Heap} {x dx C : Addr} {mA : Str → Option Value} (I : ObjM h x dx C mA) : ∃ od, PySem.W.InstAt h x (PySem.W.instObj C dx) C (some od) ∧ ∀ name, PySem.W.lookIn name od = some (mA name) :=
 let ⟨od, ho, hl⟩ := lookIn_ns I.ns
 ⟨od, ⟨I.obj, rfl, rfl, ho⟩, hl⟩
section
variable {prog : Program} {w : World} {A : Around} {E : Value → Shared → Prop} {s : Shared} {K : PySem.W.Frag} {x dx C f : Addr} {mA : Str → Option Value} {name : Str} {v : Value}
end
theorem RelO.some_of {v : V} {o : Option Value} (r : RelO (some v) o) : ∃ u, o = some u ∧ ZE v u := by
 cases o with
 | none => exact (show False from r).elim
 | some u => exact ⟨u, rfl, r⟩
section
variable {P : Program} {w : World} {H H' : Hp} {h h' : Heap} {a C dx : Addr} {fs fs' : List (Str × V)}
end
section
variable {X : Cx} {pins : List (Addr × Obj)} {σ : St} {H : Hp} {s : Shared} {a C dx : Addr} {fs : List (Str × V)} {f : Str} {v : V} {A : Around} {E : Value → Shared → Prop}
end
section
variable {X : Cx} {o e value : Expr} {f : Str} {pos pos' tpos : Pos} {ta tv : TE}
end
section
variable {X : Cx} {pins : List (Addr × Obj)} {σ : St} {H : Hp} {s : Shared} {A : Around} {E : Value → Shared → Prop} {Q : Value → Shared → Prop} {c : Value} {b : Bool}
end
end L2
namespace L2
open PySem PySem.Spec PyProof.Rows
structure Room (k : Nat) (A : Around) : Prop where
 hd : A.handled = none
 dp : A.depth + 3 * k + 5 < recursionLimit
 un : A.units + 16 * k + 200 < cLine
 gd : A.guards = some []
theorem Room.mono {j k : Nat} {A : Around} (r : Room k A) (h : j ≤ k) : Room j A := ⟨r.hd, by have := r.dp; omega, by have := r.un; omega, r.gd⟩
theorem Room.deeper {k : Nat} {A : Around} (r : Room (k + 1) A) (env : Env) : Room k (A.deeper env) :=
 ⟨r.hd, by have := r.dp; show A.depth + 1 + 3 * k + 5 < _; omega, by have := r.un; show A.units + 3 + 16 * k + 200 < _; omega, r.gd⟩
theorem Room.depth {k : Nat} {A : Around} (r : Room k A) : A.depth < recursionLimit := by have := r.dp; omega
theorem Room.units {k : Nat} {A : Around} (r : Room k A) : A.units + 64 < cLine := by have := r.un; omega
def tNil : TA := fun _ H Q => Q [] H
def Zi (ta : TE) (tr : TA) : TA := fun σ H Q => ta σ H fun x H1 => tr σ H1 fun xs H2 => Q (x :: xs) H2
section
variable {X : Cx} {e : Expr} {es : List Expr} {te : TE} {t : TA} {pos : Pos}
theorem Zv : PA X [] tNil := fun _ _ _ _ H Q I h => Calls.spliced_nil ⟨[], H, I, .nil, h⟩
theorem zT (ha : PE X e te) (hr : PA X es t) (hs : starEach (e :: es) X.env = (false, eval e X.env) :: starEach es X.env := by rfl) : PA X (e :: es) (Zi te t) := by
 intro pos pins s σ H Q I h
 rw [hs]
 show wpAny _ _ (spliced ((false, eval e X.env) :: backTo pos (starEach es X.env))) _ _ s
 refine Calls.spliced_cons (thn (ha pins s σ H _ I h) fun u s1 ⟨x, H1, I1, r1, q1⟩ => ?_)
 exact thn (hr pos pins s1 σ H1 _ I1 q1) fun us s2 ⟨xs, H2, I2, r2, q2⟩ => ⟨x :: xs, H2, I2, .cons r1 r2, q2⟩
def tTup (t : TA) : TE := fun σ H Q => t σ H fun xs H1 => xs.length ≤ sizeLine ∧ ∀ p, H1 p = none → Q (.ref p) (upd H1 p (.tup xs))
def tLst (t : TA) : TE := fun σ H Q => t σ H fun xs H1 => xs.length ≤ sizeLine ∧ ∀ p, H1 p = none → Q (.ref p) (upd H1 p (.lst xs))
theorem pe_tup {x1} (h : PA X es t) : PE X (.Tuple es x1 pos) (tTup t) := by
 intro pins s σ H Q I hq
 refine wpAny_Tuple_spliced (thn (h pos pins s σ H _ I hq) fun us s1 ⟨xs, H1, I1, r, z, q⟩ => ⟨by rw [← r.length]; exact z, ?_⟩)
 have hf : H1 s1.heap.objs.size = none := I1.hok.fresh (Nat.le_refl _)
 refine ⟨.ref s1.heap.objs.size, upd H1 s1.heap.objs.size (.tup xs), I1.laid (t' := s1.toks) (fun b u e => Heap.get?_push_of_some _ e) (Nat.le_refl _) ?_, rfl, q _ hf⟩
 exact ⟨z, us, r, ⟨_, Heap.get?_push_size _ rfl, rfl, _, rfl⟩⟩
theorem pe_lst (h : PA X es t) : PE X (.List es pos) (tLst t) := by
 intro pins s σ H Q I hq
 refine wpAny_List_spliced (thn (h pos pins s σ H _ I hq) fun us s1 ⟨xs, H1, I1, r, z, q⟩ => ⟨by rw [← r.length]; exact z, ?_⟩)
 have hf : H1 s1.heap.objs.size = none := I1.hok.fresh (Nat.le_refl _)
 refine ⟨.ref s1.heap.objs.size, upd H1 s1.heap.objs.size (.lst xs), I1.laid (t' := s1.toks) (fun b u e => Heap.get?_push_of_some _ e) (Nat.le_refl _) ?_, rfl, q _ hf⟩
 exact ⟨z, us, 0, r, Heap.get?_push_size _ rfl⟩
end
abbrev Sp := List V → Hp → VK → XK → Prop
abbrev CXT := List Env → Hp → Shared → XK → Value → Shared → Prop
structure Env0 (P : Program) (w : World) (K : PySem.W.Frag) (mg : Str → Option Value) (base : Heap) (A : Around) (outer : List Env) (s : Shared) (H : Hp) : Prop where
 frames : A.frames = some outer
 mod : Mod K mg base
 bs : ∀ b o, base.get? b = some o → s.heap.get? b = some o ∧ H b = none
 bsz : base.objs.size ≤ s.heap.objs.size
 funs : s.heap.FunFrames base outer
 frf : ∀ b ∈ frs outer, H b = none
 hok : HOk P w H s.heap
 bare : AllBare s.gens
 tree : P.given.tree = none
def CE (outer : List Env) (P : Program) (w : World) (H : Hp) (s : Shared) (Q : VK) (u : Value) (s' : Shared) : Prop :=
 ∃ v H', s'.os = s.os ∧ AllBare s'.gens ∧ Un (frs outer) [] H H' s.heap s'.heap ∧ HOk P w H' s'.heap ∧ ZE v u ∧ Q v H'
def CR (CX : CXT) (outer : List Env) (P : Program) (w : World) (H : Hp) (s : Shared) (Q : VK) (E : XK) (r : Result) (s' : Shared) : Prop :=
 match r with
 | .ok (.ret u) => CE outer P w H s Q u s'
 | .ok _ => False
 | .error e => CX outer H s E e s'
structure FnOk (P : Program) (w : World) (K : PySem.W.Frag) (mg : Str → Option Value) (base : Heap) (CX : CXT) (k : Nat) (f : Addr) (fd : FuncData) (ps : List Str) (sp : Sp) : Prop where
 len : ∀ vs H Q E, sp vs H Q E → vs.length = ps.length
 run : ∀ (A : Around) (outer : List Env) (s : Shared) (H : Hp) (args : Args) (us : List Value) (vs : List V) (Q : VK) (E : XK), Room k A → Env0 P w K mg base A outer s H → BindsTo s fd args (ps.zip us) → Za vs us → sp vs H Q E →
  codeAny (model P w) A (.call (.ref f) args) (CR CX outer P w H s Q E) s
section
variable {X : Cx} {pins : List (Addr × Obj)} {σ : St} {H : Hp} {s s' : Shared}
theorem Inv.env0 (I : Inv X pins σ H s) : Env0 X.prog X.w X.K X.mg X.base X.A X.stack s H :=
 ⟨I.ok.frames, I.ok.mod, I.bs, Nat.le_trans I.ok.bsz I.sz, I.stack, I.stkFree, I.hok, I.bare, I.ok.tree⟩
theorem Inv.after {Q : VK} {u : Value} (I : Inv X pins σ H s) (h : CE X.stack X.prog X.w H s Q u s') : EP X pins σ Q u s' := by
 obtain ⟨v, H', os, bare, un, hok, r, q⟩ := h
 obtain ⟨hh, g, d, t, os'⟩ := s'
 obtain rfl : os' = s.os := os
 exact ⟨v, H', I.call (h' := hh) (g' := g) (d' := d) (t' := t) (ch := []) un hok bare (fun b z => absurd z (by simp)), r, q⟩
end
def tCall (sp : Sp) (dvs : List V) (E : XK) (t : TA) : TE := fun σ H Q => t σ H fun vs H1 => sp (vs ++ dvs) H1 Q E
def Binds (K : PySem.W.Frag) (fd : FuncData) (ps : List Str) (ds : List Value) : Prop :=
 ∀ (s : Shared) (us : List Value), K.In s.heap → (us ++ ds).length = ps.length → BindsTo s fd ⟨us, []⟩ (ps.zip (us ++ ds))
theorem Binds.all {K : PySem.W.Frag} {fd : FuncData} {ps : List Str} (h : ∀ us : List Value, us.length = ps.length → bindArgs fd ⟨us, []⟩ = pure (ps.zip us)) : Binds K fd ps [] := fun s us _ hl => by
 rw [List.append_nil] at hl ⊢
 exact .of_eq (h us hl)
def Passes (CX : CXT) (X : Cx) (E : XK) : Prop := ∀ (pins : List (Addr × Obj)) (σ : St) (H : Hp) (s : Shared) (e : Value) (s' : Shared), Inv X pins σ H s → CX X.stack H s E e s' → X.xe e s'
section
variable {X : Cx} {CX : CXT} {k : Nat} {f C : Addr} {fd : FuncData} {ps : List Str} {sp : Sp} {dvs : List V} {ds : List Value} {E : XK} {x m : Str} {p pos apos : Pos} {e o : Expr} {es : List Expr} {ta : TE} {t : TA}
theorem run_fn {pins : List (Addr × Obj)} {σ : St} {H : Hp} {s : Shared} {Q : VK} {us : List Value} {vs : List V} (F : FnOk X.prog X.w X.K X.mg X.base CX k f fd ps sp) (hr : Room k X.A) (hb : Binds X.K fd ps ds) (hd : Za dvs ds) (hx : Passes CX X E)
  (I : Inv X pins σ H s) (r : Za vs us) (h : sp (vs ++ dvs) H Q E) : wpAny (model X.prog X.w) X.A (call (.ref f) us) (EP X pins σ Q) X.xe s := by
 have r2 : Za (vs ++ dvs) (us ++ ds) := r.append hd
 have hl : (us ++ ds).length = ps.length := by rw [← r2.length]; exact F.len _ _ _ _ h
 refine wpAny_call (codeAny_mono (F.run X.A X.stack s H ⟨us, []⟩ (us ++ ds) (vs ++ dvs) Q E hr I.env0 (hb s us I.kIn hl) r2 h) fun r s' hq => ?_)
 cases r with
 | error e => exact hx pins σ H s e s' I hq
 | ok fl =>
  cases fl with
  | ret u => exact I.after hq
  | next => exact False.elim hq
  | brk => exact False.elim hq
  | cont => exact False.elim hq
theorem pe_call (F : FnOk X.prog X.w X.K X.mg X.base CX k f fd ps sp) (hr : Room k X.A) (hg : Gl X x) (hm : X.mg x = some (.ref f)) (hk : keepIn X.K (.ref f) = true) (hb : Binds X.K fd ps ds) (hd : Za dvs ds) (hx : Passes CX X E)
  (ha : PA X (e :: es) t) (hdb : (x == ("__debug__" : Str)) = false := by decide) (he : starEach (e :: es) X.env = (false, eval e X.env) :: starEach es X.env := by rfl) (hpl : (backTo pos (starEach es X.env)).any (·.1) = false := by rfl) :
  PE X (.Call (.Name x p) (e :: es) [] pos) (tCall sp dvs E t) := by
 intro pins s σ H Q I h
 refine wpAny_Call_Name_kw (ld_glob I hg hm ?_ hdb)
 refine PySem.W.callWith_K (h₀ := X.base) I.ok.mod.kin hk (thn (ha pos pins s σ H _ I h) fun us s1 ⟨vs, H1, I1, r, q⟩ => ⟨I1.kIn, ?_⟩) he hpl
 exact run_fn F hr hb hd hx I1 r q
end
section
variable {X : Cx} {CX : CXT} {k : Nat} {f C : Addr} {fd : FuncData} {ps ks : List Str} {sp : Sp} {E : XK} {x m : Str} {p pos apos kpos : Pos} {e o : Expr} {es : List Expr} {kws : List Keyword} {te ta : TE} {t tk : TA} {nm : Option Str}
variable {g : List Value → List Value → List Value} {gV : List V → List V → List V}
end
structure FnScope (N P : List Str) (sc : Scope) : Prop where
 kind : sc.kind = .function
 co : sc.isCoroutine = false
 gen : sc.isGenerator = false
 nd : N.Nodup
 pre : N.take P.length = P
 par : ∀ x ∈ P, sc.names.lookup x = some .local ∨ sc.names.lookup x = some .cell
 nofree : ∀ y ∈ sc.names, y.2 ≠ .free
theorem bindL_out {kindOf : Str → Option NameKind} {x : Str} : ∀ {binds : List (Str × Value)} {m : Str → Option Value}, (∀ v, (x, v) ∉ binds) → bindL kindOf binds m x = m x
 | [], _, _ => rfl
 | (n, v) :: r, m, h => by
  unfold bindL
  rw [bindL_out fun w hw => h w (List.mem_cons_of_mem _ hw)]
  split
  ·have : x ≠ n := by rintro rfl; exact h v List.mem_cons_self
   simp [this]
  ·rfl
theorem bindC_out {kindOf : Str → Option NameKind} {x : Str} : ∀ {binds : List (Str × Value)} {m : Str → Option Value}, (∀ v, (x, v) ∉ binds) → bindC kindOf binds m x = m x
 | [], _, _ => rfl
 | (n, v) :: r, m, h => by
  unfold bindC
  rw [bindC_out fun w hw => h w (List.mem_cons_of_mem _ hw)]
  split
  ·rfl
  ·have : x ≠ n := by rintro rfl; exact h v List.mem_cons_self
   simp [this]
theorem bindL_get {kindOf : Str → Option NameKind} {x : Str} {v : Value} : ∀ {P : List Str} {vs : List Value} {i : Nat} {m : Str → Option Value}, P.Nodup → P[i]? = some x → vs[i]? = some v → kindOf x = some .local →
  bindL kindOf (P.zip vs) m x = some v
 | [], _, _, _, _, h, _, _ => by simp at h
 | _ :: _, [], _, _, _, _, h, _ => by simp at h
 | p :: P, w :: vs, 0, m, nd, h1, h2, hk => by
  simp at h1 h2; subst h1; subst h2
  show bindL kindOf ((p, w) :: P.zip vs) m p = _
  unfold bindL
  rw [bindL_out fun v hv => (List.nodup_cons.mp nd).1 (List.of_mem_zip hv).1, if_pos hk]
  simp
 | p :: P, w :: vs, i + 1, m, nd, h1, h2, hk => by
  show bindL kindOf ((p, w) :: P.zip vs) m x = _
  unfold bindL
  exact bindL_get (i := i) (List.nodup_cons.mp nd).2 (by simpa using h1) (by simpa using h2) hk
theorem bindC_get {kindOf : Str → Option NameKind} {x : Str} {v : Value} : ∀ {P : List Str} {vs : List Value} {i : Nat} {m : Str → Option Value}, P.Nodup → P[i]? = some x → vs[i]? = some v → kindOf x ≠ some .local →
  bindC kindOf (P.zip vs) m x = some v
 | [], _, _, _, _, h, _, _ => by simp at h
 | _ :: _, [], _, _, _, _, h, _ => by simp at h
 | p :: P, w :: vs, 0, m, nd, h1, h2, hk => by
  simp at h1 h2; subst h1; subst h2
  show bindC kindOf ((p, w) :: P.zip vs) m p = _
  unfold bindC
  rw [bindC_out fun v hv => (List.nodup_cons.mp nd).1 (List.of_mem_zip hv).1, if_neg hk]
  simp
 | p :: P, w :: vs, i + 1, m, nd, h1, h2, hk => by
  show bindC kindOf ((p, w) :: P.zip vs) m x = _
  unfold bindC
  exact bindC_get (i := i) (List.nodup_cons.mp nd).2 (by simpa using h1) (by simpa using h2) hk
def start (N : List Str) (vs : List V) : St := vs.map some ++ List.replicate (N.length - vs.length) none
def cxOf (CX : CXT) (P : Program) (w : World) (K : PySem.W.Frag) (mg : Str → Option Value) (base : Heap) (N : List Str) (qual : Str) (scope : Scope) (f : Addr) (cd : Value) (A : Around) (outer : List Env) (s : Shared) (H : Hp) (E : XK) : Cx where
 prog := P
 w := w
 K := K
 mg := mg
 base := base
 A := A.deeper (envOfC qual scope s.heap.objs.size f cd)
 N := N
 s₀ := s
 H₀ := H
 env := envOfC qual scope s.heap.objs.size f cd
 outer := outer
 stack := envOfC qual scope s.heap.objs.size f cd :: outer
 ex := []
 calm := true
 fn := fun _ => true
 pn := []
 xe := fun e s' => wpAny (model P w) (A.deeper (envOfC qual scope s.heap.objs.size f cd)) (leaving (envOfC qual scope s.heap.objs.size f cd) e) (fun _ s'' => CX outer H s E e s'') (fun e' s'' => CX outer H s E e' s'') s'
theorem cell_has {sc : Scope} {n : Nat} {x : Str} (h : sc.names.lookup x = some .cell) : ∃ c, (cellsFrom n sc.names []).lookup x = some c := by
 have q := PySem.W.cellsFrom_some sc.names n [] (.inl h)
 exact Option.isSome_iff_exists.mp q
theorem inv_start {CX : CXT} {P : Program} {w : World} {K : PySem.W.Frag} {mg : Str → Option Value} {base : Heap} {N ps : List Str} {qual : Str} {scope : Scope} {f : Addr} {cd : Value} {A : Around} {outer : List Env} {s s1 : Shared} {H : Hp} {E : XK} {us : List Value} {vs : List V}
  (S : FnScope N ps scope) (hd : A.handled = none) (e0 : Env0 P w K mg base A outer s H) (hl : vs.length = ps.length) (r : Za vs us)
  (x : InCallC s s.heap.objs.size (bindL (envOfC qual scope s.heap.objs.size f cd).kindOf (ps.zip us) fun _ => none) (cellsFrom (s.heap.objs.size + 1) scope.names []) (bindC (envOfC qual scope s.heap.objs.size f cd).kindOf (ps.zip us) fun _ => none) s1) :
  Inv (cxOf CX P w K mg base N qual scope f cd A outer s H E) [] (start N vs) H s1 := by
 have hpl : ps.length ≤ N.length := by have := congrArg List.length S.pre; rw [List.length_take] at this; omega
 obtain ⟨h1, tk, rfl, hk⟩ := x.done
 have noA : ∀ b : Addr, b ∉ (cxOf CX P w K mg base N qual scope f cd A outer s H E).ex := fun b z => absurd (show b ∈ ([] : List Addr) from z) (by simp)
 refine ⟨⟨e0.mod, S.kind, rfl, rfl, Nat.le_refl _, fun y z c h1 h2 => ?_, fun y hy => ?_, fun y c _ h => ?_, fun _ => hd, Around.frames_deeper e0.frames, .inr ⟨rfl, rfl⟩, fun b z => absurd z (noA b), e0.bs, e0.bsz, fun b _ _ => noA b, fun b z => absurd z (noA b), e0.funs, e0.frf, ⟨_, _, rfl, S.gen, S.co, rfl, rfl⟩, e0.tree⟩,
  rfl, e0.bare, Un.kept hk, ⟨_, x.toInCall.ns, fun i y v h1 h2 h3 => ?_⟩, fun y c h => ⟨_, x.cell y c h⟩, e0.hok.fresh (Nat.le_refl _), fun y c h => ?_, fun p hp => absurd (show p ∈ ([] : List (Addr × Obj)) from hp) (by simp), e0.hok.kept hk, ?_⟩
 ·exact name_of_addr x.apart (PySem.mem_of_lookup h1) (PySem.mem_of_lookup h2)
 ·have hy : scope.names.lookup y = some .cell ∨ scope.names.lookup y = some .free := hy
  rcases hy with hy | hy
  ·exact cell_has hy
  ·exact absurd rfl (S.nofree _ (PySem.mem_of_lookup hy))
 ·exact Nat.le_of_lt (x.above y c (PySem.mem_of_lookup h))
 ·have hi : i < vs.length := by
   unfold start at h2
   by_cases hi : i < vs.length
   ·exact hi
   ·rw [List.getElem?_append_right (by simpa using hi)] at h2
    rw [List.getElem?_replicate] at h2
    split at h2 <;> cases h2
  have ha : vs[i]? = some v := by
   unfold start at h2
   rw [List.getElem?_append_left (by simpa using hi), List.getElem?_map] at h2
   cases e : vs[i]? with
   | none => rw [e] at h2; cases h2
   | some a => rw [e] at h2; cases h2; rfl
  obtain ⟨u, hu, rv⟩ := r.get ha
  have hp : ps[i]? = some y := by
   rw [← S.pre, List.getElem?_take_of_lt (by omega)]; exact h1
  have ndP : ps.Nodup := by rw [← S.pre]; exact S.nd.sublist (List.take_sublist _ _)
  refine ⟨u, rv, ?_⟩
  rcases S.par y (List.mem_of_getElem? hp) with k | k
  ·exact .inl ⟨k, bindL_get ndP hp hu k⟩
  ·obtain ⟨c, e⟩ := cell_has (n := s.heap.objs.size + 1) k
   refine .inr ⟨.inl k, c, e, ?_⟩
   have q := x.cell y c e
   rw [bindC_get ndP hp hu (by show scope.names.lookup y ≠ _; rw [k]; decide)] at q
   exact q
 ·exact e0.hok.fresh (Nat.le_of_lt (x.above y c (PySem.mem_of_lookup h)))
 ·unfold start
  show _ = N.length
  rw [List.length_append, List.length_map, List.length_replicate]
  omega
theorem fn_of {CX : CXT} {P : Program} {w : World} {K : PySem.W.Frag} {mg : Str → Option Value} {base : Heap} {k : Nat} {f : Addr} {name qual : Str} {params : Arguments} {body : List Stmt} {scope : Scope} {dV kV doc pm cdv ct oc : Value} {an od : Option Addr}
  {osl : Array (Option Value)} {N ps : List Str} {sp : Sp} (lk : K.lookup f = some ⟨oc, od, .func (fnOf name qual params body scope dV kV doc pm an cdv ct), osl⟩) (hcd : codeIn K cdv qual = true) (S : FnScope N ps scope)
  (len : ∀ vs H Q E, sp vs H Q E → vs.length = ps.length)
  (hbody : ∀ (A : Around) (outer : List Env) (s : Shared) (H : Hp) (vs : List V) (Q : VK) (E : XK), Room k (A.deeper (envOfC qual scope s.heap.objs.size f cdv)) → sp vs H Q E →
   ∃ t, PSs (cxOf CX P w K mg base N qual scope f cdv A outer s H E) body t ∧ t { nx := fun _ H' => Q .non H', rt := Q } (start N vs) H) :
  FnOk P w K mg base CX (k + 1) f (fnOf name qual params body scope dV kV doc pm an cdv ct) ps sp := by
 refine ⟨len, fun A outer s H args us vs Q E hr e0 hb r hsp => ?_⟩
 have hl := len _ _ _ _ hsp
 have KX : K.In s.heap := e0.mod.kin.keeps fun b o e => (e0.bs b o e).1
 have lim : s.heap.NoLimit := e0.mod.nolimit.keeps fun b o e => (e0.bs b o e).1
 have hkind : ∀ y ∈ ps.zip us, scope.names.lookup y.1 = some .local ∨ (scope.names.lookup y.1 = some .cell ∧ ((cellsFrom (s.heap.objs.size + 1) scope.names []).lookup y.1).isSome = true) := fun ⟨n, v⟩ hy => by
  rcases S.par n (List.of_mem_zip hy).1 with q | q
  ·exact .inl q
  ·exact .inr ⟨q, PySem.W.cellsFrom_some _ _ _ (.inl q)⟩
 refine codeAny_call_function hr.depth (KX _ _ lk) rfl S.co S.gen rfl (PySem.W.codeRec_of KX hcd) (hb _ _ _ _ ?_)
 refine wpAny_newFunctionEnv_cells S.kind hkind fun env he s1 x => ?_
 subst he
 refine ⟨lim.keeps x.toInCall.keep, codeAny_func ?_⟩
 obtain ⟨t, ht, hq⟩ := hbody A outer s H vs Q E (hr.deeper _) hsp
 have I : Inv (cxOf CX P w K mg base N qual scope f cdv A outer s H E) [] (start N vs) H s1 := inv_start S hr.hd e0 hl r x
 refine wpAny_mono (ht [] s1 (start N vs) H _ I hq) (fun fl s' hs => ?_) fun e s' hs => hs
 have fin : ∀ {σ' : St} {H' : Hp} {v : V} {u : Value}, Inv (cxOf CX P w K mg base N qual scope f cdv A outer s H E) [] σ' H' s' → ZE v u → Q v H' → CE outer P w H s Q u s' :=
  fun {σ' H' v u} J rv q => ⟨v, H', J.os, J.bare, J.base, J.hok, rv, q⟩
 cases fl with
 | ret u =>
  obtain ⟨v, σ', H', J, rv, q⟩ := hs
  exact fin J rv q
 | next =>
  obtain ⟨σ', H', J, q⟩ := hs
  exact fin (v := V.non) (u := Value.none) J rfl q
 | brk =>
  obtain ⟨_, _, _, q⟩ := hs
  exact False.elim q
 | cont =>
  obtain ⟨_, _, _, q⟩ := hs
  exact False.elim q
end L2
namespace L2
open PySem PySem.Spec PyProof.Rows
section
variable {X : Cx} {x : Str} {p pos : Pos} {e : Expr} {es : List Expr} {t : TA} {id T : String} {r : List V → Hp → VK → Prop}
def tCB (r : List V → Hp → VK → Prop) (t : TA) : TE := fun σ H Q => t σ H fun vs H1 => r vs H1 Q
theorem pe_callB (hc : CallR X (.builtin id) r) (hg : Gl X x) (hm : X.mg x = none) (hv : bootBuiltins x = some (.builtin id)) (ha : PA X (e :: es) t) (hn : x ≠ "__name__" := by decide) (hdb : (x == ("__debug__" : Str)) = false := by decide)
  (he : starEach (e :: es) X.env = (false, eval e X.env) :: starEach es X.env := by rfl) (hpl : (backTo pos (starEach es X.env)).any (·.1) = false := by rfl) : PE X (.Call (.Name x p) (e :: es) [] pos) (tCB r t) := by
 intro pins s σ H Q I h
 refine wpAny_Call_Name_kw (ld_blt I hg hm hv ?_ hn hdb)
 exact PyProof.Rows.callWith_builtin1 (thn (ha pos pins s σ H _ I h) fun us s1 ⟨vs, H1, I1, r1, q1⟩ => hc pins s1 σ H1 vs us Q I1 r1 q1) he hpl
theorem pe_callTy (hc : CallR X (.type T) r) (hg : Gl X x) (hm : X.mg x = none) (hv : bootBuiltins x = some (.type T)) (ha : PA X (e :: es) t) (hn : x ≠ "__name__" := by decide) (hdb : (x == ("__debug__" : Str)) = false := by decide)
  (he : starEach (e :: es) X.env = (false, eval e X.env) :: starEach es X.env := by rfl) (hpl : (backTo pos (starEach es X.env)).any (·.1) = false := by rfl) : PE X (.Call (.Name x p) (e :: es) [] pos) (tCB r t) := by
 intro pins s σ H Q I h
 refine wpAny_Call_Name_kw (ld_blt I hg hm hv ?_ hn hdb)
 exact PyProof.Rows.callWith_type1 (thn (ha pos pins s σ H _ I h) fun us s1 ⟨vs, H1, I1, r1, q1⟩ => hc pins s1 σ H1 vs us Q I1 r1 q1) he hpl
end
end L2
namespace HT
open PySem PyProof.Rows
section
open PySem.SeqAt
open PySem.AutoSeq1 (wpAny_loadPart')
open PySem.MeetsSeq PySem.MeetsSeq2 PySem.MeetsSeq3
end
section
variable {prog : Program} {w : World} {A : Around} {E : Value → Shared → Prop} {s : Shared}
theorem cat_tup {t b : Addr} {vs ws : List Value} {Q : Value → Shared → Prop} (ht : IsTup s.heap t vs.toArray) (hb : IsTup s.heap b ws.toArray) (hv : vs ≠ [])
  (h1 : ws = [] → Q (.ref t) s) (h2 : ws ≠ [] → Q (.ref s.heap.objs.size) { s with heap := s.heap.push { cls := .type "tuple", data := .seq (vs ++ ws).toArray } })
  (hsz : vs.length + ws.length ≤ sizeLine) : wpAny (model prog w) A (binaryOp .Add (.ref t) (.ref b)) Q E s := by
 obtain ⟨⟨cls, dd, data, sl⟩, ho, hc, n, hd⟩ := id ht
 obtain ⟨⟨cls2, dd2, data2, sl2⟩, ho2, hc2, n2, hd2⟩ := id hb
 simp only at hc hd hc2 hd2
 subst hc hd hc2 hd2
 have e : vs.toArray ++ ws.toArray = (vs ++ ws).toArray := by simp
 by_cases hw : ws = []
 ·exact concat_meets ⟨_, ho, rfl⟩ ⟨_, ho2, rfl⟩ noFill_tuple_add seq_tuple_add PySem.F.slot_tuple_add PySem.F.entry_tuple_add (PySem.F.args_tuple_add_2 _ _)
   (tuple_addW1 t b vs.toArray ws.toArray n n2 dd dd2 sl sl2 (by simpa using hv) (by simp [hw])) ⟨ho, ho2, h1 hw⟩
 ·refine concat_meets ⟨_, ho, rfl⟩ ⟨_, ho2, rfl⟩ noFill_tuple_add seq_tuple_add PySem.F.slot_tuple_add PySem.F.entry_tuple_add (PySem.F.args_tuple_add_2 _ _)
   (tuple_addW2 t b vs.toArray ws.toArray n n2 dd dd2 sl sl2 (by simpa using hv) (by simpa using hw) (by rw [List.size_toArray, List.size_toArray]; exact hsz)) ⟨ho, ho2, ?_⟩
  rw [e]
  exact h2 hw
def sIx (n d : Nat) : Option Int → Nat
 | none => d
 | some v => if v < 0 then (v + (n : Int)).toNat else min v.toNat n
theorem sIx_none (n d : Nat) : sIx n d none = d := rfl
theorem sIx_nat (n d k : Nat) : sIx n d (some (k : Int)) = min k n := by
 show (if (k : Int) < 0 then ((k : Int) + (n : Int)).toNat else min (k : Int).toNat n) = min k n
 rw [if_neg (by omega), Int.toNat_natCast]
theorem sIx_le (n d : Nat) (hd : d ≤ n) (o : Option Int) : sIx n d o ≤ n := by
 cases o with
 | none => exact hd
 | some v =>
  show (if v < 0 then (v + (n : Int)).toNat else min v.toNat n) ≤ n
  by_cases hv : v < 0
  ·rw [if_pos hv]; omega
  ·rw [if_neg hv]; exact Nat.min_le_right _ _
theorem clip_eq (v : Int) (n d : Nat) : (if v < 0 then max (v + (n : Int)) 0 else min v (n : Int)) = ((sIx n d (some v) : Nat) : Int) := by
 show (if v < 0 then max (v + (n : Int)) 0 else min v (n : Int)) = (((if v < 0 then (v + (n : Int)).toNat else min v.toNat n) : Nat) : Int)
 by_cases hv : v < 0
 ·simp only [if_pos hv]; omega
 ·simp only [if_neg hv]; omega
theorem adjust_gen (lo hi : Option Int) (n : Nat) : Builtin.Slice.sliceAdjust lo hi 1 (n : Int) = (((sIx n 0 lo : Nat) : Int), ((sIx n n hi : Nat) : Int)) := by
 have h1 : ¬ ((1 : Int) < 0) := by omega
 unfold Builtin.Slice.sliceAdjust
 simp only [h1, if_false]
 refine Prod.ext ?_ ?_
 ·cases lo with
  | none => rfl
  | some v => exact clip_eq v n 0
 ·cases hi with
  | none => rfl
  | some v => exact clip_eq v n n
theorem places_gen (i j : Nat) : Builtin.Slice.slicePlaces (i : Int) (j : Int) 1 = j - i := by
 unfold Builtin.Slice.slicePlaces
 have h1 : (1 : Int) > 0 := by omega
 simp only [h1, if_true, Int.ediv_one]
 split <;> omega
theorem slicePart_ {v : Value} {o : Option Int} {Q : Option Int → Shared → Prop} (p : IsPart v o) (h : Q o s) : wpAny (model prog w) A (Builtin.Slice.slicePartIndex v) Q E s := by
 cases p with
 | none => exact slicePart_none h
 | int i t => exact slicePart_int h
theorem sliceApplied_gen {sl : Addr} {vl vu : Value} {lo hi : Option Int} {n : Nat} {Q : Int × Int × Nat → Shared → Prop} (hs : s.heap.IsSliceOf sl vl vu .none) (pl : IsPart vl lo) (pu : IsPart vu hi)
  (h : Q (((sIx n 0 lo : Nat) : Int), 1, sIx n n hi - sIx n 0 lo) s) : wpAny (model prog w) A (Builtin.Slice.sliceApplied (.ref sl) (pure (n : Int))) Q E s := by
 obtain ⟨os, hos, hcs, hds⟩ := id hs
 unfold Builtin.Slice.sliceApplied Builtin.Slice.sliceFields
 refine wpAny_bind (wpAny_bind (wpAny_field hos hds (x := vl) rfl (wpAny_bind (wpAny_field hos hds (x := vu) rfl (wpAny_bind (wpAny_field hos hds (x := .none) rfl (wpAny_pure ?_)))))))
 refine wpAny_bind (slicePart_none ?_)
 show wpAny _ _ (if ((1 : Int) == 0) = true then _ else _) _ _ s
 rw [if_neg (by decide)]
 refine wpAny_bind (slicePart_ pl (wpAny_bind (slicePart_ pu (wpAny_bind (wpAny_pure ?_)))))
 show wpAny _ _ (match Builtin.Slice.sliceAdjust lo hi 1 (n : Int) with | (lo, hi) => pure (lo, (1 : Int), Builtin.Slice.slicePlaces lo hi 1)) _ _ s
 rw [adjust_gen lo hi n]
 show wpAny _ _ (pure (((sIx n 0 lo : Nat) : Int), (1 : Int), Builtin.Slice.slicePlaces ((sIx n 0 lo : Nat) : Int) ((sIx n n hi : Nat) : Int) 1)) _ _ s
 rw [places_gen]
 exact wpAny_pure h
theorem pick_gen (xs : Array Value) (i k : Nat) : ((List.range k).filterMap fun (m : Nat) => xs[((i : Int) + (m : Int) * 1).toNat]?).toArray = ((xs.toList.drop i).take k).toArray := by
 have e : (fun (m : Nat) => xs[((i : Int) + (m : Int) * 1).toNat]?) = fun m => xs[i + m]? := by
  funext m
  have : ((i : Int) + (m : Int) * 1).toNat = i + m := by omega
  rw [this]
 rw [e]
 have := pick_run xs i k
 rw [List.filterMap_map] at this
 have e2 : ((fun x => xs[x]?) ∘ fun x => i + x) = fun m => xs[i + m]? := rfl
 rw [e2] at this
 rw [this]
theorem getItem_tuple_cut {t sl : Addr} {items : Array Value} {vl vu : Value} {lo hi : Option Int} {Q : Value → Shared → Prop} (ht : IsTup s.heap t items) (hs : s.heap.IsSliceOf sl vl vu .none) (pl : IsPart vl lo) (pu : IsPart vu hi)
  (hw : ¬ (sIx items.size 0 lo = 0 ∧ sIx items.size items.size hi = items.size))
  (h : Q (.ref s.heap.objs.size) { s with heap := s.heap.push { cls := .type "tuple", data := .seq ((items.toList.drop (sIx items.size 0 lo)).take (sIx items.size items.size hi - sIx items.size 0 lo)).toArray } })
  (hsz : items.size ≤ sizeLine) : wpAny (model prog w) A (getItem (.ref t) (.ref sl)) Q E s := by
 have htake : sizeOk (.seq ((items.toList.drop (sIx items.size 0 lo)).take (sIx items.size items.size hi - sIx items.size 0 lo)).toArray) := by
  show ((items.toList.drop (sIx items.size 0 lo)).take (sIx items.size items.size hi - sIx items.size 0 lo)).toArray.size ≤ sizeLine
  rw [List.size_toArray, List.length_take, List.length_drop, Array.length_toList]
  omega
 have hj : sIx items.size items.size hi ≤ items.size := sIx_le _ _ (Nat.le_refl _) hi
 obtain ⟨os, hos, hcs, hds⟩ := id hs
 have hTs : s.TypeIs (.ref sl) "slice" := ⟨os, hos, hcs⟩
 unfold getItem
 try with_reducible refine wpAny_holding ?_
 first | refine wpAny_bind (wpAny_pure ?_) | skip
 refine wpAny_bind (wpAny_sequenceKey ht.typeIs (by decide) ?_)
 refine wpAny_bind (wpAny_callSpecial?_slot (name := Str.ofString "__getitem__") ht.typeIs PyProof.Rows.slot_tuple_getitem
  (wpAny_call_entry PyProof.Rows.slot_tuple_getitem ht.typeIs entry_tuple_getitem ?_ (args_tuple_getitem _ _)))
 show wpAny _ _ (Builtin.Tuple.tupleItemsOf (.ref t) >>= _) _ _ s
 refine wpAny_bind (tupleItemsOf_ ht ?_)
 refine wpAny_bind (wpAny_typeOf hTs ?_)
 rw [if_pos (by decide)]
 refine wpAny_bind (sliceApplied_gen hs pl pu ?_)
 have hno : ¬ ((((sIx items.size 0 lo : Nat) : Int) == 0 && (1 : Int) == 1 && (sIx items.size items.size hi - sIx items.size 0 lo) == items.size) = true) := by
  intro q
  rw [Bool.and_eq_true, Bool.and_eq_true] at q
  have q1 : ((sIx items.size 0 lo : Nat) : Int) = 0 := eq_of_beq q.1.1
  have q2 : sIx items.size items.size hi - sIx items.size 0 lo = items.size := eq_of_beq q.2
  exact hw ⟨by omega, by omega⟩
 show wpAny _ _ (if (((sIx items.size 0 lo : Nat) : Int) == 0 && (1 : Int) == 1 && (sIx items.size items.size hi - sIx items.size 0 lo) == items.size) = true then _ else _) _ _ s
 rw [if_neg hno, pick_gen]
 first
  | exact wpAny_bind (m := Builtin.Tuple.tupleExact _) (wpAny_newObj_type (wpAny_pure ⟨_, rfl, wpAny_pure h⟩) htake)
  | exact wpAny_bind (m := Builtin.Tuple.tupleExact _) (wpAny_newObj_type (wpAny_bind (wpAny_pure (wpAny_pure ⟨_, rfl, wpAny_pure h⟩))) htake)
  | exact wpAny_bind (wpAny_bind (m := Builtin.Tuple.tupleExact _) (wpAny_newObj_type (wpAny_pure (wpAny_pure ⟨_, rfl, wpAny_pure h⟩)) htake))
  | exact wpAny_bind (wpAny_bind (m := Builtin.Tuple.tupleExact _) (wpAny_newObj_type (wpAny_pure ⟨_, rfl, wpAny_pure h⟩) htake))
end
end HT
namespace L2
open PySem PySem.Spec PyProof.Rows
abbrev TO := St → Hp → (Option Int → Hp → Prop) → Prop
def PO (X : Cx) (e : Option Expr) (t : TO) : Prop :=
 ∀ (pins : List (Addr × Obj)) (s : Shared) (σ : St) (H : Hp) (Q : Option Int → Hp → Prop), Inv X pins σ H s → t σ H Q →
  wpAny (model X.prog X.w) X.A (evalPart e X.env) (fun u s' => ∃ o H', Inv X pins σ H' s' ∧ IsPart u o ∧ Q o H') X.xe s
def tNoPart : TO := fun _ H Q => Q none H
def tPart (t : TE) : TO := fun σ H Q => t σ H fun x H1 => ∃ i, x = .int i ∧ Q (some i) H1
section
variable {X : Cx} {e : Expr} {te : TE} {lo hi : Option Expr} {tl th : TO} {pos p2 : Pos}
theorem po_none : PO X none tNoPart := by
 intro pins s σ H Q I h
 rw [evalPart_none]
 exact wpAny_pure ⟨none, H, I, .none, h⟩
theorem po_some (h : PE X e te) : PO X (some e) (tPart te) := by
 intro pins s σ H Q I hw
 rw [evalPart_some]
 refine thn (h pins s σ H _ I hw) fun u s1 ⟨x, H1, I1, r1, q1⟩ => ?_
 obtain ⟨i, rfl, q⟩ := q1
 obtain ⟨t, rfl⟩ := r1
 exact ⟨some i, H1, I1, .int i t, q⟩
def SlR (X : Cx) (r : V → Option Int → Option Int → Hp → VK → Prop) : Prop :=
 ∀ (pins : List (Addr × Obj)) (s : Shared) (σ : St) (H : Hp) (x : V) (v vl vu : Value) (lo hi : Option Int) (sl : Addr) (Q : VK), Inv X pins σ H s → ZE x v → s.heap.IsSliceOf sl vl vu .none → IsPart vl lo → IsPart vu hi → r x lo hi H Q →
  ∃ T id, typeLookup (.type T) "__getitem__" = pure (some (.builtin id)) ∧ s.TypeIs v T ∧ wpAny (model X.prog X.w) X.A (getItem v (.ref sl)) (EP X pins σ Q) X.xe s
def tSl (r : V → Option Int → Option Int → Hp → VK → Prop) (te : TE) (tl th : TO) : TE := fun σ H Q => te σ H fun x H1 => tl σ H1 fun l H2 => th σ H2 fun u H3 => r x l u H3 Q
theorem pe_slice {r : V → Option Int → Option Int → Hp → VK → Prop} (hr : SlR X r) (he : PE X e te) (hl : PO X lo tl) (hu : PO X hi th) : PE X (.Subscript e (.Slice lo hi none p2) pos) (tSl r te tl th) := by
 intro pins s σ H Q I h
 refine Subscript_ (thn (he pins s σ H _ I h) fun v s1 ⟨x, H1, I1, r1, q1⟩ => ?_)
 refine wpAny_Slice (thn (hl pins s1 σ H1 _ I1 q1) fun vl s2 ⟨l, H2, I2, pl, q2⟩ => thn (hu pins s2 σ H2 _ I2 q2) fun vu s3 ⟨u, H3, I3, pu, q3⟩ => ?_)
 rw [evalPart_none]
 refine wpAny_pure ?_
 have I4 : Inv X pins σ H3 { s3 with heap := s3.heap.push { cls := .type "slice", data := .fields #[vl, vu, .none] } } := I3.kept (t' := s3.toks) fun b ob q => Heap.get?_push_of_some _ q
 obtain ⟨T, id, hT, ht, hg⟩ := hr pins { s3 with heap := s3.heap.push { cls := .type "slice", data := .fields #[vl, vu, .none] } } σ H3 x v vl vu l u s3.heap.objs.size Q I4 r1 (Heap.IsSliceOf.new ..) pl pu q3
 show wpAny (model X.prog X.w) X.A (subscriptTail e (.Slice lo hi none p2) v (.ref s3.heap.objs.size)) (EP X pins σ Q) X.xe { s3 with heap := s3.heap.push { cls := .type "slice", data := .fields #[vl, vu, .none] } }
 exact tail_any (ops := [.ref s3.heap.objs.size, v]) ht hT hg (by with_unfolding_all rfl)
def cutV (xs : List V) (lo hi : Option Int) : List V := (xs.drop (HT.sIx xs.length 0 lo)).take (HT.sIx xs.length xs.length hi - HT.sIx xs.length 0 lo)
theorem cutV_length (xs : List V) (lo hi : Option Int) : (cutV xs lo hi).length ≤ xs.length := by
 unfold cutV
 rw [List.length_take, List.length_drop]
 omega
def rSlT (K : PySem.W.Frag) : V → Option Int → Option Int → Hp → VK → Prop := fun x lo hi H Q => ∃ a xs, x = .ref a ∧ SqT K H a xs ∧
 ¬ (HT.sIx xs.length 0 lo = 0 ∧ HT.sIx xs.length xs.length hi = xs.length) ∧ ∀ p, H p = none → Q (.ref p) (upd H p (.tup (cutV xs lo hi)))
theorem sl_tup : SlR X (rSlT X.K) := by
 intro pins s σ H x v vl vu lo hi sl Q I rx hs pl pu h
 obtain ⟨a, xs, rfl, hx, hw, q⟩ := h
 cases rx
 obtain ⟨its, r, ht, hz⟩ := I.tuple hx
 have hlen : its.toArray.size = xs.length := by rw [List.size_toArray]; exact r.length.symm
 refine ⟨"tuple", _, PyProof.Rows.slot_tuple_getitem.lookup, ht.typeIs, ?_⟩
 refine HT.getItem_tuple_cut ht hs pl pu (by rw [hlen]; exact hw) ?_ (by rw [hlen]; exact hz)
 rw [hlen]
 refine ⟨.ref s.heap.objs.size, _, I.laid (t' := s.toks) (o := .tup (cutV xs lo hi)) (fun b ob q => Heap.get?_push_of_some _ q) (Nat.le_refl _) ?_, rfl, q _ (I.hok.fresh (Nat.le_refl _))⟩
 exact ⟨Nat.le_trans (cutV_length xs lo hi) hz, _, (r.drop (HT.sIx xs.length 0 lo)).take (HT.sIx xs.length xs.length hi - HT.sIx xs.length 0 lo), IsTup.new _ _⟩
def rCatT (K : PySem.W.Frag) : R2 := fun x y H Q => ∃ a b xs ys, x = .ref a ∧ y = .ref b ∧ SqT K H a xs ∧ SqT K H b ys ∧ xs ≠ [] ∧ xs.length + ys.length ≤ sizeLine ∧
 (ys = [] → Q (.ref a) H) ∧ (ys ≠ [] → ∀ p, H p = none → Q (.ref p) (upd H p (.tup (xs ++ ys))))
theorem Za.nil_iff {xs : List V} {us : List Value} (r : Za xs us) : us = [] ↔ xs = [] := by
 cases r with
 | nil => simp
 | cons _ _ => simp
theorem op_catT : OpR X (binaryOp .Add) (rCatT X.K) := by
 intro pins s σ H x y v u Q I rx ry h
 obtain ⟨a, b, xs, ys, rfl, rfl, ha, hb, hx, hz, q1, q2⟩ := h
 cases rx
 cases ry
 obtain ⟨its, r1, p1, _⟩ := I.tuple ha
 obtain ⟨its2, r2, p2, _⟩ := I.tuple hb
 refine HT.cat_tup p1 p2 (fun z => hx (r1.nil_iff.mp z)) (fun z => ⟨.ref a, H, I, rfl, q1 (r2.nil_iff.mp z)⟩) (fun z => ?_) (by rw [← r1.length, ← r2.length]; exact hz)
 refine ⟨.ref s.heap.objs.size, _, I.laid (t' := s.toks) (o := .tup (xs ++ ys)) (fun b ob q => Heap.get?_push_of_some _ q) (Nat.le_refl _) ?_, rfl, q2 (fun w => z (r2.nil_iff.mpr w)) _ (I.hok.fresh (Nat.le_refl _))⟩
 exact ⟨by rw [List.length_append]; exact hz, _, r1.append r2, IsTup.new _ _⟩
end
end L2
namespace L2
open PySem PySem.Spec PyProof.Rows
def ixN (n : Nat) (i : Int) : Option Nat := if 0 ≤ i then (if i < n then some i.toNat else none) else if -(n : Int) ≤ i then some (i + n).toNat else none
def atI {α : Type} (xs : List α) (i : Int) : Option α := (ixN xs.length i).bind fun j => xs[j]?
theorem ixN_seq {n : Nat} {i : Int} {j : Nat} (h : ixN n i = some j) : seqIndex? i n = some j ∧ j < n ∧ -(n : Int) ≤ i ∧ i < n := by
 unfold ixN at h
 by_cases h0 : 0 ≤ i
 ·rw [if_pos h0] at h
  by_cases h1 : i < n
  ·rw [if_pos h1] at h
   have e : i.toNat = j := Option.some.inj h
   exact ⟨by rw [seqIndex_of h0 h1, e], by omega, by omega, h1⟩
  ·rw [if_neg h1] at h; cases h
 ·rw [if_neg h0] at h
  by_cases h1 : -(n : Int) ≤ i
  ·rw [if_pos h1] at h
   have e : (i + n).toNat = j := Option.some.inj h
   exact ⟨by rw [seqIndex_neg (by omega) h1, e], by omega, h1, by omega⟩
  ·rw [if_neg h1] at h; cases h
theorem atI_get {α : Type} {xs : List α} {i : Int} {v : α} (h : atI xs i = some v) : ∃ j, seqIndex? i xs.length = some j ∧ xs[j]? = some v ∧ j < xs.length ∧ -(xs.length : Int) ≤ i ∧ i < xs.length := by
 unfold atI at h
 cases e : ixN xs.length i with
 | none => rw [e] at h; cases h
 | some j =>
  rw [e] at h
  obtain ⟨h1, h2, h3, h4⟩ := ixN_seq e
  exact ⟨j, h1, h, h2, h3, h4⟩
theorem atI_nat {α : Type} {xs : List α} {j : Nat} {v : α} (h : xs[j]? = some v) : atI xs (j : Int) = some v := by
 have hj : j < xs.length := (List.getElem?_eq_some_iff.mp h).1
 have e : ixN xs.length (j : Int) = some j := by
  unfold ixN
  rw [if_pos (by omega), if_pos (by omega)]; simp
 unfold atI; rw [e]; exact h
def PlainIx (b : Expr) : Prop := ∀ o i, subscripted b false o i = operate [o, i] (getItem o i)
def IxR (X : Cx) (r : R2) : Prop :=
 ∀ (value slice : Expr) (pins : List (Addr × Obj)) (s : Shared) (σ : St) (H : Hp) (x y : V) (v u : Value) (Q : VK), Inv X pins σ H s → ZE x v → ZE y u → r x y H Q →
  subscripted slice false v u = operate [v, u] (getItem v u) → wpAny (model X.prog X.w) X.A (subscriptTail value slice v u) (EP X pins σ Q) X.xe s
def MtR (X : Cx) (id : String) (r : V → List V → Hp → VK → Prop) : Prop :=
 ∀ (pins : List (Addr × Obj)) (s : Shared) (σ : St) (H : Hp) (x : V) (xs : List V) (v : Value) (us : List Value) (Q : VK), Inv X pins σ H s → ZE x v → Za xs us → r x xs H Q →
  wpAny (model X.prog X.w) X.A (call (.builtin id) (v :: us)) (EP X pins σ Q) X.xe s
section
variable {X : Cx} {a b : Expr} {ta tb : TE} {pos : Pos}
theorem pe_ix {r : R2} (hr : IxR X r) (ha : PE X a ta) (hb : PE X b tb) (hs : PlainIx b) : PE X (.Subscript a b pos) (tOp r ta tb) := by
 intro pins s σ H Q I h
 exact Subscript_ (binT ha hb I h fun v u s2 x y H2 I2 rx ry q => hr a b pins s2 σ H2 x y v u Q I2 rx ry q (hs _ _))
def rIxL (K : PySem.W.Frag) : R2 := fun x y H Q => ∃ p xs i v, x = .ref p ∧ y = .int i ∧ SqL K H p xs ∧ atI xs i = some v ∧ Q v H
def rIxT (K : PySem.W.Frag) : R2 := fun x y H Q => ∃ p xs i v, x = .ref p ∧ y = .int i ∧ SqT K H p xs ∧ atI xs i = some v ∧ Q v H
theorem ix_list : IxR X (rIxL X.K) := by
 intro value slice pins s σ H x y v u Q I rx ry h hs
 obtain ⟨p, xs, i, z, rfl, rfl, hq, he, q⟩ := h
 cases rx
 obtain ⟨t, rfl⟩ := ry
 obtain ⟨its, r, pl, hz⟩ := I.list hq
 obtain ⟨j, h1, h2, h3, h4, h5⟩ := atI_get he
 obtain ⟨w, ew, rw'⟩ := r.get h2
 have hl := r.length
 have hn := line63
 have fin : EP X pins σ Q w s := ⟨z, H, I, rw', q⟩
 by_cases h0 : 0 ≤ i
 ·have hj : i.toNat = j := by
   rw [seqIndex_of h0 h5] at h1
   exact Option.some.inj h1
  exact item_listR pl.isList h0 (by omega) (by rw [hj]; simpa using ew) fin hs
 ·have hj : (i + (its.toArray.size : Int)).toNat = j := by
   rw [seqIndex_neg (by omega) h4] at h1
   rw [List.size_toArray, ← hl]
   exact Option.some.inj h1
  exact subscriptTail_builtinR (x := w) pl.isList.typeIs slot_list_getitem.lookup
   (wpAny_getItem_list_neg (Q := fun r s' => r = w ∧ EP X pins σ Q r s') pl.isList (by omega) (by rw [List.size_toArray] <;> omega) (by omega) (by rw [hj]; simpa using ew) ⟨rfl, fin⟩) hs
theorem ix_tup : IxR X (rIxT X.K) := by
 intro value slice pins s σ H x y v u Q I rx ry h hs
 obtain ⟨p, xs, i, z, rfl, rfl, hq, he, q⟩ := h
 cases rx
 obtain ⟨t, rfl⟩ := ry
 obtain ⟨its, r, pl, hz⟩ := I.tuple hq
 obtain ⟨j, h1, h2, h3, h4, h5⟩ := atI_get he
 obtain ⟨w, ew, rw'⟩ := r.get h2
 have hl := r.length
 have hn := line63
 have fin : EP X pins σ Q w s := ⟨z, H, I, rw', q⟩
 exact subscriptTail_builtinR (x := w) pl.typeIs slot_tuple_getitem.lookup
  (getItem_tuple (j := j) (Q := fun r s' => r = w ∧ EP X pins σ Q r s') pl (by omega) (by omega) (by rw [List.size_toArray, ← hl]; exact h1) (by simpa using ew) ⟨rfl, fin⟩) hs
theorem mapSeq_set (its : List Value) (n j : Nat) (u : Value) : Obj.mapSeq (·.setIfInBounds j u) { cls := .type "list", data := .seq its.toArray n } = { cls := .type "list", data := .seq (its.set j u).toArray n } := by
 simp [Obj.mapSeq]
theorem Inv.lst {pins : List (Addr × Obj)} {σ : St} {H : Hp} {s : Shared} {p : Addr} {xs : List V} (I : Inv X pins σ H s) (h : H p = some (.lst xs)) :
  ∃ (its : List Value) (n : Nat), Za xs its ∧ s.heap.get? p = some { cls := .type "list", data := .seq its.toArray n } ∧ xs.length ≤ sizeLine := by
 obtain ⟨z, its, n, r, e⟩ := I.hok p _ h
 exact ⟨its, n, r, e, z⟩
theorem Inv.lstUpd {pins : List (Addr × Obj)} {σ : St} {H : Hp} {s : Shared} {p : Addr} {xs ys : List V} {its its' : List Value} {n n' : Nat} {f : Obj → Obj} (I : Inv X pins σ H s) (h : H p = some (.lst xs))
  (ho : s.heap.get? p = some { cls := .type "list", data := .seq its.toArray n }) (hf : f { cls := .type "list", data := .seq its.toArray n } = { cls := .type "list", data := .seq its'.toArray n' }) (r : Za ys its') (hz : ys.length ≤ sizeLine) (t : Nat) :
  Inv X pins σ (upd H p (.lst ys)) { s with heap := s.heap.update p f, toks := t } := by
 have e : (s.heap.update p f).get? p = some { cls := .type "list", data := .seq its'.toArray n' } := by
  rw [Heap.get?_update_self f ho (by rw [hf] <;> rfl), hf]
 refine I.write (x := p) (e := p) (by rw [h]; trivial) (.inl rfl) (fun b u hb q => (Heap.get?_update_other _ _ (Ne.symm hb)).trans q) ⟨_, e⟩ ?_
 exact ⟨hz, its', n', r, e⟩
def rSetL : V → V → V → Hp → (Hp → Prop) → Prop := fun o i v H Q => ∃ p xs k j, o = .ref p ∧ i = .int k ∧ H p = some (.lst xs) ∧ ixN xs.length k = some j ∧ Q (upd H p (.lst (xs.set j v)))
theorem set_list : PSet X rSetL := by
 intro pins s σ H o i v ov iv u Q I ro ri rv h
 obtain ⟨p, xs, k, j, rfl, rfl, hp, hj, q⟩ := h
 cases ro
 obtain ⟨t, rfl⟩ := ri
 obtain ⟨its, n, r, ho, hz⟩ := I.lst hp
 obtain ⟨h1, h2, h3, h4⟩ := ixN_seq hj
 have hl := r.length
 have hn := line63
 have I' : Inv X pins σ (upd H p (.lst (xs.set j v))) { s with heap := s.heap.update p (Obj.mapSeq (·.setIfInBounds j u)) } :=
  I.lstUpd hp ho (mapSeq_set its n j u) (r.set rv j) (by rw [List.length_set]; exact hz) s.toks
 by_cases h0 : 0 ≤ k
 ·have hk : k.toNat = j := by
   rw [seqIndex_of h0 h4] at h1
   exact Option.some.inj h1
  exact PySem.W.ki_setAt ho h0 (by omega) (by rw [List.size_toArray, ← hl]; exact h4) (by rw [hk]; exact ⟨_, I', q⟩)
 ·have hk : (k + (its.toArray.size : Int)).toNat = j := by
   rw [seqIndex_neg (by omega) h3] at h1
   rw [List.size_toArray, ← hl]
   exact Option.some.inj h1
  exact PySem.W.ki_setBack ho (by omega) (by rw [List.size_toArray, ← hl]; exact h3) (by omega) (by rw [hk]; exact ⟨_, I', q⟩)
theorem slice_bounds (lo hi : Option Int) (n : Nat) : (sliceBounds lo hi none n).1 = ((HT.sIx n 0 lo : Nat) : Int) ∧ (sliceBounds lo hi none n).2.1 = ((HT.sIx n n hi : Nat) : Int) ∧ (sliceBounds lo hi none n).2.2 = 1 := by
 refine ⟨?_, ?_, rfl⟩
 ·cases lo with
  | none => simp [sliceBounds, HT.sIx]
  | some i =>
   simp only [sliceBounds, HT.sIx, Option.getD_none, show (1 : Int) > 0 by decide, if_true]
   by_cases h : i < 0
   ·simp only [h, if_true] <;> omega
   ·simp only [h, if_false] <;> omega
 ·cases hi with
  | none => simp [sliceBounds, HT.sIx]
  | some i =>
   simp only [sliceBounds, HT.sIx, Option.getD_none, show (1 : Int) > 0 by decide, if_true]
   by_cases h : i < 0
   ·simp only [h, if_true] <;> omega
   ·simp only [h, if_false] <;> omega
theorem slicePick_cut (its : List Value) (lo hi : Option Int) : slicePick its.toArray lo hi none = ((its.drop (HT.sIx its.length 0 lo)).take (HT.sIx its.length its.length hi - HT.sIx its.length 0 lo)).toArray := by
 obtain ⟨h1, h2, h3⟩ := slice_bounds lo hi its.toArray.size
 unfold slicePick
 rw [h1, h2, h3]
 simp only [sliceRange_one, pick_run, List.size_toArray] <;> rfl
def rSlL (K : PySem.W.Frag) : V → Option Int → Option Int → Hp → VK → Prop := fun x lo hi H Q => ∃ a xs, x = .ref a ∧ SqL K H a xs ∧ ∀ p, H p = none → Q (.ref p) (upd H p (.lst (cutV xs lo hi)))
theorem sl_list : SlR X (rSlL X.K) := by
 intro pins s σ H x v vl vu lo hi sl Q I rx hs pl pu h
 obtain ⟨a, xs, rfl, hx, q⟩ := h
 cases rx
 obtain ⟨its, r, ht, hz⟩ := I.list hx
 have hlen := r.length
 refine ⟨"list", _, slot_list_getitem.lookup, ht.isList.typeIs, ?_⟩
 refine wpAny_getItem_list_slice ht.isList hs pl pu .none (by simp) ?_ (by rw [List.size_toArray] <;> omega)
 rw [slicePick_cut, ← hlen]
 refine ⟨.ref s.heap.objs.size, _, I.laid (t' := s.toks) (o := .lst (cutV xs lo hi)) (fun b ob q => Heap.get?_push_of_some _ q) (Nat.le_refl _) ?_, rfl, q _ (I.hok.fresh (Nat.le_refl _))⟩
 exact ⟨Nat.le_trans (cutV_length xs lo hi) hz, _, 0, (r.drop (HT.sIx xs.length 0 lo)).take (HT.sIx xs.length xs.length hi - HT.sIx xs.length 0 lo), Heap.get?_push_size _ rfl⟩
def flatV : V → Bool
 | .non => true
 | .bl _ => true
 | .int _ => true
 | .str _ => true
 | _ => false
def eqV : V → V → Bool
 | .non, .non => true
 | .bl a, .bl b => a == b
 | .bl a, .int b => (if a then 1 else 0) == b
 | .int a, .bl b => a == (if b then 1 else 0)
 | .int a, .int b => a == b
 | .str a, .str b => a == b
 | _, _ => false
theorem eqAt_V {A : Around} {s : Shared} {y x : V} {u v : Value} (ry : ZE y u) (rx : ZE x v) (fy : flatV y = true) (fx : flatV x = true) : SeqAt.EqAt A s u v (eqV y x) := by
 cases y with
 | non =>
  cases ry
  cases x with
  | non => cases rx; exact SeqAt.EqAt.same _
  | bl b => cases rx; exact SeqAt.EqAt.none_bool b
  | int b => obtain ⟨t, rfl⟩ := rx; exact SeqAt.EqAt.none_int b t
  | str b => obtain ⟨t, rfl⟩ := rx; exact SeqAt.EqAt.none_str b t
  | _ => exact absurd (show false = true from fx) Bool.false_ne_true
 | bl a =>
  cases ry
  cases x with
  | non => cases rx; exact SeqAt.EqAt.bool_none a
  | bl b => cases rx; exact SeqAt.EqAt.bool_bool a b
  | int b => obtain ⟨t, rfl⟩ := rx; exact SeqAt.EqAt.bool_int a b t
  | str b => obtain ⟨t, rfl⟩ := rx; exact SeqAt.EqAt.bool_str a b t
  | _ => exact absurd (show false = true from fx) Bool.false_ne_true
 | int a =>
  obtain ⟨t', rfl⟩ := ry
  cases x with
  | non => cases rx; exact SeqAt.EqAt.int_none a t'
  | bl b => cases rx; exact SeqAt.EqAt.int_bool a t' b
  | int b => obtain ⟨t, rfl⟩ := rx; exact SeqAt.EqAt.int_int a t' b t
  | str b => obtain ⟨t, rfl⟩ := rx; exact SeqAt.EqAt.int_str a t' b t
  | _ => exact absurd (show false = true from fx) Bool.false_ne_true
 | str a =>
  obtain ⟨t', rfl⟩ := ry
  cases x with
  | non => cases rx; exact SeqAt.EqAt.str_none a t'
  | bl b => cases rx; exact SeqAt.EqAt.str_bool a t' b
  | int b => obtain ⟨t, rfl⟩ := rx; exact SeqAt.EqAt.str_int a t' b t
  | str b => obtain ⟨t, rfl⟩ := rx; exact SeqAt.EqAt.str_str a t' b t
  | _ => exact absurd (show false = true from fx) Bool.false_ne_true
 | _ => exact absurd (show false = true from fy) Bool.false_ne_true
def eqU (x : V) (u : Value) : Bool := match u with
 | .none => eqV .non x
 | .bool b => eqV (.bl b) x
 | .int i _ => eqV (.int i) x
 | .str z _ => eqV (.str z) x
 | _ => false
theorem eqU_of {x y : V} {u : Value} (r : ZE y u) (f : flatV y = true) : eqU x u = eqV y x := by
 cases y with
 | non => cases r; rfl
 | bl b => cases r; rfl
 | int i => obtain ⟨t, rfl⟩ := r; rfl
 | str z => obtain ⟨t, rfl⟩ := r; rfl
 | _ => exact absurd (show false = true from f) Bool.false_ne_true
theorem any_eqU {x : V} : ∀ {xs : List V} {us : List Value}, Za xs us → xs.all flatV = true → us.any (eqU x) = xs.any fun y => eqV y x
 | _, _, .nil, _ => rfl
 | y :: xs, u :: us, .cons r t, f => by
  rw [List.all_cons, Bool.and_eq_true] at f
  rw [List.any_cons, List.any_cons, eqU_of r f.1, any_eqU t f.2]
theorem mem_eqAt {A : Around} {s : Shared} {x : V} {v : Value} (rx : ZE x v) (fx : flatV x = true) : ∀ {xs : List V} {us : List Value}, Za xs us → xs.all flatV = true → ∀ u ∈ us, SeqAt.EqAt A s u v (eqU x u)
 | _, _, .nil, _ => fun u hu => by cases hu
 | y :: xs, u :: us, .cons r t, f => fun u' hu => by
  rw [List.all_cons, Bool.and_eq_true] at f
  rcases List.mem_cons.mp hu with rfl | hu
  ·rw [eqU_of r f.1]; exact eqAt_V r rx f.1 fx
  ·exact mem_eqAt rx fx t f.2 u' hu
def inV (x : V) (xs : List V) : Bool := xs.any fun y => eqV y x
def rIn (K : PySem.W.Frag) (neg : Bool) : R2 := fun x y H Q => ∃ p xs, y = .ref p ∧ (SqL K H p xs ∨ SqT K H p xs) ∧ flatV x = true ∧ xs.all flatV = true ∧ Q (.bl (if neg then !inV x xs else inV x xs)) H
theorem op_in_seq : OpR X (compareOp .In) (rIn X.K false) := by
 intro pins s σ H x y v u Q I rx ry h
 obtain ⟨p, xs, rfl, hq, fx, fs, q⟩ := h
 cases ry
 rcases hq with hq | hq
 ·obtain ⟨its, r, pl, hz⟩ := I.list hq
  refine SeqAt.in_listAt (eqU x) pl.isList (fun w hw => mem_eqAt rx fx r fs w (by simpa using hw)) ⟨.bl _, H, I, rfl, ?_⟩
  rw [show its.toArray.any (eqU x) = its.any (eqU x) by simp, any_eqU r fs]
  exact q
 ·obtain ⟨its, r, pl, hz⟩ := I.tuple hq
  refine SeqAt.in_tupleAt (eqU x) pl (fun w hw => mem_eqAt rx fx r fs w (by simpa using hw)) ⟨.bl _, H, I, rfl, ?_⟩
  rw [show its.toArray.any (eqU x) = its.any (eqU x) by simp, any_eqU r fs]
  exact q
theorem call_len_seq : CallR X (.builtin "len") (fun xs H Q => ∃ p ys, xs = [.ref p] ∧ (SqL X.K H p ys ∨ SqT X.K H p ys) ∧ Q (.int ys.length) H) := by
 intro pins s σ H xs us Q I r h
 obtain ⟨p, ys, rfl, hq, q⟩ := h
 obtain ⟨u, rfl, rx⟩ := vals1 r
 cases rx
 have hn := line63
 rcases hq with hq | hq
 ·obtain ⟨its, r', pl, hz⟩ := I.list hq
  have hlen := r'.length
  exact Calls.call_len_list pl.isList (by simp only [List.size_toArray] <;> omega) ⟨.int ys.length, H, I.tok _, ⟨s.toks + 1, by rw [List.size_toArray, hlen]⟩, q⟩
 ·obtain ⟨its, r', pl, hz⟩ := I.tuple hq
  have hlen := r'.length
  exact len_tuple pl (by simp only [List.size_toArray] <;> omega) ⟨.int ys.length, H, I.tok _, ⟨s.toks + 1, by rw [List.size_toArray, hlen]⟩, q⟩
theorem call_list_of : CallR X (.type "list") (fun xs H Q => ∃ p ys, xs = [.ref p] ∧ (SqL X.K H p ys ∨ SqT X.K H p ys) ∧ ∀ l, H l = none → Q (.ref l) (upd H l (.lst ys))) := by
 intro pins s σ H xs us Q I r h
 obtain ⟨p, ys, rfl, hq, q⟩ := h
 obtain ⟨u, rfl, rx⟩ := vals1 r
 cases rx
 have fin : ∀ (its : List Value), Za ys its → ys.length ≤ sizeLine → ∀ (h' : Heap) (c' : Nat), (∀ b o', s.heap.get? b = some o' → h'.get? b = some o') →
   h'.get? s.heap.objs.size = some { cls := .type "list", dict := none, data := .seq its.toArray c', slots := #[] } → EP X pins σ Q (.ref s.heap.objs.size) { s with heap := h' } := fun its r' hz h' c' kp e =>
  ⟨.ref s.heap.objs.size, _, I.laid (t' := s.toks) kp (Nat.le_refl _) (show ObjOk X.prog X.w _ h' _ (.lst ys) from ⟨hz, its, c', r', e⟩), rfl, q _ (I.hok.fresh (Nat.le_refl _))⟩
 rcases hq with hq | hq
 ·obtain ⟨its, r', pl, hz⟩ := I.list hq
  have hlen := r'.length
  obtain ⟨o, ho, hc, n, hd⟩ := pl.isList
  exact call_list_seq p (.inl rfl) ho hc hd (fun h' c' kp e => fin its r' hz h' c' kp e) (by simp only [List.size_toArray] <;> omega)
 ·obtain ⟨its, r', pl, hz⟩ := I.tuple hq
  have hlen := r'.length
  obtain ⟨o, ho, hc, n, hd⟩ := pl
  exact call_list_seq p (.inr rfl) ho hc hd (fun h' c' kp e => fin its r' hz h' c' kp e) (by simp only [List.size_toArray] <;> omega)
theorem call_tuple_of : CallR X (.type "tuple") (fun xs H Q => ∃ p ys, xs = [.ref p] ∧ ((SqL X.K H p ys ∧ ∀ l, H l = none → Q (.ref l) (upd H l (.tup ys))) ∨ (SqT X.K H p ys ∧ Q (.ref p) H))) := by
 intro pins s σ H xs us Q I r h
 obtain ⟨p, ys, rfl, h⟩ := h
 obtain ⟨u, rfl, rx⟩ := vals1 r
 cases rx
 rcases h with ⟨hq, q⟩ | ⟨hq, q⟩
 ·obtain ⟨its, r', pl, hz⟩ := I.list hq
  have hlen := r'.length
  refine call_tuple_list pl.isList (fun h' kp => ?_) (by simp only [List.size_toArray] <;> omega)
  have I1 : Inv X pins σ H { s with heap := h' } := I.kept (t' := s.toks) kp
  have I2 : Inv X pins σ (upd H h'.objs.size (.tup ys)) { s with heap := h'.push { cls := .type "tuple", data := .seq its.toArray } } :=
   I1.laid (t' := s.toks) (fun b o e => Heap.get?_push_of_some _ e) (Nat.le_refl _) (show ObjOk X.prog X.w _ _ _ (.tup ys) from ⟨hz, its, r', IsTup.new _ _⟩)
  exact ⟨.ref h'.objs.size, _, I2, rfl, q _ (I1.hok.fresh (Nat.le_refl _))⟩
 ·obtain ⟨its, r', pl, hz⟩ := I.tuple hq
  exact call_tuple_same pl ⟨.ref p, H, I, rfl, q⟩
def tyV (K : PySem.W.Frag) (T : String) (x : V) (H : Hp) : Prop := match x with
 | .str _ => T = "str"
 | .int _ => T = "int"
 | .ref p => (T = "list" ∧ ∃ xs, SqL K H p xs) ∨ (T = "tuple" ∧ ∃ o, K.lookup p = some o ∧ o.cls = .type "tuple" ∧ o.dict = none) ∨
   (T = "dict" ∧ ((∃ kvs, H p = some (.dK kvs)) ∨ ∃ kvs, H p = some (.dT kvs))) ∨ (T = "set" ∧ ∃ S n, H p = some (.set S n))
 | _ => False
theorem tyV_is {pins : List (Addr × Obj)} {σ : St} {H : Hp} {s : Shared} {T : String} {x : V} {v : Value} (I : Inv X pins σ H s) (r : ZE x v) (ty : tyV X.K T x H) :
  s.TypeIs v T ∧ ∀ a, v = .ref a → ∃ ob, s.heap.get? a = some ob ∧ ob.dict = none := by
 cases x with
 | str z =>
  obtain ⟨t, rfl⟩ := r
  cases (show T = "str" from ty)
  exact ⟨typeIs_str s z t, fun _ e => nomatch e⟩
 | int i =>
  obtain ⟨t, rfl⟩ := r
  cases (show T = "int" from ty)
  exact ⟨typeIs_int s i t, fun _ e => nomatch e⟩
 | ref p =>
  cases r
  rcases ty with ⟨rfl, xs, hq⟩ | ⟨rfl, o, hk, hc, hd⟩ | ⟨rfl, hk⟩ | ⟨rfl, S, n, hk⟩
  ·obtain ⟨its, _, pl, _⟩ := I.list hq
   refine ⟨pl.isList.typeIs, fun a e => ?_⟩
   cases e
   obtain ⟨o, n, e, c, hd, _⟩ := pl
   exact ⟨o, e, hd⟩
  ·refine ⟨⟨o, I.kIn p o hk, hc⟩, fun a e => ?_⟩
   cases e
   exact ⟨o, I.kIn _ o hk, hd⟩
  ·have z : ∃ o, s.heap.get? p = some o ∧ o.ExactDict := by
    rcases hk with ⟨kvs, hk⟩ | ⟨kvs, hk⟩
    ·obtain ⟨_, _, _, _, o, _, _, e, ex, _⟩ := I.hok p _ hk
     exact ⟨o, e, ex⟩
    ·obtain ⟨_, _, _, _, o, _, _, e, ex, _⟩ := I.hok p _ hk
     exact ⟨o, e, ex⟩
   obtain ⟨o, e, ex⟩ := z
   refine ⟨⟨o, e, ex.1⟩, fun a e2 => ?_⟩
   cases e2
   exact ⟨o, e, ex.2.1⟩
  ·obtain ⟨o, _, _, _, e, ex, _⟩ := I.hok p _ hk
   refine ⟨⟨o, e, ex.1⟩, fun a e2 => ?_⟩
   cases e2
   exact ⟨o, e, ex.2.1⟩
 | _ => exact False.elim ty
def tBM0 (K : PySem.W.Frag) (T : String) (r : V → List V → Hp → VK → Prop) (to : TE) : TE := fun σ H Q => to σ H fun x H1 => tyV K T x H1 ∧ r x [] H1 Q
def tBM (K : PySem.W.Frag) (T : String) (r : V → List V → Hp → VK → Prop) (to : TE) (t : TA) : TE := fun σ H Q => to σ H fun x H1 => tyV K T x H1 ∧ t σ H1 fun xs H2 => r x xs H2 Q
variable {o e : Expr} {es : List Expr} {to : TE} {t : TA} {name : Str} {apos cpos : Pos} {T id : String} {r : V → List V → Hp → VK → Prop}
theorem pe_bm0 (pa : PlainAttrs T) (slot : Slot T name id) (hty : typeOf (.builtin id) = pure (.type "method_descriptor")) (hm : MtR X id r) (ho : PE X o to)
  (hbase : attributeBase o name X.env (eval o X.env) = eval o X.env := by rfl) (hline : (apos.endLine == cpos.line) = true := by rfl) : PE X (.Call (.Attribute o name apos) [] [] cpos) (tBM0 X.K T r to) := by
 intro pins s σ H Q I h
 refine wpAny_Call_method0_late hbase hline (thn (ho pins s σ H _ I h) fun v s1 ⟨x, H1, I1, r1, ty, q1⟩ => ?_)
 obtain ⟨h1, h2⟩ := tyV_is I1 r1 ty
 exact ⟨T, id, pa, slot, hty, h1, h2, Calls.callWith_builtin rfl (PySem.evalArgs_none (hm pins s1 σ H1 x [] v [] Q I1 r1 .nil q1))⟩
theorem pe_bm (pa : PlainAttrs T) (slot : Slot T name id) (hty : typeOf (.builtin id) = pure (.type "method_descriptor")) (hm : MtR X id r) (ho : PE X o to) (ha : PA X (e :: es) t)
  (hbase : attributeBase o name X.env (eval o X.env) = eval o X.env := by rfl)
  (hfew : ((backTo cpos (starEach (e :: es) X.env)).all (fun x => !x.1) && (backToKw cpos (keywordEach [] X.env)).all (fun x => x.1.isSome)
   && decide ((e :: es).length + ([] : List Keyword).length + (if ([] : List Keyword).isEmpty then 0 else 1) < 30)) = true := by rfl)
  (hline : (apos.endLine == cpos.line) = true := by rfl) (hs : starEach (e :: es) X.env = (false, eval e X.env) :: starEach es X.env := by rfl) (hplain : (backTo cpos (starEach es X.env)).any (·.1) = false := by rfl) :
  PE X (.Call (.Attribute o name apos) (e :: es) [] cpos) (tBM X.K T r to t) := by
 intro pins s σ H Q I h
 refine wpAny_Call_method_late hbase hfew hline rfl (thn (ho pins s σ H _ I h) fun v s1 ⟨x, H1, I1, r1, ty, q1⟩ => ?_)
 obtain ⟨h1, h2⟩ := tyV_is I1 r1 ty
 refine ⟨T, id, pa, slot, hty, h1, h2, ?_⟩
 have hA := ha cpos pins s1 σ H1 _ I1 q1
 rw [hs] at hA ⊢
 refine Calls.callWith_builtin (by show (false || (backTo cpos (starEach es X.env)).any (·.1)) = false; rw [hplain] <;> rfl) (Calls.evalArgs_plain ?_)
 exact thn hA fun us s2 ⟨vs, H2, I2, r2, q2⟩ => hm pins s2 σ H2 x vs v us Q I2 r1 r2 q2
end
end L2
namespace L2
open PySem PySem.Spec PyProof.Rows
def MtM (X : Cx) (id : String) (r : V → List V → Hp → VK → Prop) : Prop :=
 ∀ (pins : List (Addr × Obj)) (s : Shared) (σ : St) (H : Hp) (x : V) (xs : List V) (v : Value) (us : List Value) (Q : VK), Inv X pins σ H s → ZE x v → Za xs us → r x xs H Q →
  wpAny (model X.prog X.w) X.A (call (.builtin id) (v :: us)) (EP X pins σ Q) X.xe s
theorem Za.one : ∀ {x : V} {us : List Value}, Za [x] us → ∃ u, us = [u] ∧ ZE x u
 | _, _, .cons r .nil => ⟨_, rfl, r⟩
theorem Za.two : ∀ {x y : V} {us : List Value}, Za [x, y] us → ∃ u v, us = [u, v] ∧ ZE x u ∧ ZE y v
 | _, _, _, .cons r (.cons q .nil) => ⟨_, _, rfl, r, q⟩
theorem Za.zero : ∀ {us : List Value}, Za [] us → us = []
 | _, .nil => rfl
theorem Za.dropLast {xs : List V} {us : List Value} (h : Za xs us) : Za xs.dropLast us.dropLast := by
 induction h with
 | nil => exact .nil
 | cons r t ih =>
  cases t with
  | nil => exact .nil
  | cons q t' => exact .cons r ih
theorem Za.rep {xs : List V} {us : List Value} (h : Za xs us) : ∀ k : Nat, Za (List.replicate k xs).flatten (List.replicate k us).flatten
 | 0 => .nil
 | k + 1 => by
  rw [List.replicate_succ, List.replicate_succ, List.flatten_cons, List.flatten_cons]
  exact Za.append h (Za.rep h k)
theorem erase_last {α : Type} (l : List α) : l.eraseIdx (l.length - 1) = l.dropLast := by
 induction l with
 | nil => rfl
 | cons a r ih =>
  cases r with
  | nil => rfl
  | cons b r =>
   have e : (a :: b :: r).length - 1 = ((b :: r).length - 1) + 1 := by
    have h1 : (a :: b :: r).length = r.length + 2 := rfl
    have h2 : (b :: r).length = r.length + 1 := rfl
    omega
   rw [e, List.eraseIdx_cons_succ, ih]
   all_goals rfl
theorem foldl_rep (its : List Value) : ∀ (k : Nat) (acc : List Value),
  List.foldl (fun x1 x2 => x1 ++ x2) acc.toArray (List.replicate k its.toArray) = (acc ++ (List.replicate k its).flatten).toArray
 | 0, acc => by simp
 | k + 1, acc => by
  have e : acc.toArray ++ its.toArray = (acc ++ its).toArray := by simp
  have e2 : (acc ++ its) ++ (List.replicate k its).flatten = acc ++ (List.replicate (k + 1) its).flatten := by
   rw [List.replicate_succ, List.flatten_cons, List.append_assoc]
  rw [← e2, ← foldl_rep its k (acc ++ its), ← e, List.replicate_succ, List.foldl_cons]
section
variable {X : Cx} {pins : List (Addr × Obj)} {σ : St} {H : Hp} {s : Shared} {l b : Addr} {xs ys zs : List V}
theorem Inv.lset {its its' : List Value} {n : Nat} {f : Array Value → Array Value} {t' : Nat} (I : Inv X pins σ H s) (hH : H l = some (.lst xs))
  (e : s.heap.get? l = some { cls := .type "list", data := .seq its.toArray n }) (hf : f its.toArray = its'.toArray) (hv : Za ys its') (hz : ys.length ≤ sizeLine) :
  Inv X pins σ (upd H l (.lst ys)) { s with heap := s.heap.update l (Obj.mapSeq f), toks := t' } := by
 have q := PySem.IsL.update e f
 rw [hf] at q
 refine I.write (x := l) (e := l) (by rw [hH]; exact trivial) (.inl rfl) (fun b' u hb hu => (Heap.get?_update_other s.heap (Obj.mapSeq f) (Ne.symm hb)).trans hu) ⟨_, q⟩ ?_
 exact ⟨hz, its', _, hv, q⟩
theorem Inv.lnew {its : List Value} {t' : Nat} (I : Inv X pins σ H s) (hv : Za ys its) (hz : ys.length ≤ sizeLine) :
  Inv X pins σ (upd H s.heap.objs.size (.lst ys)) { s with heap := s.heap.push { cls := .type "list", data := .seq its.toArray }, toks := t' } :=
 I.laid (fun _ _ q => Heap.get?_push_of_some _ q) (Nat.le_refl _) ⟨hz, its, 0, hv, Heap.get?_push_size _ rfl⟩
theorem Inv.fresh (I : Inv X pins σ H s) : H s.heap.objs.size = none := I.hok.fresh (Nat.le_refl _)
theorem Inv.lstM (I : Inv X pins σ H s) (hH : H l = some (.lst xs)) : xs.length ≤ sizeLine ∧ ∃ (its : List Value) (n : Nat), Za xs its ∧ xs.length = its.length ∧ s.heap.get? l = some { cls := .type "list", data := .seq its.toArray n } := by
 obtain ⟨z, its, n, r, e⟩ := I.hok l _ hH
 exact ⟨z, its, n, r, r.length, e⟩
theorem notLongL {n : Nat} (h : n ≤ sizeLine) : Builtin.List.listTooLong n = false := by
 unfold Builtin.List.listTooLong
 exact decide_eq_false (by omega)
end
section
variable {X : Cx}
def rAppend : V → List V → Hp → VK → Prop := fun x vs H Q => ∃ l xs y, x = .ref l ∧ vs = [y] ∧ H l = some (.lst xs) ∧ xs.length < sizeLine ∧ Q .non (upd H l (.lst (xs ++ [y])))
theorem mt_append : MtM X "list.append" rAppend := by
 intro pins s σ H x vs v us Q I rx rv h
 obtain ⟨l, xs, y, rfl, rfl, hH, hz, q⟩ := h
 cases rx
 obtain ⟨u, rfl, ru⟩ := rv.one
 obtain ⟨z, its, n, r, hl, e⟩ := I.lstM hH
 refine call_meets F.slot_list_append ⟨_, e, rfl⟩ F.entry_list_append (F.args_list_append_2 _ _) (PySem.list_append l its.toArray n u (by rw [List.size_toArray]; omega)) ⟨e, ?_⟩
 refine ⟨.non, _, I.lset (its' := its ++ [u]) hH e (by simp) (r.append (.cons ru .nil)) ?_, rfl, q⟩
 rw [List.length_append, List.length_singleton]
 omega
def rPop : V → List V → Hp → VK → Prop := fun x vs H Q => ∃ l xs y, x = .ref l ∧ vs = [] ∧ H l = some (.lst xs) ∧ xs[xs.length - 1]? = some y ∧ Q y (upd H l (.lst xs.dropLast))
theorem mt_pop : MtM X "list.pop" rPop := by
 intro pins s σ H x vs v us Q I rx rv h
 obtain ⟨l, xs, y, rfl, rfl, hH, hy, q⟩ := h
 cases rx
 have hus := rv.zero
 subst hus
 obtain ⟨z, its, n, r, hl, e⟩ := I.lstM hH
 obtain ⟨u, hu, ru⟩ := r.get hy
 have hy' : its.toArray[its.toArray.size - 1]? = some u := by
  show its.toArray[its.length - 1]? = some u
  rw [← Array.getElem?_toList, ← hl]
  exact hu
 refine call_meets F.slot_list_pop ⟨_, e, rfl⟩ F.entry_list_pop (F.args_list_pop_1 _) (MeetsSeq.list_pop_last l its.toArray n u hy' (by rw [List.size_toArray]; omega)) ⟨e, ?_⟩
 refine ⟨y, _, I.lset (its' := its.dropLast) hH e ?_ r.dropLast ?_, ru, q⟩
 ·show its.toArray.eraseIdxIfInBounds (its.toArray.size - 1) = its.dropLast.toArray
  rw [List.size_toArray, List.eraseIdxIfInBounds_toArray, erase_last]
 ·rw [List.length_dropLast]
  omega
def rRep : R2 := fun x y H Q => ∃ l k xs, x = .ref l ∧ y = .int k ∧ H l = some (.lst xs) ∧ -(2 ^ 63) ≤ k ∧ k < 2 ^ 63 ∧ xs.length * k.toNat ≤ sizeLine ∧
 ∀ p, H p = none → Q (.ref p) (upd H p (.lst (List.replicate k.toNat xs).flatten))
theorem len_rep {α : Type} (xs : List α) (k : Nat) : (List.replicate k xs).flatten.length = k * xs.length := by
 induction k with
 | zero => simp
 | succ k ih => rw [List.replicate_succ, List.flatten_cons, List.length_append, ih, Nat.succ_mul, Nat.add_comm]
theorem op_rep : OpR X (binaryOp .Mult) rRep := by
 intro pins s σ H x y v u Q I rx ry h
 obtain ⟨l, k, xs, rfl, rfl, hH, h1, h2, hz, q⟩ := h
 cases rx
 obtain ⟨t, rfl⟩ := ry
 obtain ⟨z, its, n, r, hl, e⟩ := I.lstM hH
 have hlen : its.toArray.size * k.toNat ≤ sizeLine := by rw [List.size_toArray, ← hl]; exact hz
 have hcap : ¬ its.toArray.size * k.toNat > (2 ^ 63 - 1) / 8 := by
  have : (sizeLine : Nat) ≤ (2 ^ 63 - 1) / 8 := by decide
  omega
 have hfit : ¬ (!Builtin.List.listFitsIndex k) = true := by
  rw [fitsIndex_both h1 h2]
  exact Bool.false_ne_true
 have hlong : ¬ Builtin.List.listTooLong (its.toArray.size * k.toNat) = true := by
  rw [notLongL hlen]
  exact Bool.false_ne_true
 have hnew : List.foldl (fun x1 x2 => x1 ++ x2) #[] (List.replicate (if its.toArray.isEmpty = true then 0 else k.toNat) its.toArray) = (List.replicate k.toNat its).flatten.toArray := by
  have f0 : ∀ m : Nat, List.foldl (fun x1 x2 => x1 ++ x2) #[] (List.replicate m its.toArray) = (List.replicate m its).flatten.toArray := fun m => by
   have := foldl_rep its m []
   rw [List.nil_append] at this
   exact this
  rw [f0]
  cases its with
  | nil => simp
  | cons a r' => rw [if_neg (by simp)]
 refine wpAny_binaryOp_repeat_ref (T := "list") (U := "int") (by decide) ⟨_, e, rfl⟩ (fun s' => typeIs_int s' k t) noFill_list_mul F.fills_int_mul F.slot_int_rmul repeat_list F.slot_int_index.lookup
  (call_meets F.slot_int_rmul (typeIs_int s k t) F.entry_int_rmul (F.args_int_rmul_2 _ _) (int___rmul___int_list k t l its.toArray n)
   ⟨e, rfl, ⟨_, e, rfl⟩, call_meets F.slot_list_mul ⟨_, e, rfl⟩ F.entry_list_mul (F.args_list_mul_2 _ _) (AutoListH.list___mul___list_int_3 l its.toArray n k t hfit hcap hlong) ⟨e, ?_⟩⟩)
 rw [hnew]
 exact ⟨.ref _, _, I.lnew (t' := s.toks) (r.rep k.toNat) (by rw [len_rep, Nat.mul_comm]; exact hz), rfl, q _ I.fresh⟩
end
section
variable {prog : Program} {w : World} {A : Around} {E : Value → Shared → Prop} {s : Shared}
end
section
variable {X : Cx}
end
end L2
namespace Att
open PySem PySem.W PySem.Calls PyProof.Rows
theorem ints_of_wellAll {P : Params} {h : Heap} : ∀ (ns : List Int) (vs : List Value), WellAll P h vs (ns.map WData.int) → IntsAre vs ns := by
 intro ns
 induction ns with
 | nil =>
  intro vs w
  rw [List.map_nil] at w
  cases w
  exact .nil
 | cons n ns ih =>
  intro vs w
  rw [List.map_cons] at w
  cases w with
  | cons a b =>
   cases a
   exact .cons _ _ (ih _ b)
theorem script_of {l : OpenLaw} {n : Nat} (hn : l.most = some n) {P : Params} {h : Heap} {args : List WData} {vals : List Value}
  (hpre : l.row.toRowW.claim.pre args = true) (hwl : WellAll P h vals args) :
  ∃ a vs ns, vals = [Value.ref a] ∧ args = [WData.list (ns.map WData.int)] ∧ h.get? a = some { cls := .type "list", data := .seq vs.toArray } ∧ IntsAre vs ns ∧ ns.length ≤ n := by
 have hsh : WShape.hasAll [] args [.list .int] = true := (pre_splitW hpre).1
 have hc : l.pre.holds [] { args := args } = true := (pre_splitW hpre).2
 obtain ⟨d, r, rfl, h1, h2⟩ := hasAllW_cons hsh
 obtain rfl := hasAllW_nil h2
 obtain ⟨xs, rfl, h3⟩ := hasW_list h1
 obtain ⟨ns, rfl⟩ := items_int h3
 have hlen : ns.length ≤ n := by
  unfold OpenLaw.pre at hc
  have h4 : (WTm.not (.lt (.lit (.int (n : Int))) (.len (.arg 0)))).holds [] { args := [.list (ns.map .int)] } = true := by
   have h4 := (holds_andW hc).1
   rw [hn] at h4
   exact h4
  have h5 := condW_of h4 (w_not (w_lt w_lit (w_len_list (w_arg rfl))))
  rw [List.length_map] at h5
  refine Nat.le_of_not_lt fun q => ?_
  have q' : (n : Int) < ((ns.length : Nat) : Int) := by omega
  first
   | (rw [decide_eq_true q'] at h5; exact absurd h5 (by decide))
   | (simp at h5; omega)
 cases hwl with
 | cons w1 w2 =>
  cases w2
  cases w1 with
  | list ho hall => exact ⟨_, _, ns, rfl, rfl, ho, ints_of_wellAll ns _ hall, hlen⟩
theorem post_true (l : OpenLaw) (args : List WData) : l.row.toRowW.claim.post args (.bool true) args = true :=
 postW_of (r := l.row.toRowW) (X := (true == true))
  (show WShape.has [] (.bool true) .bool = true by first | rfl | decide | simp [WShape.has, WShape.arms, WShape.armsAll])
  (show (WTm.eq .res (.lit (.bool true))).value [] { args := args, res := some (.bool true), after := args } = some (.bool (true == true)) from w_eq_bool (w_res rfl) w_lit) rfl
theorem attach_call {l : OpenLaw} {n : Nat} {q : Program} {loose : List Str} {XP : (Str → Option Value) → Heap → Prop} {YP : World → Heap → Prop} {d : DefRec}
  (hn : l.most = some n) (hdf : d.params.defaults = [])
  (call : ∀ (w : World) (s₀ s₁ : Shared) (mg mb : Str → Option Value) (fa : Addr) (o : Obj) (pm cd doc : Value) (a : Addr) (vs : List Value) (ns : List Int),
   Ground q loose [] XP w s₀ mg mb s₁.heap → YP w s₁.heap →
   s₁.heap.get? fa = some o → o.data = .func (docDef d.name d.params d.body d.scope pm cd doc) → s₁.heap.CodeRec cd d.name → mg d.name = some (.ref fa) →
   s₁.heap.get? a = some { cls := .type "list", data := .seq vs.toArray } → IntsAre vs ns → ns.length ≤ n → s₁.gens = #[] →
   codeAny (model l.prog w) callerA (.call (.ref fa) ⟨[.ref a], []⟩) (fun r s' => r = .ok (.ret (.bool true)) ∧ OldK s₁.heap s'.heap ∧ s'.os = s₁.os ∧ AllBare s'.gens) s₁) :
  WalkO q loose XP YP l.row.toRowW d [] (fun f vs => PySem.call f vs) := by
 intro w s₀ s₁ mg mb G Y fa o pm cd doc dV kV ho hd hcd hD hmg hg args vals as hpre hlay hrd hwl hlo
 obtain rfl : dV = .none := Dflts.none hD hdf
 obtain rfl : kV = .none := Dflts.noKw hD
 obtain ⟨a, vs, ns, rfl, rfl, hobj, hints, hlen⟩ := script_of hn hpre hwl
 refine enter_call (codeAny_mono (call w s₀ s₁ mg mb fa o pm cd doc a vs ns G Y ho (fd_plain hd) hcd hmg hobj hints hlen hg) fun r s' hq => ?_)
 obtain ⟨rfl, h2, h3, h4⟩ := hq
 exact ⟨.inl ⟨.bool true, .bool true, [], rfl, fun _ => rfl, .bool true, post_true l _, fun _ => ⟨List.Pairwise.nil, fun _ hm => (nomatch hm)⟩⟩, h2, h3, h4⟩
section
variable {prog : Program} {w : World} {A : Around} {E : Value → Shared → Prop} {s : Shared} {K : Frag}
end
end Att
namespace L2
open PySem PySem.Spec PyProof.Rows
theorem vals_ints : ∀ {vs : List Value} {ns : List Int}, IntsAre vs ns → Za (ns.map V.int) vs
 | _, _, .nil => .nil
 | _, _, .cons n t h => .cons ⟨t, rfl⟩ (vals_ints h)
def Only (H : Hp) : Prop := ∀ b, H b = none ∨ ∃ o xs, H b = some (.frz o (.lst xs))
theorem law_call {P : Program} {w : World} {K : PySem.W.Frag} {mg mb : Str → Option Value} {CX : CXT} {k : Nat} {fa a : Addr} {fd : FuncData} {x : Str} {sp : Sp} {s₁ : Shared} {vs : List Value} {ns : List Int}
  (KX : K.In s₁.heap) (hns : s₁.heap.Ns mainGlobals mg) (hb : s₁.heap.Ns builtinsNs mb) (hbb : ∀ x : Str, x ≠ "__name__" → mb x = bootBuiltins x) (hlim : s₁.heap.NoLimit) (hseer : s₁.heap.NoSeer) (htree : P.given.tree = none) (hg : s₁.gens = #[])
  (ha : s₁.heap.get? a = some { cls := .type "list", data := .seq vs.toArray }) (hi : IntsAre vs ns) (hl : ns.length ≤ sizeLine) (hr : Room k callerA)
  (F : ∀ base : Heap, K.In base → base.Ns mainGlobals mg → FnOk P w K mg base CX k fa fd [x] sp) (hbind : ∀ (s : Shared) (u : Value), BindsTo s fd ⟨[u], []⟩ [(x, u)])
  (hsp : ∀ H : Hp, Only H → SqL K H a (ns.map V.int) → sp [.ref a] H (fun v _ => v = .bl true) fun _ _ _ => False)
  (hCX : ∀ H e s', CX [] H s₁ (fun _ _ _ => False) e s' → False) :
  codeAny (model P w) callerA (.call (.ref fa) ⟨[.ref a], []⟩) (fun r s' => r = .ok (.ret (.bool true)) ∧ OldK s₁.heap s'.heap ∧ s'.os = s₁.os ∧ AllBare s'.gens) s₁ := by
 have rv := vals_ints hi
 have lenV := hi.length
 have core : ∀ H : Hp, Only H → SqL K H a (ns.map V.int) → HOk P w H s₁.heap → (∀ b, H b ≠ none → b = a) → (H a ≠ none → K.lookup a = none) →
   codeAny (model P w) callerA (.call (.ref fa) ⟨[.ref a], []⟩) (fun r s' => r = .ok (.ret (.bool true)) ∧ OldK s₁.heap s'.heap ∧ s'.os = s₁.os ∧ AllBare s'.gens) s₁ := by
  intro H hO hS hok hA hK
  have base_of : ∀ {b : Addr} {o : Obj}, s₁.heap.get? b = some o → H b = none → (hidT s₁.heap H).get? b = some o := fun e n => hidT_get e n
  have noA : ∀ {b : Addr} {o : Obj} {es : Array DictEntry} {ep : Nat}, s₁.heap.get? b = some o → o.data = .dict es ep → H b = none := fun {b o es ep} e d => by
   cases q : H b with
   | none => rfl
   | some u =>
    have e' : b = a := hA b (by rw [q]; simp)
    subst e'
    rw [ha] at e; cases e
    have d' : Data.seq vs.toArray _ = Data.dict es ep := d
    cases d'
  have nsK : ∀ {b : Addr} {m : Str → Option Value}, s₁.heap.Ns b m → (hidT s₁.heap H).Ns b m := fun {b m} ⟨o, es, ep, e, d, r⟩ => ⟨o, es, ep, base_of e (noA e d), d, r⟩
  have hKb : K.In (hidT s₁.heap H) := fun b o e => base_of (KX b o e) (by
   cases q : H b with
   | none => rfl
   | some u =>
    have e' : b = a := hA b (by rw [q]; simp)
    subst e'
    rw [hK (by rw [q]; simp)] at e; cases e)
  have hM : Mod K mg (hidT s₁.heap H) := ⟨hKb, nsK hns, ⟨mb, nsK hb, hbb⟩, let ⟨mc, h1, h2⟩ := hlim; ⟨mc, nsK h1, h2⟩, (by
   obtain ⟨⟨mc, x1, x2⟩, ⟨mm, x3, x4⟩, ⟨mb', x5, x6⟩, ⟨mg', bm, ob, x7, x8, x9, x10, x11⟩⟩ := hseer
   refine ⟨⟨mc, nsK x1, x2⟩, ⟨mm, nsK x3, x4⟩, ⟨mb', nsK x5, x6⟩, ⟨mg', bm, ob, nsK x7, x8, base_of x9 ?_, x10, x11⟩⟩
   cases q : H bm with
   | none => rfl
   | some u =>
    have e' : bm = a := hA bm (by rw [q]; simp)
    subst e'
    rw [ha] at x9; cases x9
    simp at x10)⟩
  have e0 : Env0 P w K mg (hidT s₁.heap H) callerA [] s₁ H := ⟨rfl, hM, fun b o e => of_hidT e, Nat.le_of_eq (hidT_size _ _), trivial, fun b hb => absurd (show b ∈ ([] : List Addr) from hb) (by simp), hok, .of_eq hg, htree⟩
  refine codeAny_mono ((F _ hKb (nsK hns)).run callerA [] s₁ H ⟨[.ref a], []⟩ [.ref a] [.ref a] _ _ hr e0 (hbind s₁ (.ref a)) (.cons rfl .nil) (hsp H hO hS)) fun r s' h => ?_
  cases r with
  | error e => exact (hCX H e s' h).elim
  | ok fl =>
   cases fl with
   | next => exact False.elim h
   | brk => exact False.elim h
   | cont => exact False.elim h
   | ret u =>
    obtain ⟨v, H', os, bare, un, hok', r', q⟩ := h
    have q' : v = .bl true := q
    subst q'
    obtain rfl : u = Value.bool true := r'
    refine ⟨rfl, OldK.of_keep fun b o e => ?_, os, bare⟩
    cases q : H b with
    | none => exact un.keep b o e q (by intro z; exact absurd (show b ∈ ([] : List Addr) from z) (by simp)) (by simp)
    | some u =>
     rcases hO b with z | ⟨ob, xs, z⟩
     ·rw [q] at z; cases z
     ·have z2 := un.frzs b ob _ z
      obtain ⟨e1, _⟩ := hok b _ z
      obtain ⟨e2, _⟩ := hok' b _ z2
      rw [e] at e1; cases e1
      exact e2
 cases hk : K.lookup a with
 | some o =>
  have e := KX a o hk
  rw [ha] at e
  cases e
  refine core (fun _ => none) (fun _ => .inl rfl) (.inr ⟨_, vs.toArray, _, hk, rfl, rfl, rfl, by rw [List.size_toArray, lenV]; exact hl, by simpa using rv⟩) (fun b u z => by have z' : (none : Option HO) = some u := z; cases z') (fun b z => absurd rfl z) fun z => absurd rfl z
 | none =>
  refine core (fun b => if b = a then some (.frz { cls := .type "list", data := .seq vs.toArray } (.lst (ns.map V.int))) else none) (fun b => ?_) (.inl (.inr ⟨{ cls := .type "list", data := .seq vs.toArray }, if_pos rfl⟩)) (fun b u z => ?_) (fun b z => ?_) fun _ => hk
  ·by_cases hb : b = a
   ·exact .inr ⟨_, _, if_pos hb⟩
   ·exact .inl (if_neg hb)
  ·by_cases hb : b = a
   ·have z' := (if_pos hb).symm.trans z
    cases z'
    subst hb
    exact ⟨ha, by rw [List.length_map]; exact hl, vs, _, rv, ha⟩
   ·have z' := (if_neg hb).symm.trans z
    cases z'
  ·by_cases hb : b = a
   ·exact hb
   ·exact absurd (if_neg hb) z
end L2
namespace L2
open PySem PySem.Spec PyProof.Rows
theorem walk_of {l : PySem.W.OpenLaw} {n k : Nat} {q : Program} {loose : List Str} {XP : (Str → Option Value) → Heap → Prop} {YP : World → Heap → Prop} {d : DefRec} {K : Params → PySem.W.Frag} {CX : World → CXT} {sp : World → Sp} {x : Str}
  (hn : l.most = some n) (hn2 : n ≤ sizeLine) (hdf : d.params.defaults = []) (hr : Room k callerA) (himp : importsNone q = true) (htree : l.prog.given.tree = none)
  (hY : ∀ (w : World) (h : Heap), YP w h → (K w.params).In h)
  (F : ∀ (w : World) (mg : Str → Option Value) (fa : Addr) (h : Heap), (K w.params).In h → h.Ns mainGlobals mg → mg d.name = some (.ref fa) →
   ∃ fd : FuncData, (∀ (s : Shared) (u : Value), BindsTo s fd ⟨[u], []⟩ [(x, u)]) ∧
    ∀ base : Heap, (K w.params).In base → base.Ns mainGlobals mg → FnOk l.prog w (K w.params) mg base (CX w) k fa fd [x] (sp w))
  (hsp : ∀ (w : World) (H : Hp) (a : Addr) (ns : List Int), ns.length ≤ n → Only H → SqL (K w.params) H a (ns.map V.int) → sp w [.ref a] H (fun v _ => v = .bl true) fun _ _ _ => False)
  (hCX : ∀ (w : World) (H : Hp) (s : Shared) (e : Value) (s' : Shared), CX w [] H s (fun _ _ _ => False) e s' → False) :
  PySem.W.WalkO q loose XP YP l.row.toRowW d [] (fun f vs => PySem.call f vs) := by
 refine Att.attach_call hn hdf fun w s₀ s₁ mg mb fa o pm cd doc a vs ns G Y ho hd hcd hmg hobj hints hlen hg => ?_
 have KX := hY w _ Y
 obtain ⟨fd, hb, hF⟩ := F w mg fa _ KX G.T.g hmg
 exact law_call KX G.T.g G.T.b G.T.builtins G.T.nolimit (G.T.seer himp) htree hg hobj hints (Nat.le_trans hlen hn2) hr hF hb (fun H hO hS => hsp w H a ns hlen hO hS) fun H e s' => hCX w H s₁ e s'
end L2
namespace L2
open PySem PySem.Spec PyProof.Rows
def zq (s : Stmt) : Arguments := match s with
 | .FunctionDef _ a _ _ _ _ _ _ _ _ => a
 | _ => { posonlyargs := [], args := [], vararg := none, kwonlyargs := [], kw_defaults := [], kwarg := none, defaults := [] }
def zm (s : Stmt) : List Stmt := match s with
 | .FunctionDef _ _ b _ _ _ _ _ _ _ => b
 | _ => []
def zi (s : Stmt) : Scope := match s with
 | .FunctionDef _ _ _ _ _ _ sc _ _ _ => sc
 | _ => { kind := .function, names := [], isGenerator := false, isCoroutine := false }
abbrev CX0 : CXT := fun _ _ _ _ _ _ => False
abbrev E0 : XK := fun _ _ _ => False
theorem pass0 {X : Cx} : Passes CX0 X E0 := fun _ _ _ _ _ _ _ h => h.elim
structure Fun (K : PySem.W.Frag) (x qual : Str) (st : Stmt) (f : Addr) (fd : FuncData) : Prop where
 ex : ∃ (oc : Value) (od : Option Addr) (kV doc pm : Value) (an : Option Addr) (cdv ct : Value) (osl : Array (Option Value)),
  fd = fnOf x qual (zq st) (zm st) (zi st) .none kV doc pm an cdv ct ∧ K.lookup f = some ⟨oc, od, .func fd, osl⟩ ∧ codeIn K cdv qual = true
 kp : keepIn K (.ref f) = true
section
variable {P : Program} {w : World} {K : PySem.W.Frag} {mg : Str → Option Value} {base : Heap}
theorem Fun.ok {x qual : Str} {st : Stmt} {f : Addr} {fd : FuncData} {N ps : List Str} {k : Nat} {sp : Sp} (F : Fun K x qual st f fd) (S : FnScope N ps (zi st)) (len : ∀ vs H Q E, sp vs H Q E → vs.length = ps.length)
  (hbody : ∀ (cdv : Value) (A : Around) (outer : List Env) (s : Shared) (H : Hp) (vs : List V) (Q : VK) (E : XK), Room k (A.deeper (envOfC qual (zi st) s.heap.objs.size f cdv)) → sp vs H Q E →
   ∃ t, PSs (cxOf CX0 P w K mg base N qual (zi st) f cdv A outer s H E).nox (zm st) t ∧ t { nx := fun _ H' => Q .non H', rt := Q } (start N vs) H) : FnOk P w K mg base CX0 (k + 1) f fd ps sp := by
 obtain ⟨oc, od, kV, doc, pm, an, cdv, ct, osl, rfl, lk, hcd⟩ := F.ex
 refine fn_of lk hcd S len fun A outer s H vs Q E hr hsp => ?_
 obtain ⟨t, h, q⟩ := hbody cdv A outer s H vs Q E hr hsp
 exact ⟨t, h.nox, q⟩
theorem Fun.binds {x qual : Str} {st : Stmt} {f : Addr} {fd : FuncData} {ps : List Str} (F : Fun K x qual st f fd)
  (h : ∀ (kV doc pm : Value) (an : Option Addr) (cdv ct : Value) (us : List Value), us.length = ps.length → bindArgs (fnOf x qual (zq st) (zm st) (zi st) .none kV doc pm an cdv ct) ⟨us, []⟩ = pure (ps.zip us)) : Binds K fd ps [] := by
 obtain ⟨oc, od, kV, doc, pm, an, cdv, ct, osl, rfl, lk, hcd⟩ := F.ex
 exact .all (h kV doc pm an cdv ct)
theorem zL {x qual : Str} {st : Stmt} {f : Addr} {oc : Value} {od an : Option Addr} {osl : Array (Option Value)} {kV doc pm cdv ct : Value} (l : K.lookup f = some ⟨oc, od, .func (fnOf x qual (zq st) (zm st) (zi st) .none kV doc pm an cdv ct), osl⟩)
  (c : codeIn K cdv qual = true) (k : keepIn K (.ref f) = true) : Fun K x qual st f (fnOf x qual (zq st) (zm st) (zi st) .none kV doc pm an cdv ct) := ⟨⟨oc, od, kV, doc, pm, an, cdv, ct, osl, rfl, l, c⟩, k⟩
end
theorem hu_of {A : Around} {k : Nat} (hr : Room k A) : A.units + 1 < cLine := Nat.lt_of_le_of_lt (Nat.add_le_add_left (by decide : 1 ≤ 64) _) hr.units
section
variable {X : Cx}
theorem pv (i : Nat) {x : Str} {pos : Pos} (hN : X.N[i]? = some x := by rfl) (hv : Vis X.env.scope x := by first | exact Or.inl rfl | exact Or.inr (Or.inl rfl) | exact Or.inr (Or.inr rfl)) (hd : (x == ("__debug__" : Str)) = false := by decide)
  (hcd : (x == ("__classdict__" : Str)) = false := by decide) : PE X (.Name x pos) (tVar i) := pe_var hN hv hd hcd
end
def Zx (H H' : Hp) : Prop := ∀ b o, H b = some o → H' b = some o
theorem Zx.refl (H : Hp) : Zx H H := fun _ _ h => h
theorem Zx.trans {H H1 H2 : Hp} (a : Zx H H1) (b : Zx H1 H2) : Zx H H2 := fun c o h => b c o (a c o h)
theorem Zx.free {H H' : Hp} (e : Zx H H') {l : Addr} (h : H' l = Option.none) : H l = Option.none := by
 cases q : H l with
 | none => rfl
 | some o =>
  rw [e l o q] at h
  cases h
theorem Zx.seq {K : PySem.W.Frag} {H H' : Hp} {a : Addr} {xs : List V} (e : Zx H H') (h : SqL K H a xs) : SqL K H' a xs := by
 rcases h with (h | ⟨o, h⟩) | h
 ·exact .inl (.inl (e _ _ h))
 ·exact .inl (.inr ⟨o, e _ _ h⟩)
 ·exact .inr h
end L2
set_option maxHeartbeats 4000000
namespace L2
open PySem PySem.Spec PyProof.Rows
def clOf (env : Env) : List (Str × NameKind) → List (Str × Addr) → List (Str × Addr)
 | [], acc => acc
 | (n, k) :: r, acc => if k == .free then (match env.cells.lookup n with | some a => clOf env r ((n, a) :: acc) | none => clOf env r acc) else clOf env r acc
theorem closure_of {env : Env} {scope : Scope} (h : ∀ x ∈ scope.names, x.2 = .free → ∃ c, env.cells.lookup x.1 = some c) : closureFor scope env = pure (clOf env scope.names []) := by
 suffices ∀ (names : List (Str × NameKind)) (acc : List (Str × Addr)), (∀ x ∈ names, x.2 = .free → ∃ c, env.cells.lookup x.1 = some c) →
   (forIn names acc fun (x : Str × NameKind) cs => (do
    if x.2 == .free then
     let a ← cellOf env x.1
     pure (ForInStep.yield ((x.1, a) :: cs))
    else pure (ForInStep.yield cs) : Sem (ForInStep (List (Str × Addr))))) = pure (clOf env names acc) by
  have q := this scope.names [] h
  unfold closureFor
  refine Eq.trans (bind_pure _) ?_
  rw [← q]
 intro names
 induction names with
 | nil => intro acc _; rfl
 | cons x r ih =>
  intro acc h
  obtain ⟨n, k⟩ := x
  rw [List.forIn_cons]
  cases hk : k == NameKind.free with
  | false =>
   simp only [hk, Bool.false_eq_true, if_false, pure_bind]
   rw [ih acc fun y hy => h y (List.mem_cons_of_mem _ hy)]
   simp [clOf, hk]
  | true =>
   obtain ⟨c, hc⟩ := h (n, k) List.mem_cons_self (by simpa using hk)
   have hc' : env.cells.lookup n = some c := hc
   have e1 : cellOf env n = pure c := by unfold cellOf; rw [hc']
   simp only [hk, if_true, e1, pure_bind]
   rw [ih _ fun y hy => h y (List.mem_cons_of_mem _ hy)]
   simp [clOf, hk, hc']
theorem clOf_mem {env : Env} : ∀ (names : List (Str × NameKind)) (acc : List (Str × Addr)) (n : Str) (c : Addr), (n, c) ∈ clOf env names acc → (n, c) ∈ acc ∨ (∃ k, (n, k) ∈ names ∧ k = .free ∧ env.cells.lookup n = some c)
 | [], _, _, _, h => .inl h
 | (m, k) :: r, acc, n, c, h => by
  unfold clOf at h
  cases hk : k == NameKind.free with
  | false =>
   rw [hk] at h
   rcases clOf_mem r acc n c (by simpa using h) with q | ⟨k', q1, q2⟩
   ·exact .inl q
   ·exact .inr ⟨k', List.mem_cons_of_mem _ q1, q2⟩
  | true =>
   rw [hk] at h
   have hk' : k = .free := by simpa using hk
   cases hc : env.cells.lookup m with
   | none =>
    rw [hc] at h
    rcases clOf_mem r acc n c (by simpa using h) with q | ⟨k', q1, q2⟩
    ·exact .inl q
    ·exact .inr ⟨k', List.mem_cons_of_mem _ q1, q2⟩
   | some a =>
    rw [hc] at h
    rcases clOf_mem r _ n c (by simpa using h) with q | ⟨k', q1, q2⟩
    ·rcases List.mem_cons.mp q with e | q
     ·cases e; exact .inr ⟨k, List.mem_cons_self, hk', hc⟩
     ·exact .inl q
    ·exact .inr ⟨k', List.mem_cons_of_mem _ q1, q2⟩
theorem clOf_has {env : Env} : ∀ (names : List (Str × NameKind)) (acc : List (Str × Addr)) (n : Str), ((n, NameKind.free) ∈ names ∧ (∃ c, env.cells.lookup n = some c)) ∨ (acc.lookup n).isSome = true → ((clOf env names acc).lookup n).isSome = true
 | [], _, _, h => h.elim (fun ⟨q, _⟩ => nomatch q) id
 | (m, k) :: r, acc, n, h => by
  unfold clOf
  cases hk : k == NameKind.free with
  | false =>
   refine (clOf_has r acc n ?_)
   rcases h with ⟨q, c⟩ | h
   ·rcases List.mem_cons.mp q with e | q
    ·cases e; simp at hk
    ·exact .inl ⟨q, c⟩
   ·exact .inr h
  | true =>
   have hk' : k = .free := by simpa using hk
   subst hk'
   simp only [if_true]
   cases hc : env.cells.lookup m with
   | none =>
    refine (clOf_has r acc n ?_)
    rcases h with ⟨q, c, hc2⟩ | h
    ·rcases List.mem_cons.mp q with e | q
     ·cases e; rw [hc] at hc2; cases hc2
     ·exact .inl ⟨q, c, hc2⟩
    ·exact .inr h
   | some a =>
    refine (clOf_has r _ n ?_)
    by_cases e : n = m
    ·exact .inr (by simp [List.lookup_cons, e])
    ·have e' : (n == m) = false := by simpa using e
     rcases h with ⟨q, c⟩ | h
     ·rcases List.mem_cons.mp q with e2 | q
      ·cases e2; exact absurd rfl e
      ·exact .inl ⟨q, c⟩
     ·exact .inr (by simpa [List.lookup_cons, e'] using h)
theorem clOf_free {env : Env} {n : Str} {names : List (Str × NameKind)} (h : ((n, NameKind.free) ∈ names)) {c : Addr} (hc : env.cells.lookup n = some c) : (clOf env names []).lookup n = some c := by
 have q := clOf_has names [] n (.inl ⟨h, c, hc⟩)
 obtain ⟨c', e⟩ := Option.isSome_iff_exists.mp q
 rcases clOf_mem names [] n c' (mem_of_lookup e) with z | ⟨_, _, _, z⟩
 ·cases z
 ·rw [hc] at z; cases z; exact e
theorem newEnv_comp {M : Model} {A : Around} {E : Value → Shared → Prop} {s : Shared} {scope : Scope} {globals : Addr} {cl : List (Str × Addr)} {qual : Str} {env : Env} {Q : Env → Shared → Prop}
  (hQ : ∀ h', (∀ b o, s.heap.get? b = some o → h'.get? b = some o) → h'.Ns s.heap.objs.size (fun _ => none) →
   (∀ n c, (n, c) ∈ cellsFrom (s.heap.objs.size + 1) scope.names cl → (n, c) ∈ cl ∨ ((n, c) ∈ cellsFrom (s.heap.objs.size + 1) scope.names [] ∧ s.heap.objs.size < c ∧ h'.IsCell c none)) →
   ((cellsFrom (s.heap.objs.size + 1) scope.names []).Pairwise fun x y => x.2 ≠ y.2) →
   Q (newEnv scope s.heap.objs.size globals (cellsFrom (s.heap.objs.size + 1) scope.names cl) qual none .none (some env) builtinsNs) { s with heap := h' }) :
  wpAny M A (newFunctionEnv scope globals cl [] qual none .none (some env)) Q E s := by
 unfold newFunctionEnv
 simp only [Option.isSome_some, if_true]
 refine wpAny_bind (wpAny_alloc ?_)
 refine wpAny_bind (wpAny_layCells _ (fun name kind cells => by cases hkc : kind == NameKind.cell <;> simp [hkc]) _ _ _ _ ?_)
 have ok := cellsFrom_ok scope.names (s.heap.push { cls := .type "dict", data := .dict #[] }) (s.heap.objs.size + 1) [] ⟨fun _ _ hm => (nomatch hm), List.Pairwise.nil⟩ (by rw [Heap.size_push]; exact Nat.le_refl _)
 rw [Heap.size_push] at ok
 rw [show ({ s with heap := s.heap.push { cls := .type "dict", data := .dict #[] } } : Shared).heap.objs.size = s.heap.objs.size + 1 from Heap.size_push ..]
 simp only [List.forIn_nil, pure_bind]
 refine wpAny_pure (hQ _ (fun b o e => pushCells_keeps _ _ b o (Heap.get?_push_of_some _ e)) ((Heap.Ns.new s.heap (.type "dict")).keeps (pushCells_keeps _ _)) ?_ ok.apart)
 have app : ∀ (names : List (Str × NameKind)) (n : Nat) (acc : List (Str × Addr)) (x : Str × Addr), x ∈ cellsFrom n names (acc ++ cl) → x ∈ cl ∨ x ∈ cellsFrom n names acc := by
  intro names
  induction names with
  | nil => intro n acc x h; exact (List.mem_append.mp h).symm
  | cons y r ih =>
   intro n acc x h
   obtain ⟨m, k⟩ := y
   unfold cellsFrom at h ⊢
   split at h
   ·rename_i hk; rw [if_pos hk]; exact ih (n + 1) ((m, n) :: acc) x h
   ·rename_i hk; rw [if_neg hk]; exact ih n acc x h
 intro n c hm
 rcases app scope.names _ [] (n, c) hm with q | q
 ·exact .inl q
 ·obtain ⟨z1, z2⟩ := ok.empty n c q
  exact .inr ⟨q, z2, z1⟩
theorem codeAny_compLoop_gen {prog : Program} {w : World} {A : Around} {R : Result → Shared → Prop} {s : Shared} {elt target iter : Expr} {ifs : List Expr} {scope : Scope} {pos : Pos} {it acc : Value} {env : Env} (I : Nat → Shared → Prop)
  (turn : ∀ n s, I n s → wpAny (model prog w) A (pyNext it) (fun r s₁ => match r with
   | none => R (.ok .next) s₁
   | some v => wpAny (model prog w) A (letOwnedTupleGo target it v) (fun _ s₁' => wpAny (model prog w) A (assign target env v) (fun _ s₂ =>
     wpAny (model prog w) A (forIn ifs true fun c r => if r = true then do let ok ← isTrue c env (eval c env); pure (ForInStep.yield ok) else pure (ForInStep.yield r)) (fun ok s₃ =>
      if ok = true then wpAny (model prog w) A (eval elt env) (fun x s₄ =>
       wpAny (model prog w) A (call (.builtin "list.append") [acc, x]) (fun _ s₅ => ∃ m, m < n ∧ I m s₅) (fun _ _ => False) s₄) (fun _ _ => False) s₃
      else ∃ m, m < n ∧ I m s₃) (fun _ _ => False) s₂) (fun _ _ => False) s₁') (fun _ _ => False) s₁) (fun _ _ => False) s)
  (n : Nat) (h : I n s) :
  codeAny (model prog w) A (.compLoop (.ListComp elt [⟨target, iter, ifs, 0⟩] scope pos) 0 it acc env) R s := by
 refine codeAny_loop rfl I (fun n s hI => ?_) n h
 show wpAny _ A ((compTurn (.ListComp elt [⟨target, iter, ifs, 0⟩] scope pos) 0 it acc env).onRaise (fun x => do noteFrame x env; theTreesLotGoes x)) _ _ s
 refine wpAny_noted ?_
 rw [compTurn_list]
 refine wpAny_bind (wpAny_standAt (wpAny_bind (wpAny_mono (turn n s hI) (fun r s₁ h₁ => ?_) fun _ _ h' => h'.elim)))
 cases r with
 | none => exact wpAny_pure h₁
 | some v =>
  refine wpAny_bind (wpAny_mono h₁ (fun _ s₁' h₁' => ?_) fun _ _ h' => h'.elim)
  refine wpAny_bind (wpAny_mono h₁' (fun _ s₂ h₂ => wpAny_bind (wpAny_mono h₂ (fun ok s₃ h₃ => ?_) fun _ _ h' => h'.elim)) fun _ _ h' => h'.elim)
  cases ok with
  | false => exact wpAny_pure ⟨rfl, h₃⟩
  | true =>
   exact wpAny_bind (wpAny_bind (wpAny_mono h₃ (fun x s₄ h₄ => wpAny_bind (wpAny_mono h₄ (fun _ s₅ h₅ => wpAny_pure (wpAny_pure ⟨rfl, h₅⟩)) fun _ _ h' => h'.elim)) fun _ _ h' => h'.elim))
end L2
namespace L2
open PySem PySem.Spec PyProof.Rows
theorem lookup_relabel {env : Env} {x : Str} {k : NameKind} : ∀ {names : List (Str × NameKind)},
  (names.map fun (n, k) => if (k == NameKind.free && env.scope.kind == .function && env.kindOf n == some .cell) then (n, NameKind.cell) else (n, k)).lookup x = some k →
  ∃ k', names.lookup x = some k' ∧ (k = k' ∨ (k' = .free ∧ k = .cell))
 | [], h => by simp at h
 | (n, k') :: r, h => by
  have ih := @lookup_relabel env x k r
  rw [List.map_cons] at h
  by_cases hc : (k' == NameKind.free && env.scope.kind == .function && env.kindOf n == some .cell) = true
  ·simp only [hc, if_true] at h
   have hf : k' = .free := by
    simp only [Bool.and_eq_true, beq_iff_eq] at hc
    exact hc.1.1
   cases hx : x == n with
   | true => simp only [List.lookup_cons, hx] at h ⊢; cases h; exact ⟨k', rfl, .inr ⟨hf, rfl⟩⟩
   | false => simp only [List.lookup_cons, hx] at h ⊢; exact ih h
  ·have hc' : (k' == NameKind.free && env.scope.kind == .function && env.kindOf n == some .cell) = false := by simpa using hc
   simp only [hc', Bool.false_eq_true, if_false] at h
   cases hx : x == n with
   | true => simp only [List.lookup_cons, hx] at h ⊢; cases h; exact ⟨k, rfl, .inl rfl⟩
   | false => simp only [List.lookup_cons, hx] at h ⊢; exact ih h
theorem relabel_lookup {env : Env} {x : Str} {k' : NameKind} : ∀ {names : List (Str × NameKind)}, names.lookup x = some k' →
  ∃ k, (names.map fun (n, k) => if (k == NameKind.free && env.scope.kind == .function && env.kindOf n == some .cell) then (n, NameKind.cell) else (n, k)).lookup x = some k ∧ (k = k' ∨ (k' = .free ∧ k = .cell))
 | [], h => by simp at h
 | (n, k1) :: r, h => by
  have ih := @relabel_lookup env x k' r
  rw [List.map_cons]
  by_cases hc : (k1 == NameKind.free && env.scope.kind == .function && env.kindOf n == some .cell) = true
  ·simp only [hc, if_true]
   have hf : k1 = .free := by
    simp only [Bool.and_eq_true, beq_iff_eq] at hc
    exact hc.1.1
   cases hx : x == n with
   | true => simp only [List.lookup_cons, hx] at h ⊢; cases h; exact ⟨_, rfl, .inr ⟨hf, rfl⟩⟩
   | false => simp only [List.lookup_cons, hx] at h ⊢; exact ih h
  ·have hc' : (k1 == NameKind.free && env.scope.kind == .function && env.kindOf n == some .cell) = false := by simpa using hc
   simp only [hc', Bool.false_eq_true, if_false]
   cases hx : x == n with
   | true => simp only [List.lookup_cons, hx] at h ⊢; cases h; exact ⟨_, rfl, .inl rfl⟩
   | false => simp only [List.lookup_cons, hx] at h ⊢; exact ih h
theorem cellsFrom_skip {x : Str} : ∀ (names : List (Str × NameKind)) (n : Nat) (acc : List (Str × Addr)), (∀ y ∈ names, y.2 = .cell → y.1 ≠ x) → (cellsFrom n names acc).lookup x = acc.lookup x
 | [], _, _, _ => rfl
 | (m, k) :: r, n, acc, h => by
  unfold cellsFrom
  split
  ·rename_i hk
   rw [cellsFrom_skip r _ _ fun y hy => h y (List.mem_cons_of_mem _ hy)]
   have : x ≠ m := fun e => h (m, k) List.mem_cons_self (by simpa using hk) e.symm
   have e' : (x == m) = false := by simpa using this
   rw [List.lookup_cons, e']
  ·exact cellsFrom_skip r _ _ fun y hy => h y (List.mem_cons_of_mem _ hy)
def compCx (X : Cx) (scope : Scope) (own N' : List Str) (s₂ : Shared) (H₂ : Hp) (fp : List Addr) (C : Addr) : Cx where
 prog := X.prog
 w := X.w
 K := X.K
 mg := X.mg
 base := X.base
 A := X.A
 N := N'
 s₀ := s₂
 H₀ := H₂
 env := compEnvC scope (cellsFrom (C + 1) scope.names (clOf X.env scope.names [])) C X.env
 outer := X.stack
 stack := X.stack
 ex := fp
 fn := fun x => own.contains x
 calm := X.calm
 pn := []
 xe := fun _ _ => False
structure CompOk (X : Cx) (scope : Scope) (own N' : List Str) (k : Nat) : Prop where
 kind : scope.kind = .function
 loc : ∀ y ∈ scope.names, y.2 = .local → scope.names.lookup y.1 = some .local
 cel : ∀ y ∈ scope.names, y.2 = .cell → scope.names.lookup y.1 = some .cell
 free : ∀ y ∈ scope.names, y.2 = .free → X.env.scope.names.lookup y.1 = some .cell ∨ X.env.scope.names.lookup y.1 = some .free
 own : ∀ y ∈ scope.names, y.2 = .free → own.contains y.1 = false
 len : N'.length = X.N.length + k
 nm : ∀ (i : Nat) (x : Str), i < X.N.length → N'[i]? = some x → scope.names.lookup x = none ∨ (X.N[i]? = some x ∧ scope.names.lookup x = some .free)
def PF (X : Cx) (ifs : List Expr) (t : TT) : Prop :=
 ∀ (pins : List (Addr × Obj)) (s : Shared) (σ : St) (H : Hp) (Q : Bool → Hp → Prop), Inv X pins σ H s → t σ H Q →
  wpAny (model X.prog X.w) X.A (forIn ifs true fun c r => if r = true then do let ok ← isTrue c X.env (eval c X.env); pure (ForInStep.yield ok) else pure (ForInStep.yield r)) (TP X pins σ Q) X.xe s
def tYes : TT := fun _ H Q => Q true H
theorem pf_nil {X : Cx} : PF X [] tYes := fun pins s σ H Q I h => wpAny_pure ⟨H, I, h⟩
theorem pf_one {X : Cx} {c : Expr} {t : TT} (h : PT X c t) : PF X [c] t := fun pins s σ H Q I q => wpAny_tests_one (h pins s σ H Q I q)
def tComp (k : Nat) (wi : TI) (g : TG) (tc : TT) (te : TE) : TE := fun σ H Q => wi σ H fun J H1 => ∀ D, H1 D = none →
 ∃ W : Nat → Nat → List V → St → Hp → Prop, (∃ m, W 0 m [] (σ ++ List.replicate k none) (upd H1 D (.lst []))) ∧ ∀ i m ys σ' H', W i m ys σ' H' → H' D = some (.lst ys) ∧
  ((J.stop i H' ∧ Q (.ref D) H') ∨ (J.go i H' ∧ ∀ x H2, J.yld i H' x H2 → g x σ' H2 fun σ3 H3 => tc σ3 H3 fun b H4 =>
   if b = true then te σ3 H4 fun v H5 => H5 D = some (.lst ys) ∧ ys.length < sizeLine ∧ ∃ m', m' < m ∧ W (i + 1) m' (ys ++ [v]) σ3 (upd H5 D (.lst (ys ++ [v])))
   else ∃ m', m' < m ∧ W (i + 1) m' ys σ3 H4))
section
variable {X : Cx} {scope : Scope} {own N' : List Str} {k : Nat}
theorem inv_comp {pins : List (Addr × Obj)} {σ : St} {H : Hp} {s : Shared} {fp : List Addr} {h' : Heap} {t' : Nat} {h1 : Heap} {D : Addr} (c : CompOk X scope own N' k) (I : Inv X pins σ H s) (hf : ∀ b ∈ fp, FpOk X pins H b) (hfl : ∀ b ∈ fp, b < s.heap.objs.size)
  (h1sz : s.heap.objs.size < h1.objs.size) (up1 : ∀ b o, s.heap.get? b = some o → h1.get? b = some o) (hD : H D = none) (un1 : Un (frs X.stack) fp H (upd H D (.lst [])) s.heap h1) (hok1 : HOk X.prog X.w (upd H D (.lst [])) h1)
  (up : ∀ b o, h1.get? b = some o → h'.get? b = some o) (ns : h'.Ns h1.objs.size (fun _ => none))
  (cs : ∀ n a, (n, a) ∈ cellsFrom (h1.objs.size + 1) scope.names (clOf X.env scope.names []) → (n, a) ∈ clOf X.env scope.names [] ∨ ((n, a) ∈ cellsFrom (h1.objs.size + 1) scope.names [] ∧ h1.objs.size < a ∧ h'.IsCell a none))
  (ap : (cellsFrom (h1.objs.size + 1) scope.names []).Pairwise fun x y => x.2 ≠ y.2) :
  Inv (compCx X scope own N' s H fp h1.objs.size) [] (σ ++ List.replicate k none) (upd H D (.lst [])) { s with heap := h', toks := t' } := by
 have hCs : s.heap.objs.size ≤ h1.objs.size := Nat.le_of_lt h1sz
 have old : ∀ n a, (n, a) ∈ clOf X.env scope.names [] → X.env.cells.lookup n = some a := fun n a hm => by
  rcases clOf_mem _ _ _ _ hm with z | ⟨_, _, _, z⟩
  ·cases z
  ·exact z
 have oldlt : ∀ n a, (n, a) ∈ clOf X.env scope.names [] → @LT.lt Nat instLTNat a s.heap.objs.size := fun n a hm => by
  obtain ⟨v, q⟩ := I.cell n a (old n a hm)
  exact q.lt
 have inj : ∀ x y a, (x, a) ∈ cellsFrom (h1.objs.size + 1) scope.names (clOf X.env scope.names []) → (y, a) ∈ cellsFrom (h1.objs.size + 1) scope.names (clOf X.env scope.names []) → x = y := fun x y a hx hy => by
  rcases cs x a hx with p | ⟨p, p1, _⟩ <;> rcases cs y a hy with q | ⟨q, q1, _⟩
  ·exact I.ok.inj x y a (old _ _ p) (old _ _ q)
  ·have := oldlt _ _ p; omega
  ·have := oldlt _ _ q; omega
  ·exact name_of_addr ap p q
 have freeC : ∀ x a, (x, a) ∈ cellsFrom (h1.objs.size + 1) scope.names (clOf X.env scope.names []) → (upd H D (.lst [])) a = none := fun x a hx => by
  rcases cs x a hx with p | ⟨p, p1, _⟩
  ·obtain ⟨v, o, ho, hd⟩ := I.cell x a (old _ _ p)
   refine un1.free a o ho (I.freeC x a (old _ _ p)) fun z => ?_
   exact (hf a z).2.2.2.2.1 x a (old _ _ p) rfl
  ·exact hok1.fresh (Nat.le_of_lt p1)
 have fsn : ∀ b ∈ frs X.stack, b < s.heap.objs.size := fun b hb => by
  obtain ⟨_, o, ho, _⟩ := I.stack.mem hb
  exact Heap.lt_size ho
 refine ⟨⟨I.ok.mod, c.kind, I.ok.glob, I.ok.blt, hCs, fun x y a h1' h2' => inj x y a (mem_of_lookup h1') (mem_of_lookup h2'), fun x hx => ?_, fun x a hx ha => ?_, I.ok.hd, I.ok.frames, .inl rfl, fun b hb => ⟨?_, fun x a ha => ?_⟩, I.bs, Nat.le_trans I.ok.bsz I.sz, fun b o e hb => ?_, fun b hb hb2 => ?_, I.stack, I.stkFree, I.ok.top, I.ok.tree⟩,
  rfl, I.bare, un1.trans (Un.kept up), ⟨_, ns, fun i x v e1 e2 e3 => ?_⟩, fun x a ha => ?_, ?_, fun x a ha => freeC x a (mem_of_lookup ha), fun p hp => absurd (show p ∈ ([] : List (Addr × Obj)) from hp) (by simp), hok1.kept up, ?_⟩
 ·-- has
  have hx' : (scope.names.map fun (n, k) => if (k == NameKind.free && X.env.scope.kind == .function && X.env.kindOf n == some .cell) then (n, NameKind.cell) else (n, k)).lookup x = some .cell ∨ (scope.names.map fun (n, k) => if (k == NameKind.free && X.env.scope.kind == .function && X.env.kindOf n == some .cell) then (n, NameKind.cell) else (n, k)).lookup x = some .free := hx
  have hk : scope.names.lookup x = some .cell ∨ scope.names.lookup x = some .free := by
   rcases hx' with z | z
   ·obtain ⟨k', e, q⟩ := lookup_relabel z
    rcases q with q | ⟨q, _⟩
    ·exact .inl (by rw [e, ← q])
    ·exact .inr (by rw [e, q])
   ·obtain ⟨k', e, q⟩ := lookup_relabel z
    rcases q with q | ⟨q, _⟩
    ·exact .inr (by rw [e, ← q])
    ·exact .inr (by rw [e, q])
  refine Option.isSome_iff_exists.mp (PySem.W.cellsFrom_some scope.names _ _ ?_)
  rcases hk with z | z
  ·exact .inl z
  ·refine .inr (clOf_has _ _ _ (.inl ⟨mem_of_lookup z, ?_⟩))
   rcases c.free (x, .free) (mem_of_lookup z) rfl with q | q
   ·exact I.ok.has x (.inl q)
   ·exact I.ok.has x (.inr q)
 ·-- cab
  rcases cs x a (mem_of_lookup ha) with p | ⟨p, p1, _⟩
  ·rcases clOf_mem _ _ _ _ p with z | ⟨k', z1, z2, _⟩
   ·cases z
   ·have := c.own (x, k') z1 z2
    have hx' : own.contains x = true := hx
    rw [hx'] at this; cases this
  ·exact Nat.le_trans hCs (Nat.le_of_lt p1)
 ·exact Nat.ne_of_lt (Nat.lt_of_lt_of_le (hfl b hb) hCs)
 ·rcases cs x a (mem_of_lookup ha) with p | ⟨p, p1, _⟩
  ·exact (hf b hb).2.2.2.2.1 x a (old _ _ p)
  ·have q : @LT.lt Nat instLTNat b s.heap.objs.size := hfl b hb
   exact fun z => by subst z; omega
 ·-- noex
  have hb : b ∈ fp := hb
  rcases (hf b hb).2.2.2.1 with z | z
  ·exact I.ok.noex b o e z
  ·have q1 : @LT.lt Nat instLTNat b X.base.objs.size := Heap.lt_size e
   have := I.ok.bsz
   omega
 ·have hb : b ∈ fp := hb
  rcases List.mem_cons.mp (I.stkSub b hb2) with z | z
  ·exact (hf b hb).2.1 z
  ·exact (hf b hb).2.2.1 z
 ·-- loc
  have hiσ : i < σ.length := by
   by_cases hi : i < σ.length
   ·exact hi
   ·rw [List.getElem?_append_right (by omega), List.getElem?_replicate] at e2
    split at e2 <;> cases e2
  rw [List.getElem?_append_left hiσ] at e2
  have hiN : i < X.N.length := by rw [← I.len]; exact hiσ
  have e1 : N'[i]? = some x := e1
  have vis : scope.names.lookup x ≠ none := by
   have e3 : Vis (relabel scope X.env) x := e3
   unfold Vis at e3
   rcases e3 with z | z | z <;> (obtain ⟨k', q, _⟩ := lookup_relabel z; rw [q]; simp)
  rcases c.nm i x hiN e1 with z | ⟨z1, z2⟩
  ·exact absurd z vis
  obtain ⟨m, hn, hl⟩ := I.loc
  have hfr := c.free (x, .free) (mem_of_lookup z2) rfl
  obtain ⟨u, r, l⟩ := hl i x v z1 e2 (hfr.elim (fun q => .inr (.inl q)) fun q => .inr (.inr q))
  refine ⟨u, r, ?_⟩
  rcases l with ⟨kk, _⟩ | ⟨kk, a, ea, ca⟩
  ·have kk : X.env.scope.names.lookup x = some .local := kk
   rcases hfr with q | q
   ·have q : X.env.scope.names.lookup x = some .cell := q
    rw [kk] at q; cases q
   ·have q : X.env.scope.names.lookup x = some .free := q
    rw [kk] at q; cases q
  ·obtain ⟨k2, q1, q2⟩ := relabel_lookup (env := X.env) z2
   refine .inr ⟨?_, a, ?_, ?_⟩
   ·rcases q2 with q2 | ⟨_, q2⟩
    ·exact .inr (by subst q2; exact q1)
    ·exact .inl (by subst q2; exact q1)
   ·show (cellsFrom (h1.objs.size + 1) scope.names (clOf X.env scope.names [])).lookup x = some a
    rw [cellsFrom_skip scope.names _ _ fun y hy hk e => by
     have := c.cel y hy hk
     rw [e, z2] at this; cases this]
    exact clOf_free (mem_of_lookup z2) ea
   ·exact (ca.keeps up1).keeps up
 ·-- cells
  rcases cs x a (mem_of_lookup ha) with p | ⟨p, p1, p2⟩
  ·obtain ⟨v, q⟩ := I.cell x a (old _ _ p)
   exact ⟨v, (q.keeps up1).keeps up⟩
  ·exact ⟨none, p2⟩
 ·exact hok1.fresh (Nat.le_refl _)
 ·show (σ ++ List.replicate k none).length = N'.length
  rw [List.length_append, List.length_replicate, I.len, c.len]
theorem Un.but {fs ex : List Addr} {H H' : Hp} {h h1 h2 : Heap} {C : Addr} (u : Un fs ex H H' h h1) (hs : Heap.SameBut C h1 h2) (hC : h.objs.size ≤ C) : Un fs ex H H' h h2 := by
 have ne : ∀ b o, h.get? b = some o → b ≠ C := fun b o e => Nat.ne_of_lt (Nat.lt_of_lt_of_le (Heap.lt_size e) hC)
 exact ⟨fun b o e n hb hx => (hs.2 b (ne b o e)).trans (u.keep b o e n hb hx), fun b o e n hb hx => by
   obtain ⟨sl, q⟩ := u.slot b o e n hb hx
   exact ⟨sl, (hs.2 b (ne b o e)).trans q⟩, u.free, fun b o e hx => by
   obtain ⟨o', q⟩ := u.there b o e hx
   exact ⟨o', (hs.2 b (ne b o e)).trans q⟩, u.tups, u.frzs, u.tbls⟩
theorem HOk.but {P : Program} {w : World} {H : Hp} {h h2 : Heap} {C : Addr} (ok : HOk P w H h) (hs : Heap.SameBut C h h2) (hC : H C = none) : HOk P w H h2 := fun b o e =>
 (ok b o e).stay (fun c v hc q => (hs.2 c (by
  rintro rfl
  rcases hc with rfl | hc
  ·rw [hC] at e; cases e
  ·rw [hC] at hc; cases hc)).trans q) (fun _ q => q) fun _ _ q => q
theorem comp_block {elt target iter : Expr} {ifs : List Expr} {pos : Pos} {g : TG} {tc : TT} {te : TE} (c : CompOk X scope own N' k) (hc : X.calm = true)
  (hg : ∀ s₂ H₂ fp C, PG (compCx X scope own N' s₂ H₂ fp C) target g) (ht : ∀ s₂ H₂ fp C, PF (compCx X scope own N' s₂ H₂ fp C) ifs tc) (he : ∀ s₂ H₂ fp C, PE (compCx X scope own N' s₂ H₂ fp C) elt te)
  {pins : List (Addr × Obj)} {σ : St} {H : Hp} {s : Shared} {E : Value → Shared → Prop} {Q : VK} {it : Addr} {fp : List Addr} {tn : Nat → Heap → Prop} {J : It} (I : Inv X pins σ H s) (T : Turn X.prog X.w X.K target J fp it tn) (st : tn 0 s.heap) (hf : ∀ b ∈ fp, FpOk X pins H b)
  (hw : ∀ D, H D = none → ∃ W : Nat → Nat → List V → St → Hp → Prop, (∃ m, W 0 m [] (σ ++ List.replicate k none) (upd H D (.lst []))) ∧ ∀ i m ys σ' H', W i m ys σ' H' → H' D = some (.lst ys) ∧
   ((J.stop i H' ∧ Q (.ref D) H') ∨ (J.go i H' ∧ ∀ x H2, J.yld i H' x H2 → g x σ' H2 fun σ3 H3 => tc σ3 H3 fun b H4 =>
    if b = true then te σ3 H4 fun v H5 => H5 D = some (.lst ys) ∧ ys.length < sizeLine ∧ ∃ m', m' < m ∧ W (i + 1) m' (ys ++ [v]) σ3 (upd H5 D (.lst (ys ++ [v])))
    else ∃ m', m' < m ∧ W (i + 1) m' ys σ3 H4)))
  {RR : Value → Addr → Result → Shared → Prop}
  (hR : ∀ D C σ' H' s', s.heap.objs.size ≤ C → Inv (compCx X scope own N' s H fp C) [] σ' H' s' → Q (.ref D) H' → RR (.ref D) C (.ok .next) s') :
  wpAny (model X.prog X.w) X.A (newList []) (fun acc s₃ => wpAny (model X.prog X.w) X.A (newFunctionEnv scope X.env.globals (clOf X.env scope.names []) [] X.env.qual none .none (some X.env)) (fun cenv s₄ =>
   codeAny (model X.prog X.w) X.A (.compStart (.ListComp elt [⟨target, iter, ifs, 0⟩] scope pos) 0 (.ref it) acc { cenv with scope := relabel scope X.env }) (RR acc cenv.locals) s₄) E s₃) E s := by
 have hfl : ∀ b ∈ fp, b < s.heap.objs.size := fun b hb => by
  obtain ⟨o, e, _⟩ := T.obj 0 s.heap st b hb
  exact Heap.lt_size e
 refine wpAny_newObj_type ?_
 have fr : H s.heap.objs.size = none := I.hok.fresh (Nat.le_refl _)
 have up1 : ∀ b o, s.heap.get? b = some o → (s.heap.push { cls := .type "list", dict := none, data := .seq ([] : List Value).toArray }).get? b = some o := fun b o e => Heap.get?_push_of_some _ e
 have ok1 : HOk X.prog X.w (upd H s.heap.objs.size (.lst [])) (s.heap.push { cls := .type "list", dict := none, data := .seq ([] : List Value).toArray }) :=
  I.hok.laid up1 (Nat.le_refl _) ⟨Nat.zero_le _, [], 0, .nil, Heap.get?_push_size _ rfl⟩
 have un1 : Un (frs X.stack) fp H (upd H s.heap.objs.size (.lst [])) s.heap (s.heap.push { cls := .type "list", dict := none, data := .seq ([] : List Value).toArray }) := Un.laid up1 (Nat.le_refl _) fr
 have sz1 : s.heap.objs.size < (s.heap.push { cls := .type "list", dict := none, data := .seq ([] : List Value).toArray }).objs.size := by rw [Heap.size_push]; exact Nat.lt_succ_self _
 generalize (s.heap.push { cls := .type "list", dict := none, data := .seq ([] : List Value).toArray }) = h1 at up1 ok1 un1 sz1 ⊢
 refine newEnv_comp fun h' up ns cs ap => ?_
 dsimp only at up ns cs ap ⊢
 obtain ⟨W, ⟨m0, w0⟩, turn⟩ := hw _ fr
 have I4 : Inv (compCx X scope own N' s H fp h1.objs.size) [] (σ ++ List.replicate k none) (upd H s.heap.objs.size (.lst [])) { s with heap := h' } := inv_comp (t' := s.toks) c I hf hfl sz1 up1 fr un1 ok1 up ns cs ap
 have st4 : tn 0 h' := T.keep 0 _ _ st fun b hb o e => up b o (up1 b o e)
 have fr4 : ∀ b ∈ fp, (upd H s.heap.objs.size (.lst [])) b = none := fun b hb => by
  rw [zI (Nat.ne_of_lt (hfl b hb))]; exact (hf b hb).1
 generalize ha : s.heap.objs.size = D at *
 have stat : ∀ {H' : Hp} , (∀ b ∈ fp, H' b = none) → ∀ b ∈ fp, FpOk (compCx X scope own N' s H fp h1.objs.size) [] H' b := fun hn b hb => ⟨hn b hb, (I4.ok.exf b hb).1, I4.ok.exfs b hb, .inl hb, (I4.ok.exf b hb).2, fun p hp => absurd (show p ∈ ([] : List (Addr × Obj)) from hp) (by simp)⟩
 have loop : codeAny (model X.prog X.w) X.A (.compLoop (.ListComp elt [⟨target, iter, ifs, 0⟩] scope pos) 0 (.ref it) (.ref D) (compCx X scope own N' s H fp h1.objs.size).env) (RR (.ref D) h1.objs.size) { s with heap := h' } := by
  refine codeAny_compLoop_gen (fun n s' => ∃ i ys σ' H', Inv (compCx X scope own N' s H fp h1.objs.size) [] σ' H' s' ∧ tn i s'.heap ∧ (∀ b ∈ fp, H' b = none) ∧ W i n ys σ' H') ?_ m0 ⟨0, [], _, _, I4, st4, fr4, w0⟩
  rintro n s3 ⟨i, ys, σ3, H3, I3, st3, fr3, w3⟩
  obtain ⟨hD3, alt⟩ := turn i n ys σ3 H3 w3
  rcases alt with ⟨stop, qn⟩ | ⟨go, step⟩
  ·refine thn (T.done (compCx X scope own N' s H fp h1.objs.size) rfl rfl rfl hc i [] s3 σ3 H3 _ I3 (stat fr3) st3 stop) fun r s4 ⟨hr, I4'⟩ => ?_
   subst hr
   exact hR D _ σ3 H3 s4 (Nat.le_of_lt sz1) I4' qn
  ·refine thn (T.item (compCx X scope own N' s H fp h1.objs.size) rfl rfl rfl hc i [] s3 σ3 H3 _ I3 (stat fr3) st3 go) fun r s4 ⟨u, hr, h4⟩ => ?_
   subst hr
   refine thn h4 fun _ s5 ⟨x, H5, I5, r5, y5, st5, fr5⟩ => ?_
   have I5' := I5.pinned (stat fr5) (T.obj _ _ st5)
   refine thn (hg s H fp h1.objs.size _ s5 σ3 H5 x u _ I5' r5 (step x H5 y5)) fun _ s6 ⟨σ6, H6, I6, q6⟩ => ?_
   refine thn (ht s H fp h1.objs.size _ s6 σ6 H6 _ I6 q6) fun b s7 ⟨H7, I7, q7⟩ => ?_
   have again : ∀ {ys' : List V} {σ8 : St} {H8 : Hp} {s8 : Shared} {m' : Nat}, Inv (compCx X scope own N' s H fp h1.objs.size) ([] ++ pinsAt fp s5.heap) σ8 H8 s8 → m' < n → W (i + 1) m' ys' σ8 H8 → ∃ m, m < n ∧ ∃ i ys σ' H', Inv (compCx X scope own N' s H fp h1.objs.size) [] σ' H' s8 ∧ tn i s8.heap ∧ (∀ b ∈ fp, H' b = none) ∧ W i m ys σ' H' := fun {ys' σ8 H8 s8 m'} I8 hm w8 => by
    refine ⟨m', hm, i + 1, ys', σ8, H8, I8.unpinned, T.keep _ _ _ st5 fun b hb o e => (I8.pin (b, o) (List.mem_append_right _ (List.mem_append_right _ (mem_pinsAt hb e)))).1, fun b hb => ?_, w8⟩
    obtain ⟨o, e, d⟩ := T.obj _ _ st5 b hb
    exact (I8.pin (b, o) (List.mem_append_right _ (List.mem_append_right _ (mem_pinsAt hb e)))).2.1
   cases b with
   | false =>
    obtain ⟨m', hm, w7⟩ : ∃ m', m' < n ∧ W (i + 1) m' ys σ6 H7 := q7
    exact again I7 hm w7
   | true =>
    show wpAny _ _ (eval elt (compCx X scope own N' s H fp h1.objs.size).env) _ _ s7
    refine thn (he s H fp h1.objs.size _ s7 σ6 H7 _ I7 q7) fun u8 s8 ⟨v8, H8, I8, r8, hD8, hz8, m', hm, w8⟩ => ?_
    refine thn (mt_append (X := compCx X scope own N' s H fp h1.objs.size) _ s8 σ6 H8 (.ref D) [v8] (.ref D) [u8] (fun _ H9 => H9 = upd H8 D (.lst (ys ++ [v8]))) I8 rfl (.cons r8 .nil) ⟨D, ys, v8, rfl, rfl, hD8, hz8, rfl⟩) fun _ s9 ⟨_, H9, I9, _, e9⟩ => ?_
    subst e9
    exact again I9 hm w8
 exact codeAny_compStart_list loop (T.self _ 0 _ _ _ st4 loop)
theorem clos_ok (c : CompOk X scope own N' k) (hX : X.Ok) : closureFor scope X.env = pure (clOf X.env scope.names []) := closure_of fun x hx hk => by
 rcases c.free x hx hk with q | q
 ·exact hX.has x.1 (.inl q)
 ·exact hX.has x.1 (.inr q)
theorem after_comp {pins : List (Addr × Obj)} {σ σ' : St} {H H' : Hp} {s s' : Shared} {fp : List Addr} {C : Addr} {h2 : Heap} (I : Inv X pins σ H s) (hf : ∀ b ∈ fp, FpOk X pins H b) (hC : s.heap.objs.size ≤ C) (J : Inv (compCx X scope own N' s H fp C) [] σ' H' s') (hs : Heap.SameBut C s'.heap h2) :
  Inv X pins σ H' { s' with heap := h2 } :=
 I.call' (s' := { s' with heap := h2 }) (ch := fp) J.os (J.base.but hs hC) (J.hok.but hs J.free) J.bare fun b hb => ⟨(hf b hb).2.2.2.1, (hf b hb).2.1, (hf b hb).2.2.2.2.1, (hf b hb).2.2.2.2.2⟩
theorem pe_comp {elt target iter : Expr} {ifs : List Expr} {pos : Pos} {wi : TI} {g : TG} {tc : TT} {te : TE} (c : CompOk X scope own N' k) (hc : X.calm = true) (hi : PI X target iter wi)
  (hg : ∀ s₂ H₂ fp C, PG (compCx X scope own N' s₂ H₂ fp C) target g) (ht : ∀ s₂ H₂ fp C, PF (compCx X scope own N' s₂ H₂ fp C) ifs tc) (he : ∀ s₂ H₂ fp C, PE (compCx X scope own N' s₂ H₂ fp C) elt te)
  (hs : ∀ x, foldedSetIterable iter X.env x = pure x := by intro _; rfl) : PE X (.ListComp elt [⟨target, iter, ifs, 0⟩] scope pos) (tComp k wi g tc te) := by
 intro pins s σ H Q I h
 rw [eval_ListComp]
 refine wpAny_comprehension_free (use := none) rfl hs (clos_ok c I.ok) c.kind c.loc ?_
 refine thn (hi pins s σ H _ I h) fun v s1 h1 => thn h1 fun itv s2 h2 => ?_
 obtain ⟨it, fp, tn, J, H2, e, I2, T, st2, f2, hw⟩ := h2
 subst e
 refine comp_block (RR := fun acc C => compPost (model X.prog X.w) X.A X.xe none (EP X pins σ Q) acc C) c hc hg ht he I2 T st2 f2 hw ?_
 intro D C σ' H' s' hC J' q
 obtain ⟨m, hn, _⟩ := J'.loc
 exact ⟨m, hn, fun h2 hs2 => ⟨.ref D, H', after_comp I2 f2 hC J' hs2, rfl, q⟩⟩
theorem ps_setComp {i : Nat} {x : Str} {pos' spos : Pos} {elt target iter : Expr} {ifs : List Expr} {pos : Pos} {wi : TI} {g : TG} {tc : TT} {te : TE} (hN : X.N.Nodup) (hix : X.N[i]? = some x) (hx : X.env.scope.names.lookup x = some .local) (c : CompOk X scope own N' k) (hc : X.calm = true) (hi : PI X target iter wi)
  (hg : ∀ s₂ H₂ fp C, PG (compCx X scope own N' s₂ H₂ fp C) target g) (ht : ∀ s₂ H₂ fp C, PF (compCx X scope own N' s₂ H₂ fp C) ifs tc) (he : ∀ s₂ H₂ fp C, PE (compCx X scope own N' s₂ H₂ fp C) elt te)
  (hsw : swapsWith (.ListComp elt [⟨target, iter, ifs, 0⟩] scope pos) (some (.Name x pos')) spos.line X.env = pure true)
  (hs : ∀ x, foldedSetIterable iter X.env x = pure x := by intro _; rfl) : PS X (.Assign [.Name x pos'] (.ListComp elt [⟨target, iter, ifs, 0⟩] scope pos) spos) (tAsg (tComp k wi g tc te) (gName i)) := by
 intro pins s σ H Dn I h
 rw [exec_Assign_Name_used _ _ _ _ hsw]
 refine wpAny_bind (wpAny_standAt (wpAny_bind ?_))
 show wpAny _ X.A (do let _ ← comprehension (.ListComp elt [⟨target, iter, ifs, 0⟩] scope pos) scope X.env _ (newList []) false (eval iter X.env) (some (assign (.Name x pos') X.env))) _ _ s
 refine wpAny_bind (thn (wpAny_comprehension_free (use := some (assign (.Name x pos') X.env)) (Q := fun _ s' => SP X pins Dn .next s') rfl hs (clos_ok c I.ok) c.kind c.loc ?_) fun _ s' hq => wpAny_pure (wpAny_pure hq))
 refine thn (hi pins s σ H _ I h) fun v s1 h1 => thn h1 fun itv s2 h2 => ?_
 obtain ⟨it, fp, tn, J, H2, e, I2, T, st2, f2, hw⟩ := h2
 subst e
 refine comp_block (Q := fun x H1 => gName i x σ H1 Dn.nx) (RR := fun acc C => compPost (model X.prog X.w) X.A X.xe (some (assign (.Name x pos') X.env)) (fun _ s' => SP X pins Dn .next s') acc C) c hc hg ht he I2 T st2 f2 hw ?_
 intro D C σ' H' s' hC J' q
 obtain ⟨m, hn, _⟩ := J'.loc
 have I3 : Inv X pins σ H' s' := after_comp I2 f2 hC J' (.refl ..)
 show wpAny _ X.A (assign (.Name x pos') X.env (.ref D)) _ _ _
 refine wpAny_assign_Name (store_ok2 (v := .ref D) I3 hN hix (.inl hx) rfl (fun s4 I4 ⟨a, sb, ha⟩ => ?_) (.inr hx))
 have hLa : a = X.env.locals ∨ X.env.cells.lookup x = some a := ha
 have hlt : @LT.lt Nat instLTNat a s2.heap.objs.size := by
  rcases hLa with z | z
  ·rw [z]; exact I2.lt
  ·obtain ⟨v, q⟩ := I2.cell x a z
   exact q.lt
 have hne : C ≠ a := by omega
 refine ⟨m, hn.sameBut sb hne, fun h2 hs2 => ⟨_, H', ?_, q⟩⟩
 have hpin : ∀ p ∈ X.pn ++ pins, p.1 ≠ C := fun p hp z => by
  exact absurd (Nat.lt_of_lt_of_le (Heap.lt_size (I2.pin p hp).1) hC) (by rw [z]; exact Nat.lt_irrefl _)
 have hcell : ∀ y a, X.env.cells.lookup y = some a → a ≠ C := fun y a e z => by
  obtain ⟨v, q⟩ := I2.cell y a e
  exact absurd (Nat.lt_of_lt_of_le q.lt hC) (by rw [z]; exact Nat.lt_irrefl _)
 exact I4.turned (t' := s4.toks) (fun b o hb e => (hs2.2 b hb).trans e) J'.free (fun z => absurd (Nat.lt_of_lt_of_le I2.lt hC) (by rw [z]; exact Nat.lt_irrefl _)) (.inr (Nat.le_trans I2.sz hC)) hcell hpin
end
end L2
namespace L2
open PySem
def itCls : Bool → String
 | true => "list_iterator"
 | false => "tuple_iterator"
def IterAt (k : Bool) (h : Heap) (it l : Addr) (i : Nat) : Prop := ∃ o, h.get? it = some o ∧ o.cls = .type (itCls k) ∧ o.data = .fields #[.ref l, .int i 0]
def SeqAt : Bool → Heap → Addr → Array Value → Prop
 | true, h, l, xs => h.IsList l xs
 | false, h, l, xs => h.IsTuple l xs
theorem IterAt.at {k : Bool} {h h' : Heap} {it l : Addr} {i : Nat} (x : IterAt k h it l i) (e : ∀ o, h.get? it = some o → h'.get? it = some o) : IterAt k h' it l i := let ⟨o, ho, r⟩ := x; ⟨o, e o ho, r⟩
theorem SeqAt.at {k : Bool} {h h' : Heap} {l : Addr} {xs : Array Value} (x : SeqAt k h l xs) (e : ∀ o, h.get? l = some o → h'.get? l = some o) : SeqAt k h' l xs := by
 cases k with
 | true => obtain ⟨o, ho, r⟩ := x; exact ⟨o, e o ho, r⟩
 | false => obtain ⟨o, ho, r⟩ := x; exact ⟨o, e o ho, r⟩
theorem SeqAt.but {k : Bool} {h h' : Heap} {l b : Addr} {xs : Array Value} (x : SeqAt k h l xs) (e : Heap.ExtBut b h h') (n : l ≠ b) : SeqAt k h' l xs := x.at fun o q => e l o n q
theorem SeqAt.lt {k : Bool} {h : Heap} {l : Addr} {xs : Array Value} (x : SeqAt k h l xs) : l < h.objs.size := by
 cases k with
 | true => obtain ⟨o, ho, r⟩ := x; exact Heap.lt_size ho
 | false => obtain ⟨o, ho, r⟩ := x; exact Heap.lt_size ho
section
variable {prog : Program} {w : World} {A : Around} {E : Value → Shared → Prop} {s : Shared}
theorem nextOf_tup_item {it t : Addr} {i : Nat} {xs : Array Value} {x : Value} {Q : Value → Shared → Prop} (hi : s.heap.IsTupleIter it t i) (hl : s.heap.IsTuple t xs) (hx : xs[i]? = some x)
  (hQ : ∀ h', h'.IsTupleIter it t (i + 1) → Heap.SameBut it s.heap h' → Q x { s with heap := h' }) : wpAny (model prog w) A (Builtin.SmallTypes.nextOf (.ref it)) Q E s := by
 obtain ⟨o, ho, hc, hd⟩ := id hi
 obtain ⟨ot, hot, _, nt, hdt⟩ := hl
 unfold Builtin.SmallTypes.nextOf
 refine wpAny_bind (wpAny_callSpecial?_slot (name := Str.ofString "__next__") hi.typeIs F.slot_tuple_iterator_next (wpAny_call_entry F.slot_tuple_iterator_next hi.typeIs F.entry_tuple_iterator_next ?_ (F.args_tuple_iterator_next_1 _)))
 show wpAny _ _ (field (.ref it) 0 >>= _) _ _ s; refine wpAny_bind (wpAny_field ho hd (x := .ref t) rfl ?_)
 show wpAny _ _ (if (Value.ref t == Value.none) = true then _ else _) _ _ s; rw [if_neg (show ¬ ((Value.ref t == Value.none) = true) from Bool.false_ne_true)]
 show wpAny _ _ (field (.ref it) 1 >>= _) _ _ s; refine wpAny_bind (wpAny_field ho hd (x := .int i 0) rfl ?_)
 show wpAny _ _ (seqItems? (.ref t) >>= _) _ _ s; refine wpAny_bind (wpAny_seqItems hot hdt ?_)
 simp only [Int.toNat_natCast, hx]
 refine wpAny_bind (wpAny_setField ho hd (by simp) (wpAny_pure ⟨x, rfl, wpAny_pure (hQ _ ?_ (Heap.SameBut.update ..))⟩))
 exact ⟨_, Heap.get?_update_self _ ho (Obj.isFreed_of_fields (Obj.data_mapFields hd _)), (Obj.cls_mapFields ..).trans hc, by rw [Obj.data_mapFields hd]; simp [rawInt]⟩
theorem nextOf_tup_end {it t : Addr} {i : Nat} {xs : Array Value} {Q : Value → Shared → Prop} (hh : A.handled = none) (hi : s.heap.IsTupleIter it t i) (hl : s.heap.IsTuple t xs) (hx : xs[i]? = none)
  (hE : ∀ h' e, Heap.ExtBut it s.heap h' → (∃ o, h'.get? e = some o ∧ o.cls = .type "StopIteration") → E (.ref e) { s with heap := h' }) : wpAny (model prog w) A (Builtin.SmallTypes.nextOf (.ref it)) Q E s := by
 obtain ⟨o, ho, hc, hd⟩ := id hi
 obtain ⟨ot, hot, _, nt, hdt⟩ := hl
 unfold Builtin.SmallTypes.nextOf
 refine wpAny_bind (wpAny_callSpecial?_slot (name := Str.ofString "__next__") hi.typeIs F.slot_tuple_iterator_next (wpAny_call_entry F.slot_tuple_iterator_next hi.typeIs F.entry_tuple_iterator_next ?_ (F.args_tuple_iterator_next_1 _)))
 show wpAny _ _ (field (.ref it) 0 >>= _) _ _ s; refine wpAny_bind (wpAny_field ho hd (x := .ref t) rfl ?_)
 show wpAny _ _ (if (Value.ref t == Value.none) = true then _ else _) _ _ s; rw [if_neg (show ¬ ((Value.ref t == Value.none) = true) from Bool.false_ne_true)]
 show wpAny _ _ (field (.ref it) 1 >>= _) _ _ s; refine wpAny_bind (wpAny_field ho hd (x := .int i 0) rfl ?_)
 show wpAny _ _ (seqItems? (.ref t) >>= _) _ _ s; refine wpAny_bind (wpAny_seqItems hot hdt ?_)
 simp only [Int.toNat_natCast, hx]
 refine wpAny_bind (wpAny_rule (wpAny_bind (wpAny_setField ho hd (by simp) ?_)))
 show wpAny _ _ (newExc (.type "StopIteration") [] >>= _) _ _ _; refine wpAny_bind ?_
 simp only [newExc, newTuple]; refine wpAny_bind (wpAny_newObj_type ?_ (by size_fits))
 refine wpAny_bind (m := firstArgMember _ _) (wpAny_of_eq (a := Value.none) (by first | rfl | (simp only [firstArgMember]; rfl)) ?_); refine wpAny_newObj_type ?_ (by size_fits)
 simp only [raiseNew]; refine wpAny_bind (wpAny_handled ?_); first | rw [show A.in1.handled = none from hh] | rw [hh]
 refine wpAny_bind (wpAny_pure (wpAny_throw ?_)); exact hE _ _ (((Heap.SameBut.update ..).extBut.push _).push _) ⟨_, Heap.get?_push_size _ rfl, rfl⟩
theorem nextOf_item {k : Bool} {it l : Addr} {i : Nat} {xs : Array Value} {x : Value} {Q : Value → Shared → Prop} (hi : IterAt k s.heap it l i) (hl : SeqAt k s.heap l xs) (hx : xs[i]? = some x)
  (hQ : ∀ h', IterAt k h' it l (i + 1) → Heap.SameBut it s.heap h' → Q x { s with heap := h' }) : wpAny (model prog w) A (Builtin.SmallTypes.nextOf (.ref it)) Q E s := by
 cases k with
 | true => exact wpAny_nextOf_list_item hi hl hx hQ
 | false => exact nextOf_tup_item hi hl hx hQ
theorem nextOf_end {k : Bool} {it l : Addr} {i : Nat} {xs : Array Value} {Q : Value → Shared → Prop} (hh : A.handled = none) (hi : IterAt k s.heap it l i) (hl : SeqAt k s.heap l xs) (hx : xs[i]? = none)
  (hE : ∀ h' e, Heap.ExtBut it s.heap h' → (∃ o, h'.get? e = some o ∧ o.cls = .type "StopIteration") → E (.ref e) { s with heap := h' }) : wpAny (model prog w) A (Builtin.SmallTypes.nextOf (.ref it)) Q E s := by
 cases k with
 | true => exact wpAny_nextOf_list_end hh hi hl hx hE
 | false => exact nextOf_tup_end hh hi hl hx hE
def itObj (k : Bool) (l : Addr) : Obj := { cls := .type (itCls k), data := .fields #[.ref l, .int 0 0] }
theorem pyIter_seq {k : Bool} {l : Addr} {xs : Array Value} {Q : Value → Shared → Prop} (hl : SeqAt k s.heap l xs) (hQ : Q (.ref s.heap.objs.size) { s with heap := s.heap.push (itObj k l) }) : wpAny (model prog w) A (pyIter (.ref l)) Q E s := by
 cases k with
 | true => exact wpAny_pyIter_list hl hQ
 | false => exact wpAny_pyIter_tuple hl hQ
theorem IterAt.new {k : Bool} {h h' : Heap} {l : Addr} (e : h'.get? h.objs.size = some (itObj k l)) : IterAt k h' h.objs.size l 0 := ⟨_, e, rfl, rfl⟩
variable {z TI TO i1 i2 l1 l2 : Addr} {j1 j2 : Bool} {k1 k2 : Nat} {xs ys : Array Value} {x y a b : Value}
end
section
variable {prog : Program} {w : World} {A : Around} {E : Value → Shared → Prop} {s : Shared}
end
end L2
namespace L2
open PySem
open AutoSeq1 (wpAny_loadPart')
theorem enum_newT (l : Addr) (xs : Array Value) (n : Nat) (dct : Option Addr) (sl : Array (Option Value)) :
  Meets (Builtin.«enumerate.__new__» ⟨[.type "enumerate", .ref l], []⟩) (fun _ R s => s.heap.get? l = some { cls := .type "tuple", dict := dct, data := .seq xs n, slots := sl } ∧
   R (.ok (.ret (.ref (s.heap.push (itObj false l)).objs.size))) { s with heap := (s.heap.push (itObj false l)).push { cls := .type "enumerate", data := .fields #[.none, .bool false, .ref s.heap.objs.size, rawInt 0, .none, .none] } }) :=
 .of_wp fun prog w A R s h => by
  obtain ⟨hp, g, d, tk, os⟩ := s
  obtain ⟨hl, h⟩ := h
  have hsub := sub_enumerate
  have hL : SeqAt false (Shared.heap ⟨hp, g, d, tk, os⟩) l xs := ⟨_, hl, rfl, n, rfl⟩
  wp_walk using wpAny_loadPart' hl
  refine wpAny_stack_any fun st => wpAny_pure ?_
  split
  ·rename_i c _ _ _ _ _
   cases (c == Value.type "enumerate")
   ·wp_walk using wpAny_loadPart' hl, pyIter_seq hL
    exact ⟨_, rfl, h⟩
   ·wp_walk using wpAny_loadPart' hl, pyIter_seq hL
    exact ⟨_, rfl, h⟩
  ·wp_walk using wpAny_loadPart' hl, pyIter_seq hL
   exact ⟨_, rfl, h⟩
section
variable {prog : Program} {w : World} {A : Around} {E : Value → Shared → Prop} {s : Shared}
theorem call_enum_seq {k : Bool} {l : Addr} {xs : Array Value} {Q : Value → Shared → Prop} (hL : SeqAt k s.heap l xs)
  (h : ∀ h', IsEnum h' (s.heap.objs.size + 1) s.heap.objs.size 0 .none → IterAt k h' s.heap.objs.size l 0 → h'.objs.size = s.heap.objs.size + 2 →
   (∀ b o, s.heap.get? b = some o → h'.get? b = some o) → Q (.ref (s.heap.objs.size + 1)) { s with heap := h' }) : wpAny (model prog w) A (call (.type "enumerate") [.ref l]) Q E s := by
 cases k with
 | true => exact call_enumerate_list hL h
 | false =>
  obtain ⟨⟨c, dct, dt, sl⟩, hl, hc, n, hd⟩ := hL
  replace hc : c = .type "tuple" := hc
  replace hd : dt = .seq xs n := hd
  subst hc hd
  refine callType_new F.called_enumerate (by decide) (F.typeCall_enumerate_1 _) (F.newCall_enumerate_1 _) (fun obj => F.args_object_init_2 obj _) F.entry_enumerate_new (enum_newT l xs n dct sl) ⟨hl, ?_⟩
  have hz : (s.heap.push (itObj false l)).objs.size = s.heap.objs.size + 1 := Heap.size_push ..
  show _ ∧ _
  rw [hz]
  have he : IsEnum ((s.heap.push (itObj false l)).push { cls := .type "enumerate", data := .fields #[.none, .bool false, .ref s.heap.objs.size, rawInt 0, .none, .none] }) (s.heap.objs.size + 1) s.heap.objs.size 0 .none := by
   have := Heap.get?_push_size (s.heap.push (itObj false l)) (o := { cls := .type "enumerate", data := .fields #[.none, .bool false, .ref s.heap.objs.size, rawInt 0, .none, .none] }) rfl
   rw [hz] at this; exact this
  refine ⟨⟨_, he, rfl⟩, h _ he ⟨_, Heap.get?_push_of_some _ (Heap.get?_push_size _ rfl), rfl, rfl⟩ (by rw [Heap.size_push, hz]) fun b o x => Heap.get?_push_of_some _ (Heap.get?_push_of_some _ x)⟩
theorem draws_seq {k : Bool} (hh : A.handled = none) (it l : Addr) (hne : l ≠ it) (xs : Array Value) : Draws prog w A it [it, l] xs.size (fun i v => xs[i]? = some v) (fun i h => IterAt k h it l i ∧ SeqAt k h l xs) where
 live := fun _ _ st => let ⟨o, ho, _⟩ := st.1; ⟨o, ho⟩
 frame := fun _ _ _ st hk => ⟨st.1.at fun o e => hk it (by simp) o e, st.2.at fun o e => hk l (by simp) o e⟩
 item := fun i s Q E hi st hQ => nextOf_item st.1 st.2 (x := xs[i]) (by simp [hi]) fun h' hit' hs' => hQ _ h' s.toks (by simp [hi]) ⟨hit', st.2.but hs'.extBut hne⟩ hs'
 done := fun s Q E st hE => nextOf_end hh st.1 st.2 (by simp) hE
end
end L2
namespace L2
open PySem PySem.Spec PyProof.Rows
def Sq (k : Bool) (K : PySem.W.Frag) (H : Hp) (a : Addr) (xs : List V) : Prop := match k with | true => SqL K H a xs | false => SqT K H a xs
theorem Inv.seq {X : Cx} {pins : List (Addr × Obj)} {σ : St} {H : Hp} {s : Shared} {k : Bool} {a : Addr} {xs : List V} (I : Inv X pins σ H s) (h : Sq k X.K H a xs) : ∃ its : List Value, Za xs its ∧ SeqAt k s.heap a its.toArray ∧ xs.length ≤ sizeLine := by
 cases k with
 | true => obtain ⟨its, r, p, z⟩ := I.list h; exact ⟨its, r, p.isList, z⟩
 | false => obtain ⟨its, r, p, z⟩ := I.tuple h; exact ⟨its, r, p, z⟩
theorem Inv.seq_inj {X : Cx} {pins : List (Addr × Obj)} {σ : St} {H : Hp} {s : Shared} {k : Bool} {a : Addr} {xs ys : List V} (I : Inv X pins σ H s) (h : Sq k X.K H a xs) (h' : Sq k X.K H a ys) : xs = ys := by
 cases k with
 | true => exact I.list_inj h h'
 | false => exact I.tuple_inj h h'
def Ite (j : Bool) (K : PySem.W.Frag) (a : Addr) : It :=
  ⟨fun i H => ∃ xs x, Sq j K H a xs ∧ xs[i]? = some x, fun i H v H' => ∃ p x, v = .ref p ∧ H p = none ∧ H' = upd H p (.tup [.int i, x]) ∧ ∀ xs, Sq j K H a xs → xs[i]? = some x,
   fun i H => ∃ xs, Sq j K H a xs ∧ xs.length ≤ i⟩
theorem fpne {X : Cx} {pins : List (Addr × Obj)} {σ : St} {H : Hp} {s : Shared} {k : Bool} {a b : Addr} {xs : List V} (I : Inv X pins σ H s) (h : Sq k X.K H a xs) (hb : FpOk X pins H b) : a ≠ b := by
 intro e
 subst e
 obtain ⟨h0, h1, h2, h3, h4, h5⟩ := hb
 have key : ∀ u, Rd H a u → False := fun u r => by
  rcases r with r | ⟨o, r⟩ <;> (rw [h0] at r; cases r)
 have mod : ∀ o, X.K.lookup a = some o → False := fun o e => by
  obtain ⟨o', e', _⟩ : ∃ o', X.base.get? a = some o' ∧ True := ⟨_, I.ok.mod.kin a o e, trivial⟩
  rcases h3 with z | z
  ·exact I.ok.noex a o' e' z
  ·have q1 : @LT.lt Nat instLTNat a X.base.objs.size := Heap.lt_size e'
   have := I.ok.bsz
   omega
 cases k with
 | true =>
  rcases h with h | ⟨o, _, _, e, _⟩
  ·exact key _ h
  ·exact mod o e
 | false =>
  rcases h with h | ⟨o, _, _, e, _⟩
  ·exact key _ h
  ·exact mod o e
section
variable {X : Cx}
end
end L2
namespace M
open PySem PySem.Spec L2
open PySem.W (Frag)
inductive D where
 | non | bl (b : Bool) | int (i : Int) | str (x : Str) | tup (xs : List D) | lst (xs : List D) | dict (ks : List Key) (vs : List D)
  | scr (ns : List Int)
  | adr (a : Addr)
  | kset (ks : List (List Int))
  | tk (ns : List Int)
  | pin (a : Addr) (d : D)
def KL (K : Frag) (a : Addr) (xs : List V) : Prop :=
 ∃ (o : Obj) (its : Array Value) (n : Nat), K.lookup a = some o ∧ o.cls = .type "list" ∧ o.dict = none ∧ o.data = .seq its n ∧ its.size ≤ sizeLine ∧ Za xs its.toList
def RL (K : Frag) (H : Hp) (B : Addr → Prop) (a : Addr) (xs : List V) : Prop := Rd H a (.lst xs) ∧ ¬ B a
def RS (K : Frag) (H : Hp) (a : Addr) (xs : List V) : Prop := (∃ o, H a = some (.frz o (.lst xs))) ∨ KL K a xs
theorem RS.sq {K : Frag} {H : Hp} {a : Addr} {xs : List V} (h : RS K H a xs) : SqL K H a xs := by
 rcases h with h | h
 ·exact .inl (.inr h)
 ·exact .inr h
theorem RL.sq {K : Frag} {H : Hp} {B : Addr → Prop} {a : Addr} {xs : List V} (h : RL K H B a xs) : SqL K H a xs := .inl h.1
mutual
def Rep (K : Frag) (H : Hp) (B : Addr → Prop) : D → V → Prop
 | .non, v => v = .non
 | .bl b, v => v = .bl b
 | .int i, v => v = .int i
 | .str x, v => v = .str x
 | .tup ds, v => ∃ a xs, v = .ref a ∧ SqT K H a xs ∧ zv K H B ds xs
 | .lst ds, v => ∃ a xs, v = .ref a ∧ RL K H B a xs ∧ zv K H B ds xs
 | .dict ks ds, v => ∃ a kvs, v = .ref a ∧ (H a = some (.dK kvs) ∧ ¬ B a) ∧ kvs.map (·.1) = ks ∧ zv K H B ds (kvs.map (·.2))
 | .scr ns, v => ∃ a, v = .ref a ∧ RS K H a (ns.map V.int)
 | .adr a, v => v = .ref a
 | .kset _, v => ∃ a, v = .ref a
 | .tk ns, v => ∃ a, v = .ref a ∧ H a = some (.tup (ns.map V.int))
 | .pin a d, v => v = .ref a ∧ Rep K H B d v
def zv (K : Frag) (H : Hp) (B : Addr → Prop) : List D → List V → Prop
 | [], vs => vs = []
 | d :: ds, vs => ∃ v r, vs = v :: r ∧ Rep K H B d v ∧ zv K H B ds r
end
mutual
def D.flat : D → Bool
 | .tup ds => flats ds
 | .lst _ => false
 | .dict _ _ => false
 | .kset _ => false
 | .pin _ d => d.flat
 | _ => true
def flats : List D → Bool
 | [] => true
 | d :: ds => d.flat && flats ds
end
section
variable {K : Frag} {H H' : Hp} {B B' : Addr → Prop}
theorem SqT.same {a : Addr} {xs : List V} (e : Zx H H') (h : SqT K H a xs) : SqT K H' a xs := by
 rcases h with (h | ⟨o, h⟩) | h
 ·exact .inl (.inl (e _ _ h))
 ·exact .inl (.inr ⟨o, e _ _ h⟩)
 ·exact .inr h
theorem Rd.same {a : Addr} {u : HO} (e : Zx H H') (h : Rd H a u) : Rd H' a u := by
 rcases h with h | ⟨o, h⟩
 ·exact .inl (e _ _ h)
 ·exact .inr ⟨o, e _ _ h⟩
structure Goes (H H' : Hp) (B B' : Addr → Prop) : Prop where
 tup : ∀ a xs, Rd H a (.tup xs) → Rd H' a (.tup xs)
 lst : ∀ a xs, Rd H a (.lst xs) → ¬ B a → Rd H' a (.lst xs) ∧ ¬ B' a
 dct : ∀ a kvs, H a = some (.dK kvs) → ¬ B a → H' a = some (.dK kvs) ∧ ¬ B' a
 frz : ∀ a o u, H a = some (.frz o u) → H' a = some (.frz o u)
 tkt : ∀ a xs, H a = some (.tup xs) → H' a = some (.tup xs)
mutual
theorem Rep.goes (g : Goes H H' B B') : ∀ (d : D) (v : V), Rep K H B d v → Rep K H' B' d v
 | .non, v, h => by simpa [Rep] using h
 | .bl b, v, h => by simpa [Rep] using h
 | .int i, v, h => by simpa [Rep] using h
 | .str x, v, h => by simpa [Rep] using h
 | .tup ds, v, h => by
  simp only [Rep] at h ⊢
  obtain ⟨a, xs, e, hq, hr⟩ := h
  refine ⟨a, xs, e, ?_, zv.goes g ds xs hr⟩
  rcases hq with hq | hq
  ·exact .inl (g.tup a xs hq)
  ·exact .inr hq
 | .lst ds, v, h => by
  simp only [Rep] at h ⊢
  obtain ⟨a, xs, e, hq, hr⟩ := h
  exact ⟨a, xs, e, g.lst a xs hq.1 hq.2, zv.goes g ds xs hr⟩
 | .dict ks ds, v, h => by
  simp only [Rep] at h ⊢
  obtain ⟨a, kvs, e, ⟨hq, hb⟩, hk, hr⟩ := h
  exact ⟨a, kvs, e, g.dct a kvs hq hb, hk, zv.goes g ds _ hr⟩
 | .scr ns, v, h => by
  simp only [Rep] at h ⊢
  obtain ⟨a, e, hq⟩ := h
  refine ⟨a, e, ?_⟩
  rcases hq with ⟨o, hq⟩ | hq
  ·exact .inl ⟨o, g.frz a o _ hq⟩
  ·exact .inr hq
 | .adr a, v, h => by simpa [Rep] using h
 | .kset ks, v, h => by simpa [Rep] using h
 | .tk ns, v, h => by
  simp only [Rep] at h ⊢
  obtain ⟨a, e, q⟩ := h
  exact ⟨a, e, g.tkt a _ q⟩
 | .pin a d, v, h => by
  simp only [Rep] at h ⊢
  exact ⟨h.1, Rep.goes g d v h.2⟩
theorem zv.goes (g : Goes H H' B B') : ∀ (ds : List D) (vs : List V), zv K H B ds vs → zv K H' B' ds vs
 | [], vs, h => by simpa [zv] using h
 | d :: ds, vs, h => by
  simp only [zv] at h ⊢
  obtain ⟨v, r, e, h1, h2⟩ := h
  exact ⟨v, r, e, Rep.goes g d v h1, zv.goes g ds r h2⟩
end
theorem Goes.less (h : ∀ a, B' a → B a) (e : Zx H H') : Goes H H' B B' :=
 ⟨fun _ _ q => Rd.same e q, fun a _ q n => ⟨Rd.same e q, fun z => n (h a z)⟩, fun a _ q n => ⟨e _ _ q, fun z => n (h a z)⟩, fun _ _ _ q => e _ _ q, fun _ _ q => e _ _ q⟩
theorem Goes.same (e : Zx H H') : Goes H H' B B := .less (fun _ z => z) e
theorem Goes.fresh {a : Addr} (hn : H a = none) (e : Zx H H') : Goes H H' B (fun b => B b ∨ b = a) :=
  ⟨fun _ _ q => Rd.same e q, fun b xs q n => ⟨Rd.same e q, fun z => z.elim n fun z => by subst z; rcases q with q | ⟨o, q⟩ <;> (rw [hn] at q; cases q)⟩,
   fun b _ q n => ⟨e _ _ q, fun z => z.elim n fun z => by subst z; rw [hn] at q; cases q⟩, fun _ _ _ q => e _ _ q, fun _ _ q => e _ _ q⟩
theorem Goes.write {a : Addr} {o u : HO} (hB : B a) (ha : H a = some u) (hm : Mut (some u)) : Goes H (upd H a o) B B := by
 have nt : ∀ b w, H b = some w → (¬ ∃ z : Mut (some w), True) → b ≠ a := fun b w q z e => by subst e; rw [ha] at q; cases q; exact z ⟨hm, trivial⟩
 refine ⟨fun b xs q => ?_, fun b xs q n => ?_, fun b kvs q n => ?_, fun b ob w q => by rw [zI (nt b _ q fun ⟨z, _⟩ => z)]; exact q, fun b xs q => by rw [zI (nt b _ q fun ⟨z, _⟩ => z)]; exact q⟩
 ·rcases q with q | ⟨ob, q⟩
  ·exact .inl (by rw [zI (nt b _ q fun ⟨z, _⟩ => z)]; exact q)
  ·exact .inr ⟨ob, by rw [zI (nt b _ q fun ⟨z, _⟩ => z)]; exact q⟩
 ·have hne : b ≠ a := fun e => n (by rw [e]; exact hB)
  refine ⟨?_, n⟩
  rcases q with q | ⟨ob, q⟩
  ·exact .inl (by rw [zI hne]; exact q)
  ·exact .inr ⟨ob, by rw [zI hne]; exact q⟩
 ·have hne : b ≠ a := fun e => n (by rw [e]; exact hB)
  exact ⟨by rw [zI hne]; exact q, n⟩
mutual
theorem Rep.flat : ∀ (d : D) (v : V), d.flat = true → Rep K H B d v → Rep K H B' d v
 | .non, v, _, h => by simpa [Rep] using h
 | .bl b, v, _, h => by simpa [Rep] using h
 | .int i, v, _, h => by simpa [Rep] using h
 | .str x, v, _, h => by simpa [Rep] using h
 | .tup ds, v, f, h => by
  simp only [Rep] at h ⊢
  simp only [D.flat] at f
  obtain ⟨a, xs, e, hq, hr⟩ := h
  exact ⟨a, xs, e, hq, zv.flat ds xs f hr⟩
 | .lst ds, v, f, h => by simp [D.flat] at f
 | .dict ks ds, v, f, h => by simp [D.flat] at f
 | .scr ns, v, f, h => by simpa [Rep] using h
 | .adr a, v, f, h => by simpa [Rep] using h
 | .kset ks, v, f, h => by simp [D.flat] at f
 | .tk ns, v, f, h => by simpa [Rep] using h
 | .pin a d, v, f, h => by
  simp only [Rep] at h ⊢
  simp only [D.flat] at f
  exact ⟨h.1, Rep.flat d v f h.2⟩
theorem zv.flat : ∀ (ds : List D) (vs : List V), flats ds = true → zv K H B ds vs → zv K H B' ds vs
 | [], vs, _, h => by simpa [zv] using h
 | d :: ds, vs, f, h => by
  simp only [zv] at h ⊢
  simp only [flats, Bool.and_eq_true] at f
  obtain ⟨v, r, e, h1, h2⟩ := h
  exact ⟨v, r, e, Rep.flat d v f.1 h1, zv.flat ds r f.2 h2⟩
end
theorem zv.length : ∀ {ds : List D} {vs : List V}, zv K H B ds vs → vs.length = ds.length
 | [], vs, h => by simp only [zv] at h; subst h; rfl
 | d :: ds, vs, h => by
  simp only [zv] at h
  obtain ⟨v, r, e, h1, h2⟩ := h
  subst e
  simp [zv.length h2]
theorem zv.get : ∀ {ds : List D} {vs : List V} {i : Nat} {d : D}, zv K H B ds vs → ds[i]? = some d → ∃ v, vs[i]? = some v ∧ Rep K H B d v
 | [], vs, i, d, h, e => by simp at e
 | d :: ds, vs, 0, d', h, e => by
  simp only [zv] at h
  obtain ⟨v, r, ev, h1, h2⟩ := h
  simp at e; subst e; subst ev
  exact ⟨v, rfl, h1⟩
 | d :: ds, vs, i + 1, d', h, e => by
  simp only [zv] at h
  obtain ⟨v, r, ev, h1, h2⟩ := h
  subst ev
  obtain ⟨v', q1, q2⟩ := zv.get (i := i) (d := d') h2 (by simpa using e)
  exact ⟨v', by simpa using q1, q2⟩
theorem zv.append : ∀ {ds es : List D} {vs ws : List V}, zv K H B ds vs → zv K H B es ws → zv K H B (ds ++ es) (vs ++ ws)
 | [], es, vs, ws, h, h' => by simp only [zv] at h; subst h; exact h'
 | d :: ds, es, vs, ws, h, h' => by
  simp only [zv] at h
  obtain ⟨v, r, ev, h1, h2⟩ := h
  subst ev
  simp only [List.cons_append, zv]
  exact ⟨v, r ++ ws, rfl, h1, zv.append h2 h'⟩
theorem zv.nil : zv K H B [] [] := by simp [zv]
theorem zv.cons {d : D} {ds : List D} {v : V} {vs : List V} (h : Rep K H B d v) (h' : zv K H B ds vs) : zv K H B (d :: ds) (v :: vs) := by
 simp only [zv]; exact ⟨v, vs, rfl, h, h'⟩
theorem zv.one {d : D} {v : V} (h : Rep K H B d v) : zv K H B [d] [v] := .cons h .nil
theorem zv.set : ∀ {ds : List D} {vs : List V} {d : D} {v : V} (i : Nat), zv K H B ds vs → Rep K H B d v → zv K H B (ds.set i d) (vs.set i v)
 | [], vs, d, v, i, h, _ => by simp only [zv] at h; subst h; simp [zv]
 | d' :: ds, vs, d, v, 0, h, h' => by
  simp only [zv] at h
  obtain ⟨v', r, ev, h1, h2⟩ := h
  subst ev
  exact .cons h' h2
 | d' :: ds, vs, d, v, i + 1, h, h' => by
  simp only [zv] at h
  obtain ⟨v', r, ev, h1, h2⟩ := h
  subst ev
  exact .cons h1 (zv.set i h2 h')
theorem zv.take : ∀ {ds : List D} {vs : List V} (n : Nat), zv K H B ds vs → zv K H B (ds.take n) (vs.take n)
 | [], vs, n, h => by simp only [zv] at h; subst h; simp [zv]
 | d :: ds, vs, 0, h => by simp [zv]
 | d :: ds, vs, n + 1, h => by
  simp only [zv] at h
  obtain ⟨v', r, ev, h1, h2⟩ := h
  subst ev
  exact .cons h1 (zv.take n h2)
theorem zv.drop : ∀ {ds : List D} {vs : List V} (n : Nat), zv K H B ds vs → zv K H B (ds.drop n) (vs.drop n)
 | [], vs, n, h => by simp only [zv] at h; subst h; simp [zv]
 | d :: ds, vs, 0, h => h
 | d :: ds, vs, n + 1, h => by
  simp only [zv] at h
  obtain ⟨v', r, ev, h1, h2⟩ := h
  subst ev
  exact zv.drop n h2
theorem zv.rep {ds : List D} {vs : List V} (h : zv K H B ds vs) : ∀ k : Nat, zv K H B (List.replicate k ds).flatten (List.replicate k vs).flatten
 | 0 => .nil
 | k + 1 => by
  rw [List.replicate_succ, List.replicate_succ, List.flatten_cons, List.flatten_cons]
  exact .append h (zv.rep h k)
theorem zv.ints {ns : List Int} : zv K H B (ns.map D.int) (ns.map V.int) := by
 induction ns with
 | nil => exact .nil
 | cons n r ih => exact .cons (by simp [Rep]) ih
theorem zv.ints' : ∀ {ns : List Int} {vs : List V}, zv K H B (ns.map D.int) vs → vs = ns.map V.int
 | [], vs, h => by simpa [zv] using h
 | n :: r, vs, h => by
  simp only [List.map_cons, zv, Rep] at h
  obtain ⟨v, r', e, h1, h2⟩ := h
  subst e; subst h1
  rw [zv.ints' h2]; rfl
end
abbrev Ev := List (Option D)
def Bl (B₀ : Addr → Prop) (os : List Nat) (σ : St) (a : Addr) : Prop := B₀ a ∨ ∃ i, i ∈ os ∧ σ[i]? = some (some (.ref a))
def BB (st : Bool) (B₀ : Addr → Prop) (os : List Nat) (σ : St) : Addr → Prop := match st with | true => Bl B₀ os σ | false => B₀
def Own (K : Frag) (H : Hp) (B : Addr → Prop) : HO → D → Prop
 | .lst xs, .lst ds => zv K H B ds xs
 | .dK kvs, .dict ks ds => kvs.map (·.1) = ks ∧ zv K H B ds (kvs.map (·.2))
 | .dT kvs, .kset ks => kvs = ks.map fun k => (k.map Sum.inl, V.bl true)
 | _, _ => False
theorem Own.goes {K : Frag} {H H' : Hp} {B B' : Addr → Prop} (g : Goes H H' B B') {o : HO} {d : D} (h : Own K H B o d) : Own K H' B' o d := by
 cases o <;> cases d <;> simp only [Own] at h ⊢
 ·exact zv.goes g _ _ h
 ·exact ⟨h.1, zv.goes g _ _ h.2⟩
 ·exact h
theorem Own.mut {K : Frag} {H : Hp} {B : Addr → Prop} {o : HO} {d : D} (h : Own K H B o d) : Mut (some o) := by
 cases o <;> cases d <;> simp only [Own] at h <;> trivial
structure Md (K : Frag) (H₀ : Hp) (B₀ : Addr → Prop) (os : List Nat) (σ : St) (H : Hp) (ρ : Ev) : Prop where
 grow : Zx H₀ H
 blk : ∀ a, B₀ a → ∃ o, H a = some o
 len : σ.length = ρ.length
 sh : ∀ (i : Nat) d, ρ[i]? = some (some d) → i ∉ os → ∃ v, σ[i]? = some (some v) ∧ Rep K H (Bl B₀ os σ) d v
 own : ∀ (i : Nat), i ∈ os → ∃ a o d, σ[i]? = some (some (.ref a)) ∧ ρ[i]? = some (some d) ∧ H a = some o ∧ (H₀ a = none ∧ ¬ B₀ a) ∧ Own K H (Bl B₀ os σ) o d
 sep : ∀ (i j : Nat) a, i ∈ os → j ∈ os → σ[i]? = some (some (.ref a)) → σ[j]? = some (some (.ref a)) → i = j
section
variable {K : Frag} {H₀ H H' : Hp} {B₀ : Addr → Prop} {os os' : List Nat} {σ : St} {ρ : Ev}
theorem Md.up (m : Md K H₀ B₀ os σ H ρ) (e : Zx H H') : Md K H₀ B₀ os σ H' ρ where
 grow := m.grow.trans e
 blk := fun a h => let ⟨o, q⟩ := m.blk a h; ⟨o, e _ _ q⟩
 len := m.len
 sh := fun i d q n => by obtain ⟨v, h1, h2⟩ := m.sh i d q n; exact ⟨v, h1, Rep.goes (.same e) _ _ h2⟩
 own := fun i hi => by
  obtain ⟨a, o, d, h1, h2, h3, h4, h5⟩ := m.own i hi
  exact ⟨a, o, d, h1, h2, e _ _ h3, h4, h5.goes (.same e)⟩
 sep := m.sep
theorem Md.tracked (m : Md K H₀ B₀ os σ H ρ) {a : Addr} (h : Bl B₀ os σ a) : ∃ o, H a = some o := by
 rcases h with h | ⟨i, hi, e⟩
 ·exact m.blk a h
 ·obtain ⟨a', o, d, h1, _, h3, _⟩ := m.own i hi
  rw [e] at h1; cases h1
  exact ⟨o, h3⟩
theorem Md.ntracked (m : Md K H₀ B₀ os σ H ρ) {a : Addr} (h : H a = none) : ¬ Bl B₀ os σ a := fun z => by
 obtain ⟨o, q⟩ := m.tracked z; rw [h] at q; cases q
theorem Md.freeze (m : Md K H₀ B₀ os σ H ρ) (hs : ∀ i ∈ os', i ∈ os) : Md K H₀ B₀ os' σ H ρ := by
 have less : ∀ a, Bl B₀ os' σ a → Bl B₀ os σ a := fun a z => z.elim .inl fun ⟨i, h1, h2⟩ => .inr ⟨i, hs i h1, h2⟩
 have g : Goes H H (Bl B₀ os σ) (Bl B₀ os' σ) := .less less (.refl H)
 refine ⟨m.grow, m.blk, m.len, fun i d q n => ?_, fun i hi => ?_, fun i j a h1 h2 => m.sep i j a (hs i h1) (hs j h2)⟩
 ·by_cases hi : i ∈ os
  ·obtain ⟨a, o, d', h1, h2, h3, h4, h5⟩ := m.own i hi
   rw [q] at h2; cases h2
   refine ⟨_, h1, ?_⟩
   have nb : ¬ Bl B₀ os' σ a := fun z => by
    rcases z with z | ⟨j, hj, e⟩
    ·exact h4.2 z
    ·exact n ((m.sep i j a hi (hs j hj) h1 e) ▸ hj)
   cases o <;> cases d <;> simp only [Own] at h5
   ·simp only [Rep]; exact ⟨a, _, rfl, ⟨.inl h3, nb⟩, zv.goes g _ _ h5⟩
   ·simp only [Rep]; exact ⟨a, _, rfl, ⟨h3, nb⟩, h5.1, zv.goes g _ _ h5.2⟩
   ·simp only [Rep]; exact ⟨a, rfl⟩
  ·obtain ⟨v, h1, h2⟩ := m.sh i d q hi
   exact ⟨v, h1, Rep.goes g _ _ h2⟩
 ·obtain ⟨a, o, d, h1, h2, h3, h4, h5⟩ := m.own i (hs i hi)
  exact ⟨a, o, d, h1, h2, h3, h4, h5.goes g⟩
theorem zt {α : Type} {l : List α} {i j : Nat} {x : α} (h : j ≠ i) : (l.set i x)[j]? = l[j]? := by
 rw [List.getElem?_set]; simp [Ne.symm h]
theorem get_set_eq {α : Type} {l : List α} {i : Nat} {x y : α} (h : (l.set i x)[i]? = some y) : y = x := by
 rw [List.getElem?_set] at h
 by_cases hi : i < l.length
 ·simp [hi] at h; exact h.symm
 ·simp [hi] at h
theorem Zu {α : Type} {l : List α} {i : Nat} {x : α} (h : i < l.length) : (l.set i x)[i]? = some x := by simp [h]
theorem Md.put (m : Md K H₀ B₀ os σ H ρ) {i : Nat} {v : V} {d : D} (hs : ∀ j ∈ os', j ∈ os ∧ j ≠ i) (hs2 : ∀ j ∈ os, j ∈ os' ∨ j = i) (h : Rep K H (Bl B₀ os σ) d v) : Md K H₀ B₀ os' (σ.set i (some v)) H (ρ.set i (some d)) := by
 have less : ∀ a, Bl B₀ os' (σ.set i (some v)) a → Bl B₀ os σ a := fun a z => z.elim .inl fun ⟨j, h1, h2⟩ => .inr ⟨j, (hs j h1).1, by rw [zt (hs j h1).2] at h2; exact h2⟩
 have g : Goes H H (Bl B₀ os σ) (Bl B₀ os' (σ.set i (some v))) := .less less (.refl H)
 refine ⟨m.grow, m.blk, by rw [List.length_set, List.length_set]; exact m.len, fun j e q n => ?_, fun j hj => ?_, fun j k a h1 h2 => ?_⟩
 ·by_cases hj : j = i
  ·subst hj
   have := get_set_eq q
   cases this
   have hi : j < ρ.length := by have := (List.getElem?_eq_some_iff.mp q).1; rwa [List.length_set] at this
   exact ⟨v, Zu (by rw [m.len]; exact hi), Rep.goes g _ _ h⟩
  ·rw [zt hj] at q
   obtain ⟨w', h1, h2⟩ := m.sh j e q (fun z => (hs2 j z).elim n hj)
   exact ⟨w', by rw [zt hj]; exact h1, Rep.goes g _ _ h2⟩
 ·obtain ⟨a, o, e, h1, h2, h3, h4, h5⟩ := m.own j (hs j hj).1
  exact ⟨a, o, e, by rw [zt (hs j hj).2]; exact h1, by rw [zt (hs j hj).2]; exact h2, h3, h4, h5.goes g⟩
 ·rw [zt (hs j h1).2, zt (hs k h2).2]
  exact m.sep j k a (hs j h1).1 (hs k h2).1
theorem Md.putNew (m : Md K H₀ B₀ os σ H ρ) {i : Nat} {a : Addr} {o : HO} {d : D} (hi : i < ρ.length) (hs : ∀ j ∈ os', j = i ∨ (j ∈ os ∧ j ≠ i)) (hs2 : ∀ j ∈ os, j ∈ os' ∨ j = i) (hm : i ∈ os') (e : Zx H H') (hn : H a = none) (ho : H' a = some o)
  (h : Own K H' (fun b => Bl B₀ os σ b ∨ b = a) o d) : Md K H₀ B₀ os' (σ.set i (some (.ref a))) H' (ρ.set i (some d)) := by
 have hil : i < σ.length := by rw [m.len]; exact hi
 have less : ∀ b, Bl B₀ os' (σ.set i (some (.ref a))) b → Bl B₀ os σ b ∨ b = a := fun b z => by
  rcases z with z | ⟨j, h1, h2⟩
  ·exact .inl (.inl z)
  ·rcases hs j h1 with rfl | ⟨q1, q2⟩
   ·rw [Zu hil] at h2; cases h2; exact .inr rfl
   ·rw [zt q2] at h2; exact .inl (.inr ⟨j, q1, h2⟩)
 have g : Goes H H' (Bl B₀ os σ) (Bl B₀ os' (σ.set i (some (.ref a)))) := by
  have g1 := Goes.fresh (B := Bl B₀ os σ) hn e
  exact ⟨g1.tup, fun b xs q n => ⟨(g1.lst b xs q n).1, fun z => (g1.lst b xs q n).2 (less b z)⟩, fun b xs q n => ⟨(g1.dct b xs q n).1, fun z => (g1.dct b xs q n).2 (less b z)⟩, g1.frz, g1.tkt⟩
 have h0 : H₀ a = none ∧ ¬ B₀ a := ⟨m.grow.free hn, fun z => by obtain ⟨u, q⟩ := m.blk a z; rw [hn] at q; cases q⟩
 refine ⟨m.grow.trans e, fun b h => (let ⟨u, q⟩ := m.blk b h; ⟨u, e _ _ q⟩), by rw [List.length_set, List.length_set]; exact m.len, fun j c q n => ?_, fun j hj => ?_, fun j k b h1 h2 => ?_⟩
 ·have hj : j ≠ i := fun z => n (z ▸ hm)
  rw [zt hj] at q
  obtain ⟨w', h1, h2⟩ := m.sh j c q (fun z => (hs2 j z).elim n hj)
  exact ⟨w', by rw [zt hj]; exact h1, Rep.goes g _ _ h2⟩
 ·rcases hs j hj with rfl | ⟨q1, q2⟩
  ·exact ⟨a, o, d, Zu hil, Zu hi, ho, h0, h.goes (.less less (.refl H'))⟩
  ·obtain ⟨b, u, c, h1, h2, h3, h4, h5⟩ := m.own j q1
   exact ⟨b, u, c, by rw [zt q2]; exact h1, by rw [zt q2]; exact h2, e _ _ h3, h4, h5.goes g⟩
 ·have nown : ∀ l, l ∈ os → σ[l]? = some (some (.ref a)) → False := fun l hl q => by
   obtain ⟨b, u, c, h1, h2, h3, _⟩ := m.own l hl
   rw [q] at h1; cases h1
   rw [hn] at h3; cases h3
  intro e1 e2
  rcases hs j h1 with rfl | ⟨q1, q2⟩
  ·rcases hs k h2 with rfl | ⟨q3, q4⟩
   ·rfl
   ·rw [Zu hil] at e1; cases e1
    rw [zt q4] at e2
    exact (nown k q3 e2).elim
  ·rcases hs k h2 with rfl | ⟨q3, q4⟩
   ·rw [Zu hil] at e2; cases e2
    rw [zt q2] at e1
    exact (nown j q1 e1).elim
   ·rw [zt q2] at e1; rw [zt q4] at e2
    exact m.sep j k b q1 q3 e1 e2
theorem Md.write (m : Md K H₀ B₀ os σ H ρ) {i : Nat} {a : Addr} {o : HO} {d : D} (hi : i ∈ os) (hs : σ[i]? = some (some (.ref a)))
  (h : Own K H (Bl B₀ os σ) o d) : Md K H₀ B₀ os σ (upd H a o) (ρ.set i (some d)) := by
 obtain ⟨a', o', d', h1, h2, h3, h4, h5⟩ := m.own i hi
 rw [hs] at h1; cases h1
 have hB : Bl B₀ os σ a := .inr ⟨i, hi, hs⟩
 have g : Goes H (upd H a o) (Bl B₀ os σ) (Bl B₀ os σ) := .write hB h3 h5.mut
 have hil : i < ρ.length := (List.getElem?_eq_some_iff.mp h2).1
 refine ⟨fun b u q => ?_, fun b hb => ?_, by rw [List.length_set]; exact m.len, fun j c q n => ?_, fun j hj => ?_, m.sep⟩
 rotate_left
 ·by_cases z : b = a
  ·subst z; exact ⟨_, zK⟩
  ·rw [zI z]; exact m.blk b hb
 rotate_left
 rotate_left
 ·by_cases hb : b = a
  ·subst hb; rw [h4.1] at q; cases q
  ·rw [zI hb]; exact m.grow _ _ q
 ·have hj : j ≠ i := fun z => n (z ▸ hi)
  rw [zt hj] at q
  obtain ⟨w', q1, q2⟩ := m.sh j c q n
  exact ⟨w', q1, Rep.goes g _ _ q2⟩
 ·by_cases hji : j = i
  ·subst hji
   exact ⟨a, o, d, hs, Zu hil, zK, h4, h.goes g⟩
  ·obtain ⟨b, u, c, q1, q2, q3, q4, q5⟩ := m.own j hj
   have hb : b ≠ a := fun z => hji (m.sep j i a hj hi (z ▸ q1) hs)
   exact ⟨b, u, c, q1, by rw [zt hji]; exact q2, by rw [zI hb]; exact q3, q4, q5.goes g⟩
theorem Md.get (m : Md K H₀ B₀ os σ H ρ) {i : Nat} {d : D} (q : ρ[i]? = some (some d)) : ∃ v, σ[i]? = some (some v) ∧ Rep K H B₀ d v := by
 obtain ⟨v, h1, h2⟩ := (m.freeze (os' := []) (fun _ z => nomatch z)).sh i d q (by simp)
 exact ⟨v, h1, Rep.goes (.less (fun a z => .inl z) (.refl H)) _ _ h2⟩
def unown (H : Hp) (os : List Nat) (σ : St) : Hp := fun a => open Classical in if ∃ i, i ∈ os ∧ σ[i]? = some (some (.ref a)) then none else H a
theorem unown_of {a : Addr} {o : HO} (h : unown H os σ a = some o) : H a = some o ∧ ¬ ∃ i, i ∈ os ∧ σ[i]? = some (some (.ref a)) := by
 unfold unown at h
 split at h
 ·cases h
 ·rename_i z; exact ⟨h, z⟩
theorem unown_eq {a : Addr} (h : ¬ ∃ i, i ∈ os ∧ σ[i]? = some (some (.ref a))) : unown H os σ a = H a := by
 unfold unown; rw [if_neg h]
theorem unown_own {a : Addr} (h : ∃ i, i ∈ os ∧ σ[i]? = some (some (.ref a))) : unown H os σ a = none := by
 unfold unown; rw [if_pos h]
theorem Md.sub (m : Md K H₀ B₀ os σ H ρ) : Zx H₀ (unown H os σ) := fun a o q => by
 have : ¬ ∃ i, i ∈ os ∧ σ[i]? = some (some (.ref a)) := fun ⟨i, hi, e⟩ => by
  obtain ⟨a', o', d, h1, _, _, h4, _⟩ := m.own i hi
  rw [e] at h1; cases h1
  rw [h4.1] at q; cases q
 rw [unown_eq this]; exact m.grow _ _ q
theorem Md.deep (m : Md K H₀ B₀ os σ H ρ) : Md K (unown H os σ) B₀ os σ H ρ :=
 ⟨fun a o q => (unown_of q).1, m.blk, m.len, m.sh, fun i hi => by
  obtain ⟨a, o, d, h1, h2, h3, h4, h5⟩ := m.own i hi
  exact ⟨a, o, d, h1, h2, h3, ⟨unown_own ⟨i, hi, h1⟩, h4.2⟩, h5⟩, m.sep⟩
theorem Md.shallow {H₁ : Hp} (m : Md K H₁ B₀ os σ H ρ) (e : Zx H₀ H₁) : Md K H₀ B₀ os σ H ρ :=
 ⟨e.trans m.grow, m.blk, m.len, m.sh, fun i hi => by
  obtain ⟨a, o, d, h1, h2, h3, h4, h5⟩ := m.own i hi
  exact ⟨a, o, d, h1, h2, h3, ⟨e.free h4.1, h4.2⟩, h5⟩, m.sep⟩
theorem Md.goDown (m : Md K H₀ B₀ os σ H ρ) : Goes H (unown H os σ) (Bl B₀ os σ) B₀ := by
 have nt : ∀ a xs, Rd H a (.tup xs) → ¬ ∃ i, i ∈ os ∧ σ[i]? = some (some (.ref a)) := fun a xs q ⟨i, hi, e⟩ => by
  obtain ⟨a', o', d, h1, _, h3, _, h5⟩ := m.own i hi
  rw [e] at h1; cases h1
  rcases q with q | ⟨ob, q⟩ <;> (rw [q] at h3; cases h3; cases d <;> simp only [Own] at h5)
 refine ⟨fun a xs q => ?_, fun a xs q n => ?_, fun a kvs q n => ?_, fun a ob w q => ?_, fun a xs q => (unown_eq (H := H) (nt a xs (.inl q))).trans q⟩
 rotate_left 3
 ·refine (unown_eq (H := H) ?_).trans q
  rintro ⟨i, hi, e⟩
  obtain ⟨a', o', d, h1, _, h3, _, h5⟩ := m.own i hi
  rw [e] at h1; cases h1
  rw [q] at h3; cases h3; cases d <;> simp only [Own] at h5
 ·have z := unown_eq (H := H) (nt a xs q)
  rcases q with q | ⟨ob, q⟩
  ·exact .inl (z.trans q)
  ·exact .inr ⟨ob, z.trans q⟩
 ·have z := unown_eq (H := H) (fun z => n (.inr z))
  refine ⟨?_, fun b => n (.inl b)⟩
  rcases q with q | ⟨ob, q⟩
  ·exact .inl (z.trans q)
  ·exact .inr ⟨ob, z.trans q⟩
 ·exact ⟨(unown_eq (H := H) (fun z => n (.inr z))).trans q, fun b => n (.inl b)⟩
theorem Md.goUp (m : Md K H₀ B₀ os σ H ρ) : Goes H₀ H B₀ (Bl B₀ os σ) := by
 have nb : ∀ a o, H₀ a = some o → ¬ B₀ a → ¬ Bl B₀ os σ a := fun a o q n z => z.elim n fun ⟨i, hi, e⟩ => by
  obtain ⟨a', o', d, h1, _, _, h4, _⟩ := m.own i hi
  rw [e] at h1; cases h1
  rw [h4.1] at q; cases q
 refine ⟨fun a xs q => Rd.same m.grow q, fun a xs q n => ⟨Rd.same m.grow q, ?_⟩, fun a kvs q n => ⟨m.grow _ _ q, nb a _ q n⟩, fun a o u q => m.grow _ _ q, fun a xs q => m.grow _ _ q⟩
 rcases q with q | ⟨ob, q⟩ <;> exact nb a _ q n
theorem Md.upB (m : Md K H₀ B₀ os σ H ρ) {a : Addr} {o u : HO} (hB : B₀ a) (h0 : H₀ a = none) (ha : H a = some u) (hm : Mut (some u)) : Md K H₀ B₀ os σ (upd H a o) ρ := by
 have g : Goes H (upd H a o) (Bl B₀ os σ) (Bl B₀ os σ) := .write (.inl hB) ha hm
 refine ⟨fun b v q => ?_, fun b hb => ?_, m.len, fun i d q n => ?_, fun i hi => ?_, m.sep⟩
 ·by_cases hb : b = a
  ·subst hb; rw [h0] at q; cases q
  ·rw [zI hb]; exact m.grow _ _ q
 ·by_cases z : b = a
  ·subst z; exact ⟨_, zK⟩
  ·rw [zI z]; exact m.blk b hb
 ·obtain ⟨v, h1, h2⟩ := m.sh i d q n
  exact ⟨v, h1, Rep.goes g _ _ h2⟩
 ·obtain ⟨b, w', d, h1, h2, h3, h4, h5⟩ := m.own i hi
  have hne : b ≠ a := fun z => h4.2 (by rw [z]; exact hB)
  exact ⟨b, w', d, h1, h2, by rw [zI hne]; exact h3, h4, h5.goes g⟩
end
def EOk (K : Frag) (st : Bool) (os : List Nat) (t : TE) (f : Ev → Option D) : Prop :=
 ∀ (H₀ : Hp) (B₀ : Addr → Prop) (σ : St) (H : Hp) (ρ : Ev) (d : D) (Q : VK), Md K H₀ B₀ os σ H ρ → f ρ = some d → (∀ v H', Zx H H' → Rep K H' (BB st B₀ os σ) d v → Q v H') → t σ H Q
def FOk (K : Frag) (os : List Nat) (t : TE) (f : Ev → Option D) : Prop :=
 ∀ (H₀ : Hp) (B₀ : Addr → Prop) (σ : St) (H : Hp) (ρ : Ev) (d : D) (Q : VK), Md K H₀ B₀ os σ H ρ → f ρ = some d → (∀ a o H', Zx H H' → H a = none → H' a = some o → Own K H' (fun b => Bl B₀ os σ b ∨ b = a) o d → Q (.ref a) H') → t σ H Q
def COk (K : Frag) (k : Bool) (os : List Nat) (t : TE) (f : Ev → Option (List D)) : Prop :=
 ∀ (H₀ : Hp) (B₀ : Addr → Prop) (σ : St) (H : Hp) (ρ : Ev) (ds : List D) (Q : VK), Md K H₀ B₀ os σ H ρ → f ρ = some ds → (∀ a xs H', Zx H H' → Sq k K H' a xs → zv K H' (Bl B₀ os σ) ds xs → Q (.ref a) H') → t σ H Q
def TOk (K : Frag) (os : List Nat) (t : TT) (f : Ev → Option Bool) : Prop :=
 ∀ (H₀ : Hp) (B₀ : Addr → Prop) (σ : St) (H : Hp) (ρ : Ev) (b : Bool) (Q : Bool → Hp → Prop), Md K H₀ B₀ os σ H ρ → f ρ = some b → (∀ H', Zx H H' → Q b H') → t σ H Q
def AOk (K : Frag) (st : Bool) (os : List Nat) (t : TA) (f : Ev → Option (List D)) : Prop :=
 ∀ (H₀ : Hp) (B₀ : Addr → Prop) (σ : St) (H : Hp) (ρ : Ev) (ds : List D) (Q : List V → Hp → Prop), Md K H₀ B₀ os σ H ρ → f ρ = some ds → (∀ vs H', Zx H H' → zv K H' (BB st B₀ os σ) ds vs → Q vs H') → t σ H Q
structure SE (X : Cx) (st : Bool) (os : List Nat) (e : Expr) (t : TE) (f : Ev → Option D) : Prop where
 pe : PE X e t
 ok : EOk X.K st os t f
structure SF (X : Cx) (os : List Nat) (e : Expr) (t : TE) (f : Ev → Option D) : Prop where
 pe : PE X e t
 ok : FOk X.K os t f
structure SC (X : Cx) (k : Bool) (os : List Nat) (e : Expr) (t : TE) (f : Ev → Option (List D)) : Prop where
 pe : PE X e t
 ok : COk X.K k os t f
structure SB (X : Cx) (os : List Nat) (e : Expr) (t : TT) (f : Ev → Option Bool) : Prop where
 pt : PT X e t
 ok : TOk X.K os t f
structure SW (X : Cx) (os : List Nat) (e : Expr) (t : TT) (f : Ev → Option Bool) : Prop where
 pw : PW X e t
 ok : TOk X.K os t f
structure SA (X : Cx) (st : Bool) (os : List Nat) (es : List Expr) (t : TA) (f : Ev → Option (List D)) : Prop where
 pa : PA X es t
 ok : AOk X.K st os t f
section
variable {K : Frag} {H₀ H H' : Hp} {B₀ : Addr → Prop} {os : List Nat} {σ : St} {ρ : Ev} {st : Bool}
theorem Md.bb (m : Md K H₀ B₀ os σ H ρ) (st : Bool) : ∀ a, BB st B₀ os σ a → ∃ o, H a = some o := fun a h => by
 cases st with
 | true => exact m.tracked h
 | false => exact m.tracked (.inl h)
theorem bb_le (st : Bool) : ∀ a, BB st B₀ os σ a → Bl B₀ os σ a := fun a h => by
 cases st with
 | true => exact h
 | false => exact .inl h
theorem Rep.bb {d : D} {v : V} (h : Rep K H (Bl B₀ os σ) d v) : Rep K H (BB st B₀ os σ) d v := Rep.goes (.less (bb_le st) (.refl H)) _ _ h
theorem Rep.up {B : Addr → Prop} {d : D} {v : V} (e : Zx H H') (h : Rep K H B d v) : Rep K H' B d v := Rep.goes (.same e) _ _ h
theorem zv.up {B : Addr → Prop} {d : List D} {v : List V} (e : Zx H H') (h : zv K H B d v) : zv K H' B d v := zv.goes (.same e) _ _ h
theorem Own.rep {B : Addr → Prop} {a : Addr} {o : HO} {d : D} (h : Own K H (fun b => B b ∨ b = a) o d) (ha : H a = some o) (nb : ¬ B a) : Rep K H B d (.ref a) := by
 have g : Goes H H (fun b => B b ∨ b = a) B := .less (fun _ z => .inl z) (.refl H)
 cases o <;> cases d <;> simp only [Own] at h
 ·simp only [Rep]; exact ⟨a, _, rfl, ⟨.inl ha, nb⟩, zv.goes g _ _ h⟩
 ·simp only [Rep]; exact ⟨a, _, rfl, ⟨ha, nb⟩, h.1, zv.goes g _ _ h.2⟩
 ·simp only [Rep]; exact ⟨a, rfl⟩
theorem zN {a : Addr} {o : HO} (h : H a = none) : Zx H (upd H a o) := fun b u q => by
 rw [zI (fun z => by subst z; rw [h] at q; cases q)]; exact q
end
def asK : Bool → D → Option (List D)
 | true, .lst ds => some ds
 | true, .scr ns => some (ns.map .int)
 | false, .tup ds => some ds
 | _, _ => none
def asB : D → Option Bool
 | .bl b => some b
 | _ => none
def ze (i : Nat) : Ev → Option D := fun ρ => ρ[i]?.join
def fC (d : D) : Ev → Option D := fun _ => some d
def f1 (g : D → Option D) (fa : Ev → Option D) : Ev → Option D := fun ρ => (fa ρ).bind g
def f2 (g : D → D → Option D) (fa fb : Ev → Option D) : Ev → Option D := fun ρ => (fa ρ).bind fun x => (fb ρ).bind fun y => g x y
def zu (k : Bool) (fa : Ev → Option D) : Ev → Option (List D) := fun ρ => (fa ρ).bind (asK k)
def fFlat (fa : Ev → Option D) : Ev → Option D := fun ρ => (fa ρ).bind fun d => if d.flat then some d else none
def zy (fa : Ev → Option D) : Ev → Option Bool := fun ρ => (fa ρ).bind asB
def fAnd (fa fb : Ev → Option Bool) : Ev → Option Bool := fun ρ => (fa ρ).bind fun c => if c then fb ρ else some false
def fOr (fa fb : Ev → Option Bool) : Ev → Option Bool := fun ρ => (fa ρ).bind fun c => if c then some true else fb ρ
def fNot (fa : Ev → Option Bool) : Ev → Option Bool := fun ρ => (fa ρ).map (!·)
def fAndV (fa fb : Ev → Option D) : Ev → Option D := fun ρ => ((fa ρ).bind asB).bind fun c => if c then fb ρ else some (.bl false)
def fOrV (fa fb : Ev → Option D) : Ev → Option D := fun ρ => ((fa ρ).bind asB).bind fun c => if c then some (.bl true) else fb ρ
def fNotV (fa : Ev → Option D) : Ev → Option D := fun ρ => ((fa ρ).bind asB).map fun c => .bl (!c)
def fIf (fc : Ev → Option Bool) (fa fb : Ev → Option D) : Ev → Option D := fun ρ => (fc ρ).bind fun c => if c then fa ρ else fb ρ
def zl : Ev → Option (List D) := fun _ => some []
def zc (fa : Ev → Option D) (fr : Ev → Option (List D)) : Ev → Option (List D) := fun ρ => (fa ρ).bind fun x => (fr ρ).map (x :: ·)
def dLst (ds : List D) : Option D := if ds.length ≤ sizeLine then some (.lst ds) else none
def dTup (ds : List D) : Option D := if ds.length ≤ sizeLine then some (.tup ds) else none
def Zf (f : Ev → Option (List D)) : Ev → Option D := fun ρ => (f ρ).bind dLst
def zR (f : Ev → Option (List D)) : Ev → Option D := fun ρ => (f ρ).bind dTup
def fA (g : List D → Option D) (f : Ev → Option (List D)) : Ev → Option D := fun ρ => (f ρ).bind g
theorem zh {α β : Type} {o : Option α} {g : α → Option β} {y : β} (h : o.bind g = some y) : ∃ x, o = some x ∧ g x = some y := by
 cases o with
 | none => cases h
 | some x => exact ⟨x, rfl, h⟩
theorem map_some {α β : Type} {o : Option α} {g : α → β} {y : β} (h : o.map g = some y) : ∃ x, o = some x ∧ g x = y := by
 cases o with
 | none => cases h
 | some x => exact ⟨x, rfl, by simpa using h⟩
section
variable {X : Cx} {st : Bool} {os : List Nat} {e a b c : Expr} {t ta tb tc : TE} {tA tB' : TT} {f fa fb fc : Ev → Option D} {ga gb : Ev → Option Bool} {pos : Pos}
theorem SF.se (h : SF X os e t f) : SE X st os e t f := ⟨h.pe, fun H₀ B₀ σ H ρ d Q m q k => h.ok H₀ B₀ σ H ρ d Q m q fun a o H' s hn ho hw =>
 k _ _ s (Rep.bb (hw.rep ho (m.ntracked hn)))⟩
theorem SE.flat (h : SE X false os e t f) : SE X true os e t (fFlat f) := ⟨h.pe, fun H₀ B₀ σ H ρ d Q m q k => by
 obtain ⟨x, h1, h2⟩ := zh q
 split at h2
 ·cases h2
  rename_i hf
  exact h.ok H₀ B₀ σ H ρ _ Q m h1 fun v H' s r => k v H' s (Rep.flat _ _ hf r)
 ·cases h2⟩
theorem SE.seq {k : Bool} (h : SE X true os e t f) : SC X k os e t (zu k f) := ⟨h.pe, fun H₀ B₀ σ H ρ ds Q m q kk => by
 obtain ⟨x, h1, h2⟩ := zh q
 refine h.ok H₀ B₀ σ H ρ _ Q m h1 fun v H' s r => ?_
 cases k with
 | true =>
  cases x <;> simp only [asK] at h2 <;> cases h2
  ·simp only [Rep] at r
   obtain ⟨a, xs, rfl, hl, hr⟩ := r
   exact kk a xs H' s hl.sq hr
  ·simp only [Rep] at r
   obtain ⟨a, rfl, hl⟩ := r
   exact kk a _ H' s hl.sq .ints
 | false =>
  cases x <;> simp only [asK] at h2 <;> cases h2
  simp only [Rep] at r
  obtain ⟨a, xs, rfl, hl, hr⟩ := r
  exact kk a xs H' s hl hr⟩
theorem SF.seq (h : SF X os e t f) : SC X true os e t (zu true f) := SE.seq (SF.se h)
theorem zd (i : Nat) {x : Str} (hi : i ∉ os := by decide) (hN : X.N[i]? = some x := by rfl) (hv : Vis X.env.scope x := by first | exact Or.inl rfl | exact Or.inr (Or.inl rfl) | exact Or.inr (Or.inr rfl)) (hd : (x == ("__debug__" : Str)) = false := by decide)
  (hcd : (x == ("__classdict__" : Str)) = false := by decide) : SE X st os (.Name x pos) (tVar i) (ze i) := ⟨pv i hN hv hd hcd, fun H₀ B₀ σ H ρ d Q m q k => by
 have q' : ρ[i]? = some (some d) := by
  unfold ze at q
  cases z : ρ[i]? with
  | none => rw [z] at q; cases q
  | some o => rw [z] at q; cases o <;> simp at q; rw [q]
 obtain ⟨v, h1, h2⟩ := m.sh i d q' hi
 exact ⟨v, h1, k v H (.refl H) (Rep.bb h2)⟩⟩
theorem se_look (i : Nat) {x : Str} (hN : X.N[i]? = some x := by rfl) (hv : Vis X.env.scope x := by first | exact Or.inl rfl | exact Or.inr (Or.inl rfl) | exact Or.inr (Or.inr rfl)) (hd : (x == ("__debug__" : Str)) = false := by decide)
  (hcd : (x == ("__classdict__" : Str)) = false := by decide) : SE X false os (.Name x pos) (tVar i) (ze i) := ⟨pv i hN hv hd hcd, fun H₀ B₀ σ H ρ d Q m q k => by
 have q' : ρ[i]? = some (some d) := by
  unfold ze at q
  cases z : ρ[i]? with
  | none => rw [z] at q; cases q
  | some o => rw [z] at q; cases o <;> simp at q; rw [q]
 obtain ⟨v, h1, h2⟩ := m.get q'
 exact ⟨v, h1, k v H (.refl H) h2⟩⟩
theorem sc_own (i : Nat) {x : Str} (hi : i ∈ os := by decide) (hN : X.N[i]? = some x := by rfl) (hv : Vis X.env.scope x := by first | exact Or.inl rfl | exact Or.inr (Or.inl rfl) | exact Or.inr (Or.inr rfl)) (hd : (x == ("__debug__" : Str)) = false := by decide)
  (hcd : (x == ("__classdict__" : Str)) = false := by decide) : SC X true os (.Name x pos) (tVar i) (zu true (ze i)) := ⟨pv i hN hv hd hcd, fun H₀ B₀ σ H ρ ds Q m q k => by
 obtain ⟨a, o, d, h1, h2, h3, h4, h5⟩ := m.own i hi
 simp only [zu, ze, h2, Option.join, oB] at q
 cases o <;> cases d <;> simp only [Own] at h5 <;> simp only [id, oB, asK] at q <;> cases q
 exact ⟨_, h1, k a _ H (.refl H) (.inl (.inl h3)) h5⟩⟩
theorem zf {i : Int} {j p} : SE X st os (.Constant (.int i) j p) (tC (.int i)) (fC (.int i)) := ⟨pe_int, fun H₀ B₀ σ H ρ d Q m q k => by cases q; exact k _ H (.refl H) (by simp [Rep])⟩
theorem se_bl {i : Bool} {j p} : SE X st os (.Constant (.bool i) j p) (tC (.bl i)) (fC (.bl i)) := ⟨pe_bl, fun H₀ B₀ σ H ρ d Q m q k => by cases q; exact k _ H (.refl H) (by simp [Rep])⟩
theorem zB {i : Str} {j p} : SE X st os (.Constant (.str i) j p) (tC (.str i)) (fC (.str i)) := ⟨pe_str, fun H₀ B₀ σ H ρ d Q m q k => by cases q; exact k _ H (.refl H) (by simp [Rep])⟩
theorem se_non {j p} : SE X st os (.Constant .none j p) (tC .non) (fC .non) := ⟨pe_non, fun H₀ B₀ σ H ρ d Q m q k => by cases q; exact k _ H (.refl H) (by simp [Rep])⟩
theorem se_globI {x : Str} {i : Int} {tk : Tok} (hg : Gl X x) (hm : X.mg x = some (.int i tk)) (hd : (x == ("__debug__" : Str)) = false := by decide) : SE X st os (.Name x pos) (tC (.int i)) (fC (.int i)) :=
 ⟨pe_glob hg hm ⟨_, rfl⟩ hd, fun H₀ B₀ σ H ρ d Q m q k => by cases q; exact k _ H (.refl H) (by simp [Rep])⟩
def ROk (K : Frag) (r : R2) (g : D → D → Option D) : Prop := ∀ (H : Hp) (B : Addr → Prop) (x y : V) (d1 d2 d : D) (Q : VK), (∀ a, B a → ∃ o, H a = some o) → Rep K H B d1 x → Rep K H B d2 y → g d1 d2 = some d →
 (∀ v H', Zx H H' → Rep K H' B d v → Q v H') → r x y H Q
theorem EOk.op {r : R2} {g : D → D → Option D} (hr : ROk X.K r g) (ha : EOk X.K st os ta fa) (hb : EOk X.K st os tb fb) : EOk X.K st os (tOp r ta tb) (f2 g fa fb) := fun H₀ B₀ σ H ρ d Q m q k => by
 obtain ⟨x, h1, h2⟩ := zh q
 obtain ⟨y, h3, h4⟩ := zh h2
 refine ha H₀ B₀ σ H ρ x _ m h1 fun v H1 s1 r1 => ?_
 refine hb H₀ B₀ σ H1 ρ y _ (m.up s1) h3 fun u H2 s2 r2 => ?_
 exact hr H2 _ v u x y d Q ((m.up (s1.trans s2)).bb st) (r1.up s2) r2 h4 fun w' H3 s3 r3 => k w' H3 ((s1.trans s2).trans s3) r3
theorem zA {op : Operator} {r : R2} {g : D → D → Option D} (ho : OpR X (binaryOp op) r) (hr : ROk X.K r g) (ha : SE X st os a ta fa) (hb : SE X st os b tb fb) : SE X st os (.BinOp a op b pos) (tOp r ta tb) (f2 g fa fb) :=
 ⟨pe_op ho ha.pe hb.pe, EOk.op hr ha.ok hb.ok⟩
theorem se_cmp {op : CmpOp} {r : R2} {g : D → D → Option D} (ho : OpR X (compareOp op) r) (hr : ROk X.K r g) (ha : SE X false os a ta fa) (hb : SE X false os b tb fb) (hm : behindInMarks op b = false) : SE X false os (.Compare a [op] [b] pos) (tOp r ta tb) (f2 g fa fb) :=
 ⟨pe_cmpR ho ha.pe hb.pe hm, EOk.op hr ha.ok hb.ok⟩
theorem EOk.test (h : EOk X.K false os t f) : TOk X.K os (tTest t) (zy f) := fun H₀ B₀ σ H ρ b Q m q k => by
 obtain ⟨x, h1, h2⟩ := zh q
 refine h H₀ B₀ σ H ρ x _ m h1 fun v H' s r => ?_
 cases x <;> simp only [asB] at h2 <;> cases h2
 simp only [Rep] at r
 exact ⟨_, r, k H' s⟩
theorem zU {op : CmpOp} {r : R2} {g : D → D → Option D} (ho : OpR X (compareOp op) r) (hr : ROk X.K r g) (ha : SE X false os a ta fa) (hb : SE X false os b tb fb) (hm : behindInMarks op b = false) : SB X os (.Compare a [op] [b] pos) (tTest (tOp r ta tb)) (zy (f2 g fa fb)) :=
 ⟨pt_cmpR ho ha.pe hb.pe hm, EOk.test (EOk.op hr ha.ok hb.ok)⟩
def fChain (g g' : D → D → Option D) (fa fb fc : Ev → Option D) : Ev → Option D := fun ρ => (fa ρ).bind fun x => (fb ρ).bind fun y => ((g x y).bind asB).bind fun c => if c then (fc ρ).bind fun z => g' y z else some (.bl false)
theorem EOk.chain {r r' : R2} {g g' : D → D → Option D} (hr : ROk X.K r g) (hr' : ROk X.K r' g') (ha : EOk X.K false os ta fa) (hb : EOk X.K false os tb fb) (hc : EOk X.K false os tc fc) : EOk X.K false os (tChain r r' ta tb tc) (fChain g g' fa fb fc) := fun H₀ B₀ σ H ρ d Q m q k => by
 obtain ⟨x, h1, h2⟩ := zh q
 obtain ⟨y, h3, h4⟩ := zh h2
 obtain ⟨cc, h5, h6⟩ := zh h4
 obtain ⟨z, h7, h8⟩ := zh h5
 refine ha H₀ B₀ σ H ρ x _ m h1 fun v H1 s1 r1 => ?_
 refine hb H₀ B₀ σ H1 ρ y _ (m.up s1) h3 fun u H2 s2 r2 => ?_
 refine hr H2 _ v u x y z _ ((m.up (s1.trans s2)).bb false) (r1.up s2) r2 h7 fun w' H3 s3 r3 => ?_
 cases z <;> simp only [asB] at h8 <;> cases h8
 simp only [Rep] at r3
 refine ⟨_, r3, ?_⟩
 cases cc with
 | true =>
  rw [if_pos rfl] at h6 ⊢
  obtain ⟨z, h9, h10⟩ := zh h6
  refine hc H₀ B₀ σ H3 ρ z _ (m.up ((s1.trans s2).trans s3)) h9 fun w2 H4 s4 r4 => ?_
  exact hr' H4 _ u w2 y z d Q ((m.up (((s1.trans s2).trans s3).trans s4)).bb false) (r2.up (s3.trans s4)) r4 h10 fun w3 H5 s5 r5 => k w3 H5 ((((s1.trans s2).trans s3).trans s4).trans s5) r5
 | false =>
  rw [if_neg Bool.false_ne_true] at h6 ⊢
  cases h6
  exact k _ H3 ((s1.trans s2).trans s3) (by simp [Rep])
theorem sb_chain {op op' : CmpOp} {r r' : R2} {g g' : D → D → Option D} (ho : OpR X (compareOp op) r) (hr : ROk X.K r g) (ho' : OpR X (compareOp op') r') (hr' : ROk X.K r' g') (ha : SE X false os a ta fa) (hb : SE X false os b tb fb) (hc : SE X false os c tc fc)
  (hm : lastMarks [op, op'] [b, c] = false := by with_unfolding_all rfl) : SB X os (.Compare a [op, op'] [b, c] pos) (tTest (tChain r r' ta tb tc)) (zy (fChain g g' fa fb fc)) := ⟨pt_chain ho ho' ha.pe hb.pe hc.pe hm, EOk.test (EOk.chain hr hr' ha.ok hb.ok hc.ok)⟩
theorem se_chain {op op' : CmpOp} {r r' : R2} {g g' : D → D → Option D} (ho : OpR X (compareOp op) r) (hr : ROk X.K r g) (ho' : OpR X (compareOp op') r') (hr' : ROk X.K r' g') (ha : SE X false os a ta fa) (hb : SE X false os b tb fb) (hc : SE X false os c tc fc)
  (hm : lastMarks [op, op'] [b, c] = false := by with_unfolding_all rfl) : SE X false os (.Compare a [op, op'] [b, c] pos) (tChain r r' ta tb tc) (fChain g g' fa fb fc) := ⟨pe_chain ho ho' ha.pe hb.pe hc.pe hm, EOk.chain hr hr' ha.ok hb.ok hc.ok⟩
def UOk (K : Frag) (r : V → Hp → VK → Prop) (g : D → Option D) : Prop := ∀ (H : Hp) (B : Addr → Prop) (x : V) (d1 d : D) (Q : VK), (∀ a, B a → ∃ o, H a = some o) → Rep K H B d1 x → g d1 = some d →
 (∀ v H', Zx H H' → Rep K H' B d v → Q v H') → r x H Q
theorem se_un {op : UnaryOp} {r : V → Hp → VK → Prop} {g : D → Option D} (ho : UnR X (unaryOp op) r) (hr : UOk X.K r g) (ha : SE X st os a ta fa) : SE X st os (.UnaryOp op a pos) (tUn r ta) (f1 g fa) :=
 ⟨pe_un ho ha.pe, fun H₀ B₀ σ H ρ d Q m q k => by
  obtain ⟨x, h1, h2⟩ := zh q
  refine ha.ok H₀ B₀ σ H ρ x _ m h1 fun v H1 s1 r1 => ?_
  exact hr H1 _ v x d Q ((m.up s1).bb st) r1 h2 fun w' H3 s3 r3 => k w' H3 (s1.trans s3) r3⟩
theorem sb_val (h : SE X false os e t f) (he : ∀ whole, isTrue e X.env whole = (do let v ← whole; standAt e.pos; holding [v] (truthy v)) := by intro _; rfl) : SB X os e (tB t) (zy f) := ⟨pt_val h.pe he, EOk.test h.ok⟩
theorem sb_not (h : SB X os a tA ga) : SB X os (.UnaryOp .Not a pos) (tNot tA) (fNot ga) := ⟨pt_not h.pt, fun H₀ B₀ σ H ρ b Q m q k => by
 obtain ⟨x, h1, h2⟩ := map_some q
 subst h2
 exact h.ok H₀ B₀ σ H ρ x _ m h1 fun H' s => k H' s⟩
theorem SW.sb (h : SW X os e tA ga) : SB X os e tA ga := ⟨h.pw.pt, h.ok⟩
theorem sw_and1 (h : SB X os a tA ga) : SW X os (.BoolOp .And [a] pos) tA ga := ⟨pw_and1 h.pt, h.ok⟩
theorem sw_or1 (h : SB X os a tA ga) : SW X os (.BoolOp .Or [a] pos) tA ga := ⟨pw_or1 h.pt, h.ok⟩
theorem sw_and {rest : List Expr} (ha : SB X os a tA ga) (hb : SW X os (.BoolOp .And (b :: rest) pos) tB' gb) : SW X os (.BoolOp .And (a :: b :: rest) pos) (tAnd tA tB') (fAnd ga gb) := ⟨pw_and ha.pt hb.pw, fun H₀ B₀ σ H ρ b Q m q k => by
 obtain ⟨x, h1, h2⟩ := zh q
 refine ha.ok H₀ B₀ σ H ρ x _ m h1 fun H' s => ?_
 cases x with
 | true => rw [if_pos rfl] at h2 ⊢; exact hb.ok H₀ B₀ σ H' ρ b Q (m.up s) h2 fun H2 s2 => k H2 (s.trans s2)
 | false => rw [if_neg Bool.false_ne_true] at h2 ⊢; cases h2; exact k H' s⟩
theorem sw_or {rest : List Expr} (ha : SB X os a tA ga) (hb : SW X os (.BoolOp .Or (b :: rest) pos) tB' gb) : SW X os (.BoolOp .Or (a :: b :: rest) pos) (tOr tA tB') (fOr ga gb) := ⟨pw_or ha.pt hb.pw, fun H₀ B₀ σ H ρ b Q m q k => by
 obtain ⟨x, h1, h2⟩ := zh q
 refine ha.ok H₀ B₀ σ H ρ x _ m h1 fun H' s => ?_
 cases x with
 | true => rw [if_pos rfl] at h2 ⊢; cases h2; exact k H' s
 | false => rw [if_neg Bool.false_ne_true] at h2 ⊢; exact hb.ok H₀ B₀ σ H' ρ b Q (m.up s) h2 fun H2 s2 => k H2 (s.trans s2)⟩
theorem se_one {op} (h : SE X st os a t f) : SE X st os (.BoolOp op [a] pos) t f := ⟨pe_one h.pe, h.ok⟩
theorem se_and {rest : List Expr} (ha : SE X st os a ta fa) (hb : SE X st os (.BoolOp .And (b :: rest) pos) tb fb) : SE X st os (.BoolOp .And (a :: b :: rest) pos) (tAndV ta tb) (fAndV fa fb) := ⟨pe_and ha.pe hb.pe, fun H₀ B₀ σ H ρ d Q m q k => by
 obtain ⟨x, h1, h2⟩ := zh q
 obtain ⟨y, h3, h4⟩ := zh h1
 refine ha.ok H₀ B₀ σ H ρ y _ m h3 fun v H' s r => ?_
 cases y <;> simp only [asB] at h4 <;> cases h4
 simp only [Rep] at r
 refine ⟨_, r, ?_⟩
 cases x with
 | true => rw [if_pos rfl] at h2 ⊢; exact hb.ok H₀ B₀ σ H' ρ d Q (m.up s) h2 fun v H2 s2 => k v H2 (s.trans s2)
 | false => rw [if_neg Bool.false_ne_true] at h2 ⊢; cases h2; exact k _ H' s (by simp [Rep])⟩
theorem se_not (ha : SE X st os a ta fa) : SE X st os (.UnaryOp .Not a pos) (tNotV ta) (fNotV fa) := ⟨pe_not ha.pe, fun H₀ B₀ σ H ρ d Q m q k => by
 obtain ⟨x, h1, h2⟩ := map_some q
 subst h2
 obtain ⟨y, h3, h4⟩ := zh h1
 refine ha.ok H₀ B₀ σ H ρ y _ m h3 fun v H' s r => ?_
 cases y <;> simp only [asB] at h4 <;> cases h4
 simp only [Rep] at r
 exact ⟨_, r, k _ H' s (by simp [Rep])⟩⟩
variable {es : List Expr} {tl : TA} {fl : Ev → Option (List D)}
theorem zg : SA X st os [] tNil zl := ⟨Zv, fun H₀ B₀ σ H ρ ds Q m q k => by cases q; exact k [] H (.refl H) .nil⟩
theorem za (ha : SE X st os e t f) (hr : SA X st os es tl fl) (hs : starEach (e :: es) X.env = (false, eval e X.env) :: starEach es X.env := by rfl) : SA X st os (e :: es) (Zi t tl) (zc f fl) := ⟨zT ha.pe hr.pa hs, fun H₀ B₀ σ H ρ ds Q m q k => by
 obtain ⟨x, h1, h2⟩ := zh q
 obtain ⟨y, h3, h4⟩ := map_some h2
 subst h4
 refine ha.ok H₀ B₀ σ H ρ x _ m h1 fun v H1 s1 r1 => ?_
 refine hr.ok H₀ B₀ σ H1 ρ y _ (m.up s1) h3 fun vs H2 s2 r2 => ?_
 exact k _ H2 (s1.trans s2) (.cons (r1.up s2) r2)⟩
theorem zx {x1} (h : SA X st os es tl fl) : SE X st os (.Tuple es x1 pos) (tTup tl) (zR fl) := ⟨pe_tup h.pa, fun H₀ B₀ σ H ρ d Q m q k => by
 obtain ⟨ds, h1, h2⟩ := zh q
 unfold dTup at h2
 split at h2
 ·cases h2
  rename_i hl
  refine h.ok H₀ B₀ σ H ρ ds _ m h1 fun vs H1 s1 r1 => ⟨by rw [r1.length]; exact hl, fun p hp => ?_⟩
  refine k _ _ (s1.trans (zN hp)) ?_
  simp only [Rep]
  exact ⟨p, vs, rfl, .inl (.inl zK), r1.up (zN hp)⟩
 ·cases h2⟩
theorem zM (h : SA X true os es tl fl) : SF X os (.List es pos) (tLst tl) (Zf fl) := ⟨pe_lst h.pa, fun H₀ B₀ σ H ρ d Q m q k => by
 obtain ⟨ds, h1, h2⟩ := zh q
 unfold dLst at h2
 split at h2
 ·cases h2
  rename_i hl
  refine h.ok H₀ B₀ σ H ρ ds _ m h1 fun vs H1 s1 r1 => ⟨by rw [r1.length]; exact hl, fun p hp => ?_⟩
  exact k p _ _ (s1.trans (zN hp)) (s1.free hp) zK (zv.goes (.fresh hp (zN hp)) _ _ r1)
 ·cases h2⟩
def dIx (ds : List D) (d : D) : Option D := match d with | .int i => atI ds i | _ => none
def fIx (fa : Ev → Option (List D)) (fb : Ev → Option D) : Ev → Option D := fun ρ => (fa ρ).bind fun ds => (fb ρ).bind fun i => dIx ds i
theorem zv.atI {K : Frag} {H : Hp} {B : Addr → Prop} {ds : List D} {vs : List V} {i : Int} {d : D} (h : zv K H B ds vs) (e : L2.atI ds i = some d) : ∃ v, L2.atI vs i = some v ∧ Rep K H B d v := by
 unfold L2.atI at e ⊢
 rw [h.length]
 cases z : ixN ds.length i with
 | none => rw [z] at e; cases e
 | some j =>
  rw [z] at e
  exact h.get e
theorem se_ixL {ca : Ev → Option (List D)} (ha : SC X true os a ta ca) (hb : SE X true os b tb fb) (hs : PlainIx b := by intro _ _; rfl) {K' : Frag} (hK : X.K = K' := by rfl) : SE X st os (.Subscript a b pos) (tOp (rIxL K') ta tb) (fIx ca fb) := by
 subst hK
 exact ⟨pe_ix ix_list ha.pe hb.pe hs, fun H₀ B₀ σ H ρ d Q m q k => by
 obtain ⟨ds, h1, h2⟩ := zh q
 obtain ⟨y, h3, h4⟩ := zh h2
 refine ha.ok H₀ B₀ σ H ρ ds _ m h1 fun p xs H1 s1 hq r1 => ?_
 refine hb.ok H₀ B₀ σ H1 ρ y _ (m.up s1) h3 fun u H2 s2 r2 => ?_
 cases y <;> simp only [dIx] at h4 <;> try (cases h4)
 simp only [Rep] at r2
 obtain ⟨v, q1, q2⟩ := (r1.up s2).atI h4
 exact ⟨p, xs, _, v, rfl, r2, s2.seq hq, q1, k v H2 (s1.trans s2) (Rep.bb q2)⟩⟩
theorem zZ {ca : Ev → Option (List D)} (ha : SC X false os a ta ca) (hb : SE X true os b tb fb) (hs : PlainIx b := by intro _ _; rfl) {K' : Frag} (hK : X.K = K' := by rfl) : SE X st os (.Subscript a b pos) (tOp (rIxT K') ta tb) (fIx ca fb) := by
 subst hK
 exact ⟨pe_ix ix_tup ha.pe hb.pe hs, fun H₀ B₀ σ H ρ d Q m q k => by
 obtain ⟨ds, h1, h2⟩ := zh q
 obtain ⟨y, h3, h4⟩ := zh h2
 refine ha.ok H₀ B₀ σ H ρ ds _ m h1 fun p xs H1 s1 hq r1 => ?_
 refine hb.ok H₀ B₀ σ H1 ρ y _ (m.up s1) h3 fun u H2 s2 r2 => ?_
 cases y <;> simp only [dIx] at h4 <;> try (cases h4)
 simp only [Rep] at r2
 obtain ⟨v, q1, q2⟩ := (r1.up s2).atI h4
 exact ⟨p, xs, _, v, rfl, r2, SqT.same s2 hq, q1, k v H2 (s1.trans s2) (Rep.bb q2)⟩⟩
structure SO (X : Cx) (os : List Nat) (e : Option Expr) (t : TO) (f : Ev → Option (Option Int)) : Prop where
 po : PO X e t
 ok : ∀ (H₀ : Hp) (B₀ : Addr → Prop) (σ : St) (H : Hp) (ρ : Ev) (d : Option Int) (Q : Option Int → Hp → Prop), Md X.K H₀ B₀ os σ H ρ → f ρ = some d → (∀ H', Zx H H' → Q d H') → t σ H Q
def asI : D → Option Int
 | .int i => some i
 | _ => none
def fNo : Ev → Option (Option Int) := fun _ => some none
def fPart (f : Ev → Option D) : Ev → Option (Option Int) := fun ρ => (f ρ).bind fun d => (asI d).map some
theorem so_none : SO X os none tNoPart fNo := ⟨po_none, fun H₀ B₀ σ H ρ d Q m q k => by cases q; exact k H (.refl H)⟩
theorem so_some (h : SE X false os e t f) : SO X os (some e) (tPart t) (fPart f) := ⟨po_some h.pe, fun H₀ B₀ σ H ρ d Q m q k => by
 obtain ⟨x, h1, h2⟩ := zh q
 obtain ⟨i, h3, h4⟩ := map_some h2
 subst h4
 refine h.ok H₀ B₀ σ H ρ x _ m h1 fun v H' s r => ?_
 cases x <;> simp only [asI] at h3 <;> cases h3
 simp only [Rep] at r
 exact ⟨_, r, k H' s⟩⟩
def cutD (ds : List D) (lo hi : Option Int) : List D := (ds.drop (HT.sIx ds.length 0 lo)).take (HT.sIx ds.length ds.length hi - HT.sIx ds.length 0 lo)
theorem zv.cut {K : Frag} {H : Hp} {B : Addr → Prop} {ds : List D} {vs : List V} {lo hi : Option Int} (h : zv K H B ds vs) : zv K H B (cutD ds lo hi) (cutV vs lo hi) := by
 unfold cutD cutV
 rw [h.length]
 exact (h.drop _).take _
def fCut (g : List D → D) (fa : Ev → Option (List D)) (fl fu : Ev → Option (Option Int)) : Ev → Option D := fun ρ => (fa ρ).bind fun ds => (fl ρ).bind fun lo => (fu ρ).bind fun hi => some (g (cutD ds lo hi))
theorem sf_cutL {ca : Ev → Option (List D)} {lo hi : Option Expr} {t1 t2 : TO} {g1 g2 : Ev → Option (Option Int)} {p2 : Pos} (ha : SC X true os a ta ca) (hl : SO X os lo t1 g1) (hu : SO X os hi t2 g2) {K' : Frag} (hK : X.K = K' := by rfl) :
  SF X os (.Subscript a (.Slice lo hi none p2) pos) (tSl (rSlL K') ta t1 t2) (fCut .lst ca g1 g2) := by
 subst hK
 exact ⟨pe_slice sl_list ha.pe hl.po hu.po, fun H₀ B₀ σ H ρ d Q m q k => by
 obtain ⟨ds, h1, h2⟩ := zh q
 obtain ⟨l, h3, h4⟩ := zh h2
 obtain ⟨u, h5, h6⟩ := zh h4
 cases h6
 refine ha.ok H₀ B₀ σ H ρ ds _ m h1 fun p xs H1 s1 hq r1 => ?_
 refine hl.ok H₀ B₀ σ H1 ρ l _ (m.up s1) h3 fun H2 s2 => ?_
 refine hu.ok H₀ B₀ σ H2 ρ u _ (m.up (s1.trans s2)) h5 fun H3 s3 => ?_
 refine ⟨p, xs, rfl, (s2.trans s3).seq hq, fun p' hp => ?_⟩
 exact k p' _ _ (((s1.trans s2).trans s3).trans (zN hp)) ((s1.trans (s2.trans s3)).free hp) zK (zv.goes (.fresh hp (zN hp)) _ _ (zv.cut (r1.up (s2.trans s3))))⟩
end
end M
namespace L2
open PySem PySem.Spec PyProof.Rows
section
variable {X : Cx}
theorem iter_seq {k : Bool} {pins : List (Addr × Obj)} {s : Shared} {σ : St} {H : Hp} {p : Addr} {xs : List V} {E : Value → Shared → Prop} {R : Value → Shared → Prop} (hc : X.calm = true) (I : Inv X pins σ H s) (hq : Sq k X.K H p xs)
  (h : ∀ (its : List Value) (s₂ : Shared) (fp wr : List Addr) (S : Nat → Heap → Prop), Za xs its → Walks X.prog X.w X.A.in1 s.heap.objs.size fp wr its.toArray.size (fun i v => its.toArray[i]? = some v) S → S 0 s₂.heap → (∀ b ∈ fp, b < s₂.heap.objs.size) →
   (∀ h' tk, (∀ b o, b ∉ wr → s₂.heap.get? b = some o → h'.get? b = some o) → Inv X pins σ H { s₂ with heap := h', toks := tk }) → R (.ref s.heap.objs.size) s₂) :
  wpAny (model X.prog X.w) X.A.in1 (pyIter (.ref p)) R E s := by
 obtain ⟨its, r, pl, hz⟩ := I.seq hq
 have hh : X.A.in1.handled = none := I.ok.hd hc
 have hlt : p < s.heap.objs.size := pl.lt
 have hne : p ≠ s.heap.objs.size := Nat.ne_of_lt hlt
 have old : ∀ (ob : Obj) (h' : Heap), (∀ b o, b ∉ [s.heap.objs.size] → (s.heap.push ob).get? b = some o → h'.get? b = some o) → ∀ b o, s.heap.get? b = some o → h'.get? b = some o := fun ob h' hk b o e =>
  hk b o (fun hm => by
   have : b = s.heap.objs.size := by simpa using hm
   exact absurd (this ▸ Heap.lt_size e) (Nat.lt_irrefl _)) (Heap.get?_push_of_some _ e)
 cases k with
 | true =>
  refine wpAny_pyIter_list pl (h its _ [s.heap.objs.size, p] [s.heap.objs.size] _ r (Walks.list hh _ p hne its.toArray) ⟨⟨_, Heap.get?_push_size _ rfl, rfl, rfl⟩, Heap.IsList.at pl fun o e => Heap.get?_push_of_some _ e⟩ ?_ fun h' tk hk => I.kept (old _ h' hk))
  intro b hb
  rw [Heap.size_push]
  rcases List.mem_cons.mp hb with rfl | hb
  ·exact Nat.lt_succ_self _
  ·have : b = p := by simpa using hb
   subst this; exact Nat.lt_succ_of_lt hlt
 | false =>
  refine wpAny_pyIter_tuple pl (h its _ [s.heap.objs.size, p] [s.heap.objs.size] _ r (Walks.tuple hh _ p hne its.toArray) ⟨⟨_, Heap.get?_push_size _ rfl, rfl, rfl⟩, Heap.IsTuple.at pl fun o e => Heap.get?_push_of_some _ e⟩ ?_ fun h' tk hk => I.kept (old _ h' hk))
  intro b hb
  rw [Heap.size_push]
  rcases List.mem_cons.mp hb with rfl | hb
  ·exact Nat.lt_succ_self _
  ·have : b = p := by simpa using hb
   subst this; exact Nat.lt_succ_of_lt hlt
theorem vals_int {ns : List Int} {its : List Value} (r : Za (ns.map V.int) its) {i : Nat} {v : Value} (h : its.toArray[i]? = some v) : ∃ t, v = .int (ns.getD i 0) t := by
 have hl := r.length
 rw [List.length_map] at hl
 have h' : its[i]? = some v := by simpa using h
 have hi : i < ns.length := by have := (List.getElem?_eq_some_iff.mp h').1; omega
 obtain ⟨u, h1, h2⟩ := r.get (i := i) (x := .int ns[i]) (by simp [hi])
 rw [h'] at h1; cases h1
 obtain ⟨t, rfl⟩ := h2
 exact ⟨t, by simp [List.getD, hi]⟩
theorem preSum_add (val : Nat → Int) (a : Int) : ∀ n, preSum (fun i => if i = 0 then a else val (i - 1)) (n + 1) = a + preSum val n
 | 0 => by simp [preSum]
 | n + 1 => by rw [preSum, preSum_add val a n, preSum]; simp; omega
theorem preSum_list : ∀ (ns : List Int), preSum (fun i => ns.getD i 0) ns.length = ns.sum
 | [] => rfl
 | a :: r => by
  have e : (fun i => (a :: r).getD i 0) = fun i => if i = 0 then a else r.getD (i - 1) 0 := by
   funext i; cases i <;> simp [List.getD]
  rw [e, List.length_cons, preSum_add (fun j => r.getD j 0) a, preSum_list r, List.sum_cons]
theorem call_sumI (k : Bool) (hc : X.calm = true) : CallR X (.builtin "sum") (fun xs H Q => ∃ (p : Addr) (ns : List Int), xs = [.ref p] ∧ Sq k X.K H p (ns.map V.int) ∧ Q (.int ns.sum) H) := by
 intro pins s σ H xs us Q I r h
 obtain ⟨p, ns, rfl, hq, q⟩ := h
 obtain ⟨u, rfl, ru⟩ := vals1 r
 cases ru
 refine call_sum_walkG (iter_seq hc I hq fun its s₂ fp wr S rv W st hfp fin => ?_)
 refine ⟨_, fp, wr, _, _, S, fun i => ns.getD i 0, rfl, W, st, hfp, fun i v hv => vals_int rv hv, fun h' tk t' hk => ?_⟩
 have hl : its.toArray.size = ns.length := by have := rv.length; simpa using this.symm
 rw [hl, preSum_list]
 exact ⟨.int ns.sum, H, fin h' tk hk, ⟨_, rfl⟩, q⟩
theorem range_all {α : Type} (ns : List α) (p : α → Bool) (d : α) : (List.range ns.length).all (fun i => p (ns.getD i d)) = ns.all p := by
 induction ns with
 | nil => rfl
 | cons a r ih =>
  rw [List.length_cons, List.range_succ_eq_map, List.all_cons, List.all_map, List.all_cons, ← ih]
  congr 1
theorem vals_bl {ns : List Bool} {its : List Value} (r : Za (ns.map V.bl) its) {i : Nat} {v : Value} (h : its.toArray[i]? = some v) : v = .bool (ns.getD i false) := by
 have hl := r.length
 rw [List.length_map] at hl
 have h' : its[i]? = some v := by simpa using h
 have hi : i < ns.length := by have := (List.getElem?_eq_some_iff.mp h').1; omega
 obtain ⟨u, h1, h2⟩ := r.get (i := i) (x := .bl ns[i]) (by simp [hi])
 rw [h'] at h1; cases h1
 cases h2
 simp [List.getD, hi]
theorem truthOf_bl {A : Around} {its : List Value} {ns : List Bool} (r : Za (ns.map V.bl) its) : TruthOf X.prog X.w A (fun i v => its.toArray[i]? = some v) (fun i => ns.getD i false) := fun i v s Q E hv hq => by
 cases vals_bl r hv
 exact wpAny_truthy_bool hq
theorem call_allB (k : Bool) (hc : X.calm = true) : CallR X (.builtin "all") (fun xs H Q => ∃ (p : Addr) (ns : List Bool), xs = [.ref p] ∧ Sq k X.K H p (ns.map V.bl) ∧ Q (.bl (ns.all id)) H) := by
 intro pins s σ H xs us Q I r h
 obtain ⟨p, ns, rfl, hq, q⟩ := h
 obtain ⟨u, rfl, ru⟩ := vals1 r
 cases ru
 refine call_all_walk (iter_seq hc I hq fun its s₂ fp wr S rv W st hfp fin => ?_)
 refine ⟨_, fp, wr, _, _, S, _, rfl, W, st, truthOf_bl rv, fun h' tk hk => ?_⟩
 have hl : its.toArray.size = ns.length := by have := rv.length; simpa using this.symm
 rw [hl, show ((List.range ns.length).all fun i => ns.getD i false) = ns.all id from range_all ns id false]
 exact ⟨.bl _, H, fin h' tk hk, rfl, q⟩
def maxI (ns : List Int) : Int := ns.foldl (fun a b => if a < b then b else a) (ns.headD 0)
theorem maxI_pre (ns : List Int) : ∀ m, m < ns.length → argBest (fun i j => decide (ns.getD i 0 > ns.getD j 0)) m < ns.length ∧ ns.getD (argBest (fun i j => decide (ns.getD i 0 > ns.getD j 0)) m) 0 = (ns.take (m + 1)).foldl (fun a b => if a < b then b else a) (ns.headD 0)
 | 0, h => by
  cases ns with
  | nil => simp at h
  | cons a r => simp [argBest, List.getD]
 | m + 1, h => by
  obtain ⟨h1, h2⟩ := maxI_pre ns m (by omega)
  have e : ns.take (m + 1 + 1) = ns.take (m + 1) ++ [ns[m + 1]] := by rw [List.take_succ_eq_append_getElem h]
  have g : ns.getD (m + 1) 0 = ns[m + 1] := by simp [List.getD, h]
  rw [e, List.foldl_append, ← h2]
  simp only [argBest, List.foldl_cons, List.foldl_nil, ← g]
  generalize argBest (fun i j => decide (ns.getD i 0 > ns.getD j 0)) m = q at h1 h2 ⊢
  by_cases c : ns.getD (m + 1) 0 > ns.getD q 0
  ·have c' : ns.getD q 0 < ns.getD (m + 1) 0 := c
   simp only [c, c', decide_true, if_true]; exact ⟨h, trivial⟩
  ·have c' : ¬ ns.getD q 0 < ns.getD (m + 1) 0 := c
   simp only [c, c', decide_false, if_false, Bool.false_eq_true]; exact ⟨h1, trivial⟩
def tyTab : List String := ["int", "bool", "str", "list", "tuple", "dict"]
theorem ty_type : ∀ T ∈ tyTab, typeOf (.type T) = pure (.type "type") := by
 intro T h
 simp only [tyTab, List.mem_cons, List.not_mem_nil, or_false] at h
 rcases h with rfl | rfl | rfl | rfl | rfl | rfl <;> rfl
theorem sub_tab : ∀ Tx ∈ ("NoneType" :: tyTab), ∀ T ∈ tyTab, isSubtype (.type Tx) (.type T) = pure (Tx == T || (Tx == "bool" && T == "int")) := by
 intro Tx hx T h
 rw [isSubtype_type]
 simp only [tyTab, List.mem_cons, List.not_mem_nil, or_false] at h hx
 rcases hx with rfl | rfl | rfl | rfl | rfl | rfl | rfl <;> rcases h with rfl | rfl | rfl | rfl | rfl | rfl <;> kernel_rfl
def TyN (K : PySem.W.Frag) (H : Hp) (x : V) (n : String) : Prop := match x with
 | .non => n = "NoneType"
 | .bl _ => n = "bool"
 | .int _ => n = "int"
 | .str _ => n = "str"
 | .ref p => (n = "list" ∧ ∃ xs, SqL K H p xs) ∨ (n = "tuple" ∧ ∃ xs, SqT K H p xs) ∨ (n = "dict" ∧ ∃ kvs, H p = some (.dK kvs))
 | _ => False
theorem call_isi : CallR X (.builtin "isinstance") (fun xs H Q => ∃ x T n, xs = [x, .ty T] ∧ T ∈ tyTab ∧ TyN X.K H x n ∧ Q (.bl (n == T || (n == "bool" && T == "int"))) H) := by
 intro pins s σ H xs us Q I r h
 obtain ⟨x, T, n, rfl, hT, hn, q⟩ := h
 obtain ⟨u, u', rfl, ru, ru'⟩ := vals2 r
 obtain rfl : u' = Value.type T := ru'
 have fin : ∀ tk, EP X pins σ Q (.bool (n == T || (n == "bool" && T == "int"))) { s with toks := tk } := fun tk => ⟨.bl _, H, I.tok tk, rfl, q⟩
 have nm : n ∈ ("NoneType" :: tyTab) := by
  cases x with
  | non => cases (show n = _ from hn); decide
  | bl b => cases (show n = _ from hn); decide
  | int b => cases (show n = _ from hn); decide
  | str b => cases (show n = _ from hn); decide
  | ref p => rcases hn with ⟨rfl, _⟩ | ⟨rfl, _⟩ | ⟨rfl, _⟩ <;> decide
  | _ => exact (show False from hn).elim
 have hs := sub_tab n nm T hT
 have ty : s.TypeIs u n := by
  cases x with
  | non => cases (show n = _ from hn); cases ru; exact PySem.typeIs_none s
  | bl b => cases (show n = _ from hn); cases ru; exact PySem.typeIs_bool s b
  | int b => cases (show n = _ from hn); obtain ⟨t, rfl⟩ := ru; exact typeIs_int s b t
  | str b => cases (show n = _ from hn); obtain ⟨t, rfl⟩ := ru; exact typeIs_str s b t
  | ref p =>
   cases ru
   rcases hn with ⟨rfl, xs, hq⟩ | ⟨rfl, xs, hq⟩ | ⟨rfl, kvs, hk⟩
   ·obtain ⟨its, _, pl, _⟩ := I.list hq; exact pl.isList.typeIs
   ·obtain ⟨its, _, pl, _⟩ := I.tuple hq; exact pl.typeIs
   ·obtain ⟨_, _, _, _, o, _, _, e, ex, _⟩ := I.hok p _ hk; exact ⟨o, e, ex.1⟩
  | _ => exact (show False from hn).elim
 cases hb : (n == T || (n == "bool" && T == "int")) with
 | true =>
  rw [hb] at hs
  have f := fin s.toks
  rw [hb] at f
  exact call_isinstance (isinstance_true (ty_type T hT) hs) ⟨ty, f⟩
 | false =>
  rw [hb] at hs
  have f := fin (s.toks + 1)
  rw [hb] at f
  have hne : (Value.type n == Value.type T) = false := by
   have e : (n == T) = false := by cases z : (n == T) <;> simp [z] at hb ⊢
   have e' : n ≠ T := by simpa using e
   exact beq_eq_false_iff_ne.mpr fun z => e' (by injection z)
  cases x with
  | non => cases (show n = _ from hn); cases ru; exact call_isinstance (isinstance_false_none hne (ty_type T hT) hs) f
  | bl b => cases (show n = _ from hn); cases ru; exact call_isinstance (isinstance_false_bool hne (ty_type T hT) hs) f
  | int b => cases (show n = _ from hn); obtain ⟨t, rfl⟩ := ru; exact call_isinstance (isinstance_false_int hne (ty_type T hT) hs) f
  | str b => cases (show n = _ from hn); obtain ⟨t, rfl⟩ := ru; exact call_isinstance (isinstance_false_str hne (ty_type T hT) hs) f
  | ref p =>
   cases ru
   rcases hn with ⟨rfl, _⟩ | ⟨rfl, _⟩ | ⟨rfl, _⟩
   ·obtain ⟨o, e, c⟩ := ty; exact call_isinstance (isinstance_false_list hne (ty_type T hT) hs) ⟨⟨o, e, c⟩, f⟩
   ·obtain ⟨o, e, c⟩ := ty; exact call_isinstance (isinstance_false_tuple hne (ty_type T hT) hs) ⟨⟨o, e, c⟩, f⟩
   ·obtain ⟨o, e, c⟩ := ty; exact call_isinstance (isinstance_false_dict hne (ty_type T hT) hs) ⟨⟨o, e, c⟩, f⟩
  | _ => exact (show False from hn).elim
def rCatS : R2 := fun x y H Q => ∃ l b xs zs, x = .ref l ∧ y = .ref b ∧ Rd H l (.lst xs) ∧ Rd H b (.lst zs) ∧ xs.length + zs.length ≤ sizeLine ∧ ∀ p, H p = none → Q (.ref p) (upd H p (.lst (xs ++ zs)))
theorem op_catS : OpR X (binaryOp .Add) rCatS := by
 intro pins s σ H x y v u Q I rx ry h
 obtain ⟨l, b, xs, zs, rfl, rfl, hH, hB, hz, q⟩ := h
 cases rx
 cases ry
 obtain ⟨z, its, n, r, e⟩ := hH.ok I.hok
 obtain ⟨z2, its2, n2, r2, e2⟩ := hB.ok I.hok
 have hl := r.length
 have hl2 := r2.length
 refine PySem.P.add_list e e2 ?_ (by rw [List.size_toArray, List.size_toArray]; omega)
 have ea : its.toArray ++ its2.toArray = (its ++ its2).toArray := by simp
 rw [ea]
 exact ⟨.ref _, _, I.lnew (t' := s.toks) (r.append r2) (by rw [List.length_append]; omega), rfl, q _ I.fresh⟩
theorem op_mulB : OpR X (binaryOp .Mult) (rI IntMulOk fun i j => .int (i * j)) := opI fun _ _ _ _ _ _ _ hc q => mul_int q hc
def CDivB (i j : Int) : Prop := j ≠ 0
theorem op_fdivP (hr : Room 34 X.A) : OpR X (binaryOp .FloorDiv) (rI CDivB fun i j => .int (i.fdiv j)) := by
 intro pins s σ H x y v u Q I rx ry h
 obtain ⟨i, j, rfl, rfl, hc, q⟩ := h
 obtain ⟨t, rfl⟩ := rx
 obtain ⟨t', rfl⟩ := ry
 refine floordiv_int hc ⟨.int (i.fdiv j), H, I.tok _, ⟨_, rfl⟩, q⟩ (.inr ?_)
 obtain ⟨e, l, h1, h2, h3, h4, h5⟩ := I.ok.top
 exact PylongRoom.of I.nolimit (by have := hr.dp; show X.A.depth + 100 < _; omega) (SeerAt.of (I.mod.seer.keeps I.bk) I.ok.tree (by rw [I.ok.frames, h1]) h2 h3 h4 h5)
end
end L2
namespace M
open PySem PySem.Spec L2
open PySem.W (Frag)
def dI (g : Int → Int → D) : D → D → Option D
 | .int i, .int j => some (g i j)
 | _, _ => none
noncomputable def dIc (C : Int → Int → Prop) (g : Int → Int → D) : D → D → Option D
 | .int i, .int j => open Classical in if C i j then some (g i j) else none
 | _, _ => none
section
variable {K : Frag}
theorem rok_I0 {g : Int → Int → V} {g' : Int → Int → D} (h : ∀ H B i j, Rep K H B (g' i j) (g i j)) : ROk K (rI0 g) (dI g') := fun H B x y d1 d2 d Q hB r1 r2 e k => by
 cases d1 <;> cases d2 <;> simp only [dI] at e <;> cases e
 simp only [Rep] at r1 r2
 exact ⟨_, _, r1, r2, k _ H (.refl H) (h _ _ _ _)⟩
theorem rok_I {C : Int → Int → Prop} {g : Int → Int → V} {g' : Int → Int → D} (h : ∀ H B i j, Rep K H B (g' i j) (g i j)) : ROk K (rI C g) (dIc C g') := fun H B x y d1 d2 d Q hB r1 r2 e k => by
 cases d1 <;> cases d2 <;> simp only [dIc] at e <;> try (cases e; done)
 split at e
 ·rename_i hc
  cases e
  simp only [Rep] at r1 r2
  exact ⟨_, _, r1, r2, hc, k _ H (.refl H) (h _ _ _ _)⟩
 ·cases e
theorem rep_int {H : Hp} {B : Addr → Prop} {i : Int} : Rep K H B (.int i) (.int i) := by simp [Rep]
theorem rep_bl {H : Hp} {B : Addr → Prop} {i : Bool} : Rep K H B (.bl i) (.bl i) := by simp [Rep]
abbrev dAdd := dI fun i j => .int (i + j)
abbrev dSub := dI fun i j => .int (i - j)
noncomputable abbrev dMul := dIc IntMulOk fun i j => .int (i * j)
noncomputable abbrev dDiv := dIc CDiv fun i j => .int (i / j)
noncomputable abbrev dDivP := dIc CDivB fun i j => .int (i.fdiv j)
noncomputable abbrev dMod := dIc (fun _ j => 0 < j) fun i j => .int (i % j)
noncomputable abbrev dPow := dIc CPow fun i j => .int (i ^ j.toNat)
abbrev dLt := dI fun i j => .bl (decide (i < j))
abbrev dLe := dI fun i j => .bl (decide (i ≤ j))
abbrev dGt := dI fun i j => .bl (decide (j < i))
theorem Zh : ROk K (rI0 fun i j => .int (i + j)) dAdd := rok_I0 fun _ _ _ _ => rep_int
theorem rok_sub : ROk K (rI0 fun i j => .int (i - j)) dSub := rok_I0 fun _ _ _ _ => rep_int
theorem rok_mul : ROk K (rI IntMulOk fun i j => .int (i * j)) dMul := rok_I fun _ _ _ _ => rep_int
theorem rok_div : ROk K (rI CDiv fun i j => .int (i / j)) dDiv := rok_I fun _ _ _ _ => rep_int
theorem rok_divP : ROk K (rI CDivB fun i j => .int (i.fdiv j)) dDivP := rok_I fun _ _ _ _ => rep_int
theorem Zg : ROk K (rI (fun _ j => 0 < j) fun i j => .int (i % j)) dMod := rok_I fun _ _ _ _ => rep_int
theorem rok_pow : ROk K (rI CPow fun i j => .int (i ^ j.toNat)) dPow := rok_I fun _ _ _ _ => rep_int
theorem rok_lt : ROk K (rI0 fun i j => .bl (decide (i < j))) dLt := rok_I0 fun _ _ _ _ => rep_bl
theorem rok_le : ROk K (rI0 fun i j => .bl (decide (i ≤ j))) dLe := rok_I0 fun _ _ _ _ => rep_bl
theorem rok_gt : ROk K (rI0 fun i j => .bl (decide (j < i))) dGt := rok_I0 fun _ _ _ _ => rep_bl
def eqS : D → D → Option Bool
 | .int i, .int j => some (decide (i = j))
 | .bl i, .bl j => some (decide (i = j))
 | .str i, .str j => some (decide (i = j))
 | .non, .non => some true
 | .non, .int _ => some false | .int _, .non => some false | .non, .bl _ => some false | .bl _, .non => some false | .non, .str _ => some false | .str _, .non => some false
 | .int _, .str _ => some false | .str _, .int _ => some false | .bl _, .str _ => some false | .str _, .bl _ => some false
 | _, _ => none
def dEqS (x y : D) : Option D := (eqS x y).map .bl
def dNeS (x y : D) : Option D := (eqS x y).map fun b => .bl (!b)
theorem eqS_v {H : Hp} {B : Addr → Prop} {d1 d2 : D} {x y : V} {b : Bool} (r1 : Rep K H B d1 x) (r2 : Rep K H B d2 y) (e : eqS d1 d2 = some b) : scal x y = true ∧ decide (x = y) = b := by
 cases d1 <;> cases d2 <;> simp only [eqS] at e <;> cases e <;> simp only [Rep] at r1 r2 <;> subst r1 <;> subst r2 <;> simp [scal]
theorem Zq : ROk K rEq dEqS := fun H B x y d1 d2 d Q hB r1 r2 e k => by
 obtain ⟨b, h1, rfl⟩ := map_some e
 obtain ⟨h2, h3⟩ := eqS_v r1 r2 h1
 exact ⟨h2, k _ H (.refl H) (by rw [h3]; exact rep_bl)⟩
theorem rok_neS : ROk K rNe dNeS := fun H B x y d1 d2 d Q hB r1 r2 e k => by
 obtain ⟨b, h1, rfl⟩ := map_some e
 obtain ⟨h2, h3⟩ := eqS_v r1 r2 h1
 exact ⟨h2, k _ H (.refl H) (by rw [h3]; exact rep_bl)⟩
def isNon : D → Bool
 | .non => true
 | _ => false
def dIsN (x y : D) : Option D := if isNon y then some (.bl (isNon x)) else none
def dNotN (x y : D) : Option D := if isNon y then some (.bl (!isNon x)) else none
theorem isNon_v {H : Hp} {B : Addr → Prop} {d : D} {x : V} (r : Rep K H B d x) : decide (x = .non) = isNon d := by
 cases d <;> simp only [Rep] at r <;> first | (subst r; simp [isNon]; done) | (obtain ⟨rfl, _⟩ := r; simp [isNon]; done) | (obtain ⟨a, xs, rfl, _⟩ := r; simp [isNon]) | (obtain ⟨a, rfl, _⟩ := r; simp [isNon])
theorem rok_isN : ROk K (fun x y H Q => y = .non ∧ Q (.bl (decide (x = .non))) H) dIsN := fun H B x y d1 d2 d Q hB r1 r2 e k => by
 unfold dIsN at e
 split at e
 ·cases e
  rename_i z
  have := isNon_v r2
  rw [z] at this
  exact ⟨of_decide_eq_true this, k _ H (.refl H) (by rw [isNon_v r1]; exact rep_bl)⟩
 ·cases e
def dNeg : D → Option D
 | .int i => some (.int (-i))
 | _ => none
theorem uok_neg : UOk K (rU fun i => .int (-i)) dNeg := fun H B x d1 d Q hB r e k => by
 cases d1 <;> simp only [dNeg] at e <;> cases e
 simp only [Rep] at r
 exact ⟨_, r, k _ H (.refl H) rep_int⟩
def truD : D → Option Bool
 | .non => some false
 | .bl b => some b
 | .int i => some (i != 0)
 | .lst ds => some (!ds.isEmpty)
 | .tup ds => some (!ds.isEmpty)
 | .dict ks _ => some (!ks.isEmpty)
 | .scr ns => some (!ns.isEmpty)
 | .str _ => none
 | .adr _ => none
 | .kset _ => none
 | .tk _ => none
 | .pin _ _ => none
theorem zv.isEmpty {H : Hp} {B : Addr → Prop} {ds : List D} {vs : List V} (h : zv K H B ds vs) : vs.isEmpty = ds.isEmpty := by
 have := h.length
 cases vs <;> cases ds <;> simp_all
end
def fTru (f : Ev → Option D) : Ev → Option Bool := fun ρ => (f ρ).bind truD
section
variable {X : Cx} {st : Bool} {os : List Nat} {e a b c : Expr} {es : List Expr} {t ta tb tc : TE} {tl : TA} {f fa fb fc : Ev → Option D} {fl : Ev → Option (List D)} {pos p : Pos} {x : Str}
def fCat (fa fb : Ev → Option (List D)) : Ev → Option D := fun ρ => (fa ρ).bind fun x => (fb ρ).bind fun y => dLst (x ++ y)
def asL : D → Option (List D)
 | .lst ds => some ds
 | _ => none
structure SL (X : Cx) (os : List Nat) (e : Expr) (t : TE) (f : Ev → Option (List D)) : Prop where
 pe : PE X e t
 ok : ∀ (H₀ : Hp) (B₀ : Addr → Prop) (σ : St) (H : Hp) (ρ : Ev) (ds : List D) (Q : VK), Md X.K H₀ B₀ os σ H ρ → f ρ = some ds → (∀ a xs H', Zx H H' → Rd H' a (.lst xs) → zv X.K H' (Bl B₀ os σ) ds xs → Q (.ref a) H') → t σ H Q
def fL (f : Ev → Option D) : Ev → Option (List D) := fun ρ => (f ρ).bind asL
theorem SE.sl (h : SE X true os e t f) : SL X os e t (fL f) := ⟨h.pe, fun H₀ B₀ σ H ρ ds Q m q k => by
 obtain ⟨x, h1, h2⟩ := zh q
 cases x <;> simp only [asL] at h2 <;> cases h2
 refine h.ok H₀ B₀ σ H ρ _ Q m h1 fun v H' s r => ?_
 simp only [Rep] at r
 obtain ⟨a, xs, rfl, hl, hr⟩ := r
 exact k a xs H' s hl.1 hr⟩
theorem SF.sl (h : SF X os e t f) : SL X os e t (fL f) := SE.sl (SF.se h)
variable {la lb : Ev → Option (List D)}
theorem sf_cat (ha : SL X os a ta la) (hb : SL X os b tb lb) : SF X os (.BinOp a .Add b pos) (tOp rCatS ta tb) (fCat la lb) := ⟨pe_op op_catS ha.pe hb.pe, fun H₀ B₀ σ H ρ d Q m q k => by
 obtain ⟨x, h1, h2⟩ := zh q
 obtain ⟨y, h3, h4⟩ := zh h2
 unfold dLst at h4
 split at h4
 ·rename_i hl
  cases h4
  refine ha.ok H₀ B₀ σ H ρ x _ m h1 fun p1 xs H1 s1 hq1 r1 => ?_
  refine hb.ok H₀ B₀ σ H1 ρ y _ (m.up s1) h3 fun p2 ys H2 s2 hq2 r2 => ?_
  refine ⟨p1, p2, xs, ys, rfl, rfl, Rd.same s2 hq1, hq2, by rw [r1.length, r2.length, ← List.length_append]; exact hl, fun p' hp => ?_⟩
  exact k p' _ _ ((s1.trans s2).trans (zN hp)) ((s1.trans s2).free hp) zK (zv.goes (.fresh hp (zN hp)) _ _ ((r1.up s2).append r2))
 ·cases h4⟩
def dRep (ds : List D) (d : D) : Option D := match d with | .int k => if -(2 ^ 63) ≤ k ∧ k < 2 ^ 63 ∧ ds.length * k.toNat ≤ sizeLine then some (.lst (List.replicate k.toNat ds).flatten) else none | _ => none
def fRep (fa : Ev → Option (List D)) (fb : Ev → Option D) : Ev → Option D := fun ρ => (fa ρ).bind fun x => (fb ρ).bind fun y => dRep x y
theorem sf_rep {u : Ev → Option D} (ha : SF X os a ta u) (hb : SE X true os b tb fb) : SF X os (.BinOp a .Mult b pos) (tOp rRep ta tb) (fRep (fL u) fb) := ⟨pe_op op_rep ha.pe hb.pe, fun H₀ B₀ σ H ρ d Q m q k => by
 obtain ⟨x, h1, h2⟩ := zh q
 obtain ⟨y, h3, h4⟩ := zh h2
 obtain ⟨z, h5, h6⟩ := zh h1
 cases z <;> simp only [asL] at h6 <;> cases h6
 cases y <;> simp only [dRep] at h4 <;> try (cases h4; done)
 split at h4
 ·rename_i hc
  cases h4
  refine ha.ok H₀ B₀ σ H ρ _ _ m h5 fun p1 o H1 s1 hn ho hw => ?_
  refine hb.ok H₀ B₀ σ H1 ρ _ _ (m.up s1) h3 fun v H2 s2 r2 => ?_
  simp only [Rep] at r2
  cases o <;> simp only [Own] at hw
  refine ⟨p1, _, _, rfl, r2, s2 _ _ ho, hc.1, hc.2.1, by rw [zv.length hw]; exact hc.2.2, fun p' hp => ?_⟩
  refine k p' _ _ ((s1.trans s2).trans (zN hp)) ((s1.trans s2).free hp) zK ?_
  have r1 : zv X.K H1 (Bl B₀ os σ) _ _ := zv.goes (.less (fun _ z => .inl z) (.refl H1)) _ _ hw
  exact zv.goes (.fresh hp (zN hp)) _ _ ((r1.up s2).rep _)
 ·cases h4⟩
def spM (K : Frag) (m : List D → Option D) : Sp := fun vs H Q _ => ∃ (B : Addr → Prop) (ds : List D) (d : D), (∀ a, B a → ∃ o, H a = some o) ∧ zv K H B ds vs ∧ m ds = some d ∧ ∀ v H', Zx H H' → Rep K H' B d v → Q v H'
theorem zD {k : Nat} {fn : Addr} {fd : FuncData} {ps : List Str} {m : List D → Option D} (F : FnOk X.prog X.w X.K X.mg X.base CX0 k fn fd ps (spM X.K m)) (hr : Room k X.A) (hg : Gl X x) (hm : X.mg x = some (.ref fn)) (hk : keepIn X.K (.ref fn) = true) (hb : Binds X.K fd ps [])
  (ha : SA X st os (e :: es) tl fl) (hdb : (x == ("__debug__" : Str)) = false := by decide) (he : starEach (e :: es) X.env = (false, eval e X.env) :: starEach es X.env := by rfl) (hpl : (backTo pos (starEach es X.env)).any (·.1) = false := by rfl) {K' : Frag} (hK : X.K = K' := by rfl) :
  SE X st os (.Call (.Name x p) (e :: es) [] pos) (tCall (spM K' m) [] E0 tl) (fA m fl) := by
 subst hK
 exact ⟨pe_call F hr hg hm hk hb .nil pass0 ha.pa hdb he hpl, fun H₀ B₀ σ H ρ d Q M q kk => by
 obtain ⟨ds, h1, h2⟩ := zh q
 refine ha.ok H₀ B₀ σ H ρ ds _ M h1 fun vs H1 s1 r1 => ?_
 refine ⟨BB st B₀ os σ, ds, d, (M.up s1).bb st, by rw [List.append_nil]; exact r1, h2, fun v H' s2 r2 => kk v H' (s1.trans s2) r2⟩⟩
def CaOk (K : Frag) (r : List V → Hp → VK → Prop) (g : List D → Option D) : Prop := ∀ (H : Hp) (B : Addr → Prop) (xs : List V) (ds : List D) (d : D) (Q : VK), (∀ a, B a → ∃ o, H a = some o) → zv K H B ds xs → g ds = some d → (∀ v H', Zx H H' → Rep K H' B d v → Q v H') → r xs H Q
theorem EOk.call {r : List V → Hp → VK → Prop} {g : List D → Option D} (hr : CaOk X.K r g) (ha : AOk X.K st os tl fl) : EOk X.K st os (tCB r tl) (fA g fl) := fun H₀ B₀ σ H ρ d Q m q k => by
 obtain ⟨ds, h1, h2⟩ := zh q
 refine ha H₀ B₀ σ H ρ ds _ m h1 fun vs H1 s1 r1 => ?_
 exact hr H1 _ vs ds d Q ((m.up s1).bb st) r1 h2 fun v H' s2 r2 => k v H' (s1.trans s2) r2
theorem se_callB {id : String} {r : List V → Hp → VK → Prop} {g : List D → Option D} (hc : CallR X (.builtin id) r) (hr : CaOk X.K r g) (hg : Gl X x) (hm : X.mg x = none) (hv : bootBuiltins x = some (.builtin id)) (ha : SA X st os (e :: es) tl fl) (hn : x ≠ "__name__" := by decide) (hdb : (x == ("__debug__" : Str)) = false := by decide)
  (he : starEach (e :: es) X.env = (false, eval e X.env) :: starEach es X.env := by rfl) (hpl : (backTo pos (starEach es X.env)).any (·.1) = false := by rfl) : SE X st os (.Call (.Name x p) (e :: es) [] pos) (tCB r tl) (fA g fl) := ⟨pe_callB hc hg hm hv ha.pa hn hdb he hpl, EOk.call hr ha.ok⟩
theorem se_callTy {T : String} {r : List V → Hp → VK → Prop} {g : List D → Option D} (hc : CallR X (.type T) r) (hr : CaOk X.K r g) (hg : Gl X x) (hm : X.mg x = none) (hv : bootBuiltins x = some (.type T)) (ha : SA X st os (e :: es) tl fl) (hn : x ≠ "__name__" := by decide) (hdb : (x == ("__debug__" : Str)) = false := by decide)
  (he : starEach (e :: es) X.env = (false, eval e X.env) :: starEach es X.env := by rfl) (hpl : (backTo pos (starEach es X.env)).any (·.1) = false := by rfl) : SE X st os (.Call (.Name x p) (e :: es) [] pos) (tCB r tl) (fA g fl) := ⟨pe_callTy hc hg hm hv ha.pa hn hdb he hpl, EOk.call hr ha.ok⟩
def gAbs : List D → Option D
 | [.int i] => some (.int (if i < 0 then -i else i))
 | _ => none
def gInt : List D → Option D
 | [.int i] => some (.int i)
 | [.bl k] => some (.int (if k then 1 else 0))
 | _ => none
def gMax2 : List D → Option D
 | [.int i, .int j] => some (.int (if j > i then j else i))
 | _ => none
theorem reps1 {K : Frag} {H : Hp} {B : Addr → Prop} {d : D} {vs : List V} (h : zv K H B [d] vs) : ∃ v, vs = [v] ∧ Rep K H B d v := by
 simp only [zv] at h
 obtain ⟨v, r, rfl, h1, rfl⟩ := h
 exact ⟨v, rfl, h1⟩
theorem reps2 {K : Frag} {H : Hp} {B : Addr → Prop} {d d' : D} {vs : List V} (h : zv K H B [d, d'] vs) : ∃ v v', vs = [v, v'] ∧ Rep K H B d v ∧ Rep K H B d' v' := by
 simp only [zv] at h
 obtain ⟨v, r, rfl, h1, v', r', rfl, h2, rfl⟩ := h
 exact ⟨v, v', rfl, h1, h2⟩
theorem caok_abs {K : Frag} : CaOk K (fun xs H Q => ∃ i, xs = [.int i] ∧ Q (.int (if i < 0 then -i else i)) H) gAbs := fun H B xs ds d Q hB r e k => by
 unfold gAbs at e
 split at e <;> cases e
 obtain ⟨v, rfl, h1⟩ := reps1 r
 simp only [Rep] at h1
 subst h1
 exact ⟨_, rfl, k _ H (.refl H) rep_int⟩
theorem caok_int {K : Frag} : CaOk K (fun xs H Q => (∃ i, xs = [.int i] ∧ Q (.int i) H) ∨ ∃ k, xs = [.bl k] ∧ Q (.int (if k then 1 else 0)) H) gInt := fun H B xs ds d Q hB r e k => by
 unfold gInt at e
 split at e <;> cases e
 ·obtain ⟨v, rfl, h1⟩ := reps1 r
  simp only [Rep] at h1
  subst h1
  exact .inl ⟨_, rfl, k _ H (.refl H) rep_int⟩
 ·obtain ⟨v, rfl, h1⟩ := reps1 r
  simp only [Rep] at h1
  subst h1
  exact .inr ⟨_, rfl, k _ H (.refl H) rep_int⟩
theorem caok_max2 {K : Frag} : CaOk K (fun xs H Q => ∃ i j, xs = [.int i, .int j] ∧ Q (.int (if j > i then j else i)) H) gMax2 := fun H B xs ds d Q hB r e k => by
 unfold gMax2 at e
 split at e <;> cases e
 obtain ⟨v, v', rfl, h1, h2⟩ := reps2 r
 simp only [Rep] at h1 h2
 subst h1; subst h2
 exact ⟨_, _, rfl, k _ H (.refl H) rep_int⟩
def tyD : D → String
 | .non => "NoneType" | .bl _ => "bool" | .int _ => "int" | .str _ => "str" | .lst _ => "list" | .tup _ => "tuple" | .dict _ _ => "dict" | .scr _ => "list" | .adr _ => "" | .kset _ => "" | .tk _ => "" | .pin _ d => tyD d
def dIsi (T : String) (d : D) : D := .bl (tyD d == T || (tyD d == "bool" && T == "int"))
def gIsi (T : String) : D → Option D
 | .adr _ => none
 | .kset _ => none
 | .tk _ => none
 | .pin _ d => gIsi T d
 | d => some (dIsi T d)
def Plain : D → Prop
 | .adr _ => False
 | .kset _ => False
 | .tk _ => False
 | .pin _ d => Plain d
 | _ => True
theorem gIsi_ {T : String} : ∀ {d d' : D}, gIsi T d = some d' → Plain d ∧ d' = dIsi T d
 | .non, d', h | .bl _, d', h | .int _, d', h | .str _, d', h | .tup _, d', h | .lst _, d', h | .dict _ _, d', h | .scr _, d', h => by simp only [gIsi] at h; cases h; exact ⟨trivial, rfl⟩
 | .adr _, d', h | .kset _, d', h | .tk _, d', h => by simp only [gIsi] at h; cases h
 | .pin _ d, d', h => by
  simp only [gIsi] at h
  obtain ⟨h1, h2⟩ := gIsi_ h
  exact ⟨h1, h2⟩
theorem tyN {K : Frag} {H : Hp} {B : Addr → Prop} : ∀ {d : D} {v : V}, Plain d → Rep K H B d v → TyN K H v (tyD d)
 | .non, v, _, r => by simp only [Rep] at r; subst r; rfl
 | .bl _, v, _, r => by simp only [Rep] at r; subst r; rfl
 | .int _, v, _, r => by simp only [Rep] at r; subst r; rfl
 | .str _, v, _, r => by simp only [Rep] at r; subst r; rfl
 | .tup _, v, _, r => by simp only [Rep] at r; obtain ⟨a, xs, rfl, hq, hr⟩ := r; exact .inr (.inl ⟨rfl, xs, hq⟩)
 | .lst _, v, _, r => by simp only [Rep] at r; obtain ⟨a, xs, rfl, hq, hr⟩ := r; exact .inl ⟨rfl, xs, hq.sq⟩
 | .dict _ _, v, _, r => by simp only [Rep] at r; obtain ⟨a, kvs, rfl, hq, hk, hr⟩ := r; exact .inr (.inr ⟨rfl, kvs, hq.1⟩)
 | .scr _, v, _, r => by simp only [Rep] at r; obtain ⟨a, rfl, hq⟩ := r; exact .inl ⟨rfl, _, hq.sq⟩
 | .adr _, v, h, _ => h.elim
 | .kset _, v, h, _ => h.elim
 | .tk _, v, h, _ => h.elim
 | .pin _ d, v, h, r => by simp only [Rep] at r; exact tyN (d := d) h r.2
theorem se_isi {y : Str} {T : String} {p' : Pos} (hg : Gl X "isinstance") (hm : X.mg "isinstance" = none) (hg2 : Gl X y) (hm2 : X.mg y = none) (hv2 : bootBuiltins y = some (.type T)) (hT : T ∈ tyTab) (ha : SE X false os a ta fa) (hn : y ≠ "__name__" := by decide) (hdb : (y == ("__debug__" : Str)) = false := by decide)
  (h1 : starEach [a, .Name y p'] X.env = (false, eval a X.env) :: starEach [.Name y p'] X.env := by rfl) (h2 : starEach [.Name y p'] X.env = (false, eval (.Name y p') X.env) :: starEach [] X.env := by rfl) (hpl : (backTo pos (starEach [.Name y p'] X.env)).any (·.1) = false := by rfl) {K' : Frag} (hK : X.K = K' := by rfl) :
  SE X st os (.Call (.Name "isinstance" p) [a, .Name y p'] [] pos) (tCB (fun xs H Q => ∃ x T n, xs = [x, .ty T] ∧ T ∈ tyTab ∧ TyN K' H x n ∧ Q (.bl (n == T || (n == "bool" && T == "int"))) H) (Zi ta (Zi (tC (.ty T)) tNil))) (f1 (gIsi T) fa) := by
 subst hK
 exact
 ⟨pe_callB call_isi hg hm PyProof.Rows.boot_isinstance (zT ha.pe (zT (pe_bltn (v := .ty T) hg2 hm2 hv2 rfl hn hdb) Zv h2) h1) (by decide) (by decide) h1 hpl, fun H₀ B₀ σ H ρ d Q m q k => by
  obtain ⟨x, h1, h2⟩ := zh q
  obtain ⟨h3, rfl⟩ := gIsi_ h2
  refine ha.ok H₀ B₀ σ H ρ x _ m h1 fun v H1 s1 r1 => ?_
  exact ⟨v, T, tyD x, rfl, hT, tyN h3 r1, k _ H1 s1 rep_bl⟩⟩
theorem EOk.callC {k : Bool} {r : List V → Hp → VK → Prop} {g : List D → Option D} {ca : Ev → Option (List D)}
  (hr : ∀ (H : Hp) (B : Addr → Prop) (q : Addr) (xs : List V) (ds : List D) (d : D) (Q : VK), Sq k X.K H q xs → zv X.K H B ds xs → g ds = some d → (∀ v H', Zx H H' → Rep X.K H' B d v → Q v H') → r [.ref q] H Q)
  (ha : COk X.K k os ta ca) : EOk X.K st os (tCB r (Zi ta tNil)) (fA g ca) := fun H₀ B₀ σ H ρ d Q m q kk => by
 obtain ⟨ds, h1, h2⟩ := zh q
 refine ha H₀ B₀ σ H ρ ds _ m h1 fun a xs H1 s1 hq r1 => ?_
 exact hr H1 (Bl B₀ os σ) a xs ds d Q hq r1 h2 fun v H' s2 r2 => kk v H' (s1.trans s2) (Rep.bb r2)
variable {ca : Ev → Option (List D)} {k : Bool}
def gLen (ds : List D) : Option D := some (.int ds.length)
theorem se_len (hg : Gl X "len") (hm : X.mg "len" = none) (ha : SC X k os a ta ca) (h1 : starEach [a] X.env = (false, eval a X.env) :: starEach [] X.env := by rfl) (hpl : (backTo pos (starEach [] X.env)).any (·.1) = false := by rfl) {K' : Frag} (hK : X.K = K' := by rfl) :
  SE X st os (.Call (.Name "len" p) [a] [] pos) (tCB (fun xs H Q => ∃ p ys, xs = [.ref p] ∧ (SqL K' H p ys ∨ SqT K' H p ys) ∧ Q (.int ys.length) H) (Zi ta tNil)) (fA gLen ca) := by
 subst hK
 exact
 ⟨pe_callB call_len_seq hg hm PySem.boot_len (zT ha.pe Zv h1) (by decide) (by decide) h1 hpl, EOk.callC (k := k) (fun H B q xs ds d Q hq r e kk => by
  cases e
  refine ⟨q, xs, rfl, ?_, kk _ H (.refl H) (by rw [r.length]; exact rep_int)⟩
  cases k with
  | true => exact .inl hq
  | false => exact .inr hq) ha.ok⟩
def intsD : List D → Option (List Int)
 | [] => some []
 | .int i :: r => (intsD r).map (i :: ·)
 | _ :: _ => none
def boolsD : List D → Option (List Bool)
 | [] => some []
 | .bl i :: r => (boolsD r).map (i :: ·)
 | _ :: _ => none
theorem intsD_map (ns : List Int) : intsD (ns.map .int) = some ns := by
 induction ns with
 | nil => rfl
 | cons n r ih => simp [intsD, ih]
theorem boolsD_map (ns : List Bool) : boolsD (ns.map .bl) = some ns := by
 induction ns with
 | nil => rfl
 | cons n r ih => simp [boolsD, ih]
theorem of_intsD : ∀ {ds : List D} {ns : List Int}, intsD ds = some ns → ds = ns.map .int
 | [], ns, h => by simp only [intsD] at h; cases h; rfl
 | d :: r, ns, h => by
  cases d <;> simp only [intsD] at h <;> try (cases h; done)
  obtain ⟨ms, h1, rfl⟩ := map_some h
  rw [of_intsD h1]; rfl
theorem of_boolsD : ∀ {ds : List D} {ns : List Bool}, boolsD ds = some ns → ds = ns.map .bl
 | [], ns, h => by simp only [boolsD] at h; cases h; rfl
 | d :: r, ns, h => by
  cases d <;> simp only [boolsD] at h <;> try (cases h; done)
  obtain ⟨ms, h1, rfl⟩ := map_some h
  rw [of_boolsD h1]; rfl
theorem zv.bls : ∀ {K : Frag} {H : Hp} {B : Addr → Prop} {ns : List Bool} {vs : List V}, zv K H B (ns.map D.bl) vs → vs = ns.map V.bl
 | K, H, B, [], vs, h => by simpa [zv] using h
 | K, H, B, n :: r, vs, h => by
  simp only [List.map_cons, zv, Rep] at h
  obtain ⟨v, r', e, h1, h2⟩ := h
  subst e; subst h1
  rw [zv.bls h2]; rfl
def gSum (ds : List D) : Option D := (intsD ds).map fun ns => .int ns.sum
def gAnyI (ds : List D) : Option D := (intsD ds).map fun ns => .bl (ns.any (· != 0))
def gAllB (ds : List D) : Option D := (boolsD ds).map fun ns => .bl (ns.all id)
theorem se_sum (hc : X.calm = true) (hg : Gl X "sum") (hm : X.mg "sum" = none) (ha : SC X k os a ta ca) (h1 : starEach [a] X.env = (false, eval a X.env) :: starEach [] X.env := by rfl) (hpl : (backTo pos (starEach [] X.env)).any (·.1) = false := by rfl) {K' : Frag} (hK : X.K = K' := by rfl) :
  SE X st os (.Call (.Name "sum" p) [a] [] pos) (tCB (fun xs H Q => ∃ (p : Addr) (ns : List Int), xs = [.ref p] ∧ Sq k K' H p (ns.map V.int) ∧ Q (.int ns.sum) H) (Zi ta tNil)) (fA gSum ca) := by
 subst hK
 exact
 ⟨pe_callB (call_sumI k hc) hg hm PyProof.Rows.boot_sum (zT ha.pe Zv h1) (by decide) (by decide) h1 hpl, EOk.callC (k := k) (fun H B q xs ds d Q hq r e kk => by
  obtain ⟨ns, h1, rfl⟩ := map_some e
  rw [of_intsD h1] at r
  rw [r.ints'] at hq
  exact ⟨q, ns, rfl, hq, kk _ H (.refl H) rep_int⟩) ha.ok⟩
theorem boot_all' : bootBuiltins "all" = some (.builtin "all") := by decide +kernel
theorem boot_abs' : bootBuiltins "abs" = some (.builtin "abs") := by decide +kernel
theorem se_allB (hc : X.calm = true) (hg : Gl X "all") (hm : X.mg "all" = none) (ha : SC X k os a ta ca) (h1 : starEach [a] X.env = (false, eval a X.env) :: starEach [] X.env := by rfl) (hpl : (backTo pos (starEach [] X.env)).any (·.1) = false := by rfl) {K' : Frag} (hK : X.K = K' := by rfl) :
  SE X st os (.Call (.Name "all" p) [a] [] pos) (tCB (fun xs H Q => ∃ (p : Addr) (ns : List Bool), xs = [.ref p] ∧ Sq k K' H p (ns.map V.bl) ∧ Q (.bl (ns.all id)) H) (Zi ta tNil)) (fA gAllB ca) := by
 subst hK
 exact
 ⟨pe_callB (call_allB k hc) hg hm boot_all' (zT ha.pe Zv h1) (by decide) (by decide) h1 hpl, EOk.callC (k := k) (fun H B q xs ds d Q hq r e kk => by
  obtain ⟨ns, h1, rfl⟩ := map_some e
  rw [of_boolsD h1] at r
  rw [r.bls] at hq
  exact ⟨q, ns, rfl, hq, kk _ H (.refl H) rep_bl⟩) ha.ok⟩
def gTuple (ds : List D) : Option D := some (.tup ds)
theorem se_tuple (hg : Gl X "tuple") (hm : X.mg "tuple" = none) (ha : SC X true os a ta ca) (h1 : starEach [a] X.env = (false, eval a X.env) :: starEach [] X.env := by rfl) (hpl : (backTo pos (starEach [] X.env)).any (·.1) = false := by rfl) {K' : Frag} (hK : X.K = K' := by rfl) :
  SE X st os (.Call (.Name "tuple" p) [a] [] pos) (tCB (fun xs H Q => ∃ p ys, xs = [.ref p] ∧ ((SqL K' H p ys ∧ ∀ l, H l = none → Q (.ref l) (upd H l (.tup ys))) ∨ (SqT K' H p ys ∧ Q (.ref p) H))) (Zi ta tNil)) (fA gTuple ca) := by
 subst hK
 exact
 ⟨pe_callTy call_tuple_of hg hm PyProof.Rows.boot_tuple (zT ha.pe Zv h1) (by decide) (by decide) h1 hpl, EOk.callC (k := true) (fun H B q xs ds d Q hq r e kk => by
  cases e
  refine ⟨q, xs, rfl, .inl ⟨hq, fun l hl => kk _ _ (zN hl) ?_⟩⟩
  simp only [Rep]
  exact ⟨l, xs, rfl, .inl (.inl zK), r.up (zN hl)⟩) ha.ok⟩
theorem sf_list (hg : Gl X "list") (hm : X.mg "list" = none) (ha : SC X k os a ta ca) (h1 : starEach [a] X.env = (false, eval a X.env) :: starEach [] X.env := by rfl) (hpl : (backTo pos (starEach [] X.env)).any (·.1) = false := by rfl) {K' : Frag} (hK : X.K = K' := by rfl) :
  SF X os (.Call (.Name "list" p) [a] [] pos) (tCB (fun xs H Q => ∃ p ys, xs = [.ref p] ∧ (SqL K' H p ys ∨ SqT K' H p ys) ∧ ∀ l, H l = none → Q (.ref l) (upd H l (.lst ys))) (Zi ta tNil)) (fA (fun ds => some (.lst ds)) ca) := by
 subst hK
 exact
 ⟨pe_callTy call_list_of hg hm PyProof.Rows.boot_list (zT ha.pe Zv h1) (by decide) (by decide) h1 hpl, fun H₀ B₀ σ H ρ d Q m q kk => by
  obtain ⟨ds, h1, h2⟩ := zh q
  cases h2
  refine ha.ok H₀ B₀ σ H ρ ds _ m h1 fun a xs H1 s1 hq r1 => ⟨a, xs, rfl, ?_, fun l hl => ?_⟩
  ·cases k with
   | true => exact .inl hq
   | false => exact .inr hq
  ·exact kk l _ _ (s1.trans (zN hl)) (s1.free hl) zK (zv.goes (.fresh hl (zN hl)) _ _ r1)⟩
end
def SqS (k : Bool) (K : Frag) (H : Hp) (B : Addr → Prop) (a : Addr) (xs : List V) : Prop := match k with
 | true => RL K H B a xs ∨ RS K H a xs
 | false => SqT K H a xs
def Cn (s k : Bool) (K : Frag) (H : Hp) (B : Addr → Prop) (a : Addr) (xs : List V) : Prop := match s with
 | true => SqS k K H B a xs
 | false => Sq k K H a xs
theorem Cn.sq {s k : Bool} {K : Frag} {H : Hp} {B : Addr → Prop} {a : Addr} {xs : List V} (h : Cn s k K H B a xs) : Sq k K H a xs := by
 cases s with
 | false => exact h
 | true =>
  cases k with
  | true => exact h.elim RL.sq RS.sq
  | false => exact h
theorem Cn.mv {k : Bool} {K : Frag} {H H' : Hp} {B B' : Addr → Prop} {a : Addr} {xs : List V} (g : Goes H H' B B') (h : Cn true k K H B a xs) : Cn true k K H' B' a xs := by
 cases k with
 | true =>
  rcases h with h | h
  ·exact .inl (g.lst a xs h.1 h.2)
  ·rcases h with ⟨o, h⟩ | h
   ·exact .inr (.inl ⟨o, g.frz a o _ h⟩)
   ·exact .inr (.inr h)
 | false =>
  rcases h with h | h
  ·exact .inl (g.tup a xs h)
  ·exact .inr h
theorem Sq.same {k : Bool} {K : Frag} {H H' : Hp} {a : Addr} {xs : List V} (e : Zx H H') (h : Sq k K H a xs) : Sq k K H' a xs := by
 cases k with
 | true => exact e.seq h
 | false => exact SqT.same e h
structure SN (X : Cx) (s k : Bool) (os : List Nat) (e : Expr) (t : TE) (f : Ev → Option (List D)) : Prop where
 pe : PE X e t
 ok : ∀ (H₀ : Hp) (B₀ : Addr → Prop) (σ : St) (H : Hp) (ρ : Ev) (ds : List D) (Q : VK), Md X.K H₀ B₀ os σ H ρ → f ρ = some ds → (∀ a xs H', Zx H H' → Cn s k X.K H' (Bl B₀ os σ) a xs → zv X.K H' (Bl B₀ os σ) ds xs → Q (.ref a) H') → t σ H Q
def Mv (H' : Hp) (ok : Hp → (Addr → Prop) → Prop) : Prop := ∀ n, H' n = none → ∀ Ha Hb Ba Bb, Goes Ha Hb Ba Bb → (∀ b o, b ≠ n → Ha b = some o → Hb b = some o) → ok Ha Ba → ok Hb Bb
theorem Cn.split {s k : Bool} {K : Frag} {H : Hp} {B : Addr → Prop} {a : Addr} {xs : List V} (h : Cn s k K H B a xs) : ∃ P : Hp → (Addr → Prop) → Prop, P H B ∧ (∀ H B, P H B → Sq k K H a xs) ∧ Mv H P ∧ (s = true → ∀ Ha Hb Ba Bb, Goes Ha Hb Ba Bb → P Ha Ba → P Hb Bb) := by
 cases s with
 | true => exact ⟨fun H B => Cn true k K H B a xs, h, fun H B q => q.sq, fun n hn Ha Hb Ba Bb g _ q => q.mv g, fun _ Ha Hb Ba Bb g q => q.mv g⟩
 | false =>
  have h' : Sq k K H a xs := h
  cases k with
  | true =>
   rcases h' with h' | h'
   ·refine ⟨fun H _ => Rd H a (.lst xs), h', fun H B q => .inl q, fun n hn Ha Hb Ba Bb g kp q => ?_, fun z => by cases z⟩
    have hne : a ≠ n := fun e => by subst e; rcases h' with h' | ⟨o, h'⟩ <;> (rw [hn] at h'; cases h')
    rcases q with q | ⟨o, q⟩
    ·exact .inl (kp _ _ hne q)
    ·exact .inr ⟨o, kp _ _ hne q⟩
   ·exact ⟨fun _ _ => True, trivial, fun _ _ _ => .inr h', fun _ _ _ _ _ _ _ _ _ => trivial, fun z => by cases z⟩
  | false =>
   rcases h' with h' | h'
   ·refine ⟨fun H _ => Rd H a (.tup xs), h', fun H B q => .inl q, fun n hn Ha Hb Ba Bb g kp q => g.tup _ _ q, fun z => by cases z⟩
   ·exact ⟨fun _ _ => True, trivial, fun _ _ _ => .inr h', fun _ _ _ _ _ _ _ _ _ => trivial, fun z => by cases z⟩
structure IW (K : Frag) (J : It) (ds : List D) (ok : Hp → (Addr → Prop) → Prop) : Prop where
 go : ∀ H B (i : Nat) d, ok H B → ds[i]? = some d → J.go i H
 yld : ∀ H B (i : Nat) d x H', ok H B → ds[i]? = some d → J.yld i H x H' → Zx H H' ∧ Rep K H' B d x
 stop : ∀ H B (i : Nat), ok H B → ds.length ≤ i → J.stop i H
def IOk (K : Frag) (s : Bool) (os : List Nat) (wi : TI) (fi : Ev → Option (List D)) : Prop :=
 ∀ (H₀ : Hp) (B₀ : Addr → Prop) (σ : St) (H : Hp) (ρ : Ev) (ds : List D) (R : It → Hp → Prop), Md K H₀ B₀ os σ H ρ → fi ρ = some ds →
  (∀ (J : It) (H' : Hp) (ok : Hp → (Addr → Prop) → Prop), Zx H H' → IW K J ds ok → Mv H' ok → (s = true → ∀ H H' B B', Goes H H' B B' → ok H B → ok H' B') → ok H' (Bl B₀ os σ) → R J H') → wi σ H R
structure SI (X : Cx) (s : Bool) (os : List Nat) (tg iter : Expr) (wi : TI) (fi : Ev → Option (List D)) : Prop where
 pi : PI X tg iter wi
 ok : IOk X.K s os wi fi
section
variable {X : Cx} {s k : Bool} {os : List Nat} {e a b tg : Expr} {t ta tb : TE} {f fa fb : Ev → Option D} {fl ca cb : Ev → Option (List D)} {pos p : Pos}
theorem SE.sn (h : SE X true os e t f) : SN X true k os e t (zu k f) := ⟨h.pe, fun H₀ B₀ σ H ρ ds Q m q kk => by
 obtain ⟨x, h1, h2⟩ := zh q
 refine h.ok H₀ B₀ σ H ρ _ Q m h1 fun v H' s r => ?_
 cases k with
 | true =>
  cases x <;> simp only [asK] at h2 <;> cases h2
  ·simp only [Rep] at r
   obtain ⟨a, xs, rfl, hl, hr⟩ := r
   exact kk a xs H' s (.inl hl) hr
  ·simp only [Rep] at r
   obtain ⟨a, rfl, hl⟩ := r
   exact kk a _ H' s (.inr hl) .ints
 | false =>
  cases x <;> simp only [asK] at h2 <;> cases h2
  simp only [Rep] at r
  obtain ⟨a, xs, rfl, hl, hr⟩ := r
  exact kk a xs H' s hl hr⟩
theorem SC.sn (h : SC X k os e t fl) : SN X false k os e t fl := ⟨h.pe, fun H₀ B₀ σ H ρ ds Q m q kk => h.ok H₀ B₀ σ H ρ ds Q m q fun a xs H' s hq r => kk a xs H' s hq r⟩
theorem si_list (h : SN X s true os e t fl) {K' : Frag} (hK : X.K = K' := by rfl) : SI X s os tg e (iList K' t) fl := by
 subst hK
 exact ⟨pi_list h.pe, fun H₀ B₀ σ H ρ ds R m q kk => by
 refine h.ok H₀ B₀ σ H ρ ds _ m q fun a xs H1 s1 hc r => ⟨a, rfl, ⟨xs, hc.sq⟩, ?_⟩
 obtain ⟨P, p0, psq, pmv, pst⟩ := hc.split
 refine kk _ H1 (fun H B => P H B ∧ zv X.K H B ds xs) s1 ⟨fun H B i d ok e => ?_, fun H B i d x H' ok e y => ?_, fun H B i ok hl => ?_⟩ (fun n hn Ha Hb Ba Bb g kp ok => ⟨pmv n hn _ _ _ _ g kp ok.1, zv.goes g _ _ ok.2⟩) (fun hs H H' B B' g ok => ⟨pst hs _ _ _ _ g ok.1, zv.goes g _ _ ok.2⟩) ⟨p0, r⟩
 ·obtain ⟨v, h1, h2⟩ := ok.2.get e
  exact ⟨xs, v, psq _ _ ok.1, h1⟩
 ·obtain ⟨rfl, h1⟩ := y
  obtain ⟨v, h2, h3⟩ := ok.2.get e
  have := h1 xs (psq _ _ ok.1)
  rw [h2] at this; cases this
  exact ⟨.refl _, h3⟩
 ·exact ⟨xs, psq _ _ ok.1, by rw [ok.2.length]; exact hl⟩⟩
theorem si_tup (h : SN X s false os e t fl) {K' : Frag} (hK : X.K = K' := by rfl) : SI X s os tg e (iTup K' t) fl := by
 subst hK
 exact ⟨pi_tup h.pe, fun H₀ B₀ σ H ρ ds R m q kk => by
 refine h.ok H₀ B₀ σ H ρ ds _ m q fun a xs H1 s1 hc r => ⟨a, rfl, ⟨xs, hc.sq⟩, ?_⟩
 obtain ⟨P, p0, psq, pmv, pst⟩ := hc.split
 refine kk _ H1 (fun H B => P H B ∧ zv X.K H B ds xs) s1 ⟨fun H B i d ok e => ?_, fun H B i d x H' ok e y => ?_, fun H B i ok hl => ?_⟩ (fun n hn Ha Hb Ba Bb g kp ok => ⟨pmv n hn _ _ _ _ g kp ok.1, zv.goes g _ _ ok.2⟩) (fun hs H H' B B' g ok => ⟨pst hs _ _ _ _ g ok.1, zv.goes g _ _ ok.2⟩) ⟨p0, r⟩
 ·obtain ⟨v, h1, h2⟩ := ok.2.get e
  exact ⟨xs, v, psq _ _ ok.1, h1⟩
 ·obtain ⟨rfl, h1⟩ := y
  obtain ⟨v, h2, h3⟩ := ok.2.get e
  have := h1 xs (psq _ _ ok.1)
  rw [h2] at this; cases this
  exact ⟨.refl _, h3⟩
 ·exact ⟨xs, psq _ _ ok.1, by rw [ok.2.length]; exact hl⟩⟩
def rangeD (lo : Int) (n : Nat) : List D := (List.range n).map fun i => .int (lo + (i : Nat))
theorem iw_range {K : Frag} (lo : Int) (n : Nat) : IW K (Itr lo n) (rangeD lo n) (fun _ _ => True) := by
 have hl : (rangeD lo n).length = n := by simp [rangeD]
 refine ⟨fun H B i d _ e => ?_, fun H B i d x H' _ e y => ?_, fun H B i _ h => ?_⟩
 ·have := (List.getElem?_eq_some_iff.mp e).1
  rw [hl] at this; exact this
 ·obtain ⟨rfl, rfl⟩ := y
  have hi : i < n := by have := (List.getElem?_eq_some_iff.mp e).1; rw [hl] at this; exact this
  simp [rangeD, hi] at e
  subst e
  exact ⟨.refl _, rep_int⟩
 ·rw [hl] at h; exact h
def fRng1 (fa : Ev → Option D) : Ev → Option (List D) := fun ρ => (fa ρ).bind fun d => (asI d).bind fun j => if -(2 ^ 62) ≤ j ∧ j < 2 ^ 62 then some (rangeD 0 j.toNat) else none
def fRng2 (fa fb : Ev → Option D) : Ev → Option (List D) := fun ρ => (fa ρ).bind fun d => (fb ρ).bind fun d' => (asI d).bind fun i => (asI d').bind fun j => if -(2 ^ 62) ≤ i ∧ i < 2 ^ 62 ∧ -(2 ^ 62) ≤ j ∧ j < 2 ^ 62 then some (rangeD i (j - i).toNat) else none
theorem asI_v {K : Frag} {H : Hp} {B : Addr → Prop} {d : D} {v : V} {i : Int} (r : Rep K H B d v) (e : asI d = some i) : v = .int i := by
 cases d <;> simp only [asI] at e <;> cases e
 simpa [Rep] using r
theorem si_range1 (hg : Gl X "range") (hm : X.mg "range" = none) (ha : SE X false os a ta fa) (h1 : starEach [a] X.env = (false, eval a X.env) :: starEach [] X.env := by rfl) (hs : starEach [a] X.env = [(false, eval a X.env)] := by rfl) :
  SI X s os tg (.Call (.Name "range" p) [a] [] pos) (iRng1 (Zi ta tNil)) (fRng1 fa) := ⟨pi_range1 hg hm (zT ha.pe Zv h1) hs, fun H₀ B₀ σ H ρ ds R m q kk => by
 obtain ⟨x, h1, h2⟩ := zh q
 obtain ⟨j, h3, h4⟩ := zh h2
 split at h4
 ·cases h4
  rename_i hb
  refine ha.ok H₀ B₀ σ H ρ x _ m h1 fun v H1 s1 r => ?_
  have := asI_v r h3
  subst this
  exact ⟨j, rfl, hb.1, hb.2, kk _ H1 _ s1 (iw_range 0 _) (fun _ _ _ _ _ _ _ _ _ => trivial) (fun _ _ _ _ _ _ _ => trivial) trivial⟩
 ·cases h4⟩
theorem si_range2 (hg : Gl X "range") (hm : X.mg "range" = none) (ha : SE X false os a ta fa) (hb : SE X false os b tb fb) (h1 : starEach [a, b] X.env = (false, eval a X.env) :: starEach [b] X.env := by rfl) (h2 : starEach [b] X.env = (false, eval b X.env) :: starEach [] X.env := by rfl)
  (hs : starEach [a, b] X.env = [(false, eval a X.env), (false, eval b X.env)] := by rfl) (hs2 : starEach [b] X.env = [(false, eval b X.env)] := by rfl) :
  SI X s os tg (.Call (.Name "range" p) [a, b] [] pos) (iRng2 (Zi ta (Zi tb tNil))) (fRng2 fa fb) := ⟨pi_range2 hg hm (zT ha.pe (zT hb.pe Zv h2) h1) hs hs2, fun H₀ B₀ σ H ρ ds R m q kk => by
 obtain ⟨x, h1, h2⟩ := zh q
 obtain ⟨y, h3, h4⟩ := zh h2
 obtain ⟨i, h5, h6⟩ := zh h4
 obtain ⟨j, h7, h8⟩ := zh h6
 split at h8
 ·cases h8
  rename_i hc
  refine ha.ok H₀ B₀ σ H ρ x _ m h1 fun v H1 s1 r => ?_
  refine hb.ok H₀ B₀ σ H1 ρ y _ (m.up s1) h3 fun v' H2 s2 r2 => ?_
  have e1 := asI_v r h5
  have e2 := asI_v r2 h7
  subst e1; subst e2
  exact ⟨i, j, rfl, hc, kk _ H2 _ (s1.trans s2) (iw_range i _) (fun _ _ _ _ _ _ _ _ _ => trivial) (fun _ _ _ _ _ _ _ => trivial) trivial⟩
 ·cases h8⟩
def zipD (xs ys : List D) : List D := List.zipWith (fun x y => .tup [x, y]) xs ys
def fZip (ca cb : Ev → Option (List D)) : Ev → Option (List D) := fun ρ => (ca ρ).bind fun xs => (cb ρ).map fun ys => zipD xs ys
end
def GOk (K : Frag) (os : List Nat) (g : TG) (u : D → Ev → Option Ev) : Prop := ∀ (H₀ : Hp) (B₀ : Addr → Prop) (σ : St) (H : Hp) (ρ ρ' : Ev) (d : D) (v : V) (Q : St → Hp → Prop), Md K H₀ B₀ os σ H ρ → Rep K H (Bl B₀ os σ) d v → u d ρ = some ρ' →
 (∀ σ', σ'.length = σ.length → (∀ i ∈ os, σ'[i]? = σ[i]?) → Md K H₀ B₀ os σ' H ρ' → Q σ' H) → g v σ H Q
structure SG (X : Cx) (os : List Nat) (tg : Expr) (g : TG) (u : D → Ev → Option Ev) : Prop where
 pg : PG X tg g
 ok : GOk X.K os g u
structure SGs (X : Cx) (os : List Nat) (ts : List Expr) (g : TGs) (n : Nat) (u : List D → Ev → Option Ev) : Prop where
 pg : PGs X ts g
 len : ∀ ds ρ ρ', u ds ρ = some ρ' → ds.length = n
 ok : ∀ (H₀ : Hp) (B₀ : Addr → Prop) (σ : St) (H : Hp) (ρ ρ' : Ev) (ds : List D) (vs : List V) (Q : St → Hp → Prop), Md X.K H₀ B₀ os σ H ρ → zv X.K H (Bl B₀ os σ) ds vs → u ds ρ = some ρ' →
  (∀ σ', σ'.length = σ.length → (∀ i ∈ os, σ'[i]? = σ[i]?) → Md X.K H₀ B₀ os σ' H ρ' → Q σ' H) → g vs σ H Q
def uName (i : Nat) : D → Ev → Option Ev := fun d ρ => some (ρ.set i (some d))
def uNil : List D → Ev → Option Ev
 | [], ρ => some ρ
 | _ :: _, _ => none
def uCons (u : D → Ev → Option Ev) (us : List D → Ev → Option Ev) : List D → Ev → Option Ev
 | [], _ => none
 | d :: ds, ρ => (u d ρ).bind fun ρ' => us ds ρ'
def uTup (us : List D → Ev → Option Ev) : D → Ev → Option Ev := fun d ρ => (asK false d).bind fun ds => us ds ρ
def uLst (us : List D → Ev → Option Ev) : D → Ev → Option Ev := fun d ρ => (asK true d).bind fun ds => us ds ρ
section
variable {X : Cx} {os : List Nat} {pos : Pos}
theorem bl_eq {B₀ : Addr → Prop} {σ σ' : St} (h : ∀ i ∈ os, σ'[i]? = σ[i]?) : Bl B₀ os σ' = Bl B₀ os σ := by
 funext a
 unfold Bl
 apply propext
 constructor
 ·rintro (z | ⟨i, hi, e⟩)
  ·exact .inl z
  ·exact .inr ⟨i, hi, by rw [← h i hi]; exact e⟩
 ·rintro (z | ⟨i, hi, e⟩)
  ·exact .inl z
  ·exact .inr ⟨i, hi, by rw [h i hi]; exact e⟩
theorem sg_name {i : Nat} {x : Str} (hN : X.N.Nodup) (hi : X.N[i]? = some x) (hx : Loc X.env.scope x) (ho : i ∉ os := by decide) (hf : X.fn x = true ∨ X.env.scope.names.lookup x = some .local := by first | exact .inl rfl | exact .inr rfl | assumption) : SG X os (.Name x pos) (gName i) (uName i) :=
 ⟨pg_name hN hi hx hf, fun H₀ B₀ σ H ρ ρ' d v Q m r e k => by
  cases e
  refine k _ (by rw [List.length_set]) (fun j hj => zt fun z => ho (z ▸ hj)) (m.put (fun j hj => ⟨hj, fun z => ho (z ▸ hj)⟩) (fun j hj => .inl hj) r)⟩
theorem sgs_nil : SGs X os [] gNil 0 uNil := ⟨pgs_nil, fun ds ρ ρ' e => (by cases ds <;> first | rfl | cases e), fun H₀ B₀ σ H ρ ρ' ds vs Q m r e k => by
 cases ds with
 | nil => cases e; simp only [zv] at r; exact ⟨r, k σ rfl (fun _ _ => rfl) m⟩
 | cons a r => cases e⟩
theorem sgs_cons {e : Expr} {es : List Expr} {t : TG} {u : TGs} {n : Nat} {f : D → Ev → Option Ev} {fs : List D → Ev → Option Ev} (h1 : SG X os e t f) (h2 : SGs X os es u n fs)
  (hs : (assignEach (e :: es) X.env).map (·.2) = assign e X.env :: (assignEach es X.env).map (·.2) := by rfl) : SGs X os (e :: es) (gCons t u) (n + 1) (uCons f fs) := ⟨pgs_cons h1.pg h2.pg hs, fun ds ρ ρ' e => (by
 cases ds with
 | nil => cases e
 | cons a r =>
  obtain ⟨x, _, q⟩ := zh e
  rw [List.length_cons, h2.len _ _ _ q]), fun H₀ B₀ σ H ρ ρ' ds vs Q m r e k => by
 cases ds with
 | nil => cases e
 | cons d ds =>
  obtain ⟨ρ1, q1, q2⟩ := zh e
  simp only [zv] at r
  obtain ⟨v, vr, rfl, r1, r2⟩ := r
  refine ⟨v, vr, rfl, h1.ok H₀ B₀ σ H ρ ρ1 d v _ m r1 q1 fun σ1 l1 a1 m1 => ?_⟩
  refine h2.ok H₀ B₀ σ1 H ρ1 ρ' ds vr _ m1 (by rw [bl_eq a1]; exact r2) q2 fun σ2 l2 a2 m2 => ?_
  exact k σ2 (l2.trans l1) (fun i hi => (a2 i hi).trans (a1 i hi)) m2⟩
theorem sg_tup {es : List Expr} {k : Nat} {t : TGs} {n : Nat} {fs : List D → Ev → Option Ev} (hc : X.calm = true) (h : SGs X os es t n fs) (hn : (assignEach es X.env).length = n := by rfl) (hst : (assignEach es X.env).findIdx? (·.1) = none := by rfl) {K' : Frag} (hK : X.K = K' := by rfl) :
  SG X os (.Tuple es k pos) (gTup K' n t) (uTup fs) := by
 subst hK
 exact ⟨pg_tup hc h.pg hn hst, fun H₀ B₀ σ H ρ ρ' d v Q m r e kk => by
 obtain ⟨ds, q1, q2⟩ := zh e
 cases d <;> simp only [asK] at q1 <;> cases q1
 simp only [Rep] at r
 obtain ⟨a, xs, rfl, hq, hr⟩ := r
 exact ⟨a, xs, rfl, hq, by rw [hr.length, h.len _ _ _ q2], h.ok H₀ B₀ σ H ρ ρ' ds xs Q m hr q2 kk⟩⟩
end
def compD (u : D → Ev → Option Ev) (c : Ev → Option Bool) (e : Ev → Option D) : List D → Ev → Option (List D)
 | [], _ => some []
 | d :: ds, ρ => (u d ρ).bind fun ρ1 => (c ρ1).bind fun b => if b then (e ρ1).bind fun x => (compD u c e ds ρ1).map (x :: ·) else compD u c e ds ρ1
def fComp (k : Nat) (fi : Ev → Option (List D)) (u : D → Ev → Option Ev) (c : Ev → Option Bool) (e : Ev → Option D) : Ev → Option D := fun ρ => (fi ρ).bind fun ds => (compD u c e ds (ρ ++ List.replicate k none)).bind dLst
structure SPF (X : Cx) (os : List Nat) (ifs : List Expr) (t : TT) (f : Ev → Option Bool) : Prop where
 pf : PF X ifs t
 ok : TOk X.K os t f
def fYes : Ev → Option Bool := fun _ => some true
theorem spf_nil {X : Cx} {os : List Nat} : SPF X os [] tYes fYes := ⟨pf_nil, fun H₀ B₀ σ H ρ b Q m q k => by cases q; exact k H (.refl H)⟩
theorem spf_one {X : Cx} {os : List Nat} {c : Expr} {t : TT} {f : Ev → Option Bool} (h : SB X os c t f) : SPF X os [c] t f := ⟨pf_one h.pt, h.ok⟩
section
variable {K : Frag} {os : List Nat}
theorem get_append_left {α : Type} {l r : List α} {i : Nat} {x : α} (h : l[i]? = some x) : (l ++ r)[i]? = some x := by
 rw [List.getElem?_append_left (List.getElem?_eq_some_iff.mp h).1]; exact h
theorem Md.extend {H₀ H : Hp} {B₀ : Addr → Prop} {σ : St} {ρ : Ev} (m : Md K H₀ B₀ os σ H ρ) (k : Nat) {D' : Addr} (hn : H D' = none) :
  Md K H₀ (fun b => B₀ b ∨ b = D') os (σ ++ List.replicate k none) (upd H D' (.lst [])) (ρ ++ List.replicate k none) := by
 have hs : Zx H (upd H D' (.lst [])) := zN hn
 have osl : ∀ i ∈ os, (σ ++ List.replicate k none)[i]? = σ[i]? := fun i hi => by
  obtain ⟨a, o, d, h1, _⟩ := m.own i hi
  rw [get_append_left h1, h1]
 have nown : ∀ i ∈ os, σ[i]? ≠ some (some (.ref D')) := fun i hi e => by
  obtain ⟨a, o, d, h1, _, h3, _⟩ := m.own i hi
  rw [e] at h1; cases h1; rw [hn] at h3; cases h3
 have less : ∀ b, Bl (fun b => B₀ b ∨ b = D') os (σ ++ List.replicate k none) b → Bl B₀ os σ b ∨ b = D' := fun b z => by
  rcases z with (z | z) | ⟨i, hi, e⟩
  ·exact .inl (.inl z)
  ·exact .inr z
  ·rw [osl i hi] at e; exact .inl (.inr ⟨i, hi, e⟩)
 have g : Goes H (upd H D' (.lst [])) (Bl B₀ os σ) (Bl (fun b => B₀ b ∨ b = D') os (σ ++ List.replicate k none)) := by
  have g1 := Goes.fresh (B := Bl B₀ os σ) hn hs
  exact ⟨g1.tup, fun b xs q n => ⟨(g1.lst b xs q n).1, fun z => (g1.lst b xs q n).2 (less b z)⟩, fun b xs q n => ⟨(g1.dct b xs q n).1, fun z => (g1.dct b xs q n).2 (less b z)⟩, g1.frz, g1.tkt⟩
 refine ⟨m.grow.trans hs, fun a z => ?_, by rw [List.length_append, List.length_append, m.len]; simp, fun i d q n => ?_, fun i hi => ?_, fun i j a h1 h2 e1 e2 => ?_⟩
 ·rcases z with z | rfl
  ·obtain ⟨o, q⟩ := m.blk a z; exact ⟨o, hs _ _ q⟩
  ·exact ⟨_, zK⟩
 ·by_cases hl : i < ρ.length
  ·rw [List.getElem?_append_left hl] at q
   obtain ⟨v, h1, h2⟩ := m.sh i d q n
   exact ⟨v, get_append_left h1, Rep.goes g _ _ h2⟩
  ·rw [List.getElem?_append_right (by omega), List.getElem?_replicate] at q
   split at q <;> cases q
 ·obtain ⟨a, o, d, h1, h2, h3, h4, h5⟩ := m.own i hi
  exact ⟨a, o, d, by rw [osl i hi]; exact h1, get_append_left h2, hs _ _ h3, ⟨h4.1, fun z => z.elim h4.2 fun z => nown i hi (z ▸ h1)⟩, h5.goes g⟩
 ·rw [osl i h1] at e1; rw [osl j h2] at e2
  exact m.sep i j a h1 h2 e1 e2
theorem fok_comp {s : Bool} {k : Nat} {wi : TI} {g : TG} {tc : TT} {te : TE} {fi : Ev → Option (List D)} {u : D → Ev → Option Ev} {c : Ev → Option Bool} {e : Ev → Option D} (hi : IOk K s os wi fi) (hg : GOk K os g u) (hc : TOk K os tc c) (he : EOk K true os te e) :
  FOk K os (tComp k wi g tc te) (fComp k fi u c e) := fun H₀ B₀ σ H ρ d Q m q kk => by
 obtain ⟨ds, h1, h2⟩ := zh q
 obtain ⟨es, h3, h4⟩ := zh h2
 unfold dLst at h4
 split at h4
 case isFalse => cases h4
 rename_i hsz
 cases h4
 refine hi H₀ B₀ σ H ρ ds _ m h1 fun J H1 ok s1 W up _ ok1 => ?_
 intro D' hD
 have m1 := m.up s1
 have mE := m1.extend k hD
 have ok2 : ok (upd H1 D' (.lst [])) (fun b => Bl B₀ os σ b ∨ b = D') := up D' hD _ _ _ _ (.fresh hD (zN hD)) (fun b o _ q => zN hD _ _ q) ok1
 refine ⟨fun i mm ys σ' H' => mm = ds.length - i ∧ i ≤ ds.length ∧ ∃ ρ' done rest, Md K H₀ (fun b => B₀ b ∨ b = D') os σ' H' ρ' ∧ (∀ j ∈ os, σ'[j]? = (σ ++ List.replicate k none)[j]?) ∧ H' D' = some (.lst ys) ∧
  ok H' (fun b => Bl B₀ os σ b ∨ b = D') ∧ Zx H1 H' ∧ zv K H' (Bl (fun b => B₀ b ∨ b = D') os σ') done ys ∧ compD u c e (ds.drop i) ρ' = some rest ∧ es = done ++ rest, ⟨ds.length, by simp, Nat.zero_le _, _, [], es, mE, fun _ _ => rfl, zK, ok2, zN hD, .nil, by simpa using h3, rfl⟩, ?_⟩
 rintro i mm ys σ' H' ⟨rfl, hile, ρ', done, rest, mM, ag, hDl, okH, sm, rd, hcomp, hes⟩
 refine ⟨hDl, ?_⟩
 have hH0 : H₀ D' = none := (m.grow.trans s1).free hD
 have osl : ∀ j ∈ os, σ'[j]? = σ[j]? := fun j hj => by
  rw [ag j hj]
  obtain ⟨a, o, d, q1, _⟩ := m.own j hj
  rw [get_append_left q1, q1]
 have blE : ∀ b, Bl (fun b => B₀ b ∨ b = D') os σ' b ↔ (Bl B₀ os σ b ∨ b = D') := fun b => by
  constructor
  ·rintro ((z | z) | ⟨j, hj, q⟩)
   ·exact .inl (.inl z)
   ·exact .inr z
   ·rw [osl j hj] at q; exact .inl (.inr ⟨j, hj, q⟩)
  ·rintro ((z | ⟨j, hj, q⟩) | z)
   ·exact .inl (.inl z)
   ·exact .inr ⟨j, hj, by rw [osl j hj]; exact q⟩
   ·exact .inl (.inr z)
 have blF : Bl (fun b => B₀ b ∨ b = D') os σ' = fun b => Bl B₀ os σ b ∨ b = D' := funext fun b => propext (blE b)
 by_cases hlt : i < ds.length
 ·right
  have hd : ds[i]? = some ds[i] := by simp [hlt]
  refine ⟨W.go _ _ i _ okH hd, fun x H2 y => ?_⟩
  obtain ⟨s2, rx⟩ := W.yld _ _ i _ x H2 okH hd y
  rw [List.drop_eq_getElem_cons hlt] at hcomp
  simp only [compD] at hcomp
  obtain ⟨ρ1, q1, q2⟩ := zh hcomp
  obtain ⟨bb, q3, q4⟩ := zh q2
  have mM2 := mM.up s2
  have rx' : Rep K H2 (Bl (fun b => B₀ b ∨ b = D') os σ') ds[i] x := by rw [blF]; exact rx
  have okUp : ∀ Hb, Zx H' Hb → ok Hb (fun b => Bl B₀ os σ b ∨ b = D') := fun Hb sb => up D' hD _ _ _ _ (.same sb) (fun b o _ q => sb _ _ q) okH
  refine hg H₀ _ σ' H2 ρ' ρ1 ds[i] x _ mM2 rx' q1 fun σ3 l3 a3 m3 => ?_
  refine hc H₀ _ σ3 H2 ρ1 bb _ m3 q3 fun H4 s4 => ?_
  have m4 := m3.up s4
  cases bb with
  | true =>
   rw [if_pos rfl] at q4 ⊢
   obtain ⟨z, q5, q6⟩ := zh q4
   obtain ⟨rest', q7, rfl⟩ := map_some q6
   refine he H₀ _ σ3 H4 ρ1 z _ m4 q5 fun v H5 s5 r5 => ?_
   have m5 := m4.up s5
   have hDl5 : H5 D' = some (.lst ys) := s5 _ _ (s4 _ _ (s2 _ _ hDl))
   have hlen : ys.length = done.length := rd.length
   have hlt' : ys.length < sizeLine := by
    rw [hes] at hsz
    simp only [List.length_append, List.length_cons] at hsz
    omega
   have ble : Bl (fun b => B₀ b ∨ b = D') os σ3 = Bl (fun b => B₀ b ∨ b = D') os σ' := bl_eq a3
   have g6 : Goes H5 (upd H5 D' (.lst (ys ++ [v]))) (Bl (fun b => B₀ b ∨ b = D') os σ3) (Bl (fun b => B₀ b ∨ b = D') os σ3) := .write (.inl (.inr rfl)) hDl5 trivial
   refine ⟨hDl5, hlt', ds.length - (i + 1), by omega, rfl, hlt, ρ1, done ++ [z], rest', m5.upB (.inr rfl) hH0 hDl5 trivial, fun j hj => (a3 j hj).trans (ag j hj), zK, ?_, ?_, ?_, q7, ?_⟩
   ·have g7 : Goes H5 (upd H5 D' (.lst (ys ++ [v]))) (fun b => Bl B₀ os σ b ∨ b = D') (fun b => Bl B₀ os σ b ∨ b = D') := .write (.inr rfl) hDl5 trivial
    exact up D' hD _ _ _ _ g7 (fun b o hb q => by rw [zI hb]; exact q) (okUp H5 ((s2.trans s4).trans s5))
   ·intro b o q
    by_cases hb : b = D'
    ·subst hb; rw [hD] at q; cases q
    ·rw [zI hb]; exact s5 _ _ (s4 _ _ (s2 _ _ (sm _ _ q)))
   ·refine zv.goes g6 _ _ (zv.append ?_ (.one r5))
    rw [ble]
    exact rd.up ((s2.trans s4).trans s5)
   ·rw [hes]; simp
  | false =>
   rw [if_neg Bool.false_ne_true] at q4 ⊢
   refine ⟨ds.length - (i + 1), by omega, rfl, hlt, ρ1, done, rest, m4, fun j hj => (a3 j hj).trans (ag j hj), s4 _ _ (s2 _ _ hDl), okUp H4 (s2.trans s4), sm.trans (s2.trans s4), ?_, q4, hes⟩
   rw [bl_eq a3]
   exact rd.up (s2.trans s4)
 ·left
  have hi' : i = ds.length := by omega
  subst hi'
  refine ⟨W.stop _ _ _ okH (Nat.le_refl _), ?_⟩
  rw [List.drop_length] at hcomp
  cases hcomp
  rw [List.append_nil] at hes
  subst hes
  refine kk D' _ H' (s1.trans sm) (s1.free hD) hDl ?_
  simp only [Own]
  refine zv.goes ⟨fun _ _ q => q, fun b xs q n => ⟨q, fun z => n ((blE b).mpr z)⟩, fun b xs q n => ⟨q, fun z => n ((blE b).mpr z)⟩, fun _ _ _ q => q, fun _ _ q => q⟩ _ _ rd
end
inductive Out where
 | nx (ρ : Ev) | rt (d : D) | bk (ρ : Ev) | ct (ρ : Ev)
def FR (K : Frag) (H H' : Hp) (B : Addr → Prop) (d : D) (v : V) : Prop :=
 (∃ a o, v = .ref a ∧ H a = none ∧ H' a = some o ∧ Own K H' (fun b => B b ∨ b = a) o d) ∨ (d.flat = true ∧ Rep K H' B d v) ∨
 ∃ (b : Addr) (x : Str) (as : List Addr), v = .ref b ∧ d = .tup (.str x :: as.map fun _ => .lst []) ∧ as.Nodup ∧ (∀ a ∈ as, H a = none ∧ H' a = some (.lst [])) ∧ H' b = some (.tup (.str x :: as.map V.ref))
theorem reps_empties {K : Frag} {H H' : Hp} {B : Addr → Prop} (hB : ∀ a, B a → ∃ o, H a = some o) : ∀ {as : List Addr}, (∀ a ∈ as, H a = none ∧ H' a = some (.lst [])) → zv K H' B (as.map fun _ => D.lst []) (as.map V.ref)
 | [], _ => .nil
 | a :: as, h => .cons (by
   obtain ⟨h1, h2⟩ := h a List.mem_cons_self
   simp only [Rep]
   exact ⟨a, [], rfl, ⟨.inl h2, fun z => by obtain ⟨o, q⟩ := hB a z; rw [h1] at q; cases q⟩, .nil⟩) (reps_empties hB fun x hx => h x (List.mem_cons_of_mem _ hx))
theorem FR.back {K : Frag} {H₀ H H' : Hp} {B : Addr → Prop} {d : D} {v : V} (hs : Zx H₀ H) (h : FR K H H' B d v) : FR K H₀ H' B d v := by
 rcases h with ⟨a, o, e, hn, q⟩ | q | ⟨b, x, as, h1, h2, h3, h4, h5⟩
 ·exact .inl ⟨a, o, e, hs.free hn, q⟩
 ·exact .inr (.inl q)
 ·exact .inr (.inr ⟨b, x, as, h1, h2, h3, fun a ha => ⟨hs.free (h4 a ha).1, (h4 a ha).2⟩, h5⟩)
def RtOk (K : Frag) (fr : Bool) (H₀ H : Hp) (B₀ : Addr → Prop) (d : D) (v : V) : Prop := match fr with
 | true => FR K H₀ H B₀ d v
 | false => Rep K H B₀ d v
def EndOk (K : Frag) (fr : Bool) (H₀ : Hp) (B₀ : Addr → Prop) (os' ol : List Nat) (E : Ends) : Out → Prop
 | .nx ρ => ∀ σ H, Md K H₀ B₀ os' σ H ρ → E.nx σ H
 | .rt d => ∀ v H, Zx H₀ H → (∀ a, B₀ a → ∃ o, H a = some o) → RtOk K fr H₀ H B₀ d v → E.rt v H
 | .bk ρ => ∀ σ H, Md K H₀ B₀ ol σ H ρ → E.bk σ H
 | .ct ρ => ∀ σ H, Md K H₀ B₀ ol σ H ρ → E.ct σ H
def SOk (K : Frag) (fr : Bool) (os os' ol : List Nat) (t : TS) (m : Ev → Option Out) : Prop :=
 ∀ (H₀ : Hp) (B₀ : Addr → Prop) (σ : St) (H : Hp) (ρ : Ev) (o : Out) (E : Ends), Md K H₀ B₀ os σ H ρ → m ρ = some o → EndOk K fr H₀ B₀ os' ol E o → t E σ H
structure SS (X : Cx) (fr : Bool) (os os' ol : List Nat) (st : Stmt) (t : TS) (m : Ev → Option Out) : Prop where
 ps : PS X st t
 ok : SOk X.K fr os os' ol t m
structure SSs (X : Cx) (fr : Bool) (os os' ol : List Nat) (st : List Stmt) (t : TS) (m : Ev → Option Out) : Prop where
 ps : PSs X st t
 ok : SOk X.K fr os os' ol t m
def Zl : Ev → Option Out := fun ρ => some (.nx ρ)
def zG (m1 m2 : Ev → Option Out) : Ev → Option Out := fun ρ => (m1 ρ).bind fun o => match o with
 | .nx ρ' => m2 ρ'
 | o => some o
def Zb (f : Ev → Option D) : Ev → Option Out := fun ρ => (f ρ).map .rt
def mRetN : Ev → Option Out := fun _ => some (.rt .non)
def Zo (i : Nat) (f : Ev → Option D) : Ev → Option Out := fun ρ => (f ρ).map fun d => .nx (ρ.set i (some d))
def mNew (i : Nat) (f : Ev → Option D) : Ev → Option Out := fun ρ => (f ρ).bind fun d => if i < ρ.length then some (.nx (ρ.set i (some d))) else none
def mAsg (u : D → Ev → Option Ev) (f : Ev → Option D) : Ev → Option Out := fun ρ => (f ρ).bind fun d => (u d ρ).map .nx
def mIf (c : Ev → Option Bool) (m1 m2 : Ev → Option Out) : Ev → Option Out := fun ρ => (c ρ).bind fun b => if b then m1 ρ else m2 ρ
def mDrop (f : Ev → Option D) : Ev → Option Out := fun ρ => (f ρ).map fun _ => .nx ρ
def mUpd (i : Nat) (g : List D → D → Option (List D)) (f : Ev → Option D) : Ev → Option Out := fun ρ => (f ρ).bind fun d => (ρ[i]?.join).bind fun x => (asL x).bind fun ds => (g ds d).map fun ds' => .nx (ρ.set i (some (.lst ds')))
def lAppend (ds : List D) (d : D) : Option (List D) := if ds.length < sizeLine then some (ds ++ [d]) else none
def mSetIx (i : Nat) (f fi : Ev → Option D) : Ev → Option Out := fun ρ => (f ρ).bind fun d => (ρ[i]?.join).bind fun x => (asL x).bind fun ds => (fi ρ).bind fun k => (asI k).bind fun k => (ixN ds.length k).map fun j => .nx (ρ.set i (some (.lst (ds.set j d))))
def forD (u : D → Ev → Option Ev) (b : Ev → Option Out) : List D → Ev → Option Out
 | [], ρ => some (.nx ρ)
 | d :: ds, ρ => (u d ρ).bind fun ρ1 => (b ρ1).bind fun o => match o with
  | .nx ρ2 => forD u b ds ρ2
  | .ct ρ2 => forD u b ds ρ2
  | .bk ρ2 => some (.nx ρ2)
  | .rt d => some (.rt d)
def mFor (fi : Ev → Option (List D)) (u : D → Ev → Option Ev) (b : Ev → Option Out) : Ev → Option Out := fun ρ => (fi ρ).bind fun ds => forD u b ds ρ
section
variable {X : Cx} {fr : Bool} {os o1 os' os2 ol : List Nat} {st : Stmt} {rest sts sts2 : List Stmt} {t u : TS} {m m1 m2 : Ev → Option Out} {e a tg : Expr} {te ta : TE} {f fa : Ev → Option D} {pos : Pos}
theorem EndOk.mono {K : Frag} {fr : Bool} {H₀ : Hp} {B₀ : Addr → Prop} {os' os2 ol : List Nat} {E : Ends} {o : Out} (hs : ∀ i ∈ os', i ∈ os2) (h : EndOk K fr H₀ B₀ os' ol E o) : EndOk K fr H₀ B₀ os2 ol E o := by
 cases o with
 | nx ρ => exact fun σ H m => h σ H (m.freeze hs)
 | rt d => exact h
 | bk ρ => exact h
 | ct ρ => exact h
theorem zP : SSs X fr os os ol [] tNext Zl := ⟨pss_nil, fun H₀ B₀ σ H ρ o E m q k => by cases q; exact k σ H m⟩
theorem zr (h : SS X fr os os' ol st t m) : SSs X fr os os' ol [st] t m := ⟨pss_one h.ps, h.ok⟩
theorem SOk.seq {K : Frag} (h1 : SOk K fr os o1 ol t m1) (h2 : SOk K fr o1 os' ol u m2) : SOk K fr os os' ol (tSeq t u) (zG m1 m2) := fun H₀ B₀ σ H ρ o E m q k => by
 obtain ⟨o', q1, q2⟩ := zh q
 refine h1 H₀ B₀ σ H ρ o' _ m q1 ?_
 cases o' with
 | nx ρ' => exact fun σ' H' m' => h2 H₀ B₀ σ' H' ρ' o E m' q2 k
 | rt d => cases q2; exact k
 | bk ρ' => cases q2; exact k
 | ct ρ' => cases q2; exact k
theorem zj (h1 : SS X fr os o1 ol st t m1) (h2 : SSs X fr o1 os' ol rest u m2) : SSs X fr os os' ol (st :: rest) (tSeq t u) (zG m1 m2) := ⟨pss_cons h1.ps h2.ps, SOk.seq h1.ok h2.ok⟩
theorem SSs.pre (h : SSs X fr os2 os' ol sts t m) (hs : ∀ i ∈ os2, i ∈ os := by decide) : SSs X fr os os' ol sts t m := ⟨h.ps, fun H₀ B₀ σ H ρ o E mm q k => h.ok H₀ B₀ σ H ρ o E (mm.freeze hs) q k⟩
theorem SS.pre (h : SS X fr os2 os' ol st t m) (hs : ∀ i ∈ os2, i ∈ os := by decide) : SS X fr os os' ol st t m := ⟨h.ps, fun H₀ B₀ σ H ρ o E mm q k => h.ok H₀ B₀ σ H ρ o E (mm.freeze hs) q k⟩
theorem SSs.post (h : SSs X fr os os2 ol sts t m) (hs : ∀ i ∈ os', i ∈ os2 := by decide) : SSs X fr os os' ol sts t m := ⟨h.ps, fun H₀ B₀ σ H ρ o E mm q k => h.ok H₀ B₀ σ H ρ o E mm q (k.mono hs)⟩
theorem zJ (h : SE X false os e te f) : SS X false os os' ol (.Return (some e) pos) (tRet te) (Zb f) := ⟨ps_ret h.pe, fun H₀ B₀ σ H ρ o E mm q k => by
 obtain ⟨d, h1, rfl⟩ := map_some q
 exact h.ok H₀ B₀ σ H ρ d _ mm h1 fun v H' s r => k v H' ((mm.up s).grow) (mm.up s).blk r⟩
theorem ss_retFl (h : SE X false os e te f) : SS X true os os' ol (.Return (some e) pos) (tRet te) (Zb (fFlat f)) := ⟨ps_ret h.pe, fun H₀ B₀ σ H ρ o E mm q k => by
 obtain ⟨d, h1, rfl⟩ := map_some q
 obtain ⟨x, h2, h3⟩ := zh h1
 split at h3
 ·rename_i hf
  cases h3
  exact h.ok H₀ B₀ σ H ρ _ _ mm h2 fun v H' s r => k v H' ((mm.up s).grow) (mm.up s).blk (.inr (.inl ⟨hf, r⟩))
 ·cases h3⟩
structure SR (X : Cx) (st : Bool) (os : List Nat) (e : Expr) (t : TE) (f : Ev → Option D) : Prop where
 pe : PE X e t
 ok : ∀ (H₀ : Hp) (B₀ : Addr → Prop) (σ : St) (H : Hp) (ρ : Ev) (d : D) (Q : VK), Md X.K H₀ B₀ os σ H ρ → f ρ = some d → (∀ v H', Zx H H' → FR X.K H H' (BB st B₀ os σ) d v → Q v H') → t σ H Q
def isLs : D → Bool
 | .lst _ => true
 | .dict _ _ => true
 | _ => false
def itemsFlat : D → Bool
 | .lst ds => flats ds
 | .dict _ ds => flats ds
 | _ => false
def mNewR (i : Nat) (f : Ev → Option D) : Ev → Option Out := fun ρ => (f ρ).bind fun d => if i < ρ.length ∧ isLs d = true then some (.nx (ρ.set i (some d))) else none
def mNewRW (i : Nat) (f : Ev → Option D) : Ev → Option Out := fun ρ => (f ρ).bind fun d => if i < ρ.length ∧ itemsFlat d = true then some (.nx (ρ.set i (some d))) else none
theorem SOk.set {K : Frag} {i : Nat} (h : EOk K true os te f) (hs : ∀ j ∈ os', j ∈ os ∧ j ≠ i) (hs2 : ∀ j ∈ os, j ∈ os' ∨ j = i) : SOk K fr os os' ol (tAsg te (gName i)) (Zo i f) := fun H₀ B₀ σ H ρ o E mm q k => by
 obtain ⟨d, h1, rfl⟩ := map_some q
 exact h H₀ B₀ σ H ρ d _ mm h1 fun v H' s r => k _ H' ((mm.up s).put hs hs2 r)
theorem zO {i : Nat} {x : Str} {pos' : Pos} (hN : X.N.Nodup) (hi : X.N[i]? = some x) (hx : Loc X.env.scope x) (h : SE X true os e te f) (hs : ∀ j ∈ os', j ∈ os ∧ j ≠ i := by decide) (hs2 : ∀ j ∈ os, j ∈ os' ∨ j = i := by decide)
  (hsw : swapsWith e (some (.Name x pos')) pos.line X.env = pure false := by rfl) (hf : X.fn x = true ∨ X.env.scope.names.lookup x = some .local := by first | exact .inl rfl | exact .inr rfl | assumption) :
  SS X fr os os' ol (.Assign [.Name x pos'] e pos) (tAsg te (gName i)) (Zo i f) := ⟨ps_set hN hi hx h.pe hsw hf, SOk.set h.ok hs hs2⟩
theorem SOk.new {K : Frag} {i : Nat} (h : FOk K os te f) (hs : ∀ j ∈ os', j = i ∨ (j ∈ os ∧ j ≠ i)) (hs2 : ∀ j ∈ os, j ∈ os' ∨ j = i) (hm : i ∈ os') : SOk K fr os os' ol (tAsg te (gName i)) (mNew i f) := fun H₀ B₀ σ H ρ o E mm q k => by
 obtain ⟨d, h1, h2⟩ := zh q
 split at h2
 ·rename_i hi
  cases h2
  exact h H₀ B₀ σ H ρ d _ mm h1 fun a u H' s hn ho hw => k _ H' (mm.putNew hi hs hs2 hm s hn ho hw)
 ·cases h2
theorem ss_new {i : Nat} {x : Str} {pos' : Pos} (hN : X.N.Nodup) (hi : X.N[i]? = some x) (hx : Loc X.env.scope x) (h : SF X os e te f) (hs : ∀ j ∈ os', j = i ∨ (j ∈ os ∧ j ≠ i) := by decide) (hs2 : ∀ j ∈ os, j ∈ os' ∨ j = i := by decide) (hm : i ∈ os' := by decide)
  (hsw : swapsWith e (some (.Name x pos')) pos.line X.env = pure false := by rfl) (hf : X.fn x = true ∨ X.env.scope.names.lookup x = some .local := by first | exact .inl rfl | exact .inr rfl | assumption) :
  SS X fr os os' ol (.Assign [.Name x pos'] e pos) (tAsg te (gName i)) (mNew i f) := ⟨ps_set hN hi hx h.pe hsw hf, SOk.new h.ok hs hs2 hm⟩
theorem FOk.eok {K : Frag} {b : Bool} (h : FOk K os te f) : EOk K b os te f := fun H₀ B₀ σ H ρ d Q m q k => h H₀ B₀ σ H ρ d Q m q fun a o H' s hn ho hw => k _ _ s (Rep.bb (hw.rep ho (m.ntracked hn)))
theorem ss_setC {i : Nat} (hp : PS X st (tAsg te (gName i))) (h : FOk X.K os te f) (hs : ∀ j ∈ os', j ∈ os ∧ j ≠ i := by decide) (hs2 : ∀ j ∈ os, j ∈ os' ∨ j = i := by decide) : SS X fr os os' ol st (tAsg te (gName i)) (Zo i f) := ⟨hp, SOk.set h.eok hs hs2⟩
theorem ss_asg {g : TG} {u : D → Ev → Option Ev} (h : SE X true os e te f) (hg : SG X os tg g u) (hs : swapsWithSole [tg] e pos.line X.env = pure false := by rfl) (hw : swappedStores [tg] e X.env = pure none := by rfl)
  (h1 : (assignEach [tg] X.env).map (·.2) = [assign tg X.env] := by rfl) : SS X fr os os ol (.Assign [tg] e pos) (tAsg te g) (mAsg u f) := ⟨ps_asg h.pe hg.pg hs hw h1, fun H₀ B₀ σ H ρ o E mm q k => by
 obtain ⟨d, h1, h2⟩ := zh q
 obtain ⟨ρ', h3, rfl⟩ := map_some h2
 exact h.ok H₀ B₀ σ H ρ d _ mm h1 fun v H' s r => hg.ok H₀ B₀ σ H' ρ ρ' d v _ (mm.up s) r h3 fun σ' _ _ m' => k σ' H' m'⟩
theorem join_get {α : Type} {ρ : List (Option α)} {i : Nat} {d : α} (q : ρ[i]?.join = some d) : ρ[i]? = some (some d) := by
 cases z : ρ[i]? with
 | none => rw [z] at q; cases q
 | some o => rw [z] at q; cases o <;> simp at q; rw [q]
theorem pe_append {i : Nat} {x : Str} {p apos cpos : Pos} (he : PE X e te) (hN : X.N[i]? = some x := by rfl) (hv : Vis X.env.scope x := by first | exact Or.inl rfl | exact Or.inr (Or.inl rfl) | exact Or.inr (Or.inr rfl)) (hd : (x == ("__debug__" : Str)) = false := by decide)
  (hcd : (x == ("__classdict__" : Str)) = false := by decide) (hs1 : starEach [e] X.env = (false, eval e X.env) :: starEach [] X.env := by rfl)
  (hbase : attributeBase (.Name x p) "append" X.env (eval (.Name x p) X.env) = eval (.Name x p) X.env := by rfl)
  (hfew : ((backTo cpos (starEach [e] X.env)).all (fun x => !x.1) && (backToKw cpos (keywordEach [] X.env)).all (fun x => x.1.isSome)
   && decide ([e].length + ([] : List Keyword).length + (if ([] : List Keyword).isEmpty then 0 else 1) < 30)) = true := by rfl)
  (hline : (apos.endLine == cpos.line) = true := by rfl) (hplain : (backTo cpos (starEach [] X.env)).any (·.1) = false := by rfl) : PE X (.Call (.Attribute (.Name x p) "append" apos) [e] [] cpos) (tBM X.K "list" rAppend (tVar i) (Zi te tNil)) :=
 pe_bm PySem.F.plainAttrs_list PySem.F.slot_list_append PySem.F.type_list_append mt_append (pv i hN hv hd hcd) (zT he Zv hs1) hbase hfew hline hs1 hplain
theorem ss_append {i : Nat} {x : Str} {p apos : Pos} (h : SE X true os e te f) (ho : i ∈ os := by decide) (hN : X.N[i]? = some x := by rfl) (hv : Vis X.env.scope x := by first | exact Or.inl rfl | exact Or.inr (Or.inl rfl) | exact Or.inr (Or.inr rfl)) (hd : (x == ("__debug__" : Str)) = false := by decide)
  (hcd : (x == ("__classdict__" : Str)) = false := by decide) {cpos : Pos} (hs1 : starEach [e] X.env = (false, eval e X.env) :: starEach [] X.env := by rfl)
  (hbase : attributeBase (.Name x p) "append" X.env (eval (.Name x p) X.env) = eval (.Name x p) X.env := by rfl)
  (hfew : ((backTo cpos (starEach [e] X.env)).all (fun x => !x.1) && (backToKw cpos (keywordEach [] X.env)).all (fun x => x.1.isSome)
   && decide ([e].length + ([] : List Keyword).length + (if ([] : List Keyword).isEmpty then 0 else 1) < 30)) = true := by rfl)
  (hline : (apos.endLine == cpos.line) = true := by rfl) (hplain : (backTo cpos (starEach [] X.env)).any (·.1) = false := by rfl) (hs : swapsWith (.Call (.Attribute (.Name x p) "append" apos) [e] [] cpos) none pos.line X.env = pure false := by rfl) :
  SS X fr os os ol (.Expr (.Call (.Attribute (.Name x p) "append" apos) [e] [] cpos) pos) (tDrop (tBM X.K "list" rAppend (tVar i) (Zi te tNil))) (mUpd i lAppend f) := ⟨ps_expr (pe_append h.pe hN hv hd hcd hs1 hbase hfew hline hplain) hs, fun H₀ B₀ σ H ρ o E mm q k => by
 obtain ⟨d, h1, h2⟩ := zh q
 obtain ⟨y, h3, h4⟩ := zh h2
 obtain ⟨ds, h5, h6⟩ := zh h4
 obtain ⟨ds', h7, rfl⟩ := map_some h6
 unfold lAppend at h7
 split at h7
 case isFalse => cases h7
 rename_i hl
 cases h7
 cases y <;> simp only [asL] at h5 <;> cases h5
 obtain ⟨a, ob, d', q1, q2, q3, q4, q5⟩ := mm.own i ho
 have h3' := join_get h3
 rw [h3'] at q2; cases q2
 cases ob <;> simp only [Own] at q5
 refine ⟨.ref a, q1, .inl ⟨rfl, _, .inl (.inl q3)⟩, ?_⟩
 refine h.ok H₀ B₀ σ H ρ d _ mm h1 fun v H' s r => ?_
 have m' := mm.up s
 have q5' := zv.up s q5
 refine ⟨a, _, v, rfl, rfl, s _ _ q3, by rw [q5.length]; exact hl, k σ _ ?_⟩
 exact m'.write ho q1 (o := .lst _) (d := .lst _) (by simp only [Own]; exact q5'.append (.one r))⟩
theorem ss_setIx {i : Nat} {x : Str} {p : Pos} {ik : Expr} {ti : TE} {fi : Ev → Option D} (h : SE X true os e te f) (hk : SE X false os ik ti fi) (ho : i ∈ os := by decide) (hN : X.N[i]? = some x := by rfl) (hv : Vis X.env.scope x := by first | exact Or.inl rfl | exact Or.inr (Or.inl rfl) | exact Or.inr (Or.inr rfl)) (hd : (x == ("__debug__" : Str)) = false := by decide)
  (hcd : (x == ("__classdict__" : Str)) = false := by decide) {spos : Pos} (ha : ∀ v, assign (.Subscript (.Name x p) ik spos) X.env v = (do
   let ov ← holding [v] (eval (.Name x p) X.env)
   let iv ← holding [v, ov] (eval ik X.env)
   standAt spos
   holding [v, ov, iv] (setItem ov iv v)
   release [v, ov, iv] []) := by intro _; rfl) (hs : swapsWithSole [.Subscript (.Name x p) ik spos] e pos.line X.env = pure false := by rfl) (hw : swappedStores [.Subscript (.Name x p) ik spos] e X.env = pure none := by rfl)
  (h1 : (assignEach [.Subscript (.Name x p) ik spos] X.env).map (·.2) = [assign (.Subscript (.Name x p) ik spos) X.env] := by rfl) :
  SS X fr os os ol (.Assign [.Subscript (.Name x p) ik spos] e pos) (tAsg te (gSub (tVar i) ti rSetL)) (mSetIx i f fi) := ⟨ps_asg h.pe (pg_sub (pv i hN hv hd hcd) hk.pe set_list ha) hs hw h1, fun H₀ B₀ σ H ρ o E mm q k => by
 obtain ⟨d, h1, h2⟩ := zh q
 obtain ⟨y, h3, h4⟩ := zh h2
 obtain ⟨ds, h5, h6⟩ := zh h4
 obtain ⟨kd, h7, h8⟩ := zh h6
 obtain ⟨kk, h9, h10⟩ := zh h8
 obtain ⟨j, h11, rfl⟩ := map_some h10
 cases y <;> simp only [asL] at h5 <;> cases h5
 refine h.ok H₀ B₀ σ H ρ d _ mm h1 fun v H1 s1 r1 => ?_
 have m1 := mm.up s1
 obtain ⟨a, ob, d', q1, q2, q3, q4, q5⟩ := m1.own i ho
 have h3' := join_get h3
 rw [h3'] at q2; cases q2
 cases ob <;> simp only [Own] at q5
 refine ⟨.ref a, q1, ?_⟩
 refine hk.ok H₀ B₀ σ H1 ρ kd _ m1 h7 fun w' H2 s2 r2 => ?_
 have e2 := asI_v r2 h9
 subst e2
 have m2 := m1.up s2
 have q5' := zv.up s2 q5
 refine ⟨a, _, kk, j, rfl, rfl, s2 _ _ q3, by rw [q5.length]; exact h11, k σ _ ?_⟩
 exact m2.write ho q1 (o := .lst _) (d := .lst _) (by simp only [Own]; exact q5'.set j (r1.up s2))⟩
theorem Zs {c : Expr} {a b : List Stmt} {tc : TT} {g : Ev → Option Bool} (hc : SB X os c tc g) (ha : SSs X fr os os' ol a t m1) (hb : SSs X fr os os' ol b u m2) : SS X fr os os' ol (.If c a b pos) (tIfS tc t u) (mIf g m1 m2) := ⟨ps_if hc.pt ha.ps hb.ps, fun H₀ B₀ σ H ρ o E mm q k => by
 obtain ⟨d, h1, h2⟩ := zh q
 refine hc.ok H₀ B₀ σ H ρ d _ mm h1 fun H' s => ?_
 cases d with
 | true => rw [if_pos rfl] at h2 ⊢; exact ha.ok H₀ B₀ σ H' ρ o E (mm.up s) h2 k
 | false => rw [if_neg Bool.false_ne_true] at h2 ⊢; exact hb.ok H₀ B₀ σ H' ρ o E (mm.up s) h2 k⟩
theorem EndOk.shallow {K : Frag} {fr : Bool} {H₀ H₁ : Hp} {B₀ : Addr → Prop} {os' ol : List Nat} {E : Ends} {o : Out} (hs : Zx H₀ H₁) (h : EndOk K fr H₀ B₀ os' ol E o) : EndOk K fr H₁ B₀ os' ol E o := by
 cases o with
 | nx ρ => exact fun σ H m => h σ H (m.shallow hs)
 | rt d => exact fun v H s b r => h v H (hs.trans s) b (by
   cases fr with
   | false => exact r
   | true =>
    exact FR.back hs r)
 | bk ρ => exact fun σ H m => h σ H (m.shallow hs)
 | ct ρ => exact fun σ H m => h σ H (m.shallow hs)
theorem ss_for {iter : Expr} {body : List Stmt} {wi : TI} {g : TG} {tb : TS} {fi : Ev → Option (List D)} {ug : D → Ev → Option Ev} (hc : X.calm = true) (hi : SI X true os tg iter wi fi) (hg : SG X os tg g ug) (hb : SSs X fr os os os body tb m)
  (hp : PassesOwn (model X.prog X.w) X.A X.env X.xe := by exact PassesOwn.never) (hs : ∀ x, foldedSetIterable iter X.env x = pure x := by intro _; rfl) : SS X fr os os ol (.For tg iter body [] pos) (tFor wi g tb) (mFor fi ug m) := ⟨ps_for hp hc hi.pi hg.pg hb.ps hs, fun H₀ B₀ σ H ρ o E mm q k => by
 obtain ⟨ds, h1, h2⟩ := zh q
 refine hi.ok H₀ B₀ σ H ρ ds _ mm h1 fun J H1 ok s1 W up mv ok1 => ?_
 have m1 := mm.up s1
 have mD := m1.deep
 have okB := mv rfl _ _ _ _ m1.goDown ok1
 have k' := k.shallow m1.sub
 refine ⟨fun i n σ' H' => n = ds.length - i ∧ i ≤ ds.length ∧ ∃ ρ', Md X.K (unown H1 os σ) B₀ os σ' H' ρ' ∧ forD ug m (ds.drop i) ρ' = some o, ⟨ds.length, by simp, Nat.zero_le _, ρ, mD, by simpa using h2⟩, ?_⟩
 rintro i n σ' H' ⟨rfl, hile, ρ', mM, hf⟩
 have okN := mv rfl _ _ _ _ mM.goUp okB
 by_cases hlt : i < ds.length
 ·right
  have hd : ds[i]? = some ds[i] := by simp [hlt]
  rw [List.drop_eq_getElem_cons hlt] at hf
  simp only [forD] at hf
  obtain ⟨ρ1, q1, q2⟩ := zh hf
  obtain ⟨o', q3, q4⟩ := zh q2
  refine ⟨W.go _ _ i _ okN hd, fun σ2 H2 => ∃ ρ2, Md X.K (unown H1 os σ) B₀ os σ2 H2 ρ2 ∧ forD ug m (ds.drop (i + 1)) ρ2 = some o, fun σ2 H2 ⟨ρ2, m2, f2⟩ => ⟨ds.length - (i + 1), by omega, rfl, hlt, ρ2, m2, f2⟩, fun x H2 y => ?_⟩
  obtain ⟨s2, rx⟩ := W.yld _ _ i _ x H2 okN hd y
  refine hg.ok _ B₀ σ' H2 ρ' ρ1 ds[i] x _ (mM.up s2) rx q1 fun σ3 l3 a3 m3 => ?_
  refine hb.ok _ B₀ σ3 H2 ρ1 o' _ m3 q3 ?_
  cases o' with
  | nx ρ2 => exact fun σ4 H4 m4 => ⟨ρ2, m4, q4⟩
  | ct ρ2 => exact fun σ4 H4 m4 => ⟨ρ2, m4, q4⟩
  | bk ρ2 => cases q4; exact fun σ4 H4 m4 => k' σ4 H4 m4
  | rt d => cases q4; exact k'
 ·left
  have hi' : i = ds.length := by omega
  subst hi'
  rw [List.drop_length] at hf
  cases hf
  exact ⟨W.stop _ _ _ okN (Nat.le_refl _), k' σ' H' mM⟩⟩
end
def Zc (n : Nat) (ds : List D) : Ev := ds.map some ++ List.replicate (n - ds.length) none
def outD : Out → Option D
 | .nx _ => some .non
 | .rt d => some d
 | _ => none
def ZD (k n : Nat) (m : Ev → Option Out) : List D → Option D := fun ds => if ds.length = k then (m (Zc n ds)).bind outD else none
section
variable {P : Program} {w : World} {K : PySem.W.Frag} {mg : Str → Option Value} {base : Heap}
theorem md_start {H : Hp} {B : Addr → Prop} {N : List Str} {ds : List D} {vs : List V} (hB : ∀ a, B a → ∃ o, H a = some o) (r : zv K H B ds vs) : Md K H B [] (L2.start N vs) H (Zc N.length ds) := by
 have hl := r.length
 refine ⟨.refl H, hB, by simp [L2.start, Zc, hl], fun i d q _ => ?_, fun i hi => (nomatch hi), fun i j a hi => (nomatch hi)⟩
 have hb : Bl B [] (L2.start N vs) = B := by funext a; unfold Bl; apply propext; exact ⟨fun z => z.elim id fun ⟨i, hi, _⟩ => (nomatch hi), .inl⟩
 rw [hb]
 unfold Zc at q
 unfold L2.start
 by_cases hi : i < ds.length
 ·rw [List.getElem?_append_left (by simpa using hi), List.getElem?_map] at q
  obtain ⟨v, h1, h2⟩ := r.get (i := i) (d := ds[i]) (by simp [hi])
  have : d = ds[i] := by simp [hi] at q; exact q.symm
  subst this
  exact ⟨v, by rw [List.getElem?_append_left (by simp; omega), List.getElem?_map, h1]; rfl, h2⟩
 ·rw [List.getElem?_append_right (by simp; omega), List.getElem?_replicate] at q
  split at q <;> cases q
def spF (K : Frag) (m : List D → Option D) : Sp := fun vs H Q _ => ∃ (B : Addr → Prop) (ds : List D) (d : D), (∀ a, B a → ∃ o, H a = some o) ∧ zv K H B ds vs ∧ m ds = some d ∧ ∀ v H', Zx H H' → FR K H H' B d v → Q v H'
theorem fn_ok {x qual : Str} {st : Stmt} {f : Addr} {fd : FuncData} {N ps : List Str} {k : Nat} {m : Ev → Option Out} (F : Fun K x qual st f fd) (S : FnScope N ps (zi st))
  (hbody : ∀ (cdv : Value) (A : Around) (outer : List Env) (s : Shared) (H : Hp) (E : XK), Room k (A.deeper (PyProof.Rows.envOfC qual (zi st) s.heap.objs.size f cdv)) →
   ∃ t os', SSs (cxOf CX0 P w K mg base N qual (zi st) f cdv A outer s H E).nox false [] os' [] (zm st) t m) : FnOk P w K mg base CX0 (k + 1) f fd ps (spM K (ZD ps.length N.length m)) := by
 refine F.ok S (fun vs H Q E h => ?_) (fun cdv A outer s H vs Q E hr h => ?_)
 ·obtain ⟨B, ds, d, hB, r, q, _⟩ := h
  unfold ZD at q
  split at q
  ·rw [r.length]; assumption
  ·cases q
 ·obtain ⟨B, ds, d, hB, r, q, kk⟩ := h
  unfold ZD at q
  split at q
  case isFalse => cases q
  obtain ⟨o, q1, q2⟩ := zh q
  obtain ⟨t, os', hS⟩ := hbody cdv A outer s H E hr
  refine ⟨t, hS.ps, hS.ok H B (L2.start N vs) H (Zc N.length ds) o _ (md_start hB r) q1 ?_⟩
  cases o with
  | nx ρ => simp only [outD] at q2; cases q2; exact fun σ' H' m' => kk _ H' m'.grow (by simp [Rep])
  | rt d' => simp only [outD] at q2; cases q2; exact fun v H' s _ r' => kk v H' s r'
  | bk ρ => cases q2
  | ct ρ => cases q2
theorem fn_okF {x qual : Str} {st : Stmt} {f : Addr} {fd : FuncData} {N ps : List Str} {k : Nat} {m : Ev → Option Out} (F : Fun K x qual st f fd) (S : FnScope N ps (zi st))
  (hbody : ∀ (cdv : Value) (A : Around) (outer : List Env) (s : Shared) (H : Hp) (E : XK), Room k (A.deeper (PyProof.Rows.envOfC qual (zi st) s.heap.objs.size f cdv)) →
   ∃ t os', SSs (cxOf CX0 P w K mg base N qual (zi st) f cdv A outer s H E).nox true [] os' [] (zm st) t m) : FnOk P w K mg base CX0 (k + 1) f fd ps (spF K (ZD ps.length N.length m)) := by
 refine F.ok S (fun vs H Q E h => ?_) (fun cdv A outer s H vs Q E hr h => ?_)
 ·obtain ⟨B, ds, d, hB, r, q, _⟩ := h
  unfold ZD at q
  split at q
  ·rw [r.length]; assumption
  ·cases q
 ·obtain ⟨B, ds, d, hB, r, q, kk⟩ := h
  unfold ZD at q
  split at q
  case isFalse => cases q
  obtain ⟨o, q1, q2⟩ := zh q
  obtain ⟨t, os', hS⟩ := hbody cdv A outer s H E hr
  refine ⟨t, hS.ps, hS.ok H B (L2.start N vs) H (Zc N.length ds) o _ (md_start hB r) q1 ?_⟩
  cases o with
  | nx ρ => simp only [outD] at q2; cases q2; exact fun σ' H' m' => kk _ H' m'.grow (.inr (.inl ⟨rfl, by simp [Rep]⟩))
  | rt d' => simp only [outD] at q2; cases q2; exact fun v H' s _ r' => kk v H' s r'
  | bk ρ => cases q2
  | ct ρ => cases q2
theorem sr_call {X : Cx} {st : Bool} {os : List Nat} {e : Expr} {es : List Expr} {tl : TA} {fl : Ev → Option (List D)} {pos p : Pos} {x : Str} {k : Nat} {fn : Addr} {fd : FuncData} {ps : List Str} {m : List D → Option D} (F : FnOk X.prog X.w X.K X.mg X.base CX0 k fn fd ps (spF X.K m)) (hr : Room k X.A) (hg : Gl X x) (hm : X.mg x = some (.ref fn)) (hk : keepIn X.K (.ref fn) = true) (hb : Binds X.K fd ps [])
  (ha : SA X st os (e :: es) tl fl) (hdb : (x == ("__debug__" : Str)) = false := by decide) (he : starEach (e :: es) X.env = (false, eval e X.env) :: starEach es X.env := by rfl) (hpl : (backTo pos (starEach es X.env)).any (·.1) = false := by rfl) :
  SR X st os (.Call (.Name x p) (e :: es) [] pos) (tCall (spF X.K m) [] E0 tl) (fA m fl) := ⟨pe_call F hr hg hm hk hb .nil pass0 ha.pa hdb he hpl, fun H₀ B₀ σ H ρ d Q M q kk => by
 obtain ⟨ds, h1, h2⟩ := zh q
 refine ha.ok H₀ B₀ σ H ρ ds _ M h1 fun vs H1 s1 r1 => ?_
 refine ⟨BB st B₀ os σ, ds, d, (M.up s1).bb st, by rw [List.append_nil]; exact r1, h2, fun v H' s2 r2 => kk v H' (s1.trans s2) (r2.back s1)⟩⟩
end
end M
namespace L2
open PySem PySem.Spec PyProof.Rows
section
variable {prog : Program} {w : World} {A : Around} {E : Value → Shared → Prop} {s : Shared}
end
section
variable {X : Cx} {pos : Pos}
end
end L2
namespace M
open PySem PySem.Spec L2
open PySem.W (Frag)
section
variable {X : Cx} {os : List Nat} {pos : Pos}
theorem compOk_of {X : Cx} {scope : Scope} {own N' : List Str} {k : Nat} (h : (decide (scope.kind = .function) && scope.names.all (fun y => (!(y.2 == .local) || scope.names.lookup y.1 == some .local) && (!(y.2 == .cell) || scope.names.lookup y.1 == some .cell) &&
  (!(y.2 == .free) || ((X.env.scope.names.lookup y.1 == some .cell || X.env.scope.names.lookup y.1 == some .free) && !own.contains y.1))) && decide (N'.length = X.N.length + k) &&
  (List.range X.N.length).all (fun i => match N'[i]? with | some x => scope.names.lookup x == none || (X.N[i]? == some x && scope.names.lookup x == some .free) | none => true)) = true) : CompOk X scope own N' k := by
 simp only [Bool.and_eq_true, List.all_eq_true, decide_eq_true_eq, Bool.or_eq_true, Bool.not_eq_true', beq_iff_eq, List.mem_range] at h
 obtain ⟨⟨⟨h1, h2⟩, h3⟩, h4⟩ := h
 refine ⟨h1, fun y hy e => ?_, fun y hy e => ?_, fun y hy e => ?_, fun y hy e => ?_, h3, fun i x hi e => ?_⟩
 ·rcases (h2 y hy).1.1 with z | z
  ·rw [e] at z; simp at z
  ·exact z
 ·rcases (h2 y hy).1.2 with z | z
  ·rw [e] at z; simp at z
  ·exact z
 ·rcases (h2 y hy).2 with z | z
  ·rw [e] at z; simp at z
  ·exact z.1
 ·rcases (h2 y hy).2 with z | z
  ·rw [e] at z; simp at z
  ·exact z.2
 ·have q := h4 i hi
  rw [e] at q
  simpa using q
end
theorem law_end {l : PySem.W.OpenLaw} {m : List D → Option D} {K : Frag} {H : Hp} {a : Addr} {ns : List Int} (hO : Only H) (hq : SqL K H a (ns.map V.int)) (hm : m [.scr ns] = some (.bl true)) :
  spM K m [.ref a] H (fun v _ => v = .bl true) (fun _ _ _ => False) := by
 refine ⟨fun _ => False, [.scr ns], .bl true, fun _ z => z.elim, .one ?_, hm, fun v H' _ r => by simpa [Rep] using r⟩
 simp only [Rep]
 refine ⟨a, rfl, ?_⟩
 rcases hq with hq | hq
 ·rcases hq with hq | hq
  ·rcases hO a with z | ⟨o, xs, z⟩ <;> (rw [z] at hq; cases hq)
  ·exact .inl hq
 ·exact .inr hq
section
variable {X : Cx} {fr : Bool} {os os' ol : List Nat} {pos : Pos} {s : Bool} {scope : Scope} {own N' : List Str} {k : Nat} {elt target iter : Expr} {ifs : List Expr} {wi : TI} {g : TG} {tc : TT} {te : TE} {fi : Ev → Option (List D)} {u : D → Ev → Option Ev} {cf : Ev → Option Bool} {e : Ev → Option D}
theorem sf_comp (c : CompOk X scope own N' k) (hc : X.calm = true) (hi : SI X s os target iter wi fi) (hg : ∀ s₂ H₂ fp C, SG (compCx X scope own N' s₂ H₂ fp C) os target g u) (ht : ∀ s₂ H₂ fp C, SPF (compCx X scope own N' s₂ H₂ fp C) os ifs tc cf)
  (he : ∀ s₂ H₂ fp C, SE (compCx X scope own N' s₂ H₂ fp C) true os elt te e) (hs : ∀ x, foldedSetIterable iter X.env x = pure x := by intro _; rfl) : SF X os (.ListComp elt [⟨target, iter, ifs, 0⟩] scope pos) (tComp k wi g tc te) (fComp k fi u cf e) :=
 ⟨pe_comp c hc hi.pi (fun a b c d => (hg a b c d).pg) (fun a b c d => (ht a b c d).pf) (fun a b c d => (he a b c d).pe) hs, fok_comp hi.ok (hg X.s₀ X.H₀ [] 0).ok (ht X.s₀ X.H₀ [] 0).ok (he X.s₀ X.H₀ [] 0).ok⟩
theorem ss_setComp {i : Nat} {x : Str} {pos' spos : Pos} (hN : X.N.Nodup) (hix : X.N[i]? = some x) (hx : X.env.scope.names.lookup x = some .local) (c : CompOk X scope own N' k) (hc : X.calm = true) (hi : SI X s os target iter wi fi) (hg : ∀ s₂ H₂ fp C, SG (compCx X scope own N' s₂ H₂ fp C) os target g u) (ht : ∀ s₂ H₂ fp C, SPF (compCx X scope own N' s₂ H₂ fp C) os ifs tc cf)
  (he : ∀ s₂ H₂ fp C, SE (compCx X scope own N' s₂ H₂ fp C) true os elt te e) (hsw : swapsWith (.ListComp elt [⟨target, iter, ifs, 0⟩] scope pos) (some (.Name x pos')) spos.line X.env = pure true := by rfl)
  (h1 : ∀ j ∈ os', j ∈ os ∧ j ≠ i := by decide) (h2 : ∀ j ∈ os, j ∈ os' ∨ j = i := by decide) (hs : ∀ x, foldedSetIterable iter X.env x = pure x := by intro _; rfl) :
  SS X fr os os' ol (.Assign [.Name x pos'] (.ListComp elt [⟨target, iter, ifs, 0⟩] scope pos) spos) (tAsg (tComp k wi g tc te) (gName i)) (Zo i (fComp k fi u cf e)) :=
 ss_setC (ps_setComp hN hix hx c hc hi.pi (fun a b c d => (hg a b c d).pg) (fun a b c d => (ht a b c d).pf) (fun a b c d => (he a b c d).pe) hsw hs) (fok_comp hi.ok (hg X.s₀ X.H₀ [] 0).ok (ht X.s₀ X.H₀ [] 0).ok (he X.s₀ X.H₀ [] 0).ok) h1 h2
end
open PySem L2
section
variable {ρ : Ev} {f fa fb fc : Ev → Option D} {fl ca cb : Ev → Option (List D)} {g g' : D → D → Option D} {c c1 c2 : Ev → Option Bool} {m m1 m2 : Ev → Option Out} {i k n : Nat} {d : D} {ds : List D} {u : D → Ev → Option Ev} {us : List D → Ev → Option Ev} {h : D → Option D} {gl : List D → Option D}
@[simp] theorem fVar_ : ze i ρ = ρ[i]?.join := rfl
@[simp] theorem fC_ : fC d ρ = some d := rfl
@[simp] theorem f1_ : f1 h fa ρ = (fa ρ).bind h := rfl
@[simp] theorem f2_ : f2 g fa fb ρ = (fa ρ).bind fun x => (fb ρ).bind fun y => g x y := rfl
@[simp] theorem fSeq_ {b : Bool} : zu b fa ρ = (fa ρ).bind (asK b) := rfl
@[simp] theorem fFlat_ : fFlat fa ρ = (fa ρ).bind fun d => if d.flat then some d else none := rfl
@[simp] theorem fTest_ : zy fa ρ = (fa ρ).bind asB := rfl
@[simp] theorem fTru_ : fTru fa ρ = (fa ρ).bind truD := rfl
@[simp] theorem fAnd_ : fAnd c1 c2 ρ = (c1 ρ).bind fun c => if c then c2 ρ else some false := rfl
@[simp] theorem fOr_ : fOr c1 c2 ρ = (c1 ρ).bind fun c => if c then some true else c2 ρ := rfl
@[simp] theorem fNot_ : fNot c ρ = (c ρ).map (!·) := rfl
@[simp] theorem fAndV_ : fAndV fa fb ρ = ((fa ρ).bind asB).bind fun c => if c then fb ρ else some (.bl false) := rfl
@[simp] theorem fOrV_ : fOrV fa fb ρ = ((fa ρ).bind asB).bind fun c => if c then some (.bl true) else fb ρ := rfl
@[simp] theorem fNotV_ : fNotV fa ρ = ((fa ρ).bind asB).map fun c => .bl (!c) := rfl
@[simp] theorem fIf_ : fIf c fa fb ρ = (c ρ).bind fun c => if c then fa ρ else fb ρ := rfl
@[simp] theorem fChain_ : fChain g g' fa fb fc ρ = (fa ρ).bind fun x => (fb ρ).bind fun y => ((g x y).bind asB).bind fun c => if c then (fc ρ).bind fun z => g' y z else some (.bl false) := rfl
@[simp] theorem fNil_ : zl ρ = some [] := rfl
@[simp] theorem fCons_ : zc fa fl ρ = (fa ρ).bind fun x => (fl ρ).map (x :: ·) := rfl
@[simp] theorem fLst_ : Zf fl ρ = (fl ρ).bind dLst := rfl
@[simp] theorem fTup_ : zR fl ρ = (fl ρ).bind dTup := rfl
@[simp] theorem fA_ : fA gl fl ρ = (fl ρ).bind gl := rfl
@[simp] theorem fIx_ : fIx fl fb ρ = (fl ρ).bind fun ds => (fb ρ).bind fun i => dIx ds i := rfl
@[simp] theorem fL_ : fL fa ρ = (fa ρ).bind asL := rfl
@[simp] theorem fCat_ : fCat ca cb ρ = (ca ρ).bind fun x => (cb ρ).bind fun y => dLst (x ++ y) := rfl
@[simp] theorem fNo_ : fNo ρ = some none := rfl
@[simp] theorem fPart_ : fPart fa ρ = (fa ρ).bind fun d => (asI d).map some := rfl
@[simp] theorem fCut_ {w : List D → D} {f1 f2 : Ev → Option (Option Int)} : fCut w fl f1 f2 ρ = (fl ρ).bind fun ds => (f1 ρ).bind fun lo => (f2 ρ).bind fun hi => some (w (cutD ds lo hi)) := rfl
theorem fRng1_ : fRng1 fa ρ = (fa ρ).bind fun d => (asI d).bind fun j => if -(2 ^ 62) ≤ j ∧ j < 2 ^ 62 then some (rangeD 0 j.toNat) else none := rfl
theorem fRng2_ : fRng2 fa fb ρ = (fa ρ).bind fun d => (fb ρ).bind fun d' => (asI d).bind fun i => (asI d').bind fun j => if -(2 ^ 62) ≤ i ∧ i < 2 ^ 62 ∧ -(2 ^ 62) ≤ j ∧ j < 2 ^ 62 then some (rangeD i (j - i).toNat) else none := rfl
@[simp] theorem fZip_ : fZip ca cb ρ = (ca ρ).bind fun xs => (cb ρ).map fun ys => zipD xs ys := rfl
@[simp] theorem fComp_ {e : Ev → Option D} : fComp k fl u c e ρ = (fl ρ).bind fun ds => (compD u c e ds (ρ ++ List.replicate k none)).bind dLst := rfl
@[simp] theorem fYes_ : fYes ρ = some true := rfl
@[simp] theorem uName_ : uName i d ρ = some (ρ.set i (some d)) := rfl
@[simp] theorem uTup_ : uTup us d ρ = (asK false d).bind fun ds => us ds ρ := rfl
@[simp] theorem uLst_ : uLst us d ρ = (asK true d).bind fun ds => us ds ρ := rfl
@[simp] theorem uNil_ : uNil [] ρ = some ρ := rfl
@[simp] theorem uCons_ : uCons u us (d :: ds) ρ = (u d ρ).bind fun ρ' => us ds ρ' := rfl
@[simp] theorem Zd : Zl ρ = some (.nx ρ) := rfl
@[simp] theorem mRet_ : Zb f ρ = (f ρ).map .rt := rfl
@[simp] theorem mRetN_ : mRetN ρ = some (.rt .non) := rfl
@[simp] theorem mSet_ : Zo i f ρ = (f ρ).map fun d => .nx (ρ.set i (some d)) := rfl
@[simp] theorem mNew_ : mNew i f ρ = (f ρ).bind fun d => if i < ρ.length then some (.nx (ρ.set i (some d))) else none := rfl
@[simp] theorem mAsg_ : mAsg u f ρ = (f ρ).bind fun d => (u d ρ).map .nx := rfl
@[simp] theorem mIf_ : mIf c m1 m2 ρ = (c ρ).bind fun b => if b then m1 ρ else m2 ρ := rfl
@[simp] theorem mDrop_ : mDrop f ρ = (f ρ).map fun _ => .nx ρ := rfl
@[simp] theorem mFor_ : mFor fl u m ρ = (fl ρ).bind fun ds => forD u m ds ρ := rfl
@[simp] theorem mUpd_ {w : List D → D → Option (List D)} : mUpd i w f ρ = (f ρ).bind fun d => (ρ[i]?.join).bind fun x => (asL x).bind fun ds => (w ds d).map fun ds' => .nx (ρ.set i (some (.lst ds'))) := rfl
@[simp] theorem mSetIx_ {fi : Ev → Option D} : mSetIx i f fi ρ = (f ρ).bind fun d => (ρ[i]?.join).bind fun x => (asL x).bind fun ds => (fi ρ).bind fun k => (asI k).bind fun k => (ixN ds.length k).map fun j => .nx (ρ.set i (some (.lst (ds.set j d)))) := rfl
@[simp] theorem asK_t {ds : List D} : asK true (.lst ds) = some ds := rfl
@[simp] theorem asK_s {ns : List Int} : asK true (.scr ns) = some (ns.map .int) := rfl
@[simp] theorem asK_f {ds : List D} : asK false (.tup ds) = some ds := rfl
@[simp] theorem asL_ {ds : List D} : asL (.lst ds) = some ds := rfl
@[simp] theorem asB_ {b : Bool} : asB (.bl b) = some b := rfl
@[simp] theorem asI_ {j : Int} : asI (.int j) = some j := rfl
@[simp] theorem dI_ {w : Int → Int → D} {a b : Int} : dI w (.int a) (.int b) = some (w a b) := rfl
theorem dIc_ {C : Int → Int → Prop} {w : Int → Int → D} {a b : Int} (hc : C a b) : dIc C w (.int a) (.int b) = some (w a b) := by unfold dIc; exact if_pos hc
@[simp] theorem dMul_s {a b : Int} (hc : IntMulOk a b) : dMul (.int a) (.int b) = some (.int (a * b)) := dIc_ hc
@[simp] theorem dMod_s {a b : Int} (hc : 0 < b) : dMod (.int a) (.int b) = some (.int (a % b)) := dIc_ (C := fun _ j => 0 < j) hc
@[simp] theorem dDiv_s {a b : Int} (h0 : 0 < b) (h1 : b < 1073741824) : dDiv (.int a) (.int b) = some (.int (a / b)) := dIc_ (C := CDiv) ⟨h0, h1⟩
theorem dDivP_s {a b : Int} (h : CDivB a b) : dDivP (.int a) (.int b) = some (.int (a.fdiv b)) := dIc_ h
@[simp] theorem dPow_s {a b : Int} (h0 : 0 ≤ b) (h1 : b ≤ 1000000) (h2 : a.natAbs < 2 ^ 64) : dPow (.int a) (.int b) = some (.int (a ^ b.toNat)) := dIc_ (C := CPow) ⟨h0, h1, h2⟩
@[simp] theorem dNeg_ {a : Int} : dNeg (.int a) = some (.int (-a)) := rfl
@[simp] theorem dEqS_ {a b : Int} : dEqS (.int a) (.int b) = some (.bl (decide (a = b))) := rfl
@[simp] theorem dNeS_ {a b : Int} : dNeS (.int a) (.int b) = some (.bl (!decide (a = b))) := rfl
@[simp] theorem dIx_ {a : Int} : dIx ds (.int a) = atI ds a := rfl
@[simp] theorem gLen_ : gLen ds = some (.int ds.length) := rfl
@[simp] theorem gTuple_ : gTuple ds = some (.tup ds) := rfl
@[simp] theorem gSum_ {ns : List Int} : gSum (ns.map .int) = some (.int ns.sum) := by simp [gSum, intsD_map]
@[simp] theorem gAnyI_ {ns : List Int} : gAnyI (ns.map .int) = some (.bl (ns.any (· != 0))) := by simp [gAnyI, intsD_map]
@[simp] theorem gIntB {b : Bool} : gInt [.bl b] = some (.int (if b then 1 else 0)) := rfl
@[simp] theorem gIntI {b : Int} : gInt [.int b] = some (.int b) := rfl
@[simp] theorem gAbs_ {b : Int} : gAbs [.int b] = some (.int (if b < 0 then -b else b)) := rfl
@[simp] theorem dIsi_i {T : String} {a : Int} : dIsi T (.int a) = .bl ("int" == T || ("int" == "bool" && T == "int")) := rfl
@[simp] theorem flat_int {a : Int} : D.flat (.int a) = true := rfl
@[simp] theorem flat_bl {a : Bool} : D.flat (.bl a) = true := rfl
theorem lAppend_ (h : ds.length < sizeLine) : lAppend ds d = some (ds ++ [d]) := by unfold lAppend; exact if_pos h
theorem dLst_ (h : ds.length ≤ sizeLine) : dLst ds = some (.lst ds) := by unfold dLst; exact if_pos h
theorem dTup_ (h : ds.length ≤ sizeLine) : dTup ds = some (.tup ds) := by unfold dTup; exact if_pos h
theorem size_of {n : Nat} (h : n ≤ 1000000) : n ≤ sizeLine := Nat.le_trans h (by decide)
theorem size_lt {n : Nat} (h : n ≤ 1000000) : n < sizeLine := Nat.lt_of_le_of_lt h (by decide)
theorem dRep_ {k : Int} (h0 : 0 ≤ k) (h : ds.length * k.toNat ≤ 1000000) (h2 : k ≤ 1000000) : dRep ds (.int k) = some (.lst (List.replicate k.toNat ds).flatten) := by
 unfold dRep
 exact if_pos ⟨by omega, by omega, size_of h⟩
theorem forD_inv (I : Nat → Ev → Prop) : ∀ (ds : List D) (i0 : Nat) (ρ : Ev), I i0 ρ → (∀ (i : Nat) d ρ, ds[i]? = some d → I (i0 + i) ρ → ∃ ρ1, u d ρ = some ρ1 ∧ ∃ ρ2, m ρ1 = some (.nx ρ2) ∧ I (i0 + i + 1) ρ2) → ∃ ρ', forD u m ds ρ = some (.nx ρ') ∧ I (i0 + ds.length) ρ'
 | [], i0, ρ, h0, _ => ⟨ρ, rfl, h0⟩
 | d :: ds, i0, ρ, h0, hs => by
  obtain ⟨ρ1, h1, ρ2, h2, h3⟩ := hs 0 d ρ (by simp) h0
  obtain ⟨ρ', h4, h5⟩ := forD_inv I ds (i0 + 1) ρ2 h3 fun i d' ρ hd hi => by
   have := hs (i + 1) d' ρ (by simpa using hd) (by rw [show i0 + (i + 1) = i0 + 1 + i by omega]; exact hi)
   rw [show i0 + (i + 1) + 1 = i0 + 1 + i + 1 by omega] at this
   exact this
  refine ⟨ρ', ?_, by rw [List.length_cons, show i0 + (ds.length + 1) = i0 + 1 + ds.length by omega]; exact h5⟩
  rw [forD, h1, oB, h2, oB]
  exact h4
theorem compD_map {e : Ev → Option D} (I : Ev → Prop) (w : D → D) : ∀ (ds : List D) (ρ : Ev), I ρ → (∀ d ρ, d ∈ ds → I ρ → ∃ ρ1, u d ρ = some ρ1 ∧ c ρ1 = some true ∧ e ρ1 = some (w d) ∧ I ρ1) → compD u c e ds ρ = some (ds.map w)
 | [], ρ, _, _ => rfl
 | d :: ds, ρ, h0, hs => by
  obtain ⟨ρ1, h1, h2, h3, h4⟩ := hs d ρ List.mem_cons_self h0
  rw [compD, h1, oB, h2, oB, if_pos rfl, h3, oB, compD_map I w ds ρ1 h4 fun d ρ hd => hs d ρ (List.mem_cons_of_mem _ hd)]
  rfl
theorem compD_at {e : Ev → Option D} (I : Ev → Prop) (R : Nat → D → Prop) : ∀ (ds : List D) (i0 : Nat) (ρ : Ev), I ρ → (∀ (i : Nat) d ρ, ds[i]? = some d → I ρ → ∃ ρ1, u d ρ = some ρ1 ∧ c ρ1 = some true ∧ (∃ x, e ρ1 = some x ∧ R (i0 + i) x) ∧ I ρ1) →
  ∃ xs, compD u c e ds ρ = some xs ∧ xs.length = ds.length ∧ ∀ (i : Nat) x, xs[i]? = some x → R (i0 + i) x
 | [], i0, ρ, _, _ => ⟨[], rfl, rfl, fun i x h => by simp at h⟩
 | d :: ds, i0, ρ, h0, hs => by
  obtain ⟨ρ1, h1, h2, ⟨x, h3, h5⟩, h4⟩ := hs 0 d ρ (by simp) h0
  obtain ⟨xs, q1, q2, q3⟩ := compD_at I R ds (i0 + 1) ρ1 h4 fun i d' ρ hd hi => by
   have := hs (i + 1) d' ρ (by simpa using hd) hi
   rw [show i0 + (i + 1) = i0 + 1 + i by omega] at this
   exact this
  refine ⟨x :: xs, by rw [compD, h1, oB, h2, oB, if_pos rfl, h3, oB, q1]; rfl, by simp [q2], fun i y hy => ?_⟩
  cases i with
  | zero => simp at hy; subst hy; exact h5
  | succ i => rw [show i0 + (i + 1) = i0 + 1 + i by omega]; exact q3 i y (by simpa using hy)
theorem rangeD_get {lo : Int} {n i : Nat} {d : D} (h : (rangeD lo n)[i]? = some d) : i < n ∧ d = .int (lo + (i : Nat)) := by
 unfold rangeD at h
 rw [List.getElem?_map] at h
 by_cases hi : i < n
 ·simp [hi] at h; exact ⟨hi, h.symm⟩
 ·simp [hi] at h
@[simp] theorem rangeD_length {lo : Int} {n : Nat} : (rangeD lo n).length = n := by simp [rangeD]
theorem atI_map {ns : List Int} {i : Int} (h0 : 0 ≤ i) (h1 : i < ns.length) : atI (ns.map D.int) i = some (.int (ns.getD i.toNat 0)) := by
 have e := atI_nat (xs := ns.map D.int) (j := i.toNat) (v := .int (ns.getD i.toNat 0)) (by
  rw [List.getElem?_map]
  have hi : i.toNat < ns.length := by omega
  simp [hi, List.getD])
 rwa [show ((i.toNat : Nat) : Int) = i by omega] at e
end
def Wo {α : Type} (o : Option α) (P : α → Prop) : Prop := ∃ x, o = some x ∧ P x
theorem Wo.mono {α : Type} {o : Option α} {P Q : α → Prop} (h : Wo o P) (k : ∀ x, P x → Q x) : Wo o Q := let ⟨x, e, p⟩ := h; ⟨x, e, k x p⟩
theorem Wo.eq {α : Type} {o : Option α} {y : α} (h : Wo o (· = y)) : o = some y := let ⟨x, e, p⟩ := h; p ▸ e
section
variable {α β : Type} {P : α → Prop} {Q : β → Prop} {x : α} {o : Option α} {g : α → Option β} {w : α → β}
@[simp] theorem zC : Wo (some x) P ↔ P x := ⟨fun ⟨y, e, p⟩ => by cases e; exact p, fun p => ⟨x, rfl, p⟩⟩
@[simp] theorem wo_none : Wo (none : Option α) P ↔ False := ⟨fun ⟨y, e, p⟩ => (by cases e), False.elim⟩
@[simp] theorem wo_bind : Wo (o.bind g) Q ↔ Wo o fun x => Wo (g x) Q := by
 cases o with
 | none => simp
 | some x => simp
@[simp] theorem wo_map : Wo (o.map w) Q ↔ Wo o fun x => Q (w x) := by
 cases o with
 | none => simp
 | some x => simp
@[simp] theorem wo_guard {c : Prop} [Decidable c] {a : Option α} : Wo (if c then a else none) P ↔ c ∧ Wo a P := by
 split <;> simp_all
end
section
variable {P : D → Prop} {R : List D → Prop} {T : Out → Prop} {a b : Int} {ds : List D} {d : D} {ρ : Ev} {m m1 m2 : Ev → Option Out}
theorem wo_dIc {C : Int → Int → Prop} {w : Int → Int → D} : Wo (dIc C w (.int a) (.int b)) P ↔ C a b ∧ P (w a b) := by
 unfold dIc; split <;> simp_all
@[simp] theorem wo_mul : Wo (dMul (.int a) (.int b)) P ↔ IntMulOk a b ∧ P (.int (a * b)) := wo_dIc
@[simp] theorem wo_mod : Wo (dMod (.int a) (.int b)) P ↔ 0 < b ∧ P (.int (a % b)) := wo_dIc
@[simp] theorem wo_div : Wo (dDiv (.int a) (.int b)) P ↔ (0 < b ∧ b < 1073741824) ∧ P (.int (a / b)) := wo_dIc
@[simp] theorem wo_divP : Wo (dDivP (.int a) (.int b)) P ↔ b ≠ 0 ∧ P (.int (a.fdiv b)) := wo_dIc
@[simp] theorem wo_pow : Wo (dPow (.int a) (.int b)) P ↔ (0 ≤ b ∧ b ≤ 1000000 ∧ a.natAbs < 2 ^ 64) ∧ P (.int (a ^ b.toNat)) := wo_dIc
@[simp] theorem wo_dI {w : Int → Int → D} : Wo (dI w (.int a) (.int b)) P ↔ P (w a b) := by simp
@[simp] theorem wo_lst : Wo (dLst ds) P ↔ ds.length ≤ sizeLine ∧ P (.lst ds) := by unfold dLst; rw [wo_guard]; simp
@[simp] theorem wo_tup : Wo (dTup ds) P ↔ ds.length ≤ sizeLine ∧ P (.tup ds) := by unfold dTup; rw [wo_guard]; simp
@[simp] theorem wo_append : Wo (lAppend ds d) R ↔ ds.length < sizeLine ∧ R (ds ++ [d]) := by unfold lAppend; rw [wo_guard]; simp
theorem p62 : (2 : Int) ^ 62 = 4611686018427387904 := by decide
@[simp] theorem wo_rng1 {fa : Ev → Option D} : Wo (fRng1 fa ρ) R ↔ Wo (fa ρ) fun d => Wo (asI d) fun j => (-4611686018427387904 ≤ j ∧ j < 4611686018427387904) ∧ R (rangeD 0 j.toNat) := by
 rw [fRng1_, wo_bind, ← p62]
 simp only [wo_bind, wo_guard, zC]
@[simp] theorem wo_rng2 {fa fb : Ev → Option D} : Wo (fRng2 fa fb ρ) R ↔ Wo (fa ρ) fun d => Wo (fb ρ) fun d' => Wo (asI d) fun i => Wo (asI d') fun j => (-4611686018427387904 ≤ i ∧ i < 4611686018427387904 ∧ -4611686018427387904 ≤ j ∧ j < 4611686018427387904) ∧ R (rangeD i (j - i).toNat) := by
 rw [fRng2_, wo_bind, ← p62]
 simp only [wo_bind, wo_guard, zC]
def Then (m : Ev → Option Out) (T : Out → Prop) : Out → Prop
 | .nx ρ => Wo (m ρ) T
 | o => T o
@[simp] theorem zk : Then m T (.nx ρ) = Wo (m ρ) T := rfl
@[simp] theorem then_rt : Then m T (.rt d) = T (.rt d) := rfl
@[simp] theorem then_bk : Then m T (.bk ρ) = T (.bk ρ) := rfl
@[simp] theorem then_ct : Then m T (.ct ρ) = T (.ct ρ) := rfl
@[simp] theorem zn : Wo (zG m1 m2 ρ) T ↔ Wo (m1 ρ) (Then m2 T) := by
 unfold zG
 cases h : m1 ρ with
 | none => simp
 | some o => cases o <;> simp [Then]
def Back (P : D → Prop) : Out → Prop
 | .nx _ => P .non
 | .rt d => P d
 | _ => False
@[simp] theorem back_rt : Back P (.rt d) = P d := rfl
@[simp] theorem back_nx : Back P (.nx ρ) = P .non := rfl
theorem ZF {k n : Nat} : Wo (ZD k n m ds) P ↔ ds.length = k ∧ Wo (m (Zc n ds)) (Back P) := by
 unfold ZD
 split
 ·rename_i h
  simp only [h, true_and, wo_bind]
  cases m (Zc n ds) with
  | none => simp
  | some o => cases o <;> simp [outD, Back]
 ·simp_all
def Turn (u : D → Ev → Option Ev) (m : Ev → Option Out) (ds : List D) (T : Out → Prop) : Out → Prop
 | .nx ρ => Wo (forD u m ds ρ) T
 | .ct ρ => Wo (forD u m ds ρ) T
 | .bk ρ => T (.nx ρ)
 | .rt d => T (.rt d)
@[simp] theorem turn_nx {u : D → Ev → Option Ev} : Turn u m ds T (.nx ρ) = Wo (forD u m ds ρ) T := rfl
@[simp] theorem turn_ct {u : D → Ev → Option Ev} : Turn u m ds T (.ct ρ) = Wo (forD u m ds ρ) T := rfl
@[simp] theorem turn_bk {u : D → Ev → Option Ev} : Turn u m ds T (.bk ρ) = T (.nx ρ) := rfl
@[simp] theorem turn_rt {u : D → Ev → Option Ev} : Turn u m ds T (.rt d) = T (.rt d) := rfl
theorem wo_forNil {u : D → Ev → Option Ev} : Wo (forD u m [] ρ) T ↔ T (.nx ρ) := by simp [forD]
theorem wo_forCons {u : D → Ev → Option Ev} : Wo (forD u m (d :: ds) ρ) T ↔ Wo (u d ρ) fun ρ1 => Wo (m ρ1) (Turn u m ds T) := by
 rw [forD]
 cases hu : u d ρ with
 | none => simp
 | some ρ1 =>
  simp only [oB, zC]
  cases hm : m ρ1 with
  | none => simp
  | some o => cases o <;> simp [Turn]
theorem wo_for {u : D → Ev → Option Ev} {ds : List D} (I : Nat → Ev → Prop) (h0 : I 0 ρ) (hs : ∀ (i : Nat) d ρ, ds[i]? = some d → I i ρ → Wo (u d ρ) fun ρ1 => Wo (m ρ1) fun o => match o with
  | .nx ρ2 => I (i + 1) ρ2
  | .ct ρ2 => I (i + 1) ρ2
  | .bk ρ2 => T (.nx ρ2)
  | .rt r => T (.rt r)) (hd : ∀ ρ, I ds.length ρ → T (.nx ρ)) : Wo (forD u m ds ρ) T := by
 suffices ∀ (es : List D) (k : Nat) (ρ : Ev), ds = ds.take k ++ es → k + es.length = ds.length → I k ρ → Wo (forD u m es ρ) T from this ds 0 ρ (by simp) (by simp) h0
 intro es
 induction es with
 | nil =>
  intro k ρ _ hl hi
  simp only [List.length_nil, Nat.add_zero] at hl
  subst hl
  simp [forD, hd ρ hi]
 | cons d es ih =>
  intro k ρ he hl hi
  have hk : ds[k]? = some d := by
   have h1 : (ds.take k).length = k := by rw [List.length_take]; simp at hl; omega
   rw [he, List.getElem?_append_right (by omega), h1]; simp
  have he' : ds = ds.take (k + 1) ++ es := by
   have h2 := List.take_append_drop (k + 1) ds
   have h3 : ds.drop (k + 1) = es := by
    have h1 : (ds.take k).length = k := by rw [List.length_take]; simp at hl; omega
    have : ds.drop k = d :: es := by
     conv => lhs; rw [he]
     rw [List.drop_append, h1]; simp
    rw [← List.drop_drop, this]; simp
   rw [h3] at h2; exact h2.symm
  obtain ⟨ρ1, e1, o, e2, p⟩ := hs k d ρ hk hi
  simp only [forD, e1, e2, oB]
  cases o with
  | nx ρ2 => exact ih (k + 1) ρ2 he' (by simp at hl ⊢; omega) p
  | ct ρ2 => exact ih (k + 1) ρ2 he' (by simp at hl ⊢; omega) p
  | bk ρ2 => simpa using p
  | rt r => simpa using p
variable {u : D → Ev → Option Ev} {c : Ev → Option Bool} {e : Ev → Option D}
theorem wo_compAt (I : Ev → Prop) (F : Nat → D → Prop) (h0 : I ρ) (hs : ∀ (i : Nat) d ρ, ds[i]? = some d → I ρ → Wo (u d ρ) fun ρ1 => c ρ1 = some true ∧ Wo (e ρ1) (F i) ∧ I ρ1) (hd : ∀ xs, xs.length = ds.length → (∀ (i : Nat) x, xs[i]? = some x → F i x) → R xs) : Wo (compD u c e ds ρ) R := by
 obtain ⟨xs, q1, q2, q3⟩ := compD_at I F ds 0 ρ h0 fun i d ρ h1 h2 => (by
  obtain ⟨ρ1, a1, a2, a3, a4⟩ := hs i d ρ h1 h2
  exact ⟨ρ1, a1, a2, by rw [Nat.zero_add]; exact a3, a4⟩)
 exact ⟨xs, q1, hd xs q2 fun i x h => by have := q3 i x h; rwa [Nat.zero_add] at this⟩
end
theorem mulS {a b : Int} (h1 : -(2 ^ 64) < a) (h2 : a < 2 ^ 64) : IntMulOk a b := .of_left (intBits_le_64 h1 h2)
theorem cutD_from {ds : List D} (k : Nat) : cutD ds (some (k : Int)) none = ds.drop k := by
 unfold cutD
 rw [HT.sIx_nat, HT.sIx_none]
 by_cases h2 : k ≤ ds.length
 ·rw [Nat.min_eq_left h2, List.take_of_length_le (by simp)]
 ·rw [Nat.min_eq_right (by omega), List.drop_eq_nil_of_le (by omega : ds.length ≤ k), List.drop_length]; simp
theorem cutD_to {ds : List D} (k : Nat) : cutD ds none (some (k : Int)) = ds.take k := by
 unfold cutD
 rw [HT.sIx_nat, HT.sIx_none]
 simp only [List.drop_zero, Nat.sub_zero]
 by_cases h2 : k ≤ ds.length
 ·rw [Nat.min_eq_left h2]
 ·rw [Nat.min_eq_right (by omega), List.take_length, List.take_of_length_le (by omega)]
theorem replicate_one {d0 : D} : ∀ n : Nat, (List.replicate n [d0]).flatten = List.replicate n d0
 | 0 => rfl
 | n + 1 => by rw [List.replicate_succ, List.flatten_cons, replicate_one n]; rfl
theorem zeros_ {fb : Ev → Option D} {ρ : Ev} {d0 : D} {k : Int} (h : fb ρ = some (.int k)) (h0 : 0 ≤ k) (hk : k ≤ 1000000) : fRep (fL (Zf (zc (fC d0) zl))) fb ρ = some (.lst (List.replicate k.toNat d0)) := by
 have h1 : fL (Zf (zc (fC d0) zl)) ρ = some [d0] := by
  simp only [fL_, fLst_, fCons_, fC_, fNil_, oB, Option.map_some, dLst_ (ds := [d0]) (size_of (by simp)), asL_]
 unfold fRep
 rw [h1, oB, h, oB, dRep_ h0 (by simp; omega) hk, replicate_one]
end M
namespace L2
open PySem PySem.Spec PyProof.Rows
def ItrD (lo : Int) (n : Nat) : It := ⟨fun i _ => i < n, fun i H x H' => H' = H ∧ x = .int (lo - i), fun i _ => n ≤ i⟩
theorem turn_rangeD {P : Program} {w : World} {K : PySem.W.Frag} {tg : Expr} (it : Addr) (lo : Int) (n : Nat) : Turn P w K tg (ItrD lo n) [it] it (fun i h => IsRangeIter h it (lo + (i : Nat) * (-1)) ((n : Int) - (i : Nat)) (-1)) where
 mem := by simp
 obj := fun i h st b hb => by
  have e : b = it := by simpa using hb
  subst e
  exact ⟨_, st, fun v z => by
   have z' : Data.fields _ = Data.cell v := z
   cases z'⟩
 keep := fun i h h' st k => k it (by simp) _ st
 item := by
  intro X hP hw hK hc i pins s σ H E I hf st hg
  subst hP hw hK
  obtain ⟨f0, f1, f2, f3, f4, f5⟩ := hf it (by simp)
  have W := Walks.range (prog := X.prog) (w := X.w) (I.ok.hd hc) it lo (-1) n
  refine W.item i s _ _ hg st fun v h' tk hv st' kk => ?_
  obtain ⟨t, rfl⟩ := hv
  have I1 : Inv X pins σ H { s with heap := h', toks := tk } := I.turned (fun b o hb e => kk b o (by simpa using hb) e) f0 f1 f3 f4 f5
  refine ⟨_, rfl, go_of (s := { s with heap := h', toks := tk }) (n := "range_iterator") st' rfl rfl (by decide) ⟨.int (lo - i), H, I1, ⟨t, ?_⟩, ⟨rfl, rfl⟩, st', fun b hb => (hf b hb).1⟩⟩
  rw [show lo - (i : Int) = lo + (i : Int) * (-1) by omega]
 done := by
  intro X hP hw hK hc i pins s σ H E I hf st hg
  subst hP hw hK
  obtain ⟨f0, f1, f2, f3, f4, f5⟩ := hf it (by simp)
  exact wpAny_pyNext_range_end (I.ok.hd hc) st (by have : n ≤ i := hg; omega) fun h' eb => ⟨rfl, I.turned (t' := s.toks) (fun b o hb e => eb b o hb e) f0 f1 f3 f4 f5⟩
 self := fun _ _ _ _ _ st h => wpAny_pyIter_rangeiter st h
section
variable {X : Cx} {tg : Expr}
def iRngD (ta : TA) : TI := fun σ H R => ta σ H fun vs H1 => ∃ i j : Int, vs = [.int i, .int j, .int (-1)] ∧ (-(2 ^ 62) ≤ i ∧ i < 2 ^ 62 ∧ -(2 ^ 62) ≤ j ∧ j < 2 ^ 62) ∧ R (ItrD i (i - j).toNat) H1
theorem pi_rangeD {a b c : Expr} {ta : TA} {p pos : Pos} (hg : Gl X "range") (hm : X.mg "range" = none) (ha : PA X [a, b, c] ta) (hs : starEach [a, b, c] X.env = [(false, eval a X.env), (false, eval b X.env), (false, eval c X.env)] := by rfl) (hs2 : starEach [b, c] X.env = [(false, eval b X.env), (false, eval c X.env)] := by rfl) :
  PI X tg (.Call (.Name "range" p) [a, b, c] [] pos) (iRngD ta) := by
 intro pins s σ H R I h
 refine Call_ (ld_blt I hg hm boot_range (PyProof.Rows.callWith_type1 (thn (ha pos pins s σ H _ I h) fun us s1 ⟨vs, H1, I1, r1, q1⟩ => ?_) (by rw [hs, hs2]) (by rw [hs2]; rfl)))
 obtain ⟨i, j, e, ⟨q1, q2, q3, q4⟩, q⟩ := q1
 subst e
 cases r1 with
 | cons r rr =>
  cases rr with
  | cons r' rr =>
   cases rr with
   | cons r'' rr =>
    cases rr
    obtain ⟨t, rfl⟩ := r
    obtain ⟨t', rfl⟩ := r'
    obtain ⟨t'', rfl⟩ := r''
    refine call_range_3 (by decide) ?_
    refine wpAny_pyIter_range (IsRange.new ..) (PySem.W.small_down q1 q2 q3 q4) ?_
    have I2 : ∀ (ob : Obj) (tk : Nat), Inv X pins σ H1 { s1 with heap := s1.heap.push ob, toks := tk } := fun ob tk => I1.kept fun b o e => Heap.get?_push_of_some _ e
    refine ⟨_, [_], _, _, H1, rfl, (I2 _ _).kept (t' := _) fun b o e => Heap.get?_push_of_some _ e, turn_rangeD _ i (i - j).toNat, ?_, fun b hb => ?_, q⟩
    ·have e1 : i + ((0 : Nat) : Int) * (-1) = i := by simp
     have e2 : (((i - j).toNat : Nat) : Int) - ((0 : Nat) : Int) = Builtin.Range.rangeSize i j (-1) := by rw [PySem.W.rangeSize_downNat]; simp
     show IsRangeIter _ _ (i + ((0 : Nat) : Int) * (-1)) ((((i - j).toNat : Nat) : Int) - ((0 : Nat) : Int)) (-1)
     rw [e1, e2]
     exact Heap.get?_push_size _ rfl
    ·have e := List.mem_singleton.mp hb
     subst e
     exact (I2 _ _).fpOk (Nat.le_refl _) ((I2 _ _).hok.fresh (Nat.le_refl _))
end
section
variable {X : Cx}
def rCatA (K : PySem.W.Frag) : R2 := fun x y H Q => ∃ a b xs ys, x = .ref a ∧ y = .ref b ∧ SqT K H a xs ∧ SqT K H b ys ∧ xs.length + ys.length ≤ sizeLine ∧ (xs = [] → Q (.ref b) H) ∧
 (xs ≠ [] → ys = [] → Q (.ref a) H) ∧ (xs ≠ [] → ys ≠ [] → ∀ p, H p = none → Q (.ref p) (upd H p (.tup (xs ++ ys))))
theorem op_catA {K' : PySem.W.Frag} (hK : X.K = K' := by rfl) : OpR X (binaryOp .Add) (rCatA K') := by
 subst hK
 intro pins s σ H x y v u Q I rx ry h
 obtain ⟨a, b, xs, ys, rfl, rfl, ha, hb, hz, q0, q1, q2⟩ := h
 by_cases hx : xs = []
 ·cases rx
  cases ry
  obtain ⟨its, r1, p1, _⟩ := I.tuple ha
  obtain ⟨its2, r2, p2, _⟩ := I.tuple hb
  obtain ⟨⟨cls, dd, data, sl⟩, ho, hc, n, hd⟩ := id p1
  obtain ⟨⟨cls2, dd2, data2, sl2⟩, ho2, hc2, n2, hd2⟩ := id p2
  simp only at hc hd hc2 hd2
  subst hc hd hc2 hd2
  have he : its = [] := r1.nil_iff.mpr hx
  exact concat_meets ⟨_, ho, rfl⟩ ⟨_, ho2, rfl⟩ noFill_tuple_add seq_tuple_add PySem.F.slot_tuple_add PySem.F.entry_tuple_add (PySem.F.args_tuple_add_2 _ _)
   (tuple_addW0 a b its.toArray its2.toArray n n2 dd dd2 sl sl2 (by simp [he])) ⟨ho, ho2, ⟨.ref b, H, I, rfl, q0 hx⟩⟩
 ·exact op_catT pins s σ H _ _ v u Q I rx ry ⟨a, b, xs, ys, rfl, rfl, ha, hb, hx, hz, q1 hx, q2 hx⟩
end
end L2
namespace M
open PySem PySem.Spec L2
open PySem.W (Frag)
def rangeDn (lo : Int) (n : Nat) : List D := (List.range n).map fun i => .int (lo - (i : Nat))
@[simp] theorem rangeDn_length {lo : Int} {n : Nat} : (rangeDn lo n).length = n := by simp [rangeDn]
theorem rangeDn_get {lo : Int} {n i : Nat} {d : D} (h : (rangeDn lo n)[i]? = some d) : i < n ∧ d = .int (lo - (i : Nat)) := by
 unfold rangeDn at h
 rw [List.getElem?_map] at h
 by_cases hi : i < n
 ·simp [hi] at h; exact ⟨hi, h.symm⟩
 ·simp [hi] at h
theorem iw_rangeD {K : Frag} (lo : Int) (n : Nat) : IW K (ItrD lo n) (rangeDn lo n) (fun _ _ => True) := by
 refine ⟨fun H B i d _ e => (rangeDn_get e).1, fun H B i d x H' _ e y => ?_, fun H B i _ h => by rw [rangeDn_length] at h; exact h⟩
 obtain ⟨rfl, rfl⟩ := y
 obtain ⟨_, rfl⟩ := rangeDn_get e
 exact ⟨.refl _, rep_int⟩
def fRngD (fa fb : Ev → Option D) : Ev → Option (List D) := fun ρ => (fa ρ).bind fun d => (fb ρ).bind fun d' => (asI d).bind fun i => (asI d').bind fun j => if -(2 ^ 62) ≤ i ∧ i < 2 ^ 62 ∧ -(2 ^ 62) ≤ j ∧ j < 2 ^ 62 then some (rangeDn i (i - j).toNat) else none
section
variable {X : Cx} {fr st s : Bool} {os os' ol : List Nat} {tg e a b : Expr} {t ta tb te : TE} {f fa fb : Ev → Option D} {pos p : Pos}
theorem si_rangeD {jj : Nat} {p1 p2 : Pos} (hg : Gl X "range") (hm : X.mg "range" = none) (ha : SE X false os a ta fa) (hb : SE X false os b tb fb)
  (h1 : starEach [a, b, .UnaryOp .USub (.Constant (.int 1) jj p1) p2] X.env = (false, eval a X.env) :: starEach [b, .UnaryOp .USub (.Constant (.int 1) jj p1) p2] X.env := by rfl)
  (h2 : starEach [b, .UnaryOp .USub (.Constant (.int 1) jj p1) p2] X.env = (false, eval b X.env) :: starEach [.UnaryOp .USub (.Constant (.int 1) jj p1) p2] X.env := by rfl)
  (h3 : starEach [.UnaryOp .USub (.Constant (.int 1) jj p1) p2] X.env = (false, eval (.UnaryOp .USub (.Constant (.int 1) jj p1) p2) X.env) :: starEach [] X.env := by rfl)
  (hs : starEach [a, b, .UnaryOp .USub (.Constant (.int 1) jj p1) p2] X.env = [(false, eval a X.env), (false, eval b X.env), (false, eval (.UnaryOp .USub (.Constant (.int 1) jj p1) p2) X.env)] := by rfl)
  (hs2 : starEach [b, .UnaryOp .USub (.Constant (.int 1) jj p1) p2] X.env = [(false, eval b X.env), (false, eval (.UnaryOp .USub (.Constant (.int 1) jj p1) p2) X.env)] := by rfl) :
  SI X s os tg (.Call (.Name "range" p) [a, b, .UnaryOp .USub (.Constant (.int 1) jj p1) p2] [] pos) (iRngD (Zi ta (Zi tb (Zi (tUn (rU fun i => .int (-i)) (tC (.int 1))) tNil)))) (fRngD fa fb) :=
 ⟨pi_rangeD hg hm (zT ha.pe (zT hb.pe (zT (pe_un un_neg pe_int) Zv h3) h2) h1) hs hs2, fun H₀ B₀ σ H ρ ds R m q kk => by
 obtain ⟨x, h1, h2⟩ := zh q
 obtain ⟨y, h3, h4⟩ := zh h2
 obtain ⟨i, h5, h6⟩ := zh h4
 obtain ⟨j, h7, h8⟩ := zh h6
 split at h8
 ·cases h8
  rename_i hc
  refine ha.ok H₀ B₀ σ H ρ x _ m h1 fun v H1 s1 r => ?_
  refine hb.ok H₀ B₀ σ H1 ρ y _ (m.up s1) h3 fun v' H2 s2 r2 => ?_
  have e1 := asI_v r h5
  have e2 := asI_v r2 h7
  subst e1; subst e2
  exact ⟨1, rfl, i, j, rfl, hc, kk _ H2 _ (s1.trans s2) (iw_rangeD i _) (fun _ _ _ _ _ _ _ _ _ => trivial) (fun _ _ _ _ _ _ _ => trivial) trivial⟩
 ·cases h8⟩
def fCutT (fa : Ev → Option (List D)) (fl fu : Ev → Option (Option Int)) : Ev → Option D := fun ρ => (fa ρ).bind fun ds => (fl ρ).bind fun lo => (fu ρ).bind fun hi => if HT.sIx ds.length 0 lo = 0 ∧ HT.sIx ds.length ds.length hi = ds.length then none else some (.tup (cutD ds lo hi))
theorem se_cutT {ca : Ev → Option (List D)} {lo hi : Option Expr} {t1 t2 : TO} {g1 g2 : Ev → Option (Option Int)} {p2 : Pos} (ha : SC X false os a ta ca) (hl : SO X os lo t1 g1) (hu : SO X os hi t2 g2) {K' : Frag} (hK : X.K = K' := by rfl) :
  SE X st os (.Subscript a (.Slice lo hi none p2) pos) (tSl (rSlT K') ta t1 t2) (fCutT ca g1 g2) := by
 subst hK
 exact ⟨pe_slice sl_tup ha.pe hl.po hu.po, fun H₀ B₀ σ H ρ d Q m q k => by
 obtain ⟨ds, h1, h2⟩ := zh q
 obtain ⟨l, h3, h4⟩ := zh h2
 obtain ⟨u, h5, h6⟩ := zh h4
 split at h6
 ·cases h6
 rename_i hne
 cases h6
 refine ha.ok H₀ B₀ σ H ρ ds _ m h1 fun p xs H1 s1 hq r1 => ?_
 refine hl.ok H₀ B₀ σ H1 ρ l _ (m.up s1) h3 fun H2 s2 => ?_
 refine hu.ok H₀ B₀ σ H2 ρ u _ (m.up (s1.trans s2)) h5 fun H3 s3 => ?_
 refine ⟨p, xs, rfl, SqT.same (s2.trans s3) hq, by rw [r1.length]; exact hne, fun p' hp => ?_⟩
 refine k _ _ (((s1.trans s2).trans s3).trans (zN hp)) (Rep.bb ?_)
 simp only [Rep]
 exact ⟨p', _, rfl, .inl (.inl zK), (zv.cut (r1.up (s2.trans s3))).up (zN hp)⟩⟩
end
def fCatT (fa fb : Ev → Option D) : Ev → Option D := fun ρ => (zu false fa ρ).bind fun x => (zu false fb ρ).bind fun y => dTup (x ++ y)
@[simp] theorem fCatT_ {fa fb : Ev → Option D} {ρ : Ev} : fCatT fa fb ρ = (zu false fa ρ).bind fun x => (zu false fb ρ).bind fun y => dTup (x ++ y) := rfl
theorem se_catA {X : Cx} {st : Bool} {os : List Nat} {a b : Expr} {ta tb : TE} {fa fb : Ev → Option D} {pos : Pos} (ha : SE X true os a ta fa) (hb : SE X true os b tb fb) {K' : Frag} (hK : X.K = K' := by rfl) : SE X st os (.BinOp a .Add b pos) (tOp (rCatA K') ta tb) (fCatT fa fb) := by
 subst hK
 exact ⟨pe_op op_catA ha.pe hb.pe, fun H₀ B₀ σ H ρ d Q m q k => by
 obtain ⟨x, h1, h2⟩ := zh q
 obtain ⟨y, h3, h4⟩ := zh h2
 unfold dTup at h4
 split at h4
 ·rename_i hl
  cases h4
  refine (SE.seq (k := false) ha).ok H₀ B₀ σ H ρ x _ m h1 fun p1 xs H1 s1 hq1 r1 => ?_
  refine (SE.seq (k := false) hb).ok H₀ B₀ σ H1 ρ y _ (m.up s1) h3 fun p2 ys H2 s2 hq2 r2 => ?_
  have e1 := r1.length
  have e2 := r2.length
  refine ⟨p1, p2, xs, ys, rfl, rfl, SqT.same s2 hq1, hq2, ?_, fun z => ?_, fun _ z => ?_, fun _ _ p' hp => ?_⟩
  ·rw [e1, e2, ← List.length_append]; exact hl
  ·subst z
   have : x = [] := List.length_eq_zero_iff.mp e1.symm
   subst this
   refine k _ H2 (s1.trans s2) (Rep.bb ?_)
   simp only [Rep, List.nil_append]
   exact ⟨p2, ys, rfl, hq2, r2⟩
  ·subst z
   have : y = [] := List.length_eq_zero_iff.mp e2.symm
   subst this
   refine k _ H2 (s1.trans s2) (Rep.bb ?_)
   simp only [Rep, List.append_nil]
   exact ⟨p1, xs, rfl, SqT.same s2 hq1, r1.up s2⟩
  ·refine k _ _ ((s1.trans s2).trans (zN hp)) (Rep.bb ?_)
   simp only [Rep]
   exact ⟨p', _, rfl, .inl (.inl zK), ((r1.up s2).append r2).up (zN hp)⟩
 ·cases h4⟩
mutual
def zV : D → PyData
 | .non => .none
 | .bl b => .bool b
 | .int i => .int i
 | .str x => .str x
 | .tup ds => .tuple (Zy ds)
 | .lst ds => .list (Zy ds)
 | .dict _ _ => .dict []
 | .scr ns => .list (ns.map .int)
 | .adr _ => .dict []
 | .kset _ => .dict []
 | .tk _ => .dict []
 | .pin _ _ => .dict []
def Zy : List D → List PyData
 | [] => []
 | d :: ds => zV d :: Zy ds
end
def eqD (x y : D) : Bool := PyData.eqv (zV x) (zV y)
def pyOk (x : D) : Bool := SeqAt.shaped (zV x)
def dNeD (x y : D) : Option D := if pyOk x = true ∧ pyOk y = true then some (.bl (!eqD x y)) else none
section
variable {X : Cx} {pins : List (Addr × Obj)} {σ : St} {H : Hp} {s : Shared} {B : Addr → Prop}
theorem readsInts (h : Heap) : ∀ {ns : List Int} {us : List Value}, Za (ns.map V.int) us → ∃ as, ReadsAll h us (ns.map PyData.int) as
 | [], _, .nil => ⟨_, .nil⟩
 | n :: r, _, .cons q t => by
  obtain ⟨tk, rfl⟩ := q
  obtain ⟨as, z⟩ := readsInts h t
  exact ⟨_, .cons (.int n tk) z⟩
mutual
theorem Rep.reads (I : Inv X pins σ H s) : ∀ (d : D) (v : V) (u : Value), (zV d).canLay0 = true → Rep X.K H B d v → ZE v u → ∃ as, Reads s.heap u (zV d) as
 | .non, v, u, _, h, r => by simp only [Rep] at h; subst h; cases r; exact ⟨_, .none⟩
 | .bl b, v, u, _, h, r => by simp only [Rep] at h; subst h; cases r; exact ⟨_, .bool b⟩
 | .int i, v, u, _, h, r => by simp only [Rep] at h; subst h; obtain ⟨t, rfl⟩ := r; exact ⟨_, .int i t⟩
 | .str x, v, u, _, h, r => by simp only [Rep] at h; subst h; obtain ⟨t, rfl⟩ := r; exact ⟨_, .str x t⟩
 | .tup ds, v, u, c, h, r => by
  simp only [Rep] at h
  obtain ⟨a, xs, rfl, hq, hr⟩ := h
  cases r
  obtain ⟨its, rv, ht, _⟩ := I.tuple hq
  obtain ⟨o, e1, e2, n, e3⟩ := ht
  obtain ⟨as, z⟩ := zv.reads I ds xs its (by simpa [zV, PyData.canLay0] using c) hr rv
  exact ⟨as, .tuple e1 e2 e3 z⟩
 | .lst ds, v, u, c, h, r => by
  simp only [Rep] at h
  obtain ⟨a, xs, rfl, hq, hr⟩ := h
  cases r
  obtain ⟨its, rv, ht, _⟩ := I.list hq.sq
  obtain ⟨o, n, e1, e2, _, e3⟩ := ht
  obtain ⟨as, z⟩ := zv.reads I ds xs its (by simpa [zV, PyData.canLay0] using c) hr rv
  exact ⟨_, .list e1 e2 e3 z⟩
 | .dict ks ds, v, u, c, h, r => by simp [zV, PyData.canLay0] at c
 | .scr ns, v, u, c, h, r => by
  simp only [Rep] at h
  obtain ⟨a, rfl, hq⟩ := h
  cases r
  obtain ⟨its, rv, ht, _⟩ := I.list hq.sq
  obtain ⟨o, n, e1, e2, _, e3⟩ := ht
  obtain ⟨as, z⟩ := readsInts s.heap rv
  exact ⟨_, .list e1 e2 e3 z⟩
 | .adr a, v, u, c, h, r => by simp [zV, PyData.canLay0] at c
 | .kset a, v, u, c, h, r => by simp [zV, PyData.canLay0] at c
 | .tk a, v, u, c, h, r => by simp [zV, PyData.canLay0] at c
 | .pin a d, v, u, c, h, r => by simp [zV, PyData.canLay0] at c
theorem zv.reads (I : Inv X pins σ H s) : ∀ (ds : List D) (vs : List V) (us : List Value), PyData.canLayAll0 (Zy ds) = true → zv X.K H B ds vs → Za vs us → ∃ as, ReadsAll s.heap us (Zy ds) as
 | [], vs, us, _, h, r => by simp only [zv] at h; subst h; cases r; exact ⟨_, .nil⟩
 | d :: ds, vs, us, c, h, r => by
  simp only [zv] at h
  obtain ⟨v, vr, rfl, h1, h2⟩ := h
  simp only [Zy, PyData.canLayAll0, Bool.and_eq_true] at c
  cases r with
  | cons q t =>
   obtain ⟨as, z⟩ := Rep.reads I d v _ c.1 h1 q
   obtain ⟨bs, y⟩ := zv.reads I ds vr _ c.2 h2 t
   exact ⟨_, .cons z y⟩
end
def rEqD (K : Frag) (neg : Bool) : R2 := fun x y H Q => ∃ (B : Addr → Prop) (d1 d2 : D), Rep K H B d1 x ∧ Rep K H B d2 y ∧ pyOk d1 = true ∧ pyOk d2 = true ∧ Q (.bl (if neg then !eqD d1 d2 else eqD d1 d2)) H
theorem op_neD {k : Nat} (hr : Room k X.A) {K' : Frag} (hK : X.K = K' := by rfl) : OpR X (compareOp .NotEq) (rEqD K' true) := by
 subst hK
 intro pins s σ H x y v u Q I rx ry h
 obtain ⟨B, d1, d2, h1, h2, o1, o2, q⟩ := h
 obtain ⟨as, r1⟩ := Rep.reads I d1 x v (SeqAt.canLay_of_shaped o1) h1 rx
 obtain ⟨bs, r2⟩ := Rep.reads I d2 y u (SeqAt.canLay_of_shaped o2) h2 ry
 exact PyProof.Rows.ne_dataH r1 r2 o1 o2 hr.units ⟨.bl _, H, I, rfl, q⟩
theorem rok_neD {K : Frag} : ROk K (rEqD K true) dNeD := fun H B x y d1 d2 d Q hB r1 r2 e k => by
 unfold dNeD at e
 split at e
 ·rename_i hc
  cases e
  exact ⟨B, d1, d2, r1, r2, hc.1, hc.2, k _ H (.refl H) rep_bl⟩
 ·cases e
end
theorem fRngD_ {fa fb : Ev → Option D} {ρ : Ev} : fRngD fa fb ρ = (fa ρ).bind fun d => (fb ρ).bind fun d' => (asI d).bind fun i => (asI d').bind fun j => if -(2 ^ 62) ≤ i ∧ i < 2 ^ 62 ∧ -(2 ^ 62) ≤ j ∧ j < 2 ^ 62 then some (rangeDn i (i - j).toNat) else none := rfl
@[simp] theorem wo_rngD {fa fb : Ev → Option D} {ρ : Ev} {R : List D → Prop} : Wo (fRngD fa fb ρ) R ↔ Wo (fa ρ) fun d => Wo (fb ρ) fun d' => Wo (asI d) fun i => Wo (asI d') fun j => (-4611686018427387904 ≤ i ∧ i < 4611686018427387904 ∧ -4611686018427387904 ≤ j ∧ j < 4611686018427387904) ∧ R (rangeDn i (i - j).toNat) := by
 rw [fRngD_, wo_bind, ← p62]
 simp only [wo_bind, wo_guard, zC]
@[simp] theorem fCutT_ {fl : Ev → Option (List D)} {f1 f2 : Ev → Option (Option Int)} {ρ : Ev} : fCutT fl f1 f2 ρ = (fl ρ).bind fun ds => (f1 ρ).bind fun lo => (f2 ρ).bind fun hi => if HT.sIx ds.length 0 lo = 0 ∧ HT.sIx ds.length ds.length hi = ds.length then none else some (.tup (cutD ds lo hi)) := rfl
@[simp] theorem mNewR_ {i : Nat} {f : Ev → Option D} {ρ : Ev} : mNewR i f ρ = (f ρ).bind fun d => if i < ρ.length ∧ isLs d = true then some (.nx (ρ.set i (some d))) else none := rfl
@[simp] theorem mNewRW_ {i : Nat} {f : Ev → Option D} {ρ : Ev} : mNewRW i f ρ = (f ρ).bind fun d => if i < ρ.length ∧ itemsFlat d = true then some (.nx (ρ.set i (some d))) else none := rfl
@[simp] theorem isLs_ {ds : List D} : isLs (.lst ds) = true := rfl
@[simp] theorem itemsFlat_ {ds : List D} : itemsFlat (.lst ds) = flats ds := rfl
theorem flats_ints (ns : List Int) : flats (ns.map .int) = true := by
 induction ns with
 | nil => rfl
 | cons n r ih => simp [flats, ih]
@[simp] theorem flat_line {ns : List Int} : D.flat (.tup (ns.map .int)) = true := by simp [D.flat, flats_ints]
@[simp] theorem flat_non : D.flat .non = true := rfl
@[simp] theorem dIsN_ {x : D} : dIsN x .non = some (.bl (isNon x)) := rfl
@[simp] theorem dNotN_ {x : D} : dNotN x .non = some (.bl (!isNon x)) := rfl
@[simp] theorem isNon_l {ds : List D} : isNon (.lst ds) = false := rfl
@[simp] theorem isNon_t {ds : List D} : isNon (.tup ds) = false := rfl
@[simp] theorem isNon_n : isNon .non = true := rfl
@[simp] theorem dIsi_l {T : String} {ds : List D} : dIsi T (.lst ds) = .bl ("list" == T || ("list" == "bool" && T == "int")) := rfl
@[simp] theorem dIsi_n {T : String} : dIsi T .non = .bl ("NoneType" == T || ("NoneType" == "bool" && T == "int")) := rfl
@[simp] theorem dIsi_t {T : String} {ds : List D} : dIsi T (.tup ds) = .bl ("tuple" == T || ("tuple" == "bool" && T == "int")) := rfl
open PySem L2
abbrev lstI (xs : List Int) : D := .lst (xs.map .int)
def pairD (w : Int → Int → Int) : D → D
 | .tup [.int x, .int y] => .int (w x y)
 | _ => .non
@[simp] theorem pairD_ {w : Int → Int → Int} {x y : Int} : pairD w (.tup [.int x, .int y]) = .int (w x y) := rfl
def intD (g : Int → Int) : D → D
 | .int j => .int (g j)
 | _ => .non
@[simp] theorem intD_ {g : Int → Int} {x : Int} : intD g (.int x) = .int (g x) := rfl
def row (S : List (List Int)) (k : Nat) : List Int := S.getD k []
section
variable {ρ : Ev} {T : Out → Prop} {i : Nat} {f fa fb : Ev → Option D} {c c1 c2 : Ev → Option Bool} {m1 m2 : Ev → Option Out} {x y d : D} {ds ds' : List D} {g : List D → Option D} {h : D → D → Option D} {fl : Ev → Option (List D)} {P : D → Prop}
theorem set_ (e : f ρ = some d) (k : T (.nx (ρ.set i (some d)))) : Wo (Zo i f ρ) T := by rw [mSet_, e]; exact ⟨_, rfl, k⟩
theorem upd_ {w : List D → D → Option (List D)} (e : f ρ = some d) (ex : ρ[i]?.join = some (.lst ds)) (hw : w ds d = some ds') (k : T (.nx (ρ.set i (some (.lst ds'))))) : Wo (mUpd i w f ρ) T := by rw [mUpd_, e, ex, oB, oB, asL_, oB, hw]; exact ⟨_, rfl, k⟩
theorem fA2 (h1 : fa ρ = some x) (h2 : fb ρ = some y) (e : g [x, y] = some d) : fA g (zc fa (zc fb zl)) ρ = some d := by rw [fA_, fCons_, h1, oB, fCons_, h2]; exact e
theorem f2v (h1 : fa ρ = some x) (h2 : fb ρ = some y) (e : h x y = some d) : f2 h fa fb ρ = some d := by rw [f2_, h1, oB, h2]; exact e
theorem fIxv {k : Int} (h1 : fl ρ = some ds) (h2 : fb ρ = some (.int k)) (e : atI ds k = some d) : fIx fl fb ρ = some d := by rw [fIx_, h1, oB, h2]; exact e
theorem zF {b : Bool} (e : f ρ = some (.bl b)) : zy f ρ = some b := by rw [fTest_, e]; rfl
theorem not_t (e : c ρ = some true) : fNot c ρ = some false := by rw [fNot_, e]; rfl
theorem or_ff (e1 : c1 ρ = some false) (e2 : c2 ρ = some false) : fOr c1 c2 ρ = some false := by rw [fOr_, e1]; exact e2
theorem if_f (e : c ρ = some false) (k : Wo (m2 ρ) T) : Wo (mIf c m1 m2 ρ) T := by rw [mIf_, e]; exact k
theorem ret_ (e : f ρ = some d) (k : P d) : Wo (Zb f ρ) (Back P) := by rw [mRet_, e]; exact ⟨_, rfl, k⟩
theorem tupL (e : f ρ = some (.lst ds)) : fA gTuple (zu true f) ρ = some (.tup ds) := by rw [fA_, fSeq_, e]; rfl
theorem tup1_ (e : f ρ = some d) : zR (zc f zl) ρ = some (.tup [d]) := by rw [fTup_, fCons_, e]; exact dTup_ (size_of (by simp))
theorem catT_ {xs ys : List D} (h1 : fa ρ = some (.tup xs)) (h2 : fb ρ = some (.tup ys)) (hl : xs.length + ys.length ≤ 1000000) : fCatT fa fb ρ = some (.tup (xs ++ ys)) := by
 rw [fCatT_, fSeq_, h1, oB, asK_f, oB, fSeq_, h2, oB, asK_f, oB]
 exact dTup_ (size_of (by rw [List.length_append]; exact hl))
theorem cutFrom_ {k : Nat} (hl : fl ρ = some ds) (e : f ρ = some (.int (k : Nat))) (hk : 0 < k) (h0 : 0 < ds.length) : fCutT fl (fPart f) fNo ρ = some (.tup (ds.drop k)) := by
 rw [fCutT_, hl, oB, fPart_, e, oB, asI_, Option.map_some, oB, fNo_, oB, if_neg, cutD_from]
 rw [HT.sIx_nat]; omega
theorem seqT (e : f ρ = some (.tup ds)) : zu false f ρ = some ds := by rw [fSeq_, e]; rfl
theorem seqL (e : f ρ = some (.lst ds)) : zu true f ρ = some ds := by rw [fSeq_, e]; rfl
theorem fA1 (h1 : fa ρ = some x) (e : g [x] = some d) : fA g (zc fa zl) ρ = some d := by rw [fA_, fCons_, h1]; exact e
theorem fA3 {fc : Ev → Option D} {z : D} (h1 : fa ρ = some x) (h2 : fb ρ = some y) (h3 : fc ρ = some z) (e : g [x, y, z] = some d) : fA g (zc fa (zc fb (zc fc zl))) ρ = some d := by rw [fA_, fCons_, h1, oB, fCons_, h2, oB, fCons_, h3]; exact e
theorem fA4 {fc fd : Ev → Option D} {z t : D} (h1 : fa ρ = some x) (h2 : fb ρ = some y) (h3 : fc ρ = some z) (h4 : fd ρ = some t) (e : g [x, y, z, t] = some d) : fA g (zc fa (zc fb (zc fc (zc fd zl)))) ρ = some d := by rw [fA_, fCons_, h1, oB, fCons_, h2, oB, fCons_, h3, oB, fCons_, h4]; exact e
theorem f1v {h1 : D → Option D} (e1 : fa ρ = some x) (e : h1 x = some d) : f1 h1 fa ρ = some d := by rw [f1_, e1]; exact e
theorem new_ (e : f ρ = some d) (hi : i < ρ.length) (k : T (.nx (ρ.set i (some d)))) : Wo (mNew i f ρ) T := by rw [mNew_, e]; exact ⟨_, if_pos hi, k⟩
theorem setIx_ {fi : Ev → Option D} {k : Int} {j : Nat} (e : f ρ = some d) (ex : ρ[i]?.join = some (.lst ds)) (ei : fi ρ = some (.int k)) (hj : ixN ds.length k = some j) (q : T (.nx (ρ.set i (some (.lst (ds.set j d)))))) : Wo (mSetIx i f fi ρ) T := by rw [mSetIx_, e, ex, oB, oB, asL_, oB, ei, oB, asI_, oB, hj]; exact ⟨_, rfl, q⟩
theorem flatv (e : f ρ = some d) (h : d.flat = true) : fFlat f ρ = some d := by rw [fFlat_, e, oB, if_pos h]
theorem ixN_nat {n k : Nat} (h : k < n) : ixN n (k : Int) = some k := by unfold ixN; rw [if_pos (by omega), if_pos (by omega)]; simp
end
section
variable {X : Cx} {fr : Bool} {os ol : List Nat} {pos : Pos}
end
end M
namespace L2
open PySem PySem.Spec PyProof.Rows
section
variable {X : Cx} {pins : List (Addr × Obj)} {σ : St} {H H' : Hp} {s : Shared}
end
end L2
namespace L2
open PySem PySem.Spec PyProof.Rows
theorem draws_over {prog : Program} {w : World} {A : Around} {k : Bool} (hh : A.handled = none) (it l : Addr) (xs : Array Value) (i : Nat) (hi : xs.size ≤ i) : Draws prog w A it [it, l] i (fun _ _ => True) (fun j h => j = i ∧ IterAt k h it l i ∧ SeqAt k h l xs) where
 live := fun _ _ st => let ⟨o, ho, _⟩ := st.2.1; ⟨o, ho⟩
 frame := fun _ _ _ st hk => ⟨st.1, st.2.1.at fun o e => hk it (by simp) o e, st.2.2.at fun o e => hk l (by simp) o e⟩
 item := fun j s Q E hj st hQ => absurd hj (by rw [st.1]; exact Nat.lt_irrefl _)
 done := fun s Q E st hE => nextOf_end hh st.2.1 st.2.2 (by simp; omega) hE
def tnEnum (j : Bool) (e it l : Addr) (i : Nat) (h : Heap) : Prop := (∃ old, IsEnum h e it i old) ∧ IterAt j h it l i
theorem turn_enum {P : Program} {w : World} {K : PySem.W.Frag} {elts : List Expr} {kk : Nat} {pp : Pos} {j : Bool} {e it l : Addr} (D : e ≠ it) :
  Turn P w K (.Tuple elts kk pp) (Ite j K l) [e, it] e (tnEnum j e it l) where
 mem := by simp
 obj := fun i h st b hb => by
  obtain ⟨⟨_, a1⟩, ⟨o4, a4, _, d4⟩⟩ := st
  simp only [List.mem_cons, List.not_mem_nil, or_false] at hb
  rcases hb with rfl | rfl
  ·exact ⟨_, a1, fun v q => by cases (show Data.fields _ = Data.cell v from q)⟩
  ·exact ⟨_, a4, fun v q => by rw [d4] at q; cases q⟩
 keep := fun i h h' st k => by
  obtain ⟨⟨old, a1⟩, a4⟩ := st
  exact ⟨⟨old, k e (by simp) _ a1⟩, a4.at fun o q => k it (by simp) o q⟩
 item := by
  intro X hP hw hK hc i pins s σ H E I hf st hg
  subst hP hw hK
  obtain ⟨xs, x, hq1, hx⟩ := hg
  obtain ⟨its1, r1, p1, _⟩ := I.seq hq1
  obtain ⟨u1, e1, ru1⟩ := r1.get hx
  obtain ⟨⟨old, a1⟩, a4⟩ := st
  have fe := hf e (by simp)
  have fi := hf it (by simp)
  have hlen := r1.length
  have hil : i < its1.toArray.size := by have := (List.getElem?_eq_some_iff.mp e1).1; simpa using this
  refine wpAny_pyNext_enum_itemD (draws_seq (k := j) (prog := X.prog) (w := X.w) (A := X.A.in1) (I.ok.hd hc) it l (fpne I hq1 fi) its1.toArray) a1 ⟨a4, p1⟩ hil D (by simp only [List.mem_cons, List.not_mem_nil, or_false, not_or]; exact ⟨D, Ne.symm (fpne I hq1 fe)⟩) fun x' h' tk hx' b1 b2 b5 b6 hk => ?_
  have hx' : its1.toArray[i]? = some x' := hx'
  have : x' = u1 := by simp at hx'; rw [e1] at hx'; exact (Option.some.inj hx').symm
  subst this
  refine ⟨.ref s.heap.objs.size, rfl, wpAny_letOwnedTupleGo_enum b1 fun h2 c1 sb => ?_⟩
  have hlt : ∀ c ∈ [e, it], c < s.heap.objs.size := fun c hc => by
   simp only [List.mem_cons, List.not_mem_nil, or_false] at hc
   rcases hc with rfl | rfl
   ·exact Heap.lt_size a1
   ·obtain ⟨o, ho, _⟩ := a4; exact Heap.lt_size ho
  have fr : H s.heap.objs.size = none := I.hok.fresh (Nat.le_refl _)
  have k2 : ∀ c o, c ∉ [e, it] → s.heap.get? c = some o → h2.get? c = some o := fun c o hc q => by
   simp only [List.mem_cons, List.not_mem_nil, or_false, not_or] at hc
   exact (sb.2 c hc.1).trans (hk c o hc.1 hc.2 q)
  have T2 : h2.get? s.heap.objs.size = some { cls := .type "tuple", data := .seq #[.int i tk, x'] } := (sb.2 _ (Nat.ne_of_gt (hlt e (by simp)))).trans b5
  have hch : ∀ b ∈ [e, it], (b ∈ X.ex ∨ X.s₀.heap.objs.size ≤ b) ∧ b ≠ X.env.locals ∧ (∀ x c, X.env.cells.lookup x = some c → c ≠ b) ∧ ∀ p ∈ X.pn ++ pins, p.1 ≠ b := fun b hb => by
   have fb : FpOk X pins H b := hf b hb
   exact ⟨fb.2.2.2.1, fb.2.1, fb.2.2.2.2.1, fb.2.2.2.2.2⟩
  have hnone : ∀ b ∈ [e, it], H b = none := fun b hb => (hf b hb).1
  have ntr : ∀ b u, H b = some u → b ∉ [e, it] := fun b u q hb => by rw [hnone b hb] at q; cases q
  have Hok : HOk X.prog X.w (upd H s.heap.objs.size (.tup [.int i, x])) h2 := fun c o q => by
   by_cases hcs : c = s.heap.objs.size
   ·subst hcs
    rw [zK] at q
    cases q
    exact ⟨by show 2 ≤ sizeLine; decide, [.int i tk, x'], .cons ⟨_, rfl⟩ (.cons ru1 .nil), ⟨_, T2, rfl, _, rfl⟩⟩
   ·rw [zI hcs] at q
    refine (I.hok c o q).stay (fun d v hd q' => k2 d v ?_ q') (fun d q' => ?_) fun d xs q' => ?_
    ·rcases hd with rfl | hd
     ·exact ntr _ _ q
     ·exact ntr _ _ hd
    ·rw [zI (ne_of_none q' fr)]; exact q'
    ·rw [zI (ne_of_none q' fr)]; exact q'
  have nsz : ∀ c o, s.heap.get? c = some o → c ≠ s.heap.objs.size := fun c o q => Nat.ne_of_lt (Heap.lt_size q)
  have I2 : Inv X pins σ (upd H s.heap.objs.size (.tup [.int i, x])) { s with heap := h2, toks := tk + 1 } := by
   refine I.step (g' := s.gens) (d' := s.drawn) (ch := [e, it]) hch (fun b o _ _ hb q _ => k2 b o hb q) (fun b o _ _ hb q _ => ⟨o.slots, k2 b o hb q⟩) (fun b o _ q n => by rw [zI (nsz b o q)]; exact n) (fun b o hb q => ⟨o, k2 b o hb q⟩)
    (fun b xs q => by rw [zI (ne_of_none q fr)]; exact q) (fun b o u q => by rw [zI (ne_of_none q fr)]; exact q) (fun b ps q => ⟨#[], by rw [zI (ne_of_none q fr), q]; simp⟩) (fun m hm => ?_) Hok I.bare
   obtain ⟨o, es, ep, ho, r⟩ := hm
   refine ⟨o, es, ep, k2 _ o (fun hb => (hch _ hb).2.1 rfl) ho, r⟩
  refine ⟨.ref s.heap.objs.size, _, I2, rfl, ⟨_, x, rfl, fr, rfl, fun zs hz => by rw [I.seq_inj hz hq1]; exact hx⟩, ⟨⟨_, c1⟩, b2.1.at fun o q => (sb.2 _ (Ne.symm D)).trans q⟩, fun b hb => ?_⟩
  rw [zI (Nat.ne_of_lt (hlt b hb))]; exact (hf b hb).1
 done := by
  intro X hP hw hK hc i pins s σ H E I hf st hg
  subst hP hw hK
  obtain ⟨xs, hq1, hend⟩ := hg
  obtain ⟨its1, r1, p1, _⟩ := I.seq hq1
  obtain ⟨⟨old, a1⟩, a4⟩ := st
  have fe := hf e (by simp)
  have fi := hf it (by simp)
  have hlen := r1.length
  refine wpAny_pyNext_enum_endD (draws_over (k := j) (prog := X.prog) (w := X.w) (A := X.A.in1) (I.ok.hd hc) it l its1.toArray i (by simp; omega)) a1 ⟨rfl, a4, p1⟩ fun h' hk => ⟨rfl, ?_⟩
  exact I.turned (it := it) (t' := s.toks) (fun b o hb q => hk b o hb q) fi.1 fi.2.1 fi.2.2.2.1 fi.2.2.2.2.1 fi.2.2.2.2.2
 self := fun _ _ _ _ _ st h => wpAny_pyIter_enum st.1.choose_spec h
section
variable {X : Cx}
def iEnum (j : Bool) (K : PySem.W.Frag) (ta : TA) : TI := fun σ H R => ta σ H fun vs H1 => ∃ a, vs = [.ref a] ∧ (∃ xs, Sq j K H1 a xs) ∧ R (Ite j K a) H1
theorem pi_enum (j : Bool) {elts : List Expr} {kk : Nat} {pp : Pos} {a : Expr} {ta : TA} {p pos : Pos} (hg : Gl X "enumerate") (hm : X.mg "enumerate" = none) (ha : PA X [a] ta) (hs : starEach [a] X.env = [(false, eval a X.env)] := by rfl) :
  PI X (.Tuple elts kk pp) (.Call (.Name "enumerate" p) [a] [] pos) (iEnum j X.K ta) := by
 intro pins s σ H R I h
 refine Call_ (ld_blt I hg hm boot_enumerate (PyProof.Rows.callWith_type1 (thn (ha pos pins s σ H _ I h) fun us s1 ⟨vs, H1, I1, r1, q1⟩ => ?_) hs rfl))
 obtain ⟨a, e, ⟨xs, hx⟩, q⟩ := q1
 subst e
 cases r1 with
 | cons r rr =>
  cases rr
  cases r
  obtain ⟨its1, _, p1, _⟩ := I1.seq hx
  refine call_enum_seq p1 fun h' c1 c2 c3 up => wpAny_pyIter_enum c1 ?_
  have I2 : Inv X pins σ H1 { s1 with heap := h' } := I1.kept (t' := s1.toks) up
  refine ⟨s1.heap.objs.size + 1, [s1.heap.objs.size + 1, s1.heap.objs.size], _, _, H1, rfl, I2, turn_enum (j := j) (it := s1.heap.objs.size) (Nat.succ_ne_self _), ⟨⟨_, c1⟩, c2⟩, fun b hb => ?_, q⟩
  have hb' : @LE.le Nat instLENat s1.heap.objs.size b := by
   simp only [List.mem_cons, List.not_mem_nil, or_false] at hb
   rcases hb with rfl | rfl
   ·exact Nat.le_add_right _ 1
   ·exact Nat.le_refl _
  exact I1.fpOk (H' := H1) hb' (I1.hok.fresh hb')
end
end L2
namespace L2
open PySem PySem.Spec PyProof.Rows
section
variable {X : Cx} {e : Expr} {te : TE} {g : Str} {p p' kp pos : Pos} {k : Nat} {f : Addr} {fd : FuncData} {p1 : Str} {sp : Sp}
end
end L2
namespace M
open PySem PySem.Spec L2
open PySem.W (Frag)
section
variable {X : Cx} {os : List Nat} {a : Expr} {ta : TE} {ca : Ev → Option (List D)} {p pos p' kp : Pos} {g : Str} {k : Nat} {fn : Addr} {fd : FuncData} {p1 : Str} {m : List D → Option D}
end
end M
namespace L2
open PySem PySem.Spec PyProof.Rows
section
variable {X : Cx}
def insAt {α : Type} (xs : List α) (k : Nat) (y : α) : List α := xs.take k ++ y :: xs.drop k
def rInsert : V → List V → Hp → VK → Prop := fun x vs H Q => ∃ (l : Addr) (xs : List V) (i : Int) (y : V), x = .ref l ∧ vs = [.int i, y] ∧ H l = some (.lst xs) ∧ 0 ≤ i ∧ i.toNat ≤ xs.length ∧ xs.length < sizeLine ∧ Q .non (upd H l (.lst (insAt xs i.toNat y)))
theorem mt_insert : MtM X "list.insert" rInsert := by
 intro pins s σ H x vs v us Q I rx rv h
 obtain ⟨l, xs, i, y, rfl, rfl, hH, h0, hk, hz, q⟩ := h
 cases rx
 cases rv with
 | cons ru rv =>
  obtain ⟨u2, rfl, ru2⟩ := vals1 rv
  obtain ⟨t, rfl⟩ := ru
  obtain ⟨z, its, n, r, hl, e⟩ := I.lstM hH
  have hks : i.toNat < sizeLine := Nat.lt_of_le_of_lt hk hz
  have hfit : Builtin.List.listFitsIndex i = true := by
   have h63 := line63
   refine fitsIndex_both ?_ ?_
   ·exact Int.le_trans (by decide) h0
   ·have : i.toNat < 2 ^ 63 := Nat.lt_of_lt_of_le hks (Nat.le_of_lt h63)
    omega
  have hnf : ¬ (!Builtin.List.listFitsIndex i) = true := by rw [hfit]; decide
  have hsz : its.toArray.size ≤ sizeLine := by rw [List.size_toArray, ← hl]; exact Nat.le_of_lt hz
  refine call_meets F.slot_list_insert ⟨_, e, rfl⟩ F.entry_list_insert (F.args_list_insert_3 _ _ _) (AutoSeq1.list_insert_list_int_val_1 l its.toArray n i t u2 hnf hsz) ⟨e, ?_⟩
  refine ⟨.non, _, I.lset (its' := its.take i.toNat ++ u2 :: its.drop i.toNat) hH e ?_ ?_ ?_, rfl, q⟩
  ·have hk' : ¬ (i < 0) := by omega
   have hmin : min i.toNat its.length = i.toNat := by omega
   simp only [if_neg hk', List.size_toArray, hmin]
   apply Array.toList_inj.mp
   simp [List.take_of_length_le]
  ·exact (r.take i.toNat).append (.cons ru2 (r.drop i.toNat))
  ·simp only [insAt, List.length_append, List.length_take, List.length_cons, List.length_drop]; omega
end
end L2
namespace M
open PySem PySem.Spec L2
open PySem.W (Frag)
def enumD (xs : List D) : List D := (List.range xs.length).zipWith (fun (i : Nat) x => .tup [.int i, x]) xs
theorem enumD_len (xs : List D) : (enumD xs).length = xs.length := by simp [enumD]
theorem enumD_at {xs : List D} {i : Nat} (h : i < xs.length) : (enumD xs)[i]? = some (.tup [.int i, xs[i]]) := by
 simp only [enumD]
 rw [List.getElem?_zipWith]
 simp [h]
def fEnum (ca : Ev → Option (List D)) : Ev → Option (List D) := fun ρ => (ca ρ).map enumD
section
variable {X : Cx} {s : Bool} {os : List Nat} {a : Expr} {ta : TE} {ca : Ev → Option (List D)} {p pos : Pos}
theorem si_enum {j : Bool} {elts : List Expr} {kk : Nat} {pp : Pos} (hg : Gl X "enumerate") (hm : X.mg "enumerate" = none) (ha : SN X s j os a ta ca) (h1 : starEach [a] X.env = (false, eval a X.env) :: starEach [] X.env := by rfl) (hs : starEach [a] X.env = [(false, eval a X.env)] := by rfl) {K' : Frag} (hK : X.K = K' := by rfl) :
  SI X s os (.Tuple elts kk pp) (.Call (.Name "enumerate" p) [a] [] pos) (iEnum j K' (Zi ta tNil)) (fEnum ca) := by
 subst hK
 exact ⟨pi_enum j hg hm (zT ha.pe Zv h1) hs, fun H₀ B₀ σ H ρ ds R m q kk => by
 obtain ⟨dx, h1, rfl⟩ := map_some q
 refine ha.ok H₀ B₀ σ H ρ dx _ m h1 fun a xs H1 s1 hc1 r1 => ?_
 refine ⟨a, rfl, ⟨xs, hc1.sq⟩, ?_⟩
 obtain ⟨P, p0, psq, pmv, pst⟩ := hc1.split
 refine kk _ H1 (fun H B => P H B ∧ zv X.K H B dx xs) s1 ⟨fun H B i d ok e => ?_, fun H B i d x H' ok e y => ?_, fun H B i ok hl => ?_⟩
  (fun n hn Ha Hb Ba Bb g kp ok => ⟨pmv n hn _ _ _ _ g kp ok.1, zv.goes g _ _ ok.2⟩) (fun hs H H' B B' g ok => ⟨pst hs _ _ _ _ g ok.1, zv.goes g _ _ ok.2⟩) ⟨p0, r1⟩
 ·have hi := (List.getElem?_eq_some_iff.mp e).1
  rw [enumD_len] at hi
  obtain ⟨u, h5, _⟩ := ok.2.get (i := i) (d := dx[i]) (by simp [hi])
  exact ⟨xs, u, psq _ _ ok.1, h5⟩
 ·have hi := (List.getElem?_eq_some_iff.mp e).1
  rw [enumD_len] at hi
  obtain ⟨u, h5, h5'⟩ := ok.2.get (i := i) (d := dx[i]) (by simp [hi])
  obtain ⟨q', x1, rfl, hn, rfl, hx⟩ := y
  have e1 := hx xs (psq _ _ ok.1)
  rw [h5] at e1; cases e1
  rw [enumD_at hi] at e; cases e
  refine ⟨zN hn, ?_⟩
  simp only [Rep]
  exact ⟨q', _, rfl, .inl (.inl zK), (zv.cons rep_int (.one h5')).up (zN hn)⟩
 ·rw [enumD_len] at hl
  exact ⟨xs, psq _ _ ok.1, by rw [ok.2.length]; omega⟩⟩
end
def mIns (i : Nat) (fk f : Ev → Option D) : Ev → Option Out := fun ρ => (fk ρ).bind fun kd => (asI kd).bind fun k => (f ρ).bind fun d => (ρ[i]?.join).bind fun x => (asL x).bind fun ds => if 0 ≤ k ∧ k ≤ ds.length ∧ ds.length < sizeLine then some (.nx (ρ.set i (some (.lst (insAt ds k.toNat d))))) else none
section
variable {X : Cx} {fr : Bool} {os ol : List Nat} {e ek : Expr} {te tk : TE} {f fk : Ev → Option D} {pos : Pos}
theorem zv.insAt {K : Frag} {H : Hp} {B : Addr → Prop} {ds : List D} {vs : List V} {d : D} {v : V} (h : zv K H B ds vs) (h' : Rep K H B d v) (k : Nat) : zv K H B (insAt ds k d) (insAt vs k v) := (h.take k).append (.cons h' (h.drop k))
theorem ss_insert {i : Nat} {x : Str} {p apos cpos : Pos} (hk : SE X true os ek tk fk) (h : SE X true os e te f) (ho : i ∈ os := by decide) (hN : X.N[i]? = some x := by rfl) (hv : Vis X.env.scope x := by first | exact Or.inl rfl | exact Or.inr (Or.inl rfl) | exact Or.inr (Or.inr rfl)) (hd : (x == ("__debug__" : Str)) = false := by decide)
  (hcd : (x == ("__classdict__" : Str)) = false := by decide) (hs1 : starEach [ek, e] X.env = (false, eval ek X.env) :: starEach [e] X.env := by rfl) (hs2 : starEach [e] X.env = (false, eval e X.env) :: starEach [] X.env := by rfl)
  (hbase : attributeBase (.Name x p) "insert" X.env (eval (.Name x p) X.env) = eval (.Name x p) X.env := by rfl)
  (hfew : ((backTo cpos (starEach [ek, e] X.env)).all (fun x => !x.1) && (backToKw cpos (keywordEach [] X.env)).all (fun x => x.1.isSome)
   && decide ([ek, e].length + ([] : List Keyword).length + (if ([] : List Keyword).isEmpty then 0 else 1) < 30)) = true := by rfl)
  (hline : (apos.endLine == cpos.line) = true := by rfl) (hplain : (backTo cpos (starEach [e] X.env)).any (·.1) = false := by rfl) (hs : swapsWith (.Call (.Attribute (.Name x p) "insert" apos) [ek, e] [] cpos) none pos.line X.env = pure false := by rfl) :
  SS X fr os os ol (.Expr (.Call (.Attribute (.Name x p) "insert" apos) [ek, e] [] cpos) pos) (tDrop (tBM X.K "list" rInsert (tVar i) (Zi tk (Zi te tNil)))) (mIns i fk f) := ⟨ps_expr (pe_bm PySem.F.plainAttrs_list PySem.F.slot_list_insert PySem.F.type_list_insert mt_insert (pv i hN hv hd hcd) (zT hk.pe (zT h.pe Zv hs2) hs1) hbase hfew hline hs1 hplain) hs, fun H₀ B₀ σ H ρ o E mm q k => by
 obtain ⟨kd, h1, h2⟩ := zh q
 obtain ⟨n, h3, h4⟩ := zh h2
 obtain ⟨d, h5, h6⟩ := zh h4
 obtain ⟨y, h7, h8⟩ := zh h6
 obtain ⟨ds, h9, h10⟩ := zh h8
 split at h10
 case isFalse => cases h10
 rename_i hc
 cases h10
 cases y <;> simp only [asL] at h9 <;> cases h9
 obtain ⟨a, ob, d', q1, q2, q3, q4, q5⟩ := mm.own i ho
 have h7' := join_get h7
 rw [h7'] at q2; cases q2
 cases ob <;> simp only [Own] at q5
 refine ⟨.ref a, q1, .inl ⟨rfl, _, .inl (.inl q3)⟩, ?_⟩
 refine hk.ok H₀ B₀ σ H ρ kd _ mm h1 fun v H1 s1 r1 => ?_
 have e1 := asI_v r1 h3
 subst e1
 refine h.ok H₀ B₀ σ H1 ρ d _ (mm.up s1) h5 fun v2 H2 s2 r2 => ?_
 have q5' := zv.up (s1.trans s2) q5
 refine ⟨a, _, n, v2, rfl, rfl, (s1.trans s2) _ _ q3, hc.1, by rw [q5.length]; omega, by rw [q5.length]; exact hc.2.2, k σ _ ?_⟩
 exact (mm.up (s1.trans s2)).write ho q1 (o := .lst _) (d := .lst _) (by simp only [Own]; exact q5'.insAt r2 _)⟩
end
end M
namespace EV
open PySem L2 M
theorem Zj {T : Out → Prop} {f : Ev → Option D} {ρ : Ev} {d : D} (e : f ρ = some d) (k : T (.rt d)) : Wo (Zb f ρ) T := by rw [mRet_, e]; exact ⟨_, rfl, k⟩
section
variable {ρ : Ev} {fa fb : Ev → Option (List D)}
theorem catv {xs ys : List D} (h1 : fa ρ = some xs) (h2 : fb ρ = some ys) (hl : xs.length + ys.length ≤ 1000000) : fCat fa fb ρ = some (.lst (xs ++ ys)) := by
 rw [fCat_, h1, oB, h2, oB]
 exact dLst_ (size_of (by rw [List.length_append]; exact hl))
theorem lv {f : Ev → Option D} {xs : List D} (h : f ρ = some (.lst xs)) : fL f ρ = some xs := by rw [fL_, h]; rfl
theorem lst1_ {f : Ev → Option D} {d : D} (e : f ρ = some d) : Zf (zc f zl) ρ = some (.lst [d]) := by rw [fLst_, fCons_, e]; exact dLst_ (size_of (by simp))
end
theorem ints_at : ∀ {l : List D} {P : Nat → Int → Prop}, (∀ (i : Nat) x, l[i]? = some x → ∃ v, x = .int v ∧ P i v) → ∃ vs : List Int, l = vs.map .int ∧ vs.length = l.length ∧ ∀ i, i < l.length → P i (vs.getD i 0)
 | [], _, _ => ⟨[], rfl, rfl, fun i hi => by simp at hi⟩
 | x :: l, P, h => by
  obtain ⟨v, rfl, pv⟩ := h 0 x rfl
  obtain ⟨vs, e1, e2, e3⟩ := ints_at (l := l) (P := fun i => P (i + 1)) fun i y hy => h (i + 1) y (by simpa using hy)
  refine ⟨v :: vs, by rw [e1]; rfl, by simp [e2], fun i hi => ?_⟩
  cases i with
  | zero => exact pv
  | succ i => exact e3 i (by simpa using hi)
theorem fcomp_ints {k : Nat} {fl : Ev → Option (List D)} {u : D → Ev → Option Ev} {c : Ev → Option Bool} {e : Ev → Option D} {ρ : Ev} {ds : List D} (P : Nat → Int → Prop) (I : Ev → Prop) (hfl : fl ρ = some ds) (hm : ds.length ≤ 1000) (h0 : I (ρ ++ List.replicate k none))
  (hs : ∀ (i : Nat) d ρ, ds[i]? = some d → I ρ → Wo (u d ρ) fun ρ1 => c ρ1 = some true ∧ Wo (e ρ1) (fun x => ∃ v, x = .int v ∧ P i v) ∧ I ρ1) : ∃ vs : List Int, fComp k fl u c e ρ = some (lstI vs) ∧ vs.length = ds.length ∧ ∀ i, i < ds.length → P i (vs.getD i 0) := by
 suffices h : Wo (fComp k fl u c e ρ) fun d => ∃ vs : List Int, d = lstI vs ∧ vs.length = ds.length ∧ ∀ i, i < ds.length → P i (vs.getD i 0) by
  obtain ⟨d, e, vs, rfl, q⟩ := h
  exact ⟨vs, e, q⟩
 rw [fComp_, hfl, oB, wo_bind]
 refine wo_compAt I (fun i x => ∃ v, x = .int v ∧ P i v) h0 hs fun xs hx hF => ?_
 obtain ⟨vs, rfl, e2, e3⟩ := ints_at hF
 rw [dLst_ (size_of (by rw [hx]; omega)), zC]
 rw [hx] at e2 e3
 exact ⟨vs, rfl, e2, e3⟩
section
variable {ρ : Ev} {fl ga gb : Ev → Option (List D)} {f f1 f2 f3 f4 : Ev → Option D} {ds xs ys : List D} {d1 d2 d3 d4 : D} {c1 c2 : Ev → Option Bool}
theorem cutLFrom {k : Nat} (hl : fl ρ = some ds) (e : f ρ = some (.int (k : Nat))) : fCut .lst fl (fPart f) fNo ρ = some (.lst (ds.drop k)) := by
 rw [fCut_, hl, oB, fPart_, e, oB, asI_, Option.map_some, oB, fNo_, oB, cutD_from]
theorem cutLTo {k : Nat} (hl : fl ρ = some ds) (e : f ρ = some (.int (k : Nat))) : fCut .lst fl fNo (fPart f) ρ = some (.lst (ds.take k)) := by
 rw [fCut_, hl, oB, fNo_, oB, fPart_, e, oB, asI_, Option.map_some, oB, cutD_to]
theorem lst4_ (e1 : f1 ρ = some d1) (e2 : f2 ρ = some d2) (e3 : f3 ρ = some d3) (e4 : f4 ρ = some d4) : Zf (zc f1 (zc f2 (zc f3 (zc f4 zl)))) ρ = some (.lst [d1, d2, d3, d4]) := by
 rw [fLst_, fCons_, e1, oB, fCons_, e2, oB, fCons_, e3, oB, fCons_, e4]
 exact dLst_ (size_of (by simp))
end
theorem rng1v {f : Ev → Option D} {ρ : Ev} {n : Nat} (h : f ρ = some (.int (n : Nat))) (hn : n ≤ 1000) : fRng1 f ρ = some (rangeD 0 n) := by
 refine Wo.eq ?_
 rw [wo_rng1, h, zC, asI_, zC]
 exact ⟨⟨by omega, by omega⟩, by rw [Int.toNat_natCast]⟩
theorem asg_ {ρ ρ' : Ev} {T : Out → Prop} {f : Ev → Option D} {u : D → Ev → Option Ev} {d : D} (e : f ρ = some d) (eu : u d ρ = some ρ') (k : T (.nx ρ')) : Wo (mAsg u f ρ) T := by rw [mAsg_, e, oB, eu]; exact ⟨_, rfl, k⟩
end EV
namespace M
open PySem PySem.Spec L2
open PySem.W (Frag)
section
variable {K : Frag} {H₀ H : Hp} {B₀ : Addr → Prop} {os os2 : List Nat} {σ : St} {ρ : Ev} {i : Nat} {a : Addr}
end
section
variable {X : Cx} {fr : Bool} {os os2 ol : List Nat} {pos p : Pos} {tg : Expr} {m : Ev → Option Out}
end
end M
namespace L2
open PySem PySem.Spec PyProof.Rows
section
variable {X : Cx} {a : Expr} {ta : TE} {p p2 pos pos2 : Pos}
end
end L2
namespace M
open PySem PySem.Spec L2
open PySem.W (Frag)
section
variable {X : Cx} {os : List Nat} {a : Expr} {ta : TE} {ca : Ev → Option (List D)} {p p2 pos pos2 : Pos} {k : Nat}
end
end M
namespace L2
open PySem PySem.Spec PyProof.Rows
section
variable {κ : Type} [DecidableEq κ]
def valV (kvs : List (κ × V)) (k : κ) : Option V := (kvs.find? fun kv => decide (kv.1 = k)).map (·.2)
def putK (kvs : List (κ × V)) (k : κ) (v : V) : List (κ × V) :=
 if (kvs.any fun kv => decide (kv.1 = k)) = true then kvs.map (fun kv => if kv.1 = k then (kv.1, v) else kv) else kvs ++ [(k, v)]
def dropK (kvs : List (κ × V)) (k : κ) : List (κ × V) := kvs.filter fun kv => decide (kv.1 ≠ k)
theorem valV_pos {p : κ × V} {r : List (κ × V)} {k : κ} (e : p.1 = k) : valV (p :: r) k = some p.2 := by simp [valV, List.find?_cons, e]
theorem valV_neg {p : κ × V} {r : List (κ × V)} {k : κ} (e : ¬ p.1 = k) : valV (p :: r) k = valV r k := by simp [valV, List.find?_cons, e]
theorem valV_any (k : κ) : ∀ kvs : List (κ × V), (kvs.any fun kv => decide (kv.1 = k)) = (valV kvs k).isSome
 | [] => rfl
 | p :: r => by
  rw [List.any_cons]
  by_cases e : p.1 = k
  ·simp only [valV_pos e, decide_eq_true e, Bool.true_or, Option.isSome_some]
  ·rw [valV_neg e, decide_eq_false e, Bool.false_or]; exact valV_any k r
theorem length_putK (kvs : List (κ × V)) (k : κ) (v : V) : (putK kvs k v).length ≤ kvs.length + 1 := by
 unfold putK
 split
 ·rw [List.length_map]; omega
 ·rw [List.length_append, List.length_cons, List.length_nil]; omega
theorem RelO.isSome_eq {o : Option V} {u : Option Value} (r : RelO o u) : o.isSome = u.isSome := by
 cases o with
 | none => cases u with
  | none => rfl
  | some _ => exact (show False from r).elim
 | some _ => cases u with
  | none => exact (show False from r).elim
  | some _ => rfl
theorem RelO.getD {o : Option V} {u : Option Value} {d : V} {d' : Value} (r : RelO o u) (rd : ZE d d') : ZE (o.getD d) (u.getD d') := by
 cases o with
 | none => cases u with
  | none => exact rd
  | some _ => exact (show False from r).elim
 | some _ => cases u with
  | none => exact (show False from r).elim
  | some _ => exact r
theorem KV.val {kvs : List (κ × V)} {vs : List (κ × Value)} (r : KV kvs vs) (k : κ) : RelO (valV kvs k) (valueAt vs k) := by
 unfold KV at r
 induction r with
 | nil => exact True.intro
 | @cons p q ps qs h t ih =>
  obtain ⟨h1, h2⟩ := h
  by_cases e : p.1 = k
  ·have e' : q.1 = k := h1.symm.trans e
   have b : valueAt (q :: qs) k = some q.2 := by simp [valueAt, List.find?_cons, e']
   rw [valV_pos e, b]; exact h2
  ·have e' : ¬ q.1 = k := fun z => e (h1.trans z)
   have b : valueAt (q :: qs) k = valueAt qs k := by simp [valueAt, List.find?_cons, e']
   rw [valV_neg e, b]; exact ih
theorem KV.any {kvs : List (κ × V)} {vs : List (κ × Value)} (r : KV kvs vs) (k : κ) : (kvs.any fun kv => decide (kv.1 = k)) = vs.any fun kv => decide (kv.1 = k) := by
 unfold KV at r
 induction r with
 | nil => rfl
 | cons h t ih => rw [List.any_cons, List.any_cons, ih, h.1]
theorem KV.repl {kvs : List (κ × V)} {vs : List (κ × Value)} (r : KV kvs vs) (k : κ) {y : V} {u : Value} (ry : ZE y u) :
  KV (kvs.map fun kv => if kv.1 = k then (kv.1, y) else kv) (vs.map fun kv => if kv.1 = k then (kv.1, u) else kv) := by
 unfold KV at r ⊢
 induction r with
 | nil => exact .nil
 | @cons p q ps qs h t ih =>
  rw [List.map_cons, List.map_cons]
  refine .cons ?_ ih
  obtain ⟨h1, h2⟩ := h
  by_cases e : p.1 = k
  ·rw [if_pos e, if_pos (h1.symm.trans e)]; exact ⟨h1, ry⟩
  ·rw [if_neg e, if_neg (fun z => e (h1.trans z))]; exact ⟨h1, h2⟩
theorem KV.put {kvs : List (κ × V)} {vs : List (κ × Value)} (r : KV kvs vs) (k : κ) {y : V} {u : Value} (ry : ZE y u) : KV (putK kvs k y) (stored vs k u) := by
 unfold putK stored
 rw [r.any k]
 by_cases e : (vs.any fun kv => decide (kv.1 = k)) = true
 ·rw [if_pos e, if_pos e]; exact r.repl k ry
 ·rw [if_neg e, if_neg e]; exact Paired.snoc r ⟨rfl, ry⟩
theorem KV.drop {kvs : List (κ × V)} {vs : List (κ × Value)} (r : KV kvs vs) (k : κ) : KV (dropK kvs k) (without vs k) := by
 unfold KV at r ⊢
 unfold dropK without
 induction r with
 | nil => exact .nil
 | @cons p q ps qs h t ih =>
  obtain ⟨h1, h2⟩ := h
  rw [List.filter_cons, List.filter_cons]
  by_cases e : p.1 = k
  ·have a : ¬ decide (p.1 ≠ k) = true := by simp [e]
   have b : ¬ decide (q.1 ≠ k) = true := by simp [h1.symm.trans e]
   rw [if_neg a, if_neg b]; exact ih
  ·have e' : ¬ q.1 = k := fun z => e (h1.trans z)
   have a : decide (p.1 ≠ k) = true := by simp [e]
   have b : decide (q.1 ≠ k) = true := by simp [e']
   rw [if_pos a, if_pos b]; exact .cons ⟨h1, h2⟩ ih
theorem KV.length {kvs : List (κ × V)} {vs : List (κ × Value)} (r : KV kvs vs) : kvs.length = vs.length := Paired.length r
end
theorem kV_is {P : Program} {w : World} {k : Key} {u : Value} (r : ZE (kV k) u) : (mixKind P w).is k u = true := by
 cases k with
 | inl i => obtain ⟨t, e⟩ := (show ∃ t, u = Value.int i t from r); subst e; exact mixKind_int P w i t
 | inr x => obtain ⟨t, e⟩ := (show ∃ t, u = Value.str x t from r); subst e; exact mixKind_str P w x t
theorem items_are {P : Program} {w : World} : ∀ {ks : List Key} {us : List Value}, Za (ks.map kV) us → ItemsAre (mixKind P w) ks us
 | [], _, r => by rw [List.map_nil] at r; cases r; exact .nil
 | k :: ks, _, r => by
  rw [List.map_cons] at r
  cases r with
  | cons h t => exact .cons (kV_is h) (items_are t)
abbrev KT (H : Hp) : List (List Key × V) → List (List Key × Addr × Value) → Prop := Paired fun p q => p.1 = q.1 ∧ H q.2.1 = some (.tup (p.1.map kV)) ∧ ZE p.2 q.2.2
theorem KT.val {H : Hp} {kvs : List (List Key × V)} {xs : List (List Key × Addr × Value)} (r : KT H kvs xs) (k : List Key) : RelO (valV kvs k) ((atKey xs k).map (·.2)) := by
 induction r with
 | nil => exact True.intro
 | @cons p q ps qs h t ih =>
  obtain ⟨h1, _, h2⟩ := h
  by_cases e : p.1 = k
  ·have e' : q.1 = k := h1.symm.trans e
   have b : atKey (q :: qs) k = some q.2 := by simp [atKey, List.find?_cons, e']
   rw [valV_pos e, b]; exact h2
  ·have e' : ¬ q.1 = k := fun z => e (h1.trans z)
   have b : atKey (q :: qs) k = atKey qs k := by simp [atKey, List.find?_cons, e']
   rw [valV_neg e, b]; exact ih
theorem KT.repl {H : Hp} {kvs : List (List Key × V)} {xs : List (List Key × Addr × Value)} (r : KT H kvs xs) (k : List Key) {y : V} {u : Value} (ry : ZE y u) :
  KT H (kvs.map fun kv => if kv.1 = k then (kv.1, y) else kv) (xs.map (putAt k u)) := by
 induction r with
 | nil => exact .nil
 | @cons p q ps qs h t ih =>
  rw [List.map_cons, List.map_cons]
  refine .cons ?_ ih
  obtain ⟨h1, h2, h3⟩ := h
  unfold putAt
  by_cases e : p.1 = k
  ·rw [if_pos e, if_pos (h1.symm.trans e)]; exact ⟨h1, h2, ry⟩
  ·rw [if_neg e, if_neg (fun z => e (h1.trans z))]; exact ⟨h1, h2, h3⟩
theorem KT.put {H : Hp} {kvs : List (List Key × V)} {xs : List (List Key × Addr × Value)} (r : KT H kvs xs) (k : List Key) {b : Addr} {y : V} {u : Value} (hb : H b = some (.tup (k.map kV))) (ry : ZE y u) :
  KT H (putK kvs k y) (storedH xs k b u) := by
 have e : (kvs.any fun kv => decide (kv.1 = k)) = (atKey xs k).isSome := by
  rw [valV_any, (r.val k).isSome_eq, Option.isSome_map]
 unfold putK storedH
 rw [e]
 by_cases q : (atKey xs k).isSome = true
 ·rw [if_pos q, if_pos q]; exact r.repl k ry
 ·rw [if_neg q, if_neg q]; exact Paired.snoc r ⟨rfl, hb, ry⟩
theorem KT.keeps {H H' : Hp} {kvs : List (List Key × V)} {xs : List (List Key × Addr × Value)} (r : KT H kvs xs) (ht : ∀ b ys, H b = some (.tup ys) → H' b = some (.tup ys)) : KT H' kvs xs :=
 Paired.mapP r fun _ _ z => ⟨z.1, ht _ _ z.2.1, z.2.2⟩
section
variable {P : Program} {w : World} {H : Hp} {h : Heap} {a : Addr}
theorem rd_of {u : HO} (ok : HOk P w H h) (e : Rd H a u) : ObjOk P w H h a u := e.ok ok
theorem dk_rd {kvs : List (Key × V)} (ok : HOk P w H h) (e : Rd H a (.dK kvs)) : kvs.length ≤ sizeLine ∧ (a == sysModules) = false ∧ ∃ vs, KV kvs vs ∧ h.DictOf (mixKind P w) a vs :=
 show ObjOk P w H h a (.dK kvs) from rd_of ok e
theorem dk_of {kvs : List (Key × V)} (ok : HOk P w H h) (e : H a = some (.dK kvs)) : kvs.length ≤ sizeLine ∧ (a == sysModules) = false ∧ ∃ vs, KV kvs vs ∧ h.DictOf (mixKind P w) a vs := dk_rd ok (.inl e)
theorem key_of {ks : List Key} (ok : HOk P w H h) (e : H a = some (.tup (ks.map kV))) : (tupleKind (mixKind P w)).is h ks a := by
 obtain ⟨_, its, r, o, h1, h2, n, h3⟩ := (show ObjOk P w H h a (.tup (ks.map kV)) from ok a _ e)
 exact ⟨o, its.toArray, n, h1, h2, h3, by simpa using items_are r⟩
theorem dt_rd {kvs : List (List Key × V)} (ok : HOk P w H h) (e : Rd H a (.dT kvs)) : kvs.length ≤ sizeLine ∧ (a == sysModules) = false ∧
  ∃ xs, KT H kvs xs ∧ h.DictOfH (tupleKind (mixKind P w)) a xs := by
 obtain ⟨z, y, xs, r, o, es, ep, h1, h2, h3, h4, h5⟩ := (show ObjOk P w H h a (.dT kvs) from rd_of ok e)
 refine ⟨z, y, xs, r, o, es, ep, h1, h2, h3, h4, fun x hx => ?_, h5⟩
 have all : ∀ {l : List (List Key × V)} {m : List (List Key × Addr × Value)}, KT H l m → ∀ x ∈ m, (tupleKind (mixKind P w)).is h x.1 x.2.1 := by
  intro l m q
  induction q with
  | nil => intro x hx; exact nomatch hx
  | @cons p q ps qs hq t ih =>
   intro x hx
   rcases List.mem_cons.mp hx with e | hx
   ·subst e
    exact key_of ok (by rw [← hq.1]; exact hq.2.1)
   ·exact ih x hx
 exact all r x hx
theorem dt_of {kvs : List (List Key × V)} (ok : HOk P w H h) (e : H a = some (.dT kvs)) : kvs.length ≤ sizeLine ∧ (a == sysModules) = false ∧
  ∃ xs, KT H kvs xs ∧ h.DictOfH (tupleKind (mixKind P w)) a xs := dt_rd ok (.inl e)
end
def DGet (H : Hp) (a : Addr) (y : V) (r : Option V) : Prop :=
 (∃ kvs k, Rd H a (.dK kvs) ∧ y = kV k ∧ r = valV kvs k) ∨ ∃ kvs k b, Rd H a (.dT kvs) ∧ y = .ref b ∧ H b = some (.tup (k.map kV)) ∧ r = valV kvs k
def DPut (H : Hp) (a : Addr) (y v : V) (H' : Hp) : Prop :=
 (∃ kvs k, H a = some (.dK kvs) ∧ y = kV k ∧ kvs.length < sizeLine ∧ H' = upd H a (.dK (putK kvs k v))) ∨
 ∃ kvs k b, H a = some (.dT kvs) ∧ y = .ref b ∧ H b = some (.tup (k.map kV)) ∧ kvs.length < sizeLine ∧ H' = upd H a (.dT (putK kvs k v))
theorem DGet.k {H : Hp} {a : Addr} {kvs : List (Key × V)} {k : Key} (e : H a = some (.dK kvs)) : DGet H a (kV k) (valV kvs k) := .inl ⟨kvs, k, .inl e, rfl, rfl⟩
theorem DGet.t {H : Hp} {a b : Addr} {kvs : List (List Key × V)} {k : List Key} (e : H a = some (.dT kvs)) (eb : H b = some (.tup (k.map kV))) : DGet H a (.ref b) (valV kvs k) := .inr ⟨kvs, k, b, .inl e, rfl, eb, rfl⟩
theorem DPut.k {H : Hp} {a : Addr} {kvs : List (Key × V)} {k : Key} {v : V} (e : H a = some (.dK kvs)) (hl : kvs.length < sizeLine) : DPut H a (kV k) v (upd H a (.dK (putK kvs k v))) := .inl ⟨kvs, k, e, rfl, hl, rfl⟩
theorem DPut.t {H : Hp} {a b : Addr} {kvs : List (List Key × V)} {k : List Key} {v : V} (e : H a = some (.dT kvs)) (eb : H b = some (.tup (k.map kV))) (hl : kvs.length < sizeLine) :
  DPut H a (.ref b) v (upd H a (.dT (putK kvs k v))) := .inr ⟨kvs, k, b, e, rfl, eb, hl, rfl⟩
section
variable {X : Cx} {pins : List (Addr × Obj)} {σ : St} {H : Hp} {s : Shared} {a : Addr} {y v : V} {u r : Value} {o : Option V} {A : Around} {E : Value → Shared → Prop}
theorem Inv.big (I : Inv X pins σ H s) : sysModules < s.heap.objs.size := by
 have h : mainGlobals < s.heap.objs.size := (I.mod.glob.keeps I.bk).lt
 exact Nat.lt_trans (by decide) h
theorem d_getItem {Q : Value → Shared → Prop} (hu : A.units + 1 < cLine) (I : Inv X pins σ H s) (g : DGet H a y (some v)) (ry : ZE y u) (h : ∀ w' s', Inv X pins σ H s' → ZE v w' → Q w' s') :
  wpAny (model X.prog X.w) A (getItem (.ref a) u) Q E s := by
 rcases g with ⟨kvs, k, e, ey, l⟩ | ⟨kvs, k, b, e, ey, eb, l⟩
 ·subst ey
  obtain ⟨z, hd, vs, rel, dd⟩ := dk_rd I.hok e
  obtain ⟨w', hw, rw'⟩ := RelO.some_of (v := v) (o := valueAt vs k) (by rw [l]; exact rel.val k)
  exact wpAny_getItem_of (kV_is ry) dd.mapOf hw (h w' _ (I.tok _) rw')
 ·subst ey
  cases (show u = Value.ref b from ry)
  obtain ⟨z, hd, xs, rel, dd⟩ := dt_rd I.hok e
  obtain ⟨w', hw, rw'⟩ := RelO.some_of (v := v) (o := (atKey xs k).map (·.2)) (by rw [l]; exact rel.val k)
  obtain ⟨p, hp, hp2⟩ := Option.map_eq_some_iff.mp hw
  refine wpAny_getItem_heap (tupleKind_room_in1 hu) (key_of I.hok eb) dd hp ?_
  rw [hp2]
  exact h w' _ (I.tok _) rw'
theorem d_write {h' : Heap} {t' : Nat} {ob : HO} (I : Inv X pins σ H s) (mu : Mut (H a)) (hs : Heap.SameBut a s.heap h') (he : ∃ q, h'.get? a = some q) (new : ObjOk X.prog X.w (upd H a ob) h' a ob) :
  Inv X pins σ (upd H a ob) { s with heap := h', toks := t' } :=
 I.write (x := a) (e := a) mu (.inl rfl) (fun b q hb z => (hs.2 b hb).trans z) he new
theorem dk_new {P : Program} {w : World} {H' : Hp} {h' : Heap} {kvs : List (Key × V)} {vs : List (Key × Value)} (z : kvs.length ≤ sizeLine) (hd : (a == sysModules) = false) (rel : KV kvs vs) (dd : h'.DictOf (mixKind P w) a vs) :
  ObjOk P w H' h' a (.dK kvs) := ⟨z, hd, vs, rel, dd⟩
theorem d_setItem {H' : Hp} {Q : Unit → Shared → Prop} (hu : A.units + 1 < cLine) (I : Inv X pins σ H s) (g : DPut H a y v H') (ry : ZE y u) (rv : ZE v r) (h : ∀ s', Inv X pins σ H' s' → Q () s') :
  wpAny (model X.prog X.w) A (setItem (.ref a) u r) Q E s := by
 rcases g with ⟨kvs, k, e, ey, l, eH⟩ | ⟨kvs, k, b, e, ey, eb, l, eH⟩
 ·subst ey eH
  obtain ⟨z, hd, vs, rel, dd⟩ := dk_of I.hok e
  have hz : vs.length ≤ sizeLine := by rw [← rel.length]; exact z
  have hl : (putK kvs k v).length ≤ sizeLine := by have := length_putK kvs k v; omega
  refine wpAny_setItem_pairs (hsz := hz) (kV_is ry) dd fun h' dd' hs => h _ ?_
  have he : ∃ q, h'.get? a = some q := let ⟨q, _, _, hq, _⟩ := dd'; ⟨q, hq⟩
  exact d_write I (by rw [e]; exact True.intro) hs he (dk_new hl hd (rel.put k rv) dd')
 ·subst ey eH
  cases (show u = Value.ref b from ry)
  obtain ⟨z, hd, xs, rel, dd⟩ := dt_of I.hok e
  have hz : xs.length ≤ sizeLine := by rw [← Paired.length rel]; exact z
  have hl : (putK kvs k v).length ≤ sizeLine := by have := length_putK kvs k v; omega
  refine wpAny_setItem_heap (hsz := hz) (tupleKind_room_in1 hu) (key_of I.hok eb) dd fun h' dd' hs => h _ ?_
  obtain ⟨q, es, ep, hq, h2, h3, h4, _, h5⟩ := dd'
  refine d_write I (by rw [e]; exact True.intro) hs ⟨q, hq⟩ ⟨hl, hd, _, (rel.put k eb rv).keeps fun c ys ec => ?_, q, es, ep, hq, h2, h3, h4, h5⟩
  rw [zI (ne_of ec e (fun z => nomatch z))]
  exact ec
end
section
variable {X : Cx} {pins : List (Addr × Obj)} {σ : St} {H : Hp} {s : Shared} {a : Addr} {kvs : List (Key × V)} {k : Key} {u : Value} {A : Around} {E : Value → Shared → Prop}
end
def NoSl (i : Expr) : Prop := ∀ ov iv, subscripted i false ov iv = operate [ov, iv] (getItem ov iv)
theorem subD_of {prog : Program} {w : World} {A : Around} {E : Value → Shared → Prop} {s : Shared} {env : Env} {value slice : Expr} {pos : Pos} {T id : String} {Q : Value → Shared → Prop}
  (hl : typeLookup (.type T) "__getitem__" = pure (some (.builtin id))) (hs : NoSl slice)
  (h : wpAny (model prog w) A (eval value env) (fun o s₁ => wpAny (model prog w) A (eval slice env) (fun i s₂ => s₂.TypeIs o T ∧ wpAny (model prog w) A (getItem o i) Q E s₂) E s₁) E s) :
  wpAny (model prog w) A (eval (.Subscript value slice pos) env) Q E s := by
 refine Subscript_ (wpAny_mono h (fun o s₁ h₁ => wpAny_mono h₁ (fun i s₂ h₂ => ?_) fun _ _ x => x) fun _ _ x => x)
 obtain ⟨hT, h₂⟩ := h₂
 unfold subscriptTail
 refine wpAny_bind ?_
 rw [getitemInPython_of_ne hT.not_modules]
 refine wpAny_bind (wpAny_specialOf hT hl ?_)
 have fin : wpAny (model prog w) A (subscripted slice false o i) (fun r s₃ => wpAny (model prog w) A (letTemporaryGo value o r >>= fun _ => pure r) Q E s₃) E s₂ := by
  rw [hs o i]
  exact wpAny_operating (wpAny_mono h₂ (fun r s₃ h₃ => wpAny_bind (wpAny_letTemporaryGo (wpAny_pure h₃))) fun _ _ x => x)
 first
  | exact wpAny_pure (wpAny_bind fin)
  | exact wpAny_bind (wpAny_pure (wpAny_bind fin))
  | exact wpAny_bind fin
theorem dict_typeIs {X : Cx} {pins : List (Addr × Obj)} {σ : St} {H : Hp} {s : Shared} {a : Addr} {y : V} {o : Option V} (I : Inv X pins σ H s) (g : DGet H a y o) : s.TypeIs (.ref a) "dict" := by
 rcases g with ⟨kvs, k, e, _, _⟩ | ⟨kvs, k, b, e, _, _, _⟩
 ·obtain ⟨_, _, vs, _, dd⟩ := dk_rd I.hok e
  exact dd.typeIs
 ·obtain ⟨_, _, xs, _, dd⟩ := dt_rd I.hok e
  exact dd.typeIs
def tDGet (td ty : TE) : TE := fun σ H Q => td σ H fun x H1 => ty σ H1 fun y H2 => ∃ a v, x = .ref a ∧ DGet H2 a y (some v) ∧ Q v H2
def sDPut (td ty tv : TE) : TS := fun D σ H => tv σ H fun v H1 => td σ H1 fun x H2 => ty σ H2 fun y H3 => ∃ a H4, x = .ref a ∧ DPut H3 a y v H4 ∧ D.nx σ H4
section
variable {X : Cx} {o i e value : Expr} {pos pos' tpos : Pos} {td ty tv : TE}
theorem pe_dget (hu : X.A.units + 1 < cLine) (ho : PE X o td) (hi : PE X i ty) (hs : NoSl i) : PE X (.Subscript o i pos) (tDGet td ty) := by
 intro pins s σ H Q I h
 refine subD_of PySem.F.slot_dict_getitem.lookup hs (thn (ho pins s σ H _ I h) fun u s1 ⟨x, H1, I1, rx, q1⟩ => thn (hi pins s1 σ H1 _ I1 q1) fun iv s2 ⟨y, H2, I2, ry, a, v, ex, g, q2⟩ => ?_)
 subst ex
 obtain rfl : u = Value.ref a := rx
 exact ⟨dict_typeIs I2 g, d_getItem hu I2 g ry fun w' s3 I3 rw' => ⟨v, H2, I3, rw', q2⟩⟩
theorem ps_dput (hu : X.A.units + 1 < cLine) (ho : PE X o td) (hi : PE X i ty) (hv : PE X value tv) (hs : swapsWith value (some (.Subscript o i pos')) pos.line X.env = pure false) :
  PS X (.Assign [.Subscript o i pos'] value pos) (sDPut td ty tv) := by
 intro pins s σ H D I h
 refine wpAny_Assign_Subscript (thn (hv pins s σ H _ I h) fun r s1 ⟨v, H1, I1, rv, q1⟩ => thn (ho pins s1 σ H1 _ I1 q1) fun u s2 ⟨x, H2, I2, rx, q2⟩ => thn (hi pins s2 σ H2 _ I2 q2) fun iv s3 ⟨y, H3, I3, ry, a, H4, ex, g, q3⟩ => ?_) hs
 subst ex
 obtain rfl : u = Value.ref a := rx
 exact d_setItem hu I3 g ry rv fun s4 I4 => ⟨σ, H4, I4, q3⟩
end
theorem dk_empty {P : Program} {w : World} {H : Hp} (h : Heap) (hb : sysModules < h.objs.size) : ObjOk P w H (h.push { cls := .type "dict", data := .dict #[] }) h.objs.size (.dK []) :=
 ⟨Nat.zero_le _, beq_eq_false_iff_ne.mpr (Ne.symm (Nat.ne_of_lt hb)), [], .nil, Heap.DictOf.new h⟩
def tDNewK : TE := fun _ H Q => ∀ p, H p = none → Q (.ref p) (upd H p (.dK []))
section
variable {X : Cx} {pos : Pos}
theorem pe_dnewK : PE X (.Dict [] [] pos) tDNewK := fun pins s σ H Q I h =>
 wpAny_Dict_empty ⟨.ref s.heap.objs.size, _, I.laid (a := s.heap.objs.size) (o := .dK []) (t' := s.toks) (fun _ _ q => Heap.get?_push_of_some _ q) (Nat.le_refl _) (dk_empty s.heap I.big), rfl, h _ (I.hok.fresh (Nat.le_refl _))⟩
end
end L2
namespace L2
open PySem PySem.Spec PyProof.Rows
section
variable {X : Cx}
end
end L2
namespace M
open PySem PySem.Spec L2
open PySem.W (Frag)
section
variable {X : Cx} {fr st : Bool} {os os' ol : List Nat} {a : Expr} {ta : TE} {ca : Ev → Option (List D)} {p p' pos pos' : Pos} {k : Nat}
end
end M
namespace L2
open PySem PySem.Spec PyProof.Rows
section
variable {X : Cx} {pins : List (Addr × Obj)} {σ : St} {H : Hp} {s : Shared} {a : Addr}
end
end L2
namespace M
open PySem PySem.Spec L2
open PySem.W (Frag)
theorem Md.forget {K : Frag} {H₀ H : Hp} {B₀ : Addr → Prop} {os : List Nat} {σ : St} {ρ : Ev} (m : Md K H₀ B₀ os σ H ρ) {i : Nat} {v : Option V} (hi : i ∉ os) : Md K H₀ B₀ os (σ.set i v) H (ρ.set i none) := by
 have hb : Bl B₀ os (σ.set i v) = Bl B₀ os σ := bl_eq fun j hj => zt fun z => hi (z ▸ hj)
 refine ⟨m.grow, m.blk, by rw [List.length_set, List.length_set]; exact m.len, fun j d q n => ?_, fun j hj => ?_, fun j k a h1 h2 => ?_⟩
 ·have hj : j ≠ i := fun z => by
   subst z
   have := get_set_eq q
   cases this
  rw [zt hj] at q
  obtain ⟨w', q1, q2⟩ := m.sh j d q n
  exact ⟨w', by rw [zt hj]; exact q1, by rw [hb]; exact q2⟩
 ·have hne : j ≠ i := fun z => hi (z ▸ hj)
  obtain ⟨a, o, d, q1, q2, q3, q4, q5⟩ := m.own j hj
  exact ⟨a, o, d, by rw [zt hne]; exact q1, by rw [zt hne]; exact q2, q3, q4, by rw [hb]; exact q5⟩
 ·rw [zt (show j ≠ i from fun z => hi (z ▸ h1)), zt (show k ≠ i from fun z => hi (z ▸ h2))]
  exact m.sep j k a h1 h2
section
variable {X : Cx} {fr : Bool} {i : Nat} {os' ol : List Nat} {rest : List Stmt} {t : TS} {m : Ev → Option Out} {pos : Pos}
end
end M
namespace L2
open PySem PySem.Spec PyProof.Rows
theorem argsMaxD (a d : Value) : argsOk "max" { pos := [a], kw := [(Str.ofString "default", d)] } := by rfl
theorem sz2 : (2 : Nat) ≤ sizeLine := by decide
theorem sz3 : (2 : Nat) ≤ sizeLine + 1 := by decide
theorem quiet_maxLoop (args : Args) : (Code.builtin "max.loop" args).quiet = true := Code.quiet_builtin _ (by have h := F.plain_max_loop; unfold plainId at h; simp only [Bool.and_eq_true, Bool.not_eq_true'] at h; exact h.1.1)
section
variable {prog : Program} {w : World} {A : Around} {R : Result → Shared → Prop} {I : Addr} {fp wr : List Addr} {n : Nat} {P : Nat → Value → Prop} {St : Nat → Heap → Prop}
theorem maxLoop_goD (W : Walks prog w A.in1 I fp wr n P St) (bt : Nat → Nat → Bool) (C : CmpOf prog w A.in1 CmpOp.Gt P bt) (S : Addr) (hS : S ∉ fp) (d : Value) :
  ∀ (k j : Nat) (s : Shared) (vb : Value) (c : Nat), n - (j + 1) = k → j + 1 ≤ n → St (j + 1) s.heap → P (argBest bt j) vb → s.heap.get? S = some { cls := Value.type "list", data := Data.seq #[vb, vb] c } →
   (∀ (v : Value) (h' : Heap) (tk : Nat), P (argBest bt (n - 1)) v → (∀ (b : Addr) (o : Obj), b ∉ wr → b ≠ S → s.heap.get? b = some o → h'.get? b = some o) → R (.ok (.ret v)) { s with heap := h', toks := tk }) →
   codeAny (model prog w) A (Code.builtin "max.loop" { pos := [.ref I, .none, .ref S], kw := [(Str.ofString "default", d)] }) R s := by
 intro k
 induction k with
 | zero =>
  intro j s vb c hk hj hst hP hs hR
  refine codeAny_builtin F.entry_max_loop ?_
  refine wpAny_bind (wpAny_seqItems hs rfl ?_)
  dsimp only
  refine wpAny_bind (wpAny_tryCatch ?_)
  have e : j + 1 = n := by omega
  rw [e] at hst
  refine W.done _ _ _ hst fun h' tk hk' => ?_
  have hs' : h'.get? S = some { cls := Value.type "list", data := Data.seq #[vb, vb] c } := hk' _ _ (fun z => hS (W.sub _ z)) hs
  dsimp only
  refine wpAny_bind (wpAny_updateSeq (s := { s with heap := h', toks := tk }) hs' rfl ?_ sz2 (by decide))
  refine wpAny_bind (wpAny_letGo ?_)
  refine wpAny_pure ?_
  refine hR vb _ _ (by rw [← e]; simpa using hP) fun b o h1 h2 h3 => ?_
  rw [Heap.get?_update_ne _ _ _ _ h2]
  exact hk' b o h1 h3
 | succ k ih =>
  intro j s vb c hk hj hst hP hs hR
  refine codeAny_builtin F.entry_max_loop ?_
  refine wpAny_bind (wpAny_seqItems hs rfl ?_)
  dsimp only
  refine wpAny_bind (wpAny_tryCatch ?_)
  refine W.item (j + 1) _ _ _ (by omega) hst fun v h' tk hv hst' hk' => ?_
  have hs' : h'.get? S = some { cls := Value.type "list", data := Data.seq #[vb, vb] c } := hk' _ _ (fun z => hS (W.sub _ z)) hs
  dsimp only
  refine wpAny_bind (wpAny_pure ?_)
  refine wpAny_bind (wpAny_tryCatch (wpAny_holding (wpAny_bind (C _ _ _ _ _ _ _ hv hP ?_))))
  refine wpAny_bind (wpAny_holding (wpAny_truthy_bool ?_))
  refine wpAny_bind (wpAny_letGo (wpAny_pure ?_))
  by_cases hb : bt (j + 1) (argBest bt j) = true
  ·rw [if_pos hb]
   refine wpAny_bind (wpAny_updateSeq (s := { s with heap := h', toks := tk }) hs' rfl ?_ sz2 sz3)
   refine wpAny_bind (wpAny_letGo ?_)
   refine wpAny_pure ⟨quiet_maxLoop _, ?_⟩
   have hs2 : (h'.update S (Obj.mapSeq fun _ => #[v, v])).get? S = some { cls := Value.type "list", data := Data.seq #[v, v] c } := Heap.get?_update_self _ hs' rfl
   have fr : ∀ b o, b ≠ S → h'.get? b = some o → (h'.update S (Obj.mapSeq fun _ => #[v, v])).get? b = some o := fun b o hb q => by rw [Heap.get?_update_ne _ _ _ _ hb]; exact q
   refine ih (j + 1) _ v c (by omega) (by omega) (W.frame _ _ _ hst' fun b hb o q => fr b o (fun z => hS (z ▸ hb)) q) ?_ hs2 fun v' h2 tk2 hv' hk2 => ?_
   ·simp only [argBest, hb, if_true]; exact hv
   ·exact hR v' h2 tk2 hv' fun b o h1 h2' h3 => hk2 b o h1 h2' (fr b o h2' (hk' b o h1 h3))
  ·rw [if_neg hb]
   refine wpAny_bind (wpAny_letGo ?_)
   refine wpAny_pure ⟨quiet_maxLoop _, ?_⟩
   refine ih (j + 1) _ vb c (by omega) (by omega) hst' ?_ hs' fun v' h2 tk2 hv' hk2 => ?_
   ·simp only [argBest, hb, if_false]; exact hP
   ·exact hR v' h2 tk2 hv' fun b o h1 h2' h3 => hk2 b o h1 h2' (hk' b o h1 h3)
theorem maxLoop_firstD (W : Walks prog w A.in1 I fp wr n P St) (bt : Nat → Nat → Bool) (C : CmpOf prog w A.in1 CmpOp.Gt P bt) (S : Addr) (hS : S ∉ fp) (d : Value) {s : Shared} {c : Nat} (hst : St 0 s.heap)
  (hs : s.heap.get? S = some { cls := Value.type "list", data := Data.seq #[] c })
  (hR : ∀ (v : Value) (h' : Heap) (tk : Nat), (n = 0 → v = d) → (0 < n → P (argBest bt (n - 1)) v) → (∀ (b : Addr) (o : Obj), b ∉ wr → b ≠ S → s.heap.get? b = some o → h'.get? b = some o) → R (.ok (.ret v)) { s with heap := h', toks := tk }) :
  codeAny (model prog w) A (Code.builtin "max.loop" { pos := [.ref I, .none, .ref S], kw := [(Str.ofString "default", d)] }) R s := by
 refine codeAny_builtin F.entry_max_loop ?_
 refine wpAny_bind (wpAny_seqItems hs rfl ?_)
 dsimp only
 refine wpAny_bind (wpAny_tryCatch ?_)
 rcases Nat.eq_zero_or_pos n with h0 | h0
 ·subst h0
  refine W.done _ _ _ hst fun h' tk hk' => ?_
  dsimp only
  refine wpAny_bind (wpAny_rule ?_)
  refine wpAny_pure ?_
  exact hR d h' tk (fun _ => rfl) (fun z => absurd z (by omega)) fun b o h1 _ h3 => hk' b o h1 h3
 ·refine W.item 0 _ _ _ h0 hst fun v h' tk hv hst' hk' => ?_
  have hs' : h'.get? S = some { cls := Value.type "list", data := Data.seq #[] c } := hk' _ _ (fun z => hS (W.sub _ z)) hs
  dsimp only
  refine wpAny_bind (wpAny_pure ?_)
  refine wpAny_bind (wpAny_updateSeq (s := { s with heap := h', toks := tk }) hs' rfl ?_ (by decide) sz3)
  refine wpAny_pure ⟨quiet_maxLoop _, ?_⟩
  obtain ⟨c2, hs2⟩ : ∃ c2, (h'.update S (Obj.mapSeq fun _ => #[v, v])).get? S = some { cls := Value.type "list", data := Data.seq #[v, v] c2 } := ⟨_, Heap.get?_update_self _ hs' rfl⟩
  have fr : ∀ b o, b ≠ S → h'.get? b = some o → (h'.update S (Obj.mapSeq fun _ => #[v, v])).get? b = some o := fun b o hb q => by rw [Heap.get?_update_ne _ _ _ _ hb]; exact q
  refine maxLoop_goD W bt C S hS d (n - 1) 0 _ v c2 (by omega) (by omega) (W.frame _ _ _ hst' fun b hb o q => fr b o (fun z => hS (z ▸ hb)) q) (by simpa [argBest] using hv) hs2 fun v' h2 tk2 hv' hk2 => ?_
  exact hR v' h2 tk2 (fun z => absurd h0 (by omega)) (fun _ => hv') fun b o h1 h2' h3 => hk2 b o h1 h2' (fr b o h2' (hk' b o h1 h3))
theorem call_max_walkD {E : Value → Shared → Prop} {s : Shared} {x d : Value} {Q : Value → Shared → Prop}
  (h : wpAny (model prog w) A.in1 (pyIter x) (fun it s₂ => ∃ (I : Addr) (fp wr : List Addr) (n : Nat) (P : Nat → Value → Prop) (St : Nat → Heap → Prop) (bt : Nat → Nat → Bool), it = .ref I ∧ Walks prog w A.in1 I fp wr n P St ∧ St 0 s₂.heap ∧ (∀ b ∈ fp, b < s₂.heap.objs.size) ∧ CmpOf prog w A.in1 CmpOp.Gt P bt ∧
   ∀ (v : Value) (h' : Heap) (tk : Nat), (n = 0 → v = d) → (0 < n → P (argBest bt (n - 1)) v) → (∀ (b : Addr) (o : Obj), b ∉ wr → s₂.heap.get? b = some o → h'.get? b = some o) → Q v { s₂ with heap := h', toks := tk }) E s) :
  wpAny (model prog w) A (call (.builtin "max") [x] [(Str.ofString "default", d)]) Q E s := by
 refine kmk_tree F.kind_max F.plain_max F.entry_max (argsMaxD x d) ?_
 refine wpAny_bind ?_
 have eb : Builtin.Builtins.bindParams "max" ["key", "default"] 0 { kw := [(Str.ofString "default", d)] } = pure [none, some d] := by rfl
 rw [show ({ pos := [x], kw := [(Str.ofString "default", d)] } : Args).kw = [(Str.ofString "default", d)] from rfl, eb]
 refine wpAny_pure ?_
 dsimp only
 refine wpAny_bind (wpAny_pure ?_)
 refine wpAny_bind (thn h fun it s₂ ⟨I, fp, wr, n, P, St, bt, e, W, st, hfp, C, k⟩ => ?_)
 subst e
 refine wpAny_bind (wpAny_newList ?_ (by decide))
 refine wpAny_pure ⟨quiet_maxLoop _, ?_⟩
 have hb : ∀ b o, s₂.heap.get? b = some o → (s₂.heap.push { cls := .type "list", data := .seq #[] }).get? b = some o := fun b o q => Heap.get?_push_of_some _ q
 refine maxLoop_firstD W bt C s₂.heap.objs.size (fun z => Nat.lt_irrefl _ (hfp _ z)) d (s := { s₂ with heap := s₂.heap.push { cls := .type "list", data := .seq #[] } }) (W.frame _ _ _ st fun b _ o q => hb b o q) (Heap.get?_push_size _ rfl) fun v h' tk h1 h2 hk => ?_
 exact k v h' tk h1 h2 fun b o hw q => hk b o hw (Nat.ne_of_lt (Heap.lt_size q)) (hb b o q)
end
theorem made_reversed : Bind.madeBy (Value.type "reversed") = pure (some "reversed.__new__") := by kernel_rfl
theorem check_reversed (l : Addr) : checkBuiltinCall "reversed.__new__" { pos := [Value.type "reversed", Value.ref l] } = pure () := by kernel_rfl
theorem ri_sub : isSubtype (Value.type "range_iterator") (Value.type "reversed") = pure false := by kernel_rfl
theorem rev_small {n : Int} (h0 : 0 ≤ n) (h : n < 2 ^ 62) : (Builtin.Range.rangeFitsLong 0 && Builtin.Range.rangeFitsLong n && Builtin.Range.rangeFitsLong 1 && Builtin.Range.rangeFitsLong (-1) && Builtin.Range.rangeFitsLong (0 - 1) && Builtin.Range.rangeFitsLong (Builtin.Range.rangeSize 0 n 1)) = true := by
 have e : Builtin.Range.rangeSize 0 n 1 = n := by
  unfold Builtin.Range.rangeSize
  simp
  omega
 rw [e]
 unfold Builtin.Range.rangeFitsLong
 simp
 omega
theorem code_reversed_range {prog : Program} {w : World} {A : Around} {E : Value → Shared → Prop} {s : Shared} {r : Addr} {n : Int} {t u v : Tok} {Q₁ : Value → Shared → Prop} (hr : IsRange s.heap r 0 n 1 t u v) (h0 : 0 ≤ n) (hn : n < 2 ^ 62)
  (h : Q₁ (.ref s.heap.objs.size) { s with heap := s.heap.push { cls := Value.type "range_iterator", data := Data.fields #[rawInt (n - 1), rawInt n, rawInt (-1)] } }) :
  codeAny (model prog w) A (Code.call (Value.builtin "reversed.__new__") { pos := [Value.type "reversed", Value.ref r] }) (wants Q₁ E) s := by
 refine codeAny_call_builtin F.plain_reversed_new F.entry_reversed_new ?_
 rw [check_reversed]
 refine wpAny_pure ?_
 unfold Builtin.«reversed.__new__»
 rw [newClass_reversed]
 refine wpAny_bind (wpAny_pure ?_)
 dsimp only
 unfold Builtin.SmallTypes.refuseKeywords
 rw [if_pos (by rfl)]
 refine wpAny_bind (wpAny_pure ?_)
 refine wpAny_bind ?_
 rw [show checkCount "reversed" 1 1 [Value.ref r].length = pure () by rfl]
 refine wpAny_pure ?_
 have T : s.TypeIs (.ref r) "range" := ⟨_, hr, rfl⟩
 refine wpAny_bind (wpAny_specialOf T F.slot_range_reversed.lookup ?_)
 dsimp only
 rw [F.slot_range_reversed.bind]
 refine wpAny_bind (wpAny_pure ?_)
 dsimp only
 rw [if_neg (by decide)]
 refine wpAny_bind (wpAny_rule ?_)
 refine wpAny_bind (wpAny_runValue ?_)
 refine codeAny_call_builtin F.slot_range_reversed.plain F.entry_range_reversed ?_
 refine F.slot_range_reversed.check _ _ _ _ _ _ _ _ T (F.args_range_reversed_1 _) ?_
 unfold Builtin.«range.__reversed__»
 rw [show selfOnly "range.__reversed__" { pos := [Value.ref r] } = pure (Value.ref r) by rfl]
 refine wpAny_bind (wpAny_pure ?_)
 unfold Builtin.Range.rangeFields
 refine wpAny_bind (wpAny_bind (wpAny_field hr rfl (i := 0) (x := .int 0 t) rfl ?_))
 refine wpAny_bind (wpAny_pure ?_)
 refine wpAny_bind (wpAny_field hr rfl (i := 1) (x := .int n u) rfl ?_)
 refine wpAny_bind (wpAny_pure ?_)
 refine wpAny_bind (wpAny_field hr rfl (i := 2) (x := .int 1 v) rfl ?_)
 refine wpAny_bind (wpAny_pure ?_)
 refine wpAny_pure ?_
 dsimp only
 rw [rev_small h0 hn]
 rw [if_neg (by decide)]
 rw [if_pos rfl]
 have e : Builtin.Range.rangeSize 0 n 1 = n := by
  unfold Builtin.Range.rangeSize
  simp
  omega
 rw [e, newFields.eq_1]
 refine wpAny_bind (wpAny_newObj_type ?_)
 refine wpAny_pure ?_
 refine wpAny_pure ?_
 have e2 : (0 : Int) + (n - 1) * 1 = n - 1 := by omega
 rw [e2]
 exact h
section
variable {X : Cx} {tg : Expr}
def iRevRng (ta : TA) : TI := fun σ H R => ta σ H fun vs H1 => ∃ n : Int, vs = [.int n] ∧ (0 ≤ n ∧ n < 2 ^ 62) ∧ R (ItrD (n - 1) n.toNat) H1
theorem pi_revRange {a : Expr} {ta : TA} {p pos p2 pos2 : Pos} (hg : Gl X "range") (hm : X.mg "range" = none) (hg2 : Gl X "reversed") (hm2 : X.mg "reversed" = none) (ha : PA X [a] ta) (hs : starEach [a] X.env = [(false, eval a X.env)] := by rfl)
  (h2 : starEach [.Call (.Name "range" p) [a] [] pos] X.env = (false, eval (.Call (.Name "range" p) [a] [] pos) X.env) :: starEach [] X.env := by rfl)
  (hpl2 : (backTo pos2 (starEach [] X.env)).any (·.1) = false := by rfl) :
  PI X tg (.Call (.Name "reversed" p2) [.Call (.Name "range" p) [a] [] pos] [] pos2) (iRevRng ta) := by
 intro pins s σ H R I h
 refine wpAny_Call_Name_kw (ld_blt I hg2 hm2 boot_reversed ?_)
 refine PyProof.Rows.callWith_type1 ?_ h2 hpl2
 rw [h2]
 show wpAny _ _ (spliced ((false, eval (.Call (.Name "range" p) [a] [] pos) X.env) :: backTo pos2 (starEach [] X.env))) _ _ s
 refine Calls.spliced_cons ?_
 refine Call_ (ld_blt I hg hm boot_range (PyProof.Rows.callWith_type1 (thn (ha pos pins s σ H _ I h) fun us s1 ⟨vs, H1, I1, r1, q1⟩ => ?_) hs rfl))
 obtain ⟨n, e, ⟨q1, q2⟩, q⟩ := q1
 subst e
 cases r1 with
 | cons r rr =>
  cases rr
  obtain ⟨t, rfl⟩ := r
  refine call_range_1 ?_
  refine Calls.spliced_nil ?_
  have hr : IsRange (s1.heap.push { cls := Value.type "range", data := Data.fields #[Value.int 0 s1.toks, Value.int n t, Value.int 1 (s1.toks + 1)] }) s1.heap.objs.size 0 n 1 s1.toks t (s1.toks + 1) := IsRange.new ..
  have I2 : ∀ (ob : Obj) (tk : Nat), Inv X pins σ H1 { s1 with heap := s1.heap.push ob, toks := tk } := fun ob tk => I1.kept fun b o e => Heap.get?_push_of_some _ e
  generalize hob : ({ cls := Value.type "range", data := Data.fields #[Value.int 0 s1.toks, Value.int n t, Value.int 1 (s1.toks + 1)] } : Obj) = ob at *
  have J := I2 ob (s1.toks + 1 + 1)
  refine callType_other (U := "range_iterator") (by decide) F.create_reversed ⟨_, _, rfl⟩ made_reversed ri_sub (F.typeCall_reversed_1 _) (code_reversed_range (s := { s1 with heap := s1.heap.push ob, toks := s1.toks + 1 + 1 }) hr q1 q2 (Q₁ := fun obj s2 => obj = .ref (s1.heap.push ob).objs.size ∧ s2 = { s1 with heap := (s1.heap.push ob).push { cls := Value.type "range_iterator", data := Data.fields #[rawInt (n - 1), rawInt n, rawInt (-1)] }, toks := s1.toks + 1 + 1 }) ⟨rfl, rfl⟩) ?_
  rintro obj s2 ⟨rfl, rfl⟩
  have hit : ((s1.heap.push ob).push { cls := Value.type "range_iterator", data := Data.fields #[rawInt (n - 1), rawInt n, rawInt (-1)] }).get? (s1.heap.push ob).objs.size = some { cls := Value.type "range_iterator", data := Data.fields #[rawInt (n - 1), rawInt n, rawInt (-1)] } := Heap.get?_push_size _ rfl
  refine ⟨⟨_, hit, rfl⟩, ?_⟩
  refine wpAny_pyIter_rangeiter hit ?_
  refine ⟨_, [_], _, _, H1, rfl, J.kept (t' := _) fun b o e => Heap.get?_push_of_some _ e, turn_rangeD _ (n - 1) n.toNat, ?_, fun b hb => ?_, q⟩
  ·show IsRangeIter _ _ (n - 1 + ((0 : Nat) : Int) * (-1)) (((n.toNat : Nat) : Int) - ((0 : Nat) : Int)) (-1)
   rw [show n - 1 + ((0 : Nat) : Int) * (-1) = n - 1 by simp, show ((n.toNat : Nat) : Int) - ((0 : Nat) : Int) = n by omega]
   exact hit
  ·have e := List.mem_singleton.mp hb
   subst e
   exact J.fpOk (Nat.le_refl _) (J.hok.fresh (Nat.le_refl _))
def tMaxD (k : Bool) (K : PySem.W.Frag) (d : Int) (te : TE) : TE := fun σ H Q => te σ H fun x H1 => ∃ (q : Addr) (ns : List Int), x = .ref q ∧ Sq k K H1 q (ns.map V.int) ∧ Q (.int (if ns = [] then d else maxI ns)) H1
theorem pe_maxD {e : Expr} {te : TE} {p pos cp kp : Pos} {d : Int} {j : Nat} (k : Bool) (hc : X.calm = true) (hg : Gl X "max") (hm : X.mg "max" = none) (he : PE X e te) (h1 : starEach [e] X.env = (false, eval e X.env) :: starEach [] X.env := by rfl)
  (hk : (backToKw pos (keywordEach [⟨some "default", .Constant (.int d) j cp, kp⟩] X.env)) = [(some ("default" : Str), do let v ← eval (.Constant (.int d) j cp) X.env; standAt pos; pure v)] := by rfl) :
  PE X (.Call (.Name "max" p) [e] [⟨some "default", .Constant (.int d) j cp, kp⟩] pos) (tMaxD k X.K d te) := by
 intro pins s σ H Q I h
 refine wpAny_Call_Name_kw (ld_blt I hg hm boot_max ?_)
 refine callWith_kw (thn ((zT he Zv h1) pos pins s σ H (fun vs H1 => match vs with
  | [x] => ∃ (q : Addr) (ns : List Int), x = .ref q ∧ Sq k X.K H1 q (ns.map V.int) ∧ Q (.int (if ns = [] then d else maxI ns)) H1
  | _ => False) I h) fun us s1 ⟨vs, H1, I1, r, q⟩ => ?_) (by rw [h1]; rfl) (by rw [h1]; rfl) (by rw [hk]; rfl) (by rw [hk]; rfl)
 match vs, q with
 | [_], q =>
  obtain ⟨fa, ns, rfl, hq, q⟩ := q
  obtain ⟨u, rfl, ru⟩ := r.one
  cases ru
  rw [hk]
  refine wpAny_evalAll_cons (wpAny_bind (thn (pe_int (X := X) (i := d) (j := j) pins s1 σ H1 (fun v H' => v = .int d ∧ H' = H1) I1 ⟨rfl, rfl⟩) fun du s2 ⟨x, H2, I2, rx, ex, eH⟩ => ?_))
  subst ex; subst eH
  obtain ⟨t, rfl⟩ := rx
  refine wpAny_bind (wpAny_standAt (wpAny_pure ?_))
  refine wpAny_evalAll_nil ?_
  refine call_max_walkD (iter_seq hc I2 hq fun its s₂ fp wr S rv W st hfp fin => ?_)
  have hl : its.toArray.size = ns.length := by have := rv.length; simpa using this.symm
  refine ⟨_, fp, wr, _, _, S, _, rfl, W, st, hfp, CmpOf.ints_gt (fun i => ns.getD i 0) (fun i v hv => vals_int rv hv), fun v h' tk h0 hv hk' => ?_⟩
  rw [hl] at h0 hv
  by_cases hn : ns = []
  ·rw [if_pos hn] at q
   have := h0 (by rw [hn]; rfl)
   subst this
   exact ⟨.int d, H2, fin h' tk hk', ⟨t, rfl⟩, q⟩
  ·rw [if_neg hn] at q
   have hpos : 0 < ns.length := by cases ns with | nil => exact absurd rfl hn | cons a r => simp
   obtain ⟨t2, rfl⟩ := vals_int rv (hv hpos)
   obtain ⟨_, e⟩ := maxI_pre ns (ns.length - 1) (by omega)
   rw [show ns.length - 1 + 1 = ns.length by omega, List.take_length] at e
   exact ⟨.int (maxI ns), H2, fin h' tk hk', ⟨t2, by rw [e]; rfl⟩, q⟩
end
end L2
namespace M
open PySem PySem.Spec L2
open PySem.W (Frag)
def lookD : List Key → List D → Key → Option D
 | k' :: ks, d :: ds, k => if k' = k then some d else lookD ks ds k
 | _, _, _ => none
def repD (k : Key) (d : D) : List Key → List D → List D
 | k' :: ks, x :: ds => (if k' = k then d else x) :: repD k d ks ds
 | _, ds => ds
def hasK (ks : List Key) (k : Key) : Bool := ks.any fun k' => decide (k' = k)
def putKs (ks : List Key) (k : Key) : List Key := if hasK ks k = true then ks else ks ++ [k]
def putDs (ks : List Key) (ds : List D) (k : Key) (d : D) : List D := if hasK ks k = true then repD k d ks ds else ds ++ [d]
def dGet : D → D → Option D
 | .dict ks ds, .int i => lookD ks ds (.inl i)
 | _, _ => none
def asDc : D → Option (List Key × List D)
 | .dict ks ds => some (ks, ds)
 | _ => none
def mDPut (im : Nat) (fk fv : Ev → Option D) : Ev → Option Out := fun ρ => (fv ρ).bind fun d => (ρ[im]?.join).bind fun x => (asDc x).bind fun kd => (fk ρ).bind fun y => (asI y).bind fun i =>
 if kd.1.length < sizeLine then some (.nx (ρ.set im (some (.dict (putKs kd.1 (.inl i)) (putDs kd.1 kd.2 (.inl i) d))))) else none
section
variable {K : Frag} {H : Hp} {B : Addr → Prop}
theorem look_v : ∀ {kvs : List (Key × V)} {ds : List D} {k : Key} {d : D}, zv K H B ds (kvs.map (·.2)) → lookD (kvs.map (·.1)) ds k = some d → ∃ v, valV kvs k = some v ∧ Rep K H B d v
 | [], ds, k, d, h, e => by cases ds <;> simp [lookD] at e
 | kv :: kvs, [], k, d, h, e => by simp [lookD] at e
 | kv :: kvs, x :: ds, k, d, h, e => by
  simp only [List.map_cons, zv] at h
  obtain ⟨v, r, e1, h1, h2⟩ := h
  cases e1
  simp only [List.map_cons, lookD] at e
  by_cases hk : kv.1 = k
  ·rw [if_pos hk] at e
   cases e
   exact ⟨kv.2, by simp [valV, hk], h1⟩
  ·rw [if_neg hk] at e
   obtain ⟨v, q1, q2⟩ := look_v h2 e
   exact ⟨v, by simpa [valV, hk] using q1, q2⟩
theorem rep_map (k : Key) (v : V) : ∀ kvs : List (Key × V), (kvs.map fun kv => if kv.1 = k then (kv.1, v) else kv).map (·.1) = kvs.map (·.1)
 | [] => rfl
 | kv :: kvs => by
  rw [List.map_cons, List.map_cons, List.map_cons, rep_map k v kvs]
  by_cases h : kv.1 = k <;> simp [h]
theorem rep_reps (k : Key) {d : D} {v : V} (hd : Rep K H B d v) : ∀ {kvs : List (Key × V)} {ds : List D}, zv K H B ds (kvs.map (·.2)) → zv K H B (repD k d (kvs.map (·.1)) ds) ((kvs.map fun kv => if kv.1 = k then (kv.1, v) else kv).map (·.2))
 | [], ds, h => by
  cases ds with
  | nil => simpa [repD] using h
  | cons x ds => simp [zv] at h
 | kv :: kvs, [], h => by simp [zv] at h
 | kv :: kvs, x :: ds, h => by
  simp only [List.map_cons, zv] at h
  obtain ⟨w, r, e1, h1, h2⟩ := h
  cases e1
  simp only [List.map_cons, repD]
  refine .cons ?_ (rep_reps k hd h2)
  by_cases hk : kv.1 = k
  ·simp only [if_pos hk]; exact hd
  ·simp only [if_neg hk]; exact h1
theorem any_mem (k : Key) (kvs : List (Key × V)) : (kvs.any fun kv => decide (kv.1 = k)) = hasK (kvs.map (·.1)) k := by
 unfold hasK
 rw [List.any_map]
 rfl
theorem put_own {kvs : List (Key × V)} {ds : List D} {k : Key} {d : D} {v : V} (hd : Rep K H B d v) (h : zv K H B ds (kvs.map (·.2))) : Own K H B (.dK (putK kvs k v)) (.dict (putKs (kvs.map (·.1)) k) (putDs (kvs.map (·.1)) ds k d)) := by
 simp only [Own]
 unfold putK putKs putDs
 rw [any_mem]
 by_cases hk : hasK (kvs.map (·.1)) k = true
 ·rw [if_pos hk, if_pos hk, if_pos hk]
  exact ⟨rep_map k v kvs, rep_reps k hd h⟩
 ·rw [if_neg hk, if_neg hk, if_neg hk]
  rw [List.map_append, List.map_append]
  exact ⟨rfl, h.append (.one hd)⟩
end
section
variable {X : Cx} {fr st s : Bool} {os os' ol : List Nat} {o a i e tg : Expr} {td ta ti te : TE} {fo fa fi f : Ev → Option D} {ca : Ev → Option (List D)} {p p' pos pos' : Pos} {k : Nat}
theorem sf_dnew : SF X os (.Dict [] [] pos) tDNewK (fC (.dict [] [])) := ⟨pe_dnewK, fun H₀ B₀ σ H ρ d Q m q kk => by
 cases q
 intro p hp
 exact kk p (.dK []) _ (zN hp) hp zK (by simp only [Own]; exact ⟨rfl, .nil⟩)⟩
theorem se_dget (hr : Room k X.A) (ho : SE X st os o td fo) (hi : SE X st os i ti fi) (hs : NoSl i := by intro _ _; rfl) : SE X st os (.Subscript o i pos) (tDGet td ti) (f2 dGet fo fi) := ⟨pe_dget (hu_of hr) ho.pe hi.pe hs, fun H₀ B₀ σ H ρ d Q m q kk => by
 obtain ⟨x, h1, h2⟩ := zh q
 obtain ⟨y, h3, h4⟩ := zh h2
 refine ho.ok H₀ B₀ σ H ρ x _ m h1 fun v H1 s1 r1 => ?_
 refine hi.ok H₀ B₀ σ H1 ρ y _ (m.up s1) h3 fun u H2 s2 r2 => ?_
 cases x <;> cases y <;> simp only [dGet] at h4 <;> try (cases h4)
 have r1' := r1.up s2
 simp only [Rep] at r1' r2
 obtain ⟨b, kvs, rfl, ⟨hb, _⟩, rfl, hr⟩ := r1'
 subst r2
 obtain ⟨w', g1, g2⟩ := look_v hr h4
 exact ⟨b, w', rfl, by rw [← g1]; exact DGet.k (k := .inl _) hb, kk w' H2 (s1.trans s2) g2⟩⟩
theorem ss_dput (im : Nat) {y : Str} {pv1 : Pos} (hr : Room k X.A) (hi : SE X false os i ti fi) (hv : SE X true os e te f) (ho : im ∈ os := by decide) (hN : X.N[im]? = some y := by rfl) (hvis : Vis X.env.scope y := by first | exact Or.inl rfl | exact Or.inr (Or.inl rfl) | exact Or.inr (Or.inr rfl)) (hd : (y == ("__debug__" : Str)) = false := by decide)
  (hcd : (y == ("__classdict__" : Str)) = false := by decide) (hs : swapsWith e (some (.Subscript (.Name y pv1) i pos')) pos.line X.env = pure false := by rfl) :
  SS X fr os os ol (.Assign [.Subscript (.Name y pv1) i pos'] e pos) (sDPut (tVar im) ti te) (mDPut im fi f) :=
 ⟨ps_dput (hu_of hr) (pv im hN hvis hd hcd) hi.pe hv.pe hs, fun H₀ B₀ σ H ρ o E m q kk => by
 obtain ⟨d, q1, q2⟩ := zh q
 obtain ⟨x, q3, q4⟩ := zh q2
 obtain ⟨kd, q5, q6⟩ := zh q4
 obtain ⟨yy, q7, q8⟩ := zh q6
 obtain ⟨n, q9, q10⟩ := zh q8
 split at q10
 case isFalse => cases q10
 rename_i hl
 cases q10
 cases x <;> simp only [asDc] at q5 <;> cases q5
 obtain ⟨a, ob, d', g1, g2, g3, g4, g5⟩ := m.own im ho
 rw [join_get q3] at g2; cases g2
 cases ob <;> simp only [Own] at g5
 rename_i kvs
 obtain ⟨rfl, g5⟩ := g5
 refine hv.ok H₀ B₀ σ H ρ d _ m q1 fun v H1 s1 r1 => ?_
 refine ⟨.ref a, g1, ?_⟩
 refine hi.ok H₀ B₀ σ H1 ρ yy _ (m.up s1) q7 fun w' H2 s2 r2 => ?_
 have e2 := asI_v r2 q9
 subst e2
 refine ⟨a, _, rfl, DPut.k (k := .inl n) (s2 _ _ (s1 _ _ g3)) (by simpa using hl), kk σ _ ?_⟩
 exact (m.up (s1.trans s2)).write ho g1 (put_own (r1.up s2) (g5.up (s1.trans s2)))⟩
def fRevRng (fa : Ev → Option D) : Ev → Option (List D) := fun ρ => (fa ρ).bind fun d => (asI d).bind fun n => if 0 ≤ n ∧ n < 2 ^ 62 then some (rangeDn (n - 1) n.toNat) else none
theorem si_revRange {p2 pos2 : Pos} (hg2 : Gl X "reversed") (hm2 : X.mg "reversed" = none) (hg : Gl X "range") (hm : X.mg "range" = none) (ha : SE X false os a ta fa) (h1 : starEach [a] X.env = (false, eval a X.env) :: starEach [] X.env := by rfl) (hs : starEach [a] X.env = [(false, eval a X.env)] := by rfl)
  (h2 : starEach [.Call (.Name "range" p) [a] [] pos] X.env = (false, eval (.Call (.Name "range" p) [a] [] pos) X.env) :: starEach [] X.env := by rfl) (hpl2 : (backTo pos2 (starEach [] X.env)).any (·.1) = false := by rfl) :
  SI X s os tg (.Call (.Name "reversed" p2) [.Call (.Name "range" p) [a] [] pos] [] pos2) (iRevRng (Zi ta tNil)) (fRevRng fa) := ⟨pi_revRange hg hm hg2 hm2 (zT ha.pe Zv h1) hs h2 hpl2, fun H₀ B₀ σ H ρ ds R m q kk => by
 obtain ⟨x, e1, e2⟩ := zh q
 obtain ⟨n, e3, e4⟩ := zh e2
 split at e4
 ·cases e4
  rename_i hb
  refine ha.ok H₀ B₀ σ H ρ x _ m e1 fun v H1 s1 r => ?_
  have := asI_v r e3
  subst this
  exact ⟨n, rfl, hb, kk _ H1 _ s1 (iw_rangeD (n - 1) _) (fun _ _ _ _ _ _ _ _ _ => trivial) (fun _ _ _ _ _ _ _ => trivial) trivial⟩
 ·cases e4⟩
def gMaxD (d : Int) (ds : List D) : Option D := (intsD ds).map fun ns => .int (if ns = [] then d else maxI ns)
theorem se_maxD {kk : Bool} {cp kp : Pos} {d : Int} {j : Nat} (hc : X.calm = true) (hg : Gl X "max") (hm : X.mg "max" = none) (ha : SC X kk os a ta ca) (h1 : starEach [a] X.env = (false, eval a X.env) :: starEach [] X.env := by rfl)
  (hk : (backToKw pos (keywordEach [⟨some "default", .Constant (.int d) j cp, kp⟩] X.env)) = [(some ("default" : Str), do let v ← eval (.Constant (.int d) j cp) X.env; standAt pos; pure v)] := by rfl) {K' : Frag} (hK : X.K = K' := by rfl) :
  SE X st os (.Call (.Name "max" p) [a] [⟨some "default", .Constant (.int d) j cp, kp⟩] pos) (tMaxD kk K' d ta) (fA (gMaxD d) ca) := by
 subst hK
 exact ⟨pe_maxD kk hc hg hm ha.pe h1 hk, fun H₀ B₀ σ H ρ x Q m q k => by
  obtain ⟨ds, e1, e2⟩ := zh q
  obtain ⟨ns, e3, rfl⟩ := map_some e2
  refine ha.ok H₀ B₀ σ H ρ ds _ m e1 fun b xs H1 s1 hq r => ?_
  rw [of_intsD e3] at r
  rw [r.ints'] at hq
  exact ⟨b, ns, rfl, hq, k _ H1 s1 rep_int⟩⟩
end
theorem _root_.L2.FnOk.no {P : Program} {w : World} {K : Frag} {mg : Str → Option Value} {base : Heap} {k : Nat} {f : Addr} {fd : FuncData} {ps : List Str} : FnOk P w K mg base CX0 k f fd ps (spM K fun _ => none) :=
 ⟨fun _ _ _ _ ⟨_, _, _, _, _, e, _⟩ => (nomatch e), fun _ _ _ _ _ _ _ _ _ _ _ _ _ ⟨_, _, _, _, _, e, _⟩ => (nomatch e)⟩
section
variable {X : Cx} {os os' ol : List Nat} {pos p p1 p2 p3 : Pos} {x : Str} {j q : Nat}
theorem ss_retRow1 (h1 : starEach [.Constant (.str x) j p1, .List [] p2] X.env = (false, eval (.Constant (.str x) j p1) X.env) :: starEach [.List [] p2] X.env := by rfl) (h2 : starEach [.List [] p2] X.env = (false, eval (.List [] p2) X.env) :: starEach [] X.env := by rfl) :
  SS X true os os' ol (.Return (some (.Tuple [.Constant (.str x) j p1, .List [] p2] q p)) pos) (tRet (tTup (Zi (tC (.str x)) (Zi (tLst tNil) tNil)))) (Zb (zR (zc (fC (.str x)) (zc (Zf zl) zl)))) :=
 ⟨ps_ret (pe_tup (zT pe_str (zT (pe_lst Zv) Zv h2) h1)), fun H₀ B₀ σ H ρ o E mm qq k => by
 obtain ⟨d, e1, rfl⟩ := map_some qq
 have e2 : zR (zc (fC (.str x)) (zc (Zf zl) zl)) ρ = some (.tup [.str x, .lst []]) := by
  show (some [D.str x, D.lst []]).bind dTup = _
  rw [oB, dTup, if_pos (by show 2 ≤ sizeLine; decide)]
 rw [e2] at e1; cases e1
 refine ⟨by show 0 ≤ sizeLine; decide, fun a ha => ⟨by show 2 ≤ sizeLine; decide, fun b hb => ?_⟩⟩
 have s1 : Zx H (upd H a (.lst [])) := zN ha
 have s2 : Zx (upd H a (.lst [])) (upd (upd H a (.lst [])) b (.tup [.str x, .ref a])) := zN hb
 refine k _ _ ((mm.up (s1.trans s2)).grow) (mm.up (s1.trans s2)).blk (.inr (.inr ⟨b, x, [a], rfl, rfl, by simp, fun c hc => ?_, zK⟩))
 rw [List.mem_singleton.mp hc]
 exact ⟨mm.grow.free ha, s2 _ _ zK⟩⟩
theorem ss_retRow2 (h1 : starEach [.Constant (.str x) j p1, .List [] p2, .List [] p3] X.env = (false, eval (.Constant (.str x) j p1) X.env) :: starEach [.List [] p2, .List [] p3] X.env := by rfl) (h2 : starEach [.List [] p2, .List [] p3] X.env = (false, eval (.List [] p2) X.env) :: starEach [.List [] p3] X.env := by rfl)
  (h3 : starEach [.List [] p3] X.env = (false, eval (.List [] p3) X.env) :: starEach [] X.env := by rfl) :
  SS X true os os' ol (.Return (some (.Tuple [.Constant (.str x) j p1, .List [] p2, .List [] p3] q p)) pos) (tRet (tTup (Zi (tC (.str x)) (Zi (tLst tNil) (Zi (tLst tNil) tNil))))) (Zb (zR (zc (fC (.str x)) (zc (Zf zl) (zc (Zf zl) zl))))) :=
 ⟨ps_ret (pe_tup (zT pe_str (zT (pe_lst Zv) (zT (pe_lst Zv) Zv h3) h2) h1)), fun H₀ B₀ σ H ρ o E mm qq k => by
 obtain ⟨d, e1, rfl⟩ := map_some qq
 have e2 : zR (zc (fC (.str x)) (zc (Zf zl) (zc (Zf zl) zl))) ρ = some (.tup [.str x, .lst [], .lst []]) := by
  show (some [D.str x, D.lst [], D.lst []]).bind dTup = _
  rw [oB, dTup, if_pos (by show 3 ≤ sizeLine; decide)]
 rw [e2] at e1; cases e1
 refine ⟨by show 0 ≤ sizeLine; decide, fun a ha => ⟨by show 0 ≤ sizeLine; decide, fun a2 ha2 => ⟨by show 3 ≤ sizeLine; decide, fun b hb => ?_⟩⟩⟩
 have s1 : Zx H (upd H a (.lst [])) := zN ha
 have s2 : Zx (upd H a (.lst [])) (upd (upd H a (.lst [])) a2 (.lst [])) := zN ha2
 have s3 : Zx (upd (upd H a (.lst [])) a2 (.lst [])) (upd (upd (upd H a (.lst [])) a2 (.lst [])) b (.tup [.str x, .ref a, .ref a2])) := zN hb
 have ne : a ≠ a2 := fun z => by rw [← z, zK] at ha2; cases ha2
 refine k _ _ ((mm.up ((s1.trans s2).trans s3)).grow) (mm.up ((s1.trans s2).trans s3)).blk (.inr (.inr ⟨b, x, [a, a2], rfl, rfl, by simp [ne], fun c hc => ?_, zK⟩))
 rcases List.mem_cons.mp hc with rfl | hc
 ·exact ⟨mm.grow.free ha, s3 _ _ (s2 _ _ zK)⟩
 ·rw [List.mem_singleton.mp hc]
  exact ⟨mm.grow.free (s1.free ha2), s3 _ _ zK⟩⟩
end
structure Fr where
 done : List D
 x : Str
 pre : List D
 post : List D
def shut (f : Fr) (top : List D) : List D := f.done ++ [.tup (.str f.x :: (f.pre ++ .lst top :: f.post))]
def close : List D → List Fr → List D
 | top, [] => top
 | top, f :: fs => close (shut f top) fs
def Ch (K : Frag) (H : Hp) (B : Addr → Prop) : List Fr → Addr → List Addr → Prop
 | [], _, [] => True
 | f :: fs, a, a' :: as => (∃ (vs pv qv : List V) (b : Addr), H a' = some (.lst (vs ++ [.ref b])) ∧ zv K H B f.done vs ∧ H b = some (.tup (.str f.x :: (pv ++ .ref a :: qv))) ∧ zv K H B f.pre pv ∧ zv K H B f.post qv) ∧ Ch K H B fs a' as
 | _, _, _ => False
theorem Ch.len {K : Frag} {H : Hp} {B : Addr → Prop} : ∀ {fs : List Fr} {a : Addr} {as : List Addr}, Ch K H B fs a as → fs.length = as.length
 | [], _, [], _ => rfl
 | f :: fs, a, a' :: as, h => by simp only [List.length_cons]; rw [Ch.len h.2]
 | [], _, _ :: _, h => by cases h
 | _ :: _, _, [], h => by cases h
theorem Ch.mv {K : Frag} {H H' : Hp} {B B' : Addr → Prop} (g : Goes H H' B B') : ∀ {fs : List Fr} {a : Addr} {as : List Addr}, (∀ x ∈ as, ∀ o, H x = some o → H' x = some o) → (∀ b xs, H b = some (.tup xs) → H' b = some (.tup xs)) → Ch K H B fs a as → Ch K H' B' fs a as
 | [], _, [], _, _, _ => trivial
 | f :: fs, a, a' :: as, h1, h2, ⟨⟨vs, pv, qv, b, q1, q2, q3, q4, q5⟩, r⟩ =>
  ⟨⟨vs, pv, qv, b, h1 a' List.mem_cons_self _ q1, zv.goes g _ _ q2, h2 _ _ q3, zv.goes g _ _ q4, zv.goes g _ _ q5⟩, Ch.mv g (fun x hx => h1 x (List.mem_cons_of_mem _ hx)) h2 r⟩
 | [], _, _ :: _, _, _, h => by cases h
 | _ :: _, _, [], _, _, h => by cases h
def Bo (B₀ : Addr → Prop) (w a : Addr) (as : List Addr) : Addr → Prop := fun x => B₀ x ∨ x ∈ w :: a :: as
structure Zp (K : Frag) (H₀ : Hp) (B₀ : Addr → Prop) (H : Hp) (w a : Addr) (as : List Addr) (top : List D) (fs : List Fr) : Prop where
 whr : H w = some (.lst ((as.reverse ++ [a]).map V.ref))
 top : ∃ vs, H a = some (.lst vs) ∧ zv K H (Bo B₀ w a as) top vs
 ch : Ch K H (Bo B₀ w a as) fs a as
 nd : (w :: a :: as).Nodup
 new : ∀ x ∈ w :: a :: as, H₀ x = none ∧ ¬ B₀ x
section
variable {K : Frag} {H₀ H H1 : Hp} {B₀ : Addr → Prop} {w a : Addr} {as : List Addr} {top : List D} {fs : List Fr}
theorem Ch.track {B : Addr → Prop} : ∀ {fs : List Fr} {a : Addr} {as : List Addr}, Ch K H B fs a as → ∀ x ∈ as, ∃ xs, H x = some (.lst xs)
 | f :: fs, a, a' :: as, ⟨⟨vs, pv, qv, b, q1, _⟩, r⟩, x, hx => by
  rcases List.mem_cons.mp hx with rfl | hx
  ·exact ⟨_, q1⟩
  ·exact Ch.track r x hx
 | [], _, [], _, x, hx => by cases hx
 | [], _, _ :: _, h, _, _ => by cases h
 | _ :: _, _, [], h, _, _ => by cases h
theorem Zp.track (z : Zp K H₀ B₀ H w a as top fs) : ∀ x ∈ w :: a :: as, ∃ xs, H x = some (.lst xs) := fun x hx => by
 rcases List.mem_cons.mp hx with rfl | hx
 ·exact ⟨_, z.whr⟩
 ·rcases List.mem_cons.mp hx with rfl | hx
  ·obtain ⟨vs, h, _⟩ := z.top; exact ⟨_, h⟩
  ·exact z.ch.track x hx
theorem Zp.up (z : Zp K H₀ B₀ H w a as top fs) (s : Zx H H1) : Zp K H₀ B₀ H1 w a as top fs :=
 ⟨s _ _ z.whr, (by obtain ⟨vs, h1, h2⟩ := z.top; exact ⟨vs, s _ _ h1, h2.up s⟩), z.ch.mv (.same s) (fun x _ o h => s _ _ h) (fun b xs h => s _ _ h), z.nd, z.new⟩
theorem Zp.add (z : Zp K H₀ B₀ H w a as top fs) {vs : List V} {d : D} {v : V} (hv : H a = some (.lst vs)) (hd : Rep K H (Bo B₀ w a as) d v) : Zp K H₀ B₀ (upd H a (.lst (vs ++ [v]))) w a as (top ++ [d]) fs := by
 have nd := z.nd
 have hwa : w ≠ a := fun e => by rw [e] at nd; simp at nd
 have haas : a ∉ as := by
  rw [List.nodup_cons, List.nodup_cons] at nd
  exact nd.2.1
 have g : Goes H (upd H a (.lst (vs ++ [v]))) (Bo B₀ w a as) (Bo B₀ w a as) := .write (.inr (by simp)) hv trivial
 obtain ⟨vs', h1, h2⟩ := z.top
 rw [hv] at h1; cases h1
 refine ⟨by rw [zI hwa]; exact z.whr, ⟨_, zK, (zv.goes g _ _ h2).append (.one (Rep.goes g _ _ hd))⟩, z.ch.mv g (fun x hx o h => ?_) (fun b xs h => ?_), nd, z.new⟩
 ·rw [zI (show x ≠ a from fun e => haas (e ▸ hx))]; exact h
 ·rw [zI (fun e => by rw [e, hv] at h; cases h)]; exact h
theorem reps_reps {B : Addr → Prop} {ls : List Addr} (h : ∀ c ∈ ls, H c = some (.lst []) ∧ ¬ B c) : zv K H B (ls.map fun _ => D.lst []) (ls.map V.ref) := by
 induction ls with
 | nil => exact .nil
 | cons c ls ih =>
  refine .cons ?_ (ih fun x hx => h x (List.mem_cons_of_mem _ hx))
  simp only [Rep]
  exact ⟨c, [], rfl, ⟨.inl (h c List.mem_cons_self).1, (h c List.mem_cons_self).2⟩, .nil⟩
theorem Zp.open (z : Zp K H₀ B₀ H w a as top fs) (gr : Zx H₀ H) (hb0 : ∀ x, B₀ x → ∃ o, H x = some o) (s : Zx H H1) {vs : List V} (hv : H a = some (.lst vs)) {b : Addr} {x : Str} {l1 l2 : List Addr} {c : Addr} (hnd : (l1 ++ c :: l2).Nodup) (hl : ∀ e ∈ l1 ++ c :: l2, H e = none ∧ H1 e = some (.lst [])) (hb : H1 b = some (.tup (.str x :: (l1 ++ c :: l2).map V.ref))) :
  Zp K H₀ B₀ (upd (upd H1 a (.lst (vs ++ [.ref b]))) w (.lst (((as.reverse ++ [a]) ++ [c]).map V.ref))) w c (a :: as) [] (⟨top, x, l1.map fun _ => .lst [], l2.map fun _ => .lst []⟩ :: fs) ∧ Goes H (upd (upd H1 a (.lst (vs ++ [.ref b]))) w (.lst (((as.reverse ++ [a]) ++ [c]).map V.ref))) (Bo B₀ w a as) (Bo B₀ w c (a :: as)) := by
 have nd := z.nd
 have hwa : w ≠ a := fun e => by rw [e] at nd; simp at nd
 have haas : a ∉ as := by rw [List.nodup_cons, List.nodup_cons] at nd; exact nd.2.1
 have hwas : w ∉ as := by rw [List.nodup_cons] at nd; exact fun q => nd.1 (List.mem_cons_of_mem _ q)
 have fresh : ∀ e ∈ l1 ++ c :: l2, e ∉ w :: a :: as := fun e he hm => by
  obtain ⟨xs, q⟩ := z.track e hm
  rw [(hl e he).1] at q; cases q
 have hc : c ∈ l1 ++ c :: l2 := by simp
 have hcw : c ≠ w := fun e => fresh c hc (by rw [e]; simp)
 have hca : c ≠ a := fun e => fresh c hc (by rw [e]; simp)
 have hnB : ∀ e ∈ l1 ++ c :: l2, ¬ B₀ e := fun e he q => by
  obtain ⟨o, h⟩ := hb0 e q
  rw [(hl e he).1] at h; cases h
 generalize hH3 : upd (upd H1 a (.lst (vs ++ [.ref b]))) w (.lst (((as.reverse ++ [a]) ++ [c]).map V.ref)) = H3
 have at3 : ∀ e, e ≠ w → e ≠ a → H3 e = H1 e := fun e h1 h2 => by rw [← hH3, zI h1, zI h2]
 have a3 : H3 a = some (.lst (vs ++ [.ref b])) := by rw [← hH3, zI (Ne.symm hwa), zK]
 have w3 : H3 w = some (.lst (((as.reverse ++ [a]) ++ [c]).map V.ref)) := by rw [← hH3, zK]
 have hbn : b ≠ w ∧ b ≠ a := by
  refine ⟨fun e => ?_, fun e => ?_⟩
  ·rw [e, s _ _ z.whr] at hb; cases hb
  ·rw [e, s _ _ hv] at hb; cases hb
 have tups : ∀ e xs, H e = some (.tup xs) → H3 e = some (.tup xs) := fun e xs h => by
  rw [at3 e (fun q => by rw [q, z.whr] at h; cases h) (fun q => by rw [q, hv] at h; cases h)]
  exact s _ _ h
 have g : Goes H H3 (Bo B₀ w a as) (Bo B₀ w c (a :: as)) := by
  have g1 : Goes H H1 (Bo B₀ w a as) (fun e => Bo B₀ w a as e ∨ e = c) := .fresh (hl c hc).1 s
  have g2 : Goes H1 (upd H1 a (.lst (vs ++ [.ref b]))) (fun e => Bo B₀ w a as e ∨ e = c) (fun e => Bo B₀ w a as e ∨ e = c) := .write (.inl (.inr (by simp))) (s _ _ hv) trivial
  have g3 : Goes (upd H1 a (.lst (vs ++ [.ref b]))) H3 (fun e => Bo B₀ w a as e ∨ e = c) (fun e => Bo B₀ w a as e ∨ e = c) := by
   rw [← hH3]
   exact .write (u := .lst ((as.reverse ++ [a]).map V.ref)) (.inl (.inr (by simp))) (by rw [zI hwa]; exact s _ _ z.whr) trivial
  have less : ∀ e, Bo B₀ w c (a :: as) e → Bo B₀ w a as e ∨ e = c := fun e h => by
   rcases h with h | h
   ·exact .inl (.inl h)
   ·rcases List.mem_cons.mp h with rfl | h
    ·exact .inl (.inr (by simp))
    ·rcases List.mem_cons.mp h with rfl | h
     ·exact .inr rfl
     ·exact .inl (.inr (List.mem_cons_of_mem _ h))
  exact ⟨fun e xs q => g3.tup _ _ (g2.tup _ _ (g1.tup _ _ q)), fun e xs q n => by
   obtain ⟨q1, n1⟩ := g1.lst e xs q n
   obtain ⟨q2, n2⟩ := g2.lst e xs q1 n1
   obtain ⟨q3, n3⟩ := g3.lst e xs q2 n2
   exact ⟨q3, fun z => n3 (less e z)⟩, fun e xs q n => by
   obtain ⟨q1, n1⟩ := g1.dct e xs q n
   obtain ⟨q2, n2⟩ := g2.dct e xs q1 n1
   obtain ⟨q3, n3⟩ := g3.dct e xs q2 n2
   exact ⟨q3, fun z => n3 (less e z)⟩, fun e o u q => g3.frz _ _ _ (g2.frz _ _ _ (g1.frz _ _ _ q)), fun e xs q => g3.tkt _ _ (g2.tkt _ _ (g1.tkt _ _ q))⟩
 obtain ⟨vs', h1, h2⟩ := z.top
 rw [hv] at h1; cases h1
 have side : ∀ e ∈ l1 ++ c :: l2, e ≠ c → H3 e = some (.lst []) ∧ ¬ Bo B₀ w c (a :: as) e := fun e he hne => by
  have f := fresh e he
  refine ⟨by rw [at3 e (fun q => f (by rw [q]; simp)) (fun q => f (by rw [q]; simp))]; exact (hl e he).2, fun q => ?_⟩
  rcases q with q | q
  ·exact hnB e he q
  ·rcases List.mem_cons.mp q with q | q
   ·exact f (by rw [q]; simp)
   ·rcases List.mem_cons.mp q with q | q
    ·exact hne q
    ·exact f (List.mem_cons_of_mem _ q)
 have nd1 : ∀ e ∈ l1, e ≠ c := fun e he q => by
  rw [List.nodup_append] at hnd
  exact hnd.2.2 e he c (by simp) q
 have nd2 : ∀ e ∈ l2, e ≠ c := fun e he q => by
  rw [List.nodup_append] at hnd
  have := hnd.2.1
  rw [List.nodup_cons] at this
  exact this.1 (q ▸ he)
 refine ⟨?_, g⟩
 refine ⟨?_, ⟨[], by rw [at3 c hcw hca]; exact (hl c hc).2, .nil⟩, ⟨⟨vs, l1.map V.ref, l2.map V.ref, b, a3, zv.goes g _ _ h2, ?_, ?_, ?_⟩, z.ch.mv g (fun e he o h => ?_) tups⟩, ?_, fun e he => ?_⟩
 ·rw [w3]; simp
 ·rw [at3 b hbn.1 hbn.2, hb]; simp
 ·exact reps_reps fun e he => side e (by simp [he]) (nd1 e he)
 ·exact reps_reps fun e he => side e (by simp [he]) (nd2 e he)
 ·rw [at3 e (fun q => hwas (q ▸ he)) (fun q => haas (q ▸ he))]; exact s _ _ h
 ·rw [List.nodup_cons, List.nodup_cons] at nd
  rw [List.nodup_cons, List.nodup_cons, List.nodup_cons]
  refine ⟨fun q => ?_, fun q => ?_, nd.2.1, nd.2.2⟩
  ·rcases List.mem_cons.mp q with q | q
   ·exact hcw q.symm
   ·exact nd.1 q
  ·exact fresh c hc (List.mem_cons_of_mem _ q)
 ·rcases List.mem_cons.mp he with rfl | he
  ·exact z.new _ (by simp)
  ·rcases List.mem_cons.mp he with rfl | he
   ·exact ⟨gr.free (hl _ hc).1, hnB _ hc⟩
   ·exact z.new e (List.mem_cons_of_mem _ he)
theorem Zp.pop {f : Fr} {a' : Addr} (z : Zp K H₀ B₀ H w a (a' :: as) top (f :: fs)) : Zp K H₀ B₀ (upd H w (.lst ((as.reverse ++ [a']).map V.ref))) w a' as (shut f top) fs := by
 have nd := z.nd
 have hwa : a ≠ w := fun e => by rw [e] at nd; simp at nd
 have hwa' : a' ≠ w := fun e => by rw [e] at nd; simp at nd
 have hwas : w ∉ as := by rw [List.nodup_cons] at nd; exact fun q => nd.1 (by simp [q])
 have haa : a ∉ w :: a' :: as := fun q => by
  rw [List.nodup_cons, List.nodup_cons] at nd
  rcases List.mem_cons.mp q with q | q
  ·exact hwa q
  ·exact nd.2.1 q
 have g0 : Goes H (upd H w (.lst ((as.reverse ++ [a']).map V.ref))) (Bo B₀ w a (a' :: as)) (Bo B₀ w a (a' :: as)) := .write (.inr (by simp)) z.whr trivial
 have less : ∀ e, Bo B₀ w a' as e → Bo B₀ w a (a' :: as) e := fun e h => by
  rcases h with h | h
  ·exact .inl h
  ·right
   rcases List.mem_cons.mp h with rfl | h
   ·simp
   ·exact List.mem_cons_of_mem _ (List.mem_cons_of_mem _ h)
 have g : Goes H (upd H w (.lst ((as.reverse ++ [a']).map V.ref))) (Bo B₀ w a (a' :: as)) (Bo B₀ w a' as) :=
  ⟨g0.tup, fun e xs q n => ⟨(g0.lst e xs q n).1, fun z => (g0.lst e xs q n).2 (less e z)⟩, fun e xs q n => ⟨(g0.dct e xs q n).1, fun z => (g0.dct e xs q n).2 (less e z)⟩, g0.frz, g0.tkt⟩
 have tups : ∀ e xs, H e = some (.tup xs) → upd H w (.lst ((as.reverse ++ [a']).map V.ref)) e = some (.tup xs) := fun e xs h => by
  rw [zI (fun q => by rw [q, z.whr] at h; cases h)]; exact h
 obtain ⟨⟨vs, pv, qv, b, q1, q2, q3, q4, q5⟩, r⟩ := z.ch
 obtain ⟨us, t1, t2⟩ := z.top
 refine ⟨zK, ⟨vs ++ [.ref b], by rw [zI hwa']; exact q1, ?_⟩, r.mv g (fun e he o h => by rw [zI (show e ≠ w from fun q => hwas (q ▸ he))]; exact h) tups, ?_, fun e he => z.new e ?_⟩
 ·refine (zv.goes g _ _ q2).append (.one ?_)
  simp only [Rep]
  refine ⟨b, _, rfl, .inl (.inl (tups _ _ q3)), .cons (by simp [Rep]) ((zv.goes g _ _ q4).append (.cons ?_ (zv.goes g _ _ q5)))⟩
  simp only [Rep]
  refine ⟨a, us, rfl, ⟨.inl (by rw [zI hwa]; exact t1), fun q => ?_⟩, zv.goes g _ _ t2⟩
  rcases q with q | q
  ·exact (z.new a (by simp)).2 q
  ·exact haa q
 ·rw [List.nodup_cons, List.nodup_cons] at nd
  rw [List.nodup_cons]
  exact ⟨fun q => nd.1 (List.mem_cons_of_mem _ q), nd.2.2⟩
 ·rcases List.mem_cons.mp he with rfl | he
  ·simp
  ·exact List.mem_cons_of_mem _ (List.mem_cons_of_mem _ he)
theorem Ch.root : ∀ {fs : List Fr} {as : List Addr} {a : Addr} {top : List D}, (∀ x ∈ a :: as, ¬ B₀ x) → Rep K H B₀ (.lst top) (.ref a) → Ch K H B₀ fs a as → Rep K H B₀ (.lst (close top fs)) (.ref ((a :: as).getLast (by simp)))
 | [], [], a, top, _, h, _ => h
 | f :: fs, a' :: as, a, top, hn, h, ⟨⟨vs, pv, qv, b, q1, q2, q3, q4, q5⟩, r⟩ => by
  have e : (a :: a' :: as).getLast (by simp) = (a' :: as).getLast (by simp) := by rw [List.getLast_cons (by simp)]
  rw [e, close]
  refine Ch.root (fun x hx => hn x (List.mem_cons_of_mem _ hx)) ?_ r
  simp only [Rep]
  refine ⟨a', _, rfl, ⟨.inl q1, hn a' (by simp)⟩, q2.append (.one ?_)⟩
  simp only [Rep]
  exact ⟨b, _, rfl, .inl (.inl q3), .cons (by simp [Rep]) (q4.append (.cons h q5))⟩
 | [], _ :: _, _, _, _, _, h => by cases h
 | _ :: _, [], _, _, _, _, h => by cases h
theorem Zp.root (z : Zp K H₀ B₀ H w a as top fs) : Rep K H B₀ (.lst (close top fs)) (.ref ((a :: as).getLast (by simp))) := by
 have less : ∀ e, B₀ e → Bo B₀ w a as e := fun e h => .inl h
 have g : Goes H H (Bo B₀ w a as) B₀ := .less less (.refl H)
 obtain ⟨vs, h1, h2⟩ := z.top
 refine Ch.root (fun x hx => (z.new x (List.mem_cons_of_mem _ hx)).2) ?_ (z.ch.mv g (fun _ _ _ h => h) fun _ _ h => h)
 simp only [Rep]
 exact ⟨a, vs, rfl, ⟨.inl h1, (z.new a (by simp)).2⟩, zv.goes g _ _ h2⟩
end
def openNames : List V := [.str "loop", .str "either"]
def emp (n : Nat) : List D := List.replicate n (.lst [])
def stepZ (c : Int) (d : D) (top : List D) (fs : List Fr) : Option (List D × List Fr) := match d with
 | .tup (.str x :: ps) => if top.length < sizeLine then
   if inV (.str x) openNames = true ∧ fs.length + 1 < 4 then
    (if 0 < ps.length ∧ x = x ∧ ps.all (fun d => match d with | .lst [] => true | _ => false) = true then
     some ([], ⟨top, x, emp (c / 32 % (ps.length : Nat)).toNat, emp (ps.length - 1 - (c / 32 % (ps.length : Nat)).toNat)⟩ :: fs) else none)
   else if c % 4 = 0 then (match fs with
    | f :: fs' => some (shut f (top ++ [d]), fs')
    | [] => some (top ++ [d], []))
   else some (top ++ [d], fs)
  else none
 | _ => none
def goZ (R : Int → Option D) : List Int → List D → List Fr → Option (List D)
 | [], top, fs => some (close top fs)
 | c :: cs, top, fs => (R c).bind fun d => (stepZ c d top fs).bind fun r => goZ R cs r.1 r.2
def evZ (ρ : Ev) : Ev := ((ρ.set 4 none).set 5 none).set 7 none
def mB13 (f : Ev → Option D) : Ev → Option Out := fun ρ => ((ρ[0]?.join).bind asL).bind fun ds => (intsD ds).bind fun cs => if ρ.length = 8 then (goZ (fun c => f ((evZ ρ).set 6 (some (.int c)))) cs [] []).map fun top => .rt (.lst top) else none
abbrev lenR (K : Frag) : List V → Hp → VK → Prop := fun xs H Q => ∃ p ys, xs = [.ref p] ∧ (SqL K H p ys ∨ SqT K H p ys) ∧ Q (.int ys.length) H
abbrev tc1 (K : Frag) : TT := tAnd (tTest (tOp (rIn K false) (tOp (rIxT K) (tVar 7) (tC (.int 0))) (tTup (Zi (tC (.str "loop")) (Zi (tC (.str "either")) tNil))))) (tTest (tOp (rI0 fun i j => .bl (decide (i < j))) (tCB (lenR K) (Zi (tVar 5) tNil)) (tC (.int 4))))
abbrev tA1 (K : Frag) : TS := tDrop (tBM K "list" rAppend (tVar 5) (Zi (tOp (rIxT K) (tVar 7) (tOp (rI0 fun i j => .int (i + j)) (tC (.int 1)) (tOp (rI (fun _ j => 0 < j) fun i j => .int (i % j)) (tOp (rI CDiv fun i j => .int (i / j)) (tVar 6) (tC (.int 32))) (tOp (rI0 fun i j => .int (i - j)) (tCB (lenR K) (Zi (tVar 7) tNil)) (tC (.int 1)))))) tNil))
abbrev tc2 (K : Frag) : TT := tAnd (tTest (tOp rEq (tOp (rI (fun _ j => 0 < j) fun i j => .int (i % j)) (tVar 6) (tC (.int 4))) (tC (.int 0)))) (tTest (tOp (rI0 fun i j => .bl (decide (j < i))) (tCB (lenR K) (Zi (tVar 5) tNil)) (tC (.int 1))))
abbrev tA2 (K : Frag) : TS := tDrop (tBM0 K "list" rPop (tVar 5))
abbrev tAdd (K : Frag) : TS := tDrop (tBM K "list" rAppend (tOp (rIxL K) (tVar 5) (tUn (rU fun i => .int (-i)) (tC (.int 1)))) (Zi (tVar 7) tNil))
abbrev tB13 (K : Frag) (te : TE) : TS := tSeq (tAsg (tLst tNil) (gName 4)) (tSeq (tAsg (tLst (Zi (tVar 4) tNil)) (gName 5)) (tSeq (tFor (iList K (tVar 0)) (gName 6) (tSeq (tAsg te (gName 7)) (tSeq (tAdd K) (tIfS (tc1 K) (tA1 K) (tIfS (tc2 K) (tA2 K) tNext))))) (tRet (tVar 4))))
theorem bl_nil {B₀ : Addr → Prop} {σ : St} : Bl B₀ [] σ = B₀ := by
 funext a
 refine propext ⟨fun h => ?_, Or.inl⟩
 rcases h with h | ⟨i, hi, _⟩
 ·exact h
 ·cases hi
theorem Md.base {K : Frag} {H₀ H : Hp} {B₀ : Addr → Prop} {σ : St} {ρ : Ev} (m : Md K H₀ B₀ [] σ H ρ) : Md K H B₀ [] σ H ρ :=
 ⟨.refl H, m.blk, m.len, m.sh, fun i hi => (by cases hi), fun i j a hi => by cases hi⟩
theorem Md.go {K : Frag} {H₀ H H' : Hp} {B B' : Addr → Prop} {σ : St} {ρ : Ev} (m : Md K H₀ B [] σ H ρ) (g : Goes H H' B B') (s : Zx H₀ H') (hb : ∀ a, B' a → ∃ o, H' a = some o) : Md K H₀ B' [] σ H' ρ :=
 ⟨s, hb, m.len, fun i d q n => by
  obtain ⟨v, h1, h2⟩ := m.sh i d q n
  rw [bl_nil] at h2 ⊢
  exact ⟨v, h1, Rep.goes g _ _ h2⟩, fun i hi => (by cases hi), fun i j a hi => by cases hi⟩
theorem atI_last {xs : List V} {x : V} : atI (xs ++ [x]) (-1) = some x := by
 unfold atI ixN
 rw [if_neg (by omega), if_pos (by simp; omega)]
 have : ((-1 : Int) + ((xs ++ [x]).length : Nat)).toNat = xs.length := by rw [List.length_append, List.length_singleton]; omega
 rw [this, oB]
 simp
theorem all_emp {ps : List D} (h : ps.all (fun d => match d with | .lst [] => true | _ => false) = true) : ∀ d ∈ ps, d = .lst [] := fun d hd => by
 have := List.all_eq_true.mp h d hd
 cases d <;> try (simp at this)
 rename_i xs
 cases xs with
 | nil => rfl
 | cons _ _ => simp at this
theorem md_blank {K : Frag} {H₀ H : Hp} {B : Addr → Prop} {σ : St} {ρ : Ev} (m : Md K H₀ B [] σ H ρ) (i : Nat) : Md K H₀ B [] σ H (ρ.set i none) :=
 ⟨m.grow, m.blk, by rw [List.length_set]; exact m.len, fun j d q n => by
  have hj : j ≠ i := fun z => by
   subst z
   have := get_set_eq q
   cases this
  rw [zt hj] at q
  exact m.sh j d q n, fun i hi => (by cases hi), fun i j a hi => by cases hi⟩
structure St13 (K : Frag) (H : Hp) (B₀ : Addr → Prop) (ρ : Ev) (p : Addr) (top : List D) (fs : List Fr) (σ' : St) (H' : Hp) : Prop where
 ex : ∃ (w a : Addr) (as : List Addr) (z : Option D), Md K H (Bo B₀ w a as) [] σ' H' (ρ.set 6 z) ∧ Zp K H B₀ H' w a as top fs ∧ σ'[5]? = some (some (.ref w)) ∧ σ'[4]? = some (some (.ref ((a :: as).getLast (by simp)))) ∧ σ'[0]? = some (some (.ref p))
section
variable {K : Frag} {te : TE} {f : Ev → Option D} {H : Hp} {B₀ : Addr → Prop} {ρ : Ev} {p : Addr} {top top' : List D} {fs fs' : List Fr} {c : Int} {d : D} {N : St → Hp → Prop} {E : Ends}
theorem ifT {P Q : Prop} (h : P) : if true = true then P else Q := by rw [if_pos rfl]; exact h
theorem ifF {P Q : Prop} (h : Q) : if false = true then P else Q := by rw [if_neg Bool.false_ne_true]; exact h
theorem bo_le {w a : Addr} {as : List Addr} {H' : Hp} (hb : ∀ x, B₀ x → ∃ o, H' x = some o) (z : Zp K H B₀ H' w a as top fs) : ∀ x, Bo B₀ w a as x → ∃ o, H' x = some o := fun x h => by
 rcases h with h | h
 ·exact hb x h
 ·obtain ⟨xs, q⟩ := z.track x h; exact ⟨_, q⟩
theorem step13 (hrow : ∀ (H₀ : Hp) (B₀ : Addr → Prop) (σ : St) (H : Hp) (ρ : Ev) (d : D) (Q : VK), Md K H₀ B₀ [] σ H ρ → f ρ = some d → (∀ v H', Zx H H' → FR K H H' B₀ d v → Q v H') → te σ H Q)
  (hb0 : ∀ x, B₀ x → ∃ o, H x = some o) (h7 : ρ[7]? = some none) {w a : Addr} {as : List Addr} {σ : St} {H2 : Hp} (md : Md K H (Bo B₀ w a as) [] σ H2 (ρ.set 6 (some (.int c)))) (z : Zp K H B₀ H2 w a as top fs) (g5 : σ[5]? = some (some (.ref w))) (g4 : σ[4]? = some (some (.ref ((a :: as).getLast (by simp))))) (g0 : σ[0]? = some (some (.ref p))) (g6 : σ[6]? = some (some (.int c)))
  (hf : f (ρ.set 6 (some (.int c))) = some d) (hs : stepZ c d top fs = some (top', fs')) (hN : ∀ σ' H', St13 K H B₀ ρ p top' fs' σ' H' → N σ' H') :
  tSeq (tAsg te (gName 7)) (tSeq (tAdd K) (tIfS (tc1 K) (tA1 K) (tIfS (tc2 K) (tA2 K) tNext))) { E with nx := N, ct := N } σ H2 := by
 have hlen : σ.length = ρ.length := by rw [md.len, List.length_set]
 have l7 : 7 < ρ.length := (List.getElem?_eq_some_iff.mp h7).1
 refine hrow _ _ σ H2 _ d _ md hf fun v H3 s3 fr => ?_
 unfold stepZ at hs
 split at hs
 case h_2 => cases hs
 rename_i x ps
 split at hs
 case isFalse => cases hs
 rename_i hsz
 have z3 := z.up s3
 have md3 := md.up s3
 have hbk : ∀ y, Bo B₀ w a as y → ∃ o, H2 y = some o := md.blk
 obtain ⟨b, tr, rfl, htup, hps, alt⟩ : ∃ (b : Addr) (tr : List V), v = .ref b ∧ SqT K H3 b (.str x :: tr) ∧ zv K H3 (Bo B₀ w a as) ps tr ∧ (flats ps = true ∨ ∃ ls : List Addr, ps = ls.map (fun _ => D.lst []) ∧ tr = ls.map V.ref ∧ ls.Nodup ∧ (∀ e ∈ ls, H2 e = none ∧ H3 e = some (.lst [])) ∧ H3 b = some (.tup (.str x :: ls.map V.ref))) := by
  rcases fr with ⟨_, u, _, _, _, hw⟩ | ⟨hfl, rep⟩ | ⟨b', x', ls, eb, ed, hnd, hls, hb'⟩
  ·cases u <;> simp only [Own] at hw
  ·simp only [Rep] at rep
   obtain ⟨b, ts, rfl, htup, hts⟩ := rep
   simp only [zv] at hts
   obtain ⟨tx, tr, rfl, hx, hps⟩ := hts
   simp only [Rep] at hx
   subst hx
   exact ⟨b, tr, rfl, htup, hps, .inl (by simpa [D.flat, flats] using hfl)⟩
  ·cases ed
   exact ⟨b', _, eb, .inl (.inl hb'), reps_empties hbk hls, .inr ⟨ls, rfl, rfl, hnd, hls, hb'⟩⟩
 obtain ⟨vs, hv, hvs⟩ := z.top
 have hv3 := s3 _ _ hv
 have w3 := s3 _ _ z.whr
 have nd := z.nd
 have hwa : w ≠ a := fun e => by rw [e] at nd; simp at nd
 have k5 : (σ.set 7 (some (.ref b)))[5]? = some (some (.ref w)) := by rw [zt (by decide)]; exact g5
 have k4 : (σ.set 7 (some (.ref b)))[4]? = some (some (.ref ((a :: as).getLast (by simp)))) := by rw [zt (by decide)]; exact g4
 have k0 : (σ.set 7 (some (.ref b)))[0]? = some (some (.ref p)) := by rw [zt (by decide)]; exact g0
 have k6 : (σ.set 7 (some (.ref b)))[6]? = some (some (.int c)) := by rw [zt (by decide)]; exact g6
 have k7 : (σ.set 7 (some (.ref b)))[7]? = some (some (.ref b)) := Zu (by rw [hlen]; exact l7)
 have mdv : Md K H (Bo B₀ w a as) [] (σ.set 7 (some (.ref b))) H3 (ρ.set 6 (some (.int c))) := by
  have m := md3.forget (i := 7) (v := some (.ref b)) (by simp)
  have e : (ρ.set 6 (some (D.int c))).set 7 none = ρ.set 6 (some (.int c)) := by
   refine List.ext_getElem? fun i => ?_
   by_cases hi : i = 7
   ·subst hi
    rw [List.getElem?_set_self (by rw [List.length_set]; exact l7), zt (by decide), h7]
   ·rw [zt hi]
  rwa [e] at m
 have hvl : vs.length < sizeLine := by rw [hvs.length]; exact hsz
 refine ⟨.ref w, k5, 1, rfl, w, (as.reverse ++ [a]).map V.ref, -1, .ref a, rfl, rfl, .inl (.inl w3), by rw [List.map_append]; exact atI_last, .inl ⟨rfl, vs, .inl (.inl hv3)⟩, .ref b, k7, a, vs, .ref b, rfl, rfl, hv3, hvl, ?_⟩
 have tup4 : ∀ (H4 : Hp), (∀ e xs, Rd H3 e (.tup xs) → Rd H4 e (.tup xs)) → SqT K H4 b (.str x :: tr) := fun H4 h => by
  rcases htup with q | q
  ·exact .inl (h _ _ q)
  ·exact .inr q
 have gadd : Goes H3 (upd H3 a (.lst (vs ++ [.ref b]))) (Bo B₀ w a as) (Bo B₀ w a as) := .write (.inr (by simp)) hv3 trivial
 have tup5 := tup4 _ gadd.tup
 generalize hH4 : upd H3 a (.lst (vs ++ [V.ref b])) = H4 at *
 have w4 : H4 w = some (.lst ((as.reverse ++ [a]).map V.ref)) := by rw [← hH4, zI hwa]; exact w3
 refine ⟨.ref b, k7, b, _, 0, .str x, rfl, rfl, tup5, atI_nat (j := 0) rfl, by show 2 ≤ sizeLine; decide, fun e he => ⟨e, [.str "loop", .str "either"], rfl, .inr (.inl (.inl zK)), rfl, rfl, inV (.str x) openNames, rfl, ?_⟩⟩
 have s5 : Zx H4 (upd H4 e (.tup [.str "loop", .str "either"])) := zN he
 generalize upd H4 e (.tup [V.str "loop", V.str "either"]) = H5 at *
 have w5 := s5 _ _ w4
 have wl : ((as.reverse ++ [a]).map V.ref).length = fs.length + 1 := by rw [List.length_map, List.length_append, List.length_reverse, z.ch.len]; rfl
 have tup6 : SqT K H5 b (.str x :: tr) := SqT.same s5 tup5
 have trl : tr.length = ps.length := hps.length
 have plain : Zp K H B₀ H5 w a as (top ++ [.tup (.str x :: ps)]) fs ∧ Md K H (Bo B₀ w a as) [] (σ.set 7 (some (.ref b))) H5 (ρ.set 6 (some (.int c))) := by
  have r' : Rep K H3 (Bo B₀ w a as) (.tup (.str x :: ps)) (.ref b) := by
   simp only [Rep]
   exact ⟨b, _, rfl, htup, .cons (by simp [Rep]) hps⟩
  have z4 := z3.add hv3 r'
  rw [hH4] at z4
  refine ⟨z4.up s5, ?_⟩
  have m4 := mdv.upB (o := .lst (vs ++ [.ref b])) (.inr (show a ∈ w :: a :: as by simp)) ((z.new a (by simp)).1) hv3 trivial
  rw [hH4] at m4
  exact m4.up s5
 have skip : fs' = fs ∧ top' = top ++ [.tup (.str x :: ps)] → St13 K H B₀ ρ p top' fs' (σ.set 7 (some (.ref b))) H5 := fun ⟨e1, e2⟩ => by
  subst e1; subst e2
  exact ⟨w, a, as, _, plain.2, plain.1, k5, k4, k0⟩
 have second : ¬ (inV (.str x) openNames = true ∧ fs.length + 1 < 4) → tIfS (tc2 K) (tA2 K) tNext { E with nx := N, ct := N } (σ.set 7 (some (.ref b))) H5 := fun hno => by
  rw [if_neg hno] at hs
  refine ⟨_, k6, c, 4, rfl, rfl, (show (0 : Int) < 4 by decide), rfl, decide (c % 4 = 0), by rw [show (decide (V.int (c % 4) = V.int 0)) = decide (c % 4 = 0) by simp], ?_⟩
  by_cases h4 : c % 4 = 0
  ·rw [decide_eq_true h4]
   refine ifT ?_
   rw [if_pos h4] at hs
   refine ⟨.ref w, k5, w, _, rfl, .inl (.inl (.inl w5)), _, 1, rfl, rfl, decide ((1 : Int) < ((as.reverse ++ [a]).map V.ref).length), rfl, ?_⟩
   cases fs with
   | nil =>
    cases hs
    rw [decide_eq_false (by rw [wl]; simp)]
    refine ifF ?_
    exact hN _ _ (skip ⟨rfl, rfl⟩)
   | cons fr0 fs0 =>
    cases hs
    rw [decide_eq_true (by rw [wl]; simp; omega)]
    refine ifT ?_
    cases as with
    | nil => exact absurd z.ch.len (by simp)
    | cons a' as0 =>
     refine ⟨.ref w, k5, .inl ⟨rfl, _, .inl (.inl w5)⟩, w, _, .ref a, rfl, rfl, w5, by simp, ?_⟩
     have e6 : (((a' :: as0).reverse ++ [a]).map V.ref).dropLast = (as0.reverse ++ [a']).map V.ref := by simp
     rw [e6]
     have zp := plain.1.pop
     refine hN _ _ ⟨w, a', as0, some (.int c), ?_, zp, k5, by rw [k4]; simp, k0⟩
     have nd' := plain.1.nd
     refine plain.2.go ?_ (fun y o q => ?_) (bo_le (fun y hy => ?_) zp)
     ·have g0' : Goes H5 (upd H5 w (.lst ((as0.reverse ++ [a']).map V.ref))) (Bo B₀ w a (a' :: as0)) (Bo B₀ w a (a' :: as0)) := .write (.inr (by simp)) w5 trivial
      have less : ∀ e, Bo B₀ w a' as0 e → Bo B₀ w a (a' :: as0) e := fun e h => by
       rcases h with h | h
       ·exact .inl h
       ·right
        rcases List.mem_cons.mp h with rfl | h
        ·simp
        ·exact List.mem_cons_of_mem _ (List.mem_cons_of_mem _ h)
      exact ⟨g0'.tup, fun e xs q n => ⟨(g0'.lst e xs q n).1, fun z => (g0'.lst e xs q n).2 (less e z)⟩, fun e xs q n => ⟨(g0'.dct e xs q n).1, fun z => (g0'.dct e xs q n).2 (less e z)⟩, g0'.frz, g0'.tkt⟩
     ·rw [zI (fun e => by rw [e, (plain.1.new w (by simp)).1] at q; cases q)]
      exact plain.2.grow _ _ q
     ·by_cases e : y = w
      ·rw [e]; exact ⟨_, zK⟩
      ·rw [zI e]; exact plain.2.blk y (.inl hy)
  ·rw [decide_eq_false h4]
   refine ifF (ifF ?_)
   rw [if_neg h4] at hs
   cases hs
   exact hN _ _ (skip ⟨rfl, rfl⟩)
 by_cases hin : inV (.str x) openNames = true
 ·rw [hin]
  refine ifT ?_
  refine ⟨.ref w, k5, w, _, rfl, .inl (.inl (.inl w5)), _, 4, rfl, rfl, decide ((((as.reverse ++ [a]).map V.ref).length : Int) < 4), rfl, ?_⟩
  by_cases h4 : fs.length + 1 < 4
  ·rw [decide_eq_true (by rw [wl]; omega)]
   refine ifT ?_
   rw [if_pos ⟨hin, h4⟩] at hs
   split at hs
   case isFalse => cases hs
   rename_i hop
   cases hs
   have pe := all_emp hop.2.2
   rcases alt with hfl | ⟨ls, rfl, rfl, hnd, hls, hb'⟩
   ·exfalso
    cases ps with
    | nil => simp at hop
    | cons q ps' =>
     have := pe q (by simp)
     subst this
     simp [D.flat, flats] at hfl
   ·-- which list
    have hn : 0 < (ls.length : Nat) := by simpa using hop.1
    rw [List.length_map] at hN
    have m0 := Int.emod_nonneg (c / 32) (show ((ls.length : Nat) : Int) ≠ 0 by omega)
    have m1 := Int.emod_lt_of_pos (c / 32) (show (0 : Int) < (ls.length : Nat) by omega)
    obtain ⟨kk, hk⟩ : ∃ kk : Nat, c / 32 % (ls.length : Nat) = kk := ⟨(c / 32 % (ls.length : Nat)).toNat, by omega⟩
    have hkl : kk < ls.length := by omega
    have hsp : ls = ls.take kk ++ ls[kk] :: ls.drop (kk + 1) := by
     rw [List.getElem_cons_drop, List.take_append_drop]
    rw [hk, Int.toNat_natCast] at hN
    have ix : atI (V.str x :: ls.map V.ref) (1 + (kk : Int)) = some (.ref ls[kk]) := by
     rw [show (1 + (kk : Int)) = ((kk + 1 : Nat) : Int) by omega]
     exact atI_nat (by simp [hkl])
    have ln : ((V.str x :: ls.map V.ref).length : Int) - 1 = (ls.length : Nat) := by rw [List.length_cons, List.length_map]; omega
    refine ⟨.ref w, k5, .inl ⟨rfl, _, .inl (.inl w5)⟩, .ref b, k7, .int c, k6, c, 32, rfl, rfl, ⟨by decide, by decide⟩, .ref b, k7, b, _, rfl, .inr tup6, _, 1, rfl, rfl, _, _, rfl, rfl, ?_, _, _, rfl, rfl, b, _, _, .ref ls[kk], rfl, rfl, tup6, ?_, w, _, _, rfl, rfl, w5, ?_, ?_⟩
    ·show (0 : Int) < ((V.str x :: ls.map V.ref).length : Int) - 1
     rw [ln]; omega
    ·rw [ln, hk]; exact ix
    ·rw [wl]; exact Nat.lt_of_lt_of_le h4 (by decide)
    ·have nd2 : (ls.take kk ++ ls[kk] :: ls.drop (kk + 1)).Nodup := by rw [← hsp]; exact hnd
     obtain ⟨zo, go⟩ := z.open (H1 := H3) md.grow (fun y hy => hbk y (.inl hy)) s3 hv (b := b) (x := x) nd2 (fun e he => hls e (by rw [hsp]; exact he)) (by rw [← hsp]; exact hb')
     rw [hH4] at zo go
     have e7 : ((as.reverse ++ [a]) ++ [ls[kk]]).map V.ref = (as.reverse ++ [a]).map V.ref ++ [.ref ls[kk]] := by simp
     rw [e7] at zo go
     have sb : Zx (upd H4 w (.lst ((as.reverse ++ [a]).map V.ref ++ [.ref ls[kk]]))) (upd H5 w (.lst ((as.reverse ++ [a]).map V.ref ++ [.ref ls[kk]]))) := fun y o q => by
      by_cases ey : y = w
      ·rw [ey, zK] at q ⊢; exact q
      ·rw [zI ey] at q ⊢; exact s5 _ _ q
     have zb := zo.up sb
     have e8 : (ls.take kk).map (fun _ => D.lst []) = emp kk := by
      rw [emp, List.map_const', List.length_take, Nat.min_eq_left (by omega)]
     have e9 : (ls.drop (kk + 1)).map (fun _ => D.lst []) = emp (ls.length - 1 - kk) := by
      rw [emp, List.map_const', List.length_drop]; congr 1; omega
     rw [e8, e9] at zb
     have gb : Goes H2 (upd H5 w (.lst ((as.reverse ++ [a]).map V.ref ++ [.ref ls[kk]]))) (Bo B₀ w a as) (Bo B₀ w ls[kk] (a :: as)) := by
      have g2 : Goes (upd H4 w (.lst ((as.reverse ++ [a]).map V.ref ++ [.ref ls[kk]]))) (upd H5 w (.lst ((as.reverse ++ [a]).map V.ref ++ [.ref ls[kk]]))) (Bo B₀ w ls[kk] (a :: as)) (Bo B₀ w ls[kk] (a :: as)) := .same sb
      exact ⟨fun e xs q => g2.tup _ _ (go.tup _ _ q), fun e xs q n => (go.lst e xs q n).elim fun q1 n1 => g2.lst e xs q1 n1, fun e xs q n => (go.dct e xs q n).elim fun q1 n1 => g2.dct e xs q1 n1, fun e o u q => g2.frz _ _ _ (go.frz _ _ _ q), fun e xs q => g2.tkt _ _ (go.tkt _ _ q)⟩
     have grow : Zx H (upd H5 w (.lst ((as.reverse ++ [a]).map V.ref ++ [.ref ls[kk]]))) := fun y o q => by
      have ew : y ≠ w := fun e => by rw [e, (z.new w (by simp)).1] at q; cases q
      have ea : y ≠ a := fun e => by rw [e, (z.new a (by simp)).1] at q; cases q
      rw [zI ew]
      refine s5 _ _ ?_
      rw [← hH4, zI ea]
      exact s3 _ _ (md.grow _ _ q)
     have m1 := md.go gb grow (bo_le (fun y hy => by obtain ⟨o, q⟩ := hb0 y hy; exact ⟨o, grow _ _ q⟩) zb)
     have m2 := m1.forget (i := 7) (v := some (.ref b)) (by simp)
     have e10 : (ρ.set 6 (some (D.int c))).set 7 none = ρ.set 6 (some (.int c)) := by
      refine List.ext_getElem? fun i => ?_
      by_cases hi : i = 7
      ·subst hi
       rw [List.getElem?_set_self (by rw [List.length_set]; exact l7), zt (by decide), h7]
      ·rw [zt hi]
     rw [e10] at m2
     exact hN _ _ ⟨w, ls[kk], a :: as, _, m2, zb, k5, by rw [k4]; simp, k0⟩
  ·rw [decide_eq_false (by rw [wl]; omega)]
   refine ifF ?_
   exact second fun q => h4 q.2
 ·rw [Bool.eq_false_iff.mpr hin]
  refine ifF (ifF ?_)
  exact second fun q => hin q.1
theorem sok_b13 {ol : List Nat} (hrow : ∀ (H₀ : Hp) (B₀ : Addr → Prop) (σ : St) (H : Hp) (ρ : Ev) (d : D) (Q : VK), Md K H₀ B₀ [] σ H ρ → f ρ = some d → (∀ v H', Zx H H' → FR K H H' B₀ d v → Q v H') → te σ H Q) : SOk K false [] [] ol (tB13 K te) (mB13 f) := by
 intro H₀ B₀ σ H ρ o E mm q k
 obtain ⟨ds, q1, q2⟩ := zh q
 obtain ⟨x0, q3, q4⟩ := zh q1
 obtain ⟨cs, q5, q6⟩ := zh q2
 split at q6
 case isFalse => cases q6
 rename_i hlen
 obtain ⟨res, q7, rfl⟩ := map_some q6
 cases x0 <;> simp only [asL] at q4 <;> cases q4
 have eds := of_intsD q5
 subst eds
 obtain ⟨v0, h0, r0⟩ := mm.sh 0 _ (join_get q3) (by simp)
 simp only [Rep] at r0
 obtain ⟨p, xs0, rfl, hl0, hr0⟩ := r0
 have e0 := hr0.ints'
 subst e0
 have hσ : σ.length = 8 := by rw [mm.len]; exact hlen
 have mb := mm.base
 have l7 : 7 < (evZ ρ).length := by unfold evZ; simp [hlen]
 have h7 : (evZ ρ)[7]? = some none := by unfold evZ; rw [List.getElem?_set_self (by simp [hlen])]
 refine ⟨by show 0 ≤ sizeLine; decide, fun a ha => ?_⟩
 have s1 : Zx H (upd H a (.lst [])) := zN ha
 refine ⟨.ref a, Zu (by rw [hσ]; decide), by show 1 ≤ sizeLine; decide, fun w hw => ?_⟩
 have hwa : w ≠ a := fun e => by rw [e, zK] at hw; cases hw
 have s2 : Zx (upd H a (.lst [])) (upd (upd H a (.lst [])) w (.lst [.ref a])) := zN hw
 have hwH : H w = none := s1.free hw
 have nB : ∀ y, H y = none → ¬ B₀ y := fun y hy hb => by obtain ⟨u, qu⟩ := mm.blk y hb; rw [hy] at qu; cases qu
 generalize hH2 : upd (upd H a (.lst [])) w (.lst [V.ref a]) = H2 at *
 have w2 : H2 w = some (.lst [.ref a]) := by rw [← hH2, zK]
 have a2 : H2 a = some (.lst []) := by rw [← hH2, zI (Ne.symm hwa), zK]
 have z0 : Zp K H B₀ H2 w a [] [] [] := by
  refine ⟨w2, ⟨[], a2, .nil⟩, trivial, by simp [hwa], fun y hy => ?_⟩
  rcases List.mem_cons.mp hy with rfl | hy
  ·exact ⟨hwH, nB _ hwH⟩
  ·rw [List.mem_singleton.mp hy]; exact ⟨ha, nB _ ha⟩
 have s12 := s1.trans s2
 have g12 : Goes H H2 B₀ (Bo B₀ w a []) := by
  refine ⟨fun e xs qq => Rd.same s12 qq, fun e xs qq n => ⟨Rd.same s12 qq, fun z => ?_⟩, fun e xs qq n => ⟨s12 _ _ qq, fun z => ?_⟩, fun e o u qq => s12 _ _ qq, fun e xs qq => s12 _ _ qq⟩
  ·rcases z with z | z
   ·exact n z
   ·rcases List.mem_cons.mp z with rfl | z
    ·rcases qq with qq | ⟨ob, qq⟩ <;> (rw [hwH] at qq; cases qq)
    ·rw [List.mem_singleton.mp z] at qq
     rcases qq with qq | ⟨ob, qq⟩ <;> (rw [ha] at qq; cases qq)
  ·rcases z with z | z
   ·exact n z
   ·rcases List.mem_cons.mp z with rfl | z
    ·rw [hwH] at qq; cases qq
    ·rw [List.mem_singleton.mp z, ha] at qq; cases qq
 have m2 : Md K H (Bo B₀ w a []) [] ((σ.set 4 (some (.ref a))).set 5 (some (.ref w))) H2 (evZ ρ) := by
  have m := mb.go g12 s12 (bo_le (fun y hy => by obtain ⟨u, qu⟩ := mm.blk y hy; exact ⟨u, s12 _ _ qu⟩) z0)
  exact md_blank ((m.forget (i := 4) (v := some (.ref a)) (by simp)).forget (i := 5) (v := some (.ref w)) (by simp)) 7
 have st0 : St13 K H B₀ (evZ ρ) p [] [] ((σ.set 4 (some (.ref a))).set 5 (some (.ref w))) H2 := by
  refine ⟨w, a, [], (evZ ρ)[6]?.join, ?_, z0, Zu (by simp [hσ]), ?_, ?_⟩
  ·have e : (evZ ρ).set 6 ((evZ ρ)[6]?.join) = evZ ρ := by
    have l6 : 6 < (evZ ρ).length := by omega
    rw [List.getElem?_eq_getElem l6]
    exact List.set_getElem_self l6
   rw [e]; exact m2
  ·rw [zt (by decide)]; exact Zu (by rw [hσ]; decide)
  ·rw [zt (by decide), zt (by decide)]; exact h0
 have e00 : (evZ ρ)[0]? = some (some (.lst (cs.map .int))) := by
  unfold evZ
  rw [zt (by decide), zt (by decide), zt (by decide)]
  exact join_get q3
 have cells : ∀ {top fs σ' H'}, St13 K H B₀ (evZ ρ) p top fs σ' H' → SqL K H' p (cs.map V.int) := fun {top fs σ' H'} st => by
  obtain ⟨w', a', as', z', md, -, -, -, g0⟩ := st.ex
  obtain ⟨v, u1, u2⟩ := md.sh 0 _ (by rw [zt (by decide)]; exact e00) (by simp)
  rw [g0] at u1; cases u1
  simp only [Rep] at u2
  obtain ⟨p', xs, ep, hl, hr⟩ := u2
  cases ep
  rw [hr.ints'] at hl
  exact hl.sq
 have h0' : (((σ.set 4 (some (V.ref a))).set 5 (some (.ref w))) : St)[0]? = some (some (.ref p)) := by
  rw [zt (by decide), zt (by decide)]; exact h0
 refine ⟨.ref p, h0', p, rfl, ⟨_, cells st0⟩, ?_⟩
 refine ⟨fun i n σ' H' => n = cs.length - i ∧ i ≤ cs.length ∧ ∃ top fs, St13 K H B₀ (evZ ρ) p top fs σ' H' ∧ goZ (fun c => f ((evZ ρ).set 6 (some (.int c)))) (cs.drop i) top fs = some res, ⟨cs.length, by simp, Nat.zero_le _, [], [], st0, by simpa using q7⟩, ?_⟩
 rintro i n σ' H' ⟨rfl, hile, top, fs, st, hg⟩
 have hc := cells st
 by_cases hlt : i < cs.length
 ·right
  rw [List.drop_eq_getElem_cons hlt] at hg
  simp only [goZ] at hg
  obtain ⟨d, r1, r2⟩ := zh hg
  obtain ⟨⟨top', fs'⟩, r3, r4⟩ := zh r2
  refine ⟨⟨_, .int cs[i], hc, by simp [hlt]⟩, fun σ2 H3 => St13 K H B₀ (evZ ρ) p top' fs' σ2 H3, fun σ2 H3 st2 => ⟨cs.length - (i + 1), by omega, rfl, hlt, top', fs', st2, r4⟩, fun x H3 y => ?_⟩
  obtain ⟨rfl, hy⟩ := y
  have hx := hy _ hc
  rw [List.getElem?_map, List.getElem?_eq_getElem hlt] at hx
  cases hx
  obtain ⟨w', a', as', z', md, zp, g5, g4, g0⟩ := st.ex
  have hσ' : σ'.length = 8 := by rw [md.len, List.length_set]; unfold evZ; simp [hlen]
  have md2 := md.put (i := 6) (os' := []) (v := .int cs[i]) (d := .int cs[i]) (fun _ z => nomatch z) (fun _ z => nomatch z) (by simp [Rep])
  rw [List.set_set] at md2
  exact step13 (E := { nx := fun _ _ => True, rt := E.rt, bk := tRet (tVar 4) E, ct := fun _ _ => True }) hrow mm.blk h7 md2 zp (by rw [zt (by decide)]; exact g5) (by rw [zt (by decide)]; exact g4) (by rw [zt (by decide)]; exact g0) (Zu (by rw [hσ']; decide)) r1 r3 fun σ2 H4 h => h
 ·left
  have hi : i = cs.length := by omega
  subst hi
  rw [List.drop_length] at hg
  cases hg
  refine ⟨⟨_, hc, by simp⟩, ?_⟩
  obtain ⟨w', a', as', z', md, zp, g5, g4, g0⟩ := st.ex
  refine ⟨_, g4, k _ H' (mm.grow.trans md.grow) (fun y hy => md.blk y (.inl hy)) zp.root⟩
end
theorem sss_b13 {X : Cx} {ol : List Nat} {s1 s2 s4 : Stmt} {rest : List Stmt} {tg it t7 : Expr} {p7 pf : Pos} {te : TE} {f : Ev → Option D} {er : Expr} (hr : SR X true [] er te f) (hp : PE X er te → PSs X [s1, s2, .For tg it (.Assign [t7] er p7 :: rest) [] pf, s4] (tB13 X.K te)) : SSs X false [] [] ol [s1, s2, .For tg it (.Assign [t7] er p7 :: rest) [] pf, s4] (tB13 X.K te) (mB13 f) :=
 ⟨hp hr.pe, sok_b13 fun H₀ B₀ σ H ρ d Q md hf k => hr.ok H₀ B₀ σ H ρ d Q md hf fun v H' s fr => k v H' s (by
  have e : BB true B₀ [] σ = B₀ := bl_nil
  rw [e] at fr; exact fr)⟩
end M
namespace L2
open PySem PySem.Spec PyProof.Rows
theorem range_has {prog : Program} {w : World} {A : Around} {E : Value → Shared → Prop} {s : Shared} {r : Addr} {a b i : Int} {t u v t' : Tok} {Q : Bool → Shared → Prop} (hr : IsRange s.heap r a b 1 t u v) (h : Q (decide (a ≤ i ∧ i < b)) s) :
  wpAny (model prog w) A (contains (.ref r) (.int i t')) Q E s := by
 have T : s.TypeIs (.ref r) "range" := ⟨_, hr, rfl⟩
 refine contains_slot T F.slot_range_contains ?_
 refine wpAny_call_entry F.slot_range_contains T F.entry_range_contains ?_ (F.args_range_contains_2 _ _)
 unfold Builtin.«range.__contains__»
 rw [show slotArgs "__contains__" 1 { pos := [Value.ref r, .int i t'] } = pure (Value.ref r, [Value.int i t']) by rfl]
 refine wpAny_bind (wpAny_pure ?_)
 dsimp only
 rw [show Builtin.Range.rangeExactInt? (.int i t') = some i by rfl]
 refine wpAny_bind (wpAny_rule ?_)
 unfold Builtin.Range.rangeFields
 refine wpAny_bind (wpAny_bind (wpAny_field hr rfl (i := 0) (x := .int a t) rfl ?_))
 refine wpAny_bind (wpAny_pure ?_)
 refine wpAny_bind (wpAny_field hr rfl (i := 1) (x := .int b u) rfl ?_)
 refine wpAny_bind (wpAny_pure ?_)
 refine wpAny_bind (wpAny_field hr rfl (i := 2) (x := .int 1 v) rfl ?_)
 refine wpAny_bind (wpAny_pure ?_)
 refine wpAny_pure ?_
 dsimp only
 refine wpAny_pure ⟨_, rfl, wpAny_truthy_bool ?_⟩
 have e : (Builtin.Range.rangePlace? a b 1 i).isSome = decide (a ≤ i ∧ i < b) := by
  unfold Builtin.Range.rangePlace?
  by_cases h1 : a ≤ i <;> by_cases h2 : i < b <;> simp [h1, h2, Int.emod_one]
 rw [e]
 exact h
section
variable {X : Cx}
def tInR (neg : Bool) (te : TE) (tl : TA) : TE := fun σ H Q => te σ H fun x H1 => tl σ H1 fun vs H2 => ∃ i lo hi : Int, x = .int i ∧ ((vs = [.int hi] ∧ lo = 0) ∨ vs = [.int lo, .int hi]) ∧ Q (.bl (if neg then !decide (lo ≤ i ∧ i < hi) else decide (lo ≤ i ∧ i < hi))) H2
theorem in_range_ {pins : List (Addr × Obj)} {σ : St} {H : Hp} {s : Shared} {r : Addr} {a b i : Int} {t u v t' : Tok} {Q : VK} (neg : Bool) (I : Inv X pins σ H s) (hr : IsRange s.heap r a b 1 t u v) (q : Q (.bl (if neg then !decide (a ≤ i ∧ i < b) else decide (a ≤ i ∧ i < b))) H) :
  wpAny (model X.prog X.w) X.A (compareOp (if neg then .NotIn else .In) (.int i t') (.ref r)) (EP X pins σ Q) X.xe s := by
 cases neg with
 | false => exact wpAny_bind (range_has hr (wpAny_pure ⟨.bl _, H, I, rfl, q⟩))
 | true => exact wpAny_bind (range_has hr (wpAny_pure ⟨.bl _, H, I, rfl, q⟩))
theorem pc_inR1 (neg : Bool) {e a : Expr} {te ta : TE} {p pos : Pos} (hg : Gl X "range") (hm : X.mg "range" = none) (he : PE X e te) (ha : PE X a ta) (h1 : starEach [a] X.env = (false, eval a X.env) :: starEach [] X.env := by rfl) (hs : starEach [a] X.env = [(false, eval a X.env)] := by rfl) :
  PC X (if neg then .NotIn else .In) e (.Call (.Name "range" p) [a] [] pos) (tInR neg te (Zi ta tNil)) := by
 intro pins s σ H Q I h
 refine thn (he pins s σ H _ I h) fun v s1 ⟨x, H1, I1, rx, q1⟩ => ?_
 refine Call_ (ld_blt I1 hg hm boot_range (PyProof.Rows.callWith_type1 (thn ((zT ha Zv h1) pos pins s1 σ H1 _ I1 q1) fun us s2 ⟨vs, H2, I2, r2, i, lo, hi, ex, en, q2⟩ => ?_) hs rfl))
 subst ex
 obtain ⟨t', rfl⟩ := rx
 rcases en with ⟨rfl, rfl⟩ | rfl
 ·cases r2 with
  | cons r rr =>
   cases rr
   obtain ⟨t, rfl⟩ := r
   refine call_range_1 ?_
   exact in_range_ neg (I2.kept fun b o e => Heap.get?_push_of_some _ e) (IsRange.new ..) q2
 ·cases r2 with
  | cons r rr => cases rr with
   | cons r' rr => cases rr; obtain ⟨t, rfl⟩ := r; obtain ⟨t2, rfl⟩ := r'; exact call_range_2 (in_range_ neg (I2.kept fun b o e => Heap.get?_push_of_some _ e) (IsRange.new ..) q2)
theorem pc_inR2 (neg : Bool) {e a b : Expr} {te ta tb : TE} {p pos : Pos} (hg : Gl X "range") (hm : X.mg "range" = none) (he : PE X e te) (ha : PE X a ta) (hb : PE X b tb) (h1 : starEach [a, b] X.env = (false, eval a X.env) :: starEach [b] X.env := by rfl) (h2 : starEach [b] X.env = (false, eval b X.env) :: starEach [] X.env := by rfl)
  (hs : starEach [a, b] X.env = [(false, eval a X.env), (false, eval b X.env)] := by rfl) (hs2 : starEach [b] X.env = [(false, eval b X.env)] := by rfl) :
  PC X (if neg then .NotIn else .In) e (.Call (.Name "range" p) [a, b] [] pos) (tInR neg te (Zi ta (Zi tb tNil))) := by
 intro pins s σ H Q I h
 refine thn (he pins s σ H _ I h) fun v s1 ⟨x, H1, I1, rx, q1⟩ => ?_
 refine Call_ (ld_blt I1 hg hm boot_range (PyProof.Rows.callWith_type1 (thn ((zT ha (zT hb Zv h2) h1) pos pins s1 σ H1 _ I1 q1) fun us s2 ⟨vs, H2, I2, r2, i, lo, hi, ex, en, q2⟩ => ?_) (by rw [hs, hs2]) (by rw [hs2]; rfl)))
 subst ex
 obtain ⟨t', rfl⟩ := rx
 rcases en with ⟨rfl, rfl⟩ | rfl
 ·cases r2 with
  | cons r rr =>
   cases rr
   obtain ⟨t, rfl⟩ := r
   refine call_range_1 ?_
   exact in_range_ neg (I2.kept fun b o e => Heap.get?_push_of_some _ e) (IsRange.new ..) q2
 ·cases r2 with
  | cons r rr => cases rr with
   | cons r' rr => cases rr; obtain ⟨t, rfl⟩ := r; obtain ⟨t2, rfl⟩ := r'; exact call_range_2 (in_range_ neg (I2.kept fun b o e => Heap.get?_push_of_some _ e) (IsRange.new ..) q2)
def rDGet2 : V → List V → Hp → VK → Prop := fun x vs H Q => ∃ (a : Addr) (kvs : List (Key × V)) (k : Key) (z : V), x = .ref a ∧ vs = [kV k, z] ∧ H a = some (.dK kvs) ∧ Q ((valV kvs k).getD z) H
theorem mt_dget2 : MtR X "dict.get" rDGet2 := by
 intro pins s σ H x vs v us Q I rx rv h
 obtain ⟨a, kvs, k, z, rfl, rfl, hH, q⟩ := h
 cases rx
 obtain ⟨hz, hd, ws, rel, dd⟩ := dk_of I.hok hH
 cases rv with
 | cons r1 rr =>
  cases rr with
  | cons r2 rr =>
   cases rr
   rename_i u1 u2
   have T : s.TypeIs (.ref a) "dict" := by
    have g : DGet H a (kV k) (valV kvs k) := .k hH
    exact dict_typeIs I g
   refine wpAny_call_entry F.slot_dict_get T F.entry_dict_get ?_ (F.args_dict_get_3 _ _ _)
   unfold Builtin.«dict.get»
   rw [show Builtin.Dict.keyAndDefault "get" { pos := [Value.ref a, u1, u2] } = pure (a, u1, some u2) by rfl]
   refine wpAny_bind (wpAny_pure ?_)
   dsimp only
   refine wpAny_bind (wpAny_dictGet_of (kV_is r1) dd.mapOf ?_)
   have hv := rel.val k
   cases e : valV kvs k with
   | none =>
    rw [e] at hv q
    have : valueAt ws k = none := by cases w : valueAt ws k with
     | none => rfl
     | some _ => rw [w] at hv; cases hv
    rw [this]
    dsimp only
    refine wpAny_bind (wpAny_missed_other hd ?_)
    dsimp only
    exact wpAny_pure ⟨_, rfl, z, H, I.tok _, r2, q⟩
   | some y =>
    rw [e] at hv q
    obtain ⟨w', hw, rw'⟩ := RelO.some_of (v := y) (o := valueAt ws k) hv
    rw [hw]
    dsimp only
    exact wpAny_pure ⟨_, rfl, y, H, I.tok _, rw', q⟩
theorem noFill_tuple_mul : fillsNumberSlot (Value.type "tuple") "mul" = pure false := by kernel_rfl
theorem repeat_tuple : seqRepeat? (Value.type "tuple") = pure (some (Value.builtin "tuple.__mul__")) := by kernel_rfl
def rRepT (K : PySem.W.Frag) : R2 := fun x y H Q => ∃ l k xs, x = .ref l ∧ y = .int k ∧ SqT K H l xs ∧ xs ≠ [] ∧ 0 < k ∧ xs.length * k.toNat ≤ 1000 ∧ k ≤ 1000 ∧ (k = 1 → Q (.ref l) H) ∧ (k ≠ 1 → ∀ p, H p = none → Q (.ref p) (upd H p (.tup (List.replicate k.toNat xs).flatten)))
theorem op_repT {K' : PySem.W.Frag} (hK : X.K = K' := by rfl) : OpR X (binaryOp .Mult) (rRepT K') := by
 subst hK
 intro pins s σ H x y v u Q I rx ry h
 obtain ⟨l, k, xs, rfl, rfl, hq, hne, h1, hz, hk, q1, q2⟩ := h
 cases rx
 obtain ⟨t, rfl⟩ := ry
 obtain ⟨its, r, hT, hlen⟩ := I.tuple hq
 have hT0 := hT
 obtain ⟨o, ho, hc, n, hd⟩ := hT
 have T : s.TypeIs (.ref l) "tuple" := ⟨o, ho, hc⟩
 have hl := r.length
 refine wpAny_binaryOp_repeat_ref (T := "tuple") (U := "int") (by decide) T (fun s' => typeIs_int s' k t) noFill_tuple_mul F.fills_int_mul F.slot_int_rmul repeat_tuple F.slot_int_index.lookup ?_
 refine wpAny_call_entry F.slot_int_rmul (typeIs_int s k t) F.entry_int_rmul ?_ (F.args_int_rmul_2 _ _)
 unfold Builtin.«int.__rmul__» Builtin.Int.intBinary
 rw [show slotArgs "__rmul__" 1 { pos := [Value.int k t, Value.ref l] } = pure (Value.int k t, [Value.ref l]) by rfl]
 refine wpAny_bind (wpAny_pure ?_)
 dsimp only
 rw [show Builtin.Int.intOfSelf (Value.int k t) = pure k by rfl]
 refine wpAny_bind (wpAny_pure ?_)
 refine wpAny_bind ?_
 show wpAny _ _ (asInt? (Value.ref l)) _ _ _
 unfold asInt?
 refine wpAny_bind (wpAny_load ho ?_)
 rw [hd]
 refine wpAny_pure ?_
 refine wpAny_bind (wpAny_rule ?_)
 refine wpAny_pure ⟨_, rfl, rfl, T, ?_⟩
 refine wpAny_call_entry F.slot_tuple_mul T F.entry_tuple_mul ?_ (F.args_tuple_mul_2 _ _)
 refine wpAny_bind ?_
 rw [show asIndex (Value.int k t) = pure k by rfl]
 refine wpAny_pure ?_
 dsimp only
 rw [if_neg (by simp; omega)]
 unfold Builtin.Tuple.tupleItemsOf
 refine wpAny_bind (wpAny_bind (wpAny_seqItems ho hd ?_))
 refine wpAny_pure ?_
 have hne' : its ≠ [] := fun e => by rw [e] at hl; exact hne (List.eq_nil_of_length_eq_zero hl)
 have hem : its.toArray.isEmpty = false := by
  cases its with
  | nil => exact absurd rfl hne'
  | cons _ _ => rfl
 rw [hem, Bool.false_or]
 by_cases hk1 : k = 1
 ·subst hk1
  rw [if_pos (by rfl)]
  unfold Builtin.Tuple.tupleIsExact
  refine wpAny_bind (wpAny_bind (wpAny_typeOf T ?_))
  refine wpAny_pure ?_
  rw [if_pos (by rfl)]
  refine wpAny_bind (wpAny_rule ?_)
  exact wpAny_pure ⟨_, rfl, .ref l, H, I, rfl, q1 rfl⟩
 ·rw [if_neg (by simpa using hk1)]
  rw [if_neg (by simp; omega)]
  have hsz : its.toArray.size * k.toNat ≤ 1000 := by rw [List.size_toArray, ← hl]; exact hz
  have hcast : (its.toArray.size : Int) * k ≤ 1000 := by
   have : ((its.toArray.size * k.toNat : Nat) : Int) = (its.toArray.size : Int) * k := by
    rw [Int.natCast_mul, Int.toNat_of_nonneg (by omega)]
   omega
  rw [if_neg (by omega)]
  have htm : Builtin.Tuple.tupleTooMany ((its.toArray.size : Int) * k) = false := by
   unfold Builtin.Tuple.tupleTooMany
   exact decide_eq_false (Int.not_lt.mpr (Int.le_trans hcast (by decide)))
  rw [htm, if_neg Bool.false_ne_true]
  have f0 : List.foldl (fun x1 x2 => x1 ++ x2) #[] (List.replicate k.toNat its.toArray) = (List.replicate k.toNat its).flatten.toArray := by
   have := foldl_rep its k.toNat []
   rw [List.nil_append] at this
   exact this
  have hlen2 : (List.replicate k.toNat its).flatten.length ≤ sizeLine := by
   rw [len_rep, Nat.mul_comm]
   rw [List.size_toArray] at hsz
   exact Nat.le_trans hsz (by decide)
  rw [f0]
  unfold Builtin.Tuple.tupleExact
  refine wpAny_bind (wpAny_newObj_type ?_ (by exact hlen2))
  have rr : Za (List.replicate k.toNat xs).flatten (List.replicate k.toNat its).flatten := by
   generalize k.toNat = m
   induction m with
   | zero => exact .nil
   | succ m ih =>
    rw [List.replicate_succ, List.replicate_succ, List.flatten_cons, List.flatten_cons]
    exact Za.append r ih
  have hf : H s.heap.objs.size = none := I.hok.fresh (Nat.le_refl _)
  refine wpAny_pure ⟨_, rfl, .ref s.heap.objs.size, upd H s.heap.objs.size (.tup (List.replicate k.toNat xs).flatten), I.laid (t' := s.toks) (fun b u e => Heap.get?_push_of_some _ e) (Nat.le_refl _) ?_, rfl, q2 hk1 _ hf⟩
  exact ⟨by rw [rr.length]; exact hlen2, _, rr, ⟨_, Heap.get?_push_size _ rfl, rfl, _, rfl⟩⟩
end
end L2
namespace M
open PySem PySem.Spec L2
open PySem.W (Frag)
def inR (neg : Bool) (lo hi i : Int) : Bool := if neg then !decide (lo ≤ i ∧ i < hi) else decide (lo ≤ i ∧ i < hi)
def fInR1 (neg : Bool) (fe fa : Ev → Option D) : Ev → Option Bool := fun ρ => (fe ρ).bind fun d => (asI d).bind fun i => (fa ρ).bind fun d' => (asI d').map fun n => inR neg 0 n i
def fInR2 (neg : Bool) (fe fa fb : Ev → Option D) : Ev → Option Bool := fun ρ => (fe ρ).bind fun d => (asI d).bind fun i => (fa ρ).bind fun d' => (asI d').bind fun lo => (fb ρ).bind fun d'' => (asI d'').map fun hi => inR neg lo hi i
def shOk (d : D) : Bool := (zV d).canLay0 && (zV d).showable && !(zV d).hasDict && decide ((zV d).depth ≤ 60) && decide ((zV d).shown.length ≤ sizeLine)
def gRepr : List D → Option D
 | [d] => if shOk d = true then some (.str (zV d).shown) else none
 | _ => none
def gStrI : List D → Option D
 | [.int i] => if i.natAbs.log2 < 1920 then some (.str (toString i)) else none
 | _ => none
def dRepT : D → D → Option D
 | .tup ds, .int k => if ds ≠ [] ∧ 0 < k ∧ ds.length * k.toNat ≤ 1000 ∧ k ≤ 1000 then some (.tup (List.replicate k.toNat ds).flatten) else none
 | _, _ => none
def gGet2 (x y z : D) : Option D := match x, y with
 | .dict ks ds, .int i => some ((lookD ks ds (.inl i)).getD z)
 | _, _ => none
def fGet2 (fo fk fz : Ev → Option D) : Ev → Option D := fun ρ => (fo ρ).bind fun x => (fk ρ).bind fun y => (fz ρ).bind fun z => gGet2 x y z
def dInL (neg : Bool) (x y : D) : Option D := match y with
 | .lst ds => if pyOk x = true ∧ pyOk (.lst ds) = true ∧ (Zy ds).all (fun y => SeqAt.noMix y (zV x)) = true then some (.bl (if neg then !decide (countIn (zV x) (Zy ds) ≠ 0) else decide (countIn (zV x) (Zy ds) ≠ 0))) else none
 | _ => none
theorem look_none' : ∀ {kvs : List (Key × V)} {ds : List D} {k : Key}, (kvs.map (·.2)).length = ds.length → lookD (kvs.map (·.1)) ds k = none → valV kvs k = none
 | [], ds, k, h, e => rfl
 | kv :: kvs, [], k, h, e => by simp at h
 | kv :: kvs, x :: ds, k, h, e => by
  simp only [List.map_cons, lookD] at e
  by_cases hk : kv.1 = k
  ·rw [if_pos hk] at e; cases e
  ·rw [if_neg hk] at e
   have := look_none' (by simpa using h) e
   simpa [valV, hk] using this
section
variable {X : Cx} {st : Bool} {os : List Nat} {a b e o : Expr} {ta tb te to : TE} {fa fb fe fo : Ev → Option D} {p pos : Pos} {k : Nat}
theorem sb_inR1 (neg : Bool) (hg : Gl X "range") (hm : X.mg "range" = none) (he : SE X false os e te fe) (ha : SE X false os a ta fa) (h1 : starEach [a] X.env = (false, eval a X.env) :: starEach [] X.env := by rfl) (hs : starEach [a] X.env = [(false, eval a X.env)] := by rfl) {pos2 : Pos}
  (hb : behindInMarks (if neg then .NotIn else .In) (.Call (.Name "range" p) [a] [] pos) = false := by rfl) : SB X os (.Compare e [if neg then .NotIn else .In] [.Call (.Name "range" p) [a] [] pos] pos2) (tB (tInR neg te (Zi ta tNil))) (fInR1 neg fe fa) :=
 ⟨pt_cmp (pc_inR1 neg hg hm he.pe ha.pe h1 hs) hb, fun H₀ B₀ σ H ρ b Q m q kk => by
 obtain ⟨x, q1, q2⟩ := zh q
 obtain ⟨i, q3, q4⟩ := zh q2
 obtain ⟨y, q5, q6⟩ := zh q4
 obtain ⟨n, q7, rfl⟩ := map_some q6
 refine he.ok H₀ B₀ σ H ρ x _ m q1 fun v H1 s1 r1 => ?_
 refine ha.ok H₀ B₀ σ H1 ρ y _ (m.up s1) q5 fun u H2 s2 r2 => ?_
 have e1 := asI_v r1 q3
 have e2 := asI_v r2 q7
 subst e1; subst e2
 exact ⟨i, 0, n, rfl, .inl ⟨rfl, rfl⟩, inR neg 0 n i, rfl, kk H2 (s1.trans s2)⟩⟩
theorem sb_inR2 (neg : Bool) (hg : Gl X "range") (hm : X.mg "range" = none) (he : SE X false os e te fe) (ha : SE X false os a ta fa) (hb' : SE X false os b tb fb) (h1 : starEach [a, b] X.env = (false, eval a X.env) :: starEach [b] X.env := by rfl) (h2 : starEach [b] X.env = (false, eval b X.env) :: starEach [] X.env := by rfl)
  (hs : starEach [a, b] X.env = [(false, eval a X.env), (false, eval b X.env)] := by rfl) (hs2 : starEach [b] X.env = [(false, eval b X.env)] := by rfl) {pos2 : Pos}
  (hb : behindInMarks (if neg then .NotIn else .In) (.Call (.Name "range" p) [a, b] [] pos) = false := by rfl) : SB X os (.Compare e [if neg then .NotIn else .In] [.Call (.Name "range" p) [a, b] [] pos] pos2) (tB (tInR neg te (Zi ta (Zi tb tNil)))) (fInR2 neg fe fa fb) :=
 ⟨pt_cmp (pc_inR2 neg hg hm he.pe ha.pe hb'.pe h1 h2 hs hs2) hb, fun H₀ B₀ σ H ρ b Q m q kk => by
 obtain ⟨x, q1, q2⟩ := zh q
 obtain ⟨i, q3, q4⟩ := zh q2
 obtain ⟨y, q5, q6⟩ := zh q4
 obtain ⟨lo, q7, q8⟩ := zh q6
 obtain ⟨z, q9, q10⟩ := zh q8
 obtain ⟨hi, q11, rfl⟩ := map_some q10
 refine he.ok H₀ B₀ σ H ρ x _ m q1 fun v H1 s1 r1 => ?_
 refine ha.ok H₀ B₀ σ H1 ρ y _ (m.up s1) q5 fun u H2 s2 r2 => ?_
 refine hb'.ok H₀ B₀ σ H2 ρ z _ (m.up (s1.trans s2)) q9 fun w' H3 s3 r3 => ?_
 have e1 := asI_v r1 q3
 have e2 := asI_v r2 q7
 have e3 := asI_v r3 q11
 subst e1; subst e2; subst e3
 exact ⟨i, lo, hi, rfl, .inr rfl, inR neg lo hi i, rfl, kk H3 ((s1.trans s2).trans s3)⟩⟩
theorem se_get2 {kx z : Expr} {tk tz : TE} {fk fz : Ev → Option D} {apos cpos : Pos} (ho : SE X st os o to fo) (hk : SE X st os kx tk fk) (hz : SE X st os z tz fz) (h1 : starEach [kx, z] X.env = (false, eval kx X.env) :: starEach [z] X.env := by rfl) (h2 : starEach [z] X.env = (false, eval z X.env) :: starEach [] X.env := by rfl)
  (hbase : attributeBase o "get" X.env (eval o X.env) = eval o X.env := by rfl)
  (hfew : ((backTo cpos (starEach [kx, z] X.env)).all (fun x => !x.1) && (backToKw cpos (keywordEach [] X.env)).all (fun x => x.1.isSome)
   && decide ([kx, z].length + ([] : List Keyword).length + (if ([] : List Keyword).isEmpty then 0 else 1) < 30)) = true := by rfl)
  (hline : (apos.endLine == cpos.line) = true := by rfl) (hplain : (backTo cpos (starEach [z] X.env)).any (·.1) = false := by rfl) {K' : Frag} (hK : X.K = K' := by rfl) :
  SE X st os (.Call (.Attribute o "get" apos) [kx, z] [] cpos) (tBM K' "dict" rDGet2 to (Zi tk (Zi tz tNil))) (fGet2 fo fk fz) := by
 subst hK
 exact ⟨pe_bm PySem.F.plainAttrs_dict PySem.F.slot_dict_get PySem.F.type_dict_get mt_dget2 ho.pe (zT hk.pe (zT hz.pe Zv h2) h1) hbase hfew hline h1 hplain, fun H₀ B₀ σ H ρ d Q m q kk => by
 obtain ⟨x, q1, q2⟩ := zh q
 obtain ⟨y, q3, q4⟩ := zh q2
 obtain ⟨zz, q5, q6⟩ := zh q4
 refine ho.ok H₀ B₀ σ H ρ x _ m q1 fun v H1 s1 r1 => ?_
 cases x <;> cases y <;> simp only [gGet2] at q6 <;> try (cases q6)
 simp only [Rep] at r1
 obtain ⟨p', kvs, rfl, ⟨hp, hnb⟩, rfl, hr⟩ := r1
 refine ⟨.inr (.inr (.inl ⟨rfl, .inl ⟨kvs, hp⟩⟩)), ?_⟩
 refine hk.ok H₀ B₀ σ H1 ρ _ _ (m.up s1) q3 fun u H2 s2 r2 => ?_
 refine hz.ok H₀ B₀ σ H2 ρ _ _ (m.up (s1.trans s2)) q5 fun w' H3 s3 r3 => ?_
 simp only [Rep] at r2
 subst r2
 rename_i i
 refine ⟨p', kvs, .inl i, w', rfl, rfl, s3 _ _ (s2 _ _ hp), ?_⟩
 have hr3 := hr.up (s2.trans s3)
 cases e : lookD (kvs.map (·.1)) _ (.inl i) with
 | none =>
  have hv : valV kvs (.inl i) = none := by
   cases e' : valV kvs (.inl i) with
   | none => rfl
   | some y' =>
    exfalso
    have := look_none' hr3.length e
    rw [this] at e'; cases e'
  rw [hv]
  exact kk _ H3 ((s1.trans s2).trans s3) (by rw [e]; exact r3)
 | some d' =>
  obtain ⟨y', g1, g2⟩ := look_v hr3 e
  rw [g1]
  exact kk _ H3 ((s1.trans s2).trans s3) (by rw [e]; exact g2)⟩
theorem rok_repT {K : Frag} : ROk K (rRepT K) dRepT := fun H B x y d1 d2 d Q hB r1 r2 e kk => by
 cases d1 <;> cases d2 <;> simp only [dRepT] at e <;> try (cases e)
 split at e
 case isFalse => cases e
 rename_i hc
 cases e
 simp only [Rep] at r1 r2
 obtain ⟨l, xs, rfl, hq, hr⟩ := r1
 subst r2
 rename_i ds n
 have hl := hr.length
 refine ⟨l, n, xs, rfl, rfl, hq, fun z => ?_, hc.2.1, by rw [hl]; exact hc.2.2.1, hc.2.2.2, fun h1 => ?_, fun h1 p hp => ?_⟩
 ·rw [z] at hl; exact hc.1 (List.eq_nil_of_length_eq_zero hl.symm)
 ·subst h1
  refine kk _ H (.refl H) ?_
  simp only [Rep]
  exact ⟨l, xs, rfl, hq, by simpa using hr⟩
 ·refine kk _ _ (zN hp) ?_
  simp only [Rep]
  exact ⟨p, _, rfl, .inl (.inl zK), (hr.rep n.toNat).up (zN hp)⟩
theorem se_repT (ha : SE X st os a ta fa) (hb : SE X st os b tb fb) {K' : Frag} (hK : X.K = K' := by rfl) : SE X st os (.BinOp a .Mult b pos) (tOp (rRepT K') ta tb) (f2 dRepT fa fb) := by
 subst hK
 exact zA op_repT rok_repT ha hb
theorem caok_strI {K : Frag} : CaOk K (fun xs H Q => ∃ i, xs = [.int i] ∧ i.natAbs.log2 < 1920 ∧ Q (.str (toString i)) H) gStrI := fun H B xs ds d Q hB r e kk => by
 cases ds with
 | nil => cases e
 | cons d0 ds =>
  cases ds with
  | cons _ _ => cases d0 <;> cases e
  | nil =>
   cases d0 <;> simp only [gStrI] at e <;> try (cases e)
   split at e
   case isFalse => cases e
   rename_i hc
   cases e
   obtain ⟨v, rfl, hv⟩ := reps1 r
   simp only [Rep] at hv
   subst hv
   exact ⟨_, rfl, hc, kk _ H (.refl H) (by simp [Rep])⟩
abbrev rReprD (K : Frag) : List V → Hp → VK → Prop := fun xs H Q => ∃ (x : V) (B : Addr → Prop) (d : D), xs = [x] ∧ Rep K H B d x ∧ shOk d = true ∧ Q (.str (zV d).shown) H
theorem call_reprD (hr : Room k X.A) : CallR X (.builtin "repr") (rReprD X.K) := by
 intro pins s σ H xs us Q I r h
 obtain ⟨x, B, d, rfl, hx, ho, q⟩ := h
 obtain ⟨u, rfl, ru⟩ := vals1 r
 unfold shOk at ho
 simp only [Bool.and_eq_true, decide_eq_true_eq, Bool.not_eq_true'] at ho
 obtain ⟨⟨⟨⟨o1, o2⟩, o3⟩, o4⟩, o5⟩ := ho
 have big : ∀ a, u = Value.ref a → wpAny (model X.prog X.w) X.A (call (.builtin "repr") [u]) (EP X pins σ Q) X.xe s := fun a ea => by
  obtain ⟨as, rd⟩ := Rep.reads I d x u o1 hx ru
  subst ea
  refine repr_of_reads' rd o2 (fun z => by rw [o3] at z; cases z) hr.gd (by have := hr.units; omega) (fun b o' e => e) (fun h' u' tk hk => ?_) o5
  exact ⟨.str _, H, I.kept hk, ⟨_, rfl⟩, q⟩
 cases d with
 | non => simp only [Rep] at hx; subst hx; cases ru; exact PySem.P.repr_of_none ⟨.str _, H, I.tok _, ⟨_, rfl⟩, q⟩
 | bl b => simp only [Rep] at hx; subst hx; cases ru; exact PySem.P.repr_of_bool ⟨.str _, H, I.tok _, ⟨_, rfl⟩, q⟩
 | int i => simp only [Rep] at hx; subst hx; obtain ⟨t, rfl⟩ := ru; exact PySem.P.repr_of_int (by simpa [zV, PyData.showable] using o2) ⟨.str _, H, I.tok _, ⟨_, rfl⟩, q⟩
 | str z => simp only [Rep] at hx; subst hx; obtain ⟨t, rfl⟩ := ru; exact PySem.P.repr_of_str ⟨.str _, H, I.tok _, ⟨_, rfl⟩, q⟩ (by simpa [zV, PyData.shown] using o5)
 | tup ds => simp only [Rep] at hx; obtain ⟨a, xs, rfl, _⟩ := hx; cases ru; exact big a rfl
 | lst ds => simp only [Rep] at hx; obtain ⟨a, xs, rfl, _⟩ := hx; cases ru; exact big a rfl
 | dict ks ds => simp only [Rep] at hx; obtain ⟨a, xs, rfl, _⟩ := hx; cases ru; exact big a rfl
 | scr ns => simp only [Rep] at hx; obtain ⟨a, rfl, _⟩ := hx; cases ru; exact big a rfl
 | adr a => simp only [Rep] at hx; subst hx; cases ru; exact big a rfl
 | kset ks => simp only [Rep] at hx; obtain ⟨a, rfl⟩ := hx; cases ru; exact big a rfl
 | tk ns => simp only [Rep] at hx; obtain ⟨a, rfl, _⟩ := hx; cases ru; exact big a rfl
 | pin a d => simp only [Rep] at hx; obtain ⟨rfl, _⟩ := hx; cases ru; exact big a rfl
theorem caok_repr {K : Frag} : CaOk K (rReprD K) gRepr := fun H B xs ds d Q hB r e kk => by
 cases ds with
 | nil => cases e
 | cons d0 ds =>
  cases ds with
  | cons _ _ => cases e
  | nil =>
   simp only [gRepr] at e
   split at e
   case isFalse => cases e
   rename_i hc
   cases e
   obtain ⟨v, rfl, hv⟩ := reps1 r
   exact ⟨v, B, d0, rfl, hv, hc, kk _ H (.refl H) (by simp [Rep])⟩
theorem boot_repr' : bootBuiltins "repr" = some (.builtin "repr") := by decide +kernel
theorem boot_str' : bootBuiltins "str" = some (.type "str") := by decide +kernel
theorem se_repr (hr : Room k X.A) (hg : Gl X "repr") (hm : X.mg "repr" = none) (ha : SA X st os [e] (Zi te tNil) (zc fe zl)) (he : starEach [e] X.env = (false, eval e X.env) :: starEach [] X.env := by rfl) (hpl : (backTo pos (starEach [] X.env)).any (·.1) = false := by rfl) {K' : Frag} (hK : X.K = K' := by rfl) :
  SE X st os (.Call (.Name "repr" p) [e] [] pos) (tCB (rReprD K') (Zi te tNil)) (fA gRepr (zc fe zl)) := by
 subst hK
 exact se_callB (call_reprD hr) caok_repr hg hm boot_repr' ha (by decide) (by decide) he hpl
theorem se_strI (hg : Gl X "str") (hm : X.mg "str" = none) (ha : SA X st os [e] (Zi te tNil) (zc fe zl)) (he : starEach [e] X.env = (false, eval e X.env) :: starEach [] X.env := by rfl) (hpl : (backTo pos (starEach [] X.env)).any (·.1) = false := by rfl) :
  SE X st os (.Call (.Name "str" p) [e] [] pos) (tCB (fun xs H Q => ∃ i, xs = [.int i] ∧ i.natAbs.log2 < 1920 ∧ Q (.str (toString i)) H) (Zi te tNil)) (fA gStrI (zc fe zl)) :=
 se_callTy call_str_int caok_strI hg hm boot_str' ha (by decide) (by decide) he hpl
abbrev rInD (K : Frag) (neg : Bool) : R2 := fun x y H Q => ∃ (B : Addr → Prop) (d : D) (ds : List D), Rep K H B d x ∧ Rep K H B (.lst ds) y ∧ pyOk d = true ∧ pyOk (.lst ds) = true ∧ (Zy ds).all (fun y => SeqAt.noMix y (zV d)) = true ∧ Q (.bl (if neg then !decide (countIn (zV d) (Zy ds) ≠ 0) else decide (countIn (zV d) (Zy ds) ≠ 0))) H
theorem op_inD (neg : Bool) (hr : Room k X.A) {K' : Frag} (hK : X.K = K' := by rfl) : OpR X (compareOp (if neg then .NotIn else .In)) (rInD K' neg) := by
 subst hK
 intro pins s σ H x y v u Q I rx ry h
 obtain ⟨B, d, ds, h1, h2, o1, o2, o3, q⟩ := h
 obtain ⟨as, r1⟩ := Rep.reads I d x v (SeqAt.canLay_of_shaped o1) h1 rx
 obtain ⟨bs, r2⟩ := Rep.reads I (.lst ds) y u (SeqAt.canLay_of_shaped o2) h2 ry
 simp only [zV] at r2
 have ou : X.A.units + 65 < cLine := by have := hr.un; omega
 have nm : ∀ z ∈ Zy ds, SeqAt.noMix z (zV d) = true := fun z hz => List.all_eq_true.mp o3 z hz
 have o2' : SeqAt.shaped (PyData.list (Zy ds)) = true := by have := o2; unfold pyOk at this; simpa only [zV] using this
 cases neg with
 | false => exact PyProof.Rows.in_list_dataH r2 r1 o2' o1 ou nm ⟨.bl _, H, I, rfl, q⟩
 | true => exact PyProof.Rows.notIn_list_dataH r2 r1 o2' o1 ou nm ⟨.bl _, H, I, rfl, q⟩
theorem rok_inD {K : Frag} (neg : Bool) : ROk K (rInD K neg) (dInL neg) := fun H B x y d1 d2 d Q hB r1 r2 e kk => by
 cases d2 <;> simp only [dInL] at e <;> try (cases e)
 split at e
 case isFalse => cases e
 rename_i hc
 cases e
 exact ⟨B, d1, _, r1, r2, hc.1, hc.2.1, hc.2.2, kk _ H (.refl H) rep_bl⟩
theorem sb_inD (neg : Bool) (hr : Room k X.A) (ha : SE X false os a ta fa) (hb : SE X false os b tb fb) (hm : behindInMarks (if neg then .NotIn else .In) b = false := by rfl) {K' : Frag} (hK : X.K = K' := by rfl) : SB X os (.Compare a [if neg then .NotIn else .In] [b] pos) (tTest (tOp (rInD K' neg) ta tb)) (zy (f2 (dInL neg) fa fb)) := by
 subst hK
 exact zU (op_inD neg hr) (rok_inD neg) ha hb hm
end
end M
namespace EV
open PySem L2 M
open PySem.W (Frag)
noncomputable def b_has_parts : Ev → Option Out :=
  (Zb (fAndV (f1 (gIsi "tuple") (ze 0)) (f2 dEqS (fA gLen (zu false (ze 0))) (ze 1))))
noncomputable def m_has_parts : List D → Option D := ZD 2 2 b_has_parts
noncomputable def b_is_number : Ev → Option Out :=
  (Zb (fAndV (f1 (gIsi "int") (ze 0)) (fAndV (fNotV (f1 (gIsi "bool") (ze 0))) (fChain dLe dLe (ze 1) (ze 0) (ze 2)))))
noncomputable def m_is_number : List D → Option D := ZD 3 3 b_is_number
noncomputable def b_is_set_line : Ev → Option Out :=
  (zG (mIf (fNot (zy (fA m_has_parts (zc (ze 0) (zc (f2 dAdd (ze 1) (fC (.int 1))) zl)))))
  (Zb (fC (.bl false)))
  Zl)
  (Zb (fA gAllB (zu true (fComp 1 (zu false (ze 0)) (uName 2) fYes (fA m_is_number (zc (ze 2) (zc (f1 dNeg (fC (.int 999999))) (zc (fC (.int 999999)) zl)))))))))
noncomputable def m_is_set_line : List D → Option D := ZD 2 2 b_is_set_line
noncomputable def b_are_rows (r_are_rows r_is_row : List D → Option D) : Ev → Option Out :=
  (Zb (fAndV (f1 (gIsi "list") (ze 0)) (fA gAllB (zu true (fComp 1 (zu true (ze 0)) (uName 4) fYes (fA r_is_row (zc (ze 4) (zc (ze 1) (zc (ze 2) (zc (ze 3) zl))))))))))
noncomputable def b_is_row (r_are_rows r_is_row : List D → Option D) : Ev → Option Out :=
  (zG (mIf (fOr (fNot (zy (f1 (gIsi "tuple") (ze 0)))) (zy (f2 dEqS (fA gLen (zu false (ze 0))) (fC (.int 0)))))
  (Zb (fC (.bl false)))
  Zl)
  (zG (Zo 4 (fIx (zu false (ze 0)) (fC (.int 0))))
  (zG (mIf (zy (f2 dEqS (ze 4) (fC (.str "set"))))
  (Zb (fAndV (fA m_has_parts (zc (ze 0) (zc (fC (.int 3)) zl))) (fAndV (fA m_is_number (zc (fIx (zu false (ze 0)) (fC (.int 1))) (zc (fC (.int 0)) (zc (f2 dSub (ze 1) (fC (.int 1))) zl)))) (fA m_is_set_line (zc (fIx (zu false (ze 0)) (fC (.int 2))) (zc (ze 1) zl))))))
  Zl)
  (zG (mIf (zy (f2 dEqS (ze 4) (fC (.str "take"))))
  (Zb (fAndV (fA m_has_parts (zc (ze 0) (zc (fC (.int 2)) zl))) (fA m_is_number (zc (fIx (zu false (ze 0)) (fC (.int 1))) (zc (fC (.int 0)) (zc (f2 dSub (ze 1) (fC (.int 1))) zl))))))
  Zl)
  (zG (mIf (fOr (zy (f2 dEqS (ze 4) (fC (.str "skip")))) (zy (f2 dEqS (ze 4) (fC (.str "halt")))))
  (Zb (fA m_has_parts (zc (ze 0) (zc (fC (.int 1)) zl))))
  Zl)
  (zG (mIf (zy (f2 dEqS (ze 4) (fC (.str "either"))))
  (Zb (fAndV (fA m_has_parts (zc (ze 0) (zc (fC (.int 3)) zl))) (fA gAllB (zu true (fComp 1 (zu false (fCutT (zu false (ze 0)) (fPart (fC (.int 1))) fNo)) (uName 5) fYes (fA r_are_rows (zc (ze 5) (zc (ze 1) (zc (ze 2) (zc (ze 3) zl))))))))))
  Zl)
  (zG (mIf (zy (f2 dEqS (ze 4) (fC (.str "loop"))))
  (Zb (fAndV (fA m_has_parts (zc (ze 0) (zc (fC (.int 2)) zl))) (fA r_are_rows (zc (fIx (zu false (ze 0)) (fC (.int 1))) (zc (ze 1) (zc (ze 2) (zc (ze 3) zl)))))))
  Zl)
  (zG (mIf (zy (f2 dEqS (ze 4) (fC (.str "call"))))
  (Zb (fAndV (fA m_has_parts (zc (ze 0) (zc (fC (.int 2)) zl))) (fA m_is_number (zc (fIx (zu false (ze 0)) (fC (.int 1))) (zc (ze 2) (zc (ze 3) zl))))))
  Zl)
  (Zb (fC (.bl false)))))))))))
noncomputable def zX : Nat → (List D → Option D) × (List D → Option D)
 | 0 => ((fun _ => none), (fun _ => none))
 | n + 1 => (ZD 4 4 (b_are_rows ((zX n).1) ((zX n).2)), ZD 4 5 (b_is_row ((zX n).1) ((zX n).2)))
noncomputable def m_are_rows : List D → Option D := (zX 24).1
noncomputable def m_is_row : List D → Option D := (zX 24).2
noncomputable def b_lists_in : Ev → Option Out :=
  (Zb (fComp 1 (zu false (ze 0)) (uName 1) (zy (f1 (gIsi "list") (ze 1))) (ze 1)))
noncomputable def m_lists_in : List D → Option D := ZD 1 1 b_lists_in
noncomputable def b_new_places (r_new_places r_new_places_of_row : List D → Option D) : Ev → Option Out :=
  (Zb (fA gSum (zu true (fComp 1 (zu true (ze 0)) (uName 2) fYes (fA r_new_places_of_row (zc (ze 2) (zc (ze 1) zl)))))))
noncomputable def b_new_places_of_row (r_new_places r_new_places_of_row : List D → Option D) : Ev → Option Out :=
  (zG (mIf (zy (f2 dEqS (fIx (zu false (ze 0)) (fC (.int 0))) (fC (.str "call"))))
  (Zb (f2 dGet (ze 1) (fIx (zu false (ze 0)) (fC (.int 1)))))
  Zl)
  (Zb (f2 dAdd (fC (.int 1)) (fA gSum (zu true (fComp 1 (zu true (fA m_lists_in (zc (ze 0) zl))) (uName 2) fYes (fA r_new_places (zc (ze 2) (zc (ze 1) zl)))))))))
noncomputable def zE : Nat → (List D → Option D) × (List D → Option D)
 | 0 => ((fun _ => none), (fun _ => none))
 | n + 1 => (ZD 2 2 (b_new_places ((zE n).1) ((zE n).2)), ZD 2 2 (b_new_places_of_row ((zE n).1) ((zE n).2)))
noncomputable def m_new_places : List D → Option D := (zE 24).1
noncomputable def m_new_places_of_row : List D → Option D := (zE 24).2
noncomputable def b_depth (r_depth r_depth_of_row : List D → Option D) : Ev → Option Out :=
  (Zb (fA (gMaxD 0) (zu true (fComp 1 (zu true (ze 0)) (uName 2) fYes (fA r_depth_of_row (zc (ze 2) (zc (ze 1) zl)))))))
noncomputable def b_depth_of_row (r_depth r_depth_of_row : List D → Option D) : Ev → Option Out :=
  (zG (mIf (zy (f2 dEqS (fIx (zu false (ze 0)) (fC (.int 0))) (fC (.str "call"))))
  (Zb (fA gMax2 (zc (fC (.int 1)) (zc (f2 dGet (ze 1) (fIx (zu false (ze 0)) (fC (.int 1)))) zl))))
  Zl)
  (Zb (f2 dAdd (fC (.int 1)) (fA (gMaxD 0) (zu true (fComp 1 (zu true (fA m_lists_in (zc (ze 0) zl))) (uName 2) fYes (fA r_depth (zc (ze 2) (zc (ze 1) zl)))))))))
noncomputable def Zr : Nat → (List D → Option D) × (List D → Option D)
 | 0 => ((fun _ => none), (fun _ => none))
 | n + 1 => (ZD 2 2 (b_depth ((Zr n).1) ((Zr n).2)), ZD 2 2 (b_depth_of_row ((Zr n).1) ((Zr n).2)))
noncomputable def m_depth : List D → Option D := (Zr 24).1
noncomputable def m_depth_of_row : List D → Option D := (Zr 24).2
noncomputable def b_all_keep_bounds : Ev → Option Out :=
  (zG (mNew 1 (fC (.dict [] [])))
  (zG (mNew 2 (fC (.dict [] [])))
  (zG (mFor (fRngD (f2 dSub (fA gLen (zu true (ze 0))) (fC (.int 1))) (f1 dNeg (fC (.int 1)))) (uName 3)
  (zG (mDPut 1 (ze 3) (fFlat (fA m_new_places (zc (fIx (zu true (ze 0)) (ze 3)) (zc (ze 1) zl)))))
  (zG (mDPut 2 (ze 3) (fFlat (fA m_depth (zc (fIx (zu true (ze 0)) (ze 3)) (zc (ze 2) zl)))))
  (mIf (fOr (zy (f2 dGt (f2 dAdd (f2 dGet (ze 1) (ze 3)) (fC (.int 1))) (fC (.int 40)))) (zy (f2 dGt (f2 dGet (ze 2) (ze 3)) (fC (.int 6)))))
  (Zb (fC (.bl false)))
  Zl))))
  (Zb (fC (.bl true))))))
noncomputable def m_all_keep_bounds : List D → Option D := ZD 1 4 b_all_keep_bounds
noncomputable def b_is_program : Ev → Option Out :=
  (zG (mIf (fNot (zy (fA m_has_parts (zc (ze 0) (zc (fC (.int 2)) zl)))))
  (Zb (fC (.bl false)))
  Zl)
  (zG (Zo 1 (fIx (zu false (ze 0)) (fC (.int 0))))
  (zG (Zo 2 (fIx (zu false (ze 0)) (fC (.int 1))))
  (zG (mIf (fOr (fNot (zy (fA m_is_number (zc (ze 1) (zc (fC (.int 0)) (zc (fC (.int 6)) zl)))))) (fNot (zy (f1 (gIsi "list") (ze 2)))))
  (Zb (fC (.bl false)))
  Zl)
  (zG (mIf (fNot (zy (fChain dLe dLe (fC (.int 1)) (fA gLen (zu true (ze 2))) (fC (.int 4)))))
  (Zb (fC (.bl false)))
  Zl)
  (zG (mFor (fEnum (zu true (ze 2))) (uTup (uCons (uName 3) (uCons (uName 4) uNil)))
  (mIf (fNot (zy (fA m_are_rows (zc (ze 4) (zc (ze 1) (zc (f2 dAdd (ze 3) (fC (.int 1))) (zc (f2 dSub (fA gLen (zu true (ze 2))) (fC (.int 1))) zl)))))))
  (Zb (fC (.bl false)))
  Zl))
  (Zb (fA m_all_keep_bounds (zc (ze 2) zl)))))))))
noncomputable def m_is_program : List D → Option D := ZD 1 5 b_is_program
noncomputable def b'cell : Ev → Option Out :=
  (zG (mIf (zy (f2 dLt (ze 1) (fA gLen (zu true (ze 0)))))
  (Zb (fIx (zu true (ze 0)) (ze 1)))
  Zl)
  (zG (Zo 2 (f2 dAdd (f2 dMul (ze 1) (fC (.int 7919))) (fC (.int 5))))
  (zG (mIf (zy (f2 dGt (fA gLen (zu true (ze 0))) (fC (.int 0))))
  (Zo 2 (f2 dMod (f2 dAdd (f2 dMul (fIx (zu true (ze 0)) (f2 dMod (f2 dMul (ze 1) (fC (.int 7))) (fA gLen (zu true (ze 0))))) (fC (.int 48271))) (f2 dMul (ze 1) (fC (.int 7919)))) (fC (.int 2147483647))))
  Zl)
  (zG (Zo 2 (f2 dMod (f2 dMul (ze 2) (ze 2)) (fC (.int 2147483629))))
  (Zb (f2 dMod (f2 dMul (f2 dAdd (ze 2) (fC (.int 11))) (f2 dAdd (ze 2) (fC (.int 3)))) (fC (.int 2147483587))))))))
noncomputable def m'cell : List D → Option D := ZD 2 3 b'cell
noncomputable def b'line : Ev → Option Out :=
  (zG (mNew 2 (Zf zl))
  (zG (mFor (fRng1 (f2 dAdd (ze 1) (fC (.int 1)))) (uName 3)
  (zG (Zo 4 (f2 dMod (f2 dAdd (f2 dMul (f2 dDivP (ze 0) (f2 dAdd (f2 dMul (ze 3) (ze 3)) (fC (.int 3)))) (fC (.int 48271))) (f2 dMul (ze 3) (fC (.int 69621)))) (fC (.int 2147483647))))
  (zG (Zo 5 (fIx (zu true (Zf (zc (fC (.int 0)) (zc (fC (.int 1)) (zc (fC (.int 0)) (zc (f1 dNeg (fC (.int 1))) (zc (fC (.int 1)) (zc (fC (.int 2)) (zc (fC (.int 0)) (zc (fC (.int 3)) (zc (f1 dNeg (fC (.int 2))) zl))))))))))) (f2 dMod (ze 4) (fC (.int 9)))))
  (zG (mIf (zy (f2 dEqS (f2 dMod (f2 dDiv (ze 4) (fC (.int 9))) (fC (.int 60))) (fC (.int 7))))
  (zG (Zo 5 (f2 dSub (f2 dMod (f2 dDiv (ze 4) (fC (.int 540))) (fC (.int 1999999))) (fC (.int 999999))))
  (mIf (zy (f2 dGt (ze 3) (fC (.int 0))))
  (Zo 5 (f2 dSub (f2 dMod (ze 5) (fC (.int 19))) (fC (.int 9))))
  Zl))
  Zl)
  (mUpd 2 lAppend (ze 5))))))
  (Zb (fA gTuple (zu true (ze 2))))))
noncomputable def m'line : List D → Option D := ZD 2 6 b'line
noncomputable def b'row : Ev → Option Out :=
  (zG (Zo 4 (f2 dMod (ze 0) (fC (.int 8))))
  (zG (mIf (fAnd (zy (f2 dEqS (ze 4) (fC (.int 0)))) (zy (f2 dLt (f2 dAdd (ze 2) (fC (.int 1))) (ze 3))))
  (Zb (fFlat (zR (zc (fC (.str "call")) (zc (f2 dAdd (f2 dAdd (ze 2) (fC (.int 1))) (f2 dMod (f2 dDiv (ze 0) (fC (.int 8))) (f2 dSub (f2 dSub (ze 3) (ze 2)) (fC (.int 1))))) zl)))))
  Zl)
  (zG (mIf (fAnd (zy (f2 dLt (ze 4) (fC (.int 4)))) (zy (f2 dGt (ze 1) (fC (.int 0)))))
  (Zb (fFlat (zR (zc (fC (.str "set")) (zc (f2 dMod (f2 dDiv (ze 0) (fC (.int 8))) (ze 1)) (zc (fA m'line (zc (f2 dDiv (ze 0) (fC (.int 64))) (zc (ze 1) zl))) zl))))))
  Zl)
  (zG (mIf (fAnd (zy (f2 dEqS (ze 4) (fC (.int 4)))) (zy (f2 dGt (ze 1) (fC (.int 0)))))
  (Zb (fFlat (zR (zc (fC (.str "take")) (zc (f2 dMod (f2 dDiv (ze 0) (fC (.int 8))) (ze 1)) zl)))))
  Zl)
  (zG (mIf (zy (f2 dEqS (ze 4) (fC (.int 5))))
  (Zb (zR (zc (fC (.str "loop")) (zc (Zf zl) zl))))
  Zl)
  (zG (mIf (zy (f2 dEqS (ze 4) (fC (.int 6))))
  (Zb (zR (zc (fC (.str "either")) (zc (Zf zl) (zc (Zf zl) zl)))))
  Zl)
  (Zb (fFlat (fIx (zu true (Zf (zc (zR (zc (fC (.str "skip")) zl)) (zc (zR (zc (fC (.str "halt")) zl)) zl)))) (f2 dMod (f2 dDiv (ze 0) (fC (.int 8))) (fC (.int 2))))))))))))
noncomputable def m'row : List D → Option D := ZD 4 5 b'row
noncomputable def b'body : Ev → Option Out :=
  (mB13 (fA m'row (zc (f2 dDiv (ze 6) (fC (.int 4))) (zc (ze 1) (zc (ze 2) (zc (ze 3) zl))))))
noncomputable def m'body : List D → Option D := ZD 4 8 b'body
noncomputable def b'program : Ev → Option Out :=
  (zG (Zo 1 (f2 dMod (fA m'cell (zc (ze 0) (zc (fC (.int 0)) zl))) (fC (.int 7))))
  (zG (Zo 2 (f2 dAdd (fC (.int 1)) (f2 dMod (f2 dDiv (fA m'cell (zc (ze 0) (zc (fC (.int 0)) zl))) (fC (.int 7))) (fC (.int 4)))))
  (zG (mNew 3 (Zf zl))
  (zG (mFor (fRng1 (ze 2)) (uName 4)
  (zG (Zo 5 (fIx (zu true (Zf (zc (f2 dAdd (fC (.int 2)) (f2 dMod (fA m'cell (zc (ze 0) (zc (fC (.int 1)) zl))) (fC (.int 9)))) (zc (fC (.int 4)) (zc (fC (.int 3)) (zc (fC (.int 3)) zl)))))) (ze 4)))
  (zG (Zo 6 (fIx (zu true (Zf (zc (fC (.int 2)) (zc (fC (.int 14)) (zc (fC (.int 19)) (zc (fC (.int 24)) zl)))))) (ze 4)))
  (mUpd 3 lAppend (fA m'body (zc (fComp 1 (fRng1 (ze 5)) (uName 7) fYes (fA m'cell (zc (ze 0) (zc (f2 dAdd (ze 6) (ze 7)) zl)))) (zc (ze 1) (zc (ze 4) (zc (ze 2) zl)))))))))
  (Zb (zR (zc (ze 1) (zc (ze 3) zl))))))))
noncomputable def m'program : List D → Option D := ZD 1 7 b'program
noncomputable def b'bent_line : Ev → Option Out :=
  (zG (mNew 2 (fRep (fL (Zf (zc (fC (.int 0)) zl))) (f2 dAdd (ze 0) (fC (.int 1)))))
  (zG (mSetIx 2 (fIx (zu true (Zf (zc (fC (.int 1000000)) (zc (f1 dNeg (fC (.int 1000000))) (zc (fC (.bl true)) (zc (fC (.bl false)) (zc (fC (.str "1")) (zc (fC .non) (zc (fC (.int 999999)) (zc (f2 dPow (fC (.int 10)) (fC (.int 50))) (zc (zR (zc (fC (.int 1)) zl)) zl))))))))))) (f2 dMod (f2 dDiv (ze 1) (fC (.int 8))) (fC (.int 9)))) (f2 dMod (ze 1) (f2 dAdd (ze 0) (fC (.int 1)))))
  (Zb (fA gTuple (zu true (ze 2))))))
noncomputable def m'bent_line : List D → Option D := ZD 2 3 b'bent_line
noncomputable def b'bent_rows : Ev → Option Out :=
  (zG (Zo 3 (f2 dRepT (zR (zc (fC (.int 0)) zl)) (f2 dAdd (ze 0) (fC (.int 1)))))
  (zG (Zo 4 (fA m'bent_line (zc (ze 0) (zc (f2 dDiv (ze 2) (fC (.int 64))) zl))))
  (zG (Zo 5 (Zf (zc (fC .non) (zc (zR zl) (zc (zR (zc (fC (.str "set")) zl)) (zc (zR (zc (fC (.str "set")) (zc (fC (.int 0)) zl))) (zc (Zf (zc (fC (.str "skip")) zl)) (zc (fC (.str "skip")) (zc (zR (zc (fC (.str "jump")) zl)) (zc (zR (zc (fC (.str "skip")) (zc (fC (.int 1)) zl))) (zc (zR (zc (fC (.str "halt")) (zc (fC (.int 0)) zl))) (zc (zR (zc (fC (.str "take")) zl)) (zc (fC (.int 7)) zl)))))))))))))
  (zG (Zo 5 (fCat (fL (ze 5)) (fL (Zf (zc (zR (zc (fC (.str "take")) (zc (ze 0) zl))) (zc (zR (zc (fC (.str "take")) (zc (f1 dNeg (fC (.int 1))) zl))) (zc (zR (zc (fC (.str "take")) (zc (fC (.bl false)) zl))) (zc (zR (zc (fC (.str "set")) (zc (ze 0) (zc (ze 3) zl)))) (zc (zR (zc (fC (.str "set")) (zc (fC (.int 0)) (zc (zR zl) zl)))) zl)))))))))
  (zG (Zo 5 (fCat (fL (ze 5)) (fL (Zf (zc (zR (zc (fC (.str "set")) (zc (f1 dNeg (fC (.int 1))) (zc (ze 3) zl)))) (zc (zR (zc (fC (.str "set")) (zc (fC (.bl false)) (zc (ze 3) zl)))) (zc (zR (zc (fC (.str "set")) (zc (fC (.bl true)) (zc (ze 3) zl)))) (zc (zR (zc (fC (.str "set")) (zc (fC (.str "0")) (zc (ze 3) zl)))) zl))))))))
  (zG (Zo 5 (fCat (fL (ze 5)) (fL (Zf (zc (zR (zc (fC (.str "set")) (zc (fC (.int 0)) (zc (fCutT (zu false (ze 3)) (fPart (fC (.int 1))) fNo) zl)))) (zc (zR (zc (fC (.str "set")) (zc (fC (.int 0)) (zc (fA (fun ds => some (.lst ds)) (zu false (ze 3))) zl)))) (zc (zR (zc (fC (.str "set")) (zc (fC (.int 0)) (zc (fCatT (ze 3) (zR (zc (fC (.int 0)) zl))) zl)))) (zc (zR (zc (fC (.str "set")) (zc (fC (.int 0)) (zc (ze 4) zl)))) zl))))))))
  (zG (Zo 5 (fCat (fL (ze 5)) (fL (Zf (zc (zR (zc (fC (.str "set")) (zc (fC (.int 0)) (zc (ze 4) zl)))) (zc (zR (zc (fC (.str "set")) (zc (fA gMax2 (zc (fC (.int 0)) (zc (f2 dSub (ze 0) (fC (.int 1))) zl))) (zc (ze 4) zl)))) (zc (zR (zc (fC (.str "either")) (zc (Zf zl) zl))) zl)))))))
  (zG (Zo 5 (fCat (fL (ze 5)) (fL (Zf (zc (zR (zc (fC (.str "either")) (zc (Zf zl) (zc (zR zl) zl)))) (zc (zR (zc (fC (.str "either")) (zc (fC .non) (zc (Zf zl) zl)))) (zc (zR (zc (fC (.str "either")) (zc (Zf zl) (zc (Zf zl) (zc (Zf zl) zl))))) (zc (zR (zc (fC (.str "loop")) zl)) (zc (zR (zc (fC (.str "loop")) (zc (Zf zl) (zc (Zf zl) zl)))) zl)))))))))
  (zG (Zo 5 (fCat (fL (ze 5)) (fL (Zf (zc (zR (zc (fC (.str "loop")) (zc (zR zl) zl))) (zc (zR (zc (fC (.str "loop")) (zc (Zf (zc (fC .non) zl)) zl))) (zc (zR (zc (fC (.str "call")) zl)) (zc (zR (zc (fC (.str "call")) (zc (fC (.int 0)) zl))) (zc (zR (zc (fC (.str "call")) (zc (ze 1) zl))) (zc (zR (zc (fC (.str "call")) (zc (f2 dSub (ze 1) (fC (.int 1))) zl))) zl))))))))))
  (zG (Zo 5 (fCat (fL (ze 5)) (fL (Zf (zc (zR (zc (fC (.str "call")) (zc (fC (.bl true)) zl))) (zc (zR (zc (fC (.str "call")) (zc (fC (.str "1")) zl))) (zc (zR (zc (fC (.int 1)) (zc (fC (.int 2)) zl))) (zc (zR (zc (fC (.str "loop")) (zc (Zf (zc (zR (zc (fC (.str "call")) (zc (fC (.int 0)) zl))) zl)) zl))) (zc (zR (zc (fC (.str "either")) (zc (Zf (zc (zR (zc (fC (.str "loop")) (zc (Zf (zc (zR zl) zl)) zl))) zl)) (zc (Zf zl) zl)))) zl)))))))))
  (zG (Zo 5 (fCat (fL (ze 5)) (fL (Zf (zc (zR (zc (fC (.str "skip")) zl)) (zc (zR (zc (fC (.str "halt")) zl)) (zc (zR (zc (fC (.str "loop")) (zc (Zf (zc (zR (zc (fC (.str "skip")) zl)) zl)) zl))) (zc (zR (zc (fC (.str "set")) (zc (fC (.int 0)) (zc (fCatT (zR (zc (f1 dNeg (fC (.int 999999))) zl)) (fCutT (zu false (ze 3)) (fPart (fC (.int 1))) fNo)) zl)))) (zc (zR (zc (fC (.str "Skip")) zl)) zl)))))))))
  (Zb (fIx (zu true (ze 5)) (f2 dMod (ze 2) (fA gLen (zu true (ze 5)))))))))))))))))
noncomputable def m'bent_rows : List D → Option D := ZD 3 6 b'bent_rows
noncomputable def b'bent (r'bent : List D → Option D) : Ev → Option Out :=
  (zG (mNew 3 (fA (fun ds => some (.lst ds)) (zu true (ze 0))))
  (zG (Zo 4 (f2 dMod (ze 1) (f2 dAdd (fA gLen (zu true (ze 3))) (fC (.int 1)))))
  (zG (Zo 5 (Zf zl))
  (zG (mIf (zy (f2 dLt (ze 4) (fA gLen (zu true (ze 3)))))
  (Zo 5 (fComp 1 (fRng2 (fC (.int 1)) (fA gLen (zu false (fIx (zu true (ze 3)) (ze 4))))) (uName 8) (zy (f1 (gIsi "list") (fIx (zu false (fIx (zu true (ze 3)) (ze 4))) (ze 8)))) (ze 8)))
  Zl)
  (zG (mIf (fAnd (zy (f2 dNeD (ze 5) (Zf zl))) (zy (f2 dGt (f2 dMod (f2 dDiv (ze 1) (fC (.int 20))) (fC (.int 3))) (fC (.int 0)))))
  (zG (Zo 6 (fIx (zu true (ze 5)) (f2 dMod (f2 dDiv (ze 1) (fC (.int 60))) (fA gLen (zu true (ze 5))))))
  (zG (mNew 7 (fA (fun ds => some (.lst ds)) (zu false (fIx (zu true (ze 3)) (ze 4)))))
  (zG (mSetIx 7 (fA r'bent (zc (fIx (zu true (ze 7)) (ze 6)) (zc (f2 dDiv (ze 1) (fC (.int 120))) (zc (ze 2) zl)))) (ze 6))
  (mSetIx 3 (fA gTuple (zu true (ze 7))) (ze 4)))))
  (mIf (zy (f2 dEqS (f2 dMod (f2 dDiv (ze 1) (fC (.int 20))) (fC (.int 2))) (fC (.int 0))))
  (mIns 3 (ze 4) (ze 2))
  (mNew 3 (fCat (fL (fCat (fL (fCut .lst (zu true (ze 3)) fNo (fPart (ze 4)))) (fL (Zf (zc (ze 2) zl))))) (fL (fCut .lst (zu true (ze 3)) (fPart (f2 dAdd (ze 4) (fC (.int 1)))) fNo))))))
  (Zb (ze 3)))))))
noncomputable def R'bent : Nat → (List D → Option D)
 | 0 => (fun _ => none)
 | n + 1 => ZD 3 8 (b'bent ((R'bent n)))
noncomputable def m'bent : List D → Option D := (R'bent 24)
noncomputable def b'other : Ev → Option Out :=
  (zG (mAsg (uTup (uCons (uName 2) (uCons (uName 3) uNil))) (ze 0))
  (zG (Zo 4 (Zf (zc (fC .non) (zc (fC (.int 7)) (zc (fC (.str "boxes 0")) (zc (zR zl) (zc (fC (.bl true)) (zc (zR (zc (ze 2) zl)) zl))))))))
  (zG (Zo 4 (fCat (fL (ze 4)) (fL (Zf (zc (Zf (zc (ze 2) (zc (ze 3) zl))) (zc (zR (zc (ze 2) (zc (ze 3) (zc (fC (.int 0)) zl)))) zl))))))
  (zG (Zo 4 (fCat (fL (ze 4)) (fL (Zf (zc (zR (zc (ze 2) (zc (Zf zl) zl))) (zc (zR (zc (ze 2) (zc (fC .non) zl))) (zc (zR (zc (fC (.int 7)) (zc (ze 3) zl))) (zc (zR (zc (f1 dNeg (fC (.int 1))) (zc (ze 3) zl))) (zc (zR (zc (fC (.bl true)) (zc (ze 3) zl))) zl)))))))))
  (zG (Zo 4 (fCat (fL (ze 4)) (fL (Zf (zc (zR (zc (fA gStrI (zc (ze 2) zl)) (zc (ze 3) zl))) (zc (zR (zc (ze 2) (zc (fA gTuple (zu true (ze 3))) zl))) zl))))))
  (zG (Zo 4 (fCat (fL (ze 4)) (fL (Zf (zc (zR (zc (ze 2) (zc (fCat (fL (ze 3)) (fL (Zf (zc (Zf zl) (zc (Zf zl) (zc (Zf zl) (zc (Zf zl) zl))))))) zl))) (zc (zR (zc (f2 dMod (f2 dAdd (ze 2) (fC (.int 1))) (fC (.int 7))) (zc (ze 3) zl))) zl))))))
  (zG (Zo 4 (fCat (fL (ze 4)) (fL (Zf (zc (zR (zc (ze 2) (zc (fCat (fL (ze 3)) (fL (Zf (zc (Zf zl) zl)))) zl))) (zc (zR (zc (ze 2) (zc (Zf (zc (zR zl) zl)) zl))) zl))))))
  (zG (mIf (zy (f2 dEqS (f2 dMod (ze 1) (fC (.int 4))) (fC (.int 0))))
  (Zb (fIx (zu true (ze 4)) (f2 dMod (f2 dDiv (ze 1) (fC (.int 4))) (fA gLen (zu true (ze 4))))))
  Zl)
  (zG (Zo 5 (f2 dMod (f2 dDiv (ze 1) (fC (.int 4))) (fA gLen (zu true (ze 3)))))
  (zG (Zo 6 (fA m'bent_rows (zc (ze 2) (zc (fA gLen (zu true (ze 3))) (zc (f2 dDiv (ze 1) (fC (.int 16))) zl)))))
  (zG (mNew 7 (fA (fun ds => some (.lst ds)) (zu true (ze 3))))
  (zG (mSetIx 7 (fA m'bent (zc (fIx (zu true (ze 3)) (ze 5)) (zc (f2 dDiv (ze 1) (fC (.int 1024))) (zc (ze 6) zl)))) (ze 5))
  (Zb (zR (zc (ze 2) (zc (ze 7) zl))))))))))))))))
noncomputable def m'other : List D → Option D := ZD 2 8 b'other
noncomputable def b'whole : Ev → Option Out :=
  (Zb (fAndV (f1 (gIsi "int") (ze 0)) (fNotV (f1 (gIsi "bool") (ze 0)))))
noncomputable def m'whole : List D → Option D := ZD 1 1 b'whole
noncomputable def b'is_line : Ev → Option Out :=
  (zG (mIf (fOr (fNot (zy (f1 (gIsi "tuple") (ze 0)))) (zy (f2 dNeS (fA gLen (zu false (ze 0))) (f2 dAdd (ze 1) (fC (.int 1))))))
  (Zb (fC (.bl false)))
  Zl)
  (Zb (fA gAllB (zu true (fComp 1 (zu false (ze 0)) (uName 2) fYes (fAndV (fA m'whole (zc (ze 2) zl)) (fFlat (f2 dLt (fA gAbs (zc (ze 2) zl)) (fC (.int 1000000))))))))))
noncomputable def m'is_line : List D → Option D := ZD 2 2 b'is_line
noncomputable def b'row_size (r'row_size r'size : List D → Option D) : Ev → Option Out :=
  (zG (mIf (fOr (fNot (zy (f1 (gIsi "tuple") (ze 0)))) (zy (f2 dLt (fA gLen (zu false (ze 0))) (fC (.int 1)))))
  (Zb (fC .non))
  Zl)
  (zG (mIf (zy (f2 (dInL false) (ze 0) (Zf (zc (zR (zc (fC (.str "skip")) zl)) (zc (zR (zc (fC (.str "halt")) zl)) zl)))))
  (Zb (zR (zc (fC (.int 1)) (zc (fC (.int 1)) zl))))
  Zl)
  (zG (mIf (fAnd (zy (f2 dEqS (fIx (zu false (ze 0)) (fC (.int 0))) (fC (.str "take")))) (fAnd (zy (f2 dEqS (fA gLen (zu false (ze 0))) (fC (.int 2)))) (fAnd (zy (fA m'whole (zc (fIx (zu false (ze 0)) (fC (.int 1))) zl))) (fInR1 false (fIx (zu false (ze 0)) (fC (.int 1))) (ze 1)))))
  (Zb (zR (zc (fC (.int 1)) (zc (fC (.int 1)) zl))))
  Zl)
  (zG (mIf (fAnd (zy (f2 dEqS (fIx (zu false (ze 0)) (fC (.int 0))) (fC (.str "set")))) (fAnd (zy (f2 dEqS (fA gLen (zu false (ze 0))) (fC (.int 3)))) (fAnd (zy (fA m'whole (zc (fIx (zu false (ze 0)) (fC (.int 1))) zl))) (fInR1 false (fIx (zu false (ze 0)) (fC (.int 1))) (ze 1)))))
  (Zb (fIx (zu true (Zf (zc (fC .non) (zc (zR (zc (fC (.int 1)) (zc (fC (.int 1)) zl))) zl)))) (fA gInt (zc (fA m'is_line (zc (fIx (zu false (ze 0)) (fC (.int 2))) (zc (ze 1) zl))) zl))))
  Zl)
  (zG (mIf (fAnd (zy (f2 dEqS (fIx (zu false (ze 0)) (fC (.int 0))) (fC (.str "call")))) (fAnd (zy (f2 dEqS (fA gLen (zu false (ze 0))) (fC (.int 2)))) (fAnd (zy (fA m'whole (zc (fIx (zu false (ze 0)) (fC (.int 1))) zl))) (zy (f2 dGt (fIx (zu false (ze 0)) (fC (.int 1))) (ze 2))))))
  (zG (Zo 4 (fGet2 (ze 3) (fIx (zu false (ze 0)) (fC (.int 1))) (zR (zc (fC (.int 7)) (zc (fC (.int 0)) zl)))))
  (Zb (zR (zc (fA gMax2 (zc (fC (.int 1)) (zc (fIx (zu false (ze 4)) (fC (.int 0))) zl))) (zc (fIx (zu false (ze 4)) (fC (.int 1))) zl)))))
  Zl)
  (zG (mIf (zy (f2 (dInL true) (zR (zc (fIx (zu false (ze 0)) (fC (.int 0))) (zc (fA gLen (zu false (ze 0))) zl))) (Zf (zc (zR (zc (fC (.str "either")) (zc (fC (.int 3)) zl))) (zc (zR (zc (fC (.str "loop")) (zc (fC (.int 2)) zl))) zl)))))
  (Zb (fC .non))
  Zl)
  (zG (Zo 5 (fC (.int 1)))
  (zG (Zo 6 (fC (.int 1)))
  (zG (mFor (zu false (fCutT (zu false (ze 0)) (fPart (fC (.int 1))) fNo)) (uName 7)
  (zG (Zo 8 (fA r'size (zc (ze 7) (zc (ze 1) (zc (ze 2) (zc (ze 3) zl))))))
  (zG (mIf (zy (f2 dIsN (ze 8) (fC .non)))
  (Zb (fC .non))
  Zl)
  (zG (Zo 5 (fA gMax2 (zc (ze 5) (zc (f2 dAdd (fC (.int 1)) (fIx (zu false (ze 8)) (fC (.int 0)))) zl))))
  (Zo 6 (f2 dAdd (ze 6) (fIx (zu false (ze 8)) (fC (.int 1)))))))))
  (Zb (zR (zc (ze 5) (zc (ze 6) zl)))))))))))))
noncomputable def b'size (r'row_size r'size : List D → Option D) : Ev → Option Out :=
  (zG (mIf (fNot (zy (f1 (gIsi "list") (ze 0))))
  (Zb (fC .non))
  Zl)
  (zG (Zo 4 (fC (.int 0)))
  (zG (Zo 5 (fC (.int 0)))
  (zG (mFor (zu true (ze 0)) (uName 6)
  (zG (Zo 7 (fA r'row_size (zc (ze 6) (zc (ze 1) (zc (ze 2) (zc (ze 3) zl))))))
  (zG (mIf (zy (f2 dIsN (ze 7) (fC .non)))
  (Zb (fC .non))
  Zl)
  (zG (Zo 4 (fA gMax2 (zc (ze 4) (zc (fIx (zu false (ze 7)) (fC (.int 0))) zl))))
  (Zo 5 (f2 dAdd (ze 5) (fIx (zu false (ze 7)) (fC (.int 1)))))))))
  (Zb (zR (zc (ze 4) (zc (ze 5) zl))))))))
noncomputable def zY : Nat → (List D → Option D) × (List D → Option D)
 | 0 => ((fun _ => none), (fun _ => none))
 | n + 1 => (ZD 4 9 (b'row_size ((zY n).1) ((zY n).2)), ZD 4 8 (b'size ((zY n).1) ((zY n).2)))
noncomputable def m'row_size : List D → Option D := (zY 24).1
noncomputable def m'size : List D → Option D := (zY 24).2
noncomputable def b'due : Ev → Option Out :=
  (zG (mIf (fOr (fNot (zy (f1 (gIsi "tuple") (ze 0)))) (fOr (zy (f2 dNeS (fA gLen (zu false (ze 0))) (fC (.int 2)))) (fOr (fNot (zy (fA m'whole (zc (fIx (zu false (ze 0)) (fC (.int 0))) zl)))) (fInR1 true (fIx (zu false (ze 0)) (fC (.int 0))) (fC (.int 7))))))
  (Zb (fC (.bl false)))
  Zl)
  (zG (mIf (fOr (fNot (zy (f1 (gIsi "list") (fIx (zu false (ze 0)) (fC (.int 1)))))) (fInR2 true (fA gLen (zu true (fIx (zu false (ze 0)) (fC (.int 1))))) (fC (.int 1)) (fC (.int 5))))
  (Zb (fC (.bl false)))
  Zl)
  (zG (mNew 1 (fC (.dict [] [])))
  (zG (mFor (fRevRng (fA gLen (zu true (fIx (zu false (ze 0)) (fC (.int 1)))))) (uName 2)
  (zG (Zo 3 (fFlat (fA m'size (zc (fIx (zu true (fIx (zu false (ze 0)) (fC (.int 1)))) (ze 2)) (zc (fIx (zu false (ze 0)) (fC (.int 0))) (zc (ze 2) (zc (ze 1) zl)))))))
  (zG (mIf (fOr (zy (f2 dIsN (ze 3) (fC .non))) (fOr (zy (f2 dGt (fIx (zu false (ze 3)) (fC (.int 0))) (fC (.int 6)))) (zy (f2 dGt (fIx (zu false (ze 3)) (fC (.int 1))) (fC (.int 39))))))
  (Zb (fC (.bl false)))
  Zl)
  (mDPut 1 (ze 2) (ze 3)))))
  (Zb (fC (.bl true)))))))
noncomputable def m'due : List D → Option D := ZD 1 4 b'due
noncomputable def b'told : Ev → Option Out :=
  (zG (Zo 1 (fFlat (fA gRepr (zc (ze 0) zl))))
  (zG (Zo 2 (fA m_is_program (zc (ze 0) zl)))
  (Zb (fAndV (f1 (gIsi "bool") (ze 2)) (fAndV (f2 dEqS (ze 2) (fA m'due (zc (ze 0) zl))) (f2 dEqS (fA gRepr (zc (ze 0) zl)) (ze 1)))))))
noncomputable def m'told : List D → Option D := ZD 1 3 b'told
noncomputable def b_law : Ev → Option Out :=
  (zG (Zo 1 (fA m'program (zc (ze 0) zl)))
  (zG (mIf (fNot (zy (fA m'told (zc (ze 1) zl))))
  (Zb (fC (.bl false)))
  Zl)
  (zG (mFor (zu true (fCat (fL (fCut .lst (zu true (ze 0)) (fPart (fC (.int 30))) (fPart (fC (.int 50))))) (fL (Zf (zc (fA m'cell (zc (ze 0) (zc (fC (.int 60)) zl))) zl))))) (uName 2)
  (mIf (fOr (fNot (zy (fA m'told (zc (fA m'other (zc (ze 1) (zc (ze 2) zl))) zl)))) (fNot (zy (fA m'told (zc (ze 1) zl)))))
  (Zb (fC (.bl false)))
  Zl))
  (Zb (fC (.bl true))))))
noncomputable def m_law : List D → Option D := ZD 1 3 b_law
def top (i : Nat) : Stmt := PySem.Challenge.pw_evennotes_k13_what_is_a_program.main.body.getD i (.Pass ⟨0, 0, 0, 0⟩)
abbrev Zn : Stmt := top 6
abbrev ZA : Stmt := top 7
abbrev Zz : Stmt := top 8
abbrev s_are_rows : Stmt := top 9
abbrev s_is_row : Stmt := top 10
abbrev Ze : Stmt := top 11
abbrev zQ : Stmt := top 12
abbrev s_lists_in : Stmt := top 13
abbrev Zm : Stmt := top 14
abbrev zH : Stmt := top 15
abbrev s_depth : Stmt := top 16
abbrev zW : Stmt := top 17
abbrev s'cell : Stmt := top 19
abbrev s'line : Stmt := top 20
abbrev s'row : Stmt := top 21
abbrev s'body : Stmt := top 22
abbrev s'program : Stmt := top 23
abbrev ZC : Stmt := top 24
abbrev ZB : Stmt := top 25
abbrev s'bent : Stmt := top 26
abbrev s'other : Stmt := top 27
abbrev s'whole : Stmt := top 28
abbrev s'is_line : Stmt := top 29
abbrev s'row_size : Stmt := top 30
abbrev s'size : Stmt := top 31
abbrev s'due : Stmt := top 32
abbrev s'told : Stmt := top 33
abbrev s_law : Stmt := top 34
structure Ads where
 f_is_program : Addr
 d_is_program : FuncData
 f_has_parts : Addr
 d_has_parts : FuncData
 f_is_number : Addr
 d_is_number : FuncData
 f_are_rows : Addr
 d_are_rows : FuncData
 f_is_row : Addr
 d_is_row : FuncData
 f_is_set_line : Addr
 d_is_set_line : FuncData
 f_all_keep_bounds : Addr
 d_all_keep_bounds : FuncData
 f_lists_in : Addr
 d_lists_in : FuncData
 f_new_places : Addr
 d_new_places : FuncData
 f_new_places_of_row : Addr
 d_new_places_of_row : FuncData
 f_depth : Addr
 d_depth : FuncData
 f_depth_of_row : Addr
 d_depth_of_row : FuncData
 f'cell : Addr
 d'cell : FuncData
 f'line : Addr
 d'line : FuncData
 f'row : Addr
 d'row : FuncData
 f'body : Addr
 d'body : FuncData
 f'program : Addr
 d'program : FuncData
 f'bent_line : Addr
 d'bent_line : FuncData
 f'bent_rows : Addr
 d'bent_rows : FuncData
 f'bent : Addr
 d'bent : FuncData
 f'other : Addr
 d'other : FuncData
 f'whole : Addr
 d'whole : FuncData
 f'is_line : Addr
 d'is_line : FuncData
 f'row_size : Addr
 d'row_size : FuncData
 f'size : Addr
 d'size : FuncData
 f'due : Addr
 d'due : FuncData
 f'told : Addr
 d'told : FuncData
 f_law : Addr
 d_law : FuncData
 t_MOST_BODIES : Tok
 t_MOST_BOXES : Tok
 t_MOST_DEEP : Tok
 t_MOST_IN_A_LINE : Tok
 t_MOST_PLACES : Tok
structure Txt (K : Frag) (mg : Str → Option Value) (Z : Ads) : Prop where
 F_is_program : Fun K "is_program" "is_program" Zn Z.f_is_program Z.d_is_program
 b_is_program : Binds K Z.d_is_program ["thing"] []
 m_is_program : mg "is_program" = some (.ref Z.f_is_program)
 F_has_parts : Fun K "has_parts" "has_parts" ZA Z.f_has_parts Z.d_has_parts
 b_has_parts : Binds K Z.d_has_parts ["thing", "long"] []
 m_has_parts : mg "has_parts" = some (.ref Z.f_has_parts)
 F_is_number : Fun K "is_number" "is_number" Zz Z.f_is_number Z.d_is_number
 b_is_number : Binds K Z.d_is_number ["thing", "least", "most"] []
 m_is_number : mg "is_number" = some (.ref Z.f_is_number)
 F_are_rows : Fun K "are_rows" "are_rows" s_are_rows Z.f_are_rows Z.d_are_rows
 b_are_rows : Binds K Z.d_are_rows ["thing", "many", "first", "last"] []
 m_are_rows : mg "are_rows" = some (.ref Z.f_are_rows)
 F_is_row : Fun K "is_row" "is_row" s_is_row Z.f_is_row Z.d_is_row
 b_is_row : Binds K Z.d_is_row ["thing", "many", "first", "last"] []
 m_is_row : mg "is_row" = some (.ref Z.f_is_row)
 F_is_set_line : Fun K "is_set_line" "is_set_line" Ze Z.f_is_set_line Z.d_is_set_line
 b_is_set_line : Binds K Z.d_is_set_line ["thing", "many"] []
 m_is_set_line : mg "is_set_line" = some (.ref Z.f_is_set_line)
 F_all_keep_bounds : Fun K "all_keep_bounds" "all_keep_bounds" zQ Z.f_all_keep_bounds Z.d_all_keep_bounds
 b_all_keep_bounds : Binds K Z.d_all_keep_bounds ["bodies"] []
 m_all_keep_bounds : mg "all_keep_bounds" = some (.ref Z.f_all_keep_bounds)
 F_lists_in : Fun K "lists_in" "lists_in" s_lists_in Z.f_lists_in Z.d_lists_in
 b_lists_in : Binds K Z.d_lists_in ["row"] []
 m_lists_in : mg "lists_in" = some (.ref Z.f_lists_in)
 F_new_places : Fun K "new_places" "new_places" Zm Z.f_new_places Z.d_new_places
 b_new_places : Binds K Z.d_new_places ["rows", "called"] []
 m_new_places : mg "new_places" = some (.ref Z.f_new_places)
 F_new_places_of_row : Fun K "new_places_of_row" "new_places_of_row" zH Z.f_new_places_of_row Z.d_new_places_of_row
 b_new_places_of_row : Binds K Z.d_new_places_of_row ["row", "called"] []
 m_new_places_of_row : mg "new_places_of_row" = some (.ref Z.f_new_places_of_row)
 F_depth : Fun K "depth" "depth" s_depth Z.f_depth Z.d_depth
 b_depth : Binds K Z.d_depth ["rows", "called"] []
 m_depth : mg "depth" = some (.ref Z.f_depth)
 F_depth_of_row : Fun K "depth_of_row" "depth_of_row" zW Z.f_depth_of_row Z.d_depth_of_row
 b_depth_of_row : Binds K Z.d_depth_of_row ["row", "called"] []
 m_depth_of_row : mg "depth_of_row" = some (.ref Z.f_depth_of_row)
 F'cell : Fun K "_law_cell" "_law_cell" s'cell Z.f'cell Z.d'cell
 b'cell : Binds K Z.d'cell ["_law_script", "_law_k"] []
 m'cell : mg "_law_cell" = some (.ref Z.f'cell)
 F'line : Fun K "_law_line" "_law_line" s'line Z.f'line Z.d'line
 b'line : Binds K Z.d'line ["_law_cell_here", "_law_many"] []
 m'line : mg "_law_line" = some (.ref Z.f'line)
 F'row : Fun K "_law_row" "_law_row" s'row Z.f'row Z.d'row
 b'row : Binds K Z.d'row ["_law_cell_here", "_law_many", "_law_body_here", "_law_count"] []
 m'row : mg "_law_row" = some (.ref Z.f'row)
 F'body : Fun K "_law_body" "_law_body" s'body Z.f'body Z.d'body
 b'body : Binds K Z.d'body ["_law_cells", "_law_many", "_law_body_here", "_law_count"] []
 m'body : mg "_law_body" = some (.ref Z.f'body)
 F'program : Fun K "_law_program" "_law_program" s'program Z.f'program Z.d'program
 b'program : Binds K Z.d'program ["_law_script"] []
 m'program : mg "_law_program" = some (.ref Z.f'program)
 F'bent_line : Fun K "_law_bent_line" "_law_bent_line" ZC Z.f'bent_line Z.d'bent_line
 b'bent_line : Binds K Z.d'bent_line ["_law_many", "_law_cell_here"] []
 m'bent_line : mg "_law_bent_line" = some (.ref Z.f'bent_line)
 F'bent_rows : Fun K "_law_bent_rows" "_law_bent_rows" ZB Z.f'bent_rows Z.d'bent_rows
 b'bent_rows : Binds K Z.d'bent_rows ["_law_many", "_law_count", "_law_cell_here"] []
 m'bent_rows : mg "_law_bent_rows" = some (.ref Z.f'bent_rows)
 F'bent : Fun K "_law_bent" "_law_bent" s'bent Z.f'bent Z.d'bent
 b'bent : Binds K Z.d'bent ["_law_rows", "_law_cell_here", "_law_row_here"] []
 m'bent : mg "_law_bent" = some (.ref Z.f'bent)
 F'other : Fun K "_law_other" "_law_other" s'other Z.f'other Z.d'other
 b'other : Binds K Z.d'other ["_law_program_here", "_law_cell_here"] []
 m'other : mg "_law_other" = some (.ref Z.f'other)
 F'whole : Fun K "_law_whole" "_law_whole" s'whole Z.f'whole Z.d'whole
 b'whole : Binds K Z.d'whole ["_law_thing"] []
 m'whole : mg "_law_whole" = some (.ref Z.f'whole)
 F'is_line : Fun K "_law_is_line" "_law_is_line" s'is_line Z.f'is_line Z.d'is_line
 b'is_line : Binds K Z.d'is_line ["_law_thing", "_law_many"] []
 m'is_line : mg "_law_is_line" = some (.ref Z.f'is_line)
 F'row_size : Fun K "_law_row_size" "_law_row_size" s'row_size Z.f'row_size Z.d'row_size
 b'row_size : Binds K Z.d'row_size ["_law_row_here", "_law_many", "_law_body_here", "_law_sizes"] []
 m'row_size : mg "_law_row_size" = some (.ref Z.f'row_size)
 F'size : Fun K "_law_size" "_law_size" s'size Z.f'size Z.d'size
 b'size : Binds K Z.d'size ["_law_rows", "_law_many", "_law_body_here", "_law_sizes"] []
 m'size : mg "_law_size" = some (.ref Z.f'size)
 F'due : Fun K "_law_due" "_law_due" s'due Z.f'due Z.d'due
 b'due : Binds K Z.d'due ["_law_thing"] []
 m'due : mg "_law_due" = some (.ref Z.f'due)
 F'told : Fun K "_law_told" "_law_told" s'told Z.f'told Z.d'told
 b'told : Binds K Z.d'told ["_law_thing"] []
 m'told : mg "_law_told" = some (.ref Z.f'told)
 F_law : Fun K "law" "law" s_law Z.f_law Z.d_law
 b_law : Binds K Z.d_law ["_law_script"] []
 m_law : mg "law" = some (.ref Z.f_law)
 z_abs : mg "abs" = none
 z_all : mg "all" = none
 z_bool : mg "bool" = none
 z_enumerate : mg "enumerate" = none
 z_int : mg "int" = none
 z_isinstance : mg "isinstance" = none
 z_len : mg "len" = none
 z_list : mg "list" = none
 z_max : mg "max" = none
 z_range : mg "range" = none
 z_repr : mg "repr" = none
 z_reversed : mg "reversed" = none
 z_str : mg "str" = none
 z_sum : mg "sum" = none
 z_tuple : mg "tuple" = none
 c_MOST_BODIES : mg "MOST_BODIES" = some (.int 4 Z.t_MOST_BODIES)
 c_MOST_BOXES : mg "MOST_BOXES" = some (.int 6 Z.t_MOST_BOXES)
 c_MOST_DEEP : mg "MOST_DEEP" = some (.int 6 Z.t_MOST_DEEP)
 c_MOST_IN_A_LINE : mg "MOST_IN_A_LINE" = some (.int 999999 Z.t_MOST_IN_A_LINE)
 c_MOST_PLACES : mg "MOST_PLACES" = some (.int 40 Z.t_MOST_PLACES)
theorem sc_is_program : FnScope ["thing", "many", "bodies", "number", "body"] ["thing"] (zi Zn) := ⟨rfl, rfl, rfl, by decide +kernel, rfl, by decide +kernel, by decide +kernel⟩
theorem sc_has_parts : FnScope ["thing", "long"] ["thing", "long"] (zi ZA) := ⟨rfl, rfl, rfl, by decide +kernel, rfl, by decide +kernel, by decide +kernel⟩
theorem sc_is_number : FnScope ["thing", "least", "most"] ["thing", "least", "most"] (zi Zz) := ⟨rfl, rfl, rfl, by decide +kernel, rfl, by decide +kernel, by decide +kernel⟩
theorem sc_are_rows : FnScope ["thing", "many", "first", "last"] ["thing", "many", "first", "last"] (zi s_are_rows) := ⟨rfl, rfl, rfl, by decide +kernel, rfl, by decide +kernel, by decide +kernel⟩
theorem sc_is_row : FnScope ["thing", "many", "first", "last", "kind"] ["thing", "many", "first", "last"] (zi s_is_row) := ⟨rfl, rfl, rfl, by decide +kernel, rfl, by decide +kernel, by decide +kernel⟩
theorem sc_is_set_line : FnScope ["thing", "many"] ["thing", "many"] (zi Ze) := ⟨rfl, rfl, rfl, by decide +kernel, rfl, by decide +kernel, by decide +kernel⟩
theorem sc_all_keep_bounds : FnScope ["bodies", "places", "deep", "number"] ["bodies"] (zi zQ) := ⟨rfl, rfl, rfl, by decide +kernel, rfl, by decide +kernel, by decide +kernel⟩
theorem sc_lists_in : FnScope ["row"] ["row"] (zi s_lists_in) := ⟨rfl, rfl, rfl, by decide +kernel, rfl, by decide +kernel, by decide +kernel⟩
theorem sc_new_places : FnScope ["rows", "called"] ["rows", "called"] (zi Zm) := ⟨rfl, rfl, rfl, by decide +kernel, rfl, by decide +kernel, by decide +kernel⟩
theorem sc_new_places_of_row : FnScope ["row", "called"] ["row", "called"] (zi zH) := ⟨rfl, rfl, rfl, by decide +kernel, rfl, by decide +kernel, by decide +kernel⟩
theorem sc_depth : FnScope ["rows", "called"] ["rows", "called"] (zi s_depth) := ⟨rfl, rfl, rfl, by decide +kernel, rfl, by decide +kernel, by decide +kernel⟩
theorem sc_depth_of_row : FnScope ["row", "called"] ["row", "called"] (zi zW) := ⟨rfl, rfl, rfl, by decide +kernel, rfl, by decide +kernel, by decide +kernel⟩
theorem sc'cell : FnScope ["_law_script", "_law_k", "_law_number"] ["_law_script", "_law_k"] (zi s'cell) := ⟨rfl, rfl, rfl, by decide +kernel, rfl, by decide +kernel, by decide +kernel⟩
theorem sc'line : FnScope ["_law_cell_here", "_law_many", "_law_line_here", "_law_k", "_law_number", "_law_one"] ["_law_cell_here", "_law_many"] (zi s'line) := ⟨rfl, rfl, rfl, by decide +kernel, rfl, by decide +kernel, by decide +kernel⟩
theorem sc'row : FnScope ["_law_cell_here", "_law_many", "_law_body_here", "_law_count", "_law_kind"] ["_law_cell_here", "_law_many", "_law_body_here", "_law_count"] (zi s'row) := ⟨rfl, rfl, rfl, by decide +kernel, rfl, by decide +kernel, by decide +kernel⟩
theorem sc'body : FnScope ["_law_cells", "_law_many", "_law_body_here", "_law_count", "_law_rows", "_law_where", "_law_cell_here", "_law_row_here"] ["_law_cells", "_law_many", "_law_body_here", "_law_count"] (zi s'body) := ⟨rfl, rfl, rfl, by decide +kernel, rfl, by decide +kernel, by decide +kernel⟩
theorem sc'program : FnScope ["_law_script", "_law_many", "_law_count", "_law_bodies", "_law_body_here", "_law_size_here", "_law_begin"] ["_law_script"] (zi s'program) := ⟨rfl, rfl, rfl, by decide +kernel, rfl, by decide +kernel, by decide +kernel⟩
theorem sc'bent_line : FnScope ["_law_many", "_law_cell_here", "_law_line_here"] ["_law_many", "_law_cell_here"] (zi ZC) := ⟨rfl, rfl, rfl, by decide +kernel, rfl, by decide +kernel, by decide +kernel⟩
theorem Zt : FnScope ["_law_many", "_law_count", "_law_cell_here", "_law_zeros", "_law_line_here", "_law_some"] ["_law_many", "_law_count", "_law_cell_here"] (zi ZB) := ⟨rfl, rfl, rfl, by decide +kernel, rfl, by decide +kernel, by decide +kernel⟩
theorem sc'bent : FnScope ["_law_rows", "_law_cell_here", "_law_row_here", "_law_made", "_law_at", "_law_inner", "_law_k", "_law_parts"] ["_law_rows", "_law_cell_here", "_law_row_here"] (zi s'bent) := ⟨rfl, rfl, rfl, by decide +kernel, rfl, by decide +kernel, by decide +kernel⟩
theorem sc'other : FnScope ["_law_program_here", "_law_cell_here", "_law_many", "_law_bodies", "_law_things", "_law_body_here", "_law_row_here", "_law_bent_here"] ["_law_program_here", "_law_cell_here"] (zi s'other) := ⟨rfl, rfl, rfl, by decide +kernel, rfl, by decide +kernel, by decide +kernel⟩
theorem sc'whole : FnScope ["_law_thing"] ["_law_thing"] (zi s'whole) := ⟨rfl, rfl, rfl, by decide +kernel, rfl, by decide +kernel, by decide +kernel⟩
theorem sc'is_line : FnScope ["_law_thing", "_law_many"] ["_law_thing", "_law_many"] (zi s'is_line) := ⟨rfl, rfl, rfl, by decide +kernel, rfl, by decide +kernel, by decide +kernel⟩
theorem sc'row_size : FnScope ["_law_row_here", "_law_many", "_law_body_here", "_law_sizes", "_law_called", "_law_deep", "_law_places", "_law_some", "_law_size_here"] ["_law_row_here", "_law_many", "_law_body_here", "_law_sizes"] (zi s'row_size) := ⟨rfl, rfl, rfl, by decide +kernel, rfl, by decide +kernel, by decide +kernel⟩
theorem sc'size : FnScope ["_law_rows", "_law_many", "_law_body_here", "_law_sizes", "_law_deep", "_law_places", "_law_row_here", "_law_size_here"] ["_law_rows", "_law_many", "_law_body_here", "_law_sizes"] (zi s'size) := ⟨rfl, rfl, rfl, by decide +kernel, rfl, by decide +kernel, by decide +kernel⟩
theorem sc'due : FnScope ["_law_thing", "_law_sizes", "_law_body_here", "_law_size_here"] ["_law_thing"] (zi s'due) := ⟨rfl, rfl, rfl, by decide +kernel, rfl, by decide +kernel, by decide +kernel⟩
theorem sc'told : FnScope ["_law_thing", "_law_kept", "_law_found"] ["_law_thing"] (zi s'told) := ⟨rfl, rfl, rfl, by decide +kernel, rfl, by decide +kernel, by decide +kernel⟩
theorem sc_law : FnScope ["_law_script", "_law_program_here", "_law_cell_here"] ["_law_script"] (zi s_law) := ⟨rfl, rfl, rfl, by decide +kernel, rfl, by decide +kernel, by decide +kernel⟩
theorem nd_0 : (["thing", "many", "first", "last", "row"] : List Str).Nodup := by decide +kernel
theorem nd_1 : (["thing", "many", "first", "last", "kind", "part"] : List Str).Nodup := by decide +kernel
theorem nd_2 : (["thing", "many", "number"] : List Str).Nodup := by decide +kernel
theorem nd_3 : (["row", "part"] : List Str).Nodup := by decide +kernel
theorem nd_4 : (["rows", "called", "row"] : List Str).Nodup := by decide +kernel
theorem nd_5 : (["row", "called", "rows"] : List Str).Nodup := by decide +kernel
theorem nd_6 : (["_law_script", "_law_many", "_law_count", "_law_bodies", "_law_body_here", "_law_size_here", "_law_begin", "_law_k"] : List Str).Nodup := by decide +kernel
theorem nd_7 : (["_law_rows", "_law_cell_here", "_law_row_here", "_law_made", "_law_at", "_law_inner", "#6", "_law_parts", "_law_k"] : List Str).Nodup := by decide +kernel
theorem nd_8 : (["_law_thing", "_law_many", "_law_number"] : List Str).Nodup := by decide +kernel
section
variable {P : Program} {w : World} {K : Frag} {mg : Str → Option Value} {base : Heap} {Z : Ads}
theorem ok_has_parts (T : Txt K mg Z)  : FnOk P w K mg base CX0 36 Z.f_has_parts Z.d_has_parts ["thing", "long"] (spM K m_has_parts) := by
 have h := fn_ok (P := P) (w := w) (mg := mg) (base := base) (k := 35) (m := b_has_parts) T.F_has_parts sc_has_parts fun cdv A outer s H E hr => ⟨_, [], by
  unfold b_has_parts
  exact (zr (zJ (se_and (se_isi (K' := K) (st := false) (by rfl) (by exact T.z_isinstance) (by rfl) (by exact T.z_tuple) PyProof.Rows.boot_tuple (by decide) (zd 0)) (se_one (se_cmp op_eq Zq (se_len (K' := K) (st := false) (by rfl) (by exact T.z_len) (SE.seq (k := false) (zd 0))) (zd 1) (zS _))))))⟩
 exact h
theorem ok_is_number (T : Txt K mg Z)  : FnOk P w K mg base CX0 36 Z.f_is_number Z.d_is_number ["thing", "least", "most"] (spM K m_is_number) := by
 have h := fn_ok (P := P) (w := w) (mg := mg) (base := base) (k := 35) (m := b_is_number) T.F_is_number sc_is_number fun cdv A outer s H E hr => ⟨_, [], by
  unfold b_is_number
  exact (zr (zJ (se_and (se_isi (K' := K) (st := false) (by rfl) (by exact T.z_isinstance) (by rfl) (by exact T.z_int) PyProof.Rows.boot_int (by decide) (zd 0)) (se_and (se_not (se_isi (K' := K) (st := false) (by rfl) (by exact T.z_isinstance) (by rfl) (by exact T.z_bool) PyProof.Rows.boot_bool (by decide) (zd 0))) (se_one (se_chain op_le rok_le op_le rok_le (zd 1) (zd 0) (zd 2)))))))⟩
 exact h
theorem ok_is_set_line (T : Txt K mg Z) (G_has_parts : FnOk P w K mg base CX0 36 Z.f_has_parts Z.d_has_parts ["thing", "long"] (spM K m_has_parts)) (G_is_number : FnOk P w K mg base CX0 36 Z.f_is_number Z.d_is_number ["thing", "least", "most"] (spM K m_is_number)) : FnOk P w K mg base CX0 38 Z.f_is_set_line Z.d_is_set_line ["thing", "many"] (spM K m_is_set_line) := by
 have h := fn_ok (P := P) (w := w) (mg := mg) (base := base) (k := 37) (m := b_is_set_line) T.F_is_set_line sc_is_set_line fun cdv A outer s H E hr => ⟨_, [], by
  unfold b_is_set_line
  exact (zj (Zs (os' := []) (sb_not (sb_val (zD (K' := K) G_has_parts (hr.mono (by decide)) (by rfl) T.m_has_parts T.F_has_parts.kp T.b_has_parts (za (zd 0) (za (zA ZH Zh (zd 1) zf) zg)))))
   (zr (zJ se_bl))
   zP)
   (zr (zJ (se_allB (K' := K) (st := false) rfl (by rfl) (by exact T.z_all) (SF.seq (sf_comp (s := false) (own := ["number"]) (N' := ["thing", "many", "number"]) (k := 1) (compOk_of (by kernel_rfl)) rfl (si_tup (K' := K) (SC.sn (SE.seq (k := false) (zd 0)))) (fun _ _ _ _ => (sg_name (i := 2) nd_2 rfl (Or.inl rfl))) (fun _ _ _ _ => spf_nil) (fun _ _ _ _ => (zD (K' := K) G_is_number (hr.mono (by decide)) (by rfl) T.m_is_number T.F_is_number.kp T.b_is_number (za (zd 2) (za (se_un un_neg uok_neg (se_globI (by rfl) T.c_MOST_IN_A_LINE)) (za (se_globI (by rfl) T.c_MOST_IN_A_LINE) zg)))))))))))⟩
 exact h
theorem okR_are_rows (T : Txt K mg Z) (G_has_parts : FnOk P w K mg base CX0 36 Z.f_has_parts Z.d_has_parts ["thing", "long"] (spM K m_has_parts)) (G_is_number : FnOk P w K mg base CX0 36 Z.f_is_number Z.d_is_number ["thing", "least", "most"] (spM K m_is_number)) (G_is_set_line : FnOk P w K mg base CX0 38 Z.f_is_set_line Z.d_is_set_line ["thing", "many"] (spM K m_is_set_line)) (n : Nat) : FnOk P w K mg base CX0 (40 + 2 * n) Z.f_are_rows Z.d_are_rows ["thing", "many", "first", "last"] (spM K (zX n).1) ∧ FnOk P w K mg base CX0 (40 + 2 * n) Z.f_is_row Z.d_is_row ["thing", "many", "first", "last"] (spM K (zX n).2) := by
 induction n with
 | zero => exact ⟨FnOk.no, FnOk.no⟩
 | succ n ih =>
  obtain ⟨G_are_rows, G_is_row⟩ := ih
  refine ⟨?_, ?_⟩
  ·have h := fn_ok (P := P) (w := w) (mg := mg) (base := base) (k := 40 + 2 * n + 1) (m := b_are_rows ((zX n).1) ((zX n).2)) T.F_are_rows sc_are_rows fun cdv A outer s H E hr => ⟨_, [], by
   unfold b_are_rows
   exact (zr (zJ (se_and (se_isi (K' := K) (st := false) (by rfl) (by exact T.z_isinstance) (by rfl) (by exact T.z_list) PyProof.Rows.boot_list (by decide) (zd 0)) (se_one (se_allB (K' := K) (st := false) rfl (by rfl) (by exact T.z_all) (SF.seq (sf_comp (s := false) (own := ["row"]) (N' := ["thing", "many", "first", "last", "row"]) (k := 1) (compOk_of (by kernel_rfl)) rfl (si_list (K' := K) (SC.sn (SE.seq (k := true) (zd 0)))) (fun _ _ _ _ => (sg_name (i := 4) nd_0 rfl (Or.inl rfl))) (fun _ _ _ _ => spf_nil) (fun _ _ _ _ => (zD (K' := K) G_is_row (hr.mono (by omega)) (by rfl) T.m_is_row T.F_is_row.kp T.b_is_row (za (zd 4) (za (zd 1) (za (zd 2) (za (zd 3) zg)))))))))))))⟩
   exact h
  ·have h := fn_ok (P := P) (w := w) (mg := mg) (base := base) (k := 40 + 2 * n + 1) (m := b_is_row ((zX n).1) ((zX n).2)) T.F_is_row sc_is_row fun cdv A outer s H E hr => ⟨_, [], by
   unfold b_is_row
   exact (zj (Zs (os' := []) (SW.sb (sw_or (sb_not (sb_val (se_isi (K' := K) (st := false) (by rfl) (by exact T.z_isinstance) (by rfl) (by exact T.z_tuple) PyProof.Rows.boot_tuple (by decide) (zd 0)))) (sw_or1 (zU op_eq Zq (se_len (K' := K) (st := false) (by rfl) (by exact T.z_len) (SE.seq (k := false) (zd 0))) zf (zS _)))))
   (zr (zJ se_bl))
   zP)
   (zj (zO (os := []) (os' := []) (i := 4) sc_is_row.nd rfl (Or.inl rfl) (zZ (K' := K) (st := true) (SE.seq (k := false) (zd 0)) zf))
   (zj (Zs (os' := []) (zU op_eq Zq (zd 4) zB (zS _))
   (zr (zJ (se_and (zD (K' := K) G_has_parts (hr.mono (by omega)) (by rfl) T.m_has_parts T.F_has_parts.kp T.b_has_parts (za (zd 0) (za zf zg))) (se_and (zD (K' := K) G_is_number (hr.mono (by omega)) (by rfl) T.m_is_number T.F_is_number.kp T.b_is_number (za (zZ (K' := K) (st := false) (SE.seq (k := false) (zd 0)) zf) (za zf (za (zA op_sub rok_sub (zd 1) zf) zg)))) (se_one (zD (K' := K) G_is_set_line (hr.mono (by omega)) (by rfl) T.m_is_set_line T.F_is_set_line.kp T.b_is_set_line (za (zZ (K' := K) (st := false) (SE.seq (k := false) (zd 0)) zf) (za (zd 1) zg))))))))
   zP)
   (zj (Zs (os' := []) (zU op_eq Zq (zd 4) zB (zS _))
   (zr (zJ (se_and (zD (K' := K) G_has_parts (hr.mono (by omega)) (by rfl) T.m_has_parts T.F_has_parts.kp T.b_has_parts (za (zd 0) (za zf zg))) (se_one (zD (K' := K) G_is_number (hr.mono (by omega)) (by rfl) T.m_is_number T.F_is_number.kp T.b_is_number (za (zZ (K' := K) (st := false) (SE.seq (k := false) (zd 0)) zf) (za zf (za (zA op_sub rok_sub (zd 1) zf) zg))))))))
   zP)
   (zj (Zs (os' := []) (SW.sb (sw_or (zU op_eq Zq (zd 4) zB (zS _)) (sw_or1 (zU op_eq Zq (zd 4) zB (zS _)))))
   (zr (zJ (zD (K' := K) G_has_parts (hr.mono (by omega)) (by rfl) T.m_has_parts T.F_has_parts.kp T.b_has_parts (za (zd 0) (za zf zg)))))
   zP)
   (zj (Zs (os' := []) (zU op_eq Zq (zd 4) zB (zS _))
   (zr (zJ (se_and (zD (K' := K) G_has_parts (hr.mono (by omega)) (by rfl) T.m_has_parts T.F_has_parts.kp T.b_has_parts (za (zd 0) (za zf zg))) (se_one (se_allB (K' := K) (st := false) rfl (by rfl) (by exact T.z_all) (SF.seq (sf_comp (s := false) (own := ["part"]) (N' := ["thing", "many", "first", "last", "kind", "part"]) (k := 1) (compOk_of (by kernel_rfl)) rfl (si_tup (K' := K) (SC.sn (SE.seq (k := false) (se_cutT (K' := K) (st := true) (SE.seq (k := false) (zd 0)) (so_some zf) so_none)))) (fun _ _ _ _ => (sg_name (i := 5) nd_1 rfl (Or.inl rfl))) (fun _ _ _ _ => spf_nil) (fun _ _ _ _ => (zD (K' := K) G_are_rows (hr.mono (by omega)) (by rfl) T.m_are_rows T.F_are_rows.kp T.b_are_rows (za (zd 5) (za (zd 1) (za (zd 2) (za (zd 3) zg)))))))))))))
   zP)
   (zj (Zs (os' := []) (zU op_eq Zq (zd 4) zB (zS _))
   (zr (zJ (se_and (zD (K' := K) G_has_parts (hr.mono (by omega)) (by rfl) T.m_has_parts T.F_has_parts.kp T.b_has_parts (za (zd 0) (za zf zg))) (se_one (zD (K' := K) G_are_rows (hr.mono (by omega)) (by rfl) T.m_are_rows T.F_are_rows.kp T.b_are_rows (za (zZ (K' := K) (st := false) (SE.seq (k := false) (zd 0)) zf) (za (zd 1) (za (zd 2) (za (zd 3) zg)))))))))
   zP)
   (zj (Zs (os' := []) (zU op_eq Zq (zd 4) zB (zS _))
   (zr (zJ (se_and (zD (K' := K) G_has_parts (hr.mono (by omega)) (by rfl) T.m_has_parts T.F_has_parts.kp T.b_has_parts (za (zd 0) (za zf zg))) (se_one (zD (K' := K) G_is_number (hr.mono (by omega)) (by rfl) T.m_is_number T.F_is_number.kp T.b_is_number (za (zZ (K' := K) (st := false) (SE.seq (k := false) (zd 0)) zf) (za (zd 2) (za (zd 3) zg))))))))
   zP)
   (zr (zJ se_bl))))))))))⟩
   exact h
theorem ok_are_rows (T : Txt K mg Z) (G_has_parts : FnOk P w K mg base CX0 36 Z.f_has_parts Z.d_has_parts ["thing", "long"] (spM K m_has_parts)) (G_is_number : FnOk P w K mg base CX0 36 Z.f_is_number Z.d_is_number ["thing", "least", "most"] (spM K m_is_number)) (G_is_set_line : FnOk P w K mg base CX0 38 Z.f_is_set_line Z.d_is_set_line ["thing", "many"] (spM K m_is_set_line)) : FnOk P w K mg base CX0 88 Z.f_are_rows Z.d_are_rows ["thing", "many", "first", "last"] (spM K m_are_rows) := (okR_are_rows (P := P) (w := w) (base := base) T G_has_parts G_is_number G_is_set_line 24).1
theorem ok_is_row (T : Txt K mg Z) (G_has_parts : FnOk P w K mg base CX0 36 Z.f_has_parts Z.d_has_parts ["thing", "long"] (spM K m_has_parts)) (G_is_number : FnOk P w K mg base CX0 36 Z.f_is_number Z.d_is_number ["thing", "least", "most"] (spM K m_is_number)) (G_is_set_line : FnOk P w K mg base CX0 38 Z.f_is_set_line Z.d_is_set_line ["thing", "many"] (spM K m_is_set_line)) : FnOk P w K mg base CX0 88 Z.f_is_row Z.d_is_row ["thing", "many", "first", "last"] (spM K m_is_row) := (okR_are_rows (P := P) (w := w) (base := base) T G_has_parts G_is_number G_is_set_line 24).2
theorem ok_lists_in (T : Txt K mg Z)  : FnOk P w K mg base CX0 36 Z.f_lists_in Z.d_lists_in ["row"] (spM K m_lists_in) := by
 have h := fn_ok (P := P) (w := w) (mg := mg) (base := base) (k := 35) (m := b_lists_in) T.F_lists_in sc_lists_in fun cdv A outer s H E hr => ⟨_, [], by
  unfold b_lists_in
  exact (zr (zJ (SF.se (st := false) (sf_comp (s := false) (own := ["part"]) (N' := ["row", "part"]) (k := 1) (compOk_of (by kernel_rfl)) rfl (si_tup (K' := K) (SC.sn (SE.seq (k := false) (zd 0)))) (fun _ _ _ _ => (sg_name (i := 1) nd_3 rfl (Or.inl rfl))) (fun _ _ _ _ => (spf_one (sb_val (se_isi (K' := K) (st := false) (by rfl) (by exact T.z_isinstance) (by rfl) (by exact T.z_list) PyProof.Rows.boot_list (by decide) (zd 1))))) (fun _ _ _ _ => (zd 1))))))⟩
 exact h
theorem okR_new_places (T : Txt K mg Z) (G_lists_in : FnOk P w K mg base CX0 36 Z.f_lists_in Z.d_lists_in ["row"] (spM K m_lists_in)) (n : Nat) : FnOk P w K mg base CX0 (38 + 2 * n) Z.f_new_places Z.d_new_places ["rows", "called"] (spM K (zE n).1) ∧ FnOk P w K mg base CX0 (38 + 2 * n) Z.f_new_places_of_row Z.d_new_places_of_row ["row", "called"] (spM K (zE n).2) := by
 induction n with
 | zero => exact ⟨FnOk.no, FnOk.no⟩
 | succ n ih =>
  obtain ⟨G_new_places, G_new_places_of_row⟩ := ih
  refine ⟨?_, ?_⟩
  ·have h := fn_ok (P := P) (w := w) (mg := mg) (base := base) (k := 38 + 2 * n + 1) (m := b_new_places ((zE n).1) ((zE n).2)) T.F_new_places sc_new_places fun cdv A outer s H E hr => ⟨_, [], by
   unfold b_new_places
   exact (zr (zJ (se_sum (K' := K) (st := false) rfl (by rfl) (by exact T.z_sum) (SF.seq (sf_comp (s := false) (own := ["row"]) (N' := ["rows", "called", "row"]) (k := 1) (compOk_of (by kernel_rfl)) rfl (si_list (K' := K) (SC.sn (SE.seq (k := true) (zd 0)))) (fun _ _ _ _ => (sg_name (i := 2) nd_4 rfl (Or.inl rfl))) (fun _ _ _ _ => spf_nil) (fun _ _ _ _ => (zD (K' := K) G_new_places_of_row (hr.mono (by omega)) (by rfl) T.m_new_places_of_row T.F_new_places_of_row.kp T.b_new_places_of_row (za (zd 2) (za (zd 1) zg)))))))))⟩
   exact h
  ·have h := fn_ok (P := P) (w := w) (mg := mg) (base := base) (k := 38 + 2 * n + 1) (m := b_new_places_of_row ((zE n).1) ((zE n).2)) T.F_new_places_of_row sc_new_places_of_row fun cdv A outer s H E hr => ⟨_, [], by
   unfold b_new_places_of_row
   exact (zj (Zs (os' := []) (zU op_eq Zq (zZ (K' := K) (st := false) (SE.seq (k := false) (zd 0)) zf) zB (zS _))
   (zr (zJ (se_dget (st := false) hr (zd 1) (zZ (K' := K) (st := false) (SE.seq (k := false) (zd 0)) zf))))
   zP)
   (zr (zJ (zA ZH Zh zf (se_sum (K' := K) (st := false) rfl (by rfl) (by exact T.z_sum) (SF.seq (sf_comp (s := false) (own := ["rows"]) (N' := ["row", "called", "rows"]) (k := 1) (compOk_of (by kernel_rfl)) rfl (si_list (K' := K) (SC.sn (SE.seq (k := true) (zD (K' := K) G_lists_in (hr.mono (by omega)) (by rfl) T.m_lists_in T.F_lists_in.kp T.b_lists_in (za (zd 0) zg))))) (fun _ _ _ _ => (sg_name (i := 2) nd_5 rfl (Or.inl rfl))) (fun _ _ _ _ => spf_nil) (fun _ _ _ _ => (zD (K' := K) G_new_places (hr.mono (by omega)) (by rfl) T.m_new_places T.F_new_places.kp T.b_new_places (za (zd 2) (za (zd 1) zg)))))))))))⟩
   exact h
theorem ok_new_places (T : Txt K mg Z) (G_lists_in : FnOk P w K mg base CX0 36 Z.f_lists_in Z.d_lists_in ["row"] (spM K m_lists_in)) : FnOk P w K mg base CX0 86 Z.f_new_places Z.d_new_places ["rows", "called"] (spM K m_new_places) := (okR_new_places (P := P) (w := w) (base := base) T G_lists_in 24).1
theorem ok_new_places_of_row (T : Txt K mg Z) (G_lists_in : FnOk P w K mg base CX0 36 Z.f_lists_in Z.d_lists_in ["row"] (spM K m_lists_in)) : FnOk P w K mg base CX0 86 Z.f_new_places_of_row Z.d_new_places_of_row ["row", "called"] (spM K m_new_places_of_row) := (okR_new_places (P := P) (w := w) (base := base) T G_lists_in 24).2
theorem okR_depth (T : Txt K mg Z) (G_lists_in : FnOk P w K mg base CX0 36 Z.f_lists_in Z.d_lists_in ["row"] (spM K m_lists_in)) (n : Nat) : FnOk P w K mg base CX0 (38 + 2 * n) Z.f_depth Z.d_depth ["rows", "called"] (spM K (Zr n).1) ∧ FnOk P w K mg base CX0 (38 + 2 * n) Z.f_depth_of_row Z.d_depth_of_row ["row", "called"] (spM K (Zr n).2) := by
 induction n with
 | zero => exact ⟨FnOk.no, FnOk.no⟩
 | succ n ih =>
  obtain ⟨G_depth, G_depth_of_row⟩ := ih
  refine ⟨?_, ?_⟩
  ·have h := fn_ok (P := P) (w := w) (mg := mg) (base := base) (k := 38 + 2 * n + 1) (m := b_depth ((Zr n).1) ((Zr n).2)) T.F_depth sc_depth fun cdv A outer s H E hr => ⟨_, [], by
   unfold b_depth
   exact (zr (zJ (se_maxD (K' := K) (st := false) rfl (by rfl) (by exact T.z_max) (SF.seq (sf_comp (s := false) (own := ["row"]) (N' := ["rows", "called", "row"]) (k := 1) (compOk_of (by kernel_rfl)) rfl (si_list (K' := K) (SC.sn (SE.seq (k := true) (zd 0)))) (fun _ _ _ _ => (sg_name (i := 2) nd_4 rfl (Or.inl rfl))) (fun _ _ _ _ => spf_nil) (fun _ _ _ _ => (zD (K' := K) G_depth_of_row (hr.mono (by omega)) (by rfl) T.m_depth_of_row T.F_depth_of_row.kp T.b_depth_of_row (za (zd 2) (za (zd 1) zg)))))))))⟩
   exact h
  ·have h := fn_ok (P := P) (w := w) (mg := mg) (base := base) (k := 38 + 2 * n + 1) (m := b_depth_of_row ((Zr n).1) ((Zr n).2)) T.F_depth_of_row sc_depth_of_row fun cdv A outer s H E hr => ⟨_, [], by
   unfold b_depth_of_row
   exact (zj (Zs (os' := []) (zU op_eq Zq (zZ (K' := K) (st := false) (SE.seq (k := false) (zd 0)) zf) zB (zS _))
   (zr (zJ (se_callB (call_max2 rfl) caok_max2 (by rfl) (by exact T.z_max) PyProof.Rows.boot_max (za zf (za (se_dget (st := false) hr (zd 1) (zZ (K' := K) (st := false) (SE.seq (k := false) (zd 0)) zf)) zg)))))
   zP)
   (zr (zJ (zA ZH Zh zf (se_maxD (K' := K) (st := false) rfl (by rfl) (by exact T.z_max) (SF.seq (sf_comp (s := false) (own := ["rows"]) (N' := ["row", "called", "rows"]) (k := 1) (compOk_of (by kernel_rfl)) rfl (si_list (K' := K) (SC.sn (SE.seq (k := true) (zD (K' := K) G_lists_in (hr.mono (by omega)) (by rfl) T.m_lists_in T.F_lists_in.kp T.b_lists_in (za (zd 0) zg))))) (fun _ _ _ _ => (sg_name (i := 2) nd_5 rfl (Or.inl rfl))) (fun _ _ _ _ => spf_nil) (fun _ _ _ _ => (zD (K' := K) G_depth (hr.mono (by omega)) (by rfl) T.m_depth T.F_depth.kp T.b_depth (za (zd 2) (za (zd 1) zg)))))))))))⟩
   exact h
theorem ok_depth (T : Txt K mg Z) (G_lists_in : FnOk P w K mg base CX0 36 Z.f_lists_in Z.d_lists_in ["row"] (spM K m_lists_in)) : FnOk P w K mg base CX0 86 Z.f_depth Z.d_depth ["rows", "called"] (spM K m_depth) := (okR_depth (P := P) (w := w) (base := base) T G_lists_in 24).1
theorem ok_depth_of_row (T : Txt K mg Z) (G_lists_in : FnOk P w K mg base CX0 36 Z.f_lists_in Z.d_lists_in ["row"] (spM K m_lists_in)) : FnOk P w K mg base CX0 86 Z.f_depth_of_row Z.d_depth_of_row ["row", "called"] (spM K m_depth_of_row) := (okR_depth (P := P) (w := w) (base := base) T G_lists_in 24).2
theorem ok_all_keep_bounds (T : Txt K mg Z) (G_new_places : FnOk P w K mg base CX0 86 Z.f_new_places Z.d_new_places ["rows", "called"] (spM K m_new_places)) (G_depth : FnOk P w K mg base CX0 86 Z.f_depth Z.d_depth ["rows", "called"] (spM K m_depth)) : FnOk P w K mg base CX0 88 Z.f_all_keep_bounds Z.d_all_keep_bounds ["bodies"] (spM K m_all_keep_bounds) := by
 have h := fn_ok (P := P) (w := w) (mg := mg) (base := base) (k := 87) (m := b_all_keep_bounds) T.F_all_keep_bounds sc_all_keep_bounds fun cdv A outer s H E hr => ⟨_, [1, 2], by
  unfold b_all_keep_bounds
  exact (zj (ss_new (os := []) (os' := [1]) (i := 1) sc_all_keep_bounds.nd rfl (Or.inl rfl) sf_dnew)
   (zj (ss_new (os := [1]) (os' := [1, 2]) (i := 2) sc_all_keep_bounds.nd rfl (Or.inl rfl) sf_dnew)
   (zj (ss_for (os := [1, 2]) rfl (si_rangeD (by rfl) (by exact T.z_range) (zA op_sub rok_sub (se_len (K' := K) (st := false) (by rfl) (by exact T.z_len) (SE.seq (k := true) (zd 0))) zf) (se_un un_neg uok_neg zf)) (sg_name (i := 3) sc_all_keep_bounds.nd rfl (Or.inl rfl))
   (zj (ss_dput (os := [1, 2]) 1 hr (zd 3) (SE.flat (zD (K' := K) G_new_places (hr.mono (by decide)) (by rfl) T.m_new_places T.F_new_places.kp T.b_new_places (za (se_ixL (K' := K) (st := false) (SE.seq (k := true) (zd 0)) (zd 3)) (za (se_look 1) zg)))))
   (zj (ss_dput (os := [1, 2]) 2 hr (zd 3) (SE.flat (zD (K' := K) G_depth (hr.mono (by decide)) (by rfl) T.m_depth T.F_depth.kp T.b_depth (za (se_ixL (K' := K) (st := false) (SE.seq (k := true) (zd 0)) (zd 3)) (za (se_look 2) zg)))))
   (zr (Zs (os' := [1, 2]) (SW.sb (sw_or (zU op_gt rok_gt (zA ZH Zh (se_dget (st := false) hr (se_look 1) (zd 3)) zf) (se_globI (by rfl) T.c_MOST_PLACES) (zS _)) (sw_or1 (zU op_gt rok_gt (se_dget (st := false) hr (se_look 2) (zd 3)) (se_globI (by rfl) T.c_MOST_DEEP) (zS _)))))
   (zr (zJ se_bl))
   zP)))))
   (zr (zJ se_bl)))))⟩
 exact h
theorem ok_is_program (T : Txt K mg Z) (G_has_parts : FnOk P w K mg base CX0 36 Z.f_has_parts Z.d_has_parts ["thing", "long"] (spM K m_has_parts)) (G_is_number : FnOk P w K mg base CX0 36 Z.f_is_number Z.d_is_number ["thing", "least", "most"] (spM K m_is_number)) (G_are_rows : FnOk P w K mg base CX0 88 Z.f_are_rows Z.d_are_rows ["thing", "many", "first", "last"] (spM K m_are_rows)) (G_all_keep_bounds : FnOk P w K mg base CX0 88 Z.f_all_keep_bounds Z.d_all_keep_bounds ["bodies"] (spM K m_all_keep_bounds)) : FnOk P w K mg base CX0 90 Z.f_is_program Z.d_is_program ["thing"] (spM K m_is_program) := by
 have h := fn_ok (P := P) (w := w) (mg := mg) (base := base) (k := 89) (m := b_is_program) T.F_is_program sc_is_program fun cdv A outer s H E hr => ⟨_, [], by
  unfold b_is_program
  exact (zj (Zs (os' := []) (sb_not (sb_val (zD (K' := K) G_has_parts (hr.mono (by decide)) (by rfl) T.m_has_parts T.F_has_parts.kp T.b_has_parts (za (zd 0) (za zf zg)))))
   (zr (zJ se_bl))
   zP)
   (zj (zO (os := []) (os' := []) (i := 1) sc_is_program.nd rfl (Or.inl rfl) (zZ (K' := K) (st := true) (SE.seq (k := false) (zd 0)) zf))
   (zj (zO (os := []) (os' := []) (i := 2) sc_is_program.nd rfl (Or.inl rfl) (zZ (K' := K) (st := true) (SE.seq (k := false) (zd 0)) zf))
   (zj (Zs (os' := []) (SW.sb (sw_or (sb_not (sb_val (zD (K' := K) G_is_number (hr.mono (by decide)) (by rfl) T.m_is_number T.F_is_number.kp T.b_is_number (za (zd 1) (za zf (za (se_globI (by rfl) T.c_MOST_BOXES) zg)))))) (sw_or1 (sb_not (sb_val (se_isi (K' := K) (st := false) (by rfl) (by exact T.z_isinstance) (by rfl) (by exact T.z_list) PyProof.Rows.boot_list (by decide) (zd 2)))))))
   (zr (zJ se_bl))
   zP)
   (zj (Zs (os' := []) (sb_not (sb_chain op_le rok_le op_le rok_le zf (se_len (K' := K) (st := false) (by rfl) (by exact T.z_len) (SE.seq (k := true) (zd 2))) (se_globI (by rfl) T.c_MOST_BODIES)))
   (zr (zJ se_bl))
   zP)
   (zj (ss_for (os := []) rfl (si_enum (K' := K) (by rfl) (by exact T.z_enumerate) (SE.sn (k := true) (zd 2))) (sg_tup (K' := K) rfl (sgs_cons (sg_name (i := 3) sc_is_program.nd rfl (Or.inl rfl)) (sgs_cons (sg_name (i := 4) sc_is_program.nd rfl (Or.inl rfl)) sgs_nil)))
   (zr (Zs (os' := []) (sb_not (sb_val (zD (K' := K) G_are_rows (hr.mono (by decide)) (by rfl) T.m_are_rows T.F_are_rows.kp T.b_are_rows (za (zd 4) (za (zd 1) (za (zA ZH Zh (zd 3) zf) (za (zA op_sub rok_sub (se_len (K' := K) (st := false) (by rfl) (by exact T.z_len) (SE.seq (k := true) (zd 2))) zf) zg)))))))
   (zr (zJ se_bl))
   zP)))
   (zr (zJ (zD (K' := K) G_all_keep_bounds (hr.mono (by decide)) (by rfl) T.m_all_keep_bounds T.F_all_keep_bounds.kp T.b_all_keep_bounds (za (zd 2) zg))))))))))⟩
 exact h
theorem ok'cell (T : Txt K mg Z)  : FnOk P w K mg base CX0 36 Z.f'cell Z.d'cell ["_law_script", "_law_k"] (spM K m'cell) := by
 have h := fn_ok (P := P) (w := w) (mg := mg) (base := base) (k := 35) (m := b'cell) T.F'cell sc'cell fun cdv A outer s H E hr => ⟨_, [], by
  unfold b'cell
  exact (zj (Zs (os' := []) (zU op_lt rok_lt (zd 1) (se_len (K' := K) (st := false) (by rfl) (by exact T.z_len) (SE.seq (k := true) (zd 0))) (zS _))
   (zr (zJ (se_ixL (K' := K) (st := false) (SE.seq (k := true) (zd 0)) (zd 1))))
   zP)
   (zj (zO (os := []) (os' := []) (i := 2) sc'cell.nd rfl (Or.inl rfl) (zA ZH Zh (zA op_mulB rok_mul (zd 1) zf) zf))
   (zj (Zs (os' := []) (zU op_gt rok_gt (se_len (K' := K) (st := false) (by rfl) (by exact T.z_len) (SE.seq (k := true) (zd 0))) zf (zS _))
   (zr (zO (os := []) (os' := []) (i := 2) sc'cell.nd rfl (Or.inl rfl) (zA ZG Zg (zA ZH Zh (zA op_mulB rok_mul (se_ixL (K' := K) (st := true) (SE.seq (k := true) (zd 0)) (zA ZG Zg (zA op_mulB rok_mul (zd 1) zf) (se_len (K' := K) (st := true) (by rfl) (by exact T.z_len) (SE.seq (k := true) (zd 0))))) zf) (zA op_mulB rok_mul (zd 1) zf)) zf)))
   zP)
   (zj (zO (os := []) (os' := []) (i := 2) sc'cell.nd rfl (Or.inl rfl) (zA ZG Zg (zA op_mulB rok_mul (zd 2) (zd 2)) zf))
   (zr (zJ (zA ZG Zg (zA op_mulB rok_mul (zA ZH Zh (zd 2) zf) (zA ZH Zh (zd 2) zf)) zf)))))))⟩
 exact h
theorem ok'line (T : Txt K mg Z)  : FnOk P w K mg base CX0 36 Z.f'line Z.d'line ["_law_cell_here", "_law_many"] (spM K m'line) := by
 have h := fn_ok (P := P) (w := w) (mg := mg) (base := base) (k := 35) (m := b'line) T.F'line sc'line fun cdv A outer s H E hr => ⟨_, [2], by
  unfold b'line
  exact (zj (ss_new (os := []) (os' := [2]) (i := 2) sc'line.nd rfl (Or.inl rfl) (zM zg))
   (zj (ss_for (os := [2]) rfl (si_range1 (by rfl) (by exact T.z_range) (zA ZH Zh (zd 1) zf)) (sg_name (i := 3) sc'line.nd rfl (Or.inl rfl))
   (zj (zO (os := [2]) (os' := [2]) (i := 4) sc'line.nd rfl (Or.inl rfl) (zA ZG Zg (zA ZH Zh (zA op_mulB rok_mul (zA (op_fdivP (hr.mono (by decide))) rok_divP (zd 0) (zA ZH Zh (zA op_mulB rok_mul (zd 3) (zd 3)) zf)) zf) (zA op_mulB rok_mul (zd 3) zf)) zf))
   (zj (zO (os := [2]) (os' := [2]) (i := 5) sc'line.nd rfl (Or.inl rfl) (se_ixL (K' := K) (st := true) (SF.seq (zM (za zf (za zf (za zf (za (se_un un_neg uok_neg zf) (za zf (za zf (za zf (za zf (za (se_un un_neg uok_neg zf) zg))))))))))) (zA ZG Zg (zd 4) zf)))
   (zj (Zs (os' := [2]) (zU op_eq Zq (zA ZG Zg (zA op_fdiv rok_div (zd 4) zf) zf) zf (zS _))
   (zj (zO (os := [2]) (os' := [2]) (i := 5) sc'line.nd rfl (Or.inl rfl) (zA op_sub rok_sub (zA ZG Zg (zA op_fdiv rok_div (zd 4) zf) zf) zf))
   (zr (Zs (os' := [2]) (zU op_gt rok_gt (zd 3) zf (zS _))
   (zr (zO (os := [2]) (os' := [2]) (i := 5) sc'line.nd rfl (Or.inl rfl) (zA op_sub rok_sub (zA ZG Zg (zd 5) zf) zf)))
   zP)))
   zP)
   (zr (ss_append (os := [2]) (i := 2) (zd 5)))))))
   (zr (zJ (se_tuple (K' := K) (st := false) (by rfl) (by exact T.z_tuple) (sc_own 2))))))⟩
 exact h
theorem ok'row (T : Txt K mg Z) (G'line : FnOk P w K mg base CX0 36 Z.f'line Z.d'line ["_law_cell_here", "_law_many"] (spM K m'line)) : FnOk P w K mg base CX0 38 Z.f'row Z.d'row ["_law_cell_here", "_law_many", "_law_body_here", "_law_count"] (spF K m'row) := by
 have h := fn_okF (P := P) (w := w) (mg := mg) (base := base) (k := 37) (m := b'row) T.F'row sc'row fun cdv A outer s H E hr => ⟨_, [], by
  unfold b'row
  exact (zj (zO (os := []) (os' := []) (i := 4) sc'row.nd rfl (Or.inl rfl) (zA ZG Zg (zd 0) zf))
   (zj (Zs (os' := []) (SW.sb (sw_and (zU op_eq Zq (zd 4) zf (zS _)) (sw_and1 (zU op_lt rok_lt (zA ZH Zh (zd 2) zf) (zd 3) (zS _)))))
   (zr (ss_retFl (zx (za zB (za (zA ZH Zh (zA ZH Zh (zd 2) zf) (zA ZG Zg (zA op_fdiv rok_div (zd 0) zf) (zA op_sub rok_sub (zA op_sub rok_sub (zd 3) (zd 2)) zf))) zg)))))
   zP)
   (zj (Zs (os' := []) (SW.sb (sw_and (zU op_lt rok_lt (zd 4) zf (zS _)) (sw_and1 (zU op_gt rok_gt (zd 1) zf (zS _)))))
   (zr (ss_retFl (zx (za zB (za (zA ZG Zg (zA op_fdiv rok_div (zd 0) zf) (zd 1)) (za (zD (K' := K) G'line (hr.mono (by decide)) (by rfl) T.m'line T.F'line.kp T.b'line (za (zA op_fdiv rok_div (zd 0) zf) (za (zd 1) zg))) zg))))))
   zP)
   (zj (Zs (os' := []) (SW.sb (sw_and (zU op_eq Zq (zd 4) zf (zS _)) (sw_and1 (zU op_gt rok_gt (zd 1) zf (zS _)))))
   (zr (ss_retFl (zx (za zB (za (zA ZG Zg (zA op_fdiv rok_div (zd 0) zf) (zd 1)) zg)))))
   zP)
   (zj (Zs (os' := []) (zU op_eq Zq (zd 4) zf (zS _))
   (zr (ss_retRow1 (os := [])))
   zP)
   (zj (Zs (os' := []) (zU op_eq Zq (zd 4) zf (zS _))
   (zr (ss_retRow2 (os := [])))
   zP)
   (zr (ss_retFl (se_ixL (K' := K) (st := false) (SF.seq (zM (za (zx (za zB zg)) (za (zx (za zB zg)) zg)))) (zA ZG Zg (zA op_fdiv rok_div (zd 0) zf) zf))))))))))⟩
 exact h
theorem ok'body (T : Txt K mg Z) (G'row : FnOk P w K mg base CX0 38 Z.f'row Z.d'row ["_law_cell_here", "_law_many", "_law_body_here", "_law_count"] (spF K m'row)) : FnOk P w K mg base CX0 40 Z.f'body Z.d'body ["_law_cells", "_law_many", "_law_body_here", "_law_count"] (spM K m'body) := by
 have h := fn_ok (P := P) (w := w) (mg := mg) (base := base) (k := 39) (m := b'body) T.F'body sc'body fun cdv A outer s H E hr => ⟨_, [], by
  unfold b'body
  exact (sss_b13 (sr_call G'row (hr.mono (by decide)) (by rfl) T.m'row T.F'row.kp T.b'row (za (zA op_fdiv rok_div (zd 6) zf) (za (zd 1) (za (zd 2) (za (zd 3) zg))))) (fun hR => (pss_cons (ps_set (i := 4) sc'body.nd rfl (Or.inl rfl) (pe_lst Zv)) (pss_cons (ps_set (i := 5) sc'body.nd rfl (Or.inl rfl) (pe_lst (zT (pv 4) Zv))) (pss_cons (ps_for PassesOwn.never rfl (pi_list (pv 0)) (pg_name (i := 6) sc'body.nd rfl (Or.inl rfl)) (pss_cons (ps_set (i := 7) sc'body.nd rfl (Or.inl rfl) hR) (pss_cons (ps_expr (pe_bm PySem.F.plainAttrs_list PySem.F.slot_list_append PySem.F.type_list_append mt_append (pe_ix ix_list (pv 5) (pe_un un_neg pe_int) (fun _ _ => rfl)) (zT (pv 7) Zv))) (pss_one (ps_if (PW.pt (pw_and (pt_cmpR op_in_seq (pe_ix ix_tup (pv 7) pe_int (fun _ _ => rfl)) (pe_tup (zT pe_str (zT pe_str Zv))) rfl) (pw_and1 (pt_cmpR op_lt (pe_callB call_len_seq (by rfl) (by exact T.z_len) PySem.boot_len (zT (pv 5) Zv)) pe_int (zS _))))) (pss_one (ps_expr (pe_bm PySem.F.plainAttrs_list PySem.F.slot_list_append PySem.F.type_list_append mt_append (pv 5) (zT (pe_ix ix_tup (pv 7) (pe_op ZH pe_int (pe_op ZG (pe_op op_fdiv (pv 6) pe_int) (pe_op op_sub (pe_callB call_len_seq (by rfl) (by exact T.z_len) PySem.boot_len (zT (pv 7) Zv)) pe_int))) (fun _ _ => rfl)) Zv)))) (pss_one (ps_if (PW.pt (pw_and (pt_cmpR op_eq (pe_op ZG (pv 6) pe_int) pe_int (zS _)) (pw_and1 (pt_cmpR op_gt (pe_callB call_len_seq (by rfl) (by exact T.z_len) PySem.boot_len (zT (pv 5) Zv)) pe_int (zS _))))) (pss_one (ps_expr (pe_bm0 PySem.F.plainAttrs_list PySem.F.slot_list_pop PySem.F.type_list_pop mt_pop (pv 5)))) pss_nil))))))) (pss_one (ps_ret (pv 4))))))))⟩
 exact h
theorem ok'program (T : Txt K mg Z) (G'cell : FnOk P w K mg base CX0 36 Z.f'cell Z.d'cell ["_law_script", "_law_k"] (spM K m'cell)) (G'body : FnOk P w K mg base CX0 40 Z.f'body Z.d'body ["_law_cells", "_law_many", "_law_body_here", "_law_count"] (spM K m'body)) : FnOk P w K mg base CX0 42 Z.f'program Z.d'program ["_law_script"] (spM K m'program) := by
 have h := fn_ok (P := P) (w := w) (mg := mg) (base := base) (k := 41) (m := b'program) T.F'program sc'program fun cdv A outer s H E hr => ⟨_, [3], by
  unfold b'program
  exact (zj (zO (os := []) (os' := []) (i := 1) sc'program.nd rfl (Or.inl rfl) (zA ZG Zg (zD (K' := K) G'cell (hr.mono (by decide)) (by rfl) T.m'cell T.F'cell.kp T.b'cell (za (zd 0) (za zf zg))) zf))
   (zj (zO (os := []) (os' := []) (i := 2) sc'program.nd rfl (Or.inl rfl) (zA ZH Zh zf (zA ZG Zg (zA op_fdiv rok_div (zD (K' := K) G'cell (hr.mono (by decide)) (by rfl) T.m'cell T.F'cell.kp T.b'cell (za (zd 0) (za zf zg))) zf) zf)))
   (zj (ss_new (os := []) (os' := [3]) (i := 3) sc'program.nd rfl (Or.inl rfl) (zM zg))
   (zj (ss_for (os := [3]) rfl (si_range1 (by rfl) (by exact T.z_range) (zd 2)) (sg_name (i := 4) sc'program.nd rfl (Or.inl rfl))
   (zj (zO (os := [3]) (os' := [3]) (i := 5) sc'program.nd rfl (Or.inl rfl) (se_ixL (K' := K) (st := true) (SF.seq (zM (za (zA ZH Zh zf (zA ZG Zg (zD (K' := K) G'cell (hr.mono (by decide)) (by rfl) T.m'cell T.F'cell.kp T.b'cell (za (zd 0) (za zf zg))) zf)) (za zf (za zf (za zf zg)))))) (zd 4)))
   (zj (zO (os := [3]) (os' := [3]) (i := 6) sc'program.nd rfl (Or.inr rfl) (se_ixL (K' := K) (st := true) (SF.seq (zM (za zf (za zf (za zf (za zf zg)))))) (zd 4)))
   (zr (ss_append (os := [3]) (i := 3) (zD (K' := K) G'body (hr.mono (by decide)) (by rfl) T.m'body T.F'body.kp T.b'body (za (SF.se (st := true) (sf_comp (s := false) (own := ["_law_k"]) (N' := ["_law_script", "_law_many", "_law_count", "_law_bodies", "_law_body_here", "_law_size_here", "_law_begin", "_law_k"]) (k := 1) (compOk_of (by kernel_rfl)) rfl (si_range1 (by rfl) (by exact T.z_range) (zd 5)) (fun _ _ _ _ => (sg_name (i := 7) nd_6 rfl (Or.inl rfl))) (fun _ _ _ _ => spf_nil) (fun _ _ _ _ => (zD (K' := K) G'cell (hr.mono (by decide)) (by rfl) T.m'cell T.F'cell.kp T.b'cell (za (zd 0) (za (zA ZH Zh (zd 6) (zd 7)) zg)))))) (za (zd 1) (za (zd 4) (za (zd 2) zg))))))))))
   (zr (zJ (zx (za (zd 1) (za (se_look 3) zg)))))))))⟩
 exact h
theorem ok'bent_line (T : Txt K mg Z)  : FnOk P w K mg base CX0 36 Z.f'bent_line Z.d'bent_line ["_law_many", "_law_cell_here"] (spM K m'bent_line) := by
 have h := fn_ok (P := P) (w := w) (mg := mg) (base := base) (k := 35) (m := b'bent_line) T.F'bent_line sc'bent_line fun cdv A outer s H E hr => ⟨_, [2], by
  unfold b'bent_line
  exact (zj (ss_new (os := []) (os' := [2]) (i := 2) sc'bent_line.nd rfl (Or.inl rfl) (sf_rep (zM (za zf zg)) (zA ZH Zh (zd 0) zf)))
   (zj (ss_setIx (os := [2]) (i := 2) (se_ixL (K' := K) (st := true) (SF.seq (zM (za zf (za (se_un un_neg uok_neg zf) (za se_bl (za se_bl (za zB (za se_non (za zf (za (zA op_pow rok_pow zf zf) (za (zx (za zf zg)) zg))))))))))) (zA ZG Zg (zA op_fdiv rok_div (zd 1) zf) zf)) (zA ZG Zg (zd 1) (zA ZH Zh (zd 0) zf)))
   (zr (zJ (se_tuple (K' := K) (st := false) (by rfl) (by exact T.z_tuple) (sc_own 2))))))⟩
 exact h
theorem ok'bent_rows (T : Txt K mg Z) (G'bent_line : FnOk P w K mg base CX0 36 Z.f'bent_line Z.d'bent_line ["_law_many", "_law_cell_here"] (spM K m'bent_line)) : FnOk P w K mg base CX0 38 Z.f'bent_rows Z.d'bent_rows ["_law_many", "_law_count", "_law_cell_here"] (spM K m'bent_rows) := by
 have h := fn_ok (P := P) (w := w) (mg := mg) (base := base) (k := 37) (m := b'bent_rows) T.F'bent_rows Zt fun cdv A outer s H E hr => ⟨_, [], by
  unfold b'bent_rows
  exact (zj (zO (os := []) (os' := []) (i := 3) Zt.nd rfl (Or.inl rfl) (se_repT (K' := K) (st := true) (zx (za zf zg)) (zA ZH Zh (zd 0) zf)))
   (zj (zO (os := []) (os' := []) (i := 4) Zt.nd rfl (Or.inl rfl) (zD (K' := K) G'bent_line (hr.mono (by decide)) (by rfl) T.m'bent_line T.F'bent_line.kp T.b'bent_line (za (zd 0) (za (zA op_fdiv rok_div (zd 2) zf) zg))))
   (zj (zO (os := []) (os' := []) (i := 5) Zt.nd rfl (Or.inl rfl) (SF.se (st := true) (zM (za se_non (za (zx zg) (za (zx (za zB zg)) (za (zx (za zB (za zf zg))) (za (SF.se (st := true) (zM (za zB zg))) (za zB (za (zx (za zB zg)) (za (zx (za zB (za zf zg))) (za (zx (za zB (za zf zg))) (za (zx (za zB zg)) (za zf zg))))))))))))))
   (zj (zO (os := []) (os' := []) (i := 5) Zt.nd rfl (Or.inl rfl) (SF.se (st := true) (sf_cat (SE.sl (zd 5)) (SF.sl (zM (za (zx (za zB (za (zd 0) zg))) (za (zx (za zB (za (se_un un_neg uok_neg zf) zg))) (za (zx (za zB (za se_bl zg))) (za (zx (za zB (za (zd 0) (za (zd 3) zg)))) (za (zx (za zB (za zf (za (zx zg) zg)))) zg))))))))))
   (zj (zO (os := []) (os' := []) (i := 5) Zt.nd rfl (Or.inl rfl) (SF.se (st := true) (sf_cat (SE.sl (zd 5)) (SF.sl (zM (za (zx (za zB (za (se_un un_neg uok_neg zf) (za (zd 3) zg)))) (za (zx (za zB (za se_bl (za (zd 3) zg)))) (za (zx (za zB (za se_bl (za (zd 3) zg)))) (za (zx (za zB (za zB (za (zd 3) zg)))) zg)))))))))
   (zj (zO (os := []) (os' := []) (i := 5) Zt.nd rfl (Or.inl rfl) (SF.se (st := true) (sf_cat (SE.sl (zd 5)) (SF.sl (zM (za (zx (za zB (za zf (za (se_cutT (K' := K) (st := true) (SE.seq (k := false) (zd 3)) (so_some zf) so_none) zg)))) (za (zx (za zB (za zf (za (SF.se (st := true) (sf_list (K' := K) (by rfl) (by exact T.z_list) (SE.seq (k := false) (zd 3)))) zg)))) (za (zx (za zB (za zf (za (se_catA (K' := K) (st := true) (zd 3) (zx (za zf zg))) zg)))) (za (zx (za zB (za zf (za (zd 4) zg)))) zg)))))))))
   (zj (zO (os := []) (os' := []) (i := 5) Zt.nd rfl (Or.inl rfl) (SF.se (st := true) (sf_cat (SE.sl (zd 5)) (SF.sl (zM (za (zx (za zB (za zf (za (zd 4) zg)))) (za (zx (za zB (za (se_callB (call_max2 rfl) caok_max2 (by rfl) (by exact T.z_max) PyProof.Rows.boot_max (za zf (za (zA op_sub rok_sub (zd 0) zf) zg))) (za (zd 4) zg)))) (za (zx (za zB (za (SF.se (st := true) (zM zg)) zg))) zg))))))))
   (zj (zO (os := []) (os' := []) (i := 5) Zt.nd rfl (Or.inl rfl) (SF.se (st := true) (sf_cat (SE.sl (zd 5)) (SF.sl (zM (za (zx (za zB (za (SF.se (st := true) (zM zg)) (za (zx zg) zg)))) (za (zx (za zB (za se_non (za (SF.se (st := true) (zM zg)) zg)))) (za (zx (za zB (za (SF.se (st := true) (zM zg)) (za (SF.se (st := true) (zM zg)) (za (SF.se (st := true) (zM zg)) zg))))) (za (zx (za zB zg)) (za (zx (za zB (za (SF.se (st := true) (zM zg)) (za (SF.se (st := true) (zM zg)) zg)))) zg))))))))))
   (zj (zO (os := []) (os' := []) (i := 5) Zt.nd rfl (Or.inl rfl) (SF.se (st := true) (sf_cat (SE.sl (zd 5)) (SF.sl (zM (za (zx (za zB (za (zx zg) zg))) (za (zx (za zB (za (SF.se (st := true) (zM (za se_non zg))) zg))) (za (zx (za zB zg)) (za (zx (za zB (za zf zg))) (za (zx (za zB (za (zd 1) zg))) (za (zx (za zB (za (zA op_sub rok_sub (zd 1) zf) zg))) zg)))))))))))
   (zj (zO (os := []) (os' := []) (i := 5) Zt.nd rfl (Or.inl rfl) (SF.se (st := true) (sf_cat (SE.sl (zd 5)) (SF.sl (zM (za (zx (za zB (za se_bl zg))) (za (zx (za zB (za zB zg))) (za (zx (za zf (za zf zg))) (za (zx (za zB (za (SF.se (st := true) (zM (za (zx (za zB (za zf zg))) zg))) zg))) (za (zx (za zB (za (SF.se (st := true) (zM (za (zx (za zB (za (SF.se (st := true) (zM (za (zx zg) zg))) zg))) zg))) (za (SF.se (st := true) (zM zg)) zg)))) zg))))))))))
   (zj (zO (os := []) (os' := []) (i := 5) Zt.nd rfl (Or.inl rfl) (SF.se (st := true) (sf_cat (SE.sl (zd 5)) (SF.sl (zM (za (zx (za zB zg)) (za (zx (za zB zg)) (za (zx (za zB (za (SF.se (st := true) (zM (za (zx (za zB zg)) zg))) zg))) (za (zx (za zB (za zf (za (se_catA (K' := K) (st := true) (zx (za (se_un un_neg uok_neg zf) zg)) (se_cutT (K' := K) (st := true) (SE.seq (k := false) (zd 3)) (so_some zf) so_none)) zg)))) (za (zx (za zB zg)) zg))))))))))
   (zr (zJ (se_ixL (K' := K) (st := false) (SE.seq (k := true) (zd 5)) (zA ZG Zg (zd 2) (se_len (K' := K) (st := true) (by rfl) (by exact T.z_len) (SE.seq (k := true) (zd 5))))))))))))))))))⟩
 exact h
theorem okR'bent (T : Txt K mg Z)  (n : Nat) : FnOk P w K mg base CX0 (36 + 2 * n) Z.f'bent Z.d'bent ["_law_rows", "_law_cell_here", "_law_row_here"] (spM K (R'bent n)) := by
 induction n with
 | zero => exact FnOk.no
 | succ n ih =>
  have G'bent := ih
  refine ?_
  ·have h := fn_ok (P := P) (w := w) (mg := mg) (base := base) (k := 36 + 2 * n + 1) (m := b'bent ((R'bent n))) T.F'bent sc'bent fun cdv A outer s H E hr => ⟨_, [3], by
   unfold b'bent
   exact (zj (ss_new (os := []) (os' := [3]) (i := 3) sc'bent.nd rfl (Or.inr rfl) (sf_list (K' := K) (by rfl) (by exact T.z_list) (SE.seq (k := true) (zd 0))))
   (zj (zO (os := [3]) (os' := [3]) (i := 4) sc'bent.nd rfl (Or.inr rfl) (zA ZG Zg (zd 1) (zA ZH Zh (se_len (K' := K) (st := true) (by rfl) (by exact T.z_len) (sc_own 3)) zf)))
   (zj (zO (os := [3]) (os' := [3]) (i := 5) sc'bent.nd rfl (Or.inl rfl) (SF.se (st := true) (zM zg)))
   (zj (Zs (os' := [3]) (zU op_lt rok_lt (zd 4) (se_len (K' := K) (st := false) (by rfl) (by exact T.z_len) (sc_own 3)) (zS _))
   (zr (ss_setComp (os := [3]) (os' := [3]) (i := 5) sc'bent.nd rfl rfl (s := false) (own := ["_law_k"]) (N' := ["_law_rows", "_law_cell_here", "_law_row_here", "_law_made", "_law_at", "_law_inner", "#6", "_law_parts", "_law_k"]) (k := 1) (compOk_of (by kernel_rfl)) rfl (si_range2 (by rfl) (by exact T.z_range) zf (se_len (K' := K) (st := false) (by rfl) (by exact T.z_len) (SE.seq (k := false) (se_ixL (K' := K) (st := true) (sc_own 3) (zd 4))))) (fun _ _ _ _ => (sg_name (i := 8) nd_7 rfl (Or.inl rfl))) (fun _ _ _ _ => (spf_one (sb_val (se_isi (K' := K) (st := false) (by rfl) (by exact T.z_isinstance) (by rfl) (by exact T.z_list) PyProof.Rows.boot_list (by decide) (zZ (K' := K) (st := false) (SE.seq (k := false) (se_ixL (K' := K) (st := true) (sc_own 3) (zd 4))) (zd 8)))))) (fun _ _ _ _ => (zd 8))))
   zP)
   (zj (Zs (os' := [3]) (SW.sb (sw_and (zU (op_neD (K' := K) hr) rok_neD (zd 5) (SF.se (st := false) (zM zg)) (zS _)) (sw_and1 (zU op_gt rok_gt (zA ZG Zg (zA op_fdiv rok_div (zd 1) zf) zf) zf (zS _)))))
   (SSs.post (os2 := [3, 7]) (os' := [3]) (zj (zO (os := [3]) (os' := [3]) (i := 6) sc'bent.nd rfl (Or.inl rfl) (se_ixL (K' := K) (st := true) (SE.seq (k := true) (zd 5)) (zA ZG Zg (zA op_fdiv rok_div (zd 1) zf) (se_len (K' := K) (st := true) (by rfl) (by exact T.z_len) (SE.seq (k := true) (zd 5))))))
   (zj (ss_new (os := [3]) (os' := [3, 7]) (i := 7) sc'bent.nd rfl (Or.inl rfl) (sf_list (K' := K) (by rfl) (by exact T.z_list) (SE.seq (k := false) (se_ixL (K' := K) (st := true) (sc_own 3) (zd 4)))))
   (zj (ss_setIx (os := [3, 7]) (i := 7) (zD (K' := K) G'bent (hr.mono (by omega)) (by rfl) T.m'bent T.F'bent.kp T.b'bent (za (se_ixL (K' := K) (st := true) (sc_own 7) (zd 6)) (za (zA op_fdiv rok_div (zd 1) zf) (za (zd 2) zg)))) (zd 6))
   (zr (ss_setIx (os := [3, 7]) (i := 3) (se_tuple (K' := K) (st := true) (by rfl) (by exact T.z_tuple) (sc_own 7)) (zd 4)))))))
   (zr (Zs (os' := [3]) (zU op_eq Zq (zA ZG Zg (zA op_fdiv rok_div (zd 1) zf) zf) zf (zS _))
   (zr (ss_insert (os := [3]) (i := 3) (zd 4) (zd 2)))
   (zr (ss_new (os := [3]) (os' := [3]) (i := 3) sc'bent.nd rfl (Or.inr rfl) (sf_cat (SF.sl (sf_cat (SF.sl (sf_cutL (K' := K) (sc_own 3) so_none (so_some (zd 4)))) (SF.sl (zM (za (zd 2) zg))))) (SF.sl (sf_cutL (K' := K) (sc_own 3) (so_some (zA ZH Zh (zd 4) zf)) so_none))))))))
   (zr (zJ (se_look 3))))))))⟩
   exact h
theorem ok'bent (T : Txt K mg Z)  : FnOk P w K mg base CX0 84 Z.f'bent Z.d'bent ["_law_rows", "_law_cell_here", "_law_row_here"] (spM K m'bent) := okR'bent (P := P) (w := w) (base := base) T  24
theorem ok'other (T : Txt K mg Z) (G'bent_rows : FnOk P w K mg base CX0 38 Z.f'bent_rows Z.d'bent_rows ["_law_many", "_law_count", "_law_cell_here"] (spM K m'bent_rows)) (G'bent : FnOk P w K mg base CX0 84 Z.f'bent Z.d'bent ["_law_rows", "_law_cell_here", "_law_row_here"] (spM K m'bent)) : FnOk P w K mg base CX0 86 Z.f'other Z.d'other ["_law_program_here", "_law_cell_here"] (spM K m'other) := by
 have h := fn_ok (P := P) (w := w) (mg := mg) (base := base) (k := 85) (m := b'other) T.F'other sc'other fun cdv A outer s H E hr => ⟨_, [7], by
  unfold b'other
  exact (zj (ss_asg (os := []) (zd 0) (sg_tup (K' := K) rfl (sgs_cons (sg_name (i := 2) sc'other.nd rfl (Or.inl rfl)) (sgs_cons (sg_name (i := 3) sc'other.nd rfl (Or.inl rfl)) sgs_nil))))
   (zj (zO (os := []) (os' := []) (i := 4) sc'other.nd rfl (Or.inl rfl) (SF.se (st := true) (zM (za se_non (za zf (za zB (za (zx zg) (za se_bl (za (zx (za (zd 2) zg)) zg)))))))))
   (zj (zO (os := []) (os' := []) (i := 4) sc'other.nd rfl (Or.inl rfl) (SF.se (st := true) (sf_cat (SE.sl (zd 4)) (SF.sl (zM (za (SF.se (st := true) (zM (za (zd 2) (za (zd 3) zg)))) (za (zx (za (zd 2) (za (zd 3) (za zf zg)))) zg)))))))
   (zj (zO (os := []) (os' := []) (i := 4) sc'other.nd rfl (Or.inl rfl) (SF.se (st := true) (sf_cat (SE.sl (zd 4)) (SF.sl (zM (za (zx (za (zd 2) (za (SF.se (st := true) (zM zg)) zg))) (za (zx (za (zd 2) (za se_non zg))) (za (zx (za zf (za (zd 3) zg))) (za (zx (za (se_un un_neg uok_neg zf) (za (zd 3) zg))) (za (zx (za se_bl (za (zd 3) zg))) zg))))))))))
   (zj (zO (os := []) (os' := []) (i := 4) sc'other.nd rfl (Or.inl rfl) (SF.se (st := true) (sf_cat (SE.sl (zd 4)) (SF.sl (zM (za (zx (za (se_strI (st := true) (by rfl) (by exact T.z_str) (za (zd 2) zg)) (za (zd 3) zg))) (za (zx (za (zd 2) (za (se_tuple (K' := K) (st := true) (by rfl) (by exact T.z_tuple) (SE.seq (k := true) (zd 3))) zg))) zg)))))))
   (zj (zO (os := []) (os' := []) (i := 4) sc'other.nd rfl (Or.inl rfl) (SF.se (st := true) (sf_cat (SE.sl (zd 4)) (SF.sl (zM (za (zx (za (zd 2) (za (SF.se (st := true) (sf_cat (SE.sl (zd 3)) (SF.sl (zM (za (SF.se (st := true) (zM zg)) (za (SF.se (st := true) (zM zg)) (za (SF.se (st := true) (zM zg)) (za (SF.se (st := true) (zM zg)) zg)))))))) zg))) (za (zx (za (zA ZG Zg (zA ZH Zh (zd 2) zf) zf) (za (zd 3) zg))) zg)))))))
   (zj (zO (os := []) (os' := []) (i := 4) sc'other.nd rfl (Or.inl rfl) (SF.se (st := true) (sf_cat (SE.sl (zd 4)) (SF.sl (zM (za (zx (za (zd 2) (za (SF.se (st := true) (sf_cat (SE.sl (zd 3)) (SF.sl (zM (za (SF.se (st := true) (zM zg)) zg))))) zg))) (za (zx (za (zd 2) (za (SF.se (st := true) (zM (za (zx zg) zg))) zg))) zg)))))))
   (zj (Zs (os' := []) (zU op_eq Zq (zA ZG Zg (zd 1) zf) zf (zS _))
   (zr (zJ (se_ixL (K' := K) (st := false) (SE.seq (k := true) (zd 4)) (zA ZG Zg (zA op_fdiv rok_div (zd 1) zf) (se_len (K' := K) (st := true) (by rfl) (by exact T.z_len) (SE.seq (k := true) (zd 4)))))))
   zP)
   (zj (zO (os := []) (os' := []) (i := 5) sc'other.nd rfl (Or.inl rfl) (zA ZG Zg (zA op_fdiv rok_div (zd 1) zf) (se_len (K' := K) (st := true) (by rfl) (by exact T.z_len) (SE.seq (k := true) (zd 3)))))
   (zj (zO (os := []) (os' := []) (i := 6) sc'other.nd rfl (Or.inl rfl) (zD (K' := K) G'bent_rows (hr.mono (by decide)) (by rfl) T.m'bent_rows T.F'bent_rows.kp T.b'bent_rows (za (zd 2) (za (se_len (K' := K) (st := true) (by rfl) (by exact T.z_len) (SE.seq (k := true) (zd 3))) (za (zA op_fdiv rok_div (zd 1) zf) zg)))))
   (zj (ss_new (os := []) (os' := [7]) (i := 7) sc'other.nd rfl (Or.inl rfl) (sf_list (K' := K) (by rfl) (by exact T.z_list) (SE.seq (k := true) (zd 3))))
   (zj (ss_setIx (os := [7]) (i := 7) (zD (K' := K) G'bent (hr.mono (by decide)) (by rfl) T.m'bent T.F'bent.kp T.b'bent (za (se_ixL (K' := K) (st := true) (SE.seq (k := true) (zd 3)) (zd 5)) (za (zA op_fdiv rok_div (zd 1) zf) (za (zd 6) zg)))) (zd 5))
   (zr (zJ (zx (za (zd 2) (za (se_look 7) zg)))))))))))))))))⟩
 exact h
theorem ok'whole (T : Txt K mg Z)  : FnOk P w K mg base CX0 36 Z.f'whole Z.d'whole ["_law_thing"] (spM K m'whole) := by
 have h := fn_ok (P := P) (w := w) (mg := mg) (base := base) (k := 35) (m := b'whole) T.F'whole sc'whole fun cdv A outer s H E hr => ⟨_, [], by
  unfold b'whole
  exact (zr (zJ (se_and (se_isi (K' := K) (st := false) (by rfl) (by exact T.z_isinstance) (by rfl) (by exact T.z_int) PyProof.Rows.boot_int (by decide) (zd 0)) (se_one (se_not (se_isi (K' := K) (st := false) (by rfl) (by exact T.z_isinstance) (by rfl) (by exact T.z_bool) PyProof.Rows.boot_bool (by decide) (zd 0)))))))⟩
 exact h
theorem ok'is_line (T : Txt K mg Z) (G'whole : FnOk P w K mg base CX0 36 Z.f'whole Z.d'whole ["_law_thing"] (spM K m'whole)) : FnOk P w K mg base CX0 38 Z.f'is_line Z.d'is_line ["_law_thing", "_law_many"] (spM K m'is_line) := by
 have h := fn_ok (P := P) (w := w) (mg := mg) (base := base) (k := 37) (m := b'is_line) T.F'is_line sc'is_line fun cdv A outer s H E hr => ⟨_, [], by
  unfold b'is_line
  exact (zj (Zs (os' := []) (SW.sb (sw_or (sb_not (sb_val (se_isi (K' := K) (st := false) (by rfl) (by exact T.z_isinstance) (by rfl) (by exact T.z_tuple) PyProof.Rows.boot_tuple (by decide) (zd 0)))) (sw_or1 (zU op_ne rok_neS (se_len (K' := K) (st := false) (by rfl) (by exact T.z_len) (SE.seq (k := false) (zd 0))) (zA ZH Zh (zd 1) zf) (zS _)))))
   (zr (zJ se_bl))
   zP)
   (zr (zJ (se_allB (K' := K) (st := false) rfl (by rfl) (by exact T.z_all) (SF.seq (sf_comp (s := false) (own := ["_law_number"]) (N' := ["_law_thing", "_law_many", "_law_number"]) (k := 1) (compOk_of (by kernel_rfl)) rfl (si_tup (K' := K) (SC.sn (SE.seq (k := false) (zd 0)))) (fun _ _ _ _ => (sg_name (i := 2) nd_8 rfl (Or.inl rfl))) (fun _ _ _ _ => spf_nil) (fun _ _ _ _ => (se_and (zD (K' := K) G'whole (hr.mono (by decide)) (by rfl) T.m'whole T.F'whole.kp T.b'whole (za (zd 2) zg)) (se_one (SE.flat (se_cmp op_lt rok_lt (se_callB call_abs caok_abs (by rfl) (by exact T.z_abs) boot_abs' (za (zd 2) zg)) zf (zS _))))))))))))⟩
 exact h
theorem okR'row_size (T : Txt K mg Z) (G'whole : FnOk P w K mg base CX0 36 Z.f'whole Z.d'whole ["_law_thing"] (spM K m'whole)) (G'is_line : FnOk P w K mg base CX0 38 Z.f'is_line Z.d'is_line ["_law_thing", "_law_many"] (spM K m'is_line)) (n : Nat) : FnOk P w K mg base CX0 (40 + 2 * n) Z.f'row_size Z.d'row_size ["_law_row_here", "_law_many", "_law_body_here", "_law_sizes"] (spM K (zY n).1) ∧ FnOk P w K mg base CX0 (40 + 2 * n) Z.f'size Z.d'size ["_law_rows", "_law_many", "_law_body_here", "_law_sizes"] (spM K (zY n).2) := by
 induction n with
 | zero => exact ⟨FnOk.no, FnOk.no⟩
 | succ n ih =>
  obtain ⟨G'row_size, G'size⟩ := ih
  refine ⟨?_, ?_⟩
  ·have h := fn_ok (P := P) (w := w) (mg := mg) (base := base) (k := 40 + 2 * n + 1) (m := b'row_size ((zY n).1) ((zY n).2)) T.F'row_size sc'row_size fun cdv A outer s H E hr => ⟨_, [], by
   unfold b'row_size
   exact (zj (Zs (os' := []) (SW.sb (sw_or (sb_not (sb_val (se_isi (K' := K) (st := false) (by rfl) (by exact T.z_isinstance) (by rfl) (by exact T.z_tuple) PyProof.Rows.boot_tuple (by decide) (zd 0)))) (sw_or1 (zU op_lt rok_lt (se_len (K' := K) (st := false) (by rfl) (by exact T.z_len) (SE.seq (k := false) (zd 0))) zf (zS _)))))
   (zr (zJ se_non))
   zP)
   (zj (Zs (os' := []) (sb_inD (K' := K) false hr (zd 0) (SF.se (st := false) (zM (za (zx (za zB zg)) (za (zx (za zB zg)) zg)))))
   (zr (zJ (zx (za zf (za zf zg)))))
   zP)
   (zj (Zs (os' := []) (SW.sb (sw_and (zU op_eq Zq (zZ (K' := K) (st := false) (SE.seq (k := false) (zd 0)) zf) zB (zS _)) (sw_and (zU op_eq Zq (se_len (K' := K) (st := false) (by rfl) (by exact T.z_len) (SE.seq (k := false) (zd 0))) zf (zS _)) (sw_and (sb_val (zD (K' := K) G'whole (hr.mono (by omega)) (by rfl) T.m'whole T.F'whole.kp T.b'whole (za (zZ (K' := K) (st := false) (SE.seq (k := false) (zd 0)) zf) zg))) (sw_and1 (sb_inR1 false (by rfl) (by exact T.z_range) (zZ (K' := K) (st := false) (SE.seq (k := false) (zd 0)) zf) (zd 1)))))))
   (zr (zJ (zx (za zf (za zf zg)))))
   zP)
   (zj (Zs (os' := []) (SW.sb (sw_and (zU op_eq Zq (zZ (K' := K) (st := false) (SE.seq (k := false) (zd 0)) zf) zB (zS _)) (sw_and (zU op_eq Zq (se_len (K' := K) (st := false) (by rfl) (by exact T.z_len) (SE.seq (k := false) (zd 0))) zf (zS _)) (sw_and (sb_val (zD (K' := K) G'whole (hr.mono (by omega)) (by rfl) T.m'whole T.F'whole.kp T.b'whole (za (zZ (K' := K) (st := false) (SE.seq (k := false) (zd 0)) zf) zg))) (sw_and1 (sb_inR1 false (by rfl) (by exact T.z_range) (zZ (K' := K) (st := false) (SE.seq (k := false) (zd 0)) zf) (zd 1)))))))
   (zr (zJ (se_ixL (K' := K) (st := false) (SF.seq (zM (za se_non (za (zx (za zf (za zf zg))) zg)))) (se_callTy call_int1 caok_int (by rfl) (by exact T.z_int) PyProof.Rows.boot_int (za (zD (K' := K) G'is_line (hr.mono (by omega)) (by rfl) T.m'is_line T.F'is_line.kp T.b'is_line (za (zZ (K' := K) (st := true) (SE.seq (k := false) (zd 0)) zf) (za (zd 1) zg))) zg)))))
   zP)
   (zj (Zs (os' := []) (SW.sb (sw_and (zU op_eq Zq (zZ (K' := K) (st := false) (SE.seq (k := false) (zd 0)) zf) zB (zS _)) (sw_and (zU op_eq Zq (se_len (K' := K) (st := false) (by rfl) (by exact T.z_len) (SE.seq (k := false) (zd 0))) zf (zS _)) (sw_and (sb_val (zD (K' := K) G'whole (hr.mono (by omega)) (by rfl) T.m'whole T.F'whole.kp T.b'whole (za (zZ (K' := K) (st := false) (SE.seq (k := false) (zd 0)) zf) zg))) (sw_and1 (zU op_gt rok_gt (zZ (K' := K) (st := false) (SE.seq (k := false) (zd 0)) zf) (zd 2) (zS _)))))))
   (zj (zO (os := []) (os' := []) (i := 4) sc'row_size.nd rfl (Or.inl rfl) (se_get2 (K' := K) (st := true) (zd 3) (zZ (K' := K) (st := true) (SE.seq (k := false) (zd 0)) zf) (zx (za zf (za zf zg)))))
   (zr (zJ (zx (za (se_callB (call_max2 rfl) caok_max2 (by rfl) (by exact T.z_max) PyProof.Rows.boot_max (za zf (za (zZ (K' := K) (st := false) (SE.seq (k := false) (zd 4)) zf) zg))) (za (zZ (K' := K) (st := false) (SE.seq (k := false) (zd 4)) zf) zg))))))
   zP)
   (zj (Zs (os' := []) (sb_inD (K' := K) true hr (zx (za (zZ (K' := K) (st := false) (SE.seq (k := false) (zd 0)) zf) (za (se_len (K' := K) (st := false) (by rfl) (by exact T.z_len) (SE.seq (k := false) (zd 0))) zg))) (SF.se (st := false) (zM (za (zx (za zB (za zf zg))) (za (zx (za zB (za zf zg))) zg)))))
   (zr (zJ se_non))
   zP)
   (zj (zO (os := []) (os' := []) (i := 5) sc'row_size.nd rfl (Or.inl rfl) zf)
   (zj (zO (os := []) (os' := []) (i := 6) sc'row_size.nd rfl (Or.inl rfl) zf)
   (zj (ss_for (os := []) rfl (si_tup (K' := K) (SE.sn (k := false) (se_cutT (K' := K) (st := true) (SE.seq (k := false) (zd 0)) (so_some zf) so_none))) (sg_name (i := 7) sc'row_size.nd rfl (Or.inl rfl))
   (zj (zO (os := []) (os' := []) (i := 8) sc'row_size.nd rfl (Or.inl rfl) (zD (K' := K) G'size (hr.mono (by omega)) (by rfl) T.m'size T.F'size.kp T.b'size (za (zd 7) (za (zd 1) (za (zd 2) (za (zd 3) zg))))))
   (zj (Zs (os' := []) (zU op_isN rok_isN (zd 8) se_non (zS _))
   (zr (zJ se_non))
   zP)
   (zj (zO (os := []) (os' := []) (i := 5) sc'row_size.nd rfl (Or.inl rfl) (se_callB (call_max2 rfl) caok_max2 (by rfl) (by exact T.z_max) PyProof.Rows.boot_max (za (zd 5) (za (zA ZH Zh zf (zZ (K' := K) (st := true) (SE.seq (k := false) (zd 8)) zf)) zg))))
   (zr (zO (os := []) (os' := []) (i := 6) sc'row_size.nd rfl (Or.inl rfl) (zA ZH Zh (zd 6) (zZ (K' := K) (st := true) (SE.seq (k := false) (zd 8)) zf))))))))
   (zr (zJ (zx (za (zd 5) (za (zd 6) zg))))))))))))))⟩
   exact h
  ·have h := fn_ok (P := P) (w := w) (mg := mg) (base := base) (k := 40 + 2 * n + 1) (m := b'size ((zY n).1) ((zY n).2)) T.F'size sc'size fun cdv A outer s H E hr => ⟨_, [], by
   unfold b'size
   exact (zj (Zs (os' := []) (sb_not (sb_val (se_isi (K' := K) (st := false) (by rfl) (by exact T.z_isinstance) (by rfl) (by exact T.z_list) PyProof.Rows.boot_list (by decide) (zd 0))))
   (zr (zJ se_non))
   zP)
   (zj (zO (os := []) (os' := []) (i := 4) sc'size.nd rfl (Or.inl rfl) zf)
   (zj (zO (os := []) (os' := []) (i := 5) sc'size.nd rfl (Or.inl rfl) zf)
   (zj (ss_for (os := []) rfl (si_list (K' := K) (SE.sn (k := true) (zd 0))) (sg_name (i := 6) sc'size.nd rfl (Or.inl rfl))
   (zj (zO (os := []) (os' := []) (i := 7) sc'size.nd rfl (Or.inl rfl) (zD (K' := K) G'row_size (hr.mono (by omega)) (by rfl) T.m'row_size T.F'row_size.kp T.b'row_size (za (zd 6) (za (zd 1) (za (zd 2) (za (zd 3) zg))))))
   (zj (Zs (os' := []) (zU op_isN rok_isN (zd 7) se_non (zS _))
   (zr (zJ se_non))
   zP)
   (zj (zO (os := []) (os' := []) (i := 4) sc'size.nd rfl (Or.inl rfl) (se_callB (call_max2 rfl) caok_max2 (by rfl) (by exact T.z_max) PyProof.Rows.boot_max (za (zd 4) (za (zZ (K' := K) (st := true) (SE.seq (k := false) (zd 7)) zf) zg))))
   (zr (zO (os := []) (os' := []) (i := 5) sc'size.nd rfl (Or.inl rfl) (zA ZH Zh (zd 5) (zZ (K' := K) (st := true) (SE.seq (k := false) (zd 7)) zf))))))))
   (zr (zJ (zx (za (zd 4) (za (zd 5) zg)))))))))⟩
   exact h
theorem ok'row_size (T : Txt K mg Z) (G'whole : FnOk P w K mg base CX0 36 Z.f'whole Z.d'whole ["_law_thing"] (spM K m'whole)) (G'is_line : FnOk P w K mg base CX0 38 Z.f'is_line Z.d'is_line ["_law_thing", "_law_many"] (spM K m'is_line)) : FnOk P w K mg base CX0 88 Z.f'row_size Z.d'row_size ["_law_row_here", "_law_many", "_law_body_here", "_law_sizes"] (spM K m'row_size) := (okR'row_size (P := P) (w := w) (base := base) T G'whole G'is_line 24).1
theorem ok'size (T : Txt K mg Z) (G'whole : FnOk P w K mg base CX0 36 Z.f'whole Z.d'whole ["_law_thing"] (spM K m'whole)) (G'is_line : FnOk P w K mg base CX0 38 Z.f'is_line Z.d'is_line ["_law_thing", "_law_many"] (spM K m'is_line)) : FnOk P w K mg base CX0 88 Z.f'size Z.d'size ["_law_rows", "_law_many", "_law_body_here", "_law_sizes"] (spM K m'size) := (okR'row_size (P := P) (w := w) (base := base) T G'whole G'is_line 24).2
theorem ok'due (T : Txt K mg Z) (G'whole : FnOk P w K mg base CX0 36 Z.f'whole Z.d'whole ["_law_thing"] (spM K m'whole)) (G'size : FnOk P w K mg base CX0 88 Z.f'size Z.d'size ["_law_rows", "_law_many", "_law_body_here", "_law_sizes"] (spM K m'size)) : FnOk P w K mg base CX0 90 Z.f'due Z.d'due ["_law_thing"] (spM K m'due) := by
 have h := fn_ok (P := P) (w := w) (mg := mg) (base := base) (k := 89) (m := b'due) T.F'due sc'due fun cdv A outer s H E hr => ⟨_, [1], by
  unfold b'due
  exact (zj (Zs (os' := []) (SW.sb (sw_or (sb_not (sb_val (se_isi (K' := K) (st := false) (by rfl) (by exact T.z_isinstance) (by rfl) (by exact T.z_tuple) PyProof.Rows.boot_tuple (by decide) (zd 0)))) (sw_or (zU op_ne rok_neS (se_len (K' := K) (st := false) (by rfl) (by exact T.z_len) (SE.seq (k := false) (zd 0))) zf (zS _)) (sw_or (sb_not (sb_val (zD (K' := K) G'whole (hr.mono (by decide)) (by rfl) T.m'whole T.F'whole.kp T.b'whole (za (zZ (K' := K) (st := false) (SE.seq (k := false) (zd 0)) zf) zg)))) (sw_or1 (sb_inR1 true (by rfl) (by exact T.z_range) (zZ (K' := K) (st := false) (SE.seq (k := false) (zd 0)) zf) zf))))))
   (zr (zJ se_bl))
   zP)
   (zj (Zs (os' := []) (SW.sb (sw_or (sb_not (sb_val (se_isi (K' := K) (st := false) (by rfl) (by exact T.z_isinstance) (by rfl) (by exact T.z_list) PyProof.Rows.boot_list (by decide) (zZ (K' := K) (st := false) (SE.seq (k := false) (zd 0)) zf)))) (sw_or1 (sb_inR2 true (by rfl) (by exact T.z_range) (se_len (K' := K) (st := false) (by rfl) (by exact T.z_len) (SE.seq (k := true) (zZ (K' := K) (st := true) (SE.seq (k := false) (zd 0)) zf))) zf zf))))
   (zr (zJ se_bl))
   zP)
   (zj (ss_new (os := []) (os' := [1]) (i := 1) sc'due.nd rfl (Or.inl rfl) sf_dnew)
   (zj (ss_for (os := [1]) rfl (si_revRange (by rfl) (by exact T.z_reversed) (by rfl) (by exact T.z_range) (se_len (K' := K) (st := false) (by rfl) (by exact T.z_len) (SE.seq (k := true) (zZ (K' := K) (st := true) (SE.seq (k := false) (zd 0)) zf)))) (sg_name (i := 2) sc'due.nd rfl (Or.inl rfl))
   (zj (zO (os := [1]) (os' := [1]) (i := 3) sc'due.nd rfl (Or.inl rfl) (SE.flat (zD (K' := K) G'size (hr.mono (by decide)) (by rfl) T.m'size T.F'size.kp T.b'size (za (se_ixL (K' := K) (st := false) (SE.seq (k := true) (zZ (K' := K) (st := true) (SE.seq (k := false) (zd 0)) zf)) (zd 2)) (za (zZ (K' := K) (st := false) (SE.seq (k := false) (zd 0)) zf) (za (zd 2) (za (se_look 1) zg)))))))
   (zj (Zs (os' := [1]) (SW.sb (sw_or (zU op_isN rok_isN (zd 3) se_non (zS _)) (sw_or (zU op_gt rok_gt (zZ (K' := K) (st := false) (SE.seq (k := false) (zd 3)) zf) zf (zS _)) (sw_or1 (zU op_gt rok_gt (zZ (K' := K) (st := false) (SE.seq (k := false) (zd 3)) zf) zf (zS _))))))
   (zr (zJ se_bl))
   zP)
   (zr (ss_dput (os := [1]) 1 hr (zd 2) (zd 3))))))
   (zr (zJ se_bl))))))⟩
 exact h
theorem ok'told (T : Txt K mg Z) (G_is_program : FnOk P w K mg base CX0 90 Z.f_is_program Z.d_is_program ["thing"] (spM K m_is_program)) (G'due : FnOk P w K mg base CX0 90 Z.f'due Z.d'due ["_law_thing"] (spM K m'due)) : FnOk P w K mg base CX0 92 Z.f'told Z.d'told ["_law_thing"] (spM K m'told) := by
 have h := fn_ok (P := P) (w := w) (mg := mg) (base := base) (k := 91) (m := b'told) T.F'told sc'told fun cdv A outer s H E hr => ⟨_, [], by
  unfold b'told
  exact (zj (zO (os := []) (os' := []) (i := 1) sc'told.nd rfl (Or.inl rfl) (SE.flat (se_repr (K' := K) (st := false) hr (by rfl) (by exact T.z_repr) (za (zd 0) zg))))
   (zj (zO (os := []) (os' := []) (i := 2) sc'told.nd rfl (Or.inl rfl) (zD (K' := K) G_is_program (hr.mono (by decide)) (by rfl) T.m_is_program T.F_is_program.kp T.b_is_program (za (zd 0) zg)))
   (zr (zJ (se_and (se_isi (K' := K) (st := false) (by rfl) (by exact T.z_isinstance) (by rfl) (by exact T.z_bool) PyProof.Rows.boot_bool (by decide) (zd 2)) (se_and (se_cmp op_eq Zq (zd 2) (zD (K' := K) G'due (hr.mono (by decide)) (by rfl) T.m'due T.F'due.kp T.b'due (za (zd 0) zg)) (zS _)) (se_one (se_cmp op_eq Zq (se_repr (K' := K) (st := false) hr (by rfl) (by exact T.z_repr) (za (zd 0) zg)) (zd 1) (zS _)))))))))⟩
 exact h
theorem ok_law (T : Txt K mg Z) (G'program : FnOk P w K mg base CX0 42 Z.f'program Z.d'program ["_law_script"] (spM K m'program)) (G'told : FnOk P w K mg base CX0 92 Z.f'told Z.d'told ["_law_thing"] (spM K m'told)) (G'cell : FnOk P w K mg base CX0 36 Z.f'cell Z.d'cell ["_law_script", "_law_k"] (spM K m'cell)) (G'other : FnOk P w K mg base CX0 86 Z.f'other Z.d'other ["_law_program_here", "_law_cell_here"] (spM K m'other)) : FnOk P w K mg base CX0 94 Z.f_law Z.d_law ["_law_script"] (spM K m_law) := by
 have h := fn_ok (P := P) (w := w) (mg := mg) (base := base) (k := 93) (m := b_law) T.F_law sc_law fun cdv A outer s H E hr => ⟨_, [], by
  unfold b_law
  exact (zj (zO (os := []) (os' := []) (i := 1) sc_law.nd rfl (Or.inl rfl) (zD (K' := K) G'program (hr.mono (by decide)) (by rfl) T.m'program T.F'program.kp T.b'program (za (zd 0) zg)))
   (zj (Zs (os' := []) (sb_not (sb_val (zD (K' := K) G'told (hr.mono (by decide)) (by rfl) T.m'told T.F'told.kp T.b'told (za (zd 1) zg))))
   (zr (zJ se_bl))
   zP)
   (zj (ss_for (os := []) rfl (si_list (K' := K) (SE.sn (k := true) (SF.se (st := true) (sf_cat (SF.sl (sf_cutL (K' := K) (SE.seq (k := true) (zd 0)) (so_some zf) (so_some zf))) (SF.sl (zM (za (zD (K' := K) G'cell (hr.mono (by decide)) (by rfl) T.m'cell T.F'cell.kp T.b'cell (za (zd 0) (za zf zg))) zg))))))) (sg_name (i := 2) sc_law.nd rfl (Or.inl rfl))
   (zr (Zs (os' := []) (SW.sb (sw_or (sb_not (sb_val (zD (K' := K) G'told (hr.mono (by decide)) (by rfl) T.m'told T.F'told.kp T.b'told (za (zD (K' := K) G'other (hr.mono (by decide)) (by rfl) T.m'other T.F'other.kp T.b'other (za (zd 1) (za (zd 2) zg))) zg)))) (sw_or1 (sb_not (sb_val (zD (K' := K) G'told (hr.mono (by decide)) (by rfl) T.m'told T.F'told.kp T.b'told (za (zd 1) zg)))))))
   (zr (zJ se_bl))
   zP)))
   (zr (zJ se_bl)))))⟩
 exact h
end
end EV
namespace RW
open PySem L2 M
inductive Rw where
 | skip | halt | call (k : Nat) | loop (rs : List Rw) | either (a b : List Rw)
mutual
def Rw.ok (f l : Nat) : Rw → Prop
 | .call k => f ≤ k ∧ k ≤ l
 | .loop rs => oks f l rs ∧ rs.length ≤ 100
 | .either a b => (oks f l a ∧ a.length ≤ 100) ∧ oks f l b ∧ b.length ≤ 100
 | _ => True
def oks (f l : Nat) : List Rw → Prop
 | [] => True
 | r :: rs => r.ok f l ∧ oks f l rs
end
def mx (ns : List Int) : Int := ns.foldr max 0
theorem foldMx : ∀ (ns : List Int) (a : Int), 0 ≤ a → (∀ x ∈ ns, 0 ≤ x) → ns.foldl (fun a b => if a < b then b else a) a = max a (mx ns)
 | [], a, h, _ => by simp [mx]; omega
 | x :: ns, a, h, hx => by
  have h1 := hx x List.mem_cons_self
  rw [List.foldl_cons, foldMx ns _ (by split <;> omega) fun y hy => hx y (List.mem_cons_of_mem _ hy)]
  simp only [mx, List.foldr_cons]
  split <;> omega
theorem maxD_mx {ns : List Int} (h : ∀ x ∈ ns, 0 ≤ x) : gMaxD 0 (ns.map .int) = some (.int (mx ns)) := by
 unfold gMaxD
 rw [intsD_map, Option.map_some]
 by_cases hn : ns = []
 ·rw [if_pos hn, hn]; rfl
 ·rw [if_neg hn]
  cases ns with
  | nil => exact absurd rfl hn
  | cons x ns =>
   have h1 := h x List.mem_cons_self
   unfold maxI
   rw [foldMx _ _ (by simpa using h1) h]
   simp only [List.headD_cons, mx, List.foldr_cons]
   congr 2
   omega
theorem max2_ {a b : Int} : gMax2 [.int a, .int b] = some (.int (max a b)) := by
 show some (D.int (if b > a then b else a)) = _
 congr 2
 split <;> omega
theorem mulT {a b : Int} (h1 : -(2 ^ 64) < b) (h2 : b < 2 ^ 64) : IntMulOk a b := by
 have := mulS (a := b) (b := a) h1 h2
 unfold IntMulOk at *
 rw [Bool.and_comm (decide (Builtin.Int.intBits a > shortFactorBits)), Int.add_comm]
 exact this
theorem look_rep_same (k : Key) (d : D) : ∀ {ks : List Key} {ds : List D}, ks.length = ds.length → hasK ks k = true → lookD ks (repD k d ks ds) k = some d
 | [], ds, h, e => by simp [hasK] at e
 | k' :: ks, [], h, e => by simp at h
 | k' :: ks, x :: ds, h, e => by
  simp only [repD, lookD]
  by_cases hk : k' = k
  ·rw [if_pos hk, if_pos hk]
  ·rw [if_neg hk]
   refine look_rep_same k d (by simpa using h) ?_
   unfold hasK at e ⊢
   rw [List.any_cons, decide_eq_false hk, Bool.false_or] at e
   exact e
theorem look_rep_ne {k k' : Key} (d : D) (hne : k' ≠ k) : ∀ {ks : List Key} {ds : List D}, lookD ks (repD k d ks ds) k' = lookD ks ds k'
 | [], ds => by simp [lookD]
 | q :: ks, [] => by simp [lookD, repD]
 | q :: ks, x :: ds => by
  simp only [repD, lookD]
  by_cases hq : q = k'
  ·rw [if_pos hq, if_pos hq, if_neg (fun z => hne (hq.symm.trans z))]
  ·rw [if_neg hq, if_neg hq]
   exact look_rep_ne d hne
theorem look_app {k' : Key} : ∀ {ks : List Key} {ds : List D} {ks2 : List Key} {ds2 : List D}, ks.length = ds.length → lookD (ks ++ ks2) (ds ++ ds2) k' = (lookD ks ds k').or (lookD ks2 ds2 k')
 | [], [], ks2, ds2, h => by simp [lookD]
 | [], x :: ds, ks2, ds2, h => by simp at h
 | q :: ks, [], ks2, ds2, h => by simp at h
 | q :: ks, x :: ds, ks2, ds2, h => by
  simp only [List.cons_append, lookD]
  by_cases hq : q = k'
  ·rw [if_pos hq, if_pos hq]; rfl
  ·rw [if_neg hq, if_neg hq]; exact look_app (by simpa using h)
theorem look_none {k : Key} : ∀ {ks : List Key} {ds : List D}, hasK ks k = false → lookD ks ds k = none
 | [], ds, h => by simp [lookD]
 | q :: ks, [], h => by simp [lookD]
 | q :: ks, x :: ds, h => by
  unfold hasK at h
  rw [List.any_cons, Bool.or_eq_false_iff] at h
  simp only [lookD]
  rw [if_neg (by simpa using h.1)]
  exact look_none h.2
theorem rep_len (k : Key) (d : D) : ∀ {ks : List Key} {ds : List D}, ks.length = ds.length → ks.length = (repD k d ks ds).length
 | [], ds, h => by simpa [repD] using h
 | q :: ks, [], h => by simp at h
 | q :: ks, x :: ds, h => by simp only [repD, List.length_cons] at *; rw [rep_len k d (ds := ds) (by omega)]
structure Dc (d : D) (m : Nat) (g : Nat → Option Int) : Prop where
 ex : ∃ ks ds, d = .dict ks ds ∧ ks.length = ds.length ∧ ks.length ≤ m ∧ ∀ j : Nat, lookD ks ds (.inl (j : Int)) = (g j).map D.int
theorem Dc.nil : Dc (.dict [] []) 0 (fun _ => none) := ⟨[], [], rfl, rfl, Nat.le_refl _, fun j => by simp [lookD]⟩
end RW
namespace EV
open PySem L2 M RW
theorem if_t {c : Ev → Option Bool} {m1 m2 : Ev → Option Out} {ρ : Ev} {T : Out → Prop} (e : c ρ = some true) (k : Wo (m1 ρ) T) : Wo (mIf c m1 m2 ρ) T := by rw [mIf_, e]; exact k
theorem if_b {c : Ev → Option Bool} {m1 m2 : Ev → Option Out} {ρ : Ev} {T : Out → Prop} {b : Bool} (e : c ρ = some b) (k1 : b = true → Wo (m1 ρ) T) (k2 : b = false → Wo (m2 ρ) T) : Wo (mIf c m1 m2 ρ) T := by
 rw [mIf_, e]
 cases b with
 | true => exact k1 rfl
 | false => exact k2 rfl
theorem or_t1 {c1 c2 : Ev → Option Bool} {ρ : Ev} (e : c1 ρ = some true) : fOr c1 c2 ρ = some true := by rw [fOr_, e]; rfl
theorem or_t2 {c1 c2 : Ev → Option Bool} {ρ : Ev} (e1 : c1 ρ = some false) (e : c2 ρ = some true) : fOr c1 c2 ρ = some true := by rw [fOr_, e1]; exact e
theorem orv {c1 c2 : Ev → Option Bool} {ρ : Ev} {a b : Bool} (e1 : c1 ρ = some a) (e : a = false → c2 ρ = some b) : fOr c1 c2 ρ = some (a || b) := by
 rw [fOr_, e1]
 cases a with
 | true => rfl
 | false => exact e rfl
theorem andc {c1 c2 : Ev → Option Bool} {ρ : Ev} {a b : Bool} (e1 : c1 ρ = some a) (e : a = true → c2 ρ = some b) : fAnd c1 c2 ρ = some (a && b) := by
 rw [fAnd_, e1]
 cases a with
 | true => exact e rfl
 | false => rfl
theorem notv {c : Ev → Option Bool} {ρ : Ev} {b : Bool} (e : c ρ = some b) : fNot c ρ = some (!b) := by rw [fNot_, e]; rfl
theorem notV_ {f : Ev → Option D} {ρ : Ev} {b : Bool} (e : f ρ = some (.bl b)) : fNotV f ρ = some (.bl (!b)) := by rw [fNotV_, e]; rfl
theorem andV_ {fa fb : Ev → Option D} {ρ : Ev} {b c : Bool} (e1 : fa ρ = some (.bl b)) (e2 : b = true → fb ρ = some (.bl c)) : fAndV fa fb ρ = some (.bl (b && c)) := by
 rw [fAndV_, e1]
 cases b with
 | true => exact e2 rfl
 | false => rfl
theorem chainv {g g' : D → D → Option D} {fa fb fc : Ev → Option D} {ρ : Ev} {x y z : D} {b c : Bool} (h1 : fa ρ = some x) (h2 : fb ρ = some y) (h3 : g x y = some (.bl b)) (h4 : fc ρ = some z) (h5 : g' y z = some (.bl c)) : fChain g g' fa fb fc ρ = some (.bl (b && c)) := by
 unfold fChain
 rw [h1, oB, h2, oB, h3, oB]
 show Option.bind (some b) _ = _
 rw [oB]
 cases b with
 | true => rw [if_pos rfl, h4, oB, h5]; rfl
 | false => rfl
theorem le_ {a b : Int} : dLe (.int a) (.int b) = some (.bl (decide (a ≤ b))) := rfl
theorem lt_ {a b : Int} : dLt (.int a) (.int b) = some (.bl (decide (a < b))) := rfl
theorem gt_ {a b : Int} : dGt (.int a) (.int b) = some (.bl (decide (b < a))) := rfl
theorem sub_ {a b : Int} : dSub (.int a) (.int b) = some (.int (a - b)) := rfl
theorem add_ {a b : Int} : dAdd (.int a) (.int b) = some (.int (a + b)) := rfl
def names : List Str := ["set", "take", "skip", "halt", "either", "loop", "call", "jump", "Skip", "boxes 0", "0", "1", "2", "3", "4", "5", "6"]
def Sc : D → Bool
 | .non => true
 | .bl _ => true
 | .int i => decide (i.natAbs ≤ 10 ^ 50)
 | .str x => names.contains x
 | _ => false
def Pl : D → Bool
 | .tup _ => true
 | .lst _ => true
 | d => Sc d
def Hd : D → Bool
 | .tup (k :: _) => Sc k
 | _ => true
def zw : Nat → D → Prop
 | 0, d => Sc d = true
 | n + 1, d => Sc d = true ∨ (∃ ds, d = .tup ds ∧ ds.length ≤ 100 ∧ ∀ r ∈ ds, zw n r) ∨ (∃ ds, d = .lst ds ∧ ds.length ≤ 100 ∧ ∀ r ∈ ds, zw n r ∧ Hd r = true)
theorem zw.sc {d : D} (h : Sc d = true) : ∀ n, zw n d
 | 0 => h
 | n + 1 => .inl h
theorem zw.up : ∀ {n : Nat} {d : D}, zw n d → zw (n + 1) d
 | 0, d, h => .inl h
 | n + 1, d, h => by
  rcases h with h | ⟨ds, rfl, hl, h⟩ | ⟨ds, rfl, hl, h⟩
  ·exact .inl h
  ·exact .inr (.inl ⟨ds, rfl, hl, fun r hr => (h r hr).up⟩)
  ·exact .inr (.inr ⟨ds, rfl, hl, fun r hr => ⟨(h r hr).1.up, (h r hr).2⟩⟩)
theorem zw.mono {n m : Nat} {d : D} (h : zw n d) (hm : n ≤ m) : zw m d := by
  induction m with
  | zero => have : n = 0 := by omega
            subst this; exact h
  | succ m ih =>
    by_cases e : n = m + 1
    · subst e; exact h
    · exact (ih (by omega)).up
theorem sc_pl {d : D} (h : Sc d = true) : Pl d = true := by cases d <;> first | rfl | exact h
theorem zw.pl : ∀ {n : Nat} {d : D}, zw n d → Pl d = true
 | 0, d, h => sc_pl h
 | n + 1, d, h => by
  rcases h with h | ⟨ds, rfl, hl, h⟩ | ⟨ds, rfl, hl, h⟩
  ·exact sc_pl h
  ·rfl
  ·rfl
theorem zw.tup {n : Nat} {ds : List D} (h : zw n (.tup ds)) : ds.length ≤ 100 ∧ ∀ r ∈ ds, zw (n - 1) r := by
 cases n with
 | zero => cases h
 | succ n =>
  rcases h with h | ⟨ds', e, hl, h⟩ | ⟨ds', e, hl, h⟩
  ·cases h
  ·cases e; exact ⟨hl, h⟩
  ·cases e
theorem zw.lst {n : Nat} {ds : List D} (h : zw n (.lst ds)) : ds.length ≤ 100 ∧ ∀ r ∈ ds, zw (n - 1) r ∧ Hd r = true := by
 cases n with
 | zero => cases h
 | succ n =>
  rcases h with h | ⟨ds', e, hl, h⟩ | ⟨ds', e, hl, h⟩
  ·cases h
  ·cases e
  ·cases e; exact ⟨hl, h⟩
theorem zw.pos {n : Nat} {ds : List D} (h : zw n (.tup ds)) : 0 < n := by
 cases n with
 | zero => cases h
 | succ n => omega
theorem zw.posL {n : Nat} {ds : List D} (h : zw n (.lst ds)) : 0 < n := by
 cases n with
 | zero => cases h
 | succ n => omega
def isT : D → Bool
 | .tup _ => true
 | _ => false
def isL : D → Bool
 | .lst _ => true
 | _ => false
def isI : D → Bool
 | .int _ => true
 | _ => false
theorem isi_l {d : D} (h : Pl d = true) : gIsi "list" d = some (.bl (isL d)) := by cases d <;> first | rfl | cases h
def kS (x : Str) : D → Bool
 | .str y => decide (y = x)
 | _ => false
theorem eqk {x : Str} {k : D} (h : Sc k = true) : dEqS k (.str x) = some (.bl (kS x k)) := by cases k <;> first | rfl | cases h
def hasN (k : Int) : D → Bool
 | .tup ds => decide (((ds.length : Nat) : Int) = k)
 | _ => false
theorem has_v {d : D} (h : Pl d = true) (k : Int) : m_has_parts [d, .int k] = some (.bl (hasN k d)) := by
 refine Wo.eq ?_
 unfold m_has_parts b_has_parts
 rw [ZF]
 refine ⟨rfl, ?_⟩
 simp only [Zc, zMap, zLen, List.replicate, zApp, Nat.zero_add, Nat.reduceAdd, Nat.reduceSub]
 cases d with
 | tup ds => exact ret_ (andV_ (b := true) (c := decide (((ds.length : Nat) : Int) = k)) (f1v rfl rfl) fun _ => f2v (x := .int (ds.length : Nat)) rfl rfl rfl) rfl
 | _ => first | cases h; done | exact ret_ (andV_ (b := false) (c := false) (f1v rfl rfl) fun z => by cases z) rfl
def num (lo hi : Int) : D → Bool
 | .int x => decide (lo ≤ x) && decide (x ≤ hi)
 | _ => false
theorem num_v {d : D} (h : Pl d = true) (lo hi : Int) : m_is_number [d, .int lo, .int hi] = some (.bl (num lo hi d)) := by
 refine Wo.eq ?_
 unfold m_is_number b_is_number
 rw [ZF]
 refine ⟨rfl, ?_⟩
 simp only [Zc, zMap, zLen, List.replicate, zApp, Nat.zero_add, Nat.reduceAdd, Nat.reduceSub]
 cases d with
 | int x => exact ret_ (andV_ (b := true) (f1v rfl rfl) fun _ => andV_ (b := true) (c := decide (lo ≤ x) && decide (x ≤ hi)) (notV_ (b := false) (f1v rfl rfl)) fun _ => chainv rfl rfl le_ rfl le_) rfl
 | bl x => exact ret_ (andV_ (b := true) (f1v rfl rfl) fun _ => andV_ (b := false) (c := false) (notV_ (b := true) (f1v rfl rfl)) fun z => by cases z) rfl
 | _ => first | cases h; done | exact ret_ (andV_ (b := false) (c := false) (f1v rfl rfl) fun z => by cases z) rfl
theorem allB_v (p : D → Bool) (ds : List D) : gAllB (ds.map fun d => D.bl (p d)) = some (.bl (ds.all p)) := by
 have e : (ds.map fun d => D.bl (p d)) = (ds.map p).map D.bl := by rw [List.map_map]; rfl
 unfold gAllB
 rw [e, boolsD_map]
 simp [Function.comp_def]
theorem comp_v {k : Nat} {fl : Ev → Option (List D)} {u : D → Ev → Option Ev} {e : Ev → Option D} {ρ : Ev} {ds : List D} (w : D → D) (I : Ev → Prop) (hfl : fl ρ = some ds) (hm : ds.length ≤ 1000) (h0 : I (ρ ++ List.replicate k none))
  (hs : ∀ d ρ, d ∈ ds → I ρ → ∃ ρ1, u d ρ = some ρ1 ∧ fYes ρ1 = some true ∧ e ρ1 = some (w d) ∧ I ρ1) : fComp k fl u fYes e ρ = some (.lst (ds.map w)) := by
 rw [fComp_, hfl, oB, compD_map I w ds _ h0 hs, oB]
 exact dLst_ (size_of (by rw [List.length_map]; omega))
theorem allC_v {k : Nat} {fl : Ev → Option (List D)} {u : D → Ev → Option Ev} {e : Ev → Option D} {ρ : Ev} {ds : List D} (p : D → Bool) (I : Ev → Prop) (hfl : fl ρ = some ds) (hm : ds.length ≤ 1000) (h0 : I (ρ ++ List.replicate k none))
  (hs : ∀ d ρ, d ∈ ds → I ρ → ∃ ρ1, u d ρ = some ρ1 ∧ fYes ρ1 = some true ∧ e ρ1 = some (.bl (p d)) ∧ I ρ1) : fA gAllB (zu true (fComp k fl u fYes e)) ρ = some (.bl (ds.all p)) := by
 rw [fA_, seqL (comp_v (fun d => .bl (p d)) I hfl hm h0 hs), oB]
 exact allB_v p ds
def isLine (many : Int) : D → Bool
 | .tup ds => decide (((ds.length : Nat) : Int) = many + 1) && ds.all (num (-999999) 999999)
 | _ => false
theorem line_v {n : Nat} {d : D} (h : zw n d) (many : Int) : m_is_set_line [d, .int many] = some (.bl (isLine many d)) := by
 have hp := h.pl
 refine Wo.eq ?_
 unfold m_is_set_line b_is_set_line
 rw [ZF]
 refine ⟨rfl, ?_⟩
 simp only [Zc, zMap, zLen, List.replicate, zApp, Nat.zero_add, Nat.reduceAdd, Nat.reduceSub]
 rw [zn]
 refine if_b (notv (zF (fA2 rfl (f2v rfl rfl add_) (has_v hp (many + 1))))) (fun e => ?_) (fun e => ?_)
 ·refine Zj rfl ?_
  show D.bl false = _
  cases d with
  | tup ds => rw [hasN] at e; rw [isLine]; simp only [Bool.not_eq_true'] at e; rw [e]; rfl
  | _ => rfl
 ·rw [Zd, zC, zk]
  cases d with
  | tup ds =>
   obtain ⟨hl, hf⟩ := h.tup
   rw [hasN] at e
   simp only [Bool.not_eq_false'] at e
   refine ret_ (allC_v (num (-999999) 999999) (fun ρ => ∃ z : Option D, ρ = [some (.tup ds), some (.int many), z]) (seqT rfl) (by omega) ⟨none, rfl⟩ ?_) ?_
   ·rintro d ρ hd ⟨z, rfl⟩
    exact ⟨_, rfl, rfl, fA3 rfl rfl rfl (num_v (hf d hd).pl _ _), _, rfl⟩
   ·rw [isLine, e]; rfl
  | _ => cases e
def rowsB (p : D → Bool) : D → Bool
 | .lst ds => ds.all p
 | _ => false
def one (p : D → Bool) : List D → Bool
 | [a] => p a
 | _ => false
def two (p q : D → Bool) : List D → Bool
 | [a, b] => p a && q b
 | _ => false
def rowB (many lo hi : Int) (P : D → Bool) : D → Bool
 | .tup (.str x :: ps) =>
  if x = "set" then two (num 0 (many - 1)) (isLine many) ps
  else if x = "take" then one (num 0 (many - 1)) ps
  else if x = "skip" ∨ x = "halt" then ps.isEmpty
  else if x = "either" then two P P ps
  else if x = "loop" then one P ps
  else if x = "call" then one (num lo hi) ps
  else false
 | _ => false
def SR (many lo hi : Int) : Nat → (D → Bool) × (D → Bool)
 | 0 => (fun _ => false, fun _ => false)
 | n + 1 => (rowsB (SR many lo hi n).2, rowB many lo hi (SR many lo hi n).1)
theorem rows_step {r1 r2 : List D → Option D} {p : D → Bool} {many lo hi : Int} {d : D} (hp : Pl d = true) (h : ∀ ds, d = .lst ds → ds.length ≤ 100 ∧ ∀ r ∈ ds, r2 [r, .int many, .int lo, .int hi] = some (.bl (p r))) : ZD 4 4 (b_are_rows r1 r2) [d, .int many, .int lo, .int hi] = some (.bl (rowsB p d)) := by
 refine Wo.eq ?_
 unfold b_are_rows
 rw [ZF]
 refine ⟨rfl, ?_⟩
 simp only [Zc, zMap, zLen, List.replicate, zApp, Nat.zero_add, Nat.reduceAdd, Nat.reduceSub]
 cases d with
 | lst ds =>
  obtain ⟨hl, hr⟩ := h ds rfl
  refine ret_ (andV_ (b := true) (c := ds.all p) (f1v rfl rfl) fun _ => allC_v p (fun ρ => ∃ z : Option D, ρ = [some (.lst ds), some (.int many), some (.int lo), some (.int hi), z]) (seqL rfl) (by omega) ⟨none, rfl⟩ ?_) rfl
  rintro d ρ hd ⟨z, rfl⟩
  exact ⟨_, rfl, rfl, fA4 rfl rfl rfl rfl (hr d hd), _, rfl⟩
 | _ => first | cases hp; done | exact ret_ (andV_ (b := false) (c := false) (f1v rfl rfl) fun z => by cases z) rfl
theorem at0 {k : D} {ps : List D} : atI (k :: ps) (0 : Int) = some k := atI_nat (j := 0) rfl
theorem at1 {k a : D} {ps : List D} : atI (k :: a :: ps) (1 : Int) = some a := atI_nat (j := 1) rfl
theorem at2 {k a b : D} {ps : List D} : atI (k :: a :: b :: ps) (2 : Int) = some b := atI_nat (j := 2) rfl
theorem len_two {p q : D → Bool} {ps : List D} (h : ps.length ≠ 2) : two p q ps = false := by
 rcases ps with _ | ⟨a, _ | ⟨b, _ | ⟨c, t⟩⟩⟩ <;> first | rfl | exact absurd rfl h
theorem len_one {p : D → Bool} {ps : List D} (h : ps.length ≠ 1) : one p ps = false := by
 rcases ps with _ | ⟨a, _ | ⟨b, t⟩⟩ <;> first | rfl | exact absurd rfl h
theorem get_two {ps : List D} (h : ps.length = 2) : ∃ a b, ps = [a, b] := by
 rcases ps with _ | ⟨a, _ | ⟨b, _ | ⟨c, t⟩⟩⟩ <;> first | exact ⟨_, _, rfl⟩ | (simp at h)
theorem get_one {ps : List D} (h : ps.length = 1) : ∃ a, ps = [a] := by
 rcases ps with _ | ⟨a, _ | ⟨b, t⟩⟩ <;> first | exact ⟨_, rfl⟩ | (simp at h)
theorem row_step {r1 r2 : List D → Option D} {P : D → Bool} {many lo hi : Int} {d : D} {n : Nat} (hf : zw n d) (hh : Hd d = true) (h : ∀ k ps, d = .tup (k :: ps) → ∀ p ∈ ps, r1 [p, .int many, .int lo, .int hi] = some (.bl (P p))) : ZD 4 5 (b_is_row r1 r2) [d, .int many, .int lo, .int hi] = some (.bl (rowB many lo hi P d)) := by
 have hp := hf.pl
 refine Wo.eq ?_
 unfold b_is_row
 rw [ZF]
 refine ⟨rfl, ?_⟩
 simp only [Zc, zMap, zLen, List.replicate, zApp, Nat.zero_add, Nat.reduceAdd, Nat.reduceSub]
 rw [zn]
 cases d with
 | tup ds =>
  obtain ⟨hl, hf'⟩ := hf.tup
  cases ds with
  | nil =>
   refine if_t (or_t2 (not_t (zF (f1v rfl rfl))) (zF (f2v (x := .int 0) rfl rfl rfl))) ?_
   exact Zj rfl rfl
  | cons k ps =>
   have hk : Sc k = true := hh
   have hfp : ∀ p ∈ ps, zw (n - 1) p := fun p hp => hf' p (List.mem_cons_of_mem _ hp)
   refine if_f (or_ff (not_t (zF (f1v rfl rfl))) (zF (f2v (x := .int ((k :: ps).length : Nat)) rfl rfl (by rw [dEqS_, decide_eq_false (by simp only [List.length_cons]; omega)])))) ?_
   rw [Zd, zC, zk, zn]
   refine set_ (d := k) (fIxv (seqT rfl) rfl at0) ?_
   simp only [zSet, zk]
   have hps : ∀ (m : Int), m_has_parts [.tup (k :: ps), .int m] = some (.bl (decide (((ps.length + 1 : Nat) : Int) = m))) := fun m => has_v rfl m
   rw [zn]
   refine if_b (zF (f2v rfl rfl (eqk hk))) (fun e => ?_) (fun e => ?_)
   ·cases k <;> first | cases e; done | skip
    rename_i x
    have ex : x = "set" := of_decide_eq_true e
    by_cases h2 : ps.length = 2
    ·obtain ⟨a, b, rfl⟩ := get_two h2
     refine Zj (andV_ (b := true) (fA2 rfl rfl (hps 3)) fun _ => andV_ (fA3 (fIxv (seqT rfl) rfl at1) rfl (f2v rfl rfl sub_) (num_v (hfp a (by simp)).pl _ _)) fun _ => fA2 (fIxv (seqT rfl) rfl at2) rfl (line_v (hfp b (by simp)) many)) ?_
     show D.bl _ = _
     rw [rowB, if_pos ex]; rfl
    ·refine Zj (andV_ (b := false) (c := false) (fA2 rfl rfl ((hps 3).trans (by rw [decide_eq_false (by omega)]))) fun z => by cases z) ?_
     show D.bl _ = _
     rw [rowB, if_pos ex, len_two h2]; rfl
   ·rw [Zd, zC, zk, zn]
    refine if_b (zF (f2v rfl rfl (eqk hk))) (fun e' => ?_) (fun e' => ?_)
    ·cases k <;> first | cases e'; done | skip
     rename_i x
     have ex' : x ≠ "set" := of_decide_eq_false e
     have ex : x = "take" := of_decide_eq_true e'
     by_cases h2 : ps.length = 1
     ·obtain ⟨a, rfl⟩ := get_one h2
      refine Zj (andV_ (b := true) (fA2 rfl rfl (hps 2)) fun _ => fA3 (fIxv (seqT rfl) rfl at1) rfl (f2v rfl rfl sub_) (num_v (hfp a (by simp)).pl _ _)) ?_
      show D.bl _ = _
      rw [rowB, if_neg ex', if_pos ex]; rfl
     ·refine Zj (andV_ (b := false) (c := false) (fA2 rfl rfl ((hps 2).trans (by rw [decide_eq_false (by omega)]))) fun z => by cases z) ?_
      show D.bl _ = _
      rw [rowB, if_neg ex', if_pos ex, len_one h2]; rfl
    ·rw [Zd, zC, zk, zn]
     refine if_b (orv (zF (f2v rfl rfl (eqk hk))) fun _ => zF (f2v rfl rfl (eqk hk))) (fun e2 => ?_) (fun e2 => ?_)
     ·cases k <;> first | cases e2; done | skip
      rename_i x
      have x1 : x ≠ "set" := of_decide_eq_false e
      have x2 : x ≠ "take" := of_decide_eq_false e'
      have x3 : x = "skip" ∨ x = "halt" := by
       simp only [kS, Bool.or_eq_true, decide_eq_true_eq] at e2; exact e2
      refine Zj (fA2 rfl rfl (hps 1)) ?_
      show D.bl _ = _
      rw [rowB, if_neg x1, if_neg x2, if_pos x3]
      cases ps with
      | nil => rfl
      | cons a t => rw [decide_eq_false (by simp only [List.length_cons]; omega)]; rfl
     ·rw [Zd, zC, zk, zn]
      refine if_b (zF (f2v rfl rfl (eqk hk))) (fun e3 => ?_) (fun e3 => ?_)
      ·cases k <;> first | cases e3; done | skip
       rename_i x
       have x1 : x ≠ "set" := of_decide_eq_false e
       have x2 : x ≠ "take" := of_decide_eq_false e'
       have x4 : x = "either" := of_decide_eq_true e3
       have x3 : ¬ (x = "skip" ∨ x = "halt") := by rw [x4]; decide
       by_cases h2 : ps.length = 2
       ·obtain ⟨a, b, rfl⟩ := get_two h2
        refine Zj (andV_ (b := true) (fA2 rfl rfl (hps 3)) fun _ => allC_v P (fun ρ => ∃ z : Option D, ρ = [some (.tup [.str x, a, b]), some (.int many), some (.int lo), some (.int hi), some (.str x), z]) (ds := [a, b]) (seqT (cutFrom_ (k := 1) (ds := [.str x, a, b]) (seqT rfl) rfl (by omega) (by simp))) (by simp) ⟨none, rfl⟩ ?_) ?_
        ·rintro d ρ hd ⟨z, rfl⟩
         exact ⟨_, rfl, rfl, fA4 rfl rfl rfl rfl (h _ _ rfl d hd), _, rfl⟩
        ·show D.bl _ = _
         rw [rowB, if_neg x1, if_neg x2, if_neg x3, if_pos x4]
         simp [two]
       ·refine Zj (andV_ (b := false) (c := false) (fA2 rfl rfl ((hps 3).trans (by rw [decide_eq_false (by omega)]))) fun z => by cases z) ?_
        show D.bl _ = _
        rw [rowB, if_neg x1, if_neg x2, if_neg x3, if_pos x4, len_two h2]; rfl
      ·rw [Zd, zC, zk, zn]
       refine if_b (zF (f2v rfl rfl (eqk hk))) (fun e4 => ?_) (fun e4 => ?_)
       ·cases k <;> first | cases e4; done | skip
        rename_i x
        have x5 : x = "loop" := of_decide_eq_true e4
        have x1 : x ≠ "set" := of_decide_eq_false e
        have x2 : x ≠ "take" := of_decide_eq_false e'
        have x4 : x ≠ "either" := of_decide_eq_false e3
        have x3 : ¬ (x = "skip" ∨ x = "halt") := by rw [x5]; decide
        by_cases h2 : ps.length = 1
        ·obtain ⟨a, rfl⟩ := get_one h2
         refine Zj (andV_ (b := true) (fA2 rfl rfl (hps 2)) fun _ => fA4 (fIxv (seqT rfl) rfl at1) rfl rfl rfl (h _ _ rfl a (by simp))) ?_
         show D.bl _ = _
         rw [rowB, if_neg x1, if_neg x2, if_neg x3, if_neg x4, if_pos x5]; rfl
        ·refine Zj (andV_ (b := false) (c := false) (fA2 rfl rfl ((hps 2).trans (by rw [decide_eq_false (by omega)]))) fun z => by cases z) ?_
         show D.bl _ = _
         rw [rowB, if_neg x1, if_neg x2, if_neg x3, if_neg x4, if_pos x5, len_one h2]; rfl
       ·rw [Zd, zC, zk, zn]
        refine if_b (zF (f2v rfl rfl (eqk hk))) (fun e5 => ?_) (fun e5 => ?_)
        ·cases k <;> first | cases e5; done | skip
         rename_i x
         have x6 : x = "call" := of_decide_eq_true e5
         have x1 : x ≠ "set" := of_decide_eq_false e
         have x2 : x ≠ "take" := of_decide_eq_false e'
         have x4 : x ≠ "either" := of_decide_eq_false e3
         have x5 : x ≠ "loop" := of_decide_eq_false e4
         have x3 : ¬ (x = "skip" ∨ x = "halt") := by rw [x6]; decide
         by_cases h2 : ps.length = 1
         ·obtain ⟨a, rfl⟩ := get_one h2
          refine Zj (andV_ (b := true) (fA2 rfl rfl (hps 2)) fun _ => fA3 (fIxv (seqT rfl) rfl at1) rfl rfl (num_v (hfp a (by simp)).pl _ _)) ?_
          show D.bl _ = _
          rw [rowB, if_neg x1, if_neg x2, if_neg x3, if_neg x4, if_neg x5, if_pos x6]; rfl
         ·refine Zj (andV_ (b := false) (c := false) (fA2 rfl rfl ((hps 2).trans (by rw [decide_eq_false (by omega)]))) fun z => by cases z) ?_
          show D.bl _ = _
          rw [rowB, if_neg x1, if_neg x2, if_neg x3, if_neg x4, if_neg x5, if_pos x6, len_one h2]; rfl
        ·rw [Zd, zC, zk]
         refine ret_ rfl ?_
         cases k with
         | str x =>
          have x1 : x ≠ "set" := of_decide_eq_false e
          have x2 : x ≠ "take" := of_decide_eq_false e'
          have x3 : ¬ (x = "skip" ∨ x = "halt") := by
           simp only [kS, Bool.or_eq_false_iff, decide_eq_false_iff_not] at e2; exact fun z => z.elim e2.1 e2.2
          have x4 : x ≠ "either" := of_decide_eq_false e3
          have x5 : x ≠ "loop" := of_decide_eq_false e4
          have x6 : x ≠ "call" := of_decide_eq_false e5
          rw [rowB, if_neg x1, if_neg x2, if_neg x3, if_neg x4, if_neg x5, if_neg x6]
         | _ => rfl
 | _ => first | cases hp; done | (refine if_t (or_t1 (notv (b := false) (zF (f1v rfl rfl)))) ?_; exact Zj rfl rfl)
theorem rows_all {many lo hi : Int} : ∀ (n h : Nat), h < n → (∀ d, zw h d → (zX n).1 [d, .int many, .int lo, .int hi] = some (.bl ((SR many lo hi n).1 d))) ∧ ∀ d, zw h d → Hd d = true → (zX n).2 [d, .int many, .int lo, .int hi] = some (.bl ((SR many lo hi n).2 d))
 | 0, h, hn => by omega
 | n + 1, h, hn => by
  rw [show zX (n + 1) = (ZD 4 4 (b_are_rows (zX n).1 (zX n).2), ZD 4 5 (b_is_row (zX n).1 (zX n).2)) by rw [zX]]
  rw [show SR many lo hi (n + 1) = (rowsB (SR many lo hi n).2, rowB many lo hi (SR many lo hi n).1) by rw [SR]]
  refine ⟨fun d hf => rows_step hf.pl ?_, fun d hf hh => row_step hf hh ?_⟩
  ·rintro ds rfl
   have := hf.posL
   obtain ⟨hl, hr⟩ := hf.lst
   exact ⟨hl, fun r hr' => (rows_all n (h - 1) (by omega)).2 r (hr r hr').1 (hr r hr').2⟩
  ·rintro k ps rfl p hp
   have := hf.pos
   exact (rows_all n (h - 1) (by omega)).1 p (hf.tup.2 p (List.mem_cons_of_mem _ hp))
open PySem PySem.Spec L2 M RW
theorem names_ok : names.all PyData.strOk = true := by decide +kernel
theorem sc_lay {d : D} (h : Sc d = true) : (zV d).canLay0 = true ∧ (zV d).depth = 0 := by
 cases d with
 | str x =>
  refine ⟨?_, by simp only [zV]; rw [PyData.depth]⟩
  simp only [zV]
  rw [PyData.canLay0]
  exact List.all_eq_true.mp names_ok x (by simpa [Sc] using h)
 | non => exact ⟨by simp only [zV]; rw [PyData.canLay0], by simp only [zV]; rw [PyData.depth]⟩
 | bl b => exact ⟨by simp only [zV]; rw [PyData.canLay0], by simp only [zV]; rw [PyData.depth]⟩
 | int i => exact ⟨by simp only [zV]; rw [PyData.canLay0], by simp only [zV]; rw [PyData.depth]⟩
 | _ => cases h
theorem lay_all : ∀ {ds : List D} {k : Nat}, (∀ r ∈ ds, (zV r).canLay0 = true ∧ (zV r).depth ≤ k) → PyData.canLayAll0 (Zy ds) = true ∧ PyData.depthAll (Zy ds) ≤ k
 | [], k, _ => ⟨by rw [Zy, PyData.canLayAll0], by rw [Zy, PyData.depthAll]; omega⟩
 | d :: ds, k, h => by
  obtain ⟨h1, h2⟩ := h d List.mem_cons_self
  obtain ⟨h3, h4⟩ := lay_all fun r hr => h r (List.mem_cons_of_mem _ hr)
  rw [Zy, PyData.canLayAll0, PyData.depthAll, h1, h3]
  exact ⟨rfl, by omega⟩
theorem zw.lay : ∀ {n : Nat} {d : D}, zw n d → (zV d).canLay0 = true ∧ (zV d).depth ≤ n
 | 0, d, h => ⟨(sc_lay h).1, by rw [(sc_lay h).2]; omega⟩
 | n + 1, d, h => by
  rcases h with h | ⟨ds, rfl, hl, h⟩ | ⟨ds, rfl, hl, h⟩
  ·exact ⟨(sc_lay h).1, by rw [(sc_lay h).2]; omega⟩
  ·obtain ⟨h1, h2⟩ := lay_all fun r hr => (h r hr).lay
   rw [zV, PyData.canLay0, PyData.depth]
   exact ⟨h1, by omega⟩
  ·obtain ⟨h1, h2⟩ := lay_all fun r hr => (h r hr).1.lay
   rw [zV, PyData.canLay0, PyData.depth]
   exact ⟨h1, by omega⟩
theorem zw.py {n : Nat} {d : D} (h : zw n d) (hn : n ≤ 64) : pyOk d = true := by
 obtain ⟨h1, h2⟩ := h.lay
 unfold pyOk SeqAt.shaped
 rw [h1, decide_eq_true (by omega)]; rfl
def isSH : D → Bool
 | .tup [.str x] => decide (x = "skip") || decide (x = "halt")
 | _ => false
theorem toPys_cons {d : D} {ds : List D} : Zy (d :: ds) = zV d :: Zy ds := by rw [Zy]
theorem toPys_nil : Zy [] = [] := by rw [Zy]
theorem toPy_tup {ds : List D} : zV (.tup ds) = .tuple (Zy ds) := by rw [zV]
theorem toPy_str {x : Str} : zV (.str x) = .str x := by rw [zV]
theorem toPy_int {x : Int} : zV (.int x) = .int x := by rw [zV]
def shL : List D := [.tup [.str "skip"], .tup [.str "halt"]]
theorem sh_same {k : D} {ps : List D} (hk : Sc k = true) (x : Str) : same (.tuple [.str x]) (zV (.tup (k :: ps))) = (kS x k && ps.isEmpty) := by
 rw [toPy_tup, toPys_cons]
 cases ps with
 | nil =>
  rw [toPys_nil]
  cases k with
  | str y =>
   rw [toPy_str]
   by_cases e : y = x
   ·subst e; simp [same, sameAll, kS]
   ·have : ¬ x = y := fun z => e z.symm
    simp [same, sameAll, kS, e, this]
  | non => simp [zV, same, sameAll, kS]
  | bl b => simp [zV, same, sameAll, kS]
  | int b => simp [zV, same, sameAll, kS]
  | _ => cases hk
 | cons a t =>
  rw [toPys_cons, same, sameAll, sameAll, Bool.and_false, List.isEmpty_cons, Bool.and_false]
  all_goals (intros; simp_all)
theorem noMix1 {x : Str} {k : D} (hk : Sc k = true) : SeqAt.noMix (.str x) (zV k) = true := by
 cases k <;> first | cases hk; done | simp [zV, SeqAt.noMix]
theorem noMix_nil (xs : List PyData) : SeqAt.noMixAll [] xs = true := by cases xs <;> simp [SeqAt.noMixAll]
theorem sh_mix {k : D} {ps : List D} (hk : Sc k = true) (x : Str) : SeqAt.noMix (.tuple [.str x]) (zV (.tup (k :: ps))) = true := by
 rw [toPy_tup, toPys_cons]
 rw [SeqAt.noMix, SeqAt.noMixAll, noMix1 hk, noMix_nil]; rfl
theorem shL_py : pyOk (.lst shL) = true := zw.py (n := 2) (.inr (.inr ⟨shL, rfl, by decide, fun r hr => by
 rcases List.mem_cons.mp hr with rfl | hr
 ·exact ⟨.inr (.inl ⟨_, rfl, by decide, fun r hr => by rw [List.mem_singleton.mp hr]; rfl⟩), rfl⟩
 ·rw [List.mem_singleton.mp hr]; exact ⟨.inr (.inl ⟨_, rfl, by decide, fun r hr => by rw [List.mem_singleton.mp hr]; rfl⟩), rfl⟩⟩)) (by omega)
theorem in_sh {n : Nat} {k : D} {ps : List D} (hf : zw n (.tup (k :: ps))) (hn : n ≤ 64) (hk : Sc k = true) : dInL false (.tup (k :: ps)) (.lst shL) = some (.bl ((kS "skip" k || kS "halt" k) && ps.isEmpty)) := by
 unfold dInL
 have e : Zy shL = [.tuple [.str "skip"], .tuple [.str "halt"]] := by simp [shL, Zy, zV]
 show (if _ then _ else _) = _
 rw [if_pos ⟨hf.py hn, shL_py, by rw [e]; simp [sh_mix hk]⟩, if_neg Bool.false_ne_true, e, countIn, countIn, countIn, sh_same hk, sh_same hk]
 congr 2
 cases kS "skip" k <;> cases kS "halt" k <;> cases ps.isEmpty <;> rfl
def elL : List D := [.tup [.str "either", .int 3], .tup [.str "loop", .int 2]]
theorem el_same {k : D} {m : Int} (hk : Sc k = true) (x : Str) (c : Int) : same (.tuple [.str x, .int c]) (zV (.tup [k, .int m])) = (kS x k && decide (m = c)) := by
 rw [toPy_tup, toPys_cons, toPys_cons, toPys_nil, toPy_int]
 have hc : decide (c = m) = decide (m = c) := by
  by_cases h : c = m
  ·rw [decide_eq_true h, decide_eq_true h.symm]
  ·rw [decide_eq_false h, decide_eq_false fun z => h z.symm]
 cases k with
 | str y =>
  rw [toPy_str]
  by_cases e : y = x
  ·subst e
   rw [← hc]
   by_cases h : c = m <;> simp [same, sameAll, kS, h]
  ·have : ¬ x = y := fun z => e z.symm
   simp [same, sameAll, kS, e, this]
 | non => simp [zV, same, sameAll, kS]
 | bl b => simp [zV, same, sameAll, kS]
 | int b => simp [zV, same, sameAll, kS]
 | _ => cases hk
theorem el_mix {k : D} {m : Int} (hk : Sc k = true) (x : Str) (c : Int) : SeqAt.noMix (.tuple [.str x, .int c]) (zV (.tup [k, .int m])) = true := by
 rw [toPy_tup, toPys_cons, toPys_cons, toPys_nil, toPy_int]
 rw [SeqAt.noMix, SeqAt.noMixAll, noMix1 hk, SeqAt.noMixAll, noMix_nil]
 simp [SeqAt.noMix]
theorem elL_py : pyOk (.lst elL) = true := zw.py (n := 2) (.inr (.inr ⟨elL, rfl, by decide, fun r hr => by
 rcases List.mem_cons.mp hr with rfl | hr
 ·exact ⟨.inr (.inl ⟨_, rfl, by decide, fun r hr => by rcases List.mem_cons.mp hr with rfl | hr; rfl; rw [List.mem_singleton.mp hr]; show Sc _ = true; decide⟩), rfl⟩
 ·rw [List.mem_singleton.mp hr]; exact ⟨.inr (.inl ⟨_, rfl, by decide, fun r hr => by rcases List.mem_cons.mp hr with rfl | hr; rfl; rw [List.mem_singleton.mp hr]; show Sc _ = true; decide⟩), rfl⟩⟩)) (by omega)
theorem in_el {k : D} {m : Nat} (hm : m ≤ 1000) (hk : Sc k = true) : dInL true (.tup [k, .int (m : Nat)]) (.lst elL) = some (.bl (!((kS "either" k && decide (((m : Nat) : Int) = 3)) || (kS "loop" k && decide (((m : Nat) : Int) = 2))))) := by
  unfold dInL
  have e : Zy elL = [.tuple [.str "either", .int 3], .tuple [.str "loop", .int 2]] := by simp [elL, Zy, zV]
  have hf : zw 1 (.tup [k, .int (m : Nat)]) := .inr (.inl ⟨_, rfl, by simp, fun r hr => by
    rcases List.mem_cons.mp hr with rfl | hr
    · exact hk
    · rw [List.mem_singleton.mp hr]
      show decide _ = true
      exact decide_eq_true (by have : (1000 : Nat) ≤ 10 ^ 50 := by decide
                               omega)⟩)
  show (if _ then _ else _) = _
  rw [if_pos ⟨hf.py (by omega), elL_py, by rw [e]; simp [el_mix hk]⟩, if_pos rfl, e, countIn, countIn, countIn, el_same hk, el_same hk]
  congr 2
  cases kS "either" k <;> cases kS "loop" k <;> cases decide (((m : Nat) : Int) = 3) <;> cases decide (((m : Nat) : Int) = 2) <;> rfl
def sumA : Int × Int → List (Option (Int × Int)) → Option (Int × Int)
 | a, [] => some a
 | a, x :: xs => x.bind fun b => sumA (max a.1 b.1, a.2 + b.2) xs
def sizeB (p : D → Option (Int × Int)) : D → Option (Int × Int)
 | .lst ds => sumA (0, 0) (ds.map p)
 | _ => none
def callZ (body : Int) (look : Int → Int × Int) : List D → Option (Int × Int)
 | [.int k] => if body < k then some (max 1 (look k).1, (look k).2) else none
 | _ => none
def rowZ (many body : Int) (look : Int → Int × Int) (P : D → Option (Int × Int)) : D → Option (Int × Int)
 | .tup (.str x :: ps) =>
  if x = "skip" ∨ x = "halt" then (if ps.isEmpty = true then some (1, 1) else none)
  else if x = "take" then (if one (num 0 (many - 1)) ps = true then some (1, 1) else none)
  else if x = "set" then (if two (num 0 (many - 1)) (isLine many) ps = true then some (1, 1) else none)
  else if x = "call" then callZ body look ps
  else if x = "either" ∧ ps.length = 2 ∨ x = "loop" ∧ ps.length = 1 then (sumA (0, 0) (ps.map P)).map fun r => (1 + r.1, 1 + r.2)
  else none
 | _ => none
def SZ (many body : Int) (look : Int → Int × Int) : Nat → (D → Option (Int × Int)) × (D → Option (Int × Int))
 | 0 => (fun _ => none, fun _ => none)
 | n + 1 => (rowZ many body look (SZ many body look n).2, sizeB (SZ many body look n).1)
def enc : Option (Int × Int) → D
 | none => .non
 | some r => .tup [.int r.1, .int r.2]
def Looks (dd : D) (look : Int → Int × Int) : Prop := ∀ k : Int, gGet2 dd (.int k) (.tup [.int 7, .int 0]) = some (.tup [.int (look k).1, .int (look k).2])
theorem whole_v {d : D} (h : Pl d = true) : m'whole [d] = some (.bl (isI d)) := by
 refine Wo.eq ?_
 unfold m'whole b'whole
 rw [ZF]
 refine ⟨rfl, ?_⟩
 simp only [Zc, zMap, zLen, List.replicate, zApp, Nat.zero_add, Nat.reduceAdd, Nat.reduceSub]
 cases d with
 | int x => exact ret_ (andV_ (b := true) (c := true) (f1v rfl rfl) fun _ => notV_ (b := false) (f1v rfl rfl)) rfl
 | bl x => exact ret_ (andV_ (b := true) (c := false) (f1v rfl rfl) fun _ => notV_ (b := true) (f1v rfl rfl)) rfl
 | _ => first | cases h; done | exact ret_ (andV_ (b := false) (c := false) (f1v rfl rfl) fun z => by cases z) rfl
theorem isline_v {n : Nat} {d : D} (h : zw n d) (many : Int) : m'is_line [d, .int many] = some (.bl (isLine many d)) := by
 have hp := h.pl
 refine Wo.eq ?_
 unfold m'is_line b'is_line
 rw [ZF]
 refine ⟨rfl, ?_⟩
 simp only [Zc, zMap, zLen, List.replicate, zApp, Nat.zero_add, Nat.reduceAdd, Nat.reduceSub]
 rw [zn]
 cases d with
 | tup ds =>
  obtain ⟨hl, hf⟩ := h.tup
  refine if_b (or_ff' many ds) (fun e => ?_) (fun e => ?_)
  ·refine Zj rfl ?_
   show D.bl false = _
   rw [isLine]; simp only [Bool.not_eq_true'] at e; rw [e]; rfl
  ·rw [Zd, zC, zk]
   simp only [Bool.not_eq_false'] at e
   refine ret_ (allC_v (num (-999999) 999999) (fun ρ => ∃ z : Option D, ρ = [some (.tup ds), some (.int many), z]) (seqT rfl) (by omega) ⟨none, rfl⟩ ?_) ?_
   ·rintro d ρ hd ⟨z, rfl⟩
    refine ⟨_, rfl, rfl, ?_, _, rfl⟩
    have hpd := (hf d hd).pl
    cases d with
    | int x =>
     refine (andV_ (b := true) (fA1 rfl (whole_v hpd)) fun _ => flatv (f2v (fA1 rfl gAbs_) rfl lt_) rfl).trans ?_
     rw [num, Bool.true_and]
     congr 2
     by_cases h0 : x < 0
     ·rw [if_pos h0]; by_cases h1 : -999999 ≤ x
      ·rw [decide_eq_true (by omega), decide_eq_true h1, decide_eq_true (by omega)]; rfl
      ·rw [decide_eq_false (by omega), decide_eq_false h1]; rfl
     ·rw [if_neg h0]; by_cases h1 : x ≤ 999999
      ·rw [decide_eq_true (by omega), decide_eq_true h1, decide_eq_true (by omega)]; rfl
      ·rw [decide_eq_false (by omega), decide_eq_false h1, Bool.and_false]
    | _ => first | cases hpd; done | exact andV_ (b := false) (c := false) (fA1 rfl (whole_v hpd)) fun z => by cases z
   ·rw [isLine, e]; rfl
 | _ => first | cases hp; done | (refine if_t (or_t1 (notv (b := false) (zF (f1v rfl rfl)))) ?_; exact Zj rfl rfl)
where
 or_ff' (many : Int) (ds : List D) : fOr (fNot (zy (f1 (gIsi "tuple") (ze 0)))) (zy (f2 dNeS (fA gLen (zu false (ze 0))) (f2 dAdd (ze 1) (fC (.int 1))))) [some (.tup ds), some (.int many)] = some (!decide (((ds.length : Nat) : Int) = many + 1)) := by
  refine Eq.trans (b := some (false || !decide (((ds.length : Nat) : Int) = many + 1))) ?_ (by rw [Bool.false_or])
  exact (orv (a := false) (notv (b := true) (zF (f1v rfl rfl))) fun _ => zF (f2v (x := .int (ds.length : Nat)) rfl (f2v rfl rfl add_) dNeS_))
theorem nilv {ρ : Ev} : Zf zl ρ = some (.lst []) := by rw [fLst_]; exact dLst_ (ds := []) (size_of (by simp))
theorem tup1v {ρ : Ev} {f : Ev → Option D} {d : D} (e : f ρ = some d) : zR (zc f zl) ρ = some (.tup [d]) := tup1_ e
theorem tup2v {ρ : Ev} {f f' : Ev → Option D} {d d' : D} (e : f ρ = some d) (e' : f' ρ = some d') : zR (zc f (zc f' zl)) ρ = some (.tup [d, d']) := by
 rw [fTup_, fCons_, e, oB, fCons_, e']; exact dTup_ (size_of (by simp))
theorem tup3v {ρ : Ev} {f f' f'' : Ev → Option D} {d d' d'' : D} (e : f ρ = some d) (e' : f' ρ = some d') (e'' : f'' ρ = some d'') : zR (zc f (zc f' (zc f'' zl))) ρ = some (.tup [d, d', d'']) := by
 rw [fTup_, fCons_, e, oB, fCons_, e', oB, fCons_, e'']; exact dTup_ (size_of (by simp))
theorem lst2v {ρ : Ev} {f f' : Ev → Option D} {d d' : D} (e : f ρ = some d) (e' : f' ρ = some d') : Zf (zc f (zc f' zl)) ρ = some (.lst [d, d']) := by
 rw [fLst_, fCons_, e, oB, fCons_, e']; exact dLst_ (size_of (by simp))
theorem inR1v {fe fa : Ev → Option D} {ρ : Ev} {x m : Int} (h1 : fe ρ = some (.int x)) (h2 : fa ρ = some (.int m)) (neg : Bool) : fInR1 neg fe fa ρ = some (inR neg 0 m x) := by
 unfold fInR1
 rw [h1, oB, asI_, oB, h2, oB, asI_]; rfl
theorem get2v {fo fk fz : Ev → Option D} {ρ : Ev} {x y z d : D} (h1 : fo ρ = some x) (h2 : fk ρ = some y) (h3 : fz ρ = some z) (e : gGet2 x y z = some d) : fGet2 fo fk fz ρ = some d := by
 unfold fGet2
 rw [h1, oB, h2, oB, h3, oB, e]
theorem num_in {many x : Int} : inR false 0 many x = num 0 (many - 1) (.int x) := by
 unfold inR
 rw [if_neg Bool.false_ne_true]
 show _ = (decide (0 ≤ x) && decide (x ≤ many - 1))
 by_cases h0 : 0 ≤ x
 ·by_cases h1 : x < many
  ·rw [decide_eq_true ⟨h0, h1⟩, decide_eq_true h0, decide_eq_true (by omega)]; rfl
  ·rw [decide_eq_false (fun z => h1 z.2), decide_eq_true h0, decide_eq_false (by omega)]; rfl
 ·rw [decide_eq_false (fun z => h0 z.1), decide_eq_false h0]; rfl
def pre (q : D → Bool) : List D → Bool
 | [a, _] => q a
 | _ => false
theorem len_pre {q : D → Bool} {ps : List D} (h : ps.length ≠ 2) : pre q ps = false := by
 rcases ps with _ | ⟨a, _ | ⟨b, _ | ⟨c, t⟩⟩⟩ <;> first | rfl | exact absurd rfl h
def above (body : Int) : D → Bool
 | .int k => decide (body < k)
 | _ => false
section
variable {k : D} {ps : List D} {ρ : Ev} {many body : Int} (h0 : ρ[0]?.join = some (.tup (k :: ps))) (hk : Sc k = true) (hp : ∀ p ∈ ps, Pl p = true)
include h0 hk hp
theorem len_v (c : Int) : zy (f2 dEqS (fA gLen (zu false (ze 0))) (fC (.int c))) ρ = some (decide (((ps.length + 1 : Nat) : Int) = c)) :=
 zF (f2v (x := .int ((k :: ps).length : Nat)) (by rw [fA_, seqT (f := ze 0) h0, oB]; rfl) rfl dEqS_)
theorem kind_v (x : Str) : zy (f2 dEqS (fIx (zu false (ze 0)) (fC (.int 0))) (fC (.str x))) ρ = some (kS x k) :=
 zF (f2v (fIxv (seqT (f := ze 0) h0) rfl at0) rfl (eqk hk))
theorem num_c {a : D} {t : List D} (ha : ps = a :: t) (h1 : ρ[1]?.join = some (.int many)) : fAnd (zy (fA m'whole (zc (fIx (zu false (ze 0)) (fC (.int 1))) zl))) (fInR1 false (fIx (zu false (ze 0)) (fC (.int 1))) (ze 1)) ρ = some (num 0 (many - 1) a) := by
 subst ha
 have e1 : fIx (zu false (ze 0)) (fC (.int 1)) ρ = some a := fIxv (seqT (f := ze 0) h0) rfl at1
 have hpa := hp a (by simp)
 cases a with
 | int x => exact (andc (a := true) (zF (fA1 e1 (whole_v hpa))) fun _ => inR1v (fa := ze 1) e1 h1 false).trans (by rw [num_in, Bool.true_and])
 | _ => first | cases hpa; done | exact andc (a := false) (b := false) (zF (fA1 e1 (whole_v hpa))) fun z => by cases z
theorem take_c (h1 : ρ[1]?.join = some (.int many)) : fAnd (zy (f2 dEqS (fIx (zu false (ze 0)) (fC (.int 0))) (fC (.str "take")))) (fAnd (zy (f2 dEqS (fA gLen (zu false (ze 0))) (fC (.int 2)))) (fAnd (zy (fA m'whole (zc (fIx (zu false (ze 0)) (fC (.int 1))) zl))) (fInR1 false (fIx (zu false (ze 0)) (fC (.int 1))) (ze 1)))) ρ = some (kS "take" k && one (num 0 (many - 1)) ps) := by
 refine andc (kind_v h0 hk hp "take") fun _ => ?_
 by_cases h2 : ps.length = 1
 ·obtain ⟨a, rfl⟩ := get_one h2
  exact andc (a := true) (len_v h0 hk hp 2) fun _ => num_c h0 hk hp rfl h1
 ·rw [len_one h2]
  exact andc (a := false) (b := false) ((len_v h0 hk hp 2).trans (by rw [decide_eq_false (by omega)])) fun z => by cases z
theorem set_c (h1 : ρ[1]?.join = some (.int many)) : fAnd (zy (f2 dEqS (fIx (zu false (ze 0)) (fC (.int 0))) (fC (.str "set")))) (fAnd (zy (f2 dEqS (fA gLen (zu false (ze 0))) (fC (.int 3)))) (fAnd (zy (fA m'whole (zc (fIx (zu false (ze 0)) (fC (.int 1))) zl))) (fInR1 false (fIx (zu false (ze 0)) (fC (.int 1))) (ze 1)))) ρ = some (kS "set" k && pre (num 0 (many - 1)) ps) := by
 refine andc (kind_v h0 hk hp "set") fun _ => ?_
 by_cases h2 : ps.length = 2
 ·obtain ⟨a, b, rfl⟩ := get_two h2
  exact andc (a := true) (len_v h0 hk hp 3) fun _ => num_c h0 hk hp rfl h1
 ·rw [len_pre h2]
  exact andc (a := false) (b := false) ((len_v h0 hk hp 3).trans (by rw [decide_eq_false (by omega)])) fun z => by cases z
theorem call_c (h1 : ρ[2]?.join = some (.int body)) : fAnd (zy (f2 dEqS (fIx (zu false (ze 0)) (fC (.int 0))) (fC (.str "call")))) (fAnd (zy (f2 dEqS (fA gLen (zu false (ze 0))) (fC (.int 2)))) (fAnd (zy (fA m'whole (zc (fIx (zu false (ze 0)) (fC (.int 1))) zl))) (zy (f2 dGt (fIx (zu false (ze 0)) (fC (.int 1))) (ze 2))))) ρ = some (kS "call" k && one (above body) ps) := by
 refine andc (kind_v h0 hk hp "call") fun _ => ?_
 by_cases h2 : ps.length = 1
 ·obtain ⟨a, rfl⟩ := get_one h2
  refine (andc (a := true) (b := above body a) (len_v h0 hk hp 2) fun _ => ?_)
  have e1 : fIx (zu false (ze 0)) (fC (.int 1)) ρ = some a := fIxv (seqT (f := ze 0) h0) rfl at1
  have hpa := hp a (by simp)
  cases a with
  | int x => exact (andc (a := true) (zF (fA1 e1 (whole_v hpa))) fun _ => zF (f2v (fb := ze 2) e1 h1 gt_)).trans (by rw [above, Bool.true_and])
  | _ => first | cases hpa; done | exact andc (a := false) (b := false) (zF (fA1 e1 (whole_v hpa))) fun z => by cases z
 ·rw [len_one h2]
  exact andc (a := false) (b := false) ((len_v h0 hk hp 2).trans (by rw [decide_eq_false (by omega)])) fun z => by cases z
end
theorem isN_ {r : Option (Int × Int)} : dIsN (enc r) .non = some (.bl r.isNone) := by cases r <;> rfl
theorem parts_loop {r2 : List D → Option D} {P : D → Option (Int × Int)} {d m b dd z4 : D} {o4 : Option D} : ∀ (ps : List D) (a c : Int) (z7 z8 : Option D), (∀ p ∈ ps, r2 [p, m, b, dd] = some (enc (P p))) →
  Wo (forD (uName 7) (zG (Zo 8 (fA r2 (zc (ze 7) (zc (ze 1) (zc (ze 2) (zc (ze 3) zl))))))
  (zG (mIf (zy (f2 dIsN (ze 8) (fC .non)))
  (Zb (fC .non))
  Zl)
  (zG (Zo 5 (fA gMax2 (zc (ze 5) (zc (f2 dAdd (fC (.int 1)) (fIx (zu false (ze 8)) (fC (.int 0)))) zl))))
  (Zo 6 (f2 dAdd (ze 6) (fIx (zu false (ze 8)) (fC (.int 1)))))))) ps [some d, some m, some b, some dd, o4, some (.int (1 + a)), some (.int (1 + c)), z7, z8])
  (Then (Zb (zR (zc (ze 5) (zc (ze 6) zl)))) (Back fun x => x = enc ((sumA (a, c) (ps.map P)).map fun r => (1 + r.1, 1 + r.2))))
 | [], a, c, z7, z8, _ => by
  rw [wo_forNil, zk]
  exact ret_ (tup2v rfl rfl) rfl
 | p :: ps, a, c, z7, z8, h => by
  rw [wo_forCons, uName_, zC]
  simp only [zSet]
  rw [zn]
  refine set_ (fA4 rfl rfl rfl rfl (h p List.mem_cons_self)) ?_
  simp only [zSet, zk]
  rw [zn, List.map_cons]
  cases hP : P p with
  | none =>
   refine if_t (zF (f2v rfl rfl isN_)) ?_
   refine Zj rfl ?_
   rfl
  | some r =>
   refine if_f (zF (f2v rfl rfl isN_)) ?_
   rw [Zd, zC, zk, zn]
   refine set_ (d := .int (1 + max a r.1)) (fA2 rfl (f2v rfl (fIxv (ds := [.int r.1, .int r.2]) (seqT rfl) rfl at0) add_) (max2_.trans (by congr 2; omega))) ?_
   simp only [zSet, zk]
   refine set_ (d := .int (1 + (c + r.2))) (f2v rfl (fIxv (ds := [.int r.1, .int r.2]) (seqT rfl) rfl at1) (add_.trans (by congr 2; omega))) ?_
   simp only [zSet, turn_nx]
   exact parts_loop (z4 := z4) ps (max a r.1) (c + r.2) _ _ fun q hq => h q (List.mem_cons_of_mem _ hq)
theorem rows_loop {r1 : List D → Option D} {P : D → Option (Int × Int)} {d m b dd : D} : ∀ (ps : List D) (a c : Int) (z6 z7 : Option D), (∀ p ∈ ps, r1 [p, m, b, dd] = some (enc (P p))) →
  Wo (forD (uName 6) (zG (Zo 7 (fA r1 (zc (ze 6) (zc (ze 1) (zc (ze 2) (zc (ze 3) zl))))))
  (zG (mIf (zy (f2 dIsN (ze 7) (fC .non)))
  (Zb (fC .non))
  Zl)
  (zG (Zo 4 (fA gMax2 (zc (ze 4) (zc (fIx (zu false (ze 7)) (fC (.int 0))) zl))))
  (Zo 5 (f2 dAdd (ze 5) (fIx (zu false (ze 7)) (fC (.int 1)))))))) ps [some d, some m, some b, some dd, some (.int a), some (.int c), z6, z7])
  (Then (Zb (zR (zc (ze 4) (zc (ze 5) zl)))) (Back fun x => x = enc (sumA (a, c) (ps.map P))))
 | [], a, c, z6, z7, _ => by
  rw [wo_forNil, zk]
  exact ret_ (tup2v rfl rfl) rfl
 | p :: ps, a, c, z6, z7, h => by
  rw [wo_forCons, uName_, zC]
  simp only [zSet]
  rw [zn]
  refine set_ (fA4 rfl rfl rfl rfl (h p List.mem_cons_self)) ?_
  simp only [zSet, zk]
  rw [zn, List.map_cons]
  cases hP : P p with
  | none =>
   refine if_t (zF (f2v rfl rfl isN_)) ?_
   refine Zj rfl ?_
   rfl
  | some r =>
   refine if_f (zF (f2v rfl rfl isN_)) ?_
   rw [Zd, zC, zk, zn]
   refine set_ (d := .int (max a r.1)) (fA2 rfl (fIxv (ds := [.int r.1, .int r.2]) (seqT rfl) rfl at0) max2_) ?_
   simp only [zSet, zk]
   refine set_ (d := .int (c + r.2)) (f2v rfl (fIxv (ds := [.int r.1, .int r.2]) (seqT rfl) rfl at1) add_) ?_
   simp only [zSet, turn_nx]
   exact rows_loop ps (max a r.1) (c + r.2) _ _ fun q hq => h q (List.mem_cons_of_mem _ hq)
theorem size_step {r1 r2 : List D → Option D} {P : D → Option (Int × Int)} {many body : Int} {dd d : D} (hp : Pl d = true) (h : ∀ ds, d = .lst ds → ∀ r ∈ ds, r1 [r, .int many, .int body, dd] = some (enc (P r))) : ZD 4 8 (b'size r1 r2) [d, .int many, .int body, dd] = some (enc (sizeB P d)) := by
 refine Wo.eq ?_
 unfold b'size
 rw [ZF]
 refine ⟨rfl, ?_⟩
 simp only [Zc, zMap, zLen, List.replicate, zApp, Nat.zero_add, Nat.reduceAdd, Nat.reduceSub]
 rw [zn]
 cases d with
 | lst ds =>
  refine if_f (not_t (zF (f1v rfl rfl))) ?_
  rw [Zd, zC, zk, zn]
  refine set_ rfl ?_
  simp only [zSet, zk]
  rw [zn]
  refine set_ rfl ?_
  simp only [zSet, zk]
  rw [zn, mFor_, seqL (ds := ds) rfl, oB]
  exact rows_loop ds 0 0 _ _ (h ds rfl)
 | _ => first | cases hp; done | (refine if_t (notv (b := false) (zF (f1v rfl rfl))) ?_; exact Zj rfl rfl)
theorem rowsize_step {r1 r2 : List D → Option D} {P : D → Option (Int × Int)} {many body : Int} {look : Int → Int × Int} {dd d : D} {n : Nat} (hf : zw n d) (hn : n ≤ 60) (hh : Hd d = true) (hdd : Looks dd look) (h : ∀ k ps, d = .tup (k :: ps) → ∀ p ∈ ps, r2 [p, .int many, .int body, dd] = some (enc (P p))) : ZD 4 9 (b'row_size r1 r2) [d, .int many, .int body, dd] = some (enc (rowZ many body look P d)) := by
 have hp := hf.pl
 refine Wo.eq ?_
 unfold b'row_size
 rw [ZF]
 refine ⟨rfl, ?_⟩
 simp only [Zc, zMap, zLen, List.replicate, zApp, Nat.zero_add, Nat.reduceAdd, Nat.reduceSub]
 rw [zn]
 cases d with
 | tup ds =>
  obtain ⟨hl, hf'⟩ := hf.tup
  cases ds with
  | nil =>
   refine if_t (or_t2 (not_t (zF (f1v rfl rfl))) (zF (f2v (x := .int 0) rfl rfl rfl))) ?_
   exact Zj rfl rfl
  | cons k ps =>
   have hk : Sc k = true := hh
   have hfp : ∀ p ∈ ps, zw (n - 1) p := fun p hp => hf' p (List.mem_cons_of_mem _ hp)
   have hpp : ∀ p ∈ ps, Pl p = true := fun p hp => (hfp p hp).pl
   have hlp : ps.length ≤ 100 := by simp only [List.length_cons] at hl; omega
   refine if_f (or_ff (not_t (zF (f1v rfl rfl))) (zF (f2v (x := .int ((k :: ps).length : Nat)) rfl rfl (by rw [lt_, decide_eq_false (by simp only [List.length_cons]; omega)])))) ?_
   rw [Zd, zC, zk, zn]
   refine if_b (zF (f2v rfl (lst2v (tup1v rfl) (tup1v rfl)) (in_sh hf (by omega) hk))) (fun e1 => ?_) (fun e1 => ?_)
   ·refine Zj (tup2v rfl rfl) ?_
    cases k <;> first | cases e1; done | skip
    rename_i x
    simp only [kS, Bool.and_eq_true, Bool.or_eq_true, decide_eq_true_eq] at e1
    show D.tup _ = _
    rw [rowZ, if_pos e1.1, if_pos e1.2]; rfl
   ·rw [Zd, zC, zk, zn]
    refine if_b (take_c rfl hk hpp rfl) (fun e2 => ?_) (fun e2 => ?_)
    ·refine Zj (tup2v rfl rfl) ?_
     cases k <;> first | cases e2; done | skip
     rename_i x
     simp only [kS, Bool.and_eq_true, decide_eq_true_eq] at e2
     show D.tup _ = _
     rw [rowZ, if_neg (by rw [e2.1]; decide), if_pos e2.1, if_pos e2.2]; rfl
    ·rw [Zd, zC, zk, zn]
     refine if_b (set_c rfl hk hpp rfl) (fun e3 => ?_) (fun e3 => ?_)
     ·cases k <;> first | cases e3; done | skip
      rename_i x
      simp only [kS, Bool.and_eq_true, decide_eq_true_eq] at e3
      have h2 : ps.length = 2 := by
       by_cases z : ps.length = 2
       ·exact z
       ·have := e3.2; rw [len_pre z] at this; cases this
      obtain ⟨a, b, rfl⟩ := get_two h2
      have ha : num 0 (many - 1) a = true := e3.2
      have hlv := isline_v (hfp b (by simp)) many
      refine Zj (d := enc (if isLine many b = true then some (1, 1) else none)) ?_ ?_
      ·refine fIxv (ds := [.non, .tup [.int 1, .int 1]]) (seqL (lst2v rfl (tup2v rfl rfl))) (fA1 (fA2 (fIxv (seqT rfl) rfl at2) rfl hlv) gIntB) ?_
       cases isLine many b <;> rfl
      ·have er : rowZ many body look P (.tup [.str x, a, b]) = if two (num 0 (many - 1)) (isLine many) [a, b] = true then some (1, 1) else none := by
        rw [rowZ, if_neg (by rw [e3.1]; decide), if_neg (by rw [e3.1]; decide), if_pos e3.1]
       show enc _ = _
       rw [er]
       simp only [two, ha, Bool.true_and]
     ·rw [Zd, zC, zk, zn]
      refine if_b (call_c rfl hk hpp rfl) (fun e4 => ?_) (fun e4 => ?_)
      ·cases k <;> first | cases e4; done | skip
       rename_i x
       simp only [kS, Bool.and_eq_true, decide_eq_true_eq] at e4
       have h2 : ps.length = 1 := by
        by_cases z : ps.length = 1
        ·exact z
        ·have := e4.2; rw [len_one z] at this; cases this
       obtain ⟨a, rfl⟩ := get_one h2
       have ha : above body a = true := e4.2
       cases a <;> first | cases ha; done | skip
       rename_i c
       have hc : body < c := of_decide_eq_true ha
       rw [zn]
       refine set_ (get2v rfl (fIxv (seqT rfl) rfl at1) (tup2v rfl rfl) (hdd c)) ?_
       simp only [zSet, zk]
       refine Zj (tup2v (fA2 rfl (fIxv (ds := [.int (look c).1, .int (look c).2]) (seqT rfl) rfl at0) max2_) (fIxv (ds := [.int (look c).1, .int (look c).2]) (seqT rfl) rfl at1)) ?_
       show D.tup _ = _
       rw [rowZ, if_neg (by rw [e4.1]; decide), if_neg (by rw [e4.1]; decide), if_neg (by rw [e4.1]; decide), if_pos e4.1, callZ, if_pos hc]; rfl
      ·rw [Zd, zC, zk, zn]
       refine if_b (zF (f2v (x := .tup [k, .int ((k :: ps).length : Nat)]) (tup2v (fIxv (seqT rfl) rfl at0) rfl) (lst2v (tup2v rfl rfl) (tup2v rfl rfl)) (in_el (by simp only [List.length_cons]; omega) hk))) (fun e5 => ?_) (fun e5 => ?_)
       ·refine Zj rfl ?_
        show D.non = _
        cases k with
        | str x =>
         rw [rowZ]
         simp only [kS] at e1 e2 e3 e4 e5
         split
         ·rename_i hx
          rw [if_neg fun z => by rw [z] at e1; simp only [Bool.and_eq_false_iff, Bool.or_eq_false_iff, decide_eq_false_iff_not] at e1; rcases e1 with e1 | e1; exact hx.elim e1.1 e1.2; cases e1]; rfl
         ·split
          ·rename_i hx
           rw [if_neg fun z => by rw [z, decide_eq_true hx] at e2; cases e2]; rfl
          ·split
           ·rename_i hx
            rw [if_neg fun z => ?_]; rfl
            rw [decide_eq_true hx, Bool.true_and] at e3
            by_cases h2 : ps.length = 2
            ·obtain ⟨a, b, rfl⟩ := get_two h2
             rw [two] at z
             have : num 0 (many - 1) a = false := e3
             rw [this] at z; cases z
            ·rw [len_two h2] at z; cases z
           ·split
            ·rename_i hx
             rw [decide_eq_true hx, Bool.true_and] at e4
             have : callZ body look ps = none := by
              rcases ps with _ | ⟨a, _ | ⟨b, t⟩⟩
              ·rfl
              ·cases a with
               | int c => rw [callZ, if_neg (of_decide_eq_false e4)]
               | _ => rfl
              ·cases a <;> rfl
             rw [this]; rfl
            ·rw [if_neg]; rfl
             simp only [List.length_cons] at e5
             rintro (⟨hx, hl2⟩ | ⟨hx, hl2⟩)
             ·rw [decide_eq_true hx, decide_eq_true (show ((ps.length + 1 : Nat) : Int) = 3 by omega)] at e5; cases e5
             ·rw [decide_eq_true hx, decide_eq_true (show ((ps.length + 1 : Nat) : Int) = 2 by omega), Bool.true_and, Bool.or_true] at e5; cases e5
        | _ => rfl
       ·rw [Zd, zC, zk, zn]
        refine set_ rfl ?_
        simp only [zSet, zk]
        rw [zn]
        refine set_ rfl ?_
        simp only [zSet, zk]
        rw [zn, mFor_, seqT (cutFrom_ (k := 1) (ds := k :: ps) (seqT rfl) rfl (by omega) (by simp)), oB]
        cases k with
        | str x =>
         simp only [kS, List.length_cons, Bool.not_eq_false', Bool.or_eq_true, Bool.and_eq_true, decide_eq_true_eq] at e5
         have hx : x = "either" ∧ ps.length = 2 ∨ x = "loop" ∧ ps.length = 1 := by
          rcases e5 with e5 | e5
          ·exact .inl ⟨e5.1, by omega⟩
          ·exact .inr ⟨e5.1, by omega⟩
         have n1 : ¬ (x = "skip" ∨ x = "halt") := by rcases hx with hx | hx <;> (rw [hx.1]; decide)
         have n2 : x ≠ "take" := by rcases hx with hx | hx <;> (rw [hx.1]; decide)
         have n3 : x ≠ "set" := by rcases hx with hx | hx <;> (rw [hx.1]; decide)
         have n4 : x ≠ "call" := by rcases hx with hx | hx <;> (rw [hx.1]; decide)
         rw [rowZ, if_neg n1, if_neg n2, if_neg n3, if_neg n4, if_pos hx]
         exact parts_loop (z4 := .non) ps 0 0 _ _ (h _ _ rfl)
        | _ => cases e5
 | _ => first | cases hp; done | (refine if_t (or_t1 (notv (b := false) (zF (f1v rfl rfl)))) ?_; exact Zj rfl rfl)
theorem size_all {many body : Int} {look : Int → Int × Int} {dd : D} (hdd : Looks dd look) : ∀ (n h : Nat), h < n → h ≤ 60 → (∀ d, zw h d → Hd d = true → (zY n).1 [d, .int many, .int body, dd] = some (enc ((SZ many body look n).1 d))) ∧ ∀ d, zw h d → (zY n).2 [d, .int many, .int body, dd] = some (enc ((SZ many body look n).2 d))
 | 0, h, hn, _ => by omega
 | n + 1, h, hn, hh => by
  rw [show zY (n + 1) = (ZD 4 9 (b'row_size (zY n).1 (zY n).2), ZD 4 8 (b'size (zY n).1 (zY n).2)) by rw [zY]]
  rw [show SZ many body look (n + 1) = (rowZ many body look (SZ many body look n).2, sizeB (SZ many body look n).1) by rw [SZ]]
  refine ⟨fun d hf hd => rowsize_step hf hh hd hdd ?_, fun d hf => size_step hf.pl ?_⟩
  ·rintro k ps rfl p hp
   have := hf.pos
   exact (size_all hdd n (h - 1) (by omega) (by omega)).2 p (hf.tup.2 p (List.mem_cons_of_mem _ hp))
  ·rintro ds rfl r hr
   have := hf.posL
   exact (size_all hdd n (h - 1) (by omega) (by omega)).1 r (hf.lst.2 r hr).1 (hf.lst.2 r hr).2
theorem compD_filter {u : D → Ev → Option Ev} {c : Ev → Option Bool} {e : Ev → Option D} (I : Ev → Prop) (q : D → Bool) : ∀ (ds : List D) (ρ : Ev), I ρ → (∀ d ρ, d ∈ ds → I ρ → ∃ ρ1, u d ρ = some ρ1 ∧ c ρ1 = some (q d) ∧ e ρ1 = some d ∧ I ρ1) → compD u c e ds ρ = some (ds.filter q)
 | [], ρ, _, _ => rfl
 | d :: ds, ρ, hi, h => by
  obtain ⟨ρ1, h1, h2, h3, h4⟩ := h d ρ List.mem_cons_self hi
  have ih := compD_filter I q ds ρ1 h4 fun d' ρ' hd => h d' ρ' (List.mem_cons_of_mem _ hd)
  rw [compD, h1, oB, h2, oB]
  cases hq : q d with
  | true => rw [if_pos rfl, h3, oB, ih, List.filter_cons_of_pos hq]; rfl
  | false => rw [if_neg Bool.false_ne_true, ih, List.filter_cons_of_neg (by rw [hq]; exact Bool.false_ne_true)]
theorem lists_v {ds : List D} (hl : ds.length ≤ 1000) (hp : ∀ d ∈ ds, Pl d = true) : m_lists_in [.tup ds] = some (.lst (ds.filter isL)) := by
 refine Wo.eq ?_
 unfold m_lists_in b_lists_in
 rw [ZF]
 refine ⟨rfl, ?_⟩
 simp only [Zc, zMap, zLen, List.replicate, zApp, Nat.zero_add, Nat.reduceAdd, Nat.reduceSub]
 refine ret_ (d := .lst (ds.filter isL)) ?_ rfl
 rw [fComp_, seqT (ds := ds) rfl, oB]
 have := compD_filter (u := uName 1) (c := zy (f1 (gIsi "list") (ze 1))) (e := ze 1) (fun ρ => ∃ z : Option D, ρ = [some (.tup ds), z]) isL ds [some (.tup ds), none] ⟨_, rfl⟩ (by
  rintro d ρ hd ⟨z, rfl⟩
  exact ⟨_, rfl, zF (f1v rfl (isi_l (hp d hd))), rfl, _, rfl⟩)
 show Option.bind (compD _ _ _ _ [some (.tup ds), none]) _ = _
 rw [this, oB]
 exact dLst_ (size_of (by have := List.length_filter_le isL ds; omega))
section
variable {dd : D}
theorem np_list {r1 r2 : List D → Option D} {ds : List D} (w : D → Int) (hl : ds.length ≤ 100) (h : ∀ r ∈ ds, r2 [r, dd] = some (.int (w r))) : ZD 2 2 (b_new_places r1 r2) [.lst ds, dd] = some (.int (ds.map w).sum) := by
 refine Wo.eq ?_
 unfold b_new_places
 rw [ZF]
 refine ⟨rfl, ?_⟩
 simp only [Zc, zMap, zLen, List.replicate, zApp, Nat.zero_add, Nat.reduceAdd, Nat.reduceSub]
 have ec := comp_v (k := 1) (fl := zu true (ze 0)) (u := uName 2) (e := fA r2 (zc (ze 2) (zc (ze 1) zl))) (ρ := [some (.lst ds), some dd]) (ds := ds) (fun r => .int (w r)) (fun ρ => ∃ z : Option D, ρ = [some (.lst ds), some dd, z])
  (seqL (ds := ds) rfl) (by omega) ⟨none, rfl⟩ (by
   rintro d ρ hd ⟨z, rfl⟩
   exact ⟨_, rfl, rfl, fA2 rfl rfl (h d hd), _, rfl⟩)
 refine ret_ (d := .int (ds.map w).sum) ?_ rfl
 rw [fA_, seqL ec, oB]
 exact (congrArg gSum (show List.map _ ds = (ds.map w).map D.int by rw [List.map_map]; rfl)).trans gSum_
theorem dp_list {r1 r2 : List D → Option D} {ds : List D} (w : D → Int) (hl : ds.length ≤ 100) (h : ∀ r ∈ ds, r2 [r, dd] = some (.int (w r)) ∧ 0 ≤ w r) : ZD 2 2 (b_depth r1 r2) [.lst ds, dd] = some (.int (mx (ds.map w))) := by
 refine Wo.eq ?_
 unfold b_depth
 rw [ZF]
 refine ⟨rfl, ?_⟩
 simp only [Zc, zMap, zLen, List.replicate, zApp, Nat.zero_add, Nat.reduceAdd, Nat.reduceSub]
 have ec := comp_v (k := 1) (fl := zu true (ze 0)) (u := uName 2) (e := fA r2 (zc (ze 2) (zc (ze 1) zl))) (ρ := [some (.lst ds), some dd]) (ds := ds) (fun r => .int (w r)) (fun ρ => ∃ z : Option D, ρ = [some (.lst ds), some dd, z])
  (seqL (ds := ds) rfl) (by omega) ⟨none, rfl⟩ (by
   rintro d ρ hd ⟨z, rfl⟩
   exact ⟨_, rfl, rfl, fA2 rfl rfl (h d hd).1, _, rfl⟩)
 refine ret_ (d := .int (mx (ds.map w))) ?_ rfl
 rw [fA_, seqL ec, oB]
 exact (congrArg (gMaxD 0) (show List.map _ ds = (ds.map w).map D.int by rw [List.map_map]; rfl)).trans (maxD_mx fun x hx => by obtain ⟨y, hy, rfl⟩ := List.mem_map.mp hx; exact (h y hy).2)
theorem np_row {r1 r2 : List D → Option D} {x : Str} {ps : List D} (w : D → Int) (hx : x ≠ "call") (hk : Sc (.str x) = true) (hl : ps.length ≤ 100) (hp : ∀ d ∈ ps, Pl d = true) (h : ∀ r ∈ ps.filter isL, r1 [r, dd] = some (.int (w r))) : ZD 2 2 (b_new_places_of_row r1 r2) [.tup (.str x :: ps), dd] = some (.int (1 + ((ps.filter isL).map w).sum)) := by
 refine Wo.eq ?_
 unfold b_new_places_of_row
 rw [ZF]
 refine ⟨rfl, ?_⟩
 simp only [Zc, zMap, zLen, List.replicate, zApp, Nat.zero_add, Nat.reduceAdd, Nat.reduceSub]
 have hlv : m_lists_in [.tup (.str x :: ps)] = some (.lst (ps.filter isL)) := lists_v (by simp only [List.length_cons]; omega) (fun d hd => by rcases List.mem_cons.mp hd with rfl | hd; exact sc_pl hk; exact hp d hd)
 have ec := comp_v (k := 1) (fl := zu true (fA m_lists_in (zc (ze 0) zl))) (u := uName 2) (e := fA r1 (zc (ze 2) (zc (ze 1) zl))) (ρ := [some (.tup (.str x :: ps)), some dd]) (ds := ps.filter isL) (fun r => .int (w r)) (fun ρ => ∃ z : Option D, ρ = [some (.tup (.str x :: ps)), some dd, z])
  (seqL (fA1 rfl hlv)) (by have := List.length_filter_le isL ps; omega) ⟨none, rfl⟩ (by
   rintro d ρ hd ⟨z, rfl⟩
   exact ⟨_, rfl, rfl, fA2 rfl rfl (h d hd), _, rfl⟩)
 rw [zn]
 refine if_f (zF (f2v (fIxv (seqT rfl) rfl at0) rfl (d := .bl false) (by show some (D.bl (decide (x = "call"))) = _; rw [decide_eq_false hx]))) ?_
 rw [Zd, zC, zk]
 refine ret_ (f2v (y := .int ((ps.filter isL).map w).sum) rfl ?_ add_) rfl
 rw [fA_, seqL ec, oB]
 exact (congrArg gSum (show List.map _ (ps.filter isL) = ((ps.filter isL).map w).map D.int by rw [List.map_map]; rfl)).trans gSum_
theorem dp_row {r1 r2 : List D → Option D} {x : Str} {ps : List D} (w : D → Int) (hx : x ≠ "call") (hk : Sc (.str x) = true) (hl : ps.length ≤ 100) (hp : ∀ d ∈ ps, Pl d = true) (h : ∀ r ∈ ps.filter isL, r1 [r, dd] = some (.int (w r)) ∧ 0 ≤ w r) : ZD 2 2 (b_depth_of_row r1 r2) [.tup (.str x :: ps), dd] = some (.int (1 + mx ((ps.filter isL).map w))) := by
 refine Wo.eq ?_
 unfold b_depth_of_row
 rw [ZF]
 refine ⟨rfl, ?_⟩
 simp only [Zc, zMap, zLen, List.replicate, zApp, Nat.zero_add, Nat.reduceAdd, Nat.reduceSub]
 have hlv : m_lists_in [.tup (.str x :: ps)] = some (.lst (ps.filter isL)) := lists_v (by simp only [List.length_cons]; omega) (fun d hd => by rcases List.mem_cons.mp hd with rfl | hd; exact sc_pl hk; exact hp d hd)
 have ec := comp_v (k := 1) (fl := zu true (fA m_lists_in (zc (ze 0) zl))) (u := uName 2) (e := fA r1 (zc (ze 2) (zc (ze 1) zl))) (ρ := [some (.tup (.str x :: ps)), some dd]) (ds := ps.filter isL) (fun r => .int (w r)) (fun ρ => ∃ z : Option D, ρ = [some (.tup (.str x :: ps)), some dd, z])
  (seqL (fA1 rfl hlv)) (by have := List.length_filter_le isL ps; omega) ⟨none, rfl⟩ (by
   rintro d ρ hd ⟨z, rfl⟩
   exact ⟨_, rfl, rfl, fA2 rfl rfl (h d hd).1, _, rfl⟩)
 rw [zn]
 refine if_f (zF (f2v (fIxv (seqT rfl) rfl at0) rfl (d := .bl false) (by show some (D.bl (decide (x = "call"))) = _; rw [decide_eq_false hx]))) ?_
 rw [Zd, zC, zk]
 refine ret_ (f2v (y := .int (mx ((ps.filter isL).map w))) rfl ?_ add_) rfl
 rw [fA_, seqL ec, oB]
 exact (congrArg (gMaxD 0) (show List.map _ (ps.filter isL) = ((ps.filter isL).map w).map D.int by rw [List.map_map]; rfl)).trans (maxD_mx fun x hx => by obtain ⟨y, hy, rfl⟩ := List.mem_map.mp hx; exact (h y hy).2)
theorem np_call {r1 r2 : List D → Option D} {c v : Int} (h : dGet dd (.int c) = some (.int v)) : ZD 2 2 (b_new_places_of_row r1 r2) [.tup [.str "call", .int c], dd] = some (.int v) := by
 refine Wo.eq ?_
 unfold b_new_places_of_row
 rw [ZF]
 refine ⟨rfl, ?_⟩
 simp only [Zc, zMap, zLen, List.replicate, zApp, Nat.zero_add, Nat.reduceAdd, Nat.reduceSub]
 rw [zn]
 refine if_t (zF (f2v (fIxv (seqT rfl) rfl at0) rfl rfl)) ?_
 exact Zj (f2v rfl (fIxv (seqT rfl) rfl at1) h) rfl
theorem dp_call {r1 r2 : List D → Option D} {c v : Int} (h : dGet dd (.int c) = some (.int v)) : ZD 2 2 (b_depth_of_row r1 r2) [.tup [.str "call", .int c], dd] = some (.int (max 1 v)) := by
 refine Wo.eq ?_
 unfold b_depth_of_row
 rw [ZF]
 refine ⟨rfl, ?_⟩
 simp only [Zc, zMap, zLen, List.replicate, zApp, Nat.zero_add, Nat.reduceAdd, Nat.reduceSub]
 rw [zn]
 refine if_t (zF (f2v (fIxv (seqT rfl) rfl at0) rfl rfl)) ?_
 exact Zj (fA2 rfl (f2v rfl (fIxv (seqT rfl) rfl at1) h) max2_) rfl
end
theorem mx_nn (ns : List Int) : 0 ≤ mx ns := by
 induction ns with
 | nil => simp [mx]
 | cons a ns ih => simp only [mx, List.foldr_cons] at *; omega
theorem sumA_some {P : D → Option (Int × Int)} {v : D → Int × Int} : ∀ (ds : List D) (a : Int × Int), (∀ d ∈ ds, P d = some (v d)) → 0 ≤ a.1 → sumA a (ds.map P) = some (max a.1 (mx (ds.map fun d => (v d).1)), a.2 + (ds.map fun d => (v d).2).sum)
 | [], a, _, h0 => by
  simp only [List.map_nil, sumA, mx, List.foldr_nil, List.sum_nil]
  refine congrArg some (Prod.ext ?_ ?_) <;> simp only <;> omega
 | d :: ds, a, h, h0 => by
  rw [List.map_cons, sumA, h d List.mem_cons_self, oB, sumA_some ds _ (fun x hx => h x (List.mem_cons_of_mem _ hx)) (by simp only; omega)]
  simp only [List.map_cons, mx, List.foldr_cons, List.sum_cons]
  refine congrArg some (Prod.ext ?_ ?_) <;> simp only <;> omega
theorem sumA_inv : ∀ {xs : List (Option (Int × Int))} {a r : Int × Int}, sumA a xs = some r → a.1 ≤ r.1 ∧ ∀ x ∈ xs, ∃ b, x = some b ∧ b.1 ≤ r.1
 | [], a, r, h => by
  rw [sumA] at h
  cases h
  exact ⟨Int.le_refl _, fun x hx => by cases hx⟩
 | x :: xs, a, r, h => by
  rw [sumA] at h
  cases x with
  | none => cases h
  | some b =>
   rw [oB] at h
   obtain ⟨h1, h2⟩ := sumA_inv h
   simp only at h1
   refine ⟨by omega, fun y hy => ?_⟩
   rcases List.mem_cons.mp hy with rfl | hy
   ·exact ⟨b, rfl, by omega⟩
   ·exact h2 y hy
theorem num_int {lo hi : Int} {d : D} (h : num lo hi d = true) : ∃ x, d = .int x ∧ lo ≤ x ∧ x ≤ hi := by
 cases d with
 | int x =>
  simp only [num, Bool.and_eq_true, decide_eq_true_eq] at h
  exact ⟨x, rfl, h⟩
 | _ => cases h
theorem num_flat {lo hi : Int} {d : D} (h : num lo hi d = true) : isL d = false := by obtain ⟨x, rfl, _⟩ := num_int h; rfl
theorem line_flat {many : Int} {d : D} (h : isLine many d = true) : isL d = false := by cases d <;> first | rfl | cases h
theorem rowsB_l {p : D → Bool} {d : D} (h : rowsB p d = true) : ∃ ds, d = .lst ds ∧ ∀ r ∈ ds, p r = true := by
 cases d with
 | lst ds => exact ⟨ds, rfl, List.all_eq_true.mp h⟩
 | _ => cases h
theorem two_inv {p q : D → Bool} {ps : List D} (h : two p q ps = true) : ∃ a b, ps = [a, b] ∧ p a = true ∧ q b = true := by
 by_cases hl : ps.length = 2
 ·obtain ⟨a, b, rfl⟩ := get_two hl
  rw [two, Bool.and_eq_true] at h
  exact ⟨a, b, rfl, h⟩
 ·rw [len_two hl] at h; cases h
theorem one_inv {p : D → Bool} {ps : List D} (h : one p ps = true) : ∃ a, ps = [a] ∧ p a = true := by
 by_cases hl : ps.length = 1
 ·obtain ⟨a, rfl⟩ := get_one hl
  exact ⟨a, rfl, h⟩
 ·rw [len_one hl] at h; cases h
section
variable {many body hi : Int} {look : Int → Int × Int} {d1 d2 : D} (t1 : ∀ k : Int, body + 1 ≤ k → k ≤ hi → dGet d1 (.int k) = some (.int (look k).2)) (t2 : ∀ k : Int, body + 1 ≤ k → k ≤ hi → dGet d2 (.int k) = some (.int (look k).1))
include t1 t2
theorem valid_all : ∀ (n h : Nat), h < n → (∀ d, zw h d → (SR many (body + 1) hi n).1 d = true → ∃ r, (SZ many body look n).2 d = some r ∧ 0 ≤ r.1 ∧ (zE n).1 [d, d1] = some (.int r.2) ∧ (Zr n).1 [d, d2] = some (.int r.1)) ∧ ∀ d, zw h d → Hd d = true → (SR many (body + 1) hi n).2 d = true → ∃ r, (SZ many body look n).1 d = some r ∧ 0 ≤ r.1 ∧ (zE n).2 [d, d1] = some (.int r.2) ∧ (Zr n).2 [d, d2] = some (.int r.1)
 | 0, h, hn => by omega
 | n + 1, h, hn => by
  rw [show zE (n + 1) = (ZD 2 2 (b_new_places (zE n).1 (zE n).2), ZD 2 2 (b_new_places_of_row (zE n).1 (zE n).2)) by rw [zE]]
  rw [show Zr (n + 1) = (ZD 2 2 (b_depth (Zr n).1 (Zr n).2), ZD 2 2 (b_depth_of_row (Zr n).1 (Zr n).2)) by rw [Zr]]
  rw [show SR many (body + 1) hi (n + 1) = (rowsB (SR many (body + 1) hi n).2, rowB many (body + 1) hi (SR many (body + 1) hi n).1) by rw [SR]]
  rw [show SZ many body look (n + 1) = (rowZ many body look (SZ many body look n).2, sizeB (SZ many body look n).1) by rw [SZ]]
  refine ⟨fun d hf hv => ?_, fun d hf hd hv => ?_⟩
  ·obtain ⟨ds, rfl, hr⟩ := rowsB_l hv
   have hpos := hf.posL
   obtain ⟨hl, hfl⟩ := hf.lst
   have ih : ∀ r ∈ ds, ∃ v, (SZ many body look n).1 r = some v ∧ 0 ≤ v.1 ∧ (zE n).2 [r, d1] = some (.int v.2) ∧ (Zr n).2 [r, d2] = some (.int v.1) := fun r hr' =>
    (valid_all n (h - 1) (by omega)).2 r (hfl r hr').1 (hfl r hr').2 (hr r hr')
   have ev : ∀ r ∈ ds, (SZ many body look n).1 r = some (((SZ many body look n).1 r).getD (0, 0)) := fun r hr' => by obtain ⟨v, e, _⟩ := ih r hr'; rw [e]; rfl
   refine ⟨_, sumA_some ds (0, 0) ev (Int.le_refl 0), ?_, ?_, ?_⟩
   ·have := mx_nn (ds.map fun d => (((SZ many body look n).1 d).getD (0, 0)).1); simp only; omega
   ·refine (np_list (fun d => (((SZ many body look n).1 d).getD (0, 0)).2) hl fun r hr' => ?_).trans (by congr 2; simp only; omega)
    obtain ⟨v, e, _, e1, _⟩ := ih r hr'
    rw [e1, e]; rfl
   ·refine (dp_list (fun d => (((SZ many body look n).1 d).getD (0, 0)).1) hl fun r hr' => ?_).trans (by have := mx_nn (ds.map fun d => (((SZ many body look n).1 d).getD (0, 0)).1); congr 2; simp only; omega)
    obtain ⟨v, e, h0, _, e2⟩ := ih r hr'
    rw [e2, e]; exact ⟨rfl, h0⟩
  ·cases d with
   | tup ds =>
    obtain ⟨hl, hfl⟩ := hf.tup
    have hpos := hf.pos
    cases ds with
    | nil => cases hv
    | cons k ps =>
     have hk : Sc k = true := hd
     have hfp : ∀ p ∈ ps, zw (h - 1) p := fun p hp => hfl p (List.mem_cons_of_mem _ hp)
     have hpp : ∀ p ∈ ps, Pl p = true := fun p hp => (hfp p hp).pl
     have hlp : ps.length ≤ 100 := by simp only [List.length_cons] at hl; omega
     cases k with
     | str x =>
      change rowB many (body + 1) hi _ (.tup (.str x :: ps)) = true at hv
      have flat : x ≠ "call" → ps.filter isL = [] → rowZ many body look (SZ many body look n).2 (.tup (.str x :: ps)) = some (1, 1) → ∃ r, rowZ many body look (SZ many body look n).2 (.tup (.str x :: ps)) = some r ∧ 0 ≤ r.1 ∧ ZD 2 2 (b_new_places_of_row (zE n).1 (zE n).2) [.tup (.str x :: ps), d1] = some (.int r.2) ∧ ZD 2 2 (b_depth_of_row (Zr n).1 (Zr n).2) [.tup (.str x :: ps), d2] = some (.int r.1) := fun hx he hz =>
       ⟨(1, 1), hz, by decide, (np_row (fun _ => 0) hx hk hlp hpp (fun r hr => by rw [he] at hr; cases hr)).trans (by rw [he]; rfl), (dp_row (fun _ => 0) hx hk hlp hpp (fun r hr => by rw [he] at hr; cases hr)).trans (by rw [he]; rfl)⟩
      have deep : x ≠ "call" → (∀ p ∈ ps, (SR many (body + 1) hi n).1 p = true) → (rowZ many body look (SZ many body look n).2 (.tup (.str x :: ps)) = (sumA (0, 0) (ps.map (SZ many body look n).2)).map fun r => (1 + r.1, 1 + r.2)) → ∃ r, rowZ many body look (SZ many body look n).2 (.tup (.str x :: ps)) = some r ∧ 0 ≤ r.1 ∧ ZD 2 2 (b_new_places_of_row (zE n).1 (zE n).2) [.tup (.str x :: ps), d1] = some (.int r.2) ∧ ZD 2 2 (b_depth_of_row (Zr n).1 (Zr n).2) [.tup (.str x :: ps), d2] = some (.int r.1) := fun hx hr hz => by
       have ih : ∀ r ∈ ps, ∃ v, (SZ many body look n).2 r = some v ∧ 0 ≤ v.1 ∧ (zE n).1 [r, d1] = some (.int v.2) ∧ (Zr n).1 [r, d2] = some (.int v.1) := fun r hr' =>
        (valid_all n (h - 1) (by omega)).1 r (hfp r hr') (hr r hr')
       have ev : ∀ r ∈ ps, (SZ many body look n).2 r = some (((SZ many body look n).2 r).getD (0, 0)) := fun r hr' => by obtain ⟨v, e, _⟩ := ih r hr'; rw [e]; rfl
       have he : ps.filter isL = ps := List.filter_eq_self.mpr fun r hr' => by
        have hn0 : 0 < n := by
         cases n with
         | zero => have := hr r hr'; rw [SR] at this; cases this
         | succ n => omega
        obtain ⟨m, rfl⟩ : ∃ m, n = m + 1 := ⟨n - 1, by omega⟩
        have := hr r hr'
        rw [SR] at this
        obtain ⟨ds, rfl, _⟩ := rowsB_l this
        rfl
       have nn := mx_nn (ps.map fun d => (((SZ many body look n).2 d).getD (0, 0)).1)
       refine ⟨_, hz.trans (by rw [sumA_some ps (0, 0) ev (Int.le_refl 0)]; rfl), ?_, ?_, ?_⟩
       ·simp only; omega
       ·refine (np_row (fun d => (((SZ many body look n).2 d).getD (0, 0)).2) hx hk hlp hpp (fun r hr' => ?_)).trans (by rw [he]; congr 2; simp only; omega)
        rw [he] at hr'
        obtain ⟨v, e, _, e1, _⟩ := ih r hr'
        rw [e1, e]; rfl
       ·refine (dp_row (fun d => (((SZ many body look n).2 d).getD (0, 0)).1) hx hk hlp hpp (fun r hr' => ?_)).trans (by rw [he]; congr 2; simp only; omega)
        rw [he] at hr'
        obtain ⟨v, e, h0, _, e2⟩ := ih r hr'
        rw [e2, e]; exact ⟨rfl, h0⟩
      by_cases x1 : x = "set"
      ·rw [rowB, if_pos x1] at hv
       have hz : rowZ many body look (SZ many body look n).2 (.tup (.str x :: ps)) = some (1, 1) := by
        rw [rowZ, if_neg (by rw [x1]; decide), if_neg (by rw [x1]; decide), if_pos x1, if_pos hv]
       obtain ⟨a, b, rfl, ha, hb⟩ := two_inv hv
       exact flat (by rw [x1]; decide) (by simp [num_flat ha, line_flat hb]) hz
      ·by_cases x2 : x = "take"
       ·rw [rowB, if_neg x1, if_pos x2] at hv
        have hz : rowZ many body look (SZ many body look n).2 (.tup (.str x :: ps)) = some (1, 1) := by
         rw [rowZ, if_neg (by rw [x2]; decide), if_pos x2, if_pos hv]
        obtain ⟨a, rfl, ha⟩ := one_inv hv
        exact flat (by rw [x2]; decide) (by simp [num_flat ha]) hz
       ·by_cases x3 : x = "skip" ∨ x = "halt"
        ·rw [rowB, if_neg x1, if_neg x2, if_pos x3] at hv
         have hz : rowZ many body look (SZ many body look n).2 (.tup (.str x :: ps)) = some (1, 1) := by
          rw [rowZ, if_pos x3, if_pos hv]
         have hp0 : ps = [] := List.isEmpty_iff.mp hv
         subst hp0
         exact flat (by rcases x3 with x3 | x3 <;> (rw [x3]; decide)) rfl hz
        ·by_cases x4 : x = "either"
         ·rw [rowB, if_neg x1, if_neg x2, if_neg x3, if_pos x4] at hv
          obtain ⟨a, b, rfl, ha, hb⟩ := two_inv hv
          refine deep (by rw [x4]; decide) (fun p hp => ?_) ?_
          ·rcases List.mem_cons.mp hp with rfl | hp
           ·exact ha
           ·rw [List.mem_singleton.mp hp]; exact hb
          ·rw [rowZ, if_neg x3, if_neg x2, if_neg x1, if_neg (by rw [x4]; decide), if_pos (.inl ⟨x4, rfl⟩)]
         ·by_cases x5 : x = "loop"
          ·rw [rowB, if_neg x1, if_neg x2, if_neg x3, if_neg x4, if_pos x5] at hv
           obtain ⟨a, rfl, ha⟩ := one_inv hv
           refine deep (by rw [x5]; decide) (fun p hp => by rw [List.mem_singleton.mp hp]; exact ha) ?_
           rw [rowZ, if_neg x3, if_neg x2, if_neg x1, if_neg (by rw [x5]; decide), if_pos (.inr ⟨x5, rfl⟩)]
          ·by_cases x6 : x = "call"
           ·rw [rowB, if_neg x1, if_neg x2, if_neg x3, if_neg x4, if_neg x5, if_pos x6] at hv
            obtain ⟨a, rfl, ha⟩ := one_inv hv
            obtain ⟨c, rfl, c1, c2⟩ := num_int ha
            have hz : rowZ many body look (SZ many body look n).2 (.tup (.str x :: [.int c])) = some (max 1 (look c).1, (look c).2) := by
             rw [rowZ, if_neg x3, if_neg x2, if_neg x1, if_pos x6, callZ, if_pos (by omega)]
            refine ⟨_, hz, by simp only; omega, ?_, ?_⟩
            ·rw [x6]; exact np_call (t1 c c1 c2)
            ·rw [x6]; exact dp_call (t2 c c1 c2)
           ·rw [rowB, if_neg x1, if_neg x2, if_neg x3, if_neg x4, if_neg x5, if_neg x6] at hv
            cases hv
     | _ => cases hv
   | _ => cases hv
end
theorem strict_all {many body hi : Int} {look : Int → Int × Int} (hl : ∀ k, hi < k → 7 ≤ (look k).1) : ∀ n : Nat, (∀ d r, (SZ many body look n).2 d = some r → r.1 ≤ 6 → (SR many (body + 1) hi n).1 d = true) ∧ ∀ d r, (SZ many body look n).1 d = some r → r.1 ≤ 6 → (SR many (body + 1) hi n).2 d = true
 | 0 => ⟨fun d r h => (by rw [SZ] at h; cases h), fun d r h => (by rw [SZ] at h; cases h)⟩
 | n + 1 => by
  have ih := strict_all hl (many := many) (body := body) n
  rw [show SR many (body + 1) hi (n + 1) = (rowsB (SR many (body + 1) hi n).2, rowB many (body + 1) hi (SR many (body + 1) hi n).1) by rw [SR]]
  rw [show SZ many body look (n + 1) = (rowZ many body look (SZ many body look n).2, sizeB (SZ many body look n).1) by rw [SZ]]
  refine ⟨fun d r h h6 => ?_, fun d r h h6 => ?_⟩
  ·cases d with
   | lst ds =>
    obtain ⟨_, h2⟩ := sumA_inv (show sumA (0, 0) (ds.map _) = some r from h)
    refine List.all_eq_true.mpr fun x hx => ?_
    obtain ⟨b, e, hb⟩ := h2 _ (List.mem_map_of_mem hx)
    exact ih.2 x b e (by omega)
   | _ => cases h
  ·cases d with
   | tup ds =>
    cases ds with
    | nil => cases h
    | cons k ps =>
     cases k with
     | str x =>
      change rowZ many body look _ (.tup (.str x :: ps)) = some r at h
      show rowB many (body + 1) hi _ (.tup (.str x :: ps)) = true
      by_cases x3 : x = "skip" ∨ x = "halt"
      ·rw [rowZ, if_pos x3] at h
       rw [rowB, if_neg (by rcases x3 with x3 | x3 <;> (rw [x3]; decide)), if_neg (by rcases x3 with x3 | x3 <;> (rw [x3]; decide)), if_pos x3]
       by_cases z : ps.isEmpty = true
       ·exact z
       ·rw [if_neg z] at h; cases h
      ·by_cases x2 : x = "take"
       ·rw [rowZ, if_neg x3, if_pos x2] at h
        rw [rowB, if_neg (by rw [x2]; decide), if_pos x2]
        by_cases z : one (num 0 (many - 1)) ps = true
        ·exact z
        ·rw [if_neg z] at h; cases h
       ·by_cases x1 : x = "set"
        ·rw [rowZ, if_neg x3, if_neg x2, if_pos x1] at h
         rw [rowB, if_pos x1]
         by_cases z : two (num 0 (many - 1)) (isLine many) ps = true
         ·exact z
         ·rw [if_neg z] at h; cases h
        ·by_cases x6 : x = "call"
         ·rw [rowZ, if_neg x3, if_neg x2, if_neg x1, if_pos x6] at h
          rw [rowB, if_neg x1, if_neg x2, if_neg x3, if_neg (by rw [x6]; decide), if_neg (by rw [x6]; decide), if_pos x6]
          rcases ps with _ | ⟨a, _ | ⟨b, t⟩⟩
          ·cases h
          ·cases a with
           | int c =>
            rw [callZ] at h
            by_cases hc : body < c
            ·rw [if_pos hc] at h
             cases h
             show (decide (body + 1 ≤ c) && decide (c ≤ hi)) = true
             by_cases hh : c ≤ hi
             ·rw [decide_eq_true (by omega), decide_eq_true hh]; rfl
             ·have := hl c (by omega)
              simp only at h6
              omega
            ·rw [if_neg hc] at h; cases h
           | _ => cases h
          ·cases a <;> cases h
         ·rw [rowZ, if_neg x3, if_neg x2, if_neg x1, if_neg x6] at h
          by_cases hx : x = "either" ∧ ps.length = 2 ∨ x = "loop" ∧ ps.length = 1
          ·rw [if_pos hx] at h
           cases hs : sumA (0, 0) (ps.map (SZ many body look n).2) with
           | none => rw [hs] at h; cases h
           | some s =>
            rw [hs] at h
            cases h
            simp only at h6
            obtain ⟨_, h2⟩ := sumA_inv hs
            have hall : ∀ p ∈ ps, (SR many (body + 1) hi n).1 p = true := fun p hp => by
             obtain ⟨b, e, hb⟩ := h2 _ (List.mem_map_of_mem hp)
             exact ih.1 p b e (by omega)
            rcases hx with ⟨x4, hl2⟩ | ⟨x5, hl2⟩
            ·rw [rowB, if_neg x1, if_neg x2, if_neg x3, if_pos x4]
             obtain ⟨a, b, rfl⟩ := get_two hl2
             rw [two, hall a (by simp), hall b (by simp)]; rfl
            ·rw [rowB, if_neg x1, if_neg x2, if_neg x3, if_neg (by rw [x5]; decide), if_pos x5]
             obtain ⟨a, rfl⟩ := get_one hl2
             exact hall a (by simp)
          ·rw [if_neg hx] at h; cases h
     | _ => cases h
   | _ => cases h
structure Dg (d : D) (m : Nat) (g : Int → Option D) : Prop where
 ex : ∃ ks ds, d = .dict ks ds ∧ ks.length = ds.length ∧ ks.length ≤ m ∧ ∀ j : Int, lookD ks ds (.inl j) = g j
theorem Dg.nil : Dg (.dict [] []) 0 (fun _ => none) := ⟨[], [], rfl, rfl, Nat.le_refl _, fun j => by simp [lookD]⟩
theorem Dg.get {d : D} {m : Nat} {g : Int → Option D} (h : Dg d m g) {j : Int} {v : D} (e : g j = some v) : dGet d (.int j) = some v := by
 obtain ⟨ks, ds, rfl, h1, h2, h3⟩ := h.ex
 exact (h3 j).trans e
theorem Dg.get2 {d : D} {m : Nat} {g : Int → Option D} (h : Dg d m g) (j : Int) (z : D) : gGet2 d (.int j) z = some ((g j).getD z) := by
 obtain ⟨ks, ds, rfl, h1, h2, h3⟩ := h.ex
 show some ((lookD ks ds (.inl j)).getD z) = _
 rw [h3 j]
def upD (g : Int → Option D) (j : Int) (v : D) : Int → Option D := fun k => if k = j then some v else g k
theorem dputG {im : Nat} {fk fv : Ev → Option D} {ρ : Ev} {T : Out → Prop} {d : D} {m : Nat} {g : Int → Option D} {j : Int} {v : D} (ev : fv ρ = some v) (ed : ρ[im]?.join = some d) (ek : fk ρ = some (.int j)) (h : Dg d m g) (hm : m < 1000)
  (k : ∀ d', Dg d' (m + 1) (upD g j v) → T (.nx (ρ.set im (some d')))) : Wo (mDPut im fk fv ρ) T := by
 obtain ⟨ks, ds, rfl, h1, h2, h3⟩ := h.ex
 unfold mDPut
 rw [ev, oB, ed, oB]
 show Wo (Option.bind (some (ks, ds)) _) T
 rw [oB, ek, oB, asI_, oB, if_pos (Nat.lt_of_le_of_lt h2 (Nat.lt_of_lt_of_le hm (by decide)))]
 refine ⟨_, rfl, k _ ⟨_, _, rfl, ?_, ?_, fun i => ?_⟩⟩
 ·unfold putKs putDs
  by_cases z : hasK ks (.inl j) = true
  ·rw [if_pos z, if_pos z]; exact rep_len _ _ h1
  ·rw [if_neg z, if_neg z]; simp [h1]
 ·unfold putKs
  by_cases z : hasK ks (.inl j) = true
  ·rw [if_pos z]; show ks.length ≤ _; omega
  ·rw [if_neg z]
   show (ks ++ [_]).length ≤ _
   simp; omega
 ·unfold putKs putDs upD
  by_cases z : hasK ks (.inl j) = true
  ·rw [if_pos z, if_pos z]
   by_cases e : i = j
   ·rw [if_pos e, e]; exact look_rep_same _ _ h1 z
   ·rw [if_neg e, look_rep_ne _ (fun q => e (Sum.inl.inj q))]; exact h3 i
  ·rw [if_neg z, if_neg z, look_app h1]
   by_cases e : i = j
   ·rw [if_pos e, e, look_none (by simpa using z)]
    simp [lookD]
   ·rw [if_neg e, h3 i]
    have : lookD [(Sum.inl j : Key)] [v] (.inl i) = none := by
     simp only [lookD]
     rw [if_neg (fun q => e (Sum.inl.inj q).symm)]
    rw [this]
    simp
def upL (look : Int → Int × Int) (j : Int) (r : Int × Int) : Int → Int × Int := fun k => if k = j then r else look k
def verd (many : Int) (B : List D) : Nat → (Int → Int × Int) → Bool
 | 0, _ => true
 | j + 1, look => match (SZ many (j : Nat) look 24).2 (B.getD j .non) with
  | none => false
  | some r => if 6 < r.1 ∨ 39 < r.2 then false else verd many B j (upL look (j : Nat) r)
def look0 : Int → Int × Int := fun _ => (7, 0)
theorem verd_valid {many hi : Int} {B : List D} : ∀ (j : Nat) (look : Int → Int × Int), ((j : Nat) : Int) ≤ hi + 1 → (∀ k, hi < k → 7 ≤ (look k).1) → verd many B j look = true → ∀ i, i < j → (SR many ((i : Nat) + 1) hi 24).1 (B.getD i .non) = true
 | 0, look, hj, hk, h, i, hi' => by omega
 | j + 1, look, hj, hk, h, i, hi' => by
  rw [verd] at h
  cases hs : (SZ many (j : Nat) look 24).2 (B.getD j .non) with
  | none => rw [hs] at h; cases h
  | some r =>
   rw [hs] at h
   change (if 6 < r.1 ∨ 39 < r.2 then false else verd many B j (upL look (j : Nat) r)) = true at h
   by_cases hc : 6 < r.1 ∨ 39 < r.2
   ·rw [if_pos hc] at h; cases h
   ·rw [if_neg hc] at h
    by_cases e : i = j
    ·subst e
     exact (strict_all hk 24).1 _ r hs (by omega)
    ·refine verd_valid j _ (by omega) (fun k hk' => ?_) h i (by omega)
     unfold upL
     rw [if_neg (by omega)]; exact hk k hk'
theorem rngDn {f g : Ev → Option D} {ρ : Ev} {n : Nat} (h : f ρ = some (.int ((n : Int) - 1))) (hg : g ρ = some (.int (-1))) (hn : n ≤ 1000) : fRngD f g ρ = some (rangeDn ((n : Int) - 1) n) := by
 unfold fRngD
 rw [h, oB, hg, oB, asI_, oB, asI_, oB, if_pos (by omega)]
 congr 2
 omega
theorem revv {f : Ev → Option D} {ρ : Ev} {n : Nat} (h : f ρ = some (.int (n : Nat))) (hn : n ≤ 1000) : fRevRng f ρ = some (rangeDn ((n : Int) - 1) n) := by
 unfold fRevRng
 rw [h, oB, asI_, oB, if_pos (by omega)]
 congr 2
theorem atB {B : List D} {j : Nat} (h : j < B.length) : atI B ((j : Nat) : Int) = some (B.getD j .non) := atI_nat (by simp [List.getD, h])
theorem mem_getD {B : List D} {j : Nat} (h : j < B.length) : B.getD j .non ∈ B := by
 simp only [List.getD, List.getElem?_eq_getElem h, Option.getD_some]
 exact List.getElem_mem h
section
variable {B : List D} {many : Int} {h : Nat} (hB : ∀ b ∈ B, zw h b) (hh : h ≤ 20) (h1 : 1 ≤ B.length) (h4 : B.length ≤ 4)
include hB hh h1 h4
theorem due_loop {z : D} : Wo (zG (mNew 1 (fC (.dict [] []))) (zG (mFor (fRevRng (fA gLen (zu true (fIx (zu false (ze 0)) (fC (.int 1)))))) (uName 2)
  (zG (Zo 3 (fFlat (fA m'size (zc (fIx (zu true (fIx (zu false (ze 0)) (fC (.int 1)))) (ze 2)) (zc (fIx (zu false (ze 0)) (fC (.int 0))) (zc (ze 2) (zc (ze 1) zl)))))))
  (zG (mIf (fOr (zy (f2 dIsN (ze 3) (fC .non))) (fOr (zy (f2 dGt (fIx (zu false (ze 3)) (fC (.int 0))) (fC (.int 6)))) (zy (f2 dGt (fIx (zu false (ze 3)) (fC (.int 1))) (fC (.int 39))))))
  (Zb (fC (.bl false)))
  Zl)
  (mDPut 1 (ze 2) (ze 3)))))
  (Zb (fC (.bl true)))) [some (.tup [.int many, .lst B]), none, none, none]) (Back fun x => x = .bl (verd many B B.length look0)) := by
 rw [zn]
 refine new_ rfl (by simp) ?_
 simp only [zSet, zk]
 have eB : ∀ ρ : Ev, ρ[0]?.join = some (.tup [.int many, .lst B]) → fIx (zu false (ze 0)) (fC (.int 1)) ρ = some (.lst B) := fun ρ e => fIxv (seqT (f := ze 0) e) rfl at1
 have eM : ∀ ρ : Ev, ρ[0]?.join = some (.tup [.int many, .lst B]) → fIx (zu false (ze 0)) (fC (.int 0)) ρ = some (.int many) := fun ρ e => fIxv (seqT (f := ze 0) e) rfl at0
 rw [zn, mFor_, revv (n := B.length) (by rw [fA_, seqL (eB _ rfl), oB]; rfl) (by omega), oB]
 refine wo_for (fun i ρ => i ≤ B.length ∧ ∃ (dd : D) (g : Int → Option D) (look : Int → Int × Int) (z2 z3 : Option D), ρ = [some (.tup [.int many, .lst B]), some dd, z2, z3] ∧ Dg dd i g ∧ (∀ k, (g k).getD (.tup [.int 7, .int 0]) = .tup [.int (look k).1, .int (look k).2]) ∧ verd many B B.length look0 = verd many B (B.length - i) look) ⟨Nat.zero_le _, _, _, look0, _, _, rfl, Dg.nil, fun k => rfl, rfl⟩ ?_ ?_
 ·rintro i e ρ he ⟨hi, dd, g, look, z2, z3, rfl, hd, hg, hv⟩
  obtain ⟨hin, rfl⟩ := rangeDn_get he
  have ej : (B.length : Int) - 1 - (i : Nat) = ((B.length - 1 - i : Nat) : Int) := by omega
  rw [ej, uName_, zC]
  simp only [zSet]
  have hj : B.length - 1 - i < B.length := by omega
  rw [show B.length - i = (B.length - 1 - i) + 1 by omega, verd] at hv
  have hsz := (size_all (many := many) (body := ((B.length - 1 - i : Nat) : Int)) (look := look) (dd := dd) (fun k => by rw [hd.get2 k, hg k]) 24 h (by omega) (by omega)).2 _ (hB _ (mem_getD hj))
  have hnx : B.length - (i + 1) = B.length - 1 - i := by omega
  generalize hjj : B.length - 1 - i = j at *
  rw [zn]
  cases hs : (SZ many (j : Nat) look 24).2 (B.getD j .non) with
  | none =>
   rw [hs] at hv hsz
   refine set_ (flatv (fA4 (fIxv (seqL (eB _ rfl)) rfl (atB hj)) (eM _ rfl) rfl rfl hsz) rfl) ?_
   simp only [zSet, zk]
   rw [zn]
   refine if_t (or_t1 (zF (f2v rfl rfl isN_))) ?_
   refine Zj rfl ?_
   show D.bl false = _
   rw [hv]
  | some r =>
   rw [hs] at hv hsz
   change verd many B B.length look0 = (if 6 < r.1 ∨ 39 < r.2 then false else verd many B j (upL look (j : Nat) r)) at hv
   refine set_ (flatv (fA4 (fIxv (seqL (eB _ rfl)) rfl (atB hj)) (eM _ rfl) rfl rfl hsz) rfl) ?_
   simp only [zSet, zk]
   rw [zn]
   refine if_b (orv (a := false) (zF (f2v rfl rfl isN_)) fun _ => orv (zF (f2v (fIxv (ds := [.int r.1, .int r.2]) (seqT rfl) rfl at0) rfl gt_)) fun _ => zF (f2v (fIxv (ds := [.int r.1, .int r.2]) (seqT rfl) rfl at1) rfl gt_)) (fun e => ?_) (fun e => ?_)
   ·simp only [Bool.false_or, Bool.or_eq_true, decide_eq_true_eq] at e
    refine Zj rfl ?_
    show D.bl false = _
    rw [hv, if_pos e]
   ·simp only [Bool.false_or, Bool.or_eq_false_iff, decide_eq_false_iff_not] at e
    rw [if_neg (fun z => z.elim e.1 e.2)] at hv
    rw [Zd, zC, zk]
    refine dputG rfl rfl rfl hd (by omega) fun d' hd' => ?_
    simp only [zSet]
    refine ⟨by omega, d', _, upL look (j : Nat) r, _, _, rfl, hd', fun k => ?_, by rw [hv, hnx]⟩
    unfold upD upL
    by_cases ek : k = (j : Nat)
    ·rw [if_pos ek, if_pos ek]; rfl
    ·rw [if_neg ek, if_neg ek]; exact hg k
 ·rintro ρ ⟨-, dd, g, look, z2, z3, rfl, hd, hg, hv⟩
  rw [rangeDn_length, Nat.sub_self, verd] at hv
  rw [zk]
  exact ret_ rfl (by rw [hv])
theorem keep_v (hv : ∀ i, i < B.length → (SR many ((i : Nat) + 1) ((B.length : Nat) - 1 : Int) 24).1 (B.getD i .non) = true) : m_all_keep_bounds [.lst B] = some (.bl (verd many B B.length look0)) := by
 refine Wo.eq ?_
 unfold m_all_keep_bounds b_all_keep_bounds
 rw [ZF]
 refine ⟨rfl, ?_⟩
 simp only [Zc, zMap, zLen, List.replicate, zApp, Nat.zero_add, Nat.reduceAdd, Nat.reduceSub]
 rw [zn]
 refine new_ rfl (by simp) ?_
 simp only [zSet, zk]
 rw [zn]
 refine new_ rfl (by simp) ?_
 simp only [zSet, zk]
 rw [zn, mFor_, rngDn (n := B.length) (f2v (x := .int (B.length : Nat)) (by rw [fA_, seqL (f := ze 0) (ds := B) rfl, oB]; rfl) rfl sub_) rfl (by omega), oB]
 refine wo_for (fun i ρ => i ≤ B.length ∧ ∃ (d1 d2 : D) (g1 g2 : Int → Option D) (look : Int → Int × Int) (z3 : Option D), ρ = [some (.lst B), some d1, some d2, z3] ∧ Dg d1 i g1 ∧ Dg d2 i g2 ∧ (∀ k : Int, (B.length : Int) - (i : Nat) ≤ k → k < (B.length : Nat) → g1 k = some (.int (look k).2) ∧ g2 k = some (.int (look k).1)) ∧ verd many B B.length look0 = verd many B (B.length - i) look) ⟨Nat.zero_le _, _, _, _, _, look0, _, rfl, Dg.nil, Dg.nil, fun k k1 k2 => by omega, rfl⟩ ?_ ?_
 ·rintro i e ρ he ⟨hi, d1, d2, g1, g2, look, z3, rfl, c1, c2, hg, hv'⟩
  obtain ⟨hin, rfl⟩ := rangeDn_get he
  have ej : (B.length : Int) - 1 - (i : Nat) = ((B.length - 1 - i : Nat) : Int) := by omega
  rw [ej, uName_, zC]
  simp only [zSet]
  have hj : B.length - 1 - i < B.length := by omega
  rw [show B.length - i = (B.length - 1 - i) + 1 by omega, verd] at hv'
  obtain ⟨r, hs, h0, v1, v2⟩ := (valid_all (many := many) (body := ((B.length - 1 - i : Nat) : Int)) (hi := ((B.length : Nat) : Int) - 1) (look := look) (fun k a b => c1.get (hg k (by omega) (by omega)).1) (fun k a b => c2.get (hg k (by omega) (by omega)).2) 24 h (by omega)).1 _ (hB _ (mem_getD hj)) (hv _ hj)
  have hnx : B.length - (i + 1) = B.length - 1 - i := by omega
  have hjj' : ((B.length - 1 - i : Nat) : Int) = (B.length : Int) - (i + 1 : Nat) := by omega
  generalize hjj : B.length - 1 - i = j at *
  rw [hs] at hv'
  change verd many B B.length look0 = (if 6 < r.1 ∨ 39 < r.2 then false else verd many B j (upL look (j : Nat) r)) at hv'
  rw [zn]
  refine dputG (flatv (fA2 (fIxv (ds := B) (seqL rfl) rfl (atB hj)) rfl v1) rfl) rfl rfl c1 (by omega) fun d1' c1' => ?_
  simp only [zSet, zk]
  rw [zn]
  refine dputG (flatv (fA2 (fIxv (ds := B) (seqL rfl) rfl (atB hj)) rfl v2) rfl) rfl rfl c2 (by omega) fun d2' c2' => ?_
  simp only [zSet, zk]
  have k1 := c1'.get (j := (j : Nat)) (if_pos rfl)
  have k2 := c2'.get (j := (j : Nat)) (if_pos rfl)
  refine if_b (orv (zF (f2v (f2v (f2v rfl rfl k1) rfl add_) rfl gt_)) fun _ => zF (f2v (f2v rfl rfl k2) rfl gt_)) (fun e => ?_) (fun e => ?_)
  ·simp only [Bool.or_eq_true, decide_eq_true_eq] at e
   refine Zj rfl ?_
   show D.bl false = _
   rw [hv', if_pos (by omega)]
  ·simp only [Bool.or_eq_false_iff, decide_eq_false_iff_not] at e
   rw [if_neg (by omega)] at hv'
   refine ⟨_, rfl, by omega, d1', d2', _, _, upL look (j : Nat) r, _, rfl, c1', c2', fun k q1 q2 => ?_, by rw [hv', hnx]⟩
   unfold upD upL
   by_cases ek : k = (j : Nat)
   ·rw [if_pos ek, if_pos ek, if_pos ek]; exact ⟨rfl, rfl⟩
   ·rw [if_neg ek, if_neg ek, if_neg ek]; exact hg k (by omega) q2
 ·rintro ρ ⟨-, d1, d2, g1, g2, look, z3, rfl, c1, c2, hg, hv'⟩
  rw [rangeDn_length, Nat.sub_self, verd] at hv'
  rw [zk]
  exact ret_ rfl (by rw [hv'])
end
def V : D → Bool
 | .tup [.int many, .lst B] => if (0 ≤ many ∧ many ≤ 6) ∧ 1 ≤ B.length ∧ B.length ≤ 4 then verd many B B.length look0 else false
 | _ => false
theorem V_len {ds : List D} (h : ds.length ≠ 2) : V (.tup ds) = false := by
 rcases ds with _ | ⟨a, _ | ⟨b, _ | ⟨c, t⟩⟩⟩
 ·rfl
 ·cases a <;> rfl
 ·exact absurd rfl h
 ·cases a <;> try rfl
  cases b <;> rfl
theorem inR2v {fe fa fb : Ev → Option D} {ρ : Ev} {x m m' : Int} (h1 : fe ρ = some (.int x)) (h2 : fa ρ = some (.int m)) (h3 : fb ρ = some (.int m')) (neg : Bool) : fInR2 neg fe fa fb ρ = some (inR neg m m' x) := by
 unfold fInR2
 rw [h1, oB, asI_, oB, h2, oB, asI_, oB, h3, oB, asI_]; rfl
theorem due_v {h : Nat} {d : D} (hf : zw h d) (hh : h ≤ 20) : m'due [d] = some (.bl (V d)) := by
 have hp := hf.pl
 refine Wo.eq ?_
 unfold m'due b'due
 rw [ZF]
 refine ⟨rfl, ?_⟩
 simp only [Zc, zMap, zLen, List.replicate, zApp, Nat.zero_add, Nat.reduceAdd, Nat.reduceSub]
 rw [zn]
 cases d with
 | tup ds =>
  obtain ⟨hl, hfl⟩ := hf.tup
  by_cases h2 : ds.length = 2
  ·obtain ⟨a, b, rfl⟩ := get_two h2
   have ha := hfl a (by simp)
   have hb := hfl b (by simp)
   have hpa := ha.pl
   have c1 : fOr (fNot (zy (f1 (gIsi "tuple") (ze 0)))) (fOr (zy (f2 dNeS (fA gLen (zu false (ze 0))) (fC (.int 2)))) (fOr (fNot (zy (fA m'whole (zc (fIx (zu false (ze 0)) (fC (.int 0))) zl)))) (fInR1 true (fIx (zu false (ze 0)) (fC (.int 0))) (fC (.int 7))))) [some (.tup [a, b]), none, none, none] = some (!num 0 6 a) := by
    refine Eq.trans (b := some (false || (false || (!num 0 6 a)))) ?_ (by rw [Bool.false_or, Bool.false_or])
    refine orv (notv (b := true) (zF (f1v rfl rfl))) fun _ => orv (zF (f2v (x := .int 2) rfl rfl rfl)) fun _ => ?_
    cases a with
    | int x =>
     refine (orv (a := false) (notv (b := true) (zF (fA1 (fIxv (seqT rfl) rfl at0) (whole_v hpa)))) fun _ => inR1v (fIxv (seqT rfl) rfl at0) rfl true).trans ?_
     rw [Bool.false_or]
     congr 1
     show (!decide (0 ≤ x ∧ x < 7)) = !(decide (0 ≤ x) && decide (x ≤ 6))
     congr 1
     by_cases h0 : 0 ≤ x
     ·by_cases h1 : x < 7
      ·rw [decide_eq_true ⟨h0, h1⟩, decide_eq_true h0, decide_eq_true (by omega)]; rfl
      ·rw [decide_eq_false (fun z => h1 z.2), decide_eq_true h0, decide_eq_false (by omega)]; rfl
     ·rw [decide_eq_false (fun z => h0 z.1), decide_eq_false h0]; rfl
    | _ => first | cases hpa; done | exact or_t1 (notv (b := false) (zF (fA1 (fIxv (seqT rfl) rfl at0) (whole_v hpa))))
   refine if_b c1 (fun e => ?_) (fun e => ?_)
   ·refine Zj rfl ?_
    show D.bl false = _
    cases a with
    | int x =>
     cases b with
     | lst B =>
      rw [V, if_neg]
      rintro ⟨⟨z1, z2⟩, -⟩
      rw [num, decide_eq_true z1, decide_eq_true z2] at e
      cases e
     | _ => rfl
    | _ => rfl
   ·rw [Zd, zC, zk]
    simp only [Bool.not_eq_false'] at e
    obtain ⟨many, rfl, m0, m6⟩ := num_int e
    rw [zn]
    have hpb := hb.pl
    cases b with
    | lst B =>
     have eB : fIx (zu false (ze 0)) (fC (.int 1)) [some (.tup [.int many, .lst B]), none, none, none] = some (.lst B) := fIxv (seqT rfl) rfl at1
     refine if_b (orv (a := false) (notv (b := true) (zF (f1v eB rfl))) fun _ => inR2v (x := (B.length : Nat)) (by rw [fA_, seqL eB, oB]; rfl) rfl rfl true) (fun e' => ?_) (fun e' => ?_)
     ·refine Zj rfl ?_
      show D.bl false = _
      rw [Bool.false_or, inR, if_pos rfl, Bool.not_eq_true', decide_eq_false_iff_not] at e'
      rw [V, if_neg]
      rintro ⟨-, z1, z2⟩
      exact e' ⟨by omega, by omega⟩
     ·rw [Bool.false_or, inR, if_pos rfl, Bool.not_eq_false', decide_eq_true_eq] at e'
      rw [Zd, zC, zk]
      have l1 : 1 ≤ B.length := by omega
      have l4 : B.length ≤ 4 := by omega
      rw [V, if_pos ⟨⟨m0, m6⟩, l1, l4⟩]
      exact due_loop (h := h) (fun b' hb' => ((hb.lst).2 b' hb').1.mono (by omega)) hh l1 l4 (z := .non)
    | _ => first | cases hpb; done | (refine if_t (or_t1 (notv (b := false) (zF (f1v (fIxv (seqT rfl) rfl at1) rfl)))) ?_; exact Zj rfl rfl)
  ·refine if_t (or_t2 (notv (b := true) (zF (f1v rfl rfl))) (or_t1 (zF (f2v (x := .int (ds.length : Nat)) rfl rfl (by rw [dNeS_, decide_eq_false (by omega)]; rfl))))) ?_
   refine Zj rfl ?_
   show D.bl false = _
   rw [V_len h2]
 | _ => first | cases hp; done | (refine if_t (or_t1 (notv (b := false) (zF (f1v rfl rfl)))) ?_; exact Zj rfl rfl)
theorem is_program_v {h : Nat} {d : D} (hf : zw h d) (hh : h ≤ 20) : m_is_program [d] = some (.bl (V d)) := by
 have hp := hf.pl
 refine Wo.eq ?_
 unfold m_is_program b_is_program
 rw [ZF]
 refine ⟨rfl, ?_⟩
 simp only [Zc, zMap, zLen, List.replicate, zApp, Nat.zero_add, Nat.reduceAdd, Nat.reduceSub]
 rw [zn]
 refine if_b (notv (zF (fA2 rfl rfl (has_v hp 2)))) (fun e => ?_) (fun e => ?_)
 ·refine Zj rfl ?_
  show D.bl false = _
  cases d with
  | tup ds =>
   rw [hasN, Bool.not_eq_true', decide_eq_false_iff_not] at e
   rw [V_len (by omega)]
  | _ => rfl
 ·rw [Zd, zC, zk]
  cases d with
  | tup ds =>
   rw [hasN, Bool.not_eq_false', decide_eq_true_eq] at e
   obtain ⟨a, b, rfl⟩ := get_two (ps := ds) (by omega)
   obtain ⟨hl, hfl⟩ := hf.tup
   have ha := hfl a (by simp)
   have hb := hfl b (by simp)
   rw [zn]
   refine set_ (fIxv (seqT rfl) rfl at0) ?_
   simp only [zSet, zk]
   rw [zn]
   refine set_ (fIxv (seqT rfl) rfl at1) ?_
   simp only [zSet, zk]
   rw [zn]
   refine if_b (orv (notv (zF (fA3 rfl rfl rfl (num_v ha.pl 0 6)))) fun _ => notv (zF (f1v rfl (isi_l hb.pl)))) (fun e' => ?_) (fun e' => ?_)
   ·refine Zj rfl ?_
    show D.bl false = _
    cases a with
    | int x =>
     cases b with
     | lst B =>
      rw [V, if_neg]
      rintro ⟨⟨z1, z2⟩, -⟩
      rw [num, decide_eq_true z1, decide_eq_true z2] at e'
      cases e'
     | _ => rfl
    | _ => rfl
   ·simp only [Bool.or_eq_false_iff, Bool.not_eq_false'] at e'
    obtain ⟨many, rfl, m0, m6⟩ := num_int e'.1
    rw [Zd, zC, zk]
    cases b with
    | lst B =>
     have el : ∀ ρ : Ev, ρ[2]?.join = some (.lst B) → fA gLen (zu true (ze 2)) ρ = some (.int (B.length : Nat)) := fun ρ h => by
      rw [fA_, seqL (f := ze 2) (ds := B) h, oB]; rfl
     rw [zn]
     refine if_b (notv (zF (chainv rfl (el _ rfl) le_ rfl le_))) (fun e2 => ?_) (fun e2 => ?_)
     ·refine Zj rfl ?_
      show D.bl false = _
      simp only [Bool.not_eq_true', Bool.and_eq_false_iff, decide_eq_false_iff_not] at e2
      rw [V, if_neg]
      rintro ⟨-, z1, z2⟩
      omega
     ·simp only [Bool.not_eq_false', Bool.and_eq_true, decide_eq_true_eq] at e2
      have l1 : 1 ≤ B.length := by omega
      have l4 : B.length ≤ 4 := by omega
      have eV : V (.tup [.int many, .lst B]) = verd many B B.length look0 := by rw [V, if_pos ⟨⟨m0, m6⟩, l1, l4⟩]
      have hB : ∀ b ∈ B, zw h b := fun b' hb' => ((hb.lst).2 b' hb').1.mono (by omega)
      rw [eV, Zd, zC, zk, zn, mFor_]
      have ee : fEnum (zu true (ze 2)) [some (.tup [.int many, .lst B]), some (.int many), some (.lst B), none, none] = some (enumD B) := rfl
      rw [ee, oB]
      refine wo_for (fun i ρ => (∀ j, j < i → (SR many ((j : Nat) + 1) ((B.length : Nat) - 1 : Int) 24).1 (B.getD j .non) = true) ∧ ∃ a b : Option D, ρ = [some (.tup [.int many, .lst B]), some (.int many), some (.lst B), a, b]) ⟨fun j hj => by omega, _, _, rfl⟩ ?_ ?_
      ·rintro i d ρ hd ⟨hI, a, b, rfl⟩
       have hi : i < B.length := by
        have := (List.getElem?_eq_some_iff.mp hd).1
        rwa [enumD_len] at this
       rw [enumD_at hi] at hd
       cases hd
       have eb : B[i]'hi = B.getD i .non := by simp [List.getD, hi]
       rw [eb]
       show Wo (some [some (.tup [.int many, .lst B]), some (.int many), some (.lst B), some (.int (i : Nat)), some (B.getD i .non)]) _
       rw [zC]
       have hr := (rows_all (many := many) (lo := (i : Nat) + 1) (hi := (B.length : Nat) - 1) 24 h (by omega)).1 _ (hB _ (mem_getD hi))
       refine if_b (notv (zF (fA4 (g := m_are_rows) rfl rfl (f2v rfl rfl add_) (f2v (el _ rfl) rfl sub_) hr))) (fun e3 => ?_) (fun e3 => ?_)
       ·refine Zj rfl ?_
        show D.bl false = _
        rw [Bool.not_eq_true'] at e3
        cases hv : verd many B B.length look0 with
        | false => rfl
        | true =>
         have := verd_valid (hi := (B.length : Nat) - 1) B.length look0 (by omega) (fun k _ => by show (7 : Int) ≤ 7; omega) hv i hi
         rw [e3] at this; cases this
       ·rw [Bool.not_eq_false'] at e3
        refine ⟨_, rfl, fun j hj => ?_, _, _, rfl⟩
        by_cases ej : j = i
        ·rw [ej]; exact e3
        ·exact hI j (by omega)
      ·rintro ρ ⟨hI, a, b, rfl⟩
       rw [enumD_len] at hI
       rw [zk]
       exact ret_ (fA1 rfl (keep_v hB hh l1 l4 hI)) rfl
    | _ => cases e'.2
  | _ => cases e
mutual
def wt : D → Nat
 | .tup ds => wts ds
 | .lst ds => wts ds
 | _ => 8
def wts : List D → Nat
 | [] => 0
 | d :: ds => wt d + 1 + wts ds
end
theorem names_sz : names.all (fun x => decide (x.cps.size ≤ 8) && x.cps.toList.all fun c => decide (c < 16 ^ 8)) = true := by decide +kernel
theorem repr_len (i : Int) (h : i.natAbs ≤ 10 ^ 50) : (PyData.int i).shown.length ≤ 60 := by
  rw [PyData.shown]
  have key : ∀ n : Nat, n ≤ 10 ^ 50 → (Str.ofString (toString (n : Int))).length ≤ 51 := fun n hn =>
    PyProof.Rows.toString_length_le (k := 51) (Int.natCast_nonneg n) (by decide) (by
      have : (n : Int) ≤ ((10 ^ 50 : Nat) : Int) := Int.ofNat_le.mpr hn
      have e : ((10 ^ 50 : Nat) : Int) < 10 ^ 51 := by decide
      exact Int.lt_of_le_of_lt this e)
  cases i with
  | ofNat n => exact Nat.le_trans (key n h) (by decide)
  | negSucc n =>
    have h1 := key (n + 1) (by have : (Int.negSucc n).natAbs = n + 1 := rfl
                               omega)
    rw [PySem.ofString_length] at h1 ⊢
    have e : toString (Int.negSucc n) = "-" ++ toString ((n + 1 : Nat) : Int) := rfl
    rw [e, String.length_append]
    have : "-".length = 1 := by decide
    omega
theorem log_ok (i : Int) (h : i.natAbs ≤ 10 ^ 50) : i.natAbs.log2 < 1920 := by
 by_cases h0 : i.natAbs = 0
 ·rw [h0]; decide
 ·exact (Nat.log2_lt h0).mpr (Nat.lt_of_le_of_lt h (by decide +kernel))
structure Sw (p : PyData) (w : Nat) : Prop where
 sh : p.showable = true
 nd : p.hasDict = false
 sl : PyData.leavesShort 60 p = true
 bk : p.bulk ≤ w
theorem wt_sc {d : D} (h : Sc d = true) : wt d = 8 := by cases d <;> first | cases h; done | simp [wt]
theorem sc_sw {d : D} (h : Sc d = true) : Sw (zV d) (wt d) := by
 cases d with
 | non => rw [zV, wt_sc h]; exact ⟨by rw [PyData.showable], by rw [PyData.hasDict], by rw [PyData.leavesShort], by rw [PyData.bulk]; omega⟩
 | bl b => rw [zV, wt_sc h]; exact ⟨by rw [PyData.showable], by rw [PyData.hasDict], by rw [PyData.leavesShort], by rw [PyData.bulk]; omega⟩
 | int i =>
  have hi : i.natAbs ≤ 10 ^ 50 := of_decide_eq_true h
  rw [zV, wt_sc h]
  exact ⟨by rw [PyData.showable]; exact decide_eq_true (log_ok i hi), by rw [PyData.hasDict], by rw [PyData.leavesShort]; exact decide_eq_true (repr_len i hi), by rw [PyData.bulk]; omega⟩
 | str x =>
  have hx := List.all_eq_true.mp names_sz x (by simpa [Sc] using h)
  rw [Bool.and_eq_true, decide_eq_true_eq] at hx
  rw [zV, wt_sc h]
  exact ⟨by rw [PyData.showable], by rw [PyData.hasDict], by rw [PyData.leavesShort]; exact hx.2, by rw [PyData.bulk]; exact hx.1⟩
 | _ => cases h
theorem all_sw : ∀ {ds : List D}, (∀ r ∈ ds, Sw (zV r) (wt r)) → PyData.showableAll (Zy ds) = true ∧ PyData.hasDictAll (Zy ds) = false ∧ PyData.leavesShortAll 60 (Zy ds) = true ∧ PyData.bulkAll (Zy ds) ≤ wts ds
 | [], _ => ⟨by rw [Zy, PyData.showableAll], by rw [Zy, PyData.hasDictAll], by rw [Zy, PyData.leavesShortAll], by rw [Zy, PyData.bulkAll]; omega⟩
 | d :: ds, h => by
  have h1 := h d List.mem_cons_self
  obtain ⟨a, b, c, e⟩ := all_sw fun r hr => h r (List.mem_cons_of_mem _ hr)
  have := h1.bk
  rw [Zy, PyData.showableAll, PyData.hasDictAll, PyData.leavesShortAll, PyData.bulkAll, wts, h1.sh, h1.nd, h1.sl, a, b, c]
  exact ⟨rfl, rfl, rfl, by omega⟩
theorem zw.sw : ∀ {n : Nat} {d : D}, zw n d → Sw (zV d) (wt d)
 | 0, d, h => sc_sw h
 | n + 1, d, h => by
  rcases h with h | ⟨ds, rfl, hl, h⟩ | ⟨ds, rfl, hl, h⟩
  ·exact sc_sw h
  ·obtain ⟨a, b, c, e⟩ := all_sw fun r hr => (h r hr).sw
   rw [zV, wt]
   exact ⟨by rw [PyData.showable]; exact a, by rw [PyData.hasDict]; exact b, by rw [PyData.leavesShort]; exact c, by rw [PyData.bulk]; exact e⟩
  ·obtain ⟨a, b, c, e⟩ := all_sw fun r hr => (h r hr).1.sw
   rw [zV, wt]
   exact ⟨by rw [PyData.showable]; exact a, by rw [PyData.hasDict]; exact b, by rw [PyData.leavesShort]; exact c, by rw [PyData.bulk]; exact e⟩
theorem zw.shown {n : Nat} {d : D} (h : zw n d) (hn : n ≤ 20) (hw : wt d ≤ 200000) : shOk d = true := by
 obtain ⟨a, b⟩ := h.lay
 have s := h.sw
 have h1 := PyData.shown_le_bulk 60 (by omega) _ s.sl
 have h2 := s.bk
 unfold shOk
 rw [a, s.sh, s.nd, decide_eq_true (by omega), decide_eq_true (by
  have : 62 * 200000 + 60 ≤ sizeLine := by decide
  have h3 : (60 + 2) * (zV d).bulk ≤ (60 + 2) * 200000 := Nat.mul_le_mul_left _ (by omega)
  omega)]
 rfl
theorem str_self (s : Str) : dEqS (.str s) (.str s) = some (.bl true) := by
 show some (D.bl (decide (s = s))) = _
 rw [decide_eq_true rfl]
theorem told_v {n : Nat} {d : D} (h : zw n d) (hn : n ≤ 20) (hw : wt d ≤ 200000) : m'told [d] = some (.bl true) := by
 have hs := h.shown hn hw
 have er : gRepr [d] = some (.str (zV d).shown) := by
  show (if shOk d = true then _ else _) = _
  rw [if_pos hs]
 have ep := is_program_v h hn
 have ed := due_v h hn
 generalize (zV d).shown = s at er
 generalize V d = w at ep ed
 refine Wo.eq ?_
 unfold m'told b'told
 rw [ZF]
 refine ⟨rfl, ?_⟩
 simp only [Zc, zMap, zLen, List.replicate, zApp, Nat.zero_add, Nat.reduceAdd, Nat.reduceSub]
 rw [zn]
 refine set_ (flatv (fA1 rfl er) rfl) ?_
 simp only [zSet, zk]
 rw [zn]
 refine set_ (fA1 rfl ep) ?_
 simp only [zSet, zk]
 exact ret_ (andV_ (b := true) (c := true) (f1v rfl rfl) fun _ => andV_ (b := true) (c := true) (f2v rfl (fA1 rfl ed) (by cases w <;> rfl)) fun _ => f2v (fA1 rfl er) rfl (str_self s)) rfl
theorem cell_ok (ns : List Int) (k : Int) (h0 : 0 ≤ k) (hk : k ≤ 1000) : ∃ v : Int, m'cell [.scr ns, .int k] = some (.int v) := by
 suffices h : Wo (m'cell [.scr ns, .int k]) fun d => ∃ v : Int, d = .int v by
  obtain ⟨d, e, v, rfl⟩ := h
  exact ⟨v, e⟩
 unfold m'cell b'cell
 rw [ZF]
 refine ⟨rfl, ?_⟩
 simp only [Zc, zMap, zLen, List.replicate, zApp, Nat.zero_add, Nat.reduceAdd, Nat.reduceSub]
 have el : ∀ ρ : Ev, ρ[0]?.join = some (.scr ns) → fA gLen (zu true (ze 0)) ρ = some (.int (ns.length : Nat)) := fun ρ h => by
  rw [fA_, fSeq_, show ze 0 ρ = some (.scr ns) from h, oB]
  show gLen (ns.map D.int) = _
  rw [gLen_, List.length_map]
 have tail : ∀ v : Int, Wo (zG (Zo 2 (f2 dMod (f2 dMul (ze 2) (ze 2)) (fC (.int 2147483629)))) (Zb (f2 dMod (f2 dMul (f2 dAdd (ze 2) (fC (.int 11))) (f2 dAdd (ze 2) (fC (.int 3)))) (fC (.int 2147483587)))) [some (.scr ns), some (.int k), some (.int v)]) (Back fun d => ∃ v : Int, d = .int v) ∨ ¬ (-(2 ^ 64) < v ∧ v < 2 ^ 64) := fun v => by
  by_cases hv : -(2 ^ 64) < v ∧ v < 2 ^ 64
  ·left
   rw [zn]
   refine set_ (f2v (f2v rfl rfl (dMul_s (mulS hv.1 hv.2))) rfl (dMod_s (by decide))) ?_
   simp only [zSet, zk]
   have m0 := Int.emod_nonneg (v * v) (show (2147483629 : Int) ≠ 0 by decide)
   have m1 := Int.emod_lt_of_pos (v * v) (show (0 : Int) < 2147483629 by decide)
   exact ret_ (f2v (f2v (f2v rfl rfl rfl) (f2v rfl rfl rfl) (dMul_s (mulS (by omega) (by omega)))) rfl (dMod_s (by decide))) ⟨_, rfl⟩
  ·exact .inr hv
 by_cases hlt : k < (ns.length : Nat)
 ·rw [zn]
  refine if_t (zF (f2v rfl (el _ rfl) (by show some (D.bl (decide (k < ((ns.length : Nat) : Int)))) = _; rw [decide_eq_true hlt]))) ?_
  exact Zj (fIxv (ds := ns.map .int) rfl rfl (atI_map h0 hlt)) ⟨_, rfl⟩
 ·rw [zn]
  refine if_f (zF (f2v rfl (el _ rfl) (by show some (D.bl (decide (k < ((ns.length : Nat) : Int)))) = _; rw [decide_eq_false hlt]))) ?_
  rw [Zd, zC, zk, zn]
  refine set_ (f2v (f2v rfl rfl (dMul_s (mulS (by omega) (by omega)))) rfl rfl) ?_
  simp only [zSet, zk]
  rw [zn]
  by_cases hp : (0 : Int) < (ns.length : Nat)
  ·refine if_t (zF (f2v (el _ rfl) rfl (by rw [gt_, decide_eq_true hp]))) ?_
   have q0 := Int.emod_nonneg (k * 7) (show ((ns.length : Nat) : Int) ≠ 0 by omega)
   have q1 := Int.emod_lt_of_pos (k * 7) hp
   refine set_ (f2v (f2v (f2v (fIxv (ds := ns.map .int) rfl (f2v (f2v rfl rfl (dMul_s (mulS (by omega) (by omega)))) (el _ rfl) (dMod_s hp)) (atI_map q0 q1)) rfl (dMul_s (mulT (by decide) (by decide)))) (f2v rfl rfl (dMul_s (mulS (by omega) (by omega)))) rfl) rfl (dMod_s (by decide))) ?_
   simp only [zSet, zk]
   refine (tail _).resolve_right fun z => z ?_
   have r0 := Int.emod_nonneg (ns.getD (k * 7 % ((ns.length : Nat) : Int)).toNat 0 * 48271 + k * 7919) (show (2147483647 : Int) ≠ 0 by decide)
   have r1 := Int.emod_lt_of_pos (ns.getD (k * 7 % ((ns.length : Nat) : Int)).toNat 0 * 48271 + k * 7919) (show (0 : Int) < 2147483647 by decide)
   exact ⟨by omega, by omega⟩
  ·refine if_f (zF (f2v (el _ rfl) rfl (by rw [gt_, decide_eq_false hp]))) ?_
   rw [Zd, zC, zk]
   exact (tail _).resolve_right fun z => z ⟨by omega, by omega⟩
theorem at_mod {L : List D} {c : Int} (h : 0 < L.length) : ∃ d ∈ L, atI L (c % (L.length : Nat)) = some d := by
 have h0 := Int.emod_nonneg c (show ((L.length : Nat) : Int) ≠ 0 by omega)
 have h1 := Int.emod_lt_of_pos c (show (0 : Int) < (L.length : Nat) by omega)
 obtain ⟨j, hj⟩ : ∃ j : Nat, c % (L.length : Nat) = (j : Nat) := ⟨(c % (L.length : Nat)).toNat, by omega⟩
 have hl : j < L.length := by omega
 exact ⟨L.getD j .non, mem_getD hl, by rw [hj]; exact atB hl⟩
theorem small {x : Int} {m : Nat} (h : x.natAbs ≤ m) (hm : m ≤ 10 ^ 50) : Sc (.int x) = true := decide_eq_true (Nat.le_trans h hm)
theorem ns_small : ∀ x ∈ ([0, 1, 0, -1, 1, 2, 0, 3, -2] : List Int), x.natAbs ≤ 3 := by decide
theorem line_ok (c : Int) {many : Nat} (hm : many ≤ 6) : ∃ ns : List Int, m'line [.int c, .int (many : Nat)] = some (.tup (ns.map .int)) ∧ ns.length = many + 1 ∧ ∀ x ∈ ns, x.natAbs ≤ 2000000 := by
 suffices h : Wo (m'line [.int c, .int (many : Nat)]) fun d => ∃ ns : List Int, d = .tup (ns.map .int) ∧ ns.length = many + 1 ∧ ∀ x ∈ ns, x.natAbs ≤ 2000000 by
  obtain ⟨d, e, ns, rfl, q⟩ := h
  exact ⟨ns, e, q⟩
 unfold m'line b'line
 rw [ZF]
 refine ⟨rfl, ?_⟩
 simp only [Zc, zMap, zLen, List.replicate, zApp, Nat.zero_add, Nat.reduceAdd, Nat.reduceSub]
 rw [zn]
 refine new_ nilv (by simp) ?_
 simp only [zSet, zk]
 rw [zn, mFor_, rng1v (n := many + 1) (f2v rfl rfl rfl) (by omega), oB]
 refine wo_for (fun i ρ => ∃ (ns : List Int) (a b e : Option D), ρ = [some (.int c), some (.int (many : Nat)), some (.lst (ns.map .int)), a, b, e] ∧ ns.length = i ∧ ∀ x ∈ ns, x.natAbs ≤ 2000000) ⟨[], _, _, _, rfl, rfl, fun x hx => by cases hx⟩ ?_ ?_
 ·rintro i d ρ hd ⟨ns, a, b, e, rfl, hl, hb⟩
  obtain ⟨hi, rfl⟩ := rangeD_get hd
  rw [Int.zero_add, uName_, zC]
  simp only [zSet]
  have hii : ((i : Nat) : Int) * (i : Nat) = ((i * i : Nat) : Int) := by rw [Int.natCast_mul]
  have hpos : (0 : Int) ≤ (i : Nat) * (i : Nat) := by rw [hii]; omega
  rw [zn]
  refine set_ (f2v (f2v (f2v (f2v rfl (f2v (f2v rfl rfl (dMul_s (mulS (by omega) (by omega)))) rfl add_) (dDivP_s (show (i : Nat) * (i : Nat) + 3 ≠ (0 : Int) by omega))) rfl (dMul_s (mulT (by decide) (by decide)))) (f2v rfl rfl (dMul_s (mulS (by omega) (by omega)))) add_) rfl (dMod_s (by decide))) ?_
  simp only [zSet, zk]
  generalize (c.fdiv ((i : Nat) * (i : Nat) + 3) * 48271 + (i : Nat) * 69621) % 2147483647 = v
  have q0 := Int.emod_nonneg v (show (9 : Int) ≠ 0 by decide)
  have q1 := Int.emod_lt_of_pos v (show (0 : Int) < 9 by decide)
  rw [zn]
  refine set_ (d := .int (([0, 1, 0, -1, 1, 2, 0, 3, -2] : List Int).getD (v % 9).toNat 0)) (fIxv (ds := ([0, 1, 0, -1, 1, 2, 0, 3, -2] : List Int).map .int) rfl (f2v rfl rfl (dMod_s (by decide))) (atI_map q0 q1)) ?_
  simp only [zSet, zk]
  have hx0 : (([0, 1, 0, -1, 1, 2, 0, 3, -2] : List Int).getD (v % 9).toNat 0).natAbs ≤ 3 := by
   refine ns_small _ ?_
   have hlt : (v % 9).toNat < 9 := by omega
   simp only [List.getD]
   rw [List.getElem?_eq_getElem (by simpa using hlt), Option.getD_some]
   exact List.getElem_mem _
  generalize (([0, 1, 0, -1, 1, 2, 0, 3, -2] : List Int).getD (v % 9).toNat 0) = x0 at hx0
  have fin : ∀ x : Int, x.natAbs ≤ 2000000 → Wo (mUpd 2 lAppend (ze 5) [some (.int c), some (.int (many : Nat)), some (.lst (ns.map .int)), some (.int (i : Nat)), some (.int v), some (.int x)]) fun o => match o with
    | .nx ρ2 => ∃ (ns : List Int) (a b e : Option D), ρ2 = [some (.int c), some (.int (many : Nat)), some (.lst (ns.map .int)), a, b, e] ∧ ns.length = i + 1 ∧ ∀ x ∈ ns, x.natAbs ≤ 2000000
    | .ct ρ2 => ∃ (ns : List Int) (a b e : Option D), ρ2 = [some (.int c), some (.int (many : Nat)), some (.lst (ns.map .int)), a, b, e] ∧ ns.length = i + 1 ∧ ∀ x ∈ ns, x.natAbs ≤ 2000000
    | .bk ρ2 => Then (Zb (fA gTuple (zu true (ze 2)))) (Back fun d => ∃ ns : List Int, d = .tup (ns.map .int) ∧ ns.length = many + 1 ∧ ∀ x ∈ ns, x.natAbs ≤ 2000000) (.nx ρ2)
    | .rt r => Then (Zb (fA gTuple (zu true (ze 2)))) (Back fun d => ∃ ns : List Int, d = .tup (ns.map .int) ∧ ns.length = many + 1 ∧ ∀ x ∈ ns, x.natAbs ≤ 2000000) (.rt r) := fun x hx => by
   refine upd_ (d := .int x) rfl rfl (lAppend_ (size_lt (by rw [List.length_map]; omega))) ?_
   simp only [zSet]
   refine ⟨ns ++ [x], _, _, _, by rw [List.map_append]; rfl, by simp [hl], fun y hy => ?_⟩
   rcases List.mem_append.mp hy with hy | hy
   ·exact hb y hy
   ·rw [List.mem_singleton.mp hy]; exact hx
  rw [zn]
  refine if_b (zF (f2v (f2v (f2v rfl rfl (dDiv_s (by decide) (by decide))) rfl (dMod_s (by decide))) rfl dEqS_)) (fun _ => ?_) (fun _ => ?_)
  ·rw [zn]
   have w0 := Int.emod_nonneg (v / 540) (show (1999999 : Int) ≠ 0 by decide)
   have w1 := Int.emod_lt_of_pos (v / 540) (show (0 : Int) < 1999999 by decide)
   refine set_ (f2v (f2v (f2v rfl rfl (dDiv_s (by decide) (by decide))) rfl (dMod_s (by decide))) rfl sub_) ?_
   simp only [zSet, zk]
   refine if_b (zF (f2v rfl rfl gt_)) (fun _ => ?_) (fun _ => ?_)
   ·have u0 := Int.emod_nonneg (v / 540 % 1999999 - 999999) (show (19 : Int) ≠ 0 by decide)
    have u1 := Int.emod_lt_of_pos (v / 540 % 1999999 - 999999) (show (0 : Int) < 19 by decide)
    refine set_ (f2v (f2v rfl rfl (dMod_s (by decide))) rfl sub_) ?_
    simp only [zSet, zk]
    exact fin _ (by omega)
   ·rw [Zd, zC, zk]
    exact fin _ (by omega)
  ·rw [Zd, zC, zk]
   exact fin _ (by omega)
 ·rintro ρ ⟨ns, a, b, e, rfl, hl, hb⟩
  rw [rangeD_length] at hl
  rw [zk]
  exact ret_ (tupL rfl) ⟨ns, rfl, hl, hb⟩
theorem wts_ints : ∀ ns : List Int, wts (ns.map .int) = 9 * ns.length
 | [] => by simp [wts]
 | n :: ns => by rw [List.map_cons, wts, wts_ints ns, wt, List.length_cons]; omega; all_goals (intros; simp_all)
theorem wts_app : ∀ a b : List D, wts (a ++ b) = wts a + wts b
 | [], b => by simp [wts]
 | d :: a, b => by rw [List.cons_append, wts, wts, wts_app a b]; omega
theorem ints_fine {ns : List Int} (hl : ns.length ≤ 100) (h : ∀ x ∈ ns, x.natAbs ≤ 2000000) (n : Nat) : zw (n + 1) (.tup (ns.map .int)) := .inr (.inl ⟨_, rfl, by rw [List.length_map]; exact hl, fun r hr => by
 obtain ⟨x, hx, rfl⟩ := List.mem_map.mp hr
 exact .sc (small (h x hx) (by decide)) n⟩)
structure RowG (d : D) : Prop where
 ex : ∃ x ps, d = .tup (.str x :: ps) ∧ Sc (.str x) = true ∧ wt d ≤ 150 ∧ ps.length ≤ 3 ∧ ((inV (.str x) openNames = true ∧ 0 < ps.length ∧ ps = emp ps.length) ∨ (inV (.str x) openNames = false ∧ ∀ p ∈ ps, zw 2 p ∧ isL p = false))
theorem wt_tup {ds : List D} : wt (.tup ds) = wts ds := by rw [wt]
theorem wt_lst {ds : List D} : wt (.lst ds) = wts ds := by rw [wt]
theorem wt_int {i : Int} : wt (.int i) = 8 := by simp [wt]
theorem wt_str {x : Str} : wt (.str x) = 8 := by simp [wt]
theorem wt_non : wt .non = 8 := by simp [wt]
theorem wt_bl {b : Bool} : wt (.bl b) = 8 := by simp [wt]
theorem wE : (∀ ds, wt (.tup ds) = wts ds) ∧ (∀ ds, wt (.lst ds) = wts ds) ∧ wts [] = 0 ∧ (∀ d ds, wts (d :: ds) = wt d + 1 + wts ds) ∧ (∀ x, wt (.str x) = 8) ∧ (∀ i, wt (.int i) = 8) ∧ (∀ b, wt (.bl b) = 8) ∧ wt .non = 8 ∧ ∀ a b, wts (a ++ b) = wts a + wts b := ⟨fun _ => wt_tup, fun _ => wt_lst, by rw [wts], fun _ _ => by rw [wts], fun _ => wt_str, fun _ => wt_int, fun _ => wt_bl, wt_non, wts_app⟩
theorem row_ok (c : Int) {many body count : Nat} (hm : many ≤ 6) (hb : body < count) (hc : count ≤ 4) : ∃ d, m'row [.int c, .int (many : Nat), .int (body : Nat), .int (count : Nat)] = some d ∧ RowG d := by
 suffices h : Wo (m'row [.int c, .int (many : Nat), .int (body : Nat), .int (count : Nat)]) RowG by
  obtain ⟨d, e, q⟩ := h
  exact ⟨d, e, q⟩
 unfold m'row b'row
 rw [ZF]
 refine ⟨rfl, ?_⟩
 simp only [Zc, zMap, zLen, List.replicate, zApp, Nat.zero_add, Nat.reduceAdd, Nat.reduceSub]
 rw [zn]
 refine set_ (f2v rfl rfl (dMod_s (by decide))) ?_
 simp only [zSet, zk]
 rw [zn]
 refine if_b (andc (zF (f2v rfl rfl dEqS_)) fun _ => zF (f2v (f2v rfl rfl add_) rfl lt_)) (fun e => ?_) (fun _ => ?_)
 ·simp only [Bool.and_eq_true, decide_eq_true_eq] at e
  have hp : (0 : Int) < (count : Nat) - (body : Nat) - 1 := by omega
  have q0 := Int.emod_nonneg (c / 8) (show ((count : Nat) : Int) - (body : Nat) - 1 ≠ 0 by omega)
  have q1 := Int.emod_lt_of_pos (c / 8) hp
  refine Zj (flatv (tup2v rfl (f2v (f2v rfl rfl add_) (f2v (f2v rfl rfl (dDiv_s (by decide) (by decide))) (f2v (f2v rfl rfl sub_) rfl sub_) (dMod_s hp)) add_)) rfl) ?_
  refine ⟨"call", _, rfl, rfl, by simp only [wt_tup, wts, wt_str, wt_int]; omega, by simp, .inr ⟨by decide, fun p hp => ?_⟩⟩
  rw [List.mem_singleton.mp hp]
  exact ⟨.sc (small (m := 100) (by omega) (by decide)) _, rfl⟩
 ·rw [Zd, zC, zk, zn]
  refine if_b (andc (zF (f2v rfl rfl lt_)) fun _ => zF (f2v rfl rfl gt_)) (fun e => ?_) (fun _ => ?_)
  ·simp only [Bool.and_eq_true, decide_eq_true_eq] at e
   obtain ⟨ns, el, hl, hx⟩ := line_ok (c / 64) hm
   have q0 := Int.emod_nonneg (c / 8) (show ((many : Nat) : Int) ≠ 0 by omega)
   have q1 := Int.emod_lt_of_pos (c / 8) e.2
   refine Zj (flatv (tup3v rfl (f2v (f2v rfl rfl (dDiv_s (by decide) (by decide))) rfl (dMod_s e.2)) (fA2 (f2v rfl rfl (dDiv_s (by decide) (by decide))) rfl el)) (by simp [D.flat, flats, flats_ints])) ?_
   refine ⟨"set", _, rfl, rfl, by simp only [wt_tup, wts, wt_str, wt_int, wts_ints]; omega, by simp, .inr ⟨by decide, fun p hp => ?_⟩⟩
   rcases List.mem_cons.mp hp with rfl | hp
   ·exact ⟨.sc (small (m := 100) (by omega) (by decide)) _, rfl⟩
   ·rw [List.mem_singleton.mp hp]
    exact ⟨ints_fine (by omega) hx 1, rfl⟩
  ·rw [Zd, zC, zk, zn]
   refine if_b (andc (zF (f2v rfl rfl dEqS_)) fun _ => zF (f2v rfl rfl gt_)) (fun e => ?_) (fun _ => ?_)
   ·simp only [Bool.and_eq_true, decide_eq_true_eq] at e
    have q0 := Int.emod_nonneg (c / 8) (show ((many : Nat) : Int) ≠ 0 by omega)
    have q1 := Int.emod_lt_of_pos (c / 8) e.2
    refine Zj (flatv (tup2v rfl (f2v (f2v rfl rfl (dDiv_s (by decide) (by decide))) rfl (dMod_s e.2))) rfl) ?_
    refine ⟨"take", _, rfl, rfl, by simp only [wt_tup, wts, wt_str, wt_int]; omega, by simp, .inr ⟨by decide, fun p hp => ?_⟩⟩
    rw [List.mem_singleton.mp hp]
    exact ⟨.sc (small (m := 100) (by omega) (by decide)) _, rfl⟩
   ·rw [Zd, zC, zk, zn]
    refine if_b (zF (f2v rfl rfl dEqS_)) (fun e => ?_) (fun _ => ?_)
    ·refine Zj (tup2v rfl nilv) ?_
     exact ⟨"loop", _, rfl, rfl, by simp only [wt_tup, wts, wt_str, wt_lst]; omega, by simp, .inl ⟨by decide, by simp, rfl⟩⟩
    ·rw [Zd, zC, zk, zn]
     refine if_b (zF (f2v rfl rfl dEqS_)) (fun e => ?_) (fun _ => ?_)
     ·refine Zj (tup3v rfl nilv nilv) ?_
      exact ⟨"either", _, rfl, rfl, by simp only [wt_tup, wts, wt_str, wt_lst]; omega, by simp, .inl ⟨by decide, by simp, rfl⟩⟩
     ·rw [Zd, zC, zk]
      obtain ⟨d, hd, ed⟩ := at_mod (L := shL) (c := c / 8) (by decide)
      have hd' : d = .tup [.str "skip"] ∨ d = .tup [.str "halt"] := by
       rcases List.mem_cons.mp hd with h | h
       ·exact .inl h
       ·exact .inr (List.mem_singleton.mp h)
      refine ret_ (flatv (fIxv (ds := shL) (seqL (lst2v (tup1v rfl) (tup1v rfl))) (f2v (f2v rfl rfl (dDiv_s (by decide) (by decide))) rfl (dMod_s (by decide))) ed) (by rcases hd' with rfl | rfl <;> rfl)) ?_
      rcases hd' with rfl | rfl
      ·exact ⟨"skip", _, rfl, rfl, by simp only [wt_tup, wts, wt_str, wt_lst]; omega, by simp, .inr ⟨by decide, fun p hp => by cases hp⟩⟩
      ·exact ⟨"halt", _, rfl, rfl, by simp only [wt_tup, wts, wt_str, wt_lst]; omega, by simp, .inr ⟨by decide, fun p hp => by cases hp⟩⟩
def Gr : Nat → D → Prop
 | 0, _ => False
 | n + 1, d => ∃ x ps, d = .tup (.str x :: ps) ∧ Sc (.str x) = true ∧ ps.length ≤ 10 ∧ ∀ p ∈ ps, (zw 2 p ∧ isL p = false) ∨ ∃ ds, p = .lst ds ∧ ds.length ≤ 20 ∧ ∀ r ∈ ds, Gr n r
theorem Gr.up : ∀ {n : Nat} {d : D}, Gr n d → Gr (n + 1) d
 | 0, d, h => h.elim
 | n + 1, d, ⟨x, ps, e, h1, h2, h3⟩ => ⟨x, ps, e, h1, h2, fun p hp => by
  rcases h3 p hp with h | ⟨ds, rfl, hl, h⟩
  ·exact .inl h
  ·exact .inr ⟨ds, rfl, hl, fun r hr => (h r hr).up⟩⟩
theorem Gr.mono {n m : Nat} {d : D} (h : Gr n d) (hm : n ≤ m) : Gr m d := by
  induction m with
  | zero => have : n = 0 := by omega
            subst this; exact h
  | succ m ih =>
    by_cases e : n = m + 1
    · subst e; exact h
    · exact (ih (by omega)).up
theorem Gr.hd {n : Nat} {d : D} (h : Gr n d) : Hd d = true := by
 cases n with
 | zero => exact h.elim
 | succ n =>
  obtain ⟨x, ps, rfl, h1, _⟩ := h
  exact h1
theorem Gr.fine : ∀ {n : Nat} {d : D}, Gr n d → zw (2 * n + 2) d
 | 0, d, h => h.elim
 | n + 1, d, ⟨x, ps, e, h1, h2, h3⟩ => by
  subst e
  refine .inr (.inl ⟨_, rfl, by simp only [List.length_cons]; omega, fun p hp => ?_⟩)
  rcases List.mem_cons.mp hp with rfl | hp
  ·exact .sc h1 _
  ·rcases h3 p hp with h | ⟨ds, rfl, hl, h⟩
   ·exact h.1.mono (by omega)
   ·exact .inr (.inr ⟨ds, rfl, by omega, fun r hr => ⟨(h r hr).fine, (h r hr).hd⟩⟩)
theorem RowG.gr {d : D} (h : RowG d) {n : Nat} (hn : 1 ≤ n) : Gr n d := by
 obtain ⟨x, ps, rfl, h1, h2, h3, h4⟩ := h.ex
 refine Gr.mono (n := 1) ⟨x, ps, rfl, h1, by omega, fun p hp => ?_⟩ hn
 rcases h4 with ⟨_, _, h4⟩ | ⟨_, h4⟩
 ·rw [h4] at hp
  have := List.eq_of_mem_replicate hp
  exact .inr ⟨[], this, by simp, fun r hr => by cases hr⟩
 ·exact .inl (h4 p hp)
def Fk (m : Nat) : Nat → List Fr → Prop
 | n, [] => n = 4
 | n, f :: fs => Sc (.str f.x) = true ∧ f.pre.length + f.post.length ≤ 5 ∧ (∀ p ∈ f.pre ++ f.post, p = .lst []) ∧ f.done.length + 1 ≤ m ∧ (∀ r ∈ f.done, Gr (n + 1) r) ∧ Fk m (n + 1) fs
theorem Fk.up {m : Nat} : ∀ {n : Nat} {fs : List Fr}, Fk m n fs → Fk (m + 1) n fs
 | n, [], h => h
 | n, f :: fs, ⟨a, b, c, d, e, g⟩ => ⟨a, b, c, by omega, e, g.up⟩
theorem Fk.sum {m : Nat} : ∀ {n : Nat} {fs : List Fr}, Fk m n fs → n + fs.length = 4
 | n, [], h => h
 | n, f :: fs, ⟨_, _, _, _, _, g⟩ => by have := g.sum; simp only [List.length_cons]; omega
structure Zk (m n : Nat) (top : List D) (fs : List Fr) : Prop where
 len : top.length ≤ m
 gr : ∀ r ∈ top, Gr n r
 pos : 1 ≤ n
 fk : Fk m n fs
theorem Zk.row {m n : Nat} {top : List D} {f : Fr} {fs : List Fr} (z : Zk m n top (f :: fs)) (hm : m ≤ 20) : Zk m (n + 1) (shut f top) fs := by
 obtain ⟨a, b, c, d, e, g⟩ := z.fk
 refine ⟨?_, fun r hr => ?_, by omega, g⟩
 ·unfold shut; rw [List.length_append]; simp only [List.length_cons, List.length_nil]; omega
 ·unfold shut at hr
  rcases List.mem_append.mp hr with hr | hr
  ·exact e r hr
  ·rw [List.mem_singleton.mp hr]
   refine ⟨f.x, _, rfl, a, by rw [List.length_append, List.length_cons]; omega, fun p hp => ?_⟩
   right
   rcases List.mem_append.mp hp with hp | hp
   ·exact ⟨[], c p (List.mem_append.mpr (.inl hp)), by simp, fun r hr => by cases hr⟩
   ·rcases List.mem_cons.mp hp with rfl | hp
    ·exact ⟨top, rfl, by have := z.len; omega, z.gr⟩
    ·exact ⟨[], c p (List.mem_append.mpr (.inr hp)), by simp, fun r hr => by cases hr⟩
theorem Zk.shut {m : Nat} (hm : m ≤ 20) : ∀ {fs : List Fr} {n : Nat} {top : List D}, Zk m n top fs → (close top fs).length ≤ m ∧ ∀ r ∈ close top fs, Gr 4 r
 | [], n, top, z => by
  have e : n = 4 := z.fk
  subst e
  exact ⟨z.len, z.gr⟩
 | f :: fs, n, top, z => by rw [close]; exact Zk.shut hm (z.row hm)
theorem wts_close : ∀ (fs : List Fr) (top : List D), wts (close top fs) = wts top + wts (close [] fs)
 | [], top => by rw [close, close, wts]; omega
 | f :: fs, top => by
  rw [close, close, wts_close fs (M.shut f top), wts_close fs (M.shut f [])]
  unfold M.shut
  simp only [wts_app, wts, wt_tup, wt_lst]
  omega
theorem emp_split {k j : Nat} (h : j < k) : emp j ++ .lst [] :: emp (k - 1 - j) = emp k := by
 unfold emp
 rw [show (D.lst [] :: List.replicate (k - 1 - j) (D.lst [])) = List.replicate (k - 1 - j + 1) (D.lst []) from rfl, List.replicate_append_replicate]
 congr 1
 omega
theorem step_ok {m n : Nat} {top : List D} {fs : List Fr} {c : Int} {d : D} (z : Zk m n top fs) (hd : RowG d) (hm : m < 20) : ∃ top' fs' n', stepZ c d top fs = some (top', fs') ∧ Zk (m + 1) n' top' fs' ∧ close top' fs' = close (top ++ [d]) fs := by
 have hg := hd.gr z.pos
 obtain ⟨x, ps, rfl, h1, h2, h3, h4⟩ := hd.ex
 have hl := z.len
 have hs := z.fk.sum
 have htop : top.length < sizeLine := size_lt (by omega)
 have zup : Zk (m + 1) n (top ++ [.tup (.str x :: ps)]) fs := ⟨by rw [List.length_append]; simp only [List.length_cons, List.length_nil]; omega, fun r hr => by
  rcases List.mem_append.mp hr with hr | hr
  ·exact z.gr r hr
  ·rw [List.mem_singleton.mp hr]; exact hg, z.pos, z.fk.up⟩
 unfold stepZ
 simp only
 rw [if_pos htop]
 by_cases ho : inV (.str x) openNames = true ∧ fs.length + 1 < 4
 ·rw [if_pos ho]
  rcases h4 with ⟨_, hp, he⟩ | ⟨hno, _⟩
  ·rw [if_pos ⟨hp, trivial, by rw [he]; unfold emp; rw [List.all_replicate]; simp⟩]
   have q0 := Int.emod_nonneg (c / 32) (show ((ps.length : Nat) : Int) ≠ 0 by omega)
   have q1 := Int.emod_lt_of_pos (c / 32) (show (0 : Int) < (ps.length : Nat) by omega)
   generalize c / 32 % ((ps.length : Nat) : Int) = w at *
   refine ⟨_, _, n - 1, rfl, ⟨by simp, fun r hr => (by cases hr), by omega, ?_⟩, ?_⟩
   ·refine ⟨h1, ?_, fun p hp => ?_, by simp only; omega, fun r hr => ?_, ?_⟩
    ·simp only [emp, List.length_replicate]; omega
    ·rcases List.mem_append.mp hp with hp | hp <;> exact List.eq_of_mem_replicate hp
    ·rw [show n - 1 + 1 = n by omega]; exact z.gr r hr
    ·rw [show n - 1 + 1 = n by omega]; exact z.fk.up
   ·rw [close]
    unfold M.shut
    simp only
    rw [emp_split (show w.toNat < ps.length by omega), ← he]
  ·rw [ho.1] at hno; cases hno
 ·rw [if_neg ho]
  by_cases hc : c % 4 = 0
  ·rw [if_pos hc]
   cases fs with
   | nil => exact ⟨_, _, n, rfl, zup, rfl⟩
   | cons f fs => exact ⟨_, _, n + 1, rfl, zup.row (by omega), by rw [close]⟩
  ·rw [if_neg hc]
   exact ⟨_, _, n, rfl, zup, rfl⟩
theorem goZ_ok {R : Int → Option D} (hR : ∀ c, ∃ d, R c = some d ∧ RowG d) : ∀ (cs : List Int) (m n : Nat) (top : List D) (fs : List Fr), Zk m n top fs → m + cs.length ≤ 15 → ∃ out, goZ R cs top fs = some out ∧ out.length ≤ m + cs.length ∧ (∀ r ∈ out, Gr 4 r) ∧ wts out ≤ wts (close top fs) + 151 * cs.length
 | [], m, n, top, fs, z, hm => by
  obtain ⟨h1, h2⟩ := z.shut (by simp at hm; omega)
  exact ⟨_, by rw [goZ], by simpa using h1, h2, by simp⟩
 | c :: cs, m, n, top, fs, z, hm => by
  simp only [List.length_cons] at hm
  obtain ⟨d, e, hd⟩ := hR c
  obtain ⟨top', fs', n', e2, z', ec⟩ := step_ok (c := c) z hd (by omega)
  obtain ⟨out, e3, h1, h2, h3⟩ := goZ_ok hR cs (m + 1) n' top' fs' z' (by omega)
  obtain ⟨x, ps, hx, _, hw, _⟩ := hd.ex
  refine ⟨out, by rw [goZ, e, oB, e2, oB]; exact e3, by simp only [List.length_cons]; omega, h2, ?_⟩
  rw [ec, wts_close, wts_app] at h3
  rw [wts_close]
  simp only [wts, List.length_cons] at h3 ⊢
  omega
theorem body_ok {cs : List Int} {many body count : Nat} (hcs : cs.length ≤ 12) (hm : many ≤ 6) (hb : body < count) (hc : count ≤ 4) : ∃ out, m'body [.lst (cs.map .int), .int (many : Nat), .int (body : Nat), .int (count : Nat)] = some (.lst out) ∧ out.length ≤ 12 ∧ (∀ r ∈ out, Gr 4 r) ∧ wts out ≤ 2000 := by
 have hR : ∀ c : Int, ∃ d, (fun c : Int => fA m'row (zc (f2 dDiv (ze 6) (fC (.int 4))) (zc (ze 1) (zc (ze 2) (zc (ze 3) zl)))) ((evZ [some (.lst (cs.map .int)), some (.int (many : Nat)), some (.int (body : Nat)), some (.int (count : Nat)), none, none, none, none]).set 6 (some (.int c)))) c = some d ∧ RowG d := fun c => by
  obtain ⟨d, e, h⟩ := row_ok (c / 4) hm hb hc
  exact ⟨d, fA4 (f2v rfl rfl (dDiv_s (by decide) (by decide))) rfl rfl rfl e, h⟩
 obtain ⟨out, e, h1, h2, h3⟩ := goZ_ok hR cs 0 4 [] [] ⟨by simp, fun r hr => (by cases hr), by omega, rfl⟩ (by omega)
 refine ⟨out, ?_, by omega, h2, by simp only [close, wts] at h3; omega⟩
 refine Wo.eq ?_
 unfold m'body b'body
 rw [ZF]
 refine ⟨rfl, ?_⟩
 simp only [Zc, zMap, zLen, List.replicate, zApp, Nat.zero_add, Nat.reduceAdd, Nat.reduceSub]
 unfold mB13
 show Wo (Option.bind (intsD (cs.map .int)) _) _
 rw [intsD_map, oB]
 split
 ·rw [e]
  exact ⟨_, rfl, rfl⟩
 ·rename_i z
  exact absurd rfl z
structure Prog (many : Nat) (B : List D) : Prop where
 m6 : many ≤ 6
 l1 : 1 ≤ B.length
 l4 : B.length ≤ 4
 ok : ∀ b ∈ B, ∃ rs, b = .lst rs ∧ rs.length ≤ 12 ∧ (∀ r ∈ rs, Gr 4 r) ∧ wts rs ≤ 2000
theorem beg_v {ρ : Ev} : Zf (zc (fC (.int 2)) (zc (fC (.int 14)) (zc (fC (.int 19)) (zc (fC (.int 24)) zl)))) ρ = some (.lst (([2, 14, 19, 24] : List Int).map .int)) := rfl
theorem program_ok (ns : List Int) : ∃ (many : Nat) (B : List D), m'program [.scr ns] = some (.tup [.int (many : Nat), .lst B]) ∧ Prog many B := by
 suffices h : Wo (m'program [.scr ns]) fun d => ∃ (many : Nat) (B : List D), d = .tup [.int (many : Nat), .lst B] ∧ Prog many B by
  obtain ⟨d, e, many, B, rfl, q⟩ := h
  exact ⟨many, B, e, q⟩
 unfold m'program b'program
 rw [ZF]
 refine ⟨rfl, ?_⟩
 simp only [Zc, zMap, zLen, List.replicate, zApp, Nat.zero_add, Nat.reduceAdd, Nat.reduceSub]
 obtain ⟨v0, e0⟩ := cell_ok ns 0 (by omega) (by omega)
 obtain ⟨v1, e1⟩ := cell_ok ns 1 (by omega) (by omega)
 have q0 := Int.emod_nonneg v0 (show (7 : Int) ≠ 0 by decide)
 have q1 := Int.emod_lt_of_pos v0 (show (0 : Int) < 7 by decide)
 have p0 := Int.emod_nonneg (v0 / 7) (show (4 : Int) ≠ 0 by decide)
 have p1 := Int.emod_lt_of_pos (v0 / 7) (show (0 : Int) < 4 by decide)
 have s0 := Int.emod_nonneg v1 (show (9 : Int) ≠ 0 by decide)
 have s1 := Int.emod_lt_of_pos v1 (show (0 : Int) < 9 by decide)
 obtain ⟨many, hmany⟩ : ∃ n : Nat, v0 % 7 = n := ⟨(v0 % 7).toNat, by omega⟩
 obtain ⟨count, hcount⟩ : ∃ n : Nat, 1 + v0 / 7 % 4 = n := ⟨(1 + v0 / 7 % 4).toNat, by omega⟩
 have hm : many ≤ 6 := by omega
 have c1 : 1 ≤ count := by omega
 have c4 : count ≤ 4 := by omega
 rw [zn]
 refine set_ (d := .int (many : Nat)) (f2v (fA2 rfl rfl e0) rfl ((dMod_s (by decide)).trans (by rw [hmany]))) ?_
 simp only [zSet, zk]
 rw [zn]
 refine set_ (d := .int (count : Nat)) (f2v rfl (f2v (f2v (fA2 rfl rfl e0) rfl (dDiv_s (by decide) (by decide))) rfl (dMod_s (by decide))) (add_.trans (by rw [hcount]))) ?_
 simp only [zSet, zk]
 rw [zn]
 refine new_ nilv (by simp) ?_
 simp only [zSet, zk]
 rw [zn, mFor_, rng1v (n := count) rfl (by omega), oB]
 refine wo_for (fun i ρ => ∃ (B : List D) (a b c : Option D), ρ = [some (.scr ns), some (.int (many : Nat)), some (.int (count : Nat)), some (.lst B), a, b, c] ∧ B.length = i ∧ ∀ b ∈ B, ∃ rs, b = .lst rs ∧ rs.length ≤ 12 ∧ (∀ r ∈ rs, Gr 4 r) ∧ wts rs ≤ 2000) ⟨[], _, _, _, rfl, rfl, fun b hb => by cases hb⟩ ?_ ?_
 ·rintro i d ρ hd ⟨B, a, b, c, rfl, hl, hB⟩
  obtain ⟨hi, rfl⟩ := rangeD_get hd
  rw [Int.zero_add, uName_, zC]
  simp only [zSet]
  have hsz : ∃ k : Nat, k ≤ 10 ∧ atI [D.int (2 + v1 % 9), .int 4, .int 3, .int 3] ((i : Nat) : Int) = some (.int (k : Nat)) := by
   have : i = 0 ∨ i = 1 ∨ i = 2 ∨ i = 3 := by omega
   rcases this with rfl | rfl | rfl | rfl
   ·exact ⟨(2 + v1 % 9).toNat, by omega, (atI_nat (j := 0) rfl).trans (by congr 2; omega)⟩
   ·exact ⟨4, by omega, atI_nat (j := 1) rfl⟩
   ·exact ⟨3, by omega, atI_nat (j := 2) rfl⟩
   ·exact ⟨3, by omega, atI_nat (j := 3) rfl⟩
  have hbg : ∃ k : Nat, k ≤ 24 ∧ atI (([2, 14, 19, 24] : List Int).map D.int) ((i : Nat) : Int) = some (.int (k : Nat)) := by
   have : i = 0 ∨ i = 1 ∨ i = 2 ∨ i = 3 := by omega
   rcases this with rfl | rfl | rfl | rfl
   ·exact ⟨2, by omega, atI_nat (j := 0) rfl⟩
   ·exact ⟨14, by omega, atI_nat (j := 1) rfl⟩
   ·exact ⟨19, by omega, atI_nat (j := 2) rfl⟩
   ·exact ⟨24, by omega, atI_nat (j := 3) rfl⟩
  obtain ⟨sz, hsz1, esz⟩ := hsz
  obtain ⟨bg, hbg1, ebg⟩ := hbg
  rw [zn]
  refine set_ (d := .int (sz : Nat)) (fIxv (seqL (lst4_ (f2v rfl (f2v (fA2 rfl rfl e1) rfl (dMod_s (by decide))) add_) rfl rfl rfl)) rfl esz) ?_
  simp only [zSet, zk]
  rw [zn]
  refine set_ (d := .int (bg : Nat)) (fIxv (seqL beg_v) rfl ebg) ?_
  simp only [zSet, zk]
  obtain ⟨cs, ecs, hcs, _⟩ := fcomp_ints (k := 1) (fl := fRng1 (ze 5)) (u := uName 7) (c := fYes) (e := fA m'cell (zc (ze 0) (zc (f2 dAdd (ze 6) (ze 7)) zl))) (ρ := [some (.scr ns), some (.int (many : Nat)), some (.int (count : Nat)), some (.lst B), some (.int (i : Nat)), some (.int (sz : Nat)), some (.int (bg : Nat))]) (ds := rangeD 0 sz) (fun _ _ => True) (fun ρ => ∃ z : Option D, ρ = [some (.scr ns), some (.int (many : Nat)), some (.int (count : Nat)), some (.lst B), some (.int (i : Nat)), some (.int (sz : Nat)), some (.int (bg : Nat)), z])
   (rng1v (n := sz) rfl (by omega)) (by rw [rangeD_length]; omega) ⟨none, rfl⟩ (by
    rintro t d ρ hd ⟨z, rfl⟩
    obtain ⟨ht, rfl⟩ := rangeD_get hd
    rw [uName_, zC]
    simp only [zSet]
    obtain ⟨v, ev⟩ := cell_ok ns ((bg : Nat) + (0 + (t : Nat))) (by omega) (by omega)
    exact ⟨rfl, ⟨_, fA2 rfl (f2v rfl rfl add_) ev, v, rfl, trivial⟩, _, rfl⟩)
  rw [rangeD_length] at hcs
  obtain ⟨out, eo, o1, o2, o3⟩ := body_ok (cs := cs) (many := many) (body := i) (count := count) (by omega) hm hi c4
  refine upd_ (fA4 ecs rfl rfl rfl eo) rfl (lAppend_ (size_lt (by omega))) ?_
  simp only [zSet]
  refine ⟨B ++ [.lst out], _, _, _, rfl, by simp [hl], fun b' hb' => ?_⟩
  rcases List.mem_append.mp hb' with hb' | hb'
  ·exact hB b' hb'
  ·rw [List.mem_singleton.mp hb']; exact ⟨out, rfl, o1, o2, o3⟩
 ·rintro ρ ⟨B, a, b, c, rfl, hl, hB⟩
  rw [rangeD_length] at hl
  rw [zk]
  exact ret_ (tup2v rfl rfl) ⟨many, B, rfl, hm, by omega, by omega, hB⟩
theorem ins_ {i : Nat} {fk f : Ev → Option D} {ρ : Ev} {T : Out → Prop} {ds : List D} {k : Nat} {d : D} (ek : fk ρ = some (.int (k : Nat))) (ef : f ρ = some d) (ex : ρ[i]?.join = some (.lst ds)) (hk : k ≤ ds.length) (hl : ds.length ≤ 1000) (h : T (.nx (ρ.set i (some (.lst (insAt ds k d)))))) : Wo (mIns i fk f ρ) T := by
 unfold mIns
 rw [ek, oB, asI_, oB, ef, oB, ex, oB, asL_, oB, if_pos ⟨by omega, by omega, size_lt (by omega)⟩]
 refine ⟨_, rfl, ?_⟩
 simp only [Int.toNat_natCast]
 exact h
theorem t0 {n : Nat} : zw (n + 1) (.tup []) := .inr (.inl ⟨_, rfl, by simp, fun r hr => by cases hr⟩)
theorem tN {n : Nat} {ds : List D} (hl : ds.length ≤ 100) (h : ∀ d ∈ ds, zw n d) : zw (n + 1) (.tup ds) := .inr (.inl ⟨_, rfl, hl, h⟩)
theorem t1 {n : Nat} {a : D} (h : zw n a) : zw (n + 1) (.tup [a]) := tN (by simp) (by simpa using h)
theorem t2 {n : Nat} {a b : D} (h : zw n a) (h' : zw n b) : zw (n + 1) (.tup [a, b]) := tN (by simp) (by simp only [List.forall_mem_cons]; exact ⟨h, h', fun r hr => by cases hr⟩)
theorem t3 {n : Nat} {a b c : D} (h : zw n a) (h' : zw n b) (h'' : zw n c) : zw (n + 1) (.tup [a, b, c]) := tN (by simp) (by simp only [List.forall_mem_cons]; exact ⟨h, h', h'', fun r hr => by cases hr⟩)
theorem t4 {n : Nat} {a b c d : D} (h : zw n a) (h' : zw n b) (h'' : zw n c) (h3 : zw n d) : zw (n + 1) (.tup [a, b, c, d]) := tN (by simp) (by simp only [List.forall_mem_cons]; exact ⟨h, h', h'', h3, fun r hr => by cases hr⟩)
theorem lN {n : Nat} {ds : List D} (hl : ds.length ≤ 100) (h : ∀ d ∈ ds, zw n d ∧ Hd d = true) : zw (n + 1) (.lst ds) := .inr (.inr ⟨_, rfl, hl, h⟩)
theorem l0 {n : Nat} : zw (n + 1) (.lst []) := lN (by simp) fun r hr => by cases hr
theorem l1 {n : Nat} {a : D} (h : zw n a) (h' : Hd a = true) : zw (n + 1) (.lst [a]) := lN (by simp) fun r hr => by rw [List.mem_singleton.mp hr]; exact ⟨h, h'⟩
structure Q (d : D) : Prop where
 f : zw 6 d
 h : Hd d = true
 w : wt d ≤ 300
theorem consv {f : Ev → Option D} {fl : Ev → Option (List D)} {ρ : Ev} {d : D} {ds : List D} (e : f ρ = some d) (e' : fl ρ = some ds) : zc f fl ρ = some (d :: ds) := by rw [fCons_, e, oB, e']; rfl
theorem lstv {fl : Ev → Option (List D)} {ρ : Ev} {ds : List D} (e : fl ρ = some ds) (h : ds.length ≤ 1000) : Zf fl ρ = some (.lst ds) := by rw [fLst_, e]; exact dLst_ (size_of (by omega))
def bad9 : List D := [.int 1000000, .int (-1000000), .bl true, .bl false, .str "1", .non, .int 999999, .int (10 ^ 50), .tup [.int 1]]
theorem bad_v {ρ : Ev} : Zf (zc (fC (.int 1000000)) (zc (f1 dNeg (fC (.int 1000000))) (zc (fC (.bl true)) (zc (fC (.bl false)) (zc (fC (.str "1")) (zc (fC .non) (zc (fC (.int 999999)) (zc (f2 dPow (fC (.int 10)) (fC (.int 50))) (zc (zR (zc (fC (.int 1)) zl)) zl))))))))) ρ = some (.lst bad9) :=
 lstv (consv rfl (consv rfl (consv rfl (consv rfl (consv rfl (consv rfl (consv rfl (consv (f2v rfl rfl (dPow_s (by decide) (by decide) (by decide))) (consv (tup1v rfl) rfl))))))))) (by decide)
theorem bad_ok : ∀ d ∈ bad9, zw 1 d ∧ wt d ≤ 9 := by
 unfold bad9
 simp only [List.forall_mem_cons]
 refine ⟨?_, ?_, ?_, ?_, ?_, ?_, ?_, ?_, ?_, fun r hr => by cases hr⟩
 iterate 8 exact ⟨.sc (by decide +kernel) _, by simp [wt, wts]⟩
 exact ⟨t1 (.sc (by decide) _), by simp [wt, wts]⟩
theorem wts_rep : ∀ k : Nat, wts (List.replicate k (.int 0)) = 9 * k
 | 0 => by simp [wts]
 | k + 1 => by rw [List.replicate_succ, wts, wts_rep k, wt_int]; omega
theorem wts_set : ∀ (ds : List D) (j : Nat) (x : D), j < ds.length → wts (ds.set j x) + wt (ds.getD j .non) = wts ds + wt x
 | [], j, x, h => by simp at h
 | d :: ds, 0, x, h => by simp only [List.set_cons_zero, wts, List.getD_cons_zero]; omega
 | d :: ds, j + 1, x, h => by
  have := wts_set ds j x (by simpa using h)
  simp only [List.set_cons_succ, wts, List.getD_cons_succ]; omega
theorem mem_set {ds : List D} {j : Nat} {x d : D} (h : d ∈ ds.set j x) : d ∈ ds ∨ d = x := List.mem_or_eq_of_mem_set h
theorem bent_line_ok (c : Int) {many : Nat} (hm : many ≤ 6) : ∃ ln, m'bent_line [.int (many : Nat), .int c] = some ln ∧ (∀ n, zw (n + 2) ln) ∧ wt ln ≤ 100 := by
 suffices h : Wo (m'bent_line [.int (many : Nat), .int c]) fun ln => (∀ n, zw (n + 2) ln) ∧ wt ln ≤ 100 by
  obtain ⟨d, e, q⟩ := h
  exact ⟨d, e, q⟩
 unfold m'bent_line b'bent_line
 rw [ZF]
 refine ⟨rfl, ?_⟩
 simp only [Zc, zMap, zLen, List.replicate, zApp, Nat.zero_add, Nat.reduceAdd, Nat.reduceSub]
 rw [zn]
 refine new_ (zeros_ (k := (many : Nat) + 1) (f2v rfl rfl add_) (by omega) (by omega)) (by simp) ?_
 simp only [zSet, zk]
 rw [show ((many : Nat) + 1 : Int).toNat = many + 1 by omega]
 obtain ⟨x, hx, ex⟩ := at_mod (L := bad9) (c := c / 8) (by decide)
 obtain ⟨hx1, hx2⟩ := bad_ok x hx
 have q0 := Int.emod_nonneg c (show ((many : Nat) : Int) + 1 ≠ 0 by omega)
 have q1 := Int.emod_lt_of_pos c (show (0 : Int) < (many : Nat) + 1 by omega)
 obtain ⟨j, hj⟩ : ∃ j : Nat, c % ((many : Nat) + 1) = (j : Nat) := ⟨(c % ((many : Nat) + 1)).toNat, by omega⟩
 have hjl : j < (List.replicate (many + 1) (D.int 0)).length := by rw [List.length_replicate]; omega
 rw [zn]
 refine setIx_ (k := (j : Nat)) (fIxv (seqL bad_v) (f2v (f2v rfl rfl (dDiv_s (by decide) (by decide))) rfl (dMod_s (by decide))) ex) rfl (f2v rfl (f2v rfl rfl add_) ((dMod_s (by omega)).trans (by rw [hj]))) (ixN_nat hjl) ?_
 simp only [zSet, zk]
 refine ret_ (tupL rfl) ⟨fun n => tN (by rw [List.length_set, List.length_replicate]; omega) fun d hd => ?_, ?_⟩
 ·rcases mem_set hd with hd | rfl
  ·rw [List.eq_of_mem_replicate hd]; exact .sc (by decide) _
  ·exact hx1.mono (by omega)
 ·have := wts_set (List.replicate (many + 1) (D.int 0)) j x hjl
  rw [wts_rep] at this
  rw [wt_tup]; omega
theorem repT_v (many : Nat) (hm : many ≤ 6) : dRepT (.tup [.int 0]) (.int ((many : Nat) + 1)) = some (.tup (List.replicate (many + 1) (.int 0))) := by
 have e : ((many : Nat) + 1 : Int).toNat = many + 1 := by omega
 unfold dRepT
 simp only
 rw [if_pos ⟨by simp, by omega, by rw [e]; simp; omega, by omega⟩, e, replicate_one]
section
variable {many count : Nat} {zs : List D} {ln : D} {mx1 : Int}
def L1 (many count : Nat) (zs : List D) (ln : D) (mx1 : Int) : List D := [.non, .tup [], .tup [.str "set"], .tup [.str "set", .int 0], .lst [.str "skip"], .str "skip", .tup [.str "jump"], .tup [.str "skip", .int 1], .tup [.str "halt", .int 0], .tup [.str "take"], .int 7]
def L2 (many count : Nat) (zs : List D) (ln : D) (mx1 : Int) : List D := [.tup [.str "take", .int (many : Nat)], .tup [.str "take", .int (-1)], .tup [.str "take", .bl false], .tup [.str "set", .int (many : Nat), .tup zs], .tup [.str "set", .int 0, .tup []]]
def L3 (many count : Nat) (zs : List D) (ln : D) (mx1 : Int) : List D := [.tup [.str "set", .int (-1), .tup zs], .tup [.str "set", .bl false, .tup zs], .tup [.str "set", .bl true, .tup zs], .tup [.str "set", .str "0", .tup zs]]
def L4 (many count : Nat) (zs : List D) (ln : D) (mx1 : Int) : List D := [.tup [.str "set", .int 0, .tup (zs.drop 1)], .tup [.str "set", .int 0, .lst zs], .tup [.str "set", .int 0, .tup (zs ++ [.int 0])], .tup [.str "set", .int 0, ln]]
def L5 (many count : Nat) (zs : List D) (ln : D) (mx1 : Int) : List D := [.tup [.str "set", .int 0, ln], .tup [.str "set", .int mx1, ln], .tup [.str "either", .lst []]]
def L6 (many count : Nat) (zs : List D) (ln : D) (mx1 : Int) : List D := [.tup [.str "either", .lst [], .tup []], .tup [.str "either", .non, .lst []], .tup [.str "either", .lst [], .lst [], .lst []], .tup [.str "loop"], .tup [.str "loop", .lst [], .lst []]]
def L7 (many count : Nat) (zs : List D) (ln : D) (mx1 : Int) : List D := [.tup [.str "loop", .tup []], .tup [.str "loop", .lst [.non]], .tup [.str "call"], .tup [.str "call", .int 0], .tup [.str "call", .int (count : Nat)], .tup [.str "call", .int ((count : Nat) - 1)]]
def L8 (many count : Nat) (zs : List D) (ln : D) (mx1 : Int) : List D := [.tup [.str "call", .bl true], .tup [.str "call", .str "1"], .tup [.int 1, .int 2], .tup [.str "loop", .lst [.tup [.str "call", .int 0]]], .tup [.str "either", .lst [.tup [.str "loop", .lst [.tup []]]], .lst []]]
def L9 (many count : Nat) (zs : List D) (ln : D) (mx1 : Int) : List D := [.tup [.str "skip"], .tup [.str "halt"], .tup [.str "loop", .lst [.tup [.str "skip"]]], .tup [.str "set", .int 0, .tup ([.int (-999999)] ++ zs.drop 1)], .tup [.str "Skip"]]
theorem L1_ok (hm : Sc (.int (many : Nat)) = true) (hc : Sc (.int (count : Nat)) = true) (hc1 : Sc (.int ((count : Nat) - 1)) = true) (hx : Sc (.int mx1) = true) (hz : ∀ n, zw (n + 2) (.tup zs)) (hz1 : ∀ n, zw (n + 2) (.tup (zs.drop 1))) (hzl : ∀ n, zw (n + 2) (.lst zs)) (hz0 : ∀ n, zw (n + 2) (.tup (zs ++ [.int 0]))) (hzn : ∀ n, zw (n + 2) (.tup ([.int (-999999)] ++ zs.drop 1))) (hl : ∀ n, zw (n + 2) ln) (wl : wt ln ≤ 100) (wz : wts zs ≤ 63) (wz1 : wts (zs.drop 1) ≤ 63) : ∀ d ∈ L1 many count zs ln mx1, Q d := by
 unfold L1
 simp only [List.forall_mem_cons]
 refine ⟨?_, ?_, ?_, ?_, ?_, ?_, ?_, ?_, ?_, ?_, ?_, fun r hr => by cases hr⟩
 ·exact ⟨(.sc (by decide) _), rfl, by simp only [wE]; omega⟩
 ·exact ⟨(t0), rfl, by simp only [wE]; omega⟩
 ·exact ⟨(t1 (.sc (by decide) _)), rfl, by simp only [wE]; omega⟩
 ·exact ⟨(t2 (.sc (by decide) _) (.sc (by decide) _)), rfl, by simp only [wE]; omega⟩
 ·exact ⟨(l1 (.sc (by decide) _) rfl), rfl, by simp only [wE]; omega⟩
 ·exact ⟨(.sc (by decide) _), rfl, by simp only [wE]; omega⟩
 ·exact ⟨(t1 (.sc (by decide) _)), rfl, by simp only [wE]; omega⟩
 ·exact ⟨(t2 (.sc (by decide) _) (.sc (by decide) _)), rfl, by simp only [wE]; omega⟩
 ·exact ⟨(t2 (.sc (by decide) _) (.sc (by decide) _)), rfl, by simp only [wE]; omega⟩
 ·exact ⟨(t1 (.sc (by decide) _)), rfl, by simp only [wE]; omega⟩
 ·exact ⟨(.sc (by decide) _), rfl, by simp only [wE]; omega⟩
theorem L2_ok (hm : Sc (.int (many : Nat)) = true) (hc : Sc (.int (count : Nat)) = true) (hc1 : Sc (.int ((count : Nat) - 1)) = true) (hx : Sc (.int mx1) = true) (hz : ∀ n, zw (n + 2) (.tup zs)) (hz1 : ∀ n, zw (n + 2) (.tup (zs.drop 1))) (hzl : ∀ n, zw (n + 2) (.lst zs)) (hz0 : ∀ n, zw (n + 2) (.tup (zs ++ [.int 0]))) (hzn : ∀ n, zw (n + 2) (.tup ([.int (-999999)] ++ zs.drop 1))) (hl : ∀ n, zw (n + 2) ln) (wl : wt ln ≤ 100) (wz : wts zs ≤ 63) (wz1 : wts (zs.drop 1) ≤ 63) : ∀ d ∈ L2 many count zs ln mx1, Q d := by
 unfold L2
 simp only [List.forall_mem_cons]
 refine ⟨?_, ?_, ?_, ?_, ?_, fun r hr => by cases hr⟩
 ·exact ⟨(t2 (.sc (by decide) _) (.sc hm _)), rfl, by simp only [wE]; omega⟩
 ·exact ⟨(t2 (.sc (by decide) _) (.sc (by decide) _)), rfl, by simp only [wE]; omega⟩
 ·exact ⟨(t2 (.sc (by decide) _) (.sc (by decide) _)), rfl, by simp only [wE]; omega⟩
 ·exact ⟨(t3 (.sc (by decide) _) (.sc hm _) (hz _)), rfl, by simp only [wE]; omega⟩
 ·exact ⟨(t3 (.sc (by decide) _) (.sc (by decide) _) (t0)), rfl, by simp only [wE]; omega⟩
theorem L3_ok (hm : Sc (.int (many : Nat)) = true) (hc : Sc (.int (count : Nat)) = true) (hc1 : Sc (.int ((count : Nat) - 1)) = true) (hx : Sc (.int mx1) = true) (hz : ∀ n, zw (n + 2) (.tup zs)) (hz1 : ∀ n, zw (n + 2) (.tup (zs.drop 1))) (hzl : ∀ n, zw (n + 2) (.lst zs)) (hz0 : ∀ n, zw (n + 2) (.tup (zs ++ [.int 0]))) (hzn : ∀ n, zw (n + 2) (.tup ([.int (-999999)] ++ zs.drop 1))) (hl : ∀ n, zw (n + 2) ln) (wl : wt ln ≤ 100) (wz : wts zs ≤ 63) (wz1 : wts (zs.drop 1) ≤ 63) : ∀ d ∈ L3 many count zs ln mx1, Q d := by
 unfold L3
 simp only [List.forall_mem_cons]
 refine ⟨?_, ?_, ?_, ?_, fun r hr => by cases hr⟩
 ·exact ⟨(t3 (.sc (by decide) _) (.sc (by decide) _) (hz _)), rfl, by simp only [wE]; omega⟩
 ·exact ⟨(t3 (.sc (by decide) _) (.sc (by decide) _) (hz _)), rfl, by simp only [wE]; omega⟩
 ·exact ⟨(t3 (.sc (by decide) _) (.sc (by decide) _) (hz _)), rfl, by simp only [wE]; omega⟩
 ·exact ⟨(t3 (.sc (by decide) _) (.sc (by decide) _) (hz _)), rfl, by simp only [wE]; omega⟩
theorem L4_ok (hm : Sc (.int (many : Nat)) = true) (hc : Sc (.int (count : Nat)) = true) (hc1 : Sc (.int ((count : Nat) - 1)) = true) (hx : Sc (.int mx1) = true) (hz : ∀ n, zw (n + 2) (.tup zs)) (hz1 : ∀ n, zw (n + 2) (.tup (zs.drop 1))) (hzl : ∀ n, zw (n + 2) (.lst zs)) (hz0 : ∀ n, zw (n + 2) (.tup (zs ++ [.int 0]))) (hzn : ∀ n, zw (n + 2) (.tup ([.int (-999999)] ++ zs.drop 1))) (hl : ∀ n, zw (n + 2) ln) (wl : wt ln ≤ 100) (wz : wts zs ≤ 63) (wz1 : wts (zs.drop 1) ≤ 63) : ∀ d ∈ L4 many count zs ln mx1, Q d := by
 unfold L4
 simp only [List.forall_mem_cons]
 refine ⟨?_, ?_, ?_, ?_, fun r hr => by cases hr⟩
 ·exact ⟨(t3 (.sc (by decide) _) (.sc (by decide) _) (hz1 _)), rfl, by simp only [wE]; omega⟩
 ·exact ⟨(t3 (.sc (by decide) _) (.sc (by decide) _) (hzl _)), rfl, by simp only [wE]; omega⟩
 ·exact ⟨(t3 (.sc (by decide) _) (.sc (by decide) _) (hz0 _)), rfl, by simp only [wE]; omega⟩
 ·exact ⟨(t3 (.sc (by decide) _) (.sc (by decide) _) (hl _)), rfl, by simp only [wE]; omega⟩
theorem L5_ok (hm : Sc (.int (many : Nat)) = true) (hc : Sc (.int (count : Nat)) = true) (hc1 : Sc (.int ((count : Nat) - 1)) = true) (hx : Sc (.int mx1) = true) (hz : ∀ n, zw (n + 2) (.tup zs)) (hz1 : ∀ n, zw (n + 2) (.tup (zs.drop 1))) (hzl : ∀ n, zw (n + 2) (.lst zs)) (hz0 : ∀ n, zw (n + 2) (.tup (zs ++ [.int 0]))) (hzn : ∀ n, zw (n + 2) (.tup ([.int (-999999)] ++ zs.drop 1))) (hl : ∀ n, zw (n + 2) ln) (wl : wt ln ≤ 100) (wz : wts zs ≤ 63) (wz1 : wts (zs.drop 1) ≤ 63) : ∀ d ∈ L5 many count zs ln mx1, Q d := by
 unfold L5
 simp only [List.forall_mem_cons]
 refine ⟨?_, ?_, ?_, fun r hr => by cases hr⟩
 ·exact ⟨(t3 (.sc (by decide) _) (.sc (by decide) _) (hl _)), rfl, by simp only [wE]; omega⟩
 ·exact ⟨(t3 (.sc (by decide) _) (.sc hx _) (hl _)), rfl, by simp only [wE]; omega⟩
 ·exact ⟨(t2 (.sc (by decide) _) (l0)), rfl, by simp only [wE]; omega⟩
theorem L6_ok (hm : Sc (.int (many : Nat)) = true) (hc : Sc (.int (count : Nat)) = true) (hc1 : Sc (.int ((count : Nat) - 1)) = true) (hx : Sc (.int mx1) = true) (hz : ∀ n, zw (n + 2) (.tup zs)) (hz1 : ∀ n, zw (n + 2) (.tup (zs.drop 1))) (hzl : ∀ n, zw (n + 2) (.lst zs)) (hz0 : ∀ n, zw (n + 2) (.tup (zs ++ [.int 0]))) (hzn : ∀ n, zw (n + 2) (.tup ([.int (-999999)] ++ zs.drop 1))) (hl : ∀ n, zw (n + 2) ln) (wl : wt ln ≤ 100) (wz : wts zs ≤ 63) (wz1 : wts (zs.drop 1) ≤ 63) : ∀ d ∈ L6 many count zs ln mx1, Q d := by
 unfold L6
 simp only [List.forall_mem_cons]
 refine ⟨?_, ?_, ?_, ?_, ?_, fun r hr => by cases hr⟩
 ·exact ⟨(t3 (.sc (by decide) _) (l0) (t0)), rfl, by simp only [wE]; omega⟩
 ·exact ⟨(t3 (.sc (by decide) _) (.sc (by decide) _) (l0)), rfl, by simp only [wE]; omega⟩
 ·exact ⟨(t4 (.sc (by decide) _) (l0) (l0) (l0)), rfl, by simp only [wE]; omega⟩
 ·exact ⟨(t1 (.sc (by decide) _)), rfl, by simp only [wE]; omega⟩
 ·exact ⟨(t3 (.sc (by decide) _) (l0) (l0)), rfl, by simp only [wE]; omega⟩
theorem L7_ok (hm : Sc (.int (many : Nat)) = true) (hc : Sc (.int (count : Nat)) = true) (hc1 : Sc (.int ((count : Nat) - 1)) = true) (hx : Sc (.int mx1) = true) (hz : ∀ n, zw (n + 2) (.tup zs)) (hz1 : ∀ n, zw (n + 2) (.tup (zs.drop 1))) (hzl : ∀ n, zw (n + 2) (.lst zs)) (hz0 : ∀ n, zw (n + 2) (.tup (zs ++ [.int 0]))) (hzn : ∀ n, zw (n + 2) (.tup ([.int (-999999)] ++ zs.drop 1))) (hl : ∀ n, zw (n + 2) ln) (wl : wt ln ≤ 100) (wz : wts zs ≤ 63) (wz1 : wts (zs.drop 1) ≤ 63) : ∀ d ∈ L7 many count zs ln mx1, Q d := by
 unfold L7
 simp only [List.forall_mem_cons]
 refine ⟨?_, ?_, ?_, ?_, ?_, ?_, fun r hr => by cases hr⟩
 ·exact ⟨(t2 (.sc (by decide) _) (t0)), rfl, by simp only [wE]; omega⟩
 ·exact ⟨(t2 (.sc (by decide) _) (l1 (.sc (by decide) _) rfl)), rfl, by simp only [wE]; omega⟩
 ·exact ⟨(t1 (.sc (by decide) _)), rfl, by simp only [wE]; omega⟩
 ·exact ⟨(t2 (.sc (by decide) _) (.sc (by decide) _)), rfl, by simp only [wE]; omega⟩
 ·exact ⟨(t2 (.sc (by decide) _) (.sc hc _)), rfl, by simp only [wE]; omega⟩
 ·exact ⟨(t2 (.sc (by decide) _) (.sc hc1 _)), rfl, by simp only [wE]; omega⟩
theorem L8_ok (hm : Sc (.int (many : Nat)) = true) (hc : Sc (.int (count : Nat)) = true) (hc1 : Sc (.int ((count : Nat) - 1)) = true) (hx : Sc (.int mx1) = true) (hz : ∀ n, zw (n + 2) (.tup zs)) (hz1 : ∀ n, zw (n + 2) (.tup (zs.drop 1))) (hzl : ∀ n, zw (n + 2) (.lst zs)) (hz0 : ∀ n, zw (n + 2) (.tup (zs ++ [.int 0]))) (hzn : ∀ n, zw (n + 2) (.tup ([.int (-999999)] ++ zs.drop 1))) (hl : ∀ n, zw (n + 2) ln) (wl : wt ln ≤ 100) (wz : wts zs ≤ 63) (wz1 : wts (zs.drop 1) ≤ 63) : ∀ d ∈ L8 many count zs ln mx1, Q d := by
 unfold L8
 simp only [List.forall_mem_cons]
 refine ⟨?_, ?_, ?_, ?_, ?_, fun r hr => by cases hr⟩
 ·exact ⟨(t2 (.sc (by decide) _) (.sc (by decide) _)), rfl, by simp only [wE]; omega⟩
 ·exact ⟨(t2 (.sc (by decide) _) (.sc (by decide) _)), rfl, by simp only [wE]; omega⟩
 ·exact ⟨(t2 (.sc (by decide) _) (.sc (by decide) _)), rfl, by simp only [wE]; omega⟩
 ·exact ⟨(t2 (.sc (by decide) _) (l1 (t2 (.sc (by decide) _) (.sc (by decide) _)) rfl)), rfl, by simp only [wE]; omega⟩
 ·exact ⟨(t3 (.sc (by decide) _) (l1 (t2 (.sc (by decide) _) (l1 (t0) rfl)) rfl) (l0)), rfl, by simp only [wE]; omega⟩
theorem L9_ok (hm : Sc (.int (many : Nat)) = true) (hc : Sc (.int (count : Nat)) = true) (hc1 : Sc (.int ((count : Nat) - 1)) = true) (hx : Sc (.int mx1) = true) (hz : ∀ n, zw (n + 2) (.tup zs)) (hz1 : ∀ n, zw (n + 2) (.tup (zs.drop 1))) (hzl : ∀ n, zw (n + 2) (.lst zs)) (hz0 : ∀ n, zw (n + 2) (.tup (zs ++ [.int 0]))) (hzn : ∀ n, zw (n + 2) (.tup ([.int (-999999)] ++ zs.drop 1))) (hl : ∀ n, zw (n + 2) ln) (wl : wt ln ≤ 100) (wz : wts zs ≤ 63) (wz1 : wts (zs.drop 1) ≤ 63) : ∀ d ∈ L9 many count zs ln mx1, Q d := by
 unfold L9
 simp only [List.forall_mem_cons]
 refine ⟨?_, ?_, ?_, ?_, ?_, fun r hr => by cases hr⟩
 ·exact ⟨(t1 (.sc (by decide) _)), rfl, by simp only [wE]; omega⟩
 ·exact ⟨(t1 (.sc (by decide) _)), rfl, by simp only [wE]; omega⟩
 ·exact ⟨(t2 (.sc (by decide) _) (l1 (t1 (.sc (by decide) _)) rfl)), rfl, by simp only [wE]; omega⟩
 ·exact ⟨(t3 (.sc (by decide) _) (.sc (by decide) _) (hzn _)), rfl, by simp only [wE]; omega⟩
 ·exact ⟨(t1 (.sc (by decide) _)), rfl, by simp only [wE]; omega⟩
end
theorem drop_wts : ∀ (ds : List D) (k : Nat), wts (ds.drop k) ≤ wts ds
 | [], k => by simp [wts]
 | d :: ds, 0 => by simp
 | d :: ds, k + 1 => by have := drop_wts ds k; simp only [List.drop_succ_cons, wts]; omega
theorem take_wts : ∀ (ds : List D) (k : Nat), wts (ds.take k) + wts (ds.drop k) = wts ds := fun ds k => by
 rw [← wts_app, List.take_append_drop]
theorem bent_rows_ok (c : Int) {many count : Nat} (hm : many ≤ 6) (hc : count ≤ 4) : ∃ r, m'bent_rows [.int (many : Nat), .int (count : Nat), .int c] = some r ∧ Q r := by
 suffices h : Wo (m'bent_rows [.int (many : Nat), .int (count : Nat), .int c]) Q by
  obtain ⟨d, e, q⟩ := h
  exact ⟨d, e, q⟩
 unfold m'bent_rows b'bent_rows
 rw [ZF]
 refine ⟨rfl, ?_⟩
 simp only [Zc, zMap, zLen, List.replicate, zApp, Nat.zero_add, Nat.reduceAdd, Nat.reduceSub]
 rw [zn]
 refine set_ (f2v (tup1v rfl) (f2v rfl rfl add_) (repT_v many hm)) ?_
 simp only [zSet, zk]
 obtain ⟨ln, el, hl, wl⟩ := bent_line_ok (c / 64) hm
 have hzs : (List.replicate (many + 1) (D.int 0)).length = many + 1 := List.length_replicate
 have hzm : ∀ d ∈ List.replicate (many + 1) (D.int 0), d = .int 0 := fun d hd => List.eq_of_mem_replicate hd
 have wz : wts (List.replicate (many + 1) (D.int 0)) ≤ 63 := by rw [wts_rep]; omega
 generalize List.replicate (many + 1) (D.int 0) = zs at hzs hzm wz ⊢
 have hzf : ∀ n, ∀ d ∈ zs, zw n d := fun n d hd => by rw [hzm d hd]; exact .sc (by decide) _
 have wz1 : wts (zs.drop 1) ≤ 63 := Nat.le_trans (drop_wts zs 1) wz
 have hz : ∀ n, zw (n + 2) (.tup zs) := fun n => tN (by omega) (hzf _)
 have hz1 : ∀ n, zw (n + 2) (.tup (zs.drop 1)) := fun n => tN (by rw [List.length_drop]; omega) fun d hd => hzf _ d (List.mem_of_mem_drop hd)
 have hzl : ∀ n, zw (n + 2) (.lst zs) := fun n => lN (by omega) fun d hd => ⟨hzf _ d hd, by rw [hzm d hd]; rfl⟩
 have hz0 : ∀ n, zw (n + 2) (.tup (zs ++ [.int 0])) := fun n => tN (by rw [List.length_append]; simp only [List.length_cons, List.length_nil]; omega) fun d hd => by
  rcases List.mem_append.mp hd with hd | hd
  ·exact hzf _ d hd
  ·rw [List.mem_singleton.mp hd]; exact .sc (by decide) _
 have hzn : ∀ n, zw (n + 2) (.tup ([.int (-999999)] ++ zs.drop 1)) := fun n => tN (by rw [List.length_append, List.length_drop]; simp only [List.length_cons, List.length_nil]; omega) fun d hd => by
  rcases List.mem_append.mp hd with hd | hd
  ·rw [List.mem_singleton.mp hd]; exact .sc (by decide) _
  ·exact hzf _ d (List.mem_of_mem_drop hd)
 have sm : Sc (.int (many : Nat)) = true := small (m := 10) (by omega) (by decide)
 have sc : Sc (.int (count : Nat)) = true := small (m := 10) (by omega) (by decide)
 have sc1 : Sc (.int ((count : Nat) - 1)) = true := small (m := 10) (by omega) (by decide)
 obtain ⟨mx1, emx, sx⟩ : ∃ mx1 : Int, gMax2 [.int 0, .int ((many : Nat) - 1)] = some (.int mx1) ∧ Sc (.int mx1) = true := ⟨_, max2_, small (m := 10) (by omega) (by decide)⟩
 have o1 := L1_ok sm sc sc1 sx hz hz1 hzl hz0 hzn hl wl wz wz1
 have o2 := L2_ok sm sc sc1 sx hz hz1 hzl hz0 hzn hl wl wz wz1
 have o3 := L3_ok sm sc sc1 sx hz hz1 hzl hz0 hzn hl wl wz wz1
 have o4 := L4_ok sm sc sc1 sx hz hz1 hzl hz0 hzn hl wl wz wz1
 have o5 := L5_ok sm sc sc1 sx hz hz1 hzl hz0 hzn hl wl wz wz1
 have o6 := L6_ok sm sc sc1 sx hz hz1 hzl hz0 hzn hl wl wz wz1
 have o7 := L7_ok sm sc sc1 sx hz hz1 hzl hz0 hzn hl wl wz wz1
 have o8 := L8_ok sm sc sc1 sx hz hz1 hzl hz0 hzn hl wl wz wz1
 have o9 := L9_ok sm sc sc1 sx hz hz1 hzl hz0 hzn hl wl wz wz1
 rw [zn]
 refine set_ (fA2 rfl (f2v rfl rfl (dDiv_s (by decide) (by decide))) el) ?_
 simp only [zSet, zk]
 rw [zn]
 refine set_ (d := .lst (L1 many count zs ln mx1)) rfl ?_
 simp only [zSet, zk]
 have app : ∀ {xs ys : List D}, (∀ d ∈ xs, Q d) → (∀ d ∈ ys, Q d) → ∀ d ∈ xs ++ ys, Q d := fun h1 h2 d hd => (List.mem_append.mp hd).elim (h1 d) (h2 d)
 have n1 : (L1 many count zs ln mx1).length = 11 := rfl
 generalize L1 many count zs ln mx1 = X at o1 n1 ⊢
 rw [zn]
 refine set_ (d := .lst (X ++ L2 many count zs ln mx1)) (catv (lv rfl) (lv rfl) (by rw [n1]; show 11 + 5 ≤ 1000000; decide)) ?_
 simp only [zSet, zk]
 have o1 := app o1 o2
 have n1 : (X ++ L2 many count zs ln mx1).length = 16 := by rw [List.length_append, n1]; rfl
 generalize X ++ L2 many count zs ln mx1 = X at o1 n1 ⊢
 rw [zn]
 refine set_ (d := .lst (X ++ L3 many count zs ln mx1)) (catv (lv rfl) (lv rfl) (by rw [n1]; show 16 + 4 ≤ 1000000; decide)) ?_
 simp only [zSet, zk]
 have o1 := app o1 o3
 have n1 : (X ++ L3 many count zs ln mx1).length = 20 := by rw [List.length_append, n1]; rfl
 generalize X ++ L3 many count zs ln mx1 = X at o1 n1 ⊢
 rw [zn]
 have cz : ∀ ρ : Ev, ρ[3]?.join = some (.tup zs) → fCutT (zu false (ze 3)) (fPart (fC (.int 1))) fNo ρ = some (.tup (zs.drop 1)) := fun ρ h => cutFrom_ (k := 1) (ds := zs) (seqT (f := ze 3) h) rfl (by omega) (by omega)
 refine set_ (d := .lst (X ++ L4 many count zs ln mx1)) (catv (lv rfl) (lv (lstv (consv (tup3v rfl rfl (cz _ rfl)) (consv (tup3v rfl rfl rfl) (consv (tup3v rfl rfl (catT_ (xs := zs) (ys := [.int 0]) rfl (tup1v rfl) (by simp only [List.length_cons, List.length_nil]; omega))) (consv (tup3v rfl rfl rfl) rfl)))) (by show 4 ≤ 1000; decide))) (by rw [n1]; show 20 + 4 ≤ 1000000; decide)) ?_
 simp only [zSet, zk]
 have o1 := app o1 o4
 have n1 : (X ++ L4 many count zs ln mx1).length = 24 := by rw [List.length_append, n1]; rfl
 generalize X ++ L4 many count zs ln mx1 = X at o1 n1 ⊢
 rw [zn]
 refine set_ (d := .lst (X ++ L5 many count zs ln mx1)) (catv (lv rfl) (lv (lstv (consv (tup3v rfl rfl rfl) (consv (tup3v rfl (fA2 rfl (f2v rfl rfl sub_) emx) rfl) (consv (tup2v rfl nilv) rfl))) (by show 3 ≤ 1000; decide))) (by rw [n1]; show 24 + 3 ≤ 1000000; decide)) ?_
 simp only [zSet, zk]
 have o1 := app o1 o5
 have n1 : (X ++ L5 many count zs ln mx1).length = 27 := by rw [List.length_append, n1]; rfl
 generalize X ++ L5 many count zs ln mx1 = X at o1 n1 ⊢
 rw [zn]
 refine set_ (d := .lst (X ++ L6 many count zs ln mx1)) (catv (lv rfl) (lv rfl) (by rw [n1]; show 27 + 5 ≤ 1000000; decide)) ?_
 simp only [zSet, zk]
 have o1 := app o1 o6
 have n1 : (X ++ L6 many count zs ln mx1).length = 32 := by rw [List.length_append, n1]; rfl
 generalize X ++ L6 many count zs ln mx1 = X at o1 n1 ⊢
 rw [zn]
 refine set_ (d := .lst (X ++ L7 many count zs ln mx1)) (catv (lv rfl) (lv rfl) (by rw [n1]; show 32 + 6 ≤ 1000000; decide)) ?_
 simp only [zSet, zk]
 have o1 := app o1 o7
 have n1 : (X ++ L7 many count zs ln mx1).length = 38 := by rw [List.length_append, n1]; rfl
 generalize X ++ L7 many count zs ln mx1 = X at o1 n1 ⊢
 rw [zn]
 refine set_ (d := .lst (X ++ L8 many count zs ln mx1)) (catv (lv rfl) (lv rfl) (by rw [n1]; show 38 + 5 ≤ 1000000; decide)) ?_
 simp only [zSet, zk]
 have o1 := app o1 o8
 have n1 : (X ++ L8 many count zs ln mx1).length = 43 := by rw [List.length_append, n1]; rfl
 generalize X ++ L8 many count zs ln mx1 = X at o1 n1 ⊢
 rw [zn]
 refine set_ (d := .lst (X ++ L9 many count zs ln mx1)) (catv (lv rfl) (lv (lstv (consv (tup1v rfl) (consv (tup1v rfl) (consv (tup2v rfl (lst1_ (tup1v rfl))) (consv (tup3v rfl rfl (catT_ (xs := [.int (-999999)]) (ys := zs.drop 1) (tup1v rfl) (cz _ rfl) (by simp only [List.length_cons, List.length_nil, List.length_drop]; omega))) (consv (tup1v rfl) rfl))))) (by show 5 ≤ 1000; decide))) (by rw [n1]; show 43 + 5 ≤ 1000000; decide)) ?_
 simp only [zSet, zk]
 have o1 := app o1 o9
 have n1 : (X ++ L9 many count zs ln mx1).length = 48 := by rw [List.length_append, n1]; rfl
 generalize X ++ L9 many count zs ln mx1 = X at o1 n1 ⊢
 obtain ⟨d, hd, ed⟩ := at_mod (L := X) (c := c) (by omega)
 exact ret_ (fIxv (seqL rfl) (f2v rfl (by rw [fA_, seqL (f := ze 5) (ds := X) rfl, oB, gLen_]) (dMod_s (by omega))) ed) (o1 d hd)
theorem ne_nil {xs : List D} (h : pyOk (.lst xs) = true) : dNeD (.lst xs) (.lst []) = some (.bl (!xs.isEmpty)) := by
 unfold dNeD
 rw [if_pos ⟨h, by decide⟩]
 unfold eqD
 cases xs with
 | nil => rw [zV, Zy, PyData.eqv]; simp [PyData.eqvAll]
 | cons a t => rw [zV, Zy, zV, Zy, PyData.eqv]; simp [PyData.eqvAll]
theorem rng2v {f g : Ev → Option D} {ρ : Ev} {a b : Nat} (h : f ρ = some (.int (a : Nat))) (h' : g ρ = some (.int (b : Nat))) (ha : a ≤ 1000) (hb : b ≤ 1000) : fRng2 f g ρ = some (rangeD (a : Nat) (b - a)) := by
 rw [fRng2_, h, oB, h', oB, asI_, oB, asI_, oB, if_pos (by omega)]
 congr 2
 omega
section
variable {row : D} (hr : Q row)
include hr
theorem bent_step {rb : List D → Option D} {n q : Nat} (hq : 6 ≤ q) (rows : List D) (ih : rows ≠ [] → ∀ (rows : List D) (c : Int), rows.length ≤ 20 → (∀ r ∈ rows, Gr n r) → ∃ out, rb [.lst rows, .int c, row] = some (.lst out) ∧ out.length ≤ 30 ∧ (∀ r ∈ out, zw (2 * n + q) r ∧ Hd r = true) ∧ wts out ≤ wts rows + wt row + 1) (c : Int) (hl : rows.length ≤ 20) (hg : ∀ r ∈ rows, Gr (n + 1) r) :
  ∃ out, ZD 3 8 (b'bent rb) [.lst rows, .int c, row] = some (.lst out) ∧ out.length ≤ 30 ∧ (∀ r ∈ out, zw (2 * (n + 1) + q) r ∧ Hd r = true) ∧ wts out ≤ wts rows + wt row + 1 := by
 suffices h : Wo (ZD 3 8 (b'bent rb) [.lst rows, .int c, row]) fun d => ∃ out, d = .lst out ∧ out.length ≤ 30 ∧ (∀ r ∈ out, zw (2 * (n + 1) + q) r ∧ Hd r = true) ∧ wts out ≤ wts rows + wt row + 1 by
  obtain ⟨d, e, out, rfl, q⟩ := h
  exact ⟨out, e, q⟩
 unfold b'bent
 rw [ZF]
 refine ⟨rfl, ?_⟩
 simp only [Zc, zMap, zLen, List.replicate, zApp, Nat.zero_add, Nat.reduceAdd, Nat.reduceSub]
 rw [zn]
 refine new_ (d := .lst rows) (by rw [fA_, seqL (f := ze 0) (ds := rows) rfl]; rfl) (by simp) ?_
 simp only [zSet, zk]
 have el : ∀ ρ : Ev, ρ[3]?.join = some (.lst rows) → fA gLen (zu true (ze 3)) ρ = some (.int (rows.length : Nat)) := fun ρ h => by
  rw [fA_, seqL (f := ze 3) (ds := rows) h, oB]; rfl
 have q0 := Int.emod_nonneg c (show ((rows.length : Nat) : Int) + 1 ≠ 0 by omega)
 have q1 := Int.emod_lt_of_pos c (show (0 : Int) < (rows.length : Nat) + 1 by omega)
 obtain ⟨w, hw⟩ : ∃ j : Nat, c % ((rows.length : Nat) + 1) = (j : Nat) := ⟨(c % ((rows.length : Nat) + 1)).toNat, by omega⟩
 have hwl : w ≤ rows.length := by omega
 rw [zn]
 refine set_ (d := .int (w : Nat)) (f2v rfl (f2v (el _ rfl) rfl add_) ((dMod_s (by omega)).trans (by rw [hw]))) ?_
 simp only [zSet, zk]
 rw [zn]
 refine set_ nilv ?_
 simp only [zSet, zk]
 have old : ∀ r ∈ rows, zw (2 * (n + 1) + q) r ∧ Hd r = true := fun r hr' => ⟨(hg r hr').fine.mono (by omega), (hg r hr').hd⟩
 have new : zw (2 * (n + 1) + q) row ∧ Hd row = true := ⟨hr.f.mono (by omega), hr.h⟩
 rw [zn]
 refine Wo.mono (P := fun o => ∃ I : List D, o = .nx [some (.lst rows), some (.int c), some row, some (.lst rows), some (.int (w : Nat)), some (.lst I), none, none] ∧ I.length ≤ 100 ∧ (I ≠ [] → ∃ x ps, w < rows.length ∧ rows.getD w .non = .tup (.str x :: ps) ∧ ∀ d ∈ I, ∃ j : Nat, d = .int (j : Nat) ∧ 1 ≤ j ∧ j < (D.str x :: ps).length ∧ isL ((D.str x :: ps).getD j .non) = true)) ?_ ?_
 ·refine if_b (zF (f2v rfl (el _ rfl) lt_)) (fun e => ?_) (fun e => ?_)
  ·have hlt : w < rows.length := by rw [decide_eq_true_eq] at e; omega
   have hgr := hg _ (mem_getD hlt)
   obtain ⟨x, ps, ex, _, hpl, hps⟩ := hgr
   have eat : ∀ ρ : Ev, ρ[3]?.join = some (.lst rows) → ρ[4]?.join = some (.int (w : Nat)) → zu false (fIx (zu true (ze 3)) (ze 4)) ρ = some (.str x :: ps) := fun ρ h3 h4 => seqT (fIxv (fb := ze 4) (seqL (f := ze 3) h3) h4 ((atB hlt).trans (by rw [ex])))
   refine set_ (d := .lst ((rangeD (1 : Nat) ((D.str x :: ps).length - 1)).filter fun d => isL ((D.str x :: ps).getD (match d with | .int j => j.toNat | _ => 0) .non))) ?_ ?_
   ·rw [fComp_, rng2v (a := 1) (b := (D.str x :: ps).length) rfl (by rw [fA_, eat _ rfl rfl, oB]; rfl) (by omega) (by simp only [List.length_cons]; omega), oB]
    have := compD_filter (u := uName 8) (c := zy (f1 (gIsi "list") (fIx (zu false (fIx (zu true (ze 3)) (ze 4))) (ze 8)))) (e := ze 8) (fun ρ => ∃ z : Option D, ρ = [some (.lst rows), some (.int c), some row, some (.lst rows), some (.int (w : Nat)), some (.lst []), none, none, z]) (fun d => isL ((D.str x :: ps).getD (match d with | .int j => j.toNat | _ => 0) .non)) (rangeD (1 : Nat) ((D.str x :: ps).length - 1)) [some (.lst rows), some (.int c), some row, some (.lst rows), some (.int (w : Nat)), some (.lst []), none, none, none] ⟨_, rfl⟩ (by
     rintro d ρ hd ⟨z, rfl⟩
     obtain ⟨t, ht⟩ := List.getElem?_of_mem hd
     obtain ⟨ht1, rfl⟩ := rangeD_get ht
     have hj : t + 1 < (D.str x :: ps).length := by omega
     have ej : ((1 : Nat) : Int) + (t : Nat) = ((t + 1 : Nat) : Int) := by omega
     rw [ej]
     have hpl' : Pl ((D.str x :: ps).getD (t + 1) .non) = true := by
      have hm := mem_getD hj
      have hf := (hg _ (mem_getD hlt)).fine
      rw [ex] at hf
      exact (hf.tup.2 _ hm).pl
     exact ⟨_, rfl, zF (f1v (fIxv (eat _ rfl rfl) rfl (atB hj)) (isi_l hpl')), rfl, _, rfl⟩)
    show Option.bind (compD _ _ _ _ [some (.lst rows), some (.int c), some row, some (.lst rows), some (.int (w : Nat)), some (.lst []), none, none, none]) _ = _
    rw [this, oB]
    exact dLst_ (size_of (by have := List.length_filter_le (fun d => isL ((D.str x :: ps).getD (match d with | .int j => j.toNat | _ => 0) .non)) (rangeD (1 : Nat) ((D.str x :: ps).length - 1)); rw [rangeD_length] at this; simp only [List.length_cons] at *; omega))
   ·simp only [zSet]
    refine ⟨_, rfl, ?_, fun _ => ⟨x, ps, hlt, ex, fun d hd => ?_⟩⟩
    ·have := List.length_filter_le (fun d => isL ((D.str x :: ps).getD (match d with | .int j => j.toNat | _ => 0) .non)) (rangeD (1 : Nat) ((D.str x :: ps).length - 1)); rw [rangeD_length] at this; simp only [List.length_cons] at *; omega
    ·obtain ⟨hd1, hd2⟩ := List.mem_filter.mp hd
     obtain ⟨t, ht⟩ := List.getElem?_of_mem hd1
     obtain ⟨ht1, rfl⟩ := rangeD_get ht
     refine ⟨t + 1, by congr 1; omega, by omega, by omega, ?_⟩
     have e2 : (((1 : Nat) : Int) + (t : Nat)).toNat = t + 1 := by omega
     simp only [e2] at hd2
     exact hd2
  ·rw [Zd, zC]
   exact ⟨[], rfl, by simp, fun z => absurd rfl z⟩
 ·rintro o ⟨I, rfl, hI, hIn⟩
  rw [zk, zn]
  have hpI : pyOk (.lst I) = true := by
   by_cases z : I = []
   ·rw [z]; decide
   ·obtain ⟨x, ps, hlt, ex, hj⟩ := hIn z
    have hgr := (hg _ (mem_getD hlt)).fine
    rw [ex] at hgr
    have := hgr.tup.1
    exact zw.py (n := 1) (lN hI fun d hd => by
     obtain ⟨j, rfl, h1, h2, _⟩ := hj d hd
     exact ⟨.sc (small (m := 1000) (by omega) (by decide)) _, rfl⟩) (by omega)
  refine if_b (andc (zF (f2v rfl nilv (ne_nil hpI))) fun _ => zF (f2v (f2v (f2v rfl rfl (dDiv_s (by decide) (by decide))) rfl (dMod_s (by decide))) rfl gt_)) (fun e => ?_) (fun e => ?_)
  ·have hne : I ≠ [] := fun z => by rw [z] at e; cases e
   have hIl : 0 < I.length := by cases I with
    | nil => exact absurd rfl hne
    | cons a t => simp
   obtain ⟨x, ps, hlt, ex, hj⟩ := hIn hne
   obtain ⟨d, hd, ed⟩ := at_mod (L := I) (c := c / 60) hIl
   obtain ⟨j, rfl, j1, j2, j3⟩ := hj d hd
   obtain ⟨x', ps', ex', hsx, hpl, hps⟩ := hg _ (mem_getD hlt)
   rw [ex] at ex'
   cases ex'
   obtain ⟨k, rfl⟩ : ∃ k, j = k + 1 := ⟨j - 1, by omega⟩
   have hk : k < ps.length := by simp only [List.length_cons] at j2; omega
   have ekd : (D.str x :: ps).getD (k + 1) .non = ps.getD k .non := List.getD_cons_succ
   rw [ekd] at j3
   obtain ⟨ds, eds, hdl, hdg⟩ : ∃ ds, ps.getD k .non = .lst ds ∧ ds.length ≤ 20 ∧ ∀ r ∈ ds, Gr n r := by
    rcases hps _ (mem_getD hk) with ⟨_, z⟩ | z
    ·rw [z] at j3; cases j3
    ·exact z
   obtain ⟨out, eo, ho1, ho2, ho3⟩ := ih (fun z => by rw [z] at hlt; simp at hlt) ds (c / 120) hdl hdg
   rw [zn]
   refine set_ (d := .int ((k + 1 : Nat) : Int)) (fIxv (seqL rfl) (f2v (f2v rfl rfl (dDiv_s (by decide) (by decide))) (by rw [fA_, seqL (f := ze 5) (ds := I) rfl, oB, gLen_]) (dMod_s (by omega))) ed) ?_
   simp only [zSet, zk]
   rw [zn]
   refine new_ (d := .lst (.str x :: ps)) (by rw [fA_, seqT (fIxv (fb := ze 4) (seqL (f := ze 3) (ds := rows) rfl) rfl ((atB hlt).trans (by rw [ex])))]; rfl) (by simp) ?_
   simp only [zSet, zk]
   rw [zn]
   refine setIx_ (k := ((k + 1 : Nat) : Int)) (ds := .str x :: ps) (fA3 (fIxv (seqL rfl) rfl ((atB j2).trans (by rw [ekd, eds]))) (f2v rfl rfl (dDiv_s (by decide) (by decide))) rfl eo) rfl rfl (ixN_nat j2) ?_
   simp only [zSet, zk]
   refine setIx_ (k := ((w : Nat) : Int)) (ds := rows) (tupL rfl) rfl rfl (ixN_nat hlt) ?_
   simp only [zSet, zk]
   refine ret_ rfl ⟨_, rfl, by rw [List.length_set]; omega, fun r hr' => ?_, ?_⟩
   ·rcases mem_set hr' with hr' | rfl
    ·exact old r hr'
    ·refine ⟨?_, hsx⟩
     rw [show 2 * (n + 1) + q = 2 * n + q + 1 + 1 by omega]
     refine tN (n := 2 * n + q + 1) (by simp only [List.length_cons, List.length_set]; omega) fun d hd => ?_
     rcases List.mem_cons.mp hd with rfl | hd
     ·exact .sc hsx _
     ·rcases mem_set hd with hd | rfl
      ·rcases hps d hd with z | ⟨ds', rfl, z1, z2⟩
       ·exact z.1.mono (by omega)
       ·exact (lN (n := 2 * n + 2) (by omega) fun r hr => ⟨(z2 r hr).fine, (z2 r hr).hd⟩).mono (by omega)
      ·exact (lN (n := 2 * n + q) (by omega) ho2).mono (by omega)
   ·have w1 := wts_set rows w (.tup (.str x :: ps.set k (.lst out))) hlt
    have w2 := wts_set ps k (.lst out) hk
    rw [ex] at w1
    rw [eds, wt_lst, wt_lst] at w2
    simp only [wt_tup, wts] at w1
    omega
  ·refine if_b (zF (f2v (f2v (f2v rfl rfl (dDiv_s (by decide) (by decide))) rfl (dMod_s (by decide))) rfl dEqS_)) (fun _ => ?_) (fun _ => ?_)
   ·refine ins_ (k := w) (ds := rows) rfl rfl rfl hwl (by omega) ?_
    simp only [zSet, zk]
    refine ret_ rfl ⟨_, rfl, ?_, fun r hr' => ?_, ?_⟩
    ·unfold insAt; rw [List.length_append, List.length_cons, List.length_take, List.length_drop]; omega
    ·unfold insAt at hr'
     rcases List.mem_append.mp hr' with hr' | hr'
     ·exact old r (List.mem_of_mem_take hr')
     ·rcases List.mem_cons.mp hr' with rfl | hr'
      ·exact new
      ·exact old r (List.mem_of_mem_drop hr')
    ·unfold insAt; have := take_wts rows w; rw [wts_app, wts]; omega
   ·refine new_ (d := .lst ((rows.take w ++ [row]) ++ rows.drop (w + 1))) ?_ (by simp) ?_
    ·refine catv (lv (catv (lv (cutLTo (k := w) (seqL rfl) rfl)) (lv (lst1_ rfl)) (by rw [List.length_take]; simp only [List.length_cons, List.length_nil]; omega))) (lv (cutLFrom (k := w + 1) (seqL rfl) (f2v rfl rfl (add_.trans (by congr 2))))) (by rw [List.length_append, List.length_take, List.length_drop]; simp only [List.length_cons, List.length_nil]; omega)
    simp only [zSet, zk]
    refine ret_ rfl ⟨_, rfl, ?_, fun r hr' => ?_, ?_⟩
    ·rw [List.length_append, List.length_append, List.length_take, List.length_drop]; simp only [List.length_cons, List.length_nil]; omega
    ·rcases List.mem_append.mp hr' with hr' | hr'
     ·rcases List.mem_append.mp hr' with hr' | hr'
      ·exact old r (List.mem_of_mem_take hr')
      ·rw [List.mem_singleton.mp hr']; exact new
     ·exact old r (List.mem_of_mem_drop hr')
    ·have h1 := take_wts rows w
     have h2 := drop_wts (rows.drop w) 1
     rw [List.drop_drop] at h2
     rw [wts_app, wts_app, wts, wts]; omega
theorem bent_all : ∀ (n N : Nat), n < N → ∀ (rows : List D) (c : Int), rows.length ≤ 20 → (∀ r ∈ rows, Gr n r) → ∃ out, R'bent N [.lst rows, .int c, row] = some (.lst out) ∧ out.length ≤ 30 ∧ (∀ r ∈ out, zw (2 * n + 8) r ∧ Hd r = true) ∧ wts out ≤ wts rows + wt row + 1
 | n, 0, h => by omega
 | 0, N + 1, h => fun rows c hl hg => by
  have e : rows = [] := by cases rows with
   | nil => rfl
   | cons a t => exact (hg a List.mem_cons_self).elim
  subst e
  rw [show R'bent (N + 1) = ZD 3 8 (b'bent (R'bent N)) by rw [R'bent]]
  exact bent_step hr (n := 0) (q := 6) (by omega) [] (fun z => absurd rfl z) c hl (fun r hr' => by cases hr')
 | n + 1, N + 1, h => fun rows c hl hg => by
  rw [show R'bent (N + 1) = ZD 3 8 (b'bent (R'bent N)) by rw [R'bent]]
  exact bent_step hr (q := 8) (by omega) rows (fun _ => bent_all n N (by omega)) c hl hg
end
theorem l2 {n : Nat} {a b : D} (h : zw n a) (h' : Hd a = true) (g : zw n b) (g' : Hd b = true) : zw (n + 1) (.lst [a, b]) := lN (by simp) (by simp only [List.forall_mem_cons]; exact ⟨⟨h, h'⟩, ⟨g, g'⟩, fun r hr => by cases hr⟩)
structure W (d : D) : Prop where
 f : zw 20 d
 w : wt d ≤ 20000
section
variable {many : Nat} {B : List D} {s : Str}
def T1 (many : Nat) (B : List D) (s : Str) : List D := [.non, .int 7, .str "boxes 0", .tup [], .bl true, .tup [.int (many : Nat)]]
def T2 (many : Nat) (B : List D) (s : Str) : List D := [.lst [.int (many : Nat), .lst B], .tup [.int (many : Nat), .lst B, .int 0]]
def T3 (many : Nat) (B : List D) (s : Str) : List D := [.tup [.int (many : Nat), .lst []], .tup [.int (many : Nat), .non], .tup [.int 7, .lst B], .tup [.int (-1), .lst B], .tup [.bl true, .lst B]]
def T4 (many : Nat) (B : List D) (s : Str) : List D := [.tup [.str s, .lst B], .tup [.int (many : Nat), .tup B]]
def T5 (many : Nat) (B : List D) (s : Str) : List D := [.tup [.int (many : Nat), .lst (B ++ [.lst [], .lst [], .lst [], .lst []])], .tup [.int (((many : Nat) + 1) % 7), .lst B]]
def T6 (many : Nat) (B : List D) (s : Str) : List D := [.tup [.int (many : Nat), .lst (B ++ [.lst []])], .tup [.int (many : Nat), .lst [.tup []]]]
theorem T1_ok (hm : Sc (.int (many : Nat)) = true) (hm1 : Sc (.int (((many : Nat) + 1) % 7)) = true) (hs : Sc (.str s) = true) (hB : ∀ n, zw (n + 12) (.lst B)) (hBt : ∀ n, zw (n + 12) (.tup B)) (hB4 : ∀ n, zw (n + 12) (.lst (B ++ [.lst [], .lst [], .lst [], .lst []]))) (hB1 : ∀ n, zw (n + 12) (.lst (B ++ [.lst []]))) (wB : wts B ≤ 10000) : ∀ d ∈ T1 many B s, W d := by
 unfold T1
 simp only [List.forall_mem_cons]
 refine ⟨?_, ?_, ?_, ?_, ?_, ?_, fun r hr => by cases hr⟩
 ·exact ⟨(.sc (by decide) _), by simp only [wE]; omega⟩
 ·exact ⟨(.sc (by decide) _), by simp only [wE]; omega⟩
 ·exact ⟨(.sc (by decide) _), by simp only [wE]; omega⟩
 ·exact ⟨(t0), by simp only [wE]; omega⟩
 ·exact ⟨(.sc (by decide) _), by simp only [wE]; omega⟩
 ·exact ⟨(t1 (.sc hm _)), by simp only [wE]; omega⟩
theorem T2_ok (hm : Sc (.int (many : Nat)) = true) (hm1 : Sc (.int (((many : Nat) + 1) % 7)) = true) (hs : Sc (.str s) = true) (hB : ∀ n, zw (n + 12) (.lst B)) (hBt : ∀ n, zw (n + 12) (.tup B)) (hB4 : ∀ n, zw (n + 12) (.lst (B ++ [.lst [], .lst [], .lst [], .lst []]))) (hB1 : ∀ n, zw (n + 12) (.lst (B ++ [.lst []]))) (wB : wts B ≤ 10000) : ∀ d ∈ T2 many B s, W d := by
 unfold T2
 simp only [List.forall_mem_cons]
 refine ⟨?_, ?_, fun r hr => by cases hr⟩
 ·exact ⟨(l2 (.sc hm _) rfl (hB _) rfl), by simp only [wE]; omega⟩
 ·exact ⟨(t3 (.sc hm _) (hB _) (.sc (by decide) _)), by simp only [wE]; omega⟩
theorem T3_ok (hm : Sc (.int (many : Nat)) = true) (hm1 : Sc (.int (((many : Nat) + 1) % 7)) = true) (hs : Sc (.str s) = true) (hB : ∀ n, zw (n + 12) (.lst B)) (hBt : ∀ n, zw (n + 12) (.tup B)) (hB4 : ∀ n, zw (n + 12) (.lst (B ++ [.lst [], .lst [], .lst [], .lst []]))) (hB1 : ∀ n, zw (n + 12) (.lst (B ++ [.lst []]))) (wB : wts B ≤ 10000) : ∀ d ∈ T3 many B s, W d := by
 unfold T3
 simp only [List.forall_mem_cons]
 refine ⟨?_, ?_, ?_, ?_, ?_, fun r hr => by cases hr⟩
 ·exact ⟨(t2 (.sc hm _) (l0)), by simp only [wE]; omega⟩
 ·exact ⟨(t2 (.sc hm _) (.sc (by decide) _)), by simp only [wE]; omega⟩
 ·exact ⟨(t2 (.sc (by decide) _) (hB _)), by simp only [wE]; omega⟩
 ·exact ⟨(t2 (.sc (by decide) _) (hB _)), by simp only [wE]; omega⟩
 ·exact ⟨(t2 (.sc (by decide) _) (hB _)), by simp only [wE]; omega⟩
theorem T4_ok (hm : Sc (.int (many : Nat)) = true) (hm1 : Sc (.int (((many : Nat) + 1) % 7)) = true) (hs : Sc (.str s) = true) (hB : ∀ n, zw (n + 12) (.lst B)) (hBt : ∀ n, zw (n + 12) (.tup B)) (hB4 : ∀ n, zw (n + 12) (.lst (B ++ [.lst [], .lst [], .lst [], .lst []]))) (hB1 : ∀ n, zw (n + 12) (.lst (B ++ [.lst []]))) (wB : wts B ≤ 10000) : ∀ d ∈ T4 many B s, W d := by
 unfold T4
 simp only [List.forall_mem_cons]
 refine ⟨?_, ?_, fun r hr => by cases hr⟩
 ·exact ⟨(t2 (.sc hs _) (hB _)), by simp only [wE]; omega⟩
 ·exact ⟨(t2 (.sc hm _) (hBt _)), by simp only [wE]; omega⟩
theorem T5_ok (hm : Sc (.int (many : Nat)) = true) (hm1 : Sc (.int (((many : Nat) + 1) % 7)) = true) (hs : Sc (.str s) = true) (hB : ∀ n, zw (n + 12) (.lst B)) (hBt : ∀ n, zw (n + 12) (.tup B)) (hB4 : ∀ n, zw (n + 12) (.lst (B ++ [.lst [], .lst [], .lst [], .lst []]))) (hB1 : ∀ n, zw (n + 12) (.lst (B ++ [.lst []]))) (wB : wts B ≤ 10000) : ∀ d ∈ T5 many B s, W d := by
 unfold T5
 simp only [List.forall_mem_cons]
 refine ⟨?_, ?_, fun r hr => by cases hr⟩
 ·exact ⟨(t2 (.sc hm _) (hB4 _)), by simp only [wE]; omega⟩
 ·exact ⟨(t2 (.sc hm1 _) (hB _)), by simp only [wE]; omega⟩
theorem T6_ok (hm : Sc (.int (many : Nat)) = true) (hm1 : Sc (.int (((many : Nat) + 1) % 7)) = true) (hs : Sc (.str s) = true) (hB : ∀ n, zw (n + 12) (.lst B)) (hBt : ∀ n, zw (n + 12) (.tup B)) (hB4 : ∀ n, zw (n + 12) (.lst (B ++ [.lst [], .lst [], .lst [], .lst []]))) (hB1 : ∀ n, zw (n + 12) (.lst (B ++ [.lst []]))) (wB : wts B ≤ 10000) : ∀ d ∈ T6 many B s, W d := by
 unfold T6
 simp only [List.forall_mem_cons]
 refine ⟨?_, ?_, fun r hr => by cases hr⟩
 ·exact ⟨(t2 (.sc hm _) (hB1 _)), by simp only [wE]; omega⟩
 ·exact ⟨(t2 (.sc hm _) (l1 (t0) rfl)), by simp only [wE]; omega⟩
end
theorem str_v {many : Nat} (h : many ≤ 6) : ∃ s : Str, gStrI [.int (many : Nat)] = some (.str s) ∧ Sc (.str s) = true := by
  refine ⟨toString ((many : Nat) : Int), ?_, ?_⟩
  · show (if _ then _ else _) = _
    rw [if_pos (log_ok _ (by have : (6 : Nat) ≤ 10 ^ 50 := by decide
                             omega))]
  · have : many = 0 ∨ many = 1 ∨ many = 2 ∨ many = 3 ∨ many = 4 ∨ many = 5 ∨ many = 6 := by omega
    rcases this with rfl | rfl | rfl | rfl | rfl | rfl | rfl <;> decide +kernel
theorem wts_all : ∀ (B : List D) (k : Nat), (∀ b ∈ B, wt b ≤ k) → wts B ≤ (k + 1) * B.length
 | [], k, _ => by simp [wts]
 | b :: B, k, h => by
  have h1 := h b List.mem_cons_self
  have h2 := wts_all B k fun x hx => h x (List.mem_cons_of_mem _ hx)
  rw [wts, List.length_cons, Nat.mul_add]; omega
theorem Prog.bod {many : Nat} {B : List D} (P : Prog many B) : ∀ b ∈ B, zw 11 b ∧ Hd b = true := fun b hb => by
 obtain ⟨rs, rfl, h1, h2, _⟩ := P.ok b hb
 exact ⟨lN (by omega) fun r hr => ⟨(h2 r hr).fine, (h2 r hr).hd⟩, rfl⟩
theorem Prog.wB {many : Nat} {B : List D} (P : Prog many B) : wts B ≤ 10000 := by
 have h := wts_all B 2000 fun b hb => by obtain ⟨rs, rfl, _, _, h3⟩ := P.ok b hb; rw [wt_lst]; exact h3
 have := P.l4
 have h2 : (2000 + 1) * B.length ≤ (2000 + 1) * 4 := Nat.mul_le_mul_left _ this
 omega
theorem Prog.fine {many : Nat} {B : List D} (P : Prog many B) (n : Nat) : zw (n + 12) (.lst B) := lN (by have := P.l4; omega) fun b hb => ⟨(P.bod b hb).1.mono (by omega), (P.bod b hb).2⟩
theorem Prog.sm {many : Nat} {B : List D} (P : Prog many B) : Sc (.int (many : Nat)) = true := small (m := 10) (by have := P.m6; omega) (by decide)
theorem Prog.W {many : Nat} {B : List D} (P : Prog many B) : W (.tup [.int (many : Nat), .lst B]) :=
 ⟨t2 (.sc P.sm _) (P.fine 7), by have := P.wB; simp only [wt_tup, wts, wt_int, wt_lst]; omega⟩
theorem other_ok {many : Nat} {B : List D} (P : Prog many B) (c : Int) : ∃ d, m'other [.tup [.int (many : Nat), .lst B], .int c] = some d ∧ W d := by
 suffices h : Wo (m'other [.tup [.int (many : Nat), .lst B], .int c]) W by
  obtain ⟨d, e, q⟩ := h
  exact ⟨d, e, q⟩
 have h6 := P.m6
 have hl1 := P.l1
 have hl4 := P.l4
 have hm := P.sm
 have hm1 : Sc (.int (((many : Nat) + 1) % 7)) = true := small (m := 10) (by omega) (by decide)
 obtain ⟨s, es, hs⟩ := str_v h6
 have wB := P.wB
 have hB := P.fine
 have hBt : ∀ n, zw (n + 12) (.tup B) := fun n => tN (by omega) fun b hb => (P.bod b hb).1.mono (by omega)
 have hE : ∀ n, ∀ d ∈ [D.lst [], .lst [], .lst [], .lst []], zw (n + 11) d ∧ Hd d = true := fun n d hd => by
  have : d = .lst [] := by simpa using hd
  rw [this]; exact ⟨l0, rfl⟩
 have hB4 : ∀ n, zw (n + 12) (.lst (B ++ [.lst [], .lst [], .lst [], .lst []])) := fun n => lN (by rw [List.length_append]; simp only [List.length_cons, List.length_nil]; omega) fun d hd => by
  rcases List.mem_append.mp hd with hd | hd
  ·exact ⟨(P.bod d hd).1.mono (by omega), (P.bod d hd).2⟩
  ·exact hE n d hd
 have hB1 : ∀ n, zw (n + 12) (.lst (B ++ [.lst []])) := fun n => lN (by rw [List.length_append]; simp only [List.length_cons, List.length_nil]; omega) fun d hd => by
  rcases List.mem_append.mp hd with hd | hd
  ·exact ⟨(P.bod d hd).1.mono (by omega), (P.bod d hd).2⟩
  ·rw [List.mem_singleton.mp hd]; exact ⟨l0, rfl⟩
 have o1 := T1_ok hm hm1 hs hB hBt hB4 hB1 wB
 have o2 := T2_ok hm hm1 hs hB hBt hB4 hB1 wB
 have o3 := T3_ok hm hm1 hs hB hBt hB4 hB1 wB
 have o4 := T4_ok hm hm1 hs hB hBt hB4 hB1 wB
 have o5 := T5_ok hm hm1 hs hB hBt hB4 hB1 wB
 have o6 := T6_ok hm hm1 hs hB hBt hB4 hB1 wB
 unfold m'other b'other
 rw [ZF]
 refine ⟨rfl, ?_⟩
 simp only [Zc, zMap, zLen, List.replicate, zApp, Nat.zero_add, Nat.reduceAdd, Nat.reduceSub]
 rw [zn]
 refine asg_ rfl rfl ?_
 simp only [zSet, zk]
 rw [zn]
 refine set_ (d := .lst (T1 many B s)) rfl ?_
 simp only [zSet, zk]
 have app : ∀ {xs ys : List D}, (∀ d ∈ xs, W d) → (∀ d ∈ ys, W d) → ∀ d ∈ xs ++ ys, W d := fun h1 h2 d hd => (List.mem_append.mp hd).elim (h1 d) (h2 d)
 have n1 : (T1 many B s).length = 6 := rfl
 generalize T1 many B s = X at o1 n1 ⊢
 rw [zn]
 refine set_ (d := .lst (X ++ T2 many B s)) (catv (lv rfl) (lv rfl) (by rw [n1]; show 6 + 2 ≤ 1000000; decide)) ?_
 simp only [zSet, zk]
 have o1 := app o1 o2
 have n1 : (X ++ T2 many B s).length = 8 := by rw [List.length_append, n1]; rfl
 generalize X ++ T2 many B s = X at o1 n1 ⊢
 rw [zn]
 refine set_ (d := .lst (X ++ T3 many B s)) (catv (lv rfl) (lv rfl) (by rw [n1]; show 8 + 5 ≤ 1000000; decide)) ?_
 simp only [zSet, zk]
 have o1 := app o1 o3
 have n1 : (X ++ T3 many B s).length = 13 := by rw [List.length_append, n1]; rfl
 generalize X ++ T3 many B s = X at o1 n1 ⊢
 rw [zn]
 refine set_ (d := .lst (X ++ T4 many B s)) (catv (lv rfl) (lv (lstv (consv (tup2v (fA1 rfl es) rfl) (consv (tup2v rfl (tupL rfl)) rfl)) (by show 2 ≤ 1000; decide))) (by rw [n1]; show 13 + 2 ≤ 1000000; decide)) ?_
 simp only [zSet, zk]
 have o1 := app o1 o4
 have n1 : (X ++ T4 many B s).length = 15 := by rw [List.length_append, n1]; rfl
 generalize X ++ T4 many B s = X at o1 n1 ⊢
 rw [zn]
 refine set_ (d := .lst (X ++ T5 many B s)) (catv (lv rfl) (lv (lstv (consv (tup2v rfl (catv (xs := B) (ys := [.lst [], .lst [], .lst [], .lst []]) (lv rfl) (lv (lst4_ nilv nilv nilv nilv)) (by simp only [List.length_cons, List.length_nil]; omega))) (consv (tup2v (f2v (f2v rfl rfl add_) rfl (dMod_s (by decide))) rfl) rfl)) (by show 2 ≤ 1000; decide))) (by rw [n1]; show 15 + 2 ≤ 1000000; decide)) ?_
 simp only [zSet, zk]
 have o1 := app o1 o5
 have n1 : (X ++ T5 many B s).length = 17 := by rw [List.length_append, n1]; rfl
 generalize X ++ T5 many B s = X at o1 n1 ⊢
 rw [zn]
 refine set_ (d := .lst (X ++ T6 many B s)) (catv (lv rfl) (lv (lstv (consv (tup2v rfl (catv (xs := B) (ys := [.lst []]) (lv rfl) (lv (lst1_ nilv)) (by simp only [List.length_cons, List.length_nil]; omega))) (consv (tup2v rfl (lst1_ rfl)) rfl)) (by show 2 ≤ 1000; decide))) (by rw [n1]; show 17 + 2 ≤ 1000000; decide)) ?_
 simp only [zSet, zk]
 have o1 := app o1 o6
 have n1 : (X ++ T6 many B s).length = 19 := by rw [List.length_append, n1]; rfl
 generalize X ++ T6 many B s = X at o1 n1 ⊢
 rw [zn]
 refine if_b (zF (f2v (f2v rfl rfl (dMod_s (by decide))) rfl dEqS_)) (fun _ => ?_) (fun _ => ?_)
 ·obtain ⟨d, hd, ed⟩ := at_mod (L := X) (c := c / 4) (by omega)
  exact Zj (fIxv (seqL rfl) (f2v (f2v rfl rfl (dDiv_s (by decide) (by decide))) (by rw [fA_, seqL (f := ze 4) (ds := X) rfl, oB, gLen_]) (dMod_s (by omega))) ed) (o1 d hd)
 ·rw [Zd, zC, zk]
  have elB : ∀ ρ : Ev, ρ[3]?.join = some (.lst B) → fA gLen (zu true (ze 3)) ρ = some (.int (B.length : Nat)) := fun ρ h => by
   rw [fA_, seqL (f := ze 3) (ds := B) h, oB]; rfl
  have q0 := Int.emod_nonneg (c / 4) (show ((B.length : Nat) : Int) ≠ 0 by omega)
  have q1 := Int.emod_lt_of_pos (c / 4) (show (0 : Int) < (B.length : Nat) by omega)
  obtain ⟨j, hj⟩ : ∃ j : Nat, c / 4 % (B.length : Nat) = (j : Nat) := ⟨(c / 4 % (B.length : Nat)).toNat, by omega⟩
  have hjl : j < B.length := by omega
  rw [zn]
  refine set_ (d := .int (j : Nat)) (f2v (f2v rfl rfl (dDiv_s (by decide) (by decide))) (elB _ rfl) ((dMod_s (by omega)).trans (by rw [hj]))) ?_
  simp only [zSet, zk]
  obtain ⟨row, er, hr⟩ := bent_rows_ok (c / 16) (many := many) (count := B.length) h6 hl4
  rw [zn]
  refine set_ (fA3 rfl (elB _ rfl) (f2v rfl rfl (dDiv_s (by decide) (by decide))) er) ?_
  simp only [zSet, zk]
  rw [zn]
  refine new_ (d := .lst B) (by rw [fA_, seqL (f := ze 3) (ds := B) rfl]; rfl) (by simp) ?_
  simp only [zSet, zk]
  obtain ⟨rs, ers, r1, r2, r3⟩ := P.ok _ (mem_getD hjl)
  obtain ⟨out, eo, ho1, ho2, ho3⟩ := bent_all hr 4 24 (by omega) rs (c / 1024) (by omega) r2
  rw [zn]
  refine setIx_ (k := ((j : Nat) : Int)) (ds := B) (fA3 (g := m'bent) (fIxv (seqL rfl) rfl ((atB hjl).trans (by rw [ers]))) (f2v rfl rfl (dDiv_s (by decide) (by decide))) rfl eo) rfl rfl (ixN_nat hjl) ?_
  simp only [zSet, zk]
  refine ret_ (tup2v rfl rfl) ⟨t2 (.sc hm _) (lN (n := 18) (by rw [List.length_set]; omega) fun d hd => ?_), ?_⟩
  ·rcases mem_set hd with hd | rfl
   ·exact ⟨(P.bod d hd).1.mono (by omega), (P.bod d hd).2⟩
   ·exact ⟨lN (n := 17) (by omega) fun r hr' => ⟨(ho2 r hr').1.mono (by omega), (ho2 r hr').2⟩, rfl⟩
  ·have w1 := wts_set B j (.lst out) hjl
   have := hr.w
   rw [ers, wt_lst, wt_lst] at w1
   simp only [wt_tup, wts, wt_int, wt_lst]
   omega
theorem told_W {d : D} (h : W d) : m'told [d] = some (.bl true) := told_v h.f (by omega) (by have := h.w; omega)
theorem cut_mem {ds : List D} {lo hi : Option Int} {d : D} (h : d ∈ cutD ds lo hi) : d ∈ ds := by
 unfold cutD at h
 exact List.mem_of_mem_drop (List.mem_of_mem_take h)
theorem cut_len {ds : List D} {lo hi : Option Int} : (cutD ds lo hi).length ≤ ds.length := by
 unfold cutD
 rw [List.length_take, List.length_drop]; omega
theorem law_holds (ns : List Int) (hl : ns.length ≤ 63) : m_law [.scr ns] = some (.bl true) := by
 obtain ⟨many, B, ep, P⟩ := program_ok ns
 have tp := told_W P.W
 obtain ⟨v, ev⟩ := cell_ok ns 60 (by omega) (by omega)
 refine Wo.eq ?_
 unfold m_law b_law
 rw [ZF]
 refine ⟨rfl, ?_⟩
 simp only [Zc, zMap, zLen, List.replicate, zApp, Nat.zero_add, Nat.reduceAdd, Nat.reduceSub]
 rw [zn]
 refine set_ (fA1 rfl ep) ?_
 simp only [zSet, zk]
 rw [zn]
 refine if_f (not_t (zF (fA1 rfl tp))) ?_
 rw [Zd, zC, zk, zn, mFor_]
 have ec : fCut .lst (zu true (ze 0)) (fPart (fC (.int 30))) (fPart (fC (.int 50))) [some (.scr ns), some (.tup [.int (many : Nat), .lst B]), none] = some (.lst (cutD (ns.map .int) (some 30) (some 50))) := rfl
 have hcl := cut_len (ds := ns.map .int) (lo := some 30) (hi := some 50)
 rw [List.length_map] at hcl
 rw [seqL (catv (lv ec) (lv (lst1_ (fA2 rfl rfl ev))) (by simp only [List.length_cons, List.length_nil]; omega)), oB]
 refine wo_for (fun i ρ => ∃ z : Option D, ρ = [some (.scr ns), some (.tup [.int (many : Nat), .lst B]), z]) ⟨_, rfl⟩ ?_ ?_
 ·rintro i d ρ hd ⟨z, rfl⟩
  have hm := List.mem_of_getElem? hd
  obtain ⟨c, rfl⟩ : ∃ c : Int, d = .int c := by
   rcases List.mem_append.mp hm with h | h
   ·obtain ⟨x, _, rfl⟩ := List.mem_map.mp (cut_mem h)
    exact ⟨x, rfl⟩
   ·exact ⟨v, List.mem_singleton.mp h⟩
  obtain ⟨o, eo, ho⟩ := other_ok P c
  rw [uName_, zC]
  simp only [zSet]
  refine if_f (or_ff (not_t (zF (fA1 (fA2 rfl rfl eo) (told_W ho)))) (not_t (zF (fA1 rfl tp)))) ?_
  exact ⟨_, rfl, _, rfl⟩
 ·rintro ρ ⟨z, rfl⟩
  rw [zk]
  exact ret_ rfl rfl
open PySem L2 M
open PySem.W (Frag)
theorem txt_mk {K : Frag} {h : Heap} {mg : Str → Option Value} (X : K.In h) (G : h.Ns mainGlobals mg)
    {f0 : Addr} {od0 an0 : Option Addr} {sl0 : Array (Option Value)} {oc0 kV0 dc0 pm0 cd0 ct0 : Value}
    {f1 : Addr} {od1 an1 : Option Addr} {sl1 : Array (Option Value)} {oc1 kV1 dc1 pm1 cd1 ct1 : Value}
    {f2 : Addr} {od2 an2 : Option Addr} {sl2 : Array (Option Value)} {oc2 kV2 dc2 pm2 cd2 ct2 : Value}
    {f3 : Addr} {od3 an3 : Option Addr} {sl3 : Array (Option Value)} {oc3 kV3 dc3 pm3 cd3 ct3 : Value}
    {f4 : Addr} {od4 an4 : Option Addr} {sl4 : Array (Option Value)} {oc4 kV4 dc4 pm4 cd4 ct4 : Value}
    {f5 : Addr} {od5 an5 : Option Addr} {sl5 : Array (Option Value)} {oc5 kV5 dc5 pm5 cd5 ct5 : Value}
    {f6 : Addr} {od6 an6 : Option Addr} {sl6 : Array (Option Value)} {oc6 kV6 dc6 pm6 cd6 ct6 : Value}
    {f7 : Addr} {od7 an7 : Option Addr} {sl7 : Array (Option Value)} {oc7 kV7 dc7 pm7 cd7 ct7 : Value}
    {f8 : Addr} {od8 an8 : Option Addr} {sl8 : Array (Option Value)} {oc8 kV8 dc8 pm8 cd8 ct8 : Value}
    {f9 : Addr} {od9 an9 : Option Addr} {sl9 : Array (Option Value)} {oc9 kV9 dc9 pm9 cd9 ct9 : Value}
    {f10 : Addr} {od10 an10 : Option Addr} {sl10 : Array (Option Value)} {oc10 kV10 dc10 pm10 cd10 ct10 : Value}
    {f11 : Addr} {od11 an11 : Option Addr} {sl11 : Array (Option Value)} {oc11 kV11 dc11 pm11 cd11 ct11 : Value}
    {f12 : Addr} {od12 an12 : Option Addr} {sl12 : Array (Option Value)} {oc12 kV12 dc12 pm12 cd12 ct12 : Value}
    {f13 : Addr} {od13 an13 : Option Addr} {sl13 : Array (Option Value)} {oc13 kV13 dc13 pm13 cd13 ct13 : Value}
    {f14 : Addr} {od14 an14 : Option Addr} {sl14 : Array (Option Value)} {oc14 kV14 dc14 pm14 cd14 ct14 : Value}
    {f15 : Addr} {od15 an15 : Option Addr} {sl15 : Array (Option Value)} {oc15 kV15 dc15 pm15 cd15 ct15 : Value}
    {f16 : Addr} {od16 an16 : Option Addr} {sl16 : Array (Option Value)} {oc16 kV16 dc16 pm16 cd16 ct16 : Value}
    {f17 : Addr} {od17 an17 : Option Addr} {sl17 : Array (Option Value)} {oc17 kV17 dc17 pm17 cd17 ct17 : Value}
    {f18 : Addr} {od18 an18 : Option Addr} {sl18 : Array (Option Value)} {oc18 kV18 dc18 pm18 cd18 ct18 : Value}
    {f19 : Addr} {od19 an19 : Option Addr} {sl19 : Array (Option Value)} {oc19 kV19 dc19 pm19 cd19 ct19 : Value}
    {f20 : Addr} {od20 an20 : Option Addr} {sl20 : Array (Option Value)} {oc20 kV20 dc20 pm20 cd20 ct20 : Value}
    {f21 : Addr} {od21 an21 : Option Addr} {sl21 : Array (Option Value)} {oc21 kV21 dc21 pm21 cd21 ct21 : Value}
    {f22 : Addr} {od22 an22 : Option Addr} {sl22 : Array (Option Value)} {oc22 kV22 dc22 pm22 cd22 ct22 : Value}
    {f23 : Addr} {od23 an23 : Option Addr} {sl23 : Array (Option Value)} {oc23 kV23 dc23 pm23 cd23 ct23 : Value}
    {f24 : Addr} {od24 an24 : Option Addr} {sl24 : Array (Option Value)} {oc24 kV24 dc24 pm24 cd24 ct24 : Value}
    {f25 : Addr} {od25 an25 : Option Addr} {sl25 : Array (Option Value)} {oc25 kV25 dc25 pm25 cd25 ct25 : Value}
    {f26 : Addr} {od26 an26 : Option Addr} {sl26 : Array (Option Value)} {oc26 kV26 dc26 pm26 cd26 ct26 : Value}
    {f27 : Addr} {od27 an27 : Option Addr} {sl27 : Array (Option Value)} {oc27 kV27 dc27 pm27 cd27 ct27 : Value}
    {t_MOST_BODIES : Tok}
    {t_MOST_BOXES : Tok}
    {t_MOST_DEEP : Tok}
    {t_MOST_IN_A_LINE : Tok}
    {t_MOST_PLACES : Tok}
    (a0 : nsIn K mainGlobals "is_program" = some (some (.ref f0))) (l0 : K.lookup f0 = some ⟨oc0, od0, .func (fnOf "is_program" "is_program" (zq Zn) (zm Zn) (zi Zn) .none kV0 dc0 pm0 an0 cd0 ct0), sl0⟩) (c0 : codeIn K cd0 "is_program" = true) (k0 : keepIn K (.ref f0) = true)
    (a1 : nsIn K mainGlobals "has_parts" = some (some (.ref f1))) (l1 : K.lookup f1 = some ⟨oc1, od1, .func (fnOf "has_parts" "has_parts" (zq ZA) (zm ZA) (zi ZA) .none kV1 dc1 pm1 an1 cd1 ct1), sl1⟩) (c1 : codeIn K cd1 "has_parts" = true) (k1 : keepIn K (.ref f1) = true)
    (a2 : nsIn K mainGlobals "is_number" = some (some (.ref f2))) (l2 : K.lookup f2 = some ⟨oc2, od2, .func (fnOf "is_number" "is_number" (zq Zz) (zm Zz) (zi Zz) .none kV2 dc2 pm2 an2 cd2 ct2), sl2⟩) (c2 : codeIn K cd2 "is_number" = true) (k2 : keepIn K (.ref f2) = true)
    (a3 : nsIn K mainGlobals "are_rows" = some (some (.ref f3))) (l3 : K.lookup f3 = some ⟨oc3, od3, .func (fnOf "are_rows" "are_rows" (zq s_are_rows) (zm s_are_rows) (zi s_are_rows) .none kV3 dc3 pm3 an3 cd3 ct3), sl3⟩) (c3 : codeIn K cd3 "are_rows" = true) (k3 : keepIn K (.ref f3) = true)
    (a4 : nsIn K mainGlobals "is_row" = some (some (.ref f4))) (l4 : K.lookup f4 = some ⟨oc4, od4, .func (fnOf "is_row" "is_row" (zq s_is_row) (zm s_is_row) (zi s_is_row) .none kV4 dc4 pm4 an4 cd4 ct4), sl4⟩) (c4 : codeIn K cd4 "is_row" = true) (k4 : keepIn K (.ref f4) = true)
    (a5 : nsIn K mainGlobals "is_set_line" = some (some (.ref f5))) (l5 : K.lookup f5 = some ⟨oc5, od5, .func (fnOf "is_set_line" "is_set_line" (zq Ze) (zm Ze) (zi Ze) .none kV5 dc5 pm5 an5 cd5 ct5), sl5⟩) (c5 : codeIn K cd5 "is_set_line" = true) (k5 : keepIn K (.ref f5) = true)
    (a6 : nsIn K mainGlobals "all_keep_bounds" = some (some (.ref f6))) (l6 : K.lookup f6 = some ⟨oc6, od6, .func (fnOf "all_keep_bounds" "all_keep_bounds" (zq zQ) (zm zQ) (zi zQ) .none kV6 dc6 pm6 an6 cd6 ct6), sl6⟩) (c6 : codeIn K cd6 "all_keep_bounds" = true) (k6 : keepIn K (.ref f6) = true)
    (a7 : nsIn K mainGlobals "lists_in" = some (some (.ref f7))) (l7 : K.lookup f7 = some ⟨oc7, od7, .func (fnOf "lists_in" "lists_in" (zq s_lists_in) (zm s_lists_in) (zi s_lists_in) .none kV7 dc7 pm7 an7 cd7 ct7), sl7⟩) (c7 : codeIn K cd7 "lists_in" = true) (k7 : keepIn K (.ref f7) = true)
    (a8 : nsIn K mainGlobals "new_places" = some (some (.ref f8))) (l8 : K.lookup f8 = some ⟨oc8, od8, .func (fnOf "new_places" "new_places" (zq Zm) (zm Zm) (zi Zm) .none kV8 dc8 pm8 an8 cd8 ct8), sl8⟩) (c8 : codeIn K cd8 "new_places" = true) (k8 : keepIn K (.ref f8) = true)
    (a9 : nsIn K mainGlobals "new_places_of_row" = some (some (.ref f9))) (l9 : K.lookup f9 = some ⟨oc9, od9, .func (fnOf "new_places_of_row" "new_places_of_row" (zq zH) (zm zH) (zi zH) .none kV9 dc9 pm9 an9 cd9 ct9), sl9⟩) (c9 : codeIn K cd9 "new_places_of_row" = true) (k9 : keepIn K (.ref f9) = true)
    (a10 : nsIn K mainGlobals "depth" = some (some (.ref f10))) (l10 : K.lookup f10 = some ⟨oc10, od10, .func (fnOf "depth" "depth" (zq s_depth) (zm s_depth) (zi s_depth) .none kV10 dc10 pm10 an10 cd10 ct10), sl10⟩) (c10 : codeIn K cd10 "depth" = true) (k10 : keepIn K (.ref f10) = true)
    (a11 : nsIn K mainGlobals "depth_of_row" = some (some (.ref f11))) (l11 : K.lookup f11 = some ⟨oc11, od11, .func (fnOf "depth_of_row" "depth_of_row" (zq zW) (zm zW) (zi zW) .none kV11 dc11 pm11 an11 cd11 ct11), sl11⟩) (c11 : codeIn K cd11 "depth_of_row" = true) (k11 : keepIn K (.ref f11) = true)
    (a12 : nsIn K mainGlobals "_law_cell" = some (some (.ref f12))) (l12 : K.lookup f12 = some ⟨oc12, od12, .func (fnOf "_law_cell" "_law_cell" (zq s'cell) (zm s'cell) (zi s'cell) .none kV12 dc12 pm12 an12 cd12 ct12), sl12⟩) (c12 : codeIn K cd12 "_law_cell" = true) (k12 : keepIn K (.ref f12) = true)
    (a13 : nsIn K mainGlobals "_law_line" = some (some (.ref f13))) (l13 : K.lookup f13 = some ⟨oc13, od13, .func (fnOf "_law_line" "_law_line" (zq s'line) (zm s'line) (zi s'line) .none kV13 dc13 pm13 an13 cd13 ct13), sl13⟩) (c13 : codeIn K cd13 "_law_line" = true) (k13 : keepIn K (.ref f13) = true)
    (a14 : nsIn K mainGlobals "_law_row" = some (some (.ref f14))) (l14 : K.lookup f14 = some ⟨oc14, od14, .func (fnOf "_law_row" "_law_row" (zq s'row) (zm s'row) (zi s'row) .none kV14 dc14 pm14 an14 cd14 ct14), sl14⟩) (c14 : codeIn K cd14 "_law_row" = true) (k14 : keepIn K (.ref f14) = true)
    (a15 : nsIn K mainGlobals "_law_body" = some (some (.ref f15))) (l15 : K.lookup f15 = some ⟨oc15, od15, .func (fnOf "_law_body" "_law_body" (zq s'body) (zm s'body) (zi s'body) .none kV15 dc15 pm15 an15 cd15 ct15), sl15⟩) (c15 : codeIn K cd15 "_law_body" = true) (k15 : keepIn K (.ref f15) = true)
    (a16 : nsIn K mainGlobals "_law_program" = some (some (.ref f16))) (l16 : K.lookup f16 = some ⟨oc16, od16, .func (fnOf "_law_program" "_law_program" (zq s'program) (zm s'program) (zi s'program) .none kV16 dc16 pm16 an16 cd16 ct16), sl16⟩) (c16 : codeIn K cd16 "_law_program" = true) (k16 : keepIn K (.ref f16) = true)
    (a17 : nsIn K mainGlobals "_law_bent_line" = some (some (.ref f17))) (l17 : K.lookup f17 = some ⟨oc17, od17, .func (fnOf "_law_bent_line" "_law_bent_line" (zq ZC) (zm ZC) (zi ZC) .none kV17 dc17 pm17 an17 cd17 ct17), sl17⟩) (c17 : codeIn K cd17 "_law_bent_line" = true) (k17 : keepIn K (.ref f17) = true)
    (a18 : nsIn K mainGlobals "_law_bent_rows" = some (some (.ref f18))) (l18 : K.lookup f18 = some ⟨oc18, od18, .func (fnOf "_law_bent_rows" "_law_bent_rows" (zq ZB) (zm ZB) (zi ZB) .none kV18 dc18 pm18 an18 cd18 ct18), sl18⟩) (c18 : codeIn K cd18 "_law_bent_rows" = true) (k18 : keepIn K (.ref f18) = true)
    (a19 : nsIn K mainGlobals "_law_bent" = some (some (.ref f19))) (l19 : K.lookup f19 = some ⟨oc19, od19, .func (fnOf "_law_bent" "_law_bent" (zq s'bent) (zm s'bent) (zi s'bent) .none kV19 dc19 pm19 an19 cd19 ct19), sl19⟩) (c19 : codeIn K cd19 "_law_bent" = true) (k19 : keepIn K (.ref f19) = true)
    (a20 : nsIn K mainGlobals "_law_other" = some (some (.ref f20))) (l20 : K.lookup f20 = some ⟨oc20, od20, .func (fnOf "_law_other" "_law_other" (zq s'other) (zm s'other) (zi s'other) .none kV20 dc20 pm20 an20 cd20 ct20), sl20⟩) (c20 : codeIn K cd20 "_law_other" = true) (k20 : keepIn K (.ref f20) = true)
    (a21 : nsIn K mainGlobals "_law_whole" = some (some (.ref f21))) (l21 : K.lookup f21 = some ⟨oc21, od21, .func (fnOf "_law_whole" "_law_whole" (zq s'whole) (zm s'whole) (zi s'whole) .none kV21 dc21 pm21 an21 cd21 ct21), sl21⟩) (c21 : codeIn K cd21 "_law_whole" = true) (k21 : keepIn K (.ref f21) = true)
    (a22 : nsIn K mainGlobals "_law_is_line" = some (some (.ref f22))) (l22 : K.lookup f22 = some ⟨oc22, od22, .func (fnOf "_law_is_line" "_law_is_line" (zq s'is_line) (zm s'is_line) (zi s'is_line) .none kV22 dc22 pm22 an22 cd22 ct22), sl22⟩) (c22 : codeIn K cd22 "_law_is_line" = true) (k22 : keepIn K (.ref f22) = true)
    (a23 : nsIn K mainGlobals "_law_row_size" = some (some (.ref f23))) (l23 : K.lookup f23 = some ⟨oc23, od23, .func (fnOf "_law_row_size" "_law_row_size" (zq s'row_size) (zm s'row_size) (zi s'row_size) .none kV23 dc23 pm23 an23 cd23 ct23), sl23⟩) (c23 : codeIn K cd23 "_law_row_size" = true) (k23 : keepIn K (.ref f23) = true)
    (a24 : nsIn K mainGlobals "_law_size" = some (some (.ref f24))) (l24 : K.lookup f24 = some ⟨oc24, od24, .func (fnOf "_law_size" "_law_size" (zq s'size) (zm s'size) (zi s'size) .none kV24 dc24 pm24 an24 cd24 ct24), sl24⟩) (c24 : codeIn K cd24 "_law_size" = true) (k24 : keepIn K (.ref f24) = true)
    (a25 : nsIn K mainGlobals "_law_due" = some (some (.ref f25))) (l25 : K.lookup f25 = some ⟨oc25, od25, .func (fnOf "_law_due" "_law_due" (zq s'due) (zm s'due) (zi s'due) .none kV25 dc25 pm25 an25 cd25 ct25), sl25⟩) (c25 : codeIn K cd25 "_law_due" = true) (k25 : keepIn K (.ref f25) = true)
    (a26 : nsIn K mainGlobals "_law_told" = some (some (.ref f26))) (l26 : K.lookup f26 = some ⟨oc26, od26, .func (fnOf "_law_told" "_law_told" (zq s'told) (zm s'told) (zi s'told) .none kV26 dc26 pm26 an26 cd26 ct26), sl26⟩) (c26 : codeIn K cd26 "_law_told" = true) (k26 : keepIn K (.ref f26) = true)
    (a27 : nsIn K mainGlobals "law" = some (some (.ref f27))) (l27 : K.lookup f27 = some ⟨oc27, od27, .func (fnOf "law" "law" (zq s_law) (zm s_law) (zi s_law) .none kV27 dc27 pm27 an27 cd27 ct27), sl27⟩) (c27 : codeIn K cd27 "law" = true) (k27 : keepIn K (.ref f27) = true)
    (z_abs : nsIn K mainGlobals "abs" = some none)
    (z_all : nsIn K mainGlobals "all" = some none)
    (z_bool : nsIn K mainGlobals "bool" = some none)
    (z_enumerate : nsIn K mainGlobals "enumerate" = some none)
    (z_int : nsIn K mainGlobals "int" = some none)
    (z_isinstance : nsIn K mainGlobals "isinstance" = some none)
    (z_len : nsIn K mainGlobals "len" = some none)
    (z_list : nsIn K mainGlobals "list" = some none)
    (z_max : nsIn K mainGlobals "max" = some none)
    (z_range : nsIn K mainGlobals "range" = some none)
    (z_repr : nsIn K mainGlobals "repr" = some none)
    (z_reversed : nsIn K mainGlobals "reversed" = some none)
    (z_str : nsIn K mainGlobals "str" = some none)
    (z_sum : nsIn K mainGlobals "sum" = some none)
    (z_tuple : nsIn K mainGlobals "tuple" = some none)
    (c_MOST_BODIES : nsIn K mainGlobals "MOST_BODIES" = some (some (.int 4 t_MOST_BODIES)))
    (c_MOST_BOXES : nsIn K mainGlobals "MOST_BOXES" = some (some (.int 6 t_MOST_BOXES)))
    (c_MOST_DEEP : nsIn K mainGlobals "MOST_DEEP" = some (some (.int 6 t_MOST_DEEP)))
    (c_MOST_IN_A_LINE : nsIn K mainGlobals "MOST_IN_A_LINE" = some (some (.int 999999 t_MOST_IN_A_LINE)))
    (c_MOST_PLACES : nsIn K mainGlobals "MOST_PLACES" = some (some (.int 40 t_MOST_PLACES))) :
    Txt K mg ⟨f0, (fnOf "is_program" "is_program" (zq Zn) (zm Zn) (zi Zn) .none kV0 dc0 pm0 an0 cd0 ct0), f1, (fnOf "has_parts" "has_parts" (zq ZA) (zm ZA) (zi ZA) .none kV1 dc1 pm1 an1 cd1 ct1), f2, (fnOf "is_number" "is_number" (zq Zz) (zm Zz) (zi Zz) .none kV2 dc2 pm2 an2 cd2 ct2), f3, (fnOf "are_rows" "are_rows" (zq s_are_rows) (zm s_are_rows) (zi s_are_rows) .none kV3 dc3 pm3 an3 cd3 ct3), f4, (fnOf "is_row" "is_row" (zq s_is_row) (zm s_is_row) (zi s_is_row) .none kV4 dc4 pm4 an4 cd4 ct4), f5, (fnOf "is_set_line" "is_set_line" (zq Ze) (zm Ze) (zi Ze) .none kV5 dc5 pm5 an5 cd5 ct5), f6, (fnOf "all_keep_bounds" "all_keep_bounds" (zq zQ) (zm zQ) (zi zQ) .none kV6 dc6 pm6 an6 cd6 ct6), f7, (fnOf "lists_in" "lists_in" (zq s_lists_in) (zm s_lists_in) (zi s_lists_in) .none kV7 dc7 pm7 an7 cd7 ct7), f8, (fnOf "new_places" "new_places" (zq Zm) (zm Zm) (zi Zm) .none kV8 dc8 pm8 an8 cd8 ct8), f9, (fnOf "new_places_of_row" "new_places_of_row" (zq zH) (zm zH) (zi zH) .none kV9 dc9 pm9 an9 cd9 ct9), f10, (fnOf "depth" "depth" (zq s_depth) (zm s_depth) (zi s_depth) .none kV10 dc10 pm10 an10 cd10 ct10), f11, (fnOf "depth_of_row" "depth_of_row" (zq zW) (zm zW) (zi zW) .none kV11 dc11 pm11 an11 cd11 ct11), f12, (fnOf "_law_cell" "_law_cell" (zq s'cell) (zm s'cell) (zi s'cell) .none kV12 dc12 pm12 an12 cd12 ct12), f13, (fnOf "_law_line" "_law_line" (zq s'line) (zm s'line) (zi s'line) .none kV13 dc13 pm13 an13 cd13 ct13), f14, (fnOf "_law_row" "_law_row" (zq s'row) (zm s'row) (zi s'row) .none kV14 dc14 pm14 an14 cd14 ct14), f15, (fnOf "_law_body" "_law_body" (zq s'body) (zm s'body) (zi s'body) .none kV15 dc15 pm15 an15 cd15 ct15), f16, (fnOf "_law_program" "_law_program" (zq s'program) (zm s'program) (zi s'program) .none kV16 dc16 pm16 an16 cd16 ct16), f17, (fnOf "_law_bent_line" "_law_bent_line" (zq ZC) (zm ZC) (zi ZC) .none kV17 dc17 pm17 an17 cd17 ct17), f18, (fnOf "_law_bent_rows" "_law_bent_rows" (zq ZB) (zm ZB) (zi ZB) .none kV18 dc18 pm18 an18 cd18 ct18), f19, (fnOf "_law_bent" "_law_bent" (zq s'bent) (zm s'bent) (zi s'bent) .none kV19 dc19 pm19 an19 cd19 ct19), f20, (fnOf "_law_other" "_law_other" (zq s'other) (zm s'other) (zi s'other) .none kV20 dc20 pm20 an20 cd20 ct20), f21, (fnOf "_law_whole" "_law_whole" (zq s'whole) (zm s'whole) (zi s'whole) .none kV21 dc21 pm21 an21 cd21 ct21), f22, (fnOf "_law_is_line" "_law_is_line" (zq s'is_line) (zm s'is_line) (zi s'is_line) .none kV22 dc22 pm22 an22 cd22 ct22), f23, (fnOf "_law_row_size" "_law_row_size" (zq s'row_size) (zm s'row_size) (zi s'row_size) .none kV23 dc23 pm23 an23 cd23 ct23), f24, (fnOf "_law_size" "_law_size" (zq s'size) (zm s'size) (zi s'size) .none kV24 dc24 pm24 an24 cd24 ct24), f25, (fnOf "_law_due" "_law_due" (zq s'due) (zm s'due) (zi s'due) .none kV25 dc25 pm25 an25 cd25 ct25), f26, (fnOf "_law_told" "_law_told" (zq s'told) (zm s'told) (zi s'told) .none kV26 dc26 pm26 an26 cd26 ct26), f27, (fnOf "law" "law" (zq s_law) (zm s_law) (zi s_law) .none kV27 dc27 pm27 an27 cd27 ct27), t_MOST_BODIES, t_MOST_BOXES, t_MOST_DEEP, t_MOST_IN_A_LINE, t_MOST_PLACES⟩ :=
  ⟨zL (st := Zn) l0 c0 k0,
   (zL (st := Zn) l0 c0 k0).binds (ps := ["thing"]) fun _ _ _ _ _ _ us hl => match us, hl with | [_], _ => rfl,
   PySem.W.mg_of X G a0,
   zL (st := ZA) l1 c1 k1,
   (zL (st := ZA) l1 c1 k1).binds (ps := ["thing", "long"]) fun _ _ _ _ _ _ us hl => match us, hl with | [_, _], _ => rfl,
   PySem.W.mg_of X G a1,
   zL (st := Zz) l2 c2 k2,
   (zL (st := Zz) l2 c2 k2).binds (ps := ["thing", "least", "most"]) fun _ _ _ _ _ _ us hl => match us, hl with | [_, _, _], _ => rfl,
   PySem.W.mg_of X G a2,
   zL (st := s_are_rows) l3 c3 k3,
   (zL (st := s_are_rows) l3 c3 k3).binds (ps := ["thing", "many", "first", "last"]) fun _ _ _ _ _ _ us hl => match us, hl with | [_, _, _, _], _ => rfl,
   PySem.W.mg_of X G a3,
   zL (st := s_is_row) l4 c4 k4,
   (zL (st := s_is_row) l4 c4 k4).binds (ps := ["thing", "many", "first", "last"]) fun _ _ _ _ _ _ us hl => match us, hl with | [_, _, _, _], _ => rfl,
   PySem.W.mg_of X G a4,
   zL (st := Ze) l5 c5 k5,
   (zL (st := Ze) l5 c5 k5).binds (ps := ["thing", "many"]) fun _ _ _ _ _ _ us hl => match us, hl with | [_, _], _ => rfl,
   PySem.W.mg_of X G a5,
   zL (st := zQ) l6 c6 k6,
   (zL (st := zQ) l6 c6 k6).binds (ps := ["bodies"]) fun _ _ _ _ _ _ us hl => match us, hl with | [_], _ => rfl,
   PySem.W.mg_of X G a6,
   zL (st := s_lists_in) l7 c7 k7,
   (zL (st := s_lists_in) l7 c7 k7).binds (ps := ["row"]) fun _ _ _ _ _ _ us hl => match us, hl with | [_], _ => rfl,
   PySem.W.mg_of X G a7,
   zL (st := Zm) l8 c8 k8,
   (zL (st := Zm) l8 c8 k8).binds (ps := ["rows", "called"]) fun _ _ _ _ _ _ us hl => match us, hl with | [_, _], _ => rfl,
   PySem.W.mg_of X G a8,
   zL (st := zH) l9 c9 k9,
   (zL (st := zH) l9 c9 k9).binds (ps := ["row", "called"]) fun _ _ _ _ _ _ us hl => match us, hl with | [_, _], _ => rfl,
   PySem.W.mg_of X G a9,
   zL (st := s_depth) l10 c10 k10,
   (zL (st := s_depth) l10 c10 k10).binds (ps := ["rows", "called"]) fun _ _ _ _ _ _ us hl => match us, hl with | [_, _], _ => rfl,
   PySem.W.mg_of X G a10,
   zL (st := zW) l11 c11 k11,
   (zL (st := zW) l11 c11 k11).binds (ps := ["row", "called"]) fun _ _ _ _ _ _ us hl => match us, hl with | [_, _], _ => rfl,
   PySem.W.mg_of X G a11,
   zL (st := s'cell) l12 c12 k12,
   (zL (st := s'cell) l12 c12 k12).binds (ps := ["_law_script", "_law_k"]) fun _ _ _ _ _ _ us hl => match us, hl with | [_, _], _ => rfl,
   PySem.W.mg_of X G a12,
   zL (st := s'line) l13 c13 k13,
   (zL (st := s'line) l13 c13 k13).binds (ps := ["_law_cell_here", "_law_many"]) fun _ _ _ _ _ _ us hl => match us, hl with | [_, _], _ => rfl,
   PySem.W.mg_of X G a13,
   zL (st := s'row) l14 c14 k14,
   (zL (st := s'row) l14 c14 k14).binds (ps := ["_law_cell_here", "_law_many", "_law_body_here", "_law_count"]) fun _ _ _ _ _ _ us hl => match us, hl with | [_, _, _, _], _ => rfl,
   PySem.W.mg_of X G a14,
   zL (st := s'body) l15 c15 k15,
   (zL (st := s'body) l15 c15 k15).binds (ps := ["_law_cells", "_law_many", "_law_body_here", "_law_count"]) fun _ _ _ _ _ _ us hl => match us, hl with | [_, _, _, _], _ => rfl,
   PySem.W.mg_of X G a15,
   zL (st := s'program) l16 c16 k16,
   (zL (st := s'program) l16 c16 k16).binds (ps := ["_law_script"]) fun _ _ _ _ _ _ us hl => match us, hl with | [_], _ => rfl,
   PySem.W.mg_of X G a16,
   zL (st := ZC) l17 c17 k17,
   (zL (st := ZC) l17 c17 k17).binds (ps := ["_law_many", "_law_cell_here"]) fun _ _ _ _ _ _ us hl => match us, hl with | [_, _], _ => rfl,
   PySem.W.mg_of X G a17,
   zL (st := ZB) l18 c18 k18,
   (zL (st := ZB) l18 c18 k18).binds (ps := ["_law_many", "_law_count", "_law_cell_here"]) fun _ _ _ _ _ _ us hl => match us, hl with | [_, _, _], _ => rfl,
   PySem.W.mg_of X G a18,
   zL (st := s'bent) l19 c19 k19,
   (zL (st := s'bent) l19 c19 k19).binds (ps := ["_law_rows", "_law_cell_here", "_law_row_here"]) fun _ _ _ _ _ _ us hl => match us, hl with | [_, _, _], _ => rfl,
   PySem.W.mg_of X G a19,
   zL (st := s'other) l20 c20 k20,
   (zL (st := s'other) l20 c20 k20).binds (ps := ["_law_program_here", "_law_cell_here"]) fun _ _ _ _ _ _ us hl => match us, hl with | [_, _], _ => rfl,
   PySem.W.mg_of X G a20,
   zL (st := s'whole) l21 c21 k21,
   (zL (st := s'whole) l21 c21 k21).binds (ps := ["_law_thing"]) fun _ _ _ _ _ _ us hl => match us, hl with | [_], _ => rfl,
   PySem.W.mg_of X G a21,
   zL (st := s'is_line) l22 c22 k22,
   (zL (st := s'is_line) l22 c22 k22).binds (ps := ["_law_thing", "_law_many"]) fun _ _ _ _ _ _ us hl => match us, hl with | [_, _], _ => rfl,
   PySem.W.mg_of X G a22,
   zL (st := s'row_size) l23 c23 k23,
   (zL (st := s'row_size) l23 c23 k23).binds (ps := ["_law_row_here", "_law_many", "_law_body_here", "_law_sizes"]) fun _ _ _ _ _ _ us hl => match us, hl with | [_, _, _, _], _ => rfl,
   PySem.W.mg_of X G a23,
   zL (st := s'size) l24 c24 k24,
   (zL (st := s'size) l24 c24 k24).binds (ps := ["_law_rows", "_law_many", "_law_body_here", "_law_sizes"]) fun _ _ _ _ _ _ us hl => match us, hl with | [_, _, _, _], _ => rfl,
   PySem.W.mg_of X G a24,
   zL (st := s'due) l25 c25 k25,
   (zL (st := s'due) l25 c25 k25).binds (ps := ["_law_thing"]) fun _ _ _ _ _ _ us hl => match us, hl with | [_], _ => rfl,
   PySem.W.mg_of X G a25,
   zL (st := s'told) l26 c26 k26,
   (zL (st := s'told) l26 c26 k26).binds (ps := ["_law_thing"]) fun _ _ _ _ _ _ us hl => match us, hl with | [_], _ => rfl,
   PySem.W.mg_of X G a26,
   zL (st := s_law) l27 c27 k27,
   (zL (st := s_law) l27 c27 k27).binds (ps := ["_law_script"]) fun _ _ _ _ _ _ us hl => match us, hl with | [_], _ => rfl,
   PySem.W.mg_of X G a27,
   PySem.W.mg_none_of X G z_abs,
   PySem.W.mg_none_of X G z_all,
   PySem.W.mg_none_of X G z_bool,
   PySem.W.mg_none_of X G z_enumerate,
   PySem.W.mg_none_of X G z_int,
   PySem.W.mg_none_of X G z_isinstance,
   PySem.W.mg_none_of X G z_len,
   PySem.W.mg_none_of X G z_list,
   PySem.W.mg_none_of X G z_max,
   PySem.W.mg_none_of X G z_range,
   PySem.W.mg_none_of X G z_repr,
   PySem.W.mg_none_of X G z_reversed,
   PySem.W.mg_none_of X G z_str,
   PySem.W.mg_none_of X G z_sum,
   PySem.W.mg_none_of X G z_tuple,
   PySem.W.mg_of X G c_MOST_BODIES,
   PySem.W.mg_of X G c_MOST_BOXES,
   PySem.W.mg_of X G c_MOST_DEEP,
   PySem.W.mg_of X G c_MOST_IN_A_LINE,
   PySem.W.mg_of X G c_MOST_PLACES⟩
theorem all_mk {l : PySem.W.OpenLaw} {w : World} {K : Frag} {h : Heap} {mg : Str → Option Value} {fa : Addr} (X : K.In h) (G : h.Ns mainGlobals mg) (hfa : mg "law" = some (.ref fa))
  {f0 : Addr} {od0 an0 : Option Addr} {sl0 : Array (Option Value)} {oc0 kV0 dc0 pm0 cd0 ct0 : Value}
  {f1 : Addr} {od1 an1 : Option Addr} {sl1 : Array (Option Value)} {oc1 kV1 dc1 pm1 cd1 ct1 : Value}
  {f2 : Addr} {od2 an2 : Option Addr} {sl2 : Array (Option Value)} {oc2 kV2 dc2 pm2 cd2 ct2 : Value}
  {f3 : Addr} {od3 an3 : Option Addr} {sl3 : Array (Option Value)} {oc3 kV3 dc3 pm3 cd3 ct3 : Value}
  {f4 : Addr} {od4 an4 : Option Addr} {sl4 : Array (Option Value)} {oc4 kV4 dc4 pm4 cd4 ct4 : Value}
  {f5 : Addr} {od5 an5 : Option Addr} {sl5 : Array (Option Value)} {oc5 kV5 dc5 pm5 cd5 ct5 : Value}
  {f6 : Addr} {od6 an6 : Option Addr} {sl6 : Array (Option Value)} {oc6 kV6 dc6 pm6 cd6 ct6 : Value}
  {f7 : Addr} {od7 an7 : Option Addr} {sl7 : Array (Option Value)} {oc7 kV7 dc7 pm7 cd7 ct7 : Value}
  {f8 : Addr} {od8 an8 : Option Addr} {sl8 : Array (Option Value)} {oc8 kV8 dc8 pm8 cd8 ct8 : Value}
  {f9 : Addr} {od9 an9 : Option Addr} {sl9 : Array (Option Value)} {oc9 kV9 dc9 pm9 cd9 ct9 : Value}
  {f10 : Addr} {od10 an10 : Option Addr} {sl10 : Array (Option Value)} {oc10 kV10 dc10 pm10 cd10 ct10 : Value}
  {f11 : Addr} {od11 an11 : Option Addr} {sl11 : Array (Option Value)} {oc11 kV11 dc11 pm11 cd11 ct11 : Value}
  {f12 : Addr} {od12 an12 : Option Addr} {sl12 : Array (Option Value)} {oc12 kV12 dc12 pm12 cd12 ct12 : Value}
  {f13 : Addr} {od13 an13 : Option Addr} {sl13 : Array (Option Value)} {oc13 kV13 dc13 pm13 cd13 ct13 : Value}
  {f14 : Addr} {od14 an14 : Option Addr} {sl14 : Array (Option Value)} {oc14 kV14 dc14 pm14 cd14 ct14 : Value}
  {f15 : Addr} {od15 an15 : Option Addr} {sl15 : Array (Option Value)} {oc15 kV15 dc15 pm15 cd15 ct15 : Value}
  {f16 : Addr} {od16 an16 : Option Addr} {sl16 : Array (Option Value)} {oc16 kV16 dc16 pm16 cd16 ct16 : Value}
  {f17 : Addr} {od17 an17 : Option Addr} {sl17 : Array (Option Value)} {oc17 kV17 dc17 pm17 cd17 ct17 : Value}
  {f18 : Addr} {od18 an18 : Option Addr} {sl18 : Array (Option Value)} {oc18 kV18 dc18 pm18 cd18 ct18 : Value}
  {f19 : Addr} {od19 an19 : Option Addr} {sl19 : Array (Option Value)} {oc19 kV19 dc19 pm19 cd19 ct19 : Value}
  {f20 : Addr} {od20 an20 : Option Addr} {sl20 : Array (Option Value)} {oc20 kV20 dc20 pm20 cd20 ct20 : Value}
  {f21 : Addr} {od21 an21 : Option Addr} {sl21 : Array (Option Value)} {oc21 kV21 dc21 pm21 cd21 ct21 : Value}
  {f22 : Addr} {od22 an22 : Option Addr} {sl22 : Array (Option Value)} {oc22 kV22 dc22 pm22 cd22 ct22 : Value}
  {f23 : Addr} {od23 an23 : Option Addr} {sl23 : Array (Option Value)} {oc23 kV23 dc23 pm23 cd23 ct23 : Value}
  {f24 : Addr} {od24 an24 : Option Addr} {sl24 : Array (Option Value)} {oc24 kV24 dc24 pm24 cd24 ct24 : Value}
  {f25 : Addr} {od25 an25 : Option Addr} {sl25 : Array (Option Value)} {oc25 kV25 dc25 pm25 cd25 ct25 : Value}
  {f26 : Addr} {od26 an26 : Option Addr} {sl26 : Array (Option Value)} {oc26 kV26 dc26 pm26 cd26 ct26 : Value}
  {f27 : Addr} {od27 an27 : Option Addr} {sl27 : Array (Option Value)} {oc27 kV27 dc27 pm27 cd27 ct27 : Value}
  {t_MOST_BODIES : Tok}
  {t_MOST_BOXES : Tok}
  {t_MOST_DEEP : Tok}
  {t_MOST_IN_A_LINE : Tok}
  {t_MOST_PLACES : Tok}
  (a0 : nsIn K mainGlobals "is_program" = some (some (.ref f0))) (l0 : K.lookup f0 = some ⟨oc0, od0, .func (fnOf "is_program" "is_program" (zq Zn) (zm Zn) (zi Zn) .none kV0 dc0 pm0 an0 cd0 ct0), sl0⟩) (c0 : codeIn K cd0 "is_program" = true) (k0 : keepIn K (.ref f0) = true)
  (a1 : nsIn K mainGlobals "has_parts" = some (some (.ref f1))) (l1 : K.lookup f1 = some ⟨oc1, od1, .func (fnOf "has_parts" "has_parts" (zq ZA) (zm ZA) (zi ZA) .none kV1 dc1 pm1 an1 cd1 ct1), sl1⟩) (c1 : codeIn K cd1 "has_parts" = true) (k1 : keepIn K (.ref f1) = true)
  (a2 : nsIn K mainGlobals "is_number" = some (some (.ref f2))) (l2 : K.lookup f2 = some ⟨oc2, od2, .func (fnOf "is_number" "is_number" (zq Zz) (zm Zz) (zi Zz) .none kV2 dc2 pm2 an2 cd2 ct2), sl2⟩) (c2 : codeIn K cd2 "is_number" = true) (k2 : keepIn K (.ref f2) = true)
  (a3 : nsIn K mainGlobals "are_rows" = some (some (.ref f3))) (l3 : K.lookup f3 = some ⟨oc3, od3, .func (fnOf "are_rows" "are_rows" (zq s_are_rows) (zm s_are_rows) (zi s_are_rows) .none kV3 dc3 pm3 an3 cd3 ct3), sl3⟩) (c3 : codeIn K cd3 "are_rows" = true) (k3 : keepIn K (.ref f3) = true)
  (a4 : nsIn K mainGlobals "is_row" = some (some (.ref f4))) (l4 : K.lookup f4 = some ⟨oc4, od4, .func (fnOf "is_row" "is_row" (zq s_is_row) (zm s_is_row) (zi s_is_row) .none kV4 dc4 pm4 an4 cd4 ct4), sl4⟩) (c4 : codeIn K cd4 "is_row" = true) (k4 : keepIn K (.ref f4) = true)
  (a5 : nsIn K mainGlobals "is_set_line" = some (some (.ref f5))) (l5 : K.lookup f5 = some ⟨oc5, od5, .func (fnOf "is_set_line" "is_set_line" (zq Ze) (zm Ze) (zi Ze) .none kV5 dc5 pm5 an5 cd5 ct5), sl5⟩) (c5 : codeIn K cd5 "is_set_line" = true) (k5 : keepIn K (.ref f5) = true)
  (a6 : nsIn K mainGlobals "all_keep_bounds" = some (some (.ref f6))) (l6 : K.lookup f6 = some ⟨oc6, od6, .func (fnOf "all_keep_bounds" "all_keep_bounds" (zq zQ) (zm zQ) (zi zQ) .none kV6 dc6 pm6 an6 cd6 ct6), sl6⟩) (c6 : codeIn K cd6 "all_keep_bounds" = true) (k6 : keepIn K (.ref f6) = true)
  (a7 : nsIn K mainGlobals "lists_in" = some (some (.ref f7))) (l7 : K.lookup f7 = some ⟨oc7, od7, .func (fnOf "lists_in" "lists_in" (zq s_lists_in) (zm s_lists_in) (zi s_lists_in) .none kV7 dc7 pm7 an7 cd7 ct7), sl7⟩) (c7 : codeIn K cd7 "lists_in" = true) (k7 : keepIn K (.ref f7) = true)
  (a8 : nsIn K mainGlobals "new_places" = some (some (.ref f8))) (l8 : K.lookup f8 = some ⟨oc8, od8, .func (fnOf "new_places" "new_places" (zq Zm) (zm Zm) (zi Zm) .none kV8 dc8 pm8 an8 cd8 ct8), sl8⟩) (c8 : codeIn K cd8 "new_places" = true) (k8 : keepIn K (.ref f8) = true)
  (a9 : nsIn K mainGlobals "new_places_of_row" = some (some (.ref f9))) (l9 : K.lookup f9 = some ⟨oc9, od9, .func (fnOf "new_places_of_row" "new_places_of_row" (zq zH) (zm zH) (zi zH) .none kV9 dc9 pm9 an9 cd9 ct9), sl9⟩) (c9 : codeIn K cd9 "new_places_of_row" = true) (k9 : keepIn K (.ref f9) = true)
  (a10 : nsIn K mainGlobals "depth" = some (some (.ref f10))) (l10 : K.lookup f10 = some ⟨oc10, od10, .func (fnOf "depth" "depth" (zq s_depth) (zm s_depth) (zi s_depth) .none kV10 dc10 pm10 an10 cd10 ct10), sl10⟩) (c10 : codeIn K cd10 "depth" = true) (k10 : keepIn K (.ref f10) = true)
  (a11 : nsIn K mainGlobals "depth_of_row" = some (some (.ref f11))) (l11 : K.lookup f11 = some ⟨oc11, od11, .func (fnOf "depth_of_row" "depth_of_row" (zq zW) (zm zW) (zi zW) .none kV11 dc11 pm11 an11 cd11 ct11), sl11⟩) (c11 : codeIn K cd11 "depth_of_row" = true) (k11 : keepIn K (.ref f11) = true)
  (a12 : nsIn K mainGlobals "_law_cell" = some (some (.ref f12))) (l12 : K.lookup f12 = some ⟨oc12, od12, .func (fnOf "_law_cell" "_law_cell" (zq s'cell) (zm s'cell) (zi s'cell) .none kV12 dc12 pm12 an12 cd12 ct12), sl12⟩) (c12 : codeIn K cd12 "_law_cell" = true) (k12 : keepIn K (.ref f12) = true)
  (a13 : nsIn K mainGlobals "_law_line" = some (some (.ref f13))) (l13 : K.lookup f13 = some ⟨oc13, od13, .func (fnOf "_law_line" "_law_line" (zq s'line) (zm s'line) (zi s'line) .none kV13 dc13 pm13 an13 cd13 ct13), sl13⟩) (c13 : codeIn K cd13 "_law_line" = true) (k13 : keepIn K (.ref f13) = true)
  (a14 : nsIn K mainGlobals "_law_row" = some (some (.ref f14))) (l14 : K.lookup f14 = some ⟨oc14, od14, .func (fnOf "_law_row" "_law_row" (zq s'row) (zm s'row) (zi s'row) .none kV14 dc14 pm14 an14 cd14 ct14), sl14⟩) (c14 : codeIn K cd14 "_law_row" = true) (k14 : keepIn K (.ref f14) = true)
  (a15 : nsIn K mainGlobals "_law_body" = some (some (.ref f15))) (l15 : K.lookup f15 = some ⟨oc15, od15, .func (fnOf "_law_body" "_law_body" (zq s'body) (zm s'body) (zi s'body) .none kV15 dc15 pm15 an15 cd15 ct15), sl15⟩) (c15 : codeIn K cd15 "_law_body" = true) (k15 : keepIn K (.ref f15) = true)
  (a16 : nsIn K mainGlobals "_law_program" = some (some (.ref f16))) (l16 : K.lookup f16 = some ⟨oc16, od16, .func (fnOf "_law_program" "_law_program" (zq s'program) (zm s'program) (zi s'program) .none kV16 dc16 pm16 an16 cd16 ct16), sl16⟩) (c16 : codeIn K cd16 "_law_program" = true) (k16 : keepIn K (.ref f16) = true)
  (a17 : nsIn K mainGlobals "_law_bent_line" = some (some (.ref f17))) (l17 : K.lookup f17 = some ⟨oc17, od17, .func (fnOf "_law_bent_line" "_law_bent_line" (zq ZC) (zm ZC) (zi ZC) .none kV17 dc17 pm17 an17 cd17 ct17), sl17⟩) (c17 : codeIn K cd17 "_law_bent_line" = true) (k17 : keepIn K (.ref f17) = true)
  (a18 : nsIn K mainGlobals "_law_bent_rows" = some (some (.ref f18))) (l18 : K.lookup f18 = some ⟨oc18, od18, .func (fnOf "_law_bent_rows" "_law_bent_rows" (zq ZB) (zm ZB) (zi ZB) .none kV18 dc18 pm18 an18 cd18 ct18), sl18⟩) (c18 : codeIn K cd18 "_law_bent_rows" = true) (k18 : keepIn K (.ref f18) = true)
  (a19 : nsIn K mainGlobals "_law_bent" = some (some (.ref f19))) (l19 : K.lookup f19 = some ⟨oc19, od19, .func (fnOf "_law_bent" "_law_bent" (zq s'bent) (zm s'bent) (zi s'bent) .none kV19 dc19 pm19 an19 cd19 ct19), sl19⟩) (c19 : codeIn K cd19 "_law_bent" = true) (k19 : keepIn K (.ref f19) = true)
  (a20 : nsIn K mainGlobals "_law_other" = some (some (.ref f20))) (l20 : K.lookup f20 = some ⟨oc20, od20, .func (fnOf "_law_other" "_law_other" (zq s'other) (zm s'other) (zi s'other) .none kV20 dc20 pm20 an20 cd20 ct20), sl20⟩) (c20 : codeIn K cd20 "_law_other" = true) (k20 : keepIn K (.ref f20) = true)
  (a21 : nsIn K mainGlobals "_law_whole" = some (some (.ref f21))) (l21 : K.lookup f21 = some ⟨oc21, od21, .func (fnOf "_law_whole" "_law_whole" (zq s'whole) (zm s'whole) (zi s'whole) .none kV21 dc21 pm21 an21 cd21 ct21), sl21⟩) (c21 : codeIn K cd21 "_law_whole" = true) (k21 : keepIn K (.ref f21) = true)
  (a22 : nsIn K mainGlobals "_law_is_line" = some (some (.ref f22))) (l22 : K.lookup f22 = some ⟨oc22, od22, .func (fnOf "_law_is_line" "_law_is_line" (zq s'is_line) (zm s'is_line) (zi s'is_line) .none kV22 dc22 pm22 an22 cd22 ct22), sl22⟩) (c22 : codeIn K cd22 "_law_is_line" = true) (k22 : keepIn K (.ref f22) = true)
  (a23 : nsIn K mainGlobals "_law_row_size" = some (some (.ref f23))) (l23 : K.lookup f23 = some ⟨oc23, od23, .func (fnOf "_law_row_size" "_law_row_size" (zq s'row_size) (zm s'row_size) (zi s'row_size) .none kV23 dc23 pm23 an23 cd23 ct23), sl23⟩) (c23 : codeIn K cd23 "_law_row_size" = true) (k23 : keepIn K (.ref f23) = true)
  (a24 : nsIn K mainGlobals "_law_size" = some (some (.ref f24))) (l24 : K.lookup f24 = some ⟨oc24, od24, .func (fnOf "_law_size" "_law_size" (zq s'size) (zm s'size) (zi s'size) .none kV24 dc24 pm24 an24 cd24 ct24), sl24⟩) (c24 : codeIn K cd24 "_law_size" = true) (k24 : keepIn K (.ref f24) = true)
  (a25 : nsIn K mainGlobals "_law_due" = some (some (.ref f25))) (l25 : K.lookup f25 = some ⟨oc25, od25, .func (fnOf "_law_due" "_law_due" (zq s'due) (zm s'due) (zi s'due) .none kV25 dc25 pm25 an25 cd25 ct25), sl25⟩) (c25 : codeIn K cd25 "_law_due" = true) (k25 : keepIn K (.ref f25) = true)
  (a26 : nsIn K mainGlobals "_law_told" = some (some (.ref f26))) (l26 : K.lookup f26 = some ⟨oc26, od26, .func (fnOf "_law_told" "_law_told" (zq s'told) (zm s'told) (zi s'told) .none kV26 dc26 pm26 an26 cd26 ct26), sl26⟩) (c26 : codeIn K cd26 "_law_told" = true) (k26 : keepIn K (.ref f26) = true)
  (a27 : nsIn K mainGlobals "law" = some (some (.ref f27))) (l27 : K.lookup f27 = some ⟨oc27, od27, .func (fnOf "law" "law" (zq s_law) (zm s_law) (zi s_law) .none kV27 dc27 pm27 an27 cd27 ct27), sl27⟩) (c27 : codeIn K cd27 "law" = true) (k27 : keepIn K (.ref f27) = true)
  (z_abs : nsIn K mainGlobals "abs" = some none)
  (z_all : nsIn K mainGlobals "all" = some none)
  (z_bool : nsIn K mainGlobals "bool" = some none)
  (z_enumerate : nsIn K mainGlobals "enumerate" = some none)
  (z_int : nsIn K mainGlobals "int" = some none)
  (z_isinstance : nsIn K mainGlobals "isinstance" = some none)
  (z_len : nsIn K mainGlobals "len" = some none)
  (z_list : nsIn K mainGlobals "list" = some none)
  (z_max : nsIn K mainGlobals "max" = some none)
  (z_range : nsIn K mainGlobals "range" = some none)
  (z_repr : nsIn K mainGlobals "repr" = some none)
  (z_reversed : nsIn K mainGlobals "reversed" = some none)
  (z_str : nsIn K mainGlobals "str" = some none)
  (z_sum : nsIn K mainGlobals "sum" = some none)
  (z_tuple : nsIn K mainGlobals "tuple" = some none)
  (c_MOST_BODIES : nsIn K mainGlobals "MOST_BODIES" = some (some (.int 4 t_MOST_BODIES)))
  (c_MOST_BOXES : nsIn K mainGlobals "MOST_BOXES" = some (some (.int 6 t_MOST_BOXES)))
  (c_MOST_DEEP : nsIn K mainGlobals "MOST_DEEP" = some (some (.int 6 t_MOST_DEEP)))
  (c_MOST_IN_A_LINE : nsIn K mainGlobals "MOST_IN_A_LINE" = some (some (.int 999999 t_MOST_IN_A_LINE)))
  (c_MOST_PLACES : nsIn K mainGlobals "MOST_PLACES" = some (some (.int 40 t_MOST_PLACES))) :
  ∃ fd : FuncData, (∀ (s : Shared) (v : Value), BindsTo s fd ⟨[v], []⟩ [("_law_script", v)]) ∧ ∀ base : Heap, K.In base → base.Ns mainGlobals mg → FnOk l.prog w K mg base CX0 94 fa fd ["_law_script"] (spM K m_law) := by
 have T := txt_mk X G a0 l0 c0 k0 a1 l1 c1 k1 a2 l2 c2 k2 a3 l3 c3 k3 a4 l4 c4 k4 a5 l5 c5 k5 a6 l6 c6 k6 a7 l7 c7 k7 a8 l8 c8 k8 a9 l9 c9 k9 a10 l10 c10 k10 a11 l11 c11 k11 a12 l12 c12 k12 a13 l13 c13 k13 a14 l14 c14 k14 a15 l15 c15 k15 a16 l16 c16 k16 a17 l17 c17 k17 a18 l18 c18 k18 a19 l19 c19 k19 a20 l20 c20 k20 a21 l21 c21 k21 a22 l22 c22 k22 a23 l23 c23 k23 a24 l24 c24 k24 a25 l25 c25 k25 a26 l26 c26 k26 a27 l27 c27 k27 z_abs z_all z_bool z_enumerate z_int z_isinstance z_len z_list z_max z_range z_repr z_reversed z_str z_sum z_tuple c_MOST_BODIES c_MOST_BOXES c_MOST_DEEP c_MOST_IN_A_LINE c_MOST_PLACES
 have e := hfa.symm.trans (PySem.W.mg_of X G a27)
 cases e
 refine' ⟨_, ?b, fun base kb nb => ?c⟩
 case c =>
  have G_has_parts := ok_has_parts (P := l.prog) (w := w) (base := base) T
  have G_is_number := ok_is_number (P := l.prog) (w := w) (base := base) T
  have G_is_set_line := ok_is_set_line (P := l.prog) (w := w) (base := base) T G_has_parts G_is_number
  have G_are_rows := ok_are_rows (P := l.prog) (w := w) (base := base) T G_has_parts G_is_number G_is_set_line
  have G_is_row := ok_is_row (P := l.prog) (w := w) (base := base) T G_has_parts G_is_number G_is_set_line
  have G_lists_in := ok_lists_in (P := l.prog) (w := w) (base := base) T
  have G_new_places := ok_new_places (P := l.prog) (w := w) (base := base) T G_lists_in
  have G_new_places_of_row := ok_new_places_of_row (P := l.prog) (w := w) (base := base) T G_lists_in
  have G_depth := ok_depth (P := l.prog) (w := w) (base := base) T G_lists_in
  have G_depth_of_row := ok_depth_of_row (P := l.prog) (w := w) (base := base) T G_lists_in
  have G_all_keep_bounds := ok_all_keep_bounds (P := l.prog) (w := w) (base := base) T G_new_places G_depth
  have G_is_program := ok_is_program (P := l.prog) (w := w) (base := base) T G_has_parts G_is_number G_are_rows G_all_keep_bounds
  have G'cell := ok'cell (P := l.prog) (w := w) (base := base) T
  have G'line := ok'line (P := l.prog) (w := w) (base := base) T
  have G'row := ok'row (P := l.prog) (w := w) (base := base) T G'line
  have G'body := ok'body (P := l.prog) (w := w) (base := base) T G'row
  have G'program := ok'program (P := l.prog) (w := w) (base := base) T G'cell G'body
  have G'bent_line := ok'bent_line (P := l.prog) (w := w) (base := base) T
  have G'bent_rows := ok'bent_rows (P := l.prog) (w := w) (base := base) T G'bent_line
  have G'bent := ok'bent (P := l.prog) (w := w) (base := base) T
  have G'other := ok'other (P := l.prog) (w := w) (base := base) T G'bent_rows G'bent
  have G'whole := ok'whole (P := l.prog) (w := w) (base := base) T
  have G'is_line := ok'is_line (P := l.prog) (w := w) (base := base) T G'whole
  have G'row_size := ok'row_size (P := l.prog) (w := w) (base := base) T G'whole G'is_line
  have G'size := ok'size (P := l.prog) (w := w) (base := base) T G'whole G'is_line
  have G'due := ok'due (P := l.prog) (w := w) (base := base) T G'whole G'size
  have G'told := ok'told (P := l.prog) (w := w) (base := base) T G_is_program G'due
  exact ok_law (P := l.prog) (w := w) (base := base) T G'program G'told G'cell G'other
 case b => exact fun s v => .of_eq rfl
theorem walk {l : PySem.W.OpenLaw} {q : Program} {loose : List Str} {XP : (Str → Option Value) → Heap → Prop} {YP : World → Heap → Prop} {d : DefRec} {K : Params → Frag} (hn : l.most = some 63) (hdf : d.params.defaults = []) (himp : PyProof.Rows.importsNone q = true) (htree : l.prog.given.tree = none)
  (hY : ∀ (w : World) (h : Heap), YP w h → (K w.params).In h)
  (F : ∀ (w : World) (mg : Str → Option Value) (fa : Addr) (h : Heap), (K w.params).In h → h.Ns mainGlobals mg → mg d.name = some (.ref fa) →
   ∃ fd : FuncData, (∀ (s : Shared) (u : Value), BindsTo s fd ⟨[u], []⟩ [("_law_script", u)]) ∧ ∀ base : Heap, (K w.params).In base → base.Ns mainGlobals mg → FnOk l.prog w (K w.params) mg base CX0 94 fa fd ["_law_script"] (spM (K w.params) m_law)) :
  PySem.W.WalkO q loose XP YP l.row.toRowW d [] (fun f vs => PySem.call f vs) :=
 L2.walk_of (n := 63) (k := 94) (x := "_law_script") (CX := fun _ => CX0) (sp := fun w => spM (K w.params) m_law) hn (by decide) hdf ⟨rfl, by decide, by decide, rfl⟩ himp htree hY F (fun _ _ a ns hl hO hS => law_end (l := l) hO hS (law_holds ns hl)) fun _ _ _ _ _ z => z
end EV
open PySem PySem.W PyProof.Rows
set_option maxRecDepth 100000 in
set_option maxHeartbeats 0 in
theorem PySem.Challenge.cw_evennotes_k13_what_is_a_program_holds : PySem.Challenge.rw_evennotes_k13_what_is_a_program.Holds := by
 w_on; o_law; k_head; (case hw => w_witness2)
 k_fill
 refine EV.walk (l := PySem.Challenge.rw_evennotes_k13_what_is_a_program) rfl rfl (by rfl) rfl (fun w h Y => PySem.W.kIn_of Y) ?F
 case F =>
  intro w mg fa h KX G hmg
  refine' EV.all_mk KX G hmg ?a0 ?l0 ?c0 ?k0 ?a1 ?l1 ?c1 ?k1 ?a2 ?l2 ?c2 ?k2 ?a3 ?l3 ?c3 ?k3 ?a4 ?l4 ?c4 ?k4 ?a5 ?l5 ?c5 ?k5 ?a6 ?l6 ?c6 ?k6 ?a7 ?l7 ?c7 ?k7 ?a8 ?l8 ?c8 ?k8 ?a9 ?l9 ?c9 ?k9 ?a10 ?l10 ?c10 ?k10 ?a11 ?l11 ?c11 ?k11 ?a12 ?l12 ?c12 ?k12 ?a13 ?l13 ?c13 ?k13 ?a14 ?l14 ?c14 ?k14 ?a15 ?l15 ?c15 ?k15 ?a16 ?l16 ?c16 ?k16 ?a17 ?l17 ?c17 ?k17 ?a18 ?l18 ?c18 ?k18 ?a19 ?l19 ?c19 ?k19 ?a20 ?l20 ?c20 ?k20 ?a21 ?l21 ?c21 ?k21 ?a22 ?l22 ?c22 ?k22 ?a23 ?l23 ?c23 ?k23 ?a24 ?l24 ?c24 ?k24 ?a25 ?l25 ?c25 ?k25 ?a26 ?l26 ?c26 ?k26 ?a27 ?l27 ?c27 ?k27 ?z_abs ?z_all ?z_bool ?z_enumerate ?z_int ?z_isinstance ?z_len ?z_list ?z_max ?z_range ?z_repr ?z_reversed ?z_str ?z_sum ?z_tuple ?c_MOST_BODIES ?c_MOST_BOXES ?c_MOST_DEEP ?c_MOST_IN_A_LINE ?c_MOST_PLACES
  (case a0 => k_is)
  (case l0 => k_is)
  (case c0 => k_is)
  (case k0 => k_is)
  (case a1 => k_is)
  (case l1 => k_is)
  (case c1 => k_is)
  (case k1 => k_is)
  (case a2 => k_is)
  (case l2 => k_is)
  (case c2 => k_is)
  (case k2 => k_is)
  (case a3 => k_is)
  (case l3 => k_is)
  (case c3 => k_is)
  (case k3 => k_is)
  (case a4 => k_is)
  (case l4 => k_is)
  (case c4 => k_is)
  (case k4 => k_is)
  (case a5 => k_is)
  (case l5 => k_is)
  (case c5 => k_is)
  (case k5 => k_is)
  (case a6 => k_is)
  (case l6 => k_is)
  (case c6 => k_is)
  (case k6 => k_is)
  (case a7 => k_is)
  (case l7 => k_is)
  (case c7 => k_is)
  (case k7 => k_is)
  (case a8 => k_is)
  (case l8 => k_is)
  (case c8 => k_is)
  (case k8 => k_is)
  (case a9 => k_is)
  (case l9 => k_is)
  (case c9 => k_is)
  (case k9 => k_is)
  (case a10 => k_is)
  (case l10 => k_is)
  (case c10 => k_is)
  (case k10 => k_is)
  (case a11 => k_is)
  (case l11 => k_is)
  (case c11 => k_is)
  (case k11 => k_is)
  (case a12 => k_is)
  (case l12 => k_is)
  (case c12 => k_is)
  (case k12 => k_is)
  (case a13 => k_is)
  (case l13 => k_is)
  (case c13 => k_is)
  (case k13 => k_is)
  (case a14 => k_is)
  (case l14 => k_is)
  (case c14 => k_is)
  (case k14 => k_is)
  (case a15 => k_is)
  (case l15 => k_is)
  (case c15 => k_is)
  (case k15 => k_is)
  (case a16 => k_is)
  (case l16 => k_is)
  (case c16 => k_is)
  (case k16 => k_is)
  (case a17 => k_is)
  (case l17 => k_is)
  (case c17 => k_is)
  (case k17 => k_is)
  (case a18 => k_is)
  (case l18 => k_is)
  (case c18 => k_is)
  (case k18 => k_is)
  (case a19 => k_is)
  (case l19 => k_is)
  (case c19 => k_is)
  (case k19 => k_is)
  (case a20 => k_is)
  (case l20 => k_is)
  (case c20 => k_is)
  (case k20 => k_is)
  (case a21 => k_is)
  (case l21 => k_is)
  (case c21 => k_is)
  (case k21 => k_is)
  (case a22 => k_is)
  (case l22 => k_is)
  (case c22 => k_is)
  (case k22 => k_is)
  (case a23 => k_is)
  (case l23 => k_is)
  (case c23 => k_is)
  (case k23 => k_is)
  (case a24 => k_is)
  (case l24 => k_is)
  (case c24 => k_is)
  (case k24 => k_is)
  (case a25 => k_is)
  (case l25 => k_is)
  (case c25 => k_is)
  (case k25 => k_is)
  (case a26 => k_is)
  (case l26 => k_is)
  (case c26 => k_is)
  (case k26 => k_is)
  (case a27 => k_is)
  (case l27 => k_is)
  (case c27 => k_is)
  (case k27 => k_is)
  (case z_abs => k_is)
  (case z_all => k_is)
  (case z_bool => k_is)
  (case z_enumerate => k_is)
  (case z_int => k_is)
  (case z_isinstance => k_is)
  (case z_len => k_is)
  (case z_list => k_is)
  (case z_max => k_is)
  (case z_range => k_is)
  (case z_repr => k_is)
  (case z_reversed => k_is)
  (case z_str => k_is)
  (case z_sum => k_is)
  (case z_tuple => k_is)
  (case c_MOST_BODIES => k_is)
  (case c_MOST_BOXES => k_is)
  (case c_MOST_DEEP => k_is)
  (case c_MOST_IN_A_LINE => k_is)
  (case c_MOST_PLACES => k_is)

