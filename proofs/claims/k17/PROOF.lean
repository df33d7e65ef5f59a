import PyProof.Rows.All
import Wide.All
import OpenK.AllK
import Wide.FinOn
import Lean
import PyProof.EqAt
import PyProof.EqKinds
import PyProof.TupleCall
import PyProof.ZipIter
import PyProof.Draws
import PyProof.EnumMake
import KE.KStateDown
import PyProof.Rows.EqDataRows
import PySem.Challenge.RW_evennotes_k17_places_and_stands
open PySem renaming wpAny_bind → Qa, wpAny_pure → Qf, wpAny_field → QE, wpAny_callSpecial?_slot → QQ, wpAny_seqItems → QR, wpAny_newObj_type → QS, wpAny_call_entry → QW, wpAny_mono → Q1, wpAny_setField_rec → Q6, wpAny_holding → Pb, wpAny_Call_Name_kw → Pf, wpAny_truthy_bool → Pl, wpAny_passesOwn → PH, wpAny_rule → PU, wpAny_updateSeq → PX, wpAny_updateSeq_pair → P1, wpAny_onRaise → P9, wpAny_attempt → Ua, wpAny_pyIter_tuple → Ub
open List renaming mem_cons → Qb, mem_cons_of_mem → Qd, length_cons → Qe, size_toArray → Qh, length_append → Qi, length_map → Qj, not_mem_nil → Qk, getElem?_eq_some_iff → Qm, length_set → Qo, map_cons → Qq, nodup_cons → Qr, mem_cons_self → Qt, mem_singleton → Qv, getElem?_eq_getElem → Qy, length_nil → Qz, getElem?_map → QB, mem_append_right → QF, mem_append → QI, replicate_succ → QJ, mem_of_getElem? → QK, mem_map → QL, lookup_cons → QM, getElem?_set_self → QN, getElem?_append_left → QP, getElem?_append_right → QT, flatten_cons → QU, length_take → Q5, drop_eq_getElem_cons → Q8, map_append → Q9, append_nil → Pa, drop_length → Pd, map_map → Pg, any_cons → Pk, nil_append → Pn, find?_cons → Po, getElem?_replicate → Pp, nodup_append → Pr, map_nil → Ps, getLast_cons → Pu, length_singleton → Pw, getElem?_zipWith → Px, getElem?_eq_none → Pz, getElem_mem → PB, cons_append → PD, forIn_cons → PK, forIn_nil → PM, reverse_cons → PN, length_range → PP, append_assoc → PQ, take_of_length_le → PV, range_succ → PY, foldl_cons → PZ, mem_range → P3, getElem?_set_ne → P4, length_zipWith → P6, getElem?_range → P7, filterMap_cons → P8, pairwise_cons → Uc
open PySem.Heap renaming get?_push_of_some → Qc, lt_size → Qn, get?_push_size → Qp, size_push → QH, get?_update_self → QV, get?_update_other → Ph
open Bool renaming false_ne_true → Qg, and_eq_true → QO, false_eq_true → Pi, eq_iff_iff → P0, or_eq_false_iff → P5
open Nat renaming le_refl → Ql, lt_of_lt_of_le → Qs, ne_of_lt → Qu, le_trans → Qw, zero_add → QC, ne_of_gt → QD, lt_trans → QG, lt_succ_self → QX, lt_succ_of_lt → QZ, le_of_lt → Q2, zero_le → Q3, le_add_right → Q4, lt_of_le_of_lt → Q7, lt_irrefl → Pc, mul_add → Pe, min_eq_left → Pj, mul_le_mul_left → PL, min_eq_right → PR
open Int renaming emod_lt_of_pos → Qx, emod_nonneg → QA, toNat_natCast → Q0, toNat_of_nonneg → Pm, zero_add → Pv
open Option renaming isSome_iff_exists → QY, map_eq_some_iff → Pq, map_some → PJ
theorem zSet {α:Type}:(∀ (a:α) (l:List α) (n:Nat) (b:α),(a::l).set (n+1) b=a::l.set n b)/\∀ (a:α) (l:List α) (b:α),(a::l).set 0 b=b::l:=⟨fun _ _ _ _=>rfl,fun _ _ _=>rfl⟩
theorem zMap {α β:Type}:(∀ (f:α->β) (a:α) (l:List α),(a::l).map f=f a::l.map f)/\∀ f:α->β,[].map f=[]:=⟨fun _ _ _=>rfl,fun _=>rfl⟩
theorem zLen {α:Type}:(∀ (a:α) (l:List α),(a::l).length=l.length+1)/\([]:List α).length=0:=⟨fun _ _=>rfl,rfl⟩
theorem zApp {α:Type}:(∀ (a:α) (l m:List α),(a::l)++m=a::(l++m))/\∀ l:List α,[]++l=l:=⟨fun _ _ _=>rfl,fun _=>rfl⟩
theorem oB {α β:Type} {f:α->Option β} {a:α}:(some a).bind f=f a:=rfl
open PySem.W (nsIn fnOf keepIn codeIn)
set_option Elab.async false
set_option linter.all false
set_option maxRecDepth 100000
namespace L2
open PySem PySem.Spec PyProof.Rows
abbrev Key:=Sum Int Str
def keyIs:Key->Value->Bool
 | .inl k,v=>Value.isInt k v
 | .inr x,v=>Value.isStrOf x v
def keyH (w:World):Key->Int
 | .inl k=>hashInt k
 | .inr x=>hashStr w x
theorem yc:∀ {k:Key} {v:Value},keyIs k v=true->(∃ i t,k=Sum.inl i/\v=Value.int i t)\/(∃ x t,k=Sum.inr x/\v=Value.str x t)
 | .inl i,v,h=>by
  obtain ⟨t,e⟩:=Value.isInt_shape (k:=i) (v:=v) h
  exact .inl ⟨i,t,rfl,e⟩
 | .inr x,v,h=>by
  obtain ⟨t,e⟩:=Value.isStrOf_shape (x:=x) (v:=v) h
  exact .inr ⟨x,t,rfl,e⟩
theorem keyIs_int (i:Int) (t:Tok):keyIs (.inl i) (.int i t)=true:=by simp [keyIs,Value.isInt]
theorem keyIs_str (x:Str) (t:Tok):keyIs (.inr x) (.str x t)=true:=by simp [keyIs,Value.isStrOf]
theorem key_ll (a b:Int):decide ((Sum.inl a:Key)=Sum.inl b)=(a == b):=by
 by_cases e:a=b
 ·subst e;simp
 ·have h:¬ (Sum.inl a:Key)=Sum.inl b:=fun q=>e (Sum.inl.inj q)
  rw [decide_eq_false h]
  exact (beq_eq_false_iff_ne.mpr e).symm
theorem key_rr (a b:Str):decide ((Sum.inr a:Key)=Sum.inr b)=decide (a=b):=by
 by_cases e:a=b
 ·subst e;simp
 ·have h:¬ (Sum.inr a:Key)=Sum.inr b:=fun q=>e (Sum.inr.inj q)
  rw [decide_eq_false h,decide_eq_false e]
theorem key_lr (a:Int) (b:Str):decide ((Sum.inl a:Key)=Sum.inr b)=false:=decide_eq_false (fun q=>nomatch q)
theorem key_rl (a:Str) (b:Int):decide ((Sum.inr a:Key)=Sum.inl b)=false:=decide_eq_false (fun q=>nomatch q)
def yD (prog:Program) (w:World):PySem.KeyKind prog w Key where
 is:=keyIs
 hash:=keyH w
 inj:=fun v a b ha hb=>by
  rcases yc ha with ⟨i,t,rfl,rfl⟩ | ⟨x,t,rfl,rfl⟩
  ·rcases yc hb with ⟨j,u,rfl,e⟩ | ⟨y,u,rfl,e⟩
   ·injection e with e1 _;rw [e1]
   ·exact nomatch e
  ·rcases yc hb with ⟨j,u,rfl,e⟩ | ⟨y,u,rfl,e⟩
   ·exact nomatch e
   ·injection e with e1 _;rw [e1]
 byValue:=fun k v h=>by
  rcases yc h with ⟨i,t,rfl,rfl⟩ | ⟨x,t,rfl,rfl⟩ <;> rfl
 pyHash:=fun hv h=>by
  rcases yc hv with ⟨i,t,rfl,rfl⟩ | ⟨x,t,rfl,rfl⟩
  ·exact wpAny_pyHash_int h
  ·exact wpAny_pyHash_str h
 eqBool:=fun hu hv h=>by
  rcases yc hu with ⟨i,t,rfl,rfl⟩ | ⟨x,t,rfl,rfl⟩
  ·rcases yc hv with ⟨j,u,rfl,rfl⟩ | ⟨y,u,rfl,rfl⟩
   ·rw [key_ll] at h;exact wpAny_eqBool_int h
   ·rw [key_lr] at h;exact SeqAt.EqAt.int_str i t y u _ _ _ _ h
  ·rcases yc hv with ⟨j,u,rfl,rfl⟩ | ⟨y,u,rfl,rfl⟩
   ·rw [key_rl] at h;exact SeqAt.EqAt.str_int x t j u _ _ _ _ h
   ·rw [key_rr] at h;exact wpAny_eqBool_str h
 «strs»:=fun k x t v h=>by
  rcases yc h with ⟨i,u,rfl,e⟩ | ⟨y,u,rfl,e⟩
  ·exact nomatch e
  ·injection e with e1 _
   subst e1
   cases v <;> rfl
theorem mixKind_int (prog:Program) (w:World) (i:Int) (t:Tok):(yD prog w).is (.inl i) (.int i t)=true:=keyIs_int i t
theorem mixKind_str (prog:Program) (w:World) (x:Str) (t:Tok):(yD prog w).is (.inr x) (.str x t)=true:=keyIs_str x t
end L2
namespace L2
open PySem PySem.Spec PyProof.Rows
inductive V where
 | non | bl (b:Bool) | int (i:Int) | str (x:Str) | byt (b:Array UInt8) | flt (b:UInt64) | ref (a:Addr) | ty (n:String)
 deriving DecidableEq
def Zx:V->Value->Prop
 | .non,u=>u=Value.none
 | .bl b,u=>u=Value.bool b
 | .int i,u=>∃ t,u=Value.int i t
 | .str x,u=>∃ t,u=Value.str x t
 | .byt b,u=>∃ t,u=Value.bytes b t
 | .flt b,u=>∃ t,u=Value.float b t
 | .ref a,u=>u=Value.ref a
 | .ty n,u=>u=Value.type n
abbrev zV:List V->List Value->Prop:=Paired Zx
theorem zV.length {xs:List V} {us:List Value} (r:zV xs us):xs.length=us.length:=Paired.length r
theorem zV.get:∀ {xs:List V} {us:List Value} {i:Nat} {x:V},zV xs us->xs[i]?=some x->∃ u,us[i]?=some u/\Zx x u
 | _,_,_,_,.nil,e=>by simp at e
 | _,_,0,_,.cons r _,e=>by simp at e;subst e;exact ⟨_,rfl,r⟩
 | _,_,i+1,x,.cons _ t,e=>by
  obtain ⟨u,h1,h2⟩:=zV.get (i:=i) (x:=x) t (by simpa using e)
  exact ⟨u,by simpa using h1,h2⟩
theorem zV.set {x:V} {u:Value} (r:Zx x u):∀ {xs:List V} {us:List Value} (i:Nat),zV xs us->zV (xs.set i x) (us.set i u)
 | _,_,_,.nil=>.nil
 | _,_,0,.cons _ t=>.cons r t
 | _,_,i+1,.cons q t=>.cons q (zV.set r i t)
theorem zV.append:∀ {xs ys:List V} {us ws:List Value},zV xs us->zV ys ws->zV (xs++ys) (us++ws)
 | _,_,_,_,.nil,s=>s
 | _,_,_,_,.cons r t,s=>.cons r (zV.append t s)
theorem zV.take:∀ {xs:List V} {us:List Value} (n:Nat),zV xs us->zV (xs.take n) (us.take n)
 | _,_,0,_=>.nil
 | _,_,_+1,.nil=>.nil
 | _,_,n+1,.cons r t=>.cons r (zV.take n t)
theorem zV.drop:∀ {xs:List V} {us:List Value} (n:Nat),zV xs us->zV (xs.drop n) (us.drop n)
 | _,_,0,r=>r
 | _,_,_+1,.nil=>.nil
 | _,_,n+1,.cons _ t=>zV.drop n t
def Jj:Option V->Option Value->Prop
 | some v,some u=>Zx v u
 | none,none=>True
 | _,_=>False
def KV {κ:Type}:List (κ×V)->List (κ×Value)->Prop:=Paired fun (p:κ×V) (q:κ×Value)=>p.1=q.1/\Zx p.2 q.2
def kV:Key->V
 | .inl i=>.int i
 | .inr x=>.str x
inductive HO where
  | lst (xs:List V)
  | tup (xs:List V)
  | dK (kvs:List (Key×V)) | dT (kvs:List (List Key×V))
  | set (S:Int->Bool) (n:Nat)
  | ins (C dx:Addr) (fs:List (Str×V))
  | own (x:Addr)
  | xd (fs:List (Str×V))
  | met (f x:Addr)
  | rng (lo hi:Int)
  | frz (o:Obj) (u:HO)
  | tbl (ps:Array Value)
  | ext (φ:Heap->Prop)
abbrev Hp:=Addr->Option HO
def upd (H:Hp) (a:Addr) (o:HO):Hp:=fun b=>if b=a then some o else H b
theorem zw {H:Hp} {a:Addr} {o:HO}:upd H a o a=some o:=by unfold upd;rw [if_pos rfl]
theorem zx {H:Hp} {a b:Addr} {o:HO} (h:b≠a):upd H a o b=H b:=by unfold upd;rw [if_neg h]
theorem ne_of {H:Hp} {a b:Addr} {o u:HO} (h:H a=some o) (h':H b=some u) (d:o≠u):a≠b:=by
 intro e;subst e;rw [h] at h';exact d (Option.some.inj h')
theorem yf {H:Hp} {a b:Addr} {o:HO} (h:H a=some o) (h':H b=none):a≠b:=by
 intro e;subst e;rw [h] at h';cases h'
section
variable (P:Program) (w:World)
def yE (H:Hp) (h:Heap) (a:Addr):HO->Prop
 | .lst xs=>xs.length<=sizeLine/\∃ (its:List Value) (n:Nat),zV xs its/\h.get? a=some { cls:=.type "list",data:=.seq its.toArray n }
 | .tup xs=>xs.length<=sizeLine/\∃ its:List Value,zV xs its/\IsTup h a its.toArray
 | .dK kvs=>kvs.length<=sizeLine/\(a == sysModules)=false/\∃ vs,KV kvs vs/\h.DictOf (yD P w) a vs
 | .dT kvs=>kvs.length<=sizeLine/\(a == sysModules)=false/\∃ xs:List (List Key×Addr×Value),
   Paired (fun (p:List Key×V) (q:List Key×Addr×Value)=>p.1=q.1/\H q.2.1=some (.tup (p.1.map kV))/\Zx p.2 q.2.2) kvs xs /\
   ∃ o es ep,h.get? a=some o/\o.ExactDict/\o.data=.dict es ep/\es.toList=xs.map (entryOfKey (tupleKind (yD P w)))/\(xs.map (·.1)).Nodup
 | .set S n=>h.SetOf (intKind P w) a S n
 | .ins C dx fs=>H dx=some (.own a)/\fs.length<=1000/\dx≠a/\h.get? a=some (PySem.W.instObj C dx) /\
   ∃ mA,h.Ns1 dx mA/\(∀ f,Jj (fs.lookup f) (mA f))/\PySem.Within mA (fs.map (·.1))
 | .own _=>∃ o,h.get? a=some o
 | .xd fs=>∃ mA,h.Ns1 a mA/\∀ f,Jj (fs.lookup f) (mA f)
 | .rng lo hi=>∃ t u v,h.get? a=some { cls:=.type "range",data:=.fields #[.int lo t,.int hi u,.int 1 v] }
 | .frz o u=>h.get? a=some o/\yE H h a u
 | .tbl ps=>h.get? a=some { cls:=.none,data:=.fields ps }
 | .met f x=>h.get? a=some (PySem.W.methodObj (.ref f) (.ref x))
 | .ext φ=>φ h/\(∃ o,h.get? a=some o)/\∀ h1 h2:Heap,φ h1->(∀ o,h1.get? a=some o->h2.get? a=some o)->φ h2
def HOk (H:Hp) (h:Heap):Prop:=∀ a o,H a=some o->yE P w H h a o
end
section
variable {P:Program} {w:World} {H H':Hp} {h h':Heap} {a:Addr} {o:HO}
theorem yE.lt (x:yE P w H h a o):a<h.objs.size:=by
 cases o with
 | lst xs=>obtain ⟨_,_,_,_,e⟩:=x;exact Qn e
 | tup xs=>obtain ⟨_,_,_,p⟩:=x;exact p.lt
 | dK kvs=>obtain ⟨_,_,_,_,o,_,_,e,_⟩:=x;exact Qn e
 | dT kvs=>obtain ⟨_,_,_,_,o,_,_,e,_⟩:=x;exact Qn e
 | set S n=>obtain ⟨o,_,_,_,e,_⟩:=x;exact Qn e
 | ins C dx fs=>obtain ⟨_,_,_,e,_⟩:=x;exact Qn e
 | own y=>obtain ⟨_,e⟩:=x;exact Qn e
 | xd fs=>obtain ⟨_,⟨_,_,_,e,_⟩,_⟩:=x;exact Qn e
 | rng lo hi=>obtain ⟨_,_,_,e⟩:=x;exact Qn e
 | frz ob u=>obtain ⟨e,_⟩:=x;exact Qn e
 | tbl ps=>exact Qn (show h.get? a=some _ from x)
 | met f y=>exact Qn (show h.get? a=some _ from x)
 | ext φ=>obtain ⟨_,⟨_,e⟩,_⟩:=x;exact Qn e
theorem Paired.mapP {α β:Type} {F G:α->β->Prop}:∀ {l₁:List α} {l₂:List β},Paired F l₁ l₂->(∀ a b,F a b->G a b)->Paired G l₁ l₂
 | _,_,.nil,_=>.nil
 | _,_,.cons r t,f=>.cons (f _ _ r) (Paired.mapP t f)
theorem yE.stay (x:yE P w H h a o) (k:∀ b u,(b=a\/H b=some (.own a))->h.get? b=some u->h'.get? b=some u)
  (ho:∀ b,H b=some (.own a)->H' b=some (.own a)) (ht:∀ b xs,H b=some (.tup xs)->H' b=some (.tup xs)):yE P w H' h' a o:=by
 induction o with
 | lst xs=>obtain ⟨z,its,n,r,e⟩:=x;exact ⟨z,its,n,r,k _ _ (.inl rfl) e⟩
 | tup xs=>obtain ⟨z,its,r,ob,e,c⟩:=x;exact ⟨z,its,r,ob,k _ _ (.inl rfl) e,c⟩
 | dK kvs=>obtain ⟨z,y,vs,r,ob,es,ep,e,c⟩:=x;exact ⟨z,y,vs,r,ob,es,ep,k _ _ (.inl rfl) e,c⟩
 | dT kvs =>
  obtain ⟨z,y,xs,r,ob,es,ep,e,c⟩:=x
  exact ⟨z,y,xs,Paired.mapP r fun p q z=>⟨z.1,ht _ _ z.2.1,z.2.2⟩,ob,es,ep,k _ _ (.inl rfl) e,c⟩
 | set S n=>obtain ⟨ob,es,ep,t,e,c⟩:=x;exact ⟨ob,es,ep,t,k _ _ (.inl rfl) e,c⟩
 | ins C dx fs =>
  obtain ⟨d,z,ne,e,mA,⟨od,es,ep,e2,c⟩,r⟩:=x
  exact ⟨ho _ d,z,ne,k _ _ (.inl rfl) e,mA,⟨od,es,ep,k _ _ (.inr d) e2,c⟩,r⟩
 | own y=>obtain ⟨ob,e⟩:=x;exact ⟨ob,k _ _ (.inl rfl) e⟩
 | xd fs=>obtain ⟨mA,⟨od,es,ep,e,c⟩,r⟩:=x;exact ⟨mA,⟨od,es,ep,k _ _ (.inl rfl) e,c⟩,r⟩
 | rng lo hi=>obtain ⟨t,u,v,e⟩:=x;exact ⟨t,u,v,k _ _ (.inl rfl) e⟩
 | frz ob u ih=>obtain ⟨e,q⟩:=x;exact ⟨k _ _ (.inl rfl) e,ih q⟩
 | tbl ps =>
  have e:h.get? a=some { cls:=.none,data:=.fields ps }:=x
  show h'.get? a=some { cls:=.none,data:=.fields ps }
  exact k a _ (.inl rfl) e
 | met f y =>
  have e:h.get? a=some (PySem.W.methodObj (.ref f) (.ref y)):=x
  show h'.get? a=some (PySem.W.methodObj (.ref f) (.ref y))
  exact k a _ (.inl rfl) e
 | ext φ=>obtain ⟨p,⟨o,e⟩,st⟩:=x;exact ⟨st _ _ p fun o q=>k _ _ (.inl rfl) q,⟨o,k _ _ (.inl rfl) e⟩,st⟩
theorem HOk.lt (x:HOk P w H h) (e:H a=some o):a<h.objs.size:=(x a o e).lt
theorem HOk.fresh (x:HOk P w H h) (e:h.objs.size<=a):H a=none:=by
 cases q:H a with
 | none=>rfl
 | some u=>exact absurd (Qs (x.lt q) e) (Pc _)
theorem HOk.kept (x:HOk P w H h) (k:∀ b u,h.get? b=some u->h'.get? b=some u):HOk P w H h':=fun a o e =>
 (x a o e).stay (fun b u _ q=>k b u q) (fun _ q=>q) fun _ _ q=>q
theorem HOk.laid (x:HOk P w H h) (k:∀ b u,h.get? b=some u->h'.get? b=some u) (hp:h.objs.size<=a) (new:yE P w (upd H a o) h' a o):HOk P w (upd H a o) h':=fun b u e=>by
 have hn:=x.fresh hp
 by_cases hb:b=a
 ·subst hb;rw [zw] at e;cases e;exact new
 ·rw [zx hb] at e
  exact (x b u e).stay (fun c v _ q=>k c v q) (fun c q=>by rw [zx (yf q hn)];exact q) fun c xs q=>by rw [zx (yf q hn)];exact q
end
def Rd (H:Hp) (a:Addr) (u:HO):Prop:=H a=some u\/∃ o,H a=some (.frz o u)
theorem Rd.ok {P:Program} {w:World} {H:Hp} {h:Heap} {a:Addr} {u:HO} (r:Rd H a u) (x:HOk P w H h):yE P w H h a u:=by
 rcases r with r | ⟨o,r⟩
 ·exact x a u r
 ·obtain ⟨_,q⟩:=x a _ r
  exact q
def Mut:Option HO->Prop
 | some (.lst _)=>True
 | some (.dK _)=>True
 | some (.dT _)=>True
 | some (.set _ _)=>True
 | some (.ins _ _ _)=>True
 | some (.ext _)=>True
 | _=>False
section
variable {P:Program} {w:World} {H:Hp} {h h':Heap} {x e:Addr} {o':HO}
theorem HOk.write (ok:HOk P w H h) (mu:Mut (H x)) (he:e=x\/H e=some (.own x)) (k:∀ b u,b≠e->h.get? b=some u->h'.get? b=some u) (heo:∃ u,h'.get? e=some u)
  (new:yE P w (upd H x o') h' x o'):HOk P w (upd H x o') h':=fun b u q=>by
 have nown:∀ c y,H c=some (.own y)->c≠x:=fun c y r z=>by subst z;rw [r] at mu;exact mu
 have ntup:∀ c xs,H c=some (.tup xs)->c≠x:=fun c xs r z=>by subst z;rw [r] at mu;exact mu
 by_cases hb:b=x
 ·subst hb;rw [zw] at q;cases q;exact new
 ·rw [zx hb] at q
  by_cases hbe:b=e
  ·have q':H b=some (.own x):=by
    rcases he with z | z
    ·exact absurd (hbe.trans z) hb
    ·rw [hbe];exact z
   rw [q] at q';cases q'
   obtain ⟨v,hv⟩:=heo
   exact ⟨v,by rw [hbe];exact hv⟩
  ·refine (ok b u q).stay (fun c v hc r=>k c v ?_ r) (fun c r=>by rw [zx (nown c b r)];exact r) fun c xs r=>by rw [zx (ntup c xs r)];exact r
   rcases hc with rfl | hc
   ·exact hbe
   ·rintro rfl
    rcases he with z | z
    ·exact nown c b hc z
    ·rw [hc] at z;cases z;exact hb rfl
end
structure Un (fs ex:List Addr) (H H':Hp) (h h':Heap):Prop where
 keep:∀ b o,h.get? b=some o->H b=none->b∉fs->b∉ex->h'.get? b=some o
 slot:∀ b o,h.get? b=some o->H b=none->b∈fs->b∉ex->∃ sl,h'.get? b=some { o with slots:=sl }
 free:∀ b o,h.get? b=some o->H b=none->b∉ex->H' b=none
 there:∀ b o,h.get? b=some o->b∉ex->∃ o',h'.get? b=some o'
 tups:∀ b xs,H b=some (.tup xs)->H' b=some (.tup xs)
 frzs:∀ b o u,H b=some (.frz o u)->H' b=some (.frz o u)
 tbls:∀ b ps,H b=some (.tbl ps)->∃ more,H' b=some (.tbl (ps++more))
section
variable {fs fs' ex ex':List Addr} {H H1 H2:Hp} {h h1 h2 h':Heap} {a x e:Addr} {o:HO}
theorem Un.any (u:Un fs ex H H1 h h1) {b:Addr} {ob:Obj} (q:h.get? b=some ob) (n:H b=none) (hx:b∉ex):∃ sl,h1.get? b=some { ob with slots:=sl }:=by
 by_cases hb:b∈fs
 ·exact u.slot b ob q n hb hx
 ·exact ⟨ob.slots,u.keep b ob q n hb hx⟩
theorem Un.trans (a:Un fs ex H H1 h h1) (b:Un fs ex H1 H2 h1 h2):Un fs ex H H2 h h2 where
 keep:=fun c ob q n hc hx=>b.keep c ob (a.keep c ob q n hc hx) (a.free c ob q n hx) hc hx
 slot:=fun c ob q n hc hx=>by
  obtain ⟨sl,e1⟩:=a.slot c ob q n hc hx
  obtain ⟨sl',e2⟩:=b.slot c _ e1 (a.free c ob q n hx) hc hx
  exact ⟨sl',e2⟩
 free:=fun c ob q n hx=>by
  obtain ⟨o',e1⟩:=a.there c ob q hx
  exact b.free c o' e1 (a.free c ob q n hx) hx
 there:=fun c ob q hx=>by
  obtain ⟨o',e1⟩:=a.there c ob q hx
  exact b.there c o' e1 hx
 tups:=fun c xs q=>b.tups c xs (a.tups c xs q)
 frzs:=fun c ob xs q=>b.frzs c ob xs (a.frzs c ob xs q)
 tbls:=fun c ps q=>by
  obtain ⟨m1,e1⟩:=a.tbls c ps q
  obtain ⟨m2,e2⟩:=b.tbls c _ e1
  exact ⟨m1++m2,by rw [e2,Array.append_assoc]⟩
theorem Un.kept (k:∀ b u,h.get? b=some u->h'.get? b=some u):Un fs ex H H h h' :=
 ⟨fun b ob q _ _ _=>k b ob q,fun b ob q _ _ _=>⟨ob.slots,k b ob q⟩,fun _ _ _ n _=>n,fun b ob q _=>⟨ob,k b ob q⟩,fun _ _ q=>q,fun _ _ _ q=>q,fun _ ps q=>⟨#[],by rw [q];simp⟩⟩
theorem Un.refl:Un fs ex H H h h:=Un.kept fun _ _ q=>q
theorem Un.laid (k:∀ b u,h.get? b=some u->h'.get? b=some u) (hp:h.objs.size<=a) (hn:H a=none):Un fs ex H (upd H a o) h h' where
 keep:=fun b u q _ _ _=>k b u q
 slot:=fun b u q _ _ _=>⟨u.slots,k b u q⟩
 free:=fun b u q n _=>by rw [zx (Qu (Qs (Qn q) hp))];exact n
 there:=fun b u q _=>⟨u,k b u q⟩
 tups:=fun b xs q=>by rw [zx (yf q hn)];exact q
 frzs:=fun b u xs q=>by rw [zx (yf q hn)];exact q
 tbls:=fun b ps q=>⟨#[],by rw [zx (yf q hn),q];simp⟩
theorem Un.write (mu:Mut (H x)) (he:e=x\/H e=some (.own x)) (k:∀ b u,b≠e->h.get? b=some u->h'.get? b=some u) (heo:∃ u,h'.get? e=some u):Un fs ex H (upd H x o) h h':=by
 have hx:∀ b,H b=none->b≠x:=fun b n z=>by subst z;rw [n] at mu;exact mu
 have hb:∀ b,H b=none->b≠e:=fun b n z=>by
  subst z
  rcases he with r | r
  ·exact hx b n r
  ·rw [n] at r;cases r
 have hm:∀ b u,H b=some u->¬ Mut (some u)->b≠x:=fun b u q nm z=>by subst z;rw [q] at mu;exact nm mu
 refine ⟨fun b u q n _ _=>k b u (hb b n) q,fun b u q n _ _=>⟨u.slots,k b u (hb b n) q⟩,fun b u q n _=>by rw [zx (hx b n)];exact n,fun b u q _=>?_,
  fun b xs q=>by rw [zx (hm b _ q fun z=>z)];exact q,fun b u xs q=>by rw [zx (hm b _ q fun z=>z)];exact q,fun b ps q=>⟨#[],by rw [zx (hm b _ q fun z=>z),q];simp⟩⟩
 by_cases hbe:b=e
 ·subst hbe;exact heo
 ·exact ⟨u,k b u hbe q⟩
theorem Un.mono (u:Un fs ex H H1 h h1) (hs:∀ b∈fs,b∈fs') (hx:∀ b∈ex,b∈ex'):Un fs' ex' H H1 h h1 :=
 ⟨fun b ob q n hb he=>u.keep b ob q n (fun z=>hb (hs b z)) fun z=>he (hx b z),fun _ _ q n _ he=>u.any q n fun z=>he (hx _ z),fun b ob q n he=>u.free b ob q n fun z=>he (hx b z),fun b ob q he=>u.there b ob q fun z=>he (hx b z),u.tups,u.frzs,u.tbls⟩
end
def trk (h:Heap) (H:Hp):List Addr:=(List.range h.objs.size).filter fun a=>(H a).isSome
def hidT (h:Heap) (H:Hp):Heap:=PySem.W.hideAll h (trk h H)
theorem hidT_size (h:Heap) (H:Hp):(hidT h H).objs.size=h.objs.size:=PySem.W.hideAll_size _ _
theorem hidT_get {h:Heap} {H:Hp} {b:Addr} {o:Obj} (e:h.get? b=some o) (n:H b=none):(hidT h H).get? b=some o :=
 PySem.W.hideAll_get _ e fun hm=>by
  have q:(H b).isSome=true:=(List.mem_filter.mp hm).2
  rw [n] at q;simp at q
theorem of_hidT {h:Heap} {H:Hp} {b:Addr} {o:Obj} (e:(hidT h H).get? b=some o):h.get? b=some o/\H b=none:=by
 have e':h.get? b=some o:=PySem.W.of_hideAll (trk h H) e
 refine ⟨e',?_⟩
 cases q:H b with
 | none=>rfl
 | some x =>
  have hm:b∈trk h H:=List.mem_filter.mpr ⟨P3.mpr (Qn e'),by simp [q]⟩
  have z:(hidT h H).get? b=none:=PySem.W.hideAll_none (trk h H) hm
  rw [z] at e;cases e
def allNews (g h:Heap) (L:Addr):List (Addr×Obj):=(List.range h.objs.size).filterMap fun a=>if a=L\/(g.get? a).isSome=true then none else (h.get? a).map fun o=>(a,o)
def Zm (g h:Heap) (L d:Addr):List (Addr×Obj):=(allNews g h L).filter fun p=>decide (p.1≠d)
end L2
namespace L2
open PySem PySem.Spec PyProof.Rows
structure Mod (K:PySem.W.Frag) (mg:Str->Option Value) (base:Heap):Prop where
 kin:K.In base
 glob:base.Ns mainGlobals mg
 blt:∃ mb,base.Ns builtinsNs mb/\∀ x:Str,x≠"__name__"->mb x=bootBuiltins x
 nolimit:base.NoLimit
 seer:base.NoSeer
structure Cx where
 prog:Program
 w:World
 K:PySem.W.Frag
 mg:Str->Option Value
 base:Heap
 A:Around
 N:List Str
 s₀:Shared
 Ud:Hp
 env:Env
 outer:List Env
 stack:List Env
 ex:List Addr
 fn:Str->Bool
 calm:Bool
 pn:List (Addr×Obj)
 xe:Value->Shared->Prop
def frs (l:List Env):List Addr:=l.filterMap (·.frame)
abbrev Cx.fs (X:Cx):List Addr:=frs X.outer
def Vis (sc:Scope) (x:Str):Prop:=sc.names.lookup x=some .local\/sc.names.lookup x=some .cell\/sc.names.lookup x=some .free
def Loc (sc:Scope) (x:Str):Prop:=sc.names.lookup x=some .local\/sc.names.lookup x=some .cell
def Look (env:Env) (h:Heap) (m:Str->Option Value) (x:Str) (u:Value):Prop :=
 (env.kindOf x=some .local/\m x=some u)\/((env.kindOf x=some .cell\/env.kindOf x=some .free)/\∃ c,env.cells.lookup x=some c/\h.IsCell c (some u))
structure Cx.Ok (X:Cx):Prop where
 mod:Mod X.K X.mg X.base
 kind:X.env.scope.kind=.function
 glob:X.env.globals=mainGlobals
 blt:X.env.builtins=builtinsNs
 above:X.s₀.heap.objs.size<=X.env.locals
 inj:∀ x y c,X.env.cells.lookup x=some c->X.env.cells.lookup y=some c->x=y
 has:∀ x,(X.env.kindOf x=some .cell\/X.env.kindOf x=some .free)->∃ c,X.env.cells.lookup x=some c
 cab:∀ x c,X.fn x=true->X.env.cells.lookup x=some c->X.s₀.heap.objs.size<=c
 hd:X.calm=true->X.A.handled=none
 frames:X.A.frames=some X.stack
 stk:X.stack=X.outer\/(X.stack=X.env::X.outer/\X.env.frame=some X.env.locals)
 exf:∀ b∈X.ex,b≠X.env.locals/\∀ x c,X.env.cells.lookup x=some c->c≠b
 bs:∀ b o,X.base.get? b=some o->X.s₀.heap.get? b=some o/\X.Ud b=none
 bsz:X.base.objs.size<=X.s₀.heap.objs.size
 noex:∀ b o,X.base.get? b=some o->b∉X.ex
 exfs:∀ b∈X.ex,b∉X.fs
 funs:X.s₀.heap.FunFrames X.base X.outer
 frf:∀ b∈X.fs,X.Ud b=none
 top:∃ e l,X.stack=e::l/\e.scope.isGenerator=false/\e.scope.isCoroutine=false/\e.builtins=builtinsNs/\e.globals=mainGlobals
 tree:X.prog.given.tree=none
structure Inv (X:Cx) (pins:List (Addr×Obj)) (σ:List (Option V)) (H:Hp) (s:Shared):Prop where
 ok:X.Ok
 os:s.os=X.s₀.os
 bare:AllBare s.gens
 base:Un X.fs X.ex X.Ud H X.s₀.heap s.heap
 loc:∃ m,s.heap.Ns X.env.locals m/\∀ (i:Nat) (x:Str) (v:V),X.N[i]?=some x->σ[i]?=some (some v)->Vis X.env.scope x->∃ u,Zx v u/\Look X.env s.heap m x u
 cell:∀ x c,X.env.cells.lookup x=some c->∃ v,s.heap.IsCell c v
 free:H X.env.locals=none
 freeC:∀ x c,X.env.cells.lookup x=some c->H c=none
 pin:∀ p∈X.pn++pins,s.heap.get? p.1=some p.2/\H p.1=none/\p.1≠X.env.locals/\p.1∉X.fs/\∀ v,p.2.data≠.cell v
 hok:HOk X.prog X.w H s.heap
 len:σ.length=X.N.length
section
variable {X:Cx} {pins:List (Addr×Obj)} {σ:List (Option V)} {H H':Hp} {s:Shared} {h':Heap}
theorem Cx.Ok.nofr (ok:X.Ok) {b:Addr} {o:Obj} (e:X.base.get? b=some o):b∉X.fs:=fun hb=>by
 have:=(ok.funs.mem hb).1
 rw [e] at this;cases this
theorem Inv.bs (I:Inv X pins σ H s):∀ b o,X.base.get? b=some o->s.heap.get? b=some o/\H b=none:=fun b o e =>
 ⟨I.base.keep b o (I.ok.bs b o e).1 (I.ok.bs b o e).2 (I.ok.nofr e) (I.ok.noex b o e),I.base.free b o (I.ok.bs b o e).1 (I.ok.bs b o e).2 (I.ok.noex b o e)⟩
theorem Inv.bk (I:Inv X pins σ H s):∀ b o,X.base.get? b=some o->s.heap.get? b=some o:=fun b o e=>(I.bs b o e).1
theorem Inv.mod (I:Inv X pins σ H s):Mod X.K X.mg X.base:=I.ok.mod
theorem Inv.kIn (I:Inv X pins σ H s):X.K.In s.heap:=I.ok.mod.kin.keeps I.bk
theorem Inv.nolimit (I:Inv X pins σ H s):s.heap.NoLimit:=I.ok.mod.nolimit.keeps I.bk
theorem Inv.fr (I:Inv X pins σ H s):∃ m,Fr X.base X.env.locals s.heap m :=
 let ⟨m,hn,_⟩:=I.loc
 ⟨m,hn,I.bk,Qw I.ok.bsz I.ok.above⟩
theorem Inv.lt (I:Inv X pins σ H s):X.env.locals<s.heap.objs.size:=let ⟨_,hn,_⟩:=I.loc;hn.lt
theorem Inv.sz (I:Inv X pins σ H s):X.s₀.heap.objs.size<=s.heap.objs.size:=Qw I.ok.above (Q2 I.lt)
theorem Inv.nofs (I:Inv X pins σ H s) {a:Addr} (h:s.heap.objs.size<=a):a∉X.fs:=fun hb=>by
 obtain ⟨_,o,ho,_⟩:=I.ok.funs.mem hb
 exact absurd (Qs (Qn ho) (Qw I.sz h)) (Pc _)
theorem Inv.cne (I:Inv X pins σ H s):∀ x c,X.env.cells.lookup x=some c->c≠X.env.locals:=fun x c e z=>by
 obtain ⟨v,o,ho,hd⟩:=I.cell x c e
 obtain ⟨m,⟨o',es,ep,ho',hd',_⟩,_⟩:=I.loc
 rw [z,ho'] at ho;cases ho;rw [hd'] at hd;cases hd
theorem Inv.funs (I:Inv X pins σ H s):s.heap.FunFrames X.base X.outer:=by
 have all:∀ (l:List Env),(∀ b∈frs l,b∈X.fs)->X.s₀.heap.FunFrames X.base l->s.heap.FunFrames X.base l:=by
  intro l
  induction l with
  | nil=>intro _ _;trivial
  | cons env r ih =>
   intro hs hl
   obtain ⟨hk,⟨L,o,hf,hn,ho,hd⟩,hr⟩:=hl
   have hL:L∈X.fs:=hs L (by unfold frs;rw [P8,hf];exact Qt)
   obtain ⟨sl,e⟩:=I.base.slot L o ho (I.ok.frf L hL) hL fun z=>I.ok.exfs L z hL
   exact ⟨hk,⟨L,_,hf,hn,e,hd⟩,ih (fun b hb=>hs b (by unfold frs;rw [P8,hf];exact Qd _ hb)) hr⟩
 exact all X.outer (fun _ hb=>hb) I.ok.funs
theorem Inv.stack (I:Inv X pins σ H s):s.heap.FunFrames X.base X.stack:=by
 rcases I.ok.stk with e | ⟨e,hf⟩
 ·rw [e];exact I.funs
 ·rw [e]
  obtain ⟨m,hn,_⟩:=I.loc
  refine .cons (by rw [I.ok.kind];decide) hf hn ?_ I.funs
  exact Heap.get?_none_of_le (Qw I.ok.bsz I.ok.above)
theorem Inv.stkSub (I:Inv X pins σ H s):∀ b∈frs X.stack,b∈X.env.locals::X.fs:=fun b hb=>by
 rcases I.ok.stk with e | ⟨e,hf⟩
 ·rw [e] at hb;exact Qd _ hb
 ·rw [e] at hb
  unfold frs at hb
  rw [P8,hf] at hb
  exact hb
theorem Inv.stkFree (I:Inv X pins σ H s):∀ b∈frs X.stack,H b=none:=fun b hb=>by
 rcases Qb.mp (I.stkSub b hb) with e | hb
 ·rw [e];exact I.free
 ·obtain ⟨_,o,ho,_⟩:=I.ok.funs.mem hb
  exact I.base.free b o ho (I.ok.frf b hb) fun z=>I.ok.exfs b z hb
theorem Inv.step {g':Array GenState} {t':Nat} {d':Drawn} {ch:List Addr} (I:Inv X pins σ H s)
  (hch:∀ b∈ch,(b∈X.ex\/X.s₀.heap.objs.size<=b)/\b≠X.env.locals/\(∀ x c,X.env.cells.lookup x=some c->c≠b)/\∀ p∈X.pn++pins,p.1≠b)
  (keep:∀ b o,b≠X.env.locals->b∉X.fs->b∉ch->s.heap.get? b=some o->H b=none->h'.get? b=some o)
  (slot:∀ b o,b≠X.env.locals->b∈X.fs->b∉ch->s.heap.get? b=some o->H b=none->∃ sl,h'.get? b=some { o with slots:=sl }) (free:∀ b o,b∉ch->s.heap.get? b=some o->H b=none->H' b=none)
  (there:∀ b o,b∉ch->s.heap.get? b=some o->∃ o',h'.get? b=some o')
  (tups:∀ b xs,H b=some (.tup xs)->H' b=some (.tup xs)) (frzs:∀ b o u,H b=some (.frz o u)->H' b=some (.frz o u)) (tbls:∀ b ps,H b=some (.tbl ps)->∃ more,H' b=some (.tbl (ps++more)))
  (ns:∀ m,s.heap.Ns X.env.locals m->h'.Ns X.env.locals m) (hok:HOk X.prog X.w H' h') (hg:AllBare g') :
  Inv X pins σ H' { s with heap:=h',gens:=g',drawn:=d',toks:=t' }:=by
 have neL:∀ b o,X.s₀.heap.get? b=some o->b≠X.env.locals:=fun b o e=>Qu (Qs (Qn e) I.ok.above)
 have neC:∀ b o,X.s₀.heap.get? b=some o->b∉X.ex->b∉ch:=fun b o e hx hb=>by
  rcases (hch b hb).1 with z | z
  ·exact hx z
  ·exact absurd (Qs (Qn e) z) (Pc _)
 have cellK:∀ x c,X.env.cells.lookup x=some c->∀ v,s.heap.IsCell c v->h'.IsCell c v:=fun x c e v ⟨o,ho,hd⟩=>by
  have nch:c∉ch:=fun z=>(hch c z).2.2.1 x c e rfl
  by_cases hc:c∈X.fs
  ·obtain ⟨sl,q⟩:=slot c o (I.cne x c e) hc nch ho (I.freeC x c e)
   exact ⟨_,q,hd⟩
  ·exact ⟨o,keep c o (I.cne x c e) hc nch ho (I.freeC x c e),hd⟩
 refine ⟨I.ok,I.os,hg,⟨fun b o e n hb hx=>?_,fun b o e n hb hx=>?_,fun b o e n hx=>?_,fun b o e hx=>?_,fun b xs e=>tups b xs (I.base.tups b xs e),fun b o xs e=>frzs b o xs (I.base.frzs b o xs e),fun b ps e=>?_⟩,?_,fun x c e=>?_,?_,fun x c e=>?_,fun p hp=>?_,hok,I.len⟩
 ·exact keep b o (neL b o e) hb (neC b o e hx) (I.base.keep b o e n hb hx) (I.base.free b o e n hx)
 ·obtain ⟨sl,e1⟩:=I.base.slot b o e n hb hx
  obtain ⟨sl',e2⟩:=slot b _ (neL b o e) hb (neC b o e hx) e1 (I.base.free b o e n hx)
  exact ⟨sl',e2⟩
 ·obtain ⟨o',e1⟩:=I.base.there b o e hx
  exact free b o' (neC b o e hx) e1 (I.base.free b o e n hx)
 ·obtain ⟨o',e1⟩:=I.base.there b o e hx
  exact there b o' (neC b o e hx) e1
 ·obtain ⟨m1,e1⟩:=I.base.tbls b ps e
  obtain ⟨m2,e2⟩:=tbls b _ e1
  exact ⟨m1++m2,by rw [e2,Array.append_assoc]⟩
 ·obtain ⟨m,hn,hl⟩:=I.loc
  refine ⟨m,ns m hn,fun i x v e1 e2 e3=>?_⟩
  obtain ⟨u,r,l⟩:=hl i x v e1 e2 e3
  refine ⟨u,r,?_⟩
  rcases l with l | ⟨k,c,e,z⟩
  ·exact .inl l
  ·exact .inr ⟨k,c,e,cellK x c e _ z⟩
 ·obtain ⟨v,z⟩:=I.cell x c e
  exact ⟨v,cellK x c e v z⟩
 ·obtain ⟨m,⟨o,_,_,ho,_⟩,_⟩:=I.loc
  exact free _ o (fun z=>(hch _ z).2.1 rfl) ho I.free
 ·obtain ⟨v,o,ho,hd⟩:=I.cell x c e
  exact free c o (fun z=>(hch c z).2.2.1 x c e rfl) ho (I.freeC x c e)
 ·obtain ⟨e,n,ne,nf,d⟩:=I.pin p hp
  have nch:p.1∉ch:=fun z=>(hch p.1 z).2.2.2 p hp rfl
  exact ⟨keep p.1 p.2 ne nf nch e n,free p.1 p.2 nch e n,ne,nf,d⟩
theorem Inv.un {t':Nat} (I:Inv X pins σ H s) (u:Un X.fs [] H H' s.heap h') (hok:HOk X.prog X.w H' h'):Inv X pins σ H' { s with heap:=h',toks:=t' }:=by
 obtain ⟨m,⟨o,es,ep,ho,r⟩,_⟩:=id I.loc
 obtain ⟨sl,hL⟩:=u.any ho I.free (by simp)
 exact I.step (g':=s.gens) (d':=s.drawn) (ch:=[]) (fun _ z=>nomatch z) (fun b o _ hb _ e n=>u.keep b o e n hb (by simp)) (fun b o _ hb _ e n=>u.slot b o e n hb (by simp)) (fun b o _ e n=>u.free b o e n (by simp)) (fun b o _ e=>u.there b o e (by simp)) u.tups u.frzs u.tbls (fun m' hm=>by
  obtain ⟨o',es',ep',ho',r'⟩:=hm
  rw [ho] at ho';cases ho'
  exact ⟨_,es',ep',hL,r'⟩) hok I.bare
theorem Inv.call {g':Array GenState} {t':Nat} {d':Drawn} {ch:List Addr} (I:Inv X pins σ H s) (u:Un (frs X.stack) ch H H' s.heap h') (hok:HOk X.prog X.w H' h') (hg:AllBare g')
  (hch:∀ b∈ch,(b∈X.ex\/X.s₀.heap.objs.size<=b)/\b≠X.env.locals/\(∀ x c,X.env.cells.lookup x=some c->c≠b)/\∀ p∈X.pn++pins,p.1≠b) :
  Inv X pins σ H' { s with heap:=h',gens:=g',drawn:=d',toks:=t' }:=by
 obtain ⟨m,⟨o,es,ep,ho,r⟩,_⟩:=id I.loc
 obtain ⟨sl,hL⟩:=u.any ho I.free fun z=>(hch _ z).2.1 rfl
 exact I.step (ch:=ch) hch (fun b o hL hb hc e n=>u.keep b o e n (fun z=>(Qb.mp (I.stkSub b z)).elim hL hb) hc) (fun b o _ _ hc e n=>u.any e n hc) (fun b o hc e n=>u.free b o e n hc) (fun b o hc e=>u.there b o e hc) u.tups u.frzs u.tbls (fun m' hm=>by
  obtain ⟨o',es',ep',ho',r'⟩:=hm
  rw [ho] at ho';cases ho'
  exact ⟨_,es',ep',hL,r'⟩) hok hg
theorem Inv.turned {t':Nat} {it:Addr} (I:Inv X pins σ H s) (k:∀ b o,b≠it->s.heap.get? b=some o->h'.get? b=some o) (hn:H it=none) (hL:it≠X.env.locals)
  (h1:it∈X.ex\/X.s₀.heap.objs.size<=it) (h2:∀ x c,X.env.cells.lookup x=some c->c≠it) (h3:∀ p∈X.pn++pins,p.1≠it):Inv X pins σ H { s with heap:=h',toks:=t' }:=by
 have nit:∀ b u,H b=some u->b≠it:=fun b u e z=>by rw [z,hn] at e;cases e
 refine I.step (g':=s.gens) (d':=s.drawn) (ch:=[it]) (fun b hb=>?_) (fun b o _ _ hc e _=>k b o (fun z=>hc (by simp [z])) e) (fun b o _ _ hc e _=>⟨o.slots,k b o (fun z=>hc (by simp [z])) e⟩) (fun _ _ _ _ n=>n)
  (fun b o hc e=>⟨o,k b o (fun z=>hc (by simp [z])) e⟩) (fun _ _ e=>e) (fun _ _ _ e=>e) (fun b ps e=>⟨#[],by rw [e];simp⟩) (fun m hm=>?_) (fun b u e=>?_) I.bare
 ·have e:b=it:=by simpa using hb
  subst e
  exact ⟨h1,hL,h2,h3⟩
 ·obtain ⟨o,es,ep,ho,r⟩:=hm
  exact ⟨o,es,ep,k _ o (Ne.symm hL) ho,r⟩
 ·refine (I.hok b u e).stay (fun c v hc q=>k c v ?_ q) (fun _ q=>q) fun _ _ q=>q
  rcases hc with z | z
  ·rw [z];exact nit b u e
  ·exact nit c _ z
theorem Inv.tok (I:Inv X pins σ H s) (t:Nat):Inv X pins σ H { s with toks:=t }:=I.un (h':=s.heap) (t':=t) Un.refl I.hok
theorem Inv.kept {t':Nat} (I:Inv X pins σ H s) (k:∀ b u,s.heap.get? b=some u->h'.get? b=some u):Inv X pins σ H { s with heap:=h',toks:=t' }:=I.un (Un.kept k) (I.hok.kept k)
theorem Inv.laid {a:Addr} {o:HO} {t':Nat} (I:Inv X pins σ H s) (k:∀ b u,s.heap.get? b=some u->h'.get? b=some u) (hp:s.heap.objs.size<=a) (new:yE X.prog X.w (upd H a o) h' a o) :
  Inv X pins σ (upd H a o) { s with heap:=h',toks:=t' }:=I.un (Un.laid k hp (I.hok.fresh hp)) (I.hok.laid k hp new)
theorem Inv.write {x e:Addr} {o:HO} {t':Nat} (I:Inv X pins σ H s) (mu:Mut (H x)) (he:e=x\/H e=some (.own x)) (k:∀ b u,b≠e->s.heap.get? b=some u->h'.get? b=some u) (heo:∃ u,h'.get? e=some u)
  (new:yE X.prog X.w (upd H x o) h' x o):Inv X pins σ (upd H x o) { s with heap:=h',toks:=t' }:=I.un (Un.write mu he k heo) (I.hok.write mu he k heo new)
theorem Inv.pins_of {pins':List (Addr×Obj)} (I:Inv X pins σ H s) (h:∀ p∈pins',s.heap.get? p.1=some p.2/\H p.1=none/\p.1≠X.env.locals/\p.1∉X.fs/\∀ v,p.2.data≠.cell v):Inv X pins' σ H s :=
 ⟨I.ok,I.os,I.bare,I.base,I.loc,I.cell,I.free,I.freeC,fun p hp=>(QI.mp hp).elim (fun z=>I.pin p (List.mem_append_left _ z)) (h p),I.hok,I.len⟩
theorem nodup_ix {N:List Str} (hN:N.Nodup) {i j:Nat} {x:Str} (a:N[i]?=some x) (b:N[j]?=some x):i=j:=by
 obtain ⟨h1,e1⟩:=Qm.mp a
 obtain ⟨h2,e2⟩:=Qm.mp b
 exact (List.getElem_inj hN).mp (e1.trans e2.symm)
theorem store_ok2 {M:Model} {A:Around} {E:Value->Shared->Prop} {i:Nat} {x:Str} {v:V} {u:Value} {Q:Unit->Shared->Prop} (I:Inv X pins σ H s) (hN:X.N.Nodup) (hi:X.N[i]?=some x) (hx:Loc X.env.scope x) (r:Zx v u)
  (h:∀ s',Inv X pins (σ.set i (some v)) H s'->(∃ a,Heap.SameBut a s.heap s'.heap/\(a=X.env.locals\/X.env.cells.lookup x=some a))->Q () s') (hf:X.fn x=true\/X.env.scope.names.lookup x=some .local:=by first | exact .inl rfl | exact .inr rfl | assumption):wpAny M A (storeName X.env x u) Q E s:=by
 obtain ⟨m,hn,hl⟩:=id I.loc
 have hcls:(X.env.scope.kind == .class||(X.env.scope.kind == .module&&X.env.locals != X.env.globals))=false:=by rw [I.ok.kind];rfl
 have hiσ:i<σ.length:=by rw [I.len];exact (Qm.mp hi).1
 have cne:=I.cne
 have tracked:∀ {a:Addr} {h':Heap},(∃ o,s.heap.get? a=some o/\H a=none)->Heap.SameBut a s.heap h'->HOk X.prog X.w H h':=fun {a h'} ha hs b ob e=>by
  obtain ⟨_,_,hfree⟩:=ha
  refine (I.hok b ob e).stay (fun c w' hc q=>(hs.2 c ?_).trans q) (fun _ q=>q) fun _ _ q=>q
  rintro rfl
  rcases hc with rfl | hc
  ·rw [hfree] at e;cases e
  ·rw [hfree] at hc;cases hc
 rcases hx with hk | hk
 ·refine wpAny_storeName_local hk hn (fun h' hn' hs=>?_) hcls
  obtain ⟨oL,_,_,hoL,_⟩:=id hn
  refine h _ ⟨I.ok,I.os,I.bare,⟨fun b o e n hb hx=>?_,fun b o e n hb hx=>?_,I.base.free,fun b o e hx=>?_,I.base.tups,I.base.frzs,I.base.tbls⟩,⟨_,hn',fun j y v' e1 e2 e3=>?_⟩,fun y c e=>?_,I.free,I.freeC,fun p hp=>?_,tracked ⟨oL,hoL,I.free⟩ hs,by simpa using I.len⟩ ⟨_,hs,.inl rfl⟩
  ·exact (hs.2 b (Qu (Qs (Qn e) I.ok.above))).trans (I.base.keep b o e n hb hx)
  ·obtain ⟨sl,e1⟩:=I.base.slot b o e n hb hx
   exact ⟨sl,(hs.2 b (Qu (Qs (Qn e) I.ok.above))).trans e1⟩
  ·obtain ⟨o',e1⟩:=I.base.there b o e hx
   exact ⟨o',(hs.2 b (Qu (Qs (Qn e) I.ok.above))).trans e1⟩
  ·by_cases hj:j=i
   ·subst hj
    rw [hi] at e1;cases e1
    rw [QN hiσ] at e2
    cases e2
    exact ⟨u,r,.inl ⟨hk,by simp⟩⟩
   ·rw [P4 (Ne.symm hj)] at e2
    obtain ⟨u',r',q⟩:=hl j y v' e1 e2 e3
    refine ⟨u',r',?_⟩
    rcases q with ⟨k,e⟩ | ⟨k,c,e,z⟩
    ·refine .inl ⟨k,?_⟩
     have:y≠x:=fun e=>hj (nodup_ix hN e1 (e▸hi))
     simp [this,e]
    ·exact .inr ⟨k,c,e,z.sameBut hs (cne y c e)⟩
  ·obtain ⟨w',z⟩:=I.cell y c e
   exact ⟨w',z.sameBut hs (cne y c e)⟩
  ·obtain ⟨e,n,ne,nf,d⟩:=I.pin p hp
   exact ⟨(hs.2 p.1 ne).trans e,n,ne,nf,d⟩
 ·have hfn:X.fn x=true:=by
   rcases hf with z | z
   ·exact z
   ·rw [z] at hk;cases hk
  obtain ⟨c,hc⟩:=I.ok.has x (.inl hk)
  obtain ⟨w',z⟩:=I.cell x c hc
  refine wpAny_storeName_cell I.ok.kind hk hc z (fun h' hc' hs=>?_)
  obtain ⟨oc,hoc,hocd⟩:=id z
  refine h { s with heap:=h' } ⟨I.ok,I.os,I.bare,⟨fun b o e n hb hx=>?_,fun b o e n hb hx=>?_,I.base.free,fun b o e hx=>?_,I.base.tups,I.base.frzs,I.base.tbls⟩,⟨m,hn.sameBut hs (Ne.symm (cne x c hc)),fun j y v' e1 e2 e3=>?_⟩,fun y c' e=>?_,I.free,I.freeC,fun p hp=>?_,tracked ⟨oc,hoc,I.freeC x c hc⟩ hs,by simpa using I.len⟩ ⟨c,hs,.inr hc⟩
  ·exact (hs.2 b (Qu (Qs (Qn e) (I.ok.cab x c hfn hc)))).trans (I.base.keep b o e n hb hx)
  ·obtain ⟨sl,e1⟩:=I.base.slot b o e n hb hx
   exact ⟨sl,(hs.2 b (Qu (Qs (Qn e) (I.ok.cab x c hfn hc)))).trans e1⟩
  ·obtain ⟨o',e1⟩:=I.base.there b o e hx
   exact ⟨o',(hs.2 b (Qu (Qs (Qn e) (I.ok.cab x c hfn hc)))).trans e1⟩
  ·by_cases hj:j=i
   ·subst hj
    rw [hi] at e1;cases e1
    rw [QN hiσ] at e2
    cases e2
    exact ⟨u,r,.inr ⟨.inl hk,c,hc,hc'⟩⟩
   ·rw [P4 (Ne.symm hj)] at e2
    obtain ⟨u',r',q⟩:=hl j y v' e1 e2 e3
    refine ⟨u',r',?_⟩
    rcases q with q | ⟨k,c',e,z'⟩
    ·exact .inl q
    ·refine .inr ⟨k,c',e,z'.sameBut hs ?_⟩
     rintro rfl
     exact hj (nodup_ix hN e1 (I.ok.inj _ _ _ e hc▸hi))
  ·by_cases hcc:c'=c
   ·subst hcc;exact ⟨_,hc'⟩
   ·obtain ⟨w2,z2⟩:=I.cell y c' e
    exact ⟨w2,z2.sameBut hs hcc⟩
  ·obtain ⟨e,n,ne,nf,d⟩:=I.pin p hp
   refine ⟨(hs.2 p.1 ?_).trans e,n,ne,nf,d⟩
   intro q
   rw [q,hoc] at e
   have q':oc=p.2:=Option.some.inj e
   exact d w' (by rw [<- q'];exact hocd)
theorem store_ok {M:Model} {A:Around} {E:Value->Shared->Prop} {i:Nat} {x:Str} {v:V} {u:Value} {Q:Unit->Shared->Prop} (I:Inv X pins σ H s) (hN:X.N.Nodup) (hi:X.N[i]?=some x) (hx:Loc X.env.scope x) (r:Zx v u)
  (h:∀ s',Inv X pins (σ.set i (some v)) H s'->Q () s') (hf:X.fn x=true\/X.env.scope.names.lookup x=some .local:=by first | exact .inl rfl | exact .inr rfl | assumption):wpAny M A (storeName X.env x u) Q E s :=
 store_ok2 I hN hi hx r (fun s' I' _=>h s' I') hf
theorem Inv.call' {s':Shared} {ch:List Addr} (I:Inv X pins σ H s) (ho:s'.os=s.os) (u:Un (frs X.stack) ch H H' s.heap s'.heap) (hok:HOk X.prog X.w H' s'.heap) (hg:AllBare s'.gens)
  (hch:∀ b∈ch,(b∈X.ex\/X.s₀.heap.objs.size<=b)/\b≠X.env.locals/\(∀ x c,X.env.cells.lookup x=some c->c≠b)/\∀ p∈X.pn++pins,p.1≠b):Inv X pins σ H' s':=by
 obtain ⟨h',g',d',t',o'⟩:=s'
 have e:o'=s.os:=ho
 subst e
 exact I.call (g':=g') (t':=t') (d':=d') u hok hg hch
end
abbrev XK:=Value->Option Addr->Hp->Prop
abbrev St:=List (Option V)
abbrev VK:=V->Hp->Prop
abbrev TE:=St->Hp->VK->Prop
abbrev TT:=St->Hp->(Bool->Hp->Prop)->Prop
abbrev TA:=St->Hp->(List V->Hp->Prop)->Prop
structure Ends where
 nx:St->Hp->Prop
 rt:VK
 bk:St->Hp->Prop:=fun _ _=>False
 ct:St->Hp->Prop:=fun _ _=>False
abbrev TS:=Ends->St->Hp->Prop
def EP (X:Cx) (pins:List (Addr×Obj)) (σ:St) (Q:VK) (u:Value) (s':Shared):Prop:=∃ v H',Inv X pins σ H' s'/\Zx v u/\Q v H'
def TP (X:Cx) (pins:List (Addr×Obj)) (σ:St) (Q:Bool->Hp->Prop) (b:Bool) (s':Shared):Prop:=∃ H',Inv X pins σ H' s'/\Q b H'
def AP (X:Cx) (pins:List (Addr×Obj)) (σ:St) (Q:List V->Hp->Prop) (us:List Value) (s':Shared):Prop:=∃ vs H',Inv X pins σ H' s'/\zV vs us/\Q vs H'
def SP (X:Cx) (pins:List (Addr×Obj)) (D:Ends) (f:Flow) (s':Shared):Prop :=
 match f with
 | .next=>∃ σ' H',Inv X pins σ' H' s'/\D.nx σ' H'
 | .brk=>∃ σ' H',Inv X pins σ' H' s'/\D.bk σ' H'
 | .cont=>∃ σ' H',Inv X pins σ' H' s'/\D.ct σ' H'
 | .ret u=>∃ v σ' H',Inv X pins σ' H' s'/\Zx v u/\D.rt v H'
def PE (X:Cx) (e:Expr) (t:TE):Prop :=
 ∀ (pins:List (Addr×Obj)) (s:Shared) (σ:St) (H:Hp) (Q:VK),Inv X pins σ H s->t σ H Q->wpAny (model X.prog X.w) X.A (eval e X.env) (EP X pins σ Q) X.xe s
def PT (X:Cx) (e:Expr) (t:TT):Prop :=
 ∀ (pins:List (Addr×Obj)) (s:Shared) (σ:St) (H:Hp) (Q:Bool->Hp->Prop),Inv X pins σ H s->t σ H Q->wpAny (model X.prog X.w) X.A (isTrue e X.env (eval e X.env)) (TP X pins σ Q) X.xe s
def PW (X:Cx) (e:Expr) (t:TT):Prop :=
 ∀ (whole:Sem Value) (pins:List (Addr×Obj)) (s:Shared) (σ:St) (H:Hp) (Q:Bool->Hp->Prop),Inv X pins σ H s->t σ H Q->wpAny (model X.prog X.w) X.A (isTrue e X.env whole) (TP X pins σ Q) X.xe s
theorem PW.pt {X:Cx} {e:Expr} {t:TT} (h:PW X e t):PT X e t:=h _
def PA (X:Cx) (es:List Expr) (t:TA):Prop :=
 ∀ (pos:Pos) (pins:List (Addr×Obj)) (s:Shared) (σ:St) (H:Hp) (Q:List V->Hp->Prop),Inv X pins σ H s->t σ H Q->wpAny (model X.prog X.w) X.A (spliced (backTo pos (starEach es X.env))) (AP X pins σ Q) X.xe s
def PS (X:Cx) (st:Stmt) (t:TS):Prop :=
 ∀ (pins:List (Addr×Obj)) (s:Shared) (σ:St) (H:Hp) (D:Ends),Inv X pins σ H s->t D σ H->wpAny (model X.prog X.w) X.A (exec st X.env) (SP X pins D) X.xe s
def PSs (X:Cx) (st:List Stmt) (t:TS):Prop :=
 ∀ (pins:List (Addr×Obj)) (s:Shared) (σ:St) (H:Hp) (D:Ends),Inv X pins σ H s->t D σ H->wpAny (model X.prog X.w) X.A (execs st X.env) (SP X pins D) X.xe s
theorem thn {α:Type} {t:Sem α} {Q Q':α->Shared->Prop} {M:Model} {A:Around} {E:Value->Shared->Prop} {s:Shared} (h:wpAny M A t Q E s) (hQ:∀ a s,Q a s->Q' a s):wpAny M A t Q' E s:=Q1 h hQ fun _ _ x=>x
end L2
namespace L2
open PySem PySem.Spec PyProof.Rows
section
variable {X:Cx}
theorem bin {a b:Expr} {ta tb:TE} (ha:PE X a ta) (hb:PE X b tb) {pins:List (Addr×Obj)} {s:Shared} {σ:St} {H:Hp} {R:V->V->Hp->Prop} (I:Inv X pins σ H s) (h:ta σ H fun x H1=>tb σ H1 fun y H2=>R x y H2)
  {α:Type} {Q:α->Shared->Prop} {f:Value->Value->Sem α}
  (hf:∀ v u s2 x y H2,Inv X pins σ H2 s2->Zx x v->Zx y u->R x y H2->wpAny (model X.prog X.w) X.A (f v u) Q X.xe s2) :
  wpAny (model X.prog X.w) X.A (eval a X.env) (fun v s₁=>wpAny (model X.prog X.w) X.A (eval b X.env) (fun u s₂=>wpAny (model X.prog X.w) X.A (f v u) Q X.xe s₂) X.xe s₁) X.xe s:=by
 refine thn (ha pins s σ H _ I h) fun v s1 ⟨x,H1,I1,r1,q1⟩=>?_
 refine thn (hb pins s1 σ H1 _ I1 q1) fun u s2 ⟨y,H2,I2,r2,q2⟩=>?_
 exact hf v u s2 x y H2 I2 r1 r2 q2
def ZB (i:Nat):TE:=fun σ H Q=>∃ v,σ[i]?=some (some v)/\Q v H
def tC (v:V):TE:=fun _ H Q=>Q v H
theorem pe_var {i:Nat} {x:Str} {pos:Pos} (hN:X.N[i]?=some x) (hv:Vis X.env.scope x) (hd:(x == ("__debug__":Str))=false:=by decide) (hcd:(x == ("__classdict__":Str))=false:=by decide):PE X (.Name x pos) (ZB i):=by
 intro pins s σ H Q I h
 obtain ⟨v,e,h⟩:=h
 obtain ⟨m,hn,hl⟩:=I.loc
 obtain ⟨u,r,l⟩:=hl i x v hN e hv
 have fin:EP X pins σ Q u s:=⟨v,H,I,r,h⟩
 rcases l with ⟨hk,hm⟩ | ⟨hk,c,hc,hcell⟩
 ·exact wpAny_Name (wpAny_loadName_local I.ok.kind hk hn hm fin) hd
 ·rcases hk with hk | hk
  ·exact wpAny_Name (wpAny_loadName_cell I.ok.kind hk hc hcell fin) hd
  ·exact wpAny_Name (wpAny_loadName_free I.ok.kind hk hc hcell fin hcd) hd
theorem Yd {i j pos}:PE X (.Constant (.int i) j pos) (tC (.int i)):=fun _ _ _ H _ I h=>wpAny_Constant_int ⟨.int i,H,I.tok _,⟨_,rfl⟩,h⟩
theorem pe_bl {b j pos}:PE X (.Constant (.bool b) j pos) (tC (.bl b)):=fun _ _ _ H _ I h=>Constant_bool ⟨.bl b,H,I,rfl,h⟩
theorem pe_non {j pos}:PE X (.Constant .none j pos) (tC .non):=fun _ _ _ H _ I h=>Constant_none ⟨.non,H,I,rfl,h⟩
theorem Go {x j pos}:PE X (.Constant (.str x) j pos) (tC (.str x)):=fun _ _ _ H _ I h=>Calls.Constant_str ⟨.str x,H,I.tok _,⟨_,rfl⟩,h⟩
def Gl (X:Cx) (x:Str):Prop:=X.env.kindOf x=some .globalImplicit
theorem ld_glob {E:Value->Shared->Prop} {pins:List (Addr×Obj)} {s:Shared} {σ:St} {H:Hp} {x:Str} {u:Value} {pos:Pos} {Q:Value->Shared->Prop} (I:Inv X pins σ H s) (hg:Gl X x) (hm:X.mg x=some u) (h:Q u s)
  (hd:(x == ("__debug__":Str))=false:=by decide):wpAny (model X.prog X.w) X.A (eval (.Name x pos) X.env) Q E s :=
 Calls.Name_function_global I.ok.kind hg (Calls.loadGlobal_global (by rw [I.ok.glob];exact I.mod.glob.keeps I.bk) hm h) hd
theorem JC {E:Value->Shared->Prop} {pins:List (Addr×Obj)} {s:Shared} {σ:St} {H:Hp} {x:Str} {u:Value} {pos:Pos} {Q:Value->Shared->Prop} (I:Inv X pins σ H s) (hg:Gl X x) (hm:X.mg x=none) (hv:bootBuiltins x=some u) (h:Q u s)
  (hn:x≠"__name__":=by decide) (hd:(x == ("__debug__":Str))=false:=by decide):wpAny (model X.prog X.w) X.A (eval (.Name x pos) X.env) Q E s:=by
 obtain ⟨mb,h1,h2⟩:=I.mod.blt
 exact Calls.Name_function_global I.ok.kind hg (Calls.loadGlobal_builtin (by rw [I.ok.glob];exact I.mod.glob.keeps I.bk) hm (by rw [I.ok.blt];exact h1.keeps I.bk) ((h2 x hn).trans hv) h) hd
theorem pe_glob {x:Str} {v:V} {u:Value} {pos:Pos} (hg:Gl X x) (hm:X.mg x=some u) (r:Zx v u) (hd:(x == ("__debug__":Str))=false:=by decide):PE X (.Name x pos) (tC v) :=
 fun _ _ _ H _ I h=>ld_glob I hg hm ⟨v,H,I,r,h⟩ hd
theorem pe_bltn {x:Str} {v:V} {u:Value} {pos:Pos} (hg:Gl X x) (hm:X.mg x=none) (hv:bootBuiltins x=some u) (r:Zx v u) (hn:x≠"__name__":=by decide) (hd:(x == ("__debug__":Str))=false:=by decide):PE X (.Name x pos) (tC v) :=
 fun _ _ _ H _ I h=>JC I hg hm hv ⟨v,H,I,r,h⟩ hn hd
variable {a b:Expr} {ta tb:TE} {pos:Pos}
def PC (X:Cx) (op:CmpOp) (a b:Expr) (t:TE):Prop :=
 ∀ (pins:List (Addr×Obj)) (s:Shared) (σ:St) (H:Hp) (Q:VK),Inv X pins σ H s->t σ H Q ->
  wpAny (model X.prog X.w) X.A (eval a X.env) (fun v s₁=>wpAny (model X.prog X.w) X.A (eval b X.env) (fun u s₂=>wpAny (model X.prog X.w) X.A (compareOp op v u) (EP X pins σ Q) X.xe s₂) X.xe s₁) X.xe s
theorem nobehind (b:Expr) {op:CmpOp} (h:op≠.In) (h2:op≠.NotIn):behindInMarks op b=false:=by
 have e1:(op == CmpOp.In)=false:=by cases op <;> first | rfl | exact absurd rfl h
 have e2:(op == CmpOp.NotIn)=false:=by cases op <;> first | rfl | exact absurd rfl h2
 cases b <;> simp [behindInMarks,e1,e2]
def tB (t:TE):TT:=fun σ H Q=>t σ H fun x H1=>∃ c,x=.bl c/\Q c H1
theorem pt_cmp {op:CmpOp} {t:TE} (h:PC X op a b t) (h1:behindInMarks op b=false:=by first | exact nobehind _ (by decide) (by decide) | rfl):PT X (.Compare a [op] [b] pos) (tB t):=by
 intro pins s σ H Q I hw
 refine wpAny_isTrue_Compare1 (thn (h pins s σ H _ I hw) fun v s1 h1=>thn h1 fun u s2 h2=>thn h2 fun c s3 ⟨x,H1,I1,r1,q1⟩=>?_) h1
 obtain ⟨d,rfl,q⟩:=q1
 cases r1
 exact Pl ⟨H1,I1,q⟩
theorem pt_val {e:Expr} {t:TE} (h:PE X e t) (he:∀ whole,isTrue e X.env whole=(do let v <- whole;standAt e.pos;holding [v] (truthy v)):=by intro _;rfl):PT X e (tB t):=by
 intro pins s σ H Q I hw
 refine isTrue_plain (thn (h pins s σ H _ I hw) fun v s1 ⟨x,H1,I1,r1,q1⟩=>?_) (he _)
 obtain ⟨d,rfl,q⟩:=q1
 cases r1
 exact Pl ⟨H1,I1,q⟩
variable {tA tB':TT} {Zm:List Expr}
def tAnd (t u:TT):TT:=fun σ H Q=>t σ H fun c H1=>if c=true then u σ H1 Q else Q false H1
def tOr (t u:TT):TT:=fun σ H Q=>t σ H fun c H1=>if c=true then Q true H1 else u σ H1 Q
def tNot (t:TT):TT:=fun σ H Q=>t σ H fun c H1=>Q (!c) H1
theorem pw_and1 (ha:PT X a tA):PW X (.BoolOp .And [a] pos) tA:=by
 intro wh pins s σ H Q I h
 refine isTrue_and (thn (ha pins s σ H Q I h) fun c s1 e=>?_)
 cases c with
 | true=>exact isTrue_and_nil e
 | false=>exact e
theorem pw_or1 (ha:PT X a tA):PW X (.BoolOp .Or [a] pos) tA:=by
 intro wh pins s σ H Q I h
 refine isTrue_or (thn (ha pins s σ H Q I h) fun c s1 e=>?_)
 cases c with
 | false=>exact isTrue_or_nil e
 | true=>exact e
theorem pw_and (ha:PT X a tA) (hb:PW X (.BoolOp .And (b::Zm) pos) tB'):PW X (.BoolOp .And (a::b::Zm) pos) (tAnd tA tB'):=by
 intro wh pins s σ H Q I h
 refine isTrue_and (thn (ha pins s σ H _ I h) fun c s1 ⟨H1,I1,q1⟩=>?_)
 cases c with
 | true=>exact hb wh pins s1 σ H1 Q I1 q1
 | false=>exact ⟨H1,I1,q1⟩
theorem pw_or (ha:PT X a tA) (hb:PW X (.BoolOp .Or (b::Zm) pos) tB'):PW X (.BoolOp .Or (a::b::Zm) pos) (tOr tA tB'):=by
 intro wh pins s σ H Q I h
 refine isTrue_or (thn (ha pins s σ H _ I h) fun c s1 ⟨H1,I1,q1⟩=>?_)
 cases c with
 | true=>exact ⟨H1,I1,q1⟩
 | false=>exact hb wh pins s1 σ H1 Q I1 q1
theorem pt_not (ha:PT X a tA):PT X (.UnaryOp .Not a pos) (tNot tA):=by
 intro pins s σ H Q I h
 exact isTrue_not (ha pins s σ H (fun c H1=>Q (!c) H1) I h)
def tAndV (ta tb:TE):TE:=fun σ H Q=>ta σ H fun x H1=>∃ c,x=.bl c/\if c=true then tb σ H1 Q else Q (.bl false) H1
theorem pe_one {op} {t:TE} (h:PE X a t):PE X (.BoolOp op [a] pos) t:=fun pins s σ H Q I hw=>BoolOp_one (h pins s σ H Q I hw)
theorem pe_and (ha:PE X a ta) (hb:PE X (.BoolOp .And (b::Zm) pos) tb):PE X (.BoolOp .And (a::b::Zm) pos) (tAndV ta tb):=by
 intro pins s σ H Q I h
 refine BoolOp_and (thn (ha pins s σ H _ I h) fun v s1 ⟨x,H1,I1,r1,q1⟩=>?_)
 obtain ⟨c,rfl,q1⟩:=q1
 cases r1
 refine Pl ?_
 cases c with
 | true=>exact hb pins s1 σ H1 Q I1 q1
 | false=>exact ⟨.bl false,H1,I1,rfl,q1⟩
def tIf (t:TT) (ta tb:TE):TE:=fun σ H Q=>t σ H fun c H1=>if c=true then ta σ H1 Q else tb σ H1 Q
theorem pe_ifExp {c:Expr} (hc:PT X c tA) (ha:PE X a ta) (hb:PE X b tb):PE X (.IfExp c a b pos) (tIf tA ta tb):=by
 intro pins s σ H Q I h
 refine wpAny_IfExp (thn (hc pins s σ H _ I h) fun d s1 ⟨H1,I1,q1⟩=>?_)
 cases d with
 | true=>exact ha pins s1 σ H1 Q I1 q1
 | false=>exact hb pins s1 σ H1 Q I1 q1
end
end L2
namespace L2
open PySem PySem.Spec PyProof.Rows
def SqL (K:PySem.W.Frag) (H:Hp) (a:Addr) (xs:List V):Prop :=
 Rd H a (.lst xs) \/
  ∃ (o:Obj) (its:Array Value) (n:Nat),K.lookup a=some o/\o.cls=.type "list"/\o.dict=none/\o.data=.seq its n/\its.size<=sizeLine/\zV xs its.toList
def SqT (K:PySem.W.Frag) (H:Hp) (a:Addr) (xs:List V):Prop :=
 Rd H a (.tup xs) \/
  ∃ (o:Obj) (its:Array Value) (n:Nat),K.lookup a=some o/\o.cls=.type "tuple"/\o.data=.seq its n/\its.size<=sizeLine/\zV xs its.toList
def absV:Value->Option V
 | .none=>some .non
 | .bool b=>some (.bl b)
 | .int i _=>some (.int i)
 | .str x _=>some (.str x)
 | .bytes b _=>some (.byt b)
 | .float b _=>some (.flt b)
 | .ref a=>some (.ref a)
 | .type n=>some (.ty n)
 | _=>none
theorem Zx.abs {x:V} {u:Value} (r:Zx x u):absV u=some x:=by
 cases x with
 | non=>cases r;rfl
 | bl _=>cases r;rfl
 | int _=>obtain ⟨t,rfl⟩:=r;rfl
 | str _=>obtain ⟨t,rfl⟩:=r;rfl
 | byt _=>obtain ⟨t,rfl⟩:=r;rfl
 | flt _=>obtain ⟨t,rfl⟩:=r;rfl
 | ref _=>cases r;rfl
 | ty _=>cases r;rfl
theorem Zx.inj {x y:V} {u:Value} (r:Zx x u) (q:Zx y u):x=y:=Option.some.inj (r.abs.symm.trans q.abs)
theorem zV.inj:∀ {xs ys:List V} {us:List Value},zV xs us->zV ys us->xs=ys
 | _,_,_,.nil,.nil=>rfl
 | _,_,_,.cons r t,.cons r' t'=>by rw [r.inj r',zV.inj t t']
section
variable {X:Cx} {pins:List (Addr×Obj)} {σ:St} {H:Hp} {s:Shared} {a:Addr} {xs ys:List V}
theorem Inv.list (I:Inv X pins σ H s) (h:SqL X.K H a xs):∃ its:List Value,zV xs its/\PlainL s.heap a its.toArray/\xs.length<=sizeLine:=by
 rcases h with h | ⟨o,its,n,hk,hc,hd,hs,hz,r⟩
 ·obtain ⟨z,its,n,r,e⟩:=h.ok I.hok
  exact ⟨its,r,⟨_,n,e,rfl,rfl,rfl⟩,z⟩
 ·refine ⟨its.toList,r,⟨o,n,I.kIn a o hk,hc,hd,by simpa using hs⟩,?_⟩
  have e:=r.length
  simp only [Array.length_toList] at e
  omega
theorem Inv.tuple (I:Inv X pins σ H s) (h:SqT X.K H a xs):∃ its:List Value,zV xs its/\IsTup s.heap a its.toArray/\xs.length<=sizeLine:=by
 rcases h with h | ⟨o,its,n,hk,hc,hs,hz,r⟩
 ·obtain ⟨z,its,r,p⟩:=h.ok I.hok
  exact ⟨its,r,p,z⟩
 ·refine ⟨its.toList,r,⟨o,I.kIn a o hk,hc,n,by simpa using hs⟩,?_⟩
  have e:=r.length
  simp only [Array.length_toList] at e
  omega
theorem Inv.list_inj (I:Inv X pins σ H s) (h:SqL X.K H a xs) (h':SqL X.K H a ys):xs=ys:=by
 obtain ⟨its,r,⟨o,n,e,_,_,d⟩,_⟩:=I.list h
 obtain ⟨its',r',⟨o',n',e',_,_,d'⟩,_⟩:=I.list h'
 rw [e] at e';cases e'
 rw [d] at d'
 injection d' with d1 _
 have:its=its':=by simpa using congrArg Array.toList d1
 subst this
 exact r.inj r'
theorem Inv.tuple_inj (I:Inv X pins σ H s) (h:SqT X.K H a xs) (h':SqT X.K H a ys):xs=ys:=by
 obtain ⟨its,r,⟨o,e,_,n,d⟩,_⟩:=I.tuple h
 obtain ⟨its',r',⟨o',e',_,n',d'⟩,_⟩:=I.tuple h'
 rw [e] at e';cases e'
 rw [d] at d'
 injection d' with d1 _
 have:its=its':=by simpa using congrArg Array.toList d1
 subst this
 exact r.inj r'
end
abbrev Cx.wish (X:Cx) (E:Value->Shared->Prop):Cx:={ X with xe:=E }
abbrev Cx.nox (X:Cx):Cx:=X.wish fun _ _=>False
theorem Cx.Ok.wish {X:Cx} (ok:X.Ok) (E:Value->Shared->Prop):(X.wish E).Ok :=
 ⟨ok.mod,ok.kind,ok.glob,ok.blt,ok.above,ok.inj,ok.has,ok.cab,ok.hd,ok.frames,ok.stk,ok.exf,ok.bs,ok.bsz,ok.noex,ok.exfs,ok.funs,ok.frf,ok.top,ok.tree⟩
theorem Cx.Ok.unwish {X:Cx} {E:Value->Shared->Prop} (ok:(X.wish E).Ok):X.Ok :=
 ⟨ok.mod,ok.kind,ok.glob,ok.blt,ok.above,ok.inj,ok.has,ok.cab,ok.hd,ok.frames,ok.stk,ok.exf,ok.bs,ok.bsz,ok.noex,ok.exfs,ok.funs,ok.frf,ok.top,ok.tree⟩
section
variable {X:Cx} {pins:List (Addr×Obj)} {σ:St} {H:Hp} {s:Shared} {E:Value->Shared->Prop}
theorem Inv.wish (I:Inv X pins σ H s) (E:Value->Shared->Prop):Inv (X.wish E) pins σ H s:=⟨I.ok.wish E,I.os,I.bare,I.base,I.loc,I.cell,I.free,I.freeC,I.pin,I.hok,I.len⟩
theorem Inv.unwish (I:Inv (X.wish E) pins σ H s):Inv X pins σ H s:=⟨I.ok.unwish,I.os,I.bare,I.base,I.loc,I.cell,I.free,I.freeC,I.pin,I.hok,I.len⟩
theorem SP.unwish {D:Ends} {f:Flow} {s':Shared} (h:SP (X.wish E) pins D f s'):SP X pins D f s':=by
 cases f with
 | next=>obtain ⟨σ',H',I,q⟩:=h;exact ⟨σ',H',I.unwish,q⟩
 | brk=>obtain ⟨σ',H',I,q⟩:=h;exact ⟨σ',H',I.unwish,q⟩
 | cont=>obtain ⟨σ',H',I,q⟩:=h;exact ⟨σ',H',I.unwish,q⟩
 | ret u=>obtain ⟨v,σ',H',I,r,q⟩:=h;exact ⟨v,σ',H',I.unwish,r,q⟩
theorem PE.nox {e:Expr} {t:TE} (h:PE X.nox e t):PE X e t:=fun pins s σ H Q I hw =>
 Q1 (h pins s σ H Q (I.wish _) hw) (fun _ _ ⟨v,H',I',r,q⟩=>⟨v,H',I'.unwish,r,q⟩) fun _ _ z=>False.elim z
theorem PT.nox {e:Expr} {t:TT} (h:PT X.nox e t):PT X e t:=fun pins s σ H Q I hw =>
 Q1 (h pins s σ H Q (I.wish _) hw) (fun _ _ ⟨H',I',q⟩=>⟨H',I'.unwish,q⟩) fun _ _ z=>False.elim z
theorem PSs.nox {st:List Stmt} {t:TS} (h:PSs X.nox st t):PSs X st t:=fun pins s σ H D I hw =>
 Q1 (h pins s σ H D (I.wish _) hw) (fun _ _ q=>q.unwish) fun _ _ z=>False.elim z
end
section
variable {X:Cx} {st:Stmt} {Zm:List Stmt} {t u:TS} {e:Expr} {te:TE} {pos:Pos}
def WK:TS:=fun D σ H=>D.nx σ H
def YM (t u:TS):TS:=fun D σ H=>t { D with nx:=u D } σ H
theorem wQ:PSs X [] WK:=fun _ _ σ H _ I h=>wpAny_execs_nil ⟨σ,H,I,h⟩
theorem ZO (h1:PS X st t) (h2:PSs X Zm u):PSs X (st::Zm) (YM t u):=by
 intro pins s σ H D I h
 refine wpAny_execs_cons (thn (h1 pins s σ H { D with nx:=u D } I h) fun f s1 q=>?_)
 cases f with
 | next =>
  obtain ⟨σ',H',I',q⟩:=q
  exact h2 pins s1 σ' H' D I' q
 | ret v=>exact q
 | brk=>exact q
 | cont=>exact q
theorem Yc (h1:PS X st t):PSs X [st] t:=by
 intro pins s σ H D I h
 refine wpAny_execs_cons (thn (h1 pins s σ H D I h) fun f s1 q=>?_)
 cases f with
 | next=>exact wpAny_execs_nil q
 | ret v=>exact q
 | brk=>exact q
 | cont=>exact q
theorem Inv.quiet {pins:List (Addr×Obj)} {σ:St} {H:Hp} {s:Shared} (I:Inv X pins σ H s):interactive X.env=false:=by simp [interactive,I.ok.kind]
def YW (te:TE):TS:=fun D σ H=>te σ H fun _ H1=>D.nx σ H1
theorem Yy (he:PE X e te) (hs:swapsWith e none pos.line X.env=pure false:=by rfl):PS X (.Expr e pos) (YW te):=by
 intro pins s σ H D I h
 exact wpAny_Expr_any (thn (he pins s σ H _ I h) fun v s1 ⟨x,H1,I1,r1,q1⟩=>⟨σ,H1,I1,q1⟩) I.quiet hs
def W4 (te:TE):TS:=fun D σ H=>te σ H D.rt
theorem Jx (he:PE X e te):PS X (.Return (some e) pos) (W4 te):=by
 intro pins s σ H D I h
 exact wpAny_Return_some (thn (he pins s σ H _ I h) fun v s1 ⟨x,H1,I1,r1,q1⟩=>⟨x,σ,H1,I1,r1,q1⟩)
def tIfS (c:TT) (t u:TS):TS:=fun D σ H=>c σ H fun b H1=>if b=true then t D σ H1 else u D σ H1
theorem ps_if {c:Expr} {a b:List Stmt} {tc:TT} (hc:PT X c tc) (ha:PSs X a t) (hb:PSs X b u):PS X (.If c a b pos) (tIfS tc t u):=by
 intro pins s σ H D I h
 refine wpAny_If (thn (hc pins s σ H _ I h) fun d s1 ⟨H1,I1,q1⟩=>?_)
 cases d with
 | true=>exact ha pins s1 σ H1 D I1 q1
 | false=>exact hb pins s1 σ H1 D I1 q1
end
abbrev TG:=V->St->Hp->(St->Hp->Prop)->Prop
abbrev TGs:=List V->St->Hp->(St->Hp->Prop)->Prop
def PG (X:Cx) (target:Expr) (t:TG):Prop :=
 ∀ (pins:List (Addr×Obj)) (s:Shared) (σ:St) (H:Hp) (v:V) (u:Value) (Q:St->Hp->Prop),Inv X pins σ H s->Zx v u->t v σ H Q ->
  wpAny (model X.prog X.w) X.A (assign target X.env u) (fun _ s'=>∃ σ' H',Inv X pins σ' H' s'/\Q σ' H') X.xe s
def PGs (X:Cx) (ts:List Expr) (t:TGs):Prop :=
 ∀ (pins:List (Addr×Obj)) (s:Shared) (σ:St) (H:Hp) (vs:List V) (us:List Value) (Q:St->Hp->Prop),Inv X pins σ H s->zV vs us->t vs σ H Q ->
  wpAny (model X.prog X.w) X.A (assignInOrder ((assignEach ts X.env).map (·.2)) us) (fun _ s'=>∃ σ' H',Inv X pins σ' H' s'/\Q σ' H') X.xe s
abbrev TSet:=V->V->V->Hp->(Hp->Prop)->Prop
def PSet (X:Cx) (t:TSet):Prop :=
 ∀ (pins:List (Addr×Obj)) (s:Shared) (σ:St) (H:Hp) (o i v:V) (ov iv u:Value) (Q:Hp->Prop),Inv X pins σ H s->Zx o ov->Zx i iv->Zx v u->t o i v H Q ->
  wpAny (model X.prog X.w) X.A (setItem ov iv u) (fun _ s'=>∃ H',Inv X pins σ H' s'/\Q H') X.xe s
section
variable {X:Cx} {pos:Pos}
def ZX (i:Nat):TG:=fun v σ H Q=>Q (σ.set i (some v)) H
theorem pg_name {i:Nat} {x:Str} (hN:X.N.Nodup) (hi:X.N[i]?=some x) (hx:Loc X.env.scope x) (hf:X.fn x=true\/X.env.scope.names.lookup x=some .local:=by first | exact .inl rfl | exact .inr rfl | assumption):PG X (.Name x pos) (ZX i):=by
 intro pins s σ H v u Q I r h
 exact wpAny_assign_Name (store_ok I hN hi hx r (fun s' I'=>⟨_,H,I',h⟩) hf)
def gNil:TGs:=fun vs σ H Q=>vs=[]/\Q σ H
def gCons (t:TG) (u:TGs):TGs:=fun vs σ H Q=>∃ v r,vs=v::r/\t v σ H fun σ' H'=>u r σ' H' Q
theorem pgs_nil:PGs X [] gNil:=by
 intro pins s σ H vs us Q I r h
 obtain ⟨e,h⟩:=h
 subst e
 cases r
 exact assignInOrder_nil ⟨σ,H,I,h⟩
theorem pgs_cons {e:Expr} {es:List Expr} {t:TG} {u:TGs} (h1:PG X e t) (h2:PGs X es u)
  (hs:(assignEach (e::es) X.env).map (·.2)=assign e X.env::(assignEach es X.env).map (·.2):=by rfl):PGs X (e::es) (gCons t u):=by
 intro pins s σ H vs us Q I r h
 obtain ⟨v,vr,e1,h⟩:=h
 subst e1
 cases r with
 | cons r rr =>
  rw [hs]
  refine assignInOrder_cons (thn (h1 pins s σ H _ _ _ I r h) fun _ s1 ⟨σ1,H1,I1,q1⟩=>?_)
  exact h2 pins s1 σ1 H1 _ _ Q I1 rr q1
def gTup (K:PySem.W.Frag) (n:Nat) (t:TGs):TG:=fun v σ H Q=>∃ a xs,v=.ref a/\SqT K H a xs/\xs.length=n/\t xs σ H Q
theorem pg_tup {es:List Expr} {k:Nat} {t:TGs} {n:Nat} (hc:X.calm=true) (h:PGs X es t)
  (hn:(assignEach es X.env).length=n:=by rfl) (hst:(assignEach es X.env).findIdx? (·.1)=none:=by rfl):PG X (.Tuple es k pos) (gTup X.K n t):=by
 intro pins s σ H v u Q I r hw
 obtain ⟨a,xs,e1,hq,hl,hw⟩:=hw
 subst e1
 cases r
 obtain ⟨its,rv,ht,hz⟩:=I.tuple hq
 refine assign_Tuple_tuple (I.ok.hd hc) ht (by simp [hn,<- hl,rv.length]) hst fun h' hx=>?_
 have I1:Inv X pins σ H { s with heap:=h' }:=I.kept (t':=s.toks) fun b o e=>hx b o (Qu (Qn e)) e
 exact h pins _ σ H xs _ Q I1 (by simpa using rv) hw
def gSub (to ti:TE) (t:TSet):TG:=fun v σ H Q=>to σ H fun o H1=>ti σ H1 fun i H2=>t o i v H2 fun H3=>Q σ H3
theorem pg_sub {o i:Expr} {to ti:TE} {t:TSet} (ho:PE X o to) (hi:PE X i ti) (hs:PSet X t)
  (ha:∀ v,assign (.Subscript o i pos) X.env v=(do
   let ov <- holding [v] (eval o X.env)
   let iv <- holding [v,ov] (eval i X.env)
   standAt pos
   holding [v,ov,iv] (setItem ov iv v)
   release [v,ov,iv] []):=by intro _;rfl):PG X (.Subscript o i pos) (gSub to ti t):=by
 intro pins s σ H v u Q I r h
 rw [ha]
 refine Qa (Pb (thn (ho pins s σ H _ I h) fun ov s1 ⟨x,H1,I1,r1,q1⟩=>?_))
 refine Qa (Pb (thn (hi pins s1 σ H1 _ I1 q1) fun iv s2 ⟨y,H2,I2,r2,q2⟩=>?_))
 refine Qa (wpAny_standAt (Qa (Pb (thn (hs pins s2 σ H2 x y v ov iv u _ I2 r1 r2 r q2) fun _ s3 ⟨H3,I3,q3⟩=>?_))))
 exact wpAny_release ⟨σ,H3,I3,q3⟩
def yX (te:TE) (g:TG):TS:=fun D σ H=>te σ H fun x H1=>g x σ H1 D.nx
theorem ps_asg {tg e:Expr} {te:TE} {g:TG} (he:PE X e te) (hg:PG X tg g) (hs:swapsWithSole [tg] e pos.line X.env=pure false:=by rfl) (hw:swappedStores [tg] e X.env=pure none:=by rfl)
  (h1:(assignEach [tg] X.env).map (·.2)=[assign tg X.env]:=by rfl):PS X (.Assign [tg] e pos) (yX te g):=by
 intro pins s σ H D I h
 refine wpAny_Assign_stores (thn (he pins s σ H _ I h) fun v s1 ⟨x,H1,I1,r1,q1⟩=>?_) hs hw
 rw [h1]
 exact thn (hg pins s1 σ H1 x v _ I1 r1 q1) fun _ s2 q=>q
theorem YI {i:Nat} {x:Str} {e:Expr} {te:TE} {pos':Pos} (hN:X.N.Nodup) (hi:X.N[i]?=some x) (hx:Loc X.env.scope x) (he:PE X e te) (hs:swapsWith e (some (.Name x pos')) pos.line X.env=pure false:=by rfl) (hf:X.fn x=true\/X.env.scope.names.lookup x=some .local:=by first | exact .inl rfl | exact .inr rfl | assumption) :
  PS X (.Assign [.Name x pos'] e pos) (yX te (ZX i)):=by
 intro pins s σ H D I h
 refine wpAny_Assign_Name (thn (he pins s σ H _ I h) fun v s1 ⟨y,H1,I1,r1,q1⟩=>?_) hs
 exact store_ok I1 hN hi hx r1 (fun s2 I2=>⟨_,H1,I2,q1⟩) hf
end
section
variable {X:Cx} {pos:Pos}
end
structure It where
 go:Nat->Hp->Prop
 yld:Nat->Hp->V->Hp->Prop
 stop:Nat->Hp->Prop
def wD (X:Cx) (pins:List (Addr×Obj)) (H:Hp) (b:Addr):Prop :=
 H b=none/\b≠X.env.locals/\b∉X.fs/\(b∈X.ex\/X.s₀.heap.objs.size<=b)/\(∀ x c,X.env.cells.lookup x=some c->c≠b)/\∀ p∈X.pn++pins,p.1≠b
theorem Inv.fpOk {X:Cx} {pins:List (Addr×Obj)} {σ:St} {H H':Hp} {s:Shared} {b:Addr} (I:Inv X pins σ H s) (hb:s.heap.objs.size<=b) (hn:H' b=none):wD X pins H' b:=by
 refine ⟨hn,QD (Qs I.lt hb),I.nofs hb,.inr (Qw I.sz hb),fun x c e z=>?_,fun p hp z=>?_⟩
 ·obtain ⟨v,q⟩:=I.cell x c e
  exact absurd (Qs q.lt (by rw [z];exact hb)) (Pc _)
 ·exact absurd (Qs (Qn (I.pin p hp).1) (by rw [z];exact hb)) (Pc _)
structure gi (P:Program) (w:World) (K:PySem.W.Frag) (tg:Expr) (J:It) (fp:List Addr) (it:Addr) (tn:Nat->Heap->Prop):Prop where
 mem:it∈fp
 obj:∀ i h,tn i h->∀ b∈fp,∃ o,h.get? b=some o/\∀ v,o.data≠.cell v
 keep:∀ i h h',tn i h->(∀ b∈fp,∀ o,h.get? b=some o->h'.get? b=some o)->tn i h'
 item:∀ (X:Cx),X.prog=P->X.w=w->X.K=K->X.calm=true->∀ (i:Nat) (pins:List (Addr×Obj)) (s:Shared) (σ:St) (H:Hp) (E:Value->Shared->Prop),Inv X pins σ H s->(∀ b∈fp,wD X pins H b)->tn i s.heap->J.go i H ->
  wpAny (model P w) X.A (pyNext (.ref it)) (fun r s1=>∃ u,r=some u /\
   wpAny (model P w) X.A (letOwnedTupleGo tg (.ref it) u) (fun _ s2=>∃ x H',Inv X pins σ H' s2/\Zx x u/\J.yld i H x H'/\tn (i+1) s2.heap/\∀ b∈fp,H' b=none) E s1) E s
 done:∀ (X:Cx),X.prog=P->X.w=w->X.K=K->X.calm=true->∀ (i:Nat) (pins:List (Addr×Obj)) (s:Shared) (σ:St) (H:Hp) (E:Value->Shared->Prop),Inv X pins σ H s->(∀ b∈fp,wD X pins H b)->tn i s.heap->J.stop i H ->
  wpAny (model P w) X.A (pyNext (.ref it)) (fun r s1=>r=none/\Inv X pins σ H s1) E s
 self:∀ (A:Around) (i:Nat) (s:Shared) (Q:Value->Shared->Prop) (E:Value->Shared->Prop),tn i s.heap->Q (.ref it) s->wpAny (model P w) A (pyIter (.ref it)) Q E s
abbrev TI:=St->Hp->(It->Hp->Prop)->Prop
def PIE (X:Cx) (pins:List (Addr×Obj)) (σ:St) (tg:Expr) (R:It->Hp->Prop) (itv:Value) (s2:Shared):Prop :=
 ∃ (it:Addr) (fp:List Addr) (tn:Nat->Heap->Prop) (J:It) (H':Hp),itv=.ref it/\Inv X pins σ H' s2/\gi X.prog X.w X.K tg J fp it tn/\tn 0 s2.heap/\(∀ b∈fp,wD X pins H' b)/\R J H'
def PI (X:Cx) (tg iter:Expr) (wi:TI):Prop :=
 ∀ (pins:List (Addr×Obj)) (s:Shared) (σ:St) (H:Hp) (R:It->Hp->Prop),Inv X pins σ H s->wi σ H R ->
  wpAny (model X.prog X.w) X.A (eval iter X.env) (fun v s1=>wpAny (model X.prog X.w) X.A (pyIter v) (PIE X pins σ tg R) X.xe s1) X.xe s
theorem go_of {M : Model} {A : Around} {E : Value -> Shared -> Prop} {s : Shared} {tg : Expr} {it : Addr} {u : Value} {o : Obj} {n : String} {vs : Array Value} {Q : Unit -> Shared -> Prop} (ho : s.heap.get? it = some o) (hc : o.cls = .type n) (hd : o.data = .fields vs)
    (hn:["enumerate","zip","dict_itemiterator","dict_reverseitemiterator","odict_iterator","itertools.zip_longest","itertools.pairwise"].contains n=false) (hQ:Q () s):wpAny M A (letOwnedTupleGo tg (.ref it) u) Q E s:=by
  unfold letOwnedTupleGo
  cases tg <;> first
    | exact Qf hQ
    | (cases u <;> first
        | exact Qf hQ
        | (refine Qa (wpAny_load ho ?_)
           rw [hc,hd]
           show wpAny M A (if (["enumerate","zip","dict_itemiterator","dict_reverseitemiterator","odict_iterator","itertools.zip_longest","itertools.pairwise"].contains n&&vs[0]? == some (rawInt _))=true then _ else _) Q E s
           rw [if_neg (by intro h;rw [hn,Bool.false_and] at h;cases h)]
           exact Qf hQ))
def Itl (K:PySem.W.Frag) (a:Addr):It :=
 ⟨fun i H=>∃ xs x,SqL K H a xs/\xs[i]?=some x,fun i H x H'=>H'=H/\∀ xs,SqL K H a xs->xs[i]?=some x,fun i H=>∃ xs,SqL K H a xs/\xs.length<=i⟩
def Itt (K:PySem.W.Frag) (a:Addr):It :=
 ⟨fun i H=>∃ xs x,SqT K H a xs/\xs[i]?=some x,fun i H x H'=>H'=H/\∀ xs,SqT K H a xs->xs[i]?=some x,fun i H=>∃ xs,SqT K H a xs/\xs.length<=i⟩
def Itr (lo:Int) (n:Nat):It:=⟨fun i _=>i<n,fun i H x H'=>H'=H/\x=.int (lo+i),fun i _=>n<=i⟩
theorem turn_list {P:Program} {w:World} {K:PySem.W.Frag} {tg:Expr} (a it:Addr):gi P w K tg (Itl K a) [it] it (fun i h=>h.IsListIter it a i) where
 mem:=by simp
 obj:=fun i h st b hb=>by
  have e:b=it:=by simpa using hb
  subst e
  obtain ⟨o,e,c,d⟩:=st
  exact ⟨o,e,fun v z=>by rw [d] at z;cases z⟩
 keep:=fun i h h' st k=>st.at fun o e=>k it (by simp) o e
 item:=by
  intro X hP hw hK hc i pins s σ H E I hf st hg
  subst hP hw hK
  obtain ⟨xs,x,hq,hx⟩:=hg
  obtain ⟨its,rv,p,hz⟩:=I.list hq
  obtain ⟨u,hu,ru⟩:=rv.get hx
  obtain ⟨f0,f1,f2,f3,f4,f5⟩:=hf it (by simp)
  refine wpAny_pyNext_list_item st p.isList (x:=u) (by simpa using hu) fun h' st' sb=>?_
  have I1:Inv X pins σ H { s with heap:=h' }:=I.turned (t':=s.toks) (fun b o hb e=>(sb.2 b hb).trans e) f0 f1 f3 f4 f5
  obtain ⟨o,e,c,d⟩:=id st'
  exact ⟨u,rfl,go_of (s:={ s with heap:=h' }) e c d (by decide) ⟨x,H,I1,ru,⟨rfl,fun ys hy=>by rw [I.list_inj hy hq];exact hx⟩,st',fun b hb=>(hf b hb).1⟩⟩
 done:=by
  intro X hP hw hK hc i pins s σ H E I hf st hg
  subst hP hw hK
  obtain ⟨xs,hq,hx⟩:=hg
  obtain ⟨its,rv,p,hz⟩:=I.list hq
  obtain ⟨f0,f1,f2,f3,f4,f5⟩:=hf it (by simp)
  have hl:=rv.length
  exact wpAny_pyNext_list_end (I.ok.hd hc) st p.isList (by simp;omega) fun h' eb=>⟨rfl,I.turned (t':=s.toks) (fun b o hb e=>eb b o hb e) f0 f1 f3 f4 f5⟩
 self:=fun _ _ _ _ _ st h=>wpAny_pyIter_listiter st h
theorem turn_tuple {P:Program} {w:World} {K:PySem.W.Frag} {tg:Expr} (a it:Addr):gi P w K tg (Itt K a) [it] it (fun i h=>h.IsTupleIter it a i) where
 mem:=by simp
 obj:=fun i h st b hb=>by
  have e:b=it:=by simpa using hb
  subst e
  obtain ⟨o,e,c,d⟩:=st
  exact ⟨o,e,fun v z=>by rw [d] at z;cases z⟩
 keep:=fun i h h' st k=>st.at fun o e=>k it (by simp) o e
 item:=by
  intro X hP hw hK hc i pins s σ H E I hf st hg
  subst hP hw hK
  obtain ⟨xs,x,hq,hx⟩:=hg
  obtain ⟨its,rv,p,hz⟩:=I.tuple hq
  obtain ⟨u,hu,ru⟩:=rv.get hx
  obtain ⟨f0,f1,f2,f3,f4,f5⟩:=hf it (by simp)
  refine wpAny_pyNext_tuple_item st (show s.heap.IsTuple a its.toArray from p) (x:=u) (by simpa using hu) fun h' st' sb=>?_
  have I1:Inv X pins σ H { s with heap:=h' }:=I.turned (t':=s.toks) (fun b o hb e=>(sb.2 b hb).trans e) f0 f1 f3 f4 f5
  obtain ⟨o,e,c,d⟩:=id st'
  exact ⟨u,rfl,go_of (s:={ s with heap:=h' }) e c d (by decide) ⟨x,H,I1,ru,⟨rfl,fun ys hy=>by rw [I.tuple_inj hy hq];exact hx⟩,st',fun b hb=>(hf b hb).1⟩⟩
 done:=by
  intro X hP hw hK hc i pins s σ H E I hf st hg
  subst hP hw hK
  obtain ⟨xs,hq,hx⟩:=hg
  obtain ⟨its,rv,p,hz⟩:=I.tuple hq
  obtain ⟨f0,f1,f2,f3,f4,f5⟩:=hf it (by simp)
  have hl:=rv.length
  exact wpAny_pyNext_tuple_end (I.ok.hd hc) st (show s.heap.IsTuple a its.toArray from p) (by simp;omega) fun h' eb=>⟨rfl,I.turned (t':=s.toks) (fun b o hb e=>eb b o hb e) f0 f1 f3 f4 f5⟩
 self:=fun _ _ _ _ _ st h=>wpAny_pyIter_tupleiter st h
theorem turn_range {P:Program} {w:World} {K:PySem.W.Frag} {tg:Expr} (it:Addr) (lo:Int) (n:Nat):gi P w K tg (Itr lo n) [it] it (fun i h=>IsRangeIter h it (lo+(i:Nat)*1) ((n:Int) - (i:Nat)) 1) where
 mem:=by simp
 obj:=fun i h st b hb=>by
  have e:b=it:=by simpa using hb
  subst e
  exact ⟨_,st,fun v z=>by
   have z':Data.fields _=Data.cell v:=z
   cases z'⟩
 keep:=fun i h h' st k=>k it (by simp) _ st
 item:=by
  intro X hP hw hK hc i pins s σ H E I hf st hg
  subst hP hw hK
  obtain ⟨f0,f1,f2,f3,f4,f5⟩:=hf it (by simp)
  have W:=Walks.range (prog:=X.prog) (w:=X.w) (I.ok.hd hc) it lo 1 n
  refine W.item i s _ _ hg st fun v h' tk hv st' kk=>?_
  obtain ⟨t,rfl⟩:=hv
  have I1:Inv X pins σ H { s with heap:=h',toks:=tk }:=I.turned (fun b o hb e=>kk b o (by simpa using hb) e) f0 f1 f3 f4 f5
  refine ⟨_,rfl,go_of (s:={ s with heap:=h',toks:=tk }) (n:="range_iterator") st' rfl rfl (by decide) ⟨.int (lo+i),H,I1,⟨t,?_⟩,⟨rfl,rfl⟩,st',fun b hb=>(hf b hb).1⟩⟩
  rw [Int.mul_one]
 done:=by
  intro X hP hw hK hc i pins s σ H E I hf st hg
  subst hP hw hK
  obtain ⟨f0,f1,f2,f3,f4,f5⟩:=hf it (by simp)
  exact wpAny_pyNext_range_end (I.ok.hd hc) st (by have:n<=i:=hg;omega) fun h' eb=>⟨rfl,I.turned (t':=s.toks) (fun b o hb e=>eb b o hb e) f0 f1 f3 f4 f5⟩
 self:=fun _ _ _ _ _ st h=>wpAny_pyIter_rangeiter st h
end L2
namespace L2
open PySem PySem.Spec PyProof.Rows
section
variable {X:Cx} {tg:Expr}
def iList (K:PySem.W.Frag) (tl:TE):TI:=fun σ H R=>tl σ H fun x H1=>∃ a,x=.ref a/\(∃ xs,SqL K H1 a xs)/\R (Itl K a) H1
def iTup (K:PySem.W.Frag) (tl:TE):TI:=fun σ H R=>tl σ H fun x H1=>∃ a,x=.ref a/\(∃ xs,SqT K H1 a xs)/\R (Itt K a) H1
theorem pi_list {l:Expr} {tl:TE} (hl:PE X l tl):PI X tg l (iList X.K tl):=by
 intro pins s σ H R I h
 refine thn (hl pins s σ H _ I h) fun v s1 ⟨x,H1,I1,r1,q1⟩=>?_
 obtain ⟨a,e,⟨xs,hq⟩,q⟩:=q1
 subst e
 cases r1
 obtain ⟨its,rv,p,hz⟩:=I1.list hq
 refine wpAny_pyIter_list p.isList ?_
 refine ⟨s1.heap.objs.size,[s1.heap.objs.size],_,_,H1,rfl,I1.kept (t':=s1.toks) fun b o e=>Qc _ e,turn_list a _,⟨_,Qp _ rfl,rfl,rfl⟩,fun b hb=>?_,q⟩
 have e:b=s1.heap.objs.size:=by simpa using hb
 subst e
 exact I1.fpOk (Ql _) (I1.hok.fresh (Ql _))
theorem pi_tup {l:Expr} {tl:TE} (hl:PE X l tl):PI X tg l (iTup X.K tl):=by
 intro pins s σ H R I h
 refine thn (hl pins s σ H _ I h) fun v s1 ⟨x,H1,I1,r1,q1⟩=>?_
 obtain ⟨a,e,⟨xs,hq⟩,q⟩:=q1
 subst e
 cases r1
 obtain ⟨its,rv,p,hz⟩:=I1.tuple hq
 refine Ub (show s1.heap.IsTuple a its.toArray from p) ?_
 refine ⟨s1.heap.objs.size,[s1.heap.objs.size],_,_,H1,rfl,I1.kept (t':=s1.toks) fun b o e=>Qc _ e,turn_tuple a _,⟨_,Qp _ rfl,rfl,rfl⟩,fun b hb=>?_,q⟩
 have e:b=s1.heap.objs.size:=by simpa using hb
 subst e
 exact I1.fpOk (Ql _) (I1.hok.fresh (Ql _))
theorem range_it {pins:List (Addr×Obj)} {σ:St} {H:Hp} {s:Shared} {R:It->Hp->Prop} {E:Value->Shared->Prop} {lo hi:Int} {t u v:Tok} {tk:Nat} (I:Inv X pins σ H s) (h1:-(2 ^ 62)<=lo) (h2:lo<2 ^ 62) (h3:-(2 ^ 62)<=hi) (h4:hi<2 ^ 62)
  (q:R (Itr lo (hi - lo).toNat) H):wpAny (model X.prog X.w) X.A (pyIter (.ref s.heap.objs.size)) (PIE X pins σ tg R) E { s with heap:=s.heap.push { cls:=.type "range",data:=.fields #[.int lo t,.int hi u,.int 1 v] },toks:=tk }:=by
 refine wpAny_pyIter_range (IsRange.new ..) (small_one h1 h2 h3 h4) ?_
 have I1:Inv X pins σ H { s with heap:=s.heap.push { cls:=.type "range",data:=.fields #[.int lo t,.int hi u,.int 1 v] },toks:=tk }:=I.kept fun b o e=>Qc _ e
 refine ⟨(s.heap.push { cls:=.type "range",data:=.fields #[.int lo t,.int hi u,.int 1 v] }).objs.size,[(s.heap.push { cls:=.type "range",data:=.fields #[.int lo t,.int hi u,.int 1 v] }).objs.size],_,_,H,rfl,
  I1.kept (t':=tk) fun b o e=>Qc _ e,turn_range _ lo (hi - lo).toNat,?_,fun b hb=>?_,q⟩
 ·have e1:lo+((0:Nat):Int)*1=lo:=by simp
  have e2:(((hi - lo).toNat:Nat):Int) - ((0:Nat):Int)=Builtin.Range.rangeSize lo hi 1:=by rw [rangeSize_one];split <;> omega
  show IsRangeIter _ _ (lo+((0:Nat):Int)*1) ((((hi - lo).toNat:Nat):Int) - ((0:Nat):Int)) 1
  rw [e1,e2]
  exact Qp _ rfl
 ·have e:b=(s.heap.push { cls:=.type "range",data:=.fields #[.int lo t,.int hi u,.int 1 v] }).objs.size:=by simpa using hb
  subst e
  exact I1.fpOk (Ql _) (I1.hok.fresh (Ql _))
def iRng1 (ta:TA):TI:=fun σ H R=>ta σ H fun vs H1=>∃ j:Int,vs=[.int j]/\-(2 ^ 62)<=j/\j<2 ^ 62/\R (Itr 0 j.toNat) H1
theorem pi_range1 {a:Expr} {ta:TA} {p pos:Pos} (hg:Gl X "range") (hm:X.mg "range"=none) (ha:PA X [a] ta) (hs:starEach [a] X.env=[(false,eval a X.env)]:=by rfl):PI X tg (.Call (.Name "range" p) [a] [] pos) (iRng1 ta):=by
 intro pins s σ H R I h
 refine Call_ (JC I hg hm boot_range (PyProof.Rows.callWith_type1 (thn (ha pos pins s σ H _ I h) fun us s1 ⟨vs,H1,I1,r1,q1⟩=>?_) hs rfl))
 obtain ⟨j,e,q1,q2,q⟩:=q1
 subst e
 cases r1 with
 | cons r rr =>
  cases rr
  obtain ⟨t,rfl⟩:=r
  exact call_range_1 (range_it I1 (by omega) (by omega) q1 q2 (by simpa using q))
def tFor (wi:TI) (g:TG) (tb:TS):TS:=fun D σ H=>wi σ H fun J H1=>∃ W:Nat->Nat->St->Hp->Prop,(∃ m,W 0 m σ H1)/\∀ i m σ H,W i m σ H ->
 (J.stop i H/\D.nx σ H)\/(J.go i H/\∃ N:St->Hp->Prop,(∀ σ' H',N σ' H'->∃ m',m'<m/\W (i+1) m' σ' H')/\∀ x H',J.yld i H x H'->g x σ H' fun σ2 H2=>tb { D with nx:=N,ct:=N,bk:=D.nx } σ2 H2)
def Gn (fp:List Addr) (h:Heap):List (Addr×Obj):=fp.filterMap fun b=>(h.get? b).map fun o=>(b,o)
theorem j6 {fp:List Addr} {h:Heap} {b:Addr} {o:Obj} (hb:b∈fp) (e:h.get? b=some o):(b,o)∈Gn fp h:=List.mem_filterMap.mpr ⟨b,hb,by rw [e];rfl⟩
theorem of_pinsAt {fp:List Addr} {h:Heap} {p:Addr×Obj} (hp:p∈Gn fp h):p.1∈fp/\h.get? p.1=some p.2:=by
 obtain ⟨b,hb,e⟩:=List.mem_filterMap.mp hp
 cases q:h.get? b with
 | none=>rw [q] at e;cases e
 | some o =>
  rw [q] at e
  have e':(b,o)=p:=Option.some.inj e
  subst e'
  exact ⟨hb,q⟩
theorem Inv.pinned {pins:List (Addr×Obj)} {σ:St} {H:Hp} {s:Shared} {fp:List Addr} (I:Inv X pins σ H s) (hf:∀ b∈fp,wD X pins H b) (ho:∀ b∈fp,∃ o,s.heap.get? b=some o/\∀ v,o.data≠.cell v):Inv X (pins++Gn fp s.heap) σ H s :=
 I.pins_of fun p hp=>(QI.mp hp).elim (fun z=>I.pin p (QF _ z)) fun z=>by
  obtain ⟨hb,e⟩:=of_pinsAt z
  obtain ⟨f0,f1,f2,_⟩:=hf p.1 hb
  obtain ⟨o,e',d⟩:=ho p.1 hb
  rw [e] at e';cases e'
  exact ⟨e,f0,f1,f2,d⟩
theorem Inv.unpinned {pins pl:List (Addr×Obj)} {σ:St} {H:Hp} {s:Shared} (I:Inv X (pins++pl) σ H s):Inv X pins σ H s:=I.pins_of fun p hp=>I.pin p (QF _ (List.mem_append_left _ hp))
theorem ps_for {iter:Expr} {body:List Stmt} {wi:TI} {g:TG} {tb:TS} {pos:Pos} (hp:PassesOwn (model X.prog X.w) X.A X.env X.xe) (hc:X.calm=true) (hi:PI X tg iter wi) (hg:PG X tg g) (hb:PSs X body tb)
  (hs:∀ x,foldedSetIterable iter X.env x=pure x:=by intro _;rfl):PS X (.For tg iter body [] pos) (tFor wi g tb):=by
 intro pins s σ H D I h
 refine wpAny_For (thn (hi pins s σ H _ I h) fun v s1 h1=>thn h1 fun itv s2 h2=>?_) hs
 obtain ⟨it,fp,tn,J,H2,e,I2,T,st2,f2,W,⟨m0,w0⟩,turn⟩:=h2
 subst e
 have stat:∀ {H':Hp},(∀ b∈fp,H' b=none)->∀ b∈fp,wD X pins H' b:=fun hn b hb=>⟨hn b hb,(f2 b hb).2⟩
 refine codeAny_forLoop_any (fun n s'=>∃ i σ' H',Inv X pins σ' H' s'/\tn i s'.heap/\(∀ b∈fp,H' b=none)/\W i n σ' H') ?_ m0 ⟨0,σ,H2,I2,st2,fun b hb=>(f2 b hb).1,w0⟩
 rintro n s3 ⟨i,σ3,H3,I3,st3,fr3,w3⟩
 rcases turn i n σ3 H3 w3 with ⟨stop,qn⟩ | ⟨go,N,hN,step⟩
 ·refine PH hp (thn (T.done X rfl rfl rfl hc i pins s3 σ3 H3 X.xe I3 (stat fr3) st3 stop) fun r s4 ⟨hr,I4⟩=>?_)
  subst hr
  exact wpAny_execs_nil ⟨σ3,H3,I4,qn⟩
 ·refine PH hp (thn (T.item X rfl rfl rfl hc i pins s3 σ3 H3 X.xe I3 (stat fr3) st3 go) fun r s4 ⟨u,hr,h4⟩=>?_)
  subst hr
  refine PH hp (thn h4 fun _ s5 ⟨x,H5,I5,r5,y5,st5,fr5⟩=>?_)
  have I5':=I5.pinned (stat fr5) (T.obj _ _ st5)
  refine PH hp (thn (hg _ s5 σ3 H5 x u _ I5' r5 (step x H5 y5)) fun _ s6 ⟨σ6,H6,I6,q6⟩=>?_)
  refine PH hp (thn (hb _ s6 σ6 H6 _ I6 q6) fun f s7 q7=>?_)
  have again:∀ {σ7:St} {H7:Hp},Inv X (pins++Gn fp s5.heap) σ7 H7 s7->N σ7 H7->∃ m,m<n/\∃ i σ' H',Inv X pins σ' H' s7/\tn i s7.heap/\(∀ b∈fp,H' b=none)/\W i m σ' H':=fun {σ7 H7} I7 n7=>by
   obtain ⟨m',hm,w7⟩:=hN σ7 H7 n7
   refine ⟨m',hm,i+1,σ7,H7,I7.unpinned,T.keep _ _ _ st5 fun b hb o e=>(I7.pin (b,o) (QF _ (QF _ (j6 hb e)))).1,fun b hb=>?_,w7⟩
   obtain ⟨o,e,d⟩:=T.obj _ _ st5 b hb
   exact (I7.pin (b,o) (QF _ (QF _ (j6 hb e)))).2.1
  cases f with
  | next=>obtain ⟨σ7,H7,I7,n7⟩:=q7;exact again I7 n7
  | cont=>obtain ⟨σ7,H7,I7,n7⟩:=q7;exact again I7 n7
  | brk=>obtain ⟨σ7,H7,I7,q7⟩:=q7;exact ⟨σ7,H7,I7.unpinned,q7⟩
  | ret v=>obtain ⟨x7,σ7,H7,I7,r7,q7⟩:=q7;exact ⟨x7,σ7,H7,I7.unpinned,r7,q7⟩
end
end L2
namespace L2
open PySem PySem.Spec PyProof.Rows
abbrev R2:=V->V->Hp->VK->Prop
def OpR (X:Cx) (f:Value->Value->Sem Value) (r:R2):Prop :=
 ∀ (pins:List (Addr×Obj)) (s:Shared) (σ:St) (H:Hp) (x y:V) (v u:Value) (Q:VK),Inv X pins σ H s->Zx x v->Zx y u->r x y H Q ->
  wpAny (model X.prog X.w) X.A (f v u) (EP X pins σ Q) X.xe s
def UnR (X:Cx) (f:Value->Sem Value) (r:V->Hp->VK->Prop):Prop :=
 ∀ (pins:List (Addr×Obj)) (s:Shared) (σ:St) (H:Hp) (x:V) (v:Value) (Q:VK),Inv X pins σ H s->Zx x v->r x H Q ->
  wpAny (model X.prog X.w) X.A (f v) (EP X pins σ Q) X.xe s
def Wg (X:Cx) (f:Value) (r:List V->Hp->VK->Prop):Prop :=
 ∀ (pins:List (Addr×Obj)) (s:Shared) (σ:St) (H:Hp) (xs:List V) (us:List Value) (Q:VK),Inv X pins σ H s->zV xs us->r xs H Q ->
  wpAny (model X.prog X.w) X.A (call f us) (EP X pins σ Q) X.xe s
def tOp (r:R2) (ta tb:TE):TE:=fun σ H Q=>ta σ H fun x H1=>tb σ H1 fun y H2=>r x y H2 Q
def tUn (r:V->Hp->VK->Prop) (ta:TE):TE:=fun σ H Q=>ta σ H fun x H1=>r x H1 Q
def rI (C:Int->Int->Prop) (g:Int->Int->V):R2:=fun x y H Q=>∃ i j,x=.int i/\y=.int j/\C i j/\Q (g i j) H
def rI0 (g:Int->Int->V):R2:=fun x y H Q=>∃ i j,x=.int i/\y=.int j/\Q (g i j) H
def rU (g:Int->V):V->Hp->VK->Prop:=fun x H Q=>∃ i,x=.int i/\Q (g i) H
section
variable {X:Cx} {a b c:Expr} {ta tb tc:TE} {pos:Pos}
theorem binT (ha:PE X a ta) (hb:PE X b tb) {pins:List (Addr×Obj)} {s:Shared} {σ:St} {H:Hp} {R:V->V->Hp->Prop} (I:Inv X pins σ H s)
  (h:ta σ H fun x H1=>tb σ H1 fun y H2=>R x y H2) {Q:Value->Shared->Prop} {f:Value->Value->Sem Value}
  (hf:∀ v u s2 x y H2,Inv X pins σ H2 s2->Zx x v->Zx y u->R x y H2->wpAny (model X.prog X.w) X.A (f v u) Q X.xe s2) :
  wpAny (model X.prog X.w) X.A (eval a X.env) (fun v s₁=>wpAny (model X.prog X.w) X.A (eval b X.env) (fun u s₂=>wpAny (model X.prog X.w) X.A (f v u) Q X.xe s₂) X.xe s₁) X.xe s:=by
 refine thn (ha pins s σ H _ I h) fun v s1 ⟨x,H1,I1,r1,q1⟩=>?_
 refine thn (hb pins s1 σ H1 _ I1 q1) fun u s2 ⟨y,H2,I2,r2,q2⟩=>?_
 exact hf v u s2 x y H2 I2 r1 r2 q2
theorem WR {op:Operator} {r:R2} (ho:OpR X (binaryOp op) r) (ha:PE X a ta) (hb:PE X b tb):PE X (.BinOp a op b pos) (tOp r ta tb):=by
 intro pins s σ H Q I h
 exact wpAny_BinOp (binT ha hb I h fun v u s2 x y H2 I2 rx ry q=>ho pins s2 σ H2 x y v u Q I2 rx ry q)
theorem pe_un {op:UnaryOp} {r:V->Hp->VK->Prop} (ho:UnR X (unaryOp op) r) (ha:PE X a ta):PE X (.UnaryOp op a pos) (tUn r ta):=by
 intro pins s σ H Q I h
 exact UnaryOp_ (thn (ha pins s σ H _ I h) fun v s1 ⟨x,H1,I1,r1,q1⟩=>ho pins s1 σ H1 x v Q I1 r1 q1)
theorem opI {f:Value->Value->Sem Value} {C:Int->Int->Prop} {g:Int->Int->Int}
  (rule:∀ (i j:Int) (t u:Tok) (s:Shared) (Q:Value->Shared->Prop) (E:Value->Shared->Prop),C i j->Q (.int (g i j) s.toks) { s with toks:=s.toks+1 }->wpAny (model X.prog X.w) X.A (f (.int i t) (.int j u)) Q E s) :
  OpR X f (rI C fun i j=>.int (g i j)):=by
 intro pins s σ H x y v u Q I rx ry h
 obtain ⟨i,j,rfl,rfl,hc,q⟩:=h
 obtain ⟨t,rfl⟩:=rx
 obtain ⟨t',rfl⟩:=ry
 exact rule i j t t' s _ _ hc ⟨.int (g i j),H,I.tok _,⟨_,rfl⟩,q⟩
theorem opI0 {f:Value->Value->Sem Value} {g:Int->Int->Int}
  (rule:∀ (i j:Int) (t u:Tok) (s:Shared) (Q:Value->Shared->Prop) (E:Value->Shared->Prop),Q (.int (g i j) s.toks) { s with toks:=s.toks+1 }->wpAny (model X.prog X.w) X.A (f (.int i t) (.int j u)) Q E s) :
  OpR X f (rI0 fun i j=>.int (g i j)):=by
 intro pins s σ H x y v u Q I rx ry h
 obtain ⟨i,j,rfl,rfl,q⟩:=h
 obtain ⟨t,rfl⟩:=rx
 obtain ⟨t',rfl⟩:=ry
 exact rule i j t t' s _ _ ⟨.int (g i j),H,I.tok _,⟨_,rfl⟩,q⟩
theorem opB0 {f:Value->Value->Sem Value} {g:Int->Int->Bool}
  (rule:∀ (i j:Int) (t u:Tok) (s:Shared) (Q:Value->Shared->Prop) (E:Value->Shared->Prop),Q (.bool (g i j)) s->wpAny (model X.prog X.w) X.A (f (.int i t) (.int j u)) Q E s) :
  OpR X f (rI0 fun i j=>.bl (g i j)):=by
 intro pins s σ H x y v u Q I rx ry h
 obtain ⟨i,j,rfl,rfl,q⟩:=h
 obtain ⟨t,rfl⟩:=rx
 obtain ⟨t',rfl⟩:=ry
 exact rule i j t t' s _ _ ⟨.bl (g i j),H,I,rfl,q⟩
def CDiv (i j:Int):Prop:=0<j/\j<1073741824
def CPow (i j:Int):Prop:=0<=j/\j<=1000000/\i.natAbs<2 ^ 64
def CMul (i j:Int):Prop:=(-(2 ^ 64)<i/\i<2 ^ 64)\/(-(2 ^ 64)<j/\j<2 ^ 64)
theorem CMul.ok {i j:Int} (h:CMul i j):IntMulOk i j:=by
 rcases h with ⟨h1,h2⟩ | ⟨h1,h2⟩
 ·exact .of_left (intBits_le_64 h1 h2)
 ·exact .of_right (intBits_le_64 h1 h2)
theorem Zz:OpR X (binaryOp .Add) (rI0 fun i j=>.int (i+j)):=opI0 fun _ _ _ _ _ _ _ q=>add_int q
theorem ww:OpR X (binaryOp .Sub) (rI0 fun i j=>.int (i - j)):=opI0 fun _ _ _ _ _ _ _ q=>sub_int q
theorem Z5:OpR X (binaryOp .FloorDiv) (rI CDiv fun i j=>.int (i / j)):=opI fun i j _ _ _ _ _ hc q=>by
 have h1:(0:Int)<j:=hc.1
 have h2:j<1073741824:=hc.2
 exact floordiv_int (by omega) (by rw [Int.fdiv_eq_ediv_of_nonneg i (by omega)];exact q) (.inl (PyProof.noPylong_small (by omega)))
theorem ZF:OpR X (binaryOp .Mod) (rI (fun _ j=>0<j) fun i j=>.int (i % j)):=opI fun i j _ _ _ _ _ hc q=>by
 have h1:(0:Int)<j:=hc
 exact mod_int' (by omega) (by rw [Int.fmod_eq_emod_of_nonneg i (by omega)];exact q)
theorem unI {f:Value->Sem Value} {g:Int->Int}
  (rule:∀ (i:Int) (t:Tok) (s:Shared) (Q:Value->Shared->Prop) (E:Value->Shared->Prop),Q (.int (g i) s.toks) { s with toks:=s.toks+1 }->wpAny (model X.prog X.w) X.A (f (.int i t)) Q E s) :
  UnR X f (rU fun i=>.int (g i)):=by
 intro pins s σ H x v Q I rx h
 obtain ⟨i,rfl,q⟩:=h
 obtain ⟨t,rfl⟩:=rx
 exact rule i t s _ _ ⟨.int (g i),H,I.tok _,⟨_,rfl⟩,q⟩
theorem YU:UnR X (unaryOp .USub) (rU fun i=>.int (-i)):=unI fun _ _ _ _ _ q=>neg_int q
end
def scal:V->V->Bool
 | .non,.non=>true | .non,.int _=>true | .int _,.non=>true | .non,.bl _=>true | .bl _,.non=>true | .non,.str _=>true | .str _,.non=>true
 | .int _,.int _=>true | .bl _,.bl _=>true | .str _,.str _=>true | .byt _,.byt _=>true
 | .int _,.str _=>true | .str _,.int _=>true | .bl _,.str _=>true | .str _,.bl _=>true
 | _,_=>false
def rEq:R2:=fun x y H Q=>scal x y=true/\Q (.bl (decide (x=y))) H
def rNe:R2:=fun x y H Q=>scal x y=true/\Q (.bl (!decide (x=y))) H
theorem dec_int {i j:Int}:decide (V.int i=V.int j)=(i == j):=by
 rw [P0]
 simp
theorem dec_bl {i j:Bool}:decide (V.bl i=V.bl j)=(i == j):=by
 rw [P0]
 simp
theorem dec_str {i j:Str}:decide (V.str i=V.str j)=(i == j):=by
 rw [P0]
 simp
theorem dec_byt {i j:Array UInt8}:decide (V.byt i=V.byt j)=(i.toList == j.toList):=by
 rw [P0]
 cases i
 cases j
 simp
section
variable {X:Cx} {a b c:Expr} {ta tb tc:TE} {pos:Pos}
theorem Zv {pins:List (Addr×Obj)} {σ:St} {H:Hp} {s:Shared} {Q:VK} {k k':Bool} (I:Inv X pins σ H s) (q:Q (.bl k) H) (e:k=k'):EP X pins σ Q (.bool k') s:=by
 subst e
 exact ⟨.bl k,H,I,rfl,q⟩
theorem Z7:OpR X (compareOp .Eq) rEq:=by
 intro pins s σ H x y v u Q I rx ry h
 obtain ⟨hs,q⟩:=h
 cases x with
 | non =>
  cases rx
  cases y with
  | non=>cases ry;exact PySem.EqNone.eq_none_none (Zv I q (by simp))
  | bl j=>cases ry;exact PySem.EqNone.eq_none_bool (Zv I q (by simp))
  | int j=>obtain ⟨t',rfl⟩:=ry;exact PySem.EqNone.eq_none_int (Zv I q (by simp))
  | str j=>obtain ⟨t',rfl⟩:=ry;exact PySem.EqNone.eq_none_str (Zv I q (by simp))
  | _=>exact absurd (show false=true from hs) Qg
 | bl i =>
  cases rx
  cases y with
  | non=>cases ry;exact PySem.EqNone.eq_bool_none (Zv I q (by simp))
  | bl j=>cases ry;exact eq_bool (Zv I q dec_bl)
  | str j=>obtain ⟨t',rfl⟩:=ry;exact PySem.EqMixed.eq_bool_str (Zv I q (by simp))
  | _=>exact absurd (show false=true from hs) Qg
 | int i =>
  obtain ⟨t,rfl⟩:=rx
  cases y with
  | non=>cases ry;exact PySem.EqNone.eq_int_none (Zv I q (by simp))
  | int j=>obtain ⟨t',rfl⟩:=ry;exact eq_int (Zv I q dec_int)
  | str j=>obtain ⟨t',rfl⟩:=ry;exact PySem.EqMixed.eq_int_str (Zv I q (by simp))
  | _=>exact absurd (show false=true from hs) Qg
 | str i =>
  obtain ⟨t,rfl⟩:=rx
  cases y with
  | non=>cases ry;exact PySem.EqNone.eq_str_none (Zv I q (by simp))
  | bl j=>cases ry;exact PySem.EqMixed.eq_str_bool (Zv I q (by simp))
  | int j=>obtain ⟨t',rfl⟩:=ry;exact PySem.EqMixed.eq_str_int (Zv I q (by simp))
  | str j=>obtain ⟨t',rfl⟩:=ry;exact eq_str (Zv I q dec_str)
  | _=>exact absurd (show false=true from hs) Qg
 | byt i =>
  obtain ⟨t,rfl⟩:=rx
  cases y with
  | byt j=>obtain ⟨t',rfl⟩:=ry;exact PySem.W.eq_bytes (Zv I q dec_byt)
  | _=>exact absurd (show false=true from hs) Qg
 | _=>cases y <;> exact absurd (show false=true from hs) Qg
theorem Gr:OpR X (compareOp .NotEq) rNe:=by
 intro pins s σ H x y v u Q I rx ry h
 obtain ⟨hs,q⟩:=h
 cases x with
 | non =>
  cases rx
  cases y with
  | non=>cases ry;exact PySem.EqNone.ne_none_none (Zv I q (by simp))
  | bl j=>cases ry;exact PySem.EqNone.ne_none_bool (Zv I q (by simp))
  | int j=>obtain ⟨t',rfl⟩:=ry;exact PySem.EqNone.ne_none_int (Zv I q (by simp))
  | str j=>obtain ⟨t',rfl⟩:=ry;exact PySem.EqNone.ne_none_str (Zv I q (by simp))
  | _=>exact absurd (show false=true from hs) Qg
 | bl i =>
  cases rx
  cases y with
  | non=>cases ry;exact PySem.EqNone.ne_bool_none (Zv I q (by simp))
  | bl j=>cases ry;exact ne_bool (Zv I q (congrArg not dec_bl))
  | str j=>obtain ⟨t',rfl⟩:=ry;exact PySem.EqMixed.ne_bool_str (Zv I q (by simp))
  | _=>exact absurd (show false=true from hs) Qg
 | int i =>
  obtain ⟨t,rfl⟩:=rx
  cases y with
  | non=>cases ry;exact PySem.EqNone.ne_int_none (Zv I q (by simp))
  | int j=>obtain ⟨t',rfl⟩:=ry;exact ne_int (Zv I q (congrArg not dec_int))
  | str j=>obtain ⟨t',rfl⟩:=ry;exact PySem.EqMixed.ne_int_str (Zv I q (by simp))
  | _=>exact absurd (show false=true from hs) Qg
 | str i =>
  obtain ⟨t,rfl⟩:=rx
  cases y with
  | non=>cases ry;exact PySem.EqNone.ne_str_none (Zv I q (by simp))
  | bl j=>cases ry;exact PySem.EqMixed.ne_str_bool (Zv I q (by simp))
  | int j=>obtain ⟨t',rfl⟩:=ry;exact PySem.EqMixed.ne_str_int (Zv I q (by simp))
  | str j=>obtain ⟨t',rfl⟩:=ry;exact ne_str (Zv I q (congrArg not dec_str))
  | _=>exact absurd (show false=true from hs) Qg
 | byt i =>
  obtain ⟨t,rfl⟩:=rx
  cases y with
  | byt j=>obtain ⟨t',rfl⟩:=ry;exact PySem.W.ne_bytes (Zv I q (congrArg not dec_byt))
  | _=>exact absurd (show false=true from hs) Qg
 | _=>cases y <;> exact absurd (show false=true from hs) Qg
theorem op_lt:OpR X (compareOp .Lt) (rI0 fun i j=>.bl (decide (i<j))):=opB0 fun _ _ _ _ _ _ _ q=>lt_int q
theorem op_le:OpR X (compareOp .LtE) (rI0 fun i j=>.bl (decide (i<=j))):=opB0 fun _ _ _ _ _ _ _ q=>le_int q
theorem op_gt:OpR X (compareOp .Gt) (rI0 fun i j=>.bl (decide (j<i))):=opB0 fun _ _ _ _ _ _ _ q=>gt_int q
theorem op_isN:OpR X (compareOp .Is) (fun x y H Q=>y=.non/\Q (.bl (decide (x=.non))) H):=by
 intro pins s σ H x y v u Q I rx ry h
 obtain ⟨rfl,q⟩:=h
 cases ry
 refine is_none_gen (Zv I q ?_)
 cases x <;> first
  | (cases rx;rfl)
  | (obtain ⟨t,rfl⟩:=rx;rfl)
theorem op_notN:OpR X (compareOp .IsNot) (fun x y H Q=>y=.non/\Q (.bl (!decide (x=.non))) H):=by
 intro pins s σ H x y v u Q I rx ry h
 obtain ⟨rfl,q⟩:=h
 cases ry
 refine isnot_none_gen (Zv I q ?_)
 cases x <;> first
  | (cases rx;rfl)
  | (obtain ⟨t,rfl⟩:=rx;rfl)
theorem zI (b:Expr) {op:CmpOp} (h:op≠.In:=by decide) (h2:op≠.NotIn:=by decide):behindInMarks op b=false:=by
 have e1:(op == CmpOp.In)=false:=by cases op <;> first | rfl | exact absurd rfl h
 have e2:(op == CmpOp.NotIn)=false:=by cases op <;> first | rfl | exact absurd rfl h2
 cases b <;> simp [behindInMarks,e1,e2]
theorem pe_cmpR {op:CmpOp} {r:R2} (ho:OpR X (compareOp op) r) (ha:PE X a ta) (hb:PE X b tb) (hm:behindInMarks op b=false):PE X (.Compare a [op] [b] pos) (tOp r ta tb):=by
 intro pins s σ H Q I h
 exact wpAny_Compare1 (binT ha hb I h fun v u s2 x y H2 I2 rx ry q=>ho pins s2 σ H2 x y v u Q I2 rx ry q) hm
def jf (t:TE):TT:=fun σ H Q=>t σ H fun x H'=>∃ k,x=.bl k/\Q k H'
theorem jm {op:CmpOp} {r:R2} (ho:OpR X (compareOp op) r) (ha:PE X a ta) (hb:PE X b tb) (hm:behindInMarks op b=false):PT X (.Compare a [op] [b] pos) (jf (tOp r ta tb)):=by
 intro pins s σ H Q I h
 refine wpAny_isTrue_Compare1 (thn (ha pins s σ H _ I h) fun v s1 ⟨x,H1,I1,r1,q1⟩=>thn (hb pins s1 σ H1 _ I1 q1) fun u s2 ⟨y,H2,I2,r2,q2⟩ =>
  thn (ho pins s2 σ H2 x y v u _ I2 r1 r2 q2) fun c s3 ⟨z,H3,I3,r3,k,e,q3⟩=>?_) hm
 subst e
 cases r3
 exact Pl ⟨H3,I3,q3⟩
def tChain (r r':R2) (ta tb tc:TE):TE:=fun σ H Q=>ta σ H fun x H1=>tb σ H1 fun y H2=>r x y H2 fun z H3=>∃ k,z=.bl k /\
 (if k=true then tc σ H3 fun w' H4=>r' y w' H4 Q else Q (.bl false) H3)
theorem pt_chain {op op':CmpOp} {r r':R2} (ho:OpR X (compareOp op) r) (ho':OpR X (compareOp op') r') (ha:PE X a ta) (hb:PE X b tb) (hc:PE X c tc)
  (hm:lastMarks [op,op'] [b,c]=false:=by with_unfolding_all rfl):PT X (.Compare a [op,op'] [b,c] pos) (jf (tChain r r' ta tb tc)):=by
 intro pins s σ H Q I h
 refine isTrue_chain (thn (ha pins s σ H _ I h) fun v s1 ⟨x,H1,I1,r1,q1⟩=>test_link (thn (hb pins s1 σ H1 _ I1 q1) fun u s2 ⟨y,H2,I2,r2,q2⟩ =>
  thn (ho pins s2 σ H2 x y v u _ I2 r1 r2 q2) fun d s3 ⟨z,H3,I3,r3,k,e,q3⟩=>?_)) hm
 subst e
 cases r3
 refine Pl ?_
 cases k with
 | false =>
  obtain ⟨k',e',q'⟩:=q3
  cases e'
  exact ite_ff ⟨H3,I3,q'⟩
 | true =>
  refine ite_tt (test_last (thn (hc pins s3 σ H3 _ I3 q3) fun w' s4 ⟨z',H4,I4,r4,q4⟩=>thn (ho' pins s4 σ H4 y z' u w' _ I4 r2 r4 q4) fun d' s5 ⟨z2,H5,I5,r5,k2,e2,q5⟩=>?_))
  subst e2
  cases r5
  exact Pl ⟨H5,I5,q5⟩
theorem line63:(sizeLine:Nat)<2 ^ 63:=by rw [sizeLine_eq];decide
theorem vals1 {x:V} {us:List Value} (r:zV [x] us):∃ u,us=[u]/\Zx x u:=by
 cases r with
 | cons r1 r2=>cases r2;exact ⟨_,rfl,r1⟩
theorem vals2 {x y:V} {us:List Value} (r:zV [x,y] us):∃ u w',us=[u,w']/\Zx x u/\Zx y w':=by
 cases r with
 | cons r1 r2 =>
  cases r2 with
  | cons r3 r4=>cases r4;exact ⟨_,_,rfl,r1,r3⟩
theorem call_int1:Wg X (.type "int") (fun xs H Q=>(∃ i,xs=[.int i]/\Q (.int i) H)\/∃ k,xs=[.bl k]/\Q (.int (if k then 1 else 0)) H):=by
 intro pins s σ H xs us Q I r h
 rcases h with ⟨i,rfl,q⟩ | ⟨k,rfl,q⟩
 ·obtain ⟨u,rfl,t,rfl⟩:=vals1 r
  exact call_int_int ⟨.int i,H,I,⟨_,rfl⟩,q⟩
 ·obtain ⟨u,rfl,r1⟩:=vals1 r
  cases r1
  exact call_int_bool ⟨.int (if k then 1 else 0),H,I.tok _,⟨_,rfl⟩,q⟩
end
end L2
namespace L2
open PySem PySem.Spec PyProof.Rows
structure ObjM (h:Heap) (x dx C:Addr) (mA:Str->Option Value):Prop where
 obj:h.get? x=some (PySem.W.instObj C dx)
 ns:h.Ns1 dx mA
 ne:dx≠x
theorem lookIn_ns {h:Heap} {dx:Addr} {mA:Str->Option Value} (n:h.Ns1 dx mA):∃ od,h.get? dx=some od/\∀ name,PySem.W.lookIn name od=some (mA name):=by
 obtain ⟨o,es,ep,ho,hd,hk,_,hm⟩:=n
 refine ⟨o,ho,fun name=>?_⟩
 have e:=hm name
 unfold nsFind findBy at e
 rw [<- Array.find?_toList] at e
 unfold PySem.W.lookIn
 rw [hd]
 dsimp only
 split
 ·rename_i y q
  rw [q] at e
  exact congrArg some e
 ·rename_i q
  rw [q] at e
  have a:es.toList.any (·.refKey)=false:=by
   rw [List.any_eq_false]
   intro y hy
   obtain ⟨z,t,hkey⟩:=hk y (Array.mem_toList_iff.mp hy)
   simp [DictEntry.refKey,hkey]
  have a':¬ es.toList.any (·.refKey)=true:=by rw [a];exact Qg
  rw [if_neg a']
  exact congrArg some e
theorem ObjM.look {h:Heap} {x dx C:Addr} {mA:Str->Option Value} (I:ObjM h x dx C mA):∃ od,PySem.W.InstAt h x (PySem.W.instObj C dx) C (some od)/\∀ name,PySem.W.lookIn name od=some (mA name) :=
 let ⟨od,ho,hl⟩:=lookIn_ns I.ns
 ⟨od,⟨I.obj,rfl,rfl,ho⟩,hl⟩
section
variable {prog:Program} {w:World} {A:Around} {E:Value->Shared->Prop} {s:Shared} {K:PySem.W.Frag} {x dx C f:Addr} {mA:Str->Option Value} {name:Str} {v:Value}
theorem get_map {expr:Bool} {Q:Value->Shared->Prop} (X:K.In s.heap) (I:ObjM s.heap x dx C mA) (hg:PySem.W.plainGet K C name=true) (hh:PySem.W.hasDictIn K C=true)
  (ha:PySem.W.findIn K (.ref C) name=some none) (hv:mA name=some v) (hv':PySem.W.handedIn v=true) (h:Q v { s with toks:=s.toks+1 }) :
  wpAny (model prog w) A (getAttr (.ref x) name expr) Q E s:=by
 obtain ⟨od,J,hl⟩:=I.look
 exact PySem.W.get_value X J (PySem.W.plainGet_of hg).1 (PySem.W.findObj_own hh ha rfl (by rw [hl,hv])) hv' h
theorem get_meth {pl:Sem Bool} {Q:Value×List Value->Shared->Prop} (X:K.In s.heap) (I:ObjM s.heap x dx C mA) (hg:PySem.W.plainGet K C name=true)
  (hf:PySem.W.findIn K (.ref C) name=some (some (.ref f))) (ht:PySem.W.isFn K (.ref f)=true) (hv:mA name=none) (h:Q (.ref f,[.ref x]) s) :
  wpAny (model prog w) A (getMethod (.ref x) name pl) Q E s:=by
 obtain ⟨od,J,hl⟩:=I.look
 exact PySem.W.method_fn X J (PySem.W.plainGet_of hg).1 (PySem.W.plainGet_of hg).2 hf (beq_iff_eq.mp ht) (by show (PySem.W.lookIn name od).map (·.isSome)=some false;rw [hl,hv];rfl) h
theorem set_map {ns:List Str} {Q:Unit->Shared->Prop} (X:K.In s.heap) (I:ObjM s.heap x dx C mA)
  (hs:PySem.W.findIn K (.ref C) "__setattr__"=some (some (.builtin "object.__setattr__"))) (hp:PySem.W.plainOver K C=true) (ht:PySem.W.takerIn K C name=some none) (hh:PySem.W.hasDictIn K C=true)
  (hw:PySem.Within mA ns) (hsz:ns.length<=sizeLine)
  (h:∀ h',ObjM h' x dx C (fun y=>if y=name then some v else mA y)->Heap.SameBut dx s.heap h'->Q () { s with heap:=h',toks:=s.toks+2 }) :
  wpAny (model prog w) A (setAttr (.ref x) name v) Q E s:=by
 obtain ⟨od,J,hl⟩:=I.look
 refine PySem.W.set_plain X J hs (PySem.W.osa_open (s:={ s with toks:=s.toks+1 }) (r:=none) X J hp ht fun b=>?_)
 obtain ⟨cd,hc,hd'⟩:=PySem.W.any_some hh
 have hx:s.heap.get? x=some ⟨.ref C,some dx,.plain,#[]⟩:=I.obj
 refine Qa (Qf (Qa (Qa (wpAny_loadPart hx (Qa (PySem.W.Looks.here (s:={ s with toks:=s.toks+1 }) (PySem.W.looks_clsIn X hc) ?_))))))
 rw [hd']
 refine Qf (a:=some dx) (Qa (Qf (Qa ?_)))
 refine wpAny_nsSet1 (s:={ s with toks:=s.toks+1 }) I.ns fun h' hn2 hs2=>?_
 obtain ⟨oD,esD,epD,hoD,hdD,hcD⟩:=hn2.count (PySem.Within.cons name v hw)
 refine Qa (wpAny_lookBehind hoD (by rw [hdD];exact pastItsLine_dict (Qw hcD (by rw [Qe];omega))) ?_)
 exact Qf (h _ ⟨(hs2.2 _ (Ne.symm I.ne)).trans I.obj,hn2,I.ne⟩ hs2)
theorem make_map {R:Result->Shared->Prop} {vs:List Value} {kw:List (Str×Value)} (X:K.In s.heap) (hm:PySem.W.makesIn K C=true)
  (hi:PySem.W.findIn K (.ref C) "__init__"=some (some (.ref f))) (hf:PySem.W.typeIn K (.ref f)=some (.type "function"))
  (h:codeAny (model prog w) (A.under (.builtin "type.__call__" ⟨.ref C::vs,kw⟩)) (.call (.ref f) ⟨.ref (s.heap.objs.size+1)::vs,kw⟩) (PySem.W.InitBack (s.heap.objs.size+1) R)
   { s with heap:=(s.heap.push PySem.W.emptyDict).push (PySem.W.instObj C s.heap.objs.size) }) :
  codeAny (model prog w) A (.call (.ref C) ⟨vs,kw⟩) R s:=by
 obtain ⟨hh,g,d,t,os⟩:=s
 exact PySem.W.make_core (PySem.W.makes_of X hm) (PySem.W.looks_findIn X hi) (fun self=>PySem.W.bind_fn X self hf) (.inl rfl) h
end
def Ji (f:Str) (v:V):List (Str×V)->List (Str×V)
 | []=>[(f,v)]
 | (g,x)::r=>if g=f then (g,v)::r else (g,x)::Ji f v r
theorem WV (f g:Str) (v:V):∀ fs:List (Str×V),(Ji f v fs).lookup g=if g=f then some v else fs.lookup g
 | []=>by
  show List.lookup g [(f,v)]=_
  by_cases h:g=f
  ·have hb:(g == f)=true:=beq_iff_eq.mpr h
   simp only [List.lookup,hb,if_pos h]
  ·have hb:(g == f)=false:=beq_eq_false_iff_ne.mpr h
   simp only [List.lookup,hb,if_neg h]
 | (k,x)::r=>by
  have ih:=WV f g v r
  rw [show Ji f v ((k,x)::r)=(if k=f then (k,v)::r else (k,x)::Ji f v r) from rfl]
  by_cases hk:k=f
  ·rw [if_pos hk]
   by_cases h:g=k
   ·have hb:(g == k)=true:=beq_iff_eq.mpr h
    simp only [List.lookup,hb,if_pos (h.trans hk)]
   ·have hb:(g == k)=false:=beq_eq_false_iff_ne.mpr h
    simp only [List.lookup,hb,if_neg (fun e:g=f=>h (e.trans hk.symm))]
  ·rw [if_neg hk]
   by_cases h:g=k
   ·have hb:(g == k)=true:=beq_iff_eq.mpr h
    simp only [List.lookup,hb,if_neg (fun e:g=f=>hk (h.symm.trans e))]
   ·have hb:(g == k)=false:=beq_eq_false_iff_ne.mpr h
    simp only [List.lookup,hb]
    exact ih
theorem Wt (f:Str) (v:V):∀ fs:List (Str×V),f∈(Ji f v fs).map (·.1)/\∀ g,g∈fs.map (·.1)->g∈(Ji f v fs).map (·.1)
 | []=>⟨by simp [Ji],fun g h=>by simp at h⟩
 | (k,x)::r=>by
  obtain ⟨i1,i2⟩:=Wt f v r
  rw [show Ji f v ((k,x)::r)=(if k=f then (k,v)::r else (k,x)::Ji f v r) from rfl]
  by_cases hk:k=f
  ·rw [if_pos hk]
   subst hk
   exact ⟨by simp,fun g h=>by simpa using h⟩
  ·rw [if_neg hk]
   refine ⟨?_,fun g h=>?_⟩
   ·rw [Qq]
    exact Qd _ i1
   ·rw [Qq] at h ⊢
    rcases Qb.mp h with e | e
    ·exact Qb.mpr (.inl e)
    ·exact Qd _ (i2 g e)
theorem WY (f:Str) (v:V):∀ fs:List (Str×V),(Ji f v fs).length<=fs.length+1
 | []=>by simp [Ji]
 | (k,x)::r=>by
  have ih:=WY f v r
  rw [show Ji f v ((k,x)::r)=(if k=f then (k,v)::r else (k,x)::Ji f v r) from rfl]
  by_cases hk:k=f
  ·rw [if_pos hk,Qe,Qe];omega
  ·rw [if_neg hk,Qe,Qe];omega
theorem Jj.some_of {v:V} {o:Option Value} (r:Jj (some v) o):∃ u,o=some u/\Zx v u:=by
 cases o with
 | none=>exact (show False from r).elim
 | some u=>exact ⟨u,rfl,r⟩
theorem Jj.none_of {o:Option Value} (r:Jj none o):o=none:=by
 cases o with
 | none=>rfl
 | some u=>exact (show False from r).elim
theorem handed_of {v:V} {u:Value} (r:Zx v u):PySem.W.handedIn u=true:=by
 cases v with
 | non=>cases (show u=Value.none from r);rfl
 | bl b=>cases (show u=Value.bool b from r);rfl
 | int i=>obtain ⟨t,e⟩:=(show ∃ t,u=Value.int i t from r);cases e;rfl
 | str x=>obtain ⟨t,e⟩:=(show ∃ t,u=Value.str x t from r);cases e;rfl
 | byt b=>obtain ⟨t,e⟩:=(show ∃ t,u=Value.bytes b t from r);cases e;rfl
 | flt b=>obtain ⟨t,e⟩:=(show ∃ t,u=Value.float b t from r);cases e;rfl
 | ref a=>cases (show u=Value.ref a from r);rfl
 | ty n=>cases (show u=Value.type n from r);rfl
section
variable {P:Program} {w:World} {H H':Hp} {h h':Heap} {a C dx:Addr} {fs fs':List (Str×V)}
theorem ins_get (hok:HOk P w H h) (e:H a=some (.ins C dx fs)):∃ mA,ObjM h a dx C mA/\(∀ f,Jj (fs.lookup f) (mA f))/\PySem.Within mA (fs.map (·.1))/\fs.length<=1000/\H dx=some (.own a):=by
 obtain ⟨d,z,ne,ob,mA,n,r,q⟩:=(show yE P w H h a (.ins C dx fs) from hok a _ e)
 exact ⟨mA,⟨ob,n,ne⟩,r,q,z,d⟩
end
structure Cls (K:PySem.W.Frag) (C:Addr):Prop where
 pg:PySem.W.plainGet K C Str.empty=true
 hd:PySem.W.hasDictIn K C=true
 po:PySem.W.plainOver K C=true
 sa:PySem.W.findIn K (.ref C) "__setattr__"=some (some (.builtin "object.__setattr__"))
theorem Cls.get {K:PySem.W.Frag} {C:Addr} (c:Cls K C) (f:Str):PySem.W.plainGet K C f=true:=c.pg
def jb (K:PySem.W.Frag) (C:Addr) (f:Str):Prop:=PySem.W.findIn K (.ref C) f=some none
theorem jb.taker {K:PySem.W.Frag} {C:Addr} {f:Str} (n:jb K C f):PySem.W.takerIn K C f=some none:=by
 unfold PySem.W.takerIn
 rw [show PySem.W.findIn K (.ref C) f=some none from n]
 rfl
structure Meth (K:PySem.W.Frag) (C:Addr) (m:Str) (f:Addr):Prop where
 at_:PySem.W.findIn K (.ref C) m=some (some (.ref f))
 fn:PySem.W.isFn K (.ref f)=true
 kp:keepIn K (.ref f)=true
section
variable {X:Cx} {pins:List (Addr×Obj)} {σ:St} {H:Hp} {s:Shared} {a C dx:Addr} {fs:List (Str×V)} {f:Str} {v:V} {A:Around} {E:Value->Shared->Prop}
theorem GE {b:Bool} {Q:Value->Shared->Prop} (I:Inv X pins σ H s) (e:H a=some (.ins C dx fs)) (c:Cls X.K C) (n:jb X.K C f) (l:fs.lookup f=some v)
  (h:∀ u s',Inv X pins σ H s'->Zx v u->Q u s'):wpAny (model X.prog X.w) A (getAttr (.ref a) f b) Q E s:=by
 obtain ⟨mA,O,r,_,_,_⟩:=ins_get I.hok e
 obtain ⟨u,hu,ru⟩:=Jj.some_of (v:=v) (o:=mA f) (by rw [<- l];exact r f)
 exact get_map I.kIn O (c.get f) c.hd n hu (handed_of ru) (h u _ (I.tok _) ru)
theorem wz {m:Str} {g:Addr} {pl:Sem Bool} {Q:Value×List Value->Shared->Prop} (I:Inv X pins σ H s) (e:H a=some (.ins C dx fs)) (c:Cls X.K C) (k:Meth X.K C m g) (l:fs.lookup m=none)
  (h:Q (.ref g,[.ref a]) s):wpAny (model X.prog X.w) A (getMethod (.ref a) m pl) Q E s:=by
 obtain ⟨mA,O,r,_,_,_⟩:=ins_get I.hok e
 have hn:mA m=none:=Jj.none_of (by rw [<- l];exact r m)
 exact get_meth I.kIn O (c.get m) k.at_ k.fn hn h
theorem gT {y:V} {u:Value} {Q:Unit->Shared->Prop} (I:Inv X pins σ H s) (e:H a=some (.ins C dx fs)) (c:Cls X.K C) (n:jb X.K C f) (hl:fs.length<1000) (ry:Zx y u)
  (h:∀ s',Inv X pins σ (upd H a (.ins C dx (Ji f y fs))) s'->Q () s'):wpAny (model X.prog X.w) A (setAttr (.ref a) f u) Q E s:=by
 obtain ⟨mA,O,r,wi,_,ho⟩:=ins_get I.hok e
 have hz:(fs.map (·.1)).length<=sizeLine:=by rw [Qj,sizeLine_eq];omega
 refine set_map I.kIn O c.sa c.po n.taker c.hd wi hz fun h' O' sb=>h _ ?_
 have hd:∃ o,h'.get? dx=some o:=let ⟨o,_,_,e',_⟩:=O'.ns;⟨o,e'⟩
 refine I.write (x:=a) (e:=dx) (by rw [e];exact True.intro) (.inr ho) (fun b q hb z=>(sb.2 b hb).trans z) hd ?_
 refine ⟨by rw [zx O.ne];exact ho,?_,O.ne,O'.obj,_,O'.ns,fun g=>?_,fun g hg=>?_⟩
 ·have:=WY f y fs;omega
 ·show Jj ((Ji f y fs).lookup g) (if g=f then some u else mA g)
  rw [WV]
  by_cases q:g=f
  ·rw [if_pos q,if_pos q];exact ry
  ·rw [if_neg q,if_neg q];exact r g
 ·by_cases q:g=f
  ·rw [q];exact (Wt f y fs).1
  ·refine (Wt f y fs).2 g (wi g fun z=>hg ?_)
   show (if g=f then some u else mA g)=none
   rw [if_neg q];exact z
theorem Inv.made (I:Inv X pins σ H s):Inv X pins σ (upd (upd H s.heap.objs.size (.own (s.heap.objs.size+1))) (s.heap.objs.size+1) (.ins C s.heap.objs.size []))
  { s with heap:=(s.heap.push PySem.W.emptyDict).push (PySem.W.instObj C s.heap.objs.size) }:=by
 have e1:(s.heap.push PySem.W.emptyDict).get? s.heap.objs.size=some PySem.W.emptyDict:=Qp s.heap rfl
 have e2:((s.heap.push PySem.W.emptyDict).push (PySem.W.instObj C s.heap.objs.size)).get? (s.heap.objs.size+1)=some (PySem.W.instObj C s.heap.objs.size):=by
  have:=Qp (s.heap.push PySem.W.emptyDict) (o:=PySem.W.instObj C s.heap.objs.size) rfl
  rwa [QH] at this
 have e3:(s.heap.push PySem.W.emptyDict).Ns s.heap.objs.size (fun _=>none):=⟨PySem.W.emptyDict,#[],_,e1,rfl,(fun e he=>absurd he (by simp)),fun _=>rfl⟩
 have I1:=I.laid (a:=s.heap.objs.size) (o:=.own (s.heap.objs.size+1)) (h':=s.heap.push PySem.W.emptyDict) (t':=s.toks) (fun b u q=>Qc _ q) (Ql _) ⟨_,e1⟩
 refine I1.laid (a:=s.heap.objs.size+1) (o:=.ins C s.heap.objs.size []) (t':=s.toks) (fun b u q=>Qc _ q) (Nat.le_of_eq (QH _ _)) ?_
 have ne:s.heap.objs.size≠s.heap.objs.size+1:=Qu (QX _)
 refine ⟨by rw [zx ne,zw],Q3 _,ne,e2,fun _=>none,(Heap.Ns1.of_empty e3).at fun o q=>Qc _ q,fun _=>True.intro,fun y hy=>absurd rfl hy⟩
theorem attr_of {prog:Program} {w:World} {env:Env} {e:Expr} {f:Str} {pos:Pos} {s:Shared} {Q:Value->Shared->Prop} (hb:attributeBase e f env (eval e env)=eval e env)
  (h:wpAny (model prog w) A (eval e env) (fun o s₁=>wpAny (model prog w) A (getAttr o f true) Q E s₁) E s):wpAny (model prog w) A (eval (.Attribute e f pos) env) Q E s :=
 Attribute_any_ h (by rw [arm_eval_Attribute,hb])
end
def W5 (K:PySem.W.Frag) (ta:TE) (f:Str):TE:=fun σ H Q=>ta σ H fun x H1=>∃ a C dx fs v,x=.ref a/\H1 a=some (.ins C dx fs)/\Cls K C/\jb K C f/\fs.lookup f=some v/\Q v H1
def sFld (K:PySem.W.Frag) (ta tv:TE) (f:Str):TS:=fun D σ H=>tv σ H fun y H1=>ta σ H1 fun x H2=>∃ a C dx fs,x=.ref a/\H2 a=some (.ins C dx fs)/\Cls K C/\jb K C f/\fs.length<1000 /\
 D.nx σ (upd H2 a (.ins C dx (Ji f y fs)))
def InOp (X:Cx) (op:Operator) (rd:V->V->Hp->VK->Prop):Prop :=
 ∀ (pins:List (Addr×Obj)) (s:Shared) (σ:St) (H:Hp) (x y:V) (u v:Value) (Q:VK),Inv X pins σ H s->Zx x u->Zx y v->rd x y H Q->wpAny (model X.prog X.w) X.A (inplaceOp op u v) (EP X pins σ Q) X.xe s
def sFldAug (K:PySem.W.Frag) (ta tv:TE) (rd:V->V->Hp->VK->Prop) (f:Str):TS:=fun D σ H=>ta σ H fun x H1=>∃ a C dx fs v,x=.ref a/\H1 a=some (.ins C dx fs)/\Cls K C/\jb K C f/\fs.lookup f=some v /\
 tv σ H1 fun y H2=>rd v y H2 fun z H3=>∃ dx' fs',H3 a=some (.ins C dx' fs')/\fs'.length<1000/\D.nx σ (upd H3 a (.ins C dx' (Ji f z fs')))
section
variable {X:Cx} {o e value:Expr} {f:Str} {pos pos' tpos:Pos} {ta tv:TE}
theorem pe_fld (he:PE X e ta) (hb:attributeBase e f X.env (eval e X.env)=eval e X.env):PE X (.Attribute e f pos) (W5 X.K ta f):=by
 intro pins s σ H Q I h
 refine attr_of hb (thn (he pins s σ H _ I h) fun u s1 ⟨x,H1,I1,rx,a,C,dx,fs,v,ex,ea,c,n,l,q⟩=>?_)
 subst ex
 obtain rfl:u=Value.ref a:=rx
 exact GE I1 ea c n l fun u' s2 I2 ru=>⟨v,H1,I2,ru,q⟩
theorem ps_fld (ha:PE X o ta) (hv:PE X value tv) (hs:swapsWith value (some (.Attribute o f pos')) pos.line X.env=pure false):PS X (.Assign [.Attribute o f pos'] value pos) (sFld X.K ta tv f):=by
 intro pins s σ H D I h
 refine plainObj_wpAny_Assign_Attribute (thn (hv pins s σ H _ I h) fun u s1 ⟨y,H1,I1,ry,q⟩=>thn (ha pins s1 σ H1 _ I1 q) fun ov s2 ⟨x,H2,I2,rx,a,C,dx,fs,ex,ea,c,n,l,q2⟩=>?_) hs
 subst ex
 obtain rfl:ov=Value.ref a:=rx
 exact gT I2 ea c n l ry fun s3 I3=>⟨σ,_,I3,q2⟩
theorem ps_fldaug {op:Operator} {rd:V->V->Hp->VK->Prop} (ha:PE X o ta) (hv:PE X value tv) (hop:InOp X op rd):PS X (.AugAssign (.Attribute o f tpos) op value pos) (sFldAug X.K ta tv rd f):=by
 intro pins s σ H D I h
 refine wpAny_AugAssign_AttributeAny (thn (ha pins s σ H _ I h) fun ov s1 ⟨x,H1,I1,rx,a,C,dx,fs,v,ex,ea,c,n,l,q⟩=>?_)
 subst ex
 obtain rfl:ov=Value.ref a:=rx
 refine GE I1 ea c n l fun u s2 I2 ru=>thn (hv pins s2 σ H1 _ I2 q) fun w3 s3 ⟨y,H2,I3,ry,q3⟩=>thn (hop pins s3 σ H2 v y u w3 _ I3 ru ry q3) fun w4 s4 ⟨z,H3,I4,rz,dx',fs',ea',l',q4⟩=>?_
 exact gT I4 ea' c n l' rz fun s5 I5=>⟨σ,_,I5,q4⟩
def rAdd:V->V->Hp->VK->Prop:=fun x y H Q=>∃ i j,x=.int i/\y=.int j/\Q (.int (i+j)) H
theorem in_add:InOp X .Add rAdd:=by
 rintro pins s σ H x y u v Q I rx ry ⟨i,j,rfl,rfl,q⟩
 obtain ⟨t,rfl⟩:=(show ∃ t,u=Value.int i t from rx)
 obtain ⟨t',rfl⟩:=(show ∃ t',v=Value.int j t' from ry)
 exact PyProof.Rows.iadd_int ⟨.int (i+j),H,I.tok _,⟨_,rfl⟩,q⟩
theorem methcall_of {pl:Sem Bool} {m:Str} {apos:Pos} {args:List Expr} {pins:List (Addr×Obj)} {s:Shared} {σ:St} {H:Hp} {Q:Value->Shared->Prop} {te:TE} (he:PE X e te) (I:Inv X pins σ H s)
  (h:te σ H fun x H1=>∃ a C dx fs g,x=.ref a/\H1 a=some (.ins C dx fs)/\Cls X.K C/\Meth X.K C m g/\fs.lookup m=none /\
   ∀ s1,Inv X pins σ H1 s1->wpAny (model X.prog X.w) X.A (callWith pos (.ref g) [.ref a] (backTo pos (starEach args X.env)) (backToKw pos (keywordEach [] X.env))) Q X.xe s1)
  (ht:eval (.Call (.Attribute e m apos) args [] pos) X.env=(do
   let ov <- eval e X.env
   standAt apos.atName
   let (f,first) <- holding [ov] (getMethod ov m pl)
   callWith pos f first (backTo pos (starEach args X.env)) (backToKw pos (keywordEach [] X.env)))) :
  wpAny (model X.prog X.w) X.A (eval (.Call (.Attribute e m apos) args [] pos) X.env) Q X.xe s:=by
 refine PySem.W.methodCall_KW (pl:=pl) (thn (he pins s σ H _ I h) fun u s1 ⟨x,H1,I1,rx,a,C,dx,fs,g,ex,ea,c,k,l,q⟩=>?_) ht
 subst ex
 obtain rfl:u=Value.ref a:=rx
 exact wz I1 ea c k l (q s1 I1)
end
section
variable {X:Cx} {pins:List (Addr×Obj)} {σ:St} {H:Hp} {s:Shared} {A:Around} {E:Value->Shared->Prop} {Q:Value->Shared->Prop} {c:Value} {b:Bool}
end
end L2
namespace L2
open PySem PySem.Spec PyProof.Rows
structure Room (k:Nat) (A:Around):Prop where
 hd:A.handled=none
 dp:A.depth+3*k+5<recursionLimit
 un:A.units+16*k+200<cLine
 gd:A.guards=some []
theorem Room.mono {j k:Nat} {A:Around} (r:Room k A) (h:j<=k):Room j A:=⟨r.hd,by have:=r.dp;omega,by have:=r.un;omega,r.gd⟩
theorem Room.deeper {k:Nat} {A:Around} (r:Room (k+1) A) (env:Env):Room k (A.deeper env) :=
 ⟨r.hd,by have:=r.dp;show A.depth+1+3*k+5<_;omega,by have:=r.un;show A.units+3+16*k+200<_;omega,r.gd⟩
theorem make_depth {A:Around} {C:Addr} {us:List Value} {kw:List (Str×Value)}:(A.under (.builtin "type.__call__" ⟨.ref C::us,kw⟩)).depth=A.depth+1:=by
 first | rfl | simp [Around.under,Code.weight,Code.isCreation,Code.isGuard,Code.isCaller,Code.frames,Code.isFrame,guardIds]
theorem make_units {A:Around} {C:Addr} {us:List Value} {kw:List (Str×Value)}:(A.under (.builtin "type.__call__" ⟨.ref C::us,kw⟩)).units=A.units+1:=by
 first | rfl | simp [Around.under,Code.cUnits,Code.frames,Code.isFrame]
theorem Room.make {k:Nat} {A:Around} (r:Room (k+1) A) (C:Addr) (us:List Value) (kw:List (Str×Value)):Room k (A.under (.builtin "type.__call__" ⟨.ref C::us,kw⟩)) :=
 ⟨r.hd,by have:=r.dp;rw [make_depth];omega,by have:=r.un;rw [make_units];omega,(by rw [<- r.gd];first | rfl | kernel_rfl)⟩
theorem Room.depth {k:Nat} {A:Around} (r:Room k A):A.depth<recursionLimit:=by have:=r.dp;omega
theorem Room.units {k:Nat} {A:Around} (r:Room k A):A.units+64<cLine:=by have:=r.un;omega
def Z0:TA:=fun _ H Q=>Q [] H
def z6 (ta:TE) (tr:TA):TA:=fun σ H Q=>ta σ H fun x H1=>tr σ H1 fun xs H2=>Q (x::xs) H2
section
variable {X:Cx} {e:Expr} {es:List Expr} {te:TE} {t:TA} {pos:Pos}
theorem Zn:PA X [] Z0:=fun _ _ _ _ H Q I h=>Calls.spliced_nil ⟨[],H,I,.nil,h⟩
theorem zP (ha:PE X e te) (hr:PA X es t) (hs:starEach (e::es) X.env=(false,eval e X.env)::starEach es X.env:=by rfl):PA X (e::es) (z6 te t):=by
 intro pos pins s σ H Q I h
 rw [hs]
 show wpAny _ _ (spliced ((false,eval e X.env)::backTo pos (starEach es X.env))) _ _ s
 refine Calls.spliced_cons (thn (ha pins s σ H _ I h) fun u s1 ⟨x,H1,I1,r1,q1⟩=>?_)
 exact thn (hr pos pins s1 σ H1 _ I1 q1) fun us s2 ⟨xs,H2,I2,r2,q2⟩=>⟨x::xs,H2,I2,.cons r1 r2,q2⟩
def gJ (t:TA):TE:=fun σ H Q=>t σ H fun xs H1=>xs.length<=sizeLine/\∀ p,H1 p=none->Q (.ref p) (upd H1 p (.tup xs))
def tLst (t:TA):TE:=fun σ H Q=>t σ H fun xs H1=>xs.length<=sizeLine/\∀ p,H1 p=none->Q (.ref p) (upd H1 p (.lst xs))
theorem wv {x1} (h:PA X es t):PE X (.Tuple es x1 pos) (gJ t):=by
 intro pins s σ H Q I hq
 refine wpAny_Tuple_spliced (thn (h pos pins s σ H _ I hq) fun us s1 ⟨xs,H1,I1,r,z,q⟩=>⟨by rw [<- r.length];exact z,?_⟩)
 have hf:H1 s1.heap.objs.size=none:=I1.hok.fresh (Ql _)
 refine ⟨.ref s1.heap.objs.size,upd H1 s1.heap.objs.size (.tup xs),I1.laid (t':=s1.toks) (fun b u e=>Qc _ e) (Ql _) ?_,rfl,q _ hf⟩
 exact ⟨z,us,r,⟨_,Qp _ rfl,rfl,_,rfl⟩⟩
theorem jZ (h:PA X es t):PE X (.List es pos) (tLst t):=by
 intro pins s σ H Q I hq
 refine wpAny_List_spliced (thn (h pos pins s σ H _ I hq) fun us s1 ⟨xs,H1,I1,r,z,q⟩=>⟨by rw [<- r.length];exact z,?_⟩)
 have hf:H1 s1.heap.objs.size=none:=I1.hok.fresh (Ql _)
 refine ⟨.ref s1.heap.objs.size,upd H1 s1.heap.objs.size (.lst xs),I1.laid (t':=s1.toks) (fun b u e=>Qc _ e) (Ql _) ?_,rfl,q _ hf⟩
 exact ⟨z,us,0,r,Qp _ rfl⟩
end
abbrev Sp:=List V->Hp->VK->XK->Prop
abbrev CXT:=List Env->Hp->Shared->XK->Value->Shared->Prop
structure Env0 (P:Program) (w:World) (K:PySem.W.Frag) (mg:Str->Option Value) (base:Heap) (A:Around) (outer:List Env) (s:Shared) (H:Hp):Prop where
 frames:A.frames=some outer
 mod:Mod K mg base
 bs:∀ b o,base.get? b=some o->s.heap.get? b=some o/\H b=none
 bsz:base.objs.size<=s.heap.objs.size
 funs:s.heap.FunFrames base outer
 frf:∀ b∈frs outer,H b=none
 hok:HOk P w H s.heap
 bare:AllBare s.gens
 tree:P.given.tree=none
def CE (outer:List Env) (P:Program) (w:World) (H:Hp) (s:Shared) (Q:VK) (u:Value) (s':Shared):Prop :=
 ∃ v H',s'.os=s.os/\AllBare s'.gens/\Un (frs outer) [] H H' s.heap s'.heap/\HOk P w H' s'.heap/\Zx v u/\Q v H'
def CR (CX:CXT) (outer:List Env) (P:Program) (w:World) (H:Hp) (s:Shared) (Q:VK) (E:XK) (r:Result) (s':Shared):Prop :=
 match r with
 | .ok (.ret u)=>CE outer P w H s Q u s'
 | .ok _=>False
 | .error e=>CX outer H s E e s'
structure FnOk (P:Program) (w:World) (K:PySem.W.Frag) (mg:Str->Option Value) (base:Heap) (CX:CXT) (k:Nat) (f:Addr) (fd:FuncData) (ps:List Str) (sp:Sp):Prop where
 len:∀ vs H Q E,sp vs H Q E->vs.length=ps.length
 run:∀ (A:Around) (outer:List Env) (s:Shared) (H:Hp) (args:Args) (us:List Value) (vs:List V) (Q:VK) (E:XK),Room k A->Env0 P w K mg base A outer s H->BindsTo s fd args (ps.zip us)->zV vs us->sp vs H Q E ->
  codeAny (model P w) A (.call (.ref f) args) (CR CX outer P w H s Q E) s
theorem FnOk.mono {P:Program} {w:World} {K:PySem.W.Frag} {mg:Str->Option Value} {base:Heap} {CX:CXT} {j k:Nat} {f:Addr} {fd:FuncData} {ps:List Str} {sp:Sp} (F:FnOk P w K mg base CX j f fd ps sp) (h:j<=k) :
  FnOk P w K mg base CX k f fd ps sp:=⟨F.len,fun A outer s H args us vs Q E hr=>F.run A outer s H args us vs Q E (hr.mono h)⟩
theorem FnOk.imp {P:Program} {w:World} {K:PySem.W.Frag} {mg:Str->Option Value} {base:Heap} {CX:CXT} {k:Nat} {f:Addr} {fd:FuncData} {ps:List Str} {sp sp':Sp} (F:FnOk P w K mg base CX k f fd ps sp)
  (h:∀ vs H Q E,sp' vs H Q E->sp vs H Q E):FnOk P w K mg base CX k f fd ps sp' :=
 ⟨fun vs H Q E q=>F.len vs H Q E (h _ _ _ _ q),fun A outer s H args us vs Q E hr he hb hv hs=>F.run A outer s H args us vs Q E hr he hb hv (h _ _ _ _ hs)⟩
theorem Env0.make {P:Program} {w:World} {K:PySem.W.Frag} {mg:Str->Option Value} {base:Heap} {A:Around} {outer:List Env} {s:Shared} {H:Hp} (e:Env0 P w K mg base A outer s H) (C:Addr) (us:List Value) (kw:List (Str×Value)) :
  Env0 P w K mg base (A.under (.builtin "type.__call__" ⟨.ref C::us,kw⟩)) outer s H:=⟨by first | exact e.frames | (simpa [Around.under,Code.envs,Code.isFrame,pushEnvs] using e.frames),e.mod,e.bs,e.bsz,e.funs,e.frf,e.hok,e.bare,e.tree⟩
section
variable {X:Cx} {pins:List (Addr×Obj)} {σ:St} {H:Hp} {s s':Shared}
theorem Inv.env0 (I:Inv X pins σ H s):Env0 X.prog X.w X.K X.mg X.base X.A X.stack s H :=
 ⟨I.ok.frames,I.ok.mod,I.bs,Qw I.ok.bsz I.sz,I.stack,I.stkFree,I.hok,I.bare,I.ok.tree⟩
theorem Inv.after {Q:VK} {u:Value} (I:Inv X pins σ H s) (h:CE X.stack X.prog X.w H s Q u s'):EP X pins σ Q u s':=by
 obtain ⟨v,H',os,bare,un,hok,r,q⟩:=h
 obtain ⟨hh,g,d,t,os'⟩:=s'
 obtain rfl:os'=s.os:=os
 exact ⟨v,H',I.call (h':=hh) (g':=g) (d':=d) (t':=t) (ch:=[]) un hok bare (fun b z=>absurd z (by simp)),r,q⟩
end
def gK (sp:Sp) (dvs:List V) (E:XK) (t:TA):TE:=fun σ H Q=>t σ H fun vs H1=>sp (vs++dvs) H1 Q E
def tMeth (C:Addr) (m:Str) (sp:Sp) (dvs:List V) (E:XK) (ta:TE) (t:TA):TE:=fun σ H Q=>ta σ H fun x H1=>∃ a dx fs,x=.ref a/\H1 a=some (.ins C dx fs)/\fs.lookup m=none /\
 t σ H1 fun vs H2=>sp (x::(vs++dvs)) H2 Q E
def tMake (C:Addr) (sp:Sp) (dvs:List V) (E:XK) (t:TA):TE:=fun σ H Q=>t σ H fun vs H1=>∀ x dx,H1 x=none->H1 dx=none->dx≠x ->
 sp (.ref x::(vs++dvs)) (upd (upd H1 dx (.own x)) x (.ins C dx [])) (fun v H2=>v=.non/\Q (.ref x) H2) E
def Zk (K:PySem.W.Frag) (fd:FuncData) (ps:List Str) (ds:List Value):Prop :=
 ∀ (s:Shared) (us:List Value),K.In s.heap->(us++ds).length=ps.length->BindsTo s fd ⟨us,[]⟩ (ps.zip (us++ds))
theorem Zk.all {K:PySem.W.Frag} {fd:FuncData} {ps:List Str} (h:∀ us:List Value,us.length=ps.length->bindArgs fd ⟨us,[]⟩=pure (ps.zip us)):Zk K fd ps []:=fun s us _ hl=>by
 rw [Pa] at hl ⊢
 exact .of_eq (h us hl)
def wC (CX:CXT) (X:Cx) (E:XK):Prop:=∀ (pins:List (Addr×Obj)) (σ:St) (H:Hp) (s:Shared) (e:Value) (s':Shared),Inv X pins σ H s->CX X.stack H s E e s'->X.xe e s'
section
variable {X:Cx} {CX:CXT} {k:Nat} {f C:Addr} {fd:FuncData} {ps:List Str} {sp:Sp} {dvs:List V} {ds:List Value} {E:XK} {x m:Str} {p pos apos:Pos} {e o:Expr} {es:List Expr} {ta:TE} {t:TA}
theorem run_fn {pins:List (Addr×Obj)} {σ:St} {H:Hp} {s:Shared} {Q:VK} {us:List Value} {vs:List V} (F:FnOk X.prog X.w X.K X.mg X.base CX k f fd ps sp) (hr:Room k X.A) (hb:Zk X.K fd ps ds) (hd:zV dvs ds) (hx:wC CX X E)
  (I:Inv X pins σ H s) (r:zV vs us) (h:sp (vs++dvs) H Q E):wpAny (model X.prog X.w) X.A (call (.ref f) us) (EP X pins σ Q) X.xe s:=by
 have r2:zV (vs++dvs) (us++ds):=r.append hd
 have hl:(us++ds).length=ps.length:=by rw [<- r2.length];exact F.len _ _ _ _ h
 refine wpAny_call (codeAny_mono (F.run X.A X.stack s H ⟨us,[]⟩ (us++ds) (vs++dvs) Q E hr I.env0 (hb s us I.kIn hl) r2 h) fun r s' hq=>?_)
 cases r with
 | error e=>exact hx pins σ H s e s' I hq
 | ok fl =>
  cases fl with
  | ret u=>exact I.after hq
  | next=>exact False.elim hq
  | brk=>exact False.elim hq
  | cont=>exact False.elim hq
theorem gu (F:FnOk X.prog X.w X.K X.mg X.base CX k f fd ps sp) (hr:Room k X.A) (hg:Gl X x) (hm:X.mg x=some (.ref f)) (hk:keepIn X.K (.ref f)=true) (hb:Zk X.K fd ps ds) (hd:zV dvs ds) (hx:wC CX X E)
  (ha:PA X (e::es) t) (hdb:(x == ("__debug__":Str))=false:=by decide) (he:starEach (e::es) X.env=(false,eval e X.env)::starEach es X.env:=by rfl) (hpl:(backTo pos (starEach es X.env)).any (·.1)=false:=by rfl) :
  PE X (.Call (.Name x p) (e::es) [] pos) (gK sp dvs E t):=by
 intro pins s σ H Q I h
 refine Pf (ld_glob I hg hm ?_ hdb)
 refine PySem.W.callWith_K (h₀:=X.base) I.ok.mod.kin hk (thn (ha pos pins s σ H _ I h) fun us s1 ⟨vs,H1,I1,r,q⟩=>⟨I1.kIn,?_⟩) he hpl
 exact run_fn F hr hb hd hx I1 r q
theorem pe_meth {pl:Sem Bool} (he:PE X o ta) (c:Cls X.K C) (hm:Meth X.K C m f) (F:FnOk X.prog X.w X.K X.mg X.base CX k f fd ps sp) (hr:Room k X.A) (hb:Zk X.K fd ps ds) (hd:zV dvs ds) (hx:wC CX X E) (ha:PA X (e::es) t)
  (hst:starEach (e::es) X.env=(false,eval e X.env)::starEach es X.env:=by rfl) (hpl:(backTo pos (starEach es X.env)).any (·.1)=false:=by rfl)
  (ht:eval (.Call (.Attribute o m apos) (e::es) [] pos) X.env=(do
   let ov <- eval o X.env
   standAt apos.atName
   let (f,first) <- holding [ov] (getMethod ov m pl)
   callWith pos f first (backTo pos (starEach (e::es) X.env)) (backToKw pos (keywordEach [] X.env))):=by rfl) :
  PE X (.Call (.Attribute o m apos) (e::es) [] pos) (tMeth C m sp dvs E ta t):=by
 intro pins s σ H Q I h
 refine PySem.W.methodCall_KW (pl:=pl) (thn (he pins s σ H _ I h) fun u s1 ⟨x,H1,I1,rx,a,dx,fs,ex,ea,l,q⟩=>?_) ht
 subst ex
 obtain rfl:u=Value.ref a:=rx
 refine wz I1 ea c hm l ?_
 refine PySem.W.callWith_K (first:=[.ref a]) (h₀:=X.base) I.ok.mod.kin hm.kp (thn (ha pos pins s1 σ H1 _ I1 q) fun us s2 ⟨vs,H2,I2,r,q2⟩=>⟨I2.kIn,?_⟩) hst hpl
 exact run_fn (us:=.ref a::us) (vs:=.ref a::vs) F hr hb hd hx I2 (.cons rfl r) q2
theorem pe_meth0 {pl:Sem Bool} (he:PE X o ta) (c:Cls X.K C) (hm:Meth X.K C m f) (F:FnOk X.prog X.w X.K X.mg X.base CX k f fd ps sp) (hr:Room k X.A) (hb:Zk X.K fd ps ds) (hd:zV dvs ds) (hx:wC CX X E)
  (ht:eval (.Call (.Attribute o m apos) [] [] pos) X.env=(do
   let ov <- eval o X.env
   standAt apos.atName
   let (f,first) <- holding [ov] (getMethod ov m pl)
   callWith pos f first (backTo pos (starEach [] X.env)) (backToKw pos (keywordEach [] X.env))):=by rfl) :
  PE X (.Call (.Attribute o m apos) [] [] pos) (tMeth C m sp dvs E ta Z0):=by
 intro pins s σ H Q I h
 refine PySem.W.methodCall_KW (pl:=pl) (thn (he pins s σ H _ I h) fun u s1 ⟨x,H1,I1,rx,a,dx,fs,ex,ea,l,q⟩=>?_) ht
 subst ex
 obtain rfl:u=Value.ref a:=rx
 refine wz I1 ea c hm l ?_
 exact PySem.W.callWith_K0 (first:=[.ref a]) I1.kIn hm.kp (run_fn (us:=[.ref a]) (vs:=[.ref a]) F hr hb hd hx I1 (.cons rfl .nil) q)
structure Mk (K:PySem.W.Frag) (C f:Addr):Prop where
 makes:PySem.W.makesIn K C=true
 init:PySem.W.findIn K (.ref C) "__init__"=some (some (.ref f))
 fn:PySem.W.isFn K (.ref f)=true
 kp:keepIn K (.ref C)=true
theorem run_make {pins:List (Addr×Obj)} {σ:St} {H:Hp} {s:Shared} {Q:VK} {us:List Value} {vs:List V} (M:Mk X.K C f) (F:FnOk X.prog X.w X.K X.mg X.base CX k f fd ps sp) (hr:Room (k+1) X.A) (hb:Zk X.K fd ps ds) (hd:zV dvs ds)
  (hx:wC CX X E) (I:Inv X pins σ H s) (r:zV vs us)
  (h:∀ x dx,H x=none->H dx=none->dx≠x->sp (.ref x::(vs++dvs)) (upd (upd H dx (.own x)) x (.ins C dx [])) (fun v H2=>v=.non/\Q (.ref x) H2) E) :
  wpAny (model X.prog X.w) X.A (call (.ref C) us) (EP X pins σ Q) X.xe s:=by
 have hq:=h (s.heap.objs.size+1) s.heap.objs.size (I.hok.fresh (Nat.le_succ _)) (I.hok.fresh (Ql _)) (Qu (QX _))
 have I2:=Inv.made (C:=C) I
 have r2:zV (V.ref (s.heap.objs.size+1)::(vs++dvs)) (Value.ref (s.heap.objs.size+1)::(us++ds)):=.cons rfl (r.append hd)
 have hl:(Value.ref (s.heap.objs.size+1)::us++ds).length=ps.length:=by
  have e:=r2.length
  rw [F.len _ _ _ _ hq] at e
  exact e.symm
 refine wpAny_call (make_map (f:=f) I.kIn M.makes M.init (beq_iff_eq.mp M.fn) (codeAny_mono (F.run _ X.stack _ _ ⟨Value.ref (s.heap.objs.size+1)::us,[]⟩ (Value.ref (s.heap.objs.size+1)::(us++ds)) _ _ E (hr.make C us [])
  (I2.env0.make C us []) (hb _ (Value.ref (s.heap.objs.size+1)::us) I2.kIn hl) r2 hq) fun r s' hq'=>?_))
 cases r with
 | error e=>exact hx pins σ _ _ e s' I2 hq'
 | ok fl =>
  cases fl with
  | ret u =>
   obtain ⟨v,H',I3,rv,ev,q3⟩:=I2.after hq'
   subst ev
   exact ⟨rv,⟨V.ref (s.heap.objs.size+1),H',I3,rfl,q3⟩⟩
  | next=>exact False.elim hq'
  | brk=>exact False.elim hq'
  | cont=>exact False.elim hq'
theorem pe_make (M:Mk X.K C f) (F:FnOk X.prog X.w X.K X.mg X.base CX k f fd ps sp) (hr:Room (k+1) X.A) (hg:Gl X x) (hm:X.mg x=some (.ref C)) (hb:Zk X.K fd ps ds) (hd:zV dvs ds) (hx:wC CX X E)
  (ha:PA X (e::es) t) (hdb:(x == ("__debug__":Str))=false:=by decide) (he:starEach (e::es) X.env=(false,eval e X.env)::starEach es X.env:=by rfl) (hpl:(backTo pos (starEach es X.env)).any (·.1)=false:=by rfl) :
  PE X (.Call (.Name x p) (e::es) [] pos) (tMake C sp dvs E t):=by
 intro pins s σ H Q I h
 refine Pf (ld_glob I hg hm ?_ hdb)
 refine PySem.W.callWith_K (h₀:=X.base) I.ok.mod.kin M.kp (thn (ha pos pins s σ H _ I h) fun us s1 ⟨vs,H1,I1,r,q⟩=>⟨I1.kIn,?_⟩) he hpl
 exact run_make M F hr hb hd hx I1 r q
end
section
variable {X:Cx} {CX:CXT} {k:Nat} {f C:Addr} {fd:FuncData} {ps ks:List Str} {sp:Sp} {E:XK} {x m:Str} {p pos apos kpos:Pos} {e o:Expr} {es:List Expr} {kws:List Keyword} {te ta:TE} {t tk:TA} {nm:Option Str}
variable {g:List Value->List Value->List Value} {gV:List V->List V->List V}
end
structure FnScope (N P:List Str) (sc:Scope):Prop where
 kind:sc.kind=.function
 co:sc.isCoroutine=false
 gen:sc.isGenerator=false
 nd:N.Nodup
 pre:N.take P.length=P
 par:∀ x∈P,sc.names.lookup x=some .local\/sc.names.lookup x=some .cell
 nofree:∀ y∈sc.names,y.2≠.free
theorem bindL_out {kindOf:Str->Option NameKind} {x:Str}:∀ {binds:List (Str×Value)} {m:Str->Option Value},(∀ v,(x,v)∉binds)->bindL kindOf binds m x=m x
 | [],_,_=>rfl
 | (n,v)::r,m,h=>by
  unfold bindL
  rw [bindL_out fun w hw=>h w (Qd _ hw)]
  split
  ·have:x≠n:=by rintro rfl;exact h v Qt
   simp [this]
  ·rfl
theorem bindC_out {kindOf:Str->Option NameKind} {x:Str}:∀ {binds:List (Str×Value)} {m:Str->Option Value},(∀ v,(x,v)∉binds)->bindC kindOf binds m x=m x
 | [],_,_=>rfl
 | (n,v)::r,m,h=>by
  unfold bindC
  rw [bindC_out fun w hw=>h w (Qd _ hw)]
  split
  ·rfl
  ·have:x≠n:=by rintro rfl;exact h v Qt
   simp [this]
theorem bindL_get {kindOf:Str->Option NameKind} {x:Str} {v:Value}:∀ {P:List Str} {vs:List Value} {i:Nat} {m:Str->Option Value},P.Nodup->P[i]?=some x->vs[i]?=some v->kindOf x=some .local ->
  bindL kindOf (P.zip vs) m x=some v
 | [],_,_,_,_,h,_,_=>by simp at h
 | _::_,[],_,_,_,_,h,_=>by simp at h
 | p::P,w::vs,0,m,nd,h1,h2,hk=>by
  simp at h1 h2;subst h1;subst h2
  show bindL kindOf ((p,w)::P.zip vs) m p=_
  unfold bindL
  rw [bindL_out fun v hv=>(Qr.mp nd).1 (List.of_mem_zip hv).1,if_pos hk]
  simp
 | p::P,w::vs,i+1,m,nd,h1,h2,hk=>by
  show bindL kindOf ((p,w)::P.zip vs) m x=_
  unfold bindL
  exact bindL_get (i:=i) (Qr.mp nd).2 (by simpa using h1) (by simpa using h2) hk
theorem bindC_get {kindOf:Str->Option NameKind} {x:Str} {v:Value}:∀ {P:List Str} {vs:List Value} {i:Nat} {m:Str->Option Value},P.Nodup->P[i]?=some x->vs[i]?=some v->kindOf x≠some .local ->
  bindC kindOf (P.zip vs) m x=some v
 | [],_,_,_,_,h,_,_=>by simp at h
 | _::_,[],_,_,_,_,h,_=>by simp at h
 | p::P,w::vs,0,m,nd,h1,h2,hk=>by
  simp at h1 h2;subst h1;subst h2
  show bindC kindOf ((p,w)::P.zip vs) m p=_
  unfold bindC
  rw [bindC_out fun v hv=>(Qr.mp nd).1 (List.of_mem_zip hv).1,if_neg hk]
  simp
 | p::P,w::vs,i+1,m,nd,h1,h2,hk=>by
  show bindC kindOf ((p,w)::P.zip vs) m x=_
  unfold bindC
  exact bindC_get (i:=i) (Qr.mp nd).2 (by simpa using h1) (by simpa using h2) hk
def yH (N:List Str) (vs:List V):St:=vs.map some++List.replicate (N.length - vs.length) none
def cxOf (CX:CXT) (P:Program) (w:World) (K:PySem.W.Frag) (mg:Str->Option Value) (base:Heap) (N:List Str) (qual:Str) (scope:Scope) (f:Addr) (cd:Value) (A:Around) (outer:List Env) (s:Shared) (H:Hp) (E:XK):Cx where
 prog:=P
 w:=w
 K:=K
 mg:=mg
 base:=base
 A:=A.deeper (envOfC qual scope s.heap.objs.size f cd)
 N:=N
 s₀:=s
 Ud:=H
 env:=envOfC qual scope s.heap.objs.size f cd
 outer:=outer
 stack:=envOfC qual scope s.heap.objs.size f cd::outer
 ex:=[]
 calm:=true
 fn:=fun _=>true
 pn:=[]
 xe:=fun e s'=>wpAny (model P w) (A.deeper (envOfC qual scope s.heap.objs.size f cd)) (leaving (envOfC qual scope s.heap.objs.size f cd) e) (fun _ s''=>CX outer H s E e s'') (fun e' s''=>CX outer H s E e' s'') s'
theorem cell_has {sc:Scope} {n:Nat} {x:Str} (h:sc.names.lookup x=some .cell):∃ c,(cellsFrom n sc.names []).lookup x=some c:=by
 have q:=PySem.W.cellsFrom_some sc.names n [] (.inl h)
 exact QY.mp q
theorem inv_start {CX:CXT} {P:Program} {w:World} {K:PySem.W.Frag} {mg:Str->Option Value} {base:Heap} {N ps:List Str} {qual:Str} {scope:Scope} {f:Addr} {cd:Value} {A:Around} {outer:List Env} {s s1:Shared} {H:Hp} {E:XK} {us:List Value} {vs:List V}
  (S:FnScope N ps scope) (hd:A.handled=none) (e0:Env0 P w K mg base A outer s H) (hl:vs.length=ps.length) (r:zV vs us)
  (x:InCallC s s.heap.objs.size (bindL (envOfC qual scope s.heap.objs.size f cd).kindOf (ps.zip us) fun _=>none) (cellsFrom (s.heap.objs.size+1) scope.names []) (bindC (envOfC qual scope s.heap.objs.size f cd).kindOf (ps.zip us) fun _=>none) s1) :
  Inv (cxOf CX P w K mg base N qual scope f cd A outer s H E) [] (yH N vs) H s1:=by
 have hpl:ps.length<=N.length:=by have:=congrArg List.length S.pre;rw [Q5] at this;omega
 obtain ⟨h1,tk,rfl,hk⟩:=x.done
 have noA:∀ b:Addr,b∉(cxOf CX P w K mg base N qual scope f cd A outer s H E).ex:=fun b z=>absurd (show b∈([]:List Addr) from z) (by simp)
 refine ⟨⟨e0.mod,S.kind,rfl,rfl,Ql _,fun y z c h1 h2=>?_,fun y hy=>?_,fun y c _ h=>?_,fun _=>hd,Around.frames_deeper e0.frames,.inr ⟨rfl,rfl⟩,fun b z=>absurd z (noA b),e0.bs,e0.bsz,fun b _ _=>noA b,fun b z=>absurd z (noA b),e0.funs,e0.frf,⟨_,_,rfl,S.gen,S.co,rfl,rfl⟩,e0.tree⟩,
  rfl,e0.bare,Un.kept hk,⟨_,x.toInCall.ns,fun i y v h1 h2 h3=>?_⟩,fun y c h=>⟨_,x.cell y c h⟩,e0.hok.fresh (Ql _),fun y c h=>?_,fun p hp=>absurd (show p∈([]:List (Addr×Obj)) from hp) (by simp),e0.hok.kept hk,?_⟩
 ·exact name_of_addr x.apart (PySem.mem_of_lookup h1) (PySem.mem_of_lookup h2)
 ·have hy:scope.names.lookup y=some .cell\/scope.names.lookup y=some .free:=hy
  rcases hy with hy | hy
  ·exact cell_has hy
  ·exact absurd rfl (S.nofree _ (PySem.mem_of_lookup hy))
 ·exact Q2 (x.above y c (PySem.mem_of_lookup h))
 ·have hi:i<vs.length:=by
   unfold yH at h2
   by_cases hi:i<vs.length
   ·exact hi
   ·rw [QT (by simpa using hi)] at h2
    rw [Pp] at h2
    split at h2 <;> cases h2
  have ha:vs[i]?=some v:=by
   unfold yH at h2
   rw [QP (by simpa using hi),QB] at h2
   cases e:vs[i]? with
   | none=>rw [e] at h2;cases h2
   | some a=>rw [e] at h2;cases h2;rfl
  obtain ⟨u,hu,rv⟩:=r.get ha
  have hp:ps[i]?=some y:=by
   rw [<- S.pre,List.getElem?_take_of_lt (by omega)];exact h1
  have ndP:ps.Nodup:=by rw [<- S.pre];exact S.nd.sublist (List.take_sublist _ _)
  refine ⟨u,rv,?_⟩
  rcases S.par y (QK hp) with k | k
  ·exact .inl ⟨k,bindL_get ndP hp hu k⟩
  ·obtain ⟨c,e⟩:=cell_has (n:=s.heap.objs.size+1) k
   refine .inr ⟨.inl k,c,e,?_⟩
   have q:=x.cell y c e
   rw [bindC_get ndP hp hu (by show scope.names.lookup y≠_;rw [k];decide)] at q
   exact q
 ·exact e0.hok.fresh (Q2 (x.above y c (PySem.mem_of_lookup h)))
 ·unfold yH
  show _=N.length
  rw [Qi,Qj,List.length_replicate]
  omega
theorem fn_of {CX:CXT} {P:Program} {w:World} {K:PySem.W.Frag} {mg:Str->Option Value} {base:Heap} {k:Nat} {f:Addr} {name qual:Str} {params:Arguments} {body:List Stmt} {scope:Scope} {dV kV doc pm cdv ct oc:Value} {an od:Option Addr}
  {osl:Array (Option Value)} {N ps:List Str} {sp:Sp} (lk:K.lookup f=some ⟨oc,od,.func (fnOf name qual params body scope dV kV doc pm an cdv ct),osl⟩) (hcd:codeIn K cdv qual=true) (S:FnScope N ps scope)
  (len:∀ vs H Q E,sp vs H Q E->vs.length=ps.length)
  (hbody:∀ (A:Around) (outer:List Env) (s:Shared) (H:Hp) (vs:List V) (Q:VK) (E:XK),Room k (A.deeper (envOfC qual scope s.heap.objs.size f cdv))->sp vs H Q E ->
   ∃ t,PSs (cxOf CX P w K mg base N qual scope f cdv A outer s H E) body t/\t { nx:=fun _ H'=>Q .non H',rt:=Q } (yH N vs) H) :
  FnOk P w K mg base CX (k+1) f (fnOf name qual params body scope dV kV doc pm an cdv ct) ps sp:=by
 refine ⟨len,fun A outer s H args us vs Q E hr e0 hb r hsp=>?_⟩
 have hl:=len _ _ _ _ hsp
 have KX:K.In s.heap:=e0.mod.kin.keeps fun b o e=>(e0.bs b o e).1
 have lim:s.heap.NoLimit:=e0.mod.nolimit.keeps fun b o e=>(e0.bs b o e).1
 have hkind:∀ y∈ps.zip us,scope.names.lookup y.1=some .local\/(scope.names.lookup y.1=some .cell/\((cellsFrom (s.heap.objs.size+1) scope.names []).lookup y.1).isSome=true):=fun ⟨n,v⟩ hy=>by
  rcases S.par n (List.of_mem_zip hy).1 with q | q
  ·exact .inl q
  ·exact .inr ⟨q,PySem.W.cellsFrom_some _ _ _ (.inl q)⟩
 refine codeAny_call_function hr.depth (KX _ _ lk) rfl S.co S.gen rfl (PySem.W.codeRec_of KX hcd) (hb _ _ _ _ ?_)
 refine wpAny_newFunctionEnv_cells S.kind hkind fun env he s1 x=>?_
 subst he
 refine ⟨lim.keeps x.toInCall.keep,codeAny_func ?_⟩
 obtain ⟨t,ht,hq⟩:=hbody A outer s H vs Q E (hr.deeper _) hsp
 have I:Inv (cxOf CX P w K mg base N qual scope f cdv A outer s H E) [] (yH N vs) H s1:=inv_start S hr.hd e0 hl r x
 refine Q1 (ht [] s1 (yH N vs) H _ I hq) (fun fl s' hs=>?_) fun e s' hs=>hs
 have fin:∀ {σ':St} {H':Hp} {v:V} {u:Value},Inv (cxOf CX P w K mg base N qual scope f cdv A outer s H E) [] σ' H' s'->Zx v u->Q v H'->CE outer P w H s Q u s' :=
  fun {σ' H' v u} J rv q=>⟨v,H',J.os,J.bare,J.base,J.hok,rv,q⟩
 cases fl with
 | ret u =>
  obtain ⟨v,σ',H',J,rv,q⟩:=hs
  exact fin J rv q
 | next =>
  obtain ⟨σ',H',J,q⟩:=hs
  exact fin (v:=V.non) (u:=Value.none) J rfl q
 | brk =>
  obtain ⟨_,_,_,q⟩:=hs
  exact False.elim q
 | cont =>
  obtain ⟨_,_,_,q⟩:=hs
  exact False.elim q
end L2
namespace L2
open PySem PySem.Spec PyProof.Rows
section
variable {X:Cx} {x:Str} {p pos:Pos} {e:Expr} {es:List Expr} {t:TA} {id T:String} {r:List V->Hp->VK->Prop}
def tCB (r:List V->Hp->VK->Prop) (t:TA):TE:=fun σ H Q=>t σ H fun vs H1=>r vs H1 Q
theorem Jy (hc:Wg X (.builtin id) r) (hg:Gl X x) (hm:X.mg x=none) (hv:bootBuiltins x=some (.builtin id)) (ha:PA X (e::es) t) (hn:x≠"__name__":=by decide) (hdb:(x == ("__debug__":Str))=false:=by decide)
  (he:starEach (e::es) X.env=(false,eval e X.env)::starEach es X.env:=by rfl) (hpl:(backTo pos (starEach es X.env)).any (·.1)=false:=by rfl):PE X (.Call (.Name x p) (e::es) [] pos) (tCB r t):=by
 intro pins s σ H Q I h
 refine Pf (JC I hg hm hv ?_ hn hdb)
 exact PyProof.Rows.callWith_builtin1 (thn (ha pos pins s σ H _ I h) fun us s1 ⟨vs,H1,I1,r1,q1⟩=>hc pins s1 σ H1 vs us Q I1 r1 q1) he hpl
theorem Wn (hc:Wg X (.type T) r) (hg:Gl X x) (hm:X.mg x=none) (hv:bootBuiltins x=some (.type T)) (ha:PA X (e::es) t) (hn:x≠"__name__":=by decide) (hdb:(x == ("__debug__":Str))=false:=by decide)
  (he:starEach (e::es) X.env=(false,eval e X.env)::starEach es X.env:=by rfl) (hpl:(backTo pos (starEach es X.env)).any (·.1)=false:=by rfl):PE X (.Call (.Name x p) (e::es) [] pos) (tCB r t):=by
 intro pins s σ H Q I h
 refine Pf (JC I hg hm hv ?_ hn hdb)
 exact PyProof.Rows.callWith_type1 (thn (ha pos pins s σ H _ I h) fun us s1 ⟨vs,H1,I1,r1,q1⟩=>hc pins s1 σ H1 vs us Q I1 r1 q1) he hpl
end
end L2
namespace HT
open PySem PyProof.Rows
section
open PySem.SeqAt
open PySem.AutoSeq1 (wpAny_loadPart')
open PySem.MeetsSeq PySem.MeetsSeq2 PySem.MeetsSeq3
end
section
variable {prog:Program} {w:World} {A:Around} {E:Value->Shared->Prop} {s:Shared}
theorem cat_tup {t b:Addr} {vs ws:List Value} {Q:Value->Shared->Prop} (ht:IsTup s.heap t vs.toArray) (hb:IsTup s.heap b ws.toArray) (hv:vs≠[])
  (h1:ws=[]->Q (.ref t) s) (h2:ws≠[]->Q (.ref s.heap.objs.size) { s with heap:=s.heap.push { cls:=.type "tuple",data:=.seq (vs++ws).toArray } })
  (hsz:vs.length+ws.length<=sizeLine):wpAny (model prog w) A (binaryOp .Add (.ref t) (.ref b)) Q E s:=by
 obtain ⟨⟨cls,dd,data,sl⟩,ho,hc,n,hd⟩:=id ht
 obtain ⟨⟨cls2,dd2,data2,sl2⟩,ho2,hc2,n2,hd2⟩:=id hb
 simp only at hc hd hc2 hd2
 subst hc hd hc2 hd2
 have e:vs.toArray++ws.toArray=(vs++ws).toArray:=by simp
 by_cases hw:ws=[]
 ·exact concat_meets ⟨_,ho,rfl⟩ ⟨_,ho2,rfl⟩ noFill_tuple_add seq_tuple_add PySem.F.slot_tuple_add PySem.F.entry_tuple_add (PySem.F.args_tuple_add_2 _ _)
   (tuple_addW1 t b vs.toArray ws.toArray n n2 dd dd2 sl sl2 (by simpa using hv) (by simp [hw])) ⟨ho,ho2,h1 hw⟩
 ·refine concat_meets ⟨_,ho,rfl⟩ ⟨_,ho2,rfl⟩ noFill_tuple_add seq_tuple_add PySem.F.slot_tuple_add PySem.F.entry_tuple_add (PySem.F.args_tuple_add_2 _ _)
   (tuple_addW2 t b vs.toArray ws.toArray n n2 dd dd2 sl sl2 (by simpa using hv) (by simpa using hw) (by rw [Qh,Qh];exact hsz)) ⟨ho,ho2,?_⟩
  rw [e]
  exact h2 hw
def sIx (n d:Nat):Option Int->Nat
 | none=>d
 | some v=>if v<0 then (v+(n:Int)).toNat else min v.toNat n
theorem sIx_none (n d:Nat):sIx n d none=d:=rfl
theorem sIx_nat (n d k:Nat):sIx n d (some (k:Int))=min k n:=by
 show (if (k:Int)<0 then ((k:Int)+(n:Int)).toNat else min (k:Int).toNat n)=min k n
 rw [if_neg (by omega),Q0]
theorem sIx_le (n d:Nat) (hd:d<=n) (o:Option Int):sIx n d o<=n:=by
 cases o with
 | none=>exact hd
 | some v =>
  show (if v<0 then (v+(n:Int)).toNat else min v.toNat n)<=n
  by_cases hv:v<0
  ·rw [if_pos hv];omega
  ·rw [if_neg hv];exact Nat.min_le_right _ _
theorem clip_eq (v:Int) (n d:Nat):(if v<0 then max (v+(n:Int)) 0 else min v (n:Int))=((sIx n d (some v):Nat):Int):=by
 show (if v<0 then max (v+(n:Int)) 0 else min v (n:Int))=(((if v<0 then (v+(n:Int)).toNat else min v.toNat n):Nat):Int)
 by_cases hv:v<0
 ·simp only [if_pos hv];omega
 ·simp only [if_neg hv];omega
theorem adjust_gen (lo hi:Option Int) (n:Nat):Builtin.Slice.sliceAdjust lo hi 1 (n:Int)=(((sIx n 0 lo:Nat):Int),((sIx n n hi:Nat):Int)):=by
 have h1:¬ ((1:Int)<0):=by omega
 unfold Builtin.Slice.sliceAdjust
 simp only [h1,if_false]
 refine Prod.ext ?_ ?_
 ·cases lo with
  | none=>rfl
  | some v=>exact clip_eq v n 0
 ·cases hi with
  | none=>rfl
  | some v=>exact clip_eq v n n
theorem places_gen (i j:Nat):Builtin.Slice.slicePlaces (i:Int) (j:Int) 1=j - i:=by
 unfold Builtin.Slice.slicePlaces
 have h1:(1:Int) > 0:=by omega
 simp only [h1,if_true,Int.ediv_one]
 split <;> omega
theorem gQ {v:Value} {o:Option Int} {Q:Option Int->Shared->Prop} (p:IsPart v o) (h:Q o s):wpAny (model prog w) A (Builtin.Slice.slicePartIndex v) Q E s:=by
 cases p with
 | none=>exact slicePart_none h
 | int i t=>exact slicePart_int h
theorem Wk {sl:Addr} {vl vu:Value} {lo hi:Option Int} {n:Nat} {Q:Int×Int×Nat->Shared->Prop} (hs:s.heap.IsSliceOf sl vl vu .none) (pl:IsPart vl lo) (pu:IsPart vu hi)
  (h:Q (((sIx n 0 lo:Nat):Int),1,sIx n n hi - sIx n 0 lo) s):wpAny (model prog w) A (Builtin.Slice.sliceApplied (.ref sl) (pure (n:Int))) Q E s:=by
 obtain ⟨os,hos,hcs,hds⟩:=id hs
 unfold Builtin.Slice.sliceApplied Builtin.Slice.sliceFields
 refine Qa (Qa (QE hos hds (x:=vl) rfl (Qa (QE hos hds (x:=vu) rfl (Qa (QE hos hds (x:=.none) rfl (Qf ?_)))))))
 refine Qa (slicePart_none ?_)
 show wpAny _ _ (if ((1:Int) == 0)=true then _ else _) _ _ s
 rw [if_neg (by decide)]
 refine Qa (gQ pl (Qa (gQ pu (Qa (Qf ?_)))))
 show wpAny _ _ (match Builtin.Slice.sliceAdjust lo hi 1 (n:Int) with | (lo,hi)=>pure (lo,(1:Int),Builtin.Slice.slicePlaces lo hi 1)) _ _ s
 rw [adjust_gen lo hi n]
 show wpAny _ _ (pure (((sIx n 0 lo:Nat):Int),(1:Int),Builtin.Slice.slicePlaces ((sIx n 0 lo:Nat):Int) ((sIx n n hi:Nat):Int) 1)) _ _ s
 rw [places_gen]
 exact Qf h
theorem pick_gen (xs:Array Value) (i k:Nat):((List.range k).filterMap fun (m:Nat)=>xs[((i:Int)+(m:Int)*1).toNat]?).toArray=((xs.toList.drop i).take k).toArray:=by
 have e:(fun (m:Nat)=>xs[((i:Int)+(m:Int)*1).toNat]?)=fun m=>xs[i+m]?:=by
  funext m
  have:((i:Int)+(m:Int)*1).toNat=i+m:=by omega
  rw [this]
 rw [e]
 have:=pick_run xs i k
 rw [List.filterMap_map] at this
 have e2:((fun x=>xs[x]?)∘fun x=>i+x)=fun m=>xs[i+m]?:=rfl
 rw [e2] at this
 rw [this]
theorem getItem_tuple_cut {t sl:Addr} {items:Array Value} {vl vu:Value} {lo hi:Option Int} {Q:Value->Shared->Prop} (ht:IsTup s.heap t items) (hs:s.heap.IsSliceOf sl vl vu .none) (pl:IsPart vl lo) (pu:IsPart vu hi)
  (hw:¬ (sIx items.size 0 lo=0/\sIx items.size items.size hi=items.size))
  (h:Q (.ref s.heap.objs.size) { s with heap:=s.heap.push { cls:=.type "tuple",data:=.seq ((items.toList.drop (sIx items.size 0 lo)).take (sIx items.size items.size hi - sIx items.size 0 lo)).toArray } })
  (hsz:items.size<=sizeLine):wpAny (model prog w) A (getItem (.ref t) (.ref sl)) Q E s:=by
 have htake:sizeOk (.seq ((items.toList.drop (sIx items.size 0 lo)).take (sIx items.size items.size hi - sIx items.size 0 lo)).toArray):=by
  show ((items.toList.drop (sIx items.size 0 lo)).take (sIx items.size items.size hi - sIx items.size 0 lo)).toArray.size<=sizeLine
  rw [Qh,Q5,List.length_drop,Array.length_toList]
  omega
 have hj:sIx items.size items.size hi<=items.size:=sIx_le _ _ (Ql _) hi
 obtain ⟨os,hos,hcs,hds⟩:=id hs
 have hTs:s.TypeIs (.ref sl) "slice":=⟨os,hos,hcs⟩
 unfold getItem
 try with_reducible refine Pb ?_
 first | refine Qa (Qf ?_) | skip
 refine Qa (wpAny_sequenceKey ht.typeIs (by decide) ?_)
 refine Qa (QQ (name:=Str.ofString "__getitem__") ht.typeIs PyProof.Rows.slot_tuple_getitem
  (QW PyProof.Rows.slot_tuple_getitem ht.typeIs entry_tuple_getitem ?_ (args_tuple_getitem _ _)))
 show wpAny _ _ (Builtin.Tuple.tupleItemsOf (.ref t) >>= _) _ _ s
 refine Qa (tupleItemsOf_ ht ?_)
 refine Qa (wpAny_typeOf hTs ?_)
 rw [if_pos (by decide)]
 refine Qa (Wk hs pl pu ?_)
 have hno:¬ ((((sIx items.size 0 lo:Nat):Int) == 0&&(1:Int) == 1&&(sIx items.size items.size hi - sIx items.size 0 lo) == items.size)=true):=by
  intro q
  rw [QO,QO] at q
  have q1:((sIx items.size 0 lo:Nat):Int)=0:=eq_of_beq q.1.1
  have q2:sIx items.size items.size hi - sIx items.size 0 lo=items.size:=eq_of_beq q.2
  exact hw ⟨by omega,by omega⟩
 show wpAny _ _ (if (((sIx items.size 0 lo:Nat):Int) == 0&&(1:Int) == 1&&(sIx items.size items.size hi - sIx items.size 0 lo) == items.size)=true then _ else _) _ _ s
 rw [if_neg hno,pick_gen]
 first
  | exact Qa (m:=Builtin.Tuple.tupleExact _) (QS (Qf ⟨_,rfl,Qf h⟩) htake)
  | exact Qa (m:=Builtin.Tuple.tupleExact _) (QS (Qa (Qf (Qf ⟨_,rfl,Qf h⟩))) htake)
  | exact Qa (Qa (m:=Builtin.Tuple.tupleExact _) (QS (Qf (Qf ⟨_,rfl,Qf h⟩)) htake))
  | exact Qa (Qa (m:=Builtin.Tuple.tupleExact _) (QS (Qf ⟨_,rfl,Qf h⟩) htake))
end
end HT
namespace L2
open PySem PySem.Spec PyProof.Rows
abbrev TO:=St->Hp->(Option Int->Hp->Prop)->Prop
def PO (X:Cx) (e:Option Expr) (t:TO):Prop :=
 ∀ (pins:List (Addr×Obj)) (s:Shared) (σ:St) (H:Hp) (Q:Option Int->Hp->Prop),Inv X pins σ H s->t σ H Q ->
  wpAny (model X.prog X.w) X.A (evalPart e X.env) (fun u s'=>∃ o H',Inv X pins σ H' s'/\IsPart u o/\Q o H') X.xe s
def tNoPart:TO:=fun _ H Q=>Q none H
def tPart (t:TE):TO:=fun σ H Q=>t σ H fun x H1=>∃ i,x=.int i/\Q (some i) H1
section
variable {X:Cx} {e:Expr} {te:TE} {lo hi:Option Expr} {tl th:TO} {pos p2:Pos}
theorem po_none:PO X none tNoPart:=by
 intro pins s σ H Q I h
 rw [evalPart_none]
 exact Qf ⟨none,H,I,.none,h⟩
theorem po_some (h:PE X e te):PO X (some e) (tPart te):=by
 intro pins s σ H Q I hw
 rw [evalPart_some]
 refine thn (h pins s σ H _ I hw) fun u s1 ⟨x,H1,I1,r1,q1⟩=>?_
 obtain ⟨i,rfl,q⟩:=q1
 obtain ⟨t,rfl⟩:=r1
 exact ⟨some i,H1,I1,.int i t,q⟩
def SlR (X:Cx) (r:V->Option Int->Option Int->Hp->VK->Prop):Prop :=
 ∀ (pins:List (Addr×Obj)) (s:Shared) (σ:St) (H:Hp) (x:V) (v vl vu:Value) (lo hi:Option Int) (sl:Addr) (Q:VK),Inv X pins σ H s->Zx x v->s.heap.IsSliceOf sl vl vu .none->IsPart vl lo->IsPart vu hi->r x lo hi H Q ->
  ∃ T id,typeLookup (.type T) "__getitem__"=pure (some (.builtin id))/\s.TypeIs v T/\wpAny (model X.prog X.w) X.A (getItem v (.ref sl)) (EP X pins σ Q) X.xe s
def tSl (r:V->Option Int->Option Int->Hp->VK->Prop) (te:TE) (tl th:TO):TE:=fun σ H Q=>te σ H fun x H1=>tl σ H1 fun l H2=>th σ H2 fun u H3=>r x l u H3 Q
theorem pe_slice {r:V->Option Int->Option Int->Hp->VK->Prop} (hr:SlR X r) (he:PE X e te) (hl:PO X lo tl) (hu:PO X hi th):PE X (.Subscript e (.Slice lo hi none p2) pos) (tSl r te tl th):=by
 intro pins s σ H Q I h
 refine Subscript_ (thn (he pins s σ H _ I h) fun v s1 ⟨x,H1,I1,r1,q1⟩=>?_)
 refine wpAny_Slice (thn (hl pins s1 σ H1 _ I1 q1) fun vl s2 ⟨l,H2,I2,pl,q2⟩=>thn (hu pins s2 σ H2 _ I2 q2) fun vu s3 ⟨u,H3,I3,pu,q3⟩=>?_)
 rw [evalPart_none]
 refine Qf ?_
 have I4:Inv X pins σ H3 { s3 with heap:=s3.heap.push { cls:=.type "slice",data:=.fields #[vl,vu,.none] } }:=I3.kept (t':=s3.toks) fun b ob q=>Qc _ q
 obtain ⟨T,id,hT,ht,hg⟩:=hr pins { s3 with heap:=s3.heap.push { cls:=.type "slice",data:=.fields #[vl,vu,.none] } } σ H3 x v vl vu l u s3.heap.objs.size Q I4 r1 (Heap.IsSliceOf.new ..) pl pu q3
 show wpAny (model X.prog X.w) X.A (subscriptTail e (.Slice lo hi none p2) v (.ref s3.heap.objs.size)) (EP X pins σ Q) X.xe { s3 with heap:=s3.heap.push { cls:=.type "slice",data:=.fields #[vl,vu,.none] } }
 exact tail_any (ops:=[.ref s3.heap.objs.size,v]) ht hT hg (by with_unfolding_all rfl)
def GI (xs:List V) (lo hi:Option Int):List V:=(xs.drop (HT.sIx xs.length 0 lo)).take (HT.sIx xs.length xs.length hi - HT.sIx xs.length 0 lo)
theorem W1 (xs:List V) (lo hi:Option Int):(GI xs lo hi).length<=xs.length:=by
 unfold GI
 rw [Q5,List.length_drop]
 omega
def rSlT (K:PySem.W.Frag):V->Option Int->Option Int->Hp->VK->Prop:=fun x lo hi H Q=>∃ a xs,x=.ref a/\SqT K H a xs /\
 ¬ (HT.sIx xs.length 0 lo=0/\HT.sIx xs.length xs.length hi=xs.length)/\∀ p,H p=none->Q (.ref p) (upd H p (.tup (GI xs lo hi)))
theorem sl_tup:SlR X (rSlT X.K):=by
 intro pins s σ H x v vl vu lo hi sl Q I rx hs pl pu h
 obtain ⟨a,xs,rfl,hx,hw,q⟩:=h
 cases rx
 obtain ⟨its,r,ht,hz⟩:=I.tuple hx
 have hlen:its.toArray.size=xs.length:=by rw [Qh];exact r.length.symm
 refine ⟨"tuple",_,PyProof.Rows.slot_tuple_getitem.lookup,ht.typeIs,?_⟩
 refine HT.getItem_tuple_cut ht hs pl pu (by rw [hlen];exact hw) ?_ (by rw [hlen];exact hz)
 rw [hlen]
 refine ⟨.ref s.heap.objs.size,_,I.laid (t':=s.toks) (o:=.tup (GI xs lo hi)) (fun b ob q=>Qc _ q) (Ql _) ?_,rfl,q _ (I.hok.fresh (Ql _))⟩
 exact ⟨Qw (W1 xs lo hi) hz,_,(r.drop (HT.sIx xs.length 0 lo)).take (HT.sIx xs.length xs.length hi - HT.sIx xs.length 0 lo),IsTup.new _ _⟩
def rCatT (K:PySem.W.Frag):R2:=fun x y H Q=>∃ a b xs ys,x=.ref a/\y=.ref b/\SqT K H a xs/\SqT K H b ys/\xs≠[]/\xs.length+ys.length<=sizeLine /\
 (ys=[]->Q (.ref a) H)/\(ys≠[]->∀ p,H p=none->Q (.ref p) (upd H p (.tup (xs++ys))))
theorem zV.nil_iff {xs:List V} {us:List Value} (r:zV xs us):us=[]↔xs=[]:=by
 cases r with
 | nil=>simp
 | cons _ _=>simp
theorem op_catT:OpR X (binaryOp .Add) (rCatT X.K):=by
 intro pins s σ H x y v u Q I rx ry h
 obtain ⟨a,b,xs,ys,rfl,rfl,ha,hb,hx,hz,q1,q2⟩:=h
 cases rx
 cases ry
 obtain ⟨its,r1,p1,_⟩:=I.tuple ha
 obtain ⟨its2,r2,p2,_⟩:=I.tuple hb
 refine HT.cat_tup p1 p2 (fun z=>hx (r1.nil_iff.mp z)) (fun z=>⟨.ref a,H,I,rfl,q1 (r2.nil_iff.mp z)⟩) (fun z=>?_) (by rw [<- r1.length,<- r2.length];exact hz)
 refine ⟨.ref s.heap.objs.size,_,I.laid (t':=s.toks) (o:=.tup (xs++ys)) (fun b ob q=>Qc _ q) (Ql _) ?_,rfl,q2 (fun w=>z (r2.nil_iff.mpr w)) _ (I.hok.fresh (Ql _))⟩
 exact ⟨by rw [Qi];exact hz,_,r1.append r2,IsTup.new _ _⟩
end
end L2
namespace L2
open PySem PySem.Spec PyProof.Rows
def ixN (n:Nat) (i:Int):Option Nat:=if 0<=i then (if i<n then some i.toNat else none) else if -(n:Int)<=i then some (i+n).toNat else none
def atI {α:Type} (xs:List α) (i:Int):Option α:=(ixN xs.length i).bind fun j=>xs[j]?
theorem ixN_seq {n:Nat} {i:Int} {j:Nat} (h:ixN n i=some j):seqIndex? i n=some j/\j<n/\-(n:Int)<=i/\i<n:=by
 unfold ixN at h
 by_cases h0:0<=i
 ·rw [if_pos h0] at h
  by_cases h1:i<n
  ·rw [if_pos h1] at h
   have e:i.toNat=j:=Option.some.inj h
   exact ⟨by rw [seqIndex_of h0 h1,e],by omega,by omega,h1⟩
  ·rw [if_neg h1] at h;cases h
 ·rw [if_neg h0] at h
  by_cases h1:-(n:Int)<=i
  ·rw [if_pos h1] at h
   have e:(i+n).toNat=j:=Option.some.inj h
   exact ⟨by rw [seqIndex_neg (by omega) h1,e],by omega,h1,by omega⟩
  ·rw [if_neg h1] at h;cases h
theorem atI_get {α:Type} {xs:List α} {i:Int} {v:α} (h:atI xs i=some v):∃ j,seqIndex? i xs.length=some j/\xs[j]?=some v/\j<xs.length/\-(xs.length:Int)<=i/\i<xs.length:=by
 unfold atI at h
 cases e:ixN xs.length i with
 | none=>rw [e] at h;cases h
 | some j =>
  rw [e] at h
  obtain ⟨h1,h2,h3,h4⟩:=ixN_seq e
  exact ⟨j,h1,h,h2,h3,h4⟩
theorem zD {α:Type} {xs:List α} {j:Nat} {v:α} (h:xs[j]?=some v):atI xs (j:Int)=some v:=by
 have hj:j<xs.length:=(Qm.mp h).1
 have e:ixN xs.length (j:Int)=some j:=by
  unfold ixN
  rw [if_pos (by omega),if_pos (by omega)];simp
 unfold atI;rw [e];exact h
def Wf (b:Expr):Prop:=∀ o i,subscripted b false o i=operate [o,i] (getItem o i)
def IxR (X:Cx) (r:R2):Prop :=
 ∀ (value slice:Expr) (pins:List (Addr×Obj)) (s:Shared) (σ:St) (H:Hp) (x y:V) (v u:Value) (Q:VK),Inv X pins σ H s->Zx x v->Zx y u->r x y H Q ->
  subscripted slice false v u=operate [v,u] (getItem v u)->wpAny (model X.prog X.w) X.A (subscriptTail value slice v u) (EP X pins σ Q) X.xe s
def MtR (X:Cx) (id:String) (r:V->List V->Hp->VK->Prop):Prop :=
 ∀ (pins:List (Addr×Obj)) (s:Shared) (σ:St) (H:Hp) (x:V) (xs:List V) (v:Value) (us:List Value) (Q:VK),Inv X pins σ H s->Zx x v->zV xs us->r x xs H Q ->
  wpAny (model X.prog X.w) X.A (call (.builtin id) (v::us)) (EP X pins σ Q) X.xe s
section
variable {X:Cx} {a b:Expr} {ta tb:TE} {pos:Pos}
theorem wR {r:R2} (hr:IxR X r) (ha:PE X a ta) (hb:PE X b tb) (hs:Wf b):PE X (.Subscript a b pos) (tOp r ta tb):=by
 intro pins s σ H Q I h
 exact Subscript_ (binT ha hb I h fun v u s2 x y H2 I2 rx ry q=>hr a b pins s2 σ H2 x y v u Q I2 rx ry q (hs _ _))
def rIxL (K:PySem.W.Frag):R2:=fun x y H Q=>∃ p xs i v,x=.ref p/\y=.int i/\SqL K H p xs/\atI xs i=some v/\Q v H
def rIxT (K:PySem.W.Frag):R2:=fun x y H Q=>∃ p xs i v,x=.ref p/\y=.int i/\SqT K H p xs/\atI xs i=some v/\Q v H
theorem j7:IxR X (rIxL X.K):=by
 intro value slice pins s σ H x y v u Q I rx ry h hs
 obtain ⟨p,xs,i,z,rfl,rfl,hq,he,q⟩:=h
 cases rx
 obtain ⟨t,rfl⟩:=ry
 obtain ⟨its,r,pl,hz⟩:=I.list hq
 obtain ⟨j,h1,h2,h3,h4,h5⟩:=atI_get he
 obtain ⟨w,ew,rw'⟩:=r.get h2
 have hl:=r.length
 have hn:=line63
 have fin:EP X pins σ Q w s:=⟨z,H,I,rw',q⟩
 by_cases h0:0<=i
 ·have hj:i.toNat=j:=by
   rw [seqIndex_of h0 h5] at h1
   exact Option.some.inj h1
  exact item_listR pl.isList h0 (by omega) (by rw [hj];simpa using ew) fin hs
 ·have hj:(i+(its.toArray.size:Int)).toNat=j:=by
   rw [seqIndex_neg (by omega) h4] at h1
   rw [Qh,<- hl]
   exact Option.some.inj h1
  exact subscriptTail_builtinR (x:=w) pl.isList.typeIs slot_list_getitem.lookup
   (wpAny_getItem_list_neg (Q:=fun r s'=>r=w/\EP X pins σ Q r s') pl.isList (by omega) (by rw [Qh] <;> omega) (by omega) (by rw [hj];simpa using ew) ⟨rfl,fin⟩) hs
theorem ix_tup:IxR X (rIxT X.K):=by
 intro value slice pins s σ H x y v u Q I rx ry h hs
 obtain ⟨p,xs,i,z,rfl,rfl,hq,he,q⟩:=h
 cases rx
 obtain ⟨t,rfl⟩:=ry
 obtain ⟨its,r,pl,hz⟩:=I.tuple hq
 obtain ⟨j,h1,h2,h3,h4,h5⟩:=atI_get he
 obtain ⟨w,ew,rw'⟩:=r.get h2
 have hl:=r.length
 have hn:=line63
 have fin:EP X pins σ Q w s:=⟨z,H,I,rw',q⟩
 exact subscriptTail_builtinR (x:=w) pl.typeIs slot_tuple_getitem.lookup
  (getItem_tuple (j:=j) (Q:=fun r s'=>r=w/\EP X pins σ Q r s') pl (by omega) (by omega) (by rw [Qh,<- hl];exact h1) (by simpa using ew) ⟨rfl,fin⟩) hs
theorem mapSeq_set (its:List Value) (n j:Nat) (u:Value):Obj.mapSeq (·.setIfInBounds j u) { cls:=.type "list",data:=.seq its.toArray n }={ cls:=.type "list",data:=.seq (its.set j u).toArray n }:=by
 simp [Obj.mapSeq]
theorem Inv.lst {pins:List (Addr×Obj)} {σ:St} {H:Hp} {s:Shared} {p:Addr} {xs:List V} (I:Inv X pins σ H s) (h:H p=some (.lst xs)) :
  ∃ (its:List Value) (n:Nat),zV xs its/\s.heap.get? p=some { cls:=.type "list",data:=.seq its.toArray n }/\xs.length<=sizeLine:=by
 obtain ⟨z,its,n,r,e⟩:=I.hok p _ h
 exact ⟨its,n,r,e,z⟩
theorem Inv.lstUpd {pins:List (Addr×Obj)} {σ:St} {H:Hp} {s:Shared} {p:Addr} {xs ys:List V} {its its':List Value} {n n':Nat} {f:Obj->Obj} (I:Inv X pins σ H s) (h:H p=some (.lst xs))
  (ho:s.heap.get? p=some { cls:=.type "list",data:=.seq its.toArray n }) (hf:f { cls:=.type "list",data:=.seq its.toArray n }={ cls:=.type "list",data:=.seq its'.toArray n' }) (r:zV ys its') (hz:ys.length<=sizeLine) (t:Nat) :
  Inv X pins σ (upd H p (.lst ys)) { s with heap:=s.heap.update p f,toks:=t }:=by
 have e:(s.heap.update p f).get? p=some { cls:=.type "list",data:=.seq its'.toArray n' }:=by
  rw [QV f ho (by rw [hf] <;> rfl),hf]
 refine I.write (x:=p) (e:=p) (by rw [h];trivial) (.inl rfl) (fun b u hb q=>(Ph _ _ (Ne.symm hb)).trans q) ⟨_,e⟩ ?_
 exact ⟨hz,its',n',r,e⟩
def rSetL:V->V->V->Hp->(Hp->Prop)->Prop:=fun o i v H Q=>∃ p xs k j,o=.ref p/\i=.int k/\H p=some (.lst xs)/\ixN xs.length k=some j/\Q (upd H p (.lst (xs.set j v)))
theorem set_list:PSet X rSetL:=by
 intro pins s σ H o i v ov iv u Q I ro ri rv h
 obtain ⟨p,xs,k,j,rfl,rfl,hp,hj,q⟩:=h
 cases ro
 obtain ⟨t,rfl⟩:=ri
 obtain ⟨its,n,r,ho,hz⟩:=I.lst hp
 obtain ⟨h1,h2,h3,h4⟩:=ixN_seq hj
 have hl:=r.length
 have hn:=line63
 have I':Inv X pins σ (upd H p (.lst (xs.set j v))) { s with heap:=s.heap.update p (Obj.mapSeq (·.setIfInBounds j u)) } :=
  I.lstUpd hp ho (mapSeq_set its n j u) (r.set rv j) (by rw [Qo];exact hz) s.toks
 by_cases h0:0<=k
 ·have hk:k.toNat=j:=by
   rw [seqIndex_of h0 h4] at h1
   exact Option.some.inj h1
  exact PySem.W.ki_setAt ho h0 (by omega) (by rw [Qh,<- hl];exact h4) (by rw [hk];exact ⟨_,I',q⟩)
 ·have hk:(k+(its.toArray.size:Int)).toNat=j:=by
   rw [seqIndex_neg (by omega) h3] at h1
   rw [Qh,<- hl]
   exact Option.some.inj h1
  exact PySem.W.ki_setBack ho (by omega) (by rw [Qh,<- hl];exact h3) (by omega) (by rw [hk];exact ⟨_,I',q⟩)
theorem slice_bounds (lo hi:Option Int) (n:Nat):(sliceBounds lo hi none n).1=((HT.sIx n 0 lo:Nat):Int)/\(sliceBounds lo hi none n).2.1=((HT.sIx n n hi:Nat):Int)/\(sliceBounds lo hi none n).2.2=1:=by
 refine ⟨?_,?_,rfl⟩
 ·cases lo with
  | none=>simp [sliceBounds,HT.sIx]
  | some i =>
   simp only [sliceBounds,HT.sIx,Option.getD_none,show (1:Int) > 0 by decide,if_true]
   by_cases h:i<0
   ·simp only [h,if_true] <;> omega
   ·simp only [h,if_false] <;> omega
 ·cases hi with
  | none=>simp [sliceBounds,HT.sIx]
  | some i =>
   simp only [sliceBounds,HT.sIx,Option.getD_none,show (1:Int) > 0 by decide,if_true]
   by_cases h:i<0
   ·simp only [h,if_true] <;> omega
   ·simp only [h,if_false] <;> omega
theorem slicePick_cut (its:List Value) (lo hi:Option Int):slicePick its.toArray lo hi none=((its.drop (HT.sIx its.length 0 lo)).take (HT.sIx its.length its.length hi - HT.sIx its.length 0 lo)).toArray:=by
 obtain ⟨h1,h2,h3⟩:=slice_bounds lo hi its.toArray.size
 unfold slicePick
 rw [h1,h2,h3]
 simp only [sliceRange_one,pick_run,Qh] <;> rfl
def rSlL (K:PySem.W.Frag):V->Option Int->Option Int->Hp->VK->Prop:=fun x lo hi H Q=>∃ a xs,x=.ref a/\SqL K H a xs/\∀ p,H p=none->Q (.ref p) (upd H p (.lst (GI xs lo hi)))
theorem sl_list:SlR X (rSlL X.K):=by
 intro pins s σ H x v vl vu lo hi sl Q I rx hs pl pu h
 obtain ⟨a,xs,rfl,hx,q⟩:=h
 cases rx
 obtain ⟨its,r,ht,hz⟩:=I.list hx
 have hlen:=r.length
 refine ⟨"list",_,slot_list_getitem.lookup,ht.isList.typeIs,?_⟩
 refine wpAny_getItem_list_slice ht.isList hs pl pu .none (by simp) ?_ (by rw [Qh] <;> omega)
 rw [slicePick_cut,<- hlen]
 refine ⟨.ref s.heap.objs.size,_,I.laid (t':=s.toks) (o:=.lst (GI xs lo hi)) (fun b ob q=>Qc _ q) (Ql _) ?_,rfl,q _ (I.hok.fresh (Ql _))⟩
 exact ⟨Qw (W1 xs lo hi) hz,_,0,(r.drop (HT.sIx xs.length 0 lo)).take (HT.sIx xs.length xs.length hi - HT.sIx xs.length 0 lo),Qp _ rfl⟩
def WZ:V->Bool
 | .non=>true
 | .bl _=>true
 | .int _=>true
 | .str _=>true
 | _=>false
def eqV:V->V->Bool
 | .non,.non=>true
 | .bl a,.bl b=>a == b
 | .bl a,.int b=>(if a then 1 else 0) == b
 | .int a,.bl b=>a == (if b then 1 else 0)
 | .int a,.int b=>a == b
 | .str a,.str b=>a == b
 | _,_=>false
theorem eqAt_V {A:Around} {s:Shared} {y x:V} {u v:Value} (ry:Zx y u) (rx:Zx x v) (fy:WZ y=true) (fx:WZ x=true):SeqAt.EqAt A s u v (eqV y x):=by
 cases y with
 | non =>
  cases ry
  cases x with
  | non=>cases rx;exact SeqAt.EqAt.same _
  | bl b=>cases rx;exact SeqAt.EqAt.none_bool b
  | int b=>obtain ⟨t,rfl⟩:=rx;exact SeqAt.EqAt.none_int b t
  | str b=>obtain ⟨t,rfl⟩:=rx;exact SeqAt.EqAt.none_str b t
  | _=>exact absurd (show false=true from fx) Qg
 | bl a =>
  cases ry
  cases x with
  | non=>cases rx;exact SeqAt.EqAt.bool_none a
  | bl b=>cases rx;exact SeqAt.EqAt.bool_bool a b
  | int b=>obtain ⟨t,rfl⟩:=rx;exact SeqAt.EqAt.bool_int a b t
  | str b=>obtain ⟨t,rfl⟩:=rx;exact SeqAt.EqAt.bool_str a b t
  | _=>exact absurd (show false=true from fx) Qg
 | int a =>
  obtain ⟨t',rfl⟩:=ry
  cases x with
  | non=>cases rx;exact SeqAt.EqAt.int_none a t'
  | bl b=>cases rx;exact SeqAt.EqAt.int_bool a t' b
  | int b=>obtain ⟨t,rfl⟩:=rx;exact SeqAt.EqAt.int_int a t' b t
  | str b=>obtain ⟨t,rfl⟩:=rx;exact SeqAt.EqAt.int_str a t' b t
  | _=>exact absurd (show false=true from fx) Qg
 | str a =>
  obtain ⟨t',rfl⟩:=ry
  cases x with
  | non=>cases rx;exact SeqAt.EqAt.str_none a t'
  | bl b=>cases rx;exact SeqAt.EqAt.str_bool a t' b
  | int b=>obtain ⟨t,rfl⟩:=rx;exact SeqAt.EqAt.str_int a t' b t
  | str b=>obtain ⟨t,rfl⟩:=rx;exact SeqAt.EqAt.str_str a t' b t
  | _=>exact absurd (show false=true from fx) Qg
 | _=>exact absurd (show false=true from fy) Qg
def eqU (x:V) (u:Value):Bool:=match u with
 | .none=>eqV .non x
 | .bool b=>eqV (.bl b) x
 | .int i _=>eqV (.int i) x
 | .str z _=>eqV (.str z) x
 | _=>false
theorem eqU_of {x y:V} {u:Value} (r:Zx y u) (f:WZ y=true):eqU x u=eqV y x:=by
 cases y with
 | non=>cases r;rfl
 | bl b=>cases r;rfl
 | int i=>obtain ⟨t,rfl⟩:=r;rfl
 | str z=>obtain ⟨t,rfl⟩:=r;rfl
 | _=>exact absurd (show false=true from f) Qg
theorem any_eqU {x:V}:∀ {xs:List V} {us:List Value},zV xs us->xs.all WZ=true->us.any (eqU x)=xs.any fun y=>eqV y x
 | _,_,.nil,_=>rfl
 | y::xs,u::us,.cons r t,f=>by
  rw [List.all_cons,QO] at f
  rw [Pk,Pk,eqU_of r f.1,any_eqU t f.2]
theorem Gy {A:Around} {s:Shared} {x:V} {v:Value} (rx:Zx x v) (fx:WZ x=true):∀ {xs:List V} {us:List Value},zV xs us->xs.all WZ=true->∀ u∈us,SeqAt.EqAt A s u v (eqU x u)
 | _,_,.nil,_=>fun u hu=>by cases hu
 | y::xs,u::us,.cons r t,f=>fun u' hu=>by
  rw [List.all_cons,QO] at f
  rcases Qb.mp hu with rfl | hu
  ·rw [eqU_of r f.1];exact eqAt_V r rx f.1 fx
  ·exact Gy rx fx t f.2 u' hu
def inV (x:V) (xs:List V):Bool:=xs.any fun y=>eqV y x
def rIn (K:PySem.W.Frag) (neg:Bool):R2:=fun x y H Q=>∃ p xs,y=.ref p/\(SqL K H p xs\/SqT K H p xs)/\WZ x=true/\xs.all WZ=true/\Q (.bl (if neg then !inV x xs else inV x xs)) H
theorem op_in_seq:OpR X (compareOp .In) (rIn X.K false):=by
 intro pins s σ H x y v u Q I rx ry h
 obtain ⟨p,xs,rfl,hq,fx,fs,q⟩:=h
 cases ry
 rcases hq with hq | hq
 ·obtain ⟨its,r,pl,hz⟩:=I.list hq
  refine SeqAt.in_listAt (eqU x) pl.isList (fun w hw=>Gy rx fx r fs w (by simpa using hw)) ⟨.bl _,H,I,rfl,?_⟩
  rw [show its.toArray.any (eqU x)=its.any (eqU x) by simp,any_eqU r fs]
  exact q
 ·obtain ⟨its,r,pl,hz⟩:=I.tuple hq
  refine SeqAt.in_tupleAt (eqU x) pl (fun w hw=>Gy rx fx r fs w (by simpa using hw)) ⟨.bl _,H,I,rfl,?_⟩
  rw [show its.toArray.any (eqU x)=its.any (eqU x) by simp,any_eqU r fs]
  exact q
theorem Ja:Wg X (.builtin "len") (fun xs H Q=>∃ p ys,xs=[.ref p]/\(SqL X.K H p ys\/SqT X.K H p ys)/\Q (.int ys.length) H):=by
 intro pins s σ H xs us Q I r h
 obtain ⟨p,ys,rfl,hq,q⟩:=h
 obtain ⟨u,rfl,rx⟩:=vals1 r
 cases rx
 have hn:=line63
 rcases hq with hq | hq
 ·obtain ⟨its,r',pl,hz⟩:=I.list hq
  have hlen:=r'.length
  exact Calls.call_len_list pl.isList (by simp only [Qh] <;> omega) ⟨.int ys.length,H,I.tok _,⟨s.toks+1,by rw [Qh,hlen]⟩,q⟩
 ·obtain ⟨its,r',pl,hz⟩:=I.tuple hq
  have hlen:=r'.length
  exact len_tuple pl (by simp only [Qh] <;> omega) ⟨.int ys.length,H,I.tok _,⟨s.toks+1,by rw [Qh,hlen]⟩,q⟩
theorem call_list_of:Wg X (.type "list") (fun xs H Q=>∃ p ys,xs=[.ref p]/\(SqL X.K H p ys\/SqT X.K H p ys)/\∀ l,H l=none->Q (.ref l) (upd H l (.lst ys))):=by
 intro pins s σ H xs us Q I r h
 obtain ⟨p,ys,rfl,hq,q⟩:=h
 obtain ⟨u,rfl,rx⟩:=vals1 r
 cases rx
 have fin:∀ (its:List Value),zV ys its->ys.length<=sizeLine->∀ (h':Heap) (c':Nat),(∀ b o',s.heap.get? b=some o'->h'.get? b=some o') ->
   h'.get? s.heap.objs.size=some { cls:=.type "list",dict:=none,data:=.seq its.toArray c',slots:=#[] }->EP X pins σ Q (.ref s.heap.objs.size) { s with heap:=h' }:=fun its r' hz h' c' kp e =>
  ⟨.ref s.heap.objs.size,_,I.laid (t':=s.toks) kp (Ql _) (show yE X.prog X.w _ h' _ (.lst ys) from ⟨hz,its,c',r',e⟩),rfl,q _ (I.hok.fresh (Ql _))⟩
 rcases hq with hq | hq
 ·obtain ⟨its,r',pl,hz⟩:=I.list hq
  have hlen:=r'.length
  obtain ⟨o,ho,hc,n,hd⟩:=pl.isList
  exact call_list_seq p (.inl rfl) ho hc hd (fun h' c' kp e=>fin its r' hz h' c' kp e) (by simp only [Qh] <;> omega)
 ·obtain ⟨its,r',pl,hz⟩:=I.tuple hq
  have hlen:=r'.length
  obtain ⟨o,ho,hc,n,hd⟩:=pl
  exact call_list_seq p (.inr rfl) ho hc hd (fun h' c' kp e=>fin its r' hz h' c' kp e) (by simp only [Qh] <;> omega)
theorem call_tuple_of:Wg X (.type "tuple") (fun xs H Q=>∃ p ys,xs=[.ref p]/\((SqL X.K H p ys/\∀ l,H l=none->Q (.ref l) (upd H l (.tup ys)))\/(SqT X.K H p ys/\Q (.ref p) H))):=by
 intro pins s σ H xs us Q I r h
 obtain ⟨p,ys,rfl,h⟩:=h
 obtain ⟨u,rfl,rx⟩:=vals1 r
 cases rx
 rcases h with ⟨hq,q⟩ | ⟨hq,q⟩
 ·obtain ⟨its,r',pl,hz⟩:=I.list hq
  have hlen:=r'.length
  refine call_tuple_list pl.isList (fun h' kp=>?_) (by simp only [Qh] <;> omega)
  have I1:Inv X pins σ H { s with heap:=h' }:=I.kept (t':=s.toks) kp
  have I2:Inv X pins σ (upd H h'.objs.size (.tup ys)) { s with heap:=h'.push { cls:=.type "tuple",data:=.seq its.toArray } } :=
   I1.laid (t':=s.toks) (fun b o e=>Qc _ e) (Ql _) (show yE X.prog X.w _ _ _ (.tup ys) from ⟨hz,its,r',IsTup.new _ _⟩)
  exact ⟨.ref h'.objs.size,_,I2,rfl,q _ (I1.hok.fresh (Ql _))⟩
 ·obtain ⟨its,r',pl,hz⟩:=I.tuple hq
  exact call_tuple_same pl ⟨.ref p,H,I,rfl,q⟩
def tyV (K:PySem.W.Frag) (T:String) (x:V) (H:Hp):Prop:=match x with
 | .str _=>T="str"
 | .int _=>T="int"
 | .ref p=>(T="list"/\∃ xs,SqL K H p xs)\/(T="tuple"/\∃ o,K.lookup p=some o/\o.cls=.type "tuple"/\o.dict=none) \/
   (T="dict"/\((∃ kvs,H p=some (.dK kvs))\/∃ kvs,H p=some (.dT kvs)))\/(T="set"/\∃ S n,H p=some (.set S n))
 | _=>False
theorem tyV_is {pins:List (Addr×Obj)} {σ:St} {H:Hp} {s:Shared} {T:String} {x:V} {v:Value} (I:Inv X pins σ H s) (r:Zx x v) (ty:tyV X.K T x H) :
  s.TypeIs v T/\∀ a,v=.ref a->∃ ob,s.heap.get? a=some ob/\ob.dict=none:=by
 cases x with
 | str z =>
  obtain ⟨t,rfl⟩:=r
  cases (show T="str" from ty)
  exact ⟨typeIs_str s z t,fun _ e=>nomatch e⟩
 | int i =>
  obtain ⟨t,rfl⟩:=r
  cases (show T="int" from ty)
  exact ⟨typeIs_int s i t,fun _ e=>nomatch e⟩
 | ref p =>
  cases r
  rcases ty with ⟨rfl,xs,hq⟩ | ⟨rfl,o,hk,hc,hd⟩ | ⟨rfl,hk⟩ | ⟨rfl,S,n,hk⟩
  ·obtain ⟨its,_,pl,_⟩:=I.list hq
   refine ⟨pl.isList.typeIs,fun a e=>?_⟩
   cases e
   obtain ⟨o,n,e,c,hd,_⟩:=pl
   exact ⟨o,e,hd⟩
  ·refine ⟨⟨o,I.kIn p o hk,hc⟩,fun a e=>?_⟩
   cases e
   exact ⟨o,I.kIn _ o hk,hd⟩
  ·have z:∃ o,s.heap.get? p=some o/\o.ExactDict:=by
    rcases hk with ⟨kvs,hk⟩ | ⟨kvs,hk⟩
    ·obtain ⟨_,_,_,_,o,_,_,e,ex,_⟩:=I.hok p _ hk
     exact ⟨o,e,ex⟩
    ·obtain ⟨_,_,_,_,o,_,_,e,ex,_⟩:=I.hok p _ hk
     exact ⟨o,e,ex⟩
   obtain ⟨o,e,ex⟩:=z
   refine ⟨⟨o,e,ex.1⟩,fun a e2=>?_⟩
   cases e2
   exact ⟨o,e,ex.2.1⟩
  ·obtain ⟨o,_,_,_,e,ex,_⟩:=I.hok p _ hk
   refine ⟨⟨o,e,ex.1⟩,fun a e2=>?_⟩
   cases e2
   exact ⟨o,e,ex.2.1⟩
 | _=>exact False.elim ty
def tBM0 (K:PySem.W.Frag) (T:String) (r:V->List V->Hp->VK->Prop) (to:TE):TE:=fun σ H Q=>to σ H fun x H1=>tyV K T x H1/\r x [] H1 Q
def tBM (K:PySem.W.Frag) (T:String) (r:V->List V->Hp->VK->Prop) (to:TE) (t:TA):TE:=fun σ H Q=>to σ H fun x H1=>tyV K T x H1/\t σ H1 fun xs H2=>r x xs H2 Q
variable {o e:Expr} {es:List Expr} {to:TE} {t:TA} {name:Str} {apos cpos:Pos} {T id:String} {r:V->List V->Hp->VK->Prop}
theorem pe_bm0 (pa:PlainAttrs T) (slot:Slot T name id) (hty:typeOf (.builtin id)=pure (.type "method_descriptor")) (hm:MtR X id r) (ho:PE X o to)
  (hbase:attributeBase o name X.env (eval o X.env)=eval o X.env:=by rfl) (hline:(apos.endLine == cpos.line)=true:=by rfl):PE X (.Call (.Attribute o name apos) [] [] cpos) (tBM0 X.K T r to):=by
 intro pins s σ H Q I h
 refine wpAny_Call_method0_late hbase hline (thn (ho pins s σ H _ I h) fun v s1 ⟨x,H1,I1,r1,ty,q1⟩=>?_)
 obtain ⟨h1,h2⟩:=tyV_is I1 r1 ty
 exact ⟨T,id,pa,slot,hty,h1,h2,Calls.callWith_builtin rfl (PySem.evalArgs_none (hm pins s1 σ H1 x [] v [] Q I1 r1 .nil q1))⟩
theorem pe_bm (pa:PlainAttrs T) (slot:Slot T name id) (hty:typeOf (.builtin id)=pure (.type "method_descriptor")) (hm:MtR X id r) (ho:PE X o to) (ha:PA X (e::es) t)
  (hbase:attributeBase o name X.env (eval o X.env)=eval o X.env:=by rfl)
  (hfew:((backTo cpos (starEach (e::es) X.env)).all (fun x=>!x.1)&&(backToKw cpos (keywordEach [] X.env)).all (fun x=>x.1.isSome)
   && decide ((e::es).length+([]:List Keyword).length+(if ([]:List Keyword).isEmpty then 0 else 1)<30))=true:=by rfl)
  (hline:(apos.endLine == cpos.line)=true:=by rfl) (hs:starEach (e::es) X.env=(false,eval e X.env)::starEach es X.env:=by rfl) (hplain:(backTo cpos (starEach es X.env)).any (·.1)=false:=by rfl) :
  PE X (.Call (.Attribute o name apos) (e::es) [] cpos) (tBM X.K T r to t):=by
 intro pins s σ H Q I h
 refine wpAny_Call_method_late hbase hfew hline rfl (thn (ho pins s σ H _ I h) fun v s1 ⟨x,H1,I1,r1,ty,q1⟩=>?_)
 obtain ⟨h1,h2⟩:=tyV_is I1 r1 ty
 refine ⟨T,id,pa,slot,hty,h1,h2,?_⟩
 have hA:=ha cpos pins s1 σ H1 _ I1 q1
 rw [hs] at hA ⊢
 refine Calls.callWith_builtin (by show (false||(backTo cpos (starEach es X.env)).any (·.1))=false;rw [hplain] <;> rfl) (Calls.evalArgs_plain ?_)
 exact thn hA fun us s2 ⟨vs,H2,I2,r2,q2⟩=>hm pins s2 σ H2 x vs v us Q I2 r1 r2 q2
end
end L2
namespace L2
open PySem PySem.Spec PyProof.Rows
def MtM (X:Cx) (id:String) (r:V->List V->Hp->VK->Prop):Prop :=
 ∀ (pins:List (Addr×Obj)) (s:Shared) (σ:St) (H:Hp) (x:V) (xs:List V) (v:Value) (us:List Value) (Q:VK),Inv X pins σ H s->Zx x v->zV xs us->r x xs H Q ->
  wpAny (model X.prog X.w) X.A (call (.builtin id) (v::us)) (EP X pins σ Q) X.xe s
theorem zV.one:∀ {x:V} {us:List Value},zV [x] us->∃ u,us=[u]/\Zx x u
 | _,_,.cons r .nil=>⟨_,rfl,r⟩
theorem zV.zero:∀ {us:List Value},zV [] us->us=[]
 | _,.nil=>rfl
theorem zV.dropLast {xs:List V} {us:List Value} (h:zV xs us):zV xs.dropLast us.dropLast:=by
 induction h with
 | nil=>exact .nil
 | cons r t ih =>
  cases t with
  | nil=>exact .nil
  | cons q t'=>exact .cons r ih
theorem zV.eraseIdx:∀ {xs:List V} {us:List Value} (i:Nat),zV xs us->zV (xs.eraseIdx i) (us.eraseIdx i)
 | _,_,_,.nil=>.nil
 | _,_,0,.cons _ t=>t
 | _,_,i+1,.cons r t=>.cons r (zV.eraseIdx i t)
theorem zV.reverse {xs:List V} {us:List Value} (h:zV xs us):zV xs.reverse us.reverse:=by
 induction h with
 | nil=>exact .nil
 | cons r t ih=>rw [PN,PN];exact zV.append ih (.cons r .nil)
theorem zV.rep {xs:List V} {us:List Value} (h:zV xs us):∀ k:Nat,zV (List.replicate k xs).flatten (List.replicate k us).flatten
 | 0=>.nil
 | k+1=>by
  rw [QJ,QJ,QU,QU]
  exact zV.append h (zV.rep h k)
theorem erase_last {α:Type} (l:List α):l.eraseIdx (l.length - 1)=l.dropLast:=by
 induction l with
 | nil=>rfl
 | cons a r ih =>
  cases r with
  | nil=>rfl
  | cons b r =>
   have e:(a::b::r).length - 1=((b::r).length - 1)+1:=by
    have h1:(a::b::r).length=r.length+2:=rfl
    have h2:(b::r).length=r.length+1:=rfl
    omega
   rw [e,List.eraseIdx_cons_succ,ih]
   all_goals rfl
theorem len_erase {α:Type}:∀ (l:List α) (i:Nat),(l.eraseIdx i).length<=l.length
 | [],_=>Ql _
 | _::_,0=>Nat.le_succ _
 | _::r,i+1=>Nat.succ_le_succ (len_erase r i)
theorem Wy (its:List Value):∀ (k:Nat) (acc:List Value),
  List.foldl (fun x1 x2=>x1++x2) acc.toArray (List.replicate k its.toArray)=(acc++(List.replicate k its).flatten).toArray
 | 0,acc=>by simp
 | k+1,acc=>by
  have e:acc.toArray++its.toArray=(acc++its).toArray:=by simp
  have e2:(acc++its)++(List.replicate k its).flatten=acc++(List.replicate (k+1) its).flatten:=by
   rw [QJ,QU,PQ]
  rw [<- e2,<- Wy its k (acc++its),<- e,QJ,PZ]
section
variable {X:Cx} {pins:List (Addr×Obj)} {σ:St} {H:Hp} {s:Shared} {l b:Addr} {xs ys zs:List V}
theorem Inv.lset {its its':List Value} {n:Nat} {f:Array Value->Array Value} {t':Nat} (I:Inv X pins σ H s) (hH:H l=some (.lst xs))
  (e:s.heap.get? l=some { cls:=.type "list",data:=.seq its.toArray n }) (hf:f its.toArray=its'.toArray) (hv:zV ys its') (hz:ys.length<=sizeLine) :
  Inv X pins σ (upd H l (.lst ys)) { s with heap:=s.heap.update l (Obj.mapSeq f),toks:=t' }:=by
 have q:=PySem.IsL.update e f
 rw [hf] at q
 refine I.write (x:=l) (e:=l) (by rw [hH];exact trivial) (.inl rfl) (fun b' u hb hu=>(Ph s.heap (Obj.mapSeq f) (Ne.symm hb)).trans hu) ⟨_,q⟩ ?_
 exact ⟨hz,its',_,hv,q⟩
theorem Inv.lnew {its:List Value} {t':Nat} (I:Inv X pins σ H s) (hv:zV ys its) (hz:ys.length<=sizeLine) :
  Inv X pins σ (upd H s.heap.objs.size (.lst ys)) { s with heap:=s.heap.push { cls:=.type "list",data:=.seq its.toArray },toks:=t' } :=
 I.laid (fun _ _ q=>Qc _ q) (Ql _) ⟨hz,its,0,hv,Qp _ rfl⟩
theorem Inv.fresh (I:Inv X pins σ H s):H s.heap.objs.size=none:=I.hok.fresh (Ql _)
theorem Inv.lstM (I:Inv X pins σ H s) (hH:H l=some (.lst xs)):xs.length<=sizeLine/\∃ (its:List Value) (n:Nat),zV xs its/\xs.length=its.length/\s.heap.get? l=some { cls:=.type "list",data:=.seq its.toArray n }:=by
 obtain ⟨z,its,n,r,e⟩:=I.hok l _ hH
 exact ⟨z,its,n,r,r.length,e⟩
theorem notLongL {n:Nat} (h:n<=sizeLine):Builtin.List.listTooLong n=false:=by
 unfold Builtin.List.listTooLong
 exact decide_eq_false (by omega)
end
section
variable {X:Cx}
def Yx:V->List V->Hp->VK->Prop:=fun x vs H Q=>∃ l xs y,x=.ref l/\vs=[y]/\H l=some (.lst xs)/\xs.length<sizeLine/\Q .non (upd H l (.lst (xs++[y])))
theorem jG:MtM X "list.append" Yx:=by
 intro pins s σ H x vs v us Q I rx rv h
 obtain ⟨l,xs,y,rfl,rfl,hH,hz,q⟩:=h
 cases rx
 obtain ⟨u,rfl,ru⟩:=rv.one
 obtain ⟨z,its,n,r,hl,e⟩:=I.lstM hH
 refine call_meets F.slot_list_append ⟨_,e,rfl⟩ F.entry_list_append (F.args_list_append_2 _ _) (PySem.list_append l its.toArray n u (by rw [Qh];omega)) ⟨e,?_⟩
 refine ⟨.non,_,I.lset (its':=its++[u]) hH e (by simp) (r.append (.cons ru .nil)) ?_,rfl,q⟩
 rw [Qi,Pw]
 omega
def rPop:V->List V->Hp->VK->Prop:=fun x vs H Q=>∃ l xs y,x=.ref l/\vs=[]/\H l=some (.lst xs)/\xs[xs.length - 1]?=some y/\Q y (upd H l (.lst xs.dropLast))
theorem mt_pop:MtM X "list.pop" rPop:=by
 intro pins s σ H x vs v us Q I rx rv h
 obtain ⟨l,xs,y,rfl,rfl,hH,hy,q⟩:=h
 cases rx
 have hus:=rv.zero
 subst hus
 obtain ⟨z,its,n,r,hl,e⟩:=I.lstM hH
 obtain ⟨u,hu,ru⟩:=r.get hy
 have hy':its.toArray[its.toArray.size - 1]?=some u:=by
  show its.toArray[its.length - 1]?=some u
  rw [<- Array.getElem?_toList,<- hl]
  exact hu
 refine call_meets F.slot_list_pop ⟨_,e,rfl⟩ F.entry_list_pop (F.args_list_pop_1 _) (MeetsSeq.list_pop_last l its.toArray n u hy' (by rw [Qh];omega)) ⟨e,?_⟩
 refine ⟨y,_,I.lset (its':=its.dropLast) hH e ?_ r.dropLast ?_,ru,q⟩
 ·show its.toArray.eraseIdxIfInBounds (its.toArray.size - 1)=its.dropLast.toArray
  rw [Qh,List.eraseIdxIfInBounds_toArray,erase_last]
 ·rw [List.length_dropLast]
  omega
def rPopAt:V->List V->Hp->VK->Prop:=fun x vs H Q=>∃ l xs i k y,x=.ref l/\vs=[.int i]/\H l=some (.lst xs)/\-(2 ^ 63)<=i/\i<2 ^ 63/\seqIndex? i xs.length=some k/\xs[k]?=some y/\Q y (upd H l (.lst (xs.eraseIdx k)))
theorem mt_popAt:MtM X "list.pop" rPopAt:=by
 intro pins s σ H x vs v us Q I rx rv h
 obtain ⟨l,xs,i,k,y,rfl,rfl,hH,h1,h2,hk,hy,q⟩:=h
 cases rx
 obtain ⟨u,rfl,ru⟩:=rv.one
 obtain ⟨t,rfl⟩:=ru
 obtain ⟨z,its,n,r,hl,e⟩:=I.lstM hH
 obtain ⟨w,hw,rw'⟩:=r.get hy
 refine call_meets F.slot_list_pop ⟨_,e,rfl⟩ F.entry_list_pop (F.args_list_pop_2 _ _)
  (MeetsSeq.list_pop_at l its.toArray n i t k w (fitsIndex_both h1 h2) (by rw [Qh,<- hl];exact hk) (by rw [<- Array.getElem?_toList];exact hw) (by rw [Qh];omega)) ⟨e,?_⟩
 refine ⟨y,_,I.lset (its':=its.eraseIdx k) hH e ?_ (r.eraseIdx k) ?_,rw',q⟩
 ·show its.toArray.eraseIdxIfInBounds k=(its.eraseIdx k).toArray
  rw [List.eraseIdxIfInBounds_toArray]
 ·have:=len_erase xs k
  omega
def rClear:V->List V->Hp->VK->Prop:=fun x vs H Q=>∃ l xs,x=.ref l/\vs=[]/\H l=some (.lst xs)/\Q .non (upd H l (.lst []))
theorem mt_clear:MtM X "list.clear" rClear:=by
 intro pins s σ H x vs v us Q I rx rv h
 obtain ⟨l,xs,rfl,rfl,hH,q⟩:=h
 cases rx
 have hus:=rv.zero
 subst hus
 obtain ⟨z,its,n,r,hl,e⟩:=I.lstM hH
 refine call_meets F.slot_list_clear ⟨_,e,rfl⟩ F.entry_list_clear (F.args_list_clear_1 _) (AutoSeq1.list_clear_list_0 l its.toArray n (by rw [Qh];omega)) ⟨e,?_⟩
 exact ⟨.non,_,I.lset (its':=[]) (ys:=[]) hH e rfl .nil (Q3 _),rfl,q⟩
def rRep:R2:=fun x y H Q=>∃ l k xs,x=.ref l/\y=.int k/\H l=some (.lst xs)/\-(2 ^ 63)<=k/\k<2 ^ 63/\xs.length*k.toNat<=sizeLine /\
 ∀ p,H p=none->Q (.ref p) (upd H p (.lst (List.replicate k.toNat xs).flatten))
theorem len_rep {α:Type} (xs:List α) (k:Nat):(List.replicate k xs).flatten.length=k*xs.length:=by
 induction k with
 | zero=>simp
 | succ k ih=>rw [QJ,QU,Qi,ih,Nat.succ_mul,Nat.add_comm]
theorem op_rep:OpR X (binaryOp .Mult) rRep:=by
 intro pins s σ H x y v u Q I rx ry h
 obtain ⟨l,k,xs,rfl,rfl,hH,h1,h2,hz,q⟩:=h
 cases rx
 obtain ⟨t,rfl⟩:=ry
 obtain ⟨z,its,n,r,hl,e⟩:=I.lstM hH
 have hlen:its.toArray.size*k.toNat<=sizeLine:=by rw [Qh,<- hl];exact hz
 have hcap:¬ its.toArray.size*k.toNat > (2 ^ 63 - 1) / 8:=by
  have:(sizeLine:Nat)<=(2 ^ 63 - 1) / 8:=by decide
  omega
 have hfit:¬ (!Builtin.List.listFitsIndex k)=true:=by
  rw [fitsIndex_both h1 h2]
  exact Qg
 have hlong:¬ Builtin.List.listTooLong (its.toArray.size*k.toNat)=true:=by
  rw [notLongL hlen]
  exact Qg
 have hnew:List.foldl (fun x1 x2=>x1++x2) #[] (List.replicate (if its.toArray.isEmpty=true then 0 else k.toNat) its.toArray)=(List.replicate k.toNat its).flatten.toArray:=by
  have f0:∀ m:Nat,List.foldl (fun x1 x2=>x1++x2) #[] (List.replicate m its.toArray)=(List.replicate m its).flatten.toArray:=fun m=>by
   have:=Wy its m []
   rw [Pn] at this
   exact this
  rw [f0]
  cases its with
  | nil=>simp
  | cons a r'=>rw [if_neg (by simp)]
 refine wpAny_binaryOp_repeat_ref (T:="list") (U:="int") (by decide) ⟨_,e,rfl⟩ (fun s'=>typeIs_int s' k t) noFill_list_mul F.fills_int_mul F.slot_int_rmul repeat_list F.slot_int_index.lookup
  (call_meets F.slot_int_rmul (typeIs_int s k t) F.entry_int_rmul (F.args_int_rmul_2 _ _) (int___rmul___int_list k t l its.toArray n)
   ⟨e,rfl,⟨_,e,rfl⟩,call_meets F.slot_list_mul ⟨_,e,rfl⟩ F.entry_list_mul (F.args_list_mul_2 _ _) (AutoListH.list___mul___list_int_3 l its.toArray n k t hfit hcap hlong) ⟨e,?_⟩⟩)
 rw [hnew]
 exact ⟨.ref _,_,I.lnew (t':=s.toks) (r.rep k.toNat) (by rw [len_rep,Nat.mul_comm];exact hz),rfl,q _ I.fresh⟩
end
section
variable {prog:Program} {w:World} {A:Around} {E:Value->Shared->Prop} {s:Shared}
end
section
variable {X:Cx}
end
end L2
namespace Att
open PySem PySem.W PySem.Calls PyProof.Rows
theorem ge {P:Params} {h:Heap}:∀ (ns:List Int) (vs:List Value),WellAll P h vs (ns.map WData.int)->IntsAre vs ns:=by
 intro ns
 induction ns with
 | nil =>
  intro vs w
  rw [Ps] at w
  cases w
  exact .nil
 | cons n ns ih =>
  intro vs w
  rw [Qq] at w
  cases w with
  | cons a b =>
   cases a
   exact .cons _ _ (ih _ b)
theorem script_of {l:OpenLaw} {n:Nat} (hn:l.most=some n) {P:Params} {h:Heap} {args:List WData} {vals:List Value}
  (hpre:l.row.toRowW.claim.pre args=true) (hwl:WellAll P h vals args) :
  ∃ a vs ns,vals=[Value.ref a]/\args=[WData.list (ns.map WData.int)]/\h.get? a=some { cls:=.type "list",data:=.seq vs.toArray }/\IntsAre vs ns/\ns.length<=n:=by
 have hsh:WShape.hasAll [] args [.list .int]=true:=(pre_splitW hpre).1
 have hc:l.pre.holds [] { args:=args }=true:=(pre_splitW hpre).2
 obtain ⟨d,r,rfl,h1,h2⟩:=hasAllW_cons hsh
 obtain rfl:=hasAllW_nil h2
 obtain ⟨xs,rfl,h3⟩:=hasW_list h1
 obtain ⟨ns,rfl⟩:=items_int h3
 have hlen:ns.length<=n:=by
  unfold OpenLaw.pre at hc
  have h4:(WTm.not (.lt (.lit (.int (n:Int))) (.len (.arg 0)))).holds [] { args:=[.list (ns.map .int)] }=true:=by
   have h4:=(holds_andW hc).1
   rw [hn] at h4
   exact h4
  have h5:=condW_of h4 (w_not (w_lt w_lit (w_len_list (w_arg rfl))))
  rw [Qj] at h5
  refine Nat.le_of_not_lt fun q=>?_
  have q':(n:Int)<((ns.length:Nat):Int):=by omega
  first
   | (rw [decide_eq_true q'] at h5;exact absurd h5 (by decide))
   | (simp at h5;omega)
 cases hwl with
 | cons w1 w2 =>
  cases w2
  cases w1 with
  | list ho hall=>exact ⟨_,_,ns,rfl,rfl,ho,ge ns _ hall,hlen⟩
theorem post_true (l:OpenLaw) (args:List WData):l.row.toRowW.claim.post args (.bool true) args=true :=
 postW_of (r:=l.row.toRowW) (X:=(true == true))
  (show WShape.has [] (.bool true) .bool=true by first | rfl | decide | simp [WShape.has,WShape.arms,WShape.armsAll])
  (show (WTm.eq .res (.lit (.bool true))).value [] { args:=args,res:=some (.bool true),after:=args }=some (.bool (true == true)) from w_eq_bool (w_res rfl) w_lit) rfl
theorem attach_call {l:OpenLaw} {n:Nat} {q:Program} {loose:List Str} {XP:(Str->Option Value)->Heap->Prop} {YP:World->Heap->Prop} {d:DefRec}
  (hn:l.most=some n) (hdf:d.params.defaults=[])
  (call:∀ (w:World) (s₀ s₁:Shared) (mg mb:Str->Option Value) (fa:Addr) (o:Obj) (pm cd doc:Value) (a:Addr) (vs:List Value) (ns:List Int),
   Ground q loose [] XP w s₀ mg mb s₁.heap->YP w s₁.heap ->
   s₁.heap.get? fa=some o->o.data=.func (docDef d.name d.params d.body d.scope pm cd doc)->s₁.heap.CodeRec cd d.name->mg d.name=some (.ref fa) ->
   s₁.heap.get? a=some { cls:=.type "list",data:=.seq vs.toArray }->IntsAre vs ns->ns.length<=n->s₁.gens=#[] ->
   codeAny (model l.prog w) callerA (.call (.ref fa) ⟨[.ref a],[]⟩) (fun r s'=>r=.ok (.ret (.bool true))/\OldK s₁.heap s'.heap/\s'.os=s₁.os/\AllBare s'.gens) s₁) :
  WalkO q loose XP YP l.row.toRowW d [] (fun f vs=>PySem.call f vs):=by
 intro w s₀ s₁ mg mb G Y fa o pm cd doc dV kV ho hd hcd hD hmg hg args vals as hpre hlay hrd hwl hlo
 obtain rfl:dV=.none:=Dflts.none hD hdf
 obtain rfl:kV=.none:=Dflts.noKw hD
 obtain ⟨a,vs,ns,rfl,rfl,hobj,hints,hlen⟩:=script_of hn hpre hwl
 refine enter_call (codeAny_mono (call w s₀ s₁ mg mb fa o pm cd doc a vs ns G Y ho (fd_plain hd) hcd hmg hobj hints hlen hg) fun r s' hq=>?_)
 obtain ⟨rfl,h2,h3,h4⟩:=hq
 exact ⟨.inl ⟨.bool true,.bool true,[],rfl,fun _=>rfl,.bool true,post_true l _,fun _=>⟨List.Pairwise.nil,fun _ hm=>(nomatch hm)⟩⟩,h2,h3,h4⟩
section
variable {prog:Program} {w:World} {A:Around} {E:Value->Shared->Prop} {s:Shared} {K:Frag}
end
end Att
namespace L2
open PySem PySem.Spec PyProof.Rows
theorem vals_ints:∀ {vs:List Value} {ns:List Int},IntsAre vs ns->zV (ns.map V.int) vs
 | _,_,.nil=>.nil
 | _,_,.cons n t h=>.cons ⟨t,rfl⟩ (vals_ints h)
def Only (H:Hp):Prop:=∀ b,H b=none\/∃ o xs,H b=some (.frz o (.lst xs))
theorem law_call {P:Program} {w:World} {K:PySem.W.Frag} {mg mb:Str->Option Value} {CX:CXT} {k:Nat} {fa a:Addr} {fd:FuncData} {x:Str} {sp:Sp} {s₁:Shared} {vs:List Value} {ns:List Int}
  (KX:K.In s₁.heap) (hns:s₁.heap.Ns mainGlobals mg) (hb:s₁.heap.Ns builtinsNs mb) (hbb:∀ x:Str,x≠"__name__"->mb x=bootBuiltins x) (hlim:s₁.heap.NoLimit) (hseer:s₁.heap.NoSeer) (htree:P.given.tree=none) (hg:s₁.gens=#[])
  (ha:s₁.heap.get? a=some { cls:=.type "list",data:=.seq vs.toArray }) (hi:IntsAre vs ns) (hl:ns.length<=sizeLine) (hr:Room k callerA)
  (F:∀ base:Heap,K.In base->base.Ns mainGlobals mg->FnOk P w K mg base CX k fa fd [x] sp) (hbind:∀ (s:Shared) (u:Value),BindsTo s fd ⟨[u],[]⟩ [(x,u)])
  (hsp:∀ H:Hp,Only H->SqL K H a (ns.map V.int)->sp [.ref a] H (fun v _=>v=.bl true) fun _ _ _=>False)
  (hCX:∀ H e s',CX [] H s₁ (fun _ _ _=>False) e s'->False) :
  codeAny (model P w) callerA (.call (.ref fa) ⟨[.ref a],[]⟩) (fun r s'=>r=.ok (.ret (.bool true))/\OldK s₁.heap s'.heap/\s'.os=s₁.os/\AllBare s'.gens) s₁:=by
 have rv:=vals_ints hi
 have lenV:=hi.length
 have core:∀ H:Hp,Only H->SqL K H a (ns.map V.int)->HOk P w H s₁.heap->(∀ b,H b≠none->b=a)->(H a≠none->K.lookup a=none) ->
   codeAny (model P w) callerA (.call (.ref fa) ⟨[.ref a],[]⟩) (fun r s'=>r=.ok (.ret (.bool true))/\OldK s₁.heap s'.heap/\s'.os=s₁.os/\AllBare s'.gens) s₁:=by
  intro H hO hS hok hA hK
  have base_of:∀ {b:Addr} {o:Obj},s₁.heap.get? b=some o->H b=none->(hidT s₁.heap H).get? b=some o:=fun e n=>hidT_get e n
  have noA:∀ {b:Addr} {o:Obj} {es:Array DictEntry} {ep:Nat},s₁.heap.get? b=some o->o.data=.dict es ep->H b=none:=fun {b o es ep} e d=>by
   cases q:H b with
   | none=>rfl
   | some u =>
    have e':b=a:=hA b (by rw [q];simp)
    subst e'
    rw [ha] at e;cases e
    have d':Data.seq vs.toArray _=Data.dict es ep:=d
    cases d'
  have nsK:∀ {b:Addr} {m:Str->Option Value},s₁.heap.Ns b m->(hidT s₁.heap H).Ns b m:=fun {b m} ⟨o,es,ep,e,d,r⟩=>⟨o,es,ep,base_of e (noA e d),d,r⟩
  have hKb:K.In (hidT s₁.heap H):=fun b o e=>base_of (KX b o e) (by
   cases q:H b with
   | none=>rfl
   | some u =>
    have e':b=a:=hA b (by rw [q];simp)
    subst e'
    rw [hK (by rw [q];simp)] at e;cases e)
  have hM:Mod K mg (hidT s₁.heap H):=⟨hKb,nsK hns,⟨mb,nsK hb,hbb⟩,let ⟨mc,h1,h2⟩:=hlim;⟨mc,nsK h1,h2⟩,(by
   obtain ⟨⟨mc,x1,x2⟩,⟨mm,x3,x4⟩,⟨mb',x5,x6⟩,⟨mg',bm,ob,x7,x8,x9,x10,x11⟩⟩:=hseer
   refine ⟨⟨mc,nsK x1,x2⟩,⟨mm,nsK x3,x4⟩,⟨mb',nsK x5,x6⟩,⟨mg',bm,ob,nsK x7,x8,base_of x9 ?_,x10,x11⟩⟩
   cases q:H bm with
   | none=>rfl
   | some u =>
    have e':bm=a:=hA bm (by rw [q];simp)
    subst e'
    rw [ha] at x9;cases x9
    simp at x10)⟩
  have e0:Env0 P w K mg (hidT s₁.heap H) callerA [] s₁ H:=⟨rfl,hM,fun b o e=>of_hidT e,Nat.le_of_eq (hidT_size _ _),trivial,fun b hb=>absurd (show b∈([]:List Addr) from hb) (by simp),hok,.of_eq hg,htree⟩
  refine codeAny_mono ((F _ hKb (nsK hns)).run callerA [] s₁ H ⟨[.ref a],[]⟩ [.ref a] [.ref a] _ _ hr e0 (hbind s₁ (.ref a)) (.cons rfl .nil) (hsp H hO hS)) fun r s' h=>?_
  cases r with
  | error e=>exact (hCX H e s' h).elim
  | ok fl =>
   cases fl with
   | next=>exact False.elim h
   | brk=>exact False.elim h
   | cont=>exact False.elim h
   | ret u =>
    obtain ⟨v,H',os,bare,un,hok',r',q⟩:=h
    have q':v=.bl true:=q
    subst q'
    obtain rfl:u=Value.bool true:=r'
    refine ⟨rfl,OldK.of_keep fun b o e=>?_,os,bare⟩
    cases q:H b with
    | none=>exact un.keep b o e q (by intro z;exact absurd (show b∈([]:List Addr) from z) (by simp)) (by simp)
    | some u =>
     rcases hO b with z | ⟨ob,xs,z⟩
     ·rw [q] at z;cases z
     ·have z2:=un.frzs b ob _ z
      obtain ⟨e1,_⟩:=hok b _ z
      obtain ⟨e2,_⟩:=hok' b _ z2
      rw [e] at e1;cases e1
      exact e2
 cases hk:K.lookup a with
 | some o =>
  have e:=KX a o hk
  rw [ha] at e
  cases e
  refine core (fun _=>none) (fun _=>.inl rfl) (.inr ⟨_,vs.toArray,_,hk,rfl,rfl,rfl,by rw [Qh,lenV];exact hl,by simpa using rv⟩) (fun b u z=>by have z':(none:Option HO)=some u:=z;cases z') (fun b z=>absurd rfl z) fun z=>absurd rfl z
 | none =>
  refine core (fun b=>if b=a then some (.frz { cls:=.type "list",data:=.seq vs.toArray } (.lst (ns.map V.int))) else none) (fun b=>?_) (.inl (.inr ⟨{ cls:=.type "list",data:=.seq vs.toArray },if_pos rfl⟩)) (fun b u z=>?_) (fun b z=>?_) fun _=>hk
  ·by_cases hb:b=a
   ·exact .inr ⟨_,_,if_pos hb⟩
   ·exact .inl (if_neg hb)
  ·by_cases hb:b=a
   ·have z':=(if_pos hb).symm.trans z
    cases z'
    subst hb
    exact ⟨ha,by rw [Qj];exact hl,vs,_,rv,ha⟩
   ·have z':=(if_neg hb).symm.trans z
    cases z'
  ·by_cases hb:b=a
   ·exact hb
   ·exact absurd (if_neg hb) z
end L2
namespace L2
open PySem PySem.Spec PyProof.Rows
theorem walk_of {l:PySem.W.OpenLaw} {n k:Nat} {q:Program} {loose:List Str} {XP:(Str->Option Value)->Heap->Prop} {YP:World->Heap->Prop} {d:DefRec} {K:Params->PySem.W.Frag} {CX:World->CXT} {sp:World->Sp} {x:Str}
  (hn:l.most=some n) (hn2:n<=sizeLine) (hdf:d.params.defaults=[]) (hr:Room k callerA) (himp:importsNone q=true) (htree:l.prog.given.tree=none)
  (hY:∀ (w:World) (h:Heap),YP w h->(K w.params).In h)
  (F:∀ (w:World) (mg:Str->Option Value) (fa:Addr) (h:Heap),(K w.params).In h->h.Ns mainGlobals mg->mg d.name=some (.ref fa) ->
   ∃ fd:FuncData,(∀ (s:Shared) (u:Value),BindsTo s fd ⟨[u],[]⟩ [(x,u)]) /\
    ∀ base:Heap,(K w.params).In base->base.Ns mainGlobals mg->FnOk l.prog w (K w.params) mg base (CX w) k fa fd [x] (sp w))
  (hsp:∀ (w:World) (H:Hp) (a:Addr) (ns:List Int),ns.length<=n->Only H->SqL (K w.params) H a (ns.map V.int)->sp w [.ref a] H (fun v _=>v=.bl true) fun _ _ _=>False)
  (hCX:∀ (w:World) (H:Hp) (s:Shared) (e:Value) (s':Shared),CX w [] H s (fun _ _ _=>False) e s'->False) :
  PySem.W.WalkO q loose XP YP l.row.toRowW d [] (fun f vs=>PySem.call f vs):=by
 refine Att.attach_call hn hdf fun w s₀ s₁ mg mb fa o pm cd doc a vs ns G Y ho hd hcd hmg hobj hints hlen hg=>?_
 have KX:=hY w _ Y
 obtain ⟨fd,hb,hF⟩:=F w mg fa _ KX G.T.g hmg
 exact law_call KX G.T.g G.T.b G.T.builtins G.T.nolimit (G.T.seer himp) htree hg hobj hints (Qw hlen hn2) hr hF hb (fun H hO hS=>hsp w H a ns hlen hO hS) fun H e s'=>hCX w H s₁ e s'
end L2
namespace L2
open PySem PySem.Spec PyProof.Rows
def zU (s:Stmt):Arguments:=match s with
 | .FunctionDef _ a _ _ _ _ _ _ _ _=>a
 | _=>{ posonlyargs:=[],args:=[],vararg:=none,kwonlyargs:=[],kw_defaults:=[],kwarg:=none,defaults:=[] }
def zM (s:Stmt):List Stmt:=match s with
 | .FunctionDef _ _ b _ _ _ _ _ _ _=>b
 | _=>[]
def zk (s:Stmt):Scope:=match s with
 | .FunctionDef _ _ _ _ _ _ sc _ _ _=>sc
 | _=>{ kind:=.function,names:=[],isGenerator:=false,isCoroutine:=false }
abbrev CX0:CXT:=fun _ _ _ _ _ _=>False
abbrev E0:XK:=fun _ _ _=>False
theorem Gp {X:Cx}:wC CX0 X E0:=fun _ _ _ _ _ _ _ h=>h.elim
structure Fun (K:PySem.W.Frag) (x qual:Str) (st:Stmt) (f:Addr) (fd:FuncData):Prop where
 ex:∃ (oc:Value) (od:Option Addr) (kV doc pm:Value) (an:Option Addr) (cdv ct:Value) (osl:Array (Option Value)),
  fd=fnOf x qual (zU st) (zM st) (zk st) .none kV doc pm an cdv ct/\K.lookup f=some ⟨oc,od,.func fd,osl⟩/\codeIn K cdv qual=true
 kp:keepIn K (.ref f)=true
section
variable {P:Program} {w:World} {K:PySem.W.Frag} {mg:Str->Option Value} {base:Heap}
theorem Fun.ok {x qual:Str} {st:Stmt} {f:Addr} {fd:FuncData} {N ps:List Str} {k:Nat} {sp:Sp} (F:Fun K x qual st f fd) (S:FnScope N ps (zk st)) (len:∀ vs H Q E,sp vs H Q E->vs.length=ps.length)
  (hbody:∀ (cdv:Value) (A:Around) (outer:List Env) (s:Shared) (H:Hp) (vs:List V) (Q:VK) (E:XK),Room k (A.deeper (envOfC qual (zk st) s.heap.objs.size f cdv))->sp vs H Q E ->
   ∃ t,PSs (cxOf CX0 P w K mg base N qual (zk st) f cdv A outer s H E).nox (zM st) t/\t { nx:=fun _ H'=>Q .non H',rt:=Q } (yH N vs) H):FnOk P w K mg base CX0 (k+1) f fd ps sp:=by
 obtain ⟨oc,od,kV,doc,pm,an,cdv,ct,osl,rfl,lk,hcd⟩:=F.ex
 refine fn_of lk hcd S len fun A outer s H vs Q E hr hsp=>?_
 obtain ⟨t,h,q⟩:=hbody cdv A outer s H vs Q E hr hsp
 exact ⟨t,h.nox,q⟩
theorem Fun.binds {x qual:Str} {st:Stmt} {f:Addr} {fd:FuncData} {ps:List Str} (F:Fun K x qual st f fd)
  (h:∀ (kV doc pm:Value) (an:Option Addr) (cdv ct:Value) (us:List Value),us.length=ps.length->bindArgs (fnOf x qual (zU st) (zM st) (zk st) .none kV doc pm an cdv ct) ⟨us,[]⟩=pure (ps.zip us)):Zk K fd ps []:=by
 obtain ⟨oc,od,kV,doc,pm,an,cdv,ct,osl,rfl,lk,hcd⟩:=F.ex
 exact .all (h kV doc pm an cdv ct)
theorem zF {x qual:Str} {st:Stmt} {f:Addr} {oc:Value} {od an:Option Addr} {osl:Array (Option Value)} {kV doc pm cdv ct:Value} (l:K.lookup f=some ⟨oc,od,.func (fnOf x qual (zU st) (zM st) (zk st) .none kV doc pm an cdv ct),osl⟩)
  (c:codeIn K cdv qual=true) (k:keepIn K (.ref f)=true):Fun K x qual st f (fnOf x qual (zU st) (zM st) (zk st) .none kV doc pm an cdv ct):=⟨⟨oc,od,kV,doc,pm,an,cdv,ct,osl,rfl,l,c⟩,k⟩
end
theorem hu_of {A:Around} {k:Nat} (hr:Room k A):A.units+1<cLine:=Q7 (Nat.add_le_add_left (by decide:1<=64) _) hr.units
section
variable {X:Cx}
theorem pv (i:Nat) {x:Str} {pos:Pos} (hN:X.N[i]?=some x:=by rfl) (hv:Vis X.env.scope x:=by first | exact Or.inl rfl | exact Or.inr (Or.inl rfl) | exact Or.inr (Or.inr rfl)) (hd:(x == ("__debug__":Str))=false:=by decide)
  (hcd:(x == ("__classdict__":Str))=false:=by decide):PE X (.Name x pos) (ZB i):=pe_var hN hv hd hcd
end
def zX (H H':Hp):Prop:=∀ b o,H b=some o->H' b=some o
theorem zX.refl (H:Hp):zX H H:=fun _ _ h=>h
theorem zX.trans {H H1 H2:Hp} (a:zX H H1) (b:zX H1 H2):zX H H2:=fun c o h=>b c o (a c o h)
theorem zX.free {H H':Hp} (e:zX H H') {l:Addr} (h:H' l=Option.none):H l=Option.none:=by
 cases q:H l with
 | none=>rfl
 | some o =>
  rw [e l o q] at h
  cases h
theorem zX.seq {K:PySem.W.Frag} {H H':Hp} {a:Addr} {xs:List V} (e:zX H H') (h:SqL K H a xs):SqL K H' a xs:=by
 rcases h with (h | ⟨o,h⟩) | h
 ·exact .inl (.inl (e _ _ h))
 ·exact .inl (.inr ⟨o,e _ _ h⟩)
 ·exact .inr h
end L2
set_option maxHeartbeats 4000000
namespace L2
open PySem PySem.Spec PyProof.Rows
def Y7 (env:Env):List (Str×NameKind)->List (Str×Addr)->List (Str×Addr)
 | [],acc=>acc
 | (n,k)::r,acc=>if k == .free then (match env.cells.lookup n with | some a=>Y7 env r ((n,a)::acc) | none=>Y7 env r acc) else Y7 env r acc
theorem closure_of {env:Env} {scope:Scope} (h:∀ x∈scope.names,x.2=.free->∃ c,env.cells.lookup x.1=some c):closureFor scope env=pure (Y7 env scope.names []):=by
 suffices ∀ (names:List (Str×NameKind)) (acc:List (Str×Addr)),(∀ x∈names,x.2=.free->∃ c,env.cells.lookup x.1=some c) ->
   (forIn names acc fun (x:Str×NameKind) cs=>(do
    if x.2 == .free then
     let a <- cellOf env x.1
     pure (ForInStep.yield ((x.1,a)::cs))
    else pure (ForInStep.yield cs):Sem (ForInStep (List (Str×Addr)))))=pure (Y7 env names acc) by
  have q:=this scope.names [] h
  unfold closureFor
  refine Eq.trans (bind_pure _) ?_
  rw [<- q]
 intro names
 induction names with
 | nil=>intro acc _;rfl
 | cons x r ih =>
  intro acc h
  obtain ⟨n,k⟩:=x
  rw [PK]
  cases hk:k == NameKind.free with
  | false =>
   simp only [hk,Pi,if_false,pure_bind]
   rw [ih acc fun y hy=>h y (Qd _ hy)]
   simp [Y7,hk]
  | true =>
   obtain ⟨c,hc⟩:=h (n,k) Qt (by simpa using hk)
   have hc':env.cells.lookup n=some c:=hc
   have e1:cellOf env n=pure c:=by unfold cellOf;rw [hc']
   simp only [hk,if_true,e1,pure_bind]
   rw [ih _ fun y hy=>h y (Qd _ hy)]
   simp [Y7,hk,hc']
theorem jN {env:Env}:∀ (names:List (Str×NameKind)) (acc:List (Str×Addr)) (n:Str) (c:Addr),(n,c)∈Y7 env names acc->(n,c)∈acc\/(∃ k,(n,k)∈names/\k=.free/\env.cells.lookup n=some c)
 | [],_,_,_,h=>.inl h
 | (m,k)::r,acc,n,c,h=>by
  unfold Y7 at h
  cases hk:k == NameKind.free with
  | false =>
   rw [hk] at h
   rcases jN r acc n c (by simpa using h) with q | ⟨k',q1,q2⟩
   ·exact .inl q
   ·exact .inr ⟨k',Qd _ q1,q2⟩
  | true =>
   rw [hk] at h
   have hk':k=.free:=by simpa using hk
   cases hc:env.cells.lookup m with
   | none =>
    rw [hc] at h
    rcases jN r acc n c (by simpa using h) with q | ⟨k',q1,q2⟩
    ·exact .inl q
    ·exact .inr ⟨k',Qd _ q1,q2⟩
   | some a =>
    rw [hc] at h
    rcases jN r _ n c (by simpa using h) with q | ⟨k',q1,q2⟩
    ·rcases Qb.mp q with e | q
     ·cases e;exact .inr ⟨k,Qt,hk',hc⟩
     ·exact .inl q
    ·exact .inr ⟨k',Qd _ q1,q2⟩
theorem JM {env:Env}:∀ (names:List (Str×NameKind)) (acc:List (Str×Addr)) (n:Str),((n,NameKind.free)∈names/\(∃ c,env.cells.lookup n=some c))\/(acc.lookup n).isSome=true->((Y7 env names acc).lookup n).isSome=true
 | [],_,_,h=>h.elim (fun ⟨q,_⟩=>nomatch q) id
 | (m,k)::r,acc,n,h=>by
  unfold Y7
  cases hk:k == NameKind.free with
  | false =>
   refine (JM r acc n ?_)
   rcases h with ⟨q,c⟩ | h
   ·rcases Qb.mp q with e | q
    ·cases e;simp at hk
    ·exact .inl ⟨q,c⟩
   ·exact .inr h
  | true =>
   have hk':k=.free:=by simpa using hk
   subst hk'
   simp only [if_true]
   cases hc:env.cells.lookup m with
   | none =>
    refine (JM r acc n ?_)
    rcases h with ⟨q,c,hc2⟩ | h
    ·rcases Qb.mp q with e | q
     ·cases e;rw [hc] at hc2;cases hc2
     ·exact .inl ⟨q,c,hc2⟩
    ·exact .inr h
   | some a =>
    refine (JM r _ n ?_)
    by_cases e:n=m
    ·exact .inr (by simp [QM,e])
    ·have e':(n == m)=false:=by simpa using e
     rcases h with ⟨q,c⟩ | h
     ·rcases Qb.mp q with e2 | q
      ·cases e2;exact absurd rfl e
      ·exact .inl ⟨q,c⟩
     ·exact .inr (by simpa [QM,e'] using h)
theorem clOf_free {env:Env} {n:Str} {names:List (Str×NameKind)} (h:((n,NameKind.free)∈names)) {c:Addr} (hc:env.cells.lookup n=some c):(Y7 env names []).lookup n=some c:=by
 have q:=JM names [] n (.inl ⟨h,c,hc⟩)
 obtain ⟨c',e⟩:=QY.mp q
 rcases jN names [] n c' (mem_of_lookup e) with z | ⟨_,_,_,z⟩
 ·cases z
 ·rw [hc] at z;cases z;exact e
theorem newEnv_comp {M:Model} {A:Around} {E:Value->Shared->Prop} {s:Shared} {scope:Scope} {globals:Addr} {cl:List (Str×Addr)} {qual:Str} {env:Env} {Q:Env->Shared->Prop}
  (hQ:∀ h',(∀ b o,s.heap.get? b=some o->h'.get? b=some o)->h'.Ns s.heap.objs.size (fun _=>none) ->
   (∀ n c,(n,c)∈cellsFrom (s.heap.objs.size+1) scope.names cl->(n,c)∈cl\/((n,c)∈cellsFrom (s.heap.objs.size+1) scope.names []/\s.heap.objs.size<c/\h'.IsCell c none)) ->
   ((cellsFrom (s.heap.objs.size+1) scope.names []).Pairwise fun x y=>x.2≠y.2) ->
   Q (newEnv scope s.heap.objs.size globals (cellsFrom (s.heap.objs.size+1) scope.names cl) qual none .none (some env) builtinsNs) { s with heap:=h' }) :
  wpAny M A (newFunctionEnv scope globals cl [] qual none .none (some env)) Q E s:=by
 unfold newFunctionEnv
 simp only [Option.isSome_some,if_true]
 refine Qa (wpAny_alloc ?_)
 refine Qa (wpAny_layCells _ (fun name kind cells=>by cases hkc:kind == NameKind.cell <;> simp [hkc]) _ _ _ _ ?_)
 have ok:=cellsFrom_ok scope.names (s.heap.push { cls:=.type "dict",data:=.dict #[] }) (s.heap.objs.size+1) [] ⟨fun _ _ hm=>(nomatch hm),List.Pairwise.nil⟩ (by rw [QH];exact Ql _)
 rw [QH] at ok
 rw [show ({ s with heap:=s.heap.push { cls:=.type "dict",data:=.dict #[] } }:Shared).heap.objs.size=s.heap.objs.size+1 from QH ..]
 simp only [PM,pure_bind]
 refine Qf (hQ _ (fun b o e=>pushCells_keeps _ _ b o (Qc _ e)) ((Heap.Ns.new s.heap (.type "dict")).keeps (pushCells_keeps _ _)) ?_ ok.apart)
 have app:∀ (names:List (Str×NameKind)) (n:Nat) (acc:List (Str×Addr)) (x:Str×Addr),x∈cellsFrom n names (acc++cl)->x∈cl\/x∈cellsFrom n names acc:=by
  intro names
  induction names with
  | nil=>intro n acc x h;exact (QI.mp h).symm
  | cons y r ih =>
   intro n acc x h
   obtain ⟨m,k⟩:=y
   unfold cellsFrom at h ⊢
   split at h
   ·rename_i hk;rw [if_pos hk];exact ih (n+1) ((m,n)::acc) x h
   ·rename_i hk;rw [if_neg hk];exact ih n acc x h
 intro n c hm
 rcases app scope.names _ [] (n,c) hm with q | q
 ·exact .inl q
 ·obtain ⟨z1,z2⟩:=ok.empty n c q
  exact .inr ⟨q,z2,z1⟩
theorem JL {prog:Program} {w:World} {A:Around} {R:Result->Shared->Prop} {s:Shared} {elt target iter:Expr} {ifs:List Expr} {scope:Scope} {pos:Pos} {it acc:Value} {env:Env} (I:Nat->Shared->Prop)
  (turn:∀ n s,I n s->wpAny (model prog w) A (pyNext it) (fun r s₁=>match r with
   | none=>R (.ok .next) s₁
   | some v=>wpAny (model prog w) A (letOwnedTupleGo target it v) (fun _ s₁'=>wpAny (model prog w) A (assign target env v) (fun _ s₂ =>
     wpAny (model prog w) A (forIn ifs true fun c r=>if r=true then do let ok <- isTrue c env (eval c env);pure (ForInStep.yield ok) else pure (ForInStep.yield r)) (fun ok s₃ =>
      if ok=true then wpAny (model prog w) A (eval elt env) (fun x s₄ =>
       wpAny (model prog w) A (call (.builtin "list.append") [acc,x]) (fun _ s₅=>∃ m,m<n/\I m s₅) (fun _ _=>False) s₄) (fun _ _=>False) s₃
      else ∃ m,m<n/\I m s₃) (fun _ _=>False) s₂) (fun _ _=>False) s₁') (fun _ _=>False) s₁) (fun _ _=>False) s)
  (n:Nat) (h:I n s) :
  codeAny (model prog w) A (.compLoop (.ListComp elt [⟨target,iter,ifs,0⟩] scope pos) 0 it acc env) R s:=by
 refine codeAny_loop rfl I (fun n s hI=>?_) n h
 show wpAny _ A ((compTurn (.ListComp elt [⟨target,iter,ifs,0⟩] scope pos) 0 it acc env).onRaise (fun x=>do noteFrame x env;theTreesLotGoes x)) _ _ s
 refine wpAny_noted ?_
 rw [compTurn_list]
 refine Qa (wpAny_standAt (Qa (Q1 (turn n s hI) (fun r s₁ h₁=>?_) fun _ _ h'=>h'.elim)))
 cases r with
 | none=>exact Qf h₁
 | some v =>
  refine Qa (Q1 h₁ (fun _ s₁' h₁'=>?_) fun _ _ h'=>h'.elim)
  refine Qa (Q1 h₁' (fun _ s₂ h₂=>Qa (Q1 h₂ (fun ok s₃ h₃=>?_) fun _ _ h'=>h'.elim)) fun _ _ h'=>h'.elim)
  cases ok with
  | false=>exact Qf ⟨rfl,h₃⟩
  | true =>
   exact Qa (Qa (Q1 h₃ (fun x s₄ h₄=>Qa (Q1 h₄ (fun _ s₅ h₅=>Qf (Qf ⟨rfl,h₅⟩)) fun _ _ h'=>h'.elim)) fun _ _ h'=>h'.elim))
end L2
namespace L2
open PySem PySem.Spec PyProof.Rows
theorem Yf {env:Env} {x:Str} {k:NameKind}:∀ {names:List (Str×NameKind)},
  (names.map fun (n,k)=>if (k == NameKind.free&&env.scope.kind == .function&&env.kindOf n == some .cell) then (n,NameKind.cell) else (n,k)).lookup x=some k ->
  ∃ k',names.lookup x=some k'/\(k=k'\/(k'=.free/\k=.cell))
 | [],h=>by simp at h
 | (n,k')::r,h=>by
  have ih:=@Yf env x k r
  rw [Qq] at h
  by_cases hc:(k' == NameKind.free&&env.scope.kind == .function&&env.kindOf n == some .cell)=true
  ·simp only [hc,if_true] at h
   have hf:k'=.free:=by
    simp only [QO,beq_iff_eq] at hc
    exact hc.1.1
   cases hx:x == n with
   | true=>simp only [QM,hx] at h ⊢;cases h;exact ⟨k',rfl,.inr ⟨hf,rfl⟩⟩
   | false=>simp only [QM,hx] at h ⊢;exact ih h
  ·have hc':(k' == NameKind.free&&env.scope.kind == .function&&env.kindOf n == some .cell)=false:=by simpa using hc
   simp only [hc',Pi,if_false] at h
   cases hx:x == n with
   | true=>simp only [QM,hx] at h ⊢;cases h;exact ⟨k,rfl,.inl rfl⟩
   | false=>simp only [QM,hx] at h ⊢;exact ih h
theorem Jv {env:Env} {x:Str} {k':NameKind}:∀ {names:List (Str×NameKind)},names.lookup x=some k' ->
  ∃ k,(names.map fun (n,k)=>if (k == NameKind.free&&env.scope.kind == .function&&env.kindOf n == some .cell) then (n,NameKind.cell) else (n,k)).lookup x=some k/\(k=k'\/(k'=.free/\k=.cell))
 | [],h=>by simp at h
 | (n,k1)::r,h=>by
  have ih:=@Jv env x k' r
  rw [Qq]
  by_cases hc:(k1 == NameKind.free&&env.scope.kind == .function&&env.kindOf n == some .cell)=true
  ·simp only [hc,if_true]
   have hf:k1=.free:=by
    simp only [QO,beq_iff_eq] at hc
    exact hc.1.1
   cases hx:x == n with
   | true=>simp only [QM,hx] at h ⊢;cases h;exact ⟨_,rfl,.inr ⟨hf,rfl⟩⟩
   | false=>simp only [QM,hx] at h ⊢;exact ih h
  ·have hc':(k1 == NameKind.free&&env.scope.kind == .function&&env.kindOf n == some .cell)=false:=by simpa using hc
   simp only [hc',Pi,if_false]
   cases hx:x == n with
   | true=>simp only [QM,hx] at h ⊢;cases h;exact ⟨_,rfl,.inl rfl⟩
   | false=>simp only [QM,hx] at h ⊢;exact ih h
theorem Y8 {x:Str}:∀ (names:List (Str×NameKind)) (n:Nat) (acc:List (Str×Addr)),(∀ y∈names,y.2=.cell->y.1≠x)->(cellsFrom n names acc).lookup x=acc.lookup x
 | [],_,_,_=>rfl
 | (m,k)::r,n,acc,h=>by
  unfold cellsFrom
  split
  ·rename_i hk
   rw [Y8 r _ _ fun y hy=>h y (Qd _ hy)]
   have:x≠m:=fun e=>h (m,k) Qt (by simpa using hk) e.symm
   have e':(x == m)=false:=by simpa using this
   rw [QM,e']
  ·exact Y8 r _ _ fun y hy=>h y (Qd _ hy)
def ZC (X:Cx) (scope:Scope) (own N':List Str) (s₂:Shared) (H₂:Hp) (fp:List Addr) (C:Addr):Cx where
 prog:=X.prog
 w:=X.w
 K:=X.K
 mg:=X.mg
 base:=X.base
 A:=X.A
 N:=N'
 s₀:=s₂
 Ud:=H₂
 env:=compEnvC scope (cellsFrom (C+1) scope.names (Y7 X.env scope.names [])) C X.env
 outer:=X.stack
 stack:=X.stack
 ex:=fp
 fn:=fun x=>own.contains x
 calm:=X.calm
 pn:=[]
 xe:=fun _ _=>False
structure CompOk (X:Cx) (scope:Scope) (own N':List Str) (k:Nat):Prop where
 kind:scope.kind=.function
 loc:∀ y∈scope.names,y.2=.local->scope.names.lookup y.1=some .local
 cel:∀ y∈scope.names,y.2=.cell->scope.names.lookup y.1=some .cell
 free:∀ y∈scope.names,y.2=.free->X.env.scope.names.lookup y.1=some .cell\/X.env.scope.names.lookup y.1=some .free
 own:∀ y∈scope.names,y.2=.free->own.contains y.1=false
 len:N'.length=X.N.length+k
 nm:∀ (i:Nat) (x:Str),i<X.N.length->N'[i]?=some x->scope.names.lookup x=none\/(X.N[i]?=some x/\scope.names.lookup x=some .free)
def PF (X:Cx) (ifs:List Expr) (t:TT):Prop :=
 ∀ (pins:List (Addr×Obj)) (s:Shared) (σ:St) (H:Hp) (Q:Bool->Hp->Prop),Inv X pins σ H s->t σ H Q ->
  wpAny (model X.prog X.w) X.A (forIn ifs true fun c r=>if r=true then do let ok <- isTrue c X.env (eval c X.env);pure (ForInStep.yield ok) else pure (ForInStep.yield r)) (TP X pins σ Q) X.xe s
def tYes:TT:=fun _ H Q=>Q true H
theorem pf_nil {X:Cx}:PF X [] tYes:=fun pins s σ H Q I h=>Qf ⟨H,I,h⟩
theorem pf_one {X:Cx} {c:Expr} {t:TT} (h:PT X c t):PF X [c] t:=fun pins s σ H Q I q=>wpAny_tests_one (h pins s σ H Q I q)
def WN (k:Nat) (wi:TI) (g:TG) (tc:TT) (te:TE):TE:=fun σ H Q=>wi σ H fun J H1=>∀ D,H1 D=none ->
 ∃ W:Nat->Nat->List V->St->Hp->Prop,(∃ m,W 0 m [] (σ++List.replicate k none) (upd H1 D (.lst [])))/\∀ i m ys σ' H',W i m ys σ' H'->H' D=some (.lst ys) /\
  ((J.stop i H'/\Q (.ref D) H')\/(J.go i H'/\∀ x H2,J.yld i H' x H2->g x σ' H2 fun σ3 H3=>tc σ3 H3 fun b H4 =>
   if b=true then te σ3 H4 fun v H5=>H5 D=some (.lst ys)/\ys.length<sizeLine/\∃ m',m'<m/\W (i+1) m' (ys++[v]) σ3 (upd H5 D (.lst (ys++[v])))
   else ∃ m',m'<m/\W (i+1) m' ys σ3 H4))
section
variable {X:Cx} {scope:Scope} {own N':List Str} {k:Nat}
theorem inv_comp {pins:List (Addr×Obj)} {σ:St} {H:Hp} {s:Shared} {fp:List Addr} {h':Heap} {t':Nat} {h1:Heap} {D:Addr} (c:CompOk X scope own N' k) (I:Inv X pins σ H s) (hf:∀ b∈fp,wD X pins H b) (hfl:∀ b∈fp,b<s.heap.objs.size)
  (h1sz:s.heap.objs.size<h1.objs.size) (up1:∀ b o,s.heap.get? b=some o->h1.get? b=some o) (hD:H D=none) (un1:Un (frs X.stack) fp H (upd H D (.lst [])) s.heap h1) (hok1:HOk X.prog X.w (upd H D (.lst [])) h1)
  (up:∀ b o,h1.get? b=some o->h'.get? b=some o) (ns:h'.Ns h1.objs.size (fun _=>none))
  (cs:∀ n a,(n,a)∈cellsFrom (h1.objs.size+1) scope.names (Y7 X.env scope.names [])->(n,a)∈Y7 X.env scope.names []\/((n,a)∈cellsFrom (h1.objs.size+1) scope.names []/\h1.objs.size<a/\h'.IsCell a none))
  (ap:(cellsFrom (h1.objs.size+1) scope.names []).Pairwise fun x y=>x.2≠y.2) :
  Inv (ZC X scope own N' s H fp h1.objs.size) [] (σ++List.replicate k none) (upd H D (.lst [])) { s with heap:=h',toks:=t' }:=by
 have hCs:s.heap.objs.size<=h1.objs.size:=Q2 h1sz
 have old:∀ n a,(n,a)∈Y7 X.env scope.names []->X.env.cells.lookup n=some a:=fun n a hm=>by
  rcases jN _ _ _ _ hm with z | ⟨_,_,_,z⟩
  ·cases z
  ·exact z
 have oldlt:∀ n a,(n,a)∈Y7 X.env scope.names []->@LT.lt Nat instLTNat a s.heap.objs.size:=fun n a hm=>by
  obtain ⟨v,q⟩:=I.cell n a (old n a hm)
  exact q.lt
 have inj:∀ x y a,(x,a)∈cellsFrom (h1.objs.size+1) scope.names (Y7 X.env scope.names [])->(y,a)∈cellsFrom (h1.objs.size+1) scope.names (Y7 X.env scope.names [])->x=y:=fun x y a hx hy=>by
  rcases cs x a hx with p | ⟨p,p1,_⟩ <;> rcases cs y a hy with q | ⟨q,q1,_⟩
  ·exact I.ok.inj x y a (old _ _ p) (old _ _ q)
  ·have:=oldlt _ _ p;omega
  ·have:=oldlt _ _ q;omega
  ·exact name_of_addr ap p q
 have freeC:∀ x a,(x,a)∈cellsFrom (h1.objs.size+1) scope.names (Y7 X.env scope.names [])->(upd H D (.lst [])) a=none:=fun x a hx=>by
  rcases cs x a hx with p | ⟨p,p1,_⟩
  ·obtain ⟨v,o,ho,hd⟩:=I.cell x a (old _ _ p)
   refine un1.free a o ho (I.freeC x a (old _ _ p)) fun z=>?_
   exact (hf a z).2.2.2.2.1 x a (old _ _ p) rfl
  ·exact hok1.fresh (Q2 p1)
 have fsn:∀ b∈frs X.stack,b<s.heap.objs.size:=fun b hb=>by
  obtain ⟨_,o,ho,_⟩:=I.stack.mem hb
  exact Qn ho
 refine ⟨⟨I.ok.mod,c.kind,I.ok.glob,I.ok.blt,hCs,fun x y a h1' h2'=>inj x y a (mem_of_lookup h1') (mem_of_lookup h2'),fun x hx=>?_,fun x a hx ha=>?_,I.ok.hd,I.ok.frames,.inl rfl,fun b hb=>⟨?_,fun x a ha=>?_⟩,I.bs,Qw I.ok.bsz I.sz,fun b o e hb=>?_,fun b hb hb2=>?_,I.stack,I.stkFree,I.ok.top,I.ok.tree⟩,
  rfl,I.bare,un1.trans (Un.kept up),⟨_,ns,fun i x v e1 e2 e3=>?_⟩,fun x a ha=>?_,?_,fun x a ha=>freeC x a (mem_of_lookup ha),fun p hp=>absurd (show p∈([]:List (Addr×Obj)) from hp) (by simp),hok1.kept up,?_⟩
 ·-- has
  have hx':(scope.names.map fun (n,k)=>if (k == NameKind.free&&X.env.scope.kind == .function&&X.env.kindOf n == some .cell) then (n,NameKind.cell) else (n,k)).lookup x=some .cell\/(scope.names.map fun (n,k)=>if (k == NameKind.free&&X.env.scope.kind == .function&&X.env.kindOf n == some .cell) then (n,NameKind.cell) else (n,k)).lookup x=some .free:=hx
  have hk:scope.names.lookup x=some .cell\/scope.names.lookup x=some .free:=by
   rcases hx' with z | z
   ·obtain ⟨k',e,q⟩:=Yf z
    rcases q with q | ⟨q,_⟩
    ·exact .inl (by rw [e,<- q])
    ·exact .inr (by rw [e,q])
   ·obtain ⟨k',e,q⟩:=Yf z
    rcases q with q | ⟨q,_⟩
    ·exact .inr (by rw [e,<- q])
    ·exact .inr (by rw [e,q])
  refine QY.mp (PySem.W.cellsFrom_some scope.names _ _ ?_)
  rcases hk with z | z
  ·exact .inl z
  ·refine .inr (JM _ _ _ (.inl ⟨mem_of_lookup z,?_⟩))
   rcases c.free (x,.free) (mem_of_lookup z) rfl with q | q
   ·exact I.ok.has x (.inl q)
   ·exact I.ok.has x (.inr q)
 ·-- cab
  rcases cs x a (mem_of_lookup ha) with p | ⟨p,p1,_⟩
  ·rcases jN _ _ _ _ p with z | ⟨k',z1,z2,_⟩
   ·cases z
   ·have:=c.own (x,k') z1 z2
    have hx':own.contains x=true:=hx
    rw [hx'] at this;cases this
  ·exact Qw hCs (Q2 p1)
 ·exact Qu (Qs (hfl b hb) hCs)
 ·rcases cs x a (mem_of_lookup ha) with p | ⟨p,p1,_⟩
  ·exact (hf b hb).2.2.2.2.1 x a (old _ _ p)
  ·have q:@LT.lt Nat instLTNat b s.heap.objs.size:=hfl b hb
   exact fun z=>by subst z;omega
 ·-- noex
  have hb:b∈fp:=hb
  rcases (hf b hb).2.2.2.1 with z | z
  ·exact I.ok.noex b o e z
  ·have q1:@LT.lt Nat instLTNat b X.base.objs.size:=Qn e
   have:=I.ok.bsz
   omega
 ·have hb:b∈fp:=hb
  rcases Qb.mp (I.stkSub b hb2) with z | z
  ·exact (hf b hb).2.1 z
  ·exact (hf b hb).2.2.1 z
 ·-- loc
  have hiσ:i<σ.length:=by
   by_cases hi:i<σ.length
   ·exact hi
   ·rw [QT (by omega),Pp] at e2
    split at e2 <;> cases e2
  rw [QP hiσ] at e2
  have hiN:i<X.N.length:=by rw [<- I.len];exact hiσ
  have e1:N'[i]?=some x:=e1
  have vis:scope.names.lookup x≠none:=by
   have e3:Vis (relabel scope X.env) x:=e3
   unfold Vis at e3
   rcases e3 with z | z | z <;> (obtain ⟨k',q,_⟩:=Yf z;rw [q];simp)
  rcases c.nm i x hiN e1 with z | ⟨z1,z2⟩
  ·exact absurd z vis
  obtain ⟨m,hn,hl⟩:=I.loc
  have hfr:=c.free (x,.free) (mem_of_lookup z2) rfl
  obtain ⟨u,r,l⟩:=hl i x v z1 e2 (hfr.elim (fun q=>.inr (.inl q)) fun q=>.inr (.inr q))
  refine ⟨u,r,?_⟩
  rcases l with ⟨kk,_⟩ | ⟨kk,a,ea,ca⟩
  ·have kk:X.env.scope.names.lookup x=some .local:=kk
   rcases hfr with q | q
   ·have q:X.env.scope.names.lookup x=some .cell:=q
    rw [kk] at q;cases q
   ·have q:X.env.scope.names.lookup x=some .free:=q
    rw [kk] at q;cases q
  ·obtain ⟨k2,q1,q2⟩:=Jv (env:=X.env) z2
   refine .inr ⟨?_,a,?_,?_⟩
   ·rcases q2 with q2 | ⟨_,q2⟩
    ·exact .inr (by subst q2;exact q1)
    ·exact .inl (by subst q2;exact q1)
   ·show (cellsFrom (h1.objs.size+1) scope.names (Y7 X.env scope.names [])).lookup x=some a
    rw [Y8 scope.names _ _ fun y hy hk e=>by
     have:=c.cel y hy hk
     rw [e,z2] at this;cases this]
    exact clOf_free (mem_of_lookup z2) ea
   ·exact (ca.keeps up1).keeps up
 ·-- cells
  rcases cs x a (mem_of_lookup ha) with p | ⟨p,p1,p2⟩
  ·obtain ⟨v,q⟩:=I.cell x a (old _ _ p)
   exact ⟨v,(q.keeps up1).keeps up⟩
  ·exact ⟨none,p2⟩
 ·exact hok1.fresh (Ql _)
 ·show (σ++List.replicate k none).length=N'.length
  rw [Qi,List.length_replicate,I.len,c.len]
theorem Un.but {fs ex:List Addr} {H H':Hp} {h h1 h2:Heap} {C:Addr} (u:Un fs ex H H' h h1) (hs:Heap.SameBut C h1 h2) (hC:h.objs.size<=C):Un fs ex H H' h h2:=by
 have ne:∀ b o,h.get? b=some o->b≠C:=fun b o e=>Qu (Qs (Qn e) hC)
 exact ⟨fun b o e n hb hx=>(hs.2 b (ne b o e)).trans (u.keep b o e n hb hx),fun b o e n hb hx=>by
   obtain ⟨sl,q⟩:=u.slot b o e n hb hx
   exact ⟨sl,(hs.2 b (ne b o e)).trans q⟩,u.free,fun b o e hx=>by
   obtain ⟨o',q⟩:=u.there b o e hx
   exact ⟨o',(hs.2 b (ne b o e)).trans q⟩,u.tups,u.frzs,u.tbls⟩
theorem HOk.but {P:Program} {w:World} {H:Hp} {h h2:Heap} {C:Addr} (ok:HOk P w H h) (hs:Heap.SameBut C h h2) (hC:H C=none):HOk P w H h2:=fun b o e =>
 (ok b o e).stay (fun c v hc q=>(hs.2 c (by
  rintro rfl
  rcases hc with rfl | hc
  ·rw [hC] at e;cases e
  ·rw [hC] at hc;cases hc)).trans q) (fun _ q=>q) fun _ _ q=>q
theorem GJ {elt target iter:Expr} {ifs:List Expr} {pos:Pos} {g:TG} {tc:TT} {te:TE} (c:CompOk X scope own N' k) (hc:X.calm=true)
  (hg:∀ s₂ H₂ fp C,PG (ZC X scope own N' s₂ H₂ fp C) target g) (ht:∀ s₂ H₂ fp C,PF (ZC X scope own N' s₂ H₂ fp C) ifs tc) (he:∀ s₂ H₂ fp C,PE (ZC X scope own N' s₂ H₂ fp C) elt te)
  {pins:List (Addr×Obj)} {σ:St} {H:Hp} {s:Shared} {E:Value->Shared->Prop} {Q:VK} {it:Addr} {fp:List Addr} {tn:Nat->Heap->Prop} {J:It} (I:Inv X pins σ H s) (T:gi X.prog X.w X.K target J fp it tn) (st:tn 0 s.heap) (hf:∀ b∈fp,wD X pins H b)
  (hw:∀ D,H D=none->∃ W:Nat->Nat->List V->St->Hp->Prop,(∃ m,W 0 m [] (σ++List.replicate k none) (upd H D (.lst [])))/\∀ i m ys σ' H',W i m ys σ' H'->H' D=some (.lst ys) /\
   ((J.stop i H'/\Q (.ref D) H')\/(J.go i H'/\∀ x H2,J.yld i H' x H2->g x σ' H2 fun σ3 H3=>tc σ3 H3 fun b H4 =>
    if b=true then te σ3 H4 fun v H5=>H5 D=some (.lst ys)/\ys.length<sizeLine/\∃ m',m'<m/\W (i+1) m' (ys++[v]) σ3 (upd H5 D (.lst (ys++[v])))
    else ∃ m',m'<m/\W (i+1) m' ys σ3 H4)))
  {RR:Value->Addr->Result->Shared->Prop}
  (hR:∀ D C σ' H' s',s.heap.objs.size<=C->Inv (ZC X scope own N' s H fp C) [] σ' H' s'->Q (.ref D) H'->RR (.ref D) C (.ok .next) s') :
  wpAny (model X.prog X.w) X.A (newList []) (fun acc s₃=>wpAny (model X.prog X.w) X.A (newFunctionEnv scope X.env.globals (Y7 X.env scope.names []) [] X.env.qual none .none (some X.env)) (fun cenv s₄ =>
   codeAny (model X.prog X.w) X.A (.compStart (.ListComp elt [⟨target,iter,ifs,0⟩] scope pos) 0 (.ref it) acc { cenv with scope:=relabel scope X.env }) (RR acc cenv.locals) s₄) E s₃) E s:=by
 have hfl:∀ b∈fp,b<s.heap.objs.size:=fun b hb=>by
  obtain ⟨o,e,_⟩:=T.obj 0 s.heap st b hb
  exact Qn e
 refine QS ?_
 have fr:H s.heap.objs.size=none:=I.hok.fresh (Ql _)
 have up1:∀ b o,s.heap.get? b=some o->(s.heap.push { cls:=.type "list",dict:=none,data:=.seq ([]:List Value).toArray }).get? b=some o:=fun b o e=>Qc _ e
 have ok1:HOk X.prog X.w (upd H s.heap.objs.size (.lst [])) (s.heap.push { cls:=.type "list",dict:=none,data:=.seq ([]:List Value).toArray }) :=
  I.hok.laid up1 (Ql _) ⟨Q3 _,[],0,.nil,Qp _ rfl⟩
 have un1:Un (frs X.stack) fp H (upd H s.heap.objs.size (.lst [])) s.heap (s.heap.push { cls:=.type "list",dict:=none,data:=.seq ([]:List Value).toArray }):=Un.laid up1 (Ql _) fr
 have sz1:s.heap.objs.size<(s.heap.push { cls:=.type "list",dict:=none,data:=.seq ([]:List Value).toArray }).objs.size:=by rw [QH];exact QX _
 generalize (s.heap.push { cls:=.type "list",dict:=none,data:=.seq ([]:List Value).toArray })=h1 at up1 ok1 un1 sz1 ⊢
 refine newEnv_comp fun h' up ns cs ap=>?_
 dsimp only at up ns cs ap ⊢
 obtain ⟨W,⟨m0,w0⟩,turn⟩:=hw _ fr
 have I4:Inv (ZC X scope own N' s H fp h1.objs.size) [] (σ++List.replicate k none) (upd H s.heap.objs.size (.lst [])) { s with heap:=h' }:=inv_comp (t':=s.toks) c I hf hfl sz1 up1 fr un1 ok1 up ns cs ap
 have st4:tn 0 h':=T.keep 0 _ _ st fun b hb o e=>up b o (up1 b o e)
 have fr4:∀ b∈fp,(upd H s.heap.objs.size (.lst [])) b=none:=fun b hb=>by
  rw [zx (Qu (hfl b hb))];exact (hf b hb).1
 generalize ha:s.heap.objs.size=D at *
 have stat:∀ {H':Hp} ,(∀ b∈fp,H' b=none)->∀ b∈fp,wD (ZC X scope own N' s H fp h1.objs.size) [] H' b:=fun hn b hb=>⟨hn b hb,(I4.ok.exf b hb).1,I4.ok.exfs b hb,.inl hb,(I4.ok.exf b hb).2,fun p hp=>absurd (show p∈([]:List (Addr×Obj)) from hp) (by simp)⟩
 have loop:codeAny (model X.prog X.w) X.A (.compLoop (.ListComp elt [⟨target,iter,ifs,0⟩] scope pos) 0 (.ref it) (.ref D) (ZC X scope own N' s H fp h1.objs.size).env) (RR (.ref D) h1.objs.size) { s with heap:=h' }:=by
  refine JL (fun n s'=>∃ i ys σ' H',Inv (ZC X scope own N' s H fp h1.objs.size) [] σ' H' s'/\tn i s'.heap/\(∀ b∈fp,H' b=none)/\W i n ys σ' H') ?_ m0 ⟨0,[],_,_,I4,st4,fr4,w0⟩
  rintro n s3 ⟨i,ys,σ3,H3,I3,st3,fr3,w3⟩
  obtain ⟨hD3,alt⟩:=turn i n ys σ3 H3 w3
  rcases alt with ⟨stop,qn⟩ | ⟨go,step⟩
  ·refine thn (T.done (ZC X scope own N' s H fp h1.objs.size) rfl rfl rfl hc i [] s3 σ3 H3 _ I3 (stat fr3) st3 stop) fun r s4 ⟨hr,I4'⟩=>?_
   subst hr
   exact hR D _ σ3 H3 s4 (Q2 sz1) I4' qn
  ·refine thn (T.item (ZC X scope own N' s H fp h1.objs.size) rfl rfl rfl hc i [] s3 σ3 H3 _ I3 (stat fr3) st3 go) fun r s4 ⟨u,hr,h4⟩=>?_
   subst hr
   refine thn h4 fun _ s5 ⟨x,H5,I5,r5,y5,st5,fr5⟩=>?_
   have I5':=I5.pinned (stat fr5) (T.obj _ _ st5)
   refine thn (hg s H fp h1.objs.size _ s5 σ3 H5 x u _ I5' r5 (step x H5 y5)) fun _ s6 ⟨σ6,H6,I6,q6⟩=>?_
   refine thn (ht s H fp h1.objs.size _ s6 σ6 H6 _ I6 q6) fun b s7 ⟨H7,I7,q7⟩=>?_
   have again:∀ {ys':List V} {σ8:St} {H8:Hp} {s8:Shared} {m':Nat},Inv (ZC X scope own N' s H fp h1.objs.size) ([]++Gn fp s5.heap) σ8 H8 s8->m'<n->W (i+1) m' ys' σ8 H8->∃ m,m<n/\∃ i ys σ' H',Inv (ZC X scope own N' s H fp h1.objs.size) [] σ' H' s8/\tn i s8.heap/\(∀ b∈fp,H' b=none)/\W i m ys σ' H':=fun {ys' σ8 H8 s8 m'} I8 hm w8=>by
    refine ⟨m',hm,i+1,ys',σ8,H8,I8.unpinned,T.keep _ _ _ st5 fun b hb o e=>(I8.pin (b,o) (QF _ (QF _ (j6 hb e)))).1,fun b hb=>?_,w8⟩
    obtain ⟨o,e,d⟩:=T.obj _ _ st5 b hb
    exact (I8.pin (b,o) (QF _ (QF _ (j6 hb e)))).2.1
   cases b with
   | false =>
    obtain ⟨m',hm,w7⟩:∃ m',m'<n/\W (i+1) m' ys σ6 H7:=q7
    exact again I7 hm w7
   | true =>
    show wpAny _ _ (eval elt (ZC X scope own N' s H fp h1.objs.size).env) _ _ s7
    refine thn (he s H fp h1.objs.size _ s7 σ6 H7 _ I7 q7) fun u8 s8 ⟨v8,H8,I8,r8,hD8,hz8,m',hm,w8⟩=>?_
    refine thn (jG (X:=ZC X scope own N' s H fp h1.objs.size) _ s8 σ6 H8 (.ref D) [v8] (.ref D) [u8] (fun _ H9=>H9=upd H8 D (.lst (ys++[v8]))) I8 rfl (.cons r8 .nil) ⟨D,ys,v8,rfl,rfl,hD8,hz8,rfl⟩) fun _ s9 ⟨_,H9,I9,_,e9⟩=>?_
    subst e9
    exact again I9 hm w8
 exact codeAny_compStart_list loop (T.self _ 0 _ _ _ st4 loop)
theorem clos_ok (c:CompOk X scope own N' k) (hX:X.Ok):closureFor scope X.env=pure (Y7 X.env scope.names []):=closure_of fun x hx hk=>by
 rcases c.free x hx hk with q | q
 ·exact hX.has x.1 (.inl q)
 ·exact hX.has x.1 (.inr q)
theorem GQ {pins:List (Addr×Obj)} {σ σ':St} {H H':Hp} {s s':Shared} {fp:List Addr} {C:Addr} {h2:Heap} (I:Inv X pins σ H s) (hf:∀ b∈fp,wD X pins H b) (hC:s.heap.objs.size<=C) (J:Inv (ZC X scope own N' s H fp C) [] σ' H' s') (hs:Heap.SameBut C s'.heap h2) :
  Inv X pins σ H' { s' with heap:=h2 } :=
 I.call' (s':={ s' with heap:=h2 }) (ch:=fp) J.os (J.base.but hs hC) (J.hok.but hs J.free) J.bare fun b hb=>⟨(hf b hb).2.2.2.1,(hf b hb).2.1,(hf b hb).2.2.2.2.1,(hf b hb).2.2.2.2.2⟩
theorem pe_comp {elt target iter:Expr} {ifs:List Expr} {pos:Pos} {wi:TI} {g:TG} {tc:TT} {te:TE} (c:CompOk X scope own N' k) (hc:X.calm=true) (hi:PI X target iter wi)
  (hg:∀ s₂ H₂ fp C,PG (ZC X scope own N' s₂ H₂ fp C) target g) (ht:∀ s₂ H₂ fp C,PF (ZC X scope own N' s₂ H₂ fp C) ifs tc) (he:∀ s₂ H₂ fp C,PE (ZC X scope own N' s₂ H₂ fp C) elt te)
  (hs:∀ x,foldedSetIterable iter X.env x=pure x:=by intro _;rfl):PE X (.ListComp elt [⟨target,iter,ifs,0⟩] scope pos) (WN k wi g tc te):=by
 intro pins s σ H Q I h
 rw [eval_ListComp]
 refine wpAny_comprehension_free (use:=none) rfl hs (clos_ok c I.ok) c.kind c.loc ?_
 refine thn (hi pins s σ H _ I h) fun v s1 h1=>thn h1 fun itv s2 h2=>?_
 obtain ⟨it,fp,tn,J,H2,e,I2,T,st2,f2,hw⟩:=h2
 subst e
 refine GJ (RR:=fun acc C=>compPost (model X.prog X.w) X.A X.xe none (EP X pins σ Q) acc C) c hc hg ht he I2 T st2 f2 hw ?_
 intro D C σ' H' s' hC J' q
 obtain ⟨m,hn,_⟩:=J'.loc
 exact ⟨m,hn,fun h2 hs2=>⟨.ref D,H',GQ I2 f2 hC J' hs2,rfl,q⟩⟩
theorem Gk {i:Nat} {x:Str} {pos' spos:Pos} {elt target iter:Expr} {ifs:List Expr} {pos:Pos} {wi:TI} {g:TG} {tc:TT} {te:TE} (hN:X.N.Nodup) (hix:X.N[i]?=some x) (hx:X.env.scope.names.lookup x=some .local) (c:CompOk X scope own N' k) (hc:X.calm=true) (hi:PI X target iter wi)
  (hg:∀ s₂ H₂ fp C,PG (ZC X scope own N' s₂ H₂ fp C) target g) (ht:∀ s₂ H₂ fp C,PF (ZC X scope own N' s₂ H₂ fp C) ifs tc) (he:∀ s₂ H₂ fp C,PE (ZC X scope own N' s₂ H₂ fp C) elt te)
  (hsw:swapsWith (.ListComp elt [⟨target,iter,ifs,0⟩] scope pos) (some (.Name x pos')) spos.line X.env=pure true)
  (hs:∀ x,foldedSetIterable iter X.env x=pure x:=by intro _;rfl):PS X (.Assign [.Name x pos'] (.ListComp elt [⟨target,iter,ifs,0⟩] scope pos) spos) (yX (WN k wi g tc te) (ZX i)):=by
 intro pins s σ H Dn I h
 rw [exec_Assign_Name_used _ _ _ _ hsw]
 refine Qa (wpAny_standAt (Qa ?_))
 show wpAny _ X.A (do let _ <- comprehension (.ListComp elt [⟨target,iter,ifs,0⟩] scope pos) scope X.env _ (newList []) false (eval iter X.env) (some (assign (.Name x pos') X.env))) _ _ s
 refine Qa (thn (wpAny_comprehension_free (use:=some (assign (.Name x pos') X.env)) (Q:=fun _ s'=>SP X pins Dn .next s') rfl hs (clos_ok c I.ok) c.kind c.loc ?_) fun _ s' hq=>Qf (Qf hq))
 refine thn (hi pins s σ H _ I h) fun v s1 h1=>thn h1 fun itv s2 h2=>?_
 obtain ⟨it,fp,tn,J,H2,e,I2,T,st2,f2,hw⟩:=h2
 subst e
 refine GJ (Q:=fun x H1=>ZX i x σ H1 Dn.nx) (RR:=fun acc C=>compPost (model X.prog X.w) X.A X.xe (some (assign (.Name x pos') X.env)) (fun _ s'=>SP X pins Dn .next s') acc C) c hc hg ht he I2 T st2 f2 hw ?_
 intro D C σ' H' s' hC J' q
 obtain ⟨m,hn,_⟩:=J'.loc
 have I3:Inv X pins σ H' s':=GQ I2 f2 hC J' (.refl ..)
 show wpAny _ X.A (assign (.Name x pos') X.env (.ref D)) _ _ _
 refine wpAny_assign_Name (store_ok2 (v:=.ref D) I3 hN hix (.inl hx) rfl (fun s4 I4 ⟨a,sb,ha⟩=>?_) (.inr hx))
 have hLa:a=X.env.locals\/X.env.cells.lookup x=some a:=ha
 have hlt:@LT.lt Nat instLTNat a s2.heap.objs.size:=by
  rcases hLa with z | z
  ·rw [z];exact I2.lt
  ·obtain ⟨v,q⟩:=I2.cell x a z
   exact q.lt
 have hne:C≠a:=by omega
 refine ⟨m,hn.sameBut sb hne,fun h2 hs2=>⟨_,H',?_,q⟩⟩
 have hpin:∀ p∈X.pn++pins,p.1≠C:=fun p hp z=>by
  exact absurd (Qs (Qn (I2.pin p hp).1) hC) (by rw [z];exact Pc _)
 have hcell:∀ y a,X.env.cells.lookup y=some a->a≠C:=fun y a e z=>by
  obtain ⟨v,q⟩:=I2.cell y a e
  exact absurd (Qs q.lt hC) (by rw [z];exact Pc _)
 exact I4.turned (t':=s4.toks) (fun b o hb e=>(hs2.2 b hb).trans e) J'.free (fun z=>absurd (Qs I2.lt hC) (by rw [z];exact Pc _)) (.inr (Qw I2.sz hC)) hcell hpin
end
end L2
namespace L2
open PySem
def itCls:Bool->String
 | true=>"list_iterator"
 | false=>"tuple_iterator"
def Ze (k:Bool) (h:Heap) (it l:Addr) (i:Nat):Prop:=∃ o,h.get? it=some o/\o.cls=.type (itCls k)/\o.data=.fields #[.ref l,.int i 0]
def SeqAt:Bool->Heap->Addr->Array Value->Prop
 | true,h,l,xs=>h.IsList l xs
 | false,h,l,xs=>h.IsTuple l xs
theorem Ze.at {k:Bool} {h h':Heap} {it l:Addr} {i:Nat} (x:Ze k h it l i) (e:∀ o,h.get? it=some o->h'.get? it=some o):Ze k h' it l i:=let ⟨o,ho,r⟩:=x;⟨o,e o ho,r⟩
theorem Ze.but {k:Bool} {h h':Heap} {it l b:Addr} {i:Nat} (x:Ze k h it l i) (e:Heap.ExtBut b h h') (n:it≠b):Ze k h' it l i:=x.at fun o q=>e it o n q
theorem SeqAt.at {k:Bool} {h h':Heap} {l:Addr} {xs:Array Value} (x:SeqAt k h l xs) (e:∀ o,h.get? l=some o->h'.get? l=some o):SeqAt k h' l xs:=by
 cases k with
 | true=>obtain ⟨o,ho,r⟩:=x;exact ⟨o,e o ho,r⟩
 | false=>obtain ⟨o,ho,r⟩:=x;exact ⟨o,e o ho,r⟩
theorem SeqAt.but {k:Bool} {h h':Heap} {l b:Addr} {xs:Array Value} (x:SeqAt k h l xs) (e:Heap.ExtBut b h h') (n:l≠b):SeqAt k h' l xs:=x.at fun o q=>e l o n q
theorem SeqAt.lt {k:Bool} {h:Heap} {l:Addr} {xs:Array Value} (x:SeqAt k h l xs):l<h.objs.size:=by
 cases k with
 | true=>obtain ⟨o,ho,r⟩:=x;exact Qn ho
 | false=>obtain ⟨o,ho,r⟩:=x;exact Qn ho
section
variable {prog:Program} {w:World} {A:Around} {E:Value->Shared->Prop} {s:Shared}
theorem W8 {it t:Addr} {i:Nat} {xs:Array Value} {x:Value} {Q:Value->Shared->Prop} (hi:s.heap.IsTupleIter it t i) (hl:s.heap.IsTuple t xs) (hx:xs[i]?=some x)
  (hQ:∀ h',h'.IsTupleIter it t (i+1)->Heap.SameBut it s.heap h'->Q x { s with heap:=h' }):wpAny (model prog w) A (Builtin.SmallTypes.nextOf (.ref it)) Q E s:=by
 obtain ⟨o,ho,hc,hd⟩:=id hi
 obtain ⟨ot,hot,_,nt,hdt⟩:=hl
 unfold Builtin.SmallTypes.nextOf
 refine Qa (QQ (name:=Str.ofString "__next__") hi.typeIs F.slot_tuple_iterator_next (QW F.slot_tuple_iterator_next hi.typeIs F.entry_tuple_iterator_next ?_ (F.args_tuple_iterator_next_1 _)))
 show wpAny _ _ (field (.ref it) 0 >>= _) _ _ s;refine Qa (QE ho hd (x:=.ref t) rfl ?_)
 show wpAny _ _ (if (Value.ref t == Value.none)=true then _ else _) _ _ s;rw [if_neg (show ¬ ((Value.ref t == Value.none)=true) from Qg)]
 show wpAny _ _ (field (.ref it) 1 >>= _) _ _ s;refine Qa (QE ho hd (x:=.int i 0) rfl ?_)
 show wpAny _ _ (seqItems? (.ref t) >>= _) _ _ s;refine Qa (QR hot hdt ?_)
 simp only [Q0,hx]
 refine Qa (wpAny_setField ho hd (by simp) (Qf ⟨x,rfl,Qf (hQ _ ?_ (Heap.SameBut.update ..))⟩))
 exact ⟨_,QV _ ho (Obj.isFreed_of_fields (Obj.data_mapFields hd _)),(Obj.cls_mapFields ..).trans hc,by rw [Obj.data_mapFields hd];simp [rawInt]⟩
theorem Gx {it t:Addr} {i:Nat} {xs:Array Value} {Q:Value->Shared->Prop} (hh:A.handled=none) (hi:s.heap.IsTupleIter it t i) (hl:s.heap.IsTuple t xs) (hx:xs[i]?=none)
  (hE:∀ h' e,Heap.ExtBut it s.heap h'->(∃ o,h'.get? e=some o/\o.cls=.type "StopIteration")->E (.ref e) { s with heap:=h' }):wpAny (model prog w) A (Builtin.SmallTypes.nextOf (.ref it)) Q E s:=by
 obtain ⟨o,ho,hc,hd⟩:=id hi
 obtain ⟨ot,hot,_,nt,hdt⟩:=hl
 unfold Builtin.SmallTypes.nextOf
 refine Qa (QQ (name:=Str.ofString "__next__") hi.typeIs F.slot_tuple_iterator_next (QW F.slot_tuple_iterator_next hi.typeIs F.entry_tuple_iterator_next ?_ (F.args_tuple_iterator_next_1 _)))
 show wpAny _ _ (field (.ref it) 0 >>= _) _ _ s;refine Qa (QE ho hd (x:=.ref t) rfl ?_)
 show wpAny _ _ (if (Value.ref t == Value.none)=true then _ else _) _ _ s;rw [if_neg (show ¬ ((Value.ref t == Value.none)=true) from Qg)]
 show wpAny _ _ (field (.ref it) 1 >>= _) _ _ s;refine Qa (QE ho hd (x:=.int i 0) rfl ?_)
 show wpAny _ _ (seqItems? (.ref t) >>= _) _ _ s;refine Qa (QR hot hdt ?_)
 simp only [Q0,hx]
 refine Qa (PU (Qa (wpAny_setField ho hd (by simp) ?_)))
 show wpAny _ _ (newExc (.type "StopIteration") [] >>= _) _ _ _;refine Qa ?_
 simp only [newExc,newTuple];refine Qa (QS ?_ (by size_fits))
 refine Qa (m:=firstArgMember _ _) (wpAny_of_eq (a:=Value.none) (by first | rfl | (simp only [firstArgMember];rfl)) ?_);refine QS ?_ (by size_fits)
 simp only [raiseNew];refine Qa (wpAny_handled ?_);first | rw [show A.in1.handled=none from hh] | rw [hh]
 refine Qa (Qf (wpAny_throw ?_));exact hE _ _ (((Heap.SameBut.update ..).extBut.push _).push _) ⟨_,Qp _ rfl,rfl⟩
theorem yV {k:Bool} {it l:Addr} {i:Nat} {xs:Array Value} {x:Value} {Q:Value->Shared->Prop} (hi:Ze k s.heap it l i) (hl:SeqAt k s.heap l xs) (hx:xs[i]?=some x)
  (hQ:∀ h',Ze k h' it l (i+1)->Heap.SameBut it s.heap h'->Q x { s with heap:=h' }):wpAny (model prog w) A (Builtin.SmallTypes.nextOf (.ref it)) Q E s:=by
 cases k with
 | true=>exact wpAny_nextOf_list_item hi hl hx hQ
 | false=>exact W8 hi hl hx hQ
theorem j3 {k:Bool} {it l:Addr} {i:Nat} {xs:Array Value} {Q:Value->Shared->Prop} (hh:A.handled=none) (hi:Ze k s.heap it l i) (hl:SeqAt k s.heap l xs) (hx:xs[i]?=none)
  (hE:∀ h' e,Heap.ExtBut it s.heap h'->(∃ o,h'.get? e=some o/\o.cls=.type "StopIteration")->E (.ref e) { s with heap:=h' }):wpAny (model prog w) A (Builtin.SmallTypes.nextOf (.ref it)) Q E s:=by
 cases k with
 | true=>exact wpAny_nextOf_list_end hh hi hl hx hE
 | false=>exact Gx hh hi hl hx hE
def GB (k:Bool) (l:Addr):Obj:={ cls:=.type (itCls k),data:=.fields #[.ref l,.int 0 0] }
theorem Gj {k:Bool} {l:Addr} {xs:Array Value} {Q:Value->Shared->Prop} (hl:SeqAt k s.heap l xs) (hQ:Q (.ref s.heap.objs.size) { s with heap:=s.heap.push (GB k l) }):wpAny (model prog w) A (pyIter (.ref l)) Q E s:=by
 cases k with
 | true=>exact wpAny_pyIter_list hl hQ
 | false=>exact Ub hl hQ
theorem Ze.new {k:Bool} {h h':Heap} {l:Addr} (e:h'.get? h.objs.size=some (GB k l)):Ze k h' h.objs.size l 0:=⟨_,e,rfl,rfl⟩
structure ZApart (z TI TO i1 i2:Addr):Prop where
 TIz:TI≠z
 TOz:TO≠z
 i1z:i1≠z
 i2z:i2≠z
 TITO:TI≠TO
 TIi1:TI≠i1
 TIi2:TI≠i2
 TOi1:TO≠i1
 TOi2:TO≠i2
 i12:i1≠i2
def We (z TI TO i1 i2 l:Addr):Prop:=l≠z/\l≠TO/\l≠i1/\l≠i2
variable {z TI TO i1 i2 l1 l2:Addr} {j1 j2:Bool} {k1 k2:Nat} {xs ys:Array Value} {x y a b:Value}
theorem zipn_item {Q:Value->Shared->Prop} (D:ZApart z TI TO i1 i2) (n1:We z TI TO i1 i2 l1) (n2:We z TI TO i1 i2 l2) (hz:IsZip s.heap z TI TO .none) (hTI:IsPair s.heap TI (.ref i1) (.ref i2)) (hTO:IsPair s.heap TO a b)
  (h1:Ze j1 s.heap i1 l1 k1) (h2:Ze j2 s.heap i2 l2 k2) (hl1:SeqAt j1 s.heap l1 xs) (hl2:SeqAt j2 s.heap l2 ys) (hx:xs[k1]?=some x) (hy:ys[k2]?=some y)
  (hQ:∀ h',IsZip h' z TI TO (rawInt s.heap.objs.size)->IsPair h' TO x y->Ze j1 h' i1 l1 (k1+1)->Ze j2 h' i2 l2 (k2+1)->IsPair h' s.heap.objs.size x y->h'.objs.size=s.heap.objs.size+1 ->
   (∀ c o,c≠z->c≠TO->c≠i1->c≠i2->s.heap.get? c=some o->h'.get? c=some o)->Q (.ref s.heap.objs.size) { s with heap:=h' }) :
  wpAny (model prog w) A (Builtin.«zip.__next__» ⟨[.ref z],[]⟩) (fun fin s'=>∃ v,fin=.done (.ret v)/\Q v s') E s:=by
 obtain ⟨p1,p2,p3,p4⟩:=n1
 obtain ⟨q1,q2,q3,q4⟩:=n2
 show wpAny _ _ (field (.ref z) 2 >>= _) _ _ _;refine Qa (QE hz rfl (x:=.bool false) rfl ?_)
 show wpAny _ _ (field (.ref z) 3 >>= _) _ _ _;refine Qa (QE hz rfl (x:=.ref TI) rfl ?_)
 refine Qa (QR hTI rfl ?_)
 show wpAny _ _ (Builtin.SmallTypes.ownedTupleIsFree (.ref z) >>= _) _ _ _;refine Qa ?_
 unfold Builtin.SmallTypes.ownedTupleIsFree
 refine Qa (QE hz rfl (x:=.none) rfl (Qf ?_))
 simp only [if_true]
 refine Qa (PU ?_)
 refine Qa (QE hz rfl (x:=.ref TO) rfl ?_)
 refine Qa (Q6 hz (by simp) fun g1 hz1 s1=>?_)
 replace hz1:IsZip g1 z TI TO .ellipsis:=hz1
 refine Qa ?_
 simp only [List.zipIdx_cons,List.zipIdx_nil,PK,PM]
 refine Qa (Qa (P9 ?_))
 show wpAny _ _ (Builtin.SmallTypes.nextOf (.ref i1) >>= _) _ _ _
 refine Qa (yV (h1.but s1.extBut D.i1z) (hl1.but s1.extBut p1) hx fun g2 u2 s2=>Qf ?_)
 have t2:IsPair g2 TO a b:=s2.extBut _ _ D.TOi1 (s1.extBut _ _ D.TOz hTO)
 refine Qa (QR t2 rfl ?_)
 refine Qa (P1 t2 fun g3 t3 s3=>?_)
 replace t3:IsPair g3 TO x b:=t3
 refine Qa (wpAny_letGo (Qf ?_))
 refine Qa (Qa (P9 ?_))
 show wpAny _ _ (Builtin.SmallTypes.nextOf (.ref i2) >>= _) _ _ _
 refine Qa (yV (((h2.but s1.extBut D.i2z).but s2.extBut D.i12.symm).but s3.extBut D.TOi2.symm) (((hl2.but s1.extBut q1).but s2.extBut q3).but s3.extBut q2) hy fun g4 u4 s4=>Qf ?_)
 have t4:IsPair g4 TO x b:=s4.extBut _ _ D.TOi2 t3
 refine Qa (QR t4 rfl ?_)
 refine Qa (P1 t4 fun g5 t5 s5=>?_)
 replace t5:IsPair g5 TO x y:=t5
 refine Qa (wpAny_letGo (Qf (Qf ?_)))
 refine Qa (QR t5 rfl ?_)
 refine Qa (wpAny_newTuple ?_)
 have sz:g5.objs.size=s.heap.objs.size:=by rw [s5.1,s4.1,s3.1,s2.1,s1.1]
 have hz5:IsZip g5 z TI TO .ellipsis:=s5.extBut _ _ D.TOz.symm (s4.extBut _ _ D.i2z.symm (s3.extBut _ _ D.TOz.symm (s2.extBut _ _ D.i1z.symm hz1)))
 have k5:∀ c o,c≠z->c≠TO->c≠i1->c≠i2->s.heap.get? c=some o->g5.get? c=some o:=fun c o c1 c2 c3 c4 e=>s5.extBut _ _ c2 (s4.extBut _ _ c4 (s3.extBut _ _ c2 (s2.extBut _ _ c3 (s1.extBut _ _ c1 e))))
 have v1:Ze j1 g5 i1 l1 (k1+1):=((u2.but s3.extBut D.TOi1.symm).but s4.extBut D.i12).but s5.extBut D.TOi1.symm
 have v2:Ze j2 g5 i2 l2 (k2+1):=u4.but s5.extBut D.TOi2.symm
 have zlt:z<g5.objs.size:=Qn hz5
 show wpAny _ _ (Builtin.SmallTypes.ownedTupleHandOut (.ref z) (.ref g5.objs.size) >>= _) _ _ _;refine Qa ?_
 unfold Builtin.SmallTypes.ownedTupleHandOut
 have hz6:IsZip (g5.push { cls:=.type "tuple",data:=.seq #[x,y] }) z TI TO .ellipsis:=Qc _ hz5
 refine Qa (Q6 hz6 (by simp) fun g7 hz7 s7=>?_)
 replace hz7:IsZip g7 z TI TO (rawInt g5.objs.size):=hz7
 refine Q6 hz7 (by simp) fun g8 hz8 s8=>?_
 replace hz8:IsZip g8 z TI TO (rawInt g5.objs.size):=hz8
 have up:∀ c o,c≠z->g5.get? c=some o->g8.get? c=some o:=fun c o c1 e=>s8.extBut _ _ c1 (s7.extBut _ _ c1 (Qc _ e))
 have T8:IsPair g8 g5.objs.size x y:=s8.extBut _ _ (QD zlt) (s7.extBut _ _ (QD zlt) (Qp _ rfl))
 have e8:g8.objs.size=g5.objs.size+1:=by rw [s8.1,s7.1,QH]
 rw [sz] at hz8 T8 e8
 refine Qf ⟨_,rfl,?_⟩
 show Q (.ref g5.objs.size) _
 rw [sz]
 exact hQ g8 hz8 (up _ _ D.TOz t5) (v1.at fun o e=>up _ o D.i1z e) (v2.at fun o e=>up _ o D.i2z e) T8 e8 fun c o c1 c2 c3 c4 e=>up c o c1 (k5 c o c1 c2 c3 c4 e)
theorem zipn_end {Q:Fin->Shared->Prop} (hh:A.handled=none) (D:ZApart z TI TO i1 i2) (n1:We z TI TO i1 i2 l1) (n2:We z TI TO i1 i2 l2) (hz:IsZip s.heap z TI TO .none) (hTI:IsPair s.heap TI (.ref i1) (.ref i2)) (hTO:IsPair s.heap TO a b)
  (h1:Ze j1 s.heap i1 l1 k1) (h2:Ze j2 s.heap i2 l2 k2) (hl1:SeqAt j1 s.heap l1 xs) (hl2:SeqAt j2 s.heap l2 ys) (hend:xs[k1]?=none\/ys[k2]?=none)
  (hE:∀ h' e,(∀ c o,c≠z->c≠TO->c≠i1->c≠i2->s.heap.get? c=some o->h'.get? c=some o)->(∃ o,h'.get? e=some o/\o.cls=.type "StopIteration")->E (.ref e) { s with heap:=h' }) :
  wpAny (model prog w) A (Builtin.«zip.__next__» ⟨[.ref z],[]⟩) Q E s:=by
 obtain ⟨p1,p2,p3,p4⟩:=n1
 obtain ⟨q1,q2,q3,q4⟩:=n2
 show wpAny _ _ (field (.ref z) 2 >>= _) _ _ _;refine Qa (QE hz rfl (x:=.bool false) rfl ?_)
 show wpAny _ _ (field (.ref z) 3 >>= _) _ _ _;refine Qa (QE hz rfl (x:=.ref TI) rfl ?_)
 refine Qa (QR hTI rfl ?_)
 show wpAny _ _ (Builtin.SmallTypes.ownedTupleIsFree (.ref z) >>= _) _ _ _;refine Qa ?_
 unfold Builtin.SmallTypes.ownedTupleIsFree
 refine Qa (QE hz rfl (x:=.none) rfl (Qf ?_))
 simp only [if_true]
 refine Qa (PU ?_)
 refine Qa (QE hz rfl (x:=.ref TO) rfl ?_)
 refine Qa (Q6 hz (by simp) fun g1 hz1 s1=>?_)
 replace hz1:IsZip g1 z TI TO .ellipsis:=hz1
 refine Qa ?_
 simp only [List.zipIdx_cons,List.zipIdx_nil,PK,PM]
 refine Qa (Qa (P9 ?_))
 show wpAny _ _ (Builtin.SmallTypes.nextOf (.ref i1) >>= _) _ _ _
 cases hx:xs[k1]? with
 | none =>
  refine Qa (j3 hh (h1.but s1.extBut D.i1z) (hl1.but s1.extBut p1) hx fun g2 e s2 he=>?_)
  obtain ⟨oe,hoe,hce⟩:=he
  have hz2:IsZip g2 z TI TO .ellipsis:=s2 _ _ D.i1z.symm hz1
  have ez:e≠z:=fun x=>by subst x;rw [hz2] at hoe;cases hoe;simp at hce
  exact Q6 hz2 (by simp) fun g3 _ s3=>hE g3 e (fun c o c1 _ c3 _ x=>s3.extBut _ _ c1 (s2 _ _ c3 (s1.extBut _ _ c1 x))) ⟨oe,s3.extBut _ _ ez hoe,hce⟩
 | some x =>
  have hy:ys[k2]?=none:=by rcases hend with h | h;rw [hx] at h;cases h;exact h
  refine Qa (yV (h1.but s1.extBut D.i1z) (hl1.but s1.extBut p1) hx fun g2 u2 s2=>Qf ?_)
  have t2:IsPair g2 TO a b:=s2.extBut _ _ D.TOi1 (s1.extBut _ _ D.TOz hTO)
  refine Qa (QR t2 rfl ?_)
  refine Qa (P1 t2 fun g3 t3 s3=>?_)
  refine Qa (wpAny_letGo (Qf ?_))
  refine Qa (Qa (P9 ?_))
  show wpAny _ _ (Builtin.SmallTypes.nextOf (.ref i2) >>= _) _ _ _
  refine Qa (j3 hh (((h2.but s1.extBut D.i2z).but s2.extBut D.i12.symm).but s3.extBut D.TOi2.symm) (((hl2.but s1.extBut q1).but s2.extBut q3).but s3.extBut q2) hy fun g4 e s4 he=>?_)
  obtain ⟨oe,hoe,hce⟩:=he
  have hz4:IsZip g4 z TI TO .ellipsis:=s4 _ _ D.i2z.symm (s3.extBut _ _ D.TOz.symm (s2.extBut _ _ D.i1z.symm hz1))
  have ez:e≠z:=fun x=>by subst x;rw [hz4] at hoe;cases hoe;simp at hce
  exact Q6 hz4 (by simp) fun g5 _ s5=>hE g5 e (fun c o c1 c2 c3 c4 x=>s5.extBut _ _ c1 (s4 _ _ c4 (s3.extBut _ _ c2 (s2.extBut _ _ c3 (s1.extBut _ _ c1 x))))) ⟨oe,s5.extBut _ _ ez hoe,hce⟩
theorem Je {Q:Option Value->Shared->Prop} (D:ZApart z TI TO i1 i2) (n1:We z TI TO i1 i2 l1) (n2:We z TI TO i1 i2 l2) (hz:IsZip s.heap z TI TO .none) (hTI:IsPair s.heap TI (.ref i1) (.ref i2)) (hTO:IsPair s.heap TO a b)
  (h1:Ze j1 s.heap i1 l1 k1) (h2:Ze j2 s.heap i2 l2 k2) (hl1:SeqAt j1 s.heap l1 xs) (hl2:SeqAt j2 s.heap l2 ys) (hx:xs[k1]?=some x) (hy:ys[k2]?=some y)
  (hQ:∀ h',IsZip h' z TI TO (rawInt s.heap.objs.size)->IsPair h' TO x y->Ze j1 h' i1 l1 (k1+1)->Ze j2 h' i2 l2 (k2+1)->IsPair h' s.heap.objs.size x y->h'.objs.size=s.heap.objs.size+1 ->
   (∀ c o,c≠z->c≠TO->c≠i1->c≠i2->s.heap.get? c=some o->h'.get? c=some o)->Q (some (.ref s.heap.objs.size)) { s with heap:=h' }):wpAny (model prog w) A (pyNext (.ref z)) Q E s:=by
 have hT:s.TypeIs (.ref z) "zip":=⟨_,hz,rfl⟩
 unfold pyNext
 exact Qa (Ua (QQ (name:=Str.ofString "__next__") hT F.slot_zip_next (QW F.slot_zip_next hT F.entry_zip_next
  (zipn_item D n1 n2 hz hTI hTO h1 h2 hl1 hl2 hx hy fun h' a1 a2 a3 a4 a5 a6 a7=>Qf (hQ h' a1 a2 a3 a4 a5 a6 a7)) (F.args_zip_next_1 _))))
theorem Jw {Q:Option Value->Shared->Prop} (hh:A.handled=none) (D:ZApart z TI TO i1 i2) (n1:We z TI TO i1 i2 l1) (n2:We z TI TO i1 i2 l2) (hz:IsZip s.heap z TI TO .none) (hTI:IsPair s.heap TI (.ref i1) (.ref i2)) (hTO:IsPair s.heap TO a b)
  (h1:Ze j1 s.heap i1 l1 k1) (h2:Ze j2 s.heap i2 l2 k2) (hl1:SeqAt j1 s.heap l1 xs) (hl2:SeqAt j2 s.heap l2 ys) (hend:xs[k1]?=none\/ys[k2]?=none)
  (hQ:∀ h',(∀ c o,c≠z->c≠TO->c≠i1->c≠i2->s.heap.get? c=some o->h'.get? c=some o)->Q none { s with heap:=h' }):wpAny (model prog w) A (pyNext (.ref z)) Q E s:=by
 have hT:s.TypeIs (.ref z) "zip":=⟨_,hz,rfl⟩
 unfold pyNext
 refine Qa (Ua (QQ (name:=Str.ofString "__next__") hT F.slot_zip_next (QW F.slot_zip_next hT F.entry_zip_next (zipn_end hh D n1 n2 hz hTI hTO h1 h2 hl1 hl2 hend fun h' e hk he=>?_) (F.args_zip_next_1 _))))
 obtain ⟨o,ho,hc⟩:=he
 refine Qa (wpAny_isInstance (T:="StopIteration") (b:=true) ⟨o,ho,hc⟩ isSubtype_stop ?_)
 exact Qf (hQ _ hk)
end
abbrev zH1 (j:Bool) (h:Heap) (l1:Addr):Heap:=h.push (GB j l1)
abbrev zH2 (j1 j2:Bool) (h:Heap) (l1 l2:Addr):Heap:=(zH1 j1 h l1).push (GB j2 l2)
abbrev zH3 (j1 j2:Bool) (h:Heap) (l1 l2:Addr):Heap:=(zH2 j1 j2 h l1 l2).push { cls:=.type "tuple",data:=.seq #[.ref h.objs.size,.ref (zH1 j1 h l1).objs.size] }
abbrev zH4 (j1 j2:Bool) (h:Heap) (l1 l2:Addr):Heap:=(zH3 j1 j2 h l1 l2).push { cls:=.type "tuple",data:=.seq #[.none,.none] }
abbrev zH5 (j1 j2:Bool) (h:Heap) (l1 l2:Addr):Heap:=(zH4 j1 j2 h l1 l2).push { cls:=.type "zip",data:=.fields #[.none,.bool false,.bool false,.ref (zH2 j1 j2 h l1 l2).objs.size,.ref (zH3 j1 j2 h l1 l2).objs.size] }
theorem zip_new (j1 j2:Bool) (l1 l2:Addr) (xs ys:Array Value) :
  Meets (Builtin.«zip.__new__» ⟨[.type "zip",.ref l1,.ref l2],[]⟩) (fun _ R s=>SeqAt j1 s.heap l1 xs/\SeqAt j2 s.heap l2 ys/\R (.ok (.ret (.ref (zH4 j1 j2 s.heap l1 l2).objs.size))) { s with heap:=zH5 j1 j2 s.heap l1 l2 }) :=
 .of_wp fun prog w A R s h=>by
  obtain ⟨hp,g,d,tk,os⟩:=s
  obtain ⟨hl1,hl2,h⟩:=h
  have hsub:=sub_zip
  have L1:SeqAt j1 (Shared.heap ⟨hp,g,d,tk,os⟩) l1 xs:=hl1
  have L2:SeqAt j2 (Shared.heap ⟨hp.push (GB j1 l1),g,d,tk,os⟩) l2 ys:=hl2.at fun o e=>Qc _ e
  wp_walk using Gj L1,Gj L2
  exact ⟨_,rfl,h⟩
section
variable {prog:Program} {w:World} {A:Around} {E:Value->Shared->Prop} {s:Shared}
theorem Wc {j1 j2:Bool} {l1 l2:Addr} {xs ys:Array Value} {Q:Value->Shared->Prop} (hl1:SeqAt j1 s.heap l1 xs) (hl2:SeqAt j2 s.heap l2 ys)
  (h:∀ h',IsZip h' (s.heap.objs.size+4) (s.heap.objs.size+2) (s.heap.objs.size+3) .none->IsPair h' (s.heap.objs.size+2) (.ref s.heap.objs.size) (.ref (s.heap.objs.size+1)) ->
   IsPair h' (s.heap.objs.size+3) .none .none->Ze j1 h' s.heap.objs.size l1 0->Ze j2 h' (s.heap.objs.size+1) l2 0->h'.objs.size=s.heap.objs.size+5 ->
   (∀ c o,s.heap.get? c=some o->h'.get? c=some o)->Q (.ref (s.heap.objs.size+4)) { s with heap:=h' }):wpAny (model prog w) A (call (.type "zip") [.ref l1,.ref l2]) Q E s:=by
 refine callType_new F.called_zip (by decide) (F.typeCall_zip_2 _ _) (F.newCall_zip_2 _ _) (fun obj=>F.args_object_init_3 obj _ _) F.entry_zip_new (zip_new j1 j2 l1 l2 xs ys) ⟨hl1,hl2,?_⟩
 have z1:(zH1 j1 s.heap l1).objs.size=s.heap.objs.size+1:=QH ..
 have z2:(zH2 j1 j2 s.heap l1 l2).objs.size=s.heap.objs.size+2:=by rw [QH,z1]
 have z3:(zH3 j1 j2 s.heap l1 l2).objs.size=s.heap.objs.size+3:=by rw [QH,z2]
 have z4:(zH4 j1 j2 s.heap l1 l2).objs.size=s.heap.objs.size+4:=by rw [QH,z3]
 have z5:(zH5 j1 j2 s.heap l1 l2).objs.size=s.heap.objs.size+5:=by rw [QH,z4]
 have g5:(zH5 j1 j2 s.heap l1 l2).get? (zH4 j1 j2 s.heap l1 l2).objs.size=some _:=Qp _ rfl
 have g4:(zH5 j1 j2 s.heap l1 l2).get? (zH3 j1 j2 s.heap l1 l2).objs.size=some _:=Qc _ (Qp _ rfl)
 have g3:(zH5 j1 j2 s.heap l1 l2).get? (zH2 j1 j2 s.heap l1 l2).objs.size=some _:=Qc _ (Qc _ (Qp _ rfl))
 have g2:(zH5 j1 j2 s.heap l1 l2).get? (zH1 j1 s.heap l1).objs.size=some (GB j2 l2):=Qc _ (Qc _ (Qc _ (Qp _ rfl)))
 have g1:(zH5 j1 j2 s.heap l1 l2).get? s.heap.objs.size=some (GB j1 l1):=Qc _ (Qc _ (Qc _ (Qc _ (Qp _ rfl))))
 show _/\_
 rw [z2,z3,z4] at g5
 rw [z1,z2] at g3
 rw [z3] at g4
 rw [z1] at g2
 rw [z4]
 exact ⟨⟨_,g5,rfl⟩,h _ g5 g3 g4 ⟨_,g1,rfl,rfl⟩ ⟨_,g2,rfl,rfl⟩ z5 fun c o x=>Qc _ (Qc _ (Qc _ (Qc _ (Qc _ x))))⟩
end
end L2
namespace L2
open PySem
open AutoSeq1 (wpAny_loadPart')
section
variable {prog:Program} {w:World} {A:Around} {E:Value->Shared->Prop} {s:Shared}
end
end L2
namespace L2
open PySem PySem.Spec PyProof.Rows
def Sq (k:Bool) (K:PySem.W.Frag) (H:Hp) (a:Addr) (xs:List V):Prop:=match k with | true=>SqL K H a xs | false=>SqT K H a xs
theorem Inv.seq {X:Cx} {pins:List (Addr×Obj)} {σ:St} {H:Hp} {s:Shared} {k:Bool} {a:Addr} {xs:List V} (I:Inv X pins σ H s) (h:Sq k X.K H a xs):∃ its:List Value,zV xs its/\SeqAt k s.heap a its.toArray/\xs.length<=sizeLine:=by
 cases k with
 | true=>obtain ⟨its,r,p,z⟩:=I.list h;exact ⟨its,r,p.isList,z⟩
 | false=>obtain ⟨its,r,p,z⟩:=I.tuple h;exact ⟨its,r,p,z⟩
theorem Inv.seq_inj {X:Cx} {pins:List (Addr×Obj)} {σ:St} {H:Hp} {s:Shared} {k:Bool} {a:Addr} {xs ys:List V} (I:Inv X pins σ H s) (h:Sq k X.K H a xs) (h':Sq k X.K H a ys):xs=ys:=by
 cases k with
 | true=>exact I.list_inj h h'
 | false=>exact I.tuple_inj h h'
def Itz (j1 j2:Bool) (K:PySem.W.Frag) (a b:Addr):It :=
  ⟨fun i H=>∃ xs ys x y,Sq j1 K H a xs/\Sq j2 K H b ys/\xs[i]?=some x/\ys[i]?=some y,
   fun i H v H'=>∃ p x y,v=.ref p/\H p=none/\H'=upd H p (.tup [x,y])/\(∀ xs,Sq j1 K H a xs->xs[i]?=some x)/\∀ ys,Sq j2 K H b ys->ys[i]?=some y,
   fun i H=>∃ xs ys,Sq j1 K H a xs/\Sq j2 K H b ys/\(xs.length<=i\/ys.length<=i)⟩
def tnZip (j1 j2:Bool) (z TI TO i1 i2 l1 l2:Addr) (i:Nat) (h:Heap):Prop:=IsZip h z TI TO .none/\IsPair h TI (.ref i1) (.ref i2)/\(∃ a b,IsPair h TO a b)/\Ze j1 h i1 l1 i/\Ze j2 h i2 l2 i
theorem JZ {X:Cx} {pins:List (Addr×Obj)} {σ:St} {H:Hp} {s:Shared} {k:Bool} {a b:Addr} {xs:List V} (I:Inv X pins σ H s) (h:Sq k X.K H a xs) (hb:wD X pins H b):a≠b:=by
 intro e
 subst e
 obtain ⟨h0,h1,h2,h3,h4,h5⟩:=hb
 have key:∀ u,Rd H a u->False:=fun u r=>by
  rcases r with r | ⟨o,r⟩ <;> (rw [h0] at r;cases r)
 have mod:∀ o,X.K.lookup a=some o->False:=fun o e=>by
  obtain ⟨o',e',_⟩:∃ o',X.base.get? a=some o'/\True:=⟨_,I.ok.mod.kin a o e,trivial⟩
  rcases h3 with z | z
  ·exact I.ok.noex a o' e' z
  ·have q1:@LT.lt Nat instLTNat a X.base.objs.size:=Qn e'
   have:=I.ok.bsz
   omega
 cases k with
 | true =>
  rcases h with h | ⟨o,_,_,e,_⟩
  ·exact key _ h
  ·exact mod o e
 | false =>
  rcases h with h | ⟨o,_,_,e,_⟩
  ·exact key _ h
  ·exact mod o e
theorem turn_zip {P:Program} {w:World} {K:PySem.W.Frag} {elts:List Expr} {kk:Nat} {pp:Pos} {j1 j2:Bool} {z TI TO i1 i2 l1 l2:Addr} (D:ZApart z TI TO i1 i2) :
  gi P w K (.Tuple elts kk pp) (Itz j1 j2 K l1 l2) [z,TI,TO,i1,i2] z (tnZip j1 j2 z TI TO i1 i2 l1 l2) where
 mem:=by simp
 obj:=fun i h st b hb=>by
  obtain ⟨a1,a2,⟨_,_,a3⟩,⟨o4,a4,_,d4⟩,⟨o5,a5,_,d5⟩⟩:=st
  simp only [Qb,Qk,or_false] at hb
  rcases hb with rfl | rfl | rfl | rfl | rfl
  ·exact ⟨_,a1,fun v q=>by cases (show Data.fields _=Data.cell v from q)⟩
  ·exact ⟨_,a2,fun v q=>by cases (show Data.seq _ _=Data.cell v from q)⟩
  ·exact ⟨_,a3,fun v q=>by cases (show Data.seq _ _=Data.cell v from q)⟩
  ·exact ⟨_,a4,fun v q=>by rw [d4] at q;cases q⟩
  ·exact ⟨_,a5,fun v q=>by rw [d5] at q;cases q⟩
 keep:=fun i h h' st k=>by
  obtain ⟨a1,a2,⟨a,b,a3⟩,a4,a5⟩:=st
  exact ⟨k z (by simp) _ a1,k TI (by simp) _ a2,⟨a,b,k TO (by simp) _ a3⟩,a4.at fun o e=>k i1 (by simp) o e,a5.at fun o e=>k i2 (by simp) o e⟩
 item:=by
  intro X hP hw hK hc i pins s σ H E I hf st hg
  subst hP hw hK
  obtain ⟨xs,ys,x,y,hq1,hq2,hx,hy⟩:=hg
  obtain ⟨its1,r1,p1,_⟩:=I.seq hq1
  obtain ⟨its2,r2,p2,_⟩:=I.seq hq2
  obtain ⟨u1,e1,ru1⟩:=r1.get hx
  obtain ⟨u2,e2,ru2⟩:=r2.get hy
  obtain ⟨a1,a2,⟨a,b,a3⟩,a4,a5⟩:=st
  have fz:=hf z (by simp)
  have fO:=hf TO (by simp)
  have f1:=hf i1 (by simp)
  have f2:=hf i2 (by simp)
  have fI:=hf TI (by simp)
  refine Je D ⟨JZ I hq1 fz,JZ I hq1 fO,JZ I hq1 f1,JZ I hq1 f2⟩ ⟨JZ I hq2 fz,JZ I hq2 fO,JZ I hq2 f1,JZ I hq2 f2⟩ a1 a2 a3 a4 a5 p1 p2 (x:=u1) (y:=u2) (by simpa using e1) (by simpa using e2) fun h' b1 b2 b3 b4 b5 b6 hk=>?_
  refine ⟨.ref s.heap.objs.size,rfl,wpAny_letOwnedTupleGo_zip b1 fun h2 c1 sb=>?_⟩
  have hlt:∀ c∈[z,TI,TO,i1,i2],c<s.heap.objs.size:=fun c hc=>by
   obtain ⟨⟨_,_⟩,q⟩:(∃ o,s.heap.get? c=some o)/\True:=⟨by
    simp only [Qb,Qk,or_false] at hc
    rcases hc with rfl | rfl | rfl | rfl | rfl
    ·exact ⟨_,a1⟩
    ·exact ⟨_,a2⟩
    ·exact ⟨_,a3⟩
    ·exact ⟨_,a4.choose_spec.1⟩
    ·exact ⟨_,a5.choose_spec.1⟩,trivial⟩
   rename_i o ho
   exact Qn ho
  have fr:H s.heap.objs.size=none:=I.hok.fresh (Ql _)
  have k2:∀ c o,c∉[z,TO,i1,i2]->s.heap.get? c=some o->h2.get? c=some o:=fun c o hc e=>by
   simp only [Qb,Qk,or_false,not_or] at hc
   exact (sb.2 c hc.1).trans (hk c o hc.1 hc.2.1 hc.2.2.1 hc.2.2.2 e)
  have T2:h2.get? s.heap.objs.size=some { cls:=.type "tuple",data:=.seq #[u1,u2] }:=(sb.2 _ (QD (hlt z (by simp)))).trans b5
  have hch:∀ b∈[z,TO,i1,i2],(b∈X.ex\/X.s₀.heap.objs.size<=b)/\b≠X.env.locals/\(∀ x c,X.env.cells.lookup x=some c->c≠b)/\∀ p∈X.pn++pins,p.1≠b:=fun b hb=>by
   have fb:wD X pins H b:=hf b (by simp only [Qb,Qk,or_false] at hb ⊢;rcases hb with rfl | rfl | rfl | rfl <;> simp)
   exact ⟨fb.2.2.2.1,fb.2.1,fb.2.2.2.2.1,fb.2.2.2.2.2⟩
  have hnone:∀ b∈[z,TO,i1,i2],H b=none:=fun b hb=>(hf b (by simp only [Qb,Qk,or_false] at hb ⊢;rcases hb with rfl | rfl | rfl | rfl <;> simp)).1
  have ntr:∀ b u,H b=some u->b∉[z,TO,i1,i2]:=fun b u e hb=>by rw [hnone b hb] at e;cases e
  have Hok:HOk X.prog X.w (upd H s.heap.objs.size (.tup [x,y])) h2:=fun c o e=>by
   by_cases hcs:c=s.heap.objs.size
   ·subst hcs
    rw [zw] at e
    cases e
    exact ⟨by show 2<=sizeLine;decide,[u1,u2],.cons ru1 (.cons ru2 .nil),⟨_,T2,rfl,_,rfl⟩⟩
   ·rw [zx hcs] at e
    refine (I.hok c o e).stay (fun d v hd q=>k2 d v ?_ q) (fun d q=>?_) fun d xs q=>?_
    ·rcases hd with rfl | hd
     ·exact ntr _ _ e
     ·exact ntr _ _ hd
    ·rw [zx (yf q fr)];exact q
    ·rw [zx (yf q fr)];exact q
  have nsz:∀ c o,s.heap.get? c=some o->c≠s.heap.objs.size:=fun c o e=>Qu (Qn e)
  have thr:∀ c∈[z,TO,i1,i2],∃ o,h2.get? c=some o:=fun c hc=>by
   simp only [Qb,Qk,or_false] at hc
   rcases hc with rfl | rfl | rfl | rfl
   ·exact ⟨_,c1⟩
   ·exact ⟨_,(sb.2 _ D.TOz).trans b2⟩
   ·obtain ⟨o,ho,_⟩:=b3;exact ⟨_,(sb.2 _ D.i1z).trans ho⟩
   ·obtain ⟨o,ho,_⟩:=b4;exact ⟨_,(sb.2 _ D.i2z).trans ho⟩
  have I2:Inv X pins σ (upd H s.heap.objs.size (.tup [x,y])) { s with heap:=h2,toks:=s.toks }:=by
   refine I.step (g':=s.gens) (d':=s.drawn) (ch:=[z,TO,i1,i2]) hch (fun b o _ _ hb e _=>k2 b o hb e) (fun b o _ _ hb e _=>⟨o.slots,k2 b o hb e⟩) (fun b o _ e n=>by rw [zx (nsz b o e)];exact n) (fun b o hb e=>⟨o,k2 b o hb e⟩)
    (fun b xs e=>by rw [zx (yf e fr)];exact e) (fun b o u e=>by rw [zx (yf e fr)];exact e) (fun b ps e=>⟨#[],by rw [zx (yf e fr),e];simp⟩) (fun m hm=>?_) Hok I.bare
   obtain ⟨o,es,ep,ho,r⟩:=hm
   refine ⟨o,es,ep,k2 _ o (fun hb=>(hch _ hb).2.1 rfl) ho,r⟩
  refine ⟨.ref s.heap.objs.size,_,I2,rfl,⟨_,x,y,rfl,fr,rfl,fun zs hz=>by rw [I.seq_inj hz hq1];exact hx,fun zs hz=>by rw [I.seq_inj hz hq2];exact hy⟩,⟨c1,?_,⟨_,_,(sb.2 _ D.TOz).trans b2⟩,b3.at fun o e=>(sb.2 _ D.i1z).trans e,b4.at fun o e=>(sb.2 _ D.i2z).trans e⟩,fun b hb=>?_⟩
  ·exact k2 TI _ (by simp only [Qb,Qk,or_false,not_or];exact ⟨D.TIz,D.TITO,D.TIi1,D.TIi2⟩) a2
  ·rw [zx (Qu (hlt b hb))];exact (hf b hb).1
 done:=by
  intro X hP hw hK hc i pins s σ H E I hf st hg
  subst hP hw hK
  obtain ⟨xs,ys,hq1,hq2,hend⟩:=hg
  obtain ⟨its1,r1,p1,_⟩:=I.seq hq1
  obtain ⟨its2,r2,p2,_⟩:=I.seq hq2
  obtain ⟨a1,a2,⟨a,b,a3⟩,a4,a5⟩:=st
  have fz:=hf z (by simp)
  have fO:=hf TO (by simp)
  have f1:=hf i1 (by simp)
  have f2:=hf i2 (by simp)
  have l1':=r1.length
  have l2':=r2.length
  refine Jw (I.ok.hd hc) D ⟨JZ I hq1 fz,JZ I hq1 fO,JZ I hq1 f1,JZ I hq1 f2⟩ ⟨JZ I hq2 fz,JZ I hq2 fO,JZ I hq2 f1,JZ I hq2 f2⟩ a1 a2 a3 a4 a5 p1 p2 (hend.imp (fun q=>by simp;omega) fun q=>by simp;omega) fun h' hk=>⟨rfl,?_⟩
  have hch:∀ b∈[z,TO,i1,i2],(b∈X.ex\/X.s₀.heap.objs.size<=b)/\b≠X.env.locals/\(∀ x c,X.env.cells.lookup x=some c->c≠b)/\∀ p∈X.pn++pins,p.1≠b:=fun b hb=>by
   have fb:wD X pins H b:=hf b (by simp only [Qb,Qk,or_false] at hb ⊢;rcases hb with rfl | rfl | rfl | rfl <;> simp)
   exact ⟨fb.2.2.2.1,fb.2.1,fb.2.2.2.2.1,fb.2.2.2.2.2⟩
  have hnone:∀ b∈[z,TO,i1,i2],H b=none:=fun b hb=>(hf b (by simp only [Qb,Qk,or_false] at hb ⊢;rcases hb with rfl | rfl | rfl | rfl <;> simp)).1
  have ntr:∀ b u,H b=some u->b∉[z,TO,i1,i2]:=fun b u e hb=>by rw [hnone b hb] at e;cases e
  have k2:∀ c o,c∉[z,TO,i1,i2]->s.heap.get? c=some o->h'.get? c=some o:=fun c o hc e=>by
   simp only [Qb,Qk,or_false,not_or] at hc
   exact hk c o hc.1 hc.2.1 hc.2.2.1 hc.2.2.2 e
  refine I.step (g':=s.gens) (d':=s.drawn) (t':=s.toks) (ch:=[z,TO,i1,i2]) hch (fun b o _ _ hb e _=>k2 b o hb e) (fun b o _ _ hb e _=>⟨o.slots,k2 b o hb e⟩) (fun b o _ e n=>n) (fun b o hb e=>⟨o,k2 b o hb e⟩)
   (fun b xs e=>e) (fun b o u e=>e) (fun b ps e=>⟨#[],by rw [e];simp⟩) (fun m hm=>?_) (fun c o e=>?_) I.bare
  ·obtain ⟨o,es,ep,ho,r⟩:=hm
   exact ⟨o,es,ep,k2 _ o (fun hb=>(hch _ hb).2.1 rfl) ho,r⟩
  ·refine (I.hok c o e).stay (fun d v hd q=>k2 d v ?_ q) (fun d q=>q) fun d xs q=>q
   rcases hd with rfl | hd
   ·exact ntr _ _ e
   ·exact ntr _ _ hd
 self:=fun _ _ _ _ _ st h=>wpAny_pyIter_zip st.1 h
theorem zapart_new (n:Nat):ZApart (n+4) (n+2) (n+3) n (n+1):=by
 constructor <;> exact (show ∀ a b:Nat,a≠b->a≠b from fun _ _ h=>h) _ _ (by omega)
section
variable {X:Cx}
def iZip (j1 j2:Bool) (K:PySem.W.Frag) (ta:TA):TI:=fun σ H R=>ta σ H fun vs H1=>∃ a b,vs=[.ref a,.ref b]/\(∃ xs,Sq j1 K H1 a xs)/\(∃ ys,Sq j2 K H1 b ys)/\R (Itz j1 j2 K a b) H1
theorem pi_zip (j1 j2:Bool) {elts:List Expr} {kk:Nat} {pp:Pos} {a b:Expr} {ta:TA} {p pos:Pos} (hg:Gl X "zip") (hm:X.mg "zip"=none) (ha:PA X [a,b] ta) (hs:starEach [a,b] X.env=[(false,eval a X.env),(false,eval b X.env)]:=by rfl) (hs2:starEach [b] X.env=[(false,eval b X.env)]:=by rfl) :
  PI X (.Tuple elts kk pp) (.Call (.Name "zip" p) [a,b] [] pos) (iZip j1 j2 X.K ta):=by
 intro pins s σ H R I h
 refine Call_ (JC I hg hm boot_zip (PyProof.Rows.callWith_type1 (thn (ha pos pins s σ H _ I h) fun us s1 ⟨vs,H1,I1,r1,q1⟩=>?_) (by rw [hs,hs2]) (by rw [hs2];rfl)))
 obtain ⟨a,b,e,⟨xs,hx⟩,⟨ys,hy⟩,q⟩:=q1
 subst e
 cases r1 with
 | cons r rr =>
  cases rr with
  | cons r' rr =>
   cases rr
   cases r
   cases r'
   obtain ⟨its1,_,p1,_⟩:=I1.seq hx
   obtain ⟨its2,_,p2,_⟩:=I1.seq hy
   refine Wc p1 p2 fun h' c1 c2 c3 c4 c5 c6 up=>wpAny_pyIter_zip c1 ?_
   have I2:Inv X pins σ H1 { s1 with heap:=h' }:=I1.kept (t':=s1.toks) up
   refine ⟨s1.heap.objs.size+4,[s1.heap.objs.size+4,s1.heap.objs.size+2,s1.heap.objs.size+3,s1.heap.objs.size,s1.heap.objs.size+1],_,_,H1,rfl,I2,turn_zip (j1:=j1) (j2:=j2) (TI:=s1.heap.objs.size+2) (TO:=s1.heap.objs.size+3) (i1:=s1.heap.objs.size) (i2:=s1.heap.objs.size+1) (zapart_new _),⟨c1,c2,⟨_,_,c3⟩,c4,c5⟩,fun b hb=>?_,q⟩
   have hb':@LE.le Nat instLENat s1.heap.objs.size b:=by
    simp only [Qb,Qk,or_false] at hb
    rcases hb with rfl | rfl | rfl | rfl | rfl
    ·exact Q4 _ 4
    ·exact Q4 _ 2
    ·exact Q4 _ 3
    ·exact Ql _
    ·exact Q4 _ 1
   have:=I1.fpOk (H':=H1) hb' (I1.hok.fresh hb')
   exact this
end
end L2
namespace M
open PySem PySem.Spec L2
open PySem.W (Frag)
inductive D where
 | non | bl (b:Bool) | int (i:Int) | str (x:Str) | tup (xs:List D) | lst (xs:List D) | dict (ks:List Key) (vs:List D)
  | scr (ns:List Int)
  | adr (a:Addr)
  | kset (ks:List (List Int))
  | tk (ns:List Int)
  | pin (a:Addr) (d:D)
def KL (K:Frag) (a:Addr) (xs:List V):Prop :=
 ∃ (o:Obj) (its:Array Value) (n:Nat),K.lookup a=some o/\o.cls=.type "list"/\o.dict=none/\o.data=.seq its n/\its.size<=sizeLine/\zV xs its.toList
def RL (K:Frag) (H:Hp) (B:Addr->Prop) (a:Addr) (xs:List V):Prop:=Rd H a (.lst xs)/\¬ B a
def RS (K:Frag) (H:Hp) (a:Addr) (xs:List V):Prop:=(∃ o,H a=some (.frz o (.lst xs)))\/KL K a xs
theorem RS.sq {K:Frag} {H:Hp} {a:Addr} {xs:List V} (h:RS K H a xs):SqL K H a xs:=by
 rcases h with h | h
 ·exact .inl (.inr h)
 ·exact .inr h
theorem RL.sq {K:Frag} {H:Hp} {B:Addr->Prop} {a:Addr} {xs:List V} (h:RL K H B a xs):SqL K H a xs:=.inl h.1
mutual
def Rep (K:Frag) (H:Hp) (B:Addr->Prop):D->V->Prop
 | .non,v=>v=.non
 | .bl b,v=>v=.bl b
 | .int i,v=>v=.int i
 | .str x,v=>v=.str x
 | .tup ds,v=>∃ a xs,v=.ref a/\SqT K H a xs/\zt K H B ds xs
 | .lst ds,v=>∃ a xs,v=.ref a/\RL K H B a xs/\zt K H B ds xs
 | .dict ks ds,v=>∃ a kvs,v=.ref a/\(H a=some (.dK kvs)/\¬ B a)/\kvs.map (·.1)=ks/\zt K H B ds (kvs.map (·.2))
 | .scr ns,v=>∃ a,v=.ref a/\RS K H a (ns.map V.int)
 | .adr a,v=>v=.ref a
 | .kset _,v=>∃ a,v=.ref a
 | .tk ns,v=>∃ a,v=.ref a/\H a=some (.tup (ns.map V.int))
 | .pin a d,v=>v=.ref a/\Rep K H B d v
def zt (K:Frag) (H:Hp) (B:Addr->Prop):List D->List V->Prop
 | [],vs=>vs=[]
 | d::ds,vs=>∃ v r,vs=v::r/\Rep K H B d v/\zt K H B ds r
end
mutual
def D.flat:D->Bool
 | .tup ds=>YL ds
 | .lst _=>false
 | .dict _ _=>false
 | .kset _=>false
 | .pin _ d=>d.flat
 | _=>true
def YL:List D->Bool
 | []=>true
 | d::ds=>d.flat&&YL ds
end
section
variable {K:Frag} {H H':Hp} {B B':Addr->Prop}
theorem SqT.same {a:Addr} {xs:List V} (e:zX H H') (h:SqT K H a xs):SqT K H' a xs:=by
 rcases h with (h | ⟨o,h⟩) | h
 ·exact .inl (.inl (e _ _ h))
 ·exact .inl (.inr ⟨o,e _ _ h⟩)
 ·exact .inr h
theorem Rd.same {a:Addr} {u:HO} (e:zX H H') (h:Rd H a u):Rd H' a u:=by
 rcases h with h | ⟨o,h⟩
 ·exact .inl (e _ _ h)
 ·exact .inr ⟨o,e _ _ h⟩
structure Goes (H H':Hp) (B B':Addr->Prop):Prop where
 tup:∀ a xs,Rd H a (.tup xs)->Rd H' a (.tup xs)
 lst:∀ a xs,Rd H a (.lst xs)->¬ B a->Rd H' a (.lst xs)/\¬ B' a
 dct:∀ a kvs,H a=some (.dK kvs)->¬ B a->H' a=some (.dK kvs)/\¬ B' a
 frz:∀ a o u,H a=some (.frz o u)->H' a=some (.frz o u)
 tkt:∀ a xs,H a=some (.tup xs)->H' a=some (.tup xs)
mutual
theorem Rep.goes (g:Goes H H' B B'):∀ (d:D) (v:V),Rep K H B d v->Rep K H' B' d v
 | .non,v,h=>by simpa [Rep] using h
 | .bl b,v,h=>by simpa [Rep] using h
 | .int i,v,h=>by simpa [Rep] using h
 | .str x,v,h=>by simpa [Rep] using h
 | .tup ds,v,h=>by
  simp only [Rep] at h ⊢
  obtain ⟨a,xs,e,hq,hr⟩:=h
  refine ⟨a,xs,e,?_,zt.goes g ds xs hr⟩
  rcases hq with hq | hq
  ·exact .inl (g.tup a xs hq)
  ·exact .inr hq
 | .lst ds,v,h=>by
  simp only [Rep] at h ⊢
  obtain ⟨a,xs,e,hq,hr⟩:=h
  exact ⟨a,xs,e,g.lst a xs hq.1 hq.2,zt.goes g ds xs hr⟩
 | .dict ks ds,v,h=>by
  simp only [Rep] at h ⊢
  obtain ⟨a,kvs,e,⟨hq,hb⟩,hk,hr⟩:=h
  exact ⟨a,kvs,e,g.dct a kvs hq hb,hk,zt.goes g ds _ hr⟩
 | .scr ns,v,h=>by
  simp only [Rep] at h ⊢
  obtain ⟨a,e,hq⟩:=h
  refine ⟨a,e,?_⟩
  rcases hq with ⟨o,hq⟩ | hq
  ·exact .inl ⟨o,g.frz a o _ hq⟩
  ·exact .inr hq
 | .adr a,v,h=>by simpa [Rep] using h
 | .kset ks,v,h=>by simpa [Rep] using h
 | .tk ns,v,h=>by
  simp only [Rep] at h ⊢
  obtain ⟨a,e,q⟩:=h
  exact ⟨a,e,g.tkt a _ q⟩
 | .pin a d,v,h=>by
  simp only [Rep] at h ⊢
  exact ⟨h.1,Rep.goes g d v h.2⟩
theorem zt.goes (g:Goes H H' B B'):∀ (ds:List D) (vs:List V),zt K H B ds vs->zt K H' B' ds vs
 | [],vs,h=>by simpa [zt] using h
 | d::ds,vs,h=>by
  simp only [zt] at h ⊢
  obtain ⟨v,r,e,h1,h2⟩:=h
  exact ⟨v,r,e,Rep.goes g d v h1,zt.goes g ds r h2⟩
end
theorem Goes.less (h:∀ a,B' a->B a) (e:zX H H'):Goes H H' B B' :=
 ⟨fun _ _ q=>Rd.same e q,fun a _ q n=>⟨Rd.same e q,fun z=>n (h a z)⟩,fun a _ q n=>⟨e _ _ q,fun z=>n (h a z)⟩,fun _ _ _ q=>e _ _ q,fun _ _ q=>e _ _ q⟩
theorem Goes.same (e:zX H H'):Goes H H' B B:=.less (fun _ z=>z) e
theorem Goes.fresh {a:Addr} (hn:H a=none) (e:zX H H'):Goes H H' B (fun b=>B b\/b=a) :=
  ⟨fun _ _ q=>Rd.same e q,fun b xs q n=>⟨Rd.same e q,fun z=>z.elim n fun z=>by subst z;rcases q with q | ⟨o,q⟩ <;> (rw [hn] at q;cases q)⟩,
   fun b _ q n=>⟨e _ _ q,fun z=>z.elim n fun z=>by subst z;rw [hn] at q;cases q⟩,fun _ _ _ q=>e _ _ q,fun _ _ q=>e _ _ q⟩
theorem Goes.write {a:Addr} {o u:HO} (hB:B a) (ha:H a=some u) (hm:Mut (some u)):Goes H (upd H a o) B B:=by
 have nt:∀ b w,H b=some w->(¬ ∃ z:Mut (some w),True)->b≠a:=fun b w q z e=>by subst e;rw [ha] at q;cases q;exact z ⟨hm,trivial⟩
 refine ⟨fun b xs q=>?_,fun b xs q n=>?_,fun b kvs q n=>?_,fun b ob w q=>by rw [zx (nt b _ q fun ⟨z,_⟩=>z)];exact q,fun b xs q=>by rw [zx (nt b _ q fun ⟨z,_⟩=>z)];exact q⟩
 ·rcases q with q | ⟨ob,q⟩
  ·exact .inl (by rw [zx (nt b _ q fun ⟨z,_⟩=>z)];exact q)
  ·exact .inr ⟨ob,by rw [zx (nt b _ q fun ⟨z,_⟩=>z)];exact q⟩
 ·have hne:b≠a:=fun e=>n (by rw [e];exact hB)
  refine ⟨?_,n⟩
  rcases q with q | ⟨ob,q⟩
  ·exact .inl (by rw [zx hne];exact q)
  ·exact .inr ⟨ob,by rw [zx hne];exact q⟩
 ·have hne:b≠a:=fun e=>n (by rw [e];exact hB)
  exact ⟨by rw [zx hne];exact q,n⟩
mutual
theorem Rep.flat:∀ (d:D) (v:V),d.flat=true->Rep K H B d v->Rep K H B' d v
 | .non,v,_,h=>by simpa [Rep] using h
 | .bl b,v,_,h=>by simpa [Rep] using h
 | .int i,v,_,h=>by simpa [Rep] using h
 | .str x,v,_,h=>by simpa [Rep] using h
 | .tup ds,v,f,h=>by
  simp only [Rep] at h ⊢
  simp only [D.flat] at f
  obtain ⟨a,xs,e,hq,hr⟩:=h
  exact ⟨a,xs,e,hq,zt.flat ds xs f hr⟩
 | .lst ds,v,f,h=>by simp [D.flat] at f
 | .dict ks ds,v,f,h=>by simp [D.flat] at f
 | .scr ns,v,f,h=>by simpa [Rep] using h
 | .adr a,v,f,h=>by simpa [Rep] using h
 | .kset ks,v,f,h=>by simp [D.flat] at f
 | .tk ns,v,f,h=>by simpa [Rep] using h
 | .pin a d,v,f,h=>by
  simp only [Rep] at h ⊢
  simp only [D.flat] at f
  exact ⟨h.1,Rep.flat d v f h.2⟩
theorem zt.flat:∀ (ds:List D) (vs:List V),YL ds=true->zt K H B ds vs->zt K H B' ds vs
 | [],vs,_,h=>by simpa [zt] using h
 | d::ds,vs,f,h=>by
  simp only [zt] at h ⊢
  simp only [YL,QO] at f
  obtain ⟨v,r,e,h1,h2⟩:=h
  exact ⟨v,r,e,Rep.flat d v f.1 h1,zt.flat ds r f.2 h2⟩
end
theorem zt.length:∀ {ds:List D} {vs:List V},zt K H B ds vs->vs.length=ds.length
 | [],vs,h=>by simp only [zt] at h;subst h;rfl
 | d::ds,vs,h=>by
  simp only [zt] at h
  obtain ⟨v,r,e,h1,h2⟩:=h
  subst e
  simp [zt.length h2]
theorem zt.get:∀ {ds:List D} {vs:List V} {i:Nat} {d:D},zt K H B ds vs->ds[i]?=some d->∃ v,vs[i]?=some v/\Rep K H B d v
 | [],vs,i,d,h,e=>by simp at e
 | d::ds,vs,0,d',h,e=>by
  simp only [zt] at h
  obtain ⟨v,r,ev,h1,h2⟩:=h
  simp at e;subst e;subst ev
  exact ⟨v,rfl,h1⟩
 | d::ds,vs,i+1,d',h,e=>by
  simp only [zt] at h
  obtain ⟨v,r,ev,h1,h2⟩:=h
  subst ev
  obtain ⟨v',q1,q2⟩:=zt.get (i:=i) (d:=d') h2 (by simpa using e)
  exact ⟨v',by simpa using q1,q2⟩
theorem zt.append:∀ {ds es:List D} {vs ws:List V},zt K H B ds vs->zt K H B es ws->zt K H B (ds++es) (vs++ws)
 | [],es,vs,ws,h,h'=>by simp only [zt] at h;subst h;exact h'
 | d::ds,es,vs,ws,h,h'=>by
  simp only [zt] at h
  obtain ⟨v,r,ev,h1,h2⟩:=h
  subst ev
  simp only [PD,zt]
  exact ⟨v,r++ws,rfl,h1,zt.append h2 h'⟩
theorem zt.nil:zt K H B [] []:=by simp [zt]
theorem zt.cons {d:D} {ds:List D} {v:V} {vs:List V} (h:Rep K H B d v) (h':zt K H B ds vs):zt K H B (d::ds) (v::vs):=by
 simp only [zt];exact ⟨v,vs,rfl,h,h'⟩
theorem zt.one {d:D} {v:V} (h:Rep K H B d v):zt K H B [d] [v]:=.cons h .nil
theorem zt.set:∀ {ds:List D} {vs:List V} {d:D} {v:V} (i:Nat),zt K H B ds vs->Rep K H B d v->zt K H B (ds.set i d) (vs.set i v)
 | [],vs,d,v,i,h,_=>by simp only [zt] at h;subst h;simp [zt]
 | d'::ds,vs,d,v,0,h,h'=>by
  simp only [zt] at h
  obtain ⟨v',r,ev,h1,h2⟩:=h
  subst ev
  exact .cons h' h2
 | d'::ds,vs,d,v,i+1,h,h'=>by
  simp only [zt] at h
  obtain ⟨v',r,ev,h1,h2⟩:=h
  subst ev
  exact .cons h1 (zt.set i h2 h')
theorem zt.take:∀ {ds:List D} {vs:List V} (n:Nat),zt K H B ds vs->zt K H B (ds.take n) (vs.take n)
 | [],vs,n,h=>by simp only [zt] at h;subst h;simp [zt]
 | d::ds,vs,0,h=>by simp [zt]
 | d::ds,vs,n+1,h=>by
  simp only [zt] at h
  obtain ⟨v',r,ev,h1,h2⟩:=h
  subst ev
  exact .cons h1 (zt.take n h2)
theorem zt.drop:∀ {ds:List D} {vs:List V} (n:Nat),zt K H B ds vs->zt K H B (ds.drop n) (vs.drop n)
 | [],vs,n,h=>by simp only [zt] at h;subst h;simp [zt]
 | d::ds,vs,0,h=>h
 | d::ds,vs,n+1,h=>by
  simp only [zt] at h
  obtain ⟨v',r,ev,h1,h2⟩:=h
  subst ev
  exact zt.drop n h2
theorem zt.rep {ds:List D} {vs:List V} (h:zt K H B ds vs):∀ k:Nat,zt K H B (List.replicate k ds).flatten (List.replicate k vs).flatten
 | 0=>.nil
 | k+1=>by
  rw [QJ,QJ,QU,QU]
  exact .append h (zt.rep h k)
theorem zt.reverse:∀ {ds:List D} {vs:List V},zt K H B ds vs->zt K H B ds.reverse vs.reverse
 | [],vs,h=>by simp only [zt] at h;subst h;exact .nil
 | d::ds,vs,h=>by
  simp only [zt] at h
  obtain ⟨v',r,ev,h1,h2⟩:=h
  subst ev
  rw [PN,PN]
  exact .append (zt.reverse h2) (.one h1)
theorem zt.ints {ns:List Int}:zt K H B (ns.map D.int) (ns.map V.int):=by
 induction ns with
 | nil=>exact .nil
 | cons n r ih=>exact .cons (by simp [Rep]) ih
theorem zt.ints':∀ {ns:List Int} {vs:List V},zt K H B (ns.map D.int) vs->vs=ns.map V.int
 | [],vs,h=>by simpa [zt] using h
 | n::r,vs,h=>by
  simp only [Qq,zt,Rep] at h
  obtain ⟨v,r',e,h1,h2⟩:=h
  subst e;subst h1
  rw [zt.ints' h2];rfl
end
abbrev Ev:=List (Option D)
def Bl (Ue:Addr->Prop) (os:List Nat) (σ:St) (a:Addr):Prop:=Ue a\/∃ i,i∈os/\σ[i]?=some (some (.ref a))
def BB (st:Bool) (Ue:Addr->Prop) (os:List Nat) (σ:St):Addr->Prop:=match st with | true=>Bl Ue os σ | false=>Ue
def Own (K:Frag) (H:Hp) (B:Addr->Prop):HO->D->Prop
 | .lst xs,.lst ds=>zt K H B ds xs
 | .dK kvs,.dict ks ds=>kvs.map (·.1)=ks/\zt K H B ds (kvs.map (·.2))
 | .dT kvs,.kset ks=>kvs=ks.map fun k=>(k.map Sum.inl,V.bl true)
 | _,_=>False
theorem Own.goes {K:Frag} {H H':Hp} {B B':Addr->Prop} (g:Goes H H' B B') {o:HO} {d:D} (h:Own K H B o d):Own K H' B' o d:=by
 cases o <;> cases d <;> simp only [Own] at h ⊢
 ·exact zt.goes g _ _ h
 ·exact ⟨h.1,zt.goes g _ _ h.2⟩
 ·exact h
theorem Own.mut {K:Frag} {H:Hp} {B:Addr->Prop} {o:HO} {d:D} (h:Own K H B o d):Mut (some o):=by
 cases o <;> cases d <;> simp only [Own] at h <;> trivial
structure Md (K:Frag) (Ud:Hp) (Ue:Addr->Prop) (os:List Nat) (σ:St) (H:Hp) (ρ:Ev):Prop where
 grow:zX Ud H
 blk:∀ a,Ue a->∃ o,H a=some o
 len:σ.length=ρ.length
 sh:∀ (i:Nat) d,ρ[i]?=some (some d)->i∉os->∃ v,σ[i]?=some (some v)/\Rep K H (Bl Ue os σ) d v
 own:∀ (i:Nat),i∈os->∃ a o d,σ[i]?=some (some (.ref a))/\ρ[i]?=some (some d)/\H a=some o/\(Ud a=none/\¬ Ue a)/\Own K H (Bl Ue os σ) o d
 sep:∀ (i j:Nat) a,i∈os->j∈os->σ[i]?=some (some (.ref a))->σ[j]?=some (some (.ref a))->i=j
section
variable {K:Frag} {Ud H H':Hp} {Ue:Addr->Prop} {os os':List Nat} {σ:St} {ρ:Ev}
theorem Md.up (m:Md K Ud Ue os σ H ρ) (e:zX H H'):Md K Ud Ue os σ H' ρ where
 grow:=m.grow.trans e
 blk:=fun a h=>let ⟨o,q⟩:=m.blk a h;⟨o,e _ _ q⟩
 len:=m.len
 sh:=fun i d q n=>by obtain ⟨v,h1,h2⟩:=m.sh i d q n;exact ⟨v,h1,Rep.goes (.same e) _ _ h2⟩
 own:=fun i hi=>by
  obtain ⟨a,o,d,h1,h2,h3,h4,h5⟩:=m.own i hi
  exact ⟨a,o,d,h1,h2,e _ _ h3,h4,h5.goes (.same e)⟩
 sep:=m.sep
theorem Md.tracked (m:Md K Ud Ue os σ H ρ) {a:Addr} (h:Bl Ue os σ a):∃ o,H a=some o:=by
 rcases h with h | ⟨i,hi,e⟩
 ·exact m.blk a h
 ·obtain ⟨a',o,d,h1,_,h3,_⟩:=m.own i hi
  rw [e] at h1;cases h1
  exact ⟨o,h3⟩
theorem Md.ntracked (m:Md K Ud Ue os σ H ρ) {a:Addr} (h:H a=none):¬ Bl Ue os σ a:=fun z=>by
 obtain ⟨o,q⟩:=m.tracked z;rw [h] at q;cases q
theorem Md.freeze (m:Md K Ud Ue os σ H ρ) (hs:∀ i∈os',i∈os):Md K Ud Ue os' σ H ρ:=by
 have less:∀ a,Bl Ue os' σ a->Bl Ue os σ a:=fun a z=>z.elim .inl fun ⟨i,h1,h2⟩=>.inr ⟨i,hs i h1,h2⟩
 have g:Goes H H (Bl Ue os σ) (Bl Ue os' σ):=.less less (.refl H)
 refine ⟨m.grow,m.blk,m.len,fun i d q n=>?_,fun i hi=>?_,fun i j a h1 h2=>m.sep i j a (hs i h1) (hs j h2)⟩
 ·by_cases hi:i∈os
  ·obtain ⟨a,o,d',h1,h2,h3,h4,h5⟩:=m.own i hi
   rw [q] at h2;cases h2
   refine ⟨_,h1,?_⟩
   have nb:¬ Bl Ue os' σ a:=fun z=>by
    rcases z with z | ⟨j,hj,e⟩
    ·exact h4.2 z
    ·exact n ((m.sep i j a hi (hs j hj) h1 e)▸hj)
   cases o <;> cases d <;> simp only [Own] at h5
   ·simp only [Rep];exact ⟨a,_,rfl,⟨.inl h3,nb⟩,zt.goes g _ _ h5⟩
   ·simp only [Rep];exact ⟨a,_,rfl,⟨h3,nb⟩,h5.1,zt.goes g _ _ h5.2⟩
   ·simp only [Rep];exact ⟨a,rfl⟩
  ·obtain ⟨v,h1,h2⟩:=m.sh i d q hi
   exact ⟨v,h1,Rep.goes g _ _ h2⟩
 ·obtain ⟨a,o,d,h1,h2,h3,h4,h5⟩:=m.own i (hs i hi)
  exact ⟨a,o,d,h1,h2,h3,h4,h5.goes g⟩
theorem zd {α:Type} {l:List α} {i j:Nat} {x:α} (h:j≠i):(l.set i x)[j]?=l[j]?:=by
 rw [List.getElem?_set];simp [Ne.symm h]
theorem yT {α:Type} {l:List α} {i:Nat} {x y:α} (h:(l.set i x)[i]?=some y):y=x:=by
 rw [List.getElem?_set] at h
 by_cases hi:i<l.length
 ·simp [hi] at h;exact h.symm
 ·simp [hi] at h
theorem zN {α:Type} {l:List α} {i:Nat} {x:α} (h:i<l.length):(l.set i x)[i]?=some x:=by simp [h]
theorem Md.put (m:Md K Ud Ue os σ H ρ) {i:Nat} {v:V} {d:D} (hs:∀ j∈os',j∈os/\j≠i) (hs2:∀ j∈os,j∈os'\/j=i) (h:Rep K H (Bl Ue os σ) d v):Md K Ud Ue os' (σ.set i (some v)) H (ρ.set i (some d)):=by
 have less:∀ a,Bl Ue os' (σ.set i (some v)) a->Bl Ue os σ a:=fun a z=>z.elim .inl fun ⟨j,h1,h2⟩=>.inr ⟨j,(hs j h1).1,by rw [zd (hs j h1).2] at h2;exact h2⟩
 have g:Goes H H (Bl Ue os σ) (Bl Ue os' (σ.set i (some v))):=.less less (.refl H)
 refine ⟨m.grow,m.blk,by rw [Qo,Qo];exact m.len,fun j e q n=>?_,fun j hj=>?_,fun j k a h1 h2=>?_⟩
 ·by_cases hj:j=i
  ·subst hj
   have:=yT q
   cases this
   have hi:j<ρ.length:=by have:=(Qm.mp q).1;rwa [Qo] at this
   exact ⟨v,zN (by rw [m.len];exact hi),Rep.goes g _ _ h⟩
  ·rw [zd hj] at q
   obtain ⟨w',h1,h2⟩:=m.sh j e q (fun z=>(hs2 j z).elim n hj)
   exact ⟨w',by rw [zd hj];exact h1,Rep.goes g _ _ h2⟩
 ·obtain ⟨a,o,e,h1,h2,h3,h4,h5⟩:=m.own j (hs j hj).1
  exact ⟨a,o,e,by rw [zd (hs j hj).2];exact h1,by rw [zd (hs j hj).2];exact h2,h3,h4,h5.goes g⟩
 ·rw [zd (hs j h1).2,zd (hs k h2).2]
  exact m.sep j k a (hs j h1).1 (hs k h2).1
theorem Md.putNew (m:Md K Ud Ue os σ H ρ) {i:Nat} {a:Addr} {o:HO} {d:D} (hi:i<ρ.length) (hs:∀ j∈os',j=i\/(j∈os/\j≠i)) (hs2:∀ j∈os,j∈os'\/j=i) (hm:i∈os') (e:zX H H') (hn:H a=none) (ho:H' a=some o)
  (h:Own K H' (fun b=>Bl Ue os σ b\/b=a) o d):Md K Ud Ue os' (σ.set i (some (.ref a))) H' (ρ.set i (some d)):=by
 have hil:i<σ.length:=by rw [m.len];exact hi
 have less:∀ b,Bl Ue os' (σ.set i (some (.ref a))) b->Bl Ue os σ b\/b=a:=fun b z=>by
  rcases z with z | ⟨j,h1,h2⟩
  ·exact .inl (.inl z)
  ·rcases hs j h1 with rfl | ⟨q1,q2⟩
   ·rw [zN hil] at h2;cases h2;exact .inr rfl
   ·rw [zd q2] at h2;exact .inl (.inr ⟨j,q1,h2⟩)
 have g:Goes H H' (Bl Ue os σ) (Bl Ue os' (σ.set i (some (.ref a)))):=by
  have g1:=Goes.fresh (B:=Bl Ue os σ) hn e
  exact ⟨g1.tup,fun b xs q n=>⟨(g1.lst b xs q n).1,fun z=>(g1.lst b xs q n).2 (less b z)⟩,fun b xs q n=>⟨(g1.dct b xs q n).1,fun z=>(g1.dct b xs q n).2 (less b z)⟩,g1.frz,g1.tkt⟩
 have h0:Ud a=none/\¬ Ue a:=⟨m.grow.free hn,fun z=>by obtain ⟨u,q⟩:=m.blk a z;rw [hn] at q;cases q⟩
 refine ⟨m.grow.trans e,fun b h=>(let ⟨u,q⟩:=m.blk b h;⟨u,e _ _ q⟩),by rw [Qo,Qo];exact m.len,fun j c q n=>?_,fun j hj=>?_,fun j k b h1 h2=>?_⟩
 ·have hj:j≠i:=fun z=>n (z▸hm)
  rw [zd hj] at q
  obtain ⟨w',h1,h2⟩:=m.sh j c q (fun z=>(hs2 j z).elim n hj)
  exact ⟨w',by rw [zd hj];exact h1,Rep.goes g _ _ h2⟩
 ·rcases hs j hj with rfl | ⟨q1,q2⟩
  ·exact ⟨a,o,d,zN hil,zN hi,ho,h0,h.goes (.less less (.refl H'))⟩
  ·obtain ⟨b,u,c,h1,h2,h3,h4,h5⟩:=m.own j q1
   exact ⟨b,u,c,by rw [zd q2];exact h1,by rw [zd q2];exact h2,e _ _ h3,h4,h5.goes g⟩
 ·have nown:∀ l,l∈os->σ[l]?=some (some (.ref a))->False:=fun l hl q=>by
   obtain ⟨b,u,c,h1,h2,h3,_⟩:=m.own l hl
   rw [q] at h1;cases h1
   rw [hn] at h3;cases h3
  intro e1 e2
  rcases hs j h1 with rfl | ⟨q1,q2⟩
  ·rcases hs k h2 with rfl | ⟨q3,q4⟩
   ·rfl
   ·rw [zN hil] at e1;cases e1
    rw [zd q4] at e2
    exact (nown k q3 e2).elim
  ·rcases hs k h2 with rfl | ⟨q3,q4⟩
   ·rw [zN hil] at e2;cases e2
    rw [zd q2] at e1
    exact (nown j q1 e1).elim
   ·rw [zd q2] at e1;rw [zd q4] at e2
    exact m.sep j k b q1 q3 e1 e2
theorem Md.write (m:Md K Ud Ue os σ H ρ) {i:Nat} {a:Addr} {o:HO} {d:D} (hi:i∈os) (hs:σ[i]?=some (some (.ref a)))
  (h:Own K H (Bl Ue os σ) o d):Md K Ud Ue os σ (upd H a o) (ρ.set i (some d)):=by
 obtain ⟨a',o',d',h1,h2,h3,h4,h5⟩:=m.own i hi
 rw [hs] at h1;cases h1
 have hB:Bl Ue os σ a:=.inr ⟨i,hi,hs⟩
 have g:Goes H (upd H a o) (Bl Ue os σ) (Bl Ue os σ):=.write hB h3 h5.mut
 have hil:i<ρ.length:=(Qm.mp h2).1
 refine ⟨fun b u q=>?_,fun b hb=>?_,by rw [Qo];exact m.len,fun j c q n=>?_,fun j hj=>?_,m.sep⟩
 rotate_left
 ·by_cases z:b=a
  ·subst z;exact ⟨_,zw⟩
  ·rw [zx z];exact m.blk b hb
 rotate_left
 rotate_left
 ·by_cases hb:b=a
  ·subst hb;rw [h4.1] at q;cases q
  ·rw [zx hb];exact m.grow _ _ q
 ·have hj:j≠i:=fun z=>n (z▸hi)
  rw [zd hj] at q
  obtain ⟨w',q1,q2⟩:=m.sh j c q n
  exact ⟨w',q1,Rep.goes g _ _ q2⟩
 ·by_cases hji:j=i
  ·subst hji
   exact ⟨a,o,d,hs,zN hil,zw,h4,h.goes g⟩
  ·obtain ⟨b,u,c,q1,q2,q3,q4,q5⟩:=m.own j hj
   have hb:b≠a:=fun z=>hji (m.sep j i a hj hi (z▸q1) hs)
   exact ⟨b,u,c,q1,by rw [zd hji];exact q2,by rw [zx hb];exact q3,q4,q5.goes g⟩
theorem Md.get (m:Md K Ud Ue os σ H ρ) {i:Nat} {d:D} (q:ρ[i]?=some (some d)):∃ v,σ[i]?=some (some v)/\Rep K H Ue d v:=by
 obtain ⟨v,h1,h2⟩:=(m.freeze (os':=[]) (fun _ z=>nomatch z)).sh i d q (by simp)
 exact ⟨v,h1,Rep.goes (.less (fun a z=>.inl z) (.refl H)) _ _ h2⟩
def Jn (H:Hp) (os:List Nat) (σ:St):Hp:=fun a=>open Classical in if ∃ i,i∈os/\σ[i]?=some (some (.ref a)) then none else H a
theorem unown_of {a:Addr} {o:HO} (h:Jn H os σ a=some o):H a=some o/\¬ ∃ i,i∈os/\σ[i]?=some (some (.ref a)):=by
 unfold Jn at h
 split at h
 ·cases h
 ·rename_i z;exact ⟨h,z⟩
theorem jB {a:Addr} (h:¬ ∃ i,i∈os/\σ[i]?=some (some (.ref a))):Jn H os σ a=H a:=by
 unfold Jn;rw [if_neg h]
theorem unown_own {a:Addr} (h:∃ i,i∈os/\σ[i]?=some (some (.ref a))):Jn H os σ a=none:=by
 unfold Jn;rw [if_pos h]
theorem Md.sub (m:Md K Ud Ue os σ H ρ):zX Ud (Jn H os σ):=fun a o q=>by
 have:¬ ∃ i,i∈os/\σ[i]?=some (some (.ref a)):=fun ⟨i,hi,e⟩=>by
  obtain ⟨a',o',d,h1,_,_,h4,_⟩:=m.own i hi
  rw [e] at h1;cases h1
  rw [h4.1] at q;cases q
 rw [jB this];exact m.grow _ _ q
theorem Md.deep (m:Md K Ud Ue os σ H ρ):Md K (Jn H os σ) Ue os σ H ρ :=
 ⟨fun a o q=>(unown_of q).1,m.blk,m.len,m.sh,fun i hi=>by
  obtain ⟨a,o,d,h1,h2,h3,h4,h5⟩:=m.own i hi
  exact ⟨a,o,d,h1,h2,h3,⟨unown_own ⟨i,hi,h1⟩,h4.2⟩,h5⟩,m.sep⟩
theorem Md.shallow {H₁:Hp} (m:Md K H₁ Ue os σ H ρ) (e:zX Ud H₁):Md K Ud Ue os σ H ρ :=
 ⟨e.trans m.grow,m.blk,m.len,m.sh,fun i hi=>by
  obtain ⟨a,o,d,h1,h2,h3,h4,h5⟩:=m.own i hi
  exact ⟨a,o,d,h1,h2,h3,⟨e.free h4.1,h4.2⟩,h5⟩,m.sep⟩
theorem Md.goDown (m:Md K Ud Ue os σ H ρ):Goes H (Jn H os σ) (Bl Ue os σ) Ue:=by
 have nt:∀ a xs,Rd H a (.tup xs)->¬ ∃ i,i∈os/\σ[i]?=some (some (.ref a)):=fun a xs q ⟨i,hi,e⟩=>by
  obtain ⟨a',o',d,h1,_,h3,_,h5⟩:=m.own i hi
  rw [e] at h1;cases h1
  rcases q with q | ⟨ob,q⟩ <;> (rw [q] at h3;cases h3;cases d <;> simp only [Own] at h5)
 refine ⟨fun a xs q=>?_,fun a xs q n=>?_,fun a kvs q n=>?_,fun a ob w q=>?_,fun a xs q=>(jB (H:=H) (nt a xs (.inl q))).trans q⟩
 rotate_left 3
 ·refine (jB (H:=H) ?_).trans q
  rintro ⟨i,hi,e⟩
  obtain ⟨a',o',d,h1,_,h3,_,h5⟩:=m.own i hi
  rw [e] at h1;cases h1
  rw [q] at h3;cases h3;cases d <;> simp only [Own] at h5
 ·have z:=jB (H:=H) (nt a xs q)
  rcases q with q | ⟨ob,q⟩
  ·exact .inl (z.trans q)
  ·exact .inr ⟨ob,z.trans q⟩
 ·have z:=jB (H:=H) (fun z=>n (.inr z))
  refine ⟨?_,fun b=>n (.inl b)⟩
  rcases q with q | ⟨ob,q⟩
  ·exact .inl (z.trans q)
  ·exact .inr ⟨ob,z.trans q⟩
 ·exact ⟨(jB (H:=H) (fun z=>n (.inr z))).trans q,fun b=>n (.inl b)⟩
theorem Md.goUp (m:Md K Ud Ue os σ H ρ):Goes Ud H Ue (Bl Ue os σ):=by
 have nb:∀ a o,Ud a=some o->¬ Ue a->¬ Bl Ue os σ a:=fun a o q n z=>z.elim n fun ⟨i,hi,e⟩=>by
  obtain ⟨a',o',d,h1,_,_,h4,_⟩:=m.own i hi
  rw [e] at h1;cases h1
  rw [h4.1] at q;cases q
 refine ⟨fun a xs q=>Rd.same m.grow q,fun a xs q n=>⟨Rd.same m.grow q,?_⟩,fun a kvs q n=>⟨m.grow _ _ q,nb a _ q n⟩,fun a o u q=>m.grow _ _ q,fun a xs q=>m.grow _ _ q⟩
 rcases q with q | ⟨ob,q⟩ <;> exact nb a _ q n
theorem Md.upB (m:Md K Ud Ue os σ H ρ) {a:Addr} {o u:HO} (hB:Ue a) (h0:Ud a=none) (ha:H a=some u) (hm:Mut (some u)):Md K Ud Ue os σ (upd H a o) ρ:=by
 have g:Goes H (upd H a o) (Bl Ue os σ) (Bl Ue os σ):=.write (.inl hB) ha hm
 refine ⟨fun b v q=>?_,fun b hb=>?_,m.len,fun i d q n=>?_,fun i hi=>?_,m.sep⟩
 ·by_cases hb:b=a
  ·subst hb;rw [h0] at q;cases q
  ·rw [zx hb];exact m.grow _ _ q
 ·by_cases z:b=a
  ·subst z;exact ⟨_,zw⟩
  ·rw [zx z];exact m.blk b hb
 ·obtain ⟨v,h1,h2⟩:=m.sh i d q n
  exact ⟨v,h1,Rep.goes g _ _ h2⟩
 ·obtain ⟨b,w',d,h1,h2,h3,h4,h5⟩:=m.own i hi
  have hne:b≠a:=fun z=>h4.2 (by rw [z];exact hB)
  exact ⟨b,w',d,h1,h2,by rw [zx hne];exact h3,h4,h5.goes g⟩
end
def EOk (K:Frag) (st:Bool) (os:List Nat) (t:TE) (f:Ev->Option D):Prop :=
 ∀ (Ud:Hp) (Ue:Addr->Prop) (σ:St) (H:Hp) (ρ:Ev) (d:D) (Q:VK),Md K Ud Ue os σ H ρ->f ρ=some d->(∀ v H',zX H H'->Rep K H' (BB st Ue os σ) d v->Q v H')->t σ H Q
def FOk (K:Frag) (os:List Nat) (t:TE) (f:Ev->Option D):Prop :=
 ∀ (Ud:Hp) (Ue:Addr->Prop) (σ:St) (H:Hp) (ρ:Ev) (d:D) (Q:VK),Md K Ud Ue os σ H ρ->f ρ=some d->(∀ a o H',zX H H'->H a=none->H' a=some o->Own K H' (fun b=>Bl Ue os σ b\/b=a) o d->Q (.ref a) H')->t σ H Q
def COk (K:Frag) (k:Bool) (os:List Nat) (t:TE) (f:Ev->Option (List D)):Prop :=
 ∀ (Ud:Hp) (Ue:Addr->Prop) (σ:St) (H:Hp) (ρ:Ev) (ds:List D) (Q:VK),Md K Ud Ue os σ H ρ->f ρ=some ds->(∀ a xs H',zX H H'->Sq k K H' a xs->zt K H' (Bl Ue os σ) ds xs->Q (.ref a) H')->t σ H Q
def TOk (K:Frag) (os:List Nat) (t:TT) (f:Ev->Option Bool):Prop :=
 ∀ (Ud:Hp) (Ue:Addr->Prop) (σ:St) (H:Hp) (ρ:Ev) (b:Bool) (Q:Bool->Hp->Prop),Md K Ud Ue os σ H ρ->f ρ=some b->(∀ H',zX H H'->Q b H')->t σ H Q
def AOk (K:Frag) (st:Bool) (os:List Nat) (t:TA) (f:Ev->Option (List D)):Prop :=
 ∀ (Ud:Hp) (Ue:Addr->Prop) (σ:St) (H:Hp) (ρ:Ev) (ds:List D) (Q:List V->Hp->Prop),Md K Ud Ue os σ H ρ->f ρ=some ds->(∀ vs H',zX H H'->zt K H' (BB st Ue os σ) ds vs->Q vs H')->t σ H Q
structure SE (X:Cx) (st:Bool) (os:List Nat) (e:Expr) (t:TE) (f:Ev->Option D):Prop where
 pe:PE X e t
 ok:EOk X.K st os t f
structure SF (X:Cx) (os:List Nat) (e:Expr) (t:TE) (f:Ev->Option D):Prop where
 pe:PE X e t
 ok:FOk X.K os t f
structure SC (X:Cx) (k:Bool) (os:List Nat) (e:Expr) (t:TE) (f:Ev->Option (List D)):Prop where
 pe:PE X e t
 ok:COk X.K k os t f
structure SB (X:Cx) (os:List Nat) (e:Expr) (t:TT) (f:Ev->Option Bool):Prop where
 pt:PT X e t
 ok:TOk X.K os t f
structure SW (X:Cx) (os:List Nat) (e:Expr) (t:TT) (f:Ev->Option Bool):Prop where
 pw:PW X e t
 ok:TOk X.K os t f
structure SA (X:Cx) (st:Bool) (os:List Nat) (es:List Expr) (t:TA) (f:Ev->Option (List D)):Prop where
 pa:PA X es t
 ok:AOk X.K st os t f
section
variable {K:Frag} {Ud H H':Hp} {Ue:Addr->Prop} {os:List Nat} {σ:St} {ρ:Ev} {st:Bool}
theorem Md.bb (m:Md K Ud Ue os σ H ρ) (st:Bool):∀ a,BB st Ue os σ a->∃ o,H a=some o:=fun a h=>by
 cases st with
 | true=>exact m.tracked h
 | false=>exact m.tracked (.inl h)
theorem bb_le (st:Bool):∀ a,BB st Ue os σ a->Bl Ue os σ a:=fun a h=>by
 cases st with
 | true=>exact h
 | false=>exact .inl h
theorem Rep.bb {d:D} {v:V} (h:Rep K H (Bl Ue os σ) d v):Rep K H (BB st Ue os σ) d v:=Rep.goes (.less (bb_le st) (.refl H)) _ _ h
theorem Rep.up {B:Addr->Prop} {d:D} {v:V} (e:zX H H') (h:Rep K H B d v):Rep K H' B d v:=Rep.goes (.same e) _ _ h
theorem zt.up {B:Addr->Prop} {d:List D} {v:List V} (e:zX H H') (h:zt K H B d v):zt K H' B d v:=zt.goes (.same e) _ _ h
theorem Own.rep {B:Addr->Prop} {a:Addr} {o:HO} {d:D} (h:Own K H (fun b=>B b\/b=a) o d) (ha:H a=some o) (nb:¬ B a):Rep K H B d (.ref a):=by
 have g:Goes H H (fun b=>B b\/b=a) B:=.less (fun _ z=>.inl z) (.refl H)
 cases o <;> cases d <;> simp only [Own] at h
 ·simp only [Rep];exact ⟨a,_,rfl,⟨.inl ha,nb⟩,zt.goes g _ _ h⟩
 ·simp only [Rep];exact ⟨a,_,rfl,⟨ha,nb⟩,h.1,zt.goes g _ _ h.2⟩
 ·simp only [Rep];exact ⟨a,rfl⟩
theorem zz {a:Addr} {o:HO} (h:H a=none):zX H (upd H a o):=fun b u q=>by
 rw [zx (fun z=>by subst z;rw [h] at q;cases q)];exact q
end
def asK:Bool->D->Option (List D)
 | true,.lst ds=>some ds
 | true,.scr ns=>some (ns.map .int)
 | false,.tup ds=>some ds
 | _,_=>none
def asB:D->Option Bool
 | .bl b=>some b
 | _=>none
def zb (i:Nat):Ev->Option D:=fun ρ=>ρ[i]?.join
def fC (d:D):Ev->Option D:=fun _=>some d
def f1 (g:D->Option D) (fa:Ev->Option D):Ev->Option D:=fun ρ=>(fa ρ).bind g
def f2 (g:D->D->Option D) (fa fb:Ev->Option D):Ev->Option D:=fun ρ=>(fa ρ).bind fun x=>(fb ρ).bind fun y=>g x y
def zm (k:Bool) (fa:Ev->Option D):Ev->Option (List D):=fun ρ=>(fa ρ).bind (asK k)
def Y6 (fa:Ev->Option D):Ev->Option D:=fun ρ=>(fa ρ).bind fun d=>if d.flat then some d else none
def zG (fa:Ev->Option D):Ev->Option Bool:=fun ρ=>(fa ρ).bind asB
def w6 (fa fb:Ev->Option Bool):Ev->Option Bool:=fun ρ=>(fa ρ).bind fun c=>if c then fb ρ else some false
def fOr (fa fb:Ev->Option Bool):Ev->Option Bool:=fun ρ=>(fa ρ).bind fun c=>if c then some true else fb ρ
def GG (fa:Ev->Option Bool):Ev->Option Bool:=fun ρ=>(fa ρ).map (!·)
def fAndV (fa fb:Ev->Option D):Ev->Option D:=fun ρ=>((fa ρ).bind asB).bind fun c=>if c then fb ρ else some (.bl false)
def fOrV (fa fb:Ev->Option D):Ev->Option D:=fun ρ=>((fa ρ).bind asB).bind fun c=>if c then some (.bl true) else fb ρ
def fNotV (fa:Ev->Option D):Ev->Option D:=fun ρ=>((fa ρ).bind asB).map fun c=>.bl (!c)
def fIf (fc:Ev->Option Bool) (fa fb:Ev->Option D):Ev->Option D:=fun ρ=>(fc ρ).bind fun c=>if c then fa ρ else fb ρ
def zu:Ev->Option (List D):=fun _=>some []
def zf (fa:Ev->Option D) (fr:Ev->Option (List D)):Ev->Option (List D):=fun ρ=>(fa ρ).bind fun x=>(fr ρ).map (x::·)
def JK (ds:List D):Option D:=if ds.length<=sizeLine then some (.lst ds) else none
def JJ (ds:List D):Option D:=if ds.length<=sizeLine then some (.tup ds) else none
def ZR (f:Ev->Option (List D)):Ev->Option D:=fun ρ=>(f ρ).bind JK
def Zo (f:Ev->Option (List D)):Ev->Option D:=fun ρ=>(f ρ).bind JJ
def fA (g:List D->Option D) (f:Ev->Option (List D)):Ev->Option D:=fun ρ=>(f ρ).bind g
theorem ze {α β:Type} {o:Option α} {g:α->Option β} {y:β} (h:o.bind g=some y):∃ x,o=some x/\g x=some y:=by
 cases o with
 | none=>cases h
 | some x=>exact ⟨x,rfl,h⟩
theorem map_some {α β:Type} {o:Option α} {g:α->β} {y:β} (h:o.map g=some y):∃ x,o=some x/\g x=y:=by
 cases o with
 | none=>cases h
 | some x=>exact ⟨x,rfl,by simpa using h⟩
section
variable {X:Cx} {st:Bool} {os:List Nat} {e a b c:Expr} {t ta tb tc:TE} {tA tB':TT} {f fa fb fc:Ev->Option D} {ga gb:Ev->Option Bool} {pos:Pos}
theorem SF.se (h:SF X os e t f):SE X st os e t f:=⟨h.pe,fun Ud Ue σ H ρ d Q m q k=>h.ok Ud Ue σ H ρ d Q m q fun a o H' s hn ho hw =>
 k _ _ s (Rep.bb (hw.rep ho (m.ntracked hn)))⟩
theorem SE.flat (h:SE X false os e t f):SE X true os e t (Y6 f):=⟨h.pe,fun Ud Ue σ H ρ d Q m q k=>by
 obtain ⟨x,h1,h2⟩:=ze q
 split at h2
 ·cases h2
  rename_i hf
  exact h.ok Ud Ue σ H ρ _ Q m h1 fun v H' s r=>k v H' s (Rep.flat _ _ hf r)
 ·cases h2⟩
theorem SE.seq {k:Bool} (h:SE X true os e t f):SC X k os e t (zm k f):=⟨h.pe,fun Ud Ue σ H ρ ds Q m q kk=>by
 obtain ⟨x,h1,h2⟩:=ze q
 refine h.ok Ud Ue σ H ρ _ Q m h1 fun v H' s r=>?_
 cases k with
 | true =>
  cases x <;> simp only [asK] at h2 <;> cases h2
  ·simp only [Rep] at r
   obtain ⟨a,xs,rfl,hl,hr⟩:=r
   exact kk a xs H' s hl.sq hr
  ·simp only [Rep] at r
   obtain ⟨a,rfl,hl⟩:=r
   exact kk a _ H' s hl.sq .ints
 | false =>
  cases x <;> simp only [asK] at h2 <;> cases h2
  simp only [Rep] at r
  obtain ⟨a,xs,rfl,hl,hr⟩:=r
  exact kk a xs H' s hl hr⟩
theorem SF.seq (h:SF X os e t f):SC X true os e t (zm true f):=SE.seq (SF.se h)
theorem za (i:Nat) {x:Str} (hi:i∉os:=by decide) (hN:X.N[i]?=some x:=by rfl) (hv:Vis X.env.scope x:=by first | exact Or.inl rfl | exact Or.inr (Or.inl rfl) | exact Or.inr (Or.inr rfl)) (hd:(x == ("__debug__":Str))=false:=by decide)
  (hcd:(x == ("__classdict__":Str))=false:=by decide):SE X st os (.Name x pos) (ZB i) (zb i):=⟨pv i hN hv hd hcd,fun Ud Ue σ H ρ d Q m q k=>by
 have q':ρ[i]?=some (some d):=by
  unfold zb at q
  cases z:ρ[i]? with
  | none=>rw [z] at q;cases q
  | some o=>rw [z] at q;cases o <;> simp at q;rw [q]
 obtain ⟨v,h1,h2⟩:=m.sh i d q' hi
 exact ⟨v,h1,k v H (.refl H) (Rep.bb h2)⟩⟩
theorem jh (i:Nat) {x:Str} (hN:X.N[i]?=some x:=by rfl) (hv:Vis X.env.scope x:=by first | exact Or.inl rfl | exact Or.inr (Or.inl rfl) | exact Or.inr (Or.inr rfl)) (hd:(x == ("__debug__":Str))=false:=by decide)
  (hcd:(x == ("__classdict__":Str))=false:=by decide):SE X false os (.Name x pos) (ZB i) (zb i):=⟨pv i hN hv hd hcd,fun Ud Ue σ H ρ d Q m q k=>by
 have q':ρ[i]?=some (some d):=by
  unfold zb at q
  cases z:ρ[i]? with
  | none=>rw [z] at q;cases q
  | some o=>rw [z] at q;cases o <;> simp at q;rw [q]
 obtain ⟨v,h1,h2⟩:=m.get q'
 exact ⟨v,h1,k v H (.refl H) h2⟩⟩
theorem gY (i:Nat) {x:Str} (hi:i∈os:=by decide) (hN:X.N[i]?=some x:=by rfl) (hv:Vis X.env.scope x:=by first | exact Or.inl rfl | exact Or.inr (Or.inl rfl) | exact Or.inr (Or.inr rfl)) (hd:(x == ("__debug__":Str))=false:=by decide)
  (hcd:(x == ("__classdict__":Str))=false:=by decide):SC X true os (.Name x pos) (ZB i) (zm true (zb i)):=⟨pv i hN hv hd hcd,fun Ud Ue σ H ρ ds Q m q k=>by
 obtain ⟨a,o,d,h1,h2,h3,h4,h5⟩:=m.own i hi
 simp only [zm,zb,h2,Option.join,oB] at q
 cases o <;> cases d <;> simp only [Own] at h5 <;> simp only [id,oB,asK] at q <;> cases q
 exact ⟨_,h1,k a _ H (.refl H) (.inl (.inl h3)) h5⟩⟩
theorem zg {i:Int} {j p}:SE X st os (.Constant (.int i) j p) (tC (.int i)) (fC (.int i)):=⟨Yd,fun Ud Ue σ H ρ d Q m q k=>by cases q;exact k _ H (.refl H) (by simp [Rep])⟩
theorem Jd {i:Bool} {j p}:SE X st os (.Constant (.bool i) j p) (tC (.bl i)) (fC (.bl i)):=⟨pe_bl,fun Ud Ue σ H ρ d Q m q k=>by cases q;exact k _ H (.refl H) (by simp [Rep])⟩
theorem ZE {i:Str} {j p}:SE X st os (.Constant (.str i) j p) (tC (.str i)) (fC (.str i)):=⟨Go,fun Ud Ue σ H ρ d Q m q k=>by cases q;exact k _ H (.refl H) (by simp [Rep])⟩
theorem Js {j p}:SE X st os (.Constant .none j p) (tC .non) (fC .non):=⟨pe_non,fun Ud Ue σ H ρ d Q m q k=>by cases q;exact k _ H (.refl H) (by simp [Rep])⟩
def ROk (K:Frag) (r:R2) (g:D->D->Option D):Prop:=∀ (H:Hp) (B:Addr->Prop) (x y:V) (d1 d2 d:D) (Q:VK),(∀ a,B a->∃ o,H a=some o)->Rep K H B d1 x->Rep K H B d2 y->g d1 d2=some d ->
 (∀ v H',zX H H'->Rep K H' B d v->Q v H')->r x y H Q
theorem EOk.op {r:R2} {g:D->D->Option D} (hr:ROk X.K r g) (ha:EOk X.K st os ta fa) (hb:EOk X.K st os tb fb):EOk X.K st os (tOp r ta tb) (f2 g fa fb):=fun Ud Ue σ H ρ d Q m q k=>by
 obtain ⟨x,h1,h2⟩:=ze q
 obtain ⟨y,h3,h4⟩:=ze h2
 refine ha Ud Ue σ H ρ x _ m h1 fun v H1 s1 r1=>?_
 refine hb Ud Ue σ H1 ρ y _ (m.up s1) h3 fun u H2 s2 r2=>?_
 exact hr H2 _ v u x y d Q ((m.up (s1.trans s2)).bb st) (r1.up s2) r2 h4 fun w' H3 s3 r3=>k w' H3 ((s1.trans s2).trans s3) r3
theorem zB {op:Operator} {r:R2} {g:D->D->Option D} (ho:OpR X (binaryOp op) r) (hr:ROk X.K r g) (ha:SE X st os a ta fa) (hb:SE X st os b tb fb):SE X st os (.BinOp a op b pos) (tOp r ta tb) (f2 g fa fb) :=
 ⟨WR ho ha.pe hb.pe,EOk.op hr ha.ok hb.ok⟩
theorem jR {op:CmpOp} {r:R2} {g:D->D->Option D} (ho:OpR X (compareOp op) r) (hr:ROk X.K r g) (ha:SE X false os a ta fa) (hb:SE X false os b tb fb) (hm:behindInMarks op b=false):SE X false os (.Compare a [op] [b] pos) (tOp r ta tb) (f2 g fa fb) :=
 ⟨pe_cmpR ho ha.pe hb.pe hm,EOk.op hr ha.ok hb.ok⟩
theorem EOk.test (h:EOk X.K false os t f):TOk X.K os (jf t) (zG f):=fun Ud Ue σ H ρ b Q m q k=>by
 obtain ⟨x,h1,h2⟩:=ze q
 refine h Ud Ue σ H ρ x _ m h1 fun v H' s r=>?_
 cases x <;> simp only [asB] at h2 <;> cases h2
 simp only [Rep] at r
 exact ⟨_,r,k H' s⟩
theorem zR {op:CmpOp} {r:R2} {g:D->D->Option D} (ho:OpR X (compareOp op) r) (hr:ROk X.K r g) (ha:SE X false os a ta fa) (hb:SE X false os b tb fb) (hm:behindInMarks op b=false):SB X os (.Compare a [op] [b] pos) (jf (tOp r ta tb)) (zG (f2 g fa fb)) :=
 ⟨jm ho ha.pe hb.pe hm,EOk.test (EOk.op hr ha.ok hb.ok)⟩
def WC (g g':D->D->Option D) (fa fb fc:Ev->Option D):Ev->Option D:=fun ρ=>(fa ρ).bind fun x=>(fb ρ).bind fun y=>((g x y).bind asB).bind fun c=>if c then (fc ρ).bind fun z=>g' y z else some (.bl false)
theorem EOk.chain {r r':R2} {g g':D->D->Option D} (hr:ROk X.K r g) (hr':ROk X.K r' g') (ha:EOk X.K false os ta fa) (hb:EOk X.K false os tb fb) (hc:EOk X.K false os tc fc):EOk X.K false os (tChain r r' ta tb tc) (WC g g' fa fb fc):=fun Ud Ue σ H ρ d Q m q k=>by
 obtain ⟨x,h1,h2⟩:=ze q
 obtain ⟨y,h3,h4⟩:=ze h2
 obtain ⟨cc,h5,h6⟩:=ze h4
 obtain ⟨z,h7,h8⟩:=ze h5
 refine ha Ud Ue σ H ρ x _ m h1 fun v H1 s1 r1=>?_
 refine hb Ud Ue σ H1 ρ y _ (m.up s1) h3 fun u H2 s2 r2=>?_
 refine hr H2 _ v u x y z _ ((m.up (s1.trans s2)).bb false) (r1.up s2) r2 h7 fun w' H3 s3 r3=>?_
 cases z <;> simp only [asB] at h8 <;> cases h8
 simp only [Rep] at r3
 refine ⟨_,r3,?_⟩
 cases cc with
 | true =>
  rw [if_pos rfl] at h6 ⊢
  obtain ⟨z,h9,h10⟩:=ze h6
  refine hc Ud Ue σ H3 ρ z _ (m.up ((s1.trans s2).trans s3)) h9 fun w2 H4 s4 r4=>?_
  exact hr' H4 _ u w2 y z d Q ((m.up (((s1.trans s2).trans s3).trans s4)).bb false) (r2.up (s3.trans s4)) r4 h10 fun w3 H5 s5 r5=>k w3 H5 ((((s1.trans s2).trans s3).trans s4).trans s5) r5
 | false =>
  rw [if_neg Qg] at h6 ⊢
  cases h6
  exact k _ H3 ((s1.trans s2).trans s3) (by simp [Rep])
theorem sb_chain {op op':CmpOp} {r r':R2} {g g':D->D->Option D} (ho:OpR X (compareOp op) r) (hr:ROk X.K r g) (ho':OpR X (compareOp op') r') (hr':ROk X.K r' g') (ha:SE X false os a ta fa) (hb:SE X false os b tb fb) (hc:SE X false os c tc fc)
  (hm:lastMarks [op,op'] [b,c]=false:=by with_unfolding_all rfl):SB X os (.Compare a [op,op'] [b,c] pos) (jf (tChain r r' ta tb tc)) (zG (WC g g' fa fb fc)):=⟨pt_chain ho ho' ha.pe hb.pe hc.pe hm,EOk.test (EOk.chain hr hr' ha.ok hb.ok hc.ok)⟩
def UOk (K:Frag) (r:V->Hp->VK->Prop) (g:D->Option D):Prop:=∀ (H:Hp) (B:Addr->Prop) (x:V) (d1 d:D) (Q:VK),(∀ a,B a->∃ o,H a=some o)->Rep K H B d1 x->g d1=some d ->
 (∀ v H',zX H H'->Rep K H' B d v->Q v H')->r x H Q
theorem gU {op:UnaryOp} {r:V->Hp->VK->Prop} {g:D->Option D} (ho:UnR X (unaryOp op) r) (hr:UOk X.K r g) (ha:SE X st os a ta fa):SE X st os (.UnaryOp op a pos) (tUn r ta) (f1 g fa) :=
 ⟨pe_un ho ha.pe,fun Ud Ue σ H ρ d Q m q k=>by
  obtain ⟨x,h1,h2⟩:=ze q
  refine ha.ok Ud Ue σ H ρ x _ m h1 fun v H1 s1 r1=>?_
  exact hr H1 _ v x d Q ((m.up s1).bb st) r1 h2 fun w' H3 s3 r3=>k w' H3 (s1.trans s3) r3⟩
theorem ju (h:SE X false os e t f) (he:∀ whole,isTrue e X.env whole=(do let v <- whole;standAt e.pos;holding [v] (truthy v)):=by intro _;rfl):SB X os e (tB t) (zG f):=⟨pt_val h.pe he,EOk.test h.ok⟩
theorem Ju (h:SB X os a tA ga):SB X os (.UnaryOp .Not a pos) (tNot tA) (GG ga):=⟨pt_not h.pt,fun Ud Ue σ H ρ b Q m q k=>by
 obtain ⟨x,h1,h2⟩:=map_some q
 subst h2
 exact h.ok Ud Ue σ H ρ x _ m h1 fun H' s=>k H' s⟩
theorem SW.sb (h:SW X os e tA ga):SB X os e tA ga:=⟨h.pw.pt,h.ok⟩
theorem JQ (h:SB X os a tA ga):SW X os (.BoolOp .And [a] pos) tA ga:=⟨pw_and1 h.pt,h.ok⟩
theorem Jo (h:SB X os a tA ga):SW X os (.BoolOp .Or [a] pos) tA ga:=⟨pw_or1 h.pt,h.ok⟩
theorem Wj {Zm:List Expr} (ha:SB X os a tA ga) (hb:SW X os (.BoolOp .And (b::Zm) pos) tB' gb):SW X os (.BoolOp .And (a::b::Zm) pos) (tAnd tA tB') (w6 ga gb):=⟨pw_and ha.pt hb.pw,fun Ud Ue σ H ρ b Q m q k=>by
 obtain ⟨x,h1,h2⟩:=ze q
 refine ha.ok Ud Ue σ H ρ x _ m h1 fun H' s=>?_
 cases x with
 | true=>rw [if_pos rfl] at h2 ⊢;exact hb.ok Ud Ue σ H' ρ b Q (m.up s) h2 fun H2 s2=>k H2 (s.trans s2)
 | false=>rw [if_neg Qg] at h2 ⊢;cases h2;exact k H' s⟩
theorem J1 {Zm:List Expr} (ha:SB X os a tA ga) (hb:SW X os (.BoolOp .Or (b::Zm) pos) tB' gb):SW X os (.BoolOp .Or (a::b::Zm) pos) (tOr tA tB') (fOr ga gb):=⟨pw_or ha.pt hb.pw,fun Ud Ue σ H ρ b Q m q k=>by
 obtain ⟨x,h1,h2⟩:=ze q
 refine ha.ok Ud Ue σ H ρ x _ m h1 fun H' s=>?_
 cases x with
 | true=>rw [if_pos rfl] at h2 ⊢;cases h2;exact k H' s
 | false=>rw [if_neg Qg] at h2 ⊢;exact hb.ok Ud Ue σ H' ρ b Q (m.up s) h2 fun H2 s2=>k H2 (s.trans s2)⟩
theorem se_one {op} (h:SE X st os a t f):SE X st os (.BoolOp op [a] pos) t f:=⟨pe_one h.pe,h.ok⟩
theorem se_and {Zm:List Expr} (ha:SE X st os a ta fa) (hb:SE X st os (.BoolOp .And (b::Zm) pos) tb fb):SE X st os (.BoolOp .And (a::b::Zm) pos) (tAndV ta tb) (fAndV fa fb):=⟨pe_and ha.pe hb.pe,fun Ud Ue σ H ρ d Q m q k=>by
 obtain ⟨x,h1,h2⟩:=ze q
 obtain ⟨y,h3,h4⟩:=ze h1
 refine ha.ok Ud Ue σ H ρ y _ m h3 fun v H' s r=>?_
 cases y <;> simp only [asB] at h4 <;> cases h4
 simp only [Rep] at r
 refine ⟨_,r,?_⟩
 cases x with
 | true=>rw [if_pos rfl] at h2 ⊢;exact hb.ok Ud Ue σ H' ρ d Q (m.up s) h2 fun v H2 s2=>k v H2 (s.trans s2)
 | false=>rw [if_neg Qg] at h2 ⊢;cases h2;exact k _ H' s (by simp [Rep])⟩
theorem se_if (hc:SB X os c tA ga) (ha:SE X st os a ta fa) (hb:SE X st os b tb fb):SE X st os (.IfExp c a b pos) (tIf tA ta tb) (fIf ga fa fb):=⟨pe_ifExp hc.pt ha.pe hb.pe,fun Ud Ue σ H ρ d Q m q k=>by
 obtain ⟨x,h1,h2⟩:=ze q
 refine hc.ok Ud Ue σ H ρ x _ m h1 fun H' s=>?_
 cases x with
 | true=>rw [if_pos rfl] at h2 ⊢;exact ha.ok Ud Ue σ H' ρ d Q (m.up s) h2 fun v H2 s2=>k v H2 (s.trans s2)
 | false=>rw [if_neg Qg] at h2 ⊢;exact hb.ok Ud Ue σ H' ρ d Q (m.up s) h2 fun v H2 s2=>k v H2 (s.trans s2)⟩
variable {es:List Expr} {tl:TA} {fl:Ev->Option (List D)}
theorem zr:SA X st os [] Z0 zu:=⟨Zn,fun Ud Ue σ H ρ ds Q m q k=>by cases q;exact k [] H (.refl H) .nil⟩
theorem zc (ha:SE X st os e t f) (hr:SA X st os es tl fl) (hs:starEach (e::es) X.env=(false,eval e X.env)::starEach es X.env:=by rfl):SA X st os (e::es) (z6 t tl) (zf f fl):=⟨zP ha.pe hr.pa hs,fun Ud Ue σ H ρ ds Q m q k=>by
 obtain ⟨x,h1,h2⟩:=ze q
 obtain ⟨y,h3,h4⟩:=map_some h2
 subst h4
 refine ha.ok Ud Ue σ H ρ x _ m h1 fun v H1 s1 r1=>?_
 refine hr.ok Ud Ue σ H1 ρ y _ (m.up s1) h3 fun vs H2 s2 r2=>?_
 exact k _ H2 (s1.trans s2) (.cons (r1.up s2) r2)⟩
theorem zY {x1} (h:SA X st os es tl fl):SE X st os (.Tuple es x1 pos) (gJ tl) (Zo fl):=⟨wv h.pa,fun Ud Ue σ H ρ d Q m q k=>by
 obtain ⟨ds,h1,h2⟩:=ze q
 unfold JJ at h2
 split at h2
 ·cases h2
  rename_i hl
  refine h.ok Ud Ue σ H ρ ds _ m h1 fun vs H1 s1 r1=>⟨by rw [r1.length];exact hl,fun p hp=>?_⟩
  refine k _ _ (s1.trans (zz hp)) ?_
  simp only [Rep]
  exact ⟨p,vs,rfl,.inl (.inl zw),r1.up (zz hp)⟩
 ·cases h2⟩
theorem ZV (h:SA X true os es tl fl):SF X os (.List es pos) (tLst tl) (ZR fl):=⟨jZ h.pa,fun Ud Ue σ H ρ d Q m q k=>by
 obtain ⟨ds,h1,h2⟩:=ze q
 unfold JK at h2
 split at h2
 ·cases h2
  rename_i hl
  refine h.ok Ud Ue σ H ρ ds _ m h1 fun vs H1 s1 r1=>⟨by rw [r1.length];exact hl,fun p hp=>?_⟩
  exact k p _ _ (s1.trans (zz hp)) (s1.free hp) zw (zt.goes (.fresh hp (zz hp)) _ _ r1)
 ·cases h2⟩
def dIx (ds:List D) (d:D):Option D:=match d with | .int i=>atI ds i | _=>none
def fIx (fa:Ev->Option (List D)) (fb:Ev->Option D):Ev->Option D:=fun ρ=>(fa ρ).bind fun ds=>(fb ρ).bind fun i=>dIx ds i
theorem zt.atI {K:Frag} {H:Hp} {B:Addr->Prop} {ds:List D} {vs:List V} {i:Int} {d:D} (h:zt K H B ds vs) (e:L2.atI ds i=some d):∃ v,L2.atI vs i=some v/\Rep K H B d v:=by
 unfold L2.atI at e ⊢
 rw [h.length]
 cases z:ixN ds.length i with
 | none=>rw [z] at e;cases e
 | some j =>
  rw [z] at e
  exact h.get e
theorem ZW {ca:Ev->Option (List D)} (ha:SC X true os a ta ca) (hb:SE X true os b tb fb) (hs:Wf b:=by intro _ _;rfl) {K':Frag} (hK:X.K=K':=by rfl):SE X st os (.Subscript a b pos) (tOp (rIxL K') ta tb) (fIx ca fb):=by
 subst hK
 exact ⟨wR j7 ha.pe hb.pe hs,fun Ud Ue σ H ρ d Q m q k=>by
 obtain ⟨ds,h1,h2⟩:=ze q
 obtain ⟨y,h3,h4⟩:=ze h2
 refine ha.ok Ud Ue σ H ρ ds _ m h1 fun p xs H1 s1 hq r1=>?_
 refine hb.ok Ud Ue σ H1 ρ y _ (m.up s1) h3 fun u H2 s2 r2=>?_
 cases y <;> simp only [dIx] at h4 <;> try (cases h4)
 simp only [Rep] at r2
 obtain ⟨v,q1,q2⟩:=(r1.up s2).atI h4
 exact ⟨p,xs,_,v,rfl,r2,s2.seq hq,q1,k v H2 (s1.trans s2) (Rep.bb q2)⟩⟩
theorem zJ {ca:Ev->Option (List D)} (ha:SC X false os a ta ca) (hb:SE X true os b tb fb) (hs:Wf b:=by intro _ _;rfl) {K':Frag} (hK:X.K=K':=by rfl):SE X st os (.Subscript a b pos) (tOp (rIxT K') ta tb) (fIx ca fb):=by
 subst hK
 exact ⟨wR ix_tup ha.pe hb.pe hs,fun Ud Ue σ H ρ d Q m q k=>by
 obtain ⟨ds,h1,h2⟩:=ze q
 obtain ⟨y,h3,h4⟩:=ze h2
 refine ha.ok Ud Ue σ H ρ ds _ m h1 fun p xs H1 s1 hq r1=>?_
 refine hb.ok Ud Ue σ H1 ρ y _ (m.up s1) h3 fun u H2 s2 r2=>?_
 cases y <;> simp only [dIx] at h4 <;> try (cases h4)
 simp only [Rep] at r2
 obtain ⟨v,q1,q2⟩:=(r1.up s2).atI h4
 exact ⟨p,xs,_,v,rfl,r2,SqT.same s2 hq,q1,k v H2 (s1.trans s2) (Rep.bb q2)⟩⟩
structure SO (X:Cx) (os:List Nat) (e:Option Expr) (t:TO) (f:Ev->Option (Option Int)):Prop where
 po:PO X e t
 ok:∀ (Ud:Hp) (Ue:Addr->Prop) (σ:St) (H:Hp) (ρ:Ev) (d:Option Int) (Q:Option Int->Hp->Prop),Md X.K Ud Ue os σ H ρ->f ρ=some d->(∀ H',zX H H'->Q d H')->t σ H Q
def asI:D->Option Int
 | .int i=>some i
 | _=>none
def fNo:Ev->Option (Option Int):=fun _=>some none
def YC (f:Ev->Option D):Ev->Option (Option Int):=fun ρ=>(f ρ).bind fun d=>(asI d).map some
theorem YO:SO X os none tNoPart fNo:=⟨po_none,fun Ud Ue σ H ρ d Q m q k=>by cases q;exact k H (.refl H)⟩
theorem YN (h:SE X false os e t f):SO X os (some e) (tPart t) (YC f):=⟨po_some h.pe,fun Ud Ue σ H ρ d Q m q k=>by
 obtain ⟨x,h1,h2⟩:=ze q
 obtain ⟨i,h3,h4⟩:=map_some h2
 subst h4
 refine h.ok Ud Ue σ H ρ x _ m h1 fun v H' s r=>?_
 cases x <;> simp only [asI] at h3 <;> cases h3
 simp only [Rep] at r
 exact ⟨_,r,k H' s⟩⟩
def cutD (ds:List D) (lo hi:Option Int):List D:=(ds.drop (HT.sIx ds.length 0 lo)).take (HT.sIx ds.length ds.length hi - HT.sIx ds.length 0 lo)
theorem zt.cut {K:Frag} {H:Hp} {B:Addr->Prop} {ds:List D} {vs:List V} {lo hi:Option Int} (h:zt K H B ds vs):zt K H B (cutD ds lo hi) (GI vs lo hi):=by
 unfold cutD GI
 rw [h.length]
 exact (h.drop _).take _
def fCut (g:List D->D) (fa:Ev->Option (List D)) (fl fu:Ev->Option (Option Int)):Ev->Option D:=fun ρ=>(fa ρ).bind fun ds=>(fl ρ).bind fun lo=>(fu ρ).bind fun hi=>some (g (cutD ds lo hi))
theorem gk {ca:Ev->Option (List D)} {lo hi:Option Expr} {t1 t2:TO} {g1 g2:Ev->Option (Option Int)} {p2:Pos} (ha:SC X true os a ta ca) (hl:SO X os lo t1 g1) (hu:SO X os hi t2 g2) {K':Frag} (hK:X.K=K':=by rfl) :
  SF X os (.Subscript a (.Slice lo hi none p2) pos) (tSl (rSlL K') ta t1 t2) (fCut .lst ca g1 g2):=by
 subst hK
 exact ⟨pe_slice sl_list ha.pe hl.po hu.po,fun Ud Ue σ H ρ d Q m q k=>by
 obtain ⟨ds,h1,h2⟩:=ze q
 obtain ⟨l,h3,h4⟩:=ze h2
 obtain ⟨u,h5,h6⟩:=ze h4
 cases h6
 refine ha.ok Ud Ue σ H ρ ds _ m h1 fun p xs H1 s1 hq r1=>?_
 refine hl.ok Ud Ue σ H1 ρ l _ (m.up s1) h3 fun H2 s2=>?_
 refine hu.ok Ud Ue σ H2 ρ u _ (m.up (s1.trans s2)) h5 fun H3 s3=>?_
 refine ⟨p,xs,rfl,(s2.trans s3).seq hq,fun p' hp=>?_⟩
 exact k p' _ _ (((s1.trans s2).trans s3).trans (zz hp)) ((s1.trans (s2.trans s3)).free hp) zw (zt.goes (.fresh hp (zz hp)) _ _ (zt.cut (r1.up (s2.trans s3))))⟩
end
end M
namespace L2
open PySem PySem.Spec PyProof.Rows
section
variable {X:Cx}
theorem iter_seq {k:Bool} {pins:List (Addr×Obj)} {s:Shared} {σ:St} {H:Hp} {p:Addr} {xs:List V} {E:Value->Shared->Prop} {R:Value->Shared->Prop} (hc:X.calm=true) (I:Inv X pins σ H s) (hq:Sq k X.K H p xs)
  (h:∀ (its:List Value) (s₂:Shared) (fp wr:List Addr) (S:Nat->Heap->Prop),zV xs its->Walks X.prog X.w X.A.in1 s.heap.objs.size fp wr its.toArray.size (fun i v=>its.toArray[i]?=some v) S->S 0 s₂.heap->(∀ b∈fp,b<s₂.heap.objs.size) ->
   (∀ h' tk,(∀ b o,b∉wr->s₂.heap.get? b=some o->h'.get? b=some o)->Inv X pins σ H { s₂ with heap:=h',toks:=tk })->R (.ref s.heap.objs.size) s₂) :
  wpAny (model X.prog X.w) X.A.in1 (pyIter (.ref p)) R E s:=by
 obtain ⟨its,r,pl,hz⟩:=I.seq hq
 have hh:X.A.in1.handled=none:=I.ok.hd hc
 have hlt:p<s.heap.objs.size:=pl.lt
 have hne:p≠s.heap.objs.size:=Qu hlt
 have old:∀ (ob:Obj) (h':Heap),(∀ b o,b∉[s.heap.objs.size]->(s.heap.push ob).get? b=some o->h'.get? b=some o)->∀ b o,s.heap.get? b=some o->h'.get? b=some o:=fun ob h' hk b o e =>
  hk b o (fun hm=>by
   have:b=s.heap.objs.size:=by simpa using hm
   exact absurd (this▸Qn e) (Pc _)) (Qc _ e)
 cases k with
 | true =>
  refine wpAny_pyIter_list pl (h its _ [s.heap.objs.size,p] [s.heap.objs.size] _ r (Walks.list hh _ p hne its.toArray) ⟨⟨_,Qp _ rfl,rfl,rfl⟩,Heap.IsList.at pl fun o e=>Qc _ e⟩ ?_ fun h' tk hk=>I.kept (old _ h' hk))
  intro b hb
  rw [QH]
  rcases Qb.mp hb with rfl | hb
  ·exact QX _
  ·have:b=p:=by simpa using hb
   subst this;exact QZ hlt
 | false =>
  refine Ub pl (h its _ [s.heap.objs.size,p] [s.heap.objs.size] _ r (Walks.tuple hh _ p hne its.toArray) ⟨⟨_,Qp _ rfl,rfl,rfl⟩,Heap.IsTuple.at pl fun o e=>Qc _ e⟩ ?_ fun h' tk hk=>I.kept (old _ h' hk))
  intro b hb
  rw [QH]
  rcases Qb.mp hb with rfl | hb
  ·exact QX _
  ·have:b=p:=by simpa using hb
   subst this;exact QZ hlt
theorem vals_int {ns:List Int} {its:List Value} (r:zV (ns.map V.int) its) {i:Nat} {v:Value} (h:its.toArray[i]?=some v):∃ t,v=.int (ns.getD i 0) t:=by
 have hl:=r.length
 rw [Qj] at hl
 have h':its[i]?=some v:=by simpa using h
 have hi:i<ns.length:=by have:=(Qm.mp h').1;omega
 obtain ⟨u,h1,h2⟩:=r.get (i:=i) (x:=.int ns[i]) (by simp [hi])
 rw [h'] at h1;cases h1
 obtain ⟨t,rfl⟩:=h2
 exact ⟨t,by simp [List.getD,hi]⟩
theorem Gm (val:Nat->Int) (a:Int):∀ n,preSum (fun i=>if i=0 then a else val (i - 1)) (n+1)=a+preSum val n
 | 0=>by simp [preSum]
 | n+1=>by rw [preSum,Gm val a n,preSum];simp;omega
theorem WQ:∀ (ns:List Int),preSum (fun i=>ns.getD i 0) ns.length=ns.sum
 | []=>rfl
 | a::r=>by
  have e:(fun i=>(a::r).getD i 0)=fun i=>if i=0 then a else r.getD (i - 1) 0:=by
   funext i;cases i <;> simp [List.getD]
  rw [e,Qe,Gm (fun j=>r.getD j 0) a,WQ r,List.sum_cons]
theorem call_sumI (k:Bool) (hc:X.calm=true):Wg X (.builtin "sum") (fun xs H Q=>∃ (p:Addr) (ns:List Int),xs=[.ref p]/\Sq k X.K H p (ns.map V.int)/\Q (.int ns.sum) H):=by
 intro pins s σ H xs us Q I r h
 obtain ⟨p,ns,rfl,hq,q⟩:=h
 obtain ⟨u,rfl,ru⟩:=vals1 r
 cases ru
 refine call_sum_walkG (iter_seq hc I hq fun its s₂ fp wr S rv W st hfp fin=>?_)
 refine ⟨_,fp,wr,_,_,S,fun i=>ns.getD i 0,rfl,W,st,hfp,fun i v hv=>vals_int rv hv,fun h' tk t' hk=>?_⟩
 have hl:its.toArray.size=ns.length:=by have:=rv.length;simpa using this.symm
 rw [hl,WQ]
 exact ⟨.int ns.sum,H,fin h' tk hk,⟨_,rfl⟩,q⟩
def wI:List String:=["int","bool","str","list","tuple","dict"]
theorem je:∀ T∈wI,typeOf (.type T)=pure (.type "type"):=by
 intro T h
 simp only [wI,Qb,Qk,or_false] at h
 rcases h with rfl | rfl | rfl | rfl | rfl | rfl <;> rfl
theorem sub_tab:∀ Tx∈("NoneType"::wI),∀ T∈wI,isSubtype (.type Tx) (.type T)=pure (Tx == T||(Tx == "bool"&&T == "int")):=by
 intro Tx hx T h
 rw [isSubtype_type]
 simp only [wI,Qb,Qk,or_false] at h hx
 rcases hx with rfl | rfl | rfl | rfl | rfl | rfl | rfl <;> rcases h with rfl | rfl | rfl | rfl | rfl | rfl <;> kernel_rfl
def TyN (K:PySem.W.Frag) (H:Hp) (x:V) (n:String):Prop:=match x with
 | .non=>n="NoneType"
 | .bl _=>n="bool"
 | .int _=>n="int"
 | .str _=>n="str"
 | .ref p=>(n="list"/\∃ xs,SqL K H p xs)\/(n="tuple"/\∃ xs,SqT K H p xs)\/(n="dict"/\∃ kvs,H p=some (.dK kvs))
 | _=>False
theorem call_isi:Wg X (.builtin "isinstance") (fun xs H Q=>∃ x T n,xs=[x,.ty T]/\T∈wI/\TyN X.K H x n/\Q (.bl (n == T||(n == "bool"&&T == "int"))) H):=by
 intro pins s σ H xs us Q I r h
 obtain ⟨x,T,n,rfl,hT,hn,q⟩:=h
 obtain ⟨u,u',rfl,ru,ru'⟩:=vals2 r
 obtain rfl:u'=Value.type T:=ru'
 have fin:∀ tk,EP X pins σ Q (.bool (n == T||(n == "bool"&&T == "int"))) { s with toks:=tk }:=fun tk=>⟨.bl _,H,I.tok tk,rfl,q⟩
 have nm:n∈("NoneType"::wI):=by
  cases x with
  | non=>cases (show n=_ from hn);decide
  | bl b=>cases (show n=_ from hn);decide
  | int b=>cases (show n=_ from hn);decide
  | str b=>cases (show n=_ from hn);decide
  | ref p=>rcases hn with ⟨rfl,_⟩ | ⟨rfl,_⟩ | ⟨rfl,_⟩ <;> decide
  | _=>exact (show False from hn).elim
 have hs:=sub_tab n nm T hT
 have ty:s.TypeIs u n:=by
  cases x with
  | non=>cases (show n=_ from hn);cases ru;exact PySem.typeIs_none s
  | bl b=>cases (show n=_ from hn);cases ru;exact PySem.typeIs_bool s b
  | int b=>cases (show n=_ from hn);obtain ⟨t,rfl⟩:=ru;exact typeIs_int s b t
  | str b=>cases (show n=_ from hn);obtain ⟨t,rfl⟩:=ru;exact typeIs_str s b t
  | ref p =>
   cases ru
   rcases hn with ⟨rfl,xs,hq⟩ | ⟨rfl,xs,hq⟩ | ⟨rfl,kvs,hk⟩
   ·obtain ⟨its,_,pl,_⟩:=I.list hq;exact pl.isList.typeIs
   ·obtain ⟨its,_,pl,_⟩:=I.tuple hq;exact pl.typeIs
   ·obtain ⟨_,_,_,_,o,_,_,e,ex,_⟩:=I.hok p _ hk;exact ⟨o,e,ex.1⟩
  | _=>exact (show False from hn).elim
 cases hb:(n == T||(n == "bool"&&T == "int")) with
 | true =>
  rw [hb] at hs
  have f:=fin s.toks
  rw [hb] at f
  exact call_isinstance (isinstance_true (je T hT) hs) ⟨ty,f⟩
 | false =>
  rw [hb] at hs
  have f:=fin (s.toks+1)
  rw [hb] at f
  have hne:(Value.type n == Value.type T)=false:=by
   have e:(n == T)=false:=by cases z:(n == T) <;> simp [z] at hb ⊢
   have e':n≠T:=by simpa using e
   exact beq_eq_false_iff_ne.mpr fun z=>e' (by injection z)
  cases x with
  | non=>cases (show n=_ from hn);cases ru;exact call_isinstance (isinstance_false_none hne (je T hT) hs) f
  | bl b=>cases (show n=_ from hn);cases ru;exact call_isinstance (isinstance_false_bool hne (je T hT) hs) f
  | int b=>cases (show n=_ from hn);obtain ⟨t,rfl⟩:=ru;exact call_isinstance (isinstance_false_int hne (je T hT) hs) f
  | str b=>cases (show n=_ from hn);obtain ⟨t,rfl⟩:=ru;exact call_isinstance (isinstance_false_str hne (je T hT) hs) f
  | ref p =>
   cases ru
   rcases hn with ⟨rfl,_⟩ | ⟨rfl,_⟩ | ⟨rfl,_⟩
   ·obtain ⟨o,e,c⟩:=ty;exact call_isinstance (isinstance_false_list hne (je T hT) hs) ⟨⟨o,e,c⟩,f⟩
   ·obtain ⟨o,e,c⟩:=ty;exact call_isinstance (isinstance_false_tuple hne (je T hT) hs) ⟨⟨o,e,c⟩,f⟩
   ·obtain ⟨o,e,c⟩:=ty;exact call_isinstance (isinstance_false_dict hne (je T hT) hs) ⟨⟨o,e,c⟩,f⟩
  | _=>exact (show False from hn).elim
def rCatS:R2:=fun x y H Q=>∃ l b xs zs,x=.ref l/\y=.ref b/\Rd H l (.lst xs)/\Rd H b (.lst zs)/\xs.length+zs.length<=sizeLine/\∀ p,H p=none->Q (.ref p) (upd H p (.lst (xs++zs)))
theorem op_catS:OpR X (binaryOp .Add) rCatS:=by
 intro pins s σ H x y v u Q I rx ry h
 obtain ⟨l,b,xs,zs,rfl,rfl,hH,hB,hz,q⟩:=h
 cases rx
 cases ry
 obtain ⟨z,its,n,r,e⟩:=hH.ok I.hok
 obtain ⟨z2,its2,n2,r2,e2⟩:=hB.ok I.hok
 have hl:=r.length
 have hl2:=r2.length
 refine PySem.P.add_list e e2 ?_ (by rw [Qh,Qh];omega)
 have ea:its.toArray++its2.toArray=(its++its2).toArray:=by simp
 rw [ea]
 exact ⟨.ref _,_,I.lnew (t':=s.toks) (r.append r2) (by rw [Qi];omega),rfl,q _ I.fresh⟩
theorem yb:OpR X (binaryOp .Mult) (rI IntMulOk fun i j=>.int (i*j)):=opI fun _ _ _ _ _ _ _ hc q=>mul_int q hc
def CDivB (i j:Int):Prop:=j≠0
theorem op_fdivP (hr:Room 34 X.A):OpR X (binaryOp .FloorDiv) (rI CDivB fun i j=>.int (i.fdiv j)):=by
 intro pins s σ H x y v u Q I rx ry h
 obtain ⟨i,j,rfl,rfl,hc,q⟩:=h
 obtain ⟨t,rfl⟩:=rx
 obtain ⟨t',rfl⟩:=ry
 refine floordiv_int hc ⟨.int (i.fdiv j),H,I.tok _,⟨_,rfl⟩,q⟩ (.inr ?_)
 obtain ⟨e,l,h1,h2,h3,h4,h5⟩:=I.ok.top
 exact PylongRoom.of I.nolimit (by have:=hr.dp;show X.A.depth+100<_;omega) (SeerAt.of (I.mod.seer.keeps I.bk) I.ok.tree (by rw [I.ok.frames,h1]) h2 h3 h4 h5)
end
end L2
namespace M
open PySem PySem.Spec L2
open PySem.W (Frag)
def dI (g:Int->Int->D):D->D->Option D
 | .int i,.int j=>some (g i j)
 | _,_=>none
noncomputable def dIc (C:Int->Int->Prop) (g:Int->Int->D):D->D->Option D
 | .int i,.int j=>open Classical in if C i j then some (g i j) else none
 | _,_=>none
section
variable {K:Frag}
theorem Gh {g:Int->Int->V} {g':Int->Int->D} (h:∀ H B i j,Rep K H B (g' i j) (g i j)):ROk K (rI0 g) (dI g'):=fun H B x y d1 d2 d Q hB r1 r2 e k=>by
 cases d1 <;> cases d2 <;> simp only [dI] at e <;> cases e
 simp only [Rep] at r1 r2
 exact ⟨_,_,r1,r2,k _ H (.refl H) (h _ _ _ _)⟩
theorem rok_I {C:Int->Int->Prop} {g:Int->Int->V} {g':Int->Int->D} (h:∀ H B i j,Rep K H B (g' i j) (g i j)):ROk K (rI C g) (dIc C g'):=fun H B x y d1 d2 d Q hB r1 r2 e k=>by
 cases d1 <;> cases d2 <;> simp only [dIc] at e <;> try (cases e;done)
 split at e
 ·rename_i hc
  cases e
  simp only [Rep] at r1 r2
  exact ⟨_,_,r1,r2,hc,k _ H (.refl H) (h _ _ _ _)⟩
 ·cases e
theorem yC {H:Hp} {B:Addr->Prop} {i:Int}:Rep K H B (.int i) (.int i):=by simp [Rep]
theorem jv {H:Hp} {B:Addr->Prop} {i:Bool}:Rep K H B (.bl i) (.bl i):=by simp [Rep]
abbrev ZY:=dI fun i j=>.int (i+j)
abbrev WD:=dI fun i j=>.int (i - j)
noncomputable abbrev Yj:=dIc IntMulOk fun i j=>.int (i*j)
noncomputable abbrev YK:=dIc CDiv fun i j=>.int (i / j)
noncomputable abbrev dDivP:=dIc CDivB fun i j=>.int (i.fdiv j)
noncomputable abbrev yq:=dIc (fun _ j=>0<j) fun i j=>.int (i % j)
noncomputable abbrev dPow:=dIc CPow fun i j=>.int (i ^ j.toNat)
abbrev dLt:=dI fun i j=>.bl (decide (i<j))
abbrev dLe:=dI fun i j=>.bl (decide (i<=j))
abbrev dGt:=dI fun i j=>.bl (decide (j<i))
theorem Zh:ROk K (rI0 fun i j=>.int (i+j)) ZY:=Gh fun _ _ _ _=>yC
theorem jV:ROk K (rI0 fun i j=>.int (i - j)) WD:=Gh fun _ _ _ _=>yC
theorem ya:ROk K (rI IntMulOk fun i j=>.int (i*j)) Yj:=rok_I fun _ _ _ _=>yC
theorem Z4:ROk K (rI CDiv fun i j=>.int (i / j)) YK:=rok_I fun _ _ _ _=>yC
theorem rok_divP:ROk K (rI CDivB fun i j=>.int (i.fdiv j)) dDivP:=rok_I fun _ _ _ _=>yC
theorem Zi:ROk K (rI (fun _ j=>0<j) fun i j=>.int (i % j)) yq:=rok_I fun _ _ _ _=>yC
theorem rok_lt:ROk K (rI0 fun i j=>.bl (decide (i<j))) dLt:=Gh fun _ _ _ _=>jv
theorem rok_le:ROk K (rI0 fun i j=>.bl (decide (i<=j))) dLe:=Gh fun _ _ _ _=>jv
theorem Gg:ROk K (rI0 fun i j=>.bl (decide (j<i))) dGt:=Gh fun _ _ _ _=>jv
def eqS:D->D->Option Bool
 | .int i,.int j=>some (decide (i=j))
 | .bl i,.bl j=>some (decide (i=j))
 | .str i,.str j=>some (decide (i=j))
 | .non,.non=>some true
 | .non,.int _=>some false | .int _,.non=>some false | .non,.bl _=>some false | .bl _,.non=>some false | .non,.str _=>some false | .str _,.non=>some false
 | .int _,.str _=>some false | .str _,.int _=>some false | .bl _,.str _=>some false | .str _,.bl _=>some false
 | _,_=>none
def ZS (x y:D):Option D:=(eqS x y).map .bl
def jM (x y:D):Option D:=(eqS x y).map fun b=>.bl (!b)
theorem eqS_v {H:Hp} {B:Addr->Prop} {d1 d2:D} {x y:V} {b:Bool} (r1:Rep K H B d1 x) (r2:Rep K H B d2 y) (e:eqS d1 d2=some b):scal x y=true/\decide (x=y)=b:=by
 cases d1 <;> cases d2 <;> simp only [eqS] at e <;> cases e <;> simp only [Rep] at r1 r2 <;> subst r1 <;> subst r2 <;> simp [scal]
theorem Zg:ROk K rEq ZS:=fun H B x y d1 d2 d Q hB r1 r2 e k=>by
 obtain ⟨b,h1,rfl⟩:=map_some e
 obtain ⟨h2,h3⟩:=eqS_v r1 r2 h1
 exact ⟨h2,k _ H (.refl H) (by rw [h3];exact jv)⟩
theorem jW:ROk K rNe jM:=fun H B x y d1 d2 d Q hB r1 r2 e k=>by
 obtain ⟨b,h1,rfl⟩:=map_some e
 obtain ⟨h2,h3⟩:=eqS_v r1 r2 h1
 exact ⟨h2,k _ H (.refl H) (by rw [h3];exact jv)⟩
def jK:D->Bool
 | .non=>true
 | _=>false
def dIsN (x y:D):Option D:=if jK y then some (.bl (jK x)) else none
def dNotN (x y:D):Option D:=if jK y then some (.bl (!jK x)) else none
theorem gy {H:Hp} {B:Addr->Prop} {d:D} {x:V} (r:Rep K H B d x):decide (x=.non)=jK d:=by
 cases d <;> simp only [Rep] at r <;> first | (subst r;simp [jK];done) | (obtain ⟨rfl,_⟩:=r;simp [jK];done) | (obtain ⟨a,xs,rfl,_⟩:=r;simp [jK]) | (obtain ⟨a,rfl,_⟩:=r;simp [jK])
theorem rok_isN:ROk K (fun x y H Q=>y=.non/\Q (.bl (decide (x=.non))) H) dIsN:=fun H B x y d1 d2 d Q hB r1 r2 e k=>by
 unfold dIsN at e
 split at e
 ·cases e
  rename_i z
  have:=gy r2
  rw [z] at this
  exact ⟨of_decide_eq_true this,k _ H (.refl H) (by rw [gy r1];exact jv)⟩
 ·cases e
theorem rok_notN:ROk K (fun x y H Q=>y=.non/\Q (.bl (!decide (x=.non))) H) dNotN:=fun H B x y d1 d2 d Q hB r1 r2 e k=>by
 unfold dNotN at e
 split at e
 ·cases e
  rename_i z
  have:=gy r2
  rw [z] at this
  exact ⟨of_decide_eq_true this,k _ H (.refl H) (by rw [gy r1];exact jv)⟩
 ·cases e
def w9:D->Option D
 | .int i=>some (.int (-i))
 | _=>none
theorem jQ:UOk K (rU fun i=>.int (-i)) w9:=fun H B x d1 d Q hB r e k=>by
 cases d1 <;> simp only [w9] at e <;> cases e
 simp only [Rep] at r
 exact ⟨_,r,k _ H (.refl H) yC⟩
def truD:D->Option Bool
 | .non=>some false
 | .bl b=>some b
 | .int i=>some (i != 0)
 | .lst ds=>some (!ds.isEmpty)
 | .tup ds=>some (!ds.isEmpty)
 | .dict ks _=>some (!ks.isEmpty)
 | .scr ns=>some (!ns.isEmpty)
 | .str _=>none
 | .adr _=>none
 | .kset _=>none
 | .tk _=>none
 | .pin _ _=>none
theorem zt.isEmpty {H:Hp} {B:Addr->Prop} {ds:List D} {vs:List V} (h:zt K H B ds vs):vs.isEmpty=ds.isEmpty:=by
 have:=h.length
 cases vs <;> cases ds <;> simp_all
end
def fTru (f:Ev->Option D):Ev->Option Bool:=fun ρ=>(f ρ).bind truD
section
variable {X:Cx} {st:Bool} {os:List Nat} {e a b c:Expr} {es:List Expr} {t ta tb tc:TE} {tl:TA} {f fa fb fc:Ev->Option D} {fl:Ev->Option (List D)} {pos p:Pos} {x:Str}
def fCat (fa fb:Ev->Option (List D)):Ev->Option D:=fun ρ=>(fa ρ).bind fun x=>(fb ρ).bind fun y=>JK (x++y)
def asL:D->Option (List D)
 | .lst ds=>some ds
 | _=>none
structure SL (X:Cx) (os:List Nat) (e:Expr) (t:TE) (f:Ev->Option (List D)):Prop where
 pe:PE X e t
 ok:∀ (Ud:Hp) (Ue:Addr->Prop) (σ:St) (H:Hp) (ρ:Ev) (ds:List D) (Q:VK),Md X.K Ud Ue os σ H ρ->f ρ=some ds->(∀ a xs H',zX H H'->Rd H' a (.lst xs)->zt X.K H' (Bl Ue os σ) ds xs->Q (.ref a) H')->t σ H Q
def fL (f:Ev->Option D):Ev->Option (List D):=fun ρ=>(f ρ).bind asL
theorem SE.sl (h:SE X true os e t f):SL X os e t (fL f):=⟨h.pe,fun Ud Ue σ H ρ ds Q m q k=>by
 obtain ⟨x,h1,h2⟩:=ze q
 cases x <;> simp only [asL] at h2 <;> cases h2
 refine h.ok Ud Ue σ H ρ _ Q m h1 fun v H' s r=>?_
 simp only [Rep] at r
 obtain ⟨a,xs,rfl,hl,hr⟩:=r
 exact k a xs H' s hl.1 hr⟩
theorem SF.sl (h:SF X os e t f):SL X os e t (fL f):=SE.sl (SF.se h)
variable {la lb:Ev->Option (List D)}
theorem sf_cat (ha:SL X os a ta la) (hb:SL X os b tb lb):SF X os (.BinOp a .Add b pos) (tOp rCatS ta tb) (fCat la lb):=⟨WR op_catS ha.pe hb.pe,fun Ud Ue σ H ρ d Q m q k=>by
 obtain ⟨x,h1,h2⟩:=ze q
 obtain ⟨y,h3,h4⟩:=ze h2
 unfold JK at h4
 split at h4
 ·rename_i hl
  cases h4
  refine ha.ok Ud Ue σ H ρ x _ m h1 fun p1 xs H1 s1 hq1 r1=>?_
  refine hb.ok Ud Ue σ H1 ρ y _ (m.up s1) h3 fun p2 ys H2 s2 hq2 r2=>?_
  refine ⟨p1,p2,xs,ys,rfl,rfl,Rd.same s2 hq1,hq2,by rw [r1.length,r2.length,<- Qi];exact hl,fun p' hp=>?_⟩
  exact k p' _ _ ((s1.trans s2).trans (zz hp)) ((s1.trans s2).free hp) zw (zt.goes (.fresh hp (zz hp)) _ _ ((r1.up s2).append r2))
 ·cases h4⟩
def dRep (ds:List D) (d:D):Option D:=match d with | .int k=>if -(2 ^ 63)<=k/\k<2 ^ 63/\ds.length*k.toNat<=sizeLine then some (.lst (List.replicate k.toNat ds).flatten) else none | _=>none
def fRep (fa:Ev->Option (List D)) (fb:Ev->Option D):Ev->Option D:=fun ρ=>(fa ρ).bind fun x=>(fb ρ).bind fun y=>dRep x y
theorem sf_rep {u:Ev->Option D} (ha:SF X os a ta u) (hb:SE X true os b tb fb):SF X os (.BinOp a .Mult b pos) (tOp rRep ta tb) (fRep (fL u) fb):=⟨WR op_rep ha.pe hb.pe,fun Ud Ue σ H ρ d Q m q k=>by
 obtain ⟨x,h1,h2⟩:=ze q
 obtain ⟨y,h3,h4⟩:=ze h2
 obtain ⟨z,h5,h6⟩:=ze h1
 cases z <;> simp only [asL] at h6 <;> cases h6
 cases y <;> simp only [dRep] at h4 <;> try (cases h4;done)
 split at h4
 ·rename_i hc
  cases h4
  refine ha.ok Ud Ue σ H ρ _ _ m h5 fun p1 o H1 s1 hn ho hw=>?_
  refine hb.ok Ud Ue σ H1 ρ _ _ (m.up s1) h3 fun v H2 s2 r2=>?_
  simp only [Rep] at r2
  cases o <;> simp only [Own] at hw
  refine ⟨p1,_,_,rfl,r2,s2 _ _ ho,hc.1,hc.2.1,by rw [zt.length hw];exact hc.2.2,fun p' hp=>?_⟩
  refine k p' _ _ ((s1.trans s2).trans (zz hp)) ((s1.trans s2).free hp) zw ?_
  have r1:zt X.K H1 (Bl Ue os σ) _ _:=zt.goes (.less (fun _ z=>.inl z) (.refl H1)) _ _ hw
  exact zt.goes (.fresh hp (zz hp)) _ _ ((r1.up s2).rep _)
 ·cases h4⟩
def spM (K:Frag) (m:List D->Option D):Sp:=fun vs H Q _=>∃ (B:Addr->Prop) (ds:List D) (d:D),(∀ a,B a->∃ o,H a=some o)/\zt K H B ds vs/\m ds=some d/\∀ v H',zX H H'->Rep K H' B d v->Q v H'
theorem zT {k:Nat} {fn:Addr} {fd:FuncData} {ps:List Str} {m:List D->Option D} (F:FnOk X.prog X.w X.K X.mg X.base CX0 k fn fd ps (spM X.K m)) (hr:Room k X.A) (hg:Gl X x) (hm:X.mg x=some (.ref fn)) (hk:keepIn X.K (.ref fn)=true) (hb:Zk X.K fd ps [])
  (ha:SA X st os (e::es) tl fl) (hdb:(x == ("__debug__":Str))=false:=by decide) (he:starEach (e::es) X.env=(false,eval e X.env)::starEach es X.env:=by rfl) (hpl:(backTo pos (starEach es X.env)).any (·.1)=false:=by rfl) {K':Frag} (hK:X.K=K':=by rfl) :
  SE X st os (.Call (.Name x p) (e::es) [] pos) (gK (spM K' m) [] E0 tl) (fA m fl):=by
 subst hK
 exact ⟨gu F hr hg hm hk hb .nil Gp ha.pa hdb he hpl,fun Ud Ue σ H ρ d Q M q kk=>by
 obtain ⟨ds,h1,h2⟩:=ze q
 refine ha.ok Ud Ue σ H ρ ds _ M h1 fun vs H1 s1 r1=>?_
 refine ⟨BB st Ue os σ,ds,d,(M.up s1).bb st,by rw [Pa];exact r1,h2,fun v H' s2 r2=>kk v H' (s1.trans s2) r2⟩⟩
def CaOk (K:Frag) (r:List V->Hp->VK->Prop) (g:List D->Option D):Prop:=∀ (H:Hp) (B:Addr->Prop) (xs:List V) (ds:List D) (d:D) (Q:VK),(∀ a,B a->∃ o,H a=some o)->zt K H B ds xs->g ds=some d->(∀ v H',zX H H'->Rep K H' B d v->Q v H')->r xs H Q
theorem EOk.call {r:List V->Hp->VK->Prop} {g:List D->Option D} (hr:CaOk X.K r g) (ha:AOk X.K st os tl fl):EOk X.K st os (tCB r tl) (fA g fl):=fun Ud Ue σ H ρ d Q m q k=>by
 obtain ⟨ds,h1,h2⟩:=ze q
 refine ha Ud Ue σ H ρ ds _ m h1 fun vs H1 s1 r1=>?_
 exact hr H1 _ vs ds d Q ((m.up s1).bb st) r1 h2 fun v H' s2 r2=>k v H' (s1.trans s2) r2
theorem se_callTy {T:String} {r:List V->Hp->VK->Prop} {g:List D->Option D} (hc:Wg X (.type T) r) (hr:CaOk X.K r g) (hg:Gl X x) (hm:X.mg x=none) (hv:bootBuiltins x=some (.type T)) (ha:SA X st os (e::es) tl fl) (hn:x≠"__name__":=by decide) (hdb:(x == ("__debug__":Str))=false:=by decide)
  (he:starEach (e::es) X.env=(false,eval e X.env)::starEach es X.env:=by rfl) (hpl:(backTo pos (starEach es X.env)).any (·.1)=false:=by rfl):SE X st os (.Call (.Name x p) (e::es) [] pos) (tCB r tl) (fA g fl):=⟨Wn hc hg hm hv ha.pa hn hdb he hpl,EOk.call hr ha.ok⟩
def gAbs:List D->Option D
 | [.int i]=>some (.int (if i<0 then -i else i))
 | _=>none
def gInt:List D->Option D
 | [.int i]=>some (.int i)
 | [.bl k]=>some (.int (if k then 1 else 0))
 | _=>none
theorem reps1 {K:Frag} {H:Hp} {B:Addr->Prop} {d:D} {vs:List V} (h:zt K H B [d] vs):∃ v,vs=[v]/\Rep K H B d v:=by
 simp only [zt] at h
 obtain ⟨v,r,rfl,h1,rfl⟩:=h
 exact ⟨v,rfl,h1⟩
theorem caok_int {K:Frag}:CaOk K (fun xs H Q=>(∃ i,xs=[.int i]/\Q (.int i) H)\/∃ k,xs=[.bl k]/\Q (.int (if k then 1 else 0)) H) gInt:=fun H B xs ds d Q hB r e k=>by
 unfold gInt at e
 split at e <;> cases e
 ·obtain ⟨v,rfl,h1⟩:=reps1 r
  simp only [Rep] at h1
  subst h1
  exact .inl ⟨_,rfl,k _ H (.refl H) yC⟩
 ·obtain ⟨v,rfl,h1⟩:=reps1 r
  simp only [Rep] at h1
  subst h1
  exact .inr ⟨_,rfl,k _ H (.refl H) yC⟩
def tyD:D->String
 | .non=>"NoneType" | .bl _=>"bool" | .int _=>"int" | .str _=>"str" | .lst _=>"list" | .tup _=>"tuple" | .dict _ _=>"dict" | .scr _=>"list" | .adr _=>"" | .kset _=>"" | .tk _=>"" | .pin _ d=>tyD d
def dIsi (T:String) (d:D):D:=.bl (tyD d == T||(tyD d == "bool"&&T == "int"))
def JY (T:String):D->Option D
 | .adr _=>none
 | .kset _=>none
 | .tk _=>none
 | .pin _ d=>JY T d
 | d=>some (dIsi T d)
def Plain:D->Prop
 | .adr _=>False
 | .kset _=>False
 | .tk _=>False
 | .pin _ d=>Plain d
 | _=>True
theorem gIsi_ {T:String}:∀ {d d':D},JY T d=some d'->Plain d/\d'=dIsi T d
 | .non,d',h | .bl _,d',h | .int _,d',h | .str _,d',h | .tup _,d',h | .lst _,d',h | .dict _ _,d',h | .scr _,d',h=>by simp only [JY] at h;cases h;exact ⟨trivial,rfl⟩
 | .adr _,d',h | .kset _,d',h | .tk _,d',h=>by simp only [JY] at h;cases h
 | .pin _ d,d',h=>by
  simp only [JY] at h
  obtain ⟨h1,h2⟩:=gIsi_ h
  exact ⟨h1,h2⟩
theorem tyN {K:Frag} {H:Hp} {B:Addr->Prop}:∀ {d:D} {v:V},Plain d->Rep K H B d v->TyN K H v (tyD d)
 | .non,v,_,r=>by simp only [Rep] at r;subst r;rfl
 | .bl _,v,_,r=>by simp only [Rep] at r;subst r;rfl
 | .int _,v,_,r=>by simp only [Rep] at r;subst r;rfl
 | .str _,v,_,r=>by simp only [Rep] at r;subst r;rfl
 | .tup _,v,_,r=>by simp only [Rep] at r;obtain ⟨a,xs,rfl,hq,hr⟩:=r;exact .inr (.inl ⟨rfl,xs,hq⟩)
 | .lst _,v,_,r=>by simp only [Rep] at r;obtain ⟨a,xs,rfl,hq,hr⟩:=r;exact .inl ⟨rfl,xs,hq.sq⟩
 | .dict _ _,v,_,r=>by simp only [Rep] at r;obtain ⟨a,kvs,rfl,hq,hk,hr⟩:=r;exact .inr (.inr ⟨rfl,kvs,hq.1⟩)
 | .scr _,v,_,r=>by simp only [Rep] at r;obtain ⟨a,rfl,hq⟩:=r;exact .inl ⟨rfl,_,hq.sq⟩
 | .adr _,v,h,_=>h.elim
 | .kset _,v,h,_=>h.elim
 | .tk _,v,h,_=>h.elim
 | .pin _ d,v,h,r=>by simp only [Rep] at r;exact tyN (d:=d) h r.2
theorem Wl {y:Str} {T:String} {p':Pos} (hg:Gl X "isinstance") (hm:X.mg "isinstance"=none) (hg2:Gl X y) (hm2:X.mg y=none) (hv2:bootBuiltins y=some (.type T)) (hT:T∈wI) (ha:SE X false os a ta fa) (hn:y≠"__name__":=by decide) (hdb:(y == ("__debug__":Str))=false:=by decide)
  (h1:starEach [a,.Name y p'] X.env=(false,eval a X.env)::starEach [.Name y p'] X.env:=by rfl) (h2:starEach [.Name y p'] X.env=(false,eval (.Name y p') X.env)::starEach [] X.env:=by rfl) (hpl:(backTo pos (starEach [.Name y p'] X.env)).any (·.1)=false:=by rfl) {K':Frag} (hK:X.K=K':=by rfl) :
  SE X st os (.Call (.Name "isinstance" p) [a,.Name y p'] [] pos) (tCB (fun xs H Q=>∃ x T n,xs=[x,.ty T]/\T∈wI/\TyN K' H x n/\Q (.bl (n == T||(n == "bool"&&T == "int"))) H) (z6 ta (z6 (tC (.ty T)) Z0))) (f1 (JY T) fa):=by
 subst hK
 exact
 ⟨Jy call_isi hg hm PyProof.Rows.boot_isinstance (zP ha.pe (zP (pe_bltn (v:=.ty T) hg2 hm2 hv2 rfl hn hdb) Zn h2) h1) (by decide) (by decide) h1 hpl,fun Ud Ue σ H ρ d Q m q k=>by
  obtain ⟨x,h1,h2⟩:=ze q
  obtain ⟨h3,rfl⟩:=gIsi_ h2
  refine ha.ok Ud Ue σ H ρ x _ m h1 fun v H1 s1 r1=>?_
  exact ⟨v,T,tyD x,rfl,hT,tyN h3 r1,k _ H1 s1 jv⟩⟩
theorem EOk.callC {k:Bool} {r:List V->Hp->VK->Prop} {g:List D->Option D} {ca:Ev->Option (List D)}
  (hr:∀ (H:Hp) (B:Addr->Prop) (q:Addr) (xs:List V) (ds:List D) (d:D) (Q:VK),Sq k X.K H q xs->zt X.K H B ds xs->g ds=some d->(∀ v H',zX H H'->Rep X.K H' B d v->Q v H')->r [.ref q] H Q)
  (ha:COk X.K k os ta ca):EOk X.K st os (tCB r (z6 ta Z0)) (fA g ca):=fun Ud Ue σ H ρ d Q m q kk=>by
 obtain ⟨ds,h1,h2⟩:=ze q
 refine ha Ud Ue σ H ρ ds _ m h1 fun a xs H1 s1 hq r1=>?_
 exact hr H1 (Bl Ue os σ) a xs ds d Q hq r1 h2 fun v H' s2 r2=>kk v H' (s1.trans s2) (Rep.bb r2)
variable {ca:Ev->Option (List D)} {k:Bool}
def YJ (ds:List D):Option D:=some (.int ds.length)
theorem yL (hg:Gl X "len") (hm:X.mg "len"=none) (ha:SC X k os a ta ca) (h1:starEach [a] X.env=(false,eval a X.env)::starEach [] X.env:=by rfl) (hpl:(backTo pos (starEach [] X.env)).any (·.1)=false:=by rfl) {K':Frag} (hK:X.K=K':=by rfl) :
  SE X st os (.Call (.Name "len" p) [a] [] pos) (tCB (fun xs H Q=>∃ p ys,xs=[.ref p]/\(SqL K' H p ys\/SqT K' H p ys)/\Q (.int ys.length) H) (z6 ta Z0)) (fA YJ ca):=by
 subst hK
 exact
 ⟨Jy Ja hg hm PySem.boot_len (zP ha.pe Zn h1) (by decide) (by decide) h1 hpl,EOk.callC (k:=k) (fun H B q xs ds d Q hq r e kk=>by
  cases e
  refine ⟨q,xs,rfl,?_,kk _ H (.refl H) (by rw [r.length];exact yC)⟩
  cases k with
  | true=>exact .inl hq
  | false=>exact .inr hq) ha.ok⟩
def J6:List D->Option (List Int)
 | []=>some []
 | .int i::r=>(J6 r).map (i::·)
 | _::_=>none
theorem Wv (ns:List Int):J6 (ns.map .int)=some ns:=by
 induction ns with
 | nil=>rfl
 | cons n r ih=>simp [J6,ih]
theorem Gu:∀ {ds:List D} {ns:List Int},J6 ds=some ns->ds=ns.map .int
 | [],ns,h=>by simp only [J6] at h;cases h;rfl
 | d::r,ns,h=>by
  cases d <;> simp only [J6] at h <;> try (cases h;done)
  obtain ⟨ms,h1,rfl⟩:=map_some h
  rw [Gu h1];rfl
def wX (ds:List D):Option D:=(J6 ds).map fun ns=>.int ns.sum
def gAnyI (ds:List D):Option D:=(J6 ds).map fun ns=>.bl (ns.any (· != 0))
theorem gW (hc:X.calm=true) (hg:Gl X "sum") (hm:X.mg "sum"=none) (ha:SC X k os a ta ca) (h1:starEach [a] X.env=(false,eval a X.env)::starEach [] X.env:=by rfl) (hpl:(backTo pos (starEach [] X.env)).any (·.1)=false:=by rfl) {K':Frag} (hK:X.K=K':=by rfl) :
  SE X st os (.Call (.Name "sum" p) [a] [] pos) (tCB (fun xs H Q=>∃ (p:Addr) (ns:List Int),xs=[.ref p]/\Sq k K' H p (ns.map V.int)/\Q (.int ns.sum) H) (z6 ta Z0)) (fA wX ca):=by
 subst hK
 exact
 ⟨Jy (call_sumI k hc) hg hm PyProof.Rows.boot_sum (zP ha.pe Zn h1) (by decide) (by decide) h1 hpl,EOk.callC (k:=k) (fun H B q xs ds d Q hq r e kk=>by
  obtain ⟨ns,h1,rfl⟩:=map_some e
  rw [Gu h1] at r
  rw [r.ints'] at hq
  exact ⟨q,ns,rfl,hq,kk _ H (.refl H) yC⟩) ha.ok⟩
def JE (ds:List D):Option D:=some (.tup ds)
theorem se_tuple (hg:Gl X "tuple") (hm:X.mg "tuple"=none) (ha:SC X true os a ta ca) (h1:starEach [a] X.env=(false,eval a X.env)::starEach [] X.env:=by rfl) (hpl:(backTo pos (starEach [] X.env)).any (·.1)=false:=by rfl) {K':Frag} (hK:X.K=K':=by rfl) :
  SE X st os (.Call (.Name "tuple" p) [a] [] pos) (tCB (fun xs H Q=>∃ p ys,xs=[.ref p]/\((SqL K' H p ys/\∀ l,H l=none->Q (.ref l) (upd H l (.tup ys)))\/(SqT K' H p ys/\Q (.ref p) H))) (z6 ta Z0)) (fA JE ca):=by
 subst hK
 exact
 ⟨Wn call_tuple_of hg hm PyProof.Rows.boot_tuple (zP ha.pe Zn h1) (by decide) (by decide) h1 hpl,EOk.callC (k:=true) (fun H B q xs ds d Q hq r e kk=>by
  cases e
  refine ⟨q,xs,rfl,.inl ⟨hq,fun l hl=>kk _ _ (zz hl) ?_⟩⟩
  simp only [Rep]
  exact ⟨l,xs,rfl,.inl (.inl zw),r.up (zz hl)⟩) ha.ok⟩
theorem sf_list (hg:Gl X "list") (hm:X.mg "list"=none) (ha:SC X k os a ta ca) (h1:starEach [a] X.env=(false,eval a X.env)::starEach [] X.env:=by rfl) (hpl:(backTo pos (starEach [] X.env)).any (·.1)=false:=by rfl) {K':Frag} (hK:X.K=K':=by rfl) :
  SF X os (.Call (.Name "list" p) [a] [] pos) (tCB (fun xs H Q=>∃ p ys,xs=[.ref p]/\(SqL K' H p ys\/SqT K' H p ys)/\∀ l,H l=none->Q (.ref l) (upd H l (.lst ys))) (z6 ta Z0)) (fA (fun ds=>some (.lst ds)) ca):=by
 subst hK
 exact
 ⟨Wn call_list_of hg hm PyProof.Rows.boot_list (zP ha.pe Zn h1) (by decide) (by decide) h1 hpl,fun Ud Ue σ H ρ d Q m q kk=>by
  obtain ⟨ds,h1,h2⟩:=ze q
  cases h2
  refine ha.ok Ud Ue σ H ρ ds _ m h1 fun a xs H1 s1 hq r1=>⟨a,xs,rfl,?_,fun l hl=>?_⟩
  ·cases k with
   | true=>exact .inl hq
   | false=>exact .inr hq
  ·exact kk l _ _ (s1.trans (zz hl)) (s1.free hl) zw (zt.goes (.fresh hl (zz hl)) _ _ r1)⟩
end
def SqS (k:Bool) (K:Frag) (H:Hp) (B:Addr->Prop) (a:Addr) (xs:List V):Prop:=match k with
 | true=>RL K H B a xs\/RS K H a xs
 | false=>SqT K H a xs
def Cn (s k:Bool) (K:Frag) (H:Hp) (B:Addr->Prop) (a:Addr) (xs:List V):Prop:=match s with
 | true=>SqS k K H B a xs
 | false=>Sq k K H a xs
theorem Cn.sq {s k:Bool} {K:Frag} {H:Hp} {B:Addr->Prop} {a:Addr} {xs:List V} (h:Cn s k K H B a xs):Sq k K H a xs:=by
 cases s with
 | false=>exact h
 | true =>
  cases k with
  | true=>exact h.elim RL.sq RS.sq
  | false=>exact h
theorem Cn.mv {k:Bool} {K:Frag} {H H':Hp} {B B':Addr->Prop} {a:Addr} {xs:List V} (g:Goes H H' B B') (h:Cn true k K H B a xs):Cn true k K H' B' a xs:=by
 cases k with
 | true =>
  rcases h with h | h
  ·exact .inl (g.lst a xs h.1 h.2)
  ·rcases h with ⟨o,h⟩ | h
   ·exact .inr (.inl ⟨o,g.frz a o _ h⟩)
   ·exact .inr (.inr h)
 | false =>
  rcases h with h | h
  ·exact .inl (g.tup a xs h)
  ·exact .inr h
theorem Sq.same {k:Bool} {K:Frag} {H H':Hp} {a:Addr} {xs:List V} (e:zX H H') (h:Sq k K H a xs):Sq k K H' a xs:=by
 cases k with
 | true=>exact e.seq h
 | false=>exact SqT.same e h
theorem Cn.up {s k:Bool} {K:Frag} {H H':Hp} {B:Addr->Prop} {a:Addr} {xs:List V} (e:zX H H') (h:Cn s k K H B a xs):Cn s k K H' B a xs:=by
 cases s with
 | false=>exact Sq.same e h
 | true=>exact Cn.mv (.same e) h
structure SN (X:Cx) (s k:Bool) (os:List Nat) (e:Expr) (t:TE) (f:Ev->Option (List D)):Prop where
 pe:PE X e t
 ok:∀ (Ud:Hp) (Ue:Addr->Prop) (σ:St) (H:Hp) (ρ:Ev) (ds:List D) (Q:VK),Md X.K Ud Ue os σ H ρ->f ρ=some ds->(∀ a xs H',zX H H'->Cn s k X.K H' (Bl Ue os σ) a xs->zt X.K H' (Bl Ue os σ) ds xs->Q (.ref a) H')->t σ H Q
def Mv (H':Hp) (ok:Hp->(Addr->Prop)->Prop):Prop:=∀ n,H' n=none->∀ Ha Hb Ba Bb,Goes Ha Hb Ba Bb->(∀ b o,b≠n->Ha b=some o->Hb b=some o)->ok Ha Ba->ok Hb Bb
theorem Cn.split {s k:Bool} {K:Frag} {H:Hp} {B:Addr->Prop} {a:Addr} {xs:List V} (h:Cn s k K H B a xs):∃ P:Hp->(Addr->Prop)->Prop,P H B/\(∀ H B,P H B->Sq k K H a xs)/\Mv H P/\(s=true->∀ Ha Hb Ba Bb,Goes Ha Hb Ba Bb->P Ha Ba->P Hb Bb):=by
 cases s with
 | true=>exact ⟨fun H B=>Cn true k K H B a xs,h,fun H B q=>q.sq,fun n hn Ha Hb Ba Bb g _ q=>q.mv g,fun _ Ha Hb Ba Bb g q=>q.mv g⟩
 | false =>
  have h':Sq k K H a xs:=h
  cases k with
  | true =>
   rcases h' with h' | h'
   ·refine ⟨fun H _=>Rd H a (.lst xs),h',fun H B q=>.inl q,fun n hn Ha Hb Ba Bb g kp q=>?_,fun z=>by cases z⟩
    have hne:a≠n:=fun e=>by subst e;rcases h' with h' | ⟨o,h'⟩ <;> (rw [hn] at h';cases h')
    rcases q with q | ⟨o,q⟩
    ·exact .inl (kp _ _ hne q)
    ·exact .inr ⟨o,kp _ _ hne q⟩
   ·exact ⟨fun _ _=>True,trivial,fun _ _ _=>.inr h',fun _ _ _ _ _ _ _ _ _=>trivial,fun z=>by cases z⟩
  | false =>
   rcases h' with h' | h'
   ·refine ⟨fun H _=>Rd H a (.tup xs),h',fun H B q=>.inl q,fun n hn Ha Hb Ba Bb g kp q=>g.tup _ _ q,fun z=>by cases z⟩
   ·exact ⟨fun _ _=>True,trivial,fun _ _ _=>.inr h',fun _ _ _ _ _ _ _ _ _=>trivial,fun z=>by cases z⟩
structure IW (K:Frag) (J:It) (ds:List D) (ok:Hp->(Addr->Prop)->Prop):Prop where
 go:∀ H B (i:Nat) d,ok H B->ds[i]?=some d->J.go i H
 yld:∀ H B (i:Nat) d x H',ok H B->ds[i]?=some d->J.yld i H x H'->zX H H'/\Rep K H' B d x
 stop:∀ H B (i:Nat),ok H B->ds.length<=i->J.stop i H
def IOk (K:Frag) (s:Bool) (os:List Nat) (wi:TI) (fi:Ev->Option (List D)):Prop :=
 ∀ (Ud:Hp) (Ue:Addr->Prop) (σ:St) (H:Hp) (ρ:Ev) (ds:List D) (R:It->Hp->Prop),Md K Ud Ue os σ H ρ->fi ρ=some ds ->
  (∀ (J:It) (H':Hp) (ok:Hp->(Addr->Prop)->Prop),zX H H'->IW K J ds ok->Mv H' ok->(s=true->∀ H H' B B',Goes H H' B B'->ok H B->ok H' B')->ok H' (Bl Ue os σ)->R J H')->wi σ H R
structure SI (X:Cx) (s:Bool) (os:List Nat) (tg iter:Expr) (wi:TI) (fi:Ev->Option (List D)):Prop where
 pi:PI X tg iter wi
 ok:IOk X.K s os wi fi
section
variable {X:Cx} {s k:Bool} {os:List Nat} {e a b tg:Expr} {t ta tb:TE} {f fa fb:Ev->Option D} {fl ca cb:Ev->Option (List D)} {pos p:Pos}
theorem SE.sn (h:SE X true os e t f):SN X true k os e t (zm k f):=⟨h.pe,fun Ud Ue σ H ρ ds Q m q kk=>by
 obtain ⟨x,h1,h2⟩:=ze q
 refine h.ok Ud Ue σ H ρ _ Q m h1 fun v H' s r=>?_
 cases k with
 | true =>
  cases x <;> simp only [asK] at h2 <;> cases h2
  ·simp only [Rep] at r
   obtain ⟨a,xs,rfl,hl,hr⟩:=r
   exact kk a xs H' s (.inl hl) hr
  ·simp only [Rep] at r
   obtain ⟨a,rfl,hl⟩:=r
   exact kk a _ H' s (.inr hl) .ints
 | false =>
  cases x <;> simp only [asK] at h2 <;> cases h2
  simp only [Rep] at r
  obtain ⟨a,xs,rfl,hl,hr⟩:=r
  exact kk a xs H' s hl hr⟩
theorem SC.sn (h:SC X k os e t fl):SN X false k os e t fl:=⟨h.pe,fun Ud Ue σ H ρ ds Q m q kk=>h.ok Ud Ue σ H ρ ds Q m q fun a xs H' s hq r=>kk a xs H' s hq r⟩
theorem Yb (h:SN X s true os e t fl) {K':Frag} (hK:X.K=K':=by rfl):SI X s os tg e (iList K' t) fl:=by
 subst hK
 exact ⟨pi_list h.pe,fun Ud Ue σ H ρ ds R m q kk=>by
 refine h.ok Ud Ue σ H ρ ds _ m q fun a xs H1 s1 hc r=>⟨a,rfl,⟨xs,hc.sq⟩,?_⟩
 obtain ⟨P,p0,psq,pmv,pst⟩:=hc.split
 refine kk _ H1 (fun H B=>P H B/\zt X.K H B ds xs) s1 ⟨fun H B i d ok e=>?_,fun H B i d x H' ok e y=>?_,fun H B i ok hl=>?_⟩ (fun n hn Ha Hb Ba Bb g kp ok=>⟨pmv n hn _ _ _ _ g kp ok.1,zt.goes g _ _ ok.2⟩) (fun hs H H' B B' g ok=>⟨pst hs _ _ _ _ g ok.1,zt.goes g _ _ ok.2⟩) ⟨p0,r⟩
 ·obtain ⟨v,h1,h2⟩:=ok.2.get e
  exact ⟨xs,v,psq _ _ ok.1,h1⟩
 ·obtain ⟨rfl,h1⟩:=y
  obtain ⟨v,h2,h3⟩:=ok.2.get e
  have:=h1 xs (psq _ _ ok.1)
  rw [h2] at this;cases this
  exact ⟨.refl _,h3⟩
 ·exact ⟨xs,psq _ _ ok.1,by rw [ok.2.length];exact hl⟩⟩
theorem si_tup (h:SN X s false os e t fl) {K':Frag} (hK:X.K=K':=by rfl):SI X s os tg e (iTup K' t) fl:=by
 subst hK
 exact ⟨pi_tup h.pe,fun Ud Ue σ H ρ ds R m q kk=>by
 refine h.ok Ud Ue σ H ρ ds _ m q fun a xs H1 s1 hc r=>⟨a,rfl,⟨xs,hc.sq⟩,?_⟩
 obtain ⟨P,p0,psq,pmv,pst⟩:=hc.split
 refine kk _ H1 (fun H B=>P H B/\zt X.K H B ds xs) s1 ⟨fun H B i d ok e=>?_,fun H B i d x H' ok e y=>?_,fun H B i ok hl=>?_⟩ (fun n hn Ha Hb Ba Bb g kp ok=>⟨pmv n hn _ _ _ _ g kp ok.1,zt.goes g _ _ ok.2⟩) (fun hs H H' B B' g ok=>⟨pst hs _ _ _ _ g ok.1,zt.goes g _ _ ok.2⟩) ⟨p0,r⟩
 ·obtain ⟨v,h1,h2⟩:=ok.2.get e
  exact ⟨xs,v,psq _ _ ok.1,h1⟩
 ·obtain ⟨rfl,h1⟩:=y
  obtain ⟨v,h2,h3⟩:=ok.2.get e
  have:=h1 xs (psq _ _ ok.1)
  rw [h2] at this;cases this
  exact ⟨.refl _,h3⟩
 ·exact ⟨xs,psq _ _ ok.1,by rw [ok.2.length];exact hl⟩⟩
def yl (lo:Int) (n:Nat):List D:=(List.range n).map fun i=>.int (lo+(i:Nat))
theorem iw_range {K:Frag} (lo:Int) (n:Nat):IW K (Itr lo n) (yl lo n) (fun _ _=>True):=by
 have hl:(yl lo n).length=n:=by simp [yl]
 refine ⟨fun H B i d _ e=>?_,fun H B i d x H' _ e y=>?_,fun H B i _ h=>?_⟩
 ·have:=(Qm.mp e).1
  rw [hl] at this;exact this
 ·obtain ⟨rfl,rfl⟩:=y
  have hi:i<n:=by have:=(Qm.mp e).1;rw [hl] at this;exact this
  simp [yl,hi] at e
  subst e
  exact ⟨.refl _,yC⟩
 ·rw [hl] at h;exact h
def YB (fa:Ev->Option D):Ev->Option (List D):=fun ρ=>(fa ρ).bind fun d=>(asI d).bind fun j=>if -(2 ^ 62)<=j/\j<2 ^ 62 then some (yl 0 j.toNat) else none
def fRng2 (fa fb:Ev->Option D):Ev->Option (List D):=fun ρ=>(fa ρ).bind fun d=>(fb ρ).bind fun d'=>(asI d).bind fun i=>(asI d').bind fun j=>if -(2 ^ 62)<=i/\i<2 ^ 62/\-(2 ^ 62)<=j/\j<2 ^ 62 then some (yl i (j - i).toNat) else none
theorem asI_v {K:Frag} {H:Hp} {B:Addr->Prop} {d:D} {v:V} {i:Int} (r:Rep K H B d v) (e:asI d=some i):v=.int i:=by
 cases d <;> simp only [asI] at e <;> cases e
 simpa [Rep] using r
theorem Yk (hg:Gl X "range") (hm:X.mg "range"=none) (ha:SE X false os a ta fa) (h1:starEach [a] X.env=(false,eval a X.env)::starEach [] X.env:=by rfl) (hs:starEach [a] X.env=[(false,eval a X.env)]:=by rfl) :
  SI X s os tg (.Call (.Name "range" p) [a] [] pos) (iRng1 (z6 ta Z0)) (YB fa):=⟨pi_range1 hg hm (zP ha.pe Zn h1) hs,fun Ud Ue σ H ρ ds R m q kk=>by
 obtain ⟨x,h1,h2⟩:=ze q
 obtain ⟨j,h3,h4⟩:=ze h2
 split at h4
 ·cases h4
  rename_i hb
  refine ha.ok Ud Ue σ H ρ x _ m h1 fun v H1 s1 r=>?_
  have:=asI_v r h3
  subst this
  exact ⟨j,rfl,hb.1,hb.2,kk _ H1 _ s1 (iw_range 0 _) (fun _ _ _ _ _ _ _ _ _=>trivial) (fun _ _ _ _ _ _ _=>trivial) trivial⟩
 ·cases h4⟩
def zipD (xs ys:List D):List D:=List.zipWith (fun x y=>.tup [x,y]) xs ys
def fZip (ca cb:Ev->Option (List D)):Ev->Option (List D):=fun ρ=>(ca ρ).bind fun xs=>(cb ρ).map fun ys=>zipD xs ys
theorem si_zip {j1 j2:Bool} {elts:List Expr} {kk:Nat} {pp:Pos} (hg:Gl X "zip") (hm:X.mg "zip"=none) (ha:SN X s j1 os a ta ca) (hb:SN X s j2 os b tb cb) (h1:starEach [a,b] X.env=(false,eval a X.env)::starEach [b] X.env:=by rfl) (h2:starEach [b] X.env=(false,eval b X.env)::starEach [] X.env:=by rfl)
  (hs:starEach [a,b] X.env=[(false,eval a X.env),(false,eval b X.env)]:=by rfl) (hs2:starEach [b] X.env=[(false,eval b X.env)]:=by rfl) {K':Frag} (hK:X.K=K':=by rfl) :
  SI X s os (.Tuple elts kk pp) (.Call (.Name "zip" p) [a,b] [] pos) (iZip j1 j2 K' (z6 ta (z6 tb Z0))) (fZip ca cb):=by
 subst hK
 exact ⟨pi_zip j1 j2 hg hm (zP ha.pe (zP hb.pe Zn h2) h1) hs hs2,fun Ud Ue σ H ρ ds R m q kk=>by
 obtain ⟨dx,h1,h2⟩:=ze q
 obtain ⟨dy,h3,rfl⟩:=map_some h2
 refine ha.ok Ud Ue σ H ρ dx _ m h1 fun a xs H1 s1 hc1 r1=>?_
 refine hb.ok Ud Ue σ H1 ρ dy _ (m.up s1) h3 fun b ys H2 s2 hc2 r2=>?_
 have hc1':=hc1.up s2
 have r1':=r1.up s2
 refine ⟨a,b,rfl,⟨xs,hc1'.sq⟩,⟨ys,hc2.sq⟩,?_⟩
 obtain ⟨P,p0,psq,pmv,pst⟩:=hc1'.split
 obtain ⟨P2,p02,psq2,pmv2,pst2⟩:=hc2.split
 refine kk _ H2 (fun H B=>(P H B/\zt X.K H B dx xs)/\P2 H B/\zt X.K H B dy ys) (s1.trans s2) ⟨fun H B i d ok e=>?_,fun H B i d x H' ok e y=>?_,fun H B i ok hl=>?_⟩
  (fun n hn Ha Hb Ba Bb g kp ok=>⟨⟨pmv n hn _ _ _ _ g kp ok.1.1,zt.goes g _ _ ok.1.2⟩,pmv2 n hn _ _ _ _ g kp ok.2.1,zt.goes g _ _ ok.2.2⟩) (fun hs H H' B B' g ok=>⟨⟨pst hs _ _ _ _ g ok.1.1,zt.goes g _ _ ok.1.2⟩,pst2 hs _ _ _ _ g ok.2.1,zt.goes g _ _ ok.2.2⟩) ⟨⟨p0,r1'⟩,p02,r2⟩
 ·have:=(Qm.mp e).1
  simp only [zipD,P6] at this
  obtain ⟨u,h5,_⟩:=ok.1.2.get (i:=i) (d:=dx[i]) (by simp [show i<dx.length by omega])
  obtain ⟨v,h6,_⟩:=ok.2.2.get (i:=i) (d:=dy[i]) (by simp [show i<dy.length by omega])
  exact ⟨xs,ys,u,v,psq _ _ ok.1.1,psq2 _ _ ok.2.1,h5,h6⟩
 ·have hi:=(Qm.mp e).1
  simp only [zipD,P6] at hi
  obtain ⟨u,h5,h5'⟩:=ok.1.2.get (i:=i) (d:=dx[i]) (by simp [show i<dx.length by omega])
  obtain ⟨v,h6,h6'⟩:=ok.2.2.get (i:=i) (d:=dy[i]) (by simp [show i<dy.length by omega])
  obtain ⟨q',x1,y1,rfl,hn,rfl,hx,hy⟩:=y
  have e1:=hx xs (psq _ _ ok.1.1)
  have e2:=hy ys (psq2 _ _ ok.2.1)
  rw [h5] at e1;cases e1
  rw [h6] at e2;cases e2
  have e3:d=.tup [dx[i],dy[i]]:=by
   simp only [zipD] at e
   rw [Px] at e
   simp [show i<dx.length by omega,show i<dy.length by omega] at e
   exact e.symm
  subst e3
  refine ⟨zz hn,?_⟩
  simp only [Rep]
  exact ⟨q',_,rfl,.inl (.inl zw),(zt.cons h5' (.one h6')).up (zz hn)⟩
 ·simp only [zipD,P6] at hl
  exact ⟨xs,ys,psq _ _ ok.1.1,psq2 _ _ ok.2.1,by rw [ok.1.2.length,ok.2.2.length];omega⟩⟩
end
def GOk (K:Frag) (os:List Nat) (g:TG) (u:D->Ev->Option Ev):Prop:=∀ (Ud:Hp) (Ue:Addr->Prop) (σ:St) (H:Hp) (ρ ρ':Ev) (d:D) (v:V) (Q:St->Hp->Prop),Md K Ud Ue os σ H ρ->Rep K H (Bl Ue os σ) d v->u d ρ=some ρ' ->
 (∀ σ',σ'.length=σ.length->(∀ i∈os,σ'[i]?=σ[i]?)->Md K Ud Ue os σ' H ρ'->Q σ' H)->g v σ H Q
structure SG (X:Cx) (os:List Nat) (tg:Expr) (g:TG) (u:D->Ev->Option Ev):Prop where
 pg:PG X tg g
 ok:GOk X.K os g u
structure SGs (X:Cx) (os:List Nat) (ts:List Expr) (g:TGs) (n:Nat) (u:List D->Ev->Option Ev):Prop where
 pg:PGs X ts g
 len:∀ ds ρ ρ',u ds ρ=some ρ'->ds.length=n
 ok:∀ (Ud:Hp) (Ue:Addr->Prop) (σ:St) (H:Hp) (ρ ρ':Ev) (ds:List D) (vs:List V) (Q:St->Hp->Prop),Md X.K Ud Ue os σ H ρ->zt X.K H (Bl Ue os σ) ds vs->u ds ρ=some ρ' ->
  (∀ σ',σ'.length=σ.length->(∀ i∈os,σ'[i]?=σ[i]?)->Md X.K Ud Ue os σ' H ρ'->Q σ' H)->g vs σ H Q
def zZ (i:Nat):D->Ev->Option Ev:=fun d ρ=>some (ρ.set i (some d))
def uNil:List D->Ev->Option Ev
 | [],ρ=>some ρ
 | _::_,_=>none
def Jc (u:D->Ev->Option Ev) (us:List D->Ev->Option Ev):List D->Ev->Option Ev
 | [],_=>none
 | d::ds,ρ=>(u d ρ).bind fun ρ'=>us ds ρ'
def uTup (us:List D->Ev->Option Ev):D->Ev->Option Ev:=fun d ρ=>(asK false d).bind fun ds=>us ds ρ
def uLst (us:List D->Ev->Option Ev):D->Ev->Option Ev:=fun d ρ=>(asK true d).bind fun ds=>us ds ρ
section
variable {X:Cx} {os:List Nat} {pos:Pos}
theorem bl_eq {Ue:Addr->Prop} {σ σ':St} (h:∀ i∈os,σ'[i]?=σ[i]?):Bl Ue os σ'=Bl Ue os σ:=by
 funext a
 unfold Bl
 apply propext
 constructor
 ·rintro (z | ⟨i,hi,e⟩)
  ·exact .inl z
  ·exact .inr ⟨i,hi,by rw [<- h i hi];exact e⟩
 ·rintro (z | ⟨i,hi,e⟩)
  ·exact .inl z
  ·exact .inr ⟨i,hi,by rw [h i hi];exact e⟩
theorem Zf {i:Nat} {x:Str} (hN:X.N.Nodup) (hi:X.N[i]?=some x) (hx:Loc X.env.scope x) (ho:i∉os:=by decide) (hf:X.fn x=true\/X.env.scope.names.lookup x=some .local:=by first | exact .inl rfl | exact .inr rfl | assumption):SG X os (.Name x pos) (ZX i) (zZ i) :=
 ⟨pg_name hN hi hx hf,fun Ud Ue σ H ρ ρ' d v Q m r e k=>by
  cases e
  refine k _ (by rw [Qo]) (fun j hj=>zd fun z=>ho (z▸hj)) (m.put (fun j hj=>⟨hj,fun z=>ho (z▸hj)⟩) (fun j hj=>.inl hj) r)⟩
theorem sgs_nil:SGs X os [] gNil 0 uNil:=⟨pgs_nil,fun ds ρ ρ' e=>(by cases ds <;> first | rfl | cases e),fun Ud Ue σ H ρ ρ' ds vs Q m r e k=>by
 cases ds with
 | nil=>cases e;simp only [zt] at r;exact ⟨r,k σ rfl (fun _ _=>rfl) m⟩
 | cons a r=>cases e⟩
theorem jD {e:Expr} {es:List Expr} {t:TG} {u:TGs} {n:Nat} {f:D->Ev->Option Ev} {fs:List D->Ev->Option Ev} (h1:SG X os e t f) (h2:SGs X os es u n fs)
  (hs:(assignEach (e::es) X.env).map (·.2)=assign e X.env::(assignEach es X.env).map (·.2):=by rfl):SGs X os (e::es) (gCons t u) (n+1) (Jc f fs):=⟨pgs_cons h1.pg h2.pg hs,fun ds ρ ρ' e=>(by
 cases ds with
 | nil=>cases e
 | cons a r =>
  obtain ⟨x,_,q⟩:=ze e
  rw [Qe,h2.len _ _ _ q]),fun Ud Ue σ H ρ ρ' ds vs Q m r e k=>by
 cases ds with
 | nil=>cases e
 | cons d ds =>
  obtain ⟨ρ1,q1,q2⟩:=ze e
  simp only [zt] at r
  obtain ⟨v,vr,rfl,r1,r2⟩:=r
  refine ⟨v,vr,rfl,h1.ok Ud Ue σ H ρ ρ1 d v _ m r1 q1 fun σ1 l1 a1 m1=>?_⟩
  refine h2.ok Ud Ue σ1 H ρ1 ρ' ds vr _ m1 (by rw [bl_eq a1];exact r2) q2 fun σ2 l2 a2 m2=>?_
  exact k σ2 (l2.trans l1) (fun i hi=>(a2 i hi).trans (a1 i hi)) m2⟩
theorem sg_tup {es:List Expr} {k:Nat} {t:TGs} {n:Nat} {fs:List D->Ev->Option Ev} (hc:X.calm=true) (h:SGs X os es t n fs) (hn:(assignEach es X.env).length=n:=by rfl) (hst:(assignEach es X.env).findIdx? (·.1)=none:=by rfl) {K':Frag} (hK:X.K=K':=by rfl) :
  SG X os (.Tuple es k pos) (gTup K' n t) (uTup fs):=by
 subst hK
 exact ⟨pg_tup hc h.pg hn hst,fun Ud Ue σ H ρ ρ' d v Q m r e kk=>by
 obtain ⟨ds,q1,q2⟩:=ze e
 cases d <;> simp only [asK] at q1 <;> cases q1
 simp only [Rep] at r
 obtain ⟨a,xs,rfl,hq,hr⟩:=r
 exact ⟨a,xs,rfl,hq,by rw [hr.length,h.len _ _ _ q2],h.ok Ud Ue σ H ρ ρ' ds xs Q m hr q2 kk⟩⟩
end
def Yh (u:D->Ev->Option Ev) (c:Ev->Option Bool) (e:Ev->Option D):List D->Ev->Option (List D)
 | [],_=>some []
 | d::ds,ρ=>(u d ρ).bind fun ρ1=>(c ρ1).bind fun b=>if b then (e ρ1).bind fun x=>(Yh u c e ds ρ1).map (x::·) else Yh u c e ds ρ1
def yv (k:Nat) (fi:Ev->Option (List D)) (u:D->Ev->Option Ev) (c:Ev->Option Bool) (e:Ev->Option D):Ev->Option D:=fun ρ=>(fi ρ).bind fun ds=>(Yh u c e ds (ρ++List.replicate k none)).bind JK
structure SPF (X:Cx) (os:List Nat) (ifs:List Expr) (t:TT) (f:Ev->Option Bool):Prop where
 pf:PF X ifs t
 ok:TOk X.K os t f
def jc:Ev->Option Bool:=fun _=>some true
theorem Yt {X:Cx} {os:List Nat}:SPF X os [] tYes jc:=⟨pf_nil,fun Ud Ue σ H ρ b Q m q k=>by cases q;exact k H (.refl H)⟩
theorem spf_one {X:Cx} {os:List Nat} {c:Expr} {t:TT} {f:Ev->Option Bool} (h:SB X os c t f):SPF X os [c] t f:=⟨pf_one h.pt,h.ok⟩
section
variable {K:Frag} {os:List Nat}
theorem Z8 {α:Type} {l r:List α} {i:Nat} {x:α} (h:l[i]?=some x):(l++r)[i]?=some x:=by
 rw [QP (Qm.mp h).1];exact h
theorem Md.extend {Ud H:Hp} {Ue:Addr->Prop} {σ:St} {ρ:Ev} (m:Md K Ud Ue os σ H ρ) (k:Nat) {D':Addr} (hn:H D'=none) :
  Md K Ud (fun b=>Ue b\/b=D') os (σ++List.replicate k none) (upd H D' (.lst [])) (ρ++List.replicate k none):=by
 have hs:zX H (upd H D' (.lst [])):=zz hn
 have osl:∀ i∈os,(σ++List.replicate k none)[i]?=σ[i]?:=fun i hi=>by
  obtain ⟨a,o,d,h1,_⟩:=m.own i hi
  rw [Z8 h1,h1]
 have nown:∀ i∈os,σ[i]?≠some (some (.ref D')):=fun i hi e=>by
  obtain ⟨a,o,d,h1,_,h3,_⟩:=m.own i hi
  rw [e] at h1;cases h1;rw [hn] at h3;cases h3
 have less:∀ b,Bl (fun b=>Ue b\/b=D') os (σ++List.replicate k none) b->Bl Ue os σ b\/b=D':=fun b z=>by
  rcases z with (z | z) | ⟨i,hi,e⟩
  ·exact .inl (.inl z)
  ·exact .inr z
  ·rw [osl i hi] at e;exact .inl (.inr ⟨i,hi,e⟩)
 have g:Goes H (upd H D' (.lst [])) (Bl Ue os σ) (Bl (fun b=>Ue b\/b=D') os (σ++List.replicate k none)):=by
  have g1:=Goes.fresh (B:=Bl Ue os σ) hn hs
  exact ⟨g1.tup,fun b xs q n=>⟨(g1.lst b xs q n).1,fun z=>(g1.lst b xs q n).2 (less b z)⟩,fun b xs q n=>⟨(g1.dct b xs q n).1,fun z=>(g1.dct b xs q n).2 (less b z)⟩,g1.frz,g1.tkt⟩
 refine ⟨m.grow.trans hs,fun a z=>?_,by rw [Qi,Qi,m.len];simp,fun i d q n=>?_,fun i hi=>?_,fun i j a h1 h2 e1 e2=>?_⟩
 ·rcases z with z | rfl
  ·obtain ⟨o,q⟩:=m.blk a z;exact ⟨o,hs _ _ q⟩
  ·exact ⟨_,zw⟩
 ·by_cases hl:i<ρ.length
  ·rw [QP hl] at q
   obtain ⟨v,h1,h2⟩:=m.sh i d q n
   exact ⟨v,Z8 h1,Rep.goes g _ _ h2⟩
  ·rw [QT (by omega),Pp] at q
   split at q <;> cases q
 ·obtain ⟨a,o,d,h1,h2,h3,h4,h5⟩:=m.own i hi
  exact ⟨a,o,d,by rw [osl i hi];exact h1,Z8 h2,hs _ _ h3,⟨h4.1,fun z=>z.elim h4.2 fun z=>nown i hi (z▸h1)⟩,h5.goes g⟩
 ·rw [osl i h1] at e1;rw [osl j h2] at e2
  exact m.sep i j a h1 h2 e1 e2
theorem fok_comp {s:Bool} {k:Nat} {wi:TI} {g:TG} {tc:TT} {te:TE} {fi:Ev->Option (List D)} {u:D->Ev->Option Ev} {c:Ev->Option Bool} {e:Ev->Option D} (hi:IOk K s os wi fi) (hg:GOk K os g u) (hc:TOk K os tc c) (he:EOk K true os te e) :
  FOk K os (WN k wi g tc te) (yv k fi u c e):=fun Ud Ue σ H ρ d Q m q kk=>by
 obtain ⟨ds,h1,h2⟩:=ze q
 obtain ⟨es,h3,h4⟩:=ze h2
 unfold JK at h4
 split at h4
 case isFalse=>cases h4
 rename_i hsz
 cases h4
 refine hi Ud Ue σ H ρ ds _ m h1 fun J H1 ok s1 W up _ ok1=>?_
 intro D' hD
 have m1:=m.up s1
 have mE:=m1.extend k hD
 have ok2:ok (upd H1 D' (.lst [])) (fun b=>Bl Ue os σ b\/b=D'):=up D' hD _ _ _ _ (.fresh hD (zz hD)) (fun b o _ q=>zz hD _ _ q) ok1
 refine ⟨fun i mm ys σ' H'=>mm=ds.length - i/\i<=ds.length/\∃ ρ' done Zm,Md K Ud (fun b=>Ue b\/b=D') os σ' H' ρ'/\(∀ j∈os,σ'[j]?=(σ++List.replicate k none)[j]?)/\H' D'=some (.lst ys) /\
  ok H' (fun b=>Bl Ue os σ b\/b=D')/\zX H1 H'/\zt K H' (Bl (fun b=>Ue b\/b=D') os σ') done ys/\Yh u c e (ds.drop i) ρ'=some Zm/\es=done++Zm,⟨ds.length,by simp,Q3 _,_,[],es,mE,fun _ _=>rfl,zw,ok2,zz hD,.nil,by simpa using h3,rfl⟩,?_⟩
 rintro i mm ys σ' H' ⟨rfl,hile,ρ',done,Zm,mM,ag,hDl,okH,sm,rd,hcomp,hes⟩
 refine ⟨hDl,?_⟩
 have hH0:Ud D'=none:=(m.grow.trans s1).free hD
 have osl:∀ j∈os,σ'[j]?=σ[j]?:=fun j hj=>by
  rw [ag j hj]
  obtain ⟨a,o,d,q1,_⟩:=m.own j hj
  rw [Z8 q1,q1]
 have blE:∀ b,Bl (fun b=>Ue b\/b=D') os σ' b↔(Bl Ue os σ b\/b=D'):=fun b=>by
  constructor
  ·rintro ((z | z) | ⟨j,hj,q⟩)
   ·exact .inl (.inl z)
   ·exact .inr z
   ·rw [osl j hj] at q;exact .inl (.inr ⟨j,hj,q⟩)
  ·rintro ((z | ⟨j,hj,q⟩) | z)
   ·exact .inl (.inl z)
   ·exact .inr ⟨j,hj,by rw [osl j hj];exact q⟩
   ·exact .inl (.inr z)
 have blF:Bl (fun b=>Ue b\/b=D') os σ'=fun b=>Bl Ue os σ b\/b=D':=funext fun b=>propext (blE b)
 by_cases hlt:i<ds.length
 ·right
  have hd:ds[i]?=some ds[i]:=by simp [hlt]
  refine ⟨W.go _ _ i _ okH hd,fun x H2 y=>?_⟩
  obtain ⟨s2,rx⟩:=W.yld _ _ i _ x H2 okH hd y
  rw [Q8 hlt] at hcomp
  simp only [Yh] at hcomp
  obtain ⟨ρ1,q1,q2⟩:=ze hcomp
  obtain ⟨bb,q3,q4⟩:=ze q2
  have mM2:=mM.up s2
  have rx':Rep K H2 (Bl (fun b=>Ue b\/b=D') os σ') ds[i] x:=by rw [blF];exact rx
  have okUp:∀ Hb,zX H' Hb->ok Hb (fun b=>Bl Ue os σ b\/b=D'):=fun Hb sb=>up D' hD _ _ _ _ (.same sb) (fun b o _ q=>sb _ _ q) okH
  refine hg Ud _ σ' H2 ρ' ρ1 ds[i] x _ mM2 rx' q1 fun σ3 l3 a3 m3=>?_
  refine hc Ud _ σ3 H2 ρ1 bb _ m3 q3 fun H4 s4=>?_
  have m4:=m3.up s4
  cases bb with
  | true =>
   rw [if_pos rfl] at q4 ⊢
   obtain ⟨z,q5,q6⟩:=ze q4
   obtain ⟨rest',q7,rfl⟩:=map_some q6
   refine he Ud _ σ3 H4 ρ1 z _ m4 q5 fun v H5 s5 r5=>?_
   have m5:=m4.up s5
   have hDl5:H5 D'=some (.lst ys):=s5 _ _ (s4 _ _ (s2 _ _ hDl))
   have hlen:ys.length=done.length:=rd.length
   have hlt':ys.length<sizeLine:=by
    rw [hes] at hsz
    simp only [Qi,Qe] at hsz
    omega
   have ble:Bl (fun b=>Ue b\/b=D') os σ3=Bl (fun b=>Ue b\/b=D') os σ':=bl_eq a3
   have g6:Goes H5 (upd H5 D' (.lst (ys++[v]))) (Bl (fun b=>Ue b\/b=D') os σ3) (Bl (fun b=>Ue b\/b=D') os σ3):=.write (.inl (.inr rfl)) hDl5 trivial
   refine ⟨hDl5,hlt',ds.length - (i+1),by omega,rfl,hlt,ρ1,done++[z],rest',m5.upB (.inr rfl) hH0 hDl5 trivial,fun j hj=>(a3 j hj).trans (ag j hj),zw,?_,?_,?_,q7,?_⟩
   ·have g7:Goes H5 (upd H5 D' (.lst (ys++[v]))) (fun b=>Bl Ue os σ b\/b=D') (fun b=>Bl Ue os σ b\/b=D'):=.write (.inr rfl) hDl5 trivial
    exact up D' hD _ _ _ _ g7 (fun b o hb q=>by rw [zx hb];exact q) (okUp H5 ((s2.trans s4).trans s5))
   ·intro b o q
    by_cases hb:b=D'
    ·subst hb;rw [hD] at q;cases q
    ·rw [zx hb];exact s5 _ _ (s4 _ _ (s2 _ _ (sm _ _ q)))
   ·refine zt.goes g6 _ _ (zt.append ?_ (.one r5))
    rw [ble]
    exact rd.up ((s2.trans s4).trans s5)
   ·rw [hes];simp
  | false =>
   rw [if_neg Qg] at q4 ⊢
   refine ⟨ds.length - (i+1),by omega,rfl,hlt,ρ1,done,Zm,m4,fun j hj=>(a3 j hj).trans (ag j hj),s4 _ _ (s2 _ _ hDl),okUp H4 (s2.trans s4),sm.trans (s2.trans s4),?_,q4,hes⟩
   rw [bl_eq a3]
   exact rd.up (s2.trans s4)
 ·left
  have hi':i=ds.length:=by omega
  subst hi'
  refine ⟨W.stop _ _ _ okH (Ql _),?_⟩
  rw [Pd] at hcomp
  cases hcomp
  rw [Pa] at hes
  subst hes
  refine kk D' _ H' (s1.trans sm) (s1.free hD) hDl ?_
  simp only [Own]
  refine zt.goes ⟨fun _ _ q=>q,fun b xs q n=>⟨q,fun z=>n ((blE b).mpr z)⟩,fun b xs q n=>⟨q,fun z=>n ((blE b).mpr z)⟩,fun _ _ _ q=>q,fun _ _ q=>q⟩ _ _ rd
end
inductive Out where
 | nx (ρ:Ev) | rt (d:D) | bk (ρ:Ev) | ct (ρ:Ev)
def FR (K:Frag) (H H':Hp) (B:Addr->Prop) (d:D) (v:V):Prop :=
 (∃ a o,v=.ref a/\H a=none/\H' a=some o/\Own K H' (fun b=>B b\/b=a) o d)\/(d.flat=true/\Rep K H' B d v) \/
 ∃ (b:Addr) (x:Str) (as:List Addr),v=.ref b/\d=.tup (.str x::as.map fun _=>.lst [])/\as.Nodup/\(∀ a∈as,H a=none/\H' a=some (.lst []))/\H' b=some (.tup (.str x::as.map V.ref))
theorem jY {K:Frag} {H H':Hp} {B:Addr->Prop} (hB:∀ a,B a->∃ o,H a=some o):∀ {as:List Addr},(∀ a∈as,H a=none/\H' a=some (.lst []))->zt K H' B (as.map fun _=>D.lst []) (as.map V.ref)
 | [],_=>.nil
 | a::as,h=>.cons (by
   obtain ⟨h1,h2⟩:=h a Qt
   simp only [Rep]
   exact ⟨a,[],rfl,⟨.inl h2,fun z=>by obtain ⟨o,q⟩:=hB a z;rw [h1] at q;cases q⟩,.nil⟩) (jY hB fun x hx=>h x (Qd _ hx))
theorem FR.rep {K:Frag} {H H':Hp} {B:Addr->Prop} {d:D} {v:V} (h:FR K H H' B d v) (hB:∀ a,B a->∃ o,H a=some o):Rep K H' B d v:=by
 rcases h with ⟨a,o,rfl,hn,ho,hw⟩ | ⟨_,h⟩ | ⟨b,x,as,rfl,rfl,hnd,ha,hb⟩
 ·exact hw.rep ho fun z=>by obtain ⟨o',q⟩:=hB a z;rw [hn] at q;cases q
 ·exact h
 ·simp only [Rep]
  exact ⟨b,_,rfl,.inl (.inl hb),.cons (by simp [Rep]) (jY hB ha)⟩
theorem FR.back {K:Frag} {Ud H H':Hp} {B:Addr->Prop} {d:D} {v:V} (hs:zX Ud H) (h:FR K H H' B d v):FR K Ud H' B d v:=by
 rcases h with ⟨a,o,e,hn,q⟩ | q | ⟨b,x,as,h1,h2,h3,h4,h5⟩
 ·exact .inl ⟨a,o,e,hs.free hn,q⟩
 ·exact .inr (.inl q)
 ·exact .inr (.inr ⟨b,x,as,h1,h2,h3,fun a ha=>⟨hs.free (h4 a ha).1,(h4 a ha).2⟩,h5⟩)
def RtOk (K:Frag) (fr:Bool) (Ud H:Hp) (Ue:Addr->Prop) (d:D) (v:V):Prop:=match fr with
 | true=>FR K Ud H Ue d v
 | false=>Rep K H Ue d v
def GU (K:Frag) (fr:Bool) (Ud:Hp) (Ue:Addr->Prop) (os' ol:List Nat) (E:Ends):Out->Prop
 | .nx ρ=>∀ σ H,Md K Ud Ue os' σ H ρ->E.nx σ H
 | .rt d=>∀ v H,zX Ud H->(∀ a,Ue a->∃ o,H a=some o)->RtOk K fr Ud H Ue d v->E.rt v H
 | .bk ρ=>∀ σ H,Md K Ud Ue ol σ H ρ->E.bk σ H
 | .ct ρ=>∀ σ H,Md K Ud Ue ol σ H ρ->E.ct σ H
def SOk (K:Frag) (fr:Bool) (os os' ol:List Nat) (t:TS) (m:Ev->Option Out):Prop :=
 ∀ (Ud:Hp) (Ue:Addr->Prop) (σ:St) (H:Hp) (ρ:Ev) (o:Out) (E:Ends),Md K Ud Ue os σ H ρ->m ρ=some o->GU K fr Ud Ue os' ol E o->t E σ H
structure SS (X:Cx) (fr:Bool) (os os' ol:List Nat) (st:Stmt) (t:TS) (m:Ev->Option Out):Prop where
 ps:PS X st t
 ok:SOk X.K fr os os' ol t m
structure SSs (X:Cx) (fr:Bool) (os os' ol:List Nat) (st:List Stmt) (t:TS) (m:Ev->Option Out):Prop where
 ps:PSs X st t
 ok:SOk X.K fr os os' ol t m
def ZT:Ev->Option Out:=fun ρ=>some (.nx ρ)
def zO (m1 m2:Ev->Option Out):Ev->Option Out:=fun ρ=>(m1 ρ).bind fun o=>match o with
 | .nx ρ'=>m2 ρ'
 | o=>some o
def ZH (f:Ev->Option D):Ev->Option Out:=fun ρ=>(f ρ).map .rt
def mRetN:Ev->Option Out:=fun _=>some (.rt .non)
def Zw (i:Nat) (f:Ev->Option D):Ev->Option Out:=fun ρ=>(f ρ).map fun d=>.nx (ρ.set i (some d))
def W9 (i:Nat) (f:Ev->Option D):Ev->Option Out:=fun ρ=>(f ρ).bind fun d=>if i<ρ.length then some (.nx (ρ.set i (some d))) else none
def mAsg (u:D->Ev->Option Ev) (f:Ev->Option D):Ev->Option Out:=fun ρ=>(f ρ).bind fun d=>(u d ρ).map .nx
def mIf (c:Ev->Option Bool) (m1 m2:Ev->Option Out):Ev->Option Out:=fun ρ=>(c ρ).bind fun b=>if b then m1 ρ else m2 ρ
def mDrop (f:Ev->Option D):Ev->Option Out:=fun ρ=>(f ρ).map fun _=>.nx ρ
def GA (i:Nat) (g:List D->D->Option (List D)) (f:Ev->Option D):Ev->Option Out:=fun ρ=>(f ρ).bind fun d=>(ρ[i]?.join).bind fun x=>(asL x).bind fun ds=>(g ds d).map fun ds'=>.nx (ρ.set i (some (.lst ds')))
def yu (ds:List D) (d:D):Option (List D):=if ds.length<sizeLine then some (ds++[d]) else none
def mSetIx (i:Nat) (f fi:Ev->Option D):Ev->Option Out:=fun ρ=>(f ρ).bind fun d=>(ρ[i]?.join).bind fun x=>(asL x).bind fun ds=>(fi ρ).bind fun k=>(asI k).bind fun k=>(ixN ds.length k).map fun j=>.nx (ρ.set i (some (.lst (ds.set j d))))
def JF (u:D->Ev->Option Ev) (b:Ev->Option Out):List D->Ev->Option Out
 | [],ρ=>some (.nx ρ)
 | d::ds,ρ=>(u d ρ).bind fun ρ1=>(b ρ1).bind fun o=>match o with
  | .nx ρ2=>JF u b ds ρ2
  | .ct ρ2=>JF u b ds ρ2
  | .bk ρ2=>some (.nx ρ2)
  | .rt d=>some (.rt d)
def gc (fi:Ev->Option (List D)) (u:D->Ev->Option Ev) (b:Ev->Option Out):Ev->Option Out:=fun ρ=>(fi ρ).bind fun ds=>JF u b ds ρ
section
variable {X:Cx} {fr:Bool} {os o1 os' os2 ol:List Nat} {st:Stmt} {Zm sts sts2:List Stmt} {t u:TS} {m m1 m2:Ev->Option Out} {e a tg:Expr} {te ta:TE} {f fa:Ev->Option D} {pos:Pos}
theorem GU.mono {K:Frag} {fr:Bool} {Ud:Hp} {Ue:Addr->Prop} {os' os2 ol:List Nat} {E:Ends} {o:Out} (hs:∀ i∈os',i∈os2) (h:GU K fr Ud Ue os' ol E o):GU K fr Ud Ue os2 ol E o:=by
 cases o with
 | nx ρ=>exact fun σ H m=>h σ H (m.freeze hs)
 | rt d=>exact h
 | bk ρ=>exact h
 | ct ρ=>exact h
theorem Zd:SSs X fr os os ol [] WK ZT:=⟨wQ,fun Ud Ue σ H ρ o E m q k=>by cases q;exact k σ H m⟩
theorem zy (h:SS X fr os os' ol st t m):SSs X fr os os' ol [st] t m:=⟨Yc h.ps,h.ok⟩
theorem SOk.seq {K:Frag} (h1:SOk K fr os o1 ol t m1) (h2:SOk K fr o1 os' ol u m2):SOk K fr os os' ol (YM t u) (zO m1 m2):=fun Ud Ue σ H ρ o E m q k=>by
 obtain ⟨o',q1,q2⟩:=ze q
 refine h1 Ud Ue σ H ρ o' _ m q1 ?_
 cases o' with
 | nx ρ'=>exact fun σ' H' m'=>h2 Ud Ue σ' H' ρ' o E m' q2 k
 | rt d=>cases q2;exact k
 | bk ρ'=>cases q2;exact k
 | ct ρ'=>cases q2;exact k
theorem zi (h1:SS X fr os o1 ol st t m1) (h2:SSs X fr o1 os' ol Zm u m2):SSs X fr os os' ol (st::Zm) (YM t u) (zO m1 m2):=⟨ZO h1.ps h2.ps,SOk.seq h1.ok h2.ok⟩
theorem SSs.pre (h:SSs X fr os2 os' ol sts t m) (hs:∀ i∈os2,i∈os:=by decide):SSs X fr os os' ol sts t m:=⟨h.ps,fun Ud Ue σ H ρ o E mm q k=>h.ok Ud Ue σ H ρ o E (mm.freeze hs) q k⟩
theorem SS.pre (h:SS X fr os2 os' ol st t m) (hs:∀ i∈os2,i∈os:=by decide):SS X fr os os' ol st t m:=⟨h.ps,fun Ud Ue σ H ρ o E mm q k=>h.ok Ud Ue σ H ρ o E (mm.freeze hs) q k⟩
theorem SSs.post (h:SSs X fr os os2 ol sts t m) (hs:∀ i∈os',i∈os2:=by decide):SSs X fr os os' ol sts t m:=⟨h.ps,fun Ud Ue σ H ρ o E mm q k=>h.ok Ud Ue σ H ρ o E mm q (k.mono hs)⟩
theorem Zl (h:SE X false os e te f):SS X false os os' ol (.Return (some e) pos) (W4 te) (ZH f):=⟨Jx h.pe,fun Ud Ue σ H ρ o E mm q k=>by
 obtain ⟨d,h1,rfl⟩:=map_some q
 exact h.ok Ud Ue σ H ρ d _ mm h1 fun v H' s r=>k v H' ((mm.up s).grow) (mm.up s).blk r⟩
theorem ss_retF (h:SF X os e te f):SS X true os os' ol (.Return (some e) pos) (W4 te) (ZH f):=⟨Jx h.pe,fun Ud Ue σ H ρ o E mm q k=>by
 obtain ⟨d,h1,rfl⟩:=map_some q
 exact h.ok Ud Ue σ H ρ d _ mm h1 fun a u H' s hn ho hw=>k _ H' ((mm.up s).grow) (mm.up s).blk (.inl ⟨a,u,rfl,mm.grow.free hn,ho,hw.goes (.less (fun b z=>z.elim (fun z=>.inl (.inl z)) .inr) (.refl H'))⟩)⟩
theorem Jq (h:SE X false os e te f):SS X true os os' ol (.Return (some e) pos) (W4 te) (ZH (Y6 f)):=⟨Jx h.pe,fun Ud Ue σ H ρ o E mm q k=>by
 obtain ⟨d,h1,rfl⟩:=map_some q
 obtain ⟨x,h2,h3⟩:=ze h1
 split at h3
 ·rename_i hf
  cases h3
  exact h.ok Ud Ue σ H ρ _ _ mm h2 fun v H' s r=>k v H' ((mm.up s).grow) (mm.up s).blk (.inr (.inl ⟨hf,r⟩))
 ·cases h3⟩
structure SR (X:Cx) (st:Bool) (os:List Nat) (e:Expr) (t:TE) (f:Ev->Option D):Prop where
 pe:PE X e t
 ok:∀ (Ud:Hp) (Ue:Addr->Prop) (σ:St) (H:Hp) (ρ:Ev) (d:D) (Q:VK),Md X.K Ud Ue os σ H ρ->f ρ=some d->(∀ v H',zX H H'->FR X.K H H' (BB st Ue os σ) d v->Q v H')->t σ H Q
def isLs:D->Bool
 | .lst _=>true
 | .dict _ _=>true
 | _=>false
def yW:D->Bool
 | .lst ds=>YL ds
 | .dict _ ds=>YL ds
 | _=>false
def mNewR (i:Nat) (f:Ev->Option D):Ev->Option Out:=fun ρ=>(f ρ).bind fun d=>if i<ρ.length/\isLs d=true then some (.nx (ρ.set i (some d))) else none
def mNewRW (i:Nat) (f:Ev->Option D):Ev->Option Out:=fun ρ=>(f ρ).bind fun d=>if i<ρ.length/\yW d=true then some (.nx (ρ.set i (some d))) else none
theorem ss_newRW {i:Nat} {x:Str} {pos':Pos} (hN:X.N.Nodup) (hi:X.N[i]?=some x) (hx:Loc X.env.scope x) (h:SR X false os e te f) (hs:∀ j∈os',j=i\/(j∈os/\j≠i):=by decide) (hs2:∀ j∈os,j∈os'\/j=i:=by decide) (hm:i∈os':=by decide)
  (hsw:swapsWith e (some (.Name x pos')) pos.line X.env=pure false:=by rfl) (hf:X.fn x=true\/X.env.scope.names.lookup x=some .local:=by first | exact .inl rfl | exact .inr rfl | assumption) :
  SS X fr os os' ol (.Assign [.Name x pos'] e pos) (yX te (ZX i)) (mNewRW i f):=⟨YI hN hi hx h.pe hsw hf,fun Ud Ue σ H ρ o E mm q k=>by
 obtain ⟨d,h1,h2⟩:=ze q
 split at h2
 ·rename_i hc
  cases h2
  refine h.ok Ud Ue σ H ρ d _ mm h1 fun v H' s r=>?_
  rcases r with ⟨a,u,rfl,hn,ho,hw⟩ | ⟨hfl,_⟩ | ⟨b,x,as,_,rfl,_⟩
  ·refine k _ H' (mm.putNew hc.1 hs hs2 hm s hn ho ?_)
   cases u <;> cases d <;> simp only [Own] at hw
   ·exact zt.flat _ _ hc.2 hw
   ·exact ⟨hw.1,zt.flat _ _ hc.2 hw.2⟩
   ·exact hw
  ·exfalso
   cases d <;> simp [yW,D.flat] at hc hfl
  ·simp [yW] at hc
 ·cases h2⟩
theorem SOk.set {K:Frag} {i:Nat} (h:EOk K true os te f) (hs:∀ j∈os',j∈os/\j≠i) (hs2:∀ j∈os,j∈os'\/j=i):SOk K fr os os' ol (yX te (ZX i)) (Zw i f):=fun Ud Ue σ H ρ o E mm q k=>by
 obtain ⟨d,h1,rfl⟩:=map_some q
 exact h Ud Ue σ H ρ d _ mm h1 fun v H' s r=>k _ H' ((mm.up s).put hs hs2 r)
theorem zQ {i:Nat} {x:Str} {pos':Pos} (hN:X.N.Nodup) (hi:X.N[i]?=some x) (hx:Loc X.env.scope x) (h:SE X true os e te f) (hs:∀ j∈os',j∈os/\j≠i:=by decide) (hs2:∀ j∈os,j∈os'\/j=i:=by decide)
  (hsw:swapsWith e (some (.Name x pos')) pos.line X.env=pure false:=by rfl) (hf:X.fn x=true\/X.env.scope.names.lookup x=some .local:=by first | exact .inl rfl | exact .inr rfl | assumption) :
  SS X fr os os' ol (.Assign [.Name x pos'] e pos) (yX te (ZX i)) (Zw i f):=⟨YI hN hi hx h.pe hsw hf,SOk.set h.ok hs hs2⟩
theorem SOk.new {K:Frag} {i:Nat} (h:FOk K os te f) (hs:∀ j∈os',j=i\/(j∈os/\j≠i)) (hs2:∀ j∈os,j∈os'\/j=i) (hm:i∈os'):SOk K fr os os' ol (yX te (ZX i)) (W9 i f):=fun Ud Ue σ H ρ o E mm q k=>by
 obtain ⟨d,h1,h2⟩:=ze q
 split at h2
 ·rename_i hi
  cases h2
  exact h Ud Ue σ H ρ d _ mm h1 fun a u H' s hn ho hw=>k _ H' (mm.putNew hi hs hs2 hm s hn ho hw)
 ·cases h2
theorem Jr {i:Nat} {x:Str} {pos':Pos} (hN:X.N.Nodup) (hi:X.N[i]?=some x) (hx:Loc X.env.scope x) (h:SF X os e te f) (hs:∀ j∈os',j=i\/(j∈os/\j≠i):=by decide) (hs2:∀ j∈os,j∈os'\/j=i:=by decide) (hm:i∈os':=by decide)
  (hsw:swapsWith e (some (.Name x pos')) pos.line X.env=pure false:=by rfl) (hf:X.fn x=true\/X.env.scope.names.lookup x=some .local:=by first | exact .inl rfl | exact .inr rfl | assumption) :
  SS X fr os os' ol (.Assign [.Name x pos'] e pos) (yX te (ZX i)) (W9 i f):=⟨YI hN hi hx h.pe hsw hf,SOk.new h.ok hs hs2 hm⟩
theorem FOk.eok {K:Frag} {b:Bool} (h:FOk K os te f):EOk K b os te f:=fun Ud Ue σ H ρ d Q m q k=>h Ud Ue σ H ρ d Q m q fun a o H' s hn ho hw=>k _ _ s (Rep.bb (hw.rep ho (m.ntracked hn)))
theorem ss_setC {i:Nat} (hp:PS X st (yX te (ZX i))) (h:FOk X.K os te f) (hs:∀ j∈os',j∈os/\j≠i:=by decide) (hs2:∀ j∈os,j∈os'\/j=i:=by decide):SS X fr os os' ol st (yX te (ZX i)) (Zw i f):=⟨hp,SOk.set h.eok hs hs2⟩
theorem ss_asg {g:TG} {u:D->Ev->Option Ev} (h:SE X true os e te f) (hg:SG X os tg g u) (hs:swapsWithSole [tg] e pos.line X.env=pure false:=by rfl) (hw:swappedStores [tg] e X.env=pure none:=by rfl)
  (h1:(assignEach [tg] X.env).map (·.2)=[assign tg X.env]:=by rfl):SS X fr os os ol (.Assign [tg] e pos) (yX te g) (mAsg u f):=⟨ps_asg h.pe hg.pg hs hw h1,fun Ud Ue σ H ρ o E mm q k=>by
 obtain ⟨d,h1,h2⟩:=ze q
 obtain ⟨ρ',h3,rfl⟩:=map_some h2
 exact h.ok Ud Ue σ H ρ d _ mm h1 fun v H' s r=>hg.ok Ud Ue σ H' ρ ρ' d v _ (mm.up s) r h3 fun σ' _ _ m'=>k σ' H' m'⟩
theorem Yg {α:Type} {ρ:List (Option α)} {i:Nat} {d:α} (q:ρ[i]?.join=some d):ρ[i]?=some (some d):=by
 cases z:ρ[i]? with
 | none=>rw [z] at q;cases q
 | some o=>rw [z] at q;cases o <;> simp at q;rw [q]
theorem pe_append {i:Nat} {x:Str} {p apos cpos:Pos} (he:PE X e te) (hN:X.N[i]?=some x:=by rfl) (hv:Vis X.env.scope x:=by first | exact Or.inl rfl | exact Or.inr (Or.inl rfl) | exact Or.inr (Or.inr rfl)) (hd:(x == ("__debug__":Str))=false:=by decide)
  (hcd:(x == ("__classdict__":Str))=false:=by decide) (hs1:starEach [e] X.env=(false,eval e X.env)::starEach [] X.env:=by rfl)
  (hbase:attributeBase (.Name x p) "append" X.env (eval (.Name x p) X.env)=eval (.Name x p) X.env:=by rfl)
  (hfew:((backTo cpos (starEach [e] X.env)).all (fun x=>!x.1)&&(backToKw cpos (keywordEach [] X.env)).all (fun x=>x.1.isSome)
   && decide ([e].length+([]:List Keyword).length+(if ([]:List Keyword).isEmpty then 0 else 1)<30))=true:=by rfl)
  (hline:(apos.endLine == cpos.line)=true:=by rfl) (hplain:(backTo cpos (starEach [] X.env)).any (·.1)=false:=by rfl):PE X (.Call (.Attribute (.Name x p) "append" apos) [e] [] cpos) (tBM X.K "list" Yx (ZB i) (z6 te Z0)) :=
 pe_bm PySem.F.plainAttrs_list PySem.F.slot_list_append PySem.F.type_list_append jG (pv i hN hv hd hcd) (zP he Zn hs1) hbase hfew hline hs1 hplain
theorem YS {i:Nat} {x:Str} {p apos:Pos} (h:SE X true os e te f) (ho:i∈os:=by decide) (hN:X.N[i]?=some x:=by rfl) (hv:Vis X.env.scope x:=by first | exact Or.inl rfl | exact Or.inr (Or.inl rfl) | exact Or.inr (Or.inr rfl)) (hd:(x == ("__debug__":Str))=false:=by decide)
  (hcd:(x == ("__classdict__":Str))=false:=by decide) {cpos:Pos} (hs1:starEach [e] X.env=(false,eval e X.env)::starEach [] X.env:=by rfl)
  (hbase:attributeBase (.Name x p) "append" X.env (eval (.Name x p) X.env)=eval (.Name x p) X.env:=by rfl)
  (hfew:((backTo cpos (starEach [e] X.env)).all (fun x=>!x.1)&&(backToKw cpos (keywordEach [] X.env)).all (fun x=>x.1.isSome)
   && decide ([e].length+([]:List Keyword).length+(if ([]:List Keyword).isEmpty then 0 else 1)<30))=true:=by rfl)
  (hline:(apos.endLine == cpos.line)=true:=by rfl) (hplain:(backTo cpos (starEach [] X.env)).any (·.1)=false:=by rfl) (hs:swapsWith (.Call (.Attribute (.Name x p) "append" apos) [e] [] cpos) none pos.line X.env=pure false:=by rfl) :
  SS X fr os os ol (.Expr (.Call (.Attribute (.Name x p) "append" apos) [e] [] cpos) pos) (YW (tBM X.K "list" Yx (ZB i) (z6 te Z0))) (GA i yu f):=⟨Yy (pe_append h.pe hN hv hd hcd hs1 hbase hfew hline hplain) hs,fun Ud Ue σ H ρ o E mm q k=>by
 obtain ⟨d,h1,h2⟩:=ze q
 obtain ⟨y,h3,h4⟩:=ze h2
 obtain ⟨ds,h5,h6⟩:=ze h4
 obtain ⟨ds',h7,rfl⟩:=map_some h6
 unfold yu at h7
 split at h7
 case isFalse=>cases h7
 rename_i hl
 cases h7
 cases y <;> simp only [asL] at h5 <;> cases h5
 obtain ⟨a,ob,d',q1,q2,q3,q4,q5⟩:=mm.own i ho
 have h3':=Yg h3
 rw [h3'] at q2;cases q2
 cases ob <;> simp only [Own] at q5
 refine ⟨.ref a,q1,.inl ⟨rfl,_,.inl (.inl q3)⟩,?_⟩
 refine h.ok Ud Ue σ H ρ d _ mm h1 fun v H' s r=>?_
 have m':=mm.up s
 have q5':=zt.up s q5
 refine ⟨a,_,v,rfl,rfl,s _ _ q3,by rw [q5.length];exact hl,k σ _ ?_⟩
 exact m'.write ho q1 (o:=.lst _) (d:=.lst _) (by simp only [Own];exact q5'.append (.one r))⟩
theorem Z6 {c:Expr} {a b:List Stmt} {tc:TT} {g:Ev->Option Bool} (hc:SB X os c tc g) (ha:SSs X fr os os' ol a t m1) (hb:SSs X fr os os' ol b u m2):SS X fr os os' ol (.If c a b pos) (tIfS tc t u) (mIf g m1 m2):=⟨ps_if hc.pt ha.ps hb.ps,fun Ud Ue σ H ρ o E mm q k=>by
 obtain ⟨d,h1,h2⟩:=ze q
 refine hc.ok Ud Ue σ H ρ d _ mm h1 fun H' s=>?_
 cases d with
 | true=>rw [if_pos rfl] at h2 ⊢;exact ha.ok Ud Ue σ H' ρ o E (mm.up s) h2 k
 | false=>rw [if_neg Qg] at h2 ⊢;exact hb.ok Ud Ue σ H' ρ o E (mm.up s) h2 k⟩
theorem GU.shallow {K:Frag} {fr:Bool} {Ud H₁:Hp} {Ue:Addr->Prop} {os' ol:List Nat} {E:Ends} {o:Out} (hs:zX Ud H₁) (h:GU K fr Ud Ue os' ol E o):GU K fr H₁ Ue os' ol E o:=by
 cases o with
 | nx ρ=>exact fun σ H m=>h σ H (m.shallow hs)
 | rt d=>exact fun v H s b r=>h v H (hs.trans s) b (by
   cases fr with
   | false=>exact r
   | true =>
    exact FR.back hs r)
 | bk ρ=>exact fun σ H m=>h σ H (m.shallow hs)
 | ct ρ=>exact fun σ H m=>h σ H (m.shallow hs)
theorem jr {iter:Expr} {body:List Stmt} {wi:TI} {g:TG} {tb:TS} {fi:Ev->Option (List D)} {ug:D->Ev->Option Ev} (hc:X.calm=true) (hi:SI X true os tg iter wi fi) (hg:SG X os tg g ug) (hb:SSs X fr os os os body tb m)
  (hp:PassesOwn (model X.prog X.w) X.A X.env X.xe:=by exact PassesOwn.never) (hs:∀ x,foldedSetIterable iter X.env x=pure x:=by intro _;rfl):SS X fr os os ol (.For tg iter body [] pos) (tFor wi g tb) (gc fi ug m):=⟨ps_for hp hc hi.pi hg.pg hb.ps hs,fun Ud Ue σ H ρ o E mm q k=>by
 obtain ⟨ds,h1,h2⟩:=ze q
 refine hi.ok Ud Ue σ H ρ ds _ mm h1 fun J H1 ok s1 W up mv ok1=>?_
 have m1:=mm.up s1
 have mD:=m1.deep
 have okB:=mv rfl _ _ _ _ m1.goDown ok1
 have k':=k.shallow m1.sub
 refine ⟨fun i n σ' H'=>n=ds.length - i/\i<=ds.length/\∃ ρ',Md X.K (Jn H1 os σ) Ue os σ' H' ρ'/\JF ug m (ds.drop i) ρ'=some o,⟨ds.length,by simp,Q3 _,ρ,mD,by simpa using h2⟩,?_⟩
 rintro i n σ' H' ⟨rfl,hile,ρ',mM,hf⟩
 have okN:=mv rfl _ _ _ _ mM.goUp okB
 by_cases hlt:i<ds.length
 ·right
  have hd:ds[i]?=some ds[i]:=by simp [hlt]
  rw [Q8 hlt] at hf
  simp only [JF] at hf
  obtain ⟨ρ1,q1,q2⟩:=ze hf
  obtain ⟨o',q3,q4⟩:=ze q2
  refine ⟨W.go _ _ i _ okN hd,fun σ2 H2=>∃ ρ2,Md X.K (Jn H1 os σ) Ue os σ2 H2 ρ2/\JF ug m (ds.drop (i+1)) ρ2=some o,fun σ2 H2 ⟨ρ2,m2,f2⟩=>⟨ds.length - (i+1),by omega,rfl,hlt,ρ2,m2,f2⟩,fun x H2 y=>?_⟩
  obtain ⟨s2,rx⟩:=W.yld _ _ i _ x H2 okN hd y
  refine hg.ok _ Ue σ' H2 ρ' ρ1 ds[i] x _ (mM.up s2) rx q1 fun σ3 l3 a3 m3=>?_
  refine hb.ok _ Ue σ3 H2 ρ1 o' _ m3 q3 ?_
  cases o' with
  | nx ρ2=>exact fun σ4 H4 m4=>⟨ρ2,m4,q4⟩
  | ct ρ2=>exact fun σ4 H4 m4=>⟨ρ2,m4,q4⟩
  | bk ρ2=>cases q4;exact fun σ4 H4 m4=>k' σ4 H4 m4
  | rt d=>cases q4;exact k'
 ·left
  have hi':i=ds.length:=by omega
  subst hi'
  rw [Pd] at hf
  cases hf
  exact ⟨W.stop _ _ _ okN (Ql _),k' σ' H' mM⟩⟩
end
def Za (n:Nat) (ds:List D):Ev:=ds.map some++List.replicate (n - ds.length) none
def outD:Out->Option D
 | .nx _=>some .non
 | .rt d=>some d
 | _=>none
def ym (k n:Nat) (m:Ev->Option Out):List D->Option D:=fun ds=>if ds.length=k then (m (Za n ds)).bind outD else none
section
variable {P:Program} {w:World} {K:PySem.W.Frag} {mg:Str->Option Value} {base:Heap}
theorem wT {H:Hp} {B:Addr->Prop} {N:List Str} {ds:List D} {vs:List V} (hB:∀ a,B a->∃ o,H a=some o) (r:zt K H B ds vs):Md K H B [] (L2.yH N vs) H (Za N.length ds):=by
 have hl:=r.length
 refine ⟨.refl H,hB,by simp [L2.yH,Za,hl],fun i d q _=>?_,fun i hi=>(nomatch hi),fun i j a hi=>(nomatch hi)⟩
 have hb:Bl B [] (L2.yH N vs)=B:=by funext a;unfold Bl;apply propext;exact ⟨fun z=>z.elim id fun ⟨i,hi,_⟩=>(nomatch hi),.inl⟩
 rw [hb]
 unfold Za at q
 unfold L2.yH
 by_cases hi:i<ds.length
 ·rw [QP (by simpa using hi),QB] at q
  obtain ⟨v,h1,h2⟩:=r.get (i:=i) (d:=ds[i]) (by simp [hi])
  have:d=ds[i]:=by simp [hi] at q;exact q.symm
  subst this
  exact ⟨v,by rw [QP (by simp;omega),QB,h1];rfl,h2⟩
 ·rw [QT (by simp;omega),Pp] at q
  split at q <;> cases q
def spF (K:Frag) (m:List D->Option D):Sp:=fun vs H Q _=>∃ (B:Addr->Prop) (ds:List D) (d:D),(∀ a,B a->∃ o,H a=some o)/\zt K H B ds vs/\m ds=some d/\∀ v H',zX H H'->FR K H H' B d v->Q v H'
theorem yI {x qual:Str} {st:Stmt} {f:Addr} {fd:FuncData} {N ps:List Str} {k:Nat} {m:Ev->Option Out} (F:Fun K x qual st f fd) (S:FnScope N ps (zk st))
  (hbody:∀ (cdv:Value) (A:Around) (outer:List Env) (s:Shared) (H:Hp) (E:XK),Room k (A.deeper (PyProof.Rows.envOfC qual (zk st) s.heap.objs.size f cdv)) ->
   ∃ t os',SSs (cxOf CX0 P w K mg base N qual (zk st) f cdv A outer s H E).nox false [] os' [] (zM st) t m):FnOk P w K mg base CX0 (k+1) f fd ps (spM K (ym ps.length N.length m)):=by
 refine F.ok S (fun vs H Q E h=>?_) (fun cdv A outer s H vs Q E hr h=>?_)
 ·obtain ⟨B,ds,d,hB,r,q,_⟩:=h
  unfold ym at q
  split at q
  ·rw [r.length];assumption
  ·cases q
 ·obtain ⟨B,ds,d,hB,r,q,kk⟩:=h
  unfold ym at q
  split at q
  case isFalse=>cases q
  obtain ⟨o,q1,q2⟩:=ze q
  obtain ⟨t,os',hS⟩:=hbody cdv A outer s H E hr
  refine ⟨t,hS.ps,hS.ok H B (L2.yH N vs) H (Za N.length ds) o _ (wT hB r) q1 ?_⟩
  cases o with
  | nx ρ=>simp only [outD] at q2;cases q2;exact fun σ' H' m'=>kk _ H' m'.grow (by simp [Rep])
  | rt d'=>simp only [outD] at q2;cases q2;exact fun v H' s _ r'=>kk v H' s r'
  | bk ρ=>cases q2
  | ct ρ=>cases q2
theorem fn_okF {x qual:Str} {st:Stmt} {f:Addr} {fd:FuncData} {N ps:List Str} {k:Nat} {m:Ev->Option Out} (F:Fun K x qual st f fd) (S:FnScope N ps (zk st))
  (hbody:∀ (cdv:Value) (A:Around) (outer:List Env) (s:Shared) (H:Hp) (E:XK),Room k (A.deeper (PyProof.Rows.envOfC qual (zk st) s.heap.objs.size f cdv)) ->
   ∃ t os',SSs (cxOf CX0 P w K mg base N qual (zk st) f cdv A outer s H E).nox true [] os' [] (zM st) t m):FnOk P w K mg base CX0 (k+1) f fd ps (spF K (ym ps.length N.length m)):=by
 refine F.ok S (fun vs H Q E h=>?_) (fun cdv A outer s H vs Q E hr h=>?_)
 ·obtain ⟨B,ds,d,hB,r,q,_⟩:=h
  unfold ym at q
  split at q
  ·rw [r.length];assumption
  ·cases q
 ·obtain ⟨B,ds,d,hB,r,q,kk⟩:=h
  unfold ym at q
  split at q
  case isFalse=>cases q
  obtain ⟨o,q1,q2⟩:=ze q
  obtain ⟨t,os',hS⟩:=hbody cdv A outer s H E hr
  refine ⟨t,hS.ps,hS.ok H B (L2.yH N vs) H (Za N.length ds) o _ (wT hB r) q1 ?_⟩
  cases o with
  | nx ρ=>simp only [outD] at q2;cases q2;exact fun σ' H' m'=>kk _ H' m'.grow (.inr (.inl ⟨rfl,by simp [Rep]⟩))
  | rt d'=>simp only [outD] at q2;cases q2;exact fun v H' s _ r'=>kk v H' s r'
  | bk ρ=>cases q2
  | ct ρ=>cases q2
theorem FnOk.plain {k:Nat} {f:Addr} {fd:FuncData} {ps:List Str} {m:List D->Option D} (F:FnOk P w K mg base CX0 k f fd ps (spF K m)):FnOk P w K mg base CX0 k f fd ps (spM K m) :=
 F.imp fun vs H Q E ⟨B,ds,d,hB,r,q,kk⟩=>⟨B,ds,d,hB,r,q,fun v H' s h=>kk v H' s (h.rep hB)⟩
theorem sr_call {X:Cx} {st:Bool} {os:List Nat} {e:Expr} {es:List Expr} {tl:TA} {fl:Ev->Option (List D)} {pos p:Pos} {x:Str} {k:Nat} {fn:Addr} {fd:FuncData} {ps:List Str} {m:List D->Option D} (F:FnOk X.prog X.w X.K X.mg X.base CX0 k fn fd ps (spF X.K m)) (hr:Room k X.A) (hg:Gl X x) (hm:X.mg x=some (.ref fn)) (hk:keepIn X.K (.ref fn)=true) (hb:Zk X.K fd ps [])
  (ha:SA X st os (e::es) tl fl) (hdb:(x == ("__debug__":Str))=false:=by decide) (he:starEach (e::es) X.env=(false,eval e X.env)::starEach es X.env:=by rfl) (hpl:(backTo pos (starEach es X.env)).any (·.1)=false:=by rfl) :
  SR X st os (.Call (.Name x p) (e::es) [] pos) (gK (spF X.K m) [] E0 tl) (fA m fl):=⟨gu F hr hg hm hk hb .nil Gp ha.pa hdb he hpl,fun Ud Ue σ H ρ d Q M q kk=>by
 obtain ⟨ds,h1,h2⟩:=ze q
 refine ha.ok Ud Ue σ H ρ ds _ M h1 fun vs H1 s1 r1=>?_
 refine ⟨BB st Ue os σ,ds,d,(M.up s1).bb st,by rw [Pa];exact r1,h2,fun v H' s2 r2=>kk v H' (s1.trans s2) (r2.back s1)⟩⟩
end
end M
namespace L2
open PySem PySem.Spec PyProof.Rows
section
variable {prog:Program} {w:World} {A:Around} {E:Value->Shared->Prop} {s:Shared}
end
section
variable {X:Cx} {pos:Pos}
end
end L2
namespace M
open PySem PySem.Spec L2
open PySem.W (Frag)
section
variable {X:Cx} {os:List Nat} {pos:Pos}
theorem ZZ {X:Cx} {scope:Scope} {own N':List Str} {k:Nat} (h:(decide (scope.kind=.function)&&scope.names.all (fun y=>(!(y.2 == .local)||scope.names.lookup y.1 == some .local)&&(!(y.2 == .cell)||scope.names.lookup y.1 == some .cell) &&
  (!(y.2 == .free)||((X.env.scope.names.lookup y.1 == some .cell||X.env.scope.names.lookup y.1 == some .free)&&!own.contains y.1)))&&decide (N'.length=X.N.length+k) &&
  (List.range X.N.length).all (fun i=>match N'[i]? with | some x=>scope.names.lookup x == none||(X.N[i]? == some x&&scope.names.lookup x == some .free) | none=>true))=true):CompOk X scope own N' k:=by
 simp only [QO,List.all_eq_true,decide_eq_true_eq,Bool.or_eq_true,Bool.not_eq_true',beq_iff_eq,P3] at h
 obtain ⟨⟨⟨h1,h2⟩,h3⟩,h4⟩:=h
 refine ⟨h1,fun y hy e=>?_,fun y hy e=>?_,fun y hy e=>?_,fun y hy e=>?_,h3,fun i x hi e=>?_⟩
 ·rcases (h2 y hy).1.1 with z | z
  ·rw [e] at z;simp at z
  ·exact z
 ·rcases (h2 y hy).1.2 with z | z
  ·rw [e] at z;simp at z
  ·exact z
 ·rcases (h2 y hy).2 with z | z
  ·rw [e] at z;simp at z
  ·exact z.1
 ·rcases (h2 y hy).2 with z | z
  ·rw [e] at z;simp at z
  ·exact z.2
 ·have q:=h4 i hi
  rw [e] at q
  simpa using q
end
theorem law_end {l:PySem.W.OpenLaw} {m:List D->Option D} {K:Frag} {H:Hp} {a:Addr} {ns:List Int} (hO:Only H) (hq:SqL K H a (ns.map V.int)) (hm:m [.scr ns]=some (.bl true)) :
  spM K m [.ref a] H (fun v _=>v=.bl true) (fun _ _ _=>False):=by
 refine ⟨fun _=>False,[.scr ns],.bl true,fun _ z=>z.elim,.one ?_,hm,fun v H' _ r=>by simpa [Rep] using r⟩
 simp only [Rep]
 refine ⟨a,rfl,?_⟩
 rcases hq with hq | hq
 ·rcases hq with hq | hq
  ·rcases hO a with z | ⟨o,xs,z⟩ <;> (rw [z] at hq;cases hq)
  ·exact .inl hq
 ·exact .inr hq
section
variable {X:Cx} {fr:Bool} {os os' ol:List Nat} {pos:Pos} {s:Bool} {scope:Scope} {own N':List Str} {k:Nat} {elt target iter:Expr} {ifs:List Expr} {wi:TI} {g:TG} {tc:TT} {te:TE} {fi:Ev->Option (List D)} {u:D->Ev->Option Ev} {cf:Ev->Option Bool} {e:Ev->Option D}
theorem Yu (c:CompOk X scope own N' k) (hc:X.calm=true) (hi:SI X s os target iter wi fi) (hg:∀ s₂ H₂ fp C,SG (ZC X scope own N' s₂ H₂ fp C) os target g u) (ht:∀ s₂ H₂ fp C,SPF (ZC X scope own N' s₂ H₂ fp C) os ifs tc cf)
  (he:∀ s₂ H₂ fp C,SE (ZC X scope own N' s₂ H₂ fp C) true os elt te e) (hs:∀ x,foldedSetIterable iter X.env x=pure x:=by intro _;rfl):SF X os (.ListComp elt [⟨target,iter,ifs,0⟩] scope pos) (WN k wi g tc te) (yv k fi u cf e) :=
 ⟨pe_comp c hc hi.pi (fun a b c d=>(hg a b c d).pg) (fun a b c d=>(ht a b c d).pf) (fun a b c d=>(he a b c d).pe) hs,fok_comp hi.ok (hg X.s₀ X.Ud [] 0).ok (ht X.s₀ X.Ud [] 0).ok (he X.s₀ X.Ud [] 0).ok⟩
theorem gN {i:Nat} {x:Str} {pos' spos:Pos} (hN:X.N.Nodup) (hix:X.N[i]?=some x) (hx:X.env.scope.names.lookup x=some .local) (c:CompOk X scope own N' k) (hc:X.calm=true) (hi:SI X s os target iter wi fi) (hg:∀ s₂ H₂ fp C,SG (ZC X scope own N' s₂ H₂ fp C) os target g u) (ht:∀ s₂ H₂ fp C,SPF (ZC X scope own N' s₂ H₂ fp C) os ifs tc cf)
  (he:∀ s₂ H₂ fp C,SE (ZC X scope own N' s₂ H₂ fp C) true os elt te e) (hsw:swapsWith (.ListComp elt [⟨target,iter,ifs,0⟩] scope pos) (some (.Name x pos')) spos.line X.env=pure true:=by rfl)
  (h1:∀ j∈os',j∈os/\j≠i:=by decide) (h2:∀ j∈os,j∈os'\/j=i:=by decide) (hs:∀ x,foldedSetIterable iter X.env x=pure x:=by intro _;rfl) :
  SS X fr os os' ol (.Assign [.Name x pos'] (.ListComp elt [⟨target,iter,ifs,0⟩] scope pos) spos) (yX (WN k wi g tc te) (ZX i)) (Zw i (yv k fi u cf e)) :=
 ss_setC (Gk hN hix hx c hc hi.pi (fun a b c d=>(hg a b c d).pg) (fun a b c d=>(ht a b c d).pf) (fun a b c d=>(he a b c d).pe) hsw hs) (fok_comp hi.ok (hg X.s₀ X.Ud [] 0).ok (ht X.s₀ X.Ud [] 0).ok (he X.s₀ X.Ud [] 0).ok) h1 h2
end
open PySem L2
section
variable {ρ:Ev} {f fa fb fc:Ev->Option D} {fl ca cb:Ev->Option (List D)} {g g':D->D->Option D} {c c1 c2:Ev->Option Bool} {m m1 m2:Ev->Option Out} {i k n:Nat} {d:D} {ds:List D} {u:D->Ev->Option Ev} {us:List D->Ev->Option Ev} {h:D->Option D} {gl:List D->Option D}
@[simp] theorem fVar_:zb i ρ=ρ[i]?.join:=rfl
@[simp] theorem fC_:fC d ρ=some d:=rfl
@[simp] theorem f1_:f1 h fa ρ=(fa ρ).bind h:=rfl
@[simp] theorem f2_:f2 g fa fb ρ=(fa ρ).bind fun x=>(fb ρ).bind fun y=>g x y:=rfl
@[simp] theorem fSeq_ {b:Bool}:zm b fa ρ=(fa ρ).bind (asK b):=rfl
@[simp] theorem fFlat_:Y6 fa ρ=(fa ρ).bind fun d=>if d.flat then some d else none:=rfl
@[simp] theorem fTest_:zG fa ρ=(fa ρ).bind asB:=rfl
@[simp] theorem fTru_:fTru fa ρ=(fa ρ).bind truD:=rfl
@[simp] theorem fAnd_:w6 c1 c2 ρ=(c1 ρ).bind fun c=>if c then c2 ρ else some false:=rfl
@[simp] theorem fOr_:fOr c1 c2 ρ=(c1 ρ).bind fun c=>if c then some true else c2 ρ:=rfl
@[simp] theorem fNot_:GG c ρ=(c ρ).map (!·):=rfl
@[simp] theorem fAndV_:fAndV fa fb ρ=((fa ρ).bind asB).bind fun c=>if c then fb ρ else some (.bl false):=rfl
@[simp] theorem fOrV_:fOrV fa fb ρ=((fa ρ).bind asB).bind fun c=>if c then some (.bl true) else fb ρ:=rfl
@[simp] theorem fNotV_:fNotV fa ρ=((fa ρ).bind asB).map fun c=>.bl (!c):=rfl
@[simp] theorem fIf_:fIf c fa fb ρ=(c ρ).bind fun c=>if c then fa ρ else fb ρ:=rfl
@[simp] theorem fChain_:WC g g' fa fb fc ρ=(fa ρ).bind fun x=>(fb ρ).bind fun y=>((g x y).bind asB).bind fun c=>if c then (fc ρ).bind fun z=>g' y z else some (.bl false):=rfl
@[simp] theorem fNil_:zu ρ=some []:=rfl
@[simp] theorem ZJ:zf fa fl ρ=(fa ρ).bind fun x=>(fl ρ).map (x::·):=rfl
@[simp] theorem fLst_:ZR fl ρ=(fl ρ).bind JK:=rfl
@[simp] theorem fTup_:Zo fl ρ=(fl ρ).bind JJ:=rfl
@[simp] theorem fA_:fA gl fl ρ=(fl ρ).bind gl:=rfl
@[simp] theorem fIx_:fIx fl fb ρ=(fl ρ).bind fun ds=>(fb ρ).bind fun i=>dIx ds i:=rfl
@[simp] theorem fL_:fL fa ρ=(fa ρ).bind asL:=rfl
@[simp] theorem fCat_:fCat ca cb ρ=(ca ρ).bind fun x=>(cb ρ).bind fun y=>JK (x++y):=rfl
theorem fRep_:fRep fl fb ρ=(fl ρ).bind fun x=>(fb ρ).bind fun y=>dRep x y:=rfl
@[simp] theorem fNo_:fNo ρ=some none:=rfl
@[simp] theorem fPart_:YC fa ρ=(fa ρ).bind fun d=>(asI d).map some:=rfl
@[simp] theorem fCut_ {w:List D->D} {f1 f2:Ev->Option (Option Int)}:fCut w fl f1 f2 ρ=(fl ρ).bind fun ds=>(f1 ρ).bind fun lo=>(f2 ρ).bind fun hi=>some (w (cutD ds lo hi)):=rfl
theorem fRng1_:YB fa ρ=(fa ρ).bind fun d=>(asI d).bind fun j=>if -(2 ^ 62)<=j/\j<2 ^ 62 then some (yl 0 j.toNat) else none:=rfl
theorem fRng2_:fRng2 fa fb ρ=(fa ρ).bind fun d=>(fb ρ).bind fun d'=>(asI d).bind fun i=>(asI d').bind fun j=>if -(2 ^ 62)<=i/\i<2 ^ 62/\-(2 ^ 62)<=j/\j<2 ^ 62 then some (yl i (j - i).toNat) else none:=rfl
@[simp] theorem fZip_:fZip ca cb ρ=(ca ρ).bind fun xs=>(cb ρ).map fun ys=>zipD xs ys:=rfl
@[simp] theorem Wz {e:Ev->Option D}:yv k fl u c e ρ=(fl ρ).bind fun ds=>(Yh u c e ds (ρ++List.replicate k none)).bind JK:=rfl
@[simp] theorem fYes_:jc ρ=some true:=rfl
@[simp] theorem YF:zZ i d ρ=some (ρ.set i (some d)):=rfl
@[simp] theorem uTup_:uTup us d ρ=(asK false d).bind fun ds=>us ds ρ:=rfl
@[simp] theorem uLst_:uLst us d ρ=(asK true d).bind fun ds=>us ds ρ:=rfl
@[simp] theorem uNil_:uNil [] ρ=some ρ:=rfl
@[simp] theorem uCons_:Jc u us (d::ds) ρ=(u d ρ).bind fun ρ'=>us ds ρ':=rfl
@[simp] theorem ZA:ZT ρ=some (.nx ρ):=rfl
@[simp] theorem J3:ZH f ρ=(f ρ).map .rt:=rfl
@[simp] theorem mRetN_:mRetN ρ=some (.rt .non):=rfl
@[simp] theorem mSet_:Zw i f ρ=(f ρ).map fun d=>.nx (ρ.set i (some d)):=rfl
@[simp] theorem mNew_:W9 i f ρ=(f ρ).bind fun d=>if i<ρ.length then some (.nx (ρ.set i (some d))) else none:=rfl
@[simp] theorem mAsg_:mAsg u f ρ=(f ρ).bind fun d=>(u d ρ).map .nx:=rfl
@[simp] theorem mIf_:mIf c m1 m2 ρ=(c ρ).bind fun b=>if b then m1 ρ else m2 ρ:=rfl
@[simp] theorem mDrop_:mDrop f ρ=(f ρ).map fun _=>.nx ρ:=rfl
@[simp] theorem J4:gc fl u m ρ=(fl ρ).bind fun ds=>JF u m ds ρ:=rfl
@[simp] theorem mUpd_ {w:List D->D->Option (List D)}:GA i w f ρ=(f ρ).bind fun d=>(ρ[i]?.join).bind fun x=>(asL x).bind fun ds=>(w ds d).map fun ds'=>.nx (ρ.set i (some (.lst ds'))):=rfl
@[simp] theorem mSetIx_ {fi:Ev->Option D}:mSetIx i f fi ρ=(f ρ).bind fun d=>(ρ[i]?.join).bind fun x=>(asL x).bind fun ds=>(fi ρ).bind fun k=>(asI k).bind fun k=>(ixN ds.length k).map fun j=>.nx (ρ.set i (some (.lst (ds.set j d)))):=rfl
@[simp] theorem asK_t {ds:List D}:asK true (.lst ds)=some ds:=rfl
@[simp] theorem asK_s {ns:List Int}:asK true (.scr ns)=some (ns.map .int):=rfl
@[simp] theorem asK_f {ds:List D}:asK false (.tup ds)=some ds:=rfl
@[simp] theorem asL_ {ds:List D}:asL (.lst ds)=some ds:=rfl
@[simp] theorem asB_ {b:Bool}:asB (.bl b)=some b:=rfl
@[simp] theorem gh {j:Int}:asI (.int j)=some j:=rfl
@[simp] theorem dI_ {w:Int->Int->D} {a b:Int}:dI w (.int a) (.int b)=some (w a b):=rfl
theorem dIc_ {C:Int->Int->Prop} {w:Int->Int->D} {a b:Int} (hc:C a b):dIc C w (.int a) (.int b)=some (w a b):=by unfold dIc;exact if_pos hc
@[simp] theorem yn {a b:Int} (hc:IntMulOk a b):Yj (.int a) (.int b)=some (.int (a*b)):=dIc_ hc
@[simp] theorem ZK {a b:Int} (hc:0<b):yq (.int a) (.int b)=some (.int (a % b)):=dIc_ (C:=fun _ j=>0<j) hc
@[simp] theorem yr {a b:Int} (h0:0<b) (h1:b<1073741824):YK (.int a) (.int b)=some (.int (a / b)):=dIc_ (C:=CDiv) ⟨h0,h1⟩
theorem dDivP_s {a b:Int} (h:CDivB a b):dDivP (.int a) (.int b)=some (.int (a.fdiv b)):=dIc_ h
@[simp] theorem dPow_s {a b:Int} (h0:0<=b) (h1:b<=1000000) (h2:a.natAbs<2 ^ 64):dPow (.int a) (.int b)=some (.int (a ^ b.toNat)):=dIc_ (C:=CPow) ⟨h0,h1,h2⟩
@[simp] theorem dNeg_ {a:Int}:w9 (.int a)=some (.int (-a)):=rfl
@[simp] theorem jp {a b:Int}:ZS (.int a) (.int b)=some (.bl (decide (a=b))):=rfl
@[simp] theorem dNeS_ {a b:Int}:jM (.int a) (.int b)=some (.bl (!decide (a=b))):=rfl
@[simp high] theorem dEqS_self {a:Int}:ZS (.int a) (.int a)=some (.bl true):=by rw [jp,decide_eq_true rfl]
@[simp high] theorem WG {a:Int}:jM (.int a) (.int a)=some (.bl false):=by rw [dNeS_,decide_eq_true rfl];rfl
@[simp] theorem dIx_ {a:Int}:dIx ds (.int a)=atI ds a:=rfl
@[simp] theorem gLen_:YJ ds=some (.int ds.length):=rfl
@[simp] theorem gTuple_:JE ds=some (.tup ds):=rfl
@[simp] theorem gSum_ {ns:List Int}:wX (ns.map .int)=some (.int ns.sum):=by simp [wX,Wv]
@[simp] theorem gAnyI_ {ns:List Int}:gAnyI (ns.map .int)=some (.bl (ns.any (· != 0))):=by simp [gAnyI,Wv]
@[simp] theorem gIntB {b:Bool}:gInt [.bl b]=some (.int (if b then 1 else 0)):=rfl
@[simp] theorem gIntI {b:Int}:gInt [.int b]=some (.int b):=rfl
@[simp] theorem gAbs_ {b:Int}:gAbs [.int b]=some (.int (if b<0 then -b else b)):=rfl
@[simp] theorem dIsi_i {T:String} {a:Int}:dIsi T (.int a)=.bl ("int" == T||("int" == "bool"&&T == "int")):=rfl
@[simp] theorem flat_int {a:Int}:D.flat (.int a)=true:=rfl
@[simp] theorem flat_bl {a:Bool}:D.flat (.bl a)=true:=rfl
theorem jJ (h:ds.length<sizeLine):yu ds d=some (ds++[d]):=by unfold yu;exact if_pos h
theorem J8 (h:ds.length<=sizeLine):JK ds=some (.lst ds):=by unfold JK;exact if_pos h
theorem dTup_ (h:ds.length<=sizeLine):JJ ds=some (.tup ds):=by unfold JJ;exact if_pos h
theorem yg {n:Nat} (h:n<=1000000):n<=sizeLine:=Qw h (by decide)
theorem jg {n:Nat} (h:n<=1000000):n<sizeLine:=Q7 h (by decide)
theorem WU {ds:List D} {d:D} (hl:ds.length=k) (h:m (Za n ds)=some (.rt d)):ym k n m ds=some d:=by
 unfold ym;rw [if_pos hl,h];rfl
theorem forD_inv (I:Nat->Ev->Prop):∀ (ds:List D) (i0:Nat) (ρ:Ev),I i0 ρ->(∀ (i:Nat) d ρ,ds[i]?=some d->I (i0+i) ρ->∃ ρ1,u d ρ=some ρ1/\∃ ρ2,m ρ1=some (.nx ρ2)/\I (i0+i+1) ρ2)->∃ ρ',JF u m ds ρ=some (.nx ρ')/\I (i0+ds.length) ρ'
 | [],i0,ρ,h0,_=>⟨ρ,rfl,h0⟩
 | d::ds,i0,ρ,h0,hs=>by
  obtain ⟨ρ1,h1,ρ2,h2,h3⟩:=hs 0 d ρ (by simp) h0
  obtain ⟨ρ',h4,h5⟩:=forD_inv I ds (i0+1) ρ2 h3 fun i d' ρ hd hi=>by
   have:=hs (i+1) d' ρ (by simpa using hd) (by rw [show i0+(i+1)=i0+1+i by omega];exact hi)
   rw [show i0+(i+1)+1=i0+1+i+1 by omega] at this
   exact this
  refine ⟨ρ',?_,by rw [Qe,show i0+(ds.length+1)=i0+1+ds.length by omega];exact h5⟩
  rw [JF,h1,oB,h2,oB]
  exact h4
theorem compD_at {e:Ev->Option D} (I:Ev->Prop) (R:Nat->D->Prop):∀ (ds:List D) (i0:Nat) (ρ:Ev),I ρ->(∀ (i:Nat) d ρ,ds[i]?=some d->I ρ->∃ ρ1,u d ρ=some ρ1/\c ρ1=some true/\(∃ x,e ρ1=some x/\R (i0+i) x)/\I ρ1) ->
  ∃ xs,Yh u c e ds ρ=some xs/\xs.length=ds.length/\∀ (i:Nat) x,xs[i]?=some x->R (i0+i) x
 | [],i0,ρ,_,_=>⟨[],rfl,rfl,fun i x h=>by simp at h⟩
 | d::ds,i0,ρ,h0,hs=>by
  obtain ⟨ρ1,h1,h2,⟨x,h3,h5⟩,h4⟩:=hs 0 d ρ (by simp) h0
  obtain ⟨xs,q1,q2,q3⟩:=compD_at I R ds (i0+1) ρ1 h4 fun i d' ρ hd hi=>by
   have:=hs (i+1) d' ρ (by simpa using hd) hi
   rw [show i0+(i+1)=i0+1+i by omega] at this
   exact this
  refine ⟨x::xs,by rw [Yh,h1,oB,h2,oB,if_pos rfl,h3,oB,q1];rfl,by simp [q2],fun i y hy=>?_⟩
  cases i with
  | zero=>simp at hy;subst hy;exact h5
  | succ i=>rw [show i0+(i+1)=i0+1+i by omega];exact q3 i y (by simpa using hy)
theorem Yq {lo:Int} {n i:Nat} {d:D} (h:(yl lo n)[i]?=some d):i<n/\d=.int (lo+(i:Nat)):=by
 unfold yl at h
 rw [QB] at h
 by_cases hi:i<n
 ·simp [hi] at h;exact ⟨hi,h.symm⟩
 ·simp [hi] at h
@[simp] theorem ZD {lo:Int} {n:Nat}:(yl lo n).length=n:=by simp [yl]
theorem gC {ns:List Int} {i:Int} (h0:0<=i) (h1:i<ns.length):atI (ns.map D.int) i=some (.int (ns.getD i.toNat 0)):=by
 have e:=zD (xs:=ns.map D.int) (j:=i.toNat) (v:=.int (ns.getD i.toNat 0)) (by
  rw [QB]
  have hi:i.toNat<ns.length:=by omega
  simp [hi,List.getD])
 rwa [show ((i.toNat:Nat):Int)=i by omega] at e
end
def Wo {α:Type} (o:Option α) (P:α->Prop):Prop:=∃ x,o=some x/\P x
theorem Wo.mono {α:Type} {o:Option α} {P Q:α->Prop} (h:Wo o P) (k:∀ x,P x->Q x):Wo o Q:=let ⟨x,e,p⟩:=h;⟨x,e,k x p⟩
theorem Wo.eq {α:Type} {o:Option α} {y:α} (h:Wo o (·=y)):o=some y:=let ⟨x,e,p⟩:=h;p▸e
section
variable {α β:Type} {P:α->Prop} {Q:β->Prop} {x:α} {o:Option α} {g:α->Option β} {w:α->β}
@[simp] theorem zE:Wo (some x) P↔P x:=⟨fun ⟨y,e,p⟩=>by cases e;exact p,fun p=>⟨x,rfl,p⟩⟩
@[simp] theorem wo_none:Wo (none:Option α) P↔False:=⟨fun ⟨y,e,p⟩=>(by cases e),False.elim⟩
@[simp] theorem jd:Wo (o.bind g) Q↔Wo o fun x=>Wo (g x) Q:=by
 cases o with
 | none=>simp
 | some x=>simp
@[simp] theorem wo_map:Wo (o.map w) Q↔Wo o fun x=>Q (w x):=by
 cases o with
 | none=>simp
 | some x=>simp
@[simp] theorem jx {c:Prop} [Decidable c] {a:Option α}:Wo (if c then a else none) P↔c/\Wo a P:=by
 split <;> simp_all
end
section
variable {P:D->Prop} {R:List D->Prop} {T:Out->Prop} {a b:Int} {ds:List D} {d:D} {ρ:Ev} {m m1 m2:Ev->Option Out}
theorem gD {C:Int->Int->Prop} {w:Int->Int->D}:Wo (dIc C w (.int a) (.int b)) P↔C a b/\P (w a b):=by
 unfold dIc;split <;> simp_all
@[simp] theorem wo_mul:Wo (Yj (.int a) (.int b)) P↔IntMulOk a b/\P (.int (a*b)):=gD
@[simp] theorem wo_mod:Wo (yq (.int a) (.int b)) P↔0<b/\P (.int (a % b)):=gD
@[simp] theorem wo_div:Wo (YK (.int a) (.int b)) P↔(0<b/\b<1073741824)/\P (.int (a / b)):=gD
@[simp] theorem wo_divP:Wo (dDivP (.int a) (.int b)) P↔b≠0/\P (.int (a.fdiv b)):=gD
@[simp] theorem wo_pow:Wo (dPow (.int a) (.int b)) P↔(0<=b/\b<=1000000/\a.natAbs<2 ^ 64)/\P (.int (a ^ b.toNat)):=gD
@[simp] theorem wo_dI {w:Int->Int->D}:Wo (dI w (.int a) (.int b)) P↔P (w a b):=by simp
@[simp] theorem wo_lst:Wo (JK ds) P↔ds.length<=sizeLine/\P (.lst ds):=by unfold JK;rw [jx];simp
@[simp] theorem wo_tup:Wo (JJ ds) P↔ds.length<=sizeLine/\P (.tup ds):=by unfold JJ;rw [jx];simp
@[simp] theorem wo_append:Wo (yu ds d) R↔ds.length<sizeLine/\R (ds++[d]):=by unfold yu;rw [jx];simp
theorem p62:(2:Int) ^ 62=4611686018427387904:=by decide
@[simp] theorem wo_rng1 {fa:Ev->Option D}:Wo (YB fa ρ) R↔Wo (fa ρ) fun d=>Wo (asI d) fun j=>(-4611686018427387904<=j/\j<4611686018427387904)/\R (yl 0 j.toNat):=by
 rw [fRng1_,jd,<- p62]
 simp only [jd,jx,zE]
@[simp] theorem wo_rng2 {fa fb:Ev->Option D}:Wo (fRng2 fa fb ρ) R↔Wo (fa ρ) fun d=>Wo (fb ρ) fun d'=>Wo (asI d) fun i=>Wo (asI d') fun j=>(-4611686018427387904<=i/\i<4611686018427387904/\-4611686018427387904<=j/\j<4611686018427387904)/\R (yl i (j - i).toNat):=by
 rw [fRng2_,jd,<- p62]
 simp only [jd,jx,zE]
def GR (m:Ev->Option Out) (T:Out->Prop):Out->Prop
 | .nx ρ=>Wo (m ρ) T
 | o=>T o
@[simp] theorem zj:GR m T (.nx ρ)=Wo (m ρ) T:=rfl
@[simp] theorem then_rt:GR m T (.rt d)=T (.rt d):=rfl
@[simp] theorem then_bk:GR m T (.bk ρ)=T (.bk ρ):=rfl
@[simp] theorem then_ct:GR m T (.ct ρ)=T (.ct ρ):=rfl
@[simp] theorem zv:Wo (zO m1 m2 ρ) T↔Wo (m1 ρ) (GR m2 T):=by
 unfold zO
 cases h:m1 ρ with
 | none=>simp
 | some o=>cases o <;> simp [GR]
def WI (P:D->Prop):Out->Prop
 | .nx _=>P .non
 | .rt d=>P d
 | _=>False
@[simp] theorem back_rt:WI P (.rt d)=P d:=rfl
@[simp] theorem back_nx:WI P (.nx ρ)=P .non:=rfl
theorem yp {k n:Nat}:Wo (ym k n m ds) P↔ds.length=k/\Wo (m (Za n ds)) (WI P):=by
 unfold ym
 split
 ·rename_i h
  simp only [h,true_and,jd]
  cases m (Za n ds) with
  | none=>simp
  | some o=>cases o <;> simp [outD,WI]
 ·simp_all
def gi (u:D->Ev->Option Ev) (m:Ev->Option Out) (ds:List D) (T:Out->Prop):Out->Prop
 | .nx ρ=>Wo (JF u m ds ρ) T
 | .ct ρ=>Wo (JF u m ds ρ) T
 | .bk ρ=>T (.nx ρ)
 | .rt d=>T (.rt d)
@[simp] theorem turn_nx {u:D->Ev->Option Ev}:gi u m ds T (.nx ρ)=Wo (JF u m ds ρ) T:=rfl
@[simp] theorem turn_ct {u:D->Ev->Option Ev}:gi u m ds T (.ct ρ)=Wo (JF u m ds ρ) T:=rfl
@[simp] theorem turn_bk {u:D->Ev->Option Ev}:gi u m ds T (.bk ρ)=T (.nx ρ):=rfl
@[simp] theorem turn_rt {u:D->Ev->Option Ev}:gi u m ds T (.rt d)=T (.rt d):=rfl
theorem jq {u:D->Ev->Option Ev} {ds:List D} (I:Nat->Ev->Prop) (h0:I 0 ρ) (hs:∀ (i:Nat) d ρ,ds[i]?=some d->I i ρ->Wo (u d ρ) fun ρ1=>Wo (m ρ1) fun o=>match o with
  | .nx ρ2=>I (i+1) ρ2
  | .ct ρ2=>I (i+1) ρ2
  | .bk ρ2=>T (.nx ρ2)
  | .rt r=>T (.rt r)) (hd:∀ ρ,I ds.length ρ->T (.nx ρ)):Wo (JF u m ds ρ) T:=by
 suffices ∀ (es:List D) (k:Nat) (ρ:Ev),ds=ds.take k++es->k+es.length=ds.length->I k ρ->Wo (JF u m es ρ) T from this ds 0 ρ (by simp) (by simp) h0
 intro es
 induction es with
 | nil =>
  intro k ρ _ hl hi
  simp only [Qz,Nat.add_zero] at hl
  subst hl
  simp [JF,hd ρ hi]
 | cons d es ih =>
  intro k ρ he hl hi
  have hk:ds[k]?=some d:=by
   have h1:(ds.take k).length=k:=by rw [Q5];simp at hl;omega
   rw [he,QT (by omega),h1];simp
  have he':ds=ds.take (k+1)++es:=by
   have h2:=List.take_append_drop (k+1) ds
   have h3:ds.drop (k+1)=es:=by
    have h1:(ds.take k).length=k:=by rw [Q5];simp at hl;omega
    have:ds.drop k=d::es:=by
     conv=>lhs;rw [he]
     rw [List.drop_append,h1];simp
    rw [<- List.drop_drop,this];simp
   rw [h3] at h2;exact h2.symm
  obtain ⟨ρ1,e1,o,e2,p⟩:=hs k d ρ hk hi
  simp only [JF,e1,e2,oB]
  cases o with
  | nx ρ2=>exact ih (k+1) ρ2 he' (by simp at hl ⊢;omega) p
  | ct ρ2=>exact ih (k+1) ρ2 he' (by simp at hl ⊢;omega) p
  | bk ρ2=>simpa using p
  | rt r=>simpa using p
variable {u:D->Ev->Option Ev} {c:Ev->Option Bool} {e:Ev->Option D}
theorem wo_compAt (I:Ev->Prop) (F:Nat->D->Prop) (h0:I ρ) (hs:∀ (i:Nat) d ρ,ds[i]?=some d->I ρ->Wo (u d ρ) fun ρ1=>c ρ1=some true/\Wo (e ρ1) (F i)/\I ρ1) (hd:∀ xs,xs.length=ds.length->(∀ (i:Nat) x,xs[i]?=some x->F i x)->R xs):Wo (Yh u c e ds ρ) R:=by
 obtain ⟨xs,q1,q2,q3⟩:=compD_at I F ds 0 ρ h0 fun i d ρ h1 h2=>(by
  obtain ⟨ρ1,a1,a2,a3,a4⟩:=hs i d ρ h1 h2
  exact ⟨ρ1,a1,a2,by rw [QC];exact a3,a4⟩)
 exact ⟨xs,q1,hd xs q2 fun i x h=>by have:=q3 i x h;rwa [QC] at this⟩
end
theorem JX {a b:Int} (h1:-(2 ^ 64)<a) (h2:a<2 ^ 64):IntMulOk a b:=.of_left (intBits_le_64 h1 h2)
theorem mulB {a b:Int} {n k:Nat} (h1:a.natAbs<2 ^ n) (h2:b.natAbs<2 ^ k) (h:n+k<=134217728):IntMulOk a b:=.of_le (PySem.intBits_le_iff.mpr h1) (PySem.intBits_le_iff.mpr h2) h
theorem cutD_from {ds:List D} (k:Nat):cutD ds (some (k:Int)) none=ds.drop k:=by
 unfold cutD
 rw [HT.sIx_nat,HT.sIx_none]
 by_cases h2:k<=ds.length
 ·rw [Pj h2,PV (by simp)]
 ·rw [PR (by omega),List.drop_eq_nil_of_le (by omega:ds.length<=k),Pd];simp
theorem cutD_to {ds:List D} (k:Nat):cutD ds none (some (k:Int))=ds.take k:=by
 unfold cutD
 rw [HT.sIx_nat,HT.sIx_none]
 simp only [List.drop_zero,Nat.sub_zero]
 by_cases h2:k<=ds.length
 ·rw [Pj h2]
 ·rw [PR (by omega),List.take_length,PV (by omega)]
theorem J2 {d0:D}:∀ n:Nat,(List.replicate n [d0]).flatten=List.replicate n d0
 | 0=>rfl
 | n+1=>by rw [QJ,QU,J2 n];rfl
end M
namespace L2
open PySem PySem.Spec PyProof.Rows
def ItrD (lo:Int) (n:Nat):It:=⟨fun i _=>i<n,fun i H x H'=>H'=H/\x=.int (lo - i),fun i _=>n<=i⟩
theorem turn_rangeD {P:Program} {w:World} {K:PySem.W.Frag} {tg:Expr} (it:Addr) (lo:Int) (n:Nat):gi P w K tg (ItrD lo n) [it] it (fun i h=>IsRangeIter h it (lo+(i:Nat)*(-1)) ((n:Int) - (i:Nat)) (-1)) where
 mem:=by simp
 obj:=fun i h st b hb=>by
  have e:b=it:=by simpa using hb
  subst e
  exact ⟨_,st,fun v z=>by
   have z':Data.fields _=Data.cell v:=z
   cases z'⟩
 keep:=fun i h h' st k=>k it (by simp) _ st
 item:=by
  intro X hP hw hK hc i pins s σ H E I hf st hg
  subst hP hw hK
  obtain ⟨f0,f1,f2,f3,f4,f5⟩:=hf it (by simp)
  have W:=Walks.range (prog:=X.prog) (w:=X.w) (I.ok.hd hc) it lo (-1) n
  refine W.item i s _ _ hg st fun v h' tk hv st' kk=>?_
  obtain ⟨t,rfl⟩:=hv
  have I1:Inv X pins σ H { s with heap:=h',toks:=tk }:=I.turned (fun b o hb e=>kk b o (by simpa using hb) e) f0 f1 f3 f4 f5
  refine ⟨_,rfl,go_of (s:={ s with heap:=h',toks:=tk }) (n:="range_iterator") st' rfl rfl (by decide) ⟨.int (lo - i),H,I1,⟨t,?_⟩,⟨rfl,rfl⟩,st',fun b hb=>(hf b hb).1⟩⟩
  rw [show lo - (i:Int)=lo+(i:Int)*(-1) by omega]
 done:=by
  intro X hP hw hK hc i pins s σ H E I hf st hg
  subst hP hw hK
  obtain ⟨f0,f1,f2,f3,f4,f5⟩:=hf it (by simp)
  exact wpAny_pyNext_range_end (I.ok.hd hc) st (by have:n<=i:=hg;omega) fun h' eb=>⟨rfl,I.turned (t':=s.toks) (fun b o hb e=>eb b o hb e) f0 f1 f3 f4 f5⟩
 self:=fun _ _ _ _ _ st h=>wpAny_pyIter_rangeiter st h
section
variable {X:Cx} {tg:Expr}
def iRngD (ta:TA):TI:=fun σ H R=>ta σ H fun vs H1=>∃ i j:Int,vs=[.int i,.int j,.int (-1)]/\(-(2 ^ 62)<=i/\i<2 ^ 62/\-(2 ^ 62)<=j/\j<2 ^ 62)/\R (ItrD i (i - j).toNat) H1
theorem pi_rangeD {a b c:Expr} {ta:TA} {p pos:Pos} (hg:Gl X "range") (hm:X.mg "range"=none) (ha:PA X [a,b,c] ta) (hs:starEach [a,b,c] X.env=[(false,eval a X.env),(false,eval b X.env),(false,eval c X.env)]:=by rfl) (hs2:starEach [b,c] X.env=[(false,eval b X.env),(false,eval c X.env)]:=by rfl) :
  PI X tg (.Call (.Name "range" p) [a,b,c] [] pos) (iRngD ta):=by
 intro pins s σ H R I h
 refine Call_ (JC I hg hm boot_range (PyProof.Rows.callWith_type1 (thn (ha pos pins s σ H _ I h) fun us s1 ⟨vs,H1,I1,r1,q1⟩=>?_) (by rw [hs,hs2]) (by rw [hs2];rfl)))
 obtain ⟨i,j,e,⟨q1,q2,q3,q4⟩,q⟩:=q1
 subst e
 cases r1 with
 | cons r rr =>
  cases rr with
  | cons r' rr =>
   cases rr with
   | cons r'' rr =>
    cases rr
    obtain ⟨t,rfl⟩:=r
    obtain ⟨t',rfl⟩:=r'
    obtain ⟨t'',rfl⟩:=r''
    refine call_range_3 (by decide) ?_
    refine wpAny_pyIter_range (IsRange.new ..) (PySem.W.small_down q1 q2 q3 q4) ?_
    have I2:∀ (ob:Obj) (tk:Nat),Inv X pins σ H1 { s1 with heap:=s1.heap.push ob,toks:=tk }:=fun ob tk=>I1.kept fun b o e=>Qc _ e
    refine ⟨_,[_],_,_,H1,rfl,(I2 _ _).kept (t':=_) fun b o e=>Qc _ e,turn_rangeD _ i (i - j).toNat,?_,fun b hb=>?_,q⟩
    ·have e1:i+((0:Nat):Int)*(-1)=i:=by simp
     have e2:(((i - j).toNat:Nat):Int) - ((0:Nat):Int)=Builtin.Range.rangeSize i j (-1):=by rw [PySem.W.rangeSize_downNat];simp
     show IsRangeIter _ _ (i+((0:Nat):Int)*(-1)) ((((i - j).toNat:Nat):Int) - ((0:Nat):Int)) (-1)
     rw [e1,e2]
     exact Qp _ rfl
    ·have e:=Qv.mp hb
     subst e
     exact (I2 _ _).fpOk (Ql _) ((I2 _ _).hok.fresh (Ql _))
end
section
variable {X:Cx}
def rCatA (K:PySem.W.Frag):R2:=fun x y H Q=>∃ a b xs ys,x=.ref a/\y=.ref b/\SqT K H a xs/\SqT K H b ys/\xs.length+ys.length<=sizeLine/\(xs=[]->Q (.ref b) H) /\
 (xs≠[]->ys=[]->Q (.ref a) H)/\(xs≠[]->ys≠[]->∀ p,H p=none->Q (.ref p) (upd H p (.tup (xs++ys))))
theorem op_catA {K':PySem.W.Frag} (hK:X.K=K':=by rfl):OpR X (binaryOp .Add) (rCatA K'):=by
 subst hK
 intro pins s σ H x y v u Q I rx ry h
 obtain ⟨a,b,xs,ys,rfl,rfl,ha,hb,hz,q0,q1,q2⟩:=h
 by_cases hx:xs=[]
 ·cases rx
  cases ry
  obtain ⟨its,r1,p1,_⟩:=I.tuple ha
  obtain ⟨its2,r2,p2,_⟩:=I.tuple hb
  obtain ⟨⟨cls,dd,data,sl⟩,ho,hc,n,hd⟩:=id p1
  obtain ⟨⟨cls2,dd2,data2,sl2⟩,ho2,hc2,n2,hd2⟩:=id p2
  simp only at hc hd hc2 hd2
  subst hc hd hc2 hd2
  have he:its=[]:=r1.nil_iff.mpr hx
  exact concat_meets ⟨_,ho,rfl⟩ ⟨_,ho2,rfl⟩ noFill_tuple_add seq_tuple_add PySem.F.slot_tuple_add PySem.F.entry_tuple_add (PySem.F.args_tuple_add_2 _ _)
   (tuple_addW0 a b its.toArray its2.toArray n n2 dd dd2 sl sl2 (by simp [he])) ⟨ho,ho2,⟨.ref b,H,I,rfl,q0 hx⟩⟩
 ·exact op_catT pins s σ H _ _ v u Q I rx ry ⟨a,b,xs,ys,rfl,rfl,ha,hb,hx,hz,q1 hx,q2 hx⟩
end
end L2
namespace M
open PySem PySem.Spec L2
open PySem.W (Frag)
def Yw (lo:Int) (n:Nat):List D:=(List.range n).map fun i=>.int (lo - (i:Nat))
@[simp] theorem Y2 {lo:Int} {n:Nat}:(Yw lo n).length=n:=by simp [Yw]
theorem jk {lo:Int} {n i:Nat} {d:D} (h:(Yw lo n)[i]?=some d):i<n/\d=.int (lo - (i:Nat)):=by
 unfold Yw at h
 rw [QB] at h
 by_cases hi:i<n
 ·simp [hi] at h;exact ⟨hi,h.symm⟩
 ·simp [hi] at h
theorem iw_rangeD {K:Frag} (lo:Int) (n:Nat):IW K (ItrD lo n) (Yw lo n) (fun _ _=>True):=by
 refine ⟨fun H B i d _ e=>(jk e).1,fun H B i d x H' _ e y=>?_,fun H B i _ h=>by rw [Y2] at h;exact h⟩
 obtain ⟨rfl,rfl⟩:=y
 obtain ⟨_,rfl⟩:=jk e
 exact ⟨.refl _,yC⟩
def wZ (fa fb:Ev->Option D):Ev->Option (List D):=fun ρ=>(fa ρ).bind fun d=>(fb ρ).bind fun d'=>(asI d).bind fun i=>(asI d').bind fun j=>if -(2 ^ 62)<=i/\i<2 ^ 62/\-(2 ^ 62)<=j/\j<2 ^ 62 then some (Yw i (i - j).toNat) else none
section
variable {X:Cx} {fr st s:Bool} {os os' ol:List Nat} {tg e a b:Expr} {t ta tb te:TE} {f fa fb:Ev->Option D} {pos p:Pos}
theorem si_rangeD {jj:Nat} {p1 p2:Pos} (hg:Gl X "range") (hm:X.mg "range"=none) (ha:SE X false os a ta fa) (hb:SE X false os b tb fb)
  (h1:starEach [a,b,.UnaryOp .USub (.Constant (.int 1) jj p1) p2] X.env=(false,eval a X.env)::starEach [b,.UnaryOp .USub (.Constant (.int 1) jj p1) p2] X.env:=by rfl)
  (h2:starEach [b,.UnaryOp .USub (.Constant (.int 1) jj p1) p2] X.env=(false,eval b X.env)::starEach [.UnaryOp .USub (.Constant (.int 1) jj p1) p2] X.env:=by rfl)
  (h3:starEach [.UnaryOp .USub (.Constant (.int 1) jj p1) p2] X.env=(false,eval (.UnaryOp .USub (.Constant (.int 1) jj p1) p2) X.env)::starEach [] X.env:=by rfl)
  (hs:starEach [a,b,.UnaryOp .USub (.Constant (.int 1) jj p1) p2] X.env=[(false,eval a X.env),(false,eval b X.env),(false,eval (.UnaryOp .USub (.Constant (.int 1) jj p1) p2) X.env)]:=by rfl)
  (hs2:starEach [b,.UnaryOp .USub (.Constant (.int 1) jj p1) p2] X.env=[(false,eval b X.env),(false,eval (.UnaryOp .USub (.Constant (.int 1) jj p1) p2) X.env)]:=by rfl) :
  SI X s os tg (.Call (.Name "range" p) [a,b,.UnaryOp .USub (.Constant (.int 1) jj p1) p2] [] pos) (iRngD (z6 ta (z6 tb (z6 (tUn (rU fun i=>.int (-i)) (tC (.int 1))) Z0)))) (wZ fa fb) :=
 ⟨pi_rangeD hg hm (zP ha.pe (zP hb.pe (zP (pe_un YU Yd) Zn h3) h2) h1) hs hs2,fun Ud Ue σ H ρ ds R m q kk=>by
 obtain ⟨x,h1,h2⟩:=ze q
 obtain ⟨y,h3,h4⟩:=ze h2
 obtain ⟨i,h5,h6⟩:=ze h4
 obtain ⟨j,h7,h8⟩:=ze h6
 split at h8
 ·cases h8
  rename_i hc
  refine ha.ok Ud Ue σ H ρ x _ m h1 fun v H1 s1 r=>?_
  refine hb.ok Ud Ue σ H1 ρ y _ (m.up s1) h3 fun v' H2 s2 r2=>?_
  have e1:=asI_v r h5
  have e2:=asI_v r2 h7
  subst e1;subst e2
  exact ⟨1,rfl,i,j,rfl,hc,kk _ H2 _ (s1.trans s2) (iw_rangeD i _) (fun _ _ _ _ _ _ _ _ _=>trivial) (fun _ _ _ _ _ _ _=>trivial) trivial⟩
 ·cases h8⟩
def J7 (fa:Ev->Option (List D)) (fl fu:Ev->Option (Option Int)):Ev->Option D:=fun ρ=>(fa ρ).bind fun ds=>(fl ρ).bind fun lo=>(fu ρ).bind fun hi=>if HT.sIx ds.length 0 lo=0/\HT.sIx ds.length ds.length hi=ds.length then none else some (.tup (cutD ds lo hi))
theorem wN {ca:Ev->Option (List D)} {lo hi:Option Expr} {t1 t2:TO} {g1 g2:Ev->Option (Option Int)} {p2:Pos} (ha:SC X false os a ta ca) (hl:SO X os lo t1 g1) (hu:SO X os hi t2 g2) {K':Frag} (hK:X.K=K':=by rfl) :
  SE X st os (.Subscript a (.Slice lo hi none p2) pos) (tSl (rSlT K') ta t1 t2) (J7 ca g1 g2):=by
 subst hK
 exact ⟨pe_slice sl_tup ha.pe hl.po hu.po,fun Ud Ue σ H ρ d Q m q k=>by
 obtain ⟨ds,h1,h2⟩:=ze q
 obtain ⟨l,h3,h4⟩:=ze h2
 obtain ⟨u,h5,h6⟩:=ze h4
 split at h6
 ·cases h6
 rename_i hne
 cases h6
 refine ha.ok Ud Ue σ H ρ ds _ m h1 fun p xs H1 s1 hq r1=>?_
 refine hl.ok Ud Ue σ H1 ρ l _ (m.up s1) h3 fun H2 s2=>?_
 refine hu.ok Ud Ue σ H2 ρ u _ (m.up (s1.trans s2)) h5 fun H3 s3=>?_
 refine ⟨p,xs,rfl,SqT.same (s2.trans s3) hq,by rw [r1.length];exact hne,fun p' hp=>?_⟩
 refine k _ _ (((s1.trans s2).trans s3).trans (zz hp)) (Rep.bb ?_)
 simp only [Rep]
 exact ⟨p',_,rfl,.inl (.inl zw),(zt.cut (r1.up (s2.trans s3))).up (zz hp)⟩⟩
end
def JI (fa fb:Ev->Option D):Ev->Option D:=fun ρ=>(zm false fa ρ).bind fun x=>(zm false fb ρ).bind fun y=>JJ (x++y)
@[simp] theorem fCatT_ {fa fb:Ev->Option D} {ρ:Ev}:JI fa fb ρ=(zm false fa ρ).bind fun x=>(zm false fb ρ).bind fun y=>JJ (x++y):=rfl
theorem wO {X:Cx} {st:Bool} {os:List Nat} {a b:Expr} {ta tb:TE} {fa fb:Ev->Option D} {pos:Pos} (ha:SE X true os a ta fa) (hb:SE X true os b tb fb) {K':Frag} (hK:X.K=K':=by rfl):SE X st os (.BinOp a .Add b pos) (tOp (rCatA K') ta tb) (JI fa fb):=by
 subst hK
 exact ⟨WR op_catA ha.pe hb.pe,fun Ud Ue σ H ρ d Q m q k=>by
 obtain ⟨x,h1,h2⟩:=ze q
 obtain ⟨y,h3,h4⟩:=ze h2
 unfold JJ at h4
 split at h4
 ·rename_i hl
  cases h4
  refine (SE.seq (k:=false) ha).ok Ud Ue σ H ρ x _ m h1 fun p1 xs H1 s1 hq1 r1=>?_
  refine (SE.seq (k:=false) hb).ok Ud Ue σ H1 ρ y _ (m.up s1) h3 fun p2 ys H2 s2 hq2 r2=>?_
  have e1:=r1.length
  have e2:=r2.length
  refine ⟨p1,p2,xs,ys,rfl,rfl,SqT.same s2 hq1,hq2,?_,fun z=>?_,fun _ z=>?_,fun _ _ p' hp=>?_⟩
  ·rw [e1,e2,<- Qi];exact hl
  ·subst z
   have:x=[]:=List.length_eq_zero_iff.mp e1.symm
   subst this
   refine k _ H2 (s1.trans s2) (Rep.bb ?_)
   simp only [Rep,Pn]
   exact ⟨p2,ys,rfl,hq2,r2⟩
  ·subst z
   have:y=[]:=List.length_eq_zero_iff.mp e2.symm
   subst this
   refine k _ H2 (s1.trans s2) (Rep.bb ?_)
   simp only [Rep,Pa]
   exact ⟨p1,xs,rfl,SqT.same s2 hq1,r1.up s2⟩
  ·refine k _ _ ((s1.trans s2).trans (zz hp)) (Rep.bb ?_)
   simp only [Rep]
   exact ⟨p',_,rfl,.inl (.inl zw),((r1.up s2).append r2).up (zz hp)⟩
 ·cases h4⟩
mutual
def yd:D->PyData
 | .non=>.none
 | .bl b=>.bool b
 | .int i=>.int i
 | .str x=>.str x
 | .tup ds=>.tuple (yx ds)
 | .lst ds=>.list (yx ds)
 | .dict _ _=>.dict []
 | .scr ns=>.list (ns.map .int)
 | .adr _=>.dict []
 | .kset _=>.dict []
 | .tk _=>.dict []
 | .pin _ _=>.dict []
def yx:List D->List PyData
 | []=>[]
 | d::ds=>yd d::yx ds
end
def eqD (x y:D):Bool:=PyData.eqv (yd x) (yd y)
def jF (x:D):Bool:=SeqAt.shaped (yd x)
def WH (x y:D):Option D:=if jF x=true/\jF y=true then some (.bl (eqD x y)) else none
def gg (x y:D):Option D:=if jF x=true/\jF y=true then some (.bl (!eqD x y)) else none
section
variable {X:Cx} {pins:List (Addr×Obj)} {σ:St} {H:Hp} {s:Shared} {B:Addr->Prop}
theorem readsInts (h:Heap):∀ {ns:List Int} {us:List Value},zV (ns.map V.int) us->∃ as,ReadsAll h us (ns.map PyData.int) as
 | [],_,.nil=>⟨_,.nil⟩
 | n::r,_,.cons q t=>by
  obtain ⟨tk,rfl⟩:=q
  obtain ⟨as,z⟩:=readsInts h t
  exact ⟨_,.cons (.int n tk) z⟩
mutual
theorem Rep.reads (I:Inv X pins σ H s):∀ (d:D) (v:V) (u:Value),(yd d).canLay0=true->Rep X.K H B d v->Zx v u->∃ as,Reads s.heap u (yd d) as
 | .non,v,u,_,h,r=>by simp only [Rep] at h;subst h;cases r;exact ⟨_,.none⟩
 | .bl b,v,u,_,h,r=>by simp only [Rep] at h;subst h;cases r;exact ⟨_,.bool b⟩
 | .int i,v,u,_,h,r=>by simp only [Rep] at h;subst h;obtain ⟨t,rfl⟩:=r;exact ⟨_,.int i t⟩
 | .str x,v,u,_,h,r=>by simp only [Rep] at h;subst h;obtain ⟨t,rfl⟩:=r;exact ⟨_,.str x t⟩
 | .tup ds,v,u,c,h,r=>by
  simp only [Rep] at h
  obtain ⟨a,xs,rfl,hq,hr⟩:=h
  cases r
  obtain ⟨its,rv,ht,_⟩:=I.tuple hq
  obtain ⟨o,e1,e2,n,e3⟩:=ht
  obtain ⟨as,z⟩:=zt.reads I ds xs its (by simpa [yd,PyData.canLay0] using c) hr rv
  exact ⟨as,.tuple e1 e2 e3 z⟩
 | .lst ds,v,u,c,h,r=>by
  simp only [Rep] at h
  obtain ⟨a,xs,rfl,hq,hr⟩:=h
  cases r
  obtain ⟨its,rv,ht,_⟩:=I.list hq.sq
  obtain ⟨o,n,e1,e2,_,e3⟩:=ht
  obtain ⟨as,z⟩:=zt.reads I ds xs its (by simpa [yd,PyData.canLay0] using c) hr rv
  exact ⟨_,.list e1 e2 e3 z⟩
 | .dict ks ds,v,u,c,h,r=>by simp [yd,PyData.canLay0] at c
 | .scr ns,v,u,c,h,r=>by
  simp only [Rep] at h
  obtain ⟨a,rfl,hq⟩:=h
  cases r
  obtain ⟨its,rv,ht,_⟩:=I.list hq.sq
  obtain ⟨o,n,e1,e2,_,e3⟩:=ht
  obtain ⟨as,z⟩:=readsInts s.heap rv
  exact ⟨_,.list e1 e2 e3 z⟩
 | .adr a,v,u,c,h,r=>by simp [yd,PyData.canLay0] at c
 | .kset a,v,u,c,h,r=>by simp [yd,PyData.canLay0] at c
 | .tk a,v,u,c,h,r=>by simp [yd,PyData.canLay0] at c
 | .pin a d,v,u,c,h,r=>by simp [yd,PyData.canLay0] at c
theorem zt.reads (I:Inv X pins σ H s):∀ (ds:List D) (vs:List V) (us:List Value),PyData.canLayAll0 (yx ds)=true->zt X.K H B ds vs->zV vs us->∃ as,ReadsAll s.heap us (yx ds) as
 | [],vs,us,_,h,r=>by simp only [zt] at h;subst h;cases r;exact ⟨_,.nil⟩
 | d::ds,vs,us,c,h,r=>by
  simp only [zt] at h
  obtain ⟨v,vr,rfl,h1,h2⟩:=h
  simp only [yx,PyData.canLayAll0,QO] at c
  cases r with
  | cons q t =>
   obtain ⟨as,z⟩:=Rep.reads I d v _ c.1 h1 q
   obtain ⟨bs,y⟩:=zt.reads I ds vr _ c.2 h2 t
   exact ⟨_,.cons z y⟩
end
def rEqD (K:Frag) (neg:Bool):R2:=fun x y H Q=>∃ (B:Addr->Prop) (d1 d2:D),Rep K H B d1 x/\Rep K H B d2 y/\jF d1=true/\jF d2=true/\Q (.bl (if neg then !eqD d1 d2 else eqD d1 d2)) H
theorem op_eqD {k:Nat} (hr:Room k X.A) {K':Frag} (hK:X.K=K':=by rfl):OpR X (compareOp .Eq) (rEqD K' false):=by
 subst hK
 intro pins s σ H x y v u Q I rx ry h
 obtain ⟨B,d1,d2,h1,h2,o1,o2,q⟩:=h
 obtain ⟨as,r1⟩:=Rep.reads I d1 x v (SeqAt.canLay_of_shaped o1) h1 rx
 obtain ⟨bs,r2⟩:=Rep.reads I d2 y u (SeqAt.canLay_of_shaped o2) h2 ry
 exact PyProof.Rows.eq_dataH r1 r2 o1 o2 hr.units ⟨.bl _,H,I,rfl,q⟩
theorem Wp {k:Nat} (hr:Room k X.A) {K':Frag} (hK:X.K=K':=by rfl):OpR X (compareOp .NotEq) (rEqD K' true):=by
 subst hK
 intro pins s σ H x y v u Q I rx ry h
 obtain ⟨B,d1,d2,h1,h2,o1,o2,q⟩:=h
 obtain ⟨as,r1⟩:=Rep.reads I d1 x v (SeqAt.canLay_of_shaped o1) h1 rx
 obtain ⟨bs,r2⟩:=Rep.reads I d2 y u (SeqAt.canLay_of_shaped o2) h2 ry
 exact PyProof.Rows.ne_dataH r1 r2 o1 o2 hr.units ⟨.bl _,H,I,rfl,q⟩
theorem rok_eqD {K:Frag}:ROk K (rEqD K false) WH:=fun H B x y d1 d2 d Q hB r1 r2 e k=>by
 unfold WH at e
 split at e
 ·rename_i hc
  cases e
  exact ⟨B,d1,d2,r1,r2,hc.1,hc.2,k _ H (.refl H) jv⟩
 ·cases e
theorem JR {K:Frag}:ROk K (rEqD K true) gg:=fun H B x y d1 d2 d Q hB r1 r2 e k=>by
 unfold gg at e
 split at e
 ·rename_i hc
  cases e
  exact ⟨B,d1,d2,r1,r2,hc.1,hc.2,k _ H (.refl H) jv⟩
 ·cases e
end
theorem eqD_self {x:D} (h:jF x=true):eqD x x=true:=SeqAt.eqv_refl _ (SeqAt.canLay_of_shaped h)
theorem fRngD_ {fa fb:Ev->Option D} {ρ:Ev}:wZ fa fb ρ=(fa ρ).bind fun d=>(fb ρ).bind fun d'=>(asI d).bind fun i=>(asI d').bind fun j=>if -(2 ^ 62)<=i/\i<2 ^ 62/\-(2 ^ 62)<=j/\j<2 ^ 62 then some (Yw i (i - j).toNat) else none:=rfl
@[simp] theorem wo_rngD {fa fb:Ev->Option D} {ρ:Ev} {R:List D->Prop}:Wo (wZ fa fb ρ) R↔Wo (fa ρ) fun d=>Wo (fb ρ) fun d'=>Wo (asI d) fun i=>Wo (asI d') fun j=>(-4611686018427387904<=i/\i<4611686018427387904/\-4611686018427387904<=j/\j<4611686018427387904)/\R (Yw i (i - j).toNat):=by
 rw [fRngD_,jd,<- p62]
 simp only [jd,jx,zE]
@[simp] theorem fCutT_ {fl:Ev->Option (List D)} {f1 f2:Ev->Option (Option Int)} {ρ:Ev}:J7 fl f1 f2 ρ=(fl ρ).bind fun ds=>(f1 ρ).bind fun lo=>(f2 ρ).bind fun hi=>if HT.sIx ds.length 0 lo=0/\HT.sIx ds.length ds.length hi=ds.length then none else some (.tup (cutD ds lo hi)):=rfl
@[simp] theorem mNewR_ {i:Nat} {f:Ev->Option D} {ρ:Ev}:mNewR i f ρ=(f ρ).bind fun d=>if i<ρ.length/\isLs d=true then some (.nx (ρ.set i (some d))) else none:=rfl
@[simp] theorem mNewRW_ {i:Nat} {f:Ev->Option D} {ρ:Ev}:mNewRW i f ρ=(f ρ).bind fun d=>if i<ρ.length/\yW d=true then some (.nx (ρ.set i (some d))) else none:=rfl
@[simp] theorem isLs_ {ds:List D}:isLs (.lst ds)=true:=rfl
@[simp] theorem itemsFlat_ {ds:List D}:yW (.lst ds)=YL ds:=rfl
theorem wA (ns:List Int):YL (ns.map .int)=true:=by
 induction ns with
 | nil=>rfl
 | cons n r ih=>simp [YL,ih]
@[simp] theorem flat_line {ns:List Int}:D.flat (.tup (ns.map .int))=true:=by simp [D.flat,wA]
@[simp] theorem flat_non:D.flat .non=true:=rfl
@[simp] theorem dIsN_ {x:D}:dIsN x .non=some (.bl (jK x)):=rfl
@[simp] theorem dNotN_ {x:D}:dNotN x .non=some (.bl (!jK x)):=rfl
@[simp] theorem isNon_l {ds:List D}:jK (.lst ds)=false:=rfl
@[simp] theorem isNon_t {ds:List D}:jK (.tup ds)=false:=rfl
@[simp] theorem isNon_n:jK .non=true:=rfl
@[simp] theorem dIsi_l {T:String} {ds:List D}:dIsi T (.lst ds)=.bl ("list" == T||("list" == "bool"&&T == "int")):=rfl
@[simp] theorem dIsi_n {T:String}:dIsi T .non=.bl ("NoneType" == T||("NoneType" == "bool"&&T == "int")):=rfl
@[simp] theorem dIsi_t {T:String} {ds:List D}:dIsi T (.tup ds)=.bl ("tuple" == T||("tuple" == "bool"&&T == "int")):=rfl
open PySem L2
def Big (n:Nat) (xs:List Int):Prop:=∀ x∈xs,x.natAbs<2 ^ n
theorem Big.mono {n k:Nat} {xs:List Int} (h:Big n xs) (hn:n<=k):Big k xs:=fun x hx=>Qs (h x hx) (Nat.pow_le_pow_right (by decide) hn)
abbrev lstI (xs:List Int):D:=.lst (xs.map .int)
def jn (w:Int->Int->Int):D->D
 | .tup [.int x,.int y]=>.int (w x y)
 | _=>.non
@[simp] theorem pairD_ {w:Int->Int->Int} {x y:Int}:jn w (.tup [.int x,.int y])=.int (w x y):=rfl
def intD (g:Int->Int):D->D
 | .int j=>.int (g j)
 | _=>.non
@[simp] theorem intD_ {g:Int->Int} {x:Int}:intD g (.int x)=.int (g x):=rfl
def less (q:Int) (l r:List Int):List Int:=List.zipWith (fun x y=>1*x+-q*y) l r
section
variable {ρ:Ev} {T:Out->Prop} {i:Nat} {f fa fb:Ev->Option D} {c c1 c2:Ev->Option Bool} {m1 m2:Ev->Option Out} {x y d:D} {ds ds':List D} {g:List D->Option D} {h:D->D->Option D} {fl:Ev->Option (List D)} {P:D->Prop}
theorem ZU (e:f ρ=some d) (k:T (.nx (ρ.set i (some d)))):Wo (Zw i f ρ) T:=by rw [mSet_,e];exact ⟨_,rfl,k⟩
theorem upd_ {w:List D->D->Option (List D)} (e:f ρ=some d) (ex:ρ[i]?.join=some (.lst ds)) (hw:w ds d=some ds') (k:T (.nx (ρ.set i (some (.lst ds'))))):Wo (GA i w f ρ) T:=by rw [mUpd_,e,ex,oB,oB,asL_,oB,hw];exact ⟨_,rfl,k⟩
theorem fA2 (h1:fa ρ=some x) (h2:fb ρ=some y) (e:g [x,y]=some d):fA g (zf fa (zf fb zu)) ρ=some d:=by rw [fA_,ZJ,h1,oB,ZJ,h2];exact e
theorem f2v (h1:fa ρ=some x) (h2:fb ρ=some y) (e:h x y=some d):f2 h fa fb ρ=some d:=by rw [f2_,h1,oB,h2];exact e
theorem Zr {k:Int} (h1:fl ρ=some ds) (h2:fb ρ=some (.int k)) (e:atI ds k=some d):fIx fl fb ρ=some d:=by rw [fIx_,h1,oB,h2];exact e
theorem zW {b:Bool} (e:f ρ=some (.bl b)):zG f ρ=some b:=by rw [fTest_,e];rfl
theorem WT (e:c ρ=some true):GG c ρ=some false:=by rw [fNot_,e];rfl
theorem wS (e1:c1 ρ=some false) (e2:c2 ρ=some false):fOr c1 c2 ρ=some false:=by rw [fOr_,e1];exact e2
theorem Y5 (e:c ρ=some false) (k:Wo (m2 ρ) T):Wo (mIf c m1 m2 ρ) T:=by rw [mIf_,e];exact k
theorem andV_t (e1:fa ρ=some (.bl true)) (e2:fb ρ=some d):fAndV fa fb ρ=some d:=by rw [fAndV_,e1];exact e2
theorem jX (e:f ρ=some d) (k:P d):Wo (ZH f ρ) (WI P):=by rw [J3,e];exact ⟨_,rfl,k⟩
theorem tupL (e:f ρ=some (.lst ds)):fA JE (zm true f) ρ=some (.tup ds):=by rw [fA_,fSeq_,e];rfl
theorem tup1_ (e:f ρ=some d):Zo (zf f zu) ρ=some (.tup [d]):=by rw [fTup_,ZJ,e];exact dTup_ (yg (by simp))
theorem catT_ {xs ys:List D} (h1:fa ρ=some (.tup xs)) (h2:fb ρ=some (.tup ys)) (hl:xs.length+ys.length<=1000000):JI fa fb ρ=some (.tup (xs++ys)):=by
 rw [fCatT_,fSeq_,h1,oB,asK_f,oB,fSeq_,h2,oB,asK_f,oB]
 exact dTup_ (yg (by rw [Qi];exact hl))
theorem cutTo_ {k:Nat} (hl:fl ρ=some ds) (e:f ρ=some (.int (k:Nat))) (hk:k<ds.length):J7 fl fNo (YC f) ρ=some (.tup (ds.take k)):=by
 rw [fCutT_,hl,oB,fNo_,oB,fPart_,e,oB,gh,PJ,oB,if_neg,cutD_to]
 rw [HT.sIx_nat];omega
theorem cutFrom_ {k:Nat} (hl:fl ρ=some ds) (e:f ρ=some (.int (k:Nat))) (hk:0<k) (h0:0<ds.length):J7 fl (YC f) fNo ρ=some (.tup (ds.drop k)):=by
 rw [fCutT_,hl,oB,fPart_,e,oB,gh,PJ,oB,fNo_,oB,if_neg,cutD_from]
 rw [HT.sIx_nat];omega
theorem ZQ (e:f ρ=some (.tup ds)):zm false f ρ=some ds:=by rw [fSeq_,e];rfl
theorem Z9 (e:f ρ=some (.lst ds)):zm true f ρ=some ds:=by rw [fSeq_,e];rfl
theorem fA1 (h1:fa ρ=some x) (e:g [x]=some d):fA g (zf fa zu) ρ=some d:=by rw [fA_,ZJ,h1];exact e
theorem fA3 {fc:Ev->Option D} {z:D} (h1:fa ρ=some x) (h2:fb ρ=some y) (h3:fc ρ=some z) (e:g [x,y,z]=some d):fA g (zf fa (zf fb (zf fc zu))) ρ=some d:=by rw [fA_,ZJ,h1,oB,ZJ,h2,oB,ZJ,h3];exact e
theorem fA4 {fc fd:Ev->Option D} {z t:D} (h1:fa ρ=some x) (h2:fb ρ=some y) (h3:fc ρ=some z) (h4:fd ρ=some t) (e:g [x,y,z,t]=some d):fA g (zf fa (zf fb (zf fc (zf fd zu)))) ρ=some d:=by rw [fA_,ZJ,h1,oB,ZJ,h2,oB,ZJ,h3,oB,ZJ,h4];exact e
theorem f1v {h1:D->Option D} (e1:fa ρ=some x) (e:h1 x=some d):f1 h1 fa ρ=some d:=by rw [f1_,e1];exact e
theorem new_ (e:f ρ=some d) (hi:i<ρ.length) (k:T (.nx (ρ.set i (some d)))):Wo (W9 i f ρ) T:=by rw [mNew_,e];exact ⟨_,if_pos hi,k⟩
theorem wY (e:f ρ=some d) (h:d.flat=true):Y6 f ρ=some d:=by rw [fFlat_,e,oB,if_pos h]
theorem ixN_nat {n k:Nat} (h:k<n):ixN n (k:Int)=some k:=by unfold ixN;rw [if_pos (by omega),if_pos (by omega)];simp
end
def gx (i:Nat):Ev->Option Out:=fun ρ=>(ρ[i]?.join).bind fun x=>(asL x).bind fun _=>some (.nx (ρ.set i (some (.lst []))))
section
variable {X:Cx} {fr:Bool} {os ol:List Nat} {pos:Pos}
theorem ss_clear {i:Nat} {x:Str} {p apos cpos:Pos} (ho:i∈os:=by decide) (hN:X.N[i]?=some x:=by rfl) (hv:Vis X.env.scope x:=by first | exact Or.inl rfl | exact Or.inr (Or.inl rfl) | exact Or.inr (Or.inr rfl)) (hd:(x == ("__debug__":Str))=false:=by decide)
  (hcd:(x == ("__classdict__":Str))=false:=by decide) (hbase:attributeBase (.Name x p) "clear" X.env (eval (.Name x p) X.env)=eval (.Name x p) X.env:=by rfl)
  (hline:(apos.endLine == cpos.line)=true:=by rfl) (hs:swapsWith (.Call (.Attribute (.Name x p) "clear" apos) [] [] cpos) none pos.line X.env=pure false:=by rfl) :
  SS X fr os os ol (.Expr (.Call (.Attribute (.Name x p) "clear" apos) [] [] cpos) pos) (YW (tBM0 X.K "list" rClear (ZB i))) (gx i):=⟨Yy (pe_bm0 PySem.F.plainAttrs_list PySem.F.slot_list_clear PySem.F.type_list_clear mt_clear (pv i hN hv hd hcd) hbase hline) hs,fun Ud Ue σ H ρ o E mm q k=>by
 obtain ⟨y,h3,h4⟩:=ze q
 obtain ⟨ds,h5,h6⟩:=ze h4
 cases h6
 cases y <;> simp only [asL] at h5 <;> cases h5
 obtain ⟨a,ob,d',q1,q2,q3,q4,q5⟩:=mm.own i ho
 have h3':=Yg h3
 rw [h3'] at q2;cases q2
 cases ob <;> simp only [Own] at q5
 refine ⟨.ref a,q1,.inl ⟨rfl,_,.inl (.inl q3)⟩,?_⟩
 refine ⟨a,_,rfl,rfl,q3,k σ _ ?_⟩
 exact mm.write ho q1 (o:=.lst _) (d:=.lst _) (by simp only [Own,zt])⟩
end
end M
namespace L2
open PySem PySem.Spec PyProof.Rows
section
variable {X:Cx} {pins:List (Addr×Obj)} {σ:St} {H H':Hp} {s:Shared}
end
end L2
namespace L2
open PySem PySem.Spec PyProof.Rows
section
variable {X:Cx}
end
end L2
namespace L2
open PySem PySem.Spec PyProof.Rows
section
variable {X:Cx} {e:Expr} {te:TE} {g:Str} {p p' kp pos:Pos} {k:Nat} {f:Addr} {fd:FuncData} {p1:Str} {sp:Sp}
end
end L2
namespace M
open PySem PySem.Spec L2
open PySem.W (Frag)
theorem zt.of_at {K:Frag} {H:Hp} {B:Addr->Prop}:∀ {ds:List D} {vs:List V},ds.length=vs.length->(∀ (i:Nat) d v,ds[i]?=some d->vs[i]?=some v->Rep K H B d v)->zt K H B ds vs
 | [],vs,hl,h=>by cases vs with | nil=>exact .nil | cons _ _=>simp at hl
 | d::ds,vs,hl,h=>by
  cases vs with
  | nil=>simp at hl
  | cons v vs=>exact .cons (h 0 d v rfl rfl) (zt.of_at (by simpa using hl) fun i d' v' h1 h2=>h (i+1) d' v' (by simpa using h1) (by simpa using h2))
section
variable {X:Cx} {os:List Nat} {a:Expr} {ta:TE} {ca:Ev->Option (List D)} {p pos p' kp:Pos} {g:Str} {k:Nat} {fn:Addr} {fd:FuncData} {p1:Str} {m:List D->Option D}
end
end M
namespace L2
open PySem PySem.Spec PyProof.Rows
section
variable {X:Cx}
def Gi:V->List V->Hp->VK->Prop:=fun x vs H Q=>∃ l b xs zs,x=.ref l/\vs=[.ref b]/\H l=some (.lst xs)/\Rd H b (.lst zs)/\l≠b/\xs.length+zs.length<=sizeLine/\Q .non (upd H l (.lst (xs++zs)))
theorem mt_extendS:MtM X "list.extend" Gi:=by
 intro pins s σ H x vs v us Q I rx rv h
 obtain ⟨l,b,xs,zs,rfl,rfl,hH,hB,hne,hz,q⟩:=h
 cases rx
 obtain ⟨u,rfl,ru⟩:=rv.one
 cases ru
 obtain ⟨z,its,n,r,hl,e⟩:=I.lstM hH
 obtain ⟨z2,its2,n2,r2,e2⟩:=hB.ok I.hok
 have hl2:=r2.length
 have hsz:its.toArray.size+its2.toArray.size<=sizeLine:=by rw [Qh,Qh];omega
 have hlong:¬ (!its.toArray.isEmpty&&Builtin.List.listTooLong (its.toArray.size+its2.toArray.size))=true:=by
  rw [notLongL hsz,Bool.and_false]
  exact Qg
 refine call_meets F.slot_list_extend ⟨_,e,rfl⟩ F.entry_list_extend (F.args_list_extend_2 _ _)
  (AutoSeq1.list_extend_list_list_0 l its.toArray n b its2.toArray n2 hlong (by rw [Qh];omega) (by omega)) ⟨e,e2,?_⟩
 refine ⟨.non,_,I.lset (its':=its++its2) hH e (by simp) (r.append r2) ?_,rfl,q⟩
 rw [Qi]
 omega
end
end L2
namespace M
open PySem PySem.Spec L2
open PySem.W (Frag)
section
variable {X:Cx} {s:Bool} {os:List Nat} {a:Expr} {ta:TE} {ca:Ev->Option (List D)} {p pos:Pos}
end
section
variable {X:Cx} {fr:Bool} {os ol:List Nat} {e ek:Expr} {te tk:TE} {f fk:Ev->Option D} {pos:Pos}
end
end M
namespace EV
open PySem L2 M
theorem WP {T:Out->Prop} {f:Ev->Option D} {ρ:Ev} {d:D} (e:f ρ=some d) (k:T (.rt d)):Wo (ZH f ρ) T:=by rw [J3,e];exact ⟨_,rfl,k⟩
section
variable {ρ:Ev} {fa fb:Ev->Option (List D)}
theorem catv {xs ys:List D} (h1:fa ρ=some xs) (h2:fb ρ=some ys) (hl:xs.length+ys.length<=1000000):fCat fa fb ρ=some (.lst (xs++ys)):=by
 rw [fCat_,h1,oB,h2,oB]
 exact J8 (yg (by rw [Qi];exact hl))
theorem lv {f:Ev->Option D} {xs:List D} (h:f ρ=some (.lst xs)):fL f ρ=some xs:=by rw [fL_,h];rfl
theorem jH {f:Ev->Option D} {d:D} (e:f ρ=some d):ZR (zf f zu) ρ=some (.lst [d]):=by rw [fLst_,ZJ,e];exact J8 (yg (by simp))
end
theorem ints_at:∀ {l:List D} {P:Nat->Int->Prop},(∀ (i:Nat) x,l[i]?=some x->∃ v,x=.int v/\P i v)->∃ vs:List Int,l=vs.map .int/\vs.length=l.length/\∀ i,i<l.length->P i (vs.getD i 0)
 | [],_,_=>⟨[],rfl,rfl,fun i hi=>by simp at hi⟩
 | x::l,P,h=>by
  obtain ⟨v,rfl,pv⟩:=h 0 x rfl
  obtain ⟨vs,e1,e2,e3⟩:=ints_at (l:=l) (P:=fun i=>P (i+1)) fun i y hy=>h (i+1) y (by simpa using hy)
  refine ⟨v::vs,by rw [e1];rfl,by simp [e2],fun i hi=>?_⟩
  cases i with
  | zero=>exact pv
  | succ i=>exact e3 i (by simpa using hi)
theorem j9 {k:Nat} {fl:Ev->Option (List D)} {u:D->Ev->Option Ev} {c:Ev->Option Bool} {e:Ev->Option D} {ρ:Ev} {ds:List D} (P:Nat->Int->Prop) (I:Ev->Prop) (hfl:fl ρ=some ds) (hm:ds.length<=1000) (h0:I (ρ++List.replicate k none))
  (hs:∀ (i:Nat) d ρ,ds[i]?=some d->I ρ->Wo (u d ρ) fun ρ1=>c ρ1=some true/\Wo (e ρ1) (fun x=>∃ v,x=.int v/\P i v)/\I ρ1):∃ vs:List Int,yv k fl u c e ρ=some (lstI vs)/\vs.length=ds.length/\∀ i,i<ds.length->P i (vs.getD i 0):=by
 suffices h:Wo (yv k fl u c e ρ) fun d=>∃ vs:List Int,d=lstI vs/\vs.length=ds.length/\∀ i,i<ds.length->P i (vs.getD i 0) by
  obtain ⟨d,e,vs,rfl,q⟩:=h
  exact ⟨vs,e,q⟩
 rw [Wz,hfl,oB,jd]
 refine wo_compAt I (fun i x=>∃ v,x=.int v/\P i v) h0 hs fun xs hx hF=>?_
 obtain ⟨vs,rfl,e2,e3⟩:=ints_at hF
 rw [J8 (yg (by rw [hx];omega)),zE]
 rw [hx] at e2 e3
 exact ⟨vs,rfl,e2,e3⟩
theorem zip_at {xs ys:List Int} {i:Nat} {d:D} (h:(zipD (xs.map .int) (ys.map .int))[i]?=some d):i<xs.length/\i<ys.length/\d=.tup [.int (xs.getD i 0),.int (ys.getD i 0)]:=by
 unfold zipD at h
 rw [Px] at h
 simp only [QB] at h
 rcases Nat.lt_or_ge i xs.length with h1 | h1
 ·rcases Nat.lt_or_ge i ys.length with h2 | h2
  ·rw [Qy h1,Qy h2] at h
   refine ⟨h1,h2,?_⟩
   simp [List.getD,h1,h2] at h ⊢
   exact h.symm
  ·rw [Pz h2] at h;simp at h
 ·rw [Pz h1] at h;simp at h
section
variable {ρ:Ev} {fl ga gb:Ev->Option (List D)} {f f1 f2 f3 f4:Ev->Option D} {ds xs ys:List D} {d1 d2 d3 d4:D} {c1 c2:Ev->Option Bool}
theorem cutLFrom {k:Nat} (hl:fl ρ=some ds) (e:f ρ=some (.int (k:Nat))):fCut .lst fl (YC f) fNo ρ=some (.lst (ds.drop k)):=by
 rw [fCut_,hl,oB,fPart_,e,oB,gh,PJ,oB,fNo_,oB,cutD_from]
theorem cutLTo {k:Nat} (hl:fl ρ=some ds) (e:f ρ=some (.int (k:Nat))):fCut .lst fl fNo (YC f) ρ=some (.lst (ds.take k)):=by
 rw [fCut_,hl,oB,fNo_,oB,fPart_,e,oB,gh,PJ,oB,cutD_to]
end
theorem rng1v {f:Ev->Option D} {ρ:Ev} {n:Nat} (h:f ρ=some (.int (n:Nat))) (hn:n<=1000):YB f ρ=some (yl 0 n):=by
 refine Wo.eq ?_
 rw [wo_rng1,h,zE,gh,zE]
 exact ⟨⟨by omega,by omega⟩,by rw [Q0]⟩
theorem asg_ {ρ ρ':Ev} {T:Out->Prop} {f:Ev->Option D} {u:D->Ev->Option Ev} {d:D} (e:f ρ=some d) (eu:u d ρ=some ρ') (k:T (.nx ρ')):Wo (mAsg u f ρ) T:=by rw [mAsg_,e,oB,eu];exact ⟨_,rfl,k⟩
theorem sum_big {m:Nat} {vs:List Int} (h:∀ x∈vs,x.natAbs<2 ^ m) (hl:vs.length<=7):(vs.sum).natAbs<2 ^ (m+3):=by
 have key:∀ vs:List Int,(∀ x∈vs,x.natAbs<2 ^ m)->(vs.sum).natAbs<=vs.length*2 ^ m:=by
  intro vs
  induction vs with
  | nil=>intro _;simp
  | cons a r ih =>
   intro h
   rw [List.sum_cons,Qe,Nat.succ_mul]
   have h1:=Int.natAbs_add_le a r.sum
   have h2:=h a Qt
   have h3:=ih fun x hx=>h x (Qd _ hx)
   omega
 refine Q7 (key vs h) ?_
 have h1:=Nat.mul_le_mul_right (2 ^ m) hl
 have h2:2 ^ (m+3)=8*2 ^ m:=by rw [Nat.pow_add];omega
 have h3:0<2 ^ m:=Nat.pow_pos (by decide)
 omega
end EV
namespace M
open PySem PySem.Spec L2
open PySem.W (Frag)
section
variable {K:Frag} {Ud H:Hp} {Ue:Addr->Prop} {os os2:List Nat} {σ:St} {ρ:Ev} {i:Nat} {a:Addr}
end
section
variable {X:Cx} {fr:Bool} {os os2 ol:List Nat} {pos p:Pos} {tg:Expr} {m:Ev->Option Out}
end
end M
namespace L2
open PySem PySem.Spec PyProof.Rows
section
variable {X:Cx} {a:Expr} {ta:TE} {p p2 pos pos2:Pos}
end
end L2
namespace M
open PySem PySem.Spec L2
open PySem.W (Frag)
section
variable {X:Cx} {os:List Nat} {a:Expr} {ta:TE} {ca:Ev->Option (List D)} {p p2 pos pos2:Pos} {k:Nat}
end
end M
namespace L2
open PySem PySem.Spec PyProof.Rows
section
variable {κ:Type} [DecidableEq κ]
def wc (kvs:List (κ×V)) (k:κ):Option V:=(kvs.find? fun kv=>decide (kv.1=k)).map (·.2)
def wP (kvs:List (κ×V)) (k:κ) (v:V):List (κ×V) :=
 if (kvs.any fun kv=>decide (kv.1=k))=true then kvs.map (fun kv=>if kv.1=k then (kv.1,v) else kv) else kvs++[(k,v)]
theorem gG {p:κ×V} {r:List (κ×V)} {k:κ} (e:p.1=k):wc (p::r) k=some p.2:=by simp [wc,Po,e]
theorem gH {p:κ×V} {r:List (κ×V)} {k:κ} (e:¬ p.1=k):wc (p::r) k=wc r k:=by simp [wc,Po,e]
theorem valV_any (k:κ):∀ kvs:List (κ×V),(kvs.any fun kv=>decide (kv.1=k))=(wc kvs k).isSome
 | []=>rfl
 | p::r=>by
  rw [Pk]
  by_cases e:p.1=k
  ·simp only [gG e,decide_eq_true e,Bool.true_or,Option.isSome_some]
  ·rw [gH e,decide_eq_false e,Bool.false_or];exact valV_any k r
theorem WX (kvs:List (κ×V)) (k:κ) (v:V):(wP kvs k v).length<=kvs.length+1:=by
 unfold wP
 split
 ·rw [Qj];omega
 ·rw [Qi,Qe,Qz];omega
theorem Jj.isSome_eq {o:Option V} {u:Option Value} (r:Jj o u):o.isSome=u.isSome:=by
 cases o with
 | none=>cases u with
  | none=>rfl
  | some _=>exact (show False from r).elim
 | some _=>cases u with
  | none=>exact (show False from r).elim
  | some _=>rfl
theorem Jj.getD {o:Option V} {u:Option Value} {d:V} {d':Value} (r:Jj o u) (rd:Zx d d'):Zx (o.getD d) (u.getD d'):=by
 cases o with
 | none=>cases u with
  | none=>exact rd
  | some _=>exact (show False from r).elim
 | some _=>cases u with
  | none=>exact (show False from r).elim
  | some _=>exact r
theorem KV.val {kvs:List (κ×V)} {vs:List (κ×Value)} (r:KV kvs vs) (k:κ):Jj (wc kvs k) (valueAt vs k):=by
 unfold KV at r
 induction r with
 | nil=>exact True.intro
 | @cons p q ps qs h t ih =>
  obtain ⟨h1,h2⟩:=h
  by_cases e:p.1=k
  ·have e':q.1=k:=h1.symm.trans e
   have b:valueAt (q::qs) k=some q.2:=by simp [valueAt,Po,e']
   rw [gG e,b];exact h2
  ·have e':¬ q.1=k:=fun z=>e (h1.trans z)
   have b:valueAt (q::qs) k=valueAt qs k:=by simp [valueAt,Po,e']
   rw [gH e,b];exact ih
theorem KV.any {kvs:List (κ×V)} {vs:List (κ×Value)} (r:KV kvs vs) (k:κ):(kvs.any fun kv=>decide (kv.1=k))=vs.any fun kv=>decide (kv.1=k):=by
 unfold KV at r
 induction r with
 | nil=>rfl
 | cons h t ih=>rw [Pk,Pk,ih,h.1]
theorem KV.repl {kvs:List (κ×V)} {vs:List (κ×Value)} (r:KV kvs vs) (k:κ) {y:V} {u:Value} (ry:Zx y u) :
  KV (kvs.map fun kv=>if kv.1=k then (kv.1,y) else kv) (vs.map fun kv=>if kv.1=k then (kv.1,u) else kv):=by
 unfold KV at r ⊢
 induction r with
 | nil=>exact .nil
 | @cons p q ps qs h t ih =>
  rw [Qq,Qq]
  refine .cons ?_ ih
  obtain ⟨h1,h2⟩:=h
  by_cases e:p.1=k
  ·rw [if_pos e,if_pos (h1.symm.trans e)];exact ⟨h1,ry⟩
  ·rw [if_neg e,if_neg (fun z=>e (h1.trans z))];exact ⟨h1,h2⟩
theorem KV.put {kvs:List (κ×V)} {vs:List (κ×Value)} (r:KV kvs vs) (k:κ) {y:V} {u:Value} (ry:Zx y u):KV (wP kvs k y) (stored vs k u):=by
 unfold wP stored
 rw [r.any k]
 by_cases e:(vs.any fun kv=>decide (kv.1=k))=true
 ·rw [if_pos e,if_pos e];exact r.repl k ry
 ·rw [if_neg e,if_neg e];exact Paired.snoc r ⟨rfl,ry⟩
theorem KV.length {kvs:List (κ×V)} {vs:List (κ×Value)} (r:KV kvs vs):kvs.length=vs.length:=Paired.length r
end
theorem kV_is {P:Program} {w:World} {k:Key} {u:Value} (r:Zx (kV k) u):(yD P w).is k u=true:=by
 cases k with
 | inl i=>obtain ⟨t,e⟩:=(show ∃ t,u=Value.int i t from r);subst e;exact mixKind_int P w i t
 | inr x=>obtain ⟨t,e⟩:=(show ∃ t,u=Value.str x t from r);subst e;exact mixKind_str P w x t
theorem items_are {P:Program} {w:World}:∀ {ks:List Key} {us:List Value},zV (ks.map kV) us->ItemsAre (yD P w) ks us
 | [],_,r=>by rw [Ps] at r;cases r;exact .nil
 | k::ks,_,r=>by
  rw [Qq] at r
  cases r with
  | cons h t=>exact .cons (kV_is h) (items_are t)
abbrev KT (H:Hp):List (List Key×V)->List (List Key×Addr×Value)->Prop:=Paired fun p q=>p.1=q.1/\H q.2.1=some (.tup (p.1.map kV))/\Zx p.2 q.2.2
theorem KT.val {H:Hp} {kvs:List (List Key×V)} {xs:List (List Key×Addr×Value)} (r:KT H kvs xs) (k:List Key):Jj (wc kvs k) ((atKey xs k).map (·.2)):=by
 induction r with
 | nil=>exact True.intro
 | @cons p q ps qs h t ih =>
  obtain ⟨h1,_,h2⟩:=h
  by_cases e:p.1=k
  ·have e':q.1=k:=h1.symm.trans e
   have b:atKey (q::qs) k=some q.2:=by simp [atKey,Po,e']
   rw [gG e,b];exact h2
  ·have e':¬ q.1=k:=fun z=>e (h1.trans z)
   have b:atKey (q::qs) k=atKey qs k:=by simp [atKey,Po,e']
   rw [gH e,b];exact ih
theorem KT.repl {H:Hp} {kvs:List (List Key×V)} {xs:List (List Key×Addr×Value)} (r:KT H kvs xs) (k:List Key) {y:V} {u:Value} (ry:Zx y u) :
  KT H (kvs.map fun kv=>if kv.1=k then (kv.1,y) else kv) (xs.map (putAt k u)):=by
 induction r with
 | nil=>exact .nil
 | @cons p q ps qs h t ih =>
  rw [Qq,Qq]
  refine .cons ?_ ih
  obtain ⟨h1,h2,h3⟩:=h
  unfold putAt
  by_cases e:p.1=k
  ·rw [if_pos e,if_pos (h1.symm.trans e)];exact ⟨h1,h2,ry⟩
  ·rw [if_neg e,if_neg (fun z=>e (h1.trans z))];exact ⟨h1,h2,h3⟩
theorem KT.put {H:Hp} {kvs:List (List Key×V)} {xs:List (List Key×Addr×Value)} (r:KT H kvs xs) (k:List Key) {b:Addr} {y:V} {u:Value} (hb:H b=some (.tup (k.map kV))) (ry:Zx y u) :
  KT H (wP kvs k y) (storedH xs k b u):=by
 have e:(kvs.any fun kv=>decide (kv.1=k))=(atKey xs k).isSome:=by
  rw [valV_any,(r.val k).isSome_eq,Option.isSome_map]
 unfold wP storedH
 rw [e]
 by_cases q:(atKey xs k).isSome=true
 ·rw [if_pos q,if_pos q];exact r.repl k ry
 ·rw [if_neg q,if_neg q];exact Paired.snoc r ⟨rfl,hb,ry⟩
theorem KT.keeps {H H':Hp} {kvs:List (List Key×V)} {xs:List (List Key×Addr×Value)} (r:KT H kvs xs) (ht:∀ b ys,H b=some (.tup ys)->H' b=some (.tup ys)):KT H' kvs xs :=
 Paired.mapP r fun _ _ z=>⟨z.1,ht _ _ z.2.1,z.2.2⟩
section
variable {P:Program} {w:World} {H:Hp} {h:Heap} {a:Addr}
theorem rd_of {u:HO} (ok:HOk P w H h) (e:Rd H a u):yE P w H h a u:=e.ok ok
theorem dk_rd {kvs:List (Key×V)} (ok:HOk P w H h) (e:Rd H a (.dK kvs)):kvs.length<=sizeLine/\(a == sysModules)=false/\∃ vs,KV kvs vs/\h.DictOf (yD P w) a vs :=
 show yE P w H h a (.dK kvs) from rd_of ok e
theorem dk_of {kvs:List (Key×V)} (ok:HOk P w H h) (e:H a=some (.dK kvs)):kvs.length<=sizeLine/\(a == sysModules)=false/\∃ vs,KV kvs vs/\h.DictOf (yD P w) a vs:=dk_rd ok (.inl e)
theorem key_of {ks:List Key} (ok:HOk P w H h) (e:H a=some (.tup (ks.map kV))):(tupleKind (yD P w)).is h ks a:=by
 obtain ⟨_,its,r,o,h1,h2,n,h3⟩:=(show yE P w H h a (.tup (ks.map kV)) from ok a _ e)
 exact ⟨o,its.toArray,n,h1,h2,h3,by simpa using items_are r⟩
theorem dt_rd {kvs:List (List Key×V)} (ok:HOk P w H h) (e:Rd H a (.dT kvs)):kvs.length<=sizeLine/\(a == sysModules)=false /\
  ∃ xs,KT H kvs xs/\h.DictOfH (tupleKind (yD P w)) a xs:=by
 obtain ⟨z,y,xs,r,o,es,ep,h1,h2,h3,h4,h5⟩:=(show yE P w H h a (.dT kvs) from rd_of ok e)
 refine ⟨z,y,xs,r,o,es,ep,h1,h2,h3,h4,fun x hx=>?_,h5⟩
 have all:∀ {l:List (List Key×V)} {m:List (List Key×Addr×Value)},KT H l m->∀ x∈m,(tupleKind (yD P w)).is h x.1 x.2.1:=by
  intro l m q
  induction q with
  | nil=>intro x hx;exact nomatch hx
  | @cons p q ps qs hq t ih =>
   intro x hx
   rcases Qb.mp hx with e | hx
   ·subst e
    exact key_of ok (by rw [<- hq.1];exact hq.2.1)
   ·exact ih x hx
 exact all r x hx
theorem dt_of {kvs:List (List Key×V)} (ok:HOk P w H h) (e:H a=some (.dT kvs)):kvs.length<=sizeLine/\(a == sysModules)=false /\
  ∃ xs,KT H kvs xs/\h.DictOfH (tupleKind (yD P w)) a xs:=dt_rd ok (.inl e)
end
def DGet (H:Hp) (a:Addr) (y:V) (r:Option V):Prop :=
 (∃ kvs k,Rd H a (.dK kvs)/\y=kV k/\r=wc kvs k)\/∃ kvs k b,Rd H a (.dT kvs)/\y=.ref b/\H b=some (.tup (k.map kV))/\r=wc kvs k
def DPut (H:Hp) (a:Addr) (y v:V) (H':Hp):Prop :=
 (∃ kvs k,H a=some (.dK kvs)/\y=kV k/\kvs.length<sizeLine/\H'=upd H a (.dK (wP kvs k v))) \/
 ∃ kvs k b,H a=some (.dT kvs)/\y=.ref b/\H b=some (.tup (k.map kV))/\kvs.length<sizeLine/\H'=upd H a (.dT (wP kvs k v))
theorem DGet.k {H:Hp} {a:Addr} {kvs:List (Key×V)} {k:Key} (e:H a=some (.dK kvs)):DGet H a (kV k) (wc kvs k):=.inl ⟨kvs,k,.inl e,rfl,rfl⟩
theorem DGet.t {H:Hp} {a b:Addr} {kvs:List (List Key×V)} {k:List Key} (e:H a=some (.dT kvs)) (eb:H b=some (.tup (k.map kV))):DGet H a (.ref b) (wc kvs k):=.inr ⟨kvs,k,b,.inl e,rfl,eb,rfl⟩
theorem DPut.k {H:Hp} {a:Addr} {kvs:List (Key×V)} {k:Key} {v:V} (e:H a=some (.dK kvs)) (hl:kvs.length<sizeLine):DPut H a (kV k) v (upd H a (.dK (wP kvs k v))):=.inl ⟨kvs,k,e,rfl,hl,rfl⟩
theorem DPut.t {H:Hp} {a b:Addr} {kvs:List (List Key×V)} {k:List Key} {v:V} (e:H a=some (.dT kvs)) (eb:H b=some (.tup (k.map kV))) (hl:kvs.length<sizeLine) :
  DPut H a (.ref b) v (upd H a (.dT (wP kvs k v))):=.inr ⟨kvs,k,b,e,rfl,eb,hl,rfl⟩
section
variable {X:Cx} {pins:List (Addr×Obj)} {σ:St} {H:Hp} {s:Shared} {a:Addr} {y v:V} {u r:Value} {o:Option V} {A:Around} {E:Value->Shared->Prop}
theorem Inv.big (I:Inv X pins σ H s):sysModules<s.heap.objs.size:=by
 have h:mainGlobals<s.heap.objs.size:=(I.mod.glob.keeps I.bk).lt
 exact QG (by decide) h
theorem d_getItem {Q:Value->Shared->Prop} (hu:A.units+1<cLine) (I:Inv X pins σ H s) (g:DGet H a y (some v)) (ry:Zx y u) (h:∀ w' s',Inv X pins σ H s'->Zx v w'->Q w' s') :
  wpAny (model X.prog X.w) A (getItem (.ref a) u) Q E s:=by
 rcases g with ⟨kvs,k,e,ey,l⟩ | ⟨kvs,k,b,e,ey,eb,l⟩
 ·subst ey
  obtain ⟨z,hd,vs,rel,dd⟩:=dk_rd I.hok e
  obtain ⟨w',hw,rw'⟩:=Jj.some_of (v:=v) (o:=valueAt vs k) (by rw [l];exact rel.val k)
  exact wpAny_getItem_of (kV_is ry) dd.mapOf hw (h w' _ (I.tok _) rw')
 ·subst ey
  cases (show u=Value.ref b from ry)
  obtain ⟨z,hd,xs,rel,dd⟩:=dt_rd I.hok e
  obtain ⟨w',hw,rw'⟩:=Jj.some_of (v:=v) (o:=(atKey xs k).map (·.2)) (by rw [l];exact rel.val k)
  obtain ⟨p,hp,hp2⟩:=Pq.mp hw
  refine wpAny_getItem_heap (tupleKind_room_in1 hu) (key_of I.hok eb) dd hp ?_
  rw [hp2]
  exact h w' _ (I.tok _) rw'
theorem d_write {h':Heap} {t':Nat} {ob:HO} (I:Inv X pins σ H s) (mu:Mut (H a)) (hs:Heap.SameBut a s.heap h') (he:∃ q,h'.get? a=some q) (new:yE X.prog X.w (upd H a ob) h' a ob) :
  Inv X pins σ (upd H a ob) { s with heap:=h',toks:=t' } :=
 I.write (x:=a) (e:=a) mu (.inl rfl) (fun b q hb z=>(hs.2 b hb).trans z) he new
theorem dk_new {P:Program} {w:World} {H':Hp} {h':Heap} {kvs:List (Key×V)} {vs:List (Key×Value)} (z:kvs.length<=sizeLine) (hd:(a == sysModules)=false) (rel:KV kvs vs) (dd:h'.DictOf (yD P w) a vs) :
  yE P w H' h' a (.dK kvs):=⟨z,hd,vs,rel,dd⟩
theorem d_setItem {H':Hp} {Q:Unit->Shared->Prop} (hu:A.units+1<cLine) (I:Inv X pins σ H s) (g:DPut H a y v H') (ry:Zx y u) (rv:Zx v r) (h:∀ s',Inv X pins σ H' s'->Q () s') :
  wpAny (model X.prog X.w) A (setItem (.ref a) u r) Q E s:=by
 rcases g with ⟨kvs,k,e,ey,l,eH⟩ | ⟨kvs,k,b,e,ey,eb,l,eH⟩
 ·subst ey eH
  obtain ⟨z,hd,vs,rel,dd⟩:=dk_of I.hok e
  have hz:vs.length<=sizeLine:=by rw [<- rel.length];exact z
  have hl:(wP kvs k v).length<=sizeLine:=by have:=WX kvs k v;omega
  refine wpAny_setItem_pairs (hsz:=hz) (kV_is ry) dd fun h' dd' hs=>h _ ?_
  have he:∃ q,h'.get? a=some q:=let ⟨q,_,_,hq,_⟩:=dd';⟨q,hq⟩
  exact d_write I (by rw [e];exact True.intro) hs he (dk_new hl hd (rel.put k rv) dd')
 ·subst ey eH
  cases (show u=Value.ref b from ry)
  obtain ⟨z,hd,xs,rel,dd⟩:=dt_of I.hok e
  have hz:xs.length<=sizeLine:=by rw [<- Paired.length rel];exact z
  have hl:(wP kvs k v).length<=sizeLine:=by have:=WX kvs k v;omega
  refine wpAny_setItem_heap (hsz:=hz) (tupleKind_room_in1 hu) (key_of I.hok eb) dd fun h' dd' hs=>h _ ?_
  obtain ⟨q,es,ep,hq,h2,h3,h4,_,h5⟩:=dd'
  refine d_write I (by rw [e];exact True.intro) hs ⟨q,hq⟩ ⟨hl,hd,_,(rel.put k eb rv).keeps fun c ys ec=>?_,q,es,ep,hq,h2,h3,h4,h5⟩
  rw [zx (ne_of ec e (fun z=>nomatch z))]
  exact ec
end
section
variable {X:Cx} {pins:List (Addr×Obj)} {σ:St} {H:Hp} {s:Shared} {a:Addr} {kvs:List (Key×V)} {k:Key} {u:Value} {A:Around} {E:Value->Shared->Prop}
end
def NoSl (i:Expr):Prop:=∀ ov iv,subscripted i false ov iv=operate [ov,iv] (getItem ov iv)
theorem subD_of {prog:Program} {w:World} {A:Around} {E:Value->Shared->Prop} {s:Shared} {env:Env} {value slice:Expr} {pos:Pos} {T id:String} {Q:Value->Shared->Prop}
  (hl:typeLookup (.type T) "__getitem__"=pure (some (.builtin id))) (hs:NoSl slice)
  (h:wpAny (model prog w) A (eval value env) (fun o s₁=>wpAny (model prog w) A (eval slice env) (fun i s₂=>s₂.TypeIs o T/\wpAny (model prog w) A (getItem o i) Q E s₂) E s₁) E s) :
  wpAny (model prog w) A (eval (.Subscript value slice pos) env) Q E s:=by
 refine Subscript_ (Q1 h (fun o s₁ h₁=>Q1 h₁ (fun i s₂ h₂=>?_) fun _ _ x=>x) fun _ _ x=>x)
 obtain ⟨hT,h₂⟩:=h₂
 unfold subscriptTail
 refine Qa ?_
 rw [getitemInPython_of_ne hT.not_modules]
 refine Qa (wpAny_specialOf hT hl ?_)
 have fin:wpAny (model prog w) A (subscripted slice false o i) (fun r s₃=>wpAny (model prog w) A (letTemporaryGo value o r >>= fun _=>pure r) Q E s₃) E s₂:=by
  rw [hs o i]
  exact wpAny_operating (Q1 h₂ (fun r s₃ h₃=>Qa (wpAny_letTemporaryGo (Qf h₃))) fun _ _ x=>x)
 first
  | exact Qf (Qa fin)
  | exact Qa (Qf (Qa fin))
  | exact Qa fin
theorem dict_typeIs {X:Cx} {pins:List (Addr×Obj)} {σ:St} {H:Hp} {s:Shared} {a:Addr} {y:V} {o:Option V} (I:Inv X pins σ H s) (g:DGet H a y o):s.TypeIs (.ref a) "dict":=by
 rcases g with ⟨kvs,k,e,_,_⟩ | ⟨kvs,k,b,e,_,_,_⟩
 ·obtain ⟨_,_,vs,_,dd⟩:=dk_rd I.hok e
  exact dd.typeIs
 ·obtain ⟨_,_,xs,_,dd⟩:=dt_rd I.hok e
  exact dd.typeIs
def tDGet (td ty:TE):TE:=fun σ H Q=>td σ H fun x H1=>ty σ H1 fun y H2=>∃ a v,x=.ref a/\DGet H2 a y (some v)/\Q v H2
def sDPut (td ty tv:TE):TS:=fun D σ H=>tv σ H fun v H1=>td σ H1 fun x H2=>ty σ H2 fun y H3=>∃ a H4,x=.ref a/\DPut H3 a y v H4/\D.nx σ H4
section
variable {X:Cx} {o i e value:Expr} {pos pos' tpos:Pos} {td ty tv:TE}
theorem pe_dget (hu:X.A.units+1<cLine) (ho:PE X o td) (hi:PE X i ty) (hs:NoSl i):PE X (.Subscript o i pos) (tDGet td ty):=by
 intro pins s σ H Q I h
 refine subD_of PySem.F.slot_dict_getitem.lookup hs (thn (ho pins s σ H _ I h) fun u s1 ⟨x,H1,I1,rx,q1⟩=>thn (hi pins s1 σ H1 _ I1 q1) fun iv s2 ⟨y,H2,I2,ry,a,v,ex,g,q2⟩=>?_)
 subst ex
 obtain rfl:u=Value.ref a:=rx
 exact ⟨dict_typeIs I2 g,d_getItem hu I2 g ry fun w' s3 I3 rw'=>⟨v,H2,I3,rw',q2⟩⟩
theorem ps_dput (hu:X.A.units+1<cLine) (ho:PE X o td) (hi:PE X i ty) (hv:PE X value tv) (hs:swapsWith value (some (.Subscript o i pos')) pos.line X.env=pure false) :
  PS X (.Assign [.Subscript o i pos'] value pos) (sDPut td ty tv):=by
 intro pins s σ H D I h
 refine wpAny_Assign_Subscript (thn (hv pins s σ H _ I h) fun r s1 ⟨v,H1,I1,rv,q1⟩=>thn (ho pins s1 σ H1 _ I1 q1) fun u s2 ⟨x,H2,I2,rx,q2⟩=>thn (hi pins s2 σ H2 _ I2 q2) fun iv s3 ⟨y,H3,I3,ry,a,H4,ex,g,q3⟩=>?_) hs
 subst ex
 obtain rfl:u=Value.ref a:=rx
 exact d_setItem hu I3 g ry rv fun s4 I4=>⟨σ,H4,I4,q3⟩
end
theorem dk_empty {P:Program} {w:World} {H:Hp} (h:Heap) (hb:sysModules<h.objs.size):yE P w H (h.push { cls:=.type "dict",data:=.dict #[] }) h.objs.size (.dK []) :=
 ⟨Q3 _,beq_eq_false_iff_ne.mpr (Ne.symm (Qu hb)),[],.nil,Heap.DictOf.new h⟩
def tDNewK:TE:=fun _ H Q=>∀ p,H p=none->Q (.ref p) (upd H p (.dK []))
section
variable {X:Cx} {pos:Pos}
theorem pe_dnewK:PE X (.Dict [] [] pos) tDNewK:=fun pins s σ H Q I h =>
 wpAny_Dict_empty ⟨.ref s.heap.objs.size,_,I.laid (a:=s.heap.objs.size) (o:=.dK []) (t':=s.toks) (fun _ _ q=>Qc _ q) (Ql _) (dk_empty s.heap I.big),rfl,h _ (I.hok.fresh (Ql _))⟩
end
end L2
namespace L2
open PySem PySem.Spec PyProof.Rows
section
variable {X:Cx}
end
end L2
namespace M
open PySem PySem.Spec L2
open PySem.W (Frag)
section
variable {X:Cx} {fr st:Bool} {os os' ol:List Nat} {a:Expr} {ta:TE} {ca:Ev->Option (List D)} {p p' pos pos':Pos} {k:Nat}
end
end M
namespace L2
open PySem PySem.Spec PyProof.Rows
section
variable {X:Cx} {pins:List (Addr×Obj)} {σ:St} {H:Hp} {s:Shared} {a:Addr}
end
end L2
namespace M
open PySem PySem.Spec L2
open PySem.W (Frag)
theorem Md.forget {K:Frag} {Ud H:Hp} {Ue:Addr->Prop} {os:List Nat} {σ:St} {ρ:Ev} (m:Md K Ud Ue os σ H ρ) {i:Nat} {v:Option V} (hi:i∉os):Md K Ud Ue os (σ.set i v) H (ρ.set i none):=by
 have hb:Bl Ue os (σ.set i v)=Bl Ue os σ:=bl_eq fun j hj=>zd fun z=>hi (z▸hj)
 refine ⟨m.grow,m.blk,by rw [Qo,Qo];exact m.len,fun j d q n=>?_,fun j hj=>?_,fun j k a h1 h2=>?_⟩
 ·have hj:j≠i:=fun z=>by
   subst z
   have:=yT q
   cases this
  rw [zd hj] at q
  obtain ⟨w',q1,q2⟩:=m.sh j d q n
  exact ⟨w',by rw [zd hj];exact q1,by rw [hb];exact q2⟩
 ·have hne:j≠i:=fun z=>hi (z▸hj)
  obtain ⟨a,o,d,q1,q2,q3,q4,q5⟩:=m.own j hj
  exact ⟨a,o,d,by rw [zd hne];exact q1,by rw [zd hne];exact q2,q3,q4,by rw [hb];exact q5⟩
 ·rw [zd (show j≠i from fun z=>hi (z▸h1)),zd (show k≠i from fun z=>hi (z▸h2))]
  exact m.sep j k a h1 h2
section
variable {X:Cx} {fr:Bool} {i:Nat} {os' ol:List Nat} {Zm:List Stmt} {t:TS} {m:Ev->Option Out} {pos:Pos}
end
end M
namespace L2
open PySem PySem.Spec PyProof.Rows
section
variable {prog:Program} {w:World} {A:Around} {R:Result->Shared->Prop} {I:Addr} {fp wr:List Addr} {n:Nat} {P:Nat->Value->Prop} {St:Nat->Heap->Prop}
end
section
variable {X:Cx} {tg:Expr}
end
end L2
namespace M
open PySem PySem.Spec L2
open PySem.W (Frag)
def yh:List Key->List D->Key->Option D
 | k'::ks,d::ds,k=>if k'=k then some d else yh ks ds k
 | _,_,_=>none
def Wm (k:Key) (d:D):List Key->List D->List D
 | k'::ks,x::ds=>(if k'=k then d else x)::Wm k d ks ds
 | _,ds=>ds
def Ww (ks:List Key) (k:Key):Bool:=ks.any fun k'=>decide (k'=k)
def putKs (ks:List Key) (k:Key):List Key:=if Ww ks k=true then ks else ks++[k]
def putDs (ks:List Key) (ds:List D) (k:Key) (d:D):List D:=if Ww ks k=true then Wm k d ks ds else ds++[d]
def GH:D->D->Option D
 | .dict ks ds,.int i=>yh ks ds (.inl i)
 | _,_=>none
def asDc:D->Option (List Key×List D)
 | .dict ks ds=>some (ks,ds)
 | _=>none
def mDPut (im:Nat) (fk fv:Ev->Option D):Ev->Option Out:=fun ρ=>(fv ρ).bind fun d=>(ρ[im]?.join).bind fun x=>(asDc x).bind fun kd=>(fk ρ).bind fun y=>(asI y).bind fun i =>
 if kd.1.length<sizeLine then some (.nx (ρ.set im (some (.dict (putKs kd.1 (.inl i)) (putDs kd.1 kd.2 (.inl i) d))))) else none
section
variable {K:Frag} {H:Hp} {B:Addr->Prop}
theorem look_v:∀ {kvs:List (Key×V)} {ds:List D} {k:Key} {d:D},zt K H B ds (kvs.map (·.2))->yh (kvs.map (·.1)) ds k=some d->∃ v,wc kvs k=some v/\Rep K H B d v
 | [],ds,k,d,h,e=>by cases ds <;> simp [yh] at e
 | kv::kvs,[],k,d,h,e=>by simp [yh] at e
 | kv::kvs,x::ds,k,d,h,e=>by
  simp only [Qq,zt] at h
  obtain ⟨v,r,e1,h1,h2⟩:=h
  cases e1
  simp only [Qq,yh] at e
  by_cases hk:kv.1=k
  ·rw [if_pos hk] at e
   cases e
   exact ⟨kv.2,by simp [wc,hk],h1⟩
  ·rw [if_neg hk] at e
   obtain ⟨v,q1,q2⟩:=look_v h2 e
   exact ⟨v,by simpa [wc,hk] using q1,q2⟩
theorem rep_map (k:Key) (v:V):∀ kvs:List (Key×V),(kvs.map fun kv=>if kv.1=k then (kv.1,v) else kv).map (·.1)=kvs.map (·.1)
 | []=>rfl
 | kv::kvs=>by
  rw [Qq,Qq,Qq,rep_map k v kvs]
  by_cases h:kv.1=k <;> simp [h]
theorem rep_reps (k:Key) {d:D} {v:V} (hd:Rep K H B d v):∀ {kvs:List (Key×V)} {ds:List D},zt K H B ds (kvs.map (·.2))->zt K H B (Wm k d (kvs.map (·.1)) ds) ((kvs.map fun kv=>if kv.1=k then (kv.1,v) else kv).map (·.2))
 | [],ds,h=>by
  cases ds with
  | nil=>simpa [Wm] using h
  | cons x ds=>simp [zt] at h
 | kv::kvs,[],h=>by simp [zt] at h
 | kv::kvs,x::ds,h=>by
  simp only [Qq,zt] at h
  obtain ⟨w,r,e1,h1,h2⟩:=h
  cases e1
  simp only [Qq,Wm]
  refine .cons ?_ (rep_reps k hd h2)
  by_cases hk:kv.1=k
  ·simp only [if_pos hk];exact hd
  ·simp only [if_neg hk];exact h1
theorem any_mem (k:Key) (kvs:List (Key×V)):(kvs.any fun kv=>decide (kv.1=k))=Ww (kvs.map (·.1)) k:=by
 unfold Ww
 rw [List.any_map]
 rfl
theorem put_own {kvs:List (Key×V)} {ds:List D} {k:Key} {d:D} {v:V} (hd:Rep K H B d v) (h:zt K H B ds (kvs.map (·.2))):Own K H B (.dK (wP kvs k v)) (.dict (putKs (kvs.map (·.1)) k) (putDs (kvs.map (·.1)) ds k d)):=by
 simp only [Own]
 unfold wP putKs putDs
 rw [any_mem]
 by_cases hk:Ww (kvs.map (·.1)) k=true
 ·rw [if_pos hk,if_pos hk,if_pos hk]
  exact ⟨rep_map k v kvs,rep_reps k hd h⟩
 ·rw [if_neg hk,if_neg hk,if_neg hk]
  rw [Q9,Q9]
  exact ⟨rfl,h.append (.one hd)⟩
end
section
variable {X:Cx} {fr st s:Bool} {os os' ol:List Nat} {o a i e tg:Expr} {td ta ti te:TE} {fo fa fi f:Ev->Option D} {ca:Ev->Option (List D)} {p p' pos pos':Pos} {k:Nat}
theorem sf_dnew:SF X os (.Dict [] [] pos) tDNewK (fC (.dict [] [])):=⟨pe_dnewK,fun Ud Ue σ H ρ d Q m q kk=>by
 cases q
 intro p hp
 exact kk p (.dK []) _ (zz hp) hp zw (by simp only [Own];exact ⟨rfl,.nil⟩)⟩
theorem se_dget (hr:Room k X.A) (ho:SE X st os o td fo) (hi:SE X st os i ti fi) (hs:NoSl i:=by intro _ _;rfl):SE X st os (.Subscript o i pos) (tDGet td ti) (f2 GH fo fi):=⟨pe_dget (hu_of hr) ho.pe hi.pe hs,fun Ud Ue σ H ρ d Q m q kk=>by
 obtain ⟨x,h1,h2⟩:=ze q
 obtain ⟨y,h3,h4⟩:=ze h2
 refine ho.ok Ud Ue σ H ρ x _ m h1 fun v H1 s1 r1=>?_
 refine hi.ok Ud Ue σ H1 ρ y _ (m.up s1) h3 fun u H2 s2 r2=>?_
 cases x <;> cases y <;> simp only [GH] at h4 <;> try (cases h4)
 have r1':=r1.up s2
 simp only [Rep] at r1' r2
 obtain ⟨b,kvs,rfl,⟨hb,_⟩,rfl,hr⟩:=r1'
 subst r2
 obtain ⟨w',g1,g2⟩:=look_v hr h4
 exact ⟨b,w',rfl,by rw [<- g1];exact DGet.k (k:=.inl _) hb,kk w' H2 (s1.trans s2) g2⟩⟩
theorem ss_dput (im:Nat) {y:Str} {pv1:Pos} (hr:Room k X.A) (hi:SE X false os i ti fi) (hv:SE X true os e te f) (ho:im∈os:=by decide) (hN:X.N[im]?=some y:=by rfl) (hvis:Vis X.env.scope y:=by first | exact Or.inl rfl | exact Or.inr (Or.inl rfl) | exact Or.inr (Or.inr rfl)) (hd:(y == ("__debug__":Str))=false:=by decide)
  (hcd:(y == ("__classdict__":Str))=false:=by decide) (hs:swapsWith e (some (.Subscript (.Name y pv1) i pos')) pos.line X.env=pure false:=by rfl) :
  SS X fr os os ol (.Assign [.Subscript (.Name y pv1) i pos'] e pos) (sDPut (ZB im) ti te) (mDPut im fi f) :=
 ⟨ps_dput (hu_of hr) (pv im hN hvis hd hcd) hi.pe hv.pe hs,fun Ud Ue σ H ρ o E m q kk=>by
 obtain ⟨d,q1,q2⟩:=ze q
 obtain ⟨x,q3,q4⟩:=ze q2
 obtain ⟨kd,q5,q6⟩:=ze q4
 obtain ⟨yy,q7,q8⟩:=ze q6
 obtain ⟨n,q9,q10⟩:=ze q8
 split at q10
 case isFalse=>cases q10
 rename_i hl
 cases q10
 cases x <;> simp only [asDc] at q5 <;> cases q5
 obtain ⟨a,ob,d',g1,g2,g3,g4,g5⟩:=m.own im ho
 rw [Yg q3] at g2;cases g2
 cases ob <;> simp only [Own] at g5
 rename_i kvs
 obtain ⟨rfl,g5⟩:=g5
 refine hv.ok Ud Ue σ H ρ d _ m q1 fun v H1 s1 r1=>?_
 refine ⟨.ref a,g1,?_⟩
 refine hi.ok Ud Ue σ H1 ρ yy _ (m.up s1) q7 fun w' H2 s2 r2=>?_
 have e2:=asI_v r2 q9
 subst e2
 refine ⟨a,_,rfl,DPut.k (k:=.inl n) (s2 _ _ (s1 _ _ g3)) (by simpa using hl),kk σ _ ?_⟩
 exact (m.up (s1.trans s2)).write ho g1 (put_own (r1.up s2) (g5.up (s1.trans s2)))⟩
end
theorem _root_.L2.FnOk.no {P:Program} {w:World} {K:Frag} {mg:Str->Option Value} {base:Heap} {k:Nat} {f:Addr} {fd:FuncData} {ps:List Str}:FnOk P w K mg base CX0 k f fd ps (spM K fun _=>none) :=
 ⟨fun _ _ _ _ ⟨_,_,_,_,_,e,_⟩=>(nomatch e),fun _ _ _ _ _ _ _ _ _ _ _ _ _ ⟨_,_,_,_,_,e,_⟩=>(nomatch e)⟩
section
variable {X:Cx} {os os' ol:List Nat} {pos p p1 p2 p3:Pos} {x:Str} {j q:Nat}
theorem ss_retRow1 (h1:starEach [.Constant (.str x) j p1,.List [] p2] X.env=(false,eval (.Constant (.str x) j p1) X.env)::starEach [.List [] p2] X.env:=by rfl) (h2:starEach [.List [] p2] X.env=(false,eval (.List [] p2) X.env)::starEach [] X.env:=by rfl) :
  SS X true os os' ol (.Return (some (.Tuple [.Constant (.str x) j p1,.List [] p2] q p)) pos) (W4 (gJ (z6 (tC (.str x)) (z6 (tLst Z0) Z0)))) (ZH (Zo (zf (fC (.str x)) (zf (ZR zu) zu)))) :=
 ⟨Jx (wv (zP Go (zP (jZ Zn) Zn h2) h1)),fun Ud Ue σ H ρ o E mm qq k=>by
 obtain ⟨d,e1,rfl⟩:=map_some qq
 have e2:Zo (zf (fC (.str x)) (zf (ZR zu) zu)) ρ=some (.tup [.str x,.lst []]):=by
  show (some [D.str x,D.lst []]).bind JJ=_
  rw [oB,JJ,if_pos (by show 2<=sizeLine;decide)]
 rw [e2] at e1;cases e1
 refine ⟨by show 0<=sizeLine;decide,fun a ha=>⟨by show 2<=sizeLine;decide,fun b hb=>?_⟩⟩
 have s1:zX H (upd H a (.lst [])):=zz ha
 have s2:zX (upd H a (.lst [])) (upd (upd H a (.lst [])) b (.tup [.str x,.ref a])):=zz hb
 refine k _ _ ((mm.up (s1.trans s2)).grow) (mm.up (s1.trans s2)).blk (.inr (.inr ⟨b,x,[a],rfl,rfl,by simp,fun c hc=>?_,zw⟩))
 rw [Qv.mp hc]
 exact ⟨mm.grow.free ha,s2 _ _ zw⟩⟩
theorem ss_retRow2 (h1:starEach [.Constant (.str x) j p1,.List [] p2,.List [] p3] X.env=(false,eval (.Constant (.str x) j p1) X.env)::starEach [.List [] p2,.List [] p3] X.env:=by rfl) (h2:starEach [.List [] p2,.List [] p3] X.env=(false,eval (.List [] p2) X.env)::starEach [.List [] p3] X.env:=by rfl)
  (h3:starEach [.List [] p3] X.env=(false,eval (.List [] p3) X.env)::starEach [] X.env:=by rfl) :
  SS X true os os' ol (.Return (some (.Tuple [.Constant (.str x) j p1,.List [] p2,.List [] p3] q p)) pos) (W4 (gJ (z6 (tC (.str x)) (z6 (tLst Z0) (z6 (tLst Z0) Z0))))) (ZH (Zo (zf (fC (.str x)) (zf (ZR zu) (zf (ZR zu) zu))))) :=
 ⟨Jx (wv (zP Go (zP (jZ Zn) (zP (jZ Zn) Zn h3) h2) h1)),fun Ud Ue σ H ρ o E mm qq k=>by
 obtain ⟨d,e1,rfl⟩:=map_some qq
 have e2:Zo (zf (fC (.str x)) (zf (ZR zu) (zf (ZR zu) zu))) ρ=some (.tup [.str x,.lst [],.lst []]):=by
  show (some [D.str x,D.lst [],D.lst []]).bind JJ=_
  rw [oB,JJ,if_pos (by show 3<=sizeLine;decide)]
 rw [e2] at e1;cases e1
 refine ⟨by show 0<=sizeLine;decide,fun a ha=>⟨by show 0<=sizeLine;decide,fun a2 ha2=>⟨by show 3<=sizeLine;decide,fun b hb=>?_⟩⟩⟩
 have s1:zX H (upd H a (.lst [])):=zz ha
 have s2:zX (upd H a (.lst [])) (upd (upd H a (.lst [])) a2 (.lst [])):=zz ha2
 have s3:zX (upd (upd H a (.lst [])) a2 (.lst [])) (upd (upd (upd H a (.lst [])) a2 (.lst [])) b (.tup [.str x,.ref a,.ref a2])):=zz hb
 have ne:a≠a2:=fun z=>by rw [<- z,zw] at ha2;cases ha2
 refine k _ _ ((mm.up ((s1.trans s2).trans s3)).grow) (mm.up ((s1.trans s2).trans s3)).blk (.inr (.inr ⟨b,x,[a,a2],rfl,rfl,by simp [ne],fun c hc=>?_,zw⟩))
 rcases Qb.mp hc with rfl | hc
 ·exact ⟨mm.grow.free ha,s3 _ _ (s2 _ _ zw)⟩
 ·rw [Qv.mp hc]
  exact ⟨mm.grow.free (s1.free ha2),s3 _ _ zw⟩⟩
end
structure Fr where
 done:List D
 x:Str
 pre:List D
 post:List D
def shut (f:Fr) (top:List D):List D:=f.done++[.tup (.str f.x::(f.pre++.lst top::f.post))]
def ZI:List D->List Fr->List D
 | top,[]=>top
 | top,f::fs=>ZI (shut f top) fs
def Ch (K:Frag) (H:Hp) (B:Addr->Prop):List Fr->Addr->List Addr->Prop
 | [],_,[]=>True
 | f::fs,a,a'::as=>(∃ (vs pv qv:List V) (b:Addr),H a'=some (.lst (vs++[.ref b]))/\zt K H B f.done vs/\H b=some (.tup (.str f.x::(pv++.ref a::qv)))/\zt K H B f.pre pv/\zt K H B f.post qv)/\Ch K H B fs a' as
 | _,_,_=>False
theorem Ch.len {K:Frag} {H:Hp} {B:Addr->Prop}:∀ {fs:List Fr} {a:Addr} {as:List Addr},Ch K H B fs a as->fs.length=as.length
 | [],_,[],_=>rfl
 | f::fs,a,a'::as,h=>by simp only [Qe];rw [Ch.len h.2]
 | [],_,_::_,h=>by cases h
 | _::_,_,[],h=>by cases h
theorem Ch.mv {K:Frag} {H H':Hp} {B B':Addr->Prop} (g:Goes H H' B B'):∀ {fs:List Fr} {a:Addr} {as:List Addr},(∀ x∈as,∀ o,H x=some o->H' x=some o)->(∀ b xs,H b=some (.tup xs)->H' b=some (.tup xs))->Ch K H B fs a as->Ch K H' B' fs a as
 | [],_,[],_,_,_=>trivial
 | f::fs,a,a'::as,h1,h2,⟨⟨vs,pv,qv,b,q1,q2,q3,q4,q5⟩,r⟩ =>
  ⟨⟨vs,pv,qv,b,h1 a' Qt _ q1,zt.goes g _ _ q2,h2 _ _ q3,zt.goes g _ _ q4,zt.goes g _ _ q5⟩,Ch.mv g (fun x hx=>h1 x (Qd _ hx)) h2 r⟩
 | [],_,_::_,_,_,h=>by cases h
 | _::_,_,[],_,_,h=>by cases h
def Bo (Ue:Addr->Prop) (w a:Addr) (as:List Addr):Addr->Prop:=fun x=>Ue x\/x∈w::a::as
structure Zp (K:Frag) (Ud:Hp) (Ue:Addr->Prop) (H:Hp) (w a:Addr) (as:List Addr) (top:List D) (fs:List Fr):Prop where
 whr:H w=some (.lst ((as.reverse++[a]).map V.ref))
 top:∃ vs,H a=some (.lst vs)/\zt K H (Bo Ue w a as) top vs
 ch:Ch K H (Bo Ue w a as) fs a as
 nd:(w::a::as).Nodup
 new:∀ x∈w::a::as,Ud x=none/\¬ Ue x
section
variable {K:Frag} {Ud H H1:Hp} {Ue:Addr->Prop} {w a:Addr} {as:List Addr} {top:List D} {fs:List Fr}
theorem Ch.track {B:Addr->Prop}:∀ {fs:List Fr} {a:Addr} {as:List Addr},Ch K H B fs a as->∀ x∈as,∃ xs,H x=some (.lst xs)
 | f::fs,a,a'::as,⟨⟨vs,pv,qv,b,q1,_⟩,r⟩,x,hx=>by
  rcases Qb.mp hx with rfl | hx
  ·exact ⟨_,q1⟩
  ·exact Ch.track r x hx
 | [],_,[],_,x,hx=>by cases hx
 | [],_,_::_,h,_,_=>by cases h
 | _::_,_,[],h,_,_=>by cases h
theorem Zp.track (z:Zp K Ud Ue H w a as top fs):∀ x∈w::a::as,∃ xs,H x=some (.lst xs):=fun x hx=>by
 rcases Qb.mp hx with rfl | hx
 ·exact ⟨_,z.whr⟩
 ·rcases Qb.mp hx with rfl | hx
  ·obtain ⟨vs,h,_⟩:=z.top;exact ⟨_,h⟩
  ·exact z.ch.track x hx
theorem JS {B:Addr->Prop} {ls:List Addr} (h:∀ c∈ls,H c=some (.lst [])/\¬ B c):zt K H B (ls.map fun _=>D.lst []) (ls.map V.ref):=by
 induction ls with
 | nil=>exact .nil
 | cons c ls ih =>
  refine .cons ?_ (ih fun x hx=>h x (Qd _ hx))
  simp only [Rep]
  exact ⟨c,[],rfl,⟨.inl (h c Qt).1,(h c Qt).2⟩,.nil⟩
theorem Zp.open (z:Zp K Ud Ue H w a as top fs) (gr:zX Ud H) (hb0:∀ x,Ue x->∃ o,H x=some o) (s:zX H H1) {vs:List V} (hv:H a=some (.lst vs)) {b:Addr} {x:Str} {l1 l2:List Addr} {c:Addr} (hnd:(l1++c::l2).Nodup) (hl:∀ e∈l1++c::l2,H e=none/\H1 e=some (.lst [])) (hb:H1 b=some (.tup (.str x::(l1++c::l2).map V.ref))) :
  Zp K Ud Ue (upd (upd H1 a (.lst (vs++[.ref b]))) w (.lst (((as.reverse++[a])++[c]).map V.ref))) w c (a::as) [] (⟨top,x,l1.map fun _=>.lst [],l2.map fun _=>.lst []⟩::fs)/\Goes H (upd (upd H1 a (.lst (vs++[.ref b]))) w (.lst (((as.reverse++[a])++[c]).map V.ref))) (Bo Ue w a as) (Bo Ue w c (a::as)):=by
 have nd:=z.nd
 have hwa:w≠a:=fun e=>by rw [e] at nd;simp at nd
 have haas:a∉as:=by rw [Qr,Qr] at nd;exact nd.2.1
 have hwas:w∉as:=by rw [Qr] at nd;exact fun q=>nd.1 (Qd _ q)
 have fresh:∀ e∈l1++c::l2,e∉w::a::as:=fun e he hm=>by
  obtain ⟨xs,q⟩:=z.track e hm
  rw [(hl e he).1] at q;cases q
 have hc:c∈l1++c::l2:=by simp
 have hcw:c≠w:=fun e=>fresh c hc (by rw [e];simp)
 have hca:c≠a:=fun e=>fresh c hc (by rw [e];simp)
 have hnB:∀ e∈l1++c::l2,¬ Ue e:=fun e he q=>by
  obtain ⟨o,h⟩:=hb0 e q
  rw [(hl e he).1] at h;cases h
 generalize hH3:upd (upd H1 a (.lst (vs++[.ref b]))) w (.lst (((as.reverse++[a])++[c]).map V.ref))=H3
 have at3:∀ e,e≠w->e≠a->H3 e=H1 e:=fun e h1 h2=>by rw [<- hH3,zx h1,zx h2]
 have a3:H3 a=some (.lst (vs++[.ref b])):=by rw [<- hH3,zx (Ne.symm hwa),zw]
 have w3:H3 w=some (.lst (((as.reverse++[a])++[c]).map V.ref)):=by rw [<- hH3,zw]
 have hbn:b≠w/\b≠a:=by
  refine ⟨fun e=>?_,fun e=>?_⟩
  ·rw [e,s _ _ z.whr] at hb;cases hb
  ·rw [e,s _ _ hv] at hb;cases hb
 have tups:∀ e xs,H e=some (.tup xs)->H3 e=some (.tup xs):=fun e xs h=>by
  rw [at3 e (fun q=>by rw [q,z.whr] at h;cases h) (fun q=>by rw [q,hv] at h;cases h)]
  exact s _ _ h
 have g:Goes H H3 (Bo Ue w a as) (Bo Ue w c (a::as)):=by
  have g1:Goes H H1 (Bo Ue w a as) (fun e=>Bo Ue w a as e\/e=c):=.fresh (hl c hc).1 s
  have g2:Goes H1 (upd H1 a (.lst (vs++[.ref b]))) (fun e=>Bo Ue w a as e\/e=c) (fun e=>Bo Ue w a as e\/e=c):=.write (.inl (.inr (by simp))) (s _ _ hv) trivial
  have g3:Goes (upd H1 a (.lst (vs++[.ref b]))) H3 (fun e=>Bo Ue w a as e\/e=c) (fun e=>Bo Ue w a as e\/e=c):=by
   rw [<- hH3]
   exact .write (u:=.lst ((as.reverse++[a]).map V.ref)) (.inl (.inr (by simp))) (by rw [zx hwa];exact s _ _ z.whr) trivial
  have less:∀ e,Bo Ue w c (a::as) e->Bo Ue w a as e\/e=c:=fun e h=>by
   rcases h with h | h
   ·exact .inl (.inl h)
   ·rcases Qb.mp h with rfl | h
    ·exact .inl (.inr (by simp))
    ·rcases Qb.mp h with rfl | h
     ·exact .inr rfl
     ·exact .inl (.inr (Qd _ h))
  exact ⟨fun e xs q=>g3.tup _ _ (g2.tup _ _ (g1.tup _ _ q)),fun e xs q n=>by
   obtain ⟨q1,n1⟩:=g1.lst e xs q n
   obtain ⟨q2,n2⟩:=g2.lst e xs q1 n1
   obtain ⟨q3,n3⟩:=g3.lst e xs q2 n2
   exact ⟨q3,fun z=>n3 (less e z)⟩,fun e xs q n=>by
   obtain ⟨q1,n1⟩:=g1.dct e xs q n
   obtain ⟨q2,n2⟩:=g2.dct e xs q1 n1
   obtain ⟨q3,n3⟩:=g3.dct e xs q2 n2
   exact ⟨q3,fun z=>n3 (less e z)⟩,fun e o u q=>g3.frz _ _ _ (g2.frz _ _ _ (g1.frz _ _ _ q)),fun e xs q=>g3.tkt _ _ (g2.tkt _ _ (g1.tkt _ _ q))⟩
 obtain ⟨vs',h1,h2⟩:=z.top
 rw [hv] at h1;cases h1
 have side:∀ e∈l1++c::l2,e≠c->H3 e=some (.lst [])/\¬ Bo Ue w c (a::as) e:=fun e he hne=>by
  have f:=fresh e he
  refine ⟨by rw [at3 e (fun q=>f (by rw [q];simp)) (fun q=>f (by rw [q];simp))];exact (hl e he).2,fun q=>?_⟩
  rcases q with q | q
  ·exact hnB e he q
  ·rcases Qb.mp q with q | q
   ·exact f (by rw [q];simp)
   ·rcases Qb.mp q with q | q
    ·exact hne q
    ·exact f (Qd _ q)
 have nd1:∀ e∈l1,e≠c:=fun e he q=>by
  rw [Pr] at hnd
  exact hnd.2.2 e he c (by simp) q
 have nd2:∀ e∈l2,e≠c:=fun e he q=>by
  rw [Pr] at hnd
  have:=hnd.2.1
  rw [Qr] at this
  exact this.1 (q▸he)
 refine ⟨?_,g⟩
 refine ⟨?_,⟨[],by rw [at3 c hcw hca];exact (hl c hc).2,.nil⟩,⟨⟨vs,l1.map V.ref,l2.map V.ref,b,a3,zt.goes g _ _ h2,?_,?_,?_⟩,z.ch.mv g (fun e he o h=>?_) tups⟩,?_,fun e he=>?_⟩
 ·rw [w3];simp
 ·rw [at3 b hbn.1 hbn.2,hb];simp
 ·exact JS fun e he=>side e (by simp [he]) (nd1 e he)
 ·exact JS fun e he=>side e (by simp [he]) (nd2 e he)
 ·rw [at3 e (fun q=>hwas (q▸he)) (fun q=>haas (q▸he))];exact s _ _ h
 ·rw [Qr,Qr] at nd
  rw [Qr,Qr,Qr]
  refine ⟨fun q=>?_,fun q=>?_,nd.2.1,nd.2.2⟩
  ·rcases Qb.mp q with q | q
   ·exact hcw q.symm
   ·exact nd.1 q
  ·exact fresh c hc (Qd _ q)
 ·rcases Qb.mp he with rfl | he
  ·exact z.new _ (by simp)
  ·rcases Qb.mp he with rfl | he
   ·exact ⟨gr.free (hl _ hc).1,hnB _ hc⟩
   ·exact z.new e (Qd _ he)
end
def openNames:List V:=[.str "loop",.str "either"]
def emp (n:Nat):List D:=List.replicate n (.lst [])
def stepZ (c:Int) (d:D) (top:List D) (fs:List Fr):Option (List D×List Fr):=match d with
 | .tup (.str x::ps)=>if top.length<sizeLine then
   if inV (.str x) openNames=true/\fs.length+1<4 then
    (if 0<ps.length/\x=x/\ps.all (fun d=>match d with | .lst []=>true | _=>false)=true then
     some ([],⟨top,x,emp (c / 32 % (ps.length:Nat)).toNat,emp (ps.length - 1 - (c / 32 % (ps.length:Nat)).toNat)⟩::fs) else none)
   else if c % 4=0 then (match fs with
    | f::fs'=>some (shut f (top++[d]),fs')
    | []=>some (top++[d],[]))
   else some (top++[d],fs)
  else none
 | _=>none
abbrev lenR (K:Frag):List V->Hp->VK->Prop:=fun xs H Q=>∃ p ys,xs=[.ref p]/\(SqL K H p ys\/SqT K H p ys)/\Q (.int ys.length) H
theorem Y9 {Ue:Addr->Prop} {σ:St}:Bl Ue [] σ=Ue:=by
 funext a
 refine propext ⟨fun h=>?_,Or.inl⟩
 rcases h with h | ⟨i,hi,_⟩
 ·exact h
 ·cases hi
theorem Md.base {K:Frag} {Ud H:Hp} {Ue:Addr->Prop} {σ:St} {ρ:Ev} (m:Md K Ud Ue [] σ H ρ):Md K H Ue [] σ H ρ :=
 ⟨.refl H,m.blk,m.len,m.sh,fun i hi=>(by cases hi),fun i j a hi=>by cases hi⟩
theorem Md.go {K:Frag} {Ud H H':Hp} {B B':Addr->Prop} {σ:St} {ρ:Ev} (m:Md K Ud B [] σ H ρ) (g:Goes H H' B B') (s:zX Ud H') (hb:∀ a,B' a->∃ o,H' a=some o):Md K Ud B' [] σ H' ρ :=
 ⟨s,hb,m.len,fun i d q n=>by
  obtain ⟨v,h1,h2⟩:=m.sh i d q n
  rw [Y9] at h2 ⊢
  exact ⟨v,h1,Rep.goes g _ _ h2⟩,fun i hi=>(by cases hi),fun i j a hi=>by cases hi⟩
theorem GO {xs:List V} {x:V}:atI (xs++[x]) (-1)=some x:=by
 unfold atI ixN
 rw [if_neg (by omega),if_pos (by simp;omega)]
 have:((-1:Int)+((xs++[x]).length:Nat)).toNat=xs.length:=by rw [Qi,Pw];omega
 rw [this,oB]
 simp
theorem all_emp {ps:List D} (h:ps.all (fun d=>match d with | .lst []=>true | _=>false)=true):∀ d∈ps,d=.lst []:=fun d hd=>by
 have:=List.all_eq_true.mp h d hd
 cases d <;> try (simp at this)
 rename_i xs
 cases xs with
 | nil=>rfl
 | cons _ _=>simp at this
section
variable {K:Frag} {te:TE} {f:Ev->Option D} {H:Hp} {Ue:Addr->Prop} {ρ:Ev} {p:Addr} {top top':List D} {fs fs':List Fr} {c:Int} {d:D} {N:St->Hp->Prop} {E:Ends}
theorem ifT {P Q:Prop} (h:P):if true=true then P else Q:=by rw [if_pos rfl];exact h
theorem ifF {P Q:Prop} (h:Q):if false=true then P else Q:=by rw [if_neg Qg];exact h
end
end M
namespace L2
open PySem PySem.Spec PyProof.Rows
section
variable {X:Cx}
theorem Wr:fillsNumberSlot (Value.type "tuple") "mul"=pure false:=by kernel_rfl
theorem repeat_tuple:seqRepeat? (Value.type "tuple")=pure (some (Value.builtin "tuple.__mul__")):=by kernel_rfl
end
end L2
namespace M
open PySem PySem.Spec L2
open PySem.W (Frag)
section
variable {X:Cx} {st:Bool} {os:List Nat} {a b e o:Expr} {ta tb te to:TE} {fa fb fe fo:Ev->Option D} {p pos:Pos} {k:Nat}
end
theorem jL {H H':Hp} {B B' O:Addr->Prop} (h1:∀ e o,H e=some o->¬ O e->H' e=some o) (hO:∀ e,O e->H e=none\/∃ xs,H e=some (.lst xs)) (hOB:∀ e xs,O e->H e=some (.lst xs)->B e) (hB:∀ e,B' e->B e\/H e=none):Goes H H' B B':=by
 have no:∀ e o,H e=some o->(∀ xs,o≠.lst xs)->¬ O e:=fun e o q n z=>by
  rcases hO e z with h | ⟨xs,h⟩
  ·rw [h] at q;cases q
  ·rw [h] at q;cases q;exact n xs rfl
 refine ⟨fun a xs q=>?_,fun a xs q n=>⟨?_,fun z=>?_⟩,fun a kvs q n=>⟨?_,fun z=>?_⟩,fun a o u q=>h1 _ _ q (no _ _ q fun xs z=>by cases z),fun a xs q=>h1 _ _ q (no _ _ q fun xs z=>by cases z)⟩
 ·rcases q with q | ⟨o,q⟩
  ·exact .inl (h1 _ _ q (no _ _ q fun xs z=>by cases z))
  ·exact .inr ⟨o,h1 _ _ q (no _ _ q fun xs z=>by cases z)⟩
 ·rcases q with q | ⟨o,q⟩
  ·exact .inl (h1 _ _ q fun z=>n (hOB _ _ z q))
  ·exact .inr ⟨o,h1 _ _ q (no _ _ q fun xs z=>by cases z)⟩
 ·rcases hB a z with h | h
  ·exact n h
  ·rcases q with q | ⟨o,q⟩ <;> (rw [h] at q;cases q)
 ·exact h1 _ _ q (no _ _ q fun xs z=>by cases z)
 ·rcases hB a z with h | h
  ·exact n h
  ·rw [h] at q;cases q
structure Lv where
 a:Addr
 q:Addr
 ps:List Addr
def Lv.own (l:Lv):List Addr:=l.a::l.q::l.ps
def Yi (w:Addr) (ls:List Lv):List Addr:=w::ls.flatMap Lv.own
def Bq (Ue:Addr->Prop) (w:Addr) (ls:List Lv):Addr->Prop:=fun x=>Ue x\/x∈Yi w ls
def Lv.ok (H:Hp) (l:Lv):Prop:=H l.q=some (.lst ((l.a::l.ps).map V.ref))/\∀ p∈l.ps,H p=some (.lst [])
def Cq (K:Frag) (H:Hp) (B:Addr->Prop):List Fr->List Lv->Prop
 | [],[_]=>True
 | f::fs,l::l'::ls=>(∃ (vs pv:List V) (b:Addr),H l'.a=some (.lst (vs++[.ref b]))/\zt K H B f.done vs/\H b=some (.tup (.str f.x::(pv++(l.a::l.ps).map V.ref)))/\zt K H B f.pre pv/\f.post=l.ps.map fun _=>D.lst [])/\Cq K H B fs (l'::ls)
 | _,_=>False
structure Zq (K:Frag) (Ud:Hp) (Ue:Addr->Prop) (H:Hp) (w:Addr) (l:Lv) (ls:List Lv) (top:List D) (fs:List Fr):Prop where
 whr:H w=some (.lst (((l::ls).reverse).map fun x=>V.ref x.q))
 top:∃ vs,H l.a=some (.lst vs)/\zt K H (Bq Ue w (l::ls)) top vs
 lv:∀ x∈l::ls,x.ok H
 ch:Cq K H (Bq Ue w (l::ls)) fs (l::ls)
 nd:(Yi w (l::ls)).Nodup
 new:∀ x∈Yi w (l::ls),Ud x=none/\¬ Ue x
theorem Cq.len {K:Frag} {H:Hp} {B:Addr->Prop}:∀ {fs:List Fr} {ls:List Lv},Cq K H B fs ls->ls.length=fs.length+1
 | [],[_],_=>rfl
 | f::fs,l::l'::ls,h=>by simp only [Qe];have:=Cq.len h.2;simp only [Qe] at this;omega
 | [],[],h=>by cases h
 | [],_::_::_,h=>by cases h
 | _::_,[],h=>by cases h
 | _::_,[_],h=>by cases h
theorem Cq.mv {K:Frag} {H H':Hp} {B B':Addr->Prop} (g:Goes H H' B B'):∀ {fs:List Fr} {l:Lv} {ls:List Lv},(∀ x∈ls,∀ o,H x.a=some o->H' x.a=some o)->Cq K H B fs (l::ls)->Cq K H' B' fs (l::ls)
 | [],l,[],_,_=>trivial
 | f::fs,l,l'::ls,h1,⟨⟨vs,pv,b,q1,q2,q3,q4,q5⟩,r⟩ =>
  ⟨⟨vs,pv,b,h1 l' Qt _ q1,zt.goes g _ _ q2,g.tkt _ _ q3,zt.goes g _ _ q4,q5⟩,Cq.mv g (fun x hx=>h1 x (Qd _ hx)) r⟩
 | [],_,_::_,_,h=>by cases h
 | _::_,_,[],_,h=>by cases h
theorem Cq.track {K:Frag} {H:Hp} {B:Addr->Prop}:∀ {fs:List Fr} {l:Lv} {ls:List Lv},Cq K H B fs (l::ls)->∀ x∈ls,∃ xs,H x.a=some (.lst xs)
 | f::fs,l,l'::ls,⟨⟨vs,pv,b,q1,_⟩,r⟩,x,hx=>by
  rcases Qb.mp hx with rfl | hx
  ·exact ⟨_,q1⟩
  ·exact Cq.track r x hx
 | [],_,[],_,x,hx=>by cases hx
 | [],_,_::_,h,_,_=>by cases h
 | _::_,_,[],h,_,_=>by cases h
section
variable {K:Frag} {Ud H H' H1:Hp} {Ue:Addr->Prop} {w:Addr} {l:Lv} {ls:List Lv} {top:List D} {fs:List Fr}
theorem Zj {x:Addr} {ls:List Lv}:x∈Yi w ls↔x=w\/∃ l∈ls,x=l.a\/x=l.q\/x∈l.ps:=by
 unfold Yi
 rw [Qb,List.mem_flatMap]
 simp only [Lv.own,Qb]
theorem Zq.lists (z:Zq K Ud Ue H w l ls top fs):∀ x∈Yi w (l::ls),∃ xs,H x=some (.lst xs):=fun x hx=>by
 rcases Zj.mp hx with rfl | ⟨v,hv,rfl | rfl | hp⟩
 ·exact ⟨_,z.whr⟩
 ·rcases Qb.mp hv with rfl | hv
  ·obtain ⟨vs,h,_⟩:=z.top;exact ⟨_,h⟩
  ·exact z.ch.track v hv
 ·exact ⟨_,(z.lv v hv).1⟩
 ·exact ⟨_,(z.lv v hv).2 x hp⟩
theorem Zq.up (z:Zq K Ud Ue H w l ls top fs) (s:zX H H1):Zq K Ud Ue H1 w l ls top fs :=
 ⟨s _ _ z.whr,(by obtain ⟨vs,h1,h2⟩:=z.top;exact ⟨vs,s _ _ h1,h2.up s⟩),fun x hx=>⟨s _ _ (z.lv x hx).1,fun p hp=>s _ _ ((z.lv x hx).2 p hp)⟩,z.ch.mv (.same s) (fun x _ o h=>s _ _ h),z.nd,z.new⟩
theorem JT (h:(Yi w (l::ls)).Nodup):w≠l.a/\w≠l.q/\l.a≠l.q/\w∉l.ps/\l.a∉l.ps/\l.q∉l.ps/\l.ps.Nodup/\(Yi w ls).Nodup/\∀ v∈ls,∀ x,(x=v.a\/x=v.q\/x∈v.ps)->x≠l.a/\x≠l.q/\x∉l.ps/\x≠w:=by
 unfold Yi at h
 rw [List.flatMap_cons] at h
 have hw:=Qr.mp h
 have hl:=Pr.mp hw.2
 have h1:=Qr.mp hl.1
 have h2:=Qr.mp h1.2
 have hm:∀ v∈ls,∀ x,(x=v.a\/x=v.q\/x∈v.ps)->x∈ls.flatMap Lv.own:=fun v hv x hx=>List.mem_flatMap.mpr ⟨v,hv,by simp only [Lv.own,Qb];exact hx⟩
 refine ⟨fun e=>hw.1 (by simp [Lv.own,e]),fun e=>hw.1 (by simp [Lv.own,e]),fun e=>h1.1 (by simp [e]),fun e=>hw.1 (by simp [Lv.own,e]),fun e=>h1.1 (by simp [e]),h2.1,h2.2,Qr.mpr ⟨fun e=>hw.1 (QI.mpr (.inr e)),hl.2.1⟩,fun v hv x hx=>⟨fun e=>?_,fun e=>?_,fun e=>?_,fun e=>?_⟩⟩
 ·exact hl.2.2 l.a (by simp [Lv.own]) x (hm v hv x hx) e.symm
 ·exact hl.2.2 l.q (by simp [Lv.own]) x (hm v hv x hx) e.symm
 ·exact hl.2.2 x (by simp [Lv.own,e]) x (hm v hv x hx) rfl
 ·exact hw.1 (QI.mpr (.inr (e▸hm v hv x hx)))
theorem Zq.add (z:Zq K Ud Ue H w l ls top fs) {vs:List V} {d:D} {v:V} (hv:H l.a=some (.lst vs)) (hd:Rep K H (Bq Ue w (l::ls)) d v) (ha:H' l.a=some (.lst (vs++[v]))) (hn:∀ e o,H e=some o->e≠l.a->H' e=some o):Zq K Ud Ue H' w l ls (top++[d]) fs:=by
 obtain ⟨wa,wq,aq,wp,ap,qp,pn,_,out⟩:=JT z.nd
 have g:Goes H H' (Bq Ue w (l::ls)) (Bq Ue w (l::ls)):=jL (O:=fun e=>e=l.a) hn (fun e he=>by rw [he];exact .inr ⟨_,hv⟩) (fun e xs he _=>.inr (by rw [he];exact Zj.mpr (.inr ⟨l,by simp,.inl rfl⟩))) (fun e he=>.inl he)
 obtain ⟨vs',h1,h2⟩:=z.top
 rw [hv] at h1;cases h1
 refine ⟨hn _ _ z.whr wa,⟨_,ha,(zt.goes g _ _ h2).append (.one (Rep.goes g _ _ hd))⟩,fun x hx=>?_,z.ch.mv g (fun x hx o h=>hn _ _ h (out x hx x.a (.inl rfl)).1),z.nd,z.new⟩
 rcases Qb.mp hx with rfl | hx'
 ·exact ⟨hn _ _ (z.lv x hx).1 (Ne.symm aq),fun p hp=>hn _ _ ((z.lv x hx).2 p hp) fun e=>ap (e▸hp)⟩
 ·exact ⟨hn _ _ (z.lv x hx).1 (out x hx' _ (.inr (.inl rfl))).1,fun p hp=>hn _ _ ((z.lv x hx).2 p hp) (out x hx' p (.inr (.inr hp))).1⟩
theorem Zq.push (z:Zq K Ud Ue H w l ls top fs) (gr:zX Ud H) (hb0:∀ x,Ue x->∃ o,H x=some o) {vs:List V} (hv:H l.a=some (.lst vs)) {b q c:Addr} {x:Str} {cs:List Addr} (hnd:(c::q::cs).Nodup) (fr:∀ e∈c::q::cs,H e=none)
  (ha:H' l.a=some (.lst (vs++[.ref b]))) (hb:H' b=some (.tup (.str x::(c::cs).map V.ref))) (hq:H' q=some (.lst ((c::cs).map V.ref))) (hc:∀ e∈c::cs,H' e=some (.lst [])) (hw:H' w=some (.lst (((l::ls).reverse).map (fun x=>V.ref x.q)++[.ref q]))) (hn:∀ e o,H e=some o->e≠l.a->e≠w->H' e=some o) :
  Zq K Ud Ue H' w ⟨c,q,cs⟩ (l::ls) [] (⟨top,x,[],cs.map fun _=>.lst []⟩::fs)/\Goes H H' (Bq Ue w (l::ls)) (Bq Ue w (⟨c,q,cs⟩::l::ls)):=by
 obtain ⟨wa,wq,aq,wp,ap,qp,pn,_,out⟩:=JT z.nd
 have mem':∀ e,e∈Yi w (⟨c,q,cs⟩::l::ls)↔e∈Yi w (l::ls)\/e∈c::q::cs:=fun e=>by
  rw [Zj,Zj]
  constructor
  ·rintro (h | ⟨v,hv,h⟩)
   ·exact .inl (.inl h)
   ·rcases Qb.mp hv with rfl | hv
    ·right;simp only [Qb];exact h
    ·exact .inl (.inr ⟨v,hv,h⟩)
  ·rintro ((h | ⟨v,hv,h⟩) | h)
   ·exact .inl h
   ·exact .inr ⟨v,Qd _ hv,h⟩
   ·exact .inr ⟨_,Qt,by simpa only [Qb] using h⟩
 have old:∀ e∈Yi w (l::ls),e∉c::q::cs:=fun e he hm=>by
  obtain ⟨xs,h⟩:=z.lists e he
  rw [fr e hm] at h;cases h
 have g:Goes H H' (Bq Ue w (l::ls)) (Bq Ue w (⟨c,q,cs⟩::l::ls)):=jL (O:=fun e=>e=l.a\/e=w) (fun e o h n=>hn e o h (fun z=>n (.inl z)) fun z=>n (.inr z)) (fun e he=>by
   rcases he with rfl | rfl
   ·exact .inr ⟨_,hv⟩
   ·exact .inr ⟨_,z.whr⟩) (fun e xs he _=>.inr (by
   rcases he with rfl | rfl
   ·exact Zj.mpr (.inr ⟨l,by simp,.inl rfl⟩)
   ·exact Zj.mpr (.inl rfl))) (fun e he=>by
   rcases he with he | he
   ·exact .inl (.inl he)
   ·rcases (mem' e).mp he with he | he
    ·exact .inl (.inr he)
    ·exact .inr (fr e he))
 obtain ⟨vs',h1,h2⟩:=z.top
 rw [hv] at h1;cases h1
 refine ⟨⟨by rw [hw];simp,⟨[],hc c (by simp),.nil⟩,fun v hv'=>?_,⟨⟨vs,[],b,ha,zt.goes g _ _ h2,hb,.nil,rfl⟩,z.ch.mv g fun v hv' o h=>hn _ _ h (out v hv' v.a (.inl rfl)).1 (out v hv' v.a (.inl rfl)).2.2.2⟩,?_,fun e he=>?_⟩,g⟩
 ·rcases Qb.mp hv' with rfl | hv'
  ·exact ⟨hq,fun p hp=>hc p (Qd _ hp)⟩
  ·have hk:=z.lv v hv'
   rcases Qb.mp hv' with rfl | hv2
   ·exact ⟨hn _ _ hk.1 (Ne.symm aq) (Ne.symm wq),fun p hp=>hn _ _ (hk.2 p hp) (fun e=>ap (e▸hp)) fun e=>wp (e▸hp)⟩
   ·exact ⟨hn _ _ hk.1 (out v hv2 _ (.inr (.inl rfl))).1 (out v hv2 _ (.inr (.inl rfl))).2.2.2,fun p hp=>hn _ _ (hk.2 p hp) (out v hv2 p (.inr (.inr hp))).1 (out v hv2 p (.inr (.inr hp))).2.2.2⟩
 ·have nd:=z.nd
  unfold Yi at nd ⊢
  have nd2:=Qr.mp nd
  rw [List.flatMap_cons]
  refine Qr.mpr ⟨fun e=>?_,Pr.mpr ⟨hnd,nd2.2,fun e1 he1 e2 he2 ee=>?_⟩⟩
  ·rcases QI.mp e with e | e
   ·exact old w (Zj.mpr (.inl rfl)) e
   ·exact nd2.1 e
  ·subst ee
   exact old e1 (Qd _ he2) he1
 ·rcases (mem' e).mp he with he | he
  ·exact z.new e he
  ·exact ⟨gr.free (fr e he),fun q=>by obtain ⟨o,h⟩:=hb0 e q;rw [fr e he] at h;cases h⟩
theorem Zq.next {f:Fr} {p:Addr} {ps:List Addr} (z:Zq K Ud Ue H w l ls top (f::fs)) (hps:l.ps=p::ps) (hq:H' l.q=some (.lst ((p::ps).map V.ref))) (hn:∀ e o,H e=some o->e≠l.q->H' e=some o) :
  Zq K Ud Ue H' w ⟨p,l.q,ps⟩ ls [] (⟨f.done,f.x,f.pre++[.lst top],ps.map fun _=>.lst []⟩::fs)/\Goes H H' (Bq Ue w (l::ls)) (Bq Ue w (⟨p,l.q,ps⟩::ls)):=by
 obtain ⟨wa,wq,aq,wp,ap,qp,pn,ndl,out⟩:=JT z.nd
 have mem':∀ e,e∈Yi w (⟨p,l.q,ps⟩::ls)->e∈Yi w (l::ls)/\e≠l.a:=fun e he=>by
  rcases Zj.mp he with rfl | ⟨v,hv,h⟩
  ·exact ⟨Zj.mpr (.inl rfl),wa⟩
  ·rcases Qb.mp hv with rfl | hv
   ·rcases h with h | h | h
    ·simp only at h;rw [h];exact ⟨Zj.mpr (.inr ⟨l,by simp,.inr (.inr (by rw [hps];simp))⟩),fun q=>ap (by rw [hps,<- q];simp)⟩
    ·simp only at h;rw [h];exact ⟨Zj.mpr (.inr ⟨l,by simp,.inr (.inl rfl)⟩),Ne.symm aq⟩
    ·simp only at h;exact ⟨Zj.mpr (.inr ⟨l,by simp,.inr (.inr (by rw [hps];simp [h]))⟩),fun q=>ap (by rw [hps,<- q];simp [h])⟩
   ·exact ⟨Zj.mpr (.inr ⟨v,Qd _ hv,h⟩),(out v hv e h).1⟩
 have g:Goes H H' (Bq Ue w (l::ls)) (Bq Ue w (⟨p,l.q,ps⟩::ls)):=jL (O:=fun e=>e=l.q) hn (fun e he=>by rw [he];exact .inr ⟨_,(z.lv l (by simp)).1⟩) (fun e xs he _=>.inr (by rw [he];exact Zj.mpr (.inr ⟨l,by simp,.inr (.inl rfl)⟩))) (fun e he=>by
  rcases he with he | he
  ·exact .inl (.inl he)
  ·exact .inl (.inr (mem' e he).1))
 have lp:=(z.lv l (by simp)).2
 have pq:∀ e∈l.ps,e≠l.q:=fun e he q=>qp (q▸he)
 obtain ⟨us,t1,t2⟩:=z.top
 refine ⟨?_,g⟩
 cases ls with
 | nil=>exact absurd z.ch.len (by simp)
 | cons l' ls =>
  obtain ⟨⟨vs,pv,b,q1,q2,q3,q4,q5⟩,r⟩:=z.ch
  refine ⟨?_,⟨[],hn _ _ (lp p (by rw [hps];simp)) (pq p (by rw [hps];simp)),.nil⟩,fun v hv=>?_,⟨⟨vs,pv++[.ref l.a],b,hn _ _ q1 (out l' (by simp) _ (.inl rfl)).2.1,zt.goes g _ _ q2,?_,(zt.goes g _ _ q4).append (.one ?_),rfl⟩,r.mv g fun v hv o h=>hn _ _ h (out v (Qd _ hv) _ (.inl rfl)).2.1⟩,?_,fun e he=>z.new e (mem' e he).1⟩
  ·rw [hn _ _ z.whr wq];simp
  ·rcases Qb.mp hv with rfl | hv
   ·exact ⟨hq,fun e he=>hn _ _ (lp e (by rw [hps];simp [he])) (pq e (by rw [hps];simp [he]))⟩
   ·have hk:=z.lv v (Qd _ hv)
    exact ⟨hn _ _ hk.1 (out v hv _ (.inr (.inl rfl))).2.1,fun e he=>hn _ _ (hk.2 e he) (out v hv e (.inr (.inr he))).2.1⟩
  ·rw [g.tkt _ _ q3,hps];simp
  ·simp only [Rep]
   refine ⟨l.a,us,rfl,⟨.inl (hn _ _ t1 aq),fun q=>?_⟩,zt.goes g _ _ t2⟩
   rcases q with q | q
   ·exact (z.new l.a (Zj.mpr (.inr ⟨l,by simp,.inl rfl⟩))).2 q
   ·exact (mem' _ q).2 rfl
  ·have pn':(p::ps).Nodup:=hps▸pn
   have nd:=ndl
   unfold Yi at nd ⊢
   have nd2:=Qr.mp nd
   rw [List.flatMap_cons]
   refine Qr.mpr ⟨fun e=>?_,Pr.mpr ⟨?_,nd2.2,fun e1 he1 e2 he2 ee=>?_⟩⟩
   ·rcases QI.mp e with e | e
    ·simp only [Lv.own,Qb] at e
     rcases e with e | e | e
     ·exact wp (by rw [hps,e];simp)
     ·exact wq e
     ·exact wp (by rw [hps];simp [e])
    ·exact nd2.1 e
   ·simp only [Lv.own]
    have pp:=Qr.mp pn'
    refine Qr.mpr ⟨fun e=>?_,Qr.mpr ⟨fun e=>qp (by rw [hps];simp [e]),pp.2⟩⟩
    rcases Qb.mp e with e | e
    ·exact qp (by rw [hps,<- e];simp)
    ·exact pp.1 e
   ·subst ee
    obtain ⟨v,hv,hx⟩:=List.mem_flatMap.mp he2
    simp only [Lv.own,Qb] at hx he1
    have ho:=out v hv e1 hx
    rcases he1 with h | h | h
    ·exact ho.2.2.1 (by rw [hps,h];simp)
    ·exact ho.2.1 h
    ·exact ho.2.2.1 (by rw [hps];simp [h])
theorem Zq.out {f:Fr} {l':Lv} (z:Zq K Ud Ue H w l (l'::ls) top (f::fs)) (hps:l.ps=[]) (hw:H' w=some (.lst (((l'::ls).reverse).map fun x=>V.ref x.q))) (hn:∀ e o,H e=some o->e≠l.q->e≠w->H' e=some o) :
  Zq K Ud Ue H' w l' ls (shut f top) fs/\Goes H H' (Bq Ue w (l::l'::ls)) (Bq Ue w (l'::ls)):=by
 obtain ⟨wa,wq,aq,wp,ap,qp,pn,ndl,out⟩:=JT z.nd
 have mem':∀ e,e∈Yi w (l'::ls)->e∈Yi w (l::l'::ls)/\e≠l.a:=fun e he=>by
  rcases Zj.mp he with rfl | ⟨v,hv,h⟩
  ·exact ⟨Zj.mpr (.inl rfl),wa⟩
  ·exact ⟨Zj.mpr (.inr ⟨v,Qd _ hv,h⟩),(out v hv e h).1⟩
 have g:Goes H H' (Bq Ue w (l::l'::ls)) (Bq Ue w (l'::ls)):=jL (O:=fun e=>e=l.q\/e=w) (fun e o h n=>hn e o h (fun z=>n (.inl z)) fun z=>n (.inr z)) (fun e he=>by
   rcases he with rfl | rfl
   ·exact .inr ⟨_,(z.lv l (by simp)).1⟩
   ·exact .inr ⟨_,z.whr⟩) (fun e xs he _=>.inr (by
   rcases he with rfl | rfl
   ·exact Zj.mpr (.inr ⟨l,by simp,.inr (.inl rfl)⟩)
   ·exact Zj.mpr (.inl rfl))) (fun e he=>by
   rcases he with he | he
   ·exact .inl (.inl he)
   ·exact .inl (.inr (mem' e he).1))
 obtain ⟨us,t1,t2⟩:=z.top
 obtain ⟨⟨vs,pv,b,q1,q2,q3,q4,q5⟩,r⟩:=z.ch
 have keep:∀ v∈l'::ls,∀ x,(x=v.a\/x=v.q\/x∈v.ps)->∀ o,H x=some o->H' x=some o:=fun v hv x hx o h=>hn _ _ h (out v hv x hx).2.1 (out v hv x hx).2.2.2
 refine ⟨⟨hw,⟨vs++[.ref b],keep l' (by simp) _ (.inl rfl) _ q1,?_⟩,fun v hv=>?_,r.mv g fun v hv o h=>keep v (Qd _ hv) _ (.inl rfl) o h,ndl,fun e he=>z.new e (mem' e he).1⟩,g⟩
 ·refine (zt.goes g _ _ q2).append (.one ?_)
  rw [hps] at q3 q5
  simp only [Rep]
  refine ⟨b,_,rfl,.inl (.inl (g.tkt _ _ q3)),.cons (by simp [Rep]) ((zt.goes g _ _ q4).append ?_)⟩
  rw [q5]
  refine .one ?_
  simp only [Rep]
  refine ⟨l.a,us,rfl,⟨.inl (hn _ _ t1 aq (Ne.symm wa)),fun q=>?_⟩,zt.goes g _ _ t2⟩
  rcases q with q | q
  ·exact (z.new l.a (Zj.mpr (.inr ⟨l,by simp,.inl rfl⟩))).2 q
  ·exact (mem' _ q).2 rfl
 ·have hk:=z.lv v (Qd _ hv)
  exact ⟨keep v hv _ (.inr (.inl rfl)) _ hk.1,fun p hp=>keep v hv p (.inr (.inr hp)) _ (hk.2 p hp)⟩
theorem Cq.root:∀ {fs:List Fr} {l:Lv} {ls:List Lv} {top:List D},(∀ v∈l::ls,(∀ x,(x=v.a\/x∈v.ps)->¬ Ue x)/\∀ p∈v.ps,H p=some (.lst []))->Rep K H Ue (.lst top) (.ref l.a)->Cq K H Ue fs (l::ls)->Rep K H Ue (.lst (ZI top fs)) (.ref ((l::ls).getLast (by simp)).a)
 | [],l,[],top,_,h,_=>h
 | f::fs,l,l'::ls,top,hn,h,⟨⟨vs,pv,b,q1,q2,q3,q4,q5⟩,r⟩=>by
  have e:(l::l'::ls).getLast (by simp)=(l'::ls).getLast (by simp):=by rw [Pu (by simp)]
  rw [e,ZI]
  refine Cq.root (fun x hx=>hn x (Qd _ hx)) ?_ r
  simp only [Rep]
  refine ⟨l'.a,_,rfl,⟨.inl q1,(hn l' (by simp)).1 _ (.inl rfl)⟩,q2.append (.one ?_)⟩
  simp only [Rep]
  refine ⟨b,_,rfl,.inl (.inl q3),.cons (by simp [Rep]) (q4.append ?_)⟩
  rw [q5]
  exact .cons h (JS fun c hc=>⟨(hn l (by simp)).2 c hc,(hn l (by simp)).1 c (.inr hc)⟩)
 | [],_,_::_,_,_,_,h=>by cases h
 | _::_,_,[],_,_,_,h=>by cases h
theorem Zq.root (z:Zq K Ud Ue H w l ls top fs):Rep K H Ue (.lst (ZI top fs)) (.ref ((l::ls).getLast (by simp)).a):=by
 have g:Goes H H (Bq Ue w (l::ls)) Ue:=.less (fun e h=>.inl h) (.refl H)
 obtain ⟨vs,h1,h2⟩:=z.top
 refine Cq.root (fun v hv=>⟨fun x hx=>(z.new x (Zj.mpr (.inr ⟨v,hv,hx.elim .inl fun h=>.inr (.inr h)⟩))).2,(z.lv v hv).2⟩) ?_ (z.ch.mv g fun _ _ _ h=>h)
 simp only [Rep]
 exact ⟨l.a,vs,rfl,⟨.inl h1,(z.new l.a (Zj.mpr (.inr ⟨l,by simp,.inl rfl⟩))).2⟩,zt.goes g _ _ h2⟩
end
abbrev tQ (K:Frag):TE:=tOp (rIxL K) (ZB 6) (tUn (rU fun i=>.int (-i)) (tC (.int 1)))
abbrev tPopB (K:Frag):TS:=YM (YW (tBM K "list" rPopAt (tQ K) (z6 (tC (.int 0)) Z0))) (tIfS (jf (tOp (rEqD K false) (tQ K) (tLst Z0))) (YW (tBM0 K "list" rPop (ZB 6))) WK)
theorem lay_emps:∀ ps:List Addr,PyData.canLayAll0 (yx (ps.map fun _=>D.lst []))=true/\PyData.depthAll (yx (ps.map fun _=>D.lst []))<=1
 | []=>⟨by rw [Ps,yx,PyData.canLayAll0],by rw [Ps,yx,PyData.depthAll];omega⟩
 | p::ps=>by
  obtain ⟨h1,h2⟩:=lay_emps ps
  rw [Qq,yx,PyData.canLayAll0,PyData.depthAll,h1,yd,yx,PyData.canLay0,PyData.canLayAll0,PyData.depth,PyData.depthAll]
  exact ⟨rfl,by omega⟩
theorem py_emps (ps:List Addr):jF (.lst (ps.map fun _=>D.lst []))=true:=by
 obtain ⟨h1,h2⟩:=lay_emps ps
 unfold jF SeqAt.shaped
 rw [yd,PyData.canLay0,PyData.depth,h1,decide_eq_true (by omega)];rfl
theorem eq_emps (ps:List Addr):eqD (.lst (ps.map fun _=>D.lst [])) (.lst [])=decide (ps=[]):=by
 unfold eqD
 cases ps with
 | nil=>rw [Ps,yd,yx,PyData.eqv];simp [PyData.eqvAll]
 | cons p ps=>rw [Qq,yd,yx,yd,yx,PyData.eqv];simp [PyData.eqvAll]
section
variable {K:Frag} {Ud H:Hp} {Ue:Addr->Prop} {w:Addr} {l:Lv} {ls:List Lv} {top:List D} {f:Fr} {fs:List Fr} {σ:St} {E:Ends}
theorem Zq.whr' (z:Zq K Ud Ue H w l ls top fs):H w=some (.lst ((ls.reverse.map fun x=>V.ref x.q)++[.ref l.q])):=by
 rw [z.whr];simp
theorem pop15 (z:Zq K Ud Ue H w l ls top (f::fs)) (g6:σ[6]?=some (some (.ref w)))
  (k1:∀ (p:Addr) (ps:List Addr) (H':Hp),l.ps=p::ps->Zq K Ud Ue H' w ⟨p,l.q,ps⟩ ls [] (⟨f.done,f.x,f.pre++[.lst top],ps.map fun _=>.lst []⟩::fs)->Goes H H' (Bq Ue w (l::ls)) (Bq Ue w (⟨p,l.q,ps⟩::ls))->(∀ e o,H e=some o->e∉Yi w (l::ls)->H' e=some o)->E.nx σ H')
  (k2:∀ (l':Lv) (ls':List Lv) (H':Hp),ls=l'::ls'->l.ps=[]->Zq K Ud Ue H' w l' ls' (shut f top) fs->Goes H H' (Bq Ue w (l::ls)) (Bq Ue w ls)->(∀ e o,H e=some o->e∉Yi w (l::ls)->H' e=some o)->E.nx σ H'):tPopB K E σ H:=by
 obtain ⟨wa,wq,aq,wp,ap,qp,pn,ndl,out⟩:=JT z.nd
 have hw:=z.whr'
 obtain ⟨hq,hp⟩:=z.lv l (by simp)
 have oq:l.q∈Yi w (l::ls):=Zj.mpr (.inr ⟨l,by simp,.inr (.inl rfl)⟩)
 have ow:w∈Yi w (l::ls):=Zj.mpr (.inl rfl)
 refine ⟨.ref w,g6,1,rfl,w,_,-1,.ref l.q,rfl,rfl,.inl (.inl hw),GO,.inl ⟨rfl,_,.inl (.inl hq)⟩,l.q,(l.a::l.ps).map V.ref,0,0,.ref l.a,rfl,rfl,hq,by decide,by decide,?_,rfl,?_⟩
 ·rw [Qj,Qe];unfold seqIndex?;simp
 have e1:((l.a::l.ps).map V.ref).eraseIdx 0=l.ps.map V.ref:=rfl
 rw [e1]
 have w1:upd H l.q (.lst (l.ps.map V.ref)) w=some (.lst ((ls.reverse.map fun x=>V.ref x.q)++[.ref l.q])):=by rw [zx wq];exact hw
 have q1:upd H l.q (.lst (l.ps.map V.ref)) l.q=some (.lst (l.ps.map V.ref)):=zw
 have n1:∀ e o,H e=some o->e≠l.q->upd H l.q (.lst (l.ps.map V.ref)) e=some o:=fun e o h n=>by rw [zx n];exact h
 generalize upd H l.q (.lst (l.ps.map V.ref))=H1 at *
 refine ⟨.ref w,g6,1,rfl,w,_,-1,.ref l.q,rfl,rfl,.inl (.inl w1),GO,by show 0<=sizeLine;decide,fun e he=>?_⟩
 have s2:zX H1 (upd H1 e (.lst [])):=zz he
 have e2:upd H1 e (.lst []) e=some (.lst []):=zw
 generalize upd H1 e (.lst [])=H2 at *
 have n2:∀ e o,H e=some o->e≠l.q->H2 e=some o:=fun e o h n=>s2 _ _ (n1 e o h n)
 refine ⟨fun _=>False,.lst (l.ps.map fun _=>.lst []),.lst [],?_,?_,py_emps _,by decide,decide (l.ps=[]),?_,?_⟩
 ·simp only [Rep]
  exact ⟨l.q,_,rfl,⟨.inl (s2 _ _ q1),fun z=>z⟩,JS fun c hc=>⟨n2 _ _ (hp c hc) fun z=>qp (z▸hc),fun z=>z⟩⟩
 ·simp only [Rep]
  exact ⟨e,[],rfl,⟨.inl e2,fun z=>z⟩,.nil⟩
 ·rw [if_neg Qg,eq_emps]
 ·cases hps:l.ps with
  | nil =>
   rw [decide_eq_true rfl]
   refine ifT ?_
   cases ls with
   | nil=>exact absurd z.ch.len (by simp)
   | cons l' ls' =>
    have w2:=s2 _ _ w1
    refine ⟨.ref w,g6,.inl ⟨rfl,_,.inl (.inl w2)⟩,w,_,.ref l.q,rfl,rfl,w2,by simp,?_⟩
    rw [List.dropLast_concat]
    obtain ⟨zo,go⟩:=z.out (H':=upd H2 w (.lst ((l'::ls').reverse.map fun x=>V.ref x.q))) hps zw (fun e o h n n'=>by rw [zx n'];exact n2 e o h n)
    exact k2 l' ls' _ rfl hps zo go fun e o h n=>by
     rw [zx (show e≠w from fun z=>n (by rw [z];exact ow))]
     exact n2 e o h fun z=>n (by rw [z];exact oq)
  | cons p ps =>
   rw [decide_eq_false (by simp)]
   refine ifF ?_
   obtain ⟨zn,gn⟩:=z.next (H':=H2) hps (by rw [<- hps];exact s2 _ _ q1) n2
   exact k1 p ps _ hps zn gn fun e o h n=>n2 e o h fun z=>n (by rw [z];exact oq)
end
theorem cutV_from {xs:List V} (k:Nat):GI xs (some (k:Int)) none=xs.drop k:=by
 unfold GI
 rw [HT.sIx_nat,HT.sIx_none]
 by_cases h2:k<=xs.length
 ·rw [Pj h2,PV (by simp)]
 ·rw [PR (by omega),List.drop_eq_nil_of_le (by omega:xs.length<=k),Pd];simp
abbrev tRest (K:Frag) (n:Nat):TE:=WN 1 (iTup K (tSl (rSlT K) (ZB 9) (tPart (tC (.int 1))) tNoPart)) (ZX n) tYes (ZB n)
section
variable {K:Frag} {H:Hp} {σ:St}
theorem comp_rest {n:Nat} {b:Addr} {x:V} {vs:List V} {Q:VK} (hσ:σ.length=n) (g9:σ[9]?=some (some (.ref b))) (hb:SqT K H b (x::vs)) (hl:vs.length<=1000)
  (q:∀ (t e:Addr) (H':Hp),H t=none->e≠t->H e=none->H' e=some (.lst vs)->zX H H'->Q (.ref e) H'):tRest K n σ H Q:=by
 refine ⟨.ref b,g9,1,rfl,b,x::vs,rfl,hb,?_,fun t ht=>?_⟩
 ·have:=HT.sIx_nat (x::vs).length 0 1
  rintro ⟨z,-⟩
  rw [show ((1:Int))=((1:Nat):Int) from rfl,HT.sIx_nat] at z
  simp only [Qe] at z
  omega
 have ec:GI (x::vs) (some 1) none=vs:=cutV_from 1
 rw [ec]
 have s1:zX H (upd H t (.tup vs)):=zz ht
 have t1:upd H t (.tup vs) t=some (.tup vs):=zw
 have f1:∀ e,upd H t (.tup vs) e=none->e≠t/\H e=none:=fun e he=>by
  have h1:e≠t:=fun z=>by rw [z,zw] at he;cases he
  rw [zx h1] at he
  exact ⟨h1,he⟩
 generalize upd H t (.tup vs)=H1 at *
 refine ⟨t,rfl,⟨vs,.inl (.inl t1)⟩,fun e he=>?_⟩
 obtain ⟨et,hen⟩:=f1 e he
 refine ⟨fun i m ys σ' H'=>ys=vs.take i/\m=vs.length - i/\i<=vs.length/\H' e=some (.lst ys)/\(∀ a o,H1 a=some o->H' a=some o)/\∃ z,σ'=σ++[z],⟨vs.length,rfl,by simp,Q3 _,zw,fun a o h=>?_,none,rfl⟩,?_⟩
 ·rw [zx (fun z=>by rw [z,he] at h;cases h)];exact h
 rintro i m ys σ' H' ⟨rfl,rfl,hi,he',hs,z,rfl⟩
 refine ⟨he',?_⟩
 have tt:=hs _ _ t1
 by_cases hlt:i<vs.length
 ·right
  refine ⟨⟨vs,vs[i],.inl (.inl tt),by simp [hlt]⟩,fun v H2 y=>?_⟩
  obtain ⟨rfl,hy⟩:=y
  have hv:=hy vs (.inl (.inl tt))
  rw [Qy hlt] at hv
  cases hv
  unfold ZX tYes
  dsimp only
  rw [if_pos rfl]
  have e1:(σ++[z]).set n (some vs[i])=σ++[some vs[i]]:=by
   rw [<- hσ,List.set_append_right _ _ (by omega)];simp
  refine ⟨vs[i],?_,he',by rw [Q5];exact Q7 (Nat.min_le_right _ _) (jg (by omega)),vs.length - (i+1),by omega,?_,rfl,hlt,zw,fun a o h=>?_,some vs[i],e1⟩
  ·rw [e1,QT (by omega),<- hσ];simp
  ·rw [List.take_succ,Qy hlt];rfl
  ·rw [zx (fun z=>by rw [z,he] at h;cases h)];exact hs a o h
 ·left
  have hi':i=vs.length:=by omega
  subst hi'
  rw [List.take_length] at he'
  exact ⟨⟨vs,.inl (.inl tt),by simp⟩,q t e H' ht et hen he' fun a o h=>hs _ _ (s1 _ _ h)⟩
end
def JB:List V:=[.str "either",.str "loop"]
def addQ (deep:Int) (d:D) (top:List D) (fs:List Fr):Option (List D×List Fr):=match d with
 | .tup (.str x::ps)=>if top.length<sizeLine/\fs.length<1000/\ps.length<=1000 then
   if inV (.str x) JB=true/\((fs.length+1:Nat):Int)<deep then
    (if 0<ps.length/\ps.all (fun d=>match d with | .lst []=>true | _=>false)=true then some ([],⟨top,x,[],ps.tail⟩::fs) else none)
   else some (top++[d],fs)
  else none
 | _=>none
abbrev tAdd15 (K:Frag):TS:=YW (tBM K "list" Yx (tOp (rIxL K) (tQ K) (tC (.int 0))) (z6 (ZB 9) Z0))
abbrev tT15 (K:Frag):TT:=tAnd (jf (tOp (rIn K false) (tOp (rIxT K) (ZB 9) (tC (.int 0))) (gJ (z6 (tC (.str "either")) (z6 (tC (.str "loop")) Z0))))) (jf (tOp (rI0 fun i j=>.bl (decide (i<j))) (tCB (lenR K) (z6 (ZB 6) Z0)) (ZB 3)))
abbrev tPush15 (K:Frag) (n:Nat):TS:=YW (tBM K "list" Yx (ZB 6) (z6 (tRest K n) Z0))
abbrev tJoin15 (K:Frag) (n:Nat):TS:=YM (tAdd15 K) (tIfS (tT15 K) (tPush15 K n) WK)
section
variable {K:Frag} {Ud H2 H:Hp} {Ue:Addr->Prop} {w:Addr} {l:Lv} {ls:List Lv} {top top':List D} {fs fs':List Fr} {σ:St} {E:Ends}
theorem join15 {n:Nat} {b:Addr} {x:Str} {ps:List D} {tr:List V} {deep:Int} (z:Zq K Ud Ue H2 w l ls top fs) (gr:zX Ud H2) (hb0:∀ x,Ue x->∃ o,H2 x=some o) (s3:zX H2 H) (hσ:σ.length=n) (g6:σ[6]?=some (some (.ref w))) (g9:σ[9]?=some (some (.ref b))) (g3:σ[3]?=some (some (.int deep)))
  (htup:SqT K H b (.str x::tr)) (hps:zt K H (Bq Ue w (l::ls)) ps tr) (alt:YL ps=true\/∃ cs:List Addr,ps=cs.map (fun _=>D.lst [])/\tr=cs.map V.ref/\cs.Nodup/\(∀ e∈cs,H2 e=none/\H e=some (.lst []))/\H b=some (.tup (.str x::cs.map V.ref)))
  (hs:addQ deep (.tup (.str x::ps)) top fs=some (top',fs'))
  (k:∀ (l':Lv) (ls':List Lv) (H':Hp),Zq K Ud Ue H' w l' ls' top' fs'->Goes H2 H' (Bq Ue w (l::ls)) (Bq Ue w (l'::ls'))->(∀ e o,H2 e=some o->e∉Yi w (l::ls)->H' e=some o)->(l'::ls').getLast (by simp)=(l::ls).getLast (by simp)->E.nx σ H'):tJoin15 K n E σ H:=by
 unfold addQ at hs
 simp only at hs
 split at hs
 case isFalse=>cases hs
 rename_i hsz
 obtain ⟨wa,wq,aq,wp,ap,qp,pn,ndl,out⟩:=JT z.nd
 have z3:=z.up s3
 have hw:=z3.whr'
 obtain ⟨hq,hp⟩:=z3.lv l (by simp)
 obtain ⟨vs,hv2,hvs⟩:=z.top
 have hv:=s3 _ _ hv2
 have oa:l.a∈Yi w (l::ls):=Zj.mpr (.inr ⟨l,by simp,.inl rfl⟩)
 have ow:w∈Yi w (l::ls):=Zj.mpr (.inl rfl)
 have hvl:vs.length<sizeLine:=by rw [hvs.length];exact hsz.1
 refine ⟨.ref w,g6,1,rfl,w,_,-1,.ref l.q,rfl,rfl,.inl (.inl hw),GO,l.q,(l.a::l.ps).map V.ref,0,.ref l.a,rfl,rfl,.inl (.inl hq),zD (j:=0) rfl,.inl ⟨rfl,vs,.inl (.inl hv)⟩,.ref b,g9,l.a,vs,.ref b,rfl,rfl,hv,hvl,?_⟩
 have gadd:Goes H (upd H l.a (.lst (vs++[.ref b]))) (Bq Ue w (l::ls)) (Bq Ue w (l::ls)):=.write (.inr oa) hv trivial
 have tup4:SqT K (upd H l.a (.lst (vs++[.ref b]))) b (.str x::tr):=by
  rcases htup with q | q
  ·exact .inl (gadd.tup _ _ q)
  ·exact .inr q
 have a4:upd H l.a (.lst (vs++[.ref b])) l.a=some (.lst (vs++[.ref b])):=zw
 have n4:∀ e o,H e=some o->e≠l.a->upd H l.a (.lst (vs++[.ref b])) e=some o:=fun e o h n=>by rw [zx n];exact h
 generalize upd H l.a (.lst (vs++[.ref b]))=H4 at *
 have w4:=n4 _ _ hw wa
 refine ⟨.ref b,g9,b,_,0,.str x,rfl,rfl,tup4,zD (j:=0) rfl,by show 2<=sizeLine;decide,fun e he=>⟨e,JB,rfl,.inr (.inl (.inl zw)),rfl,rfl,inV (.str x) JB,rfl,?_⟩⟩
 have s5:zX H4 (upd H4 e (.tup [.str "either",.str "loop"])):=zz he
 generalize upd H4 e (.tup [V.str "either",V.str "loop"])=H5 at *
 have w5:=s5 _ _ w4
 have a5:=s5 _ _ a4
 have n5:∀ e o,H e=some o->e≠l.a->H5 e=some o:=fun e o h n=>s5 _ _ (n4 e o h n)
 have tup5:SqT K H5 b (.str x::tr):=SqT.same s5 tup4
 have wl:(((ls.reverse.map fun x=>V.ref x.q)++[.ref l.q]):List V).length=fs.length+1:=by
  have:=z.ch.len
  simp only [Qe] at this
  rw [Qi,Qj,List.length_reverse];simp only [Qe,Qz];omega
 have plain:fs'=fs/\top'=top++[.tup (.str x::ps)]->E.nx σ H5:=by
  rintro ⟨rfl,rfl⟩
  have r':Rep K H (Bq Ue w (l::ls)) (.tup (.str x::ps)) (.ref b):=by
   simp only [Rep]
   exact ⟨b,_,rfl,htup,.cons (by simp [Rep]) hps⟩
  refine k l ls H5 (z3.add hv r' a5 n5) (jL (O:=fun e=>e=l.a) (fun e o h n=>n5 e o (s3 _ _ h) n) (fun e he=>by rw [he];exact .inr ⟨_,hv2⟩) (fun e xs he _=>.inr (by rw [he];exact oa)) fun e he=>.inl he) (fun e o h n=>n5 e o (s3 _ _ h) fun q=>n (by rw [q];exact oa)) rfl
 by_cases hin:inV (.str x) JB=true
 ·rw [hin]
  refine ifT ?_
  refine ⟨.ref w,g6,w,_,rfl,.inl (.inl (.inl w5)),.int deep,g3,_,deep,rfl,rfl,decide (((((ls.reverse.map fun x=>V.ref x.q)++[.ref l.q]):List V).length:Int)<deep),rfl,?_⟩
  by_cases hd:((fs.length+1:Nat):Int)<deep
  ·rw [wl,decide_eq_true hd]
   refine ifT ?_
   rw [if_pos ⟨hin,hd⟩] at hs
   split at hs
   case isFalse=>cases hs
   rename_i hop
   cases hs
   have pe:=all_emp hop.2
   rcases alt with hfl | ⟨cs,rfl,rfl,hnd,hcs,hb'⟩
   ·exfalso
    cases ps with
    | nil=>simp at hop
    | cons q ps' =>
     have:=pe q (by simp)
     subst this
     simp [D.flat,YL] at hfl
   ·cases cs with
    | nil=>simp at hop
    | cons c cs =>
     refine ⟨.ref w,g6,.inl ⟨rfl,_,.inl (.inl w5)⟩,?_⟩
     show tRest K n σ H5 (fun x H1=>Z0 σ H1 fun xs H2=>Yx (.ref w) (x::xs) H2 fun _ H1=>E.nx σ H1)
     refine comp_rest hσ g9 tup5 (by have:=hsz.2.2;simpa using this) fun t e' H6 ht net he' hq' s6=>?_
     refine ⟨w,_,.ref e',rfl,rfl,s6 _ _ w5,by rw [wl];exact jg (by omega),?_⟩
     have ea:e'≠l.a:=fun q=>by rw [q,a5] at he';cases he'
     have ew:e'≠w:=fun q=>by rw [q,w5] at he';cases he'
     have h2n:∀ y,H5 y=none->H2 y=none:=fun y hy=>by
      cases q:H2 y with
      | none=>rfl
      | some o =>
       by_cases e:y=l.a
       ·rw [e,a5] at hy;cases hy
       ·rw [n5 y o (s3 _ _ q) e] at hy;cases hy
     have ec:∀ y∈c::cs,y≠l.a/\y≠w:=fun y hy=>by
      refine ⟨fun q=>?_,fun q=>?_⟩
      ·have:=(hcs y hy).1;rw [q,hv2] at this;cases this
      ·have:=(hcs y hy).1;rw [q,z.whr] at this;cases this
     have c5:∀ y∈c::cs,H5 y=some (.lst []):=fun y hy=>n5 _ _ (hcs y hy).2 (ec y hy).1
     have eq:∀ y∈c::cs,y≠e':=fun y hy q=>by have:=c5 y hy;rw [q,he'] at this;cases this
     have bl:b≠l.a:=fun q=>by rw [q,hv] at hb';cases hb'
     have bw:b≠w:=fun q=>by rw [q,hw] at hb';cases hb'
     have hn6:∀ y o,H2 y=some o->y≠l.a->y≠w->upd H6 w (.lst (((ls.reverse.map fun x=>V.ref x.q)++[.ref l.q])++[.ref e'])) y=some o:=fun y o h n1 n2=>by rw [zx n2];exact s6 _ _ (n5 _ _ (s3 _ _ h) n1)
     obtain ⟨zp,gp⟩:=z.push (H':=upd H6 w (.lst (((ls.reverse.map fun x=>V.ref x.q)++[.ref l.q])++[.ref e']))) gr hb0 hv2 (b:=b) (q:=e') (c:=c) (x:=x) (cs:=cs) (by
       have hc:=Qr.mp hnd
       refine Qr.mpr ⟨fun q=>?_,Qr.mpr ⟨fun q=>eq e' (Qd _ q) rfl,hc.2⟩⟩
       rcases Qb.mp q with q | q
       ·exact eq c (by simp) q
       ·exact hc.1 q) (fun y hy=>by
       rcases Qb.mp hy with rfl | hy
       ·exact (hcs _ (by simp)).1
       ·rcases Qb.mp hy with rfl | hy
        ·exact h2n _ he'
        ·exact (hcs _ (Qd _ hy)).1)
      (by rw [zx (Ne.symm wa)];exact s6 _ _ a5) (by rw [zx bw];exact s6 _ _ (n5 _ _ hb' bl)) (by rw [zx ew];exact hq') (fun y hy=>by rw [zx (ec y hy).2];exact s6 _ _ (c5 y hy)) (by rw [zw];simp) hn6
     have et:(List.map (fun _=>D.lst []) (c::cs)).tail=cs.map fun _=>D.lst []:=rfl
     rw [et] at k
     exact k _ _ _ zp gp (fun y o h n=>hn6 y o h (fun q=>n (by rw [q];exact oa)) fun q=>n (by rw [q];exact ow)) (by rw [Pu (by simp)])
  ·rw [wl,decide_eq_false hd]
   refine ifF ?_
   rw [if_neg (fun q=>hd q.2)] at hs
   cases hs
   exact plain ⟨rfl,rfl⟩
 ·rw [Bool.eq_false_iff.mpr hin]
  refine ifF (ifF ?_)
  rw [if_neg (fun q=>hin q.1)] at hs
  cases hs
  exact plain ⟨rfl,rfl⟩
end
def popQ (top:List D):List Fr->Option (List D×List Fr)
 | f::fs=>match f.post with
  | []=>some (shut f top,fs)
  | _::ps=>some ([],⟨f.done,f.x,f.pre++[.lst top],ps⟩::fs)
 | []=>none
def evQ (ρ:Ev) (u:Int):Ev:=(((((ρ.set 5 none).set 6 none).set 9 none).set 10 none).set 8 none).set 7 (some (.int u))
def isRowT:D->Bool
 | .tup (.str _::_)=>true
 | _=>false
def stepQ (deep most:Int) (ρ:Ev) (f c1 c2:Ev->Option D) (c:Int) (top:List D) (fs:List Fr) (u:Int):Option ((List D×List Fr)×Int) :=
 if c % 8=0/\0<fs.length then (popQ top fs).map fun r=>(r,u)
 else (f ((evQ ρ u).set 8 (some (.int c)))).bind fun d=>if isRowT d=true then (c1 (((evQ ρ u).set 8 (some (.int c))).set 9 (some d))).bind fun k1=>(c2 ((((evQ ρ u).set 8 (some (.int c))).set 9 (some d)).set 10 (some k1))).bind fun k2=>(asI k2).bind fun k =>
  if u+k<=most then (addQ deep d top fs).map fun r=>(r,u+k) else some ((top,fs),u)
  else none
def goQ (deep most:Int) (ρ:Ev) (f c1 c2:Ev->Option D):List Int->List D->List Fr->Int->Option (List D×Int)
 | [],top,fs,u=>some (ZI top fs,u)
 | c::cs,top,fs,u=>(stepQ deep most ρ f c1 c2 c top fs u).bind fun r=>goQ deep most ρ f c1 c2 cs r.1.1 r.1.2 r.2
abbrev tc8 (K:Frag):TT:=tAnd (jf (tOp rEq (tOp (rI (fun _ j=>0<j) fun i j=>.int (i % j)) (ZB 8) (tC (.int 8))) (tC (.int 0)))) (jf (tOp (rI0 fun i j=>.bl (decide (j<i))) (tCB (lenR K) (z6 (ZB 6) Z0)) (tC (.int 1))))
abbrev tSum15:TE:=tOp (rI0 fun i j=>.int (i+j)) (ZB 7) (ZB 10)
abbrev tCell15 (K:Frag) (n:Nat) (te tk1 tk2:TE):TS:=tIfS (tc8 K) (tPopB K) (YM (yX te (ZX 9)) (YM (yX tk1 (ZX 10)) (YM (yX tk2 (ZX 10)) (tIfS (jf (tOp (rI0 fun i j=>.bl (decide (i<=j))) tSum15 (ZB 4))) (YM (yX tSum15 (ZX 7)) (tJoin15 K n)) WK))))
theorem md_sub {K:Frag} {Ud H:Hp} {B:Addr->Prop} {σ:St} {ρ ρ':Ev} (m:Md K Ud B [] σ H ρ) (hl:ρ'.length=ρ.length) (h:∀ (i:Nat) d,ρ'[i]?=some (some d)->ρ[i]?=some (some d)):Md K Ud B [] σ H ρ' :=
 ⟨m.grow,m.blk,by rw [hl];exact m.len,fun i d q n=>m.sh i d (h i d q) n,fun i hi=>(by cases hi),fun i j a hi=>by cases hi⟩
structure St15 (K:Frag) (H:Hp) (Ue:Addr->Prop) (ρ:Ev) (p:Addr) (top:List D) (fs:List Fr) (u:Int) (r:Addr) (σ':St) (H':Hp):Prop where
 ex:∃ (w:Addr) (l:Lv) (ls:List Lv),Md K H (Bq Ue w (l::ls)) [] σ' H' (evQ ρ u)/\Zq K H Ue H' w l ls top fs/\σ'[6]?=some (some (.ref w))/\((l::ls).getLast (by simp)).a=r/\σ'[5]?=some (some (.ref r))/\σ'[0]?=some (some (.ref p))
section
variable {K:Frag} {te tk1 tk2:TE} {f c1 c2:Ev->Option D} {H:Hp} {Ue:Addr->Prop} {ρ:Ev} {p r:Addr} {top top':List D} {fs fs':List Fr} {c u u' deep most:Int} {N:St->Hp->Prop} {E:Ends}
theorem bq_le {w:Addr} {l:Lv} {ls:List Lv} {H':Hp} (hb:∀ x,Ue x->∃ o,H' x=some o) (z:Zq K H Ue H' w l ls top fs):∀ x,Bq Ue w (l::ls) x->∃ o,H' x=some o:=fun x h=>by
 rcases h with h | h
 ·exact hb x h
 ·obtain ⟨xs,q⟩:=z.lists x h;exact ⟨_,q⟩
theorem Yz:(evQ ρ u).length=ρ.length:=by unfold evQ;simp
theorem wB {i:Nat} (h:i≠5/\i≠6/\i≠7/\i≠8/\i≠9/\i≠10):(evQ ρ u)[i]?=ρ[i]?:=by
 unfold evQ
 rw [zd h.2.2.1,zd h.2.2.2.1,zd h.2.2.2.2.2,zd h.2.2.2.2.1,zd h.2.1,zd h.1]
theorem evQ_no {i:Nat} (h:i=5\/i=6\/i=8\/i=9\/i=10) {d:D}:(evQ ρ u)[i]?≠some (some d):=by
 unfold evQ
 intro q
 rw [zd (by omega)] at q
 by_cases h8:i=8
 ·subst h8;have:=yT q;cases this
 ·rw [zd h8] at q
  by_cases h10:i=10
  ·subst h10;have:=yT q;cases this
  ·rw [zd h10] at q
   by_cases h9:i=9
   ·subst h9;have:=yT q;cases this
   ·rw [zd h9] at q
    by_cases h6:i=6
    ·subst h6;have:=yT q;cases this
    ·rw [zd h6] at q
     have h5:i=5:=by omega
     subst h5;have:=yT q;cases this
theorem gz {ρ':Ev} {u':Int} (hl:ρ'.length=ρ.length) (h7:ρ'[7]?=some (some (.int u'))) (h:∀ i,i≠5/\i≠6/\i≠7/\i≠8/\i≠9/\i≠10->ρ'[i]?=ρ[i]?):∀ (i:Nat) d,(evQ ρ u')[i]?=some (some d)->ρ'[i]?=some (some d):=fun i d q=>by
 by_cases h1:i=5\/i=6\/i=8\/i=9\/i=10
 ·exact absurd q (evQ_no h1)
 ·by_cases hi:i=7
  ·subst hi
   have:(evQ ρ u')[7]?=some (some (.int u')):=by
    unfold evQ
    rw [QN]
    have:=(Qm.mp h7).1
    simp only [Qo];omega
   rw [this] at q;cases q;exact h7
  ·rw [h i (by omega),<- wB (ρ:=ρ) (u:=u') (by omega)];exact q
theorem cell15 (hrow:∀ (Ud:Hp) (Ue:Addr->Prop) (σ:St) (H:Hp) (ρ:Ev) (d:D) (Q:VK),Md K Ud Ue [] σ H ρ->f ρ=some d->(∀ v H',zX H H'->FR K H H' Ue d v->Q v H')->te σ H Q)
  (hk1:∀ (Ud:Hp) (Ue:Addr->Prop) (σ:St) (H:Hp) (ρ:Ev) (d:D) (Q:VK),Md K Ud Ue [] σ H ρ->c1 ρ=some d->(∀ v H',zX H H'->Rep K H' Ue d v->Q v H')->tk1 σ H Q)
  (hk2:∀ (Ud:Hp) (Ue:Addr->Prop) (σ:St) (H:Hp) (ρ:Ev) (d:D) (Q:VK),Md K Ud Ue [] σ H ρ->c2 ρ=some d->(∀ v H',zX H H'->Rep K H' Ue d v->Q v H')->tk2 σ H Q)
  {n:Nat} (hn:ρ.length=n) (hn2:10<n) (hb0:∀ x,Ue x->∃ o,H x=some o) (h3:ρ[3]?=some (some (.int deep))) (h4:ρ[4]?=some (some (.int most)))
  {w:Addr} {l:Lv} {ls:List Lv} {σ:St} {H2:Hp} (md:Md K H (Bq Ue w (l::ls)) [] σ H2 ((evQ ρ u).set 8 (some (.int c)))) (z:Zq K H Ue H2 w l ls top fs) (g6:σ[6]?=some (some (.ref w))) (gr:((l::ls).getLast (by simp)).a=r) (g5:σ[5]?=some (some (.ref r))) (g0:σ[0]?=some (some (.ref p)))
  (hs:stepQ deep most ρ f c1 c2 c top fs u=some ((top',fs'),u')) (hN:∀ σ' H',St15 K H Ue ρ p top' fs' u' r σ' H'->N σ' H') :
  tCell15 K n te tk1 tk2 { E with nx:=N,ct:=N } σ H2:=by
 have hlen:σ.length=n:=by rw [md.len,Qo,Yz,hn]
 have slot:∀ (i:Nat) (j:Int),((evQ ρ u).set 8 (some (.int c)))[i]?=some (some (.int j))->σ[i]?=some (some (.int j)):=fun i j q=>by
  obtain ⟨v,h1,h2⟩:=md.sh i _ q (by simp)
  simp only [Rep] at h2
  rw [h2] at h1;exact h1
 have s8:σ[8]?=some (some (.int c)):=slot 8 c (QN (by rw [Yz];omega))
 have e7:(evQ ρ u)[7]?=some (some (.int u)):=by unfold evQ;rw [QN (by simp only [Qo];omega)]
 have s7:σ[7]?=some (some (.int u)):=slot 7 u (by rw [zd (by decide)];exact e7)
 have s3':σ[3]?=some (some (.int deep)):=slot 3 deep (by rw [zd (by decide),wB (by decide)];exact h3)
 have s4':σ[4]?=some (some (.int most)):=slot 4 most (by rw [zd (by decide),wB (by decide)];exact h4)
 have wl:(((ls.reverse.map fun x=>V.ref x.q)++[.ref l.q]):List V).length=fs.length+1:=by
  have:=z.ch.len
  simp only [Qe] at this
  rw [Qi,Qj,List.length_reverse];simp only [Qe,Qz];omega
 have other:¬ (c % 8=0/\0<fs.length)->YM (yX te (ZX 9)) (YM (yX tk1 (ZX 10)) (YM (yX tk2 (ZX 10)) (tIfS (jf (tOp (rI0 fun i j=>.bl (decide (i<=j))) tSum15 (ZB 4))) (YM (yX tSum15 (ZX 7)) (tJoin15 K n)) WK))) { E with nx:=N,ct:=N } σ H2:=fun hno=>by
  unfold stepQ at hs
  rw [if_neg hno] at hs
  obtain ⟨d,hd,hs1⟩:=ze hs
  split at hs1
  case isFalse=>cases hs1
  rename_i hrt
  obtain ⟨k1,hk1',hs2⟩:=ze hs1
  obtain ⟨k2,hk2',hs3⟩:=ze hs2
  obtain ⟨k,hk',hs4⟩:=ze hs3
  clear hs hs1 hs2 hs3
  have ek2:k2=.int k:=by cases k2 <;> simp only [asI] at hk' <;> cases hk';rfl
  subst ek2
  refine hrow _ _ σ H2 _ d _ md hd fun v H3 s3 fr=>?_
  have md3:=md.up s3
  obtain ⟨x,ps,rfl⟩:∃ x ps,d=.tup (.str x::ps):=by
   unfold isRowT at hrt
   split at hrt
   ·exact ⟨_,_,rfl⟩
   ·cases hrt
  obtain ⟨b,tr,rfl,htup,hps,alt⟩:∃ (b:Addr) (tr:List V),v=.ref b/\SqT K H3 b (.str x::tr)/\zt K H3 (Bq Ue w (l::ls)) ps tr/\(YL ps=true\/∃ cs:List Addr,ps=cs.map (fun _=>D.lst [])/\tr=cs.map V.ref/\cs.Nodup/\(∀ e∈cs,H2 e=none/\H3 e=some (.lst []))/\H3 b=some (.tup (.str x::cs.map V.ref))):=by
   rcases fr with ⟨_,q,_,_,_,hw⟩ | ⟨hfl,rep⟩ | ⟨b',x',cs,eb,ed,hnd,hls,hb'⟩
   ·cases q <;> simp only [Own] at hw
   ·simp only [Rep] at rep
    obtain ⟨b,ts,rfl,htup,hts⟩:=rep
    simp only [zt] at hts
    obtain ⟨tx,tr,rfl,hx,hps⟩:=hts
    simp only [Rep] at hx
    subst hx
    exact ⟨b,tr,rfl,htup,hps,.inl (by simpa [D.flat,YL] using hfl)⟩
   ·cases ed
    exact ⟨b',_,eb,.inl (.inl hb'),jY md.blk hls,.inr ⟨cs,rfl,rfl,hnd,hls,hb'⟩⟩
  have rd:Rep K H3 (Bq Ue w (l::ls)) (.tup (.str x::ps)) (.ref b):=by
   simp only [Rep]
   exact ⟨b,_,rfl,htup,.cons (by simp [Rep]) hps⟩
  have md9:Md K H (Bq Ue w (l::ls)) [] (σ.set 9 (some (.ref b))) H3 (((evQ ρ u).set 8 (some (.int c))).set 9 (some (.tup (.str x::ps)))):=md3.put (os':=[]) (fun _ z=>nomatch z) (fun _ z=>nomatch z) (by rw [Y9];exact rd)
  refine hk1 _ _ _ H3 _ k1 _ md9 hk1' fun v1 H4 s4 r1=>?_
  have md10:=(md9.up s4).put (i:=10) (os':=[]) (v:=v1) (d:=k1) (fun _ z=>nomatch z) (fun _ z=>nomatch z) (by rw [Y9];exact r1)
  refine hk2 _ _ _ H4 _ _ _ md10 hk2' fun v2 H5 s5 r2=>?_
  simp only [Rep] at r2
  subst r2
  have x7:((((σ.set 9 (some (.ref b))).set 10 (some v1)).set 10 (some (.int k))):St)[7]?=some (some (.int u)):=by rw [zd (by decide),zd (by decide),zd (by decide)];exact s7
  have x4:((((σ.set 9 (some (.ref b))).set 10 (some v1)).set 10 (some (.int k))):St)[4]?=some (some (.int most)):=by rw [zd (by decide),zd (by decide),zd (by decide)];exact s4'
  have x10:((((σ.set 9 (some (.ref b))).set 10 (some v1)).set 10 (some (.int k))):St)[10]?=some (some (.int k)):=zN (by simp only [Qo];omega)
  refine ⟨.int u,x7,.int k,x10,u,k,rfl,rfl,.int most,x4,u+k,most,rfl,rfl,decide (u+k<=most),rfl,?_⟩
  have s35:zX H2 H5:=s3.trans (s4.trans s5)
  by_cases hm:u+k<=most
  ·rw [decide_eq_true hm]
   refine ifT ?_
   rw [if_pos hm] at hs4
   obtain ⟨rr,ha,e⟩:=map_some hs4
   cases e
   refine ⟨.int u,x7,.int k,x10,u,k,rfl,rfl,?_⟩
   have s45:zX H3 H5:=s4.trans s5
   refine join15 z md.grow (fun y hy=>md.blk y (.inl hy)) s35 (by simp only [Qo];exact hlen) (by rw [zd (by decide),zd (by decide),zd (by decide),zd (by decide)];exact g6) (by rw [zd (by decide),zd (by decide),zd (by decide)];exact zN (by omega)) (by rw [zd (by decide),zd (by decide),zd (by decide),zd (by decide)];exact s3') (SqT.same s45 htup) (hps.up s45) ?_ ha fun l' ls' H' zq gq keep hlast=>?_
   ·rcases alt with h | ⟨cs,a1,a2,a3,a4,a5⟩
    ·exact .inl h
    ·exact .inr ⟨cs,a1,a2,a3,fun e he=>⟨(a4 e he).1,s45 _ _ (a4 e he).2⟩,s45 _ _ a5⟩
   ·have grow:zX H H':=fun y o q=>keep y o (md.grow _ _ q) fun hm=>by rw [(z.new y hm).1] at q;cases q
    have m0:=md.go gq grow (bq_le (fun y hy=>by obtain ⟨o,q⟩:=hb0 y hy;exact ⟨o,grow _ _ q⟩) zq)
    have m1:=((((m0.forget (i:=9) (v:=some (.ref b)) (by simp)).forget (i:=10) (v:=some v1) (by simp)).forget (i:=10) (v:=some (.int k)) (by simp)).put (i:=7) (os':=[]) (v:=.int (u+k)) (d:=.int (u+k)) (fun _ z=>nomatch z) (fun _ z=>nomatch z) (by simp [Rep]))
    have m2:=md_sub m1 (ρ':=evQ ρ (u+k)) (by simp only [Qo,Yz]) (gz (by simp only [Qo,Yz]) (QN (by simp only [Qo,Yz];omega)) fun i hi=>by
     rw [zd hi.2.2.1,zd hi.2.2.2.2.2,zd hi.2.2.2.2.2,zd hi.2.2.2.2.1,zd hi.2.2.2.1];exact wB hi)
    exact hN _ _ ⟨w,l',ls',m2,zq,by rw [zd (by decide),zd (by decide),zd (by decide),zd (by decide)];exact g6,by rw [hlast];exact gr,by rw [zd (by decide),zd (by decide),zd (by decide),zd (by decide)];exact g5,by rw [zd (by decide),zd (by decide),zd (by decide),zd (by decide)];exact g0⟩
  ·rw [decide_eq_false hm]
   refine ifF ?_
   rw [if_neg hm] at hs4
   cases hs4
   have m1:=(md10.up s5).put (i:=10) (os':=[]) (v:=.int k) (d:=.int k) (fun _ z=>nomatch z) (fun _ z=>nomatch z) (by simp [Rep])
   have m2:=md_sub m1 (ρ':=evQ ρ u) (by simp only [Qo,Yz]) (gz (by simp only [Qo,Yz]) (by rw [zd (by decide),zd (by decide),zd (by decide),zd (by decide)];exact e7) fun i hi=>by
    rw [zd hi.2.2.2.2.2,zd hi.2.2.2.2.2,zd hi.2.2.2.2.1,zd hi.2.2.2.1];exact wB hi)
   exact hN _ _ ⟨w,l,ls,m2,z.up s35,by rw [zd (by decide),zd (by decide),zd (by decide)];exact g6,gr,by rw [zd (by decide),zd (by decide),zd (by decide)];exact g5,by rw [zd (by decide),zd (by decide),zd (by decide)];exact g0⟩
 refine ⟨_,s8,c,8,rfl,rfl,(show (0:Int)<8 by decide),rfl,decide (c % 8=0),by rw [show (decide (V.int (c % 8)=V.int 0))=decide (c % 8=0) by simp],?_⟩
 by_cases h8:c % 8=0
 ·rw [decide_eq_true h8]
  refine ifT ?_
  refine ⟨.ref w,g6,w,_,rfl,.inl (.inl (.inl z.whr')),_,1,rfl,rfl,decide ((1:Int)<(((ls.reverse.map fun x=>V.ref x.q)++[.ref l.q]):List V).length),rfl,?_⟩
  cases fs with
  | nil =>
   rw [decide_eq_false (by rw [wl];simp)]
   refine ifF ?_
   exact other fun q=>absurd q.2 (by simp)
  | cons f0 fs0 =>
   rw [decide_eq_true (by rw [wl];simp;omega)]
   refine ifT ?_
   unfold stepQ at hs
   rw [if_pos ⟨h8,by simp⟩] at hs
   obtain ⟨rr,hp,e⟩:=map_some hs
   cases e
   cases ls with
   | nil=>exact absurd z.ch.len (by simp)
   | cons l1 ls1 =>
    have hpost:f0.post=l.ps.map fun _=>D.lst []:=by
     obtain ⟨⟨_,_,_,_,_,_,_,q5⟩,_⟩:=z.ch
     exact q5
    have fin:∀ (l':Lv) (ls':List Lv) (H':Hp),Zq K H Ue H' w l' ls' top' fs'->Goes H2 H' (Bq Ue w (l::l1::ls1)) (Bq Ue w (l'::ls'))->(∀ e o,H2 e=some o->e∉Yi w (l::l1::ls1)->H' e=some o)->(l'::ls').getLast (by simp)=(l::l1::ls1).getLast (by simp)->N σ H':=fun l' ls' H' zq gq keep hlast=>by
     have grow:zX H H':=fun y o q=>keep y o (md.grow _ _ q) fun hm=>by rw [(z.new y hm).1] at q;cases q
     have m0:=md.go gq grow (bq_le (fun y hy=>by obtain ⟨o,q⟩:=hb0 y hy;exact ⟨o,grow _ _ q⟩) zq)
     have m2:=md_sub m0 (ρ':=evQ ρ u) (by simp only [Qo,Yz]) (gz (by simp only [Qo,Yz]) (by rw [zd (by decide)];exact e7) fun i hi=>by
      rw [zd hi.2.2.2.1];exact wB hi)
     exact hN _ _ ⟨w,l',ls',m2,zq,g6,by rw [hlast];exact gr,g5,g0⟩
    refine pop15 z g6 (fun p' ps' H' hps zq gq keep=>?_) (fun l' ls' H' hls hps zq gq keep=>?_)
    ·unfold popQ at hp
     simp only [hpost,hps,Qq] at hp
     cases hp
     exact fin _ _ H' zq gq keep ((Pu (by simp)).trans (Pu (by simp)).symm)
    ·cases hls
     unfold popQ at hp
     simp only [hpost,hps,Ps] at hp
     cases hp
     exact fin _ _ H' zq gq keep (Pu (by simp)).symm
 ·rw [decide_eq_false h8]
  refine ifF (ifF ?_)
  exact other fun q=>h8 q.1
end
def mB15 (f c1 c2:Ev->Option D):Ev->Option Out:=fun ρ=>((ρ[0]?.join).bind asL).bind fun ds=>(J6 ds).bind fun cs=>((ρ[3]?.join).bind asI).bind fun deep=>((ρ[4]?.join).bind asI).bind fun most =>
 if ρ.length=11 then (goQ deep most ρ f c1 c2 cs [] [] 0).map fun r=>.rt (.tup [.lst r.1,.int r.2]) else none
abbrev tB15 (K:Frag) (te tk1 tk2:TE):TS:=YM (yX (tLst Z0) (ZX 5)) (YM (yX (tLst (z6 (tLst (z6 (ZB 5) Z0)) Z0)) (ZX 6)) (YM (yX (tC (.int 0)) (ZX 7)) (YM (tFor (iList K (ZB 0)) (ZX 8) (tCell15 K 11 te tk1 tk2)) (W4 (gJ (z6 (ZB 5) (z6 (ZB 7) Z0)))))))
section
variable {K:Frag} {te tk1 tk2:TE} {f c1 c2:Ev->Option D}
theorem sok_b15 {ol:List Nat} (hrow:∀ (Ud:Hp) (Ue:Addr->Prop) (σ:St) (H:Hp) (ρ:Ev) (d:D) (Q:VK),Md K Ud Ue [] σ H ρ->f ρ=some d->(∀ v H',zX H H'->FR K H H' Ue d v->Q v H')->te σ H Q)
  (hk1:∀ (Ud:Hp) (Ue:Addr->Prop) (σ:St) (H:Hp) (ρ:Ev) (d:D) (Q:VK),Md K Ud Ue [] σ H ρ->c1 ρ=some d->(∀ v H',zX H H'->Rep K H' Ue d v->Q v H')->tk1 σ H Q)
  (hk2:∀ (Ud:Hp) (Ue:Addr->Prop) (σ:St) (H:Hp) (ρ:Ev) (d:D) (Q:VK),Md K Ud Ue [] σ H ρ->c2 ρ=some d->(∀ v H',zX H H'->Rep K H' Ue d v->Q v H')->tk2 σ H Q):SOk K false [] [] ol (tB15 K te tk1 tk2) (mB15 f c1 c2):=by
 intro Ud Ue σ H ρ o E mm q k
 obtain ⟨ds,q1,q2⟩:=ze q
 obtain ⟨x0,q3,q4⟩:=ze q1
 obtain ⟨cs,q5,q6⟩:=ze q2
 obtain ⟨deep,q8,q9⟩:=ze q6
 obtain ⟨y3,q10,q11⟩:=ze q8
 obtain ⟨most,q12,q13⟩:=ze q9
 obtain ⟨y4,q14,q15⟩:=ze q12
 split at q13
 case isFalse=>cases q13
 rename_i hlen
 obtain ⟨res,q7,rfl⟩:=map_some q13
 have e3:y3=.int deep:=by cases y3 <;> simp only [asI] at q11 <;> cases q11;rfl
 have e4:y4=.int most:=by cases y4 <;> simp only [asI] at q15 <;> cases q15;rfl
 subst e3 e4
 cases x0 <;> simp only [asL] at q4 <;> cases q4
 have eds:=Gu q5
 subst eds
 obtain ⟨v0,h0,r0⟩:=mm.sh 0 _ (Yg q3) (by simp)
 simp only [Rep] at r0
 obtain ⟨p,xs0,rfl,hl0,hr0⟩:=r0
 have e0:=hr0.ints'
 subst e0
 have hσ:σ.length=11:=by rw [mm.len];exact hlen
 have mb:=mm.base
 refine ⟨by show 0<=sizeLine;decide,fun a ha=>?_⟩
 have s1:zX H (upd H a (.lst [])):=zz ha
 refine ⟨.ref a,zN (by rw [hσ];decide),by show 1<=sizeLine;decide,fun qa hqa=>⟨by show 1<=sizeLine;decide,fun w hw=>?_⟩⟩
 have qne:qa≠a:=fun e=>by rw [e,zw] at hqa;cases hqa
 have s2:zX (upd H a (.lst [])) (upd (upd H a (.lst [])) qa (.lst [.ref a])):=zz hqa
 have wq:w≠qa:=fun e=>by rw [e,zw] at hw;cases hw
 have wa:w≠a:=fun e=>by rw [e,zx (Ne.symm qne),zw] at hw;cases hw
 have s3:zX (upd (upd H a (.lst [])) qa (.lst [.ref a])) (upd (upd (upd H a (.lst [])) qa (.lst [.ref a])) w (.lst [.ref qa])):=zz hw
 have hqH:H qa=none:=s1.free hqa
 have hwH:H w=none:=s1.free (s2.free hw)
 have nB:∀ y,H y=none->¬ Ue y:=fun y hy hb=>by obtain ⟨u,qu⟩:=mm.blk y hb;rw [hy] at qu;cases qu
 have a3:upd (upd (upd H a (.lst [])) qa (.lst [.ref a])) w (.lst [.ref qa]) a=some (.lst []):=by rw [zx (Ne.symm wa),zx (Ne.symm qne),zw]
 have q3':upd (upd (upd H a (.lst [])) qa (.lst [.ref a])) w (.lst [.ref qa]) qa=some (.lst [.ref a]):=by rw [zx (Ne.symm wq),zw]
 have w3:upd (upd (upd H a (.lst [])) qa (.lst [.ref a])) w (.lst [.ref qa]) w=some (.lst [.ref qa]):=zw
 have s13:=s1.trans (s2.trans s3)
 generalize upd (upd (upd H a (.lst [])) qa (.lst [.ref a])) w (.lst [V.ref qa])=H3 at *
 have own3:∀ y∈Yi w [⟨a,qa,[]⟩],H y=none:=fun y hy=>by
  rcases Zj.mp hy with rfl | ⟨v,hv,h⟩
  ·exact hwH
  ·rw [Qv.mp hv] at h
   rcases h with rfl | rfl | h
   ·exact ha
   ·exact hqH
   ·cases h
 have z0:Zq K H Ue H3 w ⟨a,qa,[]⟩ [] [] []:=by
  refine ⟨w3,⟨[],a3,.nil⟩,fun v hv=>?_,trivial,?_,fun y hy=>⟨own3 y hy,nB y (own3 y hy)⟩⟩
  ·rw [Qv.mp hv];exact ⟨q3',fun p hp=>by cases hp⟩
  ·simp [Yi,Lv.own,wa,wq,Ne.symm qne]
 have g13:Goes H H3 Ue (Bq Ue w [⟨a,qa,[]⟩]):=jL (O:=fun _=>False) (fun e o h _=>s13 _ _ h) (fun e z=>z.elim) (fun e xs z=>z.elim) (fun e he=>by
  rcases he with he | he
  ·exact .inl he
  ·exact .inr (own3 e he))
 have m2:Md K H (Bq Ue w [⟨a,qa,[]⟩]) [] (((σ.set 5 (some (.ref a))).set 6 (some (.ref w))).set 7 (some (.int 0))) H3 (evQ ρ 0):=by
  have m:=mb.go g13 s13 (bq_le (fun y hy=>by obtain ⟨u,qu⟩:=mm.blk y hy;exact ⟨u,s13 _ _ qu⟩) z0)
  have m1:=((m.forget (i:=5) (v:=some (.ref a)) (by simp)).forget (i:=6) (v:=some (.ref w)) (by simp)).put (i:=7) (os':=[]) (v:=.int 0) (d:=.int 0) (fun _ z=>nomatch z) (fun _ z=>nomatch z) (by simp [Rep])
  exact md_sub m1 (by simp only [Qo,Yz]) (gz (by simp only [Qo]) (QN (by simp only [Qo];omega)) fun i hi=>by
   rw [zd hi.2.2.1,zd hi.2.1,zd hi.1])
 have st0:St15 K H Ue ρ p [] [] 0 a (((σ.set 5 (some (.ref a))).set 6 (some (.ref w))).set 7 (some (.int 0))) H3:=by
  refine ⟨w,⟨a,qa,[]⟩,[],m2,z0,?_,rfl,?_,?_⟩
  ·rw [zd (by decide)];exact zN (by simp [hσ])
  ·rw [zd (by decide),zd (by decide)];exact zN (by rw [hσ];decide)
  ·rw [zd (by decide),zd (by decide),zd (by decide)];exact h0
 have e00:∀ u,(evQ ρ u)[0]?=some (some (.lst (cs.map .int))):=fun u=>by
  rw [wB (by decide)];exact Yg q3
 have cells:∀ {top fs u σ' H'},St15 K H Ue ρ p top fs u a σ' H'->SqL K H' p (cs.map V.int):=fun {top fs u σ' H'} st=>by
  obtain ⟨w',l',ls',md,-,-,-,-,g0⟩:=st.ex
  obtain ⟨v,u1,u2⟩:=md.sh 0 _ (e00 u) (by simp)
  rw [g0] at u1;cases u1
  simp only [Rep] at u2
  obtain ⟨p',xs,ep,hl,hr⟩:=u2
  cases ep
  rw [hr.ints'] at hl
  exact hl.sq
 have h0':((((σ.set 5 (some (V.ref a))).set 6 (some (.ref w))).set 7 (some (.int 0))):St)[0]?=some (some (.ref p)):=by
  rw [zd (by decide),zd (by decide),zd (by decide)];exact h0
 refine ⟨.ref p,h0',p,rfl,⟨_,cells st0⟩,?_⟩
 refine ⟨fun i n σ' H'=>n=cs.length - i/\i<=cs.length/\∃ top fs u,St15 K H Ue ρ p top fs u a σ' H'/\goQ deep most ρ f c1 c2 (cs.drop i) top fs u=some res,⟨cs.length,by simp,Q3 _,[],[],0,st0,by simpa using q7⟩,?_⟩
 rintro i n σ' H' ⟨rfl,hile,top,fs,u,st,hg⟩
 have hc:=cells st
 by_cases hlt:i<cs.length
 ·right
  rw [Q8 hlt] at hg
  simp only [goQ] at hg
  obtain ⟨⟨⟨top',fs'⟩,u'⟩,r3,r4⟩:=ze hg
  refine ⟨⟨_,.int cs[i],hc,by simp [hlt]⟩,fun σ2 H3=>St15 K H Ue ρ p top' fs' u' a σ2 H3,fun σ2 H3 st2=>⟨cs.length - (i+1),by omega,rfl,hlt,top',fs',u',st2,r4⟩,fun x H3 y=>?_⟩
  obtain ⟨rfl,hy⟩:=y
  have hx:=hy _ hc
  rw [QB,Qy hlt] at hx
  cases hx
  obtain ⟨w',l',ls',md,zp,g6,gl,g5,g0⟩:=st.ex
  have md2:=md.put (i:=8) (os':=[]) (v:=.int cs[i]) (d:=.int cs[i]) (fun _ z=>nomatch z) (fun _ z=>nomatch z) (by simp [Rep])
  exact cell15 (E:={ nx:=fun _ _=>True,rt:=E.rt,bk:=W4 (gJ (z6 (ZB 5) (z6 (ZB 7) Z0))) E,ct:=fun _ _=>True }) hrow hk1 hk2 hlen (by decide) mm.blk (Yg q10) (Yg q14) md2 zp (by rw [zd (by decide)];exact g6) gl (by rw [zd (by decide)];exact g5) (by rw [zd (by decide)];exact g0) r3 fun σ2 H4 h=>h
 ·left
  have hi:i=cs.length:=by omega
  subst hi
  rw [Pd] at hg
  cases hg
  refine ⟨⟨_,hc,by simp⟩,?_⟩
  obtain ⟨w',l',ls',md,zp,g6,gl,g5,g0⟩:=st.ex
  have s7:σ'[7]?=some (some (.int u)):=by
   obtain ⟨v,h1,h2⟩:=md.sh 7 (.int u) (by unfold evQ;rw [QN (by simp only [Qo];omega)]) (by simp)
   simp only [Rep] at h2
   rw [h2] at h1;exact h1
  refine ⟨.ref a,g5,.int u,s7,by show 2<=sizeLine;decide,fun t ht=>?_⟩
  have st':zX H' (upd H' t (.tup [.ref a,.int u])):=zz ht
  have hr:=zp.root
  rw [gl] at hr
  refine k _ _ ((mm.grow.trans md.grow).trans st') (fun y hy=>by obtain ⟨o,q⟩:=md.blk y (.inl hy);exact ⟨o,st' _ _ q⟩) ?_
  simp only [Rep]
  exact ⟨t,_,rfl,.inl (.inl zw),.cons (hr.up st') (.cons (by simp [Rep]) .nil)⟩
end
theorem sss_b15 {X:Cx} {ol:List Nat} {s1 s2 s3 s5:Stmt} {a Zm:List Stmt} {tg it t9 t10 t11 c8:Expr} {p9 p10 p11 pi pf:Pos} {te tk1 tk2:TE} {f c1 c2:Ev->Option D} {er e1 e2:Expr} (hr:SR X true [] er te f) (h1:SE X true [] e1 tk1 c1) (h2:SE X true [] e2 tk2 c2)
  (hp:PE X er te->PE X e1 tk1->PE X e2 tk2->PSs X [s1,s2,s3,.For tg it [.If c8 a (.Assign [t9] er p9::.Assign [t10] e1 p10::.Assign [t11] e2 p11::Zm) pi] [] pf,s5] (tB15 X.K te tk1 tk2)) :
  SSs X false [] [] ol [s1,s2,s3,.For tg it [.If c8 a (.Assign [t9] er p9::.Assign [t10] e1 p10::.Assign [t11] e2 p11::Zm) pi] [] pf,s5] (tB15 X.K te tk1 tk2) (mB15 f c1 c2):=by
 have e:∀ (Ue:Addr->Prop) (σ:St),BB true Ue [] σ=Ue:=fun Ue σ=>Y9
 exact ⟨hp hr.pe h1.pe h2.pe,sok_b15 (fun Ud Ue σ H ρ d Q md hf k=>hr.ok Ud Ue σ H ρ d Q md hf fun v H' s fr=>k v H' s (by rw [e] at fr;exact fr)) (fun Ud Ue σ H ρ d Q md hf k=>h1.ok Ud Ue σ H ρ d Q md hf fun v H' s fr=>k v H' s (by rw [e] at fr;exact fr)) (fun Ud Ue σ H ρ d Q md hf k=>h2.ok Ud Ue σ H ρ d Q md hf fun v H' s fr=>k v H' s (by rw [e] at fr;exact fr))⟩
structure Kd where
 hd:Frag->Hp->(Addr->Prop)->(Addr->Prop)->Addr->List D->Prop
 mtb:∀ {K:Frag} {H:Hp} {B P:Addr->Prop} {h:Addr} {S:List D},hd K H B P h S->∀ b,P b->∃ o,H b=some o/\Mut (some o)
 goes:∀ {K:Frag} {H H':Hp} {B B' P:Addr->Prop} {h:Addr} {S:List D},hd K H B P h S->Goes H H' B B'->(∀ b o,P b->H b=some o->H' b=some o)->hd K H' B' P h S
def kL:Kd where
 hd K H B P h S:=(∀ b,P b↔b=h)/\∃ hs,H h=some (.lst hs)/\zt K H B S hs
 mtb:=fun ⟨p,hs,e,_⟩ b hb=>⟨.lst hs,by rw [(p b).1 hb];exact e,trivial⟩
 goes:=fun ⟨p,hs,e,r⟩ g k=>⟨p,hs,k _ _ ((p _).2 rfl) e,zt.goes g _ _ r⟩
section
variable {K:Frag} {κ:Kd} {Ud H H':Hp} {Ue P:Addr->Prop} {os:List Nat} {σ:St} {ρ:Ev} {h:Addr} {i:Nat} {S S':List D}
theorem YA {B B' P:Addr->Prop} (h1:∀ e o,H e=some o->¬ P e->H' e=some o) (hm:∀ e o,P e->H e=some o->Mut (some o)) (hP:∀ e,P e->B e) (hB:∀ e,B' e->B e\/H e=none):Goes H H' B B':=by
 have nm:∀ e o,H e=some o->¬ Mut (some o)->H' e=some o:=fun e o q n=>h1 _ _ q fun z=>n (hm _ _ z q)
 have nb:∀ e o,H e=some o->¬ B e->H' e=some o/\¬ B' e:=fun e o q n=>⟨h1 _ _ q fun z=>n (hP _ z),fun z=>(hB e z).elim n fun z=>by rw [q] at z;cases z⟩
 refine ⟨fun a xs q=>?_,fun a xs q n=>?_,fun a kvs q n=>nb _ _ q n,fun a o u q=>nm _ _ q fun z=>z,fun a xs q=>nm _ _ q fun z=>z⟩
 ·rcases q with q | ⟨o,q⟩
  ·exact .inl (nm _ _ q fun z=>z)
  ·exact .inr ⟨o,nm _ _ q fun z=>z⟩
 ·rcases q with q | ⟨o,q⟩
  ·exact ⟨.inl (nb _ _ q n).1,(nb _ _ q n).2⟩
  ·exact ⟨.inr ⟨o,(nb _ _ q n).1⟩,(nb _ _ q n).2⟩
theorem md_but {P:Addr->Prop} (m:Md K Ud Ue os σ H ρ) (hB:∀ b,P b->Ue b) (hn:∀ b,P b->Ud b=none) (hm:∀ b,P b->∃ o,H b=some o/\Mut (some o)) (hk:∀ b o,H b=some o->¬ P b->H' b=some o) (he:∀ b,P b->∃ o,H' b=some o):Md K Ud Ue os σ H' ρ/\Goes H H' (Bl Ue os σ) (Bl Ue os σ):=by
 have g:Goes H H' (Bl Ue os σ) (Bl Ue os σ):=YA hk (fun e o z q=>by obtain ⟨o',q',n⟩:=hm e z;rw [q] at q';cases q';exact n) (fun e z=>.inl (hB e z)) fun e z=>.inl z
 refine ⟨⟨fun b u q=>hk _ _ (m.grow _ _ q) fun e=>(by rw [hn b e] at q;cases q),fun b hb=>?_,m.len,fun j d q n=>?_,fun j hj=>?_,m.sep⟩,g⟩
 ·by_cases e:P b
  ·exact he b e
  ·obtain ⟨o,q⟩:=m.blk b hb;exact ⟨o,hk _ _ q e⟩
 ·obtain ⟨v,h1,h2⟩:=m.sh j d q n
  exact ⟨v,h1,Rep.goes g _ _ h2⟩
 ·obtain ⟨a,u,d,h1,h2,h3,h4,h5⟩:=m.own j hj
  exact ⟨a,u,d,h1,h2,hk _ _ h3 (fun e=>h4.2 (hB a e)),h4,h5.goes g⟩
structure Wd (K:Frag) (κ:Kd) (Ud:Hp) (Ue P:Addr->Prop) (os:List Nat) (i:Nat) (h:Addr) (S:List D) (σ:St) (H:Hp) (ρ:Ev):Prop where
 md:Md K Ud Ue os σ H ρ
 blk:∀ b,P b->Ue b
 new:∀ b,P b->Ud b=none
 at_:κ.hd K H (Bl Ue os σ) P h S
 slot:ρ[i]?=some (some (.adr h))
 off:i∉os
theorem Wd.ref (w:Wd K κ Ud Ue P os i h S σ H ρ):σ[i]?=some (some (.ref h)):=by
 obtain ⟨v,h1,h2⟩:=w.md.sh i _ w.slot w.off
 simp only [Rep] at h2
 rw [h2] at h1;exact h1
theorem Wd.free (w:Wd K κ Ud Ue P os i h S σ H ρ) {b:Addr} (hb:P b):¬ ∃ j,j∈os/\σ[j]?=some (some (.ref b)):=by
 rintro ⟨j,hj,e⟩
 obtain ⟨a,u,d,h1,h2,h3,h4,h5⟩:=w.md.own j hj
 rw [e] at h1;cases h1
 exact h4.2 (w.blk b hb)
theorem Wd.write (w:Wd K κ Ud Ue P os i h S σ H ρ) (hk:∀ b o,H b=some o->¬ P b->H' b=some o) (r:κ.hd K H' (Bl Ue os σ) P h S'):Wd K κ Ud Ue P os i h S' σ H' ρ :=
 ⟨(md_but w.md w.blk w.new (κ.mtb w.at_) hk fun b z=>by obtain ⟨o,q,_⟩:=κ.mtb r b z;exact ⟨o,q⟩).1,w.blk,w.new,r,w.slot,w.off⟩
theorem Wd.goes (w:Wd K κ Ud Ue P os i h S σ H ρ) (hk:∀ b o,H b=some o->¬ P b->H' b=some o):Goes H H' (Bl Ue os σ) (Bl Ue os σ) :=
 YA hk (fun e o z q=>by obtain ⟨o',q',n⟩:=κ.mtb w.at_ e z;rw [q] at q';cases q';exact n) (fun e z=>.inl (w.blk e z)) fun e z=>.inl z
def YE (K:Frag) (κ:Kd) (st:Bool) (os:List Nat) (i:Nat) (t:TE) (F:Ev->List D->Option (D×List D)):Prop :=
 ∀ (Ud:Hp) (Ue P:Addr->Prop) (h:Addr) (σ:St) (H:Hp) (ρ:Ev) (S:List D) (d:D) (S':List D) (Q:VK),Wd K κ Ud Ue P os i h S σ H ρ->F ρ S=some (d,S') ->
  (∀ v H',(∀ b o,H b=some o->¬ P b->H' b=some o)->Wd K κ Ud Ue P os i h S' σ H' ρ->Rep K H' (BB st Ue os σ) d v->Q v H')->t σ H Q
def WAOk (K:Frag) (κ:Kd) (os:List Nat) (i:Nat) (t:TA) (F:Ev->List D->Option (List D×List D)):Prop :=
 ∀ (Ud:Hp) (Ue P:Addr->Prop) (h:Addr) (σ:St) (H:Hp) (ρ:Ev) (S:List D) (ds:List D) (S':List D) (Q:List V->Hp->Prop),Wd K κ Ud Ue P os i h S σ H ρ->F ρ S=some (ds,S') ->
  (∀ vs H',(∀ b o,H b=some o->¬ P b->H' b=some o)->Wd K κ Ud Ue P os i h S' σ H' ρ->zt K H' (Bl Ue os σ) ds vs->Q vs H')->t σ H Q
def WFOk (K:Frag) (κ:Kd) (os:List Nat) (i:Nat) (t:TE) (F:Ev->List D->Option (D×List D)):Prop :=
 ∀ (Ud:Hp) (Ue P:Addr->Prop) (h:Addr) (σ:St) (H:Hp) (ρ:Ev) (S:List D) (d:D) (S':List D) (Q:VK),Wd K κ Ud Ue P os i h S σ H ρ->F ρ S=some (d,S') ->
  (∀ a o H',(∀ b o,H b=some o->¬ P b->H' b=some o)->Wd K κ Ud Ue P os i h S' σ H' ρ->H a=none->H' a=some o->Own K H' (fun b=>Bl Ue os σ b\/b=a) o d->κ.hd K H' (fun b=>Bl Ue os σ b\/b=a) P h S'->Q (.ref a) H')->t σ H Q
def wL {α:Type} (f:Ev->Option α):Ev->List D->Option (α×List D):=fun ρ S=>(f ρ).map fun d=>(d,S)
theorem Wd.up (w:Wd K κ Ud Ue P os i h S σ H ρ) (s:zX H H'):Wd K κ Ud Ue P os i h S σ H' ρ :=
 ⟨w.md.up s,w.blk,w.new,κ.goes w.at_ (w.goes fun b o q _=>s _ _ q) fun b o _ q=>s _ _ q,w.slot,w.off⟩
theorem we_lift {st:Bool} {t:TE} {f:Ev->Option D} (e:EOk K st os t f):YE K κ st os i t (wL f):=fun Ud Ue P h σ H ρ S d S' Q w q k=>by
 obtain ⟨d',q1,q2⟩:=map_some q
 cases q2
 exact e Ud Ue σ H ρ d Q w.md q1 fun v H' s r=>k v H' (fun b o q _=>s _ _ q) (w.up s) r
theorem wa_lift {t:TA} {f:Ev->Option (List D)} (e:AOk K true os t f):WAOk K κ os i t (wL f):=fun Ud Ue P h σ H ρ S d S' Q w q k=>by
 obtain ⟨d',q1,q2⟩:=map_some q
 cases q2
 exact e Ud Ue σ H ρ d Q w.md q1 fun v H' s r=>k v H' (fun b o q _=>s _ _ q) (w.up s) r
def WEnd (K:Frag) (κ:Kd) (Ud:Hp) (Ue P:Addr->Prop) (os' ol:List Nat) (i:Nat) (h:Addr) (E:Ends):Out->List D->Prop
 | .nx ρ',S'=>∀ σ' H',Wd K κ Ud Ue P os' i h S' σ' H' ρ'->E.nx σ' H'
 | .rt d,S'=>∀ v H',zX Ud H'->κ.hd K H' Ue P h S'->(∀ b,Ue b->∃ o,H' b=some o)->Rep K H' Ue d v->E.rt v H'
 | .bk ρ',S'=>∀ σ' H',Wd K κ Ud Ue P ol i h S' σ' H' ρ'->E.bk σ' H'
 | .ct ρ',S'=>∀ σ' H',Wd K κ Ud Ue P ol i h S' σ' H' ρ'->E.ct σ' H'
def WOk (K:Frag) (κ:Kd) (os os' ol:List Nat) (i:Nat) (t:TS) (M:Ev->List D->Option (Out×List D)):Prop :=
 ∀ (Ud:Hp) (Ue P:Addr->Prop) (h:Addr) (σ:St) (H:Hp) (ρ:Ev) (S:List D) (o:Out) (S':List D) (E:Ends),Wd K κ Ud Ue P os i h S σ H ρ->M ρ S=some (o,S')->WEnd K κ Ud Ue P os' ol i h E o S'->t E σ H
open Classical in
noncomputable def bare (os:List Nat) (σ:St) (H:Hp):Hp:=fun b=>if ∃ j,j∈os/\σ[j]?=some (some (.ref b)) then none else H b
theorem GL {b:Addr} (hb:∃ j,j∈os/\σ[j]?=some (some (.ref b))):bare os σ H b=none:=if_pos hb
theorem bare_no {b:Addr} (hb:¬ ∃ j,j∈os/\σ[j]?=some (some (.ref b))):bare os σ H b=H b:=if_neg hb
theorem Md.bare (m:Md K Ud Ue os σ H ρ):Md K (M.bare os σ H) Ue os σ H ρ:=by
 refine ⟨fun b o q=>?_,m.blk,m.len,m.sh,fun j hj=>?_,m.sep⟩
 ·by_cases e:∃ j,j∈os/\σ[j]?=some (some (.ref b))
  ·rw [GL e] at q;cases q
  ·rwa [bare_no e] at q
 ·obtain ⟨a,u,d,h1,h2,h3,h4,h5⟩:=m.own j hj
  exact ⟨a,u,d,h1,h2,h3,⟨GL ⟨j,hj,h1⟩,h4.2⟩,h5⟩
end
abbrev WF:=Ev->List D->Option (D×List D)
abbrev WM:=Ev->List D->Option (Out×List D)
section
variable {K:Frag} {κ:Kd} {os os1 os' ol:List Nat} {i:Nat} {t u:TS} {M1 M2:WM} {Ud H H':Hp} {Ue P:Addr->Prop} {σ:St} {ρ:Ev} {h:Addr} {S S':List D}
theorem Rep.low {st:Bool} {d:D} {v:V} (r:Rep K H (Bl Ue os σ) d v):Rep K H (BB st Ue os σ) d v:=by
 cases st with
 | true=>exact r
 | false=>exact Rep.goes (Goes.less (B:=Bl Ue os σ) (fun a ha=>Or.inl ha) (.refl H)) _ _ r
def yF (M1 M2:WM):WM:=fun ρ S=>(M1 ρ S).bind fun r=>match r.1 with
 | .nx ρ'=>M2 ρ' r.2
 | o=>some (o,r.2)
theorem ws_seq (h1:WOk K κ os os1 ol i t M1) (h2:WOk K κ os1 os' ol i u M2):WOk K κ os os' ol i (YM t u) (yF M1 M2):=fun Ud Ue P h σ H ρ S o S' E w q k=>by
 obtain ⟨⟨o1,S1⟩,q1,q2⟩:=ze q
 refine h1 Ud Ue P h σ H ρ S o1 S1 _ w q1 ?_
 cases o1 with
 | nx ρ'=>exact fun σ' H' w'=>h2 Ud Ue P h σ' H' ρ' S1 o S' E w' q2 k
 | rt d=>cases q2;exact k
 | bk ρ'=>cases q2;exact k
 | ct ρ'=>cases q2;exact k
def WTOk (K:Frag) (κ:Kd) (os:List Nat) (i:Nat) (t:TT) (c:Ev->List D->Option (Bool×List D)):Prop :=
 ∀ (Ud:Hp) (Ue P:Addr->Prop) (h:Addr) (σ:St) (H:Hp) (ρ:Ev) (S:List D) (b:Bool) (S':List D) (Q:Bool->Hp->Prop),Wd K κ Ud Ue P os i h S σ H ρ->c ρ S=some (b,S') ->
  (∀ H',(∀ b o,H b=some o->¬ P b->H' b=some o)->Wd K κ Ud Ue P os i h S' σ H' ρ->Q b H')->t σ H Q
theorem wt_lift {t:TT} {c:Ev->Option Bool} (hc:TOk K os t c):WTOk K κ os i t (wL c):=fun Ud Ue P h σ H ρ S b S' Q w q k=>by
 obtain ⟨d',q1,q2⟩:=map_some q
 cases q2
 exact hc Ud Ue σ H ρ b Q w.md q1 fun H' s=>k H' (fun b o q _=>s _ _ q) (w.up s)
def wTest (F:WF):Ev->List D->Option (Bool×List D):=fun ρ S=>(F ρ S).bind fun r=>(asB r.1).map fun b=>(b,r.2)
theorem wt_val {te:TE} {F:WF} (he:YE K κ false os i te F):WTOk K κ os i (jf te) (wTest F):=fun Ud Ue P h σ H ρ S b S' Q w q k=>by
 obtain ⟨⟨x,S1⟩,h1,h2⟩:=ze q
 obtain ⟨c,h3,h4⟩:=map_some h2
 cases h4
 refine he Ud Ue P h σ H ρ S x S1 _ w h1 fun v H' hk w' r=>?_
 cases x <;> simp only [asB] at h3 <;> cases h3
 simp only [Rep] at r
 exact ⟨_,r,k H' hk w'⟩
def wIf (c:Ev->List D->Option (Bool×List D)) (M1 M2:WM):WM:=fun ρ S=>(c ρ S).bind fun r=>if r.1 then M1 ρ r.2 else M2 ρ r.2
theorem ws_if {tc:TT} {c:Ev->List D->Option (Bool×List D)} (hc:WTOk K κ os i tc c) (h1:WOk K κ os os' ol i t M1) (h2:WOk K κ os os' ol i u M2):WOk K κ os os' ol i (tIfS tc t u) (wIf c M1 M2):=fun Ud Ue P h σ H ρ S o S' E w q k=>by
 obtain ⟨⟨b,S1⟩,q1,q2⟩:=ze q
 refine hc Ud Ue P h σ H ρ S b S1 _ w q1 fun H' s w'=>?_
 cases b with
 | true=>exact ifT (h1 Ud Ue P h σ H' ρ S1 o S' E w' q2 k)
 | false=>exact ifF (h2 Ud Ue P h σ H' ρ S1 o S' E w' q2 k)
def WJ:WM:=fun ρ S=>some (.nx ρ,S)
theorem ws_next:WOk K κ os os ol i WK WJ:=fun Ud Ue P h σ H ρ S o S' E w q k=>by
 cases q
 exact k σ H w
theorem Wd.put {j:Nat} {d:D} {v:V} (w:Wd K κ Ud Ue P os i h S σ H ρ) (hj:j≠i) (hos:∀ x∈os,x≠j) (r:Rep K H (Bl Ue os σ) d v):Wd K κ Ud Ue P os i h S (σ.set j (some v)) H (ρ.set j (some d)) :=
 ⟨w.md.put (fun x hx=>⟨hx,hos x hx⟩) (fun x hx=>.inl hx) r,w.blk,w.new,κ.goes w.at_ (.less (fun a ha=>by
  rcases ha with ha | ⟨x,hx,e⟩
  ·exact .inl ha
  ·exact .inr ⟨x,hx,by rw [zd (hos x hx)] at e;exact e⟩) (.refl H)) (fun _ _ _ q=>q),by rw [zd (Ne.symm hj)];exact w.slot,w.off⟩
def jy (j:Nat) (F:WF):WM:=fun ρ S=>(F ρ S).map fun r=>(.nx (ρ.set j (some r.1)),r.2)
theorem ws_set {j:Nat} {te:TE} {F:WF} (he:YE K κ true os i te F) (hj:j≠i) (hos:∀ x∈os,x≠j):WOk K κ os os ol i (yX te (ZX j)) (jy j F):=fun Ud Ue P h σ H ρ S o S' E w q k=>by
 obtain ⟨⟨d,S1⟩,q1,q2⟩:=map_some q
 cases q2
 exact he Ud Ue P h σ H ρ S d _ _ w q1 fun v H' hk w' r=>k _ _ (w'.put hj hos r)
def J9 (F:WF):WM:=fun ρ S=>(F ρ S).map fun r=>(.rt r.1,r.2)
theorem Wd.out (w:Wd K κ Ud Ue P os i h S σ H ρ):κ.hd K H Ue P h S:=κ.goes w.at_ (Goes.less (B:=Bl Ue os σ) (fun a ha=>Or.inl ha) (.refl H)) fun _ _ _ q=>q
theorem ws_ret {te:TE} {F:WF} (he:YE K κ false os i te F):WOk K κ os os' ol i (W4 te) (J9 F):=fun Ud Ue P h σ H ρ S o S' E w q k=>by
 obtain ⟨⟨d,S1⟩,q1,q2⟩:=map_some q
 cases q2
 exact he Ud Ue P h σ H ρ S d _ _ w q1 fun v H' hk w' r=>k v H' w'.md.grow w'.out w'.md.blk r
def Jm (F:WF):WM:=fun ρ S=>(F ρ S).map fun r=>(.nx ρ,r.2)
theorem ws_drop {te:TE} {F:WF} (he:YE K κ false os i te F):WOk K κ os os ol i (YW te) (Jm F):=fun Ud Ue P h σ H ρ S o S' E w q k=>by
 obtain ⟨⟨d,S1⟩,q1,q2⟩:=map_some q
 cases q2
 exact he Ud Ue P h σ H ρ S d _ _ w q1 fun v H' hk w' r=>k _ _ w'
theorem Wd.list {vs:List V} (w:Wd K kL Ud Ue P os i h S σ H ρ) (r:zt K H (Bl Ue os σ) S' vs):Wd K kL Ud Ue P os i h S' σ (upd H h (.lst vs)) ρ:=by
 obtain ⟨p,hs,h1,h2⟩:=w.at_
 have hk:∀ b o,H b=some o->¬ P b->upd H h (.lst vs) b=some o:=fun b o q n=>by rw [zx (fun e=>n ((p b).2 e))];exact q
 exact w.write hk ⟨p,vs,zw,zt.goes (w.goes hk) _ _ r⟩
def wApp (F:WF):WM:=fun ρ S=>(F ρ S).bind fun r=>if r.2.length<sizeLine then some (.nx ρ,r.2++[r.1]) else none
theorem ws_happ {te:TE} {F:WF} (he:YE K kL true os i te F):WOk K kL os os ol i (YW (tBM K "list" Yx (ZB i) (z6 te Z0))) (wApp F):=fun Ud Ue P h σ H ρ S o S' E w q k=>by
 obtain ⟨⟨d,S1⟩,q1,q2⟩:=ze q
 split at q2
 case isFalse=>cases q2
 rename_i hl
 cases q2
 obtain ⟨p,hs,h1,h2⟩:=w.at_
 refine ⟨.ref h,w.ref,.inl ⟨rfl,hs,.inl (.inl h1)⟩,?_⟩
 refine he Ud Ue P h σ H ρ S d S1 _ w q1 fun v H' hk w' r=>?_
 obtain ⟨p',hs',h1',h2'⟩:=w'.at_
 exact ⟨h,hs',v,rfl,rfl,h1',by rw [h2'.length];exact hl,k _ _ (w'.list (h2'.append (.one r)))⟩
def wExt (f:Ev->Option D):WM:=fun ρ S=>(f ρ).bind fun d=>(asL d).bind fun es=>if S.length+es.length<=sizeLine then some (.nx ρ,S++es) else none
theorem ws_hext {te:TE} {f:Ev->Option D} (he:EOk K true os te f):WOk K kL os os ol i (YW (tBM K "list" Gi (ZB i) (z6 te Z0))) (wExt f):=fun Ud Ue P h σ H ρ S o S' E w q k=>by
 obtain ⟨d,q1,q2⟩:=ze q
 obtain ⟨es,q3,q4⟩:=ze q2
 split at q4
 case isFalse=>cases q4
 rename_i hl
 cases q4
 cases d <;> simp only [asL] at q3 <;> cases q3
 obtain ⟨p,hs,h1,h2⟩:=w.at_
 refine ⟨.ref h,w.ref,.inl ⟨rfl,hs,.inl (.inl h1)⟩,?_⟩
 refine he Ud Ue σ H ρ _ _ w.md q1 fun v H' s r=>?_
 have r1:Rep K H' (Bl Ue os σ) (.lst es) v:=r
 simp only [Rep] at r1
 obtain ⟨b,zs,rfl,hb,hr⟩:=r1
 have hne:h≠b:=fun z=>hb.2 (.inl (w.blk b ((p b).2 z.symm)))
 exact ⟨h,b,_,_,rfl,rfl,s _ _ h1,hb.1,hne,by rw [h2.length,hr.length];exact hl,k σ _ ((w.up s).list ((zt.up s h2).append hr))⟩
def wIx (fk:Ev->Option D):WF:=fun ρ S=>(fk ρ).bind fun d=>(asI d).bind fun k=>(atI S k).map fun x=>(x,S)
theorem we_ix {st:Bool} {tk:TE} {fk:Ev->Option D} (he:EOk K true os tk fk):YE K kL st os i (tOp (rIxL K) (ZB i) tk) (wIx fk):=fun Ud Ue P h σ H ρ S d S' Q w q k=>by
 obtain ⟨dk,q1,q2⟩:=ze q
 obtain ⟨n,q3,q4⟩:=ze q2
 obtain ⟨x,q5,q6⟩:=map_some q4
 cases q6
 have e:dk=.int n:=by cases dk <;> simp only [asI] at q3 <;> cases q3;rfl
 subst e
 refine ⟨.ref h,w.ref,he Ud Ue σ H ρ _ _ w.md q1 fun v H' s r=>?_⟩
 simp only [Rep] at r
 subst r
 have w':=w.up s
 obtain ⟨p,hs,h1,h2⟩:=w'.at_
 obtain ⟨v,e1,r1⟩:=h2.atI q5
 exact ⟨h,hs,n,v,rfl,rfl,.inl (.inl h1),e1,k v H' (fun b o q _=>s _ _ q) w' r1.low⟩
def Wi (F:WF) (fk:Ev->Option D):WM:=fun ρ S=>(F ρ S).bind fun r=>(fk ρ).bind fun d=>(asI d).bind fun k=>(ixN r.2.length k).map fun j=>(.nx ρ,r.2.set j r.1)
theorem ws_hset {te ti:TE} {F:WF} {fk:Ev->Option D} (he:YE K kL true os i te F) (hk:EOk K false os ti fk):WOk K kL os os ol i (yX te (gSub (ZB i) ti rSetL)) (Wi F fk):=fun Ud Ue P h σ H ρ S o S' E w q k=>by
 obtain ⟨⟨d,S1⟩,q1,q2⟩:=ze q
 obtain ⟨kd,q3,q4⟩:=ze q2
 obtain ⟨n,q5,q6⟩:=ze q4
 obtain ⟨j,q7,q8⟩:=map_some q6
 cases q8
 refine he Ud Ue P h σ H ρ S d S1 _ w q1 fun v H1 hk1 w1 r1=>?_
 refine ⟨.ref h,w1.ref,?_⟩
 refine hk Ud Ue σ H1 ρ kd _ w1.md q3 fun w' H2 s2 r2=>?_
 have e2:=asI_v r2 q5
 subst e2
 have w2:=w1.up s2
 obtain ⟨p,hs,h1,h2⟩:=w2.at_
 exact ⟨h,_,n,j,rfl,rfl,h1,by rw [h2.length];exact q7,k σ _ (w2.list (h2.set j (Rep.up s2 r1)))⟩
def w2 (g:D->D->Option D) (F G:WF):WF:=fun ρ S=>(F ρ S).bind fun r=>(G ρ r.2).bind fun q=>(g r.1 q.1).map fun d=>(d,q.2)
theorem we_opOk {st:Bool} {r:R2} {g:D->D->Option D} {ta tb:TE} {F G:WF} (hr:ROk K r g) (ha:YE K κ true os i ta F) (hb:YE K κ true os i tb G):YE K κ st os i (tOp r ta tb) (w2 g F G):=fun Ud Ue P h σ H ρ S d S' Q w q k=>by
 obtain ⟨⟨x,S1⟩,q1,q2⟩:=ze q
 obtain ⟨⟨y,S2⟩,q3,q4⟩:=ze q2
 obtain ⟨z,q5,q6⟩:=map_some q4
 cases q6
 refine ha Ud Ue P h σ H ρ S x S1 _ w q1 fun v H1 k1 w1 r1=>?_
 refine hb Ud Ue P h σ H1 ρ S1 y _ _ w1 q3 fun u H2 k2 w2 r2=>?_
 exact hr H2 (Bl Ue os σ) v u x y _ Q (fun a ha=>w2.md.tracked ha) (Rep.goes (w1.goes k2) _ _ r1) r2 q5 fun z H3 s3 r3=>k z H3 (fun b o q n=>s3 _ _ (k2 _ _ (k1 _ _ q n) n)) (w2.up s3) r3.low
theorem WFOk.eok {st:Bool} {te:TE} {F:WF} (h:WFOk K κ os i te F):YE K κ st os i te F:=fun Ud Ue P h' σ H ρ S d S' Q w q k=>h Ud Ue P h' σ H ρ S d S' Q w q fun a o H' s w' hn ho hw _=>k _ _ s w' (Rep.bb (hw.rep ho (w.md.ntracked hn)))
abbrev WL:=Ev->List D->Option (List D×List D)
def zK (F:WF) (G:WL):WL:=fun ρ S=>(F ρ S).bind fun r=>(G ρ r.2).map fun q=>(r.1::q.1,q.2)
theorem wa_consOk {te:TE} {tl:TA} {F:WF} {G:WL} (ha:YE K κ true os i te F) (hr:WAOk K κ os i tl G):WAOk K κ os i (z6 te tl) (zK F G):=fun Ud Ue P h σ H ρ S ds S' Q w q k=>by
 obtain ⟨⟨x,S1⟩,q1,q2⟩:=ze q
 obtain ⟨⟨ys,S2⟩,q3,q4⟩:=map_some q2
 cases q4
 refine ha Ud Ue P h σ H ρ S x S1 _ w q1 fun v H1 k1 w1 r1=>?_
 refine hr Ud Ue P h σ H1 ρ S1 ys _ _ w1 q3 fun vs H2 k2 w2 r2=>?_
 exact k _ H2 (fun b o q n=>k2 _ _ (k1 _ _ q n) n) w2 (.cons (Rep.goes (w1.goes k2) _ _ r1) r2)
def wTup (G:WL):WF:=fun ρ S=>(G ρ S).bind fun r=>(JJ r.1).map fun d=>(d,r.2)
theorem we_tupOk {st:Bool} {tl:TA} {G:WL} (ha:WAOk K κ os i tl G):YE K κ st os i (gJ tl) (wTup G):=fun Ud Ue P h σ H ρ S d S' Q w q k=>by
 obtain ⟨⟨ds,S1⟩,q1,q2⟩:=ze q
 obtain ⟨d',q3,q4⟩:=map_some q2
 cases q4
 unfold JJ at q3
 split at q3
 case isFalse=>cases q3
 cases q3
 rename_i hl
 refine ha Ud Ue P h σ H ρ S ds _ _ w q1 fun vs H1 k1 w1 r1=>⟨by rw [r1.length];exact hl,fun p hp=>?_⟩
 refine k _ _ (fun b o q n=>zz hp _ _ (k1 _ _ q n)) (w1.up (zz hp)) (Rep.low ?_)
 simp only [Rep]
 exact ⟨p,vs,rfl,.inl (.inl zw),r1.up (zz hp)⟩
def spW (K:Frag) (κ:Kd) (i0:Nat) (m:List D->List D->Option (D×List D)):Sp:=fun vs H Q _=>∃ (B P:Addr->Prop) (ds:List D) (d:D) (S S':List D) (h:Addr),(∀ a,B a->∃ o,H a=some o)/\(∀ b,P b->B b)/\κ.hd K H B P h S/\zt K H B ds vs/\ds[i0]?=some (.adr h)/\m ds S=some (d,S') /\
 ∀ v H',(∀ b o,H b=some o->¬ P b->H' b=some o)->κ.hd K H' B P h S'->Rep K H' B d v->Q v H'
def Ya (i0:Nat) (m:List D->List D->Option (D×List D)) (G:WL):WF:=fun ρ S=>(G ρ S).bind fun r=>m r.1 r.2
theorem we_callOk {st:Bool} {i0:Nat} {m:List D->List D->Option (D×List D)} {tl:TA} {G:WL} (ha:WAOk K κ os i tl G) (hi:∀ ρ S ds S',G ρ S=some (ds,S')->ds[i0]?=ρ[i]?.join):YE K κ st os i (fun σ H Q=>tl σ H fun vs H1=>spW K κ i0 m vs H1 Q E0) (Ya i0 m G):=fun Ud Ue P h σ H ρ S d S' Q w q k=>by
 obtain ⟨⟨ds,S1⟩,q1,q2⟩:=ze q
 refine ha Ud Ue P h σ H ρ S ds S1 _ w q1 fun vs H1 k1 w1 r=>?_
 refine ⟨Bl Ue os σ,P,ds,d,S1,S',h,fun a ha=>w1.md.tracked ha,fun b hb=>.inl (w1.blk b hb),w1.at_,r,by rw [hi ρ S ds S1 q1,w1.slot];rfl,q2,fun v H' hk r1 r2=>?_⟩
 exact k v H' (fun b o q n=>hk _ _ (k1 _ _ q n) n) (w1.write hk r1) r2.low
end
section
variable {K:Frag} {κ:Kd} {Ud H H':Hp} {Ue P:Addr->Prop} {os os':List Nat} {σ σ':St} {ρ ρ':Ev} {h:Addr} {i:Nat} {S S':List D}
open Classical in
noncomputable def ja (os:List Nat) (σ:St) (P:Addr->Prop) (H:Hp):Hp:=fun b=>if P b then none else bare os σ H b
theorem GN {b:Addr} (hb:¬ ∃ j,j∈os/\σ[j]?=some (some (.ref b))) (n:¬ P b):ja os σ P H b=H b:=by unfold ja;rw [if_neg n,bare_no hb]
theorem bareH_in {b:Addr} (n:P b):ja os σ P H b=none:=by unfold ja;rw [if_pos n]
theorem GM {b:Addr} {o:HO} (q:ja os σ P H b=some o):H b=some o/\¬ P b/\¬ ∃ j,j∈os/\σ[j]?=some (some (.ref b)):=by
 unfold ja at q
 by_cases n:P b
 ·rw [if_pos n] at q;cases q
 ·rw [if_neg n] at q
  by_cases z:∃ j,j∈os/\σ[j]?=some (some (.ref b))
  ·rw [GL z] at q;cases q
  ·rw [bare_no z] at q;exact ⟨q,n,z⟩
theorem Wd.bare (w:Wd K κ Ud Ue P os i h S σ H ρ):Wd K κ (ja os σ P H) Ue P os i h S σ H ρ:=by
 refine ⟨⟨fun b o q=>(GM q).1,w.md.blk,w.md.len,w.md.sh,fun j hj=>?_,w.md.sep⟩,w.blk,fun b hb=>bareH_in hb,w.at_,w.slot,w.off⟩
 obtain ⟨a,u,d,h1,h2,h3,h4,h5⟩:=w.md.own j hj
 refine ⟨a,u,d,h1,h2,h3,⟨?_,h4.2⟩,h5⟩
 cases q:ja os σ P H a with
 | none=>rfl
 | some o=>exact absurd ⟨j,hj,h1⟩ (GM q).2.2
theorem Wd.same0 (w:Wd K κ Ud Ue P os i h S σ H ρ) (s:zX (ja os σ P H) H'):zX Ud H':=fun b o q=>s _ _ (by
 rw [GN]
 ·exact w.md.grow _ _ q
 ·rintro ⟨j,hj,e⟩
  obtain ⟨a,u,d,h1,h2,h3,h4,h5⟩:=w.md.own j hj
  rw [e] at h1;cases h1
  rw [h4.1] at q;cases q
 ·intro z
  rw [w.new b z] at q;cases q)
theorem Wd.unbare (w:Wd K κ Ud Ue P os i h S σ H ρ) (w':Wd K κ (ja os σ P H) Ue P os' i h S' σ' H' ρ'):Wd K κ Ud Ue P os' i h S' σ' H' ρ':=by
 refine ⟨⟨w.same0 w'.md.grow,w'.md.blk,w'.md.len,w'.md.sh,fun j hj=>?_,w'.md.sep⟩,w.blk,w.new,w'.at_,w'.slot,w'.off⟩
 obtain ⟨a,u,d,h1,h2,h3,h4,h5⟩:=w'.md.own j hj
 refine ⟨a,u,d,h1,h2,h3,⟨?_,h4.2⟩,h5⟩
 cases q:Ud a with
 | none=>rfl
 | some o=>have:=w.same0 (H':=ja os σ P H) (.refl _) a o q;rw [h4.1] at this;cases this
theorem Wd.goesB (w:Wd K κ Ud Ue P os i h S σ H ρ) (w':Wd K κ (ja os σ P H) Ue P os' i h S' σ' H' ρ'):Goes H H' (Bl Ue os σ) (Bl Ue os' σ'):=by
 refine YA (P:=fun b=>P b\/∃ j,j∈os/\σ[j]?=some (some (.ref b))) (fun e o q n=>w'.md.grow _ _ (by rw [GN (fun z=>n (.inr z)) fun z=>n (.inl z)];exact q)) (fun e o z q=>?_) (fun e z=>?_) fun e z=>?_
 ·rcases z with z | ⟨j,hj,z⟩
  ·obtain ⟨o',q',n⟩:=κ.mtb w.at_ e z;rw [q] at q';cases q';exact n
  ·obtain ⟨a,u,d,h1,h2,h3,h4,h5⟩:=w.md.own j hj
   rw [z] at h1;cases h1
   rw [q] at h3;cases h3
   exact h5.mut
 ·rcases z with z | z
  ·exact .inl (w.blk e z)
  ·exact .inr z
 ·rcases z with z | ⟨j,hj,z⟩
  ·exact .inl (.inl z)
  ·obtain ⟨a,u,d,g1,g2,g3,g4,g5⟩:=w'.md.own j hj
   rw [z] at g1;cases g1
   by_cases c:Bl Ue os σ e
   ·exact .inl c
   ·have:=g4.1
    rw [GN (fun z=>c (.inr z)) fun z=>c (.inl (w.blk e z))] at this
    exact .inr this
end
def forW (u:D->Ev->Option Ev) (M:WM):List D->Ev->List D->Option (Out×List D)
 | [],ρ,S=>some (.nx ρ,S)
 | d::ds,ρ,S=>(u d ρ).bind fun ρ1=>(M ρ1 S).bind fun r=>match r.1 with
  | .nx ρ2=>forW u M ds ρ2 r.2
  | .ct ρ2=>forW u M ds ρ2 r.2
  | .bk ρ2=>some (.nx ρ2,r.2)
  | .rt d=>some (.rt d,r.2)
def wFor (fi:Ev->Option (List D)) (u:D->Ev->Option Ev) (M:WM):WM:=fun ρ S=>(fi ρ).bind fun ds=>forW u M ds ρ S
def GT (i:Nat) (u:D->Ev->Option Ev):Prop:=∀ d ρ ρ',u d ρ=some ρ'->ρ'[i]?=ρ[i]?
section
variable {K:Frag} {κ:Kd} {os ol:List Nat} {i:Nat}
theorem kg_name {j:Nat} (hj:j≠i:=by decide):GT i (zZ j):=fun d ρ ρ' q=>by
 cases q
 exact zd (Ne.symm hj)
theorem ws_forOk {wi:TI} {g:TG} {tb:TS} {fi:Ev->Option (List D)} {ug:D->Ev->Option Ev} {M:WM} (hi:IOk K true os wi fi) (hg:GOk K os g ug) (hk:GT i ug) (hb:WOk K κ os os os i tb M):WOk K κ os os ol i (tFor wi g tb) (wFor fi ug M):=fun Ud Ue P h σ H ρ S o S' E w q k=>by
 obtain ⟨ds,h1,h2⟩:=ze q
 refine hi Ud Ue σ H ρ ds _ w.md h1 fun J H1 ok s1 W up mv ok1=>?_
 have w1:=w.up s1
 refine ⟨fun a n σ' H'=>n=ds.length - a/\a<=ds.length/\∃ ρ' S1,Wd K κ (ja os σ P H1) Ue P os i h S1 σ' H' ρ'/\forW ug M (ds.drop a) ρ' S1=some (o,S'),⟨ds.length,by simp,Q3 _,ρ,S,w1.bare,by simpa using h2⟩,?_⟩
 rintro a n σ' H' ⟨rfl,hile,ρ',S1,wM,hf⟩
 have okN:=mv rfl _ _ _ _ (w1.goesB wM) ok1
 by_cases hlt:a<ds.length
 ·right
  have hd:ds[a]?=some ds[a]:=by simp [hlt]
  rw [Q8 hlt] at hf
  simp only [forW] at hf
  obtain ⟨ρ1,q1,q2⟩:=ze hf
  obtain ⟨⟨o',S2⟩,q3,q4⟩:=ze q2
  refine ⟨W.go _ _ a _ okN hd,fun σ2 H2=>∃ ρ2 S3,Wd K κ (ja os σ P H1) Ue P os i h S3 σ2 H2 ρ2/\forW ug M (ds.drop (a+1)) ρ2 S3=some (o,S'),fun σ2 H2 ⟨ρ2,S3,m2,f2⟩=>⟨ds.length - (a+1),by omega,rfl,hlt,ρ2,S3,m2,f2⟩,fun x H2 y=>?_⟩
  obtain ⟨s2,rx⟩:=W.yld _ _ a _ x H2 okN hd y
  have w2:=wM.up s2
  refine hg _ Ue σ' H2 ρ' ρ1 ds[a] x _ w2.md rx q1 fun σ3 l3 a3 m3=>?_
  have w3:Wd K κ (ja os σ P H1) Ue P os i h S1 σ3 H2 ρ1:=by
   refine ⟨m3,w2.blk,w2.new,κ.goes w2.at_ (.less (fun b hb=>?_) (.refl H2)) (fun _ _ _ q=>q),(hk _ _ _ q1).trans w2.slot,w2.off⟩
   rcases hb with hb | ⟨j,hj,e⟩
   ·exact .inl hb
   ·exact .inr ⟨j,hj,by rw [<- a3 j hj];exact e⟩
  refine hb _ Ue P h σ3 H2 ρ1 S1 o' S2 _ w3 q3 ?_
  cases o' with
  | nx ρ2=>exact fun σ4 H4 w4=>⟨ρ2,S2,w4,q4⟩
  | ct ρ2=>exact fun σ4 H4 w4=>⟨ρ2,S2,w4,q4⟩
  | bk ρ2=>cases q4;exact fun σ4 H4 w4=>k σ4 H4 (w1.unbare w4)
  | rt d=>cases q4;exact fun v H4 s e b r=>k v H4 (w1.same0 s) e b r
 ·left
  have hi':a=ds.length:=by omega
  subst hi'
  rw [Pd] at hf
  cases hf
  exact ⟨W.stop _ _ _ okN (Ql _),k σ' H' (w1.unbare wM)⟩
end
def Wa (u:D->Ev->Option Ev) (F:WF):List D->Ev->List D->Option (List D×List D)
 | [],_,S=>some ([],S)
 | d::ds,ρ,S=>(u d ρ).bind fun ρ1=>(F ρ1 S).bind fun r=>(Wa u F ds ρ1 r.2).map fun q=>(r.1::q.1,q.2)
def wComp (k:Nat) (fi:Ev->Option (List D)) (u:D->Ev->Option Ev) (F:WF):WF:=fun ρ S=>(fi ρ).bind fun ds=>(Wa u F ds (ρ++List.replicate k none) S).bind fun q=>(JK q.1).map fun d=>(d,q.2)
section
variable {K:Frag} {κ:Kd} {os:List Nat} {i:Nat}
theorem wf_compOk {k:Nat} {wi:TI} {g:TG} {te:TE} {fi:Ev->Option (List D)} {u:D->Ev->Option Ev} {F:WF} (hi:IOk K true os wi fi) (hg:GOk K os g u) (hkg:GT i u) (he:YE K κ true os i te F) :
  WFOk K κ os i (WN k wi g tYes te) (wComp k fi u F):=fun Ud Ue P h σ H ρ S d S' Q w q kk=>by
 obtain ⟨ds,h1,h2⟩:=ze q
 obtain ⟨⟨es,Sn⟩,h3,h4⟩:=ze h2
 obtain ⟨d',h5,h6⟩:=map_some h4
 cases h6
 unfold JK at h5
 split at h5
 case isFalse=>cases h5
 rename_i hsz
 cases h5
 refine hi Ud Ue σ H ρ ds _ w.md h1 fun J H1 ok s1 W up mv ok1=>?_
 intro D' hD
 have w1:=w.up s1
 have mE:=w1.md.extend k hD
 have osl0:∀ j∈os,(σ++List.replicate k none)[j]?=σ[j]?:=fun j hj=>by
  obtain ⟨a,o,d,q1,_⟩:=w.md.own j hj
  rw [Z8 q1,q1]
 have ok2:ok (upd H1 D' (.lst [])) (fun b=>Bl Ue os σ b\/b=D'):=up D' hD _ _ _ _ (.fresh hD (zz hD)) (fun b o _ q=>zz hD _ _ q) ok1
 have pD:¬ P D':=fun z=>by obtain ⟨o,q,_⟩:=κ.mtb w1.at_ D' z;rw [hD] at q;cases q
 have hH0:Ud D'=none:=(w.md.grow.trans s1).free hD
 have wE:Wd K κ Ud (fun b=>Ue b\/b=D') P os i h S (σ++List.replicate k none) (upd H1 D' (.lst [])) (ρ++List.replicate k none):=by
  refine ⟨mE,fun b hb=>.inl (w1.blk b hb),w1.new,κ.goes w1.at_ (YA (P:=fun _=>False) (fun e o q _=>zz hD _ _ q) (fun _ _ z=>z.elim) (fun _ z=>z.elim) fun e z=>?_) (fun b o _ q=>zz hD _ _ q),Z8 w1.slot,w1.off⟩
  rcases z with (z | z) | ⟨j,hj,z⟩
  ·exact .inl (.inl z)
  ·exact .inr (by rw [z];exact hD)
  ·exact .inl (.inr ⟨j,hj,by rw [<- osl0 j hj];exact z⟩)
 refine ⟨fun a mm ys σ' H'=>mm=ds.length - a/\a<=ds.length/\∃ ρ' S1 done Zm,Wd K κ Ud (fun b=>Ue b\/b=D') P os i h S1 σ' H' ρ'/\(∀ j∈os,σ'[j]?=(σ++List.replicate k none)[j]?)/\H' D'=some (.lst ys) /\
  ok H' (fun b=>Bl Ue os σ b\/b=D')/\(∀ b o,H1 b=some o->¬ P b->H' b=some o)/\zt K H' (Bl (fun b=>Ue b\/b=D') os σ') done ys/\Wa u F (ds.drop a) ρ' S1=some (Zm,Sn)/\es=done++Zm,⟨ds.length,by simp,Q3 _,_,S,[],es,wE,fun _ _=>rfl,zw,ok2,fun b o q _=>zz hD _ _ q,.nil,by simpa using h3,rfl⟩,?_⟩
 rintro a mm ys σ' H' ⟨rfl,hile,ρ',S1,done,Zm,wM,ag,hDl,okH,sm,rd,hcomp,hes⟩
 refine ⟨hDl,?_⟩
 have osl:∀ j∈os,σ'[j]?=σ[j]?:=fun j hj=>(ag j hj).trans (osl0 j hj)
 have blE:∀ b,Bl (fun b=>Ue b\/b=D') os σ' b↔(Bl Ue os σ b\/b=D'):=fun b=>by
  constructor
  ·rintro ((z | z) | ⟨j,hj,q⟩)
   ·exact .inl (.inl z)
   ·exact .inr z
   ·rw [osl j hj] at q;exact .inl (.inr ⟨j,hj,q⟩)
  ·rintro ((z | ⟨j,hj,q⟩) | z)
   ·exact .inl (.inl z)
   ·exact .inr ⟨j,hj,by rw [osl j hj];exact q⟩
   ·exact .inl (.inr z)
 have blF:Bl (fun b=>Ue b\/b=D') os σ'=fun b=>Bl Ue os σ b\/b=D':=funext fun b=>propext (blE b)
 by_cases hlt:a<ds.length
 ·right
  have hd:ds[a]?=some ds[a]:=by simp [hlt]
  refine ⟨W.go _ _ a _ okH hd,fun x H2 y=>?_⟩
  obtain ⟨s2,rx⟩:=W.yld _ _ a _ x H2 okH hd y
  rw [Q8 hlt] at hcomp
  simp only [Wa] at hcomp
  obtain ⟨ρ1,q1,q2⟩:=ze hcomp
  obtain ⟨⟨z,S2⟩,q5,q6⟩:=ze q2
  obtain ⟨⟨rest',Sx⟩,q7,q8⟩:=map_some q6
  cases q8
  have w2:=wM.up s2
  have rx':Rep K H2 (Bl (fun b=>Ue b\/b=D') os σ') ds[a] x:=by rw [blF];exact rx
  refine hg Ud _ σ' H2 ρ' ρ1 ds[a] x _ w2.md rx' q1 fun σ3 l3 a3 m3=>?_
  unfold tYes
  dsimp only
  rw [if_pos rfl]
  have ble:Bl (fun b=>Ue b\/b=D') os σ3=Bl (fun b=>Ue b\/b=D') os σ':=bl_eq a3
  have w3:Wd K κ Ud (fun b=>Ue b\/b=D') P os i h S1 σ3 H2 ρ1:=⟨m3,w2.blk,w2.new,by rw [ble];exact w2.at_,(hkg _ _ _ q1).trans w2.slot,w2.off⟩
  refine he Ud _ P h σ3 H2 ρ1 S1 z S2 _ w3 q5 fun v H5 k5 w5 r5=>?_
  have hDl5:H5 D'=some (.lst ys):=k5 _ _ (s2 _ _ hDl) pD
  have hlen:ys.length=done.length:=rd.length
  have hlt':ys.length<sizeLine:=by
   rw [hes] at hsz
   simp only [Qi,Qe] at hsz
   omega
  have g25:Goes H2 H5 (Bl (fun b=>Ue b\/b=D') os σ3) (Bl (fun b=>Ue b\/b=D') os σ3):=w3.goes k5
  have g6:Goes H5 (upd H5 D' (.lst (ys++[v]))) (Bl (fun b=>Ue b\/b=D') os σ3) (Bl (fun b=>Ue b\/b=D') os σ3):=.write (.inl (.inr rfl)) hDl5 trivial
  refine ⟨hDl5,hlt',ds.length - (a+1),by omega,rfl,hlt,ρ1,S2,done++[z],rest',⟨w5.md.upB (.inr rfl) hH0 hDl5 trivial,w5.blk,w5.new,κ.goes w5.at_ g6 (fun b o hb q=>by rw [zx (fun e=>pD (by rw [<- e];exact hb))];exact q),w5.slot,w5.off⟩,fun j hj=>(a3 j hj).trans (ag j hj),zw,?_,?_,?_,q7,?_⟩
  ·have o2:=up D' hD _ _ _ _ (.same s2) (fun b o _ q=>s2 _ _ q) okH
   have e3:(fun b=>Bl Ue os σ b\/b=D')=Bl (fun b=>Ue b\/b=D') os σ3:=by rw [ble,blF]
   rw [e3] at o2 ⊢
   exact mv rfl _ _ _ _ g6 (mv rfl _ _ _ _ g25 o2)
  ·intro b o q n
   by_cases hb:b=D'
   ·subst hb;rw [hD] at q;cases q
   ·rw [zx hb];exact k5 _ _ (s2 _ _ (sm _ _ q n)) n
  ·refine zt.goes g6 _ _ (zt.append ?_ (.one r5))
   refine zt.goes g25 _ _ ?_
   rw [ble]
   exact rd.up s2
  ·rw [hes];simp
 ·left
  have hi':a=ds.length:=by omega
  subst hi'
  refine ⟨W.stop _ _ _ okH (Ql _),?_⟩
  rw [Pd] at hcomp
  cases hcomp
  rw [Pa] at hes
  subst hes
  have gl:Goes H' H' (Bl (fun b=>Ue b\/b=D') os σ') (Bl Ue os σ):=.less (fun b z=>(blE b).mpr (.inl z)) (.refl H')
  refine kk D' _ H' (fun b o q n=>sm _ _ (s1 _ _ q) n) ⟨(md_but w1.md w1.blk w1.new (κ.mtb w1.at_) sm fun b z=>by obtain ⟨o,q,_⟩:=κ.mtb wM.at_ b z;exact ⟨o,q⟩).1,w1.blk,w1.new,κ.goes wM.at_ gl (fun _ _ _ q=>q),w1.slot,w1.off⟩ (s1.free hD) hDl ?_ ?_
  ·simp only [Own]
   rw [blF] at rd
   exact rd
  ·have:=wM.at_
   rw [blF] at this
   exact this
end
structure WE (X:Cx) (κ:Kd) (st:Bool) (os:List Nat) (i:Nat) (e:Expr) (t:TE) (F:WF):Prop where
 pe:PE X e t
 ok:YE X.K κ st os i t F
structure WA (X:Cx) (κ:Kd) (os:List Nat) (i:Nat) (es:List Expr) (t:TA) (F:WL):Prop where
 pa:PA X es t
 ok:WAOk X.K κ os i t F
structure WB (X:Cx) (κ:Kd) (os:List Nat) (i:Nat) (e:Expr) (t:TT) (c:Ev->List D->Option (Bool×List D)):Prop where
 pt:PT X e t
 ok:WTOk X.K κ os i t c
structure WS (X:Cx) (κ:Kd) (os os' ol:List Nat) (i:Nat) (st:Stmt) (t:TS) (M:WM):Prop where
 ps:PS X st t
 ok:WOk X.K κ os os' ol i t M
structure WSs (X:Cx) (κ:Kd) (os os' ol:List Nat) (i:Nat) (st:List Stmt) (t:TS) (M:WM):Prop where
 ps:PSs X st t
 ok:WOk X.K κ os os' ol i t M
def HasAt (n i:Nat) (G:WL):Prop:=∀ ρ S ds S',G ρ S=some (ds,S')->ds[n]?=ρ[i]?.join
theorem Wx {i:Nat} {G:WL}:HasAt 0 i (zK (wL (zb i)) G):=fun ρ S ds S' q=>by
 obtain ⟨⟨x,S1⟩,q1,q2⟩:=ze q
 obtain ⟨⟨ys,S2⟩,q3,q4⟩:=map_some q2
 obtain ⟨y,q5,q6⟩:=map_some q1
 cases q6
 cases q4
 exact q5.symm
theorem gf {n i:Nat} {F:WF} {G:WL} (h:HasAt n i G):HasAt (n+1) i (zK F G):=fun ρ S ds S' q=>by
 obtain ⟨⟨x,S1⟩,q1,q2⟩:=ze q
 obtain ⟨⟨ys,S2⟩,q3,q4⟩:=map_some q2
 cases q4
 exact h ρ S1 ys S2 q3
section
variable {X:Cx} {κ:Kd} {st fr:Bool} {os os1 os' ol:List Nat} {i:Nat} {e a b:Expr} {es:List Expr} {t u:TS} {ta tb te:TE} {tl:TA} {F F':WF} {G:WL} {M1 M2:WM} {x:Str} {p pos:Pos}
theorem SE.we {f:Ev->Option D} (h:SE X st os e te f):WE X κ st os i e te (wL f):=⟨h.pe,we_lift h.ok⟩
theorem SB.wb {c:Ev->Option Bool} {tt:TT} (h:SB X os e tt c):WB X κ os i e tt (wL c):=⟨h.pt,wt_lift h.ok⟩
theorem yi:WA X κ os i [] Z0 (wL zu):=⟨Zn,wa_lift zr.ok⟩
theorem zA (ha:WE X κ true os i e te F) (hr:WA X κ os i es tl G) (hs:starEach (e::es) X.env=(false,eval e X.env)::starEach es X.env:=by rfl):WA X κ os i (e::es) (z6 te tl) (zK F G):=⟨zP ha.pe hr.pa hs,wa_consOk ha.ok hr.ok⟩
theorem we_tup {x1} (h:WA X κ os i es tl G):WE X κ st os i (.Tuple es x1 pos) (gJ tl) (wTup G):=⟨wv h.pa,we_tupOk h.ok⟩
theorem we_op {op:Operator} {r:R2} {g:D->D->Option D} (ho:OpR X (binaryOp op) r) (hr:ROk X.K r g) (ha:WE X κ true os i a ta F) (hb:WE X κ true os i b tb F'):WE X κ st os i (.BinOp a op b pos) (tOp r ta tb) (w2 g F F'):=⟨WR ho ha.pe hb.pe,we_opOk hr ha.ok hb.ok⟩
theorem wb_cmp {op:CmpOp} {r:R2} {g:D->D->Option D} (ho:OpR X (compareOp op) r) (hr:ROk X.K r g) (ha:WE X κ true os i a ta F) (hb:WE X κ true os i b tb F') (hm:behindInMarks op b=false):WB X κ os i (.Compare a [op] [b] pos) (jf (tOp r ta tb)) (wTest (w2 g F F')):=⟨jm ho ha.pe hb.pe hm,wt_val (we_opOk hr ha.ok hb.ok)⟩
theorem we_hix {f:Ev->Option D} (hb:SE X true os b tb f) (hN:X.N[i]?=some x:=by rfl) (hv:Vis X.env.scope x:=by first | exact Or.inl rfl | exact Or.inr (Or.inl rfl) | exact Or.inr (Or.inr rfl)) (hd:(x == ("__debug__":Str))=false:=by decide)
  (hcd:(x == ("__classdict__":Str))=false:=by decide) (hs:Wf b:=by intro _ _;rfl) {K':Frag} (hK:X.K=K':=by rfl):WE X kL st os i (.Subscript (.Name x p) b pos) (tOp (rIxL K') (ZB i) tb) (wIx f):=by
 subst hK
 exact ⟨wR j7 (pv i hN hv hd hcd) hb.pe hs,we_ix hb.ok⟩
theorem yB {k i0:Nat} {fn:Addr} {fd:FuncData} {ps:List Str} {m:List D->List D->Option (D×List D)} (F:FnOk X.prog X.w X.K X.mg X.base CX0 k fn fd ps (spW X.K κ i0 m)) (hr:Room k X.A) (hg:Gl X x) (hm:X.mg x=some (.ref fn)) (hk:keepIn X.K (.ref fn)=true) (hb:Zk X.K fd ps [])
  (hi:HasAt i0 i G) (ha:WA X κ os i (e::es) tl G) (hdb:(x == ("__debug__":Str))=false:=by decide) (he:starEach (e::es) X.env=(false,eval e X.env)::starEach es X.env:=by rfl) (hpl:(backTo pos (starEach es X.env)).any (·.1)=false:=by rfl) {K':Frag} (hK:X.K=K':=by rfl) :
  WE X κ st os i (.Call (.Name x p) (e::es) [] pos) (gK (spW K' κ i0 m) [] E0 tl) (Ya i0 m G):=by
 subst hK
 refine ⟨gu F hr hg hm hk hb .nil Gp ha.pa hdb he hpl,?_⟩
 have e:gK (spW X.K κ i0 m) [] E0 tl=fun σ H Q=>tl σ H fun vs H1=>spW X.K κ i0 m vs H1 Q E0:=by
  funext σ H Q
  unfold gK
  simp only [Pa]
 rw [e]
 exact we_callOk ha.ok hi
theorem JO:WSs X κ os os ol i [] WK WJ:=⟨wQ,ws_next⟩
theorem Zb {s:Stmt} {ss:List Stmt} (h1:WS X κ os os1 ol i s t M1) (h2:WSs X κ os1 os' ol i ss u M2):WSs X κ os os' ol i (s::ss) (YM t u) (yF M1 M2):=⟨ZO h1.ps h2.ps,ws_seq h1.ok h2.ok⟩
theorem ZL {s:Stmt} (h1:WS X κ os os' ol i s t M1):WSs X κ os os' ol i [s] t M1:=⟨Yc h1.ps,h1.ok⟩
theorem yA {j:Nat} {pos':Pos} (hN:X.N.Nodup) (hx:X.N[j]?=some x) (hlo:Loc X.env.scope x) (h:WE X κ true os i e te F) (hj:j≠i:=by decide) (hos:∀ y∈os,y≠j:=by decide)
  (hsw:swapsWith e (some (.Name x pos')) pos.line X.env=pure false:=by rfl) (hf:X.fn x=true\/X.env.scope.names.lookup x=some .local:=by first | exact .inl rfl | exact .inr rfl | assumption):WS X κ os os ol i (.Assign [.Name x pos'] e pos) (yX te (ZX j)) (jy j F):=⟨YI hN hx hlo h.pe hsw hf,ws_set h.ok hj hos⟩
theorem yY (h:WE X κ false os i e te F):WS X κ os os' ol i (.Return (some e) pos) (W4 te) (J9 F):=⟨Jx h.pe,ws_ret h.ok⟩
theorem jw (h:WE X κ false os i e te F) (hs:swapsWith e none pos.line X.env=pure false:=by rfl):WS X κ os os ol i (.Expr e pos) (YW te) (Jm F):=⟨Yy h.pe hs,ws_drop h.ok⟩
theorem jP {c:Expr} {as bs:List Stmt} {tc:TT} {g:Ev->List D->Option (Bool×List D)} (hc:WB X κ os i c tc g) (ha:WSs X κ os os' ol i as t M1) (hb:WSs X κ os os' ol i bs u M2):WS X κ os os' ol i (.If c as bs pos) (tIfS tc t u) (wIf g M1 M2):=⟨ps_if hc.pt ha.ps hb.ps,ws_if hc.ok ha.ok hb.ok⟩
theorem wst_for {tg iter:Expr} {body:List Stmt} {wi:TI} {g:TG} {tb:TS} {fi:Ev->Option (List D)} {ug:D->Ev->Option Ev} (hc:X.calm=true) (hi:SI X true os tg iter wi fi) (hg:SG X os tg g ug) (hk:GT i ug) (hb:WSs X κ os os os i body tb M1)
  (hp:PassesOwn (model X.prog X.w) X.A X.env X.xe:=by exact PassesOwn.never) (hs:∀ x,foldedSetIterable iter X.env x=pure x:=by intro _;rfl):WS X κ os os ol i (.For tg iter body [] pos) (tFor wi g tb) (wFor fi ug M1):=⟨ps_for hp hc hi.pi hg.pg hb.ps hs,ws_forOk hi.ok hg.ok hk hb.ok⟩
theorem wst_app {apos cpos:Pos} (h:WE X kL true os i e te F) (hN:X.N[i]?=some x:=by rfl) (hv:Vis X.env.scope x:=by first | exact Or.inl rfl | exact Or.inr (Or.inl rfl) | exact Or.inr (Or.inr rfl)) (hd:(x == ("__debug__":Str))=false:=by decide)
  (hcd:(x == ("__classdict__":Str))=false:=by decide) (hs1:starEach [e] X.env=(false,eval e X.env)::starEach [] X.env:=by rfl)
  (hbase:attributeBase (.Name x p) "append" X.env (eval (.Name x p) X.env)=eval (.Name x p) X.env:=by rfl)
  (hfew:((backTo cpos (starEach [e] X.env)).all (fun x=>!x.1)&&(backToKw cpos (keywordEach [] X.env)).all (fun x=>x.1.isSome)
   && decide ([e].length+([]:List Keyword).length+(if ([]:List Keyword).isEmpty then 0 else 1)<30))=true:=by rfl)
  (hline:(apos.endLine == cpos.line)=true:=by rfl) (hplain:(backTo cpos (starEach [] X.env)).any (·.1)=false:=by rfl) (hs:swapsWith (.Call (.Attribute (.Name x p) "append" apos) [e] [] cpos) none pos.line X.env=pure false:=by rfl) :
  WS X kL os os ol i (.Expr (.Call (.Attribute (.Name x p) "append" apos) [e] [] cpos) pos) (YW (tBM X.K "list" Yx (ZB i) (z6 te Z0))) (wApp F):=⟨Yy (pe_append h.pe hN hv hd hcd hs1 hbase hfew hline hplain) hs,ws_happ h.ok⟩
theorem wst_ext {apos cpos:Pos} {f:Ev->Option D} (h:SE X true os e te f) (hN:X.N[i]?=some x:=by rfl) (hv:Vis X.env.scope x:=by first | exact Or.inl rfl | exact Or.inr (Or.inl rfl) | exact Or.inr (Or.inr rfl)) (hd:(x == ("__debug__":Str))=false:=by decide)
  (hcd:(x == ("__classdict__":Str))=false:=by decide) (hs1:starEach [e] X.env=(false,eval e X.env)::starEach [] X.env:=by rfl)
  (hbase:attributeBase (.Name x p) "extend" X.env (eval (.Name x p) X.env)=eval (.Name x p) X.env:=by rfl)
  (hfew:((backTo cpos (starEach [e] X.env)).all (fun x=>!x.1)&&(backToKw cpos (keywordEach [] X.env)).all (fun x=>x.1.isSome)
   && decide ([e].length+([]:List Keyword).length+(if ([]:List Keyword).isEmpty then 0 else 1)<30))=true:=by rfl)
  (hline:(apos.endLine == cpos.line)=true:=by rfl) (hplain:(backTo cpos (starEach [] X.env)).any (·.1)=false:=by rfl) (hs:swapsWith (.Call (.Attribute (.Name x p) "extend" apos) [e] [] cpos) none pos.line X.env=pure false:=by rfl) :
  WS X kL os os ol i (.Expr (.Call (.Attribute (.Name x p) "extend" apos) [e] [] cpos) pos) (YW (tBM X.K "list" Gi (ZB i) (z6 te Z0))) (wExt f) :=
 ⟨Yy (pe_bm PySem.F.plainAttrs_list PySem.F.slot_list_extend PySem.F.type_list_extend mt_extendS (pv i hN hv hd hcd) (zP h.pe Zn hs1) hbase hfew hline hs1 hplain) hs,ws_hext h.ok⟩
theorem wst_hset {ik:Expr} {ti:TE} {fi:Ev->Option D} (h:WE X kL true os i e te F) (hk:SE X false os ik ti fi) (hN:X.N[i]?=some x:=by rfl) (hv:Vis X.env.scope x:=by first | exact Or.inl rfl | exact Or.inr (Or.inl rfl) | exact Or.inr (Or.inr rfl)) (hd:(x == ("__debug__":Str))=false:=by decide)
  (hcd:(x == ("__classdict__":Str))=false:=by decide) {spos:Pos} (ha:∀ v,assign (.Subscript (.Name x p) ik spos) X.env v=(do
   let ov <- holding [v] (eval (.Name x p) X.env)
   let iv <- holding [v,ov] (eval ik X.env)
   standAt spos
   holding [v,ov,iv] (setItem ov iv v)
   release [v,ov,iv] []):=by intro _;rfl) (hs:swapsWithSole [.Subscript (.Name x p) ik spos] e pos.line X.env=pure false:=by rfl) (hw:swappedStores [.Subscript (.Name x p) ik spos] e X.env=pure none:=by rfl)
  (h1:(assignEach [.Subscript (.Name x p) ik spos] X.env).map (·.2)=[assign (.Subscript (.Name x p) ik spos) X.env]:=by rfl) :
  WS X kL os os ol i (.Assign [.Subscript (.Name x p) ik spos] e pos) (yX te (gSub (ZB i) ti rSetL)) (Wi F fi):=⟨ps_asg h.pe (pg_sub (pv i hN hv hd hcd) hk.pe set_list ha) hs hw h1,ws_hset h.ok hk.ok⟩
end
section
variable {X:Cx} {κ:Kd} {os os' ol:List Nat} {i:Nat} {pos:Pos} {scope:Scope} {own N':List Str} {k:Nat} {elt target iter:Expr} {wi:TI} {g:TG} {te:TE} {fi:Ev->Option (List D)} {u:D->Ev->Option Ev} {F:WF}
theorem wst_setComp {j:Nat} {x:Str} {pos' spos:Pos} (hN:X.N.Nodup) (hix:X.N[j]?=some x) (hx:X.env.scope.names.lookup x=some .local) (c:CompOk X scope own N' k) (hc:X.calm=true) (hi:SI X true os target iter wi fi) (hg:∀ s₂ H₂ fp C,SG (ZC X scope own N' s₂ H₂ fp C) os target g u) (hk:GT i u)
  (he:∀ s₂ H₂ fp C,WE (ZC X scope own N' s₂ H₂ fp C) κ true os i elt te F) (hj:j≠i:=by decide) (hos:∀ y∈os,y≠j:=by decide) (hsw:swapsWith (.ListComp elt [⟨target,iter,[],0⟩] scope pos) (some (.Name x pos')) spos.line X.env=pure true:=by rfl)
  (hs:∀ x,foldedSetIterable iter X.env x=pure x:=by intro _;rfl):WS X κ os os ol i (.Assign [.Name x pos'] (.ListComp elt [⟨target,iter,[],0⟩] scope pos) spos) (yX (WN k wi g tYes te) (ZX j)) (jy j (wComp k fi u F)) :=
 ⟨Gk hN hix hx c hc hi.pi (fun a b c d=>(hg a b c d).pg) (fun a b c d=>(Yt (os:=os)).pf) (fun a b c d=>(he a b c d).pe) hsw hs,ws_set (wf_compOk hi.ok (hg X.s₀ X.Ud [] 0).ok hk (he X.s₀ X.Ud [] 0).ok).eok hj hos⟩
end
section
variable {P:Program} {w:World} {K:Frag} {κ:Kd} {mg:Str->Option Value} {base:Heap}
def jA (k n:Nat) (M:WM):List D->List D->Option (D×List D):=fun ds S=>if ds.length=k then (M (Za n ds) S).bind fun r=>(outD r.1).map fun d=>(d,r.2) else none
open Classical in
theorem JG {x qual:Str} {st:Stmt} {f:Addr} {fd:FuncData} {N ps:List Str} {k i0:Nat} {M:WM} (F:Fun K x qual st f fd) (S:FnScope N ps (zk st)) (hi0:i0<ps.length)
  (hbody:∀ (cdv:Value) (A:Around) (outer:List Env) (s:Shared) (H:Hp) (E:XK),Room k (A.deeper (PyProof.Rows.envOfC qual (zk st) s.heap.objs.size f cdv)) ->
   ∃ t os',WSs (cxOf CX0 P w K mg base N qual (zk st) f cdv A outer s H E).nox κ [] os' [] i0 (zM st) t M):FnOk P w K mg base CX0 (k+1) f fd ps (spW K κ i0 (jA ps.length N.length M)):=by
 refine F.ok S (fun vs H Q E h=>?_) (fun cdv A outer s H vs Q E hr h=>?_)
 ·obtain ⟨B,Pt,ds,d,S0,S',h,hB,hb,h1,r,e,q,_⟩:=h
  unfold jA at q
  split at q
  ·rw [r.length];assumption
  ·cases q
 ·obtain ⟨B,Pt,ds,d,S0,S',h,hB,hb,h1,r,e,q,kk⟩:=h
  unfold jA at q
  split at q
  case isFalse=>cases q
  rename_i hlen
  obtain ⟨⟨o,S1⟩,q1,q2⟩:=ze q
  obtain ⟨d',q3,q4⟩:=map_some q2
  cases q4
  obtain ⟨t,os',hS⟩:=hbody cdv A outer s H E hr
  have m0:=wT (N:=N) hB r
  have m1:Md K (fun b=>if Pt b then none else H b) B [] (L2.yH N vs) H (Za N.length ds):=⟨fun b o q=>by
   by_cases z:Pt b
   ·simp [z] at q
   ·simpa [z] using q,m0.blk,m0.len,m0.sh,fun i hi=>(by cases hi),fun i j a hi=>by cases hi⟩
  have slot:(Za N.length ds)[i0]?=some (some (.adr h)):=by
   unfold Za
   rw [QP (by rw [Qj];omega),QB,e];rfl
  have but:∀ {H':Hp},zX (fun b=>if Pt b then none else H b) H'->∀ b o,H b=some o->¬ Pt b->H' b=some o:=fun s b o q n=>s b o (by simpa [n] using q)
  refine ⟨t,hS.ps,hS.ok (fun b=>if Pt b then none else H b) B Pt h (L2.yH N vs) H (Za N.length ds) S0 o _ _ ⟨m1,hb,fun b z=>by simp [z],by rw [Y9];exact h1,slot,by simp⟩ q1 ?_⟩
  cases o with
  | nx ρ =>
   simp only [outD] at q3;cases q3
   exact fun σ' H' w'=>kk _ H' (but w'.md.grow) w'.out (by simp [Rep])
  | rt d' =>
   simp only [outD] at q3;cases q3
   exact fun v H' s' e1 _ r'=>kk v H' (but s') e1 r'
  | bk ρ=>cases q3
  | ct ρ=>cases q3
theorem _root_.L2.FnOk.noW {i0 k:Nat} {f:Addr} {fd:FuncData} {ps:List Str}:FnOk P w K mg base CX0 k f fd ps (spW K κ i0 fun _ _=>none) :=
 ⟨fun _ _ _ _ ⟨_,_,_,_,_,_,_,_,_,_,_,_,e,_⟩=>(nomatch e),fun _ _ _ _ _ _ _ _ _ _ _ _ _ ⟨_,_,_,_,_,_,_,_,_,_,_,_,e,_⟩=>(nomatch e)⟩
end
open Classical in
noncomputable def mLend (j:Nat) (M:WM):Ev->Option Out:=fun ρ=>(ρ[j]?.join).bind fun x=>(asL x).bind fun S =>
 if h:∃ r:Ev×List D,∀ a,M (ρ.set j (some (.adr a))) S=some (.nx (r.1.set j (some (.adr a))),r.2) then some (.nx (h.choose.1.set j (some (.lst h.choose.2)))) else none
theorem mLend_eq {j:Nat} {M:WM} {ρ ρ':Ev} {S S':List D} (h1:ρ[j]?=some (some (.lst S))) (h2:∀ a,M (ρ.set j (some (.adr a))) S=some (.nx (ρ'.set j (some (.adr a))),S')):mLend j M ρ=some (.nx (ρ'.set j (some (.lst S')))):=by
 have h:∃ r:Ev×List D,∀ a,M (ρ.set j (some (.adr a))) S=some (.nx (r.1.set j (some (.adr a))),r.2):=⟨(ρ',S'),h2⟩
 unfold mLend
 rw [h1]
 simp only [Option.join_some,oB,asL]
 rw [dif_pos h]
 have e:=(h.choose_spec 0).symm.trans (h2 0)
 have e1:h.choose.2=S':=by
  have:=congrArg (fun o=>o.map Prod.snd) e
  simpa using this
 have e2:h.choose.1.set j (some (.adr 0))=ρ'.set j (some (.adr 0)):=by
  have:=congrArg (fun o=>o.map Prod.fst) e
  simpa using this
 have e3:=congrArg (fun l=>l.set j (some (D.lst S'))) e2
 simp only [List.set_set] at e3
 rw [e1,e3]
section
variable {K:Frag} {fr:Bool} {os os1 ol ol1:List Nat} {j:Nat}
theorem sok_lend {t:TS} {M:WM} (hw:WOk K kL os1 os1 ol1 j t M) (hj:j∈os) (hn:j∉os1) (h1:∀ x∈os,x=j\/x∈os1) (h2:∀ x∈os1,x∈os):SOk K fr os os ol t (mLend j M):=fun Ud Ue σ H ρ o E mm q k=>by
 obtain ⟨x,q1,q2⟩:=ze q
 obtain ⟨S,q3,q4⟩:=ze q2
 split at q4
 case isFalse=>cases q4
 rename_i hc
 cases q4
 cases x <;> simp only [asL] at q3 <;> cases q3
 obtain ⟨a,ob,d,g1,g2,g3,g4,g5⟩:=mm.own j hj
 have q1':=Yg q1
 rw [q1'] at g2;cases g2
 cases ob <;> simp only [Own] at g5
 rename_i hs
 have hlj:j<ρ.length:=(Qm.mp q1').1
 have bl:∀ (σ':St),σ'[j]?=some (some (.ref a))->Bl (fun b=>Ue b\/b=a) os1 σ'=Bl Ue os σ':=fun σ' e=>funext fun b=>propext ⟨fun z=>by
  rcases z with (z | z) | ⟨x,hx,z⟩
  ·exact .inl z
  ·exact .inr ⟨j,hj,by rw [z];exact e⟩
  ·exact .inr ⟨x,h2 x hx,z⟩,fun z=>by
  rcases z with z | ⟨x,hx,z⟩
  ·exact .inl (.inl z)
  ·rcases h1 x hx with rfl | hx
   ·rw [e] at z;cases z;exact .inl (.inr rfl)
   ·exact .inr ⟨x,hx,z⟩⟩
 have w0:Wd K kL Ud (fun b=>Ue b\/b=a) (fun b=>b=a) os1 j a S σ H (ρ.set j (some (.adr a))):=by
  refine ⟨⟨mm.grow,fun b hb=>?_,by rw [Qo];exact mm.len,fun x d q n=>?_,fun x hx=>?_,fun x y b hx hy=>mm.sep x y b (h2 x hx) (h2 y hy)⟩,fun b hb=>.inr hb,fun b hb=>(by rw [hb];exact g4.1),⟨fun b=>Iff.rfl,hs,g3,by rw [bl σ g1];exact g5⟩,zN hlj,hn⟩
  ·rcases hb with hb | hb
   ·exact mm.blk b hb
   ·rw [hb];exact ⟨_,g3⟩
  ·by_cases e:x=j
   ·subst e
    rw [zN hlj] at q;cases q
    exact ⟨_,g1,by simp [Rep]⟩
   ·rw [zd e] at q
    obtain ⟨v,e1,e2⟩:=mm.sh x d q fun z=>(h1 x z).elim e n
    exact ⟨v,e1,by rw [bl σ g1];exact e2⟩
  ·have hne:x≠j:=fun e=>hn (e▸hx)
   obtain ⟨a',u,d,e1,e2,e3,e4,e5⟩:=mm.own x (h2 x hx)
   exact ⟨a',u,d,e1,by rw [zd hne];exact e2,e3,⟨e4.1,fun z=>z.elim e4.2 fun z=>hne (mm.sep x j a (h2 x hx) hj (by rw [<- z];exact e1) g1)⟩,by rw [bl σ g1];exact e5⟩
 refine hw Ud _ _ a σ H _ S _ _ E w0 (hc.choose_spec a) ?_
 generalize hc.choose=r at *
 intro σ' H' w'
 obtain ⟨p,hs',f1,f2⟩:=w'.at_
 have rf:=w'.ref
 have hl':j<r.1.length:=by
  have:=(Qm.mp w'.slot).1
  simpa using this
 refine k σ' H' ⟨w'.md.grow,fun b hb=>w'.md.blk b (.inl hb),by have:=w'.md.len;rw [Qo] at this ⊢;exact this,fun x d q n=>?_,fun x hx=>?_,fun x y b hx hy e1 e2=>?_⟩
 ·have hne:x≠j:=fun e=>n (e▸hj)
  rw [zd hne] at q
  obtain ⟨v,e1,e2⟩:=w'.md.sh x d (by rw [zd hne];exact q) fun z=>n (h2 x z)
  exact ⟨v,e1,by rw [<- bl σ' rf];exact e2⟩
 ·rcases h1 x hx with rfl | hx'
  ·exact ⟨a,_,_,rf,zN hl',f1,g4,by simp only [Own];rw [<- bl σ' rf];exact f2⟩
  ·have hne:x≠j:=fun e=>hn (e▸hx')
   obtain ⟨a',u,d,e1,e2,e3,e4,e5⟩:=w'.md.own x hx'
   rw [zd hne] at e2
   exact ⟨a',u,d,e1,by rw [zd hne];exact e2,e3,⟨e4.1,fun z=>e4.2 (.inl z)⟩,by rw [<- bl σ' rf];exact e5⟩
 ·rcases h1 x hx with rfl | hx' <;> rcases h1 y hy with e | hy'
  ·exact e.symm
  ·rw [rf] at e1;cases e1
   obtain ⟨a',u,d,c1,c2,c3,c4,c5⟩:=w'.md.own y hy'
   rw [e2] at c1;cases c1
   exact absurd (.inr rfl) c4.2
  ·subst e
   rw [rf] at e2;cases e2
   obtain ⟨a',u,d,c1,c2,c3,c4,c5⟩:=w'.md.own x hx'
   rw [e1] at c1;cases c1
   exact absurd (.inr rfl) c4.2
  ·exact w'.md.sep x y b hx' hy' e1 e2
end
theorem ss_lend {X:Cx} {fr:Bool} {os os1 ol ol1:List Nat} {j:Nat} {s:Stmt} {t:TS} {M1:WM} (hw:WS X kL os1 os1 ol1 j s t M1) (hj:j∈os:=by decide) (hn:j∉os1:=by decide) (h1:∀ x∈os,x=j\/x∈os1:=by decide) (h2:∀ x∈os1,x∈os:=by decide):SS X fr os os ol s t (mLend j M1):=⟨hw.ps,sok_lend hw.ok hj hn h1 h2⟩
theorem se_globT {X:Cx} {st:Bool} {os:List Nat} {x:Str} {a:Addr} {o:Obj} {its:Array Value} {n:Nat} {ds:List D} {vs:List V} {pos:Pos} (hg:Gl X x) (hm:X.mg x=some (.ref a)) (hl:X.K.lookup a=some o) (hc:o.cls=.type "tuple") (hd:o.data=.seq its n) (hz:its.size<=sizeLine) (hv:zV vs its.toList)
  (hr:∀ H B,zt X.K H B ds vs) (hdb:(x == ("__debug__":Str))=false:=by decide):SE X st os (.Name x pos) (tC (.ref a)) (fC (.tup ds)) :=
 ⟨pe_glob hg hm rfl hdb,fun Ud Ue σ H ρ d Q m q k=>by
  cases q
  refine k _ H (.refl H) ?_
  simp only [Rep]
  exact ⟨a,vs,rfl,.inr ⟨o,its,n,hl,hc,hd,hz,hv⟩,hr _ _⟩⟩
abbrev lFs (vb vl:V) (c:Int) (s:Addr):List (Str×V):=[("bodies",vb),("laying",vl),("count",.int c),("steps",.ref s)]
def kO (C:Addr):Kd where
 hd K H B P h S:=∃ (dx s:Addr) (hs:List V) (c:Int) (vb vl:V) (b l:D) (st:List D),(∀ x,P x↔x=h\/x=s)/\h≠s/\H h=some (.ins C dx (lFs vb vl c s))/\H s=some (.lst hs)/\S=.int c::b::l::st/\Rep K H B b vb/\Rep K H B l vl/\zt K H B st hs
 mtb:=fun ⟨dx,s,hs,c,vb,vl,b,l,st,p,ne,h1,h2,_⟩ x hx=>by
  rcases (p x).1 hx with rfl | rfl
  ·exact ⟨_,h1,trivial⟩
  ·exact ⟨_,h2,trivial⟩
 goes:=fun ⟨dx,s,hs,c,vb,vl,b,l,st,p,ne,h1,h2,e,r1,r2,r3⟩ g k=>⟨dx,s,hs,c,vb,vl,b,l,st,p,ne,k _ _ ((p _).2 (.inl rfl)) h1,k _ _ ((p _).2 (.inr rfl)) h2,e,Rep.goes g _ _ r1,Rep.goes g _ _ r2,zt.goes g _ _ r3⟩
structure LCls (K:Frag) (C:Addr):Prop where
 cls:Cls K C
 nb:jb K C "bodies"
 nl:jb K C "laying"
 nc:jb K C "count"
 ns:jb K C "steps"
def wFld (n:Nat):WF:=fun ρ S=>(S[n]?).map fun d=>(d,S)
section
variable {K:Frag} {C:Addr} {os os' ol:List Nat} {i:Nat} {st:Bool}
theorem we_cnt (T:LCls K C):YE K (kO C) st os i (W5 K (ZB i) "count") (wFld 0):=fun Ud Ue P h σ H ρ S d S' Q w q k=>by
 obtain ⟨dx,s,hs,c,vb,vl,b,l,sts,p,ne,h1,h2,e,r1,r2,r3⟩:=w.at_
 subst e
 cases q
 exact ⟨.ref h,w.ref,h,C,dx,_,.int c,rfl,h1,T.cls,T.nc,rfl,k _ H (fun b o q _=>q) w (by simp [Rep])⟩
theorem we_bod (T:LCls K C):YE K (kO C) st os i (W5 K (ZB i) "bodies") (wFld 1):=fun Ud Ue P h σ H ρ S d S' Q w q k=>by
 obtain ⟨dx,s,hs,c,vb,vl,b,l,sts,p,ne,h1,h2,e,r1,r2,r3⟩:=w.at_
 subst e
 cases q
 exact ⟨.ref h,w.ref,h,C,dx,_,vb,rfl,h1,T.cls,T.nb,rfl,k _ H (fun b o q _=>q) w r1.low⟩
theorem we_lay (T:LCls K C):YE K (kO C) st os i (W5 K (ZB i) "laying") (wFld 2):=fun Ud Ue P h σ H ρ S d S' Q w q k=>by
 obtain ⟨dx,s,hs,c,vb,vl,b,l,sts,p,ne,h1,h2,e,r1,r2,r3⟩:=w.at_
 subst e
 cases q
 exact ⟨.ref h,w.ref,h,C,dx,_,vl,rfl,h1,T.cls,T.nl,rfl,k _ H (fun b o q _=>q) w r2.low⟩
def wIxL (F:WF) (fk:Ev->Option D):WF:=fun ρ S=>(F ρ S).bind fun r=>(asL r.1).bind fun ds=>(fk ρ).bind fun d=>(asI d).bind fun k=>(atI ds k).map fun x=>(x,r.2)
theorem we_wixOk {κ:Kd} {ta tb:TE} {F:WF} {fk:Ev->Option D} (ha:YE K κ true os i ta F) (hb:EOk K true os tb fk):YE K κ st os i (tOp (rIxL K) ta tb) (wIxL F fk):=fun Ud Ue P h σ H ρ S d S' Q w q k=>by
 obtain ⟨⟨y,S1⟩,q1,qa⟩:=ze q
 obtain ⟨ds,q2,qb⟩:=ze qa
 obtain ⟨dk,q3,qc⟩:=ze qb
 obtain ⟨n,q4,qd⟩:=ze qc
 obtain ⟨x,q5,q6⟩:=map_some qd
 cases q6
 cases y <;> simp only [asL] at q2 <;> cases q2
 refine ha Ud Ue P h σ H ρ S _ S1 _ w q1 fun v H1 k1 w1 r1=>?_
 refine hb Ud Ue σ H1 ρ dk _ w1.md q3 fun u H2 s2 r2=>?_
 have e2:=asI_v r2 q4
 subst e2
 have r1':Rep K H2 (Bl Ue os σ) (.lst ds) v:=Rep.up s2 r1
 simp only [Rep] at r1'
 obtain ⟨a,xs,rfl,hq,hr⟩:=r1'
 obtain ⟨v,e1,r3⟩:=hr.atI q5
 exact ⟨a,xs,n,v,rfl,rfl,.inl hq.1,e1,k v H2 (fun b o q n=>s2 _ _ (k1 _ _ q n)) (w1.up s2) r3.low⟩
def wDGet (F:WF) (fk:Ev->Option D):WF:=fun ρ S=>(F ρ S).bind fun r=>(fk ρ).bind fun y=>(GH r.1 y).map fun x=>(x,r.2)
theorem we_wdgetOk {κ:Kd} {ta tb:TE} {F:WF} {fk:Ev->Option D} (ha:YE K κ true os i ta F) (hb:EOk K true os tb fk):YE K κ st os i (tDGet ta tb) (wDGet F fk):=fun Ud Ue P h σ H ρ S d S' Q w q k=>by
 obtain ⟨⟨x,S1⟩,q1,qa⟩:=ze q
 obtain ⟨y,q2,qb⟩:=ze qa
 obtain ⟨z,h4,q6⟩:=map_some qb
 cases q6
 refine ha Ud Ue P h σ H ρ S _ S1 _ w q1 fun v H1 k1 w1 r1=>?_
 refine hb Ud Ue σ H1 ρ y _ w1.md q2 fun u H2 s2 r2=>?_
 cases x <;> cases y <;> simp only [GH] at h4 <;> try (cases h4)
 have r1':=Rep.up s2 r1
 simp only [Rep] at r1' r2
 obtain ⟨b,kvs,rfl,⟨hb,_⟩,rfl,hr⟩:=r1'
 subst r2
 obtain ⟨w',g1,g2⟩:=look_v hr h4
 exact ⟨b,w',rfl,by rw [<- g1];exact DGet.k (k:=.inl _) hb,k w' H2 (fun b o q n=>s2 _ _ (k1 _ _ q n)) (w1.up s2) g2.low⟩
def wInc:WM:=fun ρ S=>match S with
 | .int c::r=>some (.nx ρ,.int (c+1)::r)
 | _=>none
theorem ws_inc (T:LCls K C):WOk K (kO C) os os ol i (sFldAug K (ZB i) (tC (.int 1)) rAdd "count") wInc:=fun Ud Ue P h σ H ρ S o S' E w q k=>by
 obtain ⟨dx,s,hs,c,vb,vl,b,l,sts,p,ne,h1,h2,e,r1,r2,r3⟩:=w.at_
 subst e
 cases q
 refine ⟨.ref h,w.ref,h,C,dx,_,.int c,rfl,h1,T.cls,T.nc,rfl,c,1,rfl,rfl,dx,_,h1,by show 4<1000;decide,?_⟩
 have hk:∀ b o,H b=some o->¬ P b->upd H h (.ins C dx (lFs vb vl (c+1) s)) b=some o:=fun b o q n=>by rw [zx (fun e=>n ((p b).2 (.inl e)))];exact q
 have g:=w.goes hk
 exact k σ _ (w.write hk ⟨dx,s,hs,c+1,vb,vl,b,l,sts,p,ne,zw,by rw [zx (Ne.symm ne)];exact h2,rfl,Rep.goes g _ _ r1,Rep.goes g _ _ r2,zt.goes g _ _ r3⟩)
def wStep (f:Ev->Option D):WM:=fun ρ S=>(f ρ).bind fun d=>if S.length<sizeLine then some (.nx ρ,S++[d]) else none
theorem ws_step (T:LCls K C) {te:TE} {f:Ev->Option D} (he:EOk K true os te f):WOk K (kO C) os os ol i (YW (tBM K "list" Yx (W5 K (ZB i) "steps") (z6 te Z0))) (wStep f):=fun Ud Ue P h σ H ρ S o S' E w q k=>by
 obtain ⟨d,q1,q2⟩:=ze q
 split at q2
 case isFalse=>cases q2
 rename_i hl
 cases q2
 obtain ⟨dx,s,hs,c,vb,vl,b,l,sts,p,ne,h1,h2,e,r1,r2,r3⟩:=w.at_
 subst e
 refine ⟨.ref h,w.ref,h,C,dx,_,.ref s,rfl,h1,T.cls,T.ns,rfl,.inl ⟨rfl,hs,.inl (.inl h2)⟩,?_⟩
 refine he Ud Ue σ H ρ d _ w.md q1 fun v H' s' r=>?_
 have w':=w.up s'
 have hk:∀ b o,H' b=some o->¬ P b->upd H' s (.lst (hs++[v])) b=some o:=fun b o q n=>by rw [zx (fun e=>n ((p b).2 (.inr e)))];exact q
 have g:=w'.goes hk
 have hlen:hs.length<sizeLine:=by rw [r3.length];simp only [Qe] at hl;omega
 exact ⟨s,hs,v,rfl,rfl,s' _ _ h2,hlen,k σ _ (w'.write hk ⟨dx,s,hs++[v],c,vb,vl,b,l,sts++[d],p,ne,by rw [zx ne];exact s' _ _ h1,zw,rfl,Rep.goes g _ _ (r1.up s'),Rep.goes g _ _ (r2.up s'),zt.goes g _ _ ((r3.up s').append (.one r))⟩)⟩
def jz (i:Nat) (mf:List D->List D->Option (D×List D)) (G:WL):WF:=fun ρ S=>(ρ[i]?.join).bind fun x=>(G ρ S).bind fun r=>mf (x::r.1) r.2
theorem we_methOk {mn:Str} {mf:List D->List D->Option (D×List D)} {tl:TA} {G:WL} (hm:∀ vb vl c s,(lFs vb vl c s).lookup mn=none) (ha:WAOk K (kO C) os i tl G):YE K (kO C) st os i (tMeth C mn (spW K (kO C) 0 mf) [] E0 (ZB i) tl) (jz i mf G):=fun Ud Ue P h σ H ρ S d S' Q w q k=>by
 obtain ⟨x,q0,q⟩:=ze q
 obtain ⟨⟨ds,S1⟩,q1,q2⟩:=ze q
 have ex:=Yg q0
 rw [w.slot] at ex
 cases ex
 obtain ⟨dx,s,hs,c,vb,vl,b,l,sts,p,ne,h1,h2,e,r1,r2,r3⟩:=w.at_
 refine ⟨.ref h,w.ref,h,dx,_,rfl,h1,hm _ _ _ _,?_⟩
 refine ha Ud Ue P h σ H ρ S ds S1 _ w q1 fun vs H1 k1 w1 r=>?_
 rw [Pa]
 refine ⟨Bl Ue os σ,P,_,d,S1,S',h,fun a ha=>w1.md.tracked ha,fun b hb=>.inl (w1.blk b hb),w1.at_,.cons (by simp [Rep]) r,rfl,q2,fun v H' hk r1 r2=>?_⟩
 exact k v H' (fun b o q n=>hk _ _ (k1 _ _ q n) n) (w1.write hk r1) r2.low
end
section
variable {X:Cx} {C:Addr} {os os' ol:List Nat} {i:Nat} {st:Bool} {x:Str} {p pos:Pos}
theorem wl_fld {f:Str} {F:WF} (hw:YE X.K (kO C) st os i (W5 X.K (ZB i) f) F) (hN:X.N[i]?=some x:=by rfl) (hv:Vis X.env.scope x:=by first | exact Or.inl rfl | exact Or.inr (Or.inl rfl) | exact Or.inr (Or.inr rfl)) (hd:(x == ("__debug__":Str))=false:=by decide)
  (hcd:(x == ("__classdict__":Str))=false:=by decide) (hb:attributeBase (.Name x p) f X.env (eval (.Name x p) X.env)=eval (.Name x p) X.env:=by rfl):WE X (kO C) st os i (.Attribute (.Name x p) f pos) (W5 X.K (ZB i) f) F:=⟨pe_fld (pv i hN hv hd hcd) hb,hw⟩
theorem wl_ix {κ:Kd} {a b:Expr} {ta tb:TE} {F:WF} {fk:Ev->Option D} (ha:WE X κ true os i a ta F) (hb:SE X true os b tb fk) (hs:Wf b:=by intro _ _;rfl) {K':Frag} (hK:X.K=K':=by rfl):WE X κ st os i (.Subscript a b pos) (tOp (rIxL K') ta tb) (wIxL F fk):=by
 subst hK
 exact ⟨wR j7 ha.pe hb.pe hs,we_wixOk ha.ok hb.ok⟩
theorem wl_dget {κ:Kd} {k:Nat} {a b:Expr} {ta tb:TE} {F:WF} {fk:Ev->Option D} (hr:Room k X.A) (ha:WE X κ true os i a ta F) (hb:SE X true os b tb fk) (hs:NoSl b:=by intro _ _;rfl):WE X κ st os i (.Subscript a b pos) (tDGet ta tb) (wDGet F fk):=⟨pe_dget (hu_of hr) ha.pe hb.pe hs,we_wdgetOk ha.ok hb.ok⟩
theorem wl_inc {tpos:Pos} {j:Nat} {cp:Pos} (T:LCls X.K C) (hN:X.N[i]?=some x:=by rfl) (hv:Vis X.env.scope x:=by first | exact Or.inl rfl | exact Or.inr (Or.inl rfl) | exact Or.inr (Or.inr rfl)) (hd:(x == ("__debug__":Str))=false:=by decide)
  (hcd:(x == ("__classdict__":Str))=false:=by decide):WS X (kO C) os os ol i (.AugAssign (.Attribute (.Name x p) "count" tpos) .Add (.Constant (.int 1) j cp) pos) (sFldAug X.K (ZB i) (tC (.int 1)) rAdd "count") wInc:=⟨ps_fldaug (pv i hN hv hd hcd) Yd in_add,ws_inc T⟩
theorem wl_step {e:Expr} {te:TE} {f:Ev->Option D} {apos bpos cpos:Pos} (T:LCls X.K C) (h:SE X true os e te f) (hN:X.N[i]?=some x:=by rfl) (hv:Vis X.env.scope x:=by first | exact Or.inl rfl | exact Or.inr (Or.inl rfl) | exact Or.inr (Or.inr rfl)) (hd:(x == ("__debug__":Str))=false:=by decide)
  (hcd:(x == ("__classdict__":Str))=false:=by decide) (hb:attributeBase (.Name x p) "steps" X.env (eval (.Name x p) X.env)=eval (.Name x p) X.env:=by rfl) (hs1:starEach [e] X.env=(false,eval e X.env)::starEach [] X.env:=by rfl)
  (hbase:attributeBase (.Attribute (.Name x p) "steps" bpos) "append" X.env (eval (.Attribute (.Name x p) "steps" bpos) X.env)=eval (.Attribute (.Name x p) "steps" bpos) X.env:=by rfl)
  (hfew:((backTo cpos (starEach [e] X.env)).all (fun x=>!x.1)&&(backToKw cpos (keywordEach [] X.env)).all (fun x=>x.1.isSome)
   && decide ([e].length+([]:List Keyword).length+(if ([]:List Keyword).isEmpty then 0 else 1)<30))=true:=by rfl)
  (hline:(apos.endLine == cpos.line)=true:=by rfl) (hplain:(backTo cpos (starEach [] X.env)).any (·.1)=false:=by rfl) (hs:swapsWith (.Call (.Attribute (.Attribute (.Name x p) "steps" bpos) "append" apos) [e] [] cpos) none pos.line X.env=pure false:=by rfl) :
  WS X (kO C) os os ol i (.Expr (.Call (.Attribute (.Attribute (.Name x p) "steps" bpos) "append" apos) [e] [] cpos) pos) (YW (tBM X.K "list" Yx (W5 X.K (ZB i) "steps") (z6 te Z0))) (wStep f) :=
 ⟨Yy (pe_bm PySem.F.plainAttrs_list PySem.F.slot_list_append PySem.F.type_list_append jG (pe_fld (pv i hN hv hd hcd) hb) (zP h.pe Zn hs1) hbase hfew hline hs1 hplain) hs,ws_step T h.ok⟩
variable {k:Nat} {fn:Addr} {fd:FuncData} {ps:List Str} {mf:List D->List D->Option (D×List D)} {mn:Str}
theorem wG {pl:Sem Bool} {e:Expr} {es:List Expr} {tl:TA} {G:WL} {apos:Pos} (T:LCls X.K C) (hm:Meth X.K C mn fn) (F:FnOk X.prog X.w X.K X.mg X.base CX0 k fn fd ps (spW X.K (kO C) 0 mf)) (hr:Room k X.A) (hb:Zk X.K fd ps []) (ha:WA X (kO C) os i (e::es) tl G)
  (hl:∀ vb vl c s,(lFs vb vl c s).lookup mn=none) (hN:X.N[i]?=some x:=by rfl) (hv:Vis X.env.scope x:=by first | exact Or.inl rfl | exact Or.inr (Or.inl rfl) | exact Or.inr (Or.inr rfl)) (hd:(x == ("__debug__":Str))=false:=by decide) (hcd:(x == ("__classdict__":Str))=false:=by decide)
  (hst:starEach (e::es) X.env=(false,eval e X.env)::starEach es X.env:=by rfl) (hpl:(backTo pos (starEach es X.env)).any (·.1)=false:=by rfl)
  (ht:eval (.Call (.Attribute (.Name x p) mn apos) (e::es) [] pos) X.env=(do
   let ov <- eval (.Name x p) X.env
   standAt apos.atName
   let (f,first) <- holding [ov] (getMethod ov mn pl)
   callWith pos f first (backTo pos (starEach (e::es) X.env)) (backToKw pos (keywordEach [] X.env))):=by rfl) {K':Frag} (hK:X.K=K':=by rfl) :
  WE X (kO C) st os i (.Call (.Attribute (.Name x p) mn apos) (e::es) [] pos) (tMeth C mn (spW K' (kO C) 0 mf) [] E0 (ZB i) tl) (jz i mf G):=by
 subst hK
 exact ⟨pe_meth (pv i hN hv hd hcd) T.cls hm F hr hb .nil Gp ha.pa hst hpl ht,we_methOk hl ha.ok⟩
theorem gE {pl:Sem Bool} {apos:Pos} (T:LCls X.K C) (hm:Meth X.K C mn fn) (F:FnOk X.prog X.w X.K X.mg X.base CX0 k fn fd ps (spW X.K (kO C) 0 mf)) (hr:Room k X.A) (hb:Zk X.K fd ps [])
  (hl:∀ vb vl c s,(lFs vb vl c s).lookup mn=none) (hN:X.N[i]?=some x:=by rfl) (hv:Vis X.env.scope x:=by first | exact Or.inl rfl | exact Or.inr (Or.inl rfl) | exact Or.inr (Or.inr rfl)) (hd:(x == ("__debug__":Str))=false:=by decide) (hcd:(x == ("__classdict__":Str))=false:=by decide)
  (ht:eval (.Call (.Attribute (.Name x p) mn apos) [] [] pos) X.env=(do
   let ov <- eval (.Name x p) X.env
   standAt apos.atName
   let (f,first) <- holding [ov] (getMethod ov mn pl)
   callWith pos f first (backTo pos (starEach [] X.env)) (backToKw pos (keywordEach [] X.env))):=by rfl) {K':Frag} (hK:X.K=K':=by rfl) :
  WE X (kO C) st os i (.Call (.Attribute (.Name x p) mn apos) [] [] pos) (tMeth C mn (spW K' (kO C) 0 mf) [] E0 (ZB i) Z0) (jz i mf (wL zu)):=by
 subst hK
 exact ⟨pe_meth0 (pv i hN hv hd hcd) T.cls hm F hr hb .nil Gp ht,we_methOk hl (wa_lift zr.ok)⟩
end
def inCls (s:Stmt) (j:Nat):Stmt:=match s with
 | .ClassDef _ _ _ body _ _ _ _ _ _ _=>body.getD j (.Pass ⟨0,0,0,0⟩)
 | _=>.Pass ⟨0,0,0,0⟩
def gP (K:Frag) (C:Addr) (m:List D->Option D):Sp:=fun vs H Q _=>∃ (B:Addr->Prop) (x dx:Addr) (vb:V) (b l:D),vs=[.ref x,vb]/\(∀ a,B a->∃ o,H a=some o)/\H x=some (.ins C dx [])/\Rep K H (fun c=>B c\/c=x) b vb/\m [b]=some l /\
 ∀ H' s vl,(∀ c o,H c=some o->c≠x->H' c=some o)->s≠x->H s=none->H' s=some (.lst [])->H' x=some (.ins C dx (lFs vb vl 1 s))->Rep K H' (fun c=>B c\/c=x\/c=s) b vb->Rep K H' (fun c=>B c\/c=x\/c=s) l vl->Q .non H'
abbrev tInit (K:Frag) (m:List D->Option D):TS:=YM (sFld K (ZB 0) (ZB 1) "bodies") (YM (sFld K (ZB 0) (gK (spM K m) [] E0 (z6 (ZB 1) Z0)) "laying") (YM (sFld K (ZB 0) (tC (.int 1)) "count") (sFld K (ZB 0) (tLst Z0) "steps")))
theorem init_read {K:Frag} {C:Addr} {m:List D->Option D} (T:LCls K C) {vs:List V} {H:Hp} {Q:VK} {E:XK} (h:gP K C m vs H Q E):tInit K m { nx:=fun _ H'=>Q .non H',rt:=Q } (L2.yH ["self","bodies"] vs) H:=by
 obtain ⟨B,x,dx,vb,b,l,rfl,hB,hx,rb,hm,k⟩:=h
 refine ⟨vb,rfl,.ref x,rfl,x,C,dx,[],rfl,hx,T.cls,T.nb,by show 0<1000;decide,?_⟩
 refine ⟨vb,rfl,?_⟩
 have ux:∀ {H1:Hp} {o:HO},upd H1 x o x=some o:=zw
 have un:∀ {H1:Hp} {o:HO} {c:Addr},c≠x->upd H1 x o c=H1 c:=fun n=>zx n
 refine ⟨fun c=>B c\/c=x,[b],l,fun a ha=>?_,.cons (Rep.goes (Goes.write (B:=fun c=>B c\/c=x) (.inr rfl) hx trivial) _ _ rb) .nil,hm,fun vl H2 s2 r2=>?_⟩
 ·by_cases e:a=x
  ·rw [e];exact ⟨_,ux⟩
  ·rw [un e];exact hB a (ha.resolve_right e)
 have h2x:=s2 _ _ (ux (H1:=H) (o:=.ins C dx (Ji "bodies" vb [])))
 refine ⟨.ref x,rfl,x,C,dx,_,rfl,h2x,T.cls,T.nl,by show 1<1000;decide,?_⟩
 refine ⟨.ref x,rfl,x,C,dx,_,rfl,ux,T.cls,T.nc,by show 2<1000;decide,?_⟩
 refine ⟨by show 0<=_;omega,fun s hs=>?_⟩
 have hsx:s≠x:=fun e=>by rw [e,ux] at hs;cases hs
 refine ⟨.ref x,rfl,x,C,dx,_,rfl,by rw [zx (Ne.symm hsx)];exact ux,T.cls,T.ns,by show 3<1000;decide,?_⟩
 have hs2:H2 s=none:=by rwa [un hsx,un hsx] at hs
 have f2:∀ c o,H2 c=some o->c≠x->∀ (o1 o2 o3 o4:HO),upd (upd (upd (upd H2 x o1) x o2) s o3) x o4 c=some o:=fun c o q n o1 o2 o3 o4=>by
  rw [un n,zx (fun e=>by rw [e,hs2] at q;cases q),un n,un n];exact q
 have f0:∀ c o,H c=some o->c≠x->H2 c=some o:=fun c o q n=>s2 _ _ (by rw [un n];exact q)
 have hs0:H s=none:=by
  cases q:H s with
  | none=>rfl
  | some o=>have:=f0 s o q hsx;rw [hs2] at this;cases this
 refine k _ s vl (fun c o q n=>f2 c o (f0 c o q n) n _ _ _ _) hsx hs0 (by rw [un hsx];exact zw) ux ?_ ?_
 ·refine Rep.goes (YA (P:=fun c=>c=x) (fun c o q n=>f2 c o (f0 c o q n) n _ _ _ _) (fun c o z q=>by rw [z,hx] at q;cases q;trivial) (fun c z=>.inr z) fun c z=>?_) _ _ rb
  rcases z with z | z | z
  ·exact .inl (.inl z)
  ·exact .inl (.inr z)
  ·exact .inr (by rw [z];exact hs0)
 ·refine Rep.goes (YA (P:=fun c=>c=x) (fun c o q n=>f2 c o q n _ _ _ _) (fun c o z q=>by rw [z,h2x] at q;cases q;trivial) (fun c z=>.inr z) fun c z=>?_) _ _ r2
  rcases z with z | z | z
  ·exact .inl (.inl z)
  ·exact .inl (.inr z)
  ·exact .inr (by rw [z];exact hs2)
def TL (K:Frag) (H H':Hp) (B:Addr->Prop) (d:D) (v:V):Prop:=∃ (p s:Addr) (c e:Int) (hs:List V) (st:List D),v=.ref p/\d=.tup [.int c,.lst st,.int e]/\H s=none/\H' s=some (.lst hs)/\SqT K H' p [.int c,.ref s,.int e]/\zt K H' (fun b=>B b\/b=s) st hs
theorem TL.rep {K:Frag} {H H':Hp} {B:Addr->Prop} {d:D} {v:V} (h:TL K H H' B d v) (hB:∀ a,B a->∃ o,H a=some o):Rep K H' B d v:=by
 obtain ⟨p,s,c,e,hs,st,rfl,rfl,h1,h2,h3,h4⟩:=h
 have nb:¬ B s:=fun z=>by obtain ⟨o,q⟩:=hB s z;rw [h1] at q;cases q
 simp only [Rep]
 exact ⟨p,_,rfl,h3,.cons (by simp [Rep]) (.cons (by
  simp only [Rep]
  exact ⟨s,hs,rfl,⟨.inl h2,nb⟩,zt.goes (.less (fun _ z=>.inl z) (.refl H')) _ _ h4⟩) (.cons (by simp [Rep]) .nil))⟩
def spL (K:Frag) (m:List D->Option D):Sp:=fun vs H Q _=>∃ (B:Addr->Prop) (ds:List D) (d:D),(∀ a,B a->∃ o,H a=some o)/\zt K H B ds vs/\m ds=some d/\∀ v H',zX H H'->TL K H H' B d v->Q v H'
theorem _root_.L2.FnOk.told {P:Program} {w:World} {K:Frag} {mg:Str->Option Value} {base:Heap} {k:Nat} {f:Addr} {fd:FuncData} {ps:List Str} {m:List D->Option D} (h:FnOk P w K mg base CX0 k f fd ps (spL K m)):FnOk P w K mg base CX0 k f fd ps (spM K m) :=
 have z:∀ {vs:List V} {H:Hp} {Q:VK} {E:XK},spM K m vs H Q E->spL K m vs H Q E:=fun ⟨B,ds,d,hB,r,q,kk⟩=>⟨B,ds,d,hB,r,q,fun v H' s t=>kk v H' s (t.rep hB)⟩
 ⟨fun vs H Q E x=>h.len vs H Q E (z x),fun A outer s H bd us vs Q E hr I hb r x=>h.run A outer s H bd us vs Q E hr I hb r (z x)⟩
open Classical in
noncomputable def mLaid (mp:List D->Option D) (f:Ev->Option D) (M2:WM):Ev->Option Out:=fun ρ=>(f ρ).bind fun b=>(mp [b]).bind fun l =>
 if h:∃ r:Int×List D,∀ a,∃ ρ',M2 (ρ.set 1 (some (.adr a))) [.int 1,b,l]=some (.nx ρ',r.2)/\ρ'[2]?=some (some (.int r.1)) then
  match h.choose.2 with
  | .int c::_::_::st=>some (.rt (.tup [.int c,.lst st,.int h.choose.1]))
  | _=>none
 else none
theorem mLaid_eq {mp:List D->Option D} {f:Ev->Option D} {M2:WM} {ρ:Ev} {b l b' l':D} {c e:Int} {st:List D} (h1:f ρ=some b) (h2:mp [b]=some l) (h3:∀ a,∃ ρ',M2 (ρ.set 1 (some (.adr a))) [.int 1,b,l]=some (.nx ρ',.int c::b'::l'::st)/\ρ'[2]?=some (some (.int e))) :
  mLaid mp f M2 ρ=some (.rt (.tup [.int c,.lst st,.int e])):=by
 have h:∃ r:Int×List D,∀ a,∃ ρ',M2 (ρ.set 1 (some (.adr a))) [.int 1,b,l]=some (.nx ρ',r.2)/\ρ'[2]?=some (some (.int r.1)):=⟨(e,_),h3⟩
 unfold mLaid
 rw [h1]
 simp only [oB]
 rw [h2]
 simp only [oB]
 rw [dif_pos h]
 obtain ⟨ρ1,a1,a2⟩:=h.choose_spec 0
 obtain ⟨ρ2,b1,b2⟩:=h3 0
 rw [b1] at a1
 injection a1 with a1
 injection a1 with a1 a3
 injection a1 with a1
 subst a1
 rw [b2] at a2
 injection a2 with a2
 injection a2 with a2
 injection a2 with a2
 rw [<- a2,<- a3]
abbrev tLaid (K:Frag) (C:Addr) (mp:List D->Option D) (te:TE) (t2:TS):TS:=YM (yX (tMake C (gP K C mp) [] E0 (z6 te Z0)) (ZX 1)) (YM t2 (W4 (gJ (z6 (W5 K (ZB 1) "count") (z6 (W5 K (ZB 1) "steps") (z6 (ZB 2) Z0))))))
section
variable {P:Program} {w:World} {K:Frag} {mg:Str->Option Value} {base:Heap} {C:Addr}
theorem fnLaid_ok {x qual:Str} {st:Stmt} {f:Addr} {fd:FuncData} {N ps:List Str} {k:Nat} {mp:List D->Option D} {fe:Ev->Option D} {M2:WM} (T:LCls K C) (F:Fun K x qual st f fd) (S:FnScope N ps (zk st)) (hps:ps.length=1) (hN:N.length=3)
  (hbody:∀ (cdv:Value) (A:Around) (outer:List Env) (s:Shared) (H:Hp) (E:XK),Room k (A.deeper (PyProof.Rows.envOfC qual (zk st) s.heap.objs.size f cdv)) ->
   ∃ te t2,PSs (cxOf CX0 P w K mg base N qual (zk st) f cdv A outer s H E).nox (zM st) (tLaid K C mp te t2)/\EOk K true [] te fe/\WOk K (kO C) [] [] [] 1 t2 M2):FnOk P w K mg base CX0 (k+1) f fd ps (spL K (ym ps.length N.length (mLaid mp fe M2))):=by
 refine F.ok S (fun vs H Q E h=>?_) (fun cdv A outer s H vs Q E hr h=>?_)
 ·obtain ⟨B,ds,d,hB,r,q,_⟩:=h
  unfold ym at q
  split at q
  ·rw [r.length];assumption
  ·cases q
 ·obtain ⟨B,ds,d,hB,r,q,kk⟩:=h
  unfold ym at q
  split at q
  case isFalse=>cases q
  rename_i hlen
  obtain ⟨o,q1,q2⟩:=ze q
  obtain ⟨te,t2,hp,he,h2⟩:=hbody cdv A outer s H E hr
  obtain ⟨b,c1,c2⟩:=ze q1
  obtain ⟨l,c3,c4⟩:=ze c2
  split at c4
  case isFalse=>cases c4
  rename_i hc
  have spec:=hc.choose_spec
  generalize hc.choose=rr at *
  obtain ⟨e,S'⟩:=rr
  dsimp only at c4 spec
  have m0:=wT (N:=N) hB r
  refine ⟨_,hp,he H B (L2.yH N vs) H (Za N.length ds) b _ m0 c1 fun vb H1 s1 rb=>?_⟩
  intro y dx hy hdx hne
  have rb':Rep K H1 B b vb:=by have:Rep K H1 (Bl B [] (L2.yH N vs)) b vb:=rb;rwa [Y9] at this
  have d1:∀ a o,H1 a=some o->a≠y/\a≠dx:=fun a o q=>⟨fun z=>(by rw [z,hy] at q;cases q),fun z=>by rw [z,hdx] at q;cases q⟩
  have s1':zX H1 (upd (upd H1 dx (.own y)) y (.ins C dx [])):=fun a o q=>by rw [zx (d1 a o q).1,zx (d1 a o q).2];exact q
  refine ⟨B,y,dx,vb,b,l,rfl,fun a ha=>by obtain ⟨o,q⟩:=hB a ha;exact ⟨o,s1' _ _ (s1 _ _ q)⟩,zw,Rep.goes (YA (P:=fun _=>False) (fun a o q _=>s1' _ _ q) (fun _ _ z=>z.elim) (fun _ z=>z.elim) fun a z=>z.imp id fun z=>by rw [z];exact hy) _ _ rb',c3,fun H2 s' vl hk hsx hs0 hs2 hx2 r1 r2=>⟨rfl,?_⟩⟩
  have hs1:H1 s'=none:=by
   cases z:H1 s' with
   | none=>rfl
   | some o=>have:=s1' _ _ z;rw [hs0] at this;cases this
  have s12:zX H1 H2:=fun a o q=>hk _ _ (s1' _ _ q) (d1 a o q).1
  have s02:zX H H2:=s1.trans s12
  have hyN:H y=none:=s1.free hy
  have hsN:H s'=none:=s1.free hs1
  have gB:Goes H H2 B (fun c=>B c\/c=y\/c=s'):=YA (P:=fun _=>False) (fun a o q _=>s02 _ _ q) (fun _ _ z=>z.elim) (fun _ z=>z.elim) fun a z=>by
   rcases z with z | z | z
   ·exact .inl z
   ·exact .inr (by rw [z];exact hyN)
   ·exact .inr (by rw [z];exact hsN)
  have ln:(Za N.length ds).length=3:=by rw [<- m0.len];simp [L2.yH,r.length,hlen,hps,hN]
  have w0:Wd K (kO C) H (fun c=>B c\/c=y\/c=s') (fun c=>c=y\/c=s') [] 1 y [.int 1,b,l] ((L2.yH N vs).set 1 (some (.ref y))) H2 ((Za N.length ds).set 1 (some (.adr y))):=by
   refine ⟨⟨s02,fun a ha=>?_,by rw [Qo,Qo];exact m0.len,fun j d q _=>?_,fun j hj=>(nomatch hj),fun j _ _ hj=>(nomatch hj)⟩,fun a z=>.inr z,fun a z=>?_,⟨dx,s',[],1,vb,vl,b,l,[],fun a=>Iff.rfl,Ne.symm hsx,hx2,hs2,rfl,by rw [Y9];exact r1,by rw [Y9];exact r2,.nil⟩,zN (by omega),by simp⟩
   ·rcases ha with ha | ha | ha
    ·obtain ⟨o,q⟩:=hB a ha;exact ⟨o,s02 _ _ q⟩
    ·rw [ha];exact ⟨_,hx2⟩
    ·rw [ha];exact ⟨_,hs2⟩
   ·rw [Y9]
    by_cases ej:j=1
    ·subst ej
     rw [zN (by omega)] at q;cases q
     exact ⟨.ref y,zN (by rw [m0.len];omega),by simp [Rep]⟩
    ·rw [zd ej] at q
     obtain ⟨v,g1,g2⟩:=m0.sh j d q (by simp)
     rw [Y9] at g2
     exact ⟨v,by rw [zd ej];exact g1,Rep.goes gB _ _ g2⟩
   ·rcases z with z | z
    ·rw [z];exact hyN
    ·rw [z];exact hsN
  obtain ⟨ρ',e1,e2⟩:=spec y
  refine h2 H _ _ y _ H2 _ _ _ _ _ w0 e1 fun σ' H' w'=>?_
  obtain ⟨dx',s2,hs',c,vb',vl',b',l',st',p,ne,f1,f2,f3,f4,f5,f6⟩:=w'.at_
  subst f3
  cases c4
  simp only [outD] at q2
  cases q2
  obtain ⟨ve,g1,g2⟩:=w'.md.sh 2 _ e2 (by simp)
  simp only [Rep] at g2
  subst g2
  refine ⟨.ref y,w'.ref,y,C,dx',_,.int c,rfl,f1,T.cls,T.nc,rfl,.ref y,w'.ref,y,C,dx',_,.ref s2,rfl,f1,T.cls,T.ns,rfl,.int e,g1,by show 3<=_;decide,fun p' hp'=>?_⟩
  have ns:s2≠p':=fun z=>by rw [z,hp'] at f2;cases f2
  refine kk _ _ (w'.md.grow.trans (zz hp')) ⟨p',s2,c,e,hs',st',rfl,rfl,w'.new s2 ((p s2).2 (.inr rfl)),by rw [zx ns];exact f2,.inl (.inl zw),?_⟩
  rw [Y9] at f6
  exact zt.goes (.less (fun a z=>by
   rcases z with z | z
   ·exact .inl z
   ·rw [z];exact w'.blk s2 ((p s2).2 (.inr rfl))) (zz hp')) _ _ f6
end
theorem ld_mk {X:Cx} {C:Addr} {mp:List D->Option D} {fe:Ev->Option D} {M2:WM} {e:Expr} {te:TE} {x cn:Str} {p pc pos pos':Pos} {s2 s3:Stmt} {t2:TS} (hE:SE X true [] e te fe) (hW:WS X (kO C) [] [] [] 1 s2 t2 M2)
  (h1:PE X e te->PS X (.Assign [.Name x pos'] (.Call (.Name cn p) [e] [] pc) pos) (yX (tMake C (gP X.K C mp) [] E0 (z6 te Z0)) (ZX 1)))
  (h3:PS X s3 (W4 (gJ (z6 (W5 X.K (ZB 1) "count") (z6 (W5 X.K (ZB 1) "steps") (z6 (ZB 2) Z0)))))) :
  ∃ te t2,PSs X [.Assign [.Name x pos'] (.Call (.Name cn p) [e] [] pc) pos,s2,s3] (tLaid X.K C mp te t2)/\EOk X.K true [] te fe/\WOk X.K (kO C) [] [] [] 1 t2 M2:=⟨te,t2,ZO (h1 hE.pe) (ZO hW.ps (Yc h3)),hE.ok,hW.ok⟩
section
variable {X:Cx} {fr:Bool} {i:Nat} {os' ol:List Nat} {Zm:List Stmt} {t:TS} {m:Ev->Option Out} {pos:Pos}
end
theorem wK {X:Cx} {st:Bool} {os:List Nat} {x s:Str} {tk:Tok} {a:Addr} {od:Option Addr} {n:Nat} {sl:Array (Option Value)} {pos:Pos} (hg:Gl X x) (hm:X.mg x=some (.ref a)) (hl:X.K.lookup a=some ⟨.type "tuple",od,.seq #[.str s tk] n,sl⟩) (hdb:(x == ("__debug__":Str))=false:=by decide) :
  SE X st os (.Name x pos) (tC (.ref a)) (fC (.tup [.str s])):=se_globT (vs:=[.str s]) hg hm hl rfl rfl (by show 1<=sizeLine;decide) (.cons ⟨tk,rfl⟩ .nil) (fun _ _=>.cons (by simp [Rep]) .nil) hdb
section
variable {K:Frag} {κ:Kd} {os os1 os' ol:List Nat} {i:Nat} {t u:TS} {Ud H H':Hp} {Ue P:Addr->Prop} {σ:St} {ρ:Ev} {h:Addr} {S S':List D}
end
section
variable {K:Frag} {κ:Kd} {os:List Nat} {i:Nat} {st:Bool}
end
section
variable {X:Cx} {κ:Kd} {st:Bool} {os os' ol:List Nat} {i:Nat} {e a b:Expr} {ta tb te:TE} {F G:WF} {x:Str} {p pos:Pos}
end
section
variable {X:Cx} {κ:Kd} {os os' ol:List Nat} {i:Nat} {pos:Pos} {scope:Scope} {own N':List Str} {k:Nat} {elt target iter:Expr} {wi:TI} {g:TG} {te:TE} {fi:Ev->Option (List D)} {u:D->Ev->Option Ev} {F:WF}
end
section
variable {i j:Nat} {f:Ev->Option D}
end
section
variable {K:Frag} {fr:Bool} {os os' os1 os2 ol ol1:List Nat} {j:Nat}
end
section
variable {X:Cx} {st:Bool} {os:List Nat} {e:Expr} {es:List Expr} {tl:TA} {fl:Ev->Option (List D)} {x:Str} {p pos:Pos}
end
open Classical in
noncomputable def hideF (mf:Addr->List D->Option D):List D->Option D:=fun ds=>if h:∃ d,∀ f,mf f (ds++[.adr f])=some d then some h.choose else none
end M
namespace L2
open PySem PySem.Spec PyProof.Rows
abbrev IsZ (h:Heap) (z:Addr) (f0 f1:Value) (TI TO:Addr):Prop:=h.get? z=some { cls:=.type "zip",data:=.fields #[f0,f1,.bool false,.ref TI,.ref TO] }
section
variable {prog:Program} {w:World} {A:Around} {E:Value->Shared->Prop} {s:Shared}
variable {z TI TO i1 i2 l1 l2:Addr} {j1 j2:Bool} {k1 k2:Nat} {xs ys:Array Value} {x y a b:Value}
theorem alive_ {a:Addr} {o:Obj} {Q:Option Obj->Shared->Prop} (h:s.heap.get? a=some o) (q:Q (some o) s):wpAny (model prog w) A (loadIfAlive a) Q E s:=by
 intro Γ p hΓ
 unfold loadIfAlive
 rw [Sem.wp_loadIfAlive,h]
 exact q
theorem notFree {Q:Bool->Shared->Prop} {k0:Nat} {f1:Bool} {o0:Obj} (hz:IsZ s.heap z (rawInt k0) (.bool f1) TI TO) (ho:s.heap.get? k0=some o0)
  (hQ:∀ g1,IsZ g1 z (rawInt k0) (.bool true) TI TO->g1.objs.size=s.heap.objs.size->(∀ c o,c≠z->s.heap.get? c=some o->g1.get? c=some o)->Q false { s with heap:=g1 }):wpAny (model prog w) A (Builtin.SmallTypes.ownedTupleIsFree (.ref z)) Q E s:=by
 unfold Builtin.SmallTypes.ownedTupleIsFree
 refine Qa (QE hz rfl (x:=rawInt k0) rfl ?_)
 unfold rawInt
 dsimp only
 refine Qa (alive_ (by rw [Q0];exact ho) ?_)
 simp only [Option.isNone_some,Pi,if_false]
 refine Qa (QE hz rfl (x:=.bool f1) rfl ?_)
 cases f1 with
 | true =>
  rw [if_neg (by decide)]
  exact Qf (hQ s.heap hz rfl fun c o _ e=>e)
 | false =>
  rw [if_pos (by decide)]
  refine Qa (Q6 hz (by simp) fun g1 hz1 s1=>Qf ?_)
  exact hQ g1 hz1 s1.1 fun c o n e=>s1.extBut _ _ n e
theorem zipn_again {Q:Value->Shared->Prop} (D:ZApart z TI TO i1 i2) (n1:We z TI TO i1 i2 l1) (n2:We z TI TO i1 i2 l2) {k0:Nat} {f1:Bool} {o0:Obj} (hz:IsZ s.heap z (rawInt k0) (.bool f1) TI TO) (ho:s.heap.get? k0=some o0) (hTI:IsPair s.heap TI (.ref i1) (.ref i2))
  (h1:Ze j1 s.heap i1 l1 k1) (h2:Ze j2 s.heap i2 l2 k2) (hl1:SeqAt j1 s.heap l1 xs) (hl2:SeqAt j2 s.heap l2 ys) (hx:xs[k1]?=some x) (hy:ys[k2]?=some y)
  (hQ:∀ h',IsZ h' z (rawInt k0) (.bool true) TI TO->Ze j1 h' i1 l1 (k1+1)->Ze j2 h' i2 l2 (k2+1)->IsPair h' s.heap.objs.size x y->h'.objs.size=s.heap.objs.size+1 ->
   (∀ c o,c≠z->c≠i1->c≠i2->s.heap.get? c=some o->h'.get? c=some o)->Q (.ref s.heap.objs.size) { s with heap:=h' }) :
  wpAny (model prog w) A (Builtin.«zip.__next__» ⟨[.ref z],[]⟩) (fun fin s'=>∃ v,fin=.done (.ret v)/\Q v s') E s:=by
 obtain ⟨p1,p2,p3,p4⟩:=n1
 obtain ⟨q1,q2,q3,q4⟩:=n2
 show wpAny _ _ (field (.ref z) 2 >>= _) _ _ _;refine Qa (QE hz rfl (x:=.bool false) rfl ?_)
 show wpAny _ _ (field (.ref z) 3 >>= _) _ _ _;refine Qa (QE hz rfl (x:=.ref TI) rfl ?_)
 refine Qa (QR hTI rfl ?_)
 show wpAny _ _ (Builtin.SmallTypes.ownedTupleIsFree (.ref z) >>= _) _ _ _
 refine Qa (notFree hz ho fun g1 hz1 sz1 kp1=>?_)
 simp only [Pi,if_false]
 refine Qa ?_
 rw [<- Array.forIn_toList]
 simp only [PK,PM]
 refine Qa (Qa (Pb ?_))
 show wpAny _ _ (Builtin.SmallTypes.nextOf (.ref i1) >>= _) _ _ _
 refine Qa (yV (h1.at fun o e=>kp1 _ o D.i1z e) (hl1.at fun o e=>kp1 _ o p1 e) hx fun g2 u2 s2=>Qf (Qf ?_))
 refine Qa (Qa (Pb ?_))
 show wpAny _ _ (Builtin.SmallTypes.nextOf (.ref i2) >>= _) _ _ _
 refine Qa (yV ((h2.at fun o e=>kp1 _ o D.i2z e).but s2.extBut D.i12.symm) ((hl2.at fun o e=>kp1 _ o q1 e).but s2.extBut q3) hy fun g4 u4 s4=>Qf (Qf (Qf ?_)))
 show wpAny _ _ (newTuple [x,y] >>= _) _ _ _
 refine Qa (wpAny_newTuple ?_)
 have sz:g4.objs.size=s.heap.objs.size:=by rw [s4.1,s2.1];exact sz1
 have hz4:IsZ g4 z (rawInt k0) (.bool true) TI TO:=s4.extBut _ _ D.i2z.symm (s2.extBut _ _ D.i1z.symm hz1)
 refine Qf ⟨_,rfl,?_⟩
 show Q (.ref g4.objs.size) _
 have T:IsPair (g4.push { cls:=.type "tuple",data:=.seq #[x,y] }) g4.objs.size x y:=Qp _ rfl
 rw [sz] at T ⊢
 refine hQ _ (Qc _ hz4) ((u2.but s4.extBut D.i12).at fun o e=>Qc _ e) (u4.at fun o e=>Qc _ e) T (by rw [QH,sz]) fun c o c1 c2 c3 e=>Qc _ (s4.extBut _ _ c3 (s2.extBut _ _ c2 (kp1 _ _ c1 e)))
theorem zipn_out {Q:Fin->Shared->Prop} (hh:A.handled=none) (D:ZApart z TI TO i1 i2) (n1:We z TI TO i1 i2 l1) (n2:We z TI TO i1 i2 l2) {k0:Nat} {f1:Bool} {o0:Obj} (hz:IsZ s.heap z (rawInt k0) (.bool f1) TI TO) (ho:s.heap.get? k0=some o0) (hTI:IsPair s.heap TI (.ref i1) (.ref i2))
  (h1:Ze j1 s.heap i1 l1 k1) (h2:Ze j2 s.heap i2 l2 k2) (hl1:SeqAt j1 s.heap l1 xs) (hl2:SeqAt j2 s.heap l2 ys) (hend:xs[k1]?=none\/ys[k2]?=none)
  (hE:∀ h' e,(∀ c o,c≠z->c≠i1->c≠i2->s.heap.get? c=some o->h'.get? c=some o)->(∃ o,h'.get? e=some o/\o.cls=.type "StopIteration")->E (.ref e) { s with heap:=h' }) :
  wpAny (model prog w) A (Builtin.«zip.__next__» ⟨[.ref z],[]⟩) Q E s:=by
 obtain ⟨p1,p2,p3,p4⟩:=n1
 obtain ⟨q1,q2,q3,q4⟩:=n2
 show wpAny _ _ (field (.ref z) 2 >>= _) _ _ _;refine Qa (QE hz rfl (x:=.bool false) rfl ?_)
 show wpAny _ _ (field (.ref z) 3 >>= _) _ _ _;refine Qa (QE hz rfl (x:=.ref TI) rfl ?_)
 refine Qa (QR hTI rfl ?_)
 show wpAny _ _ (Builtin.SmallTypes.ownedTupleIsFree (.ref z) >>= _) _ _ _
 refine Qa (notFree hz ho fun g1 hz1 sz1 kp1=>?_)
 simp only [Pi,if_false]
 refine Qa ?_
 rw [<- Array.forIn_toList]
 simp only [PK,PM]
 refine Qa (Qa (Pb ?_))
 show wpAny _ _ (Builtin.SmallTypes.nextOf (.ref i1) >>= _) _ _ _
 cases hx:xs[k1]? with
 | none =>
  exact Qa (j3 hh (h1.at fun o e=>kp1 _ o D.i1z e) (hl1.at fun o e=>kp1 _ o p1 e) hx fun g2 e s2 he=>hE g2 e (fun c o c1 c2 _ x=>s2 _ _ c2 (kp1 _ _ c1 x)) he)
 | some x =>
  have hy:ys[k2]?=none:=by rcases hend with h | h;rw [hx] at h;cases h;exact h
  refine Qa (yV (h1.at fun o e=>kp1 _ o D.i1z e) (hl1.at fun o e=>kp1 _ o p1 e) hx fun g2 u2 s2=>Qf (Qf ?_))
  refine Qa (Qa (Pb ?_))
  show wpAny _ _ (Builtin.SmallTypes.nextOf (.ref i2) >>= _) _ _ _
  exact Qa (j3 hh ((h2.at fun o e=>kp1 _ o D.i2z e).but s2.extBut D.i12.symm) ((hl2.at fun o e=>kp1 _ o q1 e).but s2.extBut q3) hy fun g4 e s4 he=>hE g4 e (fun c o c1 c2 c3 x=>s4 _ _ c3 (s2.extBut _ _ c2 (kp1 _ _ c1 x))) he)
structure ZSt (h:Heap) (z TI TO i1 i2 l1 l2:Addr) (j1 j2:Bool) (xs ys:Array Value) (k:Nat):Prop where
 z:IsZip h z TI TO .none\/∃ (k0:Nat) (f1:Bool) (o0:Obj),IsZ h z (rawInt k0) (.bool f1) TI TO/\h.get? k0=some o0/\z<k0
 ti:IsPair h TI (.ref i1) (.ref i2)
 to:∃ a b,IsPair h TO a b
 h1:Ze j1 h i1 l1 k
 h2:Ze j2 h i2 l2 k
 l1:SeqAt j1 h l1 xs
 l2:SeqAt j2 h l2 ys
structure ZLow (z TI TO i1 i2 l1 l2:Addr):Prop where
 ap:ZApart z TI TO i1 i2
 a:TI<z
 b:TO<z
 c:i1<z
 d:i2<z
 n1:We z TI TO i1 i2 l1
 n2:We z TI TO i1 i2 l2
theorem znext_item {Q:Option Value->Shared->Prop} {k:Nat} (L:ZLow z TI TO i1 i2 l1 l2) (Z:ZSt s.heap z TI TO i1 i2 l1 l2 j1 j2 xs ys k) (hx:xs[k]?=some x) (hy:ys[k]?=some y)
  (hQ:∀ h',ZSt h' z TI TO i1 i2 l1 l2 j1 j2 xs ys (k+1)->IsPair h' s.heap.objs.size x y->h'.objs.size=s.heap.objs.size+1 ->
   (∀ c o,c≠z->c≠TO->c≠i1->c≠i2->s.heap.get? c=some o->h'.get? c=some o)->Q (some (.ref s.heap.objs.size)) { s with heap:=h' }):wpAny (model prog w) A (pyNext (.ref z)) Q E s:=by
 obtain ⟨hz,hTI,⟨a,b,hTO⟩,h1,h2,hl1,hl2⟩:=Z
 have D:=L.ap
 have m1:=L.n1
 have m2:=L.n2
 rcases hz with hz | ⟨k0,f1,o0,hz,h0,g0⟩
 ·have zl:z<s.heap.objs.size:=Qn hz
  refine Je D L.n1 L.n2 hz hTI hTO h1 h2 hl1 hl2 hx hy fun h' b1 b2 b3 b4 b5 b6 b7=>hQ h' ⟨Or.inr ⟨_,_,_,b1,b5,zl⟩,b7 _ _ D.TIz D.TITO D.TIi1 D.TIi2 hTI,⟨_,_,b2⟩,b3,b4,hl1.at fun o e=>b7 _ o m1.1 m1.2.1 m1.2.2.1 m1.2.2.2 e,hl2.at fun o e=>b7 _ o m2.1 m2.2.1 m2.2.2.1 m2.2.2.2 e⟩ b5 b6 b7
 ·have hT:s.TypeIs (.ref z) "zip":=⟨_,hz,rfl⟩
  unfold pyNext
  have kz:k0≠z:=QD g0
  have ki1:k0≠i1:=QD (QG L.c g0)
  have ki2:k0≠i2:=QD (QG L.d g0)
  exact Qa (Ua (QQ (name:=Str.ofString "__next__") hT F.slot_zip_next (QW F.slot_zip_next hT F.entry_zip_next
   (zipn_again D L.n1 L.n2 hz h0 hTI h1 h2 hl1 hl2 hx hy fun h' b1 b3 b4 b5 b6 b7=>Qf (hQ h' ⟨Or.inr ⟨_,_,_,b1,b7 _ _ kz ki1 ki2 h0,g0⟩,b7 _ _ D.TIz D.TIi1 D.TIi2 hTI,⟨_,_,b7 _ _ D.TOz D.TOi1 D.TOi2 hTO⟩,b3,b4,hl1.at fun o e=>b7 _ o m1.1 m1.2.2.1 m1.2.2.2 e,hl2.at fun o e=>b7 _ o m2.1 m2.2.2.1 m2.2.2.2 e⟩ b5 b6 fun c o c1 _ c3 c4 e=>b7 c o c1 c3 c4 e)) (F.args_zip_next_1 _))))
theorem znext_end {Q:Option Value->Shared->Prop} {k:Nat} (hh:A.handled=none) (L:ZLow z TI TO i1 i2 l1 l2) (Z:ZSt s.heap z TI TO i1 i2 l1 l2 j1 j2 xs ys k) (hend:xs[k]?=none\/ys[k]?=none)
  (hQ:∀ h',(∀ c o,c≠z->c≠TO->c≠i1->c≠i2->s.heap.get? c=some o->h'.get? c=some o)->Q none { s with heap:=h' }):wpAny (model prog w) A (pyNext (.ref z)) Q E s:=by
 obtain ⟨hz,hTI,⟨a,b,hTO⟩,h1,h2,hl1,hl2⟩:=Z
 rcases hz with hz | ⟨k0,f1,o0,hz,h0,g0⟩
 ·exact Jw hh L.ap L.n1 L.n2 hz hTI hTO h1 h2 hl1 hl2 hend hQ
 ·have hT:s.TypeIs (.ref z) "zip":=⟨_,hz,rfl⟩
  unfold pyNext
  refine Qa (Ua (QQ (name:=Str.ofString "__next__") hT F.slot_zip_next (QW F.slot_zip_next hT F.entry_zip_next (zipn_out hh L.ap L.n1 L.n2 hz h0 hTI h1 h2 hl1 hl2 hend fun h' e hk he=>?_) (F.args_zip_next_1 _))))
  obtain ⟨o,ho,hc⟩:=he
  refine Qa (wpAny_isInstance (T:="StopIteration") (b:=true) ⟨o,ho,hc⟩ isSubtype_stop ?_)
  exact Qf (hQ _ fun c o c1 _ c3 c4 e=>hk c o c1 c3 c4 e)
theorem ZSt.keep {h h':Heap} {k:Nat} {S:Addr} (L:ZLow z TI TO i1 i2 l1 l2) (hS:z<S) (n1:l1≠S) (n2:l2≠S) (Z:ZSt h z TI TO i1 i2 l1 l2 j1 j2 xs ys k) (hg:∃ o,h'.get? S=some o) (e:∀ b o,b≠S->h.get? b=some o->h'.get? b=some o):ZSt h' z TI TO i1 i2 l1 l2 j1 j2 xs ys k:=by
 have zS:z≠S:=Qu hS
 have aS:TI≠S:=Qu (QG L.a hS)
 have bS:TO≠S:=Qu (QG L.b hS)
 have cS:i1≠S:=Qu (QG L.c hS)
 have dS:i2≠S:=Qu (QG L.d hS)
 obtain ⟨hz,hTI,⟨a,b,hTO⟩,h1,h2,hl1,hl2⟩:=Z
 refine ⟨?_,e _ _ aS hTI,⟨a,b,e _ _ bS hTO⟩,h1.at fun o q=>e _ o cS q,h2.at fun o q=>e _ o dS q,hl1.at fun o q=>e _ o n1 q,hl2.at fun o q=>e _ o n2 q⟩
 rcases hz with hz | ⟨k0,f1,o0,hz,h0,g0⟩
 ·exact Or.inl (e _ _ zS hz)
 ·by_cases hk:k0=S
  ·subst hk
   obtain ⟨o,ho⟩:=hg
   exact Or.inr ⟨_,f1,o,e _ _ zS hz,ho,g0⟩
  ·exact Or.inr ⟨k0,f1,o0,e _ _ zS hz,e _ _ hk h0,g0⟩
structure ZG (h:Heap) (S:Addr) (xs ys:Array Value) (as:List Addr):Prop where
 rise:as.Pairwise (·<·)
 above:∀ a∈as,S<a
 pairs:∀ (j:Nat) (a:Addr),as[j]?=some a->∃ x y,xs[j]?=some x/\ys[j]?=some y/\IsPair h a x y
theorem zip_loop {R:Result->Shared->Prop} {S:Addr} (hh:A.handled=none) (L:ZLow z TI TO i1 i2 l1 l2) (hS:z<S) (n1:l1≠S) (n2:l2≠S) {n:Nat} (e1:n<=xs.size) (e2:n<=ys.size) (e3:xs[n]?=none\/ys[n]?=none) (hn:n<=sizeLine) (res:Value) {h₁:Heap}
  (hR:∀ h' acc c as,(∀ b o,b≠S->b≠z->b≠TO->b≠i1->b≠i2->h₁.get? b=some o->h'.get? b=some o)->h'.get? S=some { cls:=.type "list",dict:=none,data:=.seq acc c,slots:=#[] }->as.length=n->ZG h' S xs ys as ->
   acc.toList=as.map Value.ref->R (.ok (.ret res)) { s with heap:=h' }) :
  ∀ (k i:Nat) (h:Heap) (c:Nat) (acc:Array Value) (as:List Addr),n - i=k->i<=n->ZSt h z TI TO i1 i2 l1 l2 j1 j2 xs ys i->(∀ b o,b≠S->b≠z->b≠TO->b≠i1->b≠i2->h₁.get? b=some o->h.get? b=some o) ->
   h.get? S=some { cls:=.type "list",dict:=none,data:=.seq acc c,slots:=#[] }->acc.toList=as.map Value.ref->as.length=i->ZG h S xs ys as ->
   codeAny (model prog w) A (.builtin "list.extend.loop" ⟨[.ref S,.ref z,res],[]⟩) R { s with heap:=h }:=by
 have zS:S≠z:=QD hS
 have bS:S≠TO:=QD (QG L.b hS)
 have cS:S≠i1:=QD (QG L.c hS)
 have dS:S≠i2:=QD (QG L.d hS)
 have far:∀ a,S<a->a≠z/\a≠TO/\a≠i1/\a≠i2:=fun a ha=>⟨QD (QG hS ha),QD (QG (QG L.b hS) ha),QD (QG (QG L.c hS) ha),QD (QG (QG L.d hS) ha)⟩
 intro k
 induction k with
 | zero =>
  intro i h c acc as hk hi hst hkeep hS' hacc hal hG
  have hin:i=n:=by omega
  refine codeAny_builtin PySem.F.entry_extend_loop ?_
  rw [Around.under_plainId PySem.F.plain_extend_loop _]
  show wpAny _ A.in1 (pyNext (.ref z) >>= _) _ _ _
  refine Qa (znext_end (s:={ s with heap:=h }) (A:=A.in1) hh L hst (by rw [hin];exact e3) fun h' he=>?_)
  refine Qf (hR h' acc c as (fun b o b0 b1 b2 b3 b4 e=>he b o b1 b2 b3 b4 (hkeep b o b0 b1 b2 b3 b4 e)) (he S _ zS bS cS dS hS') (by omega) ⟨hG.rise,hG.above,fun j a hj=>?_⟩ hacc)
  obtain ⟨x,y,q1,q2,q3⟩:=hG.pairs j a hj
  obtain ⟨f1,f2,f3,f4⟩:=far a (hG.above a (QK hj))
  exact ⟨x,y,q1,q2,he a _ f1 f2 f3 f4 q3⟩
 | succ k ih =>
  intro i h c acc as hk hi hst hkeep hS' hacc hal hG
  have hlt:i<n:=by omega
  obtain ⟨x,hx⟩:∃ p,xs[i]?=some p:=⟨xs[i],Array.getElem?_eq_getElem (by omega)⟩
  obtain ⟨y,hy⟩:∃ p,ys[i]?=some p:=⟨ys[i],Array.getElem?_eq_getElem (by omega)⟩
  have hsz:acc.size=i:=by rw [<- Array.length_toList,hacc,Qj,hal]
  have hSl:S<h.objs.size:=Qn hS'
  refine codeAny_builtin PySem.F.entry_extend_loop ?_
  rw [Around.under_plainId PySem.F.plain_extend_loop _]
  show wpAny _ A.in1 (pyNext (.ref z) >>= _) _ _ _
  refine Qa (znext_item (s:={ s with heap:=h }) L hst hx hy fun h' hst' ht hz hkp=>?_)
  dsimp only at ht hz hkp ⊢
  have hS2:=hkp S _ zS bS cS dS hS'
  have up:∀ b o,b≠S->h'.get? b=some o->(h'.update S (Obj.mapSeq (·.push (Value.ref h.objs.size)))).get? b=some o:=fun b o hb e=>(Ph _ _ (Ne.symm hb)).trans e
  show wpAny _ A.in1 (updateSeq S (·.push (Value.ref h.objs.size)) >>= _) _ _ _
  refine Qa ?_
  refine PX hS2 rfl (Qf ⟨plainId_quiet PySem.F.plain_extend_loop _,ih (i+1) _ _ (acc.push (Value.ref h.objs.size)) (as++[h.objs.size]) (by omega) hlt (hst'.keep L hS n1 n2 ⟨_,QV _ hS2 rfl⟩ up)
   (fun b o b0 b1 b2 b3 b4 e=>up b o b0 (hkp b o b1 b2 b3 b4 (hkeep b o b0 b1 b2 b3 b4 e))) (QV _ hS2 rfl) (by rw [Array.toList_push,hacc,Q9];rfl) (by rw [Qi,hal];rfl) ⟨?_,?_,?_⟩⟩) (by rw [hsz];omega) (by show (acc.push (Value.ref h.objs.size)).size<=sizeLine+1;rw [Array.size_push,hsz];omega)
  ·refine List.pairwise_append.mpr ⟨hG.rise,List.pairwise_singleton _ _,fun a ha b hb=>?_⟩
   rw [Qv.mp hb]
   obtain ⟨j,hj⟩:=List.mem_iff_getElem?.mp ha
   obtain ⟨_,_,_,_,q⟩:=hG.pairs j a hj
   exact Qn q
  ·intro a ha
   rcases QI.mp ha with ha | ha
   ·exact hG.above a ha
   ·rw [Qv.mp ha];exact hSl
  ·intro j a hj
   rw [List.getElem?_append] at hj
   split at hj
   ·obtain ⟨x',y',q1,q2,q3⟩:=hG.pairs j a hj
    have hab:=hG.above a (QK hj)
    obtain ⟨f1,f2,f3,f4⟩:=far a hab
    exact ⟨x',y',q1,q2,up _ _ (QD hab) (hkp _ _ f1 f2 f3 f4 q3)⟩
   ·rename_i hnl
    have hj0:j=i:=by
     rcases Nat.eq_or_lt_of_le (Nat.le_of_not_lt hnl) with q | q
     ·omega
     ·rw [Pz (by simp;omega)] at hj;cases hj
    subst hj0
    rw [hal,Nat.sub_self] at hj
    cases hj
    exact ⟨x,y,hx,hy,up _ _ (QD hSl) ht⟩
end
theorem zip_hint:typeLookup (Value.type "zip") (Str.ofString "__length_hint__")=pure none:=by rfl
theorem zip_len:typeLookup (Value.type "zip") (Str.ofString "__len__")=pure none:=by rfl
theorem zipv_hint {prog:Program} {w:World} {A:Around} {E:Value->Shared->Prop} {s:Shared} {I:Addr} {Q:Bool->Shared->Prop} (T:s.TypeIs (.ref I) "zip") (q:Q true s) :
  wpAny (model prog w) A (Builtin.List.listLengthHint (.ref I)) Q E s:=by
 unfold Builtin.List.listLengthHint
 refine Qa (wpAny_specialOf T zip_len ?_)
 dsimp only
 rw [if_neg (by decide)]
 rw [if_neg (by decide)]
 refine Qa (wpAny_specialOf T zip_hint ?_)
 exact Qf q
section
variable {prog:Program} {w:World} {A:Around} {E:Value->Shared->Prop} {s:Shared}
variable {z TI TO i1 i2 l1 l2:Addr} {j1 j2:Bool} {xs ys:Array Value}
theorem list_init_zip {R:Result->Shared->Prop} {S:Addr} (hh:A.handled=none) (L:ZLow z TI TO i1 i2 l1 l2) (hS:z<S) (n1:l1≠S) (n2:l2≠S) {n:Nat} (e1:n<=xs.size) (e2:n<=ys.size) (e3:xs[n]?=none\/ys[n]?=none) (hn:n<=sizeLine)
  (hz:IsZip s.heap z TI TO .none) (Z:ZSt s.heap z TI TO i1 i2 l1 l2 j1 j2 xs ys 0) (hS0:s.heap.get? S=some { cls:=.type "list",data:=.seq #[] })
  (hR:∀ h' acc c as,(∀ b o,b≠S->b≠z->b≠TO->b≠i1->b≠i2->s.heap.get? b=some o->h'.get? b=some o)->h'.get? S=some { cls:=.type "list",dict:=none,data:=.seq acc c,slots:=#[] }->as.length=n->ZG h' S xs ys as ->
   acc.toList=as.map Value.ref->R (.ok (.ret .none)) { s with heap:=h' }) :
  wpAny (model prog w) A.in1 (Builtin.«list.__init__» { pos:=[.ref S,.ref z] }) (fun fin s'=>match fin with
   | .done f=>R (.ok f) s'
   | .again c'=>c'.quiet=true/\codeAny (model prog w) A c' R s') (fun e s'=>R (.error e) s') s:=by
 have zS:S≠z:=QD hS
 unfold Builtin.«list.__init__»
 dsimp only
 rw [if_neg (by simp)]
 rw [if_neg (by simp)]
 refine Qa (wpAny_listItems hS0 rfl ?_)
 refine Qa ?_
 unfold Builtin.List.listUpdate
 dsimp only
 refine PX hS0 rfl ?_ (by simp) (by simp)
 have hS2:(s.heap.update S (Obj.mapSeq fun _=>#[])).get? S=some { cls:=.type "list",data:=.seq #[] }:=QV _ hS0 rfl
 have mv:∀ b o,b≠S->s.heap.get? b=some o->(s.heap.update S (Obj.mapSeq fun _=>#[])).get? b=some o:=fun b o hb q=>((Heap.SameBut.update s.heap S (Obj.mapSeq fun _=>#[])).2 b hb).trans q
 generalize s.heap.update S (Obj.mapSeq fun _=>#[])=h2 at *
 refine Qa (wpAny_letGo ?_)
 have hz2:IsZip h2 z TI TO .none:=mv _ _ (Ne.symm zS) hz
 have T2:({ s with heap:=h2 }:Shared).TypeIs (.ref z) "zip":=⟨_,hz2,rfl⟩
 unfold Builtin.List.listExtendWith
 refine Qa (wpAny_typeOf T2 ?_)
 rw [if_neg (by simp [Builtin.List.listSameRef,zS])]
 refine Qa (wpAny_pyIter_zip (s:={ s with heap:=h2 }) hz2 ?_)
 refine Qa (Pb (zipv_hint T2 ?_))
 rw [if_pos (by rfl)]
 refine Qa (PU ?_)
 refine Qa ?_
 show wpAny _ A.in1 (updateSeq S (·.push .none) >>= fun _=>updateSeq S (·.pop)) _ _ _
 refine Qa (PX hS2 rfl ?_)
 have hS3:=QV (Obj.mapSeq (·.push Value.none)) hS2 rfl
 refine PX hS3 rfl ?_
 have hS4:=QV (Obj.mapSeq (·.pop)) hS3 rfl
 have oth:∀ b o,b≠S->h2.get? b=some o->((h2.update S (Obj.mapSeq (·.push Value.none))).update S (Obj.mapSeq (·.pop))).get? b=some o :=
  fun b o hb e=>(Ph _ _ (Ne.symm hb)).trans ((Ph _ _ (Ne.symm hb)).trans e)
 refine Qf ⟨plainId_quiet F.plain_extend_loop _,?_⟩
 exact zip_loop (s:=s) hh L hS n1 n2 e1 e2 e3 hn .none (h₁:=s.heap) hR n 0 _ _ _ [] (by omega) (by omega) (Z.keep L hS n1 n2 ⟨_,hS4⟩ fun b o hb e=>oth b o hb (mv b o hb e)) (fun b o b0 _ _ _ _ e=>oth b o b0 (mv b o b0 e)) hS4 rfl rfl ⟨List.Pairwise.nil,fun a ha=>(by cases ha),fun j a hj=>by simp at hj⟩
theorem call_list_zip {Q:Value->Shared->Prop} (hh:A.handled=none) (L:ZLow z TI TO i1 i2 l1 l2) {n:Nat} (e1:n<=xs.size) (e2:n<=ys.size) (e3:xs[n]?=none\/ys[n]?=none) (hn:n<=sizeLine)
  (hz:IsZip s.heap z TI TO .none) (Z:ZSt s.heap z TI TO i1 i2 l1 l2 j1 j2 xs ys 0)
  (h:∀ h' acc c as,(∀ b o,b≠z->b≠TO->b≠i1->b≠i2->s.heap.get? b=some o->h'.get? b=some o)->h'.get? s.heap.objs.size=some { cls:=.type "list",dict:=none,data:=.seq acc c,slots:=#[] }->as.length=n->ZG h' s.heap.objs.size xs ys as ->
   acc.toList=as.map Value.ref->Q (.ref s.heap.objs.size) { s with heap:=h' }) :
  wpAny (model prog w) A (call (.type "list") [.ref z]) Q E s:=by
 refine callType_codes F.called_list (F.typeCall_list_1 _) F.entry_list_init (code_list_new (.ref z) (Q₁:=fun obj s₁=>obj=.ref s.heap.objs.size/\s₁={ s with heap:=s.heap.push { cls:=.type "list",data:=.seq #[] } }) ⟨rfl,rfl⟩) ?_
 rintro obj s₁ ⟨rfl,rfl⟩
 have hnew:(s.heap.push { cls:=.type "list",data:=.seq #[] }).get? s.heap.objs.size=some { cls:=.type "list",data:=.seq #[] }:=Qp _ rfl
 have kp:∀ b o,s.heap.get? b=some o->(s.heap.push { cls:=.type "list",data:=.seq #[] }).get? b=some o:=fun b o q=>Qc _ q
 have zS:z<s.heap.objs.size:=Qn hz
 have ne1:l1≠s.heap.objs.size:=Qu (by cases j1 <;> (obtain ⟨o,ho,_⟩:=Z.l1;exact Qn ho))
 have ne2:l2≠s.heap.objs.size:=Qu (by cases j2 <;> (obtain ⟨o,ho,_⟩:=Z.l2;exact Qn ho))
 refine ⟨⟨_,hnew,rfl⟩,F.args_list_init_2 _ _,?_⟩
 refine list_init_zip (A:=A.in1) (s:={ s with heap:=s.heap.push { cls:=.type "list",data:=.seq #[] } }) hh L zS ne1 ne2 e1 e2 e3 hn (kp _ _ hz) (Z.keep L zS ne1 ne2 ⟨_,hnew⟩ fun b o _ e=>kp b o e) hnew fun h' acc c as k e al g ea=>?_
 exact ⟨rfl,h h' acc c as (fun b o b1 b2 b3 b4 q=>k b o (Qu (Qn q)) b1 b2 b3 b4 (kp b o q)) e al g ea⟩
end
end L2
namespace L2
open PySem PySem.Spec PyProof.Rows
def wU (H:Hp):List Addr->List (V×V)->Hp
 | a::as,p::ps=>wU (upd H a (.tup [p.1,p.2])) as ps
 | _,_=>H
theorem jI:∀ (as:List Addr) (ps:List (V×V)) (H:Hp) (b:Addr),(∀ a∈as,b≠a)->wU H as ps b=H b
 | [],_,_,_,_=>rfl
 | _::_,[],_,_,_=>rfl
 | a::as,p::ps,H,b,h=>by
  unfold wU
  rw [jI as ps _ b fun c hc=>h c (Qd _ hc),zx (h a Qt)]
theorem layT_in:∀ (as:List Addr) (ps:List (V×V)) (H:Hp) (j:Nat) (a:Addr) (p:V×V),as.Pairwise (·<·)->as[j]?=some a->ps[j]?=some p->wU H as ps a=some (.tup [p.1,p.2])
 | [],_,_,j,_,_,_,h,_=>by simp at h
 | _::_,[],_,j,_,_,_,_,h=>by simp at h
 | b::as,q::ps,H,0,a,p,hp,h,h'=>by
  cases h
  cases h'
  unfold wU
  rw [jI as ps _ b fun c hc=>Qu ((Uc.mp hp).1 c hc),zw]
 | b::as,q::ps,H,j+1,a,p,hp,h,h'=>by
  unfold wU
  exact layT_in as ps _ j a p (Uc.mp hp).2 (by simpa using h) (by simpa using h')
theorem vals_refs:∀ as:List Addr,zV (as.map V.ref) (as.map Value.ref)
 | []=>.nil
 | _::as=>.cons rfl (vals_refs as)
section
variable {X:Cx} {a b:Expr} {ta:TA} {p p2 pos pos2:Pos}
def tListZip (j1 j2:Bool) (K:PySem.W.Frag) (ta:TA):TE:=fun σ H Q=>ta σ H fun vs H1=>∃ (fa fb:Addr) (xs ys:List V),vs=[.ref fa,.ref fb]/\Sq j1 K H1 fa xs/\Sq j2 K H1 fb ys /\
 ∀ (as:List Addr) (l:Addr),as.length=(xs.zip ys).length->as.Pairwise (·<·)->(∀ c∈as,H1 c=none/\l<c)->H1 l=none->Q (.ref l) (upd (wU H1 as (xs.zip ys)) l (.lst (as.map V.ref)))
theorem pe_listZip (j1 j2:Bool) {k:Nat} (hr:Room k X.A) (hg:Gl X "list") (hm:X.mg "list"=none) (hg2:Gl X "zip") (hm2:X.mg "zip"=none) (ha:PA X [a,b] ta)
  (hs:starEach [a,b] X.env=[(false,eval a X.env),(false,eval b X.env)]:=by rfl) (hs2:starEach [b] X.env=[(false,eval b X.env)]:=by rfl)
  (h2:starEach [.Call (.Name "zip" p2) [a,b] [] pos2] X.env=(false,eval (.Call (.Name "zip" p2) [a,b] [] pos2) X.env)::starEach [] X.env:=by rfl)
  (hpl:(backTo pos (starEach [] X.env)).any (·.1)=false:=by rfl) :
  PE X (.Call (.Name "list" p) [.Call (.Name "zip" p2) [a,b] [] pos2] [] pos) (tListZip j1 j2 X.K ta):=by
 intro pins s σ H Q I h
 refine Pf (JC I hg hm boot_list ?_)
 refine PyProof.Rows.callWith_type1 ?_ h2 hpl
 rw [h2]
 show wpAny _ _ (spliced ((false,eval (.Call (.Name "zip" p2) [a,b] [] pos2) X.env)::backTo pos (starEach [] X.env))) _ _ s
 refine Calls.spliced_cons ?_
 refine Pf (JC I hg2 hm2 boot_zip ?_)
 refine PyProof.Rows.callWith_type1 (thn (ha pos2 pins s σ H _ I h) fun us s1 ⟨vs,H1,I1,r1,q1⟩=>?_) (by rw [hs,hs2]) (by rw [hs2];rfl)
 obtain ⟨fa,fb,xs,ys,e,hx,hy,q⟩:=q1
 subst e
 cases r1 with
 | cons r rr =>
  cases rr with
  | cons r' rr =>
   cases rr
   cases r
   cases r'
   obtain ⟨its1,v1,p1,z1⟩:=I1.seq hx
   obtain ⟨its2,v2,p2',z2⟩:=I1.seq hy
   have L1:=v1.length
   have L2:=v2.length
   refine Wc p1 p2' fun h' c1 c2 c3 c4 c5 c6 up=>?_
   have I2:Inv X pins σ H1 { s1 with heap:=h' }:=I1.kept (t':=s1.toks) up
   have n1:fa<s1.heap.objs.size:=by cases j1 <;> (obtain ⟨o,ho,_⟩:=p1;exact Qn ho)
   have n2:fb<s1.heap.objs.size:=by cases j2 <;> (obtain ⟨o,ho,_⟩:=p2';exact Qn ho)
   have fO:∀ c,@LE.le Nat instLENat s1.heap.objs.size c->wD X pins H1 c:=fun c hc=>I1.fpOk (H':=H1) hc (I1.hok.fresh hc)
   generalize hN:s1.heap.objs.size=N at *
   have LO:ZLow (N+4) (N+2) (N+3) N (N+1) fa fb:=by
    refine ⟨zapart_new N,QZ (QX _),QX _,QZ (QZ (QZ (QX _))),QZ (QZ (QX _)),⟨?_,?_,?_,?_⟩,⟨?_,?_,?_,?_⟩⟩ <;> refine Qu ?_
    all_goals first | exact n1 | exact n2 | exact Nat.lt_add_right _ n1 | exact Nat.lt_add_right _ n2
   have Z:ZSt h' (N+4) (N+2) (N+3) N (N+1) fa fb j1 j2 its1.toArray its2.toArray 0:=⟨Or.inl c1,c2,⟨_,_,c3⟩,c4,c5,p1.at fun o e=>up _ o e,p2'.at fun o e=>up _ o e⟩
   have hl:(xs.zip ys).length=min its1.length its2.length:=by rw [List.length_zip,L1,L2]
   show wpAny _ _ (spliced (backTo pos (starEach [] X.env))) _ _ _
   refine Qf ?_
   refine call_list_zip (s:={ s1 with heap:=h' }) hr.hd LO (n:=min its1.length its2.length) (by rw [Qh];exact Nat.min_le_left _ _) (by rw [Qh];exact Nat.min_le_right _ _) ?_ (by rw [<- L1];exact Qw (Nat.min_le_left _ _) z1) c1 Z fun h2 acc c as k2 e al g ea=>?_
   ·rcases Nat.le_total its1.length its2.length with q | q
    ·exact .inl (by rw [Pj q];simp)
    ·exact .inr (by rw [PR q];simp)
   have fr:H1 h'.objs.size=none:=I2.hok.fresh (Ql _)
   have fras:∀ c∈as,H1 c=none/\h'.objs.size<c:=fun c hc=>⟨I2.hok.fresh (Q2 (g.above c hc)),g.above c hc⟩
   refine ⟨.ref h'.objs.size,upd (wU H1 as (xs.zip ys)) h'.objs.size (.lst (as.map V.ref)),?_,rfl,q as _ (by rw [al,hl]) g.rise fras fr⟩
   have out:∀ b,H1 b≠none->upd (wU H1 as (xs.zip ys)) h'.objs.size (.lst (as.map V.ref)) b=H1 b:=fun b hb=>by
    rw [zx (fun z=>hb (by rw [z];exact fr)),jI _ _ _ _ fun c hc z=>hb (by rw [z];exact (fras c hc).1)]
   have old:∀ b o,h'.get? b=some o->upd (wU H1 as (xs.zip ys)) h'.objs.size (.lst (as.map V.ref)) b=H1 b:=fun b o ho=>by
    have hb:b<h'.objs.size:=Qn ho
    rw [zx (Qu hb),jI _ _ _ _ fun c hc=>Qu (QG hb (g.above c hc))]
   have k3:∀ b o,b∉[N+4,N+3,N,N+1]->h'.get? b=some o->h2.get? b=some o:=fun b o hb e=>by
    simp only [Qb,Qk,or_false,not_or] at hb
    exact k2 b o hb.1 hb.2.1 hb.2.2.1 hb.2.2.2 e
   have fch:∀ b∈[N+4,N+3,N,N+1],wD X pins H1 b:=fun b hb=>fO b (by
    simp only [Qb,Qk,or_false] at hb
    rcases hb with rfl | rfl | rfl | rfl
    ·exact Q4 _ 4
    ·exact Q4 _ 3
    ·exact Ql _
    ·exact Q4 _ 1)
   have hch:∀ b∈[N+4,N+3,N,N+1],(b∈X.ex\/X.s₀.heap.objs.size<=b)/\b≠X.env.locals/\(∀ x c,X.env.cells.lookup x=some c->c≠b)/\∀ p∈X.pn++pins,p.1≠b:=fun b hb=>by
    have fb:=fch b hb
    exact ⟨fb.2.2.2.1,fb.2.1,fb.2.2.2.2.1,fb.2.2.2.2.2⟩
   have ntr:∀ b u,H1 b=some u->b∉[N+4,N+3,N,N+1]:=fun b u e hb=>by rw [(fch b hb).1] at e;cases e
   have Hok:HOk X.prog X.w (upd (wU H1 as (xs.zip ys)) h'.objs.size (.lst (as.map V.ref))) h2:=fun c o e'=>by
    by_cases hcs:c=h'.objs.size
    ·subst hcs
     rw [zw] at e'
     cases e'
     exact ⟨by rw [Qj,al,<- L1];exact Qw (Nat.min_le_left _ _) z1,as.map Value.ref,_,vals_refs as,by rw [<- ea];simpa using e⟩
    ·by_cases hca:c∈as
     ·obtain ⟨j,hj⟩:=List.mem_iff_getElem?.mp hca
      obtain ⟨u1,u2,q1,q2,q3⟩:=g.pairs j c hj
      have hjl:j<(xs.zip ys).length:=by rw [hl,<- al];exact (Qm.mp hj).1
      obtain ⟨pr,hpr⟩:∃ pr,(xs.zip ys)[j]?=some pr:=⟨_,Qy hjl⟩
      rw [zx hcs,layT_in as (xs.zip ys) H1 j c pr g.rise hj hpr] at e'
      cases e'
      obtain ⟨x,y⟩:=pr
      have hz:=List.getElem?_zip_eq_some.mp hpr
      obtain ⟨u1',b1,ru1⟩:=v1.get hz.1
      obtain ⟨u2',b2,ru2⟩:=v2.get hz.2
      rw [List.getElem?_toArray] at q1 q2
      rw [b1] at q1
      rw [b2] at q2
      cases q1
      cases q2
      exact ⟨by show 2<=sizeLine;decide,[u1,u2],.cons ru1 (.cons ru2 .nil),⟨_,q3,rfl,_,rfl⟩⟩
     ·rw [zx hcs,jI _ _ _ _ fun d hd z=>hca (by rw [z];exact hd)] at e'
      refine (I2.hok c o e').stay (fun d v hd q'=>k3 d v ?_ q') (fun d q'=>?_) fun d xs q'=>?_
      ·rcases hd with rfl | hd
       ·exact ntr _ _ e'
       ·exact ntr _ _ hd
      ·rw [out d (by rw [q'];simp)];exact q'
      ·rw [out d (by rw [q'];simp)];exact q'
   refine I2.step (g':=s1.gens) (d':=s1.drawn) (t':=s1.toks) (ch:=[N+4,N+3,N,N+1]) hch (fun b o _ _ hb q _=>k3 b o hb q) (fun b o _ _ hb q _=>⟨o.slots,k3 b o hb q⟩) (fun b o _ q n=>by rw [old b o q];exact n) (fun b o hb q=>⟨o,k3 b o hb q⟩)
    (fun b xs q=>by rw [out b (by rw [q];simp)];exact q) (fun b o u q=>by rw [out b (by rw [q];simp)];exact q) (fun b ps q=>⟨#[],by rw [out b (by rw [q];simp),q];simp⟩) (fun m hm=>?_) Hok I2.bare
   obtain ⟨o,es,ep,ho,r⟩:=hm
   exact ⟨o,es,ep,k3 _ o (fun hb=>(hch _ hb).2.1 rfl) ho,r⟩
end
end L2
namespace L2
open PySem PySem.Spec PyProof.Rows
section
variable {X:Cx}
def rRepZ (K:PySem.W.Frag):R2:=fun x y H Q=>∃ l k xs,x=.ref l/\y=.int k/\SqT K H l xs/\xs≠[]/\0<=k/\xs.length*k.toNat<=1000/\k<=1000/\(k=1->Q (.ref l) H)/\(k≠1->∀ p,H p=none->Q (.ref p) (upd H p (.tup (List.replicate k.toNat xs).flatten)))
theorem op_repZ {K':PySem.W.Frag} (hK:X.K=K':=by rfl):OpR X (binaryOp .Mult) (rRepZ K'):=by
 subst hK
 intro pins s σ H x y v u Q I rx ry h
 obtain ⟨l,k,xs,rfl,rfl,hq,hne,h1,hz,hk,q1,q2⟩:=h
 cases rx
 obtain ⟨t,rfl⟩:=ry
 obtain ⟨its,r,hT,hlen⟩:=I.tuple hq
 have hT0:=hT
 obtain ⟨o,ho,hc,n,hd⟩:=hT
 have T:s.TypeIs (.ref l) "tuple":=⟨o,ho,hc⟩
 have hl:=r.length
 refine wpAny_binaryOp_repeat_ref (T:="tuple") (U:="int") (by decide) T (fun s'=>typeIs_int s' k t) Wr F.fills_int_mul F.slot_int_rmul repeat_tuple F.slot_int_index.lookup ?_
 refine QW F.slot_int_rmul (typeIs_int s k t) F.entry_int_rmul ?_ (F.args_int_rmul_2 _ _)
 unfold Builtin.«int.__rmul__» Builtin.Int.intBinary
 rw [show slotArgs "__rmul__" 1 { pos:=[Value.int k t,Value.ref l] }=pure (Value.int k t,[Value.ref l]) by rfl]
 refine Qa (Qf ?_)
 dsimp only
 rw [show Builtin.Int.intOfSelf (Value.int k t)=pure k by rfl]
 refine Qa (Qf ?_)
 refine Qa ?_
 show wpAny _ _ (asInt? (Value.ref l)) _ _ _
 unfold asInt?
 refine Qa (wpAny_load ho ?_)
 rw [hd]
 refine Qf ?_
 refine Qa (PU ?_)
 refine Qf ⟨_,rfl,rfl,T,?_⟩
 refine QW F.slot_tuple_mul T F.entry_tuple_mul ?_ (F.args_tuple_mul_2 _ _)
 refine Qa ?_
 rw [show asIndex (Value.int k t)=pure k by rfl]
 refine Qf ?_
 dsimp only
 rw [if_neg (by simp;omega)]
 unfold Builtin.Tuple.tupleItemsOf
 refine Qa (Qa (QR ho hd ?_))
 refine Qf ?_
 have hne':its≠[]:=fun e=>by rw [e] at hl;exact hne (List.eq_nil_of_length_eq_zero hl)
 have hem:its.toArray.isEmpty=false:=by
  cases its with
  | nil=>exact absurd rfl hne'
  | cons _ _=>rfl
 rw [hem,Bool.false_or]
 by_cases hk1:k=1
 ·subst hk1
  rw [if_pos (by rfl)]
  unfold Builtin.Tuple.tupleIsExact
  refine Qa (Qa (wpAny_typeOf T ?_))
  refine Qf ?_
  rw [if_pos (by rfl)]
  refine Qa (PU ?_)
  exact Qf ⟨_,rfl,.ref l,H,I,rfl,q1 rfl⟩
 ·rw [if_neg (by simpa using hk1)]
  by_cases hk0:k=0
  ·subst hk0
   rw [if_pos (by rfl)]
   unfold Builtin.Tuple.tupleExact
   refine Qa (QS ?_ (by show 0<=sizeLine;decide))
   have hf:H s.heap.objs.size=none:=I.hok.fresh (Ql _)
   refine Qf ⟨_,rfl,.ref s.heap.objs.size,upd H s.heap.objs.size (.tup []),I.laid (t':=s.toks) (fun b u e=>Qc _ e) (Ql _) ?_,rfl,q2 hk1 _ hf⟩
   exact ⟨by show 0<=sizeLine;decide,[],.nil,⟨_,Qp _ rfl,rfl,_,rfl⟩⟩
  rw [if_neg (by simp;omega)]
  have hsz:its.toArray.size*k.toNat<=1000:=by rw [Qh,<- hl];exact hz
  have hcast:(its.toArray.size:Int)*k<=1000:=by
   have:((its.toArray.size*k.toNat:Nat):Int)=(its.toArray.size:Int)*k:=by
    rw [Int.natCast_mul,Pm (by omega)]
   omega
  rw [if_neg (by omega)]
  have htm:Builtin.Tuple.tupleTooMany ((its.toArray.size:Int)*k)=false:=by
   unfold Builtin.Tuple.tupleTooMany
   exact decide_eq_false (Int.not_lt.mpr (Int.le_trans hcast (by decide)))
  rw [htm,if_neg Qg]
  have f0:List.foldl (fun x1 x2=>x1++x2) #[] (List.replicate k.toNat its.toArray)=(List.replicate k.toNat its).flatten.toArray:=by
   have:=Wy its k.toNat []
   rw [Pn] at this
   exact this
  have hlen2:(List.replicate k.toNat its).flatten.length<=sizeLine:=by
   rw [len_rep,Nat.mul_comm]
   rw [Qh] at hsz
   exact Qw hsz (by decide)
  rw [f0]
  unfold Builtin.Tuple.tupleExact
  refine Qa (QS ?_ (by exact hlen2))
  have rr:zV (List.replicate k.toNat xs).flatten (List.replicate k.toNat its).flatten:=by
   generalize k.toNat=m
   induction m with
   | zero=>exact .nil
   | succ m ih =>
    rw [QJ,QJ,QU,QU]
    exact zV.append r ih
  have hf:H s.heap.objs.size=none:=I.hok.fresh (Ql _)
  refine Qf ⟨_,rfl,.ref s.heap.objs.size,upd H s.heap.objs.size (.tup (List.replicate k.toNat xs).flatten),I.laid (t':=s.toks) (fun b u e=>Qc _ e) (Ql _) ?_,rfl,q2 hk1 _ hf⟩
  exact ⟨by rw [rr.length];exact hlen2,_,rr,⟨_,Qp _ rfl,rfl,_,rfl⟩⟩
end
end L2
namespace M
open PySem PySem.Spec L2
open PySem.W (Frag)
theorem same_lay:∀ (as:List Addr) (ps:List (V×V)) (H:Hp),as.Pairwise (·<·)->(∀ a∈as,H a=none)->zX H (wU H as ps)
 | [],_,H,_,_=>.refl H
 | _::_,[],H,_,_=>.refl H
 | a::as,p::ps,H,hp,h=>by
  unfold wU
  have hp':=Uc.mp hp
  exact (zz (h a Qt)).trans (same_lay as ps _ hp'.2 fun b hb=>by rw [zx (QD (hp'.1 b hb))];exact h b (Qd _ hb))
section
variable {X:Cx} {os:List Nat} {a b:Expr} {ta tb:TE} {ca cb:Ev->Option (List D)} {p p2 pos pos2:Pos} {k:Nat}
def GF (ca cb:Ev->Option (List D)):Ev->Option D:=fun ρ=>(ca ρ).bind fun xs=>(cb ρ).map fun ys=>.lst (zipD xs ys)
theorem sf_listZip {s j1 j2:Bool} (hr:Room k X.A) (hg:Gl X "list") (hm:X.mg "list"=none) (hg2:Gl X "zip") (hm2:X.mg "zip"=none) (ha:SN X s j1 os a ta ca) (hb:SN X s j2 os b tb cb)
  (h1:starEach [a,b] X.env=(false,eval a X.env)::starEach [b] X.env:=by rfl) (h2:starEach [b] X.env=(false,eval b X.env)::starEach [] X.env:=by rfl)
  (hs:starEach [a,b] X.env=[(false,eval a X.env),(false,eval b X.env)]:=by rfl) (hs2:starEach [b] X.env=[(false,eval b X.env)]:=by rfl)
  (h3:starEach [.Call (.Name "zip" p2) [a,b] [] pos2] X.env=(false,eval (.Call (.Name "zip" p2) [a,b] [] pos2) X.env)::starEach [] X.env:=by rfl)
  (hpl:(backTo pos (starEach [] X.env)).any (·.1)=false:=by rfl) {K':Frag} (hK:X.K=K':=by rfl) :
  SF X os (.Call (.Name "list" p) [.Call (.Name "zip" p2) [a,b] [] pos2] [] pos) (tListZip j1 j2 K' (z6 ta (z6 tb Z0))) (GF ca cb):=by
 subst hK
 exact
 ⟨pe_listZip j1 j2 hr hg hm hg2 hm2 (zP ha.pe (zP hb.pe Zn h2) h1) hs hs2 h3 hpl,fun Ud Ue σ H ρ d Q m q kk=>by
  obtain ⟨dx,h1,h2⟩:=ze q
  obtain ⟨dy,h3,rfl⟩:=map_some h2
  refine ha.ok Ud Ue σ H ρ dx _ m h1 fun a xs H1 s1 hc1 r1=>?_
  refine hb.ok Ud Ue σ H1 ρ dy _ (m.up s1) h3 fun b ys H2 s2 hc2 r2=>?_
  have r1':=r1.up s2
  have hc1':=hc1.up s2
  refine ⟨a,b,xs,ys,rfl,hc1'.sq,hc2.sq,fun as l hal hp hfr hl=>?_⟩
  have hS:=same_lay as (xs.zip ys) H2 hp fun c hc=>(hfr c hc).1
  have hl':wU H2 as (xs.zip ys) l=none:=by rw [jI _ _ _ _ fun c hc=>Qu (hfr c hc).2];exact hl
  have hS2:=hS.trans (zz (o:=.lst (as.map V.ref)) hl')
  refine kk l _ _ (s1.trans (s2.trans hS2)) (s1.free (s2.free hl)) zw ?_
  have g:Goes H2 _ (Bl Ue os σ) (fun b=>Bl Ue os σ b\/b=l):=.fresh hl hS2
  have q1:=zt.goes g _ _ r1'
  have q2:=zt.goes g _ _ r2
  have l1:=r1'.length
  have l2:=r2.length
  refine zt.of_at (by rw [Qj,hal];simp [zipD,List.length_zip,l1,l2]) fun i d v e1 e2=>?_
  rw [QB] at e2
  obtain ⟨c,e3,rfl⟩:=Pq.mp e2
  have hi:i<(xs.zip ys).length:=by rw [<- hal];exact (Qm.mp e3).1
  have hi':=hi
  rw [List.length_zip] at hi'
  obtain ⟨⟨x,y⟩,e4⟩:∃ pr,(xs.zip ys)[i]?=some pr:=⟨_,Qy hi⟩
  have hz:=List.getElem?_zip_eq_some.mp e4
  obtain ⟨u,h5,h5'⟩:=q1.get (i:=i) (d:=dx[i]) (by simp [show i<dx.length by omega])
  obtain ⟨v,h6,h6'⟩:=q2.get (i:=i) (d:=dy[i]) (by simp [show i<dy.length by omega])
  rw [hz.1] at h5;cases h5
  rw [hz.2] at h6;cases h6
  have e5:d=.tup [dx[i],dy[i]]:=by
   simp only [zipD] at e1
   rw [Px] at e1
   simp [show i<dx.length by omega,show i<dy.length by omega] at e1
   exact e1.symm
  subst e5
  simp only [Rep]
  refine ⟨c,_,rfl,.inl (.inl ?_),.cons h5' (.one h6')⟩
  rw [zx (QD (hfr c (QK e3)).2)]
  exact layT_in as _ H2 i c (x,y) hp e3 e4⟩
end
def tNever:TS:=fun _ _ _=>False
def mNever:Ev->Option Out:=fun _=>none
theorem ss_never {X:Cx} {fr:Bool} {os os' ol:List Nat} {st:Stmt}:SS X fr os os' ol st tNever mNever :=
 ⟨fun _ _ _ _ _ _ h=>h.elim,fun _ _ _ _ _ _ _ _ q _=>by cases q⟩
def rNotB:R2:=fun x y H Q=>∃ a b,x=.bl a/\y=.bl b/\Q (.bl (!(a == b))) H
theorem op_notB {X:Cx}:OpR X (compareOp .IsNot) rNotB:=by
 intro pins s σ H x y v u Q I rx ry h
 obtain ⟨a,b,rfl,rfl,q⟩:=h
 cases rx
 cases ry
 exact wpAny_isNot_plain rfl (Zv I q (by cases a <;> cases b <;> rfl))
def dNotB:D->D->Option D
 | .bl a,.bl b=>some (.bl (!(a == b)))
 | _,_=>none
theorem Gf {K:Frag}:ROk K rNotB dNotB:=fun H B x y d1 d2 d Q hB r1 r2 e k=>by
 cases d1 <;> cases d2 <;> simp only [dNotB] at e <;> cases e
 simp only [Rep] at r1 r2
 exact ⟨_,_,r1,r2,k _ H (.refl H) (by simp [Rep])⟩
def W0:D->D->Option D
 | .tup ds,.int k=>if ds≠[]/\0<=k/\ds.length*k.toNat<=1000/\k<=1000 then some (.tup (List.replicate k.toNat ds).flatten) else none
 | _,_=>none
section
variable {X:Cx} {st:Bool} {os:List Nat} {a b:Expr} {ta tb:TE} {fa fb:Ev->Option D} {pos:Pos}
theorem rok_repZ {K:Frag}:ROk K (rRepZ K) W0:=fun H B x y d1 d2 d Q hB r1 r2 e kk=>by
 cases d1 <;> cases d2 <;> simp only [W0] at e <;> try (cases e)
 split at e
 case isFalse=>cases e
 rename_i hc
 cases e
 simp only [Rep] at r1 r2
 obtain ⟨l,xs,rfl,hq,hr⟩:=r1
 subst r2
 rename_i ds n
 have hl:=hr.length
 refine ⟨l,n,xs,rfl,rfl,hq,fun z=>?_,hc.2.1,by rw [hl];exact hc.2.2.1,hc.2.2.2,fun h1=>?_,fun h1 p hp=>?_⟩
 ·rw [z] at hl;exact hc.1 (List.eq_nil_of_length_eq_zero hl.symm)
 ·subst h1
  refine kk _ H (.refl H) ?_
  simp only [Rep]
  exact ⟨l,xs,rfl,hq,by simpa using hr⟩
 ·refine kk _ _ (zz hp) ?_
  simp only [Rep]
  exact ⟨p,_,rfl,.inl (.inl zw),(hr.rep n.toNat).up (zz hp)⟩
theorem se_repZ (ha:SE X st os a ta fa) (hb:SE X st os b tb fb) {K':Frag} (hK:X.K=K':=by rfl):SE X st os (.BinOp a .Mult b pos) (tOp (rRepZ K') ta tb) (f2 W0 fa fb):=by
 subst hK
 exact zB op_repZ rok_repZ ha hb
end
end M
namespace EV
open PySem L2 M
open PySem.W (Frag)
noncomputable def b_worth:Ev->Option Out :=
  (ZH (fA wX (zm true (yv 2 (fZip (zm false (zb 0)) (zm false (zb 1))) (uTup (Jc (zZ 2) (Jc (zZ 3) uNil))) jc (f2 Yj (zb 2) (zb 3))))))
noncomputable def m_worth:List D->Option D:=ym 2 2 b_worth
noncomputable def b_lists_in:Ev->Option Out :=
  (ZH (yv 1 (zm false (zb 0)) (zZ 1) (zG (f1 (JY "list") (zb 1))) (zb 1)))
noncomputable def m_lists_in:List D->Option D:=ym 1 1 b_lists_in
noncomputable def b_new_places (r_new_places r_new_places_of_row:List D->Option D):Ev->Option Out :=
  (ZH (fA wX (zm true (yv 1 (zm true (zb 0)) (zZ 2) jc (fA r_new_places_of_row (zf (zb 2) (zf (zb 1) zu)))))))
noncomputable def b_new_places_of_row (r_new_places r_new_places_of_row:List D->Option D):Ev->Option Out :=
  (zO (mIf (zG (f2 ZS (fIx (zm false (zb 0)) (fC (.int 0))) (fC (.str "call"))))
  (ZH (f2 GH (zb 1) (fIx (zm false (zb 0)) (fC (.int 1)))))
  ZT)
  (ZH (f2 ZY (fC (.int 1)) (fA wX (zm true (yv 1 (zm true (fA m_lists_in (zf (zb 0) zu))) (zZ 2) jc (fA r_new_places (zf (zb 2) (zf (zb 1) zu)))))))))
noncomputable def zC:Nat->(List D->Option D)×(List D->Option D)
 | 0=>((fun _=>none),(fun _=>none))
 | n+1=>(ym 2 2 (b_new_places ((zC n).1) ((zC n).2)),ym 2 2 (b_new_places_of_row ((zC n).1) ((zC n).2)))
noncomputable def m_new_places:List D->Option D:=(zC 60).1
noncomputable def m_new_places_of_row:List D->Option D:=(zC 60).2
noncomputable def b_places_of_bodies:Ev->Option Out :=
  (zO (W9 1 (fC (.dict [] [])))
  (zO (gc (wZ (f2 WD (fA YJ (zm true (zb 0))) (fC (.int 1))) (f1 w9 (fC (.int 1)))) (zZ 2)
  (mDPut 1 (zb 2) (Y6 (fA m_new_places (zf (fIx (zm true (zb 0)) (zb 2)) (zf (zb 1) zu))))))
  (ZH (zb 1))))
noncomputable def m_places_of_bodies:List D->Option D:=ym 1 3 b_places_of_bodies
noncomputable def b_new_place:WM :=
  (yF wInc
  (J9 (w2 WD (wFld 0) (wL (fC (.int 1))))))
noncomputable def ZP:List D->List D->Option (D×List D):=jA 1 1 b_new_place
noncomputable def b_add_step:WM :=
  (wStep (Zo (zf (zb 1) (zf (zb 2) (zf (zb 3) zu)))))
noncomputable def ZM:List D->List D->Option (D×List D):=jA 4 4 b_add_step
noncomputable def b_lay_rows (r_lay_rows r_lay_row r_lay_either r_lay_loop r_lay_call:List D->List D->Option (D×List D)):WM :=
  (yF (jy 3 (wL (zb 2)))
  (yF (wFor (zm true (zb 1)) (zZ 4)
  (jy 3 (Ya 0 r_lay_row (zK (wL (zb 0)) (zK (wL (zb 4)) (zK (wL (zb 3)) (wL zu)))))))
  (J9 (wL (zb 3)))))
noncomputable def b_lay_row (r_lay_rows r_lay_row r_lay_either r_lay_loop r_lay_call:List D->List D->Option (D×List D)):WM :=
  (yF (jy 3 (wL (fIx (zm false (zb 1)) (fC (.int 0)))))
  (yF (wIf (wL (zG (f2 ZS (zb 3) (fC (.str "either")))))
  (J9 (Ya 0 r_lay_either (zK (wL (zb 0)) (zK (wL (zb 1)) (zK (wL (zb 2)) (wL zu))))))
  WJ)
  (yF (wIf (wL (zG (f2 ZS (zb 3) (fC (.str "loop")))))
  (J9 (Ya 0 r_lay_loop (zK (wL (zb 0)) (zK (wL (zb 1)) (zK (wL (zb 2)) (wL zu))))))
  WJ)
  (yF (wIf (wL (zG (f2 ZS (zb 3) (fC (.str "call")))))
  (J9 (Ya 0 r_lay_call (zK (wL (zb 0)) (zK (wL (zb 1)) (zK (wL (zb 2)) (wL zu))))))
  WJ)
  (yF (jy 4 (jz 0 ZP (wL zu)))
  (yF (wIf (wL (zG (f2 jM (zb 3) (fC (.str "halt")))))
  (Jm (jz 0 ZM (zK (wL (zb 2)) (zK (wL (zb 4)) (zK (wL (zb 1)) (wL zu))))))
  WJ)
  (J9 (wL (zb 4)))))))))
noncomputable def b_lay_either (r_lay_rows r_lay_row r_lay_either r_lay_loop r_lay_call:List D->List D->Option (D×List D)):WM :=
  (yF (jy 3 (Ya 0 r_lay_rows (zK (wL (zb 0)) (zK (wL (fIx (zm false (zb 1)) (fC (.int 1)))) (zK (wL (zb 2)) (wL zu))))))
  (yF (jy 4 (Ya 0 r_lay_rows (zK (wL (zb 0)) (zK (wL (fIx (zm false (zb 1)) (fC (.int 2)))) (zK (wL (zb 2)) (wL zu))))))
  (yF (jy 5 (jz 0 ZP (wL zu)))
  (yF (Jm (jz 0 ZM (zK (wL (zb 3)) (zK (wL (zb 5)) (zK (wL (fC (.tup [.str "skip"]))) (wL zu))))))
  (yF (Jm (jz 0 ZM (zK (wL (zb 4)) (zK (wL (zb 5)) (zK (wL (fC (.tup [.str "skip"]))) (wL zu))))))
  (J9 (wL (zb 5))))))))
noncomputable def b_lay_loop (r_lay_rows r_lay_row r_lay_either r_lay_loop r_lay_call:List D->List D->Option (D×List D)):WM :=
  (yF (jy 3 (jz 0 ZP (wL zu)))
  (yF (Jm (jz 0 ZM (zK (wL (zb 2)) (zK (wL (zb 3)) (zK (wL (fC (.tup [.str "skip"]))) (wL zu))))))
  (yF (Jm (jz 0 ZM (zK (Ya 0 r_lay_rows (zK (wL (zb 0)) (zK (wL (fIx (zm false (zb 1)) (fC (.int 1)))) (zK (wL (zb 3)) (wL zu))))) (zK (wL (zb 3)) (zK (wL (fC (.tup [.str "skip"]))) (wL zu))))))
  (J9 (wL (zb 3))))))
noncomputable def b_lay_call (r_lay_rows r_lay_row r_lay_either r_lay_loop r_lay_call:List D->List D->Option (D×List D)):WM :=
  (yF (wIf (wTest (w2 ZS (wDGet (wFld 2) (fIx (zm false (zb 1)) (fC (.int 1)))) (wL (fC (.int 0)))))
  (J9 (wL (zb 2)))
  WJ)
  (J9 (Ya 0 r_lay_rows (zK (wL (zb 0)) (zK (wIxL (wFld 1) (fIx (zm false (zb 1)) (fC (.int 1)))) (zK (wL (zb 2)) (wL zu)))))))
noncomputable def zh:Nat->(List D->List D->Option (D×List D))×(List D->List D->Option (D×List D))×(List D->List D->Option (D×List D))×(List D->List D->Option (D×List D))×(List D->List D->Option (D×List D))
 | 0=>((fun _ _=>none),(fun _ _=>none),(fun _ _=>none),(fun _ _=>none),(fun _ _=>none))
 | n+1=>(jA 3 5 (b_lay_rows ((zh n).1) ((zh n).2.1) ((zh n).2.2.1) ((zh n).2.2.2.1) ((zh n).2.2.2.2)),jA 3 5 (b_lay_row ((zh n).1) ((zh n).2.1) ((zh n).2.2.1) ((zh n).2.2.2.1) ((zh n).2.2.2.2)),jA 3 6 (b_lay_either ((zh n).1) ((zh n).2.1) ((zh n).2.2.1) ((zh n).2.2.2.1) ((zh n).2.2.2.2)),jA 3 4 (b_lay_loop ((zh n).1) ((zh n).2.1) ((zh n).2.2.1) ((zh n).2.2.2.1) ((zh n).2.2.2.2)),jA 3 3 (b_lay_call ((zh n).1) ((zh n).2.1) ((zh n).2.2.1) ((zh n).2.2.2.1) ((zh n).2.2.2.2)))
noncomputable def m_lay_rows:List D->List D->Option (D×List D):=(zh 60).1
noncomputable def m_lay_row:List D->List D->Option (D×List D):=(zh 60).2.1
noncomputable def m_lay_either:List D->List D->Option (D×List D):=(zh 60).2.2.1
noncomputable def m_lay_loop:List D->List D->Option (D×List D):=(zh 60).2.2.2.1
noncomputable def m_lay_call:List D->List D->Option (D×List D):=(zh 60).2.2.2.2
noncomputable def b_laid:Ev->Option Out :=
  (mLaid m_places_of_bodies (fIx (zm false (zb 0)) (fC (.int 1))) (jy 2 (Ya 0 m_lay_rows (zK (wL (zb 1)) (zK (wL (fIx (zm true (fIx (zm false (zb 0)) (fC (.int 1)))) (fC (.int 0)))) (zK (wL (fC (.int 0))) (wL zu)))))))
noncomputable def m_laid:List D->Option D:=ym 1 3 b_laid
noncomputable def b_takes:Ev->Option Out :=
  (ZH (f2 ZS (fIx (zm false (zb 0)) (fC (.int 0))) (fC (.str "take"))))
noncomputable def m_takes:List D->Option D:=ym 1 1 b_takes
noncomputable def b_goes_on:Ev->Option Out :=
  (zO (mIf (GG (zG (WC dLe dLt (fC (.int 0)) (fIx (zm false (zb 1)) (fC (.int 0))) (fA YJ (zm true (zb 0))))))
  (ZH (fC (.bl false)))
  ZT)
  (zO (Zw 3 (fIx (zm true (zb 0)) (fIx (zm false (zb 1)) (fC (.int 0)))))
  (ZH (fAndV (f2 ZS (fIx (zm false (zb 3)) (fC (.int 0))) (zb 2)) (f2 ZS (fA m_takes (zf (fIx (zm false (zb 3)) (fC (.int 2))) zu)) (f2 dNotN (fIx (zm false (zb 1)) (fC (.int 1))) (fC .non)))))))
noncomputable def m_goes_on:List D->Option D:=ym 3 4 b_goes_on
noncomputable def b_places_along:Ev->Option Out :=
  (zO (W9 2 (ZR (zf (fC (.int 0)) zu)))
  (zO (gc (zm true (zb 1)) (zZ 3)
  (zO (mIf (GG (zG (fA m_goes_on (zf (zb 0) (zf (zb 3) (zf (fIx (zm true (zb 2)) (f1 w9 (fC (.int 1)))) zu))))))
  (ZH (fC .non))
  ZT)
  (GA 2 yu (fIx (zm false (fIx (zm true (zb 0)) (fIx (zm false (zb 3)) (fC (.int 0))))) (fC (.int 1))))))
  (ZH (zb 2))))
noncomputable def m_places_along:List D->Option D:=ym 2 4 b_places_along
noncomputable def b_is_run:Ev->Option Out :=
  (ZH (f2 dNotN (fA m_places_along (zf (fIx (zm false (fA m_laid (zf (zb 0) zu))) (fC (.int 1))) (zf (zb 1) zu))) (fC .non)))
noncomputable def m_is_run:List D->Option D:=ym 2 2 b_is_run
noncomputable def b_first_stand:Ev->Option Out :=
  (ZH (JI (Zo (zf (fC (.int 1)) zu)) (f2 W0 (Zo (zf (fC (.int 0)) zu)) (fIx (zm false (zb 0)) (fC (.int 0))))))
noncomputable def m_first_stand:List D->Option D:=ym 1 1 b_first_stand
noncomputable def b_stand_behind:Ev->Option Out :=
  (zO (mIf (zG (f2 ZS (fIx (zm false (zb 0)) (fC (.int 0))) (fC (.str "skip"))))
  (ZH (zb 2))
  ZT)
  (zO (Zw 3 (f2 ZY (fIx (zm false (zb 0)) (fC (.int 1))) (fC (.int 1))))
  (zO (Zw 4 (fIf (zG (fA m_takes (zf (zb 0) zu))) (zb 1) (fA m_worth (zf (fIx (zm false (zb 0)) (fC (.int 2))) (zf (zb 2) zu)))))
  (ZH (JI (JI (J7 (zm false (zb 2)) fNo (YC (zb 3))) (Zo (zf (zb 4) zu))) (J7 (zm false (zb 2)) (YC (f2 ZY (zb 3) (fC (.int 1)))) fNo))))))
noncomputable def m_stand_behind:List D->Option D:=ym 3 5 b_stand_behind
noncomputable def b_ran:Ev->Option Out :=
  (zO (Zw 2 (fIx (zm false (fA m_laid (zf (zb 0) zu))) (fC (.int 1))))
  (zO (Zw 3 (fA m_places_along (zf (zb 2) (zf (zb 1) zu))))
  (zO (mIf (zG (f2 dIsN (zb 3) (fC .non)))
  mNever
  ZT)
  (zO (W9 4 (ZR (zf (fA m_first_stand (zf (zb 0) zu)) zu)))
  (zO (gc (zm true (zb 1)) (zZ 5)
  (GA 4 yu (fA m_stand_behind (zf (fIx (zm false (fIx (zm true (zb 2)) (fIx (zm false (zb 5)) (fC (.int 0))))) (fC (.int 2))) (zf (fIx (zm false (zb 5)) (fC (.int 1))) (zf (fIx (zm true (zb 4)) (f1 w9 (fC (.int 1)))) zu))))))
  (ZH (GF (zm true (zb 3)) (zm true (zb 4)))))))))
noncomputable def m_ran:List D->Option D:=ym 2 6 b_ran
noncomputable def b'cell:Ev->Option Out :=
  (zO (mIf (zG (f2 dLt (zb 1) (fA YJ (zm true (zb 0)))))
  (ZH (fIx (zm true (zb 0)) (zb 1)))
  ZT)
  (zO (Zw 2 (f2 ZY (f2 Yj (zb 1) (fC (.int 7919))) (fC (.int 5))))
  (zO (mIf (zG (f2 dGt (fA YJ (zm true (zb 0))) (fC (.int 0))))
  (Zw 2 (f2 yq (f2 ZY (f2 Yj (fIx (zm true (zb 0)) (f2 yq (f2 Yj (zb 1) (fC (.int 7))) (fA YJ (zm true (zb 0))))) (fC (.int 48271))) (f2 Yj (zb 1) (fC (.int 7919)))) (fC (.int 2147483647))))
  ZT)
  (zO (Zw 2 (f2 yq (f2 Yj (zb 2) (zb 2)) (fC (.int 2147483629))))
  (ZH (f2 yq (f2 Yj (f2 ZY (zb 2) (fC (.int 11))) (f2 ZY (zb 2) (fC (.int 3)))) (fC (.int 2147483587))))))))
noncomputable def m'cell:List D->Option D:=ym 2 3 b'cell
noncomputable def b'line:Ev->Option Out :=
  (zO (W9 2 (ZR zu))
  (zO (gc (YB (f2 ZY (zb 1) (fC (.int 1)))) (zZ 3)
  (zO (Zw 4 (f2 yq (f2 ZY (f2 Yj (f2 dDivP (zb 0) (f2 ZY (f2 Yj (zb 3) (zb 3)) (fC (.int 3)))) (fC (.int 48271))) (f2 Yj (zb 3) (fC (.int 69621)))) (fC (.int 2147483647))))
  (zO (Zw 5 (fIx (zm true (ZR (zf (fC (.int 0)) (zf (fC (.int 1)) (zf (fC (.int 0)) (zf (f1 w9 (fC (.int 1))) (zf (fC (.int 1)) (zf (fC (.int 2)) (zf (fC (.int 0)) (zf (fC (.int 3)) (zf (f1 w9 (fC (.int 2))) zu))))))))))) (f2 yq (zb 4) (fC (.int 9)))))
  (zO (mIf (zG (f2 ZS (f2 yq (f2 YK (zb 4) (fC (.int 9))) (fC (.int 60))) (fC (.int 7))))
  (zO (Zw 5 (f2 WD (f2 yq (f2 YK (zb 4) (fC (.int 540))) (fC (.int 1999999))) (fC (.int 999999))))
  (mIf (zG (f2 dGt (zb 3) (fC (.int 0))))
  (Zw 5 (f2 WD (f2 yq (zb 5) (fC (.int 19))) (fC (.int 9))))
  ZT))
  ZT)
  (GA 2 yu (zb 5))))))
  (ZH (fA JE (zm true (zb 2))))))
noncomputable def m'line:List D->Option D:=ym 2 6 b'line
noncomputable def b'deed:Ev->Option Out :=
  (zO (Zw 3 (f2 yq (f2 YK (zb 0) (fC (.int 8))) (fC (.int 13))))
  (zO (mIf (w6 (zG (f2 dGt (zb 3) (fC (.int 10)))) (zG (f2 gg (zb 2) (ZR zu))))
  (ZH (Y6 (fIx (zm true (yv 1 (zm true (zb 2)) (zZ 5) jc (Zo (zf (fC (.str "call")) (zf (fIx (zm false (zb 5)) (fC (.int 0))) zu))))) (f2 yq (f2 YK (zb 0) (fC (.int 104))) (fA YJ (zm true (zb 2)))))))
  ZT)
  (zO (mIf (zG (f2 ZS (zb 3) (fC (.int 8))))
  (ZH (Zo (zf (fC (.str "either")) (zf (ZR zu) (zf (ZR zu) zu)))))
  ZT)
  (zO (mIf (zG (f2 ZS (zb 3) (fC (.int 9))))
  (ZH (Zo (zf (fC (.str "loop")) (zf (ZR zu) zu))))
  ZT)
  (zO (mIf (w6 (zG (f2 ZS (zb 3) (fC (.int 10)))) (zG (f2 ZS (f2 yq (f2 YK (zb 0) (fC (.int 104))) (fC (.int 3))) (fC (.int 0)))))
  (ZH (Y6 (Zo (zf (fC (.str "halt")) zu))))
  ZT)
  (zO (mIf (fOr (zG (f2 ZS (zb 3) (fC (.int 7)))) (zG (f2 ZS (zb 1) (fC (.int 0)))))
  (ZH (Y6 (Zo (zf (fC (.str "skip")) zu))))
  ZT)
  (zO (Zw 4 (f2 yq (f2 YK (zb 0) (fC (.int 104))) (zb 1)))
  (zO (mIf (w6 (zG (f2 dGt (zb 3) (fC (.int 4)))) (zG (f2 dLt (zb 3) (fC (.int 7)))))
  (ZH (Y6 (Zo (zf (fC (.str "take")) (zf (zb 4) zu)))))
  ZT)
  (ZH (Y6 (Zo (zf (fC (.str "set")) (zf (zb 4) (zf (fA m'line (zf (f2 YK (zb 0) (fC (.int 13))) (zf (zb 1) zu))) zu))))))))))))))
noncomputable def m'deed:List D->Option D:=ym 3 5 b'deed
noncomputable def b'body:Ev->Option Out :=
  (mB15 (fA m'deed (zf (zb 8) (zf (zb 1) (zf (zb 2) zu)))) (fA wX (zm true (yv 1 (zm true (zb 2)) (zZ 11) (w6 (zG (f2 ZS (fIx (zm false (zb 9)) (fC (.int 0))) (fC (.str "call")))) (zG (f2 WH (fIx (zm false (zb 11)) (fC (.int 0))) (fIx (zm false (zb 9)) (fC (.int 1)))))) (fIx (zm false (zb 11)) (fC (.int 1)))))) (f2 ZY (zb 10) (fA gInt (zf (Y6 (f2 jM (fIx (zm false (zb 9)) (fC (.int 0))) (fC (.str "call")))) zu))))
noncomputable def m'body:List D->Option D:=ym 5 11 b'body
noncomputable def b'program:Ev->Option Out :=
  (zO (Zw 4 (ZR zu))
  (zO (Zw 5 (ZR zu))
  (zO (Zw 6 (f2 ZY (fC (.int 1)) (f2 yq (fA m'cell (zf (zb 0) (zf (zb 1) zu))) (fC (.int 4)))))
  (zO (gc (wZ (f2 WD (zb 6) (fC (.int 1))) (f1 w9 (fC (.int 1)))) (zZ 7)
  (zO (Zw 8 (fC (.int 4)))
  (zO (Zw 9 (fC (.int 2)))
  (zO (mIf (zG (f2 ZS (zb 7) (fC (.int 0))))
  (zO (Zw 8 (f2 ZY (fC (.int 6)) (f2 yq (f2 YK (fA m'cell (zf (zb 0) (zf (zb 1) zu))) (fC (.int 3))) (fC (.int 9)))))
  (Zw 9 (fC (.int 3))))
  ZT)
  (zO (Zw 10 (f2 ZY (f2 ZY (f2 ZY (zb 1) (fC (.int 1))) (f2 Yj (fC (.int 11)) (fA gInt (zf (Y6 (f2 dGt (zb 7) (fC (.int 0)))) zu)))) (f2 Yj (fC (.int 4)) (zb 7))))
  (zO (Zw 11 (yv 1 (YB (zb 8)) (zZ 14) jc (fA m'cell (zf (zb 0) (zf (f2 ZY (zb 10) (zb 14)) zu)))))
  (zO (mAsg (uTup (Jc (zZ 12) (Jc (zZ 13) uNil))) (fA m'body (zf (zb 11) (zf (zb 2) (zf (zb 5) (zf (zb 9) (zf (zb 3) zu)))))))
  (zO (mIf (w6 (zG (f2 ZS (zb 6) (fC (.int 1)))) (zG (f2 ZS (f2 yq (f2 YK (fA m'cell (zf (zb 0) (zf (zb 1) zu))) (fC (.int 108))) (fC (.int 2))) (fC (.int 1)))))
  (Zw 12 (ZR (zf (Zo (zf (fC (.str "either")) (zf (ZR zu) (zf (ZR (zf (Zo (zf (fC (.str "loop")) (zf (ZR (zf (Zo (zf (fC (.str "either")) (zf (zb 12) (zf (ZR zu) zu)))) zu)) zu))) zu)) zu)))) zu)))
  ZT)
  (zO (Zw 4 (fCat (fL (ZR (zf (zb 12) zu))) (fL (zb 4))))
  (Zw 5 (fCat (fL (ZR (zf (Zo (zf (zb 7) (zf (zb 13) zu))) zu))) (fL (zb 5)))))))))))))
  (ZH (Zo (zf (zb 2) (zf (zb 4) zu))))))))
noncomputable def m'program:List D->Option D:=ym 4 14 b'program
noncomputable def b'lay (r'lay:List D->List D->Option (D×List D)):WM :=
  (yF (wFor (zm true (zb 0)) (zZ 4)
  (wIf (wL (zG (f2 ZS (fIx (zm false (zb 4)) (fC (.int 0))) (fC (.str "call")))))
  (jy 1 (Ya 3 r'lay (zK (wL (fIx (zm true (zb 2)) (fIx (zm false (zb 4)) (fC (.int 1))))) (zK (wL (zb 1)) (zK (wL (zb 2)) (zK (wL (zb 3)) (wL zu)))))))
  (wIf (wL (zG (f2 ZS (fIx (zm false (zb 4)) (fC (.int 0))) (fC (.str "either")))))
  (yF (jy 5 (wComp 1 (zm false (J7 (zm false (zb 4)) (YC (fC (.int 1))) fNo)) (zZ 7) (Ya 3 r'lay (zK (wL (zb 7)) (zK (wL (zb 1)) (zK (wL (zb 2)) (zK (wL (zb 3)) (wL zu))))))))
  (yF (jy 1 (wIx (fC (.int 0))))
  (yF (Wi (w2 ZY (wIx (fC (.int 0))) (wL (fC (.int 1)))) (fC (.int 0)))
  (wExt (yv 1 (zm true (zb 5)) (zZ 7) jc (Zo (zf (zb 7) (zf (zb 1) (zf (Zo (zf (fC (.str "skip")) zu)) zu)))))))))
  (yF (jy 6 (wL (zb 1)))
  (yF (jy 1 (wIx (fC (.int 0))))
  (yF (Wi (w2 ZY (wIx (fC (.int 0))) (wL (fC (.int 1)))) (fC (.int 0)))
  (wIf (wL (zG (f2 ZS (fIx (zm false (zb 4)) (fC (.int 0))) (fC (.str "loop")))))
  (yF (wApp (wL (Zo (zf (zb 6) (zf (zb 1) (zf (Zo (zf (fC (.str "skip")) zu)) zu))))))
  (wApp (wTup (zK (Ya 3 r'lay (zK (wL (fIx (zm false (zb 4)) (fC (.int 1)))) (zK (wL (zb 1)) (zK (wL (zb 2)) (zK (wL (zb 3)) (wL zu)))))) (zK (wL (zb 1)) (zK (wL (Zo (zf (fC (.str "skip")) zu))) (wL zu)))))))
  (wIf (wL (zG (f2 jM (fIx (zm false (zb 4)) (fC (.int 0))) (fC (.str "halt")))))
  (wApp (wL (Zo (zf (zb 6) (zf (zb 1) (zf (zb 4) zu))))))
  WJ))))))))
  (J9 (wL (zb 1))))
noncomputable def W3:Nat->(List D->List D->Option (D×List D))
 | 0=>(fun _ _=>none)
 | n+1=>jA 4 7 (b'lay ((W3 n)))
noncomputable def m'lay:List D->List D->Option (D×List D):=(W3 60)
noncomputable def b'behind:Ev->Option Out :=
  (zO (mIf (zG (f2 ZS (fIx (zm false (zb 1)) (fC (.int 0))) (fC (.str "skip"))))
  (ZH (zb 0))
  ZT)
  (zO (mIf (zG (f2 ZS (fIx (zm false (zb 1)) (fC (.int 0))) (fC (.str "set"))))
  (Zw 2 (fA wX (zm true (yv 1 (YB (fA YJ (zm false (zb 0)))) (zZ 3) jc (f2 Yj (fIx (zm false (fIx (zm false (zb 1)) (fC (.int 2)))) (zb 3)) (fIx (zm false (zb 0)) (zb 3)))))))
  ZT)
  (ZH (fA JE (zm true (yv 1 (YB (fA YJ (zm false (zb 0)))) (zZ 3) jc (fIf (zG (f2 jM (zb 3) (f2 ZY (fIx (zm false (zb 1)) (fC (.int 1))) (fC (.int 1))))) (fIx (zm false (zb 0)) (zb 3)) (zb 2))))))))
noncomputable def m'behind:List D->Option D:=ym 3 3 b'behind
noncomputable def b'run:Ev->Option Out :=
  (zO (W9 4 (ZR zu))
  (zO (Zw 5 (fC (.int 0)))
  (zO (gc (YB (zb 3)) (zZ 6)
  (zO (Zw 7 (f2 dDivP (fA m'cell (zf (zb 0) (zf (f2 ZY (zb 1) (f2 yq (zb 6) (fC (.int 23)))) zu))) (f2 ZY (fC (.int 1)) (f2 YK (zb 6) (fC (.int 23))))))
  (zO (Zw 8 (yv 1 (YB (fA YJ (zm true (zb 2)))) (zZ 11) (zG (f2 ZS (fIx (zm false (fIx (zm true (zb 2)) (zb 11))) (fC (.int 0))) (zb 5))) (zb 11)))
  (mIf (zG (f2 gg (zb 8) (ZR zu)))
  (zO (Zw 9 (fIx (zm true (zb 8)) (f2 yq (f2 ZY (zb 7) (f2 Yj (zb 6) (zb 6))) (fA YJ (zm true (zb 8))))))
  (zO (Zw 10 (fC .non))
  (zO (mIf (zG (f2 ZS (fIx (zm false (fIx (zm false (fIx (zm true (zb 2)) (zb 9))) (fC (.int 2)))) (fC (.int 0))) (fC (.str "take"))))
  (Zw 10 (fIx (zm true (ZR (zf (fC (.int 0)) (zf (fC (.int 1)) (zf (f2 WD (f2 yq (f2 YK (zb 7) (fC (.int 7))) (fC (.int 21))) (fC (.int 10))) (zf (f2 WD (f2 yq (f2 YK (zb 7) (fC (.int 7))) (fC (.int 1999999999))) (fC (.int 999999999))) zu)))))) (f2 yq (f2 YK (zb 7) (fC (.int 3))) (fC (.int 4)))))
  ZT)
  (zO (GA 4 yu (Zo (zf (zb 9) (zf (zb 10) zu))))
  (Zw 5 (fIx (zm false (fIx (zm true (zb 2)) (zb 9))) (fC (.int 1))))))))
  ZT))))
  (ZH (zb 4)))))
noncomputable def m'run:List D->Option D:=ym 4 11 b'run
noncomputable def b'walked:Ev->Option Out :=
  (zO (Zw 3 (fC (.int 0)))
  (zO (Zw 4 (JI (Zo (zf (fC (.int 1)) zu)) (f2 W0 (Zo (zf (fC (.int 0)) zu)) (zb 0))))
  (zO (W9 5 (ZR (zf (Zo (zf (zb 3) (zf (zb 4) zu))) zu)))
  (zO (gc (zm true (zb 2)) (uTup (Jc (zZ 6) (Jc (zZ 7) uNil)))
  (zO (Zw 4 (fA m'behind (zf (zb 4) (zf (fIx (zm false (fIx (zm true (zb 1)) (zb 6))) (fC (.int 2))) (zf (zb 7) zu)))))
  (zO (Zw 3 (fIx (zm false (fIx (zm true (zb 1)) (zb 6))) (fC (.int 1))))
  (GA 5 yu (Zo (zf (zb 3) (zf (zb 4) zu)))))))
  (ZH (zb 5))))))
noncomputable def m'walked:List D->Option D:=ym 3 8 b'walked
noncomputable def b'good:Ev->Option Out :=
  (zO (mIf (fOr (GG (zG (f1 (JY "list") (zb 0)))) (zG (f2 jM (fA YJ (zm true (zb 0))) (fA YJ (zm true (zb 1))))))
  (ZH (fC (.bl false)))
  ZT)
  (zO (gc (zm true (zb 0)) (zZ 2)
  (zO (mIf (fOr (GG (zG (f1 (JY "tuple") (zb 2)))) (fOr (zG (f2 jM (fA YJ (zm false (zb 2))) (fC (.int 2)))) (GG (zG (f1 (JY "tuple") (fIx (zm false (zb 2)) (fC (.int 1))))))))
  (ZH (fC (.bl false)))
  ZT)
  (gc (zm false (JI (fIx (zm false (zb 2)) (fC (.int 1))) (J7 (zm false (zb 2)) fNo (YC (fC (.int 1)))))) (zZ 3)
  (mIf (fOr (GG (zG (f1 (JY "int") (zb 3)))) (zG (f1 (JY "bool") (zb 3))))
  (ZH (fC (.bl false)))
  ZT))))
  (ZH (f2 WH (zb 0) (zb 1)))))
noncomputable def m'good:List D->Option D:=ym 2 4 b'good
noncomputable def b'rounds:Ev->Option Out :=
  (zO (Zw 1 (Zo (zf (fC (.int 1)) (zf (ZR (zf (ZR (zf (Zo (zf (fC (.str "loop")) (zf (ZR (zf (Zo (zf (fC (.str "set")) (zf (fC (.int 0)) (zf (Zo (zf (fC (.int 1)) (zf (fC (.int 1)) zu))) zu)))) zu)) zu))) zu)) zu)) zu))))
  (zO (Zw 2 (fCat (fL (ZR (zf (Zo (zf (fC (.int 0)) (zf (fC .non) zu))) zu))) (fL (fRep (fL (ZR (zf (Zo (zf (fC (.int 1)) (zf (fC .non) zu))) (zf (Zo (zf (fC (.int 2)) (zf (fC .non) zu))) zu)))) (zb 0)))))
  (zO (Zw 3 (fA m_ran (zf (zb 1) (zf (fA (fun ds=>some (.lst ds)) (zm true (zb 2))) zu))))
  (zO (mIf (fOr (zG (f2 dNotB (fA m_is_run (zf (zb 1) (zf (zb 2) zu))) (fC (.bl true)))) (fOr (zG (f2 jM (fA YJ (zm true (zb 3))) (f2 ZY (f2 Yj (fC (.int 2)) (zb 0)) (fC (.int 2))))) (zG (f2 gg (fIx (zm true (zb 3)) (fC (.int 0))) (Zo (zf (fC (.int 0)) (zf (Zo (zf (fC (.int 1)) (zf (fC (.int 0)) zu))) zu)))))))
  (ZH (fC (.bl false)))
  ZT)
  (zO (gc (YB (zb 0)) (zZ 4)
  (mIf (fOr (zG (f2 gg (fIx (zm true (zb 3)) (f2 ZY (f2 Yj (fC (.int 2)) (zb 4)) (fC (.int 1)))) (Zo (zf (fC (.int 1)) (zf (Zo (zf (fC (.int 1)) (zf (zb 4) zu))) zu))))) (zG (f2 gg (fIx (zm true (zb 3)) (f2 ZY (f2 Yj (fC (.int 2)) (zb 4)) (fC (.int 2)))) (Zo (zf (fC (.int 2)) (zf (Zo (zf (fC (.int 1)) (zf (f2 ZY (zb 4) (fC (.int 1))) zu))) zu))))))
  (ZH (fC (.bl false)))
  ZT))
  (ZH (f2 WH (fIx (zm true (zb 3)) (f1 w9 (fC (.int 1)))) (Zo (zf (fC (.int 1)) (zf (Zo (zf (fC (.int 1)) (zf (zb 0) zu))) zu))))))))))
noncomputable def m'rounds:List D->Option D:=ym 1 5 b'rounds
noncomputable def b_law:Ev->Option Out :=
  (zO (Zw 1 (f2 yq (fA m'cell (zf (zb 0) (zf (fC (.int 0)) zu))) (fC (.int 7))))
  (zO (Zw 2 (fA m'program (zf (zb 0) (zf (fC (.int 1)) (zf (zb 1) (zf (fC (.int 36)) zu))))))
  (zO (W9 3 (ZR (zf (fC (.int 1)) zu)))
  (zO (mLend 3 (Jm (Ya 3 m'lay (zK (wL (fIx (zm true (fIx (zm false (zb 2)) (fC (.int 1)))) (fC (.int 0)))) (zK (wL (fC (.int 0))) (zK (wL (fIx (zm false (zb 2)) (fC (.int 1)))) (zK (wL (zb 3)) (wL zu))))))))
  (zO (Zw 4 (fCut .lst (zm true (zb 3)) (YC (fC (.int 1))) fNo))
  (zO (Zw 5 (fA m'cell (zf (zb 0) (zf (fC (.int 25)) zu))))
  (zO (Zw 6 (f2 yq (zb 5) (fC (.int 61))))
  (zO (mIf (zG (f2 ZS (f2 yq (f2 YK (zb 5) (fC (.int 61))) (fC (.int 8))) (fC (.int 5))))
  (Zw 6 (f2 yq (f2 YK (zb 5) (fC (.int 488))) (fC (.int 251))))
  ZT)
  (zO (Zw 7 (fA m'run (zf (zb 0) (zf (fC (.int 26)) (zf (zb 4) (zf (zb 6) zu))))))
  (zO (Zw 8 (fA m'walked (zf (zb 1) (zf (zb 4) (zf (zb 7) zu)))))
  (zO (W9 9 (fA (fun ds=>some (.lst ds)) (zm true (zb 7))))
  (zO (mNewRW 10 (fA m_ran (zf (zb 2) (zf (zb 9) zu))))
  (zO (mIf (fOr (zG (f2 gg (zb 9) (zb 7))) (GG (zG (fA m'good (zf (zb 10) (zf (zb 8) zu))))))
  (ZH (fC (.bl false)))
  ZT)
  (zO (gx 9 )
  (zO (GA 10 yu (Zo (zf (fC (.int 0)) (zf (Zo zu) zu))))
  (zO (Zw 11 (f2 yq (f2 YK (zb 5) (fC (.int 61))) (f2 ZY (fA YJ (zm true (zb 7))) (fC (.int 1)))))
  (zO (mIf (fOr (zG (f2 dNotB (fA m_is_run (zf (zb 2) (zf (fCut .lst (zm true (zb 7)) fNo (YC (zb 11))) zu))) (fC (.bl true)))) (zG (f2 dNotB (fA m_is_run (zf (zb 2) (zf (fA (fun ds=>some (.lst ds)) (zm true (zb 7))) zu))) (fC (.bl true)))))
  (ZH (fC (.bl false)))
  ZT)
  (zO (mIf (w6 (zG (f2 ZS (f2 yq (f2 YK (zb 5) (fC (.int 61))) (fC (.int 8))) (fC (.int 3)))) (GG (zG (fA m'rounds (zf (f2 yq (f2 YK (zb 5) (fC (.int 488))) (fC (.int 2901))) zu)))))
  (ZH (fC (.bl false)))
  ZT)
  (ZH (fAndV (fA m'good (zf (fA m_ran (zf (zb 2) (zf (fCut .lst (zm true (zb 7)) fNo (YC (zb 11))) zu))) (zf (fCut .lst (zm true (zb 8)) fNo (YC (f2 ZY (zb 11) (fC (.int 1))))) zu))) (fA m'good (zf (fA m_ran (zf (zb 2) (zf (zb 7) zu))) (zf (zb 8) zu)))))))))))))))))))))))
noncomputable def Gz:List D->Option D:=ym 1 12 b_law
def top (i:Nat):Stmt:=PySem.Challenge.pw_evennotes_k17_places_and_stands.main.body.getD i (.Pass ⟨0,0,0,0⟩)
abbrev jT:Stmt:=top 1
abbrev yM:Stmt:=top 6
abbrev yj:Stmt:=top 7
abbrev Zu:Stmt:=top 8
abbrev wg:Stmt:=top 12
abbrev Zy:Stmt:=top 13
abbrev yN:Stmt:=top 14
abbrev Ym:Stmt:=top 15
abbrev yk:Stmt:=top 16
abbrev yO:Stmt:=top 17
abbrev yP:Stmt:=top 18
abbrev YY:Stmt:=top 20
abbrev Gb:Stmt:=top 21
abbrev ye:Stmt:=top 22
abbrev jU:Stmt:=top 23
abbrev Z1:Stmt:=top 24
abbrev Z2:Stmt:=top 25
abbrev Yn:Stmt:=top 26
abbrev wn:Stmt:=top 28
abbrev wj:Stmt:=top 29
abbrev wm:Stmt:=top 30
abbrev wo:Stmt:=top 31
abbrev Yo:Stmt:=top 32
abbrev Ge:Stmt:=top 33
abbrev Y1:Stmt:=top 34
abbrev Gd:Stmt:=top 35
abbrev YZ:Stmt:=top 36
abbrev wk:Stmt:=top 37
abbrev Y0:Stmt:=top 38
abbrev Gc:Stmt:=top 39
abbrev yR:Stmt:=inCls (top 11) 0
abbrev yz:Stmt:=inCls (top 11) 1
abbrev yQ:Stmt:=inCls (top 11) 2
structure Ads where
 f_worth:Addr
 d_worth:FuncData
 f_lists_in:Addr
 d_lists_in:FuncData
 f_new_places:Addr
 d_new_places:FuncData
 f_new_places_of_row:Addr
 d_new_places_of_row:FuncData
 f_laid:Addr
 d_laid:FuncData
 f_places_of_bodies:Addr
 d_places_of_bodies:FuncData
 f_lay_rows:Addr
 d_lay_rows:FuncData
 f_lay_row:Addr
 d_lay_row:FuncData
 f_lay_either:Addr
 d_lay_either:FuncData
 f_lay_loop:Addr
 d_lay_loop:FuncData
 f_lay_call:Addr
 d_lay_call:FuncData
 f_is_run:Addr
 d_is_run:FuncData
 f_ran:Addr
 d_ran:FuncData
 f_first_stand:Addr
 d_first_stand:FuncData
 f_takes:Addr
 d_takes:FuncData
 f_stand_behind:Addr
 d_stand_behind:FuncData
 f_places_along:Addr
 d_places_along:FuncData
 f_goes_on:Addr
 d_goes_on:FuncData
 f'cell:Addr
 d'cell:FuncData
 f'line:Addr
 d'line:FuncData
 f'deed:Addr
 d'deed:FuncData
 f'body:Addr
 d'body:FuncData
 f'program:Addr
 d'program:FuncData
 f'lay:Addr
 d'lay:FuncData
 f'behind:Addr
 d'behind:FuncData
 f'run:Addr
 d'run:FuncData
 f'walked:Addr
 d'walked:FuncData
 f'good:Addr
 d'good:FuncData
 f'rounds:Addr
 d'rounds:FuncData
 f_law:Addr
 d_law:FuncData
 f___init__:Addr
 d___init__:FuncData
 f_new_place:Addr
 d_new_place:FuncData
 f_add_step:Addr
 d_add_step:FuncData
 t_SKIP:Tok
 a_SKIP:Addr
 o_SKIP:Option Addr
 n_SKIP:Nat
 l_SKIP:Array (Option Value)
 C:Addr
structure Txt (K:Frag) (mg:Str->Option Value) (Z:Ads):Prop where
 F_worth:Fun K "worth" "worth" jT Z.f_worth Z.d_worth
 b_worth:Zk K Z.d_worth ["one","other"] []
 m_worth:mg "worth"=some (.ref Z.f_worth)
 F_lists_in:Fun K "lists_in" "lists_in" yM Z.f_lists_in Z.d_lists_in
 b_lists_in:Zk K Z.d_lists_in ["row"] []
 m_lists_in:mg "lists_in"=some (.ref Z.f_lists_in)
 F_new_places:Fun K "new_places" "new_places" yj Z.f_new_places Z.d_new_places
 b_new_places:Zk K Z.d_new_places ["rows","called"] []
 m_new_places:mg "new_places"=some (.ref Z.f_new_places)
 F_new_places_of_row:Fun K "new_places_of_row" "new_places_of_row" Zu Z.f_new_places_of_row Z.d_new_places_of_row
 b_new_places_of_row:Zk K Z.d_new_places_of_row ["row","called"] []
 m_new_places_of_row:mg "new_places_of_row"=some (.ref Z.f_new_places_of_row)
 F_laid:Fun K "laid" "laid" wg Z.f_laid Z.d_laid
 b_laid:Zk K Z.d_laid ["program"] []
 m_laid:mg "laid"=some (.ref Z.f_laid)
 F_places_of_bodies:Fun K "places_of_bodies" "places_of_bodies" Zy Z.f_places_of_bodies Z.d_places_of_bodies
 b_places_of_bodies:Zk K Z.d_places_of_bodies ["bodies"] []
 m_places_of_bodies:mg "places_of_bodies"=some (.ref Z.f_places_of_bodies)
 F_lay_rows:Fun K "lay_rows" "lay_rows" yN Z.f_lay_rows Z.d_lay_rows
 b_lay_rows:Zk K Z.d_lay_rows ["layout","rows","place"] []
 m_lay_rows:mg "lay_rows"=some (.ref Z.f_lay_rows)
 F_lay_row:Fun K "lay_row" "lay_row" Ym Z.f_lay_row Z.d_lay_row
 b_lay_row:Zk K Z.d_lay_row ["layout","row","place"] []
 m_lay_row:mg "lay_row"=some (.ref Z.f_lay_row)
 F_lay_either:Fun K "lay_either" "lay_either" yk Z.f_lay_either Z.d_lay_either
 b_lay_either:Zk K Z.d_lay_either ["layout","row","place"] []
 m_lay_either:mg "lay_either"=some (.ref Z.f_lay_either)
 F_lay_loop:Fun K "lay_loop" "lay_loop" yO Z.f_lay_loop Z.d_lay_loop
 b_lay_loop:Zk K Z.d_lay_loop ["layout","row","place"] []
 m_lay_loop:mg "lay_loop"=some (.ref Z.f_lay_loop)
 F_lay_call:Fun K "lay_call" "lay_call" yP Z.f_lay_call Z.d_lay_call
 b_lay_call:Zk K Z.d_lay_call ["layout","row","place"] []
 m_lay_call:mg "lay_call"=some (.ref Z.f_lay_call)
 F_is_run:Fun K "is_run" "is_run" YY Z.f_is_run Z.d_is_run
 b_is_run:Zk K Z.d_is_run ["program","moves"] []
 m_is_run:mg "is_run"=some (.ref Z.f_is_run)
 F_ran:Fun K "ran" "ran" Gb Z.f_ran Z.d_ran
 b_ran:Zk K Z.d_ran ["program","moves"] []
 m_ran:mg "ran"=some (.ref Z.f_ran)
 F_first_stand:Fun K "first_stand" "first_stand" ye Z.f_first_stand Z.d_first_stand
 b_first_stand:Zk K Z.d_first_stand ["program"] []
 m_first_stand:mg "first_stand"=some (.ref Z.f_first_stand)
 F_takes:Fun K "takes" "takes" jU Z.f_takes Z.d_takes
 b_takes:Zk K Z.d_takes ["deed"] []
 m_takes:mg "takes"=some (.ref Z.f_takes)
 F_stand_behind:Fun K "stand_behind" "stand_behind" Z1 Z.f_stand_behind Z.d_stand_behind
 b_stand_behind:Zk K Z.d_stand_behind ["deed","number","stand"] []
 m_stand_behind:mg "stand_behind"=some (.ref Z.f_stand_behind)
 F_places_along:Fun K "places_along" "places_along" Z2 Z.f_places_along Z.d_places_along
 b_places_along:Zk K Z.d_places_along ["steps","moves"] []
 m_places_along:mg "places_along"=some (.ref Z.f_places_along)
 F_goes_on:Fun K "goes_on" "goes_on" Yn Z.f_goes_on Z.d_goes_on
 b_goes_on:Zk K Z.d_goes_on ["steps","move","place"] []
 m_goes_on:mg "goes_on"=some (.ref Z.f_goes_on)
 F'cell:Fun K "_law_cell" "_law_cell" wn Z.f'cell Z.d'cell
 b'cell:Zk K Z.d'cell ["_law_script","_law_k"] []
 m'cell:mg "_law_cell"=some (.ref Z.f'cell)
 F'line:Fun K "_law_line" "_law_line" wj Z.f'line Z.d'line
 b'line:Zk K Z.d'line ["_law_cell_here","_law_many"] []
 m'line:mg "_law_line"=some (.ref Z.f'line)
 F'deed:Fun K "_law_deed" "_law_deed" wm Z.f'deed Z.d'deed
 b'deed:Zk K Z.d'deed ["_law_cell_here","_law_many","_law_later_on"] []
 m'deed:mg "_law_deed"=some (.ref Z.f'deed)
 F'body:Fun K "_law_body" "_law_body" wo Z.f'body Z.d'body
 b'body:Zk K Z.d'body ["_law_cells","_law_many","_law_later_on","_law_deep","_law_most"] []
 m'body:mg "_law_body"=some (.ref Z.f'body)
 F'program:Fun K "_law_program" "_law_program" Yo Z.f'program Z.d'program
 b'program:Zk K Z.d'program ["_law_script","_law_at","_law_many","_law_most"] []
 m'program:mg "_law_program"=some (.ref Z.f'program)
 F'lay:Fun K "_law_lay" "_law_lay" Ge Z.f'lay Z.d'lay
 b'lay:Zk K Z.d'lay ["_law_rows","_law_place","_law_bodies","_law_made"] []
 m'lay:mg "_law_lay"=some (.ref Z.f'lay)
 F'behind:Fun K "_law_behind" "_law_behind" Y1 Z.f'behind Z.d'behind
 b'behind:Zk K Z.d'behind ["_law_stand","_law_deed_here","_law_number"] []
 m'behind:mg "_law_behind"=some (.ref Z.f'behind)
 F'run:Fun K "_law_run" "_law_run" Gd Z.f'run Z.d'run
 b'run:Zk K Z.d'run ["_law_script","_law_at","_law_steps","_law_most"] []
 m'run:mg "_law_run"=some (.ref Z.f'run)
 F'walked:Fun K "_law_walked" "_law_walked" YZ Z.f'walked Z.d'walked
 b'walked:Zk K Z.d'walked ["_law_many","_law_steps","_law_moves"] []
 m'walked:mg "_law_walked"=some (.ref Z.f'walked)
 F'good:Fun K "_law_good" "_law_good" wk Z.f'good Z.d'good
 b'good:Zk K Z.d'good ["_law_found","_law_due"] []
 m'good:mg "_law_good"=some (.ref Z.f'good)
 F'rounds:Fun K "_law_rounds" "_law_rounds" Y0 Z.f'rounds Z.d'rounds
 b'rounds:Zk K Z.d'rounds ["_law_times"] []
 m'rounds:mg "_law_rounds"=some (.ref Z.f'rounds)
 F_law:Fun K "law" "law" Gc Z.f_law Z.d_law
 b_law:Zk K Z.d_law ["_law_script"] []
 Gz:mg "law"=some (.ref Z.f_law)
 F___init__:Fun K "__init__" "Layout.__init__" yR Z.f___init__ Z.d___init__
 b___init__:Zk K Z.d___init__ ["self","bodies"] []
 mkC:Mk K Z.C Z.f___init__
 F_new_place:Fun K "new_place" "Layout.new_place" yz Z.f_new_place Z.d_new_place
 b_new_place:Zk K Z.d_new_place ["self"] []
 mt_new_place:Meth K Z.C "new_place" Z.f_new_place
 F_add_step:Fun K "add_step" "Layout.add_step" yQ Z.f_add_step Z.d_add_step
 b_add_step:Zk K Z.d_add_step ["self","start","to","deed"] []
 mt_add_step:Meth K Z.C "add_step" Z.f_add_step
 z_bool:mg "bool"=none
 z_int:mg "int"=none
 z_isinstance:mg "isinstance"=none
 z_len:mg "len"=none
 z_list:mg "list"=none
 z_range:mg "range"=none
 z_sum:mg "sum"=none
 z_tuple:mg "tuple"=none
 z_zip:mg "zip"=none
 c_SKIP:mg "SKIP"=some (.ref Z.a_SKIP)
 l_SKIP:K.lookup Z.a_SKIP=some ⟨.type "tuple",Z.o_SKIP,.seq #[.str "skip" Z.t_SKIP] Z.n_SKIP,Z.l_SKIP⟩
 lc:LCls K Z.C
 m_Layout:mg "Layout"=some (.ref Z.C)
theorem sc_worth:FnScope ["one","other"] ["one","other"] (zk jT):=⟨rfl,rfl,rfl,by decide +kernel,rfl,by decide +kernel,by decide +kernel⟩
theorem sc_lists_in:FnScope ["row"] ["row"] (zk yM):=⟨rfl,rfl,rfl,by decide +kernel,rfl,by decide +kernel,by decide +kernel⟩
theorem sc_new_places:FnScope ["rows","called"] ["rows","called"] (zk yj):=⟨rfl,rfl,rfl,by decide +kernel,rfl,by decide +kernel,by decide +kernel⟩
theorem Jt:FnScope ["row","called"] ["row","called"] (zk Zu):=⟨rfl,rfl,rfl,by decide +kernel,rfl,by decide +kernel,by decide +kernel⟩
theorem sc_laid:FnScope ["program","layout","end"] ["program"] (zk wg):=⟨rfl,rfl,rfl,by decide +kernel,rfl,by decide +kernel,by decide +kernel⟩
theorem yG:FnScope ["bodies","places","number"] ["bodies"] (zk Zy):=⟨rfl,rfl,rfl,by decide +kernel,rfl,by decide +kernel,by decide +kernel⟩
theorem ji:FnScope ["layout","rows","place","at","row"] ["layout","rows","place"] (zk yN):=⟨rfl,rfl,rfl,by decide +kernel,rfl,by decide +kernel,by decide +kernel⟩
theorem wd:FnScope ["layout","row","place","kind","new"] ["layout","row","place"] (zk Ym):=⟨rfl,rfl,rfl,by decide +kernel,rfl,by decide +kernel,by decide +kernel⟩
theorem Yv:FnScope ["layout","row","place","one","other","new"] ["layout","row","place"] (zk yk):=⟨rfl,rfl,rfl,by decide +kernel,rfl,by decide +kernel,by decide +kernel⟩
theorem WO:FnScope ["layout","row","place","new"] ["layout","row","place"] (zk yO):=⟨rfl,rfl,rfl,by decide +kernel,rfl,by decide +kernel,by decide +kernel⟩
theorem sc_lay_call:FnScope ["layout","row","place"] ["layout","row","place"] (zk yP):=⟨rfl,rfl,rfl,by decide +kernel,rfl,by decide +kernel,by decide +kernel⟩
theorem sc_is_run:FnScope ["program","moves"] ["program","moves"] (zk YY):=⟨rfl,rfl,rfl,by decide +kernel,rfl,by decide +kernel,by decide +kernel⟩
theorem gX:FnScope ["program","moves","steps","places","stands","move"] ["program","moves"] (zk Gb):=⟨rfl,rfl,rfl,by decide +kernel,rfl,by decide +kernel,by decide +kernel⟩
theorem Ga:FnScope ["program"] ["program"] (zk ye):=⟨rfl,rfl,rfl,by decide +kernel,rfl,by decide +kernel,by decide +kernel⟩
theorem sc_takes:FnScope ["deed"] ["deed"] (zk jU):=⟨rfl,rfl,rfl,by decide +kernel,rfl,by decide +kernel,by decide +kernel⟩
theorem YG:FnScope ["deed","number","stand","place","new"] ["deed","number","stand"] (zk Z1):=⟨rfl,rfl,rfl,by decide +kernel,rfl,by decide +kernel,by decide +kernel⟩
theorem YH:FnScope ["steps","moves","places","move"] ["steps","moves"] (zk Z2):=⟨rfl,rfl,rfl,by decide +kernel,rfl,by decide +kernel,by decide +kernel⟩
theorem gZ:FnScope ["steps","move","place","step"] ["steps","move","place"] (zk Yn):=⟨rfl,rfl,rfl,by decide +kernel,rfl,by decide +kernel,by decide +kernel⟩
theorem gm:FnScope ["_law_script","_law_k","_law_number"] ["_law_script","_law_k"] (zk wn):=⟨rfl,rfl,rfl,by decide +kernel,rfl,by decide +kernel,by decide +kernel⟩
theorem jS:FnScope ["_law_cell_here","_law_many","_law_line_here","_law_k","_law_number","_law_one"] ["_law_cell_here","_law_many"] (zk wj):=⟨rfl,rfl,rfl,by decide +kernel,rfl,by decide +kernel,by decide +kernel⟩
theorem sc'deed:FnScope ["_law_cell_here","_law_many","_law_later_on","_law_kind","_law_box"] ["_law_cell_here","_law_many","_law_later_on"] (zk wm):=⟨rfl,rfl,rfl,by decide +kernel,rfl,by decide +kernel,by decide +kernel⟩
theorem YQ:FnScope ["_law_cells","_law_many","_law_later_on","_law_deep","_law_most","_law_body_here","_law_stack","_law_used","_law_cell_here","_law_row","_law_cost"] ["_law_cells","_law_many","_law_later_on","_law_deep","_law_most"] (zk wo):=⟨rfl,rfl,rfl,by decide +kernel,rfl,by decide +kernel,by decide +kernel⟩
theorem Zs:FnScope ["_law_script","_law_at","_law_many","_law_most","_law_bodies","_law_later_on","_law_count","_law_k","_law_size","_law_deep","_law_begin","_law_cells","_law_body_here","_law_used"] ["_law_script","_law_at","_law_many","_law_most"] (zk Yo):=⟨rfl,rfl,rfl,by decide +kernel,rfl,by decide +kernel,by decide +kernel⟩
theorem wf:FnScope ["_law_rows","_law_place","_law_bodies","_law_made","_law_row","_law_led","_law_begin"] ["_law_rows","_law_place","_law_bodies","_law_made"] (zk Ge):=⟨rfl,rfl,rfl,by decide +kernel,rfl,by decide +kernel,by decide +kernel⟩
theorem sc'behind:FnScope ["_law_stand","_law_deed_here","_law_number"] ["_law_stand","_law_deed_here","_law_number"] (zk Y1):=⟨rfl,rfl,rfl,by decide +kernel,rfl,by decide +kernel,by decide +kernel⟩
theorem jt:FnScope ["_law_script","_law_at","_law_steps","_law_most","_law_moves","_law_place","_law_k","_law_cell_here","_law_some","_law_step","_law_number"] ["_law_script","_law_at","_law_steps","_law_most"] (zk Gd):=⟨rfl,rfl,rfl,by decide +kernel,rfl,by decide +kernel,by decide +kernel⟩
theorem yU:FnScope ["_law_many","_law_steps","_law_moves","_law_place","_law_stand","_law_rows","_law_step","_law_number"] ["_law_many","_law_steps","_law_moves"] (zk YZ):=⟨rfl,rfl,rfl,by decide +kernel,rfl,by decide +kernel,by decide +kernel⟩
theorem sc'good:FnScope ["_law_found","_law_due","_law_row","_law_number"] ["_law_found","_law_due"] (zk wk):=⟨rfl,rfl,rfl,by decide +kernel,rfl,by decide +kernel,by decide +kernel⟩
theorem jE:FnScope ["_law_times","_law_program_here","_law_moves","_law_found","_law_k"] ["_law_times"] (zk Y0):=⟨rfl,rfl,rfl,by decide +kernel,rfl,by decide +kernel,by decide +kernel⟩
theorem Yl:FnScope ["_law_script","_law_many","_law_program_here","_law_made","_law_steps","_law_cell_here","_law_most","_law_moves","_law_due","_law_handed","_law_found","_law_at"] ["_law_script"] (zk Gc):=⟨rfl,rfl,rfl,by decide +kernel,rfl,by decide +kernel,by decide +kernel⟩
theorem sc___init__:FnScope ["self","bodies"] ["self","bodies"] (zk yR):=⟨rfl,rfl,rfl,by decide +kernel,rfl,by decide +kernel,by decide +kernel⟩
theorem sc_new_place:FnScope ["self"] ["self"] (zk yz):=⟨rfl,rfl,rfl,by decide +kernel,rfl,by decide +kernel,by decide +kernel⟩
theorem sc_add_step:FnScope ["self","start","to","deed"] ["self","start","to","deed"] (zk yQ):=⟨rfl,rfl,rfl,by decide +kernel,rfl,by decide +kernel,by decide +kernel⟩
theorem nd_0:(["one","other","first","second"]:List Str).Nodup:=by decide +kernel
theorem nd_1:(["row","part"]:List Str).Nodup:=by decide +kernel
theorem nd_2:(["rows","called","row"]:List Str).Nodup:=by decide +kernel
theorem nd_3:(["row","called","rows"]:List Str).Nodup:=by decide +kernel
theorem nd_4:(["_law_cell_here","_law_many","_law_later_on","_law_kind","_law_box","_law_pair"]:List Str).Nodup:=by decide +kernel
theorem nd_5:(["_law_cells","_law_many","_law_later_on","_law_deep","_law_most","_law_body_here","_law_stack","_law_used","_law_cell_here","_law_row","_law_cost","_law_pair"]:List Str).Nodup:=by decide +kernel
theorem nd_6:(["_law_cells","_law_many","_law_later_on","_law_deep","_law_most","_law_body_here","_law_stack","_law_used","_law_cell_here","_law_row","_law_cost","_law_inner"]:List Str).Nodup:=by decide +kernel
theorem nd_7:(["_law_script","_law_at","_law_many","_law_most","_law_bodies","_law_later_on","_law_count","_law_k","_law_size","_law_deep","_law_begin","_law_cells","_law_body_here","_law_used","_law_j"]:List Str).Nodup:=by decide +kernel
theorem nd_8:(["_law_rows","_law_place","_law_bodies","_law_made","_law_row","_law_led","_law_begin","_law_some"]:List Str).Nodup:=by decide +kernel
theorem nd_9:(["_law_rows","_law_place","_law_bodies","_law_made","_law_row","_law_led","_law_begin","_law_one"]:List Str).Nodup:=by decide +kernel
theorem nd_10:(["_law_stand","_law_deed_here","_law_number","_law_k"]:List Str).Nodup:=by decide +kernel
theorem nd_11:(["_law_script","_law_at","_law_steps","_law_most","_law_moves","_law_place","_law_k","_law_cell_here","_law_some","_law_step","_law_number","_law_j"]:List Str).Nodup:=by decide +kernel
section
variable {P:Program} {w:World} {K:Frag} {mg:Str->Option Value} {base:Heap} {Z:Ads}
theorem ok_worth (T:Txt K mg Z) :FnOk P w K mg base CX0 36 Z.f_worth Z.d_worth ["one","other"] (spM K m_worth):=by
 have h:=yI (P:=P) (w:=w) (mg:=mg) (base:=base) (k:=35) (m:=b_worth) T.F_worth sc_worth fun cdv A outer s H E hr=>⟨_,[],by
  unfold b_worth
  exact (zy (Zl (gW (K':=K) (st:=false) rfl (by rfl) (by exact T.z_sum) (SF.seq (Yu (s:=false) (own:=["first","second"]) (N':=["one","other","first","second"]) (k:=2) (ZZ (by kernel_rfl)) rfl (si_zip (K':=K) (by rfl) (by exact T.z_zip) (SC.sn (SE.seq (k:=false) (za 0))) (SC.sn (SE.seq (k:=false) (za 1)))) (fun _ _ _ _=>(sg_tup (K':=K) rfl (jD (Zf (i:=2) nd_0 rfl (Or.inl rfl)) (jD (Zf (i:=3) nd_0 rfl (Or.inl rfl)) sgs_nil)))) (fun _ _ _ _=>Yt) (fun _ _ _ _=>(zB yb ya (za 2) (za 3))))))))⟩
 exact h
theorem ok_lists_in (T:Txt K mg Z) :FnOk P w K mg base CX0 36 Z.f_lists_in Z.d_lists_in ["row"] (spM K m_lists_in):=by
 have h:=yI (P:=P) (w:=w) (mg:=mg) (base:=base) (k:=35) (m:=b_lists_in) T.F_lists_in sc_lists_in fun cdv A outer s H E hr=>⟨_,[],by
  unfold b_lists_in
  exact (zy (Zl (SF.se (st:=false) (Yu (s:=false) (own:=["part"]) (N':=["row","part"]) (k:=1) (ZZ (by kernel_rfl)) rfl (si_tup (K':=K) (SC.sn (SE.seq (k:=false) (za 0)))) (fun _ _ _ _=>(Zf (i:=1) nd_1 rfl (Or.inl rfl))) (fun _ _ _ _=>(spf_one (ju (Wl (K':=K) (st:=false) (by rfl) (by exact T.z_isinstance) (by rfl) (by exact T.z_list) PyProof.Rows.boot_list (by decide) (za 1))))) (fun _ _ _ _=>(za 1))))))⟩
 exact h
theorem JA (T:Txt K mg Z) (G_lists_in:FnOk P w K mg base CX0 36 Z.f_lists_in Z.d_lists_in ["row"] (spM K m_lists_in)) (n:Nat):FnOk P w K mg base CX0 (38+2*n) Z.f_new_places Z.d_new_places ["rows","called"] (spM K ((zC n).1))/\FnOk P w K mg base CX0 (38+2*n) Z.f_new_places_of_row Z.d_new_places_of_row ["row","called"] (spM K ((zC n).2)):=by
 induction n with
 | zero=>exact ⟨FnOk.no,FnOk.no⟩
 | succ n ih =>
  obtain ⟨G_new_places,G_new_places_of_row⟩:=ih
  refine ⟨?_,?_⟩
  ·have h:=yI (P:=P) (w:=w) (mg:=mg) (base:=base) (k:=38+2*n+1) (m:=b_new_places ((zC n).1) ((zC n).2)) T.F_new_places sc_new_places fun cdv A outer s H E hr=>⟨_,[],by
   unfold b_new_places
   exact (zy (Zl (gW (K':=K) (st:=false) rfl (by rfl) (by exact T.z_sum) (SF.seq (Yu (s:=false) (own:=["row"]) (N':=["rows","called","row"]) (k:=1) (ZZ (by kernel_rfl)) rfl (Yb (K':=K) (SC.sn (SE.seq (k:=true) (za 0)))) (fun _ _ _ _=>(Zf (i:=2) nd_2 rfl (Or.inl rfl))) (fun _ _ _ _=>Yt) (fun _ _ _ _=>(zT (K':=K) G_new_places_of_row (hr.mono (by omega)) (by rfl) T.m_new_places_of_row T.F_new_places_of_row.kp T.b_new_places_of_row (zc (za 2) (zc (za 1) zr)))))))))⟩
   exact h
  ·have h:=yI (P:=P) (w:=w) (mg:=mg) (base:=base) (k:=38+2*n+1) (m:=b_new_places_of_row ((zC n).1) ((zC n).2)) T.F_new_places_of_row Jt fun cdv A outer s H E hr=>⟨_,[],by
   unfold b_new_places_of_row
   exact (zi (Z6 (os':=[]) (zR Z7 Zg (zJ (K':=K) (st:=false) (SE.seq (k:=false) (za 0)) zg) ZE (zI _))
   (zy (Zl (se_dget (st:=false) hr (za 1) (zJ (K':=K) (st:=false) (SE.seq (k:=false) (za 0)) zg))))
   Zd)
   (zy (Zl (zB Zz Zh zg (gW (K':=K) (st:=false) rfl (by rfl) (by exact T.z_sum) (SF.seq (Yu (s:=false) (own:=["rows"]) (N':=["row","called","rows"]) (k:=1) (ZZ (by kernel_rfl)) rfl (Yb (K':=K) (SC.sn (SE.seq (k:=true) (zT (K':=K) G_lists_in (hr.mono (by omega)) (by rfl) T.m_lists_in T.F_lists_in.kp T.b_lists_in (zc (za 0) zr))))) (fun _ _ _ _=>(Zf (i:=2) nd_3 rfl (Or.inl rfl))) (fun _ _ _ _=>Yt) (fun _ _ _ _=>(zT (K':=K) G_new_places (hr.mono (by omega)) (by rfl) T.m_new_places T.F_new_places.kp T.b_new_places (zc (za 2) (zc (za 1) zr)))))))))))⟩
   exact h
theorem ok_new_places (T:Txt K mg Z) (G_lists_in:FnOk P w K mg base CX0 36 Z.f_lists_in Z.d_lists_in ["row"] (spM K m_lists_in)):FnOk P w K mg base CX0 158 Z.f_new_places Z.d_new_places ["rows","called"] (spM K m_new_places):=(JA (P:=P) (w:=w) (base:=base) T G_lists_in 60).1
theorem Jz (T:Txt K mg Z) (G_lists_in:FnOk P w K mg base CX0 36 Z.f_lists_in Z.d_lists_in ["row"] (spM K m_lists_in)):FnOk P w K mg base CX0 158 Z.f_new_places_of_row Z.d_new_places_of_row ["row","called"] (spM K m_new_places_of_row):=(JA (P:=P) (w:=w) (base:=base) T G_lists_in 60).2
theorem JW (T:Txt K mg Z) (G_new_places:FnOk P w K mg base CX0 158 Z.f_new_places Z.d_new_places ["rows","called"] (spM K m_new_places)):FnOk P w K mg base CX0 160 Z.f_places_of_bodies Z.d_places_of_bodies ["bodies"] (spM K m_places_of_bodies):=by
 have h:=yI (P:=P) (w:=w) (mg:=mg) (base:=base) (k:=159) (m:=b_places_of_bodies) T.F_places_of_bodies yG fun cdv A outer s H E hr=>⟨_,[1],by
  unfold b_places_of_bodies
  exact (zi (Jr (os:=[]) (os':=[1]) (i:=1) yG.nd rfl (Or.inl rfl) sf_dnew)
   (zi (jr (os:=[1]) rfl (si_rangeD (by rfl) (by exact T.z_range) (zB ww jV (yL (K':=K) (st:=false) (by rfl) (by exact T.z_len) (SE.seq (k:=true) (za 0))) zg) (gU YU jQ zg)) (Zf (i:=2) yG.nd rfl (Or.inl rfl))
   (zy (ss_dput (os:=[1]) 1 hr (za 2) (SE.flat (zT (K':=K) G_new_places (hr.mono (by decide)) (by rfl) T.m_new_places T.F_new_places.kp T.b_new_places (zc (ZW (K':=K) (st:=false) (SE.seq (k:=true) (za 0)) (za 2)) (zc (jh 1) zr)))))))
   (zy (Zl (jh 1)))))⟩
 exact h
theorem ok___init__ (T:Txt K mg Z) (G_places_of_bodies:FnOk P w K mg base CX0 160 Z.f_places_of_bodies Z.d_places_of_bodies ["bodies"] (spM K m_places_of_bodies)):FnOk P w K mg base CX0 162 Z.f___init__ Z.d___init__ ["self","bodies"] (gP K Z.C m_places_of_bodies):=by
 refine T.F___init__.ok sc___init__ (fun vs H Q E h=>?_) (fun cdv A outer s H vs Q E hr h=>?_)
 ·obtain ⟨_,_,_,_,_,_,rfl,_⟩:=h
  rfl
 ·exact ⟨_,ZO (ps_fld (pv 0) (pv 1) rfl) (ZO (ps_fld (pv 0) (gu G_places_of_bodies (hr.mono (by decide)) (by rfl) T.m_places_of_bodies T.F_places_of_bodies.kp T.b_places_of_bodies .nil Gp (zP (pv 1) Zn)) rfl) (ZO (ps_fld (pv 0) Yd rfl) (Yc (ps_fld (pv 0) (jZ Zn) rfl)))),init_read T.lc h⟩
theorem ok_new_place (T:Txt K mg Z) :FnOk P w K mg base CX0 36 Z.f_new_place Z.d_new_place ["self"] (spW K (kO Z.C) 0 ZP):=by
 have h:=JG (κ:=kO Z.C) (i0:=0) (P:=P) (w:=w) (mg:=mg) (base:=base) (k:=35) (M:=b_new_place) T.F_new_place sc_new_place (by decide) fun cdv A outer s H E hr=>⟨_,[],by
  unfold b_new_place
  exact (Zb (wl_inc T.lc)
   (ZL (yY (we_op (st:=false) ww jV (wl_fld (st:=true) (we_cnt T.lc)) (SE.we zg)))))⟩
 exact h
theorem ok_add_step (T:Txt K mg Z) :FnOk P w K mg base CX0 36 Z.f_add_step Z.d_add_step ["self","start","to","deed"] (spW K (kO Z.C) 0 ZM):=by
 have h:=JG (κ:=kO Z.C) (i0:=0) (P:=P) (w:=w) (mg:=mg) (base:=base) (k:=35) (M:=b_add_step) T.F_add_step sc_add_step (by decide) fun cdv A outer s H E hr=>⟨_,[],by
  unfold b_add_step
  exact (ZL (wl_step T.lc (zY (zc (za 1) (zc (za 2) (zc (za 3) zr))))))⟩
 exact h
theorem Ye (T:Txt K mg Z) (G_new_place:FnOk P w K mg base CX0 36 Z.f_new_place Z.d_new_place ["self"] (spW K (kO Z.C) 0 ZP)) (G_add_step:FnOk P w K mg base CX0 36 Z.f_add_step Z.d_add_step ["self","start","to","deed"] (spW K (kO Z.C) 0 ZM)) (n:Nat):FnOk P w K mg base CX0 (38+2*n) Z.f_lay_rows Z.d_lay_rows ["layout","rows","place"] (spW K (kO Z.C) 0 ((zh n).1))/\FnOk P w K mg base CX0 (38+2*n) Z.f_lay_row Z.d_lay_row ["layout","row","place"] (spW K (kO Z.C) 0 ((zh n).2.1))/\FnOk P w K mg base CX0 (38+2*n) Z.f_lay_either Z.d_lay_either ["layout","row","place"] (spW K (kO Z.C) 0 ((zh n).2.2.1))/\FnOk P w K mg base CX0 (38+2*n) Z.f_lay_loop Z.d_lay_loop ["layout","row","place"] (spW K (kO Z.C) 0 ((zh n).2.2.2.1))/\FnOk P w K mg base CX0 (38+2*n) Z.f_lay_call Z.d_lay_call ["layout","row","place"] (spW K (kO Z.C) 0 ((zh n).2.2.2.2)):=by
 induction n with
 | zero=>exact ⟨FnOk.noW,FnOk.noW,FnOk.noW,FnOk.noW,FnOk.noW⟩
 | succ n ih =>
  obtain ⟨G_lay_rows,G_lay_row,G_lay_either,G_lay_loop,G_lay_call⟩:=ih
  refine ⟨?_,?_,?_,?_,?_⟩
  ·have h:=JG (κ:=kO Z.C) (i0:=0) (P:=P) (w:=w) (mg:=mg) (base:=base) (k:=38+2*n+1) (M:=b_lay_rows ((zh n).1) ((zh n).2.1) ((zh n).2.2.1) ((zh n).2.2.2.1) ((zh n).2.2.2.2)) T.F_lay_rows ji (by decide) fun cdv A outer s H E hr=>⟨_,[],by
   unfold b_lay_rows
   exact (Zb (yA (j:=3) ji.nd rfl (Or.inl rfl) (SE.we (za 2)))
   (Zb (wst_for rfl (Yb (K':=K) (SE.sn (k:=true) (za 1))) (Zf (i:=4) ji.nd rfl (Or.inl rfl)) kg_name
   (ZL (yA (j:=3) ji.nd rfl (Or.inl rfl) (yB (K':=K) (st:=true) G_lay_row (hr.mono (by omega)) (by rfl) T.m_lay_row T.F_lay_row.kp T.b_lay_row Wx (zA (SE.we (za 0)) (zA (SE.we (za 4)) (zA (SE.we (za 3)) yi)))))))
   (ZL (yY (SE.we (za 3))))))⟩
   exact h
  ·have h:=JG (κ:=kO Z.C) (i0:=0) (P:=P) (w:=w) (mg:=mg) (base:=base) (k:=38+2*n+1) (M:=b_lay_row ((zh n).1) ((zh n).2.1) ((zh n).2.2.1) ((zh n).2.2.2.1) ((zh n).2.2.2.2)) T.F_lay_row wd (by decide) fun cdv A outer s H E hr=>⟨_,[],by
   unfold b_lay_row
   exact (Zb (yA (j:=3) wd.nd rfl (Or.inl rfl) (SE.we (zJ (K':=K) (st:=true) (SE.seq (k:=false) (za 1)) zg)))
   (Zb (jP (SB.wb (zR Z7 Zg (za 3) ZE (zI _)))
   (ZL (yY (yB (K':=K) (st:=false) G_lay_either (hr.mono (by omega)) (by rfl) T.m_lay_either T.F_lay_either.kp T.b_lay_either Wx (zA (SE.we (za 0)) (zA (SE.we (za 1)) (zA (SE.we (za 2)) yi))))))
   JO)
   (Zb (jP (SB.wb (zR Z7 Zg (za 3) ZE (zI _)))
   (ZL (yY (yB (K':=K) (st:=false) G_lay_loop (hr.mono (by omega)) (by rfl) T.m_lay_loop T.F_lay_loop.kp T.b_lay_loop Wx (zA (SE.we (za 0)) (zA (SE.we (za 1)) (zA (SE.we (za 2)) yi))))))
   JO)
   (Zb (jP (SB.wb (zR Z7 Zg (za 3) ZE (zI _)))
   (ZL (yY (yB (K':=K) (st:=false) G_lay_call (hr.mono (by omega)) (by rfl) T.m_lay_call T.F_lay_call.kp T.b_lay_call Wx (zA (SE.we (za 0)) (zA (SE.we (za 1)) (zA (SE.we (za 2)) yi))))))
   JO)
   (Zb (yA (j:=4) wd.nd rfl (Or.inl rfl) (gE (K':=K) (st:=true) T.lc T.mt_new_place G_new_place (hr.mono (by omega)) T.b_new_place (fun _ _ _ _=>rfl)))
   (Zb (jP (SB.wb (zR Gr jW (za 3) ZE (zI _)))
   (ZL (jw (wG (K':=K) (st:=false) T.lc T.mt_add_step G_add_step (hr.mono (by omega)) T.b_add_step (zA (SE.we (za 2)) (zA (SE.we (za 4)) (zA (SE.we (za 1)) yi))) (fun _ _ _ _=>rfl))))
   JO)
   (ZL (yY (SE.we (za 4))))))))))⟩
   exact h
  ·have h:=JG (κ:=kO Z.C) (i0:=0) (P:=P) (w:=w) (mg:=mg) (base:=base) (k:=38+2*n+1) (M:=b_lay_either ((zh n).1) ((zh n).2.1) ((zh n).2.2.1) ((zh n).2.2.2.1) ((zh n).2.2.2.2)) T.F_lay_either Yv (by decide) fun cdv A outer s H E hr=>⟨_,[],by
   unfold b_lay_either
   exact (Zb (yA (j:=3) Yv.nd rfl (Or.inl rfl) (yB (K':=K) (st:=true) G_lay_rows (hr.mono (by omega)) (by rfl) T.m_lay_rows T.F_lay_rows.kp T.b_lay_rows Wx (zA (SE.we (za 0)) (zA (SE.we (zJ (K':=K) (st:=true) (SE.seq (k:=false) (za 1)) zg)) (zA (SE.we (za 2)) yi)))))
   (Zb (yA (j:=4) Yv.nd rfl (Or.inl rfl) (yB (K':=K) (st:=true) G_lay_rows (hr.mono (by omega)) (by rfl) T.m_lay_rows T.F_lay_rows.kp T.b_lay_rows Wx (zA (SE.we (za 0)) (zA (SE.we (zJ (K':=K) (st:=true) (SE.seq (k:=false) (za 1)) zg)) (zA (SE.we (za 2)) yi)))))
   (Zb (yA (j:=5) Yv.nd rfl (Or.inl rfl) (gE (K':=K) (st:=true) T.lc T.mt_new_place G_new_place (hr.mono (by omega)) T.b_new_place (fun _ _ _ _=>rfl)))
   (Zb (jw (wG (K':=K) (st:=false) T.lc T.mt_add_step G_add_step (hr.mono (by omega)) T.b_add_step (zA (SE.we (za 3)) (zA (SE.we (za 5)) (zA (SE.we (wK (st:=true) (by rfl) T.c_SKIP T.l_SKIP)) yi))) (fun _ _ _ _=>rfl)))
   (Zb (jw (wG (K':=K) (st:=false) T.lc T.mt_add_step G_add_step (hr.mono (by omega)) T.b_add_step (zA (SE.we (za 4)) (zA (SE.we (za 5)) (zA (SE.we (wK (st:=true) (by rfl) T.c_SKIP T.l_SKIP)) yi))) (fun _ _ _ _=>rfl)))
   (ZL (yY (SE.we (za 5)))))))))⟩
   exact h
  ·have h:=JG (κ:=kO Z.C) (i0:=0) (P:=P) (w:=w) (mg:=mg) (base:=base) (k:=38+2*n+1) (M:=b_lay_loop ((zh n).1) ((zh n).2.1) ((zh n).2.2.1) ((zh n).2.2.2.1) ((zh n).2.2.2.2)) T.F_lay_loop WO (by decide) fun cdv A outer s H E hr=>⟨_,[],by
   unfold b_lay_loop
   exact (Zb (yA (j:=3) WO.nd rfl (Or.inl rfl) (gE (K':=K) (st:=true) T.lc T.mt_new_place G_new_place (hr.mono (by omega)) T.b_new_place (fun _ _ _ _=>rfl)))
   (Zb (jw (wG (K':=K) (st:=false) T.lc T.mt_add_step G_add_step (hr.mono (by omega)) T.b_add_step (zA (SE.we (za 2)) (zA (SE.we (za 3)) (zA (SE.we (wK (st:=true) (by rfl) T.c_SKIP T.l_SKIP)) yi))) (fun _ _ _ _=>rfl)))
   (Zb (jw (wG (K':=K) (st:=false) T.lc T.mt_add_step G_add_step (hr.mono (by omega)) T.b_add_step (zA (yB (K':=K) (st:=true) G_lay_rows (hr.mono (by omega)) (by rfl) T.m_lay_rows T.F_lay_rows.kp T.b_lay_rows Wx (zA (SE.we (za 0)) (zA (SE.we (zJ (K':=K) (st:=true) (SE.seq (k:=false) (za 1)) zg)) (zA (SE.we (za 3)) yi)))) (zA (SE.we (za 3)) (zA (SE.we (wK (st:=true) (by rfl) T.c_SKIP T.l_SKIP)) yi))) (fun _ _ _ _=>rfl)))
   (ZL (yY (SE.we (za 3)))))))⟩
   exact h
  ·have h:=JG (κ:=kO Z.C) (i0:=0) (P:=P) (w:=w) (mg:=mg) (base:=base) (k:=38+2*n+1) (M:=b_lay_call ((zh n).1) ((zh n).2.1) ((zh n).2.2.1) ((zh n).2.2.2.1) ((zh n).2.2.2.2)) T.F_lay_call sc_lay_call (by decide) fun cdv A outer s H E hr=>⟨_,[],by
   unfold b_lay_call
   exact (Zb (jP (wb_cmp Z7 Zg (wl_dget (st:=true) hr (wl_fld (st:=true) (we_lay T.lc)) (zJ (K':=K) (st:=true) (SE.seq (k:=false) (za 1)) zg)) (SE.we zg) (zI _))
   (ZL (yY (SE.we (za 2))))
   JO)
   (ZL (yY (yB (K':=K) (st:=false) G_lay_rows (hr.mono (by omega)) (by rfl) T.m_lay_rows T.F_lay_rows.kp T.b_lay_rows Wx (zA (SE.we (za 0)) (zA (wl_ix (K':=K) (st:=true) (wl_fld (st:=true) (we_bod T.lc)) (zJ (K':=K) (st:=true) (SE.seq (k:=false) (za 1)) zg)) (zA (SE.we (za 2)) yi)))))))⟩
   exact h
theorem ok_lay_rows (T:Txt K mg Z) (G_new_place:FnOk P w K mg base CX0 36 Z.f_new_place Z.d_new_place ["self"] (spW K (kO Z.C) 0 ZP)) (G_add_step:FnOk P w K mg base CX0 36 Z.f_add_step Z.d_add_step ["self","start","to","deed"] (spW K (kO Z.C) 0 ZM)):FnOk P w K mg base CX0 158 Z.f_lay_rows Z.d_lay_rows ["layout","rows","place"] (spW K (kO Z.C) 0 m_lay_rows):=(Ye (P:=P) (w:=w) (base:=base) T G_new_place G_add_step 60).1
theorem ok_lay_row (T:Txt K mg Z) (G_new_place:FnOk P w K mg base CX0 36 Z.f_new_place Z.d_new_place ["self"] (spW K (kO Z.C) 0 ZP)) (G_add_step:FnOk P w K mg base CX0 36 Z.f_add_step Z.d_add_step ["self","start","to","deed"] (spW K (kO Z.C) 0 ZM)):FnOk P w K mg base CX0 158 Z.f_lay_row Z.d_lay_row ["layout","row","place"] (spW K (kO Z.C) 0 m_lay_row):=(Ye (P:=P) (w:=w) (base:=base) T G_new_place G_add_step 60).2.1
theorem ok_lay_either (T:Txt K mg Z) (G_new_place:FnOk P w K mg base CX0 36 Z.f_new_place Z.d_new_place ["self"] (spW K (kO Z.C) 0 ZP)) (G_add_step:FnOk P w K mg base CX0 36 Z.f_add_step Z.d_add_step ["self","start","to","deed"] (spW K (kO Z.C) 0 ZM)):FnOk P w K mg base CX0 158 Z.f_lay_either Z.d_lay_either ["layout","row","place"] (spW K (kO Z.C) 0 m_lay_either):=(Ye (P:=P) (w:=w) (base:=base) T G_new_place G_add_step 60).2.2.1
theorem ok_lay_loop (T:Txt K mg Z) (G_new_place:FnOk P w K mg base CX0 36 Z.f_new_place Z.d_new_place ["self"] (spW K (kO Z.C) 0 ZP)) (G_add_step:FnOk P w K mg base CX0 36 Z.f_add_step Z.d_add_step ["self","start","to","deed"] (spW K (kO Z.C) 0 ZM)):FnOk P w K mg base CX0 158 Z.f_lay_loop Z.d_lay_loop ["layout","row","place"] (spW K (kO Z.C) 0 m_lay_loop):=(Ye (P:=P) (w:=w) (base:=base) T G_new_place G_add_step 60).2.2.2.1
theorem ok_lay_call (T:Txt K mg Z) (G_new_place:FnOk P w K mg base CX0 36 Z.f_new_place Z.d_new_place ["self"] (spW K (kO Z.C) 0 ZP)) (G_add_step:FnOk P w K mg base CX0 36 Z.f_add_step Z.d_add_step ["self","start","to","deed"] (spW K (kO Z.C) 0 ZM)):FnOk P w K mg base CX0 158 Z.f_lay_call Z.d_lay_call ["layout","row","place"] (spW K (kO Z.C) 0 m_lay_call):=(Ye (P:=P) (w:=w) (base:=base) T G_new_place G_add_step 60).2.2.2.2
theorem ok_laid (T:Txt K mg Z) (G___init__:FnOk P w K mg base CX0 162 Z.f___init__ Z.d___init__ ["self","bodies"] (gP K Z.C m_places_of_bodies)) (G_lay_rows:FnOk P w K mg base CX0 158 Z.f_lay_rows Z.d_lay_rows ["layout","rows","place"] (spW K (kO Z.C) 0 m_lay_rows)):FnOk P w K mg base CX0 164 Z.f_laid Z.d_laid ["program"] (spL K m_laid):=by
 have h:=fnLaid_ok (P:=P) (w:=w) (mg:=mg) (base:=base) (k:=163) (C:=Z.C) (mp:=m_places_of_bodies) (fe:=(fIx (zm false (zb 0)) (fC (.int 1)))) (M2:=(jy 2 (Ya 0 m_lay_rows (zK (wL (zb 1)) (zK (wL (fIx (zm true (fIx (zm false (zb 0)) (fC (.int 1)))) (fC (.int 0)))) (zK (wL (fC (.int 0))) (wL zu))))))) T.lc T.F_laid sc_laid rfl rfl fun cdv A outer s H E hr=>(ld_mk (zJ (K':=K) (st:=true) (SE.seq (k:=false) (za 0)) zg) (yA (j:=2) sc_laid.nd rfl (Or.inl rfl) (yB (K':=K) (st:=true) G_lay_rows (hr.mono (by decide)) (by rfl) T.m_lay_rows T.F_lay_rows.kp T.b_lay_rows Wx (zA (SE.we (za 1)) (zA (SE.we (ZW (K':=K) (st:=true) (SE.seq (k:=true) (zJ (K':=K) (st:=true) (SE.seq (k:=false) (za 0)) zg)) zg)) (zA (SE.we zg) yi))))) (fun hE=>YI (i:=1) sc_laid.nd rfl (Or.inl rfl) (pe_make T.mkC G___init__ (hr.mono (by decide)) (by rfl) T.m_Layout T.b___init__ .nil Gp (zP hE Zn))) (Jx (wv (zP (pe_fld (pv 1) rfl) (zP (pe_fld (pv 1) rfl) (zP (pv 2) Zn))))))
 exact h
theorem ok_takes (T:Txt K mg Z) :FnOk P w K mg base CX0 36 Z.f_takes Z.d_takes ["deed"] (spM K m_takes):=by
 have h:=yI (P:=P) (w:=w) (mg:=mg) (base:=base) (k:=35) (m:=b_takes) T.F_takes sc_takes fun cdv A outer s H E hr=>⟨_,[],by
  unfold b_takes
  exact (zy (Zl (jR Z7 Zg (zJ (K':=K) (st:=false) (SE.seq (k:=false) (za 0)) zg) ZE (zI _))))⟩
 exact h
theorem ok_goes_on (T:Txt K mg Z) (G_takes:FnOk P w K mg base CX0 36 Z.f_takes Z.d_takes ["deed"] (spM K m_takes)):FnOk P w K mg base CX0 38 Z.f_goes_on Z.d_goes_on ["steps","move","place"] (spM K m_goes_on):=by
 have h:=yI (P:=P) (w:=w) (mg:=mg) (base:=base) (k:=37) (m:=b_goes_on) T.F_goes_on gZ fun cdv A outer s H E hr=>⟨_,[],by
  unfold b_goes_on
  exact (zi (Z6 (os':=[]) (Ju (sb_chain op_le rok_le op_lt rok_lt zg (zJ (K':=K) (st:=false) (SE.seq (k:=false) (za 1)) zg) (yL (K':=K) (st:=false) (by rfl) (by exact T.z_len) (SE.seq (k:=true) (za 0)))))
   (zy (Zl Jd))
   Zd)
   (zi (zQ (os:=[]) (os':=[]) (i:=3) gZ.nd rfl (Or.inl rfl) (ZW (K':=K) (st:=true) (SE.seq (k:=true) (za 0)) (zJ (K':=K) (st:=true) (SE.seq (k:=false) (za 1)) zg)))
   (zy (Zl (se_and (jR Z7 Zg (zJ (K':=K) (st:=false) (SE.seq (k:=false) (za 3)) zg) (za 2) (zI _)) (se_one (jR Z7 Zg (zT (K':=K) G_takes (hr.mono (by decide)) (by rfl) T.m_takes T.F_takes.kp T.b_takes (zc (zJ (K':=K) (st:=false) (SE.seq (k:=false) (za 3)) zg) zr)) (jR op_notN rok_notN (zJ (K':=K) (st:=false) (SE.seq (k:=false) (za 1)) zg) Js (zI _)) (zI _))))))))⟩
 exact h
theorem W7 (T:Txt K mg Z) (G_goes_on:FnOk P w K mg base CX0 38 Z.f_goes_on Z.d_goes_on ["steps","move","place"] (spM K m_goes_on)):FnOk P w K mg base CX0 40 Z.f_places_along Z.d_places_along ["steps","moves"] (spM K m_places_along):=by
 have h:=yI (P:=P) (w:=w) (mg:=mg) (base:=base) (k:=39) (m:=b_places_along) T.F_places_along YH fun cdv A outer s H E hr=>⟨_,[2],by
  unfold b_places_along
  exact (zi (Jr (os:=[]) (os':=[2]) (i:=2) YH.nd rfl (Or.inl rfl) (ZV (zc zg zr)))
   (zi (jr (os:=[2]) rfl (Yb (K':=K) (SE.sn (k:=true) (za 1))) (Zf (i:=3) YH.nd rfl (Or.inl rfl))
   (zi (Z6 (os':=[2]) (Ju (ju (zT (K':=K) G_goes_on (hr.mono (by decide)) (by rfl) T.m_goes_on T.F_goes_on.kp T.b_goes_on (zc (za 0) (zc (za 3) (zc (ZW (K':=K) (st:=false) (gY 2) (gU YU jQ zg)) zr))))))
   (zy (Zl Js))
   Zd)
   (zy (YS (os:=[2]) (i:=2) (zJ (K':=K) (st:=true) (SE.seq (k:=false) (ZW (K':=K) (st:=true) (SE.seq (k:=true) (za 0)) (zJ (K':=K) (st:=true) (SE.seq (k:=false) (za 3)) zg))) zg)))))
   (zy (Zl (jh 2)))))⟩
 exact h
theorem ok_is_run (T:Txt K mg Z) (G_places_along:FnOk P w K mg base CX0 40 Z.f_places_along Z.d_places_along ["steps","moves"] (spM K m_places_along)) (G_laid:FnOk P w K mg base CX0 164 Z.f_laid Z.d_laid ["program"] (spL K m_laid)):FnOk P w K mg base CX0 166 Z.f_is_run Z.d_is_run ["program","moves"] (spM K m_is_run):=by
 have h:=yI (P:=P) (w:=w) (mg:=mg) (base:=base) (k:=165) (m:=b_is_run) T.F_is_run sc_is_run fun cdv A outer s H E hr=>⟨_,[],by
  unfold b_is_run
  exact (zy (Zl (jR op_notN rok_notN (zT (K':=K) G_places_along (hr.mono (by decide)) (by rfl) T.m_places_along T.F_places_along.kp T.b_places_along (zc (zJ (K':=K) (st:=false) (SE.seq (k:=false) (zT (K':=K) (FnOk.told G_laid) (hr.mono (by decide)) (by rfl) T.m_laid T.F_laid.kp T.b_laid (zc (za 0) zr))) zg) (zc (za 1) zr))) Js (zI _))))⟩
 exact h
theorem Gs (T:Txt K mg Z) :FnOk P w K mg base CX0 36 Z.f_first_stand Z.d_first_stand ["program"] (spM K m_first_stand):=by
 have h:=yI (P:=P) (w:=w) (mg:=mg) (base:=base) (k:=35) (m:=b_first_stand) T.F_first_stand Ga fun cdv A outer s H E hr=>⟨_,[],by
  unfold b_first_stand
  exact (zy (Zl (wO (K':=K) (st:=false) (zY (zc zg zr)) (se_repZ (K':=K) (st:=true) (zY (zc zg zr)) (zJ (K':=K) (st:=true) (SE.seq (k:=false) (za 0)) zg)))))⟩
 exact h
theorem W6 (T:Txt K mg Z) (G_takes:FnOk P w K mg base CX0 36 Z.f_takes Z.d_takes ["deed"] (spM K m_takes)) (G_worth:FnOk P w K mg base CX0 36 Z.f_worth Z.d_worth ["one","other"] (spM K m_worth)):FnOk P w K mg base CX0 38 Z.f_stand_behind Z.d_stand_behind ["deed","number","stand"] (spM K m_stand_behind):=by
 have h:=yI (P:=P) (w:=w) (mg:=mg) (base:=base) (k:=37) (m:=b_stand_behind) T.F_stand_behind YG fun cdv A outer s H E hr=>⟨_,[],by
  unfold b_stand_behind
  exact (zi (Z6 (os':=[]) (zR Z7 Zg (zJ (K':=K) (st:=false) (SE.seq (k:=false) (za 0)) zg) ZE (zI _))
   (zy (Zl (za 2)))
   Zd)
   (zi (zQ (os:=[]) (os':=[]) (i:=3) YG.nd rfl (Or.inl rfl) (zB Zz Zh (zJ (K':=K) (st:=true) (SE.seq (k:=false) (za 0)) zg) zg))
   (zi (zQ (os:=[]) (os':=[]) (i:=4) YG.nd rfl (Or.inl rfl) (se_if (ju (zT (K':=K) G_takes (hr.mono (by decide)) (by rfl) T.m_takes T.F_takes.kp T.b_takes (zc (za 0) zr))) (za 1) (zT (K':=K) G_worth (hr.mono (by decide)) (by rfl) T.m_worth T.F_worth.kp T.b_worth (zc (zJ (K':=K) (st:=true) (SE.seq (k:=false) (za 0)) zg) (zc (za 2) zr)))))
   (zy (Zl (wO (K':=K) (st:=false) (wO (K':=K) (st:=true) (wN (K':=K) (st:=true) (SE.seq (k:=false) (za 2)) YO (YN (za 3))) (zY (zc (za 4) zr))) (wN (K':=K) (st:=true) (SE.seq (k:=false) (za 2)) (YN (zB Zz Zh (za 3) zg)) YO)))))))⟩
 exact h
theorem ok_ran (T:Txt K mg Z) (G_laid:FnOk P w K mg base CX0 164 Z.f_laid Z.d_laid ["program"] (spL K m_laid)) (G_places_along:FnOk P w K mg base CX0 40 Z.f_places_along Z.d_places_along ["steps","moves"] (spM K m_places_along)) (G_first_stand:FnOk P w K mg base CX0 36 Z.f_first_stand Z.d_first_stand ["program"] (spM K m_first_stand)) (G_stand_behind:FnOk P w K mg base CX0 38 Z.f_stand_behind Z.d_stand_behind ["deed","number","stand"] (spM K m_stand_behind)):FnOk P w K mg base CX0 166 Z.f_ran Z.d_ran ["program","moves"] (spF K m_ran):=by
 have h:=fn_okF (P:=P) (w:=w) (mg:=mg) (base:=base) (k:=165) (m:=b_ran) T.F_ran gX fun cdv A outer s H E hr=>⟨_,[4],by
  unfold b_ran
  exact (zi (zQ (os:=[]) (os':=[]) (i:=2) gX.nd rfl (Or.inl rfl) (zJ (K':=K) (st:=true) (SE.seq (k:=false) (zT (K':=K) (FnOk.told G_laid) (hr.mono (by decide)) (by rfl) T.m_laid T.F_laid.kp T.b_laid (zc (za 0) zr))) zg))
   (zi (zQ (os:=[]) (os':=[]) (i:=3) gX.nd rfl (Or.inl rfl) (zT (K':=K) G_places_along (hr.mono (by decide)) (by rfl) T.m_places_along T.F_places_along.kp T.b_places_along (zc (za 2) (zc (za 1) zr))))
   (zi (Z6 (os':=[]) (zR op_isN rok_isN (za 3) Js (zI _))
   (zy ss_never)
   Zd)
   (zi (Jr (os:=[]) (os':=[4]) (i:=4) gX.nd rfl (Or.inl rfl) (ZV (zc (zT (K':=K) G_first_stand (hr.mono (by decide)) (by rfl) T.m_first_stand T.F_first_stand.kp T.b_first_stand (zc (za 0) zr)) zr)))
   (zi (jr (os:=[4]) rfl (Yb (K':=K) (SE.sn (k:=true) (za 1))) (Zf (i:=5) gX.nd rfl (Or.inl rfl))
   (zy (YS (os:=[4]) (i:=4) (zT (K':=K) G_stand_behind (hr.mono (by decide)) (by rfl) T.m_stand_behind T.F_stand_behind.kp T.b_stand_behind (zc (zJ (K':=K) (st:=true) (SE.seq (k:=false) (ZW (K':=K) (st:=true) (SE.seq (k:=true) (za 2)) (zJ (K':=K) (st:=true) (SE.seq (k:=false) (za 5)) zg))) zg) (zc (zJ (K':=K) (st:=true) (SE.seq (k:=false) (za 5)) zg) (zc (ZW (K':=K) (st:=true) (gY 4) (gU YU jQ zg)) zr)))))))
   (zy (ss_retF (sf_listZip (K':=K) hr (by rfl) (by exact T.z_list) (by rfl) (by exact T.z_zip) (SC.sn (SE.seq (k:=true) (za 3))) (SC.sn (gY 4))))))))))⟩
 exact h
theorem ok'cell (T:Txt K mg Z) :FnOk P w K mg base CX0 36 Z.f'cell Z.d'cell ["_law_script","_law_k"] (spM K m'cell):=by
 have h:=yI (P:=P) (w:=w) (mg:=mg) (base:=base) (k:=35) (m:=b'cell) T.F'cell gm fun cdv A outer s H E hr=>⟨_,[],by
  unfold b'cell
  exact (zi (Z6 (os':=[]) (zR op_lt rok_lt (za 1) (yL (K':=K) (st:=false) (by rfl) (by exact T.z_len) (SE.seq (k:=true) (za 0))) (zI _))
   (zy (Zl (ZW (K':=K) (st:=false) (SE.seq (k:=true) (za 0)) (za 1))))
   Zd)
   (zi (zQ (os:=[]) (os':=[]) (i:=2) gm.nd rfl (Or.inl rfl) (zB Zz Zh (zB yb ya (za 1) zg) zg))
   (zi (Z6 (os':=[]) (zR op_gt Gg (yL (K':=K) (st:=false) (by rfl) (by exact T.z_len) (SE.seq (k:=true) (za 0))) zg (zI _))
   (zy (zQ (os:=[]) (os':=[]) (i:=2) gm.nd rfl (Or.inl rfl) (zB ZF Zi (zB Zz Zh (zB yb ya (ZW (K':=K) (st:=true) (SE.seq (k:=true) (za 0)) (zB ZF Zi (zB yb ya (za 1) zg) (yL (K':=K) (st:=true) (by rfl) (by exact T.z_len) (SE.seq (k:=true) (za 0))))) zg) (zB yb ya (za 1) zg)) zg)))
   Zd)
   (zi (zQ (os:=[]) (os':=[]) (i:=2) gm.nd rfl (Or.inl rfl) (zB ZF Zi (zB yb ya (za 2) (za 2)) zg))
   (zy (Zl (zB ZF Zi (zB yb ya (zB Zz Zh (za 2) zg) (zB Zz Zh (za 2) zg)) zg)))))))⟩
 exact h
theorem ok'line (T:Txt K mg Z) :FnOk P w K mg base CX0 36 Z.f'line Z.d'line ["_law_cell_here","_law_many"] (spM K m'line):=by
 have h:=yI (P:=P) (w:=w) (mg:=mg) (base:=base) (k:=35) (m:=b'line) T.F'line jS fun cdv A outer s H E hr=>⟨_,[2],by
  unfold b'line
  exact (zi (Jr (os:=[]) (os':=[2]) (i:=2) jS.nd rfl (Or.inl rfl) (ZV zr))
   (zi (jr (os:=[2]) rfl (Yk (by rfl) (by exact T.z_range) (zB Zz Zh (za 1) zg)) (Zf (i:=3) jS.nd rfl (Or.inl rfl))
   (zi (zQ (os:=[2]) (os':=[2]) (i:=4) jS.nd rfl (Or.inl rfl) (zB ZF Zi (zB Zz Zh (zB yb ya (zB (op_fdivP (hr.mono (by decide))) rok_divP (za 0) (zB Zz Zh (zB yb ya (za 3) (za 3)) zg)) zg) (zB yb ya (za 3) zg)) zg))
   (zi (zQ (os:=[2]) (os':=[2]) (i:=5) jS.nd rfl (Or.inl rfl) (ZW (K':=K) (st:=true) (SF.seq (ZV (zc zg (zc zg (zc zg (zc (gU YU jQ zg) (zc zg (zc zg (zc zg (zc zg (zc (gU YU jQ zg) zr))))))))))) (zB ZF Zi (za 4) zg)))
   (zi (Z6 (os':=[2]) (zR Z7 Zg (zB ZF Zi (zB Z5 Z4 (za 4) zg) zg) zg (zI _))
   (zi (zQ (os:=[2]) (os':=[2]) (i:=5) jS.nd rfl (Or.inl rfl) (zB ww jV (zB ZF Zi (zB Z5 Z4 (za 4) zg) zg) zg))
   (zy (Z6 (os':=[2]) (zR op_gt Gg (za 3) zg (zI _))
   (zy (zQ (os:=[2]) (os':=[2]) (i:=5) jS.nd rfl (Or.inl rfl) (zB ww jV (zB ZF Zi (za 5) zg) zg)))
   Zd)))
   Zd)
   (zy (YS (os:=[2]) (i:=2) (za 5)))))))
   (zy (Zl (se_tuple (K':=K) (st:=false) (by rfl) (by exact T.z_tuple) (gY 2))))))⟩
 exact h
theorem ok'deed (T:Txt K mg Z) (G'line:FnOk P w K mg base CX0 36 Z.f'line Z.d'line ["_law_cell_here","_law_many"] (spM K m'line)):FnOk P w K mg base CX0 38 Z.f'deed Z.d'deed ["_law_cell_here","_law_many","_law_later_on"] (spF K m'deed):=by
 have h:=fn_okF (P:=P) (w:=w) (mg:=mg) (base:=base) (k:=37) (m:=b'deed) T.F'deed sc'deed fun cdv A outer s H E hr=>⟨_,[],by
  unfold b'deed
  exact (zi (zQ (os:=[]) (os':=[]) (i:=3) sc'deed.nd rfl (Or.inl rfl) (zB ZF Zi (zB Z5 Z4 (za 0) zg) zg))
   (zi (Z6 (os':=[]) (SW.sb (Wj (zR op_gt Gg (za 3) zg (zI _)) (JQ (zR (Wp (K':=K) hr) JR (za 2) (SF.se (st:=false) (ZV zr)) (zI _)))))
   (zy (Jq (ZW (K':=K) (st:=false) (SF.seq (Yu (s:=false) (own:=["_law_pair"]) (N':=["_law_cell_here","_law_many","_law_later_on","_law_kind","_law_box","_law_pair"]) (k:=1) (ZZ (by kernel_rfl)) rfl (Yb (K':=K) (SC.sn (SE.seq (k:=true) (za 2)))) (fun _ _ _ _=>(Zf (i:=5) nd_4 rfl (Or.inl rfl))) (fun _ _ _ _=>Yt) (fun _ _ _ _=>(zY (zc ZE (zc (zJ (K':=K) (st:=true) (SE.seq (k:=false) (za 5)) zg) zr)))))) (zB ZF Zi (zB Z5 Z4 (za 0) zg) (yL (K':=K) (st:=true) (by rfl) (by exact T.z_len) (SE.seq (k:=true) (za 2)))))))
   Zd)
   (zi (Z6 (os':=[]) (zR Z7 Zg (za 3) zg (zI _))
   (zy (ss_retRow2 (os:=[])))
   Zd)
   (zi (Z6 (os':=[]) (zR Z7 Zg (za 3) zg (zI _))
   (zy (ss_retRow1 (os:=[])))
   Zd)
   (zi (Z6 (os':=[]) (SW.sb (Wj (zR Z7 Zg (za 3) zg (zI _)) (JQ (zR Z7 Zg (zB ZF Zi (zB Z5 Z4 (za 0) zg) zg) zg (zI _)))))
   (zy (Jq (zY (zc ZE zr))))
   Zd)
   (zi (Z6 (os':=[]) (SW.sb (J1 (zR Z7 Zg (za 3) zg (zI _)) (Jo (zR Z7 Zg (za 1) zg (zI _)))))
   (zy (Jq (zY (zc ZE zr))))
   Zd)
   (zi (zQ (os:=[]) (os':=[]) (i:=4) sc'deed.nd rfl (Or.inl rfl) (zB ZF Zi (zB Z5 Z4 (za 0) zg) (za 1)))
   (zi (Z6 (os':=[]) (SW.sb (Wj (zR op_gt Gg (za 3) zg (zI _)) (JQ (zR op_lt rok_lt (za 3) zg (zI _)))))
   (zy (Jq (zY (zc ZE (zc (za 4) zr)))))
   Zd)
   (zy (Jq (zY (zc ZE (zc (za 4) (zc (zT (K':=K) G'line (hr.mono (by decide)) (by rfl) T.m'line T.F'line.kp T.b'line (zc (zB Z5 Z4 (za 0) zg) (zc (za 1) zr))) zr))))))))))))))⟩
 exact h
theorem ok'body (T:Txt K mg Z) (G'deed:FnOk P w K mg base CX0 38 Z.f'deed Z.d'deed ["_law_cell_here","_law_many","_law_later_on"] (spF K m'deed)):FnOk P w K mg base CX0 40 Z.f'body Z.d'body ["_law_cells","_law_many","_law_later_on","_law_deep","_law_most"] (spM K m'body):=by
 have h:=yI (P:=P) (w:=w) (mg:=mg) (base:=base) (k:=39) (m:=b'body) T.F'body YQ fun cdv A outer s H E hr=>⟨_,[],by
  unfold b'body
  exact (sss_b15 (sr_call G'deed (hr.mono (by decide)) (by rfl) T.m'deed T.F'deed.kp T.b'deed (zc (za 8) (zc (za 1) (zc (za 2) zr)))) (gW (K':=K) (st:=true) rfl (by rfl) (by exact T.z_sum) (SF.seq (Yu (s:=false) (own:=["_law_pair"]) (N':=["_law_cells","_law_many","_law_later_on","_law_deep","_law_most","_law_body_here","_law_stack","_law_used","_law_cell_here","_law_row","_law_cost","_law_pair"]) (k:=1) (ZZ (by kernel_rfl)) rfl (Yb (K':=K) (SC.sn (SE.seq (k:=true) (za 2)))) (fun _ _ _ _=>(Zf (i:=11) nd_5 rfl (Or.inl rfl))) (fun _ _ _ _=>(spf_one (SW.sb (Wj (zR Z7 Zg (zJ (K':=K) (st:=false) (SE.seq (k:=false) (za 9)) zg) ZE (zI _)) (JQ (zR (op_eqD (K':=K) hr) rok_eqD (zJ (K':=K) (st:=false) (SE.seq (k:=false) (za 11)) zg) (zJ (K':=K) (st:=false) (SE.seq (k:=false) (za 9)) zg) (zI _))))))) (fun _ _ _ _=>(zJ (K':=K) (st:=true) (SE.seq (k:=false) (za 11)) zg))))) (zB Zz Zh (za 10) (se_callTy call_int1 caok_int (by rfl) (by exact T.z_int) PyProof.Rows.boot_int (zc (SE.flat (jR Gr jW (zJ (K':=K) (st:=false) (SE.seq (k:=false) (za 9)) zg) ZE (zI _))) zr))) (fun hR hK1 hK2=>(ZO (YI (i:=5) YQ.nd rfl (Or.inl rfl) (jZ Zn)) (ZO (YI (i:=6) YQ.nd rfl (Or.inl rfl) (jZ (zP (jZ (zP (pv 5) Zn)) Zn))) (ZO (YI (i:=7) YQ.nd rfl (Or.inl rfl) Yd) (ZO (ps_for PassesOwn.never rfl (pi_list (pv 0)) (pg_name (i:=8) YQ.nd rfl (Or.inl rfl)) (Yc (ps_if (PW.pt (pw_and (jm Z7 (WR ZF (pv 8) Yd) Yd (zI _)) (pw_and1 (jm op_gt (Jy Ja (by rfl) (by exact T.z_len) PySem.boot_len (zP (pv 6) Zn)) Yd (zI _))))) (ZO (Yy (pe_bm PySem.F.plainAttrs_list PySem.F.slot_list_pop PySem.F.type_list_pop mt_popAt (wR j7 (pv 6) (pe_un YU Yd) (fun _ _=>rfl)) (zP Yd Zn))) (Yc (ps_if (jm (op_eqD (K':=K) hr) (wR j7 (pv 6) (pe_un YU Yd) (fun _ _=>rfl)) (jZ Zn) (zI _)) (Yc (Yy (pe_bm0 PySem.F.plainAttrs_list PySem.F.slot_list_pop PySem.F.type_list_pop mt_pop (pv 6)))) wQ))) (ZO (YI (i:=9) YQ.nd rfl (Or.inr rfl) hR) (ZO (YI (i:=10) YQ.nd rfl (Or.inl rfl) hK1) (ZO (YI (i:=10) YQ.nd rfl (Or.inl rfl) hK2) (Yc (ps_if (jm op_le (WR Zz (pv 7) (pv 10)) (pv 4) (zI _)) (ZO (YI (i:=7) YQ.nd rfl (Or.inl rfl) (WR Zz (pv 7) (pv 10))) (ZO (Yy (pe_bm PySem.F.plainAttrs_list PySem.F.slot_list_append PySem.F.type_list_append jG (wR j7 (wR j7 (pv 6) (pe_un YU Yd) (fun _ _=>rfl)) Yd (fun _ _=>rfl)) (zP (pv 9) Zn))) (Yc (ps_if (PW.pt (pw_and (jm op_in_seq (wR ix_tup (pv 9) Yd (fun _ _=>rfl)) (wv (zP Go (zP Go Zn))) rfl) (pw_and1 (jm op_lt (Jy Ja (by rfl) (by exact T.z_len) PySem.boot_len (zP (pv 6) Zn)) (pv 3) (zI _))))) (Yc (Yy (pe_bm PySem.F.plainAttrs_list PySem.F.slot_list_append PySem.F.type_list_append jG (pv 6) (zP (SF.pe (os:=[]) (Yu (s:=false) (own:=["_law_inner"]) (N':=["_law_cells","_law_many","_law_later_on","_law_deep","_law_most","_law_body_here","_law_stack","_law_used","_law_cell_here","_law_row","_law_cost","_law_inner"]) (k:=1) (ZZ (by kernel_rfl)) rfl (si_tup (K':=K) (SC.sn (SE.seq (k:=false) (wN (K':=K) (st:=true) (SE.seq (k:=false) (za 9)) (YN zg) YO)))) (fun _ _ _ _=>(Zf (i:=11) nd_6 rfl (Or.inl rfl))) (fun _ _ _ _=>Yt) (fun _ _ _ _=>(za 11)))) Zn)))) wQ)))) wQ)))))))) (Yc (Jx (wv (zP (pv 5) (zP (pv 7) Zn)))))))))))⟩
 exact h
theorem ok'program (T:Txt K mg Z) (G'cell:FnOk P w K mg base CX0 36 Z.f'cell Z.d'cell ["_law_script","_law_k"] (spM K m'cell)) (G'body:FnOk P w K mg base CX0 40 Z.f'body Z.d'body ["_law_cells","_law_many","_law_later_on","_law_deep","_law_most"] (spM K m'body)):FnOk P w K mg base CX0 42 Z.f'program Z.d'program ["_law_script","_law_at","_law_many","_law_most"] (spM K m'program):=by
 have h:=yI (P:=P) (w:=w) (mg:=mg) (base:=base) (k:=41) (m:=b'program) T.F'program Zs fun cdv A outer s H E hr=>⟨_,[],by
  unfold b'program
  exact (zi (zQ (os:=[]) (os':=[]) (i:=4) Zs.nd rfl (Or.inl rfl) (SF.se (st:=true) (ZV zr)))
   (zi (zQ (os:=[]) (os':=[]) (i:=5) Zs.nd rfl (Or.inl rfl) (SF.se (st:=true) (ZV zr)))
   (zi (zQ (os:=[]) (os':=[]) (i:=6) Zs.nd rfl (Or.inl rfl) (zB Zz Zh zg (zB ZF Zi (zT (K':=K) G'cell (hr.mono (by decide)) (by rfl) T.m'cell T.F'cell.kp T.b'cell (zc (za 0) (zc (za 1) zr))) zg)))
   (zi (jr (os:=[]) rfl (si_rangeD (by rfl) (by exact T.z_range) (zB ww jV (za 6) zg) (gU YU jQ zg)) (Zf (i:=7) Zs.nd rfl (Or.inl rfl))
   (zi (zQ (os:=[]) (os':=[]) (i:=8) Zs.nd rfl (Or.inl rfl) zg)
   (zi (zQ (os:=[]) (os':=[]) (i:=9) Zs.nd rfl (Or.inl rfl) zg)
   (zi (Z6 (os':=[]) (zR Z7 Zg (za 7) zg (zI _))
   (zi (zQ (os:=[]) (os':=[]) (i:=8) Zs.nd rfl (Or.inl rfl) (zB Zz Zh zg (zB ZF Zi (zB Z5 Z4 (zT (K':=K) G'cell (hr.mono (by decide)) (by rfl) T.m'cell T.F'cell.kp T.b'cell (zc (za 0) (zc (za 1) zr))) zg) zg)))
   (zy (zQ (os:=[]) (os':=[]) (i:=9) Zs.nd rfl (Or.inl rfl) zg)))
   Zd)
   (zi (zQ (os:=[]) (os':=[]) (i:=10) Zs.nd rfl (Or.inr rfl) (zB Zz Zh (zB Zz Zh (zB Zz Zh (za 1) zg) (zB yb ya zg (se_callTy call_int1 caok_int (by rfl) (by exact T.z_int) PyProof.Rows.boot_int (zc (SE.flat (jR op_gt Gg (za 7) zg (zI _))) zr)))) (zB yb ya zg (za 7))))
   (zi (gN (os:=[]) (os':=[]) (i:=11) Zs.nd rfl rfl (s:=false) (own:=["_law_j"]) (N':=["_law_script","_law_at","_law_many","_law_most","_law_bodies","_law_later_on","_law_count","_law_k","_law_size","_law_deep","_law_begin","_law_cells","_law_body_here","_law_used","_law_j"]) (k:=1) (ZZ (by kernel_rfl)) rfl (Yk (by rfl) (by exact T.z_range) (za 8)) (fun _ _ _ _=>(Zf (i:=14) nd_7 rfl (Or.inl rfl))) (fun _ _ _ _=>Yt) (fun _ _ _ _=>(zT (K':=K) G'cell (hr.mono (by decide)) (by rfl) T.m'cell T.F'cell.kp T.b'cell (zc (za 0) (zc (zB Zz Zh (za 10) (za 14)) zr)))))
   (zi (ss_asg (os:=[]) (zT (K':=K) G'body (hr.mono (by decide)) (by rfl) T.m'body T.F'body.kp T.b'body (zc (za 11) (zc (za 2) (zc (za 5) (zc (za 9) (zc (za 3) zr)))))) (sg_tup (K':=K) rfl (jD (Zf (i:=12) Zs.nd rfl (Or.inl rfl)) (jD (Zf (i:=13) Zs.nd rfl (Or.inl rfl)) sgs_nil))))
   (zi (Z6 (os':=[]) (SW.sb (Wj (zR Z7 Zg (za 6) zg (zI _)) (JQ (zR Z7 Zg (zB ZF Zi (zB Z5 Z4 (zT (K':=K) G'cell (hr.mono (by decide)) (by rfl) T.m'cell T.F'cell.kp T.b'cell (zc (za 0) (zc (za 1) zr))) zg) zg) zg (zI _)))))
   (zy (zQ (os:=[]) (os':=[]) (i:=12) Zs.nd rfl (Or.inl rfl) (SF.se (st:=true) (ZV (zc (zY (zc ZE (zc (SF.se (st:=true) (ZV zr)) (zc (SF.se (st:=true) (ZV (zc (zY (zc ZE (zc (SF.se (st:=true) (ZV (zc (zY (zc ZE (zc (za 12) (zc (SF.se (st:=true) (ZV zr)) zr)))) zr))) zr))) zr))) zr)))) zr)))))
   Zd)
   (zi (zQ (os:=[]) (os':=[]) (i:=4) Zs.nd rfl (Or.inl rfl) (SF.se (st:=true) (sf_cat (SF.sl (ZV (zc (za 12) zr))) (SE.sl (za 4)))))
   (zy (zQ (os:=[]) (os':=[]) (i:=5) Zs.nd rfl (Or.inl rfl) (SF.se (st:=true) (sf_cat (SF.sl (ZV (zc (zY (zc (za 7) (zc (za 13) zr))) zr))) (SE.sl (za 5)))))))))))))))
   (zy (Zl (zY (zc (za 2) (zc (za 4) zr)))))))))⟩
 exact h
theorem okR'lay (T:Txt K mg Z)  (n:Nat):FnOk P w K mg base CX0 (36+2*n) Z.f'lay Z.d'lay ["_law_rows","_law_place","_law_bodies","_law_made"] (spW K kL 3 ((W3 n))):=by
 induction n with
 | zero=>exact FnOk.noW
 | succ n ih =>
  have G'lay:=ih
  refine ?_
  ·have h:=JG (κ:=kL) (i0:=3) (P:=P) (w:=w) (mg:=mg) (base:=base) (k:=36+2*n+1) (M:=b'lay ((W3 n))) T.F'lay wf (by decide) fun cdv A outer s H E hr=>⟨_,[],by
   unfold b'lay
   exact (Zb (wst_for rfl (Yb (K':=K) (SE.sn (k:=true) (za 0))) (Zf (i:=4) wf.nd rfl (Or.inl rfl)) kg_name
   (ZL (jP (SB.wb (zR Z7 Zg (zJ (K':=K) (st:=false) (SE.seq (k:=false) (za 4)) zg) ZE (zI _)))
   (ZL (yA (j:=1) wf.nd rfl (Or.inr rfl) (yB (K':=K) (st:=true) G'lay (hr.mono (by omega)) (by rfl) T.m'lay T.F'lay.kp T.b'lay (gf (gf (gf Wx))) (zA (SE.we (ZW (K':=K) (st:=true) (SE.seq (k:=true) (za 2)) (zJ (K':=K) (st:=true) (SE.seq (k:=false) (za 4)) zg))) (zA (SE.we (za 1)) (zA (SE.we (za 2)) (zA (SE.we (za 3)) yi)))))))
   (ZL (jP (SB.wb (zR Z7 Zg (zJ (K':=K) (st:=false) (SE.seq (k:=false) (za 4)) zg) ZE (zI _)))
   (Zb (wst_setComp (j:=5) wf.nd rfl rfl (own:=["_law_some"]) (N':=["_law_rows","_law_place","_law_bodies","_law_made","_law_row","_law_led","_law_begin","_law_some"]) (k:=1) (ZZ (by kernel_rfl)) rfl (si_tup (K':=K) (SE.sn (k:=false) (wN (K':=K) (st:=true) (SE.seq (k:=false) (za 4)) (YN zg) YO))) (fun _ _ _ _=>(Zf (i:=7) nd_8 rfl (Or.inl rfl))) kg_name (fun _ _ _ _=>(yB (K':=K) (st:=true) G'lay (hr.mono (by omega)) (by rfl) T.m'lay T.F'lay.kp T.b'lay (gf (gf (gf Wx))) (zA (SE.we (za 7)) (zA (SE.we (za 1)) (zA (SE.we (za 2)) (zA (SE.we (za 3)) yi)))))))
   (Zb (yA (j:=1) wf.nd rfl (Or.inr rfl) (we_hix (K':=K) (st:=true) zg))
   (Zb (wst_hset (we_op (st:=true) Zz Zh (we_hix (K':=K) (st:=true) zg) (SE.we zg)) zg)
   (ZL (wst_ext (SF.se (st:=true) (Yu (s:=false) (own:=["_law_one"]) (N':=["_law_rows","_law_place","_law_bodies","_law_made","_law_row","_law_led","_law_begin","_law_one"]) (k:=1) (ZZ (by kernel_rfl)) rfl (Yb (K':=K) (SC.sn (SE.seq (k:=true) (za 5)))) (fun _ _ _ _=>(Zf (i:=7) nd_9 rfl (Or.inl rfl))) (fun _ _ _ _=>Yt) (fun _ _ _ _=>(zY (zc (za 7) (zc (za 1) (zc (zY (zc ZE zr)) zr))))))))))))
   (Zb (yA (j:=6) wf.nd rfl (Or.inl rfl) (SE.we (za 1)))
   (Zb (yA (j:=1) wf.nd rfl (Or.inr rfl) (we_hix (K':=K) (st:=true) zg))
   (Zb (wst_hset (we_op (st:=true) Zz Zh (we_hix (K':=K) (st:=true) zg) (SE.we zg)) zg)
   (ZL (jP (SB.wb (zR Z7 Zg (zJ (K':=K) (st:=false) (SE.seq (k:=false) (za 4)) zg) ZE (zI _)))
   (Zb (wst_app (SE.we (zY (zc (za 6) (zc (za 1) (zc (zY (zc ZE zr)) zr))))))
   (ZL (wst_app (we_tup (st:=true) (zA (yB (K':=K) (st:=true) G'lay (hr.mono (by omega)) (by rfl) T.m'lay T.F'lay.kp T.b'lay (gf (gf (gf Wx))) (zA (SE.we (zJ (K':=K) (st:=true) (SE.seq (k:=false) (za 4)) zg)) (zA (SE.we (za 1)) (zA (SE.we (za 2)) (zA (SE.we (za 3)) yi))))) (zA (SE.we (za 1)) (zA (SE.we (zY (zc ZE zr))) yi)))))))
   (ZL (jP (SB.wb (zR Gr jW (zJ (K':=K) (st:=false) (SE.seq (k:=false) (za 4)) zg) ZE (zI _)))
   (ZL (wst_app (SE.we (zY (zc (za 6) (zc (za 1) (zc (za 4) zr)))))))
   JO))))))))))))
   (ZL (yY (SE.we (za 1)))))⟩
   exact h
theorem ok'lay (T:Txt K mg Z) :FnOk P w K mg base CX0 156 Z.f'lay Z.d'lay ["_law_rows","_law_place","_law_bodies","_law_made"] (spW K kL 3 m'lay):=okR'lay (P:=P) (w:=w) (base:=base) T  60
theorem ok'behind (T:Txt K mg Z) :FnOk P w K mg base CX0 36 Z.f'behind Z.d'behind ["_law_stand","_law_deed_here","_law_number"] (spM K m'behind):=by
 have h:=yI (P:=P) (w:=w) (mg:=mg) (base:=base) (k:=35) (m:=b'behind) T.F'behind sc'behind fun cdv A outer s H E hr=>⟨_,[],by
  unfold b'behind
  exact (zi (Z6 (os':=[]) (zR Z7 Zg (zJ (K':=K) (st:=false) (SE.seq (k:=false) (za 1)) zg) ZE (zI _))
   (zy (Zl (za 0)))
   Zd)
   (zi (Z6 (os':=[]) (zR Z7 Zg (zJ (K':=K) (st:=false) (SE.seq (k:=false) (za 1)) zg) ZE (zI _))
   (zy (zQ (os:=[]) (os':=[]) (i:=2) sc'behind.nd rfl (Or.inr rfl) (gW (K':=K) (st:=true) rfl (by rfl) (by exact T.z_sum) (SF.seq (Yu (s:=false) (own:=["_law_k"]) (N':=["_law_stand","_law_deed_here","_law_number","_law_k"]) (k:=1) (ZZ (by kernel_rfl)) rfl (Yk (by rfl) (by exact T.z_range) (yL (K':=K) (st:=false) (by rfl) (by exact T.z_len) (SE.seq (k:=false) (za 0)))) (fun _ _ _ _=>(Zf (i:=3) nd_10 rfl (Or.inl rfl))) (fun _ _ _ _=>Yt) (fun _ _ _ _=>(zB yb ya (zJ (K':=K) (st:=true) (SE.seq (k:=false) (zJ (K':=K) (st:=true) (SE.seq (k:=false) (za 1)) zg)) (za 3)) (zJ (K':=K) (st:=true) (SE.seq (k:=false) (za 0)) (za 3)))))))))
   Zd)
   (zy (Zl (se_tuple (K':=K) (st:=false) (by rfl) (by exact T.z_tuple) (SF.seq (Yu (s:=false) (own:=["_law_k"]) (N':=["_law_stand","_law_deed_here","_law_number","_law_k"]) (k:=1) (ZZ (by kernel_rfl)) rfl (Yk (by rfl) (by exact T.z_range) (yL (K':=K) (st:=false) (by rfl) (by exact T.z_len) (SE.seq (k:=false) (za 0)))) (fun _ _ _ _=>(Zf (i:=3) nd_10 rfl (Or.inl rfl))) (fun _ _ _ _=>Yt) (fun _ _ _ _=>(se_if (zR Gr jW (za 3) (zB Zz Zh (zJ (K':=K) (st:=false) (SE.seq (k:=false) (za 1)) zg) zg) (zI _)) (zJ (K':=K) (st:=true) (SE.seq (k:=false) (za 0)) (za 3)) (za 2))))))))))⟩
 exact h
theorem ok'run (T:Txt K mg Z) (G'cell:FnOk P w K mg base CX0 36 Z.f'cell Z.d'cell ["_law_script","_law_k"] (spM K m'cell)):FnOk P w K mg base CX0 38 Z.f'run Z.d'run ["_law_script","_law_at","_law_steps","_law_most"] (spM K m'run):=by
 have h:=yI (P:=P) (w:=w) (mg:=mg) (base:=base) (k:=37) (m:=b'run) T.F'run jt fun cdv A outer s H E hr=>⟨_,[4],by
  unfold b'run
  exact (zi (Jr (os:=[]) (os':=[4]) (i:=4) jt.nd rfl (Or.inl rfl) (ZV zr))
   (zi (zQ (os:=[4]) (os':=[4]) (i:=5) jt.nd rfl (Or.inr rfl) zg)
   (zi (jr (os:=[4]) rfl (Yk (by rfl) (by exact T.z_range) (za 3)) (Zf (i:=6) jt.nd rfl (Or.inl rfl))
   (zi (zQ (os:=[4]) (os':=[4]) (i:=7) jt.nd rfl (Or.inl rfl) (zB (op_fdivP (hr.mono (by decide))) rok_divP (zT (K':=K) G'cell (hr.mono (by decide)) (by rfl) T.m'cell T.F'cell.kp T.b'cell (zc (za 0) (zc (zB Zz Zh (za 1) (zB ZF Zi (za 6) zg)) zr))) (zB Zz Zh zg (zB Z5 Z4 (za 6) zg))))
   (zi (gN (os:=[4]) (os':=[4]) (i:=8) jt.nd rfl rfl (s:=false) (own:=["_law_j"]) (N':=["_law_script","_law_at","_law_steps","_law_most","_law_moves","_law_place","_law_k","_law_cell_here","_law_some","_law_step","_law_number","_law_j"]) (k:=1) (ZZ (by kernel_rfl)) rfl (Yk (by rfl) (by exact T.z_range) (yL (K':=K) (st:=false) (by rfl) (by exact T.z_len) (SE.seq (k:=true) (za 2)))) (fun _ _ _ _=>(Zf (i:=11) nd_11 rfl (Or.inl rfl))) (fun _ _ _ _=>(spf_one (zR Z7 Zg (zJ (K':=K) (st:=false) (SE.seq (k:=false) (ZW (K':=K) (st:=true) (SE.seq (k:=true) (za 2)) (za 11))) zg) (za 5) (zI _)))) (fun _ _ _ _=>(za 11)))
   (zy (Z6 (os':=[4]) (zR (Wp (K':=K) hr) JR (za 8) (SF.se (st:=false) (ZV zr)) (zI _))
   (zi (zQ (os:=[4]) (os':=[4]) (i:=9) jt.nd rfl (Or.inl rfl) (ZW (K':=K) (st:=true) (SE.seq (k:=true) (za 8)) (zB ZF Zi (zB Zz Zh (za 7) (zB yb ya (za 6) (za 6))) (yL (K':=K) (st:=true) (by rfl) (by exact T.z_len) (SE.seq (k:=true) (za 8))))))
   (zi (zQ (os:=[4]) (os':=[4]) (i:=10) jt.nd rfl (Or.inl rfl) Js)
   (zi (Z6 (os':=[4]) (zR Z7 Zg (zJ (K':=K) (st:=false) (SE.seq (k:=false) (zJ (K':=K) (st:=true) (SE.seq (k:=false) (ZW (K':=K) (st:=true) (SE.seq (k:=true) (za 2)) (za 9))) zg)) zg) ZE (zI _))
   (zy (zQ (os:=[4]) (os':=[4]) (i:=10) jt.nd rfl (Or.inl rfl) (ZW (K':=K) (st:=true) (SF.seq (ZV (zc zg (zc zg (zc (zB ww jV (zB ZF Zi (zB Z5 Z4 (za 7) zg) zg) zg) (zc (zB ww jV (zB ZF Zi (zB Z5 Z4 (za 7) zg) zg) zg) zr)))))) (zB ZF Zi (zB Z5 Z4 (za 7) zg) zg))))
   Zd)
   (zi (YS (os:=[4]) (i:=4) (zY (zc (za 9) (zc (za 10) zr))))
   (zy (zQ (os:=[4]) (os':=[4]) (i:=5) jt.nd rfl (Or.inr rfl) (zJ (K':=K) (st:=true) (SE.seq (k:=false) (ZW (K':=K) (st:=true) (SE.seq (k:=true) (za 2)) (za 9))) zg)))))))
   Zd)))))
   (zy (Zl (jh 4))))))⟩
 exact h
theorem ok'walked (T:Txt K mg Z) (G'behind:FnOk P w K mg base CX0 36 Z.f'behind Z.d'behind ["_law_stand","_law_deed_here","_law_number"] (spM K m'behind)):FnOk P w K mg base CX0 38 Z.f'walked Z.d'walked ["_law_many","_law_steps","_law_moves"] (spM K m'walked):=by
 have h:=yI (P:=P) (w:=w) (mg:=mg) (base:=base) (k:=37) (m:=b'walked) T.F'walked yU fun cdv A outer s H E hr=>⟨_,[5],by
  unfold b'walked
  exact (zi (zQ (os:=[]) (os':=[]) (i:=3) yU.nd rfl (Or.inl rfl) zg)
   (zi (zQ (os:=[]) (os':=[]) (i:=4) yU.nd rfl (Or.inl rfl) (wO (K':=K) (st:=true) (zY (zc zg zr)) (se_repZ (K':=K) (st:=true) (zY (zc zg zr)) (za 0))))
   (zi (Jr (os:=[]) (os':=[5]) (i:=5) yU.nd rfl (Or.inl rfl) (ZV (zc (zY (zc (za 3) (zc (za 4) zr))) zr)))
   (zi (jr (os:=[5]) rfl (Yb (K':=K) (SE.sn (k:=true) (za 2))) (sg_tup (K':=K) rfl (jD (Zf (i:=6) yU.nd rfl (Or.inl rfl)) (jD (Zf (i:=7) yU.nd rfl (Or.inl rfl)) sgs_nil)))
   (zi (zQ (os:=[5]) (os':=[5]) (i:=4) yU.nd rfl (Or.inl rfl) (zT (K':=K) G'behind (hr.mono (by decide)) (by rfl) T.m'behind T.F'behind.kp T.b'behind (zc (za 4) (zc (zJ (K':=K) (st:=true) (SE.seq (k:=false) (ZW (K':=K) (st:=true) (SE.seq (k:=true) (za 1)) (za 6))) zg) (zc (za 7) zr)))))
   (zi (zQ (os:=[5]) (os':=[5]) (i:=3) yU.nd rfl (Or.inl rfl) (zJ (K':=K) (st:=true) (SE.seq (k:=false) (ZW (K':=K) (st:=true) (SE.seq (k:=true) (za 1)) (za 6))) zg))
   (zy (YS (os:=[5]) (i:=5) (zY (zc (za 3) (zc (za 4) zr))))))))
   (zy (Zl (jh 5)))))))⟩
 exact h
theorem ok'good (T:Txt K mg Z) :FnOk P w K mg base CX0 36 Z.f'good Z.d'good ["_law_found","_law_due"] (spM K m'good):=by
 have h:=yI (P:=P) (w:=w) (mg:=mg) (base:=base) (k:=35) (m:=b'good) T.F'good sc'good fun cdv A outer s H E hr=>⟨_,[],by
  unfold b'good
  exact (zi (Z6 (os':=[]) (SW.sb (J1 (Ju (ju (Wl (K':=K) (st:=false) (by rfl) (by exact T.z_isinstance) (by rfl) (by exact T.z_list) PyProof.Rows.boot_list (by decide) (za 0)))) (Jo (zR Gr jW (yL (K':=K) (st:=false) (by rfl) (by exact T.z_len) (SE.seq (k:=true) (za 0))) (yL (K':=K) (st:=false) (by rfl) (by exact T.z_len) (SE.seq (k:=true) (za 1))) (zI _)))))
   (zy (Zl Jd))
   Zd)
   (zi (jr (os:=[]) rfl (Yb (K':=K) (SE.sn (k:=true) (za 0))) (Zf (i:=2) sc'good.nd rfl (Or.inl rfl))
   (zi (Z6 (os':=[]) (SW.sb (J1 (Ju (ju (Wl (K':=K) (st:=false) (by rfl) (by exact T.z_isinstance) (by rfl) (by exact T.z_tuple) PyProof.Rows.boot_tuple (by decide) (za 2)))) (J1 (zR Gr jW (yL (K':=K) (st:=false) (by rfl) (by exact T.z_len) (SE.seq (k:=false) (za 2))) zg (zI _)) (Jo (Ju (ju (Wl (K':=K) (st:=false) (by rfl) (by exact T.z_isinstance) (by rfl) (by exact T.z_tuple) PyProof.Rows.boot_tuple (by decide) (zJ (K':=K) (st:=false) (SE.seq (k:=false) (za 2)) zg))))))))
   (zy (Zl Jd))
   Zd)
   (zy (jr (os:=[]) rfl (si_tup (K':=K) (SE.sn (k:=false) (wO (K':=K) (st:=true) (zJ (K':=K) (st:=true) (SE.seq (k:=false) (za 2)) zg) (wN (K':=K) (st:=true) (SE.seq (k:=false) (za 2)) YO (YN zg))))) (Zf (i:=3) sc'good.nd rfl (Or.inl rfl))
   (zy (Z6 (os':=[]) (SW.sb (J1 (Ju (ju (Wl (K':=K) (st:=false) (by rfl) (by exact T.z_isinstance) (by rfl) (by exact T.z_int) PyProof.Rows.boot_int (by decide) (za 3)))) (Jo (ju (Wl (K':=K) (st:=false) (by rfl) (by exact T.z_isinstance) (by rfl) (by exact T.z_bool) PyProof.Rows.boot_bool (by decide) (za 3))))))
   (zy (Zl Jd))
   Zd))))))
   (zy (Zl (jR (op_eqD (K':=K) hr) rok_eqD (za 0) (za 1) (zI _))))))⟩
 exact h
theorem ok'rounds (T:Txt K mg Z) (G_ran:FnOk P w K mg base CX0 166 Z.f_ran Z.d_ran ["program","moves"] (spF K m_ran)) (G_is_run:FnOk P w K mg base CX0 166 Z.f_is_run Z.d_is_run ["program","moves"] (spM K m_is_run)):FnOk P w K mg base CX0 168 Z.f'rounds Z.d'rounds ["_law_times"] (spM K m'rounds):=by
 have h:=yI (P:=P) (w:=w) (mg:=mg) (base:=base) (k:=167) (m:=b'rounds) T.F'rounds jE fun cdv A outer s H E hr=>⟨_,[],by
  unfold b'rounds
  exact (zi (zQ (os:=[]) (os':=[]) (i:=1) jE.nd rfl (Or.inl rfl) (zY (zc zg (zc (SF.se (st:=true) (ZV (zc (SF.se (st:=true) (ZV (zc (zY (zc ZE (zc (SF.se (st:=true) (ZV (zc (zY (zc ZE (zc zg (zc (zY (zc zg (zc zg zr))) zr)))) zr))) zr))) zr))) zr))) zr))))
   (zi (zQ (os:=[]) (os':=[]) (i:=2) jE.nd rfl (Or.inl rfl) (SF.se (st:=true) (sf_cat (SF.sl (ZV (zc (zY (zc zg (zc Js zr))) zr))) (SF.sl (sf_rep (ZV (zc (zY (zc zg (zc Js zr))) (zc (zY (zc zg (zc Js zr))) zr))) (za 0))))))
   (zi (zQ (os:=[]) (os':=[]) (i:=3) jE.nd rfl (Or.inl rfl) (zT (K':=K) (FnOk.plain G_ran) (hr.mono (by decide)) (by rfl) T.m_ran T.F_ran.kp T.b_ran (zc (za 1) (zc (SF.se (st:=true) (sf_list (K':=K) (by rfl) (by exact T.z_list) (SE.seq (k:=true) (za 2)))) zr))))
   (zi (Z6 (os':=[]) (SW.sb (J1 (zR op_notB Gf (zT (K':=K) G_is_run (hr.mono (by decide)) (by rfl) T.m_is_run T.F_is_run.kp T.b_is_run (zc (za 1) (zc (za 2) zr))) Jd (zI _)) (J1 (zR Gr jW (yL (K':=K) (st:=false) (by rfl) (by exact T.z_len) (SE.seq (k:=true) (za 3))) (zB Zz Zh (zB yb ya zg (za 0)) zg) (zI _)) (Jo (zR (Wp (K':=K) hr) JR (ZW (K':=K) (st:=false) (SE.seq (k:=true) (za 3)) zg) (zY (zc zg (zc (zY (zc zg (zc zg zr))) zr))) (zI _))))))
   (zy (Zl Jd))
   Zd)
   (zi (jr (os:=[]) rfl (Yk (by rfl) (by exact T.z_range) (za 0)) (Zf (i:=4) jE.nd rfl (Or.inl rfl))
   (zy (Z6 (os':=[]) (SW.sb (J1 (zR (Wp (K':=K) hr) JR (ZW (K':=K) (st:=false) (SE.seq (k:=true) (za 3)) (zB Zz Zh (zB yb ya zg (za 4)) zg)) (zY (zc zg (zc (zY (zc zg (zc (za 4) zr))) zr))) (zI _)) (Jo (zR (Wp (K':=K) hr) JR (ZW (K':=K) (st:=false) (SE.seq (k:=true) (za 3)) (zB Zz Zh (zB yb ya zg (za 4)) zg)) (zY (zc zg (zc (zY (zc zg (zc (zB Zz Zh (za 4) zg) zr))) zr))) (zI _)))))
   (zy (Zl Jd))
   Zd)))
   (zy (Zl (jR (op_eqD (K':=K) hr) rok_eqD (ZW (K':=K) (st:=false) (SE.seq (k:=true) (za 3)) (gU YU jQ zg)) (zY (zc zg (zc (zY (zc zg (zc (za 0) zr))) zr))) (zI _)))))))))⟩
 exact h
theorem ok_law (T:Txt K mg Z) (G'cell:FnOk P w K mg base CX0 36 Z.f'cell Z.d'cell ["_law_script","_law_k"] (spM K m'cell)) (G'program:FnOk P w K mg base CX0 42 Z.f'program Z.d'program ["_law_script","_law_at","_law_many","_law_most"] (spM K m'program)) (G'lay:FnOk P w K mg base CX0 156 Z.f'lay Z.d'lay ["_law_rows","_law_place","_law_bodies","_law_made"] (spW K kL 3 m'lay)) (G'run:FnOk P w K mg base CX0 38 Z.f'run Z.d'run ["_law_script","_law_at","_law_steps","_law_most"] (spM K m'run)) (G'walked:FnOk P w K mg base CX0 38 Z.f'walked Z.d'walked ["_law_many","_law_steps","_law_moves"] (spM K m'walked)) (G_ran:FnOk P w K mg base CX0 166 Z.f_ran Z.d_ran ["program","moves"] (spF K m_ran)) (G'good:FnOk P w K mg base CX0 36 Z.f'good Z.d'good ["_law_found","_law_due"] (spM K m'good)) (G_is_run:FnOk P w K mg base CX0 166 Z.f_is_run Z.d_is_run ["program","moves"] (spM K m_is_run)) (G'rounds:FnOk P w K mg base CX0 168 Z.f'rounds Z.d'rounds ["_law_times"] (spM K m'rounds)):FnOk P w K mg base CX0 170 Z.f_law Z.d_law ["_law_script"] (spM K Gz):=by
 have h:=yI (P:=P) (w:=w) (mg:=mg) (base:=base) (k:=169) (m:=b_law) T.F_law Yl fun cdv A outer s H E hr=>⟨_,[3,9,10],by
  unfold b_law
  exact (zi (zQ (os:=[]) (os':=[]) (i:=1) Yl.nd rfl (Or.inl rfl) (zB ZF Zi (zT (K':=K) G'cell (hr.mono (by decide)) (by rfl) T.m'cell T.F'cell.kp T.b'cell (zc (za 0) (zc zg zr))) zg))
   (zi (zQ (os:=[]) (os':=[]) (i:=2) Yl.nd rfl (Or.inl rfl) (zT (K':=K) G'program (hr.mono (by decide)) (by rfl) T.m'program T.F'program.kp T.b'program (zc (za 0) (zc zg (zc (za 1) (zc zg zr))))))
   (zi (Jr (os:=[]) (os':=[3]) (i:=3) Yl.nd rfl (Or.inl rfl) (ZV (zc zg zr)))
   (zi (ss_lend (os:=[3]) (os1:=[]) (ol1:=[]) (j:=3) (jw (yB (K':=K) (st:=false) G'lay (hr.mono (by decide)) (by rfl) T.m'lay T.F'lay.kp T.b'lay (gf (gf (gf Wx))) (zA (SE.we (ZW (K':=K) (st:=true) (SE.seq (k:=true) (zJ (K':=K) (st:=true) (SE.seq (k:=false) (za 2)) zg)) zg)) (zA (SE.we zg) (zA (SE.we (zJ (K':=K) (st:=true) (SE.seq (k:=false) (za 2)) zg)) (zA (SE.we (za 3)) yi)))))))
   (zi (zQ (os:=[3]) (os':=[3]) (i:=4) Yl.nd rfl (Or.inl rfl) (SF.se (st:=true) (gk (K':=K) (gY 3) (YN zg) YO)))
   (zi (zQ (os:=[3]) (os':=[3]) (i:=5) Yl.nd rfl (Or.inl rfl) (zT (K':=K) G'cell (hr.mono (by decide)) (by rfl) T.m'cell T.F'cell.kp T.b'cell (zc (za 0) (zc zg zr))))
   (zi (zQ (os:=[3]) (os':=[3]) (i:=6) Yl.nd rfl (Or.inl rfl) (zB ZF Zi (za 5) zg))
   (zi (Z6 (os':=[3]) (zR Z7 Zg (zB ZF Zi (zB Z5 Z4 (za 5) zg) zg) zg (zI _))
   (zy (zQ (os:=[3]) (os':=[3]) (i:=6) Yl.nd rfl (Or.inl rfl) (zB ZF Zi (zB Z5 Z4 (za 5) zg) zg)))
   Zd)
   (zi (zQ (os:=[3]) (os':=[3]) (i:=7) Yl.nd rfl (Or.inl rfl) (zT (K':=K) G'run (hr.mono (by decide)) (by rfl) T.m'run T.F'run.kp T.b'run (zc (za 0) (zc zg (zc (za 4) (zc (za 6) zr))))))
   (zi (zQ (os:=[3]) (os':=[3]) (i:=8) Yl.nd rfl (Or.inl rfl) (zT (K':=K) G'walked (hr.mono (by decide)) (by rfl) T.m'walked T.F'walked.kp T.b'walked (zc (za 1) (zc (za 4) (zc (za 7) zr)))))
   (zi (Jr (os:=[3]) (os':=[3,9]) (i:=9) Yl.nd rfl (Or.inl rfl) (sf_list (K':=K) (by rfl) (by exact T.z_list) (SE.seq (k:=true) (za 7))))
   (zi (ss_newRW (os:=[3,9]) (os':=[3,9,10]) (i:=10) Yl.nd rfl (Or.inl rfl) (sr_call G_ran (hr.mono (by decide)) (by rfl) T.m_ran T.F_ran.kp T.b_ran (zc (za 2) (zc (jh 9) zr))))
   (zi (Z6 (os':=[3,9,10]) (SW.sb (J1 (zR (Wp (K':=K) hr) JR (jh 9) (za 7) (zI _)) (Jo (Ju (ju (zT (K':=K) G'good (hr.mono (by decide)) (by rfl) T.m'good T.F'good.kp T.b'good (zc (jh 10) (zc (za 8) zr))))))))
   (zy (Zl Jd))
   Zd)
   (zi (ss_clear (os:=[3,9,10]) (i:=9) )
   (zi (YS (os:=[3,9,10]) (i:=10) (zY (zc zg (zc (zY zr) zr))))
   (zi (zQ (os:=[3,9,10]) (os':=[3,9,10]) (i:=11) Yl.nd rfl (Or.inl rfl) (zB ZF Zi (zB Z5 Z4 (za 5) zg) (zB Zz Zh (yL (K':=K) (st:=true) (by rfl) (by exact T.z_len) (SE.seq (k:=true) (za 7))) zg)))
   (zi (Z6 (os':=[3,9,10]) (SW.sb (J1 (zR op_notB Gf (zT (K':=K) G_is_run (hr.mono (by decide)) (by rfl) T.m_is_run T.F_is_run.kp T.b_is_run (zc (za 2) (zc (SF.se (st:=false) (gk (K':=K) (SE.seq (k:=true) (za 7)) YO (YN (za 11)))) zr))) Jd (zI _)) (Jo (zR op_notB Gf (zT (K':=K) G_is_run (hr.mono (by decide)) (by rfl) T.m_is_run T.F_is_run.kp T.b_is_run (zc (za 2) (zc (SF.se (st:=false) (sf_list (K':=K) (by rfl) (by exact T.z_list) (SE.seq (k:=true) (za 7)))) zr))) Jd (zI _)))))
   (zy (Zl Jd))
   Zd)
   (zi (Z6 (os':=[3,9,10]) (SW.sb (Wj (zR Z7 Zg (zB ZF Zi (zB Z5 Z4 (za 5) zg) zg) zg (zI _)) (JQ (Ju (ju (zT (K':=K) G'rounds (hr.mono (by decide)) (by rfl) T.m'rounds T.F'rounds.kp T.b'rounds (zc (zB ZF Zi (zB Z5 Z4 (za 5) zg) zg) zr)))))))
   (zy (Zl Jd))
   Zd)
   (zy (Zl (se_and (zT (K':=K) G'good (hr.mono (by decide)) (by rfl) T.m'good T.F'good.kp T.b'good (zc (zT (K':=K) (FnOk.plain G_ran) (hr.mono (by decide)) (by rfl) T.m_ran T.F_ran.kp T.b_ran (zc (za 2) (zc (SF.se (st:=false) (gk (K':=K) (SE.seq (k:=true) (za 7)) YO (YN (za 11)))) zr))) (zc (SF.se (st:=false) (gk (K':=K) (SE.seq (k:=true) (za 8)) YO (YN (zB Zz Zh (za 11) zg)))) zr))) (se_one (zT (K':=K) G'good (hr.mono (by decide)) (by rfl) T.m'good T.F'good.kp T.b'good (zc (zT (K':=K) (FnOk.plain G_ran) (hr.mono (by decide)) (by rfl) T.m_ran T.F_ran.kp T.b_ran (zc (za 2) (zc (za 7) zr))) (zc (za 8) zr)))))))))))))))))))))))))⟩
 exact h
end
end EV
namespace M
open PySem PySem.Spec L2
section
variable {ρ ρ1 ρ2:Ev} {S S1 S2:List D} {d d1 d2:D} {F F':WF} {G:WL} {M1 M2:WM} {f:Ev->Option D}
theorem ZN {r:Option (Out×List D)} (h1:M1 ρ S=some (.nx ρ1,S1)) (h2:M2 ρ1 S1=r):yF M1 M2 ρ S=r:=by unfold yF;rw [h1];exact h2
theorem gj (h1:M1 ρ S=some (.rt d,S1)):yF M1 M2 ρ S=some (.rt d,S1):=by unfold yF;rw [h1];rfl
theorem wH {c:Ev->List D->Option (Bool×List D)} {r:Option (Out×List D)} (h1:c ρ S=some (true,S1)) (h2:M1 ρ S1=r):wIf c M1 M2 ρ S=r:=by unfold wIf;rw [h1];exact h2
theorem YT {c:Ev->List D->Option (Bool×List D)} {r:Option (Out×List D)} (h1:c ρ S=some (false,S1)) (h2:M2 ρ S1=r):wIf c M1 M2 ρ S=r:=by unfold wIf;rw [h1];exact h2
theorem wl_ {α:Type} {g:Ev->Option α} {x:α} (h:g ρ=some x):wL g ρ S=some (x,S):=by unfold wL;rw [h];rfl
theorem yZ {j:Nat} (h:F ρ S=some (d,S1)):jy j F ρ S=some (.nx (ρ.set j (some d)),S1):=by unfold jy;rw [h];rfl
theorem Jb (h:F ρ S=some (d,S1)):J9 F ρ S=some (.rt d,S1):=by unfold J9;rw [h];rfl
theorem Wh (h:F ρ S=some (d,S1)):Jm F ρ S=some (.nx ρ,S1):=by unfold Jm;rw [h];rfl
theorem y2 {i0:Nat} {m:List D->List D->Option (D×List D)} {ds:List D} {r:Option (D×List D)} (h:G ρ S=some (ds,S1)) (h2:m ds S1=r):Ya i0 m G ρ S=r:=by unfold Ya;rw [h];exact h2
theorem Jl {i:Nat} {m:List D->List D->Option (D×List D)} {ds:List D} {r:Option (D×List D)} (h0:ρ[i]?.join=some d) (h:G ρ S=some (ds,S1)) (h2:m (d::ds) S1=r):jz i m G ρ S=r:=by unfold jz;rw [h0];simp only [oB];rw [h];exact h2
theorem zH {ds:List D} (h:F ρ S=some (d,S1)) (h2:G ρ S1=some (ds,S2)):zK F G ρ S=some (d::ds,S2):=by unfold zK;rw [h];simp only [oB];rw [h2];rfl
theorem yw:wL zu ρ S=some ([],S):=rfl
theorem wtup_ {ds:List D} (h:G ρ S=some (ds,S1)) (hl:ds.length<=sizeLine):wTup G ρ S=some (.tup ds,S1):=by
 unfold wTup;rw [h];simp only [oB];unfold JJ;rw [if_pos hl];rfl
theorem wapp_ (h:F ρ S=some (d,S1)) (hl:S1.length<sizeLine):wApp F ρ S=some (.nx ρ,S1++[d]):=by unfold wApp;rw [h];simp only [oB];rw [if_pos hl]
theorem wext_ {es:List D} (h:f ρ=some (.lst es)) (hl:S.length+es.length<=sizeLine):wExt f ρ S=some (.nx ρ,S++es):=by unfold wExt;rw [h];simp only [oB,asL];rw [if_pos hl]
theorem wix_ {k:Int} (h:f ρ=some (.int k)) (h2:atI S k=some d):wIx f ρ S=some (d,S):=by unfold wIx;rw [h];simp only [oB,asI];rw [h2];rfl
theorem wsetix_ {k:Int} {j:Nat} (h:F ρ S=some (d,S1)) (h2:f ρ=some (.int k)) (h3:ixN S1.length k=some j):Wi F f ρ S=some (.nx ρ,S1.set j d):=by
 unfold Wi;rw [h];simp only [oB];rw [h2];simp only [oB,asI];rw [h3];rfl
theorem w2_ {g:D->D->Option D} (h:F ρ S=some (d1,S1)) (h2:F' ρ S1=some (d2,S2)) (h3:g d1 d2=some d):w2 g F F' ρ S=some (d,S2):=by
 unfold w2;rw [h];simp only [oB];rw [h2];simp only [oB];rw [h3];rfl
theorem wtest_ {b:Bool} (h:F ρ S=some (.bl b,S1)):wTest F ρ S=some (b,S1):=by unfold wTest;rw [h];rfl
theorem wixl_ {ds:List D} {k:Int} (h:F ρ S=some (.lst ds,S1)) (h2:f ρ=some (.int k)) (h3:atI ds k=some d):wIxL F f ρ S=some (d,S1):=by
 unfold wIxL;rw [h];simp only [oB,asL];rw [h2];simp only [oB,asI];rw [h3];rfl
theorem wdget_ (h:F ρ S=some (d1,S1)) (h2:f ρ=some d2) (h3:GH d1 d2=some d):wDGet F f ρ S=some (d,S1):=by
 unfold wDGet;rw [h];simp only [oB];rw [h2];simp only [oB];rw [h3];rfl
theorem gF {k n:Nat} {M:WM} {ds:List D} (hl:ds.length=k) (h:M (Za n ds) S=some (.rt d,S1)):jA k n M ds S=some (d,S1):=by unfold jA;rw [if_pos hl,h];rfl
theorem wdef_nx {k n:Nat} {M:WM} {ds:List D} (hl:ds.length=k) (h:M (Za n ds) S=some (.nx ρ1,S1)):jA k n M ds S=some (.non,S1):=by unfold jA;rw [if_pos hl,h];rfl
theorem wfor_ {fi:Ev->Option (List D)} {u:D->Ev->Option Ev} {ds:List D} {r:Option (Out×List D)} (h:fi ρ=some ds) (h2:forW u M1 ds ρ S=r):wFor fi u M1 ρ S=r:=by unfold wFor;rw [h];exact h2
theorem forW_ {α β:Type} (f:α->D) (step:β->α->β) (I:List α->β->Ev->List D->Prop) {u:D->Ev->Option Ev} :
  ∀ (rs:List α),(∀ r Zm b ρ S,r::Zm <:+ rs->I (r::Zm) b ρ S->∃ ρ1 ρ2 S2,u (f r) ρ=some ρ1/\M1 ρ1 S=some (.nx ρ2,S2)/\I Zm (step b r) ρ2 S2)->∀ b ρ S,I rs b ρ S->∃ ρ' S',forW u M1 (rs.map f) ρ S=some (.nx ρ',S')/\I [] (rs.foldl step b) ρ' S'
 | [],h,b,ρ,S,hI=>⟨ρ,S,rfl,hI⟩
 | r::rs,h,b,ρ,S,hI=>by
  obtain ⟨ρ1,ρ2,S2,h1,h2,h3⟩:=h r rs b ρ S (List.suffix_refl _) hI
  obtain ⟨ρ',S',h4,h5⟩:=forW_ f step I rs (fun x Zm b ρ S hs hI=>h x Zm b ρ S (hs.trans (List.suffix_cons _ _)) hI) _ _ _ h3
  refine ⟨ρ',S',?_,h5⟩
  rw [Qq,forW,h1]
  simp only [oB]
  rw [h2]
  exact h4
theorem wfor_fold {α β:Type} (f:α->D) (step:β->α->β) (I:List α->β->Ev->List D->Prop) {fi:Ev->Option (List D)} {u:D->Ev->Option Ev} {r:Option (Out×List D)} (rs:List α) (b:β) (h:fi ρ=some (rs.map f)) (h0:I rs b ρ S)
  (hs:∀ x Zm b ρ S,x::Zm <:+ rs->I (x::Zm) b ρ S->∃ ρ1 ρ2 S2,u (f x) ρ=some ρ1/\M1 ρ1 S=some (.nx ρ2,S2)/\I Zm (step b x) ρ2 S2) (hf:∀ ρ' S',I [] (rs.foldl step b) ρ' S'->M2 ρ' S'=r):yF (wFor fi u M1) M2 ρ S=r:=by
 obtain ⟨ρ',S',h1,h2⟩:=forW_ f step I rs hs b ρ S h0
 exact ZN (wfor_ h h1) (hf ρ' S' h2)
theorem wcomp_ {k:Nat} {fi:Ev->Option (List D)} {u:D->Ev->Option Ev} {ds es:List D} (h:fi ρ=some ds) (h2:Wa u F ds (ρ++List.replicate k none) S=some (es,S1)) (hl:es.length<=sizeLine):wComp k fi u F ρ S=some (.lst es,S1):=by
 unfold wComp;rw [h];simp only [oB];rw [h2];simp only [oB];unfold JK;rw [if_pos hl];rfl
theorem compW_nil {u:D->Ev->Option Ev}:Wa u F [] ρ S=some ([],S):=rfl
theorem GK {u:D->Ev->Option Ev} {ds es:List D} (h:u d ρ=some ρ1) (h2:F ρ1 S=some (d1,S1)) (h3:Wa u F ds ρ1 S1=some (es,S2)):Wa u F (d::ds) ρ S=some (d1::es,S2):=by
 rw [Wa,h];simp only [oB];rw [h2];simp only [oB];rw [h3];rfl
end
end M
namespace RW
open PySem PySem.Spec L2 M
def names:List Str:=["set","take","skip","halt","either","loop","call"]
def Sc:D->Bool
 | .non=>true
 | .bl _=>true
 | .int i=>decide (i.natAbs<=10 ^ 50)
 | .str x=>names.contains x
 | _=>false
def Fi:Nat->D->Prop
 | 0,d=>Sc d=true
 | n+1,d=>Sc d=true\/∃ ds,(d=.tup ds\/d=.lst ds)/\∀ r∈ds,Fi n r
theorem Fi.sc {d:D} (h:Sc d=true):∀ n,Fi n d
 | 0=>h
 | n+1=>.inl h
theorem Fi.up:∀ {n:Nat} {d:D},Fi n d->Fi (n+1) d
 | 0,d,h=>.inl h
 | n+1,d,h=>by
  rcases h with h | ⟨ds,e,h⟩
  ·exact .inl h
  ·exact .inr ⟨ds,e,fun r hr=>(h r hr).up⟩
theorem Fi.mono {n m:Nat} {d:D} (h:Fi n d) (hm:n<=m):Fi m d:=by
  induction m with
  | zero => have e : n = 0 := by omega
            subst e;exact h
  | succ m ih =>
    by_cases e:n=m+1
    · subst e;exact h
    · exact (ih (by omega)).up
theorem Fi.int {i:Int} (h:i.natAbs<=10 ^ 50) (n:Nat):Fi n (.int i):=Fi.sc (d:=.int i) (decide_eq_true h) n
theorem Fi.str {x:Str} (h:names.contains x=true) (n:Nat):Fi n (.str x):=Fi.sc (d:=.str x) h n
theorem names_ok:names.all PyData.strOk=true:=by decide +kernel
theorem sc_lay {d:D} (h:Sc d=true):(yd d).canLay0=true/\(yd d).depth=0:=by
 cases d with
 | str x =>
  refine ⟨?_,by simp only [yd];rw [PyData.depth]⟩
  simp only [yd]
  rw [PyData.canLay0]
  exact List.all_eq_true.mp names_ok x (by simpa [Sc] using h)
 | non=>exact ⟨by simp only [yd];rw [PyData.canLay0],by simp only [yd];rw [PyData.depth]⟩
 | bl b=>exact ⟨by simp only [yd];rw [PyData.canLay0],by simp only [yd];rw [PyData.depth]⟩
 | int i=>exact ⟨by simp only [yd];rw [PyData.canLay0],by simp only [yd];rw [PyData.depth]⟩
 | _=>cases h
theorem jo:∀ {ds:List D} {k:Nat},(∀ r∈ds,(yd r).canLay0=true/\(yd r).depth<=k)->PyData.canLayAll0 (yx ds)=true/\PyData.depthAll (yx ds)<=k
 | [],k,_=>⟨by rw [yx,PyData.canLayAll0],by rw [yx,PyData.depthAll];omega⟩
 | d::ds,k,h=>by
  obtain ⟨h1,h2⟩:=h d Qt
  obtain ⟨h3,h4⟩:=jo fun r hr=>h r (Qd _ hr)
  rw [yx,PyData.canLayAll0,PyData.depthAll,h1,h3]
  exact ⟨rfl,by omega⟩
theorem Fi.lay:∀ {n:Nat} {d:D},Fi n d->(yd d).canLay0=true/\(yd d).depth<=n
 | 0,d,h=>⟨(sc_lay h).1,by rw [(sc_lay h).2];omega⟩
 | n+1,d,h=>by
  rcases h with h | ⟨ds,rfl | rfl,h⟩
  ·exact ⟨(sc_lay h).1,by rw [(sc_lay h).2];omega⟩
  ·obtain ⟨h1,h2⟩:=jo fun r hr=>(h r hr).lay
   rw [yd,PyData.canLay0,PyData.depth]
   exact ⟨h1,by omega⟩
  ·obtain ⟨h1,h2⟩:=jo fun r hr=>(h r hr).lay
   rw [yd,PyData.canLay0,PyData.depth]
   exact ⟨h1,by omega⟩
mutual
def wt:D->Nat
 | .tup ds=>wts ds
 | .lst ds=>wts ds
 | _=>8
def wts:List D->Nat
 | []=>0
 | d::ds=>wt d+1+wts ds
end
theorem wF:∀ a b:List D,wts (a++b)=wts a+wts b
 | [],b=>by rw [Pn,wts];omega
 | d::a,b=>by rw [PD,wts,wts,wF a b];omega
def Py (n:Nat) (d:D):Prop:=(yd d).canLay0=true/\(yd d).depth<=n
theorem Fi.pyd {n:Nat} {d:D} (h:Fi n d):Py n d:=h.lay
theorem Py.mono {n m:Nat} {d:D} (h:Py n d) (hm:n<=m):Py m d:=⟨h.1,Qw h.2 hm⟩
theorem Py.int (i:Int) (n:Nat):Py n (.int i):=⟨by rw [yd,PyData.canLay0],by rw [yd,PyData.depth];omega⟩
theorem Py.tup {n:Nat} {ds:List D} (h:∀ r∈ds,Py n r):Py (n+1) (.tup ds):=by
 obtain ⟨h1,h2⟩:=jo h
 unfold Py
 rw [yd,PyData.canLay0,PyData.depth]
 exact ⟨h1,by omega⟩
theorem Py.lst {n:Nat} {ds:List D} (h:∀ r∈ds,Py n r):Py (n+1) (.lst ds):=by
 obtain ⟨h1,h2⟩:=jo h
 unfold Py
 rw [yd,PyData.canLay0,PyData.depth]
 exact ⟨h1,by omega⟩
theorem Py.eq {n:Nat} {d:D} (h:Py n d) (hn:n<=64):WH d d=some (.bl true):=by
 have hp:jF d=true:=by
  unfold jF SeqAt.shaped
  rw [h.1,decide_eq_true (Qw h.2 hn)];rfl
 unfold WH
 rw [if_pos ⟨hp,hp⟩,eqD_self hp]
end RW
namespace EV
open PySem PySem.Spec L2 M
variable {mm:Nat}
inductive Rq where
 | one (x:Str) (ps:List D) | call (k:Nat) | loop (rs:List Rq) | either (a b:List Rq)
mutual
def Rq.toD:Rq->D
 | .one x ps=>.tup (.str x::ps)
 | .call k=>.tup [.str "call",.int (k:Nat)]
 | .loop rs=>.tup [.str "loop",.lst (qDs rs)]
 | .either a b=>.tup [.str "either",.lst (qDs a),.lst (qDs b)]
def qDs:List Rq->List D
 | []=>[]
 | r::rs=>r.toD::qDs rs
end
theorem gt:∀ rs:List Rq,qDs rs=rs.map Rq.toD
 | []=>by simp [qDs]
 | r::rs=>by simp [qDs,gt rs]
def Lf:D->Bool
 | .int _=>true
 | .tup _=>true
 | _=>false
def Dk (mm:Nat) (x:Str) (ps:List D):Prop:=(x="skip"/\ps=[])\/(x="halt"/\ps=[])\/(∃ box:Nat,x="take"/\ps=[.int box]/\box<mm) \/
 ∃ (box:Nat) (ns:List Int),x="set"/\ps=[.int box,.tup (ns.map .int)]/\box<mm/\ns.length=mm+1/\∀ n∈ns,n.natAbs<=2000000
mutual
def Rq.ok (mm nb:Nat):Rq->Prop
 | .one x ps=>(x≠"call"/\x≠"loop"/\x≠"either")/\ps.length<=10/\(∀ p∈ps,Lf p=true)/\RW.Py 5 (.tup (.str x::ps))/\Dk mm x ps
 | .call k=>k<nb
 | .loop rs=>oks mm nb rs/\rs.length<=100
 | .either a b=>(oks mm nb a/\a.length<=100)/\oks mm nb b/\b.length<=100
def oks (mm nb:Nat):List Rq->Prop
 | []=>True
 | r::rs=>r.ok mm nb/\oks mm nb rs
end
mutual
def Rq.rk (g:Nat->Nat):Rq->Nat
 | .one _ _=>0
 | .call k=>g k+1
 | .loop rs=>rks g rs+1
 | .either a b=>max (rks g a) (rks g b)+1
def rks (g:Nat->Nat):List Rq->Nat
 | []=>0
 | r::rs=>max (r.rk g) (rks g rs)
end
mutual
def Rq.sz (G:Nat->Nat):Rq->Nat
 | .one _ _=>1
 | .call k=>G k
 | .loop rs=>2+szs G rs
 | .either a b=>2+(szs G a+szs G b)
def szs (G:Nat->Nat):List Rq->Nat
 | []=>0
 | r::rs=>r.sz G+szs G rs
end
abbrev Sx:=Int×List D
def skD:D:=.tup [.str "skip"]
def stp (p q:Int) (d:D):D:=.tup [.int p,.int q,d]
def Zc (f:List Rq->Int->Sx->Int×Sx) (B:Nat->List Rq) (q:Int×Sx) (r:Rq):Int×Sx:=match r with
 | .call k=>f (B k) q.1 q.2
 | .either a b=>let x:=f a q.1 q.2;let y:=f b q.1 x.2;(y.2.1,(y.2.1+1,y.2.2++[stp x.1 y.2.1 skD,stp y.1 y.2.1 skD]))
 | .loop a=>let x:=f a q.2.1 (q.2.1+1,q.2.2++[stp q.1 q.2.1 skD]);(q.2.1,(x.2.1,x.2.2++[stp x.1 q.2.1 skD]))
 | .one x ps=>(q.2.1,(q.2.1+1,if x="halt" then q.2.2 else q.2.2++[stp q.1 q.2.1 (.tup (.str x::ps))]))
def lyS (B:Nat->List Rq):Nat->List Rq->Int->Sx->Int×Sx
 | 0=>fun _ p s=>(p,s)
 | m+1=>fun rs p s=>rs.foldl (Zc (lyS B m) B) (p,s)
structure Bods (mm:Nat) (B:Nat->List Rq) (nb:Nat) (g G:Nat->Nat):Prop where
 ok:∀ k,k<nb->oks mm nb (B k)
 len:∀ k,k<nb->(B k).length<=100
 rk:∀ k,k<nb->rks g (B k)<=g k
 sz:∀ k,k<nb->szs G (B k)<=G k
def Z3 (B:Nat->List Rq) (nb:Nat):D:=.lst ((List.range nb).map fun k=>.lst (qDs (B k)))
theorem gA {B:Nat->List Rq} {nb k:Nat} (h:k<nb):atI ((List.range nb).map fun k=>D.lst (qDs (B k))) (k:Int)=some (.lst (qDs (B k))):=zD (by simp [h])
theorem rks_mem {g:Nat->Nat}:∀ {rs:List Rq} {r:Rq},r∈rs->r.rk g<=rks g rs
 | x::rs,r,h=>by
  rw [rks]
  rcases Qb.mp h with rfl | h
  ·omega
  ·have:=rks_mem (g:=g) h;omega
theorem gv {nb:Nat}:∀ {rs:List Rq} {r:Rq},oks mm nb rs->r∈rs->r.ok mm nb
 | x::rs,r,o,h=>by
  rw [oks] at o
  rcases Qb.mp h with rfl | h
  ·exact o.1
  ·exact gv o.2 h
section
variable {B:Nat->List Rq} {nb:Nat} {g G:Nat->Nat}
theorem Yr (hB:Bods mm B nb g G):∀ (m:Nat) (rs:List Rq) (p:Int) (s:Sx),oks mm nb rs->(lyS B m rs p s).2.2.length<=s.2.length+szs G rs
 | 0,rs,p,s,_=>by rw [lyS];exact Q4 _ _
 | m+1,rs,p,s,ho=>by
  rw [lyS]
  suffices h:∀ (rs:List Rq) (q:Int×Sx),oks mm nb rs->(rs.foldl (Zc (lyS B m) B) q).2.2.length<=q.2.2.length+szs G rs from h rs (p,s) ho
  intro rs
  induction rs with
  | nil=>intro q _;simp [szs]
  | cons r rs ih =>
   intro q ho
   rw [oks] at ho
   rw [PZ,szs]
   have h1:=ih (Zc (lyS B m) B q r) ho.2
   have h2:(Zc (lyS B m) B q r).2.2.length<=q.2.2.length+r.sz G:=by
    cases r with
    | one x ps =>
     simp only [Zc,Rq.sz]
     split
     ·omega
     ·simp
    | call k =>
     simp only [Zc,Rq.sz]
     have hk:k<nb:=by have:=ho.1;rwa [Rq.ok] at this
     have h3:=Yr hB m (B k) q.1 q.2 (hB.ok k hk)
     have h4:=hB.sz k hk
     omega
    | loop a =>
     have o:=ho.1
     rw [Rq.ok] at o
     simp only [Zc,Rq.sz]
     have h3:=Yr hB m a q.2.1 (q.2.1+1,q.2.2++[stp q.1 q.2.1 skD]) o.1
     simp only [Qi,Qe,Qz] at h3 ⊢
     omega
    | either a b =>
     have o:=ho.1
     rw [Rq.ok] at o
     simp only [Zc,Rq.sz]
     have h3:=Yr hB m a q.1 q.2 o.1.1
     have h4:=Yr hB m b q.1 (lyS B m a q.1 q.2).2 o.2.1
     simp only [Qi,Qe,Qz] at h3 h4 ⊢
     omega
   omega
end
theorem size9 {n:Nat} (h:n<=1000000):n<=sizeLine:=Qw h (by decide)
theorem size8 {n:Nat} (h:n<=1000000):n<sizeLine:=Q7 h (by decide)
theorem zL {ρ:Ev} {i:Nat} {d:D} (h:ρ[i]?=some (some d)):zb i ρ=some d:=by unfold zb;rw [h];rfl
theorem eq_t {x:Str}:ZS (.str x) (.str x)=some (.bl true):=by unfold ZS;rw [eqS,decide_eq_true rfl];rfl
theorem eq_f {x y:Str} (h:x≠y):ZS (.str x) (.str y)=some (.bl false):=by unfold ZS;rw [eqS,decide_eq_false h];rfl
theorem ne_t {x y:Str} (h:x≠y):jM (.str x) (.str y)=some (.bl true):=by unfold jM;rw [eqS,decide_eq_false h];rfl
theorem ne_f {x:Str}:jM (.str x) (.str x)=some (.bl false):=by unfold jM;rw [eqS,decide_eq_true rfl];rfl
theorem Jg {ρ:Ev} {i:Nat} {x:Str} {ps:List D} (h:ρ[i]?=some (some (.tup (.str x::ps)))):fIx (zm false (zb i)) (fC (.int 0)) ρ=some (.str x):=Zr (ZQ (zL h)) rfl (zD (j:=0) rfl)
theorem kis {ρ:Ev} {i:Nat} {x:Str} {ps:List D} (h:ρ[i]?=some (some (.tup (.str x::ps)))):zG (f2 ZS (fIx (zm false (zb i)) (fC (.int 0))) (fC (.str x))) ρ=some true:=zW (f2v (Jg h) rfl eq_t)
theorem kno {ρ:Ev} {i:Nat} {x y:Str} {ps:List D} (h:ρ[i]?=some (some (.tup (.str x::ps)))) (n:x≠y):zG (f2 ZS (fIx (zm false (zb i)) (fC (.int 0))) (fC (.str y))) ρ=some false:=zW (f2v (Jg h) rfl (eq_f n))
theorem skv {ρ:Ev}:Zo (zf (fC (.str "skip")) zu) ρ=some skD:=tup1_ rfl
theorem J0 {ρ:Ev} {f f' f'':Ev->Option D} {d d' d'':D} (e:f ρ=some d) (e':f' ρ=some d') (e'':f'' ρ=some d''):Zo (zf f (zf f' (zf f'' zu))) ρ=some (.tup [d,d',d'']):=by
 rw [fTup_,ZJ,e,oB,ZJ,e',oB,ZJ,e''];exact dTup_ (yg (by simp))
theorem Ys {a b:Int}:ZY (.int a) (.int b)=some (.int (a+b)):=rfl
abbrev evL (rs:D) (p:Int) (bs:D) (a:Addr) (x4 x5 x6:Option D):Ev:=[some rs,some (.int p),some bs,some (.adr a),x4,x5,x6]
section
variable {B:Nat->List Rq} {nb:Nat} {g G:Nat->Nat}
def LawAt (R:List D->List D->Option (D×List D)) (B:Nat->List Rq) (nb:Nat) (G:Nat->Nat) (m:Nat) (a:Addr) (x:List Rq):Prop:=∀ (p:Int) (s:Sx),s.2.length+szs G x<=900000->R [.lst (qDs x),.int p,Z3 B nb,.adr a] (.int s.1::s.2)=some (.int (lyS B m x p s).1,.int (lyS B m x p s).2.1::(lyS B m x p s).2.2)
theorem law_step (hB:Bods mm B nb g G) {n m:Nat} {a:Addr} (ih:∀ x,oks mm nb x->rks g x<m->LawAt (W3 n) B nb G m a x) (rs:List Rq) (ho:oks mm nb rs) (hr:rks g rs<m+1):LawAt (W3 (n+1)) B nb G (m+1) a rs:=by
 intro p s hl
 rw [W3]
 refine gF rfl ?_
 unfold b'lay
 refine wfor_fold Rq.toD (Zc (lyS B m) B) (fun Zm q ρ S=>∃ x4 x5 x6,ρ=evL (.lst (qDs rs)) q.1 (Z3 B nb) a x4 x5 x6/\S=.int q.2.1::q.2.2/\oks mm nb Zm/\rks g Zm<m+1/\q.2.2.length+szs G Zm<=900000) rs (p,s) (by rw [<- gt];exact Z9 (zL rfl)) ⟨none,none,none,rfl,rfl,ho,hr,hl⟩ ?_ ?_
 ·rintro r Zm ⟨q,c,st⟩ ρ S _ ⟨x4,x5,x6,rfl,rfl,o,hk,hz⟩
  rw [oks] at o
  rw [rks] at hk
  rw [szs] at hz
  dsimp only at hz
  have fin:∀ {q':Int×Sx} {y4 y5 y6:Option D},q'.2.2.length<=st.length+r.sz G->∃ x4 x5 x6,evL (.lst (qDs rs)) q'.1 (Z3 B nb) a y4 y5 y6=evL (.lst (qDs rs)) q'.1 (Z3 B nb) a x4 x5 x6/\(D.int q'.2.1::q'.2.2)=.int q'.2.1::q'.2.2/\oks mm nb Zm/\rks g Zm<m+1/\q'.2.2.length+szs G Zm<=900000:=fun h=>⟨_,_,_,rfl,rfl,o.2,by omega,by omega⟩
  cases r with
  | call k =>
   have hkn:k<nb:=by have:=o.1;rwa [Rq.ok] at this
   have hg:=hB.rk k hkn
   have hG:=hB.sz k hkn
   have hlen:=Yr hB m (B k) q (c,st) (hB.ok k hkn)
   rw [Rq.rk] at hk
   rw [Rq.sz] at hz fin
   have key:=ih (B k) (hB.ok k hkn) (by omega) q (c,st) (by show st.length+_<=_;omega)
   refine ⟨_,evL (.lst (qDs rs)) (Zc (lyS B m) B (q,c,st) (.call k)).1 (Z3 B nb) a (some (Rq.call k).toD) x5 x6,.int (Zc (lyS B m) B (q,c,st) (.call k)).2.1::(Zc (lyS B m) B (q,c,st) (.call k)).2.2,rfl,?_,fin (q':=Zc (lyS B m) B (q,c,st) (.call k)) (by simp only [Zc];dsimp only at hlen;omega)⟩
   rw [Rq.toD]
   exact wH (wl_ (kis rfl)) (yZ (y2 (zH (wl_ (Zr (Z9 (zL rfl)) (Zr (ZQ (zL rfl)) rfl (zD (j:=1) rfl)) (gA hkn))) (zH (wl_ (zL rfl)) (zH (wl_ (zL rfl)) (zH (wl_ (zL rfl)) yw)))) key))
  | either x y =>
   have o1:=o.1
   rw [Rq.ok] at o1
   rw [Rq.rk] at hk
   rw [Rq.sz] at hz fin
   have l1:=Yr hB m x q (c,st) o1.1.1
   have l2:=Yr hB m y q (lyS B m x q (c,st)).2 o1.2.1
   have k1:=ih x o1.1.1 (by omega) q (c,st) (by show st.length+_<=_;omega)
   have k2:=ih y o1.2.1 (by omega) q (lyS B m x q (c,st)).2 (by dsimp only at l1;omega)
   refine ⟨_,evL (.lst (qDs rs)) (Zc (lyS B m) B (q,c,st) (.either x y)).1 (Z3 B nb) a (some (Rq.either x y).toD) (some (.lst [.int (lyS B m x q (c,st)).1,.int (lyS B m y q (lyS B m x q (c,st)).2).1])) x6,.int (Zc (lyS B m) B (q,c,st) (.either x y)).2.1::(Zc (lyS B m) B (q,c,st) (.either x y)).2.2,rfl,?_,fin (q':=Zc (lyS B m) B (q,c,st) (.either x y)) (by simp only [Zc,Qi,Qe,Qz];dsimp only at l1 l2;omega)⟩
   rw [Rq.toD]
   refine YT (wl_ (kno rfl (by decide))) (wH (wl_ (kis rfl)) (ZN (yZ (wcomp_ (es:=[.int (lyS B m x q (c,st)).1,.int (lyS B m y q (lyS B m x q (c,st)).2).1]) (ZQ (cutFrom_ (k:=1) (ZQ (zL rfl)) rfl (by omega) (by simp))) (GK rfl (y2 (zH (wl_ (zL rfl)) (zH (wl_ (zL rfl)) (zH (wl_ (zL rfl)) (zH (wl_ (zL rfl)) yw)))) k1) (GK rfl (y2 (zH (wl_ (zL rfl)) (zH (wl_ (zL rfl)) (zH (wl_ (zL rfl)) (zH (wl_ (zL rfl)) yw)))) k2) compW_nil)) (yg (by simp)))) ?_))
   refine ZN (yZ (wix_ rfl (zD (j:=0) rfl))) (ZN (wsetix_ (w2_ (wix_ rfl (zD (j:=0) rfl)) (wl_ rfl) Ys) rfl (ixN_nat (k:=0) (by simp))) ?_)
   refine (wext_ (es:=[stp (lyS B m x q (c,st)).1 (lyS B m y q (lyS B m x q (c,st)).2).2.1 skD,stp (lyS B m y q (lyS B m x q (c,st)).2).1 (lyS B m y q (lyS B m x q (c,st)).2).2.1 skD]) ?_ ?_).trans ?_
   ·rw [Wz,Z9 (zL rfl),oB]
    simp only [Yh,zZ,jc,oB,if_true]
    rw [J0 (zL rfl) (zL rfl) skv,oB,J0 (zL rfl) (zL rfl) skv]
    rfl
   ·refine yg ?_
    simp only [Qo,Qe,Qz]
    dsimp only at l1 l2
    omega
   ·rfl
  | loop x =>
   have o1:=o.1
   rw [Rq.ok] at o1
   rw [Rq.rk] at hk
   rw [Rq.sz] at hz fin
   have l1:=Yr hB m x c (c+1,st++[stp q c skD]) o1.1
   simp only [Qi,Qe,Qz] at l1
   have k1:=ih x o1.1 (by omega) c (c+1,st++[stp q c skD]) (by simp only [Qi,Qe,Qz];omega)
   refine ⟨_,evL (.lst (qDs rs)) (Zc (lyS B m) B (q,c,st) (.loop x)).1 (Z3 B nb) a (some (Rq.loop x).toD) x5 (some (.int q)),.int (Zc (lyS B m) B (q,c,st) (.loop x)).2.1::(Zc (lyS B m) B (q,c,st) (.loop x)).2.2,rfl,?_,fin (q':=Zc (lyS B m) B (q,c,st) (.loop x)) (by simp only [Zc,Qi,Qe,Qz];omega)⟩
   rw [Rq.toD]
   refine YT (wl_ (kno rfl (by decide))) (YT (wl_ (kno rfl (by decide))) (ZN (yZ (wl_ (zL rfl))) (ZN (yZ (wix_ rfl (zD (j:=0) rfl))) (ZN (wsetix_ (w2_ (wix_ rfl (zD (j:=0) rfl)) (wl_ rfl) Ys) rfl (ixN_nat (k:=0) (by simp))) (wH (wl_ (kis rfl)) ?_)))))
   refine ZN (wapp_ (wl_ (J0 (zL rfl) (zL rfl) skv)) (jg (by simp only [Qo,Qe];omega))) ?_
   exact wapp_ (wtup_ (zH (y2 (zH (wl_ (Zr (ZQ (zL rfl)) rfl (zD (j:=1) rfl))) (zH (wl_ (zL rfl)) (zH (wl_ (zL rfl)) (zH (wl_ (zL rfl)) yw)))) k1) (zH (wl_ (zL rfl)) (zH (wl_ skv) yw))) (yg (by simp))) (jg (by simp only [Qe];omega))
  | one x ps =>
   have o1:=o.1
   rw [Rq.ok] at o1
   obtain ⟨⟨n1,n2,n3⟩,_,_⟩:=o1
   rw [Rq.sz] at hz fin
   refine ⟨_,evL (.lst (qDs rs)) (Zc (lyS B m) B (q,c,st) (.one x ps)).1 (Z3 B nb) a (some (Rq.one x ps).toD) x5 (some (.int q)),.int (Zc (lyS B m) B (q,c,st) (.one x ps)).2.1::(Zc (lyS B m) B (q,c,st) (.one x ps)).2.2,rfl,?_,fin (q':=Zc (lyS B m) B (q,c,st) (.one x ps)) (by simp only [Zc];split <;> simp)⟩
   rw [Rq.toD]
   refine YT (wl_ (kno rfl n1)) (YT (wl_ (kno rfl n3)) (ZN (yZ (wl_ (zL rfl))) (ZN (yZ (wix_ rfl (zD (j:=0) rfl))) (ZN (wsetix_ (w2_ (wix_ rfl (zD (j:=0) rfl)) (wl_ rfl) Ys) rfl (ixN_nat (k:=0) (by simp))) (YT (wl_ (kno rfl n2)) ?_)))))
   by_cases e:x="halt"
   ·refine YT (wl_ (zW (f2v (Jg rfl) rfl ?_))) ?_
    ·rw [e];exact ne_f
    ·simp only [Zc];rw [if_pos e];rfl
   ·refine wH (wl_ (zW (f2v (Jg rfl) rfl (ne_t e)))) ((wapp_ (wl_ (J0 (zL rfl) (zL rfl) (zL rfl))) (jg (by simp only [Qo,Qe];omega))).trans ?_)
    simp only [Zc]
    rw [if_neg e]
    rfl
 ·rintro ρ' S' ⟨x4,x5,x6,rfl,rfl,_,_,_⟩
  exact Jb (wl_ (zL rfl))
theorem law_all (hB:Bods mm B nb g G) {a:Addr}:∀ (m n:Nat),m<=n->∀ rs,oks mm nb rs->rks g rs<m->LawAt (W3 n) B nb G m a rs
 | 0,n,_,rs,_,h=>by omega
 | m+1,0,h,rs,_,_=>by omega
 | m+1,n+1,h,rs,ho,hr=>law_step hB (law_all hB m n (by omega)) rs ho hr
end
variable {mm:Nat}
theorem j5 {a:Addr} {c:Int} {r:List D}:ZP [.adr a] (.int c::r)=some (.int c,.int (c+1)::r):=by
 refine gF rfl ?_
 unfold b_new_place
 refine ZN (S1:=.int (c+1)::r) rfl (Jb (w2_ (d1:=.int (c+1)) (d2:=.int 1) rfl (wl_ rfl) ?_))
 show some (D.int (c+1 - 1))=some (.int c)
 rw [show c+1 - 1=c by omega]
theorem YD {a:Addr} {p q:Int} {d:D} {S:List D} (h:S.length<=1000000):ZM [.adr a,.int p,.int q,d] S=some (.non,S++[stp p q d]):=by
 refine wdef_nx rfl (ρ1:=Za 4 [.adr a,.int p,.int q,d]) ?_
 unfold b_add_step wStep
 rw [J0 (d:=.int p) (d':=.int q) (d'':=d) rfl rfl rfl]
 simp only [oB]
 rw [if_pos (jg h)]
 rfl
theorem E_lay_rows (n:Nat):(zh (n+1)).1=jA 3 5 (b_lay_rows (zh n).1 (zh n).2.1 (zh n).2.2.1 (zh n).2.2.2.1 (zh n).2.2.2.2):=by rw [zh]
theorem E_lay_row (n:Nat):(zh (n+1)).2.1=jA 3 5 (b_lay_row (zh n).1 (zh n).2.1 (zh n).2.2.1 (zh n).2.2.2.1 (zh n).2.2.2.2):=by rw [zh]
theorem E_lay_either (n:Nat):(zh (n+1)).2.2.1=jA 3 6 (b_lay_either (zh n).1 (zh n).2.1 (zh n).2.2.1 (zh n).2.2.2.1 (zh n).2.2.2.2):=by rw [zh]
theorem E_lay_loop (n:Nat):(zh (n+1)).2.2.2.1=jA 3 4 (b_lay_loop (zh n).1 (zh n).2.1 (zh n).2.2.1 (zh n).2.2.2.1 (zh n).2.2.2.2):=by rw [zh]
theorem E_lay_call (n:Nat):(zh (n+1)).2.2.2.2=jA 3 3 (b_lay_call (zh n).1 (zh n).2.1 (zh n).2.2.1 (zh n).2.2.2.1 (zh n).2.2.2.2):=by rw [zh]
section
variable {B:Nat->List Rq} {nb:Nat} {g G:Nat->Nat} {N:Nat->Int} {l:D}
def LayAt (R:List D->List D->Option (D×List D)) (B:Nat->List Rq) (nb:Nat) (G:Nat->Nat) (l:D) (m:Nat) (a:Addr) (x:List Rq):Prop:=∀ (p:Int) (s:Sx),s.2.length+szs G x<=900000->R [.adr a,.lst (qDs x),.int p] (.int s.1::Z3 B nb::l::s.2)=some (.int (lyS B m x p s).1,.int (lyS B m x p s).2.1::Z3 B nb::l::(lyS B m x p s).2.2)
structure Lay (B:Nat->List Rq) (nb:Nat) (N:Nat->Int) (l:D):Prop where
 get:∀ k,k<nb->GH l (.int (k:Nat))=some (.int (N k))
 zero:∀ k,k<nb->N k=0->∀ m p s,lyS B m (B k) p s=(p,s)
theorem lay_row_ok (hB:Bods mm B nb g G) (hL:Lay B nb N l) {n m:Nat} {a:Addr} (ih:∀ x,oks mm nb x->rks g x<m->LayAt (zh n).1 B nb G l m a x) (r:Rq) (ho:r.ok mm nb) (hr:r.rk g<m+1) (p:Int) (s:Sx) (hl:s.2.length+r.sz G<=900000) :
  (zh (n+2)).2.1 [.adr a,r.toD,.int p] (.int s.1::Z3 B nb::l::s.2)=some (.int (Zc (lyS B m) B (p,s) r).1,.int (Zc (lyS B m) B (p,s) r).2.1::Z3 B nb::l::(Zc (lyS B m) B (p,s) r).2.2):=by
 obtain ⟨c,st⟩:=s
 dsimp only at hl
 rw [E_lay_row]
 refine gF rfl ?_
 unfold b_lay_row
 have isK:∀ {x:Str} {ps:List D} {ρ:Ev},ρ[3]?=some (some (.str x))->zG (f2 ZS (zb 3) (fC (.str x))) ρ=some true:=fun h=>zW (f2v (zL h) rfl eq_t)
 have noK:∀ {x y:Str} {ρ:Ev},ρ[3]?=some (some (.str x))->x≠y->zG (f2 ZS (zb 3) (fC (.str y))) ρ=some false:=fun h e=>zW (f2v (zL h) rfl (eq_f e))
 cases r with
 | either x y =>
  rw [Rq.ok] at ho
  rw [Rq.rk] at hr
  rw [Rq.sz] at hl
  have l1:=Yr hB m x p (c,st) ho.1.1
  have l2:=Yr hB m y p (lyS B m x p (c,st)).2 ho.2.1
  dsimp only at l1
  have k1:=ih x ho.1.1 (by omega) p (c,st) (by show st.length+_<=_;omega)
  have k2:=ih y ho.2.1 (by omega) p (lyS B m x p (c,st)).2 (by omega)
  rw [Rq.toD]
  refine ZN (yZ (wl_ (Jg rfl))) (gj (wH (wl_ (isK (ps:=[]) rfl)) (Jb (y2 (zH (wl_ (zL rfl)) (zH (wl_ (zL rfl)) (zH (wl_ (zL rfl)) yw))) ?_))))
  rw [E_lay_either]
  refine gF rfl ?_
  unfold b_lay_either
  refine ZN (yZ (y2 (zH (wl_ (zL rfl)) (zH (wl_ (Zr (ZQ (zL rfl)) rfl (zD (j:=1) rfl))) (zH (wl_ (zL rfl)) yw))) k1)) ?_
  refine ZN (yZ (y2 (zH (wl_ (zL rfl)) (zH (wl_ (Zr (ZQ (zL rfl)) rfl (zD (j:=2) rfl))) (zH (wl_ (zL rfl)) yw))) k2)) ?_
  refine ZN (yZ (Jl (d:=.adr a) rfl yw j5)) ?_
  refine ZN (Wh (Jl (d:=.adr a) rfl (zH (wl_ (zL rfl)) (zH (wl_ (zL rfl)) (zH (wl_ rfl) yw))) (YD (by simp only [Qe];omega)))) ?_
  refine ZN (Wh (Jl (d:=.adr a) rfl (zH (wl_ (zL rfl)) (zH (wl_ (zL rfl)) (zH (wl_ rfl) yw))) (YD (by simp only [Qi,Qe,Qz];omega)))) ?_
  refine (Jb (wl_ (zL rfl))).trans ?_
  simp only [Zc,PD,PQ,Pn]
  rfl
 | loop x =>
  rw [Rq.ok] at ho
  rw [Rq.rk] at hr
  rw [Rq.sz] at hl
  have l1:=Yr hB m x c (c+1,st++[stp p c skD]) ho.1
  simp only [Qi,Qe,Qz] at l1
  have k1:=ih x ho.1 (by omega) c (c+1,st++[stp p c skD]) (by simp only [Qi,Qe,Qz];omega)
  rw [Rq.toD]
  refine ZN (yZ (wl_ (Jg rfl))) (ZN (YT (wl_ (noK rfl (by decide))) rfl) (gj (wH (wl_ (isK (ps:=[]) rfl)) (Jb (y2 (zH (wl_ (zL rfl)) (zH (wl_ (zL rfl)) (zH (wl_ (zL rfl)) yw))) ?_)))))
  rw [E_lay_loop]
  refine gF rfl ?_
  unfold b_lay_loop
  refine ZN (yZ (Jl (d:=.adr a) rfl yw j5)) ?_
  refine ZN (Wh (Jl (d:=.adr a) rfl (zH (wl_ (zL rfl)) (zH (wl_ (zL rfl)) (zH (wl_ rfl) yw))) (YD (by simp only [Qe];omega)))) ?_
  refine ZN (Wh (Jl (d:=.adr a) rfl (zH (y2 (zH (wl_ (zL rfl)) (zH (wl_ (Zr (ZQ (zL rfl)) rfl (zD (j:=1) rfl))) (zH (wl_ (zL rfl)) yw))) k1) (zH (wl_ (zL rfl)) (zH (wl_ rfl) yw))) (YD (by simp only [Qe];omega)))) ?_
  exact Jb (wl_ (zL rfl))
 | call k =>
  rw [Rq.ok] at ho
  rw [Rq.rk] at hr
  rw [Rq.sz] at hl
  have hg:=hB.rk k ho
  have hG:=hB.sz k ho
  rw [Rq.toD]
  refine ZN (yZ (wl_ (Jg rfl))) (ZN (YT (wl_ (noK rfl (by decide))) rfl) (ZN (YT (wl_ (noK rfl (by decide))) rfl) (gj (wH (wl_ (isK (ps:=[]) rfl)) (Jb (y2 (zH (wl_ (zL rfl)) (zH (wl_ (zL rfl)) (zH (wl_ (zL rfl)) yw))) ?_))))))
  rw [E_lay_call]
  refine gF rfl ?_
  unfold b_lay_call
  have get:wTest (w2 ZS (wDGet (wFld 2) (fIx (zm false (zb 1)) (fC (.int 1)))) (wL (fC (.int 0)))) (Za 3 [.adr a,.tup [.str "call",.int (k:Nat)],.int p]) (.int c::Z3 B nb::l::st)=some (decide (N k=0),.int c::Z3 B nb::l::st) :=
   wtest_ (w2_ (wdget_ (d1:=l) rfl (Zr (ZQ (zL rfl)) rfl (zD (j:=1) rfl)) (hL.get k ho)) (wl_ rfl) rfl)
  by_cases hz:N k=0
  ·rw [decide_eq_true hz] at get
   refine gj (wH get (Jb (wl_ (zL rfl)))) |>.trans ?_
   simp only [Zc,hL.zero k ho hz]
  ·rw [decide_eq_false hz] at get
   refine ZN (YT get rfl) (Jb (y2 (zH (wl_ (zL rfl)) (zH (wixl_ (ds:=(List.range nb).map fun k=>.lst (qDs (B k))) rfl (Zr (ZQ (zL rfl)) rfl (zD (j:=1) rfl)) (gA ho)) (zH (wl_ (zL rfl)) yw))) (ih (B k) (hB.ok k ho) (by omega) p (c,st) (by show st.length+_<=_;omega))))
 | one x ps =>
  rw [Rq.ok] at ho
  obtain ⟨⟨n1,n2,n3⟩,_,_⟩:=ho
  rw [Rq.sz] at hl
  rw [Rq.toD]
  refine ZN (yZ (wl_ (Jg rfl))) (ZN (YT (wl_ (noK rfl n3)) rfl) (ZN (YT (wl_ (noK rfl n2)) rfl) (ZN (YT (wl_ (noK rfl n1)) rfl) (ZN (yZ (Jl (d:=.adr a) rfl yw j5)) ?_))))
  by_cases e:x="halt"
  ·refine ZN (YT (wl_ (zW (f2v (zL rfl) rfl ?_))) rfl) ((Jb (wl_ (zL rfl))).trans ?_)
   ·rw [e];exact ne_f
   ·simp only [Zc];rw [if_pos e]
  ·refine ZN (wH (wl_ (zW (f2v (zL rfl) rfl (ne_t e)))) (Wh (Jl (d:=.adr a) rfl (zH (wl_ (zL rfl)) (zH (wl_ (zL rfl)) (zH (wl_ (zL rfl)) yw))) (YD (by simp only [Qe];omega))))) ((Jb (wl_ (zL rfl))).trans ?_)
   simp only [Zc]
   rw [if_neg e]
   rfl
theorem lay_step (hB:Bods mm B nb g G) (hL:Lay B nb N l) {n m:Nat} {a:Addr} (ih:∀ x,oks mm nb x->rks g x<m->LayAt (zh n).1 B nb G l m a x) (rs:List Rq) (ho:oks mm nb rs) (hr:rks g rs<m+1):LayAt (zh (n+3)).1 B nb G l (m+1) a rs:=by
 intro p s hl
 rw [E_lay_rows]
 refine gF rfl ?_
 unfold b_lay_rows
 refine ZN (yZ (wl_ (zL rfl))) ?_
 refine wfor_fold Rq.toD (Zc (lyS B m) B) (fun Zm q ρ S=>∃ x4,ρ=[some (.adr a),some (.lst (qDs rs)),some (.int p),some (.int q.1),x4]/\S=.int q.2.1::Z3 B nb::l::q.2.2/\oks mm nb Zm/\rks g Zm<m+1/\q.2.2.length+szs G Zm<=900000) rs (p,s) (by rw [<- gt];exact Z9 (zL rfl)) ⟨none,rfl,rfl,ho,hr,hl⟩ ?_ ?_
 ·rintro r Zm ⟨q,c,st⟩ ρ S _ ⟨x4,rfl,rfl,o,hk,hz⟩
  rw [oks] at o
  rw [rks] at hk
  rw [szs] at hz
  dsimp only at hz
  have key:=lay_row_ok hB hL ih r o.1 (by omega) q (c,st) (by show st.length+_<=_;omega)
  have hlen:(Zc (lyS B m) B (q,c,st) r).2.2.length<=st.length+r.sz G:=by
   have:=Yr hB (m+1) [r] q (c,st) (by rw [oks,oks];exact ⟨o.1,trivial⟩)
   simpa [lyS,szs] using this
  refine ⟨_,[some (.adr a),some (.lst (qDs rs)),some (.int p),some (.int (Zc (lyS B m) B (q,c,st) r).1),some r.toD],.int (Zc (lyS B m) B (q,c,st) r).2.1::Z3 B nb::l::(Zc (lyS B m) B (q,c,st) r).2.2,rfl,?_,⟨_,rfl,rfl,o.2,by omega,by omega⟩⟩
  exact yZ (y2 (zH (wl_ (zL rfl)) (zH (wl_ (zL rfl)) (zH (wl_ (zL rfl)) yw))) key)
 ·rintro ρ' S' ⟨x4,rfl,rfl,_,_,_⟩
  exact Jb (wl_ (zL rfl))
theorem jo (hB:Bods mm B nb g G) (hL:Lay B nb N l) {a:Addr}:∀ (m n:Nat),3*m<=n->∀ rs,oks mm nb rs->rks g rs<m->LayAt (zh n).1 B nb G l m a rs
 | 0,n,_,rs,_,h=>by omega
 | m+1,n,h,rs,ho,hr=>by
  obtain ⟨k,rfl⟩:∃ k,n=k+3:=⟨n - 3,by omega⟩
  exact lay_step hB hL (jo hB hL m k (by omega)) rs ho hr
end
end EV
namespace RW
open PySem L2 M
inductive Rw where
 | skip | halt | call (k:Nat) | loop (rs:List Rw) | either (a b:List Rw)
mutual
def Rw.ht:Rw->Nat
 | .loop rs=>hts rs+1
 | .either a b=>max (hts a) (hts b)+1
 | _=>0
def hts:List Rw->Nat
 | []=>0
 | r::rs=>max r.ht (hts rs)
end
mutual
def Rw.toD:Rw->D
 | .skip=>.tup [.str "skip"]
 | .halt=>.tup [.str "halt"]
 | .call k=>.tup [.str "call",.int (k:Nat)]
 | .loop rs=>.tup [.str "loop",.lst (toDs rs)]
 | .either a b=>.tup [.str "either",.lst (toDs a),.lst (toDs b)]
def toDs:List Rw->List D
 | []=>[]
 | r::rs=>r.toD::toDs rs
end
mutual
def Rw.ok (f l:Nat):Rw->Prop
 | .call k=>f<=k/\k<=l
 | .loop rs=>oks f l rs/\rs.length<=100
 | .either a b=>(oks f l a/\a.length<=100)/\oks f l b/\b.length<=100
 | _=>True
def oks (f l:Nat):List Rw->Prop
 | []=>True
 | r::rs=>r.ok f l/\oks f l rs
end
mutual
def Rw.made:Rw->Int
 | .call _=>0
 | .loop rs=>1+mades rs
 | .either a b=>1+(mades a+mades b)
 | _=>1
def mades:List Rw->Int
 | []=>0
 | r::rs=>r.made+mades rs
end
mutual
def Rw.np (g:Nat->Int):Rw->Int
 | .call k=>g k
 | .loop rs=>1+nps g rs
 | .either a b=>1+(nps g a+nps g b)
 | _=>1
def nps (g:Nat->Int):List Rw->Int
 | []=>0
 | r::rs=>r.np g+nps g rs
end
mutual
def Rw.dp (g:Nat->Int):Rw->Int
 | .call k=>max 1 (g k)
 | .loop rs=>1+dps g rs
 | .either a b=>1+max (dps g a) (dps g b)
 | _=>1
def dps (g:Nat->Int):List Rw->Int
 | []=>0
 | r::rs=>max (r.dp g) (dps g rs)
end
mutual
theorem Gv {g g':Nat->Int} {f l:Nat} (h:∀ k,f<=k->k<=l->g k=g' k):∀ r:Rw,r.ok f l->r.np g=r.np g'/\r.dp g=r.dp g'
 | .skip,_=>by simp [Rw.np,Rw.dp]
 | .halt,_=>by simp [Rw.np,Rw.dp]
 | .call k,o=>by rw [Rw.ok] at o;simp only [Rw.np,Rw.dp,h k o.1 o.2];exact ⟨trivial,trivial⟩
 | .loop rs,o=>by
  rw [Rw.ok] at o
  obtain ⟨h1,h2⟩:=yo h rs o.1
  simp only [Rw.np,Rw.dp,h1,h2];exact ⟨trivial,trivial⟩
 | .either a b,o=>by
  rw [Rw.ok] at o
  obtain ⟨h1,h2⟩:=yo h a o.1.1
  obtain ⟨h3,h4⟩:=yo h b o.2.1
  simp only [Rw.np,Rw.dp,h1,h2,h3,h4];exact ⟨trivial,trivial⟩
theorem yo {g g':Nat->Int} {f l:Nat} (h:∀ k,f<=k->k<=l->g k=g' k):∀ rs:List Rw,oks f l rs->nps g rs=nps g' rs/\dps g rs=dps g' rs
 | [],_=>by simp [nps,dps]
 | r::rs,o=>by
  rw [oks] at o
  obtain ⟨h1,h2⟩:=Gv h r o.1
  obtain ⟨h3,h4⟩:=yo h rs o.2
  simp only [nps,dps,h1,h2,h3,h4];exact ⟨trivial,trivial⟩
end
theorem gw (g:Nat->Int):∀ rs:List Rw,(rs.map (Rw.np g)).sum=nps g rs
 | []=>by simp [nps]
 | r::rs=>by simp [nps,gw g rs]
theorem mulT {a b:Int} (h1:-(2 ^ 64)<b) (h2:b<2 ^ 64):IntMulOk a b:=by
 have:=JX (a:=b) (b:=a) h1 h2
 unfold IntMulOk at *
 rw [Bool.and_comm (decide (Builtin.Int.intBits a > shortFactorBits)),Int.add_comm]
 exact this
theorem J5 (k:Key) (d:D):∀ {ks:List Key} {ds:List D},ks.length=ds.length->Ww ks k=true->yh ks (Wm k d ks ds) k=some d
 | [],ds,h,e=>by simp [Ww] at e
 | k'::ks,[],h,e=>by simp at h
 | k'::ks,x::ds,h,e=>by
  simp only [Wm,yh]
  by_cases hk:k'=k
  ·rw [if_pos hk,if_pos hk]
  ·rw [if_neg hk]
   refine J5 k d (by simpa using h) ?_
   unfold Ww at e ⊢
   rw [Pk,decide_eq_false hk,Bool.false_or] at e
   exact e
theorem WW {k k':Key} (d:D) (hne:k'≠k):∀ {ks:List Key} {ds:List D},yh ks (Wm k d ks ds) k'=yh ks ds k'
 | [],ds=>by simp [yh]
 | q::ks,[]=>by simp [yh,Wm]
 | q::ks,x::ds=>by
  simp only [Wm,yh]
  by_cases hq:q=k'
  ·rw [if_pos hq,if_pos hq,if_neg (fun z=>hne (hq.symm.trans z))]
  ·rw [if_neg hq,if_neg hq]
   exact WW d hne
theorem look_app {k':Key}:∀ {ks:List Key} {ds:List D} {ks2:List Key} {ds2:List D},ks.length=ds.length->yh (ks++ks2) (ds++ds2) k'=(yh ks ds k').or (yh ks2 ds2 k')
 | [],[],ks2,ds2,h=>by simp [yh]
 | [],x::ds,ks2,ds2,h=>by simp at h
 | q::ks,[],ks2,ds2,h=>by simp at h
 | q::ks,x::ds,ks2,ds2,h=>by
  simp only [PD,yh]
  by_cases hq:q=k'
  ·rw [if_pos hq,if_pos hq];rfl
  ·rw [if_neg hq,if_neg hq];exact look_app (by simpa using h)
theorem Ws {k:Key}:∀ {ks:List Key} {ds:List D},Ww ks k=false->yh ks ds k=none
 | [],ds,h=>by simp [yh]
 | q::ks,[],h=>by simp [yh]
 | q::ks,x::ds,h=>by
  unfold Ww at h
  rw [Pk,P5] at h
  simp only [yh]
  rw [if_neg (by simpa using h.1)]
  exact Ws h.2
theorem rep_len (k:Key) (d:D):∀ {ks:List Key} {ds:List D},ks.length=ds.length->ks.length=(Wm k d ks ds).length
 | [],ds,h=>by simpa [Wm] using h
 | q::ks,[],h=>by simp at h
 | q::ks,x::ds,h=>by simp only [Wm,Qe] at *;rw [rep_len k d (ds:=ds) (by omega)]
structure Dc (d:D) (m:Nat) (g:Nat->Option Int):Prop where
 ex:∃ ks ds,d=.dict ks ds/\ks.length=ds.length/\ks.length<=m/\∀ j:Nat,yh ks ds (.inl (j:Int))=(g j).map D.int
theorem Dc.nil:Dc (.dict [] []) 0 (fun _=>none):=⟨[],[],rfl,rfl,Ql _,fun j=>by simp [yh]⟩
theorem Dc.get {d:D} {m:Nat} {g:Nat->Option Int} (h:Dc d m g) {j:Nat} {v:Int} (e:g j=some v):GH d (.int (j:Nat))=some (.int v):=by
 obtain ⟨ks,ds,rfl,h1,h2,h3⟩:=h.ex
 have:=h3 j
 rw [e] at this
 exact this
def upG (g:Nat->Option Int) (j:Nat) (v:Int):Nat->Option Int:=fun k=>if k=j then some v else g k
theorem dput_ {im:Nat} {fk fv:Ev->Option D} {ρ:Ev} {T:Out->Prop} {d:D} {m:Nat} {g:Nat->Option Int} {j:Nat} {v:Int} (ev:fv ρ=some (.int v)) (ed:ρ[im]?.join=some d) (ek:fk ρ=some (.int (j:Nat))) (h:Dc d m g) (hm:m<1000)
  (k:∀ d',Dc d' (if g j=none then m+1 else m) (upG g j v)->T (.nx (ρ.set im (some d')))):Wo (mDPut im fk fv ρ) T:=by
 obtain ⟨ks,ds,rfl,h1,h2,h3⟩:=h.ex
 unfold mDPut
 rw [ev,oB,ed,oB]
 show Wo (Option.bind (some (ks,ds)) _) T
 rw [oB,ek,oB,gh,oB,if_pos (Q7 h2 (Qs hm (by decide)))]
 refine ⟨_,rfl,k _ ⟨_,_,rfl,?_,?_,fun i=>?_⟩⟩
 ·unfold putKs putDs
  by_cases z:Ww ks (.inl (j:Int))=true
  ·rw [if_pos z,if_pos z];exact rep_len _ _ h1
  ·rw [if_neg z,if_neg z];simp [h1]
 ·unfold putKs
  by_cases z:Ww ks (.inl (j:Int))=true
  ·rw [if_pos z];show ks.length<=_;split <;> omega
  ·rw [if_neg z]
   have e:g j=none:=by
    have:=h3 j
    rw [Ws (by simpa using z)] at this
    cases q:g j with
    | none=>rfl
    | some _=>rw [q] at this;cases this
   rw [if_pos e]
   show (ks++[_]).length<=_
   simp;omega
 ·unfold putKs putDs upG
  by_cases z:Ww ks (.inl (j:Int))=true
  ·rw [if_pos z,if_pos z]
   by_cases e:i=j
   ·rw [if_pos e,e];exact J5 _ _ h1 z
   ·rw [if_neg e,WW _ (fun q=>e (by have:=Sum.inl.inj q;omega))];exact h3 i
  ·rw [if_neg z,if_neg z,look_app h1]
   by_cases e:i=j
   ·rw [if_pos e,e,Ws (by simpa using z)]
    simp [yh]
   ·rw [if_neg e,h3 i]
    have:yh [(Sum.inl (j:Int):Key)] [D.int v] (.inl (i:Int))=none:=by
     simp only [yh]
     rw [if_neg (fun q=>e (by have:=Sum.inl.inj q;omega))]
    rw [this]
    simp
end RW
namespace EV
open PySem PySem.Spec L2 M
open RW (Dc upG dput_ Fi Sc wt wts)
variable {mm:Nat}
mutual
def Rq.np (g:Nat->Int):Rq->Int
 | .one _ _=>1
 | .call k=>g k
 | .loop rs=>1+nps g rs
 | .either a b=>1+(nps g a+nps g b)
def nps (g:Nat->Int):List Rq->Int
 | []=>0
 | r::rs=>r.np g+nps g rs
end
mutual
def Rq.lat (f:Nat):Rq->Prop
 | .one _ _=>True
 | .call k=>f<=k
 | .loop rs=>Y4 f rs
 | .either a b=>Y4 f a/\Y4 f b
def Y4 (f:Nat):List Rq->Prop
 | []=>True
 | r::rs=>r.lat f/\Y4 f rs
end
theorem gw (g:Nat->Int):∀ rs:List Rq,(rs.map (Rq.np g)).sum=nps g rs
 | []=>by simp [nps]
 | r::rs=>by simp [nps,gw g rs]
mutual
theorem np_nn (g:Nat->Int) (h:∀ k,0<=g k):∀ r:Rq,0<=r.np g
 | .one _ _=>by simp [Rq.np]
 | .call k=>by simp only [Rq.np];exact h k
 | .loop rs=>by have:=j0 g h rs;simp only [Rq.np];omega
 | .either a b=>by have:=j0 g h a;have:=j0 g h b;simp only [Rq.np];omega
theorem j0 (g:Nat->Int) (h:∀ k,0<=g k):∀ rs:List Rq,0<=nps g rs
 | []=>by simp [nps]
 | r::rs=>by have:=np_nn g h r;have:=j0 g h rs;simp only [nps];omega
end
mutual
theorem Gv {g g':Nat->Int} {f nb:Nat} (h:∀ k,f<=k->k<nb->g k=g' k):∀ r:Rq,r.lat f->r.ok mm nb->r.np g=r.np g'
 | .one _ _,_,_=>by simp [Rq.np]
 | .call k,o,o'=>by rw [Rq.lat] at o;rw [Rq.ok] at o';simp only [Rq.np,h k o o']
 | .loop rs,o,o'=>by rw [Rq.lat] at o;rw [Rq.ok] at o';simp only [Rq.np,yo h rs o o'.1]
 | .either a b,o,o'=>by rw [Rq.lat] at o;rw [Rq.ok] at o';simp only [Rq.np,yo h a o.1 o'.1.1,yo h b o.2 o'.2.1]
theorem yo {g g':Nat->Int} {f nb:Nat} (h:∀ k,f<=k->k<nb->g k=g' k):∀ rs:List Rq,Y4 f rs->oks mm nb rs->nps g rs=nps g' rs
 | [],_,_=>by simp [nps]
 | r::rs,o,o'=>by rw [Y4] at o;rw [oks] at o';simp only [nps,Gv h r o.1 o'.1,yo h rs o.2 o'.2]
end
theorem fix_ex {B:Nat->List Rq} {n:Nat} (hB:∀ j,j<n->oks mm n (B j)/\Y4 (j+1) (B j)):∃ g:Nat->Int,(∀ k,0<=g k)/\∀ j,j<n->g j=nps g (B j):=by
 suffices h:∀ i,i<=n->∃ g:Nat->Int,(∀ k,0<=g k)/\∀ j,n - i<=j->j<n->g j=nps g (B j) by
  obtain ⟨g,h1,h2⟩:=h n (Ql n)
  exact ⟨g,h1,fun j hj=>h2 j (by omega) hj⟩
 intro i
 induction i with
 | zero=>exact fun _=>⟨fun _=>0,fun _=>Int.le_refl 0,fun j h1 h2=>by omega⟩
 | succ i ih =>
  intro hi
  obtain ⟨g,h1,h2⟩:=ih (by omega)
  have key:∀ j,n - (i+1)<=j->j<n->nps (fun k=>if k=n - (i+1) then nps g (B (n - (i+1))) else g k) (B j)=nps g (B j):=fun j hj1 hj2 =>
   yo (fun k hk1 hk2=>if_neg (by omega)) _ (hB j hj2).2 (hB j hj2).1
  refine ⟨fun k=>if k=n - (i+1) then nps g (B (n - (i+1))) else g k,fun k=>?_,fun j hj1 hj2=>?_⟩
  ·show 0<=(if k=n - (i+1) then nps g (B (n - (i+1))) else g k)
   split
   ·exact j0 _ h1 _
   ·exact h1 k
  ·rw [key j hj1 hj2]
   show (if j=n - (i+1) then nps g (B (n - (i+1))) else g j)=_
   by_cases e:j=n - (i+1)
   ·rw [if_pos e,e]
   ·rw [if_neg e];exact h2 j (by omega) hj2
theorem no_places {B:Nat->List Rq} {nb:Nat} {N:Nat->Int} (hB:∀ k,k<nb->oks mm nb (B k)) (h0:∀ k,0<=N k) (hN:∀ k,k<nb->N k=nps N (B k)):∀ (m:Nat) (rs:List Rq) (p:Int) (s:Sx),oks mm nb rs->nps N rs=0->lyS B m rs p s=(p,s)
 | 0,rs,p,s,_,_=>by rw [lyS]
 | m+1,rs,p,s,ho,hz=>by
  rw [lyS]
  suffices h:∀ (rs:List Rq) (q:Int×Sx),oks mm nb rs->nps N rs=0->rs.foldl (Zc (lyS B m) B) q=q from h rs (p,s) ho hz
  intro rs
  induction rs with
  | nil=>intro q _ _;rfl
  | cons r rs ih =>
   intro q ho hz
   rw [oks] at ho
   rw [nps] at hz
   have h1:=np_nn N h0 r
   have h2:=j0 N h0 rs
   rw [PZ]
   have e:Zc (lyS B m) B q r=q:=by
    cases r with
    | one x ps=>simp only [Rq.np] at hz;omega
    | loop a=>have:=j0 N h0 a;simp only [Rq.np] at hz;omega
    | either a b=>have:=j0 N h0 a;have:=j0 N h0 b;simp only [Rq.np] at hz;omega
    | call k =>
     have hk:k<nb:=by have:=ho.1;rwa [Rq.ok] at this
     simp only [Rq.np] at hz h1
     simp only [Zc]
     rw [no_places hB h0 hN m (B k) q.1 q.2 (hB k hk) (by rw [<- hN k hk];omega)]
   rw [e]
   exact ih q ho.2 (by omega)
theorem W2 {u:D->Ev->Option Ev} {c:Ev->Option Bool} {e:Ev->Option D} (I:Ev->Prop):∀ (ps:List (D×D)) (ρ:Ev),I ρ->(∀ p ρ,p∈ps->I ρ->∃ ρ1,u p.1 ρ=some ρ1/\c ρ1=some true/\e ρ1=some p.2/\I ρ1)->Yh u c e (ps.map Prod.fst) ρ=some (ps.map Prod.snd)
 | [],ρ,_,_=>rfl
 | p::ps,ρ,hi,h=>by
  obtain ⟨ρ1,h1,h2,h3,h4⟩:=h p ρ Qt hi
  rw [Qq,Yh,h1,oB,h2,oB,if_pos rfl,h3,oB,W2 I ps ρ1 h4 fun q ρ' hq=>h q ρ' (Qd _ hq)]
  rfl
theorem JH {k:Nat} {fl:Ev->Option (List D)} {u:D->Ev->Option Ev} {c:Ev->Option Bool} {e:Ev->Option D} {ρ:Ev} (ps:List (D×D)) (I:Ev->Prop) (hfl:fl ρ=some (ps.map Prod.fst)) (hm:ps.length<=1000) (h0:I (ρ++List.replicate k none))
  (hs:∀ p ρ,p∈ps->I ρ->∃ ρ1,u p.1 ρ=some ρ1/\c ρ1=some true/\e ρ1=some p.2/\I ρ1):yv k fl u c e ρ=some (.lst (ps.map Prod.snd)):=by
 rw [Wz,hfl,oB,W2 I ps _ h0 hs,oB]
 exact J8 (yg (by rw [Qj];omega))
def Jh:Rq->List (List Rq)
 | .loop rs=>[rs]
 | .either a b=>[a,b]
 | _=>[]
theorem wV {f:Nat}:∀ {rs:List Rq} {r:Rq},Y4 f rs->r∈rs->r.lat f
 | x::rs,r,o,h=>by
  rw [Y4] at o
  rcases Qb.mp h with rfl | h
  ·exact o.1
  ·exact wV o.2 h
theorem subs_rk {g:Nat->Nat} {r:Rq} {x:List Rq} (h:x∈Jh r):rks g x+1<=r.rk g:=by
 cases r with
 | one _ _=>cases h
 | call _=>cases h
 | loop a=>simp only [Jh,Qv] at h;subst h;rw [Rq.rk];omega
 | either a b =>
  simp only [Jh,Qb,Qk,or_false] at h
  rw [Rq.rk]
  rcases h with rfl | rfl <;> omega
theorem subs_ok {nb f:Nat} {r:Rq} {x:List Rq} (ho:r.ok mm nb) (hf:r.lat f) (h:x∈Jh r):oks mm nb x/\Y4 f x/\x.length<=100:=by
 cases r with
 | one _ _=>cases h
 | call _=>cases h
 | loop a=>simp only [Jh,Qv] at h;subst h;rw [Rq.ok] at ho;rw [Rq.lat] at hf;exact ⟨ho.1,hf,ho.2⟩
 | either a b =>
  simp only [Jh,Qb,Qk,or_false] at h
  rw [Rq.ok] at ho;rw [Rq.lat] at hf
  rcases h with rfl | rfl
  ·exact ⟨ho.1.1,hf.1,ho.1.2⟩
  ·exact ⟨ho.2.1,hf.2,ho.2.2⟩
theorem lf_isi {d:D} (h:Lf d=true):JY "list" d=some (.bl false):=by cases d <;> first | rfl | cases h
theorem comp_none:∀ (ds:List D) (ρ:Ev),(∀ d∈ds,JY "list" d=some (.bl false))->ρ.length=2->Yh (zZ 1) (zG (f1 (JY "list") (zb 1))) (zb 1) ds ρ=some []
 | [],ρ,_,_=>rfl
 | d::ds,ρ,h,hl=>by
  rw [Yh,zZ,oB]
  have e:zG (f1 (JY "list") (zb 1)) (ρ.set 1 (some d))=some false:=zW (f1v (zL (zN (by omega))) (h d Qt))
  rw [e,oB,if_neg (by simp)]
  exact comp_none ds _ (fun x hx=>h x (Qd _ hx)) (by simpa using hl)
theorem lists_in_ok {nb:Nat} (r:Rq) (ho:r.ok mm nb):m_lists_in [r.toD]=some (.lst ((Jh r).map fun x=>.lst (qDs x))):=by
 refine Wo.eq ?_
 unfold m_lists_in b_lists_in
 rw [yp]
 refine ⟨rfl,?_⟩
 simp only [Za,zMap,zLen,List.replicate,zApp,QC,Nat.reduceAdd,Nat.reduceSub]
 refine jX (d:=.lst ((Jh r).map fun x=>.lst (qDs x))) ?_ rfl
 cases r with
 | one x ps =>
  rw [Rq.ok] at ho
  rw [Rq.toD,Wz,ZQ (zL rfl),oB,comp_none _ _ (fun d hd=>?_) rfl]
  ·rfl
  ·rcases Qb.mp hd with rfl | hd
   ·rfl
   ·exact lf_isi (ho.2.2.1 d hd)
 | call k=>rw [Rq.toD];rfl
 | loop a=>rw [Rq.toD];rfl
 | either a b=>rw [Rq.toD];rfl
def Tells (d:D) (f nb:Nat) (g:Nat->Int):Prop:=∀ k:Nat,f<=k->k<nb->GH d (.int (k:Nat))=some (.int (g k))
section
variable {dd:D} {f nb:Nat} {g:Nat->Int} (hd:Tells dd f nb g)
include hd
theorem np_step {n:Nat} {r:Rq} (ho:r.ok mm nb) (hf:r.lat f) (h:∀ x∈Jh r,(zC n).1 [.lst (qDs x),dd]=some (.int (nps g x))):(zC (n+1)).2 [r.toD,dd]=some (.int (r.np g)):=by
 refine Wo.eq ?_
 rw [show (zC (n+1)).2=ym 2 2 (b_new_places_of_row (zC n).1 (zC n).2) by rw [zC]]
 unfold b_new_places_of_row
 rw [yp]
 refine ⟨rfl,?_⟩
 simp only [Za,zMap,zLen,List.replicate,zApp,QC,Nat.reduceAdd,Nat.reduceSub]
 generalize (zC n).1=m1 at h ⊢
 generalize (zC n).2=m2
 have Zm:∀ ρ:Ev,ρ=[some r.toD,some dd]->f2 ZY (fC (.int 1)) (fA wX (zm true (yv 1 (zm true (fA m_lists_in (zf (zb 0) zu))) (zZ 2) jc (fA m1 (zf (zb 2) (zf (zb 1) zu)))))) ρ=some (.int (1+((Jh r).map (nps g)).sum)):=by
  rintro ρ rfl
  have ec:=JH (k:=1) (fl:=zm true (fA m_lists_in (zf (zb 0) zu))) (u:=zZ 2) (c:=jc) (e:=fA m1 (zf (zb 2) (zf (zb 1) zu))) (ρ:=[some r.toD,some dd]) ((Jh r).map fun x=>(.lst (qDs x),.int (nps g x))) (fun ρ=>∃ z:Option D,ρ=[some r.toD,some dd,z])
   ((Z9 (fA1 rfl (lists_in_ok r ho))).trans (by rw [Pg];rfl)) (by cases r <;> simp [Jh]) ⟨none,rfl⟩ (by
    rintro p ρ hp ⟨z,rfl⟩
    obtain ⟨x,hx,rfl⟩:=QL.mp hp
    exact ⟨_,rfl,rfl,fA2 rfl rfl (h x hx),_,rfl⟩)
  refine f2v (y:=.int ((Jh r).map (nps g)).sum) rfl ?_ rfl
  rw [fA_,Z9 ec,oB,Pg]
  exact (congrArg wX (show List.map _ (Jh r)=((Jh r).map (nps g)).map D.int by rw [Pg];rfl)).trans gSum_
 cases r with
 | call k =>
  rw [Rq.ok] at ho
  rw [Rq.lat] at hf
  rw [Rq.toD,zv]
  refine ⟨_,by rw [mIf_,kis rfl,oB,if_pos rfl,J3,f2v (y:=.int (k:Nat)) rfl (Zr (ZQ (zL rfl)) rfl (zD (j:=1) rfl)) (hd k hf ho)];rfl,?_⟩
  simp only [Rq.np];rfl
 | one x ps =>
  rw [Rq.ok] at ho
  rw [Rq.toD] at Zm
  rw [Rq.toD,zv]
  refine Y5 (kno rfl ho.1.1) ?_
  rw [ZA,zE,zj]
  exact jX (Zm _ rfl) (by simp [Jh,Rq.np])
 | loop rs =>
  rw [Rq.toD] at Zm
  rw [Rq.toD,zv]
  refine Y5 (kno rfl (by decide)) ?_
  rw [ZA,zE,zj]
  exact jX (Zm _ rfl) (by simp [Jh,Rq.np])
 | either a b =>
  rw [Rq.toD] at Zm
  rw [Rq.toD,zv]
  refine Y5 (kno rfl (by decide)) ?_
  rw [ZA,zE,zj]
  exact jX (Zm _ rfl) (by simp [Jh,Rq.np])
theorem nps_step {n:Nat} {rs:List Rq} (hl:rs.length<=100) (h:∀ r∈rs,(zC n).2 [r.toD,dd]=some (.int (r.np g))):(zC (n+1)).1 [.lst (qDs rs),dd]=some (.int (nps g rs)):=by
 refine Wo.eq ?_
 rw [show (zC (n+1)).1=ym 2 2 (b_new_places (zC n).1 (zC n).2) by rw [zC]]
 unfold b_new_places
 rw [yp]
 refine ⟨rfl,?_⟩
 simp only [Za,zMap,zLen,List.replicate,zApp,QC,Nat.reduceAdd,Nat.reduceSub]
 generalize (zC n).1=m1
 generalize (zC n).2=m2 at h ⊢
 have ec:=JH (k:=1) (fl:=zm true (zb 0)) (u:=zZ 2) (c:=jc) (e:=fA m2 (zf (zb 2) (zf (zb 1) zu))) (ρ:=[some (.lst (qDs rs)),some dd]) (rs.map fun r=>(r.toD,.int (r.np g))) (fun ρ=>∃ z:Option D,ρ=[some (.lst (qDs rs)),some dd,z])
  ((Z9 (ds:=qDs rs) rfl).trans (by rw [Pg,gt];rfl)) (by rw [Qj];omega) ⟨none,rfl⟩ (by
   rintro p ρ hp ⟨z,rfl⟩
   obtain ⟨x,hx,rfl⟩:=QL.mp hp
   exact ⟨_,rfl,rfl,fA2 rfl rfl (h x hx),_,rfl⟩)
 refine jX (d:=.int (nps g rs)) ?_ rfl
 rw [fA_,Z9 ec,oB,Pg]
 exact (congrArg wX (show List.map _ rs=(rs.map (Rq.np g)).map D.int by rw [Pg];rfl)).trans (gSum_.trans (by rw [gw]))
theorem new_all:∀ (h n:Nat),2*h+2<=n->∀ rs:List Rq,rks (fun _=>0) rs<=h->oks mm nb rs->Y4 f rs->rs.length<=100->(zC n).1 [.lst (qDs rs),dd]=some (.int (nps g rs)):=by
 intro h
 induction h with
 | zero =>
  intro n hn rs hk ho hf hl
  obtain ⟨n,rfl⟩:∃ m,n=m+2:=⟨n - 2,by omega⟩
  refine nps_step hd hl fun r hr=>np_step hd (gv ho hr) (wV hf hr) fun x hx=>?_
  have h1:=rks_mem (g:=fun _=>0) hr
  have h2:=(subs_rk (g:=fun _=>0) hx)
  omega
 | succ h ih =>
  intro n hn rs hk ho hf hl
  obtain ⟨n,rfl⟩:∃ m,n=m+2:=⟨n - 2,by omega⟩
  refine nps_step hd hl fun r hr=>np_step hd (gv ho hr) (wV hf hr) fun x hx=>?_
  have h1:=rks_mem (g:=fun _=>0) hr
  have h2:=(subs_rk (g:=fun _=>0) hx)
  obtain ⟨o1,o2,o3⟩:=subs_ok (gv ho hr) (wV hf hr) hx
  exact ih n (by omega) x (by omega) o1 o2 o3
end
def upto (n i:Nat) (g:Nat->Int):Nat->Option Int:=fun k=>if n - i<=k/\k<n then some (g k) else none
theorem upto_none {n i:Nat} {g:Nat->Int} {j:Nat} (h:j<n - i):upto n i g j=none:=if_neg (by omega)
theorem upto_some {n i:Nat} {g:Nat->Int} {j:Nat} (h:n - i<=j) (h2:j<n):upto n i g j=some (g j):=if_pos ⟨h,h2⟩
theorem upto_up {n i:Nat} {g:Nat->Int} (hi:i<n) (k:Nat):upG (upto n i g) (n - 1 - i) (g (n - 1 - i)) k=upto n (i+1) g k:=by
 unfold upG upto
 by_cases e:k=n - 1 - i
 ·rw [if_pos e,if_pos (by omega),e]
 ·rw [if_neg e]
  by_cases h:n - i<=k/\k<n
  ·rw [if_pos h,if_pos (by omega)]
  ·rw [if_neg h,if_neg (by omega)]
theorem dc_as {d:D} {m m':Nat} {g g':Nat->Option Int} (h:Dc d m g) (hm:m=m') (hg:∀ k,g k=g' k):Dc d m' g':=by
 have:g=g':=funext hg
 subst this;subst hm;exact h
structure Bods2 (mm:Nat) (B:Nat->List Rq) (nb:Nat) (g G:Nat->Nat):Prop extends Bods mm B nb g G where
 lat:∀ k,k<nb->Y4 (k+1) (B k)
 low:∀ k,k<nb->rks (fun _=>0) (B k)<=12
 few:nb<=4
 pos:1<=nb
theorem places_ok {B:Nat->List Rq} {nb:Nat} {g G:Nat->Nat} (hB:Bods2 mm B nb g G) {N:Nat->Int} (hN:∀ j,j<nb->N j=nps N (B j)):∃ l,m_places_of_bodies [Z3 B nb]=some l/\∀ k,k<nb->GH l (.int (k:Nat))=some (.int (N k)):=by
 suffices h:Wo (m_places_of_bodies [Z3 B nb]) fun l=>∀ k,k<nb->GH l (.int (k:Nat))=some (.int (N k)) by
  obtain ⟨d,e,w⟩:=h
  exact ⟨d,e,w⟩
 have hn:=hB.pos
 have hn4:=hB.few
 unfold m_places_of_bodies b_places_of_bodies
 rw [yp]
 refine ⟨rfl,?_⟩
 simp only [Za,zMap,zLen,List.replicate,zApp,QC,Nat.reduceAdd,Nat.reduceSub]
 rw [zv]
 refine new_ rfl (by simp) ?_
 simp only [zSet,zj]
 have er:wZ (f2 WD (fA YJ (zm true (zb 0))) (fC (.int 1))) (f1 w9 (fC (.int 1))) [some (Z3 B nb),some (.dict [] []),none]=some (Yw ((nb:Int) - 1) nb):=by
  have e1:f2 WD (fA YJ (zm true (zb 0))) (fC (.int 1)) [some (Z3 B nb),some (.dict [] []),none]=some (.int ((nb:Int) - 1)):=f2v (x:=.int (nb:Nat)) (by show some (D.int (((List.range nb).map fun k=>D.lst (qDs (B k))).length:Nat))=_;rw [Qj,PP]) rfl rfl
  unfold wZ
  rw [e1,oB,show f1 w9 (fC (.int 1)) [some (Z3 B nb),some (.dict [] []),none]=some (.int (-1)) from rfl,oB,gh,oB,gh,oB,if_pos (by omega)]
  congr 2
  omega
 rw [zv,J4,er,oB]
 refine jq (fun i ρ=>i<=nb/\∃ (d1:D) (z:Option D),ρ=[some (Z3 B nb),some d1,z]/\Dc d1 i (upto nb i N)) ⟨Q3 _,_,_,rfl,dc_as Dc.nil rfl fun k=>(if_neg (by omega)).symm⟩ ?_ ?_
 ·rintro i e ρ he ⟨hi,d1,z,rfl,c1⟩
  obtain ⟨hin,rfl⟩:=jk he
  have ej:(nb:Int) - 1 - (i:Nat)=((nb - 1 - i:Nat):Int):=by omega
  rw [ej,YF,zE]
  simp only [zSet]
  have hj:nb - 1 - i<nb:=by omega
  have t1:Tells d1 (nb - 1 - i+1) nb N:=fun k h1 h2=>c1.get (upto_some (by omega) (by omega))
  have v1:=new_all t1 12 60 (by omega) (B (nb - 1 - i)) (hB.low _ hj) (hB.ok _ hj) (hB.lat _ hj) (hB.len _ hj)
  rw [<- hN _ hj] at v1
  have ba:=gA (B:=B) hj
  refine dput_ (wY (fA2 (Zr (ds:=(List.range nb).map fun k=>.lst (qDs (B k))) rfl rfl ba) rfl v1) rfl) rfl rfl c1 (by omega) fun d1' c1'=>?_
  simp only [zSet]
  have k1:=dc_as c1' (if_pos (upto_none (by omega))) (upto_up hin)
  exact ⟨hin,d1',_,rfl,k1⟩
 ·rintro ρ ⟨-,d1,z,rfl,c1⟩
  rw [Y2] at c1
  rw [zj]
  exact jX rfl fun k hk=>c1.get (upto_some (by omega) hk)
open RW (Py)
variable {mm:Nat}
def StF (mm:Nat) (d:D):Prop:=∃ (p q:Int) (x:Str) (ps:List D),d=stp p q (.tup (.str x::ps))/\x≠"halt"/\Dk mm x ps
theorem stp_s {p q:Int}:StF mm (stp p q skD):=⟨p,q,"skip",[],rfl,by decide,.inl ⟨rfl,rfl⟩⟩
section
variable {B:Nat->List Rq} {nb:Nat} {g G:Nat->Nat}
theorem ly_st (hB:Bods mm B nb g G):∀ (m:Nat) (rs:List Rq) (p:Int) (s:Sx),oks mm nb rs->(∀ d∈s.2,StF mm d)->∀ d∈(lyS B m rs p s).2.2,StF mm d
 | 0,rs,p,s,_,h=>by rw [lyS];exact h
 | m+1,rs,p,s,ho,h=>by
  rw [lyS]
  suffices key:∀ (rs:List Rq) (q:Int×Sx),oks mm nb rs->(∀ d∈q.2.2,StF mm d)->∀ d∈(rs.foldl (Zc (lyS B m) B) q).2.2,StF mm d from key rs (p,s) ho h
  intro rs
  induction rs with
  | nil=>intro q _ h;exact h
  | cons r rs ih =>
   intro q ho h
   rw [oks] at ho
   rw [PZ]
   refine ih _ ho.2 ?_
   have app:∀ {l:List D} {e:List D},(∀ d∈l,StF mm d)->(∀ d∈e,StF mm d)->∀ d∈l++e,StF mm d:=fun h1 h2 d hd=>(QI.mp hd).elim (h1 d) (h2 d)
   cases r with
   | one x ps =>
    have o:=ho.1
    rw [Rq.ok] at o
    simp only [Zc]
    split
    ·exact h
    ·rename_i hx
     exact app h fun d hd=>by rw [Qv.mp hd];exact ⟨_,_,x,ps,rfl,hx,o.2.2.2.2⟩
   | call k =>
    simp only [Zc]
    exact ly_st hB m (B k) q.1 q.2 (hB.ok k (by have:=ho.1;rwa [Rq.ok] at this)) h
   | loop a =>
    have o:=ho.1
    rw [Rq.ok] at o
    simp only [Zc]
    refine app (ly_st hB m a _ _ o.1 (app h fun d hd=>?_)) fun d hd=>?_
    ·rw [Qv.mp hd];exact stp_s
    ·rw [Qv.mp hd];exact stp_s
   | either a b =>
    have o:=ho.1
    rw [Rq.ok] at o
    simp only [Zc]
    refine app (ly_st hB m b _ _ o.2.1 (ly_st hB m a _ _ o.1.1 h)) fun d hd=>?_
    simp only [Qb,Qk,or_false] at hd
    rcases hd with rfl | rfl <;> exact stp_s
def ansD (r:Int×Sx):D:=.tup [.int r.2.1,.lst r.2.2,.int r.1]
theorem laid_ok (hB:Bods2 mm B nb g G) (hr:rks g (B 0)<20) (hz:szs G (B 0)<=800000) (many:Int):m_laid [.tup [.int many,Z3 B nb]]=some (ansD (lyS B 20 (B 0) 0 (1,[]))):=by
 obtain ⟨N,hN0,hN⟩:=fix_ex (B:=B) (n:=nb) fun j hj=>⟨hB.ok j hj,hB.lat j hj⟩
 obtain ⟨l,hl,hg⟩:=places_ok hB hN
 have hL:Lay B nb N l:=⟨hg,fun k hk z m p s=>no_places hB.ok hN0 hN m (B k) p s (hB.ok k hk) (by rw [<- hN k hk];exact z)⟩
 have key:=fun a=>jo hB.toBods hL (a:=a) 20 60 (by omega) (B 0) (hB.ok 0 hB.pos) hr 0 (1,[]) (by show 0+_<=_;omega)
 generalize lyS B 20 (B 0) 0 (1,[])=r at key ⊢
 refine WU rfl ?_
 unfold b_laid
 refine mLaid_eq (b:=Z3 B nb) (l:=l) (Zr (ZQ (zL rfl)) rfl (zD (j:=1) rfl)) hl fun a=>⟨_,yZ (y2 (zH (wl_ (zL rfl)) (zH (wl_ (Zr (Z9 (Zr (ZQ (zL rfl)) rfl (zD (j:=1) rfl))) rfl (gA (k:=0) hB.pos))) (zH (wl_ rfl) yw))) (key a)),rfl⟩
theorem lent_ok (hB:Bods2 mm B nb g G) (hr:rks g (B 0)<20) (hz:szs G (B 0)<=800000) (a:Addr):m'lay [.lst (qDs (B 0)),.int 0,Z3 B nb,.adr a] [.int 1]=some (.int (lyS B 20 (B 0) 0 (1,[])).1,.int (lyS B 20 (B 0) 0 (1,[])).2.1::(lyS B 20 (B 0) 0 (1,[])).2.2) :=
 law_all hB.toBods (a:=a) 20 60 (by omega) (B 0) (hB.ok 0 hB.pos) hr 0 (1,[]) (by show 0+_<=_;omega)
end
open RW (Py Fi Sc wt wts names wF mulT)
variable {mm:Nat}
theorem if_t {c:Ev->Option Bool} {m1 m2:Ev->Option Out} {ρ:Ev} {T:Out->Prop} (e:c ρ=some true) (k:Wo (m1 ρ) T):Wo (mIf c m1 m2 ρ) T:=by rw [mIf_,e];exact k
theorem GD {c:Ev->Option Bool} {m1 m2:Ev->Option Out} {ρ:Ev} {T:Out->Prop} {b:Bool} (e:c ρ=some b) (k1:b=true->Wo (m1 ρ) T) (k2:b=false->Wo (m2 ρ) T):Wo (mIf c m1 m2 ρ) T:=by
 rw [mIf_,e]
 cases b with
 | true=>exact k1 rfl
 | false=>exact k2 rfl
theorem orv {c1 c2:Ev->Option Bool} {ρ:Ev} {a b:Bool} (e1:c1 ρ=some a) (e:a=false->c2 ρ=some b):fOr c1 c2 ρ=some (a||b):=by
 rw [fOr_,e1]
 cases a with
 | true=>rfl
 | false=>exact e rfl
theorem andc {c1 c2:Ev->Option Bool} {ρ:Ev} {a b:Bool} (e1:c1 ρ=some a) (e:a=true->c2 ρ=some b):w6 c1 c2 ρ=some (a&&b):=by
 rw [fAnd_,e1]
 cases a with
 | true=>exact e rfl
 | false=>rfl
theorem lt_ {a b:Int}:dLt (.int a) (.int b)=some (.bl (decide (a<b))):=rfl
theorem gt_ {a b:Int}:dGt (.int a) (.int b)=some (.bl (decide (b<a))):=rfl
theorem sub_ {a b:Int}:WD (.int a) (.int b)=some (.int (a - b)):=rfl
theorem Gw {ρ:Ev}:ZR zu ρ=some (.lst []):=by rw [fLst_];exact J8 (ds:=[]) (yg (by simp))
theorem yt {ρ:Ev} {f f':Ev->Option D} {d d':D} (e:f ρ=some d) (e':f' ρ=some d'):Zo (zf f (zf f' zu)) ρ=some (.tup [d,d']):=by
 rw [fTup_,ZJ,e,oB,ZJ,e'];exact dTup_ (yg (by simp))
theorem atB {B:List D} {j:Nat} (h:j<B.length):atI B ((j:Nat):Int)=some (B.getD j .non):=zD (by simp [List.getD,h])
theorem mem_getD {B:List D} {j:Nat} (h:j<B.length):B.getD j .non∈B:=by
 simp only [List.getD,Qy h,Option.getD_some]
 exact PB h
theorem Wb (ns:List Int) (k:Int) (h0:0<=k) (hk:k<=1000):∃ v:Int,m'cell [.scr ns,.int k]=some (.int v):=by
 suffices h:Wo (m'cell [.scr ns,.int k]) fun d=>∃ v:Int,d=.int v by
  obtain ⟨d,e,v,rfl⟩:=h
  exact ⟨v,e⟩
 unfold m'cell b'cell
 rw [yp]
 refine ⟨rfl,?_⟩
 simp only [Za,zMap,zLen,List.replicate,zApp,QC,Nat.reduceAdd,Nat.reduceSub]
 have el:∀ ρ:Ev,ρ[0]?.join=some (.scr ns)->fA YJ (zm true (zb 0)) ρ=some (.int (ns.length:Nat)):=fun ρ h=>by
  rw [fA_,fSeq_,show zb 0 ρ=some (.scr ns) from h,oB]
  show YJ (ns.map D.int)=_
  rw [gLen_,Qj]
 have tail:∀ v:Int,Wo (zO (Zw 2 (f2 yq (f2 Yj (zb 2) (zb 2)) (fC (.int 2147483629)))) (ZH (f2 yq (f2 Yj (f2 ZY (zb 2) (fC (.int 11))) (f2 ZY (zb 2) (fC (.int 3)))) (fC (.int 2147483587)))) [some (.scr ns),some (.int k),some (.int v)]) (WI fun d=>∃ v:Int,d=.int v)\/¬ (-(2 ^ 64)<v/\v<2 ^ 64):=fun v=>by
  by_cases hv:-(2 ^ 64)<v/\v<2 ^ 64
  ·left
   rw [zv]
   refine ZU (f2v (f2v rfl rfl (yn (JX hv.1 hv.2))) rfl (ZK (by decide))) ?_
   simp only [zSet,zj]
   have m0:=QA (v*v) (show (2147483629:Int)≠0 by decide)
   have m1:=Qx (v*v) (show (0:Int)<2147483629 by decide)
   exact jX (f2v (f2v (f2v rfl rfl rfl) (f2v rfl rfl rfl) (yn (JX (by omega) (by omega)))) rfl (ZK (by decide))) ⟨_,rfl⟩
  ·exact .inr hv
 by_cases hlt:k<(ns.length:Nat)
 ·rw [zv]
  refine if_t (zW (f2v rfl (el _ rfl) (by show some (D.bl (decide (k<((ns.length:Nat):Int))))=_;rw [decide_eq_true hlt]))) ?_
  exact WP (Zr (ds:=ns.map .int) rfl rfl (gC h0 hlt)) ⟨_,rfl⟩
 ·rw [zv]
  refine Y5 (zW (f2v rfl (el _ rfl) (by show some (D.bl (decide (k<((ns.length:Nat):Int))))=_;rw [decide_eq_false hlt]))) ?_
  rw [ZA,zE,zj,zv]
  refine ZU (f2v (f2v rfl rfl (yn (JX (by omega) (by omega)))) rfl rfl) ?_
  simp only [zSet,zj]
  rw [zv]
  by_cases hp:(0:Int)<(ns.length:Nat)
  ·refine if_t (zW (f2v (el _ rfl) rfl (by rw [gt_,decide_eq_true hp]))) ?_
   have q0:=QA (k*7) (show ((ns.length:Nat):Int)≠0 by omega)
   have q1:=Qx (k*7) hp
   refine ZU (f2v (f2v (f2v (Zr (ds:=ns.map .int) rfl (f2v (f2v rfl rfl (yn (JX (by omega) (by omega)))) (el _ rfl) (ZK hp)) (gC q0 q1)) rfl (yn (mulT (by decide) (by decide)))) (f2v rfl rfl (yn (JX (by omega) (by omega)))) rfl) rfl (ZK (by decide))) ?_
   simp only [zSet,zj]
   refine (tail _).resolve_right fun z=>z ?_
   have r0:=QA (ns.getD (k*7 % ((ns.length:Nat):Int)).toNat 0*48271+k*7919) (show (2147483647:Int)≠0 by decide)
   have r1:=Qx (ns.getD (k*7 % ((ns.length:Nat):Int)).toNat 0*48271+k*7919) (show (0:Int)<2147483647 by decide)
   exact ⟨by omega,by omega⟩
  ·refine Y5 (zW (f2v (el _ rfl) rfl (by rw [gt_,decide_eq_false hp]))) ?_
   rw [ZA,zE,zj]
   exact (tail _).resolve_right fun z=>z ⟨by omega,by omega⟩
theorem at_mod {L:List D} {c:Int} (h:0<L.length):∃ d∈L,atI L (c % (L.length:Nat))=some d:=by
 have h0:=QA c (show ((L.length:Nat):Int)≠0 by omega)
 have h1:=Qx c (show (0:Int)<(L.length:Nat) by omega)
 obtain ⟨j,hj⟩:∃ j:Nat,c % (L.length:Nat)=(j:Nat):=⟨(c % (L.length:Nat)).toNat,by omega⟩
 have hl:j<L.length:=by omega
 exact ⟨L.getD j .non,mem_getD hl,by rw [hj];exact atB hl⟩
theorem ns_small:∀ x∈([0,1,0,-1,1,2,0,3,-2]:List Int),x.natAbs<=3:=by decide
theorem line_ok (c:Int) {many:Nat} (hm:many<=6):∃ ns:List Int,m'line [.int c,.int (many:Nat)]=some (.tup (ns.map .int))/\ns.length=many+1/\∀ x∈ns,x.natAbs<=2000000:=by
 suffices h:Wo (m'line [.int c,.int (many:Nat)]) fun d=>∃ ns:List Int,d=.tup (ns.map .int)/\ns.length=many+1/\∀ x∈ns,x.natAbs<=2000000 by
  obtain ⟨d,e,ns,rfl,q⟩:=h
  exact ⟨ns,e,q⟩
 unfold m'line b'line
 rw [yp]
 refine ⟨rfl,?_⟩
 simp only [Za,zMap,zLen,List.replicate,zApp,QC,Nat.reduceAdd,Nat.reduceSub]
 rw [zv]
 refine new_ Gw (by simp) ?_
 simp only [zSet,zj]
 rw [zv,J4,rng1v (n:=many+1) (f2v rfl rfl rfl) (by omega),oB]
 refine jq (fun i ρ=>∃ (ns:List Int) (a b e:Option D),ρ=[some (.int c),some (.int (many:Nat)),some (.lst (ns.map .int)),a,b,e]/\ns.length=i/\∀ x∈ns,x.natAbs<=2000000) ⟨[],_,_,_,rfl,rfl,fun x hx=>by cases hx⟩ ?_ ?_
 ·rintro i d ρ hd ⟨ns,a,b,e,rfl,hl,hb⟩
  obtain ⟨hi,rfl⟩:=Yq hd
  rw [Pv,YF,zE]
  simp only [zSet]
  have hii:((i:Nat):Int)*(i:Nat)=((i*i:Nat):Int):=by rw [Int.natCast_mul]
  have hpos:(0:Int)<=(i:Nat)*(i:Nat):=by rw [hii];omega
  rw [zv]
  refine ZU (f2v (f2v (f2v (f2v rfl (f2v (f2v rfl rfl (yn (JX (by omega) (by omega)))) rfl Ys) (dDivP_s (show (i:Nat)*(i:Nat)+3≠(0:Int) by omega))) rfl (yn (mulT (by decide) (by decide)))) (f2v rfl rfl (yn (JX (by omega) (by omega)))) Ys) rfl (ZK (by decide))) ?_
  simp only [zSet,zj]
  generalize (c.fdiv ((i:Nat)*(i:Nat)+3)*48271+(i:Nat)*69621) % 2147483647=v
  have q0:=QA v (show (9:Int)≠0 by decide)
  have q1:=Qx v (show (0:Int)<9 by decide)
  rw [zv]
  refine ZU (d:=.int (([0,1,0,-1,1,2,0,3,-2]:List Int).getD (v % 9).toNat 0)) (Zr (ds:=([0,1,0,-1,1,2,0,3,-2]:List Int).map .int) rfl (f2v rfl rfl (ZK (by decide))) (gC q0 q1)) ?_
  simp only [zSet,zj]
  have hx0:(([0,1,0,-1,1,2,0,3,-2]:List Int).getD (v % 9).toNat 0).natAbs<=3:=by
   refine ns_small _ ?_
   have hlt:(v % 9).toNat<9:=by omega
   simp only [List.getD]
   rw [Qy (by simpa using hlt),Option.getD_some]
   exact PB _
  generalize (([0,1,0,-1,1,2,0,3,-2]:List Int).getD (v % 9).toNat 0)=x0 at hx0
  have fin:∀ x:Int,x.natAbs<=2000000->Wo (GA 2 yu (zb 5) [some (.int c),some (.int (many:Nat)),some (.lst (ns.map .int)),some (.int (i:Nat)),some (.int v),some (.int x)]) fun o=>match o with
    | .nx ρ2=>∃ (ns:List Int) (a b e:Option D),ρ2=[some (.int c),some (.int (many:Nat)),some (.lst (ns.map .int)),a,b,e]/\ns.length=i+1/\∀ x∈ns,x.natAbs<=2000000
    | .ct ρ2=>∃ (ns:List Int) (a b e:Option D),ρ2=[some (.int c),some (.int (many:Nat)),some (.lst (ns.map .int)),a,b,e]/\ns.length=i+1/\∀ x∈ns,x.natAbs<=2000000
    | .bk ρ2=>GR (ZH (fA JE (zm true (zb 2)))) (WI fun d=>∃ ns:List Int,d=.tup (ns.map .int)/\ns.length=many+1/\∀ x∈ns,x.natAbs<=2000000) (.nx ρ2)
    | .rt r=>GR (ZH (fA JE (zm true (zb 2)))) (WI fun d=>∃ ns:List Int,d=.tup (ns.map .int)/\ns.length=many+1/\∀ x∈ns,x.natAbs<=2000000) (.rt r):=fun x hx=>by
   refine upd_ (d:=.int x) rfl rfl (jJ (jg (by rw [Qj];omega))) ?_
   simp only [zSet]
   refine ⟨ns++[x],_,_,_,by rw [Q9];rfl,by simp [hl],fun y hy=>?_⟩
   rcases QI.mp hy with hy | hy
   ·exact hb y hy
   ·rw [Qv.mp hy];exact hx
  rw [zv]
  refine GD (zW (f2v (f2v (f2v rfl rfl (yr (by decide) (by decide))) rfl (ZK (by decide))) rfl jp)) (fun _=>?_) (fun _=>?_)
  ·rw [zv]
   have w0:=QA (v / 540) (show (1999999:Int)≠0 by decide)
   have w1:=Qx (v / 540) (show (0:Int)<1999999 by decide)
   refine ZU (f2v (f2v (f2v rfl rfl (yr (by decide) (by decide))) rfl (ZK (by decide))) rfl sub_) ?_
   simp only [zSet,zj]
   refine GD (zW (f2v rfl rfl gt_)) (fun _=>?_) (fun _=>?_)
   ·have u0:=QA (v / 540 % 1999999 - 999999) (show (19:Int)≠0 by decide)
    have u1:=Qx (v / 540 % 1999999 - 999999) (show (0:Int)<19 by decide)
    refine ZU (f2v (f2v rfl rfl (ZK (by decide))) rfl sub_) ?_
    simp only [zSet,zj]
    exact fin _ (by omega)
   ·rw [ZA,zE,zj]
    exact fin _ (by omega)
  ·rw [ZA,zE,zj]
   exact fin _ (by omega)
 ·rintro ρ ⟨ns,a,b,e,rfl,hl,hb⟩
  rw [ZD] at hl
  rw [zj]
  exact jX (tupL rfl) ⟨ns,rfl,hl,hb⟩
theorem wts_ints:∀ ns:List Int,wts (ns.map .int)=9*ns.length
 | []=>by simp [wts]
 | n::ns=>by rw [Qq,wts,wts_ints ns,wt,Qe];omega;all_goals (intros;simp_all)
theorem jO {ds:List D}:wt (.tup ds)=wts ds:=by rw [wt]
theorem wt_lst {ds:List D}:wt (.lst ds)=wts ds:=by rw [wt]
theorem wt_int {i:Int}:wt (.int i)=8:=by simp [wt]
theorem Jk {x:Str}:wt (.str x)=8:=by simp [wt]
theorem ne_nil {xs:List D} (h:jF (.lst xs)=true):gg (.lst xs) (.lst [])=some (.bl (!xs.isEmpty)):=by
 unfold gg
 rw [if_pos ⟨h,by decide⟩]
 unfold eqD
 cases xs with
 | nil=>rw [yd,yx,PyData.eqv];simp [PyData.eqvAll]
 | cons a t=>rw [yd,yx,yd,yx,PyData.eqv];simp [PyData.eqvAll]
open RW (Py Fi Sc wt wts names wF)
variable {mm:Nat}
mutual
def nd:D->Nat
 | .tup ds=>1+nds ds
 | .lst ds=>nds ds
 | _=>0
def nds:List D->Nat
 | []=>0
 | d::ds=>nd d+nds ds
end
theorem Y3 {ds:List D}:nd (.tup ds)=1+nds ds:=by rw [nd]
theorem wy {ds:List D}:nd (.lst ds)=nds ds:=by rw [nd]
theorem nd_int {i:Int}:nd (.int i)=0:=by simp [nd]
theorem wx {x:Str}:nd (.str x)=0:=by simp [nd]
theorem nds_app:∀ a b:List D,nds (a++b)=nds a+nds b
 | [],b=>by rw [Pn,nds];omega
 | d::a,b=>by rw [PD,nds,nds,nds_app a b];omega
theorem nds_ints:∀ ns:List Int,nds (ns.map .int)=0
 | []=>by simp [nds]
 | n::ns=>by rw [Qq,nds,nds_ints ns,nd_int]
abbrev r0:Nat->Nat:=fun _=>0
def GS (mm nb f:Nat) (d:D):Prop:=∃ t:Rq,d=t.toD/\t.ok mm nb/\t.lat f/\t.rk r0<=1/\Fi 3 d/\(wt d<=150/\nd d<=2)/\((t=.loop []\/t=.either [] [])\/(∃ k,t=.call k)\/∃ x ps,t=.one x ps)
def jn (p:Nat×Int):D:=.tup [.int (p.1:Nat),.int p.2]
def YR (later:List (Nat×Int)):D:=.lst (later.map jn)
structure LatOk (nb f:Nat) (later:List (Nat×Int)):Prop where
 few:later.length<=4
 few2:nb<=4
 mem:∀ p∈later,f<=p.1/\p.1<nb
theorem lat_py (later:List (Nat×Int)):jF (YR later)=true:=by
 have h:Py 2 (YR later):=.lst fun d hd=>by
  obtain ⟨p,hp,rfl⟩:=QL.mp hd
  refine Py.tup (n:=0) fun e he=>?_
  simp only [Qb,Qk,or_false] at he
  rcases he with rfl | rfl <;> exact .int _ _
 unfold jF SeqAt.shaped
 rw [h.1,decide_eq_true (Qw h.2 (by omega))];rfl
theorem JP (x:Str) (ps:List D):(Rq.one x ps).toD=.tup (.str x::ps):=by rw [Rq.toD]
theorem jC (k:Nat):(Rq.call k).toD=.tup [.str "call",.int (k:Nat)]:=by rw [Rq.toD]
theorem YV (a:List Rq):(Rq.loop a).toD=.tup [.str "loop",.lst (qDs a)]:=by rw [Rq.toD]
theorem yJ (a b:List Rq):(Rq.either a b).toD=.tup [.str "either",.lst (qDs a),.lst (qDs b)]:=by rw [Rq.toD]
theorem j8 {n:Nat} {ds:List D} (h:∀ r∈ds,Fi n r):Fi (n+1) (.tup ds):=.inr ⟨ds,.inl rfl,h⟩
theorem fi_lst {n:Nat} {ds:List D} (h:∀ r∈ds,Fi n r):Fi (n+1) (.lst ds):=.inr ⟨ds,.inr rfl,h⟩
theorem gs {nb f:Nat} {x:Str} {ps:List D} (hx:x≠"call"/\x≠"loop"/\x≠"either") (hn:names.contains x=true) (hp:ps.length<=10) (hl:∀ p∈ps,Lf p=true) (hf:∀ p∈ps,Fi 2 p) (hw:wt (.tup (.str x::ps))<=150) (hn2:nds ps<=1) (hk:Dk mm x ps):GS mm nb f (.tup (.str x::ps)):=by
 have hfi:Fi 3 (.tup (.str x::ps)):=j8 fun r hr=>by
  rcases Qb.mp hr with rfl | hr
  ·exact .str hn _
  ·exact hf r hr
 exact ⟨.one x ps,(JP x ps).symm,by rw [Rq.ok];exact ⟨hx,hp,hl,hfi.pyd.mono (by omega),hk⟩,by rw [Rq.lat];trivial,by rw [Rq.rk];omega,hfi,⟨hw,by rw [Y3,nds,wx];omega⟩,.inr (.inr ⟨_,_,rfl⟩)⟩
theorem row_call {nb f k:Nat} (h1:f<=k) (h2:k<nb) (hnb:nb<=4):GS mm nb f (.tup [.str "call",.int (k:Nat)]) :=
 ⟨.call k,(jC k).symm,by rw [Rq.ok];exact h2,by rw [Rq.lat];exact h1,by rw [Rq.rk];exact Ql 1,j8 fun r hr=>by
  simp only [Qb,Qk,or_false] at hr
  rcases hr with rfl | rfl
  ·exact .str (by decide) _
  ·exact .int (Qw (m:=10) (by omega) (by decide)) _,⟨by simp only [jO,wts,Jk,wt_int];omega,by simp only [Y3,nds,wx,nd_int];omega⟩,.inr (.inl ⟨_,rfl⟩)⟩
theorem fi_nil (n:Nat):Fi (n+1) (.lst []):=fi_lst fun r hr=>by cases hr
theorem row_loop {nb f:Nat}:GS mm nb f (.tup [.str "loop",.lst []]) :=
 ⟨.loop [],by rw [YV,qDs],by rw [Rq.ok,oks];exact ⟨trivial,by simp⟩,by rw [Rq.lat,Y4];trivial,by rw [Rq.rk,rks];omega,j8 fun r hr=>by
  simp only [Qb,Qk,or_false] at hr
  rcases hr with rfl | rfl
  ·exact .str (by decide) _
  ·exact fi_nil 1,⟨by simp only [jO,wts,Jk,wt_lst];omega,by simp only [Y3,nds,wx,wy];omega⟩,.inl (.inl rfl)⟩
theorem row_either {nb f:Nat}:GS mm nb f (.tup [.str "either",.lst [],.lst []]) :=
 ⟨.either [] [],by rw [yJ,qDs],by rw [Rq.ok,oks];exact ⟨⟨trivial,by simp⟩,trivial,by simp⟩,by rw [Rq.lat,Y4];exact ⟨trivial,trivial⟩,by rw [Rq.rk,rks];omega,j8 fun r hr=>by
  simp only [Qb,Qk,or_false] at hr
  rcases hr with rfl | rfl | rfl
  ·exact .str (by decide) _
  ·exact fi_nil 1
  ·exact fi_nil 1,⟨by simp only [jO,wts,Jk,wt_lst];omega,by simp only [Y3,nds,wx,wy];omega⟩,.inl (.inr rfl)⟩
theorem lenv {f:Ev->Option D} {ρ:Ev} {ds:List D} (h:f ρ=some (.lst ds)):fA YJ (zm true f) ρ=some (.int (ds.length:Nat)):=by rw [fA_,Z9 h,oB,gLen_]
theorem deed_ok (c:Int) {many nb f:Nat} (hm:many<=6) {later:List (Nat×Int)} (hl:LatOk nb f later):∃ d,m'deed [.int c,.int (many:Nat),YR later]=some d/\GS many nb f d:=by
 suffices h:Wo (m'deed [.int c,.int (many:Nat),YR later]) (GS many nb f) by
  obtain ⟨d,e,q⟩:=h
  exact ⟨d,e,q⟩
 unfold m'deed b'deed
 rw [yp]
 refine ⟨rfl,?_⟩
 simp only [Za,zMap,zLen,List.replicate,zApp,QC,Nat.reduceAdd,Nat.reduceSub]
 rw [zv]
 refine ZU (f2v (f2v rfl rfl (yr (by decide) (by decide))) rfl (ZK (by decide))) ?_
 simp only [zSet,zj]
 generalize c / 8 % 13=kd
 rw [zv]
 refine GD (andc (zW (f2v rfl rfl gt_)) fun _=>zW (f2v rfl Gw (ne_nil (lat_py later)))) (fun e=>?_) (fun _=>?_)
 ·simp only [QO,decide_eq_true_eq,Bool.not_eq_true',List.isEmpty_eq_false_iff,ne_eq,List.map_eq_nil_iff] at e
  have hpos:0<later.length:=List.length_pos_iff.mpr e.2
  have ec:yv 1 (zm true (zb 2)) (zZ 5) jc (Zo (zf (fC (.str "call")) (zf (fIx (zm false (zb 5)) (fC (.int 0))) zu))) [some (.int c),some (.int (many:Nat)),some (YR later),some (.int kd),none]=some (.lst (later.map fun p=>.tup [.str "call",.int (p.1:Nat)])):=by
   have:=JH (k:=1) (fl:=zm true (zb 2)) (u:=zZ 5) (c:=jc) (e:=Zo (zf (fC (.str "call")) (zf (fIx (zm false (zb 5)) (fC (.int 0))) zu))) (ρ:=[some (.int c),some (.int (many:Nat)),some (YR later),some (.int kd),none]) (later.map fun p=>(jn p,.tup [.str "call",.int (p.1:Nat)])) (fun ρ=>∃ z:Option D,ρ=[some (.int c),some (.int (many:Nat)),some (YR later),some (.int kd),none,z])
    ((Z9 (ds:=later.map jn) rfl).trans (by rw [Pg];rfl)) (by rw [Qj];have:=hl.few;omega) ⟨none,rfl⟩ (by
     rintro p ρ hp ⟨z,rfl⟩
     obtain ⟨x,hx,rfl⟩:=QL.mp hp
     exact ⟨_,rfl,rfl,yt rfl (Zr (ZQ (zL rfl)) rfl (zD (j:=0) rfl)),_,rfl⟩)
   rw [this,Pg]
   rfl
  obtain ⟨d,hd,ed⟩:=at_mod (L:=later.map fun p=>.tup [.str "call",.int (p.1:Nat)]) (c:=c / 104) (by rw [Qj];exact hpos)
  rw [Qj] at ed
  obtain ⟨p,hp,rfl⟩:=QL.mp hd
  refine WP (wY (Zr (Z9 ec) (f2v (f2v rfl rfl (yr (by decide) (by decide))) (lenv (ds:=later.map jn) rfl) (by rw [Qj];exact ZK (by omega))) ed) rfl) ?_
  exact row_call (hl.mem p hp).1 (hl.mem p hp).2 hl.few2
 ·rw [ZA,zE,zj,zv]
  refine GD (zW (f2v rfl rfl jp)) (fun e=>?_) (fun _=>?_)
  ·exact WP (J0 rfl Gw Gw) row_either
  ·rw [ZA,zE,zj,zv]
   refine GD (zW (f2v rfl rfl jp)) (fun e=>?_) (fun _=>?_)
   ·exact WP (yt rfl Gw) row_loop
   ·rw [ZA,zE,zj,zv]
    refine GD (andc (zW (f2v rfl rfl jp)) fun _=>zW (f2v (f2v (f2v rfl rfl (yr (by decide) (by decide))) rfl (ZK (by decide))) rfl jp)) (fun e=>?_) (fun _=>?_)
    ·exact WP (wY (tup1_ rfl) rfl) (gs (ps:=[]) (by decide) (by decide) (by simp) (fun p hp=>by cases hp) (fun p hp=>by cases hp) (by simp only [jO,wts,Jk];omega) (by simp only [nds];omega) (.inr (.inl ⟨rfl,rfl⟩)))
    ·rw [ZA,zE,zj,zv]
     refine GD (orv (zW (f2v rfl rfl jp)) fun _=>zW (f2v rfl rfl jp)) (fun e=>?_) (fun e=>?_)
     ·exact WP (wY (tup1_ rfl) rfl) (gs (ps:=[]) (by decide) (by decide) (by simp) (fun p hp=>by cases hp) (fun p hp=>by cases hp) (by simp only [jO,wts,Jk];omega) (by simp only [nds];omega) (.inl ⟨rfl,rfl⟩))
     ·rw [ZA,zE,zj,zv]
      simp only [P5,decide_eq_false_iff_not] at e
      have hpos:(0:Int)<(many:Nat):=by omega
      have q0:=QA (c / 104) (show ((many:Nat):Int)≠0 by omega)
      have q1:=Qx (c / 104) hpos
      refine ZU (f2v (f2v rfl rfl (yr (by decide) (by decide))) rfl (ZK hpos)) ?_
      simp only [zSet,zj]
      generalize c / 104 % ((many:Nat):Int)=box at q0 q1
      have fb:Fi 2 (.int box):=.int (Qw (m:=10) (by omega) (by decide)) _
      rw [zv]
      refine GD (andc (zW (f2v rfl rfl gt_)) fun _=>zW (f2v rfl rfl lt_)) (fun _=>?_) (fun _=>?_)
      ·refine WP (wY (yt rfl rfl) rfl) (gs (ps:=[.int box]) (by decide) (by decide) (by simp) (fun p hp=>?_) (fun p hp=>?_) (by simp only [jO,wts,Jk,wt_int];omega) (by simp only [nds,nd_int];omega) (.inr (.inr (.inl ⟨box.toNat,rfl,by rw [Pm q0],by omega⟩))))
       ·rw [Qv.mp hp];rfl
       ·rw [Qv.mp hp];exact fb
      ·rw [ZA,zE,zj]
       obtain ⟨ns,el,hln,hx⟩:=line_ok (c / 13) hm
       refine WP (wY (J0 rfl rfl (fA2 (f2v rfl rfl (yr (by decide) (by decide))) rfl el)) (by simp [D.flat,YL,wA])) (gs (ps:=[.int box,.tup (ns.map .int)]) (by decide) (by decide) (by simp) (fun p hp=>?_) (fun p hp=>?_) (by simp only [jO,wts,Jk,wt_int,wts_ints];omega) (by simp only [nds,nd_int,Y3,nds_ints];omega) (.inr (.inr (.inr ⟨box.toNat,ns,rfl,by rw [Pm q0],by omega,hln,hx⟩))))
       ·simp only [Qb,Qk,or_false] at hp
        rcases hp with rfl | rfl <;> rfl
       ·simp only [Qb,Qk,or_false] at hp
        rcases hp with rfl | rfl
        ·exact fb
        ·refine j8 fun r hr=>?_
         obtain ⟨x,hx',rfl⟩:=QL.mp hr
         exact .int (Qw (hx x hx') (by decide)) _
variable {mm:Nat}
def Gq (mm nb f n:Nat) (d:D):Prop:=∃ t:Rq,d=t.toD/\t.ok mm nb/\t.lat f/\t.rk r0<=n/\Fi (2*n+3) d
section
variable {nb f:Nat}
theorem Gq.mono {n m:Nat} {d:D} (h:Gq mm nb f n d) (hm:n<=m):Gq mm nb f m d:=by
 obtain ⟨t,a,b,c,e,g⟩:=h
 exact ⟨t,a,b,c,by omega,g.mono (by omega)⟩
theorem GS.gq {d:D} (h:GS mm nb f d) {n:Nat} (hn:1<=n):Gq mm nb f n d:=by
 obtain ⟨t,a,b,c,e,g,_⟩:=h
 exact ⟨t,a,b,c,by omega,g.mono (by omega)⟩
theorem wW {n:Nat}:∀ {ds:List D},(∀ r∈ds,Gq mm nb f n r)->∃ ts:List Rq,ds=qDs ts/\oks mm nb ts/\Y4 f ts/\rks r0 ts<=n/\ts.length=ds.length
 | [],_=>⟨[],by rw [qDs],by rw [oks];trivial,by rw [Y4];trivial,by rw [rks];omega,rfl⟩
 | d::ds,h=>by
  obtain ⟨t,a,b,c,e,_⟩:=h d Qt
  obtain ⟨ts,a',b',c',e',l'⟩:=wW fun r hr=>h r (Qd _ hr)
  exact ⟨t::ts,by rw [qDs,<- a,<- a'],by rw [oks];exact ⟨b,b'⟩,by rw [Y4];exact ⟨c,c'⟩,by rw [rks];omega,by simp [l']⟩
theorem gq_fi {n:Nat} {ds:List D} (h:∀ r∈ds,Gq mm nb f n r):Fi (2*n+4) (.lst ds):=fi_lst fun r hr=>by obtain ⟨_,_,_,_,_,g⟩:=h r hr;exact g
theorem gq_loop {n:Nat} {ds:List D} (hl:ds.length<=100) (h:∀ r∈ds,Gq mm nb f n r):Gq mm nb f (n+1) (.tup [.str "loop",.lst ds]):=by
 obtain ⟨ts,rfl,b,c,e,l⟩:=wW h
 refine ⟨.loop ts,(YV ts).symm,by rw [Rq.ok];exact ⟨b,by omega⟩,by rw [Rq.lat];exact c,by rw [Rq.rk];omega,?_⟩
 refine j8 (n:=2*n+4) fun r hr=>?_
 simp only [Qb,Qk,or_false] at hr
 rcases hr with rfl | rfl
 ·exact .str (by decide) _
 ·exact gq_fi h
theorem JV {n:Nat} {as bs:List D} (la:as.length<=100) (ha:∀ r∈as,Gq mm nb f n r) (lb:bs.length<=100) (hb:∀ r∈bs,Gq mm nb f n r):Gq mm nb f (n+1) (.tup [.str "either",.lst as,.lst bs]):=by
 obtain ⟨ts,rfl,b,c,e,l⟩:=wW ha
 obtain ⟨us,rfl,b',c',e',l'⟩:=wW hb
 refine ⟨.either ts us,(yJ ts us).symm,by rw [Rq.ok];exact ⟨⟨b,by omega⟩,b',by omega⟩,by rw [Rq.lat];exact ⟨c,c'⟩,by rw [Rq.rk];omega,?_⟩
 refine j8 (n:=2*n+4) fun r hr=>?_
 simp only [Qb,Qk,or_false] at hr
 rcases hr with rfl | rfl | rfl
 ·exact .str (by decide) _
 ·exact gq_fi ha
 ·exact gq_fi hb
def FrOk (mm nb f m n:Nat) (fr:Fr):Prop:=(fr.x="loop"/\fr.pre=[]/\fr.post=[])\/(fr.x="either"/\fr.pre=[]/\fr.post=[.lst []])\/(fr.x="either"/\fr.post=[]/\∃ a,fr.pre=[.lst a]/\a.length<=m/\∀ r∈a,Gq mm nb f n r)
def Fq (mm nb f dp m:Nat):Nat->List Fr->Prop
 | n,[]=>n=dp
 | n,fr::fs=>FrOk mm nb f m n fr/\fr.done.length+1<=m/\(∀ r∈fr.done,Gq mm nb f (n+1) r)/\Fq mm nb f dp m (n+1) fs
structure Zt (mm nb f dp m n:Nat) (top:List D) (fs:List Fr):Prop where
 len:top.length<=m
 gq:∀ r∈top,Gq mm nb f n r
 pos:1<=n
 fq:Fq mm nb f dp m n fs
variable {dp:Nat}
theorem FrOk.up {m n:Nat} {fr:Fr} (h:FrOk mm nb f m n fr):FrOk mm nb f (m+1) n fr:=by
 rcases h with h | h | ⟨h1,h2,a,h3,h4,h5⟩
 ·exact .inl h
 ·exact .inr (.inl h)
 ·exact .inr (.inr ⟨h1,h2,a,h3,by omega,h5⟩)
theorem Fq.up {m:Nat}:∀ {n:Nat} {fs:List Fr},Fq mm nb f dp m n fs->Fq mm nb f dp (m+1) n fs
 | n,[],h=>h
 | n,fr::fs,⟨a,b,c,d⟩=>⟨a.up,by omega,c,d.up⟩
theorem Fq.sum {m:Nat}:∀ {n:Nat} {fs:List Fr},Fq mm nb f dp m n fs->n+fs.length=dp
 | n,[],h=>h
 | n,fr::fs,⟨_,_,_,d⟩=>by have:=d.sum;simp only [Qe];omega
theorem Zt.up {m n:Nat} {top:List D} {fs:List Fr} (z:Zt mm nb f dp m n top fs):Zt mm nb f dp (m+1) n top fs:=⟨Nat.le_succ_of_le z.len,z.gq,z.pos,z.fq.up⟩
theorem Zt.row {m n:Nat} {top:List D} {fr:Fr} {fs:List Fr} (z:Zt mm nb f dp m n top (fr::fs)) (hm:m<=100):Zt mm nb f dp m (n+1) (shut fr top) fs:=by
 obtain ⟨a,b,c,d⟩:=z.fq
 refine ⟨?_,fun r hr=>?_,by omega,d⟩
 ·unfold shut;rw [Qi];simp only [Qe,Qz];omega
 ·unfold shut at hr
  rcases QI.mp hr with hr | hr
  ·exact c r hr
  ·rw [Qv.mp hr]
   have hl:=z.len
   rcases a with ⟨h1,h2,h3⟩ | ⟨h1,h2,h3⟩ | ⟨h1,h2,e,h3,h4,h5⟩
   ·rw [h1,h2,h3];exact gq_loop (by omega) z.gq
   ·rw [h1,h2,h3];exact JV (by omega) z.gq (by simp) fun r hr=>by cases hr
   ·rw [h1,h2,h3];exact JV (by omega) h5 (by omega) z.gq
theorem Zt.shut {m:Nat} (hm:m<=100):∀ {fs:List Fr} {n:Nat} {top:List D},Zt mm nb f dp m n top fs->(ZI top fs).length<=m/\∀ r∈ZI top fs,Gq mm nb f dp r
 | [],n,top,z=>by
  have e:n=dp:=z.fq
  subst e
  exact ⟨z.len,z.gq⟩
 | fr::fs,n,top,z=>by rw [ZI];exact Zt.shut hm (z.row hm)
theorem JN:∀ (fs:List Fr) (top:List D),wts (ZI top fs)=wts top+wts (ZI [] fs)
 | [],top=>by rw [ZI,ZI];simp only [wts];omega
 | fr::fs,top=>by
  rw [ZI,ZI,JN fs (M.shut fr top),JN fs (M.shut fr [])]
  unfold M.shut
  simp only [wF,wts,jO,wt_lst]
  omega
theorem JU:∀ (fs:List Fr) (top:List D),nds (ZI top fs)=nds top+nds (ZI [] fs)
 | [],top=>by rw [ZI,ZI];simp only [nds];omega
 | fr::fs,top=>by
  rw [ZI,ZI,JU fs (M.shut fr top),JU fs (M.shut fr [])]
  unfold M.shut
  simp only [nds_app,nds,Y3,wy]
  omega
theorem inV2 {x:Str} (h1:x≠"either") (h2:x≠"loop"):inV (.str x) JB=false:=by
 unfold inV JB
 simp only [Pk,List.any_nil,Bool.or_false,P5]
 exact ⟨by simp [eqV];exact fun e=>h1 e.symm,by simp [eqV];exact fun e=>h2 e.symm⟩
theorem add_ok {m n:Nat} {top:List D} {fs:List Fr} {d:D} (z:Zt mm nb f dp m n top fs) (hd:GS mm nb f d) (hm:m<100) (hdp:dp<=10):∃ top' fs' n',addQ (dp:Nat) d top fs=some (top',fs')/\Zt mm nb f dp (m+1) n' top' fs'/\ZI top' fs'=ZI (top++[d]) fs:=by
 have hg:=hd.gq z.pos
 have hl:=z.len
 have hs:=z.fq.sum
 have zup:Zt mm nb f dp (m+1) n (top++[d]) fs:=⟨by rw [Qi];simp only [Qe,Qz];omega,fun r hr=>by
  rcases QI.mp hr with hr | hr
  ·exact z.gq r hr
  ·rw [Qv.mp hr];exact hg,z.pos,z.fq.up⟩
 have htop:top.length<sizeLine:=jg (by omega)
 obtain ⟨t,rfl,ok,_,_,_,_,hk⟩:=hd
 have hn:=z.pos
 have fit:∀ {x:Str} {ps:List D},FrOk mm nb f (m+1) (n - 1) ⟨top,x,[],ps⟩->((fs.length+1:Nat):Int)<(dp:Nat)->Zt mm nb f dp (m+1) (n - 1) [] (⟨top,x,[],ps⟩::fs):=fun hF hlt =>
  ⟨by simp,fun r hr=>(by cases hr),by omega,hF,by simp only;omega,fun r hr=>by rw [show n - 1+1=n by omega];exact z.gq r hr,by rw [show n - 1+1=n by omega];exact z.fq.up⟩
 rcases hk with (rfl | rfl) | ⟨k,rfl⟩ | ⟨x,ps,rfl⟩
 ·rw [YV,qDs] at zup ⊢
  unfold addQ
  simp only
  rw [if_pos ⟨htop,by omega,by simp⟩]
  by_cases ho:inV (.str "loop") JB=true/\((fs.length+1:Nat):Int)<(dp:Nat)
  ·rw [if_pos ho,if_pos ⟨by simp,by simp⟩]
   exact ⟨_,_,n - 1,rfl,fit (.inl ⟨rfl,rfl,rfl⟩) ho.2,by rw [ZI];rfl⟩
  ·rw [if_neg ho]
   exact ⟨_,_,n,rfl,zup,rfl⟩
 ·rw [yJ,qDs] at zup ⊢
  unfold addQ
  simp only
  rw [if_pos ⟨htop,by omega,by simp⟩]
  by_cases ho:inV (.str "either") JB=true/\((fs.length+1:Nat):Int)<(dp:Nat)
  ·rw [if_pos ho,if_pos ⟨by simp,by simp⟩]
   exact ⟨_,_,n - 1,rfl,fit (.inr (.inl ⟨rfl,rfl,rfl⟩)) ho.2,by rw [ZI];rfl⟩
  ·rw [if_neg ho]
   exact ⟨_,_,n,rfl,zup,rfl⟩
 ·rw [jC] at zup ⊢
  unfold addQ
  simp only
  rw [if_pos ⟨htop,by omega,by simp⟩,if_neg (fun h=>by rw [inV2 (by decide) (by decide)] at h;cases h.1)]
  exact ⟨_,_,n,rfl,zup,rfl⟩
 ·rw [Rq.ok] at ok
  rw [JP] at zup ⊢
  unfold addQ
  simp only
  rw [if_pos ⟨htop,by omega,by omega⟩,if_neg (fun h=>by rw [inV2 ok.1.2.2 ok.1.2.1] at h;cases h.1)]
  exact ⟨_,_,n,rfl,zup,rfl⟩
theorem pop_ok {m n:Nat} {top:List D} {fs:List Fr} (z:Zt mm nb f dp m n top fs) (hm:m<=100) (hp:0<fs.length):∃ top' fs' n',popQ top fs=some (top',fs')/\Zt mm nb f dp m n' top' fs'/\ZI top' fs'=ZI top fs:=by
 cases fs with
 | nil=>simp at hp
 | cons fr fs =>
  obtain ⟨a,b,c,d⟩:=id z.fq
  rcases a with ⟨h1,h2,h3⟩ | ⟨h1,h2,h3⟩ | ⟨h1,h2,e,h3,h4,h5⟩
  ·refine ⟨_,_,n+1,by rw [popQ,h3],z.row hm,by rw [ZI]⟩
  ·refine ⟨[],⟨fr.done,fr.x,fr.pre++[.lst top],[]⟩::fs,n,by rw [popQ,h3],⟨by simp,fun r hr=>(by cases hr),z.pos,.inr (.inr ⟨h1,rfl,top,by rw [h2];rfl,z.len,z.gq⟩),b,c,d⟩,?_⟩
   rw [ZI,ZI]
   unfold M.shut
   simp only
   rw [h2,h3]
   rfl
  ·refine ⟨_,_,n+1,by rw [popQ,h2],z.row hm,by rw [ZI]⟩
def Draws (mm nb f:Nat) (ρ:Ev) (F c1 c2:Ev->Option D):Prop:=∀ (u c:Int),∃ (d k1:D) (k:Int),F ((evQ ρ u).set 8 (some (.int c)))=some d/\GS mm nb f d/\c1 (((evQ ρ u).set 8 (some (.int c))).set 9 (some d))=some k1/\c2 ((((evQ ρ u).set 8 (some (.int c))).set 9 (some d)).set 10 (some k1))=some (.int k)
theorem step_ok {ρ:Ev} {F c1 c2:Ev->Option D} (hD:Draws mm nb f ρ F c1 c2) {m n:Nat} {top:List D} {fs:List Fr} {c u most:Int} (z:Zt mm nb f dp m n top fs) (hm:m<100) (hdp:dp<=10):∃ top' fs' n' u',stepQ (dp:Nat) most ρ F c1 c2 c top fs u=some ((top',fs'),u')/\Zt mm nb f dp (m+1) n' top' fs'/\wts (ZI top' fs')<=wts (ZI top fs)+151/\nds (ZI top' fs')<=nds (ZI top fs)+2:=by
 unfold stepQ
 by_cases hc:c % 8=0/\0<fs.length
 ·rw [if_pos hc]
  obtain ⟨top',fs',n',e,z',hcl⟩:=pop_ok z (by omega) hc.2
  exact ⟨top',fs',n',u,by rw [e];rfl,z'.up,by rw [hcl];omega,by rw [hcl];omega⟩
 ·rw [if_neg hc]
  obtain ⟨d,k1,k,e1,hd,e2,e3⟩:=hD u c
  have hr:isRowT d=true:=by
   obtain ⟨t,rfl,_⟩:=hd
   cases t with
   | one x ps=>rw [JP];rfl
   | call k=>rw [jC];rfl
   | loop a=>rw [YV];rfl
   | either a b=>rw [yJ];rfl
  rw [e1,oB,if_pos hr,e2,oB,e3,oB,gh,oB]
  by_cases hu:u+k<=most
  ·rw [if_pos hu]
   obtain ⟨top',fs',n',e,z',hcl⟩:=add_ok z hd hm hdp
   obtain ⟨_,_,_,_,_,_,hw,_⟩:=hd
   refine ⟨top',fs',n',u+k,by rw [e];rfl,z',?_,?_⟩
   ·rw [hcl,JN fs (top++[d]),JN fs top,wF]
    simp only [wts]
    omega
   ·rw [hcl,JU fs (top++[d]),JU fs top,nds_app]
    simp only [nds]
    omega
  ·rw [if_neg hu]
   exact ⟨top,fs,n,u,rfl,z.up,by omega,by omega⟩
theorem goQ_ok {ρ:Ev} {F c1 c2:Ev->Option D} (hD:Draws mm nb f ρ F c1 c2) {most:Int} (hdp:dp<=10):∀ (cs:List Int) (m n:Nat) (top:List D) (fs:List Fr) (u:Int),Zt mm nb f dp m n top fs->m+cs.length<=100->∃ out u',goQ (dp:Nat) most ρ F c1 c2 cs top fs u=some (out,u')/\out.length<=m+cs.length/\(∀ r∈out,Gq mm nb f dp r)/\wts out<=wts (ZI top fs)+151*cs.length/\nds out<=nds (ZI top fs)+2*cs.length
 | [],m,n,top,fs,u,z,hm=>by
  obtain ⟨h1,h2⟩:=z.shut (by simp at hm;omega)
  exact ⟨_,u,by rw [goQ],by simpa using h1,h2,by simp,by simp⟩
 | c::cs,m,n,top,fs,u,z,hm=>by
  simp only [Qe] at hm
  obtain ⟨top',fs',n',u',e,z',hw,hn⟩:=step_ok (c:=c) (u:=u) (most:=most) hD z (by omega) hdp
  obtain ⟨out,u2,e2,hl,hg,hw2,hn2⟩:=goQ_ok hD hdp cs (m+1) n' top' fs' u' z' (by omega)
  refine ⟨out,u2,?_,by simp only [Qe];omega,hg,by simp only [Qe];omega,by simp only [Qe];omega⟩
  rw [goQ,e,oB]
  exact e2
end
variable {mm:Nat}
theorem eqD_ii (a b:Int):∃ w:Bool,WH (.int a) (.int b)=some (.bl w):=by
 have h:∀ i:Int,jF (.int i)=true:=fun i=>by
  unfold jF SeqAt.shaped
  rw [(Py.int i 0).1,decide_eq_true (Qw (Py.int i 0).2 (by omega))];rfl
 exact ⟨_,by unfold WH;rw [if_pos ⟨h a,h b⟩]⟩
theorem cost_comp {nb f:Nat} {d:D} (hd:GS mm nb f d):∀ (later:List (Nat×Int)) (ρ:Ev),ρ.length=12->ρ[9]?=some (some d)->∃ vs:List Int,Yh (zZ 11) (w6 (zG (f2 ZS (fIx (zm false (zb 9)) (fC (.int 0))) (fC (.str "call")))) (zG (f2 WH (fIx (zm false (zb 11)) (fC (.int 0))) (fIx (zm false (zb 9)) (fC (.int 1)))))) (fIx (zm false (zb 11)) (fC (.int 1))) (later.map jn) ρ=some (vs.map .int)/\vs.length<=later.length
 | [],ρ,_,_=>⟨[],rfl,Ql _⟩
 | p::later,ρ,hl,h9=>by
  have l1:(ρ.set 11 (some (jn p))).length=12:=by simpa using hl
  have h9':(ρ.set 11 (some (jn p)))[9]?=some (some d):=by rw [zd (by decide)];exact h9
  have h11:(ρ.set 11 (some (jn p)))[11]?=some (some (jn p)):=zN (by omega)
  obtain ⟨vs,e,hv⟩:=cost_comp hd later _ l1 h9'
  have et:∃ b,w6 (zG (f2 ZS (fIx (zm false (zb 9)) (fC (.int 0))) (fC (.str "call")))) (zG (f2 WH (fIx (zm false (zb 11)) (fC (.int 0))) (fIx (zm false (zb 9)) (fC (.int 1))))) (ρ.set 11 (some (jn p)))=some b:=by
   obtain ⟨t,rfl,ok,_,_,_,_,hk⟩:=hd
   rcases hk with (rfl | rfl) | ⟨k,rfl⟩ | ⟨x,ps,rfl⟩
   ·rw [YV] at h9'
    exact ⟨_,andc (kno h9' (by decide)) (b:=false) fun z=>by cases z⟩
   ·rw [yJ] at h9'
    exact ⟨_,andc (kno h9' (by decide)) (b:=false) fun z=>by cases z⟩
   ·rw [jC] at h9'
    obtain ⟨w,ew⟩:=eqD_ii (p.1:Nat) (k:Nat)
    exact ⟨_,andc (kis h9') fun _=>zW (f2v (Zr (ZQ (zL h11)) rfl (zD (j:=0) rfl)) (Zr (ZQ (zL h9')) rfl (zD (j:=1) rfl)) ew)⟩
   ·rw [Rq.ok] at ok
    rw [JP] at h9'
    exact ⟨_,andc (kno h9' ok.1.1) (b:=false) fun z=>by cases z⟩
  obtain ⟨b,eb⟩:=et
  rw [Qq,Yh,zZ,oB,eb,oB]
  cases b with
  | true =>
   rw [if_pos rfl,Zr (d:=.int p.2) (ZQ (zL h11)) rfl (zD (j:=1) rfl),oB,e]
   exact ⟨p.2::vs,rfl,by simp;omega⟩
  | false =>
   rw [if_neg (by simp),e]
   exact ⟨vs,rfl,by simp;omega⟩
theorem draws_ok {nb f many:Nat} (hm:many<=6) {later:List (Nat×Int)} (hl:LatOk nb f later) (cells:D) (deep most:Int):Draws many nb f (Za 11 [cells,.int (many:Nat),YR later,.int deep,.int most]) (fA m'deed (zf (zb 8) (zf (zb 1) (zf (zb 2) zu)))) (fA wX (zm true (yv 1 (zm true (zb 2)) (zZ 11) (w6 (zG (f2 ZS (fIx (zm false (zb 9)) (fC (.int 0))) (fC (.str "call")))) (zG (f2 WH (fIx (zm false (zb 11)) (fC (.int 0))) (fIx (zm false (zb 9)) (fC (.int 1)))))) (fIx (zm false (zb 11)) (fC (.int 1)))))) (f2 ZY (zb 10) (fA gInt (zf (Y6 (f2 jM (fIx (zm false (zb 9)) (fC (.int 0))) (fC (.str "call")))) zu))):=by
 intro u c
 obtain ⟨d,ed,hd⟩:=deed_ok c hm hl
 obtain ⟨vs,ev,hv⟩:=cost_comp hd later ([some cells,some (.int (many:Nat)),some (YR later),some (.int deep),some (.int most),none,none,some (.int u),some (.int c),some d,none]++List.replicate 1 none) rfl rfl
 have en:∃ b:Bool,f2 jM (fIx (zm false (zb 9)) (fC (.int 0))) (fC (.str "call")) [some cells,some (.int (many:Nat)),some (YR later),some (.int deep),some (.int most),none,none,some (.int u),some (.int c),some d,some (.int vs.sum)]=some (.bl b):=by
  obtain ⟨t,rfl,_⟩:=hd
  have key:∀ (x:Str) (ps:List D),t.toD=.tup (.str x::ps)->_:=fun x ps e=>(⟨_,f2v (Jg (x:=x) (ps:=ps) (by rw [e];rfl)) rfl rfl⟩:∃ b:Bool,f2 jM (fIx (zm false (zb 9)) (fC (.int 0))) (fC (.str "call")) [some cells,some (.int (many:Nat)),some (YR later),some (.int deep),some (.int most),none,none,some (.int u),some (.int c),some t.toD,some (.int vs.sum)]=some (.bl b))
  cases t with
  | one x ps=>exact key _ _ (JP x ps)
  | call k=>exact key _ _ (jC k)
  | loop a=>exact key _ _ (YV a)
  | either a b=>exact key _ _ (yJ a b)
 obtain ⟨b,eb⟩:=en
 refine ⟨d,.int vs.sum,vs.sum+(if b then 1 else 0),fA3 rfl rfl rfl ed,hd,?_,?_⟩
 ·show fA wX _ [some cells,some (.int (many:Nat)),some (YR later),some (.int deep),some (.int most),none,none,some (.int u),some (.int c),some d,none]=_
  have hfew:=hl.few
  have ec:yv 1 (zm true (zb 2)) (zZ 11) (w6 (zG (f2 ZS (fIx (zm false (zb 9)) (fC (.int 0))) (fC (.str "call")))) (zG (f2 WH (fIx (zm false (zb 11)) (fC (.int 0))) (fIx (zm false (zb 9)) (fC (.int 1)))))) (fIx (zm false (zb 11)) (fC (.int 1))) [some cells,some (.int (many:Nat)),some (YR later),some (.int deep),some (.int most),none,none,some (.int u),some (.int c),some d,none]=some (.lst (vs.map .int)):=by
   rw [Wz,Z9 (ds:=later.map jn) rfl,oB,ev,oB]
   exact J8 (yg (by rw [Qj];omega))
  rw [fA_,Z9 ec,oB]
  exact gSum_
 ·exact f2v (x:=.int vs.sum) (y:=.int (if b then 1 else 0)) rfl (fA1 (wY eb rfl) rfl) rfl
theorem body_ok {nb f many dp:Nat} (hm:many<=6) {later:List (Nat×Int)} (hl:LatOk nb f later) {cs:List Int} (hc:cs.length<=20) (hd1:1<=dp) (hd2:dp<=10) (most:Int):∃ (out:List D) (u:Int),m'body [.lst (cs.map .int),.int (many:Nat),YR later,.int (dp:Nat),.int most]=some (.tup [.lst out,.int u])/\out.length<=20/\(∀ r∈out,Gq many nb f dp r)/\wts out<=151*cs.length/\nds out<=2*cs.length:=by
 obtain ⟨out,u,e,h1,h2,h3,h4⟩:=goQ_ok (draws_ok hm hl (.lst (cs.map .int)) (dp:Nat) most) (most:=most) hd2 cs 0 dp [] [] 0 ⟨by simp,fun r hr=>(by cases hr),hd1,rfl⟩ (by omega)
 refine ⟨out,u,?_,by omega,h2,by simpa [ZI,wts] using h3,by simpa [ZI,nds] using h4⟩
 refine WU rfl ?_
 unfold b'body mB15
 show Option.bind (J6 (cs.map .int)) _=_
 rw [Wv,oB]
 show Option.bind (some ((dp:Nat):Int)) _=_
 rw [oB]
 show Option.bind (some most) _=_
 rw [oB,if_pos (by rfl),e]
 rfl
variable {mm:Nat}
theorem fA5 {ρ:Ev} {fa fb fc fd fe:Ev->Option D} {x y z t w d:D} {g:List D->Option D} (h1:fa ρ=some x) (h2:fb ρ=some y) (h3:fc ρ=some z) (h4:fd ρ=some t) (h5:fe ρ=some w) (e:g [x,y,z,t,w]=some d):fA g (zf fa (zf fb (zf fc (zf fd (zf fe zu))))) ρ=some d:=by
 rw [fA_,ZJ,h1,oB,ZJ,h2,oB,ZJ,h3,oB,ZJ,h4,oB,ZJ,h5];exact e
def hb (n k:Nat):Nat:=if k=0 then (if n=1 then 6 else 3) else 2
structure BodG (mm n k:Nat) (ds:List D):Prop where
 len:ds.length<=20
 gq:∀ r∈ds,Gq mm n (k+1) (hb n k) r
 wt:wts ds<=2500
 nd:nds ds<=if k=0 then 40 else 8
theorem wrap_v {ρ:Ev} {d:D} (h:ρ[12]?=some (some d)):ZR (zf (Zo (zf (fC (.str "either")) (zf (ZR zu) (zf (ZR (zf (Zo (zf (fC (.str "loop")) (zf (ZR (zf (Zo (zf (fC (.str "either")) (zf (zb 12) (zf (ZR zu) zu)))) zu)) zu))) zu)) zu)))) zu) ρ=some (.lst [.tup [.str "either",.lst [],.lst [.tup [.str "loop",.lst [.tup [.str "either",d,.lst []]]]]]]) :=
 jH (J0 rfl Gw (jH (yt rfl (jH (J0 rfl (zL h) Gw)))))
theorem wrap_g {out:List D} (hl:out.length<=20) (hg:∀ r∈out,Gq mm 1 1 3 r) (hw:wts out<=2265) (hn:nds out<=30):BodG mm 1 0 [.tup [.str "either",.lst [],.lst [.tup [.str "loop",.lst [.tup [.str "either",.lst out,.lst []]]]]]]:=by
 have one:∀ {n:Nat} {d:D},Gq mm 1 1 n d->∀ r∈[d],Gq mm 1 1 n r:=fun h r hr=>by rw [Qv.mp hr];exact h
 have non:∀ {n:Nat},∀ r∈([]:List D),Gq mm 1 1 n r:=fun r hr=>by cases hr
 have g1:Gq mm 1 1 4 (.tup [.str "either",.lst out,.lst []]):=JV (n:=3) (by omega) hg (by simp) non
 have g2:Gq mm 1 1 5 (.tup [.str "loop",.lst [.tup [.str "either",.lst out,.lst []]]]):=gq_loop (n:=4) (by simp) (one g1)
 have g3:Gq mm 1 1 6 (.tup [.str "either",.lst [],.lst [.tup [.str "loop",.lst [.tup [.str "either",.lst out,.lst []]]]]]):=JV (n:=5) (by simp) non (by simp) (one g2)
 refine ⟨by simp,one g3,?_,?_⟩
 ·simp only [wts,jO,wt_lst,Jk];omega
 ·simp only [nds,Y3,wy,wx]
  show _<=(if (0:Nat)=0 then 40 else 8)
  rw [if_pos rfl]
  omega
theorem prog_ok (ns:List Int) {at_ many:Nat} (ha:at_<=100) (hm:many<=6) (most:Int):∃ L:List (List D),m'program [.scr ns,.int (at_:Nat),.int (many:Nat),.int most]=some (.tup [.int (many:Nat),.lst (L.map .lst)])/\1<=L.length/\L.length<=4/\∀ k,k<L.length->BodG many L.length k (L.getD k []):=by
 suffices h:Wo (m'program [.scr ns,.int (at_:Nat),.int (many:Nat),.int most]) fun d=>∃ L:List (List D),d=.tup [.int (many:Nat),.lst (L.map .lst)]/\1<=L.length/\L.length<=4/\∀ k,k<L.length->BodG many L.length k (L.getD k []) by
  obtain ⟨d,e,L,rfl,q⟩:=h
  exact ⟨L,e,q⟩
 unfold m'program b'program
 rw [yp]
 refine ⟨rfl,?_⟩
 simp only [Za,zMap,zLen,List.replicate,zApp,QC,Nat.reduceAdd,Nat.reduceSub]
 obtain ⟨v0,e0⟩:=Wb ns (at_:Nat) (by omega) (by omega)
 have p0:=QA v0 (show (4:Int)≠0 by decide)
 have p1:=Qx v0 (show (0:Int)<4 by decide)
 obtain ⟨n,hn⟩:∃ n:Nat,1+v0 % 4=n:=⟨(1+v0 % 4).toNat,by omega⟩
 have n1:1<=n:=by omega
 have n4:n<=4:=by omega
 rw [zv]
 refine ZU Gw ?_
 simp only [zSet,zj]
 rw [zv]
 refine ZU Gw ?_
 simp only [zSet,zj]
 rw [zv]
 refine ZU (d:=.int (n:Nat)) (f2v rfl (f2v (fA2 rfl rfl e0) rfl (ZK (by decide))) (Ys.trans (by rw [hn]))) ?_
 simp only [zSet,zj]
 have er:wZ (f2 WD (zb 6) (fC (.int 1))) (f1 w9 (fC (.int 1))) [some (.scr ns),some (.int (at_:Nat)),some (.int (many:Nat)),some (.int most),some (.lst []),some (.lst []),some (.int (n:Nat)),none,none,none,none,none,none,none]=some (Yw ((n:Int) - 1) n):=by
  unfold wZ
  rw [show f2 WD (zb 6) (fC (.int 1)) [some (.scr ns),some (.int (at_:Nat)),some (.int (many:Nat)),some (.int most),some (.lst []),some (.lst []),some (.int (n:Nat)),none,none,none,none,none,none,none]=some (.int ((n:Int) - 1)) from rfl,oB,show f1 w9 (fC (.int 1)) [some (.scr ns),some (.int (at_:Nat)),some (.int (many:Nat)),some (.int most),some (.lst []),some (.lst []),some (.int (n:Nat)),none,none,none,none,none,none,none]=some (.int (-1)) from rfl,oB,gh,oB,gh,oB,if_pos (by omega)]
  congr 2
  omega
 rw [zv,J4,er,oB]
 refine jq (fun i ρ=>i<=n/\∃ (L:List (List D)) (later:List (Nat×Int)) (z7 z8 z9 z10 z11 z12 z13:Option D),ρ=[some (.scr ns),some (.int (at_:Nat)),some (.int (many:Nat)),some (.int most),some (.lst (L.map .lst)),some (YR later),some (.int (n:Nat)),z7,z8,z9,z10,z11,z12,z13]/\L.length=i/\later.length=i/\(∀ p∈later,n - i<=p.1/\p.1<n)/\∀ t,t<i->BodG many n (n - i+t) (L.getD t [])) ⟨Q3 _,[],[],_,_,_,_,_,_,_,rfl,rfl,rfl,fun p hp=>(by cases hp),fun t ht=>by omega⟩ ?_ ?_
 ·rintro i d ρ hd ⟨hi,L,later,z7,z8,z9,z10,z11,z12,z13,rfl,hL,hla,hmem,hG⟩
  obtain ⟨hin,rfl⟩:=jk hd
  obtain ⟨k,hk⟩:∃ k:Nat,k=n - 1 - i:=⟨_,rfl⟩
  have ej:(n:Int) - 1 - (i:Nat)=((k:Nat):Int):=by omega
  rw [ej,YF,zE]
  simp only [zSet]
  rw [zv]
  refine ZU rfl ?_
  simp only [zSet,zj]
  rw [zv]
  refine ZU rfl ?_
  simp only [zSet,zj]
  rw [zv]
  have Zm:∀ (sz dp:Nat),sz<=(if k=0 then 15 else 4)->dp=(if k=0 then 3 else 2)->Wo (zO (Zw 10 (f2 ZY (f2 ZY (f2 ZY (zb 1) (fC (.int 1))) (f2 Yj (fC (.int 11)) (fA gInt (zf (Y6 (f2 dGt (zb 7) (fC (.int 0)))) zu)))) (f2 Yj (fC (.int 4)) (zb 7))))
    (zO (Zw 11 (yv 1 (YB (zb 8)) (zZ 14) jc (fA m'cell (zf (zb 0) (zf (f2 ZY (zb 10) (zb 14)) zu)))))
    (zO (mAsg (uTup (Jc (zZ 12) (Jc (zZ 13) uNil))) (fA m'body (zf (zb 11) (zf (zb 2) (zf (zb 5) (zf (zb 9) (zf (zb 3) zu)))))))
    (zO (mIf (w6 (zG (f2 ZS (zb 6) (fC (.int 1)))) (zG (f2 ZS (f2 yq (f2 YK (fA m'cell (zf (zb 0) (zf (zb 1) zu))) (fC (.int 108))) (fC (.int 2))) (fC (.int 1)))))
    (Zw 12 (ZR (zf (Zo (zf (fC (.str "either")) (zf (ZR zu) (zf (ZR (zf (Zo (zf (fC (.str "loop")) (zf (ZR (zf (Zo (zf (fC (.str "either")) (zf (zb 12) (zf (ZR zu) zu)))) zu)) zu))) zu)) zu)))) zu)))
    ZT)
    (zO (Zw 4 (fCat (fL (ZR (zf (zb 12) zu))) (fL (zb 4))))
    (Zw 5 (fCat (fL (ZR (zf (Zo (zf (zb 7) (zf (zb 13) zu))) zu))) (fL (zb 5))))))))
    [some (.scr ns),some (.int (at_:Nat)),some (.int (many:Nat)),some (.int most),some (.lst (L.map .lst)),some (YR later),some (.int (n:Nat)),some (.int (k:Nat)),some (.int (sz:Nat)),some (.int (dp:Nat)),z10,z11,z12,z13]) fun o=>∃ ρ2,o=.nx ρ2/\i+1<=n/\∃ (L:List (List D)) (later:List (Nat×Int)) (z7 z8 z9 z10 z11 z12 z13:Option D),ρ2=[some (.scr ns),some (.int (at_:Nat)),some (.int (many:Nat)),some (.int most),some (.lst (L.map .lst)),some (YR later),some (.int (n:Nat)),z7,z8,z9,z10,z11,z12,z13]/\L.length=i+1/\later.length=i+1/\(∀ p∈later,n - (i+1)<=p.1/\p.1<n)/\∀ t,t<i+1->BodG many n (n - (i+1)+t) (L.getD t []):=by
   intro sz dp hsz hdp
   have hsz':sz<=15:=by split at hsz <;> omega
   have hdp1:1<=dp/\dp<=3:=by split at hdp <;> omega
   obtain ⟨bg,hbg,ebg⟩:∃ bg:Nat,bg<=200/\f2 ZY (f2 ZY (f2 ZY (zb 1) (fC (.int 1))) (f2 Yj (fC (.int 11)) (fA gInt (zf (Y6 (f2 dGt (zb 7) (fC (.int 0)))) zu)))) (f2 Yj (fC (.int 4)) (zb 7)) [some (.scr ns),some (.int (at_:Nat)),some (.int (many:Nat)),some (.int most),some (.lst (L.map .lst)),some (YR later),some (.int (n:Nat)),some (.int (k:Nat)),some (.int (sz:Nat)),some (.int (dp:Nat)),z10,z11,z12,z13]=some (.int (bg:Nat)):=by
    by_cases h0:(0:Int)<(k:Nat)
    ·refine ⟨at_+1+11+4*k,by omega,f2v (f2v (f2v rfl rfl Ys) (f2v (x:=.int 11) (y:=.int 1) rfl (fA1 (x:=.bl true) (wY (f2v rfl rfl (by rw [gt_,decide_eq_true h0])) rfl) rfl) (yn (JX (by decide) (by decide)))) Ys) (f2v rfl rfl (yn (JX (by decide) (by decide)))) (Ys.trans ?_)⟩
     congr 2
    ·refine ⟨at_+1+4*k,by omega,f2v (f2v (f2v rfl rfl Ys) (f2v (x:=.int 11) (y:=.int 0) rfl (fA1 (x:=.bl false) (wY (f2v rfl rfl (by rw [gt_,decide_eq_false h0])) rfl) rfl) (yn (JX (by decide) (by decide)))) Ys) (f2v rfl rfl (yn (JX (by decide) (by decide)))) (Ys.trans ?_)⟩
     congr 2
   rw [zv]
   refine ZU ebg ?_
   simp only [zSet,zj]
   obtain ⟨cs,ecs,hcs,_⟩:=j9 (k:=1) (fl:=YB (zb 8)) (u:=zZ 14) (c:=jc) (e:=fA m'cell (zf (zb 0) (zf (f2 ZY (zb 10) (zb 14)) zu))) (ρ:=[some (.scr ns),some (.int (at_:Nat)),some (.int (many:Nat)),some (.int most),some (.lst (L.map .lst)),some (YR later),some (.int (n:Nat)),some (.int (k:Nat)),some (.int (sz:Nat)),some (.int (dp:Nat)),some (.int (bg:Nat)),z11,z12,z13]) (ds:=yl 0 sz) (fun _ _=>True) (fun ρ=>∃ z:Option D,ρ=[some (.scr ns),some (.int (at_:Nat)),some (.int (many:Nat)),some (.int most),some (.lst (L.map .lst)),some (YR later),some (.int (n:Nat)),some (.int (k:Nat)),some (.int (sz:Nat)),some (.int (dp:Nat)),some (.int (bg:Nat)),z11,z12,z13,z])
    (rng1v (n:=sz) rfl (by omega)) (by rw [ZD];omega) ⟨none,rfl⟩ (by
     rintro t d ρ hd ⟨z,rfl⟩
     obtain ⟨ht,rfl⟩:=Yq hd
     rw [YF,zE]
     simp only [zSet]
     obtain ⟨v,ev⟩:=Wb ns ((bg:Nat)+(0+(t:Nat))) (by omega) (by omega)
     exact ⟨rfl,⟨_,fA2 rfl (f2v rfl rfl Ys) ev,v,rfl,trivial⟩,_,rfl⟩)
   rw [ZD] at hcs
   rw [zv]
   refine ZU ecs ?_
   simp only [zSet,zj]
   have hlat:LatOk n (k+1) later:=⟨by omega,n4,fun p hp=>⟨by have:=(hmem p hp).1;omega,(hmem p hp).2⟩⟩
   obtain ⟨out,u,eo,o1,o2,o3,o4⟩:=body_ok (cs:=cs) (many:=many) (dp:=dp) hm hlat (by omega) (by omega) (by omega) most
   rw [zv]
   refine asg_ (fA5 rfl rfl rfl rfl rfl eo) rfl ?_
   simp only [zSet,zj]
   have fin:∀ body:List D,BodG many n k body->Wo (zO (Zw 4 (fCat (fL (ZR (zf (zb 12) zu))) (fL (zb 4)))) (Zw 5 (fCat (fL (ZR (zf (Zo (zf (zb 7) (zf (zb 13) zu))) zu))) (fL (zb 5)))) [some (.scr ns),some (.int (at_:Nat)),some (.int (many:Nat)),some (.int most),some (.lst (L.map .lst)),some (YR later),some (.int (n:Nat)),some (.int (k:Nat)),some (.int (sz:Nat)),some (.int (dp:Nat)),some (.int (bg:Nat)),some (lstI cs),some (.lst body),some (.int u)]) fun o=>∃ ρ2,o=.nx ρ2/\i+1<=n/\∃ (L:List (List D)) (later:List (Nat×Int)) (z7 z8 z9 z10 z11 z12 z13:Option D),ρ2=[some (.scr ns),some (.int (at_:Nat)),some (.int (many:Nat)),some (.int most),some (.lst (L.map .lst)),some (YR later),some (.int (n:Nat)),z7,z8,z9,z10,z11,z12,z13]/\L.length=i+1/\later.length=i+1/\(∀ p∈later,n - (i+1)<=p.1/\p.1<n)/\∀ t,t<i+1->BodG many n (n - (i+1)+t) (L.getD t []):=by
    intro body hb
    rw [zv]
    refine ZU (catv (lv (jH (d:=.lst body) rfl)) (lv (xs:=L.map .lst) rfl) (by rw [Qj];simp only [Qe,Qz];omega)) ?_
    simp only [zSet,zj]
    refine ZU (catv (lv (jH (yt (d:=.int (k:Nat)) (d':=.int u) rfl rfl))) (lv (xs:=later.map jn) rfl) (by rw [Qj];simp only [Qe,Qz];omega)) ?_
    simp only [zSet]
    refine ⟨_,rfl,by omega,body::L,(k,u)::later,_,_,_,_,_,_,_,rfl,by simp [hL],by simp [hla],fun p hp=>?_,fun t ht=>?_⟩
    ·rcases Qb.mp hp with rfl | hp
     ·simp only;omega
     ·have:=hmem p hp;omega
    ·cases t with
     | zero=>rw [show n - (i+1)+0=k by omega];simpa using hb
     | succ t =>
      rw [show n - (i+1)+(t+1)=n - i+t by omega]
      simpa using hG t (by omega)
   have bodg:¬ (n=1)\/True->(dp<=hb n k)->BodG many n k out:=fun _ hle=>⟨o1,fun r hr=>(o2 r hr).mono hle,by omega,by
    split
    ·rename_i h0;rw [if_pos h0] at hsz;omega
    ·rename_i h0;rw [if_neg h0] at hsz;omega⟩
   have hle:dp<=hb n k:=by
    unfold hb
    rw [hdp]
    split
    ·split <;> omega
    ·omega
   rw [zv]
   refine GD (andc (zW (f2v rfl rfl jp)) fun _=>zW (f2v (f2v (f2v (fA2 rfl rfl e0) rfl (yr (by decide) (by decide))) rfl (ZK (by decide))) rfl jp)) (fun e=>?_) (fun _=>?_)
   ·simp only [QO,decide_eq_true_eq] at e
    have hn1:n=1:=by omega
    have hk0:k=0:=by omega
    refine ZU (wrap_v (d:=.lst out) rfl) ?_
    simp only [zSet,zj]
    refine fin _ ?_
    subst hn1
    subst hk0
    rw [if_pos rfl] at hsz hdp
    subst hdp
    exact wrap_g o1 o2 (by omega) (by omega)
   ·rw [ZA,zE,zj]
    exact fin out (bodg (.inr trivial) hle)
  have conv:∀ {m:Ev->Option Out} {ρ:Ev},Wo (m ρ) (fun o=>∃ ρ2,o=.nx ρ2/\i+1<=n/\∃ (L:List (List D)) (later:List (Nat×Int)) (z7 z8 z9 z10 z11 z12 z13:Option D),ρ2=[some (.scr ns),some (.int (at_:Nat)),some (.int (many:Nat)),some (.int most),some (.lst (L.map .lst)),some (YR later),some (.int (n:Nat)),z7,z8,z9,z10,z11,z12,z13]/\L.length=i+1/\later.length=i+1/\(∀ p∈later,n - (i+1)<=p.1/\p.1<n)/\∀ t,t<i+1->BodG many n (n - (i+1)+t) (L.getD t []))->∃ ρ2,m ρ=some (.nx ρ2)/\i+1<=n/\∃ (L:List (List D)) (later:List (Nat×Int)) (z7 z8 z9 z10 z11 z12 z13:Option D),ρ2=[some (.scr ns),some (.int (at_:Nat)),some (.int (many:Nat)),some (.int most),some (.lst (L.map .lst)),some (YR later),some (.int (n:Nat)),z7,z8,z9,z10,z11,z12,z13]/\L.length=i+1/\later.length=i+1/\(∀ p∈later,n - (i+1)<=p.1/\p.1<n)/\∀ t,t<i+1->BodG many n (n - (i+1)+t) (L.getD t []):=fun ⟨o,e,ρ2,ho,q⟩=>⟨ρ2,by rw [e,ho],q⟩
  have s0:=QA (v0 / 3) (show (9:Int)≠0 by decide)
  have s1:=Qx (v0 / 3) (show (0:Int)<9 by decide)
  refine GD (zW (f2v rfl rfl jp)) (fun e=>?_) (fun e=>?_)
  ·simp only [decide_eq_true_eq] at e
   obtain ⟨sz,hsz⟩:∃ m:Nat,6+v0 / 3 % 9=m:=⟨(6+v0 / 3 % 9).toNat,by omega⟩
   rw [zv]
   refine ZU (d:=.int (sz:Nat)) (f2v rfl (f2v (f2v (fA2 rfl rfl e0) rfl (yr (by decide) (by decide))) rfl (ZK (by decide))) (Ys.trans (by rw [hsz]))) ?_
   simp only [zSet,zj]
   refine ZU rfl ?_
   simp only [zSet,zj]
   obtain ⟨ρ2,e2,q⟩:=conv (Zm sz 3 (by rw [if_pos (by omega)];omega) (by rw [if_pos (by omega)]))
   exact ⟨_,e2,q⟩
  ·simp only [decide_eq_false_iff_not] at e
   rw [ZA,zE,zj]
   obtain ⟨ρ2,e2,q⟩:=conv (Zm 4 2 (by rw [if_neg (by omega)];omega) (by rw [if_neg (by omega)]))
   exact ⟨_,e2,q⟩
 ·rintro ρ ⟨-,L,later,z7,z8,z9,z10,z11,z12,z13,rfl,hL,hla,hmem,hG⟩
  rw [Y2] at hL hG
  rw [zj]
  refine jX (yt rfl rfl) ⟨L,rfl,by omega,by omega,fun k hk=>?_⟩
  rw [hL]
  have:=hG k (by omega)
  rwa [show n - n+k=k by omega] at this
variable {mm:Nat}
mutual
theorem rk_le {g:Nat->Nat} {c f nb:Nat} (h:∀ k,f<=k->k<nb->g k<=c):∀ r:Rq,r.lat f->r.ok mm nb->r.rk g<=r.rk r0+c
 | .one _ _,_,_=>by simp only [Rq.rk];omega
 | .call k,o,o'=>by rw [Rq.lat] at o;rw [Rq.ok] at o';have:=h k o o';simp only [Rq.rk];show g k+1<=0+1+c;omega
 | .loop rs,o,o'=>by rw [Rq.lat] at o;rw [Rq.ok] at o';have:=wu h rs o o'.1;simp only [Rq.rk];omega
 | .either a b,o,o'=>by rw [Rq.lat] at o;rw [Rq.ok] at o';have:=wu h a o.1 o'.1.1;have:=wu h b o.2 o'.2.1;simp only [Rq.rk];omega
theorem wu {g:Nat->Nat} {c f nb:Nat} (h:∀ k,f<=k->k<nb->g k<=c):∀ rs:List Rq,Y4 f rs->oks mm nb rs->rks g rs<=rks r0 rs+c
 | [],_,_=>by simp only [rks];omega
 | r::rs,o,o'=>by rw [Y4] at o;rw [oks] at o';have:=rk_le h r o.1 o'.1;have:=wu h rs o.2 o'.2;simp only [rks];omega
end
mutual
theorem sz_le {G:Nat->Nat} {m f nb:Nat} (h2:2<=m) (h:∀ k,f<=k->k<nb->G k<=m):∀ r:Rq,r.lat f->r.ok mm nb->r.sz G<=m*nd r.toD
 | .one x ps,_,_=>by rw [JP,Y3,Pe];simp only [Rq.sz];omega
 | .call k,o,o'=>by rw [Rq.lat] at o;rw [Rq.ok] at o';have:=h k o o';rw [jC,Y3,Pe];simp only [Rq.sz];omega
 | .loop rs,o,o'=>by
  rw [Rq.lat] at o;rw [Rq.ok] at o'
  have:=gL h2 h rs o o'.1
  rw [YV,Y3,nds,nds,nds,wx,wy,Pe,Pe,Pe]
  simp only [Rq.sz]
  omega
 | .either a b,o,o'=>by
  rw [Rq.lat] at o;rw [Rq.ok] at o'
  have:=gL h2 h a o.1 o'.1.1
  have:=gL h2 h b o.2 o'.2.1
  rw [yJ,Y3,nds,nds,nds,nds,wx,wy,wy,Pe,Pe,Pe,Pe]
  simp only [Rq.sz]
  omega
theorem gL {G:Nat->Nat} {m f nb:Nat} (h2:2<=m) (h:∀ k,f<=k->k<nb->G k<=m):∀ rs:List Rq,Y4 f rs->oks mm nb rs->szs G rs<=m*nds (qDs rs)
 | [],_,_=>by simp only [szs];omega
 | r::rs,o,o'=>by
  rw [Y4] at o;rw [oks] at o'
  have:=sz_le h2 h r o.1 o'.1
  have:=gL h2 h rs o.2 o'.2
  rw [qDs,nds,Pe]
  simp only [szs]
  omega
end
def gR (nb:Nat):Nat->Nat:=fun k=>if k=0 then 13 else 3*(nb - k)
def gS:Nat->Nat
 | 0=>40960
 | 1=>1024
 | 2=>128
 | _=>16
def gM:Nat->Nat
 | 0=>1024
 | 1=>128
 | 2=>16
 | _=>2
theorem trees {L:List (List D)} (h1:1<=L.length) (h4:L.length<=4) (hG:∀ k,k<L.length->BodG mm L.length k (L.getD k [])):∃ B:Nat->List Rq,Bods2 mm B L.length (gR L.length) gS/\D.lst (L.map .lst)=Z3 B L.length/\rks (gR L.length) (B 0)<20/\szs gS (B 0)<=800000/\L.getD 0 []=qDs (B 0):=by
 have hex:∀ k:Nat,∃ ts:List Rq,k<L.length->L.getD k []=qDs ts/\oks mm L.length ts/\Y4 (k+1) ts/\rks r0 ts<=hb L.length k/\ts.length<=20:=fun k=>by
  by_cases hk:k<L.length
  ·obtain ⟨ts,a,b,c,d,e⟩:=wW (hG k hk).gq
   exact ⟨ts,fun _=>⟨a,b,c,d,by rw [e];exact (hG k hk).len⟩⟩
  ·exact ⟨[],fun z=>absurd z hk⟩
 obtain ⟨B,hB⟩:=Classical.axiomOfChoice hex
 generalize hn:L.length=n at *
 have hbl:∀ k,hb n k<=6:=fun k=>by unfold hb;split <;> (try split) <;> omega
 have rk:∀ k,k<n->rks (gR n) (B k)<=gR n k:=fun k hk=>by
  obtain ⟨a,b,c,d,e⟩:=hB k hk
  by_cases h0:k=0
  ·subst h0
   by_cases hn1:n=1
   ·have:=wu (g:=gR n) (c:=0) (f:=1) (nb:=n) (fun j j1 j2=>by omega) (B 0) c b
    have h6:=hbl 0
    have:gR n 0=13:=rfl
    omega
   ·have:=wu (g:=gR n) (c:=9) (f:=1) (nb:=n) (fun j j1 j2=>by unfold gR;rw [if_neg (by omega)];omega) (B 0) c b
    have h3:hb n 0=3:=by unfold hb;rw [if_pos rfl,if_neg hn1]
    have:gR n 0=13:=rfl
    omega
  ·have:=wu (g:=gR n) (c:=3*(n - (k+1))) (f:=k+1) (nb:=n) (fun j j1 j2=>by unfold gR;rw [if_neg (by omega)];omega) (B k) c b
   have h2:hb n k=2:=by unfold hb;rw [if_neg h0]
   have:gR n k=3*(n - k):=by unfold gR;rw [if_neg h0]
   omega
 have sz:∀ k,k<n->szs gS (B k)<=gS k:=fun k hk=>by
  obtain ⟨a,b,c,d,e⟩:=hB k hk
  have hnd:=(hG k hk).nd
  rw [a] at hnd
  have k4:k=0\/k=1\/k=2\/k=3:=by omega
  have key:szs gS (B k)<=gM k*nds (qDs (B k)):=gL (f:=k+1) (nb:=n) (by rcases k4 with rfl | rfl | rfl | rfl <;> decide) (fun j j1 j2=>by
   have j4:j=1\/j=2\/j=3:=by omega
   rcases k4 with rfl | rfl | rfl | rfl <;> rcases j4 with rfl | rfl | rfl <;> first | decide | omega) (B k) c b
  rcases k4 with rfl | rfl | rfl | rfl
  ·rw [if_pos rfl] at hnd
   have:gM 0*nds (qDs (B 0))<=1024*40:=PL 1024 hnd
   have:gS 0=40960:=rfl
   omega
  ·rw [if_neg (by decide)] at hnd
   have:gM 1*nds (qDs (B 1))<=128*8:=PL 128 hnd
   have:gS 1=1024:=rfl
   omega
  ·rw [if_neg (by decide)] at hnd
   have:gM 2*nds (qDs (B 2))<=16*8:=PL 16 hnd
   have:gS 2=128:=rfl
   omega
  ·rw [if_neg (by decide)] at hnd
   have:gM 3*nds (qDs (B 3))<=2*8:=PL 2 hnd
   have:gS 3=16:=rfl
   omega
 refine ⟨B,⟨⟨fun k hk=>(hB k hk).2.1,fun k hk=>by have:=(hB k hk).2.2.2.2;omega,rk,sz⟩,fun k hk=>(hB k hk).2.2.1,fun k hk=>Qw (hB k hk).2.2.2.1 (Qw (hbl k) (by decide)),h4,h1⟩,?_,?_,?_,(hB 0 h1).1⟩
 ·unfold Z3
  congr 1
  refine List.ext_getElem (by simp [hn]) fun k hk1 hk2=>?_
  rw [Qj,hn] at hk1
  have:=(hB k hk1).1
  rw [List.getElem_map,List.getElem_map,List.getElem_range,<- this]
  congr 1
  simp [List.getD,hn,hk1]
 ·have:=rk 0 h1;have:gR n 0=13:=rfl;omega
 ·have:=sz 0 h1;have:gS 0=40960:=rfl;omega
theorem all_ok {L:List (List D)} (h1:1<=L.length) (h4:L.length<=4) (hG:∀ k,k<L.length->BodG mm L.length k (L.getD k [])) (many:Int):∃ r:Int×Sx,m_laid [.tup [.int many,.lst (L.map .lst)]]=some (ansD r)/\(∀ a,m'lay [.lst (L.getD 0 []),.int 0,.lst (L.map .lst),.adr a] [.int 1]=some (.int r.1,.int r.2.1::r.2.2))/\(∀ d∈r.2.2,StF mm d)/\r.2.2.length<=800000/\(L.getD 0 []=[]->r=(0,1,[])):=by
 obtain ⟨B,hB,e,hr,hz,h0⟩:=trees h1 h4 hG
 rw [e]
 refine ⟨_,laid_ok hB hr hz many,fun a=>by rw [h0];exact lent_ok hB hr hz a,ly_st hB.toBods _ _ _ _ (hB.ok 0 hB.pos) (fun d hd=>by cases hd),?_,fun hz0=>?_⟩
 ·have:=Yr hB.toBods 20 (B 0) 0 (1,[]) (hB.ok 0 hB.pos)
  simp only [Qz] at this
  omega
 ·rw [hz0] at h0
  cases hb0:B 0 with
  | nil=>rw [lyS];rfl
  | cons r rs=>rw [hb0,qDs] at h0;cases h0
variable {mm:Nat}
inductive Dd where
 | skip | take (b:Nat) | set (b:Nat) (ns:List Int)
def Dd.toD:Dd->D
 | .skip=>skD
 | .take b=>.tup [.str "take",.int (b:Nat)]
 | .set b ns=>.tup [.str "set",.int (b:Nat),.tup (ns.map .int)]
def Dd.ok (mm:Nat):Dd->Prop
 | .skip=>True
 | .take b=>b<mm
 | .set b ns=>b<mm/\ns.length=mm+1/\∀ n∈ns,n.natAbs<=2000000
def Dd.tk:Dd->Bool
 | .take _=>true
 | _=>false
def dot (ns st:List Int):Int:=(List.zipWith (·*·) ns st).sum
def Dd.go (d:Dd) (o:Option Int) (st:List Int):List Int:=match d with
 | .skip=>st
 | .take b=>st.set (b+1) (o.getD 0)
 | .set b ns=>st.set (b+1) (dot ns st)
structure Sp where
 p:Int
 q:Int
 d:Dd
def Sp.toD (t:Sp):D:=stp t.p t.q t.d.toD
theorem steps_of:∀ l:List D,(∀ d∈l,StF mm d)->∃ sps:List Sp,l=sps.map Sp.toD/\∀ t∈sps,t.d.ok mm
 | [],_=>⟨[],rfl,fun t h=>by cases h⟩
 | d::l,h=>by
  obtain ⟨sps,e,ho⟩:=steps_of l fun d hd=>h d (Qd _ hd)
  obtain ⟨p,q,x,ps,rfl,hx,hk⟩:=h d Qt
  have key:∃ t:Sp,stp p q (.tup (.str x::ps))=t.toD/\t.d.ok mm:=by
   rcases hk with ⟨rfl,rfl⟩ | ⟨rfl,rfl⟩ | ⟨b,rfl,rfl,hb⟩ | ⟨b,ns,rfl,rfl,hb,hl,hn⟩
   ·exact ⟨⟨p,q,.skip⟩,rfl,trivial⟩
   ·exact absurd rfl hx
   ·exact ⟨⟨p,q,.take b⟩,rfl,hb⟩
   ·exact ⟨⟨p,q,.set b ns⟩,rfl,hb,hl,hn⟩
  obtain ⟨t,e1,e2⟩:=key
  exact ⟨t::sps,by rw [Qq,e,e1],fun u hu=>(Qb.mp hu).elim (fun z=>by rw [z];exact e2) (ho u)⟩
def oD:Option Int->D
 | none=>.non
 | some n=>.int n
def mvD (m:Nat×Option Int):D:=.tup [.int (m.1:Nat),oD m.2]
def inD (st:List Int):D:=.tup (st.map .int)
def Yp (s:Int×List Int):D:=.tup [.int s.1,inD s.2]
theorem GC {vs ws:List Int} (hl:vs.length=ws.length) (h:∀ i,i<ws.length->vs.getD i 0=ws.getD i 0):vs=ws:=by
 refine List.ext_getElem hl fun i h1 h2=>?_
 have:=h i h2
 simpa [List.getD,h1,h2] using this
theorem dot_at {ns st:List Int} {i:Nat} (h1:i<ns.length) (h2:i<st.length):(List.zipWith (·*·) ns st).getD i 0=ns.getD i 0*st.getD i 0:=by
 simp [List.getD,Px,h1,h2]
theorem b21 {n:Int} (h:n.natAbs<=2000000):n.natAbs<2 ^ 21:=Q7 h (by decide)
theorem wo_retv {f:Ev->Option D} {ρ:Ev} {d:D} {m:Ev->Option Out} {P:D->Prop} (e:f ρ=some d) (k:P d):Wo (ZH f ρ) (GR m (WI P)):=by rw [J3,e];exact ⟨_,rfl,k⟩
section
variable {ns st:List Int} {n:Nat}
theorem JD {l:List Int} {i:Nat} (h:i<l.length):l.getD i 0∈l:=by
 rw [List.getD,Qy h]
 exact PB h
theorem GP {l:List Int} {i:Nat} (h:i<l.length):atI (l.map D.int) (i:Int)=some (.int (l.getD i 0)):=zD (by simp [List.getD,h])
theorem worth_ok (hl:ns.length=st.length) (h7:st.length<=7) (h1:∀ x∈ns,x.natAbs<=2000000) (h2:∀ x∈st,x.natAbs<2 ^ n) (hn:n<=1000000):m_worth [inD ns,inD st]=some (.int (dot ns st)):=by
 obtain ⟨vs,e,hv,hP⟩:=j9 (k:=2) (fl:=fZip (zm false (zb 0)) (zm false (zb 1))) (u:=uTup (Jc (zZ 2) (Jc (zZ 3) uNil))) (c:=jc) (e:=f2 Yj (zb 2) (zb 3)) (ρ:=[some (inD ns),some (inD st)]) (ds:=zipD (ns.map .int) (st.map .int))
  (fun i v=>v=ns.getD i 0*st.getD i 0) (fun ρ=>∃ y z:Option D,ρ=[some (inD ns),some (inD st),y,z]) rfl (by simp [zipD];omega) ⟨none,none,rfl⟩ (by
   rintro i d ρ hd ⟨y,z,rfl⟩
   obtain ⟨a1,a2,rfl⟩:=zip_at hd
   refine ⟨_,rfl,rfl,⟨_,f2v rfl rfl (yn (mulB (b21 (h1 _ (JD a1))) (h2 _ (JD a2)) (by omega))),_,rfl,rfl⟩,_,_,rfl⟩)
 have hz:(zipD (ns.map D.int) (st.map D.int)).length=st.length:=by simp [zipD];omega
 have ev:vs=List.zipWith (·*·) ns st:=GC (by rw [hv,hz];simp;omega) fun i hi=>by
  have hi':i<st.length:=by simp at hi;omega
  rw [hP i (by rw [hz];exact hi'),dot_at (by omega) hi']
 refine WU rfl ?_
 unfold b_worth
 rw [J3]
 show (Option.map Out.rt (fA wX (zm true _) [some (inD ns),some (inD st)]))=_
 rw [fA_,Z9 e,oB,gSum_,ev]
 rfl
theorem set_cat {st:List Int} {b:Nat} {v:Int} (hb:b<st.length):(st.map D.int).take b++[D.int v]++(st.map D.int).drop (b+1)=(st.set b v).map D.int:=by
 rw [List.set_eq_take_append_cons_drop,if_pos hb]
 simp [List.map_take,List.map_drop]
theorem gI (d:Dd):m_takes [d.toD]=some (.bl d.tk):=by
 cases d with
 | skip =>
  refine WU rfl ?_
  unfold b_takes
  rw [J3,f2v (Jg (i:=0) rfl) rfl (eq_f (x:="skip") (y:="take") (by decide))]
  rfl
 | take b =>
  refine WU rfl ?_
  unfold b_takes
  rw [J3,f2v (Jg (i:=0) rfl) rfl (eq_t (x:="take"))]
  rfl
 | set b ns =>
  refine WU rfl ?_
  unfold b_takes
  rw [J3,f2v (Jg (i:=0) rfl) rfl (eq_f (x:="set") (y:="take") (by decide))]
  rfl
theorem behind_ok (d:Dd) (o:Option Int) (hd:d.ok mm) (ho:o.isSome=d.tk) (hl:st.length=mm+1) (h6:mm<=6) (hs:∀ x∈st,x.natAbs<2 ^ n) (hn:n<=1000000):m_stand_behind [d.toD,oD o,inD st]=some (inD (d.go o st)):=by
 refine Wo.eq ?_
 unfold m_stand_behind b_stand_behind
 rw [yp]
 refine ⟨rfl,?_⟩
 simp only [Za,zMap,zLen,List.replicate,zApp,QC,Nat.reduceAdd,Nat.reduceSub]
 have fin:∀ (b:Nat) (v:Int),b<mm->Wo (ZH (JI (JI (J7 (zm false (zb 2)) fNo (YC (zb 3))) (Zo (zf (zb 4) zu))) (J7 (zm false (zb 2)) (YC (f2 ZY (zb 3) (fC (.int 1)))) fNo)) [some d.toD,some (oD o),some (inD st),some (.int ((b:Nat)+1)),some (.int v)]) (WI fun r=>r=inD (st.set (b+1) v)):=fun b v hb=>by
  have hlm:(st.map D.int).length=mm+1:=by rw [Qj,hl]
  have e3:zb 3 [some d.toD,some (oD o),some (inD st),some (.int ((b:Nat)+1)),some (.int v)]=some (.int ((b+1:Nat):Int)):=by rw [Int.natCast_add];rfl
  have e4:f2 ZY (zb 3) (fC (.int 1)) [some d.toD,some (oD o),some (inD st),some (.int ((b:Nat)+1)),some (.int v)]=some (.int ((b+1+1:Nat):Int)):=by rw [f2v e3 rfl Ys];rfl
  have e:=catT_ (catT_ (cutTo_ (fl:=zm false (zb 2)) (ds:=st.map D.int) rfl e3 (by rw [hlm];omega)) (tup1_ (f:=zb 4) rfl) (by simp;omega)) (cutFrom_ (fl:=zm false (zb 2)) (ds:=st.map D.int) rfl e4 (by omega) (by rw [hlm];omega)) (by simp;omega)
  rw [set_cat (by omega)] at e
  exact jX e rfl
 cases d with
 | skip =>
  rw [zv]
  refine if_t (kis (x:="skip") (ps:=[]) rfl) ?_
  refine wo_retv (d:=inD st) ?_ ?_
  ·rfl
  ·rfl
 | take b =>
  rw [zv]
  refine Y5 (kno (x:="take") rfl (by decide)) ?_
  rw [ZA,zE,zj,zv]
  refine ZU (f2v (Zr (ZQ (zL rfl)) rfl (zD (j:=1) rfl)) rfl Ys) ?_
  simp only [zSet,zj]
  rw [zv]
  obtain ⟨v,rfl⟩:∃ v,o=some v:=QY.mp ho
  refine ZU (d:=.int v) (by rw [fIf_,zW (fA1 rfl (gI (.take b)))];rfl) ?_
  simp only [zSet,zj]
  exact fin b v hd
 | set b ns =>
  rw [zv]
  refine Y5 (kno (x:="set") rfl (by decide)) ?_
  rw [ZA,zE,zj,zv]
  refine ZU (f2v (Zr (ZQ (zL rfl)) rfl (zD (j:=1) rfl)) rfl Ys) ?_
  simp only [zSet,zj]
  rw [zv]
  refine ZU (d:=.int (dot ns st)) (by rw [fIf_,zW (fA1 rfl (gI (.set b ns))),oB,if_neg (by simp [Dd.tk])];exact fA2 (x:=inD ns) (y:=inD st) (Zr (ZQ (zL rfl)) rfl (zD (j:=2) rfl)) (zL rfl) (worth_ok (by rw [hd.2.1,hl]) (by omega) hd.2.2 hs hn)) ?_
  simp only [zSet,zj]
  exact fin b _ hd.1
theorem law_behind_ok (d:Dd) (o:Option Int) (hd:d.ok mm) (ho:o.isSome=d.tk) (hl:st.length=mm+1) (h6:mm<=6) (hs:∀ x∈st,x.natAbs<2 ^ n) (hn:n<=1000000):m'behind [inD st,d.toD,oD o]=some (inD (d.go o st)):=by
 refine Wo.eq ?_
 unfold m'behind b'behind
 rw [yp]
 refine ⟨rfl,?_⟩
 simp only [Za,zMap,zLen,List.replicate,zApp,QC,Nat.reduceAdd,Nat.reduceSub]
 have fin:∀ (x:Str) (b:Nat) (ps:List D) (v:Int),d.toD=.tup (.str x::.int (b:Nat)::ps)->b<mm->Wo (ZH (fA JE (zm true (yv 1 (YB (fA YJ (zm false (zb 0)))) (zZ 3) jc (fIf (zG (f2 jM (zb 3) (f2 ZY (fIx (zm false (zb 1)) (fC (.int 1))) (fC (.int 1))))) (fIx (zm false (zb 0)) (zb 3)) (zb 2))))) [some (inD st),some d.toD,some (.int v)]) (WI fun r=>r=inD (st.set (b+1) v)):=fun x b ps v hdd hb=>by
  obtain ⟨vs,e,hv,hP⟩:=j9 (k:=1) (fl:=YB (fA YJ (zm false (zb 0)))) (u:=zZ 3) (c:=jc) (e:=fIf (zG (f2 jM (zb 3) (f2 ZY (fIx (zm false (zb 1)) (fC (.int 1))) (fC (.int 1))))) (fIx (zm false (zb 0)) (zb 3)) (zb 2)) (ρ:=[some (inD st),some d.toD,some (.int v)]) (ds:=yl 0 st.length)
   (fun i w=>w=(st.set (b+1) v).getD i 0) (fun ρ=>∃ z:Option D,ρ=[some (inD st),some d.toD,some (.int v),z]) (rng1v (by rw [fA_,ZQ (ds:=st.map D.int) rfl,oB,gLen_,Qj]) (by omega)) (by rw [ZD];omega) ⟨none,rfl⟩ (by
    rintro i d' ρ hd' ⟨z,rfl⟩
    obtain ⟨hi,rfl⟩:=Yq hd'
    rw [YF,zE]
    refine ⟨rfl,?_,_,rfl⟩
    have et:zG (f2 jM (zb 3) (f2 ZY (fIx (zm false (zb 1)) (fC (.int 1))) (fC (.int 1)))) [some (inD st),some d.toD,some (.int v),some (.int (0+(i:Nat)))]=some (!decide ((0+(i:Nat):Int)=(b:Nat)+1)):=zW (f2v rfl (f2v (Zr (ZQ (ds:=.str x::.int (b:Nat)::ps) (by rw [<- hdd];rfl)) rfl (zD (j:=1) rfl)) rfl Ys) dNeS_)
    simp only [zSet]
    rw [fIf_,et,oB]
    by_cases hc:i=b+1
    ·rw [if_neg (by simp [hc])]
     refine ⟨_,rfl,v,rfl,?_⟩
     rw [hc]
     simp [List.getD,hl,show b+1<mm+1 by omega]
    ·rw [if_pos (by simp;omega)]
     refine ⟨_,Zr (ZQ (ds:=st.map D.int) rfl) rfl (by rw [Pv];exact GP hi),_,rfl,?_⟩
     simp [List.getD,P4 (Ne.symm hc)])
  have ev:vs=st.set (b+1) v:=GC (by rw [hv,ZD,Qo]) fun i hi=>hP i (by rw [ZD];simpa using hi)
  refine jX (tupL e) ?_
  rw [ev]
  rfl
 cases d with
 | skip =>
  rw [zv]
  refine if_t (kis (x:="skip") (ps:=[]) rfl) ?_
  refine wo_retv (d:=inD st) ?_ ?_
  ·rfl
  ·rfl
 | take b =>
  rw [zv]
  refine Y5 (kno (x:="take") rfl (by decide)) ?_
  rw [ZA,zE,zj,zv]
  refine Y5 (kno (x:="take") rfl (by decide)) ?_
  rw [ZA,zE,zj]
  obtain ⟨v,rfl⟩:∃ v,o=some v:=QY.mp ho
  exact fin "take" b [] v rfl hd
 | set b ns =>
  rw [zv]
  refine Y5 (kno (x:="set") rfl (by decide)) ?_
  rw [ZA,zE,zj,zv]
  refine if_t (kis (x:="set") rfl) ?_
  have hns:ns.length=mm+1:=hd.2.1
  obtain ⟨vs,e,hv,hP⟩:=j9 (k:=1) (fl:=YB (fA YJ (zm false (zb 0)))) (u:=zZ 3) (c:=jc) (e:=f2 Yj (fIx (zm false (fIx (zm false (zb 1)) (fC (.int 2)))) (zb 3)) (fIx (zm false (zb 0)) (zb 3))) (ρ:=[some (inD st),some (Dd.set b ns).toD,some (oD o)]) (ds:=yl 0 st.length)
   (fun i w=>w=ns.getD i 0*st.getD i 0) (fun ρ=>∃ z:Option D,ρ=[some (inD st),some (Dd.set b ns).toD,some (oD o),z]) (rng1v (by rw [fA_,ZQ (ds:=st.map D.int) rfl,oB,gLen_,Qj]) (by omega)) (by rw [ZD];omega) ⟨none,rfl⟩ (by
    rintro i d' ρ hd' ⟨z,rfl⟩
    obtain ⟨hi,rfl⟩:=Yq hd'
    have hi':i<ns.length:=by rw [hd.2.1];omega
    rw [YF,zE]
    refine ⟨rfl,⟨_,f2v (Zr (ZQ (Zr (ZQ (zL rfl)) rfl (zD (j:=2) rfl))) rfl (by rw [Pv];exact GP hi')) (Zr (ZQ (ds:=st.map D.int) rfl) rfl (by rw [Pv];exact GP hi)) (yn (mulB (b21 (hd.2.2 _ (JD hi'))) (hs _ (JD hi)) (by omega))),_,rfl,rfl⟩,_,rfl⟩)
  have ev:vs=List.zipWith (·*·) ns st:=GC (by rw [hv,ZD];simp;omega) fun i hi=>by
   have hi':i<st.length:=by simp at hi;omega
   rw [hP i (by rw [ZD];exact hi'),dot_at (by omega) hi']
  refine ZU (d:=.int (dot ns st)) (by rw [fA_,Z9 e,oB,gSum_,ev];rfl) ?_
  simp only [zSet,zj]
  exact fin "set" b [.tup (ns.map .int)] _ rfl hd.1
end
variable {mm:Nat}
abbrev Mv:=Nat×Option Int
def nxt (sps:List Sp) (s:Int×List Int) (m:Mv):Int×List Int:=match sps[m.1]? with
 | some t=>(t.q,t.d.go m.2 s.2)
 | none=>s
def stA (sps:List Sp) (s:Int×List Int) (ms:List Mv) (i:Nat):Int×List Int:=(ms.take i).foldl (nxt sps) s
def s0 (mm:Nat):Int×List Int:=(0,1::List.replicate mm 0)
structure Good (mm:Nat) (sps:List Sp) (ms:List Mv):Prop where
 ok:∀ t∈sps,t.d.ok mm
 at_:∀ (i:Nat) m,ms[i]?=some m->∃ t,sps[m.1]?=some t/\t.p=(stA sps (s0 mm) ms i).1/\m.2.isSome=t.d.tk/\∀ n,m.2=some n->n.natAbs<2 ^ 30
section
variable {sps:List Sp} {ms:List Mv} {s:Int×List Int}
theorem Jp:stA sps s ms 0=s:=by simp [stA]
theorem YX {i:Nat} {m:Mv} (h:ms[i]?=some m):stA sps s ms (i+1)=nxt sps (stA sps s ms i) m:=by
 unfold stA
 rw [List.take_add_one,h]
 simp [List.foldl_append]
theorem stA_take {a i:Nat} (h:i<=a):stA sps s (ms.take a) i=stA sps s ms i:=by
 unfold stA
 rw [List.take_take,Pj h]
theorem stA_app {es:List Mv} {i:Nat} (h:i<=ms.length):stA sps s (ms++es) i=stA sps s ms i:=by
 unfold stA
 rw [List.take_append_of_le_length h]
theorem Good.take {a:Nat} (h:Good mm sps ms):Good mm sps (ms.take a):=⟨h.ok,fun i m e=>by
 rw [List.getElem?_take] at e
 split at e
 ·rename_i hi
  rw [stA_take (Q2 hi)]
  exact h.at_ i m e
 ·cases e⟩
theorem Wq {t:Sp} {m:Mv} (h:sps[m.1]?=some t):nxt sps s m=(t.q,t.d.go m.2 s.2):=by unfold nxt;rw [h]
theorem mem_set' {l:List Int} {i:Nat} {v x:Int} (h:x∈l.set i v):x=v\/x∈l:=by
 rcases List.mem_or_eq_of_mem_set h with h | h
 ·exact .inr h
 ·exact .inl h
theorem pw {a b x:Nat} (h:x<2 ^ a) (hab:a<=b):x<2 ^ b:=Qs h (Nat.pow_le_pow_right (by decide) hab)
theorem wJ (h:Good mm sps ms) (h6:mm<=6):∀ i,i<=ms.length->(stA sps (s0 mm) ms i).2.length=mm+1/\∀ x∈(stA sps (s0 mm) ms i).2,x.natAbs<2 ^ (30+24*i)
 | 0,_=>by
  rw [Jp]
  refine ⟨by simp [s0],fun x hx=>?_⟩
  have hx':x∈(1:Int)::List.replicate mm 0:=hx
  rcases Qb.mp hx' with rfl | hx'
  ·decide
  ·rw [List.eq_of_mem_replicate hx'];decide
 | i+1,hi=>by
  obtain ⟨hl,hb⟩:=wJ h h6 i (by omega)
  have hm:ms[i]?=some ms[i]:=Qy (by omega)
  obtain ⟨t,e1,_,e3,e4⟩:=h.at_ i _ hm
  rw [YX hm,Wq e1]
  have hok:=h.ok t (QK e1)
  generalize stA sps (s0 mm) ms i=w at hl hb
  show (t.d.go _ w.2).length=mm+1/\∀ x∈t.d.go _ w.2,_
  have old:∀ x∈w.2,x.natAbs<2 ^ (30+24*(i+1)):=fun x hx=>pw (hb x hx) (by omega)
  cases hd:t.d with
  | skip=>exact ⟨hl,old⟩
  | take b =>
   refine ⟨by simp [Dd.go,hl],fun x hx=>?_⟩
   rcases mem_set' hx with rfl | hx
   ·rw [hd] at e3
    obtain ⟨v,ev⟩:=QY.mp e3
    have:=e4 v ev
    rw [ev]
    exact pw this (by omega)
   ·exact old x hx
  | set b ns =>
   rw [hd] at hok
   refine ⟨by simp [Dd.go,hl],fun x hx=>?_⟩
   rcases mem_set' hx with rfl | hx
   ·refine pw (sum_big (m:=51+24*i) (fun y hy=>?_) (by simp [hl,hok.2.1];omega)) (by omega)
    obtain ⟨k,hk,rfl⟩:=List.getElem_of_mem hy
    rw [List.getElem_zipWith,Int.natAbs_mul]
    have a1:=hok.2.2 _ (PB (l:=ns) (n:=k) (by simp at hk;omega))
    have a2:=hb _ (PB (l:=w.2) (n:=k) (by simp at hk;omega))
    have e:51+24*i=21+(30+24*i):=by omega
    rw [e,Nat.pow_add]
    exact Nat.mul_lt_mul_of_lt_of_le (b21 a1) (Q2 a2) (Nat.pow_pos (by decide))
   ·exact old x hx
end
variable {mm:Nat}
theorem atI_end {xs:List D} {x:D}:atI (xs++[x]) (-1)=some x:=by
 unfold atI ixN
 rw [if_neg (by omega),if_pos (by simp;omega)]
 have:((-1:Int)+((xs++[x]).length:Nat)).toNat=xs.length:=by rw [Qi,Pw];omega
 rw [this,oB]
 simp
theorem atI_rng {f:Nat->D} {i:Nat}:atI ((List.range (i+1)).map f) (-1)=some (f i):=by
 rw [PY,Q9]
 exact atI_end
theorem rng_app {f:Nat->D} {i:Nat}:(List.range (i+1)).map f++[f (i+1)]=(List.range (i+1+1)).map f:=by
 rw [PY (n:=i+1),Q9]
 rfl
theorem chainv {fa fb fc:Ev->Option D} {ρ:Ev} {a b c:Int} (h1:fa ρ=some (.int a)) (h2:fb ρ=some (.int b)) (h3:fc ρ=some (.int c)) (hab:a<=b) (hbc:b<c):WC dLe dLt fa fb fc ρ=some (.bl true):=by
 unfold WC
 rw [h1,oB,h2,oB]
 have e:dLe (.int a) (.int b)=some (.bl true):=by
  show some (D.bl (decide (a<=b)))=_
  rw [decide_eq_true hab]
 rw [e,oB]
 rw [show asB (D.bl true)=some true from rfl,oB,if_pos rfl,h3,oB]
 show some (D.bl (decide (b<c)))=_
 rw [decide_eq_true hbc]
def yK (sps:List Sp):D:=.lst (sps.map Sp.toD)
def yS (ms:List Mv):D:=.lst (ms.map mvD)
section
variable {sps:List Sp} {ms:List Mv}
theorem gO {t:Sp} {j:Nat} (h:sps[j]?=some t):atI (sps.map Sp.toD) (j:Int)=some t.toD:=zD (by simp [h])
theorem mv_get {i:Nat} {d:D} (h:(ms.map mvD)[i]?=some d):∃ m,ms[i]?=some m/\d=mvD m:=by
 rw [QB] at h
 obtain ⟨m,e,rfl⟩:=Pq.mp h
 exact ⟨m,e,rfl⟩
theorem goes_on_ok {t:Sp} {m:Mv} (h:sps[m.1]?=some t) (ho:m.2.isSome=t.d.tk):m_goes_on [yK sps,mvD m,.int t.p]=some (.bl true):=by
 refine Wo.eq ?_
 unfold m_goes_on b_goes_on
 rw [yp]
 refine ⟨rfl,?_⟩
 simp only [Za,zMap,zLen,List.replicate,zApp,QC,Nat.reduceAdd,Nat.reduceSub]
 have e0:∀ z,fIx (zm false (zb 1)) (fC (.int 0)) [some (yK sps),some (mvD m),some (.int t.p),z]=some (.int (m.1:Nat)):=fun z=>Zr (ZQ (ds:=[.int (m.1:Nat),oD m.2]) rfl) rfl (zD (j:=0) rfl)
 have hlt:=(Qm.mp h).1
 rw [zv]
 refine Y5 (WT (zW (chainv rfl (e0 none) (lenv (ds:=sps.map Sp.toD) rfl) (by omega) (by rw [Qj];omega)))) ?_
 rw [ZA,zE,zj,zv]
 refine ZU (d:=t.toD) (Zr (Z9 (ds:=sps.map Sp.toD) rfl) (e0 none) (gO h)) ?_
 simp only [zSet,zj]
 refine jX (andV_t (f2v (Zr (ZQ (ds:=[.int t.p,.int t.q,t.d.toD]) rfl) rfl (zD (j:=0) rfl)) rfl (by show ZS (.int t.p) (.int t.p)=_;rw [dEqS_self])) (f2v (fA1 (Zr (ZQ (ds:=[.int t.p,.int t.q,t.d.toD]) rfl) rfl (zD (j:=2) rfl)) (gI t.d)) (f2v (Zr (ZQ (ds:=[.int (m.1:Nat),oD m.2]) rfl) rfl (zD (j:=1) rfl)) rfl dNotN_) ?_)) rfl
 have:jK (oD m.2)=!t.d.tk:=by
  rw [<- ho]
  cases m.2 <;> rfl
 rw [this,Bool.not_not]
 cases t.d.tk <;> rfl
def plD (sps:List Sp) (mm:Nat) (ms:List Mv) (k:Nat):D:=.int (stA sps (s0 mm) ms k).1
theorem Jf (h:Good mm sps ms) (hl:ms.length<=100000):m_places_along [yK sps,yS ms]=some (.lst ((List.range (ms.length+1)).map (plD sps mm ms))):=by
 refine Wo.eq ?_
 unfold m_places_along b_places_along
 rw [yp]
 refine ⟨rfl,?_⟩
 simp only [Za,zMap,zLen,List.replicate,zApp,QC,Nat.reduceAdd,Nat.reduceSub]
 rw [zv]
 refine new_ (jH (d:=.int 0) rfl) (by simp) ?_
 simp only [zSet,zj]
 rw [zv,J4,Z9 (ds:=ms.map mvD) rfl,oB]
 refine jq (fun i ρ=>i<=ms.length/\∃ z:Option D,ρ=[some (yK sps),some (yS ms),some (.lst ((List.range (i+1)).map (plD sps mm ms))),z]) ⟨by omega,none,?_⟩ ?_ ?_
 ·show _=[some (yK sps),some (yS ms),some (.lst [plD sps mm ms 0]),none]
  unfold plD
  rw [Jp]
  rfl
 ·rintro i d ρ hd ⟨hi,z,rfl⟩
  obtain ⟨m,em,rfl⟩:=mv_get hd
  have hlt:=(Qm.mp em).1
  obtain ⟨t,e1,e2,e3,_⟩:=h.at_ i m em
  rw [YF,zE]
  simp only [zSet]
  rw [zv]
  refine Y5 (WT (zW (fA3 (x:=yK sps) (y:=mvD m) (z:=.int t.p) rfl rfl (Zr (Z9 (ds:=(List.range (i+1)).map (plD sps mm ms)) rfl) (f1v rfl dNeg_) (by rw [atI_rng];unfold plD;rw [e2])) (goes_on_ok e1 e3)))) ?_
  rw [ZA,zE,zj]
  refine upd_ (d:=.int t.q) (Zr (ZQ (ds:=[.int t.p,.int t.q,t.d.toD]) (Zr (Z9 (ds:=sps.map Sp.toD) rfl) (Zr (ZQ (ds:=[.int (m.1:Nat),oD m.2]) rfl) rfl (zD (j:=0) rfl)) (gO e1))) rfl (zD (j:=1) rfl)) rfl (jJ (size8 (by simp;omega))) ?_
  refine ⟨by omega,some (mvD m),?_⟩
  simp only [zSet]
  have:(D.int t.q)=plD sps mm ms (i+1):=by unfold plD;rw [YX em,Wq e1]
  rw [this,rng_app]
 ·rintro ρ ⟨_,z,rfl⟩
  rw [zj]
  refine jX (zL (d:=.lst ((List.range ((ms.map mvD).length+1)).map (plD sps mm ms))) rfl) ?_
  rw [Qj]
theorem s0_cat (h6:mm<=6) {f:Ev->Option D} {ρ:Ev} (e:f ρ=some (.int (mm:Nat))):JI (Zo (zf (fC (.int 1)) zu)) (f2 W0 (Zo (zf (fC (.int 0)) zu)) f) ρ=some (inD (s0 mm).2):=by
 have e2:W0 (.tup [.int 0]) (.int (mm:Nat))=some (.tup (List.replicate mm (.int 0))):=by
  unfold W0
  simp only
  rw [if_pos ⟨by simp,by omega,by simp;omega,by omega⟩,Q0,J2]
 rw [catT_ (tup1_ (d:=.int 1) rfl) (f2v (tup1_ (d:=.int 0) rfl) e e2) (by simp;omega)]
 unfold inD s0
 simp
theorem first_ok (h6:mm<=6) (bs:D):m_first_stand [.tup [.int (mm:Nat),bs]]=some (inD (s0 mm).2):=by
 refine WU rfl ?_
 unfold b_first_stand
 rw [J3,s0_cat h6 (Zr (ZQ (ds:=[.int (mm:Nat),bs]) rfl) rfl (zD (j:=0) rfl))]
 rfl
def stD (sps:List Sp) (mm:Nat) (ms:List Mv) (k:Nat):D:=inD (stA sps (s0 mm) ms k).2
def rwD (sps:List Sp) (mm:Nat) (ms:List Mv) (k:Nat):D:=Yp (stA sps (s0 mm) ms k)
theorem zip_rows:∀ (l:List Nat),zipD (l.map (plD sps mm ms)) (l.map (stD sps mm ms))=l.map (rwD sps mm ms)
 | []=>rfl
 | k::l=>by
  have:=zip_rows l
  unfold zipD at this ⊢
  rw [Qq,Qq,Qq,List.zipWith_cons_cons,this]
  rfl
theorem ran_ok (h:Good mm sps ms) (h6:mm<=6) (hl:ms.length<=10000) {bs c e:D} (hp:m_laid [.tup [.int (mm:Nat),bs]]=some (.tup [c,yK sps,e])):m_ran [.tup [.int (mm:Nat),bs],yS ms]=some (.lst ((List.range (ms.length+1)).map (rwD sps mm ms))):=by
 refine Wo.eq ?_
 unfold m_ran b_ran
 rw [yp]
 refine ⟨rfl,?_⟩
 simp only [Za,zMap,zLen,List.replicate,zApp,QC,Nat.reduceAdd,Nat.reduceSub]
 rw [zv]
 refine ZU (d:=yK sps) (Zr (ZQ (fA1 rfl hp)) rfl (zD (j:=1) rfl)) ?_
 simp only [zSet,zj]
 rw [zv]
 refine ZU (fA2 rfl rfl (Jf h (by omega))) ?_
 simp only [zSet,zj]
 rw [zv]
 refine Y5 (zW (f2v rfl rfl (by rw [dIsN_,isNon_l]))) ?_
 rw [ZA,zE,zj,zv]
 refine new_ (jH (fA1 rfl (first_ok h6 bs))) (by simp) ?_
 simp only [zSet,zj]
 rw [zv,J4,Z9 (ds:=ms.map mvD) rfl,oB]
 refine jq (fun i ρ=>i<=ms.length/\∃ z:Option D,ρ=[some (.tup [.int (mm:Nat),bs]),some (yS ms),some (yK sps),some (.lst ((List.range (ms.length+1)).map (plD sps mm ms))),some (.lst ((List.range (i+1)).map (stD sps mm ms))),z]) ⟨by omega,none,?_⟩ ?_ ?_
 ·show _=[_,_,_,_,some (D.lst [stD sps mm ms 0]),none]
  unfold stD
  rw [Jp]
 ·rintro i d ρ hd ⟨hi,z,rfl⟩
  obtain ⟨m,em,rfl⟩:=mv_get hd
  have hlt:=(Qm.mp em).1
  obtain ⟨t,e1,e2,e3,_⟩:=h.at_ i m em
  obtain ⟨s1,s2⟩:=wJ h h6 i hi
  rw [YF,zE]
  simp only [zSet]
  refine upd_ (d:=stD sps mm ms (i+1)) (fA3 (x:=t.d.toD) (y:=oD m.2) (z:=stD sps mm ms i) (Zr (ZQ (ds:=[.int t.p,.int t.q,t.d.toD]) (Zr (Z9 (ds:=sps.map Sp.toD) rfl) (Zr (ZQ (ds:=[.int (m.1:Nat),oD m.2]) rfl) rfl (zD (j:=0) rfl)) (gO e1))) rfl (zD (j:=2) rfl)) (Zr (ZQ (ds:=[.int (m.1:Nat),oD m.2]) rfl) rfl (zD (j:=1) rfl)) (Zr (Z9 (ds:=(List.range (i+1)).map (stD sps mm ms)) rfl) (f1v rfl dNeg_) atI_rng) ?_) rfl (jJ (size8 (by simp;omega))) ?_
  ·unfold stD
   rw [behind_ok t.d m.2 (h.ok t (QK e1)) e3 s1 h6 s2 (by omega),YX em,Wq e1]
  ·refine ⟨by omega,some (mvD m),?_⟩
   simp only [zSet]
   rw [rng_app]
 ·rintro ρ ⟨_,z,rfl⟩
  rw [zj]
  refine jX (d:=.lst ((List.range (ms.length+1)).map (rwD sps mm ms))) ?_ rfl
  unfold GF
  rw [Qj,Z9 (ds:=(List.range (ms.length+1)).map (plD sps mm ms)) rfl,oB,Z9 (ds:=(List.range (ms.length+1)).map (stD sps mm ms)) rfl]
  show some (D.lst (zipD _ _))=_
  rw [zip_rows]
theorem Wu (h:Good mm sps ms) (hl:ms.length<=10000) {bs c e:D} (hp:m_laid [.tup [.int (mm:Nat),bs]]=some (.tup [c,yK sps,e])):m_is_run [.tup [.int (mm:Nat),bs],yS ms]=some (.bl true):=by
 refine WU rfl ?_
 unfold b_is_run
 rw [J3,f2v (fA2 (Zr (ZQ (fA1 rfl hp)) rfl (zD (j:=1) rfl)) rfl (Jf h (by omega))) rfl dNotN_]
 rfl
theorem walked_ok (h:Good mm sps ms) (h6:mm<=6) (hl:ms.length<=10000):m'walked [.int (mm:Nat),yK sps,yS ms]=some (.lst ((List.range (ms.length+1)).map (rwD sps mm ms))):=by
 refine Wo.eq ?_
 unfold m'walked b'walked
 rw [yp]
 refine ⟨rfl,?_⟩
 simp only [Za,zMap,zLen,List.replicate,zApp,QC,Nat.reduceAdd,Nat.reduceSub]
 rw [zv]
 refine ZU (d:=.int 0) rfl ?_
 simp only [zSet,zj]
 rw [zv]
 refine ZU (s0_cat h6 rfl) ?_
 simp only [zSet,zj]
 rw [zv]
 refine new_ (jH (yt (d:=.int 0) (d':=inD (s0 mm).2) rfl rfl)) (by simp) ?_
 simp only [zSet,zj]
 rw [zv,J4,Z9 (ds:=ms.map mvD) rfl,oB]
 refine jq (fun i ρ=>i<=ms.length/\∃ y z:Option D,ρ=[some (.int (mm:Nat)),some (yK sps),some (yS ms),some (plD sps mm ms i),some (stD sps mm ms i),some (.lst ((List.range (i+1)).map (rwD sps mm ms))),y,z]) ⟨by omega,none,none,?_⟩ ?_ ?_
 ·show _=[_,_,_,some (plD sps mm ms 0),some (stD sps mm ms 0),some (D.lst [rwD sps mm ms 0]),none,none]
  unfold stD plD rwD
  rw [Jp]
  rfl
 ·rintro i d ρ hd ⟨hi,y,z,rfl⟩
  obtain ⟨m,em,rfl⟩:=mv_get hd
  have hlt:=(Qm.mp em).1
  obtain ⟨t,e1,e2,e3,_⟩:=h.at_ i m em
  obtain ⟨s1,s2⟩:=wJ h h6 i hi
  refine ⟨[some (.int (mm:Nat)),some (yK sps),some (yS ms),some (plD sps mm ms i),some (stD sps mm ms i),some (.lst ((List.range (i+1)).map (rwD sps mm ms))),some (.int (m.1:Nat)),some (oD m.2)],rfl,?_⟩
  have est:∀ a b c,fIx (zm true (zb 1)) (zb 6) [some (.int (mm:Nat)),some (yK sps),some (yS ms),a,b,c,some (.int (m.1:Nat)),some (oD m.2)]=some (.tup [.int t.p,.int t.q,t.d.toD]):=fun a b c=>Zr (Z9 (ds:=sps.map Sp.toD) rfl) rfl (gO e1)
  show Wo (zO _ _ _) _
  rw [zv]
  refine ZU (d:=stD sps mm ms (i+1)) (fA3 (x:=stD sps mm ms i) (y:=t.d.toD) (z:=oD m.2) rfl (Zr (ZQ (est _ _ _)) rfl (zD (j:=2) rfl)) rfl ?_) ?_
  ·unfold stD
   rw [law_behind_ok t.d m.2 (h.ok t (QK e1)) e3 s1 h6 s2 (by omega),YX em,Wq e1]
  simp only [zSet,zj]
  rw [zv]
  have eq':(D.int t.q)=plD sps mm ms (i+1):=by unfold plD;rw [YX em,Wq e1]
  refine ZU (d:=plD sps mm ms (i+1)) (Zr (ZQ (est _ _ _)) rfl (by rw [<- eq'];exact zD (j:=1) rfl)) ?_
  simp only [zSet,zj]
  refine upd_ (d:=rwD sps mm ms (i+1)) (yt rfl rfl) rfl (jJ (size8 (by simp;omega))) ?_
  refine ⟨by omega,some (.int (m.1:Nat)),some (oD m.2),?_⟩
  simp only [zSet]
  rw [rng_app]
 ·rintro ρ ⟨_,y,z,rfl⟩
  rw [zj]
  refine jX (zL (d:=.lst ((List.range ((ms.map mvD).length+1)).map (rwD sps mm ms))) rfl) ?_
  rw [Qj]
end
variable {mm:Nat}
theorem rows_py {rs:List (Int×List Int)}:Py 3 (.lst (rs.map Yp)):=.lst fun d hd=>by
 obtain ⟨s,_,rfl⟩:=QL.mp hd
 refine Py.tup (n:=1) fun e he=>?_
 simp only [Qb,Qk,or_false] at he
 rcases he with rfl | rfl
 ·exact .int _ _
 ·refine Py.tup (n:=0) fun e he=>?_
  obtain ⟨x,_,rfl⟩:=QL.mp he
  exact .int _ _
theorem good_ok {rs:List (Int×List Int)} (h:∀ s∈rs,s.2.length<=7):m'good [.lst (rs.map Yp),.lst (rs.map Yp)]=some (.bl true):=by
 refine Wo.eq ?_
 unfold m'good b'good
 rw [yp]
 refine ⟨rfl,?_⟩
 simp only [Za,zMap,zLen,List.replicate,zApp,QC,Nat.reduceAdd,Nat.reduceSub]
 rw [zv]
 refine Y5 (wS (WT (zW (f1v rfl rfl))) (zW (f2v (lenv (ds:=rs.map Yp) rfl) (lenv (ds:=rs.map Yp) rfl) (by rw [WG])))) ?_
 rw [ZA,zE,zj,zv,J4,Z9 (ds:=rs.map Yp) rfl,oB]
 refine jq (fun _ ρ=>∃ y z:Option D,ρ=[some (.lst (rs.map Yp)),some (.lst (rs.map Yp)),y,z]) ⟨none,none,rfl⟩ ?_ ?_
 ·rintro i d ρ hd ⟨y,z,rfl⟩
  obtain ⟨s,hs,rfl⟩:=QL.mp (QK hd)
  have h7:=h s hs
  rw [YF,zE]
  simp only [zSet]
  have e1:fIx (zm false (zb 2)) (fC (.int 1)) [some (.lst (rs.map Yp)),some (.lst (rs.map Yp)),some (Yp s),z]=some (.tup (s.2.map .int)):=Zr (ZQ (ds:=[.int s.1,inD s.2]) rfl) rfl (zD (j:=1) rfl)
  rw [zv]
  refine Y5 (wS (WT (zW (f1v rfl rfl))) (wS (zW (f2v (x:=.int 2) rfl rfl (by rw [WG]))) (WT (zW (f1v e1 rfl))))) ?_
  rw [ZA,zE,zj,J4,ZQ (catT_ e1 (cutTo_ (k:=1) (fl:=zm false (zb 2)) (ds:=[.int s.1,inD s.2]) rfl rfl (by simp)) (by simp;omega)),oB]
  refine jq (fun _ ρ=>∃ z:Option D,ρ=[some (.lst (rs.map Yp)),some (.lst (rs.map Yp)),some (Yp s),z]) ⟨z,rfl⟩ ?_ ?_
  ·rintro j d ρ hd ⟨z,rfl⟩
   have hm:=QK hd
   obtain ⟨v,rfl⟩:∃ v:Int,d=.int v:=by
    rcases QI.mp hm with hm | hm
    ·obtain ⟨v,_,rfl⟩:=QL.mp hm;exact ⟨v,rfl⟩
    ·exact ⟨s.1,Qv.mp hm⟩
   rw [YF,zE]
   simp only [zSet]
   refine Y5 (wS (WT (zW (f1v rfl rfl))) (zW (f1v rfl rfl))) ?_
   exact ⟨_,rfl,_,rfl⟩
  ·rintro ρ ⟨z,rfl⟩
   exact ⟨_,_,rfl⟩
 ·rintro ρ ⟨y,z,rfl⟩
  rw [zj]
  exact jX (f2v rfl rfl (rows_py.eq (by omega))) rfl
theorem rng1w {f:Ev->Option D} {ρ:Ev} {n:Nat} (h:f ρ=some (.int (n:Nat))) (hn:n<=1000000):YB f ρ=some (yl 0 n):=by
 refine Wo.eq ?_
 rw [wo_rng1,h,zE,gh,zE]
 exact ⟨⟨by omega,by omega⟩,by rw [Q0]⟩
section
variable {sps:List Sp} {ms:List Mv}
theorem Good.snoc (h:Good mm sps ms) {j:Nat} {o:Option Int} {t:Sp} (e1:sps[j]?=some t) (e2:t.p=(stA sps (s0 mm) ms ms.length).1) (e3:o.isSome=t.d.tk) (e4:∀ n,o=some n->n.natAbs<2 ^ 30):Good mm sps (ms++[(j,o)])/\(stA sps (s0 mm) (ms++[(j,o)]) (ms.length+1)).1=t.q:=by
 refine ⟨⟨h.ok,fun i m e=>?_⟩,?_⟩
 ·rw [List.getElem?_append] at e
  split at e
  ·rename_i hi
   rw [stA_app (Q2 hi)]
   exact h.at_ i m e
  ·rename_i hi
   have hz:i=ms.length:=by
    rcases Nat.eq_or_lt_of_le (Nat.le_of_not_lt hi) with q | q
    ·exact q.symm
    ·rw [Pz (by simp;omega)] at e;cases e
   subst hz
   rw [Nat.sub_self] at e
   cases e
   rw [stA_app (Ql _)]
   exact ⟨t,e1,e2,e3,e4⟩
 ·rw [YX (m:=(j,o)) (by simp),Wq (m:=(j,o)) e1]
theorem pick_comp (q:Int) {y0 y1 y3 y4 y6 y7 y8 y9 y10:Option D}:∀ (js0:List Nat) (y11:Option D),(∀ j∈js0,j<sps.length)->∃ js:List Nat,Yh (zZ 11) (zG (f2 ZS (fIx (zm false (fIx (zm true (zb 2)) (zb 11))) (fC (.int 0))) (zb 5))) (zb 11) (js0.map fun j=>D.int (0+(j:Nat))) [y0,y1,some (yK sps),y3,y4,some (.int q),y6,y7,y8,y9,y10,y11]=some (js.map fun j=>D.int (j:Nat))/\js.length<=js0.length/\∀ j∈js,∃ t,sps[j]?=some t/\t.p=q
 | [],y11,_=>⟨[],rfl,Ql _,fun j hj=>by cases hj⟩
 | j::js0,y11,hj=>by
  obtain ⟨js,e,hl,hp⟩:=pick_comp q js0 (some (.int (0+(j:Nat)))) fun i hi=>hj i (Qd _ hi)
  obtain ⟨t,et⟩:∃ t,sps[j]?=some t:=⟨_,Qy (hj j Qt)⟩
  have eb:zG (f2 ZS (fIx (zm false (fIx (zm true (zb 2)) (zb 11))) (fC (.int 0))) (zb 5)) [y0,y1,some (yK sps),y3,y4,some (.int q),y6,y7,y8,y9,y10,some (.int (0+(j:Nat)))]=some (decide (t.p=q)):=zW (f2v (Zr (ZQ (ds:=[.int t.p,.int t.q,t.d.toD]) (Zr (Z9 (ds:=sps.map Sp.toD) rfl) rfl (by rw [Pv];exact gO et))) rfl (zD (j:=0) rfl)) rfl jp)
  rw [Qq,Yh,zZ,oB]
  simp only [zSet]
  rw [eb,oB]
  by_cases hc:t.p=q
  ·rw [if_pos (decide_eq_true hc),zL (d:=.int (0+(j:Nat))) rfl,oB,e]
   refine ⟨j::js,by simp,by simp;omega,fun i hi=>?_⟩
   rcases Qb.mp hi with rfl | hi
   ·exact ⟨t,et,hc⟩
   ·exact hp i hi
  ·rw [if_neg (by simp [hc]),e]
   exact ⟨js,rfl,by simp;omega,hp⟩
theorem js_py (js:List Nat):jF (.lst (js.map fun j=>D.int (j:Nat)))=true:=by
 have h:Py 1 (.lst (js.map fun j=>D.int (j:Nat))):=.lst fun d hd=>by
  obtain ⟨p,hp,rfl⟩:=QL.mp hd
  exact .int _ _
 unfold jF SeqAt.shaped
 rw [h.1,decide_eq_true (Qw h.2 (by omega))];rfl
theorem run_ok (ns:List Int) (hok:∀ t∈sps,t.d.ok mm) (hs:sps.length<=800000) {most:Nat} (hm:most<=250):∃ ms:List Mv,m'run [.scr ns,.int 26,yK sps,.int (most:Nat)]=some (yS ms)/\Good mm sps ms/\ms.length<=most:=by
 suffices h:Wo (m'run [.scr ns,.int 26,yK sps,.int (most:Nat)]) fun d=>∃ ms:List Mv,d=yS ms/\Good mm sps ms/\ms.length<=most by
  obtain ⟨d,e,ms,rfl,q⟩:=h
  exact ⟨ms,e,q⟩
 unfold m'run b'run
 rw [yp]
 refine ⟨rfl,?_⟩
 simp only [Za,zMap,zLen,List.replicate,zApp,QC,Nat.reduceAdd,Nat.reduceSub]
 rw [zv]
 refine new_ Gw (by simp) ?_
 simp only [zSet,zj]
 rw [zv]
 refine ZU (d:=.int 0) rfl ?_
 simp only [zSet,zj]
 rw [zv,J4,rng1v (n:=most) rfl (by omega),oB]
 refine jq (fun i ρ=>i<=most/\∃ (ms:List Mv) (a b c d e:Option D),ρ=[some (.scr ns),some (.int 26),some (yK sps),some (.int (most:Nat)),some (yS ms),some (.int (stA sps (s0 mm) ms ms.length).1),a,b,c,d,e]/\Good mm sps ms/\ms.length<=i) ⟨by omega,[],_,_,_,_,_,rfl,⟨hok,fun i m e=>by simp at e⟩,by simp⟩ ?_ ?_
 ·rintro i d ρ hd ⟨him,ms,a,b,c,d',e,rfl,hg,hl⟩
  obtain ⟨hi,rfl⟩:=Yq hd
  generalize hq:(stA sps (s0 mm) ms ms.length).1=q
  rw [Pv,YF,zE]
  simp only [zSet]
  obtain ⟨v,ev⟩:=Wb ns (26+((i:Nat):Int) % 23) (by omega) (by omega)
  rw [zv]
  refine ZU (f2v (fA2 rfl (f2v rfl (f2v rfl rfl (ZK (by decide))) Ys) ev) (f2v rfl (f2v rfl rfl (yr (by decide) (by decide))) Ys) (dDivP_s (show (1+((i:Nat):Int) / 23)≠0 by omega))) ?_
  simp only [zSet,zj]
  generalize v.fdiv (1+((i:Nat):Int) / 23)=cell
  obtain ⟨js,ej,jl,hp⟩:=pick_comp (sps:=sps) q (y0:=some (.scr ns)) (y1:=some (.int 26)) (y3:=some (.int (most:Nat))) (y4:=some (yS ms)) (y6:=some (.int (i:Nat))) (y7:=some (.int cell)) (y8:=c) (y9:=d') (y10:=e) (List.range sps.length) none fun j hj=>by simpa using hj
  rw [zv]
  refine ZU (d:=.lst (js.map fun j=>D.int (j:Nat))) (by
   rw [Wz,rng1w (n:=sps.length) ((lenv (ds:=sps.map Sp.toD) rfl).trans (by rw [Qj])) (by omega),oB]
   show (Yh _ _ _ ((List.range sps.length).map fun j=>D.int (0+(j:Nat))) [some (.scr ns),some (.int 26),some (yK sps),some (.int (most:Nat)),some (yS ms),some (.int q),some (.int (i:Nat)),some (.int cell),c,d',e,none]).bind JK=_
   rw [ej,oB]
   exact J8 (yg (by rw [Qj];rw [PP] at jl;omega))) ?_
  simp only [zSet,zj]
  refine GD (zW (f2v rfl Gw (ne_nil (js_py js)))) (fun ne=>?_) (fun _=>?_)
  ·have hpos:0<(js.map fun j=>D.int (j:Nat)).length:=by
    cases js with
    | nil=>simp at ne
    | cons _ _=>simp
   have hmul:((i:Nat):Int)*(i:Nat)=((i*i:Nat):Int):=by rw [Int.natCast_mul]
   obtain ⟨x,hx,ex⟩:=at_mod (c:=cell+(i:Nat)*(i:Nat)) hpos
   obtain ⟨j,hj,rfl⟩:=QL.mp hx
   obtain ⟨t,et,ep⟩:=hp j hj
   rw [zv]
   refine ZU (Zr (Z9 (ds:=js.map fun j=>D.int (j:Nat)) rfl) (f2v (f2v rfl (f2v rfl rfl (yn (JX (by omega) (by omega)))) Ys) (lenv (ds:=js.map fun j=>D.int (j:Nat)) rfl) (ZK (by omega))) ex) ?_
   simp only [zSet,zj]
   rw [zv]
   refine ZU (d:=.non) rfl ?_
   simp only [zSet,zj]
   have fin:∀ o:Option Int,o.isSome=t.d.tk->(∀ n,o=some n->n.natAbs<2 ^ 30)->Wo ((zO (GA 4 yu (Zo (zf (zb 9) (zf (zb 10) zu)))) (Zw 5 (fIx (zm false (fIx (zm true (zb 2)) (zb 9))) (fC (.int 1))))) [some (.scr ns),some (.int 26),some (yK sps),some (.int (most:Nat)),some (yS ms),some (.int q),some (.int (i:Nat)),some (.int cell),some (.lst (js.map fun j=>D.int (j:Nat))),some (.int (j:Nat)),some (oD o)]) fun o=>match o with
     | .nx ρ2=>i+1<=most/\∃ (ms:List Mv) (a b c d e:Option D),ρ2=[some (.scr ns),some (.int 26),some (yK sps),some (.int (most:Nat)),some (yS ms),some (.int (stA sps (s0 mm) ms ms.length).1),a,b,c,d,e]/\Good mm sps ms/\ms.length<=i+1
     | .ct ρ2=>i+1<=most/\∃ (ms:List Mv) (a b c d e:Option D),ρ2=[some (.scr ns),some (.int 26),some (yK sps),some (.int (most:Nat)),some (yS ms),some (.int (stA sps (s0 mm) ms ms.length).1),a,b,c,d,e]/\Good mm sps ms/\ms.length<=i+1
     | .bk ρ2=>GR (ZH (zb 4)) (WI fun d=>∃ ms:List Mv,d=yS ms/\Good mm sps ms/\ms.length<=most) (.nx ρ2)
     | .rt r=>GR (ZH (zb 4)) (WI fun d=>∃ ms:List Mv,d=yS ms/\Good mm sps ms/\ms.length<=most) (.rt r):=fun o ho hb=>by
    obtain ⟨g1,g2⟩:=hg.snoc et (by rw [ep,hq]) ho hb
    rw [zv]
    refine upd_ (ds:=ms.map mvD) (d:=mvD (j,o)) (yt rfl rfl) rfl (jJ (size8 (by rw [Qj];omega))) ?_
    simp only [zSet,zj]
    refine ZU (d:=.int t.q) (Zr (ZQ (ds:=[.int t.p,.int t.q,t.d.toD]) (Zr (Z9 (ds:=sps.map Sp.toD) rfl) rfl (gO et))) rfl (zD (j:=1) rfl)) ?_
    simp only [zSet]
    refine ⟨by omega,ms++[(j,o)],some (.int (i:Nat)),some (.int cell),some (.lst (js.map fun j=>D.int (j:Nat))),some (.int (j:Nat)),some (oD o),?_,g1,by simp;omega⟩
    rw [Qi,Pw,g2]
    unfold yS
    rw [Q9]
    rfl
   have est:∀ z,fIx (zm false (fIx (zm true (zb 2)) (zb 9))) (fC (.int 2)) [some (.scr ns),some (.int 26),some (yK sps),some (.int (most:Nat)),some (yS ms),some (.int q),some (.int (i:Nat)),some (.int cell),some (.lst (js.map fun j=>D.int (j:Nat))),some (.int (j:Nat)),z]=some t.d.toD:=fun z=>Zr (ZQ (ds:=[.int t.p,.int t.q,t.d.toD]) (Zr (Z9 (ds:=sps.map Sp.toD) rfl) rfl (gO et))) rfl (zD (j:=2) rfl)
   rw [zv]
   cases hd:t.d with
   | skip =>
    rw [hd] at est fin
    refine Y5 (zW (f2v (Zr (ZQ (est _)) rfl (zD (j:=0) rfl)) rfl (eq_f (x:="skip") (y:="take") (by decide)))) ?_
    rw [ZA,zE,zj]
    exact fin none rfl fun n z=>by cases z
   | set b l =>
    rw [hd] at est fin
    refine Y5 (zW (f2v (Zr (ZQ (est _)) rfl (zD (j:=0) rfl)) rfl (eq_f (x:="set") (y:="take") (by decide)))) ?_
    rw [ZA,zE,zj]
    exact fin none rfl fun n z=>by cases z
   | take b =>
    rw [hd] at est fin
    refine if_t (zW (f2v (Zr (ZQ (est _)) rfl (zD (j:=0) rfl)) rfl (eq_t (x:="take")))) ?_
    have q0:=QA (cell / 3) (show (4:Int)≠0 by decide)
    have q1:=Qx (cell / 3) (show (0:Int)<4 by decide)
    have r0:=QA (cell / 7) (show (21:Int)≠0 by decide)
    have r1:=Qx (cell / 7) (show (0:Int)<21 by decide)
    have u0:=QA (cell / 7) (show (1999999999:Int)≠0 by decide)
    have u1:=Qx (cell / 7) (show (0:Int)<1999999999 by decide)
    obtain ⟨w,ew,hw⟩:∃ w:Int,atI (([0,1,cell / 7 % 21 - 10,cell / 7 % 1999999999 - 999999999]:List Int).map D.int) (cell / 3 % 4)=some (.int w)/\w.natAbs<2 ^ 30:=by
     refine ⟨_,gC q0 q1,?_⟩
     have hlt:(cell / 3 % 4).toNat<4:=by omega
     have hmem:(([0,1,cell / 7 % 21 - 10,cell / 7 % 1999999999 - 999999999]:List Int).getD (cell / 3 % 4).toNat 0)∈([0,1,cell / 7 % 21 - 10,cell / 7 % 1999999999 - 999999999]:List Int):=JD (by simpa using hlt)
     have p30:(2:Nat) ^ 30=1073741824:=by decide
     rw [p30]
     simp only [Qb,Qk,or_false] at hmem
     rcases hmem with z | z | z | z <;> rw [z] <;> omega
    refine ZU (d:=.int w) (Zr (ds:=([0,1,cell / 7 % 21 - 10,cell / 7 % 1999999999 - 999999999]:List Int).map D.int) ?_ (f2v (f2v rfl rfl (yr (by decide) (by decide))) rfl (ZK (by decide))) ew) ?_
    ·refine Z9 (ds:=([0,1,cell / 7 % 21 - 10,cell / 7 % 1999999999 - 999999999]:List Int).map D.int) ?_
     rw [fLst_,ZJ,show fC (D.int 0) _=some (D.int 0) from rfl,oB,ZJ,show fC (D.int 1) _=some (D.int 1) from rfl,oB,ZJ,f2v (f2v (f2v rfl rfl (yr (by decide) (by decide))) rfl (ZK (by decide))) rfl sub_,oB,ZJ,f2v (f2v (f2v rfl rfl (yr (by decide) (by decide))) rfl (ZK (by decide))) rfl sub_,oB]
     exact J8 (yg (by simp))
    simp only [zSet,zj]
    exact fin (some w) rfl fun n z=>by cases z;exact hw
  ·refine ⟨_,rfl,by omega,ms,_,_,_,_,_,by rw [hq],hg,by omega⟩
 ·rintro ρ ⟨_,ms,a,b,c,d,e,rfl,hg,hl⟩
  rw [zj]
  refine jX (zL rfl) ⟨ms,rfl,hg,by rw [ZD] at hl;exact hl⟩
end
open RW (Py Fi)
theorem lst2_ {f f':Ev->Option D} {ρ:Ev} {d d':D} (e:f ρ=some d) (e':f' ρ=some d'):ZR (zf f (zf f' zu)) ρ=some (.lst [d,d']):=by
 rw [fLst_,ZJ,e,oB,ZJ,e',oB]
 exact J8 (yg (by simp))
theorem py_ne {n:Nat} {d:D} (h:Py n d) (hn:n<=64):gg d d=some (.bl false):=by
 have hp:jF d=true:=by
  unfold jF SeqAt.shaped
  rw [h.1,decide_eq_true (Qw h.2 hn)];rfl
 unfold gg
 rw [if_pos ⟨hp,hp⟩,eqD_self hp]
 rfl
theorem row_py (s:Int×List Int):Py 2 (Yp s):=Py.tup (n:=1) fun e he=>by
 simp only [Qb,Qk,or_false] at he
 rcases he with rfl | rfl
 ·exact .int _ _
 ·refine Py.tup (n:=0) fun e he=>?_
  obtain ⟨x,_,rfl⟩:=QL.mp he
  exact .int _ _
def rB:Nat->List Rq:=fun _=>[.loop [.one "set" [.int 0,.tup [.int 1,.int 1]]]]
def rS:List Sp:=[⟨0,1,.skip⟩,⟨1,2,.set 0 [1,1]⟩,⟨2,1,.skip⟩]
theorem rB_ok:Bods2 1 rB 1 (fun _=>1) (fun _=>3):=by
 have hp:RW.Py 5 (.tup [.str "set",.int 0,.tup [.int 1,.int 1]]):=by
  refine (Fi.pyd (n:=2) ?_).mono (by omega)
  refine j8 fun r hr=>?_
  simp only [Qb,Qk,or_false] at hr
  rcases hr with rfl | rfl | rfl
  ·exact .str (by decide) _
  ·exact .int (by decide) _
  ·refine j8 fun r hr=>?_
   simp only [Qb,Qk,or_false] at hr
   rcases hr with rfl | rfl <;> exact .int (by decide) _
 refine ⟨⟨fun k _=>?_,fun k _=>by simp [rB],fun k _=>by simp [rB,rks,Rq.rk],fun k _=>by simp [rB,szs,Rq.sz]⟩,fun k _=>by simp [rB,Y4,Rq.lat],fun k _=>by simp [rB,rks,Rq.rk],by omega,by omega⟩
 unfold rB
 simp only [oks,Rq.ok]
 refine ⟨⟨⟨⟨by decide,by simp,fun p hp=>?_,hp,.inr (.inr (.inr ⟨0,[1,1],rfl,rfl,by omega,rfl,fun n hn=>?_⟩))⟩,trivial⟩,by simp⟩,trivial⟩
 ·simp only [Qb,Qk,or_false] at hp
  rcases hp with rfl | rfl <;> rfl
 ·simp only [Qb,Qk,or_false] at hn
  rcases hn with rfl | rfl <;> decide
theorem rB_lay:lyS rB 20 (rB 0) 0 (1,[])=(1,(3,[stp 0 1 skD,stp 1 2 (.tup [.str "set",.int 0,.tup [.int 1,.int 1]]),stp 2 1 skD])):=by
 rw [show (20:Nat)=18+1+1 from rfl,lyS]
 simp [rB,Zc,lyS]
 rw [if_neg (by decide)]
 rfl
theorem r_laid:m_laid [.tup [.int ((1:Nat):Int),Z3 rB 1]]=some (.tup [.int 3,yK rS,.int 1]):=by
 rw [laid_ok rB_ok (by simp [rB,rks,Rq.rk]) (by simp [rB,szs,Rq.sz]) ((1:Nat):Int),rB_lay]
 rfl
def pl (i:Nat):Nat:=if i=0 then 0 else if i % 2=1 then 1 else 2
def rM (t:Nat):List Mv:=(List.range (2*t+1)).map fun i=>(pl i,none)
def stC (i:Nat):Int×List Int:=((pl i:Nat),[1,((i / 2:Nat):Int)])
theorem rM_at {t i:Nat} {m:Mv} (h:(rM t)[i]?=some m):i<2*t+1/\m=(pl i,none):=by
 unfold rM at h
 rw [QB] at h
 obtain ⟨k,e,rfl⟩:=Pq.mp h
 have hk:=(Qm.mp e).1
 rw [PP] at hk
 rw [P7 hk] at e
 cases e
 exact ⟨hk,rfl⟩
theorem r_step (i:Nat):nxt rS (stC i) (pl i,none)=stC (i+1):=by
 unfold stC pl
 rcases Nat.eq_zero_or_pos i with rfl | hi
 ·rfl
 ·rcases Nat.mod_two_eq_zero_or_one i with h | h
  ·rw [if_neg (by omega),if_neg (by omega),if_neg (by omega),if_pos (by omega)]
   have e:(i+1) / 2=i / 2:=by omega
   rw [e]
   rfl
  ·rw [if_neg (by omega),if_pos h,if_neg (by omega),if_neg (by omega)]
   have e:(i+1) / 2=i / 2+1:=by omega
   rw [e]
   show ((2:Int),[1,(1*1+(1*((i / 2:Nat):Int)+0))])=(((2:Nat):Int),[1,((i / 2+1:Nat):Int)])
   rw [Int.natCast_add]
   congr 3
   omega
theorem r_st {t:Nat}:∀ i,i<=2*t+1->stA rS (s0 1) (rM t) i=stC i
 | 0,_=>by rw [Jp];rfl
 | i+1,h=>by
  have e:(rM t)[i]?=some (pl i,none):=by
   unfold rM
   rw [QB,P7 (by omega)]
   rfl
  rw [YX e,r_st i (by omega),r_step]
theorem r_sp (i:Nat):∃ sp,rS[pl i]?=some sp/\sp.p=((pl i:Nat):Int)/\sp.d.tk=false:=by
 unfold pl
 split
 ·exact ⟨_,rfl,rfl,rfl⟩
 ·split
  ·exact ⟨_,rfl,rfl,rfl⟩
  ·exact ⟨_,rfl,rfl,rfl⟩
theorem r_good (t:Nat):Good 1 rS (rM t):=by
 refine ⟨fun u hu=>?_,fun i m e=>?_⟩
 ·simp only [rS,Qb,Qk,or_false] at hu
  rcases hu with rfl | rfl | rfl
  ·trivial
  ·refine ⟨by omega,rfl,fun n hn=>?_⟩
   simp only [Qb,Qk,or_false] at hn
   rcases hn with rfl | rfl <;> decide
  ·trivial
 ·obtain ⟨hi,rfl⟩:=rM_at e
  obtain ⟨sp,e1,e2,e3⟩:=r_sp i
  rw [r_st i (by omega)]
  exact ⟨sp,e1,e2,by rw [e3];rfl,fun n z=>by cases z⟩
theorem rM_D (t:Nat):([.tup [.int 0,.non]]:List D)++(List.replicate t ([.tup [.int 1,.non],.tup [.int 2,.non]]:List D)).flatten=(rM t).map mvD:=by
 induction t with
 | zero=>rfl
 | succ t ih =>
  rw [List.replicate_succ',List.flatten_append,<- PQ,ih]
  unfold rM
  rw [show 2*(t+1)+1=2*t+1+1+1 from by omega,PY (n:=2*t+1+1),PY (n:=2*t+1)]
  simp only [Q9,Qq,Ps,PQ]
  congr 1
  have e1:pl (2*t+1)=1:=by unfold pl;rw [if_neg (by omega),if_pos (by omega)]
  have e2:pl (2*t+1+1)=2:=by unfold pl;rw [if_neg (by omega),if_neg (by omega)]
  rw [e1,e2]
  rfl
theorem r_row {t k:Nat} (h:k<=2*t+1):rwD rS 1 (rM t) k=Yp (stC k):=by unfold rwD;rw [r_st k h]
theorem rM_len (t:Nat):(rM t).length=2*t+1:=by simp [rM]
theorem rounds_ok {t:Nat} (ht:t<=2900):m'rounds [.int (t:Nat)]=some (.bl true):=by
 have hg:=r_good t
 have hl:=rM_len t
 have hran:=ran_ok hg (by omega) (by omega) r_laid
 have hrun:=Wu hg (by omega) r_laid
 have rat:∀ k:Nat,k<=2*t+1->atI ((List.range ((rM t).length+1)).map (rwD rS 1 (rM t))) (k:Int)=some (Yp (stC k)):=fun k hk=>zD (by rw [QB,P7 (by omega),PJ,r_row hk])
 refine Wo.eq ?_
 unfold m'rounds b'rounds
 rw [yp]
 refine ⟨rfl,?_⟩
 simp only [Za,zMap,zLen,List.replicate,zApp,QC,Nat.reduceAdd,Nat.reduceSub]
 rw [zv]
 refine ZU (d:=.tup [.int ((1:Nat):Int),Z3 rB 1]) (yt rfl (jH (jH (yt rfl (jH (J0 rfl rfl (yt rfl rfl))))))) ?_
 simp only [zSet,zj]
 rw [zv]
 refine ZU (d:=yS (rM t)) ?_ ?_
 ·rw [fCat_,fL_,jH (yt rfl rfl),oB]
  show Option.bind (some [D.tup [.int 0,.non]]) _=_
  rw [oB,fL_,fRep_,fL_,lst2_ (yt rfl rfl) (yt rfl rfl),oB]
  show Option.bind (Option.bind (Option.bind (some [D.tup [.int 1,.non],D.tup [.int 2,.non]]) _) asL) _=_
  rw [oB,zL (d:=.int (t:Nat)) rfl,oB]
  unfold dRep
  simp only
  rw [if_pos ⟨by omega,by omega,size9 (by simp;omega)⟩,oB,Q0]
  show Option.bind (some _) _=_
  rw [oB,rM_D]
  exact J8 (size9 (by rw [Qj];omega))
 simp only [zSet,zj]
 rw [zv]
 refine ZU (fA2 (x:=.tup [.int ((1:Nat):Int),Z3 rB 1]) (y:=yS (rM t)) rfl (by rw [fA_,Z9 (ds:=(rM t).map mvD) rfl];rfl) hran) ?_
 simp only [zSet,zj]
 generalize hF:(List.range ((rM t).length+1)).map (rwD rS 1 (rM t))=F at rat
 have hFl:F.length=2*t+2:=by rw [<- hF,Qj,PP,hl]
 rw [zv]
 refine Y5 (wS (zW (f2v (fA2 rfl rfl hrun) rfl rfl)) (wS (zW (f2v (lenv (ds:=F) rfl) (f2v (f2v rfl rfl (yn (JX (by decide) (by decide)))) rfl Ys) (by rw [hFl,show ((2*t+2:Nat):Int)=2*(t:Nat)+2 from by omega];exact WG))) (zW (f2v (Zr (Z9 (ds:=F) rfl) rfl (rat 0 (by omega))) (d:=.bl false) (y:=Yp (stC 0)) (yt rfl (yt rfl rfl)) (py_ne (row_py _) (by omega)))))) ?_
 rw [ZA,zE,zj,zv,J4,rng1w (n:=t) rfl (by omega),oB]
 refine jq (fun _ ρ=>∃ z:Option D,ρ=[some (.int (t:Nat)),some (.tup [.int ((1:Nat):Int),Z3 rB 1]),some (yS (rM t)),some (.lst F),z]) ⟨none,rfl⟩ ?_ ?_
 ·rintro i d ρ hd ⟨z,rfl⟩
  obtain ⟨hi,rfl⟩:=Yq hd
  rw [Pv,YF,zE]
  simp only [zSet]
  have p1:stC (2*i+1)=(1,[1,((i:Nat):Int)]):=by
   unfold stC pl
   rw [if_neg (by omega),if_pos (by omega),show (2*i+1) / 2=i from by omega]
   rfl
  have p2:stC (2*i+2)=(2,[1,((i:Nat):Int)+1]):=by
   unfold stC pl
   rw [if_neg (by omega),if_neg (by omega),show (2*i+2) / 2=i+1 from by omega]
   rfl
  have c1:((2*i+1:Nat):Int)=2*(i:Nat)+1:=by omega
  have c2:((2*i+2:Nat):Int)=2*(i:Nat)+2:=by omega
  have a1:=rat (2*i+1) (by omega)
  have a2:=rat (2*i+2) (by omega)
  rw [p1,c1] at a1
  rw [p2,c2] at a2
  refine Y5 (wS (zW (f2v (Zr (Z9 (ds:=F) rfl) (f2v (f2v rfl rfl (yn (JX (by decide) (by decide)))) rfl Ys) a1) (d:=.bl false) (y:=Yp (1,[1,((i:Nat):Int)])) (yt rfl (yt rfl rfl)) (py_ne (row_py _) (by omega)))) (zW (f2v (Zr (Z9 (ds:=F) rfl) (f2v (f2v rfl rfl (yn (JX (by decide) (by decide)))) rfl Ys) a2) (d:=.bl false) (y:=Yp (2,[1,((i:Nat):Int)+1])) (yt rfl (yt rfl (f2v rfl rfl Ys))) (py_ne (row_py _) (by omega))))) ?_
  exact ⟨_,rfl,_,rfl⟩
 ·rintro ρ ⟨z,rfl⟩
  rw [zj]
  have pe:stC (2*t+1)=(1,[1,((t:Nat):Int)]):=by
   unfold stC pl
   rw [if_neg (by omega),if_pos (by omega),show (2*t+1) / 2=t from by omega]
   rfl
  have ae:atI F (-1)=some (Yp (1,[1,((t:Nat):Int)])):=by rw [<- hF,hl,atI_rng,r_row (by omega),pe]
  exact jX (f2v (Zr (Z9 (ds:=F) rfl) (f1v rfl dNeg_) ae) (y:=Yp (1,[1,((t:Nat):Int)])) (yt rfl (yt rfl rfl)) ((row_py _).eq (by omega))) rfl
theorem clear_ {i:Nat} {ρ:Ev} {ds:List D} {T:Out->Prop} (ex:ρ[i]?.join=some (.lst ds)) (k:T (.nx (ρ.set i (some (.lst []))))):Wo (gx i ρ) T:=by unfold gx;rw [ex];exact ⟨_,rfl,k⟩
theorem newRW_ {ρ:Ev} {T:Out->Prop} {i:Nat} {f:Ev->Option D} {d:D} (e:f ρ=some d) (hi:i<ρ.length) (hf:yW d=true) (k:T (.nx (ρ.set i (some d)))):Wo (mNewRW i f ρ) T:=by
 rw [mNewRW_,e]
 exact ⟨_,if_pos ⟨hi,hf⟩,k⟩
theorem nilT {ρ:Ev}:Zo zu ρ=some (.tup []):=rfl
theorem mvs_py (ms:List Mv):Py 2 (yS ms):=.lst fun d hd=>by
 obtain ⟨m,_,rfl⟩:=QL.mp hd
 refine Py.tup (n:=0) fun e he=>?_
 simp only [Qb,Qk,or_false] at he
 rcases he with rfl | rfl
 ·exact .int _ _
 ·cases m.2 with
  | none=>exact Fi.pyd (n:=0) (Fi.sc (d:=.non) rfl 0)
  | some v=>exact .int _ _
theorem row_flat (s:Int×List Int):(Yp s).flat=true:=by simp [Yp,inD,D.flat,YL,wA]
theorem rows_flat (rs:List (Int×List Int)):yW (.lst (rs.map Yp))=true:=by
 unfold yW
 induction rs with
 | nil=>rfl
 | cons s rs ih=>simp [YL,row_flat] at ih ⊢;exact ih
section
variable {mm:Nat} {sps:List Sp} {ms:List Mv}
theorem rows_eq (sps:List Sp) (mm:Nat) (ms:List Mv) (n:Nat):(List.range n).map (rwD sps mm ms)=((List.range n).map (stA sps (s0 mm) ms)).map Yp:=by
 rw [Pg]
 rfl
theorem due_good (h:Good mm sps ms) (h6:mm<=6):m'good [.lst ((List.range (ms.length+1)).map (rwD sps mm ms)),.lst ((List.range (ms.length+1)).map (rwD sps mm ms))]=some (.bl true):=by
 rw [rows_eq]
 refine good_ok fun s hs=>?_
 obtain ⟨k,hk,rfl⟩:=QL.mp hs
 have:=(wJ h h6 k (by have:=P3.mp hk;omega)).1
 omega
theorem rows_take {a:Nat} (ha:a<=ms.length):(List.range ((ms.take a).length+1)).map (rwD sps mm (ms.take a))=((List.range (ms.length+1)).map (rwD sps mm ms)).take (a+1):=by
 rw [<- List.map_take,List.take_range,Pj (by omega),Q5,Pj ha]
 refine List.map_congr_left fun k hk=>?_
 unfold rwD
 rw [stA_take (by have:=P3.mp hk;omega)]
end
theorem law_holds (ns:List Int) (hl:ns.length<=63):Gz [.scr ns]=some (.bl true):=by
 refine Wo.eq ?_
 unfold Gz b_law
 rw [yp]
 refine ⟨rfl,?_⟩
 simp only [Za,zMap,zLen,List.replicate,zApp,QC,Nat.reduceAdd,Nat.reduceSub]
 obtain ⟨v0,e0⟩:=Wb ns 0 (by omega) (by omega)
 have q0:=QA v0 (show (7:Int)≠0 by decide)
 have q1:=Qx v0 (show (0:Int)<7 by decide)
 obtain ⟨many,hmany⟩:∃ n:Nat,v0 % 7=n:=⟨(v0 % 7).toNat,by omega⟩
 have hm:many<=6:=by omega
 rw [zv]
 refine ZU (d:=.int (many:Nat)) (f2v (fA2 rfl rfl e0) rfl ((ZK (by decide)).trans (by rw [hmany]))) ?_
 simp only [zSet,zj]
 obtain ⟨L,eL,l1,l4,hG⟩:=prog_ok ns (at_:=1) (many:=many) (by omega) hm 36
 rw [zv]
 refine ZU (fA4 rfl rfl rfl rfl eL) ?_
 simp only [zSet,zj]
 obtain ⟨r,ea,ed,hst,hlen,_⟩:=all_ok l1 l4 hG (many:Nat)
 obtain ⟨sps,eS,hok⟩:=steps_of r.2.2 hst
 have hp:m_laid [.tup [.int (many:Nat),.lst (L.map .lst)]]=some (.tup [.int r.2.1,yK sps,.int r.1]):=by
  rw [ea]
  unfold ansD yK
  rw [eS]
 have hL0:atI (L.map D.lst) ((0:Nat):Int)=some (.lst (L.getD 0 [])):=zD (by
  cases L with
  | nil=>simp at l1
  | cons a t=>rfl)
 rw [zv]
 refine new_ (jH (d:=.int 1) rfl) (by simp) ?_
 simp only [zSet,zj]
 have elend:mLend 3 (Jm (Ya 3 m'lay (zK (wL (fIx (zm true (fIx (zm false (zb 2)) (fC (.int 1)))) (fC (.int 0)))) (zK (wL (fC (.int 0))) (zK (wL (fIx (zm false (zb 2)) (fC (.int 1)))) (zK (wL (zb 3)) (wL zu))))))) [some (.scr ns),some (.int (many:Nat)),some (.tup [.int (many:Nat),.lst (L.map .lst)]),some (.lst [.int 1]),none,none,none,none,none,none,none,none]=some (.nx [some (.scr ns),some (.int (many:Nat)),some (.tup [.int (many:Nat),.lst (L.map .lst)]),some (.lst (.int r.2.1::r.2.2)),none,none,none,none,none,none,none,none]) :=
  mLend_eq (ρ':=[some (.scr ns),some (.int (many:Nat)),some (.tup [.int (many:Nat),.lst (L.map .lst)]),some (.lst [.int 1]),none,none,none,none,none,none,none,none]) (S:=[.int 1]) (S':=.int r.2.1::r.2.2) rfl fun a=>Wh (y2 (zH (wl_ (Zr (Z9 (Zr (ZQ (zL rfl)) rfl (zD (j:=1) rfl))) rfl hL0)) (zH (wl_ rfl) (zH (wl_ (Zr (ZQ (zL rfl)) rfl (zD (j:=1) rfl))) (zH (wl_ (zL rfl)) yw)))) (ed a))
 rw [zv,elend,zE,zj]
 rw [zv]
 refine ZU (d:=yK sps) ((cutLFrom (k:=1) (Z9 (zL rfl)) rfl).trans (by rw [List.drop_succ_cons,List.drop_zero,eS];rfl)) ?_
 simp only [zSet,zj]
 obtain ⟨v,ev⟩:=Wb ns 25 (by omega) (by omega)
 rw [zv]
 refine ZU (fA2 rfl rfl ev) ?_
 simp only [zSet,zj]
 have a0:=QA v (show (61:Int)≠0 by decide)
 have a1:=Qx v (show (0:Int)<61 by decide)
 have b0:=QA (v / 488) (show (251:Int)≠0 by decide)
 have b1:=Qx (v / 488) (show (0:Int)<251 by decide)
 rw [zv]
 refine ZU (d:=.int (v % 61)) (f2v rfl rfl (ZK (by decide))) ?_
 simp only [zSet,zj]
 generalize hM:(D.lst (D.int r.2.1::r.2.2))=made
 obtain ⟨most,hmost,em⟩:∃ most:Nat,most<=250/\mIf (zG (f2 ZS (f2 yq (f2 YK (zb 5) (fC (.int 61))) (fC (.int 8))) (fC (.int 5)))) (Zw 6 (f2 yq (f2 YK (zb 5) (fC (.int 488))) (fC (.int 251)))) ZT [some (.scr ns),some (.int (many:Nat)),some (.tup [.int (many:Nat),.lst (L.map .lst)]),some made,some (yK sps),some (.int v),some (.int (v % 61)),none,none,none,none,none]=some (.nx [some (.scr ns),some (.int (many:Nat)),some (.tup [.int (many:Nat),.lst (L.map .lst)]),some made,some (yK sps),some (.int v),some (.int (most:Nat)),none,none,none,none,none]):=by
  have et:zG (f2 ZS (f2 yq (f2 YK (zb 5) (fC (.int 61))) (fC (.int 8))) (fC (.int 5))) [some (.scr ns),some (.int (many:Nat)),some (.tup [.int (many:Nat),.lst (L.map .lst)]),some made,some (yK sps),some (.int v),some (.int (v % 61)),none,none,none,none,none]=some (decide (v / 61 % 8=5)):=zW (f2v (f2v (f2v rfl rfl (yr (by decide) (by decide))) rfl (ZK (by decide))) rfl jp)
  by_cases hc:v / 61 % 8=5
  ·refine ⟨(v / 488 % 251).toNat,by omega,?_⟩
   rw [mIf_,et,oB,if_pos (decide_eq_true hc),mSet_,f2v (f2v rfl rfl (yr (by decide) (by decide))) rfl (ZK (by decide)),Pm b0]
   rfl
  ·refine ⟨(v % 61).toNat,by omega,?_⟩
   rw [mIf_,et,oB,if_neg (by simp [hc]),Pm a0]
   rfl
 rw [zv,em,zE,zj]
 obtain ⟨ms,er,hg,hml⟩:=run_ok ns hok (by rw [<- Qj (f:=Sp.toD),<- eS];exact hlen) hmost
 have hgt:=fun a=>hg.take (a:=a)
 have hran:=ran_ok hg hm (by omega) hp
 have hrun:=Wu hg (by omega) hp
 rw [zv]
 refine ZU (fA4 rfl rfl rfl rfl er) ?_
 simp only [zSet,zj]
 rw [zv]
 refine ZU (fA3 rfl rfl rfl (walked_ok hg hm (by omega))) ?_
 simp only [zSet,zj]
 rw [zv]
 refine new_ (d:=yS ms) (by rw [fA_,Z9 (ds:=ms.map mvD) rfl];rfl) (by simp) ?_
 simp only [zSet,zj]
 rw [zv]
 refine newRW_ (fA2 rfl rfl hran) (by simp) (by rw [rows_eq];exact rows_flat _) ?_
 simp only [zSet,zj]
 have hgood:=due_good hg hm
 rw [zv]
 refine Y5 (wS (zW (f2v rfl rfl (py_ne (mvs_py ms) (by omega)))) (WT (zW (fA2 rfl rfl hgood)))) ?_
 rw [ZA,zE,zj,zv]
 refine clear_ (ds:=ms.map mvD) rfl ?_
 simp only [zSet,zj]
 rw [zv]
 refine upd_ (ds:=(List.range (ms.length+1)).map (rwD sps many ms)) (yt rfl nilT) rfl (jJ (size8 (by simp;omega))) ?_
 simp only [zSet,zj]
 have c0:=QA (v / 61) (show ((ms.length:Nat):Int)+1≠0 by omega)
 have c1:=Qx (v / 61) (show (0:Int)<(ms.length:Nat)+1 by omega)
 obtain ⟨at_,hat⟩:∃ n:Nat,v / 61 % ((ms.length:Nat)+1)=(n:Nat):=⟨(v / 61 % ((ms.length:Nat)+1)).toNat,by omega⟩
 have hal:at_<=ms.length:=by omega
 rw [zv]
 refine ZU (d:=.int (at_:Nat)) (f2v (f2v rfl rfl (yr (by decide) (by decide))) (f2v ((lenv (ds:=ms.map mvD) rfl).trans (by rw [Qj])) rfl Ys) ((ZK (by omega)).trans (by rw [hat]))) ?_
 simp only [zSet,zj]
 have tl:(ms.take at_).length<=10000:=by rw [Q5];omega
 have hran2:=ran_ok (hgt at_) hm tl hp
 have hrun2:=Wu (hgt at_) tl hp
 have hgood2:=due_good (hgt at_) hm
 rw [rows_take hal] at hran2 hgood2
 have ecut:∀ {ρ:Ev},ρ[7]?=some (some (yS ms))->ρ[11]?=some (some (.int (at_:Nat)))->fCut .lst (zm true (zb 7)) fNo (YC (zb 11)) ρ=some (yS (ms.take at_)):=fun h7 h11=>(cutLTo (k:=at_) (Z9 (ds:=ms.map mvD) (zL h7)) (zL h11)).trans (by unfold yS;rw [List.map_take])
 rw [zv]
 refine Y5 (wS (zW (f2v (fA2 rfl (ecut rfl rfl) hrun2) rfl rfl)) (zW (f2v (fA2 (y:=yS ms) rfl (by rw [fA_,Z9 (ds:=ms.map mvD) rfl];rfl) hrun) rfl rfl))) ?_
 rw [ZA,zE,zj,zv]
 have d0:=QA (v / 488) (show (2901:Int)≠0 by decide)
 have d1:=Qx (v / 488) (show (0:Int)<2901 by decide)
 obtain ⟨tm,htm⟩:∃ n:Nat,v / 488 % 2901=(n:Nat):=⟨(v / 488 % 2901).toNat,by omega⟩
 refine Y5 ((andc (zW (f2v (f2v (f2v rfl rfl (yr (by decide) (by decide))) rfl (ZK (by decide))) rfl jp)) fun _=>WT (zW (fA1 (x:=.int (tm:Nat)) (f2v (f2v rfl rfl (yr (by decide) (by decide))) rfl ((ZK (by decide)).trans (by rw [htm]))) (rounds_ok (by omega))))).trans (by rw [Bool.and_false])) ?_
 rw [ZA,zE,zj]
 refine jX (andV_t (fA2 (fA2 rfl (ecut rfl rfl) hran2) (cutLTo (k:=at_+1) (Z9 (ds:=(List.range (ms.length+1)).map (rwD sps many ms)) rfl) (f2v rfl rfl Ys)) hgood2) (fA2 (fA2 rfl rfl hran) rfl hgood)) rfl
open PySem L2 M
open PySem.W (Frag)
theorem all_mk {l : PySem.W.OpenLaw} {w : World} {K : Frag} {h : Heap} {mg : Str -> Option Value} {fa : Addr} (X : K.In h) (G : h.Ns mainGlobals mg) (hfa : mg "law" = some (.ref fa))
    {fC:Addr}
    {f0 f1 f2 f3 f4 f5 f6 f7 f8 f9 f10 f11 f12 f13 f14 f15 f16 f17 f18 f19 f20 f21 f22 f23 f24 f25 f26 f27 f28 f29 f30 f31 f32:Addr} {od0 an0 od1 an1 od2 an2 od3 an3 od4 an4 od5 an5 od6 an6 od7 an7 od8 an8 od9 an9 od10 an10 od11 an11 od12 an12 od13 an13 od14 an14 od15 an15 od16 an16 od17 an17 od18 an18 od19 an19 od20 an20 od21 an21 od22 an22 od23 an23 od24 an24 od25 an25 od26 an26 od27 an27 od28 an28 od29 an29 od30 an30 od31 an31 od32 an32:Option Addr} {sl0 sl1 sl2 sl3 sl4 sl5 sl6 sl7 sl8 sl9 sl10 sl11 sl12 sl13 sl14 sl15 sl16 sl17 sl18 sl19 sl20 sl21 sl22 sl23 sl24 sl25 sl26 sl27 sl28 sl29 sl30 sl31 sl32:Array (Option Value)} {oc0 kV0 dc0 pm0 cd0 ct0 oc1 kV1 dc1 pm1 cd1 ct1 oc2 kV2 dc2 pm2 cd2 ct2 oc3 kV3 dc3 pm3 cd3 ct3 oc4 kV4 dc4 pm4 cd4 ct4 oc5 kV5 dc5 pm5 cd5 ct5 oc6 kV6 dc6 pm6 cd6 ct6 oc7 kV7 dc7 pm7 cd7 ct7 oc8 kV8 dc8 pm8 cd8 ct8 oc9 kV9 dc9 pm9 cd9 ct9 oc10 kV10 dc10 pm10 cd10 ct10 oc11 kV11 dc11 pm11 cd11 ct11 oc12 kV12 dc12 pm12 cd12 ct12 oc13 kV13 dc13 pm13 cd13 ct13 oc14 kV14 dc14 pm14 cd14 ct14 oc15 kV15 dc15 pm15 cd15 ct15 oc16 kV16 dc16 pm16 cd16 ct16 oc17 kV17 dc17 pm17 cd17 ct17 oc18 kV18 dc18 pm18 cd18 ct18 oc19 kV19 dc19 pm19 cd19 ct19 oc20 kV20 dc20 pm20 cd20 ct20 oc21 kV21 dc21 pm21 cd21 ct21 oc22 kV22 dc22 pm22 cd22 ct22 oc23 kV23 dc23 pm23 cd23 ct23 oc24 kV24 dc24 pm24 cd24 ct24 oc25 kV25 dc25 pm25 cd25 ct25 oc26 kV26 dc26 pm26 cd26 ct26 oc27 kV27 dc27 pm27 cd27 ct27 oc28 kV28 dc28 pm28 cd28 ct28 oc29 kV29 dc29 pm29 cd29 ct29 oc30 kV30 dc30 pm30 cd30 ct30 oc31 kV31 dc31 pm31 cd31 ct31 oc32 kV32 dc32 pm32 cd32 ct32:Value}
    {t_SKIP:Tok}
    {a_SKIP:Addr} {o_SKIP:Option Addr} {n_SKIP:Nat} {l_SKIP:Array (Option Value)}
    (a0:nsIn K mainGlobals "worth"=some (some (.ref f0))) (l0:K.lookup f0=some ⟨oc0,od0,.func (fnOf "worth" "worth" (zU jT) (zM jT) (zk jT) .none kV0 dc0 pm0 an0 cd0 ct0),sl0⟩) (c0:codeIn K cd0 "worth"=true) (k0:keepIn K (.ref f0)=true)
    (a1:nsIn K mainGlobals "lists_in"=some (some (.ref f1))) (l1:K.lookup f1=some ⟨oc1,od1,.func (fnOf "lists_in" "lists_in" (zU yM) (zM yM) (zk yM) .none kV1 dc1 pm1 an1 cd1 ct1),sl1⟩) (c1:codeIn K cd1 "lists_in"=true) (k1:keepIn K (.ref f1)=true)
    (a2:nsIn K mainGlobals "new_places"=some (some (.ref f2))) (l2:K.lookup f2=some ⟨oc2,od2,.func (fnOf "new_places" "new_places" (zU yj) (zM yj) (zk yj) .none kV2 dc2 pm2 an2 cd2 ct2),sl2⟩) (c2:codeIn K cd2 "new_places"=true) (k2:keepIn K (.ref f2)=true)
    (a3:nsIn K mainGlobals "new_places_of_row"=some (some (.ref f3))) (l3:K.lookup f3=some ⟨oc3,od3,.func (fnOf "new_places_of_row" "new_places_of_row" (zU Zu) (zM Zu) (zk Zu) .none kV3 dc3 pm3 an3 cd3 ct3),sl3⟩) (c3:codeIn K cd3 "new_places_of_row"=true) (k3:keepIn K (.ref f3)=true)
    (a4:nsIn K mainGlobals "laid"=some (some (.ref f4))) (l4:K.lookup f4=some ⟨oc4,od4,.func (fnOf "laid" "laid" (zU wg) (zM wg) (zk wg) .none kV4 dc4 pm4 an4 cd4 ct4),sl4⟩) (c4:codeIn K cd4 "laid"=true) (k4:keepIn K (.ref f4)=true)
    (a5:nsIn K mainGlobals "places_of_bodies"=some (some (.ref f5))) (l5:K.lookup f5=some ⟨oc5,od5,.func (fnOf "places_of_bodies" "places_of_bodies" (zU Zy) (zM Zy) (zk Zy) .none kV5 dc5 pm5 an5 cd5 ct5),sl5⟩) (c5:codeIn K cd5 "places_of_bodies"=true) (k5:keepIn K (.ref f5)=true)
    (a6:nsIn K mainGlobals "lay_rows"=some (some (.ref f6))) (l6:K.lookup f6=some ⟨oc6,od6,.func (fnOf "lay_rows" "lay_rows" (zU yN) (zM yN) (zk yN) .none kV6 dc6 pm6 an6 cd6 ct6),sl6⟩) (c6:codeIn K cd6 "lay_rows"=true) (k6:keepIn K (.ref f6)=true)
    (a7:nsIn K mainGlobals "lay_row"=some (some (.ref f7))) (l7:K.lookup f7=some ⟨oc7,od7,.func (fnOf "lay_row" "lay_row" (zU Ym) (zM Ym) (zk Ym) .none kV7 dc7 pm7 an7 cd7 ct7),sl7⟩) (c7:codeIn K cd7 "lay_row"=true) (k7:keepIn K (.ref f7)=true)
    (a8:nsIn K mainGlobals "lay_either"=some (some (.ref f8))) (l8:K.lookup f8=some ⟨oc8,od8,.func (fnOf "lay_either" "lay_either" (zU yk) (zM yk) (zk yk) .none kV8 dc8 pm8 an8 cd8 ct8),sl8⟩) (c8:codeIn K cd8 "lay_either"=true) (k8:keepIn K (.ref f8)=true)
    (a9:nsIn K mainGlobals "lay_loop"=some (some (.ref f9))) (l9:K.lookup f9=some ⟨oc9,od9,.func (fnOf "lay_loop" "lay_loop" (zU yO) (zM yO) (zk yO) .none kV9 dc9 pm9 an9 cd9 ct9),sl9⟩) (c9:codeIn K cd9 "lay_loop"=true) (k9:keepIn K (.ref f9)=true)
    (a10:nsIn K mainGlobals "lay_call"=some (some (.ref f10))) (l10:K.lookup f10=some ⟨oc10,od10,.func (fnOf "lay_call" "lay_call" (zU yP) (zM yP) (zk yP) .none kV10 dc10 pm10 an10 cd10 ct10),sl10⟩) (c10:codeIn K cd10 "lay_call"=true) (k10:keepIn K (.ref f10)=true)
    (a11:nsIn K mainGlobals "is_run"=some (some (.ref f11))) (l11:K.lookup f11=some ⟨oc11,od11,.func (fnOf "is_run" "is_run" (zU YY) (zM YY) (zk YY) .none kV11 dc11 pm11 an11 cd11 ct11),sl11⟩) (c11:codeIn K cd11 "is_run"=true) (k11:keepIn K (.ref f11)=true)
    (a12:nsIn K mainGlobals "ran"=some (some (.ref f12))) (l12:K.lookup f12=some ⟨oc12,od12,.func (fnOf "ran" "ran" (zU Gb) (zM Gb) (zk Gb) .none kV12 dc12 pm12 an12 cd12 ct12),sl12⟩) (c12:codeIn K cd12 "ran"=true) (k12:keepIn K (.ref f12)=true)
    (a13:nsIn K mainGlobals "first_stand"=some (some (.ref f13))) (l13:K.lookup f13=some ⟨oc13,od13,.func (fnOf "first_stand" "first_stand" (zU ye) (zM ye) (zk ye) .none kV13 dc13 pm13 an13 cd13 ct13),sl13⟩) (c13:codeIn K cd13 "first_stand"=true) (k13:keepIn K (.ref f13)=true)
    (a14:nsIn K mainGlobals "takes"=some (some (.ref f14))) (l14:K.lookup f14=some ⟨oc14,od14,.func (fnOf "takes" "takes" (zU jU) (zM jU) (zk jU) .none kV14 dc14 pm14 an14 cd14 ct14),sl14⟩) (c14:codeIn K cd14 "takes"=true) (k14:keepIn K (.ref f14)=true)
    (a15:nsIn K mainGlobals "stand_behind"=some (some (.ref f15))) (l15:K.lookup f15=some ⟨oc15,od15,.func (fnOf "stand_behind" "stand_behind" (zU Z1) (zM Z1) (zk Z1) .none kV15 dc15 pm15 an15 cd15 ct15),sl15⟩) (c15:codeIn K cd15 "stand_behind"=true) (k15:keepIn K (.ref f15)=true)
    (a16:nsIn K mainGlobals "places_along"=some (some (.ref f16))) (l16:K.lookup f16=some ⟨oc16,od16,.func (fnOf "places_along" "places_along" (zU Z2) (zM Z2) (zk Z2) .none kV16 dc16 pm16 an16 cd16 ct16),sl16⟩) (c16:codeIn K cd16 "places_along"=true) (k16:keepIn K (.ref f16)=true)
    (a17:nsIn K mainGlobals "goes_on"=some (some (.ref f17))) (l17:K.lookup f17=some ⟨oc17,od17,.func (fnOf "goes_on" "goes_on" (zU Yn) (zM Yn) (zk Yn) .none kV17 dc17 pm17 an17 cd17 ct17),sl17⟩) (c17:codeIn K cd17 "goes_on"=true) (k17:keepIn K (.ref f17)=true)
    (a18:nsIn K mainGlobals "_law_cell"=some (some (.ref f18))) (l18:K.lookup f18=some ⟨oc18,od18,.func (fnOf "_law_cell" "_law_cell" (zU wn) (zM wn) (zk wn) .none kV18 dc18 pm18 an18 cd18 ct18),sl18⟩) (c18:codeIn K cd18 "_law_cell"=true) (k18:keepIn K (.ref f18)=true)
    (a19:nsIn K mainGlobals "_law_line"=some (some (.ref f19))) (l19:K.lookup f19=some ⟨oc19,od19,.func (fnOf "_law_line" "_law_line" (zU wj) (zM wj) (zk wj) .none kV19 dc19 pm19 an19 cd19 ct19),sl19⟩) (c19:codeIn K cd19 "_law_line"=true) (k19:keepIn K (.ref f19)=true)
    (a20:nsIn K mainGlobals "_law_deed"=some (some (.ref f20))) (l20:K.lookup f20=some ⟨oc20,od20,.func (fnOf "_law_deed" "_law_deed" (zU wm) (zM wm) (zk wm) .none kV20 dc20 pm20 an20 cd20 ct20),sl20⟩) (c20:codeIn K cd20 "_law_deed"=true) (k20:keepIn K (.ref f20)=true)
    (a21:nsIn K mainGlobals "_law_body"=some (some (.ref f21))) (l21:K.lookup f21=some ⟨oc21,od21,.func (fnOf "_law_body" "_law_body" (zU wo) (zM wo) (zk wo) .none kV21 dc21 pm21 an21 cd21 ct21),sl21⟩) (c21:codeIn K cd21 "_law_body"=true) (k21:keepIn K (.ref f21)=true)
    (a22:nsIn K mainGlobals "_law_program"=some (some (.ref f22))) (l22:K.lookup f22=some ⟨oc22,od22,.func (fnOf "_law_program" "_law_program" (zU Yo) (zM Yo) (zk Yo) .none kV22 dc22 pm22 an22 cd22 ct22),sl22⟩) (c22:codeIn K cd22 "_law_program"=true) (k22:keepIn K (.ref f22)=true)
    (a23:nsIn K mainGlobals "_law_lay"=some (some (.ref f23))) (l23:K.lookup f23=some ⟨oc23,od23,.func (fnOf "_law_lay" "_law_lay" (zU Ge) (zM Ge) (zk Ge) .none kV23 dc23 pm23 an23 cd23 ct23),sl23⟩) (c23:codeIn K cd23 "_law_lay"=true) (k23:keepIn K (.ref f23)=true)
    (a24:nsIn K mainGlobals "_law_behind"=some (some (.ref f24))) (l24:K.lookup f24=some ⟨oc24,od24,.func (fnOf "_law_behind" "_law_behind" (zU Y1) (zM Y1) (zk Y1) .none kV24 dc24 pm24 an24 cd24 ct24),sl24⟩) (c24:codeIn K cd24 "_law_behind"=true) (k24:keepIn K (.ref f24)=true)
    (a25:nsIn K mainGlobals "_law_run"=some (some (.ref f25))) (l25:K.lookup f25=some ⟨oc25,od25,.func (fnOf "_law_run" "_law_run" (zU Gd) (zM Gd) (zk Gd) .none kV25 dc25 pm25 an25 cd25 ct25),sl25⟩) (c25:codeIn K cd25 "_law_run"=true) (k25:keepIn K (.ref f25)=true)
    (a26:nsIn K mainGlobals "_law_walked"=some (some (.ref f26))) (l26:K.lookup f26=some ⟨oc26,od26,.func (fnOf "_law_walked" "_law_walked" (zU YZ) (zM YZ) (zk YZ) .none kV26 dc26 pm26 an26 cd26 ct26),sl26⟩) (c26:codeIn K cd26 "_law_walked"=true) (k26:keepIn K (.ref f26)=true)
    (a27:nsIn K mainGlobals "_law_good"=some (some (.ref f27))) (l27:K.lookup f27=some ⟨oc27,od27,.func (fnOf "_law_good" "_law_good" (zU wk) (zM wk) (zk wk) .none kV27 dc27 pm27 an27 cd27 ct27),sl27⟩) (c27:codeIn K cd27 "_law_good"=true) (k27:keepIn K (.ref f27)=true)
    (a28:nsIn K mainGlobals "_law_rounds"=some (some (.ref f28))) (l28:K.lookup f28=some ⟨oc28,od28,.func (fnOf "_law_rounds" "_law_rounds" (zU Y0) (zM Y0) (zk Y0) .none kV28 dc28 pm28 an28 cd28 ct28),sl28⟩) (c28:codeIn K cd28 "_law_rounds"=true) (k28:keepIn K (.ref f28)=true)
    (a29:nsIn K mainGlobals "law"=some (some (.ref f29))) (l29:K.lookup f29=some ⟨oc29,od29,.func (fnOf "law" "law" (zU Gc) (zM Gc) (zk Gc) .none kV29 dc29 pm29 an29 cd29 ct29),sl29⟩) (c29:codeIn K cd29 "law"=true) (k29:keepIn K (.ref f29)=true)
    (i30:PySem.W.isFn K (.ref f30)=true)
    (a30:PySem.W.findIn K (.ref fC) "__init__"=some (some (.ref f30))) (l30:K.lookup f30=some ⟨oc30,od30,.func (fnOf "__init__" "Layout.__init__" (zU yR) (zM yR) (zk yR) .none kV30 dc30 pm30 an30 cd30 ct30),sl30⟩) (c30:codeIn K cd30 "Layout.__init__"=true) (k30:keepIn K (.ref f30)=true)
    (i31:PySem.W.isFn K (.ref f31)=true)
    (a31:PySem.W.findIn K (.ref fC) "new_place"=some (some (.ref f31))) (l31:K.lookup f31=some ⟨oc31,od31,.func (fnOf "new_place" "Layout.new_place" (zU yz) (zM yz) (zk yz) .none kV31 dc31 pm31 an31 cd31 ct31),sl31⟩) (c31:codeIn K cd31 "Layout.new_place"=true) (k31:keepIn K (.ref f31)=true)
    (i32:PySem.W.isFn K (.ref f32)=true)
    (a32:PySem.W.findIn K (.ref fC) "add_step"=some (some (.ref f32))) (l32:K.lookup f32=some ⟨oc32,od32,.func (fnOf "add_step" "Layout.add_step" (zU yQ) (zM yQ) (zk yQ) .none kV32 dc32 pm32 an32 cd32 ct32),sl32⟩) (c32:codeIn K cd32 "Layout.add_step"=true) (k32:keepIn K (.ref f32)=true)
    (z_bool:nsIn K mainGlobals "bool"=some none)
    (z_int:nsIn K mainGlobals "int"=some none)
    (z_isinstance:nsIn K mainGlobals "isinstance"=some none)
    (z_len:nsIn K mainGlobals "len"=some none)
    (z_list:nsIn K mainGlobals "list"=some none)
    (z_range:nsIn K mainGlobals "range"=some none)
    (z_sum:nsIn K mainGlobals "sum"=some none)
    (z_tuple:nsIn K mainGlobals "tuple"=some none)
    (z_zip:nsIn K mainGlobals "zip"=some none)
    (c_SKIP:nsIn K mainGlobals "SKIP"=some (some (.ref a_SKIP))) (d_SKIP:K.lookup a_SKIP=some ⟨.type "tuple",o_SKIP,.seq #[.str "skip" t_SKIP] n_SKIP,l_SKIP⟩)
    (aC:nsIn K mainGlobals "Layout"=some (some (.ref fC))) (pg:PySem.W.plainGet K fC Str.empty=true) (hd:PySem.W.hasDictIn K fC=true) (po:PySem.W.plainOver K fC=true) (sa:PySem.W.findIn K (.ref fC) "__setattr__"=some (some (.builtin "object.__setattr__"))) (mk:PySem.W.makesIn K fC=true) (kc:keepIn K (.ref fC)=true) (nb:PySem.W.findIn K (.ref fC) "bodies"=some none) (nl:PySem.W.findIn K (.ref fC) "laying"=some none) (nc:PySem.W.findIn K (.ref fC) "count"=some none) (ns:PySem.W.findIn K (.ref fC) "steps"=some none) :
    ∃ fd:FuncData,(∀ (s:Shared) (v:Value),BindsTo s fd ⟨[v],[]⟩ [("_law_script",v)])/\∀ base:Heap,K.In base->base.Ns mainGlobals mg->FnOk l.prog w K mg base CX0 170 fa fd ["_law_script"] (spM K Gz):=by
  have T:Txt K mg ⟨_,_,_,_,_,_,_,_,_,_,_,_,_,_,_,_,_,_,_,_,_,_,_,_,_,_,_,_,_,_,_,_,_,_,_,_,_,_,_,_,_,_,_,_,_,_,_,_,_,_,_,_,_,_,_,_,_,_,_,_,_,_,_,_,_,_,_,_,_,_,_,_⟩ :=
   ⟨zF (st:=jT) l0 c0 k0,
   (zF (st:=jT) l0 c0 k0).binds (ps:=["one","other"]) fun _ _ _ _ _ _ us hl=>match us,hl with | [_,_],_=>rfl,
   PySem.W.mg_of X G a0,
   zF (st:=yM) l1 c1 k1,
   (zF (st:=yM) l1 c1 k1).binds (ps:=["row"]) fun _ _ _ _ _ _ us hl=>match us,hl with | [_],_=>rfl,
   PySem.W.mg_of X G a1,
   zF (st:=yj) l2 c2 k2,
   (zF (st:=yj) l2 c2 k2).binds (ps:=["rows","called"]) fun _ _ _ _ _ _ us hl=>match us,hl with | [_,_],_=>rfl,
   PySem.W.mg_of X G a2,
   zF (st:=Zu) l3 c3 k3,
   (zF (st:=Zu) l3 c3 k3).binds (ps:=["row","called"]) fun _ _ _ _ _ _ us hl=>match us,hl with | [_,_],_=>rfl,
   PySem.W.mg_of X G a3,
   zF (st:=wg) l4 c4 k4,
   (zF (st:=wg) l4 c4 k4).binds (ps:=["program"]) fun _ _ _ _ _ _ us hl=>match us,hl with | [_],_=>rfl,
   PySem.W.mg_of X G a4,
   zF (st:=Zy) l5 c5 k5,
   (zF (st:=Zy) l5 c5 k5).binds (ps:=["bodies"]) fun _ _ _ _ _ _ us hl=>match us,hl with | [_],_=>rfl,
   PySem.W.mg_of X G a5,
   zF (st:=yN) l6 c6 k6,
   (zF (st:=yN) l6 c6 k6).binds (ps:=["layout","rows","place"]) fun _ _ _ _ _ _ us hl=>match us,hl with | [_,_,_],_=>rfl,
   PySem.W.mg_of X G a6,
   zF (st:=Ym) l7 c7 k7,
   (zF (st:=Ym) l7 c7 k7).binds (ps:=["layout","row","place"]) fun _ _ _ _ _ _ us hl=>match us,hl with | [_,_,_],_=>rfl,
   PySem.W.mg_of X G a7,
   zF (st:=yk) l8 c8 k8,
   (zF (st:=yk) l8 c8 k8).binds (ps:=["layout","row","place"]) fun _ _ _ _ _ _ us hl=>match us,hl with | [_,_,_],_=>rfl,
   PySem.W.mg_of X G a8,
   zF (st:=yO) l9 c9 k9,
   (zF (st:=yO) l9 c9 k9).binds (ps:=["layout","row","place"]) fun _ _ _ _ _ _ us hl=>match us,hl with | [_,_,_],_=>rfl,
   PySem.W.mg_of X G a9,
   zF (st:=yP) l10 c10 k10,
   (zF (st:=yP) l10 c10 k10).binds (ps:=["layout","row","place"]) fun _ _ _ _ _ _ us hl=>match us,hl with | [_,_,_],_=>rfl,
   PySem.W.mg_of X G a10,
   zF (st:=YY) l11 c11 k11,
   (zF (st:=YY) l11 c11 k11).binds (ps:=["program","moves"]) fun _ _ _ _ _ _ us hl=>match us,hl with | [_,_],_=>rfl,
   PySem.W.mg_of X G a11,
   zF (st:=Gb) l12 c12 k12,
   (zF (st:=Gb) l12 c12 k12).binds (ps:=["program","moves"]) fun _ _ _ _ _ _ us hl=>match us,hl with | [_,_],_=>rfl,
   PySem.W.mg_of X G a12,
   zF (st:=ye) l13 c13 k13,
   (zF (st:=ye) l13 c13 k13).binds (ps:=["program"]) fun _ _ _ _ _ _ us hl=>match us,hl with | [_],_=>rfl,
   PySem.W.mg_of X G a13,
   zF (st:=jU) l14 c14 k14,
   (zF (st:=jU) l14 c14 k14).binds (ps:=["deed"]) fun _ _ _ _ _ _ us hl=>match us,hl with | [_],_=>rfl,
   PySem.W.mg_of X G a14,
   zF (st:=Z1) l15 c15 k15,
   (zF (st:=Z1) l15 c15 k15).binds (ps:=["deed","number","stand"]) fun _ _ _ _ _ _ us hl=>match us,hl with | [_,_,_],_=>rfl,
   PySem.W.mg_of X G a15,
   zF (st:=Z2) l16 c16 k16,
   (zF (st:=Z2) l16 c16 k16).binds (ps:=["steps","moves"]) fun _ _ _ _ _ _ us hl=>match us,hl with | [_,_],_=>rfl,
   PySem.W.mg_of X G a16,
   zF (st:=Yn) l17 c17 k17,
   (zF (st:=Yn) l17 c17 k17).binds (ps:=["steps","move","place"]) fun _ _ _ _ _ _ us hl=>match us,hl with | [_,_,_],_=>rfl,
   PySem.W.mg_of X G a17,
   zF (st:=wn) l18 c18 k18,
   (zF (st:=wn) l18 c18 k18).binds (ps:=["_law_script","_law_k"]) fun _ _ _ _ _ _ us hl=>match us,hl with | [_,_],_=>rfl,
   PySem.W.mg_of X G a18,
   zF (st:=wj) l19 c19 k19,
   (zF (st:=wj) l19 c19 k19).binds (ps:=["_law_cell_here","_law_many"]) fun _ _ _ _ _ _ us hl=>match us,hl with | [_,_],_=>rfl,
   PySem.W.mg_of X G a19,
   zF (st:=wm) l20 c20 k20,
   (zF (st:=wm) l20 c20 k20).binds (ps:=["_law_cell_here","_law_many","_law_later_on"]) fun _ _ _ _ _ _ us hl=>match us,hl with | [_,_,_],_=>rfl,
   PySem.W.mg_of X G a20,
   zF (st:=wo) l21 c21 k21,
   (zF (st:=wo) l21 c21 k21).binds (ps:=["_law_cells","_law_many","_law_later_on","_law_deep","_law_most"]) fun _ _ _ _ _ _ us hl=>match us,hl with | [_,_,_,_,_],_=>rfl,
   PySem.W.mg_of X G a21,
   zF (st:=Yo) l22 c22 k22,
   (zF (st:=Yo) l22 c22 k22).binds (ps:=["_law_script","_law_at","_law_many","_law_most"]) fun _ _ _ _ _ _ us hl=>match us,hl with | [_,_,_,_],_=>rfl,
   PySem.W.mg_of X G a22,
   zF (st:=Ge) l23 c23 k23,
   (zF (st:=Ge) l23 c23 k23).binds (ps:=["_law_rows","_law_place","_law_bodies","_law_made"]) fun _ _ _ _ _ _ us hl=>match us,hl with | [_,_,_,_],_=>rfl,
   PySem.W.mg_of X G a23,
   zF (st:=Y1) l24 c24 k24,
   (zF (st:=Y1) l24 c24 k24).binds (ps:=["_law_stand","_law_deed_here","_law_number"]) fun _ _ _ _ _ _ us hl=>match us,hl with | [_,_,_],_=>rfl,
   PySem.W.mg_of X G a24,
   zF (st:=Gd) l25 c25 k25,
   (zF (st:=Gd) l25 c25 k25).binds (ps:=["_law_script","_law_at","_law_steps","_law_most"]) fun _ _ _ _ _ _ us hl=>match us,hl with | [_,_,_,_],_=>rfl,
   PySem.W.mg_of X G a25,
   zF (st:=YZ) l26 c26 k26,
   (zF (st:=YZ) l26 c26 k26).binds (ps:=["_law_many","_law_steps","_law_moves"]) fun _ _ _ _ _ _ us hl=>match us,hl with | [_,_,_],_=>rfl,
   PySem.W.mg_of X G a26,
   zF (st:=wk) l27 c27 k27,
   (zF (st:=wk) l27 c27 k27).binds (ps:=["_law_found","_law_due"]) fun _ _ _ _ _ _ us hl=>match us,hl with | [_,_],_=>rfl,
   PySem.W.mg_of X G a27,
   zF (st:=Y0) l28 c28 k28,
   (zF (st:=Y0) l28 c28 k28).binds (ps:=["_law_times"]) fun _ _ _ _ _ _ us hl=>match us,hl with | [_],_=>rfl,
   PySem.W.mg_of X G a28,
   zF (st:=Gc) l29 c29 k29,
   (zF (st:=Gc) l29 c29 k29).binds (ps:=["_law_script"]) fun _ _ _ _ _ _ us hl=>match us,hl with | [_],_=>rfl,
   PySem.W.mg_of X G a29,
   zF (st:=yR) l30 c30 k30,
   (zF (st:=yR) l30 c30 k30).binds (ps:=["self","bodies"]) fun _ _ _ _ _ _ us hl=>match us,hl with | [_,_],_=>rfl,
   ⟨mk,a30,i30,kc⟩,
   zF (st:=yz) l31 c31 k31,
   (zF (st:=yz) l31 c31 k31).binds (ps:=["self"]) fun _ _ _ _ _ _ us hl=>match us,hl with | [_],_=>rfl,
   ⟨a31,i31,k31⟩,
   zF (st:=yQ) l32 c32 k32,
   (zF (st:=yQ) l32 c32 k32).binds (ps:=["self","start","to","deed"]) fun _ _ _ _ _ _ us hl=>match us,hl with | [_,_,_,_],_=>rfl,
   ⟨a32,i32,k32⟩,
   PySem.W.mg_none_of X G z_bool,
   PySem.W.mg_none_of X G z_int,
   PySem.W.mg_none_of X G z_isinstance,
   PySem.W.mg_none_of X G z_len,
   PySem.W.mg_none_of X G z_list,
   PySem.W.mg_none_of X G z_range,
   PySem.W.mg_none_of X G z_sum,
   PySem.W.mg_none_of X G z_tuple,
   PySem.W.mg_none_of X G z_zip,
   PySem.W.mg_of X G c_SKIP,
   d_SKIP,
   ⟨⟨pg,hd,po,sa⟩,nb,nl,nc,ns⟩,
   PySem.W.mg_of X G aC⟩
  have e:=hfa.symm.trans (PySem.W.mg_of X G a29)
  cases e
  refine' ⟨_,?b,fun base kb nb=>?c⟩
  case c =>
    have G_worth:=ok_worth (P:=l.prog) (w:=w) (base:=base) T
    have G_lists_in:=ok_lists_in (P:=l.prog) (w:=w) (base:=base) T
    have G_new_places:=ok_new_places (P:=l.prog) (w:=w) (base:=base) T G_lists_in
    have G_new_places_of_row:=Jz (P:=l.prog) (w:=w) (base:=base) T G_lists_in
    have G_places_of_bodies:=JW (P:=l.prog) (w:=w) (base:=base) T G_new_places
    have G___init__:=ok___init__ (P:=l.prog) (w:=w) (base:=base) T G_places_of_bodies
    have G_new_place:=ok_new_place (P:=l.prog) (w:=w) (base:=base) T
    have G_add_step:=ok_add_step (P:=l.prog) (w:=w) (base:=base) T
    have G_lay_rows:=ok_lay_rows (P:=l.prog) (w:=w) (base:=base) T G_new_place G_add_step
    have G_lay_row:=ok_lay_row (P:=l.prog) (w:=w) (base:=base) T G_new_place G_add_step
    have G_lay_either:=ok_lay_either (P:=l.prog) (w:=w) (base:=base) T G_new_place G_add_step
    have G_lay_loop:=ok_lay_loop (P:=l.prog) (w:=w) (base:=base) T G_new_place G_add_step
    have G_lay_call:=ok_lay_call (P:=l.prog) (w:=w) (base:=base) T G_new_place G_add_step
    have G_laid:=ok_laid (P:=l.prog) (w:=w) (base:=base) T G___init__ G_lay_rows
    have G_takes:=ok_takes (P:=l.prog) (w:=w) (base:=base) T
    have G_goes_on:=ok_goes_on (P:=l.prog) (w:=w) (base:=base) T G_takes
    have G_places_along:=W7 (P:=l.prog) (w:=w) (base:=base) T G_goes_on
    have G_is_run:=ok_is_run (P:=l.prog) (w:=w) (base:=base) T G_places_along G_laid
    have G_first_stand:=Gs (P:=l.prog) (w:=w) (base:=base) T
    have G_stand_behind:=W6 (P:=l.prog) (w:=w) (base:=base) T G_takes G_worth
    have G_ran:=ok_ran (P:=l.prog) (w:=w) (base:=base) T G_laid G_places_along G_first_stand G_stand_behind
    have G'cell:=ok'cell (P:=l.prog) (w:=w) (base:=base) T
    have G'line:=ok'line (P:=l.prog) (w:=w) (base:=base) T
    have G'deed:=ok'deed (P:=l.prog) (w:=w) (base:=base) T G'line
    have G'body:=ok'body (P:=l.prog) (w:=w) (base:=base) T G'deed
    have G'program:=ok'program (P:=l.prog) (w:=w) (base:=base) T G'cell G'body
    have G'lay:=ok'lay (P:=l.prog) (w:=w) (base:=base) T
    have G'behind:=ok'behind (P:=l.prog) (w:=w) (base:=base) T
    have G'run:=ok'run (P:=l.prog) (w:=w) (base:=base) T G'cell
    have G'walked:=ok'walked (P:=l.prog) (w:=w) (base:=base) T G'behind
    have G'good:=ok'good (P:=l.prog) (w:=w) (base:=base) T
    have G'rounds:=ok'rounds (P:=l.prog) (w:=w) (base:=base) T G_ran G_is_run
    exact ok_law (P:=l.prog) (w:=w) (base:=base) T G'cell G'program G'lay G'run G'walked G_ran G'good G_is_run G'rounds
  case b=>exact fun s v=>.of_eq rfl
theorem walk {l:PySem.W.OpenLaw} {q:Program} {loose:List Str} {XP:(Str->Option Value)->Heap->Prop} {YP:World->Heap->Prop} {d:DefRec} {K:Params->Frag} (hn:l.most=some 63) (hdf:d.params.defaults=[]) (himp:PyProof.Rows.importsNone q=true) (htree:l.prog.given.tree=none)
  (hY:∀ (w:World) (h:Heap),YP w h->(K w.params).In h)
  (F:∀ (w:World) (mg:Str->Option Value) (fa:Addr) (h:Heap),(K w.params).In h->h.Ns mainGlobals mg->mg d.name=some (.ref fa) ->
   ∃ fd:FuncData,(∀ (s:Shared) (u:Value),BindsTo s fd ⟨[u],[]⟩ [("_law_script",u)])/\∀ base:Heap,(K w.params).In base->base.Ns mainGlobals mg->FnOk l.prog w (K w.params) mg base CX0 170 fa fd ["_law_script"] (spM (K w.params) Gz)) :
  PySem.W.WalkO q loose XP YP l.row.toRowW d [] (fun f vs=>PySem.call f vs) :=
 L2.walk_of (n:=63) (k:=170) (x:="_law_script") (CX:=fun _=>CX0) (sp:=fun w=>spM (K w.params) Gz) hn (by decide) hdf ⟨rfl,by decide,by decide,rfl⟩ himp htree hY F (fun _ _ a ns hl hO hS=>law_end (l:=l) hO hS (law_holds ns hl)) fun _ _ _ _ _ z=>z
end EV
theorem PySem.W.Fast.tw6413790061167411405:True:=trivial
theorem PySem.W.Fast.tw12293267200139223844:True:=trivial
theorem PySem.W.Fast.tw15216036631092050824:True:=trivial
theorem PySem.W.Fast.tw2912762569040415114:True:=trivial
theorem PySem.W.Fast.tw3029799365293371961:True:=trivial
theorem PySem.W.Fast.tw8430351770613284727:True:=trivial
theorem PySem.W.Fast.tw3485132440852707906:True:=trivial
theorem PySem.W.Fast.tw7569109165609782959:True:=trivial
theorem PySem.W.Fast.tw9157900453277095235:True:=trivial
open PySem PySem.W PyProof.Rows
set_option maxRecDepth 100000 in
set_option maxHeartbeats 0 in
theorem PySem.Challenge.cw_evennotes_k17_places_and_stands_holds : PySem.Challenge.rw_evennotes_k17_places_and_stands.Holds := by
 w_on;o_law;k_head;(case hw=>w_witness2)
 k_fill
 refine EV.walk (l:=PySem.Challenge.rw_evennotes_k17_places_and_stands) rfl rfl (by rfl) rfl (fun w h Y=>PySem.W.kIn_of Y) ?F
 case F =>
  intro w mg fa h KX G hmg
  refine' EV.all_mk KX G hmg ?a0 ?l0 ?c0 ?k0 ?a1 ?l1 ?c1 ?k1 ?a2 ?l2 ?c2 ?k2 ?a3 ?l3 ?c3 ?k3 ?a4 ?l4 ?c4 ?k4 ?a5 ?l5 ?c5 ?k5 ?a6 ?l6 ?c6 ?k6 ?a7 ?l7 ?c7 ?k7 ?a8 ?l8 ?c8 ?k8 ?a9 ?l9 ?c9 ?k9 ?a10 ?l10 ?c10 ?k10 ?a11 ?l11 ?c11 ?k11 ?a12 ?l12 ?c12 ?k12 ?a13 ?l13 ?c13 ?k13 ?a14 ?l14 ?c14 ?k14 ?a15 ?l15 ?c15 ?k15 ?a16 ?l16 ?c16 ?k16 ?a17 ?l17 ?c17 ?k17 ?a18 ?l18 ?c18 ?k18 ?a19 ?l19 ?c19 ?k19 ?a20 ?l20 ?c20 ?k20 ?a21 ?l21 ?c21 ?k21 ?a22 ?l22 ?c22 ?k22 ?a23 ?l23 ?c23 ?k23 ?a24 ?l24 ?c24 ?k24 ?a25 ?l25 ?c25 ?k25 ?a26 ?l26 ?c26 ?k26 ?a27 ?l27 ?c27 ?k27 ?a28 ?l28 ?c28 ?k28 ?a29 ?l29 ?c29 ?k29 ?i30 ?a30 ?l30 ?c30 ?k30 ?i31 ?a31 ?l31 ?c31 ?k31 ?i32 ?a32 ?l32 ?c32 ?k32 ?z_bool ?z_int ?z_isinstance ?z_len ?z_list ?z_range ?z_sum ?z_tuple ?z_zip ?c_SKIP ?d_SKIP ?aC ?pg ?hd ?po ?sa ?mk ?kc ?nb ?nl ?nc ?ns
  (case aC|a0|l0|c0|k0|a1|l1|c1|k1|a2|l2|c2|k2|a3|l3|c3|k3|a4|l4|c4|k4|a5|l5|c5|k5|a6|l6|c6|k6|a7|l7|c7|k7|a8|l8|c8|k8|a9|l9|c9|k9|a10|l10|c10|k10|a11|l11|c11|k11|a12|l12|c12|k12|a13|l13|c13|k13|a14|l14|c14|k14|a15|l15|c15|k15|a16|l16|c16|k16|a17|l17|c17|k17|a18|l18|c18|k18|a19|l19|c19|k19|a20|l20|c20|k20|a21|l21|c21|k21|a22|l22|c22|k22|a23|l23|c23|k23|a24|l24|c24|k24|a25|l25|c25|k25|a26|l26|c26|k26|a27|l27|c27|k27|a28|l28|c28|k28|a29|l29|c29|k29|a30|l30|c30|k30|a31|l31|c31|k31|a32|l32|c32|k32|z_bool|z_int|z_isinstance|z_len|z_list|z_range|z_sum|z_tuple|z_zip|c_SKIP|d_SKIP|pg|hd|po|sa|mk|kc|nb|nl|nc|ns|i30|i31|i32=>k_is)

